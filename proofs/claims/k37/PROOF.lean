import PyProof.Rows.All
import Wide.All
import OpenK.AllK
import Wide.FinOn
import PyProof.EqAt
import PyProof.EqKinds
import PyProof.TupleCall
import KE.KDictSum
import KE.KRevIter
import KE.KRevSl
import KE.KDictLaws
import PyProof.StrLawsFirst
import KE.LcSums
import PyProof.EnumMake
import PyProof.TupleIter
import PyProof.StationsW
import PyProof.Rows.Own
import PyProof.NsDelKeeps
import PyProof.RulesAs
import PyProof.ExcAttrAll.ValueError
import KE.KIsAll
import PyProof.ExcBaseAll.ValueError
import PyProof.Rows.FStr
import PyProof.FString
import PyProof.Rows.StrNews
import PyProof.StrLawsTight
import PyProof.StrLawsChain
import PyProof.ExcInit
import PyProof.ExcClass3
import PyProof.InstStoreFacts
import PySem.SetTable
import PySem.SetOps
import PyProof.TupleKey
import PyProof.SetKind
import PyProof.IsRules
import KE.KSortTup
import PyProof.Rows.SortRun
import PyProof.Rows.SortShell
import PyProof.DictWalks
import PyProof.DictTruth
import PyProof.NeKinds
import PyProof.Rows.TupTab
import PySem.Challenge.RW_wornband_k37_restoring_by_parts
open And renaming intro->Kp
open Array renaming getElem?_toList->CT,getElem?_eq_getElem->Dd,length_toList->Dh,getD_eq_getD_getElem?->DM,toList_append->DO,getElem?_eq_some_iff->Ep,toList_push->Ff,getD->Fg,getElem?_eq_none->FZ,toList_setIfInBounds->Gg,toList_eraseIdxIfInBounds->GW,toList_reverse->Hr,size_setIfInBounds->IA,replicate->J8,toArray_toList->Jv,forIn_toList->JY,toList_map->Kr,toList_inj->Kv,toList->M0
open Bool renaming false_ne_true->D0,false_eq_true->Dp,eq_iff_iff->FA,and_eq_true->Ha,not_true->Hh,not_eq_true'->Il,not_false->Jx,noConfusion->Ky,or_eq_true->KI,false_and->KU,and_assoc->Le
open Classical renaming byContradiction->Fy,not_forall->Ho,not_imp->Ig,not_not->Io
open False renaming elim->FW
open ForInStep renaming done->Dm,yield->Dv
open Iff renaming rfl->Jz
open Int renaming emod_lt_of_pos->DN,emod_nonneg->DW,toNat_natCast->Ea,ediv_one->M4,le_refl->Mp
open List renaming getElem?_eq_getElem->CK,getElem?_eq_some_iff->CO,getElem?_map->CS,getElem?_append_left->D3,getElem?_append_right->D4,length_map->D5,size_toArray->D7,mem_cons_self->Dc,mem_cons->De,mem_cons_of_mem->Df,append_assoc->Dg,mem_of_getElem?->Dj,mem_append_right->Dr,mem_map->Dw,mem_append->DF,getElem?_eq_none_iff->DJ,getElem?_eq_none->DK,getElem?_take_of_lt->DP,nodup_iff_pairwise_ne->DQ,map_cons->DR,range->DY,getElem?_drop->E1,getD_eq_getElem?_getD->E7,Nodup->Ec,not_mem_nil->Eg,ext_getElem?->El,getElem?_cons_succ->En,pairwise_append->Es,append_nil->Ex,drop_eq_getElem_cons->Ey,find?_cons->EG,lookup_cons->EI,getElem?_cons_zero->EJ,mem_iff_getElem->EK,map_map->EM,nodup_cons->EW,length_set->EX,pairwise_iff_getElem->EY,length_append->F0,getElem_mem->F3,mem_reverse->F4,length_cons->F5,replicate->F9,getElem?_set->Fe,getElem?_range->Fi,length_singleton->Fv,getElem?_reverse->Fw,perm_append_comm->Fx,length_zip->FC,pairwise_map->FE,filterMap_cons->FJ,length_eq_zero_iff->FN,drop_length->FP,length->FV,take_of_length_le->FY,mem_singleton->G0,mem_iff_getElem?->G6,mem_range->Gd,nodup_nil->Gj,length_erase_of_mem->Gw,of_mem_zip->Gy,nil_append->Gz,mem_filterMap->GA,set_cons_zero->GF,pairwise_singleton->GG,eraseIdx_append_of_length_le->GJ,map_nil->GO,drop_eq_nil_of_le->GR,mem_of_mem_erase->GX,length_take->H9,cons_append->Hc,any_cons->Hg,mem_append_left->Hj,length_eraseIdx->Hm,eraseIdx_set_eq->Hn,length_nil->HB,length_reverse->HC,pairwise_cons->HM,set_cons_succ->HS,getElem?_zip_eq_some->HW,mem_or_eq_of_mem_set->HY,length_range->Ih,nodup_append->Im,filterMap_cons_some->Iy,zipIdx_cons->IG,pairwise_mergeSort->IH,any_eq_true->IK,getElem?_set_self->IL,pairwise_lt_range->IY,mem_filter->J3,foldl_cons->J5,forIn_cons->J6,getElem?_zipWith->Jc,take_append_drop->Je,length_filter_le->Jl,getElem?_set_ne->Jm,drop_zero->Jr,forIn_nil->Js,map_congr_left->JB,mergeSort_perm->JC,reverse_append->JD,lookup_append->JW,reverse_cons->Kb,length_drop->Kl,all_eq_true->Ko,perm_middle->Kt,map_snd_zip->Kw,zipIdx_nil->KH,drop_drop->L6,all_cons->LI,sum_cons->LV,map_id->Mn,map->MT
open List.Nodup renaming not_mem_erase->Gv,length_le_of_subset->Hf
open List.Pairwise renaming nil->G8,map->MM
open List.Perm renaming append_right->Eb,append_left->Ei,eq_of_pairwise->Iu
open List.cons renaming injEq->Ja
open Nat renaming le_refl->CN,lt_of_lt_of_le->CW,ne_of_lt->D8,zero_le->Dl,lt_irrefl->Ee,le_trans->EF,zero_add->Fj,le_add_right->Fo,le_of_lt->Gk,lt_succ_self->Gm,sub_self->Gp,ne_of_gt->GK,lt_succ_of_lt->GQ,mod_lt->HL,add_sub_cancel->HU,le_succ->Ic,lt_trans->IT,div_div_eq_div_mul->IX,reduceAdd->JN,reduceSub->JO,le_succ_of_le->Kg,div_eq_of_lt->Kq,strongRecOn->KJ,add_assoc->LP,lt_or_ge->M5
open Ne renaming symm->Fd
open Option renaming map_eq_some_iff->Ds,map_some->G2,ne_none_iff_exists'->Gf,getD_some->Hb,isSome_iff_exists->Ip,getD_none->IE,isSome->JI,isSome_some->JU
open Option.some renaming inj->DG,injEq->Ik
open Or renaming inr->L3,inl->M1
open Prod renaming ext->HK
open PyProof.Rows renaming wpS_bind->CQ,wpS_pure->CY,Keyed->CZ,boot_isinstance->Dq,wpS_forRange->E3,callWith_type1->Ek,SortSt->EA,wpS_modify->EH,boot_list->ET,wpS_mono->FR,boot_int->G7,mem_zip_self->Gq,boot_sorted->Gx,boot_tuple->GH,wpS_get->GS,boot_bool->GV,boot_abs->GY,SortKind->Hq,AllBare->I0,wpS_lift->IJ,subscriptTail_builtinR->IP,boot_str->Jk,listUpdate_at->JK,Subscript_->JS,IntsAre->K7,callWith_builtin1->Kk,seqEpoch_at->KD,entry_list_sort->KO,size_push'->L8,slot_list_sort->La,args_list_sort->Lb,sortedHeap_old->Lc,sortedHeap_at->LS,boot_all->M8,boot_sum->Ma,tail_any->Mh,TupTab->Mr,Call_->MK
open PyProof.Rows.SortSt renaming mk'->Gi
open PySem renaming wpAny_bind->CD,wpAny_pure->CH,Value->CI,Shared->CM,Program->D6,World->Di,FuncData->Dk,Spec->Dn,sizeLine_eq->Dz,wpAny_call_entry->DA,Around->DL,wpAny_callSpecial?_slot->DT,wpAny_newObj_type->DX,wpAny_mono->DZ,SetTable->E4,boot_len->E8,wpAny_holding->E9,Builtin->Ej,mem_of_lookup->Ez,wpAny_field->EC,wpAny_setState_of->ED,wpAny_seqItems->ER,wpAny_typeNameOfWhole_keyiter->Fb,wpAny_standAt->Fm,DictEntry->Fn,wpAny_rule->Fq,wpAny_setField_rec->Ft,IsTupleKey->Fu,wpAny_passesOwn->Fz,wpAny_truthy_bool->FD,wpAny_comprehension_free->FF,wpAny_typeNameOf_keyiter->FG,NameKind->FL,wpAny_setField->FO,wpAny_askSetting->FQ,Scope->G1,wpAny_attempt->G4,wpAny_pyIter_slot->Gb,wpAny_isInstance->Gn,IsPair->GC,wpAny_pyIter_rangeiter->GL,wpAny_dictEntries->GU,wpAny_updateSeq_pair->Hl,wpAny_execs_nil->Hw,wpAny_specialOf->Hx,pushCells_keeps->Hy,wpAny_ite_split->Hz,wpAny_setEntries_of->HD,codeAny_mono->HE,wpAny_Call_Name_kw->HH,isSubtype_stop->HJ,wpAny_fieldsOf->HP,tupleKind_room_in1->HQ,wpAny_pyIter_list->Ia,slot_list_getitem->Ib,wpAny_getItem_list_slice->Iq,wpAny_onRaise->Ir,Comprehension->Iw,wpAny_eqBool_int->ID,wpAny_forIn_list->II,wpAny_pyNext_range_end->IM,Keyword->IQ,wpAny_Call_method_late->IS,Model->J4,IsZip->J7,wpAny_dictEpoch->J9,wpAny_isSame_ref_self->Jd,builtinLookup_eq_fast->Jf,wpAny_isOneOf_keyiter->Jh,wpAny_loadName_local->Jn,IsRangeIter->Jo,sliceRange_one->Jq,wpAny_of_eq->Jt,wpAny_letGo->Ju,isSubtype_type->Jw,wpAny_loadName_cell->JA,evalPart_none->JE,wpAny_handled->JG,wpAny_newList->JM,wpAny_pyIter_ascii->JV,wpAny_assign_Name->K2,BindsTo->K6,seqIndex_neg->K8,wpAny_pyIter_wide->K9,wpAny_pyIter_enum->Ka,wpAny_storeSet_of->Ke,wpAny_execs_cons->Ki,wpAny_pyIter_zip->Kn,seqIndex_of->Kz,wpAny_throw->KA,wpAny_loadPart'->KG,typeLookup_type->KL,wpAny_Name->KS,Result->KY,typeIs_str->KZ,call->L0,wpAny_newTuple->L4,entryFor_alias->L7,intBits_le_64->Lu,call_list_seq->LJ,signature?_of->LN,Draws->LW,Within->LZ,CellsOk->M3,Operator->Mf,putAt->Mo,Params->MG
open PySem.Builtin.Dict renaming showsAll->Jg,dictSlotNone->Lq,pendingCount->Lr
open PySem.Builtin.Dict_items renaming ownsTuple->HA
open PySem.Builtin.Frozenset renaming oneOther->L9,sizeOf->LO,addrOf->LQ,slot0->LX
open PySem.Builtin.List renaming listLengthHint->HF
open PySem.Builtin.Range renaming rangeFitsLong->E2,rangeSize->E6,rangeFields->HX
open PySem.Builtin.SmallTypes renaming nextOf->DU,ownedTupleIsFree->EE,ownedTupleHandOut->Gu,refuseKeywords->K1
open PySem.Builtin.Str renaming strSliceIndices->EL,tooLong->MB
open PySem.Calls renaming call_function_entry->Gr,Name_function_global->HG,spliced_cons->JR,spliced_nil->K5
open PySem.Challenge renaming rw_wornband_k37_restoring_by_parts->Et,pw_wornband_k37_restoring_by_parts->HR
open PySem.Data renaming cell->H0,fields->I9,seq->L1
open PySem.EqMixed renaming eq_bool_str->Lj,eq_str_bool->Lk,ne_bool_str->Lo,ne_str_bool->Lp,eq_int_str->Ly,eq_str_int->LA,ne_int_str->LF,ne_str_int->LH
open PySem.EqNone renaming eq_none_none->Lg,eq_none_bool->Lh,eq_bool_none->Li,ne_none_none->Ll,ne_none_bool->Lm,ne_bool_none->Ln,eq_none_int->Lv,eq_none_str->Lw,eq_int_none->Lx,eq_str_none->Lz,ne_none_int->LB,ne_none_str->LC,ne_int_none->LD,ne_str_none->LG
open PySem.F renaming slot_dict_keyiterator_next->DV,slot_tuple_iterator_next->EO,slot_dict_keyiterator_iter->Fh,slot_zip_next->G5,args_tuple_iterator_next_1->GB,entry_tuple_iterator_next->GI,args_dict_keyiterator_next_1->Hd,args_dict_keyiterator_iter_1->He,entry_dict_keyiterator_next->Hs,entry_dict_keyiterator_iter->Ht,slot_dict_getitem->HV,args_zip_next_1->IF,entry_zip_next->IU,plainAttrs_str->IW,slot_list_append->Jb,slot_dict_len->Ji,slot_range_reversed->Jj,slot_dict_iter->Kx,slot_set_iter->KN
open PySem.Heap renaming get?_push_of_some->CL,get?_push_size->CU,lt_size->CV,SameBut->DD,size_push->EN,get?_update_self->EZ,get?_update_other->GP,ExtBut->Ie,get?_push_ne->Ij,size_update->Ku
open PySem.Heap.IsSliceOf renaming new->JT
open PySem.Heap.Ns renaming new->Mm
open PySem.Heap.SameBut renaming update->Eh
open PySem.IsRange renaming new->Mg
open PySem.NameKind renaming free->Ef,cell->JF
open PySem.Obj renaming mapSeq->Fp,putSet->HN,mapFields->Iz,data_mapFields->JX
open PySem.PassesOwn renaming never->DC
open PySem.PyData renaming keyHash->Hu
open PySem.SeqAt renaming EqAt->MD
open PySem.SeqAt.EqAt renaming int_str->JP,str_int->JQ,none_bool->Mj,bool_none->Mk,bool_bool->Ml,none_int->Ms,none_str->Mt,bool_int->Mv,bool_str->Mw,int_none->Mx,int_bool->My,str_none->Mz,str_bool->MA,int_int->ME,str_str->MF,same->MS
open PySem.SeqAt.RcAt renaming lists_lengths->LU,lists->MP
open PySem.SetTable renaming leap->Du,bits->Dy,runEnd->DH,below->Ed,insertAt->Em,turns->Eo,grown->Gh,sizeAbove->GD,fill->JJ,has->Kd,fresh->Ld,slot->LK,laid->LL,fits->LM
open PySem.SetTable.below renaming go->G9
open PySem.SetTable.layClean renaming free->ES
open PySem.SetTable.probe renaming go->Ga
open PySem.Str renaming ofString->CP,length->MC
open PySem.Txt renaming find->HI,slice->Km,mul->ML
open PySem.Value renaming ref->DS,none->E5,type->GZ,int->IB,str->Kh,bool->KR,isStrOf->Ls,isInt->Mb,float->Me
open PySem.W renaming Frag->CG,nsIn->DB,mg_none_of->DE,kia_one->Ew,fnOf->F6,mg_of->F7,kitOne->F8,keepIn->FK,codeIn->Ge,cellsFrom_some->GN,OpenLaw->Hk,methodObj->HZ,instObj->IZ,lookIn->Jp,kitx_list->K3,kitx_dict->K4,looks_findIn->Kc,plainGet->Kj,looks_mroIn->KC,WalkO->KQ,findIn->KW,looks_find->L5
open PySem.W.WData renaming int->MO
open PySem.W.WShape renaming has->MH
open PySem.pickOrder renaming go->Kf
open Sum renaming inl->FH,inr->FI
open Sum.inl renaming inj->Mc
open Sum.inr renaming inj->Md
open True renaming intro->FX
set_option Elab.async false
set_option linter.all false
set_option maxRecDepth 100000
namespace L2
open PySem PySem.Spec PyProof.Rows
abbrev Key:=Sum Int Str
def fW:Key->CI->Bool
 | .inl k,v=>Mb k v
 | .inr x,v=>Ls x v
def sG(w:Di):Key->Int
 | .inl k=>hashInt k
 | .inr x=>hashStr w x
theorem bM:∀{k:Key}{v:CI},fW k v=true->(∃i t,k=FH i/\v=IB i t)\/(∃x t,k=FI x/\v=Kh x t)
 | .inl i,v,h=>by
  obtain⟨t,e⟩:=Value.isInt_shape (k:=i) (v:=v) h;exact .inl ⟨i,t,rfl,e⟩
 | .inr x,v,h=>by
  obtain⟨t,e⟩:=Value.isStrOf_shape (x:=x) (v:=v) h;exact .inr ⟨x,t,rfl,e⟩
theorem gB(i:Int)(t:Tok):fW (.inl i) (.int i t)=true:=by simp[fW,Mb]
theorem gC(x:Str)(t:Tok):fW (.inr x) (.str x t)=true:=by simp[fW,Ls]
theorem yy(a b:Int):decide ((FH a:Key)=FH b)=(a==b):=by
 by_cases e:a=b;·subst e;simp
 ·have h:¬(FH a:Key)=FH b:=fun q=>e<|Mc q;rw[decide_eq_false h];exact(beq_eq_false_iff_ne.mpr e).symm
theorem yA(a b:Str):decide ((FI a:Key)=FI b)=decide (a=b):=by
 by_cases e:a=b;·subst e;simp
 ·have h:¬(FI a:Key)=FI b:=fun q=>e<|Md q;rw[decide_eq_false h,decide_eq_false e]
theorem yB(a:Int)(b:Str):decide ((FH a:Key)=FI b)=false:=decide_eq_false (fun q=>nomatch q)
theorem yC(a:Str)(b:Int):decide ((FI a:Key)=FH b)=false:=decide_eq_false (fun q=>nomatch q)
def mixKind(prog:D6)(w:Di):PySem.KeyKind prog w Key where
 is:=fW
 hash:=sG w
 inj:=fun v a b ha hb=>by
  rcases bM ha with⟨i,t,rfl,rfl⟩|⟨x,t,rfl,rfl⟩
  ·rcases bM hb with⟨j,u,rfl,e⟩ | ⟨y,u,rfl,e⟩
   ·injection e with e1 _;rw[e1]
   ·exact nomatch e
  ·rcases bM hb with⟨j,u,rfl,e⟩ | ⟨y,u,rfl,e⟩
   ·exact nomatch e
   ·injection e with e1 _;rw[e1]
 byValue:=fun k v h=>by
  rcases bM h with⟨i,t,rfl,rfl⟩|⟨x,t,rfl,rfl⟩<;>rfl
 pyHash:=fun hv h=>by
  rcases bM hv with⟨i,t,rfl,rfl⟩|⟨x,t,rfl,rfl⟩
  ·exact wpAny_pyHash_int h
  ·exact wpAny_pyHash_str h
 eqBool:=fun hu hv h=>by
  rcases bM hu with⟨i,t,rfl,rfl⟩|⟨x,t,rfl,rfl⟩
  ·rcases bM hv with⟨j,u,rfl,rfl⟩ | ⟨y,u,rfl,rfl⟩
   ·rw[yy]at h;exact ID h
   ·rw[yB]at h;exact JP i t y u _ _ _ _ h
  ·rcases bM hv with⟨j,u,rfl,rfl⟩ | ⟨y,u,rfl,rfl⟩
   ·rw[yC]at h;exact JQ x t j u _ _ _ _ h
   ·rw[yA]at h;exact wpAny_eqBool_str h
 «strs»:=fun k x t v h=>by
  rcases bM h with⟨i,u,rfl,e⟩|⟨y,u,rfl,e⟩
  ·exact nomatch e
  ·injection e with e1 _;subst e1;cases v<;>rfl
theorem mG(prog:D6)(w:Di)(i:Int)(t:Tok):(mixKind prog w).is (.inl i) (.int i t)=true:=gB i t
theorem mH(prog:D6)(w:Di)(x:Str)(t:Tok):(mixKind prog w).is (.inr x) (.str x t)=true:=gC x t
inductive V where
 |non|bl (b:Bool)|int (i:Int)|str (x:Str)|byt (b:Array UInt8)|flt (b:UInt64)|ref (a:Addr)|ty (n:String)
 deriving DecidableEq
def RelV:V->CI->Prop
 | .non,u=>u=E5
 | .bl b,u=>u=KR b
 | .int i,u=>∃t,u=IB i t
 | .str x,u=>∃t,u=Kh x t
 | .byt b,u=>∃t,u=Value.bytes b t
 | .flt b,u=>∃t,u=Me b t
 | .ref a,u=>u=DS a
 | .ty n,u=>u=GZ n
abbrev Vals:List V->List CI->Prop:=Paired RelV
theorem Vals.length{xs:List V}{us:List CI}(r:Vals xs us):xs.length=us.length:=Paired.length r
theorem Vals.get:∀{xs:List V}{us:List CI}{i:Nat}{x:V},Vals xs us->xs[i]? =some x->∃u,us[i]? =some u/\RelV x u
 |_,_,_,_,.nil,e=>by simp at e
 |_,_,0,_,.cons r _,e=>by simp at e;subst e;exact⟨_,rfl,r⟩
 |_,_,i+1,x, .cons _ t,e=>by
  obtain⟨u,h1,h2⟩:=Vals.get (i:=i) (x:=x) t (by simpa using e);exact⟨u,by simpa using h1,h2⟩
theorem Vals.set{x:V}{u:CI}(r:RelV x u):∀{xs:List V}{us:List CI}(i:Nat),Vals xs us->Vals (xs.set i x) (us.set i u)
 |_,_,_,.nil=>.nil
 |_,_,0,.cons _ t=>.cons r t
 |_,_,i+1,.cons q t=>.cons q<|Vals.set r i t
theorem Vals.append:∀{xs ys:List V}{us ws:List CI},Vals xs us->Vals ys ws->Vals (xs++ys) (us++ws)
 |_,_,_,_,.nil,s=>s
 |_,_,_,_,.cons r t,s=>.cons r<|Vals.append t s
theorem Vals.take:∀{xs:List V}{us:List CI}(n:Nat),Vals xs us->Vals (xs.take n) (us.take n)
 |_,_,0,_=>.nil
 |_,_,_+1,.nil=>.nil
 |_,_,n+1,.cons r t=>.cons r<|Vals.take n t
theorem Vals.drop:∀{xs:List V}{us:List CI}(n:Nat),Vals xs us->Vals (xs.drop n) (us.drop n)
 |_,_,0,r=>r
 |_,_,_+1,.nil=>.nil
 |_,_,n+1,.cons _ t=>Vals.drop n t
def RelO:Option V->Option CI->Prop
 |some v,some u=>RelV v u
 |none,none=>True
 |_,_=>False
def KV{κ:Type}:List (κ×V)->List (κ×CI)->Prop:=Paired fun(p:κ×V)(q:κ×CI)=>p.1=q.1/\RelV p.2 q.2
def kV:Key->V
 | .inl i=>.int i
 | .inr x=>.str x
inductive HO where
 |lst (xs:List V)
 |tup (xs:List V)
 |dK (kvs:List (Key×V))|dT (kvs:List (List Key×V))
 |set (S:Int->Bool) (n:Nat)
 |ins (C dx:Addr) (fs:List (Str×V))
 |own (x:Addr)
 |xd (fs:List (Str×V))
 |met (f x:Addr)
 |rng (lo hi:Int)
 |frz (o:Obj) (u:HO)
 |tbl (ps:Array CI)
 |ext (φ:Heap->Prop)
abbrev Hp:=Addr->Option HO
def cI(H:Hp)(a:Addr)(o:HO):Hp:=fun b=>if b=a then some o else H b
theorem ax{H:Hp}{a:Addr}{o:HO}:cI H a o a=some o:=by unfold cI;rw[if_pos rfl]
theorem aD{H:Hp}{a b:Addr}{o:HO}(h:b≠a):cI H a o b=H b:=by unfold cI;rw[if_neg h]
theorem cn{H:Hp}{a b:Addr}{o:HO}(h:H a=some o)(h':H b=none):a≠b:=by
 intro e;subst e;rw[h]at h';cases h'
def IsTupD(h:Heap)(a:Addr)(items:Array CI):Prop:=∃o,h.get? a=some o/\(o.cls=.type "tuple"/\o.dict=none)/\∃n,o.data=.seq items n
theorem IsTupD.tup{h:Heap}{a:Addr}{items:Array CI}(t:IsTupD h a items):IsTup h a items:=let ⟨o,e,c,n,d⟩:=t;⟨o,e,c.1,n,d⟩
theorem IsTupD.new(h:Heap)(items:Array CI):IsTupD (h.push {cls:=.type "tuple",data:=.seq items}) h.objs.size items:=⟨_,CU h rfl,⟨rfl,rfl⟩,0,rfl⟩
section
variable(P:D6)(w:Di)
def ObjOk(H:Hp)(h:Heap)(a:Addr):HO->Prop
 | .lst xs=>xs.length<=sizeLine/\∃(its:List CI)(n:Nat),Vals xs its/\h.get? a=some {cls:=.type "list",data:=.seq its.toArray n}
 | .tup xs=>xs.length<=sizeLine/\∃its:List CI,Vals xs its/\IsTupD h a its.toArray
 | .dK kvs=>kvs.length<=sizeLine/\(a==sysModules)=false/\∃vs,KV kvs vs/\h.DictOf (mixKind P w) a vs
 | .dT kvs=>kvs.length<=sizeLine/\(a == sysModules)=false/\∃xs:List (List Key×Addr×CI),
   Paired (fun(p:List Key×V)(q:List Key×Addr×CI)=>p.1=q.1/\H q.2.1=some (.tup<|p.1.map kV)/\RelV p.2 q.2.2) kvs xs/\
   ∃o es ep,h.get? a=some o/\o.ExactDict/\o.data=.dict es ep/\es.toList=xs.map (entryOfKey<|tupleKind<|mixKind P w)/\(xs.map (·.1)).Nodup
 | .set S n=>h.SetOf (intKind P w) a S n
 | .ins C dx fs=>H dx=some (.own a)/\fs.length<=1000/\dx≠a/\h.get? a=some (IZ C dx)/\
   ∃mA,h.Ns1 dx mA/\(∀f,RelO (fs.lookup f)<|mA f)/\LZ mA (fs.map (·.1))
 | .own _=>∃o,h.get? a=some o
 | .xd fs=>∃mA,h.Ns1 a mA/\∀f,RelO (fs.lookup f)<|mA f
 | .rng lo hi=>∃t u v,h.get? a=some {cls:=.type "range",data:=.fields #[.int lo t,.int hi u,.int 1 v]}
 | .frz o u=>h.get? a=some o/\ObjOk H h a u
 | .tbl ps=>h.get? a=some {cls:=.none,data:=.fields ps}
 | .met f x=>h.get? a=some (HZ (.ref f)<|.ref x)
 | .ext φ=>φ h/\(∃o,h.get? a=some o)/\∀h1 h2:Heap,φ h1->(∀o,h1.get? a=some o->h2.get? a=some o)->φ h2
def HOk(H:Hp)(h:Heap):Prop:=∀a o,H a=some o->ObjOk P w H h a o
end
section
variable{P:D6}{w:Di}{H H':Hp}{h h':Heap}{a:Addr}{o:HO}
theorem ObjOk.lt(x:ObjOk P w H h a o):a<h.objs.size:=by
 cases o with
 |lst xs=>obtain⟨_,_,_,_,e⟩:=x;exact CV e
 |tup xs=>obtain⟨_,_,_,p⟩:=x;exact p.tup.lt
 |dK kvs=>obtain⟨_,_,_,_,o,_,_,e,_⟩:=x;exact CV e
 |dT kvs=>obtain⟨_,_,_,_,o,_,_,e,_⟩:=x;exact CV e
 |set S n=>obtain⟨o,_,_,_,e,_⟩:=x;exact CV e
 |ins C dx fs=>obtain⟨_,_,_,e,_⟩:=x;exact CV e
 |own y=>obtain⟨_,e⟩:=x;exact CV e
 |xd fs=>obtain⟨_,⟨_,_,_,e,_⟩,_⟩:=x;exact CV e
 |rng lo hi=>obtain⟨_,_,_,e⟩:=x;exact CV e
 |frz ob u=>obtain⟨e,_⟩:=x;exact CV e
 |tbl ps=>exact CV (show h.get? a=some _ from x)
 |met f y=>exact CV (show h.get? a=some _ from x)
 |ext φ=>obtain⟨_,⟨_,e⟩,_⟩:=x;exact CV e
theorem Paired.mapP{α β:Type}{F G:α->β->Prop}:∀{l₁:List α}{l₂:List β},Paired F l₁ l₂->(∀a b,F a b->G a b)->Paired G l₁ l₂
 |_,_,.nil,_=>.nil
 |_,_,.cons r t,f=>.cons (f _ _ r)<|Paired.mapP t f
theorem ObjOk.stay(x:ObjOk P w H h a o)(k:∀b u,(b=a\/H b=some (.own a))->h.get? b=some u->h'.get? b=some u)
  (ho:∀b,H b=some (.own a)->H' b=some (.own a)) (ht:∀b xs,H b=some (.tup xs)->H' b=some (.tup xs)):ObjOk P w H' h' a o:=by
 induction o with
 |lst xs=>obtain⟨z,its,n,r,e⟩:=x;exact⟨z,its,n,r,k _ _ (.inl rfl) e⟩
 |tup xs=>obtain⟨z,its,r,ob,e,c⟩:=x;exact⟨z,its,r,ob,k _ _ (.inl rfl) e,c⟩
 |dK kvs=>obtain⟨z,y,vs,r,ob,es,ep,e,c⟩:=x;exact⟨z,y,vs,r,ob,es,ep,k _ _ (.inl rfl) e,c⟩
 |dT kvs=>
  obtain⟨z,y,xs,r,ob,es,ep,e,c⟩:=x;exact⟨z,y,xs,Paired.mapP r fun p q z=>⟨z.1,ht _ _ z.2.1,z.2.2⟩,ob,es,ep,k _ _ (.inl rfl) e,c⟩
 |set S n=>obtain⟨ob,es,ep,t,e,c⟩:=x;exact⟨ob,es,ep,t,k _ _ (.inl rfl) e,c⟩
 |ins C dx fs=>
  obtain⟨d,z,ne,e,mA,⟨od,es,ep,e2,c⟩,r⟩:=x;exact⟨ho _ d,z,ne,k _ _ (.inl rfl) e,mA,⟨od,es,ep,k _ _ (.inr d) e2,c⟩,r⟩
 |own y=>obtain⟨ob,e⟩:=x;exact⟨ob,k _ _ (.inl rfl) e⟩
 |xd fs=>obtain⟨mA,⟨od,es,ep,e,c⟩,r⟩:=x;exact⟨mA,⟨od,es,ep,k _ _ (.inl rfl) e,c⟩,r⟩
 |rng lo hi=>obtain⟨t,u,v,e⟩:=x;exact⟨t,u,v,k _ _ (.inl rfl) e⟩
 |frz ob u ih=>obtain⟨e,q⟩:=x;exact⟨k _ _ (.inl rfl) e,ih q⟩
 |tbl ps=>
  have e:h.get? a=some {cls:=.none,data:=.fields ps}:=x;show h'.get? a=some {cls:=.none,data:=.fields ps};exact k a _ (.inl rfl) e
 |met f y=>
  have e:h.get? a=some (HZ (.ref f)<|.ref y):=x;show h'.get? a=some (HZ (.ref f)<|.ref y);exact k a _ (.inl rfl) e
 |ext φ=>obtain⟨p,⟨o,e⟩,st⟩:=x;exact⟨st _ _ p fun o q=>k _ _ (.inl rfl) q,⟨o,k _ _ (.inl rfl) e⟩,st⟩
theorem HOk.lt(x:HOk P w H h)(e:H a=some o):a<h.objs.size:=(x a o e).lt
theorem HOk.fresh(x:HOk P w H h)(e:h.objs.size<=a):H a=none:=by
 cases q:H a with
 |none=>rfl
 |some u=>exact absurd (CW (x.lt q) e)<|Ee _
theorem HOk.kept(x:HOk P w H h)(k:∀b u,h.get? b=some u->h'.get? b=some u):HOk P w H h':=fun a o e=>
 (x a o e).stay (fun b u _ q=>k b u q) (fun _ q=>q) fun _ _ q=>q
theorem HOk.laid(x:HOk P w H h)(k:∀b u,h.get? b=some u->h'.get? b=some u)(hp:h.objs.size<=a)(new:ObjOk P w (cI H a o) h' a o):HOk P w (cI H a o) h':=fun b u e=>by
 have hn:=x.fresh hp;by_cases hb:b=a;·subst hb;rw[ax]at e;cases e;exact new
 ·rw[aD hb]at e;exact(x b u e).stay (fun c v _ q=>k c v q) (fun c q=>by rw[aD<|cn q hn];exact q) fun c xs q=>by rw[aD<|cn q hn];exact q
end
def Rd(H:Hp)(a:Addr)(u:HO):Prop:=H a=some u\/∃o,H a=some (.frz o u)
theorem Rd.ok{P:D6}{w:Di}{H:Hp}{h:Heap}{a:Addr}{u:HO}(r:Rd H a u)(x:HOk P w H h):ObjOk P w H h a u:=by
 rcases r with r|⟨o,r⟩
 ·exact x a u r
 ·obtain⟨_,q⟩:=x a _ r;exact q
def zX:Option HO->Prop
 |some (.lst _)=>True
 |some (.dK _)=>True
 |some (.dT _)=>True
 |some (.set _ _)=>True
 |some (.ins _ _ _)=>True
 |some (.ext _)=>True
 |_=>False
section
variable{P:D6}{w:Di}{H:Hp}{h h':Heap}{x e:Addr}{o':HO}
theorem HOk.write(ok:HOk P w H h)(mu:zX (H x))(he:e=x\/H e=some (.own x))(k:∀b u,b≠e->h.get? b=some u->h'.get? b=some u)(heo:∃u,h'.get? e=some u)
  (new:ObjOk P w (cI H x o') h' x o'):HOk P w (cI H x o') h':=fun b u q=>by
 have nown:∀c y,H c=some (.own y)->c≠x:=fun c y r z=>by subst z;rw[r]at mu;exact mu
 have ntup:∀c xs,H c=some (.tup xs)->c≠x:=fun c xs r z=>by subst z;rw[r]at mu;exact mu
 by_cases hb:b=x;·subst hb;rw[ax]at q;cases q;exact new
 ·rw[aD hb]at q;by_cases hbe:b=e
  ·have q':H b=some (.own x):=by
    rcases he with z|z;·exact absurd (hbe.trans z) hb
    ·rw[hbe];exact z
   rw[q]at q';cases q';obtain⟨v,hv⟩:=heo;exact⟨v,by rw[hbe];exact hv⟩
  ·refine(ok b u q).stay (fun c v hc r=>k c v ?_ r) (fun c r=>by rw[aD<|nown c b r];exact r) fun c xs r=>by rw[aD<|ntup c xs r];exact r
   rcases hc with rfl|hc;·exact hbe
   ·rintro rfl;rcases he with z|z;·exact nown c b hc z
    ·rw[hc]at z;cases z;exact hb rfl
end
structure Un(fs ex:List Addr)(H H':Hp)(h h':Heap):Prop where
 keep:∀b o,h.get? b=some o->H b=none->b∉fs->b∉ex->h'.get? b=some o
 slot:∀b o,h.get? b=some o->H b=none->b∈fs->b∉ex->∃sl,h'.get? b=some {o with slots:=sl}
 free:∀b o,h.get? b=some o->H b=none->b∉ex->H' b=none
 there:∀b o,h.get? b=some o->b∉ex->∃o',h'.get? b=some o'
 tups:∀b xs,H b=some (.tup xs)->H' b=some (.tup xs)
 frzs:∀b o u,H b=some (.frz o u)->H' b=some (.frz o u)
 tbls:∀b ps,H b=some (.tbl ps)->∃more,H' b=some (.tbl<|ps++more)
section
variable{fs fs' ex ex':List Addr}{H H1 H2:Hp}{h h1 h2 h':Heap}{a x e:Addr}{o:HO}
theorem Un.any(u:Un fs ex H H1 h h1){b:Addr}{ob:Obj}(q:h.get? b=some ob)(n:H b=none)(hx:b∉ex):∃sl,h1.get? b=some {ob with slots:=sl}:=by
 by_cases hb:b∈fs;·exact u.slot b ob q n hb hx
 ·exact⟨ob.slots,u.keep b ob q n hb hx⟩
theorem Un.kept(k:∀b u,h.get? b=some u->h'.get? b=some u):Un fs ex H H h h':=
 ⟨fun b ob q _ _ _=>k b ob q,fun b ob q _ _ _=>⟨ob.slots,k b ob q⟩,fun _ _ _ n _=>n,fun b ob q _=>⟨ob,k b ob q⟩,fun _ _ q=>q,fun _ _ _ q=>q,fun _ ps q=>⟨#[],by rw[q];simp⟩⟩
theorem Un.refl:Un fs ex H H h h:=Un.kept fun _ _ q=>q
theorem Un.laid(k:∀b u,h.get? b=some u->h'.get? b=some u)(hp:h.objs.size<=a)(hn:H a=none):Un fs ex H (cI H a o) h h' where
 keep:=fun b u q _ _ _=>k b u q
 slot:=fun b u q _ _ _=>⟨u.slots,k b u q⟩
 free:=fun b u q n _=>by rw[aD<|D8<|CW (CV q) hp];exact n
 there:=fun b u q _=>⟨u,k b u q⟩
 tups:=fun b xs q=>by rw[aD<|cn q hn];exact q
 frzs:=fun b u xs q=>by rw[aD<|cn q hn];exact q
 tbls:=fun b ps q=>⟨#[],by rw[aD<|cn q hn,q];simp⟩
theorem Un.write(mu:zX (H x))(he:e=x\/H e=some (.own x))(k:∀b u,b≠e->h.get? b=some u->h'.get? b=some u)(heo:∃u,h'.get? e=some u):Un fs ex H (cI H x o) h h':=by
 have hx:∀b,H b=none->b≠x:=fun b n z=>by subst z;rw[n]at mu;exact mu
 have hb:∀b,H b=none->b≠e:=fun b n z=>by
  subst z;rcases he with r|r
  ·exact hx b n r
  ·rw[n]at r;cases r
 have hm:∀b u,H b=some u->¬zX (some u)->b≠x:=fun b u q nm z=>by subst z;rw[q]at mu;exact nm mu
 refine⟨fun b u q n _ _=>k b u (hb b n) q,fun b u q n _ _=>⟨u.slots,k b u (hb b n) q⟩,fun b u q n _=>by rw[aD<|hx b n];exact n,fun b u q _=>?_,
  fun b xs q=>by rw[aD (hm b _ q fun z=>z)];exact q,fun b u xs q=>by rw[aD (hm b _ q fun z=>z)];exact q,fun b ps q=>⟨#[],by rw[aD (hm b _ q fun z=>z),q];simp⟩⟩
 by_cases hbe:b=e;·subst hbe;exact heo
 ·exact⟨u,k b u hbe q⟩
end
def jq(h:Heap)(H:Hp):List Addr:=(DY h.objs.size).filter fun a=>(H a).isSome
def lB(h:Heap)(H:Hp):Heap:=PySem.W.hideAll h<|jq h H
theorem qS(h:Heap)(H:Hp):(lB h H).objs.size=h.objs.size:=PySem.W.hideAll_size _ _
theorem sH{h:Heap}{H:Hp}{b:Addr}{o:Obj}(e:h.get? b=some o)(n:H b=none):(lB h H).get? b=some o:=
 PySem.W.hideAll_get _ e fun hm=>by
  have q:(H b).isSome=true:=(J3.mp hm).2;rw[n]at q;simp at q
theorem wb{h:Heap}{H:Hp}{b:Addr}{o:Obj}(e:(lB h H).get? b=some o):h.get? b=some o/\H b=none:=by
 have e':h.get? b=some o:=PySem.W.of_hideAll (jq h H) e;refine⟨e',?_⟩;cases q:H b with
 |none=>rfl
 |some x=>
  have hm:b∈jq h H:=J3.mpr ⟨Gd.mpr<|CV e',by simp[q]⟩;have z:(lB h H).get? b=none:=PySem.W.hideAll_none (jq h H) hm;rw[z]at e;cases e
structure Mod(K:CG)(mg:Str->Option CI)(base:Heap):Prop where
 kin:K.In base
 glob:base.Ns mainGlobals mg
 blt:∃mb,base.Ns builtinsNs mb/\∀x:Str,x≠"__name__"->mb x=bootBuiltins x
 nolimit:base.NoLimit
structure Cx where
 prog:D6
 w:Di
 K:CG
 mg:Str->Option CI
 base:Heap
 A:DL
 N:List Str
 s₀:CM
 H₀:Hp
 env:Env
 outer:List Env
 stack:List Env
 ex:List Addr
 fn:Str->Bool
 calm:Bool
 pn:List (Addr×Obj)
 xe:CI->CM->Prop
def frs(l:List Env):List Addr:=l.filterMap (·.frame)
abbrev Cx.fs(X:Cx):List Addr:=frs X.outer
def Vis(sc:G1)(x:Str):Prop:=sc.names.lookup x=some .local\/sc.names.lookup x=some .cell\/sc.names.lookup x=some .free
def yb(sc:G1)(x:Str):Prop:=sc.names.lookup x=some .local\/sc.names.lookup x=some .cell
def Look(env:Env)(h:Heap)(m:Str->Option CI)(x:Str)(u:CI):Prop:=
 (env.kindOf x=some .local/\m x=some u)\/((env.kindOf x=some .cell\/env.kindOf x=some .free)/\∃c,env.cells.lookup x=some c/\h.IsCell c (some u))
structure Cx.Ok(X:Cx):Prop where
 mod:Mod X.K X.mg X.base
 kind:X.env.scope.kind=.function
 glob:X.env.globals=mainGlobals
 blt:X.env.builtins=builtinsNs
 above:X.s₀.heap.objs.size<=X.env.locals
 inj:∀x y c,X.env.cells.lookup x=some c->X.env.cells.lookup y=some c->x=y
 has:∀x,(X.env.kindOf x=some .cell\/X.env.kindOf x=some .free)->∃c,X.env.cells.lookup x=some c
 cab:∀x c,X.fn x=true->X.env.cells.lookup x=some c->X.s₀.heap.objs.size<=c
 hd:X.calm=true->X.A.handled=none
 frames:X.A.frames=some X.stack
 stk:X.stack=X.outer\/(X.stack=X.env::X.outer/\X.env.frame=some X.env.locals)
 exf:∀b∈X.ex,b≠X.env.locals/\∀x c,X.env.cells.lookup x=some c->c≠b
 bs:∀b o,X.base.get? b=some o->X.s₀.heap.get? b=some o/\X.H₀ b=none
 bsz:X.base.objs.size<=X.s₀.heap.objs.size
 noex:∀b o,X.base.get? b=some o->b∉X.ex
 exfs:∀b∈X.ex,b∉X.fs
 funs:X.s₀.heap.FunFrames X.base X.outer
 frf:∀b∈X.fs,X.H₀ b=none
structure Inv(X:Cx)(pins:List (Addr×Obj))(σ:List (Option V))(H:Hp)(s:CM):Prop where
 ok:X.Ok
 os:s.os=X.s₀.os
 bare:I0 s.gens
 base:Un X.fs X.ex X.H₀ H X.s₀.heap s.heap
 loc:∃m,s.heap.Ns X.env.locals m/\∀(i:Nat)(x:Str)(v:V),X.N[i]? =some x->σ[i]? =some (some v)->Vis X.env.scope x->∃u,RelV v u/\Look X.env s.heap m x u
 cell:∀x c,X.env.cells.lookup x=some c->∃v,s.heap.IsCell c v
 free:H X.env.locals=none
 freeC:∀x c,X.env.cells.lookup x=some c->H c=none
 pin:∀p∈X.pn++pins,s.heap.get? p.1=some p.2/\H p.1=none/\p.1≠X.env.locals/\p.1∉X.fs/\∀v,p.2.data≠.cell v
 hok:HOk X.prog X.w H s.heap
 len:σ.length=X.N.length
section
variable{X:Cx}{pins:List (Addr×Obj)}{σ:List (Option V)}{H H':Hp}{s:CM}{h':Heap}
theorem Cx.Ok.nofr(ok:X.Ok){b:Addr}{o:Obj}(e:X.base.get? b=some o):b∉X.fs:=fun hb=>by
 have:=(ok.funs.mem hb).1;rw[e]at this;cases this
theorem Inv.bs(I:Inv X pins σ H s):∀b o,X.base.get? b=some o->s.heap.get? b=some o/\H b=none:=fun b o e=>
 ⟨I.base.keep b o (I.ok.bs b o e).1 (I.ok.bs b o e).2 (I.ok.nofr e) (I.ok.noex b o e),I.base.free b o (I.ok.bs b o e).1 (I.ok.bs b o e).2 (I.ok.noex b o e)⟩
theorem Inv.bk(I:Inv X pins σ H s):∀b o,X.base.get? b=some o->s.heap.get? b=some o:=fun b o e=>(I.bs b o e).1
theorem Inv.mod(I:Inv X pins σ H s):Mod X.K X.mg X.base:=I.ok.mod
theorem Inv.kIn(I:Inv X pins σ H s):X.K.In s.heap:=I.ok.mod.kin.keeps I.bk
theorem Inv.lt(I:Inv X pins σ H s):X.env.locals<s.heap.objs.size:=let ⟨_,hn,_⟩:=I.loc;hn.lt
theorem Inv.sz(I:Inv X pins σ H s):X.s₀.heap.objs.size<=s.heap.objs.size:=EF I.ok.above<|Gk I.lt
theorem Inv.nofs(I:Inv X pins σ H s){a:Addr}(h:s.heap.objs.size<=a):a∉X.fs:=fun hb=>by
 obtain⟨_,o,ho,_⟩:=I.ok.funs.mem hb;exact absurd (CW (CV ho)<|EF I.sz h)<|Ee _
theorem Inv.cne(I:Inv X pins σ H s):∀x c,X.env.cells.lookup x=some c->c≠X.env.locals:=fun x c e z=>by
 obtain⟨v,o,ho,hd⟩:=I.cell x c e;obtain⟨m,⟨o',es,ep,ho',hd',_⟩,_⟩:=I.loc;rw[z,ho']at ho;cases ho;rw[hd']at hd;cases hd
theorem Inv.funs(I:Inv X pins σ H s):s.heap.FunFrames X.base X.outer:=by
 have all:∀(l:List Env),(∀b∈frs l,b∈X.fs)->X.s₀.heap.FunFrames X.base l->s.heap.FunFrames X.base l:=by
  intro l
  induction l with
  |nil=>intro _ _;trivial
  |cons env r ih=>
   intro hs hl;obtain⟨hk,⟨L,o,hf,hn,ho,hd⟩,hr⟩:=hl;have hL:L∈X.fs:=hs L (by unfold frs;rw[FJ,hf];exact Dc);obtain⟨sl,e⟩:=I.base.slot L o ho (I.ok.frf L hL) hL fun z=>I.ok.exfs L z hL;exact⟨hk,⟨L,_,hf,hn,e,hd⟩,ih (fun b hb=>hs b (by unfold frs;rw[FJ,hf];exact Df _ hb)) hr⟩
 exact all X.outer (fun _ hb=>hb) I.ok.funs
theorem Inv.stack(I:Inv X pins σ H s):s.heap.FunFrames X.base X.stack:=by
 rcases I.ok.stk with e|⟨e,hf⟩
 ·rw[e];exact I.funs
 ·rw[e];obtain⟨m,hn,_⟩:=I.loc;refine .cons (by rw[I.ok.kind];decide) hf hn ?_ I.funs;exact Heap.get?_none_of_le<|EF I.ok.bsz I.ok.above
theorem Inv.stkSub(I:Inv X pins σ H s):∀b∈frs X.stack,b∈X.env.locals::X.fs:=fun b hb=>by
 rcases I.ok.stk with e|⟨e,hf⟩
 ·rw[e]at hb;exact Df _ hb
 ·rw[e]at hb;unfold frs at hb;rw[FJ,hf]at hb;exact hb
theorem Inv.stkFree(I:Inv X pins σ H s):∀b∈frs X.stack,H b=none:=fun b hb=>by
 rcases De.mp (I.stkSub b hb)with e|hb;·rw[e];exact I.free
 ·obtain⟨_,o,ho,_⟩:=I.ok.funs.mem hb;exact I.base.free b o ho (I.ok.frf b hb) fun z=>I.ok.exfs b z hb
theorem Inv.step{g':Array GenState}{t':Nat}{d':Drawn}{ch:List Addr}(I:Inv X pins σ H s)
  (hch:∀b∈ch,(b∈X.ex\/X.s₀.heap.objs.size<=b)/\b≠X.env.locals/\(∀x c,X.env.cells.lookup x=some c->c≠b)/\∀p∈X.pn++pins,p.1≠b)
  (keep:∀b o,b≠X.env.locals->b∉X.fs->b∉ch->s.heap.get? b=some o->H b=none->h'.get? b=some o)
  (slot:∀b o,b≠X.env.locals->b∈X.fs->b∉ch->s.heap.get? b=some o->H b=none->∃sl,h'.get? b=some {o with slots:=sl}) (free:∀b o,b∉ch->s.heap.get? b=some o->H b=none->H' b=none)
  (there:∀b o,b∉ch->s.heap.get? b=some o->∃o',h'.get? b=some o')
  (tups:∀b xs,H b=some (.tup xs)->H' b=some (.tup xs)) (frzs:∀b o u,H b=some (.frz o u)->H' b=some (.frz o u)) (tbls:∀b ps,H b=some (.tbl ps)->∃more,H' b=some (.tbl<|ps++more))
  (ns:∀m,s.heap.Ns X.env.locals m->h'.Ns X.env.locals m) (hok:HOk X.prog X.w H' h') (hg:I0 g'):
  Inv X pins σ H' {s with heap:=h',gens:=g',drawn:=d',toks:=t'}:=by
 have neL:∀b o,X.s₀.heap.get? b=some o->b≠X.env.locals:=fun b o e=>D8<|CW (CV e) I.ok.above;have neC:∀b o,X.s₀.heap.get? b=some o->b∉X.ex->b∉ch:=fun b o e hx hb=>by
  rcases (hch b hb).1 with z|z;·exact hx z
  ·exact absurd (CW (CV e) z)<|Ee _
 have cellK:∀x c,X.env.cells.lookup x=some c->∀v,s.heap.IsCell c v->h'.IsCell c v:=fun x c e v⟨o,ho,hd⟩=>by
  have nch:c∉ch:=fun z=>(hch c z).2.2.1 x c e rfl;by_cases hc:c∈X.fs
  ·obtain⟨sl,q⟩:=slot c o (I.cne x c e) hc nch ho<|I.freeC x c e;exact⟨_,q,hd⟩
  ·exact⟨o,keep c o (I.cne x c e) hc nch ho<|I.freeC x c e,hd⟩
 refine⟨I.ok,I.os,hg,⟨fun b o e n hb hx=>?_,fun b o e n hb hx=>?_,fun b o e n hx=>?_,fun b o e hx=>?_,fun b xs e=>tups b xs<|I.base.tups b xs e,fun b o xs e=>frzs b o xs<|I.base.frzs b o xs e,fun b ps e=>?_⟩,?_,fun x c e=>?_,?_,fun x c e=>?_,fun p hp=>?_,hok,I.len⟩;·exact keep b o (neL b o e) hb (neC b o e hx) (I.base.keep b o e n hb hx)<|I.base.free b o e n hx
 ·obtain⟨sl,e1⟩:=I.base.slot b o e n hb hx;obtain⟨sl',e2⟩:=slot b _ (neL b o e) hb (neC b o e hx) e1<|I.base.free b o e n hx;exact⟨sl',e2⟩
 ·obtain⟨o',e1⟩:=I.base.there b o e hx;exact free b o' (neC b o e hx) e1<|I.base.free b o e n hx
 ·obtain⟨o',e1⟩:=I.base.there b o e hx;exact there b o' (neC b o e hx) e1
 ·obtain⟨m1,e1⟩:=I.base.tbls b ps e;obtain⟨m2,e2⟩:=tbls b _ e1;exact⟨m1++m2,by rw[e2,Array.append_assoc]⟩
 ·obtain⟨m,hn,hl⟩:=I.loc;refine⟨m,ns m hn,fun i x v e1 e2 e3=>?_⟩;obtain⟨u,r,l⟩:=hl i x v e1 e2 e3;refine⟨u,r,?_⟩;rcases l with l|⟨k,c,e,z⟩
  ·exact .inl l
  ·exact .inr ⟨k,c,e,cellK x c e _ z⟩
 ·obtain⟨v,z⟩:=I.cell x c e;exact⟨v,cellK x c e v z⟩
 ·obtain⟨m,⟨o,_,_,ho,_⟩,_⟩:=I.loc;exact free _ o (fun z=>(hch _ z).2.1 rfl) ho I.free
 ·obtain⟨v,o,ho,hd⟩:=I.cell x c e;exact free c o (fun z=>(hch c z).2.2.1 x c e rfl) ho<|I.freeC x c e
 ·obtain⟨e,n,ne,nf,d⟩:=I.pin p hp;have nch:p.1∉ch:=fun z=>(hch p.1 z).2.2.2 p hp rfl;exact⟨keep p.1 p.2 ne nf nch e n,free p.1 p.2 nch e n,ne,nf,d⟩
theorem Inv.un{t':Nat}(I:Inv X pins σ H s)(u:Un X.fs [] H H' s.heap h')(hok:HOk X.prog X.w H' h'):Inv X pins σ H' {s with heap:=h',toks:=t'}:=by
 obtain⟨m,⟨o,es,ep,ho,r⟩,_⟩:=id I.loc;obtain⟨sl,hL⟩:=u.any ho I.free (by simp);exact I.step (g':=s.gens) (d':=s.drawn) (ch:=[]) (fun _ z=>nomatch z) (fun b o _ hb _ e n=>u.keep b o e n hb (by simp)) (fun b o _ hb _ e n=>u.slot b o e n hb (by simp)) (fun b o _ e n=>u.free b o e n (by simp)) (fun b o _ e=>u.there b o e (by simp)) u.tups u.frzs u.tbls (fun m' hm=>by
  obtain⟨o',es',ep',ho',r'⟩:=hm;rw[ho]at ho';cases ho';exact⟨_,es',ep',hL,r'⟩) hok I.bare
theorem Inv.call{g':Array GenState}{t':Nat}{d':Drawn}{ch:List Addr}(I:Inv X pins σ H s)(u:Un (frs X.stack) ch H H' s.heap h')(hok:HOk X.prog X.w H' h')(hg:I0 g')
  (hch:∀b∈ch,(b∈X.ex\/X.s₀.heap.objs.size<=b)/\b≠X.env.locals/\(∀x c,X.env.cells.lookup x=some c->c≠b)/\∀p∈X.pn++pins,p.1≠b):
  Inv X pins σ H' {s with heap:=h',gens:=g',drawn:=d',toks:=t'}:=by
 obtain⟨m,⟨o,es,ep,ho,r⟩,_⟩:=id I.loc;obtain⟨sl,hL⟩:=u.any ho I.free fun z=>(hch _ z).2.1 rfl;exact I.step (ch:=ch) hch (fun b o hL hb hc e n=>u.keep b o e n (fun z=>(De.mp<|I.stkSub b z).elim hL hb) hc) (fun b o _ _ hc e n=>u.any e n hc) (fun b o hc e n=>u.free b o e n hc) (fun b o hc e=>u.there b o e hc) u.tups u.frzs u.tbls (fun m' hm=>by
  obtain⟨o',es',ep',ho',r'⟩:=hm;rw[ho]at ho';cases ho';exact⟨_,es',ep',hL,r'⟩) hok hg
theorem Inv.turned{t':Nat}{it:Addr}(I:Inv X pins σ H s)(k:∀b o,b≠it->s.heap.get? b=some o->h'.get? b=some o)(hn:H it=none)(hL:it≠X.env.locals)
  (h1:it∈X.ex\/X.s₀.heap.objs.size<=it) (h2:∀x c,X.env.cells.lookup x=some c->c≠it) (h3:∀p∈X.pn++pins,p.1≠it):Inv X pins σ H {s with heap:=h',toks:=t'}:=by
 have nit:∀b u,H b=some u->b≠it:=fun b u e z=>by rw[z,hn]at e;cases e
 refine I.step (g':=s.gens) (d':=s.drawn) (ch:=[it]) (fun b hb=>?_) (fun b o _ _ hc e _=>k b o (fun z=>hc (by simp[z])) e) (fun b o _ _ hc e _=>⟨o.slots,k b o (fun z=>hc (by simp[z])) e⟩) (fun _ _ _ _ n=>n)
  (fun b o hc e=>⟨o,k b o (fun z=>hc (by simp[z])) e⟩) (fun _ _ e=>e) (fun _ _ _ e=>e) (fun b ps e=>⟨#[],by rw[e];simp⟩) (fun m hm=>?_) (fun b u e=>?_) I.bare
 ·have e:b=it:=by simpa using hb
  subst e;exact⟨h1,hL,h2,h3⟩
 ·obtain⟨o,es,ep,ho,r⟩:=hm;exact⟨o,es,ep,k _ o (Fd hL) ho,r⟩
 ·refine(I.hok b u e).stay (fun c v hc q=>k c v ?_ q) (fun _ q=>q) fun _ _ q=>q;rcases hc with z|z
  ·rw[z];exact nit b u e
  ·exact nit c _ z
theorem Inv.tok(I:Inv X pins σ H s)(t:Nat):Inv X pins σ H {s with toks:=t}:=I.un (h':=s.heap) (t':=t) Un.refl I.hok
theorem Inv.kept{t':Nat}(I:Inv X pins σ H s)(k:∀b u,s.heap.get? b=some u->h'.get? b=some u):Inv X pins σ H {s with heap:=h',toks:=t'}:=I.un (Un.kept k)<|I.hok.kept k
theorem Inv.laid{a:Addr}{o:HO}{t':Nat}(I:Inv X pins σ H s)(k:∀b u,s.heap.get? b=some u->h'.get? b=some u)(hp:s.heap.objs.size<=a)(new:ObjOk X.prog X.w (cI H a o) h' a o):
  Inv X pins σ (cI H a o) {s with heap:=h',toks:=t'}:=I.un (Un.laid k hp<|I.hok.fresh hp)<|I.hok.laid k hp new
theorem Inv.write{x e:Addr}{o:HO}{t':Nat}(I:Inv X pins σ H s)(mu:zX (H x))(he:e=x\/H e=some (.own x))(k:∀b u,b≠e->s.heap.get? b=some u->h'.get? b=some u)(heo:∃u,h'.get? e=some u)
  (new:ObjOk X.prog X.w (cI H x o) h' x o):Inv X pins σ (cI H x o) {s with heap:=h',toks:=t'}:=I.un (Un.write mu he k heo)<|I.hok.write mu he k heo new
theorem Inv.weak{σ':List (Option V)}(I:Inv X pins σ H s)(hl:σ'.length=σ.length)(w:∀(i:Nat)v,σ'[i]? =some (some v)->σ[i]? =some (some v)):Inv X pins σ' H s:=
 ⟨I.ok,I.os,I.bare,I.base,let ⟨m,hn,hl'⟩:=I.loc;⟨m,hn,fun i x v e1 e2 e3=>hl' i x v e1 (w i v e2) e3⟩,I.cell,I.free,I.freeC,I.pin,I.hok,hl.trans I.len⟩
theorem Inv.pins_of{pins':List (Addr×Obj)}(I:Inv X pins σ H s)(h:∀p∈pins',s.heap.get? p.1=some p.2/\H p.1=none/\p.1≠X.env.locals/\p.1∉X.fs/\∀v,p.2.data≠.cell v):Inv X pins' σ H s:=
 ⟨I.ok,I.os,I.bare,I.base,I.loc,I.cell,I.free,I.freeC,fun p hp=>(DF.mp hp).elim (fun z=>I.pin p<|Hj _ z) (h p),I.hok,I.len⟩
theorem mI{N:List Str}(hN:N.Nodup){i j:Nat}{x:Str}(a:N[i]? =some x)(b:N[j]? =some x):i=j:=by
 obtain⟨h1,e1⟩:=CO.mp a;obtain⟨h2,e2⟩:=CO.mp b;exact(List.getElem_inj hN).mp (e1.trans e2.symm)
theorem kO{M:J4}{A:DL}{E:CI->CM->Prop}{i:Nat}{x:Str}{v:V}{u:CI}{Q:Unit->CM->Prop}(I:Inv X pins σ H s)(hN:X.N.Nodup)(hi:X.N[i]? =some x)(hx:yb X.env.scope x)(r:RelV v u)
  (h:∀s',Inv X pins (σ.set i<|some v) H s'->(∃a,DD a s.heap s'.heap/\(a=X.env.locals\/X.env.cells.lookup x=some a))->Q () s') (hf:X.fn x=true\/X.env.scope.names.lookup x=some .local:=by first|exact .inl rfl|exact .inr rfl|assumption):wpAny M A (storeName X.env x u) Q E s:=by
 obtain⟨m,hn,hl⟩:=id I.loc;have hcls:(X.env.scope.kind== .class||(X.env.scope.kind== .module&&X.env.locals != X.env.globals))=false:=by rw[I.ok.kind];rfl
 have hiσ:i<σ.length:=by rw[I.len];exact(CO.mp hi).1
 have cne:=I.cne;have tracked:∀{a:Addr}{h':Heap},(∃o,s.heap.get? a=some o/\H a=none)->DD a s.heap h'->HOk X.prog X.w H h':=fun{a h'}ha hs b ob e=>by
  obtain⟨_,_,hfree⟩:=ha;refine(I.hok b ob e).stay (fun c w' hc q=>(hs.2 c ?_).trans q) (fun _ q=>q) fun _ _ q=>q;rintro rfl;rcases hc with rfl|hc
  ·rw[hfree]at e;cases e
  ·rw[hfree]at hc;cases hc
 rcases hx with hk|hk
 ·refine wpAny_storeName_local hk hn (fun h' hn' hs=>?_) hcls;obtain⟨oL,_,_,hoL,_⟩:=id hn;refine h _ ⟨I.ok,I.os,I.bare,⟨fun b o e n hb hx=>?_,fun b o e n hb hx=>?_,I.base.free,fun b o e hx=>?_,I.base.tups,I.base.frzs,I.base.tbls⟩,⟨_,hn',fun j y v' e1 e2 e3=>?_⟩,fun y c e=>?_,I.free,I.freeC,fun p hp=>?_,tracked ⟨oL,hoL,I.free⟩ hs,by simpa using I.len⟩ ⟨_,hs,.inl rfl⟩;·exact(hs.2 b<|D8<|CW (CV e) I.ok.above).trans (I.base.keep b o e n hb hx)
  ·obtain⟨sl,e1⟩:=I.base.slot b o e n hb hx;exact⟨sl,(hs.2 b<|D8<|CW (CV e) I.ok.above).trans e1⟩
  ·obtain⟨o',e1⟩:=I.base.there b o e hx;exact⟨o',(hs.2 b<|D8<|CW (CV e) I.ok.above).trans e1⟩
  ·by_cases hj:j=i
   ·subst hj;rw[hi]at e1;cases e1;rw[IL hiσ]at e2;cases e2;exact⟨u,r,.inl ⟨hk,by simp⟩⟩
   ·rw[Jm<|Fd hj]at e2;obtain⟨u',r',q⟩:=hl j y v' e1 e2 e3;refine⟨u',r',?_⟩;rcases q with⟨k,e⟩|⟨k,c,e,z⟩
    ·refine .inl ⟨k,?_⟩;have:y≠x:=fun e=>hj<|mI hN e1<|e▸hi;simp[this,e]
    ·exact .inr ⟨k,c,e,z.sameBut hs<|cne y c e⟩
  ·obtain⟨w',z⟩:=I.cell y c e;exact⟨w',z.sameBut hs<|cne y c e⟩
  ·obtain⟨e,n,ne,nf,d⟩:=I.pin p hp;exact⟨(hs.2 p.1 ne).trans e,n,ne,nf,d⟩
 ·have hfn:X.fn x=true:=by
   rcases hf with z|z;·exact z
   ·rw[z]at hk;cases hk
  obtain⟨c,hc⟩:=I.ok.has x<|.inl hk;obtain⟨w',z⟩:=I.cell x c hc;refine wpAny_storeName_cell I.ok.kind hk hc z<|fun h' hc' hs=>?_;obtain⟨oc,hoc,hocd⟩:=id z;refine h {s with heap:=h'} ⟨I.ok,I.os,I.bare,⟨fun b o e n hb hx=>?_,fun b o e n hb hx=>?_,I.base.free,fun b o e hx=>?_,I.base.tups,I.base.frzs,I.base.tbls⟩,⟨m,hn.sameBut hs<|Fd<|cne x c hc,fun j y v' e1 e2 e3=>?_⟩,fun y c' e=>?_,I.free,I.freeC,fun p hp=>?_,tracked ⟨oc,hoc,I.freeC x c hc⟩ hs,by simpa using I.len⟩ ⟨c,hs,.inr hc⟩;·exact(hs.2 b<|D8<|CW (CV e)<|I.ok.cab x c hfn hc).trans (I.base.keep b o e n hb hx)
  ·obtain⟨sl,e1⟩:=I.base.slot b o e n hb hx;exact⟨sl,(hs.2 b<|D8<|CW (CV e)<|I.ok.cab x c hfn hc).trans e1⟩
  ·obtain⟨o',e1⟩:=I.base.there b o e hx;exact⟨o',(hs.2 b<|D8<|CW (CV e)<|I.ok.cab x c hfn hc).trans e1⟩
  ·by_cases hj:j=i
   ·subst hj;rw[hi]at e1;cases e1;rw[IL hiσ]at e2;cases e2;exact⟨u,r,.inr ⟨.inl hk,c,hc,hc'⟩⟩
   ·rw[Jm<|Fd hj]at e2;obtain⟨u',r',q⟩:=hl j y v' e1 e2 e3;refine⟨u',r',?_⟩;rcases q with q|⟨k,c',e,z'⟩
    ·exact .inl q
    ·refine .inr ⟨k,c',e,z'.sameBut hs ?_⟩;rintro rfl;exact hj<|mI hN e1<|I.ok.inj _ _ _ e hc▸hi
  ·by_cases hcc:c'=c;·subst hcc;exact⟨_,hc'⟩
   ·obtain⟨w2,z2⟩:=I.cell y c' e;exact⟨w2,z2.sameBut hs hcc⟩
  ·obtain⟨e,n,ne,nf,d⟩:=I.pin p hp;refine⟨(hs.2 p.1 ?_).trans e,n,ne,nf,d⟩;intro q;rw[q,hoc]at e;have q':oc=p.2:=DG e;exact d w' (by rw[<-q'];exact hocd)
theorem jr{M:J4}{A:DL}{E:CI->CM->Prop}{i:Nat}{x:Str}{v:V}{u:CI}{Q:Unit->CM->Prop}(I:Inv X pins σ H s)(hN:X.N.Nodup)(hi:X.N[i]? =some x)(hx:yb X.env.scope x)(r:RelV v u)
  (h:∀s',Inv X pins (σ.set i<|some v) H s'->Q () s') (hf:X.fn x=true\/X.env.scope.names.lookup x=some .local:=by first|exact .inl rfl|exact .inr rfl|assumption):wpAny M A (storeName X.env x u) Q E s:=
 kO I hN hi hx r (fun s' I' _=>h s' I') hf
theorem Inv.call'{s':CM}{ch:List Addr}(I:Inv X pins σ H s)(ho:s'.os=s.os)(u:Un (frs X.stack) ch H H' s.heap s'.heap)(hok:HOk X.prog X.w H' s'.heap)(hg:I0 s'.gens)
  (hch:∀b∈ch,(b∈X.ex\/X.s₀.heap.objs.size<=b)/\b≠X.env.locals/\(∀x c,X.env.cells.lookup x=some c->c≠b)/\∀p∈X.pn++pins,p.1≠b):Inv X pins σ H' s':=by
 obtain⟨h',g',d',t',o'⟩:=s';have e:o'=s.os:=ho;subst e;exact I.call (g':=g') (t':=t') (d':=d') u hok hg hch
end
abbrev XK:=CI->Option Addr->Hp->Prop
abbrev St:=List<|Option V
abbrev VK:=V->Hp->Prop
abbrev TE:=St->Hp->VK->Prop
abbrev TT:=St->Hp->(Bool->Hp->Prop)->Prop
abbrev TA:=St->Hp->(List V->Hp->Prop)->Prop
structure Ends where
 nx:St->Hp->Prop
 rt:VK
 bk:St->Hp->Prop:=fun _ _=>False
 ct:St->Hp->Prop:=fun _ _=>False
abbrev TS:=Ends->St->Hp->Prop
def EP(X:Cx)(pins:List (Addr×Obj))(σ:St)(Q:VK)(u:CI)(s':CM):Prop:=∃v H',Inv X pins σ H' s'/\RelV v u/\Q v H'
def TP(X:Cx)(pins:List (Addr×Obj))(σ:St)(Q:Bool->Hp->Prop)(b:Bool)(s':CM):Prop:=∃H',Inv X pins σ H' s'/\Q b H'
def AP(X:Cx)(pins:List (Addr×Obj))(σ:St)(Q:List V->Hp->Prop)(us:List CI)(s':CM):Prop:=∃vs H',Inv X pins σ H' s'/\Vals vs us/\Q vs H'
def SP(X:Cx)(pins:List (Addr×Obj))(D:Ends)(f:Flow)(s':CM):Prop:=
 match f with
 | .next=>∃σ' H',Inv X pins σ' H' s'/\D.nx σ' H'
 | .brk=>∃σ' H',Inv X pins σ' H' s'/\D.bk σ' H'
 | .cont=>∃σ' H',Inv X pins σ' H' s'/\D.ct σ' H'
 | .ret u=>∃v σ' H',Inv X pins σ' H' s'/\RelV v u/\D.rt v H'
def PE(X:Cx)(e:Expr)(t:TE):Prop:=
 ∀(pins:List (Addr×Obj))(s:CM)(σ:St)(H:Hp)(Q:VK),Inv X pins σ H s->t σ H Q->wpAny (model X.prog X.w) X.A (eval e X.env) (EP X pins σ Q) X.xe s
def PT(X:Cx)(e:Expr)(t:TT):Prop:=
 ∀(pins:List (Addr×Obj))(s:CM)(σ:St)(H:Hp)(Q:Bool->Hp->Prop),Inv X pins σ H s->t σ H Q->wpAny (model X.prog X.w) X.A (isTrue e X.env<|eval e X.env) (TP X pins σ Q) X.xe s
def PW(X:Cx)(e:Expr)(t:TT):Prop:=
 ∀(whole:Sem CI)(pins:List (Addr×Obj))(s:CM)(σ:St)(H:Hp)(Q:Bool->Hp->Prop),Inv X pins σ H s->t σ H Q->wpAny (model X.prog X.w) X.A (isTrue e X.env whole) (TP X pins σ Q) X.xe s
theorem PW.pt{X:Cx}{e:Expr}{t:TT}(h:PW X e t):PT X e t:=h _
def PA(X:Cx)(es:List Expr)(t:TA):Prop:=
 ∀(pos:Pos)(pins:List (Addr×Obj))(s:CM)(σ:St)(H:Hp)(Q:List V->Hp->Prop),Inv X pins σ H s->t σ H Q->wpAny (model X.prog X.w) X.A (spliced<|backTo pos<|starEach es X.env) (AP X pins σ Q) X.xe s
def PS(X:Cx)(st:Stmt)(t:TS):Prop:=
 ∀(pins:List (Addr×Obj))(s:CM)(σ:St)(H:Hp)(D:Ends),Inv X pins σ H s->t D σ H->wpAny (model X.prog X.w) X.A (exec st X.env) (SP X pins D) X.xe s
def PSs(X:Cx)(st:List Stmt)(t:TS):Prop:=
 ∀(pins:List (Addr×Obj))(s:CM)(σ:St)(H:Hp)(D:Ends),Inv X pins σ H s->t D σ H->wpAny (model X.prog X.w) X.A (execs st X.env) (SP X pins D) X.xe s
theorem bO{α:Type}{t:Sem α}{Q Q':α->CM->Prop}{M:J4}{A:DL}{E:CI->CM->Prop}{s:CM}(h:wpAny M A t Q E s)(hQ:∀a s,Q a s->Q' a s):wpAny M A t Q' E s:=DZ h hQ fun _ _ x=>x
section
variable{X:Cx}
def bz(i:Nat):TE:=fun σ H Q=>∃v,σ[i]? =some (some v)/\Q v H
def tC(v:V):TE:=fun _ H Q=>Q v H
theorem yD{i:Nat}{x:Str}{pos:Pos}(hN:X.N[i]? =some x)(hv:Vis X.env.scope x)(hd:(x==("__debug__" :Str))=false:=by decide)(hcd:(x==("__classdict__" :Str))=false:=by decide):PE X (.Name x pos) (bz i):=by
 intro pins s σ H Q I h;obtain⟨v,e,h⟩:=h;obtain⟨m,hn,hl⟩:=I.loc;obtain⟨u,r,l⟩:=hl i x v hN e hv;have fin:EP X pins σ Q u s:=⟨v,H,I,r,h⟩
 rcases l with⟨hk,hm⟩|⟨hk,c,hc,hcell⟩
 ·exact KS (Jn I.ok.kind hk hn hm fin) hd
 ·rcases hk with hk | hk;·exact KS (JA I.ok.kind hk hc hcell fin) hd
  ·exact KS (wpAny_loadName_free I.ok.kind hk hc hcell fin hcd) hd
theorem a8{i j pos}:PE X (.Constant (.int i) j pos) (tC<|.int i):=fun _ _ _ H _ I h=>wpAny_Constant_int ⟨.int i,H,I.tok _,⟨_,rfl⟩,h⟩
theorem gN{b j pos}:PE X (.Constant (.bool b) j pos) (tC<|.bl b):=fun _ _ _ H _ I h=>Constant_bool ⟨.bl b,H,I,rfl,h⟩
theorem fX{j pos}:PE X (.Constant .none j pos) (tC .non):=fun _ _ _ H _ I h=>Constant_none ⟨.non,H,I,rfl,h⟩
theorem aV{x j pos}:PE X (.Constant (.str x) j pos) (tC<|.str x):=fun _ _ _ H _ I h=>Calls.Constant_str ⟨.str x,H,I.tok _,⟨_,rfl⟩,h⟩
def Gl(X:Cx)(x:Str):Prop:=X.env.kindOf x=some .globalImplicit
theorem pO{E:CI->CM->Prop}{pins:List (Addr×Obj)}{s:CM}{σ:St}{H:Hp}{x:Str}{u:CI}{pos:Pos}{Q:CI->CM->Prop}(I:Inv X pins σ H s)(hg:Gl X x)(hm:X.mg x=some u)(h:Q u s)
  (hd:(x==("__debug__" :Str))=false:=by decide):wpAny (model X.prog X.w) X.A (eval (.Name x pos) X.env) Q E s:=
 HG I.ok.kind hg (Calls.loadGlobal_global (by rw[I.ok.glob];exact I.mod.glob.keeps I.bk) hm h) hd
theorem fY{E:CI->CM->Prop}{pins:List (Addr×Obj)}{s:CM}{σ:St}{H:Hp}{x:Str}{u:CI}{pos:Pos}{Q:CI->CM->Prop}(I:Inv X pins σ H s)(hg:Gl X x)(hm:X.mg x=none)(hv:bootBuiltins x=some u)(h:Q u s)
  (hn:x≠"__name__":=by decide) (hd:(x==("__debug__" :Str))=false:=by decide):wpAny (model X.prog X.w) X.A (eval (.Name x pos) X.env) Q E s:=by
 obtain⟨mb,h1,h2⟩:=I.mod.blt;exact HG I.ok.kind hg (Calls.loadGlobal_builtin (by rw[I.ok.glob];exact I.mod.glob.keeps I.bk) hm (by rw[I.ok.blt];exact h1.keeps I.bk) ((h2 x hn).trans hv) h) hd
theorem dg{x:Str}{v:V}{u:CI}{pos:Pos}(hg:Gl X x)(hm:X.mg x=some u)(r:RelV v u)(hd:(x==("__debug__" :Str))=false:=by decide):PE X (.Name x pos) (tC v):=
 fun _ _ _ H _ I h=>pO I hg hm ⟨v,H,I,r,h⟩ hd
theorem dh{x:Str}{v:V}{u:CI}{pos:Pos}(hg:Gl X x)(hm:X.mg x=none)(hv:bootBuiltins x=some u)(r:RelV v u)(hn:x≠"__name__":=by decide)(hd:(x==("__debug__" :Str))=false:=by decide):PE X (.Name x pos) (tC v):=
 fun _ _ _ H _ I h=>fY I hg hm hv ⟨v,H,I,r,h⟩ hn hd
variable{a b:Expr}{ta tb:TE}{pos:Pos}
def tB(t:TE):TT:=fun σ H Q=>t σ H fun x H1=>∃c,x=.bl c/\Q c H1
theorem di{e:Expr}{t:TE}(h:PE X e t)(he:∀whole,isTrue e X.env whole=(do let v <-whole;standAt e.pos;holding [v] (truthy v)):=by intro _;rfl):PT X e (tB t):=by
 intro pins s σ H Q I hw;refine isTrue_plain (bO (h pins s σ H _ I hw) fun v s1⟨x,H1,I1,r1,q1⟩=>?_)<|he _;obtain⟨d,rfl,q⟩:=q1;cases r1;exact FD ⟨H1,I1,q⟩
variable{tA tB':TT}{rest:List Expr}
def cB(t u:TT):TT:=fun σ H Q=>t σ H fun c H1=>if c=true then u σ H1 Q else Q false H1
def fS(t u:TT):TT:=fun σ H Q=>t σ H fun c H1=>if c=true then Q true H1 else u σ H1 Q
def cC(t:TT):TT:=fun σ H Q=>t σ H fun c H1=>Q (!c) H1
theorem eT(ha:PT X a tA):PW X (.BoolOp .And [a] pos) tA:=by
 intro wh pins s σ H Q I h;refine isTrue_and<|bO (ha pins s σ H Q I h) fun c s1 e=>?_;cases c with
 |true=>exact isTrue_and_nil e
 |false=>exact e
theorem lC(ha:PT X a tA):PW X (.BoolOp .Or [a] pos) tA:=by
 intro wh pins s σ H Q I h;refine isTrue_or<|bO (ha pins s σ H Q I h) fun c s1 e=>?_;cases c with
 |false=>exact isTrue_or_nil e
 |true=>exact e
theorem fZ(ha:PT X a tA)(hb:PW X (.BoolOp .And (b::rest) pos) tB'):PW X (.BoolOp .And (a::b::rest) pos) (cB tA tB'):=by
 intro wh pins s σ H Q I h;refine isTrue_and<|bO (ha pins s σ H _ I h) fun c s1 zz=>?_;obtain⟨H1,I1,q1⟩:=zz;cases c with
 |true=>exact hb wh pins s1 σ H1 Q I1 q1
 |false=>exact⟨H1,I1,q1⟩
theorem mJ(ha:PT X a tA)(hb:PW X (.BoolOp .Or (b::rest) pos) tB'):PW X (.BoolOp .Or (a::b::rest) pos) (fS tA tB'):=by
 intro wh pins s σ H Q I h;refine isTrue_or<|bO (ha pins s σ H _ I h) fun c s1 zz=>?_;obtain⟨H1,I1,q1⟩:=zz;cases c with
 |true=>exact⟨H1,I1,q1⟩
 |false=>exact hb wh pins s1 σ H1 Q I1 q1
theorem js(ha:PT X a tA):PT X (.UnaryOp .Not a pos) (cC tA):=by
 intro pins s σ H Q I h;exact isTrue_not<|ha pins s σ H (fun c H1=>Q (!c) H1) I h
def bA(ta tb:TE):TE:=fun σ H Q=>ta σ H fun x H1=>∃c,x=.bl c/\if c=true then tb σ H1 Q else Q (.bl false) H1
def cD(ta tb:TE):TE:=fun σ H Q=>ta σ H fun x H1=>∃c,x=.bl c/\if c=true then Q (.bl true) H1 else tb σ H1 Q
def bC(ta:TE):TE:=fun σ H Q=>ta σ H fun x H1=>∃c,x=.bl c/\Q (.bl<|!c) H1
theorem iz{op}{t:TE}(h:PE X a t):PE X (.BoolOp op [a] pos) t:=fun pins s σ H Q I hw=>BoolOp_one<|h pins s σ H Q I hw
theorem iA(ha:PE X a ta)(hb:PE X (.BoolOp .And (b::rest) pos) tb):PE X (.BoolOp .And (a::b::rest) pos) (bA ta tb):=by
 intro pins s σ H Q I h;refine BoolOp_and<|bO (ha pins s σ H _ I h) fun v s1 zz=>?_;obtain⟨x,H1,I1,r1,q1⟩:=zz;obtain⟨c,rfl,q1⟩:=q1;cases r1;refine FD ?_;cases c with
 |true=>exact hb pins s1 σ H1 Q I1 q1
 |false=>exact⟨.bl false,H1,I1,rfl,q1⟩
theorem zY(ha:PE X a ta)(hb:PE X (.BoolOp .Or (b::rest) pos) tb):PE X (.BoolOp .Or (a::b::rest) pos) (cD ta tb):=by
 intro pins s σ H Q I h;refine BoolOp_or<|bO (ha pins s σ H _ I h) fun v s1 zz=>?_;obtain⟨x,H1,I1,r1,q1⟩:=zz;obtain⟨c,rfl,q1⟩:=q1;cases r1;refine FD ?_;cases c with
 |false=>exact hb pins s1 σ H1 Q I1 q1
 |true=>exact⟨.bl true,H1,I1,rfl,q1⟩
theorem yE(ha:PE X a ta):PE X (.UnaryOp .Not a pos) (bC ta):=by
 intro pins s σ H Q I h;refine UnaryOp_<|bO (ha pins s σ H _ I h) fun v s1 zz=>?_;obtain⟨x,H1,I1,r1,q1⟩:=zz;obtain⟨c,rfl,q1⟩:=q1;cases r1;exact not_of<|FD ⟨.bl<|!c,H1,I1,rfl,q1⟩
def fN(t:TT)(ta tb:TE):TE:=fun σ H Q=>t σ H fun c H1=>if c=true then ta σ H1 Q else tb σ H1 Q
theorem eH{c:Expr}(hc:PT X c tA)(ha:PE X a ta)(hb:PE X b tb):PE X (.IfExp c a b pos) (fN tA ta tb):=by
 intro pins s σ H Q I h;refine wpAny_IfExp<|bO (hc pins s σ H _ I h) fun d s1 zz=>?_;obtain⟨H1,I1,q1⟩:=zz;cases d with
 |true=>exact ha pins s1 σ H1 Q I1 q1
 |false=>exact hb pins s1 σ H1 Q I1 q1
end
def SqL(K:CG)(H:Hp)(a:Addr)(xs:List V):Prop:=
 Rd H a (.lst xs)\/
  ∃(o:Obj)(its:Array CI)(n:Nat),K.lookup a=some o/\o.cls=.type "list"/\o.dict=none/\o.data=.seq its n/\its.size<=sizeLine/\Vals xs its.toList
def SqT(K:CG)(H:Hp)(a:Addr)(xs:List V):Prop:=
 Rd H a (.tup xs)\/
  ∃(o:Obj)(its:Array CI)(n:Nat),K.lookup a=some o/\(o.cls=.type "tuple"/\o.dict=none)/\o.data=.seq its n/\its.size<=sizeLine/\Vals xs its.toList
def Bw:CI->Option V
 | .none=>some .non
 | .bool b=>some<|.bl b
 | .int i _=>some<|.int i
 | .str x _=>some<|.str x
 | .bytes b _=>some<|.byt b
 | .float b _=>some<|.flt b
 | .ref a=>some<|.ref a
 | .type n=>some<|.ty n
 |_=>none
theorem RelV.abs{x:V}{u:CI}(r:RelV x u):Bw u=some x:=by
 cases x with
 |non=>cases r;rfl
 |bl _=>cases r;rfl
 |int _=>obtain⟨t,rfl⟩:=r;rfl
 |str _=>obtain⟨t,rfl⟩:=r;rfl
 |byt _=>obtain⟨t,rfl⟩:=r;rfl
 |flt _=>obtain⟨t,rfl⟩:=r;rfl
 |ref _=>cases r;rfl
 |ty _=>cases r;rfl
theorem RelV.inj{x y:V}{u:CI}(r:RelV x u)(q:RelV y u):x=y:=DG<|r.abs.symm.trans q.abs
theorem Vals.inj:∀{xs ys:List V}{us:List CI},Vals xs us->Vals ys us->xs=ys
 |_,_,_,.nil,.nil=>rfl
 |_,_,_,.cons r t,.cons r' t'=>by rw[r.inj r',Vals.inj t t']
section
variable{X:Cx}{pins:List (Addr×Obj)}{σ:St}{H:Hp}{s:CM}{a:Addr}{xs ys:List V}
theorem SqL.of{K:CG}(h:H a=some (.lst xs)):SqL K H a xs:=.inl<|.inl h
theorem SqT.of{K:CG}(h:H a=some (.tup xs)):SqT K H a xs:=.inl<|.inl h
theorem Inv.list(I:Inv X pins σ H s)(h:SqL X.K H a xs):∃its:List CI,Vals xs its/\PlainL s.heap a its.toArray/\xs.length<=sizeLine:=by
 rcases h with h|⟨o,its,n,hk,hc,hd,hs,hz,r⟩
 ·obtain⟨z,its,n,r,e⟩:=h.ok I.hok;exact⟨its,r,⟨_,n,e,rfl,rfl,rfl⟩,z⟩
 ·refine⟨its.toList,r,⟨o,n,I.kIn a o hk,hc,hd,by simpa using hs⟩,?_⟩;have e:=r.length;simp only[Dh]at e;omega
theorem Inv.tuple(I:Inv X pins σ H s)(h:SqT X.K H a xs):∃its:List CI,Vals xs its/\IsTup s.heap a its.toArray/\xs.length<=sizeLine:=by
 rcases h with h|⟨o,its,n,hk,hc,hs,hz,r⟩
 ·obtain⟨z,its,r,p⟩:=h.ok I.hok;exact⟨its,r,p.tup,z⟩
 ·refine⟨its.toList,r,⟨o,I.kIn a o hk,hc.1,n,by simpa using hs⟩,?_⟩;have e:=r.length;simp only[Dh]at e;omega
theorem Inv.list_inj(I:Inv X pins σ H s)(h:SqL X.K H a xs)(h':SqL X.K H a ys):xs=ys:=by
 obtain⟨its,r,⟨o,n,e,_,_,d⟩,_⟩:=I.list h;obtain⟨its',r',⟨o',n',e',_,_,d'⟩,_⟩:=I.list h';rw[e]at e';cases e';rw[d]at d';injection d' with d1 _;have:its=its':=by simpa using congrArg M0 d1
 subst this;exact r.inj r'
theorem Inv.tuple_inj(I:Inv X pins σ H s)(h:SqT X.K H a xs)(h':SqT X.K H a ys):xs=ys:=by
 obtain⟨its,r,⟨o,e,_,n,d⟩,_⟩:=I.tuple h;obtain⟨its',r',⟨o',e',_,n',d'⟩,_⟩:=I.tuple h';rw[e]at e';cases e';rw[d]at d';injection d' with d1 _;have:its=its':=by simpa using congrArg M0 d1
 subst this;exact r.inj r'
end
abbrev Cx.wish(X:Cx)(E:CI->CM->Prop):Cx:={X with xe:=E}
abbrev Cx.nox(X:Cx):Cx:=X.wish fun _ _=>False
theorem Cx.Ok.wish{X:Cx}(ok:X.Ok)(E:CI->CM->Prop):(X.wish E).Ok:=
 ⟨ok.mod,ok.kind,ok.glob,ok.blt,ok.above,ok.inj,ok.has,ok.cab,ok.hd,ok.frames,ok.stk,ok.exf,ok.bs,ok.bsz,ok.noex,ok.exfs,ok.funs,ok.frf⟩
theorem Cx.Ok.unwish{X:Cx}{E:CI->CM->Prop}(ok:(X.wish E).Ok):X.Ok:=
 ⟨ok.mod,ok.kind,ok.glob,ok.blt,ok.above,ok.inj,ok.has,ok.cab,ok.hd,ok.frames,ok.stk,ok.exf,ok.bs,ok.bsz,ok.noex,ok.exfs,ok.funs,ok.frf⟩
section
variable{X:Cx}{pins:List (Addr×Obj)}{σ:St}{H:Hp}{s:CM}{E:CI->CM->Prop}
theorem Inv.wish(I:Inv X pins σ H s)(E:CI->CM->Prop):Inv (X.wish E) pins σ H s:=⟨I.ok.wish E,I.os,I.bare,I.base,I.loc,I.cell,I.free,I.freeC,I.pin,I.hok,I.len⟩
theorem Inv.unwish(I:Inv (X.wish E) pins σ H s):Inv X pins σ H s:=⟨I.ok.unwish,I.os,I.bare,I.base,I.loc,I.cell,I.free,I.freeC,I.pin,I.hok,I.len⟩
theorem SP.unwish{D:Ends}{f:Flow}{s':CM}(h:SP (X.wish E) pins D f s'):SP X pins D f s':=by
 cases f with
 |next=>obtain⟨σ',H',I,q⟩:=h;exact⟨σ',H',I.unwish,q⟩
 |brk=>obtain⟨σ',H',I,q⟩:=h;exact⟨σ',H',I.unwish,q⟩
 |cont=>obtain⟨σ',H',I,q⟩:=h;exact⟨σ',H',I.unwish,q⟩
 |ret u=>obtain⟨v,σ',H',I,r,q⟩:=h;exact⟨v,σ',H',I.unwish,r,q⟩
theorem PSs.nox{st:List Stmt}{t:TS}(h:PSs X.nox st t):PSs X st t:=fun pins s σ H D I hw=>
 DZ (h pins s σ H D (I.wish _) hw) (fun _ _ q=>q.unwish) fun _ _ z=>FW z
end
section
variable{X:Cx}{st:Stmt}{rest:List Stmt}{t u:TS}{e:Expr}{te:TE}{pos:Pos}
def aF:TS:=fun D σ H=>D.nx σ H
def eQ(t u:TS):TS:=fun D σ H=>t {D with nx:=u D} σ H
theorem aK:PSs X [] aF:=fun _ _ σ H _ I h=>Hw ⟨σ,H,I,h⟩
theorem ae(h1:PS X st t)(h2:PSs X rest u):PSs X (st::rest) (eQ t u):=by
 intro pins s σ H D I h;refine Ki<|bO (h1 pins s σ H {D with nx:=u D} I h) fun f s1 q=>?_;cases f with
 |next=>
  obtain⟨σ',H',I',q⟩:=q;exact h2 pins s1 σ' H' D I' q
 |ret v=>exact q
 |brk=>exact q
 |cont=>exact q
theorem af(h1:PS X st t):PSs X [st] t:=by
 intro pins s σ H D I h;refine Ki<|bO (h1 pins s σ H D I h) fun f s1 q=>?_;cases f with
 |next=>exact Hw q
 |ret v=>exact q
 |brk=>exact q
 |cont=>exact q
theorem Inv.quiet{pins:List (Addr×Obj)}{σ:St}{H:Hp}{s:CM}(I:Inv X pins σ H s):interactive X.env=false:=by simp[interactive,I.ok.kind]
def b6(te:TE):TS:=fun D σ H=>te σ H fun _ H1=>D.nx σ H1
theorem d5(he:PE X e te)(hs:swapsWith e none pos.line X.env=pure false:=by rfl):PS X (.Expr e pos) (b6 te):=by
 intro pins s σ H D I h;exact wpAny_Expr_any (bO (he pins s σ H _ I h) fun v s1⟨x,H1,I1,r1,q1⟩=>⟨σ,H1,I1,q1⟩) I.quiet hs
def bW(te:TE):TS:=fun D σ H=>te σ H D.rt
theorem az(he:PE X e te):PS X (.Return (some e) pos) (bW te):=by
 intro pins s σ H D I h;refine wpAny_Return_some<|bO (he pins s σ H _ I h) fun v s1 zz=>?_;obtain⟨x,H1,I1,r1,q1⟩:=zz;exact⟨x,σ,H1,I1,r1,q1⟩
def j3(c:TT)(t u:TS):TS:=fun D σ H=>c σ H fun b H1=>if b=true then t D σ H1 else u D σ H1
theorem br{c:Expr}{a b:List Stmt}{tc:TT}(hc:PT X c tc)(ha:PSs X a t)(hb:PSs X b u):PS X (.If c a b pos) (j3 tc t u):=by
 intro pins s σ H D I h;refine wpAny_If<|bO (hc pins s σ H _ I h) fun d s1 zz=>?_;obtain⟨H1,I1,q1⟩:=zz;cases d with
 |true=>exact ha pins s1 σ H1 D I1 q1
 |false=>exact hb pins s1 σ H1 D I1 q1
def yF:TS:=fun _ _ _=>False
end
abbrev TG:=V->St->Hp->(St->Hp->Prop)->Prop
abbrev yc:=List V->St->Hp->(St->Hp->Prop)->Prop
def PG(X:Cx)(target:Expr)(t:TG):Prop:=
 ∀(pins:List (Addr×Obj))(s:CM)(σ:St)(H:Hp)(v:V)(u:CI)(Q:St->Hp->Prop),Inv X pins σ H s->RelV v u->t v σ H Q->
  wpAny (model X.prog X.w) X.A (assign target X.env u) (fun _ s'=>∃σ' H',Inv X pins σ' H' s'/\Q σ' H') X.xe s
def zZ(X:Cx)(ts:List Expr)(t:yc):Prop:=
 ∀(pins:List (Addr×Obj))(s:CM)(σ:St)(H:Hp)(vs:List V)(us:List CI)(Q:St->Hp->Prop),Inv X pins σ H s->Vals vs us->t vs σ H Q->
  wpAny (model X.prog X.w) X.A (assignInOrder ((assignEach ts X.env).map (·.2)) us) (fun _ s'=>∃σ' H',Inv X pins σ' H' s'/\Q σ' H') X.xe s
abbrev yG:=V->V->V->Hp->(Hp->Prop)->Prop
def A0(X:Cx)(t:yG):Prop:=
 ∀(pins:List (Addr×Obj))(s:CM)(σ:St)(H:Hp)(o i v:V)(ov iv u:CI)(Q:Hp->Prop),Inv X pins σ H s->RelV o ov->RelV i iv->RelV v u->t o i v H Q->
  wpAny (model X.prog X.w) X.A (setItem ov iv u) (fun _ s'=>∃H',Inv X pins σ H' s'/\Q H') X.xe s
abbrev A1:=V->V->Hp->VK->Prop
def AJ(X:Cx)(op:Mf)(t:A1):Prop:=
 ∀(pins:List (Addr×Obj))(s:CM)(σ:St)(H:Hp)(x y:V)(v u:CI)(Q:VK),Inv X pins σ H s->RelV x v->RelV y u->t x y H Q->
  wpAny (model X.prog X.w) X.A (inplaceOp op v u) (EP X pins σ Q) X.xe s
section
variable{X:Cx}{pos:Pos}
def aM(i:Nat):TG:=fun v σ H Q=>Q (σ.set i<|some v) H
theorem bj{i:Nat}{x:Str}(hN:X.N.Nodup)(hi:X.N[i]? =some x)(hx:yb X.env.scope x)(hf:X.fn x=true\/X.env.scope.names.lookup x=some .local:=by first|exact .inl rfl|exact .inr rfl|assumption):PG X (.Name x pos) (aM i):=by
 intro pins s σ H v u Q I r h;exact K2<|jr I hN hi hx r (fun s' I'=>⟨_,H,I',h⟩) hf
def cx:yc:=fun vs σ H Q=>vs=[]/\Q σ H
def bh(t:TG)(u:yc):yc:=fun vs σ H Q=>∃v r,vs=v::r/\t v σ H fun σ' H'=>u r σ' H' Q
theorem bJ:zZ X [] cx:=by
 intro pins s σ H vs us Q I r h;obtain⟨e,h⟩:=h;subst e;cases r;exact assignInOrder_nil ⟨σ,H,I,h⟩
theorem aq{e:Expr}{es:List Expr}{t:TG}{u:yc}(h1:PG X e t)(h2:zZ X es u)
  (hs:(assignEach (e::es) X.env).map (·.2)=assign e X.env::(assignEach es X.env).map (·.2):=by rfl):zZ X (e::es) (bh t u):=by
 intro pins s σ H vs us Q I r h;obtain⟨v,vr,e1,h⟩:=h;subst e1;cases r with
 |cons r rr=>
  rw[hs];refine assignInOrder_cons<|bO (h1 pins s σ H _ _ _ I r h) fun _ s1 zz=>?_;obtain⟨σ1,H1,I1,q1⟩:=zz;exact h2 pins s1 σ1 H1 _ _ Q I1 rr q1
def cq(K:CG)(n:Nat)(t:yc):TG:=fun v σ H Q=>∃a xs,v=.ref a/\SqT K H a xs/\xs.length=n/\t xs σ H Q
theorem yH{es:List Expr}{k:Nat}{t:yc}{n:Nat}(hc:X.calm=true)(h:zZ X es t)
  (hn:(assignEach es X.env).length=n:=by rfl) (hst:(assignEach es X.env).findIdx? (·.1)=none:=by rfl):PG X (.Tuple es k pos) (cq X.K n t):=by
 intro pins s σ H v u Q I r hw;obtain⟨a,xs,e1,hq,hl,hw⟩:=hw;subst e1;cases r;obtain⟨its,rv,ht,hz⟩:=I.tuple hq;refine assign_Tuple_tuple (I.ok.hd hc) ht (by simp[hn,<-hl,rv.length]) hst fun h' hx=>?_;have I1:Inv X pins σ H {s with heap:=h'}:=I.kept (t':=s.toks) fun b o e=>hx b o (D8<|CV e) e;exact h pins _ σ H xs _ Q I1 (by simpa using rv) hw
def A2(to ti:TE)(t:yG):TG:=fun v σ H Q=>to σ H fun o H1=>ti σ H1 fun i H2=>t o i v H2 fun H3=>Q σ H3
theorem ou{o i:Expr}{to ti:TE}{t:yG}(ho:PE X o to)(hi:PE X i ti)(hs:A0 X t)
  (ha:∀v,assign (.Subscript o i pos) X.env v=(do
   let ov <-holding [v] (eval o X.env)
   let iv <-holding [v,ov] (eval i X.env)
   standAt pos
   holding [v,ov,iv] (setItem ov iv v)
   release [v,ov,iv] []):=by intro _;rfl):PG X (.Subscript o i pos) (A2 to ti t):=by
 intro pins s σ H v u Q I r h;rw[ha];refine CD<|E9<|bO (ho pins s σ H _ I h) fun ov s1 zz=>?_;obtain⟨x,H1,I1,r1,q1⟩:=zz;refine CD<|E9<|bO (hi pins s1 σ H1 _ I1 q1) fun iv s2 zz=>?_;obtain⟨y,H2,I2,r2,q2⟩:=zz;refine CD<|Fm<|CD<|E9<|bO (hs pins s2 σ H2 x y v ov iv u _ I2 r1 r2 r q2) fun _ s3 zz=>?_;obtain⟨H3,I3,q3⟩:=zz;exact wpAny_release ⟨σ,H3,I3,q3⟩
def bK(te:TE)(g:TG):TS:=fun D σ H=>te σ H fun x H1=>g x σ H1 D.nx
theorem eI{tg e:Expr}{te:TE}{g:TG}(he:PE X e te)(hg:PG X tg g)(hs:swapsWithSole [tg] e pos.line X.env=pure false:=by rfl)(hw:swappedStores [tg] e X.env=pure none:=by rfl)
  (h1:(assignEach [tg] X.env).map (·.2)=[assign tg X.env]:=by rfl):PS X (.Assign [tg] e pos) (bK te g):=by
 intro pins s σ H D I h;refine wpAny_Assign_stores (bO (he pins s σ H _ I h) fun v s1⟨x,H1,I1,r1,q1⟩=>?_) hs hw;rw[h1];exact bO (hg pins s1 σ H1 x v _ I1 r1 q1) fun _ s2 q=>q
theorem yI{i:Nat}{x:Str}{e:Expr}{te:TE}{pos':Pos}(hN:X.N.Nodup)(hi:X.N[i]? =some x)(hx:yb X.env.scope x)(he:PE X e te)(hs:swapsWith e (some<|.Name x pos') pos.line X.env=pure false:=by rfl)(hf:X.fn x=true\/X.env.scope.names.lookup x=some .local:=by first|exact .inl rfl|exact .inr rfl|assumption):
  PS X (.Assign [.Name x pos'] e pos) (bK te<|aM i):=by
 intro pins s σ H D I h;refine wpAny_Assign_Name (bO (he pins s σ H _ I h) fun v s1⟨y,H1,I1,r1,q1⟩=>?_) hs;exact jr I1 hN hi hx r1 (fun s2 I2=>⟨_,H1,I2,q1⟩) hf
def wc(i:Nat)(te:TE)(ti:A1):TS:=fun D σ H=>∃x,σ[i]? =some (some x)/\te σ H fun y H1=>ti x y H1 fun z H2=>D.nx (σ.set i<|some z) H2
theorem lD{i:Nat}{x:Str}{e:Expr}{te:TE}{op:Mf}{ti:A1}{pos':Pos}(hN:X.N.Nodup)(hi:X.N[i]? =some x)(hx:yb X.env.scope x)(he:PE X e te)(ho:AJ X op ti)(hf:X.fn x=true\/X.env.scope.names.lookup x=some .local:=by first|exact .inl rfl|exact .inr rfl|assumption):
  PS X (.AugAssign (.Name x pos') op e pos) (wc i te ti):=by
 intro pins s σ H D I h;obtain⟨v,e1,h⟩:=h;obtain⟨m,hn,hl⟩:=I.loc;have zM:Vis X.env.scope x:=by rcases hx with k|k;exact .inl k;exact .inr<|.inl k
 obtain⟨u,r,l⟩:=hl i x v hi e1 zM;refine wpAny_AugAssign_Name ?_;have go:wpAny (model X.prog X.w) X.A (eval e X.env) (fun w s₂=>wpAny (model X.prog X.w) X.A (inplaceOp op u w) (fun r s₃=>wpAny (model X.prog X.w) X.A (storeName X.env x r) (fun _=>SP X pins D .next) X.xe s₃) X.xe s₂) X.xe s:=by
  refine bO (he pins s σ H _ I h) fun w s1 zz=>?_;obtain⟨y,H1,I1,r1,q1⟩:=zz;refine bO (ho pins s1 σ H1 v y u w _ I1 r r1 q1) fun z s2 zz=>?_;obtain⟨zv,H2,I2,r2,q2⟩:=zz;exact jr I2 hN hi hx r2 (fun s3 I3=>⟨_,H2,I3,q2⟩) hf
 rcases l with⟨hk,hm⟩|⟨hk,c,hc,hcell⟩
 ·exact Jn I.ok.kind hk hn hm go
 ·rcases hk with hk | hk;·exact JA I.ok.kind hk hc hcell go
  ·rcases hx with k | k
   ·have:X.env.scope.names.lookup x=some .free:=hk;rw[k]at this;cases this
   ·have:X.env.scope.names.lookup x=some .free:=hk;rw[k]at this;cases this
def AK(f:Int->Int->Int):A1:=fun x y H Q=>∃i j,x=.int i/\y=.int j/\Q (.int<|f i j) H
theorem sI:AJ X .Add (AK fun i j=>i+j):=by
 intro pins s σ H x y v u Q I r1 r2 h;obtain⟨i,j,e1,e2,q⟩:=h;subst e1;subst e2;obtain⟨t,rfl⟩:=r1;obtain⟨t',rfl⟩:=r2;exact iadd_int ⟨.int _,H,I.tok _,⟨_,rfl⟩,q⟩
theorem yJ:AJ X .Sub (AK fun i j=>i-j):=by
 intro pins s σ H x y v u Q I r1 r2 h;obtain⟨i,j,e1,e2,q⟩:=h;subst e1;subst e2;obtain⟨t,rfl⟩:=r1;obtain⟨t',rfl⟩:=r2;exact isub_int ⟨.int _,H,I.tok _,⟨_,rfl⟩,q⟩
end
section
variable{X:Cx}{pos:Pos}
def oz(c:TT)(tb:TS):TS:=fun D σ H=>∃W:Nat->St->Hp->Prop,(∃m,W m σ H)/\∀m σ H,W m σ H->
 c σ H fun b H1=>if b=true then ∃N:St->Hp->Prop,(∀σ' H',N σ' H'->∃m',m'<m/\W m' σ' H')/\tb {D with nx:=N,ct:=N,bk:=D.nx} σ H1 else D.nx σ H1
theorem mK{c:Expr}{body:List Stmt}{tc:TT}{tb:TS}(hp:PassesOwn (model X.prog X.w) X.A X.env X.xe)(hc:PT X c tc)(hb:PSs X body tb):PS X (.While c body [] pos) (oz tc tb):=by
 intro pins s σ H D I h;obtain⟨W,⟨m0,w0⟩,turn⟩:=h;refine wpAny_While<|codeAny_whileLoop (fun n s'=>∃σ' H',Inv X pins σ' H' s'/\W n σ' H') ?_ m0 ⟨σ,H,I,w0⟩;rintro n s1 ⟨σ1,H1,I1,w1⟩;refine Fz hp<|bO (hc pins s1 σ1 H1 _ I1<|turn n σ1 H1 w1) fun b s2 zz=>?_;obtain⟨H2,I2,q2⟩:=zz;cases b with
 |true=>
  obtain⟨N,hN,q2⟩:=q2;rw[if_pos rfl];refine Fz hp<|bO (hb pins s2 σ1 H2 _ I2 q2) fun f s3 q3=>?_;cases f with
  |next=>
   obtain⟨σ3,H3,I3,n3⟩:=q3;obtain⟨m',hm,w3⟩:=hN σ3 H3 n3;exact⟨m',hm,σ3,H3,I3,w3⟩
  |cont=>
   obtain⟨σ3,H3,I3,n3⟩:=q3;obtain⟨m',hm,w3⟩:=hN σ3 H3 n3;exact⟨m',hm,σ3,H3,I3,w3⟩
  |brk=>exact q3
  |ret v=>exact q3
 |false=>
  rw[if_neg D0];exact Hw ⟨σ1,H2,I2,q2⟩
end
structure It where
 go:Nat->Hp->Prop
 yld:Nat->Hp->V->Hp->Prop
 stop:Nat->Hp->Prop
def FpOk(X:Cx)(pins:List (Addr×Obj))(H:Hp)(b:Addr):Prop:=
 H b=none/\b≠X.env.locals/\b∉X.fs/\(b∈X.ex\/X.s₀.heap.objs.size<=b)/\(∀x c,X.env.cells.lookup x=some c->c≠b)/\∀p∈X.pn++pins,p.1≠b
theorem Inv.fpOk{X:Cx}{pins:List (Addr×Obj)}{σ:St}{H H':Hp}{s:CM}{b:Addr}(I:Inv X pins σ H s)(hb:s.heap.objs.size<=b)(hn:H' b=none):FpOk X pins H' b:=by
 refine⟨hn,GK<|CW I.lt hb,I.nofs hb,.inr<|EF I.sz hb,fun x c e z=>?_,fun p hp z=>?_⟩
 ·obtain⟨v,q⟩:=I.cell x c e;exact absurd (CW q.lt (by rw[z];exact hb))<|Ee _
 ·exact absurd (CW (CV (I.pin p hp).1) (by rw[z];exact hb))<|Ee _
structure Turn(P:D6)(w:Di)(K:CG)(tg:Expr)(J:It)(fp:List Addr)(it:Addr)(tn:Nat->Heap->Prop):Prop where
 mem:it∈fp
 obj:∀i h,tn i h->∀b∈fp,∃o,h.get? b=some o/\∀v,o.data≠.cell v
 keep:∀i h h',tn i h->(∀b∈fp,∀o,h.get? b=some o->h'.get? b=some o)->tn i h'
 item:∀(X:Cx),X.prog=P->X.w=w->X.K=K->X.calm=true->∀(i:Nat)(pins:List (Addr×Obj))(s:CM)(σ:St)(H:Hp)(E:CI->CM->Prop),Inv X pins σ H s->(∀b∈fp,FpOk X pins H b)->tn i s.heap->J.go i H->
  wpAny (model P w) X.A (pyNext<|.ref it) (fun r s1=>∃u,r=some u/\
   wpAny (model P w) X.A (letOwnedTupleGo tg (.ref it) u) (fun _ s2=>∃x H',Inv X pins σ H' s2/\RelV x u/\J.yld i H x H'/\tn (i+1) s2.heap/\∀b∈fp,H' b=none) E s1) E s
 done:∀(X:Cx),X.prog=P->X.w=w->X.K=K->X.calm=true->∀(i:Nat)(pins:List (Addr×Obj))(s:CM)(σ:St)(H:Hp)(E:CI->CM->Prop),Inv X pins σ H s->(∀b∈fp,FpOk X pins H b)->tn i s.heap->J.stop i H->
  wpAny (model P w) X.A (pyNext<|.ref it) (fun r s1=>r=none/\Inv X pins σ H s1) E s
 self:∀(A:DL)(i:Nat)(s:CM)(Q:CI->CM->Prop)(E:CI->CM->Prop),tn i s.heap->Q (.ref it) s->wpAny (model P w) A (pyIter<|.ref it) Q E s
abbrev TI:=St->Hp->(It->Hp->Prop)->Prop
def Bx(X:Cx)(pins:List (Addr×Obj))(σ:St)(tg:Expr)(R:It->Hp->Prop)(itv:CI)(s2:CM):Prop:=
 ∃(it:Addr)(fp:List Addr)(tn:Nat->Heap->Prop)(J:It)(H':Hp),itv=.ref it/\Inv X pins σ H' s2/\Turn X.prog X.w X.K tg J fp it tn/\tn 0 s2.heap/\(∀b∈fp,FpOk X pins H' b)/\R J H'
def PI(X:Cx)(tg iter:Expr)(wi:TI):Prop:=
 ∀(pins:List (Addr×Obj))(s:CM)(σ:St)(H:Hp)(R:It->Hp->Prop),Inv X pins σ H s->wi σ H R->
  wpAny (model X.prog X.w) X.A (eval iter X.env) (fun v s1=>wpAny (model X.prog X.w) X.A (pyIter v) (Bx X pins σ tg R) X.xe s1) X.xe s
theorem mL{M:J4}{A:DL}{E:CI->CM->Prop}{s:CM}{tg:Expr}{it:Addr}{u:CI}{o:Obj}{n:String}{vs:Array CI}{Q:Unit->CM->Prop}(ho:s.heap.get? it=some o)(hc:o.cls=.type n)(hd:o.data=.fields vs)
    (hn:["enumerate","zip","dict_itemiterator","dict_reverseitemiterator","odict_iterator","itertools.zip_longest","itertools.pairwise"].contains n=false) (hQ:Q () s):wpAny M A (letOwnedTupleGo tg (.ref it) u) Q E s:=by
  unfold letOwnedTupleGo
  cases tg<;>first
    |exact CH hQ
    |(cases u<;>first
        |exact CH hQ
        | (refine CD (wpAny_load ho ?_)
           rw[hc,hd];show wpAny M A (if(["enumerate","zip","dict_itemiterator","dict_reverseitemiterator","odict_iterator","itertools.zip_longest","itertools.pairwise"].contains n&&vs[0]? ==some (rawInt _))=true then _ else _) Q E s;rw[if_neg (by intro h;rw[hn,KU]at h;cases h)];exact CH hQ))
def BJ(K:CG)(a:Addr):It:=
 ⟨fun i H=>∃xs x,SqL K H a xs/\xs[i]? =some x,fun i H x H'=>H'=H/\∀xs,SqL K H a xs->xs[i]? =some x,fun i H=>∃xs,SqL K H a xs/\xs.length<=i⟩
def By(lo:Int)(n:Nat):It:=⟨fun i _=>i<n,fun i H x H'=>H'=H/\x=.int (lo+i),fun i _=>n<=i⟩
theorem qT{P:D6}{w:Di}{K:CG}{tg:Expr}(a it:Addr):Turn P w K tg (BJ K a) [it] it (fun i h=>h.IsListIter it a i) where
 mem:=by simp
 obj:=fun i h st b hb=>by
  have e:b=it:=by simpa using hb
  subst e;obtain⟨o,e,c,d⟩:=st;exact⟨o,e,fun v z=>by rw[d]at z;cases z⟩
 keep:=fun i h h' st k=>st.at fun o e=>k it (by simp) o e
 item:=by
  intro X hP hw hK hc i pins s σ H E I hf st hg;subst hP hw hK;obtain⟨xs,x,hq,hx⟩:=hg;obtain⟨its,rv,p,hz⟩:=I.list hq;obtain⟨u,hu,ru⟩:=rv.get hx;obtain⟨f0,f1,f2,f3,f4,f5⟩:=hf it (by simp);refine wpAny_pyNext_list_item st p.isList (x:=u) (by simpa using hu) fun h' st' sb=>?_;have I1:Inv X pins σ H {s with heap:=h'}:=I.turned (t':=s.toks) (fun b o hb e=>(sb.2 b hb).trans e) f0 f1 f3 f4 f5;obtain⟨o,e,c,d⟩:=id st';exact⟨u,rfl,mL (s:={s with heap:=h'}) e c d (by decide) ⟨x,H,I1,ru,⟨rfl,fun ys hy=>by rw[I.list_inj hy hq];exact hx⟩,st',fun b hb=>(hf b hb).1⟩⟩
 done:=by
  intro X hP hw hK hc i pins s σ H E I hf st hg;subst hP hw hK;obtain⟨xs,hq,hx⟩:=hg;obtain⟨its,rv,p,hz⟩:=I.list hq;obtain⟨f0,f1,f2,f3,f4,f5⟩:=hf it (by simp);have hl:=rv.length;exact wpAny_pyNext_list_end (I.ok.hd hc) st p.isList (by simp;omega) fun h' eb=>⟨rfl,I.turned (t':=s.toks) (fun b o hb e=>eb b o hb e) f0 f1 f3 f4 f5⟩
 self:=fun _ _ _ _ _ st h=>wpAny_pyIter_listiter st h
theorem oA{P:D6}{w:Di}{K:CG}{tg:Expr}(it:Addr)(lo:Int)(n:Nat):Turn P w K tg (By lo n) [it] it (fun i h=>Jo h it (lo+(i:Nat)*1) ((n:Int)-(i:Nat)) 1) where
 mem:=by simp
 obj:=fun i h st b hb=>by
  have e:b=it:=by simpa using hb
  subst e;exact⟨_,st,fun v z=>by
   have z':I9 _=H0 v:=z;cases z'⟩
 keep:=fun i h h' st k=>k it (by simp) _ st
 item:=by
  intro X hP hw hK hc i pins s σ H E I hf st hg;subst hP hw hK;obtain⟨f0,f1,f2,f3,f4,f5⟩:=hf it (by simp);have W:=Walks.range (prog:=X.prog) (w:=X.w) (I.ok.hd hc) it lo 1 n;refine W.item i s _ _ hg st fun v h' tk hv st' kk=>?_;obtain⟨t,rfl⟩:=hv;have I1:Inv X pins σ H {s with heap:=h',toks:=tk}:=I.turned (fun b o hb e=>kk b o (by simpa using hb) e) f0 f1 f3 f4 f5;refine⟨_,rfl,mL (s:={s with heap:=h',toks:=tk}) (n:="range_iterator") st' rfl rfl (by decide) ⟨.int<|lo+i,H,I1,⟨t,?_⟩,⟨rfl,rfl⟩,st',fun b hb=>(hf b hb).1⟩⟩;rw[Int.mul_one]
 done:=by
  intro X hP hw hK hc i pins s σ H E I hf st hg;subst hP hw hK;obtain⟨f0,f1,f2,f3,f4,f5⟩:=hf it (by simp);exact IM (I.ok.hd hc) st (by have:n<=i:=hg;omega) fun h' eb=>⟨rfl,I.turned (t':=s.toks) (fun b o hb e=>eb b o hb e) f0 f1 f3 f4 f5⟩
 self:=fun _ _ _ _ _ st h=>GL st h
section
variable{X:Cx}{tg:Expr}
def sJ(K:CG)(tl:TE):TI:=fun σ H R=>tl σ H fun x H1=>∃a,x=.ref a/\(∃xs,SqL K H1 a xs)/\R (BJ K a) H1
theorem wd{l:Expr}{tl:TE}(hl:PE X l tl):PI X tg l (sJ X.K tl):=by
 intro pins s σ H R I h;refine bO (hl pins s σ H _ I h) fun v s1 zz=>?_;obtain⟨x,H1,I1,r1,q1⟩:=zz;obtain⟨a,e,⟨xs,hq⟩,q⟩:=q1;subst e;cases r1;obtain⟨its,rv,p,hz⟩:=I1.list hq;refine Ia p.isList ?_;refine⟨s1.heap.objs.size,[s1.heap.objs.size],_,_,H1,rfl,I1.kept (t':=s1.toks) fun b o e=>CL _ e,qT a _,⟨_,CU _ rfl,rfl,rfl⟩,fun b hb=>?_,q⟩;have e:b=s1.heap.objs.size:=by simpa using hb
 subst e;exact I1.fpOk (CN _)<|I1.hok.fresh<|CN _
theorem sL{pins:List (Addr×Obj)}{σ:St}{H:Hp}{s:CM}{R:It->Hp->Prop}{E:CI->CM->Prop}{lo hi:Int}{t u v:Tok}{tk:Nat}(I:Inv X pins σ H s)(h1: -(2^62)<=lo)(h2:lo<2^62)(h3: -(2^62)<=hi)(h4:hi<2^62)
  (q:R (By lo (hi-lo).toNat) H):wpAny (model X.prog X.w) X.A (pyIter<|.ref s.heap.objs.size) (Bx X pins σ tg R) E {s with heap:=s.heap.push {cls:=.type "range",data:=.fields #[.int lo t,.int hi u,.int 1 v]},toks:=tk}:=by
 refine wpAny_pyIter_range (Mg ..) (small_one h1 h2 h3 h4) ?_;have I1:Inv X pins σ H {s with heap:=s.heap.push {cls:=.type "range",data:=.fields #[.int lo t,.int hi u,.int 1 v]},toks:=tk}:=I.kept fun b o e=>CL _ e;refine⟨(s.heap.push {cls:=.type "range",data:=.fields #[.int lo t,.int hi u,.int 1 v]}).objs.size,[(s.heap.push {cls:=.type "range",data:=.fields #[.int lo t,.int hi u,.int 1 v]}).objs.size],_,_,H,rfl,
  I1.kept (t':=tk) fun b o e=>CL _ e,oA _ lo (hi-lo).toNat,?_,fun b hb=>?_,q⟩
 ·have e1:lo+((0:Nat):Int)*1=lo:=by simp
  have e2:(((hi-lo).toNat:Nat):Int)-((0:Nat):Int)=E6 lo hi 1:=by rw[rangeSize_one];split<;>omega
  show Jo _ _ (lo+((0:Nat):Int)*1) ((((hi-lo).toNat:Nat):Int)-((0:Nat):Int)) 1;rw[e1,e2];exact CU _ rfl
 ·have e:b=(s.heap.push {cls:=.type "range",data:=.fields #[.int lo t,.int hi u,.int 1 v]}).objs.size:=by simpa using hb
  subst e;exact I1.fpOk (CN _)<|I1.hok.fresh<|CN _
def yd(ta:TA):TI:=fun σ H R=>ta σ H fun vs H1=>∃j:Int,vs=[.int j]/\ -(2^62)<=j/\j<2^62/\R (By 0 j.toNat) H1
theorem iB{a:Expr}{ta:TA}{p pos:Pos}(hg:Gl X "range")(hm:X.mg "range"=none)(ha:PA X [a] ta)(hs:starEach [a] X.env=[(false,eval a X.env)]:=by rfl):PI X tg (.Call (.Name "range" p) [a] [] pos) (yd ta):=by
 intro pins s σ H R I h;refine MK<|fY I hg hm boot_range<|Ek (bO (ha pos pins s σ H _ I h) fun us s1⟨vs,H1,I1,r1,q1⟩=>?_) hs rfl;obtain⟨j,e,q1,q2,q⟩:=q1;subst e;cases r1 with
 |cons r rr=>
  cases rr;obtain⟨t,rfl⟩:=r;exact call_range_1 (sL I1 (by omega) (by omega) q1 q2 (by simpa using q))
def sM(wi:TI)(g:TG)(tb:TS):TS:=fun D σ H=>wi σ H fun J H1=>∃W:Nat->Nat->St->Hp->Prop,(∃m,W 0 m σ H1)/\∀i m σ H,W i m σ H->
 (J.stop i H/\D.nx σ H)\/(J.go i H/\∃N:St->Hp->Prop,(∀σ' H',N σ' H'->∃m',m'<m/\W (i+1) m' σ' H')/\∀x H',J.yld i H x H'->g x σ H' fun σ2 H2=>tb {D with nx:=N,ct:=N,bk:=D.nx} σ2 H2)
def iC(fp:List Addr)(h:Heap):List (Addr×Obj):=fp.filterMap fun b=>(h.get? b).map fun o=>(b,o)
theorem eJ{fp:List Addr}{h:Heap}{b:Addr}{o:Obj}(hb:b∈fp)(e:h.get? b=some o):(b,o)∈iC fp h:=GA.mpr ⟨b,hb,by rw[e];rfl⟩
theorem qU{fp:List Addr}{h:Heap}{p:Addr×Obj}(hp:p∈iC fp h):p.1∈fp/\h.get? p.1=some p.2:=by
 obtain⟨b,hb,e⟩:=GA.mp hp;cases q:h.get? b with
 |none=>rw[q]at e;cases e
 |some o=>
  rw[q]at e;have e':(b,o)=p:=DG e;subst e';exact⟨hb,q⟩
theorem Inv.pinned{pins:List (Addr×Obj)}{σ:St}{H:Hp}{s:CM}{fp:List Addr}(I:Inv X pins σ H s)(hf:∀b∈fp,FpOk X pins H b)(ho:∀b∈fp,∃o,s.heap.get? b=some o/\∀v,o.data≠.cell v):Inv X (pins++iC fp s.heap) σ H s:=
 I.pins_of fun p hp=>(DF.mp hp).elim (fun z=>I.pin p<|Dr _ z) fun z=>by
  obtain⟨hb,e⟩:=qU z;obtain⟨f0,f1,f2,_⟩:=hf p.1 hb;obtain⟨o,e',d⟩:=ho p.1 hb;rw[e]at e';cases e';exact⟨e,f0,f1,f2,d⟩
theorem Inv.unpinned{pins pl:List (Addr×Obj)}{σ:St}{H:Hp}{s:CM}(I:Inv X (pins++pl) σ H s):Inv X pins σ H s:=I.pins_of fun p hp=>I.pin p<|Dr _<|Hj _ hp
theorem cJ{iter:Expr}{body:List Stmt}{wi:TI}{g:TG}{tb:TS}{pos:Pos}(hp:PassesOwn (model X.prog X.w) X.A X.env X.xe)(hc:X.calm=true)(hi:PI X tg iter wi)(hg:PG X tg g)(hb:PSs X body tb)
  (hs:∀x,foldedSetIterable iter X.env x=pure x:=by intro _;rfl):PS X (.For tg iter body [] pos) (sM wi g tb):=by
 intro pins s σ H D I h;refine wpAny_For (bO (hi pins s σ H _ I h) fun v s1 h1=>bO h1 fun itv s2 h2=>?_) hs;obtain⟨it,fp,tn,J,H2,e,I2,T,st2,f2,W,⟨m0,w0⟩,turn⟩:=h2;subst e;have stat:∀{H':Hp},(∀b∈fp,H' b=none)->∀b∈fp,FpOk X pins H' b:=fun hn b hb=>⟨hn b hb,(f2 b hb).2⟩
 refine codeAny_forLoop_any (fun n s'=>∃i σ' H',Inv X pins σ' H' s'/\tn i s'.heap/\(∀b∈fp,H' b=none)/\W i n σ' H') ?_ m0 ⟨0,σ,H2,I2,st2,fun b hb=>(f2 b hb).1,w0⟩;rintro n s3 ⟨i,σ3,H3,I3,st3,fr3,w3⟩;rcases turn i n σ3 H3 w3 with⟨stop,qn⟩|⟨go,N,hN,step⟩
 ·refine Fz hp<|bO (T.done X rfl rfl rfl hc i pins s3 σ3 H3 X.xe I3 (stat fr3) st3 stop) fun r s4 zz=>?_;obtain⟨hr,I4⟩:=zz;subst hr;exact Hw ⟨σ3,H3,I4,qn⟩
 ·refine Fz hp<|bO (T.item X rfl rfl rfl hc i pins s3 σ3 H3 X.xe I3 (stat fr3) st3 go) fun r s4 zz=>?_;obtain⟨u,hr,h4⟩:=zz;subst hr;refine Fz hp<|bO h4 fun _ s5 zz=>?_;obtain⟨x,H5,I5,r5,y5,st5,fr5⟩:=zz;have I5':=I5.pinned (stat fr5)<|T.obj _ _ st5;refine Fz hp<|bO (hg _ s5 σ3 H5 x u _ I5' r5<|step x H5 y5) fun _ s6 zz=>?_;obtain⟨σ6,H6,I6,q6⟩:=zz;refine Fz hp<|bO (hb _ s6 σ6 H6 _ I6 q6) fun f s7 q7=>?_;have again:∀{σ7:St}{H7:Hp},Inv X (pins++iC fp s5.heap) σ7 H7 s7->N σ7 H7->∃m,m<n/\∃i σ' H',Inv X pins σ' H' s7/\tn i s7.heap/\(∀b∈fp,H' b=none)/\W i m σ' H':=fun{σ7 H7}I7 n7=>by
   obtain⟨m',hm,w7⟩:=hN σ7 H7 n7;refine⟨m',hm,i+1,σ7,H7,I7.unpinned,T.keep _ _ _ st5 fun b hb o e=>(I7.pin (b,o)<|Dr _<|Dr _<|eJ hb e).1,fun b hb=>?_,w7⟩;obtain⟨o,e,d⟩:=T.obj _ _ st5 b hb;exact(I7.pin (b,o)<|Dr _<|Dr _<|eJ hb e).2.1
  cases f with
  |next=>obtain⟨σ7,H7,I7,n7⟩:=q7;exact again I7 n7
  |cont=>obtain⟨σ7,H7,I7,n7⟩:=q7;exact again I7 n7
  |brk=>obtain⟨σ7,H7,I7,q7⟩:=q7;exact⟨σ7,H7,I7.unpinned,q7⟩
  |ret v=>obtain⟨x7,σ7,H7,I7,r7,q7⟩:=q7;exact⟨x7,σ7,H7,I7.unpinned,r7,q7⟩
end
abbrev R2:=V->V->Hp->VK->Prop
def OpR(X:Cx)(f:CI->CI->Sem CI)(r:R2):Prop:=
 ∀(pins:List (Addr×Obj))(s:CM)(σ:St)(H:Hp)(x y:V)(v u:CI)(Q:VK),Inv X pins σ H s->RelV x v->RelV y u->r x y H Q->
  wpAny (model X.prog X.w) X.A (f v u) (EP X pins σ Q) X.xe s
def Bz(X:Cx)(f:CI->Sem CI)(r:V->Hp->VK->Prop):Prop:=
 ∀(pins:List (Addr×Obj))(s:CM)(σ:St)(H:Hp)(x:V)(v:CI)(Q:VK),Inv X pins σ H s->RelV x v->r x H Q->
  wpAny (model X.prog X.w) X.A (f v) (EP X pins σ Q) X.xe s
def dn(X:Cx)(f:CI)(r:List V->Hp->VK->Prop):Prop:=
 ∀(pins:List (Addr×Obj))(s:CM)(σ:St)(H:Hp)(xs:List V)(us:List CI)(Q:VK),Inv X pins σ H s->Vals xs us->r xs H Q->
  wpAny (model X.prog X.w) X.A (call f us) (EP X pins σ Q) X.xe s
def cW(r:R2)(ta tb:TE):TE:=fun σ H Q=>ta σ H fun x H1=>tb σ H1 fun y H2=>r x y H2 Q
def fB(r:V->Hp->VK->Prop)(ta:TE):TE:=fun σ H Q=>ta σ H fun x H1=>r x H1 Q
def rI(C:Int->Int->Prop)(g:Int->Int->V):R2:=fun x y H Q=>∃i j,x=.int i/\y=.int j/\C i j/\Q (g i j) H
def eS(g:Int->Int->V):R2:=fun x y H Q=>∃i j,x=.int i/\y=.int j/\Q (g i j) H
def rU(g:Int->V):V->Hp->VK->Prop:=fun x H Q=>∃i,x=.int i/\Q (g i) H
section
variable{X:Cx}{a b c:Expr}{ta tb tc:TE}{pos:Pos}
theorem yK(ha:PE X a ta)(hb:PE X b tb){pins:List (Addr×Obj)}{s:CM}{σ:St}{H:Hp}{R:V->V->Hp->Prop}(I:Inv X pins σ H s)
  (h:ta σ H fun x H1=>tb σ H1 fun y H2=>R x y H2) {Q:CI->CM->Prop} {f:CI->CI->Sem CI}
  (hf:∀v u s2 x y H2,Inv X pins σ H2 s2->RelV x v->RelV y u->R x y H2->wpAny (model X.prog X.w) X.A (f v u) Q X.xe s2):
  wpAny (model X.prog X.w) X.A (eval a X.env) (fun v s₁=>wpAny (model X.prog X.w) X.A (eval b X.env) (fun u s₂=>wpAny (model X.prog X.w) X.A (f v u) Q X.xe s₂) X.xe s₁) X.xe s:=by
 refine bO (ha pins s σ H _ I h) fun v s1 zz=>?_;obtain⟨x,H1,I1,r1,q1⟩:=zz;refine bO (hb pins s1 σ H1 _ I1 q1) fun u s2 zz=>?_;obtain⟨y,H2,I2,r2,q2⟩:=zz;exact hf v u s2 x y H2 I2 r1 r2 q2
theorem ah{op:Mf}{r:R2}(ho:OpR X (binaryOp op) r)(ha:PE X a ta)(hb:PE X b tb):PE X (.BinOp a op b pos) (cW r ta tb):=by
 intro pins s σ H Q I h;exact wpAny_BinOp<|yK ha hb I h fun v u s2 x y H2 I2 rx ry q=>ho pins s2 σ H2 x y v u Q I2 rx ry q
theorem gX{op:UnaryOp}{r:V->Hp->VK->Prop}(ho:Bz X (unaryOp op) r)(ha:PE X a ta):PE X (.UnaryOp op a pos) (fB r ta):=by
 intro pins s σ H Q I h;refine UnaryOp_<|bO (ha pins s σ H _ I h) fun v s1 zz=>?_;obtain⟨x,H1,I1,r1,q1⟩:=zz;exact ho pins s1 σ H1 x v Q I1 r1 q1
theorem AL{f:CI->CI->Sem CI}{C:Int->Int->Prop}{g:Int->Int->Int}
  (rule:∀(i j:Int)(t u:Tok)(s:CM)(Q:CI->CM->Prop)(E:CI->CM->Prop),C i j->Q (.int (g i j) s.toks) {s with toks:=s.toks+1}->wpAny (model X.prog X.w) X.A (f (.int i t)<|.int j u) Q E s):
  OpR X f (rI C fun i j=>.int<|g i j):=by
 intro pins s σ H x y v u Q I rx ry h;obtain⟨i,j,rfl,rfl,hc,q⟩:=h;obtain⟨t,rfl⟩:=rx;obtain⟨t',rfl⟩:=ry;exact rule i j t t' s _ _ hc ⟨.int<|g i j,H,I.tok _,⟨_,rfl⟩,q⟩
theorem A3{f:CI->CI->Sem CI}{g:Int->Int->Int}
  (rule:∀(i j:Int)(t u:Tok)(s:CM)(Q:CI->CM->Prop)(E:CI->CM->Prop),Q (.int (g i j) s.toks) {s with toks:=s.toks+1}->wpAny (model X.prog X.w) X.A (f (.int i t)<|.int j u) Q E s):
  OpR X f (eS fun i j=>.int<|g i j):=by
 intro pins s σ H x y v u Q I rx ry h;obtain⟨i,j,rfl,rfl,q⟩:=h;obtain⟨t,rfl⟩:=rx;obtain⟨t',rfl⟩:=ry;exact rule i j t t' s _ _ ⟨.int<|g i j,H,I.tok _,⟨_,rfl⟩,q⟩
theorem we{f:CI->CI->Sem CI}{g:Int->Int->Bool}
  (rule:∀(i j:Int)(t u:Tok)(s:CM)(Q:CI->CM->Prop)(E:CI->CM->Prop),Q (.bool<|g i j) s->wpAny (model X.prog X.w) X.A (f (.int i t)<|.int j u) Q E s):
  OpR X f (eS fun i j=>.bl<|g i j):=by
 intro pins s σ H x y v u Q I rx ry h;obtain⟨i,j,rfl,rfl,q⟩:=h;obtain⟨t,rfl⟩:=rx;obtain⟨t',rfl⟩:=ry;exact rule i j t t' s _ _ ⟨.bl<|g i j,H,I,rfl,q⟩
def A4(i j:Int):Prop:=0<j/\j<1073741824
def A5(i j:Int):Prop:=0<=j/\j<=1000000/\i.natAbs<2^64
def CMul(i j:Int):Prop:=(-(2^64)<i/\i<2^64)\/(-(2^64)<j/\j<2^64)
theorem CMul.ok{i j:Int}(h:CMul i j):IntMulOk i j:=by
 rcases h with⟨h1,h2⟩|⟨h1,h2⟩
 ·exact .of_left<|Lu h1 h2
 ·exact .of_right<|Lu h1 h2
theorem bo:OpR X (binaryOp .Add) (eS fun i j=>.int<|i+j):=A3 fun _ _ _ _ _ _ _ q=>add_int q
theorem fC:OpR X (binaryOp .Sub) (eS fun i j=>.int<|i-j):=A3 fun _ _ _ _ _ _ _ q=>sub_int q
theorem f6:OpR X (binaryOp .Mult) (rI CMul fun i j=>.int<|i*j):=AL fun _ _ _ _ _ _ _ hc q=>mul_int q hc.ok
theorem bf:OpR X (binaryOp .FloorDiv) (rI A4 fun i j=>.int<|i/j):=AL fun i j _ _ _ _ _ hc q=>by
 have h1:(0:Int)<j:=hc.1;have h2:j<1073741824:=hc.2;exact floordiv_int (by omega) (by rw[Int.fdiv_eq_ediv_of_nonneg i (by omega)];exact q) (.inl (PyProof.noPylong_small (by omega)))
theorem aH:OpR X (binaryOp .Mod) (rI (fun _ j=>0<j) fun i j=>.int<|i%j):=AL fun i j _ _ _ _ _ hc q=>by
 have h1:(0:Int)<j:=hc;exact mod_int' (by omega) (by rw[Int.fmod_eq_emod_of_nonneg i (by omega)];exact q)
theorem yL:OpR X (binaryOp .Pow) (rI A5 fun i j=>.int<|i^j.toNat):=AL fun _ _ _ _ _ _ _ hc q=>pow_int_small hc.1 hc.2.1 hc.2.2 q
theorem BQ{f:CI->Sem CI}{g:Int->Int}
  (rule:∀(i:Int)(t:Tok)(s:CM)(Q:CI->CM->Prop)(E:CI->CM->Prop),Q (.int (g i) s.toks) {s with toks:=s.toks+1}->wpAny (model X.prog X.w) X.A (f<|.int i t) Q E s):
  Bz X f (rU fun i=>.int<|g i):=by
 intro pins s σ H x v Q I rx h;obtain⟨i,rfl,q⟩:=h;obtain⟨t,rfl⟩:=rx;exact rule i t s _ _ ⟨.int<|g i,H,I.tok _,⟨_,rfl⟩,q⟩
theorem fD:Bz X (unaryOp .USub) (rU fun i=>.int<|-i):=BQ fun _ _ _ _ _ q=>neg_int q
end
def cE:V->V->Bool
 | .non,.non=>true| .non,.int _=>true| .int _,.non=>true| .non,.bl _=>true| .bl _,.non=>true| .non,.str _=>true| .str _,.non=>true
 | .int _,.int _=>true| .bl _,.bl _=>true| .str _,.str _=>true| .byt _,.byt _=>true
 | .int _,.str _=>true| .str _,.int _=>true| .bl _,.str _=>true| .str _,.bl _=>true
 |_,_=>false
def fP:R2:=fun x y H Q=>cE x y=true/\Q (.bl<|decide<|x=y) H
def fQ:R2:=fun x y H Q=>cE x y=true/\Q (.bl<|!decide (x=y)) H
theorem pP{i j:Int}:decide (V.int i=V.int j)=(i==j):=by
 rw[FA];simp
theorem sN{i j:Bool}:decide (V.bl i=V.bl j)=(i==j):=by
 rw[FA];simp
theorem pQ{i j:Str}:decide (V.str i=V.str j)=(i==j):=by
 rw[FA];simp
theorem pR{i j:Array UInt8}:decide (V.byt i=V.byt j)=(i.toList==j.toList):=by
 rw[FA];cases i;cases j;simp
section
variable{X:Cx}{a b c:Expr}{ta tb tc:TE}{pos:Pos}
theorem aN{pins:List (Addr×Obj)}{σ:St}{H:Hp}{s:CM}{Q:VK}{k k':Bool}(I:Inv X pins σ H s)(q:Q (.bl k) H)(e:k=k'):EP X pins σ Q (.bool k') s:=by
 subst e;exact⟨.bl k,H,I,rfl,q⟩
theorem bX:OpR X (compareOp .Eq) fP:=by
 intro pins s σ H x y v u Q I rx ry h;obtain⟨hs,q⟩:=h;cases x with
 |non=>
  cases rx;cases y with
  |non=>cases ry;exact Lg (aN I q (by simp))
  |bl j=>cases ry;exact Lh (aN I q (by simp))
  |int j=>obtain⟨t',rfl⟩:=ry;exact Lv (aN I q (by simp))
  |str j=>obtain⟨t',rfl⟩:=ry;exact Lw (aN I q (by simp))
  |_=>exact absurd (show false=true from hs) D0
 |bl i=>
  cases rx;cases y with
  |non=>cases ry;exact Li (aN I q (by simp))
  |bl j=>cases ry;exact eq_bool<|aN I q sN
  |str j=>obtain⟨t',rfl⟩:=ry;exact Lj (aN I q (by simp))
  |_=>exact absurd (show false=true from hs) D0
 |int i=>
  obtain⟨t,rfl⟩:=rx;cases y with
  |non=>cases ry;exact Lx (aN I q (by simp))
  |int j=>obtain⟨t',rfl⟩:=ry;exact eq_int<|aN I q pP
  |str j=>obtain⟨t',rfl⟩:=ry;exact Ly (aN I q (by simp))
  |_=>exact absurd (show false=true from hs) D0
 |str i=>
  obtain⟨t,rfl⟩:=rx;cases y with
  |non=>cases ry;exact Lz (aN I q (by simp))
  |bl j=>cases ry;exact Lk (aN I q (by simp))
  |int j=>obtain⟨t',rfl⟩:=ry;exact LA (aN I q (by simp))
  |str j=>obtain⟨t',rfl⟩:=ry;exact eq_str<|aN I q pQ
  |_=>exact absurd (show false=true from hs) D0
 |byt i=>
  obtain⟨t,rfl⟩:=rx;cases y with
  |byt j=>obtain⟨t',rfl⟩:=ry;exact PySem.W.eq_bytes<|aN I q pR
  |_=>exact absurd (show false=true from hs) D0
 |_=>cases y<;>exact absurd (show false=true from hs) D0
theorem pS:OpR X (compareOp .NotEq) fQ:=by
 intro pins s σ H x y v u Q I rx ry h;obtain⟨hs,q⟩:=h;cases x with
 |non=>
  cases rx;cases y with
  |non=>cases ry;exact Ll (aN I q (by simp))
  |bl j=>cases ry;exact Lm (aN I q (by simp))
  |int j=>obtain⟨t',rfl⟩:=ry;exact LB (aN I q (by simp))
  |str j=>obtain⟨t',rfl⟩:=ry;exact LC (aN I q (by simp))
  |_=>exact absurd (show false=true from hs) D0
 |bl i=>
  cases rx;cases y with
  |non=>cases ry;exact Ln (aN I q (by simp))
  |bl j=>cases ry;exact ne_bool<|aN I q<|congrArg not sN
  |str j=>obtain⟨t',rfl⟩:=ry;exact Lo (aN I q (by simp))
  |_=>exact absurd (show false=true from hs) D0
 |int i=>
  obtain⟨t,rfl⟩:=rx;cases y with
  |non=>cases ry;exact LD (aN I q (by simp))
  |int j=>obtain⟨t',rfl⟩:=ry;exact ne_int<|aN I q<|congrArg not pP
  |str j=>obtain⟨t',rfl⟩:=ry;exact LF (aN I q (by simp))
  |_=>exact absurd (show false=true from hs) D0
 |str i=>
  obtain⟨t,rfl⟩:=rx;cases y with
  |non=>cases ry;exact LG (aN I q (by simp))
  |bl j=>cases ry;exact Lp (aN I q (by simp))
  |int j=>obtain⟨t',rfl⟩:=ry;exact LH (aN I q (by simp))
  |str j=>obtain⟨t',rfl⟩:=ry;exact ne_str<|aN I q<|congrArg not pQ
  |_=>exact absurd (show false=true from hs) D0
 |byt i=>
  obtain⟨t,rfl⟩:=rx;cases y with
  |byt j=>obtain⟨t',rfl⟩:=ry;exact PySem.W.ne_bytes<|aN I q<|congrArg not pR
  |_=>exact absurd (show false=true from hs) D0
 |_=>cases y<;>exact absurd (show false=true from hs) D0
theorem mM:OpR X (compareOp .Lt) (eS fun i j=>.bl<|decide<|i<j):=we fun _ _ _ _ _ _ _ q=>lt_int q
theorem pT:OpR X (compareOp .LtE) (eS fun i j=>.bl<|decide<|i<=j):=we fun _ _ _ _ _ _ _ q=>le_int q
theorem mN:OpR X (compareOp .Gt) (eS fun i j=>.bl<|decide<|j<i):=we fun _ _ _ _ _ _ _ q=>gt_int q
theorem mO:OpR X (compareOp .GtE) (eS fun i j=>.bl<|decide<|j<=i):=we fun _ _ _ _ _ _ _ q=>ge_int q
theorem op_isN:OpR X (compareOp .Is) (fun x y H Q=>y=.non/\Q (.bl<|decide<|x=.non) H):=by
 intro pins s σ H x y v u Q I rx ry h;obtain⟨rfl,q⟩:=h;cases ry;refine is_none_gen<|aN I q ?_
 cases x<;>first
  |(cases rx;rfl)
  |(obtain⟨t,rfl⟩:=rx;rfl)
theorem wg:OpR X (compareOp .IsNot) (fun x y H Q=>y=.non/\Q (.bl<|!decide (x=.non)) H):=by
 intro pins s σ H x y v u Q I rx ry h;obtain⟨rfl,q⟩:=h;cases ry;refine isnot_none_gen<|aN I q ?_
 cases x<;>first
  |(cases rx;rfl)
  |(obtain⟨t,rfl⟩:=rx;rfl)
theorem OpR.or{f:CI->CI->Sem CI}{r r':R2}(h:OpR X f r)(h':OpR X f r'):OpR X f (fun x y H Q=>r x y H Q\/r' x y H Q):=by
 intro pins s σ H x y v u Q I rx ry q;rcases q with q|q
 ·exact h pins s σ H x y v u Q I rx ry q
 ·exact h' pins s σ H x y v u Q I rx ry q
theorem aw(b:Expr){op:CmpOp}(h:op≠.In:=by decide)(h2:op≠.NotIn:=by decide):behindInMarks op b=false:=by
 have e1:(op==CmpOp.In)=false:=by cases op<;>first|rfl|exact absurd rfl h
 have e2:(op==CmpOp.NotIn)=false:=by cases op<;>first|rfl|exact absurd rfl h2
 cases b<;>simp[behindInMarks,e1,e2]
theorem cO{op:CmpOp}{r:R2}(ho:OpR X (compareOp op) r)(ha:PE X a ta)(hb:PE X b tb)(hm:behindInMarks op b=false):PE X (.Compare a [op] [b] pos) (cW r ta tb):=by
 intro pins s σ H Q I h;exact wpAny_Compare1 (yK ha hb I h fun v u s2 x y H2 I2 rx ry q=>ho pins s2 σ H2 x y v u Q I2 rx ry q) hm
def bB(t:TE):TT:=fun σ H Q=>t σ H fun x H'=>∃k,x=.bl k/\Q k H'
theorem au{op:CmpOp}{r:R2}(ho:OpR X (compareOp op) r)(ha:PE X a ta)(hb:PE X b tb)(hm:behindInMarks op b=false):PT X (.Compare a [op] [b] pos) (bB<|cW r ta tb):=by
 intro pins s σ H Q I h;refine wpAny_isTrue_Compare1 (bO (ha pins s σ H _ I h) fun v s1⟨x,H1,I1,r1,q1⟩=>bO (hb pins s1 σ H1 _ I1 q1) fun u s2⟨y,H2,I2,r2,q2⟩=>
  bO (ho pins s2 σ H2 x y v u _ I2 r1 r2 q2) fun c s3⟨z,H3,I3,r3,k,e,q3⟩=>?_) hm
 subst e;cases r3;exact FD ⟨H3,I3,q3⟩
theorem jt:(sizeLine:Nat)<2^63:=by rw[Dz];decide
theorem dE:OpR X (binaryOp .Add) (fun x y H Q=>∃i j,x=.str i/\y=.str j/\i.length+j.length<=sizeLine/\Q (.str<|i++j) H):=by
 intro pins s σ H x y v u Q I rx ry h;obtain⟨i,j,rfl,rfl,hz,q⟩:=h;obtain⟨t,rfl⟩:=rx;obtain⟨t',rfl⟩:=ry;exact add_str (fun t' tk=>⟨.str<|i++j,H,I.tok _,⟨_,rfl⟩,q⟩) hz
theorem mP:OpR X (inplaceOp .Add) (fun x y H Q=>∃i j,x=.str i/\y=.str j/\i.length+j.length<=sizeLine/\Q (.str<|i++j) H):=by
 intro pins s σ H x y v u Q I rx ry h;obtain⟨i,j,rfl,rfl,hz,q⟩:=h;obtain⟨t,rfl⟩:=rx;obtain⟨t',rfl⟩:=ry;exact iadd_str (fun t' tk=>⟨.str<|i++j,H,I.tok _,⟨_,rfl⟩,q⟩) hz
theorem dY{x:V}{us:List CI}(r:Vals [x] us):∃u,us=[u]/\RelV x u:=by
 cases r with
 |cons r1 r2=>cases r2;exact⟨_,rfl,r1⟩
theorem ye{x y:V}{us:List CI}(r:Vals [x,y] us):∃u w',us=[u,w']/\RelV x u/\RelV y w':=by
 cases r with
 |cons r1 r2=>
  cases r2 with
  |cons r3 r4=>cases r4;exact⟨_,_,rfl,r1,r3⟩
theorem ju:dn X (.builtin "abs") (fun xs H Q=>∃i,xs=[.int i]/\Q (.int (if i<0 then -i else i)) H):=by
 intro pins s σ H xs us Q I r h;obtain⟨i,rfl,q⟩:=h;obtain⟨u,rfl,t,rfl⟩:=dY r;exact call_abs_int fun u tk=>⟨.int (if i<0 then -i else i),H,I.tok _,⟨_,rfl⟩,q⟩
theorem kP:dn X (.type "int") (fun xs H Q=>(∃i,xs=[.int i]/\Q (.int i) H)\/∃k,xs=[.bl k]/\Q (.int (if k then 1 else 0)) H):=by
 intro pins s σ H xs us Q I r h;rcases h with⟨i,rfl,q⟩|⟨k,rfl,q⟩
 ·obtain⟨u,rfl,t,rfl⟩:=dY r;exact call_int_int ⟨.int i,H,I,⟨_,rfl⟩,q⟩
 ·obtain⟨u,rfl,r1⟩:=dY r;cases r1;exact call_int_bool ⟨.int (if k then 1 else 0),H,I.tok _,⟨_,rfl⟩,q⟩
def qV(K:CG)(x:V)(H:Hp)(n:Nat):Prop:=
 match x with
 | .str y=>y.length<=sizeLine/\n=y.length
 | .byt y=>y.size<=sizeLine/\n=y.size
 | .ref p=>(∃xs,SqL K H p xs/\n=xs.length)\/∃xs,SqT K H p xs/\n=xs.length
 |_=>False
theorem sO:dn X (.builtin "len") (fun xs H Q=>∃x n,xs=[x]/\qV X.K x H n/\Q (.int n) H):=by
 intro pins s σ H xs us Q I r h;obtain⟨x,n,rfl,e,q⟩:=h;obtain⟨u,rfl,rx⟩:=dY r;have hl:=jt;have hs:sizeLine=16777216:=Dz;cases x with
 |str y=>
  obtain⟨t,rfl⟩:=rx;obtain⟨hy,e'⟩:y.length<=sizeLine/\n=y.length:=e;subst e';exact len_str (by omega) ⟨.int _,H,I.tok _,⟨_,rfl⟩,q⟩
 |byt y=>
  obtain⟨t,rfl⟩:=rx;obtain⟨hy,e'⟩:y.size<=sizeLine/\n=y.size:=e;subst e';exact PySem.W.len_bytes (by omega) ⟨.int _,H,I.tok _,⟨_,rfl⟩,q⟩
 |ref p=>
  cases rx;have e':(∃xs,SqL X.K H p xs/\n=xs.length)\/∃xs,SqT X.K H p xs/\n=xs.length:=e;rcases e' with⟨xs,hx,e'⟩|⟨xs,hx,e'⟩
  ·subst e';obtain⟨its,r',pl,hz⟩:=I.list hx;have hlen:=r'.length;exact Calls.call_len_list pl.isList (by simp only[D7];omega) ⟨.int xs.length,H,I.tok _,⟨_,by simp only[D7];rw[hlen]⟩,q⟩
  ·subst e';obtain⟨its,r',pl,hz⟩:=I.tuple hx;have hlen:=r'.length;exact len_tuple pl (by simp only[D7];omega) ⟨.int xs.length,H,I.tok _,⟨_,by simp only[D7];rw[hlen]⟩,q⟩
 |_=>exact(show False from e).elim
end
structure ObjM(h:Heap)(x dx C:Addr)(mA:Str->Option CI):Prop where
 obj:h.get? x=some (IZ C dx)
 ns:h.Ns1 dx mA
 ne:dx≠x
theorem qW{h:Heap}{dx:Addr}{mA:Str->Option CI}(n:h.Ns1 dx mA):∃od,h.get? dx=some od/\∀name,Jp name od=some (mA name):=by
 obtain⟨o,es,ep,ho,hd,hk,_,hm⟩:=n;refine⟨o,ho,fun name=>?_⟩;have e:=hm name;unfold nsFind findBy at e;rw[<-Array.find?_toList]at e;unfold Jp;rw[hd];dsimp only;split
 ·rename_i y q;rw[q]at e;exact congrArg some e
 ·rename_i q;rw[q]at e;have a:es.toList.any (·.refKey)=false:=by
   rw[List.any_eq_false];intro y hy;obtain⟨z,t,hkey⟩:=hk y<|Array.mem_toList_iff.mp hy;simp[DictEntry.refKey,hkey]
  have a':¬es.toList.any (·.refKey)=true:=by rw[a];exact D0
  rw[if_neg a'];exact congrArg some e
theorem ObjM.look{h:Heap}{x dx C:Addr}{mA:Str->Option CI}(I:ObjM h x dx C mA):∃od,PySem.W.InstAt h x (IZ C dx) C (some od)/\∀name,Jp name od=some (mA name):=
 let ⟨od,ho,hl⟩:=qW I.ns
 ⟨od,⟨I.obj,rfl,rfl,ho⟩,hl⟩
theorem RelO.some_of{v:V}{o:Option CI}(r:RelO (some v) o):∃u,o=some u/\RelV v u:=by
 cases o with
 |none=>exact(show False from r).elim
 |some u=>exact⟨u,rfl,r⟩
section
variable{P:D6}{w:Di}{H H':Hp}{h h':Heap}{a C dx:Addr}{fs fs':List (Str×V)}
theorem wj(hok:HOk P w H h)(e:H a=some (.ins C dx fs)):∃mA,ObjM h a dx C mA/\(∀f,RelO (fs.lookup f)<|mA f)/\LZ mA (fs.map (·.1))/\fs.length<=1000/\H dx=some (.own a):=by
 obtain⟨d,z,ne,ob,mA,n,r,q⟩:=(show ObjOk P w H h a (.ins C dx fs)from hok a _ e)
 exact⟨mA,⟨ob,n,ne⟩,r,q,z,d⟩
end
structure Cls(K:CG)(C:Addr):Prop where
 pg:Kj K C Str.empty=true
 hd:PySem.W.hasDictIn K C=true
 po:PySem.W.plainOver K C=true
 sa:KW K (.ref C) "__setattr__"=some (some<|.builtin "object.__setattr__")
theorem Cls.get{K:CG}{C:Addr}(c:Cls K C)(f:Str):Kj K C f=true:=c.pg
section
variable{X:Cx}{pins:List (Addr×Obj)}{σ:St}{H:Hp}{s:CM}{A:DL}{E:CI->CM->Prop}{Q:CI->CM->Prop}{c:CI}{b:Bool}
inductive TyOf(K:CG)(H:Hp):V->CI->Prop where
 |non:TyOf K H .non (.type "NoneType")
 |bl (x:Bool):TyOf K H (.bl x) (.type "bool")
 |int (i:Int):TyOf K H (.int i) (.type "int")
 |str (x:Str):TyOf K H (.str x) (.type "str")
 |flt (x:UInt64):TyOf K H (.flt x) (.type "float")
 |lst {a:Addr} {xs:List V} (e:H a=some (.lst xs)):TyOf K H (.ref a) (.type "list")
 |frz {a:Addr} {o:Obj} {xs:List V} (e:H a=some (.frz o<|.lst xs)):TyOf K H (.ref a) (.type "list")
 |tup {a:Addr} {xs:List V} (e:SqT K H a xs):TyOf K H (.ref a) (.type "tuple")
 |dK {a:Addr} {kvs:List (Key×V)} (e:H a=some (.dK kvs)):TyOf K H (.ref a) (.type "dict")
 |dT {a:Addr} {kvs:List (List Key×V)} (e:H a=some (.dT kvs)):TyOf K H (.ref a) (.type "dict")
 | ins {a C dx:Addr} {fs:List (Str×V)} (e:H a=some (.ins C dx fs)) (cl:Cls K C) (ha:KW K (.ref C) "__class__" =some (some<|.builtin "object.__class__"))
   (hn:PySem.W.specialIn K (.builtin "object.__class__") "__get__"=some (some<|.builtin "getset_descriptor.__get__")) (htk:PySem.W.takesIn K (.builtin "object.__class__")=some true)
   (hm:PySem.W.mroIn K C (.type "object")=some true):TyOf K H (.ref a) (.ref C)
theorem qX{x:V}{u t:CI}(I:Inv X pins σ H s)(rx:RelV x u)(ty:TyOf X.K H x t)(e:F8 X.K t c=some b)(h:∀tk,Q (.bool b) {s with toks:=tk}):
  wpAny (model X.prog X.w) A (call (.builtin "isinstance") [u,c]) Q E s:=by
 cases ty with
 |non=>cases (show u=E5 from rx);exact Ew PySem.W.kitx_none I.kIn FX e (fun z=>nomatch z) h
 |bl y=>cases (show u=KR y from rx);exact Ew PySem.W.kitx_bool I.kIn FX e (fun z=>nomatch z) h
 |int i=>obtain⟨t,q⟩:=(show ∃t,u=IB i t from rx);cases q;exact Ew PySem.W.kitx_int I.kIn FX e (fun z=>nomatch z) h
 |str y=>obtain⟨t,q⟩:=(show ∃t,u=Kh y t from rx);cases q;exact Ew PySem.W.kitx_str I.kIn FX e (fun z=>nomatch z) h
 |flt y=>obtain⟨t,q⟩:=(show ∃t,u=Me y t from rx);cases q;exact Ew PySem.W.kitx_float I.kIn FX e (fun z=>nomatch z) h
 | @lst a xs ea=>
  cases (show u=DS a from rx);obtain⟨_,_,n,_,h1⟩:=(show ObjOk X.prog X.w H s.heap a (.lst xs)from I.hok a _ ea)
  exact Ew K3 I.kIn ⟨_,h1,rfl⟩ e (fun z=>nomatch z) h
 | @frz a ob xs ea=>
  cases (show u=DS a from rx);obtain⟨_,_,_,n,_,h1⟩:=(show ObjOk X.prog X.w H s.heap a (.frz ob<|.lst xs)from I.hok a _ ea)
  exact Ew K3 I.kIn ⟨_,h1,rfl⟩ e (fun z=>nomatch z) h
 | @tup a xs ea=>
  cases (show u=DS a from rx);obtain⟨_,_,p,_⟩:=I.tuple ea;obtain⟨o,h1,h2,_⟩:=p;exact Ew PySem.W.kitx_tuple I.kIn ⟨o,h1,h2⟩ e (fun z=>nomatch z) h
 | @dK a kvs ea=>
  cases (show u=DS a from rx);obtain⟨_,_,vs,_,p⟩:=(show ObjOk X.prog X.w H s.heap a (.dK kvs)from I.hok a _ ea)
  obtain⟨o,es,ep,h1,h2,_⟩:=p;exact Ew K4 I.kIn ⟨o,h1,h2.1⟩ e (fun z=>nomatch z) h
 | @dT a kvs ea=>
  cases (show u=DS a from rx);obtain⟨_,_,xs,_,o,es,ep,h1,h2,_⟩:=(show ObjOk X.prog X.w H s.heap a (.dT kvs)from I.hok a _ ea)
  exact Ew K4 I.kIn ⟨o,h1,h2.1⟩ e (fun z=>nomatch z) h
 | @ins a C dx fs ea cl ha hn htk hm=>
  cases (show u=DS a from rx);obtain⟨mA,O,_⟩:=wj I.hok ea;obtain⟨od,J,_⟩:=O.look;exact Ew (PySem.W.kitx_own (cl.get _) cl.hd ha hn htk hm) I.kIn J e (fun z=>nomatch z) h
end
structure Room(k:Nat)(A:DL):Prop where
 hd:A.handled=none
 dp:A.depth+3*k+5<recursionLimit
 un:A.units+16*k+200<cLine
theorem Room.mono{j k:Nat}{A:DL}(r:Room k A)(h:j<=k):Room j A:=⟨r.hd,by have:=r.dp;omega,by have:=r.un;omega⟩
theorem Room.deeper{k:Nat}{A:DL}(r:Room (k+1) A)(env:Env):Room k (A.deeper env):=
 ⟨r.hd,by have:=r.dp;show A.depth+1+3*k+5<_;omega,by have:=r.un;show A.units+3+16*k+200<_;omega⟩
theorem Room.depth{k:Nat}{A:DL}(r:Room k A):A.depth<recursionLimit:=by have:=r.dp;omega
theorem Room.units0{k:Nat}{A:DL}(r:Room k A):A.units<cLine:=by have:=r.un;omega
def aL:TA:=fun _ H Q=>Q [] H
def ai(ta:TE)(tr:TA):TA:=fun σ H Q=>ta σ H fun x H1=>tr σ H1 fun xs H2=>Q (x::xs) H2
section
variable{X:Cx}{e:Expr}{es:List Expr}{te:TE}{t:TA}{pos:Pos}
theorem aa:PA X [] aL:=fun _ _ _ _ H Q I h=>K5 ⟨[],H,I,.nil,h⟩
theorem a5(ha:PE X e te)(hr:PA X es t)(hs:starEach (e::es) X.env=(false,eval e X.env)::starEach es X.env:=by rfl):PA X (e::es) (ai te t):=by
 intro pos pins s σ H Q I h;rw[hs];show wpAny _ _ (spliced ((false,eval e X.env)::backTo pos (starEach es X.env))) _ _ s;refine JR<|bO (ha pins s σ H _ I h) fun u s1 zz=>?_;obtain⟨x,H1,I1,r1,q1⟩:=zz;refine bO (hr pos pins s1 σ H1 _ I1 q1) fun us s2 zz=>?_;obtain⟨xs,H2,I2,r2,q2⟩:=zz;exact⟨x::xs,H2,I2,.cons r1 r2,q2⟩
def cj(t:TA):TE:=fun σ H Q=>t σ H fun xs H1=>xs.length<=sizeLine/\∀p,H1 p=none->Q (.ref p) (cI H1 p<|.tup xs)
def bY(t:TA):TE:=fun σ H Q=>t σ H fun xs H1=>xs.length<=sizeLine/\∀p,H1 p=none->Q (.ref p) (cI H1 p<|.lst xs)
theorem bD{x1}(h:PA X es t):PE X (.Tuple es x1 pos) (cj t):=by
 intro pins s σ H Q I hq;refine wpAny_Tuple_spliced (bO (h pos pins s σ H _ I hq) fun us s1⟨xs,H1,I1,r,z,q⟩=>⟨by rw[<-r.length];exact z,?_⟩);have hf:H1 s1.heap.objs.size=none:=I1.hok.fresh<|CN _;refine⟨.ref s1.heap.objs.size,cI H1 s1.heap.objs.size<|.tup xs,I1.laid (t':=s1.toks) (fun b u e=>CL _ e) (CN _) ?_,rfl,q _ hf⟩;exact⟨z,us,r,⟨_,CU _ rfl,⟨rfl,rfl⟩,_,rfl⟩⟩
theorem bS(h:PA X es t):PE X (.List es pos) (bY t):=by
 intro pins s σ H Q I hq;refine wpAny_List_spliced (bO (h pos pins s σ H _ I hq) fun us s1⟨xs,H1,I1,r,z,q⟩=>⟨by rw[<-r.length];exact z,?_⟩);have hf:H1 s1.heap.objs.size=none:=I1.hok.fresh<|CN _;refine⟨.ref s1.heap.objs.size,cI H1 s1.heap.objs.size<|.lst xs,I1.laid (t':=s1.toks) (fun b u e=>CL _ e) (CN _) ?_,rfl,q _ hf⟩;exact⟨z,us,0,r,CU _ rfl⟩
end
abbrev Sp:=List V->Hp->VK->XK->Prop
abbrev CXT:=List Env->Hp->CM->XK->CI->CM->Prop
structure Env0(P:D6)(w:Di)(K:CG)(mg:Str->Option CI)(base:Heap)(A:DL)(outer:List Env)(s:CM)(H:Hp):Prop where
 frames:A.frames=some outer
 mod:Mod K mg base
 bs:∀b o,base.get? b=some o->s.heap.get? b=some o/\H b=none
 bsz:base.objs.size<=s.heap.objs.size
 funs:s.heap.FunFrames base outer
 frf:∀b∈frs outer,H b=none
 hok:HOk P w H s.heap
 bare:I0 s.gens
def CE(outer:List Env)(P:D6)(w:Di)(H:Hp)(s:CM)(Q:VK)(u:CI)(s':CM):Prop:=
 ∃v H',s'.os=s.os/\I0 s'.gens/\Un (frs outer) [] H H' s.heap s'.heap/\HOk P w H' s'.heap/\RelV v u/\Q v H'
def CR(CX:CXT)(outer:List Env)(P:D6)(w:Di)(H:Hp)(s:CM)(Q:VK)(E:XK)(r:KY)(s':CM):Prop:=
 match r with
 | .ok (.ret u)=>CE outer P w H s Q u s'
 | .ok _=>False
 | .error e=>CX outer H s E e s'
structure FnOk(P:D6)(w:Di)(K:CG)(mg:Str->Option CI)(base:Heap)(CX:CXT)(k:Nat)(f:Addr)(fd:Dk)(ps:List Str)(sp:Sp):Prop where
 len:∀vs H Q E,sp vs H Q E->vs.length=ps.length
 run:∀(A:DL)(outer:List Env)(s:CM)(H:Hp)(args:Args)(us:List CI)(vs:List V)(Q:VK)(E:XK),Room k A->Env0 P w K mg base A outer s H->K6 s fd args (ps.zip us)->Vals vs us->sp vs H Q E->
  codeAny (model P w) A (.call (.ref f) args) (CR CX outer P w H s Q E) s
theorem FnOk.imp{P:D6}{w:Di}{K:CG}{mg:Str->Option CI}{base:Heap}{CX:CXT}{k:Nat}{f:Addr}{fd:Dk}{ps:List Str}{sp sp':Sp}(F:FnOk P w K mg base CX k f fd ps sp)
  (h:∀vs H Q E,sp' vs H Q E->sp vs H Q E):FnOk P w K mg base CX k f fd ps sp':=
 ⟨fun vs H Q E q=>F.len vs H Q E<|h _ _ _ _ q,fun A outer s H args us vs Q E hr he hb hv hs=>F.run A outer s H args us vs Q E hr he hb hv<|h _ _ _ _ hs⟩
section
variable{X:Cx}{pins:List (Addr×Obj)}{σ:St}{H:Hp}{s s':CM}
theorem Inv.env0(I:Inv X pins σ H s):Env0 X.prog X.w X.K X.mg X.base X.A X.stack s H:=
 ⟨I.ok.frames,I.ok.mod,I.bs,EF I.ok.bsz I.sz,I.stack,I.stkFree,I.hok,I.bare⟩
theorem Inv.after{Q:VK}{u:CI}(I:Inv X pins σ H s)(h:CE X.stack X.prog X.w H s Q u s'):EP X pins σ Q u s':=by
 obtain⟨v,H',os,bare,un,hok,r,q⟩:=h;obtain⟨hh,g,d,t,os'⟩:=s';obtain rfl:os'=s.os:=os;exact⟨v,H',I.call (h':=hh) (g':=g) (d':=d) (t':=t) (ch:=[]) un hok bare (fun b z=>absurd z (by simp)),r,q⟩
end
def aT(sp:Sp)(dvs:List V)(E:XK)(t:TA):TE:=fun σ H Q=>t σ H fun vs H1=>sp (vs++dvs) H1 Q E
def Binds(K:CG)(fd:Dk)(ps:List Str)(ds:List CI):Prop:=
 ∀(s:CM)(us:List CI),K.In s.heap->(us++ds).length=ps.length->K6 s fd ⟨us,[]⟩ (ps.zip<|us++ds)
theorem Binds.all{K:CG}{fd:Dk}{ps:List Str}(h:∀us:List CI,us.length=ps.length->bindArgs fd ⟨us,[]⟩=pure (ps.zip us)):Binds K fd ps []:=fun s us _ hl=>by
 rw[Ex]at hl ⊢;exact .of_eq<|h us hl
def oB(CX:CXT)(X:Cx)(E:XK):Prop:=∀(pins:List (Addr×Obj))(σ:St)(H:Hp)(s:CM)(e:CI)(s':CM),Inv X pins σ H s->CX X.stack H s E e s'->X.xe e s'
section
variable{X:Cx}{CX:CXT}{k:Nat}{f C:Addr}{fd:Dk}{ps:List Str}{sp:Sp}{dvs:List V}{ds:List CI}{E:XK}{x m:Str}{p pos apos:Pos}{e o:Expr}{es:List Expr}{ta:TE}{t:TA}
theorem yM{pins:List (Addr×Obj)}{σ:St}{H:Hp}{s:CM}{Q:VK}{us:List CI}{vs:List V}(F:FnOk X.prog X.w X.K X.mg X.base CX k f fd ps sp)(hr:Room k X.A)(hb:Binds X.K fd ps ds)(hd:Vals dvs ds)(hx:oB CX X E)
  (I:Inv X pins σ H s) (r:Vals vs us) (h:sp (vs++dvs) H Q E):wpAny (model X.prog X.w) X.A (call (.ref f) us) (EP X pins σ Q) X.xe s:=by
 have r2:Vals (vs++dvs) (us++ds):=r.append hd;have hl:(us++ds).length=ps.length:=by rw[<-r2.length];exact F.len _ _ _ _ h
 refine wpAny_call<|HE (F.run X.A X.stack s H ⟨us,[]⟩ (us++ds) (vs++dvs) Q E hr I.env0 (hb s us I.kIn hl) r2 h) fun r s' hq=>?_;cases r with
 |error e=>exact hx pins σ H s e s' I hq
 |ok fl=>
  cases fl with
  |ret u=>exact I.after hq
  |next=>exact FW hq
  |brk=>exact FW hq
  |cont=>exact FW hq
theorem wk(F:FnOk X.prog X.w X.K X.mg X.base CX k f fd ps sp)(hr:Room k X.A)(hg:Gl X x)(hm:X.mg x=some (.ref f))(hk:FK X.K (.ref f)=true)(hb:Binds X.K fd ps ds)(hd:Vals dvs ds)(hx:oB CX X E)
  (ha:PA X (e::es) t) (hdb:(x==("__debug__" :Str))=false:=by decide) (he:starEach (e::es) X.env=(false,eval e X.env)::starEach es X.env:=by rfl) (hpl:(backTo pos<|starEach es X.env).any (·.1)=false:=by rfl):
  PE X (.Call (.Name x p) (e::es) [] pos) (aT sp dvs E t):=by
 intro pins s σ H Q I h;refine HH<|pO I hg hm ?_ hdb;refine PySem.W.callWith_K (h₀:=X.base) I.ok.mod.kin hk (bO (ha pos pins s σ H _ I h) fun us s1⟨vs,H1,I1,r,q⟩=>⟨I1.kIn,?_⟩) he hpl;exact yM F hr hb hd hx I1 r q
end
structure FnScope(N P:List Str)(sc:G1):Prop where
 kind:sc.kind=.function
 co:sc.isCoroutine=false
 gen:sc.isGenerator=false
 nd:N.Nodup
 pre:N.take P.length=P
 par:∀x∈P,sc.names.lookup x=some .local\/sc.names.lookup x=some .cell
 nofree:∀y∈sc.names,y.2≠.free
theorem kQ{kindOf:Str->Option FL}{x:Str}:∀{binds:List (Str×CI)}{m:Str->Option CI},(∀v,(x,v)∉binds)->bindL kindOf binds m x=m x
 | [],_,_=>rfl
 |(n,v)::r,m,h=>by
  unfold bindL;rw[kQ fun w hw=>h w<|Df _ hw];split
  ·have:x≠n:=by rintro rfl;exact h v Dc
   simp[this]
  ·rfl
theorem kR{kindOf:Str->Option FL}{x:Str}:∀{binds:List (Str×CI)}{m:Str->Option CI},(∀v,(x,v)∉binds)->bindC kindOf binds m x=m x
 | [],_,_=>rfl
 |(n,v)::r,m,h=>by
  unfold bindC;rw[kR fun w hw=>h w<|Df _ hw];split;·rfl
  ·have:x≠n:=by rintro rfl;exact h v Dc
   simp[this]
theorem kS{kindOf:Str->Option FL}{x:Str}{v:CI}:∀{P:List Str}{vs:List CI}{i:Nat}{m:Str->Option CI},P.Nodup->P[i]? =some x->vs[i]? =some v->kindOf x=some .local->
  bindL kindOf (P.zip vs) m x=some v
 | [],_,_,_,_,h,_,_=>by simp at h
 |_::_,[],_,_,_,_,h,_=>by simp at h
 |p::P,w::vs,0,m,nd,h1,h2,hk=>by
  simp at h1 h2;subst h1;subst h2;show bindL kindOf ((p,w)::P.zip vs) m p=_;unfold bindL;rw[kQ fun v hv=>(EW.mp nd).1 (Gy hv).1,if_pos hk];simp
 |p::P,w::vs,i+1,m,nd,h1,h2,hk=>by
  show bindL kindOf ((p,w)::P.zip vs) m x=_;unfold bindL;exact kS (i:=i) (EW.mp nd).2 (by simpa using h1) (by simpa using h2) hk
theorem kT{kindOf:Str->Option FL}{x:Str}{v:CI}:∀{P:List Str}{vs:List CI}{i:Nat}{m:Str->Option CI},P.Nodup->P[i]? =some x->vs[i]? =some v->kindOf x≠some .local->
  bindC kindOf (P.zip vs) m x=some v
 | [],_,_,_,_,h,_,_=>by simp at h
 |_::_,[],_,_,_,_,h,_=>by simp at h
 |p::P,w::vs,0,m,nd,h1,h2,hk=>by
  simp at h1 h2;subst h1;subst h2;show bindC kindOf ((p,w)::P.zip vs) m p=_;unfold bindC;rw[kR fun v hv=>(EW.mp nd).1 (Gy hv).1,if_neg hk];simp
 |p::P,w::vs,i+1,m,nd,h1,h2,hk=>by
  show bindC kindOf ((p,w)::P.zip vs) m x=_;unfold bindC;exact kT (i:=i) (EW.mp nd).2 (by simpa using h1) (by simpa using h2) hk
def start(N:List Str)(vs:List V):St:=vs.map some++F9 (N.length-vs.length) none
def qY(CX:CXT)(P:D6)(w:Di)(K:CG)(mg:Str->Option CI)(base:Heap)(N:List Str)(qual:Str)(scope:G1)(f:Addr)(cd:CI)(A:DL)(outer:List Env)(s:CM)(H:Hp)(E:XK):Cx where
 prog:=P
 w:=w
 K:=K
 mg:=mg
 base:=base
 A:=A.deeper<|envOfC qual scope s.heap.objs.size f cd
 N:=N
 s₀:=s
 H₀:=H
 env:=envOfC qual scope s.heap.objs.size f cd
 outer:=outer
 stack:=envOfC qual scope s.heap.objs.size f cd::outer
 ex:=[]
 calm:=true
 fn:=fun _=>true
 pn:=[]
 xe:=fun e s'=>wpAny (model P w) (A.deeper<|envOfC qual scope s.heap.objs.size f cd) (leaving (envOfC qual scope s.heap.objs.size f cd) e) (fun _ s''=>CX outer H s E e s'') (fun e' s''=>CX outer H s E e' s'') s'
theorem mQ{sc:G1}{n:Nat}{x:Str}(h:sc.names.lookup x=some .cell):∃c,(cellsFrom n sc.names []).lookup x=some c:=by
 have q:=GN sc.names n []<|.inl h;exact Ip.mp q
theorem qZ{CX:CXT}{P:D6}{w:Di}{K:CG}{mg:Str->Option CI}{base:Heap}{N ps:List Str}{qual:Str}{scope:G1}{f:Addr}{cd:CI}{A:DL}{outer:List Env}{s s1:CM}{H:Hp}{E:XK}{us:List CI}{vs:List V}
  (S:FnScope N ps scope) (hd:A.handled=none) (e0:Env0 P w K mg base A outer s H) (hl:vs.length=ps.length) (r:Vals vs us)
  (x:InCallC s s.heap.objs.size (bindL (envOfC qual scope s.heap.objs.size f cd).kindOf (ps.zip us) fun _=>none) (cellsFrom (s.heap.objs.size+1) scope.names []) (bindC (envOfC qual scope s.heap.objs.size f cd).kindOf (ps.zip us) fun _=>none) s1):
  Inv (qY CX P w K mg base N qual scope f cd A outer s H E) [] (start N vs) H s1:=by
 have hpl:ps.length<=N.length:=by have:=congrArg FV S.pre;rw[H9]at this;omega
 obtain⟨h1,tk,rfl,hk⟩:=x.done;have noA:∀b:Addr,b∉(qY CX P w K mg base N qual scope f cd A outer s H E).ex:=fun b z=>absurd (show b∈([]:List Addr)from z) (by simp);refine⟨⟨e0.mod,S.kind,rfl,rfl,CN _,fun y z c h1 h2=>?_,fun y hy=>?_,fun y c _ h=>?_,fun _=>hd,Around.frames_deeper e0.frames,.inr ⟨rfl,rfl⟩,fun b z=>absurd z<|noA b,e0.bs,e0.bsz,fun b _ _=>noA b,fun b z=>absurd z<|noA b,e0.funs,e0.frf⟩,
  rfl,e0.bare,Un.kept hk,⟨_,x.toInCall.ns,fun i y v h1 h2 h3=>?_⟩,fun y c h=>⟨_,x.cell y c h⟩,e0.hok.fresh (CN _),fun y c h=>?_,fun p hp=>absurd (show p∈([]:List (Addr×Obj))from hp) (by simp),e0.hok.kept hk,?_⟩
 ·exact name_of_addr x.apart (Ez h1)<|Ez h2
 ·have hy:scope.names.lookup y=some .cell\/scope.names.lookup y=some .free:=hy;rcases hy with hy|hy
  ·exact mQ hy
  ·exact absurd rfl<|S.nofree _<|Ez hy
 ·exact Gk<|x.above y c<|Ez h
 ·have hi:i<vs.length:=by
   unfold start at h2;by_cases hi:i<vs.length;·exact hi
   ·rw[D4 (by simpa using hi)]at h2;rw[List.getElem?_replicate]at h2;split at h2<;>cases h2
  have ha:vs[i]? =some v:=by
   unfold start at h2;rw[D3 (by simpa using hi),CS]at h2;cases e:vs[i]? with
   |none=>rw[e]at h2;cases h2
   |some a=>rw[e]at h2;cases h2;rfl
  obtain⟨u,hu,rv⟩:=r.get ha;have hp:ps[i]? =some y:=by
   rw[<-S.pre,DP (by omega)];exact h1
  have ndP:ps.Nodup:=by rw[<-S.pre];exact S.nd.sublist<|List.take_sublist _ _
  refine⟨u,rv,?_⟩;rcases S.par y (Dj hp)with k|k
  ·exact .inl ⟨k,kS ndP hp hu k⟩
  ·obtain⟨c,e⟩:=mQ (n:=s.heap.objs.size+1) k;refine .inr ⟨.inl k,c,e,?_⟩;have q:=x.cell y c e;rw[kT ndP hp hu (by show scope.names.lookup y≠_;rw[k];decide)]at q;exact q
 ·exact e0.hok.fresh<|Gk<|x.above y c<|Ez h
 ·unfold start;show _=N.length;rw[F0,D5,List.length_replicate];omega
theorem A6{CX:CXT}{P:D6}{w:Di}{K:CG}{mg:Str->Option CI}{base:Heap}{k:Nat}{f:Addr}{name qual:Str}{params:Arguments}{body:List Stmt}{scope:G1}{dV kV doc pm cdv ct oc:CI}{an od:Option Addr}
  {osl:Array (Option CI)} {N ps:List Str} {sp:Sp} (lk:K.lookup f=some ⟨oc,od,.func<|F6 name qual params body scope dV kV doc pm an cdv ct,osl⟩) (hcd:Ge K cdv qual=true) (S:FnScope N ps scope)
  (len:∀vs H Q E,sp vs H Q E->vs.length=ps.length)
  (hbody:∀(A:DL) (outer:List Env) (s:CM) (H:Hp) (vs:List V) (Q:VK) (E:XK),Room k (A.deeper<|envOfC qual scope s.heap.objs.size f cdv)->sp vs H Q E->
   ∃t,PSs (qY CX P w K mg base N qual scope f cdv A outer s H E) body t/\t {nx:=fun _ H'=>Q .non H',rt:=Q} (start N vs) H):
  FnOk P w K mg base CX (k+1) f (F6 name qual params body scope dV kV doc pm an cdv ct) ps sp:=by
 refine⟨len,fun A outer s H args us vs Q E hr e0 hb r hsp=>?_⟩;have hl:=len _ _ _ _ hsp;have KX:K.In s.heap:=e0.mod.kin.keeps fun b o e=>(e0.bs b o e).1;have lim:s.heap.NoLimit:=e0.mod.nolimit.keeps fun b o e=>(e0.bs b o e).1;have hkind:∀y∈ps.zip us,scope.names.lookup y.1=some .local\/(scope.names.lookup y.1=some .cell/\((cellsFrom (s.heap.objs.size+1) scope.names []).lookup y.1).isSome=true):=fun⟨n,v⟩hy=>by
  rcases S.par n (Gy hy).1 with q|q;·exact .inl q
  ·exact .inr ⟨q,GN _ _ _<|.inl q⟩
 refine codeAny_call_function hr.depth (KX _ _ lk) rfl S.co S.gen rfl (PySem.W.codeRec_of KX hcd)<|hb _ _ _ _ ?_;refine wpAny_newFunctionEnv_cells S.kind hkind fun env he s1 x=>?_;subst he;refine⟨lim.keeps x.toInCall.keep,codeAny_func ?_⟩;obtain⟨t,ht,hq⟩:=hbody A outer s H vs Q E (hr.deeper _) hsp;have I:Inv (qY CX P w K mg base N qual scope f cdv A outer s H E) [] (start N vs) H s1:=qZ S hr.hd e0 hl r x;refine DZ (ht [] s1 (start N vs) H _ I hq) (fun fl s' hs=>?_) fun e s' hs=>hs;have fin:∀{σ':St}{H':Hp}{v:V}{u:CI},Inv (qY CX P w K mg base N qual scope f cdv A outer s H E) [] σ' H' s'->RelV v u->Q v H'->CE outer P w H s Q u s':=
  fun{σ' H' v u}J rv q=>⟨v,H',J.os,J.bare,J.base,J.hok,rv,q⟩
 cases fl with
 |ret u=>
  obtain⟨v,σ',H',J,rv,q⟩:=hs;exact fin J rv q
 |next=>
  obtain⟨σ',H',J,q⟩:=hs;exact fin (v:=V.non) (u:=E5) J rfl q
 |brk=>
  obtain⟨_,_,_,q⟩:=hs;exact FW q
 |cont=>
  obtain⟨_,_,_,q⟩:=hs;exact FW q
section
variable{X:Cx}{x:Str}{p pos:Pos}{e:Expr}{es:List Expr}{t:TA}{id T:String}{r:List V->Hp->VK->Prop}
def dZ(r:List V->Hp->VK->Prop)(t:TA):TE:=fun σ H Q=>t σ H fun vs H1=>r vs H1 Q
theorem aG(hc:dn X (.builtin id) r)(hg:Gl X x)(hm:X.mg x=none)(hv:bootBuiltins x=some (.builtin id))(ha:PA X (e::es) t)(hn:x≠"__name__":=by decide)(hdb:(x==("__debug__" :Str))=false:=by decide)
  (he:starEach (e::es) X.env=(false,eval e X.env)::starEach es X.env:=by rfl) (hpl:(backTo pos<|starEach es X.env).any (·.1)=false:=by rfl):PE X (.Call (.Name x p) (e::es) [] pos) (dZ r t):=by
 intro pins s σ H Q I h;refine HH<|fY I hg hm hv ?_ hn hdb;exact Kk (bO (ha pos pins s σ H _ I h) fun us s1⟨vs,H1,I1,r1,q1⟩=>hc pins s1 σ H1 vs us Q I1 r1 q1) he hpl
theorem dF(hc:dn X (.type T) r)(hg:Gl X x)(hm:X.mg x=none)(hv:bootBuiltins x=some (.type T))(ha:PA X (e::es) t)(hn:x≠"__name__":=by decide)(hdb:(x==("__debug__" :Str))=false:=by decide)
  (he:starEach (e::es) X.env=(false,eval e X.env)::starEach es X.env:=by rfl) (hpl:(backTo pos<|starEach es X.env).any (·.1)=false:=by rfl):PE X (.Call (.Name x p) (e::es) [] pos) (dZ r t):=by
 intro pins s σ H Q I h;refine HH<|fY I hg hm hv ?_ hn hdb;exact Ek (bO (ha pos pins s σ H _ I h) fun us s1⟨vs,H1,I1,r1,q1⟩=>hc pins s1 σ H1 vs us Q I1 r1 q1) he hpl
end
end L2
open L2.FnScope renaming nd->MJ
open L2.PW renaming pt->Jy
open L2.RelO renaming some_of->M6
open L2.SqL renaming of->EB
open L2.SqT renaming of->JZ
open L2.V renaming int->FT,str->Hv,bl->MQ
namespace HT
open PySem PyProof.Rows
section
open PySem.SeqAt
open PySem.AutoSeq1 (wpAny_loadPart')
open PySem.MeetsSeq PySem.MeetsSeq2 PySem.MeetsSeq3
end
section
variable{prog:D6}{w:Di}{A:DL}{E:CI->CM->Prop}{s:CM}
def sIx(n d:Nat):Option Int->Nat
 |none=>d
 |some v=>if v<0 then(v+(n:Int)).toNat else min v.toNat n
theorem sIx_le(n d:Nat)(hd:d<=n)(o:Option Int):sIx n d o<=n:=by
 cases o with
 |none=>exact hd
 |some v=>
  show(if v<0 then(v+(n:Int)).toNat else min v.toNat n)<=n;by_cases hv:v<0;·rw[if_pos hv];omega
  ·rw[if_neg hv];exact Nat.min_le_right _ _
end
end HT
namespace L2
open PySem PySem.Spec PyProof.Rows
abbrev TO:=St->Hp->(Option Int->Hp->Prop)->Prop
def PO(X:Cx)(e:Option Expr)(t:TO):Prop:=
 ∀(pins:List (Addr×Obj))(s:CM)(σ:St)(H:Hp)(Q:Option Int->Hp->Prop),Inv X pins σ H s->t σ H Q->
  wpAny (model X.prog X.w) X.A (evalPart e X.env) (fun u s'=>∃o H',Inv X pins σ H' s'/\IsPart u o/\Q o H') X.xe s
def aI:TO:=fun _ H Q=>Q none H
def bt(t:TE):TO:=fun σ H Q=>t σ H fun x H1=>∃i,x=.int i/\Q (some i) H1
theorem jv{ns:List Int}:∀{us:List CI},Vals (ns.map FT) us->K7 us ns:=by
 induction ns with
 |nil=>intro us r;rw[GO]at r;cases r;exact .nil
 |cons n ns ih=>
  intro us r;rw[DR]at r;cases r with
  |cons r1 r2=>
   obtain⟨t,e⟩:=r1;subst e;exact .cons n t<|ih r2
section
variable{X:Cx}{e:Expr}{te:TE}{lo hi:Option Expr}{tl th:TO}{pos p2:Pos}
theorem lE:PO X none aI:=by
 intro pins s σ H Q I h;rw[JE];exact CH ⟨none,H,I,.none,h⟩
theorem jb(h:PE X e te):PO X (some e) (bt te):=by
 intro pins s σ H Q I hw;rw[evalPart_some];refine bO (h pins s σ H _ I hw) fun u s1 zz=>?_;obtain⟨x,H1,I1,r1,q1⟩:=zz;obtain⟨i,rfl,q⟩:=q1;obtain⟨t,rfl⟩:=r1;exact⟨some i,H1,I1,.int i t,q⟩
def AM(X:Cx)(r:V->Option Int->Option Int->Hp->VK->Prop):Prop:=
 ∀(pins:List (Addr×Obj))(s:CM)(σ:St)(H:Hp)(x:V)(v vl vu:CI)(lo hi:Option Int)(sl:Addr)(Q:VK),Inv X pins σ H s->RelV x v->s.heap.IsSliceOf sl vl vu .none->IsPart vl lo->IsPart vu hi->r x lo hi H Q->
  ∃T id,typeLookup (.type T) "__getitem__"=pure (some<|.builtin id)/\s.TypeIs v T/\wpAny (model X.prog X.w) X.A (getItem v<|.ref sl) (EP X pins σ Q) X.xe s
def fE(r:V->Option Int->Option Int->Hp->VK->Prop)(te:TE)(tl th:TO):TE:=fun σ H Q=>te σ H fun x H1=>tl σ H1 fun l H2=>th σ H2 fun u H3=>r x l u H3 Q
theorem jw{r:V->Option Int->Option Int->Hp->VK->Prop}(hr:AM X r)(he:PE X e te)(hl:PO X lo tl)(hu:PO X hi th):PE X (.Subscript e (.Slice lo hi none p2) pos) (fE r te tl th):=by
 intro pins s σ H Q I h;refine JS<|bO (he pins s σ H _ I h) fun v s1 zz=>?_;obtain⟨x,H1,I1,r1,q1⟩:=zz;refine wpAny_Slice<|bO (hl pins s1 σ H1 _ I1 q1) fun vl s2 zz=>?_;obtain⟨l,H2,I2,pl,q2⟩:=zz;refine bO (hu pins s2 σ H2 _ I2 q2) fun vu s3 zz=>?_;obtain⟨u,H3,I3,pu,q3⟩:=zz;rw[JE];refine CH ?_;have I4:Inv X pins σ H3 {s3 with heap:=s3.heap.push {cls:=.type "slice",data:=.fields #[vl,vu,.none]}}:=I3.kept (t':=s3.toks) fun b ob q=>CL _ q;obtain⟨T,id,hT,ht,hg⟩:=hr pins {s3 with heap:=s3.heap.push {cls:=.type "slice",data:=.fields #[vl,vu,.none]}} σ H3 x v vl vu l u s3.heap.objs.size Q I4 r1 (JT ..) pl pu q3;show wpAny (model X.prog X.w) X.A (subscriptTail e (.Slice lo hi none p2) v<|.ref s3.heap.objs.size) (EP X pins σ Q) X.xe {s3 with heap:=s3.heap.push {cls:=.type "slice",data:=.fields #[vl,vu,.none]}};exact Mh (ops:=[.ref s3.heap.objs.size,v]) ht hT hg (by with_unfolding_all rfl)
def oC(xs:List V)(lo hi:Option Int):List V:=(xs.drop<|HT.sIx xs.length 0 lo).take (HT.sIx xs.length xs.length hi-HT.sIx xs.length 0 lo)
theorem mR(xs:List V)(lo hi:Option Int):(oC xs lo hi).length<=xs.length:=by
 unfold oC;rw[H9,Kl];omega
end
def ixN(n:Nat)(i:Int):Option Nat:=if 0<=i then(if i<n then some i.toNat else none)else if -(n:Int)<=i then some (i+n).toNat else none
def atI{α:Type}(xs:List α)(i:Int):Option α:=(ixN xs.length i).bind fun j=>xs[j]?
theorem pU{n:Nat}{i:Int}{j:Nat}(h:ixN n i=some j):seqIndex? i n=some j/\j<n/\ -(n:Int)<=i/\i<n:=by
 unfold ixN at h;by_cases h0:0<=i
 ·rw[if_pos h0]at h;by_cases h1:i<n
  ·rw[if_pos h1]at h;have e:i.toNat=j:=DG h;exact⟨by rw[Kz h0 h1,e],by omega,by omega,h1⟩
  ·rw[if_neg h1]at h;cases h
 ·rw[if_neg h0]at h;by_cases h1: -(n:Int)<=i
  ·rw[if_pos h1]at h;have e:(i+n).toNat=j:=DG h;exact⟨by rw[K8 (by omega) h1,e],by omega,h1,by omega⟩
  ·rw[if_neg h1]at h;cases h
theorem lF{α:Type}{xs:List α}{i:Int}{v:α}(h:atI xs i=some v):∃j,seqIndex? i xs.length=some j/\xs[j]? =some v/\j<xs.length/\ -(xs.length:Int)<=i/\i<xs.length:=by
 unfold atI at h;cases e:ixN xs.length i with
 |none=>rw[e]at h;cases h
 |some j=>
  rw[e]at h;obtain⟨h1,h2,h3,h4⟩:=pU e;exact⟨j,h1,h,h2,h3,h4⟩
def wm(b:Expr):Prop:=∀o i,subscripted b false o i=operate [o,i] (getItem o i)
def zJ(X:Cx)(r:R2):Prop:=
 ∀(value slice:Expr)(pins:List (Addr×Obj))(s:CM)(σ:St)(H:Hp)(x y:V)(v u:CI)(Q:VK),Inv X pins σ H s->RelV x v->RelV y u->r x y H Q->
  subscripted slice false v u=operate [v,u] (getItem v u)->wpAny (model X.prog X.w) X.A (subscriptTail value slice v u) (EP X pins σ Q) X.xe s
def A7(X:Cx)(id:String)(r:V->List V->Hp->VK->Prop):Prop:=
 ∀(pins:List (Addr×Obj))(s:CM)(σ:St)(H:Hp)(x:V)(xs:List V)(v:CI)(us:List CI)(Q:VK),Inv X pins σ H s->RelV x v->Vals xs us->r x xs H Q->
  wpAny (model X.prog X.w) X.A (call (.builtin id) (v::us)) (EP X pins σ Q) X.xe s
section
variable{X:Cx}{a b:Expr}{ta tb:TE}{pos:Pos}
theorem ar{r:R2}(hr:zJ X r)(ha:PE X a ta)(hb:PE X b tb)(hs:wm b):PE X (.Subscript a b pos) (cW r ta tb):=by
 intro pins s σ H Q I h;exact JS<|yK ha hb I h fun v u s2 x y H2 I2 rx ry q=>hr a b pins s2 σ H2 x y v u Q I2 rx ry q<|hs _ _
def bZ(K:CG):R2:=fun x y H Q=>∃p xs i v,x=.ref p/\y=.int i/\SqL K H p xs/\atI xs i=some v/\Q v H
def cu(K:CG):R2:=fun x y H Q=>∃p xs i v,x=.ref p/\y=.int i/\SqT K H p xs/\atI xs i=some v/\Q v H
def cF:R2:=fun x y H Q=>∃z i c,x=.str z/\y=.int i/\z.length<=sizeLine/\atI z.cps.toList i=some c/\Q (.str ⟨#[c]⟩) H
theorem wo:zJ X (bZ X.K):=by
 intro value slice pins s σ H x y v u Q I rx ry h hs;obtain⟨p,xs,i,z,rfl,rfl,hq,he,q⟩:=h;cases rx;obtain⟨t,rfl⟩:=ry;obtain⟨its,r,pl,hz⟩:=I.list hq;obtain⟨j,h1,h2,h3,h4,h5⟩:=lF he;obtain⟨w,ew,rw'⟩:=r.get h2;have hl:=r.length;have hn:=jt;have fin:EP X pins σ Q w s:=⟨z,H,I,rw',q⟩
 by_cases h0:0<=i
 ·have hj:i.toNat=j:=by
   rw[Kz h0 h5]at h1;exact DG h1
  exact item_listR pl.isList h0 (by omega) (by rw[hj];simpa using ew) fin hs
 ·have hj:(i+(its.toArray.size:Int)).toNat=j:=by
   rw[K8 (by omega) h4]at h1;rw[D7,<-hl];exact DG h1
  exact IP (x:=w) pl.isList.typeIs Ib.lookup
   (wpAny_getItem_list_neg (Q:=fun r s'=>r=w/\EP X pins σ Q r s') pl.isList (by omega) (by rw[D7]<;>omega) (by omega) (by rw[hj];simpa using ew) ⟨rfl,fin⟩) hs
theorem yN:zJ X (cu X.K):=by
 intro value slice pins s σ H x y v u Q I rx ry h hs;obtain⟨p,xs,i,z,rfl,rfl,hq,he,q⟩:=h;cases rx;obtain⟨t,rfl⟩:=ry;obtain⟨its,r,pl,hz⟩:=I.tuple hq;obtain⟨j,h1,h2,h3,h4,h5⟩:=lF he;obtain⟨w,ew,rw'⟩:=r.get h2;have hl:=r.length;have hn:=jt;have fin:EP X pins σ Q w s:=⟨z,H,I,rw',q⟩
 exact IP (x:=w) pl.typeIs slot_tuple_getitem.lookup
  (getItem_tuple (j:=j) (Q:=fun r s'=>r=w/\EP X pins σ Q r s') pl (by omega) (by omega) (by rw[D7,<-hl];exact h1) (by simpa using ew) ⟨rfl,fin⟩) hs
theorem bP:zJ X cF:=by
 intro value slice pins s σ H x y v u Q I rx ry h hs;obtain⟨z,i,c,rfl,rfl,hz,he,q⟩:=h;obtain⟨t,rfl⟩:=rx;obtain⟨t',rfl⟩:=ry;obtain⟨j,h1,h2,h3,h4,h5⟩:=lF he;have hl:z.cps.toList.length=z.length:=by simp[MC]
 rw[hl]at h1 h4 h5;have hn:=jt;exact Mh (KZ s z t) slot_str_getitem.lookup (getItem_str (c:=c) (by
  have e1:decide (i< -(2^63:Int))=false:=decide_eq_false (by omega);have e2:decide (i≥2^63)=false:=decide_eq_false (by omega);rw[e1,e2,Bool.or_false]) (by rw[h1];simpa using h2) ⟨.str ⟨#[c]⟩,H,I.tok _,⟨_,rfl⟩,q⟩) hs
theorem oD(its:List CI)(n j:Nat)(u:CI):Fp (·.setIfInBounds j u) {cls:=.type "list",data:=.seq its.toArray n}={cls:=.type "list",data:=.seq (its.set j u).toArray n}:=by
 simp[Fp]
theorem Inv.lst{pins:List (Addr×Obj)}{σ:St}{H:Hp}{s:CM}{p:Addr}{xs:List V}(I:Inv X pins σ H s)(h:H p=some (.lst xs)):
  ∃(its:List CI)(n:Nat),Vals xs its/\s.heap.get? p=some {cls:=.type "list",data:=.seq its.toArray n}/\xs.length<=sizeLine:=by
 obtain⟨z,its,n,r,e⟩:=I.hok p _ h;exact⟨its,n,r,e,z⟩
theorem Inv.lstUpd{pins:List (Addr×Obj)}{σ:St}{H:Hp}{s:CM}{p:Addr}{xs ys:List V}{its its':List CI}{n n':Nat}{f:Obj->Obj}(I:Inv X pins σ H s)(h:H p=some (.lst xs))
  (ho:s.heap.get? p=some {cls:=.type "list",data:=.seq its.toArray n}) (hf:f {cls:=.type "list",data:=.seq its.toArray n}={cls:=.type "list",data:=.seq its'.toArray n'}) (r:Vals ys its') (hz:ys.length<=sizeLine) (t:Nat):
  Inv X pins σ (cI H p<|.lst ys) {s with heap:=s.heap.update p f,toks:=t}:=by
 have e:(s.heap.update p f).get? p=some {cls:=.type "list",data:=.seq its'.toArray n'}:=by
  rw[EZ f ho (by rw[hf]<;>rfl),hf]
 refine I.write (x:=p) (e:=p) (by rw[h];trivial) (.inl rfl) (fun b u hb q=>(GP _ _<|Fd hb).trans q) ⟨_,e⟩ ?_;exact⟨hz,its',n',r,e⟩
def yf:V->V->V->Hp->(Hp->Prop)->Prop:=fun o i v H Q=>∃p xs k j,o=.ref p/\i=.int k/\H p=some (.lst xs)/\ixN xs.length k=some j/\Q (cI H p<|.lst<|xs.set j v)
theorem jx:A0 X yf:=by
 intro pins s σ H o i v ov iv u Q I ro ri rv h;obtain⟨p,xs,k,j,rfl,rfl,hp,hj,q⟩:=h;cases ro;obtain⟨t,rfl⟩:=ri;obtain⟨its,n,r,ho,hz⟩:=I.lst hp;obtain⟨h1,h2,h3,h4⟩:=pU hj;have hl:=r.length;have hn:=jt;have I':Inv X pins σ (cI H p<|.lst<|xs.set j v) {s with heap:=s.heap.update p (Fp (·.setIfInBounds j u))}:=
  I.lstUpd hp ho (oD its n j u) (r.set rv j) (by rw[EX];exact hz) s.toks
 by_cases h0:0<=k
 ·have hk:k.toNat=j:=by
   rw[Kz h0 h4]at h1;exact DG h1
  exact PySem.W.ki_setAt ho h0 (by omega) (by rw[D7,<-hl];exact h4) (by rw[hk];exact⟨_,I',q⟩)
 ·have hk:(k+(its.toArray.size:Int)).toNat=j:=by
   rw[K8 (by omega) h3]at h1;rw[D7,<-hl];exact DG h1
  exact PySem.W.ki_setBack ho (by omega) (by rw[D7,<-hl];exact h3) (by omega) (by rw[hk];exact⟨_,I',q⟩)
theorem lG(lo hi:Option Int)(n:Nat):(sliceBounds lo hi none n).1=((HT.sIx n 0 lo:Nat):Int)/\(sliceBounds lo hi none n).2.1=((HT.sIx n n hi:Nat):Int)/\(sliceBounds lo hi none n).2.2=1:=by
 refine⟨?_,?_,rfl⟩
 ·cases lo with
  |none=>simp[sliceBounds,HT.sIx]
  |some i=>
   simp only[sliceBounds,HT.sIx,IE,show(1:Int)>0 by decide,if_true];by_cases h:i<0;·simp only[h,if_true]<;>omega
   ·simp only[h,if_false]<;>omega
 ·cases hi with
  |none=>simp[sliceBounds,HT.sIx]
  |some i=>
   simp only[sliceBounds,HT.sIx,IE,show(1:Int)>0 by decide,if_true];by_cases h:i<0;·simp only[h,if_true]<;>omega
   ·simp only[h,if_false]<;>omega
theorem kJ(its:List CI)(lo hi:Option Int):slicePick its.toArray lo hi none=((its.drop<|HT.sIx its.length 0 lo).take (HT.sIx its.length its.length hi-HT.sIx its.length 0 lo)).toArray:=by
 obtain⟨h1,h2,h3⟩:=lG lo hi its.toArray.size;unfold slicePick;rw[h1,h2,h3];simp only[Jq,pick_run,D7]<;>rfl
def cy(K:CG):V->Option Int->Option Int->Hp->VK->Prop:=fun x lo hi H Q=>∃a xs,x=.ref a/\SqL K H a xs/\∀p,H p=none->Q (.ref p) (cI H p<|.lst<|oC xs lo hi)
theorem wq:AM X (cy X.K):=by
 intro pins s σ H x v vl vu lo hi sl Q I rx hs pl pu h;obtain⟨a,xs,rfl,hx,q⟩:=h;cases rx;obtain⟨its,r,ht,hz⟩:=I.list hx;have hlen:=r.length;refine⟨"list",_,Ib.lookup,ht.isList.typeIs,?_⟩;refine Iq ht.isList hs pl pu .none (by simp) ?_ (by rw[D7]<;>omega);rw[kJ,<-hlen];refine⟨.ref s.heap.objs.size,_,I.laid (t':=s.toks) (o:=.lst<|oC xs lo hi) (fun b ob q=>CL _ q) (CN _) ?_,rfl,q _<|I.hok.fresh<|CN _⟩;exact⟨EF (mR xs lo hi) hz,_,0,(r.drop<|HT.sIx xs.length 0 lo).take (HT.sIx xs.length xs.length hi-HT.sIx xs.length 0 lo),CU _ rfl⟩
def flatV:V->Bool
 | .non=>true
 | .bl _=>true
 | .int _=>true
 | .str _=>true
 |_=>false
def eqV:V->V->Bool
 | .non,.non=>true
 | .bl a,.bl b=>a==b
 | .bl a,.int b=>(if a then 1 else 0)==b
 | .int a,.bl b=>a==(if b then 1 else 0)
 | .int a,.int b=>a==b
 | .str a,.str b=>a==b
 |_,_=>false
theorem yO{A:DL}{s:CM}{y x:V}{u v:CI}(ry:RelV y u)(rx:RelV x v)(fy:flatV y=true)(fx:flatV x=true):MD A s u v (eqV y x):=by
 cases y with
 |non=>
  cases ry;cases x with
  |non=>cases rx;exact MS _
  |bl b=>cases rx;exact Mj b
  |int b=>obtain⟨t,rfl⟩:=rx;exact Ms b t
  |str b=>obtain⟨t,rfl⟩:=rx;exact Mt b t
  |_=>exact absurd (show false=true from fx) D0
 |bl a=>
  cases ry;cases x with
  |non=>cases rx;exact Mk a
  |bl b=>cases rx;exact Ml a b
  |int b=>obtain⟨t,rfl⟩:=rx;exact Mv a b t
  |str b=>obtain⟨t,rfl⟩:=rx;exact Mw a b t
  |_=>exact absurd (show false=true from fx) D0
 |int a=>
  obtain⟨t',rfl⟩:=ry;cases x with
  |non=>cases rx;exact Mx a t'
  |bl b=>cases rx;exact My a t' b
  |int b=>obtain⟨t,rfl⟩:=rx;exact ME a t' b t
  |str b=>obtain⟨t,rfl⟩:=rx;exact JP a t' b t
  |_=>exact absurd (show false=true from fx) D0
 |str a=>
  obtain⟨t',rfl⟩:=ry;cases x with
  |non=>cases rx;exact Mz a t'
  |bl b=>cases rx;exact MA a t' b
  |int b=>obtain⟨t,rfl⟩:=rx;exact JQ a t' b t
  |str b=>obtain⟨t,rfl⟩:=rx;exact MF a t' b t
  |_=>exact absurd (show false=true from fx) D0
 |_=>exact absurd (show false=true from fy) D0
def wt(x:V)(u:CI):Bool:=match u with
 | .none=>eqV .non x
 | .bool b=>eqV (.bl b) x
 | .int i _=>eqV (.int i) x
 | .str z _=>eqV (.str z) x
 |_=>false
theorem sP{x y:V}{u:CI}(r:RelV y u)(f:flatV y=true):wt x u=eqV y x:=by
 cases y with
 |non=>cases r;rfl
 |bl b=>cases r;rfl
 |int i=>obtain⟨t,rfl⟩:=r;rfl
 |str z=>obtain⟨t,rfl⟩:=r;rfl
 |_=>exact absurd (show false=true from f) D0
theorem lH{x:V}:∀{xs:List V}{us:List CI},Vals xs us->xs.all flatV=true->us.any (wt x)=xs.any fun y=>eqV y x
 |_,_,.nil,_=>rfl
 |y::xs,u::us, .cons r t,f=>by
  rw[LI,Ha]at f;rw[Hg,Hg,sP r f.1,lH t f.2]
theorem jy{A:DL}{s:CM}{x:V}{v:CI}(rx:RelV x v)(fx:flatV x=true):∀{xs:List V}{us:List CI},Vals xs us->xs.all flatV=true->∀u∈us,MD A s u v (wt x u)
 |_,_,.nil,_=>fun u hu=>by cases hu
 |y::xs,u::us, .cons r t,f=>fun u' hu=>by
  rw[LI,Ha]at f;rcases De.mp hu with rfl|hu
  ·rw[sP r f.1];exact yO r rx f.1 fx
  ·exact jy rx fx t f.2 u' hu
def AN(x:V)(xs:List V):Bool:=xs.any fun y=>eqV y x
def fR(K:CG)(neg:Bool):R2:=fun x y H Q=>∃p xs,y=.ref p/\(SqL K H p xs\/SqT K H p xs)/\flatV x=true/\xs.all flatV=true/\Q (.bl (if neg then !AN x xs else AN x xs)) H
theorem lI:OpR X (compareOp .NotIn) (fR X.K true):=by
 intro pins s σ H x y v u Q I rx ry h;obtain⟨p,xs,rfl,hq,fx,fs,q⟩:=h;cases ry;rcases hq with hq|hq
 ·obtain⟨its,r,pl,hz⟩:=I.list hq;refine SeqAt.notIn_listAt (wt x) pl.isList (fun w hw=>jy rx fx r fs w (by simpa using hw)) ⟨.bl _,H,I,rfl,?_⟩;rw[show its.toArray.any (wt x)=its.any (wt x) by simp,lH r fs];exact q
 ·obtain⟨its,r,pl,hz⟩:=I.tuple hq;refine SeqAt.notIn_tupleAt (wt x) pl (fun w hw=>jy rx fx r fs w (by simpa using hw)) ⟨.bl _,H,I,rfl,?_⟩;rw[show its.toArray.any (wt x)=its.any (wt x) by simp,lH r fs];exact q
theorem lJ:dn X (.type "list") (fun xs H Q=>∃p ys,xs=[.ref p]/\(SqL X.K H p ys\/SqT X.K H p ys)/\∀l,H l=none->Q (.ref l) (cI H l<|.lst ys)):=by
 intro pins s σ H xs us Q I r h;obtain⟨p,ys,rfl,hq,q⟩:=h;obtain⟨u,rfl,rx⟩:=dY r;cases rx;have fin:∀(its:List CI),Vals ys its->ys.length<=sizeLine->∀(h':Heap)(c':Nat),(∀b o',s.heap.get? b=some o'->h'.get? b=some o')->
   h'.get? s.heap.objs.size=some {cls:=.type "list",dict:=none,data:=.seq its.toArray c',slots:= #[]}->EP X pins σ Q (.ref s.heap.objs.size) {s with heap:=h'}:=fun its r' hz h' c' kp e=>
  ⟨.ref s.heap.objs.size,_,I.laid (t':=s.toks) kp (CN _) (show ObjOk X.prog X.w _ h' _ (.lst ys)from⟨hz,its,c',r',e⟩),rfl,q _<|I.hok.fresh<|CN _⟩
 rcases hq with hq|hq
 ·obtain⟨its,r',pl,hz⟩:=I.list hq;have hlen:=r'.length;obtain⟨o,ho,hc,n,hd⟩:=pl.isList;exact LJ p (.inl rfl) ho hc hd (fun h' c' kp e=>fin its r' hz h' c' kp e) (by simp only[D7]<;>omega)
 ·obtain⟨its,r',pl,hz⟩:=I.tuple hq;have hlen:=r'.length;obtain⟨o,ho,hc,n,hd⟩:=pl;exact LJ p (.inr rfl) ho hc hd (fun h' c' kp e=>fin its r' hz h' c' kp e) (by simp only[D7]<;>omega)
theorem kK:dn X (.type "tuple") (fun xs H Q=>∃p ys,xs=[.ref p]/\((SqL X.K H p ys/\∀l,H l=none->Q (.ref l) (cI H l<|.tup ys))\/(SqT X.K H p ys/\Q (.ref p) H))):=by
 intro pins s σ H xs us Q I r h;obtain⟨p,ys,rfl,h⟩:=h;obtain⟨u,rfl,rx⟩:=dY r;cases rx;rcases h with⟨hq,q⟩|⟨hq,q⟩
 ·obtain⟨its,r',pl,hz⟩:=I.list hq;have hlen:=r'.length;refine call_tuple_list pl.isList (fun h' kp=>?_) (by simp only[D7]<;>omega);have I1:Inv X pins σ H {s with heap:=h'}:=I.kept (t':=s.toks) kp;have I2:Inv X pins σ (cI H h'.objs.size<|.tup ys) {s with heap:=h'.push {cls:=.type "tuple",data:=.seq its.toArray}}:=
   I1.laid (t':=s.toks) (fun b o e=>CL _ e) (CN _) (show ObjOk X.prog X.w _ _ _ (.tup ys)from⟨hz,its,r',IsTupD.new _ _⟩)
  exact⟨.ref h'.objs.size,_,I2,rfl,q _<|I1.hok.fresh<|CN _⟩
 ·obtain⟨its,r',pl,hz⟩:=I.tuple hq;exact call_tuple_same pl ⟨.ref p,H,I,rfl,q⟩
def BA(K:CG)(T:String)(x:V)(H:Hp):Prop:=match x with
 | .str _=>T="str"
 | .int _=>T="int"
 | .ref p=>(T="list" /\∃xs,SqL K H p xs)\/(T="tuple" /\((∃o,K.lookup p=some o/\o.cls=.type "tuple" /\o.dict=none)\/∃xs,SqT K H p xs))\/
   (T="dict"/\((∃kvs,H p=some (.dK kvs))\/∃kvs,H p=some (.dT kvs)))\/(T="set"/\∃S n,H p=some (.set S n))
 |_=>False
theorem yP{pins:List (Addr×Obj)}{σ:St}{H:Hp}{s:CM}{T:String}{x:V}{v:CI}(I:Inv X pins σ H s)(r:RelV x v)(ty:BA X.K T x H):
  s.TypeIs v T/\∀a,v=.ref a->∃ob,s.heap.get? a=some ob/\ob.dict=none:=by
 cases x with
 |str z=>
  obtain⟨t,rfl⟩:=r;cases (show T="str" from ty);exact⟨KZ s z t,fun _ e=>nomatch e⟩
 |int i=>
  obtain⟨t,rfl⟩:=r;cases (show T="int" from ty);exact⟨typeIs_int s i t,fun _ e=>nomatch e⟩
 |ref p=>
  cases r;rcases ty with⟨rfl,xs,hq⟩|⟨rfl,⟨o,hk,hc,hd⟩|⟨xs,hq⟩⟩|⟨rfl,hk⟩|⟨rfl,S,n,hk⟩
  ·obtain⟨its,_,pl,_⟩:=I.list hq;refine⟨pl.isList.typeIs,fun a e=>?_⟩;cases e;obtain⟨o,n,e,c,hd,_⟩:=pl;exact⟨o,e,hd⟩
  ·refine⟨⟨o,I.kIn p o hk,hc⟩,fun a e=>?_⟩;cases e;exact⟨o,I.kIn _ o hk,hd⟩
  ·obtain⟨o,e1,c1,d1⟩:∃o,s.heap.get? p=some o/\o.cls=.type "tuple"/\o.dict=none:=by
    rcases hq with hq|⟨o,its,n,hk,hc,_⟩
    ·obtain⟨_,_,_,o,e1,⟨c1,d1⟩,_⟩:=hq.ok I.hok;exact⟨o,e1,c1,d1⟩
    ·exact⟨o,I.kIn p o hk,hc.1,hc.2⟩
   refine⟨⟨o,e1,c1⟩,fun a e=>?_⟩;cases e;exact⟨o,e1,d1⟩
  ·have z:∃o,s.heap.get? p=some o/\o.ExactDict:=by
    rcases hk with⟨kvs,hk⟩|⟨kvs,hk⟩
    ·obtain⟨_,_,_,_,o,_,_,e,ex,_⟩:=I.hok p _ hk;exact⟨o,e,ex⟩
    ·obtain⟨_,_,_,_,o,_,_,e,ex,_⟩:=I.hok p _ hk;exact⟨o,e,ex⟩
   obtain⟨o,e,ex⟩:=z;refine⟨⟨o,e,ex.1⟩,fun a e2=>?_⟩;cases e2;exact⟨o,e,ex.2.1⟩
  ·obtain⟨o,_,_,_,e,ex,_⟩:=I.hok p _ hk;refine⟨⟨o,e,ex.1⟩,fun a e2=>?_⟩;cases e2;exact⟨o,e,ex.2.1⟩
 |_=>exact FW ty
def ee(K:CG)(T:String)(r:V->List V->Hp->VK->Prop)(to:TE)(t:TA):TE:=fun σ H Q=>to σ H fun x H1=>BA K T x H1/\t σ H1 fun xs H2=>r x xs H2 Q
variable{o e:Expr}{es:List Expr}{to:TE}{t:TA}{name:Str}{apos cpos:Pos}{T id:String}{r:V->List V->Hp->VK->Prop}
theorem A8(pa:PlainAttrs T)(slot:Slot T name id)(hty:typeOf (.builtin id)=pure (.type "method_descriptor"))(hm:A7 X id r)(ho:PE X o to)(ha:PA X (e::es) t)
  (hbase:attributeBase o name X.env (eval o X.env)=eval o X.env:=by rfl)
  (hfew:((backTo cpos<|starEach (e::es) X.env).all (fun x=> !x.1) && (backToKw cpos<|keywordEach [] X.env).all (fun x=>x.1.isSome)
   &&decide ((e::es).length+([]:List IQ).length+(if([]:List IQ).isEmpty then 0 else 1)<30))=true:=by rfl)
  (hline:(apos.endLine==cpos.line)=true:=by rfl) (hs:starEach (e::es) X.env=(false,eval e X.env)::starEach es X.env:=by rfl) (hplain:(backTo cpos<|starEach es X.env).any (·.1)=false:=by rfl):
  PE X (.Call (.Attribute o name apos) (e::es) [] cpos) (ee X.K T r to t):=by
 intro pins s σ H Q I h;refine IS hbase hfew hline rfl<|bO (ho pins s σ H _ I h) fun v s1 zz=>?_;obtain⟨x,H1,I1,r1,ty,q1⟩:=zz;obtain⟨h1,h2⟩:=yP I1 r1 ty;refine⟨T,id,pa,slot,hty,h1,h2,?_⟩;have hA:=ha cpos pins s1 σ H1 _ I1 q1;rw[hs]at hA ⊢;refine Calls.callWith_builtin (by show(false||(backTo cpos<|starEach es X.env).any (·.1))=false;rw[hplain]<;>rfl)<|Calls.evalArgs_plain ?_;refine bO hA fun us s2 zz=>?_;obtain⟨vs,H2,I2,r2,q2⟩:=zz;exact hm pins s2 σ H2 x vs v us Q I2 r1 r2 q2
end
def BR(X:Cx)(id:String)(r:V->List V->Hp->VK->Prop):Prop:=
 ∀(pins:List (Addr×Obj))(s:CM)(σ:St)(H:Hp)(x:V)(xs:List V)(v:CI)(us:List CI)(Q:VK),Inv X pins σ H s->RelV x v->Vals xs us->r x xs H Q->
  wpAny (model X.prog X.w) X.A (call (.builtin id) (v::us)) (EP X pins σ Q) X.xe s
theorem Vals.one:∀{x:V}{us:List CI},Vals [x] us->∃u,us=[u]/\RelV x u
 |_,_,.cons r .nil=>⟨_,rfl,r⟩
section
variable{X:Cx}{pins:List (Addr×Obj)}{σ:St}{H:Hp}{s:CM}{l b:Addr}{xs ys zs:List V}
theorem Inv.lset{its its':List CI}{n:Nat}{f:Array CI->Array CI}{t':Nat}(I:Inv X pins σ H s)(hH:H l=some (.lst xs))
  (e:s.heap.get? l=some {cls:=.type "list",data:=.seq its.toArray n}) (hf:f its.toArray=its'.toArray) (hv:Vals ys its') (hz:ys.length<=sizeLine):
  Inv X pins σ (cI H l<|.lst ys) {s with heap:=s.heap.update l<|Fp f,toks:=t'}:=by
 have q:=PySem.IsL.update e f;rw[hf]at q;refine I.write (x:=l) (e:=l) (by rw[hH];exact trivial) (.inl rfl) (fun b' u hb hu=>(GP s.heap (Fp f)<|Fd hb).trans hu) ⟨_,q⟩ ?_;exact⟨hz,its',_,hv,q⟩
theorem Inv.lstM(I:Inv X pins σ H s)(hH:H l=some (.lst xs)):xs.length<=sizeLine/\∃(its:List CI)(n:Nat),Vals xs its/\xs.length=its.length/\s.heap.get? l=some {cls:=.type "list",data:=.seq its.toArray n}:=by
 obtain⟨z,its,n,r,e⟩:=I.hok l _ hH;exact⟨z,its,n,r,r.length,e⟩
end
section
variable{X:Cx}
def ay:V->List V->Hp->VK->Prop:=fun x vs H Q=>∃l xs y,x=.ref l/\vs=[y]/\H l=some (.lst xs)/\xs.length<sizeLine/\Q .non (cI H l<|.lst<|xs++[y])
theorem r0:BR X "list.append" ay:=by
 intro pins s σ H x vs v us Q I rx rv h;obtain⟨l,xs,y,rfl,rfl,hH,hz,q⟩:=h;cases rx;obtain⟨u,rfl,ru⟩:=rv.one;obtain⟨z,its,n,r,hl,e⟩:=I.lstM hH;refine call_meets Jb ⟨_,e,rfl⟩ F.entry_list_append (F.args_list_append_2 _ _) (PySem.list_append l its.toArray n u (by rw[D7];omega)) ⟨e,?_⟩;refine⟨.non,_,I.lset (its':=its++[u]) hH e (by simp) (r.append<|.cons ru .nil) ?_,rfl,q⟩;rw[F0,Fv];omega
end
section
variable{κ:Type}[DecidableEq κ]
def gS(kvs:List (κ×V))(k:κ):Option V:=(kvs.find? fun kv=>decide<|kv.1=k).map (·.2)
def oE(kvs:List (κ×V))(k:κ)(v:V):List (κ×V):=
 if(kvs.any fun kv=>decide<|kv.1=k)=true then kvs.map (fun kv=>if kv.1=k then(kv.1,v)else kv)else kvs++[(k,v)]
theorem gb{p:κ×V}{r:List (κ×V)}{k:κ}(e:p.1=k):gS (p::r) k=some p.2:=by simp[gS,EG,e]
theorem gc{p:κ×V}{r:List (κ×V)}{k:κ}(e:¬p.1=k):gS (p::r) k=gS r k:=by simp[gS,EG,e]
theorem mS(k:κ):∀kvs:List (κ×V),(kvs.any fun kv=>decide<|kv.1=k)=(gS kvs k).isSome
 | []=>rfl
 |p::r=>by
  rw[Hg];by_cases e:p.1=k;·simp only[gb e,decide_eq_true e,Bool.true_or,JU]
  ·rw[gc e,decide_eq_false e,Bool.false_or];exact mS k r
theorem RelO.isSome_eq{o:Option V}{u:Option CI}(r:RelO o u):o.isSome=u.isSome:=by
 cases o with
 |none=>cases u with
  |none=>rfl
  |some _=>exact(show False from r).elim
 |some _=>cases u with
  |none=>exact(show False from r).elim
  |some _=>rfl
theorem KV.val{kvs:List (κ×V)}{vs:List (κ×CI)}(r:KV kvs vs)(k:κ):RelO (gS kvs k) (valueAt vs k):=by
 unfold KV at r
 induction r with
 |nil=>exact FX
 | @cons p q ps qs h t ih=>
  obtain⟨h1,h2⟩:=h;by_cases e:p.1=k
  ·have e':q.1=k:=h1.symm.trans e;have b:valueAt (q::qs) k=some q.2:=by simp[valueAt,EG,e']
   rw[gb e,b];exact h2
  ·have e':¬q.1=k:=fun z=>e<|h1.trans z;have b:valueAt (q::qs) k=valueAt qs k:=by simp[valueAt,EG,e']
   rw[gc e,b];exact ih
end
theorem yg{P:D6}{w:Di}{k:Key}{u:CI}(r:RelV (kV k) u):(mixKind P w).is k u=true:=by
 cases k with
 |inl i=>obtain⟨t,e⟩:=(show ∃t,u=IB i t from r);subst e;exact mG P w i t
 |inr x=>obtain⟨t,e⟩:=(show ∃t,u=Kh x t from r);subst e;exact mH P w x t
theorem kU{P:D6}{w:Di}:∀{ks:List Key}{us:List CI},Vals (ks.map kV) us->ItemsAre (mixKind P w) ks us
 | [],_,r=>by rw[GO]at r;cases r;exact .nil
 |k::ks,_,r=>by
  rw[DR]at r;cases r with
  |cons h t=>exact .cons (yg h)<|kU t
section
variable{X:Cx}{pins:List (Addr×Obj)}{σ:St}{H:Hp}{s:CM}{a:Addr}{y v:V}{u r:CI}{o:Option V}{A:DL}{E:CI->CM->Prop}
theorem Inv.big(I:Inv X pins σ H s):sysModules<s.heap.objs.size:=by
 have h:mainGlobals<s.heap.objs.size:=(I.mod.glob.keeps I.bk).lt;exact IT (by decide) h
theorem pV{h':Heap}{t':Nat}{ob:HO}(I:Inv X pins σ H s)(mu:zX (H a))(hs:DD a s.heap h')(he:∃q,h'.get? a=some q)(new:ObjOk X.prog X.w (cI H a ob) h' a ob):
  Inv X pins σ (cI H a ob) {s with heap:=h',toks:=t'}:=
 I.write (x:=a) (e:=a) mu (.inl rfl) (fun b q hb z=>(hs.2 b hb).trans z) he new
end
def sQ(i:Expr):Prop:=∀ov iv,subscripted i false ov iv=operate [ov,iv] (getItem ov iv)
theorem pW{prog:D6}{w:Di}{A:DL}{E:CI->CM->Prop}{s:CM}{env:Env}{value slice:Expr}{pos:Pos}{T id:String}{Q:CI->CM->Prop}
  (hl:typeLookup (.type T) "__getitem__"=pure (some<|.builtin id)) (hs:sQ slice)
  (h:wpAny (model prog w) A (eval value env) (fun o s₁=>wpAny (model prog w) A (eval slice env) (fun i s₂=>s₂.TypeIs o T/\wpAny (model prog w) A (getItem o i) Q E s₂) E s₁) E s):
  wpAny (model prog w) A (eval (.Subscript value slice pos) env) Q E s:=by
 refine JS<|DZ h (fun o s₁ h₁=>DZ h₁ (fun i s₂ h₂=>?_) fun _ _ x=>x) fun _ _ x=>x;obtain⟨hT,h₂⟩:=h₂;unfold subscriptTail;refine CD ?_;rw[getitemInPython_of_ne hT.not_modules];refine CD<|Hx hT hl ?_;have fin:wpAny (model prog w) A (subscripted slice false o i) (fun r s₃=>wpAny (model prog w) A (letTemporaryGo value o r>>=fun _=>pure r) Q E s₃) E s₂:=by
  rw[hs o i];exact wpAny_operating<|DZ h₂ (fun r s₃ h₃=>CD<|wpAny_letTemporaryGo<|CH h₃) fun _ _ x=>x
 first
  |exact CH<|CD fin
  |exact CD<|CH<|CD fin
  |exact CD fin
end L2
namespace Att
open PySem PySem.W PySem.Calls PyProof.Rows
theorem j4{P:MG}{h:Heap}:∀(ns:List Int)(vs:List CI),WellAll P h vs (ns.map MO)->K7 vs ns:=by
 intro ns
 induction ns with
 |nil=>
  intro vs w;rw[GO]at w;cases w;exact .nil
 |cons n ns ih=>
  intro vs w;rw[DR]at w;cases w with
  |cons a b=>
   cases a;exact .cons _ _<|ih _ b
theorem r6{l:Hk}{n:Nat}(hn:l.most=some n){P:MG}{h:Heap}{args:List WData}{vals:List CI}
  (hpre:l.row.toRowW.claim.pre args=true) (hwl:WellAll P h vals args):
  ∃a vs ns,vals=[DS a]/\args=[WData.list (ns.map MO)]/\h.get? a=some {cls:=.type "list",data:=.seq vs.toArray}/\K7 vs ns/\ns.length<=n:=by
 have hsh:WShape.hasAll [] args [.list .int]=true:=(pre_splitW hpre).1;have hc:l.pre.holds [] {args:=args}=true:=(pre_splitW hpre).2;obtain⟨d,r,rfl,h1,h2⟩:=hasAllW_cons hsh;obtain rfl:=hasAllW_nil h2;obtain⟨xs,rfl,h3⟩:=hasW_list h1;obtain⟨ns,rfl⟩:=items_int h3;have hlen:ns.length<=n:=by
  unfold OpenLaw.pre at hc;have h4:(WTm.not<|.lt (.lit<|.int (n:Int))<|.len<|.arg 0).holds [] {args:=[.list (ns.map .int)]}=true:=by
   have h4:=(holds_andW hc).1;rw[hn]at h4;exact h4
  have h5:=condW_of h4<|w_not<|w_lt w_lit<|w_len_list<|w_arg rfl;rw[D5]at h5;refine Nat.le_of_not_lt fun q=>?_;have q':(n:Int)<((ns.length:Nat):Int):=by omega
  first
   |(rw[decide_eq_true q']at h5;exact absurd h5 (by decide))
   |(simp at h5;omega)
 cases hwl with
 |cons w1 w2=>
  cases w2;cases w1 with
  |list ho hall=>exact⟨_,_,ns,rfl,rfl,ho,j4 ns _ hall,hlen⟩
theorem r9(l:Hk)(args:List WData):l.row.toRowW.claim.post args (.bool true) args=true:=
 postW_of (r:=l.row.toRowW) (X:=(true==true))
  (show MH [] (.bool true) .bool=true by first|rfl|decide|simp[MH,WShape.arms,WShape.armsAll])
  (show(WTm.eq .res<|.lit<|.bool true).value [] {args:=args,res:=some<|.bool true,after:=args}=some (.bool<|true==true)from w_eq_bool (w_res rfl) w_lit) rfl
theorem attach_call{l:Hk}{n:Nat}{q:D6}{loose:List Str}{XP:(Str->Option CI)->Heap->Prop}{YP:Di->Heap->Prop}{d:DefRec}
  (hn:l.most=some n) (hdf:d.params.defaults=[])
  (call:∀(w:Di) (s₀ s₁:CM) (mg mb:Str->Option CI) (fa:Addr) (o:Obj) (pm cd doc:CI) (a:Addr) (vs:List CI) (ns:List Int),
   Ground q loose [] XP w s₀ mg mb s₁.heap->YP w s₁.heap->
   s₁.heap.get? fa=some o->o.data=.func (docDef d.name d.params d.body d.scope pm cd doc)->s₁.heap.CodeRec cd d.name->mg d.name=some (.ref fa)->
   s₁.heap.get? a=some {cls:=.type "list",data:=.seq vs.toArray}->K7 vs ns->ns.length<=n->s₁.gens= #[]->
   codeAny (model l.prog w) callerA (.call (.ref fa) ⟨[.ref a],[]⟩) (fun r s'=>r=.ok (.ret (.bool true))/\OldK s₁.heap s'.heap/\s'.os=s₁.os/\I0 s'.gens) s₁):
  KQ q loose XP YP l.row.toRowW d [] (fun f vs=>L0 f vs):=by
 intro w s₀ s₁ mg mb G Y fa o pm cd doc dV kV ho hd hcd hD hmg hg args vals as hpre hlay hrd hwl hlo;obtain rfl:dV=.none:=Dflts.none hD hdf;obtain rfl:kV=.none:=Dflts.noKw hD;obtain⟨a,vs,ns,rfl,rfl,hobj,hints,hlen⟩:=r6 hn hpre hwl;refine enter_call<|HE (call w s₀ s₁ mg mb fa o pm cd doc a vs ns G Y ho (fd_plain hd) hcd hmg hobj hints hlen hg) fun r s' hq=>?_;obtain⟨rfl,h2,h3,h4⟩:=hq;exact⟨.inl ⟨.bool true,.bool true,[],rfl,fun _=>rfl,.bool true,r9 l _,fun _=>⟨G8,fun _ hm=>(nomatch hm)⟩⟩,h2,h3,h4⟩
end Att
namespace L2
open PySem PySem.Spec PyProof.Rows
theorem iD:∀{vs:List CI}{ns:List Int},K7 vs ns->Vals (ns.map FT) vs
 |_,_,.nil=>.nil
 |_,_,.cons n t h=>.cons ⟨t,rfl⟩<|iD h
def yQ(H:Hp):Prop:=∀b,H b=none\/∃o xs,H b=some (.frz o<|.lst xs)
theorem sR{P:D6}{w:Di}{K:CG}{mg mb:Str->Option CI}{CX:CXT}{k:Nat}{fa a:Addr}{fd:Dk}{x:Str}{sp:Sp}{s₁:CM}{vs:List CI}{ns:List Int}
  (KX:K.In s₁.heap) (hns:s₁.heap.Ns mainGlobals mg) (hb:s₁.heap.Ns builtinsNs mb) (hbb:∀x:Str,x≠"__name__"->mb x=bootBuiltins x) (hlim:s₁.heap.NoLimit) (hg:s₁.gens= #[])
  (ha:s₁.heap.get? a=some {cls:=.type "list",data:=.seq vs.toArray}) (hi:K7 vs ns) (hl:ns.length<=sizeLine) (hr:Room k callerA)
  (F:∀base:Heap,K.In base->base.Ns mainGlobals mg->FnOk P w K mg base CX k fa fd [x] sp) (hbind:∀(s:CM)(u:CI),K6 s fd ⟨[u],[]⟩ [(x,u)])
  (hsp:∀H:Hp,yQ H->SqL K H a (ns.map FT)->sp [.ref a] H (fun v _=>v=.bl true) fun _ _ _=>False)
  (hCX:∀H e s',CX [] H s₁ (fun _ _ _=>False) e s'->False):
  codeAny (model P w) callerA (.call (.ref fa) ⟨[.ref a],[]⟩) (fun r s'=>r=.ok (.ret<|.bool true)/\OldK s₁.heap s'.heap/\s'.os=s₁.os/\I0 s'.gens) s₁:=by
 have rv:=iD hi;have lenV:=hi.length;have core:∀H:Hp,yQ H->SqL K H a (ns.map FT)->HOk P w H s₁.heap->(∀b,H b≠none->b=a)->(H a≠none->K.lookup a=none)->
   codeAny (model P w) callerA (.call (.ref fa) ⟨[.ref a],[]⟩) (fun r s'=>r=.ok (.ret<|.bool true)/\OldK s₁.heap s'.heap/\s'.os=s₁.os/\I0 s'.gens) s₁:=by
  intro H hO hS hok hA hK;have base_of:∀{b:Addr}{o:Obj},s₁.heap.get? b=some o->H b=none->(lB s₁.heap H).get? b=some o:=fun e n=>sH e n;have noA:∀{b:Addr}{o:Obj}{es:Array Fn}{ep:Nat},s₁.heap.get? b=some o->o.data=.dict es ep->H b=none:=fun{b o es ep}e d=>by
   cases q:H b with
   |none=>rfl
   |some u=>
    have e':b=a:=hA b (by rw[q];simp);subst e';rw[ha]at e;cases e;have d':L1 vs.toArray _=Data.dict es ep:=d;cases d'
  have nsK:∀{b:Addr}{m:Str->Option CI},s₁.heap.Ns b m->(lB s₁.heap H).Ns b m:=fun{b m}⟨o,es,ep,e,d,r⟩=>⟨o,es,ep,base_of e<|noA e d,d,r⟩
  have hKb:K.In (lB s₁.heap H):=fun b o e=>base_of (KX b o e) (by
   cases q:H b with
   |none=>rfl
   |some u=>
    have e':b=a:=hA b (by rw[q];simp);subst e';rw[hK (by rw[q];simp)]at e;cases e)
  have hM:Mod K mg (lB s₁.heap H):=⟨hKb,nsK hns,⟨mb,nsK hb,hbb⟩,let ⟨mc,h1,h2⟩:=hlim;⟨mc,nsK h1,h2⟩⟩
  have e0:Env0 P w K mg (lB s₁.heap H) callerA [] s₁ H:=⟨rfl,hM,fun b o e=>wb e,Nat.le_of_eq<|qS _ _,trivial,fun b hb=>absurd (show b∈([]:List Addr)from hb) (by simp),hok,.of_eq hg⟩
  refine HE ((F _ hKb<|nsK hns).run callerA [] s₁ H ⟨[.ref a],[]⟩ [.ref a] [.ref a] _ _ hr e0 (hbind s₁<|.ref a) (.cons rfl .nil) (hsp H hO hS)) fun r s' h=>?_;cases r with
  |error e=>exact(hCX H e s' h).elim
  |ok fl=>
   cases fl with
   |next=>exact FW h
   |brk=>exact FW h
   |cont=>exact FW h
   |ret u=>
    obtain⟨v,H',os,bare,un,hok',r',q⟩:=h;have q':v=.bl true:=q;subst q';obtain rfl:u=KR true:=r';refine⟨rfl,OldK.of_keep fun b o e=>?_,os,bare⟩;cases q:H b with
    |none=>exact un.keep b o e q (by intro z;exact absurd (show b∈([]:List Addr)from z) (by simp)) (by simp)
    |some u=>
     rcases hO b with z|⟨ob,xs,z⟩
     ·rw[q]at z;cases z
     ·have z2:=un.frzs b ob _ z;obtain⟨e1,_⟩:=hok b _ z;obtain⟨e2,_⟩:=hok' b _ z2;rw[e]at e1;cases e1;exact e2
 cases hk:K.lookup a with
 |some o=>
  have e:=KX a o hk;rw[ha]at e;cases e;refine core (fun _=>none) (fun _=>.inl rfl) (.inr ⟨_,vs.toArray,_,hk,rfl,rfl,rfl,by rw[D7,lenV];exact hl,by simpa using rv⟩) (fun b u z=>by have z':(none:Option HO)=some u:=z;cases z') (fun b z=>absurd rfl z) fun z=>absurd rfl z
 |none=>
  refine core (fun b=>if b=a then some (.frz {cls:=.type "list",data:=.seq vs.toArray}<|.lst<|ns.map FT)else none) (fun b=>?_) (.inl<|.inr ⟨{cls:=.type "list",data:=.seq vs.toArray},if_pos rfl⟩) (fun b u z=>?_) (fun b z=>?_) fun _=>hk
  ·by_cases hb:b=a;·exact .inr ⟨_,_,if_pos hb⟩
   ·exact .inl<|if_neg hb
  ·by_cases hb:b=a
   ·have z':=(if_pos hb).symm.trans z;cases z';subst hb;exact⟨ha,by rw[D5];exact hl,vs,_,rv,ha⟩
   ·have z':=(if_neg hb).symm.trans z;cases z'
  ·by_cases hb:b=a;·exact hb
   ·exact absurd (if_neg hb) z
theorem walk_of{l:Hk}{n k:Nat}{q:D6}{loose:List Str}{XP:(Str->Option CI)->Heap->Prop}{YP:Di->Heap->Prop}{d:DefRec}{K:MG->CG}{CX:Di->CXT}{sp:Di->Sp}{x:Str}
  (hn:l.most=some n) (hn2:n<=sizeLine) (hdf:d.params.defaults=[]) (hr:Room k callerA)
  (hY:∀(w:Di)(h:Heap),YP w h->(K w.params).In h)
  (F:∀(w:Di) (mg:Str->Option CI) (fa:Addr) (h:Heap),(K w.params).In h->h.Ns mainGlobals mg->mg d.name=some (.ref fa)->
   ∃fd:Dk,(∀(s:CM)(u:CI),K6 s fd ⟨[u],[]⟩ [(x,u)])/\
    ∀base:Heap,(K w.params).In base->base.Ns mainGlobals mg->FnOk l.prog w (K w.params) mg base (CX w) k fa fd [x] (sp w))
  (hsp:∀(w:Di)(H:Hp)(a:Addr)(ns:List Int),ns.length<=n->yQ H->SqL (K w.params) H a (ns.map FT)->sp w [.ref a] H (fun v _=>v=.bl true) fun _ _ _=>False)
  (hCX:∀(w:Di)(H:Hp)(s:CM)(e:CI)(s':CM),CX w [] H s (fun _ _ _=>False) e s'->False):
  KQ q loose XP YP l.row.toRowW d [] (fun f vs=>L0 f vs):=by
 refine Att.attach_call hn hdf fun w s₀ s₁ mg mb fa o pm cd doc a vs ns G Y ho hd hcd hmg hobj hints hlen hg=>?_;have KX:=hY w _ Y;obtain⟨fd,hb,hF⟩:=F w mg fa _ KX G.T.g hmg;exact sR KX G.T.g G.T.b G.T.builtins G.T.nolimit hg hobj hints (EF hlen hn2) hr hF hb (fun H hO hS=>hsp w H a ns hlen hO hS) fun H e s'=>hCX w H s₁ e s'
def defArgs(s:Stmt):Arguments:=match s with
 | .FunctionDef _ a _ _ _ _ _ _ _ _=>a
 |_=>{posonlyargs:=[],args:=[],vararg:=none,kwonlyargs:=[],kw_defaults:=[],kwarg:=none,defaults:=[]}
def defBody(s:Stmt):List Stmt:=match s with
 | .FunctionDef _ _ b _ _ _ _ _ _ _=>b
 |_=>[]
def defScope(s:Stmt):G1:=match s with
 | .FunctionDef _ _ _ _ _ _ sc _ _ _=>sc
 |_=>{kind:=.function,names:=[],isGenerator:=false,isCoroutine:=false}
abbrev CX0:CXT:=fun _ _ _ _ _ _=>False
abbrev E0:XK:=fun _ _ _=>False
theorem A9{X:Cx}:oB CX0 X E0:=fun _ _ _ _ _ _ _ h=>h.elim
structure Fun(K:CG)(x qual:Str)(st:Stmt)(f:Addr)(fd:Dk):Prop where
 ex:∃(oc:CI)(od:Option Addr)(kV doc pm:CI)(an:Option Addr)(cdv ct:CI)(osl:Array (Option CI)),
  fd=F6 x qual (defArgs st) (defBody st) (defScope st) .none kV doc pm an cdv ct/\K.lookup f=some ⟨oc,od,.func fd,osl⟩/\Ge K cdv qual=true
 kp:FK K (.ref f)=true
section
variable{P:D6}{w:Di}{K:CG}{mg:Str->Option CI}{base:Heap}
theorem Fun.ok{x qual:Str}{st:Stmt}{f:Addr}{fd:Dk}{N ps:List Str}{k:Nat}{sp:Sp}(F:Fun K x qual st f fd)(S:FnScope N ps (defScope st))(len:∀vs H Q E,sp vs H Q E->vs.length=ps.length)
  (hbody:∀(cdv:CI) (A:DL) (outer:List Env) (s:CM) (H:Hp) (vs:List V) (Q:VK) (E:XK),Room k (A.deeper<|envOfC qual (defScope st) s.heap.objs.size f cdv)->sp vs H Q E->
   ∃t,PSs (qY CX0 P w K mg base N qual (defScope st) f cdv A outer s H E).nox (defBody st) t/\t {nx:=fun _ H'=>Q .non H',rt:=Q} (start N vs) H):FnOk P w K mg base CX0 (k+1) f fd ps sp:=by
 obtain⟨oc,od,kV,doc,pm,an,cdv,ct,osl,rfl,lk,hcd⟩:=F.ex;refine A6 lk hcd S len fun A outer s H vs Q E hr hsp=>?_;obtain⟨t,h,q⟩:=hbody cdv A outer s H vs Q E hr hsp;exact⟨t,h.nox,q⟩
theorem Fun.binds{x qual:Str}{st:Stmt}{f:Addr}{fd:Dk}{ps:List Str}(F:Fun K x qual st f fd)
  (h:∀(kV doc pm:CI)(an:Option Addr)(cdv ct:CI)(us:List CI),us.length=ps.length->bindArgs (F6 x qual (defArgs st) (defBody st) (defScope st) .none kV doc pm an cdv ct) ⟨us,[]⟩=pure (ps.zip us)):Binds K fd ps []:=by
 obtain⟨oc,od,kV,doc,pm,an,cdv,ct,osl,rfl,lk,hcd⟩:=F.ex;exact .all<|h kV doc pm an cdv ct
theorem lK{x qual:Str}{st:Stmt}{f:Addr}{oc:CI}{od an:Option Addr}{osl:Array (Option CI)}{kV doc pm cdv ct:CI}(l:K.lookup f=some ⟨oc,od,.func<|F6 x qual (defArgs st) (defBody st) (defScope st) .none kV doc pm an cdv ct,osl⟩)
  (c:Ge K cdv qual=true) (k:FK K (.ref f)=true):Fun K x qual st f (F6 x qual (defArgs st) (defBody st) (defScope st) .none kV doc pm an cdv ct):=⟨⟨oc,od,kV,doc,pm,an,cdv,ct,osl,rfl,l,c⟩,k⟩
end
section
variable{X:Cx}
theorem pv(i:Nat){x:Str}{pos:Pos}(hN:X.N[i]? =some x:=by rfl)(hv:Vis X.env.scope x:=by first|exact M1 rfl|exact L3 (M1 rfl)|exact L3<|L3 rfl)(hd:(x==("__debug__" :Str))=false:=by decide)
  (hcd:(x==("__classdict__" :Str))=false:=by decide):PE X (.Name x pos) (bz i):=yD hN hv hd hcd
end
def Same(H H':Hp):Prop:=∀b o,H b=some o->H' b=some o
theorem Same.refl(H:Hp):Same H H:=fun _ _ h=>h
theorem Same.trans{H H1 H2:Hp}(a:Same H H1)(b:Same H1 H2):Same H H2:=fun c o h=>b c o<|a c o h
theorem Same.seq{K:CG}{H H':Hp}{a:Addr}{xs:List V}(e:Same H H')(h:SqL K H a xs):SqL K H' a xs:=by
 rcases h with(h|⟨o,h⟩)|h;·exact .inl<|.inl<|e _ _ h
 ·exact .inl<|.inr ⟨o,e _ _ h⟩
 ·exact .inr h
end L2
set_option maxHeartbeats 4000000
namespace L2
open PySem PySem.Spec PyProof.Rows
abbrev aP(l:List Nat):Str:=⟨l.toArray⟩
theorem dJ(l:List Nat):(aP l).length=l.length:=by simp[MC,aP]
theorem pX(l:List Nat):(aP l).cps.toList=l:=by simp[aP]
theorem jz(a b:List Nat):aP a++aP b=aP (a++b):=by
 apply PySem.Str.ext';rw[PySem.Str.cps_append];simp[aP]
theorem pY{a b:List Nat}(h:aP a=aP b):a=b:=by
 have:=congrArg (fun x=>x.cps.toList) h;simpa [aP] using this
theorem sS(x:Str):x=aP x.cps.toList:=by cases x;simp[aP]
def DictK(K:CG)(w:Di)(a:Addr)(kvs:List (Key×V)):Prop:=
 kvs.length<=1000/\(a==sysModules)=false/\(kvs.map (·.1)).Nodup/\∃(es:Array Fn)(ep:Nat),K.lookup a=some {cls:=.type "dict",data:=.dict es ep}/\
  Paired (fun(p:Key×V)(e:Fn)=>fW p.1 e.key=true/\e.hash=sG w p.1/\RelV p.2 e.val) kvs es.toList
theorem mT{P:D6}{w:Di}{kvs:List (Key×V)}{es:List Fn}(r:Paired (fun(p:Key×V)(e:Fn)=>fW p.1 e.key=true/\e.hash=sG w p.1/\RelV p.2 e.val) kvs es):
  ∀e∈es,∃k,fW k e.key=true/\e.hash=sG w k:=by
 induction r with
 |nil=>intro e h;cases h
 | @cons p e ps es h t ih=>
  intro e' h';rcases De.mp h' with rfl|h'
  ·exact⟨p.1,h.1,h.2.1⟩
  ·exact ih e' h'
theorem lL{P:D6}{w:Di}{kvs:List (Key×V)}{es:List Fn}(r:Paired (fun(p:Key×V)(e:Fn)=>fW p.1 e.key=true/\e.hash=sG w p.1/\RelV p.2 e.val) kvs es):
  ∃vs,KV kvs vs/\Pairs (mixKind P w) es vs/\vs.map (·.1)=kvs.map (·.1):=by
 induction r with
 |nil=>exact⟨[],.nil,.nil,rfl⟩
 | @cons p e ps es h t ih=>
  obtain⟨vs,h1,h2,h3⟩:=ih;exact⟨(p.1,e.val)::vs,.cons ⟨rfl,h.2.2⟩ h1,.cons h.1 rfl h2,by simp[h3]⟩
theorem DictK.of{P:D6}{w:Di}{K:CG}{a:Addr}{kvs:List (Key×V)}{h:Heap}(d:DictK K w a kvs)(x:K.In h):(a==sysModules)=false/\∃vs,KV kvs vs/\h.DictOf (mixKind P w) a vs:=by
 obtain⟨hz,hs,nd,es,ep,lk,r⟩:=d;obtain⟨vs,h1,h2,h3⟩:=lL (P:=P) r;refine⟨hs,vs,h1,_,es,ep,x _ _ lk,⟨rfl,rfl,rfl⟩,rfl,fun e he=>mT (P:=P) r e (by simpa using he),h2,by rw[h3];exact nd⟩
section
variable{X:Cx}{o i e:Expr}{pos:Pos}{td ty:TE}
def aO(K:CG)(w:Di)(td ty:TE):TE:=fun σ H Q=>td σ H fun x H1=>ty σ H1 fun y H2=>∃a kvs k v,x=.ref a/\DictK K w a kvs/\y=kV k/\gS kvs k=some v/\Q v H2
theorem sT(ho:PE X o td)(hi:PE X i ty)(hs:sQ i):PE X (.Subscript o i pos) (aO X.K X.w td ty):=by
 intro pins s σ H Q I h;refine pW HV.lookup hs<|bO (ho pins s σ H _ I h) fun u s1 zz=>?_;obtain⟨x,H1,I1,rx,q1⟩:=zz;refine bO (hi pins s1 σ H1 _ I1 q1) fun iv s2 zz=>?_;obtain⟨y,H2,I2,ry,a,kvs,k,v,ex,dk,ey,ev,q2⟩:=zz;subst ex ey;obtain rfl:u=DS a:=rx;obtain⟨hd,vs,rel,dd⟩:=dk.of (P:=X.prog) I2.kIn;refine⟨dd.typeIs,?_⟩;obtain⟨w',hw,rw'⟩:=M6 (v:=v) (o:=valueAt vs k) (by rw[<-ev];exact rel.val k);exact wpAny_getItem_of (yg ry) dd.mapOf hw ⟨v,H2,I2.tok _,rw',q2⟩
end
section
variable{X:Cx}
theorem jA:OpR X (compareOp .Is) (fun x y H Q=>∃c,y=.bl c/\Q (.bl<|decide<|x=.bl c) H):=by
 intro pins s σ H x y v u Q I rx ry h;obtain⟨c,rfl,q⟩:=h;cases ry;cases x with
 |bl b=>cases rx;exact is_bool (aN I q (by cases b<;>cases c<;>simp))
 |non=>cases rx;exact CH (aN I q (by simp))
 |int i=>obtain⟨t,rfl⟩:=rx;exact CH (aN I q (by simp))
 |str i=>obtain⟨t,rfl⟩:=rx;exact CH (aN I q (by simp))
 |byt i=>obtain⟨t,rfl⟩:=rx;exact CH (aN I q (by simp))
 |flt i=>obtain⟨t,rfl⟩:=rx;exact CH (aN I q (by simp))
 |ref a=>cases rx;exact CH (aN I q (by simp))
 |ty a=>cases rx;exact CH (aN I q (by simp))
theorem oF:OpR X (binaryOp .Mult) (fun x y H Q=>∃c n,x=.str (aP [c])/\y=.int n/\0<=n/\n<=100000/\Q (.str<|aP<|F9 n.toNat c) H):=by
 intro pins s σ H x y v u Q I rx ry h;obtain⟨c,n,rfl,rfl,h0,h1,q⟩:=h;obtain⟨t,rfl⟩:=rx;obtain⟨t',rfl⟩:=ry;have hl:(aP [c]).length=1:=dJ [c];refine SB.mul ?_ fun t' k=>?_
 ·refine⟨?_,fun _ _=>?_,fun _ _=>?_⟩
  ·have e1:decide (n< -(2^63:Int))=false:=decide_eq_false (by omega);have e2:decide (n≥2^63)=false:=decide_eq_false (by omega);rw[e1,e2];rfl
  ·rw[hl];have h2:1<=n:=by omega
   have:(1:Int)<=(2^63-1)/n:=(Int.le_ediv_iff_mul_le (by omega)).mpr (by omega);omega
  ·rw[hl];unfold MB;have:=Dz;simp;omega
 ·have e:ML (aP [c]) n=aP (F9 n.toNat c):=by
   rw[sS<|ML (aP [c]) n];show aP ((ML ⟨#[c]⟩ n).cps.toList)=_;rw[mul_one_list]
  exact⟨.str _,H,I.tok _,⟨t',rfl⟩,by rw[e];exact q⟩
end
section
variable{X:Cx}
def j5(l:List Nat)(lo hi:Option Int):List Nat:=(l.drop<|HT.sIx l.length 0 lo).take (HT.sIx l.length l.length hi-HT.sIx l.length 0 lo)
theorem jB(lo hi:Option Int)(n:Nat):EL lo hi 1 n=sliceRange ((HT.sIx n 0 lo:Nat):Int) ((HT.sIx n n hi:Nat):Int) 1:=by
 unfold EL;have e1:(match lo with|none=>(0:Int)|some i=>max 0 (min (if i<0 then i+(n:Int)else i) n))=((HT.sIx n 0 lo:Nat):Int):=by
  cases lo with
  |none=>simp[HT.sIx]
  |some i=>simp only[HT.sIx];by_cases h:i<0<;>simp only[h,if_true,if_false]<;>omega
 have e2:(match hi with|none=>(n:Int)|some i=>max 0 (min (if i<0 then i+(n:Int)else i) n))=((HT.sIx n n hi:Nat):Int):=by
  cases hi with
  |none=>simp[HT.sIx]
  |some i=>simp only[HT.sIx];by_cases h:i<0<;>simp only[h,if_true,if_false]<;>omega
 simp only[show(1:Int)>0 by decide,if_true];rw[<-e1,<-e2];cases lo<;>cases hi<;>rfl
theorem rd(l:List Nat)(lo hi:Option Int):Km (aP l) lo hi=aP (j5 l lo hi):=by
 have hn:(aP l).length=l.length:=dJ l;have hk:(EL lo hi 1 l.length).filterMap ((aP l).cps[·]?)=j5 l lo hi:=by
  rw[jB,Jq,pick_run];simp[j5]
 have hlen:(EL lo hi 1 l.length).length=(j5 l lo hi).length:=by
  rw[jB,Jq];have h1:=HT.sIx_le l.length 0 (Dl _) lo;have h2:=HT.sIx_le l.length l.length (CN _) hi;simp[j5];omega
 unfold Km;rw[hn];split
 ·rename_i h;have h:(EL lo hi 1 l.length).length=l.length:=by simpa using h
  have hl:=hlen.symm.trans h;have e:j5 l lo hi=l:=by
   have h3:(j5 l lo hi).length<=(l.drop<|HT.sIx l.length 0 lo).length:=by unfold j5;simp;omega
   have h4:HT.sIx l.length 0 lo=0\/l.length=0:=by
    rw[Kl]at h3;omega
   rcases h4 with h4|h4
   ·unfold j5 at hl ⊢;rw[h4]at hl ⊢;rw[Jr]at hl ⊢;rw[H9]at hl;exact FY (by omega)
   ·have:l=[]:=FN.mp h4;subst this;simp[j5]
  rw[e]
 ·rw[hk]
theorem sU:AM X (fun x lo hi H Q=>∃l,x=.str (aP l)/\l.length<=sizeLine/\Q (.str<|aP<|j5 l lo hi) H):=by
 intro pins s σ H x v vl vu lo hi sl Q I rx hs pl pu h;obtain⟨l,rfl,hz,q⟩:=h;obtain⟨t,rfl⟩:=rx;obtain⟨a1,rfl,e1⟩:∃a:Option (Int×Tok),vl=partValue a/\a.map (·.1)=lo:=by
  cases pl with
  |none=>exact⟨none,rfl,rfl⟩
  |int i t=>exact⟨some (i,t),rfl,rfl⟩
 obtain⟨a2,rfl,e2⟩:∃a:Option (Int×Tok),vu=partValue a/\a.map (·.1)=hi:=by
  cases pu with
  |none=>exact⟨none,rfl,rfl⟩
  |int i t=>exact⟨some (i,t),rfl,rfl⟩
 have hle:(Km (aP l) lo hi).length<=sizeLine:=EF (Txt.slice_le _ _ _) (by rw[dJ];exact hz);refine⟨"str",_,PySem.F.slot_str_getitem.lookup,KZ _ _ _,wpAny_getItem_str_slice (l:=a1) (u:=a2) (st:=none) hs rfl ?_⟩;subst e1 e2;refine post_val_or_str ⟨hle,fun t' k=>⟨.str _,H,I.tok _,⟨t',rfl⟩,?_⟩⟩;have:=rd l (a1.map (·.1)) (a2.map (·.1));unfold Km at this;show Q (.str (if _ then _ else _)) H;exact this▸q
theorem sV(hc:X.calm=true):A7 X "str.index" (fun x xs H Q=>∃a b,x=.str a/\xs=[.str b]/\0<=HI a b/\Q (.int<|HI a b) H):=by
 intro pins s σ H x xs v us Q I rx rs h;obtain⟨a,b,rfl,rfl,h0,q⟩:=h;obtain⟨t,rfl⟩:=rx;obtain⟨u,rfl,t',rfl⟩:=dY rs;refine index_or (I.ok.hd hc) (fun e=>?_) fun _ _=>⟨.int _,H,I.tok _,⟨_,rfl⟩,q⟩
 omega
theorem oG{ys:List (List Nat)}:∀{us:List CI},Vals (ys.map fun y=>Hv<|aP y) us->StrsAre us (ys.map aP):=by
 induction ys with
 |nil=>intro us r;cases r;exact .nil
 |cons y ys ih=>
  intro us r;cases r with
  |cons r1 r2=>
   obtain⟨t,e⟩:=r1;subst e;exact .cons _ t<|ih r2
theorem oH(ys:List (List Nat)):Txt.join (aP []) (ys.map aP)=aP ys.flatten:=by
 have key:∀(r:List (List Nat))(acc:List Nat),(r.map aP).foldl (fun acc p=>acc++(aP []).cps++p.cps) acc.toArray=(acc++r.flatten).toArray:=by
  intro r
  induction r with
  |nil=>intro acc;simp
  |cons a r ih=>
   intro acc;rw[DR,J5,List.flatten_cons,<-Dg,<-ih (acc++a)];simp[aP]
 cases ys with
 |nil=>rfl
 |cons a r=>
  show Str.mk (((r.map aP)).foldl (fun acc p=>acc++(aP []).cps++p.cps) a.toArray)=_;rw[key];rfl
theorem wu:A7 X "str.join" (fun x xs H Q=>∃(p:Addr)(ys:List (List Nat)),x=.str (aP [])/\xs=[.ref p]/\SqL X.K H p (ys.map fun y=>Hv<|aP y)/\ys.flatten.length<=100000/\Q (.str<|aP ys.flatten) H):=by
 intro pins s σ H x xs v us Q I rx rs h;obtain⟨p,ys,rfl,rfl,hp,hl,q⟩:=h;obtain⟨t,rfl⟩:=rx;obtain⟨u,rfl,r1⟩:=dY rs;cases r1;obtain⟨its,r,pl,hz⟩:=I.list hp;refine join_list pl.isList (by simpa using oG r) ?_ fun t' k=>⟨.str _,H,I.tok _,⟨t',rfl⟩,by rw[oH];exact q⟩
 have e:((ys.map aP).map (·.length)).sum=ys.flatten.length:=by
  rw[EM,List.length_flatten];congr 1
  all_goals exact JB fun y _=>dJ y
 have e2:(aP []).length=0:=dJ [];rw[e,e2];omega
theorem mU:dn X (.builtin "isinstance") (fun xs H Q=>∃x T t b,xs=[x,.ty T]/\TyOf X.K H x t/\F8 X.K t (.type T)=some b/\Q (.bl b) H):=by
 intro pins s σ H xs us Q I r h;obtain⟨x,T,t,b,rfl,ty,e,q⟩:=h;obtain⟨u,w',rfl,rx,rT⟩:=ye r;obtain rfl:w'=.type T:=rT;exact qX I rx ty e fun tk=>⟨.bl b,H,I.tok _,rfl,q⟩
def BK(l:List Nat):It:=⟨fun i _=>i<l.length,fun i H x H'=>H'=H/\∃c,l[i]? =some c/\x=.str (aP [c]),fun i _=>l.length<=i⟩
def Aa(tl:TE):TI:=fun σ H R=>tl σ H fun x H1=>∃l,x=.str (aP l)/\R (BK l) H1
end
theorem sW{P:D6}{w:Di}{K:CG}{tg:Expr}(l:List Nat)(it:Addr)(ty:String)(t:Tok)(hty:ty="str_ascii_iterator"\/ty="str_iterator")
  (W:∀A':DL,A'.handled=none->Walks P w A' it [it] [it] l.length (SignAt<|aP l) (fun i h=>h.IsStrIter it ty (aP l) t i)):
  Turn P w K tg (BK l) [it] it (fun i h=>i<=l.length/\h.IsStrIter it ty (aP l) t i) where
 mem:=by simp
 obj:=fun i h st b hb=>by
  have e:b=it:=by simpa using hb
  subst e;obtain⟨_,o,e,c,d⟩:=st;exact⟨o,e,fun v z=>by rw[d]at z;cases z⟩
 keep:=fun i h h' st k=>⟨st.1,by obtain⟨o,e,r⟩:=st.2;exact⟨o,k it (by simp) o e,r⟩⟩
 item:=by
  intro X hP hw hK hc i pins s σ H E I hf st hg;subst hP hw hK;obtain⟨f0,f1,f2,f3,f4,f5⟩:=hf it (by simp);refine(W X.A<|I.ok.hd hc).item i s _ _ hg st.2 fun v h' tk hv st' kk=>?_;obtain⟨c,u,hc',rfl⟩:=hv;have I1:Inv X pins σ H {s with heap:=h',toks:=tk}:=I.turned (fun b o hb e=>kk b o (by simpa using hb) e) f0 f1 f3 f4 f5;obtain⟨o,e,c1,d⟩:=id st';refine⟨_,rfl,mL (s:={s with heap:=h',toks:=tk}) (n:=ty) e c1 d (by rcases hty with rfl|rfl<;>decide) ⟨.str<|aP [c],H,I1,⟨u,rfl⟩,⟨rfl,c,?_,rfl⟩,⟨hg,st'⟩,fun b hb=>(hf b hb).1⟩⟩;simpa [aP] using hc'
 done:=by
  intro X hP hw hK hc i pins s σ H E I hf st hg;subst hP hw hK;obtain⟨f0,f1,f2,f3,f4,f5⟩:=hf it (by simp);have e:i=l.length:=Nat.le_antisymm st.1 hg;subst e;exact(W X.A<|I.ok.hd hc).done s _ _ st.2 fun h' tk kk=>⟨rfl,I.turned (fun b o hb e=>kk b o (by simpa using hb) e) f0 f1 f3 f4 f5⟩
 self:=fun A i s Q E st h=>by
  rcases hty with rfl|rfl;·exact wpAny_pyIter_striter_ascii st.2 h
  ·exact wpAny_pyIter_striter_wide st.2 h
theorem jC{X:Cx}{tg l:Expr}{tl:TE}(hl:PE X l tl):PI X tg l (Aa tl):=by
 intro pins s σ H R I h;refine bO (hl pins s σ H _ I h) fun v s1 zz=>?_;obtain⟨x,H1,I1,r1,q1⟩:=zz;obtain⟨y,e,q⟩:=q1;subst e;obtain⟨t,rfl⟩:=r1;have hn:(aP y).cps.size=y.length:=by simp[aP]
 have fin:∀(ob:Obj)(ty:String),(ty="str_ascii_iterator"\/ty="str_iterator")->(∀A':DL,A'.handled=none->Walks X.prog X.w A' s1.heap.objs.size [s1.heap.objs.size] [s1.heap.objs.size] y.length (SignAt<|aP y) (fun i h=>h.IsStrIter s1.heap.objs.size ty (aP y) t i))->
   (s1.heap.push ob).IsStrIter s1.heap.objs.size ty (aP y) t 0->Bx X pins σ tg R (.ref s1.heap.objs.size) {s1 with heap:=s1.heap.push ob}:=fun ob ty hty W st=>by
  refine⟨s1.heap.objs.size,[s1.heap.objs.size],_,_,H1,rfl,I1.kept (t':=s1.toks) fun b o e=>CL _ e,sW y _ ty t hty W,⟨Dl _,st⟩,fun b hb=>?_,q⟩;have e:b=s1.heap.objs.size:=by simpa using hb
  subst e;exact I1.fpOk (CN _)<|I1.hok.fresh<|CN _
 cases ha:(aP y).cps.all (· <128);·exact K9 ha<|fin _ "str_iterator" (.inr rfl) (fun A' hA=>hn▸Walks.strWide hA _ (aP y) t) ⟨_,CU _ rfl,rfl,rfl⟩
 ·exact JV ha<|fin _ "str_ascii_iterator" (.inl rfl) (fun A' hA=>hn▸Walks.strAscii hA _ (aP y) t) ⟨_,CU _ rfl,rfl,rfl⟩
def bU(env:Env):List (Str×FL)->List (Str×Addr)->List (Str×Addr)
 | [],acc=>acc
 |(n,k)::r,acc=>bU env r (if(k== .free)=true then(n,(env.cells.lookup n).getD 0)::acc else acc)
theorem dM{scope:G1}{env:Env}(h:∀x∈scope.names,x.2=.free->∃c,env.cells.lookup x.1=some c):closureFor scope env=pure (bU env scope.names []):=by
 simp only[closureFor];have key:∀(names:List (Str×FL))(acc:List (Str×Addr)),(∀x∈names,x.2=.free->∃c,env.cells.lookup x.1=some c)->
   (forIn names acc fun(x:Str×FL)(cs:List (Str×Addr))=>if(x.2== .free)=true then(do let a <-cellOf env x.1;pure (Dv ((x.1,a)::cs)))else pure (Dv cs))=(pure (bU env names acc):Sem _):=by
  intro names
  induction names with
  |nil=>intro acc _;rfl
  |cons x r ih=>
   intro acc hx;obtain⟨n,k⟩:=x;rw[J6];have hr:∀y∈r,y.2=.free->∃c,env.cells.lookup y.1=some c:=fun y hy=>hx y<|Df _ hy;unfold bU;by_cases hk:(k==Ef)=true
   ·obtain⟨c,hc⟩:=hx (n,k) Dc (by simpa using hk);have hc:env.cells.lookup n=some c:=hc;simp only[hk,if_true];unfold cellOf;simp only[hc,Hb];exact ih _ hr
   ·simp only[hk,if_false];exact ih _ hr
 have:=key scope.names [] h;rw[this];rfl
theorem gd{env:Env}{x:Str}{c:Addr}:∀(names:List (Str×FL))(acc:List (Str×Addr)),(∀y∈names,y.2=.free->∃c,env.cells.lookup y.1=some c)->(bU env names acc).lookup x=some c->
  ((x,Ef)∈names/\env.cells.lookup x=some c)\/acc.lookup x=some c
 | [],_,_,h=>.inr h
 |(n,k)::r,acc,hx,h=>by
  unfold bU at h;rcases gd r _ (fun y hy=>hx y<|Df _ hy) h with⟨q1,q2⟩|q
  ·exact .inl ⟨Df _ q1,q2⟩
  ·by_cases hk:(k == Ef)=true
   ·rw[if_pos hk]at q;have hk':k=.free:=by simpa using hk
    subst hk';rw[EI]at q;cases hb:x==n with
    |true=>
     rw[hb]at q;have e:x=n:=beq_iff_eq.mp hb;subst e;obtain⟨c',hc⟩:=hx (x,.free) Dc rfl;have hc:env.cells.lookup x=some c':=hc;rw[hc]at q;simp at q;subst q;exact .inl ⟨Dc,hc⟩
    |false=>rw[hb]at q;exact .inr q
   ·rw[if_neg hk]at q;exact .inr q
theorem iT{env:Env}{x:Str}{c:Addr}:∀(names:List (Str×FL))(acc:List (Str×Addr)),acc.lookup x=some c->env.cells.lookup x=some c->(bU env names acc).lookup x=some c
 | [],_,h,_=>h
 |(n,k)::r,acc,h,he=>by
  unfold bU;refine iT r _ ?_ he;by_cases hk:(k==Ef)=true
  ·rw[if_pos hk,EI];cases hb:x==n with
   |true=>
    have e:x=n:=beq_iff_eq.mp hb;subst e;simp[he]
   |false=>exact h
  ·rw[if_neg hk];exact h
theorem iU{env:Env}{x:Str}{c:Addr}:∀(names:List (Str×FL))(acc:List (Str×Addr)),(x,Ef)∈names->env.cells.lookup x=some c->(bU env names acc).lookup x=some c
 |(n,k)::r,acc,h,he=>by
  unfold bU;rcases De.mp h with e|h
  ·cases e;exact iT r _ (by simp[he]) he
  ·exact iU r _ h he
theorem cA:∀(names:List (Str×FL))(n:Nat)(acc:List (Str×Addr)),cellsFrom n names acc=cellsFrom n names []++acc
 | [],_,_=>rfl
 |(x,k)::r,n,acc=>by
  unfold cellsFrom;split;·rw[cA r _ ((x,n)::acc),cA r _ [(x,n)],Dg];rfl
  ·exact cA r n acc
theorem dW:∀(names:List (Str×FL))(n:Nat){x:Str}{c:Addr},(x,c)∈cellsFrom n names []->(x,JF)∈names
 | [],_,_,_,h=>by cases h
 |(y,k)::r,n,x,c,h=>by
  unfold cellsFrom at h;split at h
  ·rename_i hk;rw[cA]at h;rcases DF.mp h with h|h
   ·exact Df _<|dW r _ h
   ·have e:(x,c)=(y,n):=by simpa using h
    cases e;have hk':k=.cell:=by simpa using hk
    subst hk';exact Dc
  ·exact Df _<|dW r _ h
theorem jD{M:J4}{A:DL}{E:CI->CM->Prop}{s:CM}{scope:G1}{env:Env}{cl:List (Str×Addr)}{Q:Env->CM->Prop}
  (hQ:Q (newEnv scope s.heap.objs.size env.globals (cellsFrom (s.heap.objs.size+1) scope.names cl) env.qual none .none (some env) builtinsNs) {s with heap:=pushCells (s.heap.push {cls:=.type "dict",data:=.dict #[]}) scope.names}):
  wpAny M A (newFunctionEnv scope env.globals cl [] env.qual none .none<|some env) Q E s:=by
 simp only[newFunctionEnv,JU,if_true];refine CD<|wpAny_alloc ?_;refine CD (wpAny_layCells _ (fun name kind cells=>by cases hkc:kind==JF<;>simp[hkc]) _ _ _ _ ?_);rw[show({s with heap:=s.heap.push {cls:=.type "dict",data:=.dict #[]}}:CM).heap.objs.size=s.heap.objs.size+1 from EN ..];simp only[Js];exact CD<|CH<|CH hQ
section
variable{prog:D6}{w:Di}{A:DL}{R:KY->CM->Prop}{s:CM}
theorem lM{elt target iter:Expr}{ifs:List Expr}{scope:G1}{pos:Pos}{it acc:CI}{env:Env}(I:Nat->CM->Prop)
  (turn:∀n s,I n s->wpAny (model prog w) A (pyNext it) (fun r s₁=>match r with
   |none=>R (.ok .next) s₁
   | some v=>wpAny (model prog w) A (letOwnedTupleGo target it v) (fun _ s₁'=>wpAny (model prog w) A (assign target env v) (fun _ s₂=>
     wpAny (model prog w) A (forIn ifs true fun c r=>if r=true then do let ok <-isTrue c env (eval c env);pure (Dv ok)else pure (Dv r)) (fun ok s₃=>
      if ok=true then wpAny (model prog w) A (eval elt env) (fun x s₄=>
       wpAny (model prog w) A (call (.builtin "list.append") [acc,x]) (fun _ s₅=>∃m,m<n/\I m s₅) (fun _ _=>False) s₄) (fun _ _=>False) s₃
      else ∃m,m<n/\I m s₃) (fun _ _=>False) s₂) (fun _ _=>False) s₁') (fun _ _=>False) s₁) (fun _ _=>False) s)
  (n:Nat) (h:I n s):codeAny (model prog w) A (.compLoop (.ListComp elt [⟨target,iter,ifs,0⟩] scope pos) 0 it acc env) R s:=by
 refine codeAny_loop rfl I (fun n s hI=>?_) n h;show wpAny _ A ((compTurn (.ListComp elt [⟨target,iter,ifs,0⟩] scope pos) 0 it acc env).onRaise (fun x=>do noteFrame x env;theTreesLotGoes x)) _ _ s;refine wpAny_noted ?_;rw[compTurn_list];refine CD<|Fm<|CD<|DZ (turn n s hI) (fun r s₁ h₁=>?_) fun _ _ h'=>h'.elim;cases r with
 |none=>exact CH h₁
 |some v=>
  refine CD<|DZ h₁ (fun _ s₁' h₁'=>?_) fun _ _ h'=>h'.elim;refine CD<|DZ h₁' (fun _ s₂ h₂=>CD<|DZ h₂ (fun ok s₃ h₃=>?_) fun _ _ h'=>h'.elim) fun _ _ h'=>h'.elim;cases ok with
  |true=>
   rw[if_pos rfl]at h₃;exact CD<|CD<|DZ h₃ (fun x s₄ h₄=>CD<|DZ h₄ (fun _ s₅ h₅=>CH<|CH ⟨rfl,h₅⟩) fun _ _ h'=>h'.elim) fun _ _ h'=>h'.elim
  |false=>
   rw[if_neg D0]at h₃;exact CH ⟨rfl,h₃⟩
end
def sX(scope:G1)(x:Str):Bool:=scope.names.lookup x==some .local||scope.names.lookup x==some .cell
def aA(X:Cx)(scope:G1)(N:List Str)(s:CM)(H:Hp)(C:Addr)(fp:List Addr):Cx:=
 {X with N:=N,s₀:=s,H₀:=H,env:=compEnvC scope (cellsFrom (C+1) scope.names<|bU X.env scope.names []) C X.env,outer:=X.stack,ex:=fp,fn:=sX scope,pn:=[],xe:=fun _ _=>False}
def bu(cap:List (Option Nat))(σ:St):St:=cap.map fun o=>o.bind fun j=>(σ[j]?).bind id
structure CompScope(X:Cx)(scope:G1)(N:List Str)(cap:List (Option Nat)):Prop where
 kind:scope.kind=.function
 nd:N.Nodup
 len:cap.length=N.length
 uniq:(scope.names.map (·.1)).Nodup
 free:∀x∈scope.names,x.2=.free->(X.env.kindOf x.1=some .cell\/X.env.kindOf x.1=some .free)
 cap:∀(k:Nat)(x:Str)(j:Nat),N[k]? =some x->cap[k]? =some (some j)->X.N[j]? =some x/\(x,Ef)∈scope.names
theorem cP{α:Type}:∀{l:List (Str×α)}{x:Str}{k:α},(l.map (·.1)).Nodup->(x,k)∈l->l.lookup x=some k
 |(y,j)::r,x,k,nd,h=>by
  obtain⟨n1,n2⟩:=EW.mp (show(y::r.map (·.1)).Nodup from nd);rw[EI];rcases De.mp h with e|h;·cases e;simp
  ·have:(x == y)=false:=beq_eq_false_iff_ne.mpr fun e=>n1<|e▸Dw.mpr ⟨(x,k),h,rfl⟩;rw[this];exact cP n2 h
theorem eK{env:Env}:∀{names:List (Str×FL)}{x:Str},(names.map fun(p:Str×FL)=>if(p.2==Ef&&env.scope.kind== .function&&env.kindOf p.1==some .cell)=true then(p.1,JF)else(p.1,p.2)).lookup x=
  (names.lookup x).map fun k=>if(k==Ef&&env.scope.kind== .function&&env.kindOf x==some .cell)=true then .cell else k
 | [],_=>rfl
 |(n,k)::r,x=>by
  rw[DR];have ih:= @eK env r x;by_cases hx:x=n
  ·subst hx;by_cases hc:(k==Ef&&env.scope.kind== .function&&env.kindOf x==some .cell)=true;·simp only[hc,if_true,EI,beq_self_eq_true,G2]
   ·rw[if_neg hc,EI,EI,beq_self_eq_true];simp only[G2];rw[if_neg hc]
  ·have hb:(x == n)=false:=beq_eq_false_iff_ne.mpr hx;by_cases hc:(k==Ef&&env.scope.kind== .function&&env.kindOf n==some .cell)=true;·simp only[hc,if_true,EI,hb];exact ih
   ·rw[if_neg hc,EI,EI,hb];exact ih
def sE(X:Cx)(ifs:List Expr)(t:TT):Prop:=
 ∀(pins:List (Addr×Obj))(s:CM)(σ:St)(H:Hp)(Q:Bool->Hp->Prop),Inv X pins σ H s->t σ H Q->
  wpAny (model X.prog X.w) X.A (forIn ifs true fun c r=>if r=true then do let ok <-isTrue c X.env (eval c X.env);pure (Dv ok)else pure (Dv r)) (TP X pins σ Q) X.xe s
def yR:TT:=fun _ H Q=>Q true H
theorem cQ{X:Cx}:sE X [] yR:=fun _ _ _ H _ I h=>wpAny_tests_nil ⟨H,I,h⟩
theorem wx{X:Cx}{c:Expr}{t:TT}(h:PT X c t):sE X [c] t:=fun pins s σ H Q I hq=>wpAny_tests_one<|h pins s σ H Q I hq
def Keep:St->St->Prop
 | [],_=>True
 |none::a,_::b=>Keep a b
 |some v::a,some u::b=>v=u/\Keep a b
 |_,_=>False
theorem Keep.get:∀{a b:St}{j:Nat}{v:V},Keep a b->a[j]? =some (some v)->b[j]? =some (some v)
 | [],_,_,_,_,h=>by simp at h
 |none::a,_::b,0,_,_,h=>by simp at h
 |none::a,_::b,j+1,v,k,h=>Keep.get (j:=j) (a:=a) (b:=b) k h
 |some w::a,some u::b,0,v,k,h=>by
  have e:w=u:=k.1;subst e;exact h
 |some w::a,some u::b,j+1,v,k,h=>Keep.get (j:=j) (a:=a) (b:=b) k.2 h
 |none::_,[],_,_,k,_=>k.elim
 |some _::_,[],_,_,k,_=>k.elim
 |some _::_,none::_,_,_,k,_=>k.elim
def Ab(cap:List (Option Nat))(g:TG)(tf:TT)(te:TE)(σ:St)(H1:Hp)(Q:VK)(J:It):Prop:=∃W:Nat->Nat->List V->Hp->Prop,(∃m,W 0 m [] H1)/\∀i m ys H,W i m ys H->ys.length<sizeLine/\
  ((J.stop i H/\∀D,H D=none->Q (.ref D) (cI H D<|.lst ys))\/
   (J.go i H/\∃N:List V->Hp->Prop,(∀ys' H',N ys' H'->∃m',m'<m/\W (i+1) m' ys' H')/\∀x H',J.yld i H x H'->g x (bu cap σ) H' fun σ2 H2=>Keep (bu cap σ) σ2/\tf σ2 H2 fun b H3=>if b=true then te σ2 H3 fun y H4=>N (ys++[y]) H4 else N ys H3))
def pZ(cap:List (Option Nat))(wi:TI)(g:TG)(tf:TT)(te:TE):TE:=fun σ H Q=>wi σ H fun J H1=>Ab cap g tf te σ H1 Q J
theorem d6{X:Cx}{scope:G1}{C:Addr}{x:Str}{c:Addr}(frc:∀x∈scope.names,x.2=.free->∃c,X.env.cells.lookup x.1=some c)
  (h:(cellsFrom (C+1) scope.names<|bU X.env scope.names []).lookup x=some c):(x,c)∈cellsFrom (C+1) scope.names []\/((x,Ef)∈scope.names/\X.env.cells.lookup x=some c):=by
 rw[cA,JW]at h;cases e:(cellsFrom (C+1) scope.names []).lookup x with
 |some d=>
  rw[e]at h;have h:some d=some c:=h;cases h;exact .inl<|Ez e
 |none=>
  rw[e]at h;have h:(bU X.env scope.names []).lookup x=some c:=h;rcases gd _ _ frc h with q|q
  ·exact .inr q
  ·cases q
theorem mV{X:Cx}{scope:G1}{C:Addr}{x:Str}{c:Addr}(uq:(scope.names.map (·.1)).Nodup)(hx:(x,Ef)∈scope.names)(hc:X.env.cells.lookup x=some c):
  (cellsFrom (C+1) scope.names<|bU X.env scope.names []).lookup x=some c:=by
 rw[cA,JW];cases e:(cellsFrom (C+1) scope.names []).lookup x with
 |some d=>
  have h1:=cP uq<|dW _ _<|Ez e;have h2:=cP uq hx;rw[h1]at h2;cases h2
 |none=>exact iU _ _ hx hc
section
variable{X:Cx}{scope:G1}{N:List Str}{cap:List (Option Nat)}{pins:List (Addr×Obj)}{σ:St}{H:Hp}{s:CM}{C:Addr}{fp:List Addr}
theorem rf{h4:Heap}(S:CompScope X scope N cap)(I:Inv X pins σ H s)(hC:s.heap.objs.size<=C)(ck:M3 h4 (C+1) (cellsFrom (C+1) scope.names []))
  (hf:∀b∈fp,FpOk X pins H b) (hlt:∀b∈fp,b<C):(aA X scope N s H C fp).Ok:=by
 have frc:∀x∈scope.names,x.2=.free->∃c,X.env.cells.lookup x.1=some c:=fun x hx hk=>I.ok.has x.1<|S.free x hx hk;have old:∀x c,X.env.cells.lookup x=some c->c<C:=fun x c e=>by
  obtain⟨v,q⟩:=I.cell x c e;exact CW q.lt hC
 have own:∀x c,(x,c)∈cellsFrom (C+1) scope.names []->C<c:=fun x c e=>(ck.empty x c e).2;refine⟨I.ok.mod,S.kind,I.ok.glob,I.ok.blt,hC,fun x y c h1 h2=>?_,fun x hx=>?_,fun x c hfn h=>?_,I.ok.hd,I.ok.frames,.inl rfl,fun b hb=>⟨D8<|hlt b hb,fun x c h=>?_⟩,I.bs,EF I.ok.bsz I.sz,fun b o e hb=>?_,fun b hb z=>?_,I.stack,I.stkFree⟩
 ·rcases d6 frc h1 with a | ⟨a1,a2⟩ <;> rcases d6 frc h2 with b | ⟨b1,b2⟩
  ·exact name_of_addr ck.apart a b
  ·exact absurd (IT (own x c a)<|old y c b2)<|Ee _
  ·exact absurd (IT (own y c b)<|old x c a2)<|Ee _
  ·exact I.ok.inj x y c a2 b2
 ·have hx:(relabel scope X.env).names.lookup x=some .cell\/(relabel scope X.env).names.lookup x=some .free:=hx;have e:(relabel scope X.env).names.lookup x=_:=eK (env:=X.env) (names:=scope.names) (x:=x);rw[e]at hx;cases q:scope.names.lookup x with
  |none=>rw[q]at hx;rcases hx with z|z<;>cases z
  |some k=>
   have hm:=Ez q;by_cases hk:k=.free
   ·subst hk;obtain⟨c,hc⟩:=frc _ hm rfl;exact⟨c,mV S.uniq hm hc⟩
   ·have hk':(k == Ef)=false:=by simpa using hk
    rw[q]at hx;simp only[G2,hk',KU,Dp,if_false]at hx;have hkc:k=.cell:=by
     rcases hx with z|z;·exact DG z
     ·exact absurd (DG z) hk
    subst hkc;exact Ip.mp<|GN scope.names (C+1) _<|.inl q
 ·rcases d6 frc h with a | ⟨a1,a2⟩
  ·exact EF hC<|Gk<|own x c a
  ·have q:=cP S.uniq a1;have z:sX scope x=true:=hfn;unfold sX at z;rw[q]at z;exact absurd z (by decide)
 ·rcases d6 frc h with a | ⟨a1,a2⟩
  ·exact GK<|IT (hlt b hb)<|own x c a
  ·exact(hf b hb).2.2.2.2.1 x c a2
 ·rcases (hf b hb).2.2.2.1 with z | z;·exact I.ok.noex b o e z
  ·exact absurd (CW (CW (CV e) I.ok.bsz) z)<|Ee _
 ·rcases De.mp (I.stkSub b z)with q | q;·exact(hf b hb).2.1 q
  ·exact(hf b hb).2.2.1 q
theorem jE{s4:CM}(S:CompScope X scope N cap)(I:Inv X pins σ H s)(hC:s.heap.objs.size<=C)(ck:M3 s4.heap (C+1) (cellsFrom (C+1) scope.names []))
  (hf:∀b∈fp,FpOk X pins H b) (hlt:∀b∈fp,b<C) (h4:∃h' tk,s4={s with heap:=h',toks:=tk}) (hn:s4.heap.Ns C fun _=>none) (hk:∀b o,s.heap.get? b=some o->s4.heap.get? b=some o):
  Inv (aA X scope N s H C fp) [] (bu cap σ) H s4:=by
 have frc:∀x∈scope.names,x.2=.free->∃c,X.env.cells.lookup x.1=some c:=fun x hx hk=>I.ok.has x.1<|S.free x hx hk;obtain⟨h',tk,rfl⟩:=h4;refine⟨rf S I hC ck hf hlt,rfl,I.bare,Un.kept hk,⟨_,hn,fun i x v e1 e2 e3=>?_⟩,fun x c h=>?_,I.hok.fresh hC,fun x c h=>?_,fun p hp=>absurd (show p∈([]:List (Addr×Obj))from hp) (by simp),I.hok.kept hk,?_⟩
 ·have e1:N[i]? =some x:=e1;unfold bu at e2;rw[CS]at e2;cases q:cap[i]? with
  |none=>rw[q]at e2;cases e2
  |some o=>
   cases o with
   |none=>rw[q]at e2;cases e2
   |some j=>
    rw[q]at e2;obtain⟨hj,hm⟩:=S.cap i x j e1 q;have e2:σ[j]?.bind id=some v:=DG e2;have e2':σ[j]? =some (some v):=by
     cases z:σ[j]? with
     |none=>rw[z]at e2;cases e2
     |some o=>rw[z]at e2;exact congrArg some e2
    have kd:=S.free _ hm rfl;obtain⟨m,_,hl⟩:=I.loc;obtain⟨u,r,lk⟩:=hl j x v hj e2' (by rcases kd with z|z;exact .inr<|.inl z;exact .inr<|.inr z);refine⟨u,r,.inr ?_⟩;rcases lk with⟨z,_⟩|⟨_,c,hc,hcell⟩
    ·rcases kd with q|q<;> ·rw[show X.env.kindOf x=_ from q]at z;cases z
    ·refine⟨?_,c,mV S.uniq hm hc,hcell.keeps hk⟩;have e:(relabel scope X.env).names.lookup x=_:=eK (env:=X.env) (names:=scope.names) (x:=x);rw[cP S.uniq hm]at e;simp only[G2]at e;show(relabel scope X.env).names.lookup x=some .cell\/(relabel scope X.env).names.lookup x=some .free;rw[e];split;·exact .inl rfl
     ·exact .inr rfl
 ·rcases d6 frc h with a | ⟨a1,a2⟩
  ·exact⟨_,(ck.empty x c a).1⟩
  ·obtain⟨v,q⟩:=I.cell x c a2;exact⟨v,q.keeps hk⟩
 ·rcases d6 frc h with a | ⟨a1,a2⟩
  ·exact I.hok.fresh<|EF hC<|Gk (ck.empty x c a).2
  ·exact I.freeC x c a2
 ·show(bu cap σ).length=N.length;unfold bu;rw[D5,S.len]
end
abbrev gT(its:List CI)(k:Nat):Obj:={cls:=.type "list",data:=.seq its.toArray k}
section
variable{X:Cx}{scope:G1}{N:List Str}{cap:List (Option Nat)}{tg iter elt:Expr}{ifs:List Expr}{pos:Pos}{wi:TI}{g:TG}{tf:TT}{te:TE}
theorem kW(S:CompScope X scope N cap)(hc:X.calm=true)
  (hg:∀s H C fp,PG (aA X scope N s H C fp) tg g) (hf:∀s H C fp,sE (aA X scope N s H C fp) ifs tf) (he:∀s H C fp,PE (aA X scope N s H C fp) elt te)
  {pins:List (Addr×Obj)} {σ:St} {H2:Hp} {s2:CM} {it:Addr} {fp:List Addr} {tn:Nat->Heap->Prop} {J:It} {Qv:VK} {E:CI->CM->Prop} {RR:CI->Addr->KY->CM->Prop}
  (I2:Inv X pins σ H2 s2) (T:Turn X.prog X.w X.K tg J fp it tn) (st2:tn 0 s2.heap) (f2:∀b∈fp,FpOk X pins H2 b) {W:Nat->Nat->List V->Hp->Prop} (w0:∃m,W 0 m [] H2)
  (turn:∀i m ys H,W i m ys H->ys.length< sizeLine/\((J.stop i H/\∀D,H D=none->Qv (.ref D) (cI H D<|.lst ys))\/
   (J.go i H/\∃N:List V->Hp->Prop,(∀ys' H',N ys' H'->∃m',m'<m/\W (i+1) m' ys' H')/\∀x H',J.yld i H x H'->g x (bu cap σ) H' fun σ2 H2=>Keep (bu cap σ) σ2/\tf σ2 H2 fun b H3=>if b=true then te σ2 H3 fun y H4=>N (ys++[y]) H4 else N ys H3)))
  (fin:∀(D C:Addr) (σ':St) (H':Hp) (s':CM) (its:List CI) (k:Nat) (ys:List V),s2.heap.objs.size<=D->s2.heap.objs.size<=C->D≠C->Inv (aA X scope N s2 H2 C fp) [(D,gT its k)] σ' H' s'->Vals ys its->ys.length<=sizeLine->
   Qv (.ref D) (cI H' D (.lst ys))->RR (.ref D) C (.ok .next) s'):
  wpAny (model X.prog X.w) X.A (newList []) (fun acc s₃=>wpAny (model X.prog X.w) X.A (newFunctionEnv scope X.env.globals (bU X.env scope.names []) [] X.env.qual none .none<|some X.env) (fun cenv s₄=>
   codeAny (model X.prog X.w) X.A (.compStart (.ListComp elt [⟨tg,iter,ifs,0⟩] scope pos) 0 (.ref it) acc {cenv with scope:=relabel scope X.env}) (RR acc cenv.locals) s₄) E s₃) E s2:=by
 refine DX<|jD ?_;generalize hD:s2.heap.objs.size=D;generalize hH3:s2.heap.push {cls:=.type "list",dict:=none,data:=.seq ([]:List CI).toArray}=h3;have hz3:h3.objs.size=D+1:=by rw[<-hH3,EN,hD]
 dsimp only;have eC:({s2 with heap:=h3}:CM).heap.objs.size=D+1:=hz3;rw[show h3.objs.size=D+1 from hz3];generalize hH4:pushCells (h3.push {cls:=.type "dict",data:=.dict #[]}) scope.names=h4;have hz3':(h3.push {cls:=.type "dict",data:=.dict #[]}).objs.size=D+1+1:=by rw[EN,hz3]
 have ck:M3 h4 (D+1+1) (cellsFrom (D+1+1) scope.names []):=by
  have:=cellsFrom_ok scope.names (h3.push {cls:=.type "dict",data:=.dict #[]}) (D+1+1) [] ⟨fun _ _ hm=>(nomatch hm),G8⟩ (by rw[hz3'];exact CN _);rw[hz3',hH4]at this;exact this
 have k23:∀b o,s2.heap.get? b=some o->h3.get? b=some o:=fun b o e=>by rw[<-hH3];exact CL _ e
 have k34:∀b o,h3.get? b=some o->h4.get? b=some o:=fun b o e=>by rw[<-hH4];exact Hy _ _ b o<|CL _ e
 have hD4:h4.get? D=some (gT [] 0):=k34 _ _ (by rw[<-hH3,<-hD];exact CU _ rfl);have hn4:h4.Ns (D+1) fun _=>none:=by
  rw[<-hH4,<-hz3];exact(Mm h3<|.type "dict").keeps (Hy _ _)
 have fpD:∀b∈fp,b<D:=fun b hb=>by
  obtain⟨o,e,_⟩:=T.obj _ _ st2 b hb;rw[<-hD];exact CV e
 have hlt:∀b∈fp,b<D+1:=fun b hb=>GQ<|fpD b hb;have hDC:s2.heap.objs.size<=D+1:=by rw[hD];exact Ic _
 have hDs:s2.heap.objs.size<=D:=by rw[hD];exact CN _
 have IC:Inv (aA X scope N s2 H2 (D+1) fp) [] (bu cap σ) H2 {s2 with heap:=h4}:=
  jE S I2 hDC ck f2 hlt ⟨_,_,rfl⟩ hn4 fun b o e=>k34 b o<|k23 b o e
 have okC:=IC.ok;have nfs:∀{b:Addr},s2.heap.objs.size<=b->b∉frs X.stack:=fun{b}hb hm=>by
  obtain⟨_,o,ho,_⟩:=I2.stack.mem hm;exact absurd (CW (CV ho) hb)<|Ee _
 have frc:∀x∈scope.names,x.2=.free->∃c,X.env.cells.lookup x.1=some c:=fun x hx hk=>I2.ok.has x.1<|S.free x hx hk;have cellsD:∀x c,(aA X scope N s2 H2 (D+1) fp).env.cells.lookup x=some c->c≠D:=fun x c e=>by
  rcases d6 frc e with a|⟨_,a⟩
  ·have q:D+1+1<=c:=(ck.empty x c a).2;exact GK<|CW (CW (Gm D)<|Ic _) q
  ·obtain⟨v,q⟩:=I2.cell x c a;have:=q.lt;rw[hD]at this;exact D8 this
 have fpO:∀{H':Hp}{its:List CI}{k:Nat},(∀b∈fp,H' b=none)->∀b∈fp,FpOk (aA X scope N s2 H2 (D+1) fp) [(D,gT its k)] H' b:=fun{H' its k}hn b hb=>
  ⟨hn b hb,D8<|hlt b hb,okC.exfs b hb,.inl hb,(okC.exf b hb).2,fun p hp=>by
   have e:p=(D,gT its k):=by simpa [aA] using hp
   subst e;exact GK (fpD b hb)⟩
 have pinD:∀{σ':St}{H':Hp}{s':CM}{its:List CI}{k:Nat},Inv (aA X scope N s2 H2 (D+1) fp) [] σ' H' s'->s'.heap.get? D=some (gT its k)->H' D=none->Inv (aA X scope N s2 H2 (D+1) fp) [(D,gT its k)] σ' H' s':=fun{σ' H' s' its k}J e n=>
  J.pins_of fun p hp=>by
   have e':p=(D,gT its k):=by simpa using hp
   subst e';exact⟨e,n,D8<|Gm _,nfs hDs,fun v z=>by
    have z':L1 its.toArray k=H0 v:=z;cases z'⟩
 have loop:codeAny (model X.prog X.w) X.A (.compLoop (.ListComp elt [⟨tg,iter,ifs,0⟩] scope pos) 0 (.ref it) (.ref D) (aA X scope N s2 H2 (D+1) fp).env) (RR (.ref D)<|D+1) {s2 with heap:=h4}:=by
  obtain⟨m0,w0⟩:=w0;refine lM (fun n s'=>∃i ys its k σ' H',Inv (aA X scope N s2 H2 (D+1) fp) [(D,gT its k)] σ' H' s'/\tn i s'.heap/\(∀b∈fp,H' b=none)/\Vals ys its/\(∀(j:Nat)(v:V),(bu cap σ)[j]? =some (some v)->σ'[j]? =some (some v))/\W i n ys H') ?_ m0
   ⟨0,[],[],0,bu cap σ,H2,pinD IC hD4<|I2.hok.fresh hDs,T.keep _ _ _ st2 fun b hb o e=>k34 b o<|k23 b o e,fun b hb=>(f2 b hb).1,.nil,fun _ _ e=>e,w0⟩
  rintro n s3 ⟨i,ys,its,k,σ3,H3,I3,st3,fr3,rv,kp,w3⟩;obtain⟨hyl,tr⟩:=turn i n ys H3 w3;have pin3:=I3.pin (D,gT its k)<|Dr _ Dc;rcases tr with⟨stop,qn⟩|⟨go,NN,hNN,step⟩
  ·refine bO (T.done (aA X scope N s2 H2 (D+1) fp) rfl rfl rfl hc i _ s3 σ3 H3 _ I3 (fpO fr3) st3 stop) fun r s4 zz=>?_;obtain⟨hr,I4⟩:=zz;subst hr;exact fin D (D+1) σ3 H3 s4 its k ys hDs hDC (D8<|Gm _) I4 rv (Gk hyl)<|qn D pin3.2.1
  ·have I3':Inv (aA X scope N s2 H2 (D+1) fp) [(D,gT its k)] (bu cap σ) H3 s3:=I3.weak (by rw[I3.len,IC.len]) kp;refine bO (T.item (aA X scope N s2 H2 (D+1) fp) rfl rfl rfl hc i _ s3 _ H3 _ I3' (fpO fr3) st3 go) fun r s4 zz=>?_;obtain⟨u,hr,h4⟩:=zz;subst hr;refine bO h4 fun _ s5 zz=>?_;obtain⟨x,H5,I5,r5,y5,st5,fr5⟩:=zz;have I5':=I5.pinned (fpO fr5)<|T.obj _ _ st5;refine bO (hg _ _ _ _ _ s5 _ H5 x u _ I5' r5<|step x H5 y5) fun _ s6 zz=>?_;obtain⟨σ6,H6,I6,kp6,q6⟩:=zz;refine bO (hf _ _ _ _ _ s6 σ6 H6 _ I6 q6) fun ok s7 zz=>?_;obtain⟨H7,I7,q7⟩:=zz;have back:∀{s8:CM}{H8:Hp},Inv (aA X scope N s2 H2 (D+1) fp) ([(D,gT its k)]++iC fp s5.heap) σ6 H8 s8->tn (i+1) s8.heap/\(∀b∈fp,H8 b=none)/\s8.heap.get? D=some (gT its k)/\H8 D=none:=fun{s8 H8}I8=>by
    have at_:∀b∈fp,∀o,s5.heap.get? b=some o->s8.heap.get? b=some o/\H8 b=none:=fun b hb o e=>by
     have z:=I8.pin (b,o)<|Dr _<|Dr _<|eJ hb e;exact⟨z.1,z.2.1⟩
    have pd:=I8.pin (D,gT its k)<|Dr _<|Hj _ Dc;refine⟨T.keep _ _ _ st5 fun b hb o e=>(at_ b hb o e).1,fun b hb=>?_,pd.1,pd.2.1⟩;obtain⟨o,e,d⟩:=T.obj _ _ st5 b hb;exact(at_ b hb o e).2
   cases ok with
   |false=>
    rw[if_neg D0]at q7 ⊢;obtain⟨m',hm,w'⟩:=hNN _ _ q7;obtain⟨t7,f7,d7,n7⟩:=back I7;exact⟨m',hm,i+1,ys,its,k,σ6,H7,I7.unpinned,t7,f7,rv,fun j v e=>Keep.get kp6 e,w'⟩
   |true=>
    rw[if_pos rfl]at q7 ⊢;refine bO (he _ _ _ _ _ s7 σ6 H7 _ I7 q7) fun y8 s8 zz=>?_;obtain⟨y,H8,I8,r8,q8⟩:=zz;obtain⟨m',hm,w'⟩:=hNN _ _ q8;obtain⟨t8,f8,d8,n8⟩:=back I8;refine append_at (D:=D) (its:=its.toArray) (n:=k) d8 (fun h' hs' hD'=>?_) (by rw[D7,<-rv.length];exact Gk hyl);have J0:Inv (aA X scope N s2 H2 (D+1) fp) [] σ6 H8 s8:=I8.pins_of fun p hp=>by cases hp
    have J1:Inv (aA X scope N s2 H2 (D+1) fp) [] σ6 H8 {s8 with heap:=h'}:=J0.turned (it:=D) (t':=s8.toks) (fun b o hb e=>(hs'.2 b hb).trans e) n8 (D8<|Gm _) (.inr hDs) cellsD fun p hp=>by
     have:p∈([]:List (Addr×Obj)):=hp;cases this
    refine⟨m',hm,i+1,ys++[y],its++[y8],k+1,σ6,H8,pinD J1 (by simpa using hD') n8,T.keep _ _ _ t8 fun b hb o e=>(hs'.2 b<|D8<|fpD b hb).trans e,f8,rv.append<|.cons r8 .nil,fun j v e=>Keep.get kp6 e,w'⟩
 exact codeAny_compStart_list loop<|DZ (T.self _ 0 _ _ _ (T.keep _ _ _ st2 fun b hb o e=>k34 b o<|k23 b o e) loop) (fun _ _ h=>h) fun _ _ h=>h
end
section
variable{X:Cx}{scope:G1}{N:List Str}{cap:List (Option Nat)}{tg iter elt:Expr}{ifs:List Expr}{pos:Pos}{wi:TI}{g:TG}{tf:TT}{te:TE}
theorem mW{pins:List (Addr×Obj)}{σ σ':St}{H2 H':Hp}{s2 s':CM}{fp:List Addr}{D C:Addr}{its:List CI}{k:Nat}{ys:List V}{h':Heap}(I2:Inv X pins σ H2 s2)(f2:∀b∈fp,FpOk X pins H2 b)
  (hD:s2.heap.objs.size<=D) (hC:s2.heap.objs.size<=C) (hDC:D≠C) (I':Inv (aA X scope N s2 H2 C fp) [(D,gT its k)] σ' H' s') (rv:Vals ys its) (hl:ys.length<=sizeLine) (hs:DD C s'.heap h'):
  Inv X pins σ (cI H' D<|.lst ys) {s' with heap:=h'}:=by
 have pd:=I'.pin (D,gT its k)<|Dr _ Dc;have nD:H' D=none:=pd.2.1;have nC:H' C=none:=I'.free;have lt2:∀b o,s2.heap.get? b=some o->b≠D/\b≠C:=fun b o e=>⟨D8<|CW (CV e) hD,D8<|CW (CV e) hC⟩
 have hk:∀b o,b≠C->s'.heap.get? b=some o->h'.get? b=some o:=fun b o hb e=>(hs.2 b hb).trans e;have B:Un (frs X.stack) fp H2 H' s2.heap s'.heap:=I'.base;have tr:∀b u,H' b=some u->b≠D/\b≠C:=fun b u e=>⟨fun z=>(by rw[z,nD]at e;cases e),fun z=>(by rw[z,nC]at e;cases e)⟩
 refine I2.call' (ch:=fp) I'.os ⟨fun b o e n hb hx=>?_,fun b o e n hb hx=>?_,fun b o e n hx=>?_,fun b o e hx=>?_,fun b xs e=>?_,fun b o u e=>?_,fun b ps e=>?_⟩ (fun b u e=>?_) I'.bare fun b hb=>⟨(f2 b hb).2.2.2.1,(f2 b hb).2.1,(f2 b hb).2.2.2.2.1,(f2 b hb).2.2.2.2.2⟩
 ·exact hk b o (lt2 b o e).2 (B.keep b o e n hb hx)
 ·obtain⟨sl,q⟩:=B.slot b o e n hb hx;exact⟨sl,hk b _ (lt2 b o e).2 q⟩
 ·rw[aD (lt2 b o e).1];exact B.free b o e n hx
 ·obtain⟨o',q⟩:=B.there b o e hx;exact⟨o',hk b _ (lt2 b o e).2 q⟩
 ·rw[aD (tr b _<|B.tups b xs e).1];exact B.tups b xs e
 ·rw[aD (tr b _<|B.frzs b o u e).1];exact B.frzs b o u e
 ·obtain⟨more,q⟩:=B.tbls b ps e;exact⟨more,by rw[aD (tr b _ q).1];exact q⟩
 ·by_cases hb:b=D
  ·subst hb;rw[ax]at e;cases e;exact⟨hl,its,k,rv,hk _ _ hDC pd.1⟩
  ·rw[aD hb]at e;refine(I'.hok b u e).stay (fun c w' hc q=>hk c w' ?_ q) (fun c q=>by rw[aD (tr c _ q).1];exact q) fun c xs q=>by rw[aD (tr c _ q).1];exact q
   rcases hc with z|z;·rw[z];exact(tr b u e).2
   ·exact(tr c _ z).2
theorem fF(S:CompScope X scope N cap):∀x∈scope.names,x.2=.local->scope.names.lookup x.1=some .local:=fun x hx hl=>cP S.uniq (by rw[<-hl];exact hx)
theorem eU(S:CompScope X scope N cap)(hc:X.calm=true)(hi:PI X tg iter wi)
  (hg:∀s H C fp,PG (aA X scope N s H C fp) tg g) (hf:∀s H C fp,sE (aA X scope N s H C fp) ifs tf) (he:∀s H C fp,PE (aA X scope N s H C fp) elt te)
  (hs:∀x,foldedSetIterable iter X.env x=pure x:=by intro _;rfl):PE X (.ListComp elt [⟨tg,iter,ifs,0⟩] scope pos) (pZ cap wi g tf te):=by
 intro pins s σ H Q I h;rw[eval_ListComp];have frc:∀x∈scope.names,x.2=.free->∃c,X.env.cells.lookup x.1=some c:=fun x hx hk=>I.ok.has x.1<|S.free x hx hk;refine FF (use:=none) rfl hs (dM frc) S.kind (fF S)<|bO (hi pins s σ H _ I h) fun v s1 h1=>bO h1 fun itv s2 h2=>?_;obtain⟨it,fp,tn,J,H2,rfl,I2,T,st2,f2,W,w0,turn⟩:=h2;refine kW (RR:=fun acc C=>compPost (model X.prog X.w) X.A X.xe none (EP X pins σ Q) acc C) S hc hg hf he I2 T st2 f2 w0 turn fun D C σ' H' s' its k ys hD hC hDC I' rv hl q=>?_;obtain⟨m,hn,_⟩:=I'.loc;exact⟨m,hn,fun h' hs'=>⟨.ref D,_,mW I2 f2 hD hC hDC I' rv hl hs',rfl,q⟩⟩
end
section
variable{X:Cx}{scope:G1}{N:List Str}{cap:List (Option Nat)}{tg iter elt:Expr}{ifs:List Expr}{pos spos py:Pos}{wi:TI}{g:TG}{tf:TT}{te:TE}{i:Nat}{y:Str}
theorem oI(hN:X.N.Nodup)(hi':X.N[i]? =some y)(hy:yb X.env.scope y)(S:CompScope X scope N cap)(hc:X.calm=true)(hi:PI X tg iter wi)
  (hg:∀s H C fp,PG (aA X scope N s H C fp) tg g) (hf:∀s H C fp,sE (aA X scope N s H C fp) ifs tf) (he:∀s H C fp,PE (aA X scope N s H C fp) elt te)
  (hsw:swapsWith (.ListComp elt [⟨tg,iter,ifs,0⟩] scope pos) (some<|.Name y py) spos.line X.env=pure true:=by rfl)
  (hs:∀x,foldedSetIterable iter X.env x=pure x:=by intro _;rfl) (hfn:X.fn y=true\/X.env.scope.names.lookup y=some .local:=by first|exact .inl rfl|exact .inr rfl|assumption):
  PS X (.Assign [.Name y py] (.ListComp elt [⟨tg,iter,ifs,0⟩] scope pos) spos) (bK (pZ cap wi g tf te)<|aM i):=by
 intro pins s σ H D I h;rw[exec_Assign_Name_used _ _ _ _ hsw];refine CD<|Fm<|CD ?_;show wpAny _ X.A (do let _ <-comprehension (.ListComp elt [⟨tg,iter,ifs,0⟩] scope pos) scope X.env _ (newList []) false (eval iter X.env) (some<|assign (.Name y py) X.env)) _ _ s;have frc:∀x∈scope.names,x.2=.free->∃c,X.env.cells.lookup x.1=some c:=fun x hx hk=>I.ok.has x.1<|S.free x hx hk;refine CD<|DZ (FF (use:=some<|assign (.Name y py) X.env) (Q:=fun _ s'=>SP X pins D .next s') rfl hs (dM frc) S.kind (fF S)<|bO (hi pins s σ H _ I h) fun v s1 h1=>bO h1 fun itv s2 h2=>?_) (fun _ s' hq=>CH<|CH hq) fun _ _ e=>e;obtain⟨it,fp,tn,J,H2,rfl,I2,T,st2,f2,W,w0,turn⟩:=h2;refine kW (Qv:=fun x H1=>aM i x σ H1 D.nx) (RR:=fun acc C=>compPost (model X.prog X.w) X.A X.xe (some<|assign (.Name y py) X.env) (fun _ s'=>SP X pins D .next s') acc C) S hc hg hf he I2 T st2 f2 w0 turn fun d C σ' H' s' its k ys hD hC hDC I' rv hl q=>?_;obtain⟨m,hn,_⟩:=I'.loc;have I3:Inv X pins σ (cI H' d<|.lst ys) s':=mW (h':=s'.heap) I2 f2 hD hC hDC I' rv hl<|.refl ..;have nC:(cI H' d<|.lst ys) C=none:=by rw[aD<|Fd hDC];exact I'.free
 have cL:C≠X.env.locals:=fun z=>absurd (CW I2.lt hC) (by rw[z];exact Ee _);have cc:∀x c,X.env.cells.lookup x=some c->c≠C:=fun x c e z=>by
  obtain⟨v,q⟩:=I2.cell x c e;exact absurd (CW q.lt hC) (by rw[z];exact Ee _)
 show wpAny _ X.A (assign (.Name y py) X.env<|.ref d) _ _ _;refine K2<|kO (v:=.ref d) I3 hN hi' hy rfl (fun s4 I4⟨a,sb,ha⟩=>?_) hfn;have aC:C≠a:=by
  rcases ha with z|z;·rw[z];exact cL
  ·exact Fd<|cc _ _ z
 refine⟨m,hn.sameBut sb aC,fun h' hs'=>?_⟩;exact⟨_,_,I4.turned (it:=C) (t':=s4.toks) (fun b o hb e=>(hs'.2 b hb).trans e) nC cL (.inr<|EF I2.sz hC) cc (fun p hp z=>absurd (CW (CV (I2.pin p hp).1) hC) (by rw[z];exact Ee _)),q⟩
end
inductive Src where
 |lst (a:Addr)|tup (a:Addr)|str (l:List Nat)
def Src.has(K:CG)(H:Hp):Src->List V->Prop
 | .lst a,xs=>SqL K H a xs
 | .tup a,xs=>SqT K H a xs
 | .str l,xs=>xs=l.map fun c=>Hv<|aP [c]
def Src.at(it:Addr)(i:Nat)(h:Heap):Src->Prop
 | .lst a=>h.IsListIter it a i
 | .tup a=>h.IsTupleIter it a i
 | .str l=>∃t,h.IsStrIter it "str_ascii_iterator" (aP l) t i\/h.IsStrIter it "str_iterator" (aP l) t i
def Src.val:Src->V
 | .lst a=>.ref a
 | .tup a=>.ref a
 | .str l=>.str<|aP l
section
variable{P:D6}{w:Di}{A:DL}{E:CI->CM->Prop}{s:CM}
theorem lN{j a:Addr}{k:Nat}{us:Array CI}{x:CI}{Q:CI->CM->Prop}(g:s.heap.IsTupleIter j a k)(ga:s.heap.IsTuple a us)(gx:us[k]? =some x)
  (q:∀h',h'.IsTupleIter j a (k+1)->DD j s.heap h'->Q x {s with heap:=h'}):wpAny (model P w) A (DU<|.ref j) Q E s:=by
 obtain⟨ob,e1,e2,e3⟩:=id g;obtain⟨ot,f1,_,nn,f3⟩:=ga;unfold DU;refine CD<|DT (name:=CP "__next__") g.typeIs EO<|DA EO g.typeIs GI ?_<|GB _;show wpAny (model P w) _ (field (.ref j) 0>>=_) _ _ s;refine CD<|EC e1 e3 (x:=.ref a) rfl ?_;show wpAny (model P w) _ (if(DS a==E5)=true then _ else _) _ _ s;rw[if_neg (show ¬((DS a==E5)=true)from D0)];show wpAny (model P w) _ (field (.ref j) 1>>=_) _ _ s;refine CD<|EC e1 e3 (x:=.int k 0) rfl ?_;show wpAny (model P w) _ (seqItems? (.ref a)>>=_) _ _ s;refine CD<|ER f1 f3 ?_;simp only[Ea,gx];refine CD (FO e1 e3 (by simp) (CH ⟨x,rfl,CH (q _ ⟨_,EZ _ e1<|Obj.isFreed_of_fields<|JX e3 _,(Obj.cls_mapFields ..).trans e2,(by rw[JX e3];simp[rawInt])⟩<|Eh ..)⟩))
theorem mX{j a:Addr}{k:Nat}{us:Array CI}{Q:CI->CM->Prop}(hh:A.handled=none)(g:s.heap.IsTupleIter j a k)(ga:s.heap.IsTuple a us)(gx:us[k]? =none)
  (q:∀h' e,Ie j s.heap h'->(∃o,h'.get? e=some o/\o.cls=.type "StopIteration")->E (.ref e) {s with heap:=h'}):wpAny (model P w) A (DU<|.ref j) Q E s:=by
 obtain⟨ob,e1,e2,e3⟩:=id g;obtain⟨ot,f1,_,nn,f3⟩:=ga;unfold DU;refine CD<|DT (name:=CP "__next__") g.typeIs EO<|DA EO g.typeIs GI ?_<|GB _;show wpAny (model P w) _ (field (.ref j) 0>>=_) _ _ s;refine CD<|EC e1 e3 (x:=.ref a) rfl ?_;show wpAny (model P w) _ (if(DS a==E5)=true then _ else _) _ _ s;rw[if_neg (show ¬((DS a==E5)=true)from D0)];show wpAny (model P w) _ (field (.ref j) 1>>=_) _ _ s;refine CD<|EC e1 e3 (x:=.int k 0) rfl ?_;show wpAny (model P w) _ (seqItems? (.ref a)>>=_) _ _ s;refine CD<|ER f1 f3 ?_;simp only[Ea,gx];refine CD (Fq (CD (FO e1 e3 (by simp) ?_)));show wpAny (model P w) _ (newExc (.type "StopIteration") []>>=_) _ _ _;refine CD ?_;simp only[newExc,newTuple];refine CD (DX (CD (m:=firstArgMember _ _) (Jt (a:=E5) (by first|rfl|(simp only[firstArgMember];rfl)) (DX ?_ (by size_fits)))) (by size_fits));simp only[raiseNew];refine CD<|JG ?_
 first|rw[show A.in1.handled=none from hh]|rw[hh]
 exact CD<|CH<|KA<|q _ _ (((Eh ..).extBut.push _).push _) ⟨_,CU _ rfl,rfl⟩
theorem sY(hh:A.handled=none)(j a:Addr)(ne:a≠j)(us:Array CI):LW P w A j [j,a] us.size (fun k v=>us[k]? =some v) (fun k h=>h.IsTupleIter j a k/\h.IsTuple a us) where
 live:=fun _ _ st=>by obtain⟨⟨o,e,_⟩,_⟩:=st;exact⟨o,e⟩
 frame:=fun _ _ _ st hk=>⟨st.1.at fun o e=>hk j (by simp) o e,by obtain⟨o,e,r⟩:=st.2;exact⟨o,hk a (by simp) o e,r⟩⟩
 item:=fun k s Q E hk st q=>lN st.1 st.2 (x:=us[k]) (by simp[hk]) fun h' g' sb=>q _ h' s.toks (by simp[hk]) ⟨g',by obtain⟨o,e,r⟩:=st.2;exact⟨o,(sb.2 a ne).trans e,r⟩⟩ sb
 done:=fun s Q E st q=>mX hh st.1 st.2 (by simp) q
theorem Src.draws{X:Cx}{pins:List (Addr×Obj)}{σ:St}{H:Hp}{s0:CM}{c:Src}{xs:List V}{it:Addr}{i:Nat}(hh:A.handled=none)(I:Inv X pins σ H s0)(hs:c.has X.K H xs)(ht:c.at it i s0.heap)(hit:H it=none):
  ∃(fp:List Addr)(Pt:Nat->CI->Prop)(St:Nat->Heap->Prop),LW X.prog X.w A it fp xs.length Pt St/\St i s0.heap/\(∀k v,Pt k v-> ∃x,xs[k]? =some x/\RelV x v)/\(∀k h,St k h->c.at it k h)/\it∈fp/\
   ∀b∈fp,b=it\/H b≠none\/∃o,X.base.get? b=some o:=by
 cases c with
 |lst a=>
  obtain⟨its,rv,p,hz⟩:=I.list hs;have ne:a≠it:=fun z=>by
   obtain⟨o,e,c1,_⟩:=(show s0.heap.IsListIter it a i from ht)
   obtain⟨o2,e2,c2,_⟩:=p.isList;rw[z,e]at e2;cases e2;rw[c1]at c2;exact absurd c2 (by decide)
  have dr:=Draws.list (prog:=X.prog) (w:=X.w) hh it a ne its.toArray;rw[D7,<-rv.length]at dr;refine⟨_,_,_,dr,⟨ht,p.isList⟩,fun k v e=>?_,fun k h st=>st.1,by simp,fun b hb=>?_⟩
  ·have e:its[k]? =some v:=by simpa using e
   have hk:k<xs.length:=by rw[rv.length];exact(CO.mp e).1
   obtain⟨u,hu,ru⟩:=rv.get (i:=k) (x:=xs[k]) (by simp[hk]);rw[e]at hu;cases hu;exact⟨_,by simp[hk],ru⟩
  ·rcases De.mp hb with z | z;·exact .inl z
   ·have z:b=a:=by simpa using z
    subst z;rcases (show SqL X.K H b xs from hs)with(z|⟨o,z⟩)|⟨o,_,_,z,_⟩
    ·exact .inr (.inl (by rw[z];simp))
    ·exact .inr (.inl (by rw[z];simp))
    ·exact .inr<|.inr ⟨_,I.mod.kin _ _ z⟩
 |tup a=>
  obtain⟨its,rv,p,hz⟩:=I.tuple hs;have p:s0.heap.IsTuple a its.toArray:=p;have ne:a≠it:=fun z=>by
   obtain⟨o,e,c1,_⟩:=(show s0.heap.IsTupleIter it a i from ht)
   obtain⟨o2,e2,c2,_⟩:=id p;rw[z,e]at e2;cases e2;rw[c1]at c2;exact absurd c2 (by decide)
  have dr:=sY (P:=X.prog) (w:=X.w) hh it a ne its.toArray;rw[D7,<-rv.length]at dr;refine⟨_,_,_,dr,⟨ht,p⟩,fun k v e=>?_,fun k h st=>st.1,by simp,fun b hb=>?_⟩
  ·have e:its[k]? =some v:=by simpa using e
   have hk:k<xs.length:=by rw[rv.length];exact(CO.mp e).1
   obtain⟨u,hu,ru⟩:=rv.get (i:=k) (x:=xs[k]) (by simp[hk]);rw[e]at hu;cases hu;exact⟨_,by simp[hk],ru⟩
  ·rcases De.mp hb with z | z;·exact .inl z
   ·have z:b=a:=by simpa using z
    subst z;rcases (show SqT X.K H b xs from hs)with(z|⟨o,z⟩)|⟨o,_,_,z,_⟩
    ·exact .inr (.inl (by rw[z];simp))
    ·exact .inr (.inl (by rw[z];simp))
    ·exact .inr<|.inr ⟨_,I.mod.kin _ _ z⟩
 |str l=>
  have hs:xs=l.map fun c=>Hv (aP [c]):=hs;obtain⟨t,ht⟩:=(show ∃t,s0.heap.IsStrIter it "str_ascii_iterator" (aP l) t i\/s0.heap.IsStrIter it "str_iterator" (aP l) t i from ht)
  have hn:(aP l).cps.size=xs.length:=by rw[hs];simp[aP]
  have sg:∀(k:Nat)(v:CI),(∃c u,(aP l).cps[k]? =some c/\v=.str ⟨#[c]⟩ u)->∃x,xs[k]? =some x/\RelV x v:=fun k v⟨c,u,e,ev⟩=>by
   have e:l[k]? =some c:=by simpa [aP] using e
   exact⟨.str<|aP [c],by rw[hs];simp[e],⟨u,ev⟩⟩
  rcases ht with ht|ht;·exact⟨_,_,_,hn▸Draws.strAscii hh it (aP l) t,ht,sg,fun k h st=>⟨t,.inl st⟩,by simp,fun b hb=>.inl (by simpa using hb)⟩
  ·exact⟨_,_,_,hn▸Draws.strWide hh it (aP l) t,ht,sg,fun k h st=>⟨t,.inr st⟩,by simp,fun b hb=>.inl (by simpa using hb)⟩
end
def jF(v:CI)(h:Heap)(o:Obj):Prop:=∀(prog:D6)(w:Di)(A:DL)(E:CI->CM->Prop)(Q:CI->CM->Prop)(s:CM),s.heap=h->Q (.ref h.objs.size) {s with heap:=h.push o}->wpAny (model prog w) A (pyIter v) Q E s
def Ac(h:Heap)(o1 o2:Obj):Heap:=((h.push o1).push o2).push {cls:=.type "tuple",data:=.seq #[.ref h.objs.size,.ref (h.push o1).objs.size]}
def Ad(h:Heap)(o1 o2:Obj):Heap:=(Ac h o1 o2).push {cls:=.type "tuple",data:=.seq #[.none,.none]}
def zK(h:Heap)(o1 o2:Obj):Heap:=(Ad h o1 o2).push {cls:=.type "zip",data:=.fields #[.none,.bool false,.bool false,.ref ((h.push o1).push o2).objs.size,.ref (Ac h o1 o2).objs.size]}
theorem lO(v1 v2:CI)(o1 o2:Obj):Meets (Ej.«zip.__new__» ⟨[.type "zip",v1,v2],[]⟩) (fun _ R s=>jF v1 s.heap o1/\jF v2 (s.heap.push o1) o2/\R (.ok<|.ret<|.ref (Ad s.heap o1 o2).objs.size) {s with heap:=zK s.heap o1 o2}):=
 .of_wp fun prog w A R s h=>by
  obtain⟨hp,g,d,tk,os⟩:=s;obtain⟨i1,i2,h⟩:=h;have hsub:=sub_zip;have j1:=fun(A:DL)(E:CI->CM->Prop)(Q:CI->CM->Prop)(q:Q _ _)=>i1 prog w A E Q ⟨hp,g,d,tk,os⟩ rfl q;have j2:=fun(A:DL)(E:CI->CM->Prop)(Q:CI->CM->Prop)(q:Q _ _)=>i2 prog w A E Q ⟨hp.push o1,g,d,tk,os⟩ rfl q
  wp_walk using j1 _ _ _,j2 _ _ _
  exact⟨_,rfl,h⟩
theorem rg{P:D6}{w:Di}{A:DL}{E:CI->CM->Prop}{s:CM}{v1 v2:CI}{o1 o2:Obj}{Q:CI->CM->Prop}(i1:jF v1 s.heap o1)(i2:jF v2 (s.heap.push o1) o2)
  (f1:o1.isFreed=false) (f2:o2.isFreed=false)
  (q:∀h',J7 h' (s.heap.objs.size+4) (s.heap.objs.size+2) (s.heap.objs.size+3) .none->GC h' (s.heap.objs.size+2) (.ref s.heap.objs.size) (.ref<|s.heap.objs.size+1)->GC h' (s.heap.objs.size+3) .none .none->
   h'.get? s.heap.objs.size=some o1->h'.get? (s.heap.objs.size+1)=some o2->(∀c o,s.heap.get? c=some o->h'.get? c=some o)->Q (.ref (s.heap.objs.size+4)) {s with heap:=h'}):
  wpAny (model P w) A (call (.type "zip") [v1,v2]) Q E s:=by
 refine callType_new PySem.F.called_zip (by decide) (PySem.F.typeCall_zip_2 _ _) (PySem.F.newCall_zip_2 _ _) (fun obj=>PySem.F.args_object_init_3 obj _ _) PySem.F.entry_zip_new (lO v1 v2 o1 o2) ⟨i1,i2,?_⟩;have z1:(s.heap.push o1).objs.size=s.heap.objs.size+1:=EN ..;have z2:((s.heap.push o1).push o2).objs.size=s.heap.objs.size+2:=by rw[EN,z1]
 have z3:(Ac s.heap o1 o2).objs.size=s.heap.objs.size+3:=by unfold Ac;rw[EN,z2]
 have z4:(Ad s.heap o1 o2).objs.size=s.heap.objs.size+4:=by unfold Ad;rw[EN,z3]
 have g5:(zK s.heap o1 o2).get? (Ad s.heap o1 o2).objs.size=some _:=CU _ rfl;have g4:(zK s.heap o1 o2).get? (Ac s.heap o1 o2).objs.size=some _:=CL _<|CU _ rfl;have g3:(zK s.heap o1 o2).get? ((s.heap.push o1).push o2).objs.size=some _:=CL _<|CL _<|CU _ rfl;have g2:(zK s.heap o1 o2).get? (s.heap.push o1).objs.size=some o2:=CL _<|CL _<|CL _<|CU _ f2;have g1:(zK s.heap o1 o2).get? s.heap.objs.size=some o1:=CL _<|CL _<|CL _<|CL _<|CU _ f1;show _/\_;rw[z2,z3,z4]at g5;rw[z1,z2]at g3;rw[z3]at g4;rw[z1]at g2;rw[z4];exact⟨⟨_,g5,rfl⟩,q _ g5 g3 g4 g1 g2 fun c o x=>CL _<|CL _<|CL _<|CL _<|CL _ x⟩
theorem Src.iter{X:Cx}{pins:List (Addr×Obj)}{σ:St}{H:Hp}{s:CM}{c:Src}{xs:List V}{v:CI}{h:Heap}(I:Inv X pins σ H s)(hs:c.has X.K H xs)(rv:RelV c.val v)(k:∀b o,s.heap.get? b=some o->h.get? b=some o):
  ∃o,jF v h o/\o.isFreed=false/\(∀h':Heap,h'.get? h.objs.size=some o->c.at h.objs.size 0 h'):=by
 cases c with
 |lst a=>
  obtain⟨its,r,p,hz⟩:=I.list hs;cases (show v=.ref a from rv);obtain⟨o,e,r2⟩:=p.isList;refine⟨{cls:=.type "list_iterator",data:=.fields #[.ref a,.int 0 0]},fun prog w A E Q s' e' q=>?_,rfl,fun h' e'=>⟨_,e',rfl,rfl⟩⟩;subst e';exact Ia ⟨o,k a o e,r2⟩ q
 |tup a=>
  obtain⟨its,r,p,hz⟩:=I.tuple hs;cases (show v=.ref a from rv);obtain⟨o,e,r2⟩:=p;refine⟨{cls:=.type "tuple_iterator",data:=.fields #[.ref a,.int 0 0]},fun prog w A E Q s' e' q=>?_,rfl,fun h' e'=>⟨_,e',rfl,rfl⟩⟩;subst e';exact wpAny_pyIter_tuple ⟨o,k a o e,r2⟩ q
 |str l=>
  obtain⟨t,rfl⟩:=(show ∃t,v=.str (aP l) t from rv)
  cases ha:(aP l).cps.all (· <128);·exact⟨{cls:=.type "str_iterator",data:=.fields #[.str (aP l) t,.int 0 0]},fun prog w A E Q s' e' q=>by subst e';exact K9 ha q,rfl,fun h' e'=>⟨t,.inr ⟨_,e',rfl,rfl⟩⟩⟩
  ·exact⟨{cls:=.type "str_ascii_iterator",data:=.fields #[.str (aP l) t,.int 0 0]},fun prog w A E Q s' e' q=>by subst e';exact JV ha q,rfl,fun h' e'=>⟨t,.inl ⟨_,e',rfl,rfl⟩⟩⟩
section
variable{P:D6}{w:Di}{A:DL}{E:CI->CM->Prop}{s:CM}{z TI TO i1 i2:Addr}{fp1 fp2:List Addr}{n1 n2 k:Nat}{P1 P2:Nat->CI->Prop}{S1 S2:Nat->Heap->Prop}{a b:CI}
structure ZApart(z TI TO i1 i2:Addr)(fp1 fp2:List Addr):Prop where
 c1:TI≠z
 c2:TO≠z
 c3:i1≠z
 c4:i2≠z
 c5:TI≠TO
 c6:TI≠i1
 c7:TI≠i2
 c8:TO≠i1
 c9:TO≠i2
 d1:z∉fp1/\TO∉fp1/\i2∉fp1
 d2:z∉fp2/\TO∉fp2/\i1∉fp2
theorem cb{n:Nat}{it:Addr}{fp:List Addr}{Pt:Nat->CI->Prop}{S:Nat->Heap->Prop}(D:LW P w A it fp n Pt S){j:Nat}{h h':Heap}{c:Addr}(st:S j h)(sb:DD c h h')(hc:c∉fp):S j h':=
 D.frame _ _ _ st fun b hb o e=>(sb.2 b fun q=>hc<|q▸hb).trans e
theorem rh{Q:Option CI->CM->Prop}(D1:LW P w A.in1 i1 fp1 n1 P1 S1)(D2:LW P w A.in1 i2 fp2 n2 P2 S2)(Z:ZApart z TI TO i1 i2 fp1 fp2)(h1:k<n1)(h2:k<n2)(hz:J7 s.heap z TI TO .none)
  (hI:GC s.heap TI (.ref i1) (.ref i2)) (hO:GC s.heap TO a b) (t1:S1 k s.heap) (t2:S2 k s.heap)
  (q:∀x y h' tk T,P1 k x->P2 k y->T=s.heap.objs.size->J7 h' z TI TO (rawInt T)->GC h' TO x y->S1 (k+1) h'->S2 (k+1) h'->GC h' T x y->
   (∀c o,c≠z->c≠TO->c≠i1->c≠i2->s.heap.get? c=some o->h'.get? c=some o)->Q (some (.ref T)) {s with heap:=h',toks:=tk}):
  wpAny (model P w) A (pyNext<|.ref z) Q E s:=by
 have hT:s.TypeIs (.ref z) "zip":=⟨_,hz,rfl⟩
 unfold pyNext;refine CD<|G4<|DT (name:=CP "__next__") hT G5<|DA G5 hT IU ?_<|IF _;obtain⟨hp,gg,dd,tk0,os⟩:=s;show wpAny (model P w) _ (field (.ref z) 2>>=_) _ _ _;refine CD<|EC hz rfl (x:=.bool false) rfl ?_;show wpAny (model P w) _ (field (.ref z) 3>>=_) _ _ _;refine CD<|EC hz rfl (x:=.ref TI) rfl<|CD<|ER hI rfl ?_;show wpAny (model P w) _ (EE (.ref z)>>=_) _ _ _;refine CD ?_;unfold EE;refine CD<|EC hz rfl (x:=.none) rfl<|CH ?_;simp only[if_true];refine CD (Fq (CD (EC hz rfl (x:=.ref TO) rfl (CD (Ft hz (by simp) fun g1 y1 b1=>?_)))));replace y1:J7 g1 z TI TO .ellipsis:=y1;replace b1:DD z hp g1:=b1;refine CD ?_;simp only[IG,KH,J6,Js];refine CD<|CD<|Ir ?_;show wpAny (model P w) _ (DU (.ref i1)>>=_) _ _ _;refine CD<|D1.item k _ _ _ h1 (cb D1 t1 b1 Z.d1.1) fun x g2 tk2 px u1 b2=>CH ?_;replace b2:DD i1 g1 g2:=b2;have O2:GC g2 TO a b:=b2.extBut _ _ Z.c8<|b1.extBut _ _ Z.c2 hO;refine CD<|ER O2 rfl<|CD<|Hl O2 fun g3 O3 b3=>?_;replace O3:GC g3 TO x b:=O3;replace b3:DD TO g2 g3:=b3;refine CD<|Ju<|CH<|CD<|CD<|Ir ?_;show wpAny (model P w) _ (DU (.ref i2)>>=_) _ _ _;refine CD<|D2.item k _ _ _ h2 (cb D2 (cb D2 (cb D2 t2 b1 Z.d2.1) b2 Z.d2.2.2) b3 Z.d2.2.1) fun y g4 tk4 py u2 b4=>CH ?_;replace b4:DD i2 g3 g4:=b4;have O4:GC g4 TO x b:=b4.extBut _ _ Z.c9 O3;refine CD<|ER O4 rfl<|CD<|Hl O4 fun g5 O5 b5=>?_;replace O5:GC g5 TO x y:=O5;replace b5:DD TO g4 g5:=b5;refine CD<|Ju<|CH<|CH<|CD<|ER O5 rfl<|CD<|L4 ?_;have sz:g5.objs.size=hp.objs.size:=by rw[b5.1,b4.1,b3.1,b2.1,b1.1]
 have y5:J7 g5 z TI TO .ellipsis:=b5.extBut _ _ Z.c2.symm<|b4.extBut _ _ Z.c4.symm<|b3.extBut _ _ Z.c2.symm<|b2.extBut _ _ Z.c3.symm y1;have k5:∀c o,c≠z->c≠TO->c≠i1->c≠i2->hp.get? c=some o->g5.get? c=some o:=fun c o e1 e2 e3 e4 e=>b5.extBut _ _ e2<|b4.extBut _ _ e4<|b3.extBut _ _ e2<|b2.extBut _ _ e3<|b1.extBut _ _ e1 e;have v1:S1 (k+1) g5:=cb D1 (cb D1 (cb D1 u1 b3 Z.d1.2.1) b4 Z.d1.2.2) b5 Z.d1.2.1;have v2:S2 (k+1) g5:=cb D2 u2 b5 Z.d2.2.1;have lz:z<g5.objs.size:=CV y5;show wpAny (model P w) _ (Gu (.ref z) (.ref g5.objs.size)>>=_) _ _ _;refine CD ?_;unfold Gu;have y6:J7 (g5.push {cls:=.type "tuple",data:=.seq #[x,y]}) z TI TO .ellipsis:=CL _ y5;refine CD (Ft y6 (by simp) fun g7 y7 b7=>?_);replace y7:J7 g7 z TI TO (rawInt g5.objs.size):=y7;replace b7:DD z (g5.push {cls:=.type "tuple",data:=.seq #[x,y]}) g7:=b7;refine Ft y7 (by simp) fun g8 y8 b8=>?_;replace y8:J7 g8 z TI TO (rawInt g5.objs.size):=y8;replace b8:DD z g7 g8:=b8;have up:∀c o,c≠z->g5.get? c=some o->g8.get? c=some o:=fun c o e1 e=>b8.extBut _ _ e1<|b7.extBut _ _ e1<|CL _ e;have T8:GC g8 g5.objs.size x y:=b8.extBut _ _ (GK lz)<|b7.extBut _ _ (GK lz)<|CU _ rfl;refine CH ⟨_,rfl,CH<|q x y g8 _ g5.objs.size px py sz y8 (up _ _ Z.c2 O5) (D1.frame _ _ _ v1 fun b hb o e=>up b o (fun q=>Z.d1.1<|q▸hb) e) (D2.frame _ _ _ v2 fun b hb o e=>up b o (fun q=>Z.d2.1<|q▸hb) e) T8 fun c o e1 e2 e3 e4 e=>up c o e1<|k5 c o e1 e2 e3 e4 e⟩
theorem sZ{Q:Option CI->CM->Prop}(hh:A.handled=none)(D1:LW P w A.in1 i1 fp1 n1 P1 S1)(D2:LW P w A.in1 i2 fp2 n2 P2 S2)(Z:ZApart z TI TO i1 i2 fp1 fp2)(hk:k=n1\/(k<n1/\k=n2))(hz:J7 s.heap z TI TO .none)
  (hI:GC s.heap TI (.ref i1) (.ref i2)) (hO:GC s.heap TO a b) (t1:S1 k s.heap) (t2:S2 k s.heap)
  (q:∀h' tk,(∀c o,c≠z->c≠TO->c≠i1->c≠i2->s.heap.get? c=some o->h'.get? c=some o)->Q none {s with heap:=h',toks:=tk}):
  wpAny (model P w) A (pyNext<|.ref z) Q E s:=by
 have hT:s.TypeIs (.ref z) "zip":=⟨_,hz,rfl⟩
 unfold pyNext;refine CD<|G4<|DT (name:=CP "__next__") hT G5<|DA G5 hT IU ?_<|IF _;obtain⟨hp,gg,dd,tk0,os⟩:=s;show wpAny (model P w) _ (field (.ref z) 2>>=_) _ _ _;refine CD<|EC hz rfl (x:=.bool false) rfl ?_;show wpAny (model P w) _ (field (.ref z) 3>>=_) _ _ _;refine CD<|EC hz rfl (x:=.ref TI) rfl<|CD<|ER hI rfl ?_;show wpAny (model P w) _ (EE (.ref z)>>=_) _ _ _;refine CD ?_;unfold EE;refine CD<|EC hz rfl (x:=.none) rfl<|CH ?_;simp only[if_true];refine CD (Fq (CD (EC hz rfl (x:=.ref TO) rfl (CD (Ft hz (by simp) fun g1 y1 b1=>?_)))));replace y1:J7 g1 z TI TO .ellipsis:=y1;replace b1:DD z hp g1:=b1;refine CD ?_;simp only[IG,KH,J6,Js];refine CD<|CD<|Ir ?_;show wpAny (model P w) _ (DU (.ref i1)>>=_) _ _ _;rcases hk with hk|⟨hk1,hk2⟩
 ·subst hk;refine CD<|D1.done _ _ _ (cb D1 t1 b1 Z.d1.1) fun g2 e b2 he=>?_;obtain⟨oe,hoe,hce⟩:=he;replace b2:Ie i1 g1 g2:=b2;have y2:J7 g2 z TI TO .ellipsis:=b2 _ _ Z.c3.symm y1;have ez:e≠z:=fun x=>by subst x;rw[y2]at hoe;cases hoe;simp at hce
  refine Ft y2 (by simp) fun g3 _ b3=>?_;exact CD<|Gn (T:="StopIteration") (b:=true) ⟨oe,b3.extBut _ _ ez hoe,hce⟩ HJ<|CH<|q g3 _ fun c o e1 _ e3 _ x=>b3.extBut _ _ e1<|b2 _ _ e3<|b1.extBut _ _ e1 x
 ·subst hk2;refine CD<|D1.item k _ _ _ hk1 (cb D1 t1 b1 Z.d1.1) fun x g2 tk2 px u1 b2=>CH ?_;replace b2:DD i1 g1 g2:=b2;have O2:GC g2 TO a b:=b2.extBut _ _ Z.c8<|b1.extBut _ _ Z.c2 hO;refine CD<|ER O2 rfl<|CD<|Hl O2 fun g3 O3 b3=>?_;replace b3:DD TO g2 g3:=b3;refine CD<|Ju<|CH<|CD<|CD<|Ir ?_;show wpAny (model P w) _ (DU (.ref i2)>>=_) _ _ _;refine CD<|D2.done _ _ _ (cb D2 (cb D2 (cb D2 t2 b1 Z.d2.1) b2 Z.d2.2.2) b3 Z.d2.2.1) fun g4 e b4 he=>?_;obtain⟨oe,hoe,hce⟩:=he;replace b4:Ie i2 g3 g4:=b4;have y4:J7 g4 z TI TO .ellipsis:=b4 _ _ Z.c4.symm<|b3.extBut _ _ Z.c2.symm<|b2.extBut _ _ Z.c3.symm y1;have ez:e≠z:=fun x=>by subst x;rw[y4]at hoe;cases hoe;simp at hce
  refine Ft y4 (by simp) fun g5 _ b5=>?_;exact CD<|Gn (T:="StopIteration") (b:=true) ⟨oe,b5.extBut _ _ ez hoe,hce⟩ HJ<|CH<|q g5 _ fun c o e1 e2 e3 e4 x=>b5.extBut _ _ e1<|b4 _ _ e4<|b3.extBut _ _ e2<|b2.extBut _ _ e3<|b1.extBut _ _ e1 x
end
def Ae(K:CG)(c1 c2:Src):It:=
  ⟨fun i H=>∃xs ys x y,c1.has K H xs/\c2.has K H ys/\xs[i]? =some x/\ys[i]? =some y,
   fun i H v H'=>∃p x y,H p=none/\v=.ref p/\(∀xs,c1.has K H xs->xs[i]? =some x)/\(∀ys,c2.has K H ys->ys[i]? =some y)/\H'=cI H p (.tup [x,y]),
   fun i H=>∃xs ys,c1.has K H xs/\c2.has K H ys/\(i=xs.length\/(i<xs.length/\i=ys.length))⟩
theorem Src.inj{X:Cx}{pins:List (Addr×Obj)}{σ:St}{H:Hp}{s:CM}{c:Src}{xs ys:List V}(I:Inv X pins σ H s)(h1:c.has X.K H xs)(h2:c.has X.K H ys):xs=ys:=by
 cases c with
 |lst a=>exact I.list_inj h1 h2
 |tup a=>exact I.tuple_inj h1 h2
 |str l=>exact Eq.trans h1<|Eq.symm h2
theorem Src.at_keep{c:Src}{it:Addr}{i:Nat}{h h':Heap}(st:c.at it i h)(k:∀o,h.get? it=some o->h'.get? it=some o):c.at it i h':=by
 cases c with
 |lst a=>obtain⟨o,e,r⟩:=st;exact⟨o,k o e,r⟩
 |tup a=>obtain⟨o,e,r⟩:=st;exact⟨o,k o e,r⟩
 |str l=>
  obtain⟨t,st⟩:=st;rcases st with⟨o,e,r⟩|⟨o,e,r⟩
  ·exact⟨t,.inl ⟨o,k o e,r⟩⟩
  ·exact⟨t,.inr ⟨o,k o e,r⟩⟩
theorem Src.at_obj{c:Src}{it:Addr}{i:Nat}{h:Heap}(st:c.at it i h):∃o,h.get? it=some o/\∃vs,o.data=.fields vs:=by
 cases c with
 |lst a=>obtain⟨o,e,_,r⟩:=st;exact⟨o,e,_,r⟩
 |tup a=>obtain⟨o,e,_,r⟩:=st;exact⟨o,e,_,r⟩
 |str l=>
  obtain⟨t,st⟩:=st;rcases st with⟨o,e,_,r⟩|⟨o,e,_,r⟩
  ·exact⟨o,e,_,r⟩
  ·exact⟨o,e,_,r⟩
def BS(c1 c2:Src)(z TI TO i1 i2:Addr)(i:Nat)(h:Heap):Prop:=J7 h z TI TO .none/\GC h TI (.ref i1) (.ref i2)/\(∃a b,GC h TO a b)/\c1.at i1 i h/\c2.at i2 i h
structure ZIds(z TI TO i1 i2:Addr):Prop where
 c1:TI≠z
 c2:TO≠z
 c3:i1≠z
 c4:i2≠z
 c5:TI≠TO
 c6:TI≠i1
 c7:TI≠i2
 c8:TO≠i1
 c9:TO≠i2
 c10:i1≠i2
theorem t9{X:Cx}{pins:List (Addr×Obj)}{σ:St}{H:Hp}{s:CM}{z TI TO i1 i2:Addr}{fp1 fp2:List Addr}(I:Inv X pins σ H s)(Z:ZIds z TI TO i1 i2)(hf:∀b∈[z,TI,TO,i1,i2],FpOk X pins H b)
  (g1:∀b∈fp1,b=i1\/H b≠none\/∃o,X.base.get? b=some o) (g2:∀b∈fp2,b=i2\/H b≠none\/∃o,X.base.get? b=some o):ZApart z TI TO i1 i2 fp1 fp2:=by
 have no:∀b∈[z,TI,TO,i1,i2],¬(H b≠none\/∃o,X.base.get? b=some o):=fun b hb q=>by
  rcases q with q|⟨o,q⟩
  ·exact q (hf b hb).1
  ·rcases (hf b hb).2.2.2.1 with y | y;·exact I.ok.noex b o q y
   ·exact absurd (CW (CW (CV q) I.ok.bsz) y)<|Ee _
 refine⟨Z.c1,Z.c2,Z.c3,Z.c4,Z.c5,Z.c6,Z.c7,Z.c8,Z.c9,⟨fun m=>?_,fun m=>?_,fun m=>?_⟩,⟨fun m=>?_,fun m=>?_,fun m=>?_⟩⟩;·exact(g1 _ m).elim (fun e=>Z.c3 e.symm) (no z (by simp))
 ·exact(g1 _ m).elim (fun e=>Z.c8 e) (no TO (by simp))
 ·exact(g1 _ m).elim (fun e=>Z.c10 e.symm) (no i2 (by simp))
 ·exact(g2 _ m).elim (fun e=>Z.c4 e.symm) (no z (by simp))
 ·exact(g2 _ m).elim (fun e=>Z.c9 e) (no TO (by simp))
 ·exact(g2 _ m).elim (fun e=>Z.c10 e) (no i1 (by simp))
theorem tj{P:D6}{w:Di}{K:CG}{elts:List Expr}{kk:Nat}{tp:Pos}(c1 c2:Src)(z TI TO i1 i2:Addr)(Z:ZIds z TI TO i1 i2):
  Turn P w K (.Tuple elts kk tp) (Ae K c1 c2) [z,TI,TO,i1,i2] z (BS c1 c2 z TI TO i1 i2) where
 mem:=by simp
 obj:=fun i h st b hb=>by
  obtain⟨hz,hI,⟨a,b',hO⟩,t1,t2⟩:=st;obtain⟨o1,e1,v1,d1⟩:=Src.at_obj t1;obtain⟨o2,e2,v2,d2⟩:=Src.at_obj t2;simp only[De,Eg,or_false]at hb;rcases hb with rfl|rfl|rfl|rfl|rfl;·exact⟨_,hz,fun v q=>by cases (show I9 _=H0 v from q)⟩
  ·exact⟨_,hI,fun v q=>by cases (show L1 _ _=H0 v from q)⟩
  ·exact⟨_,hO,fun v q=>by cases (show L1 _ _=H0 v from q)⟩
  ·exact⟨_,e1,fun v q=>by rw[d1]at q;cases q⟩
  ·exact⟨_,e2,fun v q=>by rw[d2]at q;cases q⟩
 keep:=fun i h h' st k=>by
  obtain⟨hz,hI,⟨a,b',hO⟩,t1,t2⟩:=st;exact⟨k z (by simp) _ hz,k TI (by simp) _ hI,⟨a,b',k TO (by simp) _ hO⟩,Src.at_keep t1 (k i1 (by simp)),Src.at_keep t2 (k i2 (by simp))⟩
 item:=by
  intro X hP hw hK hc i pins s σ H E I hf st hg;subst hP hw hK;obtain⟨xs,ys,x,y,hx,hy,ex,ey⟩:=hg;obtain⟨hz,hI,⟨a,b',hO⟩,t1,t2⟩:=st;have hh:X.A.in1.handled=none:=I.ok.hd hc;obtain⟨fp1,P1,S1,D1,u1,r1,a1,_,g1⟩:=Src.draws (A:=X.A.in1) hh I hx t1 (hf i1 (by simp)).1;obtain⟨fp2,P2,S2,D2,u2,r2,a2,_,g2⟩:=Src.draws (A:=X.A.in1) hh I hy t2 (hf i2 (by simp)).1;have ZA:=t9 I Z hf g1 g2;refine rh D1 D2 ZA (CO.mp ex).1 (CO.mp ey).1 hz hI hO u1 u2 fun vx vy h' tk T px py hT hz' hO' w1 w2 hTp kp=>?_;obtain⟨x',ex',rx⟩:=r1 i vx px;obtain⟨y',ey',ry⟩:=r2 i vy py;rw[ex]at ex';cases ex';rw[ey]at ey';cases ey';have nT:H T=none:=by rw[hT];exact I.hok.fresh<|CN _
  refine⟨_,rfl,wpAny_letOwnedTupleGo_zip hz' fun h2 hz2 sb=>?_⟩;have lt:∀{c o},s.heap.get? c=some o->c≠T:=fun e=>by rw[hT];exact D8<|CV e
  have up:∀c o,c≠z->h'.get? c=some o->h2.get? c=some o:=fun c o hc e=>(sb.2 c hc).trans e;have kp2:∀b o,b∉[z,TO,i1,i2]->s.heap.get? b=some o->h2.get? b=some o:=fun b o hb e=>by
   simp only[De,Eg,or_false,not_or]at hb;exact up b o hb.1<|kp b o hb.1 hb.2.1 hb.2.2.1 hb.2.2.2 e
  have ch:∀b∈[z,TO,i1,i2],b∈[z,TI,TO,i1,i2]:=fun b hb=>by
   simp only[De,Eg,or_false]at hb ⊢;rcases hb with h|h|h|h<;>simp[h]
  have jq:∀b u,H b=some u->b∉[z,TO,i1,i2]/\b≠T:=fun b u e=>⟨fun hb=>(by rw[(hf b<|ch b hb).1]at e;cases e),fun q=>(by rw[q,nT]at e;cases e)⟩
  have I2:Inv X pins σ (cI H T<|.tup [x,y]) {s with heap:=h2,gens:=s.gens,drawn:=s.drawn,toks:=tk}:=by
   refine I.step (g':=s.gens) (d':=s.drawn) (t':=tk) (ch:=[z,TO,i1,i2]) (fun b hb=>⟨(hf b<|ch b hb).2.2.2.1,(hf b<|ch b hb).2.1,(hf b<|ch b hb).2.2.2.2.1,(hf b<|ch b hb).2.2.2.2.2⟩) (fun b o _ _ hb e _=>kp2 b o hb e) (fun b o _ _ hb e _=>⟨o.slots,kp2 b o hb e⟩)
    (fun b o hb e n=>by rw[aD<|lt e];exact n) (fun b o hb e=>⟨o,kp2 b o hb e⟩) (fun b xs e=>by rw[aD (jq b _ e).2];exact e) (fun b o u e=>by rw[aD (jq b _ e).2];exact e) (fun b ps e=>⟨#[],by rw[aD (jq b _ e).2,e];simp⟩) (fun m hm=>?_) (fun b u e=>?_) I.bare
   ·obtain⟨o,es,ep,ho,r⟩:=hm;exact⟨o,es,ep,kp2 _ o (fun hb=>(hf _<|ch _ hb).2.1 rfl) ho,r⟩
   ·by_cases hb:b=T
    ·subst hb;rw[ax]at e;cases e;refine⟨(by show 2<=sizeLine;rw[Dz];decide),[vx,vy],.cons rx<|.cons ry .nil,⟨_,up _ _ ?_ hTp,⟨rfl,rfl⟩,_,rfl⟩⟩;exact fun q=>lt hz q.symm
    ·rw[aD hb]at e;refine(I.hok b u e).stay (fun c v hc q=>kp2 c v ?_ q) (fun c q=>by rw[aD (jq c _ q).2];exact q) fun c xs q=>by rw[aD (jq c _ q).2];exact q
     rcases hc with q|q;·rw[q];exact(jq b u e).1
     ·exact(jq c _ q).1
  refine⟨.ref T,_,I2,rfl,⟨T,x,y,nT,rfl,fun xs' h=>by rw[Src.inj I h hx];exact ex,fun ys' h=>by rw[Src.inj I h hy];exact ey,rfl⟩,⟨hz2,up _ _ Z.c1<|kp _ _ Z.c1 Z.c5 Z.c6 Z.c7 hI,⟨_,_,up _ _ Z.c2 hO'⟩,Src.at_keep (a1 _ _ w1) fun o e=>up _ o Z.c3 e,Src.at_keep (a2 _ _ w2) fun o e=>up _ o Z.c4 e⟩,fun b hb=>?_⟩;have hbT:b≠T:=by
   obtain⟨o,e⟩:∃o,s.heap.get? b=some o:=by
    obtain⟨o1,e1,_⟩:=Src.at_obj t1;obtain⟨o2,e2,_⟩:=Src.at_obj t2;simp only[De,Eg,or_false]at hb;rcases hb with rfl|rfl|rfl|rfl|rfl;·exact⟨_,hz⟩
    ·exact⟨_,hI⟩
    ·exact⟨_,hO⟩
    ·exact⟨_,e1⟩
    ·exact⟨_,e2⟩
   exact lt e
  rw[aD hbT];exact(hf b hb).1
 done:=by
  intro X hP hw hK hc i pins s σ H E I hf st hg;subst hP hw hK;obtain⟨xs,ys,hx,hy,hend⟩:=hg;obtain⟨hz,hI,⟨a,b',hO⟩,t1,t2⟩:=st;have hh:X.A.in1.handled=none:=I.ok.hd hc;obtain⟨fp1,P1,S1,D1,u1,r1,a1,_,g1⟩:=Src.draws (A:=X.A.in1) hh I hx t1 (hf i1 (by simp)).1;obtain⟨fp2,P2,S2,D2,u2,r2,a2,_,g2⟩:=Src.draws (A:=X.A.in1) hh I hy t2 (hf i2 (by simp)).1;have ZA:=t9 I Z hf g1 g2;have ch:∀b∈[z,TO,i1,i2],b∈[z,TI,TO,i1,i2]:=fun b hb=>by
   simp only[De,Eg,or_false]at hb ⊢;rcases hb with h|h|h|h<;>simp[h]
  refine sZ hh D1 D2 ZA hend hz hI hO u1 u2 fun h2 tk kp=>⟨rfl,?_⟩
  have kp2:∀b o,b∉[z,TO,i1,i2]->s.heap.get? b=some o->h2.get? b=some o:=fun b o hb e=>by
   simp only[De,Eg,or_false,not_or]at hb;exact kp b o hb.1 hb.2.1 hb.2.2.1 hb.2.2.2 e
  refine I.step (g':=s.gens) (d':=s.drawn) (t':=tk) (ch:=[z,TO,i1,i2]) (fun b hb=>⟨(hf b<|ch b hb).2.2.2.1,(hf b<|ch b hb).2.1,(hf b<|ch b hb).2.2.2.2.1,(hf b<|ch b hb).2.2.2.2.2⟩) (fun b o _ _ hb e _=>kp2 b o hb e) (fun b o _ _ hb e _=>⟨o.slots,kp2 b o hb e⟩)
   (fun b o hb e n=>n) (fun b o hb e=>⟨o,kp2 b o hb e⟩) (fun b xs e=>e) (fun b o u e=>e) (fun b ps e=>⟨#[],by rw[e];simp⟩) (fun m hm=>?_) (fun b u e=>?_) I.bare
  ·obtain⟨o,es,ep,ho,r⟩:=hm;exact⟨o,es,ep,kp2 _ o (fun hb=>(hf _<|ch _ hb).2.1 rfl) ho,r⟩
  ·have jq:∀b u,H b=some u->b∉[z,TO,i1,i2]:=fun b u e hb=>by rw[(hf b<|ch b hb).1]at e;cases e
   refine(I.hok b u e).stay (fun c v hc q=>kp2 c v ?_ q) (fun c q=>q) fun c xs q=>q;rcases hc with q|q
   ·rw[q];exact jq b u e
   ·exact jq c _ q
 self:=fun _ _ _ _ _ st h=>Kn st.1 h
theorem tm(n a b:Nat)(h:a≠b): @Ne Nat (n+a) (n+b):=fun e=>h<|Nat.add_left_cancel e
def yT(K:CG)(t:TA):TI:=fun σ H R=>t σ H fun vs H1=>∃c1 c2 xs ys,vs=[c1.val,c2.val]/\c1.has K H1 xs/\c2.has K H1 ys/\R (Ae K c1 c2) H1
theorem yV{X:Cx}{a b:Expr}{ta:TA}{p pos tp:Pos}{elts:List Expr}{kk:Nat}(hg:Gl X "zip")(hm:X.mg "zip"=none)(ha:PA X [a,b] ta)
  (hs:starEach [a,b] X.env=[(false,eval a X.env),(false,eval b X.env)]:=by rfl) (hs2:starEach [b] X.env=[(false,eval b X.env)]:=by rfl):PI X (.Tuple elts kk tp) (.Call (.Name "zip" p) [a,b] [] pos) (yT X.K ta):=by
 intro pins s σ H R I h;refine MK (fY I hg hm boot_zip (Ek (bO (ha pos pins s σ H _ I h) fun us s1⟨vs,H1,I1,r1,q1⟩=>?_) (by rw[hs,hs2]) (by rw[hs2];rfl)));obtain⟨c1,c2,xs,ys,e,h1,h2,q⟩:=q1;subst e;obtain⟨v1,v2,rfl,ra,rb⟩:=ye r1;obtain⟨o1,i1,f1,n1⟩:=Src.iter I1 h1 ra fun _ _ e=>e;obtain⟨o2,i2,f2,n2⟩:=Src.iter (h:=s1.heap.push o1) I1 h2 rb fun _ _ e=>CL _ e;have z1:(s1.heap.push o1).objs.size=s1.heap.objs.size+1:=EN ..;rw[z1]at n2;refine rg i1 i2 f1 f2 fun h' hz hI hO e1 e2 kp=>?_;refine Kn hz ?_;have zi:∀n:Nat,ZIds (n+4) (n+2) (n+3) n (n+1):=fun n=>⟨(tm n 2 4 (by decide)),(tm n 3 4 (by decide)),(tm n 0 4 (by decide)),(tm n 1 4 (by decide)),(tm n 2 3 (by decide)),(tm n 2 0 (by decide)),(tm n 2 1 (by decide)),(tm n 3 0 (by decide)),(tm n 3 1 (by decide)),(tm n 0 1 (by decide))⟩
 refine⟨s1.heap.objs.size+4,[s1.heap.objs.size+4,s1.heap.objs.size+2,s1.heap.objs.size+3,s1.heap.objs.size,s1.heap.objs.size+1],_,_,H1,rfl,I1.kept (t':=s1.toks) kp,tj c1 c2 _ _ _ _ _<|zi s1.heap.objs.size,⟨hz,hI,⟨_,_,hO⟩,n1 h' e1,n2 h' e2⟩,fun b hb=>?_,q⟩;have hb':s1.heap.objs.size<=b:=by
  simp only[De,Eg,or_false]at hb;rcases hb with z|z|z|z|z<;>rw[z]
  ·exact Fo _ 4
  ·exact Fo _ 2
  ·exact Fo _ 3
  ·exact CN _
  ·exact Fo _ 1
 exact I1.fpOk hb'<|I1.hok.fresh hb'
theorem wy{K:CG}{c1 c2:Src}{xs ys:List V}{g:TG}{tb:TS}{D:Ends}{σ:St}{H:Hp}(Pv:Nat->St->Hp->Prop)(h0:Pv 0 σ H)(hl:∀i σ H,Pv i σ H->c1.has K H xs/\c2.has K H ys)(hn:xs.length=ys.length)
  (hs:∀i x y p σ H,xs[i]? =some x->ys[i]? =some y->H p=none->Pv i σ H->g (.ref p) σ (cI H p<|.tup [x,y]) fun σ2 H2=>tb {D with nx:=Pv<|i+1,ct:=Pv<|i+1,bk:=D.nx} σ2 H2) (hd:∀σ H,Pv xs.length σ H->D.nx σ H):
  ∃W:Nat->Nat->St->Hp->Prop,(∃m,W 0 m σ H)/\ ∀i m σ H,W i m σ H->
   ((Ae K c1 c2).stop i H/\D.nx σ H)\/((Ae K c1 c2).go i H/\∃N:St->Hp->Prop,(∀σ' H',N σ' H'->∃m',m'<m/\W (i+1) m' σ' H')/\∀x H',(Ae K c1 c2).yld i H x H'->g x σ H' fun σ2 H2=>tb {D with nx:=N,ct:=N,bk:=D.nx} σ2 H2):=by
 refine⟨fun i m σ H=>m=xs.length-i/\i<=xs.length/\Pv i σ H,⟨xs.length,by simp,Dl _,h0⟩,?_⟩;rintro i m σ H ⟨rfl,hi,p⟩;obtain⟨q1,q2⟩:=hl i σ H p;by_cases hlt:i<xs.length
 ·refine .inr ⟨⟨xs,ys,xs[i],ys[i],q1,q2,by simp[hlt],by simp[<-hn,hlt]⟩,Pv<|i+1,fun σ' H' p'=>⟨xs.length- (i+1),by omega,rfl,hlt,p'⟩,fun v H' ⟨a,x,y,na,ev,ex,ey,eh⟩=>?_⟩;subst ev eh;exact hs i x y a σ H (ex xs q1) (ey ys q2) na p
 ·have e:i=xs.length:=by omega
  subst e;exact .inl ⟨⟨xs,ys,q1,q2,.inl rfl⟩,hd σ H p⟩
structure Cal(P:D6)(w:Di)(K:CG)(mg:Str->Option CI)(base:Heap)(x:Str)(ps:List Str)(k:Nat)(sp:Sp):Prop where
 ex:∃(f:Addr)(fd:Dk),FnOk P w K mg base CX0 k f fd ps sp/\mg x=some (.ref f)/\FK K (.ref f)=true/\Binds K fd ps []
theorem tq{X:Cx}{x:Str}{ps:List Str}{k:Nat}{sp:Sp}{p pos:Pos}{e:Expr}{es:List Expr}{t:TA}(C:Cal X.prog X.w X.K X.mg X.base x ps k sp)(hr:Room k X.A)(hg:Gl X x)(ha:PA X (e::es) t)
  (hdb:(x==("__debug__" :Str))=false:=by decide) (he:starEach (e::es) X.env=(false,eval e X.env)::starEach es X.env:=by rfl) (hpl:(backTo pos<|starEach es X.env).any (·.1)=false:=by rfl):
  PE X (.Call (.Name x p) (e::es) [] pos) (aT sp [] E0 t):=by
 obtain⟨f,fd,F,hm,hk,hb⟩:=C.ex;exact wk F hr hg hm hk hb .nil A9 ha hdb he hpl
theorem iE{X:Cx}{scope:G1}{N:List Str}{cap:List (Option Nat)}(kind:scope.kind=.function)(nd:N.Nodup)(len:cap.length=N.length)(uniq:(scope.names.map (·.1)).Nodup)
  (fr:(scope.names.all fun x=>x.2 != .free||(X.env.kindOf x.1==some .cell||X.env.kindOf x.1==some .free))=true)
  (cp:((N.zip cap).all fun p=>match p.2 with|none=>true|some j=>X.N[j]? ==some p.1&&scope.names.contains (p.1,Ef))=true):CompScope X scope N cap:=by
 refine⟨kind,nd,len,uniq,fun x hx hk=>?_,fun k x j h1 h2=>?_⟩
 ·have:=Ko.mp fr x hx;rw[hk]at this;simpa using this
 ·have hm:(x,some j)∈N.zip cap:=by
   rw[G6];exact⟨k,by rw[HW];exact⟨h1,h2⟩⟩
  have:=Ko.mp cp _ hm;simpa using this
def flat:V->Bool
 | .non=>true
 | .bl _=>true
 | .int _=>true
 | .str _=>true
 |_=>false
theorem cK{H:Hp}{p:Addr}{o:HO}(h:H p=none):Same H (cI H p o):=fun b u e=>by rw[aD<|cn e h];exact e
theorem fT(x:String)(l:List Nat)(h:(CP x).cps.toList=l):CP x=aP l:=by rw[sS<|CP x,h]
section
variable{X:Cx}{K:CG}{w:Di}
theorem aE(h:X.K=K):zJ X (cu K):=h▸yN
theorem aY(h:X.K=K):zJ X (bZ K):=h▸wo
theorem bN(h:X.K=K):dn X (.builtin "len") (fun xs H Q=>∃x n,xs=[x]/\qV K x H n/\Q (.int n) H):=h▸sO
theorem bq(h:X.K=K):dn X (.builtin "isinstance") (fun xs H Q=>∃x T t b,xs=[x,.ty T]/\TyOf K H x t/\F8 K t (.type T)=some b/\Q (.bl b) H):=h▸mU
theorem tu(h:X.K=K):A7 X "str.join" (fun x xs H Q=>∃(p:Addr)(ys:List (List Nat)),x=.str (aP [])/\xs=[.ref p]/\SqL K H p (ys.map fun y=>Hv<|aP y)/\ys.flatten.length<=100000/\Q (.str<|aP ys.flatten) H):=h▸wu
theorem tx(h:X.K=K):AM X (cy K):=h▸wq
theorem kX(h:X.K=K)(hw:X.w=w){o i:Expr}{pos:Pos}{td ty:TE}(ho:PE X o td)(hi:PE X i ty)(hs:sQ i):PE X (.Subscript o i pos) (aO K w td ty):=h▸hw▸sT ho hi hs
theorem bL(h:X.K=K){pos:Pos}{es:List Expr}{k:Nat}{t:yc}{n:Nat}(hc:X.calm=true)(hg:zZ X es t)(hn:(assignEach es X.env).length=n:=by rfl)(hst:(assignEach es X.env).findIdx? (·.1)=none:=by rfl):PG X (.Tuple es k pos) (cq K n t):=h▸yH hc hg hn hst
theorem cf(h:X.K=K){tg l:Expr}{tl:TE}(hl:PE X l tl):PI X tg l (sJ K tl):=h▸wd hl
theorem fG(h:X.K=K){a b:Expr}{ta:TA}{p pos tp:Pos}{elts:List Expr}{kk:Nat}(hg:Gl X "zip")(hm:X.mg "zip"=none)(ha:PA X [a,b] ta)
  (hs:starEach [a,b] X.env=[(false,eval a X.env),(false,eval b X.env)]:=by rfl) (hs2:starEach [b] X.env=[(false,eval b X.env)]:=by rfl):PI X (.Tuple elts kk tp) (.Call (.Name "zip" p) [a,b] [] pos) (yT K ta):=h▸yV hg hm ha hs hs2
theorem oJ(h:X.K=K){o e:Expr}{es:List Expr}{to:TE}{t:TA}{name:Str}{apos cpos:Pos}{T id:String}{r:V->List V->Hp->VK->Prop}(pa:PlainAttrs T)(slot:Slot T name id)(hty:typeOf (.builtin id)=pure (.type "method_descriptor"))(hm:A7 X id r)(ho:PE X o to)(ha:PA X (e::es) t)
  (hbase:attributeBase o name X.env (eval o X.env)=eval o X.env:=by rfl)
  (hfew:((backTo cpos<|starEach (e::es) X.env).all (fun x=> !x.1)&&(backToKw cpos<|keywordEach [] X.env).all (fun x=>x.1.isSome)&&decide ((e::es).length+([]:List IQ).length+(if([]:List IQ).isEmpty then 0 else 1)<30))=true:=by rfl)
  (hline:(apos.endLine==cpos.line)=true:=by rfl) (hs:starEach (e::es) X.env=(false,eval e X.env)::starEach es X.env:=by rfl) (hplain:(backTo cpos<|starEach es X.env).any (·.1)=false:=by rfl):
  PE X (.Call (.Attribute o name apos) (e::es) [] cpos) (ee K T r to t):=h▸A8 pa slot hty hm ho ha hbase hfew hline hs hplain
end
def BL(K:CG)(a:Addr):It:=
  ⟨fun i H=>∃xs x,SqL K H a xs/\xs[i]? =some x,
   fun i H v H'=>∃p x,H p=none/\v=.ref p/\(∀xs,SqL K H a xs->xs[i]? =some x)/\H'=cI H p (.tup [.int i,x]),
   fun i H=>∃xs,SqL K H a xs/\xs.length=i⟩
def BU(a e it:Addr)(i:Nat)(h:Heap):Prop:=(∃old,IsEnum h e it i old)/\h.IsListIter it a i
theorem rj{P:D6}{w:Di}{K:CG}{elts:List Expr}{kk:Nat}{tp:Pos}(a e it:Addr)(ne:e≠it):Turn P w K (.Tuple elts kk tp) (BL K a) [e,it] e (BU a e it) where
 mem:=by simp
 obj:=fun i h st b hb=>by
  obtain⟨⟨old,he⟩,t1⟩:=st;obtain⟨o1,e1,v1,d1⟩:=Src.at_obj (c:=.lst a) t1;simp only[De,Eg,or_false]at hb;rcases hb with rfl|rfl;·exact⟨_,he,fun v q=>by cases (show I9 _=H0 v from q)⟩
  ·exact⟨_,e1,fun v q=>by rw[d1]at q;cases q⟩
 keep:=fun i h h' st k=>by
  obtain⟨⟨old,he⟩,t1⟩:=st;exact⟨⟨old,k e (by simp) _ he⟩,Src.at_keep (c:=.lst a) t1 (k it (by simp))⟩
 item:=by
  intro X hP hw hK hc i pins s σ H E I hf st hg;subst hP hw hK;obtain⟨xs,x,hx,ex⟩:=hg;obtain⟨⟨old,he⟩,t1⟩:=st;have hh:X.A.in1.handled=none:=I.ok.hd hc;obtain⟨fp1,P1,S1,D1,u1,r1,a1,_,g1⟩:=Src.draws (A:=X.A.in1) (c:=.lst a) hh I hx t1 (hf it (by simp)).1;have nof:e∉fp1:=fun m=>by
   rcases g1 e m with q|q|⟨o,q⟩
   ·exact ne q
   ·exact q (hf e (by simp)).1
   ·rcases (hf e (by simp)).2.2.2.1 with y | y;·exact I.ok.noex e o q y
    ·exact absurd (CW (CW (CV q) I.ok.bsz) y)<|Ee _
  refine wpAny_pyNext_enum_itemD D1 he u1 (CO.mp ex).1 ne nof fun vx h' tk px ho w1 hTp hsz kp=>?_;obtain⟨x',ex',rx⟩:=r1 i vx px;rw[ex]at ex';cases ex';have nT:H s.heap.objs.size=none:=I.hok.fresh<|CN _;refine⟨_,rfl,wpAny_letOwnedTupleGo_enum ho fun h2 he2 sb=>?_⟩;have lt:∀{c o},s.heap.get? c=some o->c≠s.heap.objs.size:=fun e=>D8<|CV e;have kp2:∀b o,b∉[e,it]->s.heap.get? b=some o->h2.get? b=some o:=fun b o hb q=>by
   simp only[De,Eg,or_false,not_or]at hb;exact(sb.2 b hb.1).trans (kp b o hb.1 hb.2 q)
  have jq:∀b u,H b=some u->b∉[e,it]/\b≠s.heap.objs.size:=fun b u q=>⟨fun hb=>(by rw[(hf b hb).1]at q;cases q),fun z=>(by rw[z,nT]at q;cases q)⟩
  have I2:Inv X pins σ (cI H s.heap.objs.size<|.tup [.int i,x]) {s with heap:=h2,gens:=s.gens,drawn:=s.drawn,toks:=tk+1}:=by
   refine I.step (g':=s.gens) (d':=s.drawn) (t':=tk+1) (ch:=[e,it]) (fun b hb=>⟨(hf b hb).2.2.2.1,(hf b hb).2.1,(hf b hb).2.2.2.2.1,(hf b hb).2.2.2.2.2⟩) (fun b o _ _ hb q _=>kp2 b o hb q) (fun b o _ _ hb q _=>⟨o.slots,kp2 b o hb q⟩)
    (fun b o hb q n=>by rw[aD<|lt q];exact n) (fun b o hb q=>⟨o,kp2 b o hb q⟩) (fun b xs q=>by rw[aD (jq b _ q).2];exact q) (fun b o u q=>by rw[aD (jq b _ q).2];exact q) (fun b ps q=>⟨#[],by rw[aD (jq b _ q).2,q];simp⟩) (fun m hm=>?_) (fun b u q=>?_) I.bare
   ·obtain⟨o,es,ep,ho',r⟩:=hm;exact⟨o,es,ep,kp2 _ o (fun hb=>(hf _ hb).2.1 rfl) ho',r⟩
   ·by_cases hb:b=s.heap.objs.size
    ·subst hb;rw[ax]at q;cases q;refine⟨(by show 2<=sizeLine;rw[Dz];decide),[.int i tk,vx],.cons ⟨_,rfl⟩<|.cons rx .nil,⟨_,(sb.2 _ ?_).trans hTp,⟨rfl,rfl⟩,_,rfl⟩⟩;exact fun z=>lt he z.symm
    ·rw[aD hb]at q;refine(I.hok b u q).stay (fun c v hc z=>kp2 c v ?_ z) (fun c z=>by rw[aD (jq c _ z).2];exact z) fun c xs z=>by rw[aD (jq c _ z).2];exact z
     rcases hc with z|z;·rw[z];exact(jq b u q).1
     ·exact(jq c _ z).1
  refine⟨.ref s.heap.objs.size,_,I2,rfl,⟨_,x,nT,rfl,fun xs' h=>by rw[I.list_inj h hx];exact ex,rfl⟩,⟨⟨_,by simpa using he2⟩,Src.at_keep (c:=.lst a) (a1 _ _ w1) fun o q=>(sb.2 _<|Fd ne).trans q⟩,fun b hb=>?_⟩;have hbT:b≠s.heap.objs.size:=by
   obtain⟨o1,e1,_⟩:=Src.at_obj (c:=.lst a) t1;simp only[De,Eg,or_false]at hb;rcases hb with rfl|rfl;·exact lt he
   ·exact lt e1
  rw[aD hbT];exact(hf b hb).1
 done:=by
  intro X hP hw hK hc i pins s σ H E I hf st hg;subst hP hw hK;obtain⟨xs,hx,hl⟩:=hg;obtain⟨⟨old,he⟩,t1⟩:=st;have hh:X.A.in1.handled=none:=I.ok.hd hc;obtain⟨fp1,P1,S1,D1,u1,r1,a1,_,g1⟩:=Src.draws (A:=X.A.in1) (c:=.lst a) hh I hx t1 (hf it (by simp)).1;subst hl;obtain⟨f0,f1,f2,f3,f4,f5⟩:=hf it (by simp);exact wpAny_pyNext_enum_endD D1 he u1 fun h' hx'=>⟨rfl,I.turned (t':=s.toks) (fun b o hb q=>hx' b o hb q) f0 f1 f3 f4 f5⟩
 self:=fun _ _ _ _ _ st h=>by obtain⟨⟨old,he⟩,_⟩:=st;exact Ka he h
def yh(K:CG)(t:TA):TI:=fun σ H R=>t σ H fun vs H1=>∃a xs,vs=[.ref a]/\SqL K H1 a xs/\R (BL K a) H1
theorem wz{X:Cx}{K:CG}(hK:X.K=K){b:Expr}{ta:TA}{p pos tp:Pos}{elts:List Expr}{kk:Nat}(hg:Gl X "enumerate")(hm:X.mg "enumerate"=none)(ha:PA X [b] ta)(hs:starEach [b] X.env=[(false,eval b X.env)]:=by rfl):
  PI X (.Tuple elts kk tp) (.Call (.Name "enumerate" p) [b] [] pos) (yh K ta):=by
 subst hK;intro pins s σ H R I h;refine MK<|fY I hg hm boot_enumerate<|Ek (bO (ha pos pins s σ H _ I h) fun us s1⟨vs,H1,I1,r1,q1⟩=>?_) hs rfl;obtain⟨a,xs,e,h1,q⟩:=q1;subst e;obtain⟨v1,rfl,ra⟩:=dY r1;cases ra;obtain⟨its,rv,pl,hz⟩:=I1.list h1;refine call_enumerate_list pl.isList fun h' he hi hsz kp=>?_;refine Ka he ?_;refine⟨s1.heap.objs.size+1,[s1.heap.objs.size+1,s1.heap.objs.size],_,_,H1,rfl,I1.kept (t':=s1.toks) kp,rj a _ _ (tm s1.heap.objs.size 1 0 (by decide)),⟨⟨_,he⟩,hi⟩,fun b hb=>?_,q⟩;have hb':s1.heap.objs.size<=b:=by
  simp only[De,Eg,or_false]at hb;rcases hb with z|z<;>rw[z]
  ·exact Fo _ 1
  ·exact CN _
 exact I1.fpOk hb'<|I1.hok.fresh hb'
end L2
namespace Wb
open PySem L2
abbrev Rp(α:Type):=Hp->α->V->Prop
class Mono{α:Type}(R:Rp α):Prop where
 mono:∀{H H':Hp}{m:α}{v:V},Same H H'->R H m v->R H' m v
def LR{α:Type}(R:Rp α)(H:Hp)(ms:List α)(vs:List V):Prop:=vs.length=ms.length/\∀(i:Nat)(v:V)(m:α),vs[i]? =some v->ms[i]? =some m->R H m v
theorem LR.nil{α:Type}{R:Rp α}{H:Hp}:LR R H [] []:=⟨rfl,fun i v m e=>by simp at e⟩
theorem LR.same{α:Type}{R:Rp α}[Mono R]{H H':Hp}{ms:List α}{vs:List V}(h:LR R H ms vs)(e:Same H H'):LR R H' ms vs:=⟨h.1,fun i v m a b=>Mono.mono e<|h.2 i v m a b⟩
theorem LR.snoc{α:Type}{R:Rp α}{H:Hp}{ms:List α}{vs:List V}{m:α}{v:V}(h:LR R H ms vs)(r:R H m v):LR R H (ms++[m]) (vs++[v]):=by
 refine⟨by simp[h.1],fun i v' m' a b=>?_⟩;by_cases hi:i<vs.length
 ·rw[D3 hi]at a;rw[D3 (by rw[<-h.1];exact hi)]at b;exact h.2 i v' m' a b
 ·rw[D4 (by omega)]at a;rw[D4 (by rw[<-h.1];omega)]at b;rw[<-h.1]at b;cases e:i-vs.length with
  |zero=>rw[e]at a b;simp at a b;subst a b;exact r
  |succ n=>rw[e]at a;simp at a
theorem LR.get{α:Type}{R:Rp α}{H:Hp}{ms:List α}{vs:List V}{i:Nat}{m:α}(h:LR R H ms vs)(e:ms[i]? =some m):∃v,vs[i]? =some v/\R H m v:=by
 have hi:i<vs.length:=by rw[h.1];exact(CO.mp e).1
 exact⟨vs[i],by simp[hi],h.2 i _ m (by simp[hi]) e⟩
theorem LR.got{α:Type}{R:Rp α}{H:Hp}{ms:List α}{vs:List V}{i:Nat}{v:V}(h:LR R H ms vs)(e:vs[i]? =some v):∃m,ms[i]? =some m/\R H m v:=by
 have hi:i<ms.length:=by rw[<-h.1];exact(CO.mp e).1
 exact⟨ms[i],by simp[hi],h.2 i v _ e (by simp[hi])⟩
def isL{α:Type}(R:Rp α):Rp (List α):=fun H ms v=>∃p vs,v=.ref p/\H p=some (.lst vs)/\LR R H ms vs
instance zkeep1{α:Type}{R:Rp α}[Mono R]:Mono (isL R):=⟨fun e⟨p,vs,h1,h2,h3⟩=>⟨p,vs,h1,e _ _ h2,h3.same e⟩⟩
def isS:Rp (List Nat):=fun _ l v=>v=.str (aP l)
instance zkeep2:Mono isS:=⟨fun _ h=>h⟩
def isI:Rp Int:=fun _ l v=>v=.int l
instance zkeep4:Mono isI:=⟨fun _ h=>h⟩
theorem LR.str{H:Hp}{ms:List (List Nat)}{vs:List V}(h:LR isS H ms vs):vs=ms.map fun l=>Hv (aP l):=by
 refine El fun i=>?_;rw[CS];cases e:ms[i]? with
 |none=>rw[DJ]at e;rw[DJ.mpr (by rw[h.1];exact e)];rfl
 |some m=>obtain⟨v,a,b⟩:=h.get e;rw[a];cases b;rfl
end Wb
open Wb.Mono renaming mono->CB
namespace L2
open PySem PySem.Spec PyProof.Rows
section
variable{X:Cx}{K:CG}{w:Di}
theorem f9(h:X.K=K):dn X (.type "list") (fun xs H Q=>∃p ys,xs=[.ref p]/\(SqL K H p ys\/SqT K H p ys)/\∀l,H l=none->Q (.ref l) (cI H l<|.lst ys)):=h▸lJ
end
end L2
namespace Wb
open PySem L2
theorem LR.take{α:Type}{R:Rp α}{H:Hp}{ms:List α}{vs:List V}(h:LR R H ms vs)(k:Nat):LR R H (ms.take k) (vs.take k):=by
 refine⟨by simp[h.1],fun i v m a b=>?_⟩;rw[List.getElem?_take]at a b;split at a;·rw[if_pos (by assumption)]at b;exact h.2 i v m a b
 ·cases a
theorem LR.drop{α:Type}{R:Rp α}{H:Hp}{ms:List α}{vs:List V}(h:LR R H ms vs)(k:Nat):LR R H (ms.drop k) (vs.drop k):=by
 refine⟨by simp[h.1],fun i v m a b=>?_⟩;rw[E1]at a b;exact h.2 _ v m a b
theorem none_of{H H':Hp}{p:Addr}(e:Same H H')(h:H' p=none):H p=none:=by
 cases z:H p with
 |none=>rfl
 |some x=>have:=e _ _ z;rw[h]at this;cases this
theorem rk{H H3:Hp}{p:Addr}{o:HO}(e:Same H H3)(h:H p=none):Same H (cI H3 p o):=fun a u z=>by
 rw[aD<|cn z h];exact e _ _ z
end Wb
namespace L2
open PySem PySem.Spec PyProof.Rows
section
variable{X:Cx}{K:CG}{w:Di}
theorem rl(hc:X.calm=true)(h:X.K=K):dn X (.builtin "sum") (fun xs H Q=>∃(p:Addr)(ns:List Int),xs=[.ref p]/\SqL K H p (ns.map FT)/\Q (.int ns.sum) H):=by
 subst h;intro pins s σ H xs us Q I r h;obtain⟨p,ns,rfl,hq,q⟩:=h;obtain⟨u,rfl,rx⟩:=dY r;cases rx;obtain⟨its,r',pl,hz⟩:=I.list hq;have hi:=jv r';obtain⟨xs,hx⟩:=hi.allInts.items;have hl':s.heap.IsList p (intItems xs):=hx▸pl.isList;refine sum_intListG (I.ok.hd hc) hl' fun h' tk t' hk=>?_;have e1:ns=xs.toList.map (·.1):=by
  rw[<-nums_intItems,<-hx];exact(show numsOf its.toArray.toList=ns from hi.numsOf).symm
 have e2:preSum (numAt xs) xs.size=ns.sum:=by
  rw[preSum_eq,FY (by simp),e1]
 rw[e2];exact⟨.int ns.sum,H,I.kept hk,⟨_,rfl⟩,q⟩
end
theorem gY:∀(xs:List V)(us:List CI),us.length=xs.length->(∀(j:Nat)(x:V)(u:CI),xs[j]? =some x->us[j]? =some u->RelV x u)->Vals xs us
 | [],[],_,_=>.nil
 |x::xs,u::us,hl,h=>.cons (h 0 x u rfl rfl) (gY xs us (by simpa using hl) fun j x u a b=>h (j+1) x u (by simpa using a) (by simpa using b))
 | [],_::_,hl,_=>by simp at hl
 |_::_,[],hl,_=>by simp at hl
theorem fh{α β:Type}{F:α->β->Prop}:∀{l₁:List α}{l₂:List β},Paired F l₁ l₂->∀{j:Nat}{b:β},l₂[j]? =some b->∃a,l₁[j]? =some a/\F a b
 |_,_,.nil,j,b,h=>by simp at h
 |_,_,.cons r rs,0,b,h=>by simp at h;subst h;exact⟨_,rfl,r⟩
 |_,_,.cons r rs,j+1,b,h=>by simp at h;obtain⟨a,h1,h2⟩:=fh rs h;exact⟨a,by simpa using h1,h2⟩
section
variable{X:Cx}{K:CG}{w:Di}
theorem lP(h:X.K=K):dn X (.builtin "sorted") (fun xs H Q=>∃(p:Addr)(ns:List Int),xs=[.ref p]/\SqL K H p (ns.map FT)/\ns.length<64/\∀(q:Addr)(ns':List Int),H q=none->ns'.Perm ns->ns'.Pairwise (· <= ·)->Q (.ref q) (cI H q<|.lst<|ns'.map FT)):=by
 subst h;intro pins s σ H xs us Q I r h;obtain⟨p,ns,rfl,hq,h64,q⟩:=h;obtain⟨u,rfl,rx⟩:=dY r;cases rx;obtain⟨its,r',pl,hz⟩:=I.list hq;have hi:=jv r';have hlen:=IntsAre.length hi;refine sorted_ints pl.isList hi (by omega) fun out ns' a1 a2 a3=>?_;obtain⟨e,he⟩:=sortedAll_at s.heap its out;have hl':=a2.length_eq;refine⟨.ref<|s.heap.objs.size+1,_,I.laid (t':=s.toks) (fun _ _=>sortedAll_old) (Ic _) (show ObjOk X.prog X.w _ _ _ (.lst<|ns'.map FT)from⟨by rw[D5,Dz];omega,out.toList,e,iD a1,by rw[Jv];exact he⟩),rfl,q _ ns' (I.hok.fresh<|Ic _) a2 a3⟩
theorem gO(h:X.K=K):OpR X (compareOp .NotIn) (fR K true):=h▸lI
end
end L2
namespace L2
theorem fb{k:Nat}{A:DL}(r:Room k A):A.units+1<PySem.cLine:=by have:=r.un;omega
end L2
namespace L2
open PySem PySem.Spec PyProof.Rows
def tD(K:CG)(te:TE)(tk:TO):TE:=fun σ H Q=>te σ H fun x H1=>tk σ H1 fun k H2=>∃a xs,x=.ref a/\k=some (-1)/\SqL K H2 a xs/\∀p,H2 p=none->Q (.ref p) (cI H2 p<|.lst xs.reverse)
theorem tE{xs:List V}{us:List CI}(r:Vals xs us):Vals xs.reverse us.reverse:=by
 induction r with
 |nil=>exact .nil
 |cons h t ih=>rw[Kb,Kb];exact Paired.snoc ih h
theorem mY{X:Cx}{K:CG}(hK:X.K=K){e st:Expr}{te:TE}{tk:TO}{pos p2:Pos}(ops:Addr->Addr->List CI)(hs:∀a b:Addr,subscripted (.Slice none none (some st) p2) false (.ref a) (.ref b)=operate (ops a b) (getItem (.ref a)<|.ref b))(he:PE X e te)(hk:PO X (some st) tk):PE X (.Subscript e (.Slice none none (some st) p2) pos) (tD K te tk):=by
 subst hK;intro pins s σ H Q I h;refine JS<|bO (he pins s σ H _ I h) fun v s1 zz=>?_;obtain⟨x,H1,I1,r1,q1⟩:=zz;refine wpAny_Slice ?_;rw[JE];refine CH ?_;refine CH ?_;refine bO (hk pins s1 σ H1 _ I1 q1) fun vk s3 zz=>?_;obtain⟨k,H3,I3,pk,q3⟩:=zz;obtain⟨a,xs,rfl,rfl,hx,q⟩:=q3;cases r1;have I4:Inv X pins σ H3 {s3 with heap:=s3.heap.push {cls:=.type "slice",data:=.fields #[.none,.none,vk]}}:=I3.kept (t':=s3.toks) fun b ob q=>CL _ q;obtain⟨its,r,ht,hz⟩:=I4.list hx;have hlen:=r.length;show wpAny (model X.prog X.w) X.A (subscriptTail e (.Slice none none (some st) p2) (.ref a)<|.ref s3.heap.objs.size) (EP X pins σ Q) X.xe {s3 with heap:=s3.heap.push {cls:=.type "slice",data:=.fields #[.none,.none,vk]}};refine Mh (ops:=ops a s3.heap.objs.size) ht.isList.typeIs Ib.lookup ?_<|hs _ _;refine Iq ht.isList (JT ..) .none .none pk (by decide) ?_ (by rw[D7];omega);rw[PySem.W.krv_pick];refine⟨.ref _,_,I4.laid (t':=s3.toks) (o:=.lst xs.reverse) (fun b ob q=>CL _ q) (CN _) ?_,rfl,q _<|I4.hok.fresh<|CN _⟩;exact⟨by rw[HC];exact hz,_,0,tE r,CU _ rfl⟩
end L2
namespace Wb
open PySem L2
end Wb
namespace L2
open PySem PySem.Spec PyProof.Rows Wb
end L2
namespace L2
open PySem PySem.Spec PyProof.Rows
end L2
namespace Mi
inductive Res(α:Type) where
 |ok (a:α)|err (j:Nat)|stuck
namespace Res
variable{α β:Type}
def Ok(m:Res α)(P:α->Prop):Prop:=match m with| .ok a=>P a|_=>False
def bind(m:Res α)(f:α->Res β):Res β:=match m with| .ok a=>f a| .err j=>.err j| .stuck=>.stuck
theorem bind_ok{m:Res α}{f:α->Res β}{P:β->Prop}(h:m.Ok fun a=>(f a).Ok P):(m.bind f).Ok P:=by cases m<;>exact h
theorem Ok.imp{m:Res α}{P Q:α->Prop}(h:m.Ok P)(k:∀a,P a->Q a):m.Ok Q:=by cases m<;>first|exact k _ h|exact h
theorem Ok.ex{m:Res α}{P:α->Prop}(h:m.Ok P):∃a,m=.ok a/\P a:=by
 cases m with
 |ok a=>exact⟨a,rfl,h⟩
 |err j=>exact h.elim
 |stuck=>exact h.elim
def OkE(m:Res α)(Er:Nat->Prop)(P:α->Prop):Prop:=match m with| .ok a=>P a| .err j=>Er j| .stuck=>False
theorem okE_bind{m:Res α}{f:α->Res β}{Er:Nat->Prop}{P:β->Prop}(h:(m.bind f).OkE Er P):m.OkE Er fun a=>(f a).OkE Er P:=by cases m<;>exact h
theorem OkE.imp{m:Res α}{Er:Nat->Prop}{P Q:α->Prop}(h:m.OkE Er P)(k:∀a,P a->Q a):m.OkE Er Q:=by cases m<;>first|exact k _ h|exact h
theorem Ok.e{m:Res α}{Er:Nat->Prop}{P:α->Prop}(h:m.Ok P):m.OkE Er P:=by
 cases m with
 |ok a=>exact h
 |err j=>exact h.elim
 |stuck=>exact h.elim
@[simp] theorem bind_ok'(a:α)(f:α->Res β):(Res.ok a).bind f=f a:=rfl
end Res
abbrev cap:Nat:=100000
def fc(b:Prop)[Decidable b]{α:Type}(a:α):Res α:=if b then .ok a else .stuck
theorem bw{b:Prop}[Decidable b]{α:Type}{a:α}(h:b):fc b a=.ok a:=if_pos h
theorem aW{b:Prop}[Decidable b]{α:Type}{a:α}{Er:Nat->Prop}{P:α->Prop}(h:(fc b a).OkE Er P):b/\P a:=by
 unfold fc at h;by_cases hb:b;·rw[if_pos hb]at h;exact⟨hb,h⟩
 ·rw[if_neg hb]at h;exact h.elim
def jG{α:Type}:Option α->Res α
 |some a=>.ok a
 |none=>.stuck
theorem dq{α:Type}{o:Option α}{Er:Nat->Prop}{P:α->Prop}(h:(jG o).OkE Er P):∃a,o=some a/\P a:=by
 cases o with
 |none=>exact h.elim
 |some a=>exact⟨a,rfl,h⟩
abbrev Tx:=List Nat
def eu(i:Int):Int:=if i<0 then -i else i
def jH(i j:Int):Res Int:=fc ((-(2^64)<i/\i<2^64)\/(-(2^64)<j/\j<2^64))<|i*j
def jI(i j:Int):Res Int:=fc (0<j/\j<1073741824)<|i/j
def kL(i j:Int):Res Int:=fc (0<j)<|i%j
def ixN(n:Nat)(i:Int):Option Nat:=if 0<=i then(if i<n then some i.toNat else none)else if -(n:Int)<=i then some (i+n).toNat else none
def q0{α:Type}(xs:List α)(i:Int):Option α:=(ixN xs.length i).bind fun j=>xs[j]?
theorem q9{α:Type}{xs:List α}{j:Nat}{v:α}(h:xs[j]? =some v):q0 xs (j:Int)=some v:=by
 have hl:j<xs.length:=(CO.mp h).1;unfold q0 ixN;rw[if_pos (by omega),if_pos (by omega),Ea];exact h
theorem tF{α:Type}{xs:List α}{i:Int}(h0:0<=i)(h1:i<xs.length):∃h:i.toNat<xs.length,q0 xs i=some xs[i.toNat]:=by
 have h2:i.toNat<xs.length:=by omega
 refine⟨h2,?_⟩;have:=q9 (xs:=xs) (j:=i.toNat) (v:=xs[i.toNat]) (by simp[h2]);rw[Int.toNat_of_nonneg h0]at this;exact this
def fj{α:Type}(xs:List α)(i:Int):Res α:=jG<|q0 xs i
def fe(x:Tx)(i:Int):Res Tx:=(fc (x.length<=cap) x).bind fun x=>(jG<|q0 x i).bind fun c=>.ok [c]
def j6(a b:Tx):Res Tx:=fc (a.length+b.length<=cap)<|a++b
def dB{α:Type}(a:List α)(x:α):Res (List α):=fc (a.length<cap)<|a++[x]
def yW(a:Tx)(n:Int):Res Tx:=match a with
 | [c]=>fc (0<=n/\n<=cap)<|F9 n.toNat c
 |_=>.stuck
def sIx(n d:Nat):Option Int->Nat
 |none=>d
 |some v=>if v<0 then(v+(n:Int)).toNat else min v.toNat n
def cut{α:Type}(l:List α)(lo hi:Option Int):List α:=(l.drop<|sIx l.length 0 lo).take (sIx l.length l.length hi-sIx l.length 0 lo)
def rm(x:Tx)(lo hi:Option Int):Res Tx:=fc (x.length<=cap)<|cut x lo hi
def jJ{α:Type}(xs:List α)(i:Int)(x:α):Res (List α):=(jG<|ixN xs.length i).bind fun j=>.ok<|xs.set j x
def tG(x:Tx)(c:Nat):Option Nat:=x.findIdx? (· ==c)
def j7(x y:Tx):Res Int:=match y with
 | [c]=>(jG<|tG x c).bind fun j=>.ok (j:Int)
 |_=>.stuck
def mZ(xs:List Tx):Res Tx:=fc (xs.flatten.length<=cap) xs.flatten
def look{κ α:Type}[DecidableEq κ](kvs:List (κ×α))(k:κ):Option α:=(kvs.find? fun p=>decide<|p.1=k).map (·.2)
def getD{κ α:Type}[DecidableEq κ](kvs:List (κ×α))(k:κ):Res α:=jG<|look kvs k
def j8{α β:Type}(f:α->Res β):List α->Res (List β)
 | []=>.ok []
 |a::r=>(f a).bind fun b=>(j8 f r).bind fun bs=>.ok (b::bs)
def eg{α β:Type}(xs:List α)(f:α->Res β):Res (List β):=(fc (xs.length<=cap) xs).bind fun xs=>j8 f xs
def gZ{α β:Type}(f:α->Res (Option β)):List α->Res (List β)
 | []=>.ok []
 |a::r=>(f a).bind fun b=>(gZ f r).bind fun bs=>.ok (match b with|some b=>b::bs|none=>bs)
def qa{α β:Type}(xs:List α)(f:α->Res (Option β)):Res (List β):=(fc (xs.length<=cap) xs).bind fun xs=>gZ f xs
def bE{α S:Type}(f:α->S->Res S):List α->S->Res S
 | [],s=>.ok s
 |a::r,s=>(f a s).bind fun s=>bE f r s
inductive Fl(γ S:Type) where
 |nx (s:S)|bk (s:S)|rt (r:γ)
def Af{S γ:Type}(k:S->Res (Fl γ S)):Fl γ S->Res (Fl γ S)
 | .nx s=>k s
 | .bk s=>.ok<|.nx s
 | .rt x=>.ok<|.rt x
def hV{α S γ:Type}(f:α->S->Res (Fl γ S)):List α->S->Res (Fl γ S)
 | [],s=>.ok<|.nx s
 |a::r,s=>(f a s).bind (Af<|hV f r)
def ff(n:Int):List Int:=(DY n.toNat).map fun(i:Nat)=>(i:Int)
def gf(n:Int):Res (List Int):=fc (-(2^62)<=n/\n<2^62)<|ff n
def gP{α:Type}(xs:List α):List (Int×α):=(DY xs.length).zipWith (fun(i:Nat)x=>((i:Int),x)) xs
def cM(x:Tx):List Tx:=x.map fun c=>[c]
def iF(xs:List Int):List Int:=xs.mergeSort fun a b=>decide<|a<=b
theorem iV(xs:List Int):(iF xs).Perm xs:=JC _ _
theorem kY(xs:List Int):(iF xs).Pairwise (· <= ·):=by
 have:=IH (le:=fun a b:Int=>decide<|a<=b) (fun a b c h1 h2=>by simp at *;omega) (fun a b=>by simp;omega) xs;exact this.imp fun h=>by simpa using h
theorem rn{xs ys:List Int}(h:ys.Perm xs)(hs:ys.Pairwise (· <= ·)):ys=iF xs:=
 Iu (le:=(· <= ·)) (fun a b _ _ h1 h2=>by omega) hs (kY xs) (h.trans (iV xs).symm)
def tH(xs:List Int):Res (List Int):=fc (xs.length<64)<|iF xs
def zL{α:Type}[DecidableEq α](a b:α):Res Bool:=if a=b then .ok true else .stuck
def yX{α:Type}:List α->Res (α×α×α)
 | [a,b,c]=>.ok (a,b,c)
 |_=>.stuck
theorem qb{α β:Type}{f:α->Res β}{g:α->β}:∀{xs:List α},(∀x∈xs,f x=.ok (g x))->j8 f xs=.ok (xs.map g)
 | [],_=>rfl
 |a::r,h=>by
  unfold j8;rw[h a<|Dc ..,Res.bind_ok',qb fun x hx=>h x<|Df _ hx];rfl
theorem fk{α β:Type}{f:α->Res β}{g:α->β}{xs:List α}(hl:xs.length<=cap)(h:∀x∈xs,f x=.ok (g x)):eg xs f=.ok (xs.map g):=by
 unfold eg;rw[bw hl,Res.bind_ok',qb h]
end Mi
open Mi.Res renaming okE_bind->CC,bind_ok'->CF,ok->CJ,stuck->LY
open Mi.Res.Ok renaming imp->EU
open Mi.Res.OkE renaming imp->Dx
namespace Wb
open PySem L2 Mi
variable{Er:Nat->Prop}
structure Wd where
 G:Hp
 H:Hp
 ok:Same G H
structure Ext(W W':Wd):Prop where
 g:Same W.G W'.G
 h:Same W.H W'.H
 k:∀p,W.H p≠none->W'.G p=W.G p
theorem Ext.refl(W:Wd):Ext W W:=⟨.refl _,.refl _,fun _ _=>rfl⟩
theorem Ext.trans{W W1 W2:Wd}(a:Ext W W1)(b:Ext W1 W2):Ext W W2:=⟨a.g.trans b.g,a.h.trans b.h,fun p hp=>by
 obtain⟨o,ho⟩:=Gf.mp hp;rw[b.k p (by rw[a.h p o ho];exact fun z=>nomatch z),a.k p hp]⟩
theorem Same.upd2{G H:Hp}(h:Same G H)(p:Addr)(o:HO):Same (cI G p o) (cI H p o):=fun a u e=>by
 by_cases z:a=p;·subst z;rw[ax]at e ⊢;exact e
 ·rw[aD z]at e ⊢;exact h _ _ e
def Wd.new(W:Wd)(p:Addr)(o:HO):Wd:=⟨cI W.G p o,cI W.H p o,Same.upd2 W.ok p o⟩
theorem Wd.gnone(W:Wd){p:Addr}(h:W.H p=none):W.G p=none:=none_of W.ok h
theorem Ext.new{W:Wd}{p:Addr}(o:HO)(h:W.H p=none):Ext W (W.new p o):=⟨cK<|W.gnone h,cK h,fun q hq=>aD fun z=>hq<|z▸h⟩
def Wd.mut(W:Wd)(p:Addr)(o:HO)(h:W.G p=none):Wd:=⟨W.G,cI W.H p o,rk W.ok h⟩
theorem Ext.own{W:Wd}{p:Addr}(o:HO)(h:W.H p=none):Ext W (W.mut p o<|W.gnone h):=⟨.refl _,cK h,fun _ _=>rfl⟩
def Wd.frz(W:Wd)(p:Addr)(o:HO)(h:W.H p=some o):Wd:=⟨cI W.G p o,W.H,fun a u e=>by
 by_cases z:a=p;·subst z;rw[ax]at e;cases e;exact h
 ·rw[aD z]at e;exact W.ok _ _ e⟩
theorem Ext.mut{W0 W:Wd}{p:Addr}{o:HO}(e:Ext W0 W)(hp:W0.H p=none)(h:W.G p=none):Ext W0 (W.mut p o h):=
 ⟨e.g,fun a u z=>by show cI W.H p o a=_;rw[aD<|cn z hp];exact e.h _ _ z,e.k⟩
theorem Ext.frz{W0 W:Wd}{p:Addr}{o:HO}(e:Ext W0 W)(hp:W0.H p=none)(h:W.H p=some o)(hg:W.G p=none):Ext W0 (W.frz p o h):=
 ⟨e.g.trans<|cK hg,e.h,fun q hq=>by show cI W.G p o q=_;rw[aD (fun z=>hq (by rw[z];exact hp))];exact e.k q hq⟩
abbrev Rw(α:Type):=Wd->α->V->Prop
class MonoW{α:Type}(R:Rw α):Prop where
 mono:∀{W W':Wd}{a:α}{v:V},Ext W W'->R W a v->R W' a v
def sh{α:Type}(R:Rp α):Rw α:=fun W a v=>R W.G a v
instance zkeep8{α:Type}{R:Rp α}[Mono R]:MonoW (sh R):=⟨fun e h=>CB (R:=R) e.g h⟩
def pk{α:Type}(R:Rp α):Rw (List α):=fun W xs v=>∃p vs,v=.ref p/\W.H p=some (.lst vs)/\LR R W.G xs vs
instance zkeep9{α:Type}{R:Rp α}[Mono R]:MonoW (pk R):=⟨fun e⟨p,vs,a,b,c⟩=>⟨p,vs,a,e.h _ _ b,c.same e.g⟩⟩
theorem pk.of{α:Type}{R:Rp α}{W:Wd}{xs:List α}{v:V}(h:isL R W.G xs v):pk R W xs v:=by
 obtain⟨p,vs,a,b,c⟩:=h;exact⟨p,vs,a,W.ok _ _ b,c⟩
structure Ow{α:Type}(R:Rp α)(W:Wd)(p:Addr)(xs:List α):Prop where
 g:W.G p=none
 h:∃vs,W.H p=some (.lst vs)/\LR R W.G xs vs
theorem Ow.mono{α:Type}{R:Rp α}[Mono R]{W W':Wd}{p:Addr}{xs:List α}(o:Ow R W p xs)(e:Ext W W'):Ow R W' p xs:=by
 obtain⟨vs,a,b⟩:=o.h;exact⟨by rw[e.k p (by rw[a];exact fun z=>nomatch z)];exact o.g,vs,e.h _ _ a,b.same e.g⟩
theorem Ow.pk{α:Type}{R:Rp α}{W:Wd}{p:Addr}{xs:List α}(o:Ow R W p xs):pk R W xs (.ref p):=by
 obtain⟨vs,a,b⟩:=o.h;exact⟨p,vs,rfl,a,b⟩
theorem Ow.frz{α:Type}{R:Rp α}[Mono R]{W0 W:Wd}{p:Addr}{xs:List α}(o:Ow R W p xs)(e:Ext W0 W)(hp:W0.H p=none):
  ∃W',W'.H=W.H/\Ext W0 W'/\Same W.G W'.G/\isL R W'.G xs (.ref p)/\∀q,q≠p->W'.G q=W.G q:=by
 obtain⟨vs,a,b⟩:=o.h;exact⟨W.frz p _ a,rfl,e.frz hp a o.g,cK o.g,⟨p,vs,rfl,ax,b.same<|cK o.g⟩,fun q hq=>aD hq⟩
theorem Ow.keep{α:Type}{R:Rp α}[Mono R]{W W':Wd}{q:Addr}{xs:List α}(o:Ow R W q xs)(hH:W'.H q=W.H q)(hs:Same W.G W'.G)(hg:W'.G q=W.G q):Ow R W' q xs:=by
 obtain⟨vs,a,b⟩:=o.h;exact⟨by rw[hg];exact o.g,vs,by rw[hH];exact a,b.same hs⟩
def EV(Er:Nat->Prop){α:Type}(t:TE)(σ:St)(W:Wd)(R:Rw α)(m:Res α):Prop:=∀W1,Ext W W1->∀Q:VK,m.OkE Er (fun a=>∀v W2,Ext W1 W2->R W2 a v->Q v W2.H)->t σ W1.H Q
def EVo(Er:Nat->Prop){α:Type}(t:TE)(σ:St)(W:Wd)(R:Rp α)(m:Res (List α)):Prop:=∀W1,Ext W W1->∀Q:VK,m.OkE Er (fun xs=>∀p W2,Ext W1 W2->W1.H p=none->Ow R W2 p xs->Q (.ref p) W2.H)->t σ W1.H Q
def TV(Er:Nat->Prop)(t:TT)(σ:St)(W:Wd)(m:Res Bool):Prop:=∀W1,Ext W W1->∀Q:Bool->Hp->Prop,m.OkE Er (fun b=>∀W2,Ext W1 W2->Q b W2.H)->t σ W1.H Q
section
variable{α β γ:Type}{t ta tb:TE}{σ:St}{W W0 W':Wd}{K:CG}
theorem EV.imp{R R':Rw α}{m:Res α}(h:EV Er t σ W R m)(f:∀W a v,R W a v->R' W a v):EV Er t σ W R' m:=fun W1 e1 Q k=>h W1 e1 Q<|k.imp fun a ka v W2 e2 r=>ka v W2 e2<|f _ _ _ r
theorem EVo.ev{R:Rp α}[Mono R]{m:Res (List α)}(h:EVo Er t σ W R m):EV Er t σ W (sh<|isL R) m:=fun W1 e1 Q k=>h W1 e1 Q (k.imp fun xs kx p W2 e2 hp o=>by
 obtain⟨W3,hH,e3,_,r,_⟩:=o.frz e2 hp;rw[<-hH];exact kx (.ref p) W3 e3 r)
theorem EVo.pk{R:Rp α}[Mono R]{m:Res (List α)}(h:EVo Er t σ W R m):EV Er t σ W (pk R) m:=fun W1 e1 Q k=>h W1 e1 Q<|k.imp fun xs kx p W2 e2 hp o=>kx (.ref p) W2 e2 o.pk
theorem EV.pk{R:Rp α}{m:Res (List α)}(h:EV Er t σ W (sh<|isL R) m):EV Er t σ W (pk R) m:=h.imp fun _ _ _ r=>pk.of r
theorem gU{R:Rw α}[MonoW R]{i:Nat}{v:V}{a:α}(r:R W a v)(h:σ[i]? =some (some v):=by rfl):EV Er (bz i) σ W R (.ok a):=fun W1 e1 Q k=>⟨v,h,k v W1 (.refl _)<|MonoW.mono e1 r⟩
theorem eA{R:Rp α}[Mono R]{i:Nat}{p:Addr}{a:List α}(r:Ow R W p a)(h:σ[i]? =some (some<|.ref p):=by rfl):EV Er (bz i) σ W (pk R) (.ok a):=gU r.pk h
def isB:Rp Bool:=fun _ b v=>v=.bl b
instance zkeep10:Mono isB:=⟨fun _ h=>h⟩
def isO(R:Rp α):Rp (Option α):=fun H o v=>match o with|none=>v=.non|some a=>R H a v/\v≠.non
instance zkeep12{R:Rp α}[Mono R]:Mono (isO R):=⟨fun{H H' m v}e h=>by
 cases m with
 |none=>exact h
 |some a=>exact⟨CB e h.1,h.2⟩⟩
theorem ag{i:Int}:EV Er (tC<|.int i) σ W (sh isI) (.ok i):=fun W1 _ Q k=>k _ W1 (.refl _) rfl
theorem aX{x:Str}{l:Tx}(h:x=aP l):EV Er (tC<|.str x) σ W (sh isS) (.ok l):=fun W1 _ Q k=>k _ W1 (.refl _) (by rw[h];rfl)
theorem tI{b:Bool}:EV Er (tC<|.bl b) σ W (sh isB) (.ok b):=fun W1 _ Q k=>k _ W1 (.refl _) rfl
theorem hW{R:Rp α}:EV Er (tC .non) σ W (sh<|isO R) (.ok none):=fun W1 _ Q k=>k _ W1 (.refl _) rfl
theorem oK{r:R2}{Ra:Rw α}[MonoW Ra]{Rb:Rw β}{R:Rw γ}{ma:Res α}{mb:Res β}{f:α->β->Res γ}(ha:EV Er ta σ W Ra ma)(hb:EV Er tb σ W Rb mb)
  (h:∀W a b x y Q,Ra W a x->Rb W b y->(f a b).OkE Er (fun c=>∀v W2,Ext W W2->R W2 c v->Q v W2.H)->r x y W.H Q):EV Er (cW r ta tb) σ W R (ma.bind fun a=>mb.bind fun b=>f a b):=fun W1 e1 Q k=>by
 refine ha W1 e1 _<|(CC k).imp fun a ka x W2 e2 hx=>?_;refine hb W2 (e1.trans e2) _<|(CC ka).imp fun b kb y W3 e3 hy=>?_;exact h W3 a b x y Q (MonoW.mono e3 hx) hy<|kb.imp fun c kc v W4 e4 hv=>kc v W4 ((e2.trans e3).trans e4) hv
theorem BW{r:V->Hp->VK->Prop}{Ra:Rw α}{R:Rw γ}{ma:Res α}{f:α->Res γ}(ha:EV Er ta σ W Ra ma)
  (h:∀W a x Q,Ra W a x->(f a).OkE Er (fun c=>∀v W2,Ext W W2->R W2 c v->Q v W2.H)->r x W.H Q):EV Er (fB r ta) σ W R (ma.bind f):=fun W1 e1 Q k=>by
 refine ha W1 e1 _<|(CC k).imp fun a ka x W2 e2 hx=>?_;exact h W2 a x Q hx<|ka.imp fun c kc v W4 e4 hv=>kc v W4 (e2.trans e4) hv
section
variable{ma mb:Res Int}
theorem aQ{g:Int->Int->Int}(ha:EV Er ta σ W (sh isI) ma)(hb:EV Er tb σ W (sh isI) mb):EV Er (cW (eS fun i j=>.int<|g i j) ta tb) σ W (sh isI) (ma.bind fun a=>mb.bind fun b=>.ok<|g a b):=
 oK ha hb fun W a b x y Q hx hy k=>by cases hx;cases hy;exact⟨a,b,rfl,rfl,k _ W (.refl _) rfl⟩
theorem tJ{C:Int->Int->Prop}{g:Int->Int->Int}{f:Int->Int->Res Int}(hf:∀a b P,(f a b).OkE Er P->C a b/\P (g a b))(ha:EV Er ta σ W (sh isI) ma)(hb:EV Er tb σ W (sh isI) mb):
  EV Er (cW (rI C fun i j=>.int<|g i j) ta tb) σ W (sh isI) (ma.bind fun a=>mb.bind fun b=>f a b):=
 oK ha hb fun W a b x y Q hx hy k=>by cases hx;cases hy;exact⟨a,b,rfl,rfl,(hf a b _ k).1,(hf a b _ k).2 _ W (.refl _) rfl⟩
theorem jK(ha:EV Er ta σ W (sh isI) ma)(hb:EV Er tb σ W (sh isI) mb):EV Er (cW (rI CMul fun i j=>.int<|i*j) ta tb) σ W (sh isI) (ma.bind fun a=>mb.bind fun b=>jH a b):=tJ (fun a b P h=>by unfold jH at h;obtain⟨h1,h2⟩:=aW h;exact⟨h1,h2⟩) ha hb
theorem qc(ha:EV Er ta σ W (sh isI) ma)(hb:EV Er tb σ W (sh isI) mb):EV Er (cW (rI A4 fun i j=>.int<|i/j) ta tb) σ W (sh isI) (ma.bind fun a=>mb.bind fun b=>jI a b):=tJ (fun a b P h=>by unfold jI at h;obtain⟨h1,h2⟩:=aW h;exact⟨h1,h2⟩) ha hb
theorem jL(ha:EV Er ta σ W (sh isI) ma)(hb:EV Er tb σ W (sh isI) mb):EV Er (cW (rI (fun _ j=>0<j) fun i j=>.int<|i%j) ta tb) σ W (sh isI) (ma.bind fun a=>mb.bind fun b=>kL a b):=tJ (fun a b P h=>by unfold kL at h;obtain⟨h1,h2⟩:=aW h;exact⟨h1,h2⟩) ha hb
theorem ao{C:Int->Int->Prop}{g:Int->Int->Int}{n:Int}(hn:∀a,C a n)(ha:EV Er ta σ W (sh isI) ma):EV Er (cW (rI C fun i j=>.int<|g i j) ta<|tC<|.int n) σ W (sh isI) (ma.bind fun a=>.ok<|g a n):=
 fun W1 e1 Q k=>ha W1 e1 _ ((CC k).imp fun a ka x W2 e2 hx=>by cases hx;exact⟨a,n,rfl,rfl,hn a,ka _ W2 e2 rfl⟩)
end
end
end Wb
open Wb.EV renaming pk->FU
open Wb.EVo renaming ev->Fc,pk->K0
open Wb.Ext renaming new->Hi
open Wb.MonoW renaming mono->Dt
namespace Wb
open PySem L2 Mi
variable{Er:Nat->Prop}
section
variable{α β γ δ:Type}{t ta tb tc:TE}{σ:St}{W W0 W':Wd}{K:CG}
theorem tK{n:Nat}(h:n<=cap):n<=sizeLine:=by rw[Dz];unfold cap at h;omega
section
variable{ma mb:Res Int}
theorem gh(ha:EV Er ta σ W (sh isI) ma):EV Er (fB (rU fun i=>.int<|-i) ta) σ W (sh isI) (ma.bind fun a=>.ok<|-a):=
 BW ha fun W a x Q hx k=>by cases hx;exact⟨a,rfl,k _ W (.refl _) rfl⟩
theorem cv{g:Int->Int->Bool}(ha:EV Er ta σ W (sh isI) ma)(hb:EV Er tb σ W (sh isI) mb):EV Er (cW (eS fun i j=>.bl<|g i j) ta tb) σ W (sh isB) (ma.bind fun a=>mb.bind fun b=>.ok<|g a b):=
 oK ha hb fun W a b x y Q hx hy k=>by cases hx;cases hy;exact⟨a,b,rfl,rfl,k _ W (.refl _) rfl⟩
end
theorem dI{a b:Int}:decide (FT a=FT b)=decide (a=b):=by rw[FA];simp
theorem dS{a b:Tx}:decide (Hv (aP a)=Hv (aP b))=decide (a=b):=by
 rw[FA,decide_eq_true_eq,decide_eq_true_eq];exact⟨fun h=>pY<|Hv.inj h,fun h=>by rw[h]⟩
theorem d9{ma mb:Res Int}(ha:EV Er ta σ W (sh isI) ma)(hb:EV Er tb σ W (sh isI) mb):EV Er (cW fP ta tb) σ W (sh isB) (ma.bind fun a=>mb.bind fun b=>.ok<|decide<|a=b):=
 oK ha hb fun W a b x y Q hx hy k=>by cases hx;cases hy;exact⟨rfl,by rw[dI];exact k _ W (.refl _) rfl⟩
theorem gi{ma mb:Res Tx}(ha:EV Er ta σ W (sh isS) ma)(hb:EV Er tb σ W (sh isS) mb):EV Er (cW fP ta tb) σ W (sh isB) (ma.bind fun a=>mb.bind fun b=>.ok<|decide<|a=b):=
 oK ha hb fun W a b x y Q hx hy k=>by cases hx;cases hy;exact⟨rfl,by rw[dS];exact k _ W (.refl _) rfl⟩
theorem yY{ma mb:Res Int}(ha:EV Er ta σ W (sh isI) ma)(hb:EV Er tb σ W (sh isI) mb):EV Er (cW fQ ta tb) σ W (sh isB) (ma.bind fun a=>mb.bind fun b=>.ok<|!decide (a=b)):=
 oK ha hb fun W a b x y Q hx hy k=>by cases hx;cases hy;exact⟨rfl,by rw[dI];exact k _ W (.refl _) rfl⟩
theorem tL{ma mb:Res Tx}(ha:EV Er ta σ W (sh isS) ma)(hb:EV Er tb σ W (sh isS) mb):EV Er (cW fQ ta tb) σ W (sh isB) (ma.bind fun a=>mb.bind fun b=>.ok<|!decide (a=b)):=
 oK ha hb fun W a b x y Q hx hy k=>by cases hx;cases hy;exact⟨rfl,by rw[dS];exact k _ W (.refl _) rfl⟩
theorem yZ{R:Rp α}{ma:Res (Option α)}(ha:EV Er ta σ W (sh<|isO R) ma):EV Er (cW (fun x y H Q=>y=.non/\Q (.bl<|decide<|x=.non) H) ta<|tC .non) σ W (sh isB) (ma.bind fun a=>.ok a.isNone):=fun W1 e1 Q k=>
 ha W1 e1 _ ((CC k).imp fun a ka x W2 e2 hx=>⟨rfl,by
  have e:decide (x=V.non)=a.isNone:=by
   cases a with
   |none=>cases hx;rfl
   |some b=>rw[decide_eq_false hx.2];rfl
  rw[e];exact ka _ W2 e2 rfl⟩)
theorem wA{R:Rp α}{ma:Res (Option α)}(ha:EV Er ta σ W (sh<|isO R) ma):EV Er (cW (fun x y H Q=>y=.non/\Q (.bl<|!decide (x=.non)) H) ta<|tC .non) σ W (sh isB) (ma.bind fun a=>.ok a.isSome):=fun W1 e1 Q k=>
 ha W1 e1 _ ((CC k).imp fun a ka x W2 e2 hx=>⟨rfl,by
  have e:(!decide (x=V.non))=a.isSome:=by
   cases a with
   |none=>cases hx;rfl
   |some b=>rw[decide_eq_false hx.2];rfl
  rw[e];exact ka _ W2 e2 rfl⟩)
theorem aB{m:Res Bool}(h:EV Er t σ W (sh isB) m):TV Er (bB t) σ W m:=fun W1 e1 Q k=>h W1 e1 _<|k.imp fun b kb v W2 e2 hv=>⟨b,hv,kb W2 e2⟩
theorem oM{m:Res Bool}(h:EV Er t σ W (sh isB) m):TV Er (tB t) σ W m:=fun W1 e1 Q k=>h W1 e1 _<|k.imp fun b kb v W2 e2 hv=>⟨b,hv,kb W2 e2⟩
theorem tM{t:TT}{m:Res Bool}(h:TV Er t σ W m):TV Er (cC t) σ W (m.bind fun b=>.ok<|!b):=fun W1 e1 Q k=>h W1 e1 _<|(CC k).imp fun b kb W2 e2=>kb W2 e2
theorem iG{t u:TT}{m n:Res Bool}(h:TV Er t σ W m)(g:TV Er u σ W n):TV Er (cB t u) σ W (m.bind fun b=>if b then n else .ok false):=fun W1 e1 Q k=>h W1 e1 _ ((CC k).imp fun b kb W2 e2=>by
 cases b with
 |true=>exact g W2 (e1.trans e2) _ (kb.imp fun c kc W3 e3=>kc W3<|e2.trans e3)
 |false=>exact kb W2 e2)
theorem tN{t u:TT}{m n:Res Bool}(h:TV Er t σ W m)(g:TV Er u σ W n):TV Er (fS t u) σ W (m.bind fun b=>if b then .ok true else n):=fun W1 e1 Q k=>h W1 e1 _ ((CC k).imp fun b kb W2 e2=>by
 cases b with
 |true=>exact kb W2 e2
 |false=>exact g W2 (e1.trans e2) _ (kb.imp fun c kc W3 e3=>kc W3 (e2.trans e3)))
theorem tO{m n:Res Bool}(h:EV Er ta σ W (sh isB) m)(g:EV Er tb σ W (sh isB) n):EV Er (bA ta tb) σ W (sh isB) (m.bind fun b=>if b then n else .ok false):=fun W1 e1 Q k=>h W1 e1 _ ((CC k).imp fun b kb v W2 e2 hv=>⟨b,hv,by
 cases b with
 |true=>exact g W2 (e1.trans e2) _ (kb.imp fun c kc v W3 e3 hv=>kc v W3 (e2.trans e3) hv)
 |false=>exact kb _ W2 e2 rfl⟩)
theorem Ag{m n:Res Bool}(h:EV Er ta σ W (sh isB) m)(g:EV Er tb σ W (sh isB) n):EV Er (cD ta tb) σ W (sh isB) (m.bind fun b=>if b then .ok true else n):=fun W1 e1 Q k=>h W1 e1 _ ((CC k).imp fun b kb v W2 e2 hv=>⟨b,hv,by
 cases b with
 |true=>exact kb _ W2 e2 rfl
 |false=>exact g W2 (e1.trans e2) _ (kb.imp fun c kc v W3 e3 hv=>kc v W3 (e2.trans e3) hv)⟩)
theorem n6{R:Rw α}{c:TT}{mc:Res Bool}{m n:Res α}(hc:TV Er c σ W mc)(h:EV Er ta σ W R m)(g:EV Er tb σ W R n):EV Er (fN c ta tb) σ W R (mc.bind fun b=>if b then m else n):=fun W1 e1 Q k=>hc W1 e1 _ ((CC k).imp fun b kb W2 e2=>by
 cases b with
 |true=>exact h W2 (e1.trans e2) _ (kb.imp fun c kc v W3 e3 hv=>kc v W3 (e2.trans e3) hv)
 |false=>exact g W2 (e1.trans e2) _ (kb.imp fun c kc v W3 e3 hv=>kc v W3 (e2.trans e3) hv))
theorem gD{ma mb:Res Tx}(ha:EV Er ta σ W (sh isS) ma)(hb:EV Er tb σ W (sh isS) mb):EV Er (cW (fun x y H Q=>∃i j,x=.str i/\y=.str j/\i.length+j.length<=sizeLine/\Q (.str<|i++j) H) ta tb) σ W (sh isS) (ma.bind fun a=>mb.bind fun b=>j6 a b):=
 oK ha hb fun W a b x y Q hx hy k=>by
  cases hx;cases hy;obtain⟨h1,h2⟩:=aW k;exact⟨_,_,rfl,rfl,by rw[dJ,dJ];exact tK h1,by rw[jz];exact h2 _ W (.refl _) rfl⟩
theorem wB{ma:Res Tx}{mb:Res Int}(ha:EV Er ta σ W (sh isS) ma)(hb:EV Er tb σ W (sh isI) mb):EV Er (cW (fun x y H Q=>∃c n,x=.str (aP [c])/\y=.int n/\0<=n/\n<=100000/\Q (.str<|aP<|F9 n.toNat c) H) ta tb) σ W (sh isS) (ma.bind fun a=>mb.bind fun b=>yW a b):=
 oK ha hb fun W a b x y Q hx hy k=>by
  cases hx;cases hy
  match a,k with
  | [c],k=>
   obtain⟨h1,h2⟩:=aW k;exact⟨c,b,rfl,rfl,h1.1,h1.2,h2 _ W (.refl _) rfl⟩
theorem bQ{ma:Res Tx}{mb:Res Int}(ha:EV Er ta σ W (sh isS) ma)(hb:EV Er tb σ W (sh isI) mb):EV Er (cW cF ta tb) σ W (sh isS) (ma.bind fun a=>mb.bind fun b=>fe a b):=
 oK ha hb fun W a b x y Q hx hy k=>by
  cases hx;cases hy;obtain⟨h1,h2⟩:=aW<|CC k;obtain⟨c,h3,h4⟩:=dq<|CC h2;exact⟨_,b,c,rfl,rfl,by rw[dJ];exact tK h1,by rw[pX];exact h3,h4 _ W (.refl _) rfl⟩
theorem Ah{R:Rw α}{r:V->Option Int->Option Int->Hp->VK->Prop}{Ra:Rw β}[MonoW Ra]{ma:Res β}{tl th:TO}{ml mh:Res (Option Int)}{f:β->Option Int->Option Int->Res α}(ha:EV Er ta σ W Ra ma)
  (hl:∀W1,Ext W W1->∀Q:Option Int->Hp->Prop,ml.OkE Er (fun o=>∀W2,Ext W1 W2->Q o W2.H)->tl σ W1.H Q) (hh:∀W1,Ext W W1->∀Q:Option Int->Hp->Prop,mh.OkE Er (fun o=>∀W2,Ext W1 W2->Q o W2.H)->th σ W1.H Q)
  (h:∀W a x lo hi Q,Ra W a x->(f a lo hi).OkE Er (fun c=>∀v W2,Ext W W2->R W2 c v->Q v W2.H)->r x lo hi W.H Q):EV Er (fE r ta tl th) σ W R (ma.bind fun a=>ml.bind fun lo=>mh.bind fun hi=>f a lo hi):=fun W1 e1 Q k=>
 ha W1 e1 _ ((CC k).imp fun a ka x W2 e2 hx=>hl W2 (e1.trans e2) _ ((CC ka).imp fun lo kl W3 e3=>hh W3 ((e1.trans e2).trans e3) _ ((CC kl).imp fun hi kh W4 e4=>
  h W4 a x lo hi Q (Dt (e3.trans e4) hx) (kh.imp fun c kc v W5 e5 hv=>kc v W5 (((e2.trans e3).trans e4).trans e5) hv))))
theorem tP:∀W1,Ext W W1->∀Q:Option Int->Hp->Prop,(CJ (none:Option Int)).OkE Er (fun o=>∀W2,Ext W1 W2->Q o W2.H)->aI σ W1.H Q:=fun W1 _ Q k=>k W1<|.refl _
theorem tQ{m:Res Int}(h:EV Er t σ W (sh isI) m):∀W1,Ext W W1->∀Q:Option Int->Hp->Prop,(m.bind fun i=>.ok<|some i).OkE Er (fun o=>∀W2,Ext W1 W2->Q o W2.H)->bt t σ W1.H Q:=fun W1 e1 Q k=>
 h W1 e1 _ ((CC k).imp fun i ki v W2 e2 hv=>⟨i,hv,ki W2 e2⟩)
theorem qd{ma:Res Tx}{tl th:TO}{ml mh:Res (Option Int)}(ha:EV Er ta σ W (sh isS) ma)
  (hl:∀W1,Ext W W1->∀Q:Option Int->Hp->Prop,ml.OkE Er (fun o=>∀W2,Ext W1 W2->Q o W2.H)->tl σ W1.H Q) (hh:∀W1,Ext W W1->∀Q:Option Int->Hp->Prop,mh.OkE Er (fun o=>∀W2,Ext W1 W2->Q o W2.H)->th σ W1.H Q):
  EV Er (fE (fun x lo hi H Q=>∃l,x=.str (aP l)/\l.length<=sizeLine/\Q (.str<|aP<|j5 l lo hi) H) ta tl th) σ W (sh isS) (ma.bind fun a=>ml.bind fun lo=>mh.bind fun hi=>rm a lo hi):=
 Ah ha hl hh fun W a x lo hi Q hx k=>by
  cases hx;obtain⟨h1,h2⟩:=aW k;exact⟨a,rfl,tK h1,h2 _ W (.refl _) rfl⟩
theorem Ai(x:Tx)(c j:Nat)(h:tG x c=some j):HI (aP x) (aP [c])=(j:Int):=by
 unfold tG at h;rw[List.findIdx?_eq_some_iff_getElem]at h;obtain⟨hj,h1,h2⟩:=h;have hat:∀i,StrLaws.At (aP x) (aP [c]) (aP x).length i↔x[i]? =some c:=fun i=>by
  have:=StrLaws.subAt_one (aP x) c i;rw[pX]at this;exact this
 unfold HI;rcases StrLaws.occ_head (aP x) (aP [c]) 1 (CN _)with⟨_,hn⟩|⟨i,r,e,hi,hk⟩
 ·exact absurd ((hat j).mpr (by rw[CK hj];simpa using h1))<|hn j
 ·rw[e];have e2:=(hat i).mp hi;obtain⟨hil,e3⟩:=CO.mp e2;have:i=j:=by
   rcases Nat.lt_trichotomy i j with z|z|z;·exact absurd e3 (by simpa using h2 i z)
   ·exact z
   ·exact absurd ((hat j).mpr (by rw[CK hj];simpa using h1))<|hk j z
  rw[this]
theorem hX{ma mb:Res Tx}{K:CG}(ha:EV Er ta σ W (sh isS) ma)(hb:EV Er tb σ W (sh isS) mb):EV Er (ee K "str" (fun x xs H Q=>∃a b,x=.str a/\xs=[.str b]/\0<=HI a b/\Q (.int<|HI a b) H) ta<|ai tb aL) σ W (sh isI) (ma.bind fun a=>mb.bind fun b=>j7 a b):=fun W1 e1 Q k=>
 ha W1 e1 _ ((CC k).imp fun a ka x W2 e2 hx=>by
  cases hx;refine⟨rfl,hb W2 (e1.trans e2) _<|(CC ka).imp fun b kb y W3 e3 hy=>?_⟩;cases hy
  match b,kb with
  | [c],kb=>
   obtain⟨j,h1,h2⟩:=dq (CC kb);have e:=Ai a c j h1;exact⟨_,_,rfl,rfl,by rw[e];omega,by rw[e];exact h2 _ W3 (e2.trans e3) rfl⟩)
theorem Same.tup{H H':Hp}{a:Addr}{xs:List V}(e:Same H H')(h:SqT K H a xs):SqT K H' a xs:=by
 rcases h with(h|⟨o,h⟩)|h;·exact .inl<|.inl<|e _ _ h
 ·exact .inl<|.inr ⟨o,e _ _ h⟩
 ·exact .inr h
def isT2(K:CG)(R1:Rp α)(R2:Rp β):Rp (α×β):=fun H a v=>∃p x y,v=.ref p/\SqT K H p [x,y]/\R1 H a.1 x/\R2 H a.2 y
def isT3(K:CG)(R1:Rp α)(R2:Rp β)(R3:Rp γ):Rp (α×β×γ):=fun H a v=>∃p x y z,v=.ref p/\SqT K H p [x,y,z]/\R1 H a.1 x/\R2 H a.2.1 y/\R3 H a.2.2 z
instance zkeep14{R1:Rp α}{R2:Rp β}[Mono R1][Mono R2]:Mono (isT2 K R1 R2):=⟨fun e⟨p,x,y,h0,h,h1,h2⟩=>⟨p,x,y,h0,Same.tup e h,CB e h1,CB e h2⟩⟩
instance zkeep15{R1:Rp α}{R2:Rp β}{R3:Rp γ}[Mono R1][Mono R2][Mono R3]:Mono (isT3 K R1 R2 R3):=⟨fun e⟨p,x,y,z,h0,h,h1,h2,h3⟩=>⟨p,x,y,z,h0,Same.tup e h,CB e h1,CB e h2,CB e h3⟩⟩
theorem eV{R1:Rp α}{R2:Rp β}[Mono R1][Mono R2]{ma:Res α}{mb:Res β}(ha:EV Er ta σ W (sh R1) ma)(hb:EV Er tb σ W (sh R2) mb):EV Er (cj<|ai ta<|ai tb aL) σ W (sh<|isT2 K R1 R2) (ma.bind fun a=>mb.bind fun b=>.ok (a,b)):=fun W1 e1 Q k=>
 ha W1 e1 _ ((CC k).imp fun a ka x W2 e2 hx=>hb W2 (e1.trans e2) _ ((CC ka).imp fun b kb y W3 e3 hy=>⟨(by show 2<=sizeLine;decide),fun p hp=>
  kb (.ref p) (W3.new p (.tup [x,y])) ((e2.trans e3).trans (.new _ hp)) ⟨p,x,y,rfl,JZ ax,CB (Hi _ hp).g (CB (R:=R1) e3.g hx),CB (R:=R2) (Hi _ hp).g hy⟩⟩))
theorem bV{R1:Rp α}{R2:Rp β}{R3:Rp γ}[Mono R1][Mono R2][Mono R3]{ma:Res α}{mb:Res β}{mc:Res γ}(ha:EV Er ta σ W (sh R1) ma)(hb:EV Er tb σ W (sh R2) mb)(hc:EV Er tc σ W (sh R3) mc):
  EV Er (cj<|ai ta<|ai tb<|ai tc aL) σ W (sh<|isT3 K R1 R2 R3) (ma.bind fun a=>mb.bind fun b=>mc.bind fun c=>.ok (a,b,c)):=fun W1 e1 Q k=>
 ha W1 e1 _ ((CC k).imp fun a ka x W2 e2 hx=>hb W2 (e1.trans e2) _ ((CC ka).imp fun b kb y W3 e3 hy=>hc W3 ((e1.trans e2).trans e3) _ ((CC kb).imp fun c kc z W4 e4 hz=>⟨(by show 3<=sizeLine;decide),fun p hp=>
  kc (.ref p) (W4.new p (.tup [x,y,z])) (((e2.trans e3).trans e4).trans (.new _ hp)) ⟨p,x,y,z,rfl,JZ ax,CB (Hi _ hp).g (CB (R:=R1) (e3.trans e4).g hx),CB (R:=R2) (Hi _ hp).g (CB (R:=R2) e4.g hy),CB (R:=R3) (Hi _ hp).g hz⟩⟩)))
theorem aR{R:Rp α}{Rt:Rp β}{m:Res β}{i:Int}{f:β->α}(h:∀H b v,Rt H b v->∃p xs x,v=.ref p/\SqT K H p xs/\L2.atI xs i=some x/\R H (f b) x)(ha:EV Er ta σ W (sh Rt) m):EV Er (cW (cu K) ta<|tC<|.int i) σ W (sh R) (m.bind fun b=>.ok<|f b):=fun W1 e1 Q k=>
 ha W1 e1 _ ((CC k).imp fun b kb v W2 e2 hv=>by
  obtain⟨p,xs,x,h1,h2,h3,h4⟩:=h _ _ _ hv;exact⟨p,xs,i,x,h1,rfl,Same.tup W2.ok h2,h3,kb _ W2 e2 h4⟩)
theorem z5{R1:Rp α}{R2:Rp β}:∀H b v,isT2 K R1 R2 H b v->∃p xs x,v=.ref p/\SqT K H p xs/\L2.atI xs 0=some x/\R1 H b.1 x:=fun _ _ _⟨p,x,y,h0,h,h1,h2⟩=>⟨p,_,x,h0,h,rfl,h1⟩
theorem z6{R1:Rp α}{R2:Rp β}:∀H b v,isT2 K R1 R2 H b v->∃p xs x,v=.ref p/\SqT K H p xs/\L2.atI xs 1=some x/\R2 H b.2 x:=fun _ _ _⟨p,x,y,h0,h,h1,h2⟩=>⟨p,_,y,h0,h,rfl,h2⟩
theorem lQ{R1:Rp α}{R2:Rp β}{R3:Rp γ}:∀H b v,isT3 K R1 R2 R3 H b v->∃p xs x,v=.ref p/\SqT K H p xs/\L2.atI xs 0=some x/\R1 H b.1 x:=fun _ _ _⟨p,x,y,z,h0,h,h1,h2,h3⟩=>⟨p,_,x,h0,h,rfl,h1⟩
theorem j9{R1:Rp α}{R2:Rp β}{R3:Rp γ}:∀H b v,isT3 K R1 R2 R3 H b v->∃p xs x,v=.ref p/\SqT K H p xs/\L2.atI xs 1=some x/\R2 H b.2.1 x:=fun _ _ _⟨p,x,y,z,h0,h,h1,h2,h3⟩=>⟨p,_,y,h0,h,rfl,h2⟩
theorem jM{R1:Rp α}{R2:Rp β}{R3:Rp γ}:∀H b v,isT3 K R1 R2 R3 H b v->∃p xs x,v=.ref p/\SqT K H p xs/\L2.atI xs 2=some x/\R3 H b.2.2 x:=fun _ _ _⟨p,x,y,z,h0,h,h1,h2,h3⟩=>⟨p,_,z,h0,h,rfl,h3⟩
theorem qe{R:Rp α}{H:Hp}{as:List α}{xs:List V}(h:LR R H as xs){i:Int}{a:α}(e:q0 as i=some a):∃x,L2.atI xs i=some x/\R H a x:=by
 unfold q0 at e;unfold L2.atI;rw[h.1];cases z:Mi.ixN as.length i with
 |none=>rw[z]at e;cases e
 |some j=>
  rw[z]at e;obtain⟨x,h1,h2⟩:=h.get (i:=j) e;exact⟨x,by show(L2.ixN as.length i).bind _=_;rw[show L2.ixN as.length i=Mi.ixN as.length i from rfl,z];exact h1,h2⟩
theorem LR.three{R:Rp α}{H:Hp}{a b c:α}{x y z:V}(h1:R H a x)(h2:R H b y)(h3:R H c z):LR R H [a,b,c] [x,y,z]:=⟨rfl,fun i v m e1 e2=>by
 match i,e1,e2 with
 |0,e1,e2=>cases e1;cases e2;exact h1
 |1,e1,e2=>cases e1;cases e2;exact h2
 |2,e1,e2=>cases e1;cases e2;exact h3⟩
theorem cw{R:Rp α}[Mono R]{ma:Res (List α)}{mb:Res Int}(ha:EV Er ta σ W (pk R) ma)(hb:EV Er tb σ W (sh isI) mb):EV Er (cW (bZ K) ta tb) σ W (sh R) (ma.bind fun a=>mb.bind fun b=>fj a b):=
 oK ha hb fun W a b x y Q hx hy k=>by
  cases hy;obtain⟨p,vs,rfl,h,h1⟩:=hx;obtain⟨c,h4,h5⟩:=dq k;obtain⟨z,h6,h7⟩:=qe h1 h4;exact⟨p,_,b,z,rfl,rfl,EB h,h6,h5 _ W (.refl _) h7⟩
theorem fH{R:Rp α}:EVo Er (bY aL) σ W R (.ok []):=fun W1 e1 Q k=>⟨by decide,fun p hp=>k p (W1.mut p (.lst [])<|W1.gnone hp) (.own _ hp) hp ⟨W1.gnone hp,[],ax,.nil⟩⟩
def AV(Er:Nat->Prop)(t:TA)(σ:St)(W:Wd)(R:Rp α)(n:Nat)(m:Res (List α)):Prop:=∀W1,Ext W W1->∀Q:List V->Hp->Prop,m.OkE Er (fun as=>∀vs W2,Ext W1 W2->vs.length=n->LR R W2.G as vs->Q vs W2.H)->t σ W1.H Q
theorem fI{R:Rp α}:AV Er aL σ W R 0 (.ok []):=fun W1 _ Q k=>k [] W1 (.refl _) rfl .nil
theorem LR.cons{R:Rp α}{H:Hp}{a:α}{v:V}{as:List α}{vs:List V}(h:R H a v)(r:LR R H as vs):LR R H (a::as) (v::vs):=⟨by simp[r.1],fun i x m e1 e2=>by
 cases i with
 |zero=>cases e1;cases e2;exact h
 |succ j=>exact r.2 j x m e1 e2⟩
theorem bR{R:Rp α}[Mono R]{n:Nat}{ts:TA}{m:Res α}{ms:Res (List α)}(h:EV Er t σ W (sh R) m)(g:AV Er ts σ W R n ms):AV Er (ai t ts) σ W R (n+1) (m.bind fun a=>ms.bind fun as=>.ok (a::as)):=fun W1 e1 Q k=>
 h W1 e1 _ ((CC k).imp fun a ka v W2 e2 hv=>g W2 (e1.trans e2) _ ((CC ka).imp fun as kas vs W3 e3 hn hvs=>kas (v::vs) W3 (e2.trans e3) (by simp[hn])<|.cons (CB (R:=R) e3.g hv) hvs))
theorem fJ{R:Rp α}[Mono R]{n:Nat}{ts:TA}{ms:Res (List α)}(g:AV Er ts σ W R n ms)(hn:n<=cap:=by decide):EVo Er (bY ts) σ W R ms:=fun W1 e1 Q k=>
 g W1 e1 _ (k.imp fun as ka vs W2 e2 hv hvs=>⟨by rw[hv];exact tK hn,fun p hp=>ka p (W2.mut p (.lst vs)<|W2.gnone hp) (e2.trans<|.own _ hp) (none_of e2.h hp) ⟨W2.gnone hp,vs,ax,hvs⟩⟩)
theorem LR.cut{R:Rp α}{H:Hp}{as:List α}{vs:List V}(h:LR R H as vs)(lo hi:Option Int):LR R H (Mi.cut as lo hi) (oC vs lo hi):=by
 unfold Mi.cut oC;rw[h.1];exact(h.drop _).take _
theorem wC{R:Rp α}[Mono R]{ma:Res (List α)}{tl th:TO}{ml mh:Res (Option Int)}(ha:EV Er ta σ W (pk R) ma)
  (hl:∀W1,Ext W W1->∀Q:Option Int->Hp->Prop,ml.OkE Er (fun o=>∀W2,Ext W1 W2->Q o W2.H)->tl σ W1.H Q) (hh:∀W1,Ext W W1->∀Q:Option Int->Hp->Prop,mh.OkE Er (fun o=>∀W2,Ext W1 W2->Q o W2.H)->th σ W1.H Q):
  EVo Er (fE (cy K) ta tl th) σ W R (ma.bind fun a=>ml.bind fun lo=>mh.bind fun hi=>.ok<|Mi.cut a lo hi):=fun W1 e1 Q k=>
 ha W1 e1 _ ((CC k).imp fun a ka x W2 e2 hx=>hl W2 (e1.trans e2) _ ((CC ka).imp fun lo kl W3 e3=>hh W3 ((e1.trans e2).trans e3) _ ((CC kl).imp fun hi kh W4 e4=>by
  obtain⟨p,vs,rfl,h1,h2⟩:=Dt (e3.trans e4) hx;have e5:=(e2.trans e3).trans e4;exact⟨p,vs,rfl,EB h1,fun r hr=>kh r (W4.mut r (.lst (oC vs lo hi)) (W4.gnone hr)) (e5.trans (.own _ hr)) (none_of e5.h hr) ⟨W4.gnone hr,_,ax,h2.cut lo hi⟩⟩)))
theorem oN{ma:Res Int}(ha:EV Er ta σ W (sh isI) ma):EV Er (dZ (fun xs H Q=>∃i,xs=[.int i]/\Q (.int (if i<0 then -i else i)) H)<|ai ta aL) σ W (sh isI) (ma.bind fun a=>.ok<|eu a):=fun W1 e1 Q k=>
 ha W1 e1 _ ((CC k).imp fun a ka x W2 e2 hx=>by cases hx;exact⟨a,rfl,ka _ W2 e2 rfl⟩)
theorem eB{R:Rp α}{ma:Res (List α)}(ha:EV Er ta σ W (pk R) ma):EV Er (dZ (fun xs H Q=>∃x n,xs=[x]/\qV K x H n/\Q (.int n) H)<|ai ta aL) σ W (sh isI) (ma.bind fun a=>.ok (a.length:Int)):=fun W1 e1 Q k=>
 ha W1 e1 _ ((CC k).imp fun a ka x W2 e2 hx=>by
  obtain⟨p,vs,rfl,h1,h2⟩:=hx;exact⟨_,a.length,rfl,.inl ⟨vs,EB h1,h2.1.symm⟩,ka _ W2 e2 rfl⟩)
theorem lR{ma:Res (List Tx)}{x:Str}(hx:x=aP [])(ha:EV Er ta σ W (pk isS) ma):EV Er (ee K "str" (fun x xs H Q=>∃(p:Addr)(ys:List (List Nat)),x=.str (aP [])/\xs=[.ref p]/\SqL K H p (ys.map fun y=>Hv<|aP y)/\ys.flatten.length<=100000/\Q (.str<|aP ys.flatten) H) (tC<|.str x)<|ai ta aL) σ W (sh isS) (ma.bind fun a=>mZ a):=fun W1 e1 Q k=>
 ⟨by show BA K "str" (.str x) W1.H;rfl,ha W1 e1 _ ((CC k).imp fun a ka v W2 e2 hv=>by
  obtain⟨p,vs,rfl,h1,h2⟩:=hv;obtain⟨h3,h4⟩:=aW ka;exact⟨p,a,by rw[hx],rfl,EB (by rw[h1,h2.str]),h3,h4 _ W2 e2 rfl⟩)⟩
end
end Wb
open Wb.Same renaming tup->Eu
namespace Wb
open PySem L2 Mi
variable{Er:Nat->Prop}
abbrev Rt(β:Type):=Wd->β->VK->Prop
def rs{β:Type}(R:Rp β):Rt β:=fun W r Q=>∀u W',Ext W W'->R W'.G r u->Q u W'.H
def ro{β:Type}(R:Rp β):Rt (List β):=fun W r Q=>∀p W',Ext W W'->W.H p=none->Ow R W' p r->Q (.ref p) W'.H
section
variable{α β γ δ ε ζ:Type}
def dX(R1:Rp α)(rt:Rt β)(m:α->Res β):Sp:=fun vs H Q _=>∃(W:Wd)(a:α)(v:V),W.H=H/\vs=[v]/\R1 W.G a v/\∃Er:Nat->Prop,(m a).OkE Er fun r=>rt W r Q
def bF(R1:Rp α)(R2:Rp γ)(rt:Rt β)(m:α->γ->Res β):Sp:=fun vs H Q _=>∃(W:Wd)(a:α)(b:γ)(v u:V),W.H=H/\vs=[v,u]/\R1 W.G a v/\R2 W.G b u/\∃Er:Nat->Prop,(m a b).OkE Er fun r=>rt W r Q
def cV(R1:Rp α)(R2:Rp γ)(R3:Rp δ)(rt:Rt β)(m:α->γ->δ->Res β):Sp:=fun vs H Q _=>∃(W:Wd)(a:α)(b:γ)(c:δ)(v u w:V),W.H=H/\vs=[v,u,w]/\R1 W.G a v/\R2 W.G b u/\R3 W.G c w/\∃Er:Nat->Prop,(m a b c).OkE Er fun r=>rt W r Q
def gj(R1:Rp α)(R2:Rp γ)(R3:Rp δ)(R4:Rp ε)(rt:Rt β)(m:α->γ->δ->ε->Res β):Sp:=fun vs H Q _=>∃(W:Wd)(a:α)(b:γ)(c:δ)(d:ε)(v u w x:V),W.H=H/\vs=[v,u,w,x]/\R1 W.G a v/\R2 W.G b u/\R3 W.G c w/\R4 W.G d x/\∃Er:Nat->Prop,(m a b c d).OkE Er fun r=>rt W r Q
def gk(R1:Rp α)(R2:Rp γ)(R3:Rp δ)(R4:Rp ε)(R5:Rp ζ)(rt:Rt β)(m:α->γ->δ->ε->ζ->Res β):Sp:=fun vs H Q _=>∃(W:Wd)(a:α)(b:γ)(c:δ)(d:ε)(e:ζ)(v u w x y:V),W.H=H/\vs=[v,u,w,x,y]/\R1 W.G a v/\R2 W.G b u/\R3 W.G c w/\R4 W.G d x/\R5 W.G e y/\∃Er:Nat->Prop,(m a b c d e).OkE Er fun r=>rt W r Q
variable{t t1 t2 t3 t4 t5:TE}{σ:St}{W W0 W':Wd}{K:CG}
section
variable{R1:Rp α}{R2:Rp γ}{R3:Rp δ}{R4:Rp ε}{R5:Rp ζ}[Mono R1][Mono R2][Mono R3][Mono R4][Mono R5]{m1:Res α}{m2:Res γ}{m3:Res δ}{m4:Res ε}{m5:Res ζ}{E:XK}
theorem cX{R:Rp β}{m:α->Res β}(h1:EV Er t1 σ W (sh R1) m1):EV Er (aT (dX R1 (rs R) m) [] E<|ai t1 aL) σ W (sh R) (m1.bind fun a=>m a):=fun W1 e1 Q k=>
 h1 W1 e1 _ ((CC k).imp fun a ka v W2 e2 hv=>⟨W2,a,v,rfl,rfl,hv,Er,ka.imp fun r kr u W' e hu=>kr u W' (e2.trans e) hu⟩)
theorem b9{R:Rp β}{m:α->γ->Res β}(h1:EV Er t1 σ W (sh R1) m1)(h2:EV Er t2 σ W (sh R2) m2):EV Er (aT (bF R1 R2 (rs R) m) [] E<|ai t1<|ai t2 aL) σ W (sh R) (m1.bind fun a=>m2.bind fun b=>m a b):=fun W1 e1 Q k=>
 h1 W1 e1 _ ((CC k).imp fun a ka v W2 e2 hv=>h2 W2 (e1.trans e2) _<|(CC ka).imp fun b kb u W3 e3 hu=>⟨W3,a,b,v,u,rfl,rfl,Dt (R:=sh R1) e3 hv,hu,Er,kb.imp fun r kr u W' e hu=>kr u W' ((e2.trans e3).trans e) hu⟩)
theorem iH{R:Rp β}{m:α->γ->Res (List β)}(h1:EV Er t1 σ W (sh R1) m1)(h2:EV Er t2 σ W (sh R2) m2):EVo Er (aT (bF R1 R2 (ro R) m) [] E<|ai t1<|ai t2 aL) σ W R (m1.bind fun a=>m2.bind fun b=>m a b):=fun W1 e1 Q k=>
 h1 W1 e1 _ ((CC k).imp fun a ka v W2 e2 hv=>h2 W2 (e1.trans e2) _<|(CC ka).imp fun b kb u W3 e3 hu=>⟨W3,a,b,v,u,rfl,rfl,Dt (R:=sh R1) e3 hv,hu,Er,kb.imp fun r kr p W' e hp o=>kr p W' ((e2.trans e3).trans e) (none_of (e2.trans e3).h hp) o⟩)
theorem eM{R:Rp β}{m:α->γ->δ->Res β}(h1:EV Er t1 σ W (sh R1) m1)(h2:EV Er t2 σ W (sh R2) m2)(h3:EV Er t3 σ W (sh R3) m3):EV Er (aT (cV R1 R2 R3 (rs R) m) [] E<|ai t1<|ai t2<|ai t3 aL) σ W (sh R) (m1.bind fun a=>m2.bind fun b=>m3.bind fun c=>m a b c):=fun W1 e1 Q k=>
 h1 W1 e1 _ ((CC k).imp fun a ka v W2 e2 hv=>h2 W2 (e1.trans e2) _ ((CC ka).imp fun b kb u W3 e3 hu=>h3 W3 ((e1.trans e2).trans e3) _ ((CC kb).imp fun c kc w W4 e4 hw=>
  ⟨W4,a,b,c,v,u,w,rfl,rfl,Dt (R:=sh R1) (e3.trans e4) hv,Dt (R:=sh R2) e4 hu,hw,Er,kc.imp fun r kr u W' e hu=>kr u W' (((e2.trans e3).trans e4).trans e) hu⟩)))
theorem eE{R:Rp β}{m:α->γ->δ->Res (List β)}(h1:EV Er t1 σ W (sh R1) m1)(h2:EV Er t2 σ W (sh R2) m2)(h3:EV Er t3 σ W (sh R3) m3):EVo Er (aT (cV R1 R2 R3 (ro R) m) [] E<|ai t1<|ai t2<|ai t3 aL) σ W R (m1.bind fun a=>m2.bind fun b=>m3.bind fun c=>m a b c):=fun W1 e1 Q k=>
 h1 W1 e1 _ ((CC k).imp fun a ka v W2 e2 hv=>h2 W2 (e1.trans e2) _ ((CC ka).imp fun b kb u W3 e3 hu=>h3 W3 ((e1.trans e2).trans e3) _ ((CC kb).imp fun c kc w W4 e4 hw=>
  ⟨W4,a,b,c,v,u,w,rfl,rfl,Dt (R:=sh R1) (e3.trans e4) hv,Dt (R:=sh R2) e4 hu,hw,Er,kc.imp fun r kr p W' e hp o=>kr p W' (((e2.trans e3).trans e4).trans e) (none_of ((e2.trans e3).trans e4).h hp) o⟩)))
theorem tR{R:Rp β}{m:α->γ->δ->ε->Res β}(h1:EV Er t1 σ W (sh R1) m1)(h2:EV Er t2 σ W (sh R2) m2)(h3:EV Er t3 σ W (sh R3) m3)(h4:EV Er t4 σ W (sh R4) m4):EV Er (aT (gj R1 R2 R3 R4 (rs R) m) [] E<|ai t1<|ai t2<|ai t3<|ai t4 aL) σ W (sh R) (m1.bind fun a=>m2.bind fun b=>m3.bind fun c=>m4.bind fun d=>m a b c d):=fun W1 e1 Q k=>
 h1 W1 e1 _ ((CC k).imp fun a ka v W2 e2 hv=>h2 W2 (e1.trans e2) _ ((CC ka).imp fun b kb u W3 e3 hu=>h3 W3 ((e1.trans e2).trans e3) _ ((CC kb).imp fun c kc w W4 e4 hw=>h4 W4 (((e1.trans e2).trans e3).trans e4) _ ((CC kc).imp fun d kd x W5 e5 hx=>
  ⟨W5,a,b,c,d,v,u,w,x,rfl,rfl,Dt (R:=sh R1) ((e3.trans e4).trans e5) hv,Dt (R:=sh R2) (e4.trans e5) hu,Dt (R:=sh R3) e5 hw,hx,Er,kd.imp fun r kr u W' e hu=>kr u W' ((((e2.trans e3).trans e4).trans e5).trans e) hu⟩))))
theorem iI{R:Rp β}{m:α->γ->δ->ε->Res (List β)}(h1:EV Er t1 σ W (sh R1) m1)(h2:EV Er t2 σ W (sh R2) m2)(h3:EV Er t3 σ W (sh R3) m3)(h4:EV Er t4 σ W (sh R4) m4):EVo Er (aT (gj R1 R2 R3 R4 (ro R) m) [] E<|ai t1<|ai t2<|ai t3<|ai t4 aL) σ W R (m1.bind fun a=>m2.bind fun b=>m3.bind fun c=>m4.bind fun d=>m a b c d):=fun W1 e1 Q k=>
 h1 W1 e1 _ ((CC k).imp fun a ka v W2 e2 hv=>h2 W2 (e1.trans e2) _ ((CC ka).imp fun b kb u W3 e3 hu=>h3 W3 ((e1.trans e2).trans e3) _ ((CC kb).imp fun c kc w W4 e4 hw=>h4 W4 (((e1.trans e2).trans e3).trans e4) _ ((CC kc).imp fun d kd x W5 e5 hx=>
  ⟨W5,a,b,c,d,v,u,w,x,rfl,rfl,Dt (R:=sh R1) ((e3.trans e4).trans e5) hv,Dt (R:=sh R2) (e4.trans e5) hu,Dt (R:=sh R3) e5 hw,hx,Er,kd.imp fun r kr p W' e hp o=>kr p W' ((((e2.trans e3).trans e4).trans e5).trans e) (none_of (((e2.trans e3).trans e4).trans e5).h hp) o⟩))))
theorem n9{R:Rp β}{m:α->γ->δ->ε->ζ->Res β}(h1:EV Er t1 σ W (sh R1) m1)(h2:EV Er t2 σ W (sh R2) m2)(h3:EV Er t3 σ W (sh R3) m3)(h4:EV Er t4 σ W (sh R4) m4)(h5:EV Er t5 σ W (sh R5) m5):EV Er (aT (gk R1 R2 R3 R4 R5 (rs R) m) [] E<|ai t1<|ai t2<|ai t3<|ai t4<|ai t5 aL) σ W (sh R) (m1.bind fun a=>m2.bind fun b=>m3.bind fun c=>m4.bind fun d=>m5.bind fun e=>m a b c d e):=fun W1 e1 Q k=>
 h1 W1 e1 _ ((CC k).imp fun a ka v W2 e2 hv=>h2 W2 (e1.trans e2) _ ((CC ka).imp fun b kb u W3 e3 hu=>h3 W3 ((e1.trans e2).trans e3) _ ((CC kb).imp fun c kc w W4 e4 hw=>h4 W4 (((e1.trans e2).trans e3).trans e4) _ ((CC kc).imp fun d kd x W5 e5 hx=>h5 W5 ((((e1.trans e2).trans e3).trans e4).trans e5) _ ((CC kd).imp fun e ke y W6 e6 hy=>
  ⟨W6,a,b,c,d,e,v,u,w,x,y,rfl,rfl,Dt (R:=sh R1) (((e3.trans e4).trans e5).trans e6) hv,Dt (R:=sh R2) ((e4.trans e5).trans e6) hu,Dt (R:=sh R3) (e5.trans e6) hw,Dt (R:=sh R4) e6 hx,hy,Er,ke.imp fun r kr u W' e hu=>kr u W' (((((e2.trans e3).trans e4).trans e5).trans e6).trans e) hu⟩)))))
theorem fo{R:Rp β}{m:α->γ->δ->ε->ζ->Res (List β)}(h1:EV Er t1 σ W (sh R1) m1)(h2:EV Er t2 σ W (sh R2) m2)(h3:EV Er t3 σ W (sh R3) m3)(h4:EV Er t4 σ W (sh R4) m4)(h5:EV Er t5 σ W (sh R5) m5):EVo Er (aT (gk R1 R2 R3 R4 R5 (ro R) m) [] E<|ai t1<|ai t2<|ai t3<|ai t4<|ai t5 aL) σ W R (m1.bind fun a=>m2.bind fun b=>m3.bind fun c=>m4.bind fun d=>m5.bind fun e=>m a b c d e):=fun W1 e1 Q k=>
 h1 W1 e1 _ ((CC k).imp fun a ka v W2 e2 hv=>h2 W2 (e1.trans e2) _ ((CC ka).imp fun b kb u W3 e3 hu=>h3 W3 ((e1.trans e2).trans e3) _ ((CC kb).imp fun c kc w W4 e4 hw=>h4 W4 (((e1.trans e2).trans e3).trans e4) _ ((CC kc).imp fun d kd x W5 e5 hx=>h5 W5 ((((e1.trans e2).trans e3).trans e4).trans e5) _ ((CC kd).imp fun e ke y W6 e6 hy=>
  ⟨W6,a,b,c,d,e,v,u,w,x,y,rfl,rfl,Dt (R:=sh R1) (((e3.trans e4).trans e5).trans e6) hv,Dt (R:=sh R2) ((e4.trans e5).trans e6) hu,Dt (R:=sh R3) (e5.trans e6) hw,Dt (R:=sh R4) e6 hx,hy,Er,ke.imp fun r kr p W' e hp o=>kr p W' (((((e2.trans e3).trans e4).trans e5).trans e6).trans e) (none_of ((((e2.trans e3).trans e4).trans e5).trans e6).h hp) o⟩)))))
end
def Yl(J:It)(W:Wd)(R:Rp α)(xs:List α):Prop:=∀W1:Wd,Same W.G W1.G->(∀(i:Nat)(a:α),xs[i]? =some a->J.go i W1.H/\∀x H',J.yld i W1.H x H'->∃W2:Wd,W2.H=H'/\Ext W1 W2/\R W2.G a x)/\J.stop xs.length W1.H
def IV(Er:Nat->Prop)(wi:TI)(σ:St)(W:Wd)(R:Rp α)(m:Res (List α)):Prop:=∀W1,Ext W W1->∀P:It->Hp->Prop,m.OkE Er (fun xs=>∀J W2,Ext W1 W2->Yl J W2 R xs->P J W2.H)->wi σ W1.H P
theorem cR{R:Rp α}[Mono R]{m:Res (List α)}(h:EV Er t σ W (sh<|isL R) m):IV Er (sJ K t) σ W R m:=fun W1 e1 P k=>
 h W1 e1 _ (k.imp fun xs kx v W2 e2 hv=>by
  obtain⟨p,vs,rfl,h1,h2⟩:=hv;refine⟨p,rfl,⟨vs,EB (W2.ok _ _ h1)⟩,kx _ W2 e2 fun W3 e3=>⟨fun i a ha=>?_,vs,EB (W3.ok _ _ (e3 _ _ h1)),by rw[h2.1];exact CN _⟩⟩;obtain⟨x,hx,hr⟩:=h2.get ha;refine⟨⟨vs,x,EB (W3.ok _ _ (e3 _ _ h1)),hx⟩,fun y H'⟨z1,z2⟩=>⟨W3,z1.symm,.refl _,?_⟩⟩;have:=z2 vs (EB (W3.ok _ _ (e3 _ _ h1)));rw[hx]at this;cases this;exact CB e3 hr)
theorem jN{m:Res Tx}(h:EV Er t σ W (sh isS) m):IV Er (Aa t) σ W isS (m.bind fun x=>.ok<|cM x):=fun W1 e1 P k=>
 h W1 e1 _ ((CC k).imp fun x kx v W2 e2 hv=>by
  cases hv;refine⟨x,rfl,kx _ W2 e2 fun W3 e3=>⟨fun i a ha=>?_,by show x.length<=(cM x).length;simp[cM]⟩⟩;unfold cM at ha;rw[CS]at ha;cases hc:x[i]? with
  |none=>rw[hc]at ha;cases ha
  |some c=>
   rw[hc]at ha;cases ha;refine⟨(CO.mp hc).1,fun y H'⟨z1,c',z2,z3⟩=>⟨W3,z1.symm,.refl _,?_⟩⟩;rw[hc]at z2;cases z2;exact z3)
theorem jO{m:Res Int}(h:EV Er t σ W (sh isI) m):IV Er (yd<|ai t aL) σ W isI (m.bind fun n=>gf n):=fun W1 e1 P k=>
 h W1 e1 _ ((CC k).imp fun n kn v W2 e2 hv=>by
  cases hv;obtain⟨hb,kn⟩:=aW kn;refine⟨n,rfl,hb.1,hb.2,kn _ W2 e2 fun W3 e3=>⟨fun i a ha=>?_,by show n.toNat<=(ff n).length;simp[ff]⟩⟩;unfold ff at ha;rw[CS]at ha;have hi:i<n.toNat:=by
   refine Fy fun z=>?_;rw[DJ.mpr (by simp;omega)]at ha;cases ha
  rw[Fi hi]at ha;cases ha;exact⟨hi,fun y H'⟨z1,z2⟩=>⟨W3,z1.symm,.refl _,by rw[z2];show FT (0+(i:Int))=.int (i:Int);rw[Int.zero_add]⟩⟩)
def SrcR(K:CG)(W:Wd)(R:Rp α)(xs:List α)(v:V):Prop:=∃(c:Src)(vs:List V),v=c.val/\(∀W1:Wd,Same W.G W1.G->c.has K W1.H vs)/\LR R W.G xs vs
theorem SrcR.mono{R:Rp α}[Mono R]{xs:List α}{v:V}(h:SrcR K W R xs v)(e:Same W.G W'.G):SrcR K W' R xs v:=by
 obtain⟨c,vs,h1,h2,h3⟩:=h;exact⟨c,vs,h1,fun W1 e1=>h2 W1<|e.trans e1,h3.same e⟩
def SV(Er:Nat->Prop)(t:TE)(σ:St)(W:Wd)(K:CG)(R:Rp α)(m:Res (List α)):Prop:=EV Er t σ W (fun W xs v=>SrcR K W R xs v) m
theorem gm{R:Rp α}[Mono R]{m:Res (List α)}(h:EV Er t σ W (sh<|isL R) m):SV Er t σ W K R m:=h.imp fun W xs v⟨p,vs,h0,h1,h2⟩=>⟨.lst p,vs,h0,fun W1 e1=>EB<|W1.ok _ _<|e1 _ _ h1,h2⟩
theorem jc{R:Rp α}{m:Res (α×α×α)}(h:EV Er t σ W (sh<|isT3 K R R R) m):SV Er t σ W K R (m.bind fun x=>.ok [x.1,x.2.1,x.2.2]):=fun W1 e1 Q k=>
 h W1 e1 _ ((CC k).imp fun x kx v W2 e2 hv=>by
  obtain⟨p,a,b,c,h0,h,h1,h2,h3⟩:=hv;exact kx _ W2 e2 ⟨.tup p,_,h0,fun W3 e3=>Eu (e3.trans W3.ok) h,LR.three h1 h2 h3⟩)
theorem iJ{R1:Rp α}{R2:Rp β}[Mono R1][Mono R2]{m1:Res (List α)}{m2:Res (List β)}(h1:SV Er t1 σ W K R1 m1)(h2:SV Er t2 σ W K R2 m2):IV Er (yT K<|ai t1<|ai t2 aL) σ W (isT2 K R1 R2) (m1.bind fun xs=>m2.bind fun ys=>.ok<|xs.zip ys):=fun W1 e1 P k=>
 h1 W1 e1 _ ((CC k).imp fun xs kx v W2 e2 hv=>h2 W2 (e1.trans e2) _ ((CC kx).imp fun ys ky u W3 e3 hu=>by
  obtain⟨c1,vs,rfl,a1,b1⟩:=SrcR.mono hv e3.g;obtain⟨c2,us,rfl,a2,b2⟩:=hu;refine⟨c1,c2,vs,us,rfl,a1 W3<|.refl _,a2 W3<|.refl _,ky _ W3 (e2.trans e3) fun W4 e4=>⟨fun i ab hab=>?_,?_⟩⟩
  ·rw[HW]at hab;obtain⟨x,hx,rx⟩:=b1.get hab.1;obtain⟨y,hy,ry⟩:=b2.get hab.2;refine⟨⟨vs,us,x,y,a1 W4 e4,a2 W4 e4,hx,hy⟩,fun z H'⟨p,x',y',hp,z0,z1,z2,z3⟩=>⟨W4.new p<|.tup [x',y'],by rw[z3];rfl,.new _ hp,p,x',y',z0,JZ ax,?_,?_⟩⟩
   ·have:=z1 vs<|a1 W4 e4;rw[hx]at this;cases this;exact CB (e4.trans (Hi _ hp).g) rx
   ·have:=z2 us<|a2 W4 e4;rw[hy]at this;cases this;exact CB (e4.trans (Hi _ hp).g) ry
  ·refine⟨vs,us,a1 W4 e4,a2 W4 e4,?_⟩;rw[FC,b1.1,b2.1];omega))
theorem tS{xs:List α}{i:Nat}{p:Int×α}(h:(gP xs)[i]? =some p):p.1=(i:Int)/\xs[i]? =some p.2:=by
 unfold gP at h;rw[Jc]at h;cases h1:(DY xs.length)[i]? with
 |none=>rw[h1]at h;cases h
 |some j=>
  cases h2:xs[i]? with
  |none=>rw[h1,h2]at h;cases h
  |some x=>
   rw[h1,h2]at h;cases h;have hi:=(CO.mp h2).1;rw[Fi hi]at h1;cases h1;exact⟨rfl,rfl⟩
theorem tT{xs:List α}:(gP xs).length=xs.length:=by simp[gP]
theorem wD{R:Rp α}[Mono R]{m:Res (List α)}(h:EV Er t σ W (sh<|isL R) m):IV Er (yh K<|ai t aL) σ W (isT2 K isI R) (m.bind fun xs=>.ok<|gP xs):=fun W1 e1 P k=>
 h W1 e1 _ ((CC k).imp fun xs kx v W2 e2 hv=>by
  obtain⟨p,vs,rfl,h1,h2⟩:=hv;refine⟨p,vs,rfl,EB (W2.ok _ _ h1),kx _ W2 e2 fun W3 e3=>⟨fun i ab hab=>?_,vs,EB (W3.ok _ _ (e3 _ _ h1)),by rw[tT,h2.1]⟩⟩;obtain⟨hi,ha⟩:=tS hab;obtain⟨x,hx,rx⟩:=h2.get ha;refine⟨⟨vs,x,EB (W3.ok _ _ (e3 _ _ h1)),hx⟩,fun z H'⟨q,x',hq,z0,z1,z2⟩=>⟨W3.new q (.tup [.int i,x']),by rw[z2];rfl,.new _ hq,q,_,x',z0,JZ ax,by rw[hi];rfl,?_⟩⟩;have:=z1 vs (EB (W3.ok _ _ (e3 _ _ h1)));rw[hx]at this;cases this;exact CB (e3.trans (Hi _ hq).g) rx)
theorem rp{f:α->Res β}{xs:List α}{i:Nat}{a:α}(h:xs[i]? =some a):j8 f (xs.drop i)=(f a).bind fun b=>(j8 f<|xs.drop<|i+1).bind fun bs=>.ok (b::bs):=by
 obtain⟨hi,e⟩:=CO.mp h;rw[Ey hi,e];rfl
theorem oO{f:α->Res (Option β)}{xs:List α}{i:Nat}{a:α}(h:xs[i]? =some a):gZ f (xs.drop i)=(f a).bind fun b=>(gZ f<|xs.drop<|i+1).bind fun bs=>.ok (match b with|some b=>b::bs|none=>bs):=by
 obtain⟨hi,e⟩:=CO.mp h;rw[Ey hi,e];rfl
theorem eW{cap:List (Option Nat)}{wi:TI}{g:TG}{te:TE}{R:Rp α}{R':Rp β}[Mono R']{m:Res (List α)}{f:α->Res β}(hi:IV Er wi σ W R m)
  (hb:∀(W1:Wd)(a:α)(v:V),Ext W W1->R W1.G a v->∀Q:VK,(f a).OkE Er (fun b=>∀u W2,Ext W1 W2->R' W2.G b u->Q u W2.H)->g v (bu cap σ) W1.H fun σ2 H2=>Keep (bu cap σ) σ2/\te σ2 H2 Q):
  EVo Er (pZ cap wi g yR te) σ W R' (m.bind fun xs=>eg xs f):=fun W1 e1 Q k=>by
 refine hi W1 e1 _<|(CC k).imp fun xs kx J W2 e2 hy=>?_;obtain⟨hl,kx⟩:=aW<|CC kx;refine⟨fun i n ys H=>n=xs.length-i/\i<=xs.length/\ys.length<=i/\∃(W3:Wd)(bs:List β),W3.H=H/\Ext W2 W3/\LR R' W3.G bs ys/\(j8 f<|xs.drop i).OkE Er (fun r=>∀p W4,Ext W1 W4->W1.H p=none->Ow R' W4 p (bs++r)->Q (.ref p) W4.H),⟨xs.length,by simp,by simp,by simp,W2,[],rfl,.refl _,.nil,?_⟩,?_⟩;·simpa using kx
 ·rintro i n ys H ⟨rfl,hi1,hyl,W3,bs,rfl,e3,lr,q⟩;refine⟨by rw[Dz];unfold Mi.cap at hl;omega,?_⟩;by_cases hlt:i<xs.length
  ·obtain⟨a,ha⟩:∃a,xs[i]? =some a:=⟨xs[i],by simp[hlt]⟩
   obtain⟨h1,h2⟩:=(hy W3 e3.g).1 i a ha;refine .inr ⟨h1,fun ys' H'=>ys'.length<=i+1/\∃(W3:Wd)(bs:List β),W3.H=H'/\Ext W2 W3/\LR R' W3.G bs ys'/\(j8 f<|xs.drop<|i+1).OkE Er (fun r=>∀p W4,Ext W1 W4->W1.H p=none->Ow R' W4 p (bs++r)->Q (.ref p) W4.H),fun ys' H'⟨z1,z2⟩=>⟨xs.length-(i+1),by omega,rfl,hlt,z1,z2⟩,fun x H' hx=>?_⟩;obtain⟨W4,rfl,e4,rx⟩:=h2 x H' hx;rw[rp ha]at q;have:=hb W4 a x (e1.trans<|(e2.trans e3).trans e4) rx (fun y H4=>(ys++[y]).length<=i+1/\∃(W3:Wd)(bs:List β),W3.H=H4/\Ext W2 W3/\LR R' W3.G bs (ys++[y])/\(j8 f<|xs.drop<|i+1).OkE Er (fun r=>∀p W4,Ext W1 W4->W1.H p=none->Ow R' W4 p (bs++r)->Q (.ref p) W4.H))
    ((CC q).imp fun b kb u W5 e5 hu=>⟨by simp;exact hyl,W5,bs++[b],rfl,(e3.trans e4).trans e5,(lr.same (e4.trans e5).g).snoc hu,(CC kb).imp fun r kr=>by rw[Dg];exact kr⟩)
   exact this
  ·have e:i=xs.length:=by omega
   subst e;rw[FP]at q;refine .inl ⟨(hy W3 e3.g).2,fun D hD=>?_⟩;have e13:=e2.trans e3;have:=q D (W3.mut D (.lst ys)<|W3.gnone hD) (e13.trans<|.own _ hD) (none_of e13.h hD) ⟨W3.gnone hD,ys,ax,by rw[Ex];exact lr⟩;exact this
theorem tU{cap:List (Option Nat)}{wi:TI}{g:TG}{tf:TT}{te:TE}{R:Rp α}{R':Rp β}[Mono R']{m:Res (List α)}{f:α->Res (Option β)}(hi:IV Er wi σ W R m)
    (hb:∀(W1:Wd)(a:α)(v:V),Ext W W1->R W1.G a v->∀Q:Option V->Hp->Prop,(f a).OkE Er (fun b=>∀u W2,Ext W1 W2->(match b,u with|some b,some u=>R' W2.G b u|none,none=>True|_,_=>False)->Q u W2.H)->g v (bu cap σ) W1.H fun σ2 H2=>Keep (bu cap σ) σ2/\tf σ2 H2 fun b H3=>if b=true then te σ2 H3 (fun y H4=>Q (some y) H4)else Q none H3):
    EVo Er (pZ cap wi g tf te) σ W R' (m.bind fun xs=>qa xs f):=fun W1 e1 Q k=>by
  refine hi W1 e1 _<|(CC k).imp fun xs kx J W2 e2 hy=>?_;obtain⟨hl,kx⟩:=aW<|CC kx;refine⟨fun i n ys H=>n=xs.length-i/\i<=xs.length/\ys.length<=i/\∃(W3:Wd)(bs:List β),W3.H=H/\Ext W2 W3/\LR R' W3.G bs ys/\(gZ f<|xs.drop i).OkE Er (fun r=>∀p W4,Ext W1 W4->W1.H p=none->Ow R' W4 p (bs++r)->Q (.ref p) W4.H),⟨xs.length,by simp,by simp,by simp,W2,[],rfl,.refl _,.nil,?_⟩,?_⟩;·simpa using kx
  · rintro i n ys H ⟨rfl,hi1,hyl,W3,bs,rfl,e3,lr,q⟩;refine⟨by rw[Dz];unfold Mi.cap at hl;omega,?_⟩;by_cases hlt:i<xs.length
    · obtain⟨a,ha⟩:∃a,xs[i]? =some a:=⟨xs[i],by simp[hlt]⟩
      obtain⟨h1,h2⟩:=(hy W3 e3.g).1 i a ha;refine .inr ⟨h1,fun ys' H'=>ys'.length<=i+1/\∃(W3:Wd)(bs:List β),W3.H=H'/\Ext W2 W3/\LR R' W3.G bs ys'/\(gZ f<|xs.drop<|i+1).OkE Er (fun r=>∀p W4,Ext W1 W4->W1.H p=none->Ow R' W4 p (bs++r)->Q (.ref p) W4.H),fun ys' H'⟨z1,z2⟩=>⟨xs.length-(i+1),by omega,rfl,hlt,z1,z2⟩,fun x H' hx=>?_⟩;obtain⟨W4,rfl,e4,rx⟩:=h2 x H' hx;rw[oO ha]at q
      have:=hb W4 a x (e1.trans<|(e2.trans e3).trans e4) rx (fun y H4=>(match y with|some y=>ys++[y]|none=>ys).length<=i+1/\∃(W3:Wd)(bs:List β),W3.H=H4/\Ext W2 W3/\LR R' W3.G bs (match y with|some y=>ys++[y]|none=>ys)/\(gZ f<|xs.drop<|i+1).OkE Er (fun r=>∀p W4,Ext W1 W4->W1.H p=none->Ow R' W4 p (bs++r)->Q (.ref p) W4.H))
        ((CC q).imp fun b kb u W5 e5 hu=>by
          match b,u,hu,kb with
          |some b,some u,hu,kb=>exact⟨by simp;exact hyl,W5,bs++[b],rfl,(e3.trans e4).trans e5,(lr.same (e4.trans e5).g).snoc hu,(CC kb).imp fun r kr=>by rw[Dg];exact kr⟩
          |none,none,hu,kb=>exact⟨by show ys.length<=i+1;omega,W5,bs,rfl,(e3.trans e4).trans e5,lr.same (e4.trans e5).g,(CC kb).imp fun r kr=>kr⟩)
      exact this
    · have e:i=xs.length:=by omega
      subst e;rw[FP]at q;refine .inl ⟨(hy W3 e3.g).2,fun D hD=>?_⟩;have e13:=e2.trans e3;have:=q D (W3.mut D (.lst ys)<|W3.gnone hD) (e13.trans<|.own _ hD) (none_of e13.h hD) ⟨W3.gnone hD,ys,ax,by rw[Ex];exact lr⟩;exact this
end
end Wb
namespace Wb
open PySem L2 Mi
variable{Er:Nat->Prop}
section
variable{α β γ δ:Type}{t u:TS}{te ti:TE}{g:TG}{D:Ends}{σ:St}{W W0 W':Wd}{K:CG}{i j k n:Nat}{P:St->Hp->Prop}{H:Hp}{v:V}
theorem gn{σ':St}(h:P σ' H)(hσ:σ.set i (some v)=σ':=by rfl):aM i v σ H P:=by subst hσ;exact h
theorem iK{σ':V->V->St}{R1:Rp α}{R2:Rp β}{ab:α×β}(h:isT2 K R1 R2 W.G ab v)(q:∀x y,R1 W.G ab.1 x->R2 W.G ab.2 y->P (σ' x y) W.H)(hσ:∀x y,(σ.set i<|some x).set j (some y)=σ' x y:=by intro _ _;rfl):cq K 2 (bh (aM i)<|bh (aM j) cx) v σ W.H P:=by
 obtain⟨p,x,y,h0,h,h1,h2⟩:=h;exact⟨p,_,h0,Eu W.ok h,rfl,x,_,rfl,y,_,rfl,rfl,by have:=q x y h1 h2;rw[<-hσ]at this;exact this⟩
theorem tV{σ':V->V->V->St}{R1:Rp α}{R2:Rp β}{R3:Rp γ}{ab:α×β×γ}(h:isT3 K R1 R2 R3 W.G ab v)(q:∀x y z,R1 W.G ab.1 x->R2 W.G ab.2.1 y->R3 W.G ab.2.2 z->P (σ' x y z) W.H)(hσ:∀x y z,((σ.set i<|some x).set j (some y)).set k (some z)=σ' x y z:=by intro _ _ _;rfl):cq K 3 (bh (aM i)<|bh (aM j)<|bh (aM k) cx) v σ W.H P:=by
 obtain⟨p,x,y,z,h0,h,h1,h2,h3⟩:=h;exact⟨p,_,h0,Eu W.ok h,rfl,x,_,rfl,y,_,rfl,z,_,rfl,rfl,by have:=q x y z h1 h2 h3;rw[<-hσ]at this;exact this⟩
theorem cG{σ':V->St}{R:Rw α}{m:Res α}(h:EV Er te σ W R m)(q:m.OkE Er fun a=>∀v W',Ext W W'->R W' a v->D.nx (σ' v) W'.H)(hσ:∀v,σ.set i (some v)=σ' v:=by intro _;rfl):bK te (aM i) D σ W.H:=h W (.refl _) _ (q.imp fun a k v W' e r=>by have:=k v W' e r;rw[<-hσ]at this;exact this)
theorem wF{σ':Addr->St}{R:Rp α}{m:Res (List α)}(h:EVo Er te σ W R m)(q:m.OkE Er fun a=>∀p W',Ext W W'->W.H p=none->Ow R W' p a->D.nx (σ' p) W'.H)(hσ:∀p,σ.set i (some<|.ref p)=σ' p:=by intro _;rfl):bK te (aM i) D σ W.H:=h W (.refl _) _ (q.imp fun a k p W' e hp r=>by have:=k p W' e hp r;rw[<-hσ]at this;exact this)
theorem aZ{R:Rw α}{m:Res α}(h:EV Er te σ W R m)(q:m.OkE Er fun a=>∀v W',Ext W W'->R W' a v->D.rt v W'.H):bW te D σ W.H:=h W (.refl _) _ q
theorem jd{R:Rp α}{m:Res (List α)}(h:EVo Er te σ W R m)(q:m.OkE Er fun a=>∀p W',Ext W W'->W.H p=none->Ow R W' p a->D.rt (.ref p) W'.H):bW te D σ W.H:=h W (.refl _) _ q
theorem Aj{c:TT}{m:Res Bool}(h:TV Er c σ W m)(q:m.OkE Er fun b=>∀W',Ext W W'->if b=true then t D σ W'.H else u D σ W'.H):j3 c t u D σ W.H:=h W (.refl _) _ q
theorem iL{S:Type}{c:TT}{m:Res Bool}{mA mB:Res S}{P:S->Prop}(Iv:S->Wd->St->Prop)(h:TV Er c σ W m)(q:(m.bind fun b=>if b then mA else mB).OkE Er P)
  (hA:∀W'(N:St->Hp->Prop),Ext W W'->(∀s W1 σ1,Same W.G W1.G->Iv s W1 σ1->P s->N σ1 W1.H)->mA.OkE Er P->t {D with nx:=N} σ W'.H)
  (hB:∀W'(N:St->Hp->Prop),Ext W W'->(∀s W1 σ1,Same W.G W1.G->Iv s W1 σ1->P s->N σ1 W1.H)->mB.OkE Er P->u {D with nx:=N} σ W'.H)
  (hd:∀s W1 σ1,Same W.G W1.G->Iv s W1 σ1->P s->D.nx σ1 W1.H):j3 c t u D σ W.H:=h W (.refl _) _ ((CC q).imp fun b kb W' e=>by
 cases b with
 |true=>exact hA W' D.nx e hd kb
 |false=>exact hB W' D.nx e hd kb)
theorem Ow.ne{R:Rp α}{p q:Addr}{ys:List α}(o:Ow R W q ys)(hp:W.H p=none):q≠p:=by
 obtain⟨vs,a,b⟩:=o.h;exact cn a hp
structure Mu(W W':Wd)(p:Addr):Prop where
 g:Same W.G W'.G
 e:∀W0:Wd,Ext W0 W->W0.H p=none->Ext W0 W'
 h:∀q,q≠p->W.H q≠none->W'.H q=W.H q/\W'.G q=W.G q
theorem Mu.of{W1:Wd}{p:Addr}{o:HO}(e1:Ext W W1)(hg:W1.G p=none):Mu W (W1.mut p o hg) p:=⟨e1.g,fun W0 e0 hp=>(e0.trans e1).mut hp hg,fun q hq hn=>by
 obtain⟨o',ho⟩:=Gf.mp hn;exact⟨by show cI W1.H p o q=_;rw[aD hq,e1.h _ _ ho,ho],e1.k q hn⟩⟩
theorem Mu.ow{R:Rp α}[Mono R]{p q:Addr}{ys:List α}(m:Mu W W' p)(hq:q≠p)(o:Ow R W q ys):Ow R W' q ys:=by
 obtain⟨vs,a,b⟩:=o.h;obtain⟨h1,h2⟩:=m.h q hq (by rw[a];exact fun z=>nomatch z);exact⟨by rw[h2];exact o.g,vs,by rw[h1];exact a,b.same m.g⟩
theorem gp{R:Rp α}[Mono R]{p:Addr}{xs:List α}{m:Res α}(o:Ow R W p xs)(h:EV Er te σ W (sh R) m)(q:(m.bind fun a=>dB xs a).OkE Er fun ys=>∀W',Mu W W' p->Ow R W' p ys->D.nx σ W'.H)(hi:σ[i]? =some (some<|.ref p):=by rfl):b6 (ee K "list" ay (bz i)<|ai te aL) D σ W.H:=by
 obtain⟨vs,h1,h2⟩:=o.h;refine⟨.ref p,hi,.inl ⟨rfl,vs,EB h1⟩,h W (.refl _) _<|(CC q).imp fun a ka v W2 e2 hv=>?_⟩;obtain⟨h3,h4⟩:=aW ka;have hg:=(o.mono e2).g;refine⟨p,vs,v,rfl,rfl,e2.h _ _ h1,by rw[h2.1,Dz];unfold Mi.cap at h3;omega,h4 (W2.mut p (.lst<|vs++[v]) hg) (.of e2 hg) ⟨hg,_,ax,(h2.same e2.g).snoc hv⟩⟩
theorem LR.set{R:Rp α}{H:Hp}{as:List α}{vs:List V}{a:α}{v:V}(h:LR R H as vs)(r:R H a v)(j:Nat):LR R H (as.set j a) (vs.set j v):=⟨by simp[h.1],fun i x m e1 e2=>by
 rw[Fe]at e1 e2;by_cases z:j=i
 ·rw[if_pos z]at e1 e2;split at e1
  ·split at e2;·cases e1;cases e2;exact r
   ·cases e2
  ·cases e1
 ·rw[if_neg z]at e1 e2;exact h.2 i x m e1 e2⟩
theorem lS{R:Rp α}[Mono R]{p:Addr}{xs:List α}{m:Res α}{mi:Res Int}(o:Ow R W p xs)(h:EV Er te σ W (sh R) m)(hj:EV Er ti σ W (sh isI) mi)(q:(m.bind fun a=>mi.bind fun j=>jJ xs j a).OkE Er fun ys=>∀W',Mu W W' p->Ow R W' p ys->D.nx σ W'.H)(hi:σ[i]? =some (some<|.ref p):=by rfl):bK te (A2 (bz i) ti yf) D σ W.H:=by
 obtain⟨vs,h1,h2⟩:=o.h;refine h W (.refl _) _<|(CC q).imp fun a ka v W2 e2 hv=>⟨.ref p,hi,hj W2 e2 _<|(CC ka).imp fun j kj x W3 e3 hx=>?_⟩;cases hx;obtain⟨l,h3,h4⟩:=dq<|CC kj;have e:=e2.trans e3;have hg:=(o.mono e).g;exact⟨p,vs,j,l,rfl,rfl,e.h _ _ h1,by rw[h2.1];exact h3,h4 (W3.mut p (.lst<|vs.set l v) hg) (.of e hg) ⟨hg,_,ax,(h2.same e.g).set (CB (R:=R) e3.g hv) l⟩⟩
def oj{S:Type}(W:Wd)(Iv:S->Wd->St->Prop)(P:S->Prop):St->Hp->Prop:=fun σ' H'=>∃s' W',W'.H=H'/\Same W.G W'.G/\Iv s' W' σ'/\P s'
theorem kZ{S:Type}{f:α->S->Res S}{xs:List α}{i:Nat}{a:α}{s:S}(h:xs[i]? =some a):bE f (xs.drop i) s=(f a s).bind fun s=>bE f (xs.drop<|i+1) s:=by
 obtain⟨hi,e⟩:=CO.mp h;rw[Ey hi,e];rfl
theorem lT{S:Type}{wi:TI}{tb:TS}{R:Rp α}{m:Res (List α)}{f:α->S->Res S}{s0:S}{P:S->Prop}(Iv:S->Wd->St->Prop)(hi:IV Er wi σ W R m)(q:(m.bind fun xs=>bE f xs s0).OkE Er P)
  (h0:∀W1,Ext W W1->Iv s0 W1 σ)
  (hs:∀Wb W1 W2 a v s σ1 P',Same W.G W1.G->Same Wb.G W1.G->Iv s W1 σ1->Ext W1 W2->R W2.G a v->(f a s).OkE Er P'->g v σ1 W2.H fun σ2 H2=>tb {D with nx:=oj Wb Iv P',ct:=oj Wb Iv P',bk:=D.nx} σ2 H2)
  (hd:∀s W1 σ1,Same W.G W1.G->Iv s W1 σ1->P s->D.nx σ1 W1.H):sM wi g tb D σ W.H:=by
 refine hi W (.refl _) _<|(CC q).imp fun xs kx J W1 e1 hy=>?_;refine⟨fun i n σ' H'=>n=xs.length-i/\i<=xs.length/\∃s' W',W'.H=H'/\Same W1.G W'.G/\Iv s' W' σ'/\(bE f (xs.drop i) s').OkE Er P,⟨xs.length,by simp,by simp,s0,W1,rfl,.refl _,h0 W1 e1,by simpa using kx⟩,?_⟩;rintro i n σ1 H1 ⟨rfl,hi1,s,W2,rfl,e2,iv,k⟩;by_cases hlt:i<xs.length
 ·obtain⟨a,ha⟩:∃a,xs[i]? =some a:=⟨xs[i],by simp[hlt]⟩
  obtain⟨h1,h2⟩:=(hy W2 e2).1 i a ha;refine .inr ⟨h1,oj W1 Iv fun s'=>(bE f (xs.drop<|i+1) s').OkE Er P,fun σ' H'⟨s',W',z1,z2,z3,z4⟩=>⟨xs.length-(i+1),by omega,rfl,hlt,s',W',z1,z2,z3,z4⟩,fun x H' hx=>?_⟩;obtain⟨W3,rfl,e3,rx⟩:=h2 x H' hx;rw[kZ ha]at k;exact hs W1 W2 W3 a x s σ1 (fun s'=>(bE f (xs.drop<|i+1) s').OkE Er P) (e1.g.trans e2) e2 iv e3 rx<|CC k
 ·have e:i=xs.length:=by omega
  subst e;rw[FP]at k;exact .inl ⟨(hy W2 e2).2,hd s W2 σ1 (e1.g.trans e2) iv k⟩
theorem rq{S:Type}{f:α->S->Res (Fl γ S)}{xs:List α}{i:Nat}{a:α}{s:S}(h:xs[i]? =some a):hV f (xs.drop i) s=(f a s).bind (Af<|hV f<|xs.drop<|i+1):=by
 obtain⟨hi,e⟩:=CO.mp h;rw[Ey hi,e];rfl
theorem wG{S:Type}{wi:TI}{tb:TS}{R:Rp α}{m:Res (List α)}{f:α->S->Res (Fl γ S)}{s0:S}{P:Fl γ S->Prop}(Iv:S->Wd->St->Prop)(hi:IV Er wi σ W R m)(q:(m.bind fun xs=>hV f xs s0).OkE Er P)
  (h0:∀W1,Ext W W1->Iv s0 W1 σ)
  (hs:∀Wb W1 W2 a v s σ1 P',Same W.G W1.G->Same Wb.G W1.G->Iv s W1 σ1->Ext W1 W2->R W2.G a v->(∀r,P' (.rt r)->P (.rt r))->(f a s).OkE Er P'->g v σ1 W2.H fun σ2 H2=>tb {D with nx:=oj Wb Iv fun s'=>P'<|.nx s',ct:=oj Wb Iv fun s'=>P'<|.nx s',bk:=D.nx} σ2 H2)
  (hd:∀s W1 σ1,Same W.G W1.G->Iv s W1 σ1->P (.nx s)->D.nx σ1 W1.H):sM wi g tb D σ W.H:=by
 refine hi W (.refl _) _<|(CC q).imp fun xs kx J W1 e1 hy=>?_;refine⟨fun i n σ' H'=>n=xs.length-i/\i<=xs.length/\∃s' W',W'.H=H'/\Same W1.G W'.G/\Iv s' W' σ'/\(hV f (xs.drop i) s').OkE Er P,⟨xs.length,by simp,by simp,s0,W1,rfl,.refl _,h0 W1 e1,by simpa using kx⟩,?_⟩;rintro i n σ1 H1 ⟨rfl,hi1,s,W2,rfl,e2,iv,k⟩;by_cases hlt:i<xs.length
 ·obtain⟨a,ha⟩:∃a,xs[i]? =some a:=⟨xs[i],by simp[hlt]⟩
  obtain⟨h1,h2⟩:=(hy W2 e2).1 i a ha;refine .inr ⟨h1,oj W1 Iv fun s'=>(hV f (xs.drop<|i+1) s').OkE Er P,fun σ' H'⟨s',W',z1,z2,z3,z4⟩=>⟨xs.length-(i+1),by omega,rfl,hlt,s',W',z1,z2,z3,z4⟩,fun x H' hx=>?_⟩;obtain⟨W3,rfl,e3,rx⟩:=h2 x H' hx;rw[rq ha]at k;exact hs W1 W2 W3 a x s σ1 (fun fl=>match fl with| .nx s'=>(hV f (xs.drop<|i+1) s').OkE Er P| .bk s'=>P (.nx s')| .rt r=>P<|.rt r) (e1.g.trans e2) e2 iv e3 rx (fun r h=>h) ((CC k).imp fun fl h=>by cases fl<;>exact h)
 ·have e:i=xs.length:=by omega
  subst e;rw[FP]at k;exact .inl ⟨(hy W2 e2).2,hd s W2 σ1 (e1.g.trans e2) iv k⟩
section
variable{r:TS}
theorem ak{σ':V->St}{R:Rw α}{m:Res α}(h:EV Er te σ W R m)(q:m.OkE Er fun a=>∀v W',Ext W W'->R W' a v->r D (σ' v) W'.H)(hσ:∀v,σ.set i (some v)=σ' v:=by intro _;rfl):eQ (bK te<|aM i) r D σ W.H:=cG (D:={D with nx:=r D}) h q hσ
theorem cS{σ':Addr->St}{R:Rp α}{m:Res (List α)}(h:EVo Er te σ W R m)(q:m.OkE Er fun a=>∀p W',Ext W W'->W.H p=none->Ow R W' p a->r D (σ' p) W'.H)(hσ:∀p,σ.set i (some<|.ref p)=σ' p:=by intro _;rfl):eQ (bK te<|aM i) r D σ W.H:=wF (D:={D with nx:=r D}) h q hσ
theorem dQ{R:Rw α}{m:Res α}(h:EV Er te σ W R m)(q:m.OkE Er fun a=>∀v W',Ext W W'->R W' a v->g v σ W'.H (r D)):eQ (bK te g) r D σ W.H:=h W (.refl _) _ q
theorem eD{c:TT}{m:Res Bool}(h:TV Er c σ W m)(q:m.OkE Er fun b=>∀W',Ext W W'->if b=true then t {D with nx:=r D} σ W'.H else u {D with nx:=r D} σ W'.H):eQ (j3 c t u) r D σ W.H:=h W (.refl _) _ q
theorem bI{S:Type}{c:TT}{m:Res Bool}{mA mB:Res S}{P:S->Prop}(Iv:S->Wd->St->Prop)(h:TV Er c σ W m)(q:(m.bind fun b=>if b then mA else mB).OkE Er P)
  (hA:∀W'(N:St->Hp->Prop),Ext W W'->(∀s W1 σ1,Same W.G W1.G->Iv s W1 σ1->P s->N σ1 W1.H)->mA.OkE Er P->t {D with nx:=N} σ W'.H)
  (hB:∀W'(N:St->Hp->Prop),Ext W W'->(∀s W1 σ1,Same W.G W1.G->Iv s W1 σ1->P s->N σ1 W1.H)->mB.OkE Er P->u {D with nx:=N} σ W'.H)
  (hd:∀s W1 σ1,Same W.G W1.G->Iv s W1 σ1->P s->r D σ1 W1.H):eQ (j3 c t u) r D σ W.H:=iL (D:={D with nx:=r D}) Iv h q hA hB hd
theorem nc{R:Rp α}[Mono R]{p:Addr}{xs:List α}{m:Res α}(o:Ow R W p xs)(h:EV Er te σ W (sh R) m)(q:(m.bind fun a=>dB xs a).OkE Er fun ys=>∀W',Mu W W' p->Ow R W' p ys->r D σ W'.H)(hi:σ[i]? =some (some<|.ref p):=by rfl):eQ (b6<|ee K "list" ay (bz i)<|ai te aL) r D σ W.H:=gp (D:={D with nx:=r D}) o h q hi
theorem cN{S:Type}{wi:TI}{tb:TS}{R:Rp α}{m:Res (List α)}{f:α->S->Res S}{s0:S}{P:S->Prop}(Iv:S->Wd->St->Prop)(hi:IV Er wi σ W R m)(q:(m.bind fun xs=>bE f xs s0).OkE Er P)
  (h0:∀W1,Ext W W1->Iv s0 W1 σ)
  (hs:∀Wb W1 W2 a v s σ1 P',Same W.G W1.G->Same Wb.G W1.G->Iv s W1 σ1->Ext W1 W2->R W2.G a v->(f a s).OkE Er P'->g v σ1 W2.H fun σ2 H2=>tb {D with nx:=oj Wb Iv P',ct:=oj Wb Iv P',bk:=r D} σ2 H2)
  (hd:∀s W1 σ1,Same W.G W1.G->Iv s W1 σ1->P s->r D σ1 W1.H):eQ (sM wi g tb) r D σ W.H:=lT (D:={D with nx:=r D}) Iv hi q h0 hs hd
theorem l0{S:Type}{wi:TI}{tb:TS}{R:Rp α}{m:Res (List α)}{f:α->S->Res (Fl γ S)}{s0:S}{P:Fl γ S->Prop}(Iv:S->Wd->St->Prop)(hi:IV Er wi σ W R m)(q:(m.bind fun xs=>hV f xs s0).OkE Er P)
  (h0:∀W1,Ext W W1->Iv s0 W1 σ)
  (hs:∀Wb W1 W2 a v s σ1 P',Same W.G W1.G->Same Wb.G W1.G->Iv s W1 σ1->Ext W1 W2->R W2.G a v->(∀r,P' (.rt r)->P (.rt r))->(f a s).OkE Er P'->g v σ1 W2.H fun σ2 H2=>tb {D with nx:=oj Wb Iv fun s'=>P'<|.nx s',ct:=oj Wb Iv fun s'=>P'<|.nx s',bk:=r D} σ2 H2)
  (hd:∀s W1 σ1,Same W.G W1.G->Iv s W1 σ1->P (.nx s)->r D σ1 W1.H):eQ (sM wi g tb) r D σ W.H:=wG (D:={D with nx:=r D}) Iv hi q h0 hs hd
end
theorem cH{S:Type}{Wb W:Wd}{Iv:S->Wd->St->Prop}{P:S->Prop}(s:S)(hs:Same Wb.G W.G)(iv:Iv s W σ)(hq:P s):oj Wb Iv P σ W.H:=⟨s,W,rfl,hs,iv,hq⟩
end
end Wb
namespace L2
open PySem PySem.Spec PyProof.Rows
section
variable{X:Cx}{K:CG}{w:Di}
theorem ng{ns:List Bool}:∀{us:List CI},Vals (ns.map MQ) us->LSm.BoolsAre us ns:=by
 induction ns with
 |nil=>intro us r;cases r;exact .nil
 |cons b r ih=>intro us h;cases h with|cons h1 h2=>cases h1;exact .cons b<|ih h2
theorem rA(hc:X.calm=true)(hK:X.K=K):dn X (.builtin "all") (fun xs H Q=>∃(p:Addr)(bs:List Bool),xs=[.ref p]/\SqL K H p (bs.map MQ)/\Q (.bl<|bs.all id) H):=by
 subst hK;intro pins s σ H xs us Q I r h;obtain⟨p,bs,rfl,hq,q⟩:=h;obtain⟨u,rfl,rx⟩:=dY r;cases rx;obtain⟨its,r',pl,hz⟩:=I.list hq;have hb:=ng r';have hl:=pl.isList;have hlt:p<s.heap.objs.size:=by obtain⟨_,e,_⟩:=hl;exact CV e
 refine call_all_walk<|Ia hl ?_;refine⟨s.heap.objs.size,[s.heap.objs.size,p],[s.heap.objs.size],its.toArray.size,_,_,fun i=>(bs[i]?).getD true,rfl,Walks.list (A:=X.A.in1) (I.ok.hd hc) _ p (D8 hlt) its.toArray,
  ⟨⟨_,CU _ rfl,rfl,rfl⟩,hl.push _⟩,fun i v s' Q' E' hP hQ=>?_,fun h' tk hk=>?_⟩
 ·obtain⟨b,e,rfl⟩:=hb.get i v (by simpa using hP);simp only[e,Hb]at hQ;exact FD hQ
 ·have e:((DY its.toArray.size).all fun i=>(bs[i]?).getD true)=bs.all id:=by
   rw[D7,hb.length];exact LSm.range_all bs
  rw[e];exact⟨.bl _,H,I.kept<|LSm.kept_iter hk,rfl,q⟩
end
end L2
namespace Wb
open PySem L2 Mi
variable{Er:Nat->Prop}
section
variable{α β γ δ:Type}{t ta tb tc:TE}{σ:St}{W W0 W':Wd}{K:CG}{w:Di}
theorem wH{a n r:Int}(hc:0<=n/\n<=1000000/\a.natAbs<2^64)(hr:a^n.toNat=r):EV Er (cW (rI A5 fun i j=>.int<|i^j.toNat) (tC<|.int a)<|tC<|.int n) σ W (sh isI) (.ok r):=fun W1 e1 Q k=>⟨a,n,rfl,rfl,hc,by show Q (.int<|a^n.toNat) W1.H;rw[hr];exact k _ W1 (.refl _) rfl⟩
def isScr(K:CG):Rp (List Int):=fun H ns v=>∃a,v=.ref a/\SqL K H a (ns.map FT)
instance zkeep17:Mono (isScr K):=⟨fun e⟨a,h1,h2⟩=>⟨a,h1,e.seq h2⟩⟩
theorem l4{ma:Res (List Int)}(ha:EV Er ta σ W (sh<|isScr K) ma):EV Er (dZ (fun xs H Q=>∃x n,xs=[x]/\qV K x H n/\Q (.int n) H)<|ai ta aL) σ W (sh isI) (ma.bind fun a=>.ok (a.length:Int)):=fun W1 e1 Q k=>
 ha W1 e1 _ ((CC k).imp fun a ka x W2 e2 hx=>by
  obtain⟨p,rfl,h1⟩:=hx;exact⟨_,a.length,rfl,.inl ⟨_,W2.ok.seq h1,by simp⟩,ka _ W2 e2 rfl⟩)
theorem tW{ma:Res (List Int)}{mb:Res Int}(ha:EV Er ta σ W (sh<|isScr K) ma)(hb:EV Er tb σ W (sh isI) mb):EV Er (cW (bZ K) ta tb) σ W (sh isI) (ma.bind fun a=>mb.bind fun b=>fj a b):=
 oK ha hb fun W a b x y Q hx hy k=>by
  cases hy;obtain⟨p,rfl,h1⟩:=hx;obtain⟨c,h4,h5⟩:=dq k;have lr:LR isI W.G a (a.map FT):=⟨by simp,fun i v m e1 e2=>by rw[CS,e2]at e1;cases e1;rfl⟩
  obtain⟨z,h6,h7⟩:=qe lr h4;exact⟨p,_,b,z,rfl,rfl,W.ok.seq h1,h6,h5 _ W (.refl _) h7⟩
theorem qf{ma:Res Bool}(ha:EV Er ta σ W (sh isB) ma):EV Er (dZ (fun xs H Q=>(∃i,xs=[.int i]/\Q (.int i) H)\/∃k,xs=[.bl k]/\Q (.int (if k then 1 else 0)) H)<|ai ta aL) σ W (sh isI) (ma.bind fun a=>.ok (if a then(1:Int)else 0)):=fun W1 e1 Q k=>
 ha W1 e1 _ ((CC k).imp fun a ka x W2 e2 hx=>by cases hx;exact .inr ⟨a,rfl,ka _ W2 e2 rfl⟩)
theorem jP{R:Rp α}{W1 W2:Wd}{xs:List α}{vs:List V}{Q:VK}(h:LR R W2.G xs vs)(e:Ext W1 W2)(k:∀p W2,Ext W1 W2->W1.H p=none->Ow R W2 p xs->Q (.ref p) W2.H)(r:Addr)(hr:W2.H r=none):Q (.ref r) (cI W2.H r<|.lst vs):=
 k r (W2.mut r (.lst vs)<|W2.gnone hr) (e.trans<|.own _ hr) (none_of e.h hr) ⟨W2.gnone hr,vs,ax,h⟩
theorem jQ{R:Rp α}{ma:Res (List α)}(ha:EV Er ta σ W (pk R) ma):EVo Er (dZ (fun xs H Q=>∃p ys,xs=[.ref p]/\(SqL K H p ys\/SqT K H p ys)/\∀l,H l=none->Q (.ref l) (cI H l<|.lst ys))<|ai ta aL) σ W R ma:=fun W1 e1 Q k=>
 ha W1 e1 _ (k.imp fun a ka x W2 e2 hx=>by
  obtain⟨p,vs,rfl,h1,h2⟩:=hx;exact⟨p,vs,rfl,.inl (EB h1),fun l hl=>jP h2 e2 ka l hl⟩)
theorem LR.ints{H:Hp}{ns:List Int}{vs:List V}(h:LR isI H ns vs):vs=ns.map FT:=by
 refine El fun i=>?_;rw[CS];cases e:ns[i]? with
 |none=>rw[DJ]at e;rw[DJ.mpr (by rw[h.1];exact e)];rfl
 |some m=>obtain⟨v,a,b⟩:=h.get e;rw[a];cases b;rfl
theorem LR.bools{H:Hp}{ns:List Bool}{vs:List V}(h:LR isB H ns vs):vs=ns.map MQ:=by
 refine El fun i=>?_;rw[CS];cases e:ns[i]? with
 |none=>rw[DJ]at e;rw[DJ.mpr (by rw[h.1];exact e)];rfl
 |some m=>obtain⟨v,a,b⟩:=h.get e;rw[a];cases b;rfl
theorem z7{ma:Res (List Int)}(ha:EV Er ta σ W (pk isI) ma):EV Er (dZ (fun xs H Q=>∃(p:Addr)(ns:List Int),xs=[.ref p]/\SqL K H p (ns.map FT)/\Q (.int ns.sum) H)<|ai ta aL) σ W (sh isI) (ma.bind fun a=>.ok a.sum):=fun W1 e1 Q k=>
 ha W1 e1 _ ((CC k).imp fun a ka x W2 e2 hx=>by
  obtain⟨p,vs,rfl,h1,h2⟩:=hx;exact⟨p,a,rfl,EB (by rw[h1,h2.ints]),ka _ W2 e2 rfl⟩)
theorem z8{ma:Res (List Bool)}(ha:EV Er ta σ W (pk isB) ma):EV Er (dZ (fun xs H Q=>∃(p:Addr)(bs:List Bool),xs=[.ref p]/\SqL K H p (bs.map MQ)/\Q (.bl<|bs.all id) H)<|ai ta aL) σ W (sh isB) (ma.bind fun a=>.ok<|a.all id):=fun W1 e1 Q k=>
 ha W1 e1 _ ((CC k).imp fun a ka x W2 e2 hx=>by
  obtain⟨p,vs,rfl,h1,h2⟩:=hx;exact⟨p,a,rfl,EB (by rw[h1,h2.bools]),ka _ W2 e2 rfl⟩)
theorem tX{f:α->V}{g:β->Key}[DecidableEq β](hg:∀a b,g a=g b->a=b)(kvs:List (β×α))(k:β):gS (kvs.map fun p=>(g p.1,f p.2)) (g k)=(look kvs k).map f:=by
 induction kvs with
 |nil=>rfl
 |cons p r ih=>
  unfold look at ih ⊢;rw[DR];by_cases z:p.1=k;·rw[gb (by rw[z]),List.find?_cons_of_pos (by simpa using z)];rfl
  ·rw[gc<|fun e=>z<|hg _ _ e,ih,List.find?_cons_of_neg (by simpa using z)]
theorem qg{R:Rp α}{Rk:Rp β}[DecidableEq β]{d:Addr}{kv:List (Key×V)}{kvs:List (β×α)}{f:α->V}{g:β->Key}(hg:∀a b,g a=g b->a=b)(hf:∀H a,R H a<|f a)(hk:∀H b v,Rk H b v->v=kV (g b))(D:DictK K w d kv)(e:kv=kvs.map fun p=>(g p.1,f p.2)){m:Res β}(h:EV Er t σ W (sh Rk) m):
  EV Er (aO K w (tC<|.ref d) t) σ W (sh R) (m.bind fun k=>getD kvs k):=fun W1 e1 Q k=>
 h W1 e1 _ ((CC k).imp fun b kb v W2 e2 hv=>by
  obtain⟨a,h1,h2⟩:=dq kb;refine⟨d,kv,g b,f a,rfl,D,hk _ _ _ hv,?_,h2 _ W2 e2 (hf _ _)⟩;rw[e,tX hg,h1];rfl)
theorem BB:∀a b:Tx,(FI (aP a):Key)=FI (aP b)->a=b:=fun a b e=>pY<|Md e
theorem BC:∀a b:Int,(FH a:Key)=FH b->a=b:=fun a b e=>Mc e
theorem rB{d:Addr}{kv:List (Key×V)}{kvs:List (Tx×Int)}(D:DictK K w d kv)(e:kv=kvs.map fun p=>(FI<|aP p.1,FT p.2)){m:Res Tx}(h:EV Er t σ W (sh isS) m):EV Er (aO K w (tC<|.ref d) t) σ W (sh isI) (m.bind fun k=>getD kvs k):=qg (R:=isI) (f:=FT) (g:=fun a=>FI<|aP a) BB (fun _ _=>rfl) (fun _ _ _ h=>h) D e h
theorem rC{d:Addr}{kv:List (Key×V)}{kvs:List (Int×Tx)}(D:DictK K w d kv)(e:kv=kvs.map fun p=>(FH p.1,Hv<|aP p.2)){m:Res Int}(h:EV Er t σ W (sh isI) m):EV Er (aO K w (tC<|.ref d) t) σ W (sh isS) (m.bind fun k=>getD kvs k):=qg (R:=isS) (f:=fun a=>Hv<|aP a) (g:=fun a=>FH a) BC (fun _ _=>rfl) (fun _ _ _ h=>h) D e h
theorem jR{ma:Res Int}{mb:Res (List Int)}(ha:EV Er ta σ W (sh isI) ma)(hb:EV Er tb σ W (pk isI) mb):EV Er (cW (fR K true) ta tb) σ W (sh isB) (ma.bind fun a=>mb.bind fun b=>.ok<|!b.contains a):=
 oK ha hb fun W a b x y Q hx hy k=>by
  cases hx;obtain⟨p,vs,rfl,h1,h2⟩:=hy;refine⟨p,vs,rfl,.inl<|EB h1,rfl,by rw[h2.ints];simp[L2.flatV],?_⟩;have e:AN (.int a) vs=b.contains a:=by
   rw[h2.ints];unfold AN;rw[List.any_map,FA];simp[L2.eqV]
   try exact⟨fun⟨x,h,e⟩=>by subst e;exact h,fun h=>⟨a,h,rfl⟩⟩
  rw[if_pos rfl,e];exact k _ W (.refl _) rfl
theorem tY{R:Rp α}[Mono R]{ma:Res (List α)}(ha:EV Er ta σ W (pk R) ma):EV Er (dZ (fun xs H Q=>∃p ys,xs=[.ref p]/\((SqL K H p ys/\∀l,H l=none->Q (.ref l) (cI H l<|.tup ys))\/(SqT K H p ys/\Q (.ref p) H)))<|ai ta aL) σ W (sh<|isT3 K R R R) (ma.bind fun a=>yX a):=fun W1 e1 Q k=>
 ha W1 e1 _ ((CC k).imp fun a ka x W2 e2 hx=>by
  obtain⟨p,vs,rfl,h1,h2⟩:=hx
  match a,ka,h2 with
  | [a,b,c],ka,h2=>
   match vs,h2.1,h2,h1 with
   | [x,y,z],_,h2,h1=>
    refine⟨p,_,rfl,.inl ⟨EB h1,fun l hl=>ka (.ref l) (W2.new l<|.tup [x,y,z]) (e2.trans<|.new _ hl) ⟨l,x,y,z,rfl,JZ ax,?_,?_,?_⟩⟩⟩;·exact CB (Hi _ hl).g (h2.2 0 x a rfl rfl)
    ·exact CB (Hi _ hl).g (h2.2 1 y b rfl rfl)
    ·exact CB (Hi _ hl).g (h2.2 2 z c rfl rfl))
def EqK(K:CG)(H:Hp):Nat->V->V->Prop
  |0,v,u=>v=u/\flat v=true
  |n+1,v,u=>(v=u/\flat v=true)\/ ∃p q xs ys,v= .ref p/\u= .ref q/\((H p=some (.lst xs)/\H q=some (.lst ys))\/(SqT K H p xs/\SqT K H q ys))/\xs.length=ys.length/\
      ∀(i:Nat)(x y:V),xs[i]? =some x->ys[i]? =some y->EqK K H n x y
theorem EqK.same{H H':Hp}(e:Same H H'):∀{n:Nat}{v u:V},EqK K H n v u->EqK K H' n v u
 |0,_,_,h=>h
 |n+1,_,_,h=>by
  rcases h with h|⟨p,q,xs,ys,h1,h2,h3,h4,h5⟩
  ·exact .inl h
  ·refine .inr ⟨p,q,xs,ys,h1,h2,?_,h4,fun i x y e1 e2=>EqK.same e<|h5 i x y e1 e2⟩;rcases h3 with⟨a,b⟩|⟨a,b⟩
   ·exact .inl ⟨e _ _ a,e _ _ b⟩
   ·exact .inr ⟨Eu e a,Eu e b⟩
theorem EqK.flat{H:Hp}{n:Nat}{v:V}(h:L2.flat v=true):EqK K H n v v:=by cases n with|zero=>exact⟨rfl,h⟩|succ n=>exact .inl ⟨rfl,h⟩
class EqR(K:CG){α:Type}(R:Rp α)(n:outParam Nat):Prop where
 eq:∀H a v u m,n<=m->R H a v->R H a u->EqK K H m v u
instance zkeep18:EqR K isI 0:=⟨fun H a v u m _ h1 h2=>by cases h1;cases h2;exact .flat rfl⟩
instance zkeep19:EqR K isS 0:=⟨fun H a v u m _ h1 h2=>by cases h1;cases h2;exact .flat rfl⟩
instance zkeep22{R:Rp α}{n:Nat}[EqR K R n]:EqR K (isO R) n:=⟨fun H a v u m hm h1 h2=>by
 cases a with
 |none=>cases h1;cases h2;exact .flat rfl
 |some a=>exact EqR.eq H a v u m hm h1.1 h2.1⟩
instance zkeep23{R:Rp α}{n:Nat}[EqR K R n]:EqR K (isL R) (n+1):=⟨fun H a v u m hm⟨p,vs,h1,h2,h3⟩⟨q,us,g1,g2,g3⟩=>by
 cases m with
 |zero=>omega
 |succ m=>
  refine .inr ⟨p,q,vs,us,h1,g1,.inl ⟨h2,g2⟩,by rw[h3.1,g3.1],fun i x y e1 e2=>?_⟩;obtain⟨b,hb,rb⟩:=h3.got e1;exact EqR.eq H b x y m (by omega) rb (g3.2 i y b e2 hb)⟩
instance zkeep24{R1:Rp α}{R2:Rp β}{n k:Nat}[EqR K R1 n][EqR K R2 k]:EqR K (isT2 K R1 R2) (max n k+1):=⟨fun H a v u m hm⟨p,x,y,h0,h,h1,h2⟩⟨q,x',y',g0,g,g1,g2⟩=>by
 cases m with
 |zero=>omega
 |succ m=>
  refine .inr ⟨p,q,_,_,h0,g0,.inr ⟨h,g⟩,rfl,fun i z z' e1 e2=>?_⟩
  match i,e1,e2 with
  |0,e1,e2=>cases e1;cases e2;exact EqR.eq H _ _ _ m (by omega) h1 g1
  |1,e1,e2=>cases e1;cases e2;exact EqR.eq H _ _ _ m (by omega) h2 g2⟩
instance zkeep25{R1:Rp α}{R2:Rp β}{R3:Rp γ}{n k l:Nat}[EqR K R1 n][EqR K R2 k][EqR K R3 l]:EqR K (isT3 K R1 R2 R3) (max n (max k l)+1):=⟨fun H a v u m hm⟨p,x,y,z,h0,h,h1,h2,h3⟩⟨q,x',y',z',g0,g,g1,g2,g3⟩=>by
 cases m with
 |zero=>omega
 |succ m=>
  refine .inr ⟨p,q,_,_,h0,g0,.inr ⟨h,g⟩,rfl,fun i w w' e1 e2=>?_⟩
  match i,e1,e2 with
  |0,e1,e2=>cases e1;cases e2;exact EqR.eq H _ _ _ m (by omega) h1 g1
  |1,e1,e2=>cases e1;cases e2;exact EqR.eq H _ _ _ m (by omega) h2 g2
  |2,e1,e2=>cases e1;cases e2;exact EqR.eq H _ _ _ m (by omega) h3 g3⟩
end
end Wb
namespace L2
open PySem PySem.Spec PyProof.Rows
section
variable{X:Cx}{K:CG}{w:Di}{o e:Expr}{to:TE}{t:TA}{apos cpos:Pos}
def Ak(K:CG):V->List V->Hp->VK->Prop:=fun x xs H Q=>∃(p:Addr)(ys:List (List Nat)),x=.str (aP [])/\xs=[.ref p]/\SqL K H p (ys.map fun y=>Hv<|aP y)/\ys.flatten.length<=100000/\Q (.str<|aP ys.flatten) H
def Al:V->List V->Hp->VK->Prop:=fun x xs H Q=>∃a b,x=.str a/\xs=[.str b]/\0<=HI a b/\Q (.int<|HI a b) H
abbrev BD(X:Cx)(cpos:Pos)(e:Expr):Prop:=((backTo cpos<|starEach [e] X.env).all (fun x=> !x.1)&&(backToKw cpos<|keywordEach [] X.env).all (fun x=>x.1.isSome)&&decide ([e].length+([]:List IQ).length+(if([]:List IQ).isEmpty then 0 else 1)<30))=true
theorem jS(h:X.K=K):dn X (.type "tuple") (fun xs H Q=>∃p ys,xs=[.ref p]/\((SqL K H p ys/\∀l,H l=none->Q (.ref l) (cI H l<|.tup ys))\/(SqT K H p ys/\Q (.ref p) H))):=h▸kK
theorem jT(h:X.K=K)(ho:PE X o to)(ha:PA X [e] t)(hbase:attributeBase o "join" X.env (eval o X.env)=eval o X.env:=by rfl)(hfew:BD X cpos e:=by rfl)(hline:(apos.endLine==cpos.line)=true:=by rfl)(hs:starEach [e] X.env=(false,eval e X.env)::starEach [] X.env:=by rfl)(hplain:(backTo cpos<|starEach [] X.env).any (·.1)=false:=by rfl):
  PE X (.Call (.Attribute o "join" apos) [e] [] cpos) (ee K "str" (Ak K) to t):=oJ (K:=K) h IW PySem.F.slot_str_join PySem.F.type_str_join (tu (K:=K) h) ho ha hbase hfew hline hs hplain
theorem fq(h:X.K=K)(hc:X.calm=true)(ho:PE X o to)(ha:PA X [e] t)(hbase:attributeBase o "index" X.env (eval o X.env)=eval o X.env:=by rfl)(hfew:BD X cpos e:=by rfl)(hline:(apos.endLine==cpos.line)=true:=by rfl)(hs:starEach [e] X.env=(false,eval e X.env)::starEach [] X.env:=by rfl)(hplain:(backTo cpos<|starEach [] X.env).any (·.1)=false:=by rfl):
  PE X (.Call (.Attribute o "index" apos) [e] [] cpos) (ee K "str" Al to t):=oJ (K:=K) h IW PySem.F.slot_str_index PySem.F.type_str_index (sV hc) ho ha hbase hfew hline hs hplain
theorem bG(h:X.K=K)(ho:PE X o to)(ha:PA X [e] t)(hbase:attributeBase o "append" X.env (eval o X.env)=eval o X.env:=by rfl)(hfew:BD X cpos e:=by rfl)(hline:(apos.endLine==cpos.line)=true:=by rfl)(hs:starEach [e] X.env=(false,eval e X.env)::starEach [] X.env:=by rfl)(hplain:(backTo cpos<|starEach [] X.env).any (·.1)=false:=by rfl):
  PE X (.Call (.Attribute o "append" apos) [e] [] cpos) (ee K "list" ay to t):=oJ (K:=K) h PySem.F.plainAttrs_list Jb PySem.F.type_list_append r0 ho ha hbase hfew hline hs hplain
end
end L2
namespace Wb
open PySem L2 Mi
variable{Er:Nat->Prop}
section
variable{α β γ δ:Type}{t t1 t2 t3 ta tb tc:TE}{σ:St}{W W0 W':Wd}{K:CG}{w:Di}
class NN{α:Type}(R:Rp α):Prop where
 nn:∀H a v,R H a v->v≠.non
instance zkeep26:NN isI:=⟨fun _ _ _ h=>by cases h;exact fun z=>nomatch z⟩
instance zkeep27:NN isS:=⟨fun _ _ _ h=>by cases h;exact fun z=>nomatch z⟩
theorem jU{R:Rp α}[NN R]{m:Res α}(h:EV Er t σ W (sh R) m):EV Er t σ W (sh<|isO R) (m.bind fun a=>.ok<|some a):=fun W1 e1 Q k=>
 h W1 e1 _ ((CC k).imp fun a ka v W2 e2 hv=>ka v W2 e2 ⟨hv,NN.nn _ _ _ hv⟩)
theorem iM{R:Rp α}{m:Res (Option α)}(h:EV Er t σ W (sh<|isO R) m):EV Er t σ W (sh R) (m.bind fun a=>jG a):=fun W1 e1 Q k=>
 h W1 e1 _ ((CC k).imp fun a ka v W2 e2 hv=>by
  obtain⟨b,rfl,hb⟩:=dq ka;exact hb v W2 e2 hv.1)
theorem tZ{ma:Res (List Int)}(ha:EV Er ta σ W (pk isI) ma):EVo Er (dZ (fun xs H Q=>∃(p:Addr)(ns:List Int),xs=[.ref p]/\SqL K H p (ns.map FT)/\ns.length<64/\∀(q:Addr)(ns':List Int),H q=none->ns'.Perm ns->ns'.Pairwise (· <= ·)->Q (.ref q) (cI H q<|.lst<|ns'.map FT))<|ai ta aL) σ W isI (ma.bind fun a=>tH a):=fun W1 e1 Q k=>
 ha W1 e1 _ ((CC k).imp fun a ka x W2 e2 hx=>by
  obtain⟨p,vs,rfl,h1,h2⟩:=hx;obtain⟨h3,h4⟩:=aW ka;refine⟨p,a,rfl,EB (by rw[h1,h2.ints]),h3,fun q ns' hq hp hs=>?_⟩;rw[rn hp hs];exact jP (vs:=(iF a).map FT) ⟨by simp,fun i v m e1 e2=>by rw[CS,e2]at e1;cases e1;rfl⟩ e2 h4 q hq)
theorem hZ{R1:Rp α}{R2:Rp β}{d:Addr}{x y:V}{a:α}{b:β}(T:∀H,SqT K H d [x,y])(h1:∀H,R1 H a x)(h2:∀H,R2 H b y):EV Er (tC<|.ref d) σ W (sh<|isT2 K R1 R2) (.ok (a,b)):=fun W1 _ Q k=>k _ W1 (.refl _) ⟨d,x,y,rfl,T _,h1 _,h2 _⟩
theorem gI(i:Int):∀H,isI H i (.int i):=fun _=>rfl
end
end Wb
namespace Mi
theorem i3{a b:Int}(h:0<b):kL a b=.ok (a%b):=bw h
theorem nh{a b:Int}(h1:0<b)(h2:b<1073741824):jI a b=.ok (a/b):=bw ⟨h1,h2⟩
theorem ni{a b:Int}(h1: -18446744073709551616<a)(h2:a<18446744073709551616):jH a b=.ok (a*b):=bw<|.inl ⟨h1,h2⟩
theorem nj{a b:Int}(h1: -18446744073709551616<b)(h2:b<18446744073709551616):jH a b=.ok (a*b):=bw<|.inr ⟨h1,h2⟩
theorem dt{α:Type}{xs:List α}{x:α}(h:xs.length<100000):dB xs x=.ok (xs++[x]):=bw h
theorem je{a b:Tx}(h:a.length+b.length<=100000):j6 a b=.ok (a++b):=bw h
theorem wI{c:Nat}{n:Int}(h0:0<=n)(h1:n<=100000):yW [c] n=.ok (F9 n.toNat c):=bw ⟨h0,h1⟩
theorem qh{a:Tx}{lo hi:Option Int}(h:a.length<=100000):rm a lo hi=.ok (cut a lo hi):=bw h
theorem nk{xs:List Tx}(h:xs.flatten.length<=100000):mZ xs=.ok xs.flatten:=bw h
theorem rD{n:Nat}(h:n<=100000):gf (n:Int)=.ok ((DY n).map fun(i:Nat)=>(i:Int)):=by
 unfold gf;rw[bw ⟨by omega,by omega⟩];simp[ff]
theorem jf{α:Type}{xs:List α}{i:Int}(h0:0<=i)(h1:i<xs.length):∃x,fj xs i=.ok x/\xs[i.toNat]? =some x:=by
 obtain⟨h,e⟩:=tF h0 h1;exact⟨xs[i.toNat],by unfold fj;rw[e];rfl,by simp[h]⟩
theorem gE{x:Tx}{i:Int}(h0:0<=i)(h1:i<x.length)(h2:x.length<=100000):∃c,fe x i=.ok [c]/\x[i.toNat]? =some c:=by
 obtain⟨h,e⟩:=tF h0 h1;refine⟨x[i.toNat],?_,by simp[h]⟩;unfold fe;rw[bw h2];show(jG<|q0 x i).bind _=_;rw[e];rfl
theorem z9{x:Tx}{i:Int}(h0:0<=i)(h1:i<x.length)(h2:x.length<=100000):fe x i=.ok [x[i.toNat]?.getD 0]:=by
 obtain⟨c,e,h⟩:=gE h0 h1 h2;rw[e,h];rfl
theorem wJ{α:Type}{xs:List α}{i:Int}{x:α}(h0:0<=i)(h1:i<xs.length):jJ xs i x=.ok (xs.set i.toNat x):=by
 unfold jJ ixN;rw[if_pos h0,if_pos h1];rfl
theorem oP{α:Type}[DecidableEq α]{a b:α}(h:a=b):zL a b=.ok true:=if_pos h
theorem u0{xs:List Int}(h:xs.length<64):tH xs=.ok (iF xs):=bw h
theorem cY{α S:Type}{f:α->S->Res S}(I:List α->S->Prop)(xs:List α)(s0:S)(h0:I [] s0)(step:∀pre a post s,xs=pre++a::post->I pre s->∃s',f a s=.ok s'/\I (pre++[a]) s'):
  ∃s,bE f xs s0=.ok s/\I xs s:=by
 have key:∀(post pre:List α)(s:S),xs=pre++post->I pre s->∃s',bE f post s=.ok s'/\I xs s':=by
  intro post
  induction post with
  |nil=>intro pre s e h;rw[Ex]at e;subst e;exact⟨s,rfl,h⟩
  |cons a r ih=>
   intro pre s e h;obtain⟨s1,e1,h1⟩:=step pre a r s e h;obtain⟨s2,e2,h2⟩:=ih (pre++[a]) s1 (by rw[e];simp) h1;exact⟨s2,by unfold bE;rw[e1];exact e2,h2⟩
 exact key xs [] s0 rfl h0
theorem nq{α β:Type}{f:α->Res (Option β)}{g:α->Option β}:∀{xs:List α},(∀x∈xs,f x=.ok (g x))->gZ f xs=.ok (xs.filterMap g)
 | [],_=>rfl
 |a::r,h=>by
  unfold gZ;rw[h a<|Dc ..,CF,nq fun x hx=>h x<|Df _ hx,CF,FJ];cases g a<;>rfl
theorem u4{α β:Type}{f:α->Res (Option β)}{g:α->Option β}{xs:List α}(hl:xs.length<=100000)(h:∀x∈xs,f x=.ok (g x)):qa xs f=.ok (xs.filterMap g):=by
 unfold qa;rw[bw hl,CF,nq h]
theorem u5{α β:Type}{f:α->Res β}{P:α->β->Prop}{xs:List α}(hl:xs.length<=100000)(h:∀x∈xs,∃y,f x=.ok y/\P x y):∃ys,eg xs f=.ok ys/\ys.length=xs.length/\∀(i:Nat)x y,xs[i]? =some x->ys[i]? =some y->P x y:=by
 unfold eg;rw[bw hl,CF];clear hl
 induction xs with
 |nil=>exact⟨[],rfl,rfl,fun i x y e=>by simp at e⟩
 |cons a r ih=>
  obtain⟨b,e,hb⟩:=h a<|Dc ..;obtain⟨bs,e2,hl2,h2⟩:=ih fun x hx=>h x<|Df _ hx;refine⟨b::bs,by unfold j8;rw[e,CF,e2];rfl,by simp[hl2],fun i x y e3 e4=>?_⟩;cases i with
  |zero=>cases e3;cases e4;exact hb
  |succ j=>exact h2 j x y e3 e4
theorem qi(l:List Nat):((l.map fun c=>[c]):List Tx).flatten=l:=by induction l with|nil=>rfl|cons a r ih=>simp[ih]
theorem nr{α:Type}(l:List α)(k:Nat):cut l none (some (k:Int))=l.take k:=by
 unfold cut sIx;simp only[];rw[if_neg (by omega),Ea];simp[List.take_eq_take_iff]
theorem u6{α:Type}(l:List α)(k:Nat):cut l (some (k:Int)) none=l.drop k:=by
 unfold cut sIx;simp only[];rw[if_neg (by omega),Ea];by_cases h:k<=l.length;·rw[Nat.min_eq_left h,FY (by simp)]
 ·rw[Nat.min_eq_right (by omega),GR (by omega),GR (by omega)];simp
theorem gF{x:Tx}{t:Tx}(h:t∈cM x):∃c∈x,t=[c]:=by
 unfold cM at h;obtain⟨c,hc,e⟩:=Dw.mp h;exact⟨c,hc,e.symm⟩
theorem wK(a:Int):0<=eu a:=by unfold eu;split<;>omega
section
variable{α β:Type}{P:α->Prop}{Q:β->Prop}
theorem ja{m:Res α}{f:α->Res β}(h:m.Ok fun a=>(f a).Ok Q):(m.bind f).Ok Q:=Res.bind_ok h
theorem BM{b:Bool}{A B:Res α}(h1:b=true->A.Ok P)(h2:b=false->B.Ok P):(if b=true then A else B).Ok P:=by
 cases b with
 |true=>exact h1 rfl
 |false=>exact h2 rfl
theorem om{c:Prop}[Decidable c]{A B:Res α}(h1:c->A.Ok P)(h2:¬c->B.Ok P):(if decide c=true then A else B).Ok P:=by
 by_cases h:c;·rw[decide_eq_true h];exact h1 h
 ·rw[decide_eq_false h];exact h2 h
theorem gq{a:α}(h:P a):(CJ a).Ok P:=h
theorem BN{m:Res α}{a:α}(e:m=.ok a)(h:P a):m.Ok P:=by rw[e];exact h
end
end Mi
namespace L2
open PySem PySem.Spec PyProof.Rows Wb
end L2
namespace L2
open PySem PySem.Spec PyProof.Rows
end L2
namespace Wb
open PySem L2 Mi
variable{Er:Nat->Prop}
end Wb
namespace Mi
def i4{κ α:Type}[DecidableEq κ](kvs:List (κ×α))(k:κ)(a:α):List (κ×α):=
 if(kvs.any fun kv=>decide<|kv.1=k)=true then kvs.map (fun kv=>if kv.1=k then(kv.1,a)else kv)else kvs++[(k,a)]
end Mi
namespace PySem
open Sem (wp)
open AutoSeq1 (wpAny_loadPart')
end PySem
namespace L2
open PySem PySem.Spec PyProof.Rows
end L2
namespace L2
end L2
namespace Wb
open PySem L2 Mi
variable{Er:Nat->Prop}
section
variable{α β γ δ:Type}{t t1 t2 t3 t4 ta tb tc td:TE}{σ:St}{W W0 W':Wd}{K:CG}{w:Di}
def gG(K:CG):Nat->Sp
 |0=>fun _ _ _ _=>False
 |n+1=>fun vs H Q _=>∃v u,vs=[v,u]/\((EqK K H n v u/\∀H',Same H H'->Q (.bl true) H')\/∃x y,v=.str x/\u=.str y/\Q (.bl<|decide<|Hv x=Hv y) H)
theorem jV[DecidableEq α]{R:Rp α}[Mono R]{n N:Nat}[EqR K R n]{E:XK}{ma mb:Res α}(hn:n<N)(ha:EV Er ta σ W (sh R) ma)(hb:EV Er tb σ W (sh R) mb):EV Er (aT (gG K N) [] E<|ai ta<|ai tb aL) σ W (sh isB) (ma.bind fun a=>mb.bind fun b=>zL a b):=fun W1 e1 Q k=>
 ha W1 e1 _ ((CC k).imp fun a ka x W2 e2 hx=>hb W2 (e1.trans e2) _ ((CC ka).imp fun b kb y W3 e3 hy=>by
  unfold zL at kb;by_cases z:a=b
  ·rw[if_pos z]at kb;subst z;cases N with
   |zero=>omega
   |succ N=>
    refine⟨x,y,rfl,.inl ⟨EqR.eq W3.H a x y N (by omega) (CB W3.ok<|CB (R:=R) e3.g hx)<|CB W3.ok hy,fun H' hs=>?_⟩⟩;exact kb (.bl true) ⟨W3.G,H',W3.ok.trans hs⟩ ⟨e2.g.trans e3.g,(e2.h.trans e3.h).trans hs,fun p hp=>(e2.trans e3).k p hp⟩ rfl
  ·rw[if_neg z]at kb;exact kb.elim))
theorem lU{D:Ends}{i:Nat}{te:TE}{a:Int}{m:Res Int}{f:Int->Int->Int}{σ':Int->St}(h:EV Er te σ W (sh isI) m)(q:m.OkE Er fun b=>∀W',Ext W W'->D.nx (σ'<|f a b) W'.H)(hi:σ[i]? =some (some<|.int a):=by rfl)(hσ:∀c,σ.set i (some<|.int c)=σ' c:=by intro _;rfl):wc i te (AK f) D σ W.H:=
 ⟨.int a,hi,h W (.refl _) _ (q.imp fun b kb v W' e hv=>by cases hv;exact⟨a,b,rfl,rfl,by have:=kb W' e;rw[<-hσ]at this;exact this⟩)⟩
theorem rE{D:Ends}{r:TS}{i:Nat}{te:TE}{a:Int}{m:Res Int}{f:Int->Int->Int}{σ':Int->St}(h:EV Er te σ W (sh isI) m)(q:m.OkE Er fun b=>∀W',Ext W W'->r D (σ'<|f a b) W'.H)(hi:σ[i]? =some (some<|.int a):=by rfl)(hσ:∀c,σ.set i (some<|.int c)=σ' c:=by intro _;rfl):eQ (wc i te<|AK f) r D σ W.H:=lU (D:={D with nx:=r D}) h q hi hσ
theorem EV.go{W1:Wd}{R:Rw α}{m:Res α}{Q:VK}(e:Ext W W1)(h:EV Er t σ W R m)(k:m.OkE Er fun a=>∀v W2,Ext W1 W2->R W2 a v->Q v W2.H):t σ W1.H Q:=h W1 e Q k
theorem u7{X:Cx}{st:Stmt}:PS X st yF:=fun _ _ _ _ _ _ h=>h.elim
end
end Wb
namespace Mi
end Mi
namespace L2
open PySem PySem.Spec PyProof.Rows
end L2
namespace L2
open PySem PySem.Spec PySem.Calls PyProof.Rows
open PySem.W (findIn findObj mroIn looks_findIn looks_find looks_mroIn class_get KitX clsIn Frag)
end L2
namespace L2
open PySem PySem.Spec PySem.Calls PyProof.Rows
end L2
namespace L2
open PySem PySem.Spec PySem.Calls PyProof.Rows Mi
end L2
namespace Wb
open PySem L2 Mi
end Wb
namespace Wb
open PySem L2 Mi
open PySem.W (findIn findObj mroIn kitOne kitCls clsIn typeIn subIn specialIn takesIn Frag)
end Wb
namespace Wb
open PySem L2 Mi
end Wb
namespace L2
open PySem PySem.Spec PyProof.Rows
end L2
namespace Wb
open PySem L2 Mi
end Wb
namespace Mi
def eN{S:Type}(c:S->Res Bool)(f:S->Res S):Nat->S->Res S
 |0,_=>.stuck
 |n+1,s=>(c s).bind fun b=>if b then(f s).bind fun s'=>eN c f n s' else .ok s
end Mi
namespace Wb
open PySem L2 Mi
section
variable{Er:Nat->Prop}{K:CG}{W0 W W':Wd}{p:Addr}{s:List Fr}{te:TE}{σ:St}{D:Ends}{i a b:Nat}{r:TS}{E:XK}
theorem u9{S:Type}{tc:TT}{tb:TS}{c:S->Res Bool}{f:S->Res S}{s0:S}{P:S->Prop}{n:Nat}(Iv:S->Wd->St->Prop)(q:(eN c f n s0).OkE Er P)(h0:Iv s0 W σ)
  (hm:∀W1 W2 s σ1,Ext W1 W2->Iv s W1 σ1->Iv s W2 σ1)
  (hc:∀W1 s σ1,Same W.G W1.G->Iv s W1 σ1->TV Er tc σ1 W1 (c s))
  (hs:∀Wb W1 s σ1 P',Same W.G W1.G->Same Wb.G W1.G->Iv s W1 σ1->(f s).OkE Er P'->tb {D with nx:=oj Wb Iv P',ct:=oj Wb Iv P',bk:=D.nx} σ1 W1.H)
  (hd:∀s W1 σ1,Same W.G W1.G->Iv s W1 σ1->P s->D.nx σ1 W1.H):oz tc tb D σ W.H:=by
 refine⟨fun m σ' H'=>∃s' W',W'.H=H'/\Same W.G W'.G/\Iv s' W' σ'/\(eN c f m s').OkE Er P,⟨n,s0,W,rfl,.refl _,h0,q⟩,?_⟩;rintro m σ1 H1 ⟨s,W1,rfl,e1,iv,k⟩;cases m with
 |zero=>exact k.elim
 |succ m=>
  refine hc W1 s σ1 e1 iv W1 (.refl _) _<|(CC k).imp fun b kb W2 e2=>?_;cases b with
  |true=>
   refine⟨oj W Iv fun s'=>(eN c f m s').OkE Er P,fun σ' H'⟨s',W',z1,z2,z3,z4⟩=>⟨m,Gm _,s',W',z1,z2,z3,z4⟩,?_⟩;exact hs W W2 s σ1 _ (e1.trans e2.g) (e1.trans e2.g) (hm W1 W2 s σ1 e2 iv)<|CC kb
  |false=>exact hd s W2 σ1 (e1.trans e2.g) (hm W1 W2 s σ1 e2 iv) kb
section
variable{r:TS}
theorem jW{S:Type}{tc:TT}{tb:TS}{c:S->Res Bool}{f:S->Res S}{s0:S}{P:S->Prop}{n:Nat}(Iv:S->Wd->St->Prop)(q:(eN c f n s0).OkE Er P)(h0:Iv s0 W σ)
  (hm:∀W1 W2 s σ1,Ext W1 W2->Iv s W1 σ1->Iv s W2 σ1)
  (hc:∀W1 s σ1,Same W.G W1.G->Iv s W1 σ1->TV Er tc σ1 W1 (c s))
  (hs:∀Wb W1 s σ1 P',Same W.G W1.G->Same Wb.G W1.G->Iv s W1 σ1->(f s).OkE Er P'->tb {D with nx:=oj Wb Iv P',ct:=oj Wb Iv P',bk:=r D} σ1 W1.H)
  (hd:∀s W1 σ1,Same W.G W1.G->Iv s W1 σ1->P s->r D σ1 W1.H):eQ (oz tc tb) r D σ W.H:=u9 (D:={D with nx:=r D}) Iv q h0 hm hc hs hd
end
end
end Wb
namespace L2
open PySem PySem.Spec PyProof.Rows
end L2
namespace Wb
open PySem L2 Mi
section
variable{Er:Nat->Prop}{α β:Type}{K:CG}{W W0:Wd}{p:Addr}{ta tb te:TE}{σ:St}{D:Ends}{i:Nat}{r:TS}{base:Heap}
theorem LR.rev{R:Rp α}{H:Hp}{as:List α}{vs:List V}(h:LR R H as vs):LR R H as.reverse vs.reverse:=⟨by simp[h.1],fun i v m q1 q2=>by
 have hi:i<vs.length:=by have:=(CO.mp q1).1;simpa using this
 rw[Fw hi]at q1;rw[Fw (by rw[<-h.1];exact hi),<-h.1]at q2;exact h.2 _ v m q1 q2⟩
theorem wL{R:Rp α}[Mono R]{ma:Res (List α)}(ha:EV Er ta σ W (pk R) ma):EVo Er (tD K ta<|bt<|fB (rU fun i=>.int<|-i)<|tC<|.int 1) σ W R (ma.bind fun a=>.ok a.reverse):=fun W1 e1 Q k=>
 ha W1 e1 _ ((CC k).imp fun a ka x W2 e2 hx=>by
  obtain⟨p,vs,rfl,h1,h2⟩:=hx;refine⟨1,rfl, -1,rfl,p,vs,rfl,rfl,EB h1,fun q hq=>ka q (W2.mut q (.lst vs.reverse) (W2.gnone hq)) (e2.trans (.own _ hq)) (none_of e2.h hq) ⟨W2.gnone hq,_,ax,LR.rev h2⟩⟩)
end
end Wb
namespace L2
open PySem PySem.Spec PySem.Calls PyProof.Rows Mi
end L2
namespace Wb
open PySem L2 Mi
end Wb
namespace L2
open PySem PySem.Spec PyProof.Rows
end L2
namespace Wb
open PySem L2 Mi
end Wb
namespace L2
open PySem PySem.Spec PyProof.Rows
end L2
namespace Wb
open PySem L2 Mi
end Wb
namespace Mi
def wM{α β:Type}(p:List β×(List β->α))(j:Int):Res (β×(β->α)):=(jG<|ixN p.1.length j).bind fun k=>(jG p.1[k]?).bind fun b=>.ok (b,fun b'=>p.2<|p.1.set k b')
end Mi
namespace Wb
open PySem L2 Mi
abbrev FS:=Addr->Prop
abbrev Rf(α:Type):=Wd->FS->α->V->Prop
theorem nn_of{H:Hp}{q:Addr}{o:HO}(h:H q=some o):H q≠none:=by rw[h];exact fun z=>nomatch z
structure MuF(F:FS)(W W':Wd):Prop where
 g:Same W.G W'.G
 h:∀q,¬F q->W.H q≠none->W'.H q=W.H q
 k:∀q,W.H q≠none->W'.G q=W.G q
 n:∀q,W.H q≠none->W'.H q≠none
section
variable{α β γ:Type}{K:CG}{W W' W0 W1 W2:Wd}{F F' F1:FS}
theorem Ext.keepH(e:Ext W W'){q:Addr}(hn:W.H q≠none):W'.H q=W.H q:=by
 obtain⟨o,ho⟩:=Gf.mp hn;rw[ho];exact e.h _ _ ho
theorem Ext.muF(e:Ext W W'):MuF F W W':=⟨e.g,fun q _ hn=>e.keepH hn,e.k,fun q hn=>by rw[e.keepH hn];exact hn⟩
theorem MuF.trans(m:MuF F W W1)(m':MuF F1 W1 W2)(hF:∀q,F1 q->F q\/W.H q=none):MuF F W W2:=⟨m.g.trans m'.g,fun q hq hn=>by
 have h1:=m.h q hq hn;have:¬F1 q:=fun z=>(hF q z).elim hq hn;rw[m'.h q this (by rw[h1];exact hn),h1],fun q hn=>by rw[m'.k q (m.n q hn),m.k q hn],fun q hn=>m'.n q (m.n q hn)⟩
theorem MuF.of{p:Addr}{o:HO}(hF:F p)(hg:W.G p=none):MuF F W (W.mut p o hg):=⟨.refl _,fun q hq hn=>aD fun z=>hq<|z▸hF,fun _ _=>rfl,fun q hn=>by
 show cI W.H p o q≠none;by_cases z:q=p
 ·rw[z,ax];exact fun z=>nomatch z
 ·rw[aD z];exact hn⟩
class FrT(R:Rf α):Prop where
 fr:∀{W W':Wd}{F:FS}{a:α}{v:V},R W F a v->Same W.G W'.G->(∀q,F q->W'.H q=W.H q/\W'.G q=W.G q)->R W' F a v
 lv:∀{W:Wd}{F:FS}{a:α}{v:V},R W F a v->∀q,F q->W.G q=none/\W.H q≠none
theorem FrT.ext{R:Rf α}[FrT R]{a:α}{v:V}(t:R W F a v)(e:Ext W W'):R W' F a v:=FrT.fr t e.g fun q hq=>⟨e.keepH (FrT.lv t q hq).2,e.k q (FrT.lv t q hq).2⟩
theorem FrT.mu{R:Rf α}[FrT R]{a:α}{v:V}(t:R W F a v)(m:MuF F' W W')(dj:∀q,F q->F' q->False):R W' F a v:=FrT.fr t m.g fun q hq=>⟨m.h q (dj q hq) (FrT.lv t q hq).2,m.k q (FrT.lv t q hq).2⟩
class FzT(R:Rf α)(R':outParam (Rp α)):Prop where
 fz:∀{W W':Wd}{F:FS}{a:α}{v:V},R W F a v->Same W.G W'.G->(∀q,F q->W'.G q=W.H q)->R' W'.G a v
def fz(R:Rp α):Rf α:=fun W F a v=>(∀q,¬F q)/\R W.G a v
instance zkeep44{R:Rp α}[Mono R]:FrT (fz R):=⟨fun h s _=>⟨h.1,CB s h.2⟩,fun h q hq=>absurd hq<|h.1 q⟩
instance zkeep45{R:Rp α}[Mono R]:FzT (fz R) R:=⟨fun h s _=>CB s h.2⟩
structure TL(R:Rf α)(W:Wd)(Fs:Nat->FS)(xs:List α)(vs:List V):Prop where
 len:vs.length=xs.length
 el:∀i x u,xs[i]? =some x->vs[i]? =some u->R W (Fs i) x u
 rng:∀i q,Fs i q->i<xs.length
 dj:∀i j q,Fs i q->Fs j q->i=j
def oL(R:Rf α):Rf (List α):=fun W F xs v=>∃(p:Addr)(vs:List V)(Fs:Nat->FS),v=.ref p/\W.G p=none/\W.H p=some (.lst vs)/\TL R W Fs xs vs/\(∀i,¬Fs i p)/\∀q,F q↔q=p\/∃i,Fs i q
theorem TL.at2{R:Rf α}{Fs:Nat->FS}{xs:List α}{vs:List V}(t:TL R W Fs xs vs){i:Nat}{q:Addr}(h:Fs i q):∃x u,xs[i]? =some x/\vs[i]? =some u/\R W (Fs i) x u:=by
 have h1:=t.rng i q h;have h2:i<vs.length:=by rw[t.len];exact h1
 exact⟨xs[i],vs[i],by simp[h1],by simp[h2],t.el i _ _ (by simp[h1]) (by simp[h2])⟩
instance zkeep46{R:Rf α}[FrT R]:FrT (oL R):=⟨fun⟨p,vs,Fs,e,g,h,t,np,hF⟩s k=>by
 have kp:=k p<|(hF p).mpr (.inl rfl);exact⟨p,vs,Fs,e,by rw[kp.2];exact g,by rw[kp.1];exact h,⟨t.len,fun i x u a b=>FrT.fr (t.el i x u a b) s<|fun q hq=>k q<|(hF q).mpr (.inr ⟨i,hq⟩),t.rng,t.dj⟩,np,hF⟩,fun⟨p,vs,Fs,e,g,h,t,np,hF⟩q hq=>by
 rcases (hF q).mp hq with rfl|⟨i,hi⟩
 ·exact⟨g,nn_of h⟩
 ·obtain⟨x,u,_,_,r⟩:=t.at2 hi;exact FrT.lv r q hi⟩
instance zkeep47{R:Rf α}{R':Rp α}[FzT R R']:FzT (oL R) (isL R'):=⟨fun⟨p,vs,Fs,e,g,h,t,np,hF⟩s k=>⟨p,vs,e,by rw[k p<|(hF p).mpr (.inl rfl)];exact h,t.len,fun i u x a b=>FzT.fz (t.el i x u b a) s fun q hq=>k q<|(hF q).mpr (.inr ⟨i,hq⟩)⟩⟩
structure TC where
 {α:Type}
 R:Rf α
 a:α
 v:V
 i:FrT R
def tc(R:Rf α)[FrT R](a:α)(v:V):TC:=⟨R,a,v,inferInstance⟩
def noT:Rf Unit:=fun _ F _ _=>∀q,¬F q
instance zkeep48:FrT noT:=⟨fun h _ _=>h,fun h q hq=>absurd hq<|h q⟩
def BE:TC:=tc noT () .non
structure SepF(W0 W:Wd)(Fs:Nat->FS)(cs:List TC):Prop where
 el:∀(i:Nat)(c:TC),cs[i]? =some c->c.R W (Fs i) c.a c.v
 rng:∀i q,Fs i q->i<cs.length
 dj:∀i j q,Fs i q->Fs j q->i=j
 nw:∀i q,Fs i q->W0.H q=none
def Sep(W0 W:Wd)(cs:List TC):Prop:=∃Fs,SepF W0 W Fs cs
variable{cs:List TC}
theorem Sep.nil:Sep W0 W []:=⟨fun _ _=>False,fun _ _ h=>by simp at h,fun _ _ h=>h.elim,fun _ _ _ h=>h.elim,fun _ _ h=>h.elim⟩
theorem SepF.lv{Fs:Nat->FS}(s:SepF W0 W Fs cs){i:Nat}{q:Addr}(h:Fs i q):W.G q=none/\W.H q≠none:=by
 have h1:=s.rng i q h;have:=s.el i cs[i] (by simp[h1]);exact @FrT.lv _ _ cs[i].i _ _ _ _ this q h
theorem Sep.ext(s:Sep W0 W cs)(e:Ext W W'):Sep W0 W' cs:=by
 obtain⟨Fs,s⟩:=s;exact⟨Fs,fun i c h=> @FrT.ext _ _ _ _ _ c.i _ _ (s.el i c h) e,s.rng,s.dj,s.nw⟩
theorem SepF.put{Fs:Nat->FS}{R:Rf β}[FrT R]{b:β}{u:V}{i:Nat}(s:SepF W0 W Fs cs)(E:Ext W0 W)(m:MuF (Fs i) W W')(hF:∀q,F q->Fs i q\/W.H q=none)(t:R W' F b u)(hi:i<cs.length):Sep W0 W' (cs.set i<|tc R b u):=by
 refine⟨fun j=>if j=i then F else Fs j,fun j c h=>?_,fun j q h=>?_,fun j k q h1 h2=>?_,fun j q h=>?_⟩
 ·rw[Fe]at h;by_cases z:i=j
  ·subst z;rw[if_pos rfl,if_pos hi]at h;cases h;simp only[if_true];exact t
  ·rw[if_neg z]at h;simp only[if_neg (Fd z)];exact @FrT.mu _ _ _ _ _ _ c.i _ _ (s.el j c h) m fun q a b=>z (s.dj j i q a b).symm
 ·rw[EX];by_cases z:j=i;·rw[z];exact hi
  ·simp only[if_neg z]at h;exact s.rng j q h
 ·have key:∀j q,(if j=i then F else Fs j) q->(j=i/\F q)\/(j≠i/\Fs j q):=fun j q h=>by
   by_cases z:j=i;·exact .inl ⟨z,by simpa [if_pos z] using h⟩
   ·exact .inr ⟨z,by simpa [if_neg z] using h⟩
  rcases key j q h1 with⟨z1,a⟩|⟨z1,a⟩<;>rcases key k q h2 with⟨z2,b⟩|⟨z2,b⟩
  ·rw[z1,z2]
  ·exact((hF q a).elim (fun y=>z2<|s.dj k i q b y) fun y=>absurd y (s.lv b).2).elim
  ·exact((hF q b).elim (fun y=>z1<|s.dj j i q a y) fun y=>absurd y (s.lv a).2).elim
  ·exact s.dj j k q a b
 ·by_cases z:j=i
  ·simp only[if_pos z]at h;exact(hF q h).elim (s.nw i q) fun y=>none_of E.h y
  ·simp only[if_neg z]at h;exact s.nw j q h
theorem Sep.add{R:Rf β}[FrT R]{b:β}{u:V}(s:Sep W0 W cs)(E:Ext W0 W)(e:Ext W W')(hF:∀q,F q->W.H q=none)(t:R W' F b u):Sep W0 W' (cs++[tc R b u]):=by
 obtain⟨Fs,s⟩:=s;have hn:∀j q,j=cs.length->¬Fs j q:=fun j q z h=>by have:=s.rng j q h;omega
 have key:∀j q,(if j=cs.length then F else Fs j) q->(j=cs.length/\F q)\/(j<cs.length/\Fs j q):=fun j q h=>by
  by_cases z:j=cs.length;·exact .inl ⟨z,by simpa [if_pos z] using h⟩
  ·have h':Fs j q:=by simpa [if_neg z] using h
   exact .inr ⟨s.rng j q h',h'⟩
 refine⟨fun j=>if j=cs.length then F else Fs j,fun j c h=>?_,fun j q h=>?_,fun j k q h1 h2=>?_,fun j q h=>?_⟩
 ·by_cases z:j< cs.length
  ·rw[D3 z]at h;simp only[if_neg (D8 z)];exact @FrT.ext _ _ _ _ _ c.i _ _ (s.el j c h) e
  ·rw[D4 (by omega)]at h;have:j-cs.length=0:=by
    refine Fy fun y=>?_;rw[DJ.mpr (by simp;omega)]at h;cases h
   rw[this]at h;cases h;have z2:j=cs.length:=by omega
   simp only[if_pos z2];exact t
 ·rw[F0,Fv];rcases key j q h with⟨a,_⟩|⟨a,_⟩<;>omega
 ·rcases key j q h1 with⟨z1,a⟩ | ⟨z1,a⟩ <;> rcases key k q h2 with⟨z2,b⟩ | ⟨z2,b⟩
  ·omega
  ·exact absurd (hF q a) (s.lv b).2
  ·exact absurd (hF q b) (s.lv a).2
  ·exact s.dj j k q a b
 ·rcases key j q h with⟨_,a⟩ | ⟨_,a⟩
  ·exact none_of E.h<|hF q a
  ·exact s.nw j q a
theorem SepF.del{Fs:Nat->FS}(s:SepF W0 W Fs cs)(i:Nat):Sep W0 W (cs.eraseIdx i):=by
 by_cases hi:i<cs.length
 ·have key:∀j q,(if j<i then Fs j else Fs (j+1)) q->(j<i/\Fs j q)\/(i<=j/\Fs (j+1) q):=fun j q h=>by
   by_cases z:j<i;·exact .inl ⟨z,by simpa [if_pos z] using h⟩
   ·exact .inr ⟨by omega,by simpa [if_neg z] using h⟩
  refine⟨fun j=>if j<i then Fs j else Fs (j+1),fun j c h=>?_,fun j q h=>?_,fun j k q h1 h2=>?_,fun j q h=>?_⟩
  ·by_cases z:j< i
   ·rw[List.getElem?_eraseIdx_of_lt z]at h;simp only[if_pos z];exact s.el j c h
   ·rw[List.getElem?_eraseIdx_of_ge (by omega)]at h;simp only[if_neg z];exact s.el (j+1) c h
  ·rw[Hm,if_pos hi];rcases key j q h with⟨a,b⟩|⟨a,b⟩
   ·omega
   ·have:=s.rng _ q b;omega
  ·rcases key j q h1 with⟨z1,a⟩|⟨z1,a⟩<;>rcases key k q h2 with⟨z2,b⟩|⟨z2,b⟩<;>have:=s.dj _ _ q a b<;>omega
  ·rcases key j q h with⟨_,a⟩|⟨_,a⟩<;>exact s.nw _ q a
 ·rw[List.eraseIdx_of_length_le (by omega)];exact⟨Fs,s⟩
theorem SepF.move{Fs:Nat->FS}{R:Rf β}[FrT R]{b:β}{u:V}{i j:Nat}(s:SepF W0 W Fs cs)(E:Ext W0 W)(m:MuF (fun q=>Fs i q\/Fs j q) W W')(hF:∀q,F q->Fs i q\/Fs j q\/W.H q=none)(t:R W' F b u)(hi:i<cs.length)(hij:i≠j):Sep W0 W' ((cs.set i<|tc R b u).eraseIdx j):=by
 have key:∀k q,(if k=i then F else if k=j then(fun _=>False)else Fs k) q->(k=i/\F q)\/(k≠i/\k≠j/\Fs k q):=fun k q h=>by
  by_cases z:k=i;·exact .inl ⟨z,by simpa [if_pos z] using h⟩
  ·rw[if_neg z]at h;by_cases y:k=j;·simp[if_pos y]at h
   ·exact .inr ⟨z,y,by simpa [if_neg y] using h⟩
 have s2:SepF W0 W' (fun k=>if k=i then F else if k=j then(fun _=>False)else Fs k) ((cs.set i<|tc R b u).set j BE):=by
  refine⟨fun k c h=>?_,fun k q h=>?_,fun k l q h1 h2=>?_,fun k q h=>?_⟩
  ·rw[Fe]at h;by_cases y:j=k
   ·subst y;rw[if_pos rfl]at h;split at h
    ·cases h;simp only[if_neg (Fd hij),if_true];exact fun _ z=>z
    ·cases h
   ·rw[if_neg y,Fe]at h;by_cases z:i=k
    ·subst z;rw[if_pos rfl,if_pos hi]at h;cases h;simp only[if_true];exact t
    ·rw[if_neg z]at h;simp only[if_neg (Fd z),if_neg<|Fd y];exact @FrT.mu _ _ _ _ _ _ c.i _ _ (s.el k c h) m fun q a b=>b.elim (fun b=>z (s.dj k i q a b).symm) fun b=>y (s.dj k j q a b).symm
  ·rw[EX,EX];rcases key k q h with⟨a,_⟩|⟨_,_,a⟩
   ·omega
   ·exact s.rng k q a
  ·rcases key k q h1 with⟨z1,a⟩ | ⟨z1,y1,a⟩ <;> rcases key l q h2 with⟨z2,b⟩ | ⟨z2,y2,b⟩
   ·omega
   ·exact((hF q a).elim (fun y=>z2<|s.dj l i q b y) fun y=>y.elim (fun y=>y2<|s.dj l j q b y) fun y=>absurd y (s.lv b).2).elim
   ·exact((hF q b).elim (fun y=>z1<|s.dj k i q a y) fun y=>y.elim (fun y=>y1<|s.dj k j q a y) fun y=>absurd y (s.lv a).2).elim
   ·exact s.dj k l q a b
  ·rcases key k q h with⟨_,a⟩ | ⟨_,_,a⟩
   ·exact(hF q a).elim (s.nw i q) fun y=>y.elim (s.nw j q) fun y=>none_of E.h y
   ·exact s.nw k q a
 have:=s2.del j;rw[Hn]at this;exact this
open Classical in
theorem Sep.frz{R:Rf β}[FrT R]{R':Rp β}[FzT R R']{b:β}{u:V}{i:Nat}(s:Sep W0 W cs)(E:Ext W0 W)(hc:cs[i]? =some (tc R b u)):∃W',W'.H=W.H/\Ext W0 W'/\Same W.G W'.G/\Sep W0 W' (cs.eraseIdx i)/\R' W'.G b u:=by
 obtain⟨Fs,s⟩:=s;have hs:Same W.G fun q=>if Fs i q then W.H q else W.G q:=fun a o h=>by
  show(if Fs i a then _ else _)=_;rw[if_neg fun z=>by have:=(s.lv z).1;rw[h]at this;cases this];exact h
 have ho:Same (fun q=>if Fs i q then W.H q else W.G q) W.H:=fun a o h=>by
  have h:(if Fs i a then W.H a else W.G a)=some o:=h;split at h;·exact h
  ·exact W.ok _ _ h
 let W':Wd:=⟨_,W.H,ho⟩
 refine⟨W',rfl,⟨E.g.trans hs,E.h,fun q hq=>?_⟩,hs,?_,FzT.fz (R:=R) (s.el i _ hc) hs fun q hq=>if_pos hq⟩
 ·show(if Fs i q then _ else _)=_;rw[if_neg fun z=>hq<|s.nw i q z];exact E.k q hq
 ·have s2:SepF W0 W' (fun k=>if k=i then(fun _=>False)else Fs k) (cs.set i BE):=by
   have key:∀k q,(if k=i then(fun _=>False)else Fs k) q->k≠i/\Fs k q:=fun k q h=>by
    by_cases z:k=i;·simp[if_pos z]at h
    ·exact⟨z,by simpa [if_neg z] using h⟩
   refine⟨fun k c h=>?_,fun k q h=>?_,fun k l q h1 h2=>s.dj k l q (key k q h1).2 (key l q h2).2,fun k q h=>s.nw k q (key k q h).2⟩
   ·rw[Fe]at h;by_cases z:i=k
    ·subst z;rw[if_pos rfl]at h;split at h
     ·cases h;simp only[if_true];exact fun _ z=>z
     ·cases h
    ·rw[if_neg z]at h;simp only[if_neg (Fd z)];refine @FrT.fr _ _ c.i _ _ _ _ _ (s.el k c h) hs fun q hq=>⟨rfl,?_⟩
     show(if Fs i q then _ else _)=_;rw[if_neg fun y=>z<|s.dj i k q y hq]
   ·rw[EX];exact s.rng k q (key k q h).2
  have:=s2.del i;rw[Hn]at this;exact this
end
section
variable{Er:Nat->Prop}{α β γ δ ε ζ:Type}{K:CG}{W W' W0 W1 W2:Wd}{F F' F1:FS}{cs:List TC}{σ:St}{t ta tb te ti tp t1 t2 t3 t4 t5:TE}{D:Ends}{i k:Nat}{r:TS}
def vw(R:Rf α):Rw α:=fun W a v=>∃F,R W F a v
instance zkeep49{R:Rf α}[FrT R]:MonoW (vw R):=⟨fun e⟨F,t⟩=>⟨F,FrT.ext t e⟩⟩
theorem Sep.vw{R:Rf α}[FrT R]{a:α}{v:V}(s:Sep W0 W cs)(hc:cs[k]? =some (tc R a v)):vw R W a v:=by
 obtain⟨Fs,s⟩:=s;exact⟨Fs k,s.el k _ hc⟩
theorem wN{R:Rf α}[FrT R]{a:α}{v:V}(s:Sep W0 W cs)(hc:cs[k]? =some (tc R a v):=by rfl)(h:σ[i]? =some (some v):=by rfl):EV Er (bz i) σ W (vw R) (.ok a):=gU (s.vw hc) h
theorem zc{xs:List α}{j:Int}{a:α}(h:q0 xs j=some a):∃l,Mi.ixN xs.length j=some l/\xs[l]? =some a:=by
 unfold q0 at h;cases z:Mi.ixN xs.length j with
 |none=>rw[z]at h;cases h
 |some l=>rw[z]at h;exact⟨l,rfl,h⟩
theorem TL.ix{R:Rf α}{Fs:Nat->FS}{xs:List α}{vs:List V}(t:TL R W Fs xs vs){j:Int}{l:Nat}{a:α}(h1:Mi.ixN xs.length j=some l)(h2:xs[l]? =some a):∃x,vs[l]? =some x/\L2.atI vs j=some x/\R W (Fs l) a x:=by
 have hl:l<vs.length:=by rw[t.len];exact(CO.mp h2).1
 refine⟨vs[l],by simp[hl],?_,t.el l a _ h2 (by simp[hl])⟩;show(L2.ixN vs.length j).bind _=_;rw[t.len,show L2.ixN xs.length j=Mi.ixN xs.length j from rfl,h1];simp[hl]
theorem wO{R:Rf α}[FrT R]{ma:Res (List α)}{mb:Res Int}(ha:EV Er ta σ W (vw<|oL R) ma)(hb:EV Er tb σ W (sh isI) mb):EV Er (cW (bZ K) ta tb) σ W (vw R) (ma.bind fun a=>mb.bind fun b=>fj a b):=
 oK ha hb fun W a b x y Q hx hy k=>by
  cases hy;obtain⟨F,p,vs,Fs,rfl,g,h,t,np,hF⟩:=hx;obtain⟨c,h4,h5⟩:=dq k;obtain⟨l,h6,h7⟩:=zc h4;obtain⟨z,h8,h9,h10⟩:=t.ix h6 h7;exact⟨p,_,b,z,rfl,rfl,EB h,h9,h5 _ W (.refl _) ⟨_,h10⟩⟩
theorem TL.lr{R:Rp α}{Fs:Nat->FS}{xs:List α}{vs:List V}(t:TL (fz R) W Fs xs vs):LR R W.G xs vs:=⟨t.len,fun i v m a b=>(t.el i m v b a).2⟩
theorem TL.of{R:Rp α}{xs:List α}{vs:List V}(t:LR R W.G xs vs):TL (fz R) W (fun _ _=>False) xs vs:=⟨t.1,fun i x u a b=>⟨fun _ z=>z,t.2 i u x b a⟩,fun _ _ z=>z.elim,fun _ _ _ z=>z.elim⟩
theorem wQ{R:Rp α}{m:Res (List α)}(h:EV Er t σ W (vw<|oL<|fz R) m):EV Er t σ W (pk R) m:=h.imp fun _ _ _⟨_,p,vs,Fs,e,g,h,t,_⟩=>⟨p,vs,e,h,t.lr⟩
def EVt(Er:Nat->Prop)(t:TE)(σ:St)(W:Wd)(R:Rf α)(m:Res α):Prop:=∀W1,Ext W W1->∀Q:VK,m.OkE Er (fun a=>∀v W2 F,Ext W1 W2->(∀q,F q->W1.H q=none)->R W2 F a v->Q v W2.H)->t σ W1.H Q
theorem oL.ofOw{R:Rp α}{p:Addr}{xs:List α}(o:Ow R W p xs):oL (fz R) W (· =p) xs (.ref p):=by
 obtain⟨vs,h1,h2⟩:=o.h;exact⟨p,vs,fun _ _=>False,rfl,o.g,h1,.of h2,fun _ z=>z,fun q=>⟨.inl,fun z=>z.elim id fun⟨_,z⟩=>z.elim⟩⟩
theorem EVo.tr{R:Rp α}{m:Res (List α)}(h:EVo Er t σ W R m):EVt Er t σ W (oL<|fz R) m:=fun W1 e1 Q k=>h W1 e1 Q (k.imp fun xs kx p W2 e2 hp o=>kx _ W2 _ e2 (fun q hq=>by rw[hq];exact hp)<|oL.ofOw o)
def yi(R:Rf β):Rt β:=fun W r Q=>∀u W' F,Ext W W'->(∀q,F q->W.H q=none)->R W' F r u->Q u W'.H
section
variable{R1:Rp α}{R2:Rp γ}{R3:Rp δ}{R4:Rp ε}{R5:Rp ζ}[Mono R1][Mono R2][Mono R3][Mono R4][Mono R5]{m1:Res α}{m2:Res γ}{m3:Res δ}{m4:Res ε}{m5:Res ζ}{E:XK}
theorem l5{R:Rf β}{m:α->γ->δ->Res β}(h1:EV Er t1 σ W (sh R1) m1)(h2:EV Er t2 σ W (sh R2) m2)(h3:EV Er t3 σ W (sh R3) m3):EVt Er (aT (cV R1 R2 R3 (yi R) m) [] E<|ai t1<|ai t2<|ai t3 aL) σ W R (m1.bind fun a=>m2.bind fun b=>m3.bind fun c=>m a b c):=fun W1 e1 Q k=>
 h1 W1 e1 _ ((CC k).imp fun a ka v W2 e2 hv=>h2 W2 (e1.trans e2) _ ((CC ka).imp fun b kb u W3 e3 hu=>h3 W3 ((e1.trans e2).trans e3) _ ((CC kb).imp fun c kc w W4 e4 hw=>
  ⟨W4,a,b,c,v,u,w,rfl,rfl,Dt (R:=sh R1) (e3.trans e4) hv,Dt (R:=sh R2) e4 hu,hw,Er,kc.imp fun r kr u W' F e hF o=>kr u W' F (((e2.trans e3).trans e4).trans e) (fun q hq=>none_of ((e2.trans e3).trans e4).h (hF q hq)) o⟩)))
theorem ft{R:Rf β}{m:α->γ->δ->ε->Res β}(h1:EV Er t1 σ W (sh R1) m1)(h2:EV Er t2 σ W (sh R2) m2)(h3:EV Er t3 σ W (sh R3) m3)(h4:EV Er t4 σ W (sh R4) m4):EVt Er (aT (gj R1 R2 R3 R4 (yi R) m) [] E<|ai t1<|ai t2<|ai t3<|ai t4 aL) σ W R (m1.bind fun a=>m2.bind fun b=>m3.bind fun c=>m4.bind fun d=>m a b c d):=fun W1 e1 Q k=>
 h1 W1 e1 _ ((CC k).imp fun a ka v W2 e2 hv=>h2 W2 (e1.trans e2) _ ((CC ka).imp fun b kb u W3 e3 hu=>h3 W3 ((e1.trans e2).trans e3) _ ((CC kb).imp fun c kc w W4 e4 hw=>h4 W4 (((e1.trans e2).trans e3).trans e4) _ ((CC kc).imp fun d kd x W5 e5 hx=>
  ⟨W5,a,b,c,d,v,u,w,x,rfl,rfl,Dt (R:=sh R1) ((e3.trans e4).trans e5) hv,Dt (R:=sh R2) (e4.trans e5) hu,Dt (R:=sh R3) e5 hw,hx,Er,kd.imp fun r kr u W' F e hF o=>kr u W' F ((((e2.trans e3).trans e4).trans e5).trans e) (fun q hq=>none_of (((e2.trans e3).trans e4).trans e5).h (hF q hq)) o⟩))))
end
def Lens(W0:Wd)(C:α->List TC)(R:Rf β):Rw (β×(β->α)):=fun W bp u=>∃F,R W F bp.1 u/\(∀q,F q->W0.H q=none)/\∀W' F' b',MuF F W W'->(∀q,F' q->F q\/W.H q=none)->R W' F' b' u->Sep W0 W' (C<|bp.2 b')
instance zkeep50{C:α->List TC}{R:Rf β}[FrT R]:MonoW (Lens W0 C R):=⟨fun e⟨F,t,n,p⟩=>⟨F,FrT.ext t e,n,fun W' F' b' m hF t'=>p W' F' b' (e.muF.trans m fun q hq=>.inl hq) (fun q hq=>(hF q hq).imp id (none_of e.h)) t'⟩⟩
variable{C:α->List TC}
theorem uc{R:Rf α}[FrT R]{a:α}{v:V}(s:Sep W0 W (C a))(E:Ext W0 W)(hc:(C a)[k]? =some (tc R a v):=by rfl)(hs:∀b,C b=(C a).set k (tc R b v):=by intro _;rfl)(h:σ[i]? =some (some v):=by rfl):EV Er (bz i) σ W (Lens W0 C R) (.ok (a,fun b=>b)):=by
 obtain⟨Fs,s⟩:=s;exact gU (R:=Lens W0 C R) ⟨Fs k,s.el k _ hc,s.nw k,fun W' F' b' m hF t=>by rw[hs];exact s.put E m hF t (CO.mp hc).1⟩ h
theorem MuF.up(m:MuF F W W')(h:∀q,F q->F' q):MuF F' W W':=⟨m.g,fun q hq hn=>m.h q (fun z=>hq<|h q z) hn,m.k,m.n⟩
theorem Am{R:Rf β}[FrT R]{ma:Res (List β×(List β->α))}{mb:Res Int}(ha:EV Er ta σ W (Lens W0 C<|oL R) ma)(hb:EV Er tb σ W (sh isI) mb):EV Er (cW (bZ K) ta tb) σ W (Lens W0 C R) (ma.bind fun a=>mb.bind fun b=>wM a b):=
 oK ha hb fun W a b x y Q hx hy k=>by
  cases hy;obtain⟨F,⟨p,vs,Fs,rfl,g,h,t,np,hF⟩,n,pb⟩:=hx;obtain⟨l,h1,k⟩:=dq<|CC k;obtain⟨c,h2,k⟩:=dq<|CC k;obtain⟨z,h8,h9,h10⟩:=t.ix h1 h2;have hll:l<a.1.length:=(CO.mp h2).1;refine⟨p,_,b,z,rfl,rfl,EB h,h9,k _ W (.refl _) ⟨Fs l,h10,fun q hq=>n q<|(hF q).mpr (.inr ⟨l,hq⟩),fun W' F' b' m hF' t'=>?_⟩⟩;have key:∀j q,(if j=l then F' else Fs j) q->(j=l/\F' q)\/(j≠l/\Fs j q):=fun j q h=>by
   by_cases z:j=l;·exact .inl ⟨z,by simpa [if_pos z] using h⟩
   ·exact .inr ⟨z,by simpa [if_neg z] using h⟩
  have lv:∀j q,Fs j q->W.H q≠none:=fun j q hq=>by
   obtain⟨x,u,_,_,r⟩:=t.at2 hq;exact(FrT.lv r q hq).2
  refine pb W' (fun q=>q=p\/∃j,(if j=l then F' else Fs j) q) (a.1.set l b') (m.up fun q hq=>(hF q).mpr (.inr ⟨l,hq⟩)) (fun q hq=>?_) ⟨p,vs,fun j=>if j=l then F' else Fs j,rfl,by rw[m.k p<|nn_of h];exact g,by rw[m.h p (np l)<|nn_of h];exact h,⟨by rw[EX];exact t.len,fun j x u e1 e2=>?_,fun j q hq=>?_,fun j j2 q q1 q2=>?_⟩,fun j hj=>?_,fun q=>Jz⟩
  ·rcases hq with rfl | ⟨j,hj⟩
   ·exact .inl<|(hF _).mpr (.inl rfl)
   ·rcases key j q hj with⟨z1,z2⟩ | ⟨z1,z2⟩
    ·exact(hF' q z2).imp (fun y=>(hF q).mpr (.inr ⟨l,y⟩)) id
    ·exact .inl<|(hF q).mpr (.inr ⟨j,z2⟩)
  ·rw[Fe]at e1;by_cases z1:l=j
   ·subst z1;rw[if_pos rfl,if_pos hll]at e1;cases e1;rw[h8]at e2;cases e2;simp only[if_true];exact t'
   ·rw[if_neg z1]at e1;simp only[if_neg (Fd z1)];exact FrT.mu (t.el j x u e1 e2) m fun q y1 y2=>z1<|t.dj l j q y2 y1
  ·rw[EX];rcases key j q hq with⟨z1,z2⟩|⟨z1,z2⟩
   ·rw[z1];exact hll
   ·exact t.rng j q z2
  ·rcases key j q q1 with⟨z1,y1⟩ | ⟨z1,y1⟩ <;> rcases key j2 q q2 with⟨z2,y2⟩ | ⟨z2,y2⟩
   ·rw[z1,z2]
   ·exact((hF' q y1).elim (fun y=>z2<|t.dj j2 l q y2 y) fun y=>absurd y<|lv _ _ y2).elim
   ·exact((hF' q y2).elim (fun y=>z1<|t.dj j l q y1 y) fun y=>absurd y<|lv _ _ y1).elim
   ·exact t.dj j j2 q y1 y2
  ·rcases key j p hj with⟨z1,z2⟩ | ⟨z1,z2⟩
   ·exact(hF' p z2).elim (np l) fun y=>absurd y<|nn_of h
   ·exact np j z2
theorem Lens.lf{R:Rp β}[Mono R]{bp:List β×(List β->α)}{u:V}(E:Ext W0 W)(l:Lens W0 C (oL<|fz R) W bp u):∃p vs,u=.ref p/\W.H p=some (.lst vs)/\LR R W.G bp.1 vs/\∃hg:W.G p=none,∀vs' xs',LR R W.G xs' vs'->Ext W0 (W.mut p (.lst vs') hg)/\Sep W0 (W.mut p (.lst vs') hg) (C<|bp.2 xs'):=by
 obtain⟨F,⟨p,vs,Fs,rfl,g,h,t,np,hF⟩,n,pb⟩:=l;have hp:F p:=(hF p).mpr (.inl rfl);refine⟨p,vs,rfl,h,t.lr,g,fun vs' xs' lr=>⟨E.mut (n p hp) g,pb _ (· =p) xs' (MuF.of hp g) (fun q hq=>.inl (by rw[hq];exact hp)) ⟨p,vs',fun _ _=>False,rfl,g,ax,.of lr,fun _ z=>z,fun q=>⟨.inl,fun z=>z.elim id fun⟨_,z⟩=>z.elim⟩⟩⟩⟩
theorem wR{R:Rp β}[Mono R]{mp:Res (List β×(List β->α))}{m:Res β}(E:Ext W0 W)(hp:EV Er tp σ W (Lens W0 C<|oL<|fz R) mp)(h:EV Er te σ W (sh R) m)(q:(mp.bind fun p=>m.bind fun x=>(dB p.1 x).bind fun b=>.ok<|p.2 b).OkE Er fun a'=>∀W',Same W.G W'.G->Ext W0 W'->Sep W0 W' (C a')->D.nx σ W'.H):
  b6 (ee K "list" ay tp<|ai te aL) D σ W.H:=hp W (.refl _) _ ((CC q).imp fun p kp u W1 e1 l=>by
 obtain⟨p0,vs0,rfl,hH0,_,_⟩:=Lens.lf (E.trans e1) l;refine⟨.inl ⟨rfl,vs0,EB hH0⟩,h W1 e1 _ ((CC kp).imp fun x kx v W2 e2 hv=>?_)⟩;obtain⟨p1,vs,ep,hH,lr,hg,back⟩:=Lens.lf ((E.trans e1).trans e2) (Dt e2 l);cases ep;obtain⟨h3,h4⟩:=aW (CC kx);obtain⟨b1,b2⟩:=back (vs++[v]) (p.1++[x]) (lr.snoc hv);exact⟨p0,vs,v,rfl,rfl,hH,by rw[lr.1,Dz];unfold Mi.cap at h3;omega,h4 (W2.mut p0 (.lst (vs++[v])) hg) (e1.trans e2).g b1 b2⟩)
theorem rF{R:Rp β}[Mono R]{mp:Res (List β×(List β->α))}{m:Res β}(E:Ext W0 W)(hp:EV Er tp σ W (Lens W0 C<|oL<|fz R) mp)(h:EV Er te σ W (sh R) m)(q:(mp.bind fun p=>m.bind fun x=>(dB p.1 x).bind fun b=>.ok<|p.2 b).OkE Er fun a'=>∀W',Same W.G W'.G->Ext W0 W'->Sep W0 W' (C a')->r D σ W'.H):
  eQ (b6<|ee K "list" ay tp<|ai te aL) r D σ W.H:=wR (D:={D with nx:=r D}) E hp h q
theorem wU{R:Rf β}[FrT R]{m:Res β}{σ':V->St}(S:Sep W0 W cs)(E:Ext W0 W)(h:EVt Er te σ W R m)(q:m.OkE Er fun a=>∀v W',Ext W W'->Sep W0 W' (cs++[tc R a v])->D.nx (σ' v) W'.H)(hσ:∀v,σ.set i (some v)=σ' v:=by intro _;rfl):bK te (aM i) D σ W.H:=h W (.refl _) _ (q.imp fun a k v W' F e hF t=>by have:=k v W' e<|S.add E e hF t;rw[<-hσ]at this;exact this)
theorem iN{R:Rf β}[FrT R]{m:Res β}{σ':V->St}(S:Sep W0 W cs)(E:Ext W0 W)(h:EVt Er te σ W R m)(q:m.OkE Er fun a=>∀v W',Ext W W'->Sep W0 W' (cs++[tc R a v])->r D (σ' v) W'.H)(hσ:∀v,σ.set i (some v)=σ' v:=by intro _;rfl):eQ (bK te<|aM i) r D σ W.H:=wU (D:={D with nx:=r D}) S E h q hσ
theorem qj{R:Rf β}[FrT R]{b:β}{v:V}(S:Sep W0 W cs)(hc:cs[k]? =some (tc R b v))(q:∀F,(∀q,F q->W0.H q=none)->R W F b v->D.rt v W.H)(hi:σ[i]? =some (some v):=by rfl):bW (bz i) D σ W.H:=by
 obtain⟨Fs,s⟩:=S;exact⟨v,hi,q (Fs k) (s.nw k)<|s.el k _ hc⟩
theorem wV{R:Rf β}{m:Res β}(h:EVt Er te σ W R m)(q:m.OkE Er fun a=>∀v W' F,Ext W W'->(∀q,F q->W.H q=none)->R W' F a v->D.rt v W'.H):bW te D σ W.H:=h W (.refl _) _ q
theorem ud{R:Rf β}[FrT R]{xs:List β}{b:β}{v u:V}{k l j:Nat}(S:Sep W0 W cs)(E:Ext W0 W)(hk:cs[k]? =some (tc (oL R) xs v))(hl:cs[l]? =some (tc R b u))(hkl:k≠l)(q:(dB xs b).OkE Er fun ys=>∀W',Same W.G W'.G->Ext W0 W'->Sep W0 W' ((cs.set k<|tc (oL R) ys v).eraseIdx l)->D.nx σ W'.H)(hi:σ[i]? =some (some v):=by rfl)(hj:σ[j]? =some (some u):=by rfl):
  b6 (ee K "list" ay (bz i)<|ai (bz j) aL) D σ W.H:=by
 obtain⟨Fs,s⟩:=S;obtain⟨p,vs,Gs,rfl,g,h,t,np,hF⟩:=(show oL R W (Fs k) xs v from s.el k _ hk)
 have tb:R W (Fs l) b u:=s.el l _ hl;obtain⟨h3,h4⟩:=aW q;have hp:Fs k p:=(hF p).mpr (.inl rfl);have kk:k<cs.length:=(CO.mp hk).1;have lp:¬Fs l p:=fun z=>hkl<|s.dj k l p hp z;refine⟨_,hi,.inl ⟨rfl,vs,EB h⟩,_,hj,p,vs,u,rfl,rfl,h,by rw[t.len,Dz];unfold Mi.cap at h3;omega,h4 (W.mut p (.lst<|vs++[u]) g) (.refl _) (E.mut (s.nw k p hp) g) ?_⟩;have m1:MuF (· =p) W (W.mut p (.lst<|vs++[u]) g):=MuF.of (F:=(· =p)) rfl g;have key:∀j q,(if j=xs.length then Fs l else Gs j) q->(j=xs.length/\Fs l q)\/(j<xs.length/\Gs j q):=fun j q h=>by
  by_cases z:j=xs.length;·exact .inl ⟨z,by simpa [if_pos z] using h⟩
  ·have h':Gs j q:=by simpa [if_neg z] using h
   exact .inr ⟨t.rng j q h',h'⟩
 refine s.move (F:=fun q=>q=p\/∃j,(if j=xs.length then Fs l else Gs j) q) E (m1.up fun q hq=>.inl (by rw[hq];exact hp)) (fun q hq=>?_) ⟨p,vs++[u],fun j=>if j=xs.length then Fs l else Gs j,rfl,g,ax,⟨by simp[t.len],fun j x y e1 e2=>?_,fun j q hq=>?_,fun j j2 q q1 q2=>?_⟩,fun j hj=>?_,fun q=>Jz⟩ kk hkl
 ·rcases hq with rfl | ⟨j,hj⟩
  ·exact .inl hp
  ·rcases key j q hj with⟨_,z⟩ | ⟨_,z⟩
   ·exact .inr<|.inl z
   ·exact .inl<|(hF q).mpr (.inr ⟨j,z⟩)
 ·by_cases z:j< xs.length
  ·rw[D3 z]at e1;rw[D3 (by rw[t.len];exact z)]at e2;simp only[if_neg (D8 z)];exact FrT.mu (t.el j x y e1 e2) m1 fun q a b=>np j<|b▸a
  ·rw[D4 (by omega)]at e1;rw[D4 (by rw[t.len];omega),t.len]at e2;have z2:j-xs.length=0:=by
    refine Fy fun y=>?_;rw[DJ.mpr (by simp;omega)]at e1;cases e1
   rw[z2]at e1 e2;cases e1;cases e2;have z3:j=xs.length:=by omega
   simp only[if_pos z3];exact FrT.mu tb m1 fun q a b=>lp<|b▸a
 ·rw[F0,Fv];rcases key j q hq with⟨a,_⟩|⟨a,_⟩<;>omega
 ·rcases key j q q1 with⟨z1,a⟩ | ⟨z1,a⟩ <;> rcases key j2 q q2 with⟨z2,b⟩ | ⟨z2,b⟩
  ·omega
  ·exact(hkl<|s.dj k l q ((hF q).mpr (.inr ⟨_,b⟩)) a).elim
  ·exact(hkl<|s.dj k l q ((hF q).mpr (.inr ⟨_,a⟩)) b).elim
  ·exact t.dj j j2 q a b
 ·rcases key j p hj with⟨_,z⟩ | ⟨_,z⟩
  ·exact lp z
  ·exact np j z
end
section
variable{Er:Nat->Prop}{α β γ:Type}{K:CG}{W W' W0 W1 W2:Wd}{F F' F1:FS}{cs:List TC}{σ:St}{t ta tb te ti tp:TE}{D:Ends}{i k:Nat}{r:TS}
theorem nt{R:Rf α}:EVt Er (bY aL) σ W (oL R) (.ok []):=fun W1 e1 Q k=>⟨by decide,fun p hp=>k _ (W1.mut p (.lst [])<|W1.gnone hp) (· =p) (.own _ hp) (fun q hq=>by rw[hq];exact hp) ⟨p,[],fun _ _=>False,rfl,W1.gnone hp,ax,⟨rfl,fun i x u h=>by simp at h,fun _ _ z=>z.elim,fun _ _ _ z=>z.elim⟩,fun _ z=>z,fun q=>⟨.inl,fun z=>z.elim id fun⟨_,z⟩=>z.elim⟩⟩⟩
open Classical in
theorem BF{R:Rf β}[FrT R]{R':Rp β}[FzT R R']{b:β}{u:V}(t:R W F b u):∃Wf,Wf.H=W.H/\Same W.G Wf.G/\R' Wf.G b u/\(∀q,¬F q->Wf.G q=W.G q)/\∀W2,Ext Wf W2->∃W3,W3.H=W2.H/\Ext W W3:=by
 have lv:=fun q=>FrT.lv t q;have hs:Same W.G fun q=>if F q then W.H q else W.G q:=fun a o h=>by
  show(if F a then _ else _)=_;rw[if_neg fun z=>by have:=(lv a z).1;rw[h]at this;cases this];exact h
 have ho:Same (fun q=>if F q then W.H q else W.G q) W.H:=fun a o h=>by
  have h:(if F a then W.H a else W.G a)=some o:=h;split at h;·exact h
  ·exact W.ok _ _ h
 let Wf:Wd:=⟨_,W.H,ho⟩
 refine⟨Wf,rfl,hs,FzT.fz t hs fun q hq=>if_pos hq,fun q hq=>if_neg hq,fun W2 e=>⟨⟨fun q=>if F q then none else W2.G q,W2.H,fun a o h=>?_⟩,rfl,fun a o h=>?_,e.h,fun q hq=>?_⟩⟩
 ·have h:(if F a then none else W2.G a)=some o:=h;split at h;·cases h
  ·exact W2.ok _ _ h
 ·show(if F a then none else W2.G a)=_;rw[if_neg fun z=>by have:=(lv a z).1;rw[h]at this;cases this];exact e.g _ _<|hs _ _ h
 ·show(if F q then none else W2.G q)=_;by_cases z:F q;·rw[if_pos z,(lv q z).1]
  ·rw[if_neg z,e.k q hq];exact if_neg z
theorem Sep.lend1{R:Rf β}[FrT R]{R':Rp β}[FzT R R']{b:β}{u:V}(s:Sep W0 W cs)(E:Ext W0 W)(hc:cs[k]? =some (tc R b u)):∃Wf,Wf.H=W.H/\Same W.G Wf.G/\Ext W0 Wf/\Sep W0 Wf (cs.eraseIdx k)/\R' Wf.G b u/\∀W2,Ext Wf W2->∃W3,W3.H=W2.H/\Ext W W3:=by
 obtain⟨Fs,s⟩:=s;obtain⟨Wf,h1,h2,h3,h4,h5⟩:=BF (R:=R)<|s.el k _ hc;refine⟨Wf,h1,h2,⟨E.g.trans h2,by rw[h1];exact E.h,fun q hq=>by rw[h4 q fun z=>hq<|s.nw k q z];exact E.k q hq⟩,?_,h3,h5⟩;have key:∀j q,(if j=k then(fun _=>False)else Fs j) q->j≠k/\Fs j q:=fun j q h=>by
  by_cases z:j=k;·simp[if_pos z]at h
  ·exact⟨z,by simpa [if_neg z] using h⟩
 have s2:SepF W0 Wf (fun j=>if j=k then(fun _=>False)else Fs j) (cs.set k BE):=by
  refine⟨fun j c h=>?_,fun j q h=>?_,fun j l q h1 h2=>s.dj j l q (key j q h1).2 (key l q h2).2,fun j q h=>s.nw j q (key j q h).2⟩
  ·rw[Fe]at h;by_cases z:k=j
   ·subst z;rw[if_pos rfl]at h;split at h
    ·cases h;simp only[if_true];exact fun _ z=>z
    ·cases h
   ·rw[if_neg z]at h;simp only[if_neg (Fd z)];exact @FrT.fr _ _ c.i _ _ _ _ _ (s.el j c h) h2 fun q hq=>⟨by rw[h1],h4 q fun y=>z<|s.dj k j q y hq⟩
  ·rw[EX];exact s.rng j q (key j q h).2
 have:=s2.del k;rw[Hn]at this;exact this
theorem EVt.ev{R:Rf α}[FrT R]{R':Rp α}[FzT R R']{m:Res α}(h:EVt Er t σ W R m):EV Er t σ W (sh R') m:=fun W1 e1 Q k=>h W1 e1 Q (k.imp fun a ka v W2 F e2 hF o=>by
 have s:Sep W1 W2 [tc R a v]:=Sep.add (cs:=[]) (Sep.nil (W0:=W1) (W:=W1)) (.refl _) e2 hF o;obtain⟨W3,hH,e3,_,_,r⟩:=Sep.frz (R:=R) (i:=0) s e2 rfl;rw[<-hH];exact ka v W3 e3 r)
theorem ue{R:Rf β}[FrT R]{R':Rp β}[FzT R R']{b:β}{u:V}{m:Res Bool}{t:TT}(k:Nat)(s:Sep W0 W cs)(E:Ext W0 W)(hc:cs[k]? =some (tc R b u))(h:∀Wf,Same W.G Wf.G->Ext W0 Wf->Sep W0 Wf (cs.eraseIdx k)->R' Wf.G b u->TV Er t σ Wf m):TV Er t σ W m:=fun W1 e1 Q kq=>by
 obtain⟨Wf,h1,h2,h3,h4,h5,h6⟩:=Sep.lend1 (R:=R) (s.ext e1) (E.trans e1) hc;rw[<-h1];refine h Wf (e1.g.trans h2) h3 h4 h5 Wf (.refl _) Q<|kq.imp fun a ka W2 e2=>?_;obtain⟨W3,h7,h8⟩:=h6 W2 e2;rw[<-h7];exact ka W3 h8
end
end Wb
open Wb.EVt renaming ev->MI
open Wb.FrT renaming lv->Lf,ext->M7
open Wb.Sep renaming nil->MN
namespace L2
open PySem PySem.Spec PyProof.Rows
noncomputable def dR(tg iter:Expr)(ifs:List Expr)(body:Sem Unit)(it:CI)(env:Env)(c:Code):Sem Fin:=do
 standAt iter.pos
 match <-pyNext it with
 |none=>pure<|.done .next
 |some v=>
  letOwnedTupleGo tg it v
  assign tg env v
  let mut ok:=true
  for c in ifs do
   if ok then ok <-isTrue c env (eval c env)
  if ok then body
  again c
structure CompE(e:Expr):Prop where
 a:∀(A:DL)(d:Nat)(it acc:CI)(env:Env),A.under (.compLoop e d it acc env)=A
 b:∀(A:DL)(d:Nat)(it acc:CI)(env:Env),A.under (.compStart e d it acc env)=A
 c:∀(prog:D6)(w:Di)(d:Nat)(it acc:CI)(env:Env),(model prog w).den (.compLoop e d it acc env)=(compTurn e d it acc env).onRaise (fun x=>do noteFrame x env;theTreesLotGoes x)
 d:∀(prog:D6)(w:Di)(d:Nat)(it acc:CI)(env:Env),(model prog w).den (.compStart e d it acc env)=(compStart e d it acc env).onRaise (fun x=>do noteFrame x env;standAt theWindowsPlace)
theorem CompE.dict{k v:Expr}{gs:List Iw}{sc:G1}{pos:Pos}:CompE (.DictComp k v gs sc pos):=⟨fun _ _ _ _ _=>rfl,fun _ _ _ _ _=>rfl,fun _ _ _ _ _ _=>rfl,fun _ _ _ _ _ _=>rfl⟩
theorem CompE.set{k:Expr}{gs:List Iw}{sc:G1}{pos:Pos}:CompE (.SetComp k gs sc pos):=⟨fun _ _ _ _ _=>rfl,fun _ _ _ _ _=>rfl,fun _ _ _ _ _ _=>rfl,fun _ _ _ _ _ _=>rfl⟩
section
variable{prog:D6}{w:Di}{A:DL}{R:KY->CM->Prop}{s:CM}
theorem kM{e:Expr}(ce:CompE e){d:Nat}{tg iter:Expr}{ifs:List Expr}{it acc:CI}{env:Env}{body:Sem Unit}(ht:compTurn e d it acc env=dR tg iter ifs body it env (.compLoop e d it acc env))(I:Nat->CM->Prop)
  (turn:∀n s,I n s->wpAny (model prog w) A (pyNext it) (fun r s₁=>match r with
   |none=>R (.ok .next) s₁
   | some v=>wpAny (model prog w) A (letOwnedTupleGo tg it v) (fun _ s₁'=>wpAny (model prog w) A (assign tg env v) (fun _ s₂=>
     wpAny (model prog w) A (forIn ifs true fun c r=>if r=true then do let ok <-isTrue c env (eval c env);pure (Dv ok)else pure (Dv r)) (fun ok s₃=>
      if ok=true then wpAny (model prog w) A body (fun _ s₅=>∃m,m<n/\I m s₅) (fun _ _=>False) s₃
      else ∃m,m<n/\I m s₃) (fun _ _=>False) s₂) (fun _ _=>False) s₁') (fun _ _=>False) s₁) (fun _ _=>False) s)
  (n:Nat) (h:I n s):codeAny (model prog w) A (.compLoop e d it acc env) R s:=by
 refine codeAny_loop rfl I (fun n s hI=>?_) n h;rw[ce.a,ce.c];refine wpAny_noted ?_;rw[ht];unfold dR;refine CD<|Fm<|CD<|DZ (turn n s hI) (fun r s₁ h₁=>?_) fun _ _ h'=>h'.elim;cases r with
 |none=>exact CH h₁
 |some v=>
  refine CD<|DZ h₁ (fun _ s₁' h₁'=>?_) fun _ _ h'=>h'.elim;refine CD<|DZ h₁' (fun _ s₂ h₂=>CD<|DZ h₂ (fun ok s₃ h₃=>?_) fun _ _ h'=>h'.elim) fun _ _ h'=>h'.elim;cases ok with
  |true=>
   rw[if_pos rfl]at h₃;exact CD<|DZ h₃ (fun _ s₄ h₄=>CH ⟨rfl,h₄⟩) fun _ _ h'=>h'.elim
  |false=>
   rw[if_neg D0]at h₃;exact CH ⟨rfl,h₃⟩
theorem gQ{e:Expr}(ce:CompE e){d:Nat}{g:Iw}{it acc:CI}{env:Env}(hg:(clausesOf e)[d]? =some g)(ha:g.is_async=0)
  (h0:codeAny (model prog w) A (.compLoop e d it acc env) R s)
  (h:wpAny (model prog w) A (pyIter it) (fun it' s'=>codeAny (model prog w) A (.compLoop e d it' acc env) R s') (notedBy (model prog w) A env fun x s'=>R (.error x) s') s):
  codeAny (model prog w) A (.compStart e d it acc env) R s:=by
 refine codeAny_of_tree ?_;rw[ce.b,ce.d];refine wpAny_notedAt ?_;unfold compStart;rw[hg];simp only[Option.elim_some,ha,bne_self_eq_false,Dp,if_false];refine CD<|FQ<|wpAny_ite ?_;split
 ·first
   |exact CD<|CH<|CH<|Kp rfl h0
   |exact CH<|Kp rfl h0
 ·first
   |exact CD<|Fq<|CD<|Fm<|CD<|DZ h (fun it' s' h'=>CH<|Kp rfl h') fun _ _ x=>x
   |(refine CD<|Fq ?_;exact CD<|Fm<|CD<|DZ h (fun it' s' h'=>CH<|Kp rfl h') fun _ _ x=>x)
end
noncomputable def yj(kx vx:Expr)(env:Env)(acc:CI):Sem Unit:=do
        let kv <-eval kx env
        let vv <-holding [kv] (eval vx env)
        match acc with
        | .ref d => do
          standAt {kx.pos with endLine:=vx.pos.endLine,endCol:=vx.pos.endCol}
          holding [kv,vv] (dictSet d kv vv)
        |_=>unsupported "internal:dictcomp"
noncomputable def wW(iter:Expr)(e:Expr)(d:Nat)(env:Env)(acc:CI):Sem Unit:=do
        let x <-eval iter env
        standAt iter.pos
        let x <-foldedSetIterable iter env x
        let _ <-runOwn (.compStart e d (<-holding [x] (pyIter x)) acc env) env
abbrev TB:=Addr->St->Hp->(Hp->Prop)->Prop
def PB(Y:Cx)(body:CI->Sem Unit)(tb:TB):Prop:=∀(D:Addr)(pins:List (Addr×Obj))(s:CM)(σ:St)(H:Hp)(N:Hp->Prop),Inv Y pins σ H s->tb D σ H N->
 wpAny (model Y.prog Y.w) Y.A (body<|.ref D) (fun _ s'=>∃σ' H',Inv Y pins σ' H' s'/\(∀(j:Nat)(v:V),σ[j]? =some (some v)->σ'[j]? =some (some v))/\N H') (fun _ _=>False) s
def rG(g:TG)(tf:TT)(tb:TB)(D:Addr)(σ:St)(H1:Hp)(N:Hp->Prop)(J:It):Prop:=∃W:Nat->Nat->Hp->Prop,(∃m,W 0 m H1)/\∀i m H,W i m H->
 ((J.stop i H/\N H)\/(J.go i H/\∃M:Hp->Prop,(∀H',M H'->∃m',m'<m/\W (i+1) m' H')/\∀x H',J.yld i H x H'->g x σ H' fun σ2 H2=>Keep σ σ2/\tf σ2 H2 fun b H3=>if b=true then tb D σ2 H3 M else M H3))
def zd(wi:TI)(g:TG)(tf:TT)(tb:TB):TB:=fun D σ H N=>wi σ H fun J H1=>rG g tf tb D σ H1 N J
section
variable{Y:Cx}{tg iter elt kx vx:Expr}{ifs:List Expr}{g:TG}{tf:TT}{tb:TB}{body:CI->Sem Unit}{te tk tv:TE}{wi:TI}
theorem nu(hc:Y.calm=true)(hxe:Y.xe=fun _ _=>False)(hg:PG Y tg g)(hf:sE Y ifs tf)(hb:PB Y body tb){e:Expr}(ce:CompE e){d:Nat}{it:Addr}{fp:List Addr}{tn:Nat->Heap->Prop}{J:It}(T:Turn Y.prog Y.w Y.K tg J fp it tn)
  {pins:List (Addr×Obj)} {s:CM} {σ:St} {H:Hp} {D:Addr} {N:Hp->Prop} {R:KY->CM->Prop} (I:Inv Y pins σ H s) (st:tn 0 s.heap) (f:∀b∈fp,FpOk Y pins H b) (w:rG g tf tb D σ H N J)
  (ht:compTurn e d (.ref it) (.ref D) Y.env=dR tg iter ifs (body<|.ref D) (.ref it) Y.env (.compLoop e d (.ref it) (.ref D) Y.env))
  (fin:∀σ' H' s',Inv Y pins σ' H' s'->(∀(j:Nat)(v:V),σ[j]? =some (some v)->σ'[j]? =some (some v))->N H'->R (.ok .next) s'):
  codeAny (model Y.prog Y.w) Y.A (.compLoop e d (.ref it) (.ref D) Y.env) R s:=by
 obtain⟨W,⟨m0,w0⟩,turn⟩:=w;have stat:∀{H':Hp},(∀b∈fp,H' b=none)->∀b∈fp,FpOk Y pins H' b:=fun hn b hb=>⟨hn b hb,(f b hb).2⟩
 refine kM ce ht (fun n s'=>∃i σ' H',Inv Y pins σ' H' s'/\tn i s'.heap/\(∀b∈fp,H' b=none)/\(∀(j:Nat)(v:V),σ[j]? =some (some v)->σ'[j]? =some (some v))/\W i n H') ?_ m0 ⟨0,σ,H,I,st,fun b hb=>(f b hb).1,fun _ _ e=>e,w0⟩;rintro n s3 ⟨i,σ3,H3,I3,st3,fr3,kp,w3⟩;rcases turn i n H3 w3 with⟨stop,qn⟩|⟨go,M,hM,step⟩
 ·refine bO (T.done Y rfl rfl rfl hc i pins s3 σ3 H3 _ I3 (stat fr3) st3 stop) fun r s4 zz=>?_;obtain⟨hr,I4⟩:=zz;subst hr;exact fin σ3 H3 s4 I4 kp qn
 ·have I3':Inv Y pins σ H3 s3:=I3.weak (by rw[I3.len,I.len]) kp;refine bO (T.item Y rfl rfl rfl hc i pins s3 σ H3 _ I3' (stat fr3) st3 go) fun r s4 zz=>?_;obtain⟨u,hr,h4⟩:=zz;subst hr;refine bO h4 fun _ s5 zz=>?_;obtain⟨x,H5,I5,r5,y5,st5,fr5⟩:=zz;have I5':=I5.pinned (stat fr5)<|T.obj _ _ st5;have hg':=hg _ s5 σ H5 x u _ I5' r5<|step x H5 y5;rw[hxe]at hg';refine bO hg' fun _ s6 zz=>?_;obtain⟨σ6,H6,I6,kp6,q6⟩:=zz;have hf':=hf _ s6 σ6 H6 _ I6 q6;rw[hxe]at hf';refine bO hf' fun ok s7 zz=>?_;obtain⟨H7,I7,q7⟩:=zz;have again:∀{s8:CM}{σ7:St}{H7:Hp},Inv Y (pins++iC fp s5.heap) σ7 H7 s8->(∀(j:Nat)(v:V),σ6[j]? =some (some v)->σ7[j]? =some (some v))->M H7->∃m,m<n/\∃i σ' H',Inv Y pins σ' H' s8/\tn i s8.heap/\(∀b∈fp,H' b=none)/\(∀(j:Nat)(v:V),σ[j]? =some (some v)->σ'[j]? =some (some v))/\W i m H':=fun{s8 σ7 H7}I7 k7 n7=>by
   obtain⟨m',hm,w7⟩:=hM H7 n7;refine⟨m',hm,i+1,σ7,H7,I7.unpinned,T.keep _ _ _ st5 fun b hb o e=>(I7.pin (b,o)<|Dr _<|Dr _<|eJ hb e).1,fun b hb=>?_,fun j v e=>k7 j v<|Keep.get kp6 e,w7⟩;obtain⟨o,e,d⟩:=T.obj _ _ st5 b hb;exact(I7.pin (b,o)<|Dr _<|Dr _<|eJ hb e).2.1
  cases ok with
  |false=>
   rw[if_neg D0]at q7 ⊢;exact again I7 (fun _ _ e=>e) q7
  |true=>
   rw[if_pos rfl]at q7 ⊢;refine bO (hb D _ s7 σ6 H7 _ I7 q7) fun _ s8 zz=>?_;obtain⟨σ8,H8,I8,k8,q8⟩:=zz;exact again I8 k8 q8
theorem ze(hc:Y.calm=true)(hxe:Y.xe=fun _ _=>False)(hi:PI Y tg iter wi)(hg:PG Y tg g)(hf:sE Y ifs tf){body:Env->CI->Sem Unit}(hb:PB Y (body Y.env) tb){e:Expr}(ce:CompE e){d:Nat}(hcl:(clausesOf e)[d]? =some ⟨tg,iter,ifs,0⟩)
  (ht:∀env it acc,compTurn e d it acc env=dR tg iter ifs (body env acc) it env (.compLoop e d it acc env):=by intro _ _ _;rfl) (hs:∀x,foldedSetIterable iter Y.env x=pure x:=by intro _;rfl):
  PB Y (wW iter e d Y.env) (zd wi g tf tb):=by
 intro D pins s σ H N I h;have hi':=hi pins s σ H _ I h;rw[hxe]at hi';refine CD<|bO hi' fun v s1 h1=>CD<|Fm<|CD<|Jt (hs v)<|CD<|E9<|bO h1 fun itv s2 h2=>?_;obtain⟨it,fp,tn,J,H2,rfl,I2,T,st2,f2,w⟩:=h2;have lp:codeAny (model Y.prog Y.w) Y.A (.compLoop e d (.ref it) (.ref D) Y.env) (fun r s'=>match r with| .ok f=>(∃σ' H',Inv Y pins σ' H' s'/\(∀(j:Nat)(v:V),σ[j]? =some (some v)->σ'[j]? =some (some v))/\N H')| .error x=>cameBackBy (model Y.prog Y.w) Y.A Y.env (fun _ _=>False) x s') s2:=
  nu hc hxe hg hf hb ce T I2 st2 f2 w (ht _ _ _) fun σ' H' s' I' k' n'=>⟨σ',H',I',k',n'⟩
 refine CD<|wpAny_runOwn<|gQ ce hcl rfl ?_ ?_
 ·exact HE lp fun r s' h=>by
   cases r with
   |ok f=>exact CH h
   |error x=>exact h
 ·refine T.self _ 0 _ _ _ st2 (HE lp fun r s' h=>by
   cases r with
   |ok f=>exact CH h
   |error x=>exact h)
end
section
variable{X:Cx}{scope:G1}{N:List Str}{cap:List (Option Nat)}{tg iter:Expr}{ifs:List Expr}{pos:Pos}{wi:TI}{g:TG}{tf:TT}{tb:TB}{body:Env->CI->Sem Unit}
theorem l7{pins:List (Addr×Obj)}{σ σ':St}{H2 H':Hp}{s2 s':CM}{fp:List Addr}{C:Addr}{h':Heap}(I2:Inv X pins σ H2 s2)(f2:∀b∈fp,FpOk X pins H2 b)
  (hC:s2.heap.objs.size<=C) (I':Inv (aA X scope N s2 H2 C fp) [] σ' H' s') (hs:DD C s'.heap h'):Inv X pins σ H' {s' with heap:=h'}:=by
 have nC:H' C=none:=I'.free;have lt2:∀b o,s2.heap.get? b=some o->b≠C:=fun b o e=>D8<|CW (CV e) hC;have hk:∀b o,b≠C->s'.heap.get? b=some o->h'.get? b=some o:=fun b o hb e=>(hs.2 b hb).trans e;have B:Un (frs X.stack) fp H2 H' s2.heap s'.heap:=I'.base;have tr:∀b u,H' b=some u->b≠C:=fun b u e z=>by rw[z,nC]at e;cases e
 refine I2.call' (ch:=fp) I'.os ⟨fun b o e n hb hx=>?_,fun b o e n hb hx=>?_,fun b o e n hx=>?_,fun b o e hx=>?_,fun b xs e=>?_,fun b o u e=>?_,fun b ps e=>?_⟩ (fun b u e=>?_) I'.bare fun b hb=>⟨(f2 b hb).2.2.2.1,(f2 b hb).2.1,(f2 b hb).2.2.2.2.1,(f2 b hb).2.2.2.2.2⟩
 ·exact hk b o (lt2 b o e)<|B.keep b o e n hb hx
 ·obtain⟨sl,q⟩:=B.slot b o e n hb hx;exact⟨sl,hk b _ (lt2 b o e) q⟩
 ·exact B.free b o e n hx
 ·obtain⟨o',q⟩:=B.there b o e hx;exact⟨o',hk b _ (lt2 b o e) q⟩
 ·exact B.tups b xs e
 ·exact B.frzs b o u e
 ·exact B.tbls b ps e
 ·refine(I'.hok b u e).stay (fun c w' hc q=>hk c w' ?_ q) (fun c q=>q) fun c xs q=>q;rcases hc with z|z
  ·rw[z];exact tr b u e
  ·exact tr c _ z
theorem jX(S:CompScope X scope N cap)(hc:X.calm=true){e:Expr}(ce:CompE e)(hcl:(clausesOf e)[0]? =some ⟨tg,iter,ifs,0⟩)
    (hg:∀s H C fp,PG (aA X scope N s H C fp) tg g) (hf:∀s H C fp,sE (aA X scope N s H C fp) ifs tf) (hb:∀s H C fp,PB (aA X scope N s H C fp) (body (aA X scope N s H C fp).env) tb)
    (ht:∀env it acc,compTurn e 0 it acc env=dR tg iter ifs (body env acc) it env (.compLoop e 0 it acc env))
    {pins:List (Addr×Obj)} {σ:St} {H3:Hp} {s3:CM} {it D:Addr} {fp:List Addr} {tn:Nat->Heap->Prop} {J:It} {Qv:Hp->Prop} {E:CI->CM->Prop} {RR:Addr->KY->CM->Prop}
    (I3:Inv X pins σ H3 s3) (T:Turn X.prog X.w X.K tg J fp it tn) (st3:tn 0 s3.heap) (f3:∀b∈fp,FpOk X pins H3 b) (w:rG g tf tb D (bu cap σ) H3 Qv J)
    (fin:∀(C:Addr)(σ':St)(H':Hp)(s':CM),s3.heap.objs.size<=C->Inv (aA X scope N s3 H3 C fp) [] σ' H' s'->Qv H'->RR C (.ok .next) s'):
    wpAny (model X.prog X.w) X.A (newFunctionEnv scope X.env.globals (bU X.env scope.names []) [] X.env.qual none .none<|some X.env) (fun cenv s₄=>
      codeAny (model X.prog X.w) X.A (.compStart e 0 (.ref it) (.ref D) {cenv with scope:=relabel scope X.env}) (RR cenv.locals) s₄) E s3:=by
  refine jD ?_;generalize hC:s3.heap.objs.size=C;generalize hH4:pushCells (s3.heap.push {cls:=.type "dict",data:=.dict #[]}) scope.names=h4;have hz3':(s3.heap.push {cls:=.type "dict",data:=.dict #[]}).objs.size=C+1:=by rw[EN,hC]
  have ck:M3 h4 (C+1) (cellsFrom (C+1) scope.names []):=by
    have:=cellsFrom_ok scope.names (s3.heap.push {cls:=.type "dict",data:=.dict #[]}) (C+1) [] ⟨fun _ _ hm=>(nomatch hm),G8⟩ (by rw[hz3'];exact CN _);rw[hz3',hH4]at this;exact this
  have k34:∀b o,s3.heap.get? b=some o->h4.get? b=some o:=fun b o e=>by rw[<-hH4];exact Hy _ _ b o<|CL _ e
  have hn4:h4.Ns C fun _=>none:=by
    rw[<-hH4,<-hC];exact(Mm s3.heap<|.type "dict").keeps (Hy _ _)
  have hlt:∀b∈fp,b<C:=fun b hb=>by
    obtain⟨o,e,_⟩:=T.obj _ _ st3 b hb;rw[<-hC];exact CV e
  have hCs:s3.heap.objs.size<=C:=by rw[hC];exact CN _
  have IC:Inv (aA X scope N s3 H3 C fp) [] (bu cap σ) H3 {s3 with heap:=h4}:=
    jE S I3 hCs ck f3 hlt ⟨_,_,rfl⟩ hn4 fun b o e=>k34 b o e
  have okC:=IC.ok;have fO:∀b∈fp,FpOk (aA X scope N s3 H3 C fp) [] H3 b:=fun b hb=>
    ⟨(f3 b hb).1,D8<|hlt b hb,okC.exfs b hb,.inl hb,(okC.exf b hb).2,fun p hp=>by
      have:p∈([]:List (Addr×Obj)):=hp;cases this⟩
  have st4:tn 0 h4:=T.keep _ _ _ st3 fun b hb o e=>k34 b o e;have loop:codeAny (model X.prog X.w) X.A (.compLoop e 0 (.ref it) (.ref D) (aA X scope N s3 H3 C fp).env) (RR C) {s3 with heap:=h4}:=
    nu (Y:=aA X scope N s3 H3 C fp) hc rfl (hg _ _ _ _) (hf _ _ _ _) (hb _ _ _ _) ce T IC st4 fO w (ht _ _ _) fun σ' H' s' I' _ q=>fin C σ' H' s' hCs I' q
  exact gQ ce hcl rfl loop<|T.self _ 0 _ _ _ st4 loop
theorem rH{it acc:CI}{env:Env}{e iter2:Expr}{d:Nat}{c:Code}:dR tg iter ifs (wW iter2 e d env acc) it env c=(do
 standAt iter.pos
 match <-pyNext it with
 |none=>pure (.done .next)
 |some v=>
  letOwnedTupleGo tg it v
  assign tg env v
  let mut ok:=true
  for c in ifs do
   if ok then ok <-isTrue c env (eval c env)
  if ok then
    let x <-eval iter2 env
    standAt iter2.pos
    let x <-foldedSetIterable iter2 env x
    let _ <-runOwn (.compStart e d (<-holding [x] (pyIter x)) acc env) env
  again c):=by
 unfold dR wW;simp only[bind_assoc,pure_bind]
 all_goals rfl
variable{kx vx elt tg2 iter2 tg3 iter3:Expr}{ifs2 ifs3:List Expr}{wi2 wi3:TI}{g2 g3:TG}{tf2 tf3:TT}{te tk tv:TE}{mk:HO}
end
end L2
open L2.CompE renaming set->MR
namespace Wb
open PySem L2 Mi
section
variable{Er:Nat->Prop}{α β γ S:Type}{K:CG}{W W' W0 Wb W1 W2:Wd}{σ:St}{t ta tb te ti tk tv:TE}{i:Nat}{O:Wd->Addr->S->Prop}
theorem uf{t:TB}{D:Addr}{H:Hp}{M:Hp->Prop}(h:t D σ H M):yR σ H fun b H3=>if b=true then t D σ H3 M else M H3:=by
 show(if true=true then t D σ H M else M H);rw[if_pos rfl];exact h
def BV(Er:Nat->Prop)(t:TB)(σ:St)(Wb W:Wd)(O:Wd->Addr->S->Prop)(D:Addr)(m:S->Res S):Prop:=∀W1 s(N:Hp->Prop),Ext W W1->O W1 D s->(m s).OkE Er (fun s'=>∀W',Same W1.G W'.G->Ext Wb W'->O W' D s'->N W'.H)->t D σ W1.H N
theorem lV{R:Rp α}{J:It}{xs:List α}{g:TG}{tf:TT}{t:TB}{f:α->S->Res S}{D:Addr}{N:Hp->Prop}{s0:S}(hy:Yl J W R xs)(h0:Ext W W1\/Same W.G W1.G)(eb:Ext Wb W1)(o:O W1 D s0)
  (hs:∀W2 a v s(M:Hp->Prop),Same W.G W2.G->Ext Wb W2->O W2 D s->R W2.G a v->(f a s).OkE Er (fun s'=>∀W',Same W2.G W'.G->Ext Wb W'->O W' D s'->M W'.H)->g v σ W2.H fun σ2 H2=>Keep σ σ2/\tf σ2 H2 fun b H3=>if b=true then t D σ2 H3 M else M H3)
  (mono:∀W W' s,Ext W W'->O W D s->O W' D s)
  (k:(bE f xs s0).OkE Er fun s'=>∀W',Same W.G W'.G->Ext Wb W'->O W' D s'->N W'.H):rG g tf t D σ W1.H N J:=by
 have hs1:Same W.G W1.G:=h0.elim (fun e=>e.g) id;refine⟨fun i n H=>n=xs.length-i/\i<=xs.length/\∃(W3:Wd)(s:S),W3.H=H/\Same W.G W3.G/\Ext Wb W3/\O W3 D s/\(bE f (xs.drop i) s).OkE Er fun s'=>∀W',Same W.G W'.G->Ext Wb W'->O W' D s'->N W'.H,⟨xs.length,by simp,by simp,W1,s0,rfl,hs1,eb,o,by simpa using k⟩,?_⟩;rintro i n H ⟨rfl,hi1,W3,s,rfl,e3,eb3,o3,q⟩;by_cases hlt:i<xs.length
 ·obtain⟨a,ha⟩:∃a,xs[i]? =some a:=⟨xs[i],by simp[hlt]⟩
  obtain⟨h1,h2⟩:=(hy W3 e3).1 i a ha;refine .inr ⟨h1,fun H'=>∃(W3:Wd)(s:S),W3.H=H'/\Same W.G W3.G/\Ext Wb W3/\O W3 D s/\(bE f (xs.drop<|i+1) s).OkE Er fun s'=>∀W',Same W.G W'.G->Ext Wb W'->O W' D s'->N W'.H,fun H' z=>⟨xs.length-(i+1),by omega,rfl,hlt,z⟩,fun x H' hx=>?_⟩;obtain⟨W4,rfl,e4,rx⟩:=h2 x H' hx;rw[kZ ha]at q;exact hs W4 a x s _ (e3.trans e4.g) (eb3.trans e4) (mono _ _ _ e4 o3) rx<|(CC q).imp fun s' ks W' z1 z2 z3=>⟨W',s',rfl,(e3.trans e4.g).trans z1,z2,z3,ks⟩
 ·have e:i=xs.length:=by omega
  subst e;rw[FP]at q;exact .inl ⟨(hy W3 e3).2,q W3 e3 eb3 o3⟩
theorem zf{R:Rp α}{wi:TI}{g:TG}{tf:TT}{t:TB}{mi:Res (List α)}{f:α->S->Res S}{D:Addr}(eb:Ext Wb W)(hi:IV Er wi σ W R mi)(mono:∀W W' s,Ext W W'->O W D s->O W' D s)
  (hs:∀W2 a v s(M:Hp->Prop),Same W.G W2.G->Ext Wb W2->O W2 D s->R W2.G a v->(f a s).OkE Er (fun s'=>∀W',Same W2.G W'.G->Ext Wb W'->O W' D s'->M W'.H)->g v σ W2.H fun σ2 H2=>Keep σ σ2/\tf σ2 H2 fun b H3=>if b=true then t D σ2 H3 M else M H3):
  BV Er (zd wi g tf t) σ Wb W O D (fun s=>mi.bind fun xs=>bE f xs s):=fun W1 s N e1 o k=>
 hi W1 e1 _ ((CC k).imp fun xs kx J W2 e2 hy=>lV (W:=W2) (Wb:=Wb) hy (.inl<|.refl _) ((eb.trans e1).trans e2) (mono _ _ _ e2 o) (fun W3 a v s M e3 eb3 o3 r k3=>hs W3 a v s M ((e1.trans e2).g.trans e3) eb3 o3 r k3) mono<|kx.imp fun s' ks W' z1 z2 z3=>ks W' (e2.g.trans z1) z2 z3)
end
end Wb
namespace Mi
end Mi
namespace Wb
open PySem L2 Mi
end Wb
namespace Mi
end Mi
namespace Wb
open PySem L2 Mi
section
open PyProof PyProof.Rows
variable{X:Cx}{pos:Pos}
end
end Wb
namespace Mi
end Mi
namespace Wb
open PySem L2 Mi
end Wb
namespace Mi
end Mi
namespace Wb
open PySem L2 Mi
end Wb
namespace L2
open PySem PySem.Spec PyProof.Rows
end L2
namespace L2
open PySem PySem.Spec PyProof.Rows Builtin Builtin.ObjectAttr
open PySem.W (findIn findObj mroIn looks_findIn looks_find looks_mroIn looks_clsIn clsIn Frag InstAt Looks)
end L2
namespace L2
open PySem PySem.Spec PySem.Calls PyProof.Rows
open PySem.W (findIn findObj mroIn looks_findIn looks_find looks_mroIn class_get KitX clsIn Frag InstAt lookIn)
def XO(a:Addr)(o:Obj):HO:=.ext fun h=>h.get? a=some o
section
variable{P:D6}{w:Di}{H:Hp}{h:Heap}{a d:Addr}{o:Obj}{fs:List (Str×V)}{mA:Str->Option CI}
theorem XO.ok(e:h.get? a=some o):ObjOk P w H h a (XO a o):=⟨e,⟨_,e⟩,fun _ _ p k=>k _ p⟩
end
end L2
open L2.XO renaming ok->Mq
namespace L2
open PySem PySem.Spec PySem.Calls PyProof.Rows
open PySem.W (findIn findObj clsIn Frag InstAt lookIn)
end L2
namespace Mi
end Mi
namespace Wb
open PySem L2 Mi
end Wb
namespace Mi
end Mi
namespace L2
open PySem PySem.Spec PyProof.Rows PySem.SeqAt PySem.AutoSeq1 PySem.MeetsSeq
end L2
namespace Wb
open PySem L2 Mi
end Wb
namespace Mi
def zg(a b:Int×Int):Bool:=decide (a.1<b.1)||(decide (a.1=b.1)&&decide (a.2<=b.2))
theorem i5{a b:Int×Int}:zg a b=true↔a.1<b.1\/(a.1=b.1/\a.2<=b.2):=by unfold zg;simp
def du(xs:List (Int×Int)):List (Int×Int):=xs.mergeSort zg
theorem dv(xs:List (Int×Int)):(du xs).Perm xs:=JC _ _
theorem jY(xs:List (Int×Int)):(du xs).Pairwise (fun a b=>zg a b=true):=
 IH (le:=zg) (fun a b c h1 h2=>by rw[i5]at *;omega) (fun a b=>by simp only[KI,i5];omega) xs
theorem gV{xs ys:List (Int×Int)}(h:ys.Perm xs)(hs:ys.Pairwise (fun a b=>zg a b=true)):ys=du xs:=
 Iu (le:=fun a b=>zg a b=true) (fun a b _ _ h1 h2=>by rw[i5]at *;exact HK (by omega) (by omega)) hs (jY xs) (h.trans (dv xs).symm)
def rJ(ks:List (Int×Int))(k:Int×Int):Res (List<|Int×Int):=fc (ks.length<1000) (if k∈ks then ks else k::ks)
def ug(ks:List (Int×Int)):Res (List<|Int×Int):=fc (ks.length<=1000)<|du ks
end Mi
namespace Wb
open PySem
theorem jZ{xs:Array Nat}{j:Nat}(up:∀a b,a<b->b<xs.size->xs.getD a 0<xs.getD b 0):∀(f lo hi:Nat),hi-lo<=f->lo<=hi->hi<=xs.size->(∀a,a<lo->xs.getD a 0<j)->(∀a,hi<=a->a<xs.size->j<=xs.getD a 0)->
  G9 xs j f lo hi<=xs.size/\(∀a,a<G9 xs j f lo hi->xs.getD a 0<j)/\(∀a,G9 xs j f lo hi<=a->a<xs.size->j<=xs.getD a 0)
 |0,lo,hi,h,hl,hs,h1,h2=>by
  unfold G9;exact⟨by omega,h1,fun a ha=>h2 a (by omega)⟩
 |f+1,lo,hi,h,hl,hs,h1,h2=>by
  unfold G9;by_cases z:lo<hi
  ·rw[if_pos z];have hm:(lo+hi)/2<hi:=by omega
   have hm2:lo<=(lo+hi)/2:=by omega
   have e:∀d d':Nat,xs.getD ((lo+hi)/2) d=xs.getD ((lo+hi)/2) d':=fun d d'=>by
    simp[Fg,show(lo+hi)/2<xs.size by omega]
   dsimp only;generalize hM:(lo+hi)/2=m at*
   by_cases y:xs.getD m j<j
   ·rw[if_pos y];refine jZ up f (m+1) hi (by omega) (by omega) hs (fun a ha=>?_) h2;by_cases q:a=m;·subst q;rw[e 0 j];exact y
    ·have:=up a m (by omega) (by omega);rw[e 0 j]at this;omega
   ·rw[if_neg y];refine jZ up f lo m (by omega) hm2 (by omega) h1<|fun a ha hb=>?_;by_cases q:a=m;·subst q;rw[e 0 j];omega
    ·have:=up m a (by omega) hb;rw[e 0 j]at this;omega
  ·rw[if_neg z];exact⟨by omega,h1,fun a ha=>h2 a (by omega)⟩
def Up(xs:Array Nat):Prop:=∀a b,a<b->b<xs.size->xs.getD a 0<xs.getD b 0
theorem i6{xs:Array Nat}(up:Up xs)(j:Nat):Ed xs j<=xs.size/\(∀a,a<Ed xs j->xs.getD a 0<j)/\(∀a,Ed xs j<=a->a<xs.size->j<=xs.getD a 0):=by
 unfold Ed;exact jZ up xs.size 0 xs.size (by omega) (by omega) (by omega) (fun a ha=>by omega) (fun a ha hb=>by omega)
abbrev Pr:=SetTable.Probe
def fU(mask:Nat)(p:Pr):Pr:=if p.more>0 then {p with j:=p.j+1,more:=p.more-1} else {p with j:=(Du mask p.i p.perturb).1,more:=DH mask (Du mask p.i p.perturb).1-(Du mask p.i p.perturb).1,i:=(Du mask p.i p.perturb).1,perturb:=(Du mask p.i p.perturb).2}
theorem k6(t:E4)(p:Pr):t.advance p=fU t.mask p:=by unfold SetTable.advance fU;rfl
def itM(mask:Nat):Nat->Pr->Pr
 |0,p=>p
 |n+1,p=>itM mask n<|fU mask p
theorem eX(mask:Nat):∀(a b:Nat)(p:Pr),itM mask (a+b) p=itM mask b (itM mask a p)
 |0,b,p=>by rw[Fj];rfl
 |a+1,b,p=>by rw[show a+1+b=(a+b)+1 by omega];exact eX mask a b<|fU mask p
theorem uh(mask n:Nat)(p:Pr):itM mask (n+1) p=fU mask (itM mask n p):=by rw[eX];rfl
def sF(mask i pt:Nat):Pr:={j:=i,more:=DH mask i-i,i,perturb:=pt,dummy:=none}
theorem jg(mask:Nat):∀(n:Nat)(p:Pr),p.more=n->p.dummy=none->itM mask (n+1) p=sF mask (Du mask p.i p.perturb).1 (Du mask p.i p.perturb).2
 |0,p,h,hd=>by
  show fU mask p=_;unfold fU sF;rw[if_neg (by omega)];cases p;simp at hd;subst hd;rfl
 |n+1,p,h,hd=>by
  show itM mask (n+1) (fU mask p)=_;have e:fU mask p={p with j:=p.j+1,more:=p.more-1}:=by unfold fU;rw[if_pos (by omega)]
  rw[e];exact jg mask n _ (by show p.more-1=n;omega) hd
theorem qk(mask i:Nat):DH mask i-i<=9:=by unfold DH;split<;>omega
def mF(mask:Nat):Nat->Nat×Nat->Nat×Nat
 |0,x=>x
 |n+1,x=>mF mask n<|Du mask x.1 x.2
theorem ui(mask:Nat):∀(n i pt:Nat),∃k,k<=10*n/\itM mask k (sF mask i pt)=sF mask (mF mask n (i,pt)).1 (mF mask n (i,pt)).2
 |0,i,pt=>⟨0,by omega,rfl⟩
 |n+1,i,pt=>by
  obtain⟨k,hk,e⟩:=ui mask n (Du mask i pt).1 (Du mask i pt).2;have r:=jg mask _ (sF mask i pt) rfl rfl;have m:=qk mask i;refine⟨(sF mask i pt).more+1+k,?_,?_⟩
  ·have:(sF mask i pt).more<=9:=m;omega
  ·rw[eX,r];exact e
theorem ql(mask:Nat):∀(a b:Nat)(x:Nat×Nat),mF mask (a+b) x=mF mask b (mF mask a x)
 |0,b,x=>by rw[Fj];rfl
 |a+1,b,x=>by rw[show a+1+b=(a+b)+1 by omega];exact ql mask a b _
theorem uj(mask:Nat):∀(n:Nat)(x:Nat×Nat),(mF mask n x).2=x.2/32^n
 |0,x=>by simp[mF]
 |n+1,x=>by
  show(mF mask n<|Du mask x.1 x.2).2=_;rw[uj mask n];show x.2/32/32^n=_;rw[IX,Nat.pow_succ,Nat.mul_comm]
theorem zh(mask:Nat):∀(n:Nat)(x:Nat×Nat),x.1<=mask->(mF mask n x).1<=mask
 |0,x,h=>h
 |n+1,x,h=>zh mask n _ (by show(x.1*5+1+x.2/32)%(mask+1)<=mask;have:=HL (x.1*5+1+x.2/32) (show 0<mask+1 by omega);omega)
def vZ(mask:Nat):Nat->Nat->Nat
 |0,i=>i
 |n+1,i=>vZ mask n<|(i*5+1)%(mask+1)
theorem uk(mask:Nat):∀(n i:Nat),mF mask n (i,0)=(vZ mask n i,0)
 |0,i=>rfl
 |n+1,i=>by
  show mF mask n (Du mask i 0)=_;rw[show Du mask i 0=((i*5+1)%(mask+1),0) by simp[Du],uk mask n];rfl
theorem jh(mask:Nat):∀(a b i:Nat),vZ mask (a+b) i=vZ mask b (vZ mask a i)
 |0,b,i=>by rw[Fj];rfl
 |a+1,b,i=>by rw[show a+1+b=(a+b)+1 by omega];exact jh mask a b _
def isMask(m:Nat):Prop:=m=7\/m=31\/m=127\/m=511\/m=2047
def zM(m:Nat):Nat->Nat->Nat->Nat
 |0,_,acc=>acc
 |n+1,i,acc=>zM m n ((i*5+1)%(m+1))<|acc|||2^i
theorem qm(m:Nat):∀(n i acc e:Nat),(zM m n i acc).testBit e=true->acc.testBit e=true\/∃k,k<n/\vZ m k i=e
 |0,i,acc,e,h=>.inl h
 |n+1,i,acc,e,h=>by
  rcases qm m n _ _ e h with q|⟨k,hk,q⟩
  ·rw[Nat.testBit_or,KI]at q;rcases q with q|q
   ·exact .inl q
   ·rw[Nat.testBit_two_pow,decide_eq_true_eq]at q;exact .inr ⟨0,by omega,q⟩
  ·exact .inr ⟨k+1,by omega,q⟩
theorem BG{m:Nat}(h:isMask m):(∀e,e<m+1->∃k,k<m+1/\vZ m k 0=e)/\vZ m (m+1) 0=0:=by
 have key:∀m,zM m (m+1) 0 0=2^(m+1)-1->∀e,e<m+1->∃k,k<m+1/\vZ m k 0=e:=fun m hv e he=>by
  have hb:(zM m (m+1) 0 0).testBit e=true:=by rw[hv,Nat.testBit_two_pow_sub_one];simpa using he
  rcases qm m _ _ _ e hb with q|q;·simp at q
  ·exact q
 rcases h with rfl|rfl|rfl|rfl|rfl;·exact⟨key 7 (by decide +kernel),by decide +kernel⟩
 ·exact⟨key 31 (by decide +kernel),by decide +kernel⟩
 ·exact⟨key 127 (by decide +kernel),by decide +kernel⟩
 ·exact⟨key 511 (by decide +kernel),by decide +kernel⟩
 ·exact⟨key 2047 (by decide +kernel),by decide +kernel⟩
theorem um{m:Nat}(h:isMask m){i e:Nat}(hi:i<=m)(he:e<=m):∃n,n<=m/\vZ m n i=e:=by
 obtain⟨h1,h2⟩:=BG h;obtain⟨a,ha,ea⟩:=h1 i (by omega);obtain⟨b,hb,eb⟩:=h1 e (by omega);by_cases z:a<=b
 ·refine⟨b- a,by omega,?_⟩;rw[<-ea,<-jh,show a+(b-a)=b by omega,eb]
 ·refine⟨m+1- a+b,by omega,?_⟩;rw[<-ea,<-jh,show a+(m+1-a+b)=(m+1)+b by omega,jh,h2,eb]
theorem An{m:Nat}(h:isMask m){p:Pr}(hd:p.dummy=none)(hm:p.more<=9)(hp:p.perturb<2^64){e:Nat}(he:e<=m):∃k,k<10*Eo m/\(itM m k p).j=e:=by
 have r:=jg m p.more p rfl hd;obtain⟨k1,hk1,e1⟩:=ui m 12 (Du m p.i p.perturb).1 (Du m p.i p.perturb).2;have z:(mF m 12 ((Du m p.i p.perturb).1,(Du m p.i p.perturb).2)).2=0:=by
  rw[uj];show p.perturb/32/32^12=0;rw[IX];exact Kq (by omega)
 have i0:(Du m p.i p.perturb).1<=m:=by
  show(p.i*5+1+p.perturb/32)%(m+1)<=m;have:=HL (p.i*5+1+p.perturb/32) (show 0<m+1 by omega);omega
 have i1:=zh m 12 ((Du m p.i p.perturb).1,(Du m p.i p.perturb).2) i0;rw[z]at e1;generalize (mF m 12 ((Du m p.i p.perturb).1,(Du m p.i p.perturb).2)).1=i at*
 obtain⟨n,hn,en⟩:=um h i1 he;obtain⟨k2,hk2,e2⟩:=ui m n i 0;rw[uk,en]at e2;refine⟨p.more+1+k1+k2,?_,?_⟩;·unfold Eo;omega
 ·rw[eX,eX,r,e1,e2];rfl
def InP(xs:Array Nat)(j:Nat):Prop:=∃a,a<xs.size/\xs.getD a 0=j
theorem ny{xs:Array Nat}{a:Nat}(h:a<xs.size):xs[a]? =some (xs.getD a 0):=by simp[Fg,h]
theorem gr{xs:Array Nat}(up:Up xs){a:Nat}(h:a<xs.size):Ed xs (xs.getD a 0)=a:=by
 obtain⟨h0,h1,h2⟩:=i6 up<|xs.getD a 0;generalize Ed xs (xs.getD a 0)=b at*
 by_cases z:a<b;·have:=h1 a z;omega
 ·by_cases y:b< a
  ·have:=up b a y h;have:=h2 b (by omega) (by omega);omega
  ·omega
theorem rK{xs:Array Nat}(up:Up xs){j:Nat}(h:¬InP xs j):(xs[Ed xs j]? ==some j)=false:=by
 obtain⟨h0,h1,h2⟩:=i6 up j;by_cases z:Ed xs j<xs.size
 ·rw[ny z];rw[beq_eq_false_iff_ne];intro e;injection e with e;exact h ⟨_,z,e⟩
 ·rw[FZ (by omega)];rfl
structure Tp(t:E4)(hs:List Int):Prop where
 dm:t.dummies= #[]
 sz:t.place.size=hs.length
 up:Up t.place
 le:∀j,InP t.place j->j<=t.mask
 msk:isMask t.mask
 reach:∀i h,hs[i]? =some h->∃k,(itM t.mask k<|t.probeStart h).j=t.place.getD i 0/\∀k',k'<k->InP t.place (itM t.mask k'<|t.probeStart h).j
structure Tb(t:E4)(hs:List Int):Prop extends Tp t hs where
 room:hs.length*5<t.mask*3
section
variable{t:E4}{hs:List Int}
theorem Tb.live(T:Tb t hs){i:Nat}(h:i<t.place.size):t.slot (t.place.getD i 0)=.live i:=by
 unfold LK;dsimp only;rw[gr T.up h,ny h];simp
theorem Tb.empty(T:Tb t hs){j:Nat}(h:¬InP t.place j):t.slot j=.empty:=by
 unfold LK;dsimp only;rw[if_neg (by rw[rK T.up h];decide)];unfold Kd;rw[T.dm];rfl
theorem uo(t:E4)(h:Int):(t.probeStart h).dummy=none/\(t.probeStart h).more<=9/\(t.probeStart h).perturb<2^64:=by
 refine⟨rfl,qk _ _,?_⟩;show(h%(2^64:Int)).toNat<2^64;omega
theorem zj{xs:Array Nat}(up:Up xs){m:Nat}(h:xs.size<=m):∃j,j<=m/\¬InP xs j:=by
 have base:∀n,n<=xs.size->(∀j,j<n->InP xs j)->∀a,a<n->xs.getD a 0=a:=by
  intro n hn hin a
  induction a using KJ with
  |_ a ih=>
   intro ha;obtain⟨b,hb,eb⟩:=hin a ha;have lo:∀a,a<xs.size->a<=xs.getD a 0:=by
    intro a
    induction a with
    |zero=>intro _;omega
    |succ a ih=>intro h;have:=ih (by omega);have:=up a (a+1) (by omega) h;omega
   have:=lo b hb;by_cases z:b=a;·rw[<-z];rw[z]at eb;rw[z];exact eb
   ·have:=ih b (by omega) (by omega);omega
 by_cases hall:∀j,j<xs.size->InP xs j
 ·refine⟨xs.size,h,fun⟨a,ha,ea⟩=>?_⟩;have:=base xs.size (by omega) hall a ha;omega
 ·have ⟨j,hj⟩:=Ho.mp hall;have ⟨h1,h2⟩:=Ig.mp hj;exact⟨j,by omega,h2⟩
theorem Tb.gap(T:Tb t hs){p:Pr}(hp:p.dummy=none/\p.more<=9/\p.perturb<2^64):∃k,k<10*Eo t.mask/\¬InP t.place (itM t.mask k p).j/\∀k',k'<k->InP t.place (itM t.mask k' p).j:=by
 obtain⟨e,he,hn⟩:=zj T.up (m:=t.mask) (by have:=T.sz;have:=T.room;omega);obtain⟨k,hk,ek⟩:=An T.msk hp.1 hp.2.1 hp.2.2 he;rw[<-ek]at hn;clear ek
 induction k using KJ with
 |_ k ih=>
  by_cases z:∀k',k'<k->InP t.place (itM t.mask k' p).j;·exact⟨k,hk,hn,z⟩
  ·have ⟨k',h'⟩:=Ho.mp z;have ⟨h1,h2⟩:=Ig.mp h';exact ih k' h1 h2 (by omega)
theorem Tb.go(T:Tb t hs){hashAt:Nat->Int}(hA:∀i h,hs[i]? =some h->hashAt i=h)(h:Int):∀(E fuel:Nat)(p:Pr),p.dummy=none->E<fuel->¬InP t.place (itM t.mask E p).j->(∀k',k'<E->InP t.place (itM t.mask k' p).j)->
  (∃k i,k<E/\i<hs.length/\t.place.getD i 0=(itM t.mask k p).j/\hs[i]? =some h/\Ga t hashAt h fuel p=some (.candidate (itM t.mask k p).j i (itM t.mask (k+1) p))/\∀k',k'<k->∀i,t.place.getD i 0=(itM t.mask k' p).j->i<hs.length->hs[i]? ≠some h)\/
  (Ga t hashAt h fuel p=some (.empty (itM t.mask E p).j none)/\∀k',k'<E->∀i,t.place.getD i 0=(itM t.mask k' p).j->i<hs.length->hs[i]? ≠some h)
 |0,fuel+1,p,hd,hf,hn,ha=>by
  refine .inr ⟨?_,fun k' hk=>absurd hk (by omega)⟩;unfold Ga;rw[T.empty (j:=p.j) hn,hd];rfl
 |E+1,fuel+1,p,hd,hf,hn,ha=>by
  obtain⟨a,h1,h2⟩:=ha 0 (by omega);have h2':t.place.getD a 0=p.j:=h2;have one:∀i,t.place.getD i 0=p.j->i<hs.length->i=a:=fun i hi hl=>by
   have hi':i<t.place.size:=by have:=T.sz;omega
   rw[<-gr T.up hi',hi,<-h2',gr T.up h1]
  unfold Ga;rw[<-h2',T.live h1];dsimp only;have hl:a<hs.length:=by have:=T.sz;omega
  by_cases z:hashAt a=h
  ·refine .inl ⟨0,a,by omega,hl,h2,?_,?_,fun k' hk=>absurd hk (by omega)⟩
   ·have e:=hA a hs[a] (CK hl);rw[CK hl,<-e,z]
   ·rw[if_pos (by simpa using z),k6,h2'];rfl
  ·rw[if_neg (by simpa using z),k6];have hne:∀i,t.place.getD i 0=p.j->i<hs.length->hs[i]? ≠some h:=fun i hi hl' e=>z (by rw[one i hi hl']at e;exact hA a h e);have hd':(fU t.mask p).dummy=none:=by unfold fU;split<;>exact hd
   rcases Tb.go T hA h E fuel (fU t.mask p) hd' (by omega) hn (fun k' hk=>ha (k'+1) (by omega))with⟨k,i,g1,g2,g3,g4,g5,g6⟩|⟨g1,g2⟩
   ·refine .inl ⟨k+1,i,by omega,g2,g3,g4,g5,fun k' hk=>?_⟩;cases k' with
    |zero=>exact hne
    |succ k'=>exact g6 k' (by omega)
   ·refine .inr ⟨g1,fun k' hk=>?_⟩;cases k' with
    |zero=>exact hne
    |succ k'=>exact g2 k' (by omega)
theorem k9{α:Type}(xs:Array α)(p:Nat)(x:α):(Em xs p x).toList=xs.toList.take p++x::xs.toList.drop p:=by
 unfold Em;simp[DO,Ff,FY]
theorem eO{α:Type}(xs:Array α){p:Nat}(h:p<=xs.size)(x:α):(Em xs p x).size=xs.size+1:=by
 rw[<-Dh,k9];simp;omega
theorem wX{α:Type}(xs:Array α){p:Nat}(h:p<=xs.size)(x:α)(a:Nat):(Em xs p x)[a]? =if a<p then xs[a]? else if a=p then some x else xs[a-1]? :=by
 rw[<-CT,k9];by_cases z:a<p;·rw[if_pos z,D3 (by simp;omega),DP z,CT]
 ·rw[if_neg z,D4 (by simp;omega)];have hl:(List.take p xs.toList).length=p:=by simp;omega
  rw[hl];by_cases y:a=p;·rw[if_pos y,y];simp
  ·rw[if_neg y,show a- p=(a- p- 1)+1 by omega,En,E1,CT];congr 1;omega
theorem i7(xs:Array Nat){p:Nat}(h:p<=xs.size)(x:Nat)(a:Nat):(Em xs p x).getD a 0=if a<p then xs.getD a 0 else if a=p then x else xs.getD (a-1) 0:=by
 rw[DM,wX xs h];split;·rw[DM]
 ·split;·rfl
  ·rw[DM]
theorem qo{xs:Array Nat}{p:Nat}(h:p<=xs.size){x j:Nat}:InP (Em xs p x) j↔j=x\/InP xs j:=by
 constructor
 ·rintro ⟨a,ha,e⟩;rw[eO xs h]at ha;rw[i7 xs h]at e;by_cases z:a<p;·rw[if_pos z]at e;exact .inr ⟨a,by omega,e⟩
  ·rw[if_neg z]at e;by_cases y:a=p;·rw[if_pos y]at e;exact .inl e.symm
   ·rw[if_neg y]at e;exact .inr ⟨a-1,by omega,e⟩
 ·rintro (rfl | ⟨a,ha,e⟩);·exact⟨p,by rw[eO xs h];omega,by rw[i7 xs h,if_neg (by omega),if_pos rfl]⟩
  ·by_cases z:a< p;·exact⟨a,by rw[eO xs h];omega,by rw[i7 xs h,if_pos z,e]⟩
   ·exact⟨a+1,by rw[eO xs h];omega,by rw[i7 xs h,if_neg (by omega),if_neg (by omega)];exact e⟩
theorem Tb.put(T:Tb t hs){h:Int}{E:Nat}(hn:¬InP t.place (itM t.mask E<|t.probeStart h).j)(hj:(itM t.mask E<|t.probeStart h).j<=t.mask)(ha:∀k',k'<E->InP t.place (itM t.mask k'<|t.probeStart h).j):
  (t.put (itM t.mask E<|t.probeStart h).j).2<=hs.length/\(t.put (itM t.mask E<|t.probeStart h).j).1.mask=t.mask/\Tp (t.put (itM t.mask E<|t.probeStart h).j).1 (hs.take (t.put (itM t.mask E<|t.probeStart h).j).2++h::hs.drop (t.put (itM t.mask E<|t.probeStart h).j).2):=by
 obtain⟨b0,b1,b2⟩:=i6 T.up (itM t.mask E<|t.probeStart h).j;generalize hJ:(itM t.mask E<|t.probeStart h).j=j at*
 have hp2:(t.put j).2=Ed t.place j:=rfl;have hpl:(t.put j).1.place=Em t.place (Ed t.place j) j:=rfl;have hmk:(t.put j).1.mask=t.mask:=rfl;have hst:∀h,(t.put j).1.probeStart h=t.probeStart h:=fun _=>rfl;have hsz:=T.sz;generalize Ed t.place j=p at*
 rw[hp2];refine⟨by omega,rfl,?_,?_,?_,?_,T.msk,?_⟩
 ·show(if Kd t.dummies j then _ else t.dummies)= #[];unfold Kd;rw[T.dm];rfl
 ·rw[hpl,eO _ b0];simp;omega
 ·rw[hpl];intro a b hab hb;rw[eO _ b0]at hb;rw[i7 _ b0,i7 _ b0];have gt:∀a,p<=a->a<t.place.size->j<t.place.getD a 0:=fun a h1 h2=>by
   have:=b2 a h1 h2;by_cases z:t.place.getD a 0=j;·exact absurd ⟨a,h2,z⟩ hn
   ·omega
  by_cases z1:a<p
  ·rw[if_pos z1];by_cases z2:b<p;·rw[if_pos z2];exact T.up a b hab (by omega)
   ·rw[if_neg z2];by_cases z3:b=p;·rw[if_pos z3];exact b1 a z1
    ·rw[if_neg z3];have:=b1 a z1;have:=gt (b-1) (by omega) (by omega);omega
  ·rw[if_neg z1,if_neg (show ¬b< p by omega),if_neg (show ¬b=p by omega)];by_cases z3:a=p;·rw[if_pos z3];exact gt (b-1) (by omega) (by omega)
   ·rw[if_neg z3];exact T.up (a-1) (b-1) (by omega) (by omega)
 ·intro q hq;rw[hpl,qo b0]at hq;rcases hq with rfl|hq
  ·exact hj
  ·exact T.le q hq
 ·intro i g hg;rw[hmk,hst,hpl];have mono:∀q,InP t.place q->InP (Em t.place p j) q:=fun q hq=>(qo b0).mpr (.inr hq);have hl:(hs.take p).length=p:=by simp;omega
  by_cases z1:i<p
  ·rw[D3 (by omega),DP z1]at hg;obtain⟨k,ek,hk⟩:=T.reach i g hg;exact⟨k,by rw[ek,i7 _ b0,if_pos z1],fun k' h'=>mono _<|hk k' h'⟩
  ·rw[D4 (by omega),hl]at hg;by_cases z2:i=p
   ·rw[z2,Gp,EJ]at hg;cases hg;exact⟨E,by rw[hJ,i7 _ b0,if_neg z1,if_pos z2],fun k' h'=>mono _<|ha k' h'⟩
   ·rw[show i- p=(i- p- 1)+1 by omega,En,E1]at hg;rw[show p+(i-p-1)=i-1 by omega]at hg;obtain⟨k,ek,hk⟩:=T.reach (i-1) g hg;exact⟨k,by rw[ek,i7 _ b0,if_neg z1,if_neg z2],fun k' h'=>mono _<|hk k' h'⟩
end
def Oc(ow:Array (Option Nat))(j:Nat):Prop:=(ow.getD j<|some 0).isSome=true
theorem lW(m i pt:Nat):∀k,k<=DH m i-i->itM m k (sF m i pt)={j:=i+k,more:=DH m i-i-k,i:=i,perturb:=pt,dummy:=none}
 |0,_=>rfl
 |k+1,h=>by
  rw[uh,lW m i pt k (by omega)];unfold fU;rw[if_pos (by show DH m i-i-k>0;omega)];rfl
theorem rL(m i:Nat):i<=DH m i:=by unfold DH;split<;>omega
theorem qp{m:Nat}(ow:Array (Option Nat)):∀(f i pt n:Nat),n<f->¬Oc ow (mF m n (i,pt)).1->
  ∃j E,ES m ow f i pt=some j/\(itM m E<|sF m i pt).j=j/\¬Oc ow j/\∀k',k'<E->Oc ow (itM m k'<|sF m i pt).j
 |0,_,_,_,h,_=>absurd h (by omega)
 |f+1,i,pt,n,h,hn=>by
  have hr:=rL m i;unfold ES;cases hf:(DY<|DH m i+1-i).find? fun k=>(ow.getD (i+k)<|some 0).isNone with
  |some k=>
   have hk:=Gd.mp<|List.mem_of_find?_eq_some hf;have hp:=List.find?_some hf;have hb:=(List.find?_range_eq_some.mp hf).2.2;refine⟨i+k,k,rfl,by rw[lW m i pt k (by omega)],?_,fun k' hk'=>?_⟩;·unfold Oc;simp at hp ⊢;exact hp
   ·rw[lW m i pt k' (by omega)];have:=hb k' hk';unfold Oc;simpa using this
  |none=>
   have hall:=List.find?_eq_none.mp hf;have occ:∀k,k<=DH m i-i->Oc ow (i+k):=fun k hk=>by
    have:=hall k (Gd.mpr (by omega));unfold Oc;cases q:ow.getD (i+k) (some 0)with
    |none=>rw[q]at this;exact absurd rfl this
    |some a=>rfl
   cases n with
   |zero=>exact absurd (occ 0 (by omega)) hn
   |succ n=>
    obtain⟨j,E,e1,e2,e3,e4⟩:=qp ow f (Du m i pt).1 (Du m i pt).2 n (by omega) hn;have r:=jg m (DH m i-i) (sF m i pt) rfl rfl;refine⟨j,(DH m i-i)+1+E,e1,?_,e3,fun k' hk'=>?_⟩;·rw[eX,r];exact e2
    ·by_cases z:k'<=DH m i- i;·rw[lW m i pt k' z];exact occ k' z
     ·rw[show k'=(DH m i- i)+1+(k'- ((DH m i- i)+1)) by omega,eX,r];exact e4 _ (by omega)
abbrev stM(m:Nat)(h:Int):Pr:=sF m (Dy h%(m+1))<|Dy h
theorem wY(h:Int):Dy h<2^64:=by show(h%(2^64:Int)).toNat<2^64;omega
theorem wZ{m:Nat}(hm:isMask m)(ow:Array (Option Nat))(h:Int){e:Nat}(he:e<=m)(hn:¬Oc ow e):
  ∃j E,ES m ow (Eo m) (Dy h%(m+1)) (Dy h)=some j/\(itM m E<|stM m h).j=j/\¬Oc ow j/\∀k',k'<E->Oc ow (itM m k'<|stM m h).j:=by
 have i0:Dy h%(m+1)<=m:=by have:=HL (Dy h) (show 0<m+1 by omega);omega
 have z:(mF m 13 (Dy h%(m+1),Dy h)).2=0:=by
  rw[uj];exact Kq (by have:=wY h;show Dy h<32^13;omega)
 have i1:=zh m 13 (Dy h%(m+1),Dy h) i0;obtain⟨n,hn',en⟩:=um hm i1 he;refine qp ow _ _ _ (13+n) (by unfold Eo;omega) ?_;rw[ql,show mF m 13 (Dy h%(m+1),Dy h)=((mF m 13 (Dy h%(m+1),Dy h)).1,0)from HK rfl z,uk,en];exact hn
structure Lay(m:Nat)(hs:List Int)(ow:Array (Option Nat))(k:Nat):Prop where
 sz:ow.size=m+1
 cnt:ow.toList.countP JI=k
 inj:∀(j j' i:Nat),ow[j]? =some (some i)->ow[j']? =some (some i)->j=j'
 lt:∀(j i:Nat),ow[j]? =some (some i)->i<k
 reach:∀(j i:Nat)(h:Int),ow[j]? =some (some i)->hs[i]? =some h->∃n,(itM m n<|stM m h).j=j/\∀n',n'<n->Oc ow (itM m n'<|stM m h).j
theorem i8{ow:Array (Option Nat)}{j:Nat}(hj:j<ow.size):Oc ow j↔∃i,ow[j]? =some (some i):=by
 unfold Oc;simp[Fg,hj];cases ow[j]<;>simp
theorem Lay.gap{m:Nat}{hs:List Int}{ow:Array (Option Nat)}{k:Nat}(L:Lay m hs ow k)(h:k<=m):∃e,e<=m/\¬Oc ow e:=by
 by_cases z:∀e,e<=m->Oc ow e
 ·exfalso;have:ow.toList.countP JI=ow.toList.length:=List.countP_eq_length.mpr fun a ha=>by
   obtain⟨j,hj,e⟩:=EK.mp ha;have hj':j<ow.size:=by simpa using hj
   obtain⟨i,hi⟩:=(i8 hj').mp (z j (by have:=L.sz;omega));rw[<-e];have:ow.toList[j]=some i:=by
    have q:ow.toList[j]? =some (some i):=by rw[CT];exact hi
    rw[CK hj]at q;injection q
   rw[this];rfl
  rw[L.cnt,Dh,L.sz]at this;omega
 ·have ⟨e,he⟩:=Ho.mp z;have ⟨h1,h2⟩:=Ig.mp he;exact⟨e,h1,h2⟩
theorem Ao{ow:Array (Option Nat)}{j:Nat}(h:¬Oc ow j):j<ow.size:=by
 by_cases z:j<ow.size;·exact z
 ·exact absurd (by unfold Oc;simp[Fg,z]) h
theorem Lay.step{m:Nat}(hm:isMask m){hs:List Int}{ow:Array (Option Nat)}{k:Nat}(L:Lay m hs ow k)(hk:k<=m){h:Int}(hh:hs[k]? =some h):
  ∃j,ES m ow (Eo m) (Dy h%(m+1)) (Dy h)=some j/\Lay m hs (ow.setIfInBounds j<|some k) (k+1):=by
 obtain⟨e,he,hn⟩:=L.gap hk;obtain⟨j,E,e1,e2,e3,e4⟩:=wZ hm ow h he hn;have hj:=Ao e3;refine⟨j,e1,?_⟩;have none_j:ow[j]? =some none:=by
  have:¬∃i,ow[j]? =some (some i):=fun z=>e3<|(i8 hj).mpr z;rw[Dd hj]at this ⊢;cases q:ow[j]with
  |none=>rfl
  |some i=>exact absurd ⟨i,by rw[q]⟩ this
 have at_:∀q,(ow.setIfInBounds j<|some k)[q]? =if q=j then some (some k)else ow[q]? :=fun q=>by
  rw[Array.getElem?_setIfInBounds];by_cases z:j=q;·subst z;simp[hj]
  ·rw[if_neg z,if_neg<|Fd z]
 have oc:∀q,Oc ow q->Oc (ow.setIfInBounds j<|some k) q:=fun q hq=>by
  by_cases hs':q<ow.size
  ·obtain⟨i,hi⟩:=(i8 hs').mp hq;refine(i8 (by simpa using hs')).mpr ?_;rw[at_];by_cases z:q=j;·exact⟨k,by rw[if_pos z]⟩
   ·exact⟨i,by rw[if_neg z];exact hi⟩
  ·unfold Oc;simp[Fg,hs']
 refine⟨by simp[L.sz],?_,?_,?_,?_⟩
 ·have hj2:j< ow.toList.length:=by simpa using hj
  have q:ow.toList[j]=none:=by
   have:=none_j;rw[<-CT,CK hj2]at this;injection this
  rw[Gg,List.countP_set hj2,q,L.cnt];simp
 ·intro a b i ha hb;rw[at_]at ha hb;by_cases z1:a=j
  ·rw[if_pos z1]at ha;injection ha with ha;injection ha with ha;by_cases z2:b=j;·rw[z1,z2]
   ·rw[if_neg z2]at hb;have:=L.lt b i hb;omega
  ·rw[if_neg z1]at ha;by_cases z2:b=j
   ·rw[if_pos z2]at hb;injection hb with hb;injection hb with hb;have:=L.lt a i ha;omega
   ·rw[if_neg z2]at hb;exact L.inj a b i ha hb
 ·intro a i ha;rw[at_]at ha;by_cases z1:a=j
  ·rw[if_pos z1]at ha;injection ha with ha;injection ha with ha;omega
  ·rw[if_neg z1]at ha;have:=L.lt a i ha;omega
 ·intro a i g ha hg;rw[at_]at ha;by_cases z1:a=j
  ·rw[if_pos z1]at ha;injection ha with ha;injection ha with ha;subst ha;rw[hh]at hg;cases hg;exact⟨E,by rw[z1];exact e2,fun n' h'=>oc _<|e4 n' h'⟩
  ·rw[if_neg z1]at ha;obtain⟨n,q1,q2⟩:=L.reach a i g ha hg;exact⟨n,q1,fun n' h'=>oc _<|q2 n' h'⟩
theorem rM(m:Nat)(hs:List Int):Lay m hs (J8 (m+1) none) 0:=by
 have no:∀(j i:Nat),(J8 (m+1) (none:Option Nat))[j]? =some (some i)->False:=fun j i h=>by
  rw[Array.getElem?_replicate]at h;split at h<;>simp at h
 refine⟨by simp,?_,fun j j' i h _=>(no j i h).elim,fun j i h=>(no j i h).elim,fun j i _ h _=>(no j i h).elim⟩;rw[Array.toList_replicate,List.countP_replicate];rfl
abbrev lX(m:Nat)(acc:Option (Array (Option Nat)×Nat))(h:Int):Option (Array (Option Nat)×Nat):=do
 let (owner,k) <-acc
 let j <-ES m owner (Eo m) (Dy h%(m+1)) (Dy h)
 pure (owner.setIfInBounds j<|some k,k+1)
theorem nz{m:Nat}(hm:isMask m)(hs:List Int):∀(r:List Int)(ow:Array (Option Nat))(k:Nat),Lay m hs ow k->hs.drop k=r->hs.length<=m->k<=hs.length->∃ow',r.foldl (lX m) (some (ow,k))=some (ow',hs.length)/\Lay m hs ow' hs.length
 | [],ow,k,L,hd,hl,hk=>by
  have:k=hs.length:=by
   have:=congrArg FV hd;simp at this;omega
  subst this;exact⟨ow,rfl,L⟩
 |h::r,ow,k,L,hd,hl,hk=>by
  have hk2:k<hs.length:=by
   have:=congrArg FV hd;simp at this;omega
  have hh:hs[k]? =some h:=by
   have:(hs.drop k)[0]? =some h:=by rw[hd];rfl
   rw[E1]at this;exact this
  obtain⟨j,e,L'⟩:=L.step hm (by omega) hh;have e':lX m (some (ow,k)) h=some (ow.setIfInBounds j<|some k,k+1):=by
   show(ES m ow (Eo m) (Dy h%(m+1))<|Dy h).bind _=_;rw[e];rfl
  rw[J5,e'];exact nz hm hs r _ _ L' (by rw[<-L6,hd];rfl) hl (by omega)
theorem nA{m:Nat}(hm:isMask m){hs:Array Int}(hl:hs.size<=m):∃ow,SetTable.layClean m hs=some ow/\Lay m hs.toList ow hs.size:=by
 obtain⟨ow,e,L⟩:=nz hm hs.toList hs.toList _ 0 (rM m hs.toList) rfl (by simpa using hl) (by simp);refine⟨ow,?_,by simpa using L⟩;show Option.map (·.1) (hs.foldl (lX m)<|some (J8 (m+1) none,0))=_;rw[<-Array.foldl_toList,e];rfl
abbrev de(m:Nat)(ow:Array (Option Nat)):List (Nat×Nat):=(DY<|m+1).filterMap fun j=>(ow.getD j none).map (j, ·)
theorem fu{m:Nat}{ow:Array (Option Nat)}(hs:ow.size=m+1){j i:Nat}:(j,i)∈de m ow↔ow[j]? =some (some i):=by
 unfold de;rw[GA];constructor
 ·rintro ⟨q,hq,e⟩;rw[Ds]at e;obtain⟨a,e1,e2⟩:=e;injection e2 with e2 e3;subst e2;subst e3;have:=Gd.mp hq;have hq':q<ow.size:=by omega
  simp[Fg,hq']at e1;rw[Dd hq',e1]
 ·intro h;have hj:j<ow.size:=(Ep.mp h).1;refine⟨j,Gd.mpr (by omega),?_⟩;rw[DM,h];rfl
theorem lY{f:Nat->Option Nat}:∀{l:List Nat},l.Pairwise (· < ·)->((l.filterMap fun j=>(f j).map (j, ·)).map (·.1)).Pairwise (· < ·)
 | [],_=>by simp
 |a::l,h=>by
  have ih:=lY (f:=f) (HM.mp h).2;cases e:f a with
  |none=>simpa [e] using ih
  |some b=>
   rw[Iy (b:=(a,b)) (by rw[e];rfl),DR];refine HM.mpr ⟨fun q hq=>?_,ih⟩;obtain⟨x,hx,rfl⟩:=Dw.mp hq;obtain⟨c,hc,e2⟩:=GA.mp hx;rw[Ds]at e2;obtain⟨_,_,rfl⟩:=e2;exact(HM.mp h).1 c hc
theorem ur{f:Nat->Option Nat}:∀(l:List Nat),(l.filterMap fun j=>(f j).map (j, ·)).length=(l.map f).countP JI
 | []=>rfl
 |a::l=>by
  have ih:=ur (f:=f) l;cases e:f a with
  |none=>rw[List.filterMap_cons_none (by rw[e];rfl),ih];simp[e]
  |some b=>rw[Iy (b:=(a,b)) (by rw[e];rfl)];simp[e,ih]
theorem uv{m k:Nat}{hs:List Int}{ow:Array (Option Nat)}(L:Lay m hs ow k):(de m ow).length=k:=by
 unfold de;rw[ur (f:=fun j=>ow.getD j none),<-L.cnt];congr 1;refine List.ext_getElem (by simp[L.sz]) fun i h1 h2=>?_;simp at h1 h2;simp[Fg,h2]
theorem uw:∀(n:Nat)(l:List Nat),l.Nodup->(∀x∈l,x<n)->l.length<=n
 |0,l,_,h=>by
  cases l with
  |nil=>simp
  |cons a l=>exact absurd (h a<|Dc ..) (by omega)
 |n+1,l,nd,h=>by
  by_cases z:n∈l
  ·have:=uw n (l.erase n) (nd.erase n) fun x hx=>by
    have h1:=h x<|GX hx;have h2:x≠n:=fun e=>by subst e;exact(Gv nd) hx
    omega
   rw[Gw z]at this;omega
  ·have:=uw n l nd fun x hx=>by
    have h1:=h x hx;have h2:x≠n:=fun e=>z<|e▸hx;omega
   omega
theorem qq:∀(n:Nat)(l:List Nat),l.Nodup->(∀x∈l,x<n)->l.length=n->l.Perm (DY n)
 |0,l,_,_,h=>by rw[FN.mp h];exact .refl _
 |n+1,l,nd,h,hl=>by
  have z:n∈l:=by
   by_cases z:n∈l;·exact z
   ·have:=uw n l nd fun x hx=>by
     have h1:=h x hx;have h2:x≠n:=fun e=>z<|e▸hx;omega
    omega
  have:=qq n (l.erase n) (nd.erase n) (fun x hx=>by
    have h1:=h x<|GX hx;have h2:x≠n:=fun e=>by subst e;exact(Gv nd) hx
    omega) (by rw[Gw z];omega)
  rw[List.range_succ];exact(List.perm_cons_erase z).trans ((List.Perm.cons n this).trans (List.perm_append_singleton n _).symm)
theorem x3{l:List Nat}(h:l.Pairwise (· < ·)):Up l.toArray:=fun a b hab hb=>by
 have hb':b<l.length:=by simpa using hb
 have:=EY.mp h a b (by omega) hb' hab;simpa [Fg,show a<l.length by omega,hb'] using this
theorem l8{m i:Nat}(h:i<=m):i+(DH m i-i)<=m:=by unfold DH;split<;>omega
theorem Ap{m:Nat}{p:Pr}(h:p.j+p.more<=m):(fU m p).j+(fU m p).more<=m:=by
 unfold fU;split;·show p.j+1+(p.more-1)<=m;omega
 ·refine l8 ?_;show(p.i*5+1+p.perturb/32)%(m+1)<=m;have:=HL (p.i*5+1+p.perturb/32) (show 0<m+1 by omega);omega
theorem Aq{m:Nat}:∀(n:Nat){p:Pr},p.j+p.more<=m->(itM m n p).j+(itM m n p).more<=m
 |0,_,h=>h
 |n+1,_,h=>Aq n<|Ap h
theorem yk{m:Nat}{h:Int}(n:Nat):(itM m n<|stM m h).j<=m:=by
 have:=Aq (m:=m) n (p:=stM m h) (l8 (i:=Dy h%(m+1)) (by have:=HL (Dy h) (show 0<m+1 by omega);omega));omega
theorem x4{m:Nat}(hm:isMask m){hs:Array Int}(hl:hs.size<=m)(fi mo:Nat)(led plain:Bool):
  ∃t order,LL m fi mo led plain hs=some (t,order)/\t.mask=m/\t.led=led/\t.plain=plain/\order.toList.Perm (DY hs.size)/\Tp t (order.toList.map fun i=>hs.toList.getD i 0):=by
 obtain⟨ow,e,L⟩:=nA hm hl;refine⟨_,_,by unfold LL;rw[e];rfl,rfl,rfl,rfl,?_,?_⟩
 ·show((de m ow).map (·.2)).toArray.toList.Perm _;have len:=uv L;have inc:=lY (f:=fun j=>ow.getD j none)<|IY (n:=m+1);have nd1:((de m ow).map (·.1)).Nodup:=inc.imp fun h=>D8 h;refine qq hs.size _ ?_ (fun x hx=>?_) (by simpa using len)
  ·show((de m ow).map (·.2)).Nodup;rw[DQ,FE];rw[DQ,FE]at nd1;refine nd1.imp_of_mem fun{a b}ha hb hne e=>hne ?_;have h1:=(fu L.sz (j:=a.1) (i:=a.2)).mp ha;have h2:=(fu L.sz (j:=b.1) (i:=b.2)).mp hb;rw[<-e]at h2;exact L.inj _ _ _ h1 h2
  ·obtain⟨y,hy,rfl⟩:=Dw.mp (show x∈(de m ow).map (·.2)from hx);exact L.lt _ _<|(fu L.sz (j:=y.1) (i:=y.2)).mp hy
 ·have inc:=lY (f:=fun j=>ow.getD j none)<|IY (n:=m+1);have inp:∀j,InP ((de m ow).map (·.1)).toArray j↔∃i,ow[j]? =some (some i):=fun j=>by
   constructor
   ·rintro ⟨a,ha,e⟩;have ha':a<(de m ow).length:=by simpa using ha
    have:((de m ow)[a]).1=j:=by simpa [Fg,ha'] using e
    have mem:=F3 ha';rw[<-this];exact⟨_,(fu L.sz (j:=(de m ow)[a].1) (i:=(de m ow)[a].2)).mp mem⟩
   ·rintro ⟨i,hi⟩;have mem:=(fu L.sz).mpr hi;obtain⟨a,ha,e⟩:=EK.mp mem;exact⟨a,by simpa using ha,by simp[Fg,ha,e]⟩
  have ocp:∀j,j<=m->Oc ow j->InP ((de m ow).map (·.1)).toArray j:=fun j hj h=>(inp j).mpr ((i8 (by have:=L.sz;omega)).mp h);refine⟨rfl,?_,x3 inc,?_,hm,?_⟩
  ·show((de m ow).map (·.1)).toArray.size=(MT _ ((de m ow).map (·.2)).toArray.toList).length;simp
  ·intro j hj;obtain⟨i,hi⟩:=(inp j).mp hj;have:=(Ep.mp hi).1;have:=L.sz;show j<=m;omega
  ·intro a h ha;have ha2:((de m ow)[a]?).map (fun y=>hs.toList.getD y.2 0)=some h:=by
    have:(((de m ow).map (·.2)).map fun i=>hs.toList.getD i 0)[a]? =some h:=ha;rw[EM,CS]at this;exact this
   obtain⟨y,hy,e⟩:=Ds.mp ha2;have mem:=Dj hy;have at_:=(fu L.sz (j:=y.1) (i:=y.2)).mp mem;have lt:=L.lt _ _ at_;have hh:hs.toList[y.2]? =some h:=by
    have hlt:y.2<hs.toList.length:=by simpa using lt
    rw[E7,CK hlt]at e;rw[CK hlt];exact congrArg some e
   obtain⟨n,q1,q2⟩:=L.reach _ _ _ at_ hh;have hla:a<(de m ow).length:=(CO.mp hy).1;refine⟨n,?_,fun n' h'=>?_⟩
   ·show(itM m n<|stM m h).j=((de m ow).map (·.1)).toArray.getD a 0;rw[q1,DM];simp only[List.getElem?_toArray,CS,hy];rfl
   ·refine ocp _ ?_<|q2 n' h';by_cases z:(itM m n'<|stM m h).j<=m;·exact z
    ·exfalso;exact z<|yk n'
section
variable{prog:D6}{w:Di}{K:Type}[DecidableEq K]{knd:KeyKind prog w K}{A:DL}{E:CI->CM->Prop}{s:CM}
structure TupsOf(knd:KeyKind prog w K)(h:Heap)(es:List (Int×CI))(ks:List (List K)):Prop where
 len:es.length=ks.length
 at_:∀(i:Nat)(e:Int×CI),es[i]? =some e->∃k b,ks[i]? =some k/\e.2=.ref b/\Fu knd h k b/\e.1=tupleKeyHash knd k
theorem Tb.fits{t:E4}{es:Array (Int×CI)}(T:Tb t (es.toList.map (·.1))):t.fits es.size=true:=by
 have h1:=T.sz;have h2:=T.room;have h3:=T.dm;simp at h1 h2;unfold LM JJ;rw[h3];simp;omega
theorem ux{m:Nat}(h:isMask m):(m%2==0)=false:=by rcases h with rfl|rfl|rfl|rfl|rfl<;>rfl
theorem yl{m:Nat}:∀(k:Nat){p:Pr},p.dummy=none->(itM m k p).dummy=none
 |0,_,h=>h
 |k+1,p,h=>yl k (by unfold fU;split<;>exact h)
theorem oQ{a x:Addr}{o:Obj}{es:Array (Int×CI)}{ep:Nat}{t:E4}{ks:List (List K)}{kx:List K}(hu:A.units<cLine)(ho:s.heap.get? a=some o)(hd:o.data=.set es ep t)(T:Tb t (es.toList.map (·.1)))(hk:TupsOf knd s.heap es.toList ks)(hx:Fu knd s.heap kx x)
  (seen:∀(l:List CI)(Q:Bool->CM->Prop),(∀y∈l,∃e∈es.toList,y=e.2)->Q false s->wpAny (model prog w) A (searchCouldBeSeen (.ref x) l) Q E s) {Q:SetFound->CM->Prop}:
  ∀(fuel G:Nat)(st:Option Pr),(st.getD<|t.probeStart<|tupleKeyHash knd kx).dummy=none->G<fuel->G<10*Eo t.mask-> ¬InP t.place (itM t.mask G<|st.getD<|t.probeStart<|tupleKeyHash knd kx).j->(∀k',k'<G->InP t.place (itM t.mask k'<|st.getD<|t.probeStart<|tupleKeyHash knd kx).j)->
   ((∃k i,k<G/\t.place.getD i 0=(itM t.mask k<|st.getD<|t.probeStart<|tupleKeyHash knd kx).j/\ks[i]? =some kx)->Q (.there none) s)->
   ((∀k i,k<G->t.place.getD i 0=(itM t.mask k<|st.getD<|t.probeStart<|tupleKeyHash knd kx).j->i<es.size->ks[i]? ≠some kx)->Q (.free (itM t.mask G<|st.getD<|t.probeStart<|tupleKeyHash knd kx).j false) s)->
   wpAny (model prog w) A (setSearchFrom a (.ref x) (tupleKeyHash knd kx) true fuel st) Q E s:=by
 intro fuel
 induction fuel with
 |zero=>intro G st _ h;exact absurd h (by omega)
 |succ fuel ih=>
  intro G st hdm hG hGt hn ha h1 h2;unfold setSearchFrom;refine CD<|ED ho hd T.fits ?_;dsimp only;rw[if_neg (by unfold SetTable.gaveWay;rw[ux T.msk];decide)];generalize hp:st.getD (t.probeStart<|tupleKeyHash knd kx)=p at*
  have hA:∀(i:Nat)(h:Int),(es.toList.map (·.1))[i]? =some h->(fun(i:Nat)=>(es[i]?.map (fun(e:Int×CI)=>e.1)).getD 0) i=h:=fun i h hh=>by
   rw[CS,CT]at hh;show(es[i]?.map (fun(e:Int×CI)=>e.1)).getD 0=h;rw[hh];rfl
  have go:=T.go hA (tupleKeyHash knd kx) G (10*Eo t.mask) p hdm hGt hn ha;have hpr:t.probe (fun(i:Nat)=>(es[i]?.map (fun(e:Int×CI)=>e.1)).getD 0) (tupleKeyHash knd kx) p=Ga t (fun(i:Nat)=>(es[i]?.map (fun(e:Int×CI)=>e.1)).getD 0) (tupleKeyHash knd kx) (10*Eo t.mask) p:=rfl;rw[<-hpr]at go;rcases go with⟨k,i,g1,g2,g3,g4,g5,g6⟩|⟨g1,g2⟩
  ·have e:∀f,f=(fun(i:Nat)=>(es[i]?.map (fun(e:Int×CI)=>e.1)).getD 0)->t.probe f (tupleKeyHash knd kx) p=some (.candidate (itM t.mask k p).j i (itM t.mask (k+1) p)):=fun f hf=>by rw[hf];exact g5
   have hi:i<es.size:=by simpa using g2
   obtain⟨ky,b,q1,q2,q3,q4⟩:=hk.at_ i es[i] (by rw[CT,Dd hi]);have hei:es[i]? =some (es[i].1,.ref b):=by rw[Dd hi,<-q2]
   have key_ne:∀k' i',k'<k->t.place.getD i' 0=(itM t.mask k' p).j->i'<es.size->ks[i']? ≠some kx:=fun k' i' hk' hi' hl hq=>by
    have hl':i'<es.toList.length:=by simpa using hl
    obtain⟨kz,c,z1,z2,z3,z4⟩:=hk.at_ i' es.toList[i'] (CK hl');rw[z1]at hq;cases hq;refine g6 k' hk' i' hi' (by simpa using hl) ?_;rw[CS,CK hl',<-z4];rfl
   have one:∀i',t.place.getD i' 0=(itM t.mask k p).j->i'<es.size->i'=i:=fun i' hi' hl=>by
    have h1':i'<t.place.size:=by have:=T.sz;simp at this;omega
    have h2':i<t.place.size:=by have:=T.sz;simp at this;omega
    rw[<-gr T.up h1',hi',<-g3,gr T.up h2']
   have again:ky≠kx->wpAny (model prog w) A (setSearchFrom a (.ref x) (tupleKeyHash knd kx) true fuel<|some<|itM t.mask (k+1) p) Q E s:=fun hne=>by
    have ad:∀n,itM t.mask n (itM t.mask (k+1) p)=itM t.mask (k+1+n) p:=fun n=>(eX t.mask (k+1) n p).symm;refine ih (G-(k+1)) (some<|itM t.mask (k+1) p) ?_ (by omega) (by omega) ?_ ?_ ?_ ?_;·exact yl (k+1) hdm
    ·show ¬InP t.place (itM t.mask _<|itM t.mask (k+1) p).j;rw[ad,show k+1+(G-(k+1))=G by omega];exact hn
    ·intro k' hk';show InP t.place (itM t.mask _<|itM t.mask (k+1) p).j;rw[ad];exact ha _ (by omega)
    ·rintro ⟨k',i',r1,r2,r3⟩;have r2':t.place.getD i' 0=(itM t.mask k'<|itM t.mask (k+1) p).j:=r2;rw[ad]at r2';exact h1 ⟨k+1+k',i',by omega,r2',r3⟩
    ·intro r;show Q (.free (itM t.mask _<|itM t.mask (k+1) p).j false) s;rw[ad,show k+1+(G-(k+1))=G by omega];refine h2 fun k' i' z1 z2 z3=>?_;by_cases y1:k'<k;·exact key_ne k' i' y1 z2 z3
     ·by_cases y2:k'=k
      ·subst y2;rw[one i' z2 z3,q1];intro z;injection z with z;exact hne z
      ·refine r (k'- (k+1)) i' (by omega) ?_ z3;show t.place.getD i' 0=(itM t.mask _<|itM t.mask (k+1) p).j;rw[ad,show k+1+(k'-(k+1))=k' by omega];exact z2
   have hlive:t.slot (itM t.mask k p).j=.live i:=by rw[<-g3];exact T.live (by have:=T.sz;simp at this;omega)
   have hmem:t.sameMemory t.moves t.mask=some true:=by unfold SetTable.sameMemory;simp
   rw[e]
   ·dsimp only;simp only[hei];by_cases hl:t.led=true
    ·rw[if_neg (by simp[hl])];refine CD<|E9<|(tupleKind knd).eqBool hu q3 hx ?_;refine CD<|ED ho hd T.fits ?_;dsimp only;by_cases hq:ky=kx
     ·rw[decide_eq_true hq,if_pos (by decide)];exact CH<|h1 ⟨k,i,g1,g3,hq▸q1⟩
     ·rw[decide_eq_false hq,if_neg (by decide),hmem];dsimp only;rw[if_pos rfl,hlive];dsimp only;rw[hei];dsimp only;refine CD<|Jd ?_;refine CD<|CH ?_;exact again hq
    ·rw[if_pos (by simp[hl])];refine CD<|seen _ _ (fun y hy=>?_) ?_
     ·obtain⟨z,hz,rfl⟩:=Dw.mp hy;exact⟨z,by simp at hz;simpa using hz.1,rfl⟩
     rw[if_neg (by decide)];refine CD<|E9<|(tupleKind knd).eqBool hu q3 hx ?_;refine CD<|ED ho hd T.fits ?_;dsimp only;by_cases hq:ky=kx
     ·rw[decide_eq_true hq,if_pos (by decide)];exact CH<|h1 ⟨k,i,g1,g3,hq▸q1⟩
     ·rw[decide_eq_false hq,if_neg (by decide),hmem];dsimp only;rw[if_pos rfl,hlive];dsimp only;rw[hei];dsimp only;refine CD<|Jd ?_;refine CD<|CH ?_;exact again hq
   ·rfl
  ·have e:∀f,f=(fun(i:Nat)=>(es[i]?.map (fun(e:Int×CI)=>e.1)).getD 0)->t.probe f (tupleKeyHash knd kx) p=some (.empty (itM t.mask G p).j none):=fun f hf=>by rw[hf];exact g1
   rw[e]
   ·refine CH<|h2 fun k i hk' hi hl hq=>?_;have hl':i<es.toList.length:=by simpa using hl
    obtain⟨ky,b,q1,q2,q3,q4⟩:=hk.at_ i es.toList[i] (CK hl');rw[q1]at hq;cases hq;refine g2 k hk' i hi (by simpa using hl) ?_;rw[CS,CK hl',<-q4];rfl
   ·rfl
end
section
variable{prog:D6}{w:Di}{K:Type}[DecidableEq K]{knd:KeyKind prog w K}{A:DL}{E:CI->CM->Prop}{s:CM}
theorem rN{n:Nat}{v:CI}(h:carriedByValue v=true):ofAClassStatement n v=pure false:=by
 cases v<;>first|(cases n<;>rfl)|(exfalso;revert h;simp[carriedByValue])
theorem l9{ks:List K}{a:Addr}{Q:Bool->CM->Prop}(hk:Fu knd s.heap ks a)(h:Q false s):wpAny (model prog w) A (ofAClassStatement 8<|.ref a) Q E s:=by
 have hT:=hk.typeIs;obtain⟨o,items,n,ho,_,hd,hi⟩:=hk;unfold ofAClassStatement;refine CD<|wpAny_typeOf hT ?_;dsimp only;rw[if_pos (by rfl)];refine CD<|CH ?_;rw[if_neg (by decide)];refine CD<|ER ho hd ?_;dsimp only;refine CD ?_;show wpAny _ _ (forIn items _ _) _ _ s;rw[<-JY];refine II _ (fun rest r s'=>r.1=none/\s'=s/\∀v∈rest,carriedByValue v=true) _ ?_ ?_ _ _ ⟨rfl,rfl,hi.byValue⟩
 ·rintro v rest r s' ⟨hr,rfl,hall⟩;rw[rN<|hall v Dc];refine CD<|CH ?_;simp only[Dp,if_false];exact CH ⟨rfl,rfl,fun u hu'=>hall u<|Df _ hu'⟩
 ·rintro ⟨r1,r2⟩ s' ⟨hr,rfl,_⟩;simp only at hr;subst hr;exact CH h
theorem uy{kx:List K}{x:Addr}(hx:Fu knd s.heap kx x):∀(l:List CI){Q:Bool->CM->Prop},(∀y∈l,∃k b,y=.ref b/\Fu knd s.heap k b)->Q false s->wpAny (model prog w) A (searchCouldBeSeen (.ref x) l) Q E s:=by
 intro l Q hl h;unfold searchCouldBeSeen;refine CD ?_;refine II _ (fun rest r s'=>r.1=none/\s'=s/\∀y∈rest,∃k b,y=.ref b/\Fu knd s.heap k b) _ ?_ ?_ _ _ ⟨rfl,rfl,hl⟩
 ·rintro v rest r s' ⟨hr,rfl,hall⟩;obtain⟨k,b,rfl,hb⟩:=hall v Dc;dsimp only;by_cases z:x=b
  ·rw[if_pos (by simp[z])];exact CH ⟨rfl,rfl,fun u hu'=>hall u<|Df _ hu'⟩
  ·rw[if_neg (by simp[z,carriedByValue])];refine CD<|(tupleKind knd).quiet hx ?_;simp only[Hh,Dp,if_false];refine CD<|(tupleKind knd).quiet hb ?_;simp only[Hh,Dp,if_false];refine CD<|l9 hx ?_;simp only[Dp,if_false];refine CD<|l9 hb ?_;simp only[Dp,if_false];exact CH ⟨rfl,rfl,fun u hu'=>hall u<|Df _ hu'⟩
 ·rintro ⟨r1,r2⟩ s' ⟨hr,rfl,_⟩;simp only at hr;subst hr;exact CH h
end
section
variable{prog:D6}{w:Di}{K:Type}[DecidableEq K]{knd:KeyKind prog w K}
theorem nB{h h':Heap}{a b:Addr}{o:Obj}{es:Array (Int×CI)}{ep:Nat}{t:E4}{k:List K}(hk:Fu knd h k b)(ho:h.get? a=some o)(hd:o.data=.set es ep t)(hs:DD a h h'):Fu knd h' k b:=by
 obtain⟨ob,items,n,h1,h2,h3,h4⟩:=hk;have ne:b≠a:=fun z=>by
  subst z;rw[ho]at h1;cases h1;rw[hd]at h3;cases h3
 exact⟨ob,items,n,(hs.2 b ne).trans h1,h2,h3,h4⟩
theorem TupsOf.keep{h h':Heap}{a:Addr}{o:Obj}{es:Array (Int×CI)}{ep:Nat}{t:E4}{l:List (Int×CI)}{ks:List (List K)}(T:TupsOf knd h l ks)(ho:h.get? a=some o)(hd:o.data=.set es ep t)(hs:DD a h h'):TupsOf knd h' l ks:=
 ⟨T.len,fun i e he=>let ⟨k,b,q1,q2,q3,q4⟩:=T.at_ i e he;⟨k,b,q1,q2,nB q3 ho hd hs,q4⟩⟩
end
section
variable{prog:D6}{w:Di}{K:Type}[DecidableEq K]{knd:KeyKind prog w K}{A:DL}{E:CI->CM->Prop}{s:CM}
theorem uz{ks:List K}{a:Addr}{Q:Bool->CM->Prop}(hI:∀k∈ks,∀v,knd.is k v=true->∃i t,v=.int i t)(hk:Fu knd s.heap ks a)(h:Q true s):wpAny (model prog w) A (hashByValue 8<|.ref a) Q E s:=by
 have hT:=hk.typeIs;obtain⟨o,items,n,ho,_,hd,hi⟩:=hk;unfold hashByValue;refine CD<|Hx hT F.slot_tuple_hash.lookup ?_;show wpAny _ _ (seqItems? (.ref a)>>=_) _ _ s;refine CD<|ER ho hd ?_;dsimp only;refine CD ?_;show wpAny _ _ (forIn items _ _) _ _ s;rw[<-JY];have hall:∀v∈items.toList,∃i t,v=.int i t:=by
  clear hd ho;generalize items.toList=l at hi
  induction hi with
  |nil=>intro v hv;cases hv
  |cons h1 _ ih=>
   intro v hv;rcases De.mp hv with rfl|hv
   ·exact hI _ (Dc ..) _ h1
   ·exact ih (fun k hk=>hI k<|Df _ hk) v hv
 refine II _ (fun rest r s'=>r.1=none/\s'=s/\∀v∈rest,∃i t,v=IB i t) _ ?_ ?_ _ _ ⟨rfl,rfl,hall⟩
 ·rintro v rest r s' ⟨hr,rfl,hall⟩;obtain⟨i,t,rfl⟩:=hall v Dc;show wpAny _ _ (hashByValue 7 (.int i t)>>=_) _ _ _;rw[show hashByValue 7 (.int i t)=pure true from rfl];refine CD<|CH ?_;exact CH ⟨rfl,rfl,fun u hu'=>hall u<|Df _ hu'⟩
 ·rintro ⟨r1,r2⟩ s' ⟨hr,rfl,_⟩;simp only at hr;subst hr;exact CH h
structure SetT(knd:KeyKind prog w K)(h:Heap)(a:Addr)(led:Bool)(ks:List (List K))(o:Obj)(es:Array (Int×CI))(ep:Nat)(t:E4):Prop where
 at_:h.get? a=some o
 ex:o.ExactSet
 dat:o.data=.set es ep t
 tab:Tb t (es.toList.map (·.1))
 tup:TupsOf knd h es.toList ks
 nd:ks.Nodup
 led:t.led=led
 pl:t.plain=true
theorem Tp.fits{t:E4}{es:Array (Int×CI)}(T:Tp t (es.toList.map (·.1)))(h:es.size<=t.mask):t.fits es.size=true:=by
 have h1:=T.sz;have h3:=T.dm;simp at h1;unfold LM JJ;rw[h3];simp;omega
theorem Tp.full{t:E4}{es:Array (Int×CI)}(T:Tp t (es.toList.map (·.1))):t.tooFull=decide (es.size*5≥t.mask*3):=by
 have h1:=T.sz;simp at h1;unfold SetTable.tooFull JJ;rw[T.dm,h1];simp
theorem x5{es:Array (Int×CI)}{order:Array Nat}(h:order.toList.Perm (DY es.size)):(order.filterMap (es[·]?)).toList=order.toList.map fun i=>es.toList.getD i (0,.none):=by
 rw[Array.toList_filterMap];have:∀i∈order.toList,i<es.size:=fun i hi=>by have:=h.mem_iff.mp hi;simpa using this
 generalize order.toList=l at this;clear h
 induction l with
 |nil=>rfl
 |cons i l ih=>
  have hi:=this i<|Dc ..;rw[FJ,Dd hi,DR,ih fun j hj=>this j<|Df _ hj];congr 1;rw[E7,CK (by simpa using hi)];rfl
theorem lb{α:Type}(l:List α)(d:α):(DY l.length).map (fun i=>l.getD i d)=l:=by
 apply El;intro i;rw[CS];by_cases z:i<l.length
 ·rw[Fi z,CK z];simp[E7,z]
 ·rw[DK (by simpa using z),DK (by simpa using z)];rfl
theorem TupsOf.order{h:Heap}{es:List (Int×CI)}{ks:List (List K)}(U:TupsOf knd h es ks){l:List Nat}(hl:l.Perm (DY es.length)):TupsOf knd h (l.map fun i=>es.getD i (0,.none)) (l.map fun i=>ks.getD i []):=by
 refine⟨by simp,fun i e he=>?_⟩;rw[CS]at he;obtain⟨j,hj,e1⟩:=Ds.mp he;have hlt:j<es.length:=by have:=hl.mem_iff.mp<|Dj hj;simpa using this
 obtain⟨k,b,q1,q2,q3,q4⟩:=U.at_ j es[j] (CK hlt);have e2:e=es[j]:=by rw[<-e1,E7,CK hlt];rfl
 subst e2;refine⟨k,b,?_,q2,q3,q4⟩;rw[CS,hj];simp[E7,q1]
theorem uA{a:Addr}{o:Obj}{es es1:Array (Int×CI)}{ep n:Nat}{t t1:E4}{led:Bool}{ks1:List (List K)}(ho:s.heap.get? a=some o)(hex:o.ExactSet)(hd:o.data=.set es ep t)(T1:Tp t1 (es1.toList.map (·.1)))(U1:TupsOf knd s.heap es1.toList ks1)(nd1:ks1.Nodup)(hl:t1.led=led)(hpl:t1.plain=true)(hn:es1.size=n)(h0:0<n)(h63:n<=1000)(hr:(n-1)*5<t1.mask*3){Q:Bool->CM->Prop}
  (h:∀h' ks' o' es' ep' t',DD a s.heap h'->SetT knd h' a led ks' o' es' ep' t'->ks'.Perm ks1->es'.toList.Perm es1.toList->Q true {s with heap:=h'}):
  wpAny (model prog w) A (do
    storeSet a es1 t1
    if(!false&&t1.tooFull)=true then setRelay a (Gh n)
    pure true) Q E s:=by
 have put:∀(s:CM)(o:Obj)es ep t(es':Array (Int×CI))(t':E4),s.heap.get? a=some o->o.data=.set es ep t->(s.heap.update a<|HN es' t').get? a=some {o with data:=.set es' (ep+1) t'}:=fun s o es ep t es' t' ho hd=>by
  have:=EZ (HN es' t') ho (by rw[putSet_of es' t' hd];rfl);rw[putSet_of es' t' hd]at this;exact this
 have big:1000<=sizeLine:=by rw[Dz];omega
 have mk:=T1.msk;refine CD (Ke ho hd ?_ (by omega));have ho1:=put s o es ep t es1 t1 ho hd;have sb1:=Eh s.heap a<|HN es1 t1;have U2:=U1.keep ho hd sb1;rw[T1.full];by_cases z:es1.size*5≥t1.mask*3
 ·rw[decide_eq_true z,if_pos (by rfl)];unfold setRelay;refine CD (CD (ED ho1 rfl (T1.fits (by rcases mk with y|y|y|y|y<;>omega)) ?_));dsimp only;have hw:GD (Gh n)<=2048/\isMask (GD (Gh n)-1)/\n*5<(GD (Gh n)-1)*3:=by
   rcases mk with y|y|y|y|y
   ·have:n=5:=by omega
    subst this;exact⟨by decide,.inr (.inl (by decide)),by decide⟩
   ·have:n=19:=by omega
    subst this;exact⟨by decide,.inr (.inr (.inl (by decide))),by decide⟩
   ·have:n=77:=by omega
    subst this;exact⟨by decide,.inr (.inr (.inr (.inl (by decide)))),by decide⟩
   ·have:n=307:=by omega
    subst this;exact⟨by decide,.inr (.inr (.inr (.inr (by decide)))),by decide⟩
   ·omega
  rw[if_neg (by have:=hw.1;rw[Dz];omega)];obtain⟨t2,order,e2,m2,l2,p2,pm,T2⟩:=x4 hw.2.1 (hs:=es1.map (·.1)) (by simp;omega) t1.finger (t1.movedTo<|GD (Gh n)-1) t1.led t1.plain;have er:t1.relaid (es1.map (·.1)) (Gh n)=some (t2,order):=e2;have pm':order.toList.Perm (DY es1.size):=by simpa using pm
  have fm:=x5 (es:=es1) pm';have fs:(order.filterMap (es1[·]?)).size=es1.size:=by
   rw[<-Dh,fm,D5,pm'.length_eq,Ih]
  rw[er];have key:∀(f:Array (Int×CI)->Option (E4×Array Nat)->Sem (Array (Int×CI)×E4))(R:(Array (Int×CI)×E4)->CM->Prop)(s:CM),(∀es l,f es l=(do
     let some (t,order):=l|unsupported "internal:set-table-without-room"
     let es':=order.filterMap (es[·]?)
     if es'.size != es.size then unsupported "internal:set-table-lost-an-element"
     pure (es',t)))->R (order.filterMap (es1[·]?),t2) s->wpAny (model prog w) A (f es1 (some (t2,order))) R E s:=fun f R s hf hR=>by
   rw[hf];dsimp only;rw[if_neg (by rw[fs];simp)];exact CH hR
  refine CD<|key _ _ _ (fun _ _=>rfl) ?_;dsimp only;refine Ke ho1 rfl ?_ (by rw[fs];omega);have ho2:=put {s with heap:=s.heap.update a (HN es1 t1)} _ _ _ _ (order.filterMap (es1[·]?)) t2 ho1 rfl;have sb2:=Eh (s.heap.update a<|HN es1 t1) a (HN (order.filterMap (es1[·]?)) t2);have U3:=U2.order (l:=order.toList) (by simpa using pm');rw[<-fm]at U3;have U4:=U3.keep ho1 rfl sb2;have pk:(order.toList.map fun i=>ks1.getD i []).Perm ks1:=by
   have:=pm'.map<|fun i=>ks1.getD i [];have hl:es1.size=ks1.length:=by have:=U1.len;simpa using this
   rw[hl,lb]at this;exact this
  have pe:(order.filterMap (es1[·]?)).toList.Perm es1.toList:=by
   rw[fm];have:=pm'.map<|fun i=>es1.toList.getD i (0,E5);have hl:es1.size=es1.toList.length:=by simp
   rw[hl,lb]at this;exact this
  refine CH (h _ _ _ _ _ _ (sb1.trans sb2) ⟨ho2,hex,rfl,⟨?_,?_⟩,U4,pk.nodup_iff.mpr nd1,by rw[l2];exact hl,by rw[p2];exact hpl⟩ pk pe)
  ·rw[fm,EM];have:((fun x:Int×CI=>x.1)∘fun i=>es1.toList.getD i (0,.none))=fun i=>(es1.map (·.1)).toList.getD i 0:=funext fun i=>by
    simp only[Function.comp,E7,Kr,CS];cases es1.toList[i]? <;>rfl
   rw[this];exact T2
  ·rw[D5,Dh,fs,m2];have:=hw.2.2;omega
 ·rw[decide_eq_false z,if_neg (by decide)];refine CH (h _ _ _ _ _ _ sb1 ⟨ho1,hex,rfl,⟨T1,by simp;omega⟩,U2,nd1,hl,hpl⟩ (.refl _)<|.refl _)
theorem x6{a x:Addr}{o:Obj}{es:Array (Int×CI)}{ep:Nat}{t:E4}{led:Bool}{ks:List (List K)}{kx:List K}(hu:A.units<cLine)(S:SetT knd s.heap a led ks o es ep t)(hn:es.size<1000)(hx:Fu knd s.heap kx x)(hI:∀k∈kx,∀v,knd.is k v=true->∃i t,v=.int i t)
  {Q:Bool->CM->Prop} {fuel:Nat}
  (h1:kx∈ks->Q false s) (h2:kx∉ks->∀h' ks' o' es' ep' t',DD a s.heap h'->SetT knd h' a led ks' o' es' ep' t'->ks'.Perm (kx::ks)->es'.toList.Perm ((tupleKeyHash knd kx,.ref x)::es.toList)->Q true {s with heap:=h'}):
  wpAny (model prog w) A (setAddHashedIn a (.ref x) (tupleKeyHash knd kx)<|fuel+1) Q E s:=by
 unfold setAddHashedIn;refine CD<|ED S.at_ S.dat S.tab.fits ?_;dsimp only;rw[if_neg (by unfold byScan;simp[Value.scannable])];obtain⟨G,g1,g2,g3⟩:=S.tab.gap<|uo t<|tupleKeyHash knd kx;have mem:∀i,i<es.size->ks[i]? =some kx->∃k,k<G/\t.place.getD i 0=(itM t.mask k<|t.probeStart<|tupleKeyHash knd kx).j:=fun i hi z=>by
  have hi':i<es.toList.length:=by simpa using hi
  obtain⟨k,b,q1,q2,q3,q4⟩:=S.tup.at_ i es.toList[i] (CK hi');rw[q1]at z;cases z;obtain⟨n,r1,r2⟩:=S.tab.reach i (tupleKeyHash knd kx) (by rw[CS,CK hi',<-q4];rfl);refine⟨n,?_,r1.symm⟩;by_cases y:n<G;·exact y
  ·by_cases y2:n=G
   ·subst y2;refine absurd ?_ g2;rw[r1];exact⟨i,by have:=S.tab.sz;simp at this;omega,rfl⟩
   ·exact absurd (r2 G (by omega)) g2
 refine CD ?_;unfold setSearch;have ht:t.mask<=2047:=by rcases S.tab.msk with z|z|z|z|z<;>omega
 refine oQ (knd:=knd) hu S.at_ S.dat S.tab S.tup hx (fun l Q hl h=>uy hx l (fun y hy=>?_) h) 100000 G none rfl (by unfold Eo at g1;omega) g1 g2 g3 ?_ ?_
 ·obtain⟨e,he,rfl⟩:=hl y hy;obtain⟨i,hi,rfl⟩:=EK.mp he;obtain⟨k,b,q1,q2,q3,q4⟩:=S.tup.at_ i es.toList[i] (CK hi);exact⟨k,b,q2,q3⟩
 ·rintro ⟨k,i,_,_,hq⟩;exact CH<|h1<|Dj hq
 ·intro hall;have nin:kx∉ks:=fun hm=>by
   obtain⟨i,hi,e⟩:=EK.mp hm;have hi':i<es.size:=by have:=S.tup.len;simp at this;omega
   have hq:ks[i]? =some kx:=by rw[CK hi,e]
   obtain⟨k,q1,q2⟩:=mem i hi' hq;exact hall k i q1 q2 hi' hq
  refine CD<|ED S.at_ S.dat S.tab.fits ?_;dsimp only;have jle:(itM t.mask G<|t.probeStart<|tupleKeyHash knd kx).j<=t.mask:=yk (m:=t.mask) (h:=tupleKeyHash knd kx) G;obtain⟨p1,p2,p3⟩:=S.tab.put g2 jle g3;have led1:(t.put (itM t.mask G<|t.probeStart<|tupleKeyHash knd kx).j).1.led=t.led:=rfl;simp only[IE];generalize hP:t.put (itM t.mask G<|t.probeStart<|tupleKeyHash knd kx).j=P at*
  obtain⟨t1,p⟩:=P;dsimp only at p1 p2 p3 led1;have hp:p<=es.size:=by simpa using p1
  have il:=k9 es p (tupleKeyHash knd kx,DS x);have T1:Tp t1 ((Em es p (tupleKeyHash knd kx,DS x)).toList.map (·.1)):=by
   rw[il,List.map_append,DR,List.map_take,List.map_drop];exact p3
  have U1:TupsOf knd s.heap (Em es p (tupleKeyHash knd kx,DS x)).toList (ks.take p++kx::ks.drop p):=by
   have hlen:=S.tup.len;have hp2:p<=ks.length:=by simp at hlen;omega
   rw[il];refine⟨by simp[hlen],fun i e he=>?_⟩;have l1:(es.toList.take p).length=p:=by simp;omega
   have l2:(ks.take p).length=p:=by simp;omega
   by_cases z:i<p
   ·rw[D3 (by omega),DP z]at he;obtain⟨k,b,q⟩:=S.tup.at_ i e he;exact⟨k,b,by rw[D3 (by omega),DP z];exact q.1,q.2⟩
   ·rw[D4 (by omega),l1]at he;rw[D4 (by omega),l2];by_cases y:i=p
    ·rw[y,Gp,EJ]at he ⊢;cases he;exact⟨kx,x,rfl,rfl,hx,rfl⟩
    ·rw[show i- p=(i- p- 1)+1 by omega,En,E1]at he ⊢;exact S.tup.at_ _ e he
  have pk:(ks.take p++kx::ks.drop p).Perm (kx::ks):=Kt.trans (.cons kx (by rw[Je]));have nd1:(ks.take p++kx::ks.drop p).Nodup:=pk.nodup_iff.mpr<|EW.mpr ⟨nin,S.nd⟩;have room:=S.tab.room;have pl1:t1.plain=true:=by have:=S.pl;rw[<-this];have e:=congrArg (fun z:E4×Nat=>z.1.plain) hP;exact e.symm
  rw[if_pos pl1];refine CD<|uz hI hx ?_;exact uA S.at_ S.ex S.dat T1 U1 nd1 (led1.trans S.led) pl1 (eO es hp _) (by omega) (by omega) (by rw[p2];simpa using room) fun h' ks' o' es' ep' t' a1 a2 a3 a4=>h2 nin h' ks' o' es' ep' t' a1 a2 (a3.trans pk) (a4.trans (by rw[il];exact Kt.trans (.cons _ (by rw[Je]))))
end
end Wb
namespace Wb
open PySem PySem.W PySem.Calls PyProof.Rows
theorem sl_next:Slot "set_iterator" "__next__" "set_iterator.__next__":=
 .of (owner:="set_iterator") (n:="__next__") (by rw[KL,Jf];kernel_rfl) (by decide +kernel) (by decide +kernel) (by decide +kernel)
  (by first|exact .inl (by decide +kernel)|exact .inr (by decide +kernel)) (by rw[Jw];kernel_rfl)
theorem qr:Slot "set_iterator" "__iter__" "set_iterator.__iter__":=
 .of (owner:="set_iterator") (n:="__iter__") (by rw[KL,Jf];kernel_rfl) (by decide +kernel) (by decide +kernel) (by decide +kernel)
  (by first|exact .inl (by decide +kernel)|exact .inr (by decide +kernel)) (by rw[Jw];kernel_rfl)
theorem qt:entryFor table "set_iterator.__next__"=some Ej.«set_iterator.__next__»:=entryFor_of_tree (by kernel_rfl)
theorem x8:entryFor table "set_iterator.__iter__"=some Ej.«dict_keyiterator.__iter__»:=L7 (id':="dict_keyiterator.__iter__") (by kernel_rfl) rfl (by decide +kernel) (by kernel_rfl)
theorem zk:entryFor table "set.__iter__"=some Ej.«frozenset.__iter__»:=L7 (id':="frozenset.__iter__") (by kernel_rfl) rfl (by decide +kernel) (by kernel_rfl)
theorem qu:Manifest.owners.lookup (String.ofList ['r','o','t','a','r','e','t','i','_','t','e','s'].reverse)=some Manifest.sig_set_iterator:=by kernel_rfl
theorem qv(a:CI):argsOk "set_iterator.__next__" ⟨[a],[]⟩:=by
 unfold argsOk;rw[LN (id:="set_iterator.__next__") (n:=['_','_','t','x','e','n','_','_']) (o:=['r','o','t','a','r','e','t','i','_','t','e','s']) (by kernel_rfl) qu];kernel_rfl
theorem x9(a:CI):argsOk "set_iterator.__iter__" ⟨[a],[]⟩:=by
 unfold argsOk;rw[LN (id:="set_iterator.__iter__") (n:=['_','_','r','e','t','i','_','_']) (o:=['r','o','t','a','r','e','t','i','_','t','e','s']) (by kernel_rfl) qu];kernel_rfl
theorem kf{α:Type}:∀(l:List α)(i:Nat)(h:i<l.length),(l[i]::l.eraseIdx i).Perm l
 |a::l,0,_=>.refl _
 |a::l,i+1,h=>by
  have h2:i<l.length:=by simpa using h
  exact(List.Perm.swap a l[i] (l.eraseIdx i)).trans (.cons a<|kf l i h2)
theorem lg{α:Type}(next:Nat->Nat):∀(fuel k:Nat)(left:List α)(out:Array α),fuel=left.length->(Kf next fuel k left out).toList.Perm (out.toList++left)
 |0,k,left,out,h=>by
  have:left=[]:=FN.mp h.symm;subst this;unfold Kf;simp
 |fuel+1,k,left,out,h=>by
  unfold Kf;have hl:next k%left.length<left.length:=HL _ (by omega)
  rw[CK hl];dsimp only;refine(lg next fuel (k+1) _ _ (by rw[Hm];simp[hl];omega)).trans ?_;rw[Ff,Dg];refine Ei _ ?_;exact kf left _ hl
def dD(w:Di)(a:Addr)(ep:Nat)(es:Array (Int×CI)):Array (Int×CI):=if w.params.followText "set-order"=true then pickOrder (w.params.setOrder a ep) es else es
theorem i9(w:Di)(a:Addr)(ep:Nat)(es:Array (Int×CI)):(dD w a ep es).toList.Perm es.toList:=by
 unfold dD;split
 ·have:=lg (w.params.setOrder a ep) es.size 0 es.toList #[] (by simp);simp only[Gz]at this;exact this
 ·exact .refl _
def cg(w:Di)(t:E4)(i:Nat):Int:=if w.params.followText "set-order"=true then 0 else if i=0 then 0 else(t.place.getD (i-1) 0:Int)+1
theorem oR{w:Di}{t:E4}{hs:List Int}(T:Tp t hs)(hb:¬w.params.followText "set-order"=true){i:Nat}(hi:i<=t.place.size):Ed t.place (cg w t i).toNat=i:=by
 obtain⟨b0,b1,b2⟩:=i6 T.up (cg w t i).toNat;generalize hB:Ed t.place (cg w t i).toNat=b at*
 have e:(cg w t i).toNat=if i=0 then 0 else t.place.getD (i-1) 0+1:=by
  unfold cg;rw[if_neg hb];split<;>omega
 rw[e]at b1 b2;by_cases z:i=0
 ·rw[if_pos z]at b1;by_cases y:b=0;·omega
  ·have:=b1 0 (by omega);omega
 ·rw[if_neg z]at b1 b2;by_cases y:b<i
  ·have:=b2 (i- 1) (by omega) (by omega);omega
  ·by_cases y2:i< b
   ·have h1:=b1 i y2;have h2:=T.up (i-1) i (by omega) (by omega);omega
   ·omega
def kg(w:Di)(a:Addr)(t:E4)(n ep i:Nat):Obj:={cls:=.type "set_iterator",dict:=none,data:=.fields #[.int (cg w t i) 0,.int i 0,.ref a,.int n 0,.int ep 0],slots:= #[]}
section
variable{prog:D6}{w:Di}{A:DL}{E:CI->CM->Prop}{s:CM}{a I:Addr}{o:Obj}{es:Array (Int×CI)}{ep:Nat}{t:E4}
theorem nE{i:Nat}{Q:Option (CI×Nat)->CM->Prop}(ho:s.heap.get? a=some o)(hd:o.data=.set es ep t)(T:Tp t (es.toList.map (·.1)))(hf:t.fits es.size=true)(hl:t.led= !w.params.followText "set-order")(hp:t.plain=true)(hi:i<=es.size)
  (h:Q (((dD w a ep es)[i]?).map fun e=>(e.2,(cg w t<|i+1).toNat)) s):wpAny (model prog w) A (setNext a (cg w t i).toNat i ep) Q E s:=by
 have hsz:t.place.size=es.size:=by have:=T.sz;simpa using this
 unfold setNext;refine CD<|ED ho hd hf ?_;dsimp only;unfold setsByText;refine CD<|CD<|FQ<|CH ?_;show wpAny (model prog w) A (if w.params.followText "set-order"=true then _ else _) Q E s;by_cases z:w.params.followText "set-order"=true
 ·rw[if_pos z,if_neg (by simp)];unfold setWalk;refine CD<|CD<|ED ho hd hf ?_;dsimp only;unfold setsByText;refine CD<|CD<|FQ<|CH ?_;show wpAny (model prog w) A (if w.params.followText "set-order"=true then _ else _) _ E s;rw[if_pos z];refine CD<|FQ<|CH<|CH ?_;unfold dD cg at h;rw[if_pos z,if_pos z]at h;unfold cg;rw[if_pos z];exact h
 ·rw[if_neg z];refine Hz (fun hab=>absurd hab (show ¬((!t.plain&&decide (es.size>1))=true) by rw[hp];simp))<|fun _=>?_;show wpAny _ _ ((if(!t.led&& !es.isEmpty)=true then unsupported _ else pure ())>>=_) _ _ _;rw[if_neg (by rw[hl];simp[z])];refine CD<|CH ?_;rw[oR T z (by omega)];unfold dD at h;rw[if_neg z]at h;by_cases y:i<es.size
  ·have y2:i< t.place.size:=by omega
   rw[Dd y]at h ⊢;rw[Dd y2];have e:(cg w t<|i+1).toNat=t.place[i]+1:=by
    unfold cg;rw[if_neg z,if_neg (by omega),show i+1-1=i by omega];have:t.place.getD i 0=t.place[i]:=by simp[Fg,y2]
    omega
   simp only[G2,e]at h;exact CH h
  ·rw[FZ (by omega)]at h ⊢;exact CH h
end
section
variable{prog:D6}{w:Di}{A:DL}{E:CI->CM->Prop}{s:CM}{a I:Addr}{o:Obj}{es:Array (Int×CI)}{ep:Nat}{t:E4}
theorem ko{n i:Nat}(h:s.heap.get? I=some (kg w a t n ep i)):s.TypeIs (.ref I) "set_iterator":=⟨_,h,rfl⟩
structure SetR(w:Di)(o:Obj)(es:Array (Int×CI))(ep:Nat)(t:E4):Prop where
 ex:o.ExactSet
 dat:o.data=.set es ep t
 tab:Tb t (es.toList.map (·.1))
 led:t.led= !w.params.followText "set-order"
 pl:t.plain=true
theorem uB{Q:CI->CM->Prop}(R:SetR w o es ep t)(ho:s.heap.get? a=some o)(h:Q (.ref s.heap.objs.size) {s with heap:=s.heap.push (kg w a t es.size ep 0)}):wpAny (model prog w) A (pyIter<|.ref a) Q E s:=by
 have hT:s.TypeIs (.ref a) "set":=⟨o,ho,R.ex.1⟩
 refine Gb hT KN<|DA KN hT zk ?_<|F.args_set_iter_1 _;unfold Ej.«frozenset.__iter__»;refine CD (m:=LX _ _)<|CH ?_;unfold LO;refine CD<|CD<|HD ho R.dat R.tab.fits<|CH ?_;unfold setDrawn;refine CD<|CD<|ED ho R.dat R.tab.fits ?_;dsimp only;unfold setsByText;refine CD<|CD<|FQ<|CH<|CH ?_;refine Hz (fun hab=>absurd hab (show ¬((!w.params.followText "set-order"&&(!t.plain&&decide (es.size>1)))=true) by rw[R.pl];simp))<|fun _=>?_;refine CD<|CH ?_;refine CD<|wpAny_setEpoch_of ho R.dat R.tab.fits ?_;have e0:cg w t 0=0:=by unfold cg;split<;>rfl
 refine CD<|DX<|CH ⟨_,rfl,"set_iterator",_,⟨_,CU _ rfl,rfl⟩,sl_next.lookup,?_⟩;unfold kg at h;rw[e0]at h;exact h
theorem rO{i:Nat}{Q:Option CI->CM->Prop}(R:SetR w o es ep t)(ho:s.heap.get? a=some o)(hne:a≠I)(hI:s.heap.get? I=some (kg w a t es.size ep i)){e:Int×CI}(he:(dD w a ep es)[i]? =some e)
  (h:∀h',h'.get? I=some (kg w a t es.size ep<|i+1)->DD I s.heap h'->Q (some e.2) {s with heap:=h'}):wpAny (model prog w) A (pyNext<|.ref I) Q E s:=by
 have hsz:(dD w a ep es).size=es.size:=by have:=(i9 w a ep es).length_eq;simpa using this
 have hi:i<es.size:=by have:=(Ep.mp he).1;omega
 have hT:=ko hI;unfold pyNext;refine CD (G4 (DT (name:=CP "__next__") hT sl_next
  (DA sl_next hT qt ?_ (qv _))))
 unfold Ej.«set_iterator.__next__»;refine CD (m:=slotArgs _ _ _)<|CH ?_;refine CD<|HP hI rfl ?_;dsimp only;refine CD<|HD ho R.dat R.tab.fits ?_;rw[if_neg (by simp)];show wpAny _ _ (setNext a (cg w t i).toNat ((i:Int).toNat) ((ep:Int).toNat)>>=_) _ _ _;rw[Ea,Ea];refine CD (nE ho R.dat R.tab.toTp R.tab.fits R.led R.pl (by omega) ?_);rw[he];dsimp only[G2];refine CD (FO hI rfl (by simp) ?_);have hI1:=EZ (Iz (·.setIfInBounds 0 (rawInt ((cg w t<|i+1).toNat:Int)))) hI rfl;refine CD (FO hI1 rfl (by simp) ?_);have hI2:=EZ (Iz (·.setIfInBounds 1 (rawInt<|(i:Int)+1))) hI1 rfl;refine CH ⟨_,rfl,CH<|h _ (hI2.trans ?_)<|(Eh ..).trans (Eh ..)⟩;have e1:((cg w t<|i+1).toNat:Int)=cg w t (i+1):=by unfold cg;split<;>(try split)<;>omega
 rw[e1];rfl
theorem uC{Q:Option CI->CM->Prop}(hh:A.handled=none)(R:SetR w o es ep t)(ho:s.heap.get? a=some o)(hne:a≠I)(hI:s.heap.get? I=some (kg w a t es.size ep es.size))
  (h:∀h',Ie I s.heap h'->Q none {s with heap:=h'}):wpAny (model prog w) A (pyNext<|.ref I) Q E s:=by
 have hsz:(dD w a ep es).size=es.size:=by have:=(i9 w a ep es).length_eq;simpa using this
 have hT:=ko hI;unfold pyNext;refine CD (G4 (DT (name:=CP "__next__") hT sl_next
  (DA sl_next hT qt ?_ (qv _))))
 unfold Ej.«set_iterator.__next__»;refine CD (m:=slotArgs _ _ _)<|CH ?_;refine CD<|HP hI rfl ?_;dsimp only;refine CD<|HD ho R.dat R.tab.fits ?_;rw[if_neg (by simp)];show wpAny _ _ (setNext a (cg w t es.size).toNat ((es.size:Int).toNat) ((ep:Int).toNat)>>=_) _ _ _;rw[Ea,Ea];refine CD (nE ho R.dat R.tab.toTp R.tab.fits R.led R.pl (by omega) ?_);rw[FZ (by omega)];dsimp only[Option.map_none];refine CD (FO hI rfl (by simp) ?_);show wpAny _ _ (newExc (.type "StopIteration") []>>=_) _ _ _;refine CD ?_;simp only[newExc,newTuple];refine CD (DX ?_ (by size_fits));refine CD (m:=firstArgMember _ _) (Jt (a:=E5) (by first|rfl|(simp only[firstArgMember];rfl)) ?_);refine DX ?_ (by size_fits);simp only[raiseNew];refine CD<|JG ?_;rw[show A.in1.handled=none from hh];refine CD<|CH<|KA ?_;refine CD<|Gn (T:="StopIteration") (b:=true) ⟨_,CU _ rfl,rfl⟩ HJ ?_;exact CH<|h _<|((Eh ..).extBut.push _).push _
theorem Walks.setOf(hh:A.handled=none)(I a:Addr)(hne:a≠I)(R:SetR w o es ep t):
  Walks prog w A I [I,a] [I] es.size (fun i v=>∃e,(dD w a ep es)[i]? =some e/\v=e.2) (fun i h=>h.get? I=some (kg w a t es.size ep i)/\h.get? a=some o) where
 sub:=fun b hb=>by simp at hb;simp[hb]
 frame:=fun _ _ _ st hk=>⟨hk I (by simp) _ st.1,hk a (by simp) _ st.2⟩
 item:=fun i s Q E hi st hQ=>by
  have hsz:(dD w a ep es).size=es.size:=by have:=(i9 w a ep es).length_eq;simpa using this
  have he:(dD w a ep es)[i]? =some (dD w a ep es)[i]:=Dd (by omega);refine rO R st.2 hne st.1 he fun h' hI' hs'=>?_;exact hQ _ h' s.toks ⟨_,he,rfl⟩ ⟨hI',hs'.extBut a _ hne st.2⟩ fun b o hb e=>hs'.extBut b o (fun h=>hb (by simp[h])) e
 done:=fun s Q E st hQ=>uC hh R st.2 hne st.1 fun h' he'=>hQ h' s.toks fun b o hb e=>he' b o (fun h=>hb (by simp[h])) e
 self:=fun i s Q E st hQ=>by
  refine Gb (ko st.1) qr<|DA qr (ko st.1) x8 ?_<|x9 _;show wpAny _ _ (ret<|.ref I) _ _ s;exact CH ⟨_,rfl,"set_iterator",_,ko st.1,sl_next.lookup,hQ⟩
theorem uD{Q:Bool->CM->Prop}(hT:s.TypeIs (.ref a) "set")(h:Q false s):wpAny (model prog w) A (HF<|.ref a) Q E s:=by
 unfold HF;refine CD<|Hx hT F.slot_set_len.lookup ?_;generalize hid:("set.__len__" :String)=id0
 wp_delta
 rw[show splitId id0=some ("set","__len__")from by subst hid;decide +kernel];subst hid;refine CD (Gn (T:="set") (b:=true) hT (by rw[Jw];kernel_rfl) ?_);refine Hz (fun hab=>absurd hab (by decide))<|fun _=>?_;refine Hz (fun _=>?_) (fun hab=>absurd (by decide +kernel) hab);refine CD<|wpAny_typeOf hT ?_;exact CH h
theorem xb(R:SetR w o es ep t):KdlSrc prog w "set" a a es.size (fun i v=>∃e,(dD w a ep es)[i]? =some e/\v=e.2) (fun h=>h.get? a=some o) where
 type:=fun _ hm=>⟨o,hm,R.ex.1⟩
 there:=fun _ hm=>⟨CV hm,CV hm⟩
 keep:=fun _ _ hm hk=>hk a (.inl rfl) o hm
 notList:=by decide
 notTuple:=by decide
 hint:=fun _ _ _ _ hm hq=>uD ⟨o,hm,R.ex.1⟩ hq
 iter:=fun _ _ hh hm=>⟨_,_,(fun _ _ hq=>uB R hm hq),Walks.setOf hh _ a (D8<|CV hm) R,⟨CU _ rfl,CL _ hm⟩⟩
end
def PairAt(h:Heap)(v:CI)(k:Int×Int):Prop:=∃b o t1 t2 n,v=.ref b/\h.get? b=some o/\o.cls=.type "tuple"/\o.data=.seq #[.int k.1 t1,.int k.2 t2] n
def lZ(a b:Int×Int):Bool:=decide (a.1<b.1)||(decide (a.1=b.1)&&decide (a.2<b.2))
theorem ic{a b:Int×Int}:lZ a b=true↔a.1<b.1\/(a.1=b.1/\a.2<b.2):=by unfold lZ;simp
theorem zl{a b c:Int×Int}(h:lZ a b=true)(h':lZ b c=true):lZ a c=true:=by rw[ic]at *;omega
theorem xc{a b:Int×Int}(hn:a≠b)(h:lZ a b=false):lZ b a=true:=by
 have h2:¬lZ a b=true:=by rw[h];decide
 rw[ic]at h2;rw[ic];by_cases z:a.1=b.1
 ·have:a.2≠b.2:=fun e=>hn<|HK z e;omega
 ·omega
theorem qw(a:Int×Int):lZ a a=false:=by unfold lZ;simp
structure PairsAt(h:Heap)(vs:List CI)(ks:List (Int×Int)):Prop where
 len:vs.length=ks.length
 at_:∀(i:Nat)(v:CI),vs[i]? =some v->∃k,ks[i]? =some k/\PairAt h v k
section
variable{prog:D6}{w:Di}{A:DL}{E:CI->CM->Prop}{s:CM}
theorem xf{x y:CI}{k l:Int×Int}{Q:Bool->CM->Prop}(hx:PairAt s.heap x k)(hy:PairAt s.heap y l)(h:Q (lZ k l) s):wpAny (model prog w) A (keyLt' (tuples' true) x y) Q E s:=by
 obtain⟨bx,ox,t1,t2,n,rfl,hx,_,dx⟩:=hx;obtain⟨by_,oy,u1,u2,m,rfl,hy,_,dy⟩:=hy;refine kat_lt hx dx hy dy<|kat_cons<|ID<|kat_go (fun e=>kat_yes<|kat_cons<|ID<|kat_go (fun e'=>kat_yes<|kat_nil ?_) fun e'=>kat_no<|kat_one _ _<|lt_int ?_) fun e=>kat_no<|oneLt_int ?_
 ·have e1:k.1=l.1:=by simpa using e
  have e2:k.2=l.2:=by simpa using e'
  have:k=l:=HK e1 e2;subst this;rw[qw]at h;simpa using h
 ·have e1:k.1=l.1:=by simpa using e
  show Q (decide<|k.2<l.2) s;unfold lZ at h;simpa [e1] using h
 ·have e1:¬k.1=l.1:=by simpa using e
  unfold lZ at h;simpa [e1] using h
theorem qx{h:Heap}:∀{vs:List CI}{ks:List (Int×Int)},PairsAt h vs ks->∃fs,fs.length=vs.length/\KatTups h vs fs/\∀f∈fs,∃i t,f=IB i t
 | [],ks,P=>⟨[],rfl,trivial,fun f hf=>by cases hf⟩
 |v::vs,ks,P=>by
  obtain⟨k,q1,b,o,t1,t2,n,rfl,q3,q4,q5⟩:=P.at_ 0 v rfl;obtain⟨fs,l1,l2,l3⟩:=qx (h:=h) (vs:=vs) (ks:=ks.drop 1) ⟨by have:=P.len;simp at this ⊢;omega,fun i v e=>by
   obtain⟨k,a1,a2⟩:=P.at_ (i+1) v (by simpa using e);exact⟨k,by rw[E1,Nat.add_comm];exact a1,a2⟩⟩
  refine⟨.int k.1 t1::fs,by simp[l1],.cons q3 q4 q5 (by simp) l2,fun f hf=>?_⟩;rcases De.mp hf with rfl|hf
  ·exact⟨_,_,rfl⟩
  ·exact l3 f hf
end
end Wb
namespace Wb
open PySem PyProof.Rows
abbrev at'(xs:Array CZ)(i:Nat):CZ:=xs.getD i (E5,E5)
structure LtOk(M:J4)(A:DL)(E:CI->CM->Prop)(s:CM)(κ:Hq)(U:CZ->Prop)(L:CZ->CZ->Bool):Prop where
 lt:∀(x y:CZ)(st:EA)(Q:Option Bool->EA->Prop),U x->U y->kindOf st=κ->Q (some<|L x y) st->wpS M A E s (lt' x y) Q st
 tr:∀x y z,U x->U y->U z->L x y=true->L y z=true->L x z=true
 tot:∀x y,U x->U y->x≠y->L x y=false->L y x=true
 irr:∀x,L x x=false
structure SB(κ:Hq)(a0:List CZ)(st:EA):Prop where
 kind:kindOf st=κ
 failed:failedOf st=none
 perm:(arrOf st).toList.Perm a0
def Sr(L:CZ->CZ->Bool)(xs:Array CZ)(a b:Nat):Prop:=∀i j,a<=i->i<j->j<b->L (at' xs i) (at' xs j)=true
theorem dw{xs:Array CZ}{i:Nat}(h:i<xs.size):xs[i]? =some (at' xs i):=by simp[Fg,h]
theorem eY{xs:Array CZ}{i:Nat}(h:i<xs.size):at' xs i=xs.toList[i]'(by simpa using h):=by simp[Fg,h]
section
variable{M:J4}{A:DL}{E:CI->CM->Prop}{s:CM}{κ:Hq}{U:CZ->Prop}{L:CZ->CZ->Bool}{a0:List CZ}{st:EA}
theorem SB.size(B:SB κ a0 st):(arrOf st).size=a0.length:=by rw[<-Dh];exact B.perm.length_eq
theorem SB.u(B:SB κ a0 st)(hU:∀x∈a0,U x){i:Nat}(hi:i<a0.length):U (at' (arrOf st) i):=by
 have h:=B.size;rw[eY (by omega)];exact hU _<|B.perm.mem_iff.mp<|F3 _
theorem Ar{xs:Array CZ}(nd:xs.toList.Nodup){i j:Nat}(hi:i<xs.size)(hj:j<xs.size)(hij:i≠j):at' xs i≠at' xs j:=by
 rw[eY hi,eY hj];have pw:=EY.mp<|DQ.mp nd;rcases Nat.lt_or_gt_of_ne hij with z|z
 ·exact pw i j _ _ z
 ·exact fun e=>pw j i _ _ z e.symm
theorem SB.ne(B:SB κ a0 st)(nd:a0.Nodup){i j:Nat}(hi:i<a0.length)(hj:j<a0.length)(hij:i≠j):at' (arrOf st) i≠at' (arrOf st) j:=by
 have h:=B.size;exact Ar (B.perm.nodup_iff.mpr nd) (by omega) (by omega) hij
theorem SB.set(B:SB κ a0 st){xs:Array CZ}(h:xs.Perm (arrOf st)):SB κ a0 (setArr st xs):=⟨B.kind,B.failed,(Array.perm_iff_toList_perm.mp h).trans B.perm⟩
theorem bg{arr:Array CZ}{i:Nat}{Q:CZ->EA->Prop}(hi:i<arr.size)(h:Q (at' arr i) st):wpS M A E s (elem' arr i) Q st:=by
 rw[elem'_eq,dw hi];exact CY h
theorem ie(O:LtOk M A E s κ U L)(hU:∀x∈a0,U x)(B:SB κ a0 st){i j:Nat}{Q:Option Bool->EA->Prop}(hi:i<a0.length)(hj:j<a0.length)(h:Q (some<|L (at' (arrOf st) i)<|at' (arrOf st) j) st):wpS M A E s (ltAt' i j) Q st:=by
 have hs:=B.size;rw[ltAt'_eq];refine CQ (GS (CQ (bg (by omega) (CQ (bg (by omega) ?_)))));exact O.lt _ _ _ _ (B.u hU hi) (B.u hU hj) B.kind h
theorem rP{xs:Array CZ}{src d:Nat}(hs:src<xs.size)(hd:d<=src)(k:Nat):at' (bubble xs src d) k=if k=src-d then at' xs src else if src-d<k/\k<=src then at' xs (k-1)else at' xs k:=by
 simp only[at',DM];rw[getElem?_bubble hs _ hd];split;·rfl
 ·split<;>rfl
theorem rQ{xs:Array CZ}{i j:Nat}(hj:j<=xs.size)(k:Nat):at' (mirror xs i j<|(j-i)/2) k=if i<=k/\k<j then at' xs (i+j-1-k)else at' xs k:=by
 simp only[at',DM];rw[getElem?_mirror_all hj];split<;>rfl
theorem xg(O:LtOk M A E s κ U L)(hU:∀x∈a0,U x)(nd:a0.Nodup){lo n ok:Nat}{Q:Bool->EA->Prop}(hn:lo+n<=a0.length)(hok:ok<=n)(B:SB κ a0 st)(hs:Sr L (arrOf st) lo (lo+ok))
  (h:∀st',SB κ a0 st'->pendingOf st'=pendingOf st->Sr L (arrOf st') lo (lo+n)->(∀i,i<lo\/lo+n<=i->at' (arrOf st') i=at' (arrOf st) i)->Q true st'):wpS M A E s (binarySort' lo n ok) Q st:=by
 rw[binarySort'_eq];refine CQ (FR (E3 (I:=fun k c st'=>c=(none,())/\SB κ a0 st'/\pendingOf st'=pendingOf st/\Sr L (arrOf st') lo (lo+min k n)/\∀i,i<lo\/lo+n<=i->at' (arrOf st') i=at' (arrOf st) i)
  (Q:=fun c st'=>c=(none,())/\SB κ a0 st'/\pendingOf st'=pendingOf st/\Sr L (arrOf st') lo (lo+n)/\∀i,i<lo\/lo+n<=i->at' (arrOf st') i=at' (arrOf st) i) ?step ?fin ?init) ?post)
 case post=>
  rintro c st' ⟨rfl,h1,h2,h3,h4⟩;exact CY<|h st' h1 h2 h3 h4
 case init=>
  refine⟨rfl,B,rfl,fun i j h1 h2 h3=>?_,fun i _=>rfl⟩;exact hs i j h1 h2 (by omega)
 case fin=>
  rintro c st' ⟨hc,h1,h2,h3,h4⟩;rw[show min (max (max ok 1) n) n=n by omega]at h3;exact⟨hc,h1,h2,h3,h4⟩
 case step=>
  rintro k c st' hak hkn ⟨rfl,B',hp,hs',hout⟩;rw[show min k n=k by omega]at hs';have hsz:=B'.size;refine CQ (FR (E3 (I:=fun x c st''=>st''=st'/\∃l r,c=(none,l,r)/\l<=r/\r<=k/\r-l<=k-x/\
    (∀i,i<l->L (at' (arrOf st') (lo+i)) (at' (arrOf st') (lo+k))=true)/\(∀i,r<=i->i<k->L (at' (arrOf st') (lo+k)) (at' (arrOf st') (lo+i))=true))
   (Q:=fun c st''=>st''=st'/\∃l r,c=(none,l,r)/\l<=k/\
    (∀i,i<l->L (at' (arrOf st') (lo+i)) (at' (arrOf st') (lo+k))=true)/\(∀i,l<=i->i<k->L (at' (arrOf st') (lo+k)) (at' (arrOf st') (lo+i))=true)) ?istep ?ifin ?iinit) ?ipost)
  case iinit=>exact⟨rfl,0,k,rfl,by omega,by omega,by omega,fun i hi=>by omega,fun i h1 h2=>by omega⟩
  case ifin=>
   rintro c st'' ⟨rfl,l,r,rfl,hlr,hrk,hm,hlo,hhi⟩;have:l=r:=by omega
   subst this;exact⟨rfl,l,l,rfl,hrk,hlo,hhi⟩
  case istep=>
   rintro x c st'' _ hxk ⟨rfl,l,r,rfl,hlr,hrk,hm,hlo,hhi⟩;dsimp only;by_cases hge:l≥r
   ·rw[if_pos hge];have:l=r:=by omega
    subst this;exact CY ⟨rfl,l,l,rfl,hrk,hlo,hhi⟩
   ·rw[if_neg hge];refine CQ (ie O hU B' (by omega) (by omega) ?_);have uu:∀i,i<=k->U (at' (arrOf st'')<|lo+i):=fun i hi=>B'.u hU (by omega);cases hless:L (at' (arrOf st'')<|lo+k) (at' (arrOf st'')<|lo+(l+r)/2)with
    |true=>
     simp only[if_true];refine CY ⟨rfl,l,(l+r)/2,rfl,by omega,by omega,by omega,hlo,fun i h1 h2=>?_⟩;by_cases y:i=(l+r)/2;·rw[y];exact hless
     ·exact O.tr _ _ _ (uu _ (by omega)) (uu _ (by omega)) (uu _ (by omega)) hless (hs' _ _ (by omega) (by omega) (by omega))
    |false=>
     simp only[Dp,if_false];have q:=O.tot _ _ (uu _ (by omega)) (uu _ (by omega)) (B'.ne nd (by omega) (by omega) (by omega)) hless;refine CY ⟨rfl,(l+r)/2+1,r,rfl,by omega,by omega,by omega,fun i h1=>?_,hhi⟩;by_cases y:i=(l+r)/2;·rw[y];exact q
     ·exact O.tr _ _ _ (uu _ (by omega)) (uu _ (by omega)) (uu _ (by omega)) (hs' _ _ (by omega) (by omega) (by omega)) q
  case ipost=>
   rintro c st'' ⟨rfl,l,r,rfl,hlk,hlo,hhi⟩;show wpS _ _ _ _ (do moveDown' (lo+k) (lo+l);pure (Dv (none,()))) _ _;rw[moveDown'_eq];have e1:∀i,at' (bubble (arrOf st'') (lo+k)<|lo+k-(lo+l)) i=if i=lo+l then at' (arrOf st'') (lo+k)else if lo+l<i/\i<=lo+k then at' (arrOf st'') (i-1)else at' (arrOf st'') i:=fun i=>by
    rw[rP (by omega) (by omega),show lo+k-(lo+k-(lo+l))=lo+l by omega]
   refine CQ<|EH<|CY ⟨rfl,B'.set<|bubble_perm _ _ _,hp,?_,fun i hi=>?_⟩
   ·rw[show min (k+1) n=k+1 by omega];intro i j h1 h2 h3;show L (at' (bubble (arrOf st'') (lo+k)<|lo+k-(lo+l)) i) (at' (bubble (arrOf st'') (lo+k)<|lo+k-(lo+l)) j)=true;rw[e1,e1];have hlo':∀i,lo<=i->i<lo+l->L (at' (arrOf st'') i) (at' (arrOf st'')<|lo+k)=true:=fun i h1 h2=>by
     have:=hlo (i-lo) (by omega);rwa [show lo+(i-lo)=i by omega]at this
    have hhi':∀i,lo+l<=i->i<lo+k->L (at' (arrOf st'')<|lo+k) (at' (arrOf st'') i)=true:=fun i h1 h2=>by
     have:=hhi (i-lo) (by omega) (by omega);rwa [show lo+(i-lo)=i by omega]at this
    repeat' split
    all_goals first
     |(exfalso;omega)
     |exact hlo' _ (by omega) (by omega)
     |exact hhi' _ (by omega) (by omega)
     |exact hs' _ _ (by omega) (by omega) (by omega)
   ·show at' (bubble (arrOf st'') (lo+k)<|lo+k- (lo+l)) i=_;rw[e1,if_neg (by omega),if_neg (by omega)];exact hout i hi
end
section
variable{M:J4}{A:DL}{E:CI->CM->Prop}{s:CM}{κ:Hq}{U:CZ->Prop}{L:CZ->CZ->Bool}{a0:List CZ}{st:EA}
theorem As(O:LtOk M A E s κ U L)(hU:∀x∈a0,U x)(nd:a0.Nodup){lo nrem n0:Nat}{Q:Option (Option Nat)×Nat->EA->Prop}(hn:lo+nrem<=a0.length)(h1:1<=n0)(h2:n0<=nrem)(B:SB κ a0 st)(hs:Sr L (arrOf st) lo (lo+n0))
  (h:∀n,n0<=n->n<=nrem->Sr L (arrOf st) lo (lo+n)->(n=nrem\/L (at' (arrOf st)<|lo+n) (at' (arrOf st)<|lo+n-1)=true)->Q (none,n) st):
  wpS M A E s (forIn [n0:nrem] ((none:Option (Option Nat)),n0) fun _ c=>do
   let some smaller <-ltAt' (lo+c.2) (lo+c.2-1)|pure (Dm (some none,c.2))
   if smaller=true then pure (Dm (none,c.2))else pure (Dv (none,c.2+1))) Q st:=by
 refine E3 (I:=fun x c st'=>st'=st/\c=(none,x)/\n0<=x/\x<=nrem/\Sr L (arrOf st) lo (lo+x)) ?step ?fin ⟨rfl,rfl,CN _,h2,hs⟩
 case fin=>
  rintro c st' ⟨rfl,rfl,q1,q2,q3⟩;rw[show max n0 nrem=nrem by omega]at q3 ⊢;exact h nrem h2 (CN _) q3<|.inl rfl
 case step=>
  rintro x c st' hx1 hx2 ⟨rfl,rfl,q1,q2,q3⟩;dsimp only;have uu:∀i,i<a0.length->U (at' (arrOf st') i):=fun i hi=>B.u hU hi;refine CQ (ie O hU B (by omega) (by omega) ?_);cases hless:L (at' (arrOf st')<|lo+x) (at' (arrOf st')<|lo+x-1)with
  |true=>
   dsimp only;rw[if_pos rfl];exact CY<|h x q1 q2 q3<|.inr hless
  |false=>
   dsimp only;rw[if_neg (by decide)];have q:=O.tot _ _ (uu _ (by omega)) (uu _ (by omega)) (B.ne nd (by omega) (by omega) (by omega)) hless;refine CY ⟨rfl,rfl,by omega,by omega,fun i j g1 g2 g3=>?_⟩;by_cases z:j<lo+x;·exact q3 i j g1 g2 z
   ·have:j=lo+x:=by omega
    subst this;by_cases y:i=lo+x-1;·rw[y];exact q
    ·exact O.tr _ _ _ (uu _ (by omega)) (uu _ (by omega)) (uu _ (by omega)) (q3 i (lo+x-1) g1 (by omega) (by omega)) q
theorem Au(O:LtOk M A E s κ U L)(hU:∀x∈a0,U x)(nd:a0.Nodup){lo nrem n0:Nat}{Q:Option (Option Nat)×Nat×Nat->EA->Prop}(hn:lo+nrem<=a0.length)(h1:2<=n0)(h2:n0<=nrem)(B:SB κ a0 st)(hs:∀i j,lo<=i->i<j->j<lo+n0->L (at' (arrOf st) j) (at' (arrOf st) i)=true)
  (h:∀n,n0<=n->n<=nrem->(∀i j,lo<=i->i<j->j<lo+n->L (at' (arrOf st) j) (at' (arrOf st) i)=true)->Q (none,n,0) st):
  wpS M A E s (forIn [n0:nrem] ((none:Option (Option Nat)),n0,0) fun _ c=>do
   let some smaller <-ltAt' (lo+c.2.1) (lo+c.2.1-1)|pure (Dm (some none,c.2.1,c.2.2))
   if smaller=true then
    if c.2.2>0 then
     reverseSlice' (lo+c.2.1-(c.2.2+1)) (lo+c.2.1)
     pure (Dv (none,c.2.1+1,0))
    else pure (Dv (none,c.2.1+1,0))
   else
    let some larger <-ltAt' (lo+c.2.1-1) (lo+c.2.1)|pure (Dm (some none,c.2.1,c.2.2))
    if larger=true then pure (Dm (none,c.2.1,c.2.2))else pure (Dv (none,c.2.1+1,c.2.2+1))) Q st:=by
 refine E3 (I:=fun x c st'=>st'=st/\c=(none,x,0)/\n0<=x/\x<=nrem/\∀i j,lo<=i->i<j->j<lo+x->L (at' (arrOf st) j) (at' (arrOf st) i)=true) ?step ?fin ⟨rfl,rfl,CN _,h2,hs⟩
 case fin=>
  rintro c st' ⟨rfl,rfl,q1,q2,q3⟩;rw[show max n0 nrem=nrem by omega]at q3 ⊢;exact h nrem h2 (CN _) q3
 case step=>
  rintro x c st' hx1 hx2 ⟨rfl,rfl,q1,q2,q3⟩;dsimp only;have uu:∀i,i<a0.length->U (at' (arrOf st') i):=fun i hi=>B.u hU hi;refine CQ (ie O hU B (by omega) (by omega) ?_);cases hless:L (at' (arrOf st')<|lo+x) (at' (arrOf st')<|lo+x-1)with
  |true=>
   dsimp only;rw[if_pos rfl,if_neg (by omega)];refine CY ⟨rfl,rfl,by omega,by omega,fun i j g1 g2 g3=>?_⟩;by_cases z:j<lo+x;·exact q3 i j g1 g2 z
   ·have:j=lo+x:=by omega
    subst this;by_cases y:i=lo+x-1;·rw[y];exact hless
    ·exact O.tr _ _ _ (uu _ (by omega)) (uu _ (by omega)) (uu _ (by omega)) hless (q3 i (lo+x-1) g1 (by omega) (by omega))
  |false=>
   dsimp only;rw[if_neg (by decide)];have q:=O.tot _ _ (uu _ (by omega)) (uu _ (by omega)) (B.ne nd (by omega) (by omega) (by omega)) hless;refine CQ (ie O hU B (by omega) (by omega) ?_);rw[q];dsimp only;rw[if_pos rfl];exact CY<|h x q1 q2 q3
theorem zm(O:LtOk M A E s κ U L)(hU:∀x∈a0,U x)(nd:a0.Nodup){lo nrem:Nat}{Q:Option Nat->EA->Prop}(hn:lo+nrem<=a0.length)(h1:1<=nrem)(B:SB κ a0 st)
  (h:∀n st',1<=n->n<=nrem->SB κ a0 st'->pendingOf st'=pendingOf st->Sr L (arrOf st') lo (lo+n)->(∀i,i<lo\/lo+nrem<=i->at' (arrOf st') i=at' (arrOf st) i)->Q (some n) st'):wpS M A E s (countRun' lo nrem) Q st:=by
 rw[countRun'_eq];refine CQ (As O hU nd hn (CN _) h1 B (fun i j g1 g2 g3=>by omega) fun n n1 n2 n3 n4=>?_);dsimp only;by_cases z:n=nrem
 ·rw[if_pos (by simpa using z)];exact CY<|h n st n1 n2 B rfl n3 fun _ _=>rfl
 rw[if_neg (by simpa using z)];have n5:L (at' (arrOf st)<|lo+n) (at' (arrOf st)<|lo+n-1)=true:=n4.resolve_left z;by_cases y:n>1
 ·rw[if_pos y];refine CQ (ie O hU B (by omega) (by omega) ?_);rw[n3 lo (lo+n-1) (CN _) (by omega) (by omega)];dsimp only;rw[if_pos rfl];exact CY<|h n st n1 n2 B rfl n3 fun _ _=>rfl
 rw[if_neg y];have:n=1:=by omega
 subst this;refine CQ<|IJ<|Fq ⟨rfl,?_⟩;refine CQ (Au O hU nd hn (CN _) (by omega) B (fun i j g1 g2 g3=>?_) fun m m1 m2 m3=>?_)
 ·have:i=lo/\j=lo+1:=by omega
  rw[this.1,this.2];exact n5
 dsimp only;rw[if_neg (by omega)];rw[reverseSlice'_eq];refine CQ<|EH ?_;have hsz:=B.size;have e1:∀k,at' (mirror (arrOf st) lo (lo+m)<|(lo+m-lo)/2) k=if lo<=k/\k<lo+m then at' (arrOf st) (lo+(lo+m)-1-k)else at' (arrOf st) k:=fun k=>rQ (by omega) k;have B2:SB κ a0 (setArr st<|mirror (arrOf st) lo (lo+m)<|(lo+m-lo)/2):=B.set<|mirror_perm _ _ _ _;refine CQ (As O hU nd hn (by omega) m2 B2 (fun i j g1 g2 g3=>?_) fun k k1 k2 k3 k4=>?_)
 ·show L (at' (mirror (arrOf st) lo (lo+m)<|(lo+m- lo)/ 2) i) (at' (mirror (arrOf st) lo (lo+m)<|(lo+m- lo)/ 2) j)=true;rw[e1,e1,if_pos (by omega),if_pos (by omega)];exact m3 _ _ (by omega) (by omega) (by omega)
 ·dsimp only;refine CY (h k _ (by omega) k2 B2 rfl k3 fun i hi=>?_);show at' (mirror (arrOf st) lo (lo+m)<|(lo+m-lo)/2) i=_;rw[e1,if_neg (by omega)]
end
def dN:Bool->CZ->Array CZ->Nat->Nat->Nat->StateT EA Sem (Option Nat):=sortPriv%PySem.Builtin.gallop
def ym(left:Bool)(key:CZ)(arr:Array CZ)(base i:Nat):StateT EA Sem (Option Bool):=do
    let x <-elem' arr (base+i)
    if left then lt' x key else return (<-lt' key x).map (!·)
theorem oS(left:Bool)(key:CZ)(arr:Array CZ)(base n hint:Nat):dN left key arr base n hint=(do
 let mut lastofs:=0
 let mut ofs:=1
 let mut lo:=0
 let mut hi:=0
 let some right <-ym left key arr base hint|return none
 if right then
  let maxofs:=n-hint
  for _ in [0:n]do
   if ofs≥maxofs then break
   let some more <-ym left key arr base (hint+ofs)|return none
   if !more then break
   lastofs:=ofs
   ofs:=2*ofs+1
  lo:=hint+lastofs+1
  hi:=hint+min ofs maxofs
 else
  let maxofs:=hint+1
  for _ in [0:n]do
   if ofs≥maxofs then break
   let some found <-ym left key arr base (hint-ofs)|return none
   if found then break
   lastofs:=ofs
   ofs:=2*ofs+1
  lo:=hint+1-min ofs maxofs
  hi:=hint-lastofs
 for _ in [0:n]do
  if lo≥hi then break
  let m:=lo+(hi-lo)/2
  let some more <-ym left key arr base m|return none
  if more then lo:=m+1 else hi:=m
 return some hi):=rfl
section
variable{M:J4}{A:DL}{E:CI->CM->Prop}{s:CM}{κ:Hq}{U:CZ->Prop}{L:CZ->CZ->Bool}{st:EA}
def B'(L:CZ->CZ->Bool)(left:Bool)(key:CZ)(arr:Array CZ)(base i:Nat):Bool:=if left then L (at' arr<|base+i) key else !L key (at' arr<|base+i)
theorem zo(O:LtOk M A E s κ U L){left:Bool}{key:CZ}{arr:Array CZ}{base i:Nat}{Q:Option Bool->EA->Prop}(hk:U key)(hu:U (at' arr<|base+i))(hi:base+i<arr.size)(kd:kindOf st=κ)(h:Q (some<|B' L left key arr base i) st):wpS M A E s (ym left key arr base i) Q st:=by
 unfold ym;refine CQ<|bg hi ?_;unfold B' at h;cases left with
 |true=>exact O.lt _ _ _ _ hu hk kd h
 |false=>exact CQ<|O.lt _ _ _ _ hk hu kd<|CY h
theorem df(O:LtOk M A E s κ U L){left:Bool}{key:CZ}{arr:Array CZ}{base n hint:Nat}{Q:Option Nat->EA->Prop}(hk:U key)(hu:∀i,i<n->U (at' arr<|base+i))(hz:base+n<=arr.size)(hh:hint<n)(kd:kindOf st=κ)
  (mono:∀i j,i<j->j<n->B' L left key arr base j=true->B' L left key arr base i=true)
  (h:∀k,k<=n->(∀i,i<n->(B' L left key arr base i=true↔i<k))->Q (some k) st):wpS M A E s (dN left key arr base n hint) Q st:=by
 rw[oS];have ask:∀i(R:Option Bool->EA->Prop),i<n->R (some<|B' L left key arr base i) st->wpS M A E s (ym left key arr base i) R st:=fun i R hi hR=>zo O hk (hu i hi) (by omega) kd hR;generalize hB:B' L left key arr base=B at*
 have fin:∀lo hi,lo<=hi->hi<=n->(∀i,i<lo->B i=true)->(∀i,hi<=i->i<n->B i=false)->∀k:Option (Option Nat)×Nat×Nat->StateT EA Sem (Option Nat),(∀l r,k (none,l,r)=pure (some r))->wpS M A E s (do
   let c <-forIn [0:n] ((none:Option (Option Nat)),lo,hi) fun _ c=>do
    if c.2.1≥c.2.2 then pure (Dm (none,c.2.1,c.2.2))else
     let some more <-ym left key arr base (c.2.1+(c.2.2-c.2.1)/2)|pure (Dm (some none,c.2.1,c.2.2))
     if more=true then pure (Dv (none,c.2.1+(c.2.2-c.2.1)/2+1,c.2.2))else pure (Dv (none,c.2.1,c.2.1+(c.2.2-c.2.1)/2))
   k c) Q st:=by
  intro lo hi hlo hhi h1 h2 k hk';refine CQ (E3 (I:=fun x c st'=>st'=st/\∃l r,c=(none,l,r)/\l<=r/\r<=n/\r-l<=n-x/\(∀i,i<l->B i=true)/\∀i,r<=i->i<n->B i=false) ?step ?fin ⟨rfl,lo,hi,rfl,hlo,hhi,by omega,h1,h2⟩)
  case fin=>
   rintro c st' ⟨rfl,l,r,rfl,q1,q2,q3,q4,q5⟩;have:l=r:=by omega
   subst this;rw[hk'];refine CY<|h l q2 fun i hi=>⟨fun z=>?_,q4 i⟩;by_cases y:i<l;·exact y
   ·rw[q5 i (by omega) hi]at z;cases z
  case step=>
   rintro x c st' _ hx ⟨rfl,l,r,rfl,q1,q2,q3,q4,q5⟩;dsimp only;by_cases z:l≥r
   ·rw[if_pos z];have:l=r:=by omega
    subst this;refine CY ?_;show wpS M A E s (k (none,l,l)) Q st';rw[hk'];refine CY<|h l q2 fun i hi=>⟨fun z=>?_,q4 i⟩;by_cases y:i<l;·exact y
    ·rw[q5 i (by omega) hi]at z;cases z
   ·rw[if_neg z];refine CQ (ask _ _ (by omega) ?_);cases hm:B (l+(r-l)/2)with
    |true=>
     dsimp only;rw[if_pos rfl];refine CY ⟨rfl,_,_,rfl,by omega,q2,by omega,fun i hi=>?_,q5⟩;by_cases y:i=l+(r-l)/2;·rw[y];exact hm
     ·exact mono i _ (by omega) (by omega) hm
    |false=>
     dsimp only;rw[if_neg (by decide)];refine CY ⟨rfl,_,_,rfl,by omega,by omega,by omega,q4,fun i h1 h2=>?_⟩;cases e:B i with
     |false=>rfl
     |true=>
      by_cases y:i=l+(r-l)/2;·rw[y]at e;rw[e]at hm;exact hm
      ·rw[mono _ i (by omega) h2 e]at hm;exact hm
 refine CQ<|ask hint _ hh ?_;cases hr:B hint with
 |true=>
  dsimp only;rw[if_pos rfl];refine CQ<|FR (E3 (I:=fun x c st'=>st'=st/\∃la o,c=(none,la,o)/\la<o/\x<o/\hint+la<n/\B (hint+la)=true) (Q:=fun c st'=>st'=st/\∃la o,c=(none,la,o)/\la<o/\hint+la<n/\B (hint+la)=true/\(o≥n-hint\/(hint+o<n/\B (hint+o)=false))) ?step ?fin ?init) ?post
  case init=>exact⟨rfl,0,1,rfl,by omega,by omega,by omega,by simpa using hr⟩
  case fin=>
   rintro c st' ⟨rfl,la,o,rfl,q1,q2,q3,q4⟩;exact⟨rfl,la,o,rfl,q1,q3,q4,.inl (by omega)⟩
  case step=>
   rintro x c st' _ hx ⟨rfl,la,o,rfl,q1,q2,q3,q4⟩;dsimp only;by_cases z:o≥n-hint
   ·rw[if_pos z];exact CY ⟨rfl,la,o,rfl,q1,q3,q4,.inl z⟩
   ·rw[if_neg z];refine CQ (ask _ _ (by omega) ?_);cases hm:B (hint+o)with
    |true=>exact CY ⟨rfl,o,2*o+1,rfl,by omega,by omega,by omega,hm⟩
    |false=>exact CY ⟨rfl,la,o,rfl,q1,q3,q4,.inr ⟨by omega,hm⟩⟩
  case post=>
   rintro c st' ⟨rfl,la,o,rfl,q1,q3,q4,q5⟩;dsimp only;have k1:∀i,i<hint+la+1->B i=true:=fun i hi=>by
    by_cases y:i=hint+la;·rw[y];exact q4
    ·exact mono i _ (by omega) q3 q4
   refine fin (hint+la+1) (hint+min o (n-hint)) (by omega) (by omega) k1 (fun i h1 h2=>?_) _<|fun _ _=>rfl;rcases q5 with q5|⟨q5,q6⟩
   ·omega
   ·cases e:B i with
    |false=>rfl
    |true=>
     by_cases y:i=hint+o;·rw[y]at e;rw[e]at q6;exact q6
     ·rw[mono _ i (by omega) h2 e]at q6;exact q6
 |false=>
  dsimp only;rw[if_neg (by decide)];refine CQ<|FR (E3 (I:=fun x c st'=>st'=st/\∃la o,c=(none,la,o)/\la<o/\x<o/\la<=hint/\B (hint-la)=false) (Q:=fun c st'=>st'=st/\∃la o,c=(none,la,o)/\la<o/\la<=hint/\B (hint-la)=false/\(o≥hint+1\/(o<=hint/\B (hint-o)=true))) ?step ?fin ?init) ?post
  case init=>exact⟨rfl,0,1,rfl,by omega,by omega,by omega,by simpa using hr⟩
  case fin=>
   rintro c st' ⟨rfl,la,o,rfl,q1,q2,q3,q4⟩;exact⟨rfl,la,o,rfl,q1,q3,q4,.inl (by omega)⟩
  case step=>
   rintro x c st' _ hx ⟨rfl,la,o,rfl,q1,q2,q3,q4⟩;dsimp only;by_cases z:o≥hint+1
   ·rw[if_pos z];exact CY ⟨rfl,la,o,rfl,q1,q3,q4,.inl z⟩
   ·rw[if_neg z];refine CQ (ask _ _ (by omega) ?_);cases hm:B (hint-o)with
    |true=>exact CY ⟨rfl,la,o,rfl,q1,q3,q4,.inr ⟨by omega,hm⟩⟩
    |false=>exact CY ⟨rfl,o,2*o+1,rfl,by omega,by omega,by omega,hm⟩
  case post=>
   rintro c st' ⟨rfl,la,o,rfl,q1,q3,q4,q5⟩;dsimp only;refine fin (hint+1-min o (hint+1)) (hint-la) (by omega) (by omega) (fun i hi=>?_) (fun i h1 h2=>?_) _<|fun _ _=>rfl
   ·rcases q5 with q5 | ⟨q5,q6⟩
    ·omega
    ·by_cases y:i=hint- o;·rw[y];exact q6
     ·exact mono i _ (by omega) (by omega) q6
   ·cases e:B i with
    |false=>rfl
    |true=>
     by_cases y:i=hint-la;·rw[y]at e;rw[e]at q4;exact q4
     ·rw[mono _ i (by omega) h2 e]at q4;exact q4
end
def ext'(xs:Array CZ)(a b:Nat):List CZ:=(xs.extract a b).toList
theorem dG(xs:Array CZ)(a b:Nat):ext' xs a b=(xs.toList.drop a).take (b-a):=by unfold ext';rw[Array.toList_extract,List.extract_eq_drop_take]
theorem bT{xs:Array CZ}{a b:Nat}(hb:b<=xs.size){x:CZ}:x∈ext' xs a b↔∃i,a<=i/\i<b/\x=at' xs i:=by
 rw[dG,G6];constructor
 ·rintro ⟨i,hi⟩;have hlt:i<b-a:=by
   have:=(CO.mp hi).1;simp at this;omega
  rw[DP hlt,E1,CT,dw (by omega)]at hi;cases hi;exact⟨a+i,by omega,by omega,rfl⟩
 ·rintro ⟨i,h1,h2,rfl⟩;refine⟨i-a,?_⟩;rw[DP (by omega),E1,CT,show a+(i-a)=i by omega,dw (by omega)]
theorem gu{L:CZ->CZ->Bool}{xs:Array CZ}{a b lo hi:Nat}(h:Sr L xs lo hi)(ha:lo<=a)(hb:b<=hi)(hs:hi<=xs.size):(ext' xs a b).Pairwise (fun x y=>L x y=true):=by
 rw[dG,EY];intro i j hi' hj hij;have hj':j<b-a:=by simp at hj;omega
 have e:∀k,k<b-a->(h':k<((xs.toList.drop a).take (b-a)).length)->((xs.toList.drop a).take (b-a))[k]=at' xs (a+k):=fun k hk h'=>by
  have:=CK h';rw[DP hk,E1,CT,dw (by omega)]at this;exact(DG this).symm
 rw[e i (by omega),e j hj'];exact h _ _ (by omega) (by omega) (by omega)
theorem fv{xs:Array CZ}{a b:Nat}(hb:b<xs.size)(hab:a<=b):ext' xs a (b+1)=ext' xs a b++[at' xs b]:=by
 rw[dG,dG,show b+1-a=(b-a)+1 by omega,List.take_succ,E1,CT,show a+(b-a)=b by omega,dw hb];rfl
theorem dz{xs:Array CZ}{a b c:Nat}(h1:a<=b)(h2:b<=c):ext' xs a c=ext' xs a b++ext' xs b c:=by
 rw[dG,dG,dG,show c-a=(b-a)+(c-b) by omega,List.take_add,L6,show a+(b-a)=b by omega]
theorem ig(xs:Array CZ):ext' xs 0 xs.size=xs.toList:=by rw[dG,Jr,Nat.sub_zero,<-Dh,List.take_length]
theorem dO(xs:Array CZ)(a:Nat):ext' xs a a=[]:=by rw[dG];simp
structure JL(L:CZ->CZ->Bool)(a b out:Array CZ)(ia ib:Nat):Prop where
 pm:out.toList.Perm (ext' a 0 ia++ext' b 0 ib)
 so:out.toList.Pairwise (fun x y=>L x y=true)
 lo:∀x∈out.toList,(∀i,ia<=i->i<a.size->L x (at' a i)=true)/\∀j,ib<=j->j<b.size->L x (at' b j)=true
section
variable{L:CZ->CZ->Bool}{a b out:Array CZ}{ia ib:Nat}
theorem JL.takeA(J:JL L a b out ia ib)(sa:Sr L a 0 a.size){k:Nat}(hk:ia+k<=a.size)(h:∀i,ia<=i->i<ia+k->∀j,ib<=j->j<b.size->L (at' a i) (at' b j)=true){out':Array CZ}(ho:out'.toList=out.toList++ext' a ia (ia+k)):JL L a b out' (ia+k) ib:=by
 refine⟨?_,?_,fun x hx=>?_⟩
 ·rw[ho,dz (xs:=a) (Dl ia)<|Fo ia k,Dg];refine(Eb _ J.pm).trans ?_;rw[Dg];exact Ei _ Fx
 ·rw[ho,Es];refine⟨J.so,gu sa (Dl _) (by omega)<|CN _,fun x hx y hy=>?_⟩;obtain⟨i,h1,h2,rfl⟩:=(bT (by omega)).mp hy;exact(J.lo x hx).1 i h1 (by omega)
 ·rw[ho]at hx;rcases DF.mp hx with hx|hx
  ·exact⟨fun i h1 h2=>(J.lo x hx).1 i (by omega) h2,(J.lo x hx).2⟩
  ·obtain⟨i,h1,h2,rfl⟩:=(bT (by omega)).mp hx;exact⟨fun i' h3 h4=>sa i i' (by omega) (by omega) h4,h i h1 h2⟩
theorem JL.takeB(J:JL L a b out ia ib)(sb:Sr L b 0 b.size){k:Nat}(hk:ib+k<=b.size)(h:∀j,ib<=j->j<ib+k->∀i,ia<=i->i<a.size->L (at' b j) (at' a i)=true){out':Array CZ}(ho:out'.toList=out.toList++ext' b ib (ib+k)):JL L a b out' ia (ib+k):=by
 refine⟨?_,?_,fun x hx=>?_⟩
 ·rw[ho,dz (xs:=b) (Dl ib)<|Fo ib k,<-Dg];exact Eb _ J.pm
 ·rw[ho,Es];refine⟨J.so,gu sb (Dl _) (by omega)<|CN _,fun x hx y hy=>?_⟩;obtain⟨i,h1,h2,rfl⟩:=(bT (by omega)).mp hy;exact(J.lo x hx).2 i h1 (by omega)
 ·rw[ho]at hx;rcases DF.mp hx with hx|hx
  ·exact⟨(J.lo x hx).1,fun i h1 h2=>(J.lo x hx).2 i (by omega) h2⟩
  ·obtain⟨i,h1,h2,rfl⟩:=(bT (by omega)).mp hx;exact⟨h i h1 h2,fun i' h3 h4=>sb i i' (by omega) (by omega) h4⟩
theorem JL.fin(J:JL L a b out ia ib)(sa:Sr L a 0 a.size)(sb:Sr L b 0 b.size)(ha:ia<=a.size)(hb:ib<=b.size)(h:∀j,ib<=j->j<b.size->∀i,ia<=i->i<a.size->L (at' b j) (at' a i)=true){r:List CZ}(hr:r=out.toList++ext' b ib b.size++ext' a ia a.size):
  r.Perm (a.toList++b.toList)/\r.Pairwise (fun x y=>L x y=true):=by
 subst hr;constructor
 ·have e1:a.toList=ext' a 0 ia++ext' a ia a.size:=by rw[<-dz (Dl _) ha,ig]
  have e2:b.toList=ext' b 0 ib++ext' b ib b.size:=by rw[<-dz (Dl _) hb,ig]
  rw[e1,e2];refine(Eb _<|Eb _ J.pm).trans ?_;generalize ext' a 0 ia=p;generalize ext' a ia a.size=q;generalize ext' b 0 ib=u;generalize ext' b ib b.size=v;rw[Dg p,Dg p,Dg p];refine Ei _ ?_;exact Fx
 ·rw[Dg,Es,Es];refine⟨J.so,⟨gu sb (Dl _) (CN _)<|CN _,gu sa (Dl _) (CN _)<|CN _,fun x hx y hy=>?_⟩,fun x hx y hy=>?_⟩
  ·obtain⟨j,h1,h2,rfl⟩:=(bT<|CN _).mp hx;obtain⟨i,h3,h4,rfl⟩:=(bT<|CN _).mp hy;exact h j h1 h2 i h3 h4
  ·rcases DF.mp hy with hy | hy
   ·obtain⟨j,h1,h2,rfl⟩:=(bT<|CN _).mp hy;exact(J.lo x hx).2 j h1 h2
   ·obtain⟨j,h1,h2,rfl⟩:=(bT<|CN _).mp hy;exact(J.lo x hx).1 j h1 h2
end
def ku:Array CZ->Array CZ->StateT EA Sem (Array CZ):=sortPriv%PySem.Builtin.mergeLo
def ij(g:Nat):StateT EA Sem Unit:=modify fun st=>Gi (kindOf st) (arrOf st) (pendingOf st) g<|failedOf st
theorem nG(a b:Array CZ):ku a b=(do
 rule "list.sort.merge-lo"
 let total:=a.size+b.size
 let done (out:Array CZ) (ia ib:Nat):=out++a.extract ia a.size++b.extract ib b.size
 let lastOfA (out:Array CZ) (ia ib:Nat):=out++b.extract ib b.size++a.extract ia a.size
 let mut out:Array CZ:= #[<-elem' b 0]
 let mut ia:=0
 let mut ib:=1
 if ib==b.size then return done out ia ib
 if ia+1==a.size then return lastOfA out ia ib
 let mut minGallop:=gallopOf (<-get)
 for _ in [0:total]do
  let mut acount:=0
  let mut bcount:=0
  for _ in [0:total]do
   let some bWins <-lt' (<-elem' b ib) (<-elem' a ia)|return done out ia ib
   if bWins then
    out:=out.push<|<-elem' b ib;ib:=ib+1;bcount:=bcount+1;acount:=0
    if ib==b.size then return done out ia ib
    if bcount≥minGallop then break
   else
    out:=out.push<|<-elem' a ia;ia:=ia+1;acount:=acount+1;bcount:=0
    if ia+1==a.size then return lastOfA out ia ib
    if acount≥minGallop then break
  rule "list.sort.gallop"
  minGallop:=minGallop+1
  for _ in [0:total]do
   if minGallop>1 then minGallop:=minGallop-1
   ij minGallop
   let some k <-dN false (<-elem' b ib) a ia (a.size-ia) 0|return done out ia ib
   acount:=k
   if k>0 then
    out:=out++a.extract ia (ia+k);ia:=ia+k
    if ia+1==a.size then return lastOfA out ia ib
    if ia==a.size then return done out ia ib
   out:=out.push<|<-elem' b ib;ib:=ib+1
   if ib==b.size then return done out ia ib
   let some k <-dN true (<-elem' a ia) b ib (b.size-ib) 0|return done out ia ib
   bcount:=k
   if k>0 then
    out:=out++b.extract ib (ib+k);ib:=ib+k
    if ib==b.size then return done out ia ib
   out:=out.push<|<-elem' a ia;ia:=ia+1
   if ia+1==a.size then return lastOfA out ia ib
   if acount<7&&bcount<7 then break
  minGallop:=minGallop+1
  ij minGallop
 unsupported "internal:list.sort.merge-bound"):=rfl
section
variable{M:J4}{A:DL}{E:CI->CM->Prop}{s:CM}{κ:Hq}{U:CZ->Prop}{L:CZ->CZ->Bool}{st:EA}
def cz(st st':EA):Prop:=kindOf st'=kindOf st/\arrOf st'=arrOf st/\pendingOf st'=pendingOf st/\failedOf st'=failedOf st
theorem oT(O:LtOk M A E s κ U L){a b:Array CZ}{Q:Array CZ->EA->Prop}(kd:kindOf st=κ)(ua:∀i,i<a.size->U (at' a i))(ub:∀i,i<b.size->U (at' b i))(na:0<a.size)(nb:0<b.size)(sa:Sr L a 0 a.size)(sb:Sr L b 0 b.size)
  (ne:∀i j,i<a.size->j<b.size->at' a i≠at' b j) (h0:L (at' b 0) (at' a 0)=true) (h1:∀j,j<b.size->L (at' b j) (at' a<|a.size-1)=true)
  (h:∀r st',cz st st'->r.toList.Perm (a.toList++b.toList)->r.toList.Pairwise (fun x y=>L x y=true)->Q r st'):wpS M A E s (ku a b) Q st:=by
 rw[nG];refine CQ<|IJ<|Fq ⟨rfl,?_⟩;dsimp only;refine CQ<|bg nb ?_;have J0:JL L a b #[at' b 0] 0 1:=by
  refine⟨?_,GG _ _,fun x hx=>?_⟩;·rw[dO,fv (a:=0) (b:=0) nb<|CN _,dO];exact .refl _
  ·have:x=at' b 0:=by simpa using hx
   subst this;refine⟨fun i h2 h3=>?_,fun j h2 h3=>sb 0 j (CN _) (by omega) h3⟩;by_cases z:i=0;·rw[z];exact h0
   ·exact O.tr _ _ _ (ub 0 nb) (ua 0 na) (ua i h3) h0 (sa 0 i (CN _) (by omega) h3)
 have endB:∀(out:Array CZ)ia ib st',cz st st'->JL L a b out ia ib->ia<=a.size->ib=b.size->Q (out++a.extract ia a.size++b.extract ib b.size) st':=fun out ia ib st' al J h2 h3=>by
  subst h3;have:=J.fin sa sb h2 (CN _) (fun j h3 h4=>by omega) (r:=(out++a.extract ia a.size++b.extract b.size b.size).toList) (by
   rw[DO,DO];show out.toList++ext' a ia a.size++ext' b b.size b.size=_;rw[dO,Ex,Ex])
  exact h _ st' al this.1 this.2
 have endA:∀(out:Array CZ)ia ib st',cz st st'->JL L a b out ia ib->ib<=b.size->ia+1=a.size->Q (out++b.extract ib b.size++a.extract ia a.size) st':=fun out ia ib st' al J h2 h3=>by
  have:=J.fin sa sb (by omega) h2 (fun j h4 h5 i h6 h7=>by
   have:i=a.size-1:=by omega
   rw[this];exact h1 j h5) (r:=(out++b.extract ib b.size++a.extract ia a.size).toList) (by rw[DO,DO];rfl)
  exact h _ st' al this.1 this.2
 have al0:cz st st:=⟨rfl,rfl,rfl,rfl⟩
 by_cases z1:1=b.size
 ·rw[if_pos (by simpa using z1)];exact CY<|endB _ 0 1 st al0 J0 (Dl _) z1
 rw[if_neg (by simpa using z1)];by_cases z2:0+1=a.size
 ·rw[if_pos (by simpa using z2)];exact CY (endA _ 0 1 st al0 J0 (by omega) z2)
 rw[if_neg (by simpa using z2)];refine CQ<|GS ?_;refine CQ<|FR (E3 (I:=fun x c st'=>cz st st'/\∃out ia ib g,c=(none,out,ia,ib,g)/\JL L a b out ia ib/\ia+1<a.size/\ib<b.size/\x+1<=ia+ib) (Q:=fun c st'=>cz st st'/\∃r rest,c=(some r,rest)/\Q r st') ?step ?fin ?init) ?post
 case init=>exact⟨al0,_,_,_,_,rfl,J0,by omega,by omega,by omega⟩
 case fin=>
  rintro c st' ⟨al,out,ia,ib,g,rfl,J,q1,q2,q3⟩;omega
 case post=>
  rintro c st' ⟨al,r,rest,rfl,hq⟩;exact CY hq
 case step=>
  rintro x c st1 _ hx ⟨al,out,ia,ib,g,rfl,J,q1,q2,q3⟩;dsimp only;refine CQ (FR (E3 (I:=fun y c st'=>st'=st1/\∃out ia ib ac bc,c=(none,out,ia,ib,ac,bc)/\JL L a b out ia ib/\ia+1<a.size/\ib<b.size/\x+1+y<=ia+ib)
   (Q:=fun c st'=>st'=st1/\((∃r rest,c=(some r,rest)/\Q r st')\/∃out ia ib ac bc,c=(none,out,ia,ib,ac,bc)/\JL L a b out ia ib/\ia+1<a.size/\ib<b.size/\x+2<=ia+ib)) ?step1 ?fin1 ?init1) ?post1)
  case init1=>exact⟨rfl,_,_,_,_,_,rfl,J,q1,q2,by omega⟩
  case fin1=>
   rintro c st' ⟨rfl,out,ia,ib,ac,bc,rfl,J,q1,q2,q3⟩;exact⟨rfl,.inr ⟨_,_,_,_,_,rfl,J,q1,q2,by omega⟩⟩
  case step1=>
   rintro y c st' _ hy ⟨rfl,out,ia,ib,ac,bc,rfl,J,q1,q2,q3⟩;dsimp only;refine CQ (bg q2 (CQ (bg (by omega) (CQ (O.lt _ _ _ _ (ub _ q2) (ua _ (by omega)) (al.1.trans kd) ?_)))));cases hw:L (at' b ib) (at' a ia)with
   |true=>
    dsimp only;rw[if_pos rfl];refine CQ<|bg q2 ?_;have J':JL L a b (out.push<|at' b ib) ia (ib+1):=J.takeB sb (k:=1) (by omega) (fun j h2 h3 i h4 h5=>by
     have:j=ib:=by omega
     subst this;by_cases z:i=ia;·rw[z];exact hw
     ·exact O.tr _ _ _ (ub _ q2) (ua _ (by omega)) (ua _ h5) hw (sa ia i (by omega) (by omega) h5)) (by rw[Ff,fv q2 (CN _),dO];rfl)
    by_cases z:ib+1=b.size
    ·rw[if_pos (by simpa using z)];exact CY ⟨rfl,.inl ⟨_,_,rfl,endB _ ia (ib+1) _ al J' (by omega) z⟩⟩
    ·rw[if_neg (by simpa using z)];by_cases w:bc+1≥g;·rw[if_pos w];exact CY ⟨rfl,.inr ⟨_,_,_,_,_,rfl,J',q1,by omega,by omega⟩⟩
     ·rw[if_neg w];exact CY ⟨rfl,_,_,_,_,_,rfl,J',q1,by omega,by omega⟩
   |false=>
    dsimp only;rw[if_neg (by decide)];refine CQ (bg (by omega) ?_);have hw':=O.tot _ _ (ub _ q2) (ua _ (by omega)) (fun e=>ne ia ib (by omega) q2 e.symm) hw;have J':JL L a b (out.push<|at' a ia) (ia+1) ib:=J.takeA sa (k:=1) (by omega) (fun i h2 h3 j h4 h5=>by
     have:i=ia:=by omega
     subst this;by_cases z:j=ib;·rw[z];exact hw'
     ·exact O.tr _ _ _ (ua _ (by omega)) (ub _ q2) (ub _ h5) hw' (sb ib j (by omega) (by omega) h5)) (by rw[Ff,fv (by omega) (CN _),dO];rfl)
    by_cases z:ia+1+1=a.size
    ·rw[if_pos (by simpa using z)];exact CY ⟨rfl,.inl ⟨_,_,rfl,endA _ (ia+1) ib _ al J' (by omega) z⟩⟩
    ·rw[if_neg (by simpa using z)];by_cases w:ac+1≥g;·rw[if_pos w];exact CY ⟨rfl,.inr ⟨_,_,_,_,_,rfl,J',by omega,by omega,by omega⟩⟩
     ·rw[if_neg w];exact CY ⟨rfl,_,_,_,_,_,rfl,J',by omega,by omega,by omega⟩
  case post1=>
   rintro c st' ⟨rfl,⟨r,rest,rfl,hq⟩|⟨out,ia,ib,ac,bc,rfl,J,q1,q2,q3⟩⟩;·exact CY ⟨al,_,_,rfl,hq⟩
   dsimp only;refine CQ<|IJ<|Fq ⟨rfl,?_⟩;refine CQ (FR (E3 (I:=fun y c st'=>cz st st'/\∃out ia ib g ac bc,c=(none,out,ia,ib,g,ac,bc)/\JL L a b out ia ib/\ia+1<a.size/\ib<b.size/\x+2<=ia+ib)
    (Q:=fun c st'=>cz st st'/\((∃r rest,c=(some r,rest)/\Q r st')\/∃out ia ib g ac bc,c=(none,out,ia,ib,g,ac,bc)/\JL L a b out ia ib/\ia+1<a.size/\ib<b.size/\x+2<=ia+ib)) ?step2 ?fin2 ?init2) ?post2)
   case init2=>exact⟨al,_,_,_,_,_,_,rfl,J,q1,q2,q3⟩
   case fin2=>exact fun c st'⟨al,out,ia,ib,g,ac,bc,e,J,q1,q2,q3⟩=>⟨al,.inr ⟨out,ia,ib,g,ac,bc,e,J,q1,q2,q3⟩⟩
   case post2=>
    rintro c st' ⟨al,⟨r,rest,rfl,hq⟩|⟨out,ia,ib,g,ac,bc,rfl,J,q1,q2,q3⟩⟩;·exact CY ⟨al,_,_,rfl,hq⟩
    ·dsimp only;refine CQ (EH (CY ⟨al,_,_,_,_,rfl,J,q1,q2,by omega⟩))
   case step2=>
    rintro y c st' _ hy ⟨al,out,ia,ib,g,ac,bc,rfl,J,q1,q2,q3⟩;dsimp only
    let C:=Option (Array CZ)×Array CZ×Nat×Nat×Nat×Nat×Nat
    let R:ForInStep C->EA->Prop:=fun r st'=>match r with
     | .done c=>cz st st'/\((∃r rest,c=(some r,rest)/\Q r st')\/∃out ia ib g ac bc,c=(none,out,ia,ib,g,ac,bc)/\JL L a b out ia ib/\ia+1<a.size/\ib<b.size/\x+2<=ia+ib)
     | .yield c=>cz st st'/\∃out ia ib g ac bc,c=(none,out,ia,ib,g,ac,bc)/\JL L a b out ia ib/\ia+1<a.size/\ib<b.size/\x+2<=ia+ib
    have pC:∀(out:Array CZ)ia ib g k k1 st',cz st st'->JL L a b out ia ib->ia+1<a.size->ib<b.size->x+2<=ia+ib->L (at' a ia) (at' b ib)=true->wpS M A E s (do
      let x <-elem' a ia
      if(ia+1+1==a.size)=true then pure (Dm (some<|out.push x++b.extract ib b.size++a.extract (ia+1) a.size,out.push x,ia+1,ib,g,k,k1))
      else if(decide (k<7)&&decide (k1<7))=true then pure (Dm (none,out.push x,ia+1,ib,g,k,k1))
      else pure (Dv (none,out.push x,ia+1,ib,g,k,k1))) R st':=by
     intro out ia ib g k k1 st' al J q1 q2 q3 hab;refine CQ (bg (by omega) ?_);have J':JL L a b (out.push<|at' a ia) (ia+1) ib:=J.takeA sa (k:=1) (by omega) (fun i h2 h3 j h4 h5=>by
      have:i=ia:=by omega
      subst this;by_cases z:j=ib;·rw[z];exact hab
      ·exact O.tr _ _ _ (ua _ (by omega)) (ub _ q2) (ub _ h5) hab (sb ib j (by omega) (by omega) h5)) (by rw[Ff,fv (by omega) (CN _),dO];rfl)
     by_cases z:ia+1+1=a.size
     ·rw[if_pos (by simpa using z)];exact CY ⟨al,.inl ⟨_,_,rfl,endA _ (ia+1) ib _ al J' (by omega) z⟩⟩
     ·rw[if_neg (by simpa using z)];by_cases w:(decide (k<7)&&decide (k1<7))=true;·rw[if_pos w];exact CY ⟨al,.inr ⟨_,_,_,_,_,_,rfl,J',by omega,by omega,by omega⟩⟩
      ·rw[if_neg w];exact CY ⟨al,_,_,_,_,_,_,rfl,J',by omega,by omega,by omega⟩
    have pB:∀(out:Array CZ)ia ib g k bc st',cz st st'->JL L a b out ia ib->ia+1<a.size->ib<b.size->x+2<=ia+ib->L (at' b ib) (at' a ia)=true->wpS M A E s (do
      let x <-elem' b ib
      if(ib+1==b.size)=true then pure (Dm (some<|out.push x++a.extract ia a.size++b.extract (ib+1) b.size,out.push x,ia,ib+1,g,k,bc))
      else
       let y <-elem' a ia
       let some k1 <-dN true y b (ib+1) (b.size-(ib+1)) 0|pure (Dm (some<|out.push x++a.extract ia a.size++b.extract (ib+1) b.size,out.push x,ia,ib+1,g,k,bc))
       if k1>0 then
        if(ib+1+k1==b.size)=true then pure (Dm (some<|out.push x++b.extract (ib+1) (ib+1+k1)++a.extract ia a.size++b.extract (ib+1+k1) b.size,out.push x++b.extract (ib+1) (ib+1+k1),ia,ib+1+k1,g,k,k1))
        else
         let z <-elem' a ia
         if(ia+1+1==a.size)=true then pure (Dm (some<|(out.push x++b.extract (ib+1) (ib+1+k1)).push z++b.extract (ib+1+k1) b.size++a.extract (ia+1) a.size,(out.push x++b.extract (ib+1) (ib+1+k1)).push z,ia+1,ib+1+k1,g,k,k1))
         else if(decide (k<7)&&decide (k1<7))=true then pure (Dm (none,(out.push x++b.extract (ib+1) (ib+1+k1)).push z,ia+1,ib+1+k1,g,k,k1))
         else pure (Dv (none,(out.push x++b.extract (ib+1) (ib+1+k1)).push z,ia+1,ib+1+k1,g,k,k1))
       else
        let z <-elem' a ia
        if(ia+1+1==a.size)=true then pure (Dm (some<|(out.push x).push z++b.extract (ib+1) b.size++a.extract (ia+1) a.size,(out.push x).push z,ia+1,ib+1,g,k,k1))
        else if(decide (k<7)&&decide (k1<7))=true then pure (Dm (none,(out.push x).push z,ia+1,ib+1,g,k,k1))
        else pure (Dv (none,(out.push x).push z,ia+1,ib+1,g,k,k1))) R st':=by
     intro out ia ib g k bc st' al J q1 q2 q3 hba;refine CQ<|bg q2 ?_;have J':JL L a b (out.push<|at' b ib) ia (ib+1):=J.takeB sb (k:=1) (by omega) (fun j h2 h3 i h4 h5=>by
      have:j=ib:=by omega
      subst this;by_cases z:i=ia;·rw[z];exact hba
      ·exact O.tr _ _ _ (ub _ q2) (ua _ (by omega)) (ua _ h5) hba (sa ia i (by omega) (by omega) h5)) (by rw[Ff,fv q2 (CN _),dO];rfl)
     by_cases z:ib+1=b.size
     ·rw[if_pos (by simpa using z)];exact CY ⟨al,.inl ⟨_,_,rfl,endB _ ia (ib+1) _ al J' (by omega) z⟩⟩
     rw[if_neg (by simpa using z)];refine CQ (bg (by omega) (CQ (df O (ua _ (by omega)) (fun i hi=>ub _ (by omega)) (by omega) (by omega) (al.1.trans kd) (fun i j hij hj hB=>?_) fun k1 hk1 hB=>?_)))
     ·show L (at' b<|ib+1+i) (at' a ia)=true;exact O.tr _ _ _ (ub _ (by omega)) (ub _ (by omega)) (ua _ (by omega)) (sb (ib+1+i) (ib+1+j) (by omega) (by omega) (by omega)) hB
     have hB':∀i,i<b.size-(ib+1)->(L (at' b<|ib+1+i) (at' a ia)=true↔i<k1):=hB;dsimp only;have J2:JL L a b (out.push (at' b ib)++b.extract (ib+1) (ib+1+k1)) ia (ib+1+k1):=J'.takeB sb (by omega) (fun j h2 h3 i h4 h5=>by
      have e:=(hB' (j-(ib+1)) (by omega)).mpr (by omega);rw[show ib+1+(j-(ib+1))=j by omega]at e;by_cases w:i=ia;·rw[w];exact e
      ·exact O.tr _ _ _ (ub _ (by omega)) (ua _ (by omega)) (ua _ h5) e (sa ia i (by omega) (by omega) h5)) (by rw[DO];rfl)
     have ab:ib+1+k1<b.size->L (at' a ia) (at' b<|ib+1+k1)=true:=fun hlt=>by
      refine O.tot _ _ (ub _ hlt) (ua _ (by omega)) (fun e=>ne ia _ (by omega) hlt e.symm) ?_;cases e:L (at' b<|ib+1+k1) (at' a ia)with
      |false=>rfl
      |true=>exact absurd ((hB' k1 (by omega)).mp e) (by omega)
     by_cases w:k1>0
     ·rw[if_pos w];by_cases v:ib+1+k1=b.size
      ·rw[if_pos (by simpa using v)];exact CY ⟨al,.inl ⟨_,_,rfl,endB _ ia (ib+1+k1) _ al J2 (by omega) v⟩⟩
      ·rw[if_neg (by simpa using v)];exact pC _ _ _ _ _ _ _ al J2 q1 (by omega) (by omega) (ab (by omega))
     ·rw[if_neg w];have:k1=0:=by omega
      subst this;exact pC _ _ _ _ _ _ _ al J' q1 (by omega) (by omega) (ab (by omega))
    by_cases w:g>1
    ·rw[if_pos w];refine CQ (EH (CQ (bg q2 (CQ (df O (ub _ q2) (fun i hi=>ua _ (by omega)) (by omega) (by omega) (al.1.trans kd) (fun i j hij hj hB=>?_) fun k hk hB=>?_)))))
     ·have hB':(!L (at' b ib) (at' a<|ia+j))=true:=hB;show(!L (at' b ib) (at' a<|ia+i))=true;cases e:L (at' b ib) (at' a<|ia+i)with
      |false=>rfl
      |true=>
       rw[O.tr _ _ _ (ub _ q2) (ua _ (by omega)) (ua _ (by omega)) e (sa (ia+i) (ia+j) (by omega) (by omega) (by omega))]at hB';exact hB'
     have hB':∀i,i<a.size-ia->((!L (at' b ib) (at' a<|ia+i))=true↔i<k):=hB;have hk1:ia+k+1<=a.size:=by
      by_cases v:a.size-1-ia<k
      ·have e:=(hB' (a.size- 1- ia) (by omega)).mpr v;rw[show ia+(a.size-1-ia)=a.size-1 by omega,h1 ib q2]at e;cases e
      ·omega
     dsimp only;have J1:JL L a b (out++a.extract ia (ia+k)) (ia+k) ib:=J.takeA sa (by omega) (fun i h2 h3 j h4 h5=>by
      have e:=(hB' (i-ia) (by omega)).mpr (by omega);rw[show ia+(i-ia)=i by omega]at e;have e2:=O.tot _ _ (ub _ q2) (ua _ (by omega)) (fun e=>ne i ib (by omega) q2 e.symm) (by simpa using e);by_cases v:j=ib;·rw[v];exact e2
      ·exact O.tr _ _ _ (ua _ (by omega)) (ub _ q2) (ub _ h5) e2 (sb ib j (by omega) (by omega) h5)) (by rw[DO];rfl)
     have hba:L (at' b ib) (at' a<|ia+k)=true:=by
      cases e:L (at' b ib) (at' a<|ia+k)with
      |true=>rfl
      |false=>exact absurd ((hB' k (by omega)).mp (by rw[e];rfl)) (by omega)
     by_cases v:k>0
     ·rw[if_pos v];by_cases u:ia+k+1=a.size
      ·rw[if_pos (by simpa using u)];exact CY ⟨al,.inl ⟨_,_,rfl,endA _ (ia+k) ib _ al J1 (by omega) u⟩⟩
      ·rw[if_neg (by simpa using u),if_neg (by simp;omega)];exact pB _ _ _ _ _ _ _ al J1 (by omega) q2 (by omega) hba
     ·rw[if_neg v];have:k=0:=by omega
      subst this;exact pB _ _ _ _ _ _ _ al J q1 q2 (by omega) hba
    ·rw[if_neg w];refine CQ (EH (CQ (bg q2 (CQ (df O (ub _ q2) (fun i hi=>ua _ (by omega)) (by omega) (by omega) (al.1.trans kd) (fun i j hij hj hB=>?_) fun k hk hB=>?_)))))
     ·have hB':(!L (at' b ib) (at' a<|ia+j))=true:=hB;show(!L (at' b ib) (at' a<|ia+i))=true;cases e:L (at' b ib) (at' a<|ia+i)with
      |false=>rfl
      |true=>
       rw[O.tr _ _ _ (ub _ q2) (ua _ (by omega)) (ua _ (by omega)) e (sa (ia+i) (ia+j) (by omega) (by omega) (by omega))]at hB';exact hB'
     have hB':∀i,i<a.size-ia->((!L (at' b ib) (at' a<|ia+i))=true↔i<k):=hB;have hk1:ia+k+1<=a.size:=by
      by_cases v:a.size-1-ia<k
      ·have e:=(hB' (a.size- 1- ia) (by omega)).mpr v;rw[show ia+(a.size-1-ia)=a.size-1 by omega,h1 ib q2]at e;cases e
      ·omega
     dsimp only;have J1:JL L a b (out++a.extract ia (ia+k)) (ia+k) ib:=J.takeA sa (by omega) (fun i h2 h3 j h4 h5=>by
      have e:=(hB' (i-ia) (by omega)).mpr (by omega);rw[show ia+(i-ia)=i by omega]at e;have e2:=O.tot _ _ (ub _ q2) (ua _ (by omega)) (fun e=>ne i ib (by omega) q2 e.symm) (by simpa using e);by_cases v:j=ib;·rw[v];exact e2
      ·exact O.tr _ _ _ (ua _ (by omega)) (ub _ q2) (ub _ h5) e2 (sb ib j (by omega) (by omega) h5)) (by rw[DO];rfl)
     have hba:L (at' b ib) (at' a<|ia+k)=true:=by
      cases e:L (at' b ib) (at' a<|ia+k)with
      |true=>rfl
      |false=>exact absurd ((hB' k (by omega)).mp (by rw[e];rfl)) (by omega)
     by_cases v:k>0
     ·rw[if_pos v];by_cases u:ia+k+1=a.size
      ·rw[if_pos (by simpa using u)];exact CY ⟨al,.inl ⟨_,_,rfl,endA _ (ia+k) ib _ al J1 (by omega) u⟩⟩
      ·rw[if_neg (by simpa using u),if_neg (by simp;omega)];exact pB _ _ _ _ _ _ _ al J1 (by omega) q2 (by omega) hba
     ·rw[if_neg v];have:k=0:=by omega
      subst this;exact pB _ _ _ _ _ _ _ al J q1 q2 (by omega) hba
end
def kA:Array CZ->Array CZ->StateT EA Sem (Array CZ):=sortPriv%PySem.Builtin.mergeHi
theorem nH(a b:Array CZ):kA a b=(do
 rule "list.sort.merge-hi"
 let total:=a.size+b.size
 let done (out:Array CZ) (na nb:Nat):=a.extract 0 na++b.extract 0 nb++out.reverse
 let firstOfB (out:Array CZ) (na nb:Nat):=b.extract 0 nb++a.extract 0 na++out.reverse
 let mut na:=a.size-1
 let mut nb:=b.size
 let mut out:Array CZ:= #[<-elem' a na]
 if na==0 then return done out na nb
 if nb==1 then return firstOfB out na nb
 let mut minGallop:=gallopOf (<-get)
 for _ in [0:total]do
  let mut acount:=0
  let mut bcount:=0
  for _ in [0:total]do
   let some aWins <-lt' (<-elem' b (nb-1)) (<-elem' a (na-1))|return done out na nb
   if aWins then
    na:=na-1;out:=out.push<|<-elem' a na;acount:=acount+1;bcount:=0
    if na==0 then return done out na nb
    if acount≥minGallop then break
   else
    nb:=nb-1;out:=out.push<|<-elem' b nb;bcount:=bcount+1;acount:=0
    if nb==1 then return firstOfB out na nb
    if bcount≥minGallop then break
  rule "list.sort.gallop"
  minGallop:=minGallop+1
  for _ in [0:total]do
   if minGallop>1 then minGallop:=minGallop-1
   ij minGallop
   let some at_ <-dN false (<-elem' b (nb-1)) a 0 na (na-1)|return done out na nb
   let k:=na-at_
   acount:=k
   if k>0 then
    out:=out++(a.extract at_ na).reverse;na:=at_
    if na==0 then return done out na nb
   nb:=nb-1;out:=out.push (<-elem' b nb)
   if nb==1 then return firstOfB out na nb
   let some at_ <-dN true (<-elem' a (na-1)) b 0 nb (nb-1)|return done out na nb
   let k:=nb-at_
   bcount:=k
   if k>0 then
    out:=out++(b.extract at_ nb).reverse;nb:=at_
    if nb==1 then return firstOfB out na nb
    if nb==0 then return done out na nb
   na:=na-1;out:=out.push (<-elem' a na)
   if na==0 then return done out na nb
   if acount<7&&bcount<7 then break
  minGallop:=minGallop+1
  ij minGallop
 unsupported "internal:list.sort.merge-bound"):=rfl
structure JH(L:CZ->CZ->Bool)(a b out:Array CZ)(na nb:Nat):Prop where
 pm:out.toList.reverse.Perm (ext' a na a.size++ext' b nb b.size)
 so:out.toList.reverse.Pairwise (fun x y=>L x y=true)
 hi:∀x∈out.toList,(∀i,i<na->L (at' a i) x=true)/\∀j,j<nb->L (at' b j) x=true
section
variable{L:CZ->CZ->Bool}{a b out:Array CZ}{na nb:Nat}
theorem JH.takeA(J:JH L a b out na nb)(sa:Sr L a 0 a.size)(hn:na<=a.size){m:Nat}(hm:m<=na)(h:∀i,m<=i->i<na->∀j,j<nb->L (at' b j) (at' a i)=true){out':Array CZ}(ho:out'.toList.reverse=ext' a m na++out.toList.reverse):JH L a b out' m nb:=by
 have mem:∀x,x∈out'.toList↔x∈ext' a m na\/x∈out.toList:=fun x=>by rw[<-F4,ho,DF,F4]
 refine⟨?_,?_,fun x hx=>?_⟩
 ·rw[ho,dz (xs:=a) hm hn,Dg];exact Ei _ J.pm
 ·rw[ho,Es];refine⟨gu sa (Dl _) hn<|CN _,J.so,fun x hx y hy=>?_⟩;obtain⟨i,h1,h2,rfl⟩:=(bT hn).mp hx;exact(J.hi y<|F4.mp hy).1 i h2
 ·rcases (mem x).mp hx with hx | hx
  ·obtain⟨i,h1,h2,rfl⟩:=(bT hn).mp hx;exact⟨fun i' h3=>sa i' i (Dl _) (by omega) (by omega),h i h1 h2⟩
  ·exact⟨fun i h1=>(J.hi x hx).1 i (by omega),(J.hi x hx).2⟩
theorem JH.takeB(J:JH L a b out na nb)(sb:Sr L b 0 b.size)(hn:nb<=b.size){m:Nat}(hm:m<=nb)(h:∀j,m<=j->j<nb->∀i,i<na->L (at' a i) (at' b j)=true){out':Array CZ}(ho:out'.toList.reverse=ext' b m nb++out.toList.reverse):JH L a b out' na m:=by
 have mem:∀x,x∈out'.toList↔x∈ext' b m nb\/x∈out.toList:=fun x=>by rw[<-F4,ho,DF,F4]
 refine⟨?_,?_,fun x hx=>?_⟩
 ·rw[ho,dz (xs:=b) hm hn];refine(Ei _ J.pm).trans ?_;rw[<-Dg,<-Dg];exact Eb _ Fx
 ·rw[ho,Es];refine⟨gu sb (Dl _) hn<|CN _,J.so,fun x hx y hy=>?_⟩;obtain⟨i,h1,h2,rfl⟩:=(bT hn).mp hx;exact(J.hi y<|F4.mp hy).2 i h2
 ·rcases (mem x).mp hx with hx | hx
  ·obtain⟨i,h1,h2,rfl⟩:=(bT hn).mp hx;exact⟨h i h1 h2,fun i' h3=>sb i' i (Dl _) (by omega) (by omega)⟩
  ·exact⟨(J.hi x hx).1,fun i h1=>(J.hi x hx).2 i (by omega)⟩
theorem JH.fin(J:JH L a b out na nb)(sa:Sr L a 0 a.size)(sb:Sr L b 0 b.size)(ha:na<=a.size)(hb:nb<=b.size)(h:∀j,j<nb->∀i,i<na->L (at' b j) (at' a i)=true){r:List CZ}(hr:r=ext' b 0 nb++ext' a 0 na++out.toList.reverse):
  r.Perm (a.toList++b.toList)/\r.Pairwise (fun x y=>L x y=true):=by
 subst hr;constructor
 ·have e1:a.toList=ext' a 0 na++ext' a na a.size:=by rw[<-dz (Dl _) ha,ig]
  have e2:b.toList=ext' b 0 nb++ext' b nb b.size:=by rw[<-dz (Dl _) hb,ig]
  rw[e1,e2];refine(Ei _ J.pm).trans ?_;generalize ext' a 0 na=p;generalize ext' a na a.size=q;generalize ext' b 0 nb=u;generalize ext' b nb b.size=v;refine(Eb (q++v)<|Fx (l₁:=u) (l₂:=p)).trans ?_;rw[Dg,Dg];refine Ei _ ?_;rw[<-Dg,<-Dg];exact Eb _ Fx
 ·rw[Dg,Es,Es];refine⟨gu sb (Dl _) hb<|CN _,⟨gu sa (Dl _) ha<|CN _,J.so,fun x hx y hy=>?_⟩,fun x hx y hy=>?_⟩
  ·obtain⟨i,h1,h2,rfl⟩:=(bT ha).mp hx;exact(J.hi y<|F4.mp hy).1 i h2
  ·obtain⟨j,h1,h2,rfl⟩:=(bT hb).mp hx;rcases DF.mp hy with hy|hy
   ·obtain⟨i,h3,h4,rfl⟩:=(bT ha).mp hy;exact h j h2 i h4
   ·exact(J.hi y<|F4.mp hy).2 j h2
end
section
variable{M:J4}{A:DL}{E:CI->CM->Prop}{s:CM}{κ:Hq}{U:CZ->Prop}{L:CZ->CZ->Bool}{st:EA}
theorem nI(out:Array CZ)(x:CZ):(out.push x).toList.reverse=x::out.toList.reverse:=by rw[Ff,JD];rfl
theorem m6(out xs:Array CZ):(out++xs.reverse).toList.reverse=xs.toList++out.toList.reverse:=by rw[DO,JD,Hr,List.reverse_reverse]
theorem m7{xs:Array CZ}{i:Nat}(h:0<i)(hi:i<=xs.size):ext' xs (i-1) i=[at' xs (i-1)]:=by
 have:=fv (xs:=xs) (a:=i-1) (b:=i-1) (by omega)<|CN _;rw[show i-1+1=i by omega,dO]at this;exact this
theorem oU(O:LtOk M A E s κ U L){a b:Array CZ}{Q:Array CZ->EA->Prop}(kd:kindOf st=κ)(ua:∀i,i<a.size->U (at' a i))(ub:∀i,i<b.size->U (at' b i))(za:0<a.size)(zb:0<b.size)(sa:Sr L a 0 a.size)(sb:Sr L b 0 b.size)
  (ne:∀i j,i<a.size->j<b.size->at' a i≠at' b j) (h0:L (at' b 0) (at' a 0)=true) (h1:∀j,j<b.size->L (at' b j) (at' a<|a.size-1)=true)
  (h:∀r st',cz st st'->r.toList.Perm (a.toList++b.toList)->r.toList.Pairwise (fun x y=>L x y=true)->Q r st'):wpS M A E s (kA a b) Q st:=by
 have b0:∀i,i<a.size->L (at' b 0) (at' a i)=true:=fun i hi=>by
  by_cases z:i=0;·rw[z];exact h0
  ·exact O.tr _ _ _ (ub 0 zb) (ua 0 za) (ua i hi) h0 (sa 0 i (CN _) (by omega) hi)
 rw[nH];refine CQ<|IJ<|Fq ⟨rfl,?_⟩;dsimp only;refine CQ (bg (by omega) ?_);have J0:JH L a b #[at' a (a.size-1)] (a.size-1) b.size:=by
  refine⟨?_,GG _ _,fun x hx=>?_⟩;·rw[m7 za<|CN _,dO];exact .refl _
  ·have:x=at' a (a.size- 1):=by simpa using hx
   subst this;exact⟨fun i h2=>sa i _ (Dl _) h2 (by omega),fun j h2=>h1 j h2⟩
 have endA:∀(out:Array CZ)na nb st',cz st st'->JH L a b out na nb->nb<=b.size->na=0->Q (a.extract 0 na++b.extract 0 nb++out.reverse) st':=fun out na nb st' al J h2 h3=>by
  subst h3;have:=J.fin sa sb (Dl _) h2 (fun j h3 i h4=>by omega) (r:=(a.extract 0 0++b.extract 0 nb++out.reverse).toList) (by
   rw[DO,DO,Hr];show ext' a 0 0++ext' b 0 nb++out.toList.reverse=_;rw[dO,Gz,Ex])
  exact h _ st' al this.1 this.2
 have endB:∀(out:Array CZ)na nb st',cz st st'->JH L a b out na nb->na<=a.size->nb=1->Q (b.extract 0 nb++a.extract 0 na++out.reverse) st':=fun out na nb st' al J h2 h3=>by
  have:=J.fin sa sb h2 (by omega) (fun j h4 i h5=>by
   have:j=0:=by omega
   rw[this];exact b0 i (by omega)) (r:=(b.extract 0 nb++a.extract 0 na++out.reverse).toList) (by rw[DO,DO,Hr];rfl)
  exact h _ st' al this.1 this.2
 have al0:cz st st:=⟨rfl,rfl,rfl,rfl⟩
 by_cases z1:a.size-1=0
 ·rw[if_pos (by simpa using z1)];exact CY<|endA _ _ _ st al0 J0 (CN _) z1
 rw[if_neg (by simpa using z1)];by_cases z2:b.size=1
 ·rw[if_pos (by simpa using z2)];exact CY (endB _ _ _ st al0 J0 (by omega) z2)
 rw[if_neg (by simpa using z2)];refine CQ<|GS ?_;refine CQ<|FR (E3 (I:=fun x c st'=>cz st st'/\∃na nb out g,c=(none,na,nb,out,g)/\JH L a b out na nb/\0<na/\1<nb/\na<=a.size/\nb<=b.size/\na+nb+x+1<=a.size+b.size) (Q:=fun c st'=>cz st st'/\∃r rest,c=(some r,rest)/\Q r st') ?step ?fin ?init) ?post
 case init=>exact⟨al0,_,_,_,_,rfl,J0,by omega,by omega,by omega,by omega,by omega⟩
 case fin=>
  rintro c st' ⟨al,na,nb,out,g,rfl,J,q1,q2,q3,q4,q5⟩;omega
 case post=>
  rintro c st' ⟨al,r,rest,rfl,hq⟩;exact CY hq
 case step=>
  rintro x c st1 _ hx ⟨al,na,nb,out,g,rfl,J,q1,q2,q3,q4,q5⟩;dsimp only;have ta:∀(out:Array CZ)na nb,JH L a b out na nb->0<na->na<=a.size->0<nb->nb<=b.size->L (at' b<|nb-1) (at' a<|na-1)=true->JH L a b (out.push<|at' a<|na-1) (na-1) nb:=fun out na nb J q1 q3 q2 q4 hw=>
   J.takeA sa q3 (m:=na-1) (by omega) (fun i h2 h3 j h4=>by
    have:i=na-1:=by omega
    subst this;by_cases z:j=nb-1;·rw[z];exact hw
    ·exact O.tr _ _ _ (ub _ (by omega)) (ub _ (by omega)) (ua _ (by omega)) (sb j (nb-1) (Dl _) (by omega) (by omega)) hw) (by rw[nI,m7 q1 q3];rfl)
  have tb:∀(out:Array CZ)na nb,JH L a b out na nb->0<nb->nb<=b.size->na<=a.size->(∀i,i<na->L (at' a i) (at' b<|nb-1)=true)->JH L a b (out.push<|at' b<|nb-1) na (nb-1):=fun out na nb J q1 q3 q4 hw=>
   J.takeB sb q3 (m:=nb-1) (by omega) (fun j h2 h3 i h4=>by
    have:j=nb-1:=by omega
    subst this;exact hw i h4) (by rw[nI,m7 q1 q3];rfl)
  refine CQ (FR (E3 (I:=fun y c st'=>st'=st1/\∃na nb out ac bc,c=(none,na,nb,out,ac,bc)/\JH L a b out na nb/\0<na/\1<nb/\na<=a.size/\nb<=b.size/\na+nb+x+y+1<=a.size+b.size)
   (Q:=fun c st'=>st'=st1/\((∃r rest,c=(some r,rest)/\Q r st')\/∃na nb out ac bc,c=(none,na,nb,out,ac,bc)/\JH L a b out na nb/\0<na/\1<nb/\na<=a.size/\nb<=b.size/\na+nb+x+2<=a.size+b.size)) ?step1 ?fin1 ?init1) ?post1)
  case init1=>exact⟨rfl,_,_,_,_,_,rfl,J,q1,q2,q3,q4,by omega⟩
  case fin1=>
   rintro c st' ⟨rfl,na,nb,out,ac,bc,rfl,J,q1,q2,q3,q4,q5⟩;exact⟨rfl,.inr ⟨_,_,_,_,_,rfl,J,q1,q2,q3,q4,by omega⟩⟩
  case step1=>
   rintro y c st' _ hy ⟨rfl,na,nb,out,ac,bc,rfl,J,q1,q2,q3,q4,q5⟩;dsimp only;refine CQ (bg (by omega) (CQ (bg (by omega) (CQ (O.lt _ _ _ _ (ub _ (by omega)) (ua _ (by omega)) (al.1.trans kd) ?_)))));cases hw:L (at' b<|nb-1) (at' a<|na-1)with
   |true=>
    dsimp only;rw[if_pos rfl];refine CQ (bg (by omega) ?_);have J':=ta out na nb J q1 q3 (by omega) q4 hw;by_cases z:na-1=0
    ·rw[if_pos (by simpa using z)];exact CY ⟨rfl,.inl ⟨_,_,rfl,endA _ _ _ _ al J' q4 z⟩⟩
    ·rw[if_neg (by simpa using z)];by_cases w:ac+1≥g;·rw[if_pos w];exact CY ⟨rfl,.inr ⟨_,_,_,_,_,rfl,J',by omega,q2,by omega,q4,by omega⟩⟩
     ·rw[if_neg w];exact CY ⟨rfl,_,_,_,_,_,rfl,J',by omega,q2,by omega,q4,by omega⟩
   |false=>
    dsimp only;rw[if_neg (by decide)];refine CQ (bg (by omega) ?_);have hw':=O.tot _ _ (ub _ (by omega)) (ua _ (by omega)) (fun e=>ne (na-1) (nb-1) (by omega) (by omega) e.symm) hw;have J':=tb out na nb J (by omega) q4 q3 (fun i hi=>by
     by_cases z:i=na-1;·rw[z];exact hw'
     ·exact O.tr _ _ _ (ua _ (by omega)) (ua _ (by omega)) (ub _ (by omega)) (sa i (na-1) (Dl _) (by omega) (by omega)) hw')
    by_cases z:nb-1=1
    ·rw[if_pos (by simpa using z)];exact CY ⟨rfl,.inl ⟨_,_,rfl,endB _ _ _ _ al J' q3 z⟩⟩
    ·rw[if_neg (by simpa using z)];by_cases w:bc+1≥g;·rw[if_pos w];exact CY ⟨rfl,.inr ⟨_,_,_,_,_,rfl,J',q1,by omega,q3,by omega,by omega⟩⟩
     ·rw[if_neg w];exact CY ⟨rfl,_,_,_,_,_,rfl,J',q1,by omega,q3,by omega,by omega⟩
  case post1=>
   rintro c st' ⟨rfl,⟨r,rest,rfl,hq⟩|⟨na,nb,out,ac,bc,rfl,J,q1,q2,q3,q4,q5⟩⟩;·exact CY ⟨al,_,_,rfl,hq⟩
   dsimp only;refine CQ<|IJ<|Fq ⟨rfl,?_⟩;refine CQ (FR (E3 (I:=fun y c st'=>cz st st'/\∃na nb out g ac bc,c=(none,na,nb,out,g,ac,bc)/\JH L a b out na nb/\0<na/\1<nb/\na<=a.size/\nb<=b.size/\na+nb+x+2<=a.size+b.size)
    (Q:=fun c st'=>cz st st'/\((∃r rest,c=(some r,rest)/\Q r st')\/∃na nb out g ac bc,c=(none,na,nb,out,g,ac,bc)/\JH L a b out na nb/\0<na/\1<nb/\na<=a.size/\nb<=b.size/\na+nb+x+2<=a.size+b.size)) ?step2 ?fin2 ?init2) ?post2)
   case init2=>exact⟨al,_,_,_,_,_,_,rfl,J,q1,q2,q3,q4,q5⟩
   case fin2=>exact fun c st'⟨al,na,nb,out,g,ac,bc,e,J,q⟩=>⟨al,.inr ⟨na,nb,out,g,ac,bc,e,J,q⟩⟩
   case post2=>
    rintro c st' ⟨al,⟨r,rest,rfl,hq⟩|⟨na,nb,out,g,ac,bc,rfl,J,q1,q2,q3,q4,q5⟩⟩;·exact CY ⟨al,_,_,rfl,hq⟩
    ·dsimp only;refine CQ (EH (CY ⟨al,_,_,_,_,rfl,J,q1,q2,q3,q4,by omega⟩))
   case step2=>
    rintro y c st' _ hy ⟨al,na,nb,out,g,ac,bc,rfl,J,q1,q2,q3,q4,q5⟩;dsimp only
    let C:=Option (Array CZ)×Nat×Nat×Array CZ×Nat×Nat×Nat
    let R:ForInStep C->EA->Prop:=fun r st'=>match r with
     | .done c=>cz st st'/\((∃r rest,c=(some r,rest)/\Q r st')\/∃na nb out g ac bc,c=(none,na,nb,out,g,ac,bc)/\JH L a b out na nb/\0<na/\1<nb/\na<=a.size/\nb<=b.size/\na+nb+x+2<=a.size+b.size)
     | .yield c=>cz st st'/\∃na nb out g ac bc,c=(none,na,nb,out,g,ac,bc)/\JH L a b out na nb/\0<na/\1<nb/\na<=a.size/\nb<=b.size/\na+nb+x+2<=a.size+b.size
    have pC:∀(out:Array CZ)na nb g k k1 st',cz st st'->JH L a b out na nb->0<na->1<nb->na<=a.size->nb<=b.size->na+nb+x+2<=a.size+b.size->L (at' b<|nb-1) (at' a<|na-1)=true->wpS M A E s (do
      let x <-elem' a (na-1)
      if(na-1==0)=true then pure (Dm (some<|a.extract 0 (na-1)++b.extract 0 nb++(out.push x).reverse,na-1,nb,out.push x,g,k,k1))
      else if(decide (k<7)&&decide (k1<7))=true then pure (Dm (none,na-1,nb,out.push x,g,k,k1))
      else pure (Dv (none,na-1,nb,out.push x,g,k,k1))) R st':=by
     intro out na nb g k k1 st' al J q1 q2 q3 q4 q5 hba;refine CQ (bg (by omega) ?_);have J':=ta out na nb J q1 q3 (by omega) q4 hba;by_cases z:na-1=0
     ·rw[if_pos (by simpa using z)];exact CY ⟨al,.inl ⟨_,_,rfl,endA _ _ _ _ al J' q4 z⟩⟩
     ·rw[if_neg (by simpa using z)];by_cases w:(decide (k<7)&&decide (k1<7))=true;·rw[if_pos w];exact CY ⟨al,.inr ⟨_,_,_,_,_,_,rfl,J',by omega,q2,by omega,q4,by omega⟩⟩
      ·rw[if_neg w];exact CY ⟨al,_,_,_,_,_,_,rfl,J',by omega,q2,by omega,q4,by omega⟩
    have pB:∀(out:Array CZ)na nb g k bc st',cz st st'->JH L a b out na nb->0<na->1<nb->na<=a.size->nb<=b.size->na+nb+x+2<=a.size+b.size->(∀i,i<na->L (at' a i) (at' b<|nb-1)=true)->wpS M A E s (do
      let x <-elem' b (nb-1)
      if(nb-1==1)=true then pure (Dm (some<|b.extract 0 (nb-1)++a.extract 0 na++(out.push x).reverse,na,nb-1,out.push x,g,k,bc))
      else
       let y <-elem' a (na-1)
       let some m <-dN true y b 0 (nb-1) (nb-1-1)|pure (Dm (some<|a.extract 0 na++b.extract 0 (nb-1)++(out.push x).reverse,na,nb-1,out.push x,g,k,bc))
       if nb-1-m>0 then
        if(m==1)=true then pure (Dm (some<|b.extract 0 m++a.extract 0 na++(out.push x++(b.extract m<|nb-1).reverse).reverse,na,m,out.push x++(b.extract m<|nb-1).reverse,g,k,nb-1-m))
        else if(m==0)=true then pure (Dm (some<|a.extract 0 na++b.extract 0 m++(out.push x++(b.extract m<|nb-1).reverse).reverse,na,m,out.push x++(b.extract m<|nb-1).reverse,g,k,nb-1-m))
        else
         let z <-elem' a (na-1)
         if(na-1==0)=true then pure (Dm (some<|a.extract 0 (na-1)++b.extract 0 m++((out.push x++(b.extract m<|nb-1).reverse).push z).reverse,na-1,m,(out.push x++(b.extract m<|nb-1).reverse).push z,g,k,nb-1-m))
         else if(decide (k<7)&&decide (nb-1-m<7))=true then pure (Dm (none,na-1,m,(out.push x++(b.extract m<|nb-1).reverse).push z,g,k,nb-1-m))
         else pure (Dv (none,na-1,m,(out.push x++(b.extract m<|nb-1).reverse).push z,g,k,nb-1-m))
       else
        let z <-elem' a (na-1)
        if(na-1==0)=true then pure (Dm (some<|a.extract 0 (na-1)++b.extract 0 (nb-1)++((out.push x).push z).reverse,na-1,nb-1,(out.push x).push z,g,k,nb-1-m))
        else if(decide (k<7)&&decide (nb-1-m<7))=true then pure (Dm (none,na-1,nb-1,(out.push x).push z,g,k,nb-1-m))
        else pure (Dv (none,na-1,nb-1,(out.push x).push z,g,k,nb-1-m))) R st':=by
     intro out na nb g k bc st' al J q1 q2 q3 q4 q5 hab;refine CQ (bg (by omega) ?_);have J':=tb out na nb J (by omega) q4 q3 hab;by_cases z:nb-1=1
     ·rw[if_pos (by simpa using z)];exact CY ⟨al,.inl ⟨_,_,rfl,endB _ _ _ _ al J' q3 z⟩⟩
     rw[if_neg (by simpa using z)];refine CQ (bg (by omega) (CQ (df O (ua _ (by omega)) (fun i hi=>ub _ (by omega)) (by omega) (by omega) (al.1.trans kd) (fun i j hij hj hB=>?_) fun m hm hB=>?_)))
     ·have hB':L (at' b<|0+j) (at' a<|na- 1)=true:=hB;show L (at' b<|0+i) (at' a<|na-1)=true;rw[Fj]at hB' ⊢;exact O.tr _ _ _ (ub _ (by omega)) (ub _ (by omega)) (ua _ (by omega)) (sb i j (Dl _) hij (by omega)) hB'
     have hB':∀i,i<nb-1->(L (at' b i) (at' a<|na-1)=true↔i<m):=fun i hi=>by
      have e:L (at' b<|0+i) (at' a<|na-1)=true↔i<m:=hB i hi
      rwa [Fj]at e
     have m1:1<=m:=(hB' 0 (by omega)).mp (b0 _ (by omega));dsimp only;have J2:JH L a b (out.push (at' b<|nb-1)++(b.extract m<|nb-1).reverse) na m:=J'.takeB sb (by omega) hm (fun j h2 h3 i h4=>by
      have e:L (at' b j) (at' a<|na-1)=false:=by
       cases e:L (at' b j) (at' a<|na-1)with
       |false=>rfl
       |true=>exact absurd ((hB' j h3).mp e) (by omega)
      have e2:=O.tot _ _ (ub _ (by omega)) (ua _ (by omega)) (fun e=>ne (na-1) j (by omega) (by omega) e.symm) e;by_cases w:i=na-1;·rw[w];exact e2
      ·exact O.tr _ _ _ (ua _ (by omega)) (ua _ (by omega)) (ub _ (by omega)) (sa i (na-1) (Dl _) (by omega) (by omega)) e2) (by rw[m6];rfl)
     have ba:L (at' b<|m-1) (at' a<|na-1)=true:=(hB' (m-1) (by omega)).mpr (by omega);by_cases w:nb-1-m>0
     ·rw[if_pos w];by_cases v:m=1
      ·rw[if_pos (by simpa using v)];exact CY ⟨al,.inl ⟨_,_,rfl,endB _ _ _ _ al J2 q3 v⟩⟩
      ·rw[if_neg (by simpa using v),if_neg (by simp;omega)];exact pC _ _ _ _ _ _ _ al J2 q1 (by omega) q3 (by omega) (by omega) ba
     ·rw[if_neg w];have:m=nb-1:=by omega
      subst this;exact pC _ _ _ _ _ _ _ al J' q1 (by omega) q3 (by omega) (by omega) ba
    by_cases w:g>1
    ·rw[if_pos w];refine CQ (EH (CQ (bg (by omega) (CQ (df O (ub _ (by omega)) (fun i hi=>ua _ (by omega)) (by omega) (by omega) (al.1.trans kd) (fun i j hij hj hB=>?_) fun m hm hB=>?_)))))
     ·have hB':(!L (at' b<|nb- 1) (at' a<|0+j))=true:=hB;show(!L (at' b<|nb-1) (at' a<|0+i))=true;rw[Fj]at hB' ⊢;cases e:L (at' b<|nb-1) (at' a i)with
      |false=>rfl
      |true=>
       rw[O.tr _ _ _ (ub _ (by omega)) (ua _ (by omega)) (ua _ (by omega)) e (sa i j (Dl _) hij (by omega))]at hB';exact hB'
     have hB':∀i,i<na->((!L (at' b<|nb-1) (at' a i))=true↔i<m):=fun i hi=>by
      have e:(!L (at' b<|nb-1) (at' a<|0+i))=true↔i<m:=hB i hi
      rwa [Fj]at e
     dsimp only;have J1:JH L a b (out++(a.extract m na).reverse) m nb:=J.takeA sa q3 hm (fun i h2 h3 j h4=>by
      have e:L (at' b<|nb-1) (at' a i)=true:=by
       cases e:L (at' b<|nb-1) (at' a i)with
       |true=>rfl
       |false=>exact absurd ((hB' i h3).mp (by rw[e];rfl)) (by omega)
      by_cases v:j=nb-1;·rw[v];exact e
      ·exact O.tr _ _ _ (ub _ (by omega)) (ub _ (by omega)) (ua _ (by omega)) (sb j (nb-1) (Dl _) (by omega) (by omega)) e) (by rw[m6];rfl)
     have hab:∀i,i<m->L (at' a i) (at' b<|nb-1)=true:=fun i hi=>by
      have e:=(hB' i (by omega)).mpr hi;exact O.tot _ _ (ub _ (by omega)) (ua _ (by omega)) (fun e=>ne i (nb-1) (by omega) (by omega) e.symm) (by simpa using e)
     by_cases v:na-m>0
     ·rw[if_pos v];by_cases u:m=0
      ·rw[if_pos (by simpa using u)];exact CY ⟨al,.inl ⟨_,_,rfl,endA _ _ _ _ al J1 q4 u⟩⟩
      ·rw[if_neg (by simpa using u)];exact pB _ _ _ _ _ _ _ al J1 (by omega) q2 (by omega) q4 (by omega) hab
     ·rw[if_neg v];have:m=na:=by omega
      subst this;exact pB _ _ _ _ _ _ _ al J q1 q2 q3 q4 (by omega) hab
    ·rw[if_neg w];refine CQ (EH (CQ (bg (by omega) (CQ (df O (ub _ (by omega)) (fun i hi=>ua _ (by omega)) (by omega) (by omega) (al.1.trans kd) (fun i j hij hj hB=>?_) fun m hm hB=>?_)))))
     ·have hB':(!L (at' b<|nb- 1) (at' a<|0+j))=true:=hB;show(!L (at' b<|nb-1) (at' a<|0+i))=true;rw[Fj]at hB' ⊢;cases e:L (at' b<|nb-1) (at' a i)with
      |false=>rfl
      |true=>
       rw[O.tr _ _ _ (ub _ (by omega)) (ua _ (by omega)) (ua _ (by omega)) e (sa i j (Dl _) hij (by omega))]at hB';exact hB'
     have hB':∀i,i<na->((!L (at' b<|nb-1) (at' a i))=true↔i<m):=fun i hi=>by
      have e:(!L (at' b<|nb-1) (at' a<|0+i))=true↔i<m:=hB i hi
      rwa [Fj]at e
     dsimp only;have J1:JH L a b (out++(a.extract m na).reverse) m nb:=J.takeA sa q3 hm (fun i h2 h3 j h4=>by
      have e:L (at' b<|nb-1) (at' a i)=true:=by
       cases e:L (at' b<|nb-1) (at' a i)with
       |true=>rfl
       |false=>exact absurd ((hB' i h3).mp (by rw[e];rfl)) (by omega)
      by_cases v:j=nb-1;·rw[v];exact e
      ·exact O.tr _ _ _ (ub _ (by omega)) (ub _ (by omega)) (ua _ (by omega)) (sb j (nb-1) (Dl _) (by omega) (by omega)) e) (by rw[m6];rfl)
     have hab:∀i,i<m->L (at' a i) (at' b<|nb-1)=true:=fun i hi=>by
      have e:=(hB' i (by omega)).mpr hi;exact O.tot _ _ (ub _ (by omega)) (ua _ (by omega)) (fun e=>ne i (nb-1) (by omega) (by omega) e.symm) (by simpa using e)
     by_cases v:na-m>0
     ·rw[if_pos v];by_cases u:m=0
      ·rw[if_pos (by simpa using u)];exact CY ⟨al,.inl ⟨_,_,rfl,endA _ _ _ _ al J1 q4 u⟩⟩
      ·rw[if_neg (by simpa using u)];exact pB _ _ _ _ _ _ _ al J1 (by omega) q2 (by omega) q4 (by omega) hab
     ·rw[if_neg v];have:m=na:=by omega
      subst this;exact pB _ _ _ _ _ _ _ al J q1 q2 q3 q4 (by omega) hab
end
def gv:Nat->StateT EA Sem Bool:=sortPriv%PySem.Builtin.mergeAt
def putAt(xs:Array CZ)(off:Nat)(m:Array CZ):Array CZ:=m.toList.zipIdx.foldl (fun a(x:CZ×Nat)=>a.setIfInBounds (off+x.2) x.1) xs
theorem nJ(i:Nat):gv i=(do
 let s <-get
 let (some (sa,na,power),some (sb,nb,_)):=((pendingOf s)[i]?,(pendingOf s)[i+1]?)|unsupported "internal:list.sort.pending"
 set (Gi (kindOf s) (arrOf s) (((pendingOf s).setIfInBounds i (sa,na+nb,power)).eraseIdxIfInBounds (i+1)) (gallopOf s)<|failedOf s)
 let some k <-dN false (<-elem' (arrOf s) sb) (arrOf s) sa na 0|return false
 let (sa,na):=(sa+k,na-k)
 if na==0 then return true
 let some nb <-dN true (<-elem' (arrOf s) (sa+na-1)) (arrOf s) sb nb (nb-1)|return false
 if nb==0 then return true
 let x:=(arrOf s).extract sa sb
 let y:=(arrOf s).extract sb (sb+nb)
 let merged <-if na<=nb then ku x y else kA x y
 modify fun s=>setArr s (putAt (arrOf s) sa merged)
 return (failedOf (<-get)).isNone):=rfl
theorem uE:∀(m:List CZ)(off j0:Nat)(xs:Array CZ),off+j0+m.length<=xs.size->
  ((m.zipIdx j0).foldl (fun a(x:CZ×Nat)=>a.setIfInBounds (off+x.2) x.1) xs).size=xs.size/\∀i,at' ((m.zipIdx j0).foldl (fun a(x:CZ×Nat)=>a.setIfInBounds (off+x.2) x.1) xs) i=if off+j0<=i/\i<off+j0+m.length then m.getD (i-(off+j0)) (E5,E5)else at' xs i
 | [],off,j0,xs,h=>⟨rfl,fun i=>by rw[if_neg (by simp)];rfl⟩
 |x::m,off,j0,xs,h=>by
  simp only[F5]at h;have ih:=uE m off (j0+1) (xs.setIfInBounds (off+j0) x) (by rw[IA];omega);rw[IG,J5];refine⟨ih.1.trans<|IA ..,fun i=>?_⟩;rw[ih.2];have e:at' (xs.setIfInBounds (off+j0) x) i=if i=off+j0 then x else at' xs i:=by
   simp only[at',DM];by_cases z:i=off+j0;·rw[if_pos z,z,Array.getElem?_setIfInBounds_self_of_lt (by omega)];rfl
   ·rw[if_neg z,Array.getElem?_setIfInBounds_ne (by omega)]
  by_cases z1:off+(j0+1)<=i/\i<off+(j0+1)+m.length
  ·rw[if_pos z1,if_pos (by simp;omega),show i- (off+j0)=(i- (off+(j0+1)))+1 by omega];rfl
  ·rw[if_neg z1,e];by_cases z2:i=off+j0;·rw[if_pos z2,if_pos (by simp;omega),z2,Gp];rfl
   ·rw[if_neg z2,if_neg (by simp;omega)]
theorem uF{xs m:Array CZ}{off:Nat}(h:off+m.size<=xs.size):(putAt xs off m).size=xs.size/\∀i,at' (putAt xs off m) i=if off<=i/\i<off+m.size then at' m (i-off)else at' xs i:=by
 have:=uE m.toList off 0 xs (by simpa using h);refine⟨this.1,fun i=>?_⟩;have e:=this.2 i;simp only[Nat.add_zero,Dh]at e;refine e.trans ?_;by_cases z:off<=i/\i<off+m.size
 ·rw[if_pos z,if_pos z];simp[at',DM,E7]
 ·rw[if_neg z,if_neg z]
theorem uG{xs m:Array CZ}{off:Nat}(h:off+m.size<=xs.size):(putAt xs off m).toList=ext' xs 0 off++m.toList++ext' xs (off+m.size) xs.size:=by
 obtain⟨hs,ha⟩:=uF h;apply El;intro i;have l1:(ext' xs 0 off).length=off:=by rw[dG];simp;omega
 by_cases z:i<xs.size
 ·rw[CT,dw (by omega),ha];by_cases z1:i<off;·rw[if_neg (by omega),Dg,D3 (by omega),dG,Jr,DP (by omega),CT,dw z]
  ·by_cases z2:i< off+m.size;·rw[if_pos (by omega),Dg,D4 (by omega),l1,D3 (by simpa using (by omega:i-off<m.size)),CT,dw (by omega)]
   ·rw[if_neg (by omega),D4 (by simp[l1];omega),dG];have:(ext' xs 0 off++m.toList).length=off+m.size:=by simp[l1]
    rw[this,DP (by omega),E1,CT,show off+m.size+(i-(off+m.size))=i by omega,dw z]
 ·have l2:(ext' xs (off+m.size) xs.size).length=xs.size- (off+m.size):=by rw[dG];simp
  rw[DK (by simp;omega),DK (by simp[l1,l2];omega)]
theorem uH{xs:Array CZ}{a b i:Nat}(hb:b<=xs.size)(hi:i<b-a):at' (xs.extract a b) i=at' xs (a+i):=by
 have h1:i<(xs.extract a b).size:=by simp;omega
 have e:=dw h1;rw[Array.getElem?_extract_of_lt (by omega)]at e;have e2:=dw (xs:=xs) (i:=a+i) (by omega);rw[Dd (by omega)]at e2;exact(DG e).symm.trans (DG e2)
theorem uI{xs:Array CZ}{a b:Nat}(hb:b<=xs.size):(xs.extract a b).size=b-a:=by simp;omega
section
variable{M:J4}{A:DL}{E:CI->CM->Prop}{s:CM}{κ:Hq}{U:CZ->Prop}{L:CZ->CZ->Bool}{a0:List CZ}{st:EA}
theorem oV(O:LtOk M A E s κ U L)(hU:∀x∈a0,U x)(nd:a0.Nodup){i sa na sb nb pw pw':Nat}{Q:Bool->EA->Prop}(B:SB κ a0 st)(p1:(pendingOf st)[i]? =some (sa,na,pw))(p2:(pendingOf st)[i+1]? =some (sb,nb,pw'))(hsb:sb=sa+na)(z1:0<na)(z2:0<nb)(hz:sb+nb<=a0.length)
  (s1:Sr L (arrOf st) sa sb) (s2:Sr L (arrOf st) sb (sb+nb))
  (h:∀st',SB κ a0 st'->pendingOf st'=((pendingOf st).setIfInBounds i (sa,na+nb,pw)).eraseIdxIfInBounds (i+1)->Sr L (arrOf st') sa (sb+nb)->(∀i,i<sa\/sb+nb<=i->at' (arrOf st') i=at' (arrOf st) i)->Q true st'):wpS M A E s (gv i) Q st:=by
 have hs:=B.size;have uu:∀i,i<a0.length->U (at' (arrOf st) i):=fun i hi=>B.u hU hi;have nn:∀i j,i<a0.length->j<a0.length->i≠j->at' (arrOf st) i≠at' (arrOf st) j:=fun i j hi hj hij=>B.ne nd hi hj hij;rw[nJ];refine CQ<|GS ?_;rw[p1,p2];dsimp only;refine CQ<|EH (f:=fun _=>Gi (kindOf st) (arrOf st) (((pendingOf st).setIfInBounds i (sa,na+nb,pw)).eraseIdxIfInBounds (i+1)) (gallopOf st)<|failedOf st) ?_;have B1:SB κ a0 (Gi (kindOf st) (arrOf st) (((pendingOf st).setIfInBounds i (sa,na+nb,pw)).eraseIdxIfInBounds (i+1)) (gallopOf st)<|failedOf st):=⟨B.kind,B.failed,B.perm⟩
 refine CQ (bg (by omega) (CQ (df O (uu _ (by omega)) (fun i hi=>uu _ (by omega)) (by omega) z1 B.kind (fun i j hij hj hB=>?_) fun k hk hB=>?_)))
 ·have hB':(!L (at' (arrOf st) sb) (at' (arrOf st)<|sa+j))=true:=hB;show(!L (at' (arrOf st) sb) (at' (arrOf st)<|sa+i))=true;cases e:L (at' (arrOf st) sb) (at' (arrOf st)<|sa+i)with
  |false=>rfl
  |true=>
   rw[O.tr _ _ _ (uu _ (by omega)) (uu _ (by omega)) (uu _ (by omega)) e (s1 (sa+i) (sa+j) (by omega) (by omega) (by omega))]at hB';exact hB'
 have hB':∀i,i<na->((!L (at' (arrOf st) sb) (at' (arrOf st)<|sa+i))=true↔i<k):=hB;have lo:∀i,sa<=i->i<sa+k->L (at' (arrOf st) i) (at' (arrOf st) sb)=true:=fun i h2 h3=>by
  have e:=(hB' (i-sa) (by omega)).mpr (by omega);rw[show sa+(i-sa)=i by omega]at e;exact O.tot _ _ (uu _ (by omega)) (uu _ (by omega)) (nn _ _ (by omega) (by omega) (by omega)) (by simpa using e)
 have hi:∀i,sa+k<=i->i<sb->L (at' (arrOf st) sb) (at' (arrOf st) i)=true:=fun i h2 h3=>by
  cases e:L (at' (arrOf st) sb) (at' (arrOf st) i)with
  |true=>rfl
  |false=>exact absurd ((hB' (i-sa) (by omega)).mp (by rw[show sa+(i-sa)=i by omega,e];rfl)) (by omega)
 have lob:∀i j,sa<=i->i<sa+k->sb<=j->j<sb+nb->L (at' (arrOf st) i) (at' (arrOf st) j)=true:=fun i j h2 h3 h4 h5=>by
  by_cases y:j=sb;·rw[y];exact lo i h2 h3
  ·exact O.tr _ _ _ (uu _ (by omega)) (uu _ (by omega)) (uu _ (by omega)) (lo i h2 h3) (s2 sb j (CN _) (by omega) h5)
 dsimp only;by_cases y0:na-k=0
 ·rw[if_pos (by simpa using y0)];refine CY<|h _ B1 rfl (fun i j h2 h3 h4=>?_) fun _ _=>rfl;show L (at' (arrOf st) i) (at' (arrOf st) j)=true;by_cases y1:j<sb;·exact s1 i j h2 h3 y1
  ·by_cases y2:sb<=i;·exact s2 i j y2 h3 h4
   ·exact lob i j h2 (by omega) (by omega) h4
 rw[if_neg (by simpa using y0)];have elast:sa+k+(na-k)-1=sb-1:=by omega
 refine CQ (bg (by omega) (CQ (df O (uu _ (by omega)) (fun i hi=>uu _ (by omega)) (by omega) (by omega) B.kind (fun i j hij hj hB=>?_) fun m hm hM=>?_)))
 ·have hB2:L (at' (arrOf st)<|sb+j) (at' (arrOf st)<|sa+k+(na- k)- 1)=true:=hB;show L (at' (arrOf st)<|sb+i) (at' (arrOf st)<|sa+k+(na-k)-1)=true;exact O.tr _ _ _ (uu _ (by omega)) (uu _ (by omega)) (uu _ (by omega)) (s2 (sb+i) (sb+j) (by omega) (by omega) (by omega)) hB2
 have hM':∀i,i<nb->(L (at' (arrOf st)<|sb+i) (at' (arrOf st)<|sb-1)=true↔i<m):=fun i hi=>by
  have e:L (at' (arrOf st)<|sb+i) (at' (arrOf st)<|sa+k+(na-k)-1)=true↔i<m:=hM i hi
  rwa [elast]at e
 have m1:0<m:=(hM' 0 z2).mp (hi _ (by omega) (by omega));dsimp only;rw[if_neg (by simp;omega)];have xz:((arrOf st).extract (sa+k) sb).size=na-k:=by rw[uI (by omega)];omega
 have yz:((arrOf st).extract sb (sb+m)).size=m:=by rw[uI (by omega)];omega
 have xa:∀i,i<na-k->at' ((arrOf st).extract (sa+k) sb) i=at' (arrOf st) (sa+k+i):=fun i hi=>uH (by omega) (by omega);have ya:∀i,i<m->at' ((arrOf st).extract sb (sb+m)) i=at' (arrOf st) (sb+i):=fun i hi=>uH (by omega) (by omega);have fin:∀(r:Array CZ)st',cz (Gi (kindOf st) (arrOf st) (((pendingOf st).setIfInBounds i (sa,na+nb,pw)).eraseIdxIfInBounds (i+1)) (gallopOf st)<|failedOf st) st'->r.toList.Perm (((arrOf st).extract (sa+k) sb).toList++((arrOf st).extract sb (sb+m)).toList)->r.toList.Pairwise (fun x y=>L x y=true)->
   wpS M A E s (do
    modify fun s=>setArr s (putAt (arrOf s) (sa+k) r)
    return (failedOf (<-get)).isNone) Q st':=by
  intro r st' al pm so;have e1:arrOf st'=arrOf st:=al.2.1;have rz:r.size=na-k+m:=by
   have:=pm.length_eq;rw[F0,Dh,Dh,Dh,xz,yz]at this;exact this
  have bd:sa+k+r.size<=(arrOf st').size:=by rw[e1];omega
  obtain⟨pz,pa⟩:=uF bd;have pl:=uG bd;refine CQ<|EH<|CQ<|GS<|CY ?_;have ef:(failedOf<|setArr st'<|putAt (arrOf st') (sa+k) r).isNone=true:=by
   show(failedOf st').isNone=true;rw[al.2.2.2];show(failedOf st).isNone=true;rw[B.failed];rfl
  rw[ef];have mem:∀i,sa+k<=i->i<sb+m->∃j,sa+k<=j/\j<sb+m/\at' r (i-(sa+k))=at' (arrOf st) j:=fun i h2 h3=>by
   have hr:at' r (i-(sa+k))∈r.toList:=by rw[eY (by omega)];exact F3 _
   rcases DF.mp (pm.mem_iff.mp hr)with q|q
   ·obtain⟨j,q1,q2,q3⟩:=(bT (xs:=arrOf st) (by omega)).mp q;exact⟨j,q1,by omega,q3⟩
   ·obtain⟨j,q1,q2,q3⟩:=(bT (xs:=arrOf st) (by omega)).mp q;exact⟨j,by omega,q2,q3⟩
  refine h _ ⟨al.1.trans B.kind,by show failedOf st'=none;rw[al.2.2.2];exact B.failed,?_⟩ al.2.2.1 (fun i j h2 h3 h4=>?_) fun i h2=>?_
  ·show(putAt (arrOf st') (sa+k) r).toList.Perm a0;rw[pl,e1];refine List.Perm.trans ?_ B.perm;have ea:(arrOf st).toList=ext' (arrOf st) 0 (sa+k)++(((arrOf st).extract (sa+k) sb).toList++((arrOf st).extract sb (sb+m)).toList)++ext' (arrOf st) (sa+k+r.size) (arrOf st).size:=by
    show _=ext' (arrOf st) 0 (sa+k)++(ext' (arrOf st) (sa+k) sb++ext' (arrOf st) sb (sb+m))++ext' (arrOf st) (sa+k+r.size) (arrOf st).size;rw[show sa+k+r.size=sb+m by omega,<-dz (by omega) (by omega),<-dz (by omega) (by omega),<-dz (by omega) (by omega),ig]
   rw[ea];exact Eb _<|Ei _ pm
  ·show L (at' (putAt (arrOf st') (sa+k) r) i) (at' (putAt (arrOf st') (sa+k) r) j)=true;rw[pa,pa,e1];have hib:∀x y,sa+k<=x->x<sb+m->sb+m<=y->y<sb+nb->L (at' (arrOf st) x) (at' (arrOf st) y)=true:=fun x y g1 g2 g3 g4=>by
    have ey:L (at' (arrOf st)<|sb-1) (at' (arrOf st) y)=true:=by
     refine O.tot _ _ (uu _ (by omega)) (uu _ (by omega)) (nn _ _ (by omega) (by omega) (by omega)) ?_;cases e:L (at' (arrOf st) y) (at' (arrOf st)<|sb-1)with
     |false=>rfl
     |true=>exact absurd ((hM' (y-sb) (by omega)).mp (by rw[show sb+(y-sb)=y by omega];exact e)) (by omega)
    by_cases g5:sb<=x;·exact s2 x y g5 (by omega) g4
    ·by_cases g6:x=sb- 1;·rw[g6];exact ey
     ·exact O.tr _ _ _ (uu _ (by omega)) (uu _ (by omega)) (uu _ (by omega)) (s1 x (sb-1) (by omega) (by omega) (by omega)) ey
   by_cases c1:i<sa+k
   ·rw[if_neg (by omega)];by_cases c2:sa+k<=j/\j<sa+k+r.size
    ·rw[if_pos c2];obtain⟨q,q1,q2,q3⟩:=mem j c2.1 (by omega);rw[q3];by_cases c3:q<sb;·exact s1 i q h2 (by omega) c3
     ·exact lob i q h2 c1 (by omega) (by omega)
    ·rw[if_neg c2];by_cases c3:j<sb;·exact s1 i j h2 h3 c3
     ·exact lob i j h2 c1 (by omega) h4
   ·by_cases c4:i< sa+k+r.size
    ·rw[if_pos (by omega)];by_cases c5:j<sa+k+r.size
     ·rw[if_pos (by omega),eY (by omega),eY (by omega)];exact EY.mp so _ _ _ _ (by omega)
     ·rw[if_neg (by omega)];obtain⟨q,q1,q2,q3⟩:=mem i (by omega) (by omega);rw[q3];exact hib q j q1 q2 (by omega) h4
    ·rw[if_neg (by omega),if_neg (by omega)];exact s2 i j (by omega) h3 h4
  ·show at' (putAt (arrOf st') (sa+k) r) i=_;rw[pa,if_neg (by omega),e1]
 have xU:∀i,i<((arrOf st).extract (sa+k) sb).size->U (at' ((arrOf st).extract (sa+k) sb) i):=fun i hi=>by rw[xa i (by omega)];exact uu _ (by omega)
 have yU:∀i,i<((arrOf st).extract sb (sb+m)).size->U (at' ((arrOf st).extract sb (sb+m)) i):=fun i hi=>by rw[ya i (by omega)];exact uu _ (by omega)
 have xS:Sr L ((arrOf st).extract (sa+k) sb) 0 ((arrOf st).extract (sa+k) sb).size:=fun i j g1 g2 g3=>by rw[xa i (by omega),xa j (by omega)];exact s1 _ _ (by omega) (by omega) (by omega)
 have yS:Sr L ((arrOf st).extract sb (sb+m)) 0 ((arrOf st).extract sb (sb+m)).size:=fun i j g1 g2 g3=>by rw[ya i (by omega),ya j (by omega)];exact s2 _ _ (by omega) (by omega) (by omega)
 have xy:∀i j,i<((arrOf st).extract (sa+k) sb).size->j<((arrOf st).extract sb (sb+m)).size->at' ((arrOf st).extract (sa+k) sb) i≠at' ((arrOf st).extract sb (sb+m)) j:=fun i j g1 g2=>by rw[xa i (by omega),ya j (by omega)];exact nn _ _ (by omega) (by omega) (by omega)
 have f0:L (at' ((arrOf st).extract sb (sb+m)) 0) (at' ((arrOf st).extract (sa+k) sb) 0)=true:=by rw[xa 0 (by omega),ya 0 m1];exact hi _ (by omega) (by omega)
 have f1:∀j,j<((arrOf st).extract sb (sb+m)).size->L (at' ((arrOf st).extract sb (sb+m)) j) (at' ((arrOf st).extract (sa+k) sb)<|((arrOf st).extract (sa+k) sb).size-1)=true:=fun j g1=>by
  rw[xa _ (by omega),ya j (by omega),xz,show sa+k+(na-k-1)=sb-1 by omega];exact(hM' j (by omega)).mpr (by omega)
 by_cases w:na-k<=m
 ·rw[if_pos w];exact CQ (oT O B.kind xU yU (by omega) (by omega) xS yS xy f0 f1 fin)
 ·rw[if_neg w];exact CQ (oU O B.kind xU yU (by omega) (by omega) xS yS xy f0 f1 fin)
end
def qy:Nat->Nat->Nat->Nat:=sortPriv%PySem.Builtin.minRun
def oW:Nat->Nat->Nat->Nat->Nat:=sortPriv%PySem.Builtin.power
theorem m8:sortRuns'=(do
 let size:=(arrOf<|<-get).size
 let minrun:=qy size size 0
 let mut lo:=0
 for _ in [0:size]do
  if lo≥size then break
  let some found <-countRun' lo (size-lo)|return
  let mut n:=found
  if n<minrun then
   rule "list.sort.binary-insertion"
   let force:=min (size-lo) minrun
   if !(<-binarySort' lo force n)then return
   n:=force
  if let some (s1,n1,_):=(pendingOf<|<-get).back? then
   let pw:=oW size (2*s1+n1) (2*s1+n1+n1+n) size
   for _ in [0:size]do
    let p:=pendingOf (<-get)
    let some (_,_,older):=(if p.size>1 then p[p.size-2]? else none)|break
    if older<=pw then break
    if !(<-gv (p.size-2))then return
   modify fun s=>Gi (kindOf s) (arrOf s) ((pendingOf s).modify ((pendingOf s).size-1) fun(st,len,_)=>(st,len,pw)) (gallopOf s) (failedOf s)
  modify fun s=>Gi (kindOf s) (arrOf s) ((pendingOf s).push (lo,n,0)) (gallopOf s) (failedOf s)
  lo:=lo+n
 for _ in [0:size]do
  let p:=pendingOf (<-get)
  if p.size<=1 then break
  let i:=p.size-2
  let before:=if i>0 then p[i-1]?.map (·.2.1)else none
  let i:=if before.any (· <(p[i+1]?.elim 0 (·.2.1)))then i-1 else i
  if !(<-gv i)then return):=rfl
def rsP(p:Array (Nat×Nat×Nat)):List (Nat×Nat):=p.toList.map fun t=>(t.1,t.2.1)
def Chain:Nat->List (Nat×Nat)->Nat->Prop
 |a,[],b=>a=b
 |a,t::r,b=>t.1=a/\0<t.2/\Chain (a+t.2) r b
theorem eF:∀(l r:List (Nat×Nat))(a b:Nat),Chain a (l++r) b↔∃c,Chain a l c/\Chain c r b
 | [],r,a,b=>⟨fun h=>⟨a,rfl,h⟩,fun⟨c,h1,h2⟩=>by cases h1;exact h2⟩
 |t::l,r,a,b=>by
  constructor
  ·rintro ⟨h1,h2,h3⟩;obtain⟨c,h4,h5⟩:=(eF l r _ b).mp h3;exact⟨c,⟨h1,h2,h4⟩,h5⟩
  ·rintro ⟨c,⟨h1,h2,h4⟩,h5⟩;exact⟨h1,h2,(eF l r _ b).mpr ⟨c,h4,h5⟩⟩
theorem fw:∀{l:List (Nat×Nat)}{a b:Nat},Chain a l b->a+l.length<=b/\∀t∈l,a<=t.1/\t.1+t.2<=b
 | [],a,b,h=>by cases h;exact⟨by simp,fun t ht=>by cases ht⟩
 |t::l,a,b,⟨h1,h2,h3⟩=>by
  have ih:=fw h3;refine⟨by have:=ih.1;simp;omega,fun u hu=>?_⟩;rcases De.mp hu with rfl|hu
  ·have:=ih.1;omega
  ·have:=ih.2 u hu;omega
structure Rn(L:CZ->CZ->Bool)(p:Array (Nat×Nat×Nat))(xs:Array CZ)(lo:Nat):Prop where
 ch:Chain 0 (rsP p) lo
 so:∀t∈rsP p,Sr L xs t.1<|t.1+t.2
theorem m9{α:Type}:∀(l:List α)(i:Nat)(x y:α),l[i]? =some x->l[i+1]? =some y->l=l.take i++x::y::l.drop (i+2)
 | [],i,x,y,h,_=>by simp at h
 |a::l,0,x,y,h1,h2=>by
  cases l with
  |nil=>simp at h2
  |cons b l=>
   simp at h1 h2;subst h1 h2;simp
 |a::l,i+1,x,y,h1,h2=>by
  have:=m9 l i x y (by simpa using h1) (by simpa using h2);simp only[List.take_succ_cons,List.drop_succ_cons,Hc];exact congrArg (a:: ·) this
theorem nK{p:Array (Nat×Nat×Nat)}{i:Nat}{x y z:Nat×Nat×Nat}(h1:p[i]? =some x)(h2:p[i+1]? =some y):((p.setIfInBounds i z).eraseIdxIfInBounds (i+1)).toList=p.toList.take i++z::p.toList.drop (i+2):=by
 have hl:i+1<p.size:=(Ep.mp h2).1;have e:=m9 p.toList i x y (by rw[CT];exact h1) (by rw[CT];exact h2);have e1:((p.setIfInBounds i z).eraseIdxIfInBounds (i+1)).toList=(p.toList.set i z).eraseIdx (i+1):=by
  rw[GW,Gg]
 rw[e1];have tl:(p.toList.take i).length=i:=by simp;omega
 conv=>lhs;rw[e]
 rw[List.set_append_right _ _ (by omega),tl,Gp,GF,GJ (by omega),tl,show i+1-i=1 by omega];rfl
theorem Rn.merge{L:CZ->CZ->Bool}{p:Array (Nat×Nat×Nat)}{xs xs':Array CZ}{lo i sa na pw sb nb pw':Nat}(R:Rn L p xs lo)(h1:p[i]? =some (sa,na,pw))(h2:p[i+1]? =some (sb,nb,pw'))
  (hs:Sr L xs' sa (sb+nb)) (ho:∀i,i<sa\/sb+nb<=i->at' xs' i=at' xs i):Rn L ((p.setIfInBounds i (sa,na+nb,pw)).eraseIdxIfInBounds (i+1)) xs' lo/\sb=sa+na/\0<na/\0<nb/\sb+nb<=lo:=by
 have e:=m9 p.toList i _ _ (by rw[CT];exact h1) (by rw[CT];exact h2);have er:rsP p=(p.toList.take i).map (fun t=>(t.1,t.2.1))++(sa,na)::(sb,nb)::(p.toList.drop<|i+2).map (fun t=>(t.1,t.2.1)):=by
  unfold rsP;conv=>lhs;rw[e]
  simp
 have er2:rsP ((p.setIfInBounds i (sa,na+nb,pw)).eraseIdxIfInBounds (i+1))=(p.toList.take i).map (fun t=>(t.1,t.2.1))++(sa,na+nb)::(p.toList.drop<|i+2).map (fun t=>(t.1,t.2.1)):=by
  unfold rsP;rw[nK h1 h2];simp
 have ch:=R.ch;have so:=R.so;rw[er]at ch so;generalize (p.toList.take i).map (fun t=>(t.1,t.2.1))=l1 at*
 generalize (p.toList.drop<|i+2).map (fun t=>(t.1,t.2.1))=l2 at*
 obtain⟨c,c1,c2,c3,c4,c5,c6⟩:=(eF _ _ _ _).mp ch;dsimp only at c2 c3 c4 c5 c6;subst c2;have l6:=fw c6;have l1':=fw c1;refine⟨⟨?_,fun t ht=>?_⟩,by omega,c3,c5,by omega⟩
 ·rw[er2];exact(eF _ _ _ _).mpr ⟨sa,c1,rfl,by show 0<na+nb;omega,by show Chain (sa+(na+nb)) l2 lo;rw[<-LP];exact c6⟩
 ·rw[er2]at ht;have keep:∀t:Nat×Nat,Sr L xs t.1 (t.1+t.2)->(t.1+t.2<=sa\/sb+nb<=t.1)->Sr L xs' t.1 (t.1+t.2):=fun t h h3 i j g1 g2 g3=>by
   rw[ho i (by omega),ho j (by omega)];exact h i j g1 g2 g3
  rcases DF.mp ht with ht|ht;·exact keep t (so t (by simp[ht]))<|.inl (l1'.2 t ht).2
  ·rcases De.mp ht with rfl | ht
   ·show Sr L xs' sa (sa+(na+nb));rw[<-LP,<-c4];exact hs
   ·exact keep t (so t (by simp[ht])) (.inr (by have:=(l6.2 t ht).1;omega))
theorem Rn.two{L:CZ->CZ->Bool}{p:Array (Nat×Nat×Nat)}{xs:Array CZ}{lo i sa na pw sb nb pw':Nat}(R:Rn L p xs lo)(h1:p[i]? =some (sa,na,pw))(h2:p[i+1]? =some (sb,nb,pw')):sb=sa+na/\0<na/\0<nb/\sb+nb<=lo/\Sr L xs sa sb/\Sr L xs sb (sb+nb):=by
 have e:=m9 p.toList i _ _ (by rw[CT];exact h1) (by rw[CT];exact h2);have er:rsP p=(p.toList.take i).map (fun t=>(t.1,t.2.1))++(sa,na)::(sb,nb)::(p.toList.drop<|i+2).map (fun t=>(t.1,t.2.1)):=by
  unfold rsP;conv=>lhs;rw[e]
  simp
 have ch:=R.ch;have so:=R.so;rw[er]at ch so;obtain⟨c,c1,c2,c3,c4,c5,c6⟩:=(eF _ _ _ _).mp ch;dsimp only at c2 c3 c4 c5 c6;have l6:=fw c6;have s1:Sr L xs sa (sa+na):=so (sa,na) (by simp);have s2:Sr L xs sb (sb+nb):=so (sb,nb) (by simp);exact⟨by omega,c3,c5,by omega,by rw[show sb=sa+na by omega];exact s1,s2⟩
theorem Rn.keep{L:CZ->CZ->Bool}{p:Array (Nat×Nat×Nat)}{xs xs':Array CZ}{lo:Nat}(R:Rn L p xs lo)(ho:∀i,i<lo->at' xs' i=at' xs i):Rn L p xs' lo:=
 ⟨R.ch,fun t ht i j g1 g2 g3=>by
  have:=(fw R.ch).2 t ht;rw[ho i (by omega),ho j (by omega)];exact R.so t ht i j g1 g2 g3⟩
theorem Rn.push{L:CZ->CZ->Bool}{p:Array (Nat×Nat×Nat)}{xs:Array CZ}{lo n w:Nat}(R:Rn L p xs lo)(hn:0<n)(hs:Sr L xs lo (lo+n)):Rn L (p.push (lo,n,w)) xs (lo+n):=by
 have e:rsP (p.push (lo,n,w))=rsP p++[(lo,n)]:=by unfold rsP;simp
 refine⟨by rw[e];exact(eF _ _ _ _).mpr ⟨lo,R.ch,rfl,hn,rfl⟩,fun t ht=>?_⟩;rw[e]at ht;rcases DF.mp ht with ht|ht
 ·exact R.so t ht
 ·have:t=(lo,n):=by simpa using ht
  subst this;exact hs
theorem kB(p:Array (Nat×Nat×Nat))(i w:Nat):rsP (p.modify i fun(st,len,_)=>(st,len,w))=rsP p:=by
 unfold rsP;apply El;intro j;rw[CS,CS,CT,CT,Array.getElem?_modify];by_cases z:i=j
 ·rw[if_pos z];cases p[j]? <;>rfl
 ·rw[if_neg z]
theorem Rn.mod{L:CZ->CZ->Bool}{p:Array (Nat×Nat×Nat)}{xs:Array CZ}{lo:Nat}(R:Rn L p xs lo)(i w:Nat):Rn L (p.modify i fun(st,len,_)=>(st,len,w)) xs lo:=⟨by rw[kB];exact R.ch,by rw[kB];exact R.so⟩
theorem qz(p:Array (Nat×Nat×Nat)):(rsP p).length=p.size:=by unfold rsP;simp
theorem rR{p:Array (Nat×Nat×Nat)}{i:Nat}{z:Nat×Nat×Nat}(h:i+1<p.size):((p.setIfInBounds i z).eraseIdxIfInBounds (i+1)).size=p.size-1:=by
 rw[<-Dh,GW,Gg,Hm,EX,Dh,if_pos h]
section
variable{M:J4}{A:DL}{E:CI->CM->Prop}{s:CM}{κ:Hq}{U:CZ->Prop}{L:CZ->CZ->Bool}{a0:List CZ}{st:EA}
theorem oX(O:LtOk M A E s κ U L)(hU:∀x∈a0,U x)(nd:a0.Nodup){i lo:Nat}{Q:Bool->EA->Prop}(B:SB κ a0 st)(R:Rn L (pendingOf st) (arrOf st) lo)(hi:i+1<(pendingOf st).size)(hlo:lo<=a0.length)
  (h:∀st',SB κ a0 st'->Rn L (pendingOf st') (arrOf st') lo->(pendingOf st').size=(pendingOf st).size-1->(∀i,lo<=i->at' (arrOf st') i=at' (arrOf st) i)->Q true st'):wpS M A E s (gv i) Q st:=by
 obtain⟨⟨sa,na,pw⟩,h1⟩:∃t,(pendingOf st)[i]? =some t:=⟨_,Dd (by omega)⟩
 obtain⟨⟨sb,nb,pw'⟩,h2⟩:∃t,(pendingOf st)[i+1]? =some t:=⟨_,Dd hi⟩
 obtain⟨t1,t2,t3,t4,t5,t6⟩:=R.two h1 h2;refine oV O hU nd B h1 h2 t1 t2 t3 (by omega) t5 t6 fun st' B' ep s' o'=>?_;have:=(R.merge h1 h2 s' o').1;refine h st' B' (by rw[ep];exact this) (by rw[ep];exact rR hi) fun i hi=>o' i (.inr (by omega))
theorem nL(O:LtOk M A E s κ U L)(hU:∀x∈a0,U x)(nd:a0.Nodup){Q:Unit->EA->Prop}(B:SB κ a0 st)(hp:pendingOf st= #[])(h:∀st',SB κ a0 st'->Sr L (arrOf st') 0 a0.length->Q () st'):wpS M A E s sortRuns' Q st:=by
 have hs:=B.size;rw[m8];refine CQ<|GS ?_;dsimp only;rw[hs];generalize qy a0.length a0.length 0=mr;refine CQ<|FR (E3 (I:=fun x c st'=>SB κ a0 st'/\∃lo,c=(none,lo)/\x<=lo/\lo<=a0.length/\Rn L (pendingOf st') (arrOf st') lo) (Q:=fun c st'=>SB κ a0 st'/\∃lo,c=(none,lo)/\Rn L (pendingOf st') (arrOf st') a0.length) ?step ?fin ?init) ?post
 case init=>exact⟨B,0,rfl,CN _,Dl _,by rw[hp];exact⟨rfl,fun t ht=>by cases ht⟩⟩
 case fin=>
  rintro c st' ⟨B',lo,rfl,q1,q2,R⟩;have:lo=a0.length:=by omega
  subst this;exact⟨B',_,rfl,R⟩
 case post=>
  rintro c st1 ⟨B1,lo,rfl,R1⟩;dsimp only;refine CQ<|FR (E3 (I:=fun x c st'=>c=(none,())/\SB κ a0 st'/\Rn L (pendingOf st') (arrOf st') a0.length/\((pendingOf st').size<=1\/(pendingOf st').size+x<=a0.length)) (Q:=fun c st'=>c=(none,())/\SB κ a0 st'/\Rn L (pendingOf st') (arrOf st') a0.length/\(pendingOf st').size<=1) ?fstep ?ffin ?finit) ?fpost
  case finit=>
   refine⟨rfl,B1,R1,.inr ?_⟩;have:=(fw R1.ch).1;rw[qz]at this;omega
  case ffin=>
   rintro c st' ⟨rfl,B',R',q⟩;exact⟨rfl,B',R',by omega⟩
  case fstep=>
   rintro x c st' _ hx ⟨rfl,B',R',q⟩;refine CQ<|GS ?_;by_cases z:(pendingOf st').size<=1;·rw[if_pos z];exact CY ⟨rfl,B',R',z⟩
   ·rw[if_neg z];have hb:∀(c:Prop)[Decidable c],(if c then(pendingOf st').size-2-1 else(pendingOf st').size-2)+1<(pendingOf st').size:=fun c _=>by split<;>omega
    refine CQ<|oX O hU nd B' R' (hb _) (CN _) fun st2 B2 R2 e2 _=>?_;exact CY ⟨rfl,B2,R2,by omega⟩
  case fpost=>
   rintro c st' ⟨rfl,B',R',q⟩;refine CY<|h st' B' ?_;have ch:=R'.ch;have so:=R'.so;have hl:=qz<|pendingOf st';generalize rsP (pendingOf st')=l at*
   match l,hl with
   | [],_=>
    have:0=a0.length:=ch;intro i j g1 g2 g3;omega
   | [t],_=>
    obtain⟨c1,c2,c3⟩:=ch;have c4:0+t.2=a0.length:=c3;have:=so t (by simp);rw[c1,c4]at this;exact this
   |_::_::_,hl=>simp at hl;omega
 case step=>
  rintro x c st1 _ hx ⟨B1,lo,rfl,q1,q2,R1⟩;dsimp only;by_cases z:lo≥a0.length
  ·rw[if_pos z];have:lo=a0.length:=by omega
   subst this;exact CY ⟨B1,_,rfl,R1⟩
  rw[if_neg z];refine CQ (zm O hU nd (by omega) (by omega) B1 fun n st2 n1 n2 B2 e2 s2 o2=>?_);dsimp only;by_cases y:n<mr
  ·rw[if_pos y];refine CQ<|IJ<|Fq ⟨rfl,?_⟩;refine CQ (xg O hU nd (by omega) (by omega) B2 s2 fun st3 B3 e3' s3 o3'=>?_);rw[if_neg (by decide)];have e3:pendingOf st3=pendingOf st1:=e3'.trans e2;have o3:∀i,i<lo->at' (arrOf st3) i=at' (arrOf st1) i:=fun i hi=>(o3' i<|.inl hi).trans (o2 i<|.inl hi);refine CQ<|GS ?_;have R3:Rn L (pendingOf st3) (arrOf st3) lo:=by rw[e3];exact R1.keep o3
   cases hb:(pendingOf st3).back? with
   |none=>
    dsimp only;exact CQ (EH (CY ⟨⟨B3.kind,B3.failed,B3.perm⟩,lo+min (a0.length-lo) mr,rfl,by omega,by omega,R3.push (by omega) s3⟩))
   |some t=>
    obtain⟨t1,t2,t3⟩:=t;dsimp only;generalize oW a0.length (2*t1+t2) (2*t1+t2+t2+min (a0.length-lo) mr) a0.length=pw;refine CQ<|FR (E3 (I:=fun y c st'=>c=(none,())/\SB κ a0 st'/\Rn L (pendingOf st') (arrOf st') lo/\Sr L (arrOf st') lo (lo+min (a0.length-lo) mr)) (Q:=fun c st'=>c=(none,())/\SB κ a0 st'/\Rn L (pendingOf st') (arrOf st') lo/\Sr L (arrOf st') lo (lo+min (a0.length-lo) mr)) ?ms ?mf ?mi) ?mp
    case mi=>exact⟨rfl,B3,R3,s3⟩
    case mf=>exact fun c st' h=>h
    case ms=>
     rintro y c st4 _ hy ⟨rfl,B4,R4,s4⟩;refine CQ<|GS ?_;by_cases w:(pendingOf st4).size>1
     ·rw[if_pos w];obtain⟨⟨u1,u2,u3⟩,hu⟩:∃t,(pendingOf st4)[(pendingOf st4).size-2]? =some t:=⟨_,Dd (by omega)⟩
      rw[hu];dsimp only;by_cases v:u3<=pw;·rw[if_pos v];exact CY ⟨rfl,B4,R4,s4⟩
      ·rw[if_neg v];refine CQ (oX O hU nd B4 R4 (by omega) (by omega) fun st5 B5 R5 _ o5=>?_);exact CY ⟨rfl,B5,R5,fun i j g1 g2 g3=>by rw[o5 i g1,o5 j (by omega)];exact s4 i j g1 g2 g3⟩
     ·rw[if_neg w];exact CY ⟨rfl,B4,R4,s4⟩
    case mp=>
     rintro c st4 ⟨rfl,B4,R4,s4⟩;dsimp only;exact CQ (EH (CQ (EH (CY ⟨⟨B4.kind,B4.failed,B4.perm⟩,lo+min (a0.length-lo) mr,rfl,by omega,by omega,(R4.mod _ _).push (by omega) s4⟩))))
  ·rw[if_neg y];have B3:=B2;have s3:=s2;have e3:=e2;have o3:∀i,i<lo->at' (arrOf st2) i=at' (arrOf st1) i:=fun i hi=>o2 i<|.inl hi;refine CQ<|GS ?_;have R3:Rn L (pendingOf st2) (arrOf st2) lo:=by rw[e3];exact R1.keep o3
   cases hb:(pendingOf st2).back? with
   |none=>
    dsimp only;exact CQ (EH (CY ⟨⟨B3.kind,B3.failed,B3.perm⟩,lo+n,rfl,by omega,by omega,R3.push (by omega) s3⟩))
   |some t=>
    obtain⟨t1,t2,t3⟩:=t;dsimp only;generalize oW a0.length (2*t1+t2) (2*t1+t2+t2+n) a0.length=pw;refine CQ<|FR (E3 (I:=fun y c st'=>c=(none,())/\SB κ a0 st'/\Rn L (pendingOf st') (arrOf st') lo/\Sr L (arrOf st') lo (lo+n)) (Q:=fun c st'=>c=(none,())/\SB κ a0 st'/\Rn L (pendingOf st') (arrOf st') lo/\Sr L (arrOf st') lo (lo+n)) ?ms ?mf ?mi) ?mp
    case mi=>exact⟨rfl,B3,R3,s3⟩
    case mf=>exact fun c st' h=>h
    case ms=>
     rintro y c st4 _ hy ⟨rfl,B4,R4,s4⟩;refine CQ<|GS ?_;by_cases w:(pendingOf st4).size>1
     ·rw[if_pos w];obtain⟨⟨u1,u2,u3⟩,hu⟩:∃t,(pendingOf st4)[(pendingOf st4).size-2]? =some t:=⟨_,Dd (by omega)⟩
      rw[hu];dsimp only;by_cases v:u3<=pw;·rw[if_pos v];exact CY ⟨rfl,B4,R4,s4⟩
      ·rw[if_neg v];refine CQ (oX O hU nd B4 R4 (by omega) (by omega) fun st5 B5 R5 _ o5=>?_);exact CY ⟨rfl,B5,R5,fun i j g1 g2 g3=>by rw[o5 i g1,o5 j (by omega)];exact s4 i j g1 g2 g3⟩
     ·rw[if_neg w];exact CY ⟨rfl,B4,R4,s4⟩
    case mp=>
     rintro c st4 ⟨rfl,B4,R4,s4⟩;dsimp only;exact CQ (EH (CQ (EH (CY ⟨⟨B4.kind,B4.failed,B4.perm⟩,lo+n,rfl,by omega,by omega,(R4.mod _ _).push (by omega) s4⟩))))
end
end Wb
namespace Wb
open PySem PySem.W PySem.Calls PyProof.Rows
theorem qF{α β:Type}{f:α->β}:∀{l:List α},(l.map f).Nodup->∀{x y:α},x∈l->y∈l->f x=f y->x=y
 | [],_,x,_,hx,_,_=>by cases hx
 |a::l,nd,x,y,hx,hy,e=>by
  rw[DR,EW]at nd;rcases De.mp hx with q|q
  ·rcases De.mp hy with q' | q';·rw[q,q']
   ·exact absurd (Dw.mpr ⟨y,q',by rw[<-e,q]⟩) nd.1
  ·rcases De.mp hy with q' | q';·exact absurd (Dw.mpr ⟨x,q,by rw[e,q']⟩) nd.1
   ·exact qF nd.2 q q' e
theorem mj{α:Type}(l:List α):(l.zip l)=l.map fun x=>(x,x):=by
 induction l with
 |nil=>rfl
 |cons a l ih=>rw[List.zip_cons_cons,ih];rfl
section
variable{prog:D6}{w:Di}{A:DL}{E:CI->CM->Prop}{s:CM}
theorem Av{key:CI->Int×Int}{vs:List CI}(hp:∀v∈vs,PairAt s.heap v<|key v)(nd:(vs.map key).Nodup):LtOk (model prog w) A E s (tuples' true) (fun x=>x∈vs.zip vs) (fun x y=>lZ (key x.1)<|key y.1) where
 lt:=fun x y st Q hx hy kd h=>by
  have h1:=hp _ (Gq hx).2;have h2:=hp _ (Gq hy).2;rw[lt'_eq];refine CQ<|GS<|CQ<|IJ<|G4 ?_;rw[kd];exact xf h1 h2 ⟨rfl,CY h⟩
 tr:=fun x y z _ _ _ h1 h2=>zl h1 h2
 tot:=fun x y hx hy hne h=>xc (fun e=>hne (by
  have e1:=qF nd (Gq hx).2 (Gq hy).2 e;have:=(Gq hx).1;have:=(Gq hy).1;exact HK e1 (by simp_all))) h
 irr:=fun x=>qw _
theorem nM{a:Addr}{vs:List CI}{key:CI->Int×Int}{n:Nat}{P:PySem.Fin->CM->Prop}(ho:s.heap.get? a=some (seqObj "list" vs.toArray n))(hp:∀v∈vs,PairAt s.heap v<|key v)(nd:(vs.map key).Nodup)(hl:vs.length<=sizeLine)
  (h:∀out:List CI,out.Perm vs->(out.map key).Pairwise (fun x y=>lZ x y=true)->P (.done<|.ret .none) {s with heap:=sortedHeap s.heap a vs out.toArray}):
  wpAny (model prog w) A (Ej.«list.sort» ⟨[.ref a],[]⟩) P E s:=by
 rw[list_sort_plain];have ha:a<s.heap.objs.size:=CV ho;refine CD<|listItems_at ho rfl ?_;refine CD (JK ho rfl ?_ (by rw[D7];exact hl)<|Dl _);obtain⟨e1,ho1⟩:∃e1,(s.heap.update a<|Fp fun _=> #[]).get? a=some (seqObj "list" #[] e1):=⟨_,get?_update_seq ho<|fun _=> #[]⟩
 refine CD<|KD ho1 rfl ?_;refine CD (L4 ?_ (by show vs.length<=_;exact hl));refine CD<|JM ?_<|Dl _;refine E9 ?_;have ho6:(((s.heap.update a<|Fp fun _=> #[]).push (seqObj "tuple" vs.toArray 0)).push (seqObj "list" #[] 0)).get? a=some (seqObj "list" #[] e1):=by
  rw[Ij _ _ _ (by rw[L8,Ku];exact D8<|GQ ha),Ij _ _ _ (by rw[Ku];exact D8 ha)];exact ho1
 show wpAny (model prog w) A _ P E {s with heap:=((s.heap.update a<|Fp fun _=> #[]).push (seqObj "tuple" vs.toArray 0)).push (seqObj "list" #[] 0)};dsimp only;by_cases h2:vs.toArray.size<2
 ·rw[if_pos h2,if_pos h2];refine CD<|CH ?_;rw[StateT.run_pure];refine CD<|CH ?_;dsimp only;refine CD<|KD ho6 rfl ?_;have e:(arrOf<|Gi general' (vs.toArray.zip vs.toArray) #[] 7 none).map (·.2)=vs.toArray:=by
   show(vs.toArray.zip vs.toArray).map (·.2)=_;apply Kv.mp;simp only[Kr,Array.toList_zip,Kw,CN]
  rw[e];refine CD (JK ho6 rfl ?_ (Dl _) (by rw[D7];exact Kg hl));simp only[bne_self_eq_false,Dp,if_false];refine CH<|h vs (.refl _) ?_;have h3:vs.length<2:=by simpa using h2
  match vs,h3 with
  | [],_=>exact G8
  | [v],_=>exact GG _ _
  |_::_::_,h3=>simp at h3;omega
 ·rw[if_neg h2,if_neg h2];have hp2:∀v∈vs,PairAt (((s.heap.update a<|Fp fun _=> #[]).push (seqObj "tuple" vs.toArray 0)).push (seqObj "list" #[] 0)) v (key v):=fun v hv=>by
   obtain⟨b,o,t1,t2,m,q2,q3,q4,q5⟩:=hp v hv;have hb:b≠a:=fun z=>by subst z;rw[ho]at q3;cases q3;exact absurd q4 (by show ¬(GZ "list"=GZ "tuple");decide)
   exact⟨b,o,t1,t2,m,q2,CL _<|CL _<|(GP _ _<|Fd hb).trans q3,q4,q5⟩
  obtain⟨fs,l1,l2,l3⟩:=qx (h:=((s.heap.update a<|Fp fun _=> #[]).push (seqObj "tuple" vs.toArray 0)).push (seqObj "list" #[] 0)) (vs:=vs) (ks:=vs.map key) ⟨by simp,fun i v e=>⟨key v,by rw[CS,e];rfl,hp2 v<|Dj e⟩⟩;have h3:2<=vs.length:=by simp at h2;exact h2
  refine CD (kat_kind (T:=.type "int") l2 (by rw[l1];omega) (fun v hv=>?_) (by decide) ?_)
  ·obtain⟨i,t,rfl⟩:=l3 v hv;exact .now
  rw[show(GZ "int" != GZ "tuple")=true from by decide];have O:=Av (prog:=prog) (w:=w) (A:=A) (E:=E) (s:={s with heap:=((s.heap.update a<|Fp fun _=> #[]).push (seqObj "tuple" vs.toArray 0)).push (seqObj "list" #[] 0)}) hp2 nd;have za:(vs.toArray.zip vs.toArray).toList=vs.zip vs:=by simp
  have ndz:(vs.zip vs).Nodup:=by
   rw[mj,DQ,FE];have nv:vs.Nodup:=DQ.mpr ((FE.mp<|DQ.mp nd).imp fun h e=>h (by rw[e]));exact(DQ.mp nv).imp fun h e=>h<|congrArg Prod.fst e
  have lz:(vs.zip vs).length=vs.length:=by simp
  refine CD (DZ (nL (Q:=fun _ st'=>SB (tuples' true) (vs.zip vs) st'/\Sr (fun x y=>lZ (key x.1)<|key y.1) (arrOf st') 0 (vs.zip vs).length) O (fun x hx=>hx) ndz (st:=Gi (tuples' true) (vs.toArray.zip vs.toArray) #[] 7 none) ⟨rfl,rfl,by show(vs.toArray.zip vs.toArray).toList.Perm _;rw[za]⟩ rfl fun st' B S=>⟨B,S⟩) ?_ fun _ _ e=>e);rintro ⟨⟨⟩,st'⟩ s' ⟨rfl,B,S⟩;dsimp only at B S ⊢;have hz:=B.size;have mem:∀x∈(arrOf st').toList,x.1=x.2:=fun x hx=>(Gq<|B.perm.mem_iff.mp hx).1;refine CD<|KD ho6 rfl ?_;refine CD (JK ho6 rfl ?_ (Dl _) (by rw[Array.size_map,hz,lz];exact Kg hl));rw[B.failed];simp only[bne_self_eq_false,Dp,if_false];have eo:(arrOf st').map (·.2)=((arrOf st').toList.map fun x:CZ=>x.2).toArray:=by apply Kv.mp;simp
  rw[eo];refine CH<|h ((arrOf st').toList.map fun x:CZ=>x.2) ?_ ?_
  ·have:=B.perm.map (·.2);rw[Kw<|CN _]at this;exact this
  ·rw[EM,FE,EY];intro i j hi hj hij;have hj2:j<(arrOf st').size:=by simpa using hj
   have:=S i j (Dl _) hij (by omega);rw[eY (by simpa using hi),eY (by simpa using hj)]at this;show lZ (key ((arrOf st').toList[i]).2) (key ((arrOf st').toList[j]).2)=true;rw[<-mem _ (F3 hi),<-mem _ (F3 hj)];exact this
end
section
variable{prog:D6}{w:Di}{K:Type}[DecidableEq K]{knd:KeyKind prog w K}{A:DL}{E:CI->CM->Prop}{s:CM}
theorem rS{a x:Addr}{o:Obj}{es:Array (Int×CI)}{ep:Nat}{t:E4}{led:Bool}{ks:List (List K)}{kx:List K}(hu:A.units+1<cLine)(S:SetT knd s.heap a led ks o es ep t)(hn:es.size<1000)(hx:Fu knd s.heap kx x)(hI:∀k∈kx,∀v,knd.is k v=true->∃i t,v=.int i t){Q:CI->CM->Prop}
  (h1:kx∈ks->∀tk,Q .none {s with toks:=tk}) (h2:kx∉ks->∀tk h' ks' o' es' ep' t',DD a s.heap h'->SetT knd h' a led ks' o' es' ep' t'->ks'.Perm (kx::ks)->es'.toList.Perm ((tupleKeyHash knd kx,.ref x)::es.toList)->Q .none {s with heap:=h',toks:=tk}):
  wpAny (model prog w) A (call (.builtin "set.add") [.ref a,.ref x]) Q E s:=by
 have hT:s.TypeIs (.ref a) "set":=⟨o,S.at_,S.ex.1⟩
 refine DA F.slot_set_add hT F.entry_set_add ?_<|F.args_set_add_2 _ _;unfold Ej.«set.add» L9;simp only[List.isEmpty_nil,bind_assoc];unfold LQ setAdd;refine CD<|CH ?_
 try dsimp only
 refine CD<|CH ?_
 try dsimp only
 refine CD ?_;refine E9 ?_;refine CD (wpAny_pyHash_tuple (show A.in1.units<cLine from hu) hx ?_);unfold setAddHashed;refine E9 (x6 (s:={s with toks:=s.toks+(kx.length+1)}) (show A.in1.units<cLine from hu) S hn hx hI (fun hm=>?_) fun hm h' ks' o' es' ep' t' a1 a2 a3 a4=>?_)
 ·show wpAny _ _ (ret E5) _ _ _;exact CH ⟨_,rfl,h1 hm _⟩
 ·show wpAny _ _ (ret E5) _ _ _;exact CH ⟨_,rfl,h2 hm _ h' ks' o' es' ep' t' a1 a2 a3 a4⟩
end
end Wb
namespace L2
open PySem PySem.Spec PyProof.Rows Wb
structure TupsH(prog:D6)(w:Di)(K:CG)(H:Hp)(es:List (Int×CI))(ks:List (Int×Int)):Prop where
 len:es.length=ks.length
 at_:∀(i:Nat)(e:Int×CI),es[i]? =some e->∃k b,ks[i]? =some k/\e.2=.ref b/\SqT K H b [.int k.1,.int k.2]/\e.1=tupleKeyHash (mixKind prog w) [.inl k.1,.inl k.2]
def SetH(prog:D6)(w:Di)(K:CG)(H:Hp)(o:Obj)(ks:List (Int×Int)):Prop:=∃es ep t,SetR w o es ep t/\TupsH prog w K H es.toList ks/\ks.Nodup
def iW(k:Int×Int):List Key:=[.inl k.1,.inl k.2]
theorem ji{a b:Int×Int}(h:iW a=iW b):a=b:=by
 unfold iW at h;injection h with h1 h2;injection h2 with h2 _;injection h1 with h1;injection h2 with h2;exact HK h1 h2
def rV:List Key->Int×Int
 | [.inl a,.inl b]=>(a,b)
 |_=>(0,0)
theorem qG(k:Int×Int):rV (iW k)=k:=rfl
noncomputable def yn(elt:Expr)(env:Env)(acc:CI):Sem Unit:=do
 let v <-eval elt env
 standAt elt.pos
 let _ <-call (.builtin "set.add") [acc,v]
def oY(prog:D6)(w:Di)(K:CG)(te:TE):TB:=fun D σ H N=>te σ H fun y H'=>∃G o ks b k,Same G H'/\H' D=some (XO D o)/\SetH prog w K G o ks/\ks.length<1000/\y=.ref b/\SqT K G b [.int k.1,.int k.2]/\(k∈ks->N H')/\(k∉ks->∀o' ks',SetH prog w K G o' ks'->ks'.Perm (k::ks)->N (cI H' D<|XO D o'))
section
variable{Y X:Cx}{elt:Expr}{te:TE}
theorem eZ{pins:List (Addr×Obj)}{σ:St}{H:Hp}{s:CM}{b:Addr}{k:Int×Int}(I:Inv X pins σ H s)(h:SqT X.K H b [.int k.1,.int k.2]):Fu (mixKind X.prog X.w) s.heap (iW k) b:=by
 obtain⟨its,r,⟨o,h1,h2,n,h3⟩,_⟩:=I.tuple h;exact⟨o,its.toArray,n,h1,h2,h3,by simpa using kU (ks:=iW k) r⟩
theorem BH{k:Int×Int}:∀q∈iW k,∀v,(mixKind X.prog X.w).is q v=true->∃i t,v=.int i t:=fun q hq v hv=>by
 have:q=.inl k.1\/q=.inl k.2:=by simpa [iW] using hq
 rcases bM (show fW q v=true from hv)with⟨i,t,e1,rfl⟩|⟨x,t,e1,rfl⟩
 ·exact⟨i,t,rfl⟩
 ·rcases this with z|z<;>(rw[z]at e1;cases e1)
theorem zp(hxe:Y.xe=fun _ _=>False)(hu:Y.A.units+1<cLine)(he:PE Y elt te):PB Y (yn elt Y.env) (oY Y.prog Y.w Y.K te):=by
 intro D pins s σ H N I h;have he':=he pins s σ H _ I h;rw[hxe]at he';refine CD<|bO he' fun u s1 zz=>?_;obtain⟨y,H1,I1,r1,G,o,ks,b,k,eG,hD,hS,hl,ey,hb,h1,h2⟩:=zz;subst ey;obtain rfl:u=.ref b:=r1;refine CD<|Fm ?_;obtain⟨es,ep,t,R,T,nd⟩:=hS;have hDo:s1.heap.get? D=some o:=(I1.hok D _ hD).1;have hsz:es.size=ks.length:=by have:=T.len;simpa using this
 have U:TupsOf (mixKind Y.prog Y.w) s1.heap es.toList (ks.map iW):=⟨by rw[D5];exact T.len,fun i e hi=>by
  obtain⟨k,b,q1,q2,q3,q4⟩:=T.at_ i e hi;exact⟨iW k,b,by rw[CS,q1];rfl,q2,eZ I1 (Eu eG q3),q4⟩⟩
 have S:SetT (mixKind Y.prog Y.w) s1.heap D (!Y.w.params.followText "set-order") (ks.map iW) o es ep t:=⟨hDo,R.ex,R.dat,R.tab,U,MM _ (fun a b hab e=>hab<|ji e) nd,R.led,R.pl⟩
 refine CD (rS hu S (by omega) (eZ I1<|Eu eG hb) BH (fun hm tk=>?_) fun hm tk h' ks' o' es' ep' t' a1 a2 a3 a4=>?_)
 ·obtain⟨k',m1,m2⟩:=Dw.mp hm;cases ji m2;exact CH ⟨σ,H1,I1.kept<|fun _ _ z=>z,fun _ _ e=>e,h1 m1⟩
 ·have nm:k∉ks:=fun z=>hm<|Dw.mpr ⟨k,z,rfl⟩;have pk:(ks'.map rV).Perm (k::ks):=by
   have:=a3.map rV;rw[DR,EM,show(rV∘iW)=id from funext qG,Mn,qG]at this;exact this
  have TH:TupsH Y.prog Y.w Y.K G es'.toList (ks'.map rV):=⟨by rw[D5];exact a2.tup.len,fun i e hi=>by
   obtain⟨kk,b',q1,q2,q3,q4⟩:=a2.tup.at_ i e hi;have src:∃k0:Int×Int,SqT Y.K G b' [.int k0.1,.int k0.2]:=by
    rcases De.mp (a4.mem_iff.mp<|Dj hi)with z|z;·rw[z]at q2;cases q2;exact⟨k,hb⟩
    ·obtain⟨j,hj,ej⟩:=EK.mp z;obtain⟨k0,b0,r1,r2,r3,r4⟩:=T.at_ j e (by rw[CK hj,ej]);rw[r2]at q2;cases q2;exact⟨k0,r3⟩
   obtain⟨k0,hk0⟩:=src;have e0:kk=iW k0:=q3.inj (nB (eZ I1 (Eu eG hk0)) hDo R.dat a1);subst e0;exact⟨k0,b',by rw[CS,q1];rfl,q2,hk0,q4⟩⟩
  refine CH ⟨σ,_,?_,fun _ _ e=>e,h2 nm o' (ks'.map rV) ⟨es',ep',t',⟨a2.ex,a2.dat,a2.tab,a2.led,a2.pl⟩,TH,pk.nodup_iff.mpr<|EW.mpr ⟨nm,nd⟩⟩ pk⟩;exact I1.write (x:=D) (e:=D) (by rw[hD];exact FX) (.inl rfl) (fun b u hb' z=>(a1.2 b hb').trans z) ⟨o',a2.at_⟩<|Mq a2.at_
theorem uJ{pins:List (Addr×Obj)}{σ:St}{H:Hp}{s:CM}{b:Addr}{k l:Int×Int}(I:Inv X pins σ H s)(h:SqT X.K H b [.int k.1,.int k.2])(h':SqT X.K H b [.int l.1,.int l.2]):k=l:=by
 have:=I.tuple_inj h h';injection this with e1 e2;injection e2 with e2 _;injection e1 with e1;injection e2 with e2;exact HK e1 e2
open Classical in
noncomputable def cZ(K:CG)(H:Hp)(e:Int×CI):Int×Int:=if h:∃k:Int×Int,∃b,e.2=.ref b/\SqT K H b [.int k.1,.int k.2]then h.choose else(0,0)
theorem jj{pins:List (Addr×Obj)}{σ:St}{G H:Hp}{s:CM}{b:Addr}{k:Int×Int}{e:Int×CI}(eG:Same G H)(I:Inv X pins σ H s)(h:SqT X.K G b [.int k.1,.int k.2])(he:e.2=.ref b):cZ X.K G e=k:=by
 have ex:∃k:Int×Int,∃b,e.2=.ref b/\SqT X.K G b [.int k.1,.int k.2]:=⟨k,b,he,h⟩
 unfold cZ;rw[dif_pos ex];obtain⟨b',e1,e2⟩:=ex.choose_spec;rw[he]at e1;cases e1;exact uJ I (Eu eG e2)<|Eu eG h
def zq:CI->V
 | .ref b=>.ref b
 |_=>.non
def uK(prog:D6)(w:Di)(K:CG):List V->Hp->VK->Prop:=fun xs H Q=>∃(G:Hp)(p:Addr)(o:Obj)(ks:List (Int×Int)),xs=[.ref p]/\Same G H/\H p=some (XO p o)/\SetH prog w K G o ks/\ks.length<=1000/\∀(q:Addr)(us:List V)(ks':List (Int×Int)),H q=none->ks'.Perm ks->ks'.Pairwise (fun a b=>lZ a b=true)->us.length=ks'.length->(∀(i:Nat)(v:V)(k:Int×Int),us[i]? =some v->ks'[i]? =some k->∃b,v=.ref b/\SqT K G b [.int k.1,.int k.2])->Q (.ref q) (cI H q<|.lst us)
theorem mm(hc:X.calm=true):dn X (.builtin "sorted") (uK X.prog X.w X.K):=by
 intro pins s σ H xs us Q I r h;obtain⟨G,p,o,ks,rfl,eG,hp,⟨es,ep,t,R,T,nd⟩,h64,q⟩:=h;obtain⟨u,rfl,rx⟩:=dY r;cases rx;have hpo:s.heap.get? p=some o:=(I.hok p _ hp).1;have hsz:es.size=ks.length:=by have:=T.len;simpa using this
 have op:=i9 X.w p ep es;have osz:(dD X.w p ep es).size=es.size:=by have:=op.length_eq;simpa using this
 have ek:es.toList.map (cZ X.K G)=ks:=by
  apply El;intro i;rw[CS];by_cases z:i<es.toList.length
  ·obtain⟨k,b,q1,q2,q3,q4⟩:=T.at_ i es.toList[i] (CK z);rw[CK z,q1];exact congrArg some<|jj eG I q3 q2
  ·rw[DK (by omega),DK (by have:=T.len;omega)];rfl
 have mem:∀e∈(dD X.w p ep es).toList,∃b,e.2=.ref b/\SqT X.K G b [.int (cZ X.K G e).1,.int (cZ X.K G e).2]:=fun e he=>by
  obtain⟨j,hj,ej⟩:=EK.mp<|op.mem_iff.mp he;obtain⟨k0,b0,r1,r2,r3,r4⟩:=T.at_ j e (by rw[CK hj,ej]);exact⟨b0,r2,by rw[jj eG I r3 r2];exact r3⟩
 have kzp:((dD X.w p ep es).toList.map (cZ X.K G)).Perm ks:=by
  have:=op.map<|cZ X.K G;rw[ek]at this;exact this
 refine Gr kind_sorted plain_sorted entry_sorted (args_sorted1 _) ?_;unfold Ej.«sorted»;refine CD (m:=checkCount "sorted" 1 1 _)<|CH ?_;refine CD (PySem.W.kdu_collect (A:=X.A.in1) (xb (a:=p) R) (I.ok.hd hc) hpo (by rw[Dz];omega) fun h' tk acc hk hacc=>?_);have av:acc.toList=(dD X.w p ep es).toList.map (·.2):=by
  apply El;intro i;rw[CS];by_cases z:i<acc.size
  ·have z2:i< acc.toList.length:=by simpa using z
   obtain⟨e,q1,q2⟩:=hacc.2 i acc.toList[i] (by rw[<-CT];exact CK z2);rw[CK z2,CT,q1,q2];rfl
  ·have:=hacc.1;rw[DK (by simp;omega),DK (by simp;omega)];rfl
 have hal:acc.toList.length=ks.length:=by rw[Dh,hacc.1,hsz]
 have I':=I.kept (t':=tk) hk;refine CD (JM ?_ (by rw[hal,Dz];omega));have hoL:(h'.push<|seqObj "list" acc.toList.toArray 0).get? h'.objs.size=some (seqObj "list" acc.toList.toArray 0):=CU _ rfl;have src:∀v∈acc.toList,∃b,v=.ref b/\SqT X.K G b [.int (cZ X.K G (0,v)).1,.int (cZ X.K G (0,v)).2]:=fun v hv=>by
  rw[av]at hv;obtain⟨e,he,rfl⟩:=Dw.mp hv;obtain⟨b,h2,h3⟩:=mem e he;exact⟨b,h2,by rw[show cZ X.K G (0,e.2)=cZ X.K G e from rfl];exact h3⟩
 have km:acc.toList.map (fun v=>cZ X.K G (0,v))=(dD X.w p ep es).toList.map (cZ X.K G):=by rw[av,EM];rfl
 refine CD (E9 (DA La ⟨_,hoL,rfl⟩ KO (nM (key:=fun v=>cZ X.K G (0,v)) hoL (fun v hv=>?_) (by rw[km];exact kzp.nodup_iff.mpr nd) (by rw[hal,Dz];omega) fun out op' pw=>⟨_,rfl,?_⟩)<|Lb _))
 ·obtain⟨b,rfl,h3⟩:=src v hv;obtain⟨its,rr,⟨ob,g1,g2,n,g3⟩,_⟩:=I'.tuple<|Eu eG h3;obtain⟨u1,u2,e1,⟨t1,e2⟩,t2,e3⟩:∃u1 u2,its=[u1,u2]/\RelV (.int (cZ X.K G (0,.ref b)).1) u1/\RelV (.int (cZ X.K G (0,.ref b)).2) u2:=by
   cases rr with
   |cons a b=>cases b with
    |cons c d=>cases d with
     |nil=>exact⟨_,_,rfl,a,c⟩
  subst e1;rw[e2,e3]at g3;exact⟨b,ob,t1,t2,n,rfl,CL _ g1,g2,g3⟩
 obtain⟨e,he⟩:=LS (h:=h'.push<|seqObj "list" acc.toList.toArray 0) (a:=h'.objs.size) (vs:=acc.toList) (out:=out.toArray) (n:=0) hoL;have at_:∀v∈out,∃b,v=.ref b/\SqT X.K G b [.int (cZ X.K G (0,v)).1,.int (cZ X.K G (0,v)).2]:=fun v hv=>src v<|op'.mem_iff.mp hv;have pkz:(out.map fun v=>cZ X.K G (0,v)).Perm ks:=by
  have:=op'.map fun v=>cZ X.K G (0,v);rw[km]at this;exact this.trans kzp
 have ol:out.length=ks.length:=by rw[op'.length_eq];exact hal
 refine CH ⟨_,rfl,.ref h'.objs.size,_,I'.laid (t':=tk) (fun b o z=>?_) (CN _) (show ObjOk X.prog X.w _ _ _ (.lst<|out.map zq)from⟨by rw[D5,Dz];omega,out,e,?_,he⟩),rfl,q _ _ (out.map fun v=>cZ X.K G (0,v)) (I'.hok.fresh<|CN _) pkz pw (by rw[D5,D5]) fun i v k h1 h2=>?_⟩
 ·show(sortedHeap _ _ _ _).get? b=some o;rw[Lc (D8<|CV z) (by rw[L8];exact GQ<|CV z)];exact CL _ z
 ·refine gY _ _ (by rw[D5]) fun j x u hx hu=>?_;rw[CS,hu]at hx;cases hx;obtain⟨b,rfl,_⟩:=at_ u<|Dj hu;rfl
 ·rw[CS]at h1 h2;obtain⟨u,hu,rfl⟩:=Ds.mp h1;rw[hu]at h2;cases h2;obtain⟨b,rfl,h4⟩:=at_ u<|Dj hu;exact⟨b,rfl,h4⟩
end
def oZ(w:Di):Obj:={cls:=.type "set",dict:=none,data:=.set #[] 0<|.fresh 0 0<|!w.params.followText "set-order",slots:= #[]}
theorem xh(prog:D6)(w:Di)(K:CG)(H:Hp):SetH prog w K H (oZ w) []:=
 ⟨#[],0,.fresh 0 0<|!w.params.followText "set-order",⟨⟨rfl,rfl,rfl⟩,rfl,⟨⟨rfl,rfl,fun a b _ hb=>by simp[Ld]at hb,fun j⟨a,ha,_⟩=>by simp[Ld]at ha,.inl rfl,fun i h e=>by simp at e⟩,by show 0*5<7*3;decide⟩,rfl,rfl⟩,⟨rfl,fun i e he=>by simp at he⟩,G8⟩
def p4(w:Di)(cap:List (Option Nat))(wi:TI)(g:TG)(tf:TT)(tb:TB):TE:=fun σ H Q=>wi σ H fun J H1=>∀D,H1 D=none->rG g tf tb D (bu cap σ) (cI H1 D<|XO D<|oZ w) (fun H'=>Q (.ref D) H') J
section
variable{X:Cx}{scope:G1}{N:List Str}{cap:List (Option Nat)}{tg iter:Expr}{ifs:List Expr}{pos:Pos}{wi:TI}{g:TG}{tf:TT}{tb:TB}{body:Env->CI->Sem Unit}
theorem uL(S:CompScope X scope N cap)(hc:X.calm=true){elt:Expr}{gs:List Iw}(hi:PI X tg iter wi)
  (hg:∀s H C fp,PG (aA X scope N s H C fp) tg g) (hf:∀s H C fp,sE (aA X scope N s H C fp) ifs tf) (hb:∀s H C fp,PB (aA X scope N s H C fp) (body (aA X scope N s H C fp).env) tb)
  (ht:∀env it acc,compTurn (.SetComp elt (⟨tg,iter,ifs,0⟩::gs) scope pos) 0 it acc env=dR tg iter ifs (body env acc) it env (.compLoop (.SetComp elt (⟨tg,iter,ifs,0⟩::gs) scope pos) 0 it acc env):=by intro _ _ _;rfl)
  (hs:∀x,foldedSetIterable iter X.env x=pure x:=by intro _;rfl):PE X (.SetComp elt (⟨tg,iter,ifs,0⟩::gs) scope pos) (p4 X.w cap wi g tf tb):=by
 intro pins s σ H Q I h;rw[arm_eval_SetComp];have frc:∀x∈scope.names,x.2=.free->∃c,X.env.cells.lookup x.1=some c:=fun x hx hk=>I.ok.has x.1<|S.free x hx hk;refine FF (use:=none) rfl hs (dM frc) S.kind (fF S)<|bO (hi pins s σ H _ I h) fun v s1 h1=>bO h1 fun itv s2 h2=>?_;obtain⟨it,fp,tn,J,H2,rfl,I2,T,st2,f2,w⟩:=h2;unfold newSet setsByText;refine CD<|CD<|FQ<|CH ?_;refine DX ?_;have hz:H2 s2.heap.objs.size=none:=I2.hok.fresh<|CN _;have I3:Inv X pins σ (cI H2 s2.heap.objs.size<|XO s2.heap.objs.size<|oZ X.w) {s2 with heap:=s2.heap.push (oZ X.w)}:=
  I2.laid (a:=s2.heap.objs.size) (t':=s2.toks) (fun _ _ q=>CL _ q) (CN _) (Mq<|CU _ rfl)
 have nD:∀b∈fp,b≠s2.heap.objs.size:=fun b hb=>by
  obtain⟨o,e,_⟩:=T.obj _ _ st2 b hb;exact D8<|CV e
 have f3:∀b∈fp,FpOk X pins (cI H2 s2.heap.objs.size<|XO s2.heap.objs.size<|oZ X.w) b:=fun b hb=>⟨by rw[aD<|nD b hb];exact(f2 b hb).1,(f2 b hb).2⟩
 refine jX (RR:=fun C=>compPost (model X.prog X.w) X.A X.xe none (EP X pins σ Q) (.ref s2.heap.objs.size) C) S hc MR rfl hg hf hb ht I3 T (T.keep _ _ _ st2 fun b hb o e=>CL _ e) f3 (w _ hz) fun C σ' H' s' hC I' q=>?_;obtain⟨m,hn,_⟩:=I'.loc;exact⟨m,hn,fun h' hs'=>⟨.ref _,H',l7 I3 f3 hC I' hs',rfl,q⟩⟩
variable{kx vx elt tg2 iter2:Expr}{ifs2:List Expr}{wi2:TI}{g2:TG}{tf2:TT}{te:TE}
theorem rW(hu:X.A.units+1<cLine)(S:CompScope X scope N cap)(hc:X.calm=true)(hi:PI X tg iter wi)
  (hg:∀s H C fp,PG (aA X scope N s H C fp) tg g) (hf:∀s H C fp,sE (aA X scope N s H C fp) ifs tf)
  (hi2:∀s H C fp,PI (aA X scope N s H C fp) tg2 iter2 wi2) (hg2:∀s H C fp,PG (aA X scope N s H C fp) tg2 g2) (hf2:∀s H C fp,sE (aA X scope N s H C fp) ifs2 tf2) (he:∀s H C fp,PE (aA X scope N s H C fp) elt te)
  (hs:∀x,foldedSetIterable iter X.env x=pure x:=by intro _;rfl) (hs2:∀env x,foldedSetIterable iter2 env x=pure x:=by intro _ _;rfl):PE X (.SetComp elt [⟨tg,iter,ifs,0⟩,⟨tg2,iter2,ifs2,0⟩] scope pos) (p4 X.w cap wi g tf<|zd wi2 g2 tf2<|oY X.prog X.w X.K te):=
 uL S hc hi hg hf (body:=wW iter2 (.SetComp elt [⟨tg,iter,ifs,0⟩,⟨tg2,iter2,ifs2,0⟩] scope pos) 1)
  (fun s H C fp=>ze (Y:=aA X scope N s H C fp) hc rfl (hi2 s H C fp) (hg2 s H C fp) (hf2 s H C fp) (body:=yn elt) (zp (Y:=aA X scope N s H C fp) rfl hu<|he s H C fp) MR rfl (fun _ _ _=>rfl)<|hs2 _) (fun _ _ _=>by rw[rH];rfl) hs
end
end L2
namespace Wb
open PySem L2 Mi
section
variable{Er:Nat->Prop}{α:Type}{prog:D6}{w:Di}{K:CG}{W W' W0 Wb W1 W2:Wd}{σ:St}{te:TE}
structure OwS2(prog:D6)(w:Di)(K:CG)(W:Wd)(p:Addr)(ks:List (Int×Int)):Prop where
 g:W.G p=none
 h:∃o ks0,W.H p=some (XO p o)/\SetH prog w K W.G o ks0/\ks0.Perm ks
theorem rX{G G':Hp}{o:Obj}{ks:List (Int×Int)}(h:SetH prog w K G o ks)(e:Same G G'):SetH prog w K G' o ks:=
 let ⟨es,ep,t,R,T,nd⟩:=h
 ⟨es,ep,t,R,⟨T.len,fun i x hx=>let ⟨k,b,q1,q2,q3,q4⟩:=T.at_ i x hx;⟨k,b,q1,q2,Eu e q3,q4⟩⟩,nd⟩
theorem OwS2.mono{p:Addr}{ks:List (Int×Int)}(o:OwS2 prog w K W p ks)(e:Ext W W'):OwS2 prog w K W' p ks:=by
 obtain⟨x,k0,a,b,c⟩:=o.h;exact⟨by rw[e.k p (by rw[a];exact fun z=>nomatch z)];exact o.g,x,k0,e.h _ _ a,rX b e.g,c⟩
theorem zr{me:Res (Int×Int)}{D:Addr}(eb:Ext Wb W)(hD:Wb.H D=none)(h:EV Er te σ W (sh<|isT2 K isI isI) me):BV Er (oY prog w K te) σ Wb W (OwS2 prog w K) D (fun ks=>me.bind fun y=>rJ ks y):=fun W1 ks N e1 o k=>
 h W1 e1 _ ((CC k).imp fun y ky v W2 e2 hv=>by
  obtain⟨h3,h4⟩:=aW ky;have o2:=o.mono e2;obtain⟨ob,ks0,q1,q2,q3⟩:=o2.h;obtain⟨p,x1,x2,rfl,t1,r1,r2⟩:=hv;cases r1;cases r2;refine⟨W2.G,ob,ks0,p,y,W2.ok,q1,q2,by rw[q3.length_eq];exact h3,rfl,t1,fun hm=>?_,fun hm o' ks' s' p'=>?_⟩
  ·rw[if_pos<|q3.mem_iff.mp hm]at h4;exact h4 W2 e2.g ((eb.trans e1).trans e2) o2
  ·rw[if_neg (fun z=>hm (q3.mem_iff.mpr z))]at h4;exact h4 (W2.mut D (XO D o') o2.g) e2.g (((eb.trans e1).trans e2).mut hD o2.g) ⟨o2.g,o',ks',ax,s',p'.trans (.cons _ q3)⟩)
theorem uM{R:Rp α}{cap:List (Option Nat)}{wi:TI}{g:TG}{tf:TT}{t:TB}{mi:Res (List α)}{f:α->List (Int×Int)->Res (List<|Int×Int)}(hi:IV Er wi σ W R mi)
  (hs:∀Wb D W2 a v s(M:Hp->Prop),Same W.G W2.G->Ext W Wb->Wb.H D=none->Ext Wb W2->OwS2 prog w K W2 D s->R W2.G a v->(f a s).OkE Er (fun s'=>∀W',Same W2.G W'.G->Ext Wb W'->OwS2 prog w K W' D s'->M W'.H)->g v (bu cap σ) W2.H fun σ2 H2=>Keep (bu cap σ) σ2/\tf σ2 H2 fun b H3=>if b=true then t D σ2 H3 M else M H3):
  EVo Er (dZ (uK prog w K)<|ai (p4 w cap wi g tf t) aL) σ W (isT2 K isI isI) ((mi.bind fun xs=>bE f xs []).bind fun ks=>ug ks):=fun W1 e1 Q k=>by
 refine hi W1 e1 _<|(CC<|CC k).imp fun xs kx J W2 e2 hy D hD=>?_;refine lV (W:=W2) (W1:=W2.mut D (XO D<|oZ w)<|W2.gnone hD) (Wb:=W2) (O:=OwS2 prog w K) (s0:=[]) hy (.inr<|.refl _) (.own _ hD) ⟨W2.gnone hD,oZ w,[],ax,xh ..,.refl _⟩ (fun W3 a v s M e3 eb3 o3 r k3=>hs W2 D W3 a v s M ((e1.trans e2).g.trans e3) (e1.trans e2) hD eb3 o3 r k3) (fun _ _ _ e o=>o.mono e) ?_;exact kx.imp fun ks kk W' z1 z2 z3=>by
  obtain⟨h3,h4⟩:=aW kk;obtain⟨o,ks0,q1,q2,q3⟩:=z3.h;refine⟨W'.G,D,o,ks0,rfl,W'.ok,q1,q2,by rw[q3.length_eq];exact h3,fun q us ks1 hq p1 p2 l1 at_=>?_⟩;have e:ks1=du ks:=gV (p1.trans q3) (p2.imp fun{a b}h=>by rw[ic]at h;rw[i5];omega);rw[<-e]at h4;exact jP (W2:=W') (vs:=us) ⟨l1,fun i v m e1 e2=>by
   obtain⟨b,rfl,hb⟩:=at_ i v m e1 e2;exact⟨b,_,_,rfl,hb,rfl,rfl⟩⟩ (e2.trans z2) h4 q hq
end
end Wb
namespace L2
open PySem PySem.Spec PyProof.Rows Wb
def Aw:R2:=fun x y H Q=>∃p q xs,x=.ref p/\y=.ref q/\H p=some (.lst xs)/\H q=some (.lst [])/\Q (.bl xs.isEmpty) H
theorem p5{X:Cx}(hu:X.A.units<cLine):OpR X (compareOp .Eq) Aw:=by
 intro pins s σ H x y v u Q I rx ry h;obtain⟨p,q,xs,rfl,rfl,h1,h2,hq⟩:=h;cases rx;cases ry;obtain⟨i1,r1,t1,z1⟩:=I.list<|EB (K:=X.K) h1;obtain⟨i2,r2,t2,z2⟩:=I.list<|EB (K:=X.K) h2;have l1:=r1.length;have l2:=r2.length;have key:SeqAt.RcAt X.A s (.ref p) (.ref q) xs.isEmpty:=by
  cases xs with
  |nil=>
   have:=MP (A:=X.A) (s:=s) (e:=fun _=>true) t1.isList t2.isList (by rw[D7,D7,<-l1,<-l2]) hu (fun j h1' h2'=>by
    have:j<i1.length:=by simpa using h1'
    rw[<-l1]at this;exact absurd this (Nat.not_lt_zero _))
   have e0:i1.toArray.size=0:=by rw[D7,<-l1];rfl
   rw[e0]at this;exact this
  |cons a r=>exact LU t1.isList t2.isList (by simp at l1 l2 ⊢;omega) hu
 exact key _ _ _ _ ⟨.bl _,H,I,rfl,hq⟩
end L2
namespace Wb
open PySem L2 Mi
section
variable{Er:Nat->Prop}{α:Type}{W:Wd}{σ:St}{ta:TE}
theorem p6{R:Rp α}{ma:Res (List α)}(ha:EV Er ta σ W (pk R) ma):EV Er (cW Aw ta<|bY aL) σ W (sh isB) (ma.bind fun a=>.ok a.isEmpty):=fun W1 e1 Q k=>
 ha W1 e1 _ ((CC k).imp fun a ka x W2 e2 hx=>by
  obtain⟨p,vs,rfl,h1,h2⟩:=hx;refine⟨by decide,fun q hq=>⟨p,q,vs,rfl,rfl,?_,ax,?_⟩⟩;·rw[aD (fun z=>by rw[z]at h1;rw[hq]at h1;cases h1)];exact h1
  ·have:vs.isEmpty=a.isEmpty:=by
    have:=h2.1;cases vs<;>cases a<;>simp at this ⊢
   rw[this];exact ka (.bl a.isEmpty) (W2.mut q (.lst []) (W2.gnone hq)) (e2.trans (.own _ hq)) rfl)
end
end Wb
namespace Mi
def gR{α:Type}(kvs:List ((Int×Int)×α))(k:Int×Int)(a:α):Res (List<|(Int×Int)×α):=fc (kvs.length<1000)<|i4 kvs k a
def uN(ks:List (Int×Int)):Res (List<|Int×Int):=fc (ks.length<=1000/\ks.Nodup)<|du ks
end Mi
namespace Wb
open PySem PySem.W PySem.Calls PyProof.Rows
def lh(d:Addr)(n ep i:Nat):Obj:={cls:=.type "dict_keyiterator",dict:=none,data:=.fields #[.ref d,.int i 0,.int n 0,.int ep 0],slots:= #[]}
section
variable{prog:D6}{w:Di}{A:DL}{E:CI->CM->Prop}{s:CM}{d it:Addr}{o:Obj}{es:Array Fn}{ep:Nat}
theorem lj{Q:CI->CM->Prop}(hd:(d==sysModules)=false)(ho:s.heap.get? d=some o)(hx:o.ExactDict)(hdat:o.data=.dict es ep)(hQ:Q (.ref s.heap.objs.size) {s with heap:=s.heap.push (lh d es.size ep 0)}):wpAny (model prog w) A (pyIter<|.ref d) Q E s:=by
 have hT:s.TypeIs (.ref d) "dict":=⟨o,ho,hx.1⟩
 refine Gb hT Kx<|DA Kx hT F.entry_dict_iter ?_<|F.args_dict_iter_1 _;unfold Ej.«dict.__iter__»;refine CD ?_;unfold Lq;refine CD<|wpAny_notOrdered_dict hT ?_;show wpAny _ _ (pure<|DS d) _ _ s;refine CH ?_;show wpAny _ _ (Jg d>>=_) _ _ s;unfold Jg;rw[if_neg (by rw[hd];exact D0)];refine CD<|CH ?_;refine CD<|GU ho hdat ?_;refine CD<|J9 ho hdat ?_;refine CD<|DX<|CH ⟨_,rfl,"dict_keyiterator",_,⟨_,CU _ rfl,rfl⟩,DV.lookup,?_⟩;exact hQ
theorem ll{i:Nat}{Q:Option CI->CM->Prop}(hit:s.heap.get? it=some (lh d es.size ep i))(ho:s.heap.get? d=some o)(hdat:o.data=.dict es ep)(hi:i<es.size)
  (hQ:∀h',h'.get? it=some (lh d es.size ep<|i+1)->DD it s.heap h'->Q (some es[i].key) {s with heap:=h'}):wpAny (model prog w) A (pyNext<|.ref it) Q E s:=by
 have hT:s.TypeIs (.ref it) "dict_keyiterator":=⟨_,hit,rfl⟩
 unfold pyNext;refine CD (G4 (DT (name:=CP "__next__") hT DV
  (DA DV hT Hs ?_ (Hd _))))
 refine CD<|CH ?_;refine CD ?_;refine CD ?_
 first|refine CD (Fb hT<|CH ?_)|refine CD<|FG hT<|CH ?_
 refine CD<|HP hit rfl ?_;have hown:HA "dict_keyiterator"=false:=by decide
 simp only[hown,Dp,if_false];show wpAny _ _ (if(DS d==E5)=true then _ else _) _ _ s;rw[if_neg (show ¬((DS d==E5)=true)from D0)];refine CD<|CH ?_;refine CD<|GU ho hdat ?_;rw[if_neg (by simp)];refine CD<|CH ?_;refine CD<|J9 ho hdat ?_;rw[if_neg (by simp)];refine CH ?_;simp only[show ¬((i:Int)<0)from by omega,if_false,Ea,Dd hi];refine CD ?_
 first|refine CD (Fb hT<|CH ?_)|refine CD<|FG hT<|CH ?_
 refine CD<|Jh hT ?_;show wpAny _ _ (setField (.ref it) 1 (rawInt<|(i:Int)+1)>>=_) _ _ s;refine CD (FO hit rfl (by simp) ?_);have hit':=EZ (Iz (·.setIfInBounds 1 (rawInt<|(i:Int)+1))) hit rfl;refine CD<|E9 ?_;refine CD (Jh (s:={s with heap:=s.heap.update it (Iz (·.setIfInBounds 1 (rawInt<|(i:Int)+1)))}) ⟨_,hit',rfl⟩ ?_);show wpAny _ _ (pure es[i].key) _ _ _;exact CH<|CH ⟨_,rfl,CH<|hQ _ (hit'.trans rfl)<|Eh ..⟩
theorem nN{Q:Option CI->CM->Prop}(hh:A.handled=none)(hit:s.heap.get? it=some (lh d es.size ep es.size))(ho:s.heap.get? d=some o)(hdat:o.data=.dict es ep)
  (hQ:∀h',Ie it s.heap h'->Q none {s with heap:=h'}):wpAny (model prog w) A (pyNext<|.ref it) Q E s:=by
 have hT:s.TypeIs (.ref it) "dict_keyiterator":=⟨_,hit,rfl⟩
 unfold pyNext;refine CD (G4 (DT (name:=CP "__next__") hT DV
  (DA DV hT Hs ?_ (Hd _))))
 refine CD<|CH ?_;refine CD ?_;refine CD ?_
 first|refine CD (Fb hT<|CH ?_)|refine CD<|FG hT<|CH ?_
 refine CD<|HP hit rfl ?_;have hown:HA "dict_keyiterator"=false:=by decide
 simp only[hown,Dp,if_false];show wpAny _ _ (if(DS d==E5)=true then _ else _) _ _ s;rw[if_neg (show ¬((DS d==E5)=true)from D0)];refine CD<|CH ?_;refine CD<|GU ho hdat ?_;rw[if_neg (by simp)];refine CD<|CH ?_;refine CD<|J9 ho hdat ?_;rw[if_neg (by simp)];refine CH ?_;simp only[show ¬((es.size:Int)<0)from by omega,if_false,Ea,FZ<|CN es.size];refine CD ?_
 first|refine CD (Fb hT<|CH ?_)|refine CD<|FG hT<|CH ?_
 show wpAny _ _ (setField (.ref it) 0 .none>>=_) _ _ s;refine CD (FO hit rfl (by simp) ?_);show wpAny _ _ (newExc (.type "StopIteration") []>>=_) _ _ _;refine CD ?_;simp only[newExc,newTuple];refine CD (DX ?_ (by size_fits));refine CD (m:=firstArgMember _ _) (Jt (a:=E5) (by first|rfl|(simp only[firstArgMember];rfl)) ?_);refine DX ?_ (by size_fits);simp only[raiseNew];refine CD<|JG ?_;rw[show A.in1.handled=none from hh];refine CD<|CH<|KA ?_;refine CD<|Gn (T:="StopIteration") (b:=true) ⟨_,CU _ rfl,rfl⟩ HJ ?_;exact CH<|hQ _<|((Eh ..).extBut.push _).push _
theorem Walks.dictR(hh:A.handled=none)(I d:Addr)(hne:d≠I)(hx:o.ExactDict)(hdat:o.data=.dict es ep):
  Walks prog w A I [I,d] [I] es.size (fun i v=>∃e,es[i]? =some e/\v=e.key) (fun i h=>h.get? I=some (lh d es.size ep i)/\h.get? d=some o) where
 sub:=fun b hb=>by simp at hb;simp[hb]
 frame:=fun _ _ _ st hk=>⟨hk I (by simp) _ st.1,hk d (by simp) _ st.2⟩
 item:=fun i s Q E hi st hQ=>by
  refine ll st.1 st.2 hdat hi fun h' hI' hs'=>?_;exact hQ _ h' s.toks ⟨_,Dd hi,rfl⟩ ⟨hI',hs'.extBut d _ hne st.2⟩ fun b o hb e=>hs'.extBut b o (fun h=>hb (by simp[h])) e
 done:=fun s Q E st hQ=>nN hh st.1 st.2 hdat fun h' he'=>hQ h' s.toks fun b o hb e=>he' b o (fun h=>hb (by simp[h])) e
 self:=fun i s Q E st hQ=>by
  have hT:s.TypeIs (.ref I) "dict_keyiterator":=⟨_,st.1,rfl⟩
  refine Gb hT Fh<|DA Fh hT Ht ?_<|He _;show wpAny _ _ (ret<|.ref I) _ _ s;exact CH ⟨_,rfl,"dict_keyiterator",_,hT,DV.lookup,hQ⟩
theorem uO(lo:(d==sysModules)=false)(hx:o.ExactDict)(hdat:o.data=.dict es ep):KdlSrc prog w "dict" d d es.size (fun i v=>∃e,es[i]? =some e/\v=e.key) (fun h=>h.get? d=some o) where
 type:=fun _ hm=>⟨o,hm,hx.1⟩
 there:=fun _ hm=>⟨CV hm,CV hm⟩
 keep:=fun _ _ hm hk=>hk d (.inl rfl) o hm
 notList:=by decide
 notTuple:=by decide
 hint:=fun _ _ _ _ hm hq=>kdl_hint_dict ⟨o,hm,hx.1⟩ hq
 iter:=fun _ _ hh hm=>⟨_,_,(fun _ _ hq=>lj lo hm hx hdat hq),Walks.dictR hh _ d (D8<|CV hm) hx hdat,⟨CU _ rfl,CL _ hm⟩⟩
end
end Wb
namespace L2
open PySem PySem.Spec PyProof.Rows Wb
def KP(K:CG)(G:Hp):List ((Int×Int)×V)->List (List Key×Addr×CI)->Prop:=Paired<|fun(p:(Int×Int)×V)(q:List Key×Addr×CI)=>iW p.1=q.1/\SqT K G q.2.1 [.int p.1.1,.int p.1.2]/\RelV p.2 q.2.2
section
variable{K:CG}{G G':Hp}{kvs:List ((Int×Int)×V)}{xs:List (List Key×Addr×CI)}
theorem KP.val(r:KP K G kvs xs)(k:Int×Int):RelO (gS kvs k) ((atKey xs<|iW k).map (·.2)):=by
 unfold KP at r
 induction r with
 |nil=>exact FX
 | @cons p q ps qs h t ih=>
  obtain⟨h1,_,h2⟩:=h;by_cases e:p.1=k
  ·have e':q.1=iW k:=by rw[<-h1,e]
   have b:atKey (q::qs) (iW k)=some q.2:=by simp[atKey,EG,e']
   rw[gb e,b];exact h2
  ·have e':¬q.1=iW k:=fun z=>e<|ji<|h1.trans z;have b:atKey (q::qs) (iW k)=atKey qs (iW k):=by simp[atKey,EG,e']
   rw[gc e,b];exact ih
theorem KP.repl(r:KP K G kvs xs)(k:Int×Int){y:V}{u:CI}(ry:RelV y u):KP K G (kvs.map fun kv=>if kv.1=k then(kv.1,y)else kv) (xs.map<|Mo (iW k) u):=by
 unfold KP at r ⊢
 induction r with
 |nil=>exact .nil
 | @cons p q ps qs h t ih=>
  rw[DR,DR];refine .cons ?_ ih;obtain⟨h1,h2,h3⟩:=h;unfold Mo;by_cases e:p.1=k;·rw[if_pos e,if_pos (by rw[<-h1,e])];exact⟨h1,h2,ry⟩
  ·rw[if_neg e,if_neg<|fun z=>e<|ji<|h1.trans z];exact⟨h1,h2,h3⟩
theorem KP.put(r:KP K G kvs xs)(k:Int×Int){b:Addr}{y:V}{u:CI}(hb:SqT K G b [.int k.1,.int k.2])(ry:RelV y u):KP K G (oE kvs k y) (storedH xs (iW k) b u):=by
 have e:(kvs.any fun kv=>decide<|kv.1=k)=(atKey xs<|iW k).isSome:=by rw[mS,(r.val k).isSome_eq,Option.isSome_map]
 unfold oE storedH;rw[e];by_cases q:(atKey xs<|iW k).isSome=true;·rw[if_pos q,if_pos q];exact r.repl k ry
 ·rw[if_neg q,if_neg q];exact Paired.snoc r ⟨rfl,hb,ry⟩
theorem KP.same(r:KP K G kvs xs)(e:Same G G'):KP K G' kvs xs:=Paired.mapP r fun _ _ z=>⟨z.1,Eu e z.2.1,z.2.2⟩
end
def DictP(prog:D6)(w:Di)(K:CG)(G:Hp)(o:Obj)(kvs:List ((Int×Int)×V)):Prop:=∃es ep xs,o.ExactDict/\o.data=.dict es ep/\es.toList=xs.map (entryOfKey<|tupleKind<|mixKind prog w)/\(xs.map (·.1)).Nodup/\KP K G kvs xs
def PDa(prog:D6)(w:Di)(K:CG)(G H:Hp)(a:Addr)(kvs:List ((Int×Int)×V)):Prop:=∃o,Same G H/\H a=some (XO a o)/\(a==sysModules)=false/\DictP prog w K G o kvs/\kvs.length<=1000
def gw:Obj:={cls:=.type "dict",dict:=none,data:=.dict #[],slots:= #[]}
def uP:TE:=fun _ H Q=>∀p,H p=none->(p==sysModules)=false->Q (.ref p) (cI H p<|XO p gw)
def uQ(prog:D6)(w:Di)(K:CG)(td ty tv:TE):TS:=fun D σ H=>tv σ H fun v H1=>td σ H1 fun x H2=>ty σ H2 fun y H3=>∃G a kvs b k,x=.ref a/\PDa prog w K G H3 a kvs/\kvs.length<1000/\y=.ref b/\SqT K G b [.int k.1,.int k.2]/\∀o',DictP prog w K G o' (oE kvs k v)->D.nx σ (cI H3 a<|XO a o')
def yo(prog:D6)(w:Di)(K:CG):List V->Hp->VK->Prop:=fun xs H Q=>∃G a kvs,xs=[.ref a]/\PDa prog w K G H a kvs/\Q (.int kvs.length) H
def uR(prog:D6)(w:Di)(K:CG):List V->Hp->VK->Prop:=fun xs H Q=>∃G a kvs,xs=[.ref a]/\PDa prog w K G H a kvs/\∀q us,H q=none->us.length=kvs.length->(∀(i:Nat)(v:V)(p:(Int×Int)×V),us[i]? =some v->kvs[i]? =some p->∃b,v=.ref b/\SqT K G b [.int p.1.1,.int p.1.2])->Q (.ref q) (cI H q<|.lst us)
def uS(K:CG):List V->Hp->VK->Prop:=fun xs H Q=>∃(G:Hp)(p:Addr)(us:List V)(ks:List (Int×Int)),xs=[.ref p]/\Same G H/\SqL K H p us/\us.length=ks.length/\(∀(i:Nat)(v:V)(k:Int×Int),us[i]? =some v->ks[i]? =some k->∃b,v=.ref b/\SqT K G b [.int k.1,.int k.2])/\ks.Nodup/\ks.length<=1000/\
 ∀(q:Addr)(us':List V)(ks':List (Int×Int)),H q=none->ks'.Perm ks->ks'.Pairwise (fun a b=>lZ a b=true)->us'.length=ks'.length->(∀(i:Nat)(v:V)(k:Int×Int),us'[i]? =some v->ks'[i]? =some k->∃b,v=.ref b/\SqT K G b [.int k.1,.int k.2])->Q (.ref q) (cI H q<|.lst us')
section
variable{X:Cx}{K:CG}{pos pos':Pos}{o i value:Expr}{td ty tv:TE}{pins:List (Addr×Obj)}{σ:St}{H:Hp}{s:CM}
theorem nO(prog:D6)(w:Di)(K:CG)(G:Hp):DictP prog w K G gw []:=⟨#[],0,[],⟨rfl,rfl,rfl⟩,rfl,rfl,Gj,.nil⟩
theorem uT:PE X (.Dict [] [] pos) uP:=fun pins s σ H Q I h=>
 wpAny_Dict_empty ⟨.ref s.heap.objs.size,_,I.laid (a:=s.heap.objs.size) (t':=s.toks) (fun _ _ q=>CL _ q) (CN _)<|Mq (o:=gw)<|CU _ rfl,rfl,h _ (I.hok.fresh<|CN _)<|beq_eq_false_iff_ne.mpr<|Fd<|D8 I.big⟩
theorem PDa.h{G:Hp}{a:Addr}{kvs:List ((Int×Int)×V)}(I:Inv X pins σ H s)(g:PDa X.prog X.w X.K G H a kvs):∃xs,KP X.K G kvs xs/\s.heap.DictOfH (tupleKind<|mixKind X.prog X.w) a xs/\xs.length<=1000:=by
 obtain⟨o,eG,ha,lo,⟨es,ep,xs,ex,dat,he,nd,r⟩,hl⟩:=g;have hl2:kvs.length=xs.length:=Paired.length r;refine⟨xs,r,⟨o,es,ep,(I.hok a _ ha).1,ex,dat,he,fun x hx=>?_,nd⟩,by omega⟩;obtain⟨j,hj⟩:=G6.mp hx;obtain⟨p,hp,h1,h2,h3⟩:=fh r hj;rw[<-h1];exact eZ I<|Eu eG h2
theorem uU(hu:X.A.units+1<cLine)(ho:PE X o td)(hi:PE X i ty)(hv:PE X value tv)(hs:swapsWith value (some<|.Subscript o i pos') pos.line X.env=pure false):
  PS X (.Assign [.Subscript o i pos'] value pos) (uQ X.prog X.w X.K td ty tv):=by
 intro pins s σ H D I h;refine wpAny_Assign_Subscript (bO (hv pins s σ H _ I h) fun r s1⟨v,H1,I1,rv,q1⟩=>bO (ho pins s1 σ H1 _ I1 q1) fun u s2⟨x,H2,I2,rx,q2⟩=>bO (hi pins s2 σ H2 _ I2 q2) fun iv s3⟨y,H3,I3,ry,G,a,kvs,b,k,ex,g,hl,ey,hb,q3⟩=>?_) hs;subst ex ey;obtain rfl:u=DS a:=rx;obtain rfl:iv=DS b:=ry;obtain⟨xs,rel,dd,hx⟩:=g.h I3;obtain⟨ob,eG,ha,lo,_,_⟩:=g;refine wpAny_setItem_heap (hsz:=by rw[Dz];omega) (HQ hu) (eZ I3<|Eu eG hb) dd fun h' dd' hs=>?_;obtain⟨o',es,ep,hq,h2,h3,h4,_,h5⟩:=dd';exact⟨σ,_,pV I3 (by rw[ha];exact FX) hs ⟨o',hq⟩<|Mq hq,q3 o' ⟨es,ep,_,h2,h3,h4,h5,rel.put k hb rv⟩⟩
theorem rY:dn X (.builtin "len") (yo X.prog X.w X.K):=by
 intro pins s σ H xs us Q I r h;obtain⟨G,a,kvs,rfl,g,q⟩:=h;obtain⟨u,rfl,rx⟩:=dY r;cases rx;obtain⟨ys,rel,⟨od,es,ep,hod,hx,hdat,he,hk,nd⟩,hl⟩:=g.h I;obtain⟨ob,eG,ha,lo,_,_⟩:=g;have hT:s.TypeIs (.ref a) "dict":=⟨od,hod,hx.1⟩
 have hsz:es.size=kvs.length:=by
  rw[<-Dh,he,D5];exact(Paired.length rel).symm
 have hsz2:es.size<=1000:=by rw[<-Dh,he,D5];exact hl
 refine Gr kind_len plain_len entry_len (args_len1 _) ?_;unfold Ej.«len»;refine CD (m:=oneArg "len" _)<|CH ?_;refine CD (m:=callSpecial? (.ref a)<|CP "__len__") (DT (name:=CP "__len__") hT Ji
  (DA Ji hT PySem.F.entry_dict_len ?_ (PySem.F.args_dict_len_1 _)))
 show wpAny _ _ (dictSize a>>=_) _ _ s;unfold dictSize;refine CD<|CD<|GU hod hdat<|CH ?_;show wpAny _ _ (Lr a>>=_) _ _ s;refine CD<|wpAny_pendingCount_other lo ?_;rw[show((es.size:Int)+((0:Nat):Int))=(es.size:Int) by omega];unfold retInt;refine CD<|wpAny_mkInt<|CH ⟨_,rfl,?_⟩;refine CD<|E9<|CH ?_;refine CD<|Ju ?_;show wpAny _ _ (if((es.size:Nat):Int)<0 then _ else _) _ _ _;rw[if_neg (by omega)];show wpAny _ _ (if((es.size:Nat):Int)≥2^63 then _ else _) _ _ _;rw[if_neg (by omega)];rw[hsz];exact CD<|wpAny_mkInt<|CH ⟨_,rfl,⟨.int kvs.length,H,I.tok _,⟨_,rfl⟩,q⟩⟩
theorem p7(hc:X.calm=true):dn X (.type "list") (uR X.prog X.w X.K):=by
 intro pins s σ H xs us Q I r h;obtain⟨G,a,kvs,rfl,g,q⟩:=h;obtain⟨u,rfl,rx⟩:=dY r;cases rx;obtain⟨ob,eG,ha,lo,⟨es,ep,ys,hx,hdat,he,nd,rel⟩,hl⟩:=g;have hod:s.heap.get? a=some ob:=(I.hok a _ ha).1;have hsz:es.size=kvs.length:=by
  rw[<-Dh,he,D5];exact(Paired.length rel).symm
 have src:∀(i:Nat)(e:Fn)(p:(Int×Int)×V),es[i]? =some e->kvs[i]? =some p->∃b,e.key=.ref b/\SqT X.K G b [.int p.1.1,.int p.1.2]:=fun i e p h1 h2=>by
  rw[<-CT,he,CS]at h1;obtain⟨y,h3,rfl⟩:=Ds.mp h1;obtain⟨p',h4,h5,h6,h7⟩:=fh rel h3;rw[h2]at h4;cases h4;exact⟨y.2.1,rfl,h6⟩
 refine PySem.W.kdl_call (uO lo hx hdat) (I.ok.hd hc) hod (by rw[Dz];omega) fun h' tk acc c' hk e hacc=>?_;refine⟨.ref _,_,I.laid (t':=tk) hk (CN _) (show ObjOk X.prog X.w _ h' _ (.lst<|acc.toList.map zq)from⟨by rw[D5,Dh,hacc.1,Dz];omega,acc.toList,c',?_,by rw[Jv];exact e⟩),rfl,q _ _ (I.hok.fresh<|CN _) (by rw[D5,Dh,hacc.1,hsz]) fun i v p h1 h2=>?_⟩
 ·refine gY _ _ (by rw[D5]) fun j x u hx hu=>?_;rw[CS,hu]at hx;cases hx;obtain⟨e,h1,rfl⟩:=hacc.2 j u (by rw[<-CT];exact hu);have hj:j<kvs.length:=by have:=(Ep.mp h1).1;omega
  obtain⟨b,h3,_⟩:=src j e _ h1<|CK hj;rw[h3];rfl
 ·rw[CS]at h1;obtain⟨u,hu,rfl⟩:=Ds.mp h1;obtain⟨e,h3,rfl⟩:=hacc.2 i u (by rw[<-CT];exact hu);obtain⟨b,h4,h5⟩:=src i e p h3 h2;exact⟨b,by rw[h4];rfl,h5⟩
theorem p8(h:X.K=K):dn X (.builtin "sorted") (uS K):=by
 subst h;intro pins s σ H xs us Q I r h;obtain⟨G,p,vs,ks,rfl,eG,hq,hl,rel,nd,hz,q⟩:=h;obtain⟨u,rfl,rx⟩:=dY r;cases rx;obtain⟨its,r',pl,_⟩:=I.list hq;have l1:=r'.length;have il:its.length=ks.length:=by omega
 have at_:∀(j:Nat)(u:CI)(k:Int×Int),its[j]? =some u->ks[j]? =some k->∃b,u=.ref b/\SqT X.K G b [.int k.1,.int k.2]:=fun j u k h1 h2=>by
  obtain⟨v,h3,h4⟩:=fh r' h1;obtain⟨b,rfl,h5⟩:=rel j v k h3 h2;exact⟨b,h4,h5⟩
 have km:its.map (fun v=>cZ X.K G (0,v))=ks:=by
  apply El;intro j;rw[CS];by_cases z:j<its.length
  ·have z2:j< ks.length:=by omega
   obtain⟨b,h1,h2⟩:=at_ j its[j] ks[j] (CK z) (CK z2);rw[CK z,CK z2];exact congrArg some<|jj (e:=(0,its[j])) eG I h2 h1
  ·rw[DK (by omega),DK (by omega)];rfl
 have src:∀v∈its,∃b,v=.ref b/\SqT X.K G b [.int (cZ X.K G (0,v)).1,.int (cZ X.K G (0,v)).2]:=fun v hv=>by
  obtain⟨j,hj,e⟩:=EK.mp hv;have z2:j<ks.length:=by omega
  obtain⟨b,h1,h2⟩:=at_ j v ks[j] (by rw[CK hj,e]) (CK z2);exact⟨b,h1,by rw[jj (e:=(0,v)) eG I h2 h1];exact h2⟩
 refine Gr kind_sorted plain_sorted entry_sorted (args_sorted1 _) ?_;unfold Ej.«sorted»;refine CD (m:=checkCount "sorted" 1 1 _)<|CH ?_;refine CD (collect_list pl.isList ?_ (by rw[Dz];omega));refine CD (JM ?_ (by rw[Dz];omega));generalize hh1:(s.heap.push<|seqObj "list" #[] 0).update s.heap.objs.size (Fp (· ++its.toArray))=h1;have k1:∀b o,s.heap.get? b=some o->h1.get? b=some o:=fun b o q=>by
  have hlt:b<s.heap.objs.size:=CV q;rw[<-hh1,Heap.get?_update_ne _ _ _ _<|D8 hlt,Ij _ _ _<|D8 hlt];exact q
 have I':=I.kept (t':=s.toks) k1;have hoL:(h1.push<|seqObj "list" its.toArray 0).get? h1.objs.size=some (seqObj "list" its.toArray 0):=CU _ rfl;refine CD (E9 (DA La ⟨_,hoL,rfl⟩ KO (nM (key:=fun v=>cZ X.K G (0,v)) hoL (fun v hv=>?_) (by rw[km];exact nd) (by rw[il,Dz];omega) fun out op' pw=>⟨_,rfl,?_⟩)<|Lb _))
 ·obtain⟨b,rfl,h3⟩:=src v hv;obtain⟨jts,rr,⟨ob,g1,g2,n,g3⟩,_⟩:=I'.tuple<|Eu eG h3;obtain⟨u1,u2,e1,⟨t1,e2⟩,t2,e3⟩:∃u1 u2,jts=[u1,u2]/\RelV (.int (cZ X.K G (0,.ref b)).1) u1/\RelV (.int (cZ X.K G (0,.ref b)).2) u2:=by
   cases rr with
   |cons a b=>cases b with
    |cons c d=>cases d with
     |nil=>exact⟨_,_,rfl,a,c⟩
  subst e1;rw[e2,e3]at g3;exact⟨b,ob,t1,t2,n,rfl,CL _ g1,g2,g3⟩
 obtain⟨e,he⟩:=LS (h:=h1.push<|seqObj "list" its.toArray 0) (a:=h1.objs.size) (vs:=its) (out:=out.toArray) (n:=0) hoL;have at2:∀v∈out,∃b,v=.ref b/\SqT X.K G b [.int (cZ X.K G (0,v)).1,.int (cZ X.K G (0,v)).2]:=fun v hv=>src v<|op'.mem_iff.mp hv;have pkz:(out.map fun v=>cZ X.K G (0,v)).Perm ks:=by
  have:=op'.map fun v=>cZ X.K G (0,v);rw[km]at this;exact this
 have ol:out.length=ks.length:=by rw[op'.length_eq];exact il
 refine CH ⟨_,rfl,.ref h1.objs.size,_,I'.laid (t':=s.toks) (fun b o z=>?_) (CN _) (show ObjOk X.prog X.w _ _ _ (.lst<|out.map zq)from⟨by rw[D5,Dz];omega,out,e,?_,he⟩),rfl,q _ _ (out.map fun v=>cZ X.K G (0,v)) (I'.hok.fresh<|CN _) pkz pw (by rw[D5,D5]) fun i v k h1 h2=>?_⟩
 ·show(sortedHeap _ _ _ _).get? b=some o;rw[Lc (D8<|CV z) (by rw[L8];exact GQ<|CV z)];exact CL _ z
 ·refine gY _ _ (by rw[D5]) fun j x u hx hu=>?_;rw[CS,hu]at hx;cases hx;obtain⟨b,rfl,_⟩:=at2 u<|Dj hu;rfl
 ·rw[CS]at h1 h2;obtain⟨u,hu,rfl⟩:=Ds.mp h1;rw[hu]at h2;cases h2;obtain⟨b,rfl,h4⟩:=at2 u<|Dj hu;exact⟨b,rfl,h4⟩
end
end L2
namespace Wb
open PySem L2 Mi
section
variable{Er:Nat->Prop}{α:Type}{prog:D6}{w:Di}{K:CG}{W W' W0 W1 W2:Wd}{σ:St}{te ti ta:TE}{R:Rp α}{i:Nat}{p:Addr}{D:Ends}{r:TS}
structure OwP(prog:D6)(w:Di)(K:CG)(R:Rp α)(W:Wd)(p:Addr)(kvs:List ((Int×Int)×α)):Prop where
 g:W.G p=none
 h:∃o vs,W.H p=some (XO p o)/\(p==sysModules)=false/\DictP prog w K W.G o vs/\vs.length<=1000/\vs.length=kvs.length/\∀(i:Nat)(q:(Int×Int)×V)(x:(Int×Int)×α),vs[i]? =some q->kvs[i]? =some x->q.1=x.1/\R W.G x.2 q.2
theorem dictP_same{G G':Hp}{o:Obj}{kvs:List ((Int×Int)×V)}(h:DictP prog w K G o kvs)(e:Same G G'):DictP prog w K G' o kvs:=
 let ⟨es,ep,xs,a,b,c,d,r⟩:=h
 ⟨es,ep,xs,a,b,c,d,r.same e⟩
theorem OwP.mono[Mono R]{kvs:List ((Int×Int)×α)}(o:OwP prog w K R W p kvs)(e:Ext W W'):OwP prog w K R W' p kvs:=by
 obtain⟨x,vs,a,lo,b,hl,c,d⟩:=o.h;exact⟨by rw[e.k p (by rw[a];exact fun z=>nomatch z)];exact o.g,x,vs,e.h _ _ a,lo,dictP_same b e.g,hl,c,fun i q y h1 h2=>⟨(d i q y h1 h2).1,CB e.g (d i q y h1 h2).2⟩⟩
theorem OwP.keep[Mono R]{q:Addr}{kvs:List ((Int×Int)×α)}(o:OwP prog w K R W q kvs)(hH:W'.H q=W.H q)(hs:Same W.G W'.G)(hg:W'.G q=W.G q):OwP prog w K R W' q kvs:=by
 obtain⟨x,vs,a,lo,b,hl,c,d⟩:=o.h;exact⟨by rw[hg];exact o.g,x,vs,by rw[hH];exact a,lo,dictP_same b hs,hl,c,fun i q y h1 h2=>⟨(d i q y h1 h2).1,CB hs (d i q y h1 h2).2⟩⟩
theorem Mu.owP[Mono R]{q:Addr}{kvs:List ((Int×Int)×α)}(m:Mu W W' p)(hq:q≠p)(o:OwP prog w K R W q kvs):OwP prog w K R W' q kvs:=by
 obtain⟨x,vs,a,_⟩:=o.h;obtain⟨h1,h2⟩:=m.h q hq (by rw[a];exact fun z=>nomatch z);exact o.keep h1 m.g h2
theorem nP{H:Hp}{vs:List ((Int×Int)×V)}{xs:List ((Int×Int)×α)}(hl:vs.length=xs.length)(h:∀(i:Nat)(q:(Int×Int)×V)(x:(Int×Int)×α),vs[i]? =some q->xs[i]? =some x->q.1=x.1/\R H x.2 q.2){k:Int×Int}{a:α}{v:V}(hv:R H a v):
  (oE vs k v).length=(i4 xs k a).length/\∀(i:Nat)(q:(Int×Int)×V)(x:(Int×Int)×α),(oE vs k v)[i]? =some q->(i4 xs k a)[i]? =some x->q.1=x.1/\R H x.2 q.2:=by
 have key:∀(vs:List ((Int×Int)×V))(xs:List ((Int×Int)×α)),vs.length=xs.length->(∀(i:Nat)(q:(Int×Int)×V)(x:(Int×Int)×α),vs[i]? =some q->xs[i]? =some x->q.1=x.1/\R H x.2 q.2)->(vs.any fun p=>decide<|p.1=k)=(xs.any fun p=>decide<|p.1=k):=by
  intro vs
  induction vs with
  |nil=>intro xs hl _;cases xs with|nil=>rfl|cons _ _=>cases hl
  |cons q vs ih=>
   intro xs hl h;cases xs with
   |nil=>cases hl
   |cons x xs=>rw[Hg,Hg,ih xs (by simpa using hl) fun i q x h1 h2=>h (i+1) q x h1 h2,(h 0 q x rfl rfl).1]
 unfold oE i4;rw[key vs xs hl h];by_cases z:(xs.any fun p=>decide<|p.1=k)=true
 ·rw[if_pos z,if_pos z];refine⟨by rw[D5,D5];exact hl,fun i q x h1 h2=>?_⟩;rw[CS]at h1 h2;obtain⟨q',h3,rfl⟩:=Ds.mp h1;obtain⟨x',h4,rfl⟩:=Ds.mp h2;have:=h i q' x' h3 h4;by_cases y:x'.1=k;·rw[if_pos y,if_pos<|this.1.trans y];exact⟨this.1,hv⟩
  ·rw[if_neg y,if_neg<|fun e=>y<|this.1.symm.trans e];exact this
 ·rw[if_neg z,if_neg z];refine⟨by simp[hl],fun i q x h1 h2=>?_⟩;by_cases y:i<vs.length
  ·rw[D3 y]at h1;rw[D3 (by omega)]at h2;exact h i q x h1 h2
  ·rw[D4 (by omega)]at h1;rw[D4 (by omega),<-hl]at h2;cases e:i-vs.length with
   |zero=>rw[e]at h1 h2;cases h1;cases h2;exact⟨rfl,hv⟩
   |succ n=>rw[e]at h1;simp at h1
theorem nQ{kvs:List ((Int×Int)×α)}{k:Int×Int}{a:α}:(i4 kvs k a).length<=kvs.length+1:=by unfold i4;split<;>simp
def EVp(prog:D6)(w:Di)(K:CG)(Er:Nat->Prop)(t:TE)(σ:St)(W:Wd)(R:Rp α)(m:Res (List<|(Int×Int)×α)):Prop:=∀W1,Ext W W1->∀Q:VK,m.OkE Er (fun xs=>∀p W2,Ext W1 W2->W1.H p=none->OwP prog w K R W2 p xs->Q (.ref p) W2.H)->t σ W1.H Q
theorem uV:EVp prog w K Er uP σ W R (.ok []):=fun W1 e1 Q k p hp lo=>k p (W1.mut p (XO p gw)<|W1.gnone hp) (.own _ hp) hp ⟨W1.gnone hp,gw,[],ax,lo,nO ..,by decide,rfl,fun i q x h=>by simp at h⟩
theorem xi{σ':Addr->St}{m:Res (List<|(Int×Int)×α)}(h:EVp prog w K Er te σ W R m)(q:m.OkE Er fun a=>∀p W',Ext W W'->W.H p=none->OwP prog w K R W' p a->D.nx (σ' p) W'.H)(hσ:∀p,σ.set i (some<|.ref p)=σ' p:=by intro _;rfl):bK te (aM i) D σ W.H:=
 h W (.refl _) _ (q.imp fun a k p W' e hp o=>by show D.nx (σ.set i<|some<|.ref p) W'.H;rw[hσ];exact k p W' e hp o)
theorem rZ{σ':Addr->St}{m:Res (List<|(Int×Int)×α)}(h:EVp prog w K Er te σ W R m)(q:m.OkE Er fun a=>∀p W',Ext W W'->W.H p=none->OwP prog w K R W' p a->r D (σ' p) W'.H)(hσ:∀p,σ.set i (some<|.ref p)=σ' p:=by intro _;rfl):eQ (bK te<|aM i) r D σ W.H:=xi (D:={D with nx:=r D}) h q hσ
theorem OwP.pd[Mono R]{kvs:List ((Int×Int)×α)}(o:OwP prog w K R W p kvs):∃vs,PDa prog w K W.G W.H p vs/\vs.length=kvs.length/\∀(i:Nat)(q:(Int×Int)×V)(x:(Int×Int)×α),vs[i]? =some q->kvs[i]? =some x->q.1=x.1/\R W.G x.2 q.2:=by
 obtain⟨x,vs,a,lo,b,hl,c,d⟩:=o.h;exact⟨vs,⟨x,W.ok,a,lo,b,hl⟩,c,d⟩
theorem uW[Mono R]{xs:List ((Int×Int)×α)}{m:Res α}{mk:Res (Int×Int)}(o:OwP prog w K R W p xs)(h:EV Er te σ W (sh R) m)(hj:EV Er ti σ W (sh<|isT2 K isI isI) mk)
  (q:(m.bind fun a=>mk.bind fun k=>gR xs k a).OkE Er fun ys=>∀W',Mu W W' p->OwP prog w K R W' p ys->D.nx σ W'.H) (hi:σ[i]? =some (some<|.ref p):=by rfl):uQ prog w K (bz i) ti te D σ W.H:=by
 refine h W (.refl _) _<|(CC q).imp fun a ka v W2 e2 hv=>⟨.ref p,hi,hj W2 e2 _<|(CC ka).imp fun k kk x W3 e3 hx=>?_⟩;obtain⟨h3,h4⟩:=aW kk;have e:=e2.trans e3;have o':=o.mono e;obtain⟨ob,vs,o1,lo,o2,hl,o3,o4⟩:=o'.h;obtain⟨b,x1,x2,rfl,t1,r1,r2⟩:=hx;cases r1;cases r2;obtain⟨p1,p2⟩:=nP o3 o4 (k:=k)<|CB (R:=R) e3.g hv;refine⟨W3.G,p,vs,b,k,rfl,⟨ob,W3.ok,o1,lo,o2,hl⟩,by omega,rfl,t1,fun o2' d'=>?_⟩;exact h4 (W3.mut p (XO p o2') o'.g) (.of e o'.g) ⟨o'.g,o2',_,ax,lo,d',by have:=nQ (kvs:=xs) (k:=k) (a:=a);omega,p1,p2⟩
theorem xj[Mono R]{xs:List ((Int×Int)×α)}(o:OwP prog w K R W p xs)(hi:σ[i]? =some (some<|.ref p):=by rfl):EV Er (dZ (yo prog w K)<|ai (bz i) aL) σ W (sh isI) (.ok (xs.length:Int)):=fun W1 e1 Q k=>by
 obtain⟨vs,g,hl,_⟩:=(o.mono e1).pd;exact⟨.ref p,hi,W1.G,p,vs,rfl,g,by rw[hl];exact k _ W1 (.refl _) rfl⟩
theorem uX[Mono R]{xs:List ((Int×Int)×α)}(o:OwP prog w K R W p xs)(hi:σ[i]? =some (some<|.ref p):=by rfl):EVo Er (dZ (uR prog w K)<|ai (bz i) aL) σ W (isT2 K isI isI) (.ok (xs.map (·.1))):=fun W1 e1 Q k=>by
 obtain⟨vs,g,hl,rel⟩:=(o.mono e1).pd;refine⟨.ref p,hi,W1.G,p,vs,rfl,g,fun q us hq l1 at_=>?_⟩;refine jP (W2:=W1) (vs:=us) ⟨by rw[D5,l1,hl],fun i v m e1 e2=>?_⟩ (.refl _) k q hq;rw[CS]at e2;obtain⟨x,h1,rfl⟩:=Ds.mp e2;have hv:i<vs.length:=by have:=(CO.mp h1).1;omega
 obtain⟨b,rfl,hb⟩:=at_ i v vs[i] e1 (CK hv);have:=(rel i vs[i] x (CK hv) h1).1;rw[this]at hb;exact⟨b,_,_,rfl,hb,rfl,rfl⟩
theorem uY{ma:Res (List<|Int×Int)}(ha:EV Er ta σ W (pk<|isT2 K isI isI) ma):EVo Er (dZ (uS K)<|ai ta aL) σ W (isT2 K isI isI) (ma.bind fun a=>uN a):=fun W1 e1 Q k=>
 ha W1 e1 _ ((CC k).imp fun a ka x W2 e2 hx=>by
  obtain⟨p,vs,rfl,h1,h2⟩:=hx;obtain⟨⟨h3,nd⟩,h4⟩:=aW ka;refine⟨W2.G,p,vs,a,rfl,W2.ok,EB h1,h2.1,fun i v k e1 e2=>?_,nd,h3,fun q us' ks' hq p1 p2 l1 at_=>?_⟩
  ·obtain⟨b,x1,x2,rfl,t1,r1,r2⟩:=h2.2 i v k e1 e2;cases r1;cases r2;exact⟨b,rfl,t1⟩
  ·have e:ks'=du a:=gV p1 (p2.imp fun {a b} h=>by rw[ic]at h;rw[i5];omega);rw[<-e]at h4;exact jP (W2:=W2) (vs:=us') ⟨l1,fun i v m e1 e2=>by
    obtain⟨b,rfl,hb⟩:=at_ i v m e1 e2;exact⟨b,_,_,rfl,hb,rfl,rfl⟩⟩ e2 h4 q hq)
end
section
variable{Er:Nat->Prop}{α β γ:Type}{K:CG}{W W0:Wd}{σ:St}{t ta tb te:TE}{cs:List TC}{D:Ends}{r:TS}{i k:Nat}{F:FS}
theorem uZ{R:Rf α}{c:TT}{mc:Res Bool}{m n:Res α}(hc:TV Er c σ W mc)(h:EVt Er ta σ W R m)(g:EVt Er tb σ W R n):EVt Er (fN c ta tb) σ W R (mc.bind fun b=>if b then m else n):=fun W1 e1 Q k=>hc W1 e1 _ ((CC k).imp fun b kb W2 e2=>by
 cases b with
 |true=>exact h W2 (e1.trans e2) _ (kb.imp fun c kc v W3 F e3 hF hv=>kc v W3 F (e2.trans e3) (fun q hq=>none_of e2.h<|hF q hq) hv)
 |false=>exact g W2 (e1.trans e2) _ (kb.imp fun c kc v W3 F e3 hF hv=>kc v W3 F (e2.trans e3) (fun q hq=>none_of e2.h (hF q hq)) hv))
theorem va{R:Rf α}[FrT R]{m:Res α}(h:EVt Er t σ W R m):EVt Er (bY<|ai t aL) σ W (oL R) (m.bind fun a=>.ok [a]):=fun W1 e1 Q k=>
 h W1 e1 _ ((CC k).imp fun a ka v W2 F e2 hF hv=>⟨tK (n:=1) (by decide),fun p hp=>by
  have hl:=Lf hv;have np:¬F p:=fun z=>(hl p z).2 hp;refine ka _ (W2.mut p (.lst [v])<|W2.gnone hp) (fun q=>q=p\/F q) (e2.trans<|.own _ hp) (fun q hq=>hq.elim (fun z=>by rw[z];exact none_of e2.h hp)<|hF q) ⟨p,[v],fun j=>if j=0 then F else fun _=>False,rfl,W2.gnone hp,ax,⟨rfl,fun j x u a b=>?_,fun j q hq=>?_,fun j l q h1 h2=>?_⟩,fun j=>?_,fun q=>⟨?_,?_⟩⟩
  ·cases j with
   |zero=>cases a;cases b;exact M7 hv (.own _ hp)
   |succ j=>cases a
  ·cases j with
   |zero=>exact Nat.zero_lt_one
   |succ j=>exact(show False from by simpa using hq).elim
  ·cases j<;>cases l<;>simp at h1 h2 ⊢
  ·cases j with
   |zero=>exact np
   |succ j=>simp
  ·rintro (z | z);·exact .inl z
   ·exact .inr ⟨0,z⟩
  ·rintro (z | ⟨j,z⟩);·exact .inl z
   ·cases j with
    |zero=>exact .inr z
    |succ j=>exact(show False from by simpa using z).elim⟩)
class NoL(R:Rp α):Prop where
 no:∀{G G':Hp}{a:α}{v:V},(∀q o,G q=some o->(∀vs,o≠.lst vs)->G' q=some o)->R G a v->R G' a v
instance zkeep63:NoL isI:=⟨fun _ h=>h⟩
theorem sqt_no{G G':Hp}(h:∀q o,G q=some o->(∀vs,o≠.lst vs)->G' q=some o){p:Addr}{us:List V}(s:SqT K G p us):SqT K G' p us:=by
 rcases s with(s|⟨o,s⟩)|s;·exact .inl (.inl (h _ _ s fun _ z=>nomatch z))
 ·exact .inl (.inr ⟨o,h _ _ s fun _ z=>nomatch z⟩)
 ·exact .inr s
instance zkeep66{R1:Rp α}{R2:Rp β}[NoL R1][NoL R2]:NoL (isT2 K R1 R2):=⟨fun h⟨p,x,y,e,s,a,b⟩=>⟨p,x,y,e,sqt_no h s,NoL.no h a,NoL.no h b⟩⟩
theorem xk{R:Rp α}{xs:List (List α)}{v:V}(h:oL (oL<|fz R) W F xs v):∀q,F q->∃vs,W.H q=some (.lst vs):=by
 obtain⟨p,vs,Fs,rfl,g,hp,t,np,hF⟩:=h;intro q hq;rcases (hF q).mp hq with rfl|⟨i,hi⟩
 ·exact⟨_,hp⟩
 ·obtain⟨x,u,_,_,r⟩:=t.at2 hi;obtain⟨p',vs',Fs',rfl,g',hp',t',np',hF'⟩:=r;rcases (hF' q).mp hi with rfl|⟨j,hj⟩
  ·exact⟨_,hp'⟩
  ·obtain⟨y,w,_,_,r'⟩:=t'.at2 hj;exact absurd hj<|r'.1 q
open Classical in
theorem Ax{R:Rf β}[FrT R]{R':Rp β}[FzT R R']{b:β}{u:V}(t:R W F b u):∃Wf,Wf.H=W.H/\Same W.G Wf.G/\R' Wf.G b u/\∀W2,Ext Wf W2->∃W3,W3.H=W2.H/\Ext W W3/\∀q,¬F q->W3.G q=W2.G q:=by
 have lv:=fun q=>Lf t q;have hs:Same W.G fun q=>if F q then W.H q else W.G q:=fun a o h=>by
  show(if F a then _ else _)=_;rw[if_neg fun z=>by have:=(lv a z).1;rw[h]at this;cases this];exact h
 have ho:Same (fun q=>if F q then W.H q else W.G q) W.H:=fun a o h=>by
  have h:(if F a then W.H a else W.G a)=some o:=h;split at h;·exact h
  ·exact W.ok _ _ h
 let Wf:Wd:=⟨_,W.H,ho⟩
 refine⟨Wf,rfl,hs,FzT.fz t hs fun q hq=>if_pos hq,fun W2 e=>⟨⟨fun q=>if F q then none else W2.G q,W2.H,fun a o h=>?_⟩,rfl,⟨fun a o h=>?_,e.h,fun q hq=>?_⟩,fun q hq=>if_neg hq⟩⟩
 ·have h:(if F a then none else W2.G a)=some o:=h;split at h;·cases h
  ·exact W2.ok _ _ h
 ·show(if F a then none else W2.G a)=_;rw[if_neg fun z=>by have:=(lv a z).1;rw[h]at this;cases this];exact e.g _ _<|hs _ _ h
 ·show(if F q then none else W2.G q)=_;by_cases z:F q;·rw[if_pos z,(lv q z).1]
  ·rw[if_neg z,e.k q hq];exact if_neg z
theorem vb{R:Rp β}[Mono R][NoL R]{xs:List (List β)}{v:V}{m:Res (List β)}(S:Sep W0 W cs)(E:Ext W0 W)(hk:cs[k]? =some (tc (oL<|oL<|fz R) xs v))(h:∀Wf,Same W.G Wf.G->isL (isL R) Wf.G xs v->EVo Er te σ Wf R m)(q:(m.bind fun b=>dB xs b).OkE Er fun ys=>∀W',Same W.G W'.G->Ext W0 W'->Sep W0 W' (cs.set k<|tc (oL<|oL<|fz R) ys v)->D.nx σ W'.H)(hi:σ[i]? =some (some v):=by rfl):
  b6 (ee K "list" ay (bz i)<|ai te aL) D σ W.H:=by
 have S':=S;obtain⟨Fs,s⟩:=S';have tr:oL (oL<|fz R) W (Fs k) xs v:=s.el k _ hk;have kk:k<cs.length:=(CO.mp hk).1;have lst:=xk tr;obtain⟨Wf,f1,f2,f3,f4⟩:=Ax tr;obtain⟨p0,vs0,_,rfl,g0,h0,_⟩:=id tr;refine⟨_,hi,.inl ⟨rfl,vs0,EB h0⟩,?_⟩;have hh:=h Wf f2 f3 Wf<|.refl _;rw[f1]at hh;refine hh _<|(CC q).imp fun b kb p W2 e2 hp o=>?_;obtain⟨W3,a1,a2,a3⟩:=f4 W2 e2;have nF:¬Fs k p:=fun z=>(Lf tr p z).2 hp;have t3:oL (fz R) W3 (· =p) b (.ref p):=by
  obtain⟨o1,us,o2,o3⟩:=o;refine oL.ofOw ⟨by rw[a3 p nF];exact o1,us,by rw[a1];exact o2,o3.1,fun j x y e3 e4=>NoL.no (fun z o hz hn=>?_)<|o3.2 j x y e3 e4⟩;rw[a3 z fun hf=>?_];·exact hz
  ·obtain⟨ws,hw⟩:=lst z hf;have e5:=e2.keepH (q:=z) (by rw[f1,hw];exact fun z=>nomatch z);rw[f1,hw,W2.ok _ _ hz]at e5;cases e5;exact hn _ rfl
 have S3:=Sep.add (F:=(· =p)) S E a2 (fun z hz=>by rw[hz];exact hp) t3;rw[<-a1];have:=ud (Er:=Er) (K:=K) (D:=⟨fun _ H=>D.nx σ H,D.rt,D.bk,D.ct⟩) (σ:=σ++[some (.ref p)]) (i:=i) (j:=σ.length) (k:=k) (l:=cs.length) (xs:=xs) (b:=b) (v:=.ref p0) (u:=.ref p) S3 (E.trans a2) (by rw[D3 kk];exact hk) (by simp) (D8 kk) (kb.imp fun ys ky W' e1 e3 S4=>ky W' (a2.g.trans e1) e3 (by
  rw[List.set_append_left _ _ kk]at S4;rw[GJ (by simp)]at S4;simpa using S4)) (by rw[D3 (CO.mp hi).1];exact hi) (by simp)
 obtain⟨v1,g1,_,v2,g2,g3⟩:=this;rw[D3 (CO.mp hi).1,hi]at g1;cases g1;rw[D4<|CN _,Gp]at g2;cases g2;exact g3
end
end Wb
namespace Mi
abbrev Cd:=Tx×Tx×Int
abbrev Pl:=Tx×Tx×Tx
abbrev Ii:=Int×Int
def sd{κ α:Type}[DecidableEq κ](kvs:List (κ×α))(k:κ)(z:α):α:=(look kvs k).getD z
def mn(n:Int):Res (List Int):=fc (-(2^61)<=n/\n<2^61) (ff n).reverse
end Mi
namespace L2
open PySem PySem.Spec PyProof.Rows Wb
def BO(a:Addr)(o:Obj)(es:Array Fn):It:=⟨fun i H=>H a=some (XO a o)/\i<es.size,fun i H x H'=>H'=H/\∃e,es[i]? =some e/\RelV x e.key,fun i H=>H a=some (XO a o)/\i=es.size⟩
theorem p9{P:D6}{w:Di}{K:CG}{tg:Expr}{a it:Addr}{o:Obj}{es:Array Fn}{ep:Nat}(hdat:o.data=.dict es ep)(hx:o.ExactDict)(hr:∀(i:Nat)(e:Fn),es[i]? =some e->∃b,e.key=.ref b):Turn P w K tg (BO a o es) [it] it (fun i h=>h.get? it=some (lh a es.size ep i)) where
 mem:=by simp
 obj:=fun i h st b hb=>by
  have e:b=it:=by simpa using hb
  subst e;exact⟨_,st,fun v z=>by
   have z':I9 _=H0 v:=z;cases z'⟩
 keep:=fun i h h' st k=>k it (by simp) _ st
 item:=by
  intro X hP hw hK hc i pins s σ H E I hf st hg;subst hP hw hK;obtain⟨ha,hi⟩:=hg;obtain⟨f0,f1,f2,f3,f4,f5⟩:=hf it (by simp);have ho:s.heap.get? a=some o:=(I.hok a _ ha).1;refine ll st ho hdat hi fun h' st' sb=>?_;have I1:Inv X pins σ H {s with heap:=h'}:=I.turned (t':=s.toks) (fun b o hb e=>(sb.2 b hb).trans e) f0 f1 f3 f4 f5;obtain⟨b,hb⟩:=hr i _<|Dd hi;exact⟨_,rfl,mL (s:={s with heap:=h'}) (n:="dict_keyiterator") st' rfl rfl (by decide) ⟨.ref b,H,I1,by rw[hb];rfl,⟨rfl,_,Dd hi,by rw[hb];rfl⟩,st',fun b hb=>(hf b hb).1⟩⟩
 done:=by
  intro X hP hw hK hc i pins s σ H E I hf st hg;subst hP hw hK;obtain⟨ha,hi⟩:=hg;subst hi;obtain⟨f0,f1,f2,f3,f4,f5⟩:=hf it (by simp);have ho:s.heap.get? a=some o:=(I.hok a _ ha).1;exact nN (I.ok.hd hc) st ho hdat fun h' eb=>⟨rfl,I.turned (t':=s.toks) (fun b o hb e=>eb b o hb e) f0 f1 f3 f4 f5⟩
 self:=fun A i s Q E st hQ=>by
  have hT:s.TypeIs (.ref it) "dict_keyiterator":=⟨_,st,rfl⟩
  refine Gb hT Fh<|DA Fh hT Ht ?_<|He _;show wpAny _ _ (ret<|.ref it) _ _ s;exact CH ⟨_,rfl,"dict_keyiterator",_,hT,DV.lookup,hQ⟩
def pf(prog:D6)(w:Di)(K:CG)(tl:TE):TI:=fun σ H R=>tl σ H fun x H1=>∃G a o kvs,x=.ref a/\Same G H1/\H1 a=some (XO a o)/\(a==sysModules)=false/\DictP prog w K G o kvs/\∀es ep,o.data=.dict es ep->es.size=kvs.length->(∀(i:Nat)(e:Fn)(p:(Int×Int)×V),es[i]? =some e->kvs[i]? =some p->∃b,e.key=.ref b/\SqT K G b [.int p.1.1,.int p.1.2])->R (BO a o es) H1
theorem DictP.ents{prog:D6}{w:Di}{K:CG}{G:Hp}{o:Obj}{kvs:List ((Int×Int)×V)}(h:DictP prog w K G o kvs):∃es ep,o.ExactDict/\o.data=.dict es ep/\es.size=kvs.length/\∀(i:Nat)(e:Fn)(p:(Int×Int)×V),es[i]? =some e->kvs[i]? =some p->∃b,e.key=.ref b/\SqT K G b [.int p.1.1,.int p.1.2]:=by
 obtain⟨es,ep,ys,hx,hdat,he,nd,rel⟩:=h;refine⟨es,ep,hx,hdat,by rw[<-Dh,he,D5];exact(Paired.length rel).symm,fun i e p h1 h2=>?_⟩;rw[<-CT,he,CS]at h1;obtain⟨y,h3,rfl⟩:=Ds.mp h1;obtain⟨p',h4,h5,h6,h7⟩:=fh rel h3;rw[h2]at h4;cases h4;exact⟨y.2.1,rfl,h6⟩
section
variable{X:Cx}{K:CG}{pos pos':Pos}{o i e tg l:Expr}{td ty tv tl tk:TE}{pins:List (Addr×Obj)}{σ:St}{H:Hp}{s:CM}
theorem vc(hl:PE X l tl):PI X tg l (pf X.prog X.w X.K tl):=by
 intro pins s σ H R I h;refine bO (hl pins s σ H _ I h) fun v s1 zz=>?_;obtain⟨x,H1,I1,r1,q1⟩:=zz;obtain⟨G,a,ob,kvs,e,eG,ha,lo,d,q⟩:=q1;subst e;cases r1;obtain⟨es,ep,hx,hdat,hs,at_⟩:=d.ents;have ho:s1.heap.get? a=some ob:=(I1.hok a _ ha).1;refine lj lo ho hx hdat ?_;refine⟨s1.heap.objs.size,[s1.heap.objs.size],_,_,H1,rfl,I1.kept (t':=s1.toks) fun b o e=>CL _ e,p9 hdat hx<|fun i e he=>?_,CU _ rfl,fun b hb=>?_,q es ep hdat hs at_⟩
 ·have hi:i< kvs.length:=by have:=(Ep.mp he).1;omega
  obtain⟨b,hb,_⟩:=at_ i e _ he<|CK hi;exact⟨b,hb⟩
 ·have e:b=s1.heap.objs.size:=by simpa using hb
  subst e;exact I1.fpOk (CN _)<|I1.hok.fresh<|CN _
def vd(prog:D6)(w:Di)(K:CG)(td ty:TE):TE:=fun σ H Q=>td σ H fun x H1=>ty σ H1 fun y H2=>∃G a kvs b k v,x=.ref a/\PDa prog w K G H2 a kvs/\y=.ref b/\SqT K G b [.int k.1,.int k.2]/\gS kvs k=some v/\Q v H2
theorem xl(hu:X.A.units+1<cLine)(ho:PE X o td)(hi:PE X i ty)(hs:sQ i):PE X (.Subscript o i pos) (vd X.prog X.w X.K td ty):=by
 intro pins s σ H Q I h;refine pW HV.lookup hs<|bO (ho pins s σ H _ I h) fun u s1 zz=>?_;obtain⟨x,H1,I1,rx,q1⟩:=zz;refine bO (hi pins s1 σ H1 _ I1 q1) fun iv s2 zz=>?_;obtain⟨y,H2,I2,ry,G,a,kvs,b,k,v,ex,g,ey,hb,ev,q2⟩:=zz;subst ex ey;obtain rfl:u=DS a:=rx;obtain rfl:iv=DS b:=ry;obtain⟨xs,rel,dd,hx⟩:=g.h I2;obtain⟨ob,eG,ha,lo,_,_⟩:=g;have hT:s2.TypeIs (.ref a) "dict":=by
  obtain⟨od,es,ep,h1,h2,_⟩:=id dd;exact⟨od,h1,h2.1⟩
 refine⟨hT,?_⟩;obtain⟨w',hw,rw'⟩:=M6 (v:=v) (o:=(atKey xs<|iW k).map (·.2)) (by rw[<-ev];exact rel.val k);obtain⟨p,hp,rfl⟩:=Ds.mp hw;exact wpAny_getItem_heap (HQ hu) (eZ I2<|Eu eG hb) dd hp ⟨v,H2,I2.tok _,rw',q2⟩
def ve(prog:D6)(w:Di)(K:CG)(td ty tv:TE):TE:=fun σ H Q=>td σ H fun x H1=>∃a,x=.ref a/\(ty σ H1 fun y H2=>tv σ H2 fun z H3=>∃G kvs b k,PDa prog w K G H3 a kvs/\y=.ref b/\SqT K G b [.int k.1,.int k.2]/\Q ((gS kvs k).getD z) H3)/\∃o kvs G,Same G H1/\H1 a=some (XO a o)/\(a==sysModules)=false/\DictP prog w K G o kvs
theorem se{x:Option V}{y:Option CI}{z:V}{u:CI}(r:RelO x y)(rz:RelV z u):RelV (x.getD z) (y.getD u):=by
 cases x<;>cases y;·exact rz
 ·exact r.elim
 ·exact r.elim
 ·exact r
theorem vf{apos cpos:Pos}{k d:Expr}(hu:X.A.units+1<cLine)(ho:PE X o td)(hk:PE X k tk)(hd:PE X d tv)
  (hbase:attributeBase o (CP "get") X.env (eval o X.env)=eval o X.env:=by rfl)
  (hfew:((backTo cpos<|starEach [k,d] X.env).all (fun x=> !x.1) && (backToKw cpos<|keywordEach [] X.env).all (fun x=>x.1.isSome)
   &&decide (([k,d]:List Expr).length+([]:List IQ).length+(if([]:List IQ).isEmpty then 0 else 1)<30))=true:=by rfl)
  (hline:(apos.endLine==cpos.line)=true:=by rfl) (hs:starEach [k,d] X.env=[(false,eval k X.env),(false,eval d X.env)]:=by rfl):
  PE X (.Call (.Attribute o (CP "get") apos) [k,d] [] cpos) (ve X.prog X.w X.K td tk tv):=by
 intro pins s σ H Q I h;refine IS hbase hfew hline rfl<|bO (ho pins s σ H _ I h) fun v s1 zz=>?_;obtain⟨x,H1,I1,r1,a,e,q1,ob,kvs,G,eG,ha,lo,dp⟩:=zz;subst e;cases r1;obtain⟨es,ep,hx,hdat,_⟩:=dp.ents;have hob:s1.heap.get? a=some ob:=(I1.hok a _ ha).1;refine⟨"dict","dict.get",PySem.F.plainAttrs_dict,PySem.F.slot_dict_get,PySem.F.type_dict_get,⟨ob,hob,hx.1⟩,fun b e2=>?_,?_⟩
 ·cases e2;exact⟨ob,hob,hx.2.1⟩
 ·rw[hs];refine wpAny_dict_get2_heap (knd:=tupleKind<|mixKind X.prog X.w) (HQ hu) lo<|bO (hk pins s1 σ H1 _ I1 q1) fun u s2 zz=>?_;obtain⟨y,H2,I2,r2,q2⟩:=zz;refine bO (hd pins s2 σ H2 _ I2 q2) fun t s3 zz=>?_;obtain⟨z,H3,I3,r3,G3,kvs3,b,kk,g3,ey,hb,q3⟩:=zz;subst ey;obtain rfl:u=DS b:=r2;obtain⟨xs,rel,dd,hz⟩:=g3.h I3;obtain⟨_,eG3,_⟩:=g3;exact⟨b,iW kk,xs,rfl,eZ I3<|Eu eG3 hb,dd,_,H3,I3.tok _,se (rel.val kk) r3,q3⟩
def vg(cap:List (Option Nat))(wi:TI)(g:TG)(tf:TT)(tb:TB):TE:=fun σ H Q=>wi σ H fun J H1=>∀D,H1 D=none->(D==sysModules)=false->rG g tf tb D (bu cap σ) (cI H1 D<|XO D gw) (fun H'=>Q (.ref D) H') J
def ph(prog:D6)(w:Di)(K:CG)(tk tv:TE):TB:=fun D σ H N=>tk σ H fun y H1=>tv σ H1 fun v H2=>∃G kvs b k,PDa prog w K G H2 D kvs/\kvs.length<1000/\y=.ref b/\SqT K G b [.int k.1,.int k.2]/\∀o',DictP prog w K G o' (oE kvs k v)->N (cI H2 D<|XO D o')
theorem vh{Y:Cx}{kx vx:Expr}(hxe:Y.xe=fun _ _=>False)(hu:Y.A.units+1<cLine)(hk:PE Y kx tk)(hv:PE Y vx tv):PB Y (yj kx vx Y.env) (ph Y.prog Y.w Y.K tk tv):=by
 intro D pins s σ H N I h;have hk':=hk pins s σ H _ I h;rw[hxe]at hk';refine CD<|bO hk' fun u s1 zz=>?_;obtain⟨x,H1,I1,r1,q1⟩:=zz;have hv':=hv pins s1 σ H1 _ I1 q1;rw[hxe]at hv';refine CD<|E9<|bO hv' fun r s2 zz=>?_;obtain⟨y,H2,I2,r2,G,kvs,b,k,g,hl,ex,hb,q⟩:=zz;subst ex;obtain rfl:u=DS b:=r1;obtain⟨xs,rel,dd,hx⟩:=g.h I2;obtain⟨ob,eG,ha,lo,_,_⟩:=g;refine CD (Fm (E9 (wpAny_dictSet_heap (hsz:=by rw[Dz];omega) (show(tupleKind<|mixKind Y.prog Y.w).room Y.A from Nat.lt_of_succ_lt hu) (eZ I2<|Eu eG hb) dd fun h' dd' hs=>?_)));obtain⟨o',es,ep,hq,h2,h3,h4,_,h5⟩:=dd';exact⟨σ,_,pV I2 (by rw[ha];exact FX) hs ⟨o',hq⟩<|Mq hq,fun _ _ e=>e,q o' ⟨es,ep,_,h2,h3,h4,h5,rel.put k hb r2⟩⟩
variable{scope:G1}{N:List Str}{cap:List (Option Nat)}{iter kx vx:Expr}{ifs:List Expr}{wi:TI}{g:TG}{tf:TT}{tb:TB}{body:Env->CI->Sem Unit}
theorem iO(hu:X.A.units+1<cLine)(S:CompScope X scope N cap)(hc:X.calm=true)(hi:PI X tg iter wi)
  (hg:∀s H C fp,PG (aA X scope N s H C fp) tg g) (hf:∀s H C fp,sE (aA X scope N s H C fp) ifs tf) (hk:∀s H C fp,PE (aA X scope N s H C fp) kx tk) (hv:∀s H C fp,PE (aA X scope N s H C fp) vx tv)
  (hs:∀x,foldedSetIterable iter X.env x=pure x:=by intro _;rfl):PE X (.DictComp kx vx [⟨tg,iter,ifs,0⟩] scope pos) (vg cap wi g tf<|ph X.prog X.w X.K tk tv):=by
 intro pins s σ H Q I h;rw[arm_eval_DictComp];have frc:∀x∈scope.names,x.2=.free->∃c,X.env.cells.lookup x.1=some c:=fun x hx hk=>I.ok.has x.1<|S.free x hx hk;refine FF (use:=none) rfl hs (dM frc) S.kind (fF S)<|bO (hi pins s σ H _ I h) fun v s1 h1=>bO h1 fun itv s2 h2=>?_;obtain⟨it,fp,tn,J,H2,rfl,I2,T,st2,f2,w⟩:=h2;refine DX ?_;have hz:H2 s2.heap.objs.size=none:=I2.hok.fresh<|CN _;have I3:Inv X pins σ (cI H2 s2.heap.objs.size<|XO s2.heap.objs.size gw) {s2 with heap:=s2.heap.push {cls:=.type "dict",dict:=none,data:=.dict #[]}}:=
  I2.laid (a:=s2.heap.objs.size) (t':=s2.toks) (fun _ _ q=>CL _ q) (CN _) (Mq (o:=gw)<|CU _ rfl)
 have nD:∀b∈fp,b≠s2.heap.objs.size:=fun b hb=>by
  obtain⟨o,e,_⟩:=T.obj _ _ st2 b hb;exact D8<|CV e
 have f3:∀b∈fp,FpOk X pins (cI H2 s2.heap.objs.size<|XO s2.heap.objs.size gw) b:=fun b hb=>⟨by rw[aD<|nD b hb];exact(f2 b hb).1,(f2 b hb).2⟩
 refine jX (RR:=fun C=>compPost (model X.prog X.w) X.A X.xe none (EP X pins σ Q) (.ref s2.heap.objs.size) C) (body:=yj kx vx) S hc CompE.dict rfl hg hf (fun s H C fp=>vh (Y:=aA X scope N s H C fp) rfl hu (hk s H C fp)<|hv s H C fp) (fun _ _ _=>rfl) I3 T (T.keep _ _ _ st2 fun b hb o e=>CL _ e) f3 (w _ hz<|beq_eq_false_iff_ne.mpr<|Fd<|D8 I2.big) fun C σ' H' s' hC I' q=>?_;obtain⟨m,hn,_⟩:=I'.loc;exact⟨m,hn,fun h' hs'=>⟨.ref _,H',l7 I3 f3 hC I' hs',rfl,q⟩⟩
end
end L2
namespace Wb
open PySem L2 Mi
section
variable{Er:Nat->Prop}{α β:Type}{prog:D6}{w:Di}{K:CG}{W W' W0 Wb W1 W2:Wd}{σ:St}{t te tk tv td ti ta:TE}{R:Rp α}{i:Nat}{p:Addr}{D:Ends}{r:TS}
def isPD(prog:D6)(w:Di)(K:CG)(R:Rp α):Rp (List<|(Int×Int)×α):=fun G kvs v=>∃p o vs,v=.ref p/\G p=some (XO p o)/\(p==sysModules)=false/\DictP prog w K G o vs/\vs.length<=1000/\vs.length=kvs.length/\∀(i:Nat)(q:(Int×Int)×V)(x:(Int×Int)×α),vs[i]? =some q->kvs[i]? =some x->q.1=x.1/\R G x.2 q.2
instance zkeep68[Mono R]:Mono (isPD prog w K R):=⟨fun e⟨p,o,vs,h0,h1,h2,h3,h4,h5,h6⟩=>⟨p,o,vs,h0,e _ _ h1,h2,dictP_same h3 e,h4,h5,fun i q x a b=>⟨(h6 i q x a b).1,CB e (h6 i q x a b).2⟩⟩⟩
theorem OwP.frz[Mono R]{kvs:List ((Int×Int)×α)}(o:OwP prog w K R W p kvs)(e:Ext W0 W)(hp:W0.H p=none):
  ∃W',W'.H=W.H/\Ext W0 W'/\Same W.G W'.G/\isPD prog w K R W'.G kvs (.ref p)/\∀q,q≠p->W'.G q=W.G q:=by
 obtain⟨ob,vs,a,lo,b,hl,c,d⟩:=o.h;exact⟨W.frz p _ a,rfl,e.frz hp a o.g,cK o.g,⟨p,ob,vs,rfl,ax,lo,dictP_same b<|cK o.g,hl,c,fun i q x h1 h2=>⟨(d i q x h1 h2).1,CB (cK o.g) (d i q x h1 h2).2⟩⟩,fun q hq=>aD hq⟩
theorem EVp.ev[Mono R]{m:Res (List<|(Int×Int)×α)}(h:EVp prog w K Er t σ W R m):EV Er t σ W (sh<|isPD prog w K R) m:=fun W1 e1 Q k=>h W1 e1 Q (k.imp fun xs kx p W2 e2 hp o=>by
 obtain⟨W3,hH,e3,_,r,_⟩:=o.frz e2 hp;rw[<-hH];exact kx (.ref p) W3 e3 r)
theorem kC[Mono R]{mk:Res (Int×Int)}{mv:Res α}{D:Addr}(eb:Ext Wb W)(hD:Wb.H D=none)(h:EV Er tk σ W (sh<|isT2 K isI isI) mk)(h':EV Er tv σ W (sh R) mv):BV Er (ph prog w K tk tv) σ Wb W (OwP prog w K R) D (fun kvs=>mk.bind fun k=>mv.bind fun a=>gR kvs k a):=fun W1 xs N e1 o k=>
 h W1 e1 _ ((CC k).imp fun b kb x W2 e2 hx=>h' W2 (e1.trans e2) _ ((CC kb).imp fun a ka v W3 e3 hv=>by
  obtain⟨h3,h4⟩:=aW ka;have o':=o.mono (e2.trans e3);obtain⟨ob,vs,o1,lo,o2,hl,o3,o4⟩:=o'.h;obtain⟨p1,p2⟩:=nP o3 o4 (k:=b) hv;have e:=(e1.trans e2).trans e3;obtain⟨q,x1,x2,rfl,t1,r1,r2⟩:=hx;cases r1;cases r2;refine⟨W3.G,vs,q,b,⟨ob,W3.ok,o1,lo,o2,hl⟩,by omega,rfl,Eu e3.g t1,fun o2' d'=>?_⟩;exact h4 (W3.mut D (XO D o2') o'.g) (e2.trans e3).g ((eb.trans e).mut hD o'.g) ⟨o'.g,o2',_,ax,lo,d',by have:=nQ (kvs:=xs) (k:=b) (a:=a);omega,p1,p2⟩))
theorem kD{R0:Rp β}[Mono R]{cap:List (Option Nat)}{wi:TI}{g:TG}{tf:TT}{t:TB}{mi:Res (List β)}{f:β->List ((Int×Int)×α)->Res (List<|(Int×Int)×α)}(hi:IV Er wi σ W R0 mi)
  (hs:∀Wb D W2 a v s(M:Hp->Prop),Same W.G W2.G->Ext W Wb->Wb.H D=none->Ext Wb W2->OwP prog w K R W2 D s->R0 W2.G a v->(f a s).OkE Er (fun s'=>∀W',Same W2.G W'.G->Ext Wb W'->OwP prog w K R W' D s'->M W'.H)->g v (bu cap σ) W2.H fun σ2 H2=>Keep (bu cap σ) σ2/\tf σ2 H2 fun b H3=>if b=true then t D σ2 H3 M else M H3):
  EVp prog w K Er (vg cap wi g tf t) σ W R (mi.bind fun xs=>bE f xs []):=fun W1 e1 Q k=>
 hi W1 e1 _ ((CC k).imp fun xs kx J W2 e2 hy D hD lo=>by
  refine lV (W:=W2) (W1:=W2.mut D (XO D gw) (W2.gnone hD)) (Wb:=W2) (O:=OwP prog w K R) (s0:=[]) hy (.inr (.refl _)) (.own _ hD) ⟨W2.gnone hD,gw,[],ax,lo,nO ..,by decide,rfl,fun i q x h=>by simp at h⟩ (fun W3 a v s M e3 eb3 o3 r k3=>hs W2 D W3 a v s M ((e1.trans e2).g.trans e3) (e1.trans e2) hD eb3 o3 r k3) (fun _ _ _ e o=>o.mono e) ?_;exact kx.imp fun s' ks W' z1 z2 z3=>ks D W' (e2.trans z2) (none_of e2.h hD) z3)
theorem kE{H:Hp}:∀(vs:List ((Int×Int)×V))(kvs:List ((Int×Int)×α)),vs.length=kvs.length->(∀(i:Nat)(q:(Int×Int)×V)(x:(Int×Int)×α),vs[i]? =some q->kvs[i]? =some x->q.1=x.1/\R H x.2 q.2)->∀k,(match look kvs k with|none=>gS vs k=none|some a=>∃v,gS vs k=some v/\R H a v)
 | [],[],_,_,k=>rfl
 | [],_::_,h,_,_=>by simp at h
 |_::_,[],h,_,_=>by simp at h
 |q::vs,x::kvs,hl,h,k=>by
  obtain⟨h1,h2⟩:=h 0 q x rfl rfl;have ih:=kE vs kvs (by simpa using hl) (fun i q x a b=>h (i+1) q x a b) k;by_cases e:x.1=k
  ·have a:look (x::kvs) k=some x.2:=by simp[look,EG,e]
   rw[a,gb<|h1.trans e];exact⟨q.2,rfl,h2⟩
  ·have a:look (x::kvs) k=look kvs k:=by simp[look,EG,e]
   rw[a,gc<|fun z=>e<|h1.symm.trans z];exact ih
theorem jk[Mono R]{md:Res (List<|(Int×Int)×α)}{mk:Res (Int×Int)}(hd:EV Er td σ W (sh<|isPD prog w K R) md)(hk:EV Er tk σ W (sh<|isT2 K isI isI) mk):EV Er (vd prog w K td tk) σ W (sh R) (md.bind fun d=>mk.bind fun k=>getD d k):=fun W1 e1 Q k=>
 hd W1 e1 _ ((CC k).imp fun d kd x W2 e2 hx=>hk W2 (e1.trans e2) _ ((CC kd).imp fun b kb y W3 e3 hy=>by
  obtain⟨p,o,vs,rfl,h1,h2,h3,h4,h5,h6⟩:=(CB (R:=isPD prog w K R) e3.g hx)
  obtain⟨q,x1,x2,rfl,t1,r1,r2⟩:=hy;cases r1;cases r2;obtain⟨a,ha,ka⟩:=dq kb;have lr:=kE vs d h5 h6 b;rw[ha]at lr;obtain⟨v,hv,rv⟩:=lr;exact⟨W3.G,p,vs,q,b,v,rfl,⟨o,W3.ok,W3.ok _ _ h1,h2,h3,h4⟩,rfl,t1,hv,ka v W3 (e2.trans e3) rv⟩))
theorem vi[Mono R]{md:Res (List<|(Int×Int)×α)}{mk:Res (Int×Int)}{mz:Res α}(hd:EV Er td σ W (sh<|isPD prog w K R) md)(hk:EV Er tk σ W (sh<|isT2 K isI isI) mk)(hz:EV Er tv σ W (sh R) mz):EV Er (ve prog w K td tk tv) σ W (sh R) (md.bind fun d=>mk.bind fun k=>mz.bind fun z=>.ok<|sd d k z):=fun W1 e1 Q k=>
 hd W1 e1 _ ((CC k).imp fun d kd x W2 e2 hx=>by
  obtain⟨p,o,vs,rfl,h1,h2,h3,h4,h5,h6⟩:=id hx;refine⟨p,rfl,hk W2 (e1.trans e2) _<|(CC kd).imp fun b kb y W3 e3 hy=>hz W3 ((e1.trans e2).trans e3) _<|(CC kb).imp fun z kz u W4 e4 hu=>?_,o,vs,W2.G,⟨W2.ok,W2.ok _ _ h1,h2,h3⟩⟩;have e34:=e3.trans e4;obtain⟨q,x1,x2,rfl,t1,r1,r2⟩:=hy;cases r1;cases r2;have lr:=kE vs d h5 (fun i q x a b=>⟨(h6 i q x a b).1,CB (R:=R) e34.g (h6 i q x a b).2⟩) b;refine⟨W4.G,vs,q,b,⟨o,W4.ok,W4.ok _ _<|e34.g _ _ h1,h2,dictP_same h3 e34.g,h4⟩,rfl,Eu e4.g t1,?_⟩;have kz:∀v W',Ext W1 W'->sh R W' (sd d b z) v->Q v W'.H:=kz;refine kz _ W4 (e2.trans e34) ?_;unfold sd;cases ha:look d b with
  |none=>
   rw[ha]at lr;have lr:gS vs b=none:=lr;rw[lr];exact hu
  |some a=>
   rw[ha]at lr;obtain⟨v,hv,rv⟩:=lr;rw[hv];exact rv)
theorem vj[Mono R]{m:Res (List<|(Int×Int)×α)}(h:EV Er t σ W (sh<|isPD prog w K R) m):IV Er (pf prog w K t) σ W (isT2 K isI isI) (m.bind fun d=>.ok (d.map (·.1))):=fun W1 e1 P k=>
 h W1 e1 _ ((CC k).imp fun d kd x W2 e2 hx=>by
  obtain⟨p,o,vs,rfl,h1,h2,h3,h4,h5,h6⟩:=hx;refine⟨W2.G,p,o,vs,rfl,W2.ok,W2.ok _ _ h1,h2,h3,fun es ep hdat hs at_=>kd _ W2 e2 fun W3 e3=>⟨fun i a ha=>?_,W3.ok _ _<|e3 _ _ h1,by rw[D5,hs,h5]⟩⟩;rw[CS]at ha;obtain⟨x,hx,rfl⟩:=Ds.mp ha;have hi:i<es.size:=by have:=(CO.mp hx).1;omega
  have hv:i<vs.length:=by omega
  refine⟨⟨W3.ok _ _<|e3 _ _ h1,hi⟩,fun y H'⟨z1,e,he,ry⟩=>⟨W3,z1.symm,.refl _,?_⟩⟩;obtain⟨b,hb,hq⟩:=at_ i e _ he<|CK hv;have:=(h6 i _ x (CK hv) hx).1;rw[this]at hq;rw[hb]at ry;have:y=.ref b:=by
   cases y<;>first|(cases ry;rfl)|(obtain⟨_,z⟩:=ry;cases z)|cases ry
  subst this;exact⟨b,_,_,rfl,Eu e3 hq,rfl,rfl⟩)
end
end Wb
open Wb.EVp renaming ev->MU
namespace L2
open PySem PySem.Spec PyProof.Rows Wb
theorem zt:isSubtype (GZ "range_iterator") (GZ "reversed")=pure false:=by rfl
section
variable{prog:D6}{w:Di}{A:DL}{E:CI->CM->Prop}{s:CM}
theorem gM{r:Addr}{n:Int}{t u v:Tok}{Q:CI->CM->Prop}(hr:IsRange s.heap r 0 n 1 t u v)(h0: -(2^61)<=n)(h1:n<2^61)
  (hQ:Q (.ref s.heap.objs.size) {s with heap:=s.heap.push {cls:=.type "range_iterator",data:=.fields #[rawInt (0+(E6 0 n 1-1)*1),rawInt<|E6 0 n 1,rawInt<|-1]}}):wpAny (model prog w) A (call (.type "reversed") [.ref r]) Q E s:=by
 have hT:s.TypeIs (.ref r) "range":=⟨_,hr,rfl⟩
 refine callType_other (U:="range_iterator") (Q₁:=fun obj s1=>s1.TypeIs obj "range_iterator"/\Q obj s1) rfl F.create_reversed ⟨_,_,F.mro_reversed⟩ F.made_reversed zt (F.typeCall_reversed_1 _) (codeAny_call_builtin F.plain_reversed_new F.entry_reversed_new ?_)<|fun obj s1 h=>h;rw[F.newCall_reversed_1];refine CH ?_;unfold Ej.«reversed.__new__»;rw[newClass_reversed];refine CD<|CH ?_;show wpAny _ _ (K1 "reversed" _ _>>=_) _ _ s;refine CD<|CH ?_;refine CD (m:=checkCount "reversed" 1 1 _)<|CH ?_;show wpAny _ _ (specialOf (.ref r) (CP "__reversed__")>>=_) _ _ s;refine CD<|Hx hT Jj.lookup ?_;show wpAny _ _ (bindSpecial (.builtin "range.__reversed__") (.ref r)>>=_) _ _ s;have hb:bindSpecial (.builtin "range.__reversed__") (.ref r)=pure (.builtin "range.__reversed__",[.ref r]):=by
  unfold bindSpecial;rw[F.type_range_reversed];rfl
 rw[hb];refine CD<|CH ?_;show wpAny _ _ (rule "reversed.__new__.own-method">>=_) _ _ s;refine CD<|Fq ?_;show wpAny _ _ (call (.builtin "range.__reversed__") [.ref r]>>=_) _ _ s;refine CD<|DA Jj hT F.entry_range_reversed ?_<|F.args_range_reversed_1 _;unfold Ej.«range.__reversed__»;refine CD (m:=selfOnly "range.__reversed__" _)<|CH ?_;show wpAny _ _ (HX (.ref r)>>=_) _ _ s;refine CD ?_;unfold HX;refine CD<|EC hr rfl (x:=.int 0 t) rfl<|CD (m:=asInt? _)<|CH ?_;refine CD<|EC hr rfl (x:=.int n u) rfl<|CD (m:=asInt? _)<|CH ?_;refine CD<|EC hr rfl (x:=.int 1 v) rfl<|CD (m:=asInt? _)<|CH ?_;refine CH ?_;have hs:(E2 0&&E2 n&&E2 1&&E2 (-1)&&E2 (0-1)&&E2 (E6 0 n 1))=true:=by
  have e:E6 0 n 1=if 0<n then n else 0:=by
   unfold E6;rw[if_pos (by decide)];split;·rw[M4];omega
   ·rfl
  unfold E2;rw[e];simp only[Ha,decide_eq_true_eq];refine⟨⟨⟨⟨⟨by decide,by omega,by omega⟩,by decide⟩,by decide⟩,by decide⟩,?_,?_⟩<;>split<;>omega
 dsimp only;rw[hs];show wpAny _ _ (newFields "range_iterator" _>>=_) _ _ s;unfold newFields;refine CD<|DX<|CH ⟨_,rfl,CH ?_⟩;exact⟨⟨_,CU _ rfl,rfl⟩,hQ⟩
end
section
variable{X:Cx}{tg:Expr}
def Ay(n:Nat):It:=⟨fun i _=>i<n,fun i H x H'=>H'=H/\x=.int ((n:Int)-1-i),fun i _=>n<=i⟩
theorem nR{P:D6}{w:Di}{K:CG}{tg:Expr}(it:Addr)(n:Nat):Turn P w K tg (Ay n) [it] it (fun i h=>Jo h it (((n:Int)-1)+i*(-1)) ((n:Int)-i)<|-1) where
 mem:=by simp
 obj:=fun i h st b hb=>by
  have e:b=it:=by simpa using hb
  subst e;exact⟨_,st,fun v z=>by
   have z':I9 _=H0 v:=z;cases z'⟩
 keep:=fun i h h' st k=>k it (by simp) _ st
 item:=by
  intro X hP hw hK hc i pins s σ H E I hf st hg;subst hP hw hK;obtain⟨f0,f1,f2,f3,f4,f5⟩:=hf it (by simp);have W:=Walks.range (prog:=X.prog) (w:=X.w) (I.ok.hd hc) it ((n:Int)-1) (-1) n;refine W.item i s _ _ hg st fun v h' tk hv st' kk=>?_;obtain⟨t,rfl⟩:=hv;have I1:Inv X pins σ H {s with heap:=h',toks:=tk}:=I.turned (fun b o hb e=>kk b o (by simpa using hb) e) f0 f1 f3 f4 f5;refine⟨_,rfl,mL (s:={s with heap:=h',toks:=tk}) (n:="range_iterator") st' rfl rfl (by decide) ⟨.int<|(n:Int)-1-i,H,I1,⟨t,?_⟩,⟨rfl,rfl⟩,st',fun b hb=>(hf b hb).1⟩⟩;congr 1;omega
 done:=by
  intro X hP hw hK hc i pins s σ H E I hf st hg;subst hP hw hK;obtain⟨f0,f1,f2,f3,f4,f5⟩:=hf it (by simp);exact IM (I.ok.hd hc) st (by have:n<=i:=hg;omega) fun h' eb=>⟨rfl,I.turned (t':=s.toks) (fun b o hb e=>eb b o hb e) f0 f1 f3 f4 f5⟩
 self:=fun _ _ _ _ _ st h=>GL st h
theorem ik{P:D6}{w:Di}{K:CG}{o i:Expr}{pos:Pos}{td ty:TE}(hP:X.prog=P)(hw:X.w=w)(hK:X.K=K)(hu:X.A.units+1<cLine)(ho:PE X o td)(hi:PE X i ty)(hs:sQ i):PE X (.Subscript o i pos) (vd P w K td ty):=by
 subst hP hw hK;exact xl hu ho hi hs
theorem sf{P:D6}{w:Di}{K:CG}{l:Expr}{tl:TE}(hP:X.prog=P)(hw:X.w=w)(hK:X.K=K)(hl:PE X l tl):PI X tg l (pf P w K tl):=by
 subst hP hw hK;exact vc hl
def yp(ta:TA):TI:=fun σ H R=>ta σ H fun vs H1=>∃j:Int,vs=[.int j]/\ -(2^61)<=j/\j<2^61/\R (Ay j.toNat) H1
theorem pj(n:Int):E6 0 n 1=(n.toNat:Int):=by
 unfold E6;rw[if_pos (by decide)];split;·rw[M4];omega
 ·omega
theorem si{a:Expr}{ta:TA}{p p2 pos pos2:Pos}(hg:Gl X "reversed")(hm:X.mg "reversed"=none)(hg2:Gl X "range")(hm2:X.mg "range"=none)(ha:PA X [a] ta)
  (hs0:starEach [.Call (.Name "range" p2) [a] [] pos2] X.env=[(false,eval (.Call (.Name "range" p2) [a] [] pos2) X.env)]:=by rfl)
  (hs:starEach [a] X.env=[(false,eval a X.env)]:=by rfl):PI X tg (.Call (.Name "reversed" p) [.Call (.Name "range" p2) [a] [] pos2] [] pos) (yp ta):=by
 intro pins s σ H R I h;refine MK<|fY I hg hm boot_reversed<|Ek ?_ hs0 rfl;rw[hs0];show wpAny _ _ (spliced ((false,eval (.Call (.Name "range" p2) [a] [] pos2) X.env)::[])) _ _ s;refine JR ?_;refine MK<|fY I hg2 hm2 boot_range<|Ek (bO (ha pos2 pins s σ H _ I h) fun us s1⟨vs,H1,I1,r1,q1⟩=>?_) hs rfl;obtain⟨j,e,q1,q2,q⟩:=q1;subst e;cases r1 with
 |cons r rr=>
  cases rr;obtain⟨t,rfl⟩:=r;refine call_range_1<|K5 ?_;refine gM (Mg ..) q1 q2 ?_;rw[pj];have st:∀h:Heap,Jo (h.push {cls:=.type "range_iterator",data:=.fields #[rawInt (0+((j.toNat:Int)-1)*1),rawInt (j.toNat:Int),rawInt<|-1]}) h.objs.size (((j.toNat:Int)-1)+((0:Nat):Int)*(-1)) ((j.toNat:Int)-((0:Nat):Int)) (-1):=fun h=>by
   have e1:((j.toNat:Int)-1)+((0:Nat):Int)*(-1)=0+((j.toNat:Int)-1)*1:=by omega
   have e2:(j.toNat:Int)-((0:Nat):Int)=(j.toNat:Int):=by omega
   rw[e1,e2];exact CU _ rfl
  refine GL (st _) ?_;refine⟨_,[_],_,_,H1,rfl,I1.kept<|fun b o e=>CL _<|CL _ e,nR _ j.toNat,st _,fun b hb=>?_,q⟩;have e:=G0.mp hb;subst e;have hle:∀o:Obj,s1.heap.objs.size<=(s1.heap.push o).objs.size:=fun o=>by rw[EN];exact Ic _
  exact I1.fpOk (hle _)<|I1.hok.fresh<|hle _
end
end L2
namespace Wb
open PySem L2 Mi
section
variable{Er:Nat->Prop}{W:Wd}{σ:St}{ta:TE}
theorem sj{m:Res Int}(h:EV Er ta σ W (sh isI) m):IV Er (yp<|ai ta aL) σ W isI (m.bind fun i=>mn i):=fun W1 e1 P k=>
 h W1 e1 _ ((CC k).imp fun i ki v W2 e2 hv=>by
  cases hv;obtain⟨⟨h1,h2⟩,h3⟩:=aW ki;refine⟨i,rfl,h1,h2,h3 _ W2 e2 fun W3 e3=>⟨fun j a ha=>?_,?_⟩⟩
  ·unfold ff at ha;have hj:j<i.toNat:=by
    have:=(CO.mp ha).1;simpa using this
   rw[Fw (by simpa using hj),D5,Ih,CS,Fi (by omega)]at ha;cases ha;refine⟨hj,fun y H'⟨z1,z2⟩=>⟨W3,z1.symm,.refl _,?_⟩⟩;rw[z2];show FT _=FT ((i.toNat-1-j:Nat):Int);congr 1;omega
  ·show i.toNat<=(ff i).reverse.length;unfold ff;simp)
end
end Wb
namespace L2
open PySem PySem.Spec PyProof.Rows
def BP:A1:=fun x y H Q=>∃i j,x=.str i/\y=.str j/\i.length+j.length<=sizeLine/\Q (.str<|i++j) H
theorem xm{X:Cx}:AJ X .Add BP:=mP
section
variable{X:Cx}
theorem fA(i:Nat){x:Str}{pos:Pos}(hN:X.N.Nodup:=by exact MJ (by assumption))(hi:X.N[i]? =some x:=by rfl)(hx:yb X.env.scope x:=by first|exact M1 rfl|exact L3 rfl)(hf:X.fn x=true\/X.env.scope.names.lookup x=some .local:=by first|exact .inl rfl|exact .inr rfl|assumption):PG X (.Name x pos) (aM i):=bj hN hi hx hf
theorem cm(i:Nat){x:Str}{e:Expr}{te:TE}{pos pos':Pos}(he:PE X e te)(hN:X.N.Nodup:=by exact MJ (by assumption))(hi:X.N[i]? =some x:=by rfl)(hx:yb X.env.scope x:=by first|exact M1 rfl|exact L3 rfl)(hs:swapsWith e (some<|.Name x pos') pos.line X.env=pure false:=by rfl)(hf:X.fn x=true\/X.env.scope.names.lookup x=some .local:=by first|exact .inl rfl|exact .inr rfl|assumption):PS X (.Assign [.Name x pos'] e pos) (bK te<|aM i):=yI hN hi hx he hs hf
theorem cU{x:Str}{ps:List Str}{k:Nat}{sp:Sp}{p pos:Pos}{e:Expr}{es:List Expr}{t:TA}(C:Cal X.prog X.w X.K X.mg X.base x ps k sp)(ha:PA X (e::es) t)(hr:Room k X.A:=by exact Room.mono (by assumption) (by decide))(hg:Gl X x:=by rfl)
  (hdb:(x==("__debug__" :Str))=false:=by decide) (he:starEach (e::es) X.env=(false,eval e X.env)::starEach es X.env:=by rfl) (hpl:(backTo pos<|starEach es X.env).any (·.1)=false:=by rfl):PE X (.Call (.Name x p) (e::es) [] pos) (aT sp [] E0 t):=tq C hr hg ha hdb he hpl
end
end L2
namespace Wb
open PySem L2 Mi
section
variable{Er:Nat->Prop}{W:Wd}{σ:St}{te:TE}{D:Ends}{r:TS}{i:Nat}
theorem xn{a:Tx}{m:Res Tx}{σ':Tx->St}(h:EV Er te σ W (sh isS) m)(q:(m.bind fun b=>j6 a b).OkE Er fun c=>∀W',Ext W W'->D.nx (σ' c) W'.H)(hi:σ[i]? =some (some<|.str<|aP a):=by rfl)(hσ:∀c,σ.set i (some<|.str<|aP c)=σ' c:=by intro _;rfl):wc i te BP D σ W.H:=
 ⟨.str<|aP a,hi,h W (.refl _) _ ((CC q).imp fun b kb v W' e hv=>by
  cases hv;obtain⟨h3,h4⟩:=aW kb;refine⟨aP a,aP b,rfl,rfl,?_,?_⟩;·rw[dJ,dJ,Dz];unfold Mi.cap at h3;omega
  ·have:=h4 W' e;rw[<-hσ,<-jz]at this;exact this)⟩
theorem aS{i:Nat}{a:Int}(h:σ[i]? =some (some<|.int a):=by rfl):EV Er (bz i) σ W (sh isI) (.ok a):=gU (R:=sh isI) (v:=.int a) rfl h
theorem dH{i:Nat}{a:Tx}(h:σ[i]? =some (some<|.str<|aP a):=by rfl):EV Er (bz i) σ W (sh isS) (.ok a):=gU (R:=sh isS) (v:=.str<|aP a) rfl h
theorem BI{i:Nat}{a:Bool}(h:σ[i]? =some (some<|.bl a):=by rfl):EV Er (bz i) σ W (sh isB) (.ok a):=gU (R:=sh isB) (v:=.bl a) rfl h
theorem aJ{α:Type}{R:Rp α}[Mono R]{i:Nat}{a:α}{v:V}(r:R W.G a v)(h:σ[i]? =some (some v):=by rfl):EV Er (bz i) σ W (sh R) (.ok a):=gU (R:=sh R) r h
end
abbrev qA(K:CG):=isT3 K isS isS isI
abbrev qB(K:CG):=isT3 K isS isS isS
abbrev qC(K:CG):=isT2 K isI isI
abbrev qD(K:CG):=isL<|qB K
abbrev qE(K:CG):=isL<|qC K
def DI(K:CG)(x:Str)(st:Stmt)(ps:List Str):Prop:=∃f fd,Fun K x x st f fd/\DB K mainGlobals x=some (some<|.ref f)/\Binds K fd ps []
section
variable{P:D6}{w:Di}{K:CG}{mg:Str->Option CI}{base h:Heap}{x:Str}{st:Stmt}{ps:List Str}{n:Nat}{sp:Sp}{f:Addr}
def Az:List Str->List CI->List CI
 | [],_=>[]
 |_::r,us=>us.headD .none::Az r us.tail
theorem vm:∀(ps:List Str)(us:List CI),us.length=ps.length->Az ps us=us
 | [],us,h=>(List.eq_nil_of_length_eq_zero h).symm
 |_::r,[],h=>by cases h
 |_::r,a::us,h=>by
  show a::Az r us=_;rw[vm r us<|Nat.succ.inj h]
theorem DI.mk{oc:CI}{od an:Option Addr}{osl:Array (Option CI)}{kV doc pm cdv ct:CI}(da:DB K mainGlobals x=some (some<|.ref f))(dl:K.lookup f=some ⟨oc,od,.func<|F6 x x (defArgs st) (defBody st) (defScope st) .none kV doc pm an cdv ct,osl⟩)
  (dc:Ge K cdv x=true) (dk:FK K (.ref f)=true) (db:∀(kV doc pm:CI)(an:Option Addr)(cdv ct:CI)(us:List CI),bindArgs (F6 x x (defArgs st) (defBody st) (defScope st) .none kV doc pm an cdv ct) ⟨Az ps us,[]⟩=pure (ps.zip<|Az ps us)):DI K x st ps:=
 ⟨f,_,lK dl dc dk,da,(lK dl dc dk).binds fun kV doc pm an cdv ct us hl=>by
  have:=db kV doc pm an cdv ct us;rw[vm ps us hl]at this;exact this⟩
theorem DI.cal(d:DI K x st ps)(X:K.In h)(G:h.Ns mainGlobals mg)(r:∀{f fd},Fun K x x st f fd->FnOk P w K mg base CX0 n f fd ps sp):Cal P w K mg base x ps n sp:=by
 obtain⟨f,fd,F,a,b⟩:=d;exact⟨f,fd,r F,F7 X G a,F.kp,b⟩
end
section
variable{Er:Nat->Prop}{α β γ δ:Type}{K:CG}{W W' W0:Wd}{σ:St}{t ta tb tz te tp:TE}{D:Ends}{i k:Nat}{r:TS}{cs:List TC}{R1:Rp α}{R2:Rp β}
def oT3(K:CG)(R1:Rp α)(R2:Rp β)(R:Rf γ):Rf (α×β×γ):=fun W F a v=>∃(p:Addr)(x y z:V)(F1:FS),v=.ref p/\W.G p=none/\W.H p=some (.tup [x,y,z])/\R1 W.G a.1 x/\R2 W.G a.2.1 y/\R W F1 a.2.2 z/\¬F1 p/\∀q,F q↔q=p\/F1 q
instance zkeep69[Mono R1][Mono R2]{R:Rf γ}[FrT R]:FrT (oT3 K R1 R2 R):=⟨fun⟨p,x,y,z,F1,e,g,h,h1,h2,t,np,hF⟩s k=>by
 have kp:=k p<|(hF p).mpr (.inl rfl);exact⟨p,x,y,z,F1,e,by rw[kp.2];exact g,by rw[kp.1];exact h,CB s h1,CB s h2,FrT.fr t s fun q hq=>k q<|(hF q).mpr (.inr hq),np,hF⟩,fun⟨p,x,y,z,F1,e,g,h,h1,h2,t,np,hF⟩q hq=>by
 rcases (hF q).mp hq with rfl|hq;·exact⟨g,nn_of h⟩
 ·exact Lf t q hq⟩
instance zkeep70[Mono R1][Mono R2]{R:Rf γ}{R':Rp γ}[FzT R R']:FzT (oT3 K R1 R2 R) (isT3 K R1 R2 R'):=⟨fun⟨p,x,y,z,F1,e,g,h,h1,h2,t,np,hF⟩s k=>⟨p,x,y,z,e,JZ (by rw[k p<|(hF p).mpr (.inl rfl)];exact h),CB s h1,CB s h2,FzT.fz t s fun q hq=>k q<|(hF q).mpr (.inr hq)⟩⟩
theorem oT3.made[Mono R1][Mono R2]{R:Rf γ}[FrT R]{F:FS}{x y z:V}{a:α}{b:β}{c:γ}{p:Addr}(hp:W.H p=none)(h1:R1 W.G a x)(h2:R2 W.G b y)(h3:R W F c z):oT3 K R1 R2 R (W.mut p (.tup [x,y,z])<|W.gnone hp) (fun q=>q=p\/F q) (a,b,c) (.ref p):=
 ⟨p,x,y,z,F,rfl,W.gnone hp,ax,h1,h2,M7 h3<|.own _ hp,fun q=>(Lf h3 p q).2 hp,fun _=>Jz⟩
theorem vn[Mono R1][Mono R2]{R:Rf γ}[FrT R]{ma:Res α}{mb:Res β}{mc:Res γ}(ha:EV Er ta σ W (sh R1) ma)(hb:EV Er tb σ W (sh R2) mb)(hc:EVt Er tz σ W R mc):
  EVt Er (cj<|ai ta<|ai tb<|ai tz aL) σ W (oT3 K R1 R2 R) (ma.bind fun a=>mb.bind fun b=>mc.bind fun c=>.ok (a,b,c)):=fun W1 e1 Q k=>
 ha W1 e1 _ ((CC k).imp fun a ka x W2 e2 hx=>hb W2 (e1.trans e2) _ ((CC ka).imp fun b kb y W3 e3 hy=>hc W3 ((e1.trans e2).trans e3) _ ((CC kb).imp fun c kc z W4 F e4 hF hz=>⟨(by show 3<=sizeLine;decide),fun p hp=>
  kc (.ref p) _ _ (((e2.trans e3).trans e4).trans (.own _ hp)) (fun q hq=>by
   rcases hq with rfl|hq;·exact none_of ((e2.trans e3).trans e4).h hp
   ·exact none_of (e2.trans e3).h (hF q hq)) (oT3.made hp (CB (R:=R1) (e3.trans e4).g hx) (CB (R:=R2) e4.g hy) hz)⟩)))
theorem pq[Mono R1][Mono R2]{R:Rf γ}[FrT R]{ma:Res α}{mb:Res β}{c:γ}{v:V}(S:Sep W0 W cs)(E:Ext W0 W)(hc:cs[k]? =some (tc R c v))(ha:EV Er ta σ W (sh R1) ma)(hb:EV Er tb σ W (sh R2) mb)
  (q:(ma.bind fun a=>mb.bind fun b=>.ok (a,b,c)).OkE Er fun r=>∀u W' F,Ext W0 W'->(∀q,F q->W0.H q=none)->oT3 K R1 R2 R W' F r u->D.rt u W'.H) (hi:σ[i]? =some (some v):=by rfl):bW (cj<|ai ta<|ai tb<|ai (bz i) aL) D σ W.H:=
 ha W (.refl _) _ ((CC q).imp fun a ka x W1 e1 hx=>hb W1 e1 _ ((CC ka).imp fun b kb y W2 e2 hy=>⟨v,hi,(by show 3<=sizeLine;decide),fun p hp=>by
  obtain⟨Fs,s⟩:=S;have t:R W (Fs k) c v:=s.el k _ hc;exact kb (.ref p) _ _ (((E.trans e1).trans e2).trans (.own _ hp)) (fun q hq=>by
   rcases hq with rfl|hq;·exact none_of ((E.trans e1).trans e2).h hp
   ·exact s.nw k q hq) (oT3.made hp (CB (R:=R1) e2.g hx) hy (M7 t (e1.trans e2)))⟩))
theorem yq{R:Rf γ}[FrT R][Mono R1][Mono R2]{C:δ->List TC}{m:Res ((α×β×γ)×(α×β×γ->δ))}(h:EV Er t σ W (Lens W0 C<|oT3 K R1 R2 R) m):EV Er (cW (cu K) t<|tC<|.int 2) σ W (Lens W0 C R) (m.bind fun x=>.ok (x.1.2.2,fun b=>x.2 (x.1.1,x.1.2.1,b))):=fun W1 e1 Q k=>
 h W1 e1 _ ((CC k).imp fun a ka v W2 e2⟨F,⟨p,x,y,z,F1,e,g,h,h1,h2,t,np,hF⟩,hn,up⟩=>⟨p,_,2,z,e,rfl,JZ h,rfl,ka z W2 e2 ⟨F1,t,fun q hq=>hn q<|(hF q).mpr (.inr hq),fun W' F' b' mu hF' t'=>by
  refine up W' (fun q=>q=p\/F' q) (a.1.1,a.1.2.1,b') (mu.up fun q hq=>(hF q).mpr (.inr hq)) (fun q hq=>?_) ⟨p,x,y,z,F',e,by rw[mu.k p<|nn_of h];exact g,by rw[mu.h p np<|nn_of h];exact h,CB mu.g h1,CB mu.g h2,t',fun z=>?_,fun q=>Jz⟩
  ·rcases hq with z | z;·exact .inl ((hF q).mpr (.inl z))
   ·exact(hF' q z).imp (fun y=>(hF q).mpr (.inr y)) id
  ·exact(hF' p z).elim np (nn_of h)⟩⟩)
theorem vo{R:Rf β}[FrT R]{C:α->List TC}{mp:Res (List β×(List β->α))}{m:Res β}(E:Ext W0 W)(hp:EV Er tp σ W (Lens W0 C<|oL R) mp)(h:EVt Er te σ W R m)(q:(mp.bind fun p=>m.bind fun x=>(dB p.1 x).bind fun b=>.ok<|p.2 b).OkE Er fun a'=>∀W',Same W.G W'.G->Ext W0 W'->Sep W0 W' (C a')->D.nx σ W'.H):
  b6 (ee K "list" ay tp<|ai te aL) D σ W.H:=hp W (.refl _) _ ((CC q).imp fun p kp u W1 e1⟨F,⟨p0,vs,Fs,e,g,hl,t,np,hF⟩,n,up⟩=>by
 subst e;refine⟨.inl ⟨rfl,vs,EB hl⟩,h W1 e1 _<|(CC kp).imp fun x kx v W2 F2 e2 hF2 hv=>?_⟩;obtain⟨h3,h4⟩:=aW<|CC kx;have hl2:W2.H p0=some (.lst vs):=e2.h _ _ hl;have g2:W2.G p0=none:=by rw[e2.k p0<|nn_of hl];exact g
 have n2:¬F2 p0:=fun z=>nn_of hl<|hF2 p0 z;have m1:MuF (· =p0) W2 (W2.mut p0 (.lst<|vs++[v]) g2):=MuF.of (F:=(· =p0)) rfl g2;have hp0:F p0:=(hF p0).mpr (.inl rfl);have lv:∀j q,Fs j q->W1.H q≠none:=fun j q hq=>by
  obtain⟨_,_,_,_,r⟩:=t.at2 hq;exact(Lf r q hq).2
 have key:∀j q,(if j=p.1.length then F2 else Fs j) q->(j=p.1.length/\F2 q)\/(j<p.1.length/\Fs j q):=fun j q h=>by
  by_cases z:j=p.1.length;·exact .inl ⟨z,by simpa [if_pos z] using h⟩
  ·have h':Fs j q:=by simpa [if_neg z] using h
   exact .inr ⟨t.rng j q h',h'⟩
 refine⟨p0,vs,v,rfl,rfl,hl2,by rw[t.len,Dz];unfold Mi.cap at h3;omega,h4 (W2.mut p0 (.lst<|vs++[v]) g2) (e1.trans e2).g (((E.trans e1).trans e2).mut (n p0 hp0) g2) (up _ (fun q=>q=p0\/∃j,(if j=p.1.length then F2 else Fs j) q) _ (e2.muF.trans (m1.up (F':=F) fun q hq=>by rw[hq];exact hp0) fun q hq=>.inl hq) (fun q hq=>?_) ⟨p0,vs++[v],fun j=>if j=p.1.length then F2 else Fs j,rfl,g2,ax,⟨by simp[t.len],fun j x' y a1 a2=>?_,fun j q hq=>?_,fun j j2 q q1 q2=>?_⟩,fun j hj=>?_,fun q=>Jz⟩)⟩
 ·rcases hq with rfl | ⟨j,hj⟩
  ·exact .inl hp0
  ·rcases key j q hj with⟨_,z⟩ | ⟨_,z⟩
   ·exact .inr (hF2 q z)
   ·exact .inl ((hF q).mpr (.inr ⟨j,z⟩))
 ·by_cases z:j< p.1.length
  ·rw[D3 z]at a1;rw[D3 (by rw[t.len];exact z)]at a2;simp only[if_neg (D8 z)];exact FrT.mu (M7 (t.el j x' y a1 a2) e2) m1 fun q a b=>np j (b▸a)
  ·rw[D4 (by omega)]at a1;rw[D4 (by rw[t.len];omega),t.len]at a2;have z2:j-p.1.length=0:=by
    refine Fy fun y=>?_;rw[DJ.mpr (by simp;omega)]at a1;cases a1
   rw[z2]at a1 a2;cases a1;cases a2;have z3:j=p.1.length:=by omega
   simp only[if_pos z3];exact FrT.mu hv m1 fun q a b=>n2 (b▸a)
 ·rw[F0,Fv];rcases key j q hq with⟨a,_⟩|⟨a,_⟩<;>omega
 ·rcases key j q q1 with⟨z1,a⟩ | ⟨z1,a⟩ <;> rcases key j2 q q2 with⟨z2,b⟩ | ⟨z2,b⟩
  ·omega
  ·exact absurd (hF2 q a) (lv _ _ b)
  ·exact absurd (hF2 q b) (lv _ _ a)
  ·exact t.dj j j2 q a b
 ·rcases key j p0 hj with⟨_,z⟩ | ⟨_,z⟩
  ·exact n2 z
  ·exact np j z)
theorem pA{R:Rf β}[FrT R]{C:α->List TC}{mp:Res (List β×(List β->α))}{m:Res β}(E:Ext W0 W)(hp:EV Er tp σ W (Lens W0 C<|oL R) mp)(h:EVt Er te σ W R m)(q:(mp.bind fun p=>m.bind fun x=>(dB p.1 x).bind fun b=>.ok<|p.2 b).OkE Er fun a'=>∀W',Same W.G W'.G->Ext W0 W'->Sep W0 W' (C a')->r D σ W'.H):
  eQ (b6<|ee K "list" ay tp<|ai te aL) r D σ W.H:=vo (D:={D with nx:=r D}) E hp h q
end
end Wb
namespace L2
open PySem PySem.Spec PyProof.Rows Wb
end L2
namespace Wb
open PySem L2 Mi
end Wb
namespace Mi
noncomputable section
@[irreducible]noncomputable def AO(Z0k:List Int)(l_k:Int):Res Int:=if(decide<|l_k<(Z0k.length:Int))then fj Z0k l_k else(jH ((l_k*48271)+(11:Int))<|(Z0k.length:Int)+(7:Int)).bind fun y8=>CJ<|y8%1000003
def iX(Z0k:List Int)(l_k:Int):Res Int:=AO Z0k l_k
@[irreducible]noncomputable def zN(Z05:Int)(Z1i:Int)(a19:Int)(s20:(Int×Int×(List Int))):Res (Int×Int×(List Int)):=((if(decide<|(1000000000000000000:Int)<=eu Z05)then CJ (decide<|(0:Int)<s20.2.1)else CJ false).bind fun y45=>(if y45 then((kL s20.2.1 Z1i).bind fun y56=>dB s20.2.2 y56).bind fun y55=>(jI s20.2.1 Z1i).bind fun y59=>CJ (y59,y55)else((((jH ((((s20.1*48271)+(7919:Int))+a19)%2147483647)<|(((s20.1*48271)+(7919:Int))+a19)%2147483647).bind fun y63=>CJ<|y63%1000003).bind fun y64=>kL y64 Z1i).bind fun y69=>dB s20.2.2 y69).bind fun y68=>CJ (s20.2.1,y68):Res (Int×(List Int)))).bind fun s70=>CJ (((((s20.1*48271)+(7919:Int))+a19)%2147483647),s70.1,s70.2)
@[irreducible]noncomputable def AQ(Z05:Int)(Z0s:Int)(Z1i:Int):Res (List Int):=((gf Z0s).bind fun y78=>bE (zN Z05 Z1i) y78 (((eu Z05)%2147483647),eu Z05,([]:List Int))).bind fun s79=>CJ s79.2.2
def gH(Z05:Int)(Z0s:Int)(Z1i:Int):Res (List Int):=AQ Z05 Z0s Z1i
@[irreducible]noncomputable def zO(y3:Int)(y8:List Int)(a15:Int)(s16:Tx):Res Tx:=(((((fj y8 (4:Int)).bind fun y39=>((kL a15 y3).bind fun y38=>CJ<|y38*7).bind fun y40=>CJ<|y39+y40).bind fun y41=>CJ<|y41%26).bind fun y42=>fe ([97,98,99,100,101,102,103,104,105,106,107,108,109,110,111,112,113,114,115,116,117,118,119,120,121,122]:Tx) y42).bind fun y43=>j6 s16 y43).bind fun y44=>CJ y44
@[irreducible]noncomputable def AR(gH:Int->Int->Int->Res (List Int))(Z05:Int):Res Tx:=(fj [(1:Int),(2:Int),(3:Int),(4:Int),(26:Int)]<|Z05%5).bind fun y3=>(gH (Z05/5) (5:Int) (26:Int)).bind fun y8=>(bE (zO y3 y8) (cut y8 none<|some (4:Int)) ([]:Tx)).bind fun s47=>CJ s47
def xo(Z05:Int):Res Tx:=AR gH Z05
@[irreducible]noncomputable def AS(xo:Int->Res Tx)(Z05:Int):Res Cd:=(fe ([83,90]:Tx)<|Z05%2).bind fun y1=>(xo<|Z05/8).bind fun y2=>CJ (y1,y2,((Z05/2)%4))
def w4(Z05:Int):Res Cd:=AS xo Z05
@[irreducible]noncomputable def AU(gH:Int->Int->Int->Res (List Int))(Z05:Int)(Z0s:Int):Res Tx:=if(decide<|(Z05%7)=(3:Int))then(fe ([102,98,105]:Tx)<|(Z05/7)%3).bind fun y3=>yW y3 Z0s else((gH (Z05/7) Z0s (3:Int)).bind fun y18=>eg y18<|fun(a9:Int)=>fe ([102,98,105]:Tx) a9).bind fun y19=>mZ y19
def xp(Z05:Int)(Z0s:Int):Res Tx:=AU gH Z05 Z0s
@[irreducible]noncomputable def AW(Z0P:Tx):Res Int:=(j7 ([98,105,102]:Tx) Z0P).bind fun y1=>CJ<|y1-(1:Int)
def oo(Z0P:Tx):Res Int:=AW Z0P
@[irreducible]noncomputable def AX(oo:Tx->Res Int)(Z02:Cd)(Z0P:Tx):Res Cd:=(((oo Z0P).bind fun y1=>CJ<|Z02.2.2+y1).bind fun y2=>CJ<|y2%4).bind fun y3=>CJ (Z02.1,Z02.2.1,y3)
def jl(Z02:Cd)(Z0P:Tx):Res Cd:=AX oo Z02 Z0P
@[irreducible]noncomputable def AY(oo:Tx->Res Int)(Z02:Cd)(Z0P:Tx):Res Int:=if(decide<|Z02.1=([83]:Tx))then oo Z0P else(oo Z0P).bind fun y8=>CJ<|(0:Int)-y8
def iP(Z02:Cd)(Z0P:Tx):Res Int:=AY oo Z02 Z0P
@[irreducible]noncomputable def zP(jl:Cd->Tx->Res Cd)(iP:Cd->Tx->Res Int)(a7:Tx)(s8:(Cd×(List Pl))):Res (Cd×(List Pl)):=(jl s8.1 a7).bind fun y34=>(((iP y34 a7).bind fun y39=>CJ<|y39+(1:Int)).bind fun y40=>fe ([122,111,115]:Tx) y40).bind fun y41=>(((fe y34.2.1 y34.2.2).bind fun y44=>(fe y34.2.1<|(y34.2.2+(2:Int))%4).bind fun y45=>CJ (y44,y45,y41)).bind fun y50=>dB s8.2 y50).bind fun y49=>CJ (y34,y49)
@[irreducible]noncomputable def AZ(jl:Cd->Tx->Res Cd)(iP:Cd->Tx->Res Int)(Z02:Cd)(Z09:Tx):Res (List Pl):=(bE (zP jl iP) (cM Z09) (Z02,([]:List Pl))).bind fun s51=>CJ s51.2
def xq(Z02:Cd)(Z09:Tx):Res (List Pl):=AZ jl iP Z02 Z09
@[irreducible]noncomputable def zQ(a16:Pl×Int)(s17:(Int×(List Pl))):Res (Int×(List Pl)):=((if(decide<|a16.2=(5:Int))then CJ (decide<|s17.1<(6:Int))else CJ false).bind fun y45=>(if y45 then CJ ((s17.1+(1:Int)),(([63]:Tx),a16.1.2.1,([63]:Tx)))else CJ (s17.1,a16.1):Res (Int×Pl))).bind fun s61=>(dB s17.2 s61.2).bind fun y74=>CJ (s61.1,y74)
@[irreducible]noncomputable def B0(gH:Int->Int->Int->Res (List Int))(Z0m:List Pl)(Z05:Int):Res (List Pl):=(gH (Z05/3) (Z0m.length:Int) (11:Int)).bind fun y13=>(bE zQ (Z0m.zip y13) ((0:Int),([]:List Pl))).bind fun s75=>(if(decide<|(Z05%3)=(2:Int))then(kL (Z05/3) (Z0m.length:Int)).bind fun y87=>((((fj s75.2 y87).bind fun y90=>CJ y90.1).bind fun y92=>((fj s75.2 y87).bind fun y91=>CJ y91.2.1).bind fun y93=>(fe ([115,122,111]:Tx)<|(Z05/7)%3).bind fun y94=>CJ (y92,y93,y94)).bind fun y98=>jJ s75.2 y87 y98).bind fun y99=>CJ y99 else CJ s75.2:Res (List Pl)).bind fun s101=>CJ s101
def xr(Z0m:List Pl)(Z05:Int):Res (List Pl):=B0 gH Z0m Z05
@[irreducible]noncomputable def zR(Z05:Int)(a14:Pl×Int)(s15:(List Pl)):Res (List Pl):=(if(decide<|(Z05%5)=(0:Int))then CJ ((a14.2/8)*8)else CJ a14.2:Res Int).bind fun s56=>(if(decide<|(Z05%5)=(1:Int))then CJ (((s56/8)*8)+(7:Int))else CJ s56:Res Int).bind fun s75=>((if(decide<|(56:Int)<=s75)then CJ (decide<|(s75%3)<(2:Int))else CJ false).bind fun y90=>(if y90 then(((((fj [a14.1.1,a14.1.2.1,a14.1.2.2]<|s75%3).bind fun y101=>j7 ([97,98,99,100,101,102,103,104,105,106,107,108,109,110,111,112,113,114,115,116,117,118,119,120,121,122,97]:Tx) y101).bind fun y102=>CJ<|y102+(1:Int)).bind fun y103=>fe ([97,98,99,100,101,102,103,104,105,106,107,108,109,110,111,112,113,114,115,116,117,118,119,120,121,122,97]:Tx) y103).bind fun y107=>jJ [a14.1.1,a14.1.2.1,a14.1.2.2] (s75%3) y107).bind fun y108=>CJ y108 else CJ [a14.1.1,a14.1.2.1,a14.1.2.2]:Res (List Tx))).bind fun s110=>((if(decide<|(56:Int)<=s75)then CJ (decide<|(s75%3)=(2:Int))else CJ false).bind fun y120=>(if y120 then((((fj s110 (2:Int)).bind fun y127=>j7 ([115,122,111]:Tx) y127).bind fun y128=>fe ([122,111,115]:Tx) y128).bind fun y132=>jJ s110 (2:Int) y132).bind fun y133=>CJ y133 else CJ s110:Res (List Tx))).bind fun s135=>(((eg (s135.zip [(1:Int),(2:Int),(4:Int)]) (fun(a149:Tx×Int)=>(((jI s75 a149.2).bind fun y158=>CJ<|y158%2).bind fun y159=>CJ<|decide<|y159=(1:Int)).bind fun y160=>if y160 then CJ a149.1 else CJ ([63]:Tx))).bind fun y163=>yX y163).bind fun y168=>dB s15 y168).bind fun y167=>CJ y167
@[irreducible]noncomputable def B6(gH:Int->Int->Int->Res (List Int))(Z0m:List Pl)(Z05:Int)(Z1p:Bool):Res (List Pl):=(((jH (8:Int) (if Z1p then(1:Int)else 0)).bind fun y9=>CJ<|(56:Int)+y9).bind fun y10=>gH (Z05/5) (Z0m.length:Int) y10).bind fun y11=>(bE (zR Z05) (Z0m.zip y11) ([]:List Pl)).bind fun s169=>CJ s169
def xt(Z0m:List Pl)(Z05:Int)(Z1p:Bool):Res (List Pl):=B6 gH Z0m Z05 Z1p
@[irreducible]noncomputable def B7(Z02:Cd):Res Cd:=((j7 ([83,90]:Tx) Z02.1).bind fun y5=>fe ([90,83]:Tx) y5).bind fun y12=>((((fe Z02.2.1 (0:Int)).bind fun y6=>(fe Z02.2.1 (3:Int)).bind fun y7=>j6 y6 y7).bind fun y8=>(fe Z02.2.1 (2:Int)).bind fun y9=>j6 y8 y9).bind fun y10=>(fe Z02.2.1 (1:Int)).bind fun y11=>j6 y10 y11).bind fun y13=>CJ (y12,y13,(((0:Int)-Z02.2.2)%4))
def xu(Z02:Cd):Res Cd:=B7 Z02
@[irreducible]noncomputable def B8(Z09:Tx):Res Tx:=(eg (cM Z09)<|fun(a1:Tx)=>(j7 ([98,105,102]:Tx) a1).bind fun y8=>fe ([102,105,98]:Tx) y8).bind fun y11=>mZ y11
def xv(Z09:Tx):Res Tx:=B8 Z09
@[irreducible]noncomputable def B9(Z02:Cd)(Z0s:Int):Res Cd:=(((gf (4:Int)).bind fun y13=>eg y13<|fun(a3:Int)=>fe Z02.2.1<|(a3-Z0s)%4).bind fun y14=>mZ y14).bind fun y15=>CJ (Z02.1,y15,((Z02.2.2+Z0s)%4))
def xw(Z02:Cd)(Z0s:Int):Res Cd:=B9 Z02 Z0s
@[irreducible]noncomputable def zS(a37:Int)(s38:(List Int)):Res (List Int):=(if(!s38.contains a37)then(dB s38 a37).bind fun y68=>CJ y68 else CJ s38:Res (List Int)).bind fun s70=>CJ s70
@[irreducible]noncomputable def AA(jl:Cd->Tx->Res Cd)(a7:Tx)(s8:(Cd×(List Int))):Res (Cd×(List Int)):=(jl s8.1 a7).bind fun y34=>(bE zS [y34.2.2,((y34.2.2+(2:Int))%4)] s8.2).bind fun s78=>CJ (y34,s78)
@[irreducible]noncomputable def Ba(jl:Cd->Tx->Res Cd)(Z02:Cd)(Z09:Tx):Res (List Int):=(bE (AA jl) (cM Z09) (Z02,([]:List Int))).bind fun s82=>tH s82.2
def xx(Z02:Cd)(Z09:Tx):Res (List Int):=Ba jl Z02 Z09
@[irreducible]noncomputable def zT(Z05:Int)(y40:List Int)(a43:Int)(s44:Cd):Res Cd:=(if(!y40.contains a43)then((((jH (5:Int) a43).bind fun y75=>CJ<|(Z05/16)+y75).bind fun y76=>CJ<|y76%26).bind fun y77=>fe ([97,98,99,100,101,102,103,104,105,106,107,108,109,110,111,112,113,114,115,116,117,118,119,120,121,122]:Tx) y77).bind fun y78=>((((rm s44.2.1 none<|some a43).bind fun y83=>j6 y83 y78).bind fun y84=>(rm s44.2.1 (some<|a43+(1:Int)) none).bind fun y85=>j6 y84 y85).bind fun y86=>CJ (s44.1,y86,s44.2.2)).bind fun y87=>CJ y87 else CJ s44:Res Cd).bind fun s91=>CJ s91
@[irreducible]noncomputable def Bb(xu:Cd->Res Cd)(xv:Tx->Res Tx)(xw:Cd->Int->Res Cd)(xx:Cd->Tx->Res (List Int))(Z02:Cd)(Z09:Tx)(Z05:Int):Res (Cd×Tx):=(if(decide<|(Z05%2)=(1:Int))then(xu Z02).bind fun y9=>(xv Z09).bind fun y14=>CJ (y9,y14)else CJ (Z02,Z09):Res (Cd×Tx)).bind fun s18=>(xw s18.1<|(Z05/2)%4).bind fun y29=>(if(decide<|((Z05/8)%2)=(1:Int))then(xx y29 s18.2).bind fun y40=>((gf (4:Int)).bind fun y101=>bE (zT Z05 y40) y101 y29).bind fun s102=>CJ s102 else CJ y29:Res Cd).bind fun s107=>CJ (s107,s18.2)
def xA(Z02:Cd)(Z09:Tx)(Z05:Int):Res (Cd×Tx):=Bb xu xv xw xx Z02 Z09 Z05
@[irreducible]noncomputable def Bc(w4:Int->Res Cd)(iX:List Int->Int->Res Int)(xp:Int->Int->Res Tx)(xq:Cd->Tx->Res (List Pl))(xr:(List Pl)->Int->Res (List Pl))(xt:(List Pl)->Int->Bool->Res (List Pl))(xA:Cd->Tx->Int->Res (Cd×Tx))(Z0k:List Int)(Z1C:Int):Res (Cd×(List Pl)×Int):=((iX Z0k (0:Int)).bind fun y3=>w4 y3).bind fun y4=>(iX Z0k (2:Int)).bind fun y9=>(iX Z0k (3:Int)).bind fun y14=>(kL y9<|Z1C+(1:Int)).bind fun y19=>(if(decide<|((y9/13)%6)=(1:Int))then CJ ((25:Int)+((y9/78)%36))else CJ y19:Res Int).bind fun s33=>(if(decide<|((y9/13)%6)=(3:Int))then CJ ((13:Int)+((y9/78)%12))else CJ s33:Res Int).bind fun s51=>((iX Z0k (1:Int)).bind fun y60=>xp y60 s51).bind fun y61=>(xq y4 y61).bind fun y66=>(if(decide<|Z1C<s51)then(xr y66 y14).bind fun y77=>CJ y77 else(xt y66 (y14/3)<|decide<|(y14%3)=(2:Int)).bind fun y83=>CJ y83:Res (List Pl)).bind fun s86=>((iX Z0k (4:Int)).bind fun y97=>CJ<|y97/4).bind fun y98=>(if(decide<|(y98%6)=(1:Int))then((xA y4 y61<|y98/6).bind fun y109=>CJ y109.1).bind fun y110=>CJ y110 else CJ y4:Res Cd).bind fun s114=>(if(decide<|(y98%6)=(2:Int))then(w4<|y98/6).bind fun y131=>CJ y131 else CJ s114:Res Cd).bind fun s135=>((iX Z0k (4:Int)).bind fun y144=>CJ<|y144%4).bind fun y145=>CJ (s135,s86,y145)
def w5(Z0k:List Int)(Z1C:Int):Res (Cd×(List Pl)×Int):=Bc w4 iX xp xq xr xt xA Z0k Z1C
@[irreducible]noncomputable def Bd(gH:Int->Int->Int->Res (List Int))(Z0V:List Pl)(Z05:Int):Res (List Pl):=(if(decide<|(Z0V.length:Int)<(13:Int))then CJ true else CJ (!decide ((Z05%8)=(3:Int)))).bind fun y1=>if y1 then CJ Z0V else(gH (Z05/8) (Z0V.length:Int) (5:Int)).bind fun y10=>eg (Z0V.zip y10) (fun(a17:Pl×Int)=>if(decide<|(1:Int)<a17.2)then CJ (([63]:Tx),([63]:Tx),([63]:Tx))else CJ a17.1)
def xB(Z0V:List Pl)(Z05:Int):Res (List Pl):=Bd gH Z0V Z05
@[irreducible]noncomputable def Be(state:Ii)(loose:Int)(bound:Int):Res Bool:=if(decide<|eu state.1<=bound)then CJ (decide<|state.2<=loose)else CJ false
def nS(state:Ii)(loose:Int)(bound:Int):Res Bool:=Be state loose bound
@[irreducible]noncomputable def Bf(tablet:Cd)(turn:Tx):Res Int:=(getD ([([102],1),([98],(-1)),([105],0)]:List (Tx×Int)) turn).bind fun y3=>if(decide<|tablet.1=([83]:Tx))then CJ y3 else CJ (-y3)
def pD(tablet:Cd)(turn:Tx):Res Int:=Bf tablet turn
@[irreducible]noncomputable def Bg(pD:Cd->Tx->Res Int)(tablet:Cd)(state:Ii)(turn:Tx):Res Ii:=((pD tablet turn).bind fun y9=>CJ<|state.1+y9).bind fun y10=>(if(decide<|turn=([105]:Tx))then CJ (state.2+(1:Int))else CJ (0:Int)).bind fun y11=>CJ (y10,y11)
def w6(tablet:Cd)(state:Ii)(turn:Tx):Res Ii:=Bg pD tablet state turn
@[irreducible]noncomputable def Bh(tablet:Cd)(twist:Int):Res Cd:=((if(decide<|tablet.1=([83]:Tx))then CJ (tablet.2.2+twist)else CJ (tablet.2.2-twist)).bind fun y11=>CJ<|y11%4).bind fun y12=>CJ (tablet.1,tablet.2.1,y12)
def xC(tablet:Cd)(twist:Int):Res Cd:=Bh tablet twist
@[irreducible]noncomputable def qH(tablet:Cd):Res Tx:=fe tablet.2.1<|tablet.2.2%4
def ip(tablet:Cd):Res Tx:=qH tablet
@[irreducible]noncomputable def Bi(tablet:Cd):Res Tx:=fe tablet.2.1<|(tablet.2.2+(2:Int))%4
def xD(tablet:Cd):Res Tx:=Bi tablet
@[irreducible]noncomputable def Bj(ip:Cd->Res Tx)(xD:Cd->Res Tx)(pD:Cd->Tx->Res Int)(tablet:Cd)(turn:Tx):Res Pl:=(ip tablet).bind fun y2=>(xD tablet).bind fun y3=>((pD tablet turn).bind fun y1=>getD ([(1,[115]),((-1),[122]),(0,[111])]:List (Int×Tx)) y1).bind fun y4=>CJ (y2,y3,y4)
def xE(tablet:Cd)(turn:Tx):Res Pl:=Bj ip xD pD tablet turn
@[irreducible]noncomputable def Bk(sign:Tx)(left:Tx):Res Bool:=if(decide<|left=([63]:Tx))then CJ true else CJ (decide<|left=sign)
def w8(sign:Tx)(left:Tx):Res Bool:=Bk sign left
@[irreducible]noncomputable def Bl(w8:Tx->Tx->Res Bool)(place:Pl)(mark:Pl):Res Bool:=(eg ([place.1,place.2.1,place.2.2].zip [mark.1,mark.2.1,mark.2.2])<|fun(a1:Tx×Tx)=>w8 a1.1 a1.2).bind fun y12=>CJ<|y12.all id
def xF(place:Pl)(mark:Pl):Res Bool:=Bl w8 place mark
@[irreducible]noncomputable def Bm(xF:Pl->Pl->Res Bool)(xE:Cd->Tx->Res Pl)(xC:Cd->Int->Res Cd)(tablet:Cd)(state:Ii)(turn:Tx)(mark:Pl):Res Bool:=((xC tablet state.1).bind fun y1=>xE y1 turn).bind fun y2=>xF y2 mark
def vp(tablet:Cd)(state:Ii)(turn:Tx)(mark:Pl):Res Bool:=Bm xF xE xC tablet state turn mark
@[irreducible]noncomputable def Bn(w6:Cd->Ii->Tx->Res Ii)(nS:Ii->Int->Int->Res Bool)(vp:Cd->Ii->Tx->Pl->Res Bool)(tablet:Cd)(mark:Pl)(loose:Int)(bound:Int)(state:Ii):Res (List<|Tx×Ii):=(eg (cM ([102,98,105]:Tx))<|fun(a3:Tx)=>(w6 tablet state a3).bind fun y12=>CJ (a3,y12)).bind fun y15=>qa y15 (fun(a18:Tx×Ii)=>((nS a18.2 loose bound).bind fun y31=>if y31 then vp tablet a18.2 a18.1 mark else CJ false).bind fun y33=>if y33 then CJ (some (a18.1,a18.2))else CJ none)
def gJ(tablet:Cd)(mark:Pl)(loose:Int)(bound:Int)(state:Ii):Res (List<|Tx×Ii):=Bn w6 nS vp tablet mark loose bound state
@[irreducible]noncomputable def Bo(gJ:Cd->Pl->Int->Int->Ii->Res (List<|Tx×Ii))(tablet:Cd)(mark:Pl)(loose:Int)(bound:Int)(states:List Ii):Res (List Ii):=(bE (fun(a6:Ii)(s8:List Ii)=>(gJ tablet mark loose bound a6).bind fun y36=>bE (fun(a20:Tx×Ii)(s22:List Ii)=>rJ s22 a20.2) y36 s8) states ([]:List Ii)).bind fun k37=>ug k37
def pE(tablet:Cd)(mark:Pl)(loose:Int)(bound:Int)(states:List Ii):Res (List Ii):=Bo gJ tablet mark loose bound states
@[irreducible]noncomputable def yr(pE:Cd->Pl->Int->Int->(List Ii)->Res (List Ii))(tablet:Cd)(loose:Int)(bound:Int)(a7:Pl)(s8:(List<|List Ii)):Res (Fl (List<|List Ii)<|List<|List Ii):=((fj s8<|-(1:Int)).bind fun y28=>CJ y28.isEmpty).bind fun y29=>if y29 then CJ (.rt s8)else(((fj s8<|-(1:Int)).bind fun y38=>pE tablet a7 loose bound y38).bind fun y39=>dB s8 y39).bind fun y40=>CJ<|.nx y40
@[irreducible]noncomputable def Bp(nS:Ii->Int->Int->Res Bool)(pE:Cd->Pl->Int->Int->(List Ii)->Res (List Ii))(tablet:Cd)(strip:List Pl)(loose:Int)(bound:Int):Res (List<|List Ii):=(((nS (0,0) loose bound).bind fun y1=>if y1 then CJ [(0,0)]else CJ ([]:List Ii)).bind fun y2=>CJ [y2]).bind fun y3=>(hV (yr pE tablet loose bound) strip y3).bind (fun | .nx s43=>(CJ s43)| .rt r=>CJ r| .bk _=>LY)
def iy(tablet:Cd)(strip:List Pl)(loose:Int)(bound:Int):Res (List<|List Ii):=Bp nS pE tablet strip loose bound
@[irreducible]noncomputable def AB(iy:Cd->(List Pl)->Int->Int->Res (List<|List Ii))(tablet:Cd)(strip:List Pl)(loose:Int)(s15:Int):Res Bool:=((iy tablet strip loose s15).bind fun y27=>fj y27<|-(1:Int)).bind fun y28=>CJ y28.isEmpty
@[irreducible]noncomputable def AD(s15:Int):Res Int:=CJ<|s15+(1:Int)
@[irreducible]noncomputable def Bq(iy:Cd->(List Pl)->Int->Int->Res (List<|List Ii))(tablet:Cd)(strip:List Pl)(loose:Int):Res (Option Int):=(((iy tablet strip loose (strip.length:Int)).bind fun y1=>fj y1<|-(1:Int)).bind fun y2=>CJ y2.isEmpty).bind fun y3=>if y3 then CJ (none:Option Int)else(eN (AB iy tablet strip loose) AD cap (0:Int)).bind fun s31=>CJ<|some s31
def oq(tablet:Cd)(strip:List Pl)(loose:Int):Res (Option Int):=Bq iy tablet strip loose
@[irreducible]noncomputable def w9(a83:Tx×Tx)(s84:Bool):Res Bool:=((if(!decide (a83.2=([63]:Tx)))then CJ (!decide (a83.2=a83.1))else CJ false).bind fun y112=>(if y112 then CJ false else CJ s84:Res Bool)).bind fun s124=>CJ s124
@[irreducible]noncomputable def yt(iP:Cd->Tx->Res Int)(Z02:Cd)(Z1N:Pl)(Z0i:Int)(Z0j:Int)(Z0x:Ii)(a7:Tx)(s8:(List Ii)):Res (List Ii):=(iP Z02 a7).bind fun y38=>(jH (Z0x.2+(1:Int)) (if(decide<|a7=([105]:Tx))then(1:Int)else 0)).bind fun y47=>(if(decide<|Z02.1=([90]:Tx))then CJ ((Z02.2.2-(Z0x.1+y38))%4)else CJ ((Z02.2.2+(Z0x.1+y38))%4):Res Int).bind fun s65=>(if(decide<|eu (Z0x.1+y38)<=Z0j)then CJ (decide<|y47<=Z0i)else CJ false).bind fun y75=>(((((fe Z02.2.1 s65).bind fun y78=>(fe Z02.2.1<|(s65+(2:Int))%4).bind fun y79=>(fe ([122,111,115]:Tx)<|y38+(1:Int)).bind fun y80=>CJ (y78,y79,y80)).bind fun y81=>CJ [y81.1,y81.2.1,y81.2.2]).bind fun y82=>CJ<|y82.zip [Z1N.1,Z1N.2.1,Z1N.2.2]).bind fun y132=>bE w9 y132 y75).bind fun s133=>(if s133 then(dB s8 ((Z0x.1+y38),y47)).bind fun y146=>CJ y146 else CJ s8:Res (List Ii)).bind fun s148=>CJ s148
@[irreducible]noncomputable def Br(iP:Cd->Tx->Res Int)(Z02:Cd)(Z1N:Pl)(Z0i:Int)(Z0j:Int)(Z0x:Ii):Res (List Ii):=(bE (yt iP Z02 Z1N Z0i Z0j Z0x) (cM ([102,98,105]:Tx)) ([]:List Ii)).bind fun s156=>CJ s156
def mq(Z02:Cd)(Z1N:Pl)(Z0i:Int)(Z0j:Int)(Z0x:Ii):Res (List Ii):=Br iP Z02 Z1N Z0i Z0j Z0x
@[irreducible]noncomputable def zu(a63:Ii)(s64:(List<|Ii×Bool)):Res (List<|Ii×Bool):=(gR s64 a63 true).bind fun y89=>CJ y89
@[irreducible]noncomputable def AE(mq:Cd->Pl->Int->Int->Ii->Res (List Ii))(Z02:Cd)(Z0i:Int)(Z0j:Int)(a7:Pl)(a39:Ii)(s40:(List<|Ii×Bool)):Res (List<|Ii×Bool):=((mq Z02 a7 Z0i Z0j a39).bind fun y90=>bE zu y90 s40).bind fun s91=>CJ s91
@[irreducible]noncomputable def zw(mq:Cd->Pl->Int->Int->Ii->Res (List Ii))(Z02:Cd)(Z0i:Int)(Z0j:Int)(a7:Pl)(s8:(List<|List Ii)):Res (Fl (List<|List Ii)<|List<|List Ii):=((fj s8<|-(1:Int)).bind fun y95=>bE (AE mq Z02 Z0i Z0j a7) y95 ([]:List (Ii×Bool))).bind fun s96=>((uN (s96.map (·.1))).bind fun y104=>dB s8 y104).bind fun y103=>if(decide<|(s96.length:Int)=(0:Int))then CJ (.rt y103)else CJ (.nx y103)
@[irreducible]noncomputable def Bs(mq:Cd->Pl->Int->Int->Ii->Res (List Ii))(Z02:Cd)(Z0V:List Pl)(Z0i:Int)(Z0j:Int):Res (List<|List Ii):=(hV (zw mq Z02 Z0i Z0j) Z0V [[((0:Int),(0:Int))]]).bind (fun | .nx s107=>(CJ s107)| .rt r=>CJ r| .bk _=>LY)
def sk(Z02:Cd)(Z0V:List Pl)(Z0i:Int)(Z0j:Int):Res (List<|List Ii):=Bs mq Z02 Z0V Z0i Z0j
@[irreducible]noncomputable def zU(gJ:Cd->Pl->Int->Int->Ii->Res (List<|Tx×Ii))(tablet:Cd)(strip:List Pl)(loose:Int)(bound:Int)(y3:List (List Ii))(a31:Int)(s32:(List<|List<|Ii×Int)):Res (List<|List<|Ii×Int):=(fj s32<|-(1:Int)).bind fun y57=>((fj y3 a31).bind fun y82=>bE (fun(a67:Ii)(s69:List (Ii×(List<|Tx×Ii)))=>((fj strip a31).bind fun y80=>gJ tablet y80 loose bound a67).bind fun y81=>gR s69 a67 y81) y82 ([]:List (Ii×(List<|Tx×Ii)))).bind fun y83=>((bE (fun(a91:Ii)(s93:List (Ii×Int))=>(((getD y83 a91).bind fun y116=>eg y116<|fun(a104:Tx×Ii)=>getD y57 a104.2).bind fun y117=>CJ y117.sum).bind fun y118=>gR s93 a91 y118) (y83.map (·.1)) ([]:List (Ii×Int))).bind fun y123=>dB s32 y123).bind fun y122=>CJ y122
@[irreducible]noncomputable def Bt(iy:Cd->(List Pl)->Int->Int->Res (List<|List Ii))(gJ:Cd->Pl->Int->Int->Ii->Res (List<|Tx×Ii))(tablet:Cd)(strip:List Pl)(loose:Int)(bound:Int):Res (List<|List<|Ii×Int):=(iy tablet strip loose bound).bind fun y3=>(((fj y3<|-(1:Int)).bind fun y24=>bE (fun(a13:Ii)(s15:List (Ii×Int))=>gR s15 a13 (1:Int)) y24 ([]:List (Ii×Int))).bind fun y25=>CJ [y25]).bind fun y26=>((mn<|(y3.length:Int)-(1:Int)).bind fun y124=>bE (zU gJ tablet strip loose bound y3) y124 y26).bind fun s125=>CJ s125.reverse
def xG(tablet:Cd)(strip:List Pl)(loose:Int)(bound:Int):Res (List<|List<|Ii×Int):=Bt iy gJ tablet strip loose bound
@[irreducible]noncomputable def zV(moves:List (Tx×Ii))(counts:List (Ii×Int))(s6:Ii):Res Bool:=(((fj moves s6.2).bind fun y18=>CJ y18.2).bind fun y19=>getD counts y19).bind fun y20=>CJ<|decide<|y20<=s6.1
@[irreducible]noncomputable def zW(moves:List (Tx×Ii))(counts:List (Ii×Int))(s6:Ii):Res Ii:=(((fj moves s6.2).bind fun y21=>CJ y21.2).bind fun y22=>getD counts y22).bind fun y23=>CJ ((s6.1-y23),(s6.2+(1:Int)))
@[irreducible]noncomputable def Bu(moves:List (Tx×Ii))(counts:List (Ii×Int))(number:Int):Res (Tx×Ii×Int):=(eN (zV moves counts) (zW moves counts) cap (number,(0:Int))).bind fun s28=>(fj moves s28.2).bind fun y32=>CJ (y32.1,y32.2,s28.1)
def pF(moves:List (Tx×Ii))(counts:List (Ii×Int))(number:Int):Res (Tx×Ii×Int):=Bu moves counts number
@[irreducible]noncomputable def eP(pF:(List<|Tx×Ii)->(List<|Ii×Int)->Int->Res (Tx×Ii×Int))(gJ:Cd->Pl->Int->Int->Ii->Res (List<|Tx×Ii))(tablet:Cd)(loose:Int)(bound:Int)(y3:List (List<|Ii×Int))(a19:Int×Pl)(s20:(Ii×Int×Tx)):Res (Ii×Int×Tx):=((gJ tablet a19.2 loose bound s20.1).bind fun y50=>(fj y3<|a19.1+(1:Int)).bind fun y51=>pF y50 y51 s20.2.1).bind fun y52=>(j6 s20.2.2 y52.1).bind fun y65=>CJ (y52.2.1,y52.2.2,y65)
@[irreducible]noncomputable def qI(xG:Cd->(List Pl)->Int->Int->Res (List<|List<|Ii×Int))(pF:(List<|Tx×Ii)->(List<|Ii×Int)->Int->Res (Tx×Ii×Int))(gJ:Cd->Pl->Int->Int->Ii->Res (List<|Tx×Ii))(tablet:Cd)(strip:List Pl)(loose:Int)(bound:Int)(number:Int):Res Tx:=(xG tablet strip loose bound).bind fun y3=>(if(decide<|number<(0:Int))then CJ true else((fj y3 (0:Int)).bind fun y6=>CJ<|sd y6 (0,0) (0:Int)).bind fun y7=>CJ<|decide<|y7<=number).bind fun y8=>if y8 then LY else(bE (eP pF gJ tablet loose bound y3) (gP strip) ((0,0),number,([]:Tx))).bind fun s66=>CJ s66.2.2
def dU(tablet:Cd)(strip:List Pl)(loose:Int)(bound:Int)(number:Int):Res Tx:=qI xG pF gJ tablet strip loose bound number
@[irreducible]noncomputable def Bv(oq:Cd->(List Pl)->Int->Res (Option Int))(iy:Cd->(List Pl)->Int->Int->Res (List<|List Ii))(dU:Cd->(List Pl)->Int->Int->Int->Res Tx)(tablet:Cd)(strip:List Pl)(loose:Int):Res ((Option Int)×(Option Tx)×(List<|List Ii)):=(oq tablet strip loose).bind fun y3=>if y3.isNone then(iy tablet strip loose (strip.length:Int)).bind fun y8=>CJ ((none:Option Int),(none:Option Tx),y8)else(((jG y3).bind fun y16=>CJ<|decide<|(0:Int)<y16).bind fun y19=>if y19 then((jG y3).bind fun y17=>CJ<|y17-(1:Int)).bind fun y18=>iy tablet strip loose y18 else CJ ([]:List (List Ii))).bind fun y20=>(((jG y3).bind fun y24=>dU tablet strip loose y24 (0:Int)).bind fun y25=>CJ<|some y25).bind fun y26=>CJ (y3,y26,y20)
def wa(tablet:Cd)(strip:List Pl)(loose:Int):Res ((Option Int)×(Option Tx)×(List<|List Ii)):=Bv oq iy dU tablet strip loose
@[irreducible]noncomputable def qJ(w5:List Int->Int->Res (Cd×(List Pl)×Int))(xB:(List Pl)->Int->Res (List Pl))(iX:List Int->Int->Res Int)(oq:Cd->(List Pl)->Int->Res (Option Int))(sk:Cd->(List Pl)->Int->Int->Res (List<|List Ii))(dU:Cd->(List Pl)->Int->Int->Int->Res Tx)(wa:Cd->(List Pl)->Int->Res ((Option Int)×(Option Tx)×(List<|List Ii)))(Z0k:List Int):Res Bool:=(w5 Z0k (12:Int)).bind fun y1=>((iX Z0k (9:Int)).bind fun y14=>xB y1.2.1 y14).bind fun y15=>(oq y1.1 y15 y1.2.2).bind fun y20=>((sk y1.1 y15 y1.2.2 (y15.length:Int)).bind fun y25=>CJ ((none:Option Int),(none:Option Tx),y25)).bind fun y26=>(if y20.isSome then(((jG y20).bind fun y39=>CJ<|decide<|(0:Int)<y39).bind fun y40=>(if y40 then(((jG y20).bind fun y49=>CJ<|y49-(1:Int)).bind fun y50=>sk y1.1 y15 y1.2.2 y50).bind fun y51=>CJ y51 else CJ ([]:List (List Ii)):Res (List<|List Ii))).bind fun s55=>((((jG y20).bind fun y66=>dU y1.1 y15 y1.2.2 y66 (0:Int)).bind fun y67=>CJ<|some y67).bind fun y68=>CJ (y20,y68,s55)).bind fun y69=>CJ y69 else CJ y26:Res ((Option Int)×(Option Tx)×(List<|List Ii))).bind fun s73=>(wa y1.1 y15 y1.2.2).bind fun y87=>(((zL y87 s73).bind fun y94=>CJ<|!y94).bind fun y96=>if y96 then CJ true else(zL y15 y15).bind fun y95=>CJ<|!y95).bind fun y97=>if y97 then CJ false else((dB ((y87,fun(b:(Option Int)×(Option Tx)×(List<|List Ii))=>b).1.2.2,fun b=>(y87,fun(b:(Option Int)×(Option Tx)×(List<|List Ii))=>b).2 ((y87,fun(b:(Option Int)×(Option Tx)×(List<|List Ii))=>b).1.1,(y87,fun(b:(Option Int)×(Option Tx)×(List<|List Ii))=>b).1.2.1,b)).1 [((0:Int),(0:Int))]).bind fun b=>CJ<|((y87,fun(b:(Option Int)×(Option Tx)×(List<|List Ii))=>b).1.2.2,fun b=>(y87,fun(b:(Option Int)×(Option Tx)×(List<|List Ii))=>b).2 ((y87,fun(b:(Option Int)×(Option Tx)×(List<|List Ii))=>b).1.1,(y87,fun(b:(Option Int)×(Option Tx)×(List<|List Ii))=>b).1.2.1,b)).2 b).bind fun y104=>((wM ((y104,fun(b:(Option Int)×(Option Tx)×(List<|List Ii))=>b).1.2.2,fun b=>(y104,fun(b:(Option Int)×(Option Tx)×(List<|List Ii))=>b).2 ((y104,fun(b:(Option Int)×(Option Tx)×(List<|List Ii))=>b).1.1,(y104,fun(b:(Option Int)×(Option Tx)×(List<|List Ii))=>b).1.2.1,b)) (0:Int)).bind fun y107=>(dB y107.1 ((9:Int),(9:Int))).bind fun b=>CJ<|y107.2 b).bind fun y108=>(wa y1.1 y15 y1.2.2).bind fun y111=>zL y111 s73
def vq(Z0k:List Int):Res Bool:=qJ w5 xB iX oq sk dU wa Z0k
end
end Mi
namespace Wb
open PySem L2 Mi
def tp(i:Nat):Stmt:=HR.main.body.getD i<|.Pass ⟨0,0,0,0⟩
end Wb
local macro_rules | `(tactic|walk_at "L")=>`(tactic|first | exact M1 rfl | exact L3 rfl)
local macro_rules | `(tactic|walk_at "F")=>`(tactic|exact⟨rfl,rfl,rfl,by decide +kernel,rfl,by decide +kernel,by decide +kernel⟩)
namespace Wb
open PySem L2 Mi
section
variable{P:D6}{w:Di}{K:CG}{mg:Str->Option CI}{base:Heap}
theorem BX{f:Addr}{fd:Dk}(F:Fun K "_law_at" "_law_at" (tp 36) f fd)(h_len:mg "len"=none):FnOk P w K mg base CX0 (1) f fd ["_law_script","_law_k"] (bF (isScr K) isI (rs isI)<|AO):=by
 have SC:FnScope ["_law_script","_law_k"] ["_law_script","_law_k"] (defScope<|tp 36):=by walk_at "F"
 refine F.ok SC (fun vs H Q E h=>?_)<|fun cdv A outer s H vs Q E hr h=>?_;·obtain⟨_,_,_,_,_,_,rfl,_⟩:=h;rfl
 ·obtain⟨W0,Z0k,l_k,Z0K,_,rfl,rfl,Z03,z_l_k,Er,hq⟩:=h;cases z_l_k
  refine⟨_,(ae (br (au mM (pv 1) (aG (bN (K:=K) rfl) (by rfl) h_len E8<|a5 (pv 0) aa)<|aw _) (af<|az<|ar (aY (K:=K) rfl) (pv 0) (pv 1)<|fun _ _=>rfl) aK)
   (af (az (ah aH (ah f6 (ah bo (ah f6 (pv 1) a8) a8) (ah bo (aG (bN (K:=K) rfl) (by rfl) h_len E8 (a5 (pv 0) aa)) a8)) a8)))),?_⟩
  have E0:Ext W0 W0:=.refl W0;unfold AO at hq;refine eD (Er:=Er) (aB<|cv aS<|l4<|aJ Z03)<|fun W1 e2=>?_;have E0:=E0.trans e2;have Z03:=CB e2.g Z03;by_cases hb13:(decide<|l_k<(Z0k.length:Int))=true
  ·rw[if_pos hb13]at hq ⊢;exact aZ (Er:=Er) (tW (aJ Z03) aS)<|Dx hq fun y3 hq v4 W5 e6 h7=>hq v4 W5 (E0.trans e6) h7
  ·rw[if_neg hb13]at hq ⊢
   try dsimp only[aF]
   exact aZ (Er:=Er) (ao (fun _=>by decide) (jK (aQ (ao (fun _=>.inr ⟨by decide,by decide⟩) aS) ag)<|aQ (l4<|aJ Z03) ag))<|Dx hq fun y9 hq v10 W11 e12 h13=>hq v10 W11 (E0.trans e12) h13
theorem BY{f:Addr}{fd:Dk}(F:Fun K "_law_row" "_law_row" (tp 32) f fd)(h_abs:mg "abs"=none)(h_range:mg "range"=none):FnOk P w K mg base CX0 (1) f fd ["_law_cell","_law_many","_law_base"] (cV isI isI isI (ro isI)<|AQ):=by
 have SC:FnScope ["_law_cell","_law_many","_law_base","_law_now","_law_far","_law_mix","_law_out","_law_k"] ["_law_cell","_law_many","_law_base"] (defScope<|tp 32):=by walk_at "F"
 refine F.ok SC (fun vs H Q E h=>?_)<|fun cdv A outer s H vs Q E hr h=>?_;·obtain⟨_,_,_,_,_,_,_,_,rfl,_⟩:=h;rfl
 ·obtain⟨W0,Z05,Z0s,Z1i,_,_,_,rfl,rfl,Z0w,Z2b,Z4m,Er,hq⟩:=h;cases Z0w;cases Z2b;cases Z4m
  refine⟨_,(ae (cm 3 (aG ju (by rfl) h_abs GY<|a5 (pv 0) aa))
   (ae (cm 4<|cO mO (pv 3) (ah yL a8 a8)<|aw _)
   (ae (cm 5<|ah aH (pv 3) a8)
   (ae (cm 6<|bS aa)
   (ae (cJ DC rfl (iB rfl h_range<|a5 (pv 1) aa) (fA 7) (ae (cm 5<|ah aH (ah bo (ah bo (ah f6 (pv 5) a8) a8)<|pv 7) a8)
   (af (br (Jy<|fZ (di<|pv 4)<|eT<|au mN (pv 3) a8<|aw _) (ae (d5<|bG (K:=K) rfl (pv 6)<|a5 (ah aH (pv 3)<|pv 2) aa)
   (af (cm 3 (ah bf (pv 3) (pv 2))))) (af (d5 (bG (K:=K) rfl (pv 6) (a5 (ah aH (ah aH (ah f6 (pv 5) (pv 5)) a8) (pv 2)) aa))))))))
   (af (az (pv 6)))))))),?_⟩
  have E0:Ext W0 W0:=.refl W0;unfold AQ at hq;refine ak (Er:=Er) (oN aS)<|fun v3 W1 e2 h4=>?_;cases h4;have E0:=E0.trans e2;refine ak (Er:=Er) (cv aS (wH (r:=1000000000000000000) (by decide) (by decide)))<|fun v7 W5 e6 h8=>?_;cases h8;have E0:=E0.trans e6;refine ak (Er:=Er) (ao (fun _=>by decide) aS)<|fun v11 W9 e10 h12=>?_;cases h12;have E0:=E0.trans e10;refine cS (Er:=Er) (fH (R:=isI))<|fun p15 W13 e14 hp16 o17=>?_;have fr18:=none_of E0.h hp16;have E0:=E0.trans e14;refine cN (Er:=Er) (f:=(zN Z05 Z1i)) (s0:=(((eu Z05)%2147483647),eu Z05,([]:List Int))) (Iv:=fun(s21:(Int×Int×(List Int)))(W22:Wd)(g23:St)=>∃(d25:Option V),g23=[some (.int Z05),some<|.int Z0s,some<|.int Z1i,some<|.int s21.2.1,some<|.bl<|decide<|(1000000000000000000:Int)<=eu Z05,some<|.int s21.1,some<|.ref p15,d25]/\Ext W0 W22/\Ow isI W22 p15 s21.2.2) (jO aS) (CC hq) ?_ ?_ ?_
  ·intro W37 e38;have E0:=E0.trans e38;have o17:=o17.mono e38;exact⟨_,rfl,E0,o17⟩
  ·intro Wb26 W27 W28 a19 v29 s20 sg30 P31 hW32 hB33 iv e34 h35 hq;obtain⟨d25,rfl,E0,o24⟩:=iv;have E0:=E0.trans e34;have hB33:=hB33.trans e34.g;have o24:=o24.mono e34;cases h35;refine gn (σ':=[some (.int Z05),some<|.int Z0s,some<|.int Z1i,some<|.int s20.2.1,some<|.bl<|decide<|(1000000000000000000:Int)<=eu Z05,some<|.int s20.1,some<|.ref p15,some<|.int a19]) ?_;unfold zN at hq;refine ak (Er:=Er) (ao (fun _=>by decide) (aQ (aQ (ao (fun _=>.inr ⟨by decide,by decide⟩) aS) ag) aS))<|fun v43 W41 e42 h44=>?_;cases h44;have E0:=E0.trans e42;have hB33:=hB33.trans e42.g;have o24:=o24.mono e42;refine iL (Er:=Er) (Iv:=fun(s74:(Int×(List Int)))(W75:Wd)(g76:St)=>g76=[some (.int Z05),some<|.int Z0s,some<|.int Z1i,some<|.int s74.1,some<|.bl<|decide<|(1000000000000000000:Int)<=eu Z05,some<|.int<|(((s20.1*48271)+(7919:Int))+a19)%2147483647,some<|.ref p15,some<|.int a19]/\Ext W0 W75/\Ow isI W75 p15 s74.2) (iG (oM BI)<|aB<|cv aS ag) (CC hq) ?_ ?_ ?_
   ·intro W46 N49 e47 hN50 hq;have hs51:=e47.g;have E0:=E0.trans e47;have hB33:=hB33.trans e47.g;have o24:=o24.mono e47;refine nc (Er:=Er) o24 (jL aS aS)<|(CC hq).imp fun y55 hq W52 mu53 o54=>?_;have E0:=mu53.e _ E0 fr18;have hB33:=hB33.trans mu53.g;have hs51:=hs51.trans mu53.g;refine cG (Er:=Er) (qc aS aS)<|(CC hq).imp fun y59 hq v60 W57 e58 h61=>?_;cases h61;have E0:=E0.trans e58;have hB33:=hB33.trans e58.g;have hs51:=hs51.trans e58.g;have o54:=o54.mono e58;exact hN50 (y59,y55) W57 _ hs51 ⟨rfl,E0,o54⟩ hq
   ·intro W46 N49 e47 hN50 hq;have hs62:=e47.g;have E0:=E0.trans e47;have hB33:=hB33.trans e47.g;have o24:=o24.mono e47;refine gp (Er:=Er) o24 (jL (ao (fun _=>by decide)<|jK aS aS) aS)<|(CC hq).imp fun y68 hq W65 mu66 o67=>?_;have E0:=mu66.e _ E0 fr18;have hB33:=hB33.trans mu66.g;have hs62:=hs62.trans mu66.g;exact hN50 (s20.2.1,y68) W65 _ hs62 ⟨rfl,E0,o67⟩ hq
   ·intro s70 W71 sg72 hS73 iv hq;obtain⟨rfl,E0,o77⟩:=iv;have hB33:=hB33.trans hS73
    try dsimp only
    refine cH (W:=W71) (((((s20.1*48271)+(7919:Int))+a19)%2147483647),s70.1,s70.2) hB33 ?_ hq;exact⟨_,rfl,E0,o77⟩
  ·intro s79 W80 sg81 hS82 iv hq;obtain⟨d25,rfl,E0,o24⟩:=iv;exact⟨.ref p15,rfl,hq p15 W80 E0 fr18 o24⟩
theorem BZ{f:Addr}{fd:Dk}(F:Fun K "_law_holes" "_law_holes" (tp 33) f fd){gH:Int->Int->Int->Res (List Int)}(Z0q:Cal P w K mg base "_law_row" ["_law_cell","_law_many","_law_base"] (1) (cV isI isI isI (ro isI) gH)):FnOk P w K mg base CX0 (2) f fd ["_law_cell"] (dX isI (rs isS)<|AR gH):=by
 have SC:FnScope ["_law_cell","_law_size","_law_draws","_law_out","_law_d"] ["_law_cell"] (defScope<|tp 33):=by walk_at "F"
 refine F.ok SC (fun vs H Q E h=>?_)<|fun cdv A outer s H vs Q E hr h=>?_;·obtain⟨_,_,_,_,rfl,_⟩:=h;rfl
 ·obtain⟨W0,Z05,_,rfl,rfl,Z0w,Er,hq⟩:=h;cases Z0w;refine⟨_,(ae (cm 1<|ar (aY (K:=K) rfl) (bS<|a5 a8<|a5 a8<|a5 a8<|a5 a8<|a5 a8 aa) (ah aH (pv 0) a8)<|fun _ _=>rfl)
   (ae (cm 2<|cU Z0q<|a5 (ah bf (pv 0) a8)<|a5 a8<|a5 a8 aa)
   (ae (cm 3 aV)
   (ae (cJ DC rfl (cf (K:=K) rfl<|jw (tx (K:=K) rfl) (pv 2) lE<|jb a8) (fA 4)<|af<|cm 3<|ah dE (pv 3)<|ar bP aV (ah aH (ah bo (ar (aY (K:=K) rfl) (pv 2) a8<|fun _ _=>rfl)<|ah f6 (ah aH (pv 4)<|pv 1) a8) a8)<|fun _ _=>rfl)
   (af (az (pv 3))))))),?_⟩
  have E0:Ext W0 W0:=.refl W0;unfold AR at hq;refine ak (Er:=Er) (cw (K0<|fJ<|bR ag<|bR ag<|bR ag<|bR ag<|bR ag<|fI (R:=isI)) (ao (fun _=>by decide) aS))<|(CC hq).imp fun y3 hq v4 W1 e2 h5=>?_;cases h5;have E0:=E0.trans e2;refine ak (Er:=Er) (Fc (eE (ao (fun _=>⟨by decide,by decide⟩) aS) ag ag))<|(CC hq).imp fun y8 hq v9 W6 e7 h10=>?_;have E0:=E0.trans e7;refine ak (Er:=Er) (aX (x:=CP "") (l:=[]) (fT _ _ (by decide +kernel)))<|fun v13 W11 e12 h14=>?_;cases h14;have E0:=E0.trans e12;have h10:=CB e12.g h10;refine cN (Er:=Er) (f:=(zO y3 y8)) (s0:=([]:Tx)) (Iv:=fun(s17:Tx)(W18:Wd)(g19:St)=>∃(d20:Option V),g19=[some (.int Z05),some<|.int y3,some v9,some<|.str<|aP s17,d20]/\Ext W0 W18) (cR<|Fc<|wC (FU<|aJ h10) tP<|tQ ag) (CC hq) ?_ ?_ ?_
  ·intro W32 e33;have E0:=E0.trans e33;have h10:=CB e33.g h10;exact⟨_,rfl,E0⟩
  ·intro Wb21 W22 W23 a15 v24 s16 sg25 P26 hW27 hB28 iv e29 h30 hq;obtain⟨d20,rfl,E0⟩:=iv;have h10:=CB hW27 h10;have E0:=E0.trans e29;have hB28:=hB28.trans e29.g;have h10:=CB e29.g h10;cases h30;refine gn (σ':=[some (.int Z05),some<|.int y3,some v9,some<|.str<|aP s16,some<|.int a15]) ?_;unfold zO at hq;refine cG (Er:=Er) (gD dH (bQ (aX (x:=CP "abcdefghijklmnopqrstuvwxyz") (l:=[97,98,99,100,101,102,103,104,105,106,107,108,109,110,111,112,113,114,115,116,117,118,119,120,121,122]) (fT _ _ (by decide +kernel))) (ao (fun _=>by decide) (aQ (cw (FU<|aJ h10) ag) (ao (fun _=>.inr ⟨by decide,by decide⟩)<|jL aS aS)))))<|(CC hq).imp fun y44 hq v45 W36 e37 h46=>?_;cases h46;have E0:=E0.trans e37;have hB28:=hB28.trans e37.g;have h10:=CB e37.g h10
   try dsimp only
   refine cH (W:=W36) y44 hB28 ?_ hq;exact⟨_,rfl,E0⟩
  ·intro s47 W48 sg49 hS50 iv hq;obtain⟨d20,rfl,E0⟩:=iv;exact aZ (Er:=Er) dH<|fun v51 W52 e53 h54=>hq v51 W52 (E0.trans e53) h54
theorem C0{f:Addr}{fd:Dk}(F:Fun K "_law_card" "_law_card" (tp 34) f fd){xo:Int->Res Tx}(Z2c:Cal P w K mg base "_law_holes" ["_law_cell"] (2) (dX isI (rs isS) xo)):FnOk P w K mg base CX0 (3) f fd ["_law_cell"] (dX isI (rs<|qA K)<|AS xo):=by
 have SC:FnScope ["_law_cell"] ["_law_cell"] (defScope<|tp 34):=by walk_at "F"
 refine F.ok SC (fun vs H Q E h=>?_)<|fun cdv A outer s H vs Q E hr h=>?_;·obtain⟨_,_,_,_,rfl,_⟩:=h;rfl
 ·obtain⟨W0,Z05,_,rfl,rfl,Z0w,Er,hq⟩:=h;cases Z0w;refine⟨_,(af<|az<|bD<|a5 (ar bP aV (ah aH (pv 0) a8)<|fun _ _=>rfl)<|a5 (cU Z2c<|a5 (ah bf (pv 0) a8) aa)<|a5 (ah aH (ah bf (pv 0) a8) a8) aa),?_⟩;have E0:Ext W0 W0:=.refl W0;unfold AS at hq;exact aZ (Er:=Er) (bV (K:=K) (bQ (aX (x:=CP "SZ") (l:=[83,90]) (fT _ _ (by decide +kernel))) (ao (fun _=>by decide) aS)) (cX (ao (fun _=>⟨by decide,by decide⟩) aS)) (ao (fun _=>by decide) (ao (fun _=>⟨by decide,by decide⟩) aS)))<|Dx hq fun y3 hq v4 W5 e6 h7=>hq v4 W5 (E0.trans e6) h7
theorem C1{f:Addr}{fd:Dk}(F:Fun K "_law_turns" "_law_turns" (tp 35) f fd){gH:Int->Int->Int->Res (List Int)}(Z0q:Cal P w K mg base "_law_row" ["_law_cell","_law_many","_law_base"] (1) (cV isI isI isI (ro isI) gH)):FnOk P w K mg base CX0 (2) f fd ["_law_cell","_law_many"] (bF isI isI (rs isS)<|AU gH):=by
 have SC:FnScope ["_law_cell","_law_many"] ["_law_cell","_law_many"] (defScope<|tp 35):=by walk_at "F"
 refine F.ok SC (fun vs H Q E h=>?_)<|fun cdv A outer s H vs Q E hr h=>?_;·obtain⟨_,_,_,_,_,_,rfl,_⟩:=h;rfl
 ·obtain⟨W0,Z05,Z0s,_,_,rfl,rfl,Z0w,Z2b,Er,hq⟩:=h;cases Z0w;cases Z2b;refine⟨_,(ae (br (au bX (ah aH (pv 0) a8) a8<|aw _) (af<|az<|ah oF (ar bP aV (ah aH (ah bf (pv 0) a8) a8)<|fun _ _=>rfl)<|pv 1) aK)
   (af (az (jT (K:=K) rfl aV (a5 (eU (N:=["_law_d"]) (cap:=[none]) (iE rfl (by decide +kernel) rfl (by decide +kernel) (by rfl) (by rfl)) rfl (cf (K:=K) rfl (cU Z0q (a5 (ah bf (pv 0) a8) (a5 (pv 1) (a5 a8 aa))))) (fun _ _ _ _=>(bj (i:=0) (show Ec (["_law_d"]:List Str) by decide +kernel) rfl (by walk_at "L"))) (fun _ _ _ _=>cQ) (fun _ _ _ _=>(ar bP aV (pv 0) (fun _ _=>rfl)))) aa))))),?_⟩
  have E0:Ext W0 W0:=.refl W0;rw[show L2.start ["_law_cell","_law_many"] [.int Z05,.int Z0s]=[some (.int Z05),some<|.int Z0s]from rfl];unfold AU at hq;refine eD (Er:=Er) (aB (d9 (ao (fun _=>by decide) aS) ag))<|fun W1 e2=>?_;have E0:=E0.trans e2;by_cases hb24:(decide<|(Z05%7)=(3:Int))=true
  ·rw[if_pos hb24]at hq ⊢;exact aZ (Er:=Er) (wB (bQ (aX (x:=CP "fbi") (l:=[102,98,105]) (fT _ _ (by decide +kernel))) (ao (fun _=>by decide) (ao (fun _=>⟨by decide,by decide⟩) aS))) aS)<|Dx hq fun y4 hq v5 W6 e7 h8=>hq v5 W6 (E0.trans e7) h8
  ·rw[if_neg hb24]at hq ⊢
   try dsimp only[aF]
   exact aZ (Er:=Er) (lR (fT _ _ (by decide +kernel)) (K0 (eW (cR (Fc (eE (ao (fun _=>⟨by decide,by decide⟩) aS) aS ag))) fun W11 a9 v10 e12 h13 Q16 k17=>by
    cases h13;refine gn ?_;exact⟨by simp[Keep,bu],((bQ (aX (x:=CP "fbi") (l:=[102,98,105]) (fT _ _ (by decide +kernel))) aS):EV Er _ [some (.int a9)] _ _ _) _ (.refl _) _ k17⟩))) (Dx hq fun y20 hq v21 W22 e23 h24=>hq v21 W22 (E0.trans e23) h24)
theorem C2{f:Addr}{fd:Dk}(F:Fun K "_law_go" "_law_go" (tp 38) f fd):FnOk P w K mg base CX0 (1) f fd ["_law_turn"] (dX isS (rs isI)<|AW):=by
 have SC:FnScope ["_law_turn"] ["_law_turn"] (defScope<|tp 38):=by walk_at "F"
 refine F.ok SC (fun vs H Q E h=>?_)<|fun cdv A outer s H vs Q E hr h=>?_;·obtain⟨_,_,_,_,rfl,_⟩:=h;rfl
 ·obtain⟨W0,Z0P,_,rfl,rfl,Z2d,Er,hq⟩:=h;cases Z2d;refine⟨_,(af<|az<|ah fC (fq (K:=K) rfl rfl aV<|a5 (pv 0) aa) a8),?_⟩;have E0:Ext W0 W0:=.refl W0;unfold AW at hq;exact aZ (Er:=Er) (aQ (hX (aX (x:=CP "bif") (l:=[98,105,102]) (fT _ _ (by decide +kernel))) dH) ag)<|Dx hq fun y2 hq v3 W4 e5 h6=>hq v3 W4 (E0.trans e5) h6
theorem C3{f:Addr}{fd:Dk}(F:Fun K "_law_behind" "_law_behind" (tp 39) f fd){oo:Tx->Res Int}(Z1r:Cal P w K mg base "_law_go" ["_law_turn"] (1) (dX isS (rs isI) oo)):FnOk P w K mg base CX0 (2) f fd ["_law_card_here","_law_turn"] (bF (qA K) isS (rs<|qA K)<|AX oo):=by
 have SC:FnScope ["_law_card_here","_law_turn"] ["_law_card_here","_law_turn"] (defScope<|tp 39):=by walk_at "F"
 refine F.ok SC (fun vs H Q E h=>?_)<|fun cdv A outer s H vs Q E hr h=>?_;·obtain⟨_,_,_,_,_,_,rfl,_⟩:=h;rfl
 ·obtain⟨W0,Z02,Z0P,Z0a,_,rfl,rfl,Z00,Z2d,Er,hq⟩:=h;cases Z2d;refine⟨_,(af<|az<|bD<|a5 (ar (aE (K:=K) rfl) (pv 0) a8<|fun _ _=>rfl)<|a5 (ar (aE (K:=K) rfl) (pv 0) a8<|fun _ _=>rfl)<|a5 (ah aH (ah bo (ar (aE (K:=K) rfl) (pv 0) a8<|fun _ _=>rfl)<|cU Z1r<|a5 (pv 1) aa) a8) aa),?_⟩;have E0:Ext W0 W0:=.refl W0;unfold AX at hq;exact aZ (Er:=Er) (bV (K:=K) (aR (f:=fun(b:Cd)=>b.1) lQ<|aJ Z00) (aR (f:=fun(b:Cd)=>b.2.1) j9<|aJ Z00) (ao (fun _=>by decide)<|aQ (aR (f:=fun(b:Cd)=>b.2.2) jM<|aJ Z00)<|cX dH))<|Dx hq fun y4 hq v5 W6 e7 h8=>hq v5 W6 (E0.trans e7) h8
theorem C4{f:Addr}{fd:Dk}(F:Fun K "_law_twist" "_law_twist" (tp 40) f fd){oo:Tx->Res Int}(Z1r:Cal P w K mg base "_law_go" ["_law_turn"] (1) (dX isS (rs isI) oo)):FnOk P w K mg base CX0 (2) f fd ["_law_card_here","_law_turn"] (bF (qA K) isS (rs isI)<|AY oo):=by
 have SC:FnScope ["_law_card_here","_law_turn"] ["_law_card_here","_law_turn"] (defScope<|tp 40):=by walk_at "F"
 refine F.ok SC (fun vs H Q E h=>?_)<|fun cdv A outer s H vs Q E hr h=>?_;·obtain⟨_,_,_,_,_,_,rfl,_⟩:=h;rfl
 ·obtain⟨W0,Z02,Z0P,Z0a,_,rfl,rfl,Z00,Z2d,Er,hq⟩:=h;cases Z2d;refine⟨_,(ae (br (au bX (ar (aE (K:=K) rfl) (pv 0) a8<|fun _ _=>rfl) aV<|aw _) (af<|az<|cU Z1r<|a5 (pv 1) aa) aK)
   (af (az (ah fC a8 (cU Z1r (a5 (pv 1) aa)))))),?_⟩
  have E0:Ext W0 W0:=.refl W0;unfold AY at hq;refine eD (Er:=Er) (aB (gi (aR (f:=fun(b:Cd)=>b.1) lQ<|aJ Z00) (aX (x:=CP "S") (l:=[83]) (fT _ _ (by decide +kernel)))))<|fun W1 e2=>?_;have E0:=E0.trans e2;have Z00:=CB e2.g Z00;by_cases hb13:(decide<|Z02.1=([83]:Tx))=true
  ·rw[if_pos hb13]at hq ⊢;exact aZ (Er:=Er) (cX dH)<|Dx hq fun y3 hq v4 W5 e6 h7=>hq v4 W5 (E0.trans e6) h7
  ·rw[if_neg hb13]at hq ⊢
   try dsimp only[aF]
   exact aZ (Er:=Er) (aQ ag<|cX dH)<|Dx hq fun y9 hq v10 W11 e12 h13=>hq v10 W11 (E0.trans e12) h13
theorem C5{f:Addr}{fd:Dk}(F:Fun K "_law_places" "_law_places" (tp 41) f fd){jl:Cd->Tx->Res Cd}{iP:Cd->Tx->Res Int}(Z0W:Cal P w K mg base "_law_behind" ["_law_card_here","_law_turn"] (2) (bF (qA K) isS (rs<|qA K) jl))(Z18:Cal P w K mg base "_law_twist" ["_law_card_here","_law_turn"] (2) (bF (qA K) isS (rs isI) iP)):FnOk P w K mg base CX0 (3) f fd ["_law_card_here","_law_turns_here"] (bF (qA K) isS (ro<|qB K)<|AZ jl iP):=by
 have SC:FnScope ["_law_card_here","_law_turns_here","_law_out","_law_turn","_law_slant"] ["_law_card_here","_law_turns_here"] (defScope<|tp 41):=by walk_at "F"
 refine F.ok SC (fun vs H Q E h=>?_)<|fun cdv A outer s H vs Q E hr h=>?_;·obtain⟨_,_,_,_,_,_,rfl,_⟩:=h;rfl
 ·obtain⟨W0,Z02,Z09,Z0a,_,rfl,rfl,Z00,Z0D,Er,hq⟩:=h;cases Z0D;refine⟨_,(ae (cm 2<|bS aa)
   (ae (cJ DC rfl (jC<|pv 1) (fA 3) (ae (cm 0<|cU Z0W<|a5 (pv 0)<|a5 (pv 3) aa)
   (ae (cm 4<|ar bP aV (ah bo (cU Z18<|a5 (pv 0)<|a5 (pv 3) aa) a8)<|fun _ _=>rfl)
   (af (d5 (bG (K:=K) rfl (pv 2) (a5 (bD (a5 (ar bP (ar (aE (K:=K) rfl) (pv 0) a8 (fun _ _=>rfl)) (ar (aE (K:=K) rfl) (pv 0) a8 (fun _ _=>rfl)) (fun _ _=>rfl)) (a5 (ar bP (ar (aE (K:=K) rfl) (pv 0) a8 (fun _ _=>rfl)) (ah aH (ah bo (ar (aE (K:=K) rfl) (pv 0) a8 (fun _ _=>rfl)) a8) a8) (fun _ _=>rfl)) (a5 (pv 4) aa)))) aa)))))))
   (af (az (pv 2))))),?_⟩
  have E0:Ext W0 W0:=.refl W0;unfold AZ at hq;refine cS (Er:=Er) (fH (R:=(qB K)))<|fun p3 W1 e2 hp4 o5=>?_;have fr6:=none_of E0.h hp4;have E0:=E0.trans e2;have Z00:=CB e2.g Z00;refine cN (Er:=Er) (f:=(zP jl iP)) (s0:=(Z02,([]:List Pl))) (Iv:=fun(s9:(Cd×(List Pl)))(W10:Wd)(g11:St)=>∃(v12:V)(d15:Option V)(d16:Option V),g11=[some v12,some<|.str<|aP Z09,some<|.ref p3,d16,d15]/\Ext W0 W10/\(qA K) W10.G s9.1 v12/\Ow (qB K) W10 p3 s9.2) (jN dH) (CC hq) ?_ ?_ ?_
  ·intro W28 e29;have E0:=E0.trans e29;have Z00:=CB e29.g Z00;have o5:=o5.mono e29;exact⟨_,_,_,rfl,E0,Z00,o5⟩
  ·intro Wb17 W18 W19 a7 v20 s8 sg21 P22 hW23 hB24 iv e25 h26 hq;obtain⟨v12,d15,d16,rfl,E0,h13,o14⟩:=iv;have E0:=E0.trans e25;have hB24:=hB24.trans e25.g;have o14:=o14.mono e25;have h13:=CB e25.g h13;cases h26;refine gn (σ':=[some v12,some<|.str<|aP Z09,some<|.ref p3,some<|.str<|aP a7,d15]) ?_;unfold zP at hq;refine ak (Er:=Er) (b9 (aJ h13) dH)<|(CC hq).imp fun y34 hq v35 W32 e33 h36=>?_;have E0:=E0.trans e33;have hB24:=hB24.trans e33.g;have o14:=o14.mono e33;refine ak (Er:=Er) (bQ (aX (x:=CP "zos") (l:=[122,111,115]) (fT _ _ (by decide +kernel)))<|aQ (b9 (aJ h36) dH) ag)<|(CC hq).imp fun y41 hq v42 W37 e38 h43=>?_;cases h43;have E0:=E0.trans e38;have hB24:=hB24.trans e38.g;have o14:=o14.mono e38;have h36:=CB e38.g h36;refine gp (Er:=Er) o14 (bV (K:=K) (bQ (aR (f:=fun(b:Cd)=>b.2.1) j9<|aJ h36)<|aR (f:=fun(b:Cd)=>b.2.2) jM<|aJ h36) (bQ (aR (f:=fun(b:Cd)=>b.2.1) j9<|aJ h36) (ao (fun _=>by decide)<|aQ (aR (f:=fun(b:Cd)=>b.2.2) jM<|aJ h36) ag)) dH)<|(CC hq).imp fun y49 hq W46 mu47 o48=>?_;have E0:=mu47.e _ E0 fr6;have hB24:=hB24.trans mu47.g;have h36:=CB mu47.g h36
   try dsimp only
   refine cH (W:=W46) (y34,y49) hB24 ?_ hq;exact⟨_,_,_,rfl,E0,h36,o48⟩
  ·intro s51 W52 sg53 hS54 iv hq;obtain⟨v12,d15,d16,rfl,E0,h13,o14⟩:=iv;exact⟨.ref p3,rfl,hq p3 W52 E0 fr6 o14⟩
theorem C6{f:Addr}{fd:Dk}(F:Fun K "_law_long" "_law_long" (tp 43) f fd){gH:Int->Int->Int->Res (List Int)}(Z0q:Cal P w K mg base "_law_row" ["_law_cell","_law_many","_law_base"] (1) (cV isI isI isI (ro isI) gH))(h_len:mg "len"=none)(h_zip:mg "zip"=none):FnOk P w K mg base CX0 (2) f fd ["_law_places_here","_law_cell"] (bF (qD K) isI (ro<|qB K)<|B0 gH):=by
 have SC:FnScope ["_law_places_here","_law_cell","_law_out","_law_worn","_law_draws","_law_place","_law_d","_law_at_here"] ["_law_places_here","_law_cell"] (defScope<|tp 43):=by walk_at "F"
 refine F.ok SC (fun vs H Q E h=>?_)<|fun cdv A outer s H vs Q E hr h=>?_;·obtain⟨_,_,_,_,_,_,rfl,_⟩:=h;rfl
 ·obtain⟨W0,Z0m,Z05,Z0l,_,rfl,rfl,Z04,Z0w,Er,hq⟩:=h;cases Z0w;refine⟨_,(ae (cm 2<|bS aa)
   (ae (cm 3 a8)
   (ae (cm 4 (cU Z0q (a5 (ah bf (pv 1) a8) (a5 (aG (bN (K:=K) rfl) (by rfl) h_len E8<|a5 (pv 0) aa)<|a5 a8 aa))))
   (ae (cJ DC rfl (fG (K:=K) rfl rfl h_zip<|a5 (pv 0)<|a5 (pv 4) aa) (bL (K:=K) (n:=2) rfl rfl<|aq (fA 5)<|aq (fA 6) bJ) (ae (br (Jy<|fZ (au bX (pv 6) a8<|aw _)<|eT<|au mM (pv 3) a8<|aw _) (ae (cm 3<|ah bo (pv 3) a8)
   (af (cm 5 (bD (a5 aV (a5 (ar (aE (K:=K) rfl) (pv 5) a8 (fun _ _=>rfl)) (a5 aV aa))))))) aK)
   (af (d5 (bG (K:=K) rfl (pv 2) (a5 (pv 5) aa))))))
   (ae (br (au bX (ah aH (pv 1) a8) a8<|aw _) (ae (cm 7 (ah aH (ah bf (pv 1) a8) (aG (bN (K:=K) rfl) (by rfl) h_len E8<|a5 (pv 0) aa)))
   (af (eI (bD (a5 (ar (aE (K:=K) rfl) (ar (aY (K:=K) rfl) (pv 2) (pv 7) (fun _ _=>rfl)) a8 (fun _ _=>rfl)) (a5 (ar (aE (K:=K) rfl) (ar (aY (K:=K) rfl) (pv 2) (pv 7) (fun _ _=>rfl)) a8 (fun _ _=>rfl)) (a5 (ar bP aV (ah aH (ah bf (pv 1) a8) a8) (fun _ _=>rfl)) aa)))) (ou (pv 2) (pv 7) jx)))) aK)
   (af (az (pv 2)))))))),?_⟩
  have E0:Ext W0 W0:=.refl W0;unfold B0 at hq;refine cS (Er:=Er) (fH (R:=(qB K)))<|fun p3 W1 e2 hp4 o5=>?_;have fr6:=none_of E0.h hp4;have E0:=E0.trans e2;have Z04:=CB e2.g Z04;refine ak (Er:=Er) ag<|fun v9 W7 e8 h10=>?_;cases h10;have E0:=E0.trans e8;have Z04:=CB e8.g Z04;have o5:=o5.mono e8;refine ak (Er:=Er) (Fc (eE (ao (fun _=>⟨by decide,by decide⟩) aS) (eB<|FU<|aJ Z04) ag))<|(CC hq).imp fun y13 hq v14 W11 e12 h15=>?_;have E0:=E0.trans e12;have Z04:=CB e12.g Z04;have o5:=o5.mono e12;refine cN (Er:=Er) (f:=zQ) (s0:=((0:Int),([]:List Pl))) (Iv:=fun(s18:(Int×(List Pl)))(W19:Wd)(g20:St)=>∃(d22:Option V)(d23:Option V),g20=[some Z0l,some<|.int Z05,some<|.ref p3,some<|.int s18.1,some v14,d22,d23,none]/\Ext W0 W19/\Ow (qB K) W19 p3 s18.2) (iJ (gm<|aJ Z04)<|gm<|aJ h15) (CC hq) ?_ ?_ ?_
  ·intro W35 e36;have E0:=E0.trans e36;have Z04:=CB e36.g Z04;have o5:=o5.mono e36;exact⟨_,_,rfl,E0,o5⟩
  ·intro Wb24 W25 W26 a16 v27 s17 sg28 P29 hW30 hB31 iv e32 h33 hq;obtain⟨d22,d23,rfl,E0,o21⟩:=iv;have Z04:=CB hW30 Z04;have E0:=E0.trans e32;have hB31:=hB31.trans e32.g;have Z04:=CB e32.g Z04;have o21:=o21.mono e32;refine iK h33 fun v41 v43 h42 h44=>?_;cases h44;unfold zQ at hq;refine bI (Er:=Er) (Iv:=fun(s65:(Int×Pl))(W66:Wd)(g67:St)=>∃(v68:V),g67=[some Z0l,some<|.int Z05,some<|.ref p3,some<|.int s65.1,some v14,some v68,some<|.int a16.2,none]/\Ext W0 W66/\(qB K) W66.G s65.2 v68/\Ow (qB K) W66 p3 s17.2) (iG (aB<|d9 aS ag)<|aB<|cv aS ag) (CC hq) ?_ ?_ ?_
   ·intro W46 N49 e47 hN50 hq;have hs51:=e47.g;have E0:=E0.trans e47;have hB31:=hB31.trans e47.g;have Z04:=CB e47.g Z04;have o21:=o21.mono e47;have h42:=CB e47.g h42;refine ak (Er:=Er) (aQ aS ag)<|fun v54 W52 e53 h55=>?_;cases h55;have E0:=E0.trans e53;have hB31:=hB31.trans e53.g;have hs51:=hs51.trans e53.g;have Z04:=CB e53.g Z04;have o21:=o21.mono e53;have h42:=CB e53.g h42;refine cG (Er:=Er) (bV (K:=K) (aX (x:=CP "?") (l:=[63]) (fT _ _ (by decide +kernel))) (aR (f:=fun(b:Pl)=>b.2.1) j9<|aJ h42) (aX (x:=CP "?") (l:=[63]) (fT _ _ (by decide +kernel))))<|fun v58 W56 e57 h59=>?_;have E0:=E0.trans e57;have hB31:=hB31.trans e57.g;have hs51:=hs51.trans e57.g;have Z04:=CB e57.g Z04;have o21:=o21.mono e57;exact hN50 ((s17.1+(1:Int)),(([63]:Tx),a16.1.2.1,([63]:Tx))) W56 _ hs51 ⟨_,rfl,E0,h59,o21⟩ hq
   ·intro W46 N49 e47 hN50 hq;have hs60:=e47.g;have E0:=E0.trans e47;have hB31:=hB31.trans e47.g;have Z04:=CB e47.g Z04;have o21:=o21.mono e47;have h42:=CB e47.g h42
    try dsimp only[aF]
    exact hN50 (s17.1,a16.1) W46 _ hs60 ⟨_,rfl,E0,h42,o21⟩ hq
   ·intro s61 W62 sg63 hS64 iv hq;obtain⟨v68,rfl,E0,h69,o70⟩:=iv;have hB31:=hB31.trans hS64;have Z04:=CB hS64 Z04;refine gp (Er:=Er) o70 (aJ h69)<|(CC hq).imp fun y74 hq W71 mu72 o73=>?_;have E0:=mu72.e _ E0 fr6;have hB31:=hB31.trans mu72.g;have Z04:=CB mu72.g Z04;have h69:=CB mu72.g h69
    try dsimp only
    refine cH (W:=W71) (s61.1,y74) hB31 ?_ hq;exact⟨_,_,rfl,E0,o73⟩
  ·intro s75 W76 sg77 hS78 iv hq;obtain⟨d22,d23,rfl,E0,o21⟩:=iv;have Z04:=CB hS78 Z04;refine bI (Er:=Er) (Iv:=fun(s105:(List Pl))(W106:Wd)(g107:St)=>∃(d109:Option V),g107=[some Z0l,some<|.int Z05,some<|.ref p3,some<|.int s75.1,some v14,d22,d23,d109]/\Ext W0 W106/\Ow (qB K) W106 p3 s105) (aB (d9 (ao (fun _=>by decide) aS) ag)) (CC hq) ?_ ?_ ?_
   ·intro W79 N82 e80 hN83 hq;have hs84:=e80.g;have E0:=E0.trans e80;have Z04:=CB e80.g Z04;have o21:=o21.mono e80;refine ak (Er:=Er) (jL (ao (fun _=>⟨by decide,by decide⟩) aS)<|eB<|FU<|aJ Z04)<|(CC hq).imp fun y87 hq v88 W85 e86 h89=>?_;cases h89;have E0:=E0.trans e86;have hs84:=hs84.trans e86.g;have o21:=o21.mono e86;refine lS (Er:=Er) o21 (bV (K:=K) (aR (f:=fun(b:Pl)=>b.1) lQ<|cw (eA o21) aS) (aR (f:=fun(b:Pl)=>b.2.1) j9<|cw (eA o21) aS) (bQ (aX (x:=CP "szo") (l:=[115,122,111]) (fT _ _ (by decide +kernel))) (ao (fun _=>by decide) (ao (fun _=>⟨by decide,by decide⟩) aS)))) aS<|(CC hq).imp fun y99 hq W95 mu96 o97=>?_;have E0:=mu96.e _ E0 fr6;have hs84:=hs84.trans mu96.g;exact hN83 y99 W95 _ hs84 ⟨_,rfl,E0,o97⟩ hq
   ·intro W79 N82 e80 hN83 hq;have hs100:=e80.g;have E0:=E0.trans e80;have Z04:=CB e80.g Z04;have o21:=o21.mono e80
    try dsimp only[aF]
    exact hN83 s75.2 W79 _ hs100 ⟨_,rfl,E0,o21⟩ hq
   ·intro s101 W102 sg103 hS104 iv hq;obtain⟨d109,rfl,E0,o108⟩:=iv;exact⟨.ref p3,rfl,hq p3 W102 E0 fr6 o108⟩
theorem C7{f:Addr}{fd:Dk}(F:Fun K "_law_marks" "_law_marks" (tp 42) f fd){gH:Int->Int->Int->Res (List Int)}(Z0q:Cal P w K mg base "_law_row" ["_law_cell","_law_many","_law_base"] (1) (cV isI isI isI (ro isI) gH))(h_int:mg "int"=none)(h_len:mg "len"=none)(h_tuple:mg "tuple"=none)(h_zip:mg "zip"=none):FnOk P w K mg base CX0 (2) f fd ["_law_places_here","_law_cell","_law_lies"] (cV (qD K) isI isB (ro<|qB K)<|B6 gH):=by
 have SC:FnScope ["_law_places_here","_law_cell","_law_lies","_law_out","_law_draws","_law_place","_law_d","_law_mark","_law_letters"] ["_law_places_here","_law_cell","_law_lies"] (defScope<|tp 42):=by walk_at "F"
 refine F.ok SC (fun vs H Q E h=>?_)<|fun cdv A outer s H vs Q E hr h=>?_;·obtain⟨_,_,_,_,_,_,_,_,rfl,_⟩:=h;rfl
 ·obtain⟨W0,Z0m,Z05,Z1p,Z0l,_,_,rfl,rfl,Z04,Z0w,Z4p,Er,hq⟩:=h;cases Z0w;cases Z4p;refine⟨_,(ae (cm 3<|bS aa)
   (ae (cm 4 (cU Z0q (a5 (ah bf (pv 1) a8) (a5 (aG (bN (K:=K) rfl) (by rfl) h_len E8<|a5 (pv 0) aa) (a5 (ah bo a8 (ah f6 a8 (dF kP (by rfl) h_int G7<|a5 (pv 2) aa))) aa)))))
   (ae (cJ DC rfl (fG (K:=K) rfl rfl h_zip<|a5 (pv 0)<|a5 (pv 4) aa) (bL (K:=K) (n:=2) rfl rfl<|aq (fA 5)<|aq (fA 6) bJ) (ae (br (au bX (ah aH (pv 1) a8) a8<|aw _) (af<|cm 6<|ah f6 (ah bf (pv 6) a8) a8) aK)
   (ae (br (au bX (ah aH (pv 1) a8) a8<|aw _) (af<|cm 6<|ah bo (ah f6 (ah bf (pv 6) a8) a8) a8) aK)
   (ae (cm 7<|bS<|a5 (ar (aE (K:=K) rfl) (pv 5) a8<|fun _ _=>rfl)<|a5 (ar (aE (K:=K) rfl) (pv 5) a8<|fun _ _=>rfl)<|a5 (ar (aE (K:=K) rfl) (pv 5) a8<|fun _ _=>rfl) aa)
   (ae (br (Jy<|fZ (au mO (pv 6) a8<|aw _)<|eT<|au mM (ah aH (pv 6) a8) a8<|aw _) (ae (cm 8 aV)
   (af (eI (ar bP (pv 8) (ah bo (fq (K:=K) rfl rfl (pv 8) (a5 (ar (aY (K:=K) rfl) (pv 7) (ah aH (pv 6) a8) (fun _ _=>rfl)) aa)) a8) (fun _ _=>rfl)) (ou (pv 7) (ah aH (pv 6) a8) jx)))) aK)
   (ae (br (Jy<|fZ (au mO (pv 6) a8<|aw _)<|eT<|au bX (ah aH (pv 6) a8) a8<|aw _) (af<|eI (ar bP aV (fq (K:=K) rfl rfl aV<|a5 (ar (aY (K:=K) rfl) (pv 7) a8<|fun _ _=>rfl) aa)<|fun _ _=>rfl)<|ou (pv 7) a8 jx) aK)
   (af (d5 (bG (K:=K) rfl (pv 3) (a5 (dF (jS (K:=K) rfl) (by rfl) h_tuple GH (a5 (eU (N:=["_law_sign","_law_part","_law_d"]) (cap:=[none,none,some 6]) (iE rfl (by decide +kernel) rfl (by decide +kernel) (by rfl) (by rfl)) rfl (fG (K:=K) rfl rfl h_zip (a5 (pv 7) (a5 (bS (a5 a8 (a5 a8 (a5 a8 aa)))) aa))) (fun _ _ _ _=>(bL (K:=K) (n:=2) rfl rfl (aq (bj (i:=0) (show Ec (["_law_sign","_law_part","_law_d"]:List Str) by decide +kernel) rfl (by walk_at "L")) (aq (bj (i:=1) (show Ec (["_law_sign","_law_part","_law_d"]:List Str) by decide +kernel) rfl (by walk_at "L")) bJ)))) (fun _ _ _ _=>cQ) (fun _ _ _ _=>(eH (au bX (ah aH (ah bf (pv 2) (pv 1)) a8) a8 (aw _)) (pv 0) aV))) aa)) aa))))))))))
   (af (az (pv 3)))))),?_⟩
  have E0:Ext W0 W0:=.refl W0;rw[show L2.start ["_law_places_here","_law_cell","_law_lies","_law_out","_law_draws","_law_place","_law_d","_law_mark","_law_letters"] [Z0l,.int Z05,.bl Z1p]=[some Z0l,some<|.int Z05,some<|.bl Z1p,none,none,none,none,none,none]from rfl];unfold B6 at hq;refine cS (Er:=Er) (fH (R:=(qB K)))<|fun p3 W1 e2 hp4 o5=>?_;have fr6:=none_of E0.h hp4;have E0:=E0.trans e2;have Z04:=CB e2.g Z04;refine ak (Er:=Er) (Fc (eE (ao (fun _=>⟨by decide,by decide⟩) aS) (eB<|FU<|aJ Z04)<|aQ ag<|jK ag<|qf BI))<|(CC hq).imp fun y11 hq v12 W7 e8 h13=>?_;have E0:=E0.trans e8;have Z04:=CB e8.g Z04;have o5:=o5.mono e8;refine cN (Er:=Er) (f:=(zR Z05)) (s0:=([]:List Pl)) (Iv:=fun(s16:(List Pl))(W17:Wd)(g18:St)=>∃(d20:Option V)(d21:Option V)(d22:Option V)(d23:Option V),g18=[some Z0l,some<|.int Z05,some<|.bl Z1p,some<|.ref p3,some v12,d23,d20,d21,d22]/\Ext W0 W17/\Ow (qB K) W17 p3 s16) (iJ (gm<|aJ Z04)<|gm<|aJ h13) (CC hq) ?_ ?_ ?_
  ·intro W35 e36;have E0:=E0.trans e36;have o5:=o5.mono e36;exact⟨_,_,_,_,rfl,E0,o5⟩
  ·intro Wb24 W25 W26 a14 v27 s15 sg28 P29 hW30 hB31 iv e32 h33 hq;obtain⟨d20,d21,d22,d23,rfl,E0,o19⟩:=iv;have E0:=E0.trans e32;have hB31:=hB31.trans e32.g;have o19:=o19.mono e32;refine iK h33 fun v41 v43 h42 h44=>?_;cases h44;unfold zR at hq;refine bI (Er:=Er) (Iv:=fun(s60:Int)(W61:Wd)(g62:St)=>g62=[some Z0l,some<|.int Z05,some<|.bl Z1p,some<|.ref p3,some v12,some v41,some<|.int s60,d21,d22]/\Ext W0 W61/\Ow (qB K) W61 p3 s15) (aB (d9 (ao (fun _=>by decide) aS) ag)) (CC hq) ?_ ?_ ?_
   ·intro W45 N48 e46 hN49 hq;have hs50:=e46.g;have E0:=E0.trans e46;have hB31:=hB31.trans e46.g;have o19:=o19.mono e46;have h42:=CB e46.g h42;refine cG (Er:=Er) (ao (fun _=>.inr ⟨by decide,by decide⟩) (ao (fun _=>⟨by decide,by decide⟩) aS))<|fun v53 W51 e52 h54=>?_;cases h54;have E0:=E0.trans e52;have hB31:=hB31.trans e52.g;have hs50:=hs50.trans e52.g;have o19:=o19.mono e52;have h42:=CB e52.g h42;exact hN49 ((a14.2/8)*8) W51 _ hs50 ⟨rfl,E0,o19⟩ hq
   ·intro W45 N48 e46 hN49 hq;have hs55:=e46.g;have E0:=E0.trans e46;have hB31:=hB31.trans e46.g;have o19:=o19.mono e46;have h42:=CB e46.g h42
    try dsimp only[aF]
    exact hN49 a14.2 W45 _ hs55 ⟨rfl,E0,o19⟩ hq
   ·intro s56 W57 sg58 hS59 iv hq;obtain⟨rfl,E0,o63⟩:=iv;have hB31:=hB31.trans hS59;have h42:=CB hS59 h42;refine bI (Er:=Er) (Iv:=fun(s79:Int)(W80:Wd)(g81:St)=>g81=[some Z0l,some<|.int Z05,some<|.bl Z1p,some<|.ref p3,some v12,some v41,some<|.int s79,d21,d22]/\Ext W0 W80/\Ow (qB K) W80 p3 s15) (aB (d9 (ao (fun _=>by decide) aS) ag)) (CC hq) ?_ ?_ ?_
    ·intro W64 N67 e65 hN68 hq;have hs69:=e65.g;have E0:=E0.trans e65;have hB31:=hB31.trans e65.g;have o63:=o63.mono e65;have h42:=CB e65.g h42;refine cG (Er:=Er) (aQ (ao (fun _=>.inr ⟨by decide,by decide⟩) (ao (fun _=>⟨by decide,by decide⟩) aS)) ag)<|fun v72 W70 e71 h73=>?_;cases h73;have E0:=E0.trans e71;have hB31:=hB31.trans e71.g;have hs69:=hs69.trans e71.g;have o63:=o63.mono e71;have h42:=CB e71.g h42;exact hN68 (((s56/8)*8)+(7:Int)) W70 _ hs69 ⟨rfl,E0,o63⟩ hq
    ·intro W64 N67 e65 hN68 hq;have hs74:=e65.g;have E0:=E0.trans e65;have hB31:=hB31.trans e65.g;have o63:=o63.mono e65;have h42:=CB e65.g h42
     try dsimp only[aF]
     exact hN68 s56 W64 _ hs74 ⟨rfl,E0,o63⟩ hq
    ·intro s75 W76 sg77 hS78 iv hq;obtain⟨rfl,E0,o82⟩:=iv;have hB31:=hB31.trans hS78;have h42:=CB hS78 h42;refine cS (Er:=Er) (fJ<|bR (aR (f:=fun(b:Pl)=>b.1) lQ<|aJ h42)<|bR (aR (f:=fun(b:Pl)=>b.2.1) j9<|aJ h42)<|bR (aR (f:=fun(b:Pl)=>b.2.2) jM<|aJ h42)<|fI (R:=isS))<|fun p85 W83 e84 hp86 o87=>?_;have ne88:=o82.ne hp86;have fr89:=none_of E0.h hp86;have E0:=E0.trans e84;have hB31:=hB31.trans e84.g;have o82:=o82.mono e84;have h42:=CB e84.g h42;refine bI (Er:=Er) (Iv:=fun(s114:(List Tx))(W115:Wd)(g116:St)=>∃(d118:Option V),g116=[some Z0l,some<|.int Z05,some<|.bl Z1p,some<|.ref p3,some v12,some v41,some<|.int s75,some<|.ref p85,d118]/\Ext W0 W115/\Ow isS W115 p85 s114/\Ow (qB K) W115 p3 s15) (iG (aB<|cv aS ag) (aB (cv (ao (fun _=>by decide) aS) ag))) (CC hq) ?_ ?_ ?_
     ·intro W91 N94 e92 hN95 hq;have hs96:=e92.g;have E0:=E0.trans e92;have hB31:=hB31.trans e92.g;have o82:=o82.mono e92;have h42:=CB e92.g h42;have o87:=o87.mono e92;refine ak (Er:=Er) (aX (x:=CP "abcdefghijklmnopqrstuvwxyza") (l:=[97,98,99,100,101,102,103,104,105,106,107,108,109,110,111,112,113,114,115,116,117,118,119,120,121,122,97]) (fT _ _ (by decide +kernel)))<|fun v99 W97 e98 h100=>?_;cases h100;have E0:=E0.trans e98;have hB31:=hB31.trans e98.g;have hs96:=hs96.trans e98.g;have o82:=o82.mono e98;have h42:=CB e98.g h42;have o87:=o87.mono e98;refine lS (Er:=Er) o87 (bQ dH (aQ (hX dH (cw (eA o87) (ao (fun _=>by decide) aS))) ag)) (ao (fun _=>by decide) aS)<|(CC hq).imp fun y108 hq W104 mu105 o106=>?_;have E0:=mu105.e _ E0 fr89;have hB31:=hB31.trans mu105.g;have hs96:=hs96.trans mu105.g;have o82:=mu105.ow ne88 o82;have h42:=CB mu105.g h42;exact hN95 y108 W104 _ hs96 ⟨_,rfl,E0,o106,o82⟩ hq
     ·intro W91 N94 e92 hN95 hq;have hs109:=e92.g;have E0:=E0.trans e92;have hB31:=hB31.trans e92.g;have o82:=o82.mono e92;have h42:=CB e92.g h42;have o87:=o87.mono e92
      try dsimp only[aF]
      exact hN95 [a14.1.1,a14.1.2.1,a14.1.2.2] W91 _ hs109 ⟨_,rfl,E0,o87,o82⟩ hq
     ·intro s110 W111 sg112 hS113 iv hq;obtain⟨d118,rfl,E0,o117,o119⟩:=iv;have hB31:=hB31.trans hS113;have h42:=CB hS113 h42;refine bI (Er:=Er) (Iv:=fun(s139:(List Tx))(W140:Wd)(g141:St)=>g141=[some Z0l,some<|.int Z05,some<|.bl Z1p,some<|.ref p3,some v12,some v41,some<|.int s75,some<|.ref p85,d118]/\Ext W0 W140/\Ow isS W140 p85 s139/\Ow (qB K) W140 p3 s15) (iG (aB<|cv aS ag) (aB (d9 (ao (fun _=>by decide) aS) ag))) (CC hq) ?_ ?_ ?_
      ·intro W121 N124 e122 hN125 hq;have hs126:=e122.g;have E0:=E0.trans e122;have hB31:=hB31.trans e122.g;have o119:=o119.mono e122;have h42:=CB e122.g h42;have o117:=o117.mono e122;refine lS (Er:=Er) o117 (bQ (aX (x:=CP "zos") (l:=[122,111,115]) (fT _ _ (by decide +kernel))) (hX (aX (x:=CP "szo") (l:=[115,122,111]) (fT _ _ (by decide +kernel)))<|cw (eA o117) ag)) ag<|(CC hq).imp fun y133 hq W129 mu130 o131=>?_;have E0:=mu130.e _ E0 fr89;have hB31:=hB31.trans mu130.g;have hs126:=hs126.trans mu130.g;have o119:=mu130.ow ne88 o119;have h42:=CB mu130.g h42;exact hN125 y133 W129 _ hs126 ⟨rfl,E0,o131,o119⟩ hq
      ·intro W121 N124 e122 hN125 hq;have hs134:=e122.g;have E0:=E0.trans e122;have hB31:=hB31.trans e122.g;have o119:=o119.mono e122;have h42:=CB e122.g h42;have o117:=o117.mono e122
       try dsimp only[aF]
       exact hN125 s110 W121 _ hs134 ⟨rfl,E0,o117,o119⟩ hq
      ·intro s135 W136 sg137 hS138 iv hq;obtain⟨rfl,E0,o142,o143⟩:=iv;have hB31:=hB31.trans hS138;have h42:=CB hS138 h42;obtain⟨W144,hH145,E0,hS146,h148,hk147⟩:=o142.frz E0 fr89;rw[<-hH145];have hB31:=hB31.trans hS146;have o143:=o143.keep (by rw[hH145]) hS146<|hk147 _ ne88;have h42:=CB hS146 h42;refine gp (Er:=Er) o143 (tY (K0 (eW (iJ (gm<|aJ h148)<|gm<|Fc<|fJ<|bR ag<|bR ag<|bR ag<|fI (R:=isI)) fun W151 a149 v150 e152 h153 Q161 k162=>by
        refine iK h153 fun v154 v156 h155 h157=>?_;cases h155;cases h157;exact⟨by simp[Keep,bu],((n6 (aB (d9 (ao (fun _=>by decide) (qc aS aS)) ag)) dH (aX (x:=CP "?") (l:=[63]) (fT _ _ (by decide +kernel)))):EV Er _ [some (.str (aP a149.1)),some (.int a149.2),some (.int s75)] _ _ _) _ (.refl _) _ k162⟩))) ((CC hq).imp fun y167 hq W164 mu165 o166=>?_)
       have E0:=mu165.e _ E0 fr6;have hB31:=hB31.trans mu165.g;have h42:=CB mu165.g h42;have h148:=CB mu165.g h148
       try dsimp only
       refine cH (W:=W164) y167 hB31 ?_ hq;exact⟨_,_,_,_,rfl,E0,o166⟩
  ·intro s169 W170 sg171 hS172 iv hq;obtain⟨d20,d21,d22,d23,rfl,E0,o19⟩:=iv;exact⟨.ref p3,rfl,hq p3 W170 E0 fr6 o19⟩
theorem C8{f:Addr}{fd:Dk}(F:Fun K "_law_turnover" "_law_turnover" (tp 44) f fd):FnOk P w K mg base CX0 (1) f fd ["_law_card_here"] (dX (qA K) (rs<|qA K)<|B7):=by
 have SC:FnScope ["_law_card_here","_law_holes_here"] ["_law_card_here"] (defScope<|tp 44):=by walk_at "F"
 refine F.ok SC (fun vs H Q E h=>?_)<|fun cdv A outer s H vs Q E hr h=>?_;·obtain⟨_,_,_,_,rfl,_⟩:=h;rfl
 ·obtain⟨W0,Z02,Z0a,rfl,rfl,Z00,Er,hq⟩:=h;refine⟨_,(ae (cm 1<|ar (aE (K:=K) rfl) (pv 0) a8<|fun _ _=>rfl)
   (af (az (bD (a5 (ar bP aV (fq (K:=K) rfl rfl aV (a5 (ar (aE (K:=K) rfl) (pv 0) a8 (fun _ _=>rfl)) aa)) (fun _ _=>rfl)) (a5 (ah dE (ah dE (ah dE (ar bP (pv 1) a8 (fun _ _=>rfl)) (ar bP (pv 1) a8 (fun _ _=>rfl))) (ar bP (pv 1) a8 (fun _ _=>rfl))) (ar bP (pv 1) a8 (fun _ _=>rfl))) (a5 (ah aH (ah fC a8 (ar (aE (K:=K) rfl) (pv 0) a8 (fun _ _=>rfl))) a8) aa))))))),?_⟩
  have E0:Ext W0 W0:=.refl W0;unfold B7 at hq;refine ak (Er:=Er) (aR (f:=fun(b:Cd)=>b.2.1) j9<|aJ Z00)<|fun v3 W1 e2 h4=>?_;cases h4;have E0:=E0.trans e2;have Z00:=CB e2.g Z00;exact aZ (Er:=Er) (bV (K:=K) (bQ (aX (x:=CP "ZS") (l:=[90,83]) (fT _ _ (by decide +kernel))) (hX (aX (x:=CP "SZ") (l:=[83,90]) (fT _ _ (by decide +kernel)))<|aR (f:=fun(b:Cd)=>b.1) lQ<|aJ Z00)) (gD (gD (gD (bQ dH ag)<|bQ dH ag)<|bQ dH ag)<|bQ dH ag) (ao (fun _=>by decide)<|aQ ag<|aR (f:=fun(b:Cd)=>b.2.2) jM<|aJ Z00))<|Dx hq fun y14 hq v15 W16 e17 h18=>hq v15 W16 (E0.trans e17) h18
theorem C9{f:Addr}{fd:Dk}(F:Fun K "_law_back" "_law_back" (tp 45) f fd):FnOk P w K mg base CX0 (1) f fd ["_law_turns_here"] (dX isS (rs isS)<|B8):=by
 have SC:FnScope ["_law_turns_here"] ["_law_turns_here"] (defScope<|tp 45):=by walk_at "F"
 refine F.ok SC (fun vs H Q E h=>?_)<|fun cdv A outer s H vs Q E hr h=>?_;·obtain⟨_,_,_,_,rfl,_⟩:=h;rfl
 ·obtain⟨W0,Z09,_,rfl,rfl,Z0D,Er,hq⟩:=h;cases Z0D;refine⟨_,(af (az (jT (K:=K) rfl aV (a5 (eU (N:=["_law_turn"]) (cap:=[none]) (iE rfl (by decide +kernel) rfl (by decide +kernel) (by rfl) (by rfl)) rfl (jC<|pv 0) (fun _ _ _ _=>(bj (i:=0) (show Ec (["_law_turn"]:List Str) by decide +kernel) rfl (by walk_at "L"))) (fun _ _ _ _=>cQ)<|fun _ _ _ _=>(ar bP aV (fq (K:=K) rfl rfl aV<|a5 (pv 0) aa)<|fun _ _=>rfl)) aa)))),?_⟩;have E0:Ext W0 W0:=.refl W0;rw[show L2.start ["_law_turns_here"] [.str (aP Z09)]=[some (.str<|aP Z09)]from rfl];unfold B8 at hq;exact aZ (Er:=Er) (lR (fT _ _ (by decide +kernel)) (K0 (eW (jN dH) fun W3 a1 v2 e4 h5 Q9 k10=>by
   cases h5;refine gn ?_;exact⟨by simp[Keep,bu],((bQ (aX (x:=CP "fib") (l:=[102,105,98]) (fT _ _ (by decide +kernel))) (hX (aX (x:=CP "bif") (l:=[98,105,102]) (fT _ _ (by decide +kernel))) dH)):EV Er _ [some (.str (aP a1))] _ _ _) _ (.refl _) _ k10⟩))) (Dx hq fun y12 hq v13 W14 e15 h16=>hq v13 W14 (E0.trans e15) h16)
theorem Ca{f:Addr}{fd:Dk}(F:Fun K "_law_roll" "_law_roll" (tp 46) f fd)(h_range:mg "range"=none):FnOk P w K mg base CX0 (1) f fd ["_law_card_here","_law_many"] (bF (qA K) isI (rs<|qA K)<|B9):=by
 have SC:FnScope ["_law_card_here","_law_many","_law_holes_here"] ["_law_card_here","_law_many"] (defScope<|tp 46):=by walk_at "F"
 refine F.ok SC (fun vs H Q E h=>?_)<|fun cdv A outer s H vs Q E hr h=>?_;·obtain⟨_,_,_,_,_,_,rfl,_⟩:=h;rfl
 ·obtain⟨W0,Z02,Z0s,Z0a,_,rfl,rfl,Z00,Z2b,Er,hq⟩:=h;cases Z2b
  refine⟨_,(ae (cm 2 (jT (K:=K) rfl aV (a5 (eU (N:=["_law_k","_law_card_here","_law_many"]) (cap:=[none,some 0,some 1]) (iE rfl (by decide +kernel) rfl (by decide +kernel) (by rfl) (by rfl)) rfl (iB rfl h_range<|a5 a8 aa) (fun _ _ _ _=>(bj (i:=0) (show Ec (["_law_k","_law_card_here","_law_many"]:List Str) by decide +kernel) rfl (by walk_at "L"))) (fun _ _ _ _=>cQ)<|fun _ _ _ _=>(ar bP (ar (aE (K:=K) rfl) (pv 1) a8<|fun _ _=>rfl) (ah aH (ah fC (pv 0)<|pv 2) a8)<|fun _ _=>rfl)) aa)))
   (af (az (bD (a5 (ar (aE (K:=K) rfl) (pv 0) a8 (fun _ _=>rfl)) (a5 (pv 2) (a5 (ah aH (ah bo (ar (aE (K:=K) rfl) (pv 0) a8 (fun _ _=>rfl)) (pv 1)) a8) aa))))))),?_⟩
  have E0:Ext W0 W0:=.refl W0;rw[show L2.start ["_law_card_here","_law_many","_law_holes_here"] [Z0a,.int Z0s]=[some Z0a,some<|.int Z0s,none]from rfl];unfold B9 at hq;refine ak (Er:=Er) (lR (fT _ _ (by decide +kernel)) (K0 (eW (jO ag) fun W5 a3 v4 e6 h7 Q11 k12=>by
   have h8:=Dt (R:=sh (qA K)) e6 Z00;cases h7;refine gn ?_;exact⟨by simp[Keep,bu],((bQ (aR (f:=fun(b:Cd)=>b.2.1) j9 (aJ h8)) (ao (fun _=>by decide) (aQ aS aS))):EV Er _ [some (.int a3),some Z0a,some (.int Z0s)] _ _ _) _ (.refl _) _ k12⟩))) ((CC hq).imp fun y15 hq v16 W1 e2 h17=>?_)
  cases h17;have E0:=E0.trans e2;have Z00:=CB e2.g Z00;exact aZ (Er:=Er) (bV (K:=K) (aR (f:=fun(b:Cd)=>b.1) lQ<|aJ Z00) dH (ao (fun _=>by decide)<|aQ (aR (f:=fun(b:Cd)=>b.2.2) jM<|aJ Z00) aS))<|fun v18 W19 e20 h21=>hq v18 W19 (E0.trans e20) h21
theorem Cb{f:Addr}{fd:Dk}(F:Fun K "_law_seen" "_law_seen" (tp 47) f fd){jl:Cd->Tx->Res Cd}(Z0W:Cal P w K mg base "_law_behind" ["_law_card_here","_law_turn"] (2) (bF (qA K) isS (rs<|qA K) jl))(h_sorted:mg "sorted"=none):FnOk P w K mg base CX0 (3) f fd ["_law_card_here","_law_turns_here"] (bF (qA K) isS (ro isI)<|Ba jl):=by
 have SC:FnScope ["_law_card_here","_law_turns_here","_law_out","_law_turn","_law_hole"] ["_law_card_here","_law_turns_here"] (defScope<|tp 47):=by walk_at "F"
 refine F.ok SC (fun vs H Q E h=>?_)<|fun cdv A outer s H vs Q E hr h=>?_;·obtain⟨_,_,_,_,_,_,rfl,_⟩:=h;rfl
 ·obtain⟨W0,Z02,Z09,Z0a,_,rfl,rfl,Z00,Z0D,Er,hq⟩:=h;cases Z0D;refine⟨_,(ae (cm 2<|bS aa)
   (ae (cJ DC rfl (jC<|pv 1) (fA 3) (ae (cm 0<|cU Z0W<|a5 (pv 0)<|a5 (pv 3) aa)
   (af (cJ DC rfl (cf (K:=K) rfl (bS (a5 (ar (aE (K:=K) rfl) (pv 0) a8 (fun _ _=>rfl)) (a5 (ah aH (ah bo (ar (aE (K:=K) rfl) (pv 0) a8 (fun _ _=>rfl)) a8) a8) aa)))) (fA 4) (af (br (au (gO (K:=K) rfl) (pv 4) (pv 2) (by with_unfolding_all rfl)) (af (d5 (bG (K:=K) rfl (pv 2) (a5 (pv 4) aa)))) aK))))))
   (af (az (aG (lP (K:=K) rfl) (by rfl) h_sorted Gx (a5 (pv 2) aa)))))),?_⟩
  have E0:Ext W0 W0:=.refl W0;unfold Ba at hq;refine cS (Er:=Er) (fH (R:=isI))<|fun p3 W1 e2 hp4 o5=>?_;have fr6:=none_of E0.h hp4;have E0:=E0.trans e2;have Z00:=CB e2.g Z00;refine cN (Er:=Er) (f:=(AA jl)) (s0:=(Z02,([]:List Int))) (Iv:=fun(s9:(Cd×(List Int)))(W10:Wd)(g11:St)=>∃(v12:V)(d15:Option V)(d16:Option V),g11=[some v12,some<|.str<|aP Z09,some<|.ref p3,d16,d15]/\Ext W0 W10/\(qA K) W10.G s9.1 v12/\Ow isI W10 p3 s9.2) (jN dH) (CC hq) ?_ ?_ ?_
  ·intro W28 e29;have E0:=E0.trans e29;have Z00:=CB e29.g Z00;have o5:=o5.mono e29;exact⟨_,_,_,rfl,E0,Z00,o5⟩
  ·intro Wb17 W18 W19 a7 v20 s8 sg21 P22 hW23 hB24 iv e25 h26 hq;obtain⟨v12,d15,d16,rfl,E0,h13,o14⟩:=iv;have E0:=E0.trans e25;have hB24:=hB24.trans e25.g;have o14:=o14.mono e25;have h13:=CB e25.g h13;cases h26;refine gn (σ':=[some v12,some<|.str<|aP Z09,some<|.ref p3,some<|.str<|aP a7,d15]) ?_;unfold AA at hq;refine ak (Er:=Er) (b9 (aJ h13) dH)<|(CC hq).imp fun y34 hq v35 W32 e33 h36=>?_;have E0:=E0.trans e33;have hB24:=hB24.trans e33.g;have o14:=o14.mono e33;refine lT (Er:=Er) (f:=zS) (s0:=s8.2) (Iv:=fun(s39:(List Int))(W40:Wd)(g41:St)=>∃(d43:Option V),g41=[some v35,some<|.str<|aP Z09,some<|.ref p3,some<|.str<|aP a7,d43]/\Ext W0 W40/\Ow isI W40 p3 s39) (cR (Fc (fJ (bR (aR (f:=fun(b:Cd)=>b.2.2) jM<|aJ h36) (bR (ao (fun _=>by decide)<|aQ (aR (f:=fun(b:Cd)=>b.2.2) jM<|aJ h36) ag)<|fI (R:=isI)))))) (CC hq) ?_ ?_ ?_
   ·intro W55 e56;have E0:=E0.trans e56;have hB24:=hB24.trans e56.g;have o14:=o14.mono e56;have h36:=CB e56.g h36;exact⟨_,rfl,E0,o14⟩
   ·intro Wb44 W45 W46 a37 v47 s38 sg48 P49 hW50 hB51 iv e52 h53 hq;obtain⟨d43,rfl,E0,o42⟩:=iv;have hB24:=hB24.trans hW50;have h36:=CB hW50 h36;have E0:=E0.trans e52;have hB24:=hB24.trans e52.g;have hB51:=hB51.trans e52.g;have o42:=o42.mono e52;have h36:=CB e52.g h36;cases h53;refine gn (σ':=[some v35,some<|.str<|aP Z09,some<|.ref p3,some<|.str<|aP a7,some<|.int a37]) ?_;unfold zS at hq;refine iL (Er:=Er) (Iv:=fun(s74:(List Int))(W75:Wd)(g76:St)=>g76=[some v35,some<|.str<|aP Z09,some<|.ref p3,some<|.str<|aP a7,some<|.int a37]/\Ext W0 W75/\Ow isI W75 p3 s74) (aB<|jR aS<|eA o42) (CC hq) ?_ ?_ ?_
    ·intro W59 N62 e60 hN63 hq;have hs64:=e60.g;have E0:=E0.trans e60;have hB24:=hB24.trans e60.g;have hB51:=hB51.trans e60.g;have o42:=o42.mono e60;have h36:=CB e60.g h36;refine gp (Er:=Er) o42 aS<|(CC hq).imp fun y68 hq W65 mu66 o67=>?_;have E0:=mu66.e _ E0 fr6;have hB24:=hB24.trans mu66.g;have hB51:=hB51.trans mu66.g;have hs64:=hs64.trans mu66.g;have h36:=CB mu66.g h36;exact hN63 y68 W65 _ hs64 ⟨rfl,E0,o67⟩ hq
    ·intro W59 N62 e60 hN63 hq;have hs69:=e60.g;have E0:=E0.trans e60;have hB24:=hB24.trans e60.g;have hB51:=hB51.trans e60.g;have o42:=o42.mono e60;have h36:=CB e60.g h36
     try dsimp only[aF]
     exact hN63 s38 W59 _ hs69 ⟨rfl,E0,o42⟩ hq
    ·intro s70 W71 sg72 hS73 iv hq;obtain⟨rfl,E0,o77⟩:=iv;have hB24:=hB24.trans hS73;have hB51:=hB51.trans hS73;have h36:=CB hS73 h36
     try dsimp only
     refine cH (W:=W71) s70 hB51 ?_ hq;exact⟨_,rfl,E0,o77⟩
   ·intro s78 W79 sg80 hS81 iv hq;obtain⟨d43,rfl,E0,o42⟩:=iv;have hB24:=hB24.trans hS81;have h36:=CB hS81 h36
    try dsimp only
    refine cH (W:=W79) (y34,s78) hB24 ?_ hq;exact⟨_,_,_,rfl,E0,h36,o42⟩
  ·intro s82 W83 sg84 hS85 iv hq;obtain⟨v12,d15,d16,rfl,E0,h13,o14⟩:=iv;exact jd (Er:=Er) (tZ<|eA o14)<|Dx hq fun y86 hq p87 W88 e89 hp90 o91=>hq p87 W88 (E0.trans e89) (none_of E0.h hp90) o91
theorem Cc{f:Addr}{fd:Dk}(F:Fun K "_law_kin" "_law_kin" (tp 48) f fd){xu:Cd->Res Cd}{xv:Tx->Res Tx}{xw:Cd->Int->Res Cd}{xx:Cd->Tx->Res (List Int)}(Z1O:Cal P w K mg base "_law_turnover" ["_law_card_here"] (1) (dX (qA K) (rs<|qA K) xu))(Z2z:Cal P w K mg base "_law_back" ["_law_turns_here"] (1) (dX isS (rs isS) xv))(Z2A:Cal P w K mg base "_law_roll" ["_law_card_here","_law_many"] (1) (bF (qA K) isI (rs<|qA K) xw))(Z2B:Cal P w K mg base "_law_seen" ["_law_card_here","_law_turns_here"] (3) (bF (qA K) isS (ro isI) xx))(h_range:mg "range"=none):FnOk P w K mg base CX0 (4) f fd ["_law_card_here","_law_turns_here","_law_cell"] (cV (qA K) isS isI (rs<|isT2 K (qA K) isS)<|Bb xu xv xw xx):=by
 have SC:FnScope ["_law_card_here","_law_turns_here","_law_cell","_law_known","_law_hole","_law_colour"] ["_law_card_here","_law_turns_here","_law_cell"] (defScope<|tp 48):=by walk_at "F"
 refine F.ok SC (fun vs H Q E h=>?_)<|fun cdv A outer s H vs Q E hr h=>?_;·obtain⟨_,_,_,_,_,_,_,_,rfl,_⟩:=h;rfl
 ·obtain⟨W0,Z02,Z09,Z05,Z0a,_,_,rfl,rfl,Z00,Z0D,Z0w,Er,hq⟩:=h;cases Z0D;cases Z0w;refine⟨_,(ae (br (au bX (ah aH (pv 2) a8) a8<|aw _) (ae (cm 0<|cU Z1O<|a5 (pv 0) aa)
   (af (cm 1 (cU Z2z (a5 (pv 1) aa))))) aK)
   (ae (cm 0<|cU Z2A<|a5 (pv 0)<|a5 (ah aH (ah bf (pv 2) a8) a8) aa)
   (ae (br (au bX (ah aH (ah bf (pv 2) a8) a8) a8<|aw _) (ae (cm 3<|cU Z2B<|a5 (pv 0)<|a5 (pv 1) aa)
   (af (cJ DC rfl (iB rfl h_range<|a5 a8 aa) (fA 4) (af (br (au (gO (K:=K) rfl) (pv 4) (pv 3) (by with_unfolding_all rfl)) (ae (cm 5<|ar bP aV (ah aH (ah bo (ah bf (pv 2) a8)<|ah f6 a8<|pv 4) a8)<|fun _ _=>rfl)
   (af (cm 0 (bD (a5 (ar (aE (K:=K) rfl) (pv 0) a8 (fun _ _=>rfl)) (a5 (ah dE (ah dE (jw sU (ar (aE (K:=K) rfl) (pv 0) a8 (fun _ _=>rfl)) lE (jb (pv 4))) (pv 5)) (jw sU (ar (aE (K:=K) rfl) (pv 0) a8 (fun _ _=>rfl)) (jb (ah bo (pv 4) a8)) lE)) (a5 (ar (aE (K:=K) rfl) (pv 0) a8 (fun _ _=>rfl)) aa))))))) aK))))) aK)
   (af (az (bD (a5 (pv 0) (a5 (pv 1) aa)))))))),?_⟩
  have E0:Ext W0 W0:=.refl W0;unfold Bb at hq;refine bI (Er:=Er) (Iv:=fun(s22:(Cd×Tx))(W23:Wd)(g24:St)=>∃(v25:V),g24=[some v25,some<|.str<|aP s22.2,some<|.int Z05,none,none,none]/\Ext W0 W23/\(qA K) W23.G s22.1 v25) (aB (d9 (ao (fun _=>by decide) aS) ag)) (CC hq) ?_ ?_ ?_
  ·intro W1 N4 e2 hN5 hq;have hs6:=e2.g;have E0:=E0.trans e2;have Z00:=CB e2.g Z00;refine ak (Er:=Er) (cX<|aJ Z00)<|(CC hq).imp fun y9 hq v10 W7 e8 h11=>?_;have E0:=E0.trans e8;have hs6:=hs6.trans e8.g;refine cG (Er:=Er) (cX dH)<|(CC hq).imp fun y14 hq v15 W12 e13 h16=>?_;cases h16;have E0:=E0.trans e13;have hs6:=hs6.trans e13.g;have h11:=CB e13.g h11;exact hN5 (y9,y14) W12 _ hs6 ⟨_,rfl,E0,h11⟩ hq
  ·intro W1 N4 e2 hN5 hq;have hs17:=e2.g;have E0:=E0.trans e2;have Z00:=CB e2.g Z00
   try dsimp only[aF]
   exact hN5 (Z02,Z09) W1 _ hs17 ⟨_,rfl,E0,Z00⟩ hq
  ·intro s18 W19 sg20 hS21 iv hq;obtain⟨v25,rfl,E0,h26⟩:=iv;refine ak (Er:=Er) (b9 (aJ h26) (ao (fun _=>by decide) (ao (fun _=>⟨by decide,by decide⟩) aS)))<|(CC hq).imp fun y29 hq v30 W27 e28 h31=>?_;have E0:=E0.trans e28;refine bI (Er:=Er) (Iv:=fun(s111:Cd)(W112:Wd)(g113:St)=>∃(v114:V)(d116:Option V)(d117:Option V)(d118:Option V),g113=[some v114,some<|.str<|aP s18.2,some<|.int Z05,d116,d117,d118]/\Ext W0 W112/\(qA K) W112.G s111 v114) (aB (d9 (ao (fun _=>by decide) (ao (fun _=>⟨by decide,by decide⟩) aS)) ag)) (CC hq) ?_ ?_ ?_
   ·intro W32 N35 e33 hN36 hq;have hs37:=e33.g;have E0:=E0.trans e33;have h31:=CB e33.g h31;refine ak (Er:=Er) (Fc<|iH (aJ h31) dH)<|(CC hq).imp fun y40 hq v41 W38 e39 h42=>?_;have E0:=E0.trans e39;have hs37:=hs37.trans e39.g;have h31:=CB e39.g h31;refine lT (Er:=Er) (f:=(zT Z05 y40)) (s0:=y29) (Iv:=fun(s45:Cd)(W46:Wd)(g47:St)=>∃(v48:V)(d50:Option V)(d51:Option V),g47=[some v48,some<|.str<|aP s18.2,some<|.int Z05,some v41,d51,d50]/\Ext W0 W46/\(qA K) W46.G s45 v48) (jO ag) (CC hq) ?_ ?_ ?_
    ·intro W63 e64;have E0:=E0.trans e64;have hs37:=hs37.trans e64.g;have h31:=CB e64.g h31;have h42:=CB e64.g h42;exact⟨_,_,_,rfl,E0,h31⟩
    ·intro Wb52 W53 W54 a43 v55 s44 sg56 P57 hW58 hB59 iv e60 h61 hq;obtain⟨v48,d50,d51,rfl,E0,h49⟩:=iv;have hs37:=hs37.trans hW58;have h42:=CB hW58 h42;have E0:=E0.trans e60;have hs37:=hs37.trans e60.g;have hB59:=hB59.trans e60.g;have h42:=CB e60.g h42;have h49:=CB e60.g h49;cases h61;refine gn (σ':=[some v48,some<|.str<|aP s18.2,some<|.int Z05,some v41,some<|.int a43,d50]) ?_;unfold zT at hq;refine iL (Er:=Er) (Iv:=fun(s95:Cd)(W96:Wd)(g97:St)=>∃(v98:V)(d100:Option V),g97=[some v98,some<|.str<|aP s18.2,some<|.int Z05,some v41,some<|.int a43,d100]/\Ext W0 W96/\(qA K) W96.G s95 v98) (aB<|jR aS<|FU<|aJ h42) (CC hq) ?_ ?_ ?_
     ·intro W67 N70 e68 hN71 hq;have hs72:=e68.g;have E0:=E0.trans e68;have hs37:=hs37.trans e68.g;have hB59:=hB59.trans e68.g;have h42:=CB e68.g h42;have h49:=CB e68.g h49;refine ak (Er:=Er) (bQ (aX (x:=CP "abcdefghijklmnopqrstuvwxyz") (l:=[97,98,99,100,101,102,103,104,105,106,107,108,109,110,111,112,113,114,115,116,117,118,119,120,121,122]) (fT _ _ (by decide +kernel))) (ao (fun _=>by decide) (aQ (ao (fun _=>⟨by decide,by decide⟩) aS)<|jK ag aS)))<|(CC hq).imp fun y78 hq v79 W73 e74 h80=>?_;cases h80;have E0:=E0.trans e74;have hs37:=hs37.trans e74.g;have hB59:=hB59.trans e74.g;have hs72:=hs72.trans e74.g;have h42:=CB e74.g h42;have h49:=CB e74.g h49;refine cG (Er:=Er) (bV (K:=K) (aR (f:=fun(b:Cd)=>b.1) lQ<|aJ h49) (gD (gD (qd (aR (f:=fun(b:Cd)=>b.2.1) j9<|aJ h49) tP<|tQ aS) dH)<|qd (aR (f:=fun(b:Cd)=>b.2.1) j9<|aJ h49) (tQ<|aQ aS ag) tP)<|aR (f:=fun(b:Cd)=>b.2.2) jM<|aJ h49)<|(CC hq).imp fun y87 hq v88 W81 e82 h89=>?_;have E0:=E0.trans e82;have hs37:=hs37.trans e82.g;have hB59:=hB59.trans e82.g;have hs72:=hs72.trans e82.g;have h42:=CB e82.g h42;exact hN71 y87 W81 _ hs72 ⟨_,_,rfl,E0,h89⟩ hq
     ·intro W67 N70 e68 hN71 hq;have hs90:=e68.g;have E0:=E0.trans e68;have hs37:=hs37.trans e68.g;have hB59:=hB59.trans e68.g;have h42:=CB e68.g h42;have h49:=CB e68.g h49
      try dsimp only[aF]
      exact hN71 s44 W67 _ hs90 ⟨_,_,rfl,E0,h49⟩ hq
     ·intro s91 W92 sg93 hS94 iv hq;obtain⟨v98,d100,rfl,E0,h99⟩:=iv;have hs37:=hs37.trans hS94;have hB59:=hB59.trans hS94;have h42:=CB hS94 h42
      try dsimp only
      refine cH (W:=W92) s91 hB59 ?_ hq;exact⟨_,_,_,rfl,E0,h99⟩
    ·intro s102 W103 sg104 hS105 iv hq;obtain⟨v48,d50,d51,rfl,E0,h49⟩:=iv;have hs37:=hs37.trans hS105;exact hN36 s102 W103 _ hs37 ⟨_,_,_,_,rfl,E0,h49⟩ hq
   ·intro W32 N35 e33 hN36 hq;have hs106:=e33.g;have E0:=E0.trans e33;have h31:=CB e33.g h31
    try dsimp only[aF]
    exact hN36 y29 W32 _ hs106 ⟨_,_,_,_,rfl,E0,h31⟩ hq
   ·intro s107 W108 sg109 hS110 iv hq;obtain⟨v114,d116,d117,d118,rfl,E0,h115⟩:=iv;exact aZ (Er:=Er) (eV (K:=K) (aJ h115) dH)<|fun v119 W120 e121 h122=>hq v119 W120 (E0.trans e121) h122
theorem Ce{f:Addr}{fd:Dk}(F:Fun K "_law_case" "_law_case" (tp 49) f fd){w4:Int->Res Cd}{iX:List Int->Int->Res Int}{xp:Int->Int->Res Tx}{xq:Cd->Tx->Res (List Pl)}{xr:(List Pl)->Int->Res (List Pl)}{xt:(List Pl)->Int->Bool->Res (List Pl)}{xA:Cd->Tx->Int->Res (Cd×Tx)}(Z21:Cal P w K mg base "_law_card" ["_law_cell"] (3) (dX isI (rs<|qA K) w4))(Z0G:Cal P w K mg base "_law_at" ["_law_script","_law_k"] (1) (bF (isScr K) isI (rs isI) iX))(Z2e:Cal P w K mg base "_law_turns" ["_law_cell","_law_many"] (2) (bF isI isI (rs isS) xp))(Z23:Cal P w K mg base "_law_places" ["_law_card_here","_law_turns_here"] (3) (bF (qA K) isS (ro<|qB K) xq))(Z2C:Cal P w K mg base "_law_long" ["_law_places_here","_law_cell"] (2) (bF (qD K) isI (ro<|qB K) xr))(Z2f:Cal P w K mg base "_law_marks" ["_law_places_here","_law_cell","_law_lies"] (2) (cV (qD K) isI isB (ro<|qB K) xt))(Z32:Cal P w K mg base "_law_kin" ["_law_card_here","_law_turns_here","_law_cell"] (4) (cV (qA K) isS isI (rs<|isT2 K (qA K) isS) xA)):FnOk P w K mg base CX0 (5) f fd ["_law_script","_law_most"] (bF (isScr K) isI (rs<|isT3 K (qA K) (qD K) isI)<|Bc w4 iX xp xq xr xt xA):=by
 have SC:FnScope ["_law_script","_law_most","_law_card_here","_law_size","_law_cell","_law_many","_law_turns_here","_law_places_here","_law_strip","_law_side"] ["_law_script","_law_most"] (defScope<|tp 49):=by walk_at "F"
 refine F.ok SC (fun vs H Q E h=>?_)<|fun cdv A outer s H vs Q E hr h=>?_;·obtain⟨_,_,_,_,_,_,rfl,_⟩:=h;rfl
 ·obtain⟨W0,Z0k,Z1C,Z0K,_,rfl,rfl,Z03,Z4u,Er,hq⟩:=h;cases Z4u;refine⟨_,(ae (cm 2<|cU Z21<|a5 (cU Z0G<|a5 (pv 0)<|a5 a8 aa) aa)
   (ae (cm 3<|cU Z0G<|a5 (pv 0)<|a5 a8 aa)
   (ae (cm 4<|cU Z0G<|a5 (pv 0)<|a5 a8 aa)
   (ae (cm 5<|ah aH (pv 3)<|ah bo (pv 1) a8)
   (ae (br (au bX (ah aH (ah bf (pv 3) a8) a8) a8<|aw _) (af<|cm 5<|ah bo a8<|ah aH (ah bf (pv 3) a8) a8) aK)
   (ae (br (au bX (ah aH (ah bf (pv 3) a8) a8) a8<|aw _) (af<|cm 5<|ah bo a8<|ah aH (ah bf (pv 3) a8) a8) aK)
   (ae (cm 6<|cU Z2e<|a5 (cU Z0G<|a5 (pv 0)<|a5 a8 aa)<|a5 (pv 5) aa)
   (ae (cm 7<|cU Z23<|a5 (pv 2)<|a5 (pv 6) aa)
   (ae (br (au mN (pv 5) (pv 1)<|aw _) (af<|cm 8<|cU Z2C<|a5 (pv 7)<|a5 (pv 4) aa)<|af<|cm 8<|cU Z2f<|a5 (pv 7)<|a5 (ah bf (pv 4) a8)<|a5 (cO bX (ah aH (pv 4) a8) a8<|aw _) aa)
   (ae (cm 9<|ah bf (cU Z0G<|a5 (pv 0)<|a5 a8 aa) a8)
   (ae (br (au bX (ah aH (pv 9) a8) a8<|aw _) (af<|cm 2<|ar (aE (K:=K) rfl) (cU Z32<|a5 (pv 2)<|a5 (pv 6)<|a5 (ah bf (pv 9) a8) aa) a8<|fun _ _=>rfl) aK)
   (ae (br (au bX (ah aH (pv 9) a8) a8<|aw _) (af<|cm 2<|cU Z21<|a5 (ah bf (pv 9) a8) aa) aK)
   (af (az (bD (a5 (pv 2) (a5 (pv 8) (a5 (ah aH (cU Z0G (a5 (pv 0) (a5 a8 aa))) a8) aa)))))))))))))))))),?_⟩
  have E0:Ext W0 W0:=.refl W0;unfold Bc at hq;refine ak (Er:=Er) (cX<|b9 (aJ Z03) ag)<|(CC hq).imp fun y4 hq v5 W1 e2 h6=>?_;have E0:=E0.trans e2;have Z03:=CB e2.g Z03;refine ak (Er:=Er) (b9 (aJ Z03) ag)<|(CC hq).imp fun y9 hq v10 W7 e8 h11=>?_;cases h11;have E0:=E0.trans e8;have Z03:=CB e8.g Z03;have h6:=CB e8.g h6;refine ak (Er:=Er) (b9 (aJ Z03) ag)<|(CC hq).imp fun y14 hq v15 W12 e13 h16=>?_;cases h16;have E0:=E0.trans e13;have Z03:=CB e13.g Z03;have h6:=CB e13.g h6;refine ak (Er:=Er) (jL aS<|aQ aS ag)<|(CC hq).imp fun y19 hq v20 W17 e18 h21=>?_;cases h21;have E0:=E0.trans e18;have Z03:=CB e18.g Z03;have h6:=CB e18.g h6;refine bI (Er:=Er) (Iv:=fun(s37:Int)(W38:Wd)(g39:St)=>g39=[some Z0K,some<|.int Z1C,some v5,some<|.int y9,some<|.int y14,some<|.int s37,none,none,none,none]/\Ext W0 W38) (aB (d9 (ao (fun _=>by decide) (ao (fun _=>⟨by decide,by decide⟩) aS)) ag)) (CC hq) ?_ ?_ ?_
  ·intro W22 N25 e23 hN26 hq;have hs27:=e23.g;have E0:=E0.trans e23;have Z03:=CB e23.g Z03;have h6:=CB e23.g h6;refine cG (Er:=Er) (aQ ag (ao (fun _=>by decide) (ao (fun _=>⟨by decide,by decide⟩) aS)))<|fun v30 W28 e29 h31=>?_;cases h31;have E0:=E0.trans e29;have hs27:=hs27.trans e29.g;have Z03:=CB e29.g Z03;have h6:=CB e29.g h6;exact hN26 ((25:Int)+((y9/78)%36)) W28 _ hs27 ⟨rfl,E0⟩ hq
  ·intro W22 N25 e23 hN26 hq;have hs32:=e23.g;have E0:=E0.trans e23;have Z03:=CB e23.g Z03;have h6:=CB e23.g h6
   try dsimp only[aF]
   exact hN26 y19 W22 _ hs32 ⟨rfl,E0⟩ hq
  ·intro s33 W34 sg35 hS36 iv hq;obtain⟨rfl,E0⟩:=iv;have Z03:=CB hS36 Z03;have h6:=CB hS36 h6;refine bI (Er:=Er) (Iv:=fun(s55:Int)(W56:Wd)(g57:St)=>g57=[some Z0K,some<|.int Z1C,some v5,some<|.int y9,some<|.int y14,some<|.int s55,none,none,none,none]/\Ext W0 W56) (aB (d9 (ao (fun _=>by decide) (ao (fun _=>⟨by decide,by decide⟩) aS)) ag)) (CC hq) ?_ ?_ ?_
   ·intro W40 N43 e41 hN44 hq;have hs45:=e41.g;have E0:=E0.trans e41;have Z03:=CB e41.g Z03;have h6:=CB e41.g h6;refine cG (Er:=Er) (aQ ag (ao (fun _=>by decide) (ao (fun _=>⟨by decide,by decide⟩) aS)))<|fun v48 W46 e47 h49=>?_;cases h49;have E0:=E0.trans e47;have hs45:=hs45.trans e47.g;have Z03:=CB e47.g Z03;have h6:=CB e47.g h6;exact hN44 ((13:Int)+((y9/78)%12)) W46 _ hs45 ⟨rfl,E0⟩ hq
   ·intro W40 N43 e41 hN44 hq;have hs50:=e41.g;have E0:=E0.trans e41;have Z03:=CB e41.g Z03;have h6:=CB e41.g h6
    try dsimp only[aF]
    exact hN44 s33 W40 _ hs50 ⟨rfl,E0⟩ hq
   ·intro s51 W52 sg53 hS54 iv hq;obtain⟨rfl,E0⟩:=iv;have Z03:=CB hS54 Z03;have h6:=CB hS54 h6;refine ak (Er:=Er) (b9 (b9 (aJ Z03) ag) aS)<|(CC hq).imp fun y61 hq v62 W58 e59 h63=>?_;cases h63;have E0:=E0.trans e59;have Z03:=CB e59.g Z03;have h6:=CB e59.g h6;refine ak (Er:=Er) (Fc<|iH (aJ h6) dH)<|(CC hq).imp fun y66 hq v67 W64 e65 h68=>?_;have E0:=E0.trans e65;have Z03:=CB e65.g Z03;have h6:=CB e65.g h6;refine bI (Er:=Er) (Iv:=fun(s90:(List Pl))(W91:Wd)(g92:St)=>∃(v93:V),g92=[some Z0K,some<|.int Z1C,some v5,some<|.int y9,some<|.int y14,some<|.int s51,some<|.str<|aP y61,some v67,some v93,none]/\Ext W0 W91/\(qD K) W91.G s90 v93) (aB<|cv aS aS) (CC hq) ?_ ?_ ?_
    ·intro W69 N72 e70 hN73 hq;have hs74:=e70.g;have E0:=E0.trans e70;have Z03:=CB e70.g Z03;have h6:=CB e70.g h6;have h68:=CB e70.g h68;refine cG (Er:=Er) (Fc<|iH (aJ h68) aS)<|(CC hq).imp fun y77 hq v78 W75 e76 h79=>?_;have E0:=E0.trans e76;have hs74:=hs74.trans e76.g;have Z03:=CB e76.g Z03;have h6:=CB e76.g h6;exact hN73 y77 W75 _ hs74 ⟨_,rfl,E0,h79⟩ hq
    ·intro W69 N72 e70 hN73 hq;have hs80:=e70.g;have E0:=E0.trans e70;have Z03:=CB e70.g Z03;have h6:=CB e70.g h6;have h68:=CB e70.g h68;refine cG (Er:=Er) (Fc (eE (aJ h68) (ao (fun _=>⟨by decide,by decide⟩) aS) (d9 (ao (fun _=>by decide) aS) ag)))<|(CC hq).imp fun y83 hq v84 W81 e82 h85=>?_;have E0:=E0.trans e82;have hs80:=hs80.trans e82.g;have Z03:=CB e82.g Z03;have h6:=CB e82.g h6;exact hN73 y83 W81 _ hs80 ⟨_,rfl,E0,h85⟩ hq
    ·intro s86 W87 sg88 hS89 iv hq;obtain⟨v93,rfl,E0,h94⟩:=iv;have Z03:=CB hS89 Z03;have h6:=CB hS89 h6;refine ak (Er:=Er) (ao (fun _=>⟨by decide,by decide⟩)<|b9 (aJ Z03) ag)<|(CC hq).imp fun y98 hq v99 W95 e96 h100=>?_;cases h100;have E0:=E0.trans e96;have Z03:=CB e96.g Z03;have h6:=CB e96.g h6;have h94:=CB e96.g h94;refine bI (Er:=Er) (Iv:=fun(s118:Cd)(W119:Wd)(g120:St)=>∃(v121:V),g120=[some Z0K,some<|.int Z1C,some v121,some<|.int y9,some<|.int y14,some<|.int s51,some<|.str<|aP y61,some v67,some v93,some<|.int y98]/\Ext W0 W119/\(qA K) W119.G s118 v121) (aB (d9 (ao (fun _=>by decide) aS) ag)) (CC hq) ?_ ?_ ?_
     ·intro W101 N104 e102 hN105 hq;have hs106:=e102.g;have E0:=E0.trans e102;have Z03:=CB e102.g Z03;have h6:=CB e102.g h6;have h94:=CB e102.g h94;refine cG (Er:=Er) (aR (f:=fun(b:Cd×Tx)=>b.1) z5 (eM (aJ h6) dH (ao (fun _=>⟨by decide,by decide⟩) aS)))<|(CC hq).imp fun y110 hq v111 W107 e108 h112=>?_;have E0:=E0.trans e108;have hs106:=hs106.trans e108.g;have Z03:=CB e108.g Z03;have h94:=CB e108.g h94;exact hN105 y110 W107 _ hs106 ⟨_,rfl,E0,h112⟩ hq
     ·intro W101 N104 e102 hN105 hq;have hs113:=e102.g;have E0:=E0.trans e102;have Z03:=CB e102.g Z03;have h6:=CB e102.g h6;have h94:=CB e102.g h94
      try dsimp only[aF]
      exact hN105 y4 W101 _ hs113 ⟨_,rfl,E0,h6⟩ hq
     ·intro s114 W115 sg116 hS117 iv hq;obtain⟨v121,rfl,E0,h122⟩:=iv;have Z03:=CB hS117 Z03;have h94:=CB hS117 h94;refine bI (Er:=Er) (Iv:=fun(s139:Cd)(W140:Wd)(g141:St)=>∃(v142:V),g141=[some Z0K,some<|.int Z1C,some v142,some<|.int y9,some<|.int y14,some<|.int s51,some<|.str<|aP y61,some v67,some v93,some<|.int y98]/\Ext W0 W140/\(qA K) W140.G s139 v142) (aB (d9 (ao (fun _=>by decide) aS) ag)) (CC hq) ?_ ?_ ?_
      ·intro W123 N126 e124 hN127 hq;have hs128:=e124.g;have E0:=E0.trans e124;have Z03:=CB e124.g Z03;have h94:=CB e124.g h94;have h122:=CB e124.g h122;refine cG (Er:=Er) (cX (ao (fun _=>⟨by decide,by decide⟩) aS))<|(CC hq).imp fun y131 hq v132 W129 e130 h133=>?_;have E0:=E0.trans e130;have hs128:=hs128.trans e130.g;have Z03:=CB e130.g Z03;have h94:=CB e130.g h94;exact hN127 y131 W129 _ hs128 ⟨_,rfl,E0,h133⟩ hq
      ·intro W123 N126 e124 hN127 hq;have hs134:=e124.g;have E0:=E0.trans e124;have Z03:=CB e124.g Z03;have h94:=CB e124.g h94;have h122:=CB e124.g h122
       try dsimp only[aF]
       exact hN127 s114 W123 _ hs134 ⟨_,rfl,E0,h122⟩ hq
      ·intro s135 W136 sg137 hS138 iv hq;obtain⟨v142,rfl,E0,h143⟩:=iv;have Z03:=CB hS138 Z03;have h94:=CB hS138 h94;exact aZ (Er:=Er) (bV (K:=K) (aJ h143) (aJ h94) (ao (fun _=>by decide)<|b9 (aJ Z03) ag))<|Dx hq fun y146 hq v147 W148 e149 h150=>hq v147 W148 (E0.trans e149) h150
theorem Cf{f:Addr}{fd:Dk}(F:Fun K "_law_faded" "_law_faded" (tp 53) f fd){gH:Int->Int->Int->Res (List Int)}(Z0q:Cal P w K mg base "_law_row" ["_law_cell","_law_many","_law_base"] (1) (cV isI isI isI (ro isI) gH))(h_len:mg "len"=none)(h_zip:mg "zip"=none):FnOk P w K mg base CX0 (2) f fd ["_law_strip","_law_cell"] (bF (qD K) isI (rs<|qD K)<|Bd gH):=by
 have SC:FnScope ["_law_strip","_law_cell","_law_draws","_law_worn"] ["_law_strip","_law_cell"] (defScope<|tp 53):=by walk_at "F"
 refine F.ok SC (fun vs H Q E h=>?_)<|fun cdv A outer s H vs Q E hr h=>?_;·obtain⟨_,_,_,_,_,_,rfl,_⟩:=h;rfl
 ·obtain⟨W0,Z0V,Z05,Z12,_,rfl,rfl,Z0u,Z0w,Er,hq⟩:=h;cases Z0w
  refine⟨_,(ae (br (Jy (mJ (au mM (aG (bN (K:=K) rfl) (by rfl) h_len E8<|a5 (pv 0) aa) a8<|aw _)<|lC<|au pS (ah aH (pv 1) a8) a8<|aw _)) (af<|az<|pv 0) aK)
   (ae (cm 2 (cU Z0q (a5 (ah bf (pv 1) a8) (a5 (aG (bN (K:=K) rfl) (by rfl) h_len E8<|a5 (pv 0) aa)<|a5 a8 aa))))
   (ae (cm 3<|bD<|a5 aV<|a5 aV<|a5 aV aa)
   (af (az (eU (N:=["_law_mark","_law_d","_law_worn"]) (cap:=[none,none,some 3]) (iE rfl (by decide +kernel) rfl (by decide +kernel) (by rfl) (by rfl)) rfl (fG (K:=K) rfl rfl h_zip (a5 (pv 0) (a5 (pv 2) aa))) (fun _ _ _ _=>(bL (K:=K) (n:=2) rfl rfl (aq (bj (i:=0) (show Ec (["_law_mark","_law_d","_law_worn"]:List Str) by decide +kernel) rfl (by walk_at "L")) (aq (bj (i:=1) (show Ec (["_law_mark","_law_d","_law_worn"]:List Str) by decide +kernel) rfl (by walk_at "L")) bJ)))) (fun _ _ _ _=>cQ) (fun _ _ _ _=>(eH (au mN (pv 1) a8 (aw _)) (pv 2) (pv 0))))))))),?_⟩
  have E0:Ext W0 W0:=.refl W0;rw[show L2.start ["_law_strip","_law_cell","_law_draws","_law_worn"] [Z12,.int Z05]=[some Z12,some<|.int Z05,none,none]from rfl];unfold Bd at hq;refine eD (Er:=Er) (tN (aB<|cv (eB<|FU<|aJ Z0u) ag) (aB (yY (ao (fun _=>by decide) aS) ag)))<|(CC hq).imp fun y1 hq W2 e3=>?_;have E0:=E0.trans e3;have Z0u:=CB e3.g Z0u;by_cases hb33:y1=true
  ·rw[if_pos hb33]at hq ⊢;exact aZ (Er:=Er) (aJ Z0u)<|fun v4 W5 e6 h7=>hq v4 W5 (E0.trans e6) h7
  ·rw[if_neg hb33]at hq ⊢
   try dsimp only[aF]
   refine ak (Er:=Er) (Fc (eE (ao (fun _=>⟨by decide,by decide⟩) aS) (eB<|FU<|aJ Z0u) ag))<|(CC hq).imp fun y10 hq v11 W8 e9 h12=>?_;have E0:=E0.trans e9;have Z0u:=CB e9.g Z0u;refine ak (Er:=Er) (bV (K:=K) (aX (x:=CP "?") (l:=[63]) (fT _ _ (by decide +kernel))) (aX (x:=CP "?") (l:=[63]) (fT _ _ (by decide +kernel))) (aX (x:=CP "?") (l:=[63]) (fT _ _ (by decide +kernel))))<|fun v15 W13 e14 h16=>?_;have E0:=E0.trans e14;have Z0u:=CB e14.g Z0u;have h12:=CB e14.g h12;exact aZ (Er:=Er) (Fc (eW (iJ (gm<|aJ Z0u)<|gm<|aJ h12) fun W19 a17 v18 e20 h21 Q27 k28=>by
    have h22:=Dt (R:=sh (qB K)) e20 h16;refine iK h21 fun v23 v25 h24 h26=>?_;cases h26;exact⟨by simp[Keep,bu],((n6 (aB (cv aS ag)) (aJ h22) (aJ h24)):EV Er _ [some v23,some (.int a17.2),some v15] _ _ _) _ (.refl _) _ k28⟩)) (Dx hq fun y29 hq v30 W31 e32 h33=>hq v30 W31 (E0.trans e32) h33)
theorem Cg{f:Addr}{fd:Dk}(F:Fun K "within" "within" (tp 21) f fd)(h_abs:mg "abs"=none):FnOk P w K mg base CX0 (1) f fd ["state","loose","bound"] (cV (qC K) isI isI (rs isB)<|Be):=by
 have SC:FnScope ["state","loose","bound","twist","idle"] ["state","loose","bound"] (defScope<|tp 21):=by walk_at "F"
 refine F.ok SC (fun vs H Q E h=>?_)<|fun cdv A outer s H vs Q E hr h=>?_;·obtain⟨_,_,_,_,_,_,_,_,rfl,_⟩:=h;rfl
 ·obtain⟨W0,state,loose,bound,Z29,_,_,rfl,rfl,Z1U,Z0E,Z19,Er,hq⟩:=h;cases Z0E;cases Z19;refine⟨_,(ae (eI (pv 0)<|bL (K:=K) (n:=2) rfl rfl<|aq (fA 3)<|aq (fA 4) bJ)
   (af (az (iA (cO pT (aG ju (by rfl) h_abs GY (a5 (pv 3) aa)) (pv 2) (aw _)) (iz (cO pT (pv 4) (pv 1) (aw _))))))),?_⟩
  have E0:Ext W0 W0:=.refl W0;unfold Be at hq;refine dQ (Er:=Er) (aJ Z1U)<|fun v1 W2 e3 h4=>?_;have E0:=E0.trans e3;refine iK h4 fun v5 v7 h6 h8=>?_;cases h6;cases h8;exact aZ (Er:=Er) (tO (cv (oN aS) aS)<|cv aS aS)<|Dx hq fun y9 hq v10 W11 e12 h13=>hq v10 W11 (E0.trans e12) h13
theorem Ci{f:Addr}{fd:Dk}(F:Fun K "twisting" "twisting" (tp 9) f fd){Z1V:Addr}(Z3F:mg "STEPS"=some (.ref Z1V))(Z3G:DictK K w Z1V [(FI<|CP "f",.int<|1),(FI<|CP "b",.int<|-1),(FI<|CP "i",.int<|0)]):FnOk P w K mg base CX0 (1) f fd ["tablet","turn"] (bF (qA K) isS (rs isI)<|Bf):=by
 have SC:FnScope ["tablet","turn","step"] ["tablet","turn"] (defScope<|tp 9):=by walk_at "F"
 refine F.ok SC (fun vs H Q E h=>?_)<|fun cdv A outer s H vs Q E hr h=>?_;·obtain⟨_,_,_,_,_,_,rfl,_⟩:=h;rfl
 ·obtain⟨W0,tablet,turn,Z0c,_,rfl,rfl,Z01,Z2g,Er,hq⟩:=h;cases Z2g
  refine⟨_,(ae (cm 2 (kX (K:=K) (w:=w) rfl rfl (dg (v:=.ref _) (by rfl) Z3F rfl) (pv 1)<|fun _ _=>rfl))
   (af (az (eH (au bX (ar (aE (K:=K) rfl) (pv 0) a8 (fun _ _=>rfl)) aV (aw _)) (pv 2) (gX fD (pv 2)))))),?_⟩
  have E0:Ext W0 W0:=.refl W0;unfold Bf at hq;refine ak (Er:=Er) (rB Z3G (by decide +kernel) dH)<|(CC hq).imp fun y3 hq v4 W1 e2 h5=>?_;cases h5;have E0:=E0.trans e2;have Z01:=CB e2.g Z01;exact aZ (Er:=Er) (n6 (aB (gi (aR (f:=fun(b:Cd)=>b.1) lQ<|aJ Z01) (aX (x:=CP "S") (l:=[83]) (fT _ _ (by decide +kernel))))) aS<|gh aS)<|Dx hq fun y6 hq v7 W8 e9 h10=>hq v7 W8 (E0.trans e9) h10
theorem Cj{f:Addr}{fd:Dk}(F:Fun K "state_behind" "state_behind" (tp 20) f fd){pD:Cd->Tx->Res Int}(Z1y:Cal P w K mg base "twisting" ["tablet","turn"] (1) (bF (qA K) isS (rs isI) pD)):FnOk P w K mg base CX0 (2) f fd ["tablet","state","turn"] (cV (qA K) (qC K) isS (rs<|qC K)<|Bg pD):=by
 have SC:FnScope ["tablet","state","turn","twist","idle"] ["tablet","state","turn"] (defScope<|tp 20):=by walk_at "F"
 refine F.ok SC (fun vs H Q E h=>?_)<|fun cdv A outer s H vs Q E hr h=>?_;·obtain⟨_,_,_,_,_,_,_,_,rfl,_⟩:=h;rfl
 ·obtain⟨W0,tablet,state,turn,Z0c,Z29,_,rfl,rfl,Z01,Z1U,Z2g,Er,hq⟩:=h;cases Z2g;refine⟨_,(ae (eI (pv 1)<|bL (K:=K) (n:=2) rfl rfl<|aq (fA 3)<|aq (fA 4) bJ)
   (af (az (bD (a5 (ah bo (pv 3) (cU Z1y (a5 (pv 0) (a5 (pv 2) aa)))) (a5 (eH (au bX (pv 2) aV (aw _)) (ah bo (pv 4) a8) a8) aa)))))),?_⟩
  have E0:Ext W0 W0:=.refl W0;unfold Bg at hq;refine dQ (Er:=Er) (aJ Z1U)<|fun v1 W2 e3 h4=>?_;have E0:=E0.trans e3;have Z01:=CB e3.g Z01;refine iK h4 fun v5 v7 h6 h8=>?_;cases h6;cases h8;exact aZ (Er:=Er) (eV (K:=K) (aQ aS<|b9 (aJ Z01) dH) (n6 (aB (gi dH (aX (x:=CP "i") (l:=[105]) (fT _ _ (by decide +kernel))))) (aQ aS ag) ag))<|Dx hq fun y12 hq v13 W14 e15 h16=>hq v13 W14 (E0.trans e15) h16
theorem Ck{f:Addr}{fd:Dk}(F:Fun K "twisted" "twisted" (tp 19) f fd){Z1W:Tok}(Z1z:mg "HOLES"=some (.int 4 Z1W)):FnOk P w K mg base CX0 (1) f fd ["tablet","twist"] (bF (qA K) isI (rs<|qA K)<|Bh):=by
 have SC:FnScope ["tablet","twist","lay","holes","stand"] ["tablet","twist"] (defScope<|tp 19):=by walk_at "F"
 refine F.ok SC (fun vs H Q E h=>?_)<|fun cdv A outer s H vs Q E hr h=>?_;·obtain⟨_,_,_,_,_,_,rfl,_⟩:=h;rfl
 ·obtain⟨W0,tablet,twist,Z0c,_,rfl,rfl,Z01,Z4I,Er,hq⟩:=h;cases Z4I;refine⟨_,(ae (eI (pv 0)<|bL (K:=K) (n:=3) rfl rfl<|aq (fA 2)<|aq (fA 3)<|aq (fA 4) bJ)
   (af (az (bD (a5 (pv 2) (a5 (pv 3) (a5 (ah aH (eH (au bX (pv 2) aV (aw _)) (ah bo (pv 4) (pv 1)) (ah fC (pv 4) (pv 1))) (dg (v:=.int 4) (by rfl) Z1z ⟨_,rfl⟩)) aa))))))),?_⟩
  have E0:Ext W0 W0:=.refl W0;unfold Bh at hq;refine dQ (Er:=Er) (aJ Z01)<|fun v1 W2 e3 h4=>?_;have E0:=E0.trans e3;refine tV h4 fun v5 v7 v9 h6 h8 h10=>?_;cases h6;cases h8;cases h10;exact aZ (Er:=Er) (bV (K:=K) dH dH (ao (fun _=>by decide) (n6 (aB (gi dH (aX (x:=CP "S") (l:=[83]) (fT _ _ (by decide +kernel))))) (aQ aS aS)<|aQ aS aS)))<|Dx hq fun y13 hq v14 W15 e16 h17=>hq v14 W15 (E0.trans e16) h17
theorem AF{f:Addr}{fd:Dk}(F:Fun K "top" "top" (tp 7) f fd){Z1W:Tok}(Z1z:mg "HOLES"=some (.int 4 Z1W)):FnOk P w K mg base CX0 (1) f fd ["tablet"] (dX (qA K) (rs isS)<|qH):=by
 have SC:FnScope ["tablet","lay","holes","stand"] ["tablet"] (defScope<|tp 7):=by walk_at "F"
 refine F.ok SC (fun vs H Q E h=>?_)<|fun cdv A outer s H vs Q E hr h=>?_;·obtain⟨_,_,_,_,rfl,_⟩:=h;rfl
 ·obtain⟨W0,tablet,Z0c,rfl,rfl,Z01,Er,hq⟩:=h;refine⟨_,(ae (eI (pv 0)<|bL (K:=K) (n:=3) rfl rfl<|aq (fA 1)<|aq (fA 2)<|aq (fA 3) bJ)
   (af (az (ar bP (pv 2) (ah aH (pv 3) (dg (v:=.int 4) (by rfl) Z1z ⟨_,rfl⟩)) (fun _ _=>rfl))))),?_⟩
  have E0:Ext W0 W0:=.refl W0;unfold qH at hq;refine dQ (Er:=Er) (aJ Z01)<|fun v1 W2 e3 h4=>?_;have E0:=E0.trans e3;refine tV h4 fun v5 v7 v9 h6 h8 h10=>?_;cases h6;cases h8;cases h10;exact aZ (Er:=Er) (bQ dH (ao (fun _=>by decide) aS))<|Dx hq fun y11 hq v12 W13 e14 h15=>hq v12 W13 (E0.trans e14) h15
theorem Cm{f:Addr}{fd:Dk}(F:Fun K "bottom" "bottom" (tp 8) f fd){Z1W:Tok}(Z1z:mg "HOLES"=some (.int 4 Z1W)):FnOk P w K mg base CX0 (1) f fd ["tablet"] (dX (qA K) (rs isS)<|Bi):=by
 have SC:FnScope ["tablet","lay","holes","stand"] ["tablet"] (defScope<|tp 8):=by walk_at "F"
 refine F.ok SC (fun vs H Q E h=>?_)<|fun cdv A outer s H vs Q E hr h=>?_;·obtain⟨_,_,_,_,rfl,_⟩:=h;rfl
 ·obtain⟨W0,tablet,Z0c,rfl,rfl,Z01,Er,hq⟩:=h;refine⟨_,(ae (eI (pv 0)<|bL (K:=K) (n:=3) rfl rfl<|aq (fA 1)<|aq (fA 2)<|aq (fA 3) bJ)
   (af (az (ar bP (pv 2) (ah aH (ah bo (pv 3) a8) (dg (v:=.int 4) (by rfl) Z1z ⟨_,rfl⟩)) (fun _ _=>rfl))))),?_⟩
  have E0:Ext W0 W0:=.refl W0;unfold Bi at hq;refine dQ (Er:=Er) (aJ Z01)<|fun v1 W2 e3 h4=>?_;have E0:=E0.trans e3;refine tV h4 fun v5 v7 v9 h6 h8 h10=>?_;cases h6;cases h8;cases h10;exact aZ (Er:=Er) (bQ dH (ao (fun _=>by decide)<|aQ aS ag))<|Dx hq fun y11 hq v12 W13 e14 h15=>hq v12 W13 (E0.trans e14) h15
theorem Cn{f:Addr}{fd:Dk}(F:Fun K "left_place" "left_place" (tp 12) f fd){ip:Cd->Res Tx}{xD:Cd->Res Tx}{pD:Cd->Tx->Res Int}(C_top:Cal P w K mg base "top" ["tablet"] (1) (dX (qA K) (rs isS) ip))(Z3l:Cal P w K mg base "bottom" ["tablet"] (1) (dX (qA K) (rs isS) xD))(Z1y:Cal P w K mg base "twisting" ["tablet","turn"] (1) (bF (qA K) isS (rs isI) pD)){Z1F:Addr}(Z3m:mg "SLANTS"=some (.ref Z1F))(Z3n:DictK K w Z1F [(FH<|1,.str<|CP "s"),(FH<|-1,.str<|CP "z"),(FH<|0,.str<|CP "o")]):FnOk P w K mg base CX0 (2) f fd ["tablet","turn"] (bF (qA K) isS (rs<|qB K)<|Bj ip xD pD):=by
 have SC:FnScope ["tablet","turn"] ["tablet","turn"] (defScope<|tp 12):=by walk_at "F"
 refine F.ok SC (fun vs H Q E h=>?_)<|fun cdv A outer s H vs Q E hr h=>?_;·obtain⟨_,_,_,_,_,_,rfl,_⟩:=h;rfl
 ·obtain⟨W0,tablet,turn,Z0c,_,rfl,rfl,Z01,Z2g,Er,hq⟩:=h;cases Z2g;refine⟨_,(af (az (bD (a5 (cU C_top<|a5 (pv 0) aa) (a5 (cU Z3l<|a5 (pv 0) aa) (a5 (kX (K:=K) (w:=w) rfl rfl (dg (v:=.ref _) (by rfl) Z3m rfl) (cU Z1y<|a5 (pv 0)<|a5 (pv 1) aa)<|fun _ _=>rfl) aa)))))),?_⟩;have E0:Ext W0 W0:=.refl W0;unfold Bj at hq;exact aZ (Er:=Er) (bV (K:=K) (cX<|aJ Z01) (cX<|aJ Z01) (rC Z3n (by decide +kernel)<|b9 (aJ Z01) dH))<|Dx hq fun y5 hq v6 W7 e8 h9=>hq v6 W7 (E0.trans e8) h9
theorem Co{f:Addr}{fd:Dk}(F:Fun K "suits" "suits" (tp 16) f fd){Z3Y:Tok}(Z3Z:mg "WORN"=some (.str (CP "?") Z3Y)):FnOk P w K mg base CX0 (1) f fd ["sign","left"] (bF isS isS (rs isB)<|Bk):=by
 have SC:FnScope ["sign","left"] ["sign","left"] (defScope<|tp 16):=by walk_at "F"
 refine F.ok SC (fun vs H Q E h=>?_)<|fun cdv A outer s H vs Q E hr h=>?_;·obtain⟨_,_,_,_,_,_,rfl,_⟩:=h;rfl
 ·obtain⟨W0,sign,left,_,_,rfl,rfl,Z4S,Z4T,Er,hq⟩:=h;cases Z4S;cases Z4T;refine⟨_,(af (az (zY (cO bX (pv 1) (dg (v:=.str<|CP "?") (by rfl) Z3Z ⟨_,rfl⟩)<|aw _)<|iz<|cO bX (pv 1) (pv 0)<|aw _))),?_⟩;have E0:Ext W0 W0:=.refl W0;unfold Bk at hq;exact aZ (Er:=Er) (Ag (gi dH (aX (x:=CP "?") (l:=[63]) (fT _ _ (by decide +kernel))))<|gi dH dH)<|Dx hq fun y1 hq v2 W3 e4 h5=>hq v2 W3 (E0.trans e4) h5
theorem Cp{f:Addr}{fd:Dk}(F:Fun K "agrees" "agrees" (tp 15) f fd){w8:Tx->Tx->Res Bool}(Z3I:Cal P w K mg base "suits" ["sign","left"] (1) (bF isS isS (rs isB) w8))(h_all:mg "all"=none)(h_zip:mg "zip"=none):FnOk P w K mg base CX0 (2) f fd ["place","mark"] (bF (qB K) (qB K) (rs isB)<|Bl w8):=by
 have SC:FnScope ["place","mark"] ["place","mark"] (defScope<|tp 15):=by walk_at "F"
 refine F.ok SC (fun vs H Q E h=>?_)<|fun cdv A outer s H vs Q E hr h=>?_;·obtain⟨_,_,_,_,_,_,rfl,_⟩:=h;rfl
 ·obtain⟨W0,place,mark,Z4a,Z1a,rfl,rfl,Z4K,Z1P,Er,hq⟩:=h;refine⟨_,(af (az (aG (rA (K:=K) rfl rfl) (by rfl) h_all M8 (a5 (eU (N:=["sign","left"]) (cap:=[none,none]) (iE rfl (by decide +kernel) rfl (by decide +kernel) (by rfl) (by rfl)) rfl (fG (K:=K) rfl rfl h_zip<|a5 (pv 0)<|a5 (pv 1) aa) (fun _ _ _ _=>(bL (K:=K) (n:=2) rfl rfl (aq (bj (i:=0) (show Ec (["sign","left"]:List Str) by decide +kernel) rfl (by walk_at "L")) (aq (bj (i:=1) (show Ec (["sign","left"]:List Str) by decide +kernel) rfl (by walk_at "L")) bJ)))) (fun _ _ _ _=>cQ)<|fun _ _ _ _=>(cU Z3I<|a5 (pv 0)<|a5 (pv 1) aa)) aa)))),?_⟩;have E0:Ext W0 W0:=.refl W0;rw[show L2.start ["place","mark"] [Z4a,Z1a]=[some Z4a,some Z1a]from rfl];unfold Bl at hq;exact aZ (Er:=Er) (z8 (K0 (eW (f:=fun(a1:Tx×Tx)=>w8 a1.1 a1.2) (iJ (jc<|aJ Z4K)<|jc<|aJ Z1P) fun W3 a1 v2 e4 h5 Q10 k11=>by
   refine iK h5 fun v6 v8 h7 h9=>?_;cases h7;cases h9;exact⟨by simp[Keep,bu],((b9 dH dH):EV Er _ [some (.str (aP a1.1)),some (.str (aP a1.2))] _ _ _) _ (.refl _) _ k11⟩))) (Dx hq fun y13 hq v14 W15 e16 h17=>hq v14 W15 (E0.trans e16) h17)
theorem Cq{f:Addr}{fd:Dk}(F:Fun K "leaves" "leaves" (tp 22) f fd){xF:Pl->Pl->Res Bool}{xE:Cd->Tx->Res Pl}{xC:Cd->Int->Res Cd}(Z3o:Cal P w K mg base "agrees" ["place","mark"] (2) (bF (qB K) (qB K) (rs isB) xF))(Z2h:Cal P w K mg base "left_place" ["tablet","turn"] (2) (bF (qA K) isS (rs<|qB K) xE))(Z36:Cal P w K mg base "twisted" ["tablet","twist"] (1) (bF (qA K) isI (rs<|qA K) xC)):FnOk P w K mg base CX0 (3) f fd ["tablet","state","turn","mark"] (gj (qA K) (qC K) isS (qB K) (rs isB)<|Bm xF xE xC):=by
 have SC:FnScope ["tablet","state","turn","mark"] ["tablet","state","turn","mark"] (defScope<|tp 22):=by walk_at "F"
 refine F.ok SC (fun vs H Q E h=>?_)<|fun cdv A outer s H vs Q E hr h=>?_;·obtain⟨_,_,_,_,_,_,_,_,_,_,rfl,_⟩:=h;rfl
 ·obtain⟨W0,tablet,state,turn,mark,Z0c,Z29,_,Z1a,rfl,rfl,Z01,Z1U,Z2g,Z1P,Er,hq⟩:=h;cases Z2g;refine⟨_,(af<|az<|cU Z3o<|a5 (cU Z2h<|a5 (cU Z36<|a5 (pv 0)<|a5 (ar (aE (K:=K) rfl) (pv 1) a8<|fun _ _=>rfl) aa)<|a5 (pv 2) aa)<|a5 (pv 3) aa),?_⟩;have E0:Ext W0 W0:=.refl W0;unfold Bm at hq;exact aZ (Er:=Er) (b9 (b9 (b9 (aJ Z01)<|aR (f:=fun(b:Ii)=>b.1) z5<|aJ Z1U) dH)<|aJ Z1P)<|Dx hq fun y3 hq v4 W5 e6 h7=>hq v4 W5 (E0.trans e6) h7
theorem Cr{f:Addr}{fd:Dk}(F:Fun K "onward" "onward" (tp 23) f fd){w6:Cd->Ii->Tx->Res Ii}{nS:Ii->Int->Int->Res Bool}{vp:Cd->Ii->Tx->Pl->Res Bool}(Z1X:Cal P w K mg base "state_behind" ["tablet","state","turn"] (2) (cV (qA K) (qC K) isS (rs<|qC K) w6))(Z1Y:Cal P w K mg base "within" ["state","loose","bound"] (1) (cV (qC K) isI isI (rs isB) nS))(Z3p:Cal P w K mg base "leaves" ["tablet","state","turn","mark"] (3) (gj (qA K) (qC K) isS (qB K) (rs isB) vp)){Z3J:Tok}(Z3K:mg "TURNS"=some (.str (CP "fbi") Z3J)):FnOk P w K mg base CX0 (4) f fd ["tablet","mark","loose","bound","state"] (gk (qA K) (qB K) isI isI (qC K) (ro<|isT2 K isS<|qC K)<|Bn w6 nS vp):=by
 have SC:FnScope ["tablet","mark","loose","bound","state","moves"] ["tablet","mark","loose","bound","state"] (defScope<|tp 23):=by walk_at "F"
 refine F.ok SC (fun vs H Q E h=>?_)<|fun cdv A outer s H vs Q E hr h=>?_;·obtain⟨_,_,_,_,_,_,_,_,_,_,_,_,rfl,_⟩:=h;rfl
 ·obtain⟨W0,tablet,mark,loose,bound,state,Z0c,Z1a,_,_,Z29,rfl,rfl,Z01,Z1P,Z0E,Z19,Z1U,Er,hq⟩:=h;cases Z0E;cases Z19
  refine⟨_,(ae (oI (i:=5) SC.nd rfl (by walk_at "L") (N:=["turn","tablet","state"]) (cap:=[none,some 0,some 4]) (iE rfl (by decide +kernel) rfl (by decide +kernel) (by rfl) (by rfl)) rfl (jC (dg (v:=.str<|CP "fbi") (by rfl) Z3K ⟨_,rfl⟩)) (fun _ _ _ _=>(bj (i:=0) (show Ec (["turn","tablet","state"]:List Str) by decide +kernel) rfl (by walk_at "L"))) (fun _ _ _ _=>cQ)<|fun _ _ _ _=>(bD<|a5 (pv 0)<|a5 (cU Z1X<|a5 (pv 1)<|a5 (pv 2)<|a5 (pv 0) aa) aa))
   (af (az (eU (N:=["turn","after","loose","bound","tablet","mark"]) (cap:=[none,none,some 2,some 3,some 0,some 1]) (iE rfl (by decide +kernel) rfl (by decide +kernel) (by rfl) (by rfl)) rfl (cf (K:=K) rfl (pv 5)) (fun _ _ _ _=>(bL (K:=K) (n:=2) rfl rfl (aq (bj (i:=0) (show Ec (["turn","after","loose","bound","tablet","mark"]:List Str) by decide +kernel) rfl (by walk_at "L")) (aq (bj (i:=1) (show Ec (["turn","after","loose","bound","tablet","mark"]:List Str) by decide +kernel) rfl (by walk_at "L")) bJ)))) (fun _ _ _ _=>(wx (Jy (fZ (di (cU Z1Y (a5 (pv 1) (a5 (pv 2) (a5 (pv 3) aa))))) (eT (di (cU Z3p (a5 (pv 4) (a5 (pv 1) (a5 (pv 0) (a5 (pv 5) aa))))))))))) (fun _ _ _ _=>(bD (a5 (pv 0) (a5 (pv 1) aa)))))))),?_⟩
  have E0:Ext W0 W0:=.refl W0;rw[show L2.start ["tablet","mark","loose","bound","state","moves"] [Z0c,Z1a,.int loose,.int bound,Z29]=[some Z0c,some Z1a,some<|.int loose,some<|.int bound,some Z29,none]from rfl];unfold Bn at hq;refine ak (Er:=Er) (Fc (eW (f:=fun(a3:Tx)=>(w6 tablet state a3).bind fun y12=>CJ (a3,y12)) (jN (aX (x:=CP "fbi") (l:=[102,98,105]) (fT _ _ (by decide +kernel)))) fun W5 a3 v4 e6 h7 Q13 k14=>by
   have h8:=Dt (R:=sh (qA K)) e6 Z01;have h9:=Dt (R:=sh (qC K)) e6 Z1U;cases h7;refine gn ?_;exact⟨by simp[Keep,bu],((eV (K:=K) dH (eM (aJ h8) (aJ h9) dH)):EV Er _ [some (.str (aP a3)),some Z0c,some Z29] _ _ _) _ (.refl _) _ k14⟩)) ((CC hq).imp fun y15 hq v16 W1 e2 h17=>?_)
  have E0:=E0.trans e2;have Z01:=CB e2.g Z01;have Z1P:=CB e2.g Z1P;exact jd (Er:=Er) (tU (f:=fun(a18:Tx×Ii)=>((nS a18.2 loose bound).bind fun y31=>if y31 then vp tablet a18.2 a18.1 mark else CJ false).bind fun y33=>if y33 then CJ (some (a18.1,a18.2))else CJ none) (cR<|aJ h17) fun W20 a18 v19 e21 h22 Q29 k30=>by
   have h23:=Dt (R:=sh<|qA K) e21 Z01;have h24:=Dt (R:=sh<|qB K) e21 Z1P;refine iK h22 fun v25 v27 h26 h28=>?_;cases h26;refine⟨by simp[Keep,bu],((iG (oM<|eM (aJ h28) aS aS)<|oM<|tR (aJ h23) (aJ h28) dH<|aJ h24):TV Er _ [some (.str<|aP a18.1),some v27,some<|.int loose,some<|.int bound,some Z0c,some Z1a] _ _) _ (.refl _) _ (Dx (P:=fun b32=>(if b32=true then CJ (some (a18.1,a18.2))else CJ none:Res (Option<|Tx×Ii)).OkE Er _) (CC k30) fun b32 k36 W34 e35=>?_)⟩;cases b32 with
   |false=>exact k36 none _ e35 trivial
   |true=>
    rw[if_pos rfl];refine EV.go (Er:=Er) (σ:=[some (.str (aP a18.1)),some v27,some (.int loose),some (.int bound),some Z0c,some Z1a]) (W1:=W34) e35 (eV (K:=K) dH (aJ h28)) ?_;exact fun u39 W37 e38 h40=>k36 (some u39) _ (e35.trans e38) h40) (Dx hq fun y42 hq p43 W44 e45 hp46 o47=>hq p43 W44 (E0.trans e45) (none_of E0.h hp46) o47)
theorem Cs{f:Addr}{fd:Dk}(F:Fun K "states_behind" "states_behind" (tp 25) f fd){gJ:Cd->Pl->Int->Int->Ii->Res (List<|Tx×Ii)}(Z1h:Cal P w K mg base "onward" ["tablet","mark","loose","bound","state"] (4) (gk (qA K) (qB K) isI isI (qC K) (ro<|isT2 K isS<|qC K) gJ))(h_sorted:mg "sorted"=none):FnOk P w K mg base CX0 (5) f fd ["tablet","mark","loose","bound","states"] (gk (qA K) (qB K) isI isI (qE K) (ro<|qC K)<|Bo gJ):=by
 have SC:FnScope ["tablet","mark","loose","bound","states"] ["tablet","mark","loose","bound","states"] (defScope<|tp 25):=by walk_at "F"
 refine F.ok SC (fun vs H Q E h=>?_)<|fun cdv A outer s H vs Q E hr h=>?_;·obtain⟨_,_,_,_,_,_,_,_,_,_,_,_,rfl,_⟩:=h;rfl
 ·obtain⟨W0,tablet,mark,loose,bound,states,Z0c,Z1a,_,_,Z40,rfl,rfl,Z01,Z1P,Z0E,Z19,Z4A,Er,hq⟩:=h;cases Z0E;cases Z19;refine⟨_,(af (az (aG (mm rfl) (by rfl) h_sorted Gx (a5 (rW (fb hr) (N:=["state","turn","after","tablet","mark","loose","bound"]) (cap:=[none,none,none,some 0,some 1,some 2,some 3]) (iE rfl (by decide +kernel) rfl (by decide +kernel) (by rfl) (by rfl)) rfl (cf (K:=K) rfl<|pv 4) (fun _ _ _ _=>(bj (i:=0) (show Ec (["state","turn","after","tablet","mark","loose","bound"]:List Str) by decide +kernel) rfl (by walk_at "L"))) (fun _ _ _ _=>cQ) (fun _ _ _ _=>(cf (K:=K) rfl<|cU Z1h<|a5 (pv 3)<|a5 (pv 4)<|a5 (pv 5)<|a5 (pv 6)<|a5 (pv 0) aa)) (fun _ _ _ _=>(bL (K:=K) (n:=2) rfl rfl (aq (bj (i:=1) (show Ec (["state","turn","after","tablet","mark","loose","bound"]:List Str) by decide +kernel) rfl (by walk_at "L")) (aq (bj (i:=2) (show Ec (["state","turn","after","tablet","mark","loose","bound"]:List Str) by decide +kernel) rfl (by walk_at "L")) bJ)))) (fun _ _ _ _=>cQ)<|fun _ _ _ _=>(pv 2)) aa)))),?_⟩;have E0:Ext W0 W0:=.refl W0;rw[show L2.start ["tablet","mark","loose","bound","states"] [Z0c,Z1a,.int loose,.int bound,Z40]=[some Z0c,some Z1a,some<|.int loose,some<|.int bound,some Z40]from rfl];unfold Bo at hq;exact jd (Er:=Er) (uM (cR<|aJ Z4A) (fun W1 D2 W5 a6 v7 s8 M9 hS10 e3 h4 e11 o12 h13 k14=>by
   have h15:=CB hS10 Z01;have h16:=CB hS10 Z1P;refine gn ?_;exact⟨by simp[Keep,bu],uf (((zf e11 (cR<|Fc<|fo (aJ h15) (aJ h16) aS aS<|aJ h13) (fun _ _ _ e o=>o.mono e) (fun W19 a20 v21 s22 M23 hS24 e25 o26 h27 k28=>by
    have h29:=CB hS24 h15;have h30:=CB hS24 h16;have h31:=CB hS24 h13;refine iK h27 fun v32 v34 h33 h35=>?_;cases h33;exact⟨by simp[Keep,bu],uf (((zr e25 h4 (aJ h35)):BV Er _ [some v7,some (.str (aP a20.1)),some v34,some Z0c,some Z1a,some (.int loose),some (.int bound)] _ _ _ _ _) _ _ _ (.refl _) o26 k28)⟩)):BV Er _ [some v7,none,none,some Z0c,some Z1a,some (.int loose),some (.int bound)] _ _ _ _ _) _ _ _ (.refl _) o12 k14)⟩)) (Dx hq fun y38 hq p39 W40 e41 hp42 o43=>hq p39 W40 (E0.trans e41) (none_of E0.h hp42) o43)
theorem Ct{f:Addr}{fd:Dk}(F:Fun K "search" "search" (tp 24) f fd){nS:Ii->Int->Int->Res Bool}{pE:Cd->Pl->Int->Int->(List Ii)->Res (List Ii)}(Z1Y:Cal P w K mg base "within" ["state","loose","bound"] (1) (cV (qC K) isI isI (rs isB) nS))(Z1Q:Cal P w K mg base "states_behind" ["tablet","mark","loose","bound","states"] (5) (gk (qA K) (qB K) isI isI (qE K) (ro<|qC K) pE)){Z1A:Addr}(Z1G:mg "START"=some (.ref Z1A))(Z1H:∀H,SqT K H Z1A [.int (0),.int<|0]):FnOk P w K mg base CX0 (6) f fd ["tablet","strip","loose","bound"] (gj (qA K) (qD K) isI isI (yi<|oL<|oL<|fz<|qC K)<|Bp nS pE):=by
 have SC:FnScope ["tablet","strip","loose","bound","lists","mark"] ["tablet","strip","loose","bound"] (defScope<|tp 24):=by walk_at "F"
 refine F.ok SC (fun vs H Q E h=>?_)<|fun cdv A outer s H vs Q E hr h=>?_;·obtain⟨_,_,_,_,_,_,_,_,_,_,rfl,_⟩:=h;rfl
 ·obtain⟨W0,tablet,strip,loose,bound,Z0c,Z0O,_,_,rfl,rfl,Z01,Z07,Z0E,Z19,Er,hq⟩:=h;cases Z0E;cases Z19
  refine⟨_,(ae (cm 4 (bS (a5 (eH (di (cU Z1Y (a5 (dg (v:=.ref _) (by rfl) Z1G rfl)<|a5 (pv 2)<|a5 (pv 3) aa))) (bS (a5 (dg (v:=.ref _) (by rfl) Z1G rfl) aa))<|bS aa) aa)))
   (ae (cJ DC rfl (cf (K:=K) rfl<|pv 1) (fA 5) (ae (br (au (p5 hr.units0) (ar (aY (K:=K) rfl) (pv 4) (gX fD a8)<|fun _ _=>rfl) (bS aa)<|aw _) (af<|az<|pv 4) aK)
   (af (d5 (bG (K:=K) rfl (pv 4) (a5 (cU Z1Q (a5 (pv 0) (a5 (pv 5) (a5 (pv 2) (a5 (pv 3) (a5 (ar (aY (K:=K) rfl) (pv 4) (gX fD a8) (fun _ _=>rfl)) aa)))))) aa))))))
   (af (az (pv 4))))),?_⟩
  have E0:Ext W0 W0:=.refl W0;unfold Bp at hq;have S:Sep W0 W0 []:=MN;refine iN (Er:=Er) S E0 (va<|uZ (oM<|eM (hZ Z1H (gI _)<|gI _) aS aS) (EVo.tr<|fJ<|bR (hZ Z1H (gI _)<|gI _)<|fI (R:=(qC K)))<|nt (R:=(fz<|qC K)))<|(CC hq).imp fun y3 hq v4 W5 e6 S=>?_;have E0:=E0.trans e6;have Z01:=CB e6.g Z01;have Z07:=CB e6.g Z07;have S:Sep W0 W5 [tc (oL<|oL<|fz<|qC K) y3 v4]:=S;refine l0 (Er:=Er) (f:=(yr pE tablet loose bound)) (s0:=y3) (Iv:=fun(s9:(List<|List Ii))(W10:Wd)(g11:St)=>∃(d12:Option V),g11=[some Z0c,some Z0O,some<|.int loose,some<|.int bound,some v4,d12]/\Ext W0 W10/\Sep W0 W10 [tc (oL<|oL<|fz<|qC K) s9 v4]) (cR<|aJ Z07) (CC hq) ?_ ?_ ?_
  ·intro W24 e25;have S:=S.ext e25;have E0:=E0.trans e25;have Z01:=CB e25.g Z01;exact⟨_,rfl,E0,S⟩
  ·intro Wb13 W14 W15 a7 v16 s8 sg17 P18 hW19 hB20 iv e21 h22 hrt23 hq;obtain⟨d12,rfl,E0,S⟩:=iv;have Z01:=CB hW19 Z01;have S:=S.ext e21;have E0:=E0.trans e21;have hB20:=hB20.trans e21.g;have Z01:=CB e21.g Z01;refine gn (σ':=[some Z0c,some Z0O,some<|.int loose,some<|.int bound,some v4,some v16]) ?_;unfold yr at hq;refine eD (Er:=Er) (aB<|p6<|wQ<|wO (wN (R:=(oL<|oL<|fz<|qC K)) (k:=0) S)<|gh ag)<|(CC hq).imp fun y29 hq W30 e31=>?_;have S:=S.ext e31;have E0:=E0.trans e31;have hB20:=hB20.trans e31.g;have Z01:=CB e31.g Z01;have h22:=CB e31.g h22;by_cases hb42:y29=true
   ·rw[if_pos hb42]at hq ⊢;exact qj (k:=0) S rfl fun F32 hF33 t34=>(hrt23 _ hq) v4 W30 F32 E0 hF33 t34
   ·rw[if_neg hb42]at hq ⊢
    try dsimp only[aF]
    refine vb (Er:=Er) (K:=K) (xs:=s8) (k:=0) (i:=4) S E0 rfl (fun W35 hS36 h37=>(have Z01:=CB (R:=(qA K)) hS36 Z01;have h22:=CB (R:=(qB K)) hS36 h22;(fo (aJ Z01) (aJ h22) aS aS<|cw (FU<|aJ h37)<|gh ag)))<|(CC hq).imp fun y40 hq W41 hS42 E0 S=>?_;have S:Sep W0 W41 [tc (oL<|oL<|fz<|qC K) y40 v4]:=S;have hB20:=hB20.trans hS42;have Z01:=CB hS42 Z01;have h22:=CB hS42 h22
    try dsimp only
    refine cH (W:=W41) y40 hB20 ?_ hq;exact⟨_,rfl,E0,S⟩
  ·intro s43 W44 sg45 hS46 iv hq;obtain⟨d12,rfl,E0,S⟩:=iv;exact qj (k:=0) S rfl fun F47 hF48 t49=>hq v4 W44 F47 E0 hF48 t49
theorem Cu{f:Addr}{fd:Dk}(F:Fun K "least" "least" (tp 29) f fd){iy:Cd->(List Pl)->Int->Int->Res (List<|List Ii)}(Z0T:Cal P w K mg base "search" ["tablet","strip","loose","bound"] (6) (gj (qA K) (qD K) isI isI (yi<|oL<|oL<|fz<|qC K) iy))(h_len:mg "len"=none):FnOk P w K mg base CX0 (7) f fd ["tablet","strip","loose"] (cV (qA K) (qD K) isI (rs<|isO isI)<|Bq iy):=by
 have SC:FnScope ["tablet","strip","loose","bound"] ["tablet","strip","loose"] (defScope<|tp 29):=by walk_at "F"
 refine F.ok SC (fun vs H Q E h=>?_)<|fun cdv A outer s H vs Q E hr h=>?_;·obtain⟨_,_,_,_,_,_,_,_,rfl,_⟩:=h;rfl
 ·obtain⟨W0,tablet,strip,loose,Z0c,Z0O,_,rfl,rfl,Z01,Z07,Z0E,Er,hq⟩:=h;cases Z0E
  refine⟨_,(ae (br (au (p5 hr.units0) (ar (aY (K:=K) rfl) (cU Z0T (a5 (pv 0) (a5 (pv 1) (a5 (pv 2) (a5 (aG (bN (K:=K) rfl) (by rfl) h_len E8<|a5 (pv 1) aa) aa))))) (gX fD a8)<|fun _ _=>rfl) (bS aa)<|aw _) (af<|az fX) aK)
   (ae (cm 3 a8)
   (ae (mK DC (au (p5 hr.units0) (ar (aY (K:=K) rfl) (cU Z0T<|a5 (pv 0)<|a5 (pv 1)<|a5 (pv 2)<|a5 (pv 3) aa) (gX fD a8)<|fun _ _=>rfl) (bS aa)<|aw _) (af (lD (i:=3) SC.nd rfl (by walk_at "L") a8 sI)))
   (af (az (pv 3)))))),?_⟩
  have E0:Ext W0 W0:=.refl W0;unfold Bq at hq;refine eD (Er:=Er) (aB<|p6<|FU<|cw (FU<|MI<|ft (aJ Z01) (aJ Z07) aS<|eB<|FU<|aJ Z07)<|gh ag)<|(CC hq).imp fun y3 hq W4 e5=>?_;have E0:=E0.trans e5;have Z01:=CB e5.g Z01;have Z07:=CB e5.g Z07;by_cases hb38:y3=true
  ·rw[if_pos hb38]at hq ⊢;exact aZ (Er:=Er) (hW (R:=isI))<|fun v6 W7 e8 h9=>hq v6 W7 (E0.trans e8) h9
  ·rw[if_neg hb38]at hq ⊢
   try dsimp only[aF]
   refine ak (Er:=Er) ag<|fun v12 W10 e11 h13=>?_;cases h13;have E0:=E0.trans e11;have Z01:=CB e11.g Z01;have Z07:=CB e11.g Z07;refine jW (Er:=Er) (c:=(AB iy tablet strip loose)) (f:=AD) (s0:=(0:Int)) (n:=cap) (Iv:=fun(s16:Int)(W17:Wd)(g18:St)=>g18=[some Z0c,some Z0O,some<|.int loose,some<|.int s16]/\Ext W0 W17) (CC hq) ?_ ?_ ?_ ?_ ?_;·exact⟨rfl,E0⟩
   ·intro W20 W21 s15 sg22 e26 iv;obtain⟨rfl,E0⟩:=iv;have E0:=E0.trans e26;exact⟨rfl,E0⟩
   ·intro W20 s15 sg22 hW24 iv;obtain⟨rfl,E0⟩:=iv;have Z01:=CB hW24 Z01;have Z07:=CB hW24 Z07;unfold AB;exact(aB<|p6<|FU<|cw (FU<|MI<|ft (aJ Z01) (aJ Z07) aS aS)<|gh ag)
   ·intro Wb19 W20 s15 sg22 P23 hW24 hB25 iv hq;obtain⟨rfl,E0⟩:=iv;have Z01:=CB hW24 Z01;have Z07:=CB hW24 Z07;unfold AD at hq;refine lU (Er:=Er) (a:=s15) ag<|fun W29 e30=>?_;have E0:=E0.trans e30;have hB25:=hB25.trans e30.g;have Z01:=CB e30.g Z01;have Z07:=CB e30.g Z07
    try dsimp only
    refine cH (W:=W29) (s15+(1:Int)) hB25 ?_ hq;exact⟨rfl,E0⟩
   ·intro s31 W32 sg33 hS34 iv hq;obtain⟨rfl,E0⟩:=iv;exact aZ (Er:=Er) (jU aS)<|fun v35 W36 e37 h38=>hq v35 W36 (E0.trans e37) h38
theorem Cv{f:Addr}{fd:Dk}(F:Fun K "_law_next" "_law_next" (tp 50) f fd){iP:Cd->Tx->Res Int}(Z18:Cal P w K mg base "_law_twist" ["_law_card_here","_law_turn"] (2) (bF (qA K) isS (rs isI) iP))(h_abs:mg "abs"=none)(h_int:mg "int"=none)(h_zip:mg "zip"=none):FnOk P w K mg base CX0 (3) f fd ["_law_card_here","_law_mark","_law_loose","_law_bound","_law_state"] (gk (qA K) (qB K) isI isI (qC K) (ro<|qC K)<|Br iP):=by
 have SC:FnScope ["_law_card_here","_law_mark","_law_loose","_law_bound","_law_state","_law_out","_law_turn","_law_step","_law_now","_law_idle","_law_hole","_law_good","_law_sign","_law_left"] ["_law_card_here","_law_mark","_law_loose","_law_bound","_law_state"] (defScope<|tp 50):=by walk_at "F"
 refine F.ok SC (fun vs H Q E h=>?_)<|fun cdv A outer s H vs Q E hr h=>?_;·obtain⟨_,_,_,_,_,_,_,_,_,_,_,_,rfl,_⟩:=h;rfl
 ·obtain⟨W0,Z02,Z1N,Z0i,Z0j,Z0x,Z0a,Z1Z,_,_,Z1I,rfl,rfl,Z00,Z08,Z37,Z38,Z06,Er,hq⟩:=h;cases Z37;cases Z38;refine⟨_,(ae (cm 5<|bS aa)
   (ae (cJ DC rfl (jC aV) (fA 6) (ae (cm 7<|cU Z18<|a5 (pv 0)<|a5 (pv 6) aa)
   (ae (cm 8<|ah bo (ar (aE (K:=K) rfl) (pv 4) a8<|fun _ _=>rfl)<|pv 7)
   (ae (cm 9 (ah f6 (ah bo (ar (aE (K:=K) rfl) (pv 4) a8<|fun _ _=>rfl) a8) (dF kP (by rfl) h_int G7<|a5 (cO bX (pv 6) aV<|aw _) aa)))
   (ae (cm 10<|ah aH (ah bo (ar (aE (K:=K) rfl) (pv 0) a8<|fun _ _=>rfl)<|pv 8) a8)
   (ae (br (au bX (ar (aE (K:=K) rfl) (pv 0) a8<|fun _ _=>rfl) aV<|aw _) (af<|cm 10<|ah aH (ah fC (ar (aE (K:=K) rfl) (pv 0) a8<|fun _ _=>rfl)<|pv 8) a8) aK)
   (ae (cm 11 (iA (cO pT (aG ju (by rfl) h_abs GY<|a5 (pv 8) aa) (pv 3)<|aw _)<|iz<|cO pT (pv 9) (pv 2)<|aw _))
   (ae (cJ DC rfl (fG (K:=K) rfl rfl h_zip<|a5 (bD<|a5 (ar bP (ar (aE (K:=K) rfl) (pv 0) a8<|fun _ _=>rfl) (pv 10)<|fun _ _=>rfl)<|a5 (ar bP (ar (aE (K:=K) rfl) (pv 0) a8<|fun _ _=>rfl) (ah aH (ah bo (pv 10) a8) a8)<|fun _ _=>rfl)<|a5 (ar bP aV (ah bo (pv 7) a8)<|fun _ _=>rfl) aa)<|a5 (pv 1) aa) (bL (K:=K) (n:=2) rfl rfl<|aq (fA 12)<|aq (fA 13) bJ)<|af<|br (Jy<|fZ (au pS (pv 13) aV<|aw _)<|eT<|au pS (pv 13) (pv 12)<|aw _) (af<|cm 11 gN) aK)
   (af (br (di (pv 11)) (af (d5 (bG (K:=K) rfl (pv 5) (a5 (bD (a5 (pv 8) (a5 (pv 9) aa))) aa)))) aK))))))))))
   (af (az (pv 5))))),?_⟩
  have E0:Ext W0 W0:=.refl W0;unfold Br at hq;refine cS (Er:=Er) (fH (R:=(qC K)))<|fun p3 W1 e2 hp4 o5=>?_;have fr6:=none_of E0.h hp4;have E0:=E0.trans e2;have Z00:=CB e2.g Z00;have Z08:=CB e2.g Z08;have Z06:=CB e2.g Z06;refine cN (Er:=Er) (f:=(yt iP Z02 Z1N Z0i Z0j Z0x)) (s0:=([]:List Ii)) (Iv:=fun(s9:(List Ii))(W10:Wd)(g11:St)=>∃(d13:Option V)(d14:Option V)(d15:Option V)(d16:Option V)(d17:Option V)(d18:Option V)(d19:Option V)(d20:Option V),g11=[some Z0a,some Z1Z,some<|.int Z0i,some<|.int Z0j,some Z1I,some<|.ref p3,d20,d13,d14,d15,d16,d17,d18,d19]/\Ext W0 W10/\Ow (qC K) W10 p3 s9) (jN (aX (x:=CP "fbi") (l:=[102,98,105]) (fT _ _ (by decide +kernel)))) (CC hq) ?_ ?_ ?_
  ·intro W32 e33;have E0:=E0.trans e33;have Z00:=CB e33.g Z00;have Z08:=CB e33.g Z08;have Z06:=CB e33.g Z06;have o5:=o5.mono e33;exact⟨_,_,_,_,_,_,_,_,rfl,E0,o5⟩
  ·intro Wb21 W22 W23 a7 v24 s8 sg25 P26 hW27 hB28 iv e29 h30 hq;obtain⟨d13,d14,d15,d16,d17,d18,d19,d20,rfl,E0,o12⟩:=iv;have Z00:=CB hW27 Z00;have Z08:=CB hW27 Z08;have Z06:=CB hW27 Z06;have E0:=E0.trans e29;have hB28:=hB28.trans e29.g;have Z00:=CB e29.g Z00;have Z08:=CB e29.g Z08;have Z06:=CB e29.g Z06;have o12:=o12.mono e29;cases h30;refine gn (σ':=[some Z0a,some Z1Z,some<|.int Z0i,some<|.int Z0j,some Z1I,some<|.ref p3,some<|.str<|aP a7,d13,d14,d15,d16,d17,d18,d19]) ?_;unfold yt at hq;refine ak (Er:=Er) (b9 (aJ Z00) dH)<|(CC hq).imp fun y38 hq v39 W36 e37 h40=>?_;cases h40;have E0:=E0.trans e37;have hB28:=hB28.trans e37.g;have Z00:=CB e37.g Z00;have Z08:=CB e37.g Z08;have Z06:=CB e37.g Z06;have o12:=o12.mono e37;refine ak (Er:=Er) (aQ (aR (f:=fun(b:Ii)=>b.1) z5<|aJ Z06) aS)<|fun v43 W41 e42 h44=>?_;cases h44;have E0:=E0.trans e42;have hB28:=hB28.trans e42.g;have Z00:=CB e42.g Z00;have Z08:=CB e42.g Z08;have Z06:=CB e42.g Z06;have o12:=o12.mono e42;refine ak (Er:=Er) (jK (aQ (aR (f:=fun(b:Ii)=>b.2) z6<|aJ Z06) ag) (qf (gi dH (aX (x:=CP "i") (l:=[105]) (fT _ _ (by decide +kernel))))))<|(CC hq).imp fun y47 hq v48 W45 e46 h49=>?_;cases h49;have E0:=E0.trans e46;have hB28:=hB28.trans e46.g;have Z00:=CB e46.g Z00;have Z08:=CB e46.g Z08;have Z06:=CB e46.g Z06;have o12:=o12.mono e46;refine ak (Er:=Er) (ao (fun _=>by decide)<|aQ (aR (f:=fun(b:Cd)=>b.2.2) jM<|aJ Z00) aS)<|fun v52 W50 e51 h53=>?_;cases h53;have E0:=E0.trans e51;have hB28:=hB28.trans e51.g;have Z00:=CB e51.g Z00;have Z08:=CB e51.g Z08;have Z06:=CB e51.g Z06;have o12:=o12.mono e51;refine bI (Er:=Er) (Iv:=fun(s69:Int)(W70:Wd)(g71:St)=>g71=[some Z0a,some Z1Z,some<|.int Z0i,some<|.int Z0j,some Z1I,some<|.ref p3,some<|.str<|aP a7,some<|.int y38,some<|.int<|Z0x.1+y38,some<|.int y47,some<|.int s69,d17,d18,d19]/\Ext W0 W70/\Ow (qC K) W70 p3 s8) (aB (gi (aR (f:=fun(b:Cd)=>b.1) lQ<|aJ Z00) (aX (x:=CP "Z") (l:=[90]) (fT _ _ (by decide +kernel))))) (CC hq) ?_ ?_ ?_
   ·intro W54 N57 e55 hN58 hq;have hs59:=e55.g;have E0:=E0.trans e55;have hB28:=hB28.trans e55.g;have Z00:=CB e55.g Z00;have Z08:=CB e55.g Z08;have Z06:=CB e55.g Z06;have o12:=o12.mono e55;refine cG (Er:=Er) (ao (fun _=>by decide)<|aQ (aR (f:=fun(b:Cd)=>b.2.2) jM<|aJ Z00) aS)<|fun v62 W60 e61 h63=>?_;cases h63;have E0:=E0.trans e61;have hB28:=hB28.trans e61.g;have hs59:=hs59.trans e61.g;have Z00:=CB e61.g Z00;have Z08:=CB e61.g Z08;have Z06:=CB e61.g Z06;have o12:=o12.mono e61;exact hN58 ((Z02.2.2-(Z0x.1+y38))%4) W60 _ hs59 ⟨rfl,E0,o12⟩ hq
   ·intro W54 N57 e55 hN58 hq;have hs64:=e55.g;have E0:=E0.trans e55;have hB28:=hB28.trans e55.g;have Z00:=CB e55.g Z00;have Z08:=CB e55.g Z08;have Z06:=CB e55.g Z06;have o12:=o12.mono e55
    try dsimp only[aF]
    exact hN58 ((Z02.2.2+(Z0x.1+y38))%4) W54 _ hs64 ⟨rfl,E0,o12⟩ hq
   ·intro s65 W66 sg67 hS68 iv hq;obtain⟨rfl,E0,o72⟩:=iv;have hB28:=hB28.trans hS68;have Z00:=CB hS68 Z00;have Z08:=CB hS68 Z08;have Z06:=CB hS68 Z06;refine ak (Er:=Er) (tO (cv (oN aS) aS)<|cv aS aS)<|(CC hq).imp fun y75 hq v76 W73 e74 h77=>?_;cases h77;have E0:=E0.trans e74;have hB28:=hB28.trans e74.g;have Z00:=CB e74.g Z00;have Z08:=CB e74.g Z08;have Z06:=CB e74.g Z06;have o72:=o72.mono e74;refine cN (Er:=Er) (f:=w9) (s0:=y75) (Iv:=fun(s85:Bool)(W86:Wd)(g87:St)=>∃(d88:Option V)(d89:Option V),g87=[some Z0a,some Z1Z,some<|.int Z0i,some<|.int Z0j,some Z1I,some<|.ref p3,some<|.str<|aP a7,some<|.int y38,some<|.int<|Z0x.1+y38,some<|.int y47,some<|.int s65,some<|.bl s85,d88,d89]/\Ext W0 W86/\Ow (qC K) W86 p3 s8) (iJ (jc (bV (K:=K) (bQ (aR (f:=fun(b:Cd)=>b.2.1) j9<|aJ Z00) aS) (bQ (aR (f:=fun(b:Cd)=>b.2.1) j9<|aJ Z00) (ao (fun _=>by decide)<|aQ aS ag)) (bQ (aX (x:=CP "zos") (l:=[122,111,115]) (fT _ _ (by decide +kernel)))<|aQ aS ag)))<|jc<|aJ Z08) (CC hq) ?_ ?_ ?_
    ·intro W102 e103;have E0:=E0.trans e103;have hB28:=hB28.trans e103.g;have Z00:=CB e103.g Z00;have Z08:=CB e103.g Z08;have Z06:=CB e103.g Z06;have o72:=o72.mono e103;exact⟨_,_,rfl,E0,o72⟩
    ·intro Wb91 W92 W93 a83 v94 s84 sg95 P96 hW97 hB98 iv e99 h100 hq;obtain⟨d88,d89,rfl,E0,o90⟩:=iv;have hB28:=hB28.trans hW97;have Z00:=CB hW97 Z00;have Z08:=CB hW97 Z08;have Z06:=CB hW97 Z06;have E0:=E0.trans e99;have hB28:=hB28.trans e99.g;have hB98:=hB98.trans e99.g;have Z00:=CB e99.g Z00;have Z08:=CB e99.g Z08;have Z06:=CB e99.g Z06;have o90:=o90.mono e99;refine iK h100 fun v108 v110 h109 h111=>?_;cases h109;cases h111;unfold w9 at hq;refine iL (Er:=Er) (Iv:=fun(s128:Bool)(W129:Wd)(g130:St)=>g130=[some Z0a,some Z1Z,some<|.int Z0i,some<|.int Z0j,some Z1I,some<|.ref p3,some<|.str<|aP a7,some<|.int y38,some<|.int<|Z0x.1+y38,some<|.int y47,some<|.int s65,some<|.bl s128,some<|.str<|aP a83.1,some<|.str<|aP a83.2]/\Ext W0 W129/\Ow (qC K) W129 p3 s8) (iG (aB (tL dH (aX (x:=CP "?") (l:=[63]) (fT _ _ (by decide +kernel)))))<|aB<|tL dH dH) (CC hq) ?_ ?_ ?_
     ·intro W113 N116 e114 hN117 hq;have hs118:=e114.g;have E0:=E0.trans e114;have hB28:=hB28.trans e114.g;have hB98:=hB98.trans e114.g;have Z00:=CB e114.g Z00;have Z08:=CB e114.g Z08;have Z06:=CB e114.g Z06;have o90:=o90.mono e114;refine cG (Er:=Er) tI<|fun v121 W119 e120 h122=>?_;cases h122;have E0:=E0.trans e120;have hB28:=hB28.trans e120.g;have hB98:=hB98.trans e120.g;have hs118:=hs118.trans e120.g;have Z00:=CB e120.g Z00;have Z08:=CB e120.g Z08;have Z06:=CB e120.g Z06;have o90:=o90.mono e120;exact hN117 false W119 _ hs118 ⟨rfl,E0,o90⟩ hq
     ·intro W113 N116 e114 hN117 hq;have hs123:=e114.g;have E0:=E0.trans e114;have hB28:=hB28.trans e114.g;have hB98:=hB98.trans e114.g;have Z00:=CB e114.g Z00;have Z08:=CB e114.g Z08;have Z06:=CB e114.g Z06;have o90:=o90.mono e114
      try dsimp only[aF]
      exact hN117 s84 W113 _ hs123 ⟨rfl,E0,o90⟩ hq
     ·intro s124 W125 sg126 hS127 iv hq;obtain⟨rfl,E0,o131⟩:=iv;have hB28:=hB28.trans hS127;have hB98:=hB98.trans hS127;have Z00:=CB hS127 Z00;have Z08:=CB hS127 Z08;have Z06:=CB hS127 Z06
      try dsimp only
      refine cH (W:=W125) s124 hB98 ?_ hq;exact⟨_,_,rfl,E0,o131⟩
    ·intro s133 W134 sg135 hS136 iv hq;obtain⟨d88,d89,rfl,E0,o90⟩:=iv;have hB28:=hB28.trans hS136;have Z00:=CB hS136 Z00;have Z08:=CB hS136 Z08;have Z06:=CB hS136 Z06;refine iL (Er:=Er) (Iv:=fun(s152:(List Ii))(W153:Wd)(g154:St)=>g154=[some Z0a,some Z1Z,some<|.int Z0i,some<|.int Z0j,some Z1I,some<|.ref p3,some<|.str<|aP a7,some<|.int y38,some<|.int<|Z0x.1+y38,some<|.int y47,some<|.int s65,some<|.bl s133,d88,d89]/\Ext W0 W153/\Ow (qC K) W153 p3 s152) (oM BI) (CC hq) ?_ ?_ ?_
     ·intro W137 N140 e138 hN141 hq;have hs142:=e138.g;have E0:=E0.trans e138;have hB28:=hB28.trans e138.g;have Z00:=CB e138.g Z00;have Z08:=CB e138.g Z08;have Z06:=CB e138.g Z06;have o90:=o90.mono e138;refine gp (Er:=Er) o90 (eV (K:=K) aS aS)<|(CC hq).imp fun y146 hq W143 mu144 o145=>?_;have E0:=mu144.e _ E0 fr6;have hB28:=hB28.trans mu144.g;have hs142:=hs142.trans mu144.g;have Z00:=CB mu144.g Z00;have Z08:=CB mu144.g Z08;have Z06:=CB mu144.g Z06;exact hN141 y146 W143 _ hs142 ⟨rfl,E0,o145⟩ hq
     ·intro W137 N140 e138 hN141 hq;have hs147:=e138.g;have E0:=E0.trans e138;have hB28:=hB28.trans e138.g;have Z00:=CB e138.g Z00;have Z08:=CB e138.g Z08;have Z06:=CB e138.g Z06;have o90:=o90.mono e138
      try dsimp only[aF]
      exact hN141 s8 W137 _ hs147 ⟨rfl,E0,o90⟩ hq
     ·intro s148 W149 sg150 hS151 iv hq;obtain⟨rfl,E0,o155⟩:=iv;have hB28:=hB28.trans hS151;have Z00:=CB hS151 Z00;have Z08:=CB hS151 Z08;have Z06:=CB hS151 Z06
      try dsimp only
      refine cH (W:=W149) s148 hB28 ?_ hq;exact⟨_,_,_,_,_,_,_,_,rfl,E0,o155⟩
  ·intro s156 W157 sg158 hS159 iv hq;obtain⟨d13,d14,d15,d16,d17,d18,d19,d20,rfl,E0,o12⟩:=iv;exact⟨.ref p3,rfl,hq p3 W157 E0 fr6 o12⟩
theorem Cw{f:Addr}{fd:Dk}(F:Fun K "_law_reach" "_law_reach" (tp 51) f fd){mq:Cd->Pl->Int->Int->Ii->Res (List Ii)}(Z2D:Cal P w K mg base "_law_next" ["_law_card_here","_law_mark","_law_loose","_law_bound","_law_state"] (3) (gk (qA K) (qB K) isI isI (qC K) (ro<|qC K) mq))(h_len:mg "len"=none)(h_list:mg "list"=none)(h_sorted:mg "sorted"=none):FnOk P w K mg base CX0 (4) f fd ["_law_card_here","_law_strip","_law_loose","_law_bound"] (gj (qA K) (qD K) isI isI (ro<|qE K)<|Bs mq):=by
 have SC:FnScope ["_law_card_here","_law_strip","_law_loose","_law_bound","_law_out","_law_mark","_law_known","_law_state","_law_after"] ["_law_card_here","_law_strip","_law_loose","_law_bound"] (defScope<|tp 51):=by walk_at "F"
 refine F.ok SC (fun vs H Q E h=>?_)<|fun cdv A outer s H vs Q E hr h=>?_;·obtain⟨_,_,_,_,_,_,_,_,_,_,rfl,_⟩:=h;rfl
 ·obtain⟨W0,Z02,Z0V,Z0i,Z0j,Z0a,Z12,_,_,rfl,rfl,Z00,Z0u,Z37,Z38,Er,hq⟩:=h;cases Z37;cases Z38;refine⟨_,(ae (cm 4<|bS<|a5 (bS<|a5 (bD<|a5 a8<|a5 a8 aa) aa) aa)
   (ae (cJ DC rfl (cf (K:=K) rfl<|pv 1) (fA 5) (ae (cm 6 uT)
   (ae (cJ DC rfl (cf (K:=K) rfl<|ar (aY (K:=K) rfl) (pv 4) (gX fD a8)<|fun _ _=>rfl) (fA 7)<|af<|cJ DC rfl (cf (K:=K) rfl<|cU Z2D<|a5 (pv 0)<|a5 (pv 5)<|a5 (pv 2)<|a5 (pv 3)<|a5 (pv 7) aa) (fA 8)<|af<|uU (fb hr) (pv 6) (pv 8) gN rfl)
   (ae (d5 (bG (K:=K) rfl (pv 4) (a5 (aG (p8 (K:=K) rfl) (by rfl) h_sorted Gx (a5 (dF (p7 rfl) (by rfl) h_list ET<|a5 (pv 6) aa) aa)) aa)))
   (af (br (au bX (aG rY (by rfl) h_len E8 (a5 (pv 6) aa)) a8 (aw _)) (af (az (pv 4))) aK))))))
   (af (az (pv 4))))),?_⟩
  have E0:Ext W0 W0:=.refl W0;unfold Bs at hq;refine cS (Er:=Er) (fJ<|bR (Fc<|fJ<|bR (eV (K:=K) ag ag)<|fI (R:=(qC K)))<|fI (R:=(qE K)))<|fun p3 W1 e2 hp4 o5=>?_;have fr6:=none_of E0.h hp4;have E0:=E0.trans e2;have Z00:=CB e2.g Z00;have Z0u:=CB e2.g Z0u;refine l0 (Er:=Er) (f:=(zw mq Z02 Z0i Z0j)) (s0:=[[((0:Int),(0:Int))]]) (Iv:=fun(s9:(List<|List Ii))(W10:Wd)(g11:St)=>∃(d13:Option V)(d14:Option V)(d15:Option V)(d16:Option V),g11=[some Z0a,some Z12,some<|.int Z0i,some<|.int Z0j,some<|.ref p3,d16,d13,d14,d15]/\Ext W0 W10/\Ow (qE K) W10 p3 s9) (cR<|aJ Z0u) (CC hq) ?_ ?_ ?_
  ·intro W28 e29;have E0:=E0.trans e29;have Z00:=CB e29.g Z00;have o5:=o5.mono e29;exact⟨_,_,_,_,rfl,E0,o5⟩
  ·intro Wb17 W18 W19 a7 v20 s8 sg21 P22 hW23 hB24 iv e25 h26 hrt27 hq;obtain⟨d13,d14,d15,d16,rfl,E0,o12⟩:=iv;have Z00:=CB hW23 Z00;have E0:=E0.trans e25;have hB24:=hB24.trans e25.g;have Z00:=CB e25.g Z00;have o12:=o12.mono e25;refine gn (σ':=[some Z0a,some Z12,some<|.int Z0i,some<|.int Z0j,some<|.ref p3,some v20,d13,d14,d15]) ?_;unfold zw at hq;refine rZ (Er:=Er) (uV (prog:=P) (w:=w) (K:=K) (R:=isB))<|fun p34 W32 e33 hp35 o36=>?_;have ne37:=o12.ne hp35;have fr38:=none_of E0.h hp35;have E0:=E0.trans e33;have hB24:=hB24.trans e33.g;have Z00:=CB e33.g Z00;have o12:=o12.mono e33;have h26:=CB e33.g h26;refine cN (Er:=Er) (f:=(AE mq Z02 Z0i Z0j a7)) (s0:=([]:List (Ii×Bool))) (Iv:=fun(s41:(List<|Ii×Bool))(W42:Wd)(g43:St)=>∃(d45:Option V)(d46:Option V),g43=[some Z0a,some Z12,some<|.int Z0i,some<|.int Z0j,some<|.ref p3,some v20,some<|.ref p34,d46,d45]/\Ext W0 W42/\OwP P w K isB W42 p34 s41/\Ow (qE K) W42 p3 s8) (cR<|cw (eA o12)<|gh ag) (CC hq) ?_ ?_ ?_
   ·intro W59 e60;have E0:=E0.trans e60;have hB24:=hB24.trans e60.g;have Z00:=CB e60.g Z00;have o12:=o12.mono e60;have h26:=CB e60.g h26;have o36:=o36.mono e60;exact⟨_,_,rfl,E0,o36,o12⟩
   ·intro Wb48 W49 W50 a39 v51 s40 sg52 P53 hW54 hB55 iv e56 h57 hq;obtain⟨d45,d46,rfl,E0,o44,o47⟩:=iv;have hB24:=hB24.trans hW54;have Z00:=CB hW54 Z00;have h26:=CB hW54 h26;have E0:=E0.trans e56;have hB24:=hB24.trans e56.g;have hB55:=hB55.trans e56.g;have Z00:=CB e56.g Z00;have o47:=o47.mono e56;have h26:=CB e56.g h26;have o44:=o44.mono e56;refine gn (σ':=[some Z0a,some Z12,some<|.int Z0i,some<|.int Z0j,some<|.ref p3,some v20,some<|.ref p34,some v51,d45]) ?_;unfold AE at hq;refine lT (Er:=Er) (f:=zu) (s0:=s40) (Iv:=fun(s65:(List<|Ii×Bool))(W66:Wd)(g67:St)=>∃(d69:Option V),g67=[some Z0a,some Z12,some<|.int Z0i,some<|.int Z0j,some<|.ref p3,some v20,some<|.ref p34,some v51,d69]/\Ext W0 W66/\OwP P w K isB W66 p34 s65/\Ow (qE K) W66 p3 s8) (cR<|Fc<|fo (aJ Z00) (aJ h26) aS aS<|aJ h57) (CC hq) ?_ ?_ ?_
    ·intro W82 e83;have E0:=E0.trans e83;have hB24:=hB24.trans e83.g;have hB55:=hB55.trans e83.g;have Z00:=CB e83.g Z00;have o47:=o47.mono e83;have h26:=CB e83.g h26;have o44:=o44.mono e83;have h57:=CB e83.g h57;exact⟨_,rfl,E0,o44,o47⟩
    ·intro Wb71 W72 W73 a63 v74 s64 sg75 P76 hW77 hB78 iv e79 h80 hq;obtain⟨d69,rfl,E0,o68,o70⟩:=iv;have hB24:=hB24.trans hW77;have hB55:=hB55.trans hW77;have Z00:=CB hW77 Z00;have h26:=CB hW77 h26;have h57:=CB hW77 h57;have E0:=E0.trans e79;have hB24:=hB24.trans e79.g;have hB55:=hB55.trans e79.g;have hB78:=hB78.trans e79.g;have Z00:=CB e79.g Z00;have o70:=o70.mono e79;have h26:=CB e79.g h26;have o68:=o68.mono e79;have h57:=CB e79.g h57;refine gn (σ':=[some Z0a,some Z12,some<|.int Z0i,some<|.int Z0j,some<|.ref p3,some v20,some<|.ref p34,some v51,some v74]) ?_;unfold zu at hq;refine uW (Er:=Er) o68 tI (aJ h80)<|(CC hq).imp fun y89 hq W86 mu87 o88=>?_;have E0:=mu87.e _ E0 fr38;have hB24:=hB24.trans mu87.g;have hB55:=hB55.trans mu87.g;have hB78:=hB78.trans mu87.g;have Z00:=CB mu87.g Z00;have o70:=mu87.ow ne37 o70;have h26:=CB mu87.g h26;have h57:=CB mu87.g h57;have h80:=CB mu87.g h80
     try dsimp only
     refine cH (W:=W86) y89 hB78 ?_ hq;exact⟨_,rfl,E0,o88,o70⟩
    ·intro s91 W92 sg93 hS94 iv hq;obtain⟨d69,rfl,E0,o68,o70⟩:=iv;have hB24:=hB24.trans hS94;have hB55:=hB55.trans hS94;have Z00:=CB hS94 Z00;have h26:=CB hS94 h26;have h57:=CB hS94 h57
     try dsimp only
     refine cH (W:=W92) s91 hB55 ?_ hq;exact⟨_,_,rfl,E0,o68,o70⟩
   ·intro s96 W97 sg98 hS99 iv hq;obtain⟨d45,d46,rfl,E0,o44,o47⟩:=iv;have hB24:=hB24.trans hS99;have Z00:=CB hS99 Z00;have h26:=CB hS99 h26;refine nc (Er:=Er) o47 (Fc<|uY<|K0<|uX o44)<|(CC hq).imp fun y103 hq W100 mu101 o102=>?_;have E0:=mu101.e _ E0 fr6;have hB24:=hB24.trans mu101.g;have Z00:=CB mu101.g Z00;have h26:=CB mu101.g h26;have o44:=mu101.owP (Fd ne37) o44;refine Aj (Er:=Er) (aB<|d9 (xj o44) ag)<|fun W105 e106=>?_;have E0:=E0.trans e106;have hB24:=hB24.trans e106.g;have Z00:=CB e106.g Z00;have h26:=CB e106.g h26;have o44:=o44.mono e106;have o102:=o102.mono e106;by_cases hb106:(decide<|(s96.length:Int)=(0:Int))=true
    ·rw[if_pos hb106]at hq ⊢;exact⟨.ref p3,rfl,(hrt27 _ hq) p3 W105 E0 fr6 o102⟩
    ·rw[if_neg hb106]at hq ⊢
     try dsimp only[aF]
     try dsimp only
     refine cH (W:=W105) y103 hB24 ?_ hq;exact⟨_,_,_,_,rfl,E0,o102⟩
  ·intro s107 W108 sg109 hS110 iv hq;obtain⟨d13,d14,d15,d16,rfl,E0,o12⟩:=iv;exact⟨.ref p3,rfl,hq p3 W108 E0 fr6 o12⟩
theorem Cy{f:Addr}{fd:Dk}(F:Fun K "tails" "tails" (tp 26) f fd){iy:Cd->(List Pl)->Int->Int->Res (List<|List Ii)}{gJ:Cd->Pl->Int->Int->Ii->Res (List<|Tx×Ii)}(Z0T:Cal P w K mg base "search" ["tablet","strip","loose","bound"] (6) (gj (qA K) (qD K) isI isI (yi<|oL<|oL<|fz<|qC K) iy))(Z1h:Cal P w K mg base "onward" ["tablet","mark","loose","bound","state"] (4) (gk (qA K) (qB K) isI isI (qC K) (ro<|isT2 K isS<|qC K) gJ))(h_len:mg "len"=none)(h_range:mg "range"=none)(h_reversed:mg "reversed"=none)(h_sum:mg "sum"=none):FnOk P w K mg base CX0 (7) f fd ["tablet","strip","loose","bound"] (gj (qA K) (qD K) isI isI (ro<|isPD P w K isI)<|Bt iy gJ):=by
 have SC:FnScope ["tablet","strip","loose","bound","lists","counts","at","ahead","moves"] ["tablet","strip","loose","bound"] (defScope<|tp 26):=by walk_at "F"
 refine F.ok SC (fun vs H Q E h=>?_)<|fun cdv A outer s H vs Q E hr h=>?_;·obtain⟨_,_,_,_,_,_,_,_,_,_,rfl,_⟩:=h;rfl
 ·obtain⟨W0,tablet,strip,loose,bound,Z0c,Z0O,_,_,rfl,rfl,Z01,Z07,Z0E,Z19,Er,hq⟩:=h;cases Z0E;cases Z19;refine⟨_,(ae (cm 4<|cU Z0T<|a5 (pv 0)<|a5 (pv 1)<|a5 (pv 2)<|a5 (pv 3) aa)
   (ae (cm 5 (bS (a5 (iO (fb hr) (N:=["state"]) (cap:=[none]) (iE rfl (by decide +kernel) rfl (by decide +kernel) (by rfl) (by rfl)) rfl (cf (K:=K) rfl<|ar (aY (K:=K) rfl) (pv 4) (gX fD a8)<|fun _ _=>rfl) (fun _ _ _ _=>(bj (i:=0) (show Ec (["state"]:List Str) by decide +kernel) rfl (by walk_at "L"))) (fun _ _ _ _=>cQ) (fun _ _ _ _=>(pv 0))<|fun _ _ _ _=>a8) aa)))
   (ae (cJ DC rfl (si rfl h_reversed rfl h_range (a5 (ah fC (aG (bN (K:=K) rfl) (by rfl) h_len E8<|a5 (pv 4) aa) a8) aa)) (fA 6) (ae (cm 7<|ar (aY (K:=K) rfl) (pv 5) (gX fD a8)<|fun _ _=>rfl)
   (ae (cm 8 (iO (fb hr) (N:=["state","tablet","strip","at","loose","bound"]) (cap:=[none,some 0,some 1,some 6,some 2,some 3]) (iE rfl (by decide +kernel) rfl (by decide +kernel) (by rfl) (by rfl)) rfl (cf (K:=K) rfl<|ar (aY (K:=K) rfl) (pv 4) (pv 6)<|fun _ _=>rfl) (fun _ _ _ _=>(bj (i:=0) (show Ec (["state","tablet","strip","at","loose","bound"]:List Str) by decide +kernel) rfl (by walk_at "L"))) (fun _ _ _ _=>cQ) (fun _ _ _ _=>(pv 0))<|fun _ _ _ _=>(cU Z1h<|a5 (pv 1)<|a5 (ar (aY (K:=K) rfl) (pv 2) (pv 3)<|fun _ _=>rfl)<|a5 (pv 4)<|a5 (pv 5)<|a5 (pv 0) aa)))
   (af (d5 (bG (K:=K) rfl (pv 5) (a5 (iO (fb hr) (N:=["state","moves","ahead"]) (cap:=[none,some 8,some 7]) (iE rfl (by decide +kernel) rfl (by decide +kernel) (by rfl) (by rfl)) rfl (sf (P:=P) (w:=w) (K:=K) rfl rfl rfl (pv 8)) (fun _ _ _ _=>(bj (i:=0) (show Ec (["state","moves","ahead"]:List Str) by decide +kernel) rfl (by walk_at "L"))) (fun _ _ _ _=>cQ) (fun _ _ _ _=>(pv 0)) (fun _ _ _ _=>(aG (rl (K:=K) rfl rfl) (by rfl) h_sum Ma (a5 (eU (N:=["turn","after","ahead"]) (cap:=[none,none,some 2]) (iE rfl (by decide +kernel) rfl (by decide +kernel) (by rfl) (by rfl)) rfl (cf (K:=K) rfl (ik (P:=P) (w:=w) (K:=K) rfl rfl rfl (fb hr) (pv 1) (pv 0) (fun _ _=>rfl))) (fun _ _ _ _=>(bL (K:=K) (n:=2) rfl rfl (aq (bj (i:=0) (show Ec (["turn","after","ahead"]:List Str) by decide +kernel) rfl (by walk_at "L")) (aq (bj (i:=1) (show Ec (["turn","after","ahead"]:List Str) by decide +kernel) rfl (by walk_at "L")) bJ)))) (fun _ _ _ _=>cQ) (fun _ _ _ _=>(ik (P:=P) (w:=w) (K:=K) rfl rfl rfl (fb hr) (pv 2) (pv 1) (fun _ _=>rfl)))) aa)))) aa)))))))
   (af (az (mY (K:=K) rfl (fun a b=>[.ref a,.ref b]) (fun _ _=>rfl) (pv 5) (jb (gX fD a8)))))))),?_⟩
  have E0:Ext W0 W0:=.refl W0;rw[show L2.start ["tablet","strip","loose","bound","lists","counts","at","ahead","moves"] [Z0c,Z0O,.int loose,.int bound]=[some Z0c,some Z0O,some<|.int loose,some<|.int bound,none,none,none,none,none]from rfl];unfold Bt at hq;refine ak (Er:=Er) (MI<|ft (aJ Z01) (aJ Z07) aS aS)<|(CC hq).imp fun y3 hq v4 W1 e2 h5=>?_;have E0:=E0.trans e2;have Z01:=CB e2.g Z01;have Z07:=CB e2.g Z07;refine cS (Er:=Er) (fJ (bR (MU (kD (R:=isI) (cR<|cw (FU<|aJ h5)<|gh ag) (fun W8 D9 W12 a13 v14 s15 M16 hS17 e10 h11 e18 o19 h20 k21=>by
   refine gn ?_;exact⟨by simp[Keep,bu],uf (((kC e18 h11 (aJ h20) ag):BV Er _ [some v14] _ _ _ _ _) _ _ _ (.refl _) o19 k21)⟩))) (fI (R:=(isPD P w K isI))))) ((CC hq).imp fun y26 hq p27 W6 e7 hp28 o29=>?_)
  have fr30:=none_of E0.h hp28;have E0:=E0.trans e7;have Z01:=CB e7.g Z01;have Z07:=CB e7.g Z07;have h5:=CB e7.g h5;refine cN (Er:=Er) (f:=(zU gJ tablet strip loose bound y3)) (s0:=y26) (Iv:=fun(s33:(List<|List<|Ii×Int))(W34:Wd)(g35:St)=>∃(d37:Option V)(d38:Option V)(d39:Option V),g35=[some Z0c,some Z0O,some<|.int loose,some<|.int bound,some v4,some<|.ref p27,d39,d37,d38]/\Ext W0 W34/\Ow (isPD P w K isI) W34 p27 s33) (sj<|aQ (eB<|FU<|aJ h5) ag) (CC hq) ?_ ?_ ?_
  ·intro W51 e52;have E0:=E0.trans e52;have Z01:=CB e52.g Z01;have Z07:=CB e52.g Z07;have h5:=CB e52.g h5;have o29:=o29.mono e52;exact⟨_,_,_,rfl,E0,o29⟩
  ·intro Wb40 W41 W42 a31 v43 s32 sg44 P45 hW46 hB47 iv e48 h49 hq;obtain⟨d37,d38,d39,rfl,E0,o36⟩:=iv;have Z01:=CB hW46 Z01;have Z07:=CB hW46 Z07;have h5:=CB hW46 h5;have E0:=E0.trans e48;have hB47:=hB47.trans e48.g;have Z01:=CB e48.g Z01;have Z07:=CB e48.g Z07;have h5:=CB e48.g h5;have o36:=o36.mono e48;cases h49;refine gn (σ':=[some Z0c,some Z0O,some<|.int loose,some<|.int bound,some v4,some<|.ref p27,some<|.int a31,d37,d38]) ?_;unfold zU at hq;refine ak (Er:=Er) (cw (eA o36)<|gh ag)<|(CC hq).imp fun y57 hq v58 W55 e56 h59=>?_;have E0:=E0.trans e56;have hB47:=hB47.trans e56.g;have Z01:=CB e56.g Z01;have Z07:=CB e56.g Z07;have h5:=CB e56.g h5;have o36:=o36.mono e56;refine ak (Er:=Er) (MU (kD (R:=(isL<|isT2 K isS<|qC K)) (f:=fun(a67:Ii)(s69:List (Ii×(List<|Tx×Ii)))=>((fj strip a31).bind fun y80=>gJ tablet y80 loose bound a67).bind fun y81=>gR s69 a67 y81) (cR<|cw (FU<|aJ h5) aS) (fun W62 D63 W66 a67 v68 s69 M70 hS71 e64 h65 e72 o73 h74 k75=>by
    have h76:=CB hS71 Z01;have h77:=CB hS71 Z07;refine gn ?_;exact⟨by simp[Keep,bu],uf (((kC e72 h65 (aJ h74) (Fc (fo (aJ h76) (cw (FU (aJ h77)) aS) aS aS (aJ h74)))):BV Er _ [some v68,some Z0c,some Z0O,some (.int a31),some (.int loose),some (.int bound)] _ _ _ _ _) _ _ _ (.refl _) o73 k75)⟩))) ((CC hq).imp fun y83 hq v84 W60 e61 h85=>?_)
   have E0:=E0.trans e61;have hB47:=hB47.trans e61.g;have Z01:=CB e61.g Z01;have Z07:=CB e61.g Z07;have h5:=CB e61.g h5;have o36:=o36.mono e61;have h59:=CB e61.g h59;refine gp (Er:=Er) o36 (MU (kD (R:=isI) (vj<|aJ h85) (fun W86 D87 W90 a91 v92 s93 M94 hS95 e88 h89 e96 o97 h98 k99=>by
    have h100:=CB hS95 h85;have h101:=CB hS95 h59;refine gn ?_;exact⟨by simp[Keep,bu],uf (((kC e96 h89 (aJ h98) (z7 (K0 (eW (cR<|jk (aJ h100)<|aJ h98) fun W106 a104 v105 e107 h108 Q114 k115=>by
     have h109:=Dt (R:=sh (isPD P w K isI)) e107 h101;refine iK h108 fun v110 v112 h111 h113=>?_;cases h111;exact⟨by simp[Keep,bu],((jk (aJ h109) (aJ h113)):EV Er _ [some (.str (aP a104.1)),some v112,some v58] _ _ _) _ (.refl _) _ k115⟩)))):BV Er _ [some v92,some v84,some v58] _ _ _ _ _) _ _ _ (.refl _) o97 k99)⟩))) ((CC hq).imp fun y122 hq W119 mu120 o121=>?_)
   have E0:=mu120.e _ E0 fr30;have hB47:=hB47.trans mu120.g;have Z01:=CB mu120.g Z01;have Z07:=CB mu120.g Z07;have h5:=CB mu120.g h5;have h59:=CB mu120.g h59;have h85:=CB mu120.g h85
   try dsimp only
   refine cH (W:=W119) y122 hB47 ?_ hq;exact⟨_,_,_,rfl,E0,o121⟩
  ·intro s125 W126 sg127 hS128 iv hq;obtain⟨d37,d38,d39,rfl,E0,o36⟩:=iv;exact jd (Er:=Er) (wL<|eA o36)<|fun p129 W130 e131 hp132 o133=>hq p129 W130 (E0.trans e131) (none_of E0.h hp132) o133
theorem Cz{f:Addr}{fd:Dk}(F:Fun K "chosen" "chosen" (tp 28) f fd):FnOk P w K mg base CX0 (1) f fd ["moves","counts","number"] (cV (isL<|isT2 K isS<|qC K) (isPD P w K isI) isI (rs<|isT3 K isS (qC K) isI)<|Bu):=by
 have SC:FnScope ["moves","counts","number","at","turn","state"] ["moves","counts","number"] (defScope<|tp 28):=by walk_at "F"
 refine F.ok SC (fun vs H Q E h=>?_)<|fun cdv A outer s H vs Q E hr h=>?_;·obtain⟨_,_,_,_,_,_,_,_,rfl,_⟩:=h;rfl
 ·obtain⟨W0,moves,counts,number,Z4N,Z4E,_,rfl,rfl,Z0F,Z0H,Z3q,Er,hq⟩:=h;cases Z3q;refine⟨_,(ae (cm 3 a8)
   (ae (mK DC (au mO (pv 2) (ik (P:=P) (w:=w) (K:=K) rfl rfl rfl (fb hr) (pv 1) (ar (aE (K:=K) rfl) (ar (aY (K:=K) rfl) (pv 0) (pv 3)<|fun _ _=>rfl) a8<|fun _ _=>rfl)<|fun _ _=>rfl)<|aw _) (ae (lD (i:=2) SC.nd rfl (by walk_at "L") (ik (P:=P) (w:=w) (K:=K) rfl rfl rfl (fb hr) (pv 1) (ar (aE (K:=K) rfl) (ar (aY (K:=K) rfl) (pv 0) (pv 3)<|fun _ _=>rfl) a8<|fun _ _=>rfl)<|fun _ _=>rfl) yJ)
   (af (lD (i:=3) SC.nd rfl (by walk_at "L") a8 sI))))
   (ae (eI (ar (aY (K:=K) rfl) (pv 0) (pv 3)<|fun _ _=>rfl)<|bL (K:=K) (n:=2) rfl rfl<|aq (fA 4)<|aq (fA 5) bJ)
   (af (az (bD (a5 (pv 4) (a5 (pv 5) (a5 (pv 2) aa))))))))),?_⟩
  have E0:Ext W0 W0:=.refl W0;unfold Bu at hq;refine ak (Er:=Er) ag<|fun v3 W1 e2 h4=>?_;cases h4;have E0:=E0.trans e2;have Z0F:=CB e2.g Z0F;have Z0H:=CB e2.g Z0H;refine jW (Er:=Er) (c:=(zV moves counts)) (f:=(zW moves counts)) (s0:=(number,(0:Int))) (n:=cap) (Iv:=fun(s7:Ii)(W8:Wd)(g9:St)=>g9=[some Z4N,some Z4E,some<|.int s7.1,some<|.int s7.2,none,none]/\Ext W0 W8) (CC hq) ?_ ?_ ?_ ?_ ?_;·exact⟨rfl,E0⟩
  ·intro W11 W12 s6 sg13 e17 iv;obtain⟨rfl,E0⟩:=iv;have E0:=E0.trans e17;exact⟨rfl,E0⟩
  ·intro W11 s6 sg13 hW15 iv;obtain⟨rfl,E0⟩:=iv;have Z0F:=CB hW15 Z0F;have Z0H:=CB hW15 Z0H;unfold zV;exact(aB<|cv aS<|jk (aJ Z0H)<|aR (f:=fun(b:Tx×Ii)=>b.2) z6<|cw (FU<|aJ Z0F) aS)
  ·intro Wb10 W11 s6 sg13 P14 hW15 hB16 iv hq;obtain⟨rfl,E0⟩:=iv;have Z0F:=CB hW15 Z0F;have Z0H:=CB hW15 Z0H;unfold zW at hq;refine rE (Er:=Er) (a:=s6.1) (jk (aJ Z0H)<|aR (f:=fun(b:Tx×Ii)=>b.2) z6<|cw (FU<|aJ Z0F) aS)<|(CC hq).imp fun y23 hq W24 e25=>?_;have E0:=E0.trans e25;have hB16:=hB16.trans e25.g;have Z0F:=CB e25.g Z0F;have Z0H:=CB e25.g Z0H;refine lU (Er:=Er) (a:=s6.2) ag<|fun W26 e27=>?_;have E0:=E0.trans e27;have hB16:=hB16.trans e27.g;have Z0F:=CB e27.g Z0F;have Z0H:=CB e27.g Z0H
   try dsimp only
   refine cH (W:=W26) ((s6.1-y23),(s6.2+(1:Int))) hB16 ?_ hq;exact⟨rfl,E0⟩
  ·intro s28 W29 sg30 hS31 iv hq;obtain⟨rfl,E0⟩:=iv;have Z0F:=CB hS31 Z0F;refine dQ (Er:=Er) (cw (FU<|aJ Z0F) aS)<|(CC hq).imp fun y32 hq v33 W34 e35 h36=>?_;have E0:=E0.trans e35;refine iK h36 fun v37 v39 h38 h40=>?_;cases h38;exact aZ (Er:=Er) (bV (K:=K) dH (aJ h40) aS)<|fun v41 W42 e43 h44=>hq v41 W42 (E0.trans e43) h44
theorem AG{f:Addr}{fd:Dk}(F:Fun K "way" "way" (tp 27) f fd){xG:Cd->(List Pl)->Int->Int->Res (List<|List<|Ii×Int)}{pF:(List<|Tx×Ii)->(List<|Ii×Int)->Int->Res (Tx×Ii×Int)}{gJ:Cd->Pl->Int->Int->Ii->Res (List<|Tx×Ii)}(Z3L:Cal P w K mg base "tails" ["tablet","strip","loose","bound"] (7) (gj (qA K) (qD K) isI isI (ro<|isPD P w K isI) xG))(Z3r:Cal P w K mg base "chosen" ["moves","counts","number"] (1) (cV (isL<|isT2 K isS<|qC K) (isPD P w K isI) isI (rs<|isT3 K isS (qC K) isI) pF))(Z1h:Cal P w K mg base "onward" ["tablet","mark","loose","bound","state"] (4) (gk (qA K) (qB K) isI isI (qC K) (ro<|isT2 K isS<|qC K) gJ))(h_enumerate:mg "enumerate"=none){Z1A:Addr}(Z1G:mg "START"=some (.ref Z1A))(Z1H:∀H,SqT K H Z1A [.int (0),.int<|0]):FnOk P w K mg base CX0 (8) f fd ["tablet","strip","loose","bound","number"] (gk (qA K) (qD K) isI isI isI (rs isS)<|qI xG pF gJ):=by
 have SC:FnScope ["tablet","strip","loose","bound","number","counts","column","state","at","mark","turn"] ["tablet","strip","loose","bound","number"] (defScope<|tp 27):=by walk_at "F"
 refine F.ok SC (fun vs H Q E h=>?_)<|fun cdv A outer s H vs Q E hr h=>?_;·obtain⟨_,_,_,_,_,_,_,_,_,_,_,_,rfl,_⟩:=h;rfl
 ·obtain⟨W0,tablet,strip,loose,bound,number,Z0c,Z0O,_,_,_,rfl,rfl,Z01,Z07,Z0E,Z19,Z3q,Er,hq⟩:=h;cases Z0E;cases Z19;cases Z3q;refine⟨_,(ae (cm 5<|cU Z3L<|a5 (pv 0)<|a5 (pv 1)<|a5 (pv 2)<|a5 (pv 3) aa)
   (ae (br (Jy (mJ (au mM (pv 4) a8<|aw _) (lC (au mO (pv 4) (vf (fb hr) (ar (aY (K:=K) rfl) (pv 5) a8<|fun _ _=>rfl) (dg (v:=.ref _) (by rfl) Z1G rfl) a8)<|aw _)))) (af u7) aK)
   (ae (cm 6 aV)
   (ae (cm 7 (dg (v:=.ref _) (by rfl) Z1G rfl))
   (ae (cJ DC rfl (wz (K:=K) rfl rfl h_enumerate<|a5 (pv 1) aa) (bL (K:=K) (n:=2) rfl rfl<|aq (fA 8)<|aq (fA 9) bJ) (ae (eI (cU Z3r<|a5 (cU Z1h<|a5 (pv 0)<|a5 (pv 9)<|a5 (pv 2)<|a5 (pv 3)<|a5 (pv 7) aa)<|a5 (ar (aY (K:=K) rfl) (pv 5) (ah bo (pv 8) a8)<|fun _ _=>rfl)<|a5 (pv 4) aa)<|bL (K:=K) (n:=3) rfl rfl<|aq (fA 10)<|aq (fA 7)<|aq (fA 4) bJ)
   (af (lD (i:=6) SC.nd rfl (by walk_at "L") (pv 10) xm))))
   (af (az (pv 6)))))))),?_⟩
  have E0:Ext W0 W0:=.refl W0;unfold qI at hq;refine ak (Er:=Er) (Fc<|iI (aJ Z01) (aJ Z07) aS aS)<|(CC hq).imp fun y3 hq v4 W1 e2 h5=>?_;have E0:=E0.trans e2;have Z01:=CB e2.g Z01;have Z07:=CB e2.g Z07;refine eD (Er:=Er) (tN (aB<|cv aS ag)<|aB<|cv aS<|vi (cw (FU<|aJ h5) ag) (hZ Z1H (gI _)<|gI _) ag)<|(CC hq).imp fun y8 hq W9 e10=>?_;have E0:=E0.trans e10;have Z01:=CB e10.g Z01;have Z07:=CB e10.g Z07;have h5:=CB e10.g h5;by_cases hb73:y8=true
  ·rw[if_pos hb73]at hq ⊢;exact hq.elim
  ·rw[if_neg hb73]at hq ⊢
   try dsimp only[aF]
   refine ak (Er:=Er) (aX (x:=CP "") (l:=[]) (fT _ _ (by decide +kernel)))<|fun v13 W11 e12 h14=>?_;cases h14;have E0:=E0.trans e12;have Z01:=CB e12.g Z01;have Z07:=CB e12.g Z07;have h5:=CB e12.g h5;refine ak (Er:=Er) (hZ Z1H (gI _)<|gI _)<|fun v17 W15 e16 h18=>?_;have E0:=E0.trans e16;have Z01:=CB e16.g Z01;have Z07:=CB e16.g Z07;have h5:=CB e16.g h5;refine cN (Er:=Er) (f:=(eP pF gJ tablet loose bound y3)) (s0:=((0,0),number,([]:Tx))) (Iv:=fun(s21:(Ii×Int×Tx))(W22:Wd)(g23:St)=>∃(v24:V)(d26:Option V)(d27:Option V)(d28:Option V),g23=[some Z0c,some Z0O,some<|.int loose,some<|.int bound,some<|.int s21.2.1,some v4,some<|.str<|aP s21.2.2,some v24,d27,d28,d26]/\Ext W0 W22/\(qC K) W22.G s21.1 v24) (wD<|aJ Z07) (CC hq) ?_ ?_ ?_
   ·intro W40 e41;have E0:=E0.trans e41;have Z01:=CB e41.g Z01;have h5:=CB e41.g h5;have h18:=CB e41.g h18;exact⟨_,_,_,_,rfl,E0,h18⟩
   ·intro Wb29 W30 W31 a19 v32 s20 sg33 P34 hW35 hB36 iv e37 h38 hq;obtain⟨v24,d26,d27,d28,rfl,E0,h25⟩:=iv;have Z01:=CB hW35 Z01;have h5:=CB hW35 h5;have E0:=E0.trans e37;have hB36:=hB36.trans e37.g;have Z01:=CB e37.g Z01;have h5:=CB e37.g h5;have h25:=CB e37.g h25;refine iK h38 fun v46 v48 h47 h49=>?_;cases h47;unfold eP at hq;refine dQ (Er:=Er) (eM (Fc<|fo (aJ Z01) (aJ h49) aS aS<|aJ h25) (cw (FU<|aJ h5)<|aQ aS ag) aS)<|(CC hq).imp fun y52 hq v53 W54 e55 h56=>?_;have E0:=E0.trans e55;have hB36:=hB36.trans e55.g;have Z01:=CB e55.g Z01;have h5:=CB e55.g h5;have h49:=CB e55.g h49;refine tV h56 fun v57 v59 v61 h58 h60 h62=>?_;cases h58;cases h62;refine xn (Er:=Er) (a:=s20.2.2) dH<|(CC hq).imp fun y65 hq W63 e64=>?_;have E0:=E0.trans e64;have hB36:=hB36.trans e64.g;have Z01:=CB e64.g Z01;have h5:=CB e64.g h5;have h49:=CB e64.g h49;have h60:=CB e64.g h60
    try dsimp only
    refine cH (W:=W63) (y52.2.1,y52.2.2,y65) hB36 ?_ hq;exact⟨_,_,_,_,rfl,E0,h60⟩
   ·intro s66 W67 sg68 hS69 iv hq;obtain⟨v24,d26,d27,d28,rfl,E0,h25⟩:=iv;exact aZ (Er:=Er) dH<|fun v70 W71 e72 h73=>hq v70 W71 (E0.trans e72) h73
theorem CA{f:Addr}{fd:Dk}(F:Fun K "restore" "restore" (tp 30) f fd){oq:Cd->(List Pl)->Int->Res (Option Int)}{iy:Cd->(List Pl)->Int->Int->Res (List<|List Ii)}{dU:Cd->(List Pl)->Int->Int->Int->Res Tx}(Z2a:Cal P w K mg base "least" ["tablet","strip","loose"] (7) (cV (qA K) (qD K) isI (rs<|isO isI) oq))(Z0T:Cal P w K mg base "search" ["tablet","strip","loose","bound"] (6) (gj (qA K) (qD K) isI isI (yi<|oL<|oL<|fz<|qC K) iy))(C_way:Cal P w K mg base "way" ["tablet","strip","loose","bound","number"] (8) (gk (qA K) (qD K) isI isI isI (rs isS) dU))(h_len:mg "len"=none):FnOk P w K mg base CX0 (9) f fd ["tablet","strip","loose"] (cV (qA K) (qD K) isI (yi<|oT3 K (isO isI) (isO isS)<|oL<|oL<|fz<|qC K)<|Bv oq iy dU):=by
 have SC:FnScope ["tablet","strip","loose","bound","lists"] ["tablet","strip","loose"] (defScope<|tp 30):=by walk_at "F"
 refine F.ok SC (fun vs H Q E h=>?_)<|fun cdv A outer s H vs Q E hr h=>?_;·obtain⟨_,_,_,_,_,_,_,_,rfl,_⟩:=h;rfl
 ·obtain⟨W0,tablet,strip,loose,Z0c,Z0O,_,rfl,rfl,Z01,Z07,Z0E,Er,hq⟩:=h;cases Z0E;refine⟨_,(ae (cm 3<|cU Z2a<|a5 (pv 0)<|a5 (pv 1)<|a5 (pv 2) aa)
   (ae (br (au op_isN (pv 3) fX<|aw _) (af (az (bD (a5 fX (a5 fX (a5 (cU Z0T (a5 (pv 0) (a5 (pv 1) (a5 (pv 2) (a5 (aG (bN (K:=K) rfl) (by rfl) h_len E8<|a5 (pv 1) aa) aa))))) aa)))))) aK)
   (ae (cm 4<|eH (au mN (pv 3) a8<|aw _) (cU Z0T<|a5 (pv 0)<|a5 (pv 1)<|a5 (pv 2)<|a5 (ah fC (pv 3) a8) aa)<|bS aa)
   (af (az (bD (a5 (pv 3) (a5 (cU C_way (a5 (pv 0) (a5 (pv 1) (a5 (pv 2) (a5 (pv 3) (a5 a8 aa)))))) (a5 (pv 4) aa))))))))),?_⟩
  have E0:Ext W0 W0:=.refl W0;unfold Bv at hq;refine ak (Er:=Er) (eM (aJ Z01) (aJ Z07) aS)<|(CC hq).imp fun y3 hq v4 W1 e2 h5=>?_;have E0:=E0.trans e2;have Z01:=CB e2.g Z01;have Z07:=CB e2.g Z07;refine eD (Er:=Er) (aB<|yZ<|aJ h5)<|fun W6 e7=>?_;have E0:=E0.trans e7;have Z01:=CB e7.g Z01;have Z07:=CB e7.g Z07;have h5:=CB e7.g h5;by_cases hb33:y3.isNone=true
  ·rw[if_pos hb33]at hq ⊢;exact wV (Er:=Er) (vn (K:=K) (hW (R:=isI)) (hW (R:=isS))<|ft (aJ Z01) (aJ Z07) aS<|eB<|FU<|aJ Z07)<|Dx hq fun y9 hq v10 W11 F12 e13 hF14 t15=>hq v10 W11 F12 (E0.trans e13) (fun q hq=>none_of E0.h<|hF14 q hq) t15
  ·rw[if_neg hb33]at hq ⊢
   try dsimp only[aF]
   have S:Sep W0 W6 []:=MN;refine iN (Er:=Er) S E0 (uZ (aB<|cv (iM<|aJ h5) ag) (ft (aJ Z01) (aJ Z07) aS<|aQ (iM<|aJ h5) ag)<|nt (R:=(oL<|fz<|qC K)))<|(CC hq).imp fun y20 hq v21 W22 e23 S=>?_;have E0:=E0.trans e23;have Z01:=CB e23.g Z01;have Z07:=CB e23.g Z07;have h5:=CB e23.g h5;have S:Sep W0 W22 [tc (oL<|oL<|fz<|qC K) y20 v21]:=S;exact pq (Er:=Er) (K:=K) (k:=0) S E0 rfl (aJ h5) (jU<|n9 (aJ Z01) (aJ Z07) aS (iM<|aJ h5) ag)<|Dx hq fun y27 hq v28 W29 F30 e31 hF32 t33=>hq v28 W29 F30 e31 hF32 t33
theorem AH{f:Addr}{fd:Dk}(F:Fun K "law" "law" (tp 54) f fd){w5:List Int->Int->Res (Cd×(List Pl)×Int)}{xB:(List Pl)->Int->Res (List Pl)}{iX:List Int->Int->Res Int}{oq:Cd->(List Pl)->Int->Res (Option Int)}{sk:Cd->(List Pl)->Int->Int->Res (List<|List Ii)}{dU:Cd->(List Pl)->Int->Int->Int->Res Tx}{wa:Cd->(List Pl)->Int->Res ((Option Int)×(Option Tx)×(List<|List Ii))}(Z2E:Cal P w K mg base "_law_case" ["_law_script","_law_most"] (5) (bF (isScr K) isI (rs<|isT3 K (qA K) (qD K) isI) w5))(Z2i:Cal P w K mg base "_law_faded" ["_law_strip","_law_cell"] (2) (bF (qD K) isI (rs<|qD K) xB))(Z0G:Cal P w K mg base "_law_at" ["_law_script","_law_k"] (1) (bF (isScr K) isI (rs isI) iX))(Z2a:Cal P w K mg base "least" ["tablet","strip","loose"] (7) (cV (qA K) (qD K) isI (rs<|isO isI) oq))(Z1R:Cal P w K mg base "_law_reach" ["_law_card_here","_law_strip","_law_loose","_law_bound"] (4) (gj (qA K) (qD K) isI isI (ro<|qE K) sk))(C_way:Cal P w K mg base "way" ["tablet","strip","loose","bound","number"] (8) (gk (qA K) (qD K) isI isI isI (rs isS) dU))(Z2y:Cal P w K mg base "restore" ["tablet","strip","loose"] (9) (cV (qA K) (qD K) isI (yi<|oT3 K (isO isI) (isO isS)<|oL<|oL<|fz<|qC K) wa))(Z15:Cal P w K mg base "_law_same" ["_law_found","_law_due"] 26 (gG K 26))(h_len:mg "len"=none)(h_list:mg "list"=none):FnOk P w K mg base CX0 (27) f fd ["_law_script"] (dX (isScr K) (rs isB)<|qJ w5 xB iX oq sk dU wa):=by
 have SC:FnScope ["_law_script","_law_card_here","_law_strip","_law_loose","_law_bound","_law_due","_law_lists","_law_hand","_law_found"] ["_law_script"] (defScope<|tp 54):=by walk_at "F"
 refine F.ok SC (fun vs H Q E h=>?_)<|fun cdv A outer s H vs Q E hr h=>?_;·obtain⟨_,_,_,_,rfl,_⟩:=h;rfl
 ·obtain⟨W0,Z0k,Z0K,rfl,rfl,Z03,Er,hq⟩:=h;refine⟨_,(ae (eI (cU Z2E<|a5 (pv 0)<|a5 a8 aa)<|bL (K:=K) (n:=3) rfl rfl<|aq (fA 1)<|aq (fA 2)<|aq (fA 3) bJ)
   (ae (cm 2<|cU Z2i<|a5 (pv 2)<|a5 (cU Z0G<|a5 (pv 0)<|a5 a8 aa) aa)
   (ae (cm 4 (cU Z2a (a5 (pv 1) (a5 (dF (f9 (K:=K) rfl) (by rfl) h_list ET<|a5 (pv 2) aa)<|a5 (pv 3) aa))))
   (ae (cm 5 (bD (a5 fX (a5 fX (a5 (cU Z1R (a5 (pv 1) (a5 (pv 2) (a5 (pv 3) (a5 (aG (bN (K:=K) rfl) (by rfl) h_len E8<|a5 (pv 2) aa) aa))))) aa)))))
   (ae (br (au wg (pv 4) fX<|aw _) (ae (cm 6<|bS aa)
   (ae (br (au mN (pv 4) a8<|aw _) (af<|cm 6<|cU Z1R<|a5 (pv 1)<|a5 (pv 2)<|a5 (pv 3)<|a5 (ah fC (pv 4) a8) aa) aK)
   (af (cm 5 (bD (a5 (pv 4) (a5 (cU C_way (a5 (pv 1) (a5 (dF (f9 (K:=K) rfl) (by rfl) h_list ET (a5 (pv 2) aa)) (a5 (pv 3) (a5 (pv 4) (a5 a8 aa)))))) (a5 (pv 6) aa)))))))) aK)
   (ae (cm 7 (dF (f9 (K:=K) rfl) (by rfl) h_list ET<|a5 (pv 2) aa))
   (ae (cm 8<|cU Z2y<|a5 (pv 1)<|a5 (pv 7)<|a5 (pv 3) aa)
   (ae (br (Jy<|mJ (js<|di<|cU Z15<|a5 (pv 8)<|a5 (pv 5) aa)<|lC<|js<|di<|cU Z15<|a5 (pv 7)<|a5 (pv 2) aa) (af<|az gN) aK)
   (ae (d5<|bG (K:=K) rfl (ar (aE (K:=K) rfl) (pv 8) a8<|fun _ _=>rfl)<|a5 (bS<|a5 (bD<|a5 a8<|a5 a8 aa) aa) aa)
   (ae (d5<|bG (K:=K) rfl (ar (aY (K:=K) rfl) (ar (aE (K:=K) rfl) (pv 8) a8<|fun _ _=>rfl) a8<|fun _ _=>rfl)<|a5 (bD<|a5 a8<|a5 a8 aa) aa)
   (af (az (cU Z15 (a5 (cU Z2y (a5 (pv 1) (a5 (pv 7) (a5 (pv 3) aa)))) (a5 (pv 5) aa))))))))))))))),?_⟩
  have E0:Ext W0 W0:=.refl W0;unfold qJ at hq;refine dQ (Er:=Er) (b9 (aJ Z03) ag)<|(CC hq).imp fun y1 hq v2 W3 e4 h5=>?_;have E0:=E0.trans e4;have Z03:=CB e4.g Z03;refine tV h5 fun v6 v8 v10 h7 h9 h11=>?_;cases h11;refine ak (Er:=Er) (b9 (aJ h9)<|b9 (aJ Z03) ag)<|(CC hq).imp fun y15 hq v16 W12 e13 h17=>?_;have E0:=E0.trans e13;have h7:=CB e13.g h7;refine ak (Er:=Er) (eM (aJ h7) (Fc<|jQ<|FU<|aJ h17) aS)<|(CC hq).imp fun y20 hq v21 W18 e19 h22=>?_;have E0:=E0.trans e19;have h7:=CB e19.g h7;have h17:=CB e19.g h17;refine ak (Er:=Er) (bV (K:=K) (hW (R:=isI)) (hW (R:=isS))<|Fc<|iI (aJ h7) (aJ h17) aS<|eB<|FU<|aJ h17)<|(CC hq).imp fun y26 hq v27 W23 e24 h28=>?_;have E0:=E0.trans e24;have h7:=CB e24.g h7;have h17:=CB e24.g h17;have h22:=CB e24.g h22;refine bI (Er:=Er) (Iv:=fun(s77:((Option Int)×(Option Tx)×(List<|List Ii)))(W78:Wd)(g79:St)=>∃(v80:V)(d82:Option V),g79=[some Z0K,some v6,some v16,some<|.int y1.2.2,some v21,some v80,d82,none,none]/\Ext W0 W78/\(isT3 K (isO isI) (isO isS)<|isL<|qE K) W78.G s77 v80) (aB<|wA<|aJ h22) (CC hq) ?_ ?_ ?_
  ·intro W29 N32 e30 hN33 hq;have hs34:=e30.g;have E0:=E0.trans e30;have h7:=CB e30.g h7;have h17:=CB e30.g h17;have h22:=CB e30.g h22;have h28:=CB e30.g h28;refine ak (Er:=Er) (Fc<|fH (R:=(qE K)))<|fun v37 W35 e36 h38=>?_;have E0:=E0.trans e36;have hs34:=hs34.trans e36.g;have h7:=CB e36.g h7;have h17:=CB e36.g h17;have h22:=CB e36.g h22;have h28:=CB e36.g h28;refine bI (Er:=Er) (Iv:=fun(s59:(List<|List Ii))(W60:Wd)(g61:St)=>∃(v62:V),g61=[some Z0K,some v6,some v16,some<|.int y1.2.2,some v21,some v27,some v62,none,none]/\Ext W0 W60/\(isL<|qE K) W60.G s59 v62) (aB<|cv (iM<|aJ h22) ag) (CC hq) ?_ ?_ ?_
   ·intro W41 N44 e42 hN45 hq;have hs46:=e42.g;have E0:=E0.trans e42;have hs34:=hs34.trans e42.g;have h7:=CB e42.g h7;have h17:=CB e42.g h17;have h22:=CB e42.g h22;have h28:=CB e42.g h28;have h38:=CB e42.g h38;refine cG (Er:=Er) (Fc<|iI (aJ h7) (aJ h17) aS<|aQ (iM<|aJ h22) ag)<|(CC hq).imp fun y51 hq v52 W47 e48 h53=>?_;have E0:=E0.trans e48;have hs34:=hs34.trans e48.g;have hs46:=hs46.trans e48.g;have h7:=CB e48.g h7;have h17:=CB e48.g h17;have h22:=CB e48.g h22;have h28:=CB e48.g h28;exact hN45 y51 W47 _ hs46 ⟨_,rfl,E0,h53⟩ hq
   ·intro W41 N44 e42 hN45 hq;have hs54:=e42.g;have E0:=E0.trans e42;have hs34:=hs34.trans e42.g;have h7:=CB e42.g h7;have h17:=CB e42.g h17;have h22:=CB e42.g h22;have h28:=CB e42.g h28;have h38:=CB e42.g h38
    try dsimp only[aF]
    exact hN45 ([]:List (List Ii)) W41 _ hs54 ⟨_,rfl,E0,h38⟩ hq
   ·intro s55 W56 sg57 hS58 iv hq;obtain⟨v62,rfl,E0,h63⟩:=iv;have hs34:=hs34.trans hS58;have h7:=CB hS58 h7;have h17:=CB hS58 h17;have h22:=CB hS58 h22;have h28:=CB hS58 h28;refine cG (Er:=Er) (bV (K:=K) (aJ h22) (jU<|n9 (aJ h7) (Fc<|jQ<|FU<|aJ h17) aS (iM<|aJ h22) ag)<|aJ h63)<|(CC hq).imp fun y69 hq v70 W64 e65 h71=>?_;have E0:=E0.trans e65;have hs34:=hs34.trans e65.g;have h7:=CB e65.g h7;have h17:=CB e65.g h17;exact hN33 y69 W64 _ hs34 ⟨_,_,rfl,E0,h71⟩ hq
  ·intro W29 N32 e30 hN33 hq;have hs72:=e30.g;have E0:=E0.trans e30;have h7:=CB e30.g h7;have h17:=CB e30.g h17;have h22:=CB e30.g h22;have h28:=CB e30.g h28
   try dsimp only[aF]
   exact hN33 y26 W29 _ hs72 ⟨_,_,rfl,E0,h28⟩ hq
  ·intro s73 W74 sg75 hS76 iv hq;obtain⟨v80,d82,rfl,E0,h81⟩:=iv;have h7:=CB hS76 h7;have h17:=CB hS76 h17;refine ak (Er:=Er) (Fc<|jQ<|FU<|aJ h17)<|fun v85 W83 e84 h86=>?_;have E0:=E0.trans e84;have h7:=CB e84.g h7;have h17:=CB e84.g h17;have h81:=CB e84.g h81;have S:Sep W0 W83 []:=MN;refine iN (Er:=Er) S E0 (l5 (aJ h7) (aJ h86) aS)<|(CC hq).imp fun y87 hq v88 W89 e90 S=>?_;have E0:=E0.trans e90;have h7:=CB e90.g h7;have h17:=CB e90.g h17;have h81:=CB e90.g h81;have h86:=CB e90.g h86;have S:Sep W0 W89 [tc (oT3 K (isO isI) (isO isS)<|oL<|oL<|fz<|qC K) y87 v88]:=S;refine eD (Er:=Er) (ue (R:=(oT3 K (isO isI) (isO isS)<|oL<|oL<|fz<|qC K)) 0 S E0 rfl fun W91 hS92 E0 S h93=>(have S:Sep W0 W91 []:=S;have h17:=CB (R:=(qD K)) hS92 h17;have h81:=CB (R:=(isT3 K (isO isI) (isO isS)<|isL<|qE K)) hS92 h81;have h86:=CB (R:=(qD K)) hS92 h86;(tN (tM (oM (jV (by decide) (aJ h93)<|aJ h81))) (tM (oM (jV (by decide) (aJ h86)<|aJ h17))))))<|(CC hq).imp fun y97 hq W98 e99=>?_;have S:=S.ext e99;have E0:=E0.trans e99;have h7:=CB e99.g h7;have h17:=CB e99.g h17;have h81:=CB e99.g h81;have h86:=CB e99.g h86;by_cases hb116:y97=true
   ·rw[if_pos hb116]at hq ⊢;exact aZ (Er:=Er) tI<|fun v100 W101 e102 h103=>hq v100 W101 (E0.trans e102) h103
   ·rw[if_neg hb116]at hq ⊢
    try dsimp only[aF]
    refine pA (Er:=Er) (K:=K) E0 (yq<|uc (R:=(oT3 K (isO isI) (isO isS)<|oL<|oL<|fz<|qC K)) (C:=fun bb=>[tc (oT3 K (isO isI) (isO isS)<|oL<|oL<|fz<|qC K) bb v88]) (k:=0) S E0) (EVo.tr<|fJ<|bR (eV (K:=K) ag ag)<|fI (R:=(qC K)))<|(CC hq).imp fun y104 hq W105 hS106 E0 S=>?_;have S:Sep W0 W105 [tc (oT3 K (isO isI) (isO isS)<|oL<|oL<|fz<|qC K) y104 v88]:=S;have h7:=CB hS106 h7;have h81:=CB hS106 h81;have h86:=CB hS106 h86;refine rF (Er:=Er) (K:=K) E0 (Am (yq<|uc (R:=(oT3 K (isO isI) (isO isS)<|oL<|oL<|fz<|qC K)) (C:=fun bb=>[tc (oT3 K (isO isI) (isO isS)<|oL<|oL<|fz<|qC K) bb v88]) (k:=0) S E0) ag) (eV (K:=K) ag ag)<|(CC hq).imp fun y108 hq W109 hS110 E0 S=>?_;have S:Sep W0 W109 [tc (oT3 K (isO isI) (isO isS)<|oL<|oL<|fz<|qC K) y108 v88]:=S;have h7:=CB hS110 h7;have h81:=CB hS110 h81;have h86:=CB hS110 h86;exact aZ (Er:=Er) (jV (by decide) (MI<|l5 (aJ h7) (aJ h86) aS)<|aJ h81)<|Dx hq fun y112 hq v113 W114 e115 h116=>hq v113 W114 (E0.trans e115) h116
end
end Wb
namespace Wb
open PySem L2
section
variable{P:D6}{w:Di}{K:CG}{mg:Str->Option CI}{base:Heap}
theorem xH{f:Addr}{fd:Dk}{ps:List Str}{k:Nat}:FnOk P w K mg base CX0 k f fd ps (gG K 0):=⟨fun _ _ _ _ h=>h.elim,fun _ _ _ _ _ _ _ _ _ _ _ _ _ h=>h.elim⟩
theorem kN{K:CG}(a b:String)(r:Bool)(h:F8 [] (.type a) (.type b)=some r):F8 K (.type a) (.type b)=some r:=by first|exact h|(rw[<-h];rfl)
theorem gy{c:TT}{t rest:TS}{D:Ends}{σ:St}{H:Hp}(h:∀Q:Bool->Hp->Prop,Q false H->c σ H Q)(k:rest D σ H):eQ (j3 c t aF) rest D σ H:=h _ k
theorem nU{c:TT}{t rest:TS}{D:Ends}{σ:St}{H:Hp}(h:∀Q:Bool->Hp->Prop,Q true H->c σ H Q)(k:t {D with nx:=rest D} σ H):eQ (j3 c t aF) rest D σ H:=h _ k
local macro_rules | `(tactic|walk_at "S0")=>`(tactic|simp only[cy,bB,cW,bz,tC,dZ,ai,aL,bW,aF,bK,aM,cq,bh,cx,tB,fB,rU,eS,rI,cj,bY,aT,b6,fN,cB,fS,cC,bA,cD,bC,fE,bt,aI,ee,fR,fP,fQ,cE,bZ,cu,cF,ay,aO,L2.start,DR,GO,Hc,Gz,Ex,F5,HB,F9,GF,HS,EJ,En,Ik,exists_eq_left',exists_eq_left,exists_and_left,exists_eq',exists_const,FT.injEq,MQ.injEq,Hv.injEq,V.ref.injEq,V.ty.injEq,Ja,and_true,true_and,reduceCtorEq,false_and,and_false,exists_false,or_false,false_or,decide_eq_true_eq,Il,decide_eq_false_iff_not,if_true,if_false,Dp,ite_true,ite_false,Hh,Jx,JN,JO,and_assoc])
local macro_rules | `(tactic|walk_at "S1")=>`(tactic|simp only[cy,eQ,j3,bB,cW,bz,tC,dZ,ai,aL,bW,aF,bK,aM,cq,bh,cx,tB,fB,rU,eS,rI,cj,bY,aT,b6,fN,cB,fS,cC,bA,cD,bC,fE,bt,aI,ee,fR,fP,fQ,cE,bZ,cu,cF,ay,aO,L2.start,DR,GO,Hc,Gz,Ex,F5,HB,F9,GF,HS,EJ,En,Ik,exists_eq_left',exists_eq_left,exists_and_left,exists_eq',exists_const,FT.injEq,MQ.injEq,Hv.injEq,V.ref.injEq,V.ty.injEq,Ja,and_true,true_and,reduceCtorEq,false_and,and_false,exists_false,or_false,false_or,decide_eq_true_eq,Il,decide_eq_false_iff_not,if_true,if_false,Dp,ite_true,ite_false,Hh,Jx,JN,JO,and_assoc])
theorem vt{f:Addr}{fd:Dk}(F:Fun K "_law_same" "_law_same" (tp 52) f fd)(h_len:mg "len"=none)(h_isinstance:mg "isinstance"=none)(h_bool:mg "bool"=none)(h_int:mg "int"=none)(h_str:mg "str"=none)(h_list:mg "list"=none)(h_tuple:mg "tuple"=none)(h_zip:mg "zip"=none){n:Nat}
  (Z15:Cal P w K mg base "_law_same" ["_law_found","_law_due"] n (gG K n)):FnOk P w K mg base CX0 (n+1) f fd ["_law_found","_law_due"] (gG K<|n+1):=by
 have SC:FnScope ["_law_found","_law_due","_law_one","_law_other"] ["_law_found","_law_due"] (defScope<|tp 52):=by walk_at "F"
 refine F.ok SC (fun vs H Q E h=>?_)<|fun cdv A outer s H vs Q E hr h=>?_;·obtain⟨v,u,rfl,_⟩:=h;rfl
 ·obtain⟨v,u,rfl,h⟩:=h;have hr:Room n _:=hr
  refine⟨_,(ae (br (Jy<|mJ (au (op_isN.or jA) (pv 1) fX<|aw _)<|mJ (au (op_isN.or jA) (pv 1) gN<|aw _)<|lC<|au (op_isN.or jA) (pv 1) gN<|aw _) (af (az (iA (cO bX (aG (bq (K:=K) rfl) (by rfl) h_isinstance Dq (a5 (pv 0) (a5 (dh (v:=.ty "bool") (by rfl) h_bool GV rfl) aa))) (aG (bq (K:=K) rfl) (by rfl) h_isinstance Dq (a5 (pv 1) (a5 (dh (v:=.ty "bool") (by rfl) h_bool GV rfl) aa)))<|aw _)<|iz<|cO bX (pv 0) (pv 1)<|aw _))) aK)
   (ae (br (di (aG (bq (K:=K) rfl) (by rfl) h_isinstance Dq (a5 (pv 1) (a5 (dh (v:=.ty "int") (by rfl) h_int G7 rfl) aa)))) (af (az (iA (aG (bq (K:=K) rfl) (by rfl) h_isinstance Dq (a5 (pv 0) (a5 (dh (v:=.ty "int") (by rfl) h_int G7 rfl) aa))) (iA (yE (aG (bq (K:=K) rfl) (by rfl) h_isinstance Dq (a5 (pv 0) (a5 (dh (v:=.ty "bool") (by rfl) h_bool GV rfl) aa))))<|iz<|cO bX (pv 0) (pv 1)<|aw _)))) aK)
   (ae (br (di (aG (bq (K:=K) rfl) (by rfl) h_isinstance Dq (a5 (pv 1) (a5 (dh (v:=.ty "str") (by rfl) h_str Jk rfl) aa)))) (af (az (iA (aG (bq (K:=K) rfl) (by rfl) h_isinstance Dq (a5 (pv 0) (a5 (dh (v:=.ty "str") (by rfl) h_str Jk rfl) aa)))<|iz<|cO bX (pv 0) (pv 1)<|aw _))) aK)
   (ae (br (Jy (fZ (di (aG (bq (K:=K) rfl) (by rfl) h_isinstance Dq (a5 (pv 1) (a5 (dh (v:=.ty "list") (by rfl) h_list ET rfl) aa)))) (eT (js (di (aG (bq (K:=K) rfl) (by rfl) h_isinstance Dq (a5 (pv 0) (a5 (dh (v:=.ty "list") (by rfl) h_list ET rfl) aa)))))))) (af<|az gN) aK)
   (ae (br (Jy (fZ (di (aG (bq (K:=K) rfl) (by rfl) h_isinstance Dq (a5 (pv 1) (a5 (dh (v:=.ty "tuple") (by rfl) h_tuple GH rfl) aa)))) (eT (js (di (aG (bq (K:=K) rfl) (by rfl) h_isinstance Dq (a5 (pv 0) (a5 (dh (v:=.ty "tuple") (by rfl) h_tuple GH rfl) aa)))))))) (af<|az gN) aK)
   (ae (br (au pS (aG (bN (K:=K) rfl) (by rfl) h_len E8<|a5 (pv 0) aa) (aG (bN (K:=K) rfl) (by rfl) h_len E8<|a5 (pv 1) aa)<|aw _) (af<|az gN) aK)
   (ae (cJ DC rfl (fG (K:=K) rfl rfl h_zip<|a5 (pv 0)<|a5 (pv 1) aa) (bL (K:=K) (n:=2) rfl rfl (aq (bj (i:=2) SC.nd rfl (by walk_at "L")) (aq (bj (i:=3) SC.nd rfl (by walk_at "L")) bJ))) (af (br (js (di (tq Z15 hr (by rfl)<|a5 (pv 2)<|a5 (pv 3) aa))) (af<|az gN) aK)))
   (af (az gN))))))))),?_⟩
  rcases h with⟨he,q⟩|⟨x,y,rfl,rfl,q⟩
  rotate_left
  ·refine gy (fun Q q=>?_)<|gy (fun Q q=>?_)<|nU (fun Q q=>?_) ?_;·walk_at "S0";exact q
   ·walk_at "S0";exact⟨_,.str _,_,kN "str" "int" false rfl,q⟩
   ·walk_at "S0";exact⟨_,.str _,_,kN "str" "str" true rfl,q⟩
   ·walk_at "S0";refine⟨_,.str _,_,kN "str" "str" true rfl,?_⟩;walk_at "S0";simpa using q
  have fl:∀v,L2.flat v=true->(∀H',Same H H'->Q (.bl true) H')->(v=.non\/(∃b,v=.bl b)\/(∃i,v=.int i)\/∃x,v=.str x):=fun v hv _=>by
   cases v with
   |non=>exact .inl rfl
   |bl b=>exact .inr<|.inl ⟨b,rfl⟩
   |int b=>exact .inr<|.inr<|.inl ⟨b,rfl⟩
   |str b=>exact .inr<|.inr<|.inr ⟨b,rfl⟩
   |_=>cases hv
  have he':(v=u/\L2.flat v=true)\/∃m p q xs ys,n=m+1/\v=.ref p/\u=.ref q/\((H p=some (.lst xs)/\H q=some (.lst ys))\/(SqT K H p xs/\SqT K H q ys))/\xs.length=ys.length/\∀(i:Nat)(x y:V),xs[i]? =some x->ys[i]? =some y->EqK K H m x y:=by
   cases n with
   |zero=>exact .inl he
   |succ m=>rcases he with z|⟨p,q,xs,ys,z⟩;exact .inl z;exact .inr ⟨m,p,q,xs,ys,rfl,z⟩
  rcases he' with⟨rfl,hf⟩|⟨m,p,q',xs,ys,hnm,rfl,rfl,hk,hl,hi⟩
  ·rcases fl v hf q with rfl | ⟨b,rfl⟩ | ⟨i,rfl⟩ | ⟨x,rfl⟩
   ·refine nU (fun Q q=>?_) ?_;·walk_at "S0";exact q
    ·walk_at "S0";refine⟨_,.non,_,kN "NoneType" "bool" false rfl,_,.non,_,kN "NoneType" "bool" false rfl,?_⟩;walk_at "S0";exact q H<|.refl H
   ·refine nU (fun Q q=>?_) ?_;·cases b<;>walk_at "S0"<;>exact q
    ·walk_at "S0";refine⟨_,.bl _,_,kN "bool" "bool" true rfl,_,.bl _,_,kN "bool" "bool" true rfl,?_⟩;walk_at "S0";exact q H<|.refl H
   ·refine gy (fun Q q=>?_)<|nU (fun Q q=>?_) ?_;·walk_at "S0";exact q
    ·walk_at "S0";exact⟨_,.int _,_,kN "int" "int" true rfl,q⟩
    ·walk_at "S0";refine⟨_,.int _,_,kN "int" "int" true rfl,?_⟩;walk_at "S0";refine⟨_,.int _,_,kN "int" "bool" false rfl,?_⟩;walk_at "S0";exact q H<|.refl H
   ·refine gy (fun Q q=>?_)<|gy (fun Q q=>?_)<|nU (fun Q q=>?_) ?_;·walk_at "S0";exact q
    ·walk_at "S0";exact⟨_,.str _,_,kN "str" "int" false rfl,q⟩
    ·walk_at "S0";exact⟨_,.str _,_,kN "str" "str" true rfl,q⟩
    ·walk_at "S0";refine⟨_,.str _,_,kN "str" "str" true rfl,?_⟩;walk_at "S0";exact q H<|.refl H
  ·subst hnm;obtain⟨T,tp1,tp2,tl,src1,src2,h1,h2,e1,e2⟩:∃(T:String)(tp1:TyOf K H (.ref p) (.type T))(tp2:TyOf K H (.ref q') (.type T))(tl:(T="list"/\SqL K H p xs/\SqL K H q' ys)\/(T="tuple"/\SqT K H p xs/\SqT K H q' ys))(src1 src2:Src),(∀H',Same H H'->src1.has K H' xs)/\(∀H',Same H H'->src2.has K H' ys)/\src1.val=.ref p/\src2.val=.ref q':=by
    rcases hk with⟨a,b⟩|⟨a,b⟩
    ·exact⟨"list",.lst a,.lst b,.inl ⟨rfl,EB a,EB b⟩,.lst p,.lst q',fun H' e=>EB<|e _ _ a,fun H' e=>EB<|e _ _ b,rfl,rfl⟩
    ·exact⟨"tuple",.tup a,.tup b,.inr ⟨rfl,a,b⟩,.tup p,.tup q',fun H' e=>Eu e a,fun H' e=>Eu e b,rfl,rfl⟩
   have hi0:F8 K (.type T) (.type "int")=some false:=by rcases tl with⟨rfl,_⟩|⟨rfl,_⟩;exact kN _ _ _ rfl;exact kN _ _ _ rfl
   have hs0:F8 K (.type T) (.type "str")=some false:=by rcases tl with⟨rfl,_⟩|⟨rfl,_⟩;exact kN _ _ _ rfl;exact kN _ _ _ rfl
   obtain⟨bl,hl0,hl1⟩:∃bl,F8 K (.type T) (.type "list")=some bl/\F8 K (.type T) (.type "tuple")=some (!bl):=by rcases tl with⟨rfl,_⟩|⟨rfl,_⟩;exact⟨true,kN _ _ _ rfl,kN _ _ _ rfl⟩;exact⟨false,kN _ _ _ rfl,kN _ _ _ rfl⟩
   have ln1:qV K (.ref p) H xs.length:=by rcases tl with⟨_,t1,_⟩|⟨_,t1,_⟩;exact .inl ⟨_,t1,rfl⟩;exact .inr ⟨_,t1,rfl⟩
   have ln2:qV K (.ref q') H ys.length:=by rcases tl with⟨_,_,t2⟩|⟨_,_,t2⟩;exact .inl ⟨_,t2,rfl⟩;exact .inr ⟨_,t2,rfl⟩
   refine gy (fun Q q=>?_)<|gy (fun Q q=>?_)<|gy (fun Q q=>?_)<|gy (fun Q q=>?_)<|gy (fun Q q=>?_)<|gy (fun Q q=>?_) ?_;·walk_at "S0";exact q
   ·walk_at "S0";exact⟨_,tp2,_,hi0,q⟩
   ·walk_at "S0";exact⟨_,tp2,_,hs0,q⟩
   ·walk_at "S0";refine⟨_,tp2,_,hl0,?_⟩;cases bl with
    |false=>exact q
    |true=>walk_at "S0";exact⟨_,tp1,_,hl0,q⟩
   ·walk_at "S0";refine⟨_,tp2,_,hl1,?_⟩;cases bl with
    |true=>exact q
    |false=>walk_at "S0";exact⟨_,tp1,_,hl1,q⟩
   ·walk_at "S0";refine⟨_,ln1,_,ln2,?_⟩;simp only[hl,cy,bB,cW,bz,tC,dZ,ai,aL,bW,aF,bK,aM,cq,bh,cx,tB,fB,rU,eS,rI,cj,bY,aT,b6,fN,cB,fS,cC,bA,cD,bC,fE,bt,aI,ee,fR,fP,fQ,cE,bZ,cu,cF,ay,aO,L2.start,DR,GO,Hc,Gz,Ex,F5,HB,F9,GF,HS,EJ,En,Ik,exists_eq_left',exists_eq_left,exists_and_left,exists_eq',exists_const,FT.injEq,MQ.injEq,Hv.injEq,V.ref.injEq,V.ty.injEq,Ja,and_true,true_and,reduceCtorEq,false_and,and_false,exists_false,or_false,false_or,decide_eq_true_eq,Il,decide_eq_false_iff_not,if_true,if_false,Dp,ite_true,ite_false,Hh,Jx,JN,JO,and_assoc];exact q
   ·walk_at "S1";refine⟨_,rfl,_,rfl,src1,src2,xs,ys,by rw[e1,e2],h1 H<|.refl H,h2 H<|.refl H,wy (fun i σ H2=>Same H H2/\∃a b,σ=[some (.ref p),some<|.ref q',a,b]) ⟨.refl H,none,none,rfl⟩ (fun i σ H2⟨e,_⟩=>⟨h1 H2 e,h2 H2 e⟩) hl ?_ ?_⟩
    ·rintro i x y r σ H2 hx hy hr' ⟨e,a,b,rfl⟩;walk_at "S1";refine⟨_,JZ ax,rfl,?_⟩;walk_at "S1";refine⟨x,y,rfl,.inl ⟨(hi i x y hx hy).same (e.trans<|cK hr'),fun H3 e3=>?_⟩⟩;walk_at "S1";exact e.trans<|(cK hr').trans e3
    ·rintro σ H2 ⟨e,a,b,rfl⟩;walk_at "S1";exact q H2 e
def qK(K:CG):Sp:=fun vs H Q _=>∃(a:Addr)(ns:List Int),vs=[.ref a]/\SqL K H a (ns.map FT)/\ns.length<=63/\∀H',Q (.bl true) H'
end
end Wb
namespace Mi
theorem lq{s:List Int}(hs:s.length<=63)(k:Nat)(hk:k<=200):∃n,iX s (k:Int)=.ok n:=by
 unfold iX AO;by_cases h:(k:Int)<(s.length:Int)
 ·rw[if_pos (by simpa using h)];obtain⟨x,e,_⟩:=jf (xs:=s) (i:=(k:Int)) (by omega) h;exact⟨x,e⟩
 ·rw[if_neg (by simpa using h),nj (by omega) (by omega)];exact⟨_,rfl⟩
theorem zx(c b:Int)(hb:1<=b)(hb2:b<1073741824)(k:Nat)(s:Int×Int×List Int)(h1:0<=s.2.1)(hl:s.2.2.length<100000):∃s':Int×Int×List Int,zN c b (k:Int) s=.ok s'/\0<=s'.2.1/\∃v,0<=v/\v<b/\s'.2.2=s.2.2++[v]:=by
 unfold zN;have hm0:=DW (s.1*48271+7919+(k:Int)) (show(2147483647:Int)≠0 by decide);have hm1:=DN (s.1*48271+7919+(k:Int)) (show(0:Int)<2147483647 by decide);generalize (s.1*48271+7919+(k:Int))%2147483647=mx at*
 have other:∀z:Int,0<=z%b/\z%b<b:=fun z=>⟨DW _ (by omega),DN _ (by omega)⟩
 have A:∀z:Int,dB s.2.2 z=.ok (s.2.2++[z]):=fun z=>dt hl;have e2:((((jH mx mx).bind fun y63=>CJ<|y63%1000003).bind fun y64=>kL y64 b).bind fun y69=>dB s.2.2 y69)=.ok (s.2.2++[mx*mx%1000003%b]):=by
  rw[ni (by omega) (by omega)];simp only[CF];rw[i3 (by omega)];exact A _
 have e1:((kL s.2.1 b).bind fun y56=>dB s.2.2 y56)=.ok (s.2.2++[s.2.1%b]):=by rw[i3 (by omega)];exact A _
 by_cases hf:(1000000000000000000:Int)<=eu c
 ·rw[decide_eq_true hf];by_cases hp:0<s.2.1
  ·rw[decide_eq_true hp];simp only[if_true,CF,e1,nh (show 0<b by omega) hb2];exact⟨_,rfl,Int.ediv_nonneg h1 (by omega),_,(other _).1,(other _).2,rfl⟩
  ·rw[decide_eq_false hp];simp only[if_true,CF,Dp,if_false,e2];exact⟨_,rfl,h1,_,(other _).1,(other _).2,rfl⟩
 ·rw[decide_eq_false hf];simp only[CF,Dp,if_false,e2];exact⟨_,rfl,h1,_,(other _).1,(other _).2,rfl⟩
theorem kF(c:Int)(n:Nat)(b:Int)(hn:n<=1000)(hb:1<=b)(hb2:b<1073741824):∃ns,gH c (n:Int) b=.ok ns/\ns.length=n/\∀x∈ns,0<=x/\x<b:=by
 unfold gH AQ;rw[rD (by omega),CF];obtain⟨s,e,h0,hl,hb⟩:=cY (f:=zN c b) (fun pre(s:Int×Int×List Int)=>0<=s.2.1/\s.2.2.length=pre.length/\∀x∈s.2.2,0<=x/\x<b) ((DY n).map fun(i:Nat)=>(i:Int)) ((eu c)%2147483647,eu c,[]) ⟨wK c,rfl,by simp⟩ (by
  intro pre a post s e ⟨h0,hl,hb'⟩;have hlen:pre.length<n:=by have:=congrArg FV e;simp at this;omega
  obtain⟨k,rfl⟩:∃k:Nat,a=(k:Int):=by
   have:a∈(DY n).map fun(i:Nat)=>(i:Int):=by rw[e];simp
   obtain⟨k,_,hk⟩:=Dw.mp this;exact⟨k,hk.symm⟩
  obtain⟨s',e',h0',v,v0,v1,ev⟩:=zx c b hb hb2 k s h0 (by omega);refine⟨s',e',h0',by rw[ev];simp[hl],fun x hx=>?_⟩;rw[ev]at hx;rcases DF.mp hx with z|z;·exact hb' x z
  ·rw[G0.mp z];exact⟨v0,v1⟩)
 rw[e];exact⟨_,rfl,by rw[hl];simp,hb⟩
def bH(c:Nat):Prop:=c=102\/c=98\/c=105
def gz(t:Tx):Prop:=∀c∈t,bH c
structure Card(t:Cd):Prop where
 lay:t.1=[83]\/t.1=[90]
 four:t.2.1.length=4
 col:∀c∈t.2.1,97<=c/\c<=122
 low:0<=t.2.2
 high:t.2.2<4
theorem vz(sz:Int)(ds:List Int)(hsz:1<=sz)(hd:ds.length=5)(a:Int)(t:Tx)(ht:t.length<1000):∃c,97<=c/\c<=122/\zO sz ds a t=.ok (t++[c]):=by
 unfold zO;obtain⟨x,e,_⟩:=jf (xs:=ds) (i:=4) (by decide) (by rw[hd];decide);rw[e];simp only[CF,i3 (show 0<sz by omega)];have h0:=DW (x+a%sz*7) (show(26:Int)≠0 by decide);have h1:=DN (x+a%sz*7) (show(0:Int)<26 by decide);generalize (x+a%sz*7)%26=r at h0 h1;obtain⟨c,e2,h2⟩:=gE (x:=([97,98,99,100,101,102,103,104,105,106,107,108,109,110,111,112,113,114,115,116,117,118,119,120,121,122]:Tx)) (i:=r) h0 (by simp;omega) (by decide);rw[e2];simp only[CF,je (show t.length+[c].length<=100000 by simp;omega)];have hc:c∈([97,98,99,100,101,102,103,104,105,106,107,108,109,110,111,112,113,114,115,116,117,118,119,120,121,122]:Tx):=Dj h2;have:∀c∈([97,98,99,100,101,102,103,104,105,106,107,108,109,110,111,112,113,114,115,116,117,118,119,120,121,122]:Tx),97<=c/\c<=122:=by decide
 exact⟨c,(this c hc).1,(this c hc).2,rfl⟩
theorem vA(c:Int):∃t,xo c=.ok t/\t.length=4/\∀x∈t,97<=x/\x<=122:=by
 unfold xo AR;have h0:=DW c (show(5:Int)≠0 by decide);have h1:=DN c (show(0:Int)<5 by decide);obtain⟨sz,e,h2⟩:=jf (xs:=[(1:Int),2,3,4,26]) (i:=c%5) h0 (by simp;omega);have hsz:1<=sz:=by
  have:∀x∈[(1:Int),2,3,4,26],1<=x:=by decide
  exact this sz<|Dj h2
 rw[e,CF];obtain⟨ds,e2,hd,_⟩:=kF (c/5) 5 26 (by decide) (by decide) (by decide);rw[show gH (c/5) 5 26=CJ ds from e2,CF,show cut ds none (some 4)=ds.take 4 from nr ds 4];obtain⟨t,e3,h3,h4⟩:=cY (f:=zO sz ds) (fun pre t=>t.length=pre.length/\∀x∈t,97<=x/\x<=122) (ds.take 4) [] ⟨rfl,by simp⟩ (by
  intro pre a post t e ⟨hl,hb⟩;have hlen:pre.length<5:=by have:=congrArg FV e;simp at this;omega
  obtain⟨c,c0,c1,ec⟩:=vz sz ds hsz hd a t (by omega);refine⟨_,ec,by simp[hl],fun x hx=>?_⟩;rcases DF.mp hx with z|z;·exact hb x z
  ·rw[G0.mp z];exact⟨c0,c1⟩)
 rw[e3];exact⟨t,rfl,by rw[h3,H9];omega,h4⟩
theorem qL(c:Int):∃t,w4 c=.ok t/\Card t:=by
 unfold w4 AS;have h0:=DW c (show(2:Int)≠0 by decide);have h1:=DN c (show(0:Int)<2 by decide);obtain⟨y,e,h2⟩:=gE (x:=([83,90]:Tx)) (i:=c%2) h0 (by simp;omega) (by decide);obtain⟨t,e2,hl,hb⟩:=vA<|c/8;rw[e,CF,e2,CF];refine⟨_,rfl,?_,hl,hb,DW _ (by decide),DN _ (by decide)⟩;have:y=83\/y=90:=by simpa using Dj h2
 rcases this with rfl|rfl;·exact .inl rfl
 ·exact .inr rfl
theorem vB(d:Int)(h0:0<=d)(h1:d<3):∃c,fe ([102,98,105]:Tx) d=.ok [c]/\bH c:=by
 obtain⟨c,e,h⟩:=gE (x:=([102,98,105]:Tx)) (i:=d) h0 (by simp;omega) (by decide);refine⟨c,e,?_⟩;have:=Dj h;simpa [bH] using this
theorem vC(c:Int)(n:Nat)(hn:n<=1000):∃t,xp c (n:Int)=.ok t/\t.length=n/\gz t:=by
 unfold xp AU;by_cases h:c%7=3
 ·rw[if_pos (by simpa using h)];obtain⟨y,e,hy⟩:=vB (c/7%3) (DW _ (by decide)) (DN _ (by decide));rw[e,CF,wI (by omega) (by omega)];refine⟨_,rfl,by simp,fun x hx=>?_⟩;rw[List.eq_of_mem_replicate hx];exact hy
 ·rw[if_neg (by simpa using h)];obtain⟨ds,e,hl,hb⟩:=kF (c/7) n 3 hn (by decide) (by decide);rw[e,CF];have key:∃t:List Nat,eg ds (fun(a9:Int)=>fe ([102,98,105]:Tx) a9)=.ok (t.map fun c=>[c])/\t.length=n/\gz t:=by
   have:∀d∈ds,∃c:Nat,fe ([102,98,105]:Tx) d=.ok [c]/\bH c:=fun d hd=>vB d (hb d hd).1 (hb d hd).2;have hf:∀d∈ds,fe ([102,98,105]:Tx) d=.ok ((fun d=>[if d=0 then 102 else if d=1 then 98 else 105]) d):=fun d hd=>by
    have h1:=hb d hd;have:d=0\/d=1\/d=2:=by omega
    rcases this with rfl|rfl|rfl<;>rfl
   rw[fk (by show ds.length<=100000;omega) hf];refine⟨ds.map fun d=>if d=0 then 102 else if d=1 then 98 else 105,by simp,by simp[hl],fun x hx=>?_⟩;obtain⟨d,_,rfl⟩:=Dw.mp hx;unfold bH;split;·exact .inl rfl
   ·split;·exact .inr<|.inl rfl
    ·exact .inr<|.inr rfl
  obtain⟨t,e2,hl2,ht⟩:=key;rw[e2,CF,nk (by rw[qi];omega),qi];exact⟨t,rfl,hl2,ht⟩
def go(c:Nat):Int:=if c=102 then 1 else if c=98 then -1 else 0
def tw(t:Cd)(c:Nat):Int:=if t.1=[83]then go c else -go c
def dC(t:Cd)(i:Int):Nat:=t.2.1[i.toNat]?.getD 0
def nV(i:Int):Nat:=if i=1 then 115 else if i= -1 then 122 else 111
def behind(t:Cd)(c:Nat):Cd:=(t.1,t.2.1,(t.2.2+go c)%4)
def place(t:Cd)(c:Nat):Pl:=([dC t t.2.2],[dC t ((t.2.2+2)%4)],[nV (tw t c)])
theorem AI(c:Nat): -1<=go c/\go c<=1:=by unfold go;split;omega;split<;>omega
theorem vD(t:Cd)(c:Nat): -1<=tw t c/\tw t c<=1:=by have:=AI c;unfold tw;split<;>omega
theorem Card.behind{t:Cd}(h:Card t)(c:Nat):Card (behind t c):=⟨h.lay,h.four,h.col,DW _ (by decide),DN _ (by decide)⟩
theorem yu{c:Nat}(h:bH c):oo [c]=.ok (go c):=by
 unfold oo AW;rcases h with rfl|rfl|rfl<;>rfl
theorem lu{t:Cd}{c:Nat}(h:bH c):jl t [c]=.ok (behind t c):=by
 unfold jl AX;rw[yu h];rfl
theorem nW{t:Cd}{c:Nat}(h:bH c):iP t [c]=.ok (tw t c):=by
 unfold iP AY;rw[yu h];by_cases z:t.1=[83]
 ·rw[if_pos (by simpa using z)];unfold tw;rw[if_pos z]
 ·rw[if_neg (by simpa using z)];unfold tw;rw[if_neg z];simp only[CF];congr 1;omega
theorem dA{t:Cd}(h:Card t){i:Int}(h0:0<=i)(h1:i<4):fe t.2.1 i=.ok [dC t i]:=z9 h0 (by rw[h.four];exact h1) (by rw[h.four];decide)
theorem fg(i:Int):0<=i%4/\i%4<4:=⟨DW _ (by decide),DN _ (by decide)⟩
theorem vE{i:Int}(h: -1<=i/\i<=1):fe ([122,111,115]:Tx) (i+1)=.ok [nV i]:=by
 have:i= -1\/i=0\/i=1:=by omega
 rcases this with rfl|rfl|rfl<;>rfl
def fK:Cd->Tx->List Pl
 |_,[]=>[]
 |t,c::r=>place (behind t c) c::fK (behind t c) r
def ends:Cd->Tx->Cd
 |t,[]=>t
 |t,c::r=>ends (behind t c) r
theorem pG(t:Cd)(x:Tx):(fK t x).length=x.length:=by
 induction x generalizing t with
 |nil=>rfl
 |cons c r ih=>simp[fK,ih]
theorem vF(x:Tx):∀(t:Cd)(c:Nat),ends t (x++[c])=behind (ends t x) c:=by
 induction x with
 |nil=>intro t c;rfl
 |cons d r ih=>intro t c;simp[ends,ih]
theorem Card.ends{t:Cd}(h:Card t)(x:Tx):Card (ends t x):=by
 induction x generalizing t with
 |nil=>exact h
 |cons c r ih=>exact ih<|h.behind c
theorem sm{t:Cd}(h:Card t){c:Nat}(hc:bH c){out:List Pl}(ho:out.length<100000):zP jl iP [c] (t,out)=.ok (behind t c,out++[place (behind t c) c]):=by
 unfold zP;have hb:=h.behind c;simp only[lu hc,CF,nW hc,vE<|vD _ _,dA hb hb.low hb.high,dA hb (fg _).1 (fg _).2];rw[dt ho];rfl
theorem sq{t:Cd}(h:Card t){x:Tx}(hx:gz x)(hl:x.length<=10000):xq t x=.ok (fK t x):=by
 unfold xq AZ;have key:∀(x:Tx)(t:Cd)(out:List Pl),Card t->gz x->out.length+x.length<=10000->bE (zP jl iP) (cM x) (t,out)=.ok (ends t x,out++fK t x):=by
  intro x
  induction x with
  |nil=>intro t out _ _ _;simp[cM,bE,ends,fK]
  |cons c r ih=>
   intro t out h hx hl;simp only[F5]at hl;show bE _ ([c]::cM r) _=_;unfold bE;rw[sm h (hx c (by simp)) (by omega),CF,ih _ _ (h.behind c) (fun d hd=>hx d (by simp[hd])) (by simp;omega)];simp[ends,fK]
 rw[key x t [] h hx (by simpa using hl)];simp
def isCol(c:Nat):Prop:=97<=c/\c<=122
def isSl(c:Nat):Prop:=c=115\/c=122\/c=111
structure Mark(m:Pl):Prop where
 a:∃c,m.1=[c]/\(isCol c\/c=63)
 b:∃c,m.2.1=[c]/\(isCol c\/c=63)
 s:∃c,m.2.2=[c]/\(isSl c\/c=63)
structure Whole(m:Pl):Prop where
 a:∃c,m.1=[c]/\isCol c
 b:∃c,m.2.1=[c]/\isCol c
 s:∃c,m.2.2=[c]/\isSl c
theorem Whole.mark{m:Pl}(h:Whole m):Mark m:=by
 obtain⟨⟨a,h1,h2⟩,⟨b,h3,h4⟩,⟨s,h5,h6⟩⟩:=h;exact⟨⟨a,h1,.inl h2⟩,⟨b,h3,.inl h4⟩,⟨s,h5,.inl h6⟩⟩
theorem nX{t:Cd}(h:Card t){i:Int}(h0:0<=i)(h1:i<4):isCol (dC t i):=by
 unfold dC;have:i.toNat<t.2.1.length:=by rw[h.four];omega
 simp only[CK this,Hb];exact h.col _<|F3 this
theorem vG(i:Int):isSl (nV i):=by unfold nV isSl;split;exact .inl rfl;split;exact .inr<|.inl rfl;exact .inr<|.inr rfl
theorem nY{t:Cd}(h:Card t)(c:Nat):Whole (place t c):=⟨⟨_,rfl,nX h h.low h.high⟩,⟨_,rfl,nX h (fg _).1 (fg _).2⟩,⟨_,rfl,vG _⟩⟩
theorem mw{t:Cd}(h:Card t)(x:Tx):∀m∈fK t x,Whole m:=by
 induction x generalizing t with
 |nil=>intro m hm;simp[fK]at hm
 |cons c r ih=>
  intro m hm;rcases De.mp hm with rfl|hm
  ·exact nY (h.behind c) c
  ·exact ih (h.behind c) m hm
theorem nZ{c:Nat}(h:isCol c):∃j d,isCol d/\j7 ([97,98,99,100,101,102,103,104,105,106,107,108,109,110,111,112,113,114,115,116,117,118,119,120,121,122,97]:Tx) [c]=.ok j/\fe ([97,98,99,100,101,102,103,104,105,106,107,108,109,110,111,112,113,114,115,116,117,118,119,120,121,122,97]:Tx) (j+1)=.ok [d]:=by
 have key:∀k:Fin 26,(match j7 ([97,98,99,100,101,102,103,104,105,106,107,108,109,110,111,112,113,114,115,116,117,118,119,120,121,122,97]:Tx) [97+k.1]with| .ok j=>(match fe ([97,98,99,100,101,102,103,104,105,106,107,108,109,110,111,112,113,114,115,116,117,118,119,120,121,122,97]:Tx) (j+1)with| .ok [d]=>decide (97<=d/\d<=122)|_=>false)|_=>false)=true:=by decide
 obtain⟨k,rfl⟩:∃k:Fin 26,c=97+k.1:=⟨⟨c-97,by have:=h.1;have:=h.2;omega⟩,by have:=h.1;show c=97+(c-97);omega⟩
 have:=key k;split at this
 ·rename_i j e;split at this
  ·rename_i d e2;exact⟨j,d,by simpa [isCol] using this,e,e2⟩
  ·cases this
 ·cases this
theorem xI{c:Nat}(h:isSl c):∃j d,isSl d/\j7 ([115,122,111]:Tx) [c]=.ok j/\fe ([122,111,115]:Tx) j=.ok [d]:=by
 rcases h with rfl|rfl|rfl;·exact⟨0,122,.inr<|.inl rfl,rfl,rfl⟩
 ·exact⟨1,111,.inr<|.inr rfl,rfl,rfl⟩
 ·exact⟨2,115,.inl rfl,rfl,rfl⟩
def xJ(l:List Tx):Prop:=∃a b c,l=[[a],[b],[c]]/\isCol a/\isCol b/\isSl c
theorem vH(cell:Int){p:Pl}(hp:Whole p){d:Int}(h0:0<=d)(h1:d<64){out:List Pl}(ho:out.length<1000):(zR cell (p,d) out).Ok fun r=>∃m,Mark m/\r=out++[m]:=by
 unfold zR;obtain⟨⟨a,ea,ha⟩,⟨b,eb,hb⟩,⟨s,es,hs⟩⟩:=hp;simp only[ea,eb,es];refine ja (EU (P:=fun d'=>0<=d'/\d'<64) (om (fun _=>gq ⟨by omega,by omega⟩) fun _=>gq ⟨h0,h1⟩) fun d1 hd1=>?_);refine ja (EU (P:=fun d'=>0<=d'/\d'<64) (om (fun _=>gq ⟨by omega,by omega⟩) fun _=>gq hd1) fun d2 hd2=>?_);have hm0:=DW d2 (show(3:Int)≠0 by decide);have hm1:=DN d2 (show(0:Int)<3 by decide);have step1:((if(decide<|(56:Int)<=d2)then CJ (decide<|(d2%3)<(2:Int))else CJ false).bind fun y90=>(if y90 then(((((fj [[a],[b],[s]]<|d2%3).bind fun y101=>j7 ([97,98,99,100,101,102,103,104,105,106,107,108,109,110,111,112,113,114,115,116,117,118,119,120,121,122,97]:Tx) y101).bind fun y102=>CJ<|y102+(1:Int)).bind fun y103=>fe ([97,98,99,100,101,102,103,104,105,106,107,108,109,110,111,112,113,114,115,116,117,118,119,120,121,122,97]:Tx) y103).bind fun y107=>jJ [[a],[b],[s]] (d2%3) y107).bind fun y108=>CJ y108 else CJ [[a],[b],[s]]:Res (List Tx))).Ok xJ:=by
  have dflt:xJ [[a],[b],[s]]:=⟨a,b,s,rfl,ha,hb,hs⟩
  refine ja<|om (fun _=>gq ?_) fun _=>gq dflt;refine om (fun h2=>?_) fun _=>gq dflt;generalize d2%3=r at*
  have:r=0\/r=1:=by omega
  rcases this with rfl|rfl
  ·obtain⟨j,d,hd,e1,e2⟩:=nZ ha;simp only[show fj [[a],[b],[s]] 0=CJ [a]from rfl,CF,e1,e2,show jJ [[a],[b],[s]] 0 [d]=CJ [[d],[b],[s]]from rfl];exact gq ⟨d,b,s,rfl,hd,hb,hs⟩
  ·obtain⟨j,d,hd,e1,e2⟩:=nZ hb;simp only[show fj [[a],[b],[s]] 1=CJ [b]from rfl,CF,e1,e2,show jJ [[a],[b],[s]] 1 [d]=CJ [[a],[d],[s]]from rfl];exact gq ⟨a,d,s,rfl,ha,hd,hs⟩
 refine ja<|step1.imp fun l1 ht=>?_;obtain⟨a,b,s,rfl,ha,hb,hs⟩:=ht;have step2:((if(decide<|(56:Int)<=d2)then CJ (decide<|(d2%3)=(2:Int))else CJ false).bind fun y120=>(if y120 then((((fj [[a],[b],[s]] (2:Int)).bind fun y127=>j7 ([115,122,111]:Tx) y127).bind fun y128=>fe ([122,111,115]:Tx) y128).bind fun y132=>jJ [[a],[b],[s]] (2:Int) y132).bind fun y133=>CJ y133 else CJ [[a],[b],[s]]:Res (List Tx))).Ok xJ:=by
  have dflt:xJ [[a],[b],[s]]:=⟨a,b,s,rfl,ha,hb,hs⟩
  refine ja<|om (fun _=>gq ?_) fun _=>gq dflt;refine om (fun h2=>?_) fun _=>gq dflt;obtain⟨j,d,hd,e1,e2⟩:=xI hs;simp only[show fj [[a],[b],[s]] 2=CJ [s]from rfl,CF,e1,e2,show jJ [[a],[b],[s]] 2 [d]=CJ [[a],[b],[d]]from rfl];exact gq ⟨a,b,d,rfl,ha,hb,hd⟩
 refine ja<|step2.imp fun l2 ht=>?_;obtain⟨a,b,s,rfl,ha,hb,hs⟩:=ht;have cell1:∀(x:Nat)(k:Int),0<k->k<10->∃y,((((jI d2 k).bind fun y158=>CJ<|y158%2).bind fun y159=>CJ<|decide<|y159=(1:Int)).bind fun y160=>if y160 then CJ [x]else CJ ([63]:Tx))=.ok [y]/\(y=x\/y=63):=fun x k k0 k1=>by
  rw[nh k0 (by omega)];simp only[CF];by_cases h:d2/k%2=1;·rw[if_pos (by simpa using h)];exact⟨x,rfl,.inl rfl⟩
  ·rw[if_neg (by simpa using h)];exact⟨63,rfl,.inr rfl⟩
 obtain⟨x,ex,hx⟩:=cell1 a 1 (by decide) (by decide);obtain⟨y,ey,hy⟩:=cell1 b 2 (by decide) (by decide);obtain⟨z,ez,hz⟩:=cell1 s 4 (by decide) (by decide);have ec:eg ([[a],[b],[s]].zip [(1:Int),2,4]) (fun(a149:Tx×Int)=>(((jI d2 a149.2).bind fun y158=>CJ<|y158%2).bind fun y159=>CJ<|decide<|y159=(1:Int)).bind fun y160=>if y160 then CJ a149.1 else CJ ([63]:Tx))=.ok [[x],[y],[z]]:=by
  unfold eg;rw[bw (show([[a],[b],[s]].zip [(1:Int),2,4]).length<=cap from(by show 3<=100000;decide)),CF];show j8 _ [([a],(1:Int)),([b],2),([s],4)]=_;simp only[j8,ex,ey,ez,CF]
 simp only[ec,CF,yX,dt (show out.length<100000 by omega)];refine⟨_,⟨⟨x,rfl,?_⟩,⟨y,rfl,?_⟩,⟨z,rfl,?_⟩⟩,rfl⟩
 ·rcases hx with rfl | rfl;·exact .inl ha
  ·exact .inr rfl
 ·rcases hy with rfl | rfl;·exact .inl hb
  ·exact .inr rfl
 ·rcases hz with rfl | rfl;·exact .inl hs
  ·exact .inr rfl
def Marks(n:Nat)(l:List Pl):Prop:=l.length=n/\∀m∈l,Mark m
theorem iq{α β:Type}{xs:List α}{ys:List β}{p:α×β}(h:p∈xs.zip ys):p.1∈xs/\p.2∈ys:=⟨(Gy h).1,(Gy h).2⟩
theorem vI{ps:List Pl}(hp:∀p∈ps,Whole p)(hl:ps.length<=900)(cell:Int)(lies:Bool):(xt ps cell lies).Ok (Marks ps.length):=by
 unfold xt B6;have e0:∃b:Int,((jH (8:Int) (if lies then(1:Int)else 0)).bind fun y9=>CJ<|(56:Int)+y9)=.ok b/\56<=b/\b<=64:=by
  cases lies;·exact⟨56,rfl,by decide,by decide⟩
  ·exact⟨64,rfl,by decide,by decide⟩
 obtain⟨b,eb,hb0,hb1⟩:=e0;rw[eb,CF];obtain⟨ns,en,hn,hns⟩:=kF (cell/5) ps.length b (by omega) (by omega) (by omega);rw[en,CF];obtain⟨r,er,hr⟩:=cY (f:=zR cell) (fun pre r=>Marks pre.length r) (ps.zip ns) [] ⟨rfl,by simp⟩ (by
  intro pre a post s e ⟨h1,h2⟩;have ha:a∈ps.zip ns:=by rw[e];simp
  have hlen:pre.length<900:=by have:=congrArg FV e;simp[FC,hn]at this;omega
  obtain⟨r,er,m,hm,rfl⟩:=(vH cell (hp _ (iq ha).1) (hns _ (iq ha).2).1 (by have:=(hns _ (iq ha).2).2;omega) (out:=s) (by omega)).ex;refine⟨_,er,by simp[h1],fun x hx=>?_⟩;rcases DF.mp hx with z|z;·exact h2 x z
  ·rw[G0.mp z];exact hm)
 rw[er];refine⟨by rw[hr.1,FC,hn];omega,hr.2⟩
theorem Marks.get{n:Nat}{l:List Pl}(h:Marks n l){i:Int}(h0:0<=i)(h1:i<n):∃m,fj l i=.ok m/\Mark m:=by
 obtain⟨m,e,g⟩:=jf (xs:=l) h0 (by rw[h.1];exact h1);exact⟨m,e,h.2 m<|Dj g⟩
theorem sr{p:Pl}(h:Mark p):Mark ([63],p.2.1,[63]):=⟨⟨63,rfl,.inr rfl⟩,h.b,⟨63,rfl,.inr rfl⟩⟩
theorem xK{p:Pl}(hp:Mark p){d k:Int}{out:List Pl}(ho:out.length<1000):(zQ (p,d) (k,out)).Ok fun r=>∃m,Mark m/\r.2=out++[m]:=by
 unfold zQ;refine ja<|EU (P:=fun r:Int×Pl=>Mark r.2) (ja<|EU (P:=fun _=>True) (om (fun _=>gq trivial) fun _=>gq trivial) fun b _=>BM (fun _=>gq<|sr hp) fun _=>gq hp) fun r hr=>?_;rw[dt (show(k,out).2.length<100000 from(by show out.length<100000;omega))];exact⟨_,hr,rfl⟩
theorem zy(d:Int)(h0:0<=d)(h1:d<3):∃c,fe ([115,122,111]:Tx) d=.ok [c]/\isSl c:=by
 obtain⟨c,e,h⟩:=gE (x:=([115,122,111]:Tx)) (i:=d) h0 (by simp;omega) (by decide);exact⟨c,e,by simpa [isSl] using Dj h⟩
theorem xM{ps:List Pl}(hp:∀p∈ps,Whole p)(hl:ps.length<=900)(h1:1<=ps.length)(cell:Int):(xr ps cell).Ok (Marks ps.length):=by
 unfold xr B0;obtain⟨ns,en,hn,hns⟩:=kF (cell/3) ps.length 11 (by omega) (by decide) (by decide);rw[en,CF];obtain⟨r,er,hr⟩:=cY (f:=zQ) (fun pre(r:Int×List Pl)=>Marks pre.length r.2) (ps.zip ns) (0,[]) ⟨rfl,by simp⟩ (by
  intro pre a post s e ⟨h1,h2⟩;have ha:a∈ps.zip ns:=by rw[e];simp
  have hlen:pre.length<900:=by have:=congrArg FV e;simp[FC,hn]at this;omega
  obtain⟨k,out⟩:=s;obtain⟨r,er,m,hm,e2⟩:=(xK (hp _ (iq ha).1).mark (d:=a.2) (k:=k) (out:=out) (by have:out.length=pre.length:=h1;omega)).ex;refine⟨r,er,by rw[e2];simp;exact h1,fun x hx=>?_⟩;rw[e2]at hx;rcases DF.mp hx with z|z;·exact h2 x z
  ·rw[G0.mp z];exact hm)
 rw[er,CF];have hr:Marks ps.length r.2:=⟨by rw[hr.1,FC,hn];omega,hr.2⟩
 refine ja<|EU (P:=Marks ps.length) (om (fun _=>?_) fun _=>gq hr) fun r h=>gq h;rw[i3 (by omega),CF];have b0:=DW (cell/3) (show(ps.length:Int)≠0 by omega);have b1:=DN (cell/3) (show(0:Int)<(ps.length:Int) by omega);generalize cell/3%(ps.length:Int)=i at b0 b1;obtain⟨m,em,hm⟩:=hr.get b0 (by omega);obtain⟨c,ec,hc⟩:=zy (cell/7%3) (DW _ (by decide)) (DN _ (by decide));simp only[em,CF,ec,wJ b0 (show i<r.2.length by rw[hr.1];exact b1)];refine⟨by simp[hr.1],fun x hx=>?_⟩;rcases HY hx with z|z
 ·exact hr.2 x z
 ·rw[z];exact⟨hm.a,hm.b,⟨c,rfl,.inl hc⟩⟩
theorem vJ{n:Nat}{l:List Pl}(h:Marks n l)(hn:n<=900)(cell:Int):(xB l cell).Ok (Marks n):=by
 unfold xB Bd;refine ja<|EU (P:=fun _=>True) (om (fun _=>gq trivial) fun _=>gq trivial) fun b _=>BM (fun _=>gq h) fun _=>?_;obtain⟨ns,en,hl,hns⟩:=kF (cell/8) l.length 5 (by rw[h.1];omega) (by decide) (by decide);rw[en,CF];obtain⟨ys,ey,hy,hP⟩:=u5 (xs:=l.zip ns) (P:=fun x y=>Mark x.1->Mark y) (f:=fun(a17:(Tx×Tx×Tx)×Int)=>if(decide<|(1:Int)<a17.2)then CJ (([63]:Tx),([63]:Tx),([63]:Tx))else CJ a17.1) (by rw[FC,hl,h.1];omega) (by
  intro x _;by_cases z:1<x.2;·exact⟨_,if_pos (by simpa using z),fun _=>⟨⟨63,rfl,.inr rfl⟩,⟨63,rfl,.inr rfl⟩,⟨63,rfl,.inr rfl⟩⟩⟩
  ·exact⟨_,if_neg (by simpa using z),fun h=>h⟩)
 rw[ey];refine⟨by rw[hy,FC,hl,h.1];omega,fun m hm=>?_⟩;obtain⟨i,hi⟩:=G6.mp hm;have hil:=(CO.mp hi).1;rw[hy]at hil;have e:=CK hil;exact hP i _ m e hi<|h.2 _ (iq<|F3 hil).1
def qM(t:Cd):Cd:=(if t.1=[83]then [90]else [83],[dC t 0,dC t 3,dC t 2,dC t 1],(0-t.2.2)%4)
def pH(c:Nat):Nat:=if c=102 then 98 else if c=98 then 102 else c
def qN(t:Cd)(k:Int):Cd:=(t.1,[dC t ((0-k)%4),dC t<|(1-k)%4,dC t<|(2-k)%4,dC t<|(3-k)%4],(t.2.2+k)%4)
theorem o6{t:Cd}(h:Card t):xu t=.ok (qM t):=by
 unfold xu B7;have e1:((j7 ([83,90]:Tx) t.1).bind fun y5=>fe ([90,83]:Tx) y5)=.ok (if t.1=[83]then [90]else [83]):=by
  rcases h.lay with e|e<;>rw[e]<;>rfl
 rw[e1];simp only[CF,dA h (show(0:Int)<=0 by decide) (by decide),dA h (show(0:Int)<=3 by decide) (by decide),dA h (show(0:Int)<=2 by decide) (by decide),dA h (show(0:Int)<=1 by decide) (by decide)];rfl
theorem vK{t:Cd}(h:Card t){x:Tx}(e:∀c∈x,∃i:Int,0<=i/\i<4/\c=dC t i):∀c∈x,97<=c/\c<=122:=fun c hc=>by
 obtain⟨i,h0,h1,rfl⟩:=e c hc;unfold dC;have:i.toNat<t.2.1.length:=by rw[h.four];omega
 simp only[CK this,Hb];exact h.col _<|F3 this
theorem Card.flip{t:Cd}(h:Card t):Card (qM t):=by
 refine⟨?_,rfl,vK h fun c hc=>?_,(fg _).1,(fg _).2⟩
 ·unfold qM;split;·exact .inr rfl
  ·exact .inl rfl
 ·have:c=dC t 0\/c=dC t 3\/c=dC t 2\/c=dC t 1:=by simpa [qM] using hc
  rcases this with rfl|rfl|rfl|rfl;·exact⟨0,by decide,by decide,rfl⟩
  ·exact⟨3,by decide,by decide,rfl⟩
  ·exact⟨2,by decide,by decide,rfl⟩
  ·exact⟨1,by decide,by decide,rfl⟩
theorem Card.roll{t:Cd}(h:Card t)(k:Int):Card (qN t k):=by
 refine⟨h.lay,rfl,vK h fun c hc=>?_,(fg _).1,(fg _).2⟩;have:c=dC t ((0-k)%4)\/c=dC t ((1-k)%4)\/c=dC t ((2-k)%4)\/c=dC t ((3-k)%4):=by simpa [qN] using hc
 rcases this with rfl|rfl|rfl|rfl<;>exact⟨_,(fg _).1,(fg _).2,rfl⟩
theorem xN{t:Cd}(h:Card t)(k:Int):xw t k=.ok (qN t k):=by
 unfold xw B9;rw[show gf (4:Int)=CJ [(0:Int),1,2,3]from rfl,CF];rw[fk (g:=fun i:Int=>[dC t ((i-k)%4)]) (by decide)<|fun i _=>dA h (fg _).1 (fg _).2];rfl
theorem vL{c:Nat}(h:bH c):bH (pH c):=by
 unfold pH;rcases h with rfl|rfl|rfl
 ·exact .inr<|.inl rfl
 ·exact .inl rfl
 ·exact .inr<|.inr rfl
theorem xO{x:Tx}(h:gz x)(hl:x.length<=10000):xv x=.ok (x.map pH):=by
 unfold xv B8;rw[fk (g:=fun t:Tx=>[pH (t.headD 0)]) (by show(cM x).length<=100000;simp[cM];omega) (fun t ht=>by
  obtain⟨c,hc,rfl⟩:=gF ht;rcases h c hc with rfl|rfl|rfl<;>rfl),CF]
 have e:((cM x).map fun t:Tx=>[pH (t.headD 0)])=(x.map pH).map fun c=>[c]:=by simp[cM]
 rw[e,nk (by rw[qi];simp;omega),qi]
theorem pI{x:Tx}(h:gz x):gz (x.map pH):=fun c hc=>by
 obtain⟨d,hd,rfl⟩:=Dw.mp hc;exact vL<|h d hd
theorem qO(i:Int)(l:List Int)(hl:l.length<1000):∃l',zS i l=.ok l'/\(∀x,x∈l'↔x∈l\/x=i)/\(l.Nodup->l'.Nodup)/\l'.length<=l.length+1:=by
 unfold zS;by_cases h:i∈l
 ·refine⟨l,?_,fun x=>⟨.inl,fun z=>z.elim id fun e=>e▸h⟩,id,by omega⟩;rw[if_neg (by simp[h])];rfl
 ·refine⟨l++ [i],?_,fun x=>by simp,fun hn=>?_,by simp⟩;·rw[if_pos (by simp[h]),dt (by omega)];rfl
  ·rw[Im];exact⟨hn,by simp,fun a ha b hb=>by simp at hb;subst hb;intro e;subst e;exact h ha⟩
def yv(t:Cd)(x:Tx)(i:Int):Prop:=∃k,0<k/\k<=x.length/\(i=(ends t<|x.take k).2.2\/i=((ends t<|x.take k).2.2+2)%4)
theorem xP{t:Cd}(h:Card t){x:Tx}(hx:gz x)(hl:x.length<=900):∃l,xx t x=.ok l/\l.Pairwise (· <= ·)/\l.Nodup/\(∀i∈l,0<=i/\i<4)/\∀i,i∈l↔yv t x i:=by
 unfold xx Ba;obtain⟨s,e,h1,h2,h3,h4⟩:=cY (f:=AA jl) (fun pre(s:Cd×List Int)=>s.1=ends t (x.take pre.length)/\s.2.Nodup/\(∀i∈s.2,0<=i/\i<4)/\∀i,i∈s.2↔∃k,0<k/\k<=pre.length/\(i=(ends t<|x.take k).2.2\/i=((ends t<|x.take k).2.2+2)%4)) (cM x) (t,[])
  ⟨by simp[ends],by simp,by simp,fun i=>⟨fun z=>by simp at z,fun⟨k,a,b,_⟩=>by simp at b;omega⟩⟩ (by
  intro pre a post s e ⟨h1,h2,h3,h4⟩;have ha:a∈cM x:=by rw[e];simp
  obtain⟨c,hc,rfl⟩:=gF ha;have hlen:pre.length<x.length:=by have:=congrArg FV e;simp[cM]at this;omega
  have hget:x[pre.length]? =some c:=by
   have:=congrArg (fun l=>l[pre.length]?) e;simp only[cM,CS,D4<|CN _,Gp,EJ]at this;cases z:x[pre.length]? with
   |none=>rw[z]at this;cases this
   |some d=>rw[z]at this;simp at this;rw[this]
  have htake:x.take (pre.length+1)=x.take pre.length++[c]:=by
   rw[List.take_add_one,hget];rfl
  have small:s.2.length<=4:=by
   have hsub:s.2 ⊆ [(0:Int),1,2,3]:=fun i hi=>by
    have:=h3 i hi;have:i=0\/i=1\/i=2\/i=3:=by omega
    simpa using this
   exact(Hf h2 hsub)
  unfold AA;rw[h1,lu<|hx c hc,CF];have hB:Card (behind (ends t<|x.take pre.length) c):=(h.ends _).behind c;generalize hbe:behind (ends t<|x.take pre.length) c=B at hB ⊢;obtain⟨l1,e1,m1,n1,k1⟩:=qO B.2.2 s.2 (by omega);obtain⟨l2,e2,m2,n2,k2⟩:=qO ((B.2.2+2)%4) l1 (by omega);have el:bE zS [B.2.2,(B.2.2+2)%4] s.2=.ok l2:=by simp only[bE,e1,e2,CF]
  rw[el];have hE:ends t (x.take<|pre.length+1)=B:=by rw[htake,vF,hbe]
  refine⟨(B,l2),rfl,by simp[hE],n2<|n1 h2,fun i hi=>?_,fun i=>?_⟩
  ·rcases (m2 i).mp hi with z | z
   ·rcases (m1 i).mp z with z | z;·exact h3 i z
    ·rw[z];exact⟨hB.low,hB.high⟩
   ·rw[z];exact fg _
  ·rw[m2,m1,h4];constructor
   ·rintro ((⟨k,a,b,z⟩ | z) | z);·exact⟨k,a,by simp;omega,z⟩
    ·exact⟨pre.length+1,by omega,by simp,.inl (by rw[hE];exact z)⟩
    ·exact⟨pre.length+1,by omega,by simp,.inr (by rw[hE];exact z)⟩
   ·rintro ⟨k,a,b,z⟩;simp at b;rcases M5 k (pre.length+1)with q|q;·exact .inl (.inl ⟨k,a,by omega,z⟩)
    ·have:k=pre.length+1:=by omega
     subst this;rw[hE]at z;rcases z with z|z
     ·exact .inl (.inr z)
     ·exact .inr z)
 rw[e,CF];have hsub:s.2 ⊆ [(0:Int),1,2,3]:=fun i hi=>by
  have:=h3 i hi;have:i=0\/i=1\/i=2\/i=3:=by omega
  simpa using this
 have small:=(Hf h2 hsub)
 simp only[F5,HB]at small;rw[u0 (by omega)];have pm:=iV s.2;refine⟨_,rfl,kY _,pm.nodup_iff.mpr h2,fun i hi=>h3 i<|pm.mem_iff.mp hi,fun i=>?_⟩;rw[pm.mem_iff,h4];unfold yv;simp[cM]
theorem zz(d:Int)(h0:0<=d)(h1:d<26):∃c,fe ([97,98,99,100,101,102,103,104,105,106,107,108,109,110,111,112,113,114,115,116,117,118,119,120,121,122]:Tx) d=.ok [c]/\97<=c/\c<=122:=by
 obtain⟨c,e,h⟩:=gE (x:=([97,98,99,100,101,102,103,104,105,106,107,108,109,110,111,112,113,114,115,116,117,118,119,120,121,122]:Tx)) (i:=d) h0 (by simp;omega) (by decide);have:∀c∈([97,98,99,100,101,102,103,104,105,106,107,108,109,110,111,112,113,114,115,116,117,118,119,120,121,122]:Tx),97<=c/\c<=122:=by decide
 exact⟨c,e,this c<|Dj h⟩
def xQ(t:Cd)(i:Nat)(c:Nat):Cd:=(t.1,t.2.1.set i c,t.2.2)
theorem Card.dye{t:Cd}(h:Card t)(i:Nat){c:Nat}(h0:97<=c)(h1:c<=122):Card (xQ t i c):=⟨h.lay,by simp[xQ,h.four],fun x hx=>by
 rcases HY hx with z|z;·exact h.col x z
 ·rw[z];exact⟨h0,h1⟩,h.low,h.high⟩
theorem xR{x:Tx}{i c:Nat}(h:i<x.length):x.take i++[c]++x.drop (i+1)=x.set i c:=by
 rw[List.set_eq_take_append_cons_drop,if_pos h];simp
theorem zA{t:Cd}(h:Card t){i:Nat}(hi:i<4)(c:Nat):((((rm t.2.1 none<|some (i:Int)).bind fun y83=>j6 y83 [c]).bind fun y84=>(rm t.2.1 (some<|(i:Int)+(1:Int)) none).bind fun y85=>j6 y84 y85).bind fun y86=>CJ (t.1,y86,t.2.2))=.ok (xQ t i c):=by
 have hl:t.2.1.length<=100000:=by rw[h.four];decide
 rw[qh hl,nr,CF,je (by simp;have:=h.four;omega),CF,show(i:Int)+1=((i+1:Nat):Int)from rfl,qh hl,u6,CF,je (by simp;have:=h.four;omega),CF,xR (by rw[h.four];exact hi)];rfl
theorem zB(cell:Int)(l:List Int){t:Cd}(h:Card t){i:Nat}(hi:i<4):∃t',zT cell l (i:Int) t=.ok t'/\Card t'/\(t'=t\/((i:Int)∉l/\∃c,t'=xQ t i c)):=by
 unfold zT;by_cases z:(i:Int)∈l;·rw[if_neg (by simp[z])];exact⟨t,rfl,h,.inl rfl⟩
 ·rw[if_pos (by simp[z]),ni (by omega) (by omega)];simp only[CF];obtain⟨c,e,h0,h1⟩:=zz ((cell/16+5*(i:Int))%26) (DW _ (by decide)) (DN _ (by decide));rw[e];simp only[CF];have:=zA h hi c;rw[this];exact⟨_,rfl,h.dye i h0 h1,.inr ⟨z,c,rfl⟩⟩
theorem zC{t:Cd}(h:Card t){x:Tx}(hx:gz x)(hl:x.length<=900)(cell:Int):(xA t x cell).Ok fun r=>Card r.1/\gz r.2/\r.2.length=x.length:=by
 unfold xA Bb;refine ja<|EU (P:=fun r:Cd×Tx=>Card r.1/\gz r.2/\r.2.length=x.length) (om (fun _=>?_) fun _=>gq ⟨h,hx,rfl⟩) fun r⟨h1,h2,h3⟩=>?_
 ·rw[o6 h,CF,xO hx (by omega),CF];exact⟨h.flip,pI hx,by simp⟩
 ·rw[xN h1,CF];have hr:=h1.roll<|cell/2%4;generalize qN r.1 (cell/2%4)=R at hr ⊢;refine ja<|EU (P:=Card) (om (fun _=>?_) fun _=>gq hr) fun c hc=>gq ⟨hc,h2,h3⟩;obtain⟨l,el,_⟩:=xP hr h2 (by omega);rw[el,CF,show gf (4:Int)=CJ ((DY 4).map fun(i:Nat)=>(i:Int))from rfl,CF];obtain⟨s,es,hs⟩:=cY (f:=zT cell l) (fun pre s=>Card s) ((DY 4).map fun(i:Nat)=>(i:Int)) R hr (by
   intro pre a post s e hs;have ha:a∈(DY 4).map fun(i:Nat)=>(i:Int):=by rw[e];simp
   obtain⟨i,hi,rfl⟩:=Dw.mp ha;obtain⟨t',e',h',_⟩:=zB cell l hs (Gd.mp hi);exact⟨t',e',h'⟩)
  rw[es];exact hs
theorem xT{s:List Int}(hs:s.length<=63)(most:Nat)(hm:most<=24):(w5 s (most:Int)).Ok fun r=>Card r.1/\(∃n,n<=60/\Marks n r.2.1)/\0<=r.2.2/\r.2.2<4:=by
 unfold w5 Bc;obtain⟨c0,e0⟩:=lq hs 0 (by decide);obtain⟨c1,e1⟩:=lq hs 1 (by decide);obtain⟨c2,e2⟩:=lq hs 2 (by decide);obtain⟨c3,e3⟩:=lq hs 3 (by decide);obtain⟨c4,e4⟩:=lq hs 4 (by decide);obtain⟨t,et,ht⟩:=qL c0;rw[show iX s 0=.ok c0 from e0,show iX s 1=.ok c1 from e1,show iX s 2=.ok c2 from e2,show iX s 3=.ok c3 from e3,show iX s 4=.ok c4 from e4];simp only[CF,et];rw[i3 (by omega),CF];have z0:=DW c2 (show(most:Int)+1≠0 by omega);have z1:=DN c2 (show(0:Int)<(most:Int)+1 by omega);refine ja (EU (P:=fun d=>0<=d/\d<=60) (om (fun _=>gq ⟨by omega,by omega⟩) fun _=>gq ⟨z0,by omega⟩) fun d1 hd1=>?_);refine ja (EU (P:=fun d=>0<=d/\d<=60) (om (fun _=>gq ⟨by omega,by omega⟩) fun _=>gq hd1) fun d2 hd2=>?_);obtain⟨n,rfl⟩:∃n:Nat,d2=(n:Int):=⟨d2.toNat,by omega⟩
 obtain⟨x,ex,hxl,hx⟩:=vC c1 n (by omega);rw[ex];simp only[CF,sq ht hx (show x.length<=10000 by omega)];have hw:=mw ht x;have hpl:=pG t x;refine ja<|EU (P:=Marks n) (om (fun z=>?_) fun _=>?_) fun l hl=>?_
 ·refine ja (EU (xM hw (by omega) (by omega) c3) fun r hr=>gq ?_);rw[hpl,hxl]at hr;exact hr
 ·refine ja (EU (vI hw (by omega) (c3/ 3) _) fun r hr=>gq ?_);rw[hpl,hxl]at hr;exact hr
 ·refine ja<|EU (P:=Card) (om (fun _=>?_) fun _=>gq ht) fun t1 h1=>?_;·exact ja (ja ((zC ht hx (by omega) _).imp fun r hr=>gq<|gq hr.1))
  ·refine ja<|EU (P:=Card) (om (fun _=>?_) fun _=>gq h1) fun t2 h2=>?_
   ·obtain⟨t',e',h'⟩:=qL<|c4/ 4/ 6;rw[e'];exact h'
   ·exact⟨h2,⟨n,by omega,hl⟩,(fg _).1,(fg _).2⟩
def standAt(t:Cd)(i:Int):Cd:=(t.1,t.2.1,(if t.1=[83]then t.2.2+i else t.2.2-i)%4)
def fits(p m:Pl):Bool:=(decide (m.1=[63])||decide (m.1=p.1))&&((decide (m.2.1=[63])||decide (m.2.1=p.2.1))&&(decide (m.2.2=[63])||decide (m.2.2=p.2.2)))
theorem Card.standAt{t:Cd}(h:Card t)(i:Int):Card (standAt t i):=⟨h.lay,h.four,h.col,(fg _).1,(fg _).2⟩
theorem zD{t:Cd}(h:Card t):ip t=.ok [dC t t.2.2]:=by
 unfold ip qH;rw[show t.2.2%4=t.2.2 from Int.emod_eq_of_lt h.low h.high,dA h h.low h.high]
theorem su{t:Cd}(h:Card t):xD t=.ok [dC t ((t.2.2+2)%4)]:=by
 unfold xD Bi;rw[dA h (fg _).1 (fg _).2]
theorem iY{t:Cd}{c:Nat}(h:bH c):pD t [c]=.ok (tw t c):=by
 unfold pD Bf;have e:getD ([([102],1),([98],(-1)),([105],0)]:List (Tx×Int)) [c]=.ok (go c):=by rcases h with rfl|rfl|rfl<;>rfl
 rw[e,CF];by_cases z:t.1=[83]
 ·rw[if_pos (by simpa using z)];unfold tw;rw[if_pos z]
 ·rw[if_neg (by simpa using z)];unfold tw;rw[if_neg z]
theorem sv{i:Int}(h: -1<=i/\i<=1):getD ([(1,[115]),((-1),[122]),(0,[111])]:List (Int×Tx)) i=.ok [nV i]:=by
 have:i= -1\/i=0\/i=1:=by omega
 rcases this with rfl|rfl|rfl<;>rfl
theorem xV{t:Cd}(h:Card t){c:Nat}(hc:bH c):xE t [c]=.ok (place t c):=by
 unfold xE Bj;simp only[zD h,su h,iY hc,CF,sv<|vD t c];rfl
theorem pJ(t:Cd)(i:Int):xC t i=.ok (standAt t i):=by
 unfold xC Bh standAt;by_cases z:t.1=[83]
 ·rw[if_pos (by simpa using z),if_pos z];rfl
 ·rw[if_neg (by simpa using z),if_neg z];rfl
theorem vM(a b:Tx):w8 a b=.ok (decide (b=[63])||decide (b=a)):=by
 unfold w8 Bk;by_cases z:b=[63]
 ·rw[if_pos (by simpa using z),decide_eq_true z];rfl
 ·rw[if_neg (by simpa using z),decide_eq_false z];rfl
theorem sx(p m:Pl):xF p m=.ok (fits p m):=by
 unfold xF Bl;rw[fk (g:=fun a1:Tx×Tx=>decide (a1.2=[63])||decide (a1.2=a1.1)) (by show 3<=100000;decide)<|fun x _=>vM x.1 x.2,CF];congr 1;simp[fits]
theorem sy{t:Cd}(h:Card t)(s:Int×Int){c:Nat}(hc:bH c)(m:Pl):vp t s [c] m=.ok (fits (place (standAt t s.1) c) m):=by
 unfold vp Bm;simp only[pJ,CF,xV (h.standAt _) hc,sx]
def aj(t:Cd)(s:Int×Int)(c:Nat):Int×Int:=(s.1+tw t c,if c=105 then s.2+1 else 0)
theorem vN{t:Cd}(s:Int×Int){c:Nat}(hc:bH c):w6 t s [c]=.ok (aj t s c):=by
 unfold w6 Bg aj;simp only[iY hc,CF];by_cases z:c=105;·rw[if_pos (by simp[z]),if_pos z];rfl
 ·rw[if_neg (by simp[z]),if_neg z];rfl
def dP(s:Int×Int)(loose bound:Int):Bool:=decide (eu s.1<=bound)&&decide (s.2<=loose)
theorem lx(s:Int×Int)(loose bound:Int):nS s loose bound=.ok (dP s loose bound):=by
 unfold nS Be dP;by_cases z:eu s.1<=bound;·rw[if_pos (by simpa using z),decide_eq_true z];rfl
 ·rw[if_neg (by simpa using z),decide_eq_false z];rfl
def cT(t:Cd)(loose bound:Int)(s:Int×Int)(c:Nat)(m:Pl):Bool:=dP (aj t s c) loose bound&&fits (place (standAt t (aj t s c).1) c) m
theorem absI_le{i b:Int}:eu i<=b↔ -b<=i/\i<=b:=by unfold eu;split<;>omega
def ir(t:Cd)(mk:Pl)(loose bound:Int)(s:Int×Int):List Nat:=[102,98,105].filter fun c=>cT t loose bound s c mk
theorem mem_onw{t:Cd}{mk:Pl}{loose bound:Int}{s:Int×Int}{c:Nat}:c∈ir t mk loose bound s↔bH c/\cT t loose bound s c mk=true:=by
 unfold ir;rw[J3];simp[bH]
theorem iQ{t:Cd}(h:Card t)(mk:Pl)(loose bound:Int)(s:Int×Int):gJ t mk loose bound s=.ok ((ir t mk loose bound s).map fun c=>([c],aj t s c)):=by
 unfold gJ Bn ir;rw[fk (g:=fun a:Tx=>(a,aj t s<|a.headD 0)) (by show 3<=100000;decide) (fun a ha=>by
  obtain⟨c,hc,rfl⟩:=gF ha;have ht:bH c:=by simpa [bH] using hc
  rw[vN s ht];rfl),CF]
 rw[u4 (g:=fun a:Tx×(Int×Int)=>if cT t loose bound s (a.1.headD 0) mk=true then some a else none) (by show 3<=100000;decide) (fun a ha=>by
  obtain⟨x,hx,rfl⟩:=Dw.mp ha;obtain⟨c,hc,rfl⟩:=gF hx;have ht:bH c:=by simpa [bH] using hc
  show((nS (aj t s c) loose bound).bind fun y=>if y then vp t (aj t s c) [c] mk else CJ false).bind (fun y=>if y then CJ (some ([c],aj t s c))else CJ none)=_;rw[lx,CF,sy h _ ht];show _=CJ (if cT t loose bound s c mk=true then some ([c],aj t s c)else none);unfold cT;cases dP (aj t s c) loose bound<;>cases fits (place (standAt t (aj t s c).1) c) mk<;>rfl)]
 show CJ (List.filterMap _ [([102],aj t s 102),([98],aj t s 98),([105],aj t s 105)])=_;cases h1:cT t loose bound s 102 mk<;>cases h2:cT t loose bound s 98 mk<;>cases h3:cT t loose bound s 105 mk<;>simp[h1,h2,h3]
theorem pK:∀(n:Nat)(l:List Nat),l.Nodup->(∀x∈l,x<n)->l.length<=n
 |0,l,_,h=>by
  cases l with
  |nil=>simp
  |cons a l=>exact absurd (h a<|Dc ..) (by omega)
 |n+1,l,nd,h=>by
  by_cases z:n∈l
  ·have:=pK n (l.erase n) (nd.erase n) fun x hx=>by
    have h1:=h x<|GX hx;have h2:x≠n:=fun e=>by subst e;exact(Gv nd) hx
    omega
   rw[Gw z]at this;omega
  ·have:=pK n l nd fun x hx=>by
    have h1:=h x hx;have h2:x≠n:=fun e=>z<|e▸hx;omega
   omega
theorem jm{α:Type}(pre:List α)(a:α):fj (pre++[a]) (-(1:Int))=.ok a:=by
 have e:q0 (pre++[a]) (-1)=some a:=by
  unfold q0 ixN;rw[if_neg (by decide),if_pos (by simp;omega)];show(pre++[a])[_]? =some a;have:(-1+((pre++[a]).length:Int)).toNat=pre.length:=by simp;omega
  rw[this];simp
 unfold fj;rw[e];rfl
def jn(p:Int×Int):Prop:= -60<=p.1/\p.1<=60/\0<=p.2/\p.2<=3
theorem gK{l:List (Int×Int)}(nd:l.Nodup)(h:∀p∈l,jn p):l.length<=484:=by
 have nd2:(l.map fun p=>((p.1+60)*4+p.2).toNat).Nodup:=by
  rw[DQ,FE];refine(DQ.mp nd).imp_of_mem fun{a b}ha hb hne e=>hne ?_;have h1:=h a ha;have h2:=h b hb;unfold jn at h1 h2;exact HK (by omega) (by omega)
 have:=pK 484 _ nd2 fun x hx=>by
  obtain⟨p,hp,rfl⟩:=Dw.mp hx;have h1:=h p hp;unfold jn at h1;omega
 simpa using this
theorem my{t:Cd}{mk:Pl}{loose bound:Int}(hl:loose<=3)(hb:bound<=60){s:Int×Int}(hs:jn s){c:Nat}(h:cT t loose bound s c mk=true):jn (aj t s c):=by
 unfold cT dP at h;simp only[Ha,decide_eq_true_eq]at h;have h1:=absI_le.mp h.1.1;have h2:=h.1.2;unfold jn at hs ⊢;refine⟨by omega,by omega,?_,by omega⟩;unfold aj;dsimp only;split<;>omega
def Nx(t:Cd)(mk:Pl)(loose bound:Int)(l:List (Int×Int))(p:Int×Int):Prop:=∃s∈l,∃c,bH c/\cT t loose bound s c mk=true/\p=aj t s c
theorem Nx.inb{t:Cd}{mk:Pl}{loose bound:Int}(hl:loose<=3)(hb:bound<=60){l:List (Int×Int)}(h:∀p∈l,jn p){p:Int×Int}(n:Nx t mk loose bound l p):jn p:=by
 obtain⟨s,hs,c,_,hm,rfl⟩:=n;exact my hl hb (h s hs) hm
theorem vO{t:Cd}{mk:Pl}{loose bound:Int}{p:Int×Int}:¬Nx t mk loose bound [] p:=fun⟨s,hs,_⟩=>by cases hs
theorem qP{t:Cd}{mk:Pl}{loose bound:Int}{l:List (Int×Int)}{a p:Int×Int}:Nx t mk loose bound (l++[a]) p↔Nx t mk loose bound l p\/∃c∈ir t mk loose bound a,p=aj t a c:=by
 constructor
 ·rintro ⟨q,hq,c,hc,hm,rfl⟩;rcases DF.mp hq with hq|hq;·exact .inl ⟨q,hq,c,hc,hm,rfl⟩
  ·have:q=a:=by simpa using hq
   subst this;exact .inr ⟨c,mem_onw.mpr ⟨hc,hm⟩,rfl⟩
 ·rintro (⟨q,hq,z⟩ | ⟨c,hc,rfl⟩);·exact⟨q,by simp[hq],z⟩
  ·exact⟨a,by simp,c,(mem_onw.mp hc).1,(mem_onw.mp hc).2,rfl⟩
def mC(ks:List (Int×Int))(k:Int×Int):List (Int×Int):=if k∈ks then ks else k::ks
theorem addP_mem{ks:List (Int×Int)}{k p:Int×Int}:p∈mC ks k↔p∈ks\/p=k:=by
 unfold mC;split
 ·rename_i z;exact⟨.inl,fun h=>h.elim id fun e=>e▸z⟩
 ·rw[De];exact⟨fun h=>h.symm,fun h=>h.symm⟩
theorem qQ{ks:List (Int×Int)}(h:ks.Nodup)(k:Int×Int):(mC ks k).Nodup:=by
 unfold mC;split;·exact h
 ·rename_i z;exact EW.mpr ⟨z,h⟩
def sA(l ks:List (Int×Int)):List (Int×Int):=l.foldl mC ks
theorem iu:∀(l ks:List (Int×Int)),ks.Nodup->(sA l ks).Nodup/\∀p,p∈sA l ks↔p∈ks\/p∈l
 | [],ks,h=>⟨h,fun p=>by simp[sA]⟩
 |a::l,ks,h=>by
  have ih:=iu l (mC ks a)<|qQ h a;refine⟨ih.1,fun p=>?_⟩;show p∈sA l (mC ks a)↔_;rw[ih.2,addP_mem,De,or_assoc]
def fV(t:Cd)(mk:Pl)(loose bound:Int)(l:List (Int×Int)):List (Int×Int):=du<|sA (l.flatMap fun s=>(ir t mk loose bound s).map (aj t s)) []
theorem o7{t:Cd}{mk:Pl}{loose bound:Int}{l:List (Int×Int)}{p:Int×Int}:p∈(l.flatMap fun s=>(ir t mk loose bound s).map (aj t s))↔Nx t mk loose bound l p:=by
 rw[List.mem_flatMap];constructor
 ·rintro ⟨s,hs,h⟩;obtain⟨c,hc,rfl⟩:=Dw.mp h;exact⟨s,hs,c,(mem_onw.mp hc).1,(mem_onw.mp hc).2,rfl⟩
 ·rintro ⟨s,hs,c,h1,h2,rfl⟩;exact⟨s,hs,Dw.mpr ⟨c,mem_onw.mpr ⟨h1,h2⟩,rfl⟩⟩
theorem mem_nxt{t:Cd}{mk:Pl}{loose bound:Int}{l:List (Int×Int)}{p:Int×Int}:p∈fV t mk loose bound l↔Nx t mk loose bound l p:=by
 unfold fV;rw[(dv _).mem_iff,(iu _ [] Gj).2,o7];simp
theorem pL{t:Cd}{mk:Pl}{loose bound:Int}{l S:List (Int×Int)}(nd:S.Nodup)(h:∀p,p∈S↔Nx t mk loose bound l p):du S=fV t mk loose bound l:=by
 refine gV ((dv S).trans ?_)<|jY S;have g:=iu (l.flatMap fun s=>(ir t mk loose bound s).map (aj t s)) [] Gj;exact(List.perm_ext_iff_of_nodup nd g.1).mpr fun p=>by rw[h,g.2,o7];simp
theorem vP(ys:List (Tx×(Int×Int)))(s0:List (Int×Int))(nd:s0.Nodup)(h0:∀p∈s0,jn p)(hy:∀a∈ys,jn a.2):
  bE (fun(a:Tx×(Int×Int))(s:List (Int×Int))=>rJ s a.2) ys s0=.ok (sA (ys.map (·.2)) s0):=by
 induction ys generalizing s0 with
 |nil=>rfl
 |cons a ys ih=>
  have hl:=gK nd h0;show(rJ s0 a.2).bind _=_;rw[show rJ s0 a.2=.ok (mC s0 a.2)from bw (by omega),CF];exact ih (mC s0 a.2) (qQ nd _) (fun p hp=>by
   rcases addP_mem.mp hp with z|z;·exact h0 p z
   ·rw[z];exact hy a (Dc ..)) fun b hb=>hy b (Df _ hb)
theorem vQ{t:Cd}(h:Card t)(mk:Pl){loose bound:Int}(hl:loose<=3)(hb:bound<=60){states:List (Int×Int)}(hs:∀p∈states,jn p):pE t mk loose bound states=.ok (fV t mk loose bound states):=by
 unfold pE Bo;obtain⟨s,e,h1,h2⟩:=cY (f:=fun(a:Int×Int)(s:List (Int×Int))=>(gJ t mk loose bound a).bind fun y=>bE (fun(a:Tx×(Int×Int))(s:List (Int×Int))=>rJ s a.2) y s)
  (fun pre s=>s.Nodup/\∀p,p∈s↔Nx t mk loose bound pre p) states [] ⟨Gj,fun p=>⟨fun z=>(by cases z),fun z=>absurd z vO⟩⟩ (by
  intro pre a post s e ⟨h1,h2⟩;have ha:jn a:=hs a (by rw[e];simp);have hp:∀p∈pre,jn p:=fun p hp=>hs p (by rw[e];simp[hp]);rw[iQ h,CF,vP _ s h1 (fun p hq=>((h2 p).mp hq).inb hl hb hp) (fun b hb'=>by
   obtain⟨c,hc,rfl⟩:=Dw.mp hb';exact my hl hb ha (mem_onw.mp hc).2)]
  have g:=iu (((ir t mk loose bound a).map fun c=>(([c]:Tx),aj t a c)).map (·.2)) s h1;refine⟨_,rfl,g.1,fun p=>?_⟩;rw[g.2,h2,qP,EM,Dw];exact or_congr Jz ⟨fun⟨c,h1,h2⟩=>⟨c,h1,h2.symm⟩,fun⟨c,h1,h2⟩=>⟨c,h1,h2.symm⟩⟩)
 have hlen:=gK h1 fun p hp=>((h2 p).mp hp).inb hl hb hs;rw[show bE _ states []=CJ s from e,CF,show ug s=.ok (du s)from bw (by omega),pL h1 h2]
def aU(t:Cd)(loose bound:Int):List Pl->List (Int×Int)->List (List<|Int×Int)
 | [],cur=>[cur]
 |m::r,cur=>match cur with
  | []=>[[]]
  |a::q=>(a::q)::aU t loose bound r (fV t m loose bound (a::q))
theorem sC{t:Cd}{loose bound:Int}(l:List Pl):aU t loose bound l []=[[]]:=by cases l<;>rfl
theorem gA{t:Cd}{loose bound:Int}(l:List Pl)(cur:List (Int×Int)):∃r,aU t loose bound l cur=cur::r:=by
 cases l with
 |nil=>exact⟨_,rfl⟩
 |cons m l=>cases cur with
  |nil=>exact⟨_,rfl⟩
  |cons a q=>exact⟨_,rfl⟩
theorem iw{t:Cd}(h:Card t){loose bound:Int}(hl:loose<=3)(hb:bound<=60):∀(strip:List Pl)(pre:List (List<|Int×Int))(cur:List (Int×Int)),pre.length+strip.length<=1000->(∀p∈cur,jn p)->
  ∃r,hV (yr pE t loose bound) strip (pre++[cur])=.ok r/\(r=.nx (pre++aU t loose bound strip cur)\/r=.rt (pre++aU t loose bound strip cur))
 | [],pre,cur,_,_=>⟨_,rfl,.inl rfl⟩
 |m::strip,pre,cur,hp,hc=>by
  simp only[F5]at hp;show ∃r,(yr pE t loose bound m<|pre++[cur]).bind _=.ok r/\_;cases cur with
  |nil=>
   refine⟨.rt<|pre++[[]],?_,.inr rfl⟩;unfold yr;rw[jm];rfl
  |cons a q=>
   have e1:yr pE t loose bound m (pre++[a::q])=.ok (.nx<|pre++[a::q]++[fV t m loose bound (a::q)]):=by
    unfold yr;rw[jm,CF,CF,if_neg (by simp),CF,vQ h m hl hb hc,CF,dt (by simp;omega)];rfl
   rw[e1,CF];obtain⟨r,er,hr⟩:=iw h hl hb strip (pre++[a::q]) (fV t m loose bound (a::q)) (by simp;omega)<|fun p hp=>(mem_nxt.mp hp).inb hl hb hc;refine⟨r,er,?_⟩;have e2:pre++aU t loose bound (m::strip) (a::q)=pre++[a::q]++aU t loose bound strip (fV t m loose bound (a::q)):=by
    rw[Dg];rfl
   rw[e2];exact hr
theorem vR:∀p∈[((0:Int),(0:Int))],jn p:=fun p hp=>by
 have:p=(0,0):=by simpa using hp
 subst this;exact⟨by decide,by decide,by decide,by decide⟩
theorem jo{t:Cd}(h:Card t){loose bound:Int}(h0:0<=loose)(h1:0<=bound)(hl:loose<=3)(hb:bound<=60)(strip:List Pl)(hs:strip.length<=1000):iy t strip loose bound=.ok (aU t loose bound strip [(0,0)]):=by
 unfold iy Bp;have w:dP (0,0) loose bound=true:=by
  unfold dP eu;simp;omega
 rw[lx,w,CF,if_pos rfl,CF,CF];obtain⟨r,er,hr⟩:=iw h hl hb strip [] [(0,0)] (by simpa using hs) vR;rw[show hV _ strip [[((0:Int),(0:Int))]]=CJ r from er,CF];rcases hr with rfl|rfl<;>rfl
theorem xW(p m:Pl)(b:Bool):bE w9 ([p.1,p.2.1,p.2.2].zip [m.1,m.2.1,m.2.2]) b=.ok (b&&fits p m):=by
 have e:∀(a:Tx×Tx)(b:Bool),w9 a b=.ok (b&&(decide (a.2=[63])||decide (a.2=a.1))):=fun a b=>by
  unfold w9;by_cases z:a.2=[63]
  ·simp[z]
  ·by_cases y:a.2=a.1;·simp[z,y]
   ·simp[z,y]
 show(w9 (p.1,m.1) b).bind (fun s=>(w9 (p.2.1,m.2.1) s).bind fun s=>(w9 (p.2.2,m.2.2) s).bind fun s=>CJ s)=_;simp only[e,CF];unfold fits;rw[Le,Le]
theorem mD{t:Cd}(h:Card t)(mk:Pl)(loose bound:Int)(s:Int×Int){c:Nat}(hc:bH c)(out:List (Int×Int))(ho:out.length<=1000):yt iP t mk loose bound s [c] out=.ok (if cT t loose bound s c mk=true then out++[aj t s c]else out):=by
 unfold yt;rw[nW hc,CF,nj (by split<;>decide) (by split<;>decide),CF];have e:(s.2+1)*(if decide (([c]:Tx)=[105])=true then(1:Int)else 0)=(aj t s c).2:=by
  unfold aj;by_cases z:c=105;·simp[z]
  ·simp[z]
 have eh:(if decide (t.1=([90]:Tx))=true then CJ ((t.2.2-(s.1+tw t c))%4)else CJ ((t.2.2+(s.1+tw t c))%4):Res Int)=.ok (standAt t (aj t s c).1).2.2:=by
  unfold standAt aj;dsimp only;rcases h.lay with z|z
  ·rw[z];rfl
  ·rw[z];rfl
 rw[e,eh,CF];have hc2:=h.standAt (aj t s c).1;have ew:(if decide (eu (s.1+tw t c)<=bound)=true then CJ (decide<|(aj t s c).2<=loose)else CJ false:Res Bool)=.ok (dP (aj t s c) loose bound):=by
  unfold dP;show(if decide (eu (aj t s c).1<=bound)=true then _ else _)=_;cases decide (eu (aj t s c).1<=bound)<;>rfl
 rw[ew,CF];rw[show fe t.2.1 (standAt t (aj t s c).1).2.2=.ok [dC (standAt t (aj t s c).1) (standAt t (aj t s c).1).2.2]from dA hc2 hc2.low hc2.high,CF];rw[show fe t.2.1 (((standAt t (aj t s c).1).2.2+2)%4)=.ok [dC (standAt t (aj t s c).1) (((standAt t (aj t s c).1).2.2+2)%4)]from dA hc2 (fg _).1 (fg _).2,CF];rw[vE<|vD t c,CF,CF,CF,CF];show((bE w9 ([(place (standAt t (aj t s c).1) c).1,(place (standAt t (aj t s c).1) c).2.1,(place (standAt t (aj t s c).1) c).2.2].zip [mk.1,mk.2.1,mk.2.2])<|dP (aj t s c) loose bound).bind fun g=>(if g=true then(dB out<|aj t s c).bind fun y=>CJ y else CJ out:Res (List<|Int×Int)).bind fun s=>CJ s)=_;rw[xW,CF];show((if cT t loose bound s c mk=true then(dB out<|aj t s c).bind fun y=>CJ y else CJ out:Res (List<|Int×Int)).bind fun s=>CJ s)=_;cases cT t loose bound s c mk with
 |false=>rfl
 |true=>rw[if_pos rfl,if_pos rfl,dt (by omega)];rfl
theorem xX{t:Cd}(h:Card t)(mk:Pl)(loose bound:Int)(s:Int×Int):mq t mk loose bound s=.ok ((ir t mk loose bound s).map (aj t s)):=by
 unfold mq Br;show((yt iP t mk loose bound s [102] []).bind fun s1=>(yt iP t mk loose bound s [98] s1).bind fun s1=>(yt iP t mk loose bound s [105] s1).bind fun s1=>CJ s1).bind (fun s1=>CJ s1)=_;rw[mD h mk loose bound s (.inl rfl) [] (by decide),CF,mD h mk loose bound s (.inr<|.inl rfl) _ (by split<;>simp),CF,mD h mk loose bound s (.inr<|.inr rfl) _ (by split<;>split<;>simp),CF,CF];unfold ir;cases h1:cT t loose bound s 102 mk<;>cases h2:cT t loose bound s 98 mk<;>cases h3:cT t loose bound s 105 mk<;>simp[h1,h2,h3]
theorem vS(kvs:List ((Int×Int)×Bool))(k:Int×Int):(i4 kvs k true).map (·.1)=if k∈kvs.map (·.1)then kvs.map (·.1)else kvs.map (·.1)++[k]:=by
 unfold i4;by_cases z:k∈kvs.map (·.1)
 ·have:(kvs.any fun kv=>decide<|kv.1=k)=true:=by
   obtain⟨kv,h1,h2⟩:=Dw.mp z;exact IK.mpr ⟨kv,h1,by simpa using h2⟩
  rw[if_pos this,if_pos z,EM];refine JB fun kv _=>?_;show(if kv.1=k then(kv.1,true)else kv).1=kv.1;split<;>rfl
 ·have:¬(kvs.any fun kv=>decide<|kv.1=k)=true:=fun y=>by
   obtain⟨kv,h1,h2⟩:=IK.mp y;exact z (Dw.mpr ⟨kv,h1,by simpa using h2⟩)
  rw[if_neg this,if_neg z];simp
def Ks(kvs:List ((Int×Int)×Bool))(P:Int×Int->Prop):Prop:=(kvs.map (·.1)).Nodup/\∀p,p∈kvs.map (·.1)↔P p
theorem Ks.put{kvs:List ((Int×Int)×Bool)}{P:Int×Int->Prop}(h:Ks kvs P)(k:Int×Int):Ks (i4 kvs k true) fun p=>P p\/p=k:=by
 unfold Ks;rw[vS];by_cases z:k∈kvs.map (·.1)
 ·rw[if_pos z];exact⟨h.1,fun p=>by rw[h.2];exact⟨.inl,fun y=>y.elim id fun e=>by rw[e];exact(h.2 k).mp z⟩⟩
 ·rw[if_neg z];refine⟨Im.mpr ⟨h.1,by simp,fun a ha b hb e=>?_⟩,fun p=>by rw[DF,h.2];simp⟩;have:b=k:=by simpa using hb
  subst this;subst e;exact z ha
theorem Ks.len{kvs:List ((Int×Int)×Bool)}{P:Int×Int->Prop}(h:Ks kvs P)(hb:∀p,P p->jn p):kvs.length<=484:=by
 have:=gK h.1 fun p hp=>hb p<|(h.2 p).mp hp;simpa using this
theorem Ks.iff{kvs:List ((Int×Int)×Bool)}{P Q:Int×Int->Prop}(h:Ks kvs P)(e:∀p,P p↔Q p):Ks kvs Q:=⟨h.1,fun p=>(h.2 p).trans (e p)⟩
theorem o8:∀(ys:List (Int×Int))(kvs:List ((Int×Int)×Bool))(P:Int×Int->Prop),Ks kvs P->(∀p,P p->jn p)->(∀p∈ys,jn p)->∃kvs',bE zu ys kvs=.ok kvs'/\Ks kvs' fun p=>P p\/p∈ys
 | [],kvs,P,h,_,_=>⟨kvs,rfl,h.iff fun p=>by simp⟩
 |a::ys,kvs,P,h,hP,hy=>by
  have hl:=h.len hP;have e:zu a kvs=.ok (i4 kvs a true):=by
   unfold zu;rw[show gR kvs a true=.ok (i4 kvs a true)from bw (by omega)];rfl
  obtain⟨k',e',h'⟩:=o8 ys (i4 kvs a true) _ (h.put a) (fun p hp=>hp.elim (hP p) fun e=>by rw[e];exact hy a<|Dc ..) fun p hp=>hy p<|Df _ hp;refine⟨k',?_,h'.iff fun p=>by rw[De,or_assoc]⟩;show(zu a kvs).bind _=_;rw[e,CF];exact e'
theorem vT{t:Cd}(h:Card t)(mk:Pl){loose bound:Int}(hl:loose<=3)(hb:bound<=60){pre:List (List<|Int×Int)}(hp:pre.length<=1000){cur:List (Int×Int)}(hs:∀p∈cur,jn p):zw mq t loose bound mk (pre++[cur])=.ok (if fV t mk loose bound cur=[]then .rt (pre++[cur]++[fV t mk loose bound cur])else .nx (pre++[cur]++[fV t mk loose bound cur])):=by
 unfold zw;rw[jm,CF];obtain⟨s,e,h1⟩:=cY (f:=AE mq t loose bound mk) (fun pre s=>Ks s<|Nx t mk loose bound pre) cur [] ⟨Gj,fun p=>⟨fun z=>(by cases z),fun z=>absurd z vO⟩⟩ (by
  intro pre a post s e h1;have ha:jn a:=hs a (by rw[e];simp);have hq:∀p∈pre,jn p:=fun p hp=>hs p (by rw[e];simp[hp]);unfold AE;rw[xX h mk loose bound _,CF];obtain⟨s',e',h'⟩:=o8 ((ir t mk loose bound a).map (aj t a)) s _ h1 (fun p n=>n.inb hl hb hq) (fun p hp=>by
   obtain⟨c,hc,rfl⟩:=Dw.mp hp;exact my hl hb ha (mem_onw.mp hc).2)
  rw[e',CF];exact⟨s',rfl,h'.iff fun p=>by
   rw[qP,Dw];exact or_congr Jz ⟨fun⟨c,h1,h2⟩=>⟨c,h1,h2.symm⟩,fun⟨c,h1,h2⟩=>⟨c,h1,h2.symm⟩⟩⟩)
 have hlen:=h1.len fun p n=>n.inb hl hb hs;rw[show bE _ cur []=CJ s from e,CF,show uN (s.map (·.1))=.ok (du (s.map (·.1)))from bw ⟨by rw[D5];omega,h1.1⟩,pL h1.1 h1.2,CF,dt (by simp;omega),CF];have el:(fV t mk loose bound cur).length=s.length:=by
  rw[<-pL h1.1 h1.2,(dv _).length_eq,D5]
 by_cases z:fV t mk loose bound cur=[]
 ·rw[if_pos z,if_pos (by rw[z]at el;simp at el;simp[<-el])]
 ·rw[if_neg z,if_neg (fun y=>z (by
   have:s.length=0:=by simpa using y
   exact FN.mp (by omega)))]
theorem kG{t:Cd}(h:Card t){loose bound:Int}(hl:loose<=3)(hb:bound<=60):∀(strip:List Pl)(pre:List (List<|Int×Int))(cur:List (Int×Int)),cur≠[]->pre.length+strip.length<=1000->(∀p∈cur,jn p)->
  ∃r,hV (zw mq t loose bound) strip (pre++[cur])=.ok r/\(r=.nx (pre++aU t loose bound strip cur)\/r=.rt (pre++aU t loose bound strip cur))
 | [],pre,cur,_,_,_=>⟨_,rfl,.inl rfl⟩
 |m::strip,pre,[],hn,hp,hc=>absurd rfl hn
 |m::strip,pre,a::q,hn,hp,hc=>by
  simp only[F5]at hp;show ∃r,(zw mq t loose bound m<|pre++[a::q]).bind _=.ok r/\_;rw[vT h m hl hb (by omega) hc,CF];have e2:pre++aU t loose bound (m::strip) (a::q)=pre++[a::q]++aU t loose bound strip (fV t m loose bound (a::q)):=by
   rw[Dg];rfl
  rw[e2];by_cases z:fV t m loose bound (a::q)=[]
  ·rw[if_pos z,z,sC];exact⟨_,rfl,.inr rfl⟩
  ·rw[if_neg z];exact kG h hl hb strip (pre++[a::q]) (fV t m loose bound (a::q)) z (by simp;omega) fun p hp=>(mem_nxt.mp hp).inb hl hb hc
theorem o9{t:Cd}(h:Card t){loose bound:Int}(hl:loose<=3)(hb:bound<=60)(strip:List Pl)(hs:strip.length<=1000):sk t strip loose bound=.ok (aU t loose bound strip [(0,0)]):=by
 unfold sk Bs;obtain⟨r,er,hr⟩:=kG h hl hb strip [] [(0,0)] (by simp) (by simpa using hs) vR;rw[show hV _ strip [[((0:Int),(0:Int))]]=CJ r from er,CF];rcases hr with rfl|rfl<;>rfl
def cnt(t:Cd)(loose bound:Int):List Pl->Int×Int->Int
 | [],_=>1
 |m::r,s=>((ir t m loose bound s).map fun c=>cnt t loose bound r<|aj t s c).sum
def vU(b:Bool)(i:Int):Int:=if b=true then i else 0
theorem ly{t:Cd}{loose bound:Int}{m:Pl}{r:List Pl}{s:Int×Int}:cnt t loose bound (m::r) s=vU (cT t loose bound s 102 m) (cnt t loose bound r<|aj t s 102)+vU (cT t loose bound s 98 m) (cnt t loose bound r<|aj t s 98)+vU (cT t loose bound s 105 m) (cnt t loose bound r<|aj t s 105):=by
 show((ir t m loose bound s).map fun c=>cnt t loose bound r<|aj t s c).sum=_;unfold ir vU;cases h1:cT t loose bound s 102 m<;>cases h2:cT t loose bound s 98 m<;>cases h3:cT t loose bound s 105 m<;>simp[h1,h2,h3]<;>omega
theorem iR{b:Bool}{i:Int}(h:0<=i):0<=vU b i:=by unfold vU;split<;>omega
theorem gW{t:Cd}{loose bound:Int}:∀(l:List Pl)(s:Int×Int),0<=cnt t loose bound l s
 | [],_=>by show(0:Int)<=1;decide
 |m::r,s=>by
  rw[ly];have h1:=iR (b:=cT t loose bound s 102 m)<|gW (t:=t) (loose:=loose) (bound:=bound) r<|aj t s 102;have h2:=iR (b:=cT t loose bound s 98 m)<|gW (t:=t) (loose:=loose) (bound:=bound) r<|aj t s 98;have h3:=iR (b:=cT t loose bound s 105 m)<|gW (t:=t) (loose:=loose) (bound:=bound) r<|aj t s 105;omega
theorem cnt_pos{t:Cd}{loose bound:Int}{m:Pl}{r:List Pl}{s:Int×Int}:cnt t loose bound (m::r) s=0↔∀c,bH c->cT t loose bound s c m=true->cnt t loose bound r (aj t s c)=0:=by
 rw[ly];have n1:=gW (t:=t) (loose:=loose) (bound:=bound) r<|aj t s 102;have n2:=gW (t:=t) (loose:=loose) (bound:=bound) r<|aj t s 98;have n3:=gW (t:=t) (loose:=loose) (bound:=bound) r<|aj t s 105;have h1:=iR (b:=cT t loose bound s 102 m) n1;have h2:=iR (b:=cT t loose bound s 98 m) n2;have h3:=iR (b:=cT t loose bound s 105 m) n3;constructor
 ·intro h c hc hm;rcases hc with rfl|rfl|rfl
  ·have:vU (cT t loose bound s 102 m) (cnt t loose bound r<|aj t s 102)=0:=by omega
   rw[hm]at this;exact this
  ·have:vU (cT t loose bound s 98 m) (cnt t loose bound r<|aj t s 98)=0:=by omega
   rw[hm]at this;exact this
  ·have:vU (cT t loose bound s 105 m) (cnt t loose bound r<|aj t s 105)=0:=by omega
   rw[hm]at this;exact this
 ·intro h;have key:∀c,bH c->vU (cT t loose bound s c m) (cnt t loose bound r<|aj t s c)=0:=fun c hc=>by
   unfold vU;split;·rename_i z;exact h c hc z
   ·rfl
  rw[key 102<|.inl rfl,key 98<|.inr<|.inl rfl,key 105<|.inr<|.inr rfl];rfl
theorem oa{t:Cd}{loose bound:Int}(l:List Pl)(cur:List (Int×Int)):0<(aU t loose bound l cur).length:=by
 obtain⟨r,hr⟩:=gA (t:=t) (loose:=loose) (bound:=bound) l cur;rw[hr];simp
theorem iS{t:Cd}{loose bound:Int}:∀(l:List Pl)(cur:List (Int×Int)),(aU t loose bound l cur).length<=l.length+1
 | [],cur=>CN _
 |m::r,[]=>by show 1<=_;omega
 |m::r,a::q=>by
  have:=iS (t:=t) (loose:=loose) (bound:=bound) r<|fV t m loose bound (a::q);show(aU t loose bound r<|fV t m loose bound (a::q)).length+1<=r.length+1+1;omega
theorem kH{t:Cd}{loose bound:Int}:∀(l:List Pl)(cur:List (Int×Int))(i:Nat),i+1<(aU t loose bound l cur).length->∃m L,l[i]? =some m/\(aU t loose bound l cur)[i]? =some L/\(aU t loose bound l cur)[i+1]? =some (fV t m loose bound L)
 | [],cur,i,h=>absurd h (by show ¬i+1<1;omega)
 |m::r,[],i,h=>absurd h (by show ¬i+1<1;omega)
 |m::r,a::q,0,h=>by
  obtain⟨z,hz⟩:=gA (t:=t) (loose:=loose) (bound:=bound) r<|fV t m loose bound (a::q);refine⟨m,a::q,rfl,rfl,?_⟩;show(aU t loose bound r<|fV t m loose bound (a::q))[0]? =_;rw[hz];rfl
 |m::r,a::q,i+1,h=>by
  have h':i+1<(aU t loose bound r<|fV t m loose bound (a::q)).length:=by
   have:i+1+1<(aU t loose bound r<|fV t m loose bound (a::q)).length+1:=h;omega
  exact kH r (fV t m loose bound (a::q)) i h'
theorem zE{t:Cd}{m:Pl}{loose bound:Int}{l:List (Int×Int)}:(fV t m loose bound l).Nodup:=(dv _).nodup_iff.mpr (iu _ [] Gj).1
theorem gL{t:Cd}{loose bound:Int}(hl:loose<=3)(hb:bound<=60):∀(l:List Pl)(cur:List (Int×Int)),cur.Nodup->(∀p∈cur,jn p)->∀L∈aU t loose bound l cur,L.Nodup/\∀p∈L,jn p
 | [],cur,h1,h2,L,hL=>by
  have:L=cur:=by simpa [aU] using hL
  rw[this];exact⟨h1,h2⟩
 |m::r,[],h1,h2,L,hL=>by
  have:L=[]:=by simpa [aU] using hL
  rw[this];exact⟨h1,h2⟩
 |m::r,a::q,h1,h2,L,hL=>by
  rcases De.mp (show L∈(a::q)::aU t loose bound r (fV t m loose bound (a::q))from hL)with rfl|hL;·exact⟨h1,h2⟩
  ·exact gL hl hb r _ zE (fun p hp=>(mem_nxt.mp hp).inb hl hb h2) L hL
theorem fL{t:Cd}{loose bound:Int}:∀(l:List Pl)(cur:List (Int×Int)),∃L,(aU t loose bound l cur)[(aU t loose bound l cur).length-1]? =some L/\(L=[]\/(aU t loose bound l cur).length=l.length+1)/\(L=[]↔∀s∈cur,cnt t loose bound l s=0)
 | [],cur=>⟨cur,rfl, .inr rfl,by
  constructor
  ·intro h;rw[h];exact fun s hs=>by cases hs
  ·intro h;cases cur with
   |nil=>rfl
   |cons a q=>exact absurd (h a (Dc ..)) (by show ¬(1:Int)=0;decide)⟩
 |m::r,[]=>⟨[],rfl,.inl rfl,by simp⟩
 |m::r,a::q=>by
  obtain⟨L,h1,h2,h3⟩:=fL (t:=t) (loose:=loose) (bound:=bound) r<|fV t m loose bound (a::q);have hp:=oa (t:=t) (loose:=loose) (bound:=bound) r<|fV t m loose bound (a::q);refine⟨L,?_,?_,?_⟩
  ·show((a::q)::aU t loose bound r (fV t m loose bound (a::q)))[(aU t loose bound r<|fV t m loose bound (a::q)).length+1- 1]? =some L;rw[HU];have e:(aU t loose bound r<|fV t m loose bound (a::q)).length=(aU t loose bound r<|fV t m loose bound (a::q)).length-1+1:=by omega
   rw[e,En];exact h1
  ·refine h2.imp id fun h=>?_;show(aU t loose bound r<|fV t m loose bound (a::q)).length+1=_;rw[h];rfl
  ·rw[h3];constructor
   ·intro h s hs;exact cnt_pos.mpr fun c hc hm=>h _<|mem_nxt.mpr ⟨s,hs,c,hc,hm,rfl⟩
   ·intro h p hp;obtain⟨s,hs,c,hc,hm,rfl⟩:=mem_nxt.mp hp;exact cnt_pos.mp (h s hs) c hc hm
theorem og{α:Type}{xs:List α}{a:α}(h:xs[xs.length-1]? =some a):fj xs (-(1:Int))=.ok a:=by
 have hl:xs.length-1<xs.length:=(CO.mp h).1;have e:q0 xs (-1)=some a:=by
  unfold q0 ixN;rw[if_neg (by decide),if_pos (by omega)];show xs[_]? =some a;have:(-1+(xs.length:Int)).toNat=xs.length-1:=by omega
  rw[this];exact h
 unfold fj;rw[e];rfl
theorem fM{α:Type}{xs:List α}{i:Nat}{a:α}(h:xs[i]? =some a):fj xs (i:Int)=.ok a:=by
 unfold fj;rw[q9 h];rfl
theorem vV{α:Type}{kvs:List ((Int×Int)×α)}{k:Int×Int}{a:α}(h:∀q∈kvs,q.1≠k):i4 kvs k a=kvs++[(k,a)]:=by
 unfold i4;rw[if_neg];intro z;obtain⟨q,h1,h2⟩:=IK.mp z;exact h q h1 (by simpa using h2)
theorem mE{α:Type}{f:Int×Int->List ((Int×Int)×α)->Res (List<|(Int×Int)×α)}{g:Int×Int->α}{ks:List (Int×Int)}(nd:ks.Nodup)(hl:ks.length<=900)(h:∀k∈ks,∀s:List ((Int×Int)×α),f k s=gR s k (g k)):bE f ks []=.ok (ks.map fun k=>(k,g k)):=by
 obtain⟨s,e,h1⟩:=cY (f:=f) (fun pre s=>s=pre.map fun k=>(k,g k)) ks [] rfl (by
  intro pre a post s e h1;have hp:pre.length<=900:=by rw[e]at hl;simp at hl;omega
  rw[h a (by rw[e];simp),h1];refine⟨_,bw (by rw[D5];omega),?_⟩;rw[vV<|fun q hq=>?_];·simp
  ·obtain⟨k,hk,rfl⟩:=Dw.mp hq;intro z;have z:k=a:=z;subst z;rw[e,Im]at nd;exact nd.2.2 k hk k (Dc ..) rfl)
 rw[e,h1]
theorem oh{α:Type}{g:Int×Int->α}{k:Int×Int}:∀{ks:List (Int×Int)},k∈ks->look (ks.map fun k=>(k,g k)) k=some (g k)
 |a::ks,h=>by
  by_cases e:a=k;·subst e;simp[look,EG]
  ·have:k∈ks:=by
    rcases De.mp h with z|z;·exact absurd z.symm e
    ·exact z
   have ih:=oh (g:=g) this;simp only[look,DR,EG,decide_eq_false e]at ih ⊢;exact ih
theorem kI{α:Type}{g:Int×Int->α}{k:Int×Int}{ks:List (Int×Int)}(h:k∈ks):getD (ks.map fun k=>(k,g k)) k=.ok (g k):=by
 unfold getD;rw[oh h];rfl
def dc(t:Cd)(strip:List Pl)(loose bound:Int)(i:Nat):List ((Int×Int)×Int):=((aU t loose bound strip [(0,0)])[i]?.getD []).map fun s=>(s,cnt t loose bound (strip.drop i) s)
theorem vW{t:Cd}(h:Card t){strip:List Pl}{loose bound:Int}(hl:loose<=3)(hb:bound<=60){i:Nat}{m:Pl}{L:List (Int×Int)}(h1:strip[i]? =some m)(h2:(aU t loose bound strip [(0,0)])[i]? =some L)(h3:(aU t loose bound strip [(0,0)])[i+1]? =some (fV t m loose bound L))
  {pre:List (List<|(Int×Int)×Int)} (hp:pre.length<=900):zU gJ t strip loose bound (aU t loose bound strip [(0,0)]) (i:Int) (pre++[dc t strip loose bound (i+1)])=.ok (pre++[dc t strip loose bound (i+1)]++[dc t strip loose bound i]):=by
 have all:=gL (t:=t) hl hb strip [(0,0)] (by simp) vR L<|Dj h2;have len:=gK all.1 all.2;have ed:dc t strip loose bound (i+1)=(fV t m loose bound L).map fun s=>(s,cnt t loose bound (strip.drop<|i+1) s):=by unfold dc;rw[h3];rfl
 have ei:dc t strip loose bound i=L.map fun s=>(s,cnt t loose bound (strip.drop i) s):=by unfold dc;rw[h2];rfl
 have dr:strip.drop i=m::strip.drop (i+1):=by
  obtain⟨hi,e⟩:=CO.mp h1;rw[Ey hi,e]
 unfold zU;rw[jm,CF,fM h2,CF];rw[mE (g:=fun s=>(ir t m loose bound s).map fun c=>(([c]:Tx),aj t s c)) all.1 (by omega) (fun k hk s=>by
  rw[fM h1,CF,iQ h,CF]),CF,EM]
 rw[show MT ((fun x:(Int×Int)×List (Tx×(Int×Int))=>x.1)∘fun k=>(k,(ir t m loose bound k).map fun c=>(([c]:Tx),aj t k c))) L=L from by
  rw[show((fun x:(Int×Int)×List (Tx×(Int×Int))=>x.1)∘fun k=>(k,(ir t m loose bound k).map fun c=>(([c]:Tx),aj t k c)))=id from rfl,Mn]]
 rw[mE (g:=fun s=>cnt t loose bound (strip.drop i) s) all.1 (by omega) (fun k hk s=>by
  rw[kI hk,CF,fk (g:=fun a:Tx×(Int×Int)=>cnt t loose bound (strip.drop<|i+1) a.2) (by rw[D5];unfold ir cap;refine EF (Jl _ _) (by decide)) (fun a ha=>by
   obtain⟨c,hc,rfl⟩:=Dw.mp ha;rw[ed];exact kI (mem_nxt.mpr ⟨k,hk,c,(mem_onw.mp hc).1,(mem_onw.mp hc).2,rfl⟩)),CF,CF,EM]
  congr 1;rw[dr];rfl),CF,dt (by simp;omega),CF,ei]
theorem vX{t:Cd}(h:Card t){strip:List Pl}(hs:strip.length<=60){loose bound:Int}(h0:0<=loose)(hl:loose<=3)(hb0:0<=bound)(hb:bound<=60):∃D,xG t strip loose bound=.ok D/\D.length=(aU t loose bound strip [(0,0)]).length/\∀i,i<D.length->D[i]? =some (dc t strip loose bound i):=by
 unfold xG Bt;rw[jo h h0 hb0 hl hb strip (by omega),CF];obtain⟨L,hL,hE,_⟩:=fL (t:=t) (loose:=loose) (bound:=bound) strip [(0,0)];have hpos:=oa (t:=t) (loose:=loose) (bound:=bound) strip [(0,0)];have hlen:=iS (t:=t) (loose:=loose) (bound:=bound) strip [(0,0)];have all:=gL (t:=t) hl hb strip [(0,0)] (by simp) vR L<|Dj hL;have len:=gK all.1 all.2;obtain⟨k,hk⟩:∃k,(aU t loose bound strip [(0,0)]).length=k+1:=⟨_,(Nat.sub_add_cancel hpos).symm⟩
 rw[hk,HU]at hL;have e1:bE (fun(a:Int×Int)(s:List ((Int×Int)×Int))=>gR s a (1:Int)) L []=.ok (dc t strip loose bound k):=by
  rw[mE (g:=fun _=>(1:Int)) all.1 (by omega)<|fun _ _ _=>rfl];unfold dc;rw[hL];show CJ (L.map _)=CJ (L.map _);rcases hE with rfl|hE
  ·rfl
  ·have:k=strip.length:=by omega
   subst this;rw[FP];rfl
 rw[og (a:=L) (by rw[hk];exact hL),CF,e1,CF,CF];have er:mn (((aU t loose bound strip [(0,0)]).length:Int)-1)=.ok ((DY k).map fun(i:Nat)=>(i:Int)).reverse:=by
  rw[hk];have e:((k+1:Nat):Int)-1=(k:Int):=by omega
  rw[e];unfold mn ff;rw[bw ⟨by omega,by omega⟩];rfl
 rw[er,CF];obtain⟨s,es,h1,h2⟩:=cY (f:=zU gJ t strip loose bound<|aU t loose bound strip [(0,0)]) (fun pre s=>s.length=pre.length+1/\∀j,j<=pre.length->s[j]? =some (dc t strip loose bound<|k-j)) ((DY k).map fun(i:Nat)=>(i:Int)).reverse [dc t strip loose bound k] ⟨rfl,fun j hj=>by
  have:j=0:=Nat.le_zero.mp hj;subst this;rfl⟩ (by
  intro pre a post s e ⟨h1,h2⟩;have hlen2:pre.length<k:=by have:=congrArg FV e;simp at this;omega
  have ha:a=((k-1-pre.length:Nat):Int):=by
   have:((DY k).map fun(i:Nat)=>(i:Int)).reverse[pre.length]? =some a:=by rw[e];simp
   rw[Fw (by simpa using hlen2),D5,Ih,CS,Fi (by omega)]at this;exact(DG this).symm
  obtain⟨m,L',q1,q2,q3⟩:=kH (t:=t) (loose:=loose) (bound:=bound) strip [(0,0)] (k-1-pre.length) (by omega);have hs2:s=s.dropLast++[dc t strip loose bound (k-1-pre.length+1)]:=by
   have hne:s≠[]:=fun z=>by rw[z]at h1;simp at h1
   have hl2:=h2 pre.length<|CN _;have e3:k-1-pre.length+1=k-pre.length:=by omega
   rw[e3];have:s.getLast hne=dc t strip loose bound (k-pre.length):=by
    have h5:=List.getLast?_eq_getElem? (l:=s);rw[h1,HU,hl2,List.getLast?_eq_some_getLast hne]at h5;exact DG h5
   rw[<-this];exact(List.dropLast_concat_getLast hne).symm
  rw[ha,hs2,vW h hl hb q1 q2 q3 (by rw[List.length_dropLast];omega),<-hs2];refine⟨_,rfl,by simp[h1],fun j hj=>?_⟩;rw[F0,Fv]at hj;by_cases z:j<=pre.length
  ·rw[D3 (by omega)];exact h2 j z
  ·have ej:j=pre.length+1:=by omega
   subst ej;rw[D4 (by omega),h1,Gp];show some _=some _;congr 2;omega)
 rw[es,CF];have hsl:s.length=k+1:=by simpa using h1
 refine⟨_,rfl,by rw[HC,hk];exact hsl,fun i hi=>?_⟩;rw[HC]at hi;rw[Fw hi,h2 _ (by simp;omega)];congr 2;omega
theorem yw{t:Cd}(h:Card t){strip:List Pl}(hs:strip.length<=60){loose bound:Int}(h0:0<=loose)(hl:loose<=3)(hb0:0<=bound)(hb:bound<=60):∃r L,iy t strip loose bound=.ok r/\fj r (-(1:Int))=.ok L/\(L.isEmpty=true↔cnt t loose bound strip (0,0)=0):=by
 obtain⟨L,hL,_,hE⟩:=fL (t:=t) (loose:=loose) (bound:=bound) strip [(0,0)];refine⟨_,L,jo h h0 hb0 hl hb strip (by omega),og hL,?_⟩;rw[List.isEmpty_iff,hE];simp
theorem lA{c:Int->Res Bool}{f:Int->Res Int}{P:Int->Prop}{N:Int}(hc:∀b,0<=b->b<=N->∃r,c b=.ok r/\(r=true↔¬P b))(hf:∀b,f b=.ok (b+1)):∀(m:Nat)(fuel:Nat)(b:Int),0<=b->m<fuel->(∃d,b<=d/\d<=b+m/\d<=N/\P d)->(eN c f fuel b).Ok fun d=>b<=d/\P d/\∀e,b<=e->e<d->¬P e
 |m,0,b,_,h,_=>absurd h (by omega)
 |m,fuel+1,b,h0,hm,⟨d,d1,d2,d4,d3⟩=>by
  obtain⟨r,er,hr⟩:=hc b h0 (by omega);unfold eN;rw[er,CF];cases r with
  |false=>exact⟨Mp _,Io.mp fun z=>Ky<|hr.mpr z,fun e h1 h2=>absurd h1 (by omega)⟩
  |true=>
   have np:=hr.mp rfl;rw[if_pos rfl,hf,CF];have hd:d≠b:=fun z=>np<|z▸d3;cases m with
   |zero=>exact absurd d2 (by omega)
   |succ m=>
    refine(lA hc hf m fuel (b+1) (by omega) (by omega) ⟨d,by omega,by omega,d4,d3⟩).imp fun x zz=>?_;obtain⟨h1,h2,h3⟩:=zz;refine⟨by omega,h2,fun e h4 h5=>?_⟩;by_cases z:e=b;·rw[z];exact np
    ·exact h3 e (by omega) h5
theorem zF{t:Cd}(h:Card t){strip:List Pl}(hs:strip.length<=60){loose:Int}(h0:0<=loose)(hl:loose<=3):∃r,oq t strip loose=.ok r/\((r=none/\cnt t loose strip.length strip (0,0)=0)\/∃d,r=some d/\0<=d/\d<=strip.length/\cnt t loose d strip (0,0)≠0/\∀e,0<=e->e<d->cnt t loose e strip (0,0)=0):=by
 unfold oq Bq;obtain⟨r,L,e1,e2,e3⟩:=yw h hs h0 hl (show(0:Int)<=strip.length by omega) (by omega);rw[e1,CF,e2,CF,CF];by_cases z:cnt t loose strip.length strip (0,0)=0
 ·rw[if_pos<|e3.mpr z];exact⟨_,rfl,.inl ⟨rfl,z⟩⟩
 ·rw[if_neg<|fun y=>z<|e3.mp y];obtain⟨d,ed,d1,d2,d3⟩:=(lA (N:=60) (c:=AB iy t strip loose) (f:=AD) (P:=fun b=>cnt t loose b strip (0,0)≠0) (fun b hb0 hb1=>by
   obtain⟨r,L,e1,e2,e3⟩:=yw h hs h0 hl hb0 hb1;unfold AB;rw[e1,CF,e2,CF];exact⟨_,rfl,by rw[e3,Io]⟩) (fun b=>by unfold AD;rfl) strip.length cap 0 (by decide) (by show strip.length<100000;omega) ⟨strip.length,by omega,by omega,by omega,z⟩).ex
  rw[ed,CF];refine⟨_,rfl,.inr ⟨d,rfl,d1,?_,d2,fun e h4 h5=>Io.mp<|d3 e h4 h5⟩⟩;by_cases y:(d:Int)<=strip.length;·exact y
  ·exact absurd z (d3 strip.length (by omega) (by omega))
theorem iZ{moves:List (Tx×(Int×Int))}{counts:List ((Int×Int)×Int)}{f:Tx×(Int×Int)->Int}(hf:∀a∈moves,getD counts a.2=.ok (f a)):∀(post pre:List (Tx×(Int×Int)))(n:Int)(fuel:Nat),moves=pre++post->0<=n->n<(post.map f).sum->post.length<fuel->
  ∃p a q n',post=p++a::q/\eN (zV moves counts) (zW moves counts) fuel (n,(pre.length:Int))=.ok (n',((pre.length+p.length:Nat):Int))/\n=(p.map f).sum+n'/\0<=n'/\n'<f a
 | [],pre,n,fuel,_,h0,h1,_=>absurd h1 (by simp;omega)
 |a::post,pre,n,0,_,_,_,h=>absurd h (by omega)
 |a::post,pre,n,fuel+1,hm,h0,h1,hl=>by
  have ha:moves[pre.length]? =some a:=by rw[hm];simp
  have hf':=hf a (by rw[hm];simp);have e1:zV moves counts (n,(pre.length:Int))=.ok (decide<|f a<=n):=by
   unfold zV;rw[fM ha,CF,CF,hf',CF]
  unfold eN;rw[e1,CF];by_cases z:f a<=n
  ·have e2:zW moves counts (n,(pre.length:Int))=.ok (n-f a,(((pre++[a]).length:Nat):Int)):=by
    unfold zW;rw[fM ha,CF,CF,hf',CF];simp
   rw[if_pos<|decide_eq_true z,e2,CF];rw[DR,LV]at h1;obtain⟨p,b,q,n',g1,g2,g3,g4,g5⟩:=iZ hf post (pre++[a]) (n-f a) fuel (by rw[hm];simp) (by omega) (by omega) (by simp at hl;omega);refine⟨a::p,b,q,n',by rw[g1];rfl,?_,by rw[DR,LV];omega,g4,g5⟩;rw[g2];congr 2;simp;omega
  ·rw[if_neg (by simpa using z)];exact⟨[],a,post,n,rfl,rfl,by simp,h0,by omega⟩
def qR(t:Cd)(loose bound:Int):List Pl->Int×Int->Int->Tx->Prop
 | [],_,n,x=>x=[]/\n=0
 |m::r,s,n,x=>∃p c q n' y,ir t m loose bound s=p++c::q/\x=c::y/\n=(p.map fun c=>cnt t loose bound r<|aj t s c).sum+n'/\0<=n'/\n'<cnt t loose bound r (aj t s c)/\qR t loose bound r (aj t s c) n' y
theorem sD{t:Cd}{m:Pl}{loose bound:Int}{s:Int×Int}{r:List Pl}{L:List (Int×Int)}(hL:∀c∈ir t m loose bound s,aj t s c∈L){n:Int}(h0:0<=n)(h1:n<cnt t loose bound (m::r) s):
  ∃p c q n',ir t m loose bound s=p++c::q/\pF ((ir t m loose bound s).map fun c=>([c],aj t s c)) (L.map fun s=>(s,cnt t loose bound r s)) n=.ok ([c],aj t s c,n')/\n=(p.map fun c=>cnt t loose bound r<|aj t s c).sum+n'/\0<=n'/\n'<cnt t loose bound r (aj t s c):=by
 unfold pF Bu;have hs:((ir t m loose bound s).map fun c=>(([c]:Tx),aj t s c)).map (fun a=>cnt t loose bound r a.2)=(ir t m loose bound s).map fun c=>cnt t loose bound r (aj t s c):=by rw[EM];rfl
 obtain⟨p,a,q,n',g1,g2,g3,g4,g5⟩:=iZ (moves:=(ir t m loose bound s).map fun c=>(([c]:Tx),aj t s c)) (counts:=L.map fun s=>(s,cnt t loose bound r s)) (f:=fun a=>cnt t loose bound r a.2) (fun a ha=>by
  obtain⟨c,hc,rfl⟩:=Dw.mp ha;exact kI (hL c hc)) _ [] n cap rfl h0 (by rw[hs];exact h1) (by rw[D5];unfold ir cap;exact Nat.lt_of_le_of_lt (Jl _ _) (by decide))
 obtain⟨P,R,e1,e2,e3⟩:=List.map_eq_append_iff.mp g1;obtain⟨c,Q,e4,e5,e6⟩:=List.map_eq_cons_iff.mp e3;subst e2 e5;refine⟨P,c,Q,n',by rw[e1,e4],?_,?_,g4,g5⟩
 ·have e7:((ir t m loose bound s).map fun c=>(([c]:Tx),aj t s c))[(([]:List (Tx×(Int×Int))).length+(P.map fun c=>(([c]:Tx),aj t s c)).length:Nat)]? =some ([c],aj t s c):=by
   rw[e1,e4];simp
  rw[show((0:Int))=(([]:List (Tx×(Int×Int))).length:Int)from rfl,g2,CF,fM e7,CF]
 ·rw[g3,EM];rfl
def eL{α:Type}(i:Nat):List α->List (Int×α)
 | []=>[]
 |a::r=>((i:Int),a)::eL (i+1) r
theorem vY{α:Type}:∀(i:Nat)(xs:List α),(eL i xs).length=xs.length
 |_,[]=>rfl
 |i,a::r=>by show(eL (i+1) r).length+1=r.length+1;rw[vY]
theorem yx{α:Type}:∀(i:Nat)(xs:List α)(j:Nat)(h:j<xs.length),(eL i xs)[j]? =some (((i+j:Nat):Int),xs[j])
 |i,a::r,0,_=>rfl
 |i,a::r,j+1,h=>by
  show(eL (i+1) r)[j]? =_;rw[yx (i+1) r j (by simpa using h)];show some (((i+1+j:Nat):Int),r[j]'(by simpa using h))=some (((i+(j+1):Nat):Int),r[j]'(by simpa using h));rw[show i+1+j=i+(j+1) by omega]
theorem xY{α:Type}(xs:List α):gP xs=eL 0 xs:=by
 refine El fun j=>?_;by_cases h:j<xs.length
 ·rw[yx 0 xs j h];unfold gP;rw[Jc,Fi h,CK h,Fj]
 ·rw[DK (show(gP xs).length<=j by simp[gP];omega),DK (by rw[vY];omega)]
theorem oi{t:Cd}(h:Card t){strip:List Pl}{loose bound:Int}(hw:(aU t loose bound strip [(0,0)]).length=strip.length+1){D:List (List<|(Int×Int)×Int)}(hl:D.length=strip.length+1)(hD:∀i,i<D.length->D[i]? =some (dc t strip loose bound i)):∀(post:List Pl)(i:Nat)(s:Int×Int)(n:Int)(x:Tx),strip.drop i=post->i<=strip.length->s∈(aU t loose bound strip [(0,0)])[i]?.getD []->0<=n->n<cnt t loose bound post s->x.length+post.length<=1000->
  ∃s' n' y,bE (eP pF gJ t loose bound D) (eL i post) (s,n,x)=.ok (s',n',x++y)/\qR t loose bound post s n y
 | [],i,s,n,x,_,_,_,h0,h1,_=>⟨s,n,[],by rw [Ex];rfl,rfl,by
  have:n<1:=h1;omega⟩
 |m::r,i,s,n,x,hd,hi,hs,h0,h1,hx=>by
  have hi':i<strip.length:=by
   rcases M5 i strip.length with z|z;·exact z
   ·rw[GR z]at hd;cases hd
  rw[Ey hi']at hd;obtain⟨hd1,hd2⟩:=List.cons.inj hd;obtain⟨m',L,q1,q2,q3⟩:=kH (t:=t) (loose:=loose) (bound:=bound) strip [(0,0)] i (by omega);have hm:m'=m:=by rw[CK hi',hd1]at q1;exact(DG q1).symm
  subst hm;rw[q2]at hs;have hs:s∈L:=hs;have hnx:∀c∈ir t m' loose bound s,aj t s c∈fV t m' loose bound L:=fun c hc=>mem_nxt.mpr ⟨s,hs,c,(mem_onw.mp hc).1,(mem_onw.mp hc).2,rfl⟩;obtain⟨p,c,q,n',g1,g2,g3,g4,g5⟩:=sD (r:=r) hnx h0 h1;have e1:eP pF gJ t loose bound D ((i:Int),m') (s,n,x)=.ok (aj t s c,n',x++[c]):=by
   unfold eP;dsimp only;rw[iQ h,CF,show(i:Int)+1=((i+1:Nat):Int) by omega,fM (hD (i+1) (by omega)),CF];rw[show dc t strip loose bound (i+1)=(fV t m' loose bound L).map fun s=>(s,cnt t loose bound r s) by unfold dc;rw[q3,hd2];rfl,g2,CF,je (by simp at hx ⊢;omega),CF]
  show ∃s' n' y,(eP pF gJ t loose bound D ((i:Int),m') (s,n,x)).bind _=_/\_;rw[e1,CF];obtain⟨s',n'',y,f1,f2⟩:=oi h hw hl hD r (i+1) (aj t s c) n' (x++[c]) hd2 (by omega) (by rw[q3];exact hnx c (by rw[g1];simp)) g4 g5 (by simp at hx ⊢;omega);exact⟨s',n'',c::y,by rw[f1];simp,p,c,q,n',y,g1,rfl,g3,g4,g5,f2⟩
theorem pM{t:Cd}{loose bound:Int}{strip:List Pl}(h:cnt t loose bound strip (0,0)≠0):(aU t loose bound strip [(0,0)]).length=strip.length+1:=by
 obtain⟨L,_,h2,h3⟩:=fL (t:=t) (loose:=loose) (bound:=bound) strip [(0,0)];rcases h2 with z|z;·exact absurd (h3.mp z (0,0)<|Dc ..) h
 ·exact z
theorem zG{t:Cd}(h:Card t){strip:List Pl}(hs:strip.length<=60){loose bound:Int}(h0:0<=loose)(hl:loose<=3)(hb0:0<=bound)(hb:bound<=60){n:Int}(n0:0<=n)(n1:n<cnt t loose bound strip (0,0)):∃x,dU t strip loose bound n=.ok x/\qR t loose bound strip (0,0) n x:=by
 unfold dU qI;obtain⟨D,e,h1,h2⟩:=vX h hs h0 hl hb0 hb;have hw:=pM (t:=t) (loose:=loose) (bound:=bound) (strip:=strip) (by omega);obtain⟨r,hr⟩:=gA (t:=t) (loose:=loose) (bound:=bound) strip [(0,0)];have ez:sd (dc t strip loose bound 0) ((0:Int),(0:Int)) (0:Int)=cnt t loose bound strip (0,0):=by
  unfold dc sd;rw[hr];rfl
 rw[e,CF,if_neg (by simpa using n0),show fj D (0:Int)=.ok (dc t strip loose bound 0)from fM (i:=0) (h2 0 (by omega)),CF,CF,ez,CF,if_neg (by simp;omega)];obtain⟨s',n',y,f1,f2⟩:=oi h hw (by omega) h2 strip 0 (0,0) n [] rfl (by omega) (by rw[hr];simp) n0 n1 (by simp;omega);rw[xY,f1,CF];exact⟨y,rfl,f2⟩
def Rst(t:Cd)(loose:Int)(strip:List Pl)(r:Option Int)(v:Option Int×Option Tx×List (List<|Int×Int)):Prop:=
 (r=none/\cnt t loose strip.length strip (0,0)=0/\v=(none,none,aU t loose strip.length strip [(0,0)]))\/
 ∃d x,r=some d/\0<=d/\d<=strip.length/\cnt t loose d strip (0,0)≠0/\(∀e,0<=e->e<d->cnt t loose e strip (0,0)=0)/\dU t strip loose d 0=.ok x/\qR t loose d strip (0,0) 0 x/\v=(some d,some x,if 0<d then aU t loose (d-1) strip [(0,0)]else [])
theorem pN{t:Cd}(h:Card t){strip:List Pl}(hs:strip.length<=60){loose:Int}(h0:0<=loose)(hl:loose<=3):∃r v,oq t strip loose=.ok r/\wa t strip loose=.ok v/\Rst t loose strip r v:=by
 obtain⟨r,er,hr⟩:=zF h hs h0 hl;unfold wa Bv;rw[er];rcases hr with⟨rfl,h1⟩|⟨d,rfl,d0,d1,d2,d3⟩
 ·rw[CF,if_pos (show(none:Option Int).isNone=true from rfl),jo h h0 (show(0:Int)<=strip.length by omega) hl (by omega) strip (by omega),CF];exact⟨none,_,rfl,rfl,.inl ⟨rfl,h1,rfl⟩⟩
 ·have hp:0< cnt t loose d strip (0,0):=by have:=gW (t:=t) (loose:=loose) (bound:=d) strip (0,0);omega
  obtain⟨x,ex,hx⟩:=zG h hs h0 hl d0 (by omega) (Mp 0) hp;refine⟨some d,(some d,some x,if 0<d then aU t loose (d-1) strip [(0,0)]else []),rfl,?_,.inr ⟨d,x,rfl,d0,d1,d2,d3,ex,hx,rfl⟩⟩;rw[CF,if_neg (show ¬(some d).isNone=true from Ky),show jG (some d)=CJ d from rfl,CF,CF,CF];by_cases z:0<d;·rw[if_pos<|decide_eq_true z,if_pos z,CF,jo h h0 (show(0:Int)<=d-1 by omega) hl (by omega) strip (by omega),CF,CF,ex,CF,CF]
  ·rw[if_neg (by simpa using z),if_neg z,CF,CF,ex,CF,CF]
theorem Rst.lens{t:Cd}{loose:Int}{strip:List Pl}{r:Option Int}{v:Option Int×Option Tx×List (List<|Int×Int)}(h:Rst t loose strip r v)(hs:strip.length<=60)(hl:loose<=3):v.2.2.length<=61/\∀l∈v.2.2,l.length<=484:=by
 have key:∀b:Int,b<=60->(aU t loose b strip [(0,0)]).length<=61/\∀l∈aU t loose b strip [(0,0)],l.length<=484:=fun b hb=>⟨by
  have:=iS (t:=t) (loose:=loose) (bound:=b) strip [(0,0)];omega,fun l hl'=>by
  have:=gL (t:=t) hl hb strip [(0,0)] (by simp) vR l hl';exact gK this.1 this.2⟩
 rcases h with⟨_,_,rfl⟩|⟨d,x,_,d0,d1,_,_,_,_,rfl⟩
 ·exact key _ (by omega)
 ·by_cases z:0< d;·rw[if_pos z];exact key _ (by omega)
  ·rw[if_neg z];exact⟨by simp,fun l hl=>by cases hl⟩
theorem zH{t:Cd}(h:Card t){strip:List Pl}(hs:strip.length<=60){loose:Int}(hl:loose<=3){r:Option Int}{v:Option Int×Option Tx×List (List<|Int×Int)}(hr:Rst t loose strip r v):
  ((sk t strip loose (strip.length:Int)).bind fun y25=>CJ ((none:Option Int),(none:Option Tx),y25)).bind (fun y26=>(if r.isSome then(((jG r).bind fun y39=>CJ<|decide<|(0:Int)<y39).bind fun y40=>(if y40 then(((jG r).bind fun y49=>CJ<|y49-(1:Int)).bind fun y50=>sk t strip loose y50).bind fun y51=>CJ y51 else CJ ([]:List (List Ii)):Res (List<|List Ii))).bind fun s55=>((((jG r).bind fun y66=>dU t strip loose y66 (0:Int)).bind fun y67=>CJ<|some y67).bind fun y68=>CJ (r,y68,s55)).bind fun y69=>CJ y69 else CJ y26:Res ((Option Int)×(Option Tx)×(List<|List Ii))))=.ok v:=by
 rw[o9 h hl (by omega) strip (by omega),CF,CF];rcases hr with⟨rfl,_,rfl⟩|⟨d,x,rfl,d0,d1,_,_,ex,_,rfl⟩
 ·rfl
 ·rw[if_pos (show(some d).isSome=true from rfl),show jG (some d)=CJ d from rfl];by_cases z:0<d;·simp only[CF,ex,decide_eq_true z,if_pos z,o9 h hl (show d-1<=60 by omega) strip (by omega),if_true]
  ·simp only[CF,ex,decide_eq_false z,if_neg z,Dp,if_false]
theorem zI(ns:List Int)(h:ns.length<=63):(vq ns).Ok (· =true):=by
 unfold vq qJ;refine ja ((show(w5 ns (12:Int)).Ok _ from xT h 12 (by decide)).imp fun y zz=>?_);obtain⟨hc,⟨n,hn,hm⟩,g0,g1⟩:=zz;have hl:y.2.1.length=n:=hm.1;obtain⟨c9,e9⟩:=lq h 9 (by decide);rw[show iX ns 9=.ok c9 from e9,CF];refine ja ((vJ hm (by omega) c9).imp fun strip hs'=>?_);have hs:strip.length=n:=hs'.1;obtain⟨r,v,er,ev,hr⟩:=pN hc (show strip.length<=60 by omega) g0 (show y.2.2<=3 by omega);have hv:=hr.lens (by omega) (by omega);have ed:=zH hc (show strip.length<=60 by omega) (show y.2.2<=3 by omega) hr;rw[er,CF];revert ed;rw[ev];cases eR:(sk y.1 strip y.2.2 (strip.length:Int))with
 |stuck=>exact fun ed=>by cases ed
 |err j=>exact fun ed=>by cases ed
 |ok L=>
  intro ed;rw[CF,CF]at ed ⊢;rw[ed,CF,CF,oP rfl,oP rfl,CF,CF,show(!true)=false from rfl,if_neg (by decide),CF,if_neg (by decide)];refine ja<|BN (a:=(v.1,v.2.1,v.2.2++[[((0:Int),(0:Int))]])) ?_ ?_
  ·show(dB v.2.2 [((0:Int),(0:Int))]).bind (fun b=>CJ (v.1,v.2.1,b))=_;rw[dt (by omega),CF]
  ·obtain⟨l,el,hl0⟩:∃l,(v.2.2++[[((0:Int),(0:Int))]])[0]? =some l/\l.length<=484:=by
    cases q:v.2.2 with
    |nil=>exact⟨_,rfl,by decide⟩
    |cons a b=>exact⟨a,rfl,hv.2 a (by rw[q];simp)⟩
   have ei:ixN (v.2.2++[[((0:Int),(0:Int))]]).length (0:Int)=some 0:=by
    unfold ixN;rw[if_pos (by decide),if_pos (by simp)];rfl
   refine ja<|BN (a:=(v.1,v.2.1,(v.2.2++[[((0:Int),(0:Int))]]).set 0 (l++[((9:Int),(9:Int))]))) ?_ ?_
   ·show(wM (v.2.2++ [[((0:Int),(0:Int))]],fun b=>(v.1,v.2.1,b)) (0:Int)).bind (fun y=>(dB y.1 ((9:Int),(9:Int))).bind fun b=>CJ<|y.2 b)=_;unfold wM;rw[show jG (ixN (v.2.2++[[((0:Int),(0:Int))]]).length (0:Int))=CJ 0 from by rw[ei];rfl,CF,show jG (v.2.2++[[((0:Int),(0:Int))]])[0]? =CJ l from by rw[el];rfl,CF,CF,dt (by show l.length<100000;omega),CF]
   ·rw[CF,oP rfl];rfl
end Mi
namespace PySem.W.Fast
def tw13810262117814702294:=()
def tw5344687154915797982:=()
def tw6548459193220583526:=()
def tw14842496431369740429:=()
def tw15779231459743154856:=()
def tw17318462890700432884:=()
def tw12297992134047619483:=()
def tw447263597446747957:=()
def tw9879335643197240621:=()
def tw6472337539984862722:=()
def tw15042883488752021643:=()
def tw8060666987683057360:=()
def tw1205274952441263945:=()
def tw726351398001015727:=()
def tw4039707410889071942:=()
def tw18418582437962087742:=()
def tw12330612334027959195:=()
def tw12954591660760965231:=()
def tw11766667032028208565:=()
def tw9919008367099125623:=()
def tw5890639436620234070:=()
def tw13055953723892786844:=()
def tw6953138203311097117:=()
def tw16636501806038632012:=()
def tw7164969610272591079:=()
def tw3300257896294614128:=()
def tw10519837036962490867:=()
def tw17483705464198625004:=()
def tw1725486776273817318:=()
def tw16919654943277366748:=()
def tw2353497105660221152:=()
def tw8899516883271353254:=()
def tw15433366417846715934:=()
def tw15925456577456769635:=()
def tw10910644110388302437:=()
def tw17292613610259460706:=()
def tw5002640475654186023:=()
def tw1383625962624193546:=()
def tw8737599933303070863:=()
def tw12917704675397863716:=()
def tw16140922888777852060:=()
def tw17062427158221528723:=()
def tw15861351967447197489:=()
def tw4849480874435393781:=()
def tw6549852094080907030:=()
def tw14664691819916384248:=()
def tw8622699402854469366:=()
def tw861502493610598483:=()
def tw5449601097390414333:=()
def tw9615563845995560447:=()
def tw17214186515701724070:=()
def tw4323258101793500111:=()
def tw9806118890596472461:=()
def tw12652081859355081885:=()
def tw8002303944043701648:=()
def tw9592521066531166775:=()
def tw17817366049700826239:=()
def tw4077048163395320219:=()
def tw740290905518256060:=()
def tw12459912946257978736:=()
def tw13812277999558781770:=()
def tw11738243743197964597:=()
def tw17338325484393633139:=()
def tw1950803216711332702:=()
def tw7424060955962978353:=()
def tw4971374062829452455:=()
def tw10624116801336726872:=()
def tw12727641955093265886:=()
def tw17963105932079019327:=()
def tw13757698761724263525:=()
def tw2261719852989239553:=()
def tw14958820412457663293:=()
def tw11401859456886640639:=()
def tw1746151400102762189:=()
def tw5072417060200589145:=()
def tw4699756791338806529:=()
def tw5858633384734287302:=()
def tw938635154573522699:=()
def tw14703100239697439463:=()
def tw2570914705882880060:=()
def tw3419001889969749887:=()
def tw14564479935002850509:=()
def tw10510056951384868246:=()
def tw13855379610559885079:=()
def tw15402603294489630176:=()
def tw4635989785427082552:=()
def tw11384182702204212275:=()
def tw6968137755033780318:=()
def tw2400638427578300857:=()
def tw3721919958574915784:=()
def tw6229817132586351632:=()
def tw2107523057676978006:=()
def tw14904681115217272601:=()
def tw16108870410212019532:=()
def tw3042748168174471775:=()
def tw3300454383303005205:=()
def tw7476452910721959123:=()
def tw12887044766017154078:=()
def tw9972681490609642005:=()
def tw3239113980409921550:=()
def tw2244103112122482387:=()
def tw14172470266813156586:=()
def tw16298917771340976007:=()
def tw6148498323302512570:=()
def tw3543459598558145280:=()
def tw18328257000508772394:=()
def tw18101783494082082527:=()
def tw13956191218907399338:=()
def tw10374632558016547081:=()
def tw13547939009206843870:=()
def tw4562827626845409882:=()
def tw2399617604181995578:=()
def tw2941924889016668590:=()
def tw12770481643036789091:=()
def tw643336161829623379:=()
def tw15401437161963490237:=()
def tw6522051377940421278:=()
def tw14760874974797668852:=()
def tw5832305185047221409:=()
def tw9796564346219866840:=()
def tw11564986514327137767:=()
def tw17464319187374939960:=()
def tw12772213712371865176:=()
def tw17518593693041627797:=()
def tw13282000867657480947:=()
def tw10121671492293509930:=()
def tw10826640976665885199:=()
def tw10016166984437732892:=()
def tw5362036446546632119:=()
def tw2295934692909999376:=()
def tw14226173905949225808:=()
def tw14689541978594310382:=()
def tw12382822922155266910:=()
def tw7217548393331319763:=()
def tw5537553045615171315:=()
def tw11421057715548341654:=()
def tw9977182230042388008:=()
def tw12431713363859531893:=()
def tw11907897558876765624:=()
def tw2646887283097553488:=()
def tw2144661209622563809:=()
def tw2314633323536394700:=()
def tw14391293386007564604:=()
def tw140236481695663071:=()
def tw3382625519597670723:=()
def tw17187875760726034783:=()
def tw1864683662541468164:=()
def tw539538531456391632:=()
def tw13444670453868202053:=()
def tw5498123283257192965:=()
def tw1532491051758110099:=()
def tw2692750590507578028:=()
def tw4953865588907285216:=()
def tw18146532975450069615:=()
def tw5438652380644606353:=()
def tw2135409205425526673:=()
def tw15227483606004533461:=()
def tw1070438729232803039:=()
def tw15438627641174518403:=()
def tw866717566613908145:=()
def tw16053306600634468012:=()
def tw11699786106520543882:=()
def tw5101696844757716304:=()
def tw13462424878891718212:=()
def tw14935467056822913822:=()
def tw3308634892276815127:=()
def tw4548300405975405348:=()
def tw14827714588952709054:=()
def tw16864618592142003386:=()
def tw16955839230299176341:=()
def tw2789304352393801511:=()
def tw8157277791214410489:=()
def tw12768989823518198380:=()
def tw2875624504187281209:=()
def tw9461873434466728008:=()
def tw4096438862311573950:=()
def tw15539815450414544023:=()
def tw10042083083395451092:=()
def tw8431482922422412695:=()
def tw896878414759379649:=()
def tw384561282630992784:=()
def tw8047209995159408440:=()
def tw1000662321505670351:=()
def tw11266997524610791606:=()
def tw5702276774652866934:=()
def tw16279288168775177219:=()
def tw5994696166404524948:=()
def tw772564365185477556:=()
def tw13172660604052367476:=()
def tw5459702643516471331:=()
def tw16682895059504647277:=()
def tw2483420100392427323:=()
def tw2950685276103557050:=()
def tw6798380500665416597:=()
def tw6170744672141170255:=()
def tw7322748291113730364:=()
def tw7867829370405329436:=()
def tw28018229315631829:=()
def tw8219003486749837733:=()
def tw4015202173357781934:=()
def tw3475869608268796686:=()
def tw13622603851894308203:=()
def tw2080317491765294665:=()
def tw4804111812005502284:=()
def tw3215387988796971590:=()
def tw3985964047577975286:=()
def tw10294118229990073760:=()
def tw9116068151291705539:=()
def tw14782755387869428366:=()
def tw13135312941875745310:=()
def tw10792498714594961201:=()
def tw14243238205550065757:=()
def tw16822532161544500889:=()
def tw17351735930882485243:=()
def tw2455152089536381482:=()
def tw13674586047789940208:=()
def tw16615150188913437886:=()
def tw8912161614967838395:=()
def tw4683681711962371626:=()
def tw2827255003249426055:=()
def tw10295913840692754127:=()
def tw17760279517084355780:=()
def tw1417652077214873720:=()
def tw3919386906821981792:=()
def tw14022695629967993375:=()
def tw7774113678449685934:=()
def tw4684226298888400098:=()
def tw1972164579936704799:=()
def tw10879749546641988924:=()
def tw5217270863462422736:=()
def tw18157406047293677543:=()
def tw896239598344801917:=()
def tw9848817304349107530:=()
def tw8159993647027272844:=()
def tw446995266069924076:=()
def tw1717767836212652739:=()
def tw1915925776726481438:=()
def tw11429584451438056573:=()
def tw3641951560692057861:=()
def tw13421457143807847188:=()
def tw8972062959192195235:=()
def tw13953587524928339648:=()
def tw12670982853097334264:=()
def tw15621415185263527259:=()
def tw2403389108928632939:=()
def tw10876078143196172821:=()
def tw8297923619242306668:=()
def tw5344885176932410299:=()
def tw16902440903046159558:=()
def tw3235425350174046738:=()
def tw4075453323654395381:=()
def tw4480162626587320490:=()
def tw17435391645217708394:=()
def tw11373181179767321252:=()
def tw12269216009862288129:=()
def tw16723463757517087524:=()
def tw9402243437249704421:=()
def tw8422229294311615681:=()
def tw4547051000311932777:=()
def tw5127367033827617521:=()
def tw5622701340561072331:=()
def tw3270257207059953099:=()
def tw8374155422468719031:=()
def tw16120054744476736488:=()
def tw7086961617601330827:=()
def tw8997383693586321770:=()
def tw10258873121960336067:=()
def tw16756451883985382160:=()
def tw6105849179199505303:=()
def tw8949853181751564097:=()
def tw9784134513789038367:=()
def tw18413438206991804268:=()
def tw1825952489489211193:=()
def tw9582823730064241283:=()
def tw8285278889055680438:=()
def tw11066385474520676512:=()
def tw14387916025512776202:=()
def tw6822071536725586909:=()
def tw17013487888433625170:=()
def tw8080008513338510535:=()
def tw11898673842065290130:=()
def tw8760152093665844161:=()
def tw9689729476882780088:=()
def tw9860861378791804195:=()
end PySem.W.Fast
section
open PySem PySem.W PyProof.Rows
set_option maxHeartbeats 0 in
open_top hd for PySem.Challenge.rw_wornband_k37_restoring_by_parts
end
namespace Wb
open PySem L2 Mi
theorem xZ{K:CG}:∀vs H Q E,qK K vs H Q E->dX (isScr K) (rs isB) vq vs H Q E:=fun vs H Q E⟨a,ns,h1,h2,h3,h4⟩=>
 ⟨⟨H,H,.refl _⟩,ns,.ref a,rfl,h1,⟨a,rfl,h2⟩,fun _=>False,Res.Ok.e ((zI ns h3).imp fun r hr u W' _ hu=>by cases hr;cases hu;exact h4 _)⟩
theorem fin_mk{l:Hk}{w:Di}{K:CG}{h:Heap}{mg:Str->Option CI}{fa:Addr}{Z1D:Addr}{Z41 Z42:Option Addr}{Z43:Array (Option CI)}{Z44 Z45 Z46 Z47 Z39 Z48:CI}{f_law:Addr}{od_law an_law:Option Addr}{sl_law:Array (Option CI)}{oc_law kV_law dc_law pm_law cd_law ct_law:CI}{Z1W:Tok}{Z1F:Addr}{Z4F:Nat}{x_SLANTS0 y_SLANTS0 x_SLANTS1 y_SLANTS1 x_SLANTS2 y_SLANTS2:Tok}{Z1A:Addr}{Z4O:Nat}{x_START0 x_START1:Tok}{Z1V:Addr}{Z4P:Nat}{x_STEPS0 y_STEPS0 x_STEPS1 y_STEPS1 x_STEPS2 y_STEPS2:Tok}{Z3J:Tok}{Z3Y:Tok}(X:K.In h)(G:h.Ns mainGlobals mg)(hfa:mg "law"=some (.ref fa))
  (Z22:DB K mainGlobals "_law_same"=some (some<|.ref Z1D))
  (Z2F:K.lookup Z1D=some ⟨Z44,Z41,.func<|F6 "_law_same" "_law_same" (defArgs<|tp 52) (defBody<|tp 52) (defScope<|tp 52) .none Z45 Z46 Z47 Z42 Z39 Z48,Z43⟩)
  (Z2G:Ge K Z39 "_law_same"=true)
  (Z1E:FK K (.ref Z1D)=true)
  (Z3a:DI K "_law_at" (tp 36) ["_law_script","_law_k"])
  (Z33:DI K "_law_row" (tp 32) ["_law_cell","_law_many","_law_base"])
  (Z2j:DI K "_law_holes" (tp 33) ["_law_cell"])
  (Z2H:DI K "_law_card" (tp 34) ["_law_cell"])
  (Z2k:DI K "_law_turns" (tp 35) ["_law_cell","_law_many"])
  (Z3b:DI K "_law_go" (tp 38) ["_law_turn"])
  (Z24:DI K "_law_behind" (tp 39) ["_law_card_here","_law_turn"])
  (Z2l:DI K "_law_twist" (tp 40) ["_law_card_here","_law_turn"])
  (Z25:DI K "_law_places" (tp 41) ["_law_card_here","_law_turns_here"])
  (Z2I:DI K "_law_long" (tp 43) ["_law_places_here","_law_cell"])
  (Z2m:DI K "_law_marks" (tp 42) ["_law_places_here","_law_cell","_law_lies"])
  (Z1S:DI K "_law_turnover" (tp 44) ["_law_card_here"])
  (Z2J:DI K "_law_back" (tp 45) ["_law_turns_here"])
  (Z2K:DI K "_law_roll" (tp 46) ["_law_card_here","_law_many"])
  (Z2L:DI K "_law_seen" (tp 47) ["_law_card_here","_law_turns_here"])
  (Z34:DI K "_law_kin" (tp 48) ["_law_card_here","_law_turns_here","_law_cell"])
  (Z2M:DI K "_law_case" (tp 49) ["_law_script","_law_most"])
  (Z2n:DI K "_law_faded" (tp 53) ["_law_strip","_law_cell"])
  (Z3s:DI K "within" (tp 21) ["state","loose","bound"])
  (Z35:DI K "twisting" (tp 9) ["tablet","turn"])
  (Z20:DI K "state_behind" (tp 20) ["tablet","state","turn"])
  (Z3c:DI K "twisted" (tp 19) ["tablet","twist"])
  (d_top:DI K "top" (tp 7) ["tablet"])
  (Z3t:DI K "bottom" (tp 8) ["tablet"])
  (Z2o:DI K "left_place" (tp 12) ["tablet","turn"])
  (Z3M:DI K "suits" (tp 16) ["sign","left"])
  (Z3u:DI K "agrees" (tp 15) ["place","mark"])
  (Z3v:DI K "leaves" (tp 22) ["tablet","state","turn","mark"])
  (Z3w:DI K "onward" (tp 23) ["tablet","mark","loose","bound","state"])
  (Z1T:DI K "states_behind" (tp 25) ["tablet","mark","loose","bound","states"])
  (Z3x:DI K "search" (tp 24) ["tablet","strip","loose","bound"])
  (Z3N:DI K "least" (tp 29) ["tablet","strip","loose"])
  (Z2N:DI K "_law_next" (tp 50) ["_law_card_here","_law_mark","_law_loose","_law_bound","_law_state"])
  (Z2p:DI K "_law_reach" (tp 51) ["_law_card_here","_law_strip","_law_loose","_law_bound"])
  (Z3O:DI K "tails" (tp 26) ["tablet","strip","loose","bound"])
  (Z3y:DI K "chosen" (tp 28) ["moves","counts","number"])
  (d_way:DI K "way" (tp 27) ["tablet","strip","loose","bound","number"])
  (Z3d:DI K "restore" (tp 30) ["tablet","strip","loose"])
  (a_law:DB K mainGlobals "law"=some (some<|.ref f_law))
  (l_law:K.lookup f_law=some ⟨oc_law,od_law,.func<|F6 "law" "law" (defArgs<|tp 54) (defBody<|tp 54) (defScope<|tp 54) .none kV_law dc_law pm_law an_law cd_law ct_law,sl_law⟩)
  (c_law:Ge K cd_law "law"=true)
  (k_law:FK K (.ref f_law)=true)
  (z_abs:DB K mainGlobals "abs"=some none)
  (z_all:DB K mainGlobals "all"=some none)
  (z_bool:DB K mainGlobals "bool"=some none)
  (z_enumerate:DB K mainGlobals "enumerate"=some none)
  (z_int:DB K mainGlobals "int"=some none)
  (z_isinstance:DB K mainGlobals "isinstance"=some none)
  (z_len:DB K mainGlobals "len"=some none)
  (z_list:DB K mainGlobals "list"=some none)
  (z_range:DB K mainGlobals "range"=some none)
  (z_reversed:DB K mainGlobals "reversed"=some none)
  (z_sorted:DB K mainGlobals "sorted"=some none)
  (z_str:DB K mainGlobals "str"=some none)
  (z_sum:DB K mainGlobals "sum"=some none)
  (z_tuple:DB K mainGlobals "tuple"=some none)
  (z_zip:DB K mainGlobals "zip"=some none)
  (Z3P:DB K mainGlobals "HOLES"=some (some<|.int 4 Z1W))
  (Z3z:DB K mainGlobals "SLANTS"=some (some<|.ref Z1F))
  (Z3A:K.lookup Z1F=some {cls:=.type "dict",data:=.dict #[⟨hashInt<|1,.int (1) x_SLANTS0,.str (CP "s") y_SLANTS0⟩,⟨hashInt<|-1,.int (-1) x_SLANTS1,.str (CP "z") y_SLANTS1⟩,⟨hashInt<|0,.int (0) x_SLANTS2,.str (CP "o") y_SLANTS2⟩] Z4F})
  (Z3B:(Z1F==sysModules)=false)
  (Z3Q:DB K mainGlobals "START"=some (some<|.ref Z1A))
  (Z3R:K.lookup Z1A=some {cls:=.type "tuple",data:=.seq #[.int (0) x_START0,.int (0) x_START1] Z4O})
  (Z3S:DB K mainGlobals "STEPS"=some (some<|.ref Z1V))
  (Z3T:K.lookup Z1V=some {cls:=.type "dict",data:=.dict #[⟨Hu w.params<|CP "f",.str (CP "f") x_STEPS0,.int (1) y_STEPS0⟩,⟨Hu w.params<|CP "b",.str (CP "b") x_STEPS1,.int (-1) y_STEPS1⟩,⟨Hu w.params<|CP "i",.str (CP "i") x_STEPS2,.int (0) y_STEPS2⟩] Z4P})
  (Z3U:(Z1V==sysModules)=false)
  (Z3V:DB K mainGlobals "TURNS"=some (some<|.str (CP "fbi") Z3J))
  (Z49:DB K mainGlobals "WORN"=some (some<|.str (CP "?") Z3Y))
  :∃fd:Dk,(∀(s:CM)(v:CI),K6 s fd ⟨[v],[]⟩ [("_law_script",v)])/\∀base:Heap,K.In base->base.Ns mainGlobals mg->FnOk l.prog w K mg base CX0 27 fa fd ["_law_script"] (qK K):=by
 have e:=hfa.symm.trans<|F7 X G a_law;cases e;have Z3j:=lK (st:=tp 52) Z2F Z2G Z1E;have Z3k:=Z3j.binds (ps:=["_law_found","_law_due"]) fun _ _ _ _ _ _ us hl=>match us,hl with| [_,_],_=>rfl
 have F_law:=lK (st:=tp 54) l_law c_law k_law;have b_law:=F_law.binds (ps:=["_law_script"]) fun _ _ _ _ _ _ us hl=>match us,hl with| [_],_=>rfl
 have h_abs:=DE X G z_abs;have h_all:=DE X G z_all;have h_bool:=DE X G z_bool;have h_enumerate:=DE X G z_enumerate;have h_int:=DE X G z_int;have h_isinstance:=DE X G z_isinstance;have h_len:=DE X G z_len;have h_list:=DE X G z_list;have h_range:=DE X G z_range;have h_reversed:=DE X G z_reversed;have h_sorted:=DE X G z_sorted;have h_str:=DE X G z_str;have h_sum:=DE X G z_sum;have h_tuple:=DE X G z_tuple;have h_zip:=DE X G z_zip;have Z1z:=F7 X G Z3P;have Z3m:=F7 X G Z3z;have Z3n:DictK K w Z1F [(FH<|1,.str<|CP "s"),(FH<|-1,.str<|CP "z"),(FH<|0,.str<|CP "o")]:=⟨by decide,Z3B,by decide +kernel,_,_,Z3A,(.cons ⟨gB _ _,rfl,⟨_,rfl⟩⟩<|.cons ⟨gB _ _,rfl,⟨_,rfl⟩⟩<|.cons ⟨gB _ _,rfl,⟨_,rfl⟩⟩ .nil)⟩
 have Z1G:=F7 X G Z3Q;have Z1H:∀H,SqT K H Z1A [.int (0),.int<|0]:=fun H=>.inr ⟨_,_,_,Z3R,⟨rfl,rfl⟩,rfl,(by show 2<=sizeLine;decide),(.cons ⟨_,rfl⟩<|.cons ⟨_,rfl⟩ .nil)⟩;have Z3F:=F7 X G Z3S;have Z3G:DictK K w Z1V [(FI<|CP "f",.int<|1),(FI<|CP "b",.int<|-1),(FI<|CP "i",.int<|0)]:=⟨by decide,Z3U,by decide +kernel,_,_,Z3T,(.cons ⟨gC _ _,rfl,⟨_,rfl⟩⟩<|.cons ⟨gC _ _,rfl,⟨_,rfl⟩⟩<|.cons ⟨gC _ _,rfl,⟨_,rfl⟩⟩ .nil)⟩
 have Z3K:=F7 X G Z3V;have Z3Z:=F7 X G Z49;refine⟨F6 "law" "law" (defArgs<|tp 54) (defBody<|tp 54) (defScope<|tp 54) .none kV_law dc_law pm_law an_law cd_law ct_law,fun s v=>.of_eq rfl,fun base KB _=>?_⟩;have SA:∀n:Nat,Cal l.prog w K mg base "_law_same" ["_law_found","_law_due"] n (gG K n):=fun n=>by
  induction n with
  |zero=>exact⟨Z1D,_,xH,F7 X G Z22,Z1E,Z3k⟩
  |succ n ih=>exact⟨Z1D,_,vt Z3j h_len h_isinstance h_bool h_int h_str h_list h_tuple h_zip ih,F7 X G Z22,Z1E,Z3k⟩
 have Z15:=SA 26;have Z0G:Cal l.prog w K mg base _ _ _ (bF _ _ _ iX):=Z3a.cal X G fun F=>BX F h_len;have Z0q:Cal l.prog w K mg base _ _ _ (cV _ _ _ _ gH):=Z33.cal X G fun F=>BY F h_abs h_range;have Z2c:Cal l.prog w K mg base _ _ _ (dX _ _ xo):=Z2j.cal X G fun F=>BZ F Z0q;have Z21:Cal l.prog w K mg base _ _ _ (dX _ _ w4):=Z2H.cal X G fun F=>C0 F Z2c;have Z2e:Cal l.prog w K mg base _ _ _ (bF _ _ _ xp):=Z2k.cal X G fun F=>C1 F Z0q;have Z1r:Cal l.prog w K mg base _ _ _ (dX _ _ oo):=Z3b.cal X G fun F=>C2 F;have Z0W:Cal l.prog w K mg base _ _ _ (bF _ _ _ jl):=Z24.cal X G fun F=>C3 F Z1r;have Z18:Cal l.prog w K mg base _ _ _ (bF _ _ _ iP):=Z2l.cal X G fun F=>C4 F Z1r;have Z23:Cal l.prog w K mg base _ _ _ (bF _ _ _ xq):=Z25.cal X G fun F=>C5 F Z0W Z18;have Z2C:Cal l.prog w K mg base _ _ _ (bF _ _ _ xr):=Z2I.cal X G fun F=>C6 F Z0q h_len h_zip;have Z2f:Cal l.prog w K mg base _ _ _ (cV _ _ _ _ xt):=Z2m.cal X G fun F=>C7 F Z0q h_int h_len h_tuple h_zip;have Z1O:Cal l.prog w K mg base _ _ _ (dX _ _ xu):=Z1S.cal X G fun F=>C8 F;have Z2z:Cal l.prog w K mg base _ _ _ (dX _ _ xv):=Z2J.cal X G fun F=>C9 F;have Z2A:Cal l.prog w K mg base _ _ _ (bF _ _ _ xw):=Z2K.cal X G fun F=>Ca F h_range;have Z2B:Cal l.prog w K mg base _ _ _ (bF _ _ _ xx):=Z2L.cal X G fun F=>Cb F Z0W h_sorted;have Z32:Cal l.prog w K mg base _ _ _ (cV _ _ _ _ xA):=Z34.cal X G fun F=>Cc F Z1O Z2z Z2A Z2B h_range;have Z2E:Cal l.prog w K mg base _ _ _ (bF _ _ _ w5):=Z2M.cal X G fun F=>Ce F Z21 Z0G Z2e Z23 Z2C Z2f Z32;have Z2i:Cal l.prog w K mg base _ _ _ (bF _ _ _ xB):=Z2n.cal X G fun F=>Cf F Z0q h_len h_zip;have Z1Y:Cal l.prog w K mg base _ _ _ (cV _ _ _ _ nS):=Z3s.cal X G fun F=>Cg F h_abs;have Z1y:Cal l.prog w K mg base _ _ _ (bF _ _ _ pD):=Z35.cal X G fun F=>Ci F Z3F Z3G;have Z1X:Cal l.prog w K mg base _ _ _ (cV _ _ _ _ w6):=Z20.cal X G fun F=>Cj F Z1y;have Z36:Cal l.prog w K mg base _ _ _ (bF _ _ _ xC):=Z3c.cal X G fun F=>Ck F Z1z;have C_top:Cal l.prog w K mg base _ _ _ (dX _ _ ip):=d_top.cal X G fun F=>AF F Z1z;have Z3l:Cal l.prog w K mg base _ _ _ (dX _ _ xD):=Z3t.cal X G fun F=>Cm F Z1z;have Z2h:Cal l.prog w K mg base _ _ _ (bF _ _ _ xE):=Z2o.cal X G fun F=>Cn F C_top Z3l Z1y Z3m Z3n;have Z3I:Cal l.prog w K mg base _ _ _ (bF _ _ _ w8):=Z3M.cal X G fun F=>Co F Z3Z;have Z3o:Cal l.prog w K mg base _ _ _ (bF _ _ _ xF):=Z3u.cal X G fun F=>Cp F Z3I h_all h_zip;have Z3p:Cal l.prog w K mg base _ _ _ (gj _ _ _ _ _ vp):=Z3v.cal X G fun F=>Cq F Z3o Z2h Z36;have Z1h:Cal l.prog w K mg base _ _ _ (gk _ _ _ _ _ _ gJ):=Z3w.cal X G fun F=>Cr F Z1X Z1Y Z3p Z3K;have Z1Q:Cal l.prog w K mg base _ _ _ (gk _ _ _ _ _ _ pE):=Z1T.cal X G fun F=>Cs F Z1h h_sorted;have Z0T:Cal l.prog w K mg base _ _ _ (gj _ _ _ _ _ iy):=Z3x.cal X G fun F=>Ct F Z1Y Z1Q Z1G Z1H;have Z2a:Cal l.prog w K mg base _ _ _ (cV _ _ _ _ oq):=Z3N.cal X G fun F=>Cu F Z0T h_len;have Z2D:Cal l.prog w K mg base _ _ _ (gk _ _ _ _ _ _ mq):=Z2N.cal X G fun F=>Cv F Z18 h_abs h_int h_zip;have Z1R:Cal l.prog w K mg base _ _ _ (gj _ _ _ _ _ sk):=Z2p.cal X G fun F=>Cw F Z2D h_len h_list h_sorted;have Z3L:Cal l.prog w K mg base _ _ _ (gj _ _ _ _ _ xG):=Z3O.cal X G fun F=>Cy F Z0T Z1h h_len h_range h_reversed h_sum;have Z3r:Cal l.prog w K mg base _ _ _ (cV _ _ _ _ pF):=Z3y.cal X G fun F=>Cz F;have C_way:Cal l.prog w K mg base _ _ _ (gk _ _ _ _ _ _ dU):=d_way.cal X G fun F=>AG F Z3L Z3r Z1h h_enumerate Z1G Z1H;have Z2y:Cal l.prog w K mg base _ _ _ (cV _ _ _ _ wa):=Z3d.cal X G fun F=>CA F Z2a Z0T C_way h_len;exact FnOk.imp (AH F_law Z2E Z2i Z0G Z2a Z1R C_way Z2y Z15 h_len h_list) xZ
theorem walk{l:Hk}{q:D6}{loose:List Str}{XP:(Str->Option CI)->Heap->Prop}{YP:Di->Heap->Prop}{d:DefRec}{K:MG->CG}(hn:l.most=some 63)(hdf:d.params.defaults=[])(hY:∀(w:Di)(h:Heap),YP w h->(K w.params).In h)
  (F:∀(w:Di)(mg:Str->Option CI)(fa:Addr)(h:Heap),(K w.params).In h->h.Ns mainGlobals mg->mg d.name=some (.ref fa)->∃fd:Dk,(∀(s:CM)(u:CI),K6 s fd ⟨[u],[]⟩ [("_law_script",u)])/\∀base:Heap,(K w.params).In base->base.Ns mainGlobals mg->FnOk l.prog w (K w.params) mg base CX0 27 fa fd ["_law_script"] (qK<|K w.params)):
  KQ q loose XP YP l.row.toRowW d [] (fun f vs=>L0 f vs):=
 L2.walk_of (n:=63) (k:=27) (x:="_law_script") (CX:=fun _=>CX0) (sp:=fun w=>qK<|K w.params) hn (by decide) hdf ⟨rfl,by decide,by decide⟩ hY F (fun _ _ a ns hl _ hS=>⟨a,ns,rfl,hS,hl,fun _=>rfl⟩) fun _ _ _ _ _ z=>z
end Wb
local macro_rules | `(tactic| walk_at "D") => `(tactic| (apply Wb.DI.mk; (case da => k_is); (case dl => k_is); (case dc => k_is); (case dk => k_is); exact fun _ _ _ _ _ _ _ => rfl))
open PySem PySem.W PyProof.Rows
set_option maxRecDepth 100000 in
set_option maxHeartbeats 0 in
theorem PySem.Challenge.cw_wornband_k37_restoring_by_parts_holds : PySem.Challenge.rw_wornband_k37_restoring_by_parts.Holds := by
 refine hd ?_
 k_fill
 refine Wb.walk (l:=Et) rfl rfl (fun w h Y=>PySem.W.kIn_of Y) ?F
 case F=>
  intro w mg fa h KX G hmg
  refine' Wb.fin_mk KX G hmg ?Z22 ?Z2F ?Z2G ?Z1E ?Z3a ?Z33 ?Z2j ?Z2H ?Z2k ?Z3b ?Z24 ?Z2l ?Z25 ?Z2I ?Z2m ?Z1S ?Z2J ?Z2K ?Z2L ?Z34 ?Z2M ?Z2n ?Z3s ?Z35 ?Z20 ?Z3c ?d_top ?Z3t ?Z2o ?Z3M ?Z3u ?Z3v ?Z3w ?Z1T ?Z3x ?Z3N ?Z2N ?Z2p ?Z3O ?Z3y ?d_way ?Z3d ?a_law ?l_law ?c_law ?k_law ?z_abs ?z_all ?z_bool ?z_enumerate ?z_int ?z_isinstance ?z_len ?z_list ?z_range ?z_reversed ?z_sorted ?z_str ?z_sum ?z_tuple ?z_zip ?Z3P ?Z3z ?Z3A ?Z3B ?Z3Q ?Z3R ?Z3S ?Z3T ?Z3U ?Z3V ?Z49
  (case Z22=>k_is)
  (case Z2F=>k_is)
  (case Z2G=>k_is)
  (case Z1E=>k_is)
  (case Z3a=>walk_at "D")
  (case Z33=>walk_at "D")
  (case Z2j=>walk_at "D")
  (case Z2H=>walk_at "D")
  (case Z2k=>walk_at "D")
  (case Z3b=>walk_at "D")
  (case Z24=>walk_at "D")
  (case Z2l=>walk_at "D")
  (case Z25=>walk_at "D")
  (case Z2I=>walk_at "D")
  (case Z2m=>walk_at "D")
  (case Z1S=>walk_at "D")
  (case Z2J=>walk_at "D")
  (case Z2K=>walk_at "D")
  (case Z2L=>walk_at "D")
  (case Z34=>walk_at "D")
  (case Z2M=>walk_at "D")
  (case Z2n=>walk_at "D")
  (case Z3s=>walk_at "D")
  (case Z35=>walk_at "D")
  (case Z20=>walk_at "D")
  (case Z3c=>walk_at "D")
  (case d_top=>walk_at "D")
  (case Z3t=>walk_at "D")
  (case Z2o=>walk_at "D")
  (case Z3M=>walk_at "D")
  (case Z3u=>walk_at "D")
  (case Z3v=>walk_at "D")
  (case Z3w=>walk_at "D")
  (case Z1T=>walk_at "D")
  (case Z3x=>walk_at "D")
  (case Z3N=>walk_at "D")
  (case Z2N=>walk_at "D")
  (case Z2p=>walk_at "D")
  (case Z3O=>walk_at "D")
  (case Z3y=>walk_at "D")
  (case d_way=>walk_at "D")
  (case Z3d=>walk_at "D")
  (case a_law=>k_is)
  (case l_law=>k_is)
  (case c_law=>k_is)
  (case k_law=>k_is)
  (case z_abs=>k_is)
  (case z_all=>k_is)
  (case z_bool=>k_is)
  (case z_enumerate=>k_is)
  (case z_int=>k_is)
  (case z_isinstance=>k_is)
  (case z_len=>k_is)
  (case z_list=>k_is)
  (case z_range=>k_is)
  (case z_reversed=>k_is)
  (case z_sorted=>k_is)
  (case z_str=>k_is)
  (case z_sum=>k_is)
  (case z_tuple=>k_is)
  (case z_zip=>k_is)
  (case Z3P=>k_is)
  (case Z3z=>k_is)
  (case Z3A=>k_is)
  (case Z3B=>rfl)
  (case Z3Q=>k_is)
  (case Z3R=>k_is)
  (case Z3S=>k_is)
  (case Z3T=>k_is)
  (case Z3U=>rfl)
  (case Z3V=>k_is)
  (case Z49=>k_is)
