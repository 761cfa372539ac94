import PyProof.Rows.All
import Wide.All
import OpenK.AllK
import Wide.FinOn
import PyProof.EqAt
import PyProof.EqKinds
import PyProof.TupleCall
import KE.KDictSum
import KE.KRevIter
import KE.KRevSl
import KE.KDictLaws
import PyProof.StrLawsFirst
import KE.LcSums
import PyProof.EnumMake
import PyProof.TupleIter
import PyProof.StationsW
import PyProof.Rows.Own
import PyProof.NsDelKeeps
import PyProof.RulesAs
import PyProof.ExcAttrAll.ValueError
import KE.KIsAll
import PyProof.ExcBaseAll.ValueError
import PyProof.Rows.FStr
import PyProof.FString
import PyProof.Rows.StrNews
import PyProof.StrLawsTight
import PyProof.StrLawsChain
import PyProof.ExcInit
import PyProof.ExcClass3
import PyProof.InstStoreFacts
import PySem.SetTable
import PySem.SetOps
import PyProof.TupleKey
import PyProof.SetKind
import PyProof.IsRules
import KE.KSortTup
import PyProof.Rows.SortRun
import PyProof.Rows.SortShell
import PyProof.DictWalks
import PyProof.DictTruth
import PyProof.NeKinds
import PyProof.Rows.TupTab
import PySem.Challenge.RW_wornband_k35_flipped_ahead
open And renaming intro->KJ
open Array renaming getElem?_toList->Dd,getElem?_eq_getElem->Dn,length_toList->DJ,getD_eq_getD_getElem?->DX,toList_append->DZ,getElem?_eq_some_iff->F9,toList_push->Ft,getD->Fu,getElem?_eq_none->Gg,toList_setIfInBounds->Gx,toList_eraseIdxIfInBounds->Hj,toList_reverse->HE,size_setIfInBounds->IU,replicate->Jn,forIn_toList->Ke,toList_map->KN,toList_inj->KR,toList->M5
open Bool renaming false_ne_true->Dg,false_eq_true->DA,and_eq_true->EC,eq_iff_iff->Fb,not_true->GJ,true_and->GK,not_eq_true'->IJ,not_false->JR,or_eq_true->L6,false_and->Le
open Classical renaming not_forall->HC,byContradiction->Ir,not_imp->IF,not_not->IK
open False renaming elim->G8
open ForInStep renaming done->Dy,yield->DH
open Int renaming emod_lt_of_pos->DO,emod_nonneg->E6,toNat_natCast->Ew,le_refl->GA,emod_eq_of_lt->Kz,zero_add->M8,ediv_one->Ma,add_zero->Mb,le_trans->Mc
open List renaming getElem?_eq_getElem->CZ,getElem?_eq_some_iff->D5,getElem?_map->D7,mem_cons->Dh,mem_cons_self->Di,mem_cons_of_mem->Dk,size_toArray->Dm,append_assoc->Dq,map_cons->Ds,getElem?_append_right->Dw,length_map->Dx,mem_of_getElem?->Dz,mem_append_right->DD,getElem?_append_left->DF,not_mem_nil->DP,mem_map->DQ,mem_append->DY,getElem?_take_of_lt->E1,nodup_iff_pairwise_ne->E3,getElem?_eq_none->Ea,drop_eq_getElem_cons->Eb,range->Ed,getElem?_drop->Ef,getD_eq_getElem?_getD->Es,Nodup->Et,getElem?_eq_none_iff->Ex,getElem?_cons_succ->EH,pairwise_append->EK,append_nil->EN,ext_getElem?->EU,sum_cons->EY,find?_cons->F0,lookup_cons->F3,getElem?_cons_zero->F4,map_map->F6,nodup_cons->Fc,pairwise_iff_getElem->Fd,mem_reverse->Fg,length_cons->Fh,replicate->Fp,mem_iff_getElem->Fq,filterMap_cons->Fw,getElem?_range->Fx,length->FA,getElem_mem->FD,getElem?_reverse->FH,perm_append_comm->FI,getElem?_zip_eq_some->FJ,length_zip->FN,pairwise_map->FP,length_eq_zero_iff->FX,all_eq_true->G1,drop_length->G2,map_nil->Gb,take_of_length_le->Gd,drop_eq_nil_of_le->Gf,mem_singleton->Gh,of_mem_zip->Gj,mem_range->Gs,zipIdx_cons->GD,length_erase_of_mem->GI,forIn_cons->GO,nil_append->GP,mem_filterMap->GQ,length_append->GR,set_cons_zero->GW,pairwise_singleton->GY,forIn_nil->Hd,nodup_nil->Hh,mem_iff_getElem?->Hk,mem_of_mem_erase->Hl,length_filter_le->Hn,length_take->Hr,cons_append->Hu,any_cons->Hx,mem_append_left->Hy,foldl_cons->HK,zipIdx_nil->HM,length_nil->HR,map_congr_left->HS,length_reverse->HU,pairwise_cons->Ie,zip_cons_cons->Ij,set_cons_succ->Ik,mem_or_eq_of_mem_set->Iw,length_range->IG,filterMap_cons_some->IS,pairwise_mergeSort->J4,getElem?_set_self->J8,pairwise_lt_range->Jg,mem_filter->Jj,length_singleton->Js,getElem?_zipWith->Ju,take_append_drop->Jw,getElem?_set_ne->JE,drop_zero->JM,length_eraseIdx->JQ,mergeSort_perm->JT,findSome?_cons->JU,reverse_append->JV,lookup_append->Kb,reverse_cons->Kq,nodup_append->Kx,length_drop->KH,perm_middle->KO,map_snd_zip->KS,map_id->L3,length_set->L5,map_append->L8,drop_drop->Ll,all_cons->LQ,sum_nil->Md,headD->ML,map->MW
open List.Nodup renaming not_mem_erase->GH,length_le_of_subset->Hw
open List.Pairwise renaming nil->Gp,map->MO
open List.Perm renaming append_right->Ey,append_left->EF,eq_of_pairwise->IP
open List.cons renaming inj->GL,injEq->Jp
open Nat renaming le_refl->D0,lt_of_lt_of_le->D8,zero_le->Dt,ne_of_lt->Dv,le_add_right->Ep,lt_irrefl->Eu,le_trans->EO,zero_add->Fy,ne_of_gt->G9,le_of_lt->GB,lt_succ_self->GC,sub_self->He,mod_lt->Ic,add_sub_cancel->Il,lt_succ_of_lt->ID,le_succ->IE,lt_trans->Jd,div_div_eq_div_mul->Jf,reduceAdd->K2,reduceSub->K3,le_succ_of_le->Kw,lt_or_ge->Ky,div_eq_of_lt->KL,strongRecOn->L7,add_assoc->LX
open Ne renaming symm->H9
open Option renaming map_eq_some_iff->E9,map_some->Gk,getD_some->Hs,ne_none_iff_exists'->Ia,isSome_iff_exists->IL,getD_none->J3,isSome->JZ,isSome_some->K9
open Option.some renaming inj->DM,injEq->II
open Or renaming inr->Lj,inl->M6
open Prod renaming ext->Ib
open Prod.mk renaming injEq->M1
open PyProof.Rows renaming wpS_bind->D4,wpS_pure->De,Keyed->Df,boot_isinstance->DC,callWith_type1->Eh,wpS_forRange->El,SortSt->ET,wpS_modify->F2,wpS_mono->G5,boot_int->Gn,mem_zip_self->GF,boot_tuple->GZ,wpS_get->Hg,boot_bool->Hi,boot_abs->Hm,SortKind->HD,AllBare->Iz,boot_sorted->IW,wpS_lift->J6,subscriptTail_builtinR->Ja,boot_list->Jh,boot_all->JB,boot_sum->JC,boot_str->JD,listUpdate_at->K1,Subscript_->K7,IntsAre->Km,callWith_builtin1->KG,seqEpoch_at->L1,Call_->Mm,tail_any->Mn,TupTab->Mv
open PyProof.Rows.SortSt renaming mk'->Gz
open PySem renaming wpAny_bind->CN,wpAny_pure->CS,Value->CU,Shared->CV,Program->Dj,World->Dp,FuncData->Dr,Spec->DB,Around->DS,wpAny_call_entry->DU,wpAny_seqItems->E2,wpAny_callSpecial?_slot->E4,wpAny_setField_rec->E5,wpAny_field->E7,wpAny_newObj_type->Ec,wpAny_mono->Ee,sizeLine_eq->Ej,SetTable->Em,boot_len->EB,Builtin->EI,wpAny_holding->EL,mem_of_lookup->ER,wpAny_setState_of->EW,wpAny_rule->Fe,wpAny_isInstance->Ff,wpAny_onRaise->Fm,wpAny_typeNameOfWhole_keyiter->Fs,wpAny_standAt->Fz,wpAny_attempt->FC,IsTupleKey->FF,wpAny_passesOwn->FK,DictEntry->FL,wpAny_truthy_bool->FO,wpAny_comprehension_free->FQ,wpAny_typeNameOf_keyiter->FR,NameKind->FW,wpAny_setField->FY,isSubtype_stop->G0,wpAny_askSetting->G4,IsZip->G7,Scope->Gi,wpAny_letGo->Gw,IsPair->GU,wpAny_pyIter_rangeiter->Ha,wpAny_pyIter_slot->Hf,wpAny_pyIter_zip->Ht,wpAny_updateSeq_pair->HB,wpAny_execs_nil->HI,wpAny_specialOf->HJ,pushCells_keeps->HL,wpAny_ite_split->HN,wpAny_setEntries_of->HV,codeAny_mono->HW,wpAny_Call_Name_kw->I0,wpAny_fieldsOf->Ih,wpAny_letOwnedTupleGo_zip->Iq,wpAny_pyIter_list->IA,slot_list_getitem->IB,wpAny_dictEntries->IH,wpAny_getItem_list_slice->IM,Comprehension->IQ,wpAny_eqBool_int->IZ,wpAny_forIn_list->J5,wpAny_pyNext_range_end->J9,Keyword->Jb,wpAny_Call_method_late->Jc,Model->Jk,Draws->Jl,signature?_of->Jm,wpAny_dictEpoch->Jo,wpAny_isSame_ref_self->Jv,builtinLookup_eq_fast->Jx,wpAny_isOneOf_keyiter->Jz,wpAny_loadName_local->JF,IsRangeIter->JG,sliceRange_one->JJ,wpAny_of_eq->JN,wpAny_newTuple->JO,isSubtype_type->JP,wpAny_loadName_cell->JS,evalPart_none->JW,wpAny_handled->JY,wpAny_pyIter_ascii->Ka,tupleKind_room_in1->Kf,wpAny_assign_Name->Kh,BindsTo->Kl,seqIndex_neg->Kn,wpAny_pyIter_wide->Ko,wpAny_pyIter_enum->Kp,wpAny_storeSet_of->Kt,wpAny_execs_cons->KC,seqIndex_of->KY,wpAny_throw->KZ,wpAny_loadPart'->L4,typeLookup_type->L9,wpAny_Name->Ld,Result->Lg,typeIs_str->Lh,call->Li,entryFor_alias->Lm,intBits_le_64->LC,wpAny_newList->LY,Within->M4,CellsOk->M7,Operator->Mk,putAt->Ms,Params->MJ
open PySem.Builtin.Dict renaming showsAll->Jy,dictSlotNone->LA
open PySem.Builtin.Dict_items renaming ownsTuple->HP
open PySem.Builtin.Frozenset renaming oneOther->Ln,sizeOf->LW,addrOf->LZ,slot0->M3
open PySem.Builtin.List renaming listLengthHint->HX
open PySem.Builtin.Range renaming rangeFitsLong->Ei,rangeSize->Eo,rangeFields->Iu
open PySem.Builtin.SmallTypes renaming nextOf->Du,ownedTupleIsFree->DK,ownedTupleHandOut->ES,refuseKeywords->Kg
open PySem.Builtin.Str renaming strSliceIndices->F5,occurrences->GX,tooLong->ME
open PySem.Calls renaming Name_function_global->HZ,spliced_cons->K6,spliced_nil->Kk
open PySem.Challenge renaming rw_wornband_k35_flipped_ahead->F1,pw_wornband_k35_flipped_ahead->IX
open PySem.Data renaming cell->Gm,fields->Hz,seq->JK
open PySem.EqMixed renaming eq_bool_str->Ls,eq_str_bool->Lu,ne_bool_str->Ly,ne_str_bool->Lz,eq_int_str->LH,eq_str_int->LJ,ne_int_str->LN,ne_str_int->LP
open PySem.EqNone renaming eq_none_none->Lp,eq_none_bool->Lq,eq_bool_none->Lr,ne_none_none->Lv,ne_none_bool->Lw,ne_bool_none->Lx,eq_none_int->LD,eq_none_str->LF,eq_int_none->LG,eq_str_none->LI,ne_none_int->LK,ne_none_str->LL,ne_int_none->LM,ne_str_none->LO
open PySem.F renaming slot_dict_keyiterator_next->EA,slot_zip_next->EE,slot_tuple_iterator_next->F7,args_zip_next_1->FZ,entry_zip_next->Ge,args_tuple_iterator_next_1->GS,entry_tuple_iterator_next->H0,args_dict_keyiterator_next_1->Hv,entry_dict_keyiterator_next->HF,slot_dict_keyiterator_iter->HQ,slot_dict_getitem->Ip,plainAttrs_str->Je,slot_list_append->Jr,entry_zip_new->Jt,slot_range_reversed->JA,called_zip->Kd,slot_dict_iter->KU,slot_set_iter->La
open PySem.Heap renaming get?_push_of_some->CQ,get?_push_size->D6,lt_size->Dc,SameBut->Dl,size_push->E8,get?_update_self->EX,ExtBut->Gv,get?_update_other->Hc,get?_push_ne->Kv,size_update->KQ
open PySem.Heap.IsSliceOf renaming new->K8
open PySem.Heap.Ns renaming new->Mr
open PySem.Heap.SameBut renaming update->Ek
open PySem.IsRange renaming new->Ml
open PySem.NameKind renaming free->ED,cell->JX
open PySem.Obj renaming mapSeq->FE,putSet->Ig,mapFields->IT,data_mapFields->Kc
open PySem.PassesOwn renaming never->DN
open PySem.PyData renaming keyHash->HG
open PySem.SeqAt renaming EqAt->MG
open PySem.SeqAt.EqAt renaming int_str->K4,str_int->K5,none_bool->Mo,bool_none->Mp,bool_bool->Mq,none_int->Mw,none_str->Mx,bool_int->My,bool_str->Mz,int_none->MA,int_bool->MB,str_none->MC,str_bool->MD,int_int->MH,str_str->MI,same->MV
open PySem.SeqAt.RcAt renaming lists_lengths->M0,lists->MR
open PySem.SetTable renaming leap->DG,bits->DL,runEnd->DV,below->Ez,insertAt->EG,turns->EJ,grown->Gy,sizeAbove->GV,fill->K0,has->Ks,fresh->Lo,slot->LS,laid->LU,fits->LV
open PySem.SetTable.below renaming go->Gq
open PySem.SetTable.layClean renaming free->F8
open PySem.SetTable.probe renaming go->Gr
open PySem.Str renaming ofString->CY,length->MF
open PySem.Txt renaming find->I9,slice->KI,mul->MN
open PySem.Value renaming ref->Eg,none->En,type->Hq,int->IY,str->KA,bool->Lc,isStrOf->LB,isInt->Mf,float->Mj
open PySem.W renaming Frag->CT,nsIn->DR,mg_none_of->DT,kia_one->EM,fnOf->Fj,mg_of->Fn,kitOne->Fo,keepIn->FV,codeIn->Gu,cellsFrom_some->Hb,OpenLaw->HA,methodObj->Iy,instObj->Ji,lookIn->JI,kitx_list->Ki,kitx_dict->Kj,looks_findIn->Kr,plainGet->KD,looks_mroIn->L0,WalkO->Lb,findIn->Lf,looks_find->Lk
open PySem.W.WData renaming int->MQ
open PySem.W.WShape renaming has->MK
open PySem.pickOrder renaming go->Ku
open Sum renaming inl->FT,inr->FU
open Sum.inl renaming inj->Mg
open Sum.inr renaming inj->Mh
open True renaming intro->Ga
set_option Elab.async false
set_option linter.all false
set_option maxRecDepth 100000
namespace L2
open PySem PySem.Spec PyProof.Rows
abbrev Key:=Sum Int Str
def gu:Key->CU->Bool
 | .inl k,v=>Mf k v
 | .inr x,v=>LB x v
def tR(w:Dp):Key->Int
 | .inl k=>hashInt k
 | .inr x=>hashStr w x
theorem bM:∀{k:Key}{v:CU},gu k v=true->(∃i t,k=FT i/\v=IY i t)\/(∃x t,k=FU x/\v=KA x t)
 | .inl i,v,h=>by
  obtain⟨t,e⟩:=Value.isInt_shape (k:=i) (v:=v) h;exact .inl ⟨i,t,rfl,e⟩
 | .inr x,v,h=>by
  obtain⟨t,e⟩:=Value.isStrOf_shape (x:=x) (v:=v) h;exact .inr ⟨x,t,rfl,e⟩
theorem gR(i:Int)(t:Tok):gu (.inl i) (.int i t)=true:=by simp[gu,Mf]
theorem gS(x:Str)(t:Tok):gu (.inr x) (.str x t)=true:=by simp[gu,LB]
theorem yB(a b:Int):decide ((FT a:Key)=FT b)=(a==b):=by
 by_cases e:a=b;·subst e;simp
 ·have h:¬(FT a:Key)=FT b:=fun q=>e<|Mg q;rw[decide_eq_false h];exact(beq_eq_false_iff_ne.mpr e).symm
theorem yC(a b:Str):decide ((FU a:Key)=FU b)=decide (a=b):=by
 by_cases e:a=b;·subst e;simp
 ·have h:¬(FU a:Key)=FU b:=fun q=>e<|Mh q;rw[decide_eq_false h,decide_eq_false e]
theorem yD(a:Int)(b:Str):decide ((FT a:Key)=FU b)=false:=decide_eq_false (fun q=>nomatch q)
theorem yE(a:Str)(b:Int):decide ((FU a:Key)=FT b)=false:=decide_eq_false (fun q=>nomatch q)
def mixKind(prog:Dj)(w:Dp):PySem.KeyKind prog w Key where
 is:=gu
 hash:=tR w
 inj:=fun v a b ha hb=>by
  rcases bM ha with⟨i,t,rfl,rfl⟩|⟨x,t,rfl,rfl⟩
  ·rcases bM hb with⟨j,u,rfl,e⟩ | ⟨y,u,rfl,e⟩
   ·injection e with e1 _;rw[e1]
   ·exact nomatch e
  ·rcases bM hb with⟨j,u,rfl,e⟩ | ⟨y,u,rfl,e⟩
   ·exact nomatch e
   ·injection e with e1 _;rw[e1]
 byValue:=fun k v h=>by
  rcases bM h with⟨i,t,rfl,rfl⟩|⟨x,t,rfl,rfl⟩<;>rfl
 pyHash:=fun hv h=>by
  rcases bM hv with⟨i,t,rfl,rfl⟩|⟨x,t,rfl,rfl⟩
  ·exact wpAny_pyHash_int h
  ·exact wpAny_pyHash_str h
 eqBool:=fun hu hv h=>by
  rcases bM hu with⟨i,t,rfl,rfl⟩|⟨x,t,rfl,rfl⟩
  ·rcases bM hv with⟨j,u,rfl,rfl⟩ | ⟨y,u,rfl,rfl⟩
   ·rw[yB]at h;exact IZ h
   ·rw[yD]at h;exact K4 i t y u _ _ _ _ h
  ·rcases bM hv with⟨j,u,rfl,rfl⟩ | ⟨y,u,rfl,rfl⟩
   ·rw[yE]at h;exact K5 x t j u _ _ _ _ h
   ·rw[yC]at h;exact wpAny_eqBool_str h
 «strs»:=fun k x t v h=>by
  rcases bM h with⟨i,u,rfl,e⟩|⟨y,u,rfl,e⟩
  ·exact nomatch e
  ·injection e with e1 _;subst e1;cases v<;>rfl
theorem nq(prog:Dj)(w:Dp)(i:Int)(t:Tok):(mixKind prog w).is (.inl i) (.int i t)=true:=gR i t
theorem nr(prog:Dj)(w:Dp)(x:Str)(t:Tok):(mixKind prog w).is (.inr x) (.str x t)=true:=gS x t
inductive V where
 |non|bl (b:Bool)|int (i:Int)|str (x:Str)|byt (b:Array UInt8)|flt (b:UInt64)|ref (a:Addr)|ty (n:String)
 deriving DecidableEq
def RelV:V->CU->Prop
 | .non,u=>u=En
 | .bl b,u=>u=Lc b
 | .int i,u=>∃t,u=IY i t
 | .str x,u=>∃t,u=KA x t
 | .byt b,u=>∃t,u=Value.bytes b t
 | .flt b,u=>∃t,u=Mj b t
 | .ref a,u=>u=Eg a
 | .ty n,u=>u=Hq n
abbrev Vals:List V->List CU->Prop:=Paired RelV
theorem Vals.length{xs:List V}{us:List CU}(r:Vals xs us):xs.length=us.length:=Paired.length r
theorem Vals.get:∀{xs:List V}{us:List CU}{i:Nat}{x:V},Vals xs us->xs[i]? =some x->∃u,us[i]? =some u/\RelV x u
 |_,_,_,_,.nil,e=>by simp at e
 |_,_,0,_,.cons r _,e=>by simp at e;subst e;exact⟨_,rfl,r⟩
 |_,_,i+1,x, .cons _ t,e=>by
  obtain⟨u,h1,h2⟩:=Vals.get (i:=i) (x:=x) t (by simpa using e);exact⟨u,by simpa using h1,h2⟩
theorem Vals.set{x:V}{u:CU}(r:RelV x u):∀{xs:List V}{us:List CU}(i:Nat),Vals xs us->Vals (xs.set i x) (us.set i u)
 |_,_,_,.nil=>.nil
 |_,_,0,.cons _ t=>.cons r t
 |_,_,i+1,.cons q t=>.cons q<|Vals.set r i t
theorem Vals.append:∀{xs ys:List V}{us ws:List CU},Vals xs us->Vals ys ws->Vals (xs++ys) (us++ws)
 |_,_,_,_,.nil,s=>s
 |_,_,_,_,.cons r t,s=>.cons r<|Vals.append t s
theorem Vals.take:∀{xs:List V}{us:List CU}(n:Nat),Vals xs us->Vals (xs.take n) (us.take n)
 |_,_,0,_=>.nil
 |_,_,_+1,.nil=>.nil
 |_,_,n+1,.cons r t=>.cons r<|Vals.take n t
theorem Vals.drop:∀{xs:List V}{us:List CU}(n:Nat),Vals xs us->Vals (xs.drop n) (us.drop n)
 |_,_,0,r=>r
 |_,_,_+1,.nil=>.nil
 |_,_,n+1,.cons _ t=>Vals.drop n t
def RelO:Option V->Option CU->Prop
 |some v,some u=>RelV v u
 |none,none=>True
 |_,_=>False
def KV{κ:Type}:List (κ×V)->List (κ×CU)->Prop:=Paired fun(p:κ×V)(q:κ×CU)=>p.1=q.1/\RelV p.2 q.2
def kV:Key->V
 | .inl i=>.int i
 | .inr x=>.str x
inductive HO where
 |lst (xs:List V)
 |tup (xs:List V)
 |dK (kvs:List (Key×V))|dT (kvs:List (List Key×V))
 |set (S:Int->Bool) (n:Nat)
 |ins (C dx:Addr) (fs:List (Str×V))
 |own (x:Addr)
 |xd (fs:List (Str×V))
 |met (f x:Addr)
 |rng (lo hi:Int)
 |frz (o:Obj) (u:HO)
 |tbl (ps:Array CU)
 |ext (φ:Heap->Prop)
abbrev Hp:=Addr->Option HO
def cZ(H:Hp)(a:Addr)(o:HO):Hp:=fun b=>if b=a then some o else H b
theorem aH{H:Hp}{a:Addr}{o:HO}:cZ H a o a=some o:=by unfold cZ;rw[if_pos rfl]
theorem aw{H:Hp}{a b:Addr}{o:HO}(h:b≠a):cZ H a o b=H b:=by unfold cZ;rw[if_neg h]
theorem cq{H:Hp}{a b:Addr}{o:HO}(h:H a=some o)(h':H b=none):a≠b:=by
 intro e;subst e;rw[h]at h';cases h'
def IsTupD(h:Heap)(a:Addr)(items:Array CU):Prop:=∃o,h.get? a=some o/\(o.cls=.type "tuple"/\o.dict=none)/\∃n,o.data=.seq items n
theorem IsTupD.tup{h:Heap}{a:Addr}{items:Array CU}(t:IsTupD h a items):IsTup h a items:=let ⟨o,e,c,n,d⟩:=t;⟨o,e,c.1,n,d⟩
theorem IsTupD.new(h:Heap)(items:Array CU):IsTupD (h.push {cls:=.type "tuple",data:=.seq items}) h.objs.size items:=⟨_,D6 h rfl,⟨rfl,rfl⟩,0,rfl⟩
section
variable(P:Dj)(w:Dp)
def ObjOk(H:Hp)(h:Heap)(a:Addr):HO->Prop
 | .lst xs=>xs.length<=sizeLine/\∃(its:List CU)(n:Nat),Vals xs its/\h.get? a=some {cls:=.type "list",data:=.seq its.toArray n}
 | .tup xs=>xs.length<=sizeLine/\∃its:List CU,Vals xs its/\IsTupD h a its.toArray
 | .dK kvs=>kvs.length<=sizeLine/\(a==sysModules)=false/\∃vs,KV kvs vs/\h.DictOf (mixKind P w) a vs
 | .dT kvs=>kvs.length<=sizeLine/\(a == sysModules)=false/\∃xs:List (List Key×Addr×CU),
   Paired (fun(p:List Key×V)(q:List Key×Addr×CU)=>p.1=q.1/\H q.2.1=some (.tup<|p.1.map kV)/\RelV p.2 q.2.2) kvs xs/\
   ∃o es ep,h.get? a=some o/\o.ExactDict/\o.data=.dict es ep/\es.toList=xs.map (entryOfKey<|tupleKind<|mixKind P w)/\(xs.map (·.1)).Nodup
 | .set S n=>h.SetOf (intKind P w) a S n
 | .ins C dx fs=>H dx=some (.own a)/\fs.length<=1000/\dx≠a/\h.get? a=some (Ji C dx)/\
   ∃mA,h.Ns1 dx mA/\(∀f,RelO (fs.lookup f)<|mA f)/\M4 mA (fs.map (·.1))
 | .own _=>∃o,h.get? a=some o
 | .xd fs=>∃mA,h.Ns1 a mA/\∀f,RelO (fs.lookup f)<|mA f
 | .rng lo hi=>∃t u v,h.get? a=some {cls:=.type "range",data:=.fields #[.int lo t,.int hi u,.int 1 v]}
 | .frz o u=>h.get? a=some o/\ObjOk H h a u
 | .tbl ps=>h.get? a=some {cls:=.none,data:=.fields ps}
 | .met f x=>h.get? a=some (Iy (.ref f)<|.ref x)
 | .ext φ=>φ h/\(∃o,h.get? a=some o)/\∀h1 h2:Heap,φ h1->(∀o,h1.get? a=some o->h2.get? a=some o)->φ h2
def HOk(H:Hp)(h:Heap):Prop:=∀a o,H a=some o->ObjOk P w H h a o
end
section
variable{P:Dj}{w:Dp}{H H':Hp}{h h':Heap}{a:Addr}{o:HO}
theorem ObjOk.lt(x:ObjOk P w H h a o):a<h.objs.size:=by
 cases o with
 |lst xs=>obtain⟨_,_,_,_,e⟩:=x;exact Dc e
 |tup xs=>obtain⟨_,_,_,p⟩:=x;exact p.tup.lt
 |dK kvs=>obtain⟨_,_,_,_,o,_,_,e,_⟩:=x;exact Dc e
 |dT kvs=>obtain⟨_,_,_,_,o,_,_,e,_⟩:=x;exact Dc e
 |set S n=>obtain⟨o,_,_,_,e,_⟩:=x;exact Dc e
 |ins C dx fs=>obtain⟨_,_,_,e,_⟩:=x;exact Dc e
 |own y=>obtain⟨_,e⟩:=x;exact Dc e
 |xd fs=>obtain⟨_,⟨_,_,_,e,_⟩,_⟩:=x;exact Dc e
 |rng lo hi=>obtain⟨_,_,_,e⟩:=x;exact Dc e
 |frz ob u=>obtain⟨e,_⟩:=x;exact Dc e
 |tbl ps=>exact Dc (show h.get? a=some _ from x)
 |met f y=>exact Dc (show h.get? a=some _ from x)
 |ext φ=>obtain⟨_,⟨_,e⟩,_⟩:=x;exact Dc e
theorem Paired.mapP{α β:Type}{F G:α->β->Prop}:∀{l₁:List α}{l₂:List β},Paired F l₁ l₂->(∀a b,F a b->G a b)->Paired G l₁ l₂
 |_,_,.nil,_=>.nil
 |_,_,.cons r t,f=>.cons (f _ _ r)<|Paired.mapP t f
theorem ObjOk.stay(x:ObjOk P w H h a o)(k:∀b u,(b=a\/H b=some (.own a))->h.get? b=some u->h'.get? b=some u)
  (ho:∀b,H b=some (.own a)->H' b=some (.own a)) (ht:∀b xs,H b=some (.tup xs)->H' b=some (.tup xs)):ObjOk P w H' h' a o:=by
 induction o with
 |lst xs=>obtain⟨z,its,n,r,e⟩:=x;exact⟨z,its,n,r,k _ _ (.inl rfl) e⟩
 |tup xs=>obtain⟨z,its,r,ob,e,c⟩:=x;exact⟨z,its,r,ob,k _ _ (.inl rfl) e,c⟩
 |dK kvs=>obtain⟨z,y,vs,r,ob,es,ep,e,c⟩:=x;exact⟨z,y,vs,r,ob,es,ep,k _ _ (.inl rfl) e,c⟩
 |dT kvs=>
  obtain⟨z,y,xs,r,ob,es,ep,e,c⟩:=x;exact⟨z,y,xs,Paired.mapP r fun p q z=>⟨z.1,ht _ _ z.2.1,z.2.2⟩,ob,es,ep,k _ _ (.inl rfl) e,c⟩
 |set S n=>obtain⟨ob,es,ep,t,e,c⟩:=x;exact⟨ob,es,ep,t,k _ _ (.inl rfl) e,c⟩
 |ins C dx fs=>
  obtain⟨d,z,ne,e,mA,⟨od,es,ep,e2,c⟩,r⟩:=x;exact⟨ho _ d,z,ne,k _ _ (.inl rfl) e,mA,⟨od,es,ep,k _ _ (.inr d) e2,c⟩,r⟩
 |own y=>obtain⟨ob,e⟩:=x;exact⟨ob,k _ _ (.inl rfl) e⟩
 |xd fs=>obtain⟨mA,⟨od,es,ep,e,c⟩,r⟩:=x;exact⟨mA,⟨od,es,ep,k _ _ (.inl rfl) e,c⟩,r⟩
 |rng lo hi=>obtain⟨t,u,v,e⟩:=x;exact⟨t,u,v,k _ _ (.inl rfl) e⟩
 |frz ob u ih=>obtain⟨e,q⟩:=x;exact⟨k _ _ (.inl rfl) e,ih q⟩
 |tbl ps=>
  have e:h.get? a=some {cls:=.none,data:=.fields ps}:=x;show h'.get? a=some {cls:=.none,data:=.fields ps};exact k a _ (.inl rfl) e
 |met f y=>
  have e:h.get? a=some (Iy (.ref f)<|.ref y):=x;show h'.get? a=some (Iy (.ref f)<|.ref y);exact k a _ (.inl rfl) e
 |ext φ=>obtain⟨p,⟨o,e⟩,st⟩:=x;exact⟨st _ _ p fun o q=>k _ _ (.inl rfl) q,⟨o,k _ _ (.inl rfl) e⟩,st⟩
theorem HOk.lt(x:HOk P w H h)(e:H a=some o):a<h.objs.size:=(x a o e).lt
theorem HOk.fresh(x:HOk P w H h)(e:h.objs.size<=a):H a=none:=by
 cases q:H a with
 |none=>rfl
 |some u=>exact absurd (D8 (x.lt q) e)<|Eu _
theorem HOk.kept(x:HOk P w H h)(k:∀b u,h.get? b=some u->h'.get? b=some u):HOk P w H h':=fun a o e=>
 (x a o e).stay (fun b u _ q=>k b u q) (fun _ q=>q) fun _ _ q=>q
theorem HOk.laid(x:HOk P w H h)(k:∀b u,h.get? b=some u->h'.get? b=some u)(hp:h.objs.size<=a)(new:ObjOk P w (cZ H a o) h' a o):HOk P w (cZ H a o) h':=fun b u e=>by
 have hn:=x.fresh hp;by_cases hb:b=a;·subst hb;rw[aH]at e;cases e;exact new
 ·rw[aw hb]at e;exact(x b u e).stay (fun c v _ q=>k c v q) (fun c q=>by rw[aw<|cq q hn];exact q) fun c xs q=>by rw[aw<|cq q hn];exact q
end
def Rd(H:Hp)(a:Addr)(u:HO):Prop:=H a=some u\/∃o,H a=some (.frz o u)
theorem Rd.ok{P:Dj}{w:Dp}{H:Hp}{h:Heap}{a:Addr}{u:HO}(r:Rd H a u)(x:HOk P w H h):ObjOk P w H h a u:=by
 rcases r with r|⟨o,r⟩
 ·exact x a u r
 ·obtain⟨_,q⟩:=x a _ r;exact q
def zY:Option HO->Prop
 |some (.lst _)=>True
 |some (.dK _)=>True
 |some (.dT _)=>True
 |some (.set _ _)=>True
 |some (.ins _ _ _)=>True
 |some (.ext _)=>True
 |_=>False
section
variable{P:Dj}{w:Dp}{H:Hp}{h h':Heap}{x e:Addr}{o':HO}
theorem HOk.write(ok:HOk P w H h)(mu:zY (H x))(he:e=x\/H e=some (.own x))(k:∀b u,b≠e->h.get? b=some u->h'.get? b=some u)(heo:∃u,h'.get? e=some u)
  (new:ObjOk P w (cZ H x o') h' x o'):HOk P w (cZ H x o') h':=fun b u q=>by
 have nown:∀c y,H c=some (.own y)->c≠x:=fun c y r z=>by subst z;rw[r]at mu;exact mu
 have ntup:∀c xs,H c=some (.tup xs)->c≠x:=fun c xs r z=>by subst z;rw[r]at mu;exact mu
 by_cases hb:b=x;·subst hb;rw[aH]at q;cases q;exact new
 ·rw[aw hb]at q;by_cases hbe:b=e
  ·have q':H b=some (.own x):=by
    rcases he with z|z;·exact absurd (hbe.trans z) hb
    ·rw[hbe];exact z
   rw[q]at q';cases q';obtain⟨v,hv⟩:=heo;exact⟨v,by rw[hbe];exact hv⟩
  ·refine(ok b u q).stay (fun c v hc r=>k c v ?_ r) (fun c r=>by rw[aw<|nown c b r];exact r) fun c xs r=>by rw[aw<|ntup c xs r];exact r
   rcases hc with rfl|hc;·exact hbe
   ·rintro rfl;rcases he with z|z;·exact nown c b hc z
    ·rw[hc]at z;cases z;exact hb rfl
end
structure Un(fs ex:List Addr)(H H':Hp)(h h':Heap):Prop where
 keep:∀b o,h.get? b=some o->H b=none->b∉fs->b∉ex->h'.get? b=some o
 slot:∀b o,h.get? b=some o->H b=none->b∈fs->b∉ex->∃sl,h'.get? b=some {o with slots:=sl}
 free:∀b o,h.get? b=some o->H b=none->b∉ex->H' b=none
 there:∀b o,h.get? b=some o->b∉ex->∃o',h'.get? b=some o'
 tups:∀b xs,H b=some (.tup xs)->H' b=some (.tup xs)
 frzs:∀b o u,H b=some (.frz o u)->H' b=some (.frz o u)
 tbls:∀b ps,H b=some (.tbl ps)->∃more,H' b=some (.tbl<|ps++more)
section
variable{fs fs' ex ex':List Addr}{H H1 H2:Hp}{h h1 h2 h':Heap}{a x e:Addr}{o:HO}
theorem Un.any(u:Un fs ex H H1 h h1){b:Addr}{ob:Obj}(q:h.get? b=some ob)(n:H b=none)(hx:b∉ex):∃sl,h1.get? b=some {ob with slots:=sl}:=by
 by_cases hb:b∈fs;·exact u.slot b ob q n hb hx
 ·exact⟨ob.slots,u.keep b ob q n hb hx⟩
theorem Un.kept(k:∀b u,h.get? b=some u->h'.get? b=some u):Un fs ex H H h h':=
 ⟨fun b ob q _ _ _=>k b ob q,fun b ob q _ _ _=>⟨ob.slots,k b ob q⟩,fun _ _ _ n _=>n,fun b ob q _=>⟨ob,k b ob q⟩,fun _ _ q=>q,fun _ _ _ q=>q,fun _ ps q=>⟨#[],by rw[q];simp⟩⟩
theorem Un.refl:Un fs ex H H h h:=Un.kept fun _ _ q=>q
theorem Un.laid(k:∀b u,h.get? b=some u->h'.get? b=some u)(hp:h.objs.size<=a)(hn:H a=none):Un fs ex H (cZ H a o) h h' where
 keep:=fun b u q _ _ _=>k b u q
 slot:=fun b u q _ _ _=>⟨u.slots,k b u q⟩
 free:=fun b u q n _=>by rw[aw<|Dv<|D8 (Dc q) hp];exact n
 there:=fun b u q _=>⟨u,k b u q⟩
 tups:=fun b xs q=>by rw[aw<|cq q hn];exact q
 frzs:=fun b u xs q=>by rw[aw<|cq q hn];exact q
 tbls:=fun b ps q=>⟨#[],by rw[aw<|cq q hn,q];simp⟩
theorem Un.write(mu:zY (H x))(he:e=x\/H e=some (.own x))(k:∀b u,b≠e->h.get? b=some u->h'.get? b=some u)(heo:∃u,h'.get? e=some u):Un fs ex H (cZ H x o) h h':=by
 have hx:∀b,H b=none->b≠x:=fun b n z=>by subst z;rw[n]at mu;exact mu
 have hb:∀b,H b=none->b≠e:=fun b n z=>by
  subst z;rcases he with r|r
  ·exact hx b n r
  ·rw[n]at r;cases r
 have hm:∀b u,H b=some u->¬zY (some u)->b≠x:=fun b u q nm z=>by subst z;rw[q]at mu;exact nm mu
 refine⟨fun b u q n _ _=>k b u (hb b n) q,fun b u q n _ _=>⟨u.slots,k b u (hb b n) q⟩,fun b u q n _=>by rw[aw<|hx b n];exact n,fun b u q _=>?_,
  fun b xs q=>by rw[aw (hm b _ q fun z=>z)];exact q,fun b u xs q=>by rw[aw (hm b _ q fun z=>z)];exact q,fun b ps q=>⟨#[],by rw[aw (hm b _ q fun z=>z),q];simp⟩⟩
 by_cases hbe:b=e;·subst hbe;exact heo
 ·exact⟨u,k b u hbe q⟩
end
def gT(h:Heap)(H:Hp):List Addr:=(Ed h.objs.size).filter fun a=>(H a).isSome
def m9(h:Heap)(H:Hp):Heap:=PySem.W.hideAll h<|gT h H
theorem rR(h:Heap)(H:Hp):(m9 h H).objs.size=h.objs.size:=PySem.W.hideAll_size _ _
theorem tS{h:Heap}{H:Hp}{b:Addr}{o:Obj}(e:h.get? b=some o)(n:H b=none):(m9 h H).get? b=some o:=
 PySem.W.hideAll_get _ e fun hm=>by
  have q:(H b).isSome=true:=(Jj.mp hm).2;rw[n]at q;simp at q
theorem wx{h:Heap}{H:Hp}{b:Addr}{o:Obj}(e:(m9 h H).get? b=some o):h.get? b=some o/\H b=none:=by
 have e':h.get? b=some o:=PySem.W.of_hideAll (gT h H) e;refine⟨e',?_⟩;cases q:H b with
 |none=>rfl
 |some x=>
  have hm:b∈gT h H:=Jj.mpr ⟨Gs.mpr<|Dc e',by simp[q]⟩;have z:(m9 h H).get? b=none:=PySem.W.hideAll_none (gT h H) hm;rw[z]at e;cases e
structure Mod(K:CT)(mg:Str->Option CU)(base:Heap):Prop where
 kin:K.In base
 glob:base.Ns mainGlobals mg
 blt:∃mb,base.Ns builtinsNs mb/\∀x:Str,x≠"__name__"->mb x=bootBuiltins x
 nolimit:base.NoLimit
structure Cx where
 prog:Dj
 w:Dp
 K:CT
 mg:Str->Option CU
 base:Heap
 A:DS
 N:List Str
 s₀:CV
 H₀:Hp
 env:Env
 outer:List Env
 stack:List Env
 ex:List Addr
 fn:Str->Bool
 calm:Bool
 pn:List (Addr×Obj)
 xe:CU->CV->Prop
def frs(l:List Env):List Addr:=l.filterMap (·.frame)
abbrev Cx.fs(X:Cx):List Addr:=frs X.outer
def Vis(sc:Gi)(x:Str):Prop:=sc.names.lookup x=some .local\/sc.names.lookup x=some .cell\/sc.names.lookup x=some .free
def yd(sc:Gi)(x:Str):Prop:=sc.names.lookup x=some .local\/sc.names.lookup x=some .cell
def Look(env:Env)(h:Heap)(m:Str->Option CU)(x:Str)(u:CU):Prop:=
 (env.kindOf x=some .local/\m x=some u)\/((env.kindOf x=some .cell\/env.kindOf x=some .free)/\∃c,env.cells.lookup x=some c/\h.IsCell c (some u))
structure Cx.Ok(X:Cx):Prop where
 mod:Mod X.K X.mg X.base
 kind:X.env.scope.kind=.function
 glob:X.env.globals=mainGlobals
 blt:X.env.builtins=builtinsNs
 above:X.s₀.heap.objs.size<=X.env.locals
 inj:∀x y c,X.env.cells.lookup x=some c->X.env.cells.lookup y=some c->x=y
 has:∀x,(X.env.kindOf x=some .cell\/X.env.kindOf x=some .free)->∃c,X.env.cells.lookup x=some c
 cab:∀x c,X.fn x=true->X.env.cells.lookup x=some c->X.s₀.heap.objs.size<=c
 hd:X.calm=true->X.A.handled=none
 frames:X.A.frames=some X.stack
 stk:X.stack=X.outer\/(X.stack=X.env::X.outer/\X.env.frame=some X.env.locals)
 exf:∀b∈X.ex,b≠X.env.locals/\∀x c,X.env.cells.lookup x=some c->c≠b
 bs:∀b o,X.base.get? b=some o->X.s₀.heap.get? b=some o/\X.H₀ b=none
 bsz:X.base.objs.size<=X.s₀.heap.objs.size
 noex:∀b o,X.base.get? b=some o->b∉X.ex
 exfs:∀b∈X.ex,b∉X.fs
 funs:X.s₀.heap.FunFrames X.base X.outer
 frf:∀b∈X.fs,X.H₀ b=none
structure Inv(X:Cx)(pins:List (Addr×Obj))(σ:List (Option V))(H:Hp)(s:CV):Prop where
 ok:X.Ok
 os:s.os=X.s₀.os
 bare:Iz s.gens
 base:Un X.fs X.ex X.H₀ H X.s₀.heap s.heap
 loc:∃m,s.heap.Ns X.env.locals m/\∀(i:Nat)(x:Str)(v:V),X.N[i]? =some x->σ[i]? =some (some v)->Vis X.env.scope x->∃u,RelV v u/\Look X.env s.heap m x u
 cell:∀x c,X.env.cells.lookup x=some c->∃v,s.heap.IsCell c v
 free:H X.env.locals=none
 freeC:∀x c,X.env.cells.lookup x=some c->H c=none
 pin:∀p∈X.pn++pins,s.heap.get? p.1=some p.2/\H p.1=none/\p.1≠X.env.locals/\p.1∉X.fs/\∀v,p.2.data≠.cell v
 hok:HOk X.prog X.w H s.heap
 len:σ.length=X.N.length
section
variable{X:Cx}{pins:List (Addr×Obj)}{σ:List (Option V)}{H H':Hp}{s:CV}{h':Heap}
theorem Cx.Ok.nofr(ok:X.Ok){b:Addr}{o:Obj}(e:X.base.get? b=some o):b∉X.fs:=fun hb=>by
 have:=(ok.funs.mem hb).1;rw[e]at this;cases this
theorem Inv.bs(I:Inv X pins σ H s):∀b o,X.base.get? b=some o->s.heap.get? b=some o/\H b=none:=fun b o e=>
 ⟨I.base.keep b o (I.ok.bs b o e).1 (I.ok.bs b o e).2 (I.ok.nofr e) (I.ok.noex b o e),I.base.free b o (I.ok.bs b o e).1 (I.ok.bs b o e).2 (I.ok.noex b o e)⟩
theorem Inv.bk(I:Inv X pins σ H s):∀b o,X.base.get? b=some o->s.heap.get? b=some o:=fun b o e=>(I.bs b o e).1
theorem Inv.mod(I:Inv X pins σ H s):Mod X.K X.mg X.base:=I.ok.mod
theorem Inv.kIn(I:Inv X pins σ H s):X.K.In s.heap:=I.ok.mod.kin.keeps I.bk
theorem Inv.lt(I:Inv X pins σ H s):X.env.locals<s.heap.objs.size:=let ⟨_,hn,_⟩:=I.loc;hn.lt
theorem Inv.sz(I:Inv X pins σ H s):X.s₀.heap.objs.size<=s.heap.objs.size:=EO I.ok.above<|GB I.lt
theorem Inv.nofs(I:Inv X pins σ H s){a:Addr}(h:s.heap.objs.size<=a):a∉X.fs:=fun hb=>by
 obtain⟨_,o,ho,_⟩:=I.ok.funs.mem hb;exact absurd (D8 (Dc ho)<|EO I.sz h)<|Eu _
theorem Inv.cne(I:Inv X pins σ H s):∀x c,X.env.cells.lookup x=some c->c≠X.env.locals:=fun x c e z=>by
 obtain⟨v,o,ho,hd⟩:=I.cell x c e;obtain⟨m,⟨o',es,ep,ho',hd',_⟩,_⟩:=I.loc;rw[z,ho']at ho;cases ho;rw[hd']at hd;cases hd
theorem Inv.funs(I:Inv X pins σ H s):s.heap.FunFrames X.base X.outer:=by
 have all:∀(l:List Env),(∀b∈frs l,b∈X.fs)->X.s₀.heap.FunFrames X.base l->s.heap.FunFrames X.base l:=by
  intro l
  induction l with
  |nil=>intro _ _;trivial
  |cons env r ih=>
   intro hs hl;obtain⟨hk,⟨L,o,hf,hn,ho,hd⟩,hr⟩:=hl;have hL:L∈X.fs:=hs L (by unfold frs;rw[Fw,hf];exact Di);obtain⟨sl,e⟩:=I.base.slot L o ho (I.ok.frf L hL) hL fun z=>I.ok.exfs L z hL;exact⟨hk,⟨L,_,hf,hn,e,hd⟩,ih (fun b hb=>hs b (by unfold frs;rw[Fw,hf];exact Dk _ hb)) hr⟩
 exact all X.outer (fun _ hb=>hb) I.ok.funs
theorem Inv.stack(I:Inv X pins σ H s):s.heap.FunFrames X.base X.stack:=by
 rcases I.ok.stk with e|⟨e,hf⟩
 ·rw[e];exact I.funs
 ·rw[e];obtain⟨m,hn,_⟩:=I.loc;refine .cons (by rw[I.ok.kind];decide) hf hn ?_ I.funs;exact Heap.get?_none_of_le<|EO I.ok.bsz I.ok.above
theorem Inv.stkSub(I:Inv X pins σ H s):∀b∈frs X.stack,b∈X.env.locals::X.fs:=fun b hb=>by
 rcases I.ok.stk with e|⟨e,hf⟩
 ·rw[e]at hb;exact Dk _ hb
 ·rw[e]at hb;unfold frs at hb;rw[Fw,hf]at hb;exact hb
theorem Inv.stkFree(I:Inv X pins σ H s):∀b∈frs X.stack,H b=none:=fun b hb=>by
 rcases Dh.mp (I.stkSub b hb)with e|hb;·rw[e];exact I.free
 ·obtain⟨_,o,ho,_⟩:=I.ok.funs.mem hb;exact I.base.free b o ho (I.ok.frf b hb) fun z=>I.ok.exfs b z hb
theorem Inv.step{g':Array GenState}{t':Nat}{d':Drawn}{ch:List Addr}(I:Inv X pins σ H s)
  (hch:∀b∈ch,(b∈X.ex\/X.s₀.heap.objs.size<=b)/\b≠X.env.locals/\(∀x c,X.env.cells.lookup x=some c->c≠b)/\∀p∈X.pn++pins,p.1≠b)
  (keep:∀b o,b≠X.env.locals->b∉X.fs->b∉ch->s.heap.get? b=some o->H b=none->h'.get? b=some o)
  (slot:∀b o,b≠X.env.locals->b∈X.fs->b∉ch->s.heap.get? b=some o->H b=none->∃sl,h'.get? b=some {o with slots:=sl}) (free:∀b o,b∉ch->s.heap.get? b=some o->H b=none->H' b=none)
  (there:∀b o,b∉ch->s.heap.get? b=some o->∃o',h'.get? b=some o')
  (tups:∀b xs,H b=some (.tup xs)->H' b=some (.tup xs)) (frzs:∀b o u,H b=some (.frz o u)->H' b=some (.frz o u)) (tbls:∀b ps,H b=some (.tbl ps)->∃more,H' b=some (.tbl<|ps++more))
  (ns:∀m,s.heap.Ns X.env.locals m->h'.Ns X.env.locals m) (hok:HOk X.prog X.w H' h') (hg:Iz g'):
  Inv X pins σ H' {s with heap:=h',gens:=g',drawn:=d',toks:=t'}:=by
 have neL:∀b o,X.s₀.heap.get? b=some o->b≠X.env.locals:=fun b o e=>Dv<|D8 (Dc e) I.ok.above;have neC:∀b o,X.s₀.heap.get? b=some o->b∉X.ex->b∉ch:=fun b o e hx hb=>by
  rcases (hch b hb).1 with z|z;·exact hx z
  ·exact absurd (D8 (Dc e) z)<|Eu _
 have cellK:∀x c,X.env.cells.lookup x=some c->∀v,s.heap.IsCell c v->h'.IsCell c v:=fun x c e v⟨o,ho,hd⟩=>by
  have nch:c∉ch:=fun z=>(hch c z).2.2.1 x c e rfl;by_cases hc:c∈X.fs
  ·obtain⟨sl,q⟩:=slot c o (I.cne x c e) hc nch ho<|I.freeC x c e;exact⟨_,q,hd⟩
  ·exact⟨o,keep c o (I.cne x c e) hc nch ho<|I.freeC x c e,hd⟩
 refine⟨I.ok,I.os,hg,⟨fun b o e n hb hx=>?_,fun b o e n hb hx=>?_,fun b o e n hx=>?_,fun b o e hx=>?_,fun b xs e=>tups b xs<|I.base.tups b xs e,fun b o xs e=>frzs b o xs<|I.base.frzs b o xs e,fun b ps e=>?_⟩,?_,fun x c e=>?_,?_,fun x c e=>?_,fun p hp=>?_,hok,I.len⟩;·exact keep b o (neL b o e) hb (neC b o e hx) (I.base.keep b o e n hb hx)<|I.base.free b o e n hx
 ·obtain⟨sl,e1⟩:=I.base.slot b o e n hb hx;obtain⟨sl',e2⟩:=slot b _ (neL b o e) hb (neC b o e hx) e1<|I.base.free b o e n hx;exact⟨sl',e2⟩
 ·obtain⟨o',e1⟩:=I.base.there b o e hx;exact free b o' (neC b o e hx) e1<|I.base.free b o e n hx
 ·obtain⟨o',e1⟩:=I.base.there b o e hx;exact there b o' (neC b o e hx) e1
 ·obtain⟨m1,e1⟩:=I.base.tbls b ps e;obtain⟨m2,e2⟩:=tbls b _ e1;exact⟨m1++m2,by rw[e2,Array.append_assoc]⟩
 ·obtain⟨m,hn,hl⟩:=I.loc;refine⟨m,ns m hn,fun i x v e1 e2 e3=>?_⟩;obtain⟨u,r,l⟩:=hl i x v e1 e2 e3;refine⟨u,r,?_⟩;rcases l with l|⟨k,c,e,z⟩
  ·exact .inl l
  ·exact .inr ⟨k,c,e,cellK x c e _ z⟩
 ·obtain⟨v,z⟩:=I.cell x c e;exact⟨v,cellK x c e v z⟩
 ·obtain⟨m,⟨o,_,_,ho,_⟩,_⟩:=I.loc;exact free _ o (fun z=>(hch _ z).2.1 rfl) ho I.free
 ·obtain⟨v,o,ho,hd⟩:=I.cell x c e;exact free c o (fun z=>(hch c z).2.2.1 x c e rfl) ho<|I.freeC x c e
 ·obtain⟨e,n,ne,nf,d⟩:=I.pin p hp;have nch:p.1∉ch:=fun z=>(hch p.1 z).2.2.2 p hp rfl;exact⟨keep p.1 p.2 ne nf nch e n,free p.1 p.2 nch e n,ne,nf,d⟩
theorem Inv.un{t':Nat}(I:Inv X pins σ H s)(u:Un X.fs [] H H' s.heap h')(hok:HOk X.prog X.w H' h'):Inv X pins σ H' {s with heap:=h',toks:=t'}:=by
 obtain⟨m,⟨o,es,ep,ho,r⟩,_⟩:=id I.loc;obtain⟨sl,hL⟩:=u.any ho I.free (by simp);exact I.step (g':=s.gens) (d':=s.drawn) (ch:=[]) (fun _ z=>nomatch z) (fun b o _ hb _ e n=>u.keep b o e n hb (by simp)) (fun b o _ hb _ e n=>u.slot b o e n hb (by simp)) (fun b o _ e n=>u.free b o e n (by simp)) (fun b o _ e=>u.there b o e (by simp)) u.tups u.frzs u.tbls (fun m' hm=>by
  obtain⟨o',es',ep',ho',r'⟩:=hm;rw[ho]at ho';cases ho';exact⟨_,es',ep',hL,r'⟩) hok I.bare
theorem Inv.call{g':Array GenState}{t':Nat}{d':Drawn}{ch:List Addr}(I:Inv X pins σ H s)(u:Un (frs X.stack) ch H H' s.heap h')(hok:HOk X.prog X.w H' h')(hg:Iz g')
  (hch:∀b∈ch,(b∈X.ex\/X.s₀.heap.objs.size<=b)/\b≠X.env.locals/\(∀x c,X.env.cells.lookup x=some c->c≠b)/\∀p∈X.pn++pins,p.1≠b):
  Inv X pins σ H' {s with heap:=h',gens:=g',drawn:=d',toks:=t'}:=by
 obtain⟨m,⟨o,es,ep,ho,r⟩,_⟩:=id I.loc;obtain⟨sl,hL⟩:=u.any ho I.free fun z=>(hch _ z).2.1 rfl;exact I.step (ch:=ch) hch (fun b o hL hb hc e n=>u.keep b o e n (fun z=>(Dh.mp<|I.stkSub b z).elim hL hb) hc) (fun b o _ _ hc e n=>u.any e n hc) (fun b o hc e n=>u.free b o e n hc) (fun b o hc e=>u.there b o e hc) u.tups u.frzs u.tbls (fun m' hm=>by
  obtain⟨o',es',ep',ho',r'⟩:=hm;rw[ho]at ho';cases ho';exact⟨_,es',ep',hL,r'⟩) hok hg
theorem Inv.turned{t':Nat}{it:Addr}(I:Inv X pins σ H s)(k:∀b o,b≠it->s.heap.get? b=some o->h'.get? b=some o)(hn:H it=none)(hL:it≠X.env.locals)
  (h1:it∈X.ex\/X.s₀.heap.objs.size<=it) (h2:∀x c,X.env.cells.lookup x=some c->c≠it) (h3:∀p∈X.pn++pins,p.1≠it):Inv X pins σ H {s with heap:=h',toks:=t'}:=by
 have nit:∀b u,H b=some u->b≠it:=fun b u e z=>by rw[z,hn]at e;cases e
 refine I.step (g':=s.gens) (d':=s.drawn) (ch:=[it]) (fun b hb=>?_) (fun b o _ _ hc e _=>k b o (fun z=>hc (by simp[z])) e) (fun b o _ _ hc e _=>⟨o.slots,k b o (fun z=>hc (by simp[z])) e⟩) (fun _ _ _ _ n=>n)
  (fun b o hc e=>⟨o,k b o (fun z=>hc (by simp[z])) e⟩) (fun _ _ e=>e) (fun _ _ _ e=>e) (fun b ps e=>⟨#[],by rw[e];simp⟩) (fun m hm=>?_) (fun b u e=>?_) I.bare
 ·have e:b=it:=by simpa using hb
  subst e;exact⟨h1,hL,h2,h3⟩
 ·obtain⟨o,es,ep,ho,r⟩:=hm;exact⟨o,es,ep,k _ o (H9 hL) ho,r⟩
 ·refine(I.hok b u e).stay (fun c v hc q=>k c v ?_ q) (fun _ q=>q) fun _ _ q=>q;rcases hc with z|z
  ·rw[z];exact nit b u e
  ·exact nit c _ z
theorem Inv.tok(I:Inv X pins σ H s)(t:Nat):Inv X pins σ H {s with toks:=t}:=I.un (h':=s.heap) (t':=t) Un.refl I.hok
theorem Inv.kept{t':Nat}(I:Inv X pins σ H s)(k:∀b u,s.heap.get? b=some u->h'.get? b=some u):Inv X pins σ H {s with heap:=h',toks:=t'}:=I.un (Un.kept k)<|I.hok.kept k
theorem Inv.laid{a:Addr}{o:HO}{t':Nat}(I:Inv X pins σ H s)(k:∀b u,s.heap.get? b=some u->h'.get? b=some u)(hp:s.heap.objs.size<=a)(new:ObjOk X.prog X.w (cZ H a o) h' a o):
  Inv X pins σ (cZ H a o) {s with heap:=h',toks:=t'}:=I.un (Un.laid k hp<|I.hok.fresh hp)<|I.hok.laid k hp new
theorem Inv.write{x e:Addr}{o:HO}{t':Nat}(I:Inv X pins σ H s)(mu:zY (H x))(he:e=x\/H e=some (.own x))(k:∀b u,b≠e->s.heap.get? b=some u->h'.get? b=some u)(heo:∃u,h'.get? e=some u)
  (new:ObjOk X.prog X.w (cZ H x o) h' x o):Inv X pins σ (cZ H x o) {s with heap:=h',toks:=t'}:=I.un (Un.write mu he k heo)<|I.hok.write mu he k heo new
theorem Inv.weak{σ':List (Option V)}(I:Inv X pins σ H s)(hl:σ'.length=σ.length)(w:∀(i:Nat)v,σ'[i]? =some (some v)->σ[i]? =some (some v)):Inv X pins σ' H s:=
 ⟨I.ok,I.os,I.bare,I.base,let ⟨m,hn,hl'⟩:=I.loc;⟨m,hn,fun i x v e1 e2 e3=>hl' i x v e1 (w i v e2) e3⟩,I.cell,I.free,I.freeC,I.pin,I.hok,hl.trans I.len⟩
theorem Inv.pins_of{pins':List (Addr×Obj)}(I:Inv X pins σ H s)(h:∀p∈pins',s.heap.get? p.1=some p.2/\H p.1=none/\p.1≠X.env.locals/\p.1∉X.fs/\∀v,p.2.data≠.cell v):Inv X pins' σ H s:=
 ⟨I.ok,I.os,I.bare,I.base,I.loc,I.cell,I.free,I.freeC,fun p hp=>(DY.mp hp).elim (fun z=>I.pin p<|Hy _ z) (h p),I.hok,I.len⟩
theorem nt{N:List Str}(hN:N.Nodup){i j:Nat}{x:Str}(a:N[i]? =some x)(b:N[j]? =some x):i=j:=by
 obtain⟨h1,e1⟩:=D5.mp a;obtain⟨h2,e2⟩:=D5.mp b;exact(List.getElem_inj hN).mp (e1.trans e2.symm)
theorem ly{M:Jk}{A:DS}{E:CU->CV->Prop}{i:Nat}{x:Str}{v:V}{u:CU}{Q:Unit->CV->Prop}(I:Inv X pins σ H s)(hN:X.N.Nodup)(hi:X.N[i]? =some x)(hx:yd X.env.scope x)(r:RelV v u)
  (h:∀s',Inv X pins (σ.set i<|some v) H s'->(∃a,Dl a s.heap s'.heap/\(a=X.env.locals\/X.env.cells.lookup x=some a))->Q () s') (hf:X.fn x=true\/X.env.scope.names.lookup x=some .local:=by first|exact .inl rfl|exact .inr rfl|assumption):wpAny M A (storeName X.env x u) Q E s:=by
 obtain⟨m,hn,hl⟩:=id I.loc;have hcls:(X.env.scope.kind== .class||(X.env.scope.kind== .module&&X.env.locals != X.env.globals))=false:=by rw[I.ok.kind];rfl
 have hiσ:i<σ.length:=by rw[I.len];exact(D5.mp hi).1
 have cne:=I.cne;have tracked:∀{a:Addr}{h':Heap},(∃o,s.heap.get? a=some o/\H a=none)->Dl a s.heap h'->HOk X.prog X.w H h':=fun{a h'}ha hs b ob e=>by
  obtain⟨_,_,hfree⟩:=ha;refine(I.hok b ob e).stay (fun c w' hc q=>(hs.2 c ?_).trans q) (fun _ q=>q) fun _ _ q=>q;rintro rfl;rcases hc with rfl|hc
  ·rw[hfree]at e;cases e
  ·rw[hfree]at hc;cases hc
 rcases hx with hk|hk
 ·refine wpAny_storeName_local hk hn (fun h' hn' hs=>?_) hcls;obtain⟨oL,_,_,hoL,_⟩:=id hn;refine h _ ⟨I.ok,I.os,I.bare,⟨fun b o e n hb hx=>?_,fun b o e n hb hx=>?_,I.base.free,fun b o e hx=>?_,I.base.tups,I.base.frzs,I.base.tbls⟩,⟨_,hn',fun j y v' e1 e2 e3=>?_⟩,fun y c e=>?_,I.free,I.freeC,fun p hp=>?_,tracked ⟨oL,hoL,I.free⟩ hs,by simpa using I.len⟩ ⟨_,hs,.inl rfl⟩;·exact(hs.2 b<|Dv<|D8 (Dc e) I.ok.above).trans (I.base.keep b o e n hb hx)
  ·obtain⟨sl,e1⟩:=I.base.slot b o e n hb hx;exact⟨sl,(hs.2 b<|Dv<|D8 (Dc e) I.ok.above).trans e1⟩
  ·obtain⟨o',e1⟩:=I.base.there b o e hx;exact⟨o',(hs.2 b<|Dv<|D8 (Dc e) I.ok.above).trans e1⟩
  ·by_cases hj:j=i
   ·subst hj;rw[hi]at e1;cases e1;rw[J8 hiσ]at e2;cases e2;exact⟨u,r,.inl ⟨hk,by simp⟩⟩
   ·rw[JE<|H9 hj]at e2;obtain⟨u',r',q⟩:=hl j y v' e1 e2 e3;refine⟨u',r',?_⟩;rcases q with⟨k,e⟩|⟨k,c,e,z⟩
    ·refine .inl ⟨k,?_⟩;have:y≠x:=fun e=>hj<|nt hN e1<|e▸hi;simp[this,e]
    ·exact .inr ⟨k,c,e,z.sameBut hs<|cne y c e⟩
  ·obtain⟨w',z⟩:=I.cell y c e;exact⟨w',z.sameBut hs<|cne y c e⟩
  ·obtain⟨e,n,ne,nf,d⟩:=I.pin p hp;exact⟨(hs.2 p.1 ne).trans e,n,ne,nf,d⟩
 ·have hfn:X.fn x=true:=by
   rcases hf with z|z;·exact z
   ·rw[z]at hk;cases hk
  obtain⟨c,hc⟩:=I.ok.has x<|.inl hk;obtain⟨w',z⟩:=I.cell x c hc;refine wpAny_storeName_cell I.ok.kind hk hc z<|fun h' hc' hs=>?_;obtain⟨oc,hoc,hocd⟩:=id z;refine h {s with heap:=h'} ⟨I.ok,I.os,I.bare,⟨fun b o e n hb hx=>?_,fun b o e n hb hx=>?_,I.base.free,fun b o e hx=>?_,I.base.tups,I.base.frzs,I.base.tbls⟩,⟨m,hn.sameBut hs<|H9<|cne x c hc,fun j y v' e1 e2 e3=>?_⟩,fun y c' e=>?_,I.free,I.freeC,fun p hp=>?_,tracked ⟨oc,hoc,I.freeC x c hc⟩ hs,by simpa using I.len⟩ ⟨c,hs,.inr hc⟩;·exact(hs.2 b<|Dv<|D8 (Dc e)<|I.ok.cab x c hfn hc).trans (I.base.keep b o e n hb hx)
  ·obtain⟨sl,e1⟩:=I.base.slot b o e n hb hx;exact⟨sl,(hs.2 b<|Dv<|D8 (Dc e)<|I.ok.cab x c hfn hc).trans e1⟩
  ·obtain⟨o',e1⟩:=I.base.there b o e hx;exact⟨o',(hs.2 b<|Dv<|D8 (Dc e)<|I.ok.cab x c hfn hc).trans e1⟩
  ·by_cases hj:j=i
   ·subst hj;rw[hi]at e1;cases e1;rw[J8 hiσ]at e2;cases e2;exact⟨u,r,.inr ⟨.inl hk,c,hc,hc'⟩⟩
   ·rw[JE<|H9 hj]at e2;obtain⟨u',r',q⟩:=hl j y v' e1 e2 e3;refine⟨u',r',?_⟩;rcases q with q|⟨k,c',e,z'⟩
    ·exact .inl q
    ·refine .inr ⟨k,c',e,z'.sameBut hs ?_⟩;rintro rfl;exact hj<|nt hN e1<|I.ok.inj _ _ _ e hc▸hi
  ·by_cases hcc:c'=c;·subst hcc;exact⟨_,hc'⟩
   ·obtain⟨w2,z2⟩:=I.cell y c' e;exact⟨w2,z2.sameBut hs hcc⟩
  ·obtain⟨e,n,ne,nf,d⟩:=I.pin p hp;refine⟨(hs.2 p.1 ?_).trans e,n,ne,nf,d⟩;intro q;rw[q,hoc]at e;have q':oc=p.2:=DM e;exact d w' (by rw[<-q'];exact hocd)
theorem jD{M:Jk}{A:DS}{E:CU->CV->Prop}{i:Nat}{x:Str}{v:V}{u:CU}{Q:Unit->CV->Prop}(I:Inv X pins σ H s)(hN:X.N.Nodup)(hi:X.N[i]? =some x)(hx:yd X.env.scope x)(r:RelV v u)
  (h:∀s',Inv X pins (σ.set i<|some v) H s'->Q () s') (hf:X.fn x=true\/X.env.scope.names.lookup x=some .local:=by first|exact .inl rfl|exact .inr rfl|assumption):wpAny M A (storeName X.env x u) Q E s:=
 ly I hN hi hx r (fun s' I' _=>h s' I') hf
theorem Inv.call'{s':CV}{ch:List Addr}(I:Inv X pins σ H s)(ho:s'.os=s.os)(u:Un (frs X.stack) ch H H' s.heap s'.heap)(hok:HOk X.prog X.w H' s'.heap)(hg:Iz s'.gens)
  (hch:∀b∈ch,(b∈X.ex\/X.s₀.heap.objs.size<=b)/\b≠X.env.locals/\(∀x c,X.env.cells.lookup x=some c->c≠b)/\∀p∈X.pn++pins,p.1≠b):Inv X pins σ H' s':=by
 obtain⟨h',g',d',t',o'⟩:=s';have e:o'=s.os:=ho;subst e;exact I.call (g':=g') (t':=t') (d':=d') u hok hg hch
end
abbrev XK:=CU->Option Addr->Hp->Prop
abbrev St:=List<|Option V
abbrev VK:=V->Hp->Prop
abbrev TE:=St->Hp->VK->Prop
abbrev TT:=St->Hp->(Bool->Hp->Prop)->Prop
abbrev TA:=St->Hp->(List V->Hp->Prop)->Prop
structure Ends where
 nx:St->Hp->Prop
 rt:VK
 bk:St->Hp->Prop:=fun _ _=>False
 ct:St->Hp->Prop:=fun _ _=>False
abbrev TS:=Ends->St->Hp->Prop
def EP(X:Cx)(pins:List (Addr×Obj))(σ:St)(Q:VK)(u:CU)(s':CV):Prop:=∃v H',Inv X pins σ H' s'/\RelV v u/\Q v H'
def TP(X:Cx)(pins:List (Addr×Obj))(σ:St)(Q:Bool->Hp->Prop)(b:Bool)(s':CV):Prop:=∃H',Inv X pins σ H' s'/\Q b H'
def AP(X:Cx)(pins:List (Addr×Obj))(σ:St)(Q:List V->Hp->Prop)(us:List CU)(s':CV):Prop:=∃vs H',Inv X pins σ H' s'/\Vals vs us/\Q vs H'
def SP(X:Cx)(pins:List (Addr×Obj))(D:Ends)(f:Flow)(s':CV):Prop:=
 match f with
 | .next=>∃σ' H',Inv X pins σ' H' s'/\D.nx σ' H'
 | .brk=>∃σ' H',Inv X pins σ' H' s'/\D.bk σ' H'
 | .cont=>∃σ' H',Inv X pins σ' H' s'/\D.ct σ' H'
 | .ret u=>∃v σ' H',Inv X pins σ' H' s'/\RelV v u/\D.rt v H'
def PE(X:Cx)(e:Expr)(t:TE):Prop:=
 ∀(pins:List (Addr×Obj))(s:CV)(σ:St)(H:Hp)(Q:VK),Inv X pins σ H s->t σ H Q->wpAny (model X.prog X.w) X.A (eval e X.env) (EP X pins σ Q) X.xe s
def PT(X:Cx)(e:Expr)(t:TT):Prop:=
 ∀(pins:List (Addr×Obj))(s:CV)(σ:St)(H:Hp)(Q:Bool->Hp->Prop),Inv X pins σ H s->t σ H Q->wpAny (model X.prog X.w) X.A (isTrue e X.env<|eval e X.env) (TP X pins σ Q) X.xe s
def PW(X:Cx)(e:Expr)(t:TT):Prop:=
 ∀(whole:Sem CU)(pins:List (Addr×Obj))(s:CV)(σ:St)(H:Hp)(Q:Bool->Hp->Prop),Inv X pins σ H s->t σ H Q->wpAny (model X.prog X.w) X.A (isTrue e X.env whole) (TP X pins σ Q) X.xe s
theorem PW.pt{X:Cx}{e:Expr}{t:TT}(h:PW X e t):PT X e t:=h _
def PA(X:Cx)(es:List Expr)(t:TA):Prop:=
 ∀(pos:Pos)(pins:List (Addr×Obj))(s:CV)(σ:St)(H:Hp)(Q:List V->Hp->Prop),Inv X pins σ H s->t σ H Q->wpAny (model X.prog X.w) X.A (spliced<|backTo pos<|starEach es X.env) (AP X pins σ Q) X.xe s
def PS(X:Cx)(st:Stmt)(t:TS):Prop:=
 ∀(pins:List (Addr×Obj))(s:CV)(σ:St)(H:Hp)(D:Ends),Inv X pins σ H s->t D σ H->wpAny (model X.prog X.w) X.A (exec st X.env) (SP X pins D) X.xe s
def PSs(X:Cx)(st:List Stmt)(t:TS):Prop:=
 ∀(pins:List (Addr×Obj))(s:CV)(σ:St)(H:Hp)(D:Ends),Inv X pins σ H s->t D σ H->wpAny (model X.prog X.w) X.A (execs st X.env) (SP X pins D) X.xe s
theorem bP{α:Type}{t:Sem α}{Q Q':α->CV->Prop}{M:Jk}{A:DS}{E:CU->CV->Prop}{s:CV}(h:wpAny M A t Q E s)(hQ:∀a s,Q a s->Q' a s):wpAny M A t Q' E s:=Ee h hQ fun _ _ x=>x
section
variable{X:Cx}
def bQ(i:Nat):TE:=fun σ H Q=>∃v,σ[i]? =some (some v)/\Q v H
def tC(v:V):TE:=fun _ H Q=>Q v H
theorem yF{i:Nat}{x:Str}{pos:Pos}(hN:X.N[i]? =some x)(hv:Vis X.env.scope x)(hd:(x==("__debug__" :Str))=false:=by decide)(hcd:(x==("__classdict__" :Str))=false:=by decide):PE X (.Name x pos) (bQ i):=by
 intro pins s σ H Q I h;obtain⟨v,e,h⟩:=h;obtain⟨m,hn,hl⟩:=I.loc;obtain⟨u,r,l⟩:=hl i x v hN e hv;have fin:EP X pins σ Q u s:=⟨v,H,I,r,h⟩
 rcases l with⟨hk,hm⟩|⟨hk,c,hc,hcell⟩
 ·exact Ld (JF I.ok.kind hk hn hm fin) hd
 ·rcases hk with hk | hk;·exact Ld (JS I.ok.kind hk hc hcell fin) hd
  ·exact Ld (wpAny_loadName_free I.ok.kind hk hc hcell fin hcd) hd
theorem a8{i j pos}:PE X (.Constant (.int i) j pos) (tC<|.int i):=fun _ _ _ H _ I h=>wpAny_Constant_int ⟨.int i,H,I.tok _,⟨_,rfl⟩,h⟩
theorem dW{b j pos}:PE X (.Constant (.bool b) j pos) (tC<|.bl b):=fun _ _ _ H _ I h=>Constant_bool ⟨.bl b,H,I,rfl,h⟩
theorem tT{j pos}:PE X (.Constant .none j pos) (tC .non):=fun _ _ _ H _ I h=>Constant_none ⟨.non,H,I,rfl,h⟩
theorem aY{x j pos}:PE X (.Constant (.str x) j pos) (tC<|.str x):=fun _ _ _ H _ I h=>Calls.Constant_str ⟨.str x,H,I.tok _,⟨_,rfl⟩,h⟩
def Gl(X:Cx)(x:Str):Prop:=X.env.kindOf x=some .globalImplicit
theorem qu{E:CU->CV->Prop}{pins:List (Addr×Obj)}{s:CV}{σ:St}{H:Hp}{x:Str}{u:CU}{pos:Pos}{Q:CU->CV->Prop}(I:Inv X pins σ H s)(hg:Gl X x)(hm:X.mg x=some u)(h:Q u s)
  (hd:(x==("__debug__" :Str))=false:=by decide):wpAny (model X.prog X.w) X.A (eval (.Name x pos) X.env) Q E s:=
 HZ I.ok.kind hg (Calls.loadGlobal_global (by rw[I.ok.glob];exact I.mod.glob.keeps I.bk) hm h) hd
theorem fM{E:CU->CV->Prop}{pins:List (Addr×Obj)}{s:CV}{σ:St}{H:Hp}{x:Str}{u:CU}{pos:Pos}{Q:CU->CV->Prop}(I:Inv X pins σ H s)(hg:Gl X x)(hm:X.mg x=none)(hv:bootBuiltins x=some u)(h:Q u s)
  (hn:x≠"__name__":=by decide) (hd:(x==("__debug__" :Str))=false:=by decide):wpAny (model X.prog X.w) X.A (eval (.Name x pos) X.env) Q E s:=by
 obtain⟨mb,h1,h2⟩:=I.mod.blt;exact HZ I.ok.kind hg (Calls.loadGlobal_builtin (by rw[I.ok.glob];exact I.mod.glob.keeps I.bk) hm (by rw[I.ok.blt];exact h1.keeps I.bk) ((h2 x hn).trans hv) h) hd
theorem bU{x:Str}{v:V}{u:CU}{pos:Pos}(hg:Gl X x)(hm:X.mg x=some u)(r:RelV v u)(hd:(x==("__debug__" :Str))=false:=by decide):PE X (.Name x pos) (tC v):=
 fun _ _ _ H _ I h=>qu I hg hm ⟨v,H,I,r,h⟩ hd
theorem dA{x:Str}{v:V}{u:CU}{pos:Pos}(hg:Gl X x)(hm:X.mg x=none)(hv:bootBuiltins x=some u)(r:RelV v u)(hn:x≠"__name__":=by decide)(hd:(x==("__debug__" :Str))=false:=by decide):PE X (.Name x pos) (tC v):=
 fun _ _ _ H _ I h=>fM I hg hm hv ⟨v,H,I,r,h⟩ hn hd
variable{a b:Expr}{ta tb:TE}{pos:Pos}
def tB(t:TE):TT:=fun σ H Q=>t σ H fun x H1=>∃c,x=.bl c/\Q c H1
theorem cH{e:Expr}{t:TE}(h:PE X e t)(he:∀whole,isTrue e X.env whole=(do let v <-whole;standAt e.pos;holding [v] (truthy v)):=by intro _;rfl):PT X e (tB t):=by
 intro pins s σ H Q I hw;refine isTrue_plain (bP (h pins s σ H _ I hw) fun v s1⟨x,H1,I1,r1,q1⟩=>?_)<|he _;obtain⟨d,rfl,q⟩:=q1;cases r1;exact FO ⟨H1,I1,q⟩
variable{tA tB':TT}{rest:List Expr}
def cI(t u:TT):TT:=fun σ H Q=>t σ H fun c H1=>if c=true then u σ H1 Q else Q false H1
def gj(t u:TT):TT:=fun σ H Q=>t σ H fun c H1=>if c=true then Q true H1 else u σ H1 Q
def cJ(t:TT):TT:=fun σ H Q=>t σ H fun c H1=>Q (!c) H1
theorem eF(ha:PT X a tA):PW X (.BoolOp .And [a] pos) tA:=by
 intro wh pins s σ H Q I h;refine isTrue_and<|bP (ha pins s σ H Q I h) fun c s1 e=>?_;cases c with
 |true=>exact isTrue_and_nil e
 |false=>exact e
theorem mj(ha:PT X a tA):PW X (.BoolOp .Or [a] pos) tA:=by
 intro wh pins s σ H Q I h;refine isTrue_or<|bP (ha pins s σ H Q I h) fun c s1 e=>?_;cases c with
 |false=>exact isTrue_or_nil e
 |true=>exact e
theorem fv(ha:PT X a tA)(hb:PW X (.BoolOp .And (b::rest) pos) tB'):PW X (.BoolOp .And (a::b::rest) pos) (cI tA tB'):=by
 intro wh pins s σ H Q I h;refine isTrue_and<|bP (ha pins s σ H _ I h) fun c s1 zz=>?_;obtain⟨H1,I1,q1⟩:=zz;cases c with
 |true=>exact hb wh pins s1 σ H1 Q I1 q1
 |false=>exact⟨H1,I1,q1⟩
theorem nu(ha:PT X a tA)(hb:PW X (.BoolOp .Or (b::rest) pos) tB'):PW X (.BoolOp .Or (a::b::rest) pos) (gj tA tB'):=by
 intro wh pins s σ H Q I h;refine isTrue_or<|bP (ha pins s σ H _ I h) fun c s1 zz=>?_;obtain⟨H1,I1,q1⟩:=zz;cases c with
 |true=>exact⟨H1,I1,q1⟩
 |false=>exact hb wh pins s1 σ H1 Q I1 q1
theorem fN(ha:PT X a tA):PT X (.UnaryOp .Not a pos) (cJ tA):=by
 intro pins s σ H Q I h;exact isTrue_not<|ha pins s σ H (fun c H1=>Q (!c) H1) I h
def bE(ta tb:TE):TE:=fun σ H Q=>ta σ H fun x H1=>∃c,x=.bl c/\if c=true then tb σ H1 Q else Q (.bl false) H1
def cK(ta tb:TE):TE:=fun σ H Q=>ta σ H fun x H1=>∃c,x=.bl c/\if c=true then Q (.bl true) H1 else tb σ H1 Q
def bI(ta:TE):TE:=fun σ H Q=>ta σ H fun x H1=>∃c,x=.bl c/\Q (.bl<|!c) H1
theorem i8{op}{t:TE}(h:PE X a t):PE X (.BoolOp op [a] pos) t:=fun pins s σ H Q I hw=>BoolOp_one<|h pins s σ H Q I hw
theorem gv(ha:PE X a ta)(hb:PE X (.BoolOp .And (b::rest) pos) tb):PE X (.BoolOp .And (a::b::rest) pos) (bE ta tb):=by
 intro pins s σ H Q I h;refine BoolOp_and<|bP (ha pins s σ H _ I h) fun v s1 zz=>?_;obtain⟨x,H1,I1,r1,q1⟩:=zz;obtain⟨c,rfl,q1⟩:=q1;cases r1;refine FO ?_;cases c with
 |true=>exact hb pins s1 σ H1 Q I1 q1
 |false=>exact⟨.bl false,H1,I1,rfl,q1⟩
theorem zZ(ha:PE X a ta)(hb:PE X (.BoolOp .Or (b::rest) pos) tb):PE X (.BoolOp .Or (a::b::rest) pos) (cK ta tb):=by
 intro pins s σ H Q I h;refine BoolOp_or<|bP (ha pins s σ H _ I h) fun v s1 zz=>?_;obtain⟨x,H1,I1,r1,q1⟩:=zz;obtain⟨c,rfl,q1⟩:=q1;cases r1;refine FO ?_;cases c with
 |false=>exact hb pins s1 σ H1 Q I1 q1
 |true=>exact⟨.bl true,H1,I1,rfl,q1⟩
theorem yG(ha:PE X a ta):PE X (.UnaryOp .Not a pos) (bI ta):=by
 intro pins s σ H Q I h;refine UnaryOp_<|bP (ha pins s σ H _ I h) fun v s1 zz=>?_;obtain⟨x,H1,I1,r1,q1⟩:=zz;obtain⟨c,rfl,q1⟩:=q1;cases r1;exact not_of<|FO ⟨.bl<|!c,H1,I1,rfl,q1⟩
def gk(t:TT)(ta tb:TE):TE:=fun σ H Q=>t σ H fun c H1=>if c=true then ta σ H1 Q else tb σ H1 Q
theorem gw{c:Expr}(hc:PT X c tA)(ha:PE X a ta)(hb:PE X b tb):PE X (.IfExp c a b pos) (gk tA ta tb):=by
 intro pins s σ H Q I h;refine wpAny_IfExp<|bP (hc pins s σ H _ I h) fun d s1 zz=>?_;obtain⟨H1,I1,q1⟩:=zz;cases d with
 |true=>exact ha pins s1 σ H1 Q I1 q1
 |false=>exact hb pins s1 σ H1 Q I1 q1
end
def SqL(K:CT)(H:Hp)(a:Addr)(xs:List V):Prop:=
 Rd H a (.lst xs)\/
  ∃(o:Obj)(its:Array CU)(n:Nat),K.lookup a=some o/\o.cls=.type "list"/\o.dict=none/\o.data=.seq its n/\its.size<=sizeLine/\Vals xs its.toList
def SqT(K:CT)(H:Hp)(a:Addr)(xs:List V):Prop:=
 Rd H a (.tup xs)\/
  ∃(o:Obj)(its:Array CU)(n:Nat),K.lookup a=some o/\(o.cls=.type "tuple"/\o.dict=none)/\o.data=.seq its n/\its.size<=sizeLine/\Vals xs its.toList
def BE:CU->Option V
 | .none=>some .non
 | .bool b=>some<|.bl b
 | .int i _=>some<|.int i
 | .str x _=>some<|.str x
 | .bytes b _=>some<|.byt b
 | .float b _=>some<|.flt b
 | .ref a=>some<|.ref a
 | .type n=>some<|.ty n
 |_=>none
theorem RelV.abs{x:V}{u:CU}(r:RelV x u):BE u=some x:=by
 cases x with
 |non=>cases r;rfl
 |bl _=>cases r;rfl
 |int _=>obtain⟨t,rfl⟩:=r;rfl
 |str _=>obtain⟨t,rfl⟩:=r;rfl
 |byt _=>obtain⟨t,rfl⟩:=r;rfl
 |flt _=>obtain⟨t,rfl⟩:=r;rfl
 |ref _=>cases r;rfl
 |ty _=>cases r;rfl
theorem RelV.inj{x y:V}{u:CU}(r:RelV x u)(q:RelV y u):x=y:=DM<|r.abs.symm.trans q.abs
theorem Vals.inj:∀{xs ys:List V}{us:List CU},Vals xs us->Vals ys us->xs=ys
 |_,_,_,.nil,.nil=>rfl
 |_,_,_,.cons r t,.cons r' t'=>by rw[r.inj r',Vals.inj t t']
section
variable{X:Cx}{pins:List (Addr×Obj)}{σ:St}{H:Hp}{s:CV}{a:Addr}{xs ys:List V}
theorem SqL.of{K:CT}(h:H a=some (.lst xs)):SqL K H a xs:=.inl<|.inl h
theorem SqT.of{K:CT}(h:H a=some (.tup xs)):SqT K H a xs:=.inl<|.inl h
theorem Inv.list(I:Inv X pins σ H s)(h:SqL X.K H a xs):∃its:List CU,Vals xs its/\PlainL s.heap a its.toArray/\xs.length<=sizeLine:=by
 rcases h with h|⟨o,its,n,hk,hc,hd,hs,hz,r⟩
 ·obtain⟨z,its,n,r,e⟩:=h.ok I.hok;exact⟨its,r,⟨_,n,e,rfl,rfl,rfl⟩,z⟩
 ·refine⟨its.toList,r,⟨o,n,I.kIn a o hk,hc,hd,by simpa using hs⟩,?_⟩;have e:=r.length;simp only[DJ]at e;omega
theorem Inv.tuple(I:Inv X pins σ H s)(h:SqT X.K H a xs):∃its:List CU,Vals xs its/\IsTup s.heap a its.toArray/\xs.length<=sizeLine:=by
 rcases h with h|⟨o,its,n,hk,hc,hs,hz,r⟩
 ·obtain⟨z,its,r,p⟩:=h.ok I.hok;exact⟨its,r,p.tup,z⟩
 ·refine⟨its.toList,r,⟨o,I.kIn a o hk,hc.1,n,by simpa using hs⟩,?_⟩;have e:=r.length;simp only[DJ]at e;omega
theorem Inv.list_inj(I:Inv X pins σ H s)(h:SqL X.K H a xs)(h':SqL X.K H a ys):xs=ys:=by
 obtain⟨its,r,⟨o,n,e,_,_,d⟩,_⟩:=I.list h;obtain⟨its',r',⟨o',n',e',_,_,d'⟩,_⟩:=I.list h';rw[e]at e';cases e';rw[d]at d';injection d' with d1 _;have:its=its':=by simpa using congrArg M5 d1
 subst this;exact r.inj r'
theorem Inv.tuple_inj(I:Inv X pins σ H s)(h:SqT X.K H a xs)(h':SqT X.K H a ys):xs=ys:=by
 obtain⟨its,r,⟨o,e,_,n,d⟩,_⟩:=I.tuple h;obtain⟨its',r',⟨o',e',_,n',d'⟩,_⟩:=I.tuple h';rw[e]at e';cases e';rw[d]at d';injection d' with d1 _;have:its=its':=by simpa using congrArg M5 d1
 subst this;exact r.inj r'
end
abbrev Cx.wish(X:Cx)(E:CU->CV->Prop):Cx:={X with xe:=E}
abbrev Cx.nox(X:Cx):Cx:=X.wish fun _ _=>False
theorem Cx.Ok.wish{X:Cx}(ok:X.Ok)(E:CU->CV->Prop):(X.wish E).Ok:=
 ⟨ok.mod,ok.kind,ok.glob,ok.blt,ok.above,ok.inj,ok.has,ok.cab,ok.hd,ok.frames,ok.stk,ok.exf,ok.bs,ok.bsz,ok.noex,ok.exfs,ok.funs,ok.frf⟩
theorem Cx.Ok.unwish{X:Cx}{E:CU->CV->Prop}(ok:(X.wish E).Ok):X.Ok:=
 ⟨ok.mod,ok.kind,ok.glob,ok.blt,ok.above,ok.inj,ok.has,ok.cab,ok.hd,ok.frames,ok.stk,ok.exf,ok.bs,ok.bsz,ok.noex,ok.exfs,ok.funs,ok.frf⟩
section
variable{X:Cx}{pins:List (Addr×Obj)}{σ:St}{H:Hp}{s:CV}{E:CU->CV->Prop}
theorem Inv.wish(I:Inv X pins σ H s)(E:CU->CV->Prop):Inv (X.wish E) pins σ H s:=⟨I.ok.wish E,I.os,I.bare,I.base,I.loc,I.cell,I.free,I.freeC,I.pin,I.hok,I.len⟩
theorem Inv.unwish(I:Inv (X.wish E) pins σ H s):Inv X pins σ H s:=⟨I.ok.unwish,I.os,I.bare,I.base,I.loc,I.cell,I.free,I.freeC,I.pin,I.hok,I.len⟩
theorem SP.unwish{D:Ends}{f:Flow}{s':CV}(h:SP (X.wish E) pins D f s'):SP X pins D f s':=by
 cases f with
 |next=>obtain⟨σ',H',I,q⟩:=h;exact⟨σ',H',I.unwish,q⟩
 |brk=>obtain⟨σ',H',I,q⟩:=h;exact⟨σ',H',I.unwish,q⟩
 |cont=>obtain⟨σ',H',I,q⟩:=h;exact⟨σ',H',I.unwish,q⟩
 |ret u=>obtain⟨v,σ',H',I,r,q⟩:=h;exact⟨v,σ',H',I.unwish,r,q⟩
theorem PSs.nox{st:List Stmt}{t:TS}(h:PSs X.nox st t):PSs X st t:=fun pins s σ H D I hw=>
 Ee (h pins s σ H D (I.wish _) hw) (fun _ _ q=>q.unwish) fun _ _ z=>G8 z
end
section
variable{X:Cx}{st:Stmt}{rest:List Stmt}{t u:TS}{e:Expr}{te:TE}{pos:Pos}
def aD:TS:=fun D σ H=>D.nx σ H
def gm(t u:TS):TS:=fun D σ H=>t {D with nx:=u D} σ H
theorem aI:PSs X [] aD:=fun _ _ σ H _ I h=>HI ⟨σ,H,I,h⟩
theorem aa(h1:PS X st t)(h2:PSs X rest u):PSs X (st::rest) (gm t u):=by
 intro pins s σ H D I h;refine KC<|bP (h1 pins s σ H {D with nx:=u D} I h) fun f s1 q=>?_;cases f with
 |next=>
  obtain⟨σ',H',I',q⟩:=q;exact h2 pins s1 σ' H' D I' q
 |ret v=>exact q
 |brk=>exact q
 |cont=>exact q
theorem af(h1:PS X st t):PSs X [st] t:=by
 intro pins s σ H D I h;refine KC<|bP (h1 pins s σ H D I h) fun f s1 q=>?_;cases f with
 |next=>exact HI q
 |ret v=>exact q
 |brk=>exact q
 |cont=>exact q
theorem Inv.quiet{pins:List (Addr×Obj)}{σ:St}{H:Hp}{s:CV}(I:Inv X pins σ H s):interactive X.env=false:=by simp[interactive,I.ok.kind]
def bA(te:TE):TS:=fun D σ H=>te σ H fun _ H1=>D.nx σ H1
theorem fg(he:PE X e te)(hs:swapsWith e none pos.line X.env=pure false:=by rfl):PS X (.Expr e pos) (bA te):=by
 intro pins s σ H D I h;exact wpAny_Expr_any (bP (he pins s σ H _ I h) fun v s1⟨x,H1,I1,r1,q1⟩=>⟨σ,H1,I1,q1⟩) I.quiet hs
def cz(te:TE):TS:=fun D σ H=>te σ H D.rt
theorem au(he:PE X e te):PS X (.Return (some e) pos) (cz te):=by
 intro pins s σ H D I h;refine wpAny_Return_some<|bP (he pins s σ H _ I h) fun v s1 zz=>?_;obtain⟨x,H1,I1,r1,q1⟩:=zz;exact⟨x,σ,H1,I1,r1,q1⟩
def jj(c:TT)(t u:TS):TS:=fun D σ H=>c σ H fun b H1=>if b=true then t D σ H1 else u D σ H1
theorem bq{c:Expr}{a b:List Stmt}{tc:TT}(hc:PT X c tc)(ha:PSs X a t)(hb:PSs X b u):PS X (.If c a b pos) (jj tc t u):=by
 intro pins s σ H D I h;refine wpAny_If<|bP (hc pins s σ H _ I h) fun d s1 zz=>?_;obtain⟨H1,I1,q1⟩:=zz;cases d with
 |true=>exact ha pins s1 σ H1 D I1 q1
 |false=>exact hb pins s1 σ H1 D I1 q1
def yH:TS:=fun _ _ _=>False
end
abbrev TG:=V->St->Hp->(St->Hp->Prop)->Prop
abbrev ye:=List V->St->Hp->(St->Hp->Prop)->Prop
def PG(X:Cx)(target:Expr)(t:TG):Prop:=
 ∀(pins:List (Addr×Obj))(s:CV)(σ:St)(H:Hp)(v:V)(u:CU)(Q:St->Hp->Prop),Inv X pins σ H s->RelV v u->t v σ H Q->
  wpAny (model X.prog X.w) X.A (assign target X.env u) (fun _ s'=>∃σ' H',Inv X pins σ' H' s'/\Q σ' H') X.xe s
def A0(X:Cx)(ts:List Expr)(t:ye):Prop:=
 ∀(pins:List (Addr×Obj))(s:CV)(σ:St)(H:Hp)(vs:List V)(us:List CU)(Q:St->Hp->Prop),Inv X pins σ H s->Vals vs us->t vs σ H Q->
  wpAny (model X.prog X.w) X.A (assignInOrder ((assignEach ts X.env).map (·.2)) us) (fun _ s'=>∃σ' H',Inv X pins σ' H' s'/\Q σ' H') X.xe s
abbrev yI:=V->V->V->Hp->(Hp->Prop)->Prop
def A1(X:Cx)(t:yI):Prop:=
 ∀(pins:List (Addr×Obj))(s:CV)(σ:St)(H:Hp)(o i v:V)(ov iv u:CU)(Q:Hp->Prop),Inv X pins σ H s->RelV o ov->RelV i iv->RelV v u->t o i v H Q->
  wpAny (model X.prog X.w) X.A (setItem ov iv u) (fun _ s'=>∃H',Inv X pins σ H' s'/\Q H') X.xe s
abbrev A2:=V->V->Hp->VK->Prop
def AN(X:Cx)(op:Mk)(t:A2):Prop:=
 ∀(pins:List (Addr×Obj))(s:CV)(σ:St)(H:Hp)(x y:V)(v u:CU)(Q:VK),Inv X pins σ H s->RelV x v->RelV y u->t x y H Q->
  wpAny (model X.prog X.w) X.A (inplaceOp op v u) (EP X pins σ Q) X.xe s
section
variable{X:Cx}{pos:Pos}
def aR(i:Nat):TG:=fun v σ H Q=>Q (σ.set i<|some v) H
theorem bj{i:Nat}{x:Str}(hN:X.N.Nodup)(hi:X.N[i]? =some x)(hx:yd X.env.scope x)(hf:X.fn x=true\/X.env.scope.names.lookup x=some .local:=by first|exact .inl rfl|exact .inr rfl|assumption):PG X (.Name x pos) (aR i):=by
 intro pins s σ H v u Q I r h;exact Kh<|jD I hN hi hx r (fun s' I'=>⟨_,H,I',h⟩) hf
def cA:ye:=fun vs σ H Q=>vs=[]/\Q σ H
def bg(t:TG)(u:ye):ye:=fun vs σ H Q=>∃v r,vs=v::r/\t v σ H fun σ' H'=>u r σ' H' Q
theorem bC:A0 X [] cA:=by
 intro pins s σ H vs us Q I r h;obtain⟨e,h⟩:=h;subst e;cases r;exact assignInOrder_nil ⟨σ,H,I,h⟩
theorem ak{e:Expr}{es:List Expr}{t:TG}{u:ye}(h1:PG X e t)(h2:A0 X es u)
  (hs:(assignEach (e::es) X.env).map (·.2)=assign e X.env::(assignEach es X.env).map (·.2):=by rfl):A0 X (e::es) (bg t u):=by
 intro pins s σ H vs us Q I r h;obtain⟨v,vr,e1,h⟩:=h;subst e1;cases r with
 |cons r rr=>
  rw[hs];refine assignInOrder_cons<|bP (h1 pins s σ H _ _ _ I r h) fun _ s1 zz=>?_;obtain⟨σ1,H1,I1,q1⟩:=zz;exact h2 pins s1 σ1 H1 _ _ Q I1 rr q1
def cu(K:CT)(n:Nat)(t:ye):TG:=fun v σ H Q=>∃a xs,v=.ref a/\SqT K H a xs/\xs.length=n/\t xs σ H Q
theorem yJ{es:List Expr}{k:Nat}{t:ye}{n:Nat}(hc:X.calm=true)(h:A0 X es t)
  (hn:(assignEach es X.env).length=n:=by rfl) (hst:(assignEach es X.env).findIdx? (·.1)=none:=by rfl):PG X (.Tuple es k pos) (cu X.K n t):=by
 intro pins s σ H v u Q I r hw;obtain⟨a,xs,e1,hq,hl,hw⟩:=hw;subst e1;cases r;obtain⟨its,rv,ht,hz⟩:=I.tuple hq;refine assign_Tuple_tuple (I.ok.hd hc) ht (by simp[hn,<-hl,rv.length]) hst fun h' hx=>?_;have I1:Inv X pins σ H {s with heap:=h'}:=I.kept (t':=s.toks) fun b o e=>hx b o (Dv<|Dc e) e;exact h pins _ σ H xs _ Q I1 (by simpa using rv) hw
def A3(to ti:TE)(t:yI):TG:=fun v σ H Q=>to σ H fun o H1=>ti σ H1 fun i H2=>t o i v H2 fun H3=>Q σ H3
theorem p9{o i:Expr}{to ti:TE}{t:yI}(ho:PE X o to)(hi:PE X i ti)(hs:A1 X t)
  (ha:∀v,assign (.Subscript o i pos) X.env v=(do
   let ov <-holding [v] (eval o X.env)
   let iv <-holding [v,ov] (eval i X.env)
   standAt pos
   holding [v,ov,iv] (setItem ov iv v)
   release [v,ov,iv] []):=by intro _;rfl):PG X (.Subscript o i pos) (A3 to ti t):=by
 intro pins s σ H v u Q I r h;rw[ha];refine CN<|EL<|bP (ho pins s σ H _ I h) fun ov s1 zz=>?_;obtain⟨x,H1,I1,r1,q1⟩:=zz;refine CN<|EL<|bP (hi pins s1 σ H1 _ I1 q1) fun iv s2 zz=>?_;obtain⟨y,H2,I2,r2,q2⟩:=zz;refine CN<|Fz<|CN<|EL<|bP (hs pins s2 σ H2 x y v ov iv u _ I2 r1 r2 r q2) fun _ s3 zz=>?_;obtain⟨H3,I3,q3⟩:=zz;exact wpAny_release ⟨σ,H3,I3,q3⟩
def bR(te:TE)(g:TG):TS:=fun D σ H=>te σ H fun x H1=>g x σ H1 D.nx
theorem eP{tg e:Expr}{te:TE}{g:TG}(he:PE X e te)(hg:PG X tg g)(hs:swapsWithSole [tg] e pos.line X.env=pure false:=by rfl)(hw:swappedStores [tg] e X.env=pure none:=by rfl)
  (h1:(assignEach [tg] X.env).map (·.2)=[assign tg X.env]:=by rfl):PS X (.Assign [tg] e pos) (bR te g):=by
 intro pins s σ H D I h;refine wpAny_Assign_stores (bP (he pins s σ H _ I h) fun v s1⟨x,H1,I1,r1,q1⟩=>?_) hs hw;rw[h1];exact bP (hg pins s1 σ H1 x v _ I1 r1 q1) fun _ s2 q=>q
theorem yK{i:Nat}{x:Str}{e:Expr}{te:TE}{pos':Pos}(hN:X.N.Nodup)(hi:X.N[i]? =some x)(hx:yd X.env.scope x)(he:PE X e te)(hs:swapsWith e (some<|.Name x pos') pos.line X.env=pure false:=by rfl)(hf:X.fn x=true\/X.env.scope.names.lookup x=some .local:=by first|exact .inl rfl|exact .inr rfl|assumption):
  PS X (.Assign [.Name x pos'] e pos) (bR te<|aR i):=by
 intro pins s σ H D I h;refine wpAny_Assign_Name (bP (he pins s σ H _ I h) fun v s1⟨y,H1,I1,r1,q1⟩=>?_) hs;exact jD I1 hN hi hx r1 (fun s2 I2=>⟨_,H1,I2,q1⟩) hf
def wy(i:Nat)(te:TE)(ti:A2):TS:=fun D σ H=>∃x,σ[i]? =some (some x)/\te σ H fun y H1=>ti x y H1 fun z H2=>D.nx (σ.set i<|some z) H2
theorem jE{i:Nat}{x:Str}{e:Expr}{te:TE}{op:Mk}{ti:A2}{pos':Pos}(hN:X.N.Nodup)(hi:X.N[i]? =some x)(hx:yd X.env.scope x)(he:PE X e te)(ho:AN X op ti)(hf:X.fn x=true\/X.env.scope.names.lookup x=some .local:=by first|exact .inl rfl|exact .inr rfl|assumption):
  PS X (.AugAssign (.Name x pos') op e pos) (wy i te ti):=by
 intro pins s σ H D I h;obtain⟨v,e1,h⟩:=h;obtain⟨m,hn,hl⟩:=I.loc;have zL:Vis X.env.scope x:=by rcases hx with k|k;exact .inl k;exact .inr<|.inl k
 obtain⟨u,r,l⟩:=hl i x v hi e1 zL;refine wpAny_AugAssign_Name ?_;have go:wpAny (model X.prog X.w) X.A (eval e X.env) (fun w s₂=>wpAny (model X.prog X.w) X.A (inplaceOp op u w) (fun r s₃=>wpAny (model X.prog X.w) X.A (storeName X.env x r) (fun _=>SP X pins D .next) X.xe s₃) X.xe s₂) X.xe s:=by
  refine bP (he pins s σ H _ I h) fun w s1 zz=>?_;obtain⟨y,H1,I1,r1,q1⟩:=zz;refine bP (ho pins s1 σ H1 v y u w _ I1 r r1 q1) fun z s2 zz=>?_;obtain⟨zv,H2,I2,r2,q2⟩:=zz;exact jD I2 hN hi hx r2 (fun s3 I3=>⟨_,H2,I3,q2⟩) hf
 rcases l with⟨hk,hm⟩|⟨hk,c,hc,hcell⟩
 ·exact JF I.ok.kind hk hn hm go
 ·rcases hk with hk | hk;·exact JS I.ok.kind hk hc hcell go
  ·rcases hx with k | k
   ·have:X.env.scope.names.lookup x=some .free:=hk;rw[k]at this;cases this
   ·have:X.env.scope.names.lookup x=some .free:=hk;rw[k]at this;cases this
def AO(f:Int->Int->Int):A2:=fun x y H Q=>∃i j,x=.int i/\y=.int j/\Q (.int<|f i j) H
theorem pb:AN X .Add (AO fun i j=>i+j):=by
 intro pins s σ H x y v u Q I r1 r2 h;obtain⟨i,j,e1,e2,q⟩:=h;subst e1;subst e2;obtain⟨t,rfl⟩:=r1;obtain⟨t',rfl⟩:=r2;exact iadd_int ⟨.int _,H,I.tok _,⟨_,rfl⟩,q⟩
theorem yL:AN X .Sub (AO fun i j=>i-j):=by
 intro pins s σ H x y v u Q I r1 r2 h;obtain⟨i,j,e1,e2,q⟩:=h;subst e1;subst e2;obtain⟨t,rfl⟩:=r1;obtain⟨t',rfl⟩:=r2;exact isub_int ⟨.int _,H,I.tok _,⟨_,rfl⟩,q⟩
end
section
variable{X:Cx}{pos:Pos}
def pf(c:TT)(tb:TS):TS:=fun D σ H=>∃W:Nat->St->Hp->Prop,(∃m,W m σ H)/\∀m σ H,W m σ H->
 c σ H fun b H1=>if b=true then ∃N:St->Hp->Prop,(∀σ' H',N σ' H'->∃m',m'<m/\W m' σ' H')/\tb {D with nx:=N,ct:=N,bk:=D.nx} σ H1 else D.nx σ H1
theorem ny{c:Expr}{body:List Stmt}{tc:TT}{tb:TS}(hp:PassesOwn (model X.prog X.w) X.A X.env X.xe)(hc:PT X c tc)(hb:PSs X body tb):PS X (.While c body [] pos) (pf tc tb):=by
 intro pins s σ H D I h;obtain⟨W,⟨m0,w0⟩,turn⟩:=h;refine wpAny_While<|codeAny_whileLoop (fun n s'=>∃σ' H',Inv X pins σ' H' s'/\W n σ' H') ?_ m0 ⟨σ,H,I,w0⟩;rintro n s1 ⟨σ1,H1,I1,w1⟩;refine FK hp<|bP (hc pins s1 σ1 H1 _ I1<|turn n σ1 H1 w1) fun b s2 zz=>?_;obtain⟨H2,I2,q2⟩:=zz;cases b with
 |true=>
  obtain⟨N,hN,q2⟩:=q2;rw[if_pos rfl];refine FK hp<|bP (hb pins s2 σ1 H2 _ I2 q2) fun f s3 q3=>?_;cases f with
  |next=>
   obtain⟨σ3,H3,I3,n3⟩:=q3;obtain⟨m',hm,w3⟩:=hN σ3 H3 n3;exact⟨m',hm,σ3,H3,I3,w3⟩
  |cont=>
   obtain⟨σ3,H3,I3,n3⟩:=q3;obtain⟨m',hm,w3⟩:=hN σ3 H3 n3;exact⟨m',hm,σ3,H3,I3,w3⟩
  |brk=>exact q3
  |ret v=>exact q3
 |false=>
  rw[if_neg Dg];exact HI ⟨σ1,H2,I2,q2⟩
end
structure It where
 go:Nat->Hp->Prop
 yld:Nat->Hp->V->Hp->Prop
 stop:Nat->Hp->Prop
def FpOk(X:Cx)(pins:List (Addr×Obj))(H:Hp)(b:Addr):Prop:=
 H b=none/\b≠X.env.locals/\b∉X.fs/\(b∈X.ex\/X.s₀.heap.objs.size<=b)/\(∀x c,X.env.cells.lookup x=some c->c≠b)/\∀p∈X.pn++pins,p.1≠b
theorem Inv.fpOk{X:Cx}{pins:List (Addr×Obj)}{σ:St}{H H':Hp}{s:CV}{b:Addr}(I:Inv X pins σ H s)(hb:s.heap.objs.size<=b)(hn:H' b=none):FpOk X pins H' b:=by
 refine⟨hn,G9<|D8 I.lt hb,I.nofs hb,.inr<|EO I.sz hb,fun x c e z=>?_,fun p hp z=>?_⟩
 ·obtain⟨v,q⟩:=I.cell x c e;exact absurd (D8 q.lt (by rw[z];exact hb))<|Eu _
 ·exact absurd (D8 (Dc (I.pin p hp).1) (by rw[z];exact hb))<|Eu _
structure Turn(P:Dj)(w:Dp)(K:CT)(tg:Expr)(J:It)(fp:List Addr)(it:Addr)(tn:Nat->Heap->Prop):Prop where
 mem:it∈fp
 obj:∀i h,tn i h->∀b∈fp,∃o,h.get? b=some o/\∀v,o.data≠.cell v
 keep:∀i h h',tn i h->(∀b∈fp,∀o,h.get? b=some o->h'.get? b=some o)->tn i h'
 item:∀(X:Cx),X.prog=P->X.w=w->X.K=K->X.calm=true->∀(i:Nat)(pins:List (Addr×Obj))(s:CV)(σ:St)(H:Hp)(E:CU->CV->Prop),Inv X pins σ H s->(∀b∈fp,FpOk X pins H b)->tn i s.heap->J.go i H->
  wpAny (model P w) X.A (pyNext<|.ref it) (fun r s1=>∃u,r=some u/\
   wpAny (model P w) X.A (letOwnedTupleGo tg (.ref it) u) (fun _ s2=>∃x H',Inv X pins σ H' s2/\RelV x u/\J.yld i H x H'/\tn (i+1) s2.heap/\∀b∈fp,H' b=none) E s1) E s
 done:∀(X:Cx),X.prog=P->X.w=w->X.K=K->X.calm=true->∀(i:Nat)(pins:List (Addr×Obj))(s:CV)(σ:St)(H:Hp)(E:CU->CV->Prop),Inv X pins σ H s->(∀b∈fp,FpOk X pins H b)->tn i s.heap->J.stop i H->
  wpAny (model P w) X.A (pyNext<|.ref it) (fun r s1=>r=none/\Inv X pins σ H s1) E s
 self:∀(A:DS)(i:Nat)(s:CV)(Q:CU->CV->Prop)(E:CU->CV->Prop),tn i s.heap->Q (.ref it) s->wpAny (model P w) A (pyIter<|.ref it) Q E s
abbrev TI:=St->Hp->(It->Hp->Prop)->Prop
def BF(X:Cx)(pins:List (Addr×Obj))(σ:St)(tg:Expr)(R:It->Hp->Prop)(itv:CU)(s2:CV):Prop:=
 ∃(it:Addr)(fp:List Addr)(tn:Nat->Heap->Prop)(J:It)(H':Hp),itv=.ref it/\Inv X pins σ H' s2/\Turn X.prog X.w X.K tg J fp it tn/\tn 0 s2.heap/\(∀b∈fp,FpOk X pins H' b)/\R J H'
def PI(X:Cx)(tg iter:Expr)(wi:TI):Prop:=
 ∀(pins:List (Addr×Obj))(s:CV)(σ:St)(H:Hp)(R:It->Hp->Prop),Inv X pins σ H s->wi σ H R->
  wpAny (model X.prog X.w) X.A (eval iter X.env) (fun v s1=>wpAny (model X.prog X.w) X.A (pyIter v) (BF X pins σ tg R) X.xe s1) X.xe s
theorem nz{M:Jk}{A:DS}{E:CU->CV->Prop}{s:CV}{tg:Expr}{it:Addr}{u:CU}{o:Obj}{n:String}{vs:Array CU}{Q:Unit->CV->Prop}(ho:s.heap.get? it=some o)(hc:o.cls=.type n)(hd:o.data=.fields vs)
    (hn:["enumerate","zip","dict_itemiterator","dict_reverseitemiterator","odict_iterator","itertools.zip_longest","itertools.pairwise"].contains n=false) (hQ:Q () s):wpAny M A (letOwnedTupleGo tg (.ref it) u) Q E s:=by
  unfold letOwnedTupleGo
  cases tg<;>first
    |exact CS hQ
    |(cases u<;>first
        |exact CS hQ
        | (refine CN (wpAny_load ho ?_)
           rw[hc,hd];show wpAny M A (if(["enumerate","zip","dict_itemiterator","dict_reverseitemiterator","odict_iterator","itertools.zip_longest","itertools.pairwise"].contains n&&vs[0]? ==some (rawInt _))=true then _ else _) Q E s;rw[if_neg (by intro h;rw[hn,Le]at h;cases h)];exact CS hQ))
def BQ(K:CT)(a:Addr):It:=
 ⟨fun i H=>∃xs x,SqL K H a xs/\xs[i]? =some x,fun i H x H'=>H'=H/\∀xs,SqL K H a xs->xs[i]? =some x,fun i H=>∃xs,SqL K H a xs/\xs.length<=i⟩
def BG(lo:Int)(n:Nat):It:=⟨fun i _=>i<n,fun i H x H'=>H'=H/\x=.int (lo+i),fun i _=>n<=i⟩
theorem rS{P:Dj}{w:Dp}{K:CT}{tg:Expr}(a it:Addr):Turn P w K tg (BQ K a) [it] it (fun i h=>h.IsListIter it a i) where
 mem:=by simp
 obj:=fun i h st b hb=>by
  have e:b=it:=by simpa using hb
  subst e;obtain⟨o,e,c,d⟩:=st;exact⟨o,e,fun v z=>by rw[d]at z;cases z⟩
 keep:=fun i h h' st k=>st.at fun o e=>k it (by simp) o e
 item:=by
  intro X hP hw hK hc i pins s σ H E I hf st hg;subst hP hw hK;obtain⟨xs,x,hq,hx⟩:=hg;obtain⟨its,rv,p,hz⟩:=I.list hq;obtain⟨u,hu,ru⟩:=rv.get hx;obtain⟨f0,f1,f2,f3,f4,f5⟩:=hf it (by simp);refine wpAny_pyNext_list_item st p.isList (x:=u) (by simpa using hu) fun h' st' sb=>?_;have I1:Inv X pins σ H {s with heap:=h'}:=I.turned (t':=s.toks) (fun b o hb e=>(sb.2 b hb).trans e) f0 f1 f3 f4 f5;obtain⟨o,e,c,d⟩:=id st';exact⟨u,rfl,nz (s:={s with heap:=h'}) e c d (by decide) ⟨x,H,I1,ru,⟨rfl,fun ys hy=>by rw[I.list_inj hy hq];exact hx⟩,st',fun b hb=>(hf b hb).1⟩⟩
 done:=by
  intro X hP hw hK hc i pins s σ H E I hf st hg;subst hP hw hK;obtain⟨xs,hq,hx⟩:=hg;obtain⟨its,rv,p,hz⟩:=I.list hq;obtain⟨f0,f1,f2,f3,f4,f5⟩:=hf it (by simp);have hl:=rv.length;exact wpAny_pyNext_list_end (I.ok.hd hc) st p.isList (by simp;omega) fun h' eb=>⟨rfl,I.turned (t':=s.toks) (fun b o hb e=>eb b o hb e) f0 f1 f3 f4 f5⟩
 self:=fun _ _ _ _ _ st h=>wpAny_pyIter_listiter st h
theorem ph{P:Dj}{w:Dp}{K:CT}{tg:Expr}(it:Addr)(lo:Int)(n:Nat):Turn P w K tg (BG lo n) [it] it (fun i h=>JG h it (lo+(i:Nat)*1) ((n:Int)-(i:Nat)) 1) where
 mem:=by simp
 obj:=fun i h st b hb=>by
  have e:b=it:=by simpa using hb
  subst e;exact⟨_,st,fun v z=>by
   have z':Hz _=Gm v:=z;cases z'⟩
 keep:=fun i h h' st k=>k it (by simp) _ st
 item:=by
  intro X hP hw hK hc i pins s σ H E I hf st hg;subst hP hw hK;obtain⟨f0,f1,f2,f3,f4,f5⟩:=hf it (by simp);have W:=Walks.range (prog:=X.prog) (w:=X.w) (I.ok.hd hc) it lo 1 n;refine W.item i s _ _ hg st fun v h' tk hv st' kk=>?_;obtain⟨t,rfl⟩:=hv;have I1:Inv X pins σ H {s with heap:=h',toks:=tk}:=I.turned (fun b o hb e=>kk b o (by simpa using hb) e) f0 f1 f3 f4 f5;refine⟨_,rfl,nz (s:={s with heap:=h',toks:=tk}) (n:="range_iterator") st' rfl rfl (by decide) ⟨.int<|lo+i,H,I1,⟨t,?_⟩,⟨rfl,rfl⟩,st',fun b hb=>(hf b hb).1⟩⟩;rw[Int.mul_one]
 done:=by
  intro X hP hw hK hc i pins s σ H E I hf st hg;subst hP hw hK;obtain⟨f0,f1,f2,f3,f4,f5⟩:=hf it (by simp);exact J9 (I.ok.hd hc) st (by have:n<=i:=hg;omega) fun h' eb=>⟨rfl,I.turned (t':=s.toks) (fun b o hb e=>eb b o hb e) f0 f1 f3 f4 f5⟩
 self:=fun _ _ _ _ _ st h=>Ha st h
section
variable{X:Cx}{tg:Expr}
def tU(K:CT)(tl:TE):TI:=fun σ H R=>tl σ H fun x H1=>∃a,x=.ref a/\(∃xs,SqL K H1 a xs)/\R (BQ K a) H1
theorem wz{l:Expr}{tl:TE}(hl:PE X l tl):PI X tg l (tU X.K tl):=by
 intro pins s σ H R I h;refine bP (hl pins s σ H _ I h) fun v s1 zz=>?_;obtain⟨x,H1,I1,r1,q1⟩:=zz;obtain⟨a,e,⟨xs,hq⟩,q⟩:=q1;subst e;cases r1;obtain⟨its,rv,p,hz⟩:=I1.list hq;refine IA p.isList ?_;refine⟨s1.heap.objs.size,[s1.heap.objs.size],_,_,H1,rfl,I1.kept (t':=s1.toks) fun b o e=>CQ _ e,rS a _,⟨_,D6 _ rfl,rfl,rfl⟩,fun b hb=>?_,q⟩;have e:b=s1.heap.objs.size:=by simpa using hb
 subst e;exact I1.fpOk (D0 _)<|I1.hok.fresh<|D0 _
theorem tV{pins:List (Addr×Obj)}{σ:St}{H:Hp}{s:CV}{R:It->Hp->Prop}{E:CU->CV->Prop}{lo hi:Int}{t u v:Tok}{tk:Nat}(I:Inv X pins σ H s)(h1: -(2^62)<=lo)(h2:lo<2^62)(h3: -(2^62)<=hi)(h4:hi<2^62)
  (q:R (BG lo (hi-lo).toNat) H):wpAny (model X.prog X.w) X.A (pyIter<|.ref s.heap.objs.size) (BF X pins σ tg R) E {s with heap:=s.heap.push {cls:=.type "range",data:=.fields #[.int lo t,.int hi u,.int 1 v]},toks:=tk}:=by
 refine wpAny_pyIter_range (Ml ..) (small_one h1 h2 h3 h4) ?_;have I1:Inv X pins σ H {s with heap:=s.heap.push {cls:=.type "range",data:=.fields #[.int lo t,.int hi u,.int 1 v]},toks:=tk}:=I.kept fun b o e=>CQ _ e;refine⟨(s.heap.push {cls:=.type "range",data:=.fields #[.int lo t,.int hi u,.int 1 v]}).objs.size,[(s.heap.push {cls:=.type "range",data:=.fields #[.int lo t,.int hi u,.int 1 v]}).objs.size],_,_,H,rfl,
  I1.kept (t':=tk) fun b o e=>CQ _ e,ph _ lo (hi-lo).toNat,?_,fun b hb=>?_,q⟩
 ·have e1:lo+((0:Nat):Int)*1=lo:=by simp
  have e2:(((hi-lo).toNat:Nat):Int)-((0:Nat):Int)=Eo lo hi 1:=by rw[rangeSize_one];split<;>omega
  show JG _ _ (lo+((0:Nat):Int)*1) ((((hi-lo).toNat:Nat):Int)-((0:Nat):Int)) 1;rw[e1,e2];exact D6 _ rfl
 ·have e:b=(s.heap.push {cls:=.type "range",data:=.fields #[.int lo t,.int hi u,.int 1 v]}).objs.size:=by simpa using hb
  subst e;exact I1.fpOk (D0 _)<|I1.hok.fresh<|D0 _
def yf(ta:TA):TI:=fun σ H R=>ta σ H fun vs H1=>∃j:Int,vs=[.int j]/\ -(2^62)<=j/\j<2^62/\R (BG 0 j.toNat) H1
theorem iP{a:Expr}{ta:TA}{p pos:Pos}(hg:Gl X "range")(hm:X.mg "range"=none)(ha:PA X [a] ta)(hs:starEach [a] X.env=[(false,eval a X.env)]:=by rfl):PI X tg (.Call (.Name "range" p) [a] [] pos) (yf ta):=by
 intro pins s σ H R I h;refine Mm<|fM I hg hm boot_range<|Eh (bP (ha pos pins s σ H _ I h) fun us s1⟨vs,H1,I1,r1,q1⟩=>?_) hs rfl;obtain⟨j,e,q1,q2,q⟩:=q1;subst e;cases r1 with
 |cons r rr=>
  cases rr;obtain⟨t,rfl⟩:=r;exact call_range_1 (tV I1 (by omega) (by omega) q1 q2 (by simpa using q))
def tW(wi:TI)(g:TG)(tb:TS):TS:=fun D σ H=>wi σ H fun J H1=>∃W:Nat->Nat->St->Hp->Prop,(∃m,W 0 m σ H1)/\∀i m σ H,W i m σ H->
 (J.stop i H/\D.nx σ H)\/(J.go i H/\∃N:St->Hp->Prop,(∀σ' H',N σ' H'->∃m',m'<m/\W (i+1) m' σ' H')/\∀x H',J.yld i H x H'->g x σ H' fun σ2 H2=>tb {D with nx:=N,ct:=N,bk:=D.nx} σ2 H2)
def iQ(fp:List Addr)(h:Heap):List (Addr×Obj):=fp.filterMap fun b=>(h.get? b).map fun o=>(b,o)
theorem eQ{fp:List Addr}{h:Heap}{b:Addr}{o:Obj}(hb:b∈fp)(e:h.get? b=some o):(b,o)∈iQ fp h:=GQ.mpr ⟨b,hb,by rw[e];rfl⟩
theorem rV{fp:List Addr}{h:Heap}{p:Addr×Obj}(hp:p∈iQ fp h):p.1∈fp/\h.get? p.1=some p.2:=by
 obtain⟨b,hb,e⟩:=GQ.mp hp;cases q:h.get? b with
 |none=>rw[q]at e;cases e
 |some o=>
  rw[q]at e;have e':(b,o)=p:=DM e;subst e';exact⟨hb,q⟩
theorem Inv.pinned{pins:List (Addr×Obj)}{σ:St}{H:Hp}{s:CV}{fp:List Addr}(I:Inv X pins σ H s)(hf:∀b∈fp,FpOk X pins H b)(ho:∀b∈fp,∃o,s.heap.get? b=some o/\∀v,o.data≠.cell v):Inv X (pins++iQ fp s.heap) σ H s:=
 I.pins_of fun p hp=>(DY.mp hp).elim (fun z=>I.pin p<|DD _ z) fun z=>by
  obtain⟨hb,e⟩:=rV z;obtain⟨f0,f1,f2,_⟩:=hf p.1 hb;obtain⟨o,e',d⟩:=ho p.1 hb;rw[e]at e';cases e';exact⟨e,f0,f1,f2,d⟩
theorem Inv.unpinned{pins pl:List (Addr×Obj)}{σ:St}{H:Hp}{s:CV}(I:Inv X (pins++pl) σ H s):Inv X pins σ H s:=I.pins_of fun p hp=>I.pin p<|DD _<|Hy _ hp
theorem cM{iter:Expr}{body:List Stmt}{wi:TI}{g:TG}{tb:TS}{pos:Pos}(hp:PassesOwn (model X.prog X.w) X.A X.env X.xe)(hc:X.calm=true)(hi:PI X tg iter wi)(hg:PG X tg g)(hb:PSs X body tb)
  (hs:∀x,foldedSetIterable iter X.env x=pure x:=by intro _;rfl):PS X (.For tg iter body [] pos) (tW wi g tb):=by
 intro pins s σ H D I h;refine wpAny_For (bP (hi pins s σ H _ I h) fun v s1 h1=>bP h1 fun itv s2 h2=>?_) hs;obtain⟨it,fp,tn,J,H2,e,I2,T,st2,f2,W,⟨m0,w0⟩,turn⟩:=h2;subst e;have stat:∀{H':Hp},(∀b∈fp,H' b=none)->∀b∈fp,FpOk X pins H' b:=fun hn b hb=>⟨hn b hb,(f2 b hb).2⟩
 refine codeAny_forLoop_any (fun n s'=>∃i σ' H',Inv X pins σ' H' s'/\tn i s'.heap/\(∀b∈fp,H' b=none)/\W i n σ' H') ?_ m0 ⟨0,σ,H2,I2,st2,fun b hb=>(f2 b hb).1,w0⟩;rintro n s3 ⟨i,σ3,H3,I3,st3,fr3,w3⟩;rcases turn i n σ3 H3 w3 with⟨stop,qn⟩|⟨go,N,hN,step⟩
 ·refine FK hp<|bP (T.done X rfl rfl rfl hc i pins s3 σ3 H3 X.xe I3 (stat fr3) st3 stop) fun r s4 zz=>?_;obtain⟨hr,I4⟩:=zz;subst hr;exact HI ⟨σ3,H3,I4,qn⟩
 ·refine FK hp<|bP (T.item X rfl rfl rfl hc i pins s3 σ3 H3 X.xe I3 (stat fr3) st3 go) fun r s4 zz=>?_;obtain⟨u,hr,h4⟩:=zz;subst hr;refine FK hp<|bP h4 fun _ s5 zz=>?_;obtain⟨x,H5,I5,r5,y5,st5,fr5⟩:=zz;have I5':=I5.pinned (stat fr5)<|T.obj _ _ st5;refine FK hp<|bP (hg _ s5 σ3 H5 x u _ I5' r5<|step x H5 y5) fun _ s6 zz=>?_;obtain⟨σ6,H6,I6,q6⟩:=zz;refine FK hp<|bP (hb _ s6 σ6 H6 _ I6 q6) fun f s7 q7=>?_;have again:∀{σ7:St}{H7:Hp},Inv X (pins++iQ fp s5.heap) σ7 H7 s7->N σ7 H7->∃m,m<n/\∃i σ' H',Inv X pins σ' H' s7/\tn i s7.heap/\(∀b∈fp,H' b=none)/\W i m σ' H':=fun{σ7 H7}I7 n7=>by
   obtain⟨m',hm,w7⟩:=hN σ7 H7 n7;refine⟨m',hm,i+1,σ7,H7,I7.unpinned,T.keep _ _ _ st5 fun b hb o e=>(I7.pin (b,o)<|DD _<|DD _<|eQ hb e).1,fun b hb=>?_,w7⟩;obtain⟨o,e,d⟩:=T.obj _ _ st5 b hb;exact(I7.pin (b,o)<|DD _<|DD _<|eQ hb e).2.1
  cases f with
  |next=>obtain⟨σ7,H7,I7,n7⟩:=q7;exact again I7 n7
  |cont=>obtain⟨σ7,H7,I7,n7⟩:=q7;exact again I7 n7
  |brk=>obtain⟨σ7,H7,I7,q7⟩:=q7;exact⟨σ7,H7,I7.unpinned,q7⟩
  |ret v=>obtain⟨x7,σ7,H7,I7,r7,q7⟩:=q7;exact⟨x7,σ7,H7,I7.unpinned,r7,q7⟩
end
abbrev R2:=V->V->Hp->VK->Prop
def OpR(X:Cx)(f:CU->CU->Sem CU)(r:R2):Prop:=
 ∀(pins:List (Addr×Obj))(s:CV)(σ:St)(H:Hp)(x y:V)(v u:CU)(Q:VK),Inv X pins σ H s->RelV x v->RelV y u->r x y H Q->
  wpAny (model X.prog X.w) X.A (f v u) (EP X pins σ Q) X.xe s
def BH(X:Cx)(f:CU->Sem CU)(r:V->Hp->VK->Prop):Prop:=
 ∀(pins:List (Addr×Obj))(s:CV)(σ:St)(H:Hp)(x:V)(v:CU)(Q:VK),Inv X pins σ H s->RelV x v->r x H Q->
  wpAny (model X.prog X.w) X.A (f v) (EP X pins σ Q) X.xe s
def fh(X:Cx)(f:CU)(r:List V->Hp->VK->Prop):Prop:=
 ∀(pins:List (Addr×Obj))(s:CV)(σ:St)(H:Hp)(xs:List V)(us:List CU)(Q:VK),Inv X pins σ H s->Vals xs us->r xs H Q->
  wpAny (model X.prog X.w) X.A (call f us) (EP X pins σ Q) X.xe s
def dw(r:R2)(ta tb:TE):TE:=fun σ H Q=>ta σ H fun x H1=>tb σ H1 fun y H2=>r x y H2 Q
def fP(r:V->Hp->VK->Prop)(ta:TE):TE:=fun σ H Q=>ta σ H fun x H1=>r x H1 Q
def rI(C:Int->Int->Prop)(g:Int->Int->V):R2:=fun x y H Q=>∃i j,x=.int i/\y=.int j/\C i j/\Q (g i j) H
def fe(g:Int->Int->V):R2:=fun x y H Q=>∃i j,x=.int i/\y=.int j/\Q (g i j) H
def rU(g:Int->V):V->Hp->VK->Prop:=fun x H Q=>∃i,x=.int i/\Q (g i) H
section
variable{X:Cx}{a b c:Expr}{ta tb tc:TE}{pos:Pos}
theorem yM(ha:PE X a ta)(hb:PE X b tb){pins:List (Addr×Obj)}{s:CV}{σ:St}{H:Hp}{R:V->V->Hp->Prop}(I:Inv X pins σ H s)
  (h:ta σ H fun x H1=>tb σ H1 fun y H2=>R x y H2) {Q:CU->CV->Prop} {f:CU->CU->Sem CU}
  (hf:∀v u s2 x y H2,Inv X pins σ H2 s2->RelV x v->RelV y u->R x y H2->wpAny (model X.prog X.w) X.A (f v u) Q X.xe s2):
  wpAny (model X.prog X.w) X.A (eval a X.env) (fun v s₁=>wpAny (model X.prog X.w) X.A (eval b X.env) (fun u s₂=>wpAny (model X.prog X.w) X.A (f v u) Q X.xe s₂) X.xe s₁) X.xe s:=by
 refine bP (ha pins s σ H _ I h) fun v s1 zz=>?_;obtain⟨x,H1,I1,r1,q1⟩:=zz;refine bP (hb pins s1 σ H1 _ I1 q1) fun u s2 zz=>?_;obtain⟨y,H2,I2,r2,q2⟩:=zz;exact hf v u s2 x y H2 I2 r1 r2 q2
theorem ai{op:Mk}{r:R2}(ho:OpR X (binaryOp op) r)(ha:PE X a ta)(hb:PE X b tb):PE X (.BinOp a op b pos) (dw r ta tb):=by
 intro pins s σ H Q I h;exact wpAny_BinOp<|yM ha hb I h fun v u s2 x y H2 I2 rx ry q=>ho pins s2 σ H2 x y v u Q I2 rx ry q
theorem j8{op:UnaryOp}{r:V->Hp->VK->Prop}(ho:BH X (unaryOp op) r)(ha:PE X a ta):PE X (.UnaryOp op a pos) (fP r ta):=by
 intro pins s σ H Q I h;refine UnaryOp_<|bP (ha pins s σ H _ I h) fun v s1 zz=>?_;obtain⟨x,H1,I1,r1,q1⟩:=zz;exact ho pins s1 σ H1 x v Q I1 r1 q1
theorem AQ{f:CU->CU->Sem CU}{C:Int->Int->Prop}{g:Int->Int->Int}
  (rule:∀(i j:Int)(t u:Tok)(s:CV)(Q:CU->CV->Prop)(E:CU->CV->Prop),C i j->Q (.int (g i j) s.toks) {s with toks:=s.toks+1}->wpAny (model X.prog X.w) X.A (f (.int i t)<|.int j u) Q E s):
  OpR X f (rI C fun i j=>.int<|g i j):=by
 intro pins s σ H x y v u Q I rx ry h;obtain⟨i,j,rfl,rfl,hc,q⟩:=h;obtain⟨t,rfl⟩:=rx;obtain⟨t',rfl⟩:=ry;exact rule i j t t' s _ _ hc ⟨.int<|g i j,H,I.tok _,⟨_,rfl⟩,q⟩
theorem A4{f:CU->CU->Sem CU}{g:Int->Int->Int}
  (rule:∀(i j:Int)(t u:Tok)(s:CV)(Q:CU->CV->Prop)(E:CU->CV->Prop),Q (.int (g i j) s.toks) {s with toks:=s.toks+1}->wpAny (model X.prog X.w) X.A (f (.int i t)<|.int j u) Q E s):
  OpR X f (fe fun i j=>.int<|g i j):=by
 intro pins s σ H x y v u Q I rx ry h;obtain⟨i,j,rfl,rfl,q⟩:=h;obtain⟨t,rfl⟩:=rx;obtain⟨t',rfl⟩:=ry;exact rule i j t t' s _ _ ⟨.int<|g i j,H,I.tok _,⟨_,rfl⟩,q⟩
theorem wA{f:CU->CU->Sem CU}{g:Int->Int->Bool}
  (rule:∀(i j:Int)(t u:Tok)(s:CV)(Q:CU->CV->Prop)(E:CU->CV->Prop),Q (.bool<|g i j) s->wpAny (model X.prog X.w) X.A (f (.int i t)<|.int j u) Q E s):
  OpR X f (fe fun i j=>.bl<|g i j):=by
 intro pins s σ H x y v u Q I rx ry h;obtain⟨i,j,rfl,rfl,q⟩:=h;obtain⟨t,rfl⟩:=rx;obtain⟨t',rfl⟩:=ry;exact rule i j t t' s _ _ ⟨.bl<|g i j,H,I,rfl,q⟩
def A5(i j:Int):Prop:=0<j/\j<1073741824
def A6(i j:Int):Prop:=0<=j/\j<=1000000/\i.natAbs<2^64
def CMul(i j:Int):Prop:=(-(2^64)<i/\i<2^64)\/(-(2^64)<j/\j<2^64)
theorem CMul.ok{i j:Int}(h:CMul i j):IntMulOk i j:=by
 rcases h with⟨h1,h2⟩|⟨h1,h2⟩
 ·exact .of_left<|LC h1 h2
 ·exact .of_right<|LC h1 h2
theorem bH:OpR X (binaryOp .Add) (fe fun i j=>.int<|i+j):=A4 fun _ _ _ _ _ _ _ q=>add_int q
theorem iR:OpR X (binaryOp .Sub) (fe fun i j=>.int<|i-j):=A4 fun _ _ _ _ _ _ _ q=>sub_int q
theorem fw:OpR X (binaryOp .Mult) (rI CMul fun i j=>.int<|i*j):=AQ fun _ _ _ _ _ _ _ hc q=>mul_int q hc.ok
theorem bo:OpR X (binaryOp .FloorDiv) (rI A5 fun i j=>.int<|i/j):=AQ fun i j _ _ _ _ _ hc q=>by
 have h1:(0:Int)<j:=hc.1;have h2:j<1073741824:=hc.2;exact floordiv_int (by omega) (by rw[Int.fdiv_eq_ediv_of_nonneg i (by omega)];exact q) (.inl (PyProof.noPylong_small (by omega)))
theorem aG:OpR X (binaryOp .Mod) (rI (fun _ j=>0<j) fun i j=>.int<|i%j):=AQ fun i j _ _ _ _ _ hc q=>by
 have h1:(0:Int)<j:=hc;exact mod_int' (by omega) (by rw[Int.fmod_eq_emod_of_nonneg i (by omega)];exact q)
theorem yN:OpR X (binaryOp .Pow) (rI A6 fun i j=>.int<|i^j.toNat):=AQ fun _ _ _ _ _ _ _ hc q=>pow_int_small hc.1 hc.2.1 hc.2.2 q
theorem BY{f:CU->Sem CU}{g:Int->Int}
  (rule:∀(i:Int)(t:Tok)(s:CV)(Q:CU->CV->Prop)(E:CU->CV->Prop),Q (.int (g i) s.toks) {s with toks:=s.toks+1}->wpAny (model X.prog X.w) X.A (f<|.int i t) Q E s):
  BH X f (rU fun i=>.int<|g i):=by
 intro pins s σ H x v Q I rx h;obtain⟨i,rfl,q⟩:=h;obtain⟨t,rfl⟩:=rx;exact rule i t s _ _ ⟨.int<|g i,H,I.tok _,⟨_,rfl⟩,q⟩
theorem gy:BH X (unaryOp .USub) (rU fun i=>.int<|-i):=BY fun _ _ _ _ _ q=>neg_int q
end
def cN:V->V->Bool
 | .non,.non=>true| .non,.int _=>true| .int _,.non=>true| .non,.bl _=>true| .bl _,.non=>true| .non,.str _=>true| .str _,.non=>true
 | .int _,.int _=>true| .bl _,.bl _=>true| .str _,.str _=>true| .byt _,.byt _=>true
 | .int _,.str _=>true| .str _,.int _=>true| .bl _,.str _=>true| .str _,.bl _=>true
 |_,_=>false
def gd:R2:=fun x y H Q=>cN x y=true/\Q (.bl<|decide<|x=y) H
def gf:R2:=fun x y H Q=>cN x y=true/\Q (.bl<|!decide (x=y)) H
theorem qv{i j:Int}:decide (V.int i=V.int j)=(i==j):=by
 rw[Fb];simp
theorem tX{i j:Bool}:decide (V.bl i=V.bl j)=(i==j):=by
 rw[Fb];simp
theorem qw{i j:Str}:decide (V.str i=V.str j)=(i==j):=by
 rw[Fb];simp
theorem qx{i j:Array UInt8}:decide (V.byt i=V.byt j)=(i.toList==j.toList):=by
 rw[Fb];cases i;cases j;simp
section
variable{X:Cx}{a b c:Expr}{ta tb tc:TE}{pos:Pos}
theorem aO{pins:List (Addr×Obj)}{σ:St}{H:Hp}{s:CV}{Q:VK}{k k':Bool}(I:Inv X pins σ H s)(q:Q (.bl k) H)(e:k=k'):EP X pins σ Q (.bool k') s:=by
 subst e;exact⟨.bl k,H,I,rfl,q⟩
theorem cg:OpR X (compareOp .Eq) gd:=by
 intro pins s σ H x y v u Q I rx ry h;obtain⟨hs,q⟩:=h;cases x with
 |non=>
  cases rx;cases y with
  |non=>cases ry;exact Lp (aO I q (by simp))
  |bl j=>cases ry;exact Lq (aO I q (by simp))
  |int j=>obtain⟨t',rfl⟩:=ry;exact LD (aO I q (by simp))
  |str j=>obtain⟨t',rfl⟩:=ry;exact LF (aO I q (by simp))
  |_=>exact absurd (show false=true from hs) Dg
 |bl i=>
  cases rx;cases y with
  |non=>cases ry;exact Lr (aO I q (by simp))
  |bl j=>cases ry;exact eq_bool<|aO I q tX
  |str j=>obtain⟨t',rfl⟩:=ry;exact Ls (aO I q (by simp))
  |_=>exact absurd (show false=true from hs) Dg
 |int i=>
  obtain⟨t,rfl⟩:=rx;cases y with
  |non=>cases ry;exact LG (aO I q (by simp))
  |int j=>obtain⟨t',rfl⟩:=ry;exact eq_int<|aO I q qv
  |str j=>obtain⟨t',rfl⟩:=ry;exact LH (aO I q (by simp))
  |_=>exact absurd (show false=true from hs) Dg
 |str i=>
  obtain⟨t,rfl⟩:=rx;cases y with
  |non=>cases ry;exact LI (aO I q (by simp))
  |bl j=>cases ry;exact Lu (aO I q (by simp))
  |int j=>obtain⟨t',rfl⟩:=ry;exact LJ (aO I q (by simp))
  |str j=>obtain⟨t',rfl⟩:=ry;exact eq_str<|aO I q qw
  |_=>exact absurd (show false=true from hs) Dg
 |byt i=>
  obtain⟨t,rfl⟩:=rx;cases y with
  |byt j=>obtain⟨t',rfl⟩:=ry;exact PySem.W.eq_bytes<|aO I q qx
  |_=>exact absurd (show false=true from hs) Dg
 |_=>cases y<;>exact absurd (show false=true from hs) Dg
theorem jF:OpR X (compareOp .NotEq) gf:=by
 intro pins s σ H x y v u Q I rx ry h;obtain⟨hs,q⟩:=h;cases x with
 |non=>
  cases rx;cases y with
  |non=>cases ry;exact Lv (aO I q (by simp))
  |bl j=>cases ry;exact Lw (aO I q (by simp))
  |int j=>obtain⟨t',rfl⟩:=ry;exact LK (aO I q (by simp))
  |str j=>obtain⟨t',rfl⟩:=ry;exact LL (aO I q (by simp))
  |_=>exact absurd (show false=true from hs) Dg
 |bl i=>
  cases rx;cases y with
  |non=>cases ry;exact Lx (aO I q (by simp))
  |bl j=>cases ry;exact ne_bool<|aO I q<|congrArg not tX
  |str j=>obtain⟨t',rfl⟩:=ry;exact Ly (aO I q (by simp))
  |_=>exact absurd (show false=true from hs) Dg
 |int i=>
  obtain⟨t,rfl⟩:=rx;cases y with
  |non=>cases ry;exact LM (aO I q (by simp))
  |int j=>obtain⟨t',rfl⟩:=ry;exact ne_int<|aO I q<|congrArg not qv
  |str j=>obtain⟨t',rfl⟩:=ry;exact LN (aO I q (by simp))
  |_=>exact absurd (show false=true from hs) Dg
 |str i=>
  obtain⟨t,rfl⟩:=rx;cases y with
  |non=>cases ry;exact LO (aO I q (by simp))
  |bl j=>cases ry;exact Lz (aO I q (by simp))
  |int j=>obtain⟨t',rfl⟩:=ry;exact LP (aO I q (by simp))
  |str j=>obtain⟨t',rfl⟩:=ry;exact ne_str<|aO I q<|congrArg not qw
  |_=>exact absurd (show false=true from hs) Dg
 |byt i=>
  obtain⟨t,rfl⟩:=rx;cases y with
  |byt j=>obtain⟨t',rfl⟩:=ry;exact PySem.W.ne_bytes<|aO I q<|congrArg not qx
  |_=>exact absurd (show false=true from hs) Dg
 |_=>cases y<;>exact absurd (show false=true from hs) Dg
theorem nA:OpR X (compareOp .Lt) (fe fun i j=>.bl<|decide<|i<j):=wA fun _ _ _ _ _ _ _ q=>lt_int q
theorem yg:OpR X (compareOp .LtE) (fe fun i j=>.bl<|decide<|i<=j):=wA fun _ _ _ _ _ _ _ q=>le_int q
theorem qy:OpR X (compareOp .Gt) (fe fun i j=>.bl<|decide<|j<i):=wA fun _ _ _ _ _ _ _ q=>gt_int q
theorem nB:OpR X (compareOp .GtE) (fe fun i j=>.bl<|decide<|j<=i):=wA fun _ _ _ _ _ _ _ q=>ge_int q
theorem rW:OpR X (compareOp .In) (fun x y H Q=>∃i j,x=.str i/\y=.str j/\Q (.bl<|!(GX j i 0 j.length 1).isEmpty) H):=by
 intro pins s σ H x y v u Q I rx ry h;obtain⟨i,j,rfl,rfl,q⟩:=h;obtain⟨t,rfl⟩:=rx;obtain⟨t',rfl⟩:=ry;exact in_str<|aO I q rfl
theorem op_isN:OpR X (compareOp .Is) (fun x y H Q=>y=.non/\Q (.bl<|decide<|x=.non) H):=by
 intro pins s σ H x y v u Q I rx ry h;obtain⟨rfl,q⟩:=h;cases ry;refine is_none_gen<|aO I q ?_
 cases x<;>first
  |(cases rx;rfl)
  |(obtain⟨t,rfl⟩:=rx;rfl)
theorem OpR.or{f:CU->CU->Sem CU}{r r':R2}(h:OpR X f r)(h':OpR X f r'):OpR X f (fun x y H Q=>r x y H Q\/r' x y H Q):=by
 intro pins s σ H x y v u Q I rx ry q;rcases q with q|q
 ·exact h pins s σ H x y v u Q I rx ry q
 ·exact h' pins s σ H x y v u Q I rx ry q
theorem ay(b:Expr){op:CmpOp}(h:op≠.In:=by decide)(h2:op≠.NotIn:=by decide):behindInMarks op b=false:=by
 have e1:(op==CmpOp.In)=false:=by cases op<;>first|rfl|exact absurd rfl h
 have e2:(op==CmpOp.NotIn)=false:=by cases op<;>first|rfl|exact absurd rfl h2
 cases b<;>simp[behindInMarks,e1,e2]
theorem cP{op:CmpOp}{r:R2}(ho:OpR X (compareOp op) r)(ha:PE X a ta)(hb:PE X b tb)(hm:behindInMarks op b=false):PE X (.Compare a [op] [b] pos) (dw r ta tb):=by
 intro pins s σ H Q I h;exact wpAny_Compare1 (yM ha hb I h fun v u s2 x y H2 I2 rx ry q=>ho pins s2 σ H2 x y v u Q I2 rx ry q) hm
def bF(t:TE):TT:=fun σ H Q=>t σ H fun x H'=>∃k,x=.bl k/\Q k H'
theorem ax{op:CmpOp}{r:R2}(ho:OpR X (compareOp op) r)(ha:PE X a ta)(hb:PE X b tb)(hm:behindInMarks op b=false):PT X (.Compare a [op] [b] pos) (bF<|dw r ta tb):=by
 intro pins s σ H Q I h;refine wpAny_isTrue_Compare1 (bP (ha pins s σ H _ I h) fun v s1⟨x,H1,I1,r1,q1⟩=>bP (hb pins s1 σ H1 _ I1 q1) fun u s2⟨y,H2,I2,r2,q2⟩=>
  bP (ho pins s2 σ H2 x y v u _ I2 r1 r2 q2) fun c s3⟨z,H3,I3,r3,k,e,q3⟩=>?_) hm
 subst e;cases r3;exact FO ⟨H3,I3,q3⟩
theorem jG:(sizeLine:Nat)<2^63:=by rw[Ej];decide
theorem dG:OpR X (binaryOp .Add) (fun x y H Q=>∃i j,x=.str i/\y=.str j/\i.length+j.length<=sizeLine/\Q (.str<|i++j) H):=by
 intro pins s σ H x y v u Q I rx ry h;obtain⟨i,j,rfl,rfl,hz,q⟩:=h;obtain⟨t,rfl⟩:=rx;obtain⟨t',rfl⟩:=ry;exact add_str (fun t' tk=>⟨.str<|i++j,H,I.tok _,⟨_,rfl⟩,q⟩) hz
theorem nE:OpR X (inplaceOp .Add) (fun x y H Q=>∃i j,x=.str i/\y=.str j/\i.length+j.length<=sizeLine/\Q (.str<|i++j) H):=by
 intro pins s σ H x y v u Q I rx ry h;obtain⟨i,j,rfl,rfl,hz,q⟩:=h;obtain⟨t,rfl⟩:=rx;obtain⟨t',rfl⟩:=ry;exact iadd_str (fun t' tk=>⟨.str<|i++j,H,I.tok _,⟨_,rfl⟩,q⟩) hz
theorem gh{x:V}{us:List CU}(r:Vals [x] us):∃u,us=[u]/\RelV x u:=by
 cases r with
 |cons r1 r2=>cases r2;exact⟨_,rfl,r1⟩
theorem yh{x y:V}{us:List CU}(r:Vals [x,y] us):∃u w',us=[u,w']/\RelV x u/\RelV y w':=by
 cases r with
 |cons r1 r2=>
  cases r2 with
  |cons r3 r4=>cases r4;exact⟨_,_,rfl,r1,r3⟩
theorem jH:fh X (.builtin "abs") (fun xs H Q=>∃i,xs=[.int i]/\Q (.int (if i<0 then -i else i)) H):=by
 intro pins s σ H xs us Q I r h;obtain⟨i,rfl,q⟩:=h;obtain⟨u,rfl,t,rfl⟩:=gh r;exact call_abs_int fun u tk=>⟨.int (if i<0 then -i else i),H,I.tok _,⟨_,rfl⟩,q⟩
theorem lA:fh X (.type "int") (fun xs H Q=>(∃i,xs=[.int i]/\Q (.int i) H)\/∃k,xs=[.bl k]/\Q (.int (if k then 1 else 0)) H):=by
 intro pins s σ H xs us Q I r h;rcases h with⟨i,rfl,q⟩|⟨k,rfl,q⟩
 ·obtain⟨u,rfl,t,rfl⟩:=gh r;exact call_int_int ⟨.int i,H,I,⟨_,rfl⟩,q⟩
 ·obtain⟨u,rfl,r1⟩:=gh r;cases r1;exact call_int_bool ⟨.int (if k then 1 else 0),H,I.tok _,⟨_,rfl⟩,q⟩
def pj(K:CT)(x:V)(H:Hp)(n:Nat):Prop:=
 match x with
 | .str y=>y.length<=sizeLine/\n=y.length
 | .byt y=>y.size<=sizeLine/\n=y.size
 | .ref p=>(∃xs,SqL K H p xs/\n=xs.length)\/∃xs,SqT K H p xs/\n=xs.length
 |_=>False
theorem tY:fh X (.builtin "len") (fun xs H Q=>∃x n,xs=[x]/\pj X.K x H n/\Q (.int n) H):=by
 intro pins s σ H xs us Q I r h;obtain⟨x,n,rfl,e,q⟩:=h;obtain⟨u,rfl,rx⟩:=gh r;have hl:=jG;have hs:sizeLine=16777216:=Ej;cases x with
 |str y=>
  obtain⟨t,rfl⟩:=rx;obtain⟨hy,e'⟩:y.length<=sizeLine/\n=y.length:=e;subst e';exact len_str (by omega) ⟨.int _,H,I.tok _,⟨_,rfl⟩,q⟩
 |byt y=>
  obtain⟨t,rfl⟩:=rx;obtain⟨hy,e'⟩:y.size<=sizeLine/\n=y.size:=e;subst e';exact PySem.W.len_bytes (by omega) ⟨.int _,H,I.tok _,⟨_,rfl⟩,q⟩
 |ref p=>
  cases rx;have e':(∃xs,SqL X.K H p xs/\n=xs.length)\/∃xs,SqT X.K H p xs/\n=xs.length:=e;rcases e' with⟨xs,hx,e'⟩|⟨xs,hx,e'⟩
  ·subst e';obtain⟨its,r',pl,hz⟩:=I.list hx;have hlen:=r'.length;exact Calls.call_len_list pl.isList (by simp only[Dm];omega) ⟨.int xs.length,H,I.tok _,⟨_,by simp only[Dm];rw[hlen]⟩,q⟩
  ·subst e';obtain⟨its,r',pl,hz⟩:=I.tuple hx;have hlen:=r'.length;exact len_tuple pl (by simp only[Dm];omega) ⟨.int xs.length,H,I.tok _,⟨_,by simp only[Dm];rw[hlen]⟩,q⟩
 |_=>exact(show False from e).elim
end
structure ObjM(h:Heap)(x dx C:Addr)(mA:Str->Option CU):Prop where
 obj:h.get? x=some (Ji C dx)
 ns:h.Ns1 dx mA
 ne:dx≠x
theorem rX{h:Heap}{dx:Addr}{mA:Str->Option CU}(n:h.Ns1 dx mA):∃od,h.get? dx=some od/\∀name,JI name od=some (mA name):=by
 obtain⟨o,es,ep,ho,hd,hk,_,hm⟩:=n;refine⟨o,ho,fun name=>?_⟩;have e:=hm name;unfold nsFind findBy at e;rw[<-Array.find?_toList]at e;unfold JI;rw[hd];dsimp only;split
 ·rename_i y q;rw[q]at e;exact congrArg some e
 ·rename_i q;rw[q]at e;have a:es.toList.any (·.refKey)=false:=by
   rw[List.any_eq_false];intro y hy;obtain⟨z,t,hkey⟩:=hk y<|Array.mem_toList_iff.mp hy;simp[DictEntry.refKey,hkey]
  have a':¬es.toList.any (·.refKey)=true:=by rw[a];exact Dg
  rw[if_neg a'];exact congrArg some e
theorem ObjM.look{h:Heap}{x dx C:Addr}{mA:Str->Option CU}(I:ObjM h x dx C mA):∃od,PySem.W.InstAt h x (Ji C dx) C (some od)/\∀name,JI name od=some (mA name):=
 let ⟨od,ho,hl⟩:=rX I.ns
 ⟨od,⟨I.obj,rfl,rfl,ho⟩,hl⟩
theorem RelO.some_of{v:V}{o:Option CU}(r:RelO (some v) o):∃u,o=some u/\RelV v u:=by
 cases o with
 |none=>exact(show False from r).elim
 |some u=>exact⟨u,rfl,r⟩
section
variable{P:Dj}{w:Dp}{H H':Hp}{h h':Heap}{a C dx:Addr}{fs fs':List (Str×V)}
theorem wB(hok:HOk P w H h)(e:H a=some (.ins C dx fs)):∃mA,ObjM h a dx C mA/\(∀f,RelO (fs.lookup f)<|mA f)/\M4 mA (fs.map (·.1))/\fs.length<=1000/\H dx=some (.own a):=by
 obtain⟨d,z,ne,ob,mA,n,r,q⟩:=(show ObjOk P w H h a (.ins C dx fs)from hok a _ e)
 exact⟨mA,⟨ob,n,ne⟩,r,q,z,d⟩
end
structure Cls(K:CT)(C:Addr):Prop where
 pg:KD K C Str.empty=true
 hd:PySem.W.hasDictIn K C=true
 po:PySem.W.plainOver K C=true
 sa:Lf K (.ref C) "__setattr__"=some (some<|.builtin "object.__setattr__")
theorem Cls.get{K:CT}{C:Addr}(c:Cls K C)(f:Str):KD K C f=true:=c.pg
section
variable{X:Cx}{pins:List (Addr×Obj)}{σ:St}{H:Hp}{s:CV}{A:DS}{E:CU->CV->Prop}{Q:CU->CV->Prop}{c:CU}{b:Bool}
inductive TyOf(K:CT)(H:Hp):V->CU->Prop where
 |non:TyOf K H .non (.type "NoneType")
 |bl (x:Bool):TyOf K H (.bl x) (.type "bool")
 |int (i:Int):TyOf K H (.int i) (.type "int")
 |str (x:Str):TyOf K H (.str x) (.type "str")
 |flt (x:UInt64):TyOf K H (.flt x) (.type "float")
 |lst {a:Addr} {xs:List V} (e:H a=some (.lst xs)):TyOf K H (.ref a) (.type "list")
 |frz {a:Addr} {o:Obj} {xs:List V} (e:H a=some (.frz o<|.lst xs)):TyOf K H (.ref a) (.type "list")
 |tup {a:Addr} {xs:List V} (e:SqT K H a xs):TyOf K H (.ref a) (.type "tuple")
 |dK {a:Addr} {kvs:List (Key×V)} (e:H a=some (.dK kvs)):TyOf K H (.ref a) (.type "dict")
 |dT {a:Addr} {kvs:List (List Key×V)} (e:H a=some (.dT kvs)):TyOf K H (.ref a) (.type "dict")
 | ins {a C dx:Addr} {fs:List (Str×V)} (e:H a=some (.ins C dx fs)) (cl:Cls K C) (ha:Lf K (.ref C) "__class__" =some (some<|.builtin "object.__class__"))
   (hn:PySem.W.specialIn K (.builtin "object.__class__") "__get__"=some (some<|.builtin "getset_descriptor.__get__")) (htk:PySem.W.takesIn K (.builtin "object.__class__")=some true)
   (hm:PySem.W.mroIn K C (.type "object")=some true):TyOf K H (.ref a) (.ref C)
theorem rY{x:V}{u t:CU}(I:Inv X pins σ H s)(rx:RelV x u)(ty:TyOf X.K H x t)(e:Fo X.K t c=some b)(h:∀tk,Q (.bool b) {s with toks:=tk}):
  wpAny (model X.prog X.w) A (call (.builtin "isinstance") [u,c]) Q E s:=by
 cases ty with
 |non=>cases (show u=En from rx);exact EM PySem.W.kitx_none I.kIn Ga e (fun z=>nomatch z) h
 |bl y=>cases (show u=Lc y from rx);exact EM PySem.W.kitx_bool I.kIn Ga e (fun z=>nomatch z) h
 |int i=>obtain⟨t,q⟩:=(show ∃t,u=IY i t from rx);cases q;exact EM PySem.W.kitx_int I.kIn Ga e (fun z=>nomatch z) h
 |str y=>obtain⟨t,q⟩:=(show ∃t,u=KA y t from rx);cases q;exact EM PySem.W.kitx_str I.kIn Ga e (fun z=>nomatch z) h
 |flt y=>obtain⟨t,q⟩:=(show ∃t,u=Mj y t from rx);cases q;exact EM PySem.W.kitx_float I.kIn Ga e (fun z=>nomatch z) h
 | @lst a xs ea=>
  cases (show u=Eg a from rx);obtain⟨_,_,n,_,h1⟩:=(show ObjOk X.prog X.w H s.heap a (.lst xs)from I.hok a _ ea)
  exact EM Ki I.kIn ⟨_,h1,rfl⟩ e (fun z=>nomatch z) h
 | @frz a ob xs ea=>
  cases (show u=Eg a from rx);obtain⟨_,_,_,n,_,h1⟩:=(show ObjOk X.prog X.w H s.heap a (.frz ob<|.lst xs)from I.hok a _ ea)
  exact EM Ki I.kIn ⟨_,h1,rfl⟩ e (fun z=>nomatch z) h
 | @tup a xs ea=>
  cases (show u=Eg a from rx);obtain⟨_,_,p,_⟩:=I.tuple ea;obtain⟨o,h1,h2,_⟩:=p;exact EM PySem.W.kitx_tuple I.kIn ⟨o,h1,h2⟩ e (fun z=>nomatch z) h
 | @dK a kvs ea=>
  cases (show u=Eg a from rx);obtain⟨_,_,vs,_,p⟩:=(show ObjOk X.prog X.w H s.heap a (.dK kvs)from I.hok a _ ea)
  obtain⟨o,es,ep,h1,h2,_⟩:=p;exact EM Kj I.kIn ⟨o,h1,h2.1⟩ e (fun z=>nomatch z) h
 | @dT a kvs ea=>
  cases (show u=Eg a from rx);obtain⟨_,_,xs,_,o,es,ep,h1,h2,_⟩:=(show ObjOk X.prog X.w H s.heap a (.dT kvs)from I.hok a _ ea)
  exact EM Kj I.kIn ⟨o,h1,h2.1⟩ e (fun z=>nomatch z) h
 | @ins a C dx fs ea cl ha hn htk hm=>
  cases (show u=Eg a from rx);obtain⟨mA,O,_⟩:=wB I.hok ea;obtain⟨od,J,_⟩:=O.look;exact EM (PySem.W.kitx_own (cl.get _) cl.hd ha hn htk hm) I.kIn J e (fun z=>nomatch z) h
end
structure Room(k:Nat)(A:DS):Prop where
 hd:A.handled=none
 dp:A.depth+3*k+5<recursionLimit
 un:A.units+16*k+200<cLine
theorem Room.mono{j k:Nat}{A:DS}(r:Room k A)(h:j<=k):Room j A:=⟨r.hd,by have:=r.dp;omega,by have:=r.un;omega⟩
theorem Room.deeper{k:Nat}{A:DS}(r:Room (k+1) A)(env:Env):Room k (A.deeper env):=
 ⟨r.hd,by have:=r.dp;show A.depth+1+3*k+5<_;omega,by have:=r.un;show A.units+3+16*k+200<_;omega⟩
theorem Room.depth{k:Nat}{A:DS}(r:Room k A):A.depth<recursionLimit:=by have:=r.dp;omega
theorem Room.units0{k:Nat}{A:DS}(r:Room k A):A.units<cLine:=by have:=r.un;omega
def aU:TA:=fun _ H Q=>Q [] H
def ao(ta:TE)(tr:TA):TA:=fun σ H Q=>ta σ H fun x H1=>tr σ H1 fun xs H2=>Q (x::xs) H2
section
variable{X:Cx}{e:Expr}{es:List Expr}{te:TE}{t:TA}{pos:Pos}
theorem ae:PA X [] aU:=fun _ _ _ _ H Q I h=>Kk ⟨[],H,I,.nil,h⟩
theorem a5(ha:PE X e te)(hr:PA X es t)(hs:starEach (e::es) X.env=(false,eval e X.env)::starEach es X.env:=by rfl):PA X (e::es) (ao te t):=by
 intro pos pins s σ H Q I h;rw[hs];show wpAny _ _ (spliced ((false,eval e X.env)::backTo pos (starEach es X.env))) _ _ s;refine K6<|bP (ha pins s σ H _ I h) fun u s1 zz=>?_;obtain⟨x,H1,I1,r1,q1⟩:=zz;refine bP (hr pos pins s1 σ H1 _ I1 q1) fun us s2 zz=>?_;obtain⟨xs,H2,I2,r2,q2⟩:=zz;exact⟨x::xs,H2,I2,.cons r1 r2,q2⟩
def cB(t:TA):TE:=fun σ H Q=>t σ H fun xs H1=>xs.length<=sizeLine/\∀p,H1 p=none->Q (.ref p) (cZ H1 p<|.tup xs)
def cv(t:TA):TE:=fun σ H Q=>t σ H fun xs H1=>xs.length<=sizeLine/\∀p,H1 p=none->Q (.ref p) (cZ H1 p<|.lst xs)
theorem d5{x1}(h:PA X es t):PE X (.Tuple es x1 pos) (cB t):=by
 intro pins s σ H Q I hq;refine wpAny_Tuple_spliced (bP (h pos pins s σ H _ I hq) fun us s1⟨xs,H1,I1,r,z,q⟩=>⟨by rw[<-r.length];exact z,?_⟩);have hf:H1 s1.heap.objs.size=none:=I1.hok.fresh<|D0 _;refine⟨.ref s1.heap.objs.size,cZ H1 s1.heap.objs.size<|.tup xs,I1.laid (t':=s1.toks) (fun b u e=>CQ _ e) (D0 _) ?_,rfl,q _ hf⟩;exact⟨z,us,r,⟨_,D6 _ rfl,⟨rfl,rfl⟩,_,rfl⟩⟩
theorem cQ(h:PA X es t):PE X (.List es pos) (cv t):=by
 intro pins s σ H Q I hq;refine wpAny_List_spliced (bP (h pos pins s σ H _ I hq) fun us s1⟨xs,H1,I1,r,z,q⟩=>⟨by rw[<-r.length];exact z,?_⟩);have hf:H1 s1.heap.objs.size=none:=I1.hok.fresh<|D0 _;refine⟨.ref s1.heap.objs.size,cZ H1 s1.heap.objs.size<|.lst xs,I1.laid (t':=s1.toks) (fun b u e=>CQ _ e) (D0 _) ?_,rfl,q _ hf⟩;exact⟨z,us,0,r,D6 _ rfl⟩
end
abbrev Sp:=List V->Hp->VK->XK->Prop
abbrev CXT:=List Env->Hp->CV->XK->CU->CV->Prop
structure Env0(P:Dj)(w:Dp)(K:CT)(mg:Str->Option CU)(base:Heap)(A:DS)(outer:List Env)(s:CV)(H:Hp):Prop where
 frames:A.frames=some outer
 mod:Mod K mg base
 bs:∀b o,base.get? b=some o->s.heap.get? b=some o/\H b=none
 bsz:base.objs.size<=s.heap.objs.size
 funs:s.heap.FunFrames base outer
 frf:∀b∈frs outer,H b=none
 hok:HOk P w H s.heap
 bare:Iz s.gens
def CE(outer:List Env)(P:Dj)(w:Dp)(H:Hp)(s:CV)(Q:VK)(u:CU)(s':CV):Prop:=
 ∃v H',s'.os=s.os/\Iz s'.gens/\Un (frs outer) [] H H' s.heap s'.heap/\HOk P w H' s'.heap/\RelV v u/\Q v H'
def CR(CX:CXT)(outer:List Env)(P:Dj)(w:Dp)(H:Hp)(s:CV)(Q:VK)(E:XK)(r:Lg)(s':CV):Prop:=
 match r with
 | .ok (.ret u)=>CE outer P w H s Q u s'
 | .ok _=>False
 | .error e=>CX outer H s E e s'
structure FnOk(P:Dj)(w:Dp)(K:CT)(mg:Str->Option CU)(base:Heap)(CX:CXT)(k:Nat)(f:Addr)(fd:Dr)(ps:List Str)(sp:Sp):Prop where
 len:∀vs H Q E,sp vs H Q E->vs.length=ps.length
 run:∀(A:DS)(outer:List Env)(s:CV)(H:Hp)(args:Args)(us:List CU)(vs:List V)(Q:VK)(E:XK),Room k A->Env0 P w K mg base A outer s H->Kl s fd args (ps.zip us)->Vals vs us->sp vs H Q E->
  codeAny (model P w) A (.call (.ref f) args) (CR CX outer P w H s Q E) s
theorem FnOk.imp{P:Dj}{w:Dp}{K:CT}{mg:Str->Option CU}{base:Heap}{CX:CXT}{k:Nat}{f:Addr}{fd:Dr}{ps:List Str}{sp sp':Sp}(F:FnOk P w K mg base CX k f fd ps sp)
  (h:∀vs H Q E,sp' vs H Q E->sp vs H Q E):FnOk P w K mg base CX k f fd ps sp':=
 ⟨fun vs H Q E q=>F.len vs H Q E<|h _ _ _ _ q,fun A outer s H args us vs Q E hr he hb hv hs=>F.run A outer s H args us vs Q E hr he hb hv<|h _ _ _ _ hs⟩
section
variable{X:Cx}{pins:List (Addr×Obj)}{σ:St}{H:Hp}{s s':CV}
theorem Inv.env0(I:Inv X pins σ H s):Env0 X.prog X.w X.K X.mg X.base X.A X.stack s H:=
 ⟨I.ok.frames,I.ok.mod,I.bs,EO I.ok.bsz I.sz,I.stack,I.stkFree,I.hok,I.bare⟩
theorem Inv.after{Q:VK}{u:CU}(I:Inv X pins σ H s)(h:CE X.stack X.prog X.w H s Q u s'):EP X pins σ Q u s':=by
 obtain⟨v,H',os,bare,un,hok,r,q⟩:=h;obtain⟨hh,g,d,t,os'⟩:=s';obtain rfl:os'=s.os:=os;exact⟨v,H',I.call (h':=hh) (g':=g) (d':=d) (t':=t) (ch:=[]) un hok bare (fun b z=>absurd z (by simp)),r,q⟩
end
def aT(sp:Sp)(dvs:List V)(E:XK)(t:TA):TE:=fun σ H Q=>t σ H fun vs H1=>sp (vs++dvs) H1 Q E
def Binds(K:CT)(fd:Dr)(ps:List Str)(ds:List CU):Prop:=
 ∀(s:CV)(us:List CU),K.In s.heap->(us++ds).length=ps.length->Kl s fd ⟨us,[]⟩ (ps.zip<|us++ds)
theorem Binds.all{K:CT}{fd:Dr}{ps:List Str}(h:∀us:List CU,us.length=ps.length->bindArgs fd ⟨us,[]⟩=pure (ps.zip us)):Binds K fd ps []:=fun s us _ hl=>by
 rw[EN]at hl ⊢;exact .of_eq<|h us hl
def pq(CX:CXT)(X:Cx)(E:XK):Prop:=∀(pins:List (Addr×Obj))(σ:St)(H:Hp)(s:CV)(e:CU)(s':CV),Inv X pins σ H s->CX X.stack H s E e s'->X.xe e s'
section
variable{X:Cx}{CX:CXT}{k:Nat}{f C:Addr}{fd:Dr}{ps:List Str}{sp:Sp}{dvs:List V}{ds:List CU}{E:XK}{x m:Str}{p pos apos:Pos}{e o:Expr}{es:List Expr}{ta:TE}{t:TA}
theorem yO{pins:List (Addr×Obj)}{σ:St}{H:Hp}{s:CV}{Q:VK}{us:List CU}{vs:List V}(F:FnOk X.prog X.w X.K X.mg X.base CX k f fd ps sp)(hr:Room k X.A)(hb:Binds X.K fd ps ds)(hd:Vals dvs ds)(hx:pq CX X E)
  (I:Inv X pins σ H s) (r:Vals vs us) (h:sp (vs++dvs) H Q E):wpAny (model X.prog X.w) X.A (call (.ref f) us) (EP X pins σ Q) X.xe s:=by
 have r2:Vals (vs++dvs) (us++ds):=r.append hd;have hl:(us++ds).length=ps.length:=by rw[<-r2.length];exact F.len _ _ _ _ h
 refine wpAny_call<|HW (F.run X.A X.stack s H ⟨us,[]⟩ (us++ds) (vs++dvs) Q E hr I.env0 (hb s us I.kIn hl) r2 h) fun r s' hq=>?_;cases r with
 |error e=>exact hx pins σ H s e s' I hq
 |ok fl=>
  cases fl with
  |ret u=>exact I.after hq
  |next=>exact G8 hq
  |brk=>exact G8 hq
  |cont=>exact G8 hq
theorem wC(F:FnOk X.prog X.w X.K X.mg X.base CX k f fd ps sp)(hr:Room k X.A)(hg:Gl X x)(hm:X.mg x=some (.ref f))(hk:FV X.K (.ref f)=true)(hb:Binds X.K fd ps ds)(hd:Vals dvs ds)(hx:pq CX X E)
  (ha:PA X (e::es) t) (hdb:(x==("__debug__" :Str))=false:=by decide) (he:starEach (e::es) X.env=(false,eval e X.env)::starEach es X.env:=by rfl) (hpl:(backTo pos<|starEach es X.env).any (·.1)=false:=by rfl):
  PE X (.Call (.Name x p) (e::es) [] pos) (aT sp dvs E t):=by
 intro pins s σ H Q I h;refine I0<|qu I hg hm ?_ hdb;refine PySem.W.callWith_K (h₀:=X.base) I.ok.mod.kin hk (bP (ha pos pins s σ H _ I h) fun us s1⟨vs,H1,I1,r,q⟩=>⟨I1.kIn,?_⟩) he hpl;exact yO F hr hb hd hx I1 r q
end
structure FnScope(N P:List Str)(sc:Gi):Prop where
 kind:sc.kind=.function
 co:sc.isCoroutine=false
 gen:sc.isGenerator=false
 nd:N.Nodup
 pre:N.take P.length=P
 par:∀x∈P,sc.names.lookup x=some .local\/sc.names.lookup x=some .cell
 nofree:∀y∈sc.names,y.2≠.free
theorem lB{kindOf:Str->Option FW}{x:Str}:∀{binds:List (Str×CU)}{m:Str->Option CU},(∀v,(x,v)∉binds)->bindL kindOf binds m x=m x
 | [],_,_=>rfl
 |(n,v)::r,m,h=>by
  unfold bindL;rw[lB fun w hw=>h w<|Dk _ hw];split
  ·have:x≠n:=by rintro rfl;exact h v Di
   simp[this]
  ·rfl
theorem lC{kindOf:Str->Option FW}{x:Str}:∀{binds:List (Str×CU)}{m:Str->Option CU},(∀v,(x,v)∉binds)->bindC kindOf binds m x=m x
 | [],_,_=>rfl
 |(n,v)::r,m,h=>by
  unfold bindC;rw[lC fun w hw=>h w<|Dk _ hw];split;·rfl
  ·have:x≠n:=by rintro rfl;exact h v Di
   simp[this]
theorem lD{kindOf:Str->Option FW}{x:Str}{v:CU}:∀{P:List Str}{vs:List CU}{i:Nat}{m:Str->Option CU},P.Nodup->P[i]? =some x->vs[i]? =some v->kindOf x=some .local->
  bindL kindOf (P.zip vs) m x=some v
 | [],_,_,_,_,h,_,_=>by simp at h
 |_::_,[],_,_,_,_,h,_=>by simp at h
 |p::P,w::vs,0,m,nd,h1,h2,hk=>by
  simp at h1 h2;subst h1;subst h2;show bindL kindOf ((p,w)::P.zip vs) m p=_;unfold bindL;rw[lB fun v hv=>(Fc.mp nd).1 (Gj hv).1,if_pos hk];simp
 |p::P,w::vs,i+1,m,nd,h1,h2,hk=>by
  show bindL kindOf ((p,w)::P.zip vs) m x=_;unfold bindL;exact lD (i:=i) (Fc.mp nd).2 (by simpa using h1) (by simpa using h2) hk
theorem lE{kindOf:Str->Option FW}{x:Str}{v:CU}:∀{P:List Str}{vs:List CU}{i:Nat}{m:Str->Option CU},P.Nodup->P[i]? =some x->vs[i]? =some v->kindOf x≠some .local->
  bindC kindOf (P.zip vs) m x=some v
 | [],_,_,_,_,h,_,_=>by simp at h
 |_::_,[],_,_,_,_,h,_=>by simp at h
 |p::P,w::vs,0,m,nd,h1,h2,hk=>by
  simp at h1 h2;subst h1;subst h2;show bindC kindOf ((p,w)::P.zip vs) m p=_;unfold bindC;rw[lC fun v hv=>(Fc.mp nd).1 (Gj hv).1,if_neg hk];simp
 |p::P,w::vs,i+1,m,nd,h1,h2,hk=>by
  show bindC kindOf ((p,w)::P.zip vs) m x=_;unfold bindC;exact lE (i:=i) (Fc.mp nd).2 (by simpa using h1) (by simpa using h2) hk
def start(N:List Str)(vs:List V):St:=vs.map some++Fp (N.length-vs.length) none
def rZ(CX:CXT)(P:Dj)(w:Dp)(K:CT)(mg:Str->Option CU)(base:Heap)(N:List Str)(qual:Str)(scope:Gi)(f:Addr)(cd:CU)(A:DS)(outer:List Env)(s:CV)(H:Hp)(E:XK):Cx where
 prog:=P
 w:=w
 K:=K
 mg:=mg
 base:=base
 A:=A.deeper<|envOfC qual scope s.heap.objs.size f cd
 N:=N
 s₀:=s
 H₀:=H
 env:=envOfC qual scope s.heap.objs.size f cd
 outer:=outer
 stack:=envOfC qual scope s.heap.objs.size f cd::outer
 ex:=[]
 calm:=true
 fn:=fun _=>true
 pn:=[]
 xe:=fun e s'=>wpAny (model P w) (A.deeper<|envOfC qual scope s.heap.objs.size f cd) (leaving (envOfC qual scope s.heap.objs.size f cd) e) (fun _ s''=>CX outer H s E e s'') (fun e' s''=>CX outer H s E e' s'') s'
theorem nF{sc:Gi}{n:Nat}{x:Str}(h:sc.names.lookup x=some .cell):∃c,(cellsFrom n sc.names []).lookup x=some c:=by
 have q:=Hb sc.names n []<|.inl h;exact IL.mp q
theorem sd{CX:CXT}{P:Dj}{w:Dp}{K:CT}{mg:Str->Option CU}{base:Heap}{N ps:List Str}{qual:Str}{scope:Gi}{f:Addr}{cd:CU}{A:DS}{outer:List Env}{s s1:CV}{H:Hp}{E:XK}{us:List CU}{vs:List V}
  (S:FnScope N ps scope) (hd:A.handled=none) (e0:Env0 P w K mg base A outer s H) (hl:vs.length=ps.length) (r:Vals vs us)
  (x:InCallC s s.heap.objs.size (bindL (envOfC qual scope s.heap.objs.size f cd).kindOf (ps.zip us) fun _=>none) (cellsFrom (s.heap.objs.size+1) scope.names []) (bindC (envOfC qual scope s.heap.objs.size f cd).kindOf (ps.zip us) fun _=>none) s1):
  Inv (rZ CX P w K mg base N qual scope f cd A outer s H E) [] (start N vs) H s1:=by
 have hpl:ps.length<=N.length:=by have:=congrArg FA S.pre;rw[Hr]at this;omega
 obtain⟨h1,tk,rfl,hk⟩:=x.done;have noA:∀b:Addr,b∉(rZ CX P w K mg base N qual scope f cd A outer s H E).ex:=fun b z=>absurd (show b∈([]:List Addr)from z) (by simp);refine⟨⟨e0.mod,S.kind,rfl,rfl,D0 _,fun y z c h1 h2=>?_,fun y hy=>?_,fun y c _ h=>?_,fun _=>hd,Around.frames_deeper e0.frames,.inr ⟨rfl,rfl⟩,fun b z=>absurd z<|noA b,e0.bs,e0.bsz,fun b _ _=>noA b,fun b z=>absurd z<|noA b,e0.funs,e0.frf⟩,
  rfl,e0.bare,Un.kept hk,⟨_,x.toInCall.ns,fun i y v h1 h2 h3=>?_⟩,fun y c h=>⟨_,x.cell y c h⟩,e0.hok.fresh (D0 _),fun y c h=>?_,fun p hp=>absurd (show p∈([]:List (Addr×Obj))from hp) (by simp),e0.hok.kept hk,?_⟩
 ·exact name_of_addr x.apart (ER h1)<|ER h2
 ·have hy:scope.names.lookup y=some .cell\/scope.names.lookup y=some .free:=hy;rcases hy with hy|hy
  ·exact nF hy
  ·exact absurd rfl<|S.nofree _<|ER hy
 ·exact GB<|x.above y c<|ER h
 ·have hi:i<vs.length:=by
   unfold start at h2;by_cases hi:i<vs.length;·exact hi
   ·rw[Dw (by simpa using hi)]at h2;rw[List.getElem?_replicate]at h2;split at h2<;>cases h2
  have ha:vs[i]? =some v:=by
   unfold start at h2;rw[DF (by simpa using hi),D7]at h2;cases e:vs[i]? with
   |none=>rw[e]at h2;cases h2
   |some a=>rw[e]at h2;cases h2;rfl
  obtain⟨u,hu,rv⟩:=r.get ha;have hp:ps[i]? =some y:=by
   rw[<-S.pre,E1 (by omega)];exact h1
  have ndP:ps.Nodup:=by rw[<-S.pre];exact S.nd.sublist<|List.take_sublist _ _
  refine⟨u,rv,?_⟩;rcases S.par y (Dz hp)with k|k
  ·exact .inl ⟨k,lD ndP hp hu k⟩
  ·obtain⟨c,e⟩:=nF (n:=s.heap.objs.size+1) k;refine .inr ⟨.inl k,c,e,?_⟩;have q:=x.cell y c e;rw[lE ndP hp hu (by show scope.names.lookup y≠_;rw[k];decide)]at q;exact q
 ·exact e0.hok.fresh<|GB<|x.above y c<|ER h
 ·unfold start;show _=N.length;rw[GR,Dx,List.length_replicate];omega
theorem A7{CX:CXT}{P:Dj}{w:Dp}{K:CT}{mg:Str->Option CU}{base:Heap}{k:Nat}{f:Addr}{name qual:Str}{params:Arguments}{body:List Stmt}{scope:Gi}{dV kV doc pm cdv ct oc:CU}{an od:Option Addr}
  {osl:Array (Option CU)} {N ps:List Str} {sp:Sp} (lk:K.lookup f=some ⟨oc,od,.func<|Fj name qual params body scope dV kV doc pm an cdv ct,osl⟩) (hcd:Gu K cdv qual=true) (S:FnScope N ps scope)
  (len:∀vs H Q E,sp vs H Q E->vs.length=ps.length)
  (hbody:∀(A:DS) (outer:List Env) (s:CV) (H:Hp) (vs:List V) (Q:VK) (E:XK),Room k (A.deeper<|envOfC qual scope s.heap.objs.size f cdv)->sp vs H Q E->
   ∃t,PSs (rZ CX P w K mg base N qual scope f cdv A outer s H E) body t/\t {nx:=fun _ H'=>Q .non H',rt:=Q} (start N vs) H):
  FnOk P w K mg base CX (k+1) f (Fj name qual params body scope dV kV doc pm an cdv ct) ps sp:=by
 refine⟨len,fun A outer s H args us vs Q E hr e0 hb r hsp=>?_⟩;have hl:=len _ _ _ _ hsp;have KX:K.In s.heap:=e0.mod.kin.keeps fun b o e=>(e0.bs b o e).1;have lim:s.heap.NoLimit:=e0.mod.nolimit.keeps fun b o e=>(e0.bs b o e).1;have hkind:∀y∈ps.zip us,scope.names.lookup y.1=some .local\/(scope.names.lookup y.1=some .cell/\((cellsFrom (s.heap.objs.size+1) scope.names []).lookup y.1).isSome=true):=fun⟨n,v⟩hy=>by
  rcases S.par n (Gj hy).1 with q|q;·exact .inl q
  ·exact .inr ⟨q,Hb _ _ _<|.inl q⟩
 refine codeAny_call_function hr.depth (KX _ _ lk) rfl S.co S.gen rfl (PySem.W.codeRec_of KX hcd)<|hb _ _ _ _ ?_;refine wpAny_newFunctionEnv_cells S.kind hkind fun env he s1 x=>?_;subst he;refine⟨lim.keeps x.toInCall.keep,codeAny_func ?_⟩;obtain⟨t,ht,hq⟩:=hbody A outer s H vs Q E (hr.deeper _) hsp;have I:Inv (rZ CX P w K mg base N qual scope f cdv A outer s H E) [] (start N vs) H s1:=sd S hr.hd e0 hl r x;refine Ee (ht [] s1 (start N vs) H _ I hq) (fun fl s' hs=>?_) fun e s' hs=>hs;have fin:∀{σ':St}{H':Hp}{v:V}{u:CU},Inv (rZ CX P w K mg base N qual scope f cdv A outer s H E) [] σ' H' s'->RelV v u->Q v H'->CE outer P w H s Q u s':=
  fun{σ' H' v u}J rv q=>⟨v,H',J.os,J.bare,J.base,J.hok,rv,q⟩
 cases fl with
 |ret u=>
  obtain⟨v,σ',H',J,rv,q⟩:=hs;exact fin J rv q
 |next=>
  obtain⟨σ',H',J,q⟩:=hs;exact fin (v:=V.non) (u:=En) J rfl q
 |brk=>
  obtain⟨_,_,_,q⟩:=hs;exact G8 q
 |cont=>
  obtain⟨_,_,_,q⟩:=hs;exact G8 q
section
variable{X:Cx}{x:Str}{p pos:Pos}{e:Expr}{es:List Expr}{t:TA}{id T:String}{r:List V->Hp->VK->Prop}
def eR(r:List V->Hp->VK->Prop)(t:TA):TE:=fun σ H Q=>t σ H fun vs H1=>r vs H1 Q
theorem aE(hc:fh X (.builtin id) r)(hg:Gl X x)(hm:X.mg x=none)(hv:bootBuiltins x=some (.builtin id))(ha:PA X (e::es) t)(hn:x≠"__name__":=by decide)(hdb:(x==("__debug__" :Str))=false:=by decide)
  (he:starEach (e::es) X.env=(false,eval e X.env)::starEach es X.env:=by rfl) (hpl:(backTo pos<|starEach es X.env).any (·.1)=false:=by rfl):PE X (.Call (.Name x p) (e::es) [] pos) (eR r t):=by
 intro pins s σ H Q I h;refine I0<|fM I hg hm hv ?_ hn hdb;exact KG (bP (ha pos pins s σ H _ I h) fun us s1⟨vs,H1,I1,r1,q1⟩=>hc pins s1 σ H1 vs us Q I1 r1 q1) he hpl
theorem iS(hc:fh X (.type T) r)(hg:Gl X x)(hm:X.mg x=none)(hv:bootBuiltins x=some (.type T))(ha:PA X (e::es) t)(hn:x≠"__name__":=by decide)(hdb:(x==("__debug__" :Str))=false:=by decide)
  (he:starEach (e::es) X.env=(false,eval e X.env)::starEach es X.env:=by rfl) (hpl:(backTo pos<|starEach es X.env).any (·.1)=false:=by rfl):PE X (.Call (.Name x p) (e::es) [] pos) (eR r t):=by
 intro pins s σ H Q I h;refine I0<|fM I hg hm hv ?_ hn hdb;exact Eh (bP (ha pos pins s σ H _ I h) fun us s1⟨vs,H1,I1,r1,q1⟩=>hc pins s1 σ H1 vs us Q I1 r1 q1) he hpl
end
end L2
open L2.FnScope renaming nd->MM
open L2.PW renaming pt->Jq
open L2.RelO renaming some_of->Me
open L2.SqL renaming of->Fv
open L2.SqT renaming of->KW
open L2.V renaming int->G6,str->Ho,bl->MS
namespace HT
open PySem PyProof.Rows
section
open PySem.SeqAt
open PySem.AutoSeq1 (wpAny_loadPart')
open PySem.MeetsSeq PySem.MeetsSeq2 PySem.MeetsSeq3
end
section
variable{prog:Dj}{w:Dp}{A:DS}{E:CU->CV->Prop}{s:CV}
def sIx(n d:Nat):Option Int->Nat
 |none=>d
 |some v=>if v<0 then(v+(n:Int)).toNat else min v.toNat n
theorem sIx_le(n d:Nat)(hd:d<=n)(o:Option Int):sIx n d o<=n:=by
 cases o with
 |none=>exact hd
 |some v=>
  show(if v<0 then(v+(n:Int)).toNat else min v.toNat n)<=n;by_cases hv:v<0;·rw[if_pos hv];omega
  ·rw[if_neg hv];exact Nat.min_le_right _ _
end
end HT
namespace L2
open PySem PySem.Spec PyProof.Rows
abbrev TO:=St->Hp->(Option Int->Hp->Prop)->Prop
def PO(X:Cx)(e:Option Expr)(t:TO):Prop:=
 ∀(pins:List (Addr×Obj))(s:CV)(σ:St)(H:Hp)(Q:Option Int->Hp->Prop),Inv X pins σ H s->t σ H Q->
  wpAny (model X.prog X.w) X.A (evalPart e X.env) (fun u s'=>∃o H',Inv X pins σ H' s'/\IsPart u o/\Q o H') X.xe s
def aJ:TO:=fun _ H Q=>Q none H
def bB(t:TE):TO:=fun σ H Q=>t σ H fun x H1=>∃i,x=.int i/\Q (some i) H1
theorem jI{ns:List Int}:∀{us:List CU},Vals (ns.map G6) us->Km us ns:=by
 induction ns with
 |nil=>intro us r;rw[Gb]at r;cases r;exact .nil
 |cons n ns ih=>
  intro us r;rw[Ds]at r;cases r with
  |cons r1 r2=>
   obtain⟨t,e⟩:=r1;subst e;exact .cons n t<|ih r2
section
variable{X:Cx}{e:Expr}{te:TE}{lo hi:Option Expr}{tl th:TO}{pos p2:Pos}
theorem mm:PO X none aJ:=by
 intro pins s σ H Q I h;rw[JW];exact CS ⟨none,H,I,.none,h⟩
theorem jo(h:PE X e te):PO X (some e) (bB te):=by
 intro pins s σ H Q I hw;rw[evalPart_some];refine bP (h pins s σ H _ I hw) fun u s1 zz=>?_;obtain⟨x,H1,I1,r1,q1⟩:=zz;obtain⟨i,rfl,q⟩:=q1;obtain⟨t,rfl⟩:=r1;exact⟨some i,H1,I1,.int i t,q⟩
def AR(X:Cx)(r:V->Option Int->Option Int->Hp->VK->Prop):Prop:=
 ∀(pins:List (Addr×Obj))(s:CV)(σ:St)(H:Hp)(x:V)(v vl vu:CU)(lo hi:Option Int)(sl:Addr)(Q:VK),Inv X pins σ H s->RelV x v->s.heap.IsSliceOf sl vl vu .none->IsPart vl lo->IsPart vu hi->r x lo hi H Q->
  ∃T id,typeLookup (.type T) "__getitem__"=pure (some<|.builtin id)/\s.TypeIs v T/\wpAny (model X.prog X.w) X.A (getItem v<|.ref sl) (EP X pins σ Q) X.xe s
def fQ(r:V->Option Int->Option Int->Hp->VK->Prop)(te:TE)(tl th:TO):TE:=fun σ H Q=>te σ H fun x H1=>tl σ H1 fun l H2=>th σ H2 fun u H3=>r x l u H3 Q
theorem jJ{r:V->Option Int->Option Int->Hp->VK->Prop}(hr:AR X r)(he:PE X e te)(hl:PO X lo tl)(hu:PO X hi th):PE X (.Subscript e (.Slice lo hi none p2) pos) (fQ r te tl th):=by
 intro pins s σ H Q I h;refine K7<|bP (he pins s σ H _ I h) fun v s1 zz=>?_;obtain⟨x,H1,I1,r1,q1⟩:=zz;refine wpAny_Slice<|bP (hl pins s1 σ H1 _ I1 q1) fun vl s2 zz=>?_;obtain⟨l,H2,I2,pl,q2⟩:=zz;refine bP (hu pins s2 σ H2 _ I2 q2) fun vu s3 zz=>?_;obtain⟨u,H3,I3,pu,q3⟩:=zz;rw[JW];refine CS ?_;have I4:Inv X pins σ H3 {s3 with heap:=s3.heap.push {cls:=.type "slice",data:=.fields #[vl,vu,.none]}}:=I3.kept (t':=s3.toks) fun b ob q=>CQ _ q;obtain⟨T,id,hT,ht,hg⟩:=hr pins {s3 with heap:=s3.heap.push {cls:=.type "slice",data:=.fields #[vl,vu,.none]}} σ H3 x v vl vu l u s3.heap.objs.size Q I4 r1 (K8 ..) pl pu q3;show wpAny (model X.prog X.w) X.A (subscriptTail e (.Slice lo hi none p2) v<|.ref s3.heap.objs.size) (EP X pins σ Q) X.xe {s3 with heap:=s3.heap.push {cls:=.type "slice",data:=.fields #[vl,vu,.none]}};exact Mn (ops:=[.ref s3.heap.objs.size,v]) ht hT hg (by with_unfolding_all rfl)
def pA(xs:List V)(lo hi:Option Int):List V:=(xs.drop<|HT.sIx xs.length 0 lo).take (HT.sIx xs.length xs.length hi-HT.sIx xs.length 0 lo)
theorem nG(xs:List V)(lo hi:Option Int):(pA xs lo hi).length<=xs.length:=by
 unfold pA;rw[Hr,KH];omega
end
def ixN(n:Nat)(i:Int):Option Nat:=if 0<=i then(if i<n then some i.toNat else none)else if -(n:Int)<=i then some (i+n).toNat else none
def atI{α:Type}(xs:List α)(i:Int):Option α:=(ixN xs.length i).bind fun j=>xs[j]?
theorem qz{n:Nat}{i:Int}{j:Nat}(h:ixN n i=some j):seqIndex? i n=some j/\j<n/\ -(n:Int)<=i/\i<n:=by
 unfold ixN at h;by_cases h0:0<=i
 ·rw[if_pos h0]at h;by_cases h1:i<n
  ·rw[if_pos h1]at h;have e:i.toNat=j:=DM h;exact⟨by rw[KY h0 h1,e],by omega,by omega,h1⟩
  ·rw[if_neg h1]at h;cases h
 ·rw[if_neg h0]at h;by_cases h1: -(n:Int)<=i
  ·rw[if_pos h1]at h;have e:(i+n).toNat=j:=DM h;exact⟨by rw[Kn (by omega) h1,e],by omega,h1,by omega⟩
  ·rw[if_neg h1]at h;cases h
theorem mn{α:Type}{xs:List α}{i:Int}{v:α}(h:atI xs i=some v):∃j,seqIndex? i xs.length=some j/\xs[j]? =some v/\j<xs.length/\ -(xs.length:Int)<=i/\i<xs.length:=by
 unfold atI at h;cases e:ixN xs.length i with
 |none=>rw[e]at h;cases h
 |some j=>
  rw[e]at h;obtain⟨h1,h2,h3,h4⟩:=qz e;exact⟨j,h1,h,h2,h3,h4⟩
def wD(b:Expr):Prop:=∀o i,subscripted b false o i=operate [o,i] (getItem o i)
def zJ(X:Cx)(r:R2):Prop:=
 ∀(value slice:Expr)(pins:List (Addr×Obj))(s:CV)(σ:St)(H:Hp)(x y:V)(v u:CU)(Q:VK),Inv X pins σ H s->RelV x v->RelV y u->r x y H Q->
  subscripted slice false v u=operate [v,u] (getItem v u)->wpAny (model X.prog X.w) X.A (subscriptTail value slice v u) (EP X pins σ Q) X.xe s
def A8(X:Cx)(id:String)(r:V->List V->Hp->VK->Prop):Prop:=
 ∀(pins:List (Addr×Obj))(s:CV)(σ:St)(H:Hp)(x:V)(xs:List V)(v:CU)(us:List CU)(Q:VK),Inv X pins σ H s->RelV x v->Vals xs us->r x xs H Q->
  wpAny (model X.prog X.w) X.A (call (.builtin id) (v::us)) (EP X pins σ Q) X.xe s
section
variable{X:Cx}{a b:Expr}{ta tb:TE}{pos:Pos}
theorem az{r:R2}(hr:zJ X r)(ha:PE X a ta)(hb:PE X b tb)(hs:wD b):PE X (.Subscript a b pos) (dw r ta tb):=by
 intro pins s σ H Q I h;exact K7<|yM ha hb I h fun v u s2 x y H2 I2 rx ry q=>hr a b pins s2 σ H2 x y v u Q I2 rx ry q<|hs _ _
def cw(K:CT):R2:=fun x y H Q=>∃p xs i v,x=.ref p/\y=.int i/\SqL K H p xs/\atI xs i=some v/\Q v H
def cC(K:CT):R2:=fun x y H Q=>∃p xs i v,x=.ref p/\y=.int i/\SqT K H p xs/\atI xs i=some v/\Q v H
def cO:R2:=fun x y H Q=>∃z i c,x=.str z/\y=.int i/\z.length<=sizeLine/\atI z.cps.toList i=some c/\Q (.str ⟨#[c]⟩) H
theorem wF:zJ X (cw X.K):=by
 intro value slice pins s σ H x y v u Q I rx ry h hs;obtain⟨p,xs,i,z,rfl,rfl,hq,he,q⟩:=h;cases rx;obtain⟨t,rfl⟩:=ry;obtain⟨its,r,pl,hz⟩:=I.list hq;obtain⟨j,h1,h2,h3,h4,h5⟩:=mn he;obtain⟨w,ew,rw'⟩:=r.get h2;have hl:=r.length;have hn:=jG;have fin:EP X pins σ Q w s:=⟨z,H,I,rw',q⟩
 by_cases h0:0<=i
 ·have hj:i.toNat=j:=by
   rw[KY h0 h5]at h1;exact DM h1
  exact item_listR pl.isList h0 (by omega) (by rw[hj];simpa using ew) fin hs
 ·have hj:(i+(its.toArray.size:Int)).toNat=j:=by
   rw[Kn (by omega) h4]at h1;rw[Dm,<-hl];exact DM h1
  exact Ja (x:=w) pl.isList.typeIs IB.lookup
   (wpAny_getItem_list_neg (Q:=fun r s'=>r=w/\EP X pins σ Q r s') pl.isList (by omega) (by rw[Dm]<;>omega) (by omega) (by rw[hj];simpa using ew) ⟨rfl,fin⟩) hs
theorem yP:zJ X (cC X.K):=by
 intro value slice pins s σ H x y v u Q I rx ry h hs;obtain⟨p,xs,i,z,rfl,rfl,hq,he,q⟩:=h;cases rx;obtain⟨t,rfl⟩:=ry;obtain⟨its,r,pl,hz⟩:=I.tuple hq;obtain⟨j,h1,h2,h3,h4,h5⟩:=mn he;obtain⟨w,ew,rw'⟩:=r.get h2;have hl:=r.length;have hn:=jG;have fin:EP X pins σ Q w s:=⟨z,H,I,rw',q⟩
 exact Ja (x:=w) pl.typeIs slot_tuple_getitem.lookup
  (getItem_tuple (j:=j) (Q:=fun r s'=>r=w/\EP X pins σ Q r s') pl (by omega) (by omega) (by rw[Dm,<-hl];exact h1) (by simpa using ew) ⟨rfl,fin⟩) hs
theorem bS:zJ X cO:=by
 intro value slice pins s σ H x y v u Q I rx ry h hs;obtain⟨z,i,c,rfl,rfl,hz,he,q⟩:=h;obtain⟨t,rfl⟩:=rx;obtain⟨t',rfl⟩:=ry;obtain⟨j,h1,h2,h3,h4,h5⟩:=mn he;have hl:z.cps.toList.length=z.length:=by simp[MF]
 rw[hl]at h1 h4 h5;have hn:=jG;exact Mn (Lh s z t) slot_str_getitem.lookup (getItem_str (c:=c) (by
  have e1:decide (i< -(2^63:Int))=false:=decide_eq_false (by omega);have e2:decide (i≥2^63)=false:=decide_eq_false (by omega);rw[e1,e2,Bool.or_false]) (by rw[h1];simpa using h2) ⟨.str ⟨#[c]⟩,H,I.tok _,⟨_,rfl⟩,q⟩) hs
theorem pD(its:List CU)(n j:Nat)(u:CU):FE (·.setIfInBounds j u) {cls:=.type "list",data:=.seq its.toArray n}={cls:=.type "list",data:=.seq (its.set j u).toArray n}:=by
 simp[FE]
theorem Inv.lst{pins:List (Addr×Obj)}{σ:St}{H:Hp}{s:CV}{p:Addr}{xs:List V}(I:Inv X pins σ H s)(h:H p=some (.lst xs)):
  ∃(its:List CU)(n:Nat),Vals xs its/\s.heap.get? p=some {cls:=.type "list",data:=.seq its.toArray n}/\xs.length<=sizeLine:=by
 obtain⟨z,its,n,r,e⟩:=I.hok p _ h;exact⟨its,n,r,e,z⟩
theorem Inv.lstUpd{pins:List (Addr×Obj)}{σ:St}{H:Hp}{s:CV}{p:Addr}{xs ys:List V}{its its':List CU}{n n':Nat}{f:Obj->Obj}(I:Inv X pins σ H s)(h:H p=some (.lst xs))
  (ho:s.heap.get? p=some {cls:=.type "list",data:=.seq its.toArray n}) (hf:f {cls:=.type "list",data:=.seq its.toArray n}={cls:=.type "list",data:=.seq its'.toArray n'}) (r:Vals ys its') (hz:ys.length<=sizeLine) (t:Nat):
  Inv X pins σ (cZ H p<|.lst ys) {s with heap:=s.heap.update p f,toks:=t}:=by
 have e:(s.heap.update p f).get? p=some {cls:=.type "list",data:=.seq its'.toArray n'}:=by
  rw[EX f ho (by rw[hf]<;>rfl),hf]
 refine I.write (x:=p) (e:=p) (by rw[h];trivial) (.inl rfl) (fun b u hb q=>(Hc _ _<|H9 hb).trans q) ⟨_,e⟩ ?_;exact⟨hz,its',n',r,e⟩
def yi:V->V->V->Hp->(Hp->Prop)->Prop:=fun o i v H Q=>∃p xs k j,o=.ref p/\i=.int k/\H p=some (.lst xs)/\ixN xs.length k=some j/\Q (cZ H p<|.lst<|xs.set j v)
theorem jK:A1 X yi:=by
 intro pins s σ H o i v ov iv u Q I ro ri rv h;obtain⟨p,xs,k,j,rfl,rfl,hp,hj,q⟩:=h;cases ro;obtain⟨t,rfl⟩:=ri;obtain⟨its,n,r,ho,hz⟩:=I.lst hp;obtain⟨h1,h2,h3,h4⟩:=qz hj;have hl:=r.length;have hn:=jG;have I':Inv X pins σ (cZ H p<|.lst<|xs.set j v) {s with heap:=s.heap.update p (FE (·.setIfInBounds j u))}:=
  I.lstUpd hp ho (pD its n j u) (r.set rv j) (by rw[L5];exact hz) s.toks
 by_cases h0:0<=k
 ·have hk:k.toNat=j:=by
   rw[KY h0 h4]at h1;exact DM h1
  exact PySem.W.ki_setAt ho h0 (by omega) (by rw[Dm,<-hl];exact h4) (by rw[hk];exact⟨_,I',q⟩)
 ·have hk:(k+(its.toArray.size:Int)).toNat=j:=by
   rw[Kn (by omega) h3]at h1;rw[Dm,<-hl];exact DM h1
  exact PySem.W.ki_setBack ho (by omega) (by rw[Dm,<-hl];exact h3) (by omega) (by rw[hk];exact⟨_,I',q⟩)
theorem mq(lo hi:Option Int)(n:Nat):(sliceBounds lo hi none n).1=((HT.sIx n 0 lo:Nat):Int)/\(sliceBounds lo hi none n).2.1=((HT.sIx n n hi:Nat):Int)/\(sliceBounds lo hi none n).2.2=1:=by
 refine⟨?_,?_,rfl⟩
 ·cases lo with
  |none=>simp[sliceBounds,HT.sIx]
  |some i=>
   simp only[sliceBounds,HT.sIx,J3,show(1:Int)>0 by decide,if_true];by_cases h:i<0;·simp only[h,if_true]<;>omega
   ·simp only[h,if_false]<;>omega
 ·cases hi with
  |none=>simp[sliceBounds,HT.sIx]
  |some i=>
   simp only[sliceBounds,HT.sIx,J3,show(1:Int)>0 by decide,if_true];by_cases h:i<0;·simp only[h,if_true]<;>omega
   ·simp only[h,if_false]<;>omega
theorem l5(its:List CU)(lo hi:Option Int):slicePick its.toArray lo hi none=((its.drop<|HT.sIx its.length 0 lo).take (HT.sIx its.length its.length hi-HT.sIx its.length 0 lo)).toArray:=by
 obtain⟨h1,h2,h3⟩:=mq lo hi its.toArray.size;unfold slicePick;rw[h1,h2,h3];simp only[JJ,pick_run,Dm]<;>rfl
def cD(K:CT):V->Option Int->Option Int->Hp->VK->Prop:=fun x lo hi H Q=>∃a xs,x=.ref a/\SqL K H a xs/\∀p,H p=none->Q (.ref p) (cZ H p<|.lst<|pA xs lo hi)
theorem wG:AR X (cD X.K):=by
 intro pins s σ H x v vl vu lo hi sl Q I rx hs pl pu h;obtain⟨a,xs,rfl,hx,q⟩:=h;cases rx;obtain⟨its,r,ht,hz⟩:=I.list hx;have hlen:=r.length;refine⟨"list",_,IB.lookup,ht.isList.typeIs,?_⟩;refine IM ht.isList hs pl pu .none (by simp) ?_ (by rw[Dm]<;>omega);rw[l5,<-hlen];refine⟨.ref s.heap.objs.size,_,I.laid (t':=s.toks) (o:=.lst<|pA xs lo hi) (fun b ob q=>CQ _ q) (D0 _) ?_,rfl,q _<|I.hok.fresh<|D0 _⟩;exact⟨EO (nG xs lo hi) hz,_,0,(r.drop<|HT.sIx xs.length 0 lo).take (HT.sIx xs.length xs.length hi-HT.sIx xs.length 0 lo),D6 _ rfl⟩
def flatV:V->Bool
 | .non=>true
 | .bl _=>true
 | .int _=>true
 | .str _=>true
 |_=>false
def eqV:V->V->Bool
 | .non,.non=>true
 | .bl a,.bl b=>a==b
 | .bl a,.int b=>(if a then 1 else 0)==b
 | .int a,.bl b=>a==(if b then 1 else 0)
 | .int a,.int b=>a==b
 | .str a,.str b=>a==b
 |_,_=>false
theorem yQ{A:DS}{s:CV}{y x:V}{u v:CU}(ry:RelV y u)(rx:RelV x v)(fy:flatV y=true)(fx:flatV x=true):MG A s u v (eqV y x):=by
 cases y with
 |non=>
  cases ry;cases x with
  |non=>cases rx;exact MV _
  |bl b=>cases rx;exact Mo b
  |int b=>obtain⟨t,rfl⟩:=rx;exact Mw b t
  |str b=>obtain⟨t,rfl⟩:=rx;exact Mx b t
  |_=>exact absurd (show false=true from fx) Dg
 |bl a=>
  cases ry;cases x with
  |non=>cases rx;exact Mp a
  |bl b=>cases rx;exact Mq a b
  |int b=>obtain⟨t,rfl⟩:=rx;exact My a b t
  |str b=>obtain⟨t,rfl⟩:=rx;exact Mz a b t
  |_=>exact absurd (show false=true from fx) Dg
 |int a=>
  obtain⟨t',rfl⟩:=ry;cases x with
  |non=>cases rx;exact MA a t'
  |bl b=>cases rx;exact MB a t' b
  |int b=>obtain⟨t,rfl⟩:=rx;exact MH a t' b t
  |str b=>obtain⟨t,rfl⟩:=rx;exact K4 a t' b t
  |_=>exact absurd (show false=true from fx) Dg
 |str a=>
  obtain⟨t',rfl⟩:=ry;cases x with
  |non=>cases rx;exact MC a t'
  |bl b=>cases rx;exact MD a t' b
  |int b=>obtain⟨t,rfl⟩:=rx;exact K5 a t' b t
  |str b=>obtain⟨t,rfl⟩:=rx;exact MI a t' b t
  |_=>exact absurd (show false=true from fx) Dg
 |_=>exact absurd (show false=true from fy) Dg
def wH(x:V)(u:CU):Bool:=match u with
 | .none=>eqV .non x
 | .bool b=>eqV (.bl b) x
 | .int i _=>eqV (.int i) x
 | .str z _=>eqV (.str z) x
 |_=>false
theorem tZ{x y:V}{u:CU}(r:RelV y u)(f:flatV y=true):wH x u=eqV y x:=by
 cases y with
 |non=>cases r;rfl
 |bl b=>cases r;rfl
 |int i=>obtain⟨t,rfl⟩:=r;rfl
 |str z=>obtain⟨t,rfl⟩:=r;rfl
 |_=>exact absurd (show false=true from f) Dg
theorem mw{x:V}:∀{xs:List V}{us:List CU},Vals xs us->xs.all flatV=true->us.any (wH x)=xs.any fun y=>eqV y x
 |_,_,.nil,_=>rfl
 |y::xs,u::us, .cons r t,f=>by
  rw[LQ,EC]at f;rw[Hx,Hx,tZ r f.1,mw t f.2]
theorem jL{A:DS}{s:CV}{x:V}{v:CU}(rx:RelV x v)(fx:flatV x=true):∀{xs:List V}{us:List CU},Vals xs us->xs.all flatV=true->∀u∈us,MG A s u v (wH x u)
 |_,_,.nil,_=>fun u hu=>by cases hu
 |y::xs,u::us, .cons r t,f=>fun u' hu=>by
  rw[LQ,EC]at f;rcases Dh.mp hu with rfl|hu
  ·rw[tZ r f.1];exact yQ r rx f.1 fx
  ·exact jL rx fx t f.2 u' hu
def AS(x:V)(xs:List V):Bool:=xs.any fun y=>eqV y x
def gi(K:CT)(neg:Bool):R2:=fun x y H Q=>∃p xs,y=.ref p/\(SqL K H p xs\/SqT K H p xs)/\flatV x=true/\xs.all flatV=true/\Q (.bl (if neg then !AS x xs else AS x xs)) H
theorem my:OpR X (compareOp .NotIn) (gi X.K true):=by
 intro pins s σ H x y v u Q I rx ry h;obtain⟨p,xs,rfl,hq,fx,fs,q⟩:=h;cases ry;rcases hq with hq|hq
 ·obtain⟨its,r,pl,hz⟩:=I.list hq;refine SeqAt.notIn_listAt (wH x) pl.isList (fun w hw=>jL rx fx r fs w (by simpa using hw)) ⟨.bl _,H,I,rfl,?_⟩;rw[show its.toArray.any (wH x)=its.any (wH x) by simp,mw r fs];exact q
 ·obtain⟨its,r,pl,hz⟩:=I.tuple hq;refine SeqAt.notIn_tupleAt (wH x) pl (fun w hw=>jL rx fx r fs w (by simpa using hw)) ⟨.bl _,H,I,rfl,?_⟩;rw[show its.toArray.any (wH x)=its.any (wH x) by simp,mw r fs];exact q
theorem l7:fh X (.type "tuple") (fun xs H Q=>∃p ys,xs=[.ref p]/\((SqL X.K H p ys/\∀l,H l=none->Q (.ref l) (cZ H l<|.tup ys))\/(SqT X.K H p ys/\Q (.ref p) H))):=by
 intro pins s σ H xs us Q I r h;obtain⟨p,ys,rfl,h⟩:=h;obtain⟨u,rfl,rx⟩:=gh r;cases rx;rcases h with⟨hq,q⟩|⟨hq,q⟩
 ·obtain⟨its,r',pl,hz⟩:=I.list hq;have hlen:=r'.length;refine call_tuple_list pl.isList (fun h' kp=>?_) (by simp only[Dm]<;>omega);have I1:Inv X pins σ H {s with heap:=h'}:=I.kept (t':=s.toks) kp;have I2:Inv X pins σ (cZ H h'.objs.size<|.tup ys) {s with heap:=h'.push {cls:=.type "tuple",data:=.seq its.toArray}}:=
   I1.laid (t':=s.toks) (fun b o e=>CQ _ e) (D0 _) (show ObjOk X.prog X.w _ _ _ (.tup ys)from⟨hz,its,r',IsTupD.new _ _⟩)
  exact⟨.ref h'.objs.size,_,I2,rfl,q _<|I1.hok.fresh<|D0 _⟩
 ·obtain⟨its,r',pl,hz⟩:=I.tuple hq;exact call_tuple_same pl ⟨.ref p,H,I,rfl,q⟩
def BI(K:CT)(T:String)(x:V)(H:Hp):Prop:=match x with
 | .str _=>T="str"
 | .int _=>T="int"
 | .ref p=>(T="list" /\∃xs,SqL K H p xs)\/(T="tuple" /\((∃o,K.lookup p=some o/\o.cls=.type "tuple" /\o.dict=none)\/∃xs,SqT K H p xs))\/
   (T="dict"/\((∃kvs,H p=some (.dK kvs))\/∃kvs,H p=some (.dT kvs)))\/(T="set"/\∃S n,H p=some (.set S n))
 |_=>False
theorem yR{pins:List (Addr×Obj)}{σ:St}{H:Hp}{s:CV}{T:String}{x:V}{v:CU}(I:Inv X pins σ H s)(r:RelV x v)(ty:BI X.K T x H):
  s.TypeIs v T/\∀a,v=.ref a->∃ob,s.heap.get? a=some ob/\ob.dict=none:=by
 cases x with
 |str z=>
  obtain⟨t,rfl⟩:=r;cases (show T="str" from ty);exact⟨Lh s z t,fun _ e=>nomatch e⟩
 |int i=>
  obtain⟨t,rfl⟩:=r;cases (show T="int" from ty);exact⟨typeIs_int s i t,fun _ e=>nomatch e⟩
 |ref p=>
  cases r;rcases ty with⟨rfl,xs,hq⟩|⟨rfl,⟨o,hk,hc,hd⟩|⟨xs,hq⟩⟩|⟨rfl,hk⟩|⟨rfl,S,n,hk⟩
  ·obtain⟨its,_,pl,_⟩:=I.list hq;refine⟨pl.isList.typeIs,fun a e=>?_⟩;cases e;obtain⟨o,n,e,c,hd,_⟩:=pl;exact⟨o,e,hd⟩
  ·refine⟨⟨o,I.kIn p o hk,hc⟩,fun a e=>?_⟩;cases e;exact⟨o,I.kIn _ o hk,hd⟩
  ·obtain⟨o,e1,c1,d1⟩:∃o,s.heap.get? p=some o/\o.cls=.type "tuple"/\o.dict=none:=by
    rcases hq with hq|⟨o,its,n,hk,hc,_⟩
    ·obtain⟨_,_,_,o,e1,⟨c1,d1⟩,_⟩:=hq.ok I.hok;exact⟨o,e1,c1,d1⟩
    ·exact⟨o,I.kIn p o hk,hc.1,hc.2⟩
   refine⟨⟨o,e1,c1⟩,fun a e=>?_⟩;cases e;exact⟨o,e1,d1⟩
  ·have z:∃o,s.heap.get? p=some o/\o.ExactDict:=by
    rcases hk with⟨kvs,hk⟩|⟨kvs,hk⟩
    ·obtain⟨_,_,_,_,o,_,_,e,ex,_⟩:=I.hok p _ hk;exact⟨o,e,ex⟩
    ·obtain⟨_,_,_,_,o,_,_,e,ex,_⟩:=I.hok p _ hk;exact⟨o,e,ex⟩
   obtain⟨o,e,ex⟩:=z;refine⟨⟨o,e,ex.1⟩,fun a e2=>?_⟩;cases e2;exact⟨o,e,ex.2.1⟩
  ·obtain⟨o,_,_,_,e,ex,_⟩:=I.hok p _ hk;refine⟨⟨o,e,ex.1⟩,fun a e2=>?_⟩;cases e2;exact⟨o,e,ex.2.1⟩
 |_=>exact G8 ty
def fj(K:CT)(T:String)(r:V->List V->Hp->VK->Prop)(to:TE)(t:TA):TE:=fun σ H Q=>to σ H fun x H1=>BI K T x H1/\t σ H1 fun xs H2=>r x xs H2 Q
variable{o e:Expr}{es:List Expr}{to:TE}{t:TA}{name:Str}{apos cpos:Pos}{T id:String}{r:V->List V->Hp->VK->Prop}
theorem A9(pa:PlainAttrs T)(slot:Slot T name id)(hty:typeOf (.builtin id)=pure (.type "method_descriptor"))(hm:A8 X id r)(ho:PE X o to)(ha:PA X (e::es) t)
  (hbase:attributeBase o name X.env (eval o X.env)=eval o X.env:=by rfl)
  (hfew:((backTo cpos<|starEach (e::es) X.env).all (fun x=> !x.1) && (backToKw cpos<|keywordEach [] X.env).all (fun x=>x.1.isSome)
   &&decide ((e::es).length+([]:List Jb).length+(if([]:List Jb).isEmpty then 0 else 1)<30))=true:=by rfl)
  (hline:(apos.endLine==cpos.line)=true:=by rfl) (hs:starEach (e::es) X.env=(false,eval e X.env)::starEach es X.env:=by rfl) (hplain:(backTo cpos<|starEach es X.env).any (·.1)=false:=by rfl):
  PE X (.Call (.Attribute o name apos) (e::es) [] cpos) (fj X.K T r to t):=by
 intro pins s σ H Q I h;refine Jc hbase hfew hline rfl<|bP (ho pins s σ H _ I h) fun v s1 zz=>?_;obtain⟨x,H1,I1,r1,ty,q1⟩:=zz;obtain⟨h1,h2⟩:=yR I1 r1 ty;refine⟨T,id,pa,slot,hty,h1,h2,?_⟩;have hA:=ha cpos pins s1 σ H1 _ I1 q1;rw[hs]at hA ⊢;refine Calls.callWith_builtin (by show(false||(backTo cpos<|starEach es X.env).any (·.1))=false;rw[hplain]<;>rfl)<|Calls.evalArgs_plain ?_;refine bP hA fun us s2 zz=>?_;obtain⟨vs,H2,I2,r2,q2⟩:=zz;exact hm pins s2 σ H2 x vs v us Q I2 r1 r2 q2
end
def BZ(X:Cx)(id:String)(r:V->List V->Hp->VK->Prop):Prop:=
 ∀(pins:List (Addr×Obj))(s:CV)(σ:St)(H:Hp)(x:V)(xs:List V)(v:CU)(us:List CU)(Q:VK),Inv X pins σ H s->RelV x v->Vals xs us->r x xs H Q->
  wpAny (model X.prog X.w) X.A (call (.builtin id) (v::us)) (EP X pins σ Q) X.xe s
theorem Vals.one:∀{x:V}{us:List CU},Vals [x] us->∃u,us=[u]/\RelV x u
 |_,_,.cons r .nil=>⟨_,rfl,r⟩
section
variable{X:Cx}{pins:List (Addr×Obj)}{σ:St}{H:Hp}{s:CV}{l b:Addr}{xs ys zs:List V}
theorem Inv.lset{its its':List CU}{n:Nat}{f:Array CU->Array CU}{t':Nat}(I:Inv X pins σ H s)(hH:H l=some (.lst xs))
  (e:s.heap.get? l=some {cls:=.type "list",data:=.seq its.toArray n}) (hf:f its.toArray=its'.toArray) (hv:Vals ys its') (hz:ys.length<=sizeLine):
  Inv X pins σ (cZ H l<|.lst ys) {s with heap:=s.heap.update l<|FE f,toks:=t'}:=by
 have q:=PySem.IsL.update e f;rw[hf]at q;refine I.write (x:=l) (e:=l) (by rw[hH];exact trivial) (.inl rfl) (fun b' u hb hu=>(Hc s.heap (FE f)<|H9 hb).trans hu) ⟨_,q⟩ ?_;exact⟨hz,its',_,hv,q⟩
theorem Inv.lstM(I:Inv X pins σ H s)(hH:H l=some (.lst xs)):xs.length<=sizeLine/\∃(its:List CU)(n:Nat),Vals xs its/\xs.length=its.length/\s.heap.get? l=some {cls:=.type "list",data:=.seq its.toArray n}:=by
 obtain⟨z,its,n,r,e⟩:=I.hok l _ hH;exact⟨z,its,n,r,r.length,e⟩
end
section
variable{X:Cx}
def aF:V->List V->Hp->VK->Prop:=fun x vs H Q=>∃l xs y,x=.ref l/\vs=[y]/\H l=some (.lst xs)/\xs.length<sizeLine/\Q .non (cZ H l<|.lst<|xs++[y])
theorem se:BZ X "list.append" aF:=by
 intro pins s σ H x vs v us Q I rx rv h;obtain⟨l,xs,y,rfl,rfl,hH,hz,q⟩:=h;cases rx;obtain⟨u,rfl,ru⟩:=rv.one;obtain⟨z,its,n,r,hl,e⟩:=I.lstM hH;refine call_meets Jr ⟨_,e,rfl⟩ F.entry_list_append (F.args_list_append_2 _ _) (PySem.list_append l its.toArray n u (by rw[Dm];omega)) ⟨e,?_⟩;refine⟨.non,_,I.lset (its':=its++[u]) hH e (by simp) (r.append<|.cons ru .nil) ?_,rfl,q⟩;rw[GR,Js];omega
end
section
variable{κ:Type}[DecidableEq κ]
def i9(kvs:List (κ×V))(k:κ):Option V:=(kvs.find? fun kv=>decide<|kv.1=k).map (·.2)
def sf(kvs:List (κ×V))(k:κ)(v:V):List (κ×V):=
 if(kvs.any fun kv=>decide<|kv.1=k)=true then kvs.map (fun kv=>if kv.1=k then(kv.1,v)else kv)else kvs++[(k,v)]
theorem gz{p:κ×V}{r:List (κ×V)}{k:κ}(e:p.1=k):i9 (p::r) k=some p.2:=by simp[i9,F0,e]
theorem gA{p:κ×V}{r:List (κ×V)}{k:κ}(e:¬p.1=k):i9 (p::r) k=i9 r k:=by simp[i9,F0,e]
theorem nH(k:κ):∀kvs:List (κ×V),(kvs.any fun kv=>decide<|kv.1=k)=(i9 kvs k).isSome
 | []=>rfl
 |p::r=>by
  rw[Hx];by_cases e:p.1=k;·simp only[gz e,decide_eq_true e,Bool.true_or,K9]
  ·rw[gA e,decide_eq_false e,Bool.false_or];exact nH k r
theorem RelO.isSome_eq{o:Option V}{u:Option CU}(r:RelO o u):o.isSome=u.isSome:=by
 cases o with
 |none=>cases u with
  |none=>rfl
  |some _=>exact(show False from r).elim
 |some _=>cases u with
  |none=>exact(show False from r).elim
  |some _=>rfl
theorem KV.val{kvs:List (κ×V)}{vs:List (κ×CU)}(r:KV kvs vs)(k:κ):RelO (i9 kvs k) (valueAt vs k):=by
 unfold KV at r
 induction r with
 |nil=>exact Ga
 | @cons p q ps qs h t ih=>
  obtain⟨h1,h2⟩:=h;by_cases e:p.1=k
  ·have e':q.1=k:=h1.symm.trans e;have b:valueAt (q::qs) k=some q.2:=by simp[valueAt,F0,e']
   rw[gz e,b];exact h2
  ·have e':¬q.1=k:=fun z=>e<|h1.trans z;have b:valueAt (q::qs) k=valueAt qs k:=by simp[valueAt,F0,e']
   rw[gA e,b];exact ih
end
theorem yj{P:Dj}{w:Dp}{k:Key}{u:CU}(r:RelV (kV k) u):(mixKind P w).is k u=true:=by
 cases k with
 |inl i=>obtain⟨t,e⟩:=(show ∃t,u=IY i t from r);subst e;exact nq P w i t
 |inr x=>obtain⟨t,e⟩:=(show ∃t,u=KA x t from r);subst e;exact nr P w x t
theorem lF{P:Dj}{w:Dp}:∀{ks:List Key}{us:List CU},Vals (ks.map kV) us->ItemsAre (mixKind P w) ks us
 | [],_,r=>by rw[Gb]at r;cases r;exact .nil
 |k::ks,_,r=>by
  rw[Ds]at r;cases r with
  |cons h t=>exact .cons (yj h)<|lF t
section
variable{X:Cx}{pins:List (Addr×Obj)}{σ:St}{H:Hp}{s:CV}{a:Addr}{y v:V}{u r:CU}{o:Option V}{A:DS}{E:CU->CV->Prop}
theorem Inv.big(I:Inv X pins σ H s):sysModules<s.heap.objs.size:=by
 have h:mainGlobals<s.heap.objs.size:=(I.mod.glob.keeps I.bk).lt;exact Jd (by decide) h
theorem wI{h':Heap}{t':Nat}{ob:HO}(I:Inv X pins σ H s)(mu:zY (H a))(hs:Dl a s.heap h')(he:∃q,h'.get? a=some q)(new:ObjOk X.prog X.w (cZ H a ob) h' a ob):
  Inv X pins σ (cZ H a ob) {s with heap:=h',toks:=t'}:=
 I.write (x:=a) (e:=a) mu (.inl rfl) (fun b q hb z=>(hs.2 b hb).trans z) he new
end
def u0(i:Expr):Prop:=∀ov iv,subscripted i false ov iv=operate [ov,iv] (getItem ov iv)
theorem qF{prog:Dj}{w:Dp}{A:DS}{E:CU->CV->Prop}{s:CV}{env:Env}{value slice:Expr}{pos:Pos}{T id:String}{Q:CU->CV->Prop}
  (hl:typeLookup (.type T) "__getitem__"=pure (some<|.builtin id)) (hs:u0 slice)
  (h:wpAny (model prog w) A (eval value env) (fun o s₁=>wpAny (model prog w) A (eval slice env) (fun i s₂=>s₂.TypeIs o T/\wpAny (model prog w) A (getItem o i) Q E s₂) E s₁) E s):
  wpAny (model prog w) A (eval (.Subscript value slice pos) env) Q E s:=by
 refine K7<|Ee h (fun o s₁ h₁=>Ee h₁ (fun i s₂ h₂=>?_) fun _ _ x=>x) fun _ _ x=>x;obtain⟨hT,h₂⟩:=h₂;unfold subscriptTail;refine CN ?_;rw[getitemInPython_of_ne hT.not_modules];refine CN<|HJ hT hl ?_;have fin:wpAny (model prog w) A (subscripted slice false o i) (fun r s₃=>wpAny (model prog w) A (letTemporaryGo value o r>>=fun _=>pure r) Q E s₃) E s₂:=by
  rw[hs o i];exact wpAny_operating<|Ee h₂ (fun r s₃ h₃=>CN<|wpAny_letTemporaryGo<|CS h₃) fun _ _ x=>x
 first
  |exact CS<|CN fin
  |exact CN<|CS<|CN fin
  |exact CN fin
end L2
namespace Att
open PySem PySem.W PySem.Calls PyProof.Rows
theorem jk{P:MJ}{h:Heap}:∀(ns:List Int)(vs:List CU),WellAll P h vs (ns.map MQ)->Km vs ns:=by
 intro ns
 induction ns with
 |nil=>
  intro vs w;rw[Gb]at w;cases w;exact .nil
 |cons n ns ih=>
  intro vs w;rw[Ds]at w;cases w with
  |cons a b=>
   cases a;exact .cons _ _<|ih _ b
theorem si{l:HA}{n:Nat}(hn:l.most=some n){P:MJ}{h:Heap}{args:List WData}{vals:List CU}
  (hpre:l.row.toRowW.claim.pre args=true) (hwl:WellAll P h vals args):
  ∃a vs ns,vals=[Eg a]/\args=[WData.list (ns.map MQ)]/\h.get? a=some {cls:=.type "list",data:=.seq vs.toArray}/\Km vs ns/\ns.length<=n:=by
 have hsh:WShape.hasAll [] args [.list .int]=true:=(pre_splitW hpre).1;have hc:l.pre.holds [] {args:=args}=true:=(pre_splitW hpre).2;obtain⟨d,r,rfl,h1,h2⟩:=hasAllW_cons hsh;obtain rfl:=hasAllW_nil h2;obtain⟨xs,rfl,h3⟩:=hasW_list h1;obtain⟨ns,rfl⟩:=items_int h3;have hlen:ns.length<=n:=by
  unfold OpenLaw.pre at hc;have h4:(WTm.not<|.lt (.lit<|.int (n:Int))<|.len<|.arg 0).holds [] {args:=[.list (ns.map .int)]}=true:=by
   have h4:=(holds_andW hc).1;rw[hn]at h4;exact h4
  have h5:=condW_of h4<|w_not<|w_lt w_lit<|w_len_list<|w_arg rfl;rw[Dx]at h5;refine Nat.le_of_not_lt fun q=>?_;have q':(n:Int)<((ns.length:Nat):Int):=by omega
  first
   |(rw[decide_eq_true q']at h5;exact absurd h5 (by decide))
   |(simp at h5;omega)
 cases hwl with
 |cons w1 w2=>
  cases w2;cases w1 with
  |list ho hall=>exact⟨_,_,ns,rfl,rfl,ho,jk ns _ hall,hlen⟩
theorem sj(l:HA)(args:List WData):l.row.toRowW.claim.post args (.bool true) args=true:=
 postW_of (r:=l.row.toRowW) (X:=(true==true))
  (show MK [] (.bool true) .bool=true by first|rfl|decide|simp[MK,WShape.arms,WShape.armsAll])
  (show(WTm.eq .res<|.lit<|.bool true).value [] {args:=args,res:=some<|.bool true,after:=args}=some (.bool<|true==true)from w_eq_bool (w_res rfl) w_lit) rfl
theorem attach_call{l:HA}{n:Nat}{q:Dj}{loose:List Str}{XP:(Str->Option CU)->Heap->Prop}{YP:Dp->Heap->Prop}{d:DefRec}
  (hn:l.most=some n) (hdf:d.params.defaults=[])
  (call:∀(w:Dp) (s₀ s₁:CV) (mg mb:Str->Option CU) (fa:Addr) (o:Obj) (pm cd doc:CU) (a:Addr) (vs:List CU) (ns:List Int),
   Ground q loose [] XP w s₀ mg mb s₁.heap->YP w s₁.heap->
   s₁.heap.get? fa=some o->o.data=.func (docDef d.name d.params d.body d.scope pm cd doc)->s₁.heap.CodeRec cd d.name->mg d.name=some (.ref fa)->
   s₁.heap.get? a=some {cls:=.type "list",data:=.seq vs.toArray}->Km vs ns->ns.length<=n->s₁.gens= #[]->
   codeAny (model l.prog w) callerA (.call (.ref fa) ⟨[.ref a],[]⟩) (fun r s'=>r=.ok (.ret (.bool true))/\OldK s₁.heap s'.heap/\s'.os=s₁.os/\Iz s'.gens) s₁):
  Lb q loose XP YP l.row.toRowW d [] (fun f vs=>Li f vs):=by
 intro w s₀ s₁ mg mb G Y fa o pm cd doc dV kV ho hd hcd hD hmg hg args vals as hpre hlay hrd hwl hlo;obtain rfl:dV=.none:=Dflts.none hD hdf;obtain rfl:kV=.none:=Dflts.noKw hD;obtain⟨a,vs,ns,rfl,rfl,hobj,hints,hlen⟩:=si hn hpre hwl;refine enter_call<|HW (call w s₀ s₁ mg mb fa o pm cd doc a vs ns G Y ho (fd_plain hd) hcd hmg hobj hints hlen hg) fun r s' hq=>?_;obtain⟨rfl,h2,h3,h4⟩:=hq;exact⟨.inl ⟨.bool true,.bool true,[],rfl,fun _=>rfl,.bool true,sj l _,fun _=>⟨Gp,fun _ hm=>(nomatch hm)⟩⟩,h2,h3,h4⟩
end Att
namespace L2
open PySem PySem.Spec PyProof.Rows
theorem iT:∀{vs:List CU}{ns:List Int},Km vs ns->Vals (ns.map G6) vs
 |_,_,.nil=>.nil
 |_,_,.cons n t h=>.cons ⟨t,rfl⟩<|iT h
def yT(H:Hp):Prop:=∀b,H b=none\/∃o xs,H b=some (.frz o<|.lst xs)
theorem u4{P:Dj}{w:Dp}{K:CT}{mg mb:Str->Option CU}{CX:CXT}{k:Nat}{fa a:Addr}{fd:Dr}{x:Str}{sp:Sp}{s₁:CV}{vs:List CU}{ns:List Int}
  (KX:K.In s₁.heap) (hns:s₁.heap.Ns mainGlobals mg) (hb:s₁.heap.Ns builtinsNs mb) (hbb:∀x:Str,x≠"__name__"->mb x=bootBuiltins x) (hlim:s₁.heap.NoLimit) (hg:s₁.gens= #[])
  (ha:s₁.heap.get? a=some {cls:=.type "list",data:=.seq vs.toArray}) (hi:Km vs ns) (hl:ns.length<=sizeLine) (hr:Room k callerA)
  (F:∀base:Heap,K.In base->base.Ns mainGlobals mg->FnOk P w K mg base CX k fa fd [x] sp) (hbind:∀(s:CV)(u:CU),Kl s fd ⟨[u],[]⟩ [(x,u)])
  (hsp:∀H:Hp,yT H->SqL K H a (ns.map G6)->sp [.ref a] H (fun v _=>v=.bl true) fun _ _ _=>False)
  (hCX:∀H e s',CX [] H s₁ (fun _ _ _=>False) e s'->False):
  codeAny (model P w) callerA (.call (.ref fa) ⟨[.ref a],[]⟩) (fun r s'=>r=.ok (.ret<|.bool true)/\OldK s₁.heap s'.heap/\s'.os=s₁.os/\Iz s'.gens) s₁:=by
 have rv:=iT hi;have lenV:=hi.length;have core:∀H:Hp,yT H->SqL K H a (ns.map G6)->HOk P w H s₁.heap->(∀b,H b≠none->b=a)->(H a≠none->K.lookup a=none)->
   codeAny (model P w) callerA (.call (.ref fa) ⟨[.ref a],[]⟩) (fun r s'=>r=.ok (.ret<|.bool true)/\OldK s₁.heap s'.heap/\s'.os=s₁.os/\Iz s'.gens) s₁:=by
  intro H hO hS hok hA hK;have base_of:∀{b:Addr}{o:Obj},s₁.heap.get? b=some o->H b=none->(m9 s₁.heap H).get? b=some o:=fun e n=>tS e n;have noA:∀{b:Addr}{o:Obj}{es:Array FL}{ep:Nat},s₁.heap.get? b=some o->o.data=.dict es ep->H b=none:=fun{b o es ep}e d=>by
   cases q:H b with
   |none=>rfl
   |some u=>
    have e':b=a:=hA b (by rw[q];simp);subst e';rw[ha]at e;cases e;have d':JK vs.toArray _=Data.dict es ep:=d;cases d'
  have nsK:∀{b:Addr}{m:Str->Option CU},s₁.heap.Ns b m->(m9 s₁.heap H).Ns b m:=fun{b m}⟨o,es,ep,e,d,r⟩=>⟨o,es,ep,base_of e<|noA e d,d,r⟩
  have hKb:K.In (m9 s₁.heap H):=fun b o e=>base_of (KX b o e) (by
   cases q:H b with
   |none=>rfl
   |some u=>
    have e':b=a:=hA b (by rw[q];simp);subst e';rw[hK (by rw[q];simp)]at e;cases e)
  have hM:Mod K mg (m9 s₁.heap H):=⟨hKb,nsK hns,⟨mb,nsK hb,hbb⟩,let ⟨mc,h1,h2⟩:=hlim;⟨mc,nsK h1,h2⟩⟩
  have e0:Env0 P w K mg (m9 s₁.heap H) callerA [] s₁ H:=⟨rfl,hM,fun b o e=>wx e,Nat.le_of_eq<|rR _ _,trivial,fun b hb=>absurd (show b∈([]:List Addr)from hb) (by simp),hok,.of_eq hg⟩
  refine HW ((F _ hKb<|nsK hns).run callerA [] s₁ H ⟨[.ref a],[]⟩ [.ref a] [.ref a] _ _ hr e0 (hbind s₁<|.ref a) (.cons rfl .nil) (hsp H hO hS)) fun r s' h=>?_;cases r with
  |error e=>exact(hCX H e s' h).elim
  |ok fl=>
   cases fl with
   |next=>exact G8 h
   |brk=>exact G8 h
   |cont=>exact G8 h
   |ret u=>
    obtain⟨v,H',os,bare,un,hok',r',q⟩:=h;have q':v=.bl true:=q;subst q';obtain rfl:u=Lc true:=r';refine⟨rfl,OldK.of_keep fun b o e=>?_,os,bare⟩;cases q:H b with
    |none=>exact un.keep b o e q (by intro z;exact absurd (show b∈([]:List Addr)from z) (by simp)) (by simp)
    |some u=>
     rcases hO b with z|⟨ob,xs,z⟩
     ·rw[q]at z;cases z
     ·have z2:=un.frzs b ob _ z;obtain⟨e1,_⟩:=hok b _ z;obtain⟨e2,_⟩:=hok' b _ z2;rw[e]at e1;cases e1;exact e2
 cases hk:K.lookup a with
 |some o=>
  have e:=KX a o hk;rw[ha]at e;cases e;refine core (fun _=>none) (fun _=>.inl rfl) (.inr ⟨_,vs.toArray,_,hk,rfl,rfl,rfl,by rw[Dm,lenV];exact hl,by simpa using rv⟩) (fun b u z=>by have z':(none:Option HO)=some u:=z;cases z') (fun b z=>absurd rfl z) fun z=>absurd rfl z
 |none=>
  refine core (fun b=>if b=a then some (.frz {cls:=.type "list",data:=.seq vs.toArray}<|.lst<|ns.map G6)else none) (fun b=>?_) (.inl<|.inr ⟨{cls:=.type "list",data:=.seq vs.toArray},if_pos rfl⟩) (fun b u z=>?_) (fun b z=>?_) fun _=>hk
  ·by_cases hb:b=a;·exact .inr ⟨_,_,if_pos hb⟩
   ·exact .inl<|if_neg hb
  ·by_cases hb:b=a
   ·have z':=(if_pos hb).symm.trans z;cases z';subst hb;exact⟨ha,by rw[Dx];exact hl,vs,_,rv,ha⟩
   ·have z':=(if_neg hb).symm.trans z;cases z'
  ·by_cases hb:b=a;·exact hb
   ·exact absurd (if_neg hb) z
theorem walk_of{l:HA}{n k:Nat}{q:Dj}{loose:List Str}{XP:(Str->Option CU)->Heap->Prop}{YP:Dp->Heap->Prop}{d:DefRec}{K:MJ->CT}{CX:Dp->CXT}{sp:Dp->Sp}{x:Str}
  (hn:l.most=some n) (hn2:n<=sizeLine) (hdf:d.params.defaults=[]) (hr:Room k callerA)
  (hY:∀(w:Dp)(h:Heap),YP w h->(K w.params).In h)
  (F:∀(w:Dp) (mg:Str->Option CU) (fa:Addr) (h:Heap),(K w.params).In h->h.Ns mainGlobals mg->mg d.name=some (.ref fa)->
   ∃fd:Dr,(∀(s:CV)(u:CU),Kl s fd ⟨[u],[]⟩ [(x,u)])/\
    ∀base:Heap,(K w.params).In base->base.Ns mainGlobals mg->FnOk l.prog w (K w.params) mg base (CX w) k fa fd [x] (sp w))
  (hsp:∀(w:Dp)(H:Hp)(a:Addr)(ns:List Int),ns.length<=n->yT H->SqL (K w.params) H a (ns.map G6)->sp w [.ref a] H (fun v _=>v=.bl true) fun _ _ _=>False)
  (hCX:∀(w:Dp)(H:Hp)(s:CV)(e:CU)(s':CV),CX w [] H s (fun _ _ _=>False) e s'->False):
  Lb q loose XP YP l.row.toRowW d [] (fun f vs=>Li f vs):=by
 refine Att.attach_call hn hdf fun w s₀ s₁ mg mb fa o pm cd doc a vs ns G Y ho hd hcd hmg hobj hints hlen hg=>?_;have KX:=hY w _ Y;obtain⟨fd,hb,hF⟩:=F w mg fa _ KX G.T.g hmg;exact u4 KX G.T.g G.T.b G.T.builtins G.T.nolimit hg hobj hints (EO hlen hn2) hr hF hb (fun H hO hS=>hsp w H a ns hlen hO hS) fun H e s'=>hCX w H s₁ e s'
def defArgs(s:Stmt):Arguments:=match s with
 | .FunctionDef _ a _ _ _ _ _ _ _ _=>a
 |_=>{posonlyargs:=[],args:=[],vararg:=none,kwonlyargs:=[],kw_defaults:=[],kwarg:=none,defaults:=[]}
def defBody(s:Stmt):List Stmt:=match s with
 | .FunctionDef _ _ b _ _ _ _ _ _ _=>b
 |_=>[]
def defScope(s:Stmt):Gi:=match s with
 | .FunctionDef _ _ _ _ _ _ sc _ _ _=>sc
 |_=>{kind:=.function,names:=[],isGenerator:=false,isCoroutine:=false}
abbrev CX0:CXT:=fun _ _ _ _ _ _=>False
abbrev E0:XK:=fun _ _ _=>False
theorem Aa{X:Cx}:pq CX0 X E0:=fun _ _ _ _ _ _ _ h=>h.elim
structure Fun(K:CT)(x qual:Str)(st:Stmt)(f:Addr)(fd:Dr):Prop where
 ex:∃(oc:CU)(od:Option Addr)(kV doc pm:CU)(an:Option Addr)(cdv ct:CU)(osl:Array (Option CU)),
  fd=Fj x qual (defArgs st) (defBody st) (defScope st) .none kV doc pm an cdv ct/\K.lookup f=some ⟨oc,od,.func fd,osl⟩/\Gu K cdv qual=true
 kp:FV K (.ref f)=true
section
variable{P:Dj}{w:Dp}{K:CT}{mg:Str->Option CU}{base:Heap}
theorem Fun.ok{x qual:Str}{st:Stmt}{f:Addr}{fd:Dr}{N ps:List Str}{k:Nat}{sp:Sp}(F:Fun K x qual st f fd)(S:FnScope N ps (defScope st))(len:∀vs H Q E,sp vs H Q E->vs.length=ps.length)
  (hbody:∀(cdv:CU) (A:DS) (outer:List Env) (s:CV) (H:Hp) (vs:List V) (Q:VK) (E:XK),Room k (A.deeper<|envOfC qual (defScope st) s.heap.objs.size f cdv)->sp vs H Q E->
   ∃t,PSs (rZ CX0 P w K mg base N qual (defScope st) f cdv A outer s H E).nox (defBody st) t/\t {nx:=fun _ H'=>Q .non H',rt:=Q} (start N vs) H):FnOk P w K mg base CX0 (k+1) f fd ps sp:=by
 obtain⟨oc,od,kV,doc,pm,an,cdv,ct,osl,rfl,lk,hcd⟩:=F.ex;refine A7 lk hcd S len fun A outer s H vs Q E hr hsp=>?_;obtain⟨t,h,q⟩:=hbody cdv A outer s H vs Q E hr hsp;exact⟨t,h.nox,q⟩
theorem Fun.binds{x qual:Str}{st:Stmt}{f:Addr}{fd:Dr}{ps:List Str}(F:Fun K x qual st f fd)
  (h:∀(kV doc pm:CU)(an:Option Addr)(cdv ct:CU)(us:List CU),us.length=ps.length->bindArgs (Fj x qual (defArgs st) (defBody st) (defScope st) .none kV doc pm an cdv ct) ⟨us,[]⟩=pure (ps.zip us)):Binds K fd ps []:=by
 obtain⟨oc,od,kV,doc,pm,an,cdv,ct,osl,rfl,lk,hcd⟩:=F.ex;exact .all<|h kV doc pm an cdv ct
theorem mC{x qual:Str}{st:Stmt}{f:Addr}{oc:CU}{od an:Option Addr}{osl:Array (Option CU)}{kV doc pm cdv ct:CU}(l:K.lookup f=some ⟨oc,od,.func<|Fj x qual (defArgs st) (defBody st) (defScope st) .none kV doc pm an cdv ct,osl⟩)
  (c:Gu K cdv qual=true) (k:FV K (.ref f)=true):Fun K x qual st f (Fj x qual (defArgs st) (defBody st) (defScope st) .none kV doc pm an cdv ct):=⟨⟨oc,od,kV,doc,pm,an,cdv,ct,osl,rfl,l,c⟩,k⟩
end
section
variable{X:Cx}
theorem pv(i:Nat){x:Str}{pos:Pos}(hN:X.N[i]? =some x:=by rfl)(hv:Vis X.env.scope x:=by first|exact M6 rfl|exact Lj (M6 rfl)|exact Lj<|Lj rfl)(hd:(x==("__debug__" :Str))=false:=by decide)
  (hcd:(x==("__classdict__" :Str))=false:=by decide):PE X (.Name x pos) (bQ i):=yF hN hv hd hcd
end
def Same(H H':Hp):Prop:=∀b o,H b=some o->H' b=some o
theorem Same.refl(H:Hp):Same H H:=fun _ _ h=>h
theorem Same.trans{H H1 H2:Hp}(a:Same H H1)(b:Same H1 H2):Same H H2:=fun c o h=>b c o<|a c o h
theorem Same.seq{K:CT}{H H':Hp}{a:Addr}{xs:List V}(e:Same H H')(h:SqL K H a xs):SqL K H' a xs:=by
 rcases h with(h|⟨o,h⟩)|h;·exact .inl<|.inl<|e _ _ h
 ·exact .inl<|.inr ⟨o,e _ _ h⟩
 ·exact .inr h
end L2
set_option maxHeartbeats 4000000
namespace L2
open PySem PySem.Spec PyProof.Rows
abbrev aM(l:List Nat):Str:=⟨l.toArray⟩
theorem dg(l:List Nat):(aM l).length=l.length:=by simp[MF,aM]
theorem mD(l:List Nat):(aM l).cps.toList=l:=by simp[aM]
theorem jM(a b:List Nat):aM a++aM b=aM (a++b):=by
 apply PySem.Str.ext';rw[PySem.Str.cps_append];simp[aM]
theorem qG{a b:List Nat}(h:aM a=aM b):a=b:=by
 have:=congrArg (fun x=>x.cps.toList) h;simpa [aM] using this
theorem u5(x:Str):x=aM x.cps.toList:=by cases x;simp[aM]
def DictK(K:CT)(w:Dp)(a:Addr)(kvs:List (Key×V)):Prop:=
 kvs.length<=1000/\(a==sysModules)=false/\(kvs.map (·.1)).Nodup/\∃(es:Array FL)(ep:Nat),K.lookup a=some {cls:=.type "dict",data:=.dict es ep}/\
  Paired (fun(p:Key×V)(e:FL)=>gu p.1 e.key=true/\e.hash=tR w p.1/\RelV p.2 e.val) kvs es.toList
theorem nI{P:Dj}{w:Dp}{kvs:List (Key×V)}{es:List FL}(r:Paired (fun(p:Key×V)(e:FL)=>gu p.1 e.key=true/\e.hash=tR w p.1/\RelV p.2 e.val) kvs es):
  ∀e∈es,∃k,gu k e.key=true/\e.hash=tR w k:=by
 induction r with
 |nil=>intro e h;cases h
 | @cons p e ps es h t ih=>
  intro e' h';rcases Dh.mp h' with rfl|h'
  ·exact⟨p.1,h.1,h.2.1⟩
  ·exact ih e' h'
theorem mE{P:Dj}{w:Dp}{kvs:List (Key×V)}{es:List FL}(r:Paired (fun(p:Key×V)(e:FL)=>gu p.1 e.key=true/\e.hash=tR w p.1/\RelV p.2 e.val) kvs es):
  ∃vs,KV kvs vs/\Pairs (mixKind P w) es vs/\vs.map (·.1)=kvs.map (·.1):=by
 induction r with
 |nil=>exact⟨[],.nil,.nil,rfl⟩
 | @cons p e ps es h t ih=>
  obtain⟨vs,h1,h2,h3⟩:=ih;exact⟨(p.1,e.val)::vs,.cons ⟨rfl,h.2.2⟩ h1,.cons h.1 rfl h2,by simp[h3]⟩
theorem DictK.of{P:Dj}{w:Dp}{K:CT}{a:Addr}{kvs:List (Key×V)}{h:Heap}(d:DictK K w a kvs)(x:K.In h):(a==sysModules)=false/\∃vs,KV kvs vs/\h.DictOf (mixKind P w) a vs:=by
 obtain⟨hz,hs,nd,es,ep,lk,r⟩:=d;obtain⟨vs,h1,h2,h3⟩:=mE (P:=P) r;refine⟨hs,vs,h1,_,es,ep,x _ _ lk,⟨rfl,rfl,rfl⟩,rfl,fun e he=>nI (P:=P) r e (by simpa using he),h2,by rw[h3];exact nd⟩
section
variable{X:Cx}{o i e:Expr}{pos:Pos}{td ty:TE}
def aP(K:CT)(w:Dp)(td ty:TE):TE:=fun σ H Q=>td σ H fun x H1=>ty σ H1 fun y H2=>∃a kvs k v,x=.ref a/\DictK K w a kvs/\y=kV k/\i9 kvs k=some v/\Q v H2
theorem u6(ho:PE X o td)(hi:PE X i ty)(hs:u0 i):PE X (.Subscript o i pos) (aP X.K X.w td ty):=by
 intro pins s σ H Q I h;refine qF Ip.lookup hs<|bP (ho pins s σ H _ I h) fun u s1 zz=>?_;obtain⟨x,H1,I1,rx,q1⟩:=zz;refine bP (hi pins s1 σ H1 _ I1 q1) fun iv s2 zz=>?_;obtain⟨y,H2,I2,ry,a,kvs,k,v,ex,dk,ey,ev,q2⟩:=zz;subst ex ey;obtain rfl:u=Eg a:=rx;obtain⟨hd,vs,rel,dd⟩:=dk.of (P:=X.prog) I2.kIn;refine⟨dd.typeIs,?_⟩;obtain⟨w',hw,rw'⟩:=Me (v:=v) (o:=valueAt vs k) (by rw[<-ev];exact rel.val k);exact wpAny_getItem_of (yj ry) dd.mapOf hw ⟨v,H2,I2.tok _,rw',q2⟩
end
section
variable{X:Cx}
theorem jN:OpR X (compareOp .Is) (fun x y H Q=>∃c,y=.bl c/\Q (.bl<|decide<|x=.bl c) H):=by
 intro pins s σ H x y v u Q I rx ry h;obtain⟨c,rfl,q⟩:=h;cases ry;cases x with
 |bl b=>cases rx;exact is_bool (aO I q (by cases b<;>cases c<;>simp))
 |non=>cases rx;exact CS (aO I q (by simp))
 |int i=>obtain⟨t,rfl⟩:=rx;exact CS (aO I q (by simp))
 |str i=>obtain⟨t,rfl⟩:=rx;exact CS (aO I q (by simp))
 |byt i=>obtain⟨t,rfl⟩:=rx;exact CS (aO I q (by simp))
 |flt i=>obtain⟨t,rfl⟩:=rx;exact CS (aO I q (by simp))
 |ref a=>cases rx;exact CS (aO I q (by simp))
 |ty a=>cases rx;exact CS (aO I q (by simp))
theorem pE:OpR X (binaryOp .Mult) (fun x y H Q=>∃c n,x=.str (aM [c])/\y=.int n/\0<=n/\n<=100000/\Q (.str<|aM<|Fp n.toNat c) H):=by
 intro pins s σ H x y v u Q I rx ry h;obtain⟨c,n,rfl,rfl,h0,h1,q⟩:=h;obtain⟨t,rfl⟩:=rx;obtain⟨t',rfl⟩:=ry;have hl:(aM [c]).length=1:=dg [c];refine SB.mul ?_ fun t' k=>?_
 ·refine⟨?_,fun _ _=>?_,fun _ _=>?_⟩
  ·have e1:decide (n< -(2^63:Int))=false:=decide_eq_false (by omega);have e2:decide (n≥2^63)=false:=decide_eq_false (by omega);rw[e1,e2];rfl
  ·rw[hl];have h2:1<=n:=by omega
   have:(1:Int)<=(2^63-1)/n:=(Int.le_ediv_iff_mul_le (by omega)).mpr (by omega);omega
  ·rw[hl];unfold ME;have:=Ej;simp;omega
 ·have e:MN (aM [c]) n=aM (Fp n.toNat c):=by
   rw[u5<|MN (aM [c]) n];show aM ((MN ⟨#[c]⟩ n).cps.toList)=_;rw[mul_one_list]
  exact⟨.str _,H,I.tok _,⟨t',rfl⟩,by rw[e];exact q⟩
end
section
variable{X:Cx}
def jl(l:List Nat)(lo hi:Option Int):List Nat:=(l.drop<|HT.sIx l.length 0 lo).take (HT.sIx l.length l.length hi-HT.sIx l.length 0 lo)
theorem jO(lo hi:Option Int)(n:Nat):F5 lo hi 1 n=sliceRange ((HT.sIx n 0 lo:Nat):Int) ((HT.sIx n n hi:Nat):Int) 1:=by
 unfold F5;have e1:(match lo with|none=>(0:Int)|some i=>max 0 (min (if i<0 then i+(n:Int)else i) n))=((HT.sIx n 0 lo:Nat):Int):=by
  cases lo with
  |none=>simp[HT.sIx]
  |some i=>simp only[HT.sIx];by_cases h:i<0<;>simp only[h,if_true,if_false]<;>omega
 have e2:(match hi with|none=>(n:Int)|some i=>max 0 (min (if i<0 then i+(n:Int)else i) n))=((HT.sIx n n hi:Nat):Int):=by
  cases hi with
  |none=>simp[HT.sIx]
  |some i=>simp only[HT.sIx];by_cases h:i<0<;>simp only[h,if_true,if_false]<;>omega
 simp only[show(1:Int)>0 by decide,if_true];rw[<-e1,<-e2];cases lo<;>cases hi<;>rfl
theorem sk(l:List Nat)(lo hi:Option Int):KI (aM l) lo hi=aM (jl l lo hi):=by
 have hn:(aM l).length=l.length:=dg l;have hk:(F5 lo hi 1 l.length).filterMap ((aM l).cps[·]?)=jl l lo hi:=by
  rw[jO,JJ,pick_run];simp[jl]
 have hlen:(F5 lo hi 1 l.length).length=(jl l lo hi).length:=by
  rw[jO,JJ];have h1:=HT.sIx_le l.length 0 (Dt _) lo;have h2:=HT.sIx_le l.length l.length (D0 _) hi;simp[jl];omega
 unfold KI;rw[hn];split
 ·rename_i h;have h:(F5 lo hi 1 l.length).length=l.length:=by simpa using h
  have hl:=hlen.symm.trans h;have e:jl l lo hi=l:=by
   have h3:(jl l lo hi).length<=(l.drop<|HT.sIx l.length 0 lo).length:=by unfold jl;simp;omega
   have h4:HT.sIx l.length 0 lo=0\/l.length=0:=by
    rw[KH]at h3;omega
   rcases h4 with h4|h4
   ·unfold jl at hl ⊢;rw[h4]at hl ⊢;rw[JM]at hl ⊢;rw[Hr]at hl;exact Gd (by omega)
   ·have:l=[]:=FX.mp h4;subst this;simp[jl]
  rw[e]
 ·rw[hk]
theorem u7:AR X (fun x lo hi H Q=>∃l,x=.str (aM l)/\l.length<=sizeLine/\Q (.str<|aM<|jl l lo hi) H):=by
 intro pins s σ H x v vl vu lo hi sl Q I rx hs pl pu h;obtain⟨l,rfl,hz,q⟩:=h;obtain⟨t,rfl⟩:=rx;obtain⟨a1,rfl,e1⟩:∃a:Option (Int×Tok),vl=partValue a/\a.map (·.1)=lo:=by
  cases pl with
  |none=>exact⟨none,rfl,rfl⟩
  |int i t=>exact⟨some (i,t),rfl,rfl⟩
 obtain⟨a2,rfl,e2⟩:∃a:Option (Int×Tok),vu=partValue a/\a.map (·.1)=hi:=by
  cases pu with
  |none=>exact⟨none,rfl,rfl⟩
  |int i t=>exact⟨some (i,t),rfl,rfl⟩
 have hle:(KI (aM l) lo hi).length<=sizeLine:=EO (Txt.slice_le _ _ _) (by rw[dg];exact hz);refine⟨"str",_,PySem.F.slot_str_getitem.lookup,Lh _ _ _,wpAny_getItem_str_slice (l:=a1) (u:=a2) (st:=none) hs rfl ?_⟩;subst e1 e2;refine post_val_or_str ⟨hle,fun t' k=>⟨.str _,H,I.tok _,⟨t',rfl⟩,?_⟩⟩;have:=sk l (a1.map (·.1)) (a2.map (·.1));unfold KI at this;show Q (.str (if _ then _ else _)) H;exact this▸q
theorem u9(hc:X.calm=true):A8 X "str.index" (fun x xs H Q=>∃a b,x=.str a/\xs=[.str b]/\0<=I9 a b/\Q (.int<|I9 a b) H):=by
 intro pins s σ H x xs v us Q I rx rs h;obtain⟨a,b,rfl,rfl,h0,q⟩:=h;obtain⟨t,rfl⟩:=rx;obtain⟨u,rfl,t',rfl⟩:=gh rs;refine index_or (I.ok.hd hc) (fun e=>?_) fun _ _=>⟨.int _,H,I.tok _,⟨_,rfl⟩,q⟩
 omega
theorem pF{ys:List (List Nat)}:∀{us:List CU},Vals (ys.map fun y=>Ho<|aM y) us->StrsAre us (ys.map aM):=by
 induction ys with
 |nil=>intro us r;cases r;exact .nil
 |cons y ys ih=>
  intro us r;cases r with
  |cons r1 r2=>
   obtain⟨t,e⟩:=r1;subst e;exact .cons _ t<|ih r2
theorem pG(ys:List (List Nat)):Txt.join (aM []) (ys.map aM)=aM ys.flatten:=by
 have key:∀(r:List (List Nat))(acc:List Nat),(r.map aM).foldl (fun acc p=>acc++(aM []).cps++p.cps) acc.toArray=(acc++r.flatten).toArray:=by
  intro r
  induction r with
  |nil=>intro acc;simp
  |cons a r ih=>
   intro acc;rw[Ds,HK,List.flatten_cons,<-Dq,<-ih (acc++a)];simp[aM]
 cases ys with
 |nil=>rfl
 |cons a r=>
  show Str.mk (((r.map aM)).foldl (fun acc p=>acc++(aM []).cps++p.cps) a.toArray)=_;rw[key];rfl
theorem wJ:A8 X "str.join" (fun x xs H Q=>∃(p:Addr)(ys:List (List Nat)),x=.str (aM [])/\xs=[.ref p]/\SqL X.K H p (ys.map fun y=>Ho<|aM y)/\ys.flatten.length<=100000/\Q (.str<|aM ys.flatten) H):=by
 intro pins s σ H x xs v us Q I rx rs h;obtain⟨p,ys,rfl,rfl,hp,hl,q⟩:=h;obtain⟨t,rfl⟩:=rx;obtain⟨u,rfl,r1⟩:=gh rs;cases r1;obtain⟨its,r,pl,hz⟩:=I.list hp;refine join_list pl.isList (by simpa using pF r) ?_ fun t' k=>⟨.str _,H,I.tok _,⟨t',rfl⟩,by rw[pG];exact q⟩
 have e:((ys.map aM).map (·.length)).sum=ys.flatten.length:=by
  rw[F6,List.length_flatten];congr 1
  all_goals exact HS fun y _=>dg y
 have e2:(aM []).length=0:=dg [];rw[e,e2];omega
theorem nJ:fh X (.builtin "isinstance") (fun xs H Q=>∃x T t b,xs=[x,.ty T]/\TyOf X.K H x t/\Fo X.K t (.type T)=some b/\Q (.bl b) H):=by
 intro pins s σ H xs us Q I r h;obtain⟨x,T,t,b,rfl,ty,e,q⟩:=h;obtain⟨u,w',rfl,rx,rT⟩:=yh r;obtain rfl:w'=.type T:=rT;exact rY I rx ty e fun tk=>⟨.bl b,H,I.tok _,rfl,q⟩
def BR(l:List Nat):It:=⟨fun i _=>i<l.length,fun i H x H'=>H'=H/\∃c,l[i]? =some c/\x=.str (aM [c]),fun i _=>l.length<=i⟩
def Ab(tl:TE):TI:=fun σ H R=>tl σ H fun x H1=>∃l,x=.str (aM l)/\R (BR l) H1
end
theorem uc{P:Dj}{w:Dp}{K:CT}{tg:Expr}(l:List Nat)(it:Addr)(ty:String)(t:Tok)(hty:ty="str_ascii_iterator"\/ty="str_iterator")
  (W:∀A':DS,A'.handled=none->Walks P w A' it [it] [it] l.length (SignAt<|aM l) (fun i h=>h.IsStrIter it ty (aM l) t i)):
  Turn P w K tg (BR l) [it] it (fun i h=>i<=l.length/\h.IsStrIter it ty (aM l) t i) where
 mem:=by simp
 obj:=fun i h st b hb=>by
  have e:b=it:=by simpa using hb
  subst e;obtain⟨_,o,e,c,d⟩:=st;exact⟨o,e,fun v z=>by rw[d]at z;cases z⟩
 keep:=fun i h h' st k=>⟨st.1,by obtain⟨o,e,r⟩:=st.2;exact⟨o,k it (by simp) o e,r⟩⟩
 item:=by
  intro X hP hw hK hc i pins s σ H E I hf st hg;subst hP hw hK;obtain⟨f0,f1,f2,f3,f4,f5⟩:=hf it (by simp);refine(W X.A<|I.ok.hd hc).item i s _ _ hg st.2 fun v h' tk hv st' kk=>?_;obtain⟨c,u,hc',rfl⟩:=hv;have I1:Inv X pins σ H {s with heap:=h',toks:=tk}:=I.turned (fun b o hb e=>kk b o (by simpa using hb) e) f0 f1 f3 f4 f5;obtain⟨o,e,c1,d⟩:=id st';refine⟨_,rfl,nz (s:={s with heap:=h',toks:=tk}) (n:=ty) e c1 d (by rcases hty with rfl|rfl<;>decide) ⟨.str<|aM [c],H,I1,⟨u,rfl⟩,⟨rfl,c,?_,rfl⟩,⟨hg,st'⟩,fun b hb=>(hf b hb).1⟩⟩;simpa [aM] using hc'
 done:=by
  intro X hP hw hK hc i pins s σ H E I hf st hg;subst hP hw hK;obtain⟨f0,f1,f2,f3,f4,f5⟩:=hf it (by simp);have e:i=l.length:=Nat.le_antisymm st.1 hg;subst e;exact(W X.A<|I.ok.hd hc).done s _ _ st.2 fun h' tk kk=>⟨rfl,I.turned (fun b o hb e=>kk b o (by simpa using hb) e) f0 f1 f3 f4 f5⟩
 self:=fun A i s Q E st h=>by
  rcases hty with rfl|rfl;·exact wpAny_pyIter_striter_ascii st.2 h
  ·exact wpAny_pyIter_striter_wide st.2 h
theorem iU{X:Cx}{tg l:Expr}{tl:TE}(hl:PE X l tl):PI X tg l (Ab tl):=by
 intro pins s σ H R I h;refine bP (hl pins s σ H _ I h) fun v s1 zz=>?_;obtain⟨x,H1,I1,r1,q1⟩:=zz;obtain⟨y,e,q⟩:=q1;subst e;obtain⟨t,rfl⟩:=r1;have hn:(aM y).cps.size=y.length:=by simp[aM]
 have fin:∀(ob:Obj)(ty:String),(ty="str_ascii_iterator"\/ty="str_iterator")->(∀A':DS,A'.handled=none->Walks X.prog X.w A' s1.heap.objs.size [s1.heap.objs.size] [s1.heap.objs.size] y.length (SignAt<|aM y) (fun i h=>h.IsStrIter s1.heap.objs.size ty (aM y) t i))->
   (s1.heap.push ob).IsStrIter s1.heap.objs.size ty (aM y) t 0->BF X pins σ tg R (.ref s1.heap.objs.size) {s1 with heap:=s1.heap.push ob}:=fun ob ty hty W st=>by
  refine⟨s1.heap.objs.size,[s1.heap.objs.size],_,_,H1,rfl,I1.kept (t':=s1.toks) fun b o e=>CQ _ e,uc y _ ty t hty W,⟨Dt _,st⟩,fun b hb=>?_,q⟩;have e:b=s1.heap.objs.size:=by simpa using hb
  subst e;exact I1.fpOk (D0 _)<|I1.hok.fresh<|D0 _
 cases ha:(aM y).cps.all (· <128);·exact Ko ha<|fin _ "str_iterator" (.inr rfl) (fun A' hA=>hn▸Walks.strWide hA _ (aM y) t) ⟨_,D6 _ rfl,rfl,rfl⟩
 ·exact Ka ha<|fin _ "str_ascii_iterator" (.inl rfl) (fun A' hA=>hn▸Walks.strAscii hA _ (aM y) t) ⟨_,D6 _ rfl,rfl,rfl⟩
def bZ(env:Env):List (Str×FW)->List (Str×Addr)->List (Str×Addr)
 | [],acc=>acc
 |(n,k)::r,acc=>bZ env r (if(k== .free)=true then(n,(env.cells.lookup n).getD 0)::acc else acc)
theorem dP{scope:Gi}{env:Env}(h:∀x∈scope.names,x.2=.free->∃c,env.cells.lookup x.1=some c):closureFor scope env=pure (bZ env scope.names []):=by
 simp only[closureFor];have key:∀(names:List (Str×FW))(acc:List (Str×Addr)),(∀x∈names,x.2=.free->∃c,env.cells.lookup x.1=some c)->
   (forIn names acc fun(x:Str×FW)(cs:List (Str×Addr))=>if(x.2== .free)=true then(do let a <-cellOf env x.1;pure (DH ((x.1,a)::cs)))else pure (DH cs))=(pure (bZ env names acc):Sem _):=by
  intro names
  induction names with
  |nil=>intro acc _;rfl
  |cons x r ih=>
   intro acc hx;obtain⟨n,k⟩:=x;rw[GO];have hr:∀y∈r,y.2=.free->∃c,env.cells.lookup y.1=some c:=fun y hy=>hx y<|Dk _ hy;unfold bZ;by_cases hk:(k==ED)=true
   ·obtain⟨c,hc⟩:=hx (n,k) Di (by simpa using hk);have hc:env.cells.lookup n=some c:=hc;simp only[hk,if_true];unfold cellOf;simp only[hc,Hs];exact ih _ hr
   ·simp only[hk,if_false];exact ih _ hr
 have:=key scope.names [] h;rw[this];rfl
theorem gB{env:Env}{x:Str}{c:Addr}:∀(names:List (Str×FW))(acc:List (Str×Addr)),(∀y∈names,y.2=.free->∃c,env.cells.lookup y.1=some c)->(bZ env names acc).lookup x=some c->
  ((x,ED)∈names/\env.cells.lookup x=some c)\/acc.lookup x=some c
 | [],_,_,h=>.inr h
 |(n,k)::r,acc,hx,h=>by
  unfold bZ at h;rcases gB r _ (fun y hy=>hx y<|Dk _ hy) h with⟨q1,q2⟩|q
  ·exact .inl ⟨Dk _ q1,q2⟩
  ·by_cases hk:(k == ED)=true
   ·rw[if_pos hk]at q;have hk':k=.free:=by simpa using hk
    subst hk';rw[F3]at q;cases hb:x==n with
    |true=>
     rw[hb]at q;have e:x=n:=beq_iff_eq.mp hb;subst e;obtain⟨c',hc⟩:=hx (x,.free) Di rfl;have hc:env.cells.lookup x=some c':=hc;rw[hc]at q;simp at q;subst q;exact .inl ⟨Di,hc⟩
    |false=>rw[hb]at q;exact .inr q
   ·rw[if_neg hk]at q;exact .inr q
theorem j9{env:Env}{x:Str}{c:Addr}:∀(names:List (Str×FW))(acc:List (Str×Addr)),acc.lookup x=some c->env.cells.lookup x=some c->(bZ env names acc).lookup x=some c
 | [],_,h,_=>h
 |(n,k)::r,acc,h,he=>by
  unfold bZ;refine j9 r _ ?_ he;by_cases hk:(k==ED)=true
  ·rw[if_pos hk,F3];cases hb:x==n with
   |true=>
    have e:x=n:=beq_iff_eq.mp hb;subst e;simp[he]
   |false=>exact h
  ·rw[if_neg hk];exact h
theorem ja{env:Env}{x:Str}{c:Addr}:∀(names:List (Str×FW))(acc:List (Str×Addr)),(x,ED)∈names->env.cells.lookup x=some c->(bZ env names acc).lookup x=some c
 |(n,k)::r,acc,h,he=>by
  unfold bZ;rcases Dh.mp h with e|h
  ·cases e;exact j9 r _ (by simp[he]) he
  ·exact ja r _ h he
theorem cG:∀(names:List (Str×FW))(n:Nat)(acc:List (Str×Addr)),cellsFrom n names acc=cellsFrom n names []++acc
 | [],_,_=>rfl
 |(x,k)::r,n,acc=>by
  unfold cellsFrom;split;·rw[cG r _ ((x,n)::acc),cG r _ [(x,n)],Dq];rfl
  ·exact cG r n acc
theorem eE:∀(names:List (Str×FW))(n:Nat){x:Str}{c:Addr},(x,c)∈cellsFrom n names []->(x,JX)∈names
 | [],_,_,_,h=>by cases h
 |(y,k)::r,n,x,c,h=>by
  unfold cellsFrom at h;split at h
  ·rename_i hk;rw[cG]at h;rcases DY.mp h with h|h
   ·exact Dk _<|eE r _ h
   ·have e:(x,c)=(y,n):=by simpa using h
    cases e;have hk':k=.cell:=by simpa using hk
    subst hk';exact Di
  ·exact Dk _<|eE r _ h
theorem jP{M:Jk}{A:DS}{E:CU->CV->Prop}{s:CV}{scope:Gi}{env:Env}{cl:List (Str×Addr)}{Q:Env->CV->Prop}
  (hQ:Q (newEnv scope s.heap.objs.size env.globals (cellsFrom (s.heap.objs.size+1) scope.names cl) env.qual none .none (some env) builtinsNs) {s with heap:=pushCells (s.heap.push {cls:=.type "dict",data:=.dict #[]}) scope.names}):
  wpAny M A (newFunctionEnv scope env.globals cl [] env.qual none .none<|some env) Q E s:=by
 simp only[newFunctionEnv,K9,if_true];refine CN<|wpAny_alloc ?_;refine CN (wpAny_layCells _ (fun name kind cells=>by cases hkc:kind==JX<;>simp[hkc]) _ _ _ _ ?_);rw[show({s with heap:=s.heap.push {cls:=.type "dict",data:=.dict #[]}}:CV).heap.objs.size=s.heap.objs.size+1 from E8 ..];simp only[Hd];exact CN<|CS<|CS hQ
section
variable{prog:Dj}{w:Dp}{A:DS}{R:Lg->CV->Prop}{s:CV}
theorem mF{elt target iter:Expr}{ifs:List Expr}{scope:Gi}{pos:Pos}{it acc:CU}{env:Env}(I:Nat->CV->Prop)
  (turn:∀n s,I n s->wpAny (model prog w) A (pyNext it) (fun r s₁=>match r with
   |none=>R (.ok .next) s₁
   | some v=>wpAny (model prog w) A (letOwnedTupleGo target it v) (fun _ s₁'=>wpAny (model prog w) A (assign target env v) (fun _ s₂=>
     wpAny (model prog w) A (forIn ifs true fun c r=>if r=true then do let ok <-isTrue c env (eval c env);pure (DH ok)else pure (DH r)) (fun ok s₃=>
      if ok=true then wpAny (model prog w) A (eval elt env) (fun x s₄=>
       wpAny (model prog w) A (call (.builtin "list.append") [acc,x]) (fun _ s₅=>∃m,m<n/\I m s₅) (fun _ _=>False) s₄) (fun _ _=>False) s₃
      else ∃m,m<n/\I m s₃) (fun _ _=>False) s₂) (fun _ _=>False) s₁') (fun _ _=>False) s₁) (fun _ _=>False) s)
  (n:Nat) (h:I n s):codeAny (model prog w) A (.compLoop (.ListComp elt [⟨target,iter,ifs,0⟩] scope pos) 0 it acc env) R s:=by
 refine codeAny_loop rfl I (fun n s hI=>?_) n h;show wpAny _ A ((compTurn (.ListComp elt [⟨target,iter,ifs,0⟩] scope pos) 0 it acc env).onRaise (fun x=>do noteFrame x env;theTreesLotGoes x)) _ _ s;refine wpAny_noted ?_;rw[compTurn_list];refine CN<|Fz<|CN<|Ee (turn n s hI) (fun r s₁ h₁=>?_) fun _ _ h'=>h'.elim;cases r with
 |none=>exact CS h₁
 |some v=>
  refine CN<|Ee h₁ (fun _ s₁' h₁'=>?_) fun _ _ h'=>h'.elim;refine CN<|Ee h₁' (fun _ s₂ h₂=>CN<|Ee h₂ (fun ok s₃ h₃=>?_) fun _ _ h'=>h'.elim) fun _ _ h'=>h'.elim;cases ok with
  |true=>
   rw[if_pos rfl]at h₃;exact CN<|CN<|Ee h₃ (fun x s₄ h₄=>CN<|Ee h₄ (fun _ s₅ h₅=>CS<|CS ⟨rfl,h₅⟩) fun _ _ h'=>h'.elim) fun _ _ h'=>h'.elim
  |false=>
   rw[if_neg Dg]at h₃;exact CS ⟨rfl,h₃⟩
end
def ud(scope:Gi)(x:Str):Bool:=scope.names.lookup x==some .local||scope.names.lookup x==some .cell
def aA(X:Cx)(scope:Gi)(N:List Str)(s:CV)(H:Hp)(C:Addr)(fp:List Addr):Cx:=
 {X with N:=N,s₀:=s,H₀:=H,env:=compEnvC scope (cellsFrom (C+1) scope.names<|bZ X.env scope.names []) C X.env,outer:=X.stack,ex:=fp,fn:=ud scope,pn:=[],xe:=fun _ _=>False}
def br(cap:List (Option Nat))(σ:St):St:=cap.map fun o=>o.bind fun j=>(σ[j]?).bind id
structure CompScope(X:Cx)(scope:Gi)(N:List Str)(cap:List (Option Nat)):Prop where
 kind:scope.kind=.function
 nd:N.Nodup
 len:cap.length=N.length
 uniq:(scope.names.map (·.1)).Nodup
 free:∀x∈scope.names,x.2=.free->(X.env.kindOf x.1=some .cell\/X.env.kindOf x.1=some .free)
 cap:∀(k:Nat)(x:Str)(j:Nat),N[k]? =some x->cap[k]? =some (some j)->X.N[j]? =some x/\(x,ED)∈scope.names
theorem cV{α:Type}:∀{l:List (Str×α)}{x:Str}{k:α},(l.map (·.1)).Nodup->(x,k)∈l->l.lookup x=some k
 |(y,j)::r,x,k,nd,h=>by
  obtain⟨n1,n2⟩:=Fc.mp (show(y::r.map (·.1)).Nodup from nd);rw[F3];rcases Dh.mp h with e|h;·cases e;simp
  ·have:(x == y)=false:=beq_eq_false_iff_ne.mpr fun e=>n1<|e▸DQ.mpr ⟨(x,k),h,rfl⟩;rw[this];exact cV n2 h
theorem eS{env:Env}:∀{names:List (Str×FW)}{x:Str},(names.map fun(p:Str×FW)=>if(p.2==ED&&env.scope.kind== .function&&env.kindOf p.1==some .cell)=true then(p.1,JX)else(p.1,p.2)).lookup x=
  (names.lookup x).map fun k=>if(k==ED&&env.scope.kind== .function&&env.kindOf x==some .cell)=true then .cell else k
 | [],_=>rfl
 |(n,k)::r,x=>by
  rw[Ds];have ih:= @eS env r x;by_cases hx:x=n
  ·subst hx;by_cases hc:(k==ED&&env.scope.kind== .function&&env.kindOf x==some .cell)=true;·simp only[hc,if_true,F3,beq_self_eq_true,Gk]
   ·rw[if_neg hc,F3,F3,beq_self_eq_true];simp only[Gk];rw[if_neg hc]
  ·have hb:(x == n)=false:=beq_eq_false_iff_ne.mpr hx;by_cases hc:(k==ED&&env.scope.kind== .function&&env.kindOf n==some .cell)=true;·simp only[hc,if_true,F3,hb];exact ih
   ·rw[if_neg hc,F3,F3,hb];exact ih
def tO(X:Cx)(ifs:List Expr)(t:TT):Prop:=
 ∀(pins:List (Addr×Obj))(s:CV)(σ:St)(H:Hp)(Q:Bool->Hp->Prop),Inv X pins σ H s->t σ H Q->
  wpAny (model X.prog X.w) X.A (forIn ifs true fun c r=>if r=true then do let ok <-isTrue c X.env (eval c X.env);pure (DH ok)else pure (DH r)) (TP X pins σ Q) X.xe s
def yV:TT:=fun _ H Q=>Q true H
theorem cW{X:Cx}:tO X [] yV:=fun _ _ _ H _ I h=>wpAny_tests_nil ⟨H,I,h⟩
theorem qH{X:Cx}{c:Expr}{t:TT}(h:PT X c t):tO X [c] t:=fun pins s σ H Q I hq=>wpAny_tests_one<|h pins s σ H Q I hq
def Keep:St->St->Prop
 | [],_=>True
 |none::a,_::b=>Keep a b
 |some v::a,some u::b=>v=u/\Keep a b
 |_,_=>False
theorem Keep.get:∀{a b:St}{j:Nat}{v:V},Keep a b->a[j]? =some (some v)->b[j]? =some (some v)
 | [],_,_,_,_,h=>by simp at h
 |none::a,_::b,0,_,_,h=>by simp at h
 |none::a,_::b,j+1,v,k,h=>Keep.get (j:=j) (a:=a) (b:=b) k h
 |some w::a,some u::b,0,v,k,h=>by
  have e:w=u:=k.1;subst e;exact h
 |some w::a,some u::b,j+1,v,k,h=>Keep.get (j:=j) (a:=a) (b:=b) k.2 h
 |none::_,[],_,_,k,_=>k.elim
 |some _::_,[],_,_,k,_=>k.elim
 |some _::_,none::_,_,_,k,_=>k.elim
def Ac(cap:List (Option Nat))(g:TG)(tf:TT)(te:TE)(σ:St)(H1:Hp)(Q:VK)(J:It):Prop:=∃W:Nat->Nat->List V->Hp->Prop,(∃m,W 0 m [] H1)/\∀i m ys H,W i m ys H->ys.length<sizeLine/\
  ((J.stop i H/\∀D,H D=none->Q (.ref D) (cZ H D<|.lst ys))\/
   (J.go i H/\∃N:List V->Hp->Prop,(∀ys' H',N ys' H'->∃m',m'<m/\W (i+1) m' ys' H')/\∀x H',J.yld i H x H'->g x (br cap σ) H' fun σ2 H2=>Keep (br cap σ) σ2/\tf σ2 H2 fun b H3=>if b=true then te σ2 H3 fun y H4=>N (ys++[y]) H4 else N ys H3))
def qI(cap:List (Option Nat))(wi:TI)(g:TG)(tf:TT)(te:TE):TE:=fun σ H Q=>wi σ H fun J H1=>Ac cap g tf te σ H1 Q J
theorem dn{X:Cx}{scope:Gi}{C:Addr}{x:Str}{c:Addr}(frc:∀x∈scope.names,x.2=.free->∃c,X.env.cells.lookup x.1=some c)
  (h:(cellsFrom (C+1) scope.names<|bZ X.env scope.names []).lookup x=some c):(x,c)∈cellsFrom (C+1) scope.names []\/((x,ED)∈scope.names/\X.env.cells.lookup x=some c):=by
 rw[cG,Kb]at h;cases e:(cellsFrom (C+1) scope.names []).lookup x with
 |some d=>
  rw[e]at h;have h:some d=some c:=h;cases h;exact .inl<|ER e
 |none=>
  rw[e]at h;have h:(bZ X.env scope.names []).lookup x=some c:=h;rcases gB _ _ frc h with q|q
  ·exact .inr q
  ·cases q
theorem nK{X:Cx}{scope:Gi}{C:Addr}{x:Str}{c:Addr}(uq:(scope.names.map (·.1)).Nodup)(hx:(x,ED)∈scope.names)(hc:X.env.cells.lookup x=some c):
  (cellsFrom (C+1) scope.names<|bZ X.env scope.names []).lookup x=some c:=by
 rw[cG,Kb];cases e:(cellsFrom (C+1) scope.names []).lookup x with
 |some d=>
  have h1:=cV uq<|eE _ _<|ER e;have h2:=cV uq hx;rw[h1]at h2;cases h2
 |none=>exact ja _ _ hx hc
section
variable{X:Cx}{scope:Gi}{N:List Str}{cap:List (Option Nat)}{pins:List (Addr×Obj)}{σ:St}{H:Hp}{s:CV}{C:Addr}{fp:List Addr}
theorem sm{h4:Heap}(S:CompScope X scope N cap)(I:Inv X pins σ H s)(hC:s.heap.objs.size<=C)(ck:M7 h4 (C+1) (cellsFrom (C+1) scope.names []))
  (hf:∀b∈fp,FpOk X pins H b) (hlt:∀b∈fp,b<C):(aA X scope N s H C fp).Ok:=by
 have frc:∀x∈scope.names,x.2=.free->∃c,X.env.cells.lookup x.1=some c:=fun x hx hk=>I.ok.has x.1<|S.free x hx hk;have old:∀x c,X.env.cells.lookup x=some c->c<C:=fun x c e=>by
  obtain⟨v,q⟩:=I.cell x c e;exact D8 q.lt hC
 have own:∀x c,(x,c)∈cellsFrom (C+1) scope.names []->C<c:=fun x c e=>(ck.empty x c e).2;refine⟨I.ok.mod,S.kind,I.ok.glob,I.ok.blt,hC,fun x y c h1 h2=>?_,fun x hx=>?_,fun x c hfn h=>?_,I.ok.hd,I.ok.frames,.inl rfl,fun b hb=>⟨Dv<|hlt b hb,fun x c h=>?_⟩,I.bs,EO I.ok.bsz I.sz,fun b o e hb=>?_,fun b hb z=>?_,I.stack,I.stkFree⟩
 ·rcases dn frc h1 with a | ⟨a1,a2⟩ <;> rcases dn frc h2 with b | ⟨b1,b2⟩
  ·exact name_of_addr ck.apart a b
  ·exact absurd (Jd (own x c a)<|old y c b2)<|Eu _
  ·exact absurd (Jd (own y c b)<|old x c a2)<|Eu _
  ·exact I.ok.inj x y c a2 b2
 ·have hx:(relabel scope X.env).names.lookup x=some .cell\/(relabel scope X.env).names.lookup x=some .free:=hx;have e:(relabel scope X.env).names.lookup x=_:=eS (env:=X.env) (names:=scope.names) (x:=x);rw[e]at hx;cases q:scope.names.lookup x with
  |none=>rw[q]at hx;rcases hx with z|z<;>cases z
  |some k=>
   have hm:=ER q;by_cases hk:k=.free
   ·subst hk;obtain⟨c,hc⟩:=frc _ hm rfl;exact⟨c,nK S.uniq hm hc⟩
   ·have hk':(k == ED)=false:=by simpa using hk
    rw[q]at hx;simp only[Gk,hk',Le,DA,if_false]at hx;have hkc:k=.cell:=by
     rcases hx with z|z;·exact DM z
     ·exact absurd (DM z) hk
    subst hkc;exact IL.mp<|Hb scope.names (C+1) _<|.inl q
 ·rcases dn frc h with a | ⟨a1,a2⟩
  ·exact EO hC<|GB<|own x c a
  ·have q:=cV S.uniq a1;have z:ud scope x=true:=hfn;unfold ud at z;rw[q]at z;exact absurd z (by decide)
 ·rcases dn frc h with a | ⟨a1,a2⟩
  ·exact G9<|Jd (hlt b hb)<|own x c a
  ·exact(hf b hb).2.2.2.2.1 x c a2
 ·rcases (hf b hb).2.2.2.1 with z | z;·exact I.ok.noex b o e z
  ·exact absurd (D8 (D8 (Dc e) I.ok.bsz) z)<|Eu _
 ·rcases Dh.mp (I.stkSub b z)with q | q;·exact(hf b hb).2.1 q
  ·exact(hf b hb).2.2.1 q
theorem jQ{s4:CV}(S:CompScope X scope N cap)(I:Inv X pins σ H s)(hC:s.heap.objs.size<=C)(ck:M7 s4.heap (C+1) (cellsFrom (C+1) scope.names []))
  (hf:∀b∈fp,FpOk X pins H b) (hlt:∀b∈fp,b<C) (h4:∃h' tk,s4={s with heap:=h',toks:=tk}) (hn:s4.heap.Ns C fun _=>none) (hk:∀b o,s.heap.get? b=some o->s4.heap.get? b=some o):
  Inv (aA X scope N s H C fp) [] (br cap σ) H s4:=by
 have frc:∀x∈scope.names,x.2=.free->∃c,X.env.cells.lookup x.1=some c:=fun x hx hk=>I.ok.has x.1<|S.free x hx hk;obtain⟨h',tk,rfl⟩:=h4;refine⟨sm S I hC ck hf hlt,rfl,I.bare,Un.kept hk,⟨_,hn,fun i x v e1 e2 e3=>?_⟩,fun x c h=>?_,I.hok.fresh hC,fun x c h=>?_,fun p hp=>absurd (show p∈([]:List (Addr×Obj))from hp) (by simp),I.hok.kept hk,?_⟩
 ·have e1:N[i]? =some x:=e1;unfold br at e2;rw[D7]at e2;cases q:cap[i]? with
  |none=>rw[q]at e2;cases e2
  |some o=>
   cases o with
   |none=>rw[q]at e2;cases e2
   |some j=>
    rw[q]at e2;obtain⟨hj,hm⟩:=S.cap i x j e1 q;have e2:σ[j]?.bind id=some v:=DM e2;have e2':σ[j]? =some (some v):=by
     cases z:σ[j]? with
     |none=>rw[z]at e2;cases e2
     |some o=>rw[z]at e2;exact congrArg some e2
    have kd:=S.free _ hm rfl;obtain⟨m,_,hl⟩:=I.loc;obtain⟨u,r,lk⟩:=hl j x v hj e2' (by rcases kd with z|z;exact .inr<|.inl z;exact .inr<|.inr z);refine⟨u,r,.inr ?_⟩;rcases lk with⟨z,_⟩|⟨_,c,hc,hcell⟩
    ·rcases kd with q|q<;> ·rw[show X.env.kindOf x=_ from q]at z;cases z
    ·refine⟨?_,c,nK S.uniq hm hc,hcell.keeps hk⟩;have e:(relabel scope X.env).names.lookup x=_:=eS (env:=X.env) (names:=scope.names) (x:=x);rw[cV S.uniq hm]at e;simp only[Gk]at e;show(relabel scope X.env).names.lookup x=some .cell\/(relabel scope X.env).names.lookup x=some .free;rw[e];split;·exact .inl rfl
     ·exact .inr rfl
 ·rcases dn frc h with a | ⟨a1,a2⟩
  ·exact⟨_,(ck.empty x c a).1⟩
  ·obtain⟨v,q⟩:=I.cell x c a2;exact⟨v,q.keeps hk⟩
 ·rcases dn frc h with a | ⟨a1,a2⟩
  ·exact I.hok.fresh<|EO hC<|GB (ck.empty x c a).2
  ·exact I.freeC x c a2
 ·show(br cap σ).length=N.length;unfold br;rw[Dx,S.len]
end
abbrev ic(its:List CU)(k:Nat):Obj:={cls:=.type "list",data:=.seq its.toArray k}
section
variable{X:Cx}{scope:Gi}{N:List Str}{cap:List (Option Nat)}{tg iter elt:Expr}{ifs:List Expr}{pos:Pos}{wi:TI}{g:TG}{tf:TT}{te:TE}
theorem lG(S:CompScope X scope N cap)(hc:X.calm=true)
  (hg:∀s H C fp,PG (aA X scope N s H C fp) tg g) (hf:∀s H C fp,tO (aA X scope N s H C fp) ifs tf) (he:∀s H C fp,PE (aA X scope N s H C fp) elt te)
  {pins:List (Addr×Obj)} {σ:St} {H2:Hp} {s2:CV} {it:Addr} {fp:List Addr} {tn:Nat->Heap->Prop} {J:It} {Qv:VK} {E:CU->CV->Prop} {RR:CU->Addr->Lg->CV->Prop}
  (I2:Inv X pins σ H2 s2) (T:Turn X.prog X.w X.K tg J fp it tn) (st2:tn 0 s2.heap) (f2:∀b∈fp,FpOk X pins H2 b) {W:Nat->Nat->List V->Hp->Prop} (w0:∃m,W 0 m [] H2)
  (turn:∀i m ys H,W i m ys H->ys.length< sizeLine/\((J.stop i H/\∀D,H D=none->Qv (.ref D) (cZ H D<|.lst ys))\/
   (J.go i H/\∃N:List V->Hp->Prop,(∀ys' H',N ys' H'->∃m',m'<m/\W (i+1) m' ys' H')/\∀x H',J.yld i H x H'->g x (br cap σ) H' fun σ2 H2=>Keep (br cap σ) σ2/\tf σ2 H2 fun b H3=>if b=true then te σ2 H3 fun y H4=>N (ys++[y]) H4 else N ys H3)))
  (fin:∀(D C:Addr) (σ':St) (H':Hp) (s':CV) (its:List CU) (k:Nat) (ys:List V),s2.heap.objs.size<=D->s2.heap.objs.size<=C->D≠C->Inv (aA X scope N s2 H2 C fp) [(D,ic its k)] σ' H' s'->Vals ys its->ys.length<=sizeLine->
   Qv (.ref D) (cZ H' D (.lst ys))->RR (.ref D) C (.ok .next) s'):
  wpAny (model X.prog X.w) X.A (newList []) (fun acc s₃=>wpAny (model X.prog X.w) X.A (newFunctionEnv scope X.env.globals (bZ X.env scope.names []) [] X.env.qual none .none<|some X.env) (fun cenv s₄=>
   codeAny (model X.prog X.w) X.A (.compStart (.ListComp elt [⟨tg,iter,ifs,0⟩] scope pos) 0 (.ref it) acc {cenv with scope:=relabel scope X.env}) (RR acc cenv.locals) s₄) E s₃) E s2:=by
 refine Ec<|jP ?_;generalize hD:s2.heap.objs.size=D;generalize hH3:s2.heap.push {cls:=.type "list",dict:=none,data:=.seq ([]:List CU).toArray}=h3;have hz3:h3.objs.size=D+1:=by rw[<-hH3,E8,hD]
 dsimp only;have eC:({s2 with heap:=h3}:CV).heap.objs.size=D+1:=hz3;rw[show h3.objs.size=D+1 from hz3];generalize hH4:pushCells (h3.push {cls:=.type "dict",data:=.dict #[]}) scope.names=h4;have hz3':(h3.push {cls:=.type "dict",data:=.dict #[]}).objs.size=D+1+1:=by rw[E8,hz3]
 have ck:M7 h4 (D+1+1) (cellsFrom (D+1+1) scope.names []):=by
  have:=cellsFrom_ok scope.names (h3.push {cls:=.type "dict",data:=.dict #[]}) (D+1+1) [] ⟨fun _ _ hm=>(nomatch hm),Gp⟩ (by rw[hz3'];exact D0 _);rw[hz3',hH4]at this;exact this
 have k23:∀b o,s2.heap.get? b=some o->h3.get? b=some o:=fun b o e=>by rw[<-hH3];exact CQ _ e
 have k34:∀b o,h3.get? b=some o->h4.get? b=some o:=fun b o e=>by rw[<-hH4];exact HL _ _ b o<|CQ _ e
 have hD4:h4.get? D=some (ic [] 0):=k34 _ _ (by rw[<-hH3,<-hD];exact D6 _ rfl);have hn4:h4.Ns (D+1) fun _=>none:=by
  rw[<-hH4,<-hz3];exact(Mr h3<|.type "dict").keeps (HL _ _)
 have fpD:∀b∈fp,b<D:=fun b hb=>by
  obtain⟨o,e,_⟩:=T.obj _ _ st2 b hb;rw[<-hD];exact Dc e
 have hlt:∀b∈fp,b<D+1:=fun b hb=>ID<|fpD b hb;have hDC:s2.heap.objs.size<=D+1:=by rw[hD];exact IE _
 have hDs:s2.heap.objs.size<=D:=by rw[hD];exact D0 _
 have IC:Inv (aA X scope N s2 H2 (D+1) fp) [] (br cap σ) H2 {s2 with heap:=h4}:=
  jQ S I2 hDC ck f2 hlt ⟨_,_,rfl⟩ hn4 fun b o e=>k34 b o<|k23 b o e
 have okC:=IC.ok;have nfs:∀{b:Addr},s2.heap.objs.size<=b->b∉frs X.stack:=fun{b}hb hm=>by
  obtain⟨_,o,ho,_⟩:=I2.stack.mem hm;exact absurd (D8 (Dc ho) hb)<|Eu _
 have frc:∀x∈scope.names,x.2=.free->∃c,X.env.cells.lookup x.1=some c:=fun x hx hk=>I2.ok.has x.1<|S.free x hx hk;have cellsD:∀x c,(aA X scope N s2 H2 (D+1) fp).env.cells.lookup x=some c->c≠D:=fun x c e=>by
  rcases dn frc e with a|⟨_,a⟩
  ·have q:D+1+1<=c:=(ck.empty x c a).2;exact G9<|D8 (D8 (GC D)<|IE _) q
  ·obtain⟨v,q⟩:=I2.cell x c a;have:=q.lt;rw[hD]at this;exact Dv this
 have fpO:∀{H':Hp}{its:List CU}{k:Nat},(∀b∈fp,H' b=none)->∀b∈fp,FpOk (aA X scope N s2 H2 (D+1) fp) [(D,ic its k)] H' b:=fun{H' its k}hn b hb=>
  ⟨hn b hb,Dv<|hlt b hb,okC.exfs b hb,.inl hb,(okC.exf b hb).2,fun p hp=>by
   have e:p=(D,ic its k):=by simpa [aA] using hp
   subst e;exact G9 (fpD b hb)⟩
 have pinD:∀{σ':St}{H':Hp}{s':CV}{its:List CU}{k:Nat},Inv (aA X scope N s2 H2 (D+1) fp) [] σ' H' s'->s'.heap.get? D=some (ic its k)->H' D=none->Inv (aA X scope N s2 H2 (D+1) fp) [(D,ic its k)] σ' H' s':=fun{σ' H' s' its k}J e n=>
  J.pins_of fun p hp=>by
   have e':p=(D,ic its k):=by simpa using hp
   subst e';exact⟨e,n,Dv<|GC _,nfs hDs,fun v z=>by
    have z':JK its.toArray k=Gm v:=z;cases z'⟩
 have loop:codeAny (model X.prog X.w) X.A (.compLoop (.ListComp elt [⟨tg,iter,ifs,0⟩] scope pos) 0 (.ref it) (.ref D) (aA X scope N s2 H2 (D+1) fp).env) (RR (.ref D)<|D+1) {s2 with heap:=h4}:=by
  obtain⟨m0,w0⟩:=w0;refine mF (fun n s'=>∃i ys its k σ' H',Inv (aA X scope N s2 H2 (D+1) fp) [(D,ic its k)] σ' H' s'/\tn i s'.heap/\(∀b∈fp,H' b=none)/\Vals ys its/\(∀(j:Nat)(v:V),(br cap σ)[j]? =some (some v)->σ'[j]? =some (some v))/\W i n ys H') ?_ m0
   ⟨0,[],[],0,br cap σ,H2,pinD IC hD4<|I2.hok.fresh hDs,T.keep _ _ _ st2 fun b hb o e=>k34 b o<|k23 b o e,fun b hb=>(f2 b hb).1,.nil,fun _ _ e=>e,w0⟩
  rintro n s3 ⟨i,ys,its,k,σ3,H3,I3,st3,fr3,rv,kp,w3⟩;obtain⟨hyl,tr⟩:=turn i n ys H3 w3;have pin3:=I3.pin (D,ic its k)<|DD _ Di;rcases tr with⟨stop,qn⟩|⟨go,NN,hNN,step⟩
  ·refine bP (T.done (aA X scope N s2 H2 (D+1) fp) rfl rfl rfl hc i _ s3 σ3 H3 _ I3 (fpO fr3) st3 stop) fun r s4 zz=>?_;obtain⟨hr,I4⟩:=zz;subst hr;exact fin D (D+1) σ3 H3 s4 its k ys hDs hDC (Dv<|GC _) I4 rv (GB hyl)<|qn D pin3.2.1
  ·have I3':Inv (aA X scope N s2 H2 (D+1) fp) [(D,ic its k)] (br cap σ) H3 s3:=I3.weak (by rw[I3.len,IC.len]) kp;refine bP (T.item (aA X scope N s2 H2 (D+1) fp) rfl rfl rfl hc i _ s3 _ H3 _ I3' (fpO fr3) st3 go) fun r s4 zz=>?_;obtain⟨u,hr,h4⟩:=zz;subst hr;refine bP h4 fun _ s5 zz=>?_;obtain⟨x,H5,I5,r5,y5,st5,fr5⟩:=zz;have I5':=I5.pinned (fpO fr5)<|T.obj _ _ st5;refine bP (hg _ _ _ _ _ s5 _ H5 x u _ I5' r5<|step x H5 y5) fun _ s6 zz=>?_;obtain⟨σ6,H6,I6,kp6,q6⟩:=zz;refine bP (hf _ _ _ _ _ s6 σ6 H6 _ I6 q6) fun ok s7 zz=>?_;obtain⟨H7,I7,q7⟩:=zz;have back:∀{s8:CV}{H8:Hp},Inv (aA X scope N s2 H2 (D+1) fp) ([(D,ic its k)]++iQ fp s5.heap) σ6 H8 s8->tn (i+1) s8.heap/\(∀b∈fp,H8 b=none)/\s8.heap.get? D=some (ic its k)/\H8 D=none:=fun{s8 H8}I8=>by
    have at_:∀b∈fp,∀o,s5.heap.get? b=some o->s8.heap.get? b=some o/\H8 b=none:=fun b hb o e=>by
     have z:=I8.pin (b,o)<|DD _<|DD _<|eQ hb e;exact⟨z.1,z.2.1⟩
    have pd:=I8.pin (D,ic its k)<|DD _<|Hy _ Di;refine⟨T.keep _ _ _ st5 fun b hb o e=>(at_ b hb o e).1,fun b hb=>?_,pd.1,pd.2.1⟩;obtain⟨o,e,d⟩:=T.obj _ _ st5 b hb;exact(at_ b hb o e).2
   cases ok with
   |false=>
    rw[if_neg Dg]at q7 ⊢;obtain⟨m',hm,w'⟩:=hNN _ _ q7;obtain⟨t7,f7,d7,n7⟩:=back I7;exact⟨m',hm,i+1,ys,its,k,σ6,H7,I7.unpinned,t7,f7,rv,fun j v e=>Keep.get kp6 e,w'⟩
   |true=>
    rw[if_pos rfl]at q7 ⊢;refine bP (he _ _ _ _ _ s7 σ6 H7 _ I7 q7) fun y8 s8 zz=>?_;obtain⟨y,H8,I8,r8,q8⟩:=zz;obtain⟨m',hm,w'⟩:=hNN _ _ q8;obtain⟨t8,f8,d8,n8⟩:=back I8;refine append_at (D:=D) (its:=its.toArray) (n:=k) d8 (fun h' hs' hD'=>?_) (by rw[Dm,<-rv.length];exact GB hyl);have J0:Inv (aA X scope N s2 H2 (D+1) fp) [] σ6 H8 s8:=I8.pins_of fun p hp=>by cases hp
    have J1:Inv (aA X scope N s2 H2 (D+1) fp) [] σ6 H8 {s8 with heap:=h'}:=J0.turned (it:=D) (t':=s8.toks) (fun b o hb e=>(hs'.2 b hb).trans e) n8 (Dv<|GC _) (.inr hDs) cellsD fun p hp=>by
     have:p∈([]:List (Addr×Obj)):=hp;cases this
    refine⟨m',hm,i+1,ys++[y],its++[y8],k+1,σ6,H8,pinD J1 (by simpa using hD') n8,T.keep _ _ _ t8 fun b hb o e=>(hs'.2 b<|Dv<|fpD b hb).trans e,f8,rv.append<|.cons r8 .nil,fun j v e=>Keep.get kp6 e,w'⟩
 exact codeAny_compStart_list loop<|Ee (T.self _ 0 _ _ _ (T.keep _ _ _ st2 fun b hb o e=>k34 b o<|k23 b o e) loop) (fun _ _ h=>h) fun _ _ h=>h
end
section
variable{X:Cx}{scope:Gi}{N:List Str}{cap:List (Option Nat)}{tg iter elt:Expr}{ifs:List Expr}{pos:Pos}{wi:TI}{g:TG}{tf:TT}{te:TE}
theorem nL{pins:List (Addr×Obj)}{σ σ':St}{H2 H':Hp}{s2 s':CV}{fp:List Addr}{D C:Addr}{its:List CU}{k:Nat}{ys:List V}{h':Heap}(I2:Inv X pins σ H2 s2)(f2:∀b∈fp,FpOk X pins H2 b)
  (hD:s2.heap.objs.size<=D) (hC:s2.heap.objs.size<=C) (hDC:D≠C) (I':Inv (aA X scope N s2 H2 C fp) [(D,ic its k)] σ' H' s') (rv:Vals ys its) (hl:ys.length<=sizeLine) (hs:Dl C s'.heap h'):
  Inv X pins σ (cZ H' D<|.lst ys) {s' with heap:=h'}:=by
 have pd:=I'.pin (D,ic its k)<|DD _ Di;have nD:H' D=none:=pd.2.1;have nC:H' C=none:=I'.free;have lt2:∀b o,s2.heap.get? b=some o->b≠D/\b≠C:=fun b o e=>⟨Dv<|D8 (Dc e) hD,Dv<|D8 (Dc e) hC⟩
 have hk:∀b o,b≠C->s'.heap.get? b=some o->h'.get? b=some o:=fun b o hb e=>(hs.2 b hb).trans e;have B:Un (frs X.stack) fp H2 H' s2.heap s'.heap:=I'.base;have tr:∀b u,H' b=some u->b≠D/\b≠C:=fun b u e=>⟨fun z=>(by rw[z,nD]at e;cases e),fun z=>(by rw[z,nC]at e;cases e)⟩
 refine I2.call' (ch:=fp) I'.os ⟨fun b o e n hb hx=>?_,fun b o e n hb hx=>?_,fun b o e n hx=>?_,fun b o e hx=>?_,fun b xs e=>?_,fun b o u e=>?_,fun b ps e=>?_⟩ (fun b u e=>?_) I'.bare fun b hb=>⟨(f2 b hb).2.2.2.1,(f2 b hb).2.1,(f2 b hb).2.2.2.2.1,(f2 b hb).2.2.2.2.2⟩
 ·exact hk b o (lt2 b o e).2 (B.keep b o e n hb hx)
 ·obtain⟨sl,q⟩:=B.slot b o e n hb hx;exact⟨sl,hk b _ (lt2 b o e).2 q⟩
 ·rw[aw (lt2 b o e).1];exact B.free b o e n hx
 ·obtain⟨o',q⟩:=B.there b o e hx;exact⟨o',hk b _ (lt2 b o e).2 q⟩
 ·rw[aw (tr b _<|B.tups b xs e).1];exact B.tups b xs e
 ·rw[aw (tr b _<|B.frzs b o u e).1];exact B.frzs b o u e
 ·obtain⟨more,q⟩:=B.tbls b ps e;exact⟨more,by rw[aw (tr b _ q).1];exact q⟩
 ·by_cases hb:b=D
  ·subst hb;rw[aH]at e;cases e;exact⟨hl,its,k,rv,hk _ _ hDC pd.1⟩
  ·rw[aw hb]at e;refine(I'.hok b u e).stay (fun c w' hc q=>hk c w' ?_ q) (fun c q=>by rw[aw (tr c _ q).1];exact q) fun c xs q=>by rw[aw (tr c _ q).1];exact q
   rcases hc with z|z;·rw[z];exact(tr b u e).2
   ·exact(tr c _ z).2
theorem fR(S:CompScope X scope N cap):∀x∈scope.names,x.2=.local->scope.names.lookup x.1=some .local:=fun x hx hl=>cV S.uniq (by rw[<-hl];exact hx)
theorem eH(S:CompScope X scope N cap)(hc:X.calm=true)(hi:PI X tg iter wi)
  (hg:∀s H C fp,PG (aA X scope N s H C fp) tg g) (hf:∀s H C fp,tO (aA X scope N s H C fp) ifs tf) (he:∀s H C fp,PE (aA X scope N s H C fp) elt te)
  (hs:∀x,foldedSetIterable iter X.env x=pure x:=by intro _;rfl):PE X (.ListComp elt [⟨tg,iter,ifs,0⟩] scope pos) (qI cap wi g tf te):=by
 intro pins s σ H Q I h;rw[eval_ListComp];have frc:∀x∈scope.names,x.2=.free->∃c,X.env.cells.lookup x.1=some c:=fun x hx hk=>I.ok.has x.1<|S.free x hx hk;refine FQ (use:=none) rfl hs (dP frc) S.kind (fR S)<|bP (hi pins s σ H _ I h) fun v s1 h1=>bP h1 fun itv s2 h2=>?_;obtain⟨it,fp,tn,J,H2,rfl,I2,T,st2,f2,W,w0,turn⟩:=h2;refine lG (RR:=fun acc C=>compPost (model X.prog X.w) X.A X.xe none (EP X pins σ Q) acc C) S hc hg hf he I2 T st2 f2 w0 turn fun D C σ' H' s' its k ys hD hC hDC I' rv hl q=>?_;obtain⟨m,hn,_⟩:=I'.loc;exact⟨m,hn,fun h' hs'=>⟨.ref D,_,nL I2 f2 hD hC hDC I' rv hl hs',rfl,q⟩⟩
end
section
variable{X:Cx}{scope:Gi}{N:List Str}{cap:List (Option Nat)}{tg iter elt:Expr}{ifs:List Expr}{pos spos py:Pos}{wi:TI}{g:TG}{tf:TT}{te:TE}{i:Nat}{y:Str}
theorem pH(hN:X.N.Nodup)(hi':X.N[i]? =some y)(hy:yd X.env.scope y)(S:CompScope X scope N cap)(hc:X.calm=true)(hi:PI X tg iter wi)
  (hg:∀s H C fp,PG (aA X scope N s H C fp) tg g) (hf:∀s H C fp,tO (aA X scope N s H C fp) ifs tf) (he:∀s H C fp,PE (aA X scope N s H C fp) elt te)
  (hsw:swapsWith (.ListComp elt [⟨tg,iter,ifs,0⟩] scope pos) (some<|.Name y py) spos.line X.env=pure true:=by rfl)
  (hs:∀x,foldedSetIterable iter X.env x=pure x:=by intro _;rfl) (hfn:X.fn y=true\/X.env.scope.names.lookup y=some .local:=by first|exact .inl rfl|exact .inr rfl|assumption):
  PS X (.Assign [.Name y py] (.ListComp elt [⟨tg,iter,ifs,0⟩] scope pos) spos) (bR (qI cap wi g tf te)<|aR i):=by
 intro pins s σ H D I h;rw[exec_Assign_Name_used _ _ _ _ hsw];refine CN<|Fz<|CN ?_;show wpAny _ X.A (do let _ <-comprehension (.ListComp elt [⟨tg,iter,ifs,0⟩] scope pos) scope X.env _ (newList []) false (eval iter X.env) (some<|assign (.Name y py) X.env)) _ _ s;have frc:∀x∈scope.names,x.2=.free->∃c,X.env.cells.lookup x.1=some c:=fun x hx hk=>I.ok.has x.1<|S.free x hx hk;refine CN<|Ee (FQ (use:=some<|assign (.Name y py) X.env) (Q:=fun _ s'=>SP X pins D .next s') rfl hs (dP frc) S.kind (fR S)<|bP (hi pins s σ H _ I h) fun v s1 h1=>bP h1 fun itv s2 h2=>?_) (fun _ s' hq=>CS<|CS hq) fun _ _ e=>e;obtain⟨it,fp,tn,J,H2,rfl,I2,T,st2,f2,W,w0,turn⟩:=h2;refine lG (Qv:=fun x H1=>aR i x σ H1 D.nx) (RR:=fun acc C=>compPost (model X.prog X.w) X.A X.xe (some<|assign (.Name y py) X.env) (fun _ s'=>SP X pins D .next s') acc C) S hc hg hf he I2 T st2 f2 w0 turn fun d C σ' H' s' its k ys hD hC hDC I' rv hl q=>?_;obtain⟨m,hn,_⟩:=I'.loc;have I3:Inv X pins σ (cZ H' d<|.lst ys) s':=nL (h':=s'.heap) I2 f2 hD hC hDC I' rv hl<|.refl ..;have nC:(cZ H' d<|.lst ys) C=none:=by rw[aw<|H9 hDC];exact I'.free
 have cL:C≠X.env.locals:=fun z=>absurd (D8 I2.lt hC) (by rw[z];exact Eu _);have cc:∀x c,X.env.cells.lookup x=some c->c≠C:=fun x c e z=>by
  obtain⟨v,q⟩:=I2.cell x c e;exact absurd (D8 q.lt hC) (by rw[z];exact Eu _)
 show wpAny _ X.A (assign (.Name y py) X.env<|.ref d) _ _ _;refine Kh<|ly (v:=.ref d) I3 hN hi' hy rfl (fun s4 I4⟨a,sb,ha⟩=>?_) hfn;have aC:C≠a:=by
  rcases ha with z|z;·rw[z];exact cL
  ·exact H9<|cc _ _ z
 refine⟨m,hn.sameBut sb aC,fun h' hs'=>?_⟩;exact⟨_,_,I4.turned (it:=C) (t':=s4.toks) (fun b o hb e=>(hs'.2 b hb).trans e) nC cL (.inr<|EO I2.sz hC) cc (fun p hp z=>absurd (D8 (Dc (I2.pin p hp).1) hC) (by rw[z];exact Eu _)),q⟩
end
inductive Src where
 |lst (a:Addr)|tup (a:Addr)|str (l:List Nat)
def Src.has(K:CT)(H:Hp):Src->List V->Prop
 | .lst a,xs=>SqL K H a xs
 | .tup a,xs=>SqT K H a xs
 | .str l,xs=>xs=l.map fun c=>Ho<|aM [c]
def Src.at(it:Addr)(i:Nat)(h:Heap):Src->Prop
 | .lst a=>h.IsListIter it a i
 | .tup a=>h.IsTupleIter it a i
 | .str l=>∃t,h.IsStrIter it "str_ascii_iterator" (aM l) t i\/h.IsStrIter it "str_iterator" (aM l) t i
def Src.val:Src->V
 | .lst a=>.ref a
 | .tup a=>.ref a
 | .str l=>.str<|aM l
section
variable{P:Dj}{w:Dp}{A:DS}{E:CU->CV->Prop}{s:CV}
theorem mG{j a:Addr}{k:Nat}{us:Array CU}{x:CU}{Q:CU->CV->Prop}(g:s.heap.IsTupleIter j a k)(ga:s.heap.IsTuple a us)(gx:us[k]? =some x)
  (q:∀h',h'.IsTupleIter j a (k+1)->Dl j s.heap h'->Q x {s with heap:=h'}):wpAny (model P w) A (Du<|.ref j) Q E s:=by
 obtain⟨ob,e1,e2,e3⟩:=id g;obtain⟨ot,f1,_,nn,f3⟩:=ga;unfold Du;refine CN<|E4 (name:=CY "__next__") g.typeIs F7<|DU F7 g.typeIs H0 ?_<|GS _;show wpAny (model P w) _ (field (.ref j) 0>>=_) _ _ s;refine CN<|E7 e1 e3 (x:=.ref a) rfl ?_;show wpAny (model P w) _ (if(Eg a==En)=true then _ else _) _ _ s;rw[if_neg (show ¬((Eg a==En)=true)from Dg)];show wpAny (model P w) _ (field (.ref j) 1>>=_) _ _ s;refine CN<|E7 e1 e3 (x:=.int k 0) rfl ?_;show wpAny (model P w) _ (seqItems? (.ref a)>>=_) _ _ s;refine CN<|E2 f1 f3 ?_;simp only[Ew,gx];refine CN (FY e1 e3 (by simp) (CS ⟨x,rfl,CS (q _ ⟨_,EX _ e1<|Obj.isFreed_of_fields<|Kc e3 _,(Obj.cls_mapFields ..).trans e2,(by rw[Kc e3];simp[rawInt])⟩<|Ek ..)⟩))
theorem nM{j a:Addr}{k:Nat}{us:Array CU}{Q:CU->CV->Prop}(hh:A.handled=none)(g:s.heap.IsTupleIter j a k)(ga:s.heap.IsTuple a us)(gx:us[k]? =none)
  (q:∀h' e,Gv j s.heap h'->(∃o,h'.get? e=some o/\o.cls=.type "StopIteration")->E (.ref e) {s with heap:=h'}):wpAny (model P w) A (Du<|.ref j) Q E s:=by
 obtain⟨ob,e1,e2,e3⟩:=id g;obtain⟨ot,f1,_,nn,f3⟩:=ga;unfold Du;refine CN<|E4 (name:=CY "__next__") g.typeIs F7<|DU F7 g.typeIs H0 ?_<|GS _;show wpAny (model P w) _ (field (.ref j) 0>>=_) _ _ s;refine CN<|E7 e1 e3 (x:=.ref a) rfl ?_;show wpAny (model P w) _ (if(Eg a==En)=true then _ else _) _ _ s;rw[if_neg (show ¬((Eg a==En)=true)from Dg)];show wpAny (model P w) _ (field (.ref j) 1>>=_) _ _ s;refine CN<|E7 e1 e3 (x:=.int k 0) rfl ?_;show wpAny (model P w) _ (seqItems? (.ref a)>>=_) _ _ s;refine CN<|E2 f1 f3 ?_;simp only[Ew,gx];refine CN (Fe (CN (FY e1 e3 (by simp) ?_)));show wpAny (model P w) _ (newExc (.type "StopIteration") []>>=_) _ _ _;refine CN ?_;simp only[newExc,newTuple];refine CN (Ec (CN (m:=firstArgMember _ _) (JN (a:=En) (by first|rfl|(simp only[firstArgMember];rfl)) (Ec ?_ (by size_fits)))) (by size_fits));simp only[raiseNew];refine CN<|JY ?_
 first|rw[show A.in1.handled=none from hh]|rw[hh]
 exact CN<|CS<|KZ<|q _ _ (((Ek ..).extBut.push _).push _) ⟨_,D6 _ rfl,rfl⟩
theorem ue(hh:A.handled=none)(j a:Addr)(ne:a≠j)(us:Array CU):Jl P w A j [j,a] us.size (fun k v=>us[k]? =some v) (fun k h=>h.IsTupleIter j a k/\h.IsTuple a us) where
 live:=fun _ _ st=>by obtain⟨⟨o,e,_⟩,_⟩:=st;exact⟨o,e⟩
 frame:=fun _ _ _ st hk=>⟨st.1.at fun o e=>hk j (by simp) o e,by obtain⟨o,e,r⟩:=st.2;exact⟨o,hk a (by simp) o e,r⟩⟩
 item:=fun k s Q E hk st q=>mG st.1 st.2 (x:=us[k]) (by simp[hk]) fun h' g' sb=>q _ h' s.toks (by simp[hk]) ⟨g',by obtain⟨o,e,r⟩:=st.2;exact⟨o,(sb.2 a ne).trans e,r⟩⟩ sb
 done:=fun s Q E st q=>nM hh st.1 st.2 (by simp) q
theorem Src.draws{X:Cx}{pins:List (Addr×Obj)}{σ:St}{H:Hp}{s0:CV}{c:Src}{xs:List V}{it:Addr}{i:Nat}(hh:A.handled=none)(I:Inv X pins σ H s0)(hs:c.has X.K H xs)(ht:c.at it i s0.heap)(hit:H it=none):
  ∃(fp:List Addr)(Pt:Nat->CU->Prop)(St:Nat->Heap->Prop),Jl X.prog X.w A it fp xs.length Pt St/\St i s0.heap/\(∀k v,Pt k v-> ∃x,xs[k]? =some x/\RelV x v)/\(∀k h,St k h->c.at it k h)/\it∈fp/\
   ∀b∈fp,b=it\/H b≠none\/∃o,X.base.get? b=some o:=by
 cases c with
 |lst a=>
  obtain⟨its,rv,p,hz⟩:=I.list hs;have ne:a≠it:=fun z=>by
   obtain⟨o,e,c1,_⟩:=(show s0.heap.IsListIter it a i from ht)
   obtain⟨o2,e2,c2,_⟩:=p.isList;rw[z,e]at e2;cases e2;rw[c1]at c2;exact absurd c2 (by decide)
  have dr:=Draws.list (prog:=X.prog) (w:=X.w) hh it a ne its.toArray;rw[Dm,<-rv.length]at dr;refine⟨_,_,_,dr,⟨ht,p.isList⟩,fun k v e=>?_,fun k h st=>st.1,by simp,fun b hb=>?_⟩
  ·have e:its[k]? =some v:=by simpa using e
   have hk:k<xs.length:=by rw[rv.length];exact(D5.mp e).1
   obtain⟨u,hu,ru⟩:=rv.get (i:=k) (x:=xs[k]) (by simp[hk]);rw[e]at hu;cases hu;exact⟨_,by simp[hk],ru⟩
  ·rcases Dh.mp hb with z | z;·exact .inl z
   ·have z:b=a:=by simpa using z
    subst z;rcases (show SqL X.K H b xs from hs)with(z|⟨o,z⟩)|⟨o,_,_,z,_⟩
    ·exact .inr (.inl (by rw[z];simp))
    ·exact .inr (.inl (by rw[z];simp))
    ·exact .inr<|.inr ⟨_,I.mod.kin _ _ z⟩
 |tup a=>
  obtain⟨its,rv,p,hz⟩:=I.tuple hs;have p:s0.heap.IsTuple a its.toArray:=p;have ne:a≠it:=fun z=>by
   obtain⟨o,e,c1,_⟩:=(show s0.heap.IsTupleIter it a i from ht)
   obtain⟨o2,e2,c2,_⟩:=id p;rw[z,e]at e2;cases e2;rw[c1]at c2;exact absurd c2 (by decide)
  have dr:=ue (P:=X.prog) (w:=X.w) hh it a ne its.toArray;rw[Dm,<-rv.length]at dr;refine⟨_,_,_,dr,⟨ht,p⟩,fun k v e=>?_,fun k h st=>st.1,by simp,fun b hb=>?_⟩
  ·have e:its[k]? =some v:=by simpa using e
   have hk:k<xs.length:=by rw[rv.length];exact(D5.mp e).1
   obtain⟨u,hu,ru⟩:=rv.get (i:=k) (x:=xs[k]) (by simp[hk]);rw[e]at hu;cases hu;exact⟨_,by simp[hk],ru⟩
  ·rcases Dh.mp hb with z | z;·exact .inl z
   ·have z:b=a:=by simpa using z
    subst z;rcases (show SqT X.K H b xs from hs)with(z|⟨o,z⟩)|⟨o,_,_,z,_⟩
    ·exact .inr (.inl (by rw[z];simp))
    ·exact .inr (.inl (by rw[z];simp))
    ·exact .inr<|.inr ⟨_,I.mod.kin _ _ z⟩
 |str l=>
  have hs:xs=l.map fun c=>Ho (aM [c]):=hs;obtain⟨t,ht⟩:=(show ∃t,s0.heap.IsStrIter it "str_ascii_iterator" (aM l) t i\/s0.heap.IsStrIter it "str_iterator" (aM l) t i from ht)
  have hn:(aM l).cps.size=xs.length:=by rw[hs];simp[aM]
  have sg:∀(k:Nat)(v:CU),(∃c u,(aM l).cps[k]? =some c/\v=.str ⟨#[c]⟩ u)->∃x,xs[k]? =some x/\RelV x v:=fun k v⟨c,u,e,ev⟩=>by
   have e:l[k]? =some c:=by simpa [aM] using e
   exact⟨.str<|aM [c],by rw[hs];simp[e],⟨u,ev⟩⟩
  rcases ht with ht|ht;·exact⟨_,_,_,hn▸Draws.strAscii hh it (aM l) t,ht,sg,fun k h st=>⟨t,.inl st⟩,by simp,fun b hb=>.inl (by simpa using hb)⟩
  ·exact⟨_,_,_,hn▸Draws.strWide hh it (aM l) t,ht,sg,fun k h st=>⟨t,.inr st⟩,by simp,fun b hb=>.inl (by simpa using hb)⟩
end
def eT(v:CU)(h:Heap)(o:Obj):Prop:=∀(prog:Dj)(w:Dp)(A:DS)(E:CU->CV->Prop)(Q:CU->CV->Prop)(s:CV),s.heap=h->Q (.ref h.objs.size) {s with heap:=h.push o}->wpAny (model prog w) A (pyIter v) Q E s
def Ad(h:Heap)(o1 o2:Obj):Heap:=((h.push o1).push o2).push {cls:=.type "tuple",data:=.seq #[.ref h.objs.size,.ref (h.push o1).objs.size]}
def Ae(h:Heap)(o1 o2:Obj):Heap:=(Ad h o1 o2).push {cls:=.type "tuple",data:=.seq #[.none,.none]}
def zK(h:Heap)(o1 o2:Obj):Heap:=(Ae h o1 o2).push {cls:=.type "zip",data:=.fields #[.none,.bool false,.bool false,.ref ((h.push o1).push o2).objs.size,.ref (Ad h o1 o2).objs.size]}
theorem mH(v1 v2:CU)(o1 o2:Obj):Meets (EI.«zip.__new__» ⟨[.type "zip",v1,v2],[]⟩) (fun _ R s=>eT v1 s.heap o1/\eT v2 (s.heap.push o1) o2/\R (.ok<|.ret<|.ref (Ae s.heap o1 o2).objs.size) {s with heap:=zK s.heap o1 o2}):=
 .of_wp fun prog w A R s h=>by
  obtain⟨hp,g,d,tk,os⟩:=s;obtain⟨i1,i2,h⟩:=h;have hsub:=sub_zip;have j1:=fun(A:DS)(E:CU->CV->Prop)(Q:CU->CV->Prop)(q:Q _ _)=>i1 prog w A E Q ⟨hp,g,d,tk,os⟩ rfl q;have j2:=fun(A:DS)(E:CU->CV->Prop)(Q:CU->CV->Prop)(q:Q _ _)=>i2 prog w A E Q ⟨hp.push o1,g,d,tk,os⟩ rfl q
  wp_walk using j1 _ _ _,j2 _ _ _
  exact⟨_,rfl,h⟩
theorem sq{P:Dj}{w:Dp}{A:DS}{E:CU->CV->Prop}{s:CV}{v1 v2:CU}{o1 o2:Obj}{Q:CU->CV->Prop}(i1:eT v1 s.heap o1)(i2:eT v2 (s.heap.push o1) o2)
  (f1:o1.isFreed=false) (f2:o2.isFreed=false)
  (q:∀h',G7 h' (s.heap.objs.size+4) (s.heap.objs.size+2) (s.heap.objs.size+3) .none->GU h' (s.heap.objs.size+2) (.ref s.heap.objs.size) (.ref<|s.heap.objs.size+1)->GU h' (s.heap.objs.size+3) .none .none->
   h'.get? s.heap.objs.size=some o1->h'.get? (s.heap.objs.size+1)=some o2->(∀c o,s.heap.get? c=some o->h'.get? c=some o)->Q (.ref (s.heap.objs.size+4)) {s with heap:=h'}):
  wpAny (model P w) A (call (.type "zip") [v1,v2]) Q E s:=by
 refine callType_new Kd (by decide) (PySem.F.typeCall_zip_2 _ _) (PySem.F.newCall_zip_2 _ _) (fun obj=>PySem.F.args_object_init_3 obj _ _) Jt (mH v1 v2 o1 o2) ⟨i1,i2,?_⟩;have z1:(s.heap.push o1).objs.size=s.heap.objs.size+1:=E8 ..;have z2:((s.heap.push o1).push o2).objs.size=s.heap.objs.size+2:=by rw[E8,z1]
 have z3:(Ad s.heap o1 o2).objs.size=s.heap.objs.size+3:=by unfold Ad;rw[E8,z2]
 have z4:(Ae s.heap o1 o2).objs.size=s.heap.objs.size+4:=by unfold Ae;rw[E8,z3]
 have g5:(zK s.heap o1 o2).get? (Ae s.heap o1 o2).objs.size=some _:=D6 _ rfl;have g4:(zK s.heap o1 o2).get? (Ad s.heap o1 o2).objs.size=some _:=CQ _<|D6 _ rfl;have g3:(zK s.heap o1 o2).get? ((s.heap.push o1).push o2).objs.size=some _:=CQ _<|CQ _<|D6 _ rfl;have g2:(zK s.heap o1 o2).get? (s.heap.push o1).objs.size=some o2:=CQ _<|CQ _<|CQ _<|D6 _ f2;have g1:(zK s.heap o1 o2).get? s.heap.objs.size=some o1:=CQ _<|CQ _<|CQ _<|CQ _<|D6 _ f1;show _/\_;rw[z2,z3,z4]at g5;rw[z1,z2]at g3;rw[z3]at g4;rw[z1]at g2;rw[z4];exact⟨⟨_,g5,rfl⟩,q _ g5 g3 g4 g1 g2 fun c o x=>CQ _<|CQ _<|CQ _<|CQ _<|CQ _ x⟩
theorem Src.iter{X:Cx}{pins:List (Addr×Obj)}{σ:St}{H:Hp}{s:CV}{c:Src}{xs:List V}{v:CU}{h:Heap}(I:Inv X pins σ H s)(hs:c.has X.K H xs)(rv:RelV c.val v)(k:∀b o,s.heap.get? b=some o->h.get? b=some o):
  ∃o,eT v h o/\o.isFreed=false/\(∀h':Heap,h'.get? h.objs.size=some o->c.at h.objs.size 0 h'):=by
 cases c with
 |lst a=>
  obtain⟨its,r,p,hz⟩:=I.list hs;cases (show v=.ref a from rv);obtain⟨o,e,r2⟩:=p.isList;refine⟨{cls:=.type "list_iterator",data:=.fields #[.ref a,.int 0 0]},fun prog w A E Q s' e' q=>?_,rfl,fun h' e'=>⟨_,e',rfl,rfl⟩⟩;subst e';exact IA ⟨o,k a o e,r2⟩ q
 |tup a=>
  obtain⟨its,r,p,hz⟩:=I.tuple hs;cases (show v=.ref a from rv);obtain⟨o,e,r2⟩:=p;refine⟨{cls:=.type "tuple_iterator",data:=.fields #[.ref a,.int 0 0]},fun prog w A E Q s' e' q=>?_,rfl,fun h' e'=>⟨_,e',rfl,rfl⟩⟩;subst e';exact wpAny_pyIter_tuple ⟨o,k a o e,r2⟩ q
 |str l=>
  obtain⟨t,rfl⟩:=(show ∃t,v=.str (aM l) t from rv)
  cases ha:(aM l).cps.all (· <128);·exact⟨{cls:=.type "str_iterator",data:=.fields #[.str (aM l) t,.int 0 0]},fun prog w A E Q s' e' q=>by subst e';exact Ko ha q,rfl,fun h' e'=>⟨t,.inr ⟨_,e',rfl,rfl⟩⟩⟩
  ·exact⟨{cls:=.type "str_ascii_iterator",data:=.fields #[.str (aM l) t,.int 0 0]},fun prog w A E Q s' e' q=>by subst e';exact Ka ha q,rfl,fun h' e'=>⟨t,.inl ⟨_,e',rfl,rfl⟩⟩⟩
section
variable{P:Dj}{w:Dp}{A:DS}{E:CU->CV->Prop}{s:CV}{z TI TO i1 i2:Addr}{fp1 fp2:List Addr}{n1 n2 k:Nat}{P1 P2:Nat->CU->Prop}{S1 S2:Nat->Heap->Prop}{a b:CU}
structure ZApart(z TI TO i1 i2:Addr)(fp1 fp2:List Addr):Prop where
 c1:TI≠z
 c2:TO≠z
 c3:i1≠z
 c4:i2≠z
 c5:TI≠TO
 c6:TI≠i1
 c7:TI≠i2
 c8:TO≠i1
 c9:TO≠i2
 d1:z∉fp1/\TO∉fp1/\i2∉fp1
 d2:z∉fp2/\TO∉fp2/\i1∉fp2
theorem ar{n:Nat}{it:Addr}{fp:List Addr}{Pt:Nat->CU->Prop}{S:Nat->Heap->Prop}(D:Jl P w A it fp n Pt S){j:Nat}{h h':Heap}{c:Addr}(st:S j h)(sb:Dl c h h')(hc:c∉fp):S j h':=
 D.frame _ _ _ st fun b hb o e=>(sb.2 b fun q=>hc<|q▸hb).trans e
theorem sr{Q:Option CU->CV->Prop}(D1:Jl P w A.in1 i1 fp1 n1 P1 S1)(D2:Jl P w A.in1 i2 fp2 n2 P2 S2)(Z:ZApart z TI TO i1 i2 fp1 fp2)(h1:k<n1)(h2:k<n2)(hz:G7 s.heap z TI TO .none)
  (hI:GU s.heap TI (.ref i1) (.ref i2)) (hO:GU s.heap TO a b) (t1:S1 k s.heap) (t2:S2 k s.heap)
  (q:∀x y h' tk T,P1 k x->P2 k y->T=s.heap.objs.size->G7 h' z TI TO (rawInt T)->GU h' TO x y->S1 (k+1) h'->S2 (k+1) h'->GU h' T x y->
   (∀c o,c≠z->c≠TO->c≠i1->c≠i2->s.heap.get? c=some o->h'.get? c=some o)->Q (some (.ref T)) {s with heap:=h',toks:=tk}):
  wpAny (model P w) A (pyNext<|.ref z) Q E s:=by
 have hT:s.TypeIs (.ref z) "zip":=⟨_,hz,rfl⟩
 unfold pyNext;refine CN<|FC<|E4 (name:=CY "__next__") hT EE<|DU EE hT Ge ?_<|FZ _;obtain⟨hp,gg,dd,tk0,os⟩:=s;show wpAny (model P w) _ (field (.ref z) 2>>=_) _ _ _;refine CN<|E7 hz rfl (x:=.bool false) rfl ?_;show wpAny (model P w) _ (field (.ref z) 3>>=_) _ _ _;refine CN<|E7 hz rfl (x:=.ref TI) rfl<|CN<|E2 hI rfl ?_;show wpAny (model P w) _ (DK (.ref z)>>=_) _ _ _;refine CN ?_;unfold DK;refine CN<|E7 hz rfl (x:=.none) rfl<|CS ?_;simp only[if_true];refine CN (Fe (CN (E7 hz rfl (x:=.ref TO) rfl (CN (E5 hz (by simp) fun g1 y1 b1=>?_)))));replace y1:G7 g1 z TI TO .ellipsis:=y1;replace b1:Dl z hp g1:=b1;refine CN ?_;simp only[GD,HM,GO,Hd];refine CN<|CN<|Fm ?_;show wpAny (model P w) _ (Du (.ref i1)>>=_) _ _ _;refine CN<|D1.item k _ _ _ h1 (ar D1 t1 b1 Z.d1.1) fun x g2 tk2 px u1 b2=>CS ?_;replace b2:Dl i1 g1 g2:=b2;have O2:GU g2 TO a b:=b2.extBut _ _ Z.c8<|b1.extBut _ _ Z.c2 hO;refine CN<|E2 O2 rfl<|CN<|HB O2 fun g3 O3 b3=>?_;replace O3:GU g3 TO x b:=O3;replace b3:Dl TO g2 g3:=b3;refine CN<|Gw<|CS<|CN<|CN<|Fm ?_;show wpAny (model P w) _ (Du (.ref i2)>>=_) _ _ _;refine CN<|D2.item k _ _ _ h2 (ar D2 (ar D2 (ar D2 t2 b1 Z.d2.1) b2 Z.d2.2.2) b3 Z.d2.2.1) fun y g4 tk4 py u2 b4=>CS ?_;replace b4:Dl i2 g3 g4:=b4;have O4:GU g4 TO x b:=b4.extBut _ _ Z.c9 O3;refine CN<|E2 O4 rfl<|CN<|HB O4 fun g5 O5 b5=>?_;replace O5:GU g5 TO x y:=O5;replace b5:Dl TO g4 g5:=b5;refine CN<|Gw<|CS<|CS<|CN<|E2 O5 rfl<|CN<|JO ?_;have sz:g5.objs.size=hp.objs.size:=by rw[b5.1,b4.1,b3.1,b2.1,b1.1]
 have y5:G7 g5 z TI TO .ellipsis:=b5.extBut _ _ Z.c2.symm<|b4.extBut _ _ Z.c4.symm<|b3.extBut _ _ Z.c2.symm<|b2.extBut _ _ Z.c3.symm y1;have k5:∀c o,c≠z->c≠TO->c≠i1->c≠i2->hp.get? c=some o->g5.get? c=some o:=fun c o e1 e2 e3 e4 e=>b5.extBut _ _ e2<|b4.extBut _ _ e4<|b3.extBut _ _ e2<|b2.extBut _ _ e3<|b1.extBut _ _ e1 e;have v1:S1 (k+1) g5:=ar D1 (ar D1 (ar D1 u1 b3 Z.d1.2.1) b4 Z.d1.2.2) b5 Z.d1.2.1;have v2:S2 (k+1) g5:=ar D2 u2 b5 Z.d2.2.1;have lz:z<g5.objs.size:=Dc y5;show wpAny (model P w) _ (ES (.ref z) (.ref g5.objs.size)>>=_) _ _ _;refine CN ?_;unfold ES;have y6:G7 (g5.push {cls:=.type "tuple",data:=.seq #[x,y]}) z TI TO .ellipsis:=CQ _ y5;refine CN (E5 y6 (by simp) fun g7 y7 b7=>?_);replace y7:G7 g7 z TI TO (rawInt g5.objs.size):=y7;replace b7:Dl z (g5.push {cls:=.type "tuple",data:=.seq #[x,y]}) g7:=b7;refine E5 y7 (by simp) fun g8 y8 b8=>?_;replace y8:G7 g8 z TI TO (rawInt g5.objs.size):=y8;replace b8:Dl z g7 g8:=b8;have up:∀c o,c≠z->g5.get? c=some o->g8.get? c=some o:=fun c o e1 e=>b8.extBut _ _ e1<|b7.extBut _ _ e1<|CQ _ e;have T8:GU g8 g5.objs.size x y:=b8.extBut _ _ (G9 lz)<|b7.extBut _ _ (G9 lz)<|D6 _ rfl;refine CS ⟨_,rfl,CS<|q x y g8 _ g5.objs.size px py sz y8 (up _ _ Z.c2 O5) (D1.frame _ _ _ v1 fun b hb o e=>up b o (fun q=>Z.d1.1<|q▸hb) e) (D2.frame _ _ _ v2 fun b hb o e=>up b o (fun q=>Z.d2.1<|q▸hb) e) T8 fun c o e1 e2 e3 e4 e=>up c o e1<|k5 c o e1 e2 e3 e4 e⟩
theorem uf{Q:Option CU->CV->Prop}(hh:A.handled=none)(D1:Jl P w A.in1 i1 fp1 n1 P1 S1)(D2:Jl P w A.in1 i2 fp2 n2 P2 S2)(Z:ZApart z TI TO i1 i2 fp1 fp2)(hk:k=n1\/(k<n1/\k=n2))(hz:G7 s.heap z TI TO .none)
  (hI:GU s.heap TI (.ref i1) (.ref i2)) (hO:GU s.heap TO a b) (t1:S1 k s.heap) (t2:S2 k s.heap)
  (q:∀h' tk,(∀c o,c≠z->c≠TO->c≠i1->c≠i2->s.heap.get? c=some o->h'.get? c=some o)->Q none {s with heap:=h',toks:=tk}):
  wpAny (model P w) A (pyNext<|.ref z) Q E s:=by
 have hT:s.TypeIs (.ref z) "zip":=⟨_,hz,rfl⟩
 unfold pyNext;refine CN<|FC<|E4 (name:=CY "__next__") hT EE<|DU EE hT Ge ?_<|FZ _;obtain⟨hp,gg,dd,tk0,os⟩:=s;show wpAny (model P w) _ (field (.ref z) 2>>=_) _ _ _;refine CN<|E7 hz rfl (x:=.bool false) rfl ?_;show wpAny (model P w) _ (field (.ref z) 3>>=_) _ _ _;refine CN<|E7 hz rfl (x:=.ref TI) rfl<|CN<|E2 hI rfl ?_;show wpAny (model P w) _ (DK (.ref z)>>=_) _ _ _;refine CN ?_;unfold DK;refine CN<|E7 hz rfl (x:=.none) rfl<|CS ?_;simp only[if_true];refine CN (Fe (CN (E7 hz rfl (x:=.ref TO) rfl (CN (E5 hz (by simp) fun g1 y1 b1=>?_)))));replace y1:G7 g1 z TI TO .ellipsis:=y1;replace b1:Dl z hp g1:=b1;refine CN ?_;simp only[GD,HM,GO,Hd];refine CN<|CN<|Fm ?_;show wpAny (model P w) _ (Du (.ref i1)>>=_) _ _ _;rcases hk with hk|⟨hk1,hk2⟩
 ·subst hk;refine CN<|D1.done _ _ _ (ar D1 t1 b1 Z.d1.1) fun g2 e b2 he=>?_;obtain⟨oe,hoe,hce⟩:=he;replace b2:Gv i1 g1 g2:=b2;have y2:G7 g2 z TI TO .ellipsis:=b2 _ _ Z.c3.symm y1;have ez:e≠z:=fun x=>by subst x;rw[y2]at hoe;cases hoe;simp at hce
  refine E5 y2 (by simp) fun g3 _ b3=>?_;exact CN<|Ff (T:="StopIteration") (b:=true) ⟨oe,b3.extBut _ _ ez hoe,hce⟩ G0<|CS<|q g3 _ fun c o e1 _ e3 _ x=>b3.extBut _ _ e1<|b2 _ _ e3<|b1.extBut _ _ e1 x
 ·subst hk2;refine CN<|D1.item k _ _ _ hk1 (ar D1 t1 b1 Z.d1.1) fun x g2 tk2 px u1 b2=>CS ?_;replace b2:Dl i1 g1 g2:=b2;have O2:GU g2 TO a b:=b2.extBut _ _ Z.c8<|b1.extBut _ _ Z.c2 hO;refine CN<|E2 O2 rfl<|CN<|HB O2 fun g3 O3 b3=>?_;replace b3:Dl TO g2 g3:=b3;refine CN<|Gw<|CS<|CN<|CN<|Fm ?_;show wpAny (model P w) _ (Du (.ref i2)>>=_) _ _ _;refine CN<|D2.done _ _ _ (ar D2 (ar D2 (ar D2 t2 b1 Z.d2.1) b2 Z.d2.2.2) b3 Z.d2.2.1) fun g4 e b4 he=>?_;obtain⟨oe,hoe,hce⟩:=he;replace b4:Gv i2 g3 g4:=b4;have y4:G7 g4 z TI TO .ellipsis:=b4 _ _ Z.c4.symm<|b3.extBut _ _ Z.c2.symm<|b2.extBut _ _ Z.c3.symm y1;have ez:e≠z:=fun x=>by subst x;rw[y4]at hoe;cases hoe;simp at hce
  refine E5 y4 (by simp) fun g5 _ b5=>?_;exact CN<|Ff (T:="StopIteration") (b:=true) ⟨oe,b5.extBut _ _ ez hoe,hce⟩ G0<|CS<|q g5 _ fun c o e1 e2 e3 e4 x=>b5.extBut _ _ e1<|b4 _ _ e4<|b3.extBut _ _ e2<|b2.extBut _ _ e3<|b1.extBut _ _ e1 x
end
def Af(K:CT)(c1 c2:Src):It:=
  ⟨fun i H=>∃xs ys x y,c1.has K H xs/\c2.has K H ys/\xs[i]? =some x/\ys[i]? =some y,
   fun i H v H'=>∃p x y,H p=none/\v=.ref p/\(∀xs,c1.has K H xs->xs[i]? =some x)/\(∀ys,c2.has K H ys->ys[i]? =some y)/\H'=cZ H p (.tup [x,y]),
   fun i H=>∃xs ys,c1.has K H xs/\c2.has K H ys/\(i=xs.length\/(i<xs.length/\i=ys.length))⟩
theorem Src.inj{X:Cx}{pins:List (Addr×Obj)}{σ:St}{H:Hp}{s:CV}{c:Src}{xs ys:List V}(I:Inv X pins σ H s)(h1:c.has X.K H xs)(h2:c.has X.K H ys):xs=ys:=by
 cases c with
 |lst a=>exact I.list_inj h1 h2
 |tup a=>exact I.tuple_inj h1 h2
 |str l=>exact Eq.trans h1<|Eq.symm h2
theorem Src.at_keep{c:Src}{it:Addr}{i:Nat}{h h':Heap}(st:c.at it i h)(k:∀o,h.get? it=some o->h'.get? it=some o):c.at it i h':=by
 cases c with
 |lst a=>obtain⟨o,e,r⟩:=st;exact⟨o,k o e,r⟩
 |tup a=>obtain⟨o,e,r⟩:=st;exact⟨o,k o e,r⟩
 |str l=>
  obtain⟨t,st⟩:=st;rcases st with⟨o,e,r⟩|⟨o,e,r⟩
  ·exact⟨t,.inl ⟨o,k o e,r⟩⟩
  ·exact⟨t,.inr ⟨o,k o e,r⟩⟩
theorem Src.at_obj{c:Src}{it:Addr}{i:Nat}{h:Heap}(st:c.at it i h):∃o,h.get? it=some o/\∃vs,o.data=.fields vs:=by
 cases c with
 |lst a=>obtain⟨o,e,_,r⟩:=st;exact⟨o,e,_,r⟩
 |tup a=>obtain⟨o,e,_,r⟩:=st;exact⟨o,e,_,r⟩
 |str l=>
  obtain⟨t,st⟩:=st;rcases st with⟨o,e,_,r⟩|⟨o,e,_,r⟩
  ·exact⟨o,e,_,r⟩
  ·exact⟨o,e,_,r⟩
def C0(c1 c2:Src)(z TI TO i1 i2:Addr)(i:Nat)(h:Heap):Prop:=G7 h z TI TO .none/\GU h TI (.ref i1) (.ref i2)/\(∃a b,GU h TO a b)/\c1.at i1 i h/\c2.at i2 i h
structure ZIds(z TI TO i1 i2:Addr):Prop where
 c1:TI≠z
 c2:TO≠z
 c3:i1≠z
 c4:i2≠z
 c5:TI≠TO
 c6:TI≠i1
 c7:TI≠i2
 c8:TO≠i1
 c9:TO≠i2
 c10:i1≠i2
theorem ug{X:Cx}{pins:List (Addr×Obj)}{σ:St}{H:Hp}{s:CV}{z TI TO i1 i2:Addr}{fp1 fp2:List Addr}(I:Inv X pins σ H s)(Z:ZIds z TI TO i1 i2)(hf:∀b∈[z,TI,TO,i1,i2],FpOk X pins H b)
  (g1:∀b∈fp1,b=i1\/H b≠none\/∃o,X.base.get? b=some o) (g2:∀b∈fp2,b=i2\/H b≠none\/∃o,X.base.get? b=some o):ZApart z TI TO i1 i2 fp1 fp2:=by
 have no:∀b∈[z,TI,TO,i1,i2],¬(H b≠none\/∃o,X.base.get? b=some o):=fun b hb q=>by
  rcases q with q|⟨o,q⟩
  ·exact q (hf b hb).1
  ·rcases (hf b hb).2.2.2.1 with y | y;·exact I.ok.noex b o q y
   ·exact absurd (D8 (D8 (Dc q) I.ok.bsz) y)<|Eu _
 refine⟨Z.c1,Z.c2,Z.c3,Z.c4,Z.c5,Z.c6,Z.c7,Z.c8,Z.c9,⟨fun m=>?_,fun m=>?_,fun m=>?_⟩,⟨fun m=>?_,fun m=>?_,fun m=>?_⟩⟩;·exact(g1 _ m).elim (fun e=>Z.c3 e.symm) (no z (by simp))
 ·exact(g1 _ m).elim (fun e=>Z.c8 e) (no TO (by simp))
 ·exact(g1 _ m).elim (fun e=>Z.c10 e.symm) (no i2 (by simp))
 ·exact(g2 _ m).elim (fun e=>Z.c4 e.symm) (no z (by simp))
 ·exact(g2 _ m).elim (fun e=>Z.c9 e) (no TO (by simp))
 ·exact(g2 _ m).elim (fun e=>Z.c10 e) (no i1 (by simp))
theorem uh{P:Dj}{w:Dp}{K:CT}{elts:List Expr}{kk:Nat}{tp:Pos}(c1 c2:Src)(z TI TO i1 i2:Addr)(Z:ZIds z TI TO i1 i2):
  Turn P w K (.Tuple elts kk tp) (Af K c1 c2) [z,TI,TO,i1,i2] z (C0 c1 c2 z TI TO i1 i2) where
 mem:=by simp
 obj:=fun i h st b hb=>by
  obtain⟨hz,hI,⟨a,b',hO⟩,t1,t2⟩:=st;obtain⟨o1,e1,v1,d1⟩:=Src.at_obj t1;obtain⟨o2,e2,v2,d2⟩:=Src.at_obj t2;simp only[Dh,DP,or_false]at hb;rcases hb with rfl|rfl|rfl|rfl|rfl;·exact⟨_,hz,fun v q=>by cases (show Hz _=Gm v from q)⟩
  ·exact⟨_,hI,fun v q=>by cases (show JK _ _=Gm v from q)⟩
  ·exact⟨_,hO,fun v q=>by cases (show JK _ _=Gm v from q)⟩
  ·exact⟨_,e1,fun v q=>by rw[d1]at q;cases q⟩
  ·exact⟨_,e2,fun v q=>by rw[d2]at q;cases q⟩
 keep:=fun i h h' st k=>by
  obtain⟨hz,hI,⟨a,b',hO⟩,t1,t2⟩:=st;exact⟨k z (by simp) _ hz,k TI (by simp) _ hI,⟨a,b',k TO (by simp) _ hO⟩,Src.at_keep t1 (k i1 (by simp)),Src.at_keep t2 (k i2 (by simp))⟩
 item:=by
  intro X hP hw hK hc i pins s σ H E I hf st hg;subst hP hw hK;obtain⟨xs,ys,x,y,hx,hy,ex,ey⟩:=hg;obtain⟨hz,hI,⟨a,b',hO⟩,t1,t2⟩:=st;have hh:X.A.in1.handled=none:=I.ok.hd hc;obtain⟨fp1,P1,S1,D1,u1,r1,a1,_,g1⟩:=Src.draws (A:=X.A.in1) hh I hx t1 (hf i1 (by simp)).1;obtain⟨fp2,P2,S2,D2,u2,r2,a2,_,g2⟩:=Src.draws (A:=X.A.in1) hh I hy t2 (hf i2 (by simp)).1;have ZA:=ug I Z hf g1 g2;refine sr D1 D2 ZA (D5.mp ex).1 (D5.mp ey).1 hz hI hO u1 u2 fun vx vy h' tk T px py hT hz' hO' w1 w2 hTp kp=>?_;obtain⟨x',ex',rx⟩:=r1 i vx px;obtain⟨y',ey',ry⟩:=r2 i vy py;rw[ex]at ex';cases ex';rw[ey]at ey';cases ey';have nT:H T=none:=by rw[hT];exact I.hok.fresh<|D0 _
  refine⟨_,rfl,Iq hz' fun h2 hz2 sb=>?_⟩;have lt:∀{c o},s.heap.get? c=some o->c≠T:=fun e=>by rw[hT];exact Dv<|Dc e
  have up:∀c o,c≠z->h'.get? c=some o->h2.get? c=some o:=fun c o hc e=>(sb.2 c hc).trans e;have kp2:∀b o,b∉[z,TO,i1,i2]->s.heap.get? b=some o->h2.get? b=some o:=fun b o hb e=>by
   simp only[Dh,DP,or_false,not_or]at hb;exact up b o hb.1<|kp b o hb.1 hb.2.1 hb.2.2.1 hb.2.2.2 e
  have ch:∀b∈[z,TO,i1,i2],b∈[z,TI,TO,i1,i2]:=fun b hb=>by
   simp only[Dh,DP,or_false]at hb ⊢;rcases hb with h|h|h|h<;>simp[h]
  have gT:∀b u,H b=some u->b∉[z,TO,i1,i2]/\b≠T:=fun b u e=>⟨fun hb=>(by rw[(hf b<|ch b hb).1]at e;cases e),fun q=>(by rw[q,nT]at e;cases e)⟩
  have I2:Inv X pins σ (cZ H T<|.tup [x,y]) {s with heap:=h2,gens:=s.gens,drawn:=s.drawn,toks:=tk}:=by
   refine I.step (g':=s.gens) (d':=s.drawn) (t':=tk) (ch:=[z,TO,i1,i2]) (fun b hb=>⟨(hf b<|ch b hb).2.2.2.1,(hf b<|ch b hb).2.1,(hf b<|ch b hb).2.2.2.2.1,(hf b<|ch b hb).2.2.2.2.2⟩) (fun b o _ _ hb e _=>kp2 b o hb e) (fun b o _ _ hb e _=>⟨o.slots,kp2 b o hb e⟩)
    (fun b o hb e n=>by rw[aw<|lt e];exact n) (fun b o hb e=>⟨o,kp2 b o hb e⟩) (fun b xs e=>by rw[aw (gT b _ e).2];exact e) (fun b o u e=>by rw[aw (gT b _ e).2];exact e) (fun b ps e=>⟨#[],by rw[aw (gT b _ e).2,e];simp⟩) (fun m hm=>?_) (fun b u e=>?_) I.bare
   ·obtain⟨o,es,ep,ho,r⟩:=hm;exact⟨o,es,ep,kp2 _ o (fun hb=>(hf _<|ch _ hb).2.1 rfl) ho,r⟩
   ·by_cases hb:b=T
    ·subst hb;rw[aH]at e;cases e;refine⟨(by show 2<=sizeLine;rw[Ej];decide),[vx,vy],.cons rx<|.cons ry .nil,⟨_,up _ _ ?_ hTp,⟨rfl,rfl⟩,_,rfl⟩⟩;exact fun q=>lt hz q.symm
    ·rw[aw hb]at e;refine(I.hok b u e).stay (fun c v hc q=>kp2 c v ?_ q) (fun c q=>by rw[aw (gT c _ q).2];exact q) fun c xs q=>by rw[aw (gT c _ q).2];exact q
     rcases hc with q|q;·rw[q];exact(gT b u e).1
     ·exact(gT c _ q).1
  refine⟨.ref T,_,I2,rfl,⟨T,x,y,nT,rfl,fun xs' h=>by rw[Src.inj I h hx];exact ex,fun ys' h=>by rw[Src.inj I h hy];exact ey,rfl⟩,⟨hz2,up _ _ Z.c1<|kp _ _ Z.c1 Z.c5 Z.c6 Z.c7 hI,⟨_,_,up _ _ Z.c2 hO'⟩,Src.at_keep (a1 _ _ w1) fun o e=>up _ o Z.c3 e,Src.at_keep (a2 _ _ w2) fun o e=>up _ o Z.c4 e⟩,fun b hb=>?_⟩;have hbT:b≠T:=by
   obtain⟨o,e⟩:∃o,s.heap.get? b=some o:=by
    obtain⟨o1,e1,_⟩:=Src.at_obj t1;obtain⟨o2,e2,_⟩:=Src.at_obj t2;simp only[Dh,DP,or_false]at hb;rcases hb with rfl|rfl|rfl|rfl|rfl;·exact⟨_,hz⟩
    ·exact⟨_,hI⟩
    ·exact⟨_,hO⟩
    ·exact⟨_,e1⟩
    ·exact⟨_,e2⟩
   exact lt e
  rw[aw hbT];exact(hf b hb).1
 done:=by
  intro X hP hw hK hc i pins s σ H E I hf st hg;subst hP hw hK;obtain⟨xs,ys,hx,hy,hend⟩:=hg;obtain⟨hz,hI,⟨a,b',hO⟩,t1,t2⟩:=st;have hh:X.A.in1.handled=none:=I.ok.hd hc;obtain⟨fp1,P1,S1,D1,u1,r1,a1,_,g1⟩:=Src.draws (A:=X.A.in1) hh I hx t1 (hf i1 (by simp)).1;obtain⟨fp2,P2,S2,D2,u2,r2,a2,_,g2⟩:=Src.draws (A:=X.A.in1) hh I hy t2 (hf i2 (by simp)).1;have ZA:=ug I Z hf g1 g2;have ch:∀b∈[z,TO,i1,i2],b∈[z,TI,TO,i1,i2]:=fun b hb=>by
   simp only[Dh,DP,or_false]at hb ⊢;rcases hb with h|h|h|h<;>simp[h]
  refine uf hh D1 D2 ZA hend hz hI hO u1 u2 fun h2 tk kp=>⟨rfl,?_⟩
  have kp2:∀b o,b∉[z,TO,i1,i2]->s.heap.get? b=some o->h2.get? b=some o:=fun b o hb e=>by
   simp only[Dh,DP,or_false,not_or]at hb;exact kp b o hb.1 hb.2.1 hb.2.2.1 hb.2.2.2 e
  refine I.step (g':=s.gens) (d':=s.drawn) (t':=tk) (ch:=[z,TO,i1,i2]) (fun b hb=>⟨(hf b<|ch b hb).2.2.2.1,(hf b<|ch b hb).2.1,(hf b<|ch b hb).2.2.2.2.1,(hf b<|ch b hb).2.2.2.2.2⟩) (fun b o _ _ hb e _=>kp2 b o hb e) (fun b o _ _ hb e _=>⟨o.slots,kp2 b o hb e⟩)
   (fun b o hb e n=>n) (fun b o hb e=>⟨o,kp2 b o hb e⟩) (fun b xs e=>e) (fun b o u e=>e) (fun b ps e=>⟨#[],by rw[e];simp⟩) (fun m hm=>?_) (fun b u e=>?_) I.bare
  ·obtain⟨o,es,ep,ho,r⟩:=hm;exact⟨o,es,ep,kp2 _ o (fun hb=>(hf _<|ch _ hb).2.1 rfl) ho,r⟩
  ·have gT:∀b u,H b=some u->b∉[z,TO,i1,i2]:=fun b u e hb=>by rw[(hf b<|ch b hb).1]at e;cases e
   refine(I.hok b u e).stay (fun c v hc q=>kp2 c v ?_ q) (fun c q=>q) fun c xs q=>q;rcases hc with q|q
   ·rw[q];exact gT b u e
   ·exact gT c _ q
 self:=fun _ _ _ _ _ st h=>Ht st.1 h
theorem jb(n a b:Nat)(h:a≠b): @Ne Nat (n+a) (n+b):=fun e=>h<|Nat.add_left_cancel e
def yW(K:CT)(t:TA):TI:=fun σ H R=>t σ H fun vs H1=>∃c1 c2 xs ys,vs=[c1.val,c2.val]/\c1.has K H1 xs/\c2.has K H1 ys/\R (Af K c1 c2) H1
theorem yX{X:Cx}{a b:Expr}{ta:TA}{p pos tp:Pos}{elts:List Expr}{kk:Nat}(hg:Gl X "zip")(hm:X.mg "zip"=none)(ha:PA X [a,b] ta)
  (hs:starEach [a,b] X.env=[(false,eval a X.env),(false,eval b X.env)]:=by rfl) (hs2:starEach [b] X.env=[(false,eval b X.env)]:=by rfl):PI X (.Tuple elts kk tp) (.Call (.Name "zip" p) [a,b] [] pos) (yW X.K ta):=by
 intro pins s σ H R I h;refine Mm (fM I hg hm boot_zip (Eh (bP (ha pos pins s σ H _ I h) fun us s1⟨vs,H1,I1,r1,q1⟩=>?_) (by rw[hs,hs2]) (by rw[hs2];rfl)));obtain⟨c1,c2,xs,ys,e,h1,h2,q⟩:=q1;subst e;obtain⟨v1,v2,rfl,ra,rb⟩:=yh r1;obtain⟨o1,i1,f1,n1⟩:=Src.iter I1 h1 ra fun _ _ e=>e;obtain⟨o2,i2,f2,n2⟩:=Src.iter (h:=s1.heap.push o1) I1 h2 rb fun _ _ e=>CQ _ e;have z1:(s1.heap.push o1).objs.size=s1.heap.objs.size+1:=E8 ..;rw[z1]at n2;refine sq i1 i2 f1 f2 fun h' hz hI hO e1 e2 kp=>?_;refine Ht hz ?_;have zi:∀n:Nat,ZIds (n+4) (n+2) (n+3) n (n+1):=fun n=>⟨(jb n 2 4 (by decide)),(jb n 3 4 (by decide)),(jb n 0 4 (by decide)),(jb n 1 4 (by decide)),(jb n 2 3 (by decide)),(jb n 2 0 (by decide)),(jb n 2 1 (by decide)),(jb n 3 0 (by decide)),(jb n 3 1 (by decide)),(jb n 0 1 (by decide))⟩
 refine⟨s1.heap.objs.size+4,[s1.heap.objs.size+4,s1.heap.objs.size+2,s1.heap.objs.size+3,s1.heap.objs.size,s1.heap.objs.size+1],_,_,H1,rfl,I1.kept (t':=s1.toks) kp,uh c1 c2 _ _ _ _ _<|zi s1.heap.objs.size,⟨hz,hI,⟨_,_,hO⟩,n1 h' e1,n2 h' e2⟩,fun b hb=>?_,q⟩;have hb':s1.heap.objs.size<=b:=by
  simp only[Dh,DP,or_false]at hb;rcases hb with z|z|z|z|z<;>rw[z]
  ·exact Ep _ 4
  ·exact Ep _ 2
  ·exact Ep _ 3
  ·exact D0 _
  ·exact Ep _ 1
 exact I1.fpOk hb'<|I1.hok.fresh hb'
theorem wK{K:CT}{c1 c2:Src}{xs ys:List V}{g:TG}{tb:TS}{D:Ends}{σ:St}{H:Hp}(Pv:Nat->St->Hp->Prop)(h0:Pv 0 σ H)(hl:∀i σ H,Pv i σ H->c1.has K H xs/\c2.has K H ys)(hn:xs.length=ys.length)
  (hs:∀i x y p σ H,xs[i]? =some x->ys[i]? =some y->H p=none->Pv i σ H->g (.ref p) σ (cZ H p<|.tup [x,y]) fun σ2 H2=>tb {D with nx:=Pv<|i+1,ct:=Pv<|i+1,bk:=D.nx} σ2 H2) (hd:∀σ H,Pv xs.length σ H->D.nx σ H):
  ∃W:Nat->Nat->St->Hp->Prop,(∃m,W 0 m σ H)/\ ∀i m σ H,W i m σ H->
   ((Af K c1 c2).stop i H/\D.nx σ H)\/((Af K c1 c2).go i H/\∃N:St->Hp->Prop,(∀σ' H',N σ' H'->∃m',m'<m/\W (i+1) m' σ' H')/\∀x H',(Af K c1 c2).yld i H x H'->g x σ H' fun σ2 H2=>tb {D with nx:=N,ct:=N,bk:=D.nx} σ2 H2):=by
 refine⟨fun i m σ H=>m=xs.length-i/\i<=xs.length/\Pv i σ H,⟨xs.length,by simp,Dt _,h0⟩,?_⟩;rintro i m σ H ⟨rfl,hi,p⟩;obtain⟨q1,q2⟩:=hl i σ H p;by_cases hlt:i<xs.length
 ·refine .inr ⟨⟨xs,ys,xs[i],ys[i],q1,q2,by simp[hlt],by simp[<-hn,hlt]⟩,Pv<|i+1,fun σ' H' p'=>⟨xs.length- (i+1),by omega,rfl,hlt,p'⟩,fun v H' ⟨a,x,y,na,ev,ex,ey,eh⟩=>?_⟩;subst ev eh;exact hs i x y a σ H (ex xs q1) (ey ys q2) na p
 ·have e:i=xs.length:=by omega
  subst e;exact .inl ⟨⟨xs,ys,q1,q2,.inl rfl⟩,hd σ H p⟩
structure Cal(P:Dj)(w:Dp)(K:CT)(mg:Str->Option CU)(base:Heap)(x:Str)(ps:List Str)(k:Nat)(sp:Sp):Prop where
 ex:∃(f:Addr)(fd:Dr),FnOk P w K mg base CX0 k f fd ps sp/\mg x=some (.ref f)/\FV K (.ref f)=true/\Binds K fd ps []
theorem ui{X:Cx}{x:Str}{ps:List Str}{k:Nat}{sp:Sp}{p pos:Pos}{e:Expr}{es:List Expr}{t:TA}(C:Cal X.prog X.w X.K X.mg X.base x ps k sp)(hr:Room k X.A)(hg:Gl X x)(ha:PA X (e::es) t)
  (hdb:(x==("__debug__" :Str))=false:=by decide) (he:starEach (e::es) X.env=(false,eval e X.env)::starEach es X.env:=by rfl) (hpl:(backTo pos<|starEach es X.env).any (·.1)=false:=by rfl):
  PE X (.Call (.Name x p) (e::es) [] pos) (aT sp [] E0 t):=by
 obtain⟨f,fd,F,hm,hk,hb⟩:=C.ex;exact wC F hr hg hm hk hb .nil Aa ha hdb he hpl
theorem iu{X:Cx}{scope:Gi}{N:List Str}{cap:List (Option Nat)}(kind:scope.kind=.function)(nd:N.Nodup)(len:cap.length=N.length)(uniq:(scope.names.map (·.1)).Nodup)
  (fr:(scope.names.all fun x=>x.2 != .free||(X.env.kindOf x.1==some .cell||X.env.kindOf x.1==some .free))=true)
  (cp:((N.zip cap).all fun p=>match p.2 with|none=>true|some j=>X.N[j]? ==some p.1&&scope.names.contains (p.1,ED))=true):CompScope X scope N cap:=by
 refine⟨kind,nd,len,uniq,fun x hx hk=>?_,fun k x j h1 h2=>?_⟩
 ·have:=G1.mp fr x hx;rw[hk]at this;simpa using this
 ·have hm:(x,some j)∈N.zip cap:=by
   rw[Hk];exact⟨k,by rw[FJ];exact⟨h1,h2⟩⟩
  have:=G1.mp cp _ hm;simpa using this
def flat:V->Bool
 | .non=>true
 | .bl _=>true
 | .int _=>true
 | .str _=>true
 |_=>false
theorem cR{H:Hp}{p:Addr}{o:HO}(h:H p=none):Same H (cZ H p o):=fun b u e=>by rw[aw<|cq e h];exact e
theorem gp(x:String)(l:List Nat)(h:(CY x).cps.toList=l):CY x=aM l:=by rw[u5<|CY x,h]
section
variable{X:Cx}{K:CT}{w:Dp}
theorem aQ(h:X.K=K):zJ X (cC K):=h▸yP
theorem aW(h:X.K=K):zJ X (cw K):=h▸wF
theorem bN(h:X.K=K):fh X (.builtin "len") (fun xs H Q=>∃x n,xs=[x]/\pj K x H n/\Q (.int n) H):=h▸tY
theorem bu(h:X.K=K):fh X (.builtin "isinstance") (fun xs H Q=>∃x T t b,xs=[x,.ty T]/\TyOf K H x t/\Fo K t (.type T)=some b/\Q (.bl b) H):=h▸nJ
theorem uj(h:X.K=K):A8 X "str.join" (fun x xs H Q=>∃(p:Addr)(ys:List (List Nat)),x=.str (aM [])/\xs=[.ref p]/\SqL K H p (ys.map fun y=>Ho<|aM y)/\ys.flatten.length<=100000/\Q (.str<|aM ys.flatten) H):=h▸wJ
theorem uk(h:X.K=K):AR X (cD K):=h▸wG
theorem lH(h:X.K=K)(hw:X.w=w){o i:Expr}{pos:Pos}{td ty:TE}(ho:PE X o td)(hi:PE X i ty)(hs:u0 i):PE X (.Subscript o i pos) (aP K w td ty):=h▸hw▸u6 ho hi hs
theorem bD(h:X.K=K){pos:Pos}{es:List Expr}{k:Nat}{t:ye}{n:Nat}(hc:X.calm=true)(hg:A0 X es t)(hn:(assignEach es X.env).length=n:=by rfl)(hst:(assignEach es X.env).findIdx? (·.1)=none:=by rfl):PG X (.Tuple es k pos) (cu K n t):=h▸yJ hc hg hn hst
theorem cE(h:X.K=K){tg l:Expr}{tl:TE}(hl:PE X l tl):PI X tg l (tU K tl):=h▸wz hl
theorem fS(h:X.K=K){a b:Expr}{ta:TA}{p pos tp:Pos}{elts:List Expr}{kk:Nat}(hg:Gl X "zip")(hm:X.mg "zip"=none)(ha:PA X [a,b] ta)
  (hs:starEach [a,b] X.env=[(false,eval a X.env),(false,eval b X.env)]:=by rfl) (hs2:starEach [b] X.env=[(false,eval b X.env)]:=by rfl):PI X (.Tuple elts kk tp) (.Call (.Name "zip" p) [a,b] [] pos) (yW K ta):=h▸yX hg hm ha hs hs2
theorem pI(h:X.K=K){o e:Expr}{es:List Expr}{to:TE}{t:TA}{name:Str}{apos cpos:Pos}{T id:String}{r:V->List V->Hp->VK->Prop}(pa:PlainAttrs T)(slot:Slot T name id)(hty:typeOf (.builtin id)=pure (.type "method_descriptor"))(hm:A8 X id r)(ho:PE X o to)(ha:PA X (e::es) t)
  (hbase:attributeBase o name X.env (eval o X.env)=eval o X.env:=by rfl)
  (hfew:((backTo cpos<|starEach (e::es) X.env).all (fun x=> !x.1)&&(backToKw cpos<|keywordEach [] X.env).all (fun x=>x.1.isSome)&&decide ((e::es).length+([]:List Jb).length+(if([]:List Jb).isEmpty then 0 else 1)<30))=true:=by rfl)
  (hline:(apos.endLine==cpos.line)=true:=by rfl) (hs:starEach (e::es) X.env=(false,eval e X.env)::starEach es X.env:=by rfl) (hplain:(backTo cpos<|starEach es X.env).any (·.1)=false:=by rfl):
  PE X (.Call (.Attribute o name apos) (e::es) [] cpos) (fj K T r to t):=h▸A9 pa slot hty hm ho ha hbase hfew hline hs hplain
end
def BS(K:CT)(a:Addr):It:=
  ⟨fun i H=>∃xs x,SqL K H a xs/\xs[i]? =some x,
   fun i H v H'=>∃p x,H p=none/\v=.ref p/\(∀xs,SqL K H a xs->xs[i]? =some x)/\H'=cZ H p (.tup [.int i,x]),
   fun i H=>∃xs,SqL K H a xs/\xs.length=i⟩
def C1(a e it:Addr)(i:Nat)(h:Heap):Prop:=(∃old,IsEnum h e it i old)/\h.IsListIter it a i
theorem su{P:Dj}{w:Dp}{K:CT}{elts:List Expr}{kk:Nat}{tp:Pos}(a e it:Addr)(ne:e≠it):Turn P w K (.Tuple elts kk tp) (BS K a) [e,it] e (C1 a e it) where
 mem:=by simp
 obj:=fun i h st b hb=>by
  obtain⟨⟨old,he⟩,t1⟩:=st;obtain⟨o1,e1,v1,d1⟩:=Src.at_obj (c:=.lst a) t1;simp only[Dh,DP,or_false]at hb;rcases hb with rfl|rfl;·exact⟨_,he,fun v q=>by cases (show Hz _=Gm v from q)⟩
  ·exact⟨_,e1,fun v q=>by rw[d1]at q;cases q⟩
 keep:=fun i h h' st k=>by
  obtain⟨⟨old,he⟩,t1⟩:=st;exact⟨⟨old,k e (by simp) _ he⟩,Src.at_keep (c:=.lst a) t1 (k it (by simp))⟩
 item:=by
  intro X hP hw hK hc i pins s σ H E I hf st hg;subst hP hw hK;obtain⟨xs,x,hx,ex⟩:=hg;obtain⟨⟨old,he⟩,t1⟩:=st;have hh:X.A.in1.handled=none:=I.ok.hd hc;obtain⟨fp1,P1,S1,D1,u1,r1,a1,_,g1⟩:=Src.draws (A:=X.A.in1) (c:=.lst a) hh I hx t1 (hf it (by simp)).1;have nof:e∉fp1:=fun m=>by
   rcases g1 e m with q|q|⟨o,q⟩
   ·exact ne q
   ·exact q (hf e (by simp)).1
   ·rcases (hf e (by simp)).2.2.2.1 with y | y;·exact I.ok.noex e o q y
    ·exact absurd (D8 (D8 (Dc q) I.ok.bsz) y)<|Eu _
  refine wpAny_pyNext_enum_itemD D1 he u1 (D5.mp ex).1 ne nof fun vx h' tk px ho w1 hTp hsz kp=>?_;obtain⟨x',ex',rx⟩:=r1 i vx px;rw[ex]at ex';cases ex';have nT:H s.heap.objs.size=none:=I.hok.fresh<|D0 _;refine⟨_,rfl,wpAny_letOwnedTupleGo_enum ho fun h2 he2 sb=>?_⟩;have lt:∀{c o},s.heap.get? c=some o->c≠s.heap.objs.size:=fun e=>Dv<|Dc e;have kp2:∀b o,b∉[e,it]->s.heap.get? b=some o->h2.get? b=some o:=fun b o hb q=>by
   simp only[Dh,DP,or_false,not_or]at hb;exact(sb.2 b hb.1).trans (kp b o hb.1 hb.2 q)
  have gT:∀b u,H b=some u->b∉[e,it]/\b≠s.heap.objs.size:=fun b u q=>⟨fun hb=>(by rw[(hf b hb).1]at q;cases q),fun z=>(by rw[z,nT]at q;cases q)⟩
  have I2:Inv X pins σ (cZ H s.heap.objs.size<|.tup [.int i,x]) {s with heap:=h2,gens:=s.gens,drawn:=s.drawn,toks:=tk+1}:=by
   refine I.step (g':=s.gens) (d':=s.drawn) (t':=tk+1) (ch:=[e,it]) (fun b hb=>⟨(hf b hb).2.2.2.1,(hf b hb).2.1,(hf b hb).2.2.2.2.1,(hf b hb).2.2.2.2.2⟩) (fun b o _ _ hb q _=>kp2 b o hb q) (fun b o _ _ hb q _=>⟨o.slots,kp2 b o hb q⟩)
    (fun b o hb q n=>by rw[aw<|lt q];exact n) (fun b o hb q=>⟨o,kp2 b o hb q⟩) (fun b xs q=>by rw[aw (gT b _ q).2];exact q) (fun b o u q=>by rw[aw (gT b _ q).2];exact q) (fun b ps q=>⟨#[],by rw[aw (gT b _ q).2,q];simp⟩) (fun m hm=>?_) (fun b u q=>?_) I.bare
   ·obtain⟨o,es,ep,ho',r⟩:=hm;exact⟨o,es,ep,kp2 _ o (fun hb=>(hf _ hb).2.1 rfl) ho',r⟩
   ·by_cases hb:b=s.heap.objs.size
    ·subst hb;rw[aH]at q;cases q;refine⟨(by show 2<=sizeLine;rw[Ej];decide),[.int i tk,vx],.cons ⟨_,rfl⟩<|.cons rx .nil,⟨_,(sb.2 _ ?_).trans hTp,⟨rfl,rfl⟩,_,rfl⟩⟩;exact fun z=>lt he z.symm
    ·rw[aw hb]at q;refine(I.hok b u q).stay (fun c v hc z=>kp2 c v ?_ z) (fun c z=>by rw[aw (gT c _ z).2];exact z) fun c xs z=>by rw[aw (gT c _ z).2];exact z
     rcases hc with z|z;·rw[z];exact(gT b u q).1
     ·exact(gT c _ z).1
  refine⟨.ref s.heap.objs.size,_,I2,rfl,⟨_,x,nT,rfl,fun xs' h=>by rw[I.list_inj h hx];exact ex,rfl⟩,⟨⟨_,by simpa using he2⟩,Src.at_keep (c:=.lst a) (a1 _ _ w1) fun o q=>(sb.2 _<|H9 ne).trans q⟩,fun b hb=>?_⟩;have hbT:b≠s.heap.objs.size:=by
   obtain⟨o1,e1,_⟩:=Src.at_obj (c:=.lst a) t1;simp only[Dh,DP,or_false]at hb;rcases hb with rfl|rfl;·exact lt he
   ·exact lt e1
  rw[aw hbT];exact(hf b hb).1
 done:=by
  intro X hP hw hK hc i pins s σ H E I hf st hg;subst hP hw hK;obtain⟨xs,hx,hl⟩:=hg;obtain⟨⟨old,he⟩,t1⟩:=st;have hh:X.A.in1.handled=none:=I.ok.hd hc;obtain⟨fp1,P1,S1,D1,u1,r1,a1,_,g1⟩:=Src.draws (A:=X.A.in1) (c:=.lst a) hh I hx t1 (hf it (by simp)).1;subst hl;obtain⟨f0,f1,f2,f3,f4,f5⟩:=hf it (by simp);exact wpAny_pyNext_enum_endD D1 he u1 fun h' hx'=>⟨rfl,I.turned (t':=s.toks) (fun b o hb q=>hx' b o hb q) f0 f1 f3 f4 f5⟩
 self:=fun _ _ _ _ _ st h=>by obtain⟨⟨old,he⟩,_⟩:=st;exact Kp he h
def yk(K:CT)(t:TA):TI:=fun σ H R=>t σ H fun vs H1=>∃a xs,vs=[.ref a]/\SqL K H1 a xs/\R (BS K a) H1
theorem qJ{X:Cx}{K:CT}(hK:X.K=K){b:Expr}{ta:TA}{p pos tp:Pos}{elts:List Expr}{kk:Nat}(hg:Gl X "enumerate")(hm:X.mg "enumerate"=none)(ha:PA X [b] ta)(hs:starEach [b] X.env=[(false,eval b X.env)]:=by rfl):
  PI X (.Tuple elts kk tp) (.Call (.Name "enumerate" p) [b] [] pos) (yk K ta):=by
 subst hK;intro pins s σ H R I h;refine Mm<|fM I hg hm boot_enumerate<|Eh (bP (ha pos pins s σ H _ I h) fun us s1⟨vs,H1,I1,r1,q1⟩=>?_) hs rfl;obtain⟨a,xs,e,h1,q⟩:=q1;subst e;obtain⟨v1,rfl,ra⟩:=gh r1;cases ra;obtain⟨its,rv,pl,hz⟩:=I1.list h1;refine call_enumerate_list pl.isList fun h' he hi hsz kp=>?_;refine Kp he ?_;refine⟨s1.heap.objs.size+1,[s1.heap.objs.size+1,s1.heap.objs.size],_,_,H1,rfl,I1.kept (t':=s1.toks) kp,su a _ _ (jb s1.heap.objs.size 1 0 (by decide)),⟨⟨_,he⟩,hi⟩,fun b hb=>?_,q⟩;have hb':s1.heap.objs.size<=b:=by
  simp only[Dh,DP,or_false]at hb;rcases hb with z|z<;>rw[z]
  ·exact Ep _ 1
  ·exact D0 _
 exact I1.fpOk hb'<|I1.hok.fresh hb'
end L2
open L2.Src renaming at_keep->HH,at_obj->Im,draws->J7,iter->Mt,inj->MP
namespace Wb
open PySem L2
abbrev Rp(α:Type):=Hp->α->V->Prop
class Mono{α:Type}(R:Rp α):Prop where
 mono:∀{H H':Hp}{m:α}{v:V},Same H H'->R H m v->R H' m v
def LR{α:Type}(R:Rp α)(H:Hp)(ms:List α)(vs:List V):Prop:=vs.length=ms.length/\∀(i:Nat)(v:V)(m:α),vs[i]? =some v->ms[i]? =some m->R H m v
theorem LR.nil{α:Type}{R:Rp α}{H:Hp}:LR R H [] []:=⟨rfl,fun i v m e=>by simp at e⟩
theorem LR.same{α:Type}{R:Rp α}[Mono R]{H H':Hp}{ms:List α}{vs:List V}(h:LR R H ms vs)(e:Same H H'):LR R H' ms vs:=⟨h.1,fun i v m a b=>Mono.mono e<|h.2 i v m a b⟩
theorem LR.snoc{α:Type}{R:Rp α}{H:Hp}{ms:List α}{vs:List V}{m:α}{v:V}(h:LR R H ms vs)(r:R H m v):LR R H (ms++[m]) (vs++[v]):=by
 refine⟨by simp[h.1],fun i v' m' a b=>?_⟩;by_cases hi:i<vs.length
 ·rw[DF hi]at a;rw[DF (by rw[<-h.1];exact hi)]at b;exact h.2 i v' m' a b
 ·rw[Dw (by omega)]at a;rw[Dw (by rw[<-h.1];omega)]at b;rw[<-h.1]at b;cases e:i-vs.length with
  |zero=>rw[e]at a b;simp at a b;subst a b;exact r
  |succ n=>rw[e]at a;simp at a
theorem LR.get{α:Type}{R:Rp α}{H:Hp}{ms:List α}{vs:List V}{i:Nat}{m:α}(h:LR R H ms vs)(e:ms[i]? =some m):∃v,vs[i]? =some v/\R H m v:=by
 have hi:i<vs.length:=by rw[h.1];exact(D5.mp e).1
 exact⟨vs[i],by simp[hi],h.2 i _ m (by simp[hi]) e⟩
def isL{α:Type}(R:Rp α):Rp (List α):=fun H ms v=>∃p vs,v=.ref p/\H p=some (.lst vs)/\LR R H ms vs
instance zkeep1{α:Type}{R:Rp α}[Mono R]:Mono (isL R):=⟨fun e⟨p,vs,h1,h2,h3⟩=>⟨p,vs,h1,e _ _ h2,h3.same e⟩⟩
def isS:Rp (List Nat):=fun _ l v=>v=.str (aM l)
instance zkeep2:Mono isS:=⟨fun _ h=>h⟩
def isI:Rp Int:=fun _ l v=>v=.int l
instance zkeep4:Mono isI:=⟨fun _ h=>h⟩
theorem LR.str{H:Hp}{ms:List (List Nat)}{vs:List V}(h:LR isS H ms vs):vs=ms.map fun l=>Ho (aM l):=by
 refine EU fun i=>?_;rw[D7];cases e:ms[i]? with
 |none=>rw[Ex]at e;rw[Ex.mpr (by rw[h.1];exact e)];rfl
 |some m=>obtain⟨v,a,b⟩:=h.get e;rw[a];cases b;rfl
end Wb
open Wb.Mono renaming mono->CM
namespace L2
open PySem PySem.Spec PyProof.Rows
end L2
namespace Wb
open PySem L2
theorem LR.take{α:Type}{R:Rp α}{H:Hp}{ms:List α}{vs:List V}(h:LR R H ms vs)(k:Nat):LR R H (ms.take k) (vs.take k):=by
 refine⟨by simp[h.1],fun i v m a b=>?_⟩;rw[List.getElem?_take]at a b;split at a;·rw[if_pos (by assumption)]at b;exact h.2 i v m a b
 ·cases a
theorem LR.drop{α:Type}{R:Rp α}{H:Hp}{ms:List α}{vs:List V}(h:LR R H ms vs)(k:Nat):LR R H (ms.drop k) (vs.drop k):=by
 refine⟨by simp[h.1],fun i v m a b=>?_⟩;rw[Ef]at a b;exact h.2 _ v m a b
theorem bp{H H':Hp}{p:Addr}(e:Same H H')(h:H' p=none):H p=none:=by
 cases z:H p with
 |none=>rfl
 |some x=>have:=e _ _ z;rw[h]at this;cases this
theorem sv{H H3:Hp}{p:Addr}{o:HO}(e:Same H H3)(h:H p=none):Same H (cZ H3 p o):=fun a u z=>by
 rw[aw<|cq z h];exact e _ _ z
end Wb
namespace L2
open PySem PySem.Spec PyProof.Rows
section
variable{X:Cx}{K:CT}{w:Dp}
theorem lI(hc:X.calm=true)(h:X.K=K):fh X (.builtin "sum") (fun xs H Q=>∃(p:Addr)(ns:List Int),xs=[.ref p]/\SqL K H p (ns.map G6)/\Q (.int ns.sum) H):=by
 subst h;intro pins s σ H xs us Q I r h;obtain⟨p,ns,rfl,hq,q⟩:=h;obtain⟨u,rfl,rx⟩:=gh r;cases rx;obtain⟨its,r',pl,hz⟩:=I.list hq;have hi:=jI r';obtain⟨xs,hx⟩:=hi.allInts.items;have hl':s.heap.IsList p (intItems xs):=hx▸pl.isList;refine sum_intListG (I.ok.hd hc) hl' fun h' tk t' hk=>?_;have e1:ns=xs.toList.map (·.1):=by
  rw[<-nums_intItems,<-hx];exact(show numsOf its.toArray.toList=ns from hi.numsOf).symm
 have e2:preSum (numAt xs) xs.size=ns.sum:=by
  rw[preSum_eq,Gd (by simp),e1]
 rw[e2];exact⟨.int ns.sum,H,I.kept hk,⟨_,rfl⟩,q⟩
end
theorem nN:∀(xs:List V)(us:List CU),us.length=xs.length->(∀(j:Nat)(x:V)(u:CU),xs[j]? =some x->us[j]? =some u->RelV x u)->Vals xs us
 | [],[],_,_=>.nil
 |x::xs,u::us,hl,h=>.cons (h 0 x u rfl rfl) (nN xs us (by simpa using hl) fun j x u a b=>h (j+1) x u (by simpa using a) (by simpa using b))
 | [],_::_,hl,_=>by simp at hl
 |_::_,[],hl,_=>by simp at hl
theorem iV{α β:Type}{F:α->β->Prop}:∀{l₁:List α}{l₂:List β},Paired F l₁ l₂->∀{j:Nat}{b:β},l₂[j]? =some b->∃a,l₁[j]? =some a/\F a b
 |_,_,.nil,j,b,h=>by simp at h
 |_,_,.cons r rs,0,b,h=>by simp at h;subst h;exact⟨_,rfl,r⟩
 |_,_,.cons r rs,j+1,b,h=>by simp at h;obtain⟨a,h1,h2⟩:=iV rs h;exact⟨a,by simpa using h1,h2⟩
section
variable{X:Cx}{K:CT}{w:Dp}
theorem mI(h:X.K=K):fh X (.builtin "sorted") (fun xs H Q=>∃(p:Addr)(ns:List Int),xs=[.ref p]/\SqL K H p (ns.map G6)/\ns.length<64/\∀(q:Addr)(ns':List Int),H q=none->ns'.Perm ns->ns'.Pairwise (· <= ·)->Q (.ref q) (cZ H q<|.lst<|ns'.map G6)):=by
 subst h;intro pins s σ H xs us Q I r h;obtain⟨p,ns,rfl,hq,h64,q⟩:=h;obtain⟨u,rfl,rx⟩:=gh r;cases rx;obtain⟨its,r',pl,hz⟩:=I.list hq;have hi:=jI r';have hlen:=IntsAre.length hi;refine sorted_ints pl.isList hi (by omega) fun out ns' a1 a2 a3=>?_;obtain⟨e,he⟩:=sortedAll_at s.heap its out;have hl':=a2.length_eq;refine⟨.ref<|s.heap.objs.size+1,_,I.laid (t':=s.toks) (fun _ _=>sortedAll_old) (IE _) (show ObjOk X.prog X.w _ _ _ (.lst<|ns'.map G6)from⟨by rw[Dx,Ej];omega,out.toList,e,iT a1,by rw[Array.toArray_toList];exact he⟩),rfl,q _ ns' (I.hok.fresh<|IE _) a2 a3⟩
theorem i4(h:X.K=K):OpR X (compareOp .NotIn) (gi K true):=h▸my
end
end L2
namespace L2
theorem eU{k:Nat}{A:DS}(r:Room k A):A.units+1<PySem.cLine:=by have:=r.un;omega
end L2
namespace L2
open PySem PySem.Spec PyProof.Rows
def um(K:CT)(te:TE)(tk:TO):TE:=fun σ H Q=>te σ H fun x H1=>tk σ H1 fun k H2=>∃a xs,x=.ref a/\k=some (-1)/\SqL K H2 a xs/\∀p,H2 p=none->Q (.ref p) (cZ H2 p<|.lst xs.reverse)
theorem uo{xs:List V}{us:List CU}(r:Vals xs us):Vals xs.reverse us.reverse:=by
 induction r with
 |nil=>exact .nil
 |cons h t ih=>rw[Kq,Kq];exact Paired.snoc ih h
theorem nO{X:Cx}{K:CT}(hK:X.K=K){e st:Expr}{te:TE}{tk:TO}{pos p2:Pos}(ops:Addr->Addr->List CU)(hs:∀a b:Addr,subscripted (.Slice none none (some st) p2) false (.ref a) (.ref b)=operate (ops a b) (getItem (.ref a)<|.ref b))(he:PE X e te)(hk:PO X (some st) tk):PE X (.Subscript e (.Slice none none (some st) p2) pos) (um K te tk):=by
 subst hK;intro pins s σ H Q I h;refine K7<|bP (he pins s σ H _ I h) fun v s1 zz=>?_;obtain⟨x,H1,I1,r1,q1⟩:=zz;refine wpAny_Slice ?_;rw[JW];refine CS ?_;refine CS ?_;refine bP (hk pins s1 σ H1 _ I1 q1) fun vk s3 zz=>?_;obtain⟨k,H3,I3,pk,q3⟩:=zz;obtain⟨a,xs,rfl,rfl,hx,q⟩:=q3;cases r1;have I4:Inv X pins σ H3 {s3 with heap:=s3.heap.push {cls:=.type "slice",data:=.fields #[.none,.none,vk]}}:=I3.kept (t':=s3.toks) fun b ob q=>CQ _ q;obtain⟨its,r,ht,hz⟩:=I4.list hx;have hlen:=r.length;show wpAny (model X.prog X.w) X.A (subscriptTail e (.Slice none none (some st) p2) (.ref a)<|.ref s3.heap.objs.size) (EP X pins σ Q) X.xe {s3 with heap:=s3.heap.push {cls:=.type "slice",data:=.fields #[.none,.none,vk]}};refine Mn (ops:=ops a s3.heap.objs.size) ht.isList.typeIs IB.lookup ?_<|hs _ _;refine IM ht.isList (K8 ..) .none .none pk (by decide) ?_ (by rw[Dm];omega);rw[PySem.W.krv_pick];refine⟨.ref _,_,I4.laid (t':=s3.toks) (o:=.lst xs.reverse) (fun b ob q=>CQ _ q) (D0 _) ?_,rfl,q _<|I4.hok.fresh<|D0 _⟩;exact⟨by rw[HU];exact hz,_,0,uo r,D6 _ rfl⟩
end L2
namespace Wb
open PySem L2
end Wb
namespace L2
open PySem PySem.Spec PyProof.Rows Wb
end L2
namespace L2
open PySem PySem.Spec PyProof.Rows
abbrev bX(h:Heap)(T:Addr)(a b c:CU):Prop:=h.get? T=some {cls:=.type "tuple",data:=.seq #[a,b,c]}
def Ag(h:Heap)(o1 o2 o3:Obj):Heap:=(((h.push o1).push o2).push o3).push {cls:=.type "tuple",data:=.seq #[.ref h.objs.size,.ref (h.push o1).objs.size,.ref ((h.push o1).push o2).objs.size]}
def Ah(h:Heap)(o1 o2 o3:Obj):Heap:=(Ag h o1 o2 o3).push {cls:=.type "tuple",data:=.seq #[.none,.none,.none]}
def yY(h:Heap)(o1 o2 o3:Obj):Heap:=(Ah h o1 o2 o3).push {cls:=.type "zip",data:=.fields #[.none,.bool false,.bool false,.ref (((h.push o1).push o2).push o3).objs.size,.ref (Ag h o1 o2 o3).objs.size]}
theorem l8(v1 v2 v3:CU)(o1 o2 o3:Obj):Meets (EI.«zip.__new__» ⟨[.type "zip",v1,v2,v3],[]⟩) (fun _ R s=>eT v1 s.heap o1/\eT v2 (s.heap.push o1) o2/\eT v3 ((s.heap.push o1).push o2) o3/\R (.ok<|.ret<|.ref (Ah s.heap o1 o2 o3).objs.size) {s with heap:=yY s.heap o1 o2 o3}):=
 .of_wp fun prog w A R s h=>by
  obtain⟨hp,g,d,tk,os⟩:=s;obtain⟨i1,i2,i3,h⟩:=h;have hsub:=sub_zip;have j1:=fun(A:DS)(E:CU->CV->Prop)(Q:CU->CV->Prop)(q:Q _ _)=>i1 prog w A E Q ⟨hp,g,d,tk,os⟩ rfl q;have j2:=fun(A:DS)(E:CU->CV->Prop)(Q:CU->CV->Prop)(q:Q _ _)=>i2 prog w A E Q ⟨hp.push o1,g,d,tk,os⟩ rfl q;have j3:=fun(A:DS)(E:CU->CV->Prop)(Q:CU->CV->Prop)(q:Q _ _)=>i3 prog w A E Q ⟨(hp.push o1).push o2,g,d,tk,os⟩ rfl q
  wp_walk using j1 _ _ _,j2 _ _ _,j3 _ _ _
  exact⟨_,rfl,h⟩
theorem jR(a b c:CU):checkTypeCall "zip" ⟨[a,b,c],[]⟩=pure ():=by kernel_rfl
theorem l9(a b c:CU):checkBuiltinCall "zip.__new__" ⟨[.type "zip",a,b,c],[]⟩=pure ():=by kernel_rfl
theorem ie(a b c d:CU):argsOk "object.__init__" ⟨[a,b,c,d],[]⟩:=by
 unfold argsOk;rw[Jm (id:="object.__init__") (n:=['_','_','t','i','n','i','_','_']) (o:=['t','c','e','j','b','o']) (by kernel_rfl) PySem.F.owner_object];kernel_rfl
theorem sx{P:Dj}{w:Dp}{A:DS}{E:CU->CV->Prop}{s:CV}{v1 v2 v3:CU}{o1 o2 o3:Obj}{Q:CU->CV->Prop}(i1:eT v1 s.heap o1)(i2:eT v2 (s.heap.push o1) o2)(i3:eT v3 ((s.heap.push o1).push o2) o3)
  (f1:o1.isFreed=false) (f2:o2.isFreed=false) (f3:o3.isFreed=false)
  (q:∀h',G7 h' (s.heap.objs.size+5) (s.heap.objs.size+3) (s.heap.objs.size+4) .none->bX h' (s.heap.objs.size+3) (.ref s.heap.objs.size) (.ref<|s.heap.objs.size+1) (.ref<|s.heap.objs.size+2)->bX h' (s.heap.objs.size+4) .none .none .none->
   h'.get? s.heap.objs.size=some o1->h'.get? (s.heap.objs.size+1)=some o2->h'.get? (s.heap.objs.size+2)=some o3->(∀c o,s.heap.get? c=some o->h'.get? c=some o)->Q (.ref (s.heap.objs.size+5)) {s with heap:=h'}):
  wpAny (model P w) A (call (.type "zip") [v1,v2,v3]) Q E s:=by
 refine callType_new Kd (by decide) (jR _ _ _) (l9 _ _ _) (fun obj=>ie obj _ _ _) Jt (l8 v1 v2 v3 o1 o2 o3) ⟨i1,i2,i3,?_⟩;have z1:(s.heap.push o1).objs.size=s.heap.objs.size+1:=E8 ..;have z2:((s.heap.push o1).push o2).objs.size=s.heap.objs.size+2:=by rw[E8,z1]
 have z3:(((s.heap.push o1).push o2).push o3).objs.size=s.heap.objs.size+3:=by rw[E8,z2]
 have z4:(Ag s.heap o1 o2 o3).objs.size=s.heap.objs.size+4:=by unfold Ag;rw[E8,z3]
 have z5:(Ah s.heap o1 o2 o3).objs.size=s.heap.objs.size+5:=by unfold Ah;rw[E8,z4]
 have g6:(yY s.heap o1 o2 o3).get? (Ah s.heap o1 o2 o3).objs.size=some _:=D6 _ rfl;have g5:(yY s.heap o1 o2 o3).get? (Ag s.heap o1 o2 o3).objs.size=some _:=CQ _<|D6 _ rfl;have g4:(yY s.heap o1 o2 o3).get? (((s.heap.push o1).push o2).push o3).objs.size=some _:=CQ _<|CQ _<|D6 _ rfl;have g3:(yY s.heap o1 o2 o3).get? ((s.heap.push o1).push o2).objs.size=some o3:=CQ _<|CQ _<|CQ _<|D6 _ f3;have g2:(yY s.heap o1 o2 o3).get? (s.heap.push o1).objs.size=some o2:=CQ _<|CQ _<|CQ _<|CQ _<|D6 _ f2;have g1:(yY s.heap o1 o2 o3).get? s.heap.objs.size=some o1:=CQ _<|CQ _<|CQ _<|CQ _<|CQ _<|D6 _ f1;show _/\_;rw[z3,z4,z5]at g6;rw[z1,z2,z3]at g4;rw[z4]at g5;rw[z2]at g3;rw[z1]at g2;rw[z5];exact⟨⟨_,g6,rfl⟩,q _ g6 g4 g5 g1 g2 g3 fun c o x=>CQ _<|CQ _<|CQ _<|CQ _<|CQ _<|CQ _ x⟩
section
variable{P:Dj}{w:Dp}{A:DS}{E:CU->CV->Prop}{s:CV}{z TI TO i1 i2 i3:Addr}{fp1 fp2 fp3:List Addr}{n1 n2 n3 k:Nat}{P1 P2 P3:Nat->CU->Prop}{S1 S2 S3:Nat->Heap->Prop}{a b c:CU}
theorem bJ{T:Addr}{a b c x:CU}{k:Nat}{Q:Unit->CV->Prop}(hT:bX s.heap T a b c)
  (h:∀h',h'.get? T=some {cls:=.type "tuple",data:=.seq ((#[a,b,c]:Array CU).setIfInBounds k x)}->Dl T s.heap h'->Q () {s with heap:=h'}):
  wpAny (model P w) A (updateSeq T (·.setIfInBounds k x)) Q E s:=by
 refine wpAny_updateSeq hT rfl<|h _ ?_<|Ek ..;rw[EX _ hT rfl];simp[FE]
structure ZApart3(z TI TO i1 i2 i3:Addr)(fp1 fp2 fp3:List Addr):Prop where
 c1:TI≠z
 c2:TO≠z
 c3:i1≠z
 c4:i2≠z
 c4':i3≠z
 c5:TI≠TO
 c6:TI≠i1
 c7:TI≠i2
 c7':TI≠i3
 c8:TO≠i1
 c9:TO≠i2
 c9':TO≠i3
 d1:z∉fp1/\TO∉fp1/\i2∉fp1/\i3∉fp1
 d2:z∉fp2/\TO∉fp2/\i1∉fp2/\i3∉fp2
 d3:z∉fp3/\TO∉fp3/\i1∉fp3/\i2∉fp3
theorem sy{Q:Option CU->CV->Prop}(D1:Jl P w A.in1 i1 fp1 n1 P1 S1)(D2:Jl P w A.in1 i2 fp2 n2 P2 S2)(D3:Jl P w A.in1 i3 fp3 n3 P3 S3)(Z:ZApart3 z TI TO i1 i2 i3 fp1 fp2 fp3)(h1:k<n1)(h2:k<n2)(h3:k<n3)(hz:G7 s.heap z TI TO .none)
  (hI:bX s.heap TI (.ref i1) (.ref i2) (.ref i3)) (hO:bX s.heap TO a b c) (t1:S1 k s.heap) (t2:S2 k s.heap) (t3:S3 k s.heap)
  (q:∀x y u h' tk T,P1 k x->P2 k y->P3 k u->T=s.heap.objs.size->G7 h' z TI TO (rawInt T)->bX h' TO x y u->S1 (k+1) h'->S2 (k+1) h'->S3 (k+1) h'->bX h' T x y u->
   (∀c o,c≠z->c≠TO->c≠i1->c≠i2->c≠i3->s.heap.get? c=some o->h'.get? c=some o)->Q (some (.ref T)) {s with heap:=h',toks:=tk}):
  wpAny (model P w) A (pyNext<|.ref z) Q E s:=by
 have hT:s.TypeIs (.ref z) "zip":=⟨_,hz,rfl⟩
 unfold pyNext;refine CN<|FC<|E4 (name:=CY "__next__") hT EE<|DU EE hT Ge ?_<|FZ _;obtain⟨hp,gg,dd,tk0,os⟩:=s;show wpAny (model P w) _ (field (.ref z) 2>>=_) _ _ _;refine CN<|E7 hz rfl (x:=.bool false) rfl ?_;show wpAny (model P w) _ (field (.ref z) 3>>=_) _ _ _;refine CN<|E7 hz rfl (x:=.ref TI) rfl<|CN<|E2 hI rfl ?_;show wpAny (model P w) _ (DK (.ref z)>>=_) _ _ _;refine CN ?_;unfold DK;refine CN<|E7 hz rfl (x:=.none) rfl<|CS ?_;simp only[if_true];refine CN (Fe (CN (E7 hz rfl (x:=.ref TO) rfl (CN (E5 hz (by simp) fun g1 y1 b1=>?_)))));replace y1:G7 g1 z TI TO .ellipsis:=y1;replace b1:Dl z hp g1:=b1;refine CN ?_;simp only[GD,HM,GO,Hd];refine CN<|CN<|Fm ?_;show wpAny (model P w) _ (Du (.ref i1)>>=_) _ _ _;refine CN<|D1.item k _ _ _ h1 (ar D1 t1 b1 Z.d1.1) fun x g2 tk2 px u1 b2=>CS ?_;replace b2:Dl i1 g1 g2:=b2;have O2:bX g2 TO a b c:=b2.extBut _ _ Z.c8<|b1.extBut _ _ Z.c2 hO;refine CN<|E2 O2 rfl<|CN<|bJ O2 fun g3 O3 b3=>?_;replace O3:bX g3 TO x b c:=O3;replace b3:Dl TO g2 g3:=b3;refine CN<|Gw<|CS<|CN<|CN<|Fm ?_;show wpAny (model P w) _ (Du (.ref i2)>>=_) _ _ _;refine CN<|D2.item k _ _ _ h2 (ar D2 (ar D2 (ar D2 t2 b1 Z.d2.1) b2 Z.d2.2.2.1) b3 Z.d2.2.1) fun y g4 tk4 py u2 b4=>CS ?_;replace b4:Dl i2 g3 g4:=b4;have O4:bX g4 TO x b c:=b4.extBut _ _ Z.c9 O3;refine CN<|E2 O4 rfl<|CN<|bJ O4 fun g5 O5 b5=>?_;replace O5:bX g5 TO x y c:=O5;replace b5:Dl TO g4 g5:=b5;refine CN<|Gw<|CS<|CN<|CN<|Fm ?_;show wpAny (model P w) _ (Du (.ref i3)>>=_) _ _ _;refine CN<|D3.item k _ _ _ h3 (ar D3 (ar D3 (ar D3 (ar D3 (ar D3 t3 b1 Z.d3.1) b2 Z.d3.2.2.1) b3 Z.d3.2.1) b4 Z.d3.2.2.2) b5 Z.d3.2.1) fun u g6 tk6 pu u3 b6=>CS ?_;replace b6:Dl i3 g5 g6:=b6;have O6:bX g6 TO x y c:=b6.extBut _ _ Z.c9' O5;refine CN<|E2 O6 rfl<|CN<|bJ O6 fun g7 O7 b7=>?_;replace O7:bX g7 TO x y u:=O7;replace b7:Dl TO g6 g7:=b7;refine CN<|Gw<|CS<|CS<|CN<|E2 O7 rfl<|CN<|JO ?_;have sz:g7.objs.size=hp.objs.size:=by rw[b7.1,b6.1,b5.1,b4.1,b3.1,b2.1,b1.1]
 have y7:G7 g7 z TI TO .ellipsis:=b7.extBut _ _ Z.c2.symm<|b6.extBut _ _ Z.c4'.symm<|b5.extBut _ _ Z.c2.symm<|b4.extBut _ _ Z.c4.symm<|b3.extBut _ _ Z.c2.symm<|b2.extBut _ _ Z.c3.symm y1;have k7:∀c o,c≠z->c≠TO->c≠i1->c≠i2->c≠i3->hp.get? c=some o->g7.get? c=some o:=fun c o e1 e2 e3 e4 e5 e=>b7.extBut _ _ e2<|b6.extBut _ _ e5<|b5.extBut _ _ e2<|b4.extBut _ _ e4<|b3.extBut _ _ e2<|b2.extBut _ _ e3<|b1.extBut _ _ e1 e;have v1:S1 (k+1) g7:=ar D1 (ar D1 (ar D1 (ar D1 (ar D1 u1 b3 Z.d1.2.1) b4 Z.d1.2.2.1) b5 Z.d1.2.1) b6 Z.d1.2.2.2) b7 Z.d1.2.1;have v2:S2 (k+1) g7:=ar D2 (ar D2 (ar D2 u2 b5 Z.d2.2.1) b6 Z.d2.2.2.2) b7 Z.d2.2.1;have v3:S3 (k+1) g7:=ar D3 u3 b7 Z.d3.2.1;have lz:z<g7.objs.size:=Dc y7;show wpAny (model P w) _ (ES (.ref z) (.ref g7.objs.size)>>=_) _ _ _;refine CN ?_;unfold ES;have y8:G7 (g7.push {cls:=.type "tuple",data:=.seq #[x,y,u]}) z TI TO .ellipsis:=CQ _ y7;refine CN (E5 y8 (by simp) fun g9 y9 b9=>?_);replace y9:G7 g9 z TI TO (rawInt g7.objs.size):=y9;replace b9:Dl z (g7.push {cls:=.type "tuple",data:=.seq #[x,y,u]}) g9:=b9;refine E5 y9 (by simp) fun g10 y10 b10=>?_;replace y10:G7 g10 z TI TO (rawInt g7.objs.size):=y10;replace b10:Dl z g9 g10:=b10;have up:∀c o,c≠z->g7.get? c=some o->g10.get? c=some o:=fun c o e1 e=>b10.extBut _ _ e1<|b9.extBut _ _ e1<|CQ _ e;have T8:bX g10 g7.objs.size x y u:=b10.extBut _ _ (G9 lz)<|b9.extBut _ _ (G9 lz)<|D6 _ rfl;refine CS ⟨_,rfl,CS<|q x y u g10 _ g7.objs.size px py pu sz y10 (up _ _ Z.c2 O7) (D1.frame _ _ _ v1 fun b hb o e=>up b o (fun q=>Z.d1.1<|q▸hb) e) (D2.frame _ _ _ v2 fun b hb o e=>up b o (fun q=>Z.d2.1<|q▸hb) e) (D3.frame _ _ _ v3 fun b hb o e=>up b o (fun q=>Z.d3.1<|q▸hb) e) T8 fun c o e1 e2 e3 e4 e5 e=>up c o e1<|k7 c o e1 e2 e3 e4 e5 e⟩
theorem ur{Q:Option CU->CV->Prop}(hh:A.handled=none)(D1:Jl P w A.in1 i1 fp1 n1 P1 S1)(D2:Jl P w A.in1 i2 fp2 n2 P2 S2)(D3:Jl P w A.in1 i3 fp3 n3 P3 S3)(Z:ZApart3 z TI TO i1 i2 i3 fp1 fp2 fp3)(hk:k=n1\/(k<n1/\k=n2)\/(k<n1/\k<n2/\k=n3))(hz:G7 s.heap z TI TO .none)
  (hI:bX s.heap TI (.ref i1) (.ref i2) (.ref i3)) (hO:bX s.heap TO a b c) (t1:S1 k s.heap) (t2:S2 k s.heap) (t3:S3 k s.heap)
  (q:∀h' tk,(∀c o,c≠z->c≠TO->c≠i1->c≠i2->c≠i3->s.heap.get? c=some o->h'.get? c=some o)->Q none {s with heap:=h',toks:=tk}):
  wpAny (model P w) A (pyNext<|.ref z) Q E s:=by
 have hT:s.TypeIs (.ref z) "zip":=⟨_,hz,rfl⟩
 unfold pyNext;refine CN<|FC<|E4 (name:=CY "__next__") hT EE<|DU EE hT Ge ?_<|FZ _;obtain⟨hp,gg,dd,tk0,os⟩:=s;show wpAny (model P w) _ (field (.ref z) 2>>=_) _ _ _;refine CN<|E7 hz rfl (x:=.bool false) rfl ?_;show wpAny (model P w) _ (field (.ref z) 3>>=_) _ _ _;refine CN<|E7 hz rfl (x:=.ref TI) rfl<|CN<|E2 hI rfl ?_;show wpAny (model P w) _ (DK (.ref z)>>=_) _ _ _;refine CN ?_;unfold DK;refine CN<|E7 hz rfl (x:=.none) rfl<|CS ?_;simp only[if_true];refine CN (Fe (CN (E7 hz rfl (x:=.ref TO) rfl (CN (E5 hz (by simp) fun g1 y1 b1=>?_)))));replace y1:G7 g1 z TI TO .ellipsis:=y1;replace b1:Dl z hp g1:=b1;refine CN ?_;simp only[GD,HM,GO,Hd];refine CN<|CN<|Fm ?_;show wpAny (model P w) _ (Du (.ref i1)>>=_) _ _ _;rcases hk with hk|hk
 ·subst hk;refine CN<|D1.done _ _ _ (ar D1 t1 b1 Z.d1.1) fun g2 e b2 he=>?_;obtain⟨oe,hoe,hce⟩:=he;replace b2:Gv i1 g1 g2:=b2;have y2:G7 g2 z TI TO .ellipsis:=b2 _ _ Z.c3.symm y1;have ez:e≠z:=fun x=>by subst x;rw[y2]at hoe;cases hoe;simp at hce
  refine E5 y2 (by simp) fun g3 _ b3=>?_;exact CN<|Ff (T:="StopIteration") (b:=true) ⟨oe,b3.extBut _ _ ez hoe,hce⟩ G0<|CS<|q g3 _ fun c o e1 _ e3 _ _ x=>b3.extBut _ _ e1<|b2 _ _ e3<|b1.extBut _ _ e1 x
 ·have hk1:k< n1:=by rcases hk with z | z <;> exact z.1
  refine CN<|D1.item k _ _ _ hk1 (ar D1 t1 b1 Z.d1.1) fun x g2 tk2 px u1 b2=>CS ?_;replace b2:Dl i1 g1 g2:=b2;have O2:bX g2 TO a b c:=b2.extBut _ _ Z.c8<|b1.extBut _ _ Z.c2 hO;refine CN<|E2 O2 rfl<|CN<|bJ O2 fun g3 O3 b3=>?_;replace b3:Dl TO g2 g3:=b3;replace O3:bX g3 TO x b c:=O3;refine CN<|Gw<|CS<|CN<|CN<|Fm ?_;show wpAny (model P w) _ (Du (.ref i2)>>=_) _ _ _;rcases hk with⟨_,hk2⟩|⟨_,hk2,hk3⟩
  ·subst hk2;refine CN<|D2.done _ _ _ (ar D2 (ar D2 (ar D2 t2 b1 Z.d2.1) b2 Z.d2.2.2.1) b3 Z.d2.2.1) fun g4 e b4 he=>?_;obtain⟨oe,hoe,hce⟩:=he;replace b4:Gv i2 g3 g4:=b4;have y4:G7 g4 z TI TO .ellipsis:=b4 _ _ Z.c4.symm<|b3.extBut _ _ Z.c2.symm<|b2.extBut _ _ Z.c3.symm y1;have ez:e≠z:=fun x=>by subst x;rw[y4]at hoe;cases hoe;simp at hce
   refine E5 y4 (by simp) fun g5 _ b5=>?_;exact CN<|Ff (T:="StopIteration") (b:=true) ⟨oe,b5.extBut _ _ ez hoe,hce⟩ G0<|CS<|q g5 _ fun c o e1 e2 e3 e4 _ x=>b5.extBut _ _ e1<|b4 _ _ e4<|b3.extBut _ _ e2<|b2.extBut _ _ e3<|b1.extBut _ _ e1 x
  ·subst hk3;refine CN<|D2.item k _ _ _ hk2 (ar D2 (ar D2 (ar D2 t2 b1 Z.d2.1) b2 Z.d2.2.2.1) b3 Z.d2.2.1) fun y g4 tk4 py u2 b4=>CS ?_;replace b4:Dl i2 g3 g4:=b4;have O4:bX g4 TO x b c:=b4.extBut _ _ Z.c9 O3;refine CN<|E2 O4 rfl<|CN<|bJ O4 fun g5 O5 b5=>?_;replace b5:Dl TO g4 g5:=b5;refine CN<|Gw<|CS<|CN<|CN<|Fm ?_;show wpAny (model P w) _ (Du (.ref i3)>>=_) _ _ _;refine CN<|D3.done _ _ _ (ar D3 (ar D3 (ar D3 (ar D3 (ar D3 t3 b1 Z.d3.1) b2 Z.d3.2.2.1) b3 Z.d3.2.1) b4 Z.d3.2.2.2) b5 Z.d3.2.1) fun g6 e b6 he=>?_;obtain⟨oe,hoe,hce⟩:=he;replace b6:Gv i3 g5 g6:=b6;have y6:G7 g6 z TI TO .ellipsis:=b6 _ _ Z.c4'.symm<|b5.extBut _ _ Z.c2.symm<|b4.extBut _ _ Z.c4.symm<|b3.extBut _ _ Z.c2.symm<|b2.extBut _ _ Z.c3.symm y1;have ez:e≠z:=fun x=>by subst x;rw[y6]at hoe;cases hoe;simp at hce
   refine E5 y6 (by simp) fun g7 _ b7=>?_;exact CN<|Ff (T:="StopIteration") (b:=true) ⟨oe,b7.extBut _ _ ez hoe,hce⟩ G0<|CS<|q g7 _ fun c o e1 e2 e3 e4 e5 x=>b7.extBut _ _ e1<|b6 _ _ e5<|b5.extBut _ _ e2<|b4.extBut _ _ e4<|b3.extBut _ _ e2<|b2.extBut _ _ e3<|b1.extBut _ _ e1 x
end
def Ai(K:CT)(c1 c2 c3:Src):It:=
  ⟨fun i H=>∃xs ys us x y u,c1.has K H xs/\c2.has K H ys/\c3.has K H us/\xs[i]? =some x/\ys[i]? =some y/\us[i]? =some u,
   fun i H v H'=>∃p x y u,H p=none/\v=.ref p/\(∀xs,c1.has K H xs->xs[i]? =some x)/\(∀ys,c2.has K H ys->ys[i]? =some y)/\(∀us,c3.has K H us->us[i]? =some u)/\H'=cZ H p (.tup [x,y,u]),
   fun i H=>∃xs ys us,c1.has K H xs/\c2.has K H ys/\c3.has K H us/\(i=xs.length\/(i<xs.length/\i=ys.length)\/(i<xs.length/\i<ys.length/\i=us.length))⟩
def BJ(c1 c2 c3:Src)(z TI TO i1 i2 i3:Addr)(i:Nat)(h:Heap):Prop:=G7 h z TI TO .none/\bX h TI (.ref i1) (.ref i2) (.ref i3)/\(∃a b c,bX h TO a b c)/\c1.at i1 i h/\c2.at i2 i h/\c3.at i3 i h
structure ZIds3(z TI TO i1 i2 i3:Addr):Prop where
 c1:TI≠z
 c2:TO≠z
 c3:i1≠z
 c4:i2≠z
 c4':i3≠z
 c5:TI≠TO
 c6:TI≠i1
 c7:TI≠i2
 c7':TI≠i3
 c8:TO≠i1
 c9:TO≠i2
 c9':TO≠i3
 c10:i1≠i2
 c11:i1≠i3
 c12:i2≠i3
theorem qK{X:Cx}{pins:List (Addr×Obj)}{σ:St}{H:Hp}{s:CV}{z TI TO i1 i2 i3:Addr}{fp1 fp2 fp3:List Addr}(I:Inv X pins σ H s)(Z:ZIds3 z TI TO i1 i2 i3)(hf:∀b∈[z,TI,TO,i1,i2,i3],FpOk X pins H b)
  (g1:∀b∈fp1,b=i1\/H b≠none\/∃o,X.base.get? b=some o) (g2:∀b∈fp2,b=i2\/H b≠none\/∃o,X.base.get? b=some o) (g3:∀b∈fp3,b=i3\/H b≠none\/∃o,X.base.get? b=some o):ZApart3 z TI TO i1 i2 i3 fp1 fp2 fp3:=by
 have no:∀b∈[z,TI,TO,i1,i2,i3],¬(H b≠none\/∃o,X.base.get? b=some o):=fun b hb q=>by
  rcases q with q|⟨o,q⟩
  ·exact q (hf b hb).1
  ·rcases (hf b hb).2.2.2.1 with y | y;·exact I.ok.noex b o q y
   ·exact absurd (D8 (D8 (Dc q) I.ok.bsz) y)<|Eu _
 refine⟨Z.c1,Z.c2,Z.c3,Z.c4,Z.c4',Z.c5,Z.c6,Z.c7,Z.c7',Z.c8,Z.c9,Z.c9',⟨fun m=>?_,fun m=>?_,fun m=>?_,fun m=>?_⟩,⟨fun m=>?_,fun m=>?_,fun m=>?_,fun m=>?_⟩,⟨fun m=>?_,fun m=>?_,fun m=>?_,fun m=>?_⟩⟩;·exact(g1 _ m).elim (fun e=>Z.c3 e.symm) (no z (by simp))
 ·exact(g1 _ m).elim (fun e=>Z.c8 e) (no TO (by simp))
 ·exact(g1 _ m).elim (fun e=>Z.c10 e.symm) (no i2 (by simp))
 ·exact(g1 _ m).elim (fun e=>Z.c11 e.symm) (no i3 (by simp))
 ·exact(g2 _ m).elim (fun e=>Z.c4 e.symm) (no z (by simp))
 ·exact(g2 _ m).elim (fun e=>Z.c9 e) (no TO (by simp))
 ·exact(g2 _ m).elim (fun e=>Z.c10 e) (no i1 (by simp))
 ·exact(g2 _ m).elim (fun e=>Z.c12 e.symm) (no i3 (by simp))
 ·exact(g3 _ m).elim (fun e=>Z.c4' e.symm) (no z (by simp))
 ·exact(g3 _ m).elim (fun e=>Z.c9' e) (no TO (by simp))
 ·exact(g3 _ m).elim (fun e=>Z.c11 e) (no i1 (by simp))
 ·exact(g3 _ m).elim (fun e=>Z.c12 e) (no i2 (by simp))
theorem sA{P:Dj}{w:Dp}{K:CT}{elts:List Expr}{kk:Nat}{tp:Pos}(c1 c2 c3:Src)(z TI TO i1 i2 i3:Addr)(Z:ZIds3 z TI TO i1 i2 i3):
  Turn P w K (.Tuple elts kk tp) (Ai K c1 c2 c3) [z,TI,TO,i1,i2,i3] z (BJ c1 c2 c3 z TI TO i1 i2 i3) where
 mem:=by simp
 obj:=fun i h st b hb=>by
  obtain⟨hz,hI,⟨a,b',c',hO⟩,t1,t2,t3⟩:=st;obtain⟨o1,e1,v1,d1⟩:=Im t1;obtain⟨o2,e2,v2,d2⟩:=Im t2;obtain⟨o3,e3,v3,d3⟩:=Im t3;simp only[Dh,DP,or_false]at hb;rcases hb with rfl|rfl|rfl|rfl|rfl|rfl;·exact⟨_,hz,fun v q=>by cases (show Hz _=Gm v from q)⟩
  ·exact⟨_,hI,fun v q=>by cases (show JK _ _=Gm v from q)⟩
  ·exact⟨_,hO,fun v q=>by cases (show JK _ _=Gm v from q)⟩
  ·exact⟨_,e1,fun v q=>by rw[d1]at q;cases q⟩
  ·exact⟨_,e2,fun v q=>by rw[d2]at q;cases q⟩
  ·exact⟨_,e3,fun v q=>by rw[d3]at q;cases q⟩
 keep:=fun i h h' st k=>by
  obtain⟨hz,hI,⟨a,b',c',hO⟩,t1,t2,t3⟩:=st;exact⟨k z (by simp) _ hz,k TI (by simp) _ hI,⟨a,b',c',k TO (by simp) _ hO⟩,HH t1 (k i1 (by simp)),HH t2 (k i2 (by simp)),HH t3 (k i3 (by simp))⟩
 item:=by
  intro X hP hw hK hc i pins s σ H E I hf st hg;subst hP hw hK;obtain⟨xs,ys,us,x,y,u,hx,hy,hu,ex,ey,eu⟩:=hg;obtain⟨hz,hI,⟨a,b',c',hO⟩,t1,t2,t3⟩:=st;have hh:X.A.in1.handled=none:=I.ok.hd hc;obtain⟨fp1,P1,S1,D1,u1,r1,a1,_,g1⟩:=J7 (A:=X.A.in1) hh I hx t1 (hf i1 (by simp)).1;obtain⟨fp2,P2,S2,D2,u2,r2,a2,_,g2⟩:=J7 (A:=X.A.in1) hh I hy t2 (hf i2 (by simp)).1;obtain⟨fp3,P3,S3,D3,u3,r3,a3,_,g3⟩:=J7 (A:=X.A.in1) hh I hu t3 (hf i3 (by simp)).1;have ZA:=qK I Z hf g1 g2 g3;refine sy D1 D2 D3 ZA (D5.mp ex).1 (D5.mp ey).1 (D5.mp eu).1 hz hI hO u1 u2 u3 fun vx vy vu h' tk T px py pu hT hz' hO' w1 w2 w3 hTp kp=>?_;obtain⟨x',ex',rx⟩:=r1 i vx px;obtain⟨y',ey',ry⟩:=r2 i vy py;obtain⟨u',eu',ru⟩:=r3 i vu pu;rw[ex]at ex';cases ex';rw[ey]at ey';cases ey';rw[eu]at eu';cases eu';have nT:H T=none:=by rw[hT];exact I.hok.fresh<|D0 _
  refine⟨_,rfl,Iq hz' fun h2 hz2 sb=>?_⟩;have lt:∀{c o},s.heap.get? c=some o->c≠T:=fun e=>by rw[hT];exact Dv<|Dc e
  have up:∀c o,c≠z->h'.get? c=some o->h2.get? c=some o:=fun c o hc e=>(sb.2 c hc).trans e;have kp2:∀b o,b∉[z,TO,i1,i2,i3]->s.heap.get? b=some o->h2.get? b=some o:=fun b o hb e=>by
   simp only[Dh,DP,or_false,not_or]at hb;exact up b o hb.1<|kp b o hb.1 hb.2.1 hb.2.2.1 hb.2.2.2.1 hb.2.2.2.2 e
  have ch:∀b∈[z,TO,i1,i2,i3],b∈[z,TI,TO,i1,i2,i3]:=fun b hb=>by
   simp only[Dh,DP,or_false]at hb ⊢;rcases hb with h|h|h|h|h<;>simp[h]
  have gT:∀b u,H b=some u->b∉[z,TO,i1,i2,i3]/\b≠T:=fun b u e=>⟨fun hb=>(by rw[(hf b<|ch b hb).1]at e;cases e),fun q=>(by rw[q,nT]at e;cases e)⟩
  have I2:Inv X pins σ (cZ H T<|.tup [x,y,u]) {s with heap:=h2,gens:=s.gens,drawn:=s.drawn,toks:=tk}:=by
   refine I.step (g':=s.gens) (d':=s.drawn) (t':=tk) (ch:=[z,TO,i1,i2,i3]) (fun b hb=>⟨(hf b<|ch b hb).2.2.2.1,(hf b<|ch b hb).2.1,(hf b<|ch b hb).2.2.2.2.1,(hf b<|ch b hb).2.2.2.2.2⟩) (fun b o _ _ hb e _=>kp2 b o hb e) (fun b o _ _ hb e _=>⟨o.slots,kp2 b o hb e⟩)
    (fun b o hb e n=>by rw[aw<|lt e];exact n) (fun b o hb e=>⟨o,kp2 b o hb e⟩) (fun b xs e=>by rw[aw (gT b _ e).2];exact e) (fun b o u e=>by rw[aw (gT b _ e).2];exact e) (fun b ps e=>⟨#[],by rw[aw (gT b _ e).2,e];simp⟩) (fun m hm=>?_) (fun b u e=>?_) I.bare
   ·obtain⟨o,es,ep,ho,r⟩:=hm;exact⟨o,es,ep,kp2 _ o (fun hb=>(hf _<|ch _ hb).2.1 rfl) ho,r⟩
   ·by_cases hb:b=T
    ·subst hb;rw[aH]at e;cases e;refine⟨(by show 3<=sizeLine;rw[Ej];decide),[vx,vy,vu],.cons rx<|.cons ry<|.cons ru .nil,⟨_,up _ _ ?_ hTp,⟨rfl,rfl⟩,_,rfl⟩⟩;exact fun q=>lt hz q.symm
    ·rw[aw hb]at e;refine(I.hok b u e).stay (fun c v hc q=>kp2 c v ?_ q) (fun c q=>by rw[aw (gT c _ q).2];exact q) fun c xs q=>by rw[aw (gT c _ q).2];exact q
     rcases hc with q|q;·rw[q];exact(gT b u e).1
     ·exact(gT c _ q).1
  refine⟨.ref T,_,I2,rfl,⟨T,x,y,u,nT,rfl,fun xs' h=>by rw[MP I h hx];exact ex,fun ys' h=>by rw[MP I h hy];exact ey,fun us' h=>by rw[MP I h hu];exact eu,rfl⟩,⟨hz2,up _ _ Z.c1<|kp _ _ Z.c1 Z.c5 Z.c6 Z.c7 Z.c7' hI,⟨_,_,_,up _ _ Z.c2 hO'⟩,HH (a1 _ _ w1) fun o e=>up _ o Z.c3 e,HH (a2 _ _ w2) fun o e=>up _ o Z.c4 e,HH (a3 _ _ w3) fun o e=>up _ o Z.c4' e⟩,fun b hb=>?_⟩;have hbT:b≠T:=by
   obtain⟨o,e⟩:∃o,s.heap.get? b=some o:=by
    obtain⟨o1,e1,_⟩:=Im t1;obtain⟨o2,e2,_⟩:=Im t2;obtain⟨o3,e3,_⟩:=Im t3;simp only[Dh,DP,or_false]at hb;rcases hb with rfl|rfl|rfl|rfl|rfl|rfl;·exact⟨_,hz⟩
    ·exact⟨_,hI⟩
    ·exact⟨_,hO⟩
    ·exact⟨_,e1⟩
    ·exact⟨_,e2⟩
    ·exact⟨_,e3⟩
   exact lt e
  rw[aw hbT];exact(hf b hb).1
 done:=by
  intro X hP hw hK hc i pins s σ H E I hf st hg;subst hP hw hK;obtain⟨xs,ys,us,hx,hy,hu,hend⟩:=hg;obtain⟨hz,hI,⟨a,b',c',hO⟩,t1,t2,t3⟩:=st;have hh:X.A.in1.handled=none:=I.ok.hd hc;obtain⟨fp1,P1,S1,D1,u1,r1,a1,_,g1⟩:=J7 (A:=X.A.in1) hh I hx t1 (hf i1 (by simp)).1;obtain⟨fp2,P2,S2,D2,u2,r2,a2,_,g2⟩:=J7 (A:=X.A.in1) hh I hy t2 (hf i2 (by simp)).1;obtain⟨fp3,P3,S3,D3,u3,r3,a3,_,g3⟩:=J7 (A:=X.A.in1) hh I hu t3 (hf i3 (by simp)).1;have ZA:=qK I Z hf g1 g2 g3;have ch:∀b∈[z,TO,i1,i2,i3],b∈[z,TI,TO,i1,i2,i3]:=fun b hb=>by
   simp only[Dh,DP,or_false]at hb ⊢;rcases hb with h|h|h|h|h<;>simp[h]
  refine ur hh D1 D2 D3 ZA hend hz hI hO u1 u2 u3 fun h2 tk kp=>⟨rfl,?_⟩
  have kp2:∀b o,b∉[z,TO,i1,i2,i3]->s.heap.get? b=some o->h2.get? b=some o:=fun b o hb e=>by
   simp only[Dh,DP,or_false,not_or]at hb;exact kp b o hb.1 hb.2.1 hb.2.2.1 hb.2.2.2.1 hb.2.2.2.2 e
  refine I.step (g':=s.gens) (d':=s.drawn) (t':=tk) (ch:=[z,TO,i1,i2,i3]) (fun b hb=>⟨(hf b<|ch b hb).2.2.2.1,(hf b<|ch b hb).2.1,(hf b<|ch b hb).2.2.2.2.1,(hf b<|ch b hb).2.2.2.2.2⟩) (fun b o _ _ hb e _=>kp2 b o hb e) (fun b o _ _ hb e _=>⟨o.slots,kp2 b o hb e⟩)
   (fun b o hb e n=>n) (fun b o hb e=>⟨o,kp2 b o hb e⟩) (fun b xs e=>e) (fun b o u e=>e) (fun b ps e=>⟨#[],by rw[e];simp⟩) (fun m hm=>?_) (fun b u e=>?_) I.bare
  ·obtain⟨o,es,ep,ho,r⟩:=hm;exact⟨o,es,ep,kp2 _ o (fun hb=>(hf _<|ch _ hb).2.1 rfl) ho,r⟩
  ·have gT:∀b u,H b=some u->b∉[z,TO,i1,i2,i3]:=fun b u e hb=>by rw[(hf b<|ch b hb).1]at e;cases e
   refine(I.hok b u e).stay (fun c v hc q=>kp2 c v ?_ q) (fun c q=>q) fun c xs q=>q;rcases hc with q|q
   ·rw[q];exact gT b u e
   ·exact gT c _ q
 self:=fun _ _ _ _ _ st h=>Ht st.1 h
theorem Aj{x y z:V}{us:List CU}(r:Vals [x,y,z] us):∃u v w',us=[u,v,w']/\RelV x u/\RelV y v/\RelV z w':=by
 cases r with
 |cons h1 r=>cases r with
  |cons h2 r=>cases r with
   |cons h3 r=>cases r;exact⟨_,_,_,rfl,h1,h2,h3⟩
def yl(K:CT)(t:TA):TI:=fun σ H R=>t σ H fun vs H1=>∃c1 c2 c3 xs ys us,vs=[c1.val,c2.val,c3.val]/\c1.has K H1 xs/\c2.has K H1 ys/\c3.has K H1 us/\R (Ai K c1 c2 c3) H1
theorem wL{X:Cx}{K:CT}(hK:X.K=K){a b c:Expr}{ta:TA}{p pos tp:Pos}{elts:List Expr}{kk:Nat}(hg:Gl X "zip")(hm:X.mg "zip"=none)(ha:PA X [a,b,c] ta)
  (hs:starEach [a,b,c] X.env=[(false,eval a X.env),(false,eval b X.env),(false,eval c X.env)]:=by rfl) (hs2:starEach [b,c] X.env=[(false,eval b X.env),(false,eval c X.env)]:=by rfl):PI X (.Tuple elts kk tp) (.Call (.Name "zip" p) [a,b,c] [] pos) (yl K ta):=by
 subst hK;intro pins s σ H R I h;refine Mm (fM I hg hm boot_zip (Eh (bP (ha pos pins s σ H _ I h) fun us s1⟨vs,H1,I1,r1,q1⟩=>?_) (by rw[hs,hs2]) (by rw[hs2];rfl)));obtain⟨c1,c2,c3,xs,ys,zs,e,h1,h2,h3,q⟩:=q1;subst e;obtain⟨v1,v2,v3,rfl,ra,rb,rc⟩:=Aj r1;obtain⟨o1,i1,f1,n1⟩:=Mt I1 h1 ra fun _ _ e=>e;obtain⟨o2,i2,f2,n2⟩:=Mt (h:=s1.heap.push o1) I1 h2 rb fun _ _ e=>CQ _ e;obtain⟨o3,i3,f3,n3⟩:=Mt (h:=(s1.heap.push o1).push o2) I1 h3 rc fun _ _ e=>CQ _<|CQ _ e;have z1:(s1.heap.push o1).objs.size=s1.heap.objs.size+1:=E8 ..;have z2:((s1.heap.push o1).push o2).objs.size=s1.heap.objs.size+2:=by rw[E8,z1]
 rw[z1]at n2;rw[z2]at n3;refine sx i1 i2 i3 f1 f2 f3 fun h' hz hI hO e1 e2 e3 kp=>?_;refine Ht hz ?_;have zi:∀n:Nat,ZIds3 (n+5) (n+3) (n+4) n (n+1) (n+2):=fun n=>⟨(jb n 3 5 (by decide)),(jb n 4 5 (by decide)),(jb n 0 5 (by decide)),(jb n 1 5 (by decide)),(jb n 2 5 (by decide)),(jb n 3 4 (by decide)),(jb n 3 0 (by decide)),(jb n 3 1 (by decide)),(jb n 3 2 (by decide)),(jb n 4 0 (by decide)),(jb n 4 1 (by decide)),(jb n 4 2 (by decide)),(jb n 0 1 (by decide)),(jb n 0 2 (by decide)),(jb n 1 2 (by decide))⟩
 refine⟨s1.heap.objs.size+5,[s1.heap.objs.size+5,s1.heap.objs.size+3,s1.heap.objs.size+4,s1.heap.objs.size,s1.heap.objs.size+1,s1.heap.objs.size+2],_,_,H1,rfl,I1.kept (t':=s1.toks) kp,sA c1 c2 c3 _ _ _ _ _ _<|zi s1.heap.objs.size,⟨hz,hI,⟨_,_,_,hO⟩,n1 h' e1,n2 h' e2,n3 h' e3⟩,fun b hb=>?_,q⟩;have hb':s1.heap.objs.size<=b:=by
  simp only[Dh,DP,or_false]at hb;rcases hb with z|z|z|z|z|z<;>rw[z]
  ·exact Ep _ 5
  ·exact Ep _ 3
  ·exact Ep _ 4
  ·exact D0 _
  ·exact Ep _ 1
  ·exact Ep _ 2
 exact I1.fpOk hb'<|I1.hok.fresh hb'
end L2
namespace Mi
inductive Res(α:Type) where
 |ok (a:α)|err (j:Nat)|stuck
namespace Res
variable{α β:Type}
def Ok(m:Res α)(P:α->Prop):Prop:=match m with| .ok a=>P a|_=>False
def bind(m:Res α)(f:α->Res β):Res β:=match m with| .ok a=>f a| .err j=>.err j| .stuck=>.stuck
theorem bind_ok{m:Res α}{f:α->Res β}{P:β->Prop}(h:m.Ok fun a=>(f a).Ok P):(m.bind f).Ok P:=by cases m<;>exact h
theorem Ok.imp{m:Res α}{P Q:α->Prop}(h:m.Ok P)(k:∀a,P a->Q a):m.Ok Q:=by cases m<;>first|exact k _ h|exact h
theorem Ok.ex{m:Res α}{P:α->Prop}(h:m.Ok P):∃a,m=.ok a/\P a:=by
 cases m with
 |ok a=>exact⟨a,rfl,h⟩
 |err j=>exact h.elim
 |stuck=>exact h.elim
def OkE(m:Res α)(Er:Nat->Prop)(P:α->Prop):Prop:=match m with| .ok a=>P a| .err j=>Er j| .stuck=>False
theorem okE_bind{m:Res α}{f:α->Res β}{Er:Nat->Prop}{P:β->Prop}(h:(m.bind f).OkE Er P):m.OkE Er fun a=>(f a).OkE Er P:=by cases m<;>exact h
theorem OkE.imp{m:Res α}{Er:Nat->Prop}{P Q:α->Prop}(h:m.OkE Er P)(k:∀a,P a->Q a):m.OkE Er Q:=by cases m<;>first|exact k _ h|exact h
theorem Ok.e{m:Res α}{Er:Nat->Prop}{P:α->Prop}(h:m.Ok P):m.OkE Er P:=by
 cases m with
 |ok a=>exact h
 |err j=>exact h.elim
 |stuck=>exact h.elim
@[simp] theorem bind_ok'(a:α)(f:α->Res β):(Res.ok a).bind f=f a:=rfl
end Res
abbrev cap:Nat:=100000
def fz(b:Prop)[Decidable b]{α:Type}(a:α):Res α:=if b then .ok a else .stuck
theorem bK{b:Prop}[Decidable b]{α:Type}{a:α}(h:b):fz b a=.ok a:=if_pos h
theorem bw{b:Prop}[Decidable b]{α:Type}{a:α}{Er:Nat->Prop}{P:α->Prop}(h:(fz b a).OkE Er P):b/\P a:=by
 unfold fz at h;by_cases hb:b;·rw[if_pos hb]at h;exact⟨hb,h⟩
 ·rw[if_neg hb]at h;exact h.elim
def yZ{α:Type}:Option α->Res α
 |some a=>.ok a
 |none=>.stuck
theorem fT{α:Type}{o:Option α}{Er:Nat->Prop}{P:α->Prop}(h:(yZ o).OkE Er P):∃a,o=some a/\P a:=by
 cases o with
 |none=>exact h.elim
 |some a=>exact⟨a,rfl,h⟩
abbrev Tx:=List Nat
def dX(i:Int):Int:=if i<0 then -i else i
def jS(i j:Int):Res Int:=fz ((-(2^64)<i/\i<2^64)\/(-(2^64)<j/\j<2^64))<|i*j
def jT(i j:Int):Res Int:=fz (0<j/\j<1073741824)<|i/j
def jU(i j:Int):Res Int:=fz (0<j)<|i%j
def ixN(n:Nat)(i:Int):Option Nat:=if 0<=i then(if i<n then some i.toNat else none)else if -(n:Int)<=i then some (i+n).toNat else none
def tP{α:Type}(xs:List α)(i:Int):Option α:=(ixN xs.length i).bind fun j=>xs[j]?
theorem qL{α:Type}{xs:List α}{j:Nat}{v:α}(h:xs[j]? =some v):tP xs (j:Int)=some v:=by
 have hl:j<xs.length:=(D5.mp h).1;unfold tP ixN;rw[if_pos (by omega),if_pos (by omega),Ew];exact h
theorem uv{α:Type}{xs:List α}{i:Int}(h0:0<=i)(h1:i<xs.length):∃h:i.toNat<xs.length,tP xs i=some xs[i.toNat]:=by
 have h2:i.toNat<xs.length:=by omega
 refine⟨h2,?_⟩;have:=qL (xs:=xs) (j:=i.toNat) (v:=xs[i.toNat]) (by simp[h2]);rw[Int.toNat_of_nonneg h0]at this;exact this
def fA{α:Type}(xs:List α)(i:Int):Res α:=yZ<|tP xs i
def fD(x:Tx)(i:Int):Res Tx:=(fz (x.length<=cap) x).bind fun x=>(yZ<|tP x i).bind fun c=>.ok [c]
def jm(a b:Tx):Res Tx:=fz (a.length+b.length<=cap)<|a++b
def iw{α:Type}(a:List α)(x:α):Res (List α):=fz (a.length<cap)<|a++[x]
def z6(a:Tx)(n:Int):Res Tx:=match a with
 | [c]=>fz (0<=n/\n<=cap)<|Fp n.toNat c
 |_=>.stuck
def wM(x:Tx):Res Int:=fz (x.length<=cap) (x.length:Int)
def sIx(n d:Nat):Option Int->Nat
 |none=>d
 |some v=>if v<0 then(v+(n:Int)).toNat else min v.toNat n
def cut{α:Type}(l:List α)(lo hi:Option Int):List α:=(l.drop<|sIx l.length 0 lo).take (sIx l.length l.length hi-sIx l.length 0 lo)
def sC(x:Tx)(lo hi:Option Int):Res Tx:=fz (x.length<=cap)<|cut x lo hi
def jV{α:Type}(xs:List α)(i:Int)(x:α):Res (List α):=(yZ<|ixN xs.length i).bind fun j=>.ok<|xs.set j x
def uw(x:Tx)(c:Nat):Option Nat:=x.findIdx? (· ==c)
def ix(x y:Tx):Res Int:=match y with
 | [c]=>(yZ<|uw x c).bind fun j=>.ok (j:Int)
 |_=>.stuck
def nP(xs:List Tx):Res Tx:=fz (xs.flatten.length<=cap) xs.flatten
def look{κ α:Type}[DecidableEq κ](kvs:List (κ×α))(k:κ):Option α:=(kvs.find? fun p=>decide<|p.1=k).map (·.2)
def getD{κ α:Type}[DecidableEq κ](kvs:List (κ×α))(k:κ):Res α:=yZ<|look kvs k
def jW{α β:Type}(f:α->Res β):List α->Res (List β)
 | []=>.ok []
 |a::r=>(f a).bind fun b=>(jW f r).bind fun bs=>.ok (b::bs)
def fk{α β:Type}(xs:List α)(f:α->Res β):Res (List β):=(fz (xs.length<=cap) xs).bind fun xs=>jW f xs
def iy{α β:Type}(f:α->Res (Option β)):List α->Res (List β)
 | []=>.ok []
 |a::r=>(f a).bind fun b=>(iy f r).bind fun bs=>.ok (match b with|some b=>b::bs|none=>bs)
def nQ{α β:Type}(xs:List α)(f:α->Res (Option β)):Res (List β):=(fz (xs.length<=cap) xs).bind fun xs=>iy f xs
def bL{α S:Type}(f:α->S->Res S):List α->S->Res S
 | [],s=>.ok s
 |a::r,s=>(f a s).bind fun s=>bL f r s
inductive Fl(γ S:Type) where
 |nx (s:S)|bk (s:S)|rt (r:γ)
def ux{S γ:Type}(k:S->Res (Fl γ S)):Fl γ S->Res (Fl γ S)
 | .nx s=>k s
 | .bk s=>.ok<|.nx s
 | .rt x=>.ok<|.rt x
def eV{α S γ:Type}(f:α->S->Res (Fl γ S)):List α->S->Res (Fl γ S)
 | [],s=>.ok<|.nx s
 |a::r,s=>(f a s).bind (ux<|eV f r)
def fB(n:Int):List Int:=(Ed n.toNat).map fun(i:Nat)=>(i:Int)
def gC(n:Int):Res (List Int):=fz (-(2^62)<=n/\n<2^62)<|fB n
def gD{α:Type}(xs:List α):List (Int×α):=(Ed xs.length).zipWith (fun(i:Nat)x=>((i:Int),x)) xs
def bb(x:Tx):List Tx:=x.map fun c=>[c]
def iW(xs:List Int):List Int:=xs.mergeSort fun a b=>decide<|a<=b
theorem jc(xs:List Int):(iW xs).Perm xs:=JT _ _
theorem lJ(xs:List Int):(iW xs).Pairwise (· <= ·):=by
 have:=J4 (le:=fun a b:Int=>decide<|a<=b) (fun a b c h1 h2=>by simp at *;omega) (fun a b=>by simp;omega) xs;exact this.imp fun h=>by simpa using h
theorem sD{xs ys:List Int}(h:ys.Perm xs)(hs:ys.Pairwise (· <= ·)):ys=iW xs:=
 IP (le:=(· <= ·)) (fun a b _ _ h1 h2=>by omega) hs (lJ xs) (h.trans (jc xs).symm)
def uy(xs:List Int):Res (List Int):=fz (xs.length<64)<|iW xs
def BU(x y:Tx):Res Bool:=match x with
 | [c]=>.ok<|y.contains c
 |_=>.stuck
def Ak{α:Type}[DecidableEq α](a b:α):Res Bool:=if a=b then .ok true else .stuck
def z7{α:Type}:List α->Res (α×α×α)
 | [a,b,c]=>.ok (a,b,c)
 |_=>.stuck
theorem qM{α β:Type}{f:α->Res β}{g:α->β}:∀{xs:List α},(∀x∈xs,f x=.ok (g x))->jW f xs=.ok (xs.map g)
 | [],_=>rfl
 |a::r,h=>by
  unfold jW;rw[h a<|Di ..,Res.bind_ok',qM fun x hx=>h x<|Dk _ hx];rfl
theorem eW{α β:Type}{f:α->Res β}{g:α->β}{xs:List α}(hl:xs.length<=cap)(h:∀x∈xs,f x=.ok (g x)):fk xs f=.ok (xs.map g):=by
 unfold fk;rw[bK hl,Res.bind_ok',qM h]
end Mi
open Mi.Res renaming okE_bind->CO,bind_ok'->CP,ok->CW,stuck->HY
open Mi.Res.Ok renaming imp->Fi
open Mi.Res.OkE renaming imp->DE
namespace Wb
open PySem L2 Mi
variable{Er:Nat->Prop}
structure Wd where
 G:Hp
 H:Hp
 ok:Same G H
structure Ext(W W':Wd):Prop where
 g:Same W.G W'.G
 h:Same W.H W'.H
 k:∀p,W.H p≠none->W'.G p=W.G p
theorem Ext.refl(W:Wd):Ext W W:=⟨.refl _,.refl _,fun _ _=>rfl⟩
theorem Ext.trans{W W1 W2:Wd}(a:Ext W W1)(b:Ext W1 W2):Ext W W2:=⟨a.g.trans b.g,a.h.trans b.h,fun p hp=>by
 obtain⟨o,ho⟩:=Ia.mp hp;rw[b.k p (by rw[a.h p o ho];exact fun z=>nomatch z),a.k p hp]⟩
theorem Same.upd2{G H:Hp}(h:Same G H)(p:Addr)(o:HO):Same (cZ G p o) (cZ H p o):=fun a u e=>by
 by_cases z:a=p;·subst z;rw[aH]at e ⊢;exact e
 ·rw[aw z]at e ⊢;exact h _ _ e
def Wd.new(W:Wd)(p:Addr)(o:HO):Wd:=⟨cZ W.G p o,cZ W.H p o,Same.upd2 W.ok p o⟩
theorem Wd.gnone(W:Wd){p:Addr}(h:W.H p=none):W.G p=none:=bp W.ok h
theorem Ext.new{W:Wd}{p:Addr}(o:HO)(h:W.H p=none):Ext W (W.new p o):=⟨cR<|W.gnone h,cR h,fun q hq=>aw fun z=>hq<|z▸h⟩
def Wd.mut(W:Wd)(p:Addr)(o:HO)(h:W.G p=none):Wd:=⟨W.G,cZ W.H p o,sv W.ok h⟩
theorem Ext.own{W:Wd}{p:Addr}(o:HO)(h:W.H p=none):Ext W (W.mut p o<|W.gnone h):=⟨.refl _,cR h,fun _ _=>rfl⟩
def Wd.frz(W:Wd)(p:Addr)(o:HO)(h:W.H p=some o):Wd:=⟨cZ W.G p o,W.H,fun a u e=>by
 by_cases z:a=p;·subst z;rw[aH]at e;cases e;exact h
 ·rw[aw z]at e;exact W.ok _ _ e⟩
theorem Ext.mut{W0 W:Wd}{p:Addr}{o:HO}(e:Ext W0 W)(hp:W0.H p=none)(h:W.G p=none):Ext W0 (W.mut p o h):=
 ⟨e.g,fun a u z=>by show cZ W.H p o a=_;rw[aw<|cq z hp];exact e.h _ _ z,e.k⟩
theorem Ext.frz{W0 W:Wd}{p:Addr}{o:HO}(e:Ext W0 W)(hp:W0.H p=none)(h:W.H p=some o)(hg:W.G p=none):Ext W0 (W.frz p o h):=
 ⟨e.g.trans<|cR hg,e.h,fun q hq=>by show cZ W.G p o q=_;rw[aw (fun z=>hq (by rw[z];exact hp))];exact e.k q hq⟩
abbrev Rw(α:Type):=Wd->α->V->Prop
class MonoW{α:Type}(R:Rw α):Prop where
 mono:∀{W W':Wd}{a:α}{v:V},Ext W W'->R W a v->R W' a v
def sh{α:Type}(R:Rp α):Rw α:=fun W a v=>R W.G a v
instance zkeep8{α:Type}{R:Rp α}[Mono R]:MonoW (sh R):=⟨fun e h=>CM (R:=R) e.g h⟩
def pk{α:Type}(R:Rp α):Rw (List α):=fun W xs v=>∃p vs,v=.ref p/\W.H p=some (.lst vs)/\LR R W.G xs vs
instance zkeep9{α:Type}{R:Rp α}[Mono R]:MonoW (pk R):=⟨fun e⟨p,vs,a,b,c⟩=>⟨p,vs,a,e.h _ _ b,c.same e.g⟩⟩
theorem pk.of{α:Type}{R:Rp α}{W:Wd}{xs:List α}{v:V}(h:isL R W.G xs v):pk R W xs v:=by
 obtain⟨p,vs,a,b,c⟩:=h;exact⟨p,vs,a,W.ok _ _ b,c⟩
structure Ow{α:Type}(R:Rp α)(W:Wd)(p:Addr)(xs:List α):Prop where
 g:W.G p=none
 h:∃vs,W.H p=some (.lst vs)/\LR R W.G xs vs
theorem Ow.mono{α:Type}{R:Rp α}[Mono R]{W W':Wd}{p:Addr}{xs:List α}(o:Ow R W p xs)(e:Ext W W'):Ow R W' p xs:=by
 obtain⟨vs,a,b⟩:=o.h;exact⟨by rw[e.k p (by rw[a];exact fun z=>nomatch z)];exact o.g,vs,e.h _ _ a,b.same e.g⟩
theorem Ow.pk{α:Type}{R:Rp α}{W:Wd}{p:Addr}{xs:List α}(o:Ow R W p xs):pk R W xs (.ref p):=by
 obtain⟨vs,a,b⟩:=o.h;exact⟨p,vs,rfl,a,b⟩
theorem Ow.frz{α:Type}{R:Rp α}[Mono R]{W0 W:Wd}{p:Addr}{xs:List α}(o:Ow R W p xs)(e:Ext W0 W)(hp:W0.H p=none):
  ∃W',W'.H=W.H/\Ext W0 W'/\Same W.G W'.G/\isL R W'.G xs (.ref p)/\∀q,q≠p->W'.G q=W.G q:=by
 obtain⟨vs,a,b⟩:=o.h;exact⟨W.frz p _ a,rfl,e.frz hp a o.g,cR o.g,⟨p,vs,rfl,aH,b.same<|cR o.g⟩,fun q hq=>aw hq⟩
theorem Ow.keep{α:Type}{R:Rp α}[Mono R]{W W':Wd}{q:Addr}{xs:List α}(o:Ow R W q xs)(hH:W'.H q=W.H q)(hs:Same W.G W'.G)(hg:W'.G q=W.G q):Ow R W' q xs:=by
 obtain⟨vs,a,b⟩:=o.h;exact⟨by rw[hg];exact o.g,vs,by rw[hH];exact a,b.same hs⟩
def EV(Er:Nat->Prop){α:Type}(t:TE)(σ:St)(W:Wd)(R:Rw α)(m:Res α):Prop:=∀W1,Ext W W1->∀Q:VK,m.OkE Er (fun a=>∀v W2,Ext W1 W2->R W2 a v->Q v W2.H)->t σ W1.H Q
def EVo(Er:Nat->Prop){α:Type}(t:TE)(σ:St)(W:Wd)(R:Rp α)(m:Res (List α)):Prop:=∀W1,Ext W W1->∀Q:VK,m.OkE Er (fun xs=>∀p W2,Ext W1 W2->W1.H p=none->Ow R W2 p xs->Q (.ref p) W2.H)->t σ W1.H Q
def TV(Er:Nat->Prop)(t:TT)(σ:St)(W:Wd)(m:Res Bool):Prop:=∀W1,Ext W W1->∀Q:Bool->Hp->Prop,m.OkE Er (fun b=>∀W2,Ext W1 W2->Q b W2.H)->t σ W1.H Q
section
variable{α β γ:Type}{t ta tb:TE}{σ:St}{W W0 W':Wd}{K:CT}
theorem EV.imp{R R':Rw α}{m:Res α}(h:EV Er t σ W R m)(f:∀W a v,R W a v->R' W a v):EV Er t σ W R' m:=fun W1 e1 Q k=>h W1 e1 Q<|k.imp fun a ka v W2 e2 r=>ka v W2 e2<|f _ _ _ r
theorem EVo.ev{R:Rp α}[Mono R]{m:Res (List α)}(h:EVo Er t σ W R m):EV Er t σ W (sh<|isL R) m:=fun W1 e1 Q k=>h W1 e1 Q (k.imp fun xs kx p W2 e2 hp o=>by
 obtain⟨W3,hH,e3,_,r,_⟩:=o.frz e2 hp;rw[<-hH];exact kx (.ref p) W3 e3 r)
theorem EVo.pk{R:Rp α}[Mono R]{m:Res (List α)}(h:EVo Er t σ W R m):EV Er t σ W (pk R) m:=fun W1 e1 Q k=>h W1 e1 Q<|k.imp fun xs kx p W2 e2 hp o=>kx (.ref p) W2 e2 o.pk
theorem EV.pk{R:Rp α}{m:Res (List α)}(h:EV Er t σ W (sh<|isL R) m):EV Er t σ W (pk R) m:=h.imp fun _ _ _ r=>pk.of r
theorem jX{R:Rw α}[MonoW R]{i:Nat}{v:V}{a:α}(r:R W a v)(h:σ[i]? =some (some v):=by rfl):EV Er (bQ i) σ W R (.ok a):=fun W1 e1 Q k=>⟨v,h,k v W1 (.refl _)<|MonoW.mono e1 r⟩
theorem dQ{R:Rp α}[Mono R]{i:Nat}{p:Addr}{a:List α}(r:Ow R W p a)(h:σ[i]? =some (some<|.ref p):=by rfl):EV Er (bQ i) σ W (pk R) (.ok a):=jX r.pk h
def isB:Rp Bool:=fun _ b v=>v=.bl b
instance zkeep10:Mono isB:=⟨fun _ h=>h⟩
def isO(R:Rp α):Rp (Option α):=fun H o v=>match o with|none=>v=.non|some a=>R H a v/\v≠.non
instance zkeep12{R:Rp α}[Mono R]:Mono (isO R):=⟨fun{H H' m v}e h=>by
 cases m with
 |none=>exact h
 |some a=>exact⟨CM e h.1,h.2⟩⟩
theorem ah{i:Int}:EV Er (tC<|.int i) σ W (sh isI) (.ok i):=fun W1 _ Q k=>k _ W1 (.refl _) rfl
theorem aV{x:Str}{l:Tx}(h:x=aM l):EV Er (tC<|.str x) σ W (sh isS) (.ok l):=fun W1 _ Q k=>k _ W1 (.refl _) (by rw[h];rfl)
theorem i5{b:Bool}:EV Er (tC<|.bl b) σ W (sh isB) (.ok b):=fun W1 _ Q k=>k _ W1 (.refl _) rfl
theorem wN{R:Rp α}:EV Er (tC .non) σ W (sh<|isO R) (.ok none):=fun W1 _ Q k=>k _ W1 (.refl _) rfl
theorem qN{r:R2}{Ra:Rw α}[MonoW Ra]{Rb:Rw β}{R:Rw γ}{ma:Res α}{mb:Res β}{f:α->β->Res γ}(ha:EV Er ta σ W Ra ma)(hb:EV Er tb σ W Rb mb)
  (h:∀W a b x y Q,Ra W a x->Rb W b y->(f a b).OkE Er (fun c=>∀v W2,Ext W W2->R W2 c v->Q v W2.H)->r x y W.H Q):EV Er (dw r ta tb) σ W R (ma.bind fun a=>mb.bind fun b=>f a b):=fun W1 e1 Q k=>by
 refine ha W1 e1 _<|(CO k).imp fun a ka x W2 e2 hx=>?_;refine hb W2 (e1.trans e2) _<|(CO ka).imp fun b kb y W3 e3 hy=>?_;exact h W3 a b x y Q (MonoW.mono e3 hx) hy<|kb.imp fun c kc v W4 e4 hv=>kc v W4 ((e2.trans e3).trans e4) hv
theorem C2{r:V->Hp->VK->Prop}{Ra:Rw α}{R:Rw γ}{ma:Res α}{f:α->Res γ}(ha:EV Er ta σ W Ra ma)
  (h:∀W a x Q,Ra W a x->(f a).OkE Er (fun c=>∀v W2,Ext W W2->R W2 c v->Q v W2.H)->r x W.H Q):EV Er (fP r ta) σ W R (ma.bind f):=fun W1 e1 Q k=>by
 refine ha W1 e1 _<|(CO k).imp fun a ka x W2 e2 hx=>?_;exact h W2 a x Q hx<|ka.imp fun c kc v W4 e4 hv=>kc v W4 (e2.trans e4) hv
section
variable{ma mb:Res Int}
theorem aX{g:Int->Int->Int}(ha:EV Er ta σ W (sh isI) ma)(hb:EV Er tb σ W (sh isI) mb):EV Er (dw (fe fun i j=>.int<|g i j) ta tb) σ W (sh isI) (ma.bind fun a=>mb.bind fun b=>.ok<|g a b):=
 qN ha hb fun W a b x y Q hx hy k=>by cases hx;cases hy;exact⟨a,b,rfl,rfl,k _ W (.refl _) rfl⟩
theorem uz{C:Int->Int->Prop}{g:Int->Int->Int}{f:Int->Int->Res Int}(hf:∀a b P,(f a b).OkE Er P->C a b/\P (g a b))(ha:EV Er ta σ W (sh isI) ma)(hb:EV Er tb σ W (sh isI) mb):
  EV Er (dw (rI C fun i j=>.int<|g i j) ta tb) σ W (sh isI) (ma.bind fun a=>mb.bind fun b=>f a b):=
 qN ha hb fun W a b x y Q hx hy k=>by cases hx;cases hy;exact⟨a,b,rfl,rfl,(hf a b _ k).1,(hf a b _ k).2 _ W (.refl _) rfl⟩
theorem jY(ha:EV Er ta σ W (sh isI) ma)(hb:EV Er tb σ W (sh isI) mb):EV Er (dw (rI CMul fun i j=>.int<|i*j) ta tb) σ W (sh isI) (ma.bind fun a=>mb.bind fun b=>jS a b):=uz (fun a b P h=>by unfold jS at h;obtain⟨h1,h2⟩:=bw h;exact⟨h1,h2⟩) ha hb
theorem qO(ha:EV Er ta σ W (sh isI) ma)(hb:EV Er tb σ W (sh isI) mb):EV Er (dw (rI A5 fun i j=>.int<|i/j) ta tb) σ W (sh isI) (ma.bind fun a=>mb.bind fun b=>jT a b):=uz (fun a b P h=>by unfold jT at h;obtain⟨h1,h2⟩:=bw h;exact⟨h1,h2⟩) ha hb
theorem iX(ha:EV Er ta σ W (sh isI) ma)(hb:EV Er tb σ W (sh isI) mb):EV Er (dw (rI (fun _ j=>0<j) fun i j=>.int<|i%j) ta tb) σ W (sh isI) (ma.bind fun a=>mb.bind fun b=>jU a b):=uz (fun a b P h=>by unfold jU at h;obtain⟨h1,h2⟩:=bw h;exact⟨h1,h2⟩) ha hb
theorem aq{C:Int->Int->Prop}{g:Int->Int->Int}{n:Int}(hn:∀a,C a n)(ha:EV Er ta σ W (sh isI) ma):EV Er (dw (rI C fun i j=>.int<|g i j) ta<|tC<|.int n) σ W (sh isI) (ma.bind fun a=>.ok<|g a n):=
 fun W1 e1 Q k=>ha W1 e1 _ ((CO k).imp fun a ka x W2 e2 hx=>by cases hx;exact⟨a,n,rfl,rfl,hn a,ka _ W2 e2 rfl⟩)
end
end
end Wb
open Wb.EV renaming pk->GN
open Wb.EVo renaming ev->FG,pk->Io
open Wb.Ext renaming new->GG
open Wb.MonoW renaming mono->DW
namespace Wb
open PySem L2 Mi
variable{Er:Nat->Prop}
section
variable{α β γ δ:Type}{t ta tb tc:TE}{σ:St}{W W0 W':Wd}{K:CT}
theorem uA{n:Nat}(h:n<=cap):n<=sizeLine:=by rw[Ej];unfold cap at h;omega
section
variable{ma mb:Res Int}
theorem ig(ha:EV Er ta σ W (sh isI) ma):EV Er (fP (rU fun i=>.int<|-i) ta) σ W (sh isI) (ma.bind fun a=>.ok<|-a):=
 C2 ha fun W a x Q hx k=>by cases hx;exact⟨a,rfl,k _ W (.refl _) rfl⟩
theorem d6{g:Int->Int->Bool}(ha:EV Er ta σ W (sh isI) ma)(hb:EV Er tb σ W (sh isI) mb):EV Er (dw (fe fun i j=>.bl<|g i j) ta tb) σ W (sh isB) (ma.bind fun a=>mb.bind fun b=>.ok<|g a b):=
 qN ha hb fun W a b x y Q hx hy k=>by cases hx;cases hy;exact⟨a,b,rfl,rfl,k _ W (.refl _) rfl⟩
end
theorem dI{a b:Int}:decide (G6 a=G6 b)=decide (a=b):=by rw[Fb];simp
theorem dS{a b:Tx}:decide (Ho (aM a)=Ho (aM b))=decide (a=b):=by
 rw[Fb,decide_eq_true_eq,decide_eq_true_eq];exact⟨fun h=>qG<|Ho.inj h,fun h=>by rw[h]⟩
theorem d9{ma mb:Res Int}(ha:EV Er ta σ W (sh isI) ma)(hb:EV Er tb σ W (sh isI) mb):EV Er (dw gd ta tb) σ W (sh isB) (ma.bind fun a=>mb.bind fun b=>.ok<|decide<|a=b):=
 qN ha hb fun W a b x y Q hx hy k=>by cases hx;cases hy;exact⟨rfl,by rw[dI];exact k _ W (.refl _) rfl⟩
theorem ij{ma mb:Res Tx}(ha:EV Er ta σ W (sh isS) ma)(hb:EV Er tb σ W (sh isS) mb):EV Er (dw gd ta tb) σ W (sh isB) (ma.bind fun a=>mb.bind fun b=>.ok<|decide<|a=b):=
 qN ha hb fun W a b x y Q hx hy k=>by cases hx;cases hy;exact⟨rfl,by rw[dS];exact k _ W (.refl _) rfl⟩
theorem z8{ma mb:Res Int}(ha:EV Er ta σ W (sh isI) ma)(hb:EV Er tb σ W (sh isI) mb):EV Er (dw gf ta tb) σ W (sh isB) (ma.bind fun a=>mb.bind fun b=>.ok<|!decide (a=b)):=
 qN ha hb fun W a b x y Q hx hy k=>by cases hx;cases hy;exact⟨rfl,by rw[dI];exact k _ W (.refl _) rfl⟩
theorem jZ{ma mb:Res Tx}(ha:EV Er ta σ W (sh isS) ma)(hb:EV Er tb σ W (sh isS) mb):EV Er (dw gf ta tb) σ W (sh isB) (ma.bind fun a=>mb.bind fun b=>.ok<|!decide (a=b)):=
 qN ha hb fun W a b x y Q hx hy k=>by cases hx;cases hy;exact⟨rfl,by rw[dS];exact k _ W (.refl _) rfl⟩
theorem aB{m:Res Bool}(h:EV Er t σ W (sh isB) m):TV Er (bF t) σ W m:=fun W1 e1 Q k=>h W1 e1 _<|k.imp fun b kb v W2 e2 hv=>⟨b,hv,kb W2 e2⟩
theorem k9{m:Res Bool}(h:EV Er t σ W (sh isB) m):TV Er (tB t) σ W m:=fun W1 e1 Q k=>h W1 e1 _<|k.imp fun b kb v W2 e2 hv=>⟨b,hv,kb W2 e2⟩
theorem iY{t:TT}{m:Res Bool}(h:TV Er t σ W m):TV Er (cJ t) σ W (m.bind fun b=>.ok<|!b):=fun W1 e1 Q k=>h W1 e1 _<|(CO k).imp fun b kb W2 e2=>kb W2 e2
theorem gE{t u:TT}{m n:Res Bool}(h:TV Er t σ W m)(g:TV Er u σ W n):TV Er (cI t u) σ W (m.bind fun b=>if b then n else .ok false):=fun W1 e1 Q k=>h W1 e1 _ ((CO k).imp fun b kb W2 e2=>by
 cases b with
 |true=>exact g W2 (e1.trans e2) _ (kb.imp fun c kc W3 e3=>kc W3<|e2.trans e3)
 |false=>exact kb W2 e2)
theorem uB{t u:TT}{m n:Res Bool}(h:TV Er t σ W m)(g:TV Er u σ W n):TV Er (gj t u) σ W (m.bind fun b=>if b then .ok true else n):=fun W1 e1 Q k=>h W1 e1 _ ((CO k).imp fun b kb W2 e2=>by
 cases b with
 |true=>exact kb W2 e2
 |false=>exact g W2 (e1.trans e2) _ (kb.imp fun c kc W3 e3=>kc W3 (e2.trans e3)))
theorem mJ{m n:Res Bool}(h:EV Er ta σ W (sh isB) m)(g:EV Er tb σ W (sh isB) n):EV Er (bE ta tb) σ W (sh isB) (m.bind fun b=>if b then n else .ok false):=fun W1 e1 Q k=>h W1 e1 _ ((CO k).imp fun b kb v W2 e2 hv=>⟨b,hv,by
 cases b with
 |true=>exact g W2 (e1.trans e2) _ (kb.imp fun c kc v W3 e3 hv=>kc v W3 (e2.trans e3) hv)
 |false=>exact kb _ W2 e2 rfl⟩)
theorem Al{m n:Res Bool}(h:EV Er ta σ W (sh isB) m)(g:EV Er tb σ W (sh isB) n):EV Er (cK ta tb) σ W (sh isB) (m.bind fun b=>if b then .ok true else n):=fun W1 e1 Q k=>h W1 e1 _ ((CO k).imp fun b kb v W2 e2 hv=>⟨b,hv,by
 cases b with
 |true=>exact kb _ W2 e2 rfl
 |false=>exact g W2 (e1.trans e2) _ (kb.imp fun c kc v W3 e3 hv=>kc v W3 (e2.trans e3) hv)⟩)
theorem nR{R:Rw α}{c:TT}{mc:Res Bool}{m n:Res α}(hc:TV Er c σ W mc)(h:EV Er ta σ W R m)(g:EV Er tb σ W R n):EV Er (gk c ta tb) σ W R (mc.bind fun b=>if b then m else n):=fun W1 e1 Q k=>hc W1 e1 _ ((CO k).imp fun b kb W2 e2=>by
 cases b with
 |true=>exact h W2 (e1.trans e2) _ (kb.imp fun c kc v W3 e3 hv=>kc v W3 (e2.trans e3) hv)
 |false=>exact g W2 (e1.trans e2) _ (kb.imp fun c kc v W3 e3 hv=>kc v W3 (e2.trans e3) hv))
theorem gU{ma mb:Res Tx}(ha:EV Er ta σ W (sh isS) ma)(hb:EV Er tb σ W (sh isS) mb):EV Er (dw (fun x y H Q=>∃i j,x=.str i/\y=.str j/\i.length+j.length<=sizeLine/\Q (.str<|i++j) H) ta tb) σ W (sh isS) (ma.bind fun a=>mb.bind fun b=>jm a b):=
 qN ha hb fun W a b x y Q hx hy k=>by
  cases hx;cases hy;obtain⟨h1,h2⟩:=bw k;exact⟨_,_,rfl,rfl,by rw[dg,dg];exact uA h1,by rw[jM];exact h2 _ W (.refl _) rfl⟩
theorem wO{ma:Res Tx}{mb:Res Int}(ha:EV Er ta σ W (sh isS) ma)(hb:EV Er tb σ W (sh isI) mb):EV Er (dw (fun x y H Q=>∃c n,x=.str (aM [c])/\y=.int n/\0<=n/\n<=100000/\Q (.str<|aM<|Fp n.toNat c) H) ta tb) σ W (sh isS) (ma.bind fun a=>mb.bind fun b=>z6 a b):=
 qN ha hb fun W a b x y Q hx hy k=>by
  cases hx;cases hy
  match a,k with
  | [c],k=>
   obtain⟨h1,h2⟩:=bw k;exact⟨c,b,rfl,rfl,h1.1,h1.2,h2 _ W (.refl _) rfl⟩
theorem bT{ma:Res Tx}{mb:Res Int}(ha:EV Er ta σ W (sh isS) ma)(hb:EV Er tb σ W (sh isI) mb):EV Er (dw cO ta tb) σ W (sh isS) (ma.bind fun a=>mb.bind fun b=>fD a b):=
 qN ha hb fun W a b x y Q hx hy k=>by
  cases hx;cases hy;obtain⟨h1,h2⟩:=bw<|CO k;obtain⟨c,h3,h4⟩:=fT<|CO h2;exact⟨_,b,c,rfl,rfl,by rw[dg];exact uA h1,by rw[mD];exact h3,h4 _ W (.refl _) rfl⟩
theorem Am{R:Rw α}{r:V->Option Int->Option Int->Hp->VK->Prop}{Ra:Rw β}[MonoW Ra]{ma:Res β}{tl th:TO}{ml mh:Res (Option Int)}{f:β->Option Int->Option Int->Res α}(ha:EV Er ta σ W Ra ma)
  (hl:∀W1,Ext W W1->∀Q:Option Int->Hp->Prop,ml.OkE Er (fun o=>∀W2,Ext W1 W2->Q o W2.H)->tl σ W1.H Q) (hh:∀W1,Ext W W1->∀Q:Option Int->Hp->Prop,mh.OkE Er (fun o=>∀W2,Ext W1 W2->Q o W2.H)->th σ W1.H Q)
  (h:∀W a x lo hi Q,Ra W a x->(f a lo hi).OkE Er (fun c=>∀v W2,Ext W W2->R W2 c v->Q v W2.H)->r x lo hi W.H Q):EV Er (fQ r ta tl th) σ W R (ma.bind fun a=>ml.bind fun lo=>mh.bind fun hi=>f a lo hi):=fun W1 e1 Q k=>
 ha W1 e1 _ ((CO k).imp fun a ka x W2 e2 hx=>hl W2 (e1.trans e2) _ ((CO ka).imp fun lo kl W3 e3=>hh W3 ((e1.trans e2).trans e3) _ ((CO kl).imp fun hi kh W4 e4=>
  h W4 a x lo hi Q (DW (e3.trans e4) hx) (kh.imp fun c kc v W5 e5 hv=>kc v W5 (((e2.trans e3).trans e4).trans e5) hv))))
theorem uC:∀W1,Ext W W1->∀Q:Option Int->Hp->Prop,(CW (none:Option Int)).OkE Er (fun o=>∀W2,Ext W1 W2->Q o W2.H)->aJ σ W1.H Q:=fun W1 _ Q k=>k W1<|.refl _
theorem uD{m:Res Int}(h:EV Er t σ W (sh isI) m):∀W1,Ext W W1->∀Q:Option Int->Hp->Prop,(m.bind fun i=>.ok<|some i).OkE Er (fun o=>∀W2,Ext W1 W2->Q o W2.H)->bB t σ W1.H Q:=fun W1 e1 Q k=>
 h W1 e1 _ ((CO k).imp fun i ki v W2 e2 hv=>⟨i,hv,ki W2 e2⟩)
theorem qP{ma:Res Tx}{tl th:TO}{ml mh:Res (Option Int)}(ha:EV Er ta σ W (sh isS) ma)
  (hl:∀W1,Ext W W1->∀Q:Option Int->Hp->Prop,ml.OkE Er (fun o=>∀W2,Ext W1 W2->Q o W2.H)->tl σ W1.H Q) (hh:∀W1,Ext W W1->∀Q:Option Int->Hp->Prop,mh.OkE Er (fun o=>∀W2,Ext W1 W2->Q o W2.H)->th σ W1.H Q):
  EV Er (fQ (fun x lo hi H Q=>∃l,x=.str (aM l)/\l.length<=sizeLine/\Q (.str<|aM<|jl l lo hi) H) ta tl th) σ W (sh isS) (ma.bind fun a=>ml.bind fun lo=>mh.bind fun hi=>sC a lo hi):=
 Am ha hl hh fun W a x lo hi Q hx k=>by
  cases hx;obtain⟨h1,h2⟩:=bw k;exact⟨a,rfl,uA h1,h2 _ W (.refl _) rfl⟩
theorem An(x:Tx)(c j:Nat)(h:uw x c=some j):I9 (aM x) (aM [c])=(j:Int):=by
 unfold uw at h;rw[List.findIdx?_eq_some_iff_getElem]at h;obtain⟨hj,h1,h2⟩:=h;have hat:∀i,StrLaws.At (aM x) (aM [c]) (aM x).length i↔x[i]? =some c:=fun i=>by
  have:=StrLaws.subAt_one (aM x) c i;rw[mD]at this;exact this
 unfold I9;rcases StrLaws.occ_head (aM x) (aM [c]) 1 (D0 _)with⟨_,hn⟩|⟨i,r,e,hi,hk⟩
 ·exact absurd ((hat j).mpr (by rw[CZ hj];simpa using h1))<|hn j
 ·rw[e];have e2:=(hat i).mp hi;obtain⟨hil,e3⟩:=D5.mp e2;have:i=j:=by
   rcases Nat.lt_trichotomy i j with z|z|z;·exact absurd e3 (by simpa using h2 i z)
   ·exact z
   ·exact absurd ((hat j).mpr (by rw[CZ hj];simpa using h1))<|hk j z
  rw[this]
theorem fU{ma mb:Res Tx}{K:CT}(ha:EV Er ta σ W (sh isS) ma)(hb:EV Er tb σ W (sh isS) mb):EV Er (fj K "str" (fun x xs H Q=>∃a b,x=.str a/\xs=[.str b]/\0<=I9 a b/\Q (.int<|I9 a b) H) ta<|ao tb aU) σ W (sh isI) (ma.bind fun a=>mb.bind fun b=>ix a b):=fun W1 e1 Q k=>
 ha W1 e1 _ ((CO k).imp fun a ka x W2 e2 hx=>by
  cases hx;refine⟨rfl,hb W2 (e1.trans e2) _<|(CO ka).imp fun b kb y W3 e3 hy=>?_⟩;cases hy
  match b,kb with
  | [c],kb=>
   obtain⟨j,h1,h2⟩:=fT (CO kb);have e:=An a c j h1;exact⟨_,_,rfl,rfl,by rw[e];omega,by rw[e];exact h2 _ W3 (e2.trans e3) rfl⟩)
theorem z9{ma mb:Res Tx}(ha:EV Er ta σ W (sh isS) ma)(hb:EV Er tb σ W (sh isS) mb):EV Er (dw (fun x y H Q=>∃i j,x=.str i/\y=.str j/\Q (.bl<|!(GX j i 0 j.length 1).isEmpty) H) ta tb) σ W (sh isB) (ma.bind fun a=>mb.bind fun b=>BU a b):=
 qN ha hb fun W a b x y Q hx hy k=>by
  cases hx;cases hy
  match a,k with
  | [c],k=>
   refine⟨_,_,rfl,rfl,?_⟩;have e:(!(GX (aM b) (aM [c]) 0 (aM b).length 1).isEmpty)=b.contains c:=by
    have:=StrLaws.found_one (aM b) c;rw[mD]at this;rw[this,Fb];simp
   rw[e];exact k _ W (.refl _) rfl
theorem Same.tup{H H':Hp}{a:Addr}{xs:List V}(e:Same H H')(h:SqT K H a xs):SqT K H' a xs:=by
 rcases h with(h|⟨o,h⟩)|h;·exact .inl<|.inl<|e _ _ h
 ·exact .inl<|.inr ⟨o,e _ _ h⟩
 ·exact .inr h
def isT2(K:CT)(R1:Rp α)(R2:Rp β):Rp (α×β):=fun H a v=>∃p x y,v=.ref p/\SqT K H p [x,y]/\R1 H a.1 x/\R2 H a.2 y
def isT3(K:CT)(R1:Rp α)(R2:Rp β)(R3:Rp γ):Rp (α×β×γ):=fun H a v=>∃p x y z,v=.ref p/\SqT K H p [x,y,z]/\R1 H a.1 x/\R2 H a.2.1 y/\R3 H a.2.2 z
instance zkeep14{R1:Rp α}{R2:Rp β}[Mono R1][Mono R2]:Mono (isT2 K R1 R2):=⟨fun e⟨p,x,y,h0,h,h1,h2⟩=>⟨p,x,y,h0,Same.tup e h,CM e h1,CM e h2⟩⟩
instance zkeep15{R1:Rp α}{R2:Rp β}{R3:Rp γ}[Mono R1][Mono R2][Mono R3]:Mono (isT3 K R1 R2 R3):=⟨fun e⟨p,x,y,z,h0,h,h1,h2,h3⟩=>⟨p,x,y,z,h0,Same.tup e h,CM e h1,CM e h2,CM e h3⟩⟩
theorem jq{R1:Rp α}{R2:Rp β}[Mono R1][Mono R2]{ma:Res α}{mb:Res β}(ha:EV Er ta σ W (sh R1) ma)(hb:EV Er tb σ W (sh R2) mb):EV Er (cB<|ao ta<|ao tb aU) σ W (sh<|isT2 K R1 R2) (ma.bind fun a=>mb.bind fun b=>.ok (a,b)):=fun W1 e1 Q k=>
 ha W1 e1 _ ((CO k).imp fun a ka x W2 e2 hx=>hb W2 (e1.trans e2) _ ((CO ka).imp fun b kb y W3 e3 hy=>⟨(by show 2<=sizeLine;decide),fun p hp=>
  kb (.ref p) (W3.new p (.tup [x,y])) ((e2.trans e3).trans (.new _ hp)) ⟨p,x,y,rfl,KW aH,CM (GG _ hp).g (CM (R:=R1) e3.g hx),CM (R:=R2) (GG _ hp).g hy⟩⟩))
theorem dh{R1:Rp α}{R2:Rp β}{R3:Rp γ}[Mono R1][Mono R2][Mono R3]{ma:Res α}{mb:Res β}{mc:Res γ}(ha:EV Er ta σ W (sh R1) ma)(hb:EV Er tb σ W (sh R2) mb)(hc:EV Er tc σ W (sh R3) mc):
  EV Er (cB<|ao ta<|ao tb<|ao tc aU) σ W (sh<|isT3 K R1 R2 R3) (ma.bind fun a=>mb.bind fun b=>mc.bind fun c=>.ok (a,b,c)):=fun W1 e1 Q k=>
 ha W1 e1 _ ((CO k).imp fun a ka x W2 e2 hx=>hb W2 (e1.trans e2) _ ((CO ka).imp fun b kb y W3 e3 hy=>hc W3 ((e1.trans e2).trans e3) _ ((CO kb).imp fun c kc z W4 e4 hz=>⟨(by show 3<=sizeLine;decide),fun p hp=>
  kc (.ref p) (W4.new p (.tup [x,y,z])) (((e2.trans e3).trans e4).trans (.new _ hp)) ⟨p,x,y,z,rfl,KW aH,CM (GG _ hp).g (CM (R:=R1) (e3.trans e4).g hx),CM (R:=R2) (GG _ hp).g (CM (R:=R2) e4.g hy),CM (R:=R3) (GG _ hp).g hz⟩⟩)))
theorem bf{R:Rp α}{Rt:Rp β}{m:Res β}{i:Int}{f:β->α}(h:∀H b v,Rt H b v->∃p xs x,v=.ref p/\SqT K H p xs/\L2.atI xs i=some x/\R H (f b) x)(ha:EV Er ta σ W (sh Rt) m):EV Er (dw (cC K) ta<|tC<|.int i) σ W (sh R) (m.bind fun b=>.ok<|f b):=fun W1 e1 Q k=>
 ha W1 e1 _ ((CO k).imp fun b kb v W2 e2 hv=>by
  obtain⟨p,xs,x,h1,h2,h3,h4⟩:=h _ _ _ hv;exact⟨p,xs,i,x,h1,rfl,Same.tup W2.ok h2,h3,kb _ W2 e2 h4⟩)
theorem Ao{R1:Rp α}{R2:Rp β}:∀H b v,isT2 K R1 R2 H b v->∃p xs x,v=.ref p/\SqT K H p xs/\L2.atI xs 0=some x/\R1 H b.1 x:=fun _ _ _⟨p,x,y,h0,h,h1,h2⟩=>⟨p,_,x,h0,h,rfl,h1⟩
theorem Ap{R1:Rp α}{R2:Rp β}:∀H b v,isT2 K R1 R2 H b v->∃p xs x,v=.ref p/\SqT K H p xs/\L2.atI xs 1=some x/\R2 H b.2 x:=fun _ _ _⟨p,x,y,h0,h,h1,h2⟩=>⟨p,_,y,h0,h,rfl,h2⟩
theorem nS{R1:Rp α}{R2:Rp β}{R3:Rp γ}:∀H b v,isT3 K R1 R2 R3 H b v->∃p xs x,v=.ref p/\SqT K H p xs/\L2.atI xs 0=some x/\R1 H b.1 x:=fun _ _ _⟨p,x,y,z,h0,h,h1,h2,h3⟩=>⟨p,_,x,h0,h,rfl,h1⟩
theorem lb{R1:Rp α}{R2:Rp β}{R3:Rp γ}:∀H b v,isT3 K R1 R2 R3 H b v->∃p xs x,v=.ref p/\SqT K H p xs/\L2.atI xs 1=some x/\R2 H b.2.1 x:=fun _ _ _⟨p,x,y,z,h0,h,h1,h2,h3⟩=>⟨p,_,y,h0,h,rfl,h2⟩
theorem mK{R1:Rp α}{R2:Rp β}{R3:Rp γ}:∀H b v,isT3 K R1 R2 R3 H b v->∃p xs x,v=.ref p/\SqT K H p xs/\L2.atI xs 2=some x/\R3 H b.2.2 x:=fun _ _ _⟨p,x,y,z,h0,h,h1,h2,h3⟩=>⟨p,_,z,h0,h,rfl,h3⟩
theorem qQ{R:Rp α}{H:Hp}{as:List α}{xs:List V}(h:LR R H as xs){i:Int}{a:α}(e:tP as i=some a):∃x,L2.atI xs i=some x/\R H a x:=by
 unfold tP at e;unfold L2.atI;rw[h.1];cases z:Mi.ixN as.length i with
 |none=>rw[z]at e;cases e
 |some j=>
  rw[z]at e;obtain⟨x,h1,h2⟩:=h.get (i:=j) e;exact⟨x,by show(L2.ixN as.length i).bind _=_;rw[show L2.ixN as.length i=Mi.ixN as.length i from rfl,z];exact h1,h2⟩
theorem LR.three{R:Rp α}{H:Hp}{a b c:α}{x y z:V}(h1:R H a x)(h2:R H b y)(h3:R H c z):LR R H [a,b,c] [x,y,z]:=⟨rfl,fun i v m e1 e2=>by
 match i,e1,e2 with
 |0,e1,e2=>cases e1;cases e2;exact h1
 |1,e1,e2=>cases e1;cases e2;exact h2
 |2,e1,e2=>cases e1;cases e2;exact h3⟩
theorem bY{R:Rp α}[Mono R]{ma:Res (List α)}{mb:Res Int}(ha:EV Er ta σ W (pk R) ma)(hb:EV Er tb σ W (sh isI) mb):EV Er (dw (cw K) ta tb) σ W (sh R) (ma.bind fun a=>mb.bind fun b=>fA a b):=
 qN ha hb fun W a b x y Q hx hy k=>by
  cases hy;obtain⟨p,vs,rfl,h,h1⟩:=hx;obtain⟨c,h4,h5⟩:=fT k;obtain⟨z,h6,h7⟩:=qQ h1 h4;exact⟨p,_,b,z,rfl,rfl,Fv h,h6,h5 _ W (.refl _) h7⟩
theorem gV{R:Rp α}:EVo Er (cv aU) σ W R (.ok []):=fun W1 e1 Q k=>⟨by decide,fun p hp=>k p (W1.mut p (.lst [])<|W1.gnone hp) (.own _ hp) hp ⟨W1.gnone hp,[],aH,.nil⟩⟩
def AV(Er:Nat->Prop)(t:TA)(σ:St)(W:Wd)(R:Rp α)(n:Nat)(m:Res (List α)):Prop:=∀W1,Ext W W1->∀Q:List V->Hp->Prop,m.OkE Er (fun as=>∀vs W2,Ext W1 W2->vs.length=n->LR R W2.G as vs->Q vs W2.H)->t σ W1.H Q
theorem gF{R:Rp α}:AV Er aU σ W R 0 (.ok []):=fun W1 _ Q k=>k [] W1 (.refl _) rfl .nil
theorem LR.cons{R:Rp α}{H:Hp}{a:α}{v:V}{as:List α}{vs:List V}(h:R H a v)(r:LR R H as vs):LR R H (a::as) (v::vs):=⟨by simp[r.1],fun i x m e1 e2=>by
 cases i with
 |zero=>cases e1;cases e2;exact h
 |succ j=>exact r.2 j x m e1 e2⟩
theorem bO{R:Rp α}[Mono R]{n:Nat}{ts:TA}{m:Res α}{ms:Res (List α)}(h:EV Er t σ W (sh R) m)(g:AV Er ts σ W R n ms):AV Er (ao t ts) σ W R (n+1) (m.bind fun a=>ms.bind fun as=>.ok (a::as)):=fun W1 e1 Q k=>
 h W1 e1 _ ((CO k).imp fun a ka v W2 e2 hv=>g W2 (e1.trans e2) _ ((CO ka).imp fun as kas vs W3 e3 hn hvs=>kas (v::vs) W3 (e2.trans e3) (by simp[hn])<|.cons (CM (R:=R) e3.g hv) hvs))
theorem gG{R:Rp α}[Mono R]{n:Nat}{ts:TA}{ms:Res (List α)}(g:AV Er ts σ W R n ms)(hn:n<=cap:=by decide):EVo Er (cv ts) σ W R ms:=fun W1 e1 Q k=>
 g W1 e1 _ (k.imp fun as ka vs W2 e2 hv hvs=>⟨by rw[hv];exact uA hn,fun p hp=>ka p (W2.mut p (.lst vs)<|W2.gnone hp) (e2.trans<|.own _ hp) (bp e2.h hp) ⟨W2.gnone hp,vs,aH,hvs⟩⟩)
theorem LR.cut{R:Rp α}{H:Hp}{as:List α}{vs:List V}(h:LR R H as vs)(lo hi:Option Int):LR R H (Mi.cut as lo hi) (pA vs lo hi):=by
 unfold Mi.cut pA;rw[h.1];exact(h.drop _).take _
theorem wQ{R:Rp α}[Mono R]{ma:Res (List α)}{tl th:TO}{ml mh:Res (Option Int)}(ha:EV Er ta σ W (pk R) ma)
  (hl:∀W1,Ext W W1->∀Q:Option Int->Hp->Prop,ml.OkE Er (fun o=>∀W2,Ext W1 W2->Q o W2.H)->tl σ W1.H Q) (hh:∀W1,Ext W W1->∀Q:Option Int->Hp->Prop,mh.OkE Er (fun o=>∀W2,Ext W1 W2->Q o W2.H)->th σ W1.H Q):
  EVo Er (fQ (cD K) ta tl th) σ W R (ma.bind fun a=>ml.bind fun lo=>mh.bind fun hi=>.ok<|Mi.cut a lo hi):=fun W1 e1 Q k=>
 ha W1 e1 _ ((CO k).imp fun a ka x W2 e2 hx=>hl W2 (e1.trans e2) _ ((CO ka).imp fun lo kl W3 e3=>hh W3 ((e1.trans e2).trans e3) _ ((CO kl).imp fun hi kh W4 e4=>by
  obtain⟨p,vs,rfl,h1,h2⟩:=DW (e3.trans e4) hx;have e5:=(e2.trans e3).trans e4;exact⟨p,vs,rfl,Fv h1,fun r hr=>kh r (W4.mut r (.lst (pA vs lo hi)) (W4.gnone hr)) (e5.trans (.own _ hr)) (bp e5.h hr) ⟨W4.gnone hr,_,aH,h2.cut lo hi⟩⟩)))
theorem pJ{ma:Res Int}(ha:EV Er ta σ W (sh isI) ma):EV Er (eR (fun xs H Q=>∃i,xs=[.int i]/\Q (.int (if i<0 then -i else i)) H)<|ao ta aU) σ W (sh isI) (ma.bind fun a=>.ok<|dX a):=fun W1 e1 Q k=>
 ha W1 e1 _ ((CO k).imp fun a ka x W2 e2 hx=>by cases hx;exact⟨a,rfl,ka _ W2 e2 rfl⟩)
theorem fV{R:Rp α}{ma:Res (List α)}(ha:EV Er ta σ W (pk R) ma):EV Er (eR (fun xs H Q=>∃x n,xs=[x]/\pj K x H n/\Q (.int n) H)<|ao ta aU) σ W (sh isI) (ma.bind fun a=>.ok (a.length:Int)):=fun W1 e1 Q k=>
 ha W1 e1 _ ((CO k).imp fun a ka x W2 e2 hx=>by
  obtain⟨p,vs,rfl,h1,h2⟩:=hx;exact⟨_,a.length,rfl,.inl ⟨vs,Fv h1,h2.1.symm⟩,ka _ W2 e2 rfl⟩)
theorem qR{ma:Res Tx}(ha:EV Er ta σ W (sh isS) ma):EV Er (eR (fun xs H Q=>∃x n,xs=[x]/\pj K x H n/\Q (.int n) H)<|ao ta aU) σ W (sh isI) (ma.bind fun a=>wM a):=fun W1 e1 Q k=>
 ha W1 e1 _ ((CO k).imp fun a ka x W2 e2 hx=>by
  cases hx;obtain⟨h1,h2⟩:=bw ka;exact⟨_,a.length,rfl,⟨by rw[dg];exact uA h1,by rw[dg]⟩,h2 _ W2 e2 rfl⟩)
theorem mL{ma:Res (List Tx)}{x:Str}(hx:x=aM [])(ha:EV Er ta σ W (pk isS) ma):EV Er (fj K "str" (fun x xs H Q=>∃(p:Addr)(ys:List (List Nat)),x=.str (aM [])/\xs=[.ref p]/\SqL K H p (ys.map fun y=>Ho<|aM y)/\ys.flatten.length<=100000/\Q (.str<|aM ys.flatten) H) (tC<|.str x)<|ao ta aU) σ W (sh isS) (ma.bind fun a=>nP a):=fun W1 e1 Q k=>
 ⟨by show BI K "str" (.str x) W1.H;rfl,ha W1 e1 _ ((CO k).imp fun a ka v W2 e2 hv=>by
  obtain⟨p,vs,rfl,h1,h2⟩:=hv;obtain⟨h3,h4⟩:=bw ka;exact⟨p,a,by rw[hx],rfl,Fv (by rw[h1,h2.str]),h3,h4 _ W2 e2 rfl⟩)⟩
end
end Wb
open Wb.Same renaming tup->EZ
namespace Wb
open PySem L2 Mi
variable{Er:Nat->Prop}
abbrev Rt(β:Type):=Wd->β->VK->Prop
def rs{β:Type}(R:Rp β):Rt β:=fun W r Q=>∀u W',Ext W W'->R W'.G r u->Q u W'.H
def ro{β:Type}(R:Rp β):Rt (List β):=fun W r Q=>∀p W',Ext W W'->W.H p=none->Ow R W' p r->Q (.ref p) W'.H
section
variable{α β γ δ ε ζ:Type}
def dH(R1:Rp α)(rt:Rt β)(m:α->Res β):Sp:=fun vs H Q _=>∃(W:Wd)(a:α)(v:V),W.H=H/\vs=[v]/\R1 W.G a v/\∃Er:Nat->Prop,(m a).OkE Er fun r=>rt W r Q
def bG(R1:Rp α)(R2:Rp γ)(rt:Rt β)(m:α->γ->Res β):Sp:=fun vs H Q _=>∃(W:Wd)(a:α)(b:γ)(v u:V),W.H=H/\vs=[v,u]/\R1 W.G a v/\R2 W.G b u/\∃Er:Nat->Prop,(m a b).OkE Er fun r=>rt W r Q
def dz(R1:Rp α)(R2:Rp γ)(R3:Rp δ)(rt:Rt β)(m:α->γ->δ->Res β):Sp:=fun vs H Q _=>∃(W:Wd)(a:α)(b:γ)(c:δ)(v u w:V),W.H=H/\vs=[v,u,w]/\R1 W.G a v/\R2 W.G b u/\R3 W.G c w/\∃Er:Nat->Prop,(m a b c).OkE Er fun r=>rt W r Q
def gq(R1:Rp α)(R2:Rp γ)(R3:Rp δ)(R4:Rp ε)(rt:Rt β)(m:α->γ->δ->ε->Res β):Sp:=fun vs H Q _=>∃(W:Wd)(a:α)(b:γ)(c:δ)(d:ε)(v u w x:V),W.H=H/\vs=[v,u,w,x]/\R1 W.G a v/\R2 W.G b u/\R3 W.G c w/\R4 W.G d x/\∃Er:Nat->Prop,(m a b c d).OkE Er fun r=>rt W r Q
def eX(R1:Rp α)(R2:Rp γ)(R3:Rp δ)(R4:Rp ε)(R5:Rp ζ)(rt:Rt β)(m:α->γ->δ->ε->ζ->Res β):Sp:=fun vs H Q _=>∃(W:Wd)(a:α)(b:γ)(c:δ)(d:ε)(e:ζ)(v u w x y:V),W.H=H/\vs=[v,u,w,x,y]/\R1 W.G a v/\R2 W.G b u/\R3 W.G c w/\R4 W.G d x/\R5 W.G e y/\∃Er:Nat->Prop,(m a b c d e).OkE Er fun r=>rt W r Q
variable{t t1 t2 t3 t4 t5:TE}{σ:St}{W W0 W':Wd}{K:CT}
section
variable{R1:Rp α}{R2:Rp γ}{R3:Rp δ}{R4:Rp ε}{R5:Rp ζ}[Mono R1][Mono R2][Mono R3][Mono R4][Mono R5]{m1:Res α}{m2:Res γ}{m3:Res δ}{m4:Res ε}{m5:Res ζ}{E:XK}
theorem bV{R:Rp β}{m:α->Res β}(h1:EV Er t1 σ W (sh R1) m1):EV Er (aT (dH R1 (rs R) m) [] E<|ao t1 aU) σ W (sh R) (m1.bind fun a=>m a):=fun W1 e1 Q k=>
 h1 W1 e1 _ ((CO k).imp fun a ka v W2 e2 hv=>⟨W2,a,v,rfl,rfl,hv,Er,ka.imp fun r kr u W' e hu=>kr u W' (e2.trans e) hu⟩)
theorem aS{R:Rp β}{m:α->γ->Res β}(h1:EV Er t1 σ W (sh R1) m1)(h2:EV Er t2 σ W (sh R2) m2):EV Er (aT (bG R1 R2 (rs R) m) [] E<|ao t1<|ao t2 aU) σ W (sh R) (m1.bind fun a=>m2.bind fun b=>m a b):=fun W1 e1 Q k=>
 h1 W1 e1 _ ((CO k).imp fun a ka v W2 e2 hv=>h2 W2 (e1.trans e2) _<|(CO ka).imp fun b kb u W3 e3 hu=>⟨W3,a,b,v,u,rfl,rfl,DW (R:=sh R1) e3 hv,hu,Er,kb.imp fun r kr u W' e hu=>kr u W' ((e2.trans e3).trans e) hu⟩)
theorem gW{R:Rp β}{m:α->γ->Res (List β)}(h1:EV Er t1 σ W (sh R1) m1)(h2:EV Er t2 σ W (sh R2) m2):EVo Er (aT (bG R1 R2 (ro R) m) [] E<|ao t1<|ao t2 aU) σ W R (m1.bind fun a=>m2.bind fun b=>m a b):=fun W1 e1 Q k=>
 h1 W1 e1 _ ((CO k).imp fun a ka v W2 e2 hv=>h2 W2 (e1.trans e2) _<|(CO ka).imp fun b kb u W3 e3 hu=>⟨W3,a,b,v,u,rfl,rfl,DW (R:=sh R1) e3 hv,hu,Er,kb.imp fun r kr p W' e hp o=>kr p W' ((e2.trans e3).trans e) (bp (e2.trans e3).h hp) o⟩)
theorem cS{R:Rp β}{m:α->γ->δ->Res β}(h1:EV Er t1 σ W (sh R1) m1)(h2:EV Er t2 σ W (sh R2) m2)(h3:EV Er t3 σ W (sh R3) m3):EV Er (aT (dz R1 R2 R3 (rs R) m) [] E<|ao t1<|ao t2<|ao t3 aU) σ W (sh R) (m1.bind fun a=>m2.bind fun b=>m3.bind fun c=>m a b c):=fun W1 e1 Q k=>
 h1 W1 e1 _ ((CO k).imp fun a ka v W2 e2 hv=>h2 W2 (e1.trans e2) _ ((CO ka).imp fun b kb u W3 e3 hu=>h3 W3 ((e1.trans e2).trans e3) _ ((CO kb).imp fun c kc w W4 e4 hw=>
  ⟨W4,a,b,c,v,u,w,rfl,rfl,DW (R:=sh R1) (e3.trans e4) hv,DW (R:=sh R2) e4 hu,hw,Er,kc.imp fun r kr u W' e hu=>kr u W' (((e2.trans e3).trans e4).trans e) hu⟩)))
theorem fE{R:Rp β}{m:α->γ->δ->Res (List β)}(h1:EV Er t1 σ W (sh R1) m1)(h2:EV Er t2 σ W (sh R2) m2)(h3:EV Er t3 σ W (sh R3) m3):EVo Er (aT (dz R1 R2 R3 (ro R) m) [] E<|ao t1<|ao t2<|ao t3 aU) σ W R (m1.bind fun a=>m2.bind fun b=>m3.bind fun c=>m a b c):=fun W1 e1 Q k=>
 h1 W1 e1 _ ((CO k).imp fun a ka v W2 e2 hv=>h2 W2 (e1.trans e2) _ ((CO ka).imp fun b kb u W3 e3 hu=>h3 W3 ((e1.trans e2).trans e3) _ ((CO kb).imp fun c kc w W4 e4 hw=>
  ⟨W4,a,b,c,v,u,w,rfl,rfl,DW (R:=sh R1) (e3.trans e4) hv,DW (R:=sh R2) e4 hu,hw,Er,kc.imp fun r kr p W' e hp o=>kr p W' (((e2.trans e3).trans e4).trans e) (bp ((e2.trans e3).trans e4).h hp) o⟩)))
theorem iz{R:Rp β}{m:α->γ->δ->ε->Res β}(h1:EV Er t1 σ W (sh R1) m1)(h2:EV Er t2 σ W (sh R2) m2)(h3:EV Er t3 σ W (sh R3) m3)(h4:EV Er t4 σ W (sh R4) m4):EV Er (aT (gq R1 R2 R3 R4 (rs R) m) [] E<|ao t1<|ao t2<|ao t3<|ao t4 aU) σ W (sh R) (m1.bind fun a=>m2.bind fun b=>m3.bind fun c=>m4.bind fun d=>m a b c d):=fun W1 e1 Q k=>
 h1 W1 e1 _ ((CO k).imp fun a ka v W2 e2 hv=>h2 W2 (e1.trans e2) _ ((CO ka).imp fun b kb u W3 e3 hu=>h3 W3 ((e1.trans e2).trans e3) _ ((CO kb).imp fun c kc w W4 e4 hw=>h4 W4 (((e1.trans e2).trans e3).trans e4) _ ((CO kc).imp fun d kd x W5 e5 hx=>
  ⟨W5,a,b,c,d,v,u,w,x,rfl,rfl,DW (R:=sh R1) ((e3.trans e4).trans e5) hv,DW (R:=sh R2) (e4.trans e5) hu,DW (R:=sh R3) e5 hw,hx,Er,kd.imp fun r kr u W' e hu=>kr u W' ((((e2.trans e3).trans e4).trans e5).trans e) hu⟩))))
theorem eM{R:Rp β}{m:α->γ->δ->ε->Res (List β)}(h1:EV Er t1 σ W (sh R1) m1)(h2:EV Er t2 σ W (sh R2) m2)(h3:EV Er t3 σ W (sh R3) m3)(h4:EV Er t4 σ W (sh R4) m4):EVo Er (aT (gq R1 R2 R3 R4 (ro R) m) [] E<|ao t1<|ao t2<|ao t3<|ao t4 aU) σ W R (m1.bind fun a=>m2.bind fun b=>m3.bind fun c=>m4.bind fun d=>m a b c d):=fun W1 e1 Q k=>
 h1 W1 e1 _ ((CO k).imp fun a ka v W2 e2 hv=>h2 W2 (e1.trans e2) _ ((CO ka).imp fun b kb u W3 e3 hu=>h3 W3 ((e1.trans e2).trans e3) _ ((CO kb).imp fun c kc w W4 e4 hw=>h4 W4 (((e1.trans e2).trans e3).trans e4) _ ((CO kc).imp fun d kd x W5 e5 hx=>
  ⟨W5,a,b,c,d,v,u,w,x,rfl,rfl,DW (R:=sh R1) ((e3.trans e4).trans e5) hv,DW (R:=sh R2) (e4.trans e5) hu,DW (R:=sh R3) e5 hw,hx,Er,kd.imp fun r kr p W' e hp o=>kr p W' ((((e2.trans e3).trans e4).trans e5).trans e) (bp (((e2.trans e3).trans e4).trans e5).h hp) o⟩))))
theorem fF{R:Rp β}{m:α->γ->δ->ε->ζ->Res β}(h1:EV Er t1 σ W (sh R1) m1)(h2:EV Er t2 σ W (sh R2) m2)(h3:EV Er t3 σ W (sh R3) m3)(h4:EV Er t4 σ W (sh R4) m4)(h5:EV Er t5 σ W (sh R5) m5):EV Er (aT (eX R1 R2 R3 R4 R5 (rs R) m) [] E<|ao t1<|ao t2<|ao t3<|ao t4<|ao t5 aU) σ W (sh R) (m1.bind fun a=>m2.bind fun b=>m3.bind fun c=>m4.bind fun d=>m5.bind fun e=>m a b c d e):=fun W1 e1 Q k=>
 h1 W1 e1 _ ((CO k).imp fun a ka v W2 e2 hv=>h2 W2 (e1.trans e2) _ ((CO ka).imp fun b kb u W3 e3 hu=>h3 W3 ((e1.trans e2).trans e3) _ ((CO kb).imp fun c kc w W4 e4 hw=>h4 W4 (((e1.trans e2).trans e3).trans e4) _ ((CO kc).imp fun d kd x W5 e5 hx=>h5 W5 ((((e1.trans e2).trans e3).trans e4).trans e5) _ ((CO kd).imp fun e ke y W6 e6 hy=>
  ⟨W6,a,b,c,d,e,v,u,w,x,y,rfl,rfl,DW (R:=sh R1) (((e3.trans e4).trans e5).trans e6) hv,DW (R:=sh R2) ((e4.trans e5).trans e6) hu,DW (R:=sh R3) (e5.trans e6) hw,DW (R:=sh R4) e6 hx,hy,Er,ke.imp fun r kr u W' e hu=>kr u W' (((((e2.trans e3).trans e4).trans e5).trans e6).trans e) hu⟩)))))
theorem fG{R:Rp β}{m:α->γ->δ->ε->ζ->Res (List β)}(h1:EV Er t1 σ W (sh R1) m1)(h2:EV Er t2 σ W (sh R2) m2)(h3:EV Er t3 σ W (sh R3) m3)(h4:EV Er t4 σ W (sh R4) m4)(h5:EV Er t5 σ W (sh R5) m5):EVo Er (aT (eX R1 R2 R3 R4 R5 (ro R) m) [] E<|ao t1<|ao t2<|ao t3<|ao t4<|ao t5 aU) σ W R (m1.bind fun a=>m2.bind fun b=>m3.bind fun c=>m4.bind fun d=>m5.bind fun e=>m a b c d e):=fun W1 e1 Q k=>
 h1 W1 e1 _ ((CO k).imp fun a ka v W2 e2 hv=>h2 W2 (e1.trans e2) _ ((CO ka).imp fun b kb u W3 e3 hu=>h3 W3 ((e1.trans e2).trans e3) _ ((CO kb).imp fun c kc w W4 e4 hw=>h4 W4 (((e1.trans e2).trans e3).trans e4) _ ((CO kc).imp fun d kd x W5 e5 hx=>h5 W5 ((((e1.trans e2).trans e3).trans e4).trans e5) _ ((CO kd).imp fun e ke y W6 e6 hy=>
  ⟨W6,a,b,c,d,e,v,u,w,x,y,rfl,rfl,DW (R:=sh R1) (((e3.trans e4).trans e5).trans e6) hv,DW (R:=sh R2) ((e4.trans e5).trans e6) hu,DW (R:=sh R3) (e5.trans e6) hw,DW (R:=sh R4) e6 hx,hy,Er,ke.imp fun r kr p W' e hp o=>kr p W' (((((e2.trans e3).trans e4).trans e5).trans e6).trans e) (bp ((((e2.trans e3).trans e4).trans e5).trans e6).h hp) o⟩)))))
end
def Yl(J:It)(W:Wd)(R:Rp α)(xs:List α):Prop:=∀W1:Wd,Same W.G W1.G->(∀(i:Nat)(a:α),xs[i]? =some a->J.go i W1.H/\∀x H',J.yld i W1.H x H'->∃W2:Wd,W2.H=H'/\Ext W1 W2/\R W2.G a x)/\J.stop xs.length W1.H
def IV(Er:Nat->Prop)(wi:TI)(σ:St)(W:Wd)(R:Rp α)(m:Res (List α)):Prop:=∀W1,Ext W W1->∀P:It->Hp->Prop,m.OkE Er (fun xs=>∀J W2,Ext W1 W2->Yl J W2 R xs->P J W2.H)->wi σ W1.H P
theorem di{R:Rp α}[Mono R]{m:Res (List α)}(h:EV Er t σ W (sh<|isL R) m):IV Er (tU K t) σ W R m:=fun W1 e1 P k=>
 h W1 e1 _ (k.imp fun xs kx v W2 e2 hv=>by
  obtain⟨p,vs,rfl,h1,h2⟩:=hv;refine⟨p,rfl,⟨vs,Fv (W2.ok _ _ h1)⟩,kx _ W2 e2 fun W3 e3=>⟨fun i a ha=>?_,vs,Fv (W3.ok _ _ (e3 _ _ h1)),by rw[h2.1];exact D0 _⟩⟩;obtain⟨x,hx,hr⟩:=h2.get ha;refine⟨⟨vs,x,Fv (W3.ok _ _ (e3 _ _ h1)),hx⟩,fun y H'⟨z1,z2⟩=>⟨W3,z1.symm,.refl _,?_⟩⟩;have:=z2 vs (Fv (W3.ok _ _ (e3 _ _ h1)));rw[hx]at this;cases this;exact CM e3 hr)
theorem iZ{m:Res Tx}(h:EV Er t σ W (sh isS) m):IV Er (Ab t) σ W isS (m.bind fun x=>.ok<|bb x):=fun W1 e1 P k=>
 h W1 e1 _ ((CO k).imp fun x kx v W2 e2 hv=>by
  cases hv;refine⟨x,rfl,kx _ W2 e2 fun W3 e3=>⟨fun i a ha=>?_,by show x.length<=(bb x).length;simp[bb]⟩⟩;unfold bb at ha;rw[D7]at ha;cases hc:x[i]? with
  |none=>rw[hc]at ha;cases ha
  |some c=>
   rw[hc]at ha;cases ha;refine⟨(D5.mp hc).1,fun y H'⟨z1,c',z2,z3⟩=>⟨W3,z1.symm,.refl _,?_⟩⟩;rw[hc]at z2;cases z2;exact z3)
theorem kf{m:Res Int}(h:EV Er t σ W (sh isI) m):IV Er (yf<|ao t aU) σ W isI (m.bind fun n=>gC n):=fun W1 e1 P k=>
 h W1 e1 _ ((CO k).imp fun n kn v W2 e2 hv=>by
  cases hv;obtain⟨hb,kn⟩:=bw kn;refine⟨n,rfl,hb.1,hb.2,kn _ W2 e2 fun W3 e3=>⟨fun i a ha=>?_,by show n.toNat<=(fB n).length;simp[fB]⟩⟩;unfold fB at ha;rw[D7]at ha;have hi:i<n.toNat:=by
   refine Ir fun z=>?_;rw[Ex.mpr (by simp;omega)]at ha;cases ha
  rw[Fx hi]at ha;cases ha;exact⟨hi,fun y H'⟨z1,z2⟩=>⟨W3,z1.symm,.refl _,by rw[z2];show G6 (0+(i:Int))=.int (i:Int);rw[M8]⟩⟩)
def SrcR(K:CT)(W:Wd)(R:Rp α)(xs:List α)(v:V):Prop:=∃(c:Src)(vs:List V),v=c.val/\(∀W1:Wd,Same W.G W1.G->c.has K W1.H vs)/\LR R W.G xs vs
theorem SrcR.mono{R:Rp α}[Mono R]{xs:List α}{v:V}(h:SrcR K W R xs v)(e:Same W.G W'.G):SrcR K W' R xs v:=by
 obtain⟨c,vs,h1,h2,h3⟩:=h;exact⟨c,vs,h1,fun W1 e1=>h2 W1<|e.trans e1,h3.same e⟩
def SV(Er:Nat->Prop)(t:TE)(σ:St)(W:Wd)(K:CT)(R:Rp α)(m:Res (List α)):Prop:=EV Er t σ W (fun W xs v=>SrcR K W R xs v) m
theorem fW{R:Rp α}[Mono R]{m:Res (List α)}(h:EV Er t σ W (sh<|isL R) m):SV Er t σ W K R m:=h.imp fun W xs v⟨p,vs,h0,h1,h2⟩=>⟨.lst p,vs,h0,fun W1 e1=>Fv<|W1.ok _ _<|e1 _ _ h1,h2⟩
theorem uE{H:Hp}(x:Tx):LR isS H (bb x) (x.map fun c=>Ho<|aM [c]):=⟨by simp[bb],fun i v m e1 e2=>by
 unfold bb at e2;rw[D7]at e1 e2;cases hc:x[i]? with
 |none=>rw[hc]at e1;cases e1
 |some c=>rw[hc]at e1 e2;cases e1;cases e2;rfl⟩
theorem uF{m:Res Tx}(h:EV Er t σ W (sh isS) m):SV Er t σ W K isS (m.bind fun x=>.ok<|bb x):=fun W1 e1 Q k=>
 h W1 e1 _ ((CO k).imp fun x kx v W2 e2 hv=>by cases hv;exact kx _ W2 e2 ⟨.str x,_,rfl,fun _ _=>rfl,uE x⟩)
theorem jr{R:Rp α}{m:Res (α×α×α)}(h:EV Er t σ W (sh<|isT3 K R R R) m):SV Er t σ W K R (m.bind fun x=>.ok [x.1,x.2.1,x.2.2]):=fun W1 e1 Q k=>
 h W1 e1 _ ((CO k).imp fun x kx v W2 e2 hv=>by
  obtain⟨p,a,b,c,h0,h,h1,h2,h3⟩:=hv;exact kx _ W2 e2 ⟨.tup p,_,h0,fun W3 e3=>EZ (e3.trans W3.ok) h,LR.three h1 h2 h3⟩)
theorem j4{R1:Rp α}{R2:Rp β}[Mono R1][Mono R2]{m1:Res (List α)}{m2:Res (List β)}(h1:SV Er t1 σ W K R1 m1)(h2:SV Er t2 σ W K R2 m2):IV Er (yW K<|ao t1<|ao t2 aU) σ W (isT2 K R1 R2) (m1.bind fun xs=>m2.bind fun ys=>.ok<|xs.zip ys):=fun W1 e1 P k=>
 h1 W1 e1 _ ((CO k).imp fun xs kx v W2 e2 hv=>h2 W2 (e1.trans e2) _ ((CO kx).imp fun ys ky u W3 e3 hu=>by
  obtain⟨c1,vs,rfl,a1,b1⟩:=SrcR.mono hv e3.g;obtain⟨c2,us,rfl,a2,b2⟩:=hu;refine⟨c1,c2,vs,us,rfl,a1 W3<|.refl _,a2 W3<|.refl _,ky _ W3 (e2.trans e3) fun W4 e4=>⟨fun i ab hab=>?_,?_⟩⟩
  ·rw[FJ]at hab;obtain⟨x,hx,rx⟩:=b1.get hab.1;obtain⟨y,hy,ry⟩:=b2.get hab.2;refine⟨⟨vs,us,x,y,a1 W4 e4,a2 W4 e4,hx,hy⟩,fun z H'⟨p,x',y',hp,z0,z1,z2,z3⟩=>⟨W4.new p<|.tup [x',y'],by rw[z3];rfl,.new _ hp,p,x',y',z0,KW aH,?_,?_⟩⟩
   ·have:=z1 vs<|a1 W4 e4;rw[hx]at this;cases this;exact CM (e4.trans (GG _ hp).g) rx
   ·have:=z2 us<|a2 W4 e4;rw[hy]at this;cases this;exact CM (e4.trans (GG _ hp).g) ry
  ·refine⟨vs,us,a1 W4 e4,a2 W4 e4,?_⟩;rw[FN,b1.1,b2.1];omega))
theorem uG{xs:List α}{i:Nat}{p:Int×α}(h:(gD xs)[i]? =some p):p.1=(i:Int)/\xs[i]? =some p.2:=by
 unfold gD at h;rw[Ju]at h;cases h1:(Ed xs.length)[i]? with
 |none=>rw[h1]at h;cases h
 |some j=>
  cases h2:xs[i]? with
  |none=>rw[h1,h2]at h;cases h
  |some x=>
   rw[h1,h2]at h;cases h;have hi:=(D5.mp h2).1;rw[Fx hi]at h1;cases h1;exact⟨rfl,rfl⟩
theorem uH{xs:List α}:(gD xs).length=xs.length:=by simp[gD]
theorem qS{R:Rp α}[Mono R]{m:Res (List α)}(h:EV Er t σ W (sh<|isL R) m):IV Er (yk K<|ao t aU) σ W (isT2 K isI R) (m.bind fun xs=>.ok<|gD xs):=fun W1 e1 P k=>
 h W1 e1 _ ((CO k).imp fun xs kx v W2 e2 hv=>by
  obtain⟨p,vs,rfl,h1,h2⟩:=hv;refine⟨p,vs,rfl,Fv (W2.ok _ _ h1),kx _ W2 e2 fun W3 e3=>⟨fun i ab hab=>?_,vs,Fv (W3.ok _ _ (e3 _ _ h1)),by rw[uH,h2.1]⟩⟩;obtain⟨hi,ha⟩:=uG hab;obtain⟨x,hx,rx⟩:=h2.get ha;refine⟨⟨vs,x,Fv (W3.ok _ _ (e3 _ _ h1)),hx⟩,fun z H'⟨q,x',hq,z0,z1,z2⟩=>⟨W3.new q (.tup [.int i,x']),by rw[z2];rfl,.new _ hq,q,_,x',z0,KW aH,by rw[hi];rfl,?_⟩⟩;have:=z1 vs (Fv (W3.ok _ _ (e3 _ _ h1)));rw[hx]at this;cases this;exact CM (e3.trans (GG _ hq).g) rx)
theorem sE{f:α->Res β}{xs:List α}{i:Nat}{a:α}(h:xs[i]? =some a):jW f (xs.drop i)=(f a).bind fun b=>(jW f<|xs.drop<|i+1).bind fun bs=>.ok (b::bs):=by
 obtain⟨hi,e⟩:=D5.mp h;rw[Eb hi,e];rfl
theorem pK{f:α->Res (Option β)}{xs:List α}{i:Nat}{a:α}(h:xs[i]? =some a):iy f (xs.drop i)=(f a).bind fun b=>(iy f<|xs.drop<|i+1).bind fun bs=>.ok (match b with|some b=>b::bs|none=>bs):=by
 obtain⟨hi,e⟩:=D5.mp h;rw[Eb hi,e];rfl
theorem fo{cap:List (Option Nat)}{wi:TI}{g:TG}{te:TE}{R:Rp α}{R':Rp β}[Mono R']{m:Res (List α)}{f:α->Res β}(hi:IV Er wi σ W R m)
  (hb:∀(W1:Wd)(a:α)(v:V),Ext W W1->R W1.G a v->∀Q:VK,(f a).OkE Er (fun b=>∀u W2,Ext W1 W2->R' W2.G b u->Q u W2.H)->g v (br cap σ) W1.H fun σ2 H2=>Keep (br cap σ) σ2/\te σ2 H2 Q):
  EVo Er (qI cap wi g yV te) σ W R' (m.bind fun xs=>fk xs f):=fun W1 e1 Q k=>by
 refine hi W1 e1 _<|(CO k).imp fun xs kx J W2 e2 hy=>?_;obtain⟨hl,kx⟩:=bw<|CO kx;refine⟨fun i n ys H=>n=xs.length-i/\i<=xs.length/\ys.length<=i/\∃(W3:Wd)(bs:List β),W3.H=H/\Ext W2 W3/\LR R' W3.G bs ys/\(jW f<|xs.drop i).OkE Er (fun r=>∀p W4,Ext W1 W4->W1.H p=none->Ow R' W4 p (bs++r)->Q (.ref p) W4.H),⟨xs.length,by simp,by simp,by simp,W2,[],rfl,.refl _,.nil,?_⟩,?_⟩;·simpa using kx
 ·rintro i n ys H ⟨rfl,hi1,hyl,W3,bs,rfl,e3,lr,q⟩;refine⟨by rw[Ej];unfold Mi.cap at hl;omega,?_⟩;by_cases hlt:i<xs.length
  ·obtain⟨a,ha⟩:∃a,xs[i]? =some a:=⟨xs[i],by simp[hlt]⟩
   obtain⟨h1,h2⟩:=(hy W3 e3.g).1 i a ha;refine .inr ⟨h1,fun ys' H'=>ys'.length<=i+1/\∃(W3:Wd)(bs:List β),W3.H=H'/\Ext W2 W3/\LR R' W3.G bs ys'/\(jW f<|xs.drop<|i+1).OkE Er (fun r=>∀p W4,Ext W1 W4->W1.H p=none->Ow R' W4 p (bs++r)->Q (.ref p) W4.H),fun ys' H'⟨z1,z2⟩=>⟨xs.length-(i+1),by omega,rfl,hlt,z1,z2⟩,fun x H' hx=>?_⟩;obtain⟨W4,rfl,e4,rx⟩:=h2 x H' hx;rw[sE ha]at q;have:=hb W4 a x (e1.trans<|(e2.trans e3).trans e4) rx (fun y H4=>(ys++[y]).length<=i+1/\∃(W3:Wd)(bs:List β),W3.H=H4/\Ext W2 W3/\LR R' W3.G bs (ys++[y])/\(jW f<|xs.drop<|i+1).OkE Er (fun r=>∀p W4,Ext W1 W4->W1.H p=none->Ow R' W4 p (bs++r)->Q (.ref p) W4.H))
    ((CO q).imp fun b kb u W5 e5 hu=>⟨by simp;exact hyl,W5,bs++[b],rfl,(e3.trans e4).trans e5,(lr.same (e4.trans e5).g).snoc hu,(CO kb).imp fun r kr=>by rw[Dq];exact kr⟩)
   exact this
  ·have e:i=xs.length:=by omega
   subst e;rw[G2]at q;refine .inl ⟨(hy W3 e3.g).2,fun D hD=>?_⟩;have e13:=e2.trans e3;have:=q D (W3.mut D (.lst ys)<|W3.gnone hD) (e13.trans<|.own _ hD) (bp e13.h hD) ⟨W3.gnone hD,ys,aH,by rw[EN];exact lr⟩;exact this
theorem nU{cap:List (Option Nat)}{wi:TI}{g:TG}{tf:TT}{te:TE}{R:Rp α}{R':Rp β}[Mono R']{m:Res (List α)}{f:α->Res (Option β)}(hi:IV Er wi σ W R m)
    (hb:∀(W1:Wd)(a:α)(v:V),Ext W W1->R W1.G a v->∀Q:Option V->Hp->Prop,(f a).OkE Er (fun b=>∀u W2,Ext W1 W2->(match b,u with|some b,some u=>R' W2.G b u|none,none=>True|_,_=>False)->Q u W2.H)->g v (br cap σ) W1.H fun σ2 H2=>Keep (br cap σ) σ2/\tf σ2 H2 fun b H3=>if b=true then te σ2 H3 (fun y H4=>Q (some y) H4)else Q none H3):
    EVo Er (qI cap wi g tf te) σ W R' (m.bind fun xs=>nQ xs f):=fun W1 e1 Q k=>by
  refine hi W1 e1 _<|(CO k).imp fun xs kx J W2 e2 hy=>?_;obtain⟨hl,kx⟩:=bw<|CO kx;refine⟨fun i n ys H=>n=xs.length-i/\i<=xs.length/\ys.length<=i/\∃(W3:Wd)(bs:List β),W3.H=H/\Ext W2 W3/\LR R' W3.G bs ys/\(iy f<|xs.drop i).OkE Er (fun r=>∀p W4,Ext W1 W4->W1.H p=none->Ow R' W4 p (bs++r)->Q (.ref p) W4.H),⟨xs.length,by simp,by simp,by simp,W2,[],rfl,.refl _,.nil,?_⟩,?_⟩;·simpa using kx
  · rintro i n ys H ⟨rfl,hi1,hyl,W3,bs,rfl,e3,lr,q⟩;refine⟨by rw[Ej];unfold Mi.cap at hl;omega,?_⟩;by_cases hlt:i<xs.length
    · obtain⟨a,ha⟩:∃a,xs[i]? =some a:=⟨xs[i],by simp[hlt]⟩
      obtain⟨h1,h2⟩:=(hy W3 e3.g).1 i a ha;refine .inr ⟨h1,fun ys' H'=>ys'.length<=i+1/\∃(W3:Wd)(bs:List β),W3.H=H'/\Ext W2 W3/\LR R' W3.G bs ys'/\(iy f<|xs.drop<|i+1).OkE Er (fun r=>∀p W4,Ext W1 W4->W1.H p=none->Ow R' W4 p (bs++r)->Q (.ref p) W4.H),fun ys' H'⟨z1,z2⟩=>⟨xs.length-(i+1),by omega,rfl,hlt,z1,z2⟩,fun x H' hx=>?_⟩;obtain⟨W4,rfl,e4,rx⟩:=h2 x H' hx;rw[pK ha]at q
      have:=hb W4 a x (e1.trans<|(e2.trans e3).trans e4) rx (fun y H4=>(match y with|some y=>ys++[y]|none=>ys).length<=i+1/\∃(W3:Wd)(bs:List β),W3.H=H4/\Ext W2 W3/\LR R' W3.G bs (match y with|some y=>ys++[y]|none=>ys)/\(iy f<|xs.drop<|i+1).OkE Er (fun r=>∀p W4,Ext W1 W4->W1.H p=none->Ow R' W4 p (bs++r)->Q (.ref p) W4.H))
        ((CO q).imp fun b kb u W5 e5 hu=>by
          match b,u,hu,kb with
          |some b,some u,hu,kb=>exact⟨by simp;exact hyl,W5,bs++[b],rfl,(e3.trans e4).trans e5,(lr.same (e4.trans e5).g).snoc hu,(CO kb).imp fun r kr=>by rw[Dq];exact kr⟩
          |none,none,hu,kb=>exact⟨by show ys.length<=i+1;omega,W5,bs,rfl,(e3.trans e4).trans e5,lr.same (e4.trans e5).g,(CO kb).imp fun r kr=>kr⟩)
      exact this
    · have e:i=xs.length:=by omega
      subst e;rw[G2]at q;refine .inl ⟨(hy W3 e3.g).2,fun D hD=>?_⟩;have e13:=e2.trans e3;have:=q D (W3.mut D (.lst ys)<|W3.gnone hD) (e13.trans<|.own _ hD) (bp e13.h hD) ⟨W3.gnone hD,ys,aH,by rw[EN];exact lr⟩;exact this
end
end Wb
open Wb.SrcR renaming mono->MT
namespace Wb
open PySem L2 Mi
variable{Er:Nat->Prop}
section
variable{α β γ δ:Type}{t u:TS}{te ti:TE}{g:TG}{D:Ends}{σ:St}{W W0 W':Wd}{K:CT}{i j k n:Nat}{P:St->Hp->Prop}{H:Hp}{v:V}
theorem gn{σ':St}(h:P σ' H)(hσ:σ.set i (some v)=σ':=by rfl):aR i v σ H P:=by subst hσ;exact h
theorem ik{σ':V->V->St}{R1:Rp α}{R2:Rp β}{ab:α×β}(h:isT2 K R1 R2 W.G ab v)(q:∀x y,R1 W.G ab.1 x->R2 W.G ab.2 y->P (σ' x y) W.H)(hσ:∀x y,(σ.set i<|some x).set j (some y)=σ' x y:=by intro _ _;rfl):cu K 2 (bg (aR i)<|bg (aR j) cA) v σ W.H P:=by
 obtain⟨p,x,y,h0,h,h1,h2⟩:=h;exact⟨p,_,h0,EZ W.ok h,rfl,x,_,rfl,y,_,rfl,rfl,by have:=q x y h1 h2;rw[<-hσ]at this;exact this⟩
theorem sF{σ':V->V->V->St}{R1:Rp α}{R2:Rp β}{R3:Rp γ}{ab:α×β×γ}(h:isT3 K R1 R2 R3 W.G ab v)(q:∀x y z,R1 W.G ab.1 x->R2 W.G ab.2.1 y->R3 W.G ab.2.2 z->P (σ' x y z) W.H)(hσ:∀x y z,((σ.set i<|some x).set j (some y)).set k (some z)=σ' x y z:=by intro _ _ _;rfl):cu K 3 (bg (aR i)<|bg (aR j)<|bg (aR k) cA) v σ W.H P:=by
 obtain⟨p,x,y,z,h0,h,h1,h2,h3⟩:=h;exact⟨p,_,h0,EZ W.ok h,rfl,x,_,rfl,y,_,rfl,z,_,rfl,rfl,by have:=q x y z h1 h2 h3;rw[<-hσ]at this;exact this⟩
theorem de{σ':V->St}{R:Rw α}{m:Res α}(h:EV Er te σ W R m)(q:m.OkE Er fun a=>∀v W',Ext W W'->R W' a v->D.nx (σ' v) W'.H)(hσ:∀v,σ.set i (some v)=σ' v:=by intro _;rfl):bR te (aR i) D σ W.H:=h W (.refl _) _ (q.imp fun a k v W' e r=>by have:=k v W' e r;rw[<-hσ]at this;exact this)
theorem wR{σ':Addr->St}{R:Rp α}{m:Res (List α)}(h:EVo Er te σ W R m)(q:m.OkE Er fun a=>∀p W',Ext W W'->W.H p=none->Ow R W' p a->D.nx (σ' p) W'.H)(hσ:∀p,σ.set i (some<|.ref p)=σ' p:=by intro _;rfl):bR te (aR i) D σ W.H:=h W (.refl _) _ (q.imp fun a k p W' e hp r=>by have:=k p W' e hp r;rw[<-hσ]at this;exact this)
theorem aK{R:Rw α}{m:Res α}(h:EV Er te σ W R m)(q:m.OkE Er fun a=>∀v W',Ext W W'->R W' a v->D.rt v W'.H):cz te D σ W.H:=h W (.refl _) _ q
theorem js{R:Rp α}{m:Res (List α)}(h:EVo Er te σ W R m)(q:m.OkE Er fun a=>∀p W',Ext W W'->W.H p=none->Ow R W' p a->D.rt (.ref p) W'.H):cz te D σ W.H:=h W (.refl _) _ q
theorem uI{c:TT}{m:Res Bool}(h:TV Er c σ W m)(q:m.OkE Er fun b=>∀W',Ext W W'->if b=true then t D σ W'.H else u D σ W'.H):jj c t u D σ W.H:=h W (.refl _) _ q
theorem mM{S:Type}{c:TT}{m:Res Bool}{mA mB:Res S}{P:S->Prop}(Iv:S->Wd->St->Prop)(h:TV Er c σ W m)(q:(m.bind fun b=>if b then mA else mB).OkE Er P)
  (hA:∀W'(N:St->Hp->Prop),Ext W W'->(∀s W1 σ1,Same W.G W1.G->Iv s W1 σ1->P s->N σ1 W1.H)->mA.OkE Er P->t {D with nx:=N} σ W'.H)
  (hB:∀W'(N:St->Hp->Prop),Ext W W'->(∀s W1 σ1,Same W.G W1.G->Iv s W1 σ1->P s->N σ1 W1.H)->mB.OkE Er P->u {D with nx:=N} σ W'.H)
  (hd:∀s W1 σ1,Same W.G W1.G->Iv s W1 σ1->P s->D.nx σ1 W1.H):jj c t u D σ W.H:=h W (.refl _) _ ((CO q).imp fun b kb W' e=>by
 cases b with
 |true=>exact hA W' D.nx e hd kb
 |false=>exact hB W' D.nx e hd kb)
theorem Ow.ne{R:Rp α}{p q:Addr}{ys:List α}(o:Ow R W q ys)(hp:W.H p=none):q≠p:=by
 obtain⟨vs,a,b⟩:=o.h;exact cq a hp
structure Mu(W W':Wd)(p:Addr):Prop where
 g:Same W.G W'.G
 e:∀W0:Wd,Ext W0 W->W0.H p=none->Ext W0 W'
 h:∀q,q≠p->W.H q≠none->W'.H q=W.H q/\W'.G q=W.G q
theorem Mu.of{W1:Wd}{p:Addr}{o:HO}(e1:Ext W W1)(hg:W1.G p=none):Mu W (W1.mut p o hg) p:=⟨e1.g,fun W0 e0 hp=>(e0.trans e1).mut hp hg,fun q hq hn=>by
 obtain⟨o',ho⟩:=Ia.mp hn;exact⟨by show cZ W1.H p o q=_;rw[aw hq,e1.h _ _ ho,ho],e1.k q hn⟩⟩
theorem Mu.ow{R:Rp α}[Mono R]{p q:Addr}{ys:List α}(m:Mu W W' p)(hq:q≠p)(o:Ow R W q ys):Ow R W' q ys:=by
 obtain⟨vs,a,b⟩:=o.h;obtain⟨h1,h2⟩:=m.h q hq (by rw[a];exact fun z=>nomatch z);exact⟨by rw[h2];exact o.g,vs,by rw[h1];exact a,b.same m.g⟩
theorem gH{R:Rp α}[Mono R]{p:Addr}{xs:List α}{m:Res α}(o:Ow R W p xs)(h:EV Er te σ W (sh R) m)(q:(m.bind fun a=>iw xs a).OkE Er fun ys=>∀W',Mu W W' p->Ow R W' p ys->D.nx σ W'.H)(hi:σ[i]? =some (some<|.ref p):=by rfl):bA (fj K "list" aF (bQ i)<|ao te aU) D σ W.H:=by
 obtain⟨vs,h1,h2⟩:=o.h;refine⟨.ref p,hi,.inl ⟨rfl,vs,Fv h1⟩,h W (.refl _) _<|(CO q).imp fun a ka v W2 e2 hv=>?_⟩;obtain⟨h3,h4⟩:=bw ka;have hg:=(o.mono e2).g;refine⟨p,vs,v,rfl,rfl,e2.h _ _ h1,by rw[h2.1,Ej];unfold Mi.cap at h3;omega,h4 (W2.mut p (.lst<|vs++[v]) hg) (.of e2 hg) ⟨hg,_,aH,(h2.same e2.g).snoc hv⟩⟩
theorem LR.set{R:Rp α}{H:Hp}{as:List α}{vs:List V}{a:α}{v:V}(h:LR R H as vs)(r:R H a v)(j:Nat):LR R H (as.set j a) (vs.set j v):=⟨by simp[h.1],fun i x m e1 e2=>by
 rw[List.getElem?_set]at e1 e2;by_cases z:j=i
 ·rw[if_pos z]at e1 e2;split at e1
  ·split at e2;·cases e1;cases e2;exact r
   ·cases e2
  ·cases e1
 ·rw[if_neg z]at e1 e2;exact h.2 i x m e1 e2⟩
theorem mN{R:Rp α}[Mono R]{p:Addr}{xs:List α}{m:Res α}{mi:Res Int}(o:Ow R W p xs)(h:EV Er te σ W (sh R) m)(hj:EV Er ti σ W (sh isI) mi)(q:(m.bind fun a=>mi.bind fun j=>jV xs j a).OkE Er fun ys=>∀W',Mu W W' p->Ow R W' p ys->D.nx σ W'.H)(hi:σ[i]? =some (some<|.ref p):=by rfl):bR te (A3 (bQ i) ti yi) D σ W.H:=by
 obtain⟨vs,h1,h2⟩:=o.h;refine h W (.refl _) _<|(CO q).imp fun a ka v W2 e2 hv=>⟨.ref p,hi,hj W2 e2 _<|(CO ka).imp fun j kj x W3 e3 hx=>?_⟩;cases hx;obtain⟨l,h3,h4⟩:=fT<|CO kj;have e:=e2.trans e3;have hg:=(o.mono e).g;exact⟨p,vs,j,l,rfl,rfl,e.h _ _ h1,by rw[h2.1];exact h3,h4 (W3.mut p (.lst<|vs.set l v) hg) (.of e hg) ⟨hg,_,aH,(h2.same e.g).set (CM (R:=R) e3.g hv) l⟩⟩
def p5{S:Type}(W:Wd)(Iv:S->Wd->St->Prop)(P:S->Prop):St->Hp->Prop:=fun σ' H'=>∃s' W',W'.H=H'/\Same W.G W'.G/\Iv s' W' σ'/\P s'
theorem lK{S:Type}{f:α->S->Res S}{xs:List α}{i:Nat}{a:α}{s:S}(h:xs[i]? =some a):bL f (xs.drop i) s=(f a s).bind fun s=>bL f (xs.drop<|i+1) s:=by
 obtain⟨hi,e⟩:=D5.mp h;rw[Eb hi,e];rfl
theorem pL{S:Type}{wi:TI}{tb:TS}{R:Rp α}{m:Res (List α)}{f:α->S->Res S}{s0:S}{P:S->Prop}(Iv:S->Wd->St->Prop)(hi:IV Er wi σ W R m)(q:(m.bind fun xs=>bL f xs s0).OkE Er P)
  (h0:∀W1,Ext W W1->Iv s0 W1 σ)
  (hs:∀Wb W1 W2 a v s σ1 P',Same W.G W1.G->Same Wb.G W1.G->Iv s W1 σ1->Ext W1 W2->R W2.G a v->(f a s).OkE Er P'->g v σ1 W2.H fun σ2 H2=>tb {D with nx:=p5 Wb Iv P',ct:=p5 Wb Iv P',bk:=D.nx} σ2 H2)
  (hd:∀s W1 σ1,Same W.G W1.G->Iv s W1 σ1->P s->D.nx σ1 W1.H):tW wi g tb D σ W.H:=by
 refine hi W (.refl _) _<|(CO q).imp fun xs kx J W1 e1 hy=>?_;refine⟨fun i n σ' H'=>n=xs.length-i/\i<=xs.length/\∃s' W',W'.H=H'/\Same W1.G W'.G/\Iv s' W' σ'/\(bL f (xs.drop i) s').OkE Er P,⟨xs.length,by simp,by simp,s0,W1,rfl,.refl _,h0 W1 e1,by simpa using kx⟩,?_⟩;rintro i n σ1 H1 ⟨rfl,hi1,s,W2,rfl,e2,iv,k⟩;by_cases hlt:i<xs.length
 ·obtain⟨a,ha⟩:∃a,xs[i]? =some a:=⟨xs[i],by simp[hlt]⟩
  obtain⟨h1,h2⟩:=(hy W2 e2).1 i a ha;refine .inr ⟨h1,p5 W1 Iv fun s'=>(bL f (xs.drop<|i+1) s').OkE Er P,fun σ' H'⟨s',W',z1,z2,z3,z4⟩=>⟨xs.length-(i+1),by omega,rfl,hlt,s',W',z1,z2,z3,z4⟩,fun x H' hx=>?_⟩;obtain⟨W3,rfl,e3,rx⟩:=h2 x H' hx;rw[lK ha]at k;exact hs W1 W2 W3 a x s σ1 (fun s'=>(bL f (xs.drop<|i+1) s').OkE Er P) (e1.g.trans e2) e2 iv e3 rx<|CO k
 ·have e:i=xs.length:=by omega
  subst e;rw[G2]at k;exact .inl ⟨(hy W2 e2).2,hd s W2 σ1 (e1.g.trans e2) iv k⟩
theorem sG{S:Type}{f:α->S->Res (Fl γ S)}{xs:List α}{i:Nat}{a:α}{s:S}(h:xs[i]? =some a):eV f (xs.drop i) s=(f a s).bind (ux<|eV f<|xs.drop<|i+1):=by
 obtain⟨hi,e⟩:=D5.mp h;rw[Eb hi,e];rfl
theorem qT{S:Type}{wi:TI}{tb:TS}{R:Rp α}{m:Res (List α)}{f:α->S->Res (Fl γ S)}{s0:S}{P:Fl γ S->Prop}(Iv:S->Wd->St->Prop)(hi:IV Er wi σ W R m)(q:(m.bind fun xs=>eV f xs s0).OkE Er P)
  (h0:∀W1,Ext W W1->Iv s0 W1 σ)
  (hs:∀Wb W1 W2 a v s σ1 P',Same W.G W1.G->Same Wb.G W1.G->Iv s W1 σ1->Ext W1 W2->R W2.G a v->(∀r,P' (.rt r)->P (.rt r))->(f a s).OkE Er P'->g v σ1 W2.H fun σ2 H2=>tb {D with nx:=p5 Wb Iv fun s'=>P'<|.nx s',ct:=p5 Wb Iv fun s'=>P'<|.nx s',bk:=D.nx} σ2 H2)
  (hd:∀s W1 σ1,Same W.G W1.G->Iv s W1 σ1->P (.nx s)->D.nx σ1 W1.H):tW wi g tb D σ W.H:=by
 refine hi W (.refl _) _<|(CO q).imp fun xs kx J W1 e1 hy=>?_;refine⟨fun i n σ' H'=>n=xs.length-i/\i<=xs.length/\∃s' W',W'.H=H'/\Same W1.G W'.G/\Iv s' W' σ'/\(eV f (xs.drop i) s').OkE Er P,⟨xs.length,by simp,by simp,s0,W1,rfl,.refl _,h0 W1 e1,by simpa using kx⟩,?_⟩;rintro i n σ1 H1 ⟨rfl,hi1,s,W2,rfl,e2,iv,k⟩;by_cases hlt:i<xs.length
 ·obtain⟨a,ha⟩:∃a,xs[i]? =some a:=⟨xs[i],by simp[hlt]⟩
  obtain⟨h1,h2⟩:=(hy W2 e2).1 i a ha;refine .inr ⟨h1,p5 W1 Iv fun s'=>(eV f (xs.drop<|i+1) s').OkE Er P,fun σ' H'⟨s',W',z1,z2,z3,z4⟩=>⟨xs.length-(i+1),by omega,rfl,hlt,s',W',z1,z2,z3,z4⟩,fun x H' hx=>?_⟩;obtain⟨W3,rfl,e3,rx⟩:=h2 x H' hx;rw[sG ha]at k;exact hs W1 W2 W3 a x s σ1 (fun fl=>match fl with| .nx s'=>(eV f (xs.drop<|i+1) s').OkE Er P| .bk s'=>P (.nx s')| .rt r=>P<|.rt r) (e1.g.trans e2) e2 iv e3 rx (fun r h=>h) ((CO k).imp fun fl h=>by cases fl<;>exact h)
 ·have e:i=xs.length:=by omega
  subst e;rw[G2]at k;exact .inl ⟨(hy W2 e2).2,hd s W2 σ1 (e1.g.trans e2) iv k⟩
section
variable{r:TS}
theorem aj{σ':V->St}{R:Rw α}{m:Res α}(h:EV Er te σ W R m)(q:m.OkE Er fun a=>∀v W',Ext W W'->R W' a v->r D (σ' v) W'.H)(hσ:∀v,σ.set i (some v)=σ' v:=by intro _;rfl):gm (bR te<|aR i) r D σ W.H:=de (D:={D with nx:=r D}) h q hσ
theorem dq{σ':Addr->St}{R:Rp α}{m:Res (List α)}(h:EVo Er te σ W R m)(q:m.OkE Er fun a=>∀p W',Ext W W'->W.H p=none->Ow R W' p a->r D (σ' p) W'.H)(hσ:∀p,σ.set i (some<|.ref p)=σ' p:=by intro _;rfl):gm (bR te<|aR i) r D σ W.H:=wR (D:={D with nx:=r D}) h q hσ
theorem dY{R:Rw α}{m:Res α}(h:EV Er te σ W R m)(q:m.OkE Er fun a=>∀v W',Ext W W'->R W' a v->g v σ W'.H (r D)):gm (bR te g) r D σ W.H:=h W (.refl _) _ q
theorem cX{c:TT}{m:Res Bool}(h:TV Er c σ W m)(q:m.OkE Er fun b=>∀W',Ext W W'->if b=true then t {D with nx:=r D} σ W'.H else u {D with nx:=r D} σ W'.H):gm (jj c t u) r D σ W.H:=h W (.refl _) _ q
theorem cj{S:Type}{c:TT}{m:Res Bool}{mA mB:Res S}{P:S->Prop}(Iv:S->Wd->St->Prop)(h:TV Er c σ W m)(q:(m.bind fun b=>if b then mA else mB).OkE Er P)
  (hA:∀W'(N:St->Hp->Prop),Ext W W'->(∀s W1 σ1,Same W.G W1.G->Iv s W1 σ1->P s->N σ1 W1.H)->mA.OkE Er P->t {D with nx:=N} σ W'.H)
  (hB:∀W'(N:St->Hp->Prop),Ext W W'->(∀s W1 σ1,Same W.G W1.G->Iv s W1 σ1->P s->N σ1 W1.H)->mB.OkE Er P->u {D with nx:=N} σ W'.H)
  (hd:∀s W1 σ1,Same W.G W1.G->Iv s W1 σ1->P s->r D σ1 W1.H):gm (jj c t u) r D σ W.H:=mM (D:={D with nx:=r D}) Iv h q hA hB hd
theorem uJ{R:Rp α}[Mono R]{p:Addr}{xs:List α}{m:Res α}(o:Ow R W p xs)(h:EV Er te σ W (sh R) m)(q:(m.bind fun a=>iw xs a).OkE Er fun ys=>∀W',Mu W W' p->Ow R W' p ys->r D σ W'.H)(hi:σ[i]? =some (some<|.ref p):=by rfl):gm (bA<|fj K "list" aF (bQ i)<|ao te aU) r D σ W.H:=gH (D:={D with nx:=r D}) o h q hi
theorem df{S:Type}{wi:TI}{tb:TS}{R:Rp α}{m:Res (List α)}{f:α->S->Res S}{s0:S}{P:S->Prop}(Iv:S->Wd->St->Prop)(hi:IV Er wi σ W R m)(q:(m.bind fun xs=>bL f xs s0).OkE Er P)
  (h0:∀W1,Ext W W1->Iv s0 W1 σ)
  (hs:∀Wb W1 W2 a v s σ1 P',Same W.G W1.G->Same Wb.G W1.G->Iv s W1 σ1->Ext W1 W2->R W2.G a v->(f a s).OkE Er P'->g v σ1 W2.H fun σ2 H2=>tb {D with nx:=p5 Wb Iv P',ct:=p5 Wb Iv P',bk:=r D} σ2 H2)
  (hd:∀s W1 σ1,Same W.G W1.G->Iv s W1 σ1->P s->r D σ1 W1.H):gm (tW wi g tb) r D σ W.H:=pL (D:={D with nx:=r D}) Iv hi q h0 hs hd
theorem gX{S:Type}{wi:TI}{tb:TS}{R:Rp α}{m:Res (List α)}{f:α->S->Res (Fl γ S)}{s0:S}{P:Fl γ S->Prop}(Iv:S->Wd->St->Prop)(hi:IV Er wi σ W R m)(q:(m.bind fun xs=>eV f xs s0).OkE Er P)
  (h0:∀W1,Ext W W1->Iv s0 W1 σ)
  (hs:∀Wb W1 W2 a v s σ1 P',Same W.G W1.G->Same Wb.G W1.G->Iv s W1 σ1->Ext W1 W2->R W2.G a v->(∀r,P' (.rt r)->P (.rt r))->(f a s).OkE Er P'->g v σ1 W2.H fun σ2 H2=>tb {D with nx:=p5 Wb Iv fun s'=>P'<|.nx s',ct:=p5 Wb Iv fun s'=>P'<|.nx s',bk:=r D} σ2 H2)
  (hd:∀s W1 σ1,Same W.G W1.G->Iv s W1 σ1->P (.nx s)->r D σ1 W1.H):gm (tW wi g tb) r D σ W.H:=qT (D:={D with nx:=r D}) Iv hi q h0 hs hd
end
theorem cx{S:Type}{Wb W:Wd}{Iv:S->Wd->St->Prop}{P:S->Prop}(s:S)(hs:Same Wb.G W.G)(iv:Iv s W σ)(hq:P s):p5 Wb Iv P σ W.H:=⟨s,W,rfl,hs,iv,hq⟩
end
end Wb
namespace L2
open PySem PySem.Spec PyProof.Rows
section
variable{X:Cx}{K:CT}{w:Dp}
theorem nV{ns:List Bool}:∀{us:List CU},Vals (ns.map MS) us->LSm.BoolsAre us ns:=by
 induction ns with
 |nil=>intro us r;cases r;exact .nil
 |cons b r ih=>intro us h;cases h with|cons h1 h2=>cases h1;exact .cons b<|ih h2
theorem lL(hc:X.calm=true)(hK:X.K=K):fh X (.builtin "all") (fun xs H Q=>∃(p:Addr)(bs:List Bool),xs=[.ref p]/\SqL K H p (bs.map MS)/\Q (.bl<|bs.all id) H):=by
 subst hK;intro pins s σ H xs us Q I r h;obtain⟨p,bs,rfl,hq,q⟩:=h;obtain⟨u,rfl,rx⟩:=gh r;cases rx;obtain⟨its,r',pl,hz⟩:=I.list hq;have hb:=nV r';have hl:=pl.isList;have hlt:p<s.heap.objs.size:=by obtain⟨_,e,_⟩:=hl;exact Dc e
 refine call_all_walk<|IA hl ?_;refine⟨s.heap.objs.size,[s.heap.objs.size,p],[s.heap.objs.size],its.toArray.size,_,_,fun i=>(bs[i]?).getD true,rfl,Walks.list (A:=X.A.in1) (I.ok.hd hc) _ p (Dv hlt) its.toArray,
  ⟨⟨_,D6 _ rfl,rfl,rfl⟩,hl.push _⟩,fun i v s' Q' E' hP hQ=>?_,fun h' tk hk=>?_⟩
 ·obtain⟨b,e,rfl⟩:=hb.get i v (by simpa using hP);simp only[e,Hs]at hQ;exact FO hQ
 ·have e:((Ed its.toArray.size).all fun i=>(bs[i]?).getD true)=bs.all id:=by
   rw[Dm,hb.length];exact LSm.range_all bs
  rw[e];exact⟨.bl _,H,I.kept<|LSm.kept_iter hk,rfl,q⟩
end
end L2
namespace Wb
open PySem L2 Mi
variable{Er:Nat->Prop}
section
variable{α β γ δ:Type}{t ta tb tc:TE}{σ:St}{W W0 W':Wd}{K:CT}{w:Dp}
theorem wU{a n r:Int}(hc:0<=n/\n<=1000000/\a.natAbs<2^64)(hr:a^n.toNat=r):EV Er (dw (rI A6 fun i j=>.int<|i^j.toNat) (tC<|.int a)<|tC<|.int n) σ W (sh isI) (.ok r):=fun W1 e1 Q k=>⟨a,n,rfl,rfl,hc,by show Q (.int<|a^n.toNat) W1.H;rw[hr];exact k _ W1 (.refl _) rfl⟩
def isScr(K:CT):Rp (List Int):=fun H ns v=>∃a,v=.ref a/\SqL K H a (ns.map G6)
instance zkeep17:Mono (isScr K):=⟨fun e⟨a,h1,h2⟩=>⟨a,h1,e.seq h2⟩⟩
theorem lM{ma:Res (List Int)}(ha:EV Er ta σ W (sh<|isScr K) ma):EV Er (eR (fun xs H Q=>∃x n,xs=[x]/\pj K x H n/\Q (.int n) H)<|ao ta aU) σ W (sh isI) (ma.bind fun a=>.ok (a.length:Int)):=fun W1 e1 Q k=>
 ha W1 e1 _ ((CO k).imp fun a ka x W2 e2 hx=>by
  obtain⟨p,rfl,h1⟩:=hx;exact⟨_,a.length,rfl,.inl ⟨_,W2.ok.seq h1,by simp⟩,ka _ W2 e2 rfl⟩)
theorem uK{ma:Res (List Int)}{mb:Res Int}(ha:EV Er ta σ W (sh<|isScr K) ma)(hb:EV Er tb σ W (sh isI) mb):EV Er (dw (cw K) ta tb) σ W (sh isI) (ma.bind fun a=>mb.bind fun b=>fA a b):=
 qN ha hb fun W a b x y Q hx hy k=>by
  cases hy;obtain⟨p,rfl,h1⟩:=hx;obtain⟨c,h4,h5⟩:=fT k;have lr:LR isI W.G a (a.map G6):=⟨by simp,fun i v m e1 e2=>by rw[D7,e2]at e1;cases e1;rfl⟩
  obtain⟨z,h6,h7⟩:=qQ lr h4;exact⟨p,_,b,z,rfl,rfl,W.ok.seq h1,h6,h5 _ W (.refl _) h7⟩
theorem qU{ma:Res Bool}(ha:EV Er ta σ W (sh isB) ma):EV Er (eR (fun xs H Q=>(∃i,xs=[.int i]/\Q (.int i) H)\/∃k,xs=[.bl k]/\Q (.int (if k then 1 else 0)) H)<|ao ta aU) σ W (sh isI) (ma.bind fun a=>.ok (if a then(1:Int)else 0)):=fun W1 e1 Q k=>
 ha W1 e1 _ ((CO k).imp fun a ka x W2 e2 hx=>by cases hx;exact .inr ⟨a,rfl,ka _ W2 e2 rfl⟩)
theorem uL{R:Rp α}{W1 W2:Wd}{xs:List α}{vs:List V}{Q:VK}(h:LR R W2.G xs vs)(e:Ext W1 W2)(k:∀p W2,Ext W1 W2->W1.H p=none->Ow R W2 p xs->Q (.ref p) W2.H)(r:Addr)(hr:W2.H r=none):Q (.ref r) (cZ W2.H r<|.lst vs):=
 k r (W2.mut r (.lst vs)<|W2.gnone hr) (e.trans<|.own _ hr) (bp e.h hr) ⟨W2.gnone hr,vs,aH,h⟩
theorem LR.ints{H:Hp}{ns:List Int}{vs:List V}(h:LR isI H ns vs):vs=ns.map G6:=by
 refine EU fun i=>?_;rw[D7];cases e:ns[i]? with
 |none=>rw[Ex]at e;rw[Ex.mpr (by rw[h.1];exact e)];rfl
 |some m=>obtain⟨v,a,b⟩:=h.get e;rw[a];cases b;rfl
theorem LR.bools{H:Hp}{ns:List Bool}{vs:List V}(h:LR isB H ns vs):vs=ns.map MS:=by
 refine EU fun i=>?_;rw[D7];cases e:ns[i]? with
 |none=>rw[Ex]at e;rw[Ex.mpr (by rw[h.1];exact e)];rfl
 |some m=>obtain⟨v,a,b⟩:=h.get e;rw[a];cases b;rfl
theorem uM{ma:Res (List Int)}(ha:EV Er ta σ W (pk isI) ma):EV Er (eR (fun xs H Q=>∃(p:Addr)(ns:List Int),xs=[.ref p]/\SqL K H p (ns.map G6)/\Q (.int ns.sum) H)<|ao ta aU) σ W (sh isI) (ma.bind fun a=>.ok a.sum):=fun W1 e1 Q k=>
 ha W1 e1 _ ((CO k).imp fun a ka x W2 e2 hx=>by
  obtain⟨p,vs,rfl,h1,h2⟩:=hx;exact⟨p,a,rfl,Fv (by rw[h1,h2.ints]),ka _ W2 e2 rfl⟩)
theorem uN{ma:Res (List Bool)}(ha:EV Er ta σ W (pk isB) ma):EV Er (eR (fun xs H Q=>∃(p:Addr)(bs:List Bool),xs=[.ref p]/\SqL K H p (bs.map MS)/\Q (.bl<|bs.all id) H)<|ao ta aU) σ W (sh isB) (ma.bind fun a=>.ok<|a.all id):=fun W1 e1 Q k=>
 ha W1 e1 _ ((CO k).imp fun a ka x W2 e2 hx=>by
  obtain⟨p,vs,rfl,h1,h2⟩:=hx;exact⟨p,a,rfl,Fv (by rw[h1,h2.bools]),ka _ W2 e2 rfl⟩)
theorem uO{f:α->V}{g:β->Key}[DecidableEq β](hg:∀a b,g a=g b->a=b)(kvs:List (β×α))(k:β):i9 (kvs.map fun p=>(g p.1,f p.2)) (g k)=(look kvs k).map f:=by
 induction kvs with
 |nil=>rfl
 |cons p r ih=>
  unfold look at ih ⊢;rw[Ds];by_cases z:p.1=k;·rw[gz (by rw[z]),List.find?_cons_of_pos (by simpa using z)];rfl
  ·rw[gA<|fun e=>z<|hg _ _ e,ih,List.find?_cons_of_neg (by simpa using z)]
theorem qV{R:Rp α}{Rk:Rp β}[DecidableEq β]{d:Addr}{kv:List (Key×V)}{kvs:List (β×α)}{f:α->V}{g:β->Key}(hg:∀a b,g a=g b->a=b)(hf:∀H a,R H a<|f a)(hk:∀H b v,Rk H b v->v=kV (g b))(D:DictK K w d kv)(e:kv=kvs.map fun p=>(g p.1,f p.2)){m:Res β}(h:EV Er t σ W (sh Rk) m):
  EV Er (aP K w (tC<|.ref d) t) σ W (sh R) (m.bind fun k=>getD kvs k):=fun W1 e1 Q k=>
 h W1 e1 _ ((CO k).imp fun b kb v W2 e2 hv=>by
  obtain⟨a,h1,h2⟩:=fT kb;refine⟨d,kv,g b,f a,rfl,D,hk _ _ _ hv,?_,h2 _ W2 e2 (hf _ _)⟩;rw[e,uO hg,h1];rfl)
theorem BK:∀a b:Tx,(FU (aM a):Key)=FU (aM b)->a=b:=fun a b e=>qG<|Mh e
theorem BL:∀a b:Int,(FT a:Key)=FT b->a=b:=fun a b e=>Mg e
theorem sH{d:Addr}{kv:List (Key×V)}{kvs:List (Tx×Int)}(D:DictK K w d kv)(e:kv=kvs.map fun p=>(FU<|aM p.1,G6 p.2)){m:Res Tx}(h:EV Er t σ W (sh isS) m):EV Er (aP K w (tC<|.ref d) t) σ W (sh isI) (m.bind fun k=>getD kvs k):=qV (R:=isI) (f:=G6) (g:=fun a=>FU<|aM a) BK (fun _ _=>rfl) (fun _ _ _ h=>h) D e h
theorem sI{d:Addr}{kv:List (Key×V)}{kvs:List (Int×Tx)}(D:DictK K w d kv)(e:kv=kvs.map fun p=>(FT p.1,Ho<|aM p.2)){m:Res Int}(h:EV Er t σ W (sh isI) m):EV Er (aP K w (tC<|.ref d) t) σ W (sh isS) (m.bind fun k=>getD kvs k):=qV (R:=isS) (f:=fun a=>Ho<|aM a) (g:=fun a=>FT a) BL (fun _ _=>rfl) (fun _ _ _ h=>h) D e h
theorem kg{ma:Res Int}{mb:Res (List Int)}(ha:EV Er ta σ W (sh isI) ma)(hb:EV Er tb σ W (pk isI) mb):EV Er (dw (gi K true) ta tb) σ W (sh isB) (ma.bind fun a=>mb.bind fun b=>.ok<|!b.contains a):=
 qN ha hb fun W a b x y Q hx hy k=>by
  cases hx;obtain⟨p,vs,rfl,h1,h2⟩:=hy;refine⟨p,vs,rfl,.inl<|Fv h1,rfl,by rw[h2.ints];simp[L2.flatV],?_⟩;have e:AS (.int a) vs=b.contains a:=by
   rw[h2.ints];unfold AS;rw[List.any_map,Fb];simp[L2.eqV]
   try exact⟨fun⟨x,h,e⟩=>by subst e;exact h,fun h=>⟨a,h,rfl⟩⟩
  rw[if_pos rfl,e];exact k _ W (.refl _) rfl
theorem uP{R:Rp α}[Mono R]{ma:Res (List α)}(ha:EV Er ta σ W (pk R) ma):EV Er (eR (fun xs H Q=>∃p ys,xs=[.ref p]/\((SqL K H p ys/\∀l,H l=none->Q (.ref l) (cZ H l<|.tup ys))\/(SqT K H p ys/\Q (.ref p) H)))<|ao ta aU) σ W (sh<|isT3 K R R R) (ma.bind fun a=>z7 a):=fun W1 e1 Q k=>
 ha W1 e1 _ ((CO k).imp fun a ka x W2 e2 hx=>by
  obtain⟨p,vs,rfl,h1,h2⟩:=hx
  match a,ka,h2 with
  | [a,b,c],ka,h2=>
   match vs,h2.1,h2,h1 with
   | [x,y,z],_,h2,h1=>
    refine⟨p,_,rfl,.inl ⟨Fv h1,fun l hl=>ka (.ref l) (W2.new l<|.tup [x,y,z]) (e2.trans<|.new _ hl) ⟨l,x,y,z,rfl,KW aH,?_,?_,?_⟩⟩⟩;·exact CM (GG _ hl).g (h2.2 0 x a rfl rfl)
    ·exact CM (GG _ hl).g (h2.2 1 y b rfl rfl)
    ·exact CM (GG _ hl).g (h2.2 2 z c rfl rfl))
def EqK(K:CT)(H:Hp):Nat->V->V->Prop
  |0,v,u=>v=u/\flat v=true
  |n+1,v,u=>(v=u/\flat v=true)\/ ∃p q xs ys,v= .ref p/\u= .ref q/\((H p=some (.lst xs)/\H q=some (.lst ys))\/(SqT K H p xs/\SqT K H q ys))/\xs.length=ys.length/\
      ∀(i:Nat)(x y:V),xs[i]? =some x->ys[i]? =some y->EqK K H n x y
theorem EqK.same{H H':Hp}(e:Same H H'):∀{n:Nat}{v u:V},EqK K H n v u->EqK K H' n v u
 |0,_,_,h=>h
 |n+1,_,_,h=>by
  rcases h with h|⟨p,q,xs,ys,h1,h2,h3,h4,h5⟩
  ·exact .inl h
  ·refine .inr ⟨p,q,xs,ys,h1,h2,?_,h4,fun i x y e1 e2=>EqK.same e<|h5 i x y e1 e2⟩;rcases h3 with⟨a,b⟩|⟨a,b⟩
   ·exact .inl ⟨e _ _ a,e _ _ b⟩
   ·exact .inr ⟨EZ e a,EZ e b⟩
theorem EqK.flat{H:Hp}{n:Nat}{v:V}(h:L2.flat v=true):EqK K H n v v:=by cases n with|zero=>exact⟨rfl,h⟩|succ n=>exact .inl ⟨rfl,h⟩
class EqR(K:CT){α:Type}(R:Rp α)(n:outParam Nat):Prop where
 eq:∀H a v u m,n<=m->R H a v->R H a u->EqK K H m v u
instance zkeep18:EqR K isI 0:=⟨fun H a v u m _ h1 h2=>by cases h1;cases h2;exact .flat rfl⟩
instance zkeep22{R:Rp α}{n:Nat}[EqR K R n]:EqR K (isO R) n:=⟨fun H a v u m hm h1 h2=>by
 cases a with
 |none=>cases h1;cases h2;exact .flat rfl
 |some a=>exact EqR.eq H a v u m hm h1.1 h2.1⟩
end
end Wb
namespace L2
open PySem PySem.Spec PyProof.Rows
section
variable{X:Cx}{K:CT}{w:Dp}{o e:Expr}{to:TE}{t:TA}{apos cpos:Pos}
def Aq(K:CT):V->List V->Hp->VK->Prop:=fun x xs H Q=>∃(p:Addr)(ys:List (List Nat)),x=.str (aM [])/\xs=[.ref p]/\SqL K H p (ys.map fun y=>Ho<|aM y)/\ys.flatten.length<=100000/\Q (.str<|aM ys.flatten) H
def Ar:V->List V->Hp->VK->Prop:=fun x xs H Q=>∃a b,x=.str a/\xs=[.str b]/\0<=I9 a b/\Q (.int<|I9 a b) H
abbrev BM(X:Cx)(cpos:Pos)(e:Expr):Prop:=((backTo cpos<|starEach [e] X.env).all (fun x=> !x.1)&&(backToKw cpos<|keywordEach [] X.env).all (fun x=>x.1.isSome)&&decide ([e].length+([]:List Jb).length+(if([]:List Jb).isEmpty then 0 else 1)<30))=true
theorem ko(h:X.K=K):fh X (.type "tuple") (fun xs H Q=>∃p ys,xs=[.ref p]/\((SqL K H p ys/\∀l,H l=none->Q (.ref l) (cZ H l<|.tup ys))\/(SqT K H p ys/\Q (.ref p) H))):=h▸l7
theorem kq(h:X.K=K)(ho:PE X o to)(ha:PA X [e] t)(hbase:attributeBase o "join" X.env (eval o X.env)=eval o X.env:=by rfl)(hfew:BM X cpos e:=by rfl)(hline:(apos.endLine==cpos.line)=true:=by rfl)(hs:starEach [e] X.env=(false,eval e X.env)::starEach [] X.env:=by rfl)(hplain:(backTo cpos<|starEach [] X.env).any (·.1)=false:=by rfl):
  PE X (.Call (.Attribute o "join" apos) [e] [] cpos) (fj K "str" (Aq K) to t):=pI (K:=K) h Je PySem.F.slot_str_join PySem.F.type_str_join (uj (K:=K) h) ho ha hbase hfew hline hs hplain
theorem dJ(h:X.K=K)(hc:X.calm=true)(ho:PE X o to)(ha:PA X [e] t)(hbase:attributeBase o "index" X.env (eval o X.env)=eval o X.env:=by rfl)(hfew:BM X cpos e:=by rfl)(hline:(apos.endLine==cpos.line)=true:=by rfl)(hs:starEach [e] X.env=(false,eval e X.env)::starEach [] X.env:=by rfl)(hplain:(backTo cpos<|starEach [] X.env).any (·.1)=false:=by rfl):
  PE X (.Call (.Attribute o "index" apos) [e] [] cpos) (fj K "str" Ar to t):=pI (K:=K) h Je PySem.F.slot_str_index PySem.F.type_str_index (u9 hc) ho ha hbase hfew hline hs hplain
theorem cT(h:X.K=K)(ho:PE X o to)(ha:PA X [e] t)(hbase:attributeBase o "append" X.env (eval o X.env)=eval o X.env:=by rfl)(hfew:BM X cpos e:=by rfl)(hline:(apos.endLine==cpos.line)=true:=by rfl)(hs:starEach [e] X.env=(false,eval e X.env)::starEach [] X.env:=by rfl)(hplain:(backTo cpos<|starEach [] X.env).any (·.1)=false:=by rfl):
  PE X (.Call (.Attribute o "append" apos) [e] [] cpos) (fj K "list" aF to t):=pI (K:=K) h PySem.F.plainAttrs_list Jr PySem.F.type_list_append se ho ha hbase hfew hline hs hplain
end
end L2
namespace Wb
open PySem L2 Mi
variable{Er:Nat->Prop}
section
variable{α β γ δ:Type}{t t1 t2 t3 ta tb tc:TE}{σ:St}{W W0 W':Wd}{K:CT}{w:Dp}
class NN{α:Type}(R:Rp α):Prop where
 nn:∀H a v,R H a v->v≠.non
instance zkeep26:NN isI:=⟨fun _ _ _ h=>by cases h;exact fun z=>nomatch z⟩
theorem uQ{R:Rp α}[NN R]{m:Res α}(h:EV Er t σ W (sh R) m):EV Er t σ W (sh<|isO R) (m.bind fun a=>.ok<|some a):=fun W1 e1 Q k=>
 h W1 e1 _ ((CO k).imp fun a ka v W2 e2 hv=>ka v W2 e2 ⟨hv,NN.nn _ _ _ hv⟩)
theorem uR{xs:List α}{ys:List β}{zs:List γ}{i:Nat}{p:α×β×γ}(h:(xs.zip<|ys.zip zs)[i]? =some p):xs[i]? =some p.1/\ys[i]? =some p.2.1/\zs[i]? =some p.2.2:=by
 rw[FJ]at h;obtain⟨h1,h2⟩:=h;rw[FJ]at h2;exact⟨h1,h2.1,h2.2⟩
theorem wV{R1:Rp α}{R2:Rp β}{R3:Rp γ}[Mono R1][Mono R2][Mono R3]{m1:Res (List α)}{m2:Res (List β)}{m3:Res (List γ)}(h1:SV Er t1 σ W K R1 m1)(h2:SV Er t2 σ W K R2 m2)(h3:SV Er t3 σ W K R3 m3):IV Er (yl K<|ao t1<|ao t2<|ao t3 aU) σ W (isT3 K R1 R2 R3) (m1.bind fun xs=>m2.bind fun ys=>m3.bind fun zs=>.ok<|xs.zip<|ys.zip zs):=fun W1 e1 P k=>
 h1 W1 e1 _ ((CO k).imp fun xs kx v W2 e2 hv=>h2 W2 (e1.trans e2) _ ((CO kx).imp fun ys ky u W3 e3 hu=>h3 W3 ((e1.trans e2).trans e3) _ ((CO ky).imp fun zs kz r W4 e4 hr=>by
  obtain⟨c1,vs,rfl,a1,b1⟩:=MT hv (e3.trans e4).g;obtain⟨c2,us,rfl,a2,b2⟩:=MT hu e4.g;obtain⟨c3,rs,rfl,a3,b3⟩:=hr;refine⟨c1,c2,c3,vs,us,rs,rfl,a1 W4<|.refl _,a2 W4<|.refl _,a3 W4<|.refl _,kz _ W4 ((e2.trans e3).trans e4) fun W5 e5=>⟨fun i ab hab=>?_,?_⟩⟩
  ·obtain⟨q1,q2,q3⟩:=uR hab;obtain⟨x,hx,rx⟩:=b1.get q1;obtain⟨y,hy,ry⟩:=b2.get q2;obtain⟨z,hz,rz⟩:=b3.get q3;refine⟨⟨vs,us,rs,x,y,z,a1 W5 e5,a2 W5 e5,a3 W5 e5,hx,hy,hz⟩,fun o H'⟨p,x',y',z',hp,z0,z1,z2,z3,z4⟩=>⟨W5.new p<|.tup [x',y',z'],by rw[z4];rfl,.new _ hp,p,x',y',z',z0,KW aH,?_,?_,?_⟩⟩
   ·have:=z1 vs<|a1 W5 e5;rw[hx]at this;cases this;exact CM (e5.trans (GG _ hp).g) rx
   ·have:=z2 us<|a2 W5 e5;rw[hy]at this;cases this;exact CM (e5.trans (GG _ hp).g) ry
   ·have:=z3 rs<|a3 W5 e5;rw[hz]at this;cases this;exact CM (e5.trans (GG _ hp).g) rz
  ·refine⟨vs,us,rs,a1 W5 e5,a2 W5 e5,a3 W5 e5,?_⟩;rw[FN,FN,b1.1,b2.1,b3.1];omega)))
theorem uS{ma:Res (List Int)}(ha:EV Er ta σ W (pk isI) ma):EVo Er (eR (fun xs H Q=>∃(p:Addr)(ns:List Int),xs=[.ref p]/\SqL K H p (ns.map G6)/\ns.length<64/\∀(q:Addr)(ns':List Int),H q=none->ns'.Perm ns->ns'.Pairwise (· <= ·)->Q (.ref q) (cZ H q<|.lst<|ns'.map G6))<|ao ta aU) σ W isI (ma.bind fun a=>uy a):=fun W1 e1 Q k=>
 ha W1 e1 _ ((CO k).imp fun a ka x W2 e2 hx=>by
  obtain⟨p,vs,rfl,h1,h2⟩:=hx;obtain⟨h3,h4⟩:=bw ka;refine⟨p,a,rfl,Fv (by rw[h1,h2.ints]),h3,fun q ns' hq hp hs=>?_⟩;rw[sD hp hs];exact uL (vs:=(iW a).map G6) ⟨by simp,fun i v m e1 e2=>by rw[D7,e2]at e1;cases e1;rfl⟩ e2 h4 q hq)
theorem eY{R1:Rp α}{R2:Rp β}{d:Addr}{x y:V}{a:α}{b:β}(T:∀H,SqT K H d [x,y])(h1:∀H,R1 H a x)(h2:∀H,R2 H b y):EV Er (tC<|.ref d) σ W (sh<|isT2 K R1 R2) (.ok (a,b)):=fun W1 _ Q k=>k _ W1 (.refl _) ⟨d,x,y,rfl,T _,h1 _,h2 _⟩
theorem gI(i:Int):∀H,isI H i (.int i):=fun _=>rfl
end
end Wb
namespace Mi
theorem gY{a b:Int}(h:0<b):jU a b=.ok (a%b):=bK h
theorem nW{a b:Int}(h1:0<b)(h2:b<1073741824):jT a b=.ok (a/b):=bK ⟨h1,h2⟩
theorem ku{a b:Int}(h1: -18446744073709551616<a)(h2:a<18446744073709551616):jS a b=.ok (a*b):=bK<|.inl ⟨h1,h2⟩
theorem uT{a b:Int}(h1: -18446744073709551616<b)(h2:b<18446744073709551616):jS a b=.ok (a*b):=bK<|.inr ⟨h1,h2⟩
theorem fX{α:Type}{xs:List α}{x:α}(h:xs.length<100000):iw xs x=.ok (xs++[x]):=bK h
theorem jt{a b:Tx}(h:a.length+b.length<=100000):jm a b=.ok (a++b):=bK h
theorem qW{a:Tx}(h:a.length<=100000):wM a=.ok (a.length:Int):=bK h
theorem wW{c:Nat}{n:Int}(h0:0<=n)(h1:n<=100000):z6 [c] n=.ok (Fp n.toNat c):=bK ⟨h0,h1⟩
theorem qX{a:Tx}{lo hi:Option Int}(h:a.length<=100000):sC a lo hi=.ok (cut a lo hi):=bK h
theorem nX{xs:List Tx}(h:xs.flatten.length<=100000):nP xs=.ok xs.flatten:=bK h
theorem sJ{n:Nat}(h:n<=100000):gC (n:Int)=.ok ((Ed n).map fun(i:Nat)=>(i:Int)):=by
 unfold gC;rw[bK ⟨by omega,by omega⟩];simp[fB]
theorem ju{α:Type}{xs:List α}{i:Int}(h0:0<=i)(h1:i<xs.length):∃x,fA xs i=.ok x/\xs[i.toNat]? =some x:=by
 obtain⟨h,e⟩:=uv h0 h1;exact⟨xs[i.toNat],by unfold fA;rw[e];rfl,by simp[h]⟩
theorem fY{x:Tx}{i:Int}(h0:0<=i)(h1:i<x.length)(h2:x.length<=100000):∃c,fD x i=.ok [c]/\x[i.toNat]? =some c:=by
 obtain⟨h,e⟩:=uv h0 h1;refine⟨x[i.toNat],?_,by simp[h]⟩;unfold fD;rw[bK h2];show(yZ<|tP x i).bind _=_;rw[e];rfl
theorem zc{x:Tx}{i:Int}(h0:0<=i)(h1:i<x.length)(h2:x.length<=100000):fD x i=.ok [x[i.toNat]?.getD 0]:=by
 obtain⟨c,e,h⟩:=fY h0 h1 h2;rw[e,h];rfl
theorem wX{α:Type}{xs:List α}{i:Int}{x:α}(h0:0<=i)(h1:i<xs.length):jV xs i x=.ok (xs.set i.toNat x):=by
 unfold jV ixN;rw[if_pos h0,if_pos h1];rfl
theorem uU{α:Type}[DecidableEq α]{a b:α}(h:a=b):Ak a b=.ok true:=if_pos h
theorem uV{xs:List Int}(h:xs.length<64):uy xs=.ok (iW xs):=bK h
theorem dB{α S:Type}{f:α->S->Res S}(I:List α->S->Prop)(xs:List α)(s0:S)(h0:I [] s0)(step:∀pre a post s,xs=pre++a::post->I pre s->∃s',f a s=.ok s'/\I (pre++[a]) s'):
  ∃s,bL f xs s0=.ok s/\I xs s:=by
 have key:∀(post pre:List α)(s:S),xs=pre++post->I pre s->∃s',bL f post s=.ok s'/\I xs s':=by
  intro post
  induction post with
  |nil=>intro pre s e h;rw[EN]at e;subst e;exact⟨s,rfl,h⟩
  |cons a r ih=>
   intro pre s e h;obtain⟨s1,e1,h1⟩:=step pre a r s e h;obtain⟨s2,e2,h2⟩:=ih (pre++[a]) s1 (by rw[e];simp) h1;exact⟨s2,by unfold bL;rw[e1];exact e2,h2⟩
 exact key xs [] s0 rfl h0
theorem lN{α γ:Type}{f:α->Unit->Res (Fl γ Unit)}{g:α->Option γ}(xs:List α)(step:∀a∈xs,f a ()=.ok (match g a with|some r=>.rt r|none=>.nx ())):eV f xs ()=.ok (match xs.findSome? g with|some r=>.rt r|none=>.nx ()):=by
 induction xs with
 |nil=>rfl
 |cons a r ih=>
  unfold eV;rw[step a<|Di ..];cases h:g a with
  |some z=>simp[h,ux]
  |none=>simp only[CP,ux,JU,h];exact ih fun b hb=>step b<|Dk _ hb
theorem nY{α β:Type}{f:α->Res (Option β)}{g:α->Option β}:∀{xs:List α},(∀x∈xs,f x=.ok (g x))->iy f xs=.ok (xs.filterMap g)
 | [],_=>rfl
 |a::r,h=>by
  unfold iy;rw[h a<|Di ..,CP,nY fun x hx=>h x<|Dk _ hx,CP,Fw];cases g a<;>rfl
theorem nZ{α β:Type}{f:α->Res (Option β)}{g:α->Option β}{xs:List α}(hl:xs.length<=100000)(h:∀x∈xs,f x=.ok (g x)):nQ xs f=.ok (xs.filterMap g):=by
 unfold nQ;rw[bK hl,CP,nY h]
theorem qY(l:List Nat):((l.map fun c=>[c]):List Tx).flatten=l:=by induction l with|nil=>rfl|cons a r ih=>simp[ih]
theorem o6{α:Type}(l:List α)(k:Nat):cut l none (some (k:Int))=l.take k:=by
 unfold cut sIx;simp only[];rw[if_neg (by omega),Ew];simp[List.take_eq_take_iff]
theorem uW{α:Type}(l:List α)(k:Nat):cut l (some (k:Int)) none=l.drop k:=by
 unfold cut sIx;simp only[];rw[if_neg (by omega),Ew];by_cases h:k<=l.length;·rw[Nat.min_eq_left h,Gd (by simp)]
 ·rw[Nat.min_eq_right (by omega),Gf (by omega),Gf (by omega)];simp
theorem dM{x:Tx}{t:Tx}(h:t∈bb x):∃c∈x,t=[c]:=by
 unfold bb at h;obtain⟨c,hc,e⟩:=DQ.mp h;exact⟨c,hc,e.symm⟩
theorem wY(a:Int):0<=dX a:=by unfold dX;split<;>omega
section
variable{α β:Type}{P:α->Prop}{Q:β->Prop}
theorem lg{m:Res α}{f:α->Res β}(h:m.Ok fun a=>(f a).Ok Q):(m.bind f).Ok Q:=Res.bind_ok h
theorem C3{b:Bool}{A B:Res α}(h1:b=true->A.Ok P)(h2:b=false->B.Ok P):(if b=true then A else B).Ok P:=by
 cases b with
 |true=>exact h1 rfl
 |false=>exact h2 rfl
theorem p7{c:Prop}[Decidable c]{A B:Res α}(h1:c->A.Ok P)(h2:¬c->B.Ok P):(if decide c=true then A else B).Ok P:=by
 by_cases h:c;·rw[decide_eq_true h];exact h1 h
 ·rw[decide_eq_false h];exact h2 h
theorem hW{a:α}(h:P a):(CW a).Ok P:=h
theorem C4{m:Res α}{a:α}(e:m=.ok a)(h:P a):m.Ok P:=by rw[e];exact h
end
end Mi
namespace L2
open PySem PySem.Spec PyProof.Rows Wb
end L2
namespace L2
open PySem PySem.Spec PyProof.Rows
end L2
namespace Wb
open PySem L2 Mi
variable{Er:Nat->Prop}
end Wb
namespace Mi
def kA(a b:Tx):Res Bool:=.ok<|decide<|a=b
def o7{κ α:Type}[DecidableEq κ](kvs:List (κ×α))(k:κ)(a:α):List (κ×α):=
 if(kvs.any fun kv=>decide<|kv.1=k)=true then kvs.map (fun kv=>if kv.1=k then(kv.1,a)else kv)else kvs++[(k,a)]
end Mi
namespace PySem
open Sem (wp)
open AutoSeq1 (wpAny_loadPart')
end PySem
namespace L2
open PySem PySem.Spec PyProof.Rows
end L2
namespace L2
end L2
namespace Wb
open PySem L2 Mi
variable{Er:Nat->Prop}
section
variable{α β γ δ:Type}{t t1 t2 t3 t4 ta tb tc td:TE}{σ:St}{W W0 W':Wd}{K:CT}{w:Dp}
def fZ(K:CT):Nat->Sp
 |0=>fun _ _ _ _=>False
 |n+1=>fun vs H Q _=>∃v u,vs=[v,u]/\((EqK K H n v u/\∀H',Same H H'->Q (.bl true) H')\/∃x y,v=.str x/\u=.str y/\Q (.bl<|decide<|Ho x=Ho y) H)
theorem o9[DecidableEq α]{R:Rp α}[Mono R]{n N:Nat}[EqR K R n]{E:XK}{ma mb:Res α}(hn:n<N)(ha:EV Er ta σ W (sh R) ma)(hb:EV Er tb σ W (sh R) mb):EV Er (aT (fZ K N) [] E<|ao ta<|ao tb aU) σ W (sh isB) (ma.bind fun a=>mb.bind fun b=>Ak a b):=fun W1 e1 Q k=>
 ha W1 e1 _ ((CO k).imp fun a ka x W2 e2 hx=>hb W2 (e1.trans e2) _ ((CO ka).imp fun b kb y W3 e3 hy=>by
  unfold Ak at kb;by_cases z:a=b
  ·rw[if_pos z]at kb;subst z;cases N with
   |zero=>omega
   |succ N=>
    refine⟨x,y,rfl,.inl ⟨EqR.eq W3.H a x y N (by omega) (CM W3.ok<|CM (R:=R) e3.g hx)<|CM W3.ok hy,fun H' hs=>?_⟩⟩;exact kb (.bl true) ⟨W3.G,H',W3.ok.trans hs⟩ ⟨e2.g.trans e3.g,(e2.h.trans e3.h).trans hs,fun p hp=>(e2.trans e3).k p hp⟩ rfl
  ·rw[if_neg z]at kb;exact kb.elim))
theorem oa{N:Nat}{E:XK}{ma mb:Res Tx}(hn:0<N)(ha:EV Er ta σ W (sh isS) ma)(hb:EV Er tb σ W (sh isS) mb):EV Er (aT (fZ K N) [] E<|ao ta<|ao tb aU) σ W (sh isB) (ma.bind fun a=>mb.bind fun b=>kA a b):=fun W1 e1 Q k=>
 ha W1 e1 _ ((CO k).imp fun a ka x W2 e2 hx=>hb W2 (e1.trans e2) _ ((CO ka).imp fun b kb y W3 e3 hy=>by
  cases hx;cases hy;cases N with
  |zero=>omega
  |succ N=>exact⟨_,_,rfl,.inr ⟨_,_,rfl,rfl,by rw[dS];exact kb _ W3 (e2.trans e3) rfl⟩⟩))
theorem mO{D:Ends}{i:Nat}{te:TE}{a:Int}{m:Res Int}{f:Int->Int->Int}{σ':Int->St}(h:EV Er te σ W (sh isI) m)(q:m.OkE Er fun b=>∀W',Ext W W'->D.nx (σ'<|f a b) W'.H)(hi:σ[i]? =some (some<|.int a):=by rfl)(hσ:∀c,σ.set i (some<|.int c)=σ' c:=by intro _;rfl):wy i te (AO f) D σ W.H:=
 ⟨.int a,hi,h W (.refl _) _ (q.imp fun b kb v W' e hv=>by cases hv;exact⟨a,b,rfl,rfl,by have:=kb W' e;rw[<-hσ]at this;exact this⟩)⟩
theorem lO{D:Ends}{r:TS}{i:Nat}{te:TE}{a:Int}{m:Res Int}{f:Int->Int->Int}{σ':Int->St}(h:EV Er te σ W (sh isI) m)(q:m.OkE Er fun b=>∀W',Ext W W'->r D (σ'<|f a b) W'.H)(hi:σ[i]? =some (some<|.int a):=by rfl)(hσ:∀c,σ.set i (some<|.int c)=σ' c:=by intro _;rfl):gm (wy i te<|AO f) r D σ W.H:=mO (D:={D with nx:=r D}) h q hi hσ
theorem EV.go{W1:Wd}{R:Rw α}{m:Res α}{Q:VK}(e:Ext W W1)(h:EV Er t σ W R m)(k:m.OkE Er fun a=>∀v W2,Ext W1 W2->R W2 a v->Q v W2.H):t σ W1.H Q:=h W1 e Q k
theorem og{X:Cx}{st:Stmt}:PS X st yH:=fun _ _ _ _ _ _ h=>h.elim
end
end Wb
namespace Mi
end Mi
namespace L2
open PySem PySem.Spec PyProof.Rows
end L2
namespace L2
open PySem PySem.Spec PySem.Calls PyProof.Rows
open PySem.W (findIn findObj mroIn looks_findIn looks_find looks_mroIn class_get KitX clsIn Frag)
end L2
namespace L2
open PySem PySem.Spec PySem.Calls PyProof.Rows
end L2
namespace L2
open PySem PySem.Spec PySem.Calls PyProof.Rows Mi
end L2
namespace Wb
open PySem L2 Mi
end Wb
namespace Wb
open PySem L2 Mi
open PySem.W (findIn findObj mroIn kitOne kitCls clsIn typeIn subIn specialIn takesIn Frag)
end Wb
namespace Wb
open PySem L2 Mi
end Wb
namespace L2
open PySem PySem.Spec PyProof.Rows
end L2
namespace Wb
open PySem L2 Mi
end Wb
namespace Mi
def eZ{S:Type}(c:S->Res Bool)(f:S->Res S):Nat->S->Res S
 |0,_=>.stuck
 |n+1,s=>(c s).bind fun b=>if b then(f s).bind fun s'=>eZ c f n s' else .ok s
end Mi
namespace Wb
open PySem L2 Mi
section
variable{Er:Nat->Prop}{K:CT}{W0 W W':Wd}{p:Addr}{s:List Fr}{te:TE}{σ:St}{D:Ends}{i a b:Nat}{r:TS}{E:XK}
theorem uX{S:Type}{tc:TT}{tb:TS}{c:S->Res Bool}{f:S->Res S}{s0:S}{P:S->Prop}{n:Nat}(Iv:S->Wd->St->Prop)(q:(eZ c f n s0).OkE Er P)(h0:Iv s0 W σ)
  (hm:∀W1 W2 s σ1,Ext W1 W2->Iv s W1 σ1->Iv s W2 σ1)
  (hc:∀W1 s σ1,Same W.G W1.G->Iv s W1 σ1->TV Er tc σ1 W1 (c s))
  (hs:∀Wb W1 s σ1 P',Same W.G W1.G->Same Wb.G W1.G->Iv s W1 σ1->(f s).OkE Er P'->tb {D with nx:=p5 Wb Iv P',ct:=p5 Wb Iv P',bk:=D.nx} σ1 W1.H)
  (hd:∀s W1 σ1,Same W.G W1.G->Iv s W1 σ1->P s->D.nx σ1 W1.H):pf tc tb D σ W.H:=by
 refine⟨fun m σ' H'=>∃s' W',W'.H=H'/\Same W.G W'.G/\Iv s' W' σ'/\(eZ c f m s').OkE Er P,⟨n,s0,W,rfl,.refl _,h0,q⟩,?_⟩;rintro m σ1 H1 ⟨s,W1,rfl,e1,iv,k⟩;cases m with
 |zero=>exact k.elim
 |succ m=>
  refine hc W1 s σ1 e1 iv W1 (.refl _) _<|(CO k).imp fun b kb W2 e2=>?_;cases b with
  |true=>
   refine⟨p5 W Iv fun s'=>(eZ c f m s').OkE Er P,fun σ' H'⟨s',W',z1,z2,z3,z4⟩=>⟨m,GC _,s',W',z1,z2,z3,z4⟩,?_⟩;exact hs W W2 s σ1 _ (e1.trans e2.g) (e1.trans e2.g) (hm W1 W2 s σ1 e2 iv)<|CO kb
  |false=>exact hd s W2 σ1 (e1.trans e2.g) (hm W1 W2 s σ1 e2 iv) kb
section
variable{r:TS}
theorem kB{S:Type}{tc:TT}{tb:TS}{c:S->Res Bool}{f:S->Res S}{s0:S}{P:S->Prop}{n:Nat}(Iv:S->Wd->St->Prop)(q:(eZ c f n s0).OkE Er P)(h0:Iv s0 W σ)
  (hm:∀W1 W2 s σ1,Ext W1 W2->Iv s W1 σ1->Iv s W2 σ1)
  (hc:∀W1 s σ1,Same W.G W1.G->Iv s W1 σ1->TV Er tc σ1 W1 (c s))
  (hs:∀Wb W1 s σ1 P',Same W.G W1.G->Same Wb.G W1.G->Iv s W1 σ1->(f s).OkE Er P'->tb {D with nx:=p5 Wb Iv P',ct:=p5 Wb Iv P',bk:=r D} σ1 W1.H)
  (hd:∀s W1 σ1,Same W.G W1.G->Iv s W1 σ1->P s->r D σ1 W1.H):gm (pf tc tb) r D σ W.H:=uX (D:={D with nx:=r D}) Iv q h0 hm hc hs hd
end
end
end Wb
namespace L2
open PySem PySem.Spec PyProof.Rows
end L2
namespace Wb
open PySem L2 Mi
section
variable{Er:Nat->Prop}{α β:Type}{K:CT}{W W0:Wd}{p:Addr}{ta tb te:TE}{σ:St}{D:Ends}{i:Nat}{r:TS}{base:Heap}
theorem LR.rev{R:Rp α}{H:Hp}{as:List α}{vs:List V}(h:LR R H as vs):LR R H as.reverse vs.reverse:=⟨by simp[h.1],fun i v m q1 q2=>by
 have hi:i<vs.length:=by have:=(D5.mp q1).1;simpa using this
 rw[FH hi]at q1;rw[FH (by rw[<-h.1];exact hi),<-h.1]at q2;exact h.2 _ v m q1 q2⟩
theorem wZ{R:Rp α}[Mono R]{ma:Res (List α)}(ha:EV Er ta σ W (pk R) ma):EVo Er (um K ta<|bB<|fP (rU fun i=>.int<|-i)<|tC<|.int 1) σ W R (ma.bind fun a=>.ok a.reverse):=fun W1 e1 Q k=>
 ha W1 e1 _ ((CO k).imp fun a ka x W2 e2 hx=>by
  obtain⟨p,vs,rfl,h1,h2⟩:=hx;refine⟨1,rfl, -1,rfl,p,vs,rfl,rfl,Fv h1,fun q hq=>ka q (W2.mut q (.lst vs.reverse) (W2.gnone hq)) (e2.trans (.own _ hq)) (bp e2.h hq) ⟨W2.gnone hq,_,aH,LR.rev h2⟩⟩)
end
end Wb
namespace L2
open PySem PySem.Spec PySem.Calls PyProof.Rows Mi
end L2
namespace Wb
open PySem L2 Mi
end Wb
namespace L2
open PySem PySem.Spec PyProof.Rows
end L2
namespace Wb
open PySem L2 Mi
end Wb
namespace L2
open PySem PySem.Spec PyProof.Rows
end L2
namespace Wb
open PySem L2 Mi
end Wb
namespace Mi
end Mi
namespace Wb
open PySem L2 Mi
end Wb
namespace L2
open PySem PySem.Spec PyProof.Rows
noncomputable def dZ(tg iter:Expr)(ifs:List Expr)(body:Sem Unit)(it:CU)(env:Env)(c:Code):Sem Fin:=do
 standAt iter.pos
 match <-pyNext it with
 |none=>pure<|.done .next
 |some v=>
  letOwnedTupleGo tg it v
  assign tg env v
  let mut ok:=true
  for c in ifs do
   if ok then ok <-isTrue c env (eval c env)
  if ok then body
  again c
structure CompE(e:Expr):Prop where
 a:∀(A:DS)(d:Nat)(it acc:CU)(env:Env),A.under (.compLoop e d it acc env)=A
 b:∀(A:DS)(d:Nat)(it acc:CU)(env:Env),A.under (.compStart e d it acc env)=A
 c:∀(prog:Dj)(w:Dp)(d:Nat)(it acc:CU)(env:Env),(model prog w).den (.compLoop e d it acc env)=(compTurn e d it acc env).onRaise (fun x=>do noteFrame x env;theTreesLotGoes x)
 d:∀(prog:Dj)(w:Dp)(d:Nat)(it acc:CU)(env:Env),(model prog w).den (.compStart e d it acc env)=(compStart e d it acc env).onRaise (fun x=>do noteFrame x env;standAt theWindowsPlace)
theorem CompE.dict{k v:Expr}{gs:List IQ}{sc:Gi}{pos:Pos}:CompE (.DictComp k v gs sc pos):=⟨fun _ _ _ _ _=>rfl,fun _ _ _ _ _=>rfl,fun _ _ _ _ _ _=>rfl,fun _ _ _ _ _ _=>rfl⟩
theorem CompE.set{k:Expr}{gs:List IQ}{sc:Gi}{pos:Pos}:CompE (.SetComp k gs sc pos):=⟨fun _ _ _ _ _=>rfl,fun _ _ _ _ _=>rfl,fun _ _ _ _ _ _=>rfl,fun _ _ _ _ _ _=>rfl⟩
section
variable{prog:Dj}{w:Dp}{A:DS}{R:Lg->CV->Prop}{s:CV}
theorem lh{e:Expr}(ce:CompE e){d:Nat}{tg iter:Expr}{ifs:List Expr}{it acc:CU}{env:Env}{body:Sem Unit}(ht:compTurn e d it acc env=dZ tg iter ifs body it env (.compLoop e d it acc env))(I:Nat->CV->Prop)
  (turn:∀n s,I n s->wpAny (model prog w) A (pyNext it) (fun r s₁=>match r with
   |none=>R (.ok .next) s₁
   | some v=>wpAny (model prog w) A (letOwnedTupleGo tg it v) (fun _ s₁'=>wpAny (model prog w) A (assign tg env v) (fun _ s₂=>
     wpAny (model prog w) A (forIn ifs true fun c r=>if r=true then do let ok <-isTrue c env (eval c env);pure (DH ok)else pure (DH r)) (fun ok s₃=>
      if ok=true then wpAny (model prog w) A body (fun _ s₅=>∃m,m<n/\I m s₅) (fun _ _=>False) s₃
      else ∃m,m<n/\I m s₃) (fun _ _=>False) s₂) (fun _ _=>False) s₁') (fun _ _=>False) s₁) (fun _ _=>False) s)
  (n:Nat) (h:I n s):codeAny (model prog w) A (.compLoop e d it acc env) R s:=by
 refine codeAny_loop rfl I (fun n s hI=>?_) n h;rw[ce.a,ce.c];refine wpAny_noted ?_;rw[ht];unfold dZ;refine CN<|Fz<|CN<|Ee (turn n s hI) (fun r s₁ h₁=>?_) fun _ _ h'=>h'.elim;cases r with
 |none=>exact CS h₁
 |some v=>
  refine CN<|Ee h₁ (fun _ s₁' h₁'=>?_) fun _ _ h'=>h'.elim;refine CN<|Ee h₁' (fun _ s₂ h₂=>CN<|Ee h₂ (fun ok s₃ h₃=>?_) fun _ _ h'=>h'.elim) fun _ _ h'=>h'.elim;cases ok with
  |true=>
   rw[if_pos rfl]at h₃;exact CN<|Ee h₃ (fun _ s₄ h₄=>CS ⟨rfl,h₄⟩) fun _ _ h'=>h'.elim
  |false=>
   rw[if_neg Dg]at h₃;exact CS ⟨rfl,h₃⟩
theorem i6{e:Expr}(ce:CompE e){d:Nat}{g:IQ}{it acc:CU}{env:Env}(hg:(clausesOf e)[d]? =some g)(ha:g.is_async=0)
  (h0:codeAny (model prog w) A (.compLoop e d it acc env) R s)
  (h:wpAny (model prog w) A (pyIter it) (fun it' s'=>codeAny (model prog w) A (.compLoop e d it' acc env) R s') (notedBy (model prog w) A env fun x s'=>R (.error x) s') s):
  codeAny (model prog w) A (.compStart e d it acc env) R s:=by
 refine codeAny_of_tree ?_;rw[ce.b,ce.d];refine wpAny_notedAt ?_;unfold compStart;rw[hg];simp only[Option.elim_some,ha,bne_self_eq_false,DA,if_false];refine CN<|G4<|wpAny_ite ?_;split
 ·first
   |exact CN<|CS<|CS<|KJ rfl h0
   |exact CS<|KJ rfl h0
 ·first
   |exact CN<|Fe<|CN<|Fz<|CN<|Ee h (fun it' s' h'=>CS<|KJ rfl h') fun _ _ x=>x
   |(refine CN<|Fe ?_;exact CN<|Fz<|CN<|Ee h (fun it' s' h'=>CS<|KJ rfl h') fun _ _ x=>x)
end
noncomputable def ym(kx vx:Expr)(env:Env)(acc:CU):Sem Unit:=do
        let kv <-eval kx env
        let vv <-holding [kv] (eval vx env)
        match acc with
        | .ref d => do
          standAt {kx.pos with endLine:=vx.pos.endLine,endCol:=vx.pos.endCol}
          holding [kv,vv] (dictSet d kv vv)
        |_=>unsupported "internal:dictcomp"
noncomputable def x4(iter:Expr)(e:Expr)(d:Nat)(env:Env)(acc:CU):Sem Unit:=do
        let x <-eval iter env
        standAt iter.pos
        let x <-foldedSetIterable iter env x
        let _ <-runOwn (.compStart e d (<-holding [x] (pyIter x)) acc env) env
abbrev TB:=Addr->St->Hp->(Hp->Prop)->Prop
def PB(Y:Cx)(body:CU->Sem Unit)(tb:TB):Prop:=∀(D:Addr)(pins:List (Addr×Obj))(s:CV)(σ:St)(H:Hp)(N:Hp->Prop),Inv Y pins σ H s->tb D σ H N->
 wpAny (model Y.prog Y.w) Y.A (body<|.ref D) (fun _ s'=>∃σ' H',Inv Y pins σ' H' s'/\(∀(j:Nat)(v:V),σ[j]? =some (some v)->σ'[j]? =some (some v))/\N H') (fun _ _=>False) s
def sL(g:TG)(tf:TT)(tb:TB)(D:Addr)(σ:St)(H1:Hp)(N:Hp->Prop)(J:It):Prop:=∃W:Nat->Nat->Hp->Prop,(∃m,W 0 m H1)/\∀i m H,W i m H->
 ((J.stop i H/\N H)\/(J.go i H/\∃M:Hp->Prop,(∀H',M H'->∃m',m'<m/\W (i+1) m' H')/\∀x H',J.yld i H x H'->g x σ H' fun σ2 H2=>Keep σ σ2/\tf σ2 H2 fun b H3=>if b=true then tb D σ2 H3 M else M H3))
def zd(wi:TI)(g:TG)(tf:TT)(tb:TB):TB:=fun D σ H N=>wi σ H fun J H1=>sL g tf tb D σ H1 N J
section
variable{Y:Cx}{tg iter elt kx vx:Expr}{ifs:List Expr}{g:TG}{tf:TT}{tb:TB}{body:CU->Sem Unit}{te tk tv:TE}{wi:TI}
theorem oh(hc:Y.calm=true)(hxe:Y.xe=fun _ _=>False)(hg:PG Y tg g)(hf:tO Y ifs tf)(hb:PB Y body tb){e:Expr}(ce:CompE e){d:Nat}{it:Addr}{fp:List Addr}{tn:Nat->Heap->Prop}{J:It}(T:Turn Y.prog Y.w Y.K tg J fp it tn)
  {pins:List (Addr×Obj)} {s:CV} {σ:St} {H:Hp} {D:Addr} {N:Hp->Prop} {R:Lg->CV->Prop} (I:Inv Y pins σ H s) (st:tn 0 s.heap) (f:∀b∈fp,FpOk Y pins H b) (w:sL g tf tb D σ H N J)
  (ht:compTurn e d (.ref it) (.ref D) Y.env=dZ tg iter ifs (body<|.ref D) (.ref it) Y.env (.compLoop e d (.ref it) (.ref D) Y.env))
  (fin:∀σ' H' s',Inv Y pins σ' H' s'->(∀(j:Nat)(v:V),σ[j]? =some (some v)->σ'[j]? =some (some v))->N H'->R (.ok .next) s'):
  codeAny (model Y.prog Y.w) Y.A (.compLoop e d (.ref it) (.ref D) Y.env) R s:=by
 obtain⟨W,⟨m0,w0⟩,turn⟩:=w;have stat:∀{H':Hp},(∀b∈fp,H' b=none)->∀b∈fp,FpOk Y pins H' b:=fun hn b hb=>⟨hn b hb,(f b hb).2⟩
 refine lh ce ht (fun n s'=>∃i σ' H',Inv Y pins σ' H' s'/\tn i s'.heap/\(∀b∈fp,H' b=none)/\(∀(j:Nat)(v:V),σ[j]? =some (some v)->σ'[j]? =some (some v))/\W i n H') ?_ m0 ⟨0,σ,H,I,st,fun b hb=>(f b hb).1,fun _ _ e=>e,w0⟩;rintro n s3 ⟨i,σ3,H3,I3,st3,fr3,kp,w3⟩;rcases turn i n H3 w3 with⟨stop,qn⟩|⟨go,M,hM,step⟩
 ·refine bP (T.done Y rfl rfl rfl hc i pins s3 σ3 H3 _ I3 (stat fr3) st3 stop) fun r s4 zz=>?_;obtain⟨hr,I4⟩:=zz;subst hr;exact fin σ3 H3 s4 I4 kp qn
 ·have I3':Inv Y pins σ H3 s3:=I3.weak (by rw[I3.len,I.len]) kp;refine bP (T.item Y rfl rfl rfl hc i pins s3 σ H3 _ I3' (stat fr3) st3 go) fun r s4 zz=>?_;obtain⟨u,hr,h4⟩:=zz;subst hr;refine bP h4 fun _ s5 zz=>?_;obtain⟨x,H5,I5,r5,y5,st5,fr5⟩:=zz;have I5':=I5.pinned (stat fr5)<|T.obj _ _ st5;have hg':=hg _ s5 σ H5 x u _ I5' r5<|step x H5 y5;rw[hxe]at hg';refine bP hg' fun _ s6 zz=>?_;obtain⟨σ6,H6,I6,kp6,q6⟩:=zz;have hf':=hf _ s6 σ6 H6 _ I6 q6;rw[hxe]at hf';refine bP hf' fun ok s7 zz=>?_;obtain⟨H7,I7,q7⟩:=zz;have again:∀{s8:CV}{σ7:St}{H7:Hp},Inv Y (pins++iQ fp s5.heap) σ7 H7 s8->(∀(j:Nat)(v:V),σ6[j]? =some (some v)->σ7[j]? =some (some v))->M H7->∃m,m<n/\∃i σ' H',Inv Y pins σ' H' s8/\tn i s8.heap/\(∀b∈fp,H' b=none)/\(∀(j:Nat)(v:V),σ[j]? =some (some v)->σ'[j]? =some (some v))/\W i m H':=fun{s8 σ7 H7}I7 k7 n7=>by
   obtain⟨m',hm,w7⟩:=hM H7 n7;refine⟨m',hm,i+1,σ7,H7,I7.unpinned,T.keep _ _ _ st5 fun b hb o e=>(I7.pin (b,o)<|DD _<|DD _<|eQ hb e).1,fun b hb=>?_,fun j v e=>k7 j v<|Keep.get kp6 e,w7⟩;obtain⟨o,e,d⟩:=T.obj _ _ st5 b hb;exact(I7.pin (b,o)<|DD _<|DD _<|eQ hb e).2.1
  cases ok with
  |false=>
   rw[if_neg Dg]at q7 ⊢;exact again I7 (fun _ _ e=>e) q7
  |true=>
   rw[if_pos rfl]at q7 ⊢;refine bP (hb D _ s7 σ6 H7 _ I7 q7) fun _ s8 zz=>?_;obtain⟨σ8,H8,I8,k8,q8⟩:=zz;exact again I8 k8 q8
theorem ze(hc:Y.calm=true)(hxe:Y.xe=fun _ _=>False)(hi:PI Y tg iter wi)(hg:PG Y tg g)(hf:tO Y ifs tf){body:Env->CU->Sem Unit}(hb:PB Y (body Y.env) tb){e:Expr}(ce:CompE e){d:Nat}(hcl:(clausesOf e)[d]? =some ⟨tg,iter,ifs,0⟩)
  (ht:∀env it acc,compTurn e d it acc env=dZ tg iter ifs (body env acc) it env (.compLoop e d it acc env):=by intro _ _ _;rfl) (hs:∀x,foldedSetIterable iter Y.env x=pure x:=by intro _;rfl):
  PB Y (x4 iter e d Y.env) (zd wi g tf tb):=by
 intro D pins s σ H N I h;have hi':=hi pins s σ H _ I h;rw[hxe]at hi';refine CN<|bP hi' fun v s1 h1=>CN<|Fz<|CN<|JN (hs v)<|CN<|EL<|bP h1 fun itv s2 h2=>?_;obtain⟨it,fp,tn,J,H2,rfl,I2,T,st2,f2,w⟩:=h2;have lp:codeAny (model Y.prog Y.w) Y.A (.compLoop e d (.ref it) (.ref D) Y.env) (fun r s'=>match r with| .ok f=>(∃σ' H',Inv Y pins σ' H' s'/\(∀(j:Nat)(v:V),σ[j]? =some (some v)->σ'[j]? =some (some v))/\N H')| .error x=>cameBackBy (model Y.prog Y.w) Y.A Y.env (fun _ _=>False) x s') s2:=
  oh hc hxe hg hf hb ce T I2 st2 f2 w (ht _ _ _) fun σ' H' s' I' k' n'=>⟨σ',H',I',k',n'⟩
 refine CN<|wpAny_runOwn<|i6 ce hcl rfl ?_ ?_
 ·exact HW lp fun r s' h=>by
   cases r with
   |ok f=>exact CS h
   |error x=>exact h
 ·refine T.self _ 0 _ _ _ st2 (HW lp fun r s' h=>by
   cases r with
   |ok f=>exact CS h
   |error x=>exact h)
end
section
variable{X:Cx}{scope:Gi}{N:List Str}{cap:List (Option Nat)}{tg iter:Expr}{ifs:List Expr}{pos:Pos}{wi:TI}{g:TG}{tf:TT}{tb:TB}{body:Env->CU->Sem Unit}
theorem lP{pins:List (Addr×Obj)}{σ σ':St}{H2 H':Hp}{s2 s':CV}{fp:List Addr}{C:Addr}{h':Heap}(I2:Inv X pins σ H2 s2)(f2:∀b∈fp,FpOk X pins H2 b)
  (hC:s2.heap.objs.size<=C) (I':Inv (aA X scope N s2 H2 C fp) [] σ' H' s') (hs:Dl C s'.heap h'):Inv X pins σ H' {s' with heap:=h'}:=by
 have nC:H' C=none:=I'.free;have lt2:∀b o,s2.heap.get? b=some o->b≠C:=fun b o e=>Dv<|D8 (Dc e) hC;have hk:∀b o,b≠C->s'.heap.get? b=some o->h'.get? b=some o:=fun b o hb e=>(hs.2 b hb).trans e;have B:Un (frs X.stack) fp H2 H' s2.heap s'.heap:=I'.base;have tr:∀b u,H' b=some u->b≠C:=fun b u e z=>by rw[z,nC]at e;cases e
 refine I2.call' (ch:=fp) I'.os ⟨fun b o e n hb hx=>?_,fun b o e n hb hx=>?_,fun b o e n hx=>?_,fun b o e hx=>?_,fun b xs e=>?_,fun b o u e=>?_,fun b ps e=>?_⟩ (fun b u e=>?_) I'.bare fun b hb=>⟨(f2 b hb).2.2.2.1,(f2 b hb).2.1,(f2 b hb).2.2.2.2.1,(f2 b hb).2.2.2.2.2⟩
 ·exact hk b o (lt2 b o e)<|B.keep b o e n hb hx
 ·obtain⟨sl,q⟩:=B.slot b o e n hb hx;exact⟨sl,hk b _ (lt2 b o e) q⟩
 ·exact B.free b o e n hx
 ·obtain⟨o',q⟩:=B.there b o e hx;exact⟨o',hk b _ (lt2 b o e) q⟩
 ·exact B.tups b xs e
 ·exact B.frzs b o u e
 ·exact B.tbls b ps e
 ·refine(I'.hok b u e).stay (fun c w' hc q=>hk c w' ?_ q) (fun c q=>q) fun c xs q=>q;rcases hc with z|z
  ·rw[z];exact tr b u e
  ·exact tr c _ z
theorem kC(S:CompScope X scope N cap)(hc:X.calm=true){e:Expr}(ce:CompE e)(hcl:(clausesOf e)[0]? =some ⟨tg,iter,ifs,0⟩)
    (hg:∀s H C fp,PG (aA X scope N s H C fp) tg g) (hf:∀s H C fp,tO (aA X scope N s H C fp) ifs tf) (hb:∀s H C fp,PB (aA X scope N s H C fp) (body (aA X scope N s H C fp).env) tb)
    (ht:∀env it acc,compTurn e 0 it acc env=dZ tg iter ifs (body env acc) it env (.compLoop e 0 it acc env))
    {pins:List (Addr×Obj)} {σ:St} {H3:Hp} {s3:CV} {it D:Addr} {fp:List Addr} {tn:Nat->Heap->Prop} {J:It} {Qv:Hp->Prop} {E:CU->CV->Prop} {RR:Addr->Lg->CV->Prop}
    (I3:Inv X pins σ H3 s3) (T:Turn X.prog X.w X.K tg J fp it tn) (st3:tn 0 s3.heap) (f3:∀b∈fp,FpOk X pins H3 b) (w:sL g tf tb D (br cap σ) H3 Qv J)
    (fin:∀(C:Addr)(σ':St)(H':Hp)(s':CV),s3.heap.objs.size<=C->Inv (aA X scope N s3 H3 C fp) [] σ' H' s'->Qv H'->RR C (.ok .next) s'):
    wpAny (model X.prog X.w) X.A (newFunctionEnv scope X.env.globals (bZ X.env scope.names []) [] X.env.qual none .none<|some X.env) (fun cenv s₄=>
      codeAny (model X.prog X.w) X.A (.compStart e 0 (.ref it) (.ref D) {cenv with scope:=relabel scope X.env}) (RR cenv.locals) s₄) E s3:=by
  refine jP ?_;generalize hC:s3.heap.objs.size=C;generalize hH4:pushCells (s3.heap.push {cls:=.type "dict",data:=.dict #[]}) scope.names=h4;have hz3':(s3.heap.push {cls:=.type "dict",data:=.dict #[]}).objs.size=C+1:=by rw[E8,hC]
  have ck:M7 h4 (C+1) (cellsFrom (C+1) scope.names []):=by
    have:=cellsFrom_ok scope.names (s3.heap.push {cls:=.type "dict",data:=.dict #[]}) (C+1) [] ⟨fun _ _ hm=>(nomatch hm),Gp⟩ (by rw[hz3'];exact D0 _);rw[hz3',hH4]at this;exact this
  have k34:∀b o,s3.heap.get? b=some o->h4.get? b=some o:=fun b o e=>by rw[<-hH4];exact HL _ _ b o<|CQ _ e
  have hn4:h4.Ns C fun _=>none:=by
    rw[<-hH4,<-hC];exact(Mr s3.heap<|.type "dict").keeps (HL _ _)
  have hlt:∀b∈fp,b<C:=fun b hb=>by
    obtain⟨o,e,_⟩:=T.obj _ _ st3 b hb;rw[<-hC];exact Dc e
  have hCs:s3.heap.objs.size<=C:=by rw[hC];exact D0 _
  have IC:Inv (aA X scope N s3 H3 C fp) [] (br cap σ) H3 {s3 with heap:=h4}:=
    jQ S I3 hCs ck f3 hlt ⟨_,_,rfl⟩ hn4 fun b o e=>k34 b o e
  have okC:=IC.ok;have fO:∀b∈fp,FpOk (aA X scope N s3 H3 C fp) [] H3 b:=fun b hb=>
    ⟨(f3 b hb).1,Dv<|hlt b hb,okC.exfs b hb,.inl hb,(okC.exf b hb).2,fun p hp=>by
      have:p∈([]:List (Addr×Obj)):=hp;cases this⟩
  have st4:tn 0 h4:=T.keep _ _ _ st3 fun b hb o e=>k34 b o e;have loop:codeAny (model X.prog X.w) X.A (.compLoop e 0 (.ref it) (.ref D) (aA X scope N s3 H3 C fp).env) (RR C) {s3 with heap:=h4}:=
    oh (Y:=aA X scope N s3 H3 C fp) hc rfl (hg _ _ _ _) (hf _ _ _ _) (hb _ _ _ _) ce T IC st4 fO w (ht _ _ _) fun σ' H' s' I' _ q=>fin C σ' H' s' hCs I' q
  exact i6 ce hcl rfl loop<|T.self _ 0 _ _ _ st4 loop
theorem sM{it acc:CU}{env:Env}{e iter2:Expr}{d:Nat}{c:Code}:dZ tg iter ifs (x4 iter2 e d env acc) it env c=(do
 standAt iter.pos
 match <-pyNext it with
 |none=>pure (.done .next)
 |some v=>
  letOwnedTupleGo tg it v
  assign tg env v
  let mut ok:=true
  for c in ifs do
   if ok then ok <-isTrue c env (eval c env)
  if ok then
    let x <-eval iter2 env
    standAt iter2.pos
    let x <-foldedSetIterable iter2 env x
    let _ <-runOwn (.compStart e d (<-holding [x] (pyIter x)) acc env) env
  again c):=by
 unfold dZ x4;simp only[bind_assoc,pure_bind]
 all_goals rfl
variable{kx vx elt tg2 iter2 tg3 iter3:Expr}{ifs2 ifs3:List Expr}{wi2 wi3:TI}{g2 g3:TG}{tf2 tf3:TT}{te tk tv:TE}{mk:HO}
end
end L2
open L2.CompE renaming set->MU
namespace Wb
open PySem L2 Mi
section
variable{Er:Nat->Prop}{α β γ S:Type}{K:CT}{W W' W0 Wb W1 W2:Wd}{σ:St}{t ta tb te ti tk tv:TE}{i:Nat}{O:Wd->Addr->S->Prop}
theorem uY{t:TB}{D:Addr}{H:Hp}{M:Hp->Prop}(h:t D σ H M):yV σ H fun b H3=>if b=true then t D σ H3 M else M H3:=by
 show(if true=true then t D σ H M else M H);rw[if_pos rfl];exact h
def BV(Er:Nat->Prop)(t:TB)(σ:St)(Wb W:Wd)(O:Wd->Addr->S->Prop)(D:Addr)(m:S->Res S):Prop:=∀W1 s(N:Hp->Prop),Ext W W1->O W1 D s->(m s).OkE Er (fun s'=>∀W',Same W1.G W'.G->Ext Wb W'->O W' D s'->N W'.H)->t D σ W1.H N
theorem mP{R:Rp α}{J:It}{xs:List α}{g:TG}{tf:TT}{t:TB}{f:α->S->Res S}{D:Addr}{N:Hp->Prop}{s0:S}(hy:Yl J W R xs)(h0:Ext W W1\/Same W.G W1.G)(eb:Ext Wb W1)(o:O W1 D s0)
  (hs:∀W2 a v s(M:Hp->Prop),Same W.G W2.G->Ext Wb W2->O W2 D s->R W2.G a v->(f a s).OkE Er (fun s'=>∀W',Same W2.G W'.G->Ext Wb W'->O W' D s'->M W'.H)->g v σ W2.H fun σ2 H2=>Keep σ σ2/\tf σ2 H2 fun b H3=>if b=true then t D σ2 H3 M else M H3)
  (mono:∀W W' s,Ext W W'->O W D s->O W' D s)
  (k:(bL f xs s0).OkE Er fun s'=>∀W',Same W.G W'.G->Ext Wb W'->O W' D s'->N W'.H):sL g tf t D σ W1.H N J:=by
 have hs1:Same W.G W1.G:=h0.elim (fun e=>e.g) id;refine⟨fun i n H=>n=xs.length-i/\i<=xs.length/\∃(W3:Wd)(s:S),W3.H=H/\Same W.G W3.G/\Ext Wb W3/\O W3 D s/\(bL f (xs.drop i) s).OkE Er fun s'=>∀W',Same W.G W'.G->Ext Wb W'->O W' D s'->N W'.H,⟨xs.length,by simp,by simp,W1,s0,rfl,hs1,eb,o,by simpa using k⟩,?_⟩;rintro i n H ⟨rfl,hi1,W3,s,rfl,e3,eb3,o3,q⟩;by_cases hlt:i<xs.length
 ·obtain⟨a,ha⟩:∃a,xs[i]? =some a:=⟨xs[i],by simp[hlt]⟩
  obtain⟨h1,h2⟩:=(hy W3 e3).1 i a ha;refine .inr ⟨h1,fun H'=>∃(W3:Wd)(s:S),W3.H=H'/\Same W.G W3.G/\Ext Wb W3/\O W3 D s/\(bL f (xs.drop<|i+1) s).OkE Er fun s'=>∀W',Same W.G W'.G->Ext Wb W'->O W' D s'->N W'.H,fun H' z=>⟨xs.length-(i+1),by omega,rfl,hlt,z⟩,fun x H' hx=>?_⟩;obtain⟨W4,rfl,e4,rx⟩:=h2 x H' hx;rw[lK ha]at q;exact hs W4 a x s _ (e3.trans e4.g) (eb3.trans e4) (mono _ _ _ e4 o3) rx<|(CO q).imp fun s' ks W' z1 z2 z3=>⟨W',s',rfl,(e3.trans e4.g).trans z1,z2,z3,ks⟩
 ·have e:i=xs.length:=by omega
  subst e;rw[G2]at q;exact .inl ⟨(hy W3 e3).2,q W3 e3 eb3 o3⟩
theorem zf{R:Rp α}{wi:TI}{g:TG}{tf:TT}{t:TB}{mi:Res (List α)}{f:α->S->Res S}{D:Addr}(eb:Ext Wb W)(hi:IV Er wi σ W R mi)(mono:∀W W' s,Ext W W'->O W D s->O W' D s)
  (hs:∀W2 a v s(M:Hp->Prop),Same W.G W2.G->Ext Wb W2->O W2 D s->R W2.G a v->(f a s).OkE Er (fun s'=>∀W',Same W2.G W'.G->Ext Wb W'->O W' D s'->M W'.H)->g v σ W2.H fun σ2 H2=>Keep σ σ2/\tf σ2 H2 fun b H3=>if b=true then t D σ2 H3 M else M H3):
  BV Er (zd wi g tf t) σ Wb W O D (fun s=>mi.bind fun xs=>bL f xs s):=fun W1 s N e1 o k=>
 hi W1 e1 _ ((CO k).imp fun xs kx J W2 e2 hy=>mP (W:=W2) (Wb:=Wb) hy (.inl<|.refl _) ((eb.trans e1).trans e2) (mono _ _ _ e2 o) (fun W3 a v s M e3 eb3 o3 r k3=>hs W3 a v s M ((e1.trans e2).g.trans e3) eb3 o3 r k3) mono<|kx.imp fun s' ks W' z1 z2 z3=>ks W' (e2.g.trans z1) z2 z3)
end
end Wb
namespace Mi
end Mi
namespace Wb
open PySem L2 Mi
end Wb
namespace Mi
end Mi
namespace Wb
open PySem L2 Mi
section
open PyProof PyProof.Rows
variable{X:Cx}{pos:Pos}
end
end Wb
namespace Mi
end Mi
namespace Wb
open PySem L2 Mi
end Wb
namespace Mi
end Mi
namespace Wb
open PySem L2 Mi
end Wb
namespace L2
open PySem PySem.Spec PyProof.Rows
end L2
namespace L2
open PySem PySem.Spec PyProof.Rows Builtin Builtin.ObjectAttr
open PySem.W (findIn findObj mroIn looks_findIn looks_find looks_mroIn looks_clsIn clsIn Frag InstAt Looks)
end L2
namespace L2
open PySem PySem.Spec PySem.Calls PyProof.Rows
open PySem.W (findIn findObj mroIn looks_findIn looks_find looks_mroIn class_get KitX clsIn Frag InstAt lookIn)
def XO(a:Addr)(o:Obj):HO:=.ext fun h=>h.get? a=some o
section
variable{P:Dj}{w:Dp}{H:Hp}{h:Heap}{a d:Addr}{o:Obj}{fs:List (Str×V)}{mA:Str->Option CU}
theorem XO.ok(e:h.get? a=some o):ObjOk P w H h a (XO a o):=⟨e,⟨_,e⟩,fun _ _ p k=>k _ p⟩
end
end L2
open L2.XO renaming ok->MX
namespace L2
open PySem PySem.Spec PySem.Calls PyProof.Rows
open PySem.W (findIn findObj clsIn Frag InstAt lookIn)
end L2
namespace Mi
end Mi
namespace Wb
open PySem L2 Mi
end Wb
namespace Mi
end Mi
namespace L2
open PySem PySem.Spec PyProof.Rows PySem.SeqAt PySem.AutoSeq1 PySem.MeetsSeq
end L2
namespace Wb
open PySem L2 Mi
end Wb
namespace Mi
def zg(a b:Int×Int):Bool:=decide (a.1<b.1)||(decide (a.1=b.1)&&decide (a.2<=b.2))
theorem jv{a b:Int×Int}:zg a b=true↔a.1<b.1\/(a.1=b.1/\a.2<=b.2):=by unfold zg;simp
def fq(xs:List (Int×Int)):List (Int×Int):=xs.mergeSort zg
theorem eI(xs:List (Int×Int)):(fq xs).Perm xs:=JT _ _
theorem kD(xs:List (Int×Int)):(fq xs).Pairwise (fun a b=>zg a b=true):=
 J4 (le:=zg) (fun a b c h1 h2=>by rw[jv]at *;omega) (fun a b=>by simp only[L6,jv];omega) xs
theorem kE{xs ys:List (Int×Int)}(h:ys.Perm xs)(hs:ys.Pairwise (fun a b=>zg a b=true)):ys=fq xs:=
 IP (le:=fun a b=>zg a b=true) (fun a b _ _ h1 h2=>by rw[jv]at *;exact Ib (by omega) (by omega)) hs (kD xs) (h.trans (eI xs).symm)
def sN(ks:List (Int×Int))(k:Int×Int):Res (List<|Int×Int):=fz (ks.length<1000) (if k∈ks then ks else k::ks)
def uZ(ks:List (Int×Int)):Res (List<|Int×Int):=fz (ks.length<=1000)<|fq ks
end Mi
namespace Wb
open PySem
theorem kF{xs:Array Nat}{j:Nat}(up:∀a b,a<b->b<xs.size->xs.getD a 0<xs.getD b 0):∀(f lo hi:Nat),hi-lo<=f->lo<=hi->hi<=xs.size->(∀a,a<lo->xs.getD a 0<j)->(∀a,hi<=a->a<xs.size->j<=xs.getD a 0)->
  Gq xs j f lo hi<=xs.size/\(∀a,a<Gq xs j f lo hi->xs.getD a 0<j)/\(∀a,Gq xs j f lo hi<=a->a<xs.size->j<=xs.getD a 0)
 |0,lo,hi,h,hl,hs,h1,h2=>by
  unfold Gq;exact⟨by omega,h1,fun a ha=>h2 a (by omega)⟩
 |f+1,lo,hi,h,hl,hs,h1,h2=>by
  unfold Gq;by_cases z:lo<hi
  ·rw[if_pos z];have hm:(lo+hi)/2<hi:=by omega
   have hm2:lo<=(lo+hi)/2:=by omega
   have e:∀d d':Nat,xs.getD ((lo+hi)/2) d=xs.getD ((lo+hi)/2) d':=fun d d'=>by
    simp[Fu,show(lo+hi)/2<xs.size by omega]
   dsimp only;generalize hM:(lo+hi)/2=m at*
   by_cases y:xs.getD m j<j
   ·rw[if_pos y];refine kF up f (m+1) hi (by omega) (by omega) hs (fun a ha=>?_) h2;by_cases q:a=m;·subst q;rw[e 0 j];exact y
    ·have:=up a m (by omega) (by omega);rw[e 0 j]at this;omega
   ·rw[if_neg y];refine kF up f lo m (by omega) hm2 (by omega) h1<|fun a ha hb=>?_;by_cases q:a=m;·subst q;rw[e 0 j];omega
    ·have:=up m a (by omega) hb;rw[e 0 j]at this;omega
  ·rw[if_neg z];exact⟨by omega,h1,fun a ha=>h2 a (by omega)⟩
def Up(xs:Array Nat):Prop:=∀a b,a<b->b<xs.size->xs.getD a 0<xs.getD b 0
theorem iA{xs:Array Nat}(up:Up xs)(j:Nat):Ez xs j<=xs.size/\(∀a,a<Ez xs j->xs.getD a 0<j)/\(∀a,Ez xs j<=a->a<xs.size->j<=xs.getD a 0):=by
 unfold Ez;exact kF up xs.size 0 xs.size (by omega) (by omega) (by omega) (fun a ha=>by omega) (fun a ha hb=>by omega)
abbrev Pr:=SetTable.Probe
def gr(mask:Nat)(p:Pr):Pr:=if p.more>0 then {p with j:=p.j+1,more:=p.more-1} else {p with j:=(DG mask p.i p.perturb).1,more:=DV mask (DG mask p.i p.perturb).1-(DG mask p.i p.perturb).1,i:=(DG mask p.i p.perturb).1,perturb:=(DG mask p.i p.perturb).2}
theorem kG(t:Em)(p:Pr):t.advance p=gr t.mask p:=by unfold SetTable.advance gr;rfl
def itM(mask:Nat):Nat->Pr->Pr
 |0,p=>p
 |n+1,p=>itM mask n<|gr mask p
theorem ft(mask:Nat):∀(a b:Nat)(p:Pr),itM mask (a+b) p=itM mask b (itM mask a p)
 |0,b,p=>by rw[Fy];rfl
 |a+1,b,p=>by rw[show a+1+b=(a+b)+1 by omega];exact ft mask a b<|gr mask p
theorem va(mask n:Nat)(p:Pr):itM mask (n+1) p=gr mask (itM mask n p):=by rw[ft];rfl
def tQ(mask i pt:Nat):Pr:={j:=i,more:=DV mask i-i,i,perturb:=pt,dummy:=none}
theorem jw(mask:Nat):∀(n:Nat)(p:Pr),p.more=n->p.dummy=none->itM mask (n+1) p=tQ mask (DG mask p.i p.perturb).1 (DG mask p.i p.perturb).2
 |0,p,h,hd=>by
  show gr mask p=_;unfold gr tQ;rw[if_neg (by omega)];cases p;simp at hd;subst hd;rfl
 |n+1,p,h,hd=>by
  show itM mask (n+1) (gr mask p)=_;have e:gr mask p={p with j:=p.j+1,more:=p.more-1}:=by unfold gr;rw[if_pos (by omega)]
  rw[e];exact jw mask n _ (by show p.more-1=n;omega) hd
theorem qZ(mask i:Nat):DV mask i-i<=9:=by unfold DV;split<;>omega
def nj(mask:Nat):Nat->Nat×Nat->Nat×Nat
 |0,x=>x
 |n+1,x=>nj mask n<|DG mask x.1 x.2
theorem vb(mask:Nat):∀(n i pt:Nat),∃k,k<=10*n/\itM mask k (tQ mask i pt)=tQ mask (nj mask n (i,pt)).1 (nj mask n (i,pt)).2
 |0,i,pt=>⟨0,by omega,rfl⟩
 |n+1,i,pt=>by
  obtain⟨k,hk,e⟩:=vb mask n (DG mask i pt).1 (DG mask i pt).2;have r:=jw mask _ (tQ mask i pt) rfl rfl;have m:=qZ mask i;refine⟨(tQ mask i pt).more+1+k,?_,?_⟩
  ·have:(tQ mask i pt).more<=9:=m;omega
  ·rw[ft,r];exact e
theorem r0(mask:Nat):∀(a b:Nat)(x:Nat×Nat),nj mask (a+b) x=nj mask b (nj mask a x)
 |0,b,x=>by rw[Fy];rfl
 |a+1,b,x=>by rw[show a+1+b=(a+b)+1 by omega];exact r0 mask a b _
theorem vc(mask:Nat):∀(n:Nat)(x:Nat×Nat),(nj mask n x).2=x.2/32^n
 |0,x=>by simp[nj]
 |n+1,x=>by
  show(nj mask n<|DG mask x.1 x.2).2=_;rw[vc mask n];show x.2/32/32^n=_;rw[Jf,Nat.pow_succ,Nat.mul_comm]
theorem zh(mask:Nat):∀(n:Nat)(x:Nat×Nat),x.1<=mask->(nj mask n x).1<=mask
 |0,x,h=>h
 |n+1,x,h=>zh mask n _ (by show(x.1*5+1+x.2/32)%(mask+1)<=mask;have:=Ic (x.1*5+1+x.2/32) (show 0<mask+1 by omega);omega)
def wo(mask:Nat):Nat->Nat->Nat
 |0,i=>i
 |n+1,i=>wo mask n<|(i*5+1)%(mask+1)
theorem vd(mask:Nat):∀(n i:Nat),nj mask n (i,0)=(wo mask n i,0)
 |0,i=>rfl
 |n+1,i=>by
  show nj mask n (DG mask i 0)=_;rw[show DG mask i 0=((i*5+1)%(mask+1),0) by simp[DG],vd mask n];rfl
theorem jx(mask:Nat):∀(a b i:Nat),wo mask (a+b) i=wo mask b (wo mask a i)
 |0,b,i=>by rw[Fy];rfl
 |a+1,b,i=>by rw[show a+1+b=(a+b)+1 by omega];exact jx mask a b _
def isMask(m:Nat):Prop:=m=7\/m=31\/m=127\/m=511\/m=2047
def zL(m:Nat):Nat->Nat->Nat->Nat
 |0,_,acc=>acc
 |n+1,i,acc=>zL m n ((i*5+1)%(m+1))<|acc|||2^i
theorem r6(m:Nat):∀(n i acc e:Nat),(zL m n i acc).testBit e=true->acc.testBit e=true\/∃k,k<n/\wo m k i=e
 |0,i,acc,e,h=>.inl h
 |n+1,i,acc,e,h=>by
  rcases r6 m n _ _ e h with q|⟨k,hk,q⟩
  ·rw[Nat.testBit_or,L6]at q;rcases q with q|q
   ·exact .inl q
   ·rw[Nat.testBit_two_pow,decide_eq_true_eq]at q;exact .inr ⟨0,by omega,q⟩
  ·exact .inr ⟨k+1,by omega,q⟩
theorem BN{m:Nat}(h:isMask m):(∀e,e<m+1->∃k,k<m+1/\wo m k 0=e)/\wo m (m+1) 0=0:=by
 have key:∀m,zL m (m+1) 0 0=2^(m+1)-1->∀e,e<m+1->∃k,k<m+1/\wo m k 0=e:=fun m hv e he=>by
  have hb:(zL m (m+1) 0 0).testBit e=true:=by rw[hv,Nat.testBit_two_pow_sub_one];simpa using he
  rcases r6 m _ _ _ e hb with q|q;·simp at q
  ·exact q
 rcases h with rfl|rfl|rfl|rfl|rfl;·exact⟨key 7 (by decide +kernel),by decide +kernel⟩
 ·exact⟨key 31 (by decide +kernel),by decide +kernel⟩
 ·exact⟨key 127 (by decide +kernel),by decide +kernel⟩
 ·exact⟨key 511 (by decide +kernel),by decide +kernel⟩
 ·exact⟨key 2047 (by decide +kernel),by decide +kernel⟩
theorem ve{m:Nat}(h:isMask m){i e:Nat}(hi:i<=m)(he:e<=m):∃n,n<=m/\wo m n i=e:=by
 obtain⟨h1,h2⟩:=BN h;obtain⟨a,ha,ea⟩:=h1 i (by omega);obtain⟨b,hb,eb⟩:=h1 e (by omega);by_cases z:a<=b
 ·refine⟨b- a,by omega,?_⟩;rw[<-ea,<-jx,show a+(b-a)=b by omega,eb]
 ·refine⟨m+1- a+b,by omega,?_⟩;rw[<-ea,<-jx,show a+(m+1-a+b)=(m+1)+b by omega,jx,h2,eb]
theorem As{m:Nat}(h:isMask m){p:Pr}(hd:p.dummy=none)(hm:p.more<=9)(hp:p.perturb<2^64){e:Nat}(he:e<=m):∃k,k<10*EJ m/\(itM m k p).j=e:=by
 have r:=jw m p.more p rfl hd;obtain⟨k1,hk1,e1⟩:=vb m 12 (DG m p.i p.perturb).1 (DG m p.i p.perturb).2;have z:(nj m 12 ((DG m p.i p.perturb).1,(DG m p.i p.perturb).2)).2=0:=by
  rw[vc];show p.perturb/32/32^12=0;rw[Jf];exact KL (by omega)
 have i0:(DG m p.i p.perturb).1<=m:=by
  show(p.i*5+1+p.perturb/32)%(m+1)<=m;have:=Ic (p.i*5+1+p.perturb/32) (show 0<m+1 by omega);omega
 have i1:=zh m 12 ((DG m p.i p.perturb).1,(DG m p.i p.perturb).2) i0;rw[z]at e1;generalize (nj m 12 ((DG m p.i p.perturb).1,(DG m p.i p.perturb).2)).1=i at*
 obtain⟨n,hn,en⟩:=ve h i1 he;obtain⟨k2,hk2,e2⟩:=vb m n i 0;rw[vd,en]at e2;refine⟨p.more+1+k1+k2,?_,?_⟩;·unfold EJ;omega
 ·rw[ft,ft,r,e1,e2];rfl
def InP(xs:Array Nat)(j:Nat):Prop:=∃a,a<xs.size/\xs.getD a 0=j
theorem oi{xs:Array Nat}{a:Nat}(h:a<xs.size):xs[a]? =some (xs.getD a 0):=by simp[Fu,h]
theorem gJ{xs:Array Nat}(up:Up xs){a:Nat}(h:a<xs.size):Ez xs (xs.getD a 0)=a:=by
 obtain⟨h0,h1,h2⟩:=iA up<|xs.getD a 0;generalize Ez xs (xs.getD a 0)=b at*
 by_cases z:a<b;·have:=h1 a z;omega
 ·by_cases y:b< a
  ·have:=up b a y h;have:=h2 b (by omega) (by omega);omega
  ·omega
theorem sO{xs:Array Nat}(up:Up xs){j:Nat}(h:¬InP xs j):(xs[Ez xs j]? ==some j)=false:=by
 obtain⟨h0,h1,h2⟩:=iA up j;by_cases z:Ez xs j<xs.size
 ·rw[oi z];rw[beq_eq_false_iff_ne];intro e;injection e with e;exact h ⟨_,z,e⟩
 ·rw[Gg (by omega)];rfl
structure Tp(t:Em)(hs:List Int):Prop where
 dm:t.dummies= #[]
 sz:t.place.size=hs.length
 up:Up t.place
 le:∀j,InP t.place j->j<=t.mask
 msk:isMask t.mask
 reach:∀i h,hs[i]? =some h->∃k,(itM t.mask k<|t.probeStart h).j=t.place.getD i 0/\∀k',k'<k->InP t.place (itM t.mask k'<|t.probeStart h).j
structure Tb(t:Em)(hs:List Int):Prop extends Tp t hs where
 room:hs.length*5<t.mask*3
section
variable{t:Em}{hs:List Int}
theorem Tb.live(T:Tb t hs){i:Nat}(h:i<t.place.size):t.slot (t.place.getD i 0)=.live i:=by
 unfold LS;dsimp only;rw[gJ T.up h,oi h];simp
theorem Tb.empty(T:Tb t hs){j:Nat}(h:¬InP t.place j):t.slot j=.empty:=by
 unfold LS;dsimp only;rw[if_neg (by rw[sO T.up h];decide)];unfold Ks;rw[T.dm];rfl
theorem vf(t:Em)(h:Int):(t.probeStart h).dummy=none/\(t.probeStart h).more<=9/\(t.probeStart h).perturb<2^64:=by
 refine⟨rfl,qZ _ _,?_⟩;show(h%(2^64:Int)).toNat<2^64;omega
theorem zj{xs:Array Nat}(up:Up xs){m:Nat}(h:xs.size<=m):∃j,j<=m/\¬InP xs j:=by
 have base:∀n,n<=xs.size->(∀j,j<n->InP xs j)->∀a,a<n->xs.getD a 0=a:=by
  intro n hn hin a
  induction a using L7 with
  |_ a ih=>
   intro ha;obtain⟨b,hb,eb⟩:=hin a ha;have lo:∀a,a<xs.size->a<=xs.getD a 0:=by
    intro a
    induction a with
    |zero=>intro _;omega
    |succ a ih=>intro h;have:=ih (by omega);have:=up a (a+1) (by omega) h;omega
   have:=lo b hb;by_cases z:b=a;·rw[<-z];rw[z]at eb;rw[z];exact eb
   ·have:=ih b (by omega) (by omega);omega
 by_cases hall:∀j,j<xs.size->InP xs j
 ·refine⟨xs.size,h,fun⟨a,ha,ea⟩=>?_⟩;have:=base xs.size (by omega) hall a ha;omega
 ·have ⟨j,hj⟩:=HC.mp hall;have ⟨h1,h2⟩:=IF.mp hj;exact⟨j,by omega,h2⟩
theorem Tb.gap(T:Tb t hs){p:Pr}(hp:p.dummy=none/\p.more<=9/\p.perturb<2^64):∃k,k<10*EJ t.mask/\¬InP t.place (itM t.mask k p).j/\∀k',k'<k->InP t.place (itM t.mask k' p).j:=by
 obtain⟨e,he,hn⟩:=zj T.up (m:=t.mask) (by have:=T.sz;have:=T.room;omega);obtain⟨k,hk,ek⟩:=As T.msk hp.1 hp.2.1 hp.2.2 he;rw[<-ek]at hn;clear ek
 induction k using L7 with
 |_ k ih=>
  by_cases z:∀k',k'<k->InP t.place (itM t.mask k' p).j;·exact⟨k,hk,hn,z⟩
  ·have ⟨k',h'⟩:=HC.mp z;have ⟨h1,h2⟩:=IF.mp h';exact ih k' h1 h2 (by omega)
theorem Tb.go(T:Tb t hs){hashAt:Nat->Int}(hA:∀i h,hs[i]? =some h->hashAt i=h)(h:Int):∀(E fuel:Nat)(p:Pr),p.dummy=none->E<fuel->¬InP t.place (itM t.mask E p).j->(∀k',k'<E->InP t.place (itM t.mask k' p).j)->
  (∃k i,k<E/\i<hs.length/\t.place.getD i 0=(itM t.mask k p).j/\hs[i]? =some h/\Gr t hashAt h fuel p=some (.candidate (itM t.mask k p).j i (itM t.mask (k+1) p))/\∀k',k'<k->∀i,t.place.getD i 0=(itM t.mask k' p).j->i<hs.length->hs[i]? ≠some h)\/
  (Gr t hashAt h fuel p=some (.empty (itM t.mask E p).j none)/\∀k',k'<E->∀i,t.place.getD i 0=(itM t.mask k' p).j->i<hs.length->hs[i]? ≠some h)
 |0,fuel+1,p,hd,hf,hn,ha=>by
  refine .inr ⟨?_,fun k' hk=>absurd hk (by omega)⟩;unfold Gr;rw[T.empty (j:=p.j) hn,hd];rfl
 |E+1,fuel+1,p,hd,hf,hn,ha=>by
  obtain⟨a,h1,h2⟩:=ha 0 (by omega);have h2':t.place.getD a 0=p.j:=h2;have one:∀i,t.place.getD i 0=p.j->i<hs.length->i=a:=fun i hi hl=>by
   have hi':i<t.place.size:=by have:=T.sz;omega
   rw[<-gJ T.up hi',hi,<-h2',gJ T.up h1]
  unfold Gr;rw[<-h2',T.live h1];dsimp only;have hl:a<hs.length:=by have:=T.sz;omega
  by_cases z:hashAt a=h
  ·refine .inl ⟨0,a,by omega,hl,h2,?_,?_,fun k' hk=>absurd hk (by omega)⟩
   ·have e:=hA a hs[a] (CZ hl);rw[CZ hl,<-e,z]
   ·rw[if_pos (by simpa using z),kG,h2'];rfl
  ·rw[if_neg (by simpa using z),kG];have hne:∀i,t.place.getD i 0=p.j->i<hs.length->hs[i]? ≠some h:=fun i hi hl' e=>z (by rw[one i hi hl']at e;exact hA a h e);have hd':(gr t.mask p).dummy=none:=by unfold gr;split<;>exact hd
   rcases Tb.go T hA h E fuel (gr t.mask p) hd' (by omega) hn (fun k' hk=>ha (k'+1) (by omega))with⟨k,i,g1,g2,g3,g4,g5,g6⟩|⟨g1,g2⟩
   ·refine .inl ⟨k+1,i,by omega,g2,g3,g4,g5,fun k' hk=>?_⟩;cases k' with
    |zero=>exact hne
    |succ k'=>exact g6 k' (by omega)
   ·refine .inr ⟨g1,fun k' hk=>?_⟩;cases k' with
    |zero=>exact hne
    |succ k'=>exact g2 k' (by omega)
theorem kH{α:Type}(xs:Array α)(p:Nat)(x:α):(EG xs p x).toList=xs.toList.take p++x::xs.toList.drop p:=by
 unfold EG;simp[DZ,Ft,Gd]
theorem f6{α:Type}(xs:Array α){p:Nat}(h:p<=xs.size)(x:α):(EG xs p x).size=xs.size+1:=by
 rw[<-DJ,kH];simp;omega
theorem x5{α:Type}(xs:Array α){p:Nat}(h:p<=xs.size)(x:α)(a:Nat):(EG xs p x)[a]? =if a<p then xs[a]? else if a=p then some x else xs[a-1]? :=by
 rw[<-Dd,kH];by_cases z:a<p;·rw[if_pos z,DF (by simp;omega),E1 z,Dd]
 ·rw[if_neg z,Dw (by simp;omega)];have hl:(List.take p xs.toList).length=p:=by simp;omega
  rw[hl];by_cases y:a=p;·rw[if_pos y,y];simp
  ·rw[if_neg y,show a- p=(a- p- 1)+1 by omega,EH,Ef,Dd];congr 1;omega
theorem iB(xs:Array Nat){p:Nat}(h:p<=xs.size)(x:Nat)(a:Nat):(EG xs p x).getD a 0=if a<p then xs.getD a 0 else if a=p then x else xs.getD (a-1) 0:=by
 rw[DX,x5 xs h];split;·rw[DX]
 ·split;·rfl
  ·rw[DX]
theorem r9{xs:Array Nat}{p:Nat}(h:p<=xs.size){x j:Nat}:InP (EG xs p x) j↔j=x\/InP xs j:=by
 constructor
 ·rintro ⟨a,ha,e⟩;rw[f6 xs h]at ha;rw[iB xs h]at e;by_cases z:a<p;·rw[if_pos z]at e;exact .inr ⟨a,by omega,e⟩
  ·rw[if_neg z]at e;by_cases y:a=p;·rw[if_pos y]at e;exact .inl e.symm
   ·rw[if_neg y]at e;exact .inr ⟨a-1,by omega,e⟩
 ·rintro (rfl | ⟨a,ha,e⟩);·exact⟨p,by rw[f6 xs h];omega,by rw[iB xs h,if_neg (by omega),if_pos rfl]⟩
  ·by_cases z:a< p;·exact⟨a,by rw[f6 xs h];omega,by rw[iB xs h,if_pos z,e]⟩
   ·exact⟨a+1,by rw[f6 xs h];omega,by rw[iB xs h,if_neg (by omega),if_neg (by omega)];exact e⟩
theorem Tb.put(T:Tb t hs){h:Int}{E:Nat}(hn:¬InP t.place (itM t.mask E<|t.probeStart h).j)(hj:(itM t.mask E<|t.probeStart h).j<=t.mask)(ha:∀k',k'<E->InP t.place (itM t.mask k'<|t.probeStart h).j):
  (t.put (itM t.mask E<|t.probeStart h).j).2<=hs.length/\(t.put (itM t.mask E<|t.probeStart h).j).1.mask=t.mask/\Tp (t.put (itM t.mask E<|t.probeStart h).j).1 (hs.take (t.put (itM t.mask E<|t.probeStart h).j).2++h::hs.drop (t.put (itM t.mask E<|t.probeStart h).j).2):=by
 obtain⟨b0,b1,b2⟩:=iA T.up (itM t.mask E<|t.probeStart h).j;generalize hJ:(itM t.mask E<|t.probeStart h).j=j at*
 have hp2:(t.put j).2=Ez t.place j:=rfl;have hpl:(t.put j).1.place=EG t.place (Ez t.place j) j:=rfl;have hmk:(t.put j).1.mask=t.mask:=rfl;have hst:∀h,(t.put j).1.probeStart h=t.probeStart h:=fun _=>rfl;have hsz:=T.sz;generalize Ez t.place j=p at*
 rw[hp2];refine⟨by omega,rfl,?_,?_,?_,?_,T.msk,?_⟩
 ·show(if Ks t.dummies j then _ else t.dummies)= #[];unfold Ks;rw[T.dm];rfl
 ·rw[hpl,f6 _ b0];simp;omega
 ·rw[hpl];intro a b hab hb;rw[f6 _ b0]at hb;rw[iB _ b0,iB _ b0];have gt:∀a,p<=a->a<t.place.size->j<t.place.getD a 0:=fun a h1 h2=>by
   have:=b2 a h1 h2;by_cases z:t.place.getD a 0=j;·exact absurd ⟨a,h2,z⟩ hn
   ·omega
  by_cases z1:a<p
  ·rw[if_pos z1];by_cases z2:b<p;·rw[if_pos z2];exact T.up a b hab (by omega)
   ·rw[if_neg z2];by_cases z3:b=p;·rw[if_pos z3];exact b1 a z1
    ·rw[if_neg z3];have:=b1 a z1;have:=gt (b-1) (by omega) (by omega);omega
  ·rw[if_neg z1,if_neg (show ¬b< p by omega),if_neg (show ¬b=p by omega)];by_cases z3:a=p;·rw[if_pos z3];exact gt (b-1) (by omega) (by omega)
   ·rw[if_neg z3];exact T.up (a-1) (b-1) (by omega) (by omega)
 ·intro q hq;rw[hpl,r9 b0]at hq;rcases hq with rfl|hq
  ·exact hj
  ·exact T.le q hq
 ·intro i g hg;rw[hmk,hst,hpl];have mono:∀q,InP t.place q->InP (EG t.place p j) q:=fun q hq=>(r9 b0).mpr (.inr hq);have hl:(hs.take p).length=p:=by simp;omega
  by_cases z1:i<p
  ·rw[DF (by omega),E1 z1]at hg;obtain⟨k,ek,hk⟩:=T.reach i g hg;exact⟨k,by rw[ek,iB _ b0,if_pos z1],fun k' h'=>mono _<|hk k' h'⟩
  ·rw[Dw (by omega),hl]at hg;by_cases z2:i=p
   ·rw[z2,He,F4]at hg;cases hg;exact⟨E,by rw[hJ,iB _ b0,if_neg z1,if_pos z2],fun k' h'=>mono _<|ha k' h'⟩
   ·rw[show i- p=(i- p- 1)+1 by omega,EH,Ef]at hg;rw[show p+(i-p-1)=i-1 by omega]at hg;obtain⟨k,ek,hk⟩:=T.reach (i-1) g hg;exact⟨k,by rw[ek,iB _ b0,if_neg z1,if_neg z2],fun k' h'=>mono _<|hk k' h'⟩
end
def Oc(ow:Array (Option Nat))(j:Nat):Prop:=(ow.getD j<|some 0).isSome=true
theorem mQ(m i pt:Nat):∀k,k<=DV m i-i->itM m k (tQ m i pt)={j:=i+k,more:=DV m i-i-k,i:=i,perturb:=pt,dummy:=none}
 |0,_=>rfl
 |k+1,h=>by
  rw[va,mQ m i pt k (by omega)];unfold gr;rw[if_pos (by show DV m i-i-k>0;omega)];rfl
theorem sP(m i:Nat):i<=DV m i:=by unfold DV;split<;>omega
theorem rd{m:Nat}(ow:Array (Option Nat)):∀(f i pt n:Nat),n<f->¬Oc ow (nj m n (i,pt)).1->
  ∃j E,F8 m ow f i pt=some j/\(itM m E<|tQ m i pt).j=j/\¬Oc ow j/\∀k',k'<E->Oc ow (itM m k'<|tQ m i pt).j
 |0,_,_,_,h,_=>absurd h (by omega)
 |f+1,i,pt,n,h,hn=>by
  have hr:=sP m i;unfold F8;cases hf:(Ed<|DV m i+1-i).find? fun k=>(ow.getD (i+k)<|some 0).isNone with
  |some k=>
   have hk:=Gs.mp<|List.mem_of_find?_eq_some hf;have hp:=List.find?_some hf;have hb:=(List.find?_range_eq_some.mp hf).2.2;refine⟨i+k,k,rfl,by rw[mQ m i pt k (by omega)],?_,fun k' hk'=>?_⟩;·unfold Oc;simp at hp ⊢;exact hp
   ·rw[mQ m i pt k' (by omega)];have:=hb k' hk';unfold Oc;simpa using this
  |none=>
   have hall:=List.find?_eq_none.mp hf;have occ:∀k,k<=DV m i-i->Oc ow (i+k):=fun k hk=>by
    have:=hall k (Gs.mpr (by omega));unfold Oc;cases q:ow.getD (i+k) (some 0)with
    |none=>rw[q]at this;exact absurd rfl this
    |some a=>rfl
   cases n with
   |zero=>exact absurd (occ 0 (by omega)) hn
   |succ n=>
    obtain⟨j,E,e1,e2,e3,e4⟩:=rd ow f (DG m i pt).1 (DG m i pt).2 n (by omega) hn;have r:=jw m (DV m i-i) (tQ m i pt) rfl rfl;refine⟨j,(DV m i-i)+1+E,e1,?_,e3,fun k' hk'=>?_⟩;·rw[ft,r];exact e2
    ·by_cases z:k'<=DV m i- i;·rw[mQ m i pt k' z];exact occ k' z
     ·rw[show k'=(DV m i- i)+1+(k'- ((DV m i- i)+1)) by omega,ft,r];exact e4 _ (by omega)
abbrev stM(m:Nat)(h:Int):Pr:=tQ m (DL h%(m+1))<|DL h
theorem x6(h:Int):DL h<2^64:=by show(h%(2^64:Int)).toNat<2^64;omega
theorem x8{m:Nat}(hm:isMask m)(ow:Array (Option Nat))(h:Int){e:Nat}(he:e<=m)(hn:¬Oc ow e):
  ∃j E,F8 m ow (EJ m) (DL h%(m+1)) (DL h)=some j/\(itM m E<|stM m h).j=j/\¬Oc ow j/\∀k',k'<E->Oc ow (itM m k'<|stM m h).j:=by
 have i0:DL h%(m+1)<=m:=by have:=Ic (DL h) (show 0<m+1 by omega);omega
 have z:(nj m 13 (DL h%(m+1),DL h)).2=0:=by
  rw[vc];exact KL (by have:=x6 h;show DL h<32^13;omega)
 have i1:=zh m 13 (DL h%(m+1),DL h) i0;obtain⟨n,hn',en⟩:=ve hm i1 he;refine rd ow _ _ _ (13+n) (by unfold EJ;omega) ?_;rw[r0,show nj m 13 (DL h%(m+1),DL h)=((nj m 13 (DL h%(m+1),DL h)).1,0)from Ib rfl z,vd,en];exact hn
structure Lay(m:Nat)(hs:List Int)(ow:Array (Option Nat))(k:Nat):Prop where
 sz:ow.size=m+1
 cnt:ow.toList.countP JZ=k
 inj:∀(j j' i:Nat),ow[j]? =some (some i)->ow[j']? =some (some i)->j=j'
 lt:∀(j i:Nat),ow[j]? =some (some i)->i<k
 reach:∀(j i:Nat)(h:Int),ow[j]? =some (some i)->hs[i]? =some h->∃n,(itM m n<|stM m h).j=j/\∀n',n'<n->Oc ow (itM m n'<|stM m h).j
theorem iC{ow:Array (Option Nat)}{j:Nat}(hj:j<ow.size):Oc ow j↔∃i,ow[j]? =some (some i):=by
 unfold Oc;simp[Fu,hj];cases ow[j]<;>simp
theorem Lay.gap{m:Nat}{hs:List Int}{ow:Array (Option Nat)}{k:Nat}(L:Lay m hs ow k)(h:k<=m):∃e,e<=m/\¬Oc ow e:=by
 by_cases z:∀e,e<=m->Oc ow e
 ·exfalso;have:ow.toList.countP JZ=ow.toList.length:=List.countP_eq_length.mpr fun a ha=>by
   obtain⟨j,hj,e⟩:=Fq.mp ha;have hj':j<ow.size:=by simpa using hj
   obtain⟨i,hi⟩:=(iC hj').mp (z j (by have:=L.sz;omega));rw[<-e];have:ow.toList[j]=some i:=by
    have q:ow.toList[j]? =some (some i):=by rw[Dd];exact hi
    rw[CZ hj]at q;injection q
   rw[this];rfl
  rw[L.cnt,DJ,L.sz]at this;omega
 ·have ⟨e,he⟩:=HC.mp z;have ⟨h1,h2⟩:=IF.mp he;exact⟨e,h1,h2⟩
theorem Au{ow:Array (Option Nat)}{j:Nat}(h:¬Oc ow j):j<ow.size:=by
 by_cases z:j<ow.size;·exact z
 ·exact absurd (by unfold Oc;simp[Fu,z]) h
theorem Lay.step{m:Nat}(hm:isMask m){hs:List Int}{ow:Array (Option Nat)}{k:Nat}(L:Lay m hs ow k)(hk:k<=m){h:Int}(hh:hs[k]? =some h):
  ∃j,F8 m ow (EJ m) (DL h%(m+1)) (DL h)=some j/\Lay m hs (ow.setIfInBounds j<|some k) (k+1):=by
 obtain⟨e,he,hn⟩:=L.gap hk;obtain⟨j,E,e1,e2,e3,e4⟩:=x8 hm ow h he hn;have hj:=Au e3;refine⟨j,e1,?_⟩;have none_j:ow[j]? =some none:=by
  have:¬∃i,ow[j]? =some (some i):=fun z=>e3<|(iC hj).mpr z;rw[Dn hj]at this ⊢;cases q:ow[j]with
  |none=>rfl
  |some i=>exact absurd ⟨i,by rw[q]⟩ this
 have at_:∀q,(ow.setIfInBounds j<|some k)[q]? =if q=j then some (some k)else ow[q]? :=fun q=>by
  rw[Array.getElem?_setIfInBounds];by_cases z:j=q;·subst z;simp[hj]
  ·rw[if_neg z,if_neg<|H9 z]
 have oc:∀q,Oc ow q->Oc (ow.setIfInBounds j<|some k) q:=fun q hq=>by
  by_cases hs':q<ow.size
  ·obtain⟨i,hi⟩:=(iC hs').mp hq;refine(iC (by simpa using hs')).mpr ?_;rw[at_];by_cases z:q=j;·exact⟨k,by rw[if_pos z]⟩
   ·exact⟨i,by rw[if_neg z];exact hi⟩
  ·unfold Oc;simp[Fu,hs']
 refine⟨by simp[L.sz],?_,?_,?_,?_⟩
 ·have hj2:j< ow.toList.length:=by simpa using hj
  have q:ow.toList[j]=none:=by
   have:=none_j;rw[<-Dd,CZ hj2]at this;injection this
  rw[Gx,List.countP_set hj2,q,L.cnt];simp
 ·intro a b i ha hb;rw[at_]at ha hb;by_cases z1:a=j
  ·rw[if_pos z1]at ha;injection ha with ha;injection ha with ha;by_cases z2:b=j;·rw[z1,z2]
   ·rw[if_neg z2]at hb;have:=L.lt b i hb;omega
  ·rw[if_neg z1]at ha;by_cases z2:b=j
   ·rw[if_pos z2]at hb;injection hb with hb;injection hb with hb;have:=L.lt a i ha;omega
   ·rw[if_neg z2]at hb;exact L.inj a b i ha hb
 ·intro a i ha;rw[at_]at ha;by_cases z1:a=j
  ·rw[if_pos z1]at ha;injection ha with ha;injection ha with ha;omega
  ·rw[if_neg z1]at ha;have:=L.lt a i ha;omega
 ·intro a i g ha hg;rw[at_]at ha;by_cases z1:a=j
  ·rw[if_pos z1]at ha;injection ha with ha;injection ha with ha;subst ha;rw[hh]at hg;cases hg;exact⟨E,by rw[z1];exact e2,fun n' h'=>oc _<|e4 n' h'⟩
  ·rw[if_neg z1]at ha;obtain⟨n,q1,q2⟩:=L.reach a i g ha hg;exact⟨n,q1,fun n' h'=>oc _<|q2 n' h'⟩
theorem sQ(m:Nat)(hs:List Int):Lay m hs (Jn (m+1) none) 0:=by
 have no:∀(j i:Nat),(Jn (m+1) (none:Option Nat))[j]? =some (some i)->False:=fun j i h=>by
  rw[Array.getElem?_replicate]at h;split at h<;>simp at h
 refine⟨by simp,?_,fun j j' i h _=>(no j i h).elim,fun j i h=>(no j i h).elim,fun j i _ h _=>(no j i h).elim⟩;rw[Array.toList_replicate,List.countP_replicate];rfl
abbrev mR(m:Nat)(acc:Option (Array (Option Nat)×Nat))(h:Int):Option (Array (Option Nat)×Nat):=do
 let (owner,k) <-acc
 let j <-F8 m owner (EJ m) (DL h%(m+1)) (DL h)
 pure (owner.setIfInBounds j<|some k,k+1)
theorem oj{m:Nat}(hm:isMask m)(hs:List Int):∀(r:List Int)(ow:Array (Option Nat))(k:Nat),Lay m hs ow k->hs.drop k=r->hs.length<=m->k<=hs.length->∃ow',r.foldl (mR m) (some (ow,k))=some (ow',hs.length)/\Lay m hs ow' hs.length
 | [],ow,k,L,hd,hl,hk=>by
  have:k=hs.length:=by
   have:=congrArg FA hd;simp at this;omega
  subst this;exact⟨ow,rfl,L⟩
 |h::r,ow,k,L,hd,hl,hk=>by
  have hk2:k<hs.length:=by
   have:=congrArg FA hd;simp at this;omega
  have hh:hs[k]? =some h:=by
   have:(hs.drop k)[0]? =some h:=by rw[hd];rfl
   rw[Ef]at this;exact this
  obtain⟨j,e,L'⟩:=L.step hm (by omega) hh;have e':mR m (some (ow,k)) h=some (ow.setIfInBounds j<|some k,k+1):=by
   show(F8 m ow (EJ m) (DL h%(m+1))<|DL h).bind _=_;rw[e];rfl
  rw[HK,e'];exact oj hm hs r _ _ L' (by rw[<-Ll,hd];rfl) hl (by omega)
theorem om{m:Nat}(hm:isMask m){hs:Array Int}(hl:hs.size<=m):∃ow,SetTable.layClean m hs=some ow/\Lay m hs.toList ow hs.size:=by
 obtain⟨ow,e,L⟩:=oj hm hs.toList hs.toList _ 0 (sQ m hs.toList) rfl (by simpa using hl) (by simp);refine⟨ow,?_,by simpa using L⟩;show Option.map (·.1) (hs.foldl (mR m)<|some (Jn (m+1) none,0))=_;rw[<-Array.foldl_toList,e];rfl
abbrev dt(m:Nat)(ow:Array (Option Nat)):List (Nat×Nat):=(Ed<|m+1).filterMap fun j=>(ow.getD j none).map (j, ·)
theorem fH{m:Nat}{ow:Array (Option Nat)}(hs:ow.size=m+1){j i:Nat}:(j,i)∈dt m ow↔ow[j]? =some (some i):=by
 unfold dt;rw[GQ];constructor
 ·rintro ⟨q,hq,e⟩;rw[E9]at e;obtain⟨a,e1,e2⟩:=e;injection e2 with e2 e3;subst e2;subst e3;have:=Gs.mp hq;have hq':q<ow.size:=by omega
  simp[Fu,hq']at e1;rw[Dn hq',e1]
 ·intro h;have hj:j<ow.size:=(F9.mp h).1;refine⟨j,Gs.mpr (by omega),?_⟩;rw[DX,h];rfl
theorem mS{f:Nat->Option Nat}:∀{l:List Nat},l.Pairwise (· < ·)->((l.filterMap fun j=>(f j).map (j, ·)).map (·.1)).Pairwise (· < ·)
 | [],_=>by simp
 |a::l,h=>by
  have ih:=mS (f:=f) (Ie.mp h).2;cases e:f a with
  |none=>simpa [e] using ih
  |some b=>
   rw[IS (b:=(a,b)) (by rw[e];rfl),Ds];refine Ie.mpr ⟨fun q hq=>?_,ih⟩;obtain⟨x,hx,rfl⟩:=DQ.mp hq;obtain⟨c,hc,e2⟩:=GQ.mp hx;rw[E9]at e2;obtain⟨_,_,rfl⟩:=e2;exact(Ie.mp h).1 c hc
theorem vg{f:Nat->Option Nat}:∀(l:List Nat),(l.filterMap fun j=>(f j).map (j, ·)).length=(l.map f).countP JZ
 | []=>rfl
 |a::l=>by
  have ih:=vg (f:=f) l;cases e:f a with
  |none=>rw[List.filterMap_cons_none (by rw[e];rfl),ih];simp[e]
  |some b=>rw[IS (b:=(a,b)) (by rw[e];rfl)];simp[e,ih]
theorem vh{m k:Nat}{hs:List Int}{ow:Array (Option Nat)}(L:Lay m hs ow k):(dt m ow).length=k:=by
 unfold dt;rw[vg (f:=fun j=>ow.getD j none),<-L.cnt];congr 1;refine List.ext_getElem (by simp[L.sz]) fun i h1 h2=>?_;simp at h1 h2;simp[Fu,h2]
theorem vi:∀(n:Nat)(l:List Nat),l.Nodup->(∀x∈l,x<n)->l.length<=n
 |0,l,_,h=>by
  cases l with
  |nil=>simp
  |cons a l=>exact absurd (h a<|Di ..) (by omega)
 |n+1,l,nd,h=>by
  by_cases z:n∈l
  ·have:=vi n (l.erase n) (nd.erase n) fun x hx=>by
    have h1:=h x<|Hl hx;have h2:x≠n:=fun e=>by subst e;exact(GH nd) hx
    omega
   rw[GI z]at this;omega
  ·have:=vi n l nd fun x hx=>by
    have h1:=h x hx;have h2:x≠n:=fun e=>z<|e▸hx;omega
   omega
theorem rf:∀(n:Nat)(l:List Nat),l.Nodup->(∀x∈l,x<n)->l.length=n->l.Perm (Ed n)
 |0,l,_,_,h=>by rw[FX.mp h];exact .refl _
 |n+1,l,nd,h,hl=>by
  have z:n∈l:=by
   by_cases z:n∈l;·exact z
   ·have:=vi n l nd fun x hx=>by
     have h1:=h x hx;have h2:x≠n:=fun e=>z<|e▸hx;omega
    omega
  have:=rf n (l.erase n) (nd.erase n) (fun x hx=>by
    have h1:=h x<|Hl hx;have h2:x≠n:=fun e=>by subst e;exact(GH nd) hx
    omega) (by rw[GI z];omega)
  rw[List.range_succ];exact(List.perm_cons_erase z).trans ((List.Perm.cons n this).trans (List.perm_append_singleton n _).symm)
theorem x9{l:List Nat}(h:l.Pairwise (· < ·)):Up l.toArray:=fun a b hab hb=>by
 have hb':b<l.length:=by simpa using hb
 have:=Fd.mp h a b (by omega) hb' hab;simpa [Fu,show a<l.length by omega,hb'] using this
theorem lQ{m i:Nat}(h:i<=m):i+(DV m i-i)<=m:=by unfold DV;split<;>omega
theorem Av{m:Nat}{p:Pr}(h:p.j+p.more<=m):(gr m p).j+(gr m p).more<=m:=by
 unfold gr;split;·show p.j+1+(p.more-1)<=m;omega
 ·refine lQ ?_;show(p.i*5+1+p.perturb/32)%(m+1)<=m;have:=Ic (p.i*5+1+p.perturb/32) (show 0<m+1 by omega);omega
theorem Aw{m:Nat}:∀(n:Nat){p:Pr},p.j+p.more<=m->(itM m n p).j+(itM m n p).more<=m
 |0,_,h=>h
 |n+1,_,h=>Aw n<|Av h
theorem yn{m:Nat}{h:Int}(n:Nat):(itM m n<|stM m h).j<=m:=by
 have:=Aw (m:=m) n (p:=stM m h) (lQ (i:=DL h%(m+1)) (by have:=Ic (DL h) (show 0<m+1 by omega);omega));omega
theorem xb{m:Nat}(hm:isMask m){hs:Array Int}(hl:hs.size<=m)(fi mo:Nat)(led plain:Bool):
  ∃t order,LU m fi mo led plain hs=some (t,order)/\t.mask=m/\t.led=led/\t.plain=plain/\order.toList.Perm (Ed hs.size)/\Tp t (order.toList.map fun i=>hs.toList.getD i 0):=by
 obtain⟨ow,e,L⟩:=om hm hl;refine⟨_,_,by unfold LU;rw[e];rfl,rfl,rfl,rfl,?_,?_⟩
 ·show((dt m ow).map (·.2)).toArray.toList.Perm _;have len:=vh L;have inc:=mS (f:=fun j=>ow.getD j none)<|Jg (n:=m+1);have nd1:((dt m ow).map (·.1)).Nodup:=inc.imp fun h=>Dv h;refine rf hs.size _ ?_ (fun x hx=>?_) (by simpa using len)
  ·show((dt m ow).map (·.2)).Nodup;rw[E3,FP];rw[E3,FP]at nd1;refine nd1.imp_of_mem fun{a b}ha hb hne e=>hne ?_;have h1:=(fH L.sz (j:=a.1) (i:=a.2)).mp ha;have h2:=(fH L.sz (j:=b.1) (i:=b.2)).mp hb;rw[<-e]at h2;exact L.inj _ _ _ h1 h2
  ·obtain⟨y,hy,rfl⟩:=DQ.mp (show x∈(dt m ow).map (·.2)from hx);exact L.lt _ _<|(fH L.sz (j:=y.1) (i:=y.2)).mp hy
 ·have inc:=mS (f:=fun j=>ow.getD j none)<|Jg (n:=m+1);have inp:∀j,InP ((dt m ow).map (·.1)).toArray j↔∃i,ow[j]? =some (some i):=fun j=>by
   constructor
   ·rintro ⟨a,ha,e⟩;have ha':a<(dt m ow).length:=by simpa using ha
    have:((dt m ow)[a]).1=j:=by simpa [Fu,ha'] using e
    have mem:=FD ha';rw[<-this];exact⟨_,(fH L.sz (j:=(dt m ow)[a].1) (i:=(dt m ow)[a].2)).mp mem⟩
   ·rintro ⟨i,hi⟩;have mem:=(fH L.sz).mpr hi;obtain⟨a,ha,e⟩:=Fq.mp mem;exact⟨a,by simpa using ha,by simp[Fu,ha,e]⟩
  have ocp:∀j,j<=m->Oc ow j->InP ((dt m ow).map (·.1)).toArray j:=fun j hj h=>(inp j).mpr ((iC (by have:=L.sz;omega)).mp h);refine⟨rfl,?_,x9 inc,?_,hm,?_⟩
  ·show((dt m ow).map (·.1)).toArray.size=(MW _ ((dt m ow).map (·.2)).toArray.toList).length;simp
  ·intro j hj;obtain⟨i,hi⟩:=(inp j).mp hj;have:=(F9.mp hi).1;have:=L.sz;show j<=m;omega
  ·intro a h ha;have ha2:((dt m ow)[a]?).map (fun y=>hs.toList.getD y.2 0)=some h:=by
    have:(((dt m ow).map (·.2)).map fun i=>hs.toList.getD i 0)[a]? =some h:=ha;rw[F6,D7]at this;exact this
   obtain⟨y,hy,e⟩:=E9.mp ha2;have mem:=Dz hy;have at_:=(fH L.sz (j:=y.1) (i:=y.2)).mp mem;have lt:=L.lt _ _ at_;have hh:hs.toList[y.2]? =some h:=by
    have hlt:y.2<hs.toList.length:=by simpa using lt
    rw[Es,CZ hlt]at e;rw[CZ hlt];exact congrArg some e
   obtain⟨n,q1,q2⟩:=L.reach _ _ _ at_ hh;have hla:a<(dt m ow).length:=(D5.mp hy).1;refine⟨n,?_,fun n' h'=>?_⟩
   ·show(itM m n<|stM m h).j=((dt m ow).map (·.1)).toArray.getD a 0;rw[q1,DX];simp only[List.getElem?_toArray,D7,hy];rfl
   ·refine ocp _ ?_<|q2 n' h';by_cases z:(itM m n'<|stM m h).j<=m;·exact z
    ·exfalso;exact z<|yn n'
section
variable{prog:Dj}{w:Dp}{K:Type}[DecidableEq K]{knd:KeyKind prog w K}{A:DS}{E:CU->CV->Prop}{s:CV}
structure TupsOf(knd:KeyKind prog w K)(h:Heap)(es:List (Int×CU))(ks:List (List K)):Prop where
 len:es.length=ks.length
 at_:∀(i:Nat)(e:Int×CU),es[i]? =some e->∃k b,ks[i]? =some k/\e.2=.ref b/\FF knd h k b/\e.1=tupleKeyHash knd k
theorem Tb.fits{t:Em}{es:Array (Int×CU)}(T:Tb t (es.toList.map (·.1))):t.fits es.size=true:=by
 have h1:=T.sz;have h2:=T.room;have h3:=T.dm;simp at h1 h2;unfold LV K0;rw[h3];simp;omega
theorem vj{m:Nat}(h:isMask m):(m%2==0)=false:=by rcases h with rfl|rfl|rfl|rfl|rfl<;>rfl
theorem yo{m:Nat}:∀(k:Nat){p:Pr},p.dummy=none->(itM m k p).dummy=none
 |0,_,h=>h
 |k+1,p,h=>yo k (by unfold gr;split<;>exact h)
theorem pM{a x:Addr}{o:Obj}{es:Array (Int×CU)}{ep:Nat}{t:Em}{ks:List (List K)}{kx:List K}(hu:A.units<cLine)(ho:s.heap.get? a=some o)(hd:o.data=.set es ep t)(T:Tb t (es.toList.map (·.1)))(hk:TupsOf knd s.heap es.toList ks)(hx:FF knd s.heap kx x)
  (seen:∀(l:List CU)(Q:Bool->CV->Prop),(∀y∈l,∃e∈es.toList,y=e.2)->Q false s->wpAny (model prog w) A (searchCouldBeSeen (.ref x) l) Q E s) {Q:SetFound->CV->Prop}:
  ∀(fuel G:Nat)(st:Option Pr),(st.getD<|t.probeStart<|tupleKeyHash knd kx).dummy=none->G<fuel->G<10*EJ t.mask-> ¬InP t.place (itM t.mask G<|st.getD<|t.probeStart<|tupleKeyHash knd kx).j->(∀k',k'<G->InP t.place (itM t.mask k'<|st.getD<|t.probeStart<|tupleKeyHash knd kx).j)->
   ((∃k i,k<G/\t.place.getD i 0=(itM t.mask k<|st.getD<|t.probeStart<|tupleKeyHash knd kx).j/\ks[i]? =some kx)->Q (.there none) s)->
   ((∀k i,k<G->t.place.getD i 0=(itM t.mask k<|st.getD<|t.probeStart<|tupleKeyHash knd kx).j->i<es.size->ks[i]? ≠some kx)->Q (.free (itM t.mask G<|st.getD<|t.probeStart<|tupleKeyHash knd kx).j false) s)->
   wpAny (model prog w) A (setSearchFrom a (.ref x) (tupleKeyHash knd kx) true fuel st) Q E s:=by
 intro fuel
 induction fuel with
 |zero=>intro G st _ h;exact absurd h (by omega)
 |succ fuel ih=>
  intro G st hdm hG hGt hn ha h1 h2;unfold setSearchFrom;refine CN<|EW ho hd T.fits ?_;dsimp only;rw[if_neg (by unfold SetTable.gaveWay;rw[vj T.msk];decide)];generalize hp:st.getD (t.probeStart<|tupleKeyHash knd kx)=p at*
  have hA:∀(i:Nat)(h:Int),(es.toList.map (·.1))[i]? =some h->(fun(i:Nat)=>(es[i]?.map (fun(e:Int×CU)=>e.1)).getD 0) i=h:=fun i h hh=>by
   rw[D7,Dd]at hh;show(es[i]?.map (fun(e:Int×CU)=>e.1)).getD 0=h;rw[hh];rfl
  have go:=T.go hA (tupleKeyHash knd kx) G (10*EJ t.mask) p hdm hGt hn ha;have hpr:t.probe (fun(i:Nat)=>(es[i]?.map (fun(e:Int×CU)=>e.1)).getD 0) (tupleKeyHash knd kx) p=Gr t (fun(i:Nat)=>(es[i]?.map (fun(e:Int×CU)=>e.1)).getD 0) (tupleKeyHash knd kx) (10*EJ t.mask) p:=rfl;rw[<-hpr]at go;rcases go with⟨k,i,g1,g2,g3,g4,g5,g6⟩|⟨g1,g2⟩
  ·have e:∀f,f=(fun(i:Nat)=>(es[i]?.map (fun(e:Int×CU)=>e.1)).getD 0)->t.probe f (tupleKeyHash knd kx) p=some (.candidate (itM t.mask k p).j i (itM t.mask (k+1) p)):=fun f hf=>by rw[hf];exact g5
   have hi:i<es.size:=by simpa using g2
   obtain⟨ky,b,q1,q2,q3,q4⟩:=hk.at_ i es[i] (by rw[Dd,Dn hi]);have hei:es[i]? =some (es[i].1,.ref b):=by rw[Dn hi,<-q2]
   have key_ne:∀k' i',k'<k->t.place.getD i' 0=(itM t.mask k' p).j->i'<es.size->ks[i']? ≠some kx:=fun k' i' hk' hi' hl hq=>by
    have hl':i'<es.toList.length:=by simpa using hl
    obtain⟨kz,c,z1,z2,z3,z4⟩:=hk.at_ i' es.toList[i'] (CZ hl');rw[z1]at hq;cases hq;refine g6 k' hk' i' hi' (by simpa using hl) ?_;rw[D7,CZ hl',<-z4];rfl
   have one:∀i',t.place.getD i' 0=(itM t.mask k p).j->i'<es.size->i'=i:=fun i' hi' hl=>by
    have h1':i'<t.place.size:=by have:=T.sz;simp at this;omega
    have h2':i<t.place.size:=by have:=T.sz;simp at this;omega
    rw[<-gJ T.up h1',hi',<-g3,gJ T.up h2']
   have again:ky≠kx->wpAny (model prog w) A (setSearchFrom a (.ref x) (tupleKeyHash knd kx) true fuel<|some<|itM t.mask (k+1) p) Q E s:=fun hne=>by
    have ad:∀n,itM t.mask n (itM t.mask (k+1) p)=itM t.mask (k+1+n) p:=fun n=>(ft t.mask (k+1) n p).symm;refine ih (G-(k+1)) (some<|itM t.mask (k+1) p) ?_ (by omega) (by omega) ?_ ?_ ?_ ?_;·exact yo (k+1) hdm
    ·show ¬InP t.place (itM t.mask _<|itM t.mask (k+1) p).j;rw[ad,show k+1+(G-(k+1))=G by omega];exact hn
    ·intro k' hk';show InP t.place (itM t.mask _<|itM t.mask (k+1) p).j;rw[ad];exact ha _ (by omega)
    ·rintro ⟨k',i',r1,r2,r3⟩;have r2':t.place.getD i' 0=(itM t.mask k'<|itM t.mask (k+1) p).j:=r2;rw[ad]at r2';exact h1 ⟨k+1+k',i',by omega,r2',r3⟩
    ·intro r;show Q (.free (itM t.mask _<|itM t.mask (k+1) p).j false) s;rw[ad,show k+1+(G-(k+1))=G by omega];refine h2 fun k' i' z1 z2 z3=>?_;by_cases y1:k'<k;·exact key_ne k' i' y1 z2 z3
     ·by_cases y2:k'=k
      ·subst y2;rw[one i' z2 z3,q1];intro z;injection z with z;exact hne z
      ·refine r (k'- (k+1)) i' (by omega) ?_ z3;show t.place.getD i' 0=(itM t.mask _<|itM t.mask (k+1) p).j;rw[ad,show k+1+(k'-(k+1))=k' by omega];exact z2
   have hlive:t.slot (itM t.mask k p).j=.live i:=by rw[<-g3];exact T.live (by have:=T.sz;simp at this;omega)
   have hmem:t.sameMemory t.moves t.mask=some true:=by unfold SetTable.sameMemory;simp
   rw[e]
   ·dsimp only;simp only[hei];by_cases hl:t.led=true
    ·rw[if_neg (by simp[hl])];refine CN<|EL<|(tupleKind knd).eqBool hu q3 hx ?_;refine CN<|EW ho hd T.fits ?_;dsimp only;by_cases hq:ky=kx
     ·rw[decide_eq_true hq,if_pos (by decide)];exact CS<|h1 ⟨k,i,g1,g3,hq▸q1⟩
     ·rw[decide_eq_false hq,if_neg (by decide),hmem];dsimp only;rw[if_pos rfl,hlive];dsimp only;rw[hei];dsimp only;refine CN<|Jv ?_;refine CN<|CS ?_;exact again hq
    ·rw[if_pos (by simp[hl])];refine CN<|seen _ _ (fun y hy=>?_) ?_
     ·obtain⟨z,hz,rfl⟩:=DQ.mp hy;exact⟨z,by simp at hz;simpa using hz.1,rfl⟩
     rw[if_neg (by decide)];refine CN<|EL<|(tupleKind knd).eqBool hu q3 hx ?_;refine CN<|EW ho hd T.fits ?_;dsimp only;by_cases hq:ky=kx
     ·rw[decide_eq_true hq,if_pos (by decide)];exact CS<|h1 ⟨k,i,g1,g3,hq▸q1⟩
     ·rw[decide_eq_false hq,if_neg (by decide),hmem];dsimp only;rw[if_pos rfl,hlive];dsimp only;rw[hei];dsimp only;refine CN<|Jv ?_;refine CN<|CS ?_;exact again hq
   ·rfl
  ·have e:∀f,f=(fun(i:Nat)=>(es[i]?.map (fun(e:Int×CU)=>e.1)).getD 0)->t.probe f (tupleKeyHash knd kx) p=some (.empty (itM t.mask G p).j none):=fun f hf=>by rw[hf];exact g1
   rw[e]
   ·refine CS<|h2 fun k i hk' hi hl hq=>?_;have hl':i<es.toList.length:=by simpa using hl
    obtain⟨ky,b,q1,q2,q3,q4⟩:=hk.at_ i es.toList[i] (CZ hl');rw[q1]at hq;cases hq;refine g2 k hk' i hi (by simpa using hl) ?_;rw[D7,CZ hl',<-q4];rfl
   ·rfl
end
section
variable{prog:Dj}{w:Dp}{K:Type}[DecidableEq K]{knd:KeyKind prog w K}{A:DS}{E:CU->CV->Prop}{s:CV}
theorem sR{n:Nat}{v:CU}(h:carriedByValue v=true):ofAClassStatement n v=pure false:=by
 cases v<;>first|(cases n<;>rfl)|(exfalso;revert h;simp[carriedByValue])
theorem lR{ks:List K}{a:Addr}{Q:Bool->CV->Prop}(hk:FF knd s.heap ks a)(h:Q false s):wpAny (model prog w) A (ofAClassStatement 8<|.ref a) Q E s:=by
 have hT:=hk.typeIs;obtain⟨o,items,n,ho,_,hd,hi⟩:=hk;unfold ofAClassStatement;refine CN<|wpAny_typeOf hT ?_;dsimp only;rw[if_pos (by rfl)];refine CN<|CS ?_;rw[if_neg (by decide)];refine CN<|E2 ho hd ?_;dsimp only;refine CN ?_;show wpAny _ _ (forIn items _ _) _ _ s;rw[<-Ke];refine J5 _ (fun rest r s'=>r.1=none/\s'=s/\∀v∈rest,carriedByValue v=true) _ ?_ ?_ _ _ ⟨rfl,rfl,hi.byValue⟩
 ·rintro v rest r s' ⟨hr,rfl,hall⟩;rw[sR<|hall v Di];refine CN<|CS ?_;simp only[DA,if_false];exact CS ⟨rfl,rfl,fun u hu'=>hall u<|Dk _ hu'⟩
 ·rintro ⟨r1,r2⟩ s' ⟨hr,rfl,_⟩;simp only at hr;subst hr;exact CS h
theorem vm{kx:List K}{x:Addr}(hx:FF knd s.heap kx x):∀(l:List CU){Q:Bool->CV->Prop},(∀y∈l,∃k b,y=.ref b/\FF knd s.heap k b)->Q false s->wpAny (model prog w) A (searchCouldBeSeen (.ref x) l) Q E s:=by
 intro l Q hl h;unfold searchCouldBeSeen;refine CN ?_;refine J5 _ (fun rest r s'=>r.1=none/\s'=s/\∀y∈rest,∃k b,y=.ref b/\FF knd s.heap k b) _ ?_ ?_ _ _ ⟨rfl,rfl,hl⟩
 ·rintro v rest r s' ⟨hr,rfl,hall⟩;obtain⟨k,b,rfl,hb⟩:=hall v Di;dsimp only;by_cases z:x=b
  ·rw[if_pos (by simp[z])];exact CS ⟨rfl,rfl,fun u hu'=>hall u<|Dk _ hu'⟩
  ·rw[if_neg (by simp[z,carriedByValue])];refine CN<|(tupleKind knd).quiet hx ?_;simp only[GJ,DA,if_false];refine CN<|(tupleKind knd).quiet hb ?_;simp only[GJ,DA,if_false];refine CN<|lR hx ?_;simp only[DA,if_false];refine CN<|lR hb ?_;simp only[DA,if_false];exact CS ⟨rfl,rfl,fun u hu'=>hall u<|Dk _ hu'⟩
 ·rintro ⟨r1,r2⟩ s' ⟨hr,rfl,_⟩;simp only at hr;subst hr;exact CS h
end
section
variable{prog:Dj}{w:Dp}{K:Type}[DecidableEq K]{knd:KeyKind prog w K}
theorem oo{h h':Heap}{a b:Addr}{o:Obj}{es:Array (Int×CU)}{ep:Nat}{t:Em}{k:List K}(hk:FF knd h k b)(ho:h.get? a=some o)(hd:o.data=.set es ep t)(hs:Dl a h h'):FF knd h' k b:=by
 obtain⟨ob,items,n,h1,h2,h3,h4⟩:=hk;have ne:b≠a:=fun z=>by
  subst z;rw[ho]at h1;cases h1;rw[hd]at h3;cases h3
 exact⟨ob,items,n,(hs.2 b ne).trans h1,h2,h3,h4⟩
theorem TupsOf.keep{h h':Heap}{a:Addr}{o:Obj}{es:Array (Int×CU)}{ep:Nat}{t:Em}{l:List (Int×CU)}{ks:List (List K)}(T:TupsOf knd h l ks)(ho:h.get? a=some o)(hd:o.data=.set es ep t)(hs:Dl a h h'):TupsOf knd h' l ks:=
 ⟨T.len,fun i e he=>let ⟨k,b,q1,q2,q3,q4⟩:=T.at_ i e he;⟨k,b,q1,q2,oo q3 ho hd hs,q4⟩⟩
end
section
variable{prog:Dj}{w:Dp}{K:Type}[DecidableEq K]{knd:KeyKind prog w K}{A:DS}{E:CU->CV->Prop}{s:CV}
theorem vn{ks:List K}{a:Addr}{Q:Bool->CV->Prop}(hI:∀k∈ks,∀v,knd.is k v=true->∃i t,v=.int i t)(hk:FF knd s.heap ks a)(h:Q true s):wpAny (model prog w) A (hashByValue 8<|.ref a) Q E s:=by
 have hT:=hk.typeIs;obtain⟨o,items,n,ho,_,hd,hi⟩:=hk;unfold hashByValue;refine CN<|HJ hT F.slot_tuple_hash.lookup ?_;show wpAny _ _ (seqItems? (.ref a)>>=_) _ _ s;refine CN<|E2 ho hd ?_;dsimp only;refine CN ?_;show wpAny _ _ (forIn items _ _) _ _ s;rw[<-Ke];have hall:∀v∈items.toList,∃i t,v=.int i t:=by
  clear hd ho;generalize items.toList=l at hi
  induction hi with
  |nil=>intro v hv;cases hv
  |cons h1 _ ih=>
   intro v hv;rcases Dh.mp hv with rfl|hv
   ·exact hI _ (Di ..) _ h1
   ·exact ih (fun k hk=>hI k<|Dk _ hk) v hv
 refine J5 _ (fun rest r s'=>r.1=none/\s'=s/\∀v∈rest,∃i t,v=IY i t) _ ?_ ?_ _ _ ⟨rfl,rfl,hall⟩
 ·rintro v rest r s' ⟨hr,rfl,hall⟩;obtain⟨i,t,rfl⟩:=hall v Di;show wpAny _ _ (hashByValue 7 (.int i t)>>=_) _ _ _;rw[show hashByValue 7 (.int i t)=pure true from rfl];refine CN<|CS ?_;exact CS ⟨rfl,rfl,fun u hu'=>hall u<|Dk _ hu'⟩
 ·rintro ⟨r1,r2⟩ s' ⟨hr,rfl,_⟩;simp only at hr;subst hr;exact CS h
structure SetT(knd:KeyKind prog w K)(h:Heap)(a:Addr)(led:Bool)(ks:List (List K))(o:Obj)(es:Array (Int×CU))(ep:Nat)(t:Em):Prop where
 at_:h.get? a=some o
 ex:o.ExactSet
 dat:o.data=.set es ep t
 tab:Tb t (es.toList.map (·.1))
 tup:TupsOf knd h es.toList ks
 nd:ks.Nodup
 led:t.led=led
 pl:t.plain=true
theorem Tp.fits{t:Em}{es:Array (Int×CU)}(T:Tp t (es.toList.map (·.1)))(h:es.size<=t.mask):t.fits es.size=true:=by
 have h1:=T.sz;have h3:=T.dm;simp at h1;unfold LV K0;rw[h3];simp;omega
theorem Tp.full{t:Em}{es:Array (Int×CU)}(T:Tp t (es.toList.map (·.1))):t.tooFull=decide (es.size*5≥t.mask*3):=by
 have h1:=T.sz;simp at h1;unfold SetTable.tooFull K0;rw[T.dm,h1];simp
theorem xc{es:Array (Int×CU)}{order:Array Nat}(h:order.toList.Perm (Ed es.size)):(order.filterMap (es[·]?)).toList=order.toList.map fun i=>es.toList.getD i (0,.none):=by
 rw[Array.toList_filterMap];have:∀i∈order.toList,i<es.size:=fun i hi=>by have:=h.mem_iff.mp hi;simpa using this
 generalize order.toList=l at this;clear h
 induction l with
 |nil=>rfl
 |cons i l ih=>
  have hi:=this i<|Di ..;rw[Fw,Dn hi,Ds,ih fun j hj=>this j<|Dk _ hj];congr 1;rw[Es,CZ (by simpa using hi)];rfl
theorem lS{α:Type}(l:List α)(d:α):(Ed l.length).map (fun i=>l.getD i d)=l:=by
 apply EU;intro i;rw[D7];by_cases z:i<l.length
 ·rw[Fx z,CZ z];simp[Es,z]
 ·rw[Ea (by simpa using z),Ea (by simpa using z)];rfl
theorem TupsOf.order{h:Heap}{es:List (Int×CU)}{ks:List (List K)}(U:TupsOf knd h es ks){l:List Nat}(hl:l.Perm (Ed es.length)):TupsOf knd h (l.map fun i=>es.getD i (0,.none)) (l.map fun i=>ks.getD i []):=by
 refine⟨by simp,fun i e he=>?_⟩;rw[D7]at he;obtain⟨j,hj,e1⟩:=E9.mp he;have hlt:j<es.length:=by have:=hl.mem_iff.mp<|Dz hj;simpa using this
 obtain⟨k,b,q1,q2,q3,q4⟩:=U.at_ j es[j] (CZ hlt);have e2:e=es[j]:=by rw[<-e1,Es,CZ hlt];rfl
 subst e2;refine⟨k,b,?_,q2,q3,q4⟩;rw[D7,hj];simp[Es,q1]
theorem vo{a:Addr}{o:Obj}{es es1:Array (Int×CU)}{ep n:Nat}{t t1:Em}{led:Bool}{ks1:List (List K)}(ho:s.heap.get? a=some o)(hex:o.ExactSet)(hd:o.data=.set es ep t)(T1:Tp t1 (es1.toList.map (·.1)))(U1:TupsOf knd s.heap es1.toList ks1)(nd1:ks1.Nodup)(hl:t1.led=led)(hpl:t1.plain=true)(hn:es1.size=n)(h0:0<n)(h63:n<=1000)(hr:(n-1)*5<t1.mask*3){Q:Bool->CV->Prop}
  (h:∀h' ks' o' es' ep' t',Dl a s.heap h'->SetT knd h' a led ks' o' es' ep' t'->ks'.Perm ks1->es'.toList.Perm es1.toList->Q true {s with heap:=h'}):
  wpAny (model prog w) A (do
    storeSet a es1 t1
    if(!false&&t1.tooFull)=true then setRelay a (Gy n)
    pure true) Q E s:=by
 have put:∀(s:CV)(o:Obj)es ep t(es':Array (Int×CU))(t':Em),s.heap.get? a=some o->o.data=.set es ep t->(s.heap.update a<|Ig es' t').get? a=some {o with data:=.set es' (ep+1) t'}:=fun s o es ep t es' t' ho hd=>by
  have:=EX (Ig es' t') ho (by rw[putSet_of es' t' hd];rfl);rw[putSet_of es' t' hd]at this;exact this
 have big:1000<=sizeLine:=by rw[Ej];omega
 have mk:=T1.msk;refine CN (Kt ho hd ?_ (by omega));have ho1:=put s o es ep t es1 t1 ho hd;have sb1:=Ek s.heap a<|Ig es1 t1;have U2:=U1.keep ho hd sb1;rw[T1.full];by_cases z:es1.size*5≥t1.mask*3
 ·rw[decide_eq_true z,if_pos (by rfl)];unfold setRelay;refine CN (CN (EW ho1 rfl (T1.fits (by rcases mk with y|y|y|y|y<;>omega)) ?_));dsimp only;have hw:GV (Gy n)<=2048/\isMask (GV (Gy n)-1)/\n*5<(GV (Gy n)-1)*3:=by
   rcases mk with y|y|y|y|y
   ·have:n=5:=by omega
    subst this;exact⟨by decide,.inr (.inl (by decide)),by decide⟩
   ·have:n=19:=by omega
    subst this;exact⟨by decide,.inr (.inr (.inl (by decide))),by decide⟩
   ·have:n=77:=by omega
    subst this;exact⟨by decide,.inr (.inr (.inr (.inl (by decide)))),by decide⟩
   ·have:n=307:=by omega
    subst this;exact⟨by decide,.inr (.inr (.inr (.inr (by decide)))),by decide⟩
   ·omega
  rw[if_neg (by have:=hw.1;rw[Ej];omega)];obtain⟨t2,order,e2,m2,l2,p2,pm,T2⟩:=xb hw.2.1 (hs:=es1.map (·.1)) (by simp;omega) t1.finger (t1.movedTo<|GV (Gy n)-1) t1.led t1.plain;have er:t1.relaid (es1.map (·.1)) (Gy n)=some (t2,order):=e2;have pm':order.toList.Perm (Ed es1.size):=by simpa using pm
  have fm:=xc (es:=es1) pm';have fs:(order.filterMap (es1[·]?)).size=es1.size:=by
   rw[<-DJ,fm,Dx,pm'.length_eq,IG]
  rw[er];have key:∀(f:Array (Int×CU)->Option (Em×Array Nat)->Sem (Array (Int×CU)×Em))(R:(Array (Int×CU)×Em)->CV->Prop)(s:CV),(∀es l,f es l=(do
     let some (t,order):=l|unsupported "internal:set-table-without-room"
     let es':=order.filterMap (es[·]?)
     if es'.size != es.size then unsupported "internal:set-table-lost-an-element"
     pure (es',t)))->R (order.filterMap (es1[·]?),t2) s->wpAny (model prog w) A (f es1 (some (t2,order))) R E s:=fun f R s hf hR=>by
   rw[hf];dsimp only;rw[if_neg (by rw[fs];simp)];exact CS hR
  refine CN<|key _ _ _ (fun _ _=>rfl) ?_;dsimp only;refine Kt ho1 rfl ?_ (by rw[fs];omega);have ho2:=put {s with heap:=s.heap.update a (Ig es1 t1)} _ _ _ _ (order.filterMap (es1[·]?)) t2 ho1 rfl;have sb2:=Ek (s.heap.update a<|Ig es1 t1) a (Ig (order.filterMap (es1[·]?)) t2);have U3:=U2.order (l:=order.toList) (by simpa using pm');rw[<-fm]at U3;have U4:=U3.keep ho1 rfl sb2;have pk:(order.toList.map fun i=>ks1.getD i []).Perm ks1:=by
   have:=pm'.map<|fun i=>ks1.getD i [];have hl:es1.size=ks1.length:=by have:=U1.len;simpa using this
   rw[hl,lS]at this;exact this
  have pe:(order.filterMap (es1[·]?)).toList.Perm es1.toList:=by
   rw[fm];have:=pm'.map<|fun i=>es1.toList.getD i (0,En);have hl:es1.size=es1.toList.length:=by simp
   rw[hl,lS]at this;exact this
  refine CS (h _ _ _ _ _ _ (sb1.trans sb2) ⟨ho2,hex,rfl,⟨?_,?_⟩,U4,pk.nodup_iff.mpr nd1,by rw[l2];exact hl,by rw[p2];exact hpl⟩ pk pe)
  ·rw[fm,F6];have:((fun x:Int×CU=>x.1)∘fun i=>es1.toList.getD i (0,.none))=fun i=>(es1.map (·.1)).toList.getD i 0:=funext fun i=>by
    simp only[Function.comp,Es,KN,D7];cases es1.toList[i]? <;>rfl
   rw[this];exact T2
  ·rw[Dx,DJ,fs,m2];have:=hw.2.2;omega
 ·rw[decide_eq_false z,if_neg (by decide)];refine CS (h _ _ _ _ _ _ sb1 ⟨ho1,hex,rfl,⟨T1,by simp;omega⟩,U2,nd1,hl,hpl⟩ (.refl _)<|.refl _)
theorem xf{a x:Addr}{o:Obj}{es:Array (Int×CU)}{ep:Nat}{t:Em}{led:Bool}{ks:List (List K)}{kx:List K}(hu:A.units<cLine)(S:SetT knd s.heap a led ks o es ep t)(hn:es.size<1000)(hx:FF knd s.heap kx x)(hI:∀k∈kx,∀v,knd.is k v=true->∃i t,v=.int i t)
  {Q:Bool->CV->Prop} {fuel:Nat}
  (h1:kx∈ks->Q false s) (h2:kx∉ks->∀h' ks' o' es' ep' t',Dl a s.heap h'->SetT knd h' a led ks' o' es' ep' t'->ks'.Perm (kx::ks)->es'.toList.Perm ((tupleKeyHash knd kx,.ref x)::es.toList)->Q true {s with heap:=h'}):
  wpAny (model prog w) A (setAddHashedIn a (.ref x) (tupleKeyHash knd kx)<|fuel+1) Q E s:=by
 unfold setAddHashedIn;refine CN<|EW S.at_ S.dat S.tab.fits ?_;dsimp only;rw[if_neg (by unfold byScan;simp[Value.scannable])];obtain⟨G,g1,g2,g3⟩:=S.tab.gap<|vf t<|tupleKeyHash knd kx;have mem:∀i,i<es.size->ks[i]? =some kx->∃k,k<G/\t.place.getD i 0=(itM t.mask k<|t.probeStart<|tupleKeyHash knd kx).j:=fun i hi z=>by
  have hi':i<es.toList.length:=by simpa using hi
  obtain⟨k,b,q1,q2,q3,q4⟩:=S.tup.at_ i es.toList[i] (CZ hi');rw[q1]at z;cases z;obtain⟨n,r1,r2⟩:=S.tab.reach i (tupleKeyHash knd kx) (by rw[D7,CZ hi',<-q4];rfl);refine⟨n,?_,r1.symm⟩;by_cases y:n<G;·exact y
  ·by_cases y2:n=G
   ·subst y2;refine absurd ?_ g2;rw[r1];exact⟨i,by have:=S.tab.sz;simp at this;omega,rfl⟩
   ·exact absurd (r2 G (by omega)) g2
 refine CN ?_;unfold setSearch;have ht:t.mask<=2047:=by rcases S.tab.msk with z|z|z|z|z<;>omega
 refine pM (knd:=knd) hu S.at_ S.dat S.tab S.tup hx (fun l Q hl h=>vm hx l (fun y hy=>?_) h) 100000 G none rfl (by unfold EJ at g1;omega) g1 g2 g3 ?_ ?_
 ·obtain⟨e,he,rfl⟩:=hl y hy;obtain⟨i,hi,rfl⟩:=Fq.mp he;obtain⟨k,b,q1,q2,q3,q4⟩:=S.tup.at_ i es.toList[i] (CZ hi);exact⟨k,b,q2,q3⟩
 ·rintro ⟨k,i,_,_,hq⟩;exact CS<|h1<|Dz hq
 ·intro hall;have nin:kx∉ks:=fun hm=>by
   obtain⟨i,hi,e⟩:=Fq.mp hm;have hi':i<es.size:=by have:=S.tup.len;simp at this;omega
   have hq:ks[i]? =some kx:=by rw[CZ hi,e]
   obtain⟨k,q1,q2⟩:=mem i hi' hq;exact hall k i q1 q2 hi' hq
  refine CN<|EW S.at_ S.dat S.tab.fits ?_;dsimp only;have jle:(itM t.mask G<|t.probeStart<|tupleKeyHash knd kx).j<=t.mask:=yn (m:=t.mask) (h:=tupleKeyHash knd kx) G;obtain⟨p1,p2,p3⟩:=S.tab.put g2 jle g3;have led1:(t.put (itM t.mask G<|t.probeStart<|tupleKeyHash knd kx).j).1.led=t.led:=rfl;simp only[J3];generalize hP:t.put (itM t.mask G<|t.probeStart<|tupleKeyHash knd kx).j=P at*
  obtain⟨t1,p⟩:=P;dsimp only at p1 p2 p3 led1;have hp:p<=es.size:=by simpa using p1
  have il:=kH es p (tupleKeyHash knd kx,Eg x);have T1:Tp t1 ((EG es p (tupleKeyHash knd kx,Eg x)).toList.map (·.1)):=by
   rw[il,L8,Ds,List.map_take,List.map_drop];exact p3
  have U1:TupsOf knd s.heap (EG es p (tupleKeyHash knd kx,Eg x)).toList (ks.take p++kx::ks.drop p):=by
   have hlen:=S.tup.len;have hp2:p<=ks.length:=by simp at hlen;omega
   rw[il];refine⟨by simp[hlen],fun i e he=>?_⟩;have l1:(es.toList.take p).length=p:=by simp;omega
   have l2:(ks.take p).length=p:=by simp;omega
   by_cases z:i<p
   ·rw[DF (by omega),E1 z]at he;obtain⟨k,b,q⟩:=S.tup.at_ i e he;exact⟨k,b,by rw[DF (by omega),E1 z];exact q.1,q.2⟩
   ·rw[Dw (by omega),l1]at he;rw[Dw (by omega),l2];by_cases y:i=p
    ·rw[y,He,F4]at he ⊢;cases he;exact⟨kx,x,rfl,rfl,hx,rfl⟩
    ·rw[show i- p=(i- p- 1)+1 by omega,EH,Ef]at he ⊢;exact S.tup.at_ _ e he
  have pk:(ks.take p++kx::ks.drop p).Perm (kx::ks):=KO.trans (.cons kx (by rw[Jw]));have nd1:(ks.take p++kx::ks.drop p).Nodup:=pk.nodup_iff.mpr<|Fc.mpr ⟨nin,S.nd⟩;have room:=S.tab.room;have pl1:t1.plain=true:=by have:=S.pl;rw[<-this];have e:=congrArg (fun z:Em×Nat=>z.1.plain) hP;exact e.symm
  rw[if_pos pl1];refine CN<|vn hI hx ?_;exact vo S.at_ S.ex S.dat T1 U1 nd1 (led1.trans S.led) pl1 (f6 es hp _) (by omega) (by omega) (by rw[p2];simpa using room) fun h' ks' o' es' ep' t' a1 a2 a3 a4=>h2 nin h' ks' o' es' ep' t' a1 a2 (a3.trans pk) (a4.trans (by rw[il];exact KO.trans (.cons _ (by rw[Jw]))))
end
end Wb
namespace Wb
open PySem PySem.W PySem.Calls PyProof.Rows
theorem sl_next:Slot "set_iterator" "__next__" "set_iterator.__next__":=
 .of (owner:="set_iterator") (n:="__next__") (by rw[L9,Jx];kernel_rfl) (by decide +kernel) (by decide +kernel) (by decide +kernel)
  (by first|exact .inl (by decide +kernel)|exact .inr (by decide +kernel)) (by rw[JP];kernel_rfl)
theorem rg:Slot "set_iterator" "__iter__" "set_iterator.__iter__":=
 .of (owner:="set_iterator") (n:="__iter__") (by rw[L9,Jx];kernel_rfl) (by decide +kernel) (by decide +kernel) (by decide +kernel)
  (by first|exact .inl (by decide +kernel)|exact .inr (by decide +kernel)) (by rw[JP];kernel_rfl)
theorem rh:entryFor table "set_iterator.__next__"=some EI.«set_iterator.__next__»:=entryFor_of_tree (by kernel_rfl)
theorem xg:entryFor table "set_iterator.__iter__"=some EI.«dict_keyiterator.__iter__»:=Lm (id':="dict_keyiterator.__iter__") (by kernel_rfl) rfl (by decide +kernel) (by kernel_rfl)
theorem zk:entryFor table "set.__iter__"=some EI.«frozenset.__iter__»:=Lm (id':="frozenset.__iter__") (by kernel_rfl) rfl (by decide +kernel) (by kernel_rfl)
theorem rj:Manifest.owners.lookup (String.ofList ['r','o','t','a','r','e','t','i','_','t','e','s'].reverse)=some Manifest.sig_set_iterator:=by kernel_rfl
theorem rk(a:CU):argsOk "set_iterator.__next__" ⟨[a],[]⟩:=by
 unfold argsOk;rw[Jm (id:="set_iterator.__next__") (n:=['_','_','t','x','e','n','_','_']) (o:=['r','o','t','a','r','e','t','i','_','t','e','s']) (by kernel_rfl) rj];kernel_rfl
theorem xh(a:CU):argsOk "set_iterator.__iter__" ⟨[a],[]⟩:=by
 unfold argsOk;rw[Jm (id:="set_iterator.__iter__") (n:=['_','_','r','e','t','i','_','_']) (o:=['r','o','t','a','r','e','t','i','_','t','e','s']) (by kernel_rfl) rj];kernel_rfl
theorem kI{α:Type}:∀(l:List α)(i:Nat)(h:i<l.length),(l[i]::l.eraseIdx i).Perm l
 |a::l,0,_=>.refl _
 |a::l,i+1,h=>by
  have h2:i<l.length:=by simpa using h
  exact(List.Perm.swap a l[i] (l.eraseIdx i)).trans (.cons a<|kI l i h2)
theorem lT{α:Type}(next:Nat->Nat):∀(fuel k:Nat)(left:List α)(out:Array α),fuel=left.length->(Ku next fuel k left out).toList.Perm (out.toList++left)
 |0,k,left,out,h=>by
  have:left=[]:=FX.mp h.symm;subst this;unfold Ku;simp
 |fuel+1,k,left,out,h=>by
  unfold Ku;have hl:next k%left.length<left.length:=Ic _ (by omega)
  rw[CZ hl];dsimp only;refine(lT next fuel (k+1) _ _ (by rw[JQ];simp[hl];omega)).trans ?_;rw[Ft,Dq];refine EF _ ?_;exact kI left _ hl
def dF(w:Dp)(a:Addr)(ep:Nat)(es:Array (Int×CU)):Array (Int×CU):=if w.params.followText "set-order"=true then pickOrder (w.params.setOrder a ep) es else es
theorem iD(w:Dp)(a:Addr)(ep:Nat)(es:Array (Int×CU)):(dF w a ep es).toList.Perm es.toList:=by
 unfold dF;split
 ·have:=lT (w.params.setOrder a ep) es.size 0 es.toList #[] (by simp);simp only[GP]at this;exact this
 ·exact .refl _
def cm(w:Dp)(t:Em)(i:Nat):Int:=if w.params.followText "set-order"=true then 0 else if i=0 then 0 else(t.place.getD (i-1) 0:Int)+1
theorem pN{w:Dp}{t:Em}{hs:List Int}(T:Tp t hs)(hb:¬w.params.followText "set-order"=true){i:Nat}(hi:i<=t.place.size):Ez t.place (cm w t i).toNat=i:=by
 obtain⟨b0,b1,b2⟩:=iA T.up (cm w t i).toNat;generalize hB:Ez t.place (cm w t i).toNat=b at*
 have e:(cm w t i).toNat=if i=0 then 0 else t.place.getD (i-1) 0+1:=by
  unfold cm;rw[if_neg hb];split<;>omega
 rw[e]at b1 b2;by_cases z:i=0
 ·rw[if_pos z]at b1;by_cases y:b=0;·omega
  ·have:=b1 0 (by omega);omega
 ·rw[if_neg z]at b1 b2;by_cases y:b<i
  ·have:=b2 (i- 1) (by omega) (by omega);omega
  ·by_cases y2:i< b
   ·have h1:=b1 i y2;have h2:=T.up (i-1) i (by omega) (by omega);omega
   ·omega
def kJ(w:Dp)(a:Addr)(t:Em)(n ep i:Nat):Obj:={cls:=.type "set_iterator",dict:=none,data:=.fields #[.int (cm w t i) 0,.int i 0,.ref a,.int n 0,.int ep 0],slots:= #[]}
section
variable{prog:Dj}{w:Dp}{A:DS}{E:CU->CV->Prop}{s:CV}{a I:Addr}{o:Obj}{es:Array (Int×CU)}{ep:Nat}{t:Em}
theorem oq{i:Nat}{Q:Option (CU×Nat)->CV->Prop}(ho:s.heap.get? a=some o)(hd:o.data=.set es ep t)(T:Tp t (es.toList.map (·.1)))(hf:t.fits es.size=true)(hl:t.led= !w.params.followText "set-order")(hp:t.plain=true)(hi:i<=es.size)
  (h:Q (((dF w a ep es)[i]?).map fun e=>(e.2,(cm w t<|i+1).toNat)) s):wpAny (model prog w) A (setNext a (cm w t i).toNat i ep) Q E s:=by
 have hsz:t.place.size=es.size:=by have:=T.sz;simpa using this
 unfold setNext;refine CN<|EW ho hd hf ?_;dsimp only;unfold setsByText;refine CN<|CN<|G4<|CS ?_;show wpAny (model prog w) A (if w.params.followText "set-order"=true then _ else _) Q E s;by_cases z:w.params.followText "set-order"=true
 ·rw[if_pos z,if_neg (by simp)];unfold setWalk;refine CN<|CN<|EW ho hd hf ?_;dsimp only;unfold setsByText;refine CN<|CN<|G4<|CS ?_;show wpAny (model prog w) A (if w.params.followText "set-order"=true then _ else _) _ E s;rw[if_pos z];refine CN<|G4<|CS<|CS ?_;unfold dF cm at h;rw[if_pos z,if_pos z]at h;unfold cm;rw[if_pos z];exact h
 ·rw[if_neg z];refine HN (fun hab=>absurd hab (show ¬((!t.plain&&decide (es.size>1))=true) by rw[hp];simp))<|fun _=>?_;show wpAny _ _ ((if(!t.led&& !es.isEmpty)=true then unsupported _ else pure ())>>=_) _ _ _;rw[if_neg (by rw[hl];simp[z])];refine CN<|CS ?_;rw[pN T z (by omega)];unfold dF at h;rw[if_neg z]at h;by_cases y:i<es.size
  ·have y2:i< t.place.size:=by omega
   rw[Dn y]at h ⊢;rw[Dn y2];have e:(cm w t<|i+1).toNat=t.place[i]+1:=by
    unfold cm;rw[if_neg z,if_neg (by omega),show i+1-1=i by omega];have:t.place.getD i 0=t.place[i]:=by simp[Fu,y2]
    omega
   simp only[Gk,e]at h;exact CS h
  ·rw[Gg (by omega)]at h ⊢;exact CS h
end
section
variable{prog:Dj}{w:Dp}{A:DS}{E:CU->CV->Prop}{s:CV}{a I:Addr}{o:Obj}{es:Array (Int×CU)}{ep:Nat}{t:Em}
theorem kK{n i:Nat}(h:s.heap.get? I=some (kJ w a t n ep i)):s.TypeIs (.ref I) "set_iterator":=⟨_,h,rfl⟩
structure SetR(w:Dp)(o:Obj)(es:Array (Int×CU))(ep:Nat)(t:Em):Prop where
 ex:o.ExactSet
 dat:o.data=.set es ep t
 tab:Tb t (es.toList.map (·.1))
 led:t.led= !w.params.followText "set-order"
 pl:t.plain=true
theorem vp{Q:CU->CV->Prop}(R:SetR w o es ep t)(ho:s.heap.get? a=some o)(h:Q (.ref s.heap.objs.size) {s with heap:=s.heap.push (kJ w a t es.size ep 0)}):wpAny (model prog w) A (pyIter<|.ref a) Q E s:=by
 have hT:s.TypeIs (.ref a) "set":=⟨o,ho,R.ex.1⟩
 refine Hf hT La<|DU La hT zk ?_<|F.args_set_iter_1 _;unfold EI.«frozenset.__iter__»;refine CN (m:=M3 _ _)<|CS ?_;unfold LW;refine CN<|CN<|HV ho R.dat R.tab.fits<|CS ?_;unfold setDrawn;refine CN<|CN<|EW ho R.dat R.tab.fits ?_;dsimp only;unfold setsByText;refine CN<|CN<|G4<|CS<|CS ?_;refine HN (fun hab=>absurd hab (show ¬((!w.params.followText "set-order"&&(!t.plain&&decide (es.size>1)))=true) by rw[R.pl];simp))<|fun _=>?_;refine CN<|CS ?_;refine CN<|wpAny_setEpoch_of ho R.dat R.tab.fits ?_;have e0:cm w t 0=0:=by unfold cm;split<;>rfl
 refine CN<|Ec<|CS ⟨_,rfl,"set_iterator",_,⟨_,D6 _ rfl,rfl⟩,sl_next.lookup,?_⟩;unfold kJ at h;rw[e0]at h;exact h
theorem sS{i:Nat}{Q:Option CU->CV->Prop}(R:SetR w o es ep t)(ho:s.heap.get? a=some o)(hne:a≠I)(hI:s.heap.get? I=some (kJ w a t es.size ep i)){e:Int×CU}(he:(dF w a ep es)[i]? =some e)
  (h:∀h',h'.get? I=some (kJ w a t es.size ep<|i+1)->Dl I s.heap h'->Q (some e.2) {s with heap:=h'}):wpAny (model prog w) A (pyNext<|.ref I) Q E s:=by
 have hsz:(dF w a ep es).size=es.size:=by have:=(iD w a ep es).length_eq;simpa using this
 have hi:i<es.size:=by have:=(F9.mp he).1;omega
 have hT:=kK hI;unfold pyNext;refine CN (FC (E4 (name:=CY "__next__") hT sl_next
  (DU sl_next hT rh ?_ (rk _))))
 unfold EI.«set_iterator.__next__»;refine CN (m:=slotArgs _ _ _)<|CS ?_;refine CN<|Ih hI rfl ?_;dsimp only;refine CN<|HV ho R.dat R.tab.fits ?_;rw[if_neg (by simp)];show wpAny _ _ (setNext a (cm w t i).toNat ((i:Int).toNat) ((ep:Int).toNat)>>=_) _ _ _;rw[Ew,Ew];refine CN (oq ho R.dat R.tab.toTp R.tab.fits R.led R.pl (by omega) ?_);rw[he];dsimp only[Gk];refine CN (FY hI rfl (by simp) ?_);have hI1:=EX (IT (·.setIfInBounds 0 (rawInt ((cm w t<|i+1).toNat:Int)))) hI rfl;refine CN (FY hI1 rfl (by simp) ?_);have hI2:=EX (IT (·.setIfInBounds 1 (rawInt<|(i:Int)+1))) hI1 rfl;refine CS ⟨_,rfl,CS<|h _ (hI2.trans ?_)<|(Ek ..).trans (Ek ..)⟩;have e1:((cm w t<|i+1).toNat:Int)=cm w t (i+1):=by unfold cm;split<;>(try split)<;>omega
 rw[e1];rfl
theorem vq{Q:Option CU->CV->Prop}(hh:A.handled=none)(R:SetR w o es ep t)(ho:s.heap.get? a=some o)(hne:a≠I)(hI:s.heap.get? I=some (kJ w a t es.size ep es.size))
  (h:∀h',Gv I s.heap h'->Q none {s with heap:=h'}):wpAny (model prog w) A (pyNext<|.ref I) Q E s:=by
 have hsz:(dF w a ep es).size=es.size:=by have:=(iD w a ep es).length_eq;simpa using this
 have hT:=kK hI;unfold pyNext;refine CN (FC (E4 (name:=CY "__next__") hT sl_next
  (DU sl_next hT rh ?_ (rk _))))
 unfold EI.«set_iterator.__next__»;refine CN (m:=slotArgs _ _ _)<|CS ?_;refine CN<|Ih hI rfl ?_;dsimp only;refine CN<|HV ho R.dat R.tab.fits ?_;rw[if_neg (by simp)];show wpAny _ _ (setNext a (cm w t es.size).toNat ((es.size:Int).toNat) ((ep:Int).toNat)>>=_) _ _ _;rw[Ew,Ew];refine CN (oq ho R.dat R.tab.toTp R.tab.fits R.led R.pl (by omega) ?_);rw[Gg (by omega)];dsimp only[Option.map_none];refine CN (FY hI rfl (by simp) ?_);show wpAny _ _ (newExc (.type "StopIteration") []>>=_) _ _ _;refine CN ?_;simp only[newExc,newTuple];refine CN (Ec ?_ (by size_fits));refine CN (m:=firstArgMember _ _) (JN (a:=En) (by first|rfl|(simp only[firstArgMember];rfl)) ?_);refine Ec ?_ (by size_fits);simp only[raiseNew];refine CN<|JY ?_;rw[show A.in1.handled=none from hh];refine CN<|CS<|KZ ?_;refine CN<|Ff (T:="StopIteration") (b:=true) ⟨_,D6 _ rfl,rfl⟩ G0 ?_;exact CS<|h _<|((Ek ..).extBut.push _).push _
theorem Walks.setOf(hh:A.handled=none)(I a:Addr)(hne:a≠I)(R:SetR w o es ep t):
  Walks prog w A I [I,a] [I] es.size (fun i v=>∃e,(dF w a ep es)[i]? =some e/\v=e.2) (fun i h=>h.get? I=some (kJ w a t es.size ep i)/\h.get? a=some o) where
 sub:=fun b hb=>by simp at hb;simp[hb]
 frame:=fun _ _ _ st hk=>⟨hk I (by simp) _ st.1,hk a (by simp) _ st.2⟩
 item:=fun i s Q E hi st hQ=>by
  have hsz:(dF w a ep es).size=es.size:=by have:=(iD w a ep es).length_eq;simpa using this
  have he:(dF w a ep es)[i]? =some (dF w a ep es)[i]:=Dn (by omega);refine sS R st.2 hne st.1 he fun h' hI' hs'=>?_;exact hQ _ h' s.toks ⟨_,he,rfl⟩ ⟨hI',hs'.extBut a _ hne st.2⟩ fun b o hb e=>hs'.extBut b o (fun h=>hb (by simp[h])) e
 done:=fun s Q E st hQ=>vq hh R st.2 hne st.1 fun h' he'=>hQ h' s.toks fun b o hb e=>he' b o (fun h=>hb (by simp[h])) e
 self:=fun i s Q E st hQ=>by
  refine Hf (kK st.1) rg<|DU rg (kK st.1) xg ?_<|xh _;show wpAny _ _ (ret<|.ref I) _ _ s;exact CS ⟨_,rfl,"set_iterator",_,kK st.1,sl_next.lookup,hQ⟩
theorem vt{Q:Bool->CV->Prop}(hT:s.TypeIs (.ref a) "set")(h:Q false s):wpAny (model prog w) A (HX<|.ref a) Q E s:=by
 unfold HX;refine CN<|HJ hT F.slot_set_len.lookup ?_;generalize hid:("set.__len__" :String)=id0
 wp_delta
 rw[show splitId id0=some ("set","__len__")from by subst hid;decide +kernel];subst hid;refine CN (Ff (T:="set") (b:=true) hT (by rw[JP];kernel_rfl) ?_);refine HN (fun hab=>absurd hab (by decide))<|fun _=>?_;refine HN (fun _=>?_) (fun hab=>absurd (by decide +kernel) hab);refine CN<|wpAny_typeOf hT ?_;exact CS h
theorem xi(R:SetR w o es ep t):KdlSrc prog w "set" a a es.size (fun i v=>∃e,(dF w a ep es)[i]? =some e/\v=e.2) (fun h=>h.get? a=some o) where
 type:=fun _ hm=>⟨o,hm,R.ex.1⟩
 there:=fun _ hm=>⟨Dc hm,Dc hm⟩
 keep:=fun _ _ hm hk=>hk a (.inl rfl) o hm
 notList:=by decide
 notTuple:=by decide
 hint:=fun _ _ _ _ hm hq=>vt ⟨o,hm,R.ex.1⟩ hq
 iter:=fun _ _ hh hm=>⟨_,_,(fun _ _ hq=>vp R hm hq),Walks.setOf hh _ a (Dv<|Dc hm) R,⟨D6 _ rfl,CQ _ hm⟩⟩
end
def PairAt(h:Heap)(v:CU)(k:Int×Int):Prop:=∃b o t1 t2 n,v=.ref b/\h.get? b=some o/\o.cls=.type "tuple"/\o.data=.seq #[.int k.1 t1,.int k.2 t2] n
def nk(a b:Int×Int):Bool:=decide (a.1<b.1)||(decide (a.1=b.1)&&decide (a.2<b.2))
theorem jy{a b:Int×Int}:nk a b=true↔a.1<b.1\/(a.1=b.1/\a.2<b.2):=by unfold nk;simp
theorem zl{a b c:Int×Int}(h:nk a b=true)(h':nk b c=true):nk a c=true:=by rw[jy]at *;omega
theorem xj{a b:Int×Int}(hn:a≠b)(h:nk a b=false):nk b a=true:=by
 have h2:¬nk a b=true:=by rw[h];decide
 rw[jy]at h2;rw[jy];by_cases z:a.1=b.1
 ·have:a.2≠b.2:=fun e=>hn<|Ib z e;omega
 ·omega
theorem rl(a:Int×Int):nk a a=false:=by unfold nk;simp
structure PairsAt(h:Heap)(vs:List CU)(ks:List (Int×Int)):Prop where
 len:vs.length=ks.length
 at_:∀(i:Nat)(v:CU),vs[i]? =some v->∃k,ks[i]? =some k/\PairAt h v k
section
variable{prog:Dj}{w:Dp}{A:DS}{E:CU->CV->Prop}{s:CV}
theorem xk{x y:CU}{k l:Int×Int}{Q:Bool->CV->Prop}(hx:PairAt s.heap x k)(hy:PairAt s.heap y l)(h:Q (nk k l) s):wpAny (model prog w) A (keyLt' (tuples' true) x y) Q E s:=by
 obtain⟨bx,ox,t1,t2,n,rfl,hx,_,dx⟩:=hx;obtain⟨by_,oy,u1,u2,m,rfl,hy,_,dy⟩:=hy;refine kat_lt hx dx hy dy<|kat_cons<|IZ<|kat_go (fun e=>kat_yes<|kat_cons<|IZ<|kat_go (fun e'=>kat_yes<|kat_nil ?_) fun e'=>kat_no<|kat_one _ _<|lt_int ?_) fun e=>kat_no<|oneLt_int ?_
 ·have e1:k.1=l.1:=by simpa using e
  have e2:k.2=l.2:=by simpa using e'
  have:k=l:=Ib e1 e2;subst this;rw[rl]at h;simpa using h
 ·have e1:k.1=l.1:=by simpa using e
  show Q (decide<|k.2<l.2) s;unfold nk at h;simpa [e1] using h
 ·have e1:¬k.1=l.1:=by simpa using e
  unfold nk at h;simpa [e1] using h
theorem rm{h:Heap}:∀{vs:List CU}{ks:List (Int×Int)},PairsAt h vs ks->∃fs,fs.length=vs.length/\KatTups h vs fs/\∀f∈fs,∃i t,f=IY i t
 | [],ks,P=>⟨[],rfl,trivial,fun f hf=>by cases hf⟩
 |v::vs,ks,P=>by
  obtain⟨k,q1,b,o,t1,t2,n,rfl,q3,q4,q5⟩:=P.at_ 0 v rfl;obtain⟨fs,l1,l2,l3⟩:=rm (h:=h) (vs:=vs) (ks:=ks.drop 1) ⟨by have:=P.len;simp at this ⊢;omega,fun i v e=>by
   obtain⟨k,a1,a2⟩:=P.at_ (i+1) v (by simpa using e);exact⟨k,by rw[Ef,Nat.add_comm];exact a1,a2⟩⟩
  refine⟨.int k.1 t1::fs,by simp[l1],.cons q3 q4 q5 (by simp) l2,fun f hf=>?_⟩;rcases Dh.mp hf with rfl|hf
  ·exact⟨_,_,rfl⟩
  ·exact l3 f hf
end
end Wb
namespace Wb
open PySem PyProof.Rows
abbrev at'(xs:Array Df)(i:Nat):Df:=xs.getD i (En,En)
structure LtOk(M:Jk)(A:DS)(E:CU->CV->Prop)(s:CV)(κ:HD)(U:Df->Prop)(L:Df->Df->Bool):Prop where
 lt:∀(x y:Df)(st:ET)(Q:Option Bool->ET->Prop),U x->U y->kindOf st=κ->Q (some<|L x y) st->wpS M A E s (lt' x y) Q st
 tr:∀x y z,U x->U y->U z->L x y=true->L y z=true->L x z=true
 tot:∀x y,U x->U y->x≠y->L x y=false->L y x=true
 irr:∀x,L x x=false
structure SB(κ:HD)(a0:List Df)(st:ET):Prop where
 kind:kindOf st=κ
 failed:failedOf st=none
 perm:(arrOf st).toList.Perm a0
def Sr(L:Df->Df->Bool)(xs:Array Df)(a b:Nat):Prop:=∀i j,a<=i->i<j->j<b->L (at' xs i) (at' xs j)=true
theorem dC{xs:Array Df}{i:Nat}(h:i<xs.size):xs[i]? =some (at' xs i):=by simp[Fu,h]
theorem fu{xs:Array Df}{i:Nat}(h:i<xs.size):at' xs i=xs.toList[i]'(by simpa using h):=by simp[Fu,h]
section
variable{M:Jk}{A:DS}{E:CU->CV->Prop}{s:CV}{κ:HD}{U:Df->Prop}{L:Df->Df->Bool}{a0:List Df}{st:ET}
theorem SB.size(B:SB κ a0 st):(arrOf st).size=a0.length:=by rw[<-DJ];exact B.perm.length_eq
theorem SB.u(B:SB κ a0 st)(hU:∀x∈a0,U x){i:Nat}(hi:i<a0.length):U (at' (arrOf st) i):=by
 have h:=B.size;rw[fu (by omega)];exact hU _<|B.perm.mem_iff.mp<|FD _
theorem Ax{xs:Array Df}(nd:xs.toList.Nodup){i j:Nat}(hi:i<xs.size)(hj:j<xs.size)(hij:i≠j):at' xs i≠at' xs j:=by
 rw[fu hi,fu hj];have pw:=Fd.mp<|E3.mp nd;rcases Nat.lt_or_gt_of_ne hij with z|z
 ·exact pw i j _ _ z
 ·exact fun e=>pw j i _ _ z e.symm
theorem SB.ne(B:SB κ a0 st)(nd:a0.Nodup){i j:Nat}(hi:i<a0.length)(hj:j<a0.length)(hij:i≠j):at' (arrOf st) i≠at' (arrOf st) j:=by
 have h:=B.size;exact Ax (B.perm.nodup_iff.mpr nd) (by omega) (by omega) hij
theorem SB.set(B:SB κ a0 st){xs:Array Df}(h:xs.Perm (arrOf st)):SB κ a0 (setArr st xs):=⟨B.kind,B.failed,(Array.perm_iff_toList_perm.mp h).trans B.perm⟩
theorem aZ{arr:Array Df}{i:Nat}{Q:Df->ET->Prop}(hi:i<arr.size)(h:Q (at' arr i) st):wpS M A E s (elem' arr i) Q st:=by
 rw[elem'_eq,dC hi];exact De h
theorem iE(O:LtOk M A E s κ U L)(hU:∀x∈a0,U x)(B:SB κ a0 st){i j:Nat}{Q:Option Bool->ET->Prop}(hi:i<a0.length)(hj:j<a0.length)(h:Q (some<|L (at' (arrOf st) i)<|at' (arrOf st) j) st):wpS M A E s (ltAt' i j) Q st:=by
 have hs:=B.size;rw[ltAt'_eq];refine D4 (Hg (D4 (aZ (by omega) (D4 (aZ (by omega) ?_)))));exact O.lt _ _ _ _ (B.u hU hi) (B.u hU hj) B.kind h
theorem sT{xs:Array Df}{src d:Nat}(hs:src<xs.size)(hd:d<=src)(k:Nat):at' (bubble xs src d) k=if k=src-d then at' xs src else if src-d<k/\k<=src then at' xs (k-1)else at' xs k:=by
 simp only[at',DX];rw[getElem?_bubble hs _ hd];split;·rfl
 ·split<;>rfl
theorem sU{xs:Array Df}{i j:Nat}(hj:j<=xs.size)(k:Nat):at' (mirror xs i j<|(j-i)/2) k=if i<=k/\k<j then at' xs (i+j-1-k)else at' xs k:=by
 simp only[at',DX];rw[getElem?_mirror_all hj];split<;>rfl
theorem xl(O:LtOk M A E s κ U L)(hU:∀x∈a0,U x)(nd:a0.Nodup){lo n ok:Nat}{Q:Bool->ET->Prop}(hn:lo+n<=a0.length)(hok:ok<=n)(B:SB κ a0 st)(hs:Sr L (arrOf st) lo (lo+ok))
  (h:∀st',SB κ a0 st'->pendingOf st'=pendingOf st->Sr L (arrOf st') lo (lo+n)->(∀i,i<lo\/lo+n<=i->at' (arrOf st') i=at' (arrOf st) i)->Q true st'):wpS M A E s (binarySort' lo n ok) Q st:=by
 rw[binarySort'_eq];refine D4 (G5 (El (I:=fun k c st'=>c=(none,())/\SB κ a0 st'/\pendingOf st'=pendingOf st/\Sr L (arrOf st') lo (lo+min k n)/\∀i,i<lo\/lo+n<=i->at' (arrOf st') i=at' (arrOf st) i)
  (Q:=fun c st'=>c=(none,())/\SB κ a0 st'/\pendingOf st'=pendingOf st/\Sr L (arrOf st') lo (lo+n)/\∀i,i<lo\/lo+n<=i->at' (arrOf st') i=at' (arrOf st) i) ?step ?fin ?init) ?post)
 case post=>
  rintro c st' ⟨rfl,h1,h2,h3,h4⟩;exact De<|h st' h1 h2 h3 h4
 case init=>
  refine⟨rfl,B,rfl,fun i j h1 h2 h3=>?_,fun i _=>rfl⟩;exact hs i j h1 h2 (by omega)
 case fin=>
  rintro c st' ⟨hc,h1,h2,h3,h4⟩;rw[show min (max (max ok 1) n) n=n by omega]at h3;exact⟨hc,h1,h2,h3,h4⟩
 case step=>
  rintro k c st' hak hkn ⟨rfl,B',hp,hs',hout⟩;rw[show min k n=k by omega]at hs';have hsz:=B'.size;refine D4 (G5 (El (I:=fun x c st''=>st''=st'/\∃l r,c=(none,l,r)/\l<=r/\r<=k/\r-l<=k-x/\
    (∀i,i<l->L (at' (arrOf st') (lo+i)) (at' (arrOf st') (lo+k))=true)/\(∀i,r<=i->i<k->L (at' (arrOf st') (lo+k)) (at' (arrOf st') (lo+i))=true))
   (Q:=fun c st''=>st''=st'/\∃l r,c=(none,l,r)/\l<=k/\
    (∀i,i<l->L (at' (arrOf st') (lo+i)) (at' (arrOf st') (lo+k))=true)/\(∀i,l<=i->i<k->L (at' (arrOf st') (lo+k)) (at' (arrOf st') (lo+i))=true)) ?istep ?ifin ?iinit) ?ipost)
  case iinit=>exact⟨rfl,0,k,rfl,by omega,by omega,by omega,fun i hi=>by omega,fun i h1 h2=>by omega⟩
  case ifin=>
   rintro c st'' ⟨rfl,l,r,rfl,hlr,hrk,hm,hlo,hhi⟩;have:l=r:=by omega
   subst this;exact⟨rfl,l,l,rfl,hrk,hlo,hhi⟩
  case istep=>
   rintro x c st'' _ hxk ⟨rfl,l,r,rfl,hlr,hrk,hm,hlo,hhi⟩;dsimp only;by_cases hge:l≥r
   ·rw[if_pos hge];have:l=r:=by omega
    subst this;exact De ⟨rfl,l,l,rfl,hrk,hlo,hhi⟩
   ·rw[if_neg hge];refine D4 (iE O hU B' (by omega) (by omega) ?_);have uu:∀i,i<=k->U (at' (arrOf st'')<|lo+i):=fun i hi=>B'.u hU (by omega);cases hless:L (at' (arrOf st'')<|lo+k) (at' (arrOf st'')<|lo+(l+r)/2)with
    |true=>
     simp only[if_true];refine De ⟨rfl,l,(l+r)/2,rfl,by omega,by omega,by omega,hlo,fun i h1 h2=>?_⟩;by_cases y:i=(l+r)/2;·rw[y];exact hless
     ·exact O.tr _ _ _ (uu _ (by omega)) (uu _ (by omega)) (uu _ (by omega)) hless (hs' _ _ (by omega) (by omega) (by omega))
    |false=>
     simp only[DA,if_false];have q:=O.tot _ _ (uu _ (by omega)) (uu _ (by omega)) (B'.ne nd (by omega) (by omega) (by omega)) hless;refine De ⟨rfl,(l+r)/2+1,r,rfl,by omega,by omega,by omega,fun i h1=>?_,hhi⟩;by_cases y:i=(l+r)/2;·rw[y];exact q
     ·exact O.tr _ _ _ (uu _ (by omega)) (uu _ (by omega)) (uu _ (by omega)) (hs' _ _ (by omega) (by omega) (by omega)) q
  case ipost=>
   rintro c st'' ⟨rfl,l,r,rfl,hlk,hlo,hhi⟩;show wpS _ _ _ _ (do moveDown' (lo+k) (lo+l);pure (DH (none,()))) _ _;rw[moveDown'_eq];have e1:∀i,at' (bubble (arrOf st'') (lo+k)<|lo+k-(lo+l)) i=if i=lo+l then at' (arrOf st'') (lo+k)else if lo+l<i/\i<=lo+k then at' (arrOf st'') (i-1)else at' (arrOf st'') i:=fun i=>by
    rw[sT (by omega) (by omega),show lo+k-(lo+k-(lo+l))=lo+l by omega]
   refine D4<|F2<|De ⟨rfl,B'.set<|bubble_perm _ _ _,hp,?_,fun i hi=>?_⟩
   ·rw[show min (k+1) n=k+1 by omega];intro i j h1 h2 h3;show L (at' (bubble (arrOf st'') (lo+k)<|lo+k-(lo+l)) i) (at' (bubble (arrOf st'') (lo+k)<|lo+k-(lo+l)) j)=true;rw[e1,e1];have hlo':∀i,lo<=i->i<lo+l->L (at' (arrOf st'') i) (at' (arrOf st'')<|lo+k)=true:=fun i h1 h2=>by
     have:=hlo (i-lo) (by omega);rwa [show lo+(i-lo)=i by omega]at this
    have hhi':∀i,lo+l<=i->i<lo+k->L (at' (arrOf st'')<|lo+k) (at' (arrOf st'') i)=true:=fun i h1 h2=>by
     have:=hhi (i-lo) (by omega) (by omega);rwa [show lo+(i-lo)=i by omega]at this
    repeat' split
    all_goals first
     |(exfalso;omega)
     |exact hlo' _ (by omega) (by omega)
     |exact hhi' _ (by omega) (by omega)
     |exact hs' _ _ (by omega) (by omega) (by omega)
   ·show at' (bubble (arrOf st'') (lo+k)<|lo+k- (lo+l)) i=_;rw[e1,if_neg (by omega),if_neg (by omega)];exact hout i hi
end
section
variable{M:Jk}{A:DS}{E:CU->CV->Prop}{s:CV}{κ:HD}{U:Df->Prop}{L:Df->Df->Bool}{a0:List Df}{st:ET}
theorem Ay(O:LtOk M A E s κ U L)(hU:∀x∈a0,U x)(nd:a0.Nodup){lo nrem n0:Nat}{Q:Option (Option Nat)×Nat->ET->Prop}(hn:lo+nrem<=a0.length)(h1:1<=n0)(h2:n0<=nrem)(B:SB κ a0 st)(hs:Sr L (arrOf st) lo (lo+n0))
  (h:∀n,n0<=n->n<=nrem->Sr L (arrOf st) lo (lo+n)->(n=nrem\/L (at' (arrOf st)<|lo+n) (at' (arrOf st)<|lo+n-1)=true)->Q (none,n) st):
  wpS M A E s (forIn [n0:nrem] ((none:Option (Option Nat)),n0) fun _ c=>do
   let some smaller <-ltAt' (lo+c.2) (lo+c.2-1)|pure (Dy (some none,c.2))
   if smaller=true then pure (Dy (none,c.2))else pure (DH (none,c.2+1))) Q st:=by
 refine El (I:=fun x c st'=>st'=st/\c=(none,x)/\n0<=x/\x<=nrem/\Sr L (arrOf st) lo (lo+x)) ?step ?fin ⟨rfl,rfl,D0 _,h2,hs⟩
 case fin=>
  rintro c st' ⟨rfl,rfl,q1,q2,q3⟩;rw[show max n0 nrem=nrem by omega]at q3 ⊢;exact h nrem h2 (D0 _) q3<|.inl rfl
 case step=>
  rintro x c st' hx1 hx2 ⟨rfl,rfl,q1,q2,q3⟩;dsimp only;have uu:∀i,i<a0.length->U (at' (arrOf st') i):=fun i hi=>B.u hU hi;refine D4 (iE O hU B (by omega) (by omega) ?_);cases hless:L (at' (arrOf st')<|lo+x) (at' (arrOf st')<|lo+x-1)with
  |true=>
   dsimp only;rw[if_pos rfl];exact De<|h x q1 q2 q3<|.inr hless
  |false=>
   dsimp only;rw[if_neg (by decide)];have q:=O.tot _ _ (uu _ (by omega)) (uu _ (by omega)) (B.ne nd (by omega) (by omega) (by omega)) hless;refine De ⟨rfl,rfl,by omega,by omega,fun i j g1 g2 g3=>?_⟩;by_cases z:j<lo+x;·exact q3 i j g1 g2 z
   ·have:j=lo+x:=by omega
    subst this;by_cases y:i=lo+x-1;·rw[y];exact q
    ·exact O.tr _ _ _ (uu _ (by omega)) (uu _ (by omega)) (uu _ (by omega)) (q3 i (lo+x-1) g1 (by omega) (by omega)) q
theorem Az(O:LtOk M A E s κ U L)(hU:∀x∈a0,U x)(nd:a0.Nodup){lo nrem n0:Nat}{Q:Option (Option Nat)×Nat×Nat->ET->Prop}(hn:lo+nrem<=a0.length)(h1:2<=n0)(h2:n0<=nrem)(B:SB κ a0 st)(hs:∀i j,lo<=i->i<j->j<lo+n0->L (at' (arrOf st) j) (at' (arrOf st) i)=true)
  (h:∀n,n0<=n->n<=nrem->(∀i j,lo<=i->i<j->j<lo+n->L (at' (arrOf st) j) (at' (arrOf st) i)=true)->Q (none,n,0) st):
  wpS M A E s (forIn [n0:nrem] ((none:Option (Option Nat)),n0,0) fun _ c=>do
   let some smaller <-ltAt' (lo+c.2.1) (lo+c.2.1-1)|pure (Dy (some none,c.2.1,c.2.2))
   if smaller=true then
    if c.2.2>0 then
     reverseSlice' (lo+c.2.1-(c.2.2+1)) (lo+c.2.1)
     pure (DH (none,c.2.1+1,0))
    else pure (DH (none,c.2.1+1,0))
   else
    let some larger <-ltAt' (lo+c.2.1-1) (lo+c.2.1)|pure (Dy (some none,c.2.1,c.2.2))
    if larger=true then pure (Dy (none,c.2.1,c.2.2))else pure (DH (none,c.2.1+1,c.2.2+1))) Q st:=by
 refine El (I:=fun x c st'=>st'=st/\c=(none,x,0)/\n0<=x/\x<=nrem/\∀i j,lo<=i->i<j->j<lo+x->L (at' (arrOf st) j) (at' (arrOf st) i)=true) ?step ?fin ⟨rfl,rfl,D0 _,h2,hs⟩
 case fin=>
  rintro c st' ⟨rfl,rfl,q1,q2,q3⟩;rw[show max n0 nrem=nrem by omega]at q3 ⊢;exact h nrem h2 (D0 _) q3
 case step=>
  rintro x c st' hx1 hx2 ⟨rfl,rfl,q1,q2,q3⟩;dsimp only;have uu:∀i,i<a0.length->U (at' (arrOf st') i):=fun i hi=>B.u hU hi;refine D4 (iE O hU B (by omega) (by omega) ?_);cases hless:L (at' (arrOf st')<|lo+x) (at' (arrOf st')<|lo+x-1)with
  |true=>
   dsimp only;rw[if_pos rfl,if_neg (by omega)];refine De ⟨rfl,rfl,by omega,by omega,fun i j g1 g2 g3=>?_⟩;by_cases z:j<lo+x;·exact q3 i j g1 g2 z
   ·have:j=lo+x:=by omega
    subst this;by_cases y:i=lo+x-1;·rw[y];exact hless
    ·exact O.tr _ _ _ (uu _ (by omega)) (uu _ (by omega)) (uu _ (by omega)) hless (q3 i (lo+x-1) g1 (by omega) (by omega))
  |false=>
   dsimp only;rw[if_neg (by decide)];have q:=O.tot _ _ (uu _ (by omega)) (uu _ (by omega)) (B.ne nd (by omega) (by omega) (by omega)) hless;refine D4 (iE O hU B (by omega) (by omega) ?_);rw[q];dsimp only;rw[if_pos rfl];exact De<|h x q1 q2 q3
theorem zm(O:LtOk M A E s κ U L)(hU:∀x∈a0,U x)(nd:a0.Nodup){lo nrem:Nat}{Q:Option Nat->ET->Prop}(hn:lo+nrem<=a0.length)(h1:1<=nrem)(B:SB κ a0 st)
  (h:∀n st',1<=n->n<=nrem->SB κ a0 st'->pendingOf st'=pendingOf st->Sr L (arrOf st') lo (lo+n)->(∀i,i<lo\/lo+nrem<=i->at' (arrOf st') i=at' (arrOf st) i)->Q (some n) st'):wpS M A E s (countRun' lo nrem) Q st:=by
 rw[countRun'_eq];refine D4 (Ay O hU nd hn (D0 _) h1 B (fun i j g1 g2 g3=>by omega) fun n n1 n2 n3 n4=>?_);dsimp only;by_cases z:n=nrem
 ·rw[if_pos (by simpa using z)];exact De<|h n st n1 n2 B rfl n3 fun _ _=>rfl
 rw[if_neg (by simpa using z)];have n5:L (at' (arrOf st)<|lo+n) (at' (arrOf st)<|lo+n-1)=true:=n4.resolve_left z;by_cases y:n>1
 ·rw[if_pos y];refine D4 (iE O hU B (by omega) (by omega) ?_);rw[n3 lo (lo+n-1) (D0 _) (by omega) (by omega)];dsimp only;rw[if_pos rfl];exact De<|h n st n1 n2 B rfl n3 fun _ _=>rfl
 rw[if_neg y];have:n=1:=by omega
 subst this;refine D4<|J6<|Fe ⟨rfl,?_⟩;refine D4 (Az O hU nd hn (D0 _) (by omega) B (fun i j g1 g2 g3=>?_) fun m m1 m2 m3=>?_)
 ·have:i=lo/\j=lo+1:=by omega
  rw[this.1,this.2];exact n5
 dsimp only;rw[if_neg (by omega)];rw[reverseSlice'_eq];refine D4<|F2 ?_;have hsz:=B.size;have e1:∀k,at' (mirror (arrOf st) lo (lo+m)<|(lo+m-lo)/2) k=if lo<=k/\k<lo+m then at' (arrOf st) (lo+(lo+m)-1-k)else at' (arrOf st) k:=fun k=>sU (by omega) k;have B2:SB κ a0 (setArr st<|mirror (arrOf st) lo (lo+m)<|(lo+m-lo)/2):=B.set<|mirror_perm _ _ _ _;refine D4 (Ay O hU nd hn (by omega) m2 B2 (fun i j g1 g2 g3=>?_) fun k k1 k2 k3 k4=>?_)
 ·show L (at' (mirror (arrOf st) lo (lo+m)<|(lo+m- lo)/ 2) i) (at' (mirror (arrOf st) lo (lo+m)<|(lo+m- lo)/ 2) j)=true;rw[e1,e1,if_pos (by omega),if_pos (by omega)];exact m3 _ _ (by omega) (by omega) (by omega)
 ·dsimp only;refine De (h k _ (by omega) k2 B2 rfl k3 fun i hi=>?_);show at' (mirror (arrOf st) lo (lo+m)<|(lo+m-lo)/2) i=_;rw[e1,if_neg (by omega)]
end
def dR:Bool->Df->Array Df->Nat->Nat->Nat->StateT ET Sem (Option Nat):=sortPriv%PySem.Builtin.gallop
def yp(left:Bool)(key:Df)(arr:Array Df)(base i:Nat):StateT ET Sem (Option Bool):=do
    let x <-elem' arr (base+i)
    if left then lt' x key else return (<-lt' key x).map (!·)
theorem pO(left:Bool)(key:Df)(arr:Array Df)(base n hint:Nat):dR left key arr base n hint=(do
 let mut lastofs:=0
 let mut ofs:=1
 let mut lo:=0
 let mut hi:=0
 let some right <-yp left key arr base hint|return none
 if right then
  let maxofs:=n-hint
  for _ in [0:n]do
   if ofs≥maxofs then break
   let some more <-yp left key arr base (hint+ofs)|return none
   if !more then break
   lastofs:=ofs
   ofs:=2*ofs+1
  lo:=hint+lastofs+1
  hi:=hint+min ofs maxofs
 else
  let maxofs:=hint+1
  for _ in [0:n]do
   if ofs≥maxofs then break
   let some found <-yp left key arr base (hint-ofs)|return none
   if found then break
   lastofs:=ofs
   ofs:=2*ofs+1
  lo:=hint+1-min ofs maxofs
  hi:=hint-lastofs
 for _ in [0:n]do
  if lo≥hi then break
  let m:=lo+(hi-lo)/2
  let some more <-yp left key arr base m|return none
  if more then lo:=m+1 else hi:=m
 return some hi):=rfl
section
variable{M:Jk}{A:DS}{E:CU->CV->Prop}{s:CV}{κ:HD}{U:Df->Prop}{L:Df->Df->Bool}{st:ET}
def B'(L:Df->Df->Bool)(left:Bool)(key:Df)(arr:Array Df)(base i:Nat):Bool:=if left then L (at' arr<|base+i) key else !L key (at' arr<|base+i)
theorem zo(O:LtOk M A E s κ U L){left:Bool}{key:Df}{arr:Array Df}{base i:Nat}{Q:Option Bool->ET->Prop}(hk:U key)(hu:U (at' arr<|base+i))(hi:base+i<arr.size)(kd:kindOf st=κ)(h:Q (some<|B' L left key arr base i) st):wpS M A E s (yp left key arr base i) Q st:=by
 unfold yp;refine D4<|aZ hi ?_;unfold B' at h;cases left with
 |true=>exact O.lt _ _ _ _ hu hk kd h
 |false=>exact D4<|O.lt _ _ _ _ hk hu kd<|De h
theorem du(O:LtOk M A E s κ U L){left:Bool}{key:Df}{arr:Array Df}{base n hint:Nat}{Q:Option Nat->ET->Prop}(hk:U key)(hu:∀i,i<n->U (at' arr<|base+i))(hz:base+n<=arr.size)(hh:hint<n)(kd:kindOf st=κ)
  (mono:∀i j,i<j->j<n->B' L left key arr base j=true->B' L left key arr base i=true)
  (h:∀k,k<=n->(∀i,i<n->(B' L left key arr base i=true↔i<k))->Q (some k) st):wpS M A E s (dR left key arr base n hint) Q st:=by
 rw[pO];have ask:∀i(R:Option Bool->ET->Prop),i<n->R (some<|B' L left key arr base i) st->wpS M A E s (yp left key arr base i) R st:=fun i R hi hR=>zo O hk (hu i hi) (by omega) kd hR;generalize hB:B' L left key arr base=B at*
 have fin:∀lo hi,lo<=hi->hi<=n->(∀i,i<lo->B i=true)->(∀i,hi<=i->i<n->B i=false)->∀k:Option (Option Nat)×Nat×Nat->StateT ET Sem (Option Nat),(∀l r,k (none,l,r)=pure (some r))->wpS M A E s (do
   let c <-forIn [0:n] ((none:Option (Option Nat)),lo,hi) fun _ c=>do
    if c.2.1≥c.2.2 then pure (Dy (none,c.2.1,c.2.2))else
     let some more <-yp left key arr base (c.2.1+(c.2.2-c.2.1)/2)|pure (Dy (some none,c.2.1,c.2.2))
     if more=true then pure (DH (none,c.2.1+(c.2.2-c.2.1)/2+1,c.2.2))else pure (DH (none,c.2.1,c.2.1+(c.2.2-c.2.1)/2))
   k c) Q st:=by
  intro lo hi hlo hhi h1 h2 k hk';refine D4 (El (I:=fun x c st'=>st'=st/\∃l r,c=(none,l,r)/\l<=r/\r<=n/\r-l<=n-x/\(∀i,i<l->B i=true)/\∀i,r<=i->i<n->B i=false) ?step ?fin ⟨rfl,lo,hi,rfl,hlo,hhi,by omega,h1,h2⟩)
  case fin=>
   rintro c st' ⟨rfl,l,r,rfl,q1,q2,q3,q4,q5⟩;have:l=r:=by omega
   subst this;rw[hk'];refine De<|h l q2 fun i hi=>⟨fun z=>?_,q4 i⟩;by_cases y:i<l;·exact y
   ·rw[q5 i (by omega) hi]at z;cases z
  case step=>
   rintro x c st' _ hx ⟨rfl,l,r,rfl,q1,q2,q3,q4,q5⟩;dsimp only;by_cases z:l≥r
   ·rw[if_pos z];have:l=r:=by omega
    subst this;refine De ?_;show wpS M A E s (k (none,l,l)) Q st';rw[hk'];refine De<|h l q2 fun i hi=>⟨fun z=>?_,q4 i⟩;by_cases y:i<l;·exact y
    ·rw[q5 i (by omega) hi]at z;cases z
   ·rw[if_neg z];refine D4 (ask _ _ (by omega) ?_);cases hm:B (l+(r-l)/2)with
    |true=>
     dsimp only;rw[if_pos rfl];refine De ⟨rfl,_,_,rfl,by omega,q2,by omega,fun i hi=>?_,q5⟩;by_cases y:i=l+(r-l)/2;·rw[y];exact hm
     ·exact mono i _ (by omega) (by omega) hm
    |false=>
     dsimp only;rw[if_neg (by decide)];refine De ⟨rfl,_,_,rfl,by omega,by omega,by omega,q4,fun i h1 h2=>?_⟩;cases e:B i with
     |false=>rfl
     |true=>
      by_cases y:i=l+(r-l)/2;·rw[y]at e;rw[e]at hm;exact hm
      ·rw[mono _ i (by omega) h2 e]at hm;exact hm
 refine D4<|ask hint _ hh ?_;cases hr:B hint with
 |true=>
  dsimp only;rw[if_pos rfl];refine D4<|G5 (El (I:=fun x c st'=>st'=st/\∃la o,c=(none,la,o)/\la<o/\x<o/\hint+la<n/\B (hint+la)=true) (Q:=fun c st'=>st'=st/\∃la o,c=(none,la,o)/\la<o/\hint+la<n/\B (hint+la)=true/\(o≥n-hint\/(hint+o<n/\B (hint+o)=false))) ?step ?fin ?init) ?post
  case init=>exact⟨rfl,0,1,rfl,by omega,by omega,by omega,by simpa using hr⟩
  case fin=>
   rintro c st' ⟨rfl,la,o,rfl,q1,q2,q3,q4⟩;exact⟨rfl,la,o,rfl,q1,q3,q4,.inl (by omega)⟩
  case step=>
   rintro x c st' _ hx ⟨rfl,la,o,rfl,q1,q2,q3,q4⟩;dsimp only;by_cases z:o≥n-hint
   ·rw[if_pos z];exact De ⟨rfl,la,o,rfl,q1,q3,q4,.inl z⟩
   ·rw[if_neg z];refine D4 (ask _ _ (by omega) ?_);cases hm:B (hint+o)with
    |true=>exact De ⟨rfl,o,2*o+1,rfl,by omega,by omega,by omega,hm⟩
    |false=>exact De ⟨rfl,la,o,rfl,q1,q3,q4,.inr ⟨by omega,hm⟩⟩
  case post=>
   rintro c st' ⟨rfl,la,o,rfl,q1,q3,q4,q5⟩;dsimp only;have k1:∀i,i<hint+la+1->B i=true:=fun i hi=>by
    by_cases y:i=hint+la;·rw[y];exact q4
    ·exact mono i _ (by omega) q3 q4
   refine fin (hint+la+1) (hint+min o (n-hint)) (by omega) (by omega) k1 (fun i h1 h2=>?_) _<|fun _ _=>rfl;rcases q5 with q5|⟨q5,q6⟩
   ·omega
   ·cases e:B i with
    |false=>rfl
    |true=>
     by_cases y:i=hint+o;·rw[y]at e;rw[e]at q6;exact q6
     ·rw[mono _ i (by omega) h2 e]at q6;exact q6
 |false=>
  dsimp only;rw[if_neg (by decide)];refine D4<|G5 (El (I:=fun x c st'=>st'=st/\∃la o,c=(none,la,o)/\la<o/\x<o/\la<=hint/\B (hint-la)=false) (Q:=fun c st'=>st'=st/\∃la o,c=(none,la,o)/\la<o/\la<=hint/\B (hint-la)=false/\(o≥hint+1\/(o<=hint/\B (hint-o)=true))) ?step ?fin ?init) ?post
  case init=>exact⟨rfl,0,1,rfl,by omega,by omega,by omega,by simpa using hr⟩
  case fin=>
   rintro c st' ⟨rfl,la,o,rfl,q1,q2,q3,q4⟩;exact⟨rfl,la,o,rfl,q1,q3,q4,.inl (by omega)⟩
  case step=>
   rintro x c st' _ hx ⟨rfl,la,o,rfl,q1,q2,q3,q4⟩;dsimp only;by_cases z:o≥hint+1
   ·rw[if_pos z];exact De ⟨rfl,la,o,rfl,q1,q3,q4,.inl z⟩
   ·rw[if_neg z];refine D4 (ask _ _ (by omega) ?_);cases hm:B (hint-o)with
    |true=>exact De ⟨rfl,la,o,rfl,q1,q3,q4,.inr ⟨by omega,hm⟩⟩
    |false=>exact De ⟨rfl,o,2*o+1,rfl,by omega,by omega,by omega,hm⟩
  case post=>
   rintro c st' ⟨rfl,la,o,rfl,q1,q3,q4,q5⟩;dsimp only;refine fin (hint+1-min o (hint+1)) (hint-la) (by omega) (by omega) (fun i hi=>?_) (fun i h1 h2=>?_) _<|fun _ _=>rfl
   ·rcases q5 with q5 | ⟨q5,q6⟩
    ·omega
    ·by_cases y:i=hint- o;·rw[y];exact q6
     ·exact mono i _ (by omega) (by omega) q6
   ·cases e:B i with
    |false=>rfl
    |true=>
     by_cases y:i=hint-la;·rw[y]at e;rw[e]at q4;exact q4
     ·rw[mono _ i (by omega) h2 e]at q4;exact q4
end
def ext'(xs:Array Df)(a b:Nat):List Df:=(xs.extract a b).toList
theorem dN(xs:Array Df)(a b:Nat):ext' xs a b=(xs.toList.drop a).take (b-a):=by unfold ext';rw[Array.toList_extract,List.extract_eq_drop_take]
theorem bW{xs:Array Df}{a b:Nat}(hb:b<=xs.size){x:Df}:x∈ext' xs a b↔∃i,a<=i/\i<b/\x=at' xs i:=by
 rw[dN,Hk];constructor
 ·rintro ⟨i,hi⟩;have hlt:i<b-a:=by
   have:=(D5.mp hi).1;simp at this;omega
  rw[E1 hlt,Ef,Dd,dC (by omega)]at hi;cases hi;exact⟨a+i,by omega,by omega,rfl⟩
 ·rintro ⟨i,h1,h2,rfl⟩;refine⟨i-a,?_⟩;rw[E1 (by omega),Ef,Dd,show a+(i-a)=i by omega,dC (by omega)]
theorem gK{L:Df->Df->Bool}{xs:Array Df}{a b lo hi:Nat}(h:Sr L xs lo hi)(ha:lo<=a)(hb:b<=hi)(hs:hi<=xs.size):(ext' xs a b).Pairwise (fun x y=>L x y=true):=by
 rw[dN,Fd];intro i j hi' hj hij;have hj':j<b-a:=by simp at hj;omega
 have e:∀k,k<b-a->(h':k<((xs.toList.drop a).take (b-a)).length)->((xs.toList.drop a).take (b-a))[k]=at' xs (a+k):=fun k hk h'=>by
  have:=CZ h';rw[E1 hk,Ef,Dd,dC (by omega)]at this;exact(DM this).symm
 rw[e i (by omega),e j hj'];exact h _ _ (by omega) (by omega) (by omega)
theorem fI{xs:Array Df}{a b:Nat}(hb:b<xs.size)(hab:a<=b):ext' xs a (b+1)=ext' xs a b++[at' xs b]:=by
 rw[dN,dN,show b+1-a=(b-a)+1 by omega,List.take_succ,Ef,Dd,show a+(b-a)=b by omega,dC hb];rfl
theorem dD{xs:Array Df}{a b c:Nat}(h1:a<=b)(h2:b<=c):ext' xs a c=ext' xs a b++ext' xs b c:=by
 rw[dN,dN,dN,show c-a=(b-a)+(c-b) by omega,List.take_add,Ll,show a+(b-a)=b by omega]
theorem iF(xs:Array Df):ext' xs 0 xs.size=xs.toList:=by rw[dN,JM,Nat.sub_zero,<-DJ,List.take_length]
theorem dU(xs:Array Df)(a:Nat):ext' xs a a=[]:=by rw[dN];simp
structure JL(L:Df->Df->Bool)(a b out:Array Df)(ia ib:Nat):Prop where
 pm:out.toList.Perm (ext' a 0 ia++ext' b 0 ib)
 so:out.toList.Pairwise (fun x y=>L x y=true)
 lo:∀x∈out.toList,(∀i,ia<=i->i<a.size->L x (at' a i)=true)/\∀j,ib<=j->j<b.size->L x (at' b j)=true
section
variable{L:Df->Df->Bool}{a b out:Array Df}{ia ib:Nat}
theorem JL.takeA(J:JL L a b out ia ib)(sa:Sr L a 0 a.size){k:Nat}(hk:ia+k<=a.size)(h:∀i,ia<=i->i<ia+k->∀j,ib<=j->j<b.size->L (at' a i) (at' b j)=true){out':Array Df}(ho:out'.toList=out.toList++ext' a ia (ia+k)):JL L a b out' (ia+k) ib:=by
 refine⟨?_,?_,fun x hx=>?_⟩
 ·rw[ho,dD (xs:=a) (Dt ia)<|Ep ia k,Dq];refine(Ey _ J.pm).trans ?_;rw[Dq];exact EF _ FI
 ·rw[ho,EK];refine⟨J.so,gK sa (Dt _) (by omega)<|D0 _,fun x hx y hy=>?_⟩;obtain⟨i,h1,h2,rfl⟩:=(bW (by omega)).mp hy;exact(J.lo x hx).1 i h1 (by omega)
 ·rw[ho]at hx;rcases DY.mp hx with hx|hx
  ·exact⟨fun i h1 h2=>(J.lo x hx).1 i (by omega) h2,(J.lo x hx).2⟩
  ·obtain⟨i,h1,h2,rfl⟩:=(bW (by omega)).mp hx;exact⟨fun i' h3 h4=>sa i i' (by omega) (by omega) h4,h i h1 h2⟩
theorem JL.takeB(J:JL L a b out ia ib)(sb:Sr L b 0 b.size){k:Nat}(hk:ib+k<=b.size)(h:∀j,ib<=j->j<ib+k->∀i,ia<=i->i<a.size->L (at' b j) (at' a i)=true){out':Array Df}(ho:out'.toList=out.toList++ext' b ib (ib+k)):JL L a b out' ia (ib+k):=by
 refine⟨?_,?_,fun x hx=>?_⟩
 ·rw[ho,dD (xs:=b) (Dt ib)<|Ep ib k,<-Dq];exact Ey _ J.pm
 ·rw[ho,EK];refine⟨J.so,gK sb (Dt _) (by omega)<|D0 _,fun x hx y hy=>?_⟩;obtain⟨i,h1,h2,rfl⟩:=(bW (by omega)).mp hy;exact(J.lo x hx).2 i h1 (by omega)
 ·rw[ho]at hx;rcases DY.mp hx with hx|hx
  ·exact⟨(J.lo x hx).1,fun i h1 h2=>(J.lo x hx).2 i (by omega) h2⟩
  ·obtain⟨i,h1,h2,rfl⟩:=(bW (by omega)).mp hx;exact⟨h i h1 h2,fun i' h3 h4=>sb i i' (by omega) (by omega) h4⟩
theorem JL.fin(J:JL L a b out ia ib)(sa:Sr L a 0 a.size)(sb:Sr L b 0 b.size)(ha:ia<=a.size)(hb:ib<=b.size)(h:∀j,ib<=j->j<b.size->∀i,ia<=i->i<a.size->L (at' b j) (at' a i)=true){r:List Df}(hr:r=out.toList++ext' b ib b.size++ext' a ia a.size):
  r.Perm (a.toList++b.toList)/\r.Pairwise (fun x y=>L x y=true):=by
 subst hr;constructor
 ·have e1:a.toList=ext' a 0 ia++ext' a ia a.size:=by rw[<-dD (Dt _) ha,iF]
  have e2:b.toList=ext' b 0 ib++ext' b ib b.size:=by rw[<-dD (Dt _) hb,iF]
  rw[e1,e2];refine(Ey _<|Ey _ J.pm).trans ?_;generalize ext' a 0 ia=p;generalize ext' a ia a.size=q;generalize ext' b 0 ib=u;generalize ext' b ib b.size=v;rw[Dq p,Dq p,Dq p];refine EF _ ?_;exact FI
 ·rw[Dq,EK,EK];refine⟨J.so,⟨gK sb (Dt _) (D0 _)<|D0 _,gK sa (Dt _) (D0 _)<|D0 _,fun x hx y hy=>?_⟩,fun x hx y hy=>?_⟩
  ·obtain⟨j,h1,h2,rfl⟩:=(bW<|D0 _).mp hx;obtain⟨i,h3,h4,rfl⟩:=(bW<|D0 _).mp hy;exact h j h1 h2 i h3 h4
  ·rcases DY.mp hy with hy | hy
   ·obtain⟨j,h1,h2,rfl⟩:=(bW<|D0 _).mp hy;exact(J.lo x hx).2 j h1 h2
   ·obtain⟨j,h1,h2,rfl⟩:=(bW<|D0 _).mp hy;exact(J.lo x hx).1 j h1 h2
end
def kL:Array Df->Array Df->StateT ET Sem (Array Df):=sortPriv%PySem.Builtin.mergeLo
def iG(g:Nat):StateT ET Sem Unit:=modify fun st=>Gz (kindOf st) (arrOf st) (pendingOf st) g<|failedOf st
theorem ou(a b:Array Df):kL a b=(do
 rule "list.sort.merge-lo"
 let total:=a.size+b.size
 let done (out:Array Df) (ia ib:Nat):=out++a.extract ia a.size++b.extract ib b.size
 let lastOfA (out:Array Df) (ia ib:Nat):=out++b.extract ib b.size++a.extract ia a.size
 let mut out:Array Df:= #[<-elem' b 0]
 let mut ia:=0
 let mut ib:=1
 if ib==b.size then return done out ia ib
 if ia+1==a.size then return lastOfA out ia ib
 let mut minGallop:=gallopOf (<-get)
 for _ in [0:total]do
  let mut acount:=0
  let mut bcount:=0
  for _ in [0:total]do
   let some bWins <-lt' (<-elem' b ib) (<-elem' a ia)|return done out ia ib
   if bWins then
    out:=out.push<|<-elem' b ib;ib:=ib+1;bcount:=bcount+1;acount:=0
    if ib==b.size then return done out ia ib
    if bcount≥minGallop then break
   else
    out:=out.push<|<-elem' a ia;ia:=ia+1;acount:=acount+1;bcount:=0
    if ia+1==a.size then return lastOfA out ia ib
    if acount≥minGallop then break
  rule "list.sort.gallop"
  minGallop:=minGallop+1
  for _ in [0:total]do
   if minGallop>1 then minGallop:=minGallop-1
   iG minGallop
   let some k <-dR false (<-elem' b ib) a ia (a.size-ia) 0|return done out ia ib
   acount:=k
   if k>0 then
    out:=out++a.extract ia (ia+k);ia:=ia+k
    if ia+1==a.size then return lastOfA out ia ib
    if ia==a.size then return done out ia ib
   out:=out.push<|<-elem' b ib;ib:=ib+1
   if ib==b.size then return done out ia ib
   let some k <-dR true (<-elem' a ia) b ib (b.size-ib) 0|return done out ia ib
   bcount:=k
   if k>0 then
    out:=out++b.extract ib (ib+k);ib:=ib+k
    if ib==b.size then return done out ia ib
   out:=out.push<|<-elem' a ia;ia:=ia+1
   if ia+1==a.size then return lastOfA out ia ib
   if acount<7&&bcount<7 then break
  minGallop:=minGallop+1
  iG minGallop
 unsupported "internal:list.sort.merge-bound"):=rfl
section
variable{M:Jk}{A:DS}{E:CU->CV->Prop}{s:CV}{κ:HD}{U:Df->Prop}{L:Df->Df->Bool}{st:ET}
def cF(st st':ET):Prop:=kindOf st'=kindOf st/\arrOf st'=arrOf st/\pendingOf st'=pendingOf st/\failedOf st'=failedOf st
theorem pP(O:LtOk M A E s κ U L){a b:Array Df}{Q:Array Df->ET->Prop}(kd:kindOf st=κ)(ua:∀i,i<a.size->U (at' a i))(ub:∀i,i<b.size->U (at' b i))(na:0<a.size)(nb:0<b.size)(sa:Sr L a 0 a.size)(sb:Sr L b 0 b.size)
  (ne:∀i j,i<a.size->j<b.size->at' a i≠at' b j) (h0:L (at' b 0) (at' a 0)=true) (h1:∀j,j<b.size->L (at' b j) (at' a<|a.size-1)=true)
  (h:∀r st',cF st st'->r.toList.Perm (a.toList++b.toList)->r.toList.Pairwise (fun x y=>L x y=true)->Q r st'):wpS M A E s (kL a b) Q st:=by
 rw[ou];refine D4<|J6<|Fe ⟨rfl,?_⟩;dsimp only;refine D4<|aZ nb ?_;have J0:JL L a b #[at' b 0] 0 1:=by
  refine⟨?_,GY _ _,fun x hx=>?_⟩;·rw[dU,fI (a:=0) (b:=0) nb<|D0 _,dU];exact .refl _
  ·have:x=at' b 0:=by simpa using hx
   subst this;refine⟨fun i h2 h3=>?_,fun j h2 h3=>sb 0 j (D0 _) (by omega) h3⟩;by_cases z:i=0;·rw[z];exact h0
   ·exact O.tr _ _ _ (ub 0 nb) (ua 0 na) (ua i h3) h0 (sa 0 i (D0 _) (by omega) h3)
 have endB:∀(out:Array Df)ia ib st',cF st st'->JL L a b out ia ib->ia<=a.size->ib=b.size->Q (out++a.extract ia a.size++b.extract ib b.size) st':=fun out ia ib st' al J h2 h3=>by
  subst h3;have:=J.fin sa sb h2 (D0 _) (fun j h3 h4=>by omega) (r:=(out++a.extract ia a.size++b.extract b.size b.size).toList) (by
   rw[DZ,DZ];show out.toList++ext' a ia a.size++ext' b b.size b.size=_;rw[dU,EN,EN])
  exact h _ st' al this.1 this.2
 have endA:∀(out:Array Df)ia ib st',cF st st'->JL L a b out ia ib->ib<=b.size->ia+1=a.size->Q (out++b.extract ib b.size++a.extract ia a.size) st':=fun out ia ib st' al J h2 h3=>by
  have:=J.fin sa sb (by omega) h2 (fun j h4 h5 i h6 h7=>by
   have:i=a.size-1:=by omega
   rw[this];exact h1 j h5) (r:=(out++b.extract ib b.size++a.extract ia a.size).toList) (by rw[DZ,DZ];rfl)
  exact h _ st' al this.1 this.2
 have al0:cF st st:=⟨rfl,rfl,rfl,rfl⟩
 by_cases z1:1=b.size
 ·rw[if_pos (by simpa using z1)];exact De<|endB _ 0 1 st al0 J0 (Dt _) z1
 rw[if_neg (by simpa using z1)];by_cases z2:0+1=a.size
 ·rw[if_pos (by simpa using z2)];exact De (endA _ 0 1 st al0 J0 (by omega) z2)
 rw[if_neg (by simpa using z2)];refine D4<|Hg ?_;refine D4<|G5 (El (I:=fun x c st'=>cF st st'/\∃out ia ib g,c=(none,out,ia,ib,g)/\JL L a b out ia ib/\ia+1<a.size/\ib<b.size/\x+1<=ia+ib) (Q:=fun c st'=>cF st st'/\∃r rest,c=(some r,rest)/\Q r st') ?step ?fin ?init) ?post
 case init=>exact⟨al0,_,_,_,_,rfl,J0,by omega,by omega,by omega⟩
 case fin=>
  rintro c st' ⟨al,out,ia,ib,g,rfl,J,q1,q2,q3⟩;omega
 case post=>
  rintro c st' ⟨al,r,rest,rfl,hq⟩;exact De hq
 case step=>
  rintro x c st1 _ hx ⟨al,out,ia,ib,g,rfl,J,q1,q2,q3⟩;dsimp only;refine D4 (G5 (El (I:=fun y c st'=>st'=st1/\∃out ia ib ac bc,c=(none,out,ia,ib,ac,bc)/\JL L a b out ia ib/\ia+1<a.size/\ib<b.size/\x+1+y<=ia+ib)
   (Q:=fun c st'=>st'=st1/\((∃r rest,c=(some r,rest)/\Q r st')\/∃out ia ib ac bc,c=(none,out,ia,ib,ac,bc)/\JL L a b out ia ib/\ia+1<a.size/\ib<b.size/\x+2<=ia+ib)) ?step1 ?fin1 ?init1) ?post1)
  case init1=>exact⟨rfl,_,_,_,_,_,rfl,J,q1,q2,by omega⟩
  case fin1=>
   rintro c st' ⟨rfl,out,ia,ib,ac,bc,rfl,J,q1,q2,q3⟩;exact⟨rfl,.inr ⟨_,_,_,_,_,rfl,J,q1,q2,by omega⟩⟩
  case step1=>
   rintro y c st' _ hy ⟨rfl,out,ia,ib,ac,bc,rfl,J,q1,q2,q3⟩;dsimp only;refine D4 (aZ q2 (D4 (aZ (by omega) (D4 (O.lt _ _ _ _ (ub _ q2) (ua _ (by omega)) (al.1.trans kd) ?_)))));cases hw:L (at' b ib) (at' a ia)with
   |true=>
    dsimp only;rw[if_pos rfl];refine D4<|aZ q2 ?_;have J':JL L a b (out.push<|at' b ib) ia (ib+1):=J.takeB sb (k:=1) (by omega) (fun j h2 h3 i h4 h5=>by
     have:j=ib:=by omega
     subst this;by_cases z:i=ia;·rw[z];exact hw
     ·exact O.tr _ _ _ (ub _ q2) (ua _ (by omega)) (ua _ h5) hw (sa ia i (by omega) (by omega) h5)) (by rw[Ft,fI q2 (D0 _),dU];rfl)
    by_cases z:ib+1=b.size
    ·rw[if_pos (by simpa using z)];exact De ⟨rfl,.inl ⟨_,_,rfl,endB _ ia (ib+1) _ al J' (by omega) z⟩⟩
    ·rw[if_neg (by simpa using z)];by_cases w:bc+1≥g;·rw[if_pos w];exact De ⟨rfl,.inr ⟨_,_,_,_,_,rfl,J',q1,by omega,by omega⟩⟩
     ·rw[if_neg w];exact De ⟨rfl,_,_,_,_,_,rfl,J',q1,by omega,by omega⟩
   |false=>
    dsimp only;rw[if_neg (by decide)];refine D4 (aZ (by omega) ?_);have hw':=O.tot _ _ (ub _ q2) (ua _ (by omega)) (fun e=>ne ia ib (by omega) q2 e.symm) hw;have J':JL L a b (out.push<|at' a ia) (ia+1) ib:=J.takeA sa (k:=1) (by omega) (fun i h2 h3 j h4 h5=>by
     have:i=ia:=by omega
     subst this;by_cases z:j=ib;·rw[z];exact hw'
     ·exact O.tr _ _ _ (ua _ (by omega)) (ub _ q2) (ub _ h5) hw' (sb ib j (by omega) (by omega) h5)) (by rw[Ft,fI (by omega) (D0 _),dU];rfl)
    by_cases z:ia+1+1=a.size
    ·rw[if_pos (by simpa using z)];exact De ⟨rfl,.inl ⟨_,_,rfl,endA _ (ia+1) ib _ al J' (by omega) z⟩⟩
    ·rw[if_neg (by simpa using z)];by_cases w:ac+1≥g;·rw[if_pos w];exact De ⟨rfl,.inr ⟨_,_,_,_,_,rfl,J',by omega,by omega,by omega⟩⟩
     ·rw[if_neg w];exact De ⟨rfl,_,_,_,_,_,rfl,J',by omega,by omega,by omega⟩
  case post1=>
   rintro c st' ⟨rfl,⟨r,rest,rfl,hq⟩|⟨out,ia,ib,ac,bc,rfl,J,q1,q2,q3⟩⟩;·exact De ⟨al,_,_,rfl,hq⟩
   dsimp only;refine D4<|J6<|Fe ⟨rfl,?_⟩;refine D4 (G5 (El (I:=fun y c st'=>cF st st'/\∃out ia ib g ac bc,c=(none,out,ia,ib,g,ac,bc)/\JL L a b out ia ib/\ia+1<a.size/\ib<b.size/\x+2<=ia+ib)
    (Q:=fun c st'=>cF st st'/\((∃r rest,c=(some r,rest)/\Q r st')\/∃out ia ib g ac bc,c=(none,out,ia,ib,g,ac,bc)/\JL L a b out ia ib/\ia+1<a.size/\ib<b.size/\x+2<=ia+ib)) ?step2 ?fin2 ?init2) ?post2)
   case init2=>exact⟨al,_,_,_,_,_,_,rfl,J,q1,q2,q3⟩
   case fin2=>exact fun c st'⟨al,out,ia,ib,g,ac,bc,e,J,q1,q2,q3⟩=>⟨al,.inr ⟨out,ia,ib,g,ac,bc,e,J,q1,q2,q3⟩⟩
   case post2=>
    rintro c st' ⟨al,⟨r,rest,rfl,hq⟩|⟨out,ia,ib,g,ac,bc,rfl,J,q1,q2,q3⟩⟩;·exact De ⟨al,_,_,rfl,hq⟩
    ·dsimp only;refine D4 (F2 (De ⟨al,_,_,_,_,rfl,J,q1,q2,by omega⟩))
   case step2=>
    rintro y c st' _ hy ⟨al,out,ia,ib,g,ac,bc,rfl,J,q1,q2,q3⟩;dsimp only
    let C:=Option (Array Df)×Array Df×Nat×Nat×Nat×Nat×Nat
    let R:ForInStep C->ET->Prop:=fun r st'=>match r with
     | .done c=>cF st st'/\((∃r rest,c=(some r,rest)/\Q r st')\/∃out ia ib g ac bc,c=(none,out,ia,ib,g,ac,bc)/\JL L a b out ia ib/\ia+1<a.size/\ib<b.size/\x+2<=ia+ib)
     | .yield c=>cF st st'/\∃out ia ib g ac bc,c=(none,out,ia,ib,g,ac,bc)/\JL L a b out ia ib/\ia+1<a.size/\ib<b.size/\x+2<=ia+ib
    have pC:∀(out:Array Df)ia ib g k k1 st',cF st st'->JL L a b out ia ib->ia+1<a.size->ib<b.size->x+2<=ia+ib->L (at' a ia) (at' b ib)=true->wpS M A E s (do
      let x <-elem' a ia
      if(ia+1+1==a.size)=true then pure (Dy (some<|out.push x++b.extract ib b.size++a.extract (ia+1) a.size,out.push x,ia+1,ib,g,k,k1))
      else if(decide (k<7)&&decide (k1<7))=true then pure (Dy (none,out.push x,ia+1,ib,g,k,k1))
      else pure (DH (none,out.push x,ia+1,ib,g,k,k1))) R st':=by
     intro out ia ib g k k1 st' al J q1 q2 q3 hab;refine D4 (aZ (by omega) ?_);have J':JL L a b (out.push<|at' a ia) (ia+1) ib:=J.takeA sa (k:=1) (by omega) (fun i h2 h3 j h4 h5=>by
      have:i=ia:=by omega
      subst this;by_cases z:j=ib;·rw[z];exact hab
      ·exact O.tr _ _ _ (ua _ (by omega)) (ub _ q2) (ub _ h5) hab (sb ib j (by omega) (by omega) h5)) (by rw[Ft,fI (by omega) (D0 _),dU];rfl)
     by_cases z:ia+1+1=a.size
     ·rw[if_pos (by simpa using z)];exact De ⟨al,.inl ⟨_,_,rfl,endA _ (ia+1) ib _ al J' (by omega) z⟩⟩
     ·rw[if_neg (by simpa using z)];by_cases w:(decide (k<7)&&decide (k1<7))=true;·rw[if_pos w];exact De ⟨al,.inr ⟨_,_,_,_,_,_,rfl,J',by omega,by omega,by omega⟩⟩
      ·rw[if_neg w];exact De ⟨al,_,_,_,_,_,_,rfl,J',by omega,by omega,by omega⟩
    have pB:∀(out:Array Df)ia ib g k bc st',cF st st'->JL L a b out ia ib->ia+1<a.size->ib<b.size->x+2<=ia+ib->L (at' b ib) (at' a ia)=true->wpS M A E s (do
      let x <-elem' b ib
      if(ib+1==b.size)=true then pure (Dy (some<|out.push x++a.extract ia a.size++b.extract (ib+1) b.size,out.push x,ia,ib+1,g,k,bc))
      else
       let y <-elem' a ia
       let some k1 <-dR true y b (ib+1) (b.size-(ib+1)) 0|pure (Dy (some<|out.push x++a.extract ia a.size++b.extract (ib+1) b.size,out.push x,ia,ib+1,g,k,bc))
       if k1>0 then
        if(ib+1+k1==b.size)=true then pure (Dy (some<|out.push x++b.extract (ib+1) (ib+1+k1)++a.extract ia a.size++b.extract (ib+1+k1) b.size,out.push x++b.extract (ib+1) (ib+1+k1),ia,ib+1+k1,g,k,k1))
        else
         let z <-elem' a ia
         if(ia+1+1==a.size)=true then pure (Dy (some<|(out.push x++b.extract (ib+1) (ib+1+k1)).push z++b.extract (ib+1+k1) b.size++a.extract (ia+1) a.size,(out.push x++b.extract (ib+1) (ib+1+k1)).push z,ia+1,ib+1+k1,g,k,k1))
         else if(decide (k<7)&&decide (k1<7))=true then pure (Dy (none,(out.push x++b.extract (ib+1) (ib+1+k1)).push z,ia+1,ib+1+k1,g,k,k1))
         else pure (DH (none,(out.push x++b.extract (ib+1) (ib+1+k1)).push z,ia+1,ib+1+k1,g,k,k1))
       else
        let z <-elem' a ia
        if(ia+1+1==a.size)=true then pure (Dy (some<|(out.push x).push z++b.extract (ib+1) b.size++a.extract (ia+1) a.size,(out.push x).push z,ia+1,ib+1,g,k,k1))
        else if(decide (k<7)&&decide (k1<7))=true then pure (Dy (none,(out.push x).push z,ia+1,ib+1,g,k,k1))
        else pure (DH (none,(out.push x).push z,ia+1,ib+1,g,k,k1))) R st':=by
     intro out ia ib g k bc st' al J q1 q2 q3 hba;refine D4<|aZ q2 ?_;have J':JL L a b (out.push<|at' b ib) ia (ib+1):=J.takeB sb (k:=1) (by omega) (fun j h2 h3 i h4 h5=>by
      have:j=ib:=by omega
      subst this;by_cases z:i=ia;·rw[z];exact hba
      ·exact O.tr _ _ _ (ub _ q2) (ua _ (by omega)) (ua _ h5) hba (sa ia i (by omega) (by omega) h5)) (by rw[Ft,fI q2 (D0 _),dU];rfl)
     by_cases z:ib+1=b.size
     ·rw[if_pos (by simpa using z)];exact De ⟨al,.inl ⟨_,_,rfl,endB _ ia (ib+1) _ al J' (by omega) z⟩⟩
     rw[if_neg (by simpa using z)];refine D4 (aZ (by omega) (D4 (du O (ua _ (by omega)) (fun i hi=>ub _ (by omega)) (by omega) (by omega) (al.1.trans kd) (fun i j hij hj hB=>?_) fun k1 hk1 hB=>?_)))
     ·show L (at' b<|ib+1+i) (at' a ia)=true;exact O.tr _ _ _ (ub _ (by omega)) (ub _ (by omega)) (ua _ (by omega)) (sb (ib+1+i) (ib+1+j) (by omega) (by omega) (by omega)) hB
     have hB':∀i,i<b.size-(ib+1)->(L (at' b<|ib+1+i) (at' a ia)=true↔i<k1):=hB;dsimp only;have J2:JL L a b (out.push (at' b ib)++b.extract (ib+1) (ib+1+k1)) ia (ib+1+k1):=J'.takeB sb (by omega) (fun j h2 h3 i h4 h5=>by
      have e:=(hB' (j-(ib+1)) (by omega)).mpr (by omega);rw[show ib+1+(j-(ib+1))=j by omega]at e;by_cases w:i=ia;·rw[w];exact e
      ·exact O.tr _ _ _ (ub _ (by omega)) (ua _ (by omega)) (ua _ h5) e (sa ia i (by omega) (by omega) h5)) (by rw[DZ];rfl)
     have ab:ib+1+k1<b.size->L (at' a ia) (at' b<|ib+1+k1)=true:=fun hlt=>by
      refine O.tot _ _ (ub _ hlt) (ua _ (by omega)) (fun e=>ne ia _ (by omega) hlt e.symm) ?_;cases e:L (at' b<|ib+1+k1) (at' a ia)with
      |false=>rfl
      |true=>exact absurd ((hB' k1 (by omega)).mp e) (by omega)
     by_cases w:k1>0
     ·rw[if_pos w];by_cases v:ib+1+k1=b.size
      ·rw[if_pos (by simpa using v)];exact De ⟨al,.inl ⟨_,_,rfl,endB _ ia (ib+1+k1) _ al J2 (by omega) v⟩⟩
      ·rw[if_neg (by simpa using v)];exact pC _ _ _ _ _ _ _ al J2 q1 (by omega) (by omega) (ab (by omega))
     ·rw[if_neg w];have:k1=0:=by omega
      subst this;exact pC _ _ _ _ _ _ _ al J' q1 (by omega) (by omega) (ab (by omega))
    by_cases w:g>1
    ·rw[if_pos w];refine D4 (F2 (D4 (aZ q2 (D4 (du O (ub _ q2) (fun i hi=>ua _ (by omega)) (by omega) (by omega) (al.1.trans kd) (fun i j hij hj hB=>?_) fun k hk hB=>?_)))))
     ·have hB':(!L (at' b ib) (at' a<|ia+j))=true:=hB;show(!L (at' b ib) (at' a<|ia+i))=true;cases e:L (at' b ib) (at' a<|ia+i)with
      |false=>rfl
      |true=>
       rw[O.tr _ _ _ (ub _ q2) (ua _ (by omega)) (ua _ (by omega)) e (sa (ia+i) (ia+j) (by omega) (by omega) (by omega))]at hB';exact hB'
     have hB':∀i,i<a.size-ia->((!L (at' b ib) (at' a<|ia+i))=true↔i<k):=hB;have hk1:ia+k+1<=a.size:=by
      by_cases v:a.size-1-ia<k
      ·have e:=(hB' (a.size- 1- ia) (by omega)).mpr v;rw[show ia+(a.size-1-ia)=a.size-1 by omega,h1 ib q2]at e;cases e
      ·omega
     dsimp only;have J1:JL L a b (out++a.extract ia (ia+k)) (ia+k) ib:=J.takeA sa (by omega) (fun i h2 h3 j h4 h5=>by
      have e:=(hB' (i-ia) (by omega)).mpr (by omega);rw[show ia+(i-ia)=i by omega]at e;have e2:=O.tot _ _ (ub _ q2) (ua _ (by omega)) (fun e=>ne i ib (by omega) q2 e.symm) (by simpa using e);by_cases v:j=ib;·rw[v];exact e2
      ·exact O.tr _ _ _ (ua _ (by omega)) (ub _ q2) (ub _ h5) e2 (sb ib j (by omega) (by omega) h5)) (by rw[DZ];rfl)
     have hba:L (at' b ib) (at' a<|ia+k)=true:=by
      cases e:L (at' b ib) (at' a<|ia+k)with
      |true=>rfl
      |false=>exact absurd ((hB' k (by omega)).mp (by rw[e];rfl)) (by omega)
     by_cases v:k>0
     ·rw[if_pos v];by_cases u:ia+k+1=a.size
      ·rw[if_pos (by simpa using u)];exact De ⟨al,.inl ⟨_,_,rfl,endA _ (ia+k) ib _ al J1 (by omega) u⟩⟩
      ·rw[if_neg (by simpa using u),if_neg (by simp;omega)];exact pB _ _ _ _ _ _ _ al J1 (by omega) q2 (by omega) hba
     ·rw[if_neg v];have:k=0:=by omega
      subst this;exact pB _ _ _ _ _ _ _ al J q1 q2 (by omega) hba
    ·rw[if_neg w];refine D4 (F2 (D4 (aZ q2 (D4 (du O (ub _ q2) (fun i hi=>ua _ (by omega)) (by omega) (by omega) (al.1.trans kd) (fun i j hij hj hB=>?_) fun k hk hB=>?_)))))
     ·have hB':(!L (at' b ib) (at' a<|ia+j))=true:=hB;show(!L (at' b ib) (at' a<|ia+i))=true;cases e:L (at' b ib) (at' a<|ia+i)with
      |false=>rfl
      |true=>
       rw[O.tr _ _ _ (ub _ q2) (ua _ (by omega)) (ua _ (by omega)) e (sa (ia+i) (ia+j) (by omega) (by omega) (by omega))]at hB';exact hB'
     have hB':∀i,i<a.size-ia->((!L (at' b ib) (at' a<|ia+i))=true↔i<k):=hB;have hk1:ia+k+1<=a.size:=by
      by_cases v:a.size-1-ia<k
      ·have e:=(hB' (a.size- 1- ia) (by omega)).mpr v;rw[show ia+(a.size-1-ia)=a.size-1 by omega,h1 ib q2]at e;cases e
      ·omega
     dsimp only;have J1:JL L a b (out++a.extract ia (ia+k)) (ia+k) ib:=J.takeA sa (by omega) (fun i h2 h3 j h4 h5=>by
      have e:=(hB' (i-ia) (by omega)).mpr (by omega);rw[show ia+(i-ia)=i by omega]at e;have e2:=O.tot _ _ (ub _ q2) (ua _ (by omega)) (fun e=>ne i ib (by omega) q2 e.symm) (by simpa using e);by_cases v:j=ib;·rw[v];exact e2
      ·exact O.tr _ _ _ (ua _ (by omega)) (ub _ q2) (ub _ h5) e2 (sb ib j (by omega) (by omega) h5)) (by rw[DZ];rfl)
     have hba:L (at' b ib) (at' a<|ia+k)=true:=by
      cases e:L (at' b ib) (at' a<|ia+k)with
      |true=>rfl
      |false=>exact absurd ((hB' k (by omega)).mp (by rw[e];rfl)) (by omega)
     by_cases v:k>0
     ·rw[if_pos v];by_cases u:ia+k+1=a.size
      ·rw[if_pos (by simpa using u)];exact De ⟨al,.inl ⟨_,_,rfl,endA _ (ia+k) ib _ al J1 (by omega) u⟩⟩
      ·rw[if_neg (by simpa using u),if_neg (by simp;omega)];exact pB _ _ _ _ _ _ _ al J1 (by omega) q2 (by omega) hba
     ·rw[if_neg v];have:k=0:=by omega
      subst this;exact pB _ _ _ _ _ _ _ al J q1 q2 (by omega) hba
end
def kM:Array Df->Array Df->StateT ET Sem (Array Df):=sortPriv%PySem.Builtin.mergeHi
theorem oz(a b:Array Df):kM a b=(do
 rule "list.sort.merge-hi"
 let total:=a.size+b.size
 let done (out:Array Df) (na nb:Nat):=a.extract 0 na++b.extract 0 nb++out.reverse
 let firstOfB (out:Array Df) (na nb:Nat):=b.extract 0 nb++a.extract 0 na++out.reverse
 let mut na:=a.size-1
 let mut nb:=b.size
 let mut out:Array Df:= #[<-elem' a na]
 if na==0 then return done out na nb
 if nb==1 then return firstOfB out na nb
 let mut minGallop:=gallopOf (<-get)
 for _ in [0:total]do
  let mut acount:=0
  let mut bcount:=0
  for _ in [0:total]do
   let some aWins <-lt' (<-elem' b (nb-1)) (<-elem' a (na-1))|return done out na nb
   if aWins then
    na:=na-1;out:=out.push<|<-elem' a na;acount:=acount+1;bcount:=0
    if na==0 then return done out na nb
    if acount≥minGallop then break
   else
    nb:=nb-1;out:=out.push<|<-elem' b nb;bcount:=bcount+1;acount:=0
    if nb==1 then return firstOfB out na nb
    if bcount≥minGallop then break
  rule "list.sort.gallop"
  minGallop:=minGallop+1
  for _ in [0:total]do
   if minGallop>1 then minGallop:=minGallop-1
   iG minGallop
   let some at_ <-dR false (<-elem' b (nb-1)) a 0 na (na-1)|return done out na nb
   let k:=na-at_
   acount:=k
   if k>0 then
    out:=out++(a.extract at_ na).reverse;na:=at_
    if na==0 then return done out na nb
   nb:=nb-1;out:=out.push (<-elem' b nb)
   if nb==1 then return firstOfB out na nb
   let some at_ <-dR true (<-elem' a (na-1)) b 0 nb (nb-1)|return done out na nb
   let k:=nb-at_
   bcount:=k
   if k>0 then
    out:=out++(b.extract at_ nb).reverse;nb:=at_
    if nb==1 then return firstOfB out na nb
    if nb==0 then return done out na nb
   na:=na-1;out:=out.push (<-elem' a na)
   if na==0 then return done out na nb
   if acount<7&&bcount<7 then break
  minGallop:=minGallop+1
  iG minGallop
 unsupported "internal:list.sort.merge-bound"):=rfl
structure JH(L:Df->Df->Bool)(a b out:Array Df)(na nb:Nat):Prop where
 pm:out.toList.reverse.Perm (ext' a na a.size++ext' b nb b.size)
 so:out.toList.reverse.Pairwise (fun x y=>L x y=true)
 hi:∀x∈out.toList,(∀i,i<na->L (at' a i) x=true)/\∀j,j<nb->L (at' b j) x=true
section
variable{L:Df->Df->Bool}{a b out:Array Df}{na nb:Nat}
theorem JH.takeA(J:JH L a b out na nb)(sa:Sr L a 0 a.size)(hn:na<=a.size){m:Nat}(hm:m<=na)(h:∀i,m<=i->i<na->∀j,j<nb->L (at' b j) (at' a i)=true){out':Array Df}(ho:out'.toList.reverse=ext' a m na++out.toList.reverse):JH L a b out' m nb:=by
 have mem:∀x,x∈out'.toList↔x∈ext' a m na\/x∈out.toList:=fun x=>by rw[<-Fg,ho,DY,Fg]
 refine⟨?_,?_,fun x hx=>?_⟩
 ·rw[ho,dD (xs:=a) hm hn,Dq];exact EF _ J.pm
 ·rw[ho,EK];refine⟨gK sa (Dt _) hn<|D0 _,J.so,fun x hx y hy=>?_⟩;obtain⟨i,h1,h2,rfl⟩:=(bW hn).mp hx;exact(J.hi y<|Fg.mp hy).1 i h2
 ·rcases (mem x).mp hx with hx | hx
  ·obtain⟨i,h1,h2,rfl⟩:=(bW hn).mp hx;exact⟨fun i' h3=>sa i' i (Dt _) (by omega) (by omega),h i h1 h2⟩
  ·exact⟨fun i h1=>(J.hi x hx).1 i (by omega),(J.hi x hx).2⟩
theorem JH.takeB(J:JH L a b out na nb)(sb:Sr L b 0 b.size)(hn:nb<=b.size){m:Nat}(hm:m<=nb)(h:∀j,m<=j->j<nb->∀i,i<na->L (at' a i) (at' b j)=true){out':Array Df}(ho:out'.toList.reverse=ext' b m nb++out.toList.reverse):JH L a b out' na m:=by
 have mem:∀x,x∈out'.toList↔x∈ext' b m nb\/x∈out.toList:=fun x=>by rw[<-Fg,ho,DY,Fg]
 refine⟨?_,?_,fun x hx=>?_⟩
 ·rw[ho,dD (xs:=b) hm hn];refine(EF _ J.pm).trans ?_;rw[<-Dq,<-Dq];exact Ey _ FI
 ·rw[ho,EK];refine⟨gK sb (Dt _) hn<|D0 _,J.so,fun x hx y hy=>?_⟩;obtain⟨i,h1,h2,rfl⟩:=(bW hn).mp hx;exact(J.hi y<|Fg.mp hy).2 i h2
 ·rcases (mem x).mp hx with hx | hx
  ·obtain⟨i,h1,h2,rfl⟩:=(bW hn).mp hx;exact⟨h i h1 h2,fun i' h3=>sb i' i (Dt _) (by omega) (by omega)⟩
  ·exact⟨(J.hi x hx).1,fun i h1=>(J.hi x hx).2 i (by omega)⟩
theorem JH.fin(J:JH L a b out na nb)(sa:Sr L a 0 a.size)(sb:Sr L b 0 b.size)(ha:na<=a.size)(hb:nb<=b.size)(h:∀j,j<nb->∀i,i<na->L (at' b j) (at' a i)=true){r:List Df}(hr:r=ext' b 0 nb++ext' a 0 na++out.toList.reverse):
  r.Perm (a.toList++b.toList)/\r.Pairwise (fun x y=>L x y=true):=by
 subst hr;constructor
 ·have e1:a.toList=ext' a 0 na++ext' a na a.size:=by rw[<-dD (Dt _) ha,iF]
  have e2:b.toList=ext' b 0 nb++ext' b nb b.size:=by rw[<-dD (Dt _) hb,iF]
  rw[e1,e2];refine(EF _ J.pm).trans ?_;generalize ext' a 0 na=p;generalize ext' a na a.size=q;generalize ext' b 0 nb=u;generalize ext' b nb b.size=v;refine(Ey (q++v)<|FI (l₁:=u) (l₂:=p)).trans ?_;rw[Dq,Dq];refine EF _ ?_;rw[<-Dq,<-Dq];exact Ey _ FI
 ·rw[Dq,EK,EK];refine⟨gK sb (Dt _) hb<|D0 _,⟨gK sa (Dt _) ha<|D0 _,J.so,fun x hx y hy=>?_⟩,fun x hx y hy=>?_⟩
  ·obtain⟨i,h1,h2,rfl⟩:=(bW ha).mp hx;exact(J.hi y<|Fg.mp hy).1 i h2
  ·obtain⟨j,h1,h2,rfl⟩:=(bW hb).mp hx;rcases DY.mp hy with hy|hy
   ·obtain⟨i,h3,h4,rfl⟩:=(bW ha).mp hy;exact h j h2 i h4
   ·exact(J.hi y<|Fg.mp hy).2 j h2
end
section
variable{M:Jk}{A:DS}{E:CU->CV->Prop}{s:CV}{κ:HD}{U:Df->Prop}{L:Df->Df->Bool}{st:ET}
theorem oA(out:Array Df)(x:Df):(out.push x).toList.reverse=x::out.toList.reverse:=by rw[Ft,JV];rfl
theorem mT(out xs:Array Df):(out++xs.reverse).toList.reverse=xs.toList++out.toList.reverse:=by rw[DZ,JV,HE,List.reverse_reverse]
theorem mU{xs:Array Df}{i:Nat}(h:0<i)(hi:i<=xs.size):ext' xs (i-1) i=[at' xs (i-1)]:=by
 have:=fI (xs:=xs) (a:=i-1) (b:=i-1) (by omega)<|D0 _;rw[show i-1+1=i by omega,dU]at this;exact this
theorem pQ(O:LtOk M A E s κ U L){a b:Array Df}{Q:Array Df->ET->Prop}(kd:kindOf st=κ)(ua:∀i,i<a.size->U (at' a i))(ub:∀i,i<b.size->U (at' b i))(za:0<a.size)(zb:0<b.size)(sa:Sr L a 0 a.size)(sb:Sr L b 0 b.size)
  (ne:∀i j,i<a.size->j<b.size->at' a i≠at' b j) (h0:L (at' b 0) (at' a 0)=true) (h1:∀j,j<b.size->L (at' b j) (at' a<|a.size-1)=true)
  (h:∀r st',cF st st'->r.toList.Perm (a.toList++b.toList)->r.toList.Pairwise (fun x y=>L x y=true)->Q r st'):wpS M A E s (kM a b) Q st:=by
 have b0:∀i,i<a.size->L (at' b 0) (at' a i)=true:=fun i hi=>by
  by_cases z:i=0;·rw[z];exact h0
  ·exact O.tr _ _ _ (ub 0 zb) (ua 0 za) (ua i hi) h0 (sa 0 i (D0 _) (by omega) hi)
 rw[oz];refine D4<|J6<|Fe ⟨rfl,?_⟩;dsimp only;refine D4 (aZ (by omega) ?_);have J0:JH L a b #[at' a (a.size-1)] (a.size-1) b.size:=by
  refine⟨?_,GY _ _,fun x hx=>?_⟩;·rw[mU za<|D0 _,dU];exact .refl _
  ·have:x=at' a (a.size- 1):=by simpa using hx
   subst this;exact⟨fun i h2=>sa i _ (Dt _) h2 (by omega),fun j h2=>h1 j h2⟩
 have endA:∀(out:Array Df)na nb st',cF st st'->JH L a b out na nb->nb<=b.size->na=0->Q (a.extract 0 na++b.extract 0 nb++out.reverse) st':=fun out na nb st' al J h2 h3=>by
  subst h3;have:=J.fin sa sb (Dt _) h2 (fun j h3 i h4=>by omega) (r:=(a.extract 0 0++b.extract 0 nb++out.reverse).toList) (by
   rw[DZ,DZ,HE];show ext' a 0 0++ext' b 0 nb++out.toList.reverse=_;rw[dU,GP,EN])
  exact h _ st' al this.1 this.2
 have endB:∀(out:Array Df)na nb st',cF st st'->JH L a b out na nb->na<=a.size->nb=1->Q (b.extract 0 nb++a.extract 0 na++out.reverse) st':=fun out na nb st' al J h2 h3=>by
  have:=J.fin sa sb h2 (by omega) (fun j h4 i h5=>by
   have:j=0:=by omega
   rw[this];exact b0 i (by omega)) (r:=(b.extract 0 nb++a.extract 0 na++out.reverse).toList) (by rw[DZ,DZ,HE];rfl)
  exact h _ st' al this.1 this.2
 have al0:cF st st:=⟨rfl,rfl,rfl,rfl⟩
 by_cases z1:a.size-1=0
 ·rw[if_pos (by simpa using z1)];exact De<|endA _ _ _ st al0 J0 (D0 _) z1
 rw[if_neg (by simpa using z1)];by_cases z2:b.size=1
 ·rw[if_pos (by simpa using z2)];exact De (endB _ _ _ st al0 J0 (by omega) z2)
 rw[if_neg (by simpa using z2)];refine D4<|Hg ?_;refine D4<|G5 (El (I:=fun x c st'=>cF st st'/\∃na nb out g,c=(none,na,nb,out,g)/\JH L a b out na nb/\0<na/\1<nb/\na<=a.size/\nb<=b.size/\na+nb+x+1<=a.size+b.size) (Q:=fun c st'=>cF st st'/\∃r rest,c=(some r,rest)/\Q r st') ?step ?fin ?init) ?post
 case init=>exact⟨al0,_,_,_,_,rfl,J0,by omega,by omega,by omega,by omega,by omega⟩
 case fin=>
  rintro c st' ⟨al,na,nb,out,g,rfl,J,q1,q2,q3,q4,q5⟩;omega
 case post=>
  rintro c st' ⟨al,r,rest,rfl,hq⟩;exact De hq
 case step=>
  rintro x c st1 _ hx ⟨al,na,nb,out,g,rfl,J,q1,q2,q3,q4,q5⟩;dsimp only;have ta:∀(out:Array Df)na nb,JH L a b out na nb->0<na->na<=a.size->0<nb->nb<=b.size->L (at' b<|nb-1) (at' a<|na-1)=true->JH L a b (out.push<|at' a<|na-1) (na-1) nb:=fun out na nb J q1 q3 q2 q4 hw=>
   J.takeA sa q3 (m:=na-1) (by omega) (fun i h2 h3 j h4=>by
    have:i=na-1:=by omega
    subst this;by_cases z:j=nb-1;·rw[z];exact hw
    ·exact O.tr _ _ _ (ub _ (by omega)) (ub _ (by omega)) (ua _ (by omega)) (sb j (nb-1) (Dt _) (by omega) (by omega)) hw) (by rw[oA,mU q1 q3];rfl)
  have tb:∀(out:Array Df)na nb,JH L a b out na nb->0<nb->nb<=b.size->na<=a.size->(∀i,i<na->L (at' a i) (at' b<|nb-1)=true)->JH L a b (out.push<|at' b<|nb-1) na (nb-1):=fun out na nb J q1 q3 q4 hw=>
   J.takeB sb q3 (m:=nb-1) (by omega) (fun j h2 h3 i h4=>by
    have:j=nb-1:=by omega
    subst this;exact hw i h4) (by rw[oA,mU q1 q3];rfl)
  refine D4 (G5 (El (I:=fun y c st'=>st'=st1/\∃na nb out ac bc,c=(none,na,nb,out,ac,bc)/\JH L a b out na nb/\0<na/\1<nb/\na<=a.size/\nb<=b.size/\na+nb+x+y+1<=a.size+b.size)
   (Q:=fun c st'=>st'=st1/\((∃r rest,c=(some r,rest)/\Q r st')\/∃na nb out ac bc,c=(none,na,nb,out,ac,bc)/\JH L a b out na nb/\0<na/\1<nb/\na<=a.size/\nb<=b.size/\na+nb+x+2<=a.size+b.size)) ?step1 ?fin1 ?init1) ?post1)
  case init1=>exact⟨rfl,_,_,_,_,_,rfl,J,q1,q2,q3,q4,by omega⟩
  case fin1=>
   rintro c st' ⟨rfl,na,nb,out,ac,bc,rfl,J,q1,q2,q3,q4,q5⟩;exact⟨rfl,.inr ⟨_,_,_,_,_,rfl,J,q1,q2,q3,q4,by omega⟩⟩
  case step1=>
   rintro y c st' _ hy ⟨rfl,na,nb,out,ac,bc,rfl,J,q1,q2,q3,q4,q5⟩;dsimp only;refine D4 (aZ (by omega) (D4 (aZ (by omega) (D4 (O.lt _ _ _ _ (ub _ (by omega)) (ua _ (by omega)) (al.1.trans kd) ?_)))));cases hw:L (at' b<|nb-1) (at' a<|na-1)with
   |true=>
    dsimp only;rw[if_pos rfl];refine D4 (aZ (by omega) ?_);have J':=ta out na nb J q1 q3 (by omega) q4 hw;by_cases z:na-1=0
    ·rw[if_pos (by simpa using z)];exact De ⟨rfl,.inl ⟨_,_,rfl,endA _ _ _ _ al J' q4 z⟩⟩
    ·rw[if_neg (by simpa using z)];by_cases w:ac+1≥g;·rw[if_pos w];exact De ⟨rfl,.inr ⟨_,_,_,_,_,rfl,J',by omega,q2,by omega,q4,by omega⟩⟩
     ·rw[if_neg w];exact De ⟨rfl,_,_,_,_,_,rfl,J',by omega,q2,by omega,q4,by omega⟩
   |false=>
    dsimp only;rw[if_neg (by decide)];refine D4 (aZ (by omega) ?_);have hw':=O.tot _ _ (ub _ (by omega)) (ua _ (by omega)) (fun e=>ne (na-1) (nb-1) (by omega) (by omega) e.symm) hw;have J':=tb out na nb J (by omega) q4 q3 (fun i hi=>by
     by_cases z:i=na-1;·rw[z];exact hw'
     ·exact O.tr _ _ _ (ua _ (by omega)) (ua _ (by omega)) (ub _ (by omega)) (sa i (na-1) (Dt _) (by omega) (by omega)) hw')
    by_cases z:nb-1=1
    ·rw[if_pos (by simpa using z)];exact De ⟨rfl,.inl ⟨_,_,rfl,endB _ _ _ _ al J' q3 z⟩⟩
    ·rw[if_neg (by simpa using z)];by_cases w:bc+1≥g;·rw[if_pos w];exact De ⟨rfl,.inr ⟨_,_,_,_,_,rfl,J',q1,by omega,q3,by omega,by omega⟩⟩
     ·rw[if_neg w];exact De ⟨rfl,_,_,_,_,_,rfl,J',q1,by omega,q3,by omega,by omega⟩
  case post1=>
   rintro c st' ⟨rfl,⟨r,rest,rfl,hq⟩|⟨na,nb,out,ac,bc,rfl,J,q1,q2,q3,q4,q5⟩⟩;·exact De ⟨al,_,_,rfl,hq⟩
   dsimp only;refine D4<|J6<|Fe ⟨rfl,?_⟩;refine D4 (G5 (El (I:=fun y c st'=>cF st st'/\∃na nb out g ac bc,c=(none,na,nb,out,g,ac,bc)/\JH L a b out na nb/\0<na/\1<nb/\na<=a.size/\nb<=b.size/\na+nb+x+2<=a.size+b.size)
    (Q:=fun c st'=>cF st st'/\((∃r rest,c=(some r,rest)/\Q r st')\/∃na nb out g ac bc,c=(none,na,nb,out,g,ac,bc)/\JH L a b out na nb/\0<na/\1<nb/\na<=a.size/\nb<=b.size/\na+nb+x+2<=a.size+b.size)) ?step2 ?fin2 ?init2) ?post2)
   case init2=>exact⟨al,_,_,_,_,_,_,rfl,J,q1,q2,q3,q4,q5⟩
   case fin2=>exact fun c st'⟨al,na,nb,out,g,ac,bc,e,J,q⟩=>⟨al,.inr ⟨na,nb,out,g,ac,bc,e,J,q⟩⟩
   case post2=>
    rintro c st' ⟨al,⟨r,rest,rfl,hq⟩|⟨na,nb,out,g,ac,bc,rfl,J,q1,q2,q3,q4,q5⟩⟩;·exact De ⟨al,_,_,rfl,hq⟩
    ·dsimp only;refine D4 (F2 (De ⟨al,_,_,_,_,rfl,J,q1,q2,q3,q4,by omega⟩))
   case step2=>
    rintro y c st' _ hy ⟨al,na,nb,out,g,ac,bc,rfl,J,q1,q2,q3,q4,q5⟩;dsimp only
    let C:=Option (Array Df)×Nat×Nat×Array Df×Nat×Nat×Nat
    let R:ForInStep C->ET->Prop:=fun r st'=>match r with
     | .done c=>cF st st'/\((∃r rest,c=(some r,rest)/\Q r st')\/∃na nb out g ac bc,c=(none,na,nb,out,g,ac,bc)/\JH L a b out na nb/\0<na/\1<nb/\na<=a.size/\nb<=b.size/\na+nb+x+2<=a.size+b.size)
     | .yield c=>cF st st'/\∃na nb out g ac bc,c=(none,na,nb,out,g,ac,bc)/\JH L a b out na nb/\0<na/\1<nb/\na<=a.size/\nb<=b.size/\na+nb+x+2<=a.size+b.size
    have pC:∀(out:Array Df)na nb g k k1 st',cF st st'->JH L a b out na nb->0<na->1<nb->na<=a.size->nb<=b.size->na+nb+x+2<=a.size+b.size->L (at' b<|nb-1) (at' a<|na-1)=true->wpS M A E s (do
      let x <-elem' a (na-1)
      if(na-1==0)=true then pure (Dy (some<|a.extract 0 (na-1)++b.extract 0 nb++(out.push x).reverse,na-1,nb,out.push x,g,k,k1))
      else if(decide (k<7)&&decide (k1<7))=true then pure (Dy (none,na-1,nb,out.push x,g,k,k1))
      else pure (DH (none,na-1,nb,out.push x,g,k,k1))) R st':=by
     intro out na nb g k k1 st' al J q1 q2 q3 q4 q5 hba;refine D4 (aZ (by omega) ?_);have J':=ta out na nb J q1 q3 (by omega) q4 hba;by_cases z:na-1=0
     ·rw[if_pos (by simpa using z)];exact De ⟨al,.inl ⟨_,_,rfl,endA _ _ _ _ al J' q4 z⟩⟩
     ·rw[if_neg (by simpa using z)];by_cases w:(decide (k<7)&&decide (k1<7))=true;·rw[if_pos w];exact De ⟨al,.inr ⟨_,_,_,_,_,_,rfl,J',by omega,q2,by omega,q4,by omega⟩⟩
      ·rw[if_neg w];exact De ⟨al,_,_,_,_,_,_,rfl,J',by omega,q2,by omega,q4,by omega⟩
    have pB:∀(out:Array Df)na nb g k bc st',cF st st'->JH L a b out na nb->0<na->1<nb->na<=a.size->nb<=b.size->na+nb+x+2<=a.size+b.size->(∀i,i<na->L (at' a i) (at' b<|nb-1)=true)->wpS M A E s (do
      let x <-elem' b (nb-1)
      if(nb-1==1)=true then pure (Dy (some<|b.extract 0 (nb-1)++a.extract 0 na++(out.push x).reverse,na,nb-1,out.push x,g,k,bc))
      else
       let y <-elem' a (na-1)
       let some m <-dR true y b 0 (nb-1) (nb-1-1)|pure (Dy (some<|a.extract 0 na++b.extract 0 (nb-1)++(out.push x).reverse,na,nb-1,out.push x,g,k,bc))
       if nb-1-m>0 then
        if(m==1)=true then pure (Dy (some<|b.extract 0 m++a.extract 0 na++(out.push x++(b.extract m<|nb-1).reverse).reverse,na,m,out.push x++(b.extract m<|nb-1).reverse,g,k,nb-1-m))
        else if(m==0)=true then pure (Dy (some<|a.extract 0 na++b.extract 0 m++(out.push x++(b.extract m<|nb-1).reverse).reverse,na,m,out.push x++(b.extract m<|nb-1).reverse,g,k,nb-1-m))
        else
         let z <-elem' a (na-1)
         if(na-1==0)=true then pure (Dy (some<|a.extract 0 (na-1)++b.extract 0 m++((out.push x++(b.extract m<|nb-1).reverse).push z).reverse,na-1,m,(out.push x++(b.extract m<|nb-1).reverse).push z,g,k,nb-1-m))
         else if(decide (k<7)&&decide (nb-1-m<7))=true then pure (Dy (none,na-1,m,(out.push x++(b.extract m<|nb-1).reverse).push z,g,k,nb-1-m))
         else pure (DH (none,na-1,m,(out.push x++(b.extract m<|nb-1).reverse).push z,g,k,nb-1-m))
       else
        let z <-elem' a (na-1)
        if(na-1==0)=true then pure (Dy (some<|a.extract 0 (na-1)++b.extract 0 (nb-1)++((out.push x).push z).reverse,na-1,nb-1,(out.push x).push z,g,k,nb-1-m))
        else if(decide (k<7)&&decide (nb-1-m<7))=true then pure (Dy (none,na-1,nb-1,(out.push x).push z,g,k,nb-1-m))
        else pure (DH (none,na-1,nb-1,(out.push x).push z,g,k,nb-1-m))) R st':=by
     intro out na nb g k bc st' al J q1 q2 q3 q4 q5 hab;refine D4 (aZ (by omega) ?_);have J':=tb out na nb J (by omega) q4 q3 hab;by_cases z:nb-1=1
     ·rw[if_pos (by simpa using z)];exact De ⟨al,.inl ⟨_,_,rfl,endB _ _ _ _ al J' q3 z⟩⟩
     rw[if_neg (by simpa using z)];refine D4 (aZ (by omega) (D4 (du O (ua _ (by omega)) (fun i hi=>ub _ (by omega)) (by omega) (by omega) (al.1.trans kd) (fun i j hij hj hB=>?_) fun m hm hB=>?_)))
     ·have hB':L (at' b<|0+j) (at' a<|na- 1)=true:=hB;show L (at' b<|0+i) (at' a<|na-1)=true;rw[Fy]at hB' ⊢;exact O.tr _ _ _ (ub _ (by omega)) (ub _ (by omega)) (ua _ (by omega)) (sb i j (Dt _) hij (by omega)) hB'
     have hB':∀i,i<nb-1->(L (at' b i) (at' a<|na-1)=true↔i<m):=fun i hi=>by
      have e:L (at' b<|0+i) (at' a<|na-1)=true↔i<m:=hB i hi
      rwa [Fy]at e
     have m1:1<=m:=(hB' 0 (by omega)).mp (b0 _ (by omega));dsimp only;have J2:JH L a b (out.push (at' b<|nb-1)++(b.extract m<|nb-1).reverse) na m:=J'.takeB sb (by omega) hm (fun j h2 h3 i h4=>by
      have e:L (at' b j) (at' a<|na-1)=false:=by
       cases e:L (at' b j) (at' a<|na-1)with
       |false=>rfl
       |true=>exact absurd ((hB' j h3).mp e) (by omega)
      have e2:=O.tot _ _ (ub _ (by omega)) (ua _ (by omega)) (fun e=>ne (na-1) j (by omega) (by omega) e.symm) e;by_cases w:i=na-1;·rw[w];exact e2
      ·exact O.tr _ _ _ (ua _ (by omega)) (ua _ (by omega)) (ub _ (by omega)) (sa i (na-1) (Dt _) (by omega) (by omega)) e2) (by rw[mT];rfl)
     have ba:L (at' b<|m-1) (at' a<|na-1)=true:=(hB' (m-1) (by omega)).mpr (by omega);by_cases w:nb-1-m>0
     ·rw[if_pos w];by_cases v:m=1
      ·rw[if_pos (by simpa using v)];exact De ⟨al,.inl ⟨_,_,rfl,endB _ _ _ _ al J2 q3 v⟩⟩
      ·rw[if_neg (by simpa using v),if_neg (by simp;omega)];exact pC _ _ _ _ _ _ _ al J2 q1 (by omega) q3 (by omega) (by omega) ba
     ·rw[if_neg w];have:m=nb-1:=by omega
      subst this;exact pC _ _ _ _ _ _ _ al J' q1 (by omega) q3 (by omega) (by omega) ba
    by_cases w:g>1
    ·rw[if_pos w];refine D4 (F2 (D4 (aZ (by omega) (D4 (du O (ub _ (by omega)) (fun i hi=>ua _ (by omega)) (by omega) (by omega) (al.1.trans kd) (fun i j hij hj hB=>?_) fun m hm hB=>?_)))))
     ·have hB':(!L (at' b<|nb- 1) (at' a<|0+j))=true:=hB;show(!L (at' b<|nb-1) (at' a<|0+i))=true;rw[Fy]at hB' ⊢;cases e:L (at' b<|nb-1) (at' a i)with
      |false=>rfl
      |true=>
       rw[O.tr _ _ _ (ub _ (by omega)) (ua _ (by omega)) (ua _ (by omega)) e (sa i j (Dt _) hij (by omega))]at hB';exact hB'
     have hB':∀i,i<na->((!L (at' b<|nb-1) (at' a i))=true↔i<m):=fun i hi=>by
      have e:(!L (at' b<|nb-1) (at' a<|0+i))=true↔i<m:=hB i hi
      rwa [Fy]at e
     dsimp only;have J1:JH L a b (out++(a.extract m na).reverse) m nb:=J.takeA sa q3 hm (fun i h2 h3 j h4=>by
      have e:L (at' b<|nb-1) (at' a i)=true:=by
       cases e:L (at' b<|nb-1) (at' a i)with
       |true=>rfl
       |false=>exact absurd ((hB' i h3).mp (by rw[e];rfl)) (by omega)
      by_cases v:j=nb-1;·rw[v];exact e
      ·exact O.tr _ _ _ (ub _ (by omega)) (ub _ (by omega)) (ua _ (by omega)) (sb j (nb-1) (Dt _) (by omega) (by omega)) e) (by rw[mT];rfl)
     have hab:∀i,i<m->L (at' a i) (at' b<|nb-1)=true:=fun i hi=>by
      have e:=(hB' i (by omega)).mpr hi;exact O.tot _ _ (ub _ (by omega)) (ua _ (by omega)) (fun e=>ne i (nb-1) (by omega) (by omega) e.symm) (by simpa using e)
     by_cases v:na-m>0
     ·rw[if_pos v];by_cases u:m=0
      ·rw[if_pos (by simpa using u)];exact De ⟨al,.inl ⟨_,_,rfl,endA _ _ _ _ al J1 q4 u⟩⟩
      ·rw[if_neg (by simpa using u)];exact pB _ _ _ _ _ _ _ al J1 (by omega) q2 (by omega) q4 (by omega) hab
     ·rw[if_neg v];have:m=na:=by omega
      subst this;exact pB _ _ _ _ _ _ _ al J q1 q2 q3 q4 (by omega) hab
    ·rw[if_neg w];refine D4 (F2 (D4 (aZ (by omega) (D4 (du O (ub _ (by omega)) (fun i hi=>ua _ (by omega)) (by omega) (by omega) (al.1.trans kd) (fun i j hij hj hB=>?_) fun m hm hB=>?_)))))
     ·have hB':(!L (at' b<|nb- 1) (at' a<|0+j))=true:=hB;show(!L (at' b<|nb-1) (at' a<|0+i))=true;rw[Fy]at hB' ⊢;cases e:L (at' b<|nb-1) (at' a i)with
      |false=>rfl
      |true=>
       rw[O.tr _ _ _ (ub _ (by omega)) (ua _ (by omega)) (ua _ (by omega)) e (sa i j (Dt _) hij (by omega))]at hB';exact hB'
     have hB':∀i,i<na->((!L (at' b<|nb-1) (at' a i))=true↔i<m):=fun i hi=>by
      have e:(!L (at' b<|nb-1) (at' a<|0+i))=true↔i<m:=hB i hi
      rwa [Fy]at e
     dsimp only;have J1:JH L a b (out++(a.extract m na).reverse) m nb:=J.takeA sa q3 hm (fun i h2 h3 j h4=>by
      have e:L (at' b<|nb-1) (at' a i)=true:=by
       cases e:L (at' b<|nb-1) (at' a i)with
       |true=>rfl
       |false=>exact absurd ((hB' i h3).mp (by rw[e];rfl)) (by omega)
      by_cases v:j=nb-1;·rw[v];exact e
      ·exact O.tr _ _ _ (ub _ (by omega)) (ub _ (by omega)) (ua _ (by omega)) (sb j (nb-1) (Dt _) (by omega) (by omega)) e) (by rw[mT];rfl)
     have hab:∀i,i<m->L (at' a i) (at' b<|nb-1)=true:=fun i hi=>by
      have e:=(hB' i (by omega)).mpr hi;exact O.tot _ _ (ub _ (by omega)) (ua _ (by omega)) (fun e=>ne i (nb-1) (by omega) (by omega) e.symm) (by simpa using e)
     by_cases v:na-m>0
     ·rw[if_pos v];by_cases u:m=0
      ·rw[if_pos (by simpa using u)];exact De ⟨al,.inl ⟨_,_,rfl,endA _ _ _ _ al J1 q4 u⟩⟩
      ·rw[if_neg (by simpa using u)];exact pB _ _ _ _ _ _ _ al J1 (by omega) q2 (by omega) q4 (by omega) hab
     ·rw[if_neg v];have:m=na:=by omega
      subst this;exact pB _ _ _ _ _ _ _ al J q1 q2 q3 q4 (by omega) hab
end
def gL:Nat->StateT ET Sem Bool:=sortPriv%PySem.Builtin.mergeAt
def putAt(xs:Array Df)(off:Nat)(m:Array Df):Array Df:=m.toList.zipIdx.foldl (fun a(x:Df×Nat)=>a.setIfInBounds (off+x.2) x.1) xs
theorem oB(i:Nat):gL i=(do
 let s <-get
 let (some (sa,na,power),some (sb,nb,_)):=((pendingOf s)[i]?,(pendingOf s)[i+1]?)|unsupported "internal:list.sort.pending"
 set (Gz (kindOf s) (arrOf s) (((pendingOf s).setIfInBounds i (sa,na+nb,power)).eraseIdxIfInBounds (i+1)) (gallopOf s)<|failedOf s)
 let some k <-dR false (<-elem' (arrOf s) sb) (arrOf s) sa na 0|return false
 let (sa,na):=(sa+k,na-k)
 if na==0 then return true
 let some nb <-dR true (<-elem' (arrOf s) (sa+na-1)) (arrOf s) sb nb (nb-1)|return false
 if nb==0 then return true
 let x:=(arrOf s).extract sa sb
 let y:=(arrOf s).extract sb (sb+nb)
 let merged <-if na<=nb then kL x y else kM x y
 modify fun s=>setArr s (putAt (arrOf s) sa merged)
 return (failedOf (<-get)).isNone):=rfl
theorem vw:∀(m:List Df)(off j0:Nat)(xs:Array Df),off+j0+m.length<=xs.size->
  ((m.zipIdx j0).foldl (fun a(x:Df×Nat)=>a.setIfInBounds (off+x.2) x.1) xs).size=xs.size/\∀i,at' ((m.zipIdx j0).foldl (fun a(x:Df×Nat)=>a.setIfInBounds (off+x.2) x.1) xs) i=if off+j0<=i/\i<off+j0+m.length then m.getD (i-(off+j0)) (En,En)else at' xs i
 | [],off,j0,xs,h=>⟨rfl,fun i=>by rw[if_neg (by simp)];rfl⟩
 |x::m,off,j0,xs,h=>by
  simp only[Fh]at h;have ih:=vw m off (j0+1) (xs.setIfInBounds (off+j0) x) (by rw[IU];omega);rw[GD,HK];refine⟨ih.1.trans<|IU ..,fun i=>?_⟩;rw[ih.2];have e:at' (xs.setIfInBounds (off+j0) x) i=if i=off+j0 then x else at' xs i:=by
   simp only[at',DX];by_cases z:i=off+j0;·rw[if_pos z,z,Array.getElem?_setIfInBounds_self_of_lt (by omega)];rfl
   ·rw[if_neg z,Array.getElem?_setIfInBounds_ne (by omega)]
  by_cases z1:off+(j0+1)<=i/\i<off+(j0+1)+m.length
  ·rw[if_pos z1,if_pos (by simp;omega),show i- (off+j0)=(i- (off+(j0+1)))+1 by omega];rfl
  ·rw[if_neg z1,e];by_cases z2:i=off+j0;·rw[if_pos z2,if_pos (by simp;omega),z2,He];rfl
   ·rw[if_neg z2,if_neg (by simp;omega)]
theorem vz{xs m:Array Df}{off:Nat}(h:off+m.size<=xs.size):(putAt xs off m).size=xs.size/\∀i,at' (putAt xs off m) i=if off<=i/\i<off+m.size then at' m (i-off)else at' xs i:=by
 have:=vw m.toList off 0 xs (by simpa using h);refine⟨this.1,fun i=>?_⟩;have e:=this.2 i;simp only[Nat.add_zero,DJ]at e;refine e.trans ?_;by_cases z:off<=i/\i<off+m.size
 ·rw[if_pos z,if_pos z];simp[at',DX,Es]
 ·rw[if_neg z,if_neg z]
theorem vA{xs m:Array Df}{off:Nat}(h:off+m.size<=xs.size):(putAt xs off m).toList=ext' xs 0 off++m.toList++ext' xs (off+m.size) xs.size:=by
 obtain⟨hs,ha⟩:=vz h;apply EU;intro i;have l1:(ext' xs 0 off).length=off:=by rw[dN];simp;omega
 by_cases z:i<xs.size
 ·rw[Dd,dC (by omega),ha];by_cases z1:i<off;·rw[if_neg (by omega),Dq,DF (by omega),dN,JM,E1 (by omega),Dd,dC z]
  ·by_cases z2:i< off+m.size;·rw[if_pos (by omega),Dq,Dw (by omega),l1,DF (by simpa using (by omega:i-off<m.size)),Dd,dC (by omega)]
   ·rw[if_neg (by omega),Dw (by simp[l1];omega),dN];have:(ext' xs 0 off++m.toList).length=off+m.size:=by simp[l1]
    rw[this,E1 (by omega),Ef,Dd,show off+m.size+(i-(off+m.size))=i by omega,dC z]
 ·have l2:(ext' xs (off+m.size) xs.size).length=xs.size- (off+m.size):=by rw[dN];simp
  rw[Ea (by simp;omega),Ea (by simp[l1,l2];omega)]
theorem vB{xs:Array Df}{a b i:Nat}(hb:b<=xs.size)(hi:i<b-a):at' (xs.extract a b) i=at' xs (a+i):=by
 have h1:i<(xs.extract a b).size:=by simp;omega
 have e:=dC h1;rw[Array.getElem?_extract_of_lt (by omega)]at e;have e2:=dC (xs:=xs) (i:=a+i) (by omega);rw[Dn (by omega)]at e2;exact(DM e).symm.trans (DM e2)
theorem vC{xs:Array Df}{a b:Nat}(hb:b<=xs.size):(xs.extract a b).size=b-a:=by simp;omega
section
variable{M:Jk}{A:DS}{E:CU->CV->Prop}{s:CV}{κ:HD}{U:Df->Prop}{L:Df->Df->Bool}{a0:List Df}{st:ET}
theorem pR(O:LtOk M A E s κ U L)(hU:∀x∈a0,U x)(nd:a0.Nodup){i sa na sb nb pw pw':Nat}{Q:Bool->ET->Prop}(B:SB κ a0 st)(p1:(pendingOf st)[i]? =some (sa,na,pw))(p2:(pendingOf st)[i+1]? =some (sb,nb,pw'))(hsb:sb=sa+na)(z1:0<na)(z2:0<nb)(hz:sb+nb<=a0.length)
  (s1:Sr L (arrOf st) sa sb) (s2:Sr L (arrOf st) sb (sb+nb))
  (h:∀st',SB κ a0 st'->pendingOf st'=((pendingOf st).setIfInBounds i (sa,na+nb,pw)).eraseIdxIfInBounds (i+1)->Sr L (arrOf st') sa (sb+nb)->(∀i,i<sa\/sb+nb<=i->at' (arrOf st') i=at' (arrOf st) i)->Q true st'):wpS M A E s (gL i) Q st:=by
 have hs:=B.size;have uu:∀i,i<a0.length->U (at' (arrOf st) i):=fun i hi=>B.u hU hi;have nn:∀i j,i<a0.length->j<a0.length->i≠j->at' (arrOf st) i≠at' (arrOf st) j:=fun i j hi hj hij=>B.ne nd hi hj hij;rw[oB];refine D4<|Hg ?_;rw[p1,p2];dsimp only;refine D4<|F2 (f:=fun _=>Gz (kindOf st) (arrOf st) (((pendingOf st).setIfInBounds i (sa,na+nb,pw)).eraseIdxIfInBounds (i+1)) (gallopOf st)<|failedOf st) ?_;have B1:SB κ a0 (Gz (kindOf st) (arrOf st) (((pendingOf st).setIfInBounds i (sa,na+nb,pw)).eraseIdxIfInBounds (i+1)) (gallopOf st)<|failedOf st):=⟨B.kind,B.failed,B.perm⟩
 refine D4 (aZ (by omega) (D4 (du O (uu _ (by omega)) (fun i hi=>uu _ (by omega)) (by omega) z1 B.kind (fun i j hij hj hB=>?_) fun k hk hB=>?_)))
 ·have hB':(!L (at' (arrOf st) sb) (at' (arrOf st)<|sa+j))=true:=hB;show(!L (at' (arrOf st) sb) (at' (arrOf st)<|sa+i))=true;cases e:L (at' (arrOf st) sb) (at' (arrOf st)<|sa+i)with
  |false=>rfl
  |true=>
   rw[O.tr _ _ _ (uu _ (by omega)) (uu _ (by omega)) (uu _ (by omega)) e (s1 (sa+i) (sa+j) (by omega) (by omega) (by omega))]at hB';exact hB'
 have hB':∀i,i<na->((!L (at' (arrOf st) sb) (at' (arrOf st)<|sa+i))=true↔i<k):=hB;have lo:∀i,sa<=i->i<sa+k->L (at' (arrOf st) i) (at' (arrOf st) sb)=true:=fun i h2 h3=>by
  have e:=(hB' (i-sa) (by omega)).mpr (by omega);rw[show sa+(i-sa)=i by omega]at e;exact O.tot _ _ (uu _ (by omega)) (uu _ (by omega)) (nn _ _ (by omega) (by omega) (by omega)) (by simpa using e)
 have hi:∀i,sa+k<=i->i<sb->L (at' (arrOf st) sb) (at' (arrOf st) i)=true:=fun i h2 h3=>by
  cases e:L (at' (arrOf st) sb) (at' (arrOf st) i)with
  |true=>rfl
  |false=>exact absurd ((hB' (i-sa) (by omega)).mp (by rw[show sa+(i-sa)=i by omega,e];rfl)) (by omega)
 have lob:∀i j,sa<=i->i<sa+k->sb<=j->j<sb+nb->L (at' (arrOf st) i) (at' (arrOf st) j)=true:=fun i j h2 h3 h4 h5=>by
  by_cases y:j=sb;·rw[y];exact lo i h2 h3
  ·exact O.tr _ _ _ (uu _ (by omega)) (uu _ (by omega)) (uu _ (by omega)) (lo i h2 h3) (s2 sb j (D0 _) (by omega) h5)
 dsimp only;by_cases y0:na-k=0
 ·rw[if_pos (by simpa using y0)];refine De<|h _ B1 rfl (fun i j h2 h3 h4=>?_) fun _ _=>rfl;show L (at' (arrOf st) i) (at' (arrOf st) j)=true;by_cases y1:j<sb;·exact s1 i j h2 h3 y1
  ·by_cases y2:sb<=i;·exact s2 i j y2 h3 h4
   ·exact lob i j h2 (by omega) (by omega) h4
 rw[if_neg (by simpa using y0)];have elast:sa+k+(na-k)-1=sb-1:=by omega
 refine D4 (aZ (by omega) (D4 (du O (uu _ (by omega)) (fun i hi=>uu _ (by omega)) (by omega) (by omega) B.kind (fun i j hij hj hB=>?_) fun m hm hM=>?_)))
 ·have hB2:L (at' (arrOf st)<|sb+j) (at' (arrOf st)<|sa+k+(na- k)- 1)=true:=hB;show L (at' (arrOf st)<|sb+i) (at' (arrOf st)<|sa+k+(na-k)-1)=true;exact O.tr _ _ _ (uu _ (by omega)) (uu _ (by omega)) (uu _ (by omega)) (s2 (sb+i) (sb+j) (by omega) (by omega) (by omega)) hB2
 have hM':∀i,i<nb->(L (at' (arrOf st)<|sb+i) (at' (arrOf st)<|sb-1)=true↔i<m):=fun i hi=>by
  have e:L (at' (arrOf st)<|sb+i) (at' (arrOf st)<|sa+k+(na-k)-1)=true↔i<m:=hM i hi
  rwa [elast]at e
 have m1:0<m:=(hM' 0 z2).mp (hi _ (by omega) (by omega));dsimp only;rw[if_neg (by simp;omega)];have xz:((arrOf st).extract (sa+k) sb).size=na-k:=by rw[vC (by omega)];omega
 have yz:((arrOf st).extract sb (sb+m)).size=m:=by rw[vC (by omega)];omega
 have xa:∀i,i<na-k->at' ((arrOf st).extract (sa+k) sb) i=at' (arrOf st) (sa+k+i):=fun i hi=>vB (by omega) (by omega);have ya:∀i,i<m->at' ((arrOf st).extract sb (sb+m)) i=at' (arrOf st) (sb+i):=fun i hi=>vB (by omega) (by omega);have fin:∀(r:Array Df)st',cF (Gz (kindOf st) (arrOf st) (((pendingOf st).setIfInBounds i (sa,na+nb,pw)).eraseIdxIfInBounds (i+1)) (gallopOf st)<|failedOf st) st'->r.toList.Perm (((arrOf st).extract (sa+k) sb).toList++((arrOf st).extract sb (sb+m)).toList)->r.toList.Pairwise (fun x y=>L x y=true)->
   wpS M A E s (do
    modify fun s=>setArr s (putAt (arrOf s) (sa+k) r)
    return (failedOf (<-get)).isNone) Q st':=by
  intro r st' al pm so;have e1:arrOf st'=arrOf st:=al.2.1;have rz:r.size=na-k+m:=by
   have:=pm.length_eq;rw[GR,DJ,DJ,DJ,xz,yz]at this;exact this
  have bd:sa+k+r.size<=(arrOf st').size:=by rw[e1];omega
  obtain⟨pz,pa⟩:=vz bd;have pl:=vA bd;refine D4<|F2<|D4<|Hg<|De ?_;have ef:(failedOf<|setArr st'<|putAt (arrOf st') (sa+k) r).isNone=true:=by
   show(failedOf st').isNone=true;rw[al.2.2.2];show(failedOf st).isNone=true;rw[B.failed];rfl
  rw[ef];have mem:∀i,sa+k<=i->i<sb+m->∃j,sa+k<=j/\j<sb+m/\at' r (i-(sa+k))=at' (arrOf st) j:=fun i h2 h3=>by
   have hr:at' r (i-(sa+k))∈r.toList:=by rw[fu (by omega)];exact FD _
   rcases DY.mp (pm.mem_iff.mp hr)with q|q
   ·obtain⟨j,q1,q2,q3⟩:=(bW (xs:=arrOf st) (by omega)).mp q;exact⟨j,q1,by omega,q3⟩
   ·obtain⟨j,q1,q2,q3⟩:=(bW (xs:=arrOf st) (by omega)).mp q;exact⟨j,by omega,q2,q3⟩
  refine h _ ⟨al.1.trans B.kind,by show failedOf st'=none;rw[al.2.2.2];exact B.failed,?_⟩ al.2.2.1 (fun i j h2 h3 h4=>?_) fun i h2=>?_
  ·show(putAt (arrOf st') (sa+k) r).toList.Perm a0;rw[pl,e1];refine List.Perm.trans ?_ B.perm;have ea:(arrOf st).toList=ext' (arrOf st) 0 (sa+k)++(((arrOf st).extract (sa+k) sb).toList++((arrOf st).extract sb (sb+m)).toList)++ext' (arrOf st) (sa+k+r.size) (arrOf st).size:=by
    show _=ext' (arrOf st) 0 (sa+k)++(ext' (arrOf st) (sa+k) sb++ext' (arrOf st) sb (sb+m))++ext' (arrOf st) (sa+k+r.size) (arrOf st).size;rw[show sa+k+r.size=sb+m by omega,<-dD (by omega) (by omega),<-dD (by omega) (by omega),<-dD (by omega) (by omega),iF]
   rw[ea];exact Ey _<|EF _ pm
  ·show L (at' (putAt (arrOf st') (sa+k) r) i) (at' (putAt (arrOf st') (sa+k) r) j)=true;rw[pa,pa,e1];have hib:∀x y,sa+k<=x->x<sb+m->sb+m<=y->y<sb+nb->L (at' (arrOf st) x) (at' (arrOf st) y)=true:=fun x y g1 g2 g3 g4=>by
    have ey:L (at' (arrOf st)<|sb-1) (at' (arrOf st) y)=true:=by
     refine O.tot _ _ (uu _ (by omega)) (uu _ (by omega)) (nn _ _ (by omega) (by omega) (by omega)) ?_;cases e:L (at' (arrOf st) y) (at' (arrOf st)<|sb-1)with
     |false=>rfl
     |true=>exact absurd ((hM' (y-sb) (by omega)).mp (by rw[show sb+(y-sb)=y by omega];exact e)) (by omega)
    by_cases g5:sb<=x;·exact s2 x y g5 (by omega) g4
    ·by_cases g6:x=sb- 1;·rw[g6];exact ey
     ·exact O.tr _ _ _ (uu _ (by omega)) (uu _ (by omega)) (uu _ (by omega)) (s1 x (sb-1) (by omega) (by omega) (by omega)) ey
   by_cases c1:i<sa+k
   ·rw[if_neg (by omega)];by_cases c2:sa+k<=j/\j<sa+k+r.size
    ·rw[if_pos c2];obtain⟨q,q1,q2,q3⟩:=mem j c2.1 (by omega);rw[q3];by_cases c3:q<sb;·exact s1 i q h2 (by omega) c3
     ·exact lob i q h2 c1 (by omega) (by omega)
    ·rw[if_neg c2];by_cases c3:j<sb;·exact s1 i j h2 h3 c3
     ·exact lob i j h2 c1 (by omega) h4
   ·by_cases c4:i< sa+k+r.size
    ·rw[if_pos (by omega)];by_cases c5:j<sa+k+r.size
     ·rw[if_pos (by omega),fu (by omega),fu (by omega)];exact Fd.mp so _ _ _ _ (by omega)
     ·rw[if_neg (by omega)];obtain⟨q,q1,q2,q3⟩:=mem i (by omega) (by omega);rw[q3];exact hib q j q1 q2 (by omega) h4
    ·rw[if_neg (by omega),if_neg (by omega)];exact s2 i j (by omega) h3 h4
  ·show at' (putAt (arrOf st') (sa+k) r) i=_;rw[pa,if_neg (by omega),e1]
 have xU:∀i,i<((arrOf st).extract (sa+k) sb).size->U (at' ((arrOf st).extract (sa+k) sb) i):=fun i hi=>by rw[xa i (by omega)];exact uu _ (by omega)
 have yU:∀i,i<((arrOf st).extract sb (sb+m)).size->U (at' ((arrOf st).extract sb (sb+m)) i):=fun i hi=>by rw[ya i (by omega)];exact uu _ (by omega)
 have xS:Sr L ((arrOf st).extract (sa+k) sb) 0 ((arrOf st).extract (sa+k) sb).size:=fun i j g1 g2 g3=>by rw[xa i (by omega),xa j (by omega)];exact s1 _ _ (by omega) (by omega) (by omega)
 have yS:Sr L ((arrOf st).extract sb (sb+m)) 0 ((arrOf st).extract sb (sb+m)).size:=fun i j g1 g2 g3=>by rw[ya i (by omega),ya j (by omega)];exact s2 _ _ (by omega) (by omega) (by omega)
 have xy:∀i j,i<((arrOf st).extract (sa+k) sb).size->j<((arrOf st).extract sb (sb+m)).size->at' ((arrOf st).extract (sa+k) sb) i≠at' ((arrOf st).extract sb (sb+m)) j:=fun i j g1 g2=>by rw[xa i (by omega),ya j (by omega)];exact nn _ _ (by omega) (by omega) (by omega)
 have f0:L (at' ((arrOf st).extract sb (sb+m)) 0) (at' ((arrOf st).extract (sa+k) sb) 0)=true:=by rw[xa 0 (by omega),ya 0 m1];exact hi _ (by omega) (by omega)
 have f1:∀j,j<((arrOf st).extract sb (sb+m)).size->L (at' ((arrOf st).extract sb (sb+m)) j) (at' ((arrOf st).extract (sa+k) sb)<|((arrOf st).extract (sa+k) sb).size-1)=true:=fun j g1=>by
  rw[xa _ (by omega),ya j (by omega),xz,show sa+k+(na-k-1)=sb-1 by omega];exact(hM' j (by omega)).mpr (by omega)
 by_cases w:na-k<=m
 ·rw[if_pos w];exact D4 (pP O B.kind xU yU (by omega) (by omega) xS yS xy f0 f1 fin)
 ·rw[if_neg w];exact D4 (pQ O B.kind xU yU (by omega) (by omega) xS yS xy f0 f1 fin)
end
def rn:Nat->Nat->Nat->Nat:=sortPriv%PySem.Builtin.minRun
def pS:Nat->Nat->Nat->Nat->Nat:=sortPriv%PySem.Builtin.power
theorem mV:sortRuns'=(do
 let size:=(arrOf<|<-get).size
 let minrun:=rn size size 0
 let mut lo:=0
 for _ in [0:size]do
  if lo≥size then break
  let some found <-countRun' lo (size-lo)|return
  let mut n:=found
  if n<minrun then
   rule "list.sort.binary-insertion"
   let force:=min (size-lo) minrun
   if !(<-binarySort' lo force n)then return
   n:=force
  if let some (s1,n1,_):=(pendingOf<|<-get).back? then
   let pw:=pS size (2*s1+n1) (2*s1+n1+n1+n) size
   for _ in [0:size]do
    let p:=pendingOf (<-get)
    let some (_,_,older):=(if p.size>1 then p[p.size-2]? else none)|break
    if older<=pw then break
    if !(<-gL (p.size-2))then return
   modify fun s=>Gz (kindOf s) (arrOf s) ((pendingOf s).modify ((pendingOf s).size-1) fun(st,len,_)=>(st,len,pw)) (gallopOf s) (failedOf s)
  modify fun s=>Gz (kindOf s) (arrOf s) ((pendingOf s).push (lo,n,0)) (gallopOf s) (failedOf s)
  lo:=lo+n
 for _ in [0:size]do
  let p:=pendingOf (<-get)
  if p.size<=1 then break
  let i:=p.size-2
  let before:=if i>0 then p[i-1]?.map (·.2.1)else none
  let i:=if before.any (· <(p[i+1]?.elim 0 (·.2.1)))then i-1 else i
  if !(<-gL i)then return):=rfl
def rsP(p:Array (Nat×Nat×Nat)):List (Nat×Nat):=p.toList.map fun t=>(t.1,t.2.1)
def Chain:Nat->List (Nat×Nat)->Nat->Prop
 |a,[],b=>a=b
 |a,t::r,b=>t.1=a/\0<t.2/\Chain (a+t.2) r b
theorem eN:∀(l r:List (Nat×Nat))(a b:Nat),Chain a (l++r) b↔∃c,Chain a l c/\Chain c r b
 | [],r,a,b=>⟨fun h=>⟨a,rfl,h⟩,fun⟨c,h1,h2⟩=>by cases h1;exact h2⟩
 |t::l,r,a,b=>by
  constructor
  ·rintro ⟨h1,h2,h3⟩;obtain⟨c,h4,h5⟩:=(eN l r _ b).mp h3;exact⟨c,⟨h1,h2,h4⟩,h5⟩
  ·rintro ⟨c,⟨h1,h2,h4⟩,h5⟩;exact⟨h1,h2,(eN l r _ b).mpr ⟨c,h4,h5⟩⟩
theorem fJ:∀{l:List (Nat×Nat)}{a b:Nat},Chain a l b->a+l.length<=b/\∀t∈l,a<=t.1/\t.1+t.2<=b
 | [],a,b,h=>by cases h;exact⟨by simp,fun t ht=>by cases ht⟩
 |t::l,a,b,⟨h1,h2,h3⟩=>by
  have ih:=fJ h3;refine⟨by have:=ih.1;simp;omega,fun u hu=>?_⟩;rcases Dh.mp hu with rfl|hu
  ·have:=ih.1;omega
  ·have:=ih.2 u hu;omega
structure Rn(L:Df->Df->Bool)(p:Array (Nat×Nat×Nat))(xs:Array Df)(lo:Nat):Prop where
 ch:Chain 0 (rsP p) lo
 so:∀t∈rsP p,Sr L xs t.1<|t.1+t.2
theorem mW{α:Type}:∀(l:List α)(i:Nat)(x y:α),l[i]? =some x->l[i+1]? =some y->l=l.take i++x::y::l.drop (i+2)
 | [],i,x,y,h,_=>by simp at h
 |a::l,0,x,y,h1,h2=>by
  cases l with
  |nil=>simp at h2
  |cons b l=>
   simp at h1 h2;subst h1 h2;simp
 |a::l,i+1,x,y,h1,h2=>by
  have:=mW l i x y (by simpa using h1) (by simpa using h2);simp only[List.take_succ_cons,List.drop_succ_cons,Hu];exact congrArg (a:: ·) this
theorem oC{p:Array (Nat×Nat×Nat)}{i:Nat}{x y z:Nat×Nat×Nat}(h1:p[i]? =some x)(h2:p[i+1]? =some y):((p.setIfInBounds i z).eraseIdxIfInBounds (i+1)).toList=p.toList.take i++z::p.toList.drop (i+2):=by
 have hl:i+1<p.size:=(F9.mp h2).1;have e:=mW p.toList i x y (by rw[Dd];exact h1) (by rw[Dd];exact h2);have e1:((p.setIfInBounds i z).eraseIdxIfInBounds (i+1)).toList=(p.toList.set i z).eraseIdx (i+1):=by
  rw[Hj,Gx]
 rw[e1];have tl:(p.toList.take i).length=i:=by simp;omega
 conv=>lhs;rw[e]
 rw[List.set_append_right _ _ (by omega),tl,He,GW,List.eraseIdx_append_of_length_le (by omega),tl,show i+1-i=1 by omega];rfl
theorem Rn.merge{L:Df->Df->Bool}{p:Array (Nat×Nat×Nat)}{xs xs':Array Df}{lo i sa na pw sb nb pw':Nat}(R:Rn L p xs lo)(h1:p[i]? =some (sa,na,pw))(h2:p[i+1]? =some (sb,nb,pw'))
  (hs:Sr L xs' sa (sb+nb)) (ho:∀i,i<sa\/sb+nb<=i->at' xs' i=at' xs i):Rn L ((p.setIfInBounds i (sa,na+nb,pw)).eraseIdxIfInBounds (i+1)) xs' lo/\sb=sa+na/\0<na/\0<nb/\sb+nb<=lo:=by
 have e:=mW p.toList i _ _ (by rw[Dd];exact h1) (by rw[Dd];exact h2);have er:rsP p=(p.toList.take i).map (fun t=>(t.1,t.2.1))++(sa,na)::(sb,nb)::(p.toList.drop<|i+2).map (fun t=>(t.1,t.2.1)):=by
  unfold rsP;conv=>lhs;rw[e]
  simp
 have er2:rsP ((p.setIfInBounds i (sa,na+nb,pw)).eraseIdxIfInBounds (i+1))=(p.toList.take i).map (fun t=>(t.1,t.2.1))++(sa,na+nb)::(p.toList.drop<|i+2).map (fun t=>(t.1,t.2.1)):=by
  unfold rsP;rw[oC h1 h2];simp
 have ch:=R.ch;have so:=R.so;rw[er]at ch so;generalize (p.toList.take i).map (fun t=>(t.1,t.2.1))=l1 at*
 generalize (p.toList.drop<|i+2).map (fun t=>(t.1,t.2.1))=l2 at*
 obtain⟨c,c1,c2,c3,c4,c5,c6⟩:=(eN _ _ _ _).mp ch;dsimp only at c2 c3 c4 c5 c6;subst c2;have l6:=fJ c6;have l1':=fJ c1;refine⟨⟨?_,fun t ht=>?_⟩,by omega,c3,c5,by omega⟩
 ·rw[er2];exact(eN _ _ _ _).mpr ⟨sa,c1,rfl,by show 0<na+nb;omega,by show Chain (sa+(na+nb)) l2 lo;rw[<-LX];exact c6⟩
 ·rw[er2]at ht;have keep:∀t:Nat×Nat,Sr L xs t.1 (t.1+t.2)->(t.1+t.2<=sa\/sb+nb<=t.1)->Sr L xs' t.1 (t.1+t.2):=fun t h h3 i j g1 g2 g3=>by
   rw[ho i (by omega),ho j (by omega)];exact h i j g1 g2 g3
  rcases DY.mp ht with ht|ht;·exact keep t (so t (by simp[ht]))<|.inl (l1'.2 t ht).2
  ·rcases Dh.mp ht with rfl | ht
   ·show Sr L xs' sa (sa+(na+nb));rw[<-LX,<-c4];exact hs
   ·exact keep t (so t (by simp[ht])) (.inr (by have:=(l6.2 t ht).1;omega))
theorem Rn.two{L:Df->Df->Bool}{p:Array (Nat×Nat×Nat)}{xs:Array Df}{lo i sa na pw sb nb pw':Nat}(R:Rn L p xs lo)(h1:p[i]? =some (sa,na,pw))(h2:p[i+1]? =some (sb,nb,pw')):sb=sa+na/\0<na/\0<nb/\sb+nb<=lo/\Sr L xs sa sb/\Sr L xs sb (sb+nb):=by
 have e:=mW p.toList i _ _ (by rw[Dd];exact h1) (by rw[Dd];exact h2);have er:rsP p=(p.toList.take i).map (fun t=>(t.1,t.2.1))++(sa,na)::(sb,nb)::(p.toList.drop<|i+2).map (fun t=>(t.1,t.2.1)):=by
  unfold rsP;conv=>lhs;rw[e]
  simp
 have ch:=R.ch;have so:=R.so;rw[er]at ch so;obtain⟨c,c1,c2,c3,c4,c5,c6⟩:=(eN _ _ _ _).mp ch;dsimp only at c2 c3 c4 c5 c6;have l6:=fJ c6;have s1:Sr L xs sa (sa+na):=so (sa,na) (by simp);have s2:Sr L xs sb (sb+nb):=so (sb,nb) (by simp);exact⟨by omega,c3,c5,by omega,by rw[show sb=sa+na by omega];exact s1,s2⟩
theorem Rn.keep{L:Df->Df->Bool}{p:Array (Nat×Nat×Nat)}{xs xs':Array Df}{lo:Nat}(R:Rn L p xs lo)(ho:∀i,i<lo->at' xs' i=at' xs i):Rn L p xs' lo:=
 ⟨R.ch,fun t ht i j g1 g2 g3=>by
  have:=(fJ R.ch).2 t ht;rw[ho i (by omega),ho j (by omega)];exact R.so t ht i j g1 g2 g3⟩
theorem Rn.push{L:Df->Df->Bool}{p:Array (Nat×Nat×Nat)}{xs:Array Df}{lo n w:Nat}(R:Rn L p xs lo)(hn:0<n)(hs:Sr L xs lo (lo+n)):Rn L (p.push (lo,n,w)) xs (lo+n):=by
 have e:rsP (p.push (lo,n,w))=rsP p++[(lo,n)]:=by unfold rsP;simp
 refine⟨by rw[e];exact(eN _ _ _ _).mpr ⟨lo,R.ch,rfl,hn,rfl⟩,fun t ht=>?_⟩;rw[e]at ht;rcases DY.mp ht with ht|ht
 ·exact R.so t ht
 ·have:t=(lo,n):=by simpa using ht
  subst this;exact hs
theorem kN(p:Array (Nat×Nat×Nat))(i w:Nat):rsP (p.modify i fun(st,len,_)=>(st,len,w))=rsP p:=by
 unfold rsP;apply EU;intro j;rw[D7,D7,Dd,Dd,Array.getElem?_modify];by_cases z:i=j
 ·rw[if_pos z];cases p[j]? <;>rfl
 ·rw[if_neg z]
theorem Rn.mod{L:Df->Df->Bool}{p:Array (Nat×Nat×Nat)}{xs:Array Df}{lo:Nat}(R:Rn L p xs lo)(i w:Nat):Rn L (p.modify i fun(st,len,_)=>(st,len,w)) xs lo:=⟨by rw[kN];exact R.ch,by rw[kN];exact R.so⟩
theorem rp(p:Array (Nat×Nat×Nat)):(rsP p).length=p.size:=by unfold rsP;simp
theorem sV{p:Array (Nat×Nat×Nat)}{i:Nat}{z:Nat×Nat×Nat}(h:i+1<p.size):((p.setIfInBounds i z).eraseIdxIfInBounds (i+1)).size=p.size-1:=by
 rw[<-DJ,Hj,Gx,JQ,L5,DJ,if_pos h]
section
variable{M:Jk}{A:DS}{E:CU->CV->Prop}{s:CV}{κ:HD}{U:Df->Prop}{L:Df->Df->Bool}{a0:List Df}{st:ET}
theorem pT(O:LtOk M A E s κ U L)(hU:∀x∈a0,U x)(nd:a0.Nodup){i lo:Nat}{Q:Bool->ET->Prop}(B:SB κ a0 st)(R:Rn L (pendingOf st) (arrOf st) lo)(hi:i+1<(pendingOf st).size)(hlo:lo<=a0.length)
  (h:∀st',SB κ a0 st'->Rn L (pendingOf st') (arrOf st') lo->(pendingOf st').size=(pendingOf st).size-1->(∀i,lo<=i->at' (arrOf st') i=at' (arrOf st) i)->Q true st'):wpS M A E s (gL i) Q st:=by
 obtain⟨⟨sa,na,pw⟩,h1⟩:∃t,(pendingOf st)[i]? =some t:=⟨_,Dn (by omega)⟩
 obtain⟨⟨sb,nb,pw'⟩,h2⟩:∃t,(pendingOf st)[i+1]? =some t:=⟨_,Dn hi⟩
 obtain⟨t1,t2,t3,t4,t5,t6⟩:=R.two h1 h2;refine pR O hU nd B h1 h2 t1 t2 t3 (by omega) t5 t6 fun st' B' ep s' o'=>?_;have:=(R.merge h1 h2 s' o').1;refine h st' B' (by rw[ep];exact this) (by rw[ep];exact sV hi) fun i hi=>o' i (.inr (by omega))
theorem oD(O:LtOk M A E s κ U L)(hU:∀x∈a0,U x)(nd:a0.Nodup){Q:Unit->ET->Prop}(B:SB κ a0 st)(hp:pendingOf st= #[])(h:∀st',SB κ a0 st'->Sr L (arrOf st') 0 a0.length->Q () st'):wpS M A E s sortRuns' Q st:=by
 have hs:=B.size;rw[mV];refine D4<|Hg ?_;dsimp only;rw[hs];generalize rn a0.length a0.length 0=mr;refine D4<|G5 (El (I:=fun x c st'=>SB κ a0 st'/\∃lo,c=(none,lo)/\x<=lo/\lo<=a0.length/\Rn L (pendingOf st') (arrOf st') lo) (Q:=fun c st'=>SB κ a0 st'/\∃lo,c=(none,lo)/\Rn L (pendingOf st') (arrOf st') a0.length) ?step ?fin ?init) ?post
 case init=>exact⟨B,0,rfl,D0 _,Dt _,by rw[hp];exact⟨rfl,fun t ht=>by cases ht⟩⟩
 case fin=>
  rintro c st' ⟨B',lo,rfl,q1,q2,R⟩;have:lo=a0.length:=by omega
  subst this;exact⟨B',_,rfl,R⟩
 case post=>
  rintro c st1 ⟨B1,lo,rfl,R1⟩;dsimp only;refine D4<|G5 (El (I:=fun x c st'=>c=(none,())/\SB κ a0 st'/\Rn L (pendingOf st') (arrOf st') a0.length/\((pendingOf st').size<=1\/(pendingOf st').size+x<=a0.length)) (Q:=fun c st'=>c=(none,())/\SB κ a0 st'/\Rn L (pendingOf st') (arrOf st') a0.length/\(pendingOf st').size<=1) ?fstep ?ffin ?finit) ?fpost
  case finit=>
   refine⟨rfl,B1,R1,.inr ?_⟩;have:=(fJ R1.ch).1;rw[rp]at this;omega
  case ffin=>
   rintro c st' ⟨rfl,B',R',q⟩;exact⟨rfl,B',R',by omega⟩
  case fstep=>
   rintro x c st' _ hx ⟨rfl,B',R',q⟩;refine D4<|Hg ?_;by_cases z:(pendingOf st').size<=1;·rw[if_pos z];exact De ⟨rfl,B',R',z⟩
   ·rw[if_neg z];have hb:∀(c:Prop)[Decidable c],(if c then(pendingOf st').size-2-1 else(pendingOf st').size-2)+1<(pendingOf st').size:=fun c _=>by split<;>omega
    refine D4<|pT O hU nd B' R' (hb _) (D0 _) fun st2 B2 R2 e2 _=>?_;exact De ⟨rfl,B2,R2,by omega⟩
  case fpost=>
   rintro c st' ⟨rfl,B',R',q⟩;refine De<|h st' B' ?_;have ch:=R'.ch;have so:=R'.so;have hl:=rp<|pendingOf st';generalize rsP (pendingOf st')=l at*
   match l,hl with
   | [],_=>
    have:0=a0.length:=ch;intro i j g1 g2 g3;omega
   | [t],_=>
    obtain⟨c1,c2,c3⟩:=ch;have c4:0+t.2=a0.length:=c3;have:=so t (by simp);rw[c1,c4]at this;exact this
   |_::_::_,hl=>simp at hl;omega
 case step=>
  rintro x c st1 _ hx ⟨B1,lo,rfl,q1,q2,R1⟩;dsimp only;by_cases z:lo≥a0.length
  ·rw[if_pos z];have:lo=a0.length:=by omega
   subst this;exact De ⟨B1,_,rfl,R1⟩
  rw[if_neg z];refine D4 (zm O hU nd (by omega) (by omega) B1 fun n st2 n1 n2 B2 e2 s2 o2=>?_);dsimp only;by_cases y:n<mr
  ·rw[if_pos y];refine D4<|J6<|Fe ⟨rfl,?_⟩;refine D4 (xl O hU nd (by omega) (by omega) B2 s2 fun st3 B3 e3' s3 o3'=>?_);rw[if_neg (by decide)];have e3:pendingOf st3=pendingOf st1:=e3'.trans e2;have o3:∀i,i<lo->at' (arrOf st3) i=at' (arrOf st1) i:=fun i hi=>(o3' i<|.inl hi).trans (o2 i<|.inl hi);refine D4<|Hg ?_;have R3:Rn L (pendingOf st3) (arrOf st3) lo:=by rw[e3];exact R1.keep o3
   cases hb:(pendingOf st3).back? with
   |none=>
    dsimp only;exact D4 (F2 (De ⟨⟨B3.kind,B3.failed,B3.perm⟩,lo+min (a0.length-lo) mr,rfl,by omega,by omega,R3.push (by omega) s3⟩))
   |some t=>
    obtain⟨t1,t2,t3⟩:=t;dsimp only;generalize pS a0.length (2*t1+t2) (2*t1+t2+t2+min (a0.length-lo) mr) a0.length=pw;refine D4<|G5 (El (I:=fun y c st'=>c=(none,())/\SB κ a0 st'/\Rn L (pendingOf st') (arrOf st') lo/\Sr L (arrOf st') lo (lo+min (a0.length-lo) mr)) (Q:=fun c st'=>c=(none,())/\SB κ a0 st'/\Rn L (pendingOf st') (arrOf st') lo/\Sr L (arrOf st') lo (lo+min (a0.length-lo) mr)) ?ms ?mf ?mi) ?mp
    case mi=>exact⟨rfl,B3,R3,s3⟩
    case mf=>exact fun c st' h=>h
    case ms=>
     rintro y c st4 _ hy ⟨rfl,B4,R4,s4⟩;refine D4<|Hg ?_;by_cases w:(pendingOf st4).size>1
     ·rw[if_pos w];obtain⟨⟨u1,u2,u3⟩,hu⟩:∃t,(pendingOf st4)[(pendingOf st4).size-2]? =some t:=⟨_,Dn (by omega)⟩
      rw[hu];dsimp only;by_cases v:u3<=pw;·rw[if_pos v];exact De ⟨rfl,B4,R4,s4⟩
      ·rw[if_neg v];refine D4 (pT O hU nd B4 R4 (by omega) (by omega) fun st5 B5 R5 _ o5=>?_);exact De ⟨rfl,B5,R5,fun i j g1 g2 g3=>by rw[o5 i g1,o5 j (by omega)];exact s4 i j g1 g2 g3⟩
     ·rw[if_neg w];exact De ⟨rfl,B4,R4,s4⟩
    case mp=>
     rintro c st4 ⟨rfl,B4,R4,s4⟩;dsimp only;exact D4 (F2 (D4 (F2 (De ⟨⟨B4.kind,B4.failed,B4.perm⟩,lo+min (a0.length-lo) mr,rfl,by omega,by omega,(R4.mod _ _).push (by omega) s4⟩))))
  ·rw[if_neg y];have B3:=B2;have s3:=s2;have e3:=e2;have o3:∀i,i<lo->at' (arrOf st2) i=at' (arrOf st1) i:=fun i hi=>o2 i<|.inl hi;refine D4<|Hg ?_;have R3:Rn L (pendingOf st2) (arrOf st2) lo:=by rw[e3];exact R1.keep o3
   cases hb:(pendingOf st2).back? with
   |none=>
    dsimp only;exact D4 (F2 (De ⟨⟨B3.kind,B3.failed,B3.perm⟩,lo+n,rfl,by omega,by omega,R3.push (by omega) s3⟩))
   |some t=>
    obtain⟨t1,t2,t3⟩:=t;dsimp only;generalize pS a0.length (2*t1+t2) (2*t1+t2+t2+n) a0.length=pw;refine D4<|G5 (El (I:=fun y c st'=>c=(none,())/\SB κ a0 st'/\Rn L (pendingOf st') (arrOf st') lo/\Sr L (arrOf st') lo (lo+n)) (Q:=fun c st'=>c=(none,())/\SB κ a0 st'/\Rn L (pendingOf st') (arrOf st') lo/\Sr L (arrOf st') lo (lo+n)) ?ms ?mf ?mi) ?mp
    case mi=>exact⟨rfl,B3,R3,s3⟩
    case mf=>exact fun c st' h=>h
    case ms=>
     rintro y c st4 _ hy ⟨rfl,B4,R4,s4⟩;refine D4<|Hg ?_;by_cases w:(pendingOf st4).size>1
     ·rw[if_pos w];obtain⟨⟨u1,u2,u3⟩,hu⟩:∃t,(pendingOf st4)[(pendingOf st4).size-2]? =some t:=⟨_,Dn (by omega)⟩
      rw[hu];dsimp only;by_cases v:u3<=pw;·rw[if_pos v];exact De ⟨rfl,B4,R4,s4⟩
      ·rw[if_neg v];refine D4 (pT O hU nd B4 R4 (by omega) (by omega) fun st5 B5 R5 _ o5=>?_);exact De ⟨rfl,B5,R5,fun i j g1 g2 g3=>by rw[o5 i g1,o5 j (by omega)];exact s4 i j g1 g2 g3⟩
     ·rw[if_neg w];exact De ⟨rfl,B4,R4,s4⟩
    case mp=>
     rintro c st4 ⟨rfl,B4,R4,s4⟩;dsimp only;exact D4 (F2 (D4 (F2 (De ⟨⟨B4.kind,B4.failed,B4.perm⟩,lo+n,rfl,by omega,by omega,(R4.mod _ _).push (by omega) s4⟩))))
end
end Wb
namespace Wb
open PySem PySem.W PySem.Calls PyProof.Rows
theorem rq{α β:Type}{f:α->β}:∀{l:List α},(l.map f).Nodup->∀{x y:α},x∈l->y∈l->f x=f y->x=y
 | [],_,x,_,hx,_,_=>by cases hx
 |a::l,nd,x,y,hx,hy,e=>by
  rw[Ds,Fc]at nd;rcases Dh.mp hx with q|q
  ·rcases Dh.mp hy with q' | q';·rw[q,q']
   ·exact absurd (DQ.mpr ⟨y,q',by rw[<-e,q]⟩) nd.1
  ·rcases Dh.mp hy with q' | q';·exact absurd (DQ.mpr ⟨x,q,by rw[e,q']⟩) nd.1
   ·exact rq nd.2 q q' e
theorem mX{α:Type}(l:List α):(l.zip l)=l.map fun x=>(x,x):=by
 induction l with
 |nil=>rfl
 |cons a l ih=>rw[Ij,ih];rfl
section
variable{prog:Dj}{w:Dp}{A:DS}{E:CU->CV->Prop}{s:CV}
theorem AA{key:CU->Int×Int}{vs:List CU}(hp:∀v∈vs,PairAt s.heap v<|key v)(nd:(vs.map key).Nodup):LtOk (model prog w) A E s (tuples' true) (fun x=>x∈vs.zip vs) (fun x y=>nk (key x.1)<|key y.1) where
 lt:=fun x y st Q hx hy kd h=>by
  have h1:=hp _ (GF hx).2;have h2:=hp _ (GF hy).2;rw[lt'_eq];refine D4<|Hg<|D4<|J6<|FC ?_;rw[kd];exact xk h1 h2 ⟨rfl,De h⟩
 tr:=fun x y z _ _ _ h1 h2=>zl h1 h2
 tot:=fun x y hx hy hne h=>xj (fun e=>hne (by
  have e1:=rq nd (GF hx).2 (GF hy).2 e;have:=(GF hx).1;have:=(GF hy).1;exact Ib e1 (by simp_all))) h
 irr:=fun x=>rl _
theorem vD{a:Addr}{vs:List CU}{key:CU->Int×Int}{n:Nat}{P:PySem.Fin->CV->Prop}(ho:s.heap.get? a=some (seqObj "list" vs.toArray n))(hp:∀v∈vs,PairAt s.heap v<|key v)(nd:(vs.map key).Nodup)(hl:vs.length<=sizeLine)
  (h:∀out:List CU,out.Perm vs->(out.map key).Pairwise (fun x y=>nk x y=true)->P (.done<|.ret .none) {s with heap:=sortedHeap s.heap a vs out.toArray}):
  wpAny (model prog w) A (EI.«list.sort» ⟨[.ref a],[]⟩) P E s:=by
 rw[list_sort_plain];have ha:a<s.heap.objs.size:=Dc ho;refine CN<|listItems_at ho rfl ?_;refine CN (K1 ho rfl ?_ (by rw[Dm];exact hl)<|Dt _);obtain⟨e1,ho1⟩:∃e1,(s.heap.update a<|FE fun _=> #[]).get? a=some (seqObj "list" #[] e1):=⟨_,get?_update_seq ho<|fun _=> #[]⟩
 refine CN<|L1 ho1 rfl ?_;refine CN (JO ?_ (by show vs.length<=_;exact hl));refine CN<|LY ?_<|Dt _;refine EL ?_;have ho6:(((s.heap.update a<|FE fun _=> #[]).push (seqObj "tuple" vs.toArray 0)).push (seqObj "list" #[] 0)).get? a=some (seqObj "list" #[] e1):=by
  rw[Kv _ _ _ (by rw[size_push',KQ];exact Dv<|ID ha),Kv _ _ _ (by rw[KQ];exact Dv ha)];exact ho1
 show wpAny (model prog w) A _ P E {s with heap:=((s.heap.update a<|FE fun _=> #[]).push (seqObj "tuple" vs.toArray 0)).push (seqObj "list" #[] 0)};dsimp only;by_cases h2:vs.toArray.size<2
 ·rw[if_pos h2,if_pos h2];refine CN<|CS ?_;rw[StateT.run_pure];refine CN<|CS ?_;dsimp only;refine CN<|L1 ho6 rfl ?_;have e:(arrOf<|Gz general' (vs.toArray.zip vs.toArray) #[] 7 none).map (·.2)=vs.toArray:=by
   show(vs.toArray.zip vs.toArray).map (·.2)=_;apply KR.mp;simp only[KN,Array.toList_zip,KS,D0]
  rw[e];refine CN (K1 ho6 rfl ?_ (Dt _) (by rw[Dm];exact Kw hl));simp only[bne_self_eq_false,DA,if_false];refine CS<|h vs (.refl _) ?_;have h3:vs.length<2:=by simpa using h2
  match vs,h3 with
  | [],_=>exact Gp
  | [v],_=>exact GY _ _
  |_::_::_,h3=>simp at h3;omega
 ·rw[if_neg h2,if_neg h2];have hp2:∀v∈vs,PairAt (((s.heap.update a<|FE fun _=> #[]).push (seqObj "tuple" vs.toArray 0)).push (seqObj "list" #[] 0)) v (key v):=fun v hv=>by
   obtain⟨b,o,t1,t2,m,q2,q3,q4,q5⟩:=hp v hv;have hb:b≠a:=fun z=>by subst z;rw[ho]at q3;cases q3;exact absurd q4 (by show ¬(Hq "list"=Hq "tuple");decide)
   exact⟨b,o,t1,t2,m,q2,CQ _<|CQ _<|(Hc _ _<|H9 hb).trans q3,q4,q5⟩
  obtain⟨fs,l1,l2,l3⟩:=rm (h:=((s.heap.update a<|FE fun _=> #[]).push (seqObj "tuple" vs.toArray 0)).push (seqObj "list" #[] 0)) (vs:=vs) (ks:=vs.map key) ⟨by simp,fun i v e=>⟨key v,by rw[D7,e];rfl,hp2 v<|Dz e⟩⟩;have h3:2<=vs.length:=by simp at h2;exact h2
  refine CN (kat_kind (T:=.type "int") l2 (by rw[l1];omega) (fun v hv=>?_) (by decide) ?_)
  ·obtain⟨i,t,rfl⟩:=l3 v hv;exact .now
  rw[show(Hq "int" != Hq "tuple")=true from by decide];have O:=AA (prog:=prog) (w:=w) (A:=A) (E:=E) (s:={s with heap:=((s.heap.update a<|FE fun _=> #[]).push (seqObj "tuple" vs.toArray 0)).push (seqObj "list" #[] 0)}) hp2 nd;have za:(vs.toArray.zip vs.toArray).toList=vs.zip vs:=by simp
  have ndz:(vs.zip vs).Nodup:=by
   rw[mX,E3,FP];have nv:vs.Nodup:=E3.mpr ((FP.mp<|E3.mp nd).imp fun h e=>h (by rw[e]));exact(E3.mp nv).imp fun h e=>h<|congrArg Prod.fst e
  have lz:(vs.zip vs).length=vs.length:=by simp
  refine CN (Ee (oD (Q:=fun _ st'=>SB (tuples' true) (vs.zip vs) st'/\Sr (fun x y=>nk (key x.1)<|key y.1) (arrOf st') 0 (vs.zip vs).length) O (fun x hx=>hx) ndz (st:=Gz (tuples' true) (vs.toArray.zip vs.toArray) #[] 7 none) ⟨rfl,rfl,by show(vs.toArray.zip vs.toArray).toList.Perm _;rw[za]⟩ rfl fun st' B S=>⟨B,S⟩) ?_ fun _ _ e=>e);rintro ⟨⟨⟩,st'⟩ s' ⟨rfl,B,S⟩;dsimp only at B S ⊢;have hz:=B.size;have mem:∀x∈(arrOf st').toList,x.1=x.2:=fun x hx=>(GF<|B.perm.mem_iff.mp hx).1;refine CN<|L1 ho6 rfl ?_;refine CN (K1 ho6 rfl ?_ (Dt _) (by rw[Array.size_map,hz,lz];exact Kw hl));rw[B.failed];simp only[bne_self_eq_false,DA,if_false];have eo:(arrOf st').map (·.2)=((arrOf st').toList.map fun x:Df=>x.2).toArray:=by apply KR.mp;simp
  rw[eo];refine CS<|h ((arrOf st').toList.map fun x:Df=>x.2) ?_ ?_
  ·have:=B.perm.map (·.2);rw[KS<|D0 _]at this;exact this
  ·rw[F6,FP,Fd];intro i j hi hj hij;have hj2:j<(arrOf st').size:=by simpa using hj
   have:=S i j (Dt _) hij (by omega);rw[fu (by simpa using hi),fu (by simpa using hj)]at this;show nk (key ((arrOf st').toList[i]).2) (key ((arrOf st').toList[j]).2)=true;rw[<-mem _ (FD hi),<-mem _ (FD hj)];exact this
end
section
variable{prog:Dj}{w:Dp}{K:Type}[DecidableEq K]{knd:KeyKind prog w K}{A:DS}{E:CU->CV->Prop}{s:CV}
theorem sW{a x:Addr}{o:Obj}{es:Array (Int×CU)}{ep:Nat}{t:Em}{led:Bool}{ks:List (List K)}{kx:List K}(hu:A.units+1<cLine)(S:SetT knd s.heap a led ks o es ep t)(hn:es.size<1000)(hx:FF knd s.heap kx x)(hI:∀k∈kx,∀v,knd.is k v=true->∃i t,v=.int i t){Q:CU->CV->Prop}
  (h1:kx∈ks->∀tk,Q .none {s with toks:=tk}) (h2:kx∉ks->∀tk h' ks' o' es' ep' t',Dl a s.heap h'->SetT knd h' a led ks' o' es' ep' t'->ks'.Perm (kx::ks)->es'.toList.Perm ((tupleKeyHash knd kx,.ref x)::es.toList)->Q .none {s with heap:=h',toks:=tk}):
  wpAny (model prog w) A (call (.builtin "set.add") [.ref a,.ref x]) Q E s:=by
 have hT:s.TypeIs (.ref a) "set":=⟨o,S.at_,S.ex.1⟩
 refine DU F.slot_set_add hT F.entry_set_add ?_<|F.args_set_add_2 _ _;unfold EI.«set.add» Ln;simp only[List.isEmpty_nil,bind_assoc];unfold LZ setAdd;refine CN<|CS ?_
 try dsimp only
 refine CN<|CS ?_
 try dsimp only
 refine CN ?_;refine EL ?_;refine CN (wpAny_pyHash_tuple (show A.in1.units<cLine from hu) hx ?_);unfold setAddHashed;refine EL (xf (s:={s with toks:=s.toks+(kx.length+1)}) (show A.in1.units<cLine from hu) S hn hx hI (fun hm=>?_) fun hm h' ks' o' es' ep' t' a1 a2 a3 a4=>?_)
 ·show wpAny _ _ (ret En) _ _ _;exact CS ⟨_,rfl,h1 hm _⟩
 ·show wpAny _ _ (ret En) _ _ _;exact CS ⟨_,rfl,h2 hm _ h' ks' o' es' ep' t' a1 a2 a3 a4⟩
end
end Wb
namespace L2
open PySem PySem.Spec PyProof.Rows Wb
structure TupsH(prog:Dj)(w:Dp)(K:CT)(H:Hp)(es:List (Int×CU))(ks:List (Int×Int)):Prop where
 len:es.length=ks.length
 at_:∀(i:Nat)(e:Int×CU),es[i]? =some e->∃k b,ks[i]? =some k/\e.2=.ref b/\SqT K H b [.int k.1,.int k.2]/\e.1=tupleKeyHash (mixKind prog w) [.inl k.1,.inl k.2]
def SetH(prog:Dj)(w:Dp)(K:CT)(H:Hp)(o:Obj)(ks:List (Int×Int)):Prop:=∃es ep t,SetR w o es ep t/\TupsH prog w K H es.toList ks/\ks.Nodup
def jd(k:Int×Int):List Key:=[.inl k.1,.inl k.2]
theorem jz{a b:Int×Int}(h:jd a=jd b):a=b:=by
 unfold jd at h;injection h with h1 h2;injection h2 with h2 _;injection h1 with h1;injection h2 with h2;exact Ib h1 h2
def sX:List Key->Int×Int
 | [.inl a,.inl b]=>(a,b)
 |_=>(0,0)
theorem rA(k:Int×Int):sX (jd k)=k:=rfl
noncomputable def yq(elt:Expr)(env:Env)(acc:CU):Sem Unit:=do
 let v <-eval elt env
 standAt elt.pos
 let _ <-call (.builtin "set.add") [acc,v]
def pU(prog:Dj)(w:Dp)(K:CT)(te:TE):TB:=fun D σ H N=>te σ H fun y H'=>∃G o ks b k,Same G H'/\H' D=some (XO D o)/\SetH prog w K G o ks/\ks.length<1000/\y=.ref b/\SqT K G b [.int k.1,.int k.2]/\(k∈ks->N H')/\(k∉ks->∀o' ks',SetH prog w K G o' ks'->ks'.Perm (k::ks)->N (cZ H' D<|XO D o'))
section
variable{Y X:Cx}{elt:Expr}{te:TE}
theorem gb{pins:List (Addr×Obj)}{σ:St}{H:Hp}{s:CV}{b:Addr}{k:Int×Int}(I:Inv X pins σ H s)(h:SqT X.K H b [.int k.1,.int k.2]):FF (mixKind X.prog X.w) s.heap (jd k) b:=by
 obtain⟨its,r,⟨o,h1,h2,n,h3⟩,_⟩:=I.tuple h;exact⟨o,its.toArray,n,h1,h2,h3,by simpa using lF (ks:=jd k) r⟩
theorem BO{k:Int×Int}:∀q∈jd k,∀v,(mixKind X.prog X.w).is q v=true->∃i t,v=.int i t:=fun q hq v hv=>by
 have:q=.inl k.1\/q=.inl k.2:=by simpa [jd] using hq
 rcases bM (show gu q v=true from hv)with⟨i,t,e1,rfl⟩|⟨x,t,e1,rfl⟩
 ·exact⟨i,t,rfl⟩
 ·rcases this with z|z<;>(rw[z]at e1;cases e1)
theorem zp(hxe:Y.xe=fun _ _=>False)(hu:Y.A.units+1<cLine)(he:PE Y elt te):PB Y (yq elt Y.env) (pU Y.prog Y.w Y.K te):=by
 intro D pins s σ H N I h;have he':=he pins s σ H _ I h;rw[hxe]at he';refine CN<|bP he' fun u s1 zz=>?_;obtain⟨y,H1,I1,r1,G,o,ks,b,k,eG,hD,hS,hl,ey,hb,h1,h2⟩:=zz;subst ey;obtain rfl:u=.ref b:=r1;refine CN<|Fz ?_;obtain⟨es,ep,t,R,T,nd⟩:=hS;have hDo:s1.heap.get? D=some o:=(I1.hok D _ hD).1;have hsz:es.size=ks.length:=by have:=T.len;simpa using this
 have U:TupsOf (mixKind Y.prog Y.w) s1.heap es.toList (ks.map jd):=⟨by rw[Dx];exact T.len,fun i e hi=>by
  obtain⟨k,b,q1,q2,q3,q4⟩:=T.at_ i e hi;exact⟨jd k,b,by rw[D7,q1];rfl,q2,gb I1 (EZ eG q3),q4⟩⟩
 have S:SetT (mixKind Y.prog Y.w) s1.heap D (!Y.w.params.followText "set-order") (ks.map jd) o es ep t:=⟨hDo,R.ex,R.dat,R.tab,U,MO _ (fun a b hab e=>hab<|jz e) nd,R.led,R.pl⟩
 refine CN (sW hu S (by omega) (gb I1<|EZ eG hb) BO (fun hm tk=>?_) fun hm tk h' ks' o' es' ep' t' a1 a2 a3 a4=>?_)
 ·obtain⟨k',m1,m2⟩:=DQ.mp hm;cases jz m2;exact CS ⟨σ,H1,I1.kept<|fun _ _ z=>z,fun _ _ e=>e,h1 m1⟩
 ·have nm:k∉ks:=fun z=>hm<|DQ.mpr ⟨k,z,rfl⟩;have pk:(ks'.map sX).Perm (k::ks):=by
   have:=a3.map sX;rw[Ds,F6,show(sX∘jd)=id from funext rA,L3,rA]at this;exact this
  have TH:TupsH Y.prog Y.w Y.K G es'.toList (ks'.map sX):=⟨by rw[Dx];exact a2.tup.len,fun i e hi=>by
   obtain⟨kk,b',q1,q2,q3,q4⟩:=a2.tup.at_ i e hi;have src:∃k0:Int×Int,SqT Y.K G b' [.int k0.1,.int k0.2]:=by
    rcases Dh.mp (a4.mem_iff.mp<|Dz hi)with z|z;·rw[z]at q2;cases q2;exact⟨k,hb⟩
    ·obtain⟨j,hj,ej⟩:=Fq.mp z;obtain⟨k0,b0,r1,r2,r3,r4⟩:=T.at_ j e (by rw[CZ hj,ej]);rw[r2]at q2;cases q2;exact⟨k0,r3⟩
   obtain⟨k0,hk0⟩:=src;have e0:kk=jd k0:=q3.inj (oo (gb I1 (EZ eG hk0)) hDo R.dat a1);subst e0;exact⟨k0,b',by rw[D7,q1];rfl,q2,hk0,q4⟩⟩
  refine CS ⟨σ,_,?_,fun _ _ e=>e,h2 nm o' (ks'.map sX) ⟨es',ep',t',⟨a2.ex,a2.dat,a2.tab,a2.led,a2.pl⟩,TH,pk.nodup_iff.mpr<|Fc.mpr ⟨nm,nd⟩⟩ pk⟩;exact I1.write (x:=D) (e:=D) (by rw[hD];exact Ga) (.inl rfl) (fun b u hb' z=>(a1.2 b hb').trans z) ⟨o',a2.at_⟩<|MX a2.at_
theorem vE{pins:List (Addr×Obj)}{σ:St}{H:Hp}{s:CV}{b:Addr}{k l:Int×Int}(I:Inv X pins σ H s)(h:SqT X.K H b [.int k.1,.int k.2])(h':SqT X.K H b [.int l.1,.int l.2]):k=l:=by
 have:=I.tuple_inj h h';injection this with e1 e2;injection e2 with e2 _;injection e1 with e1;injection e2 with e2;exact Ib e1 e2
open Classical in
noncomputable def fC(K:CT)(H:Hp)(e:Int×CU):Int×Int:=if h:∃k:Int×Int,∃b,e.2=.ref b/\SqT K H b [.int k.1,.int k.2]then h.choose else(0,0)
theorem rB{pins:List (Addr×Obj)}{σ:St}{G H:Hp}{s:CV}{b:Addr}{k:Int×Int}{e:Int×CU}(eG:Same G H)(I:Inv X pins σ H s)(h:SqT X.K G b [.int k.1,.int k.2])(he:e.2=.ref b):fC X.K G e=k:=by
 have ex:∃k:Int×Int,∃b,e.2=.ref b/\SqT X.K G b [.int k.1,.int k.2]:=⟨k,b,he,h⟩
 unfold fC;rw[dif_pos ex];obtain⟨b',e1,e2⟩:=ex.choose_spec;rw[he]at e1;cases e1;exact vE I (EZ eG e2)<|EZ eG h
def BP:CU->V
 | .ref b=>.ref b
 |_=>.non
def vF(prog:Dj)(w:Dp)(K:CT):List V->Hp->VK->Prop:=fun xs H Q=>∃(G:Hp)(p:Addr)(o:Obj)(ks:List (Int×Int)),xs=[.ref p]/\Same G H/\H p=some (XO p o)/\SetH prog w K G o ks/\ks.length<=1000/\∀(q:Addr)(us:List V)(ks':List (Int×Int)),H q=none->ks'.Perm ks->ks'.Pairwise (fun a b=>nk a b=true)->us.length=ks'.length->(∀(i:Nat)(v:V)(k:Int×Int),us[i]? =some v->ks'[i]? =some k->∃b,v=.ref b/\SqT K G b [.int k.1,.int k.2])->Q (.ref q) (cZ H q<|.lst us)
theorem mY(hc:X.calm=true):fh X (.builtin "sorted") (vF X.prog X.w X.K):=by
 intro pins s σ H xs us Q I r h;obtain⟨G,p,o,ks,rfl,eG,hp,⟨es,ep,t,R,T,nd⟩,h64,q⟩:=h;obtain⟨u,rfl,rx⟩:=gh r;cases rx;have hpo:s.heap.get? p=some o:=(I.hok p _ hp).1;have hsz:es.size=ks.length:=by have:=T.len;simpa using this
 have op:=iD X.w p ep es;have osz:(dF X.w p ep es).size=es.size:=by have:=op.length_eq;simpa using this
 have ek:es.toList.map (fC X.K G)=ks:=by
  apply EU;intro i;rw[D7];by_cases z:i<es.toList.length
  ·obtain⟨k,b,q1,q2,q3,q4⟩:=T.at_ i es.toList[i] (CZ z);rw[CZ z,q1];exact congrArg some<|rB eG I q3 q2
  ·rw[Ea (by omega),Ea (by have:=T.len;omega)];rfl
 have mem:∀e∈(dF X.w p ep es).toList,∃b,e.2=.ref b/\SqT X.K G b [.int (fC X.K G e).1,.int (fC X.K G e).2]:=fun e he=>by
  obtain⟨j,hj,ej⟩:=Fq.mp<|op.mem_iff.mp he;obtain⟨k0,b0,r1,r2,r3,r4⟩:=T.at_ j e (by rw[CZ hj,ej]);exact⟨b0,r2,by rw[rB eG I r3 r2];exact r3⟩
 have kzp:((dF X.w p ep es).toList.map (fC X.K G)).Perm ks:=by
  have:=op.map<|fC X.K G;rw[ek]at this;exact this
 refine Calls.call_function_entry kind_sorted plain_sorted entry_sorted (args_sorted1 _) ?_;unfold EI.«sorted»;refine CN (m:=checkCount "sorted" 1 1 _)<|CS ?_;refine CN (PySem.W.kdu_collect (A:=X.A.in1) (xi (a:=p) R) (I.ok.hd hc) hpo (by rw[Ej];omega) fun h' tk acc hk hacc=>?_);have av:acc.toList=(dF X.w p ep es).toList.map (·.2):=by
  apply EU;intro i;rw[D7];by_cases z:i<acc.size
  ·have z2:i< acc.toList.length:=by simpa using z
   obtain⟨e,q1,q2⟩:=hacc.2 i acc.toList[i] (by rw[<-Dd];exact CZ z2);rw[CZ z2,Dd,q1,q2];rfl
  ·have:=hacc.1;rw[Ea (by simp;omega),Ea (by simp;omega)];rfl
 have hal:acc.toList.length=ks.length:=by rw[DJ,hacc.1,hsz]
 have I':=I.kept (t':=tk) hk;refine CN (LY ?_ (by rw[hal,Ej];omega));have hoL:(h'.push<|seqObj "list" acc.toList.toArray 0).get? h'.objs.size=some (seqObj "list" acc.toList.toArray 0):=D6 _ rfl;have src:∀v∈acc.toList,∃b,v=.ref b/\SqT X.K G b [.int (fC X.K G (0,v)).1,.int (fC X.K G (0,v)).2]:=fun v hv=>by
  rw[av]at hv;obtain⟨e,he,rfl⟩:=DQ.mp hv;obtain⟨b,h2,h3⟩:=mem e he;exact⟨b,h2,by rw[show fC X.K G (0,e.2)=fC X.K G e from rfl];exact h3⟩
 have km:acc.toList.map (fun v=>fC X.K G (0,v))=(dF X.w p ep es).toList.map (fC X.K G):=by rw[av,F6];rfl
 refine CN (EL (DU slot_list_sort ⟨_,hoL,rfl⟩ entry_list_sort (vD (key:=fun v=>fC X.K G (0,v)) hoL (fun v hv=>?_) (by rw[km];exact kzp.nodup_iff.mpr nd) (by rw[hal,Ej];omega) fun out op' pw=>⟨_,rfl,?_⟩)<|args_list_sort _))
 ·obtain⟨b,rfl,h3⟩:=src v hv;obtain⟨its,rr,⟨ob,g1,g2,n,g3⟩,_⟩:=I'.tuple<|EZ eG h3;obtain⟨u1,u2,e1,⟨t1,e2⟩,t2,e3⟩:∃u1 u2,its=[u1,u2]/\RelV (.int (fC X.K G (0,.ref b)).1) u1/\RelV (.int (fC X.K G (0,.ref b)).2) u2:=by
   cases rr with
   |cons a b=>cases b with
    |cons c d=>cases d with
     |nil=>exact⟨_,_,rfl,a,c⟩
  subst e1;rw[e2,e3]at g3;exact⟨b,ob,t1,t2,n,rfl,CQ _ g1,g2,g3⟩
 obtain⟨e,he⟩:=sortedHeap_at (h:=h'.push<|seqObj "list" acc.toList.toArray 0) (a:=h'.objs.size) (vs:=acc.toList) (out:=out.toArray) (n:=0) hoL;have at_:∀v∈out,∃b,v=.ref b/\SqT X.K G b [.int (fC X.K G (0,v)).1,.int (fC X.K G (0,v)).2]:=fun v hv=>src v<|op'.mem_iff.mp hv;have pkz:(out.map fun v=>fC X.K G (0,v)).Perm ks:=by
  have:=op'.map fun v=>fC X.K G (0,v);rw[km]at this;exact this.trans kzp
 have ol:out.length=ks.length:=by rw[op'.length_eq];exact hal
 refine CS ⟨_,rfl,.ref h'.objs.size,_,I'.laid (t':=tk) (fun b o z=>?_) (D0 _) (show ObjOk X.prog X.w _ _ _ (.lst<|out.map BP)from⟨by rw[Dx,Ej];omega,out,e,?_,he⟩),rfl,q _ _ (out.map fun v=>fC X.K G (0,v)) (I'.hok.fresh<|D0 _) pkz pw (by rw[Dx,Dx]) fun i v k h1 h2=>?_⟩
 ·show(sortedHeap _ _ _ _).get? b=some o;rw[sortedHeap_old (Dv<|Dc z) (by rw[size_push'];exact ID<|Dc z)];exact CQ _ z
 ·refine nN _ _ (by rw[Dx]) fun j x u hx hu=>?_;rw[D7,hu]at hx;cases hx;obtain⟨b,rfl,_⟩:=at_ u<|Dz hu;rfl
 ·rw[D7]at h1 h2;obtain⟨u,hu,rfl⟩:=E9.mp h1;rw[hu]at h2;cases h2;obtain⟨b,rfl,h4⟩:=at_ u<|Dz hu;exact⟨b,rfl,h4⟩
end
def pV(w:Dp):Obj:={cls:=.type "set",dict:=none,data:=.set #[] 0<|.fresh 0 0<|!w.params.followText "set-order",slots:= #[]}
theorem xm(prog:Dj)(w:Dp)(K:CT)(H:Hp):SetH prog w K H (pV w) []:=
 ⟨#[],0,.fresh 0 0<|!w.params.followText "set-order",⟨⟨rfl,rfl,rfl⟩,rfl,⟨⟨rfl,rfl,fun a b _ hb=>by simp[Lo]at hb,fun j⟨a,ha,_⟩=>by simp[Lo]at ha,.inl rfl,fun i h e=>by simp at e⟩,by show 0*5<7*3;decide⟩,rfl,rfl⟩,⟨rfl,fun i e he=>by simp at he⟩,Gp⟩
def pW(w:Dp)(cap:List (Option Nat))(wi:TI)(g:TG)(tf:TT)(tb:TB):TE:=fun σ H Q=>wi σ H fun J H1=>∀D,H1 D=none->sL g tf tb D (br cap σ) (cZ H1 D<|XO D<|pV w) (fun H'=>Q (.ref D) H') J
section
variable{X:Cx}{scope:Gi}{N:List Str}{cap:List (Option Nat)}{tg iter:Expr}{ifs:List Expr}{pos:Pos}{wi:TI}{g:TG}{tf:TT}{tb:TB}{body:Env->CU->Sem Unit}
theorem vG(S:CompScope X scope N cap)(hc:X.calm=true){elt:Expr}{gs:List IQ}(hi:PI X tg iter wi)
  (hg:∀s H C fp,PG (aA X scope N s H C fp) tg g) (hf:∀s H C fp,tO (aA X scope N s H C fp) ifs tf) (hb:∀s H C fp,PB (aA X scope N s H C fp) (body (aA X scope N s H C fp).env) tb)
  (ht:∀env it acc,compTurn (.SetComp elt (⟨tg,iter,ifs,0⟩::gs) scope pos) 0 it acc env=dZ tg iter ifs (body env acc) it env (.compLoop (.SetComp elt (⟨tg,iter,ifs,0⟩::gs) scope pos) 0 it acc env):=by intro _ _ _;rfl)
  (hs:∀x,foldedSetIterable iter X.env x=pure x:=by intro _;rfl):PE X (.SetComp elt (⟨tg,iter,ifs,0⟩::gs) scope pos) (pW X.w cap wi g tf tb):=by
 intro pins s σ H Q I h;rw[arm_eval_SetComp];have frc:∀x∈scope.names,x.2=.free->∃c,X.env.cells.lookup x.1=some c:=fun x hx hk=>I.ok.has x.1<|S.free x hx hk;refine FQ (use:=none) rfl hs (dP frc) S.kind (fR S)<|bP (hi pins s σ H _ I h) fun v s1 h1=>bP h1 fun itv s2 h2=>?_;obtain⟨it,fp,tn,J,H2,rfl,I2,T,st2,f2,w⟩:=h2;unfold newSet setsByText;refine CN<|CN<|G4<|CS ?_;refine Ec ?_;have hz:H2 s2.heap.objs.size=none:=I2.hok.fresh<|D0 _;have I3:Inv X pins σ (cZ H2 s2.heap.objs.size<|XO s2.heap.objs.size<|pV X.w) {s2 with heap:=s2.heap.push (pV X.w)}:=
  I2.laid (a:=s2.heap.objs.size) (t':=s2.toks) (fun _ _ q=>CQ _ q) (D0 _) (MX<|D6 _ rfl)
 have nD:∀b∈fp,b≠s2.heap.objs.size:=fun b hb=>by
  obtain⟨o,e,_⟩:=T.obj _ _ st2 b hb;exact Dv<|Dc e
 have f3:∀b∈fp,FpOk X pins (cZ H2 s2.heap.objs.size<|XO s2.heap.objs.size<|pV X.w) b:=fun b hb=>⟨by rw[aw<|nD b hb];exact(f2 b hb).1,(f2 b hb).2⟩
 refine kC (RR:=fun C=>compPost (model X.prog X.w) X.A X.xe none (EP X pins σ Q) (.ref s2.heap.objs.size) C) S hc MU rfl hg hf hb ht I3 T (T.keep _ _ _ st2 fun b hb o e=>CQ _ e) f3 (w _ hz) fun C σ' H' s' hC I' q=>?_;obtain⟨m,hn,_⟩:=I'.loc;exact⟨m,hn,fun h' hs'=>⟨.ref _,H',lP I3 f3 hC I' hs',rfl,q⟩⟩
variable{kx vx elt tg2 iter2:Expr}{ifs2:List Expr}{wi2:TI}{g2:TG}{tf2:TT}{te:TE}
theorem sY(hu:X.A.units+1<cLine)(S:CompScope X scope N cap)(hc:X.calm=true)(hi:PI X tg iter wi)
  (hg:∀s H C fp,PG (aA X scope N s H C fp) tg g) (hf:∀s H C fp,tO (aA X scope N s H C fp) ifs tf)
  (hi2:∀s H C fp,PI (aA X scope N s H C fp) tg2 iter2 wi2) (hg2:∀s H C fp,PG (aA X scope N s H C fp) tg2 g2) (hf2:∀s H C fp,tO (aA X scope N s H C fp) ifs2 tf2) (he:∀s H C fp,PE (aA X scope N s H C fp) elt te)
  (hs:∀x,foldedSetIterable iter X.env x=pure x:=by intro _;rfl) (hs2:∀env x,foldedSetIterable iter2 env x=pure x:=by intro _ _;rfl):PE X (.SetComp elt [⟨tg,iter,ifs,0⟩,⟨tg2,iter2,ifs2,0⟩] scope pos) (pW X.w cap wi g tf<|zd wi2 g2 tf2<|pU X.prog X.w X.K te):=
 vG S hc hi hg hf (body:=x4 iter2 (.SetComp elt [⟨tg,iter,ifs,0⟩,⟨tg2,iter2,ifs2,0⟩] scope pos) 1)
  (fun s H C fp=>ze (Y:=aA X scope N s H C fp) hc rfl (hi2 s H C fp) (hg2 s H C fp) (hf2 s H C fp) (body:=yq elt) (zp (Y:=aA X scope N s H C fp) rfl hu<|he s H C fp) MU rfl (fun _ _ _=>rfl)<|hs2 _) (fun _ _ _=>by rw[sM];rfl) hs
end
end L2
namespace Wb
open PySem L2 Mi
section
variable{Er:Nat->Prop}{α:Type}{prog:Dj}{w:Dp}{K:CT}{W W' W0 Wb W1 W2:Wd}{σ:St}{te:TE}
structure OwS2(prog:Dj)(w:Dp)(K:CT)(W:Wd)(p:Addr)(ks:List (Int×Int)):Prop where
 g:W.G p=none
 h:∃o ks0,W.H p=some (XO p o)/\SetH prog w K W.G o ks0/\ks0.Perm ks
theorem sZ{G G':Hp}{o:Obj}{ks:List (Int×Int)}(h:SetH prog w K G o ks)(e:Same G G'):SetH prog w K G' o ks:=
 let ⟨es,ep,t,R,T,nd⟩:=h
 ⟨es,ep,t,R,⟨T.len,fun i x hx=>let ⟨k,b,q1,q2,q3,q4⟩:=T.at_ i x hx;⟨k,b,q1,q2,EZ e q3,q4⟩⟩,nd⟩
theorem OwS2.mono{p:Addr}{ks:List (Int×Int)}(o:OwS2 prog w K W p ks)(e:Ext W W'):OwS2 prog w K W' p ks:=by
 obtain⟨x,k0,a,b,c⟩:=o.h;exact⟨by rw[e.k p (by rw[a];exact fun z=>nomatch z)];exact o.g,x,k0,e.h _ _ a,sZ b e.g,c⟩
theorem zq{me:Res (Int×Int)}{D:Addr}(eb:Ext Wb W)(hD:Wb.H D=none)(h:EV Er te σ W (sh<|isT2 K isI isI) me):BV Er (pU prog w K te) σ Wb W (OwS2 prog w K) D (fun ks=>me.bind fun y=>sN ks y):=fun W1 ks N e1 o k=>
 h W1 e1 _ ((CO k).imp fun y ky v W2 e2 hv=>by
  obtain⟨h3,h4⟩:=bw ky;have o2:=o.mono e2;obtain⟨ob,ks0,q1,q2,q3⟩:=o2.h;obtain⟨p,x1,x2,rfl,t1,r1,r2⟩:=hv;cases r1;cases r2;refine⟨W2.G,ob,ks0,p,y,W2.ok,q1,q2,by rw[q3.length_eq];exact h3,rfl,t1,fun hm=>?_,fun hm o' ks' s' p'=>?_⟩
  ·rw[if_pos<|q3.mem_iff.mp hm]at h4;exact h4 W2 e2.g ((eb.trans e1).trans e2) o2
  ·rw[if_neg (fun z=>hm (q3.mem_iff.mpr z))]at h4;exact h4 (W2.mut D (XO D o') o2.g) e2.g (((eb.trans e1).trans e2).mut hD o2.g) ⟨o2.g,o',ks',aH,s',p'.trans (.cons _ q3)⟩)
theorem vH{R:Rp α}{cap:List (Option Nat)}{wi:TI}{g:TG}{tf:TT}{t:TB}{mi:Res (List α)}{f:α->List (Int×Int)->Res (List<|Int×Int)}(hi:IV Er wi σ W R mi)
  (hs:∀Wb D W2 a v s(M:Hp->Prop),Same W.G W2.G->Ext W Wb->Wb.H D=none->Ext Wb W2->OwS2 prog w K W2 D s->R W2.G a v->(f a s).OkE Er (fun s'=>∀W',Same W2.G W'.G->Ext Wb W'->OwS2 prog w K W' D s'->M W'.H)->g v (br cap σ) W2.H fun σ2 H2=>Keep (br cap σ) σ2/\tf σ2 H2 fun b H3=>if b=true then t D σ2 H3 M else M H3):
  EVo Er (eR (vF prog w K)<|ao (pW w cap wi g tf t) aU) σ W (isT2 K isI isI) ((mi.bind fun xs=>bL f xs []).bind fun ks=>uZ ks):=fun W1 e1 Q k=>by
 refine hi W1 e1 _<|(CO<|CO k).imp fun xs kx J W2 e2 hy D hD=>?_;refine mP (W:=W2) (W1:=W2.mut D (XO D<|pV w)<|W2.gnone hD) (Wb:=W2) (O:=OwS2 prog w K) (s0:=[]) hy (.inr<|.refl _) (.own _ hD) ⟨W2.gnone hD,pV w,[],aH,xm ..,.refl _⟩ (fun W3 a v s M e3 eb3 o3 r k3=>hs W2 D W3 a v s M ((e1.trans e2).g.trans e3) (e1.trans e2) hD eb3 o3 r k3) (fun _ _ _ e o=>o.mono e) ?_;exact kx.imp fun ks kk W' z1 z2 z3=>by
  obtain⟨h3,h4⟩:=bw kk;obtain⟨o,ks0,q1,q2,q3⟩:=z3.h;refine⟨W'.G,D,o,ks0,rfl,W'.ok,q1,q2,by rw[q3.length_eq];exact h3,fun q us ks1 hq p1 p2 l1 at_=>?_⟩;have e:ks1=fq ks:=kE (p1.trans q3) (p2.imp fun{a b}h=>by rw[jy]at h;rw[jv];omega);rw[<-e]at h4;exact uL (W2:=W') (vs:=us) ⟨l1,fun i v m e1 e2=>by
   obtain⟨b,rfl,hb⟩:=at_ i v m e1 e2;exact⟨b,_,_,rfl,hb,rfl,rfl⟩⟩ (e2.trans z2) h4 q hq
end
end Wb
namespace L2
open PySem PySem.Spec PyProof.Rows Wb
def AB:R2:=fun x y H Q=>∃p q xs,x=.ref p/\y=.ref q/\H p=some (.lst xs)/\H q=some (.lst [])/\Q (.bl xs.isEmpty) H
theorem pX{X:Cx}(hu:X.A.units<cLine):OpR X (compareOp .Eq) AB:=by
 intro pins s σ H x y v u Q I rx ry h;obtain⟨p,q,xs,rfl,rfl,h1,h2,hq⟩:=h;cases rx;cases ry;obtain⟨i1,r1,t1,z1⟩:=I.list<|Fv (K:=X.K) h1;obtain⟨i2,r2,t2,z2⟩:=I.list<|Fv (K:=X.K) h2;have l1:=r1.length;have l2:=r2.length;have key:SeqAt.RcAt X.A s (.ref p) (.ref q) xs.isEmpty:=by
  cases xs with
  |nil=>
   have:=MR (A:=X.A) (s:=s) (e:=fun _=>true) t1.isList t2.isList (by rw[Dm,Dm,<-l1,<-l2]) hu (fun j h1' h2'=>by
    have:j<i1.length:=by simpa using h1'
    rw[<-l1]at this;exact absurd this (Nat.not_lt_zero _))
   have e0:i1.toArray.size=0:=by rw[Dm,<-l1];rfl
   rw[e0]at this;exact this
  |cons a r=>exact M0 t1.isList t2.isList (by simp at l1 l2 ⊢;omega) hu
 exact key _ _ _ _ ⟨.bl _,H,I,rfl,hq⟩
end L2
namespace Wb
open PySem L2 Mi
section
variable{Er:Nat->Prop}{α:Type}{W:Wd}{σ:St}{ta:TE}
theorem pY{R:Rp α}{ma:Res (List α)}(ha:EV Er ta σ W (pk R) ma):EV Er (dw AB ta<|cv aU) σ W (sh isB) (ma.bind fun a=>.ok a.isEmpty):=fun W1 e1 Q k=>
 ha W1 e1 _ ((CO k).imp fun a ka x W2 e2 hx=>by
  obtain⟨p,vs,rfl,h1,h2⟩:=hx;refine⟨by decide,fun q hq=>⟨p,q,vs,rfl,rfl,?_,aH,?_⟩⟩;·rw[aw (fun z=>by rw[z]at h1;rw[hq]at h1;cases h1)];exact h1
  ·have:vs.isEmpty=a.isEmpty:=by
    have:=h2.1;cases vs<;>cases a<;>simp at this ⊢
   rw[this];exact ka (.bl a.isEmpty) (W2.mut q (.lst []) (W2.gnone hq)) (e2.trans (.own _ hq)) rfl)
end
end Wb
namespace Mi
def kO{α:Type}(kvs:List ((Int×Int)×α))(k:Int×Int)(a:α):Res (List<|(Int×Int)×α):=fz (kvs.length<1000)<|o7 kvs k a
end Mi
namespace Wb
open PySem PySem.W PySem.Calls PyProof.Rows
def oE(d:Addr)(n ep i:Nat):Obj:={cls:=.type "dict_keyiterator",dict:=none,data:=.fields #[.ref d,.int i 0,.int n 0,.int ep 0],slots:= #[]}
section
variable{prog:Dj}{w:Dp}{A:DS}{E:CU->CV->Prop}{s:CV}{d it:Addr}{o:Obj}{es:Array FL}{ep:Nat}
theorem t9{Q:CU->CV->Prop}(hd:(d==sysModules)=false)(ho:s.heap.get? d=some o)(hx:o.ExactDict)(hdat:o.data=.dict es ep)(hQ:Q (.ref s.heap.objs.size) {s with heap:=s.heap.push (oE d es.size ep 0)}):wpAny (model prog w) A (pyIter<|.ref d) Q E s:=by
 have hT:s.TypeIs (.ref d) "dict":=⟨o,ho,hx.1⟩
 refine Hf hT KU<|DU KU hT F.entry_dict_iter ?_<|F.args_dict_iter_1 _;unfold EI.«dict.__iter__»;refine CN ?_;unfold LA;refine CN<|wpAny_notOrdered_dict hT ?_;show wpAny _ _ (pure<|Eg d) _ _ s;refine CS ?_;show wpAny _ _ (Jy d>>=_) _ _ s;unfold Jy;rw[if_neg (by rw[hd];exact Dg)];refine CN<|CS ?_;refine CN<|IH ho hdat ?_;refine CN<|Jo ho hdat ?_;refine CN<|Ec<|CS ⟨_,rfl,"dict_keyiterator",_,⟨_,D6 _ rfl,rfl⟩,EA.lookup,?_⟩;exact hQ
theorem tj{i:Nat}{Q:Option CU->CV->Prop}(hit:s.heap.get? it=some (oE d es.size ep i))(ho:s.heap.get? d=some o)(hdat:o.data=.dict es ep)(hi:i<es.size)
  (hQ:∀h',h'.get? it=some (oE d es.size ep<|i+1)->Dl it s.heap h'->Q (some es[i].key) {s with heap:=h'}):wpAny (model prog w) A (pyNext<|.ref it) Q E s:=by
 have hT:s.TypeIs (.ref it) "dict_keyiterator":=⟨_,hit,rfl⟩
 unfold pyNext;refine CN (FC (E4 (name:=CY "__next__") hT EA
  (DU EA hT HF ?_ (Hv _))))
 refine CN<|CS ?_;refine CN ?_;refine CN ?_
 first|refine CN (Fs hT<|CS ?_)|refine CN<|FR hT<|CS ?_
 refine CN<|Ih hit rfl ?_;have hown:HP "dict_keyiterator"=false:=by decide
 simp only[hown,DA,if_false];show wpAny _ _ (if(Eg d==En)=true then _ else _) _ _ s;rw[if_neg (show ¬((Eg d==En)=true)from Dg)];refine CN<|CS ?_;refine CN<|IH ho hdat ?_;rw[if_neg (by simp)];refine CN<|CS ?_;refine CN<|Jo ho hdat ?_;rw[if_neg (by simp)];refine CS ?_;simp only[show ¬((i:Int)<0)from by omega,if_false,Ew,Dn hi];refine CN ?_
 first|refine CN (Fs hT<|CS ?_)|refine CN<|FR hT<|CS ?_
 refine CN<|Jz hT ?_;show wpAny _ _ (setField (.ref it) 1 (rawInt<|(i:Int)+1)>>=_) _ _ s;refine CN (FY hit rfl (by simp) ?_);have hit':=EX (IT (·.setIfInBounds 1 (rawInt<|(i:Int)+1))) hit rfl;refine CN<|EL ?_;refine CN (Jz (s:={s with heap:=s.heap.update it (IT (·.setIfInBounds 1 (rawInt<|(i:Int)+1)))}) ⟨_,hit',rfl⟩ ?_);show wpAny _ _ (pure es[i].key) _ _ _;exact CS<|CS ⟨_,rfl,CS<|hQ _ (hit'.trans rfl)<|Ek ..⟩
theorem vI{Q:Option CU->CV->Prop}(hh:A.handled=none)(hit:s.heap.get? it=some (oE d es.size ep es.size))(ho:s.heap.get? d=some o)(hdat:o.data=.dict es ep)
  (hQ:∀h',Gv it s.heap h'->Q none {s with heap:=h'}):wpAny (model prog w) A (pyNext<|.ref it) Q E s:=by
 have hT:s.TypeIs (.ref it) "dict_keyiterator":=⟨_,hit,rfl⟩
 unfold pyNext;refine CN (FC (E4 (name:=CY "__next__") hT EA
  (DU EA hT HF ?_ (Hv _))))
 refine CN<|CS ?_;refine CN ?_;refine CN ?_
 first|refine CN (Fs hT<|CS ?_)|refine CN<|FR hT<|CS ?_
 refine CN<|Ih hit rfl ?_;have hown:HP "dict_keyiterator"=false:=by decide
 simp only[hown,DA,if_false];show wpAny _ _ (if(Eg d==En)=true then _ else _) _ _ s;rw[if_neg (show ¬((Eg d==En)=true)from Dg)];refine CN<|CS ?_;refine CN<|IH ho hdat ?_;rw[if_neg (by simp)];refine CN<|CS ?_;refine CN<|Jo ho hdat ?_;rw[if_neg (by simp)];refine CS ?_;simp only[show ¬((es.size:Int)<0)from by omega,if_false,Ew,Gg<|D0 es.size];refine CN ?_
 first|refine CN (Fs hT<|CS ?_)|refine CN<|FR hT<|CS ?_
 show wpAny _ _ (setField (.ref it) 0 .none>>=_) _ _ s;refine CN (FY hit rfl (by simp) ?_);show wpAny _ _ (newExc (.type "StopIteration") []>>=_) _ _ _;refine CN ?_;simp only[newExc,newTuple];refine CN (Ec ?_ (by size_fits));refine CN (m:=firstArgMember _ _) (JN (a:=En) (by first|rfl|(simp only[firstArgMember];rfl)) ?_);refine Ec ?_ (by size_fits);simp only[raiseNew];refine CN<|JY ?_;rw[show A.in1.handled=none from hh];refine CN<|CS<|KZ ?_;refine CN<|Ff (T:="StopIteration") (b:=true) ⟨_,D6 _ rfl,rfl⟩ G0 ?_;exact CS<|hQ _<|((Ek ..).extBut.push _).push _
end
end Wb
namespace L2
open PySem PySem.Spec PyProof.Rows Wb
def KP(K:CT)(G:Hp):List ((Int×Int)×V)->List (List Key×Addr×CU)->Prop:=Paired<|fun(p:(Int×Int)×V)(q:List Key×Addr×CU)=>jd p.1=q.1/\SqT K G q.2.1 [.int p.1.1,.int p.1.2]/\RelV p.2 q.2.2
section
variable{K:CT}{G G':Hp}{kvs:List ((Int×Int)×V)}{xs:List (List Key×Addr×CU)}
theorem KP.val(r:KP K G kvs xs)(k:Int×Int):RelO (i9 kvs k) ((atKey xs<|jd k).map (·.2)):=by
 unfold KP at r
 induction r with
 |nil=>exact Ga
 | @cons p q ps qs h t ih=>
  obtain⟨h1,_,h2⟩:=h;by_cases e:p.1=k
  ·have e':q.1=jd k:=by rw[<-h1,e]
   have b:atKey (q::qs) (jd k)=some q.2:=by simp[atKey,F0,e']
   rw[gz e,b];exact h2
  ·have e':¬q.1=jd k:=fun z=>e<|jz<|h1.trans z;have b:atKey (q::qs) (jd k)=atKey qs (jd k):=by simp[atKey,F0,e']
   rw[gA e,b];exact ih
theorem KP.repl(r:KP K G kvs xs)(k:Int×Int){y:V}{u:CU}(ry:RelV y u):KP K G (kvs.map fun kv=>if kv.1=k then(kv.1,y)else kv) (xs.map<|Ms (jd k) u):=by
 unfold KP at r ⊢
 induction r with
 |nil=>exact .nil
 | @cons p q ps qs h t ih=>
  rw[Ds,Ds];refine .cons ?_ ih;obtain⟨h1,h2,h3⟩:=h;unfold Ms;by_cases e:p.1=k;·rw[if_pos e,if_pos (by rw[<-h1,e])];exact⟨h1,h2,ry⟩
  ·rw[if_neg e,if_neg<|fun z=>e<|jz<|h1.trans z];exact⟨h1,h2,h3⟩
theorem KP.put(r:KP K G kvs xs)(k:Int×Int){b:Addr}{y:V}{u:CU}(hb:SqT K G b [.int k.1,.int k.2])(ry:RelV y u):KP K G (sf kvs k y) (storedH xs (jd k) b u):=by
 have e:(kvs.any fun kv=>decide<|kv.1=k)=(atKey xs<|jd k).isSome:=by rw[nH,(r.val k).isSome_eq,Option.isSome_map]
 unfold sf storedH;rw[e];by_cases q:(atKey xs<|jd k).isSome=true;·rw[if_pos q,if_pos q];exact r.repl k ry
 ·rw[if_neg q,if_neg q];exact Paired.snoc r ⟨rfl,hb,ry⟩
theorem KP.same(r:KP K G kvs xs)(e:Same G G'):KP K G' kvs xs:=Paired.mapP r fun _ _ z=>⟨z.1,EZ e z.2.1,z.2.2⟩
end
def DictP(prog:Dj)(w:Dp)(K:CT)(G:Hp)(o:Obj)(kvs:List ((Int×Int)×V)):Prop:=∃es ep xs,o.ExactDict/\o.data=.dict es ep/\es.toList=xs.map (entryOfKey<|tupleKind<|mixKind prog w)/\(xs.map (·.1)).Nodup/\KP K G kvs xs
def PDa(prog:Dj)(w:Dp)(K:CT)(G H:Hp)(a:Addr)(kvs:List ((Int×Int)×V)):Prop:=∃o,Same G H/\H a=some (XO a o)/\(a==sysModules)=false/\DictP prog w K G o kvs/\kvs.length<=1000
def kP:Obj:={cls:=.type "dict",dict:=none,data:=.dict #[],slots:= #[]}
section
variable{X:Cx}{K:CT}{pos pos':Pos}{o i value:Expr}{td ty tv:TE}{pins:List (Addr×Obj)}{σ:St}{H:Hp}{s:CV}
theorem vJ(prog:Dj)(w:Dp)(K:CT)(G:Hp):DictP prog w K G kP []:=⟨#[],0,[],⟨rfl,rfl,rfl⟩,rfl,rfl,Hh,.nil⟩
theorem PDa.h{G:Hp}{a:Addr}{kvs:List ((Int×Int)×V)}(I:Inv X pins σ H s)(g:PDa X.prog X.w X.K G H a kvs):∃xs,KP X.K G kvs xs/\s.heap.DictOfH (tupleKind<|mixKind X.prog X.w) a xs/\xs.length<=1000:=by
 obtain⟨o,eG,ha,lo,⟨es,ep,xs,ex,dat,he,nd,r⟩,hl⟩:=g;have hl2:kvs.length=xs.length:=Paired.length r;refine⟨xs,r,⟨o,es,ep,(I.hok a _ ha).1,ex,dat,he,fun x hx=>?_,nd⟩,by omega⟩;obtain⟨j,hj⟩:=Hk.mp hx;obtain⟨p,hp,h1,h2,h3⟩:=iV r hj;rw[<-h1];exact gb I<|EZ eG h2
end
end L2
namespace Wb
open PySem L2 Mi
section
variable{Er:Nat->Prop}{α:Type}{prog:Dj}{w:Dp}{K:CT}{W W' W0 W1 W2:Wd}{σ:St}{te ti ta:TE}{R:Rp α}{i:Nat}{p:Addr}{D:Ends}{r:TS}
structure OwP(prog:Dj)(w:Dp)(K:CT)(R:Rp α)(W:Wd)(p:Addr)(kvs:List ((Int×Int)×α)):Prop where
 g:W.G p=none
 h:∃o vs,W.H p=some (XO p o)/\(p==sysModules)=false/\DictP prog w K W.G o vs/\vs.length<=1000/\vs.length=kvs.length/\∀(i:Nat)(q:(Int×Int)×V)(x:(Int×Int)×α),vs[i]? =some q->kvs[i]? =some x->q.1=x.1/\R W.G x.2 q.2
theorem dictP_same{G G':Hp}{o:Obj}{kvs:List ((Int×Int)×V)}(h:DictP prog w K G o kvs)(e:Same G G'):DictP prog w K G' o kvs:=
 let ⟨es,ep,xs,a,b,c,d,r⟩:=h
 ⟨es,ep,xs,a,b,c,d,r.same e⟩
theorem OwP.mono[Mono R]{kvs:List ((Int×Int)×α)}(o:OwP prog w K R W p kvs)(e:Ext W W'):OwP prog w K R W' p kvs:=by
 obtain⟨x,vs,a,lo,b,hl,c,d⟩:=o.h;exact⟨by rw[e.k p (by rw[a];exact fun z=>nomatch z)];exact o.g,x,vs,e.h _ _ a,lo,dictP_same b e.g,hl,c,fun i q y h1 h2=>⟨(d i q y h1 h2).1,CM e.g (d i q y h1 h2).2⟩⟩
theorem vK{H:Hp}{vs:List ((Int×Int)×V)}{xs:List ((Int×Int)×α)}(hl:vs.length=xs.length)(h:∀(i:Nat)(q:(Int×Int)×V)(x:(Int×Int)×α),vs[i]? =some q->xs[i]? =some x->q.1=x.1/\R H x.2 q.2){k:Int×Int}{a:α}{v:V}(hv:R H a v):
  (sf vs k v).length=(o7 xs k a).length/\∀(i:Nat)(q:(Int×Int)×V)(x:(Int×Int)×α),(sf vs k v)[i]? =some q->(o7 xs k a)[i]? =some x->q.1=x.1/\R H x.2 q.2:=by
 have key:∀(vs:List ((Int×Int)×V))(xs:List ((Int×Int)×α)),vs.length=xs.length->(∀(i:Nat)(q:(Int×Int)×V)(x:(Int×Int)×α),vs[i]? =some q->xs[i]? =some x->q.1=x.1/\R H x.2 q.2)->(vs.any fun p=>decide<|p.1=k)=(xs.any fun p=>decide<|p.1=k):=by
  intro vs
  induction vs with
  |nil=>intro xs hl _;cases xs with|nil=>rfl|cons _ _=>cases hl
  |cons q vs ih=>
   intro xs hl h;cases xs with
   |nil=>cases hl
   |cons x xs=>rw[Hx,Hx,ih xs (by simpa using hl) fun i q x h1 h2=>h (i+1) q x h1 h2,(h 0 q x rfl rfl).1]
 unfold sf o7;rw[key vs xs hl h];by_cases z:(xs.any fun p=>decide<|p.1=k)=true
 ·rw[if_pos z,if_pos z];refine⟨by rw[Dx,Dx];exact hl,fun i q x h1 h2=>?_⟩;rw[D7]at h1 h2;obtain⟨q',h3,rfl⟩:=E9.mp h1;obtain⟨x',h4,rfl⟩:=E9.mp h2;have:=h i q' x' h3 h4;by_cases y:x'.1=k;·rw[if_pos y,if_pos<|this.1.trans y];exact⟨this.1,hv⟩
  ·rw[if_neg y,if_neg<|fun e=>y<|this.1.symm.trans e];exact this
 ·rw[if_neg z,if_neg z];refine⟨by simp[hl],fun i q x h1 h2=>?_⟩;by_cases y:i<vs.length
  ·rw[DF y]at h1;rw[DF (by omega)]at h2;exact h i q x h1 h2
  ·rw[Dw (by omega)]at h1;rw[Dw (by omega),<-hl]at h2;cases e:i-vs.length with
   |zero=>rw[e]at h1 h2;cases h1;cases h2;exact⟨rfl,hv⟩
   |succ n=>rw[e]at h1;simp at h1
theorem vL{kvs:List ((Int×Int)×α)}{k:Int×Int}{a:α}:(o7 kvs k a).length<=kvs.length+1:=by unfold o7;split<;>simp
def EVp(prog:Dj)(w:Dp)(K:CT)(Er:Nat->Prop)(t:TE)(σ:St)(W:Wd)(R:Rp α)(m:Res (List<|(Int×Int)×α)):Prop:=∀W1,Ext W W1->∀Q:VK,m.OkE Er (fun xs=>∀p W2,Ext W1 W2->W1.H p=none->OwP prog w K R W2 p xs->Q (.ref p) W2.H)->t σ W1.H Q
end
end Wb
namespace Mi
abbrev Cd:=Tx×Tx×Int
abbrev Pl:=Tx×Tx×Tx
abbrev Ii:=Int×Int
def oF{κ α:Type}[DecidableEq κ](kvs:List (κ×α))(k:κ)(z:α):α:=(look kvs k).getD z
def mZ(n:Int):Res (List Int):=fz (-(2^61)<=n/\n<2^61) (fB n).reverse
end Mi
namespace L2
open PySem PySem.Spec PyProof.Rows Wb
def BW(a:Addr)(o:Obj)(es:Array FL):It:=⟨fun i H=>H a=some (XO a o)/\i<es.size,fun i H x H'=>H'=H/\∃e,es[i]? =some e/\RelV x e.key,fun i H=>H a=some (XO a o)/\i=es.size⟩
theorem pZ{P:Dj}{w:Dp}{K:CT}{tg:Expr}{a it:Addr}{o:Obj}{es:Array FL}{ep:Nat}(hdat:o.data=.dict es ep)(hx:o.ExactDict)(hr:∀(i:Nat)(e:FL),es[i]? =some e->∃b,e.key=.ref b):Turn P w K tg (BW a o es) [it] it (fun i h=>h.get? it=some (oE a es.size ep i)) where
 mem:=by simp
 obj:=fun i h st b hb=>by
  have e:b=it:=by simpa using hb
  subst e;exact⟨_,st,fun v z=>by
   have z':Hz _=Gm v:=z;cases z'⟩
 keep:=fun i h h' st k=>k it (by simp) _ st
 item:=by
  intro X hP hw hK hc i pins s σ H E I hf st hg;subst hP hw hK;obtain⟨ha,hi⟩:=hg;obtain⟨f0,f1,f2,f3,f4,f5⟩:=hf it (by simp);have ho:s.heap.get? a=some o:=(I.hok a _ ha).1;refine tj st ho hdat hi fun h' st' sb=>?_;have I1:Inv X pins σ H {s with heap:=h'}:=I.turned (t':=s.toks) (fun b o hb e=>(sb.2 b hb).trans e) f0 f1 f3 f4 f5;obtain⟨b,hb⟩:=hr i _<|Dn hi;exact⟨_,rfl,nz (s:={s with heap:=h'}) (n:="dict_keyiterator") st' rfl rfl (by decide) ⟨.ref b,H,I1,by rw[hb];rfl,⟨rfl,_,Dn hi,by rw[hb];rfl⟩,st',fun b hb=>(hf b hb).1⟩⟩
 done:=by
  intro X hP hw hK hc i pins s σ H E I hf st hg;subst hP hw hK;obtain⟨ha,hi⟩:=hg;subst hi;obtain⟨f0,f1,f2,f3,f4,f5⟩:=hf it (by simp);have ho:s.heap.get? a=some o:=(I.hok a _ ha).1;exact vI (I.ok.hd hc) st ho hdat fun h' eb=>⟨rfl,I.turned (t':=s.toks) (fun b o hb e=>eb b o hb e) f0 f1 f3 f4 f5⟩
 self:=fun A i s Q E st hQ=>by
  have hT:s.TypeIs (.ref it) "dict_keyiterator":=⟨_,st,rfl⟩
  refine Hf hT HQ<|DU HQ hT F.entry_dict_keyiterator_iter ?_<|F.args_dict_keyiterator_iter_1 _;show wpAny _ _ (ret<|.ref it) _ _ s;exact CS ⟨_,rfl,"dict_keyiterator",_,hT,EA.lookup,hQ⟩
def q0(prog:Dj)(w:Dp)(K:CT)(tl:TE):TI:=fun σ H R=>tl σ H fun x H1=>∃G a o kvs,x=.ref a/\Same G H1/\H1 a=some (XO a o)/\(a==sysModules)=false/\DictP prog w K G o kvs/\∀es ep,o.data=.dict es ep->es.size=kvs.length->(∀(i:Nat)(e:FL)(p:(Int×Int)×V),es[i]? =some e->kvs[i]? =some p->∃b,e.key=.ref b/\SqT K G b [.int p.1.1,.int p.1.2])->R (BW a o es) H1
theorem DictP.ents{prog:Dj}{w:Dp}{K:CT}{G:Hp}{o:Obj}{kvs:List ((Int×Int)×V)}(h:DictP prog w K G o kvs):∃es ep,o.ExactDict/\o.data=.dict es ep/\es.size=kvs.length/\∀(i:Nat)(e:FL)(p:(Int×Int)×V),es[i]? =some e->kvs[i]? =some p->∃b,e.key=.ref b/\SqT K G b [.int p.1.1,.int p.1.2]:=by
 obtain⟨es,ep,ys,hx,hdat,he,nd,rel⟩:=h;refine⟨es,ep,hx,hdat,by rw[<-DJ,he,Dx];exact(Paired.length rel).symm,fun i e p h1 h2=>?_⟩;rw[<-Dd,he,D7]at h1;obtain⟨y,h3,rfl⟩:=E9.mp h1;obtain⟨p',h4,h5,h6,h7⟩:=iV rel h3;rw[h2]at h4;cases h4;exact⟨y.2.1,rfl,h6⟩
section
variable{X:Cx}{K:CT}{pos pos':Pos}{o i e tg l:Expr}{td ty tv tl tk:TE}{pins:List (Addr×Obj)}{σ:St}{H:Hp}{s:CV}
theorem vM(hl:PE X l tl):PI X tg l (q0 X.prog X.w X.K tl):=by
 intro pins s σ H R I h;refine bP (hl pins s σ H _ I h) fun v s1 zz=>?_;obtain⟨x,H1,I1,r1,q1⟩:=zz;obtain⟨G,a,ob,kvs,e,eG,ha,lo,d,q⟩:=q1;subst e;cases r1;obtain⟨es,ep,hx,hdat,hs,at_⟩:=d.ents;have ho:s1.heap.get? a=some ob:=(I1.hok a _ ha).1;refine t9 lo ho hx hdat ?_;refine⟨s1.heap.objs.size,[s1.heap.objs.size],_,_,H1,rfl,I1.kept (t':=s1.toks) fun b o e=>CQ _ e,pZ hdat hx<|fun i e he=>?_,D6 _ rfl,fun b hb=>?_,q es ep hdat hs at_⟩
 ·have hi:i< kvs.length:=by have:=(F9.mp he).1;omega
  obtain⟨b,hb,_⟩:=at_ i e _ he<|CZ hi;exact⟨b,hb⟩
 ·have e:b=s1.heap.objs.size:=by simpa using hb
  subst e;exact I1.fpOk (D0 _)<|I1.hok.fresh<|D0 _
def vN(prog:Dj)(w:Dp)(K:CT)(td ty:TE):TE:=fun σ H Q=>td σ H fun x H1=>ty σ H1 fun y H2=>∃G a kvs b k v,x=.ref a/\PDa prog w K G H2 a kvs/\y=.ref b/\SqT K G b [.int k.1,.int k.2]/\i9 kvs k=some v/\Q v H2
theorem xn(hu:X.A.units+1<cLine)(ho:PE X o td)(hi:PE X i ty)(hs:u0 i):PE X (.Subscript o i pos) (vN X.prog X.w X.K td ty):=by
 intro pins s σ H Q I h;refine qF Ip.lookup hs<|bP (ho pins s σ H _ I h) fun u s1 zz=>?_;obtain⟨x,H1,I1,rx,q1⟩:=zz;refine bP (hi pins s1 σ H1 _ I1 q1) fun iv s2 zz=>?_;obtain⟨y,H2,I2,ry,G,a,kvs,b,k,v,ex,g,ey,hb,ev,q2⟩:=zz;subst ex ey;obtain rfl:u=Eg a:=rx;obtain rfl:iv=Eg b:=ry;obtain⟨xs,rel,dd,hx⟩:=g.h I2;obtain⟨ob,eG,ha,lo,_,_⟩:=g;have hT:s2.TypeIs (.ref a) "dict":=by
  obtain⟨od,es,ep,h1,h2,_⟩:=id dd;exact⟨od,h1,h2.1⟩
 refine⟨hT,?_⟩;obtain⟨w',hw,rw'⟩:=Me (v:=v) (o:=(atKey xs<|jd k).map (·.2)) (by rw[<-ev];exact rel.val k);obtain⟨p,hp,rfl⟩:=E9.mp hw;exact wpAny_getItem_heap (Kf hu) (gb I2<|EZ eG hb) dd hp ⟨v,H2,I2.tok _,rw',q2⟩
def vO(prog:Dj)(w:Dp)(K:CT)(td ty tv:TE):TE:=fun σ H Q=>td σ H fun x H1=>∃a,x=.ref a/\(ty σ H1 fun y H2=>tv σ H2 fun z H3=>∃G kvs b k,PDa prog w K G H3 a kvs/\y=.ref b/\SqT K G b [.int k.1,.int k.2]/\Q ((i9 kvs k).getD z) H3)/\∃o kvs G,Same G H1/\H1 a=some (XO a o)/\(a==sysModules)=false/\DictP prog w K G o kvs
theorem tm{x:Option V}{y:Option CU}{z:V}{u:CU}(r:RelO x y)(rz:RelV z u):RelV (x.getD z) (y.getD u):=by
 cases x<;>cases y;·exact rz
 ·exact r.elim
 ·exact r.elim
 ·exact r
theorem oG{apos cpos:Pos}{k d:Expr}(hu:X.A.units+1<cLine)(ho:PE X o td)(hk:PE X k tk)(hd:PE X d tv)
  (hbase:attributeBase o (CY "get") X.env (eval o X.env)=eval o X.env:=by rfl)
  (hfew:((backTo cpos<|starEach [k,d] X.env).all (fun x=> !x.1) && (backToKw cpos<|keywordEach [] X.env).all (fun x=>x.1.isSome)
   &&decide (([k,d]:List Expr).length+([]:List Jb).length+(if([]:List Jb).isEmpty then 0 else 1)<30))=true:=by rfl)
  (hline:(apos.endLine==cpos.line)=true:=by rfl) (hs:starEach [k,d] X.env=[(false,eval k X.env),(false,eval d X.env)]:=by rfl):
  PE X (.Call (.Attribute o (CY "get") apos) [k,d] [] cpos) (vO X.prog X.w X.K td tk tv):=by
 intro pins s σ H Q I h;refine Jc hbase hfew hline rfl<|bP (ho pins s σ H _ I h) fun v s1 zz=>?_;obtain⟨x,H1,I1,r1,a,e,q1,ob,kvs,G,eG,ha,lo,dp⟩:=zz;subst e;cases r1;obtain⟨es,ep,hx,hdat,_⟩:=dp.ents;have hob:s1.heap.get? a=some ob:=(I1.hok a _ ha).1;refine⟨"dict","dict.get",PySem.F.plainAttrs_dict,PySem.F.slot_dict_get,PySem.F.type_dict_get,⟨ob,hob,hx.1⟩,fun b e2=>?_,?_⟩
 ·cases e2;exact⟨ob,hob,hx.2.1⟩
 ·rw[hs];refine wpAny_dict_get2_heap (knd:=tupleKind<|mixKind X.prog X.w) (Kf hu) lo<|bP (hk pins s1 σ H1 _ I1 q1) fun u s2 zz=>?_;obtain⟨y,H2,I2,r2,q2⟩:=zz;refine bP (hd pins s2 σ H2 _ I2 q2) fun t s3 zz=>?_;obtain⟨z,H3,I3,r3,G3,kvs3,b,kk,g3,ey,hb,q3⟩:=zz;subst ey;obtain rfl:u=Eg b:=r2;obtain⟨xs,rel,dd,hz⟩:=g3.h I3;obtain⟨_,eG3,_⟩:=g3;exact⟨b,jd kk,xs,rfl,gb I3<|EZ eG3 hb,dd,_,H3,I3.tok _,tm (rel.val kk) r3,q3⟩
def vP(cap:List (Option Nat))(wi:TI)(g:TG)(tf:TT)(tb:TB):TE:=fun σ H Q=>wi σ H fun J H1=>∀D,H1 D=none->(D==sysModules)=false->sL g tf tb D (br cap σ) (cZ H1 D<|XO D kP) (fun H'=>Q (.ref D) H') J
def q9(prog:Dj)(w:Dp)(K:CT)(tk tv:TE):TB:=fun D σ H N=>tk σ H fun y H1=>tv σ H1 fun v H2=>∃G kvs b k,PDa prog w K G H2 D kvs/\kvs.length<1000/\y=.ref b/\SqT K G b [.int k.1,.int k.2]/\∀o',DictP prog w K G o' (sf kvs k v)->N (cZ H2 D<|XO D o')
theorem vQ{Y:Cx}{kx vx:Expr}(hxe:Y.xe=fun _ _=>False)(hu:Y.A.units+1<cLine)(hk:PE Y kx tk)(hv:PE Y vx tv):PB Y (ym kx vx Y.env) (q9 Y.prog Y.w Y.K tk tv):=by
 intro D pins s σ H N I h;have hk':=hk pins s σ H _ I h;rw[hxe]at hk';refine CN<|bP hk' fun u s1 zz=>?_;obtain⟨x,H1,I1,r1,q1⟩:=zz;have hv':=hv pins s1 σ H1 _ I1 q1;rw[hxe]at hv';refine CN<|EL<|bP hv' fun r s2 zz=>?_;obtain⟨y,H2,I2,r2,G,kvs,b,k,g,hl,ex,hb,q⟩:=zz;subst ex;obtain rfl:u=Eg b:=r1;obtain⟨xs,rel,dd,hx⟩:=g.h I2;obtain⟨ob,eG,ha,lo,_,_⟩:=g;refine CN (Fz (EL (wpAny_dictSet_heap (hsz:=by rw[Ej];omega) (show(tupleKind<|mixKind Y.prog Y.w).room Y.A from Nat.lt_of_succ_lt hu) (gb I2<|EZ eG hb) dd fun h' dd' hs=>?_)));obtain⟨o',es,ep,hq,h2,h3,h4,_,h5⟩:=dd';exact⟨σ,_,wI I2 (by rw[ha];exact Ga) hs ⟨o',hq⟩<|MX hq,fun _ _ e=>e,q o' ⟨es,ep,_,h2,h3,h4,h5,rel.put k hb r2⟩⟩
variable{scope:Gi}{N:List Str}{cap:List (Option Nat)}{iter kx vx:Expr}{ifs:List Expr}{wi:TI}{g:TG}{tf:TT}{tb:TB}{body:Env->CU->Sem Unit}
theorem j5(hu:X.A.units+1<cLine)(S:CompScope X scope N cap)(hc:X.calm=true)(hi:PI X tg iter wi)
  (hg:∀s H C fp,PG (aA X scope N s H C fp) tg g) (hf:∀s H C fp,tO (aA X scope N s H C fp) ifs tf) (hk:∀s H C fp,PE (aA X scope N s H C fp) kx tk) (hv:∀s H C fp,PE (aA X scope N s H C fp) vx tv)
  (hs:∀x,foldedSetIterable iter X.env x=pure x:=by intro _;rfl):PE X (.DictComp kx vx [⟨tg,iter,ifs,0⟩] scope pos) (vP cap wi g tf<|q9 X.prog X.w X.K tk tv):=by
 intro pins s σ H Q I h;rw[arm_eval_DictComp];have frc:∀x∈scope.names,x.2=.free->∃c,X.env.cells.lookup x.1=some c:=fun x hx hk=>I.ok.has x.1<|S.free x hx hk;refine FQ (use:=none) rfl hs (dP frc) S.kind (fR S)<|bP (hi pins s σ H _ I h) fun v s1 h1=>bP h1 fun itv s2 h2=>?_;obtain⟨it,fp,tn,J,H2,rfl,I2,T,st2,f2,w⟩:=h2;refine Ec ?_;have hz:H2 s2.heap.objs.size=none:=I2.hok.fresh<|D0 _;have I3:Inv X pins σ (cZ H2 s2.heap.objs.size<|XO s2.heap.objs.size kP) {s2 with heap:=s2.heap.push {cls:=.type "dict",dict:=none,data:=.dict #[]}}:=
  I2.laid (a:=s2.heap.objs.size) (t':=s2.toks) (fun _ _ q=>CQ _ q) (D0 _) (MX (o:=kP)<|D6 _ rfl)
 have nD:∀b∈fp,b≠s2.heap.objs.size:=fun b hb=>by
  obtain⟨o,e,_⟩:=T.obj _ _ st2 b hb;exact Dv<|Dc e
 have f3:∀b∈fp,FpOk X pins (cZ H2 s2.heap.objs.size<|XO s2.heap.objs.size kP) b:=fun b hb=>⟨by rw[aw<|nD b hb];exact(f2 b hb).1,(f2 b hb).2⟩
 refine kC (RR:=fun C=>compPost (model X.prog X.w) X.A X.xe none (EP X pins σ Q) (.ref s2.heap.objs.size) C) (body:=ym kx vx) S hc CompE.dict rfl hg hf (fun s H C fp=>vQ (Y:=aA X scope N s H C fp) rfl hu (hk s H C fp)<|hv s H C fp) (fun _ _ _=>rfl) I3 T (T.keep _ _ _ st2 fun b hb o e=>CQ _ e) f3 (w _ hz<|beq_eq_false_iff_ne.mpr<|H9<|Dv I2.big) fun C σ' H' s' hC I' q=>?_;obtain⟨m,hn,_⟩:=I'.loc;exact⟨m,hn,fun h' hs'=>⟨.ref _,H',lP I3 f3 hC I' hs',rfl,q⟩⟩
end
end L2
namespace Wb
open PySem L2 Mi
section
variable{Er:Nat->Prop}{α β:Type}{prog:Dj}{w:Dp}{K:CT}{W W' W0 Wb W1 W2:Wd}{σ:St}{t te tk tv td ti ta:TE}{R:Rp α}{i:Nat}{p:Addr}{D:Ends}{r:TS}
def isPD(prog:Dj)(w:Dp)(K:CT)(R:Rp α):Rp (List<|(Int×Int)×α):=fun G kvs v=>∃p o vs,v=.ref p/\G p=some (XO p o)/\(p==sysModules)=false/\DictP prog w K G o vs/\vs.length<=1000/\vs.length=kvs.length/\∀(i:Nat)(q:(Int×Int)×V)(x:(Int×Int)×α),vs[i]? =some q->kvs[i]? =some x->q.1=x.1/\R G x.2 q.2
instance zkeep68[Mono R]:Mono (isPD prog w K R):=⟨fun e⟨p,o,vs,h0,h1,h2,h3,h4,h5,h6⟩=>⟨p,o,vs,h0,e _ _ h1,h2,dictP_same h3 e,h4,h5,fun i q x a b=>⟨(h6 i q x a b).1,CM e (h6 i q x a b).2⟩⟩⟩
theorem OwP.frz[Mono R]{kvs:List ((Int×Int)×α)}(o:OwP prog w K R W p kvs)(e:Ext W0 W)(hp:W0.H p=none):
  ∃W',W'.H=W.H/\Ext W0 W'/\Same W.G W'.G/\isPD prog w K R W'.G kvs (.ref p)/\∀q,q≠p->W'.G q=W.G q:=by
 obtain⟨ob,vs,a,lo,b,hl,c,d⟩:=o.h;exact⟨W.frz p _ a,rfl,e.frz hp a o.g,cR o.g,⟨p,ob,vs,rfl,aH,lo,dictP_same b<|cR o.g,hl,c,fun i q x h1 h2=>⟨(d i q x h1 h2).1,CM (cR o.g) (d i q x h1 h2).2⟩⟩,fun q hq=>aw hq⟩
theorem EVp.ev[Mono R]{m:Res (List<|(Int×Int)×α)}(h:EVp prog w K Er t σ W R m):EV Er t σ W (sh<|isPD prog w K R) m:=fun W1 e1 Q k=>h W1 e1 Q (k.imp fun xs kx p W2 e2 hp o=>by
 obtain⟨W3,hH,e3,_,r,_⟩:=o.frz e2 hp;rw[<-hH];exact kx (.ref p) W3 e3 r)
theorem kQ[Mono R]{mk:Res (Int×Int)}{mv:Res α}{D:Addr}(eb:Ext Wb W)(hD:Wb.H D=none)(h:EV Er tk σ W (sh<|isT2 K isI isI) mk)(h':EV Er tv σ W (sh R) mv):BV Er (q9 prog w K tk tv) σ Wb W (OwP prog w K R) D (fun kvs=>mk.bind fun k=>mv.bind fun a=>kO kvs k a):=fun W1 xs N e1 o k=>
 h W1 e1 _ ((CO k).imp fun b kb x W2 e2 hx=>h' W2 (e1.trans e2) _ ((CO kb).imp fun a ka v W3 e3 hv=>by
  obtain⟨h3,h4⟩:=bw ka;have o':=o.mono (e2.trans e3);obtain⟨ob,vs,o1,lo,o2,hl,o3,o4⟩:=o'.h;obtain⟨p1,p2⟩:=vK o3 o4 (k:=b) hv;have e:=(e1.trans e2).trans e3;obtain⟨q,x1,x2,rfl,t1,r1,r2⟩:=hx;cases r1;cases r2;refine⟨W3.G,vs,q,b,⟨ob,W3.ok,o1,lo,o2,hl⟩,by omega,rfl,EZ e3.g t1,fun o2' d'=>?_⟩;exact h4 (W3.mut D (XO D o2') o'.g) (e2.trans e3).g ((eb.trans e).mut hD o'.g) ⟨o'.g,o2',_,aH,lo,d',by have:=vL (kvs:=xs) (k:=b) (a:=a);omega,p1,p2⟩))
theorem kR{R0:Rp β}[Mono R]{cap:List (Option Nat)}{wi:TI}{g:TG}{tf:TT}{t:TB}{mi:Res (List β)}{f:β->List ((Int×Int)×α)->Res (List<|(Int×Int)×α)}(hi:IV Er wi σ W R0 mi)
  (hs:∀Wb D W2 a v s(M:Hp->Prop),Same W.G W2.G->Ext W Wb->Wb.H D=none->Ext Wb W2->OwP prog w K R W2 D s->R0 W2.G a v->(f a s).OkE Er (fun s'=>∀W',Same W2.G W'.G->Ext Wb W'->OwP prog w K R W' D s'->M W'.H)->g v (br cap σ) W2.H fun σ2 H2=>Keep (br cap σ) σ2/\tf σ2 H2 fun b H3=>if b=true then t D σ2 H3 M else M H3):
  EVp prog w K Er (vP cap wi g tf t) σ W R (mi.bind fun xs=>bL f xs []):=fun W1 e1 Q k=>
 hi W1 e1 _ ((CO k).imp fun xs kx J W2 e2 hy D hD lo=>by
  refine mP (W:=W2) (W1:=W2.mut D (XO D kP) (W2.gnone hD)) (Wb:=W2) (O:=OwP prog w K R) (s0:=[]) hy (.inr (.refl _)) (.own _ hD) ⟨W2.gnone hD,kP,[],aH,lo,vJ ..,by decide,rfl,fun i q x h=>by simp at h⟩ (fun W3 a v s M e3 eb3 o3 r k3=>hs W2 D W3 a v s M ((e1.trans e2).g.trans e3) (e1.trans e2) hD eb3 o3 r k3) (fun _ _ _ e o=>o.mono e) ?_;exact kx.imp fun s' ks W' z1 z2 z3=>ks D W' (e2.trans z2) (bp e2.h hD) z3)
theorem kS{H:Hp}:∀(vs:List ((Int×Int)×V))(kvs:List ((Int×Int)×α)),vs.length=kvs.length->(∀(i:Nat)(q:(Int×Int)×V)(x:(Int×Int)×α),vs[i]? =some q->kvs[i]? =some x->q.1=x.1/\R H x.2 q.2)->∀k,(match look kvs k with|none=>i9 vs k=none|some a=>∃v,i9 vs k=some v/\R H a v)
 | [],[],_,_,k=>rfl
 | [],_::_,h,_,_=>by simp at h
 |_::_,[],h,_,_=>by simp at h
 |q::vs,x::kvs,hl,h,k=>by
  obtain⟨h1,h2⟩:=h 0 q x rfl rfl;have ih:=kS vs kvs (by simpa using hl) (fun i q x a b=>h (i+1) q x a b) k;by_cases e:x.1=k
  ·have a:look (x::kvs) k=some x.2:=by simp[look,F0,e]
   rw[a,gz<|h1.trans e];exact⟨q.2,rfl,h2⟩
  ·have a:look (x::kvs) k=look kvs k:=by simp[look,F0,e]
   rw[a,gA<|fun z=>e<|h1.symm.trans z];exact ih
theorem iH[Mono R]{md:Res (List<|(Int×Int)×α)}{mk:Res (Int×Int)}(hd:EV Er td σ W (sh<|isPD prog w K R) md)(hk:EV Er tk σ W (sh<|isT2 K isI isI) mk):EV Er (vN prog w K td tk) σ W (sh R) (md.bind fun d=>mk.bind fun k=>getD d k):=fun W1 e1 Q k=>
 hd W1 e1 _ ((CO k).imp fun d kd x W2 e2 hx=>hk W2 (e1.trans e2) _ ((CO kd).imp fun b kb y W3 e3 hy=>by
  obtain⟨p,o,vs,rfl,h1,h2,h3,h4,h5,h6⟩:=(CM (R:=isPD prog w K R) e3.g hx)
  obtain⟨q,x1,x2,rfl,t1,r1,r2⟩:=hy;cases r1;cases r2;obtain⟨a,ha,ka⟩:=fT kb;have lr:=kS vs d h5 h6 b;rw[ha]at lr;obtain⟨v,hv,rv⟩:=lr;exact⟨W3.G,p,vs,q,b,v,rfl,⟨o,W3.ok,W3.ok _ _ h1,h2,h3,h4⟩,rfl,t1,hv,ka v W3 (e2.trans e3) rv⟩))
theorem oH[Mono R]{md:Res (List<|(Int×Int)×α)}{mk:Res (Int×Int)}{mz:Res α}(hd:EV Er td σ W (sh<|isPD prog w K R) md)(hk:EV Er tk σ W (sh<|isT2 K isI isI) mk)(hz:EV Er tv σ W (sh R) mz):EV Er (vO prog w K td tk tv) σ W (sh R) (md.bind fun d=>mk.bind fun k=>mz.bind fun z=>.ok<|oF d k z):=fun W1 e1 Q k=>
 hd W1 e1 _ ((CO k).imp fun d kd x W2 e2 hx=>by
  obtain⟨p,o,vs,rfl,h1,h2,h3,h4,h5,h6⟩:=id hx;refine⟨p,rfl,hk W2 (e1.trans e2) _<|(CO kd).imp fun b kb y W3 e3 hy=>hz W3 ((e1.trans e2).trans e3) _<|(CO kb).imp fun z kz u W4 e4 hu=>?_,o,vs,W2.G,⟨W2.ok,W2.ok _ _ h1,h2,h3⟩⟩;have e34:=e3.trans e4;obtain⟨q,x1,x2,rfl,t1,r1,r2⟩:=hy;cases r1;cases r2;have lr:=kS vs d h5 (fun i q x a b=>⟨(h6 i q x a b).1,CM (R:=R) e34.g (h6 i q x a b).2⟩) b;refine⟨W4.G,vs,q,b,⟨o,W4.ok,W4.ok _ _<|e34.g _ _ h1,h2,dictP_same h3 e34.g,h4⟩,rfl,EZ e4.g t1,?_⟩;have kz:∀v W',Ext W1 W'->sh R W' (oF d b z) v->Q v W'.H:=kz;refine kz _ W4 (e2.trans e34) ?_;unfold oF;cases ha:look d b with
  |none=>
   rw[ha]at lr;have lr:i9 vs b=none:=lr;rw[lr];exact hu
  |some a=>
   rw[ha]at lr;obtain⟨v,hv,rv⟩:=lr;rw[hv];exact rv)
theorem vR[Mono R]{m:Res (List<|(Int×Int)×α)}(h:EV Er t σ W (sh<|isPD prog w K R) m):IV Er (q0 prog w K t) σ W (isT2 K isI isI) (m.bind fun d=>.ok (d.map (·.1))):=fun W1 e1 P k=>
 h W1 e1 _ ((CO k).imp fun d kd x W2 e2 hx=>by
  obtain⟨p,o,vs,rfl,h1,h2,h3,h4,h5,h6⟩:=hx;refine⟨W2.G,p,o,vs,rfl,W2.ok,W2.ok _ _ h1,h2,h3,fun es ep hdat hs at_=>kd _ W2 e2 fun W3 e3=>⟨fun i a ha=>?_,W3.ok _ _<|e3 _ _ h1,by rw[Dx,hs,h5]⟩⟩;rw[D7]at ha;obtain⟨x,hx,rfl⟩:=E9.mp ha;have hi:i<es.size:=by have:=(D5.mp hx).1;omega
  have hv:i<vs.length:=by omega
  refine⟨⟨W3.ok _ _<|e3 _ _ h1,hi⟩,fun y H'⟨z1,e,he,ry⟩=>⟨W3,z1.symm,.refl _,?_⟩⟩;obtain⟨b,hb,hq⟩:=at_ i e _ he<|CZ hv;have:=(h6 i _ x (CZ hv) hx).1;rw[this]at hq;rw[hb]at ry;have:y=.ref b:=by
   cases y<;>first|(cases ry;rfl)|(obtain⟨_,z⟩:=ry;cases z)|cases ry
  subst this;exact⟨b,_,_,rfl,EZ e3 hq,rfl,rfl⟩)
end
end Wb
open Wb.EVp renaming ev->MY
namespace L2
open PySem PySem.Spec PyProof.Rows Wb
theorem zr:isSubtype (Hq "range_iterator") (Hq "reversed")=pure false:=by rfl
section
variable{prog:Dj}{w:Dp}{A:DS}{E:CU->CV->Prop}{s:CV}
theorem hX{r:Addr}{n:Int}{t u v:Tok}{Q:CU->CV->Prop}(hr:IsRange s.heap r 0 n 1 t u v)(h0: -(2^61)<=n)(h1:n<2^61)
  (hQ:Q (.ref s.heap.objs.size) {s with heap:=s.heap.push {cls:=.type "range_iterator",data:=.fields #[rawInt (0+(Eo 0 n 1-1)*1),rawInt<|Eo 0 n 1,rawInt<|-1]}}):wpAny (model prog w) A (call (.type "reversed") [.ref r]) Q E s:=by
 have hT:s.TypeIs (.ref r) "range":=⟨_,hr,rfl⟩
 refine callType_other (U:="range_iterator") (Q₁:=fun obj s1=>s1.TypeIs obj "range_iterator"/\Q obj s1) rfl F.create_reversed ⟨_,_,F.mro_reversed⟩ F.made_reversed zr (F.typeCall_reversed_1 _) (codeAny_call_builtin F.plain_reversed_new F.entry_reversed_new ?_)<|fun obj s1 h=>h;rw[F.newCall_reversed_1];refine CS ?_;unfold EI.«reversed.__new__»;rw[newClass_reversed];refine CN<|CS ?_;show wpAny _ _ (Kg "reversed" _ _>>=_) _ _ s;refine CN<|CS ?_;refine CN (m:=checkCount "reversed" 1 1 _)<|CS ?_;show wpAny _ _ (specialOf (.ref r) (CY "__reversed__")>>=_) _ _ s;refine CN<|HJ hT JA.lookup ?_;show wpAny _ _ (bindSpecial (.builtin "range.__reversed__") (.ref r)>>=_) _ _ s;have hb:bindSpecial (.builtin "range.__reversed__") (.ref r)=pure (.builtin "range.__reversed__",[.ref r]):=by
  unfold bindSpecial;rw[F.type_range_reversed];rfl
 rw[hb];refine CN<|CS ?_;show wpAny _ _ (rule "reversed.__new__.own-method">>=_) _ _ s;refine CN<|Fe ?_;show wpAny _ _ (call (.builtin "range.__reversed__") [.ref r]>>=_) _ _ s;refine CN<|DU JA hT F.entry_range_reversed ?_<|F.args_range_reversed_1 _;unfold EI.«range.__reversed__»;refine CN (m:=selfOnly "range.__reversed__" _)<|CS ?_;show wpAny _ _ (Iu (.ref r)>>=_) _ _ s;refine CN ?_;unfold Iu;refine CN<|E7 hr rfl (x:=.int 0 t) rfl<|CN (m:=asInt? _)<|CS ?_;refine CN<|E7 hr rfl (x:=.int n u) rfl<|CN (m:=asInt? _)<|CS ?_;refine CN<|E7 hr rfl (x:=.int 1 v) rfl<|CN (m:=asInt? _)<|CS ?_;refine CS ?_;have hs:(Ei 0&&Ei n&&Ei 1&&Ei (-1)&&Ei (0-1)&&Ei (Eo 0 n 1))=true:=by
  have e:Eo 0 n 1=if 0<n then n else 0:=by
   unfold Eo;rw[if_pos (by decide)];split;·rw[Ma];omega
   ·rfl
  unfold Ei;rw[e];simp only[EC,decide_eq_true_eq];refine⟨⟨⟨⟨⟨by decide,by omega,by omega⟩,by decide⟩,by decide⟩,by decide⟩,?_,?_⟩<;>split<;>omega
 dsimp only;rw[hs];show wpAny _ _ (newFields "range_iterator" _>>=_) _ _ s;unfold newFields;refine CN<|Ec<|CS ⟨_,rfl,CS ?_⟩;exact⟨⟨_,D6 _ rfl,rfl⟩,hQ⟩
end
section
variable{X:Cx}{tg:Expr}
def AD(n:Nat):It:=⟨fun i _=>i<n,fun i H x H'=>H'=H/\x=.int ((n:Int)-1-i),fun i _=>n<=i⟩
theorem oI{P:Dj}{w:Dp}{K:CT}{tg:Expr}(it:Addr)(n:Nat):Turn P w K tg (AD n) [it] it (fun i h=>JG h it (((n:Int)-1)+i*(-1)) ((n:Int)-i)<|-1) where
 mem:=by simp
 obj:=fun i h st b hb=>by
  have e:b=it:=by simpa using hb
  subst e;exact⟨_,st,fun v z=>by
   have z':Hz _=Gm v:=z;cases z'⟩
 keep:=fun i h h' st k=>k it (by simp) _ st
 item:=by
  intro X hP hw hK hc i pins s σ H E I hf st hg;subst hP hw hK;obtain⟨f0,f1,f2,f3,f4,f5⟩:=hf it (by simp);have W:=Walks.range (prog:=X.prog) (w:=X.w) (I.ok.hd hc) it ((n:Int)-1) (-1) n;refine W.item i s _ _ hg st fun v h' tk hv st' kk=>?_;obtain⟨t,rfl⟩:=hv;have I1:Inv X pins σ H {s with heap:=h',toks:=tk}:=I.turned (fun b o hb e=>kk b o (by simpa using hb) e) f0 f1 f3 f4 f5;refine⟨_,rfl,nz (s:={s with heap:=h',toks:=tk}) (n:="range_iterator") st' rfl rfl (by decide) ⟨.int<|(n:Int)-1-i,H,I1,⟨t,?_⟩,⟨rfl,rfl⟩,st',fun b hb=>(hf b hb).1⟩⟩;congr 1;omega
 done:=by
  intro X hP hw hK hc i pins s σ H E I hf st hg;subst hP hw hK;obtain⟨f0,f1,f2,f3,f4,f5⟩:=hf it (by simp);exact J9 (I.ok.hd hc) st (by have:n<=i:=hg;omega) fun h' eb=>⟨rfl,I.turned (t':=s.toks) (fun b o hb e=>eb b o hb e) f0 f1 f3 f4 f5⟩
 self:=fun _ _ _ _ _ st h=>Ha st h
theorem gM{P:Dj}{w:Dp}{K:CT}{o i:Expr}{pos:Pos}{td ty:TE}(hP:X.prog=P)(hw:X.w=w)(hK:X.K=K)(hu:X.A.units+1<cLine)(ho:PE X o td)(hi:PE X i ty)(hs:u0 i):PE X (.Subscript o i pos) (vN P w K td ty):=by
 subst hP hw hK;exact xn hu ho hi hs
theorem tq{P:Dj}{w:Dp}{K:CT}{l:Expr}{tl:TE}(hP:X.prog=P)(hw:X.w=w)(hK:X.K=K)(hl:PE X l tl):PI X tg l (q0 P w K tl):=by
 subst hP hw hK;exact vM hl
def yr(ta:TA):TI:=fun σ H R=>ta σ H fun vs H1=>∃j:Int,vs=[.int j]/\ -(2^61)<=j/\j<2^61/\R (AD j.toNat) H1
theorem qa(n:Int):Eo 0 n 1=(n.toNat:Int):=by
 unfold Eo;rw[if_pos (by decide)];split;·rw[Ma];omega
 ·omega
theorem tu{a:Expr}{ta:TA}{p p2 pos pos2:Pos}(hg:Gl X "reversed")(hm:X.mg "reversed"=none)(hg2:Gl X "range")(hm2:X.mg "range"=none)(ha:PA X [a] ta)
  (hs0:starEach [.Call (.Name "range" p2) [a] [] pos2] X.env=[(false,eval (.Call (.Name "range" p2) [a] [] pos2) X.env)]:=by rfl)
  (hs:starEach [a] X.env=[(false,eval a X.env)]:=by rfl):PI X tg (.Call (.Name "reversed" p) [.Call (.Name "range" p2) [a] [] pos2] [] pos) (yr ta):=by
 intro pins s σ H R I h;refine Mm<|fM I hg hm boot_reversed<|Eh ?_ hs0 rfl;rw[hs0];show wpAny _ _ (spliced ((false,eval (.Call (.Name "range" p2) [a] [] pos2) X.env)::[])) _ _ s;refine K6 ?_;refine Mm<|fM I hg2 hm2 boot_range<|Eh (bP (ha pos2 pins s σ H _ I h) fun us s1⟨vs,H1,I1,r1,q1⟩=>?_) hs rfl;obtain⟨j,e,q1,q2,q⟩:=q1;subst e;cases r1 with
 |cons r rr=>
  cases rr;obtain⟨t,rfl⟩:=r;refine call_range_1<|Kk ?_;refine hX (Ml ..) q1 q2 ?_;rw[qa];have st:∀h:Heap,JG (h.push {cls:=.type "range_iterator",data:=.fields #[rawInt (0+((j.toNat:Int)-1)*1),rawInt (j.toNat:Int),rawInt<|-1]}) h.objs.size (((j.toNat:Int)-1)+((0:Nat):Int)*(-1)) ((j.toNat:Int)-((0:Nat):Int)) (-1):=fun h=>by
   have e1:((j.toNat:Int)-1)+((0:Nat):Int)*(-1)=0+((j.toNat:Int)-1)*1:=by omega
   have e2:(j.toNat:Int)-((0:Nat):Int)=(j.toNat:Int):=by omega
   rw[e1,e2];exact D6 _ rfl
  refine Ha (st _) ?_;refine⟨_,[_],_,_,H1,rfl,I1.kept<|fun b o e=>CQ _<|CQ _ e,oI _ j.toNat,st _,fun b hb=>?_,q⟩;have e:=Gh.mp hb;subst e;have hle:∀o:Obj,s1.heap.objs.size<=(s1.heap.push o).objs.size:=fun o=>by rw[E8];exact IE _
  exact I1.fpOk (hle _)<|I1.hok.fresh<|hle _
end
end L2
namespace Wb
open PySem L2 Mi
section
variable{Er:Nat->Prop}{W:Wd}{σ:St}{ta:TE}
theorem tx{m:Res Int}(h:EV Er ta σ W (sh isI) m):IV Er (yr<|ao ta aU) σ W isI (m.bind fun i=>mZ i):=fun W1 e1 P k=>
 h W1 e1 _ ((CO k).imp fun i ki v W2 e2 hv=>by
  cases hv;obtain⟨⟨h1,h2⟩,h3⟩:=bw ki;refine⟨i,rfl,h1,h2,h3 _ W2 e2 fun W3 e3=>⟨fun j a ha=>?_,?_⟩⟩
  ·unfold fB at ha;have hj:j<i.toNat:=by
    have:=(D5.mp ha).1;simpa using this
   rw[FH (by simpa using hj),Dx,IG,D7,Fx (by omega)]at ha;cases ha;refine⟨hj,fun y H'⟨z1,z2⟩=>⟨W3,z1.symm,.refl _,?_⟩⟩;rw[z2];show G6 _=G6 ((i.toNat-1-j:Nat):Int);congr 1;omega
  ·show i.toNat<=(fB i).reverse.length;unfold fB;simp)
end
end Wb
namespace L2
open PySem PySem.Spec PyProof.Rows
def BX:A2:=fun x y H Q=>∃i j,x=.str i/\y=.str j/\i.length+j.length<=sizeLine/\Q (.str<|i++j) H
theorem xo{X:Cx}:AN X .Add BX:=nE
section
variable{X:Cx}
theorem fb(i:Nat){x:Str}{pos:Pos}(hN:X.N.Nodup:=by exact MM (by assumption))(hi:X.N[i]? =some x:=by rfl)(hx:yd X.env.scope x:=by first|exact M6 rfl|exact Lj rfl)(hf:X.fn x=true\/X.env.scope.names.lookup x=some .local:=by first|exact .inl rfl|exact .inr rfl|assumption):PG X (.Name x pos) (aR i):=bj hN hi hx hf
theorem cn(i:Nat){x:Str}{e:Expr}{te:TE}{pos pos':Pos}(he:PE X e te)(hN:X.N.Nodup:=by exact MM (by assumption))(hi:X.N[i]? =some x:=by rfl)(hx:yd X.env.scope x:=by first|exact M6 rfl|exact Lj rfl)(hs:swapsWith e (some<|.Name x pos') pos.line X.env=pure false:=by rfl)(hf:X.fn x=true\/X.env.scope.names.lookup x=some .local:=by first|exact .inl rfl|exact .inr rfl|assumption):PS X (.Assign [.Name x pos'] e pos) (bR te<|aR i):=yK hN hi hx he hs hf
theorem cb{x:Str}{ps:List Str}{k:Nat}{sp:Sp}{p pos:Pos}{e:Expr}{es:List Expr}{t:TA}(C:Cal X.prog X.w X.K X.mg X.base x ps k sp)(ha:PA X (e::es) t)(hr:Room k X.A:=by exact Room.mono (by assumption) (by decide))(hg:Gl X x:=by rfl)
  (hdb:(x==("__debug__" :Str))=false:=by decide) (he:starEach (e::es) X.env=(false,eval e X.env)::starEach es X.env:=by rfl) (hpl:(backTo pos<|starEach es X.env).any (·.1)=false:=by rfl):PE X (.Call (.Name x p) (e::es) [] pos) (aT sp [] E0 t):=ui C hr hg ha hdb he hpl
end
end L2
namespace Wb
open PySem L2 Mi
section
variable{Er:Nat->Prop}{W:Wd}{σ:St}{te:TE}{D:Ends}{r:TS}{i:Nat}
theorem xp{a:Tx}{m:Res Tx}{σ':Tx->St}(h:EV Er te σ W (sh isS) m)(q:(m.bind fun b=>jm a b).OkE Er fun c=>∀W',Ext W W'->D.nx (σ' c) W'.H)(hi:σ[i]? =some (some<|.str<|aM a):=by rfl)(hσ:∀c,σ.set i (some<|.str<|aM c)=σ' c:=by intro _;rfl):wy i te BX D σ W.H:=
 ⟨.str<|aM a,hi,h W (.refl _) _ ((CO q).imp fun b kb v W' e hv=>by
  cases hv;obtain⟨h3,h4⟩:=bw kb;refine⟨aM a,aM b,rfl,rfl,?_,?_⟩;·rw[dg,dg,Ej];unfold Mi.cap at h3;omega
  ·have:=h4 W' e;rw[<-hσ,<-jM]at this;exact this)⟩
theorem aN{i:Nat}{a:Int}(h:σ[i]? =some (some<|.int a):=by rfl):EV Er (bQ i) σ W (sh isI) (.ok a):=jX (R:=sh isI) (v:=.int a) rfl h
theorem cy{i:Nat}{a:Tx}(h:σ[i]? =some (some<|.str<|aM a):=by rfl):EV Er (bQ i) σ W (sh isS) (.ok a):=jX (R:=sh isS) (v:=.str<|aM a) rfl h
theorem AU{i:Nat}{a:Bool}(h:σ[i]? =some (some<|.bl a):=by rfl):EV Er (bQ i) σ W (sh isB) (.ok a):=jX (R:=sh isB) (v:=.bl a) rfl h
theorem aL{α:Type}{R:Rp α}[Mono R]{i:Nat}{a:α}{v:V}(r:R W.G a v)(h:σ[i]? =some (some v):=by rfl):EV Er (bQ i) σ W (sh R) (.ok a):=jX (R:=sh R) r h
end
abbrev qA(K:CT):=isT3 K isS isS isI
abbrev qB(K:CT):=isT3 K isS isS isS
abbrev qC(K:CT):=isT2 K isI isI
abbrev qD(K:CT):=isL<|qB K
abbrev qE(K:CT):=isL<|qC K
def DI(K:CT)(x:Str)(st:Stmt)(ps:List Str):Prop:=∃f fd,Fun K x x st f fd/\DR K mainGlobals x=some (some<|.ref f)/\Binds K fd ps []
section
variable{P:Dj}{w:Dp}{K:CT}{mg:Str->Option CU}{base h:Heap}{x:Str}{st:Stmt}{ps:List Str}{n:Nat}{sp:Sp}{f:Addr}
def AE:List Str->List CU->List CU
 | [],_=>[]
 |_::r,us=>us.headD .none::AE r us.tail
theorem vS:∀(ps:List Str)(us:List CU),us.length=ps.length->AE ps us=us
 | [],us,h=>(List.eq_nil_of_length_eq_zero h).symm
 |_::r,[],h=>by cases h
 |_::r,a::us,h=>by
  show a::AE r us=_;rw[vS r us<|Nat.succ.inj h]
theorem DI.mk{oc:CU}{od an:Option Addr}{osl:Array (Option CU)}{kV doc pm cdv ct:CU}(da:DR K mainGlobals x=some (some<|.ref f))(dl:K.lookup f=some ⟨oc,od,.func<|Fj x x (defArgs st) (defBody st) (defScope st) .none kV doc pm an cdv ct,osl⟩)
  (dc:Gu K cdv x=true) (dk:FV K (.ref f)=true) (db:∀(kV doc pm:CU)(an:Option Addr)(cdv ct:CU)(us:List CU),bindArgs (Fj x x (defArgs st) (defBody st) (defScope st) .none kV doc pm an cdv ct) ⟨AE ps us,[]⟩=pure (ps.zip<|AE ps us)):DI K x st ps:=
 ⟨f,_,mC dl dc dk,da,(mC dl dc dk).binds fun kV doc pm an cdv ct us hl=>by
  have:=db kV doc pm an cdv ct us;rw[vS ps us hl]at this;exact this⟩
theorem DI.cal(d:DI K x st ps)(X:K.In h)(G:h.Ns mainGlobals mg)(r:∀{f fd},Fun K x x st f fd->FnOk P w K mg base CX0 n f fd ps sp):Cal P w K mg base x ps n sp:=by
 obtain⟨f,fd,F,a,b⟩:=d;exact⟨f,fd,r F,Fn X G a,F.kp,b⟩
end
end Wb
namespace L2
open PySem PySem.Spec PyProof.Rows Wb
end L2
namespace Wb
open PySem L2 Mi
end Wb
namespace Mi
noncomputable section
@[irreducible]noncomputable def AW(Z0f:List Int)(l_k:Int):Res Int:=if(decide<|l_k<(Z0f.length:Int))then fA Z0f l_k else(jS ((l_k*48271)+(11:Int))<|(Z0f.length:Int)+(7:Int)).bind fun y8=>CW<|y8%1000003
def ir(Z0f:List Int)(l_k:Int):Res Int:=AW Z0f l_k
@[irreducible]noncomputable def zM(Z05:Int)(Z1h:Int)(a19:Int)(s20:(Int×Int×(List Int))):Res (Int×Int×(List Int)):=((if(decide<|(1000000000000000000:Int)<=dX Z05)then CW (decide<|(0:Int)<s20.2.1)else CW false).bind fun y45=>(if y45 then((jU s20.2.1 Z1h).bind fun y56=>iw s20.2.2 y56).bind fun y55=>(jT s20.2.1 Z1h).bind fun y59=>CW (y59,y55)else((((jS ((((s20.1*48271)+(7919:Int))+a19)%2147483647)<|(((s20.1*48271)+(7919:Int))+a19)%2147483647).bind fun y63=>CW<|y63%1000003).bind fun y64=>jU y64 Z1h).bind fun y69=>iw s20.2.2 y69).bind fun y68=>CW (s20.2.1,y68):Res (Int×(List Int)))).bind fun s70=>CW (((((s20.1*48271)+(7919:Int))+a19)%2147483647),s70.1,s70.2)
@[irreducible]noncomputable def AX(Z05:Int)(Z0t:Int)(Z1h:Int):Res (List Int):=((gC Z0t).bind fun y78=>bL (zM Z05 Z1h) y78 (((dX Z05)%2147483647),dX Z05,([]:List Int))).bind fun s79=>CW s79.2.2
def iO(Z05:Int)(Z0t:Int)(Z1h:Int):Res (List Int):=AX Z05 Z0t Z1h
@[irreducible]noncomputable def zN(y3:Int)(y8:List Int)(a15:Int)(s16:Tx):Res Tx:=(((((fA y8 (4:Int)).bind fun y39=>((jU a15 y3).bind fun y38=>CW<|y38*7).bind fun y40=>CW<|y39+y40).bind fun y41=>CW<|y41%26).bind fun y42=>fD ([97,98,99,100,101,102,103,104,105,106,107,108,109,110,111,112,113,114,115,116,117,118,119,120,121,122]:Tx) y42).bind fun y43=>jm s16 y43).bind fun y44=>CW y44
@[irreducible]noncomputable def AY(iO:Int->Int->Int->Res (List Int))(Z05:Int):Res Tx:=(fA [(1:Int),(2:Int),(3:Int),(4:Int),(26:Int)]<|Z05%5).bind fun y3=>(iO (Z05/5) (5:Int) (26:Int)).bind fun y8=>(bL (zN y3 y8) (cut y8 none<|some (4:Int)) ([]:Tx)).bind fun s47=>CW s47
def xq(Z05:Int):Res Tx:=AY iO Z05
@[irreducible]noncomputable def AZ(xq:Int->Res Tx)(Z05:Int):Res Cd:=(fD ([83,90]:Tx)<|Z05%2).bind fun y1=>(xq<|Z05/8).bind fun y2=>CW (y1,y2,((Z05/2)%4))
def wq(Z05:Int):Res Cd:=AZ xq Z05
@[irreducible]noncomputable def B0(iO:Int->Int->Int->Res (List Int))(Z05:Int)(Z0t:Int):Res Tx:=if(decide<|(Z05%7)=(3:Int))then(fD ([102,98,105]:Tx)<|(Z05/7)%3).bind fun y3=>z6 y3 Z0t else((iO (Z05/7) Z0t (3:Int)).bind fun y18=>fk y18<|fun(a9:Int)=>fD ([102,98,105]:Tx) a9).bind fun y19=>nP y19
def xr(Z05:Int)(Z0t:Int):Res Tx:=B0 iO Z05 Z0t
@[irreducible]noncomputable def B6(Z0U:Tx):Res Int:=(ix ([98,105,102]:Tx) Z0U).bind fun y1=>CW<|y1-(1:Int)
def p8(Z0U:Tx):Res Int:=B6 Z0U
@[irreducible]noncomputable def B7(p8:Tx->Res Int)(Z03:Cd)(Z0U:Tx):Res Cd:=(((p8 Z0U).bind fun y1=>CW<|Z03.2.2+y1).bind fun y2=>CW<|y2%4).bind fun y3=>CW (Z03.1,Z03.2.1,y3)
def jA(Z03:Cd)(Z0U:Tx):Res Cd:=B7 p8 Z03 Z0U
@[irreducible]noncomputable def B8(p8:Tx->Res Int)(Z03:Cd)(Z0U:Tx):Res Int:=if(decide<|Z03.1=([83]:Tx))then p8 Z0U else(p8 Z0U).bind fun y8=>CW<|(0:Int)-y8
def jn(Z03:Cd)(Z0U:Tx):Res Int:=B8 p8 Z03 Z0U
@[irreducible]noncomputable def zO(jA:Cd->Tx->Res Cd)(jn:Cd->Tx->Res Int)(a7:Tx)(s8:(Cd×(List Pl))):Res (Cd×(List Pl)):=(jA s8.1 a7).bind fun y34=>(((jn y34 a7).bind fun y39=>CW<|y39+(1:Int)).bind fun y40=>fD ([122,111,115]:Tx) y40).bind fun y41=>(((fD y34.2.1 y34.2.2).bind fun y44=>(fD y34.2.1<|(y34.2.2+(2:Int))%4).bind fun y45=>CW (y44,y45,y41)).bind fun y50=>iw s8.2 y50).bind fun y49=>CW (y34,y49)
@[irreducible]noncomputable def B9(jA:Cd->Tx->Res Cd)(jn:Cd->Tx->Res Int)(Z03:Cd)(Z09:Tx):Res (List Pl):=(bL (zO jA jn) (bb Z09) (Z03,([]:List Pl))).bind fun s51=>CW s51.2
def qb(Z03:Cd)(Z09:Tx):Res (List Pl):=B9 jA jn Z03 Z09
@[irreducible]noncomputable def zP(a16:Pl×Int)(s17:(Int×(List Pl))):Res (Int×(List Pl)):=((if(decide<|a16.2=(5:Int))then CW (decide<|s17.1<(6:Int))else CW false).bind fun y45=>(if y45 then CW ((s17.1+(1:Int)),(([63]:Tx),a16.1.2.1,([63]:Tx)))else CW (s17.1,a16.1):Res (Int×Pl))).bind fun s61=>(iw s17.2 s61.2).bind fun y74=>CW (s61.1,y74)
@[irreducible]noncomputable def Ba(iO:Int->Int->Int->Res (List Int))(Z0p:List Pl)(Z05:Int):Res (List Pl):=(iO (Z05/3) (Z0p.length:Int) (11:Int)).bind fun y13=>(bL zP (Z0p.zip y13) ((0:Int),([]:List Pl))).bind fun s75=>(if(decide<|(Z05%3)=(2:Int))then(jU (Z05/3) (Z0p.length:Int)).bind fun y87=>((((fA s75.2 y87).bind fun y90=>CW y90.1).bind fun y92=>((fA s75.2 y87).bind fun y91=>CW y91.2.1).bind fun y93=>(fD ([115,122,111]:Tx)<|(Z05/7)%3).bind fun y94=>CW (y92,y93,y94)).bind fun y98=>jV s75.2 y87 y98).bind fun y99=>CW y99 else CW s75.2:Res (List Pl)).bind fun s101=>CW s101
def xt(Z0p:List Pl)(Z05:Int):Res (List Pl):=Ba iO Z0p Z05
@[irreducible]noncomputable def zQ(Z05:Int)(a14:Pl×Int)(s15:(List Pl)):Res (List Pl):=(if(decide<|(Z05%5)=(0:Int))then CW ((a14.2/8)*8)else CW a14.2:Res Int).bind fun s56=>(if(decide<|(Z05%5)=(1:Int))then CW (((s56/8)*8)+(7:Int))else CW s56:Res Int).bind fun s75=>((if(decide<|(56:Int)<=s75)then CW (decide<|(s75%3)<(2:Int))else CW false).bind fun y90=>(if y90 then(((((fA [a14.1.1,a14.1.2.1,a14.1.2.2]<|s75%3).bind fun y101=>ix ([97,98,99,100,101,102,103,104,105,106,107,108,109,110,111,112,113,114,115,116,117,118,119,120,121,122,97]:Tx) y101).bind fun y102=>CW<|y102+(1:Int)).bind fun y103=>fD ([97,98,99,100,101,102,103,104,105,106,107,108,109,110,111,112,113,114,115,116,117,118,119,120,121,122,97]:Tx) y103).bind fun y107=>jV [a14.1.1,a14.1.2.1,a14.1.2.2] (s75%3) y107).bind fun y108=>CW y108 else CW [a14.1.1,a14.1.2.1,a14.1.2.2]:Res (List Tx))).bind fun s110=>((if(decide<|(56:Int)<=s75)then CW (decide<|(s75%3)=(2:Int))else CW false).bind fun y120=>(if y120 then((((fA s110 (2:Int)).bind fun y127=>ix ([115,122,111]:Tx) y127).bind fun y128=>fD ([122,111,115]:Tx) y128).bind fun y132=>jV s110 (2:Int) y132).bind fun y133=>CW y133 else CW s110:Res (List Tx))).bind fun s135=>(((fk (s135.zip [(1:Int),(2:Int),(4:Int)]) (fun(a149:Tx×Int)=>(((jT s75 a149.2).bind fun y158=>CW<|y158%2).bind fun y159=>CW<|decide<|y159=(1:Int)).bind fun y160=>if y160 then CW a149.1 else CW ([63]:Tx))).bind fun y163=>z7 y163).bind fun y168=>iw s15 y168).bind fun y167=>CW y167
@[irreducible]noncomputable def Bb(iO:Int->Int->Int->Res (List Int))(Z0p:List Pl)(Z05:Int)(Z1r:Bool):Res (List Pl):=(((jS (8:Int) (if Z1r then(1:Int)else 0)).bind fun y9=>CW<|(56:Int)+y9).bind fun y10=>iO (Z05/5) (Z0p.length:Int) y10).bind fun y11=>(bL (zQ Z05) (Z0p.zip y11) ([]:List Pl)).bind fun s169=>CW s169
def xu(Z0p:List Pl)(Z05:Int)(Z1r:Bool):Res (List Pl):=Bb iO Z0p Z05 Z1r
@[irreducible]noncomputable def Bc(Z03:Cd):Res Cd:=((ix ([83,90]:Tx) Z03.1).bind fun y5=>fD ([90,83]:Tx) y5).bind fun y12=>((((fD Z03.2.1 (0:Int)).bind fun y6=>(fD Z03.2.1 (3:Int)).bind fun y7=>jm y6 y7).bind fun y8=>(fD Z03.2.1 (2:Int)).bind fun y9=>jm y8 y9).bind fun y10=>(fD Z03.2.1 (1:Int)).bind fun y11=>jm y10 y11).bind fun y13=>CW (y12,y13,(((0:Int)-Z03.2.2)%4))
def qc(Z03:Cd):Res Cd:=Bc Z03
@[irreducible]noncomputable def Bd(Z09:Tx):Res Tx:=(fk (bb Z09)<|fun(a1:Tx)=>(ix ([98,105,102]:Tx) a1).bind fun y8=>fD ([102,105,98]:Tx) y8).bind fun y11=>nP y11
def oJ(Z09:Tx):Res Tx:=Bd Z09
@[irreducible]noncomputable def Be(Z03:Cd)(Z0t:Int):Res Cd:=(((gC (4:Int)).bind fun y13=>fk y13<|fun(a3:Int)=>fD Z03.2.1<|(a3-Z0t)%4).bind fun y14=>nP y14).bind fun y15=>CW (Z03.1,y15,((Z03.2.2+Z0t)%4))
def qd(Z03:Cd)(Z0t:Int):Res Cd:=Be Z03 Z0t
@[irreducible]noncomputable def zR(a37:Int)(s38:(List Int)):Res (List Int):=(if(!s38.contains a37)then(iw s38 a37).bind fun y68=>CW y68 else CW s38:Res (List Int)).bind fun s70=>CW s70
@[irreducible]noncomputable def AF(jA:Cd->Tx->Res Cd)(a7:Tx)(s8:(Cd×(List Int))):Res (Cd×(List Int)):=(jA s8.1 a7).bind fun y34=>(bL zR [y34.2.2,((y34.2.2+(2:Int))%4)] s8.2).bind fun s78=>CW (y34,s78)
@[irreducible]noncomputable def Bf(jA:Cd->Tx->Res Cd)(Z03:Cd)(Z09:Tx):Res (List Int):=(bL (AF jA) (bb Z09) (Z03,([]:List Int))).bind fun s82=>uy s82.2
def xv(Z03:Cd)(Z09:Tx):Res (List Int):=Bf jA Z03 Z09
@[irreducible]noncomputable def zS(Z05:Int)(y40:List Int)(a43:Int)(s44:Cd):Res Cd:=(if(!y40.contains a43)then((((jS (5:Int) a43).bind fun y75=>CW<|(Z05/16)+y75).bind fun y76=>CW<|y76%26).bind fun y77=>fD ([97,98,99,100,101,102,103,104,105,106,107,108,109,110,111,112,113,114,115,116,117,118,119,120,121,122]:Tx) y77).bind fun y78=>((((sC s44.2.1 none<|some a43).bind fun y83=>jm y83 y78).bind fun y84=>(sC s44.2.1 (some<|a43+(1:Int)) none).bind fun y85=>jm y84 y85).bind fun y86=>CW (s44.1,y86,s44.2.2)).bind fun y87=>CW y87 else CW s44:Res Cd).bind fun s91=>CW s91
@[irreducible]noncomputable def Bg(qc:Cd->Res Cd)(oJ:Tx->Res Tx)(qd:Cd->Int->Res Cd)(xv:Cd->Tx->Res (List Int))(Z03:Cd)(Z09:Tx)(Z05:Int):Res (Cd×Tx):=(if(decide<|(Z05%2)=(1:Int))then(qc Z03).bind fun y9=>(oJ Z09).bind fun y14=>CW (y9,y14)else CW (Z03,Z09):Res (Cd×Tx)).bind fun s18=>(qd s18.1<|(Z05/2)%4).bind fun y29=>(if(decide<|((Z05/8)%2)=(1:Int))then(xv y29 s18.2).bind fun y40=>((gC (4:Int)).bind fun y101=>bL (zS Z05 y40) y101 y29).bind fun s102=>CW s102 else CW y29:Res Cd).bind fun s107=>CW (s107,s18.2)
def xw(Z03:Cd)(Z09:Tx)(Z05:Int):Res (Cd×Tx):=Bg qc oJ qd xv Z03 Z09 Z05
@[irreducible]noncomputable def Bh(wq:Int->Res Cd)(ir:List Int->Int->Res Int)(xr:Int->Int->Res Tx)(qb:Cd->Tx->Res (List Pl))(xt:(List Pl)->Int->Res (List Pl))(xu:(List Pl)->Int->Bool->Res (List Pl))(xw:Cd->Tx->Int->Res (Cd×Tx))(Z0f:List Int)(Z1E:Int):Res (Cd×(List Pl)×Int):=((ir Z0f (0:Int)).bind fun y3=>wq y3).bind fun y4=>(ir Z0f (2:Int)).bind fun y9=>(ir Z0f (3:Int)).bind fun y14=>(jU y9<|Z1E+(1:Int)).bind fun y19=>(if(decide<|((y9/13)%6)=(1:Int))then CW ((25:Int)+((y9/78)%36))else CW y19:Res Int).bind fun s33=>(if(decide<|((y9/13)%6)=(3:Int))then CW ((13:Int)+((y9/78)%12))else CW s33:Res Int).bind fun s51=>((ir Z0f (1:Int)).bind fun y60=>xr y60 s51).bind fun y61=>(qb y4 y61).bind fun y66=>(if(decide<|Z1E<s51)then(xt y66 y14).bind fun y77=>CW y77 else(xu y66 (y14/3)<|decide<|(y14%3)=(2:Int)).bind fun y83=>CW y83:Res (List Pl)).bind fun s86=>((ir Z0f (4:Int)).bind fun y97=>CW<|y97/4).bind fun y98=>(if(decide<|(y98%6)=(1:Int))then((xw y4 y61<|y98/6).bind fun y109=>CW y109.1).bind fun y110=>CW y110 else CW y4:Res Cd).bind fun s114=>(if(decide<|(y98%6)=(2:Int))then(wq<|y98/6).bind fun y131=>CW y131 else CW s114:Res Cd).bind fun s135=>((ir Z0f (4:Int)).bind fun y144=>CW<|y144%4).bind fun y145=>CW (s135,s86,y145)
def wt(Z0f:List Int)(Z1E:Int):Res (Cd×(List Pl)×Int):=Bh wq ir xr qb xt xu xw Z0f Z1E
@[irreducible]noncomputable def Bi(state:Ii)(loose:Int)(bound:Int):Res Bool:=if(decide<|dX state.1<=bound)then CW (decide<|state.2<=loose)else CW false
def iI(state:Ii)(loose:Int)(bound:Int):Res Bool:=Bi state loose bound
@[irreducible]noncomputable def Bj(tablet:Cd)(turn:Tx):Res Int:=(getD ([([102],1),([98],(-1)),([105],0)]:List (Tx×Int)) turn).bind fun y3=>if(decide<|tablet.1=([83]:Tx))then CW y3 else CW (-y3)
def qe(tablet:Cd)(turn:Tx):Res Int:=Bj tablet turn
@[irreducible]noncomputable def Bk(qe:Cd->Tx->Res Int)(tablet:Cd)(state:Ii)(turn:Tx):Res Ii:=((qe tablet turn).bind fun y9=>CW<|state.1+y9).bind fun y10=>(if(decide<|turn=([105]:Tx))then CW (state.2+(1:Int))else CW (0:Int)).bind fun y11=>CW (y10,y11)
def hZ(tablet:Cd)(state:Ii)(turn:Tx):Res Ii:=Bk qe tablet state turn
@[irreducible]noncomputable def Bl(tablet:Cd)(twist:Int):Res Cd:=((if(decide<|tablet.1=([83]:Tx))then CW (tablet.2.2+twist)else CW (tablet.2.2-twist)).bind fun y11=>CW<|y11%4).bind fun y12=>CW (tablet.1,tablet.2.1,y12)
def xx(tablet:Cd)(twist:Int):Res Cd:=Bl tablet twist
@[irreducible]noncomputable def rC(tablet:Cd):Res Tx:=fD tablet.2.1<|tablet.2.2%4
def iJ(tablet:Cd):Res Tx:=rC tablet
@[irreducible]noncomputable def Bm(tablet:Cd):Res Tx:=fD tablet.2.1<|(tablet.2.2+(2:Int))%4
def xA(tablet:Cd):Res Tx:=Bm tablet
@[irreducible]noncomputable def Bn(iJ:Cd->Res Tx)(xA:Cd->Res Tx)(qe:Cd->Tx->Res Int)(tablet:Cd)(turn:Tx):Res Pl:=(iJ tablet).bind fun y2=>(xA tablet).bind fun y3=>((qe tablet turn).bind fun y1=>getD ([(1,[115]),((-1),[122]),(0,[111])]:List (Int×Tx)) y1).bind fun y4=>CW (y2,y3,y4)
def xB(tablet:Cd)(turn:Tx):Res Pl:=Bn iJ xA qe tablet turn
@[irreducible]noncomputable def Bo(sign:Tx)(left:Tx):Res Bool:=if(decide<|left=([63]:Tx))then CW true else CW (decide<|left=sign)
def wu(sign:Tx)(left:Tx):Res Bool:=Bo sign left
@[irreducible]noncomputable def Bp(wu:Tx->Tx->Res Bool)(place:Pl)(mark:Pl):Res Bool:=(fk ([place.1,place.2.1,place.2.2].zip [mark.1,mark.2.1,mark.2.2])<|fun(a1:Tx×Tx)=>wu a1.1 a1.2).bind fun y12=>CW<|y12.all id
def xC(place:Pl)(mark:Pl):Res Bool:=Bp wu place mark
@[irreducible]noncomputable def Bq(xC:Pl->Pl->Res Bool)(xB:Cd->Tx->Res Pl)(xx:Cd->Int->Res Cd)(tablet:Cd)(state:Ii)(turn:Tx)(mark:Pl):Res Bool:=((xx tablet state.1).bind fun y1=>xB y1 turn).bind fun y2=>xC y2 mark
def l4(tablet:Cd)(state:Ii)(turn:Tx)(mark:Pl):Res Bool:=Bq xC xB xx tablet state turn mark
@[irreducible]noncomputable def Br(hZ:Cd->Ii->Tx->Res Ii)(iI:Ii->Int->Int->Res Bool)(l4:Cd->Ii->Tx->Pl->Res Bool)(tablet:Cd)(mark:Pl)(loose:Int)(bound:Int)(state:Ii):Res (List<|Tx×Ii):=(fk (bb ([102,98,105]:Tx))<|fun(a3:Tx)=>(hZ tablet state a3).bind fun y12=>CW (a3,y12)).bind fun y15=>nQ y15 (fun(a18:Tx×Ii)=>((iI a18.2 loose bound).bind fun y31=>if y31 then l4 tablet a18.2 a18.1 mark else CW false).bind fun y33=>if y33 then CW (some (a18.1,a18.2))else CW none)
def fc(tablet:Cd)(mark:Pl)(loose:Int)(bound:Int)(state:Ii):Res (List<|Tx×Ii):=Br hZ iI l4 tablet mark loose bound state
@[irreducible]noncomputable def Bs(fc:Cd->Pl->Int->Int->Ii->Res (List<|Tx×Ii))(tablet:Cd)(mark:Pl)(loose:Int)(bound:Int)(states:List Ii):Res (List Ii):=(bL (fun(a6:Ii)(s8:List Ii)=>(fc tablet mark loose bound a6).bind fun y36=>bL (fun(a20:Tx×Ii)(s22:List Ii)=>sN s22 a20.2) y36 s8) states ([]:List Ii)).bind fun k37=>uZ k37
def qf(tablet:Cd)(mark:Pl)(loose:Int)(bound:Int)(states:List Ii):Res (List Ii):=Bs fc tablet mark loose bound states
@[irreducible]noncomputable def yt(qf:Cd->Pl->Int->Int->(List Ii)->Res (List Ii))(tablet:Cd)(loose:Int)(bound:Int)(a10:Pl)(s11:(List<|List Ii)):Res (Fl (List<|List Ii)<|List<|List Ii):=((fA s11<|-(1:Int)).bind fun y32=>CW y32.isEmpty).bind fun y33=>if y33 then CW (.rt s11)else(((fA s11<|-(1:Int)).bind fun y36=>qf tablet a10 loose bound y36).bind fun y41=>iw s11 y41).bind fun y40=>CW<|.nx y40
@[irreducible]noncomputable def Bt(iI:Ii->Int->Int->Res Bool)(qf:Cd->Pl->Int->Int->(List Ii)->Res (List Ii))(tablet:Cd)(strip:List Pl)(loose:Int)(bound:Int):Res (List<|List Ii):=(((iI (0,0) loose bound).bind fun y3=>if y3 then CW [(0,0)]else CW ([]:List Ii)).bind fun y4=>CW [y4]).bind fun y5=>(eV (yt qf tablet loose bound) strip y5).bind (fun | .nx s42=>(CW s42)| .rt r=>CW r| .bk _=>HY)
def lj(tablet:Cd)(strip:List Pl)(loose:Int)(bound:Int):Res (List<|List Ii):=Bt iI qf tablet strip loose bound
@[irreducible]noncomputable def zT(fc:Cd->Pl->Int->Int->Ii->Res (List<|Tx×Ii))(tablet:Cd)(strip:List Pl)(loose:Int)(bound:Int)(y3:List (List Ii))(a31:Int)(s32:(List<|List<|Ii×Int)):Res (List<|List<|Ii×Int):=(fA s32<|-(1:Int)).bind fun y57=>((fA y3 a31).bind fun y82=>bL (fun(a67:Ii)(s69:List (Ii×(List<|Tx×Ii)))=>((fA strip a31).bind fun y80=>fc tablet y80 loose bound a67).bind fun y81=>kO s69 a67 y81) y82 ([]:List (Ii×(List<|Tx×Ii)))).bind fun y83=>((bL (fun(a91:Ii)(s93:List (Ii×Int))=>(((getD y83 a91).bind fun y116=>fk y116<|fun(a104:Tx×Ii)=>getD y57 a104.2).bind fun y117=>CW y117.sum).bind fun y118=>kO s93 a91 y118) (y83.map (·.1)) ([]:List (Ii×Int))).bind fun y123=>iw s32 y123).bind fun y122=>CW y122
@[irreducible]noncomputable def Bu(lj:Cd->(List Pl)->Int->Int->Res (List<|List Ii))(fc:Cd->Pl->Int->Int->Ii->Res (List<|Tx×Ii))(tablet:Cd)(strip:List Pl)(loose:Int)(bound:Int):Res (List<|List<|Ii×Int):=(lj tablet strip loose bound).bind fun y3=>(((fA y3<|-(1:Int)).bind fun y24=>bL (fun(a13:Ii)(s15:List (Ii×Int))=>kO s15 a13 (1:Int)) y24 ([]:List (Ii×Int))).bind fun y25=>CW [y25]).bind fun y26=>((mZ<|(y3.length:Int)-(1:Int)).bind fun y124=>bL (zT fc tablet strip loose bound y3) y124 y26).bind fun s125=>CW s125.reverse
def ll(tablet:Cd)(strip:List Pl)(loose:Int)(bound:Int):Res (List<|List<|Ii×Int):=Bu lj fc tablet strip loose bound
@[irreducible]noncomputable def Bv(ll:Cd->(List Pl)->Int->Int->Res (List<|List<|Ii×Int))(tablet:Cd)(strip:List Pl)(loose:Int)(bound:Int):Res Int:=((ll tablet strip loose bound).bind fun y1=>fA y1 (0:Int)).bind fun y2=>CW<|oF y2 (0,0) (0:Int)
def oK(tablet:Cd)(strip:List Pl)(loose:Int)(bound:Int):Res Int:=Bv ll tablet strip loose bound
@[irreducible]noncomputable def AG(lj:Cd->(List Pl)->Int->Int->Res (List<|List Ii))(tablet:Cd)(strip:List Pl)(loose:Int)(s15:Int):Res Bool:=((lj tablet strip loose s15).bind fun y27=>fA y27<|-(1:Int)).bind fun y28=>CW y28.isEmpty
@[irreducible]noncomputable def AH(s15:Int):Res Int:=CW<|s15+(1:Int)
@[irreducible]noncomputable def Bw(lj:Cd->(List Pl)->Int->Int->Res (List<|List Ii))(tablet:Cd)(strip:List Pl)(loose:Int):Res (Option Int):=(((lj tablet strip loose (strip.length:Int)).bind fun y1=>fA y1<|-(1:Int)).bind fun y2=>CW y2.isEmpty).bind fun y3=>if y3 then CW (none:Option Int)else(eZ (AG lj tablet strip loose) AH cap (0:Int)).bind fun s31=>CW<|some s31
def oM(tablet:Cd)(strip:List Pl)(loose:Int):Res (Option Int):=Bw lj tablet strip loose
@[irreducible]noncomputable def zU(moves:List (Tx×Ii))(counts:List (Ii×Int))(s6:Ii):Res Bool:=(((fA moves s6.2).bind fun y18=>CW y18.2).bind fun y19=>getD counts y19).bind fun y20=>CW<|decide<|y20<=s6.1
@[irreducible]noncomputable def zV(moves:List (Tx×Ii))(counts:List (Ii×Int))(s6:Ii):Res Ii:=(((fA moves s6.2).bind fun y21=>CW y21.2).bind fun y22=>getD counts y22).bind fun y23=>CW ((s6.1-y23),(s6.2+(1:Int)))
@[irreducible]noncomputable def Bx(moves:List (Tx×Ii))(counts:List (Ii×Int))(number:Int):Res (Tx×Ii×Int):=(eZ (zU moves counts) (zV moves counts) cap (number,(0:Int))).bind fun s28=>(fA moves s28.2).bind fun y32=>CW (y32.1,y32.2,s28.1)
def qg(moves:List (Tx×Ii))(counts:List (Ii×Int))(number:Int):Res (Tx×Ii×Int):=Bx moves counts number
@[irreducible]noncomputable def f9(qg:(List<|Tx×Ii)->(List<|Ii×Int)->Int->Res (Tx×Ii×Int))(fc:Cd->Pl->Int->Int->Ii->Res (List<|Tx×Ii))(tablet:Cd)(loose:Int)(bound:Int)(y3:List (List<|Ii×Int))(a19:Int×Pl)(s20:(Ii×Int×Tx)):Res (Ii×Int×Tx):=((fc tablet a19.2 loose bound s20.1).bind fun y50=>(fA y3<|a19.1+(1:Int)).bind fun y51=>qg y50 y51 s20.2.1).bind fun y52=>(jm s20.2.2 y52.1).bind fun y65=>CW (y52.2.1,y52.2.2,y65)
@[irreducible]noncomputable def rD(ll:Cd->(List Pl)->Int->Int->Res (List<|List<|Ii×Int))(qg:(List<|Tx×Ii)->(List<|Ii×Int)->Int->Res (Tx×Ii×Int))(fc:Cd->Pl->Int->Int->Ii->Res (List<|Tx×Ii))(tablet:Cd)(strip:List Pl)(loose:Int)(bound:Int)(number:Int):Res Tx:=(ll tablet strip loose bound).bind fun y3=>(if(decide<|number<(0:Int))then CW true else((fA y3 (0:Int)).bind fun y6=>CW<|oF y6 (0,0) (0:Int)).bind fun y7=>CW<|decide<|y7<=number).bind fun y8=>if y8 then HY else(bL (f9 qg fc tablet loose bound y3) (gD strip) ((0,0),number,([]:Tx))).bind fun s66=>CW s66.2.2
def gN(tablet:Cd)(strip:List Pl)(loose:Int)(bound:Int)(number:Int):Res Tx:=rD ll qg fc tablet strip loose bound number
@[irreducible]noncomputable def By(a9:Tx)(s10:Unit):Res (Fl Bool Unit):=(if(!decide (a9=([102]:Tx)))then if(!decide (a9=([98]:Tx)))then CW (!decide (a9=([105]:Tx)))else CW false else CW false).bind fun y30=>if y30 then CW (.rt false)else CW (.nx ())
@[irreducible]noncomputable def AI(a103:Tx×Tx)(s104:Unit):Res (Fl Bool Unit):=(if(!decide (a103.2=([63]:Tx)))then CW (!decide (a103.2=a103.1))else CW false).bind fun y131=>if y131 then CW (.rt false)else CW (.nx ())
@[irreducible]noncomputable def zW(jn:Cd->Tx->Res Int)(Z03:Cd)(Z17:Int)(Z18:Int)(a50:Tx×Pl×Pl)(s51:Ii):Res (Fl Bool Ii):=((jn Z03 a50.1).bind fun y87=>CW<|s51.1+y87).bind fun y88=>(jS (s51.2+(1:Int)) (if(decide<|a50.1=([105]:Tx))then(1:Int)else 0)).bind fun y93=>(if(decide<|Z18<dX y88)then CW true else CW (decide<|Z17<y93)).bind fun y96=>if y96 then CW (.rt false)else(eV AI ([a50.2.1.1,a50.2.1.2.1,a50.2.1.2.2].zip [a50.2.2.1,a50.2.2.2.1,a50.2.2.2.2]) ()).bind (fun | .nx s138=>(CW<|.nx (y88,y93))| .rt r=>CW (.rt r)| .bk _=>HY)
@[irreducible]noncomputable def Bz(qb:Cd->Tx->Res (List Pl))(jn:Cd->Tx->Res Int)(Z03:Cd)(Z2I:List Pl)(Z17:Int)(Z18:Int)(Z1s:Tx):Res Bool:=((wM Z1s).bind fun y1=>CW<|!decide (y1=(Z2I.length:Int))).bind fun y2=>if y2 then CW false else(eV By (bb Z1s) ()).bind (fun | .nx s37=>((((qb Z03 Z1s).bind fun y49=>CW<|(bb Z1s).zip (y49.zip Z2I)).bind fun y142=>eV (zW jn Z03 Z17 Z18) y142 ((0:Int),(0:Int))).bind (fun | .nx s143=>(CW true)| .rt r=>CW r| .bk _=>HY))| .rt r=>CW r| .bk _=>HY)
def xD(Z03:Cd)(Z2I:List Pl)(Z17:Int)(Z18:Int)(Z1s:Tx):Res Bool:=Bz qb jn Z03 Z2I Z17 Z18 Z1s
@[irreducible]noncomputable def BA(text:Tx)(width:Int):Res Bool:=((wM text).bind fun y1=>CW<|decide<|y1=width).bind fun y12=>if y12 then(fk (bb text)<|fun(a2:Tx)=>BU a2 ([102,98,105]:Tx)).bind fun y11=>CW (y11.all id)else CW false
def xE(text:Tx)(width:Int):Res Bool:=BA text width
@[irreducible]noncomputable def zX(iI:Ii->Int->Int->Res Bool)(hZ:Cd->Ii->Tx->Res Ii)(l4:Cd->Ii->Tx->Pl->Res Bool)(tablet:Cd)(loose:Int)(bound:Int)(a18:Tx×Pl)(s19:(Ii×Bool)):Res (Ii×Bool):=(hZ tablet s19.1 a18.1).bind fun y50=>(if s19.2 then(iI y50 loose bound).bind fun y55=>if y55 then l4 tablet y50 a18.1 a18.2 else CW false else CW false).bind fun y56=>CW (y50,y56)
@[irreducible]noncomputable def BB(xE:Tx->Int->Res Bool)(iI:Ii->Int->Int->Res Bool)(hZ:Cd->Ii->Tx->Res Ii)(l4:Cd->Ii->Tx->Pl->Res Bool)(tablet:Cd)(strip:List Pl)(loose:Int)(bound:Int)(text:Tx):Res Bool:=((xE text (strip.length:Int)).bind fun y1=>CW<|!y1).bind fun y2=>if y2 then CW false else(iI (0,0) loose bound).bind fun y15=>(bL (zX iI hZ l4 tablet loose bound) ((bb text).zip strip) ((0,0),y15)).bind fun s59=>CW s59.2
def xF(tablet:Cd)(strip:List Pl)(loose:Int)(bound:Int)(text:Tx):Res Bool:=BB xE iI hZ l4 tablet strip loose bound text
@[irreducible]noncomputable def BC(turn:Tx)(other:Tx):Res Bool:=(ix ([102,98,105]:Tx) turn).bind fun y1=>(ix ([102,98,105]:Tx) other).bind fun y2=>CW<|decide<|y1<y2
def qh(turn:Tx)(other:Tx):Res Bool:=BC turn other
@[irreducible]noncomputable def zt(fc:Cd->Pl->Int->Int->Ii->Res (List<|Tx×Ii))(qh:Tx->Tx->Res Bool)(hZ:Cd->Ii->Tx->Res Ii)(tablet:Cd)(loose:Int)(bound:Int)(text:Tx)(y7:List (List<|Ii×Int))(a18:Int×Pl)(s19:(Int×Ii)):Res (Int×Ii):=(fc tablet a18.2 loose bound s19.2).bind fun y51=>((nQ y51 (fun(a54:Tx×Ii)=>((fD text a18.1).bind fun y67=>qh a54.1 y67).bind fun y70=>if y70 then((fA y7<|a18.1+(1:Int)).bind fun y64=>getD y64 a54.2).bind fun y69=>CW (some y69)else CW none)).bind fun y80=>CW y80.sum).bind fun y81=>((fD text a18.1).bind fun y86=>hZ tablet s19.2 y86).bind fun y87=>CW ((s19.1+y81),y87)
@[irreducible]noncomputable def BD(xF:Cd->(List Pl)->Int->Int->Tx->Res Bool)(ll:Cd->(List Pl)->Int->Int->Res (List<|List<|Ii×Int))(fc:Cd->Pl->Int->Int->Ii->Res (List<|Tx×Ii))(qh:Tx->Tx->Res Bool)(hZ:Cd->Ii->Tx->Res Ii)(tablet:Cd)(strip:List Pl)(loose:Int)(bound:Int)(text:Tx):Res Int:=((xF tablet strip loose bound text).bind fun y1=>CW<|!y1).bind fun y2=>if y2 then HY else(ll tablet strip loose bound).bind fun y7=>(bL (zt fc qh hZ tablet loose bound text y7) (gD strip) ((0:Int),(0,0))).bind fun s90=>CW s90.1
def xG(tablet:Cd)(strip:List Pl)(loose:Int)(bound:Int)(text:Tx):Res Int:=BD xF ll fc qh hZ tablet strip loose bound text
@[irreducible]noncomputable def ee(oK:Cd->(List Pl)->Int->Int->Res Int)(oM:Cd->(List Pl)->Int->Res (Option Int))(y1:Cd×(List Pl)×Int)(y15:Int)(y32:Int)(y37:Option Int)(a40:Cd)(s41:Unit):Res (Fl Bool Unit):=((((oK a40 y1.2.1 y1.2.2 y15).bind fun y61=>Ak y61 y32).bind fun y62=>CW<|!y62).bind fun y65=>if y65 then CW true else((oM a40 y1.2.1 y1.2.2).bind fun y63=>Ak y63 y37).bind fun y64=>CW<|!y64).bind fun y66=>if y66 then CW (.rt false)else CW (.nx ())
@[irreducible]noncomputable def rE(wt:List Int->Int->Res (Cd×(List Pl)×Int))(ir:List Int->Int->Res Int)(qc:Cd->Res Cd)(qd:Cd->Int->Res Cd)(oK:Cd->(List Pl)->Int->Int->Res Int)(oM:Cd->(List Pl)->Int->Res (Option Int))(gN:Cd->(List Pl)->Int->Int->Int->Res Tx)(xD:Cd->(List Pl)->Int->Int->Tx->Res Bool)(oJ:Tx->Res Tx)(xG:Cd->(List Pl)->Int->Int->Tx->Res Int)(Z0f:List Int):Res Bool:=(wt Z0f (12:Int)).bind fun y1=>((ir Z0f (5:Int)).bind fun y14=>CW<|y14%13).bind fun y15=>(qc y1.1).bind fun y20=>(((ir Z0f (6:Int)).bind fun y25=>CW<|y25%4).bind fun y26=>qd y1.1 y26).bind fun y27=>(oK y1.1 y1.2.1 y1.2.2 y15).bind fun y32=>(oM y1.1 y1.2.1 y1.2.2).bind fun y37=>(eV (ee oK oM y1 y15 y32 y37) [y20,y27] ()).bind (fun | .nx s73=>(if(decide<|y32=(0:Int))then CW true else((ir Z0f (7:Int)).bind fun y85=>jU y85 y32).bind fun y86=>(gN y1.1 y1.2.1 y1.2.2 y15 y86).bind fun y91=>(((gN y27 y1.2.1 y1.2.2 y15 y86).bind fun y94=>kA y94 y91).bind fun y95=>CW<|!y95).bind fun y96=>if y96 then CW false else(((oJ y91).bind fun y103=>xD y20 y1.2.1 y1.2.2 y15 y103).bind fun y104=>CW<|!y104).bind fun y105=>if y105 then CW false else((oJ y91).bind fun y114=>xG y20 y1.2.1 y1.2.2 y15 y114).bind fun y115=>(gN y20 y1.2.1 y1.2.2 y15 y115).bind fun y118=>(oJ y91).bind fun y119=>kA y118 y119)| .rt r=>CW r| .bk _=>HY)
def vT(Z0f:List Int):Res Bool:=rE wt ir qc qd oK oM gN xD oJ xG Z0f
end
end Mi
namespace Wb
open PySem L2 Mi
def tp(i:Nat):Stmt:=IX.main.body.getD i<|.Pass ⟨0,0,0,0⟩
end Wb
local macro_rules | `(tactic|walk_at "L")=>`(tactic|first | exact M6 rfl | exact Lj rfl)
local macro_rules | `(tactic|walk_at "F")=>`(tactic|exact⟨rfl,rfl,rfl,by decide +kernel,rfl,by decide +kernel,by decide +kernel⟩)
namespace Wb
open PySem L2 Mi
section
variable{P:Dj}{w:Dp}{K:CT}{mg:Str->Option CU}{base:Heap}
theorem C5{f:Addr}{fd:Dr}(F:Fun K "_law_at" "_law_at" (tp 40) f fd)(h_len:mg "len"=none):FnOk P w K mg base CX0 (1) f fd ["_law_script","_law_k"] (bG (isScr K) isI (rs isI)<|AW):=by
 have SC:FnScope ["_law_script","_law_k"] ["_law_script","_law_k"] (defScope<|tp 40):=by walk_at "F"
 refine F.ok SC (fun vs H Q E h=>?_)<|fun cdv A outer s H vs Q E hr h=>?_;·obtain⟨_,_,_,_,_,_,rfl,_⟩:=h;rfl
 ·obtain⟨W0,Z0f,l_k,Z0Q,_,rfl,rfl,Z02,z_l_k,Er,hq⟩:=h;cases z_l_k
  refine⟨_,(aa (bq (ax nA (pv 1) (aE (bN (K:=K) rfl) (by rfl) h_len EB<|a5 (pv 0) ae)<|ay _) (af<|au<|az (aW (K:=K) rfl) (pv 0) (pv 1)<|fun _ _=>rfl) aI)
   (af (au (ai aG (ai fw (ai bH (ai fw (pv 1) a8) a8) (ai bH (aE (bN (K:=K) rfl) (by rfl) h_len EB (a5 (pv 0) ae)) a8)) a8)))),?_⟩
  have E0:Ext W0 W0:=.refl W0;unfold AW at hq;refine cX (Er:=Er) (aB<|d6 aN<|lM<|aL Z02)<|fun W1 e2=>?_;have E0:=E0.trans e2;have Z02:=CM e2.g Z02;by_cases hb13:(decide<|l_k<(Z0f.length:Int))=true
  ·rw[if_pos hb13]at hq ⊢;exact aK (Er:=Er) (uK (aL Z02) aN)<|DE hq fun y3 hq v4 W5 e6 h7=>hq v4 W5 (E0.trans e6) h7
  ·rw[if_neg hb13]at hq ⊢
   try dsimp only[aD]
   exact aK (Er:=Er) (aq (fun _=>by decide) (jY (aX (aq (fun _=>.inr ⟨by decide,by decide⟩) aN) ah)<|aX (lM<|aL Z02) ah))<|DE hq fun y9 hq v10 W11 e12 h13=>hq v10 W11 (E0.trans e12) h13
theorem C6{f:Addr}{fd:Dr}(F:Fun K "_law_row" "_law_row" (tp 36) f fd)(h_abs:mg "abs"=none)(h_range:mg "range"=none):FnOk P w K mg base CX0 (1) f fd ["_law_cell","_law_many","_law_base"] (dz isI isI isI (ro isI)<|AX):=by
 have SC:FnScope ["_law_cell","_law_many","_law_base","_law_now","_law_far","_law_mix","_law_out","_law_k"] ["_law_cell","_law_many","_law_base"] (defScope<|tp 36):=by walk_at "F"
 refine F.ok SC (fun vs H Q E h=>?_)<|fun cdv A outer s H vs Q E hr h=>?_;·obtain⟨_,_,_,_,_,_,_,_,rfl,_⟩:=h;rfl
 ·obtain⟨W0,Z05,Z0t,Z1h,_,_,_,rfl,rfl,Z0I,Z2e,Z4o,Er,hq⟩:=h;cases Z0I;cases Z2e;cases Z4o
  refine⟨_,(aa (cn 3 (aE jH (by rfl) h_abs Hm<|a5 (pv 0) ae))
   (aa (cn 4<|cP nB (pv 3) (ai yN a8 a8)<|ay _)
   (aa (cn 5<|ai aG (pv 3) a8)
   (aa (cn 6<|cQ ae)
   (aa (cM DN rfl (iP rfl h_range<|a5 (pv 1) ae) (fb 7) (aa (cn 5<|ai aG (ai bH (ai bH (ai fw (pv 5) a8) a8)<|pv 7) a8)
   (af (bq (Jq<|fv (cH<|pv 4)<|eF<|ax qy (pv 3) a8<|ay _) (aa (fg<|cT (K:=K) rfl (pv 6)<|a5 (ai aG (pv 3)<|pv 2) ae)
   (af (cn 3 (ai bo (pv 3) (pv 2))))) (af (fg (cT (K:=K) rfl (pv 6) (a5 (ai aG (ai aG (ai fw (pv 5) (pv 5)) a8) (pv 2)) ae))))))))
   (af (au (pv 6)))))))),?_⟩
  have E0:Ext W0 W0:=.refl W0;unfold AX at hq;refine aj (Er:=Er) (pJ aN)<|fun v3 W1 e2 h4=>?_;cases h4;have E0:=E0.trans e2;refine aj (Er:=Er) (d6 aN (wU (r:=1000000000000000000) (by decide) (by decide)))<|fun v7 W5 e6 h8=>?_;cases h8;have E0:=E0.trans e6;refine aj (Er:=Er) (aq (fun _=>by decide) aN)<|fun v11 W9 e10 h12=>?_;cases h12;have E0:=E0.trans e10;refine dq (Er:=Er) (gV (R:=isI))<|fun p15 W13 e14 hp16 o17=>?_;have fr18:=bp E0.h hp16;have E0:=E0.trans e14;refine df (Er:=Er) (f:=(zM Z05 Z1h)) (s0:=(((dX Z05)%2147483647),dX Z05,([]:List Int))) (Iv:=fun(s21:(Int×Int×(List Int)))(W22:Wd)(g23:St)=>∃(d25:Option V),g23=[some (.int Z05),some<|.int Z0t,some<|.int Z1h,some<|.int s21.2.1,some<|.bl<|decide<|(1000000000000000000:Int)<=dX Z05,some<|.int s21.1,some<|.ref p15,d25]/\Ext W0 W22/\Ow isI W22 p15 s21.2.2) (kf aN) (CO hq) ?_ ?_ ?_
  ·intro W37 e38;have E0:=E0.trans e38;have o17:=o17.mono e38;exact⟨_,rfl,E0,o17⟩
  ·intro Wb26 W27 W28 a19 v29 s20 sg30 P31 hW32 hB33 iv e34 h35 hq;obtain⟨d25,rfl,E0,o24⟩:=iv;have E0:=E0.trans e34;have hB33:=hB33.trans e34.g;have o24:=o24.mono e34;cases h35;refine gn (σ':=[some (.int Z05),some<|.int Z0t,some<|.int Z1h,some<|.int s20.2.1,some<|.bl<|decide<|(1000000000000000000:Int)<=dX Z05,some<|.int s20.1,some<|.ref p15,some<|.int a19]) ?_;unfold zM at hq;refine aj (Er:=Er) (aq (fun _=>by decide) (aX (aX (aq (fun _=>.inr ⟨by decide,by decide⟩) aN) ah) aN))<|fun v43 W41 e42 h44=>?_;cases h44;have E0:=E0.trans e42;have hB33:=hB33.trans e42.g;have o24:=o24.mono e42;refine mM (Er:=Er) (Iv:=fun(s74:(Int×(List Int)))(W75:Wd)(g76:St)=>g76=[some (.int Z05),some<|.int Z0t,some<|.int Z1h,some<|.int s74.1,some<|.bl<|decide<|(1000000000000000000:Int)<=dX Z05,some<|.int<|(((s20.1*48271)+(7919:Int))+a19)%2147483647,some<|.ref p15,some<|.int a19]/\Ext W0 W75/\Ow isI W75 p15 s74.2) (gE (k9 AU)<|aB<|d6 aN ah) (CO hq) ?_ ?_ ?_
   ·intro W46 N49 e47 hN50 hq;have hs51:=e47.g;have E0:=E0.trans e47;have hB33:=hB33.trans e47.g;have o24:=o24.mono e47;refine uJ (Er:=Er) o24 (iX aN aN)<|(CO hq).imp fun y55 hq W52 mu53 o54=>?_;have E0:=mu53.e _ E0 fr18;have hB33:=hB33.trans mu53.g;have hs51:=hs51.trans mu53.g;refine de (Er:=Er) (qO aN aN)<|(CO hq).imp fun y59 hq v60 W57 e58 h61=>?_;cases h61;have E0:=E0.trans e58;have hB33:=hB33.trans e58.g;have hs51:=hs51.trans e58.g;have o54:=o54.mono e58;exact hN50 (y59,y55) W57 _ hs51 ⟨rfl,E0,o54⟩ hq
   ·intro W46 N49 e47 hN50 hq;have hs62:=e47.g;have E0:=E0.trans e47;have hB33:=hB33.trans e47.g;have o24:=o24.mono e47;refine gH (Er:=Er) o24 (iX (aq (fun _=>by decide)<|jY aN aN) aN)<|(CO hq).imp fun y68 hq W65 mu66 o67=>?_;have E0:=mu66.e _ E0 fr18;have hB33:=hB33.trans mu66.g;have hs62:=hs62.trans mu66.g;exact hN50 (s20.2.1,y68) W65 _ hs62 ⟨rfl,E0,o67⟩ hq
   ·intro s70 W71 sg72 hS73 iv hq;obtain⟨rfl,E0,o77⟩:=iv;have hB33:=hB33.trans hS73
    try dsimp only
    refine cx (W:=W71) (((((s20.1*48271)+(7919:Int))+a19)%2147483647),s70.1,s70.2) hB33 ?_ hq;exact⟨_,rfl,E0,o77⟩
  ·intro s79 W80 sg81 hS82 iv hq;obtain⟨d25,rfl,E0,o24⟩:=iv;exact⟨.ref p15,rfl,hq p15 W80 E0 fr18 o24⟩
theorem C7{f:Addr}{fd:Dr}(F:Fun K "_law_holes" "_law_holes" (tp 37) f fd){iO:Int->Int->Int->Res (List Int)}(Z0z:Cal P w K mg base "_law_row" ["_law_cell","_law_many","_law_base"] (1) (dz isI isI isI (ro isI) iO)):FnOk P w K mg base CX0 (2) f fd ["_law_cell"] (dH isI (rs isS)<|AY iO):=by
 have SC:FnScope ["_law_cell","_law_size","_law_draws","_law_out","_law_d"] ["_law_cell"] (defScope<|tp 37):=by walk_at "F"
 refine F.ok SC (fun vs H Q E h=>?_)<|fun cdv A outer s H vs Q E hr h=>?_;·obtain⟨_,_,_,_,rfl,_⟩:=h;rfl
 ·obtain⟨W0,Z05,_,rfl,rfl,Z0I,Er,hq⟩:=h;cases Z0I;refine⟨_,(aa (cn 1<|az (aW (K:=K) rfl) (cQ<|a5 a8<|a5 a8<|a5 a8<|a5 a8<|a5 a8 ae) (ai aG (pv 0) a8)<|fun _ _=>rfl)
   (aa (cn 2<|cb Z0z<|a5 (ai bo (pv 0) a8)<|a5 a8<|a5 a8 ae)
   (aa (cn 3 aY)
   (aa (cM DN rfl (cE (K:=K) rfl<|jJ (uk (K:=K) rfl) (pv 2) mm<|jo a8) (fb 4)<|af<|cn 3<|ai dG (pv 3)<|az bS aY (ai aG (ai bH (az (aW (K:=K) rfl) (pv 2) a8<|fun _ _=>rfl)<|ai fw (ai aG (pv 4)<|pv 1) a8) a8)<|fun _ _=>rfl)
   (af (au (pv 3))))))),?_⟩
  have E0:Ext W0 W0:=.refl W0;unfold AY at hq;refine aj (Er:=Er) (bY (Io<|gG<|bO ah<|bO ah<|bO ah<|bO ah<|bO ah<|gF (R:=isI)) (aq (fun _=>by decide) aN))<|(CO hq).imp fun y3 hq v4 W1 e2 h5=>?_;cases h5;have E0:=E0.trans e2;refine aj (Er:=Er) (FG (fE (aq (fun _=>⟨by decide,by decide⟩) aN) ah ah))<|(CO hq).imp fun y8 hq v9 W6 e7 h10=>?_;have E0:=E0.trans e7;refine aj (Er:=Er) (aV (x:=CY "") (l:=[]) (gp _ _ (by decide +kernel)))<|fun v13 W11 e12 h14=>?_;cases h14;have E0:=E0.trans e12;have h10:=CM e12.g h10;refine df (Er:=Er) (f:=(zN y3 y8)) (s0:=([]:Tx)) (Iv:=fun(s17:Tx)(W18:Wd)(g19:St)=>∃(d20:Option V),g19=[some (.int Z05),some<|.int y3,some v9,some<|.str<|aM s17,d20]/\Ext W0 W18) (di<|FG<|wQ (GN<|aL h10) uC<|uD ah) (CO hq) ?_ ?_ ?_
  ·intro W32 e33;have E0:=E0.trans e33;have h10:=CM e33.g h10;exact⟨_,rfl,E0⟩
  ·intro Wb21 W22 W23 a15 v24 s16 sg25 P26 hW27 hB28 iv e29 h30 hq;obtain⟨d20,rfl,E0⟩:=iv;have h10:=CM hW27 h10;have E0:=E0.trans e29;have hB28:=hB28.trans e29.g;have h10:=CM e29.g h10;cases h30;refine gn (σ':=[some (.int Z05),some<|.int y3,some v9,some<|.str<|aM s16,some<|.int a15]) ?_;unfold zN at hq;refine de (Er:=Er) (gU cy (bT (aV (x:=CY "abcdefghijklmnopqrstuvwxyz") (l:=[97,98,99,100,101,102,103,104,105,106,107,108,109,110,111,112,113,114,115,116,117,118,119,120,121,122]) (gp _ _ (by decide +kernel))) (aq (fun _=>by decide) (aX (bY (GN<|aL h10) ah) (aq (fun _=>.inr ⟨by decide,by decide⟩)<|iX aN aN)))))<|(CO hq).imp fun y44 hq v45 W36 e37 h46=>?_;cases h46;have E0:=E0.trans e37;have hB28:=hB28.trans e37.g;have h10:=CM e37.g h10
   try dsimp only
   refine cx (W:=W36) y44 hB28 ?_ hq;exact⟨_,rfl,E0⟩
  ·intro s47 W48 sg49 hS50 iv hq;obtain⟨d20,rfl,E0⟩:=iv;exact aK (Er:=Er) cy<|fun v51 W52 e53 h54=>hq v51 W52 (E0.trans e53) h54
theorem C8{f:Addr}{fd:Dr}(F:Fun K "_law_card" "_law_card" (tp 38) f fd){xq:Int->Res Tx}(Z2f:Cal P w K mg base "_law_holes" ["_law_cell"] (2) (dH isI (rs isS) xq)):FnOk P w K mg base CX0 (3) f fd ["_law_cell"] (dH isI (rs<|qA K)<|AZ xq):=by
 have SC:FnScope ["_law_cell"] ["_law_cell"] (defScope<|tp 38):=by walk_at "F"
 refine F.ok SC (fun vs H Q E h=>?_)<|fun cdv A outer s H vs Q E hr h=>?_;·obtain⟨_,_,_,_,rfl,_⟩:=h;rfl
 ·obtain⟨W0,Z05,_,rfl,rfl,Z0I,Er,hq⟩:=h;cases Z0I;refine⟨_,(af<|au<|d5<|a5 (az bS aY (ai aG (pv 0) a8)<|fun _ _=>rfl)<|a5 (cb Z2f<|a5 (ai bo (pv 0) a8) ae)<|a5 (ai aG (ai bo (pv 0) a8) a8) ae),?_⟩;have E0:Ext W0 W0:=.refl W0;unfold AZ at hq;exact aK (Er:=Er) (dh (K:=K) (bT (aV (x:=CY "SZ") (l:=[83,90]) (gp _ _ (by decide +kernel))) (aq (fun _=>by decide) aN)) (bV (aq (fun _=>⟨by decide,by decide⟩) aN)) (aq (fun _=>by decide) (aq (fun _=>⟨by decide,by decide⟩) aN)))<|DE hq fun y3 hq v4 W5 e6 h7=>hq v4 W5 (E0.trans e6) h7
theorem C9{f:Addr}{fd:Dr}(F:Fun K "_law_turns" "_law_turns" (tp 39) f fd){iO:Int->Int->Int->Res (List Int)}(Z0z:Cal P w K mg base "_law_row" ["_law_cell","_law_many","_law_base"] (1) (dz isI isI isI (ro isI) iO)):FnOk P w K mg base CX0 (2) f fd ["_law_cell","_law_many"] (bG isI isI (rs isS)<|B0 iO):=by
 have SC:FnScope ["_law_cell","_law_many"] ["_law_cell","_law_many"] (defScope<|tp 39):=by walk_at "F"
 refine F.ok SC (fun vs H Q E h=>?_)<|fun cdv A outer s H vs Q E hr h=>?_;·obtain⟨_,_,_,_,_,_,rfl,_⟩:=h;rfl
 ·obtain⟨W0,Z05,Z0t,_,_,rfl,rfl,Z0I,Z2e,Er,hq⟩:=h;cases Z0I;cases Z2e;refine⟨_,(aa (bq (ax cg (ai aG (pv 0) a8) a8<|ay _) (af<|au<|ai pE (az bS aY (ai aG (ai bo (pv 0) a8) a8)<|fun _ _=>rfl)<|pv 1) aI)
   (af (au (kq (K:=K) rfl aY (a5 (eH (N:=["_law_d"]) (cap:=[none]) (iu rfl (by decide +kernel) rfl (by decide +kernel) (by rfl) (by rfl)) rfl (cE (K:=K) rfl (cb Z0z (a5 (ai bo (pv 0) a8) (a5 (pv 1) (a5 a8 ae))))) (fun _ _ _ _=>(bj (i:=0) (show Et (["_law_d"]:List Str) by decide +kernel) rfl (by walk_at "L"))) (fun _ _ _ _=>cW) (fun _ _ _ _=>(az bS aY (pv 0) (fun _ _=>rfl)))) ae))))),?_⟩
  have E0:Ext W0 W0:=.refl W0;rw[show L2.start ["_law_cell","_law_many"] [.int Z05,.int Z0t]=[some (.int Z05),some<|.int Z0t]from rfl];unfold B0 at hq;refine cX (Er:=Er) (aB (d9 (aq (fun _=>by decide) aN) ah))<|fun W1 e2=>?_;have E0:=E0.trans e2;by_cases hb24:(decide<|(Z05%7)=(3:Int))=true
  ·rw[if_pos hb24]at hq ⊢;exact aK (Er:=Er) (wO (bT (aV (x:=CY "fbi") (l:=[102,98,105]) (gp _ _ (by decide +kernel))) (aq (fun _=>by decide) (aq (fun _=>⟨by decide,by decide⟩) aN))) aN)<|DE hq fun y4 hq v5 W6 e7 h8=>hq v5 W6 (E0.trans e7) h8
  ·rw[if_neg hb24]at hq ⊢
   try dsimp only[aD]
   exact aK (Er:=Er) (mL (gp _ _ (by decide +kernel)) (Io (fo (di (FG (fE (aq (fun _=>⟨by decide,by decide⟩) aN) aN ah))) fun W11 a9 v10 e12 h13 Q16 k17=>by
    cases h13;refine gn ?_;exact⟨by simp[Keep,br],((bT (aV (x:=CY "fbi") (l:=[102,98,105]) (gp _ _ (by decide +kernel))) aN):EV Er _ [some (.int a9)] _ _ _) _ (.refl _) _ k17⟩))) (DE hq fun y20 hq v21 W22 e23 h24=>hq v21 W22 (E0.trans e23) h24)
theorem Ca{f:Addr}{fd:Dr}(F:Fun K "_law_go" "_law_go" (tp 42) f fd):FnOk P w K mg base CX0 (1) f fd ["_law_turn"] (dH isS (rs isI)<|B6):=by
 have SC:FnScope ["_law_turn"] ["_law_turn"] (defScope<|tp 42):=by walk_at "F"
 refine F.ok SC (fun vs H Q E h=>?_)<|fun cdv A outer s H vs Q E hr h=>?_;·obtain⟨_,_,_,_,rfl,_⟩:=h;rfl
 ·obtain⟨W0,Z0U,_,rfl,rfl,Z2g,Er,hq⟩:=h;cases Z2g;refine⟨_,(af<|au<|ai iR (dJ (K:=K) rfl rfl aY<|a5 (pv 0) ae) a8),?_⟩;have E0:Ext W0 W0:=.refl W0;unfold B6 at hq;exact aK (Er:=Er) (aX (fU (aV (x:=CY "bif") (l:=[98,105,102]) (gp _ _ (by decide +kernel))) cy) ah)<|DE hq fun y2 hq v3 W4 e5 h6=>hq v3 W4 (E0.trans e5) h6
theorem Cb{f:Addr}{fd:Dr}(F:Fun K "_law_behind" "_law_behind" (tp 43) f fd){p8:Tx->Res Int}(Z1u:Cal P w K mg base "_law_go" ["_law_turn"] (1) (dH isS (rs isI) p8)):FnOk P w K mg base CX0 (2) f fd ["_law_card_here","_law_turn"] (bG (qA K) isS (rs<|qA K)<|B7 p8):=by
 have SC:FnScope ["_law_card_here","_law_turn"] ["_law_card_here","_law_turn"] (defScope<|tp 43):=by walk_at "F"
 refine F.ok SC (fun vs H Q E h=>?_)<|fun cdv A outer s H vs Q E hr h=>?_;·obtain⟨_,_,_,_,_,_,rfl,_⟩:=h;rfl
 ·obtain⟨W0,Z03,Z0U,Z0i,_,rfl,rfl,Z01,Z2g,Er,hq⟩:=h;cases Z2g;refine⟨_,(af<|au<|d5<|a5 (az (aQ (K:=K) rfl) (pv 0) a8<|fun _ _=>rfl)<|a5 (az (aQ (K:=K) rfl) (pv 0) a8<|fun _ _=>rfl)<|a5 (ai aG (ai bH (az (aQ (K:=K) rfl) (pv 0) a8<|fun _ _=>rfl)<|cb Z1u<|a5 (pv 1) ae) a8) ae),?_⟩;have E0:Ext W0 W0:=.refl W0;unfold B7 at hq;exact aK (Er:=Er) (dh (K:=K) (bf (f:=fun(b:Cd)=>b.1) nS<|aL Z01) (bf (f:=fun(b:Cd)=>b.2.1) lb<|aL Z01) (aq (fun _=>by decide)<|aX (bf (f:=fun(b:Cd)=>b.2.2) mK<|aL Z01)<|bV cy))<|DE hq fun y4 hq v5 W6 e7 h8=>hq v5 W6 (E0.trans e7) h8
theorem Cc{f:Addr}{fd:Dr}(F:Fun K "_law_twist" "_law_twist" (tp 44) f fd){p8:Tx->Res Int}(Z1u:Cal P w K mg base "_law_go" ["_law_turn"] (1) (dH isS (rs isI) p8)):FnOk P w K mg base CX0 (2) f fd ["_law_card_here","_law_turn"] (bG (qA K) isS (rs isI)<|B8 p8):=by
 have SC:FnScope ["_law_card_here","_law_turn"] ["_law_card_here","_law_turn"] (defScope<|tp 44):=by walk_at "F"
 refine F.ok SC (fun vs H Q E h=>?_)<|fun cdv A outer s H vs Q E hr h=>?_;·obtain⟨_,_,_,_,_,_,rfl,_⟩:=h;rfl
 ·obtain⟨W0,Z03,Z0U,Z0i,_,rfl,rfl,Z01,Z2g,Er,hq⟩:=h;cases Z2g;refine⟨_,(aa (bq (ax cg (az (aQ (K:=K) rfl) (pv 0) a8<|fun _ _=>rfl) aY<|ay _) (af<|au<|cb Z1u<|a5 (pv 1) ae) aI)
   (af (au (ai iR a8 (cb Z1u (a5 (pv 1) ae)))))),?_⟩
  have E0:Ext W0 W0:=.refl W0;unfold B8 at hq;refine cX (Er:=Er) (aB (ij (bf (f:=fun(b:Cd)=>b.1) nS<|aL Z01) (aV (x:=CY "S") (l:=[83]) (gp _ _ (by decide +kernel)))))<|fun W1 e2=>?_;have E0:=E0.trans e2;have Z01:=CM e2.g Z01;by_cases hb13:(decide<|Z03.1=([83]:Tx))=true
  ·rw[if_pos hb13]at hq ⊢;exact aK (Er:=Er) (bV cy)<|DE hq fun y3 hq v4 W5 e6 h7=>hq v4 W5 (E0.trans e6) h7
  ·rw[if_neg hb13]at hq ⊢
   try dsimp only[aD]
   exact aK (Er:=Er) (aX ah<|bV cy)<|DE hq fun y9 hq v10 W11 e12 h13=>hq v10 W11 (E0.trans e12) h13
theorem Ce{f:Addr}{fd:Dr}(F:Fun K "_law_places" "_law_places" (tp 45) f fd){jA:Cd->Tx->Res Cd}{jn:Cd->Tx->Res Int}(Z0W:Cal P w K mg base "_law_behind" ["_law_card_here","_law_turn"] (2) (bG (qA K) isS (rs<|qA K) jA))(Z19:Cal P w K mg base "_law_twist" ["_law_card_here","_law_turn"] (2) (bG (qA K) isS (rs isI) jn)):FnOk P w K mg base CX0 (3) f fd ["_law_card_here","_law_turns_here"] (bG (qA K) isS (ro<|qB K)<|B9 jA jn):=by
 have SC:FnScope ["_law_card_here","_law_turns_here","_law_out","_law_turn","_law_slant"] ["_law_card_here","_law_turns_here"] (defScope<|tp 45):=by walk_at "F"
 refine F.ok SC (fun vs H Q E h=>?_)<|fun cdv A outer s H vs Q E hr h=>?_;·obtain⟨_,_,_,_,_,_,rfl,_⟩:=h;rfl
 ·obtain⟨W0,Z03,Z09,Z0i,_,rfl,rfl,Z01,Z0J,Er,hq⟩:=h;cases Z0J;refine⟨_,(aa (cn 2<|cQ ae)
   (aa (cM DN rfl (iU<|pv 1) (fb 3) (aa (cn 0<|cb Z0W<|a5 (pv 0)<|a5 (pv 3) ae)
   (aa (cn 4<|az bS aY (ai bH (cb Z19<|a5 (pv 0)<|a5 (pv 3) ae) a8)<|fun _ _=>rfl)
   (af (fg (cT (K:=K) rfl (pv 2) (a5 (d5 (a5 (az bS (az (aQ (K:=K) rfl) (pv 0) a8 (fun _ _=>rfl)) (az (aQ (K:=K) rfl) (pv 0) a8 (fun _ _=>rfl)) (fun _ _=>rfl)) (a5 (az bS (az (aQ (K:=K) rfl) (pv 0) a8 (fun _ _=>rfl)) (ai aG (ai bH (az (aQ (K:=K) rfl) (pv 0) a8 (fun _ _=>rfl)) a8) a8) (fun _ _=>rfl)) (a5 (pv 4) ae)))) ae)))))))
   (af (au (pv 2))))),?_⟩
  have E0:Ext W0 W0:=.refl W0;unfold B9 at hq;refine dq (Er:=Er) (gV (R:=(qB K)))<|fun p3 W1 e2 hp4 o5=>?_;have fr6:=bp E0.h hp4;have E0:=E0.trans e2;have Z01:=CM e2.g Z01;refine df (Er:=Er) (f:=(zO jA jn)) (s0:=(Z03,([]:List Pl))) (Iv:=fun(s9:(Cd×(List Pl)))(W10:Wd)(g11:St)=>∃(v12:V)(d15:Option V)(d16:Option V),g11=[some v12,some<|.str<|aM Z09,some<|.ref p3,d16,d15]/\Ext W0 W10/\(qA K) W10.G s9.1 v12/\Ow (qB K) W10 p3 s9.2) (iZ cy) (CO hq) ?_ ?_ ?_
  ·intro W28 e29;have E0:=E0.trans e29;have Z01:=CM e29.g Z01;have o5:=o5.mono e29;exact⟨_,_,_,rfl,E0,Z01,o5⟩
  ·intro Wb17 W18 W19 a7 v20 s8 sg21 P22 hW23 hB24 iv e25 h26 hq;obtain⟨v12,d15,d16,rfl,E0,h13,o14⟩:=iv;have E0:=E0.trans e25;have hB24:=hB24.trans e25.g;have o14:=o14.mono e25;have h13:=CM e25.g h13;cases h26;refine gn (σ':=[some v12,some<|.str<|aM Z09,some<|.ref p3,some<|.str<|aM a7,d15]) ?_;unfold zO at hq;refine aj (Er:=Er) (aS (aL h13) cy)<|(CO hq).imp fun y34 hq v35 W32 e33 h36=>?_;have E0:=E0.trans e33;have hB24:=hB24.trans e33.g;have o14:=o14.mono e33;refine aj (Er:=Er) (bT (aV (x:=CY "zos") (l:=[122,111,115]) (gp _ _ (by decide +kernel)))<|aX (aS (aL h36) cy) ah)<|(CO hq).imp fun y41 hq v42 W37 e38 h43=>?_;cases h43;have E0:=E0.trans e38;have hB24:=hB24.trans e38.g;have o14:=o14.mono e38;have h36:=CM e38.g h36;refine gH (Er:=Er) o14 (dh (K:=K) (bT (bf (f:=fun(b:Cd)=>b.2.1) lb<|aL h36)<|bf (f:=fun(b:Cd)=>b.2.2) mK<|aL h36) (bT (bf (f:=fun(b:Cd)=>b.2.1) lb<|aL h36) (aq (fun _=>by decide)<|aX (bf (f:=fun(b:Cd)=>b.2.2) mK<|aL h36) ah)) cy)<|(CO hq).imp fun y49 hq W46 mu47 o48=>?_;have E0:=mu47.e _ E0 fr6;have hB24:=hB24.trans mu47.g;have h36:=CM mu47.g h36
   try dsimp only
   refine cx (W:=W46) (y34,y49) hB24 ?_ hq;exact⟨_,_,_,rfl,E0,h36,o48⟩
  ·intro s51 W52 sg53 hS54 iv hq;obtain⟨v12,d15,d16,rfl,E0,h13,o14⟩:=iv;exact⟨.ref p3,rfl,hq p3 W52 E0 fr6 o14⟩
theorem Cf{f:Addr}{fd:Dr}(F:Fun K "_law_long" "_law_long" (tp 47) f fd){iO:Int->Int->Int->Res (List Int)}(Z0z:Cal P w K mg base "_law_row" ["_law_cell","_law_many","_law_base"] (1) (dz isI isI isI (ro isI) iO))(h_len:mg "len"=none)(h_zip:mg "zip"=none):FnOk P w K mg base CX0 (2) f fd ["_law_places_here","_law_cell"] (bG (qD K) isI (ro<|qB K)<|Ba iO):=by
 have SC:FnScope ["_law_places_here","_law_cell","_law_out","_law_worn","_law_draws","_law_place","_law_d","_law_at_here"] ["_law_places_here","_law_cell"] (defScope<|tp 47):=by walk_at "F"
 refine F.ok SC (fun vs H Q E h=>?_)<|fun cdv A outer s H vs Q E hr h=>?_;·obtain⟨_,_,_,_,_,_,rfl,_⟩:=h;rfl
 ·obtain⟨W0,Z0p,Z05,Z0m,_,rfl,rfl,Z04,Z0I,Er,hq⟩:=h;cases Z0I;refine⟨_,(aa (cn 2<|cQ ae)
   (aa (cn 3 a8)
   (aa (cn 4 (cb Z0z (a5 (ai bo (pv 1) a8) (a5 (aE (bN (K:=K) rfl) (by rfl) h_len EB<|a5 (pv 0) ae)<|a5 a8 ae))))
   (aa (cM DN rfl (fS (K:=K) rfl rfl h_zip<|a5 (pv 0)<|a5 (pv 4) ae) (bD (K:=K) (n:=2) rfl rfl<|ak (fb 5)<|ak (fb 6) bC) (aa (bq (Jq<|fv (ax cg (pv 6) a8<|ay _)<|eF<|ax nA (pv 3) a8<|ay _) (aa (cn 3<|ai bH (pv 3) a8)
   (af (cn 5 (d5 (a5 aY (a5 (az (aQ (K:=K) rfl) (pv 5) a8 (fun _ _=>rfl)) (a5 aY ae))))))) aI)
   (af (fg (cT (K:=K) rfl (pv 2) (a5 (pv 5) ae))))))
   (aa (bq (ax cg (ai aG (pv 1) a8) a8<|ay _) (aa (cn 7 (ai aG (ai bo (pv 1) a8) (aE (bN (K:=K) rfl) (by rfl) h_len EB<|a5 (pv 0) ae)))
   (af (eP (d5 (a5 (az (aQ (K:=K) rfl) (az (aW (K:=K) rfl) (pv 2) (pv 7) (fun _ _=>rfl)) a8 (fun _ _=>rfl)) (a5 (az (aQ (K:=K) rfl) (az (aW (K:=K) rfl) (pv 2) (pv 7) (fun _ _=>rfl)) a8 (fun _ _=>rfl)) (a5 (az bS aY (ai aG (ai bo (pv 1) a8) a8) (fun _ _=>rfl)) ae)))) (p9 (pv 2) (pv 7) jK)))) aI)
   (af (au (pv 2)))))))),?_⟩
  have E0:Ext W0 W0:=.refl W0;unfold Ba at hq;refine dq (Er:=Er) (gV (R:=(qB K)))<|fun p3 W1 e2 hp4 o5=>?_;have fr6:=bp E0.h hp4;have E0:=E0.trans e2;have Z04:=CM e2.g Z04;refine aj (Er:=Er) ah<|fun v9 W7 e8 h10=>?_;cases h10;have E0:=E0.trans e8;have Z04:=CM e8.g Z04;have o5:=o5.mono e8;refine aj (Er:=Er) (FG (fE (aq (fun _=>⟨by decide,by decide⟩) aN) (fV<|GN<|aL Z04) ah))<|(CO hq).imp fun y13 hq v14 W11 e12 h15=>?_;have E0:=E0.trans e12;have Z04:=CM e12.g Z04;have o5:=o5.mono e12;refine df (Er:=Er) (f:=zP) (s0:=((0:Int),([]:List Pl))) (Iv:=fun(s18:(Int×(List Pl)))(W19:Wd)(g20:St)=>∃(d22:Option V)(d23:Option V),g20=[some Z0m,some<|.int Z05,some<|.ref p3,some<|.int s18.1,some v14,d22,d23,none]/\Ext W0 W19/\Ow (qB K) W19 p3 s18.2) (j4 (fW<|aL Z04)<|fW<|aL h15) (CO hq) ?_ ?_ ?_
  ·intro W35 e36;have E0:=E0.trans e36;have Z04:=CM e36.g Z04;have o5:=o5.mono e36;exact⟨_,_,rfl,E0,o5⟩
  ·intro Wb24 W25 W26 a16 v27 s17 sg28 P29 hW30 hB31 iv e32 h33 hq;obtain⟨d22,d23,rfl,E0,o21⟩:=iv;have Z04:=CM hW30 Z04;have E0:=E0.trans e32;have hB31:=hB31.trans e32.g;have Z04:=CM e32.g Z04;have o21:=o21.mono e32;refine ik h33 fun v41 v43 h42 h44=>?_;cases h44;unfold zP at hq;refine cj (Er:=Er) (Iv:=fun(s65:(Int×Pl))(W66:Wd)(g67:St)=>∃(v68:V),g67=[some Z0m,some<|.int Z05,some<|.ref p3,some<|.int s65.1,some v14,some v68,some<|.int a16.2,none]/\Ext W0 W66/\(qB K) W66.G s65.2 v68/\Ow (qB K) W66 p3 s17.2) (gE (aB<|d9 aN ah)<|aB<|d6 aN ah) (CO hq) ?_ ?_ ?_
   ·intro W46 N49 e47 hN50 hq;have hs51:=e47.g;have E0:=E0.trans e47;have hB31:=hB31.trans e47.g;have Z04:=CM e47.g Z04;have o21:=o21.mono e47;have h42:=CM e47.g h42;refine aj (Er:=Er) (aX aN ah)<|fun v54 W52 e53 h55=>?_;cases h55;have E0:=E0.trans e53;have hB31:=hB31.trans e53.g;have hs51:=hs51.trans e53.g;have Z04:=CM e53.g Z04;have o21:=o21.mono e53;have h42:=CM e53.g h42;refine de (Er:=Er) (dh (K:=K) (aV (x:=CY "?") (l:=[63]) (gp _ _ (by decide +kernel))) (bf (f:=fun(b:Pl)=>b.2.1) lb<|aL h42) (aV (x:=CY "?") (l:=[63]) (gp _ _ (by decide +kernel))))<|fun v58 W56 e57 h59=>?_;have E0:=E0.trans e57;have hB31:=hB31.trans e57.g;have hs51:=hs51.trans e57.g;have Z04:=CM e57.g Z04;have o21:=o21.mono e57;exact hN50 ((s17.1+(1:Int)),(([63]:Tx),a16.1.2.1,([63]:Tx))) W56 _ hs51 ⟨_,rfl,E0,h59,o21⟩ hq
   ·intro W46 N49 e47 hN50 hq;have hs60:=e47.g;have E0:=E0.trans e47;have hB31:=hB31.trans e47.g;have Z04:=CM e47.g Z04;have o21:=o21.mono e47;have h42:=CM e47.g h42
    try dsimp only[aD]
    exact hN50 (s17.1,a16.1) W46 _ hs60 ⟨_,rfl,E0,h42,o21⟩ hq
   ·intro s61 W62 sg63 hS64 iv hq;obtain⟨v68,rfl,E0,h69,o70⟩:=iv;have hB31:=hB31.trans hS64;have Z04:=CM hS64 Z04;refine gH (Er:=Er) o70 (aL h69)<|(CO hq).imp fun y74 hq W71 mu72 o73=>?_;have E0:=mu72.e _ E0 fr6;have hB31:=hB31.trans mu72.g;have Z04:=CM mu72.g Z04;have h69:=CM mu72.g h69
    try dsimp only
    refine cx (W:=W71) (s61.1,y74) hB31 ?_ hq;exact⟨_,_,rfl,E0,o73⟩
  ·intro s75 W76 sg77 hS78 iv hq;obtain⟨d22,d23,rfl,E0,o21⟩:=iv;have Z04:=CM hS78 Z04;refine cj (Er:=Er) (Iv:=fun(s105:(List Pl))(W106:Wd)(g107:St)=>∃(d109:Option V),g107=[some Z0m,some<|.int Z05,some<|.ref p3,some<|.int s75.1,some v14,d22,d23,d109]/\Ext W0 W106/\Ow (qB K) W106 p3 s105) (aB (d9 (aq (fun _=>by decide) aN) ah)) (CO hq) ?_ ?_ ?_
   ·intro W79 N82 e80 hN83 hq;have hs84:=e80.g;have E0:=E0.trans e80;have Z04:=CM e80.g Z04;have o21:=o21.mono e80;refine aj (Er:=Er) (iX (aq (fun _=>⟨by decide,by decide⟩) aN)<|fV<|GN<|aL Z04)<|(CO hq).imp fun y87 hq v88 W85 e86 h89=>?_;cases h89;have E0:=E0.trans e86;have hs84:=hs84.trans e86.g;have o21:=o21.mono e86;refine mN (Er:=Er) o21 (dh (K:=K) (bf (f:=fun(b:Pl)=>b.1) nS<|bY (dQ o21) aN) (bf (f:=fun(b:Pl)=>b.2.1) lb<|bY (dQ o21) aN) (bT (aV (x:=CY "szo") (l:=[115,122,111]) (gp _ _ (by decide +kernel))) (aq (fun _=>by decide) (aq (fun _=>⟨by decide,by decide⟩) aN)))) aN<|(CO hq).imp fun y99 hq W95 mu96 o97=>?_;have E0:=mu96.e _ E0 fr6;have hs84:=hs84.trans mu96.g;exact hN83 y99 W95 _ hs84 ⟨_,rfl,E0,o97⟩ hq
   ·intro W79 N82 e80 hN83 hq;have hs100:=e80.g;have E0:=E0.trans e80;have Z04:=CM e80.g Z04;have o21:=o21.mono e80
    try dsimp only[aD]
    exact hN83 s75.2 W79 _ hs100 ⟨_,rfl,E0,o21⟩ hq
   ·intro s101 W102 sg103 hS104 iv hq;obtain⟨d109,rfl,E0,o108⟩:=iv;exact⟨.ref p3,rfl,hq p3 W102 E0 fr6 o108⟩
theorem Cg{f:Addr}{fd:Dr}(F:Fun K "_law_marks" "_law_marks" (tp 46) f fd){iO:Int->Int->Int->Res (List Int)}(Z0z:Cal P w K mg base "_law_row" ["_law_cell","_law_many","_law_base"] (1) (dz isI isI isI (ro isI) iO))(h_int:mg "int"=none)(h_len:mg "len"=none)(h_tuple:mg "tuple"=none)(h_zip:mg "zip"=none):FnOk P w K mg base CX0 (2) f fd ["_law_places_here","_law_cell","_law_lies"] (dz (qD K) isI isB (ro<|qB K)<|Bb iO):=by
 have SC:FnScope ["_law_places_here","_law_cell","_law_lies","_law_out","_law_draws","_law_place","_law_d","_law_mark","_law_letters"] ["_law_places_here","_law_cell","_law_lies"] (defScope<|tp 46):=by walk_at "F"
 refine F.ok SC (fun vs H Q E h=>?_)<|fun cdv A outer s H vs Q E hr h=>?_;·obtain⟨_,_,_,_,_,_,_,_,rfl,_⟩:=h;rfl
 ·obtain⟨W0,Z0p,Z05,Z1r,Z0m,_,_,rfl,rfl,Z04,Z0I,Z4r,Er,hq⟩:=h;cases Z0I;cases Z4r;refine⟨_,(aa (cn 3<|cQ ae)
   (aa (cn 4 (cb Z0z (a5 (ai bo (pv 1) a8) (a5 (aE (bN (K:=K) rfl) (by rfl) h_len EB<|a5 (pv 0) ae) (a5 (ai bH a8 (ai fw a8 (iS lA (by rfl) h_int Gn<|a5 (pv 2) ae))) ae)))))
   (aa (cM DN rfl (fS (K:=K) rfl rfl h_zip<|a5 (pv 0)<|a5 (pv 4) ae) (bD (K:=K) (n:=2) rfl rfl<|ak (fb 5)<|ak (fb 6) bC) (aa (bq (ax cg (ai aG (pv 1) a8) a8<|ay _) (af<|cn 6<|ai fw (ai bo (pv 6) a8) a8) aI)
   (aa (bq (ax cg (ai aG (pv 1) a8) a8<|ay _) (af<|cn 6<|ai bH (ai fw (ai bo (pv 6) a8) a8) a8) aI)
   (aa (cn 7<|cQ<|a5 (az (aQ (K:=K) rfl) (pv 5) a8<|fun _ _=>rfl)<|a5 (az (aQ (K:=K) rfl) (pv 5) a8<|fun _ _=>rfl)<|a5 (az (aQ (K:=K) rfl) (pv 5) a8<|fun _ _=>rfl) ae)
   (aa (bq (Jq<|fv (ax nB (pv 6) a8<|ay _)<|eF<|ax nA (ai aG (pv 6) a8) a8<|ay _) (aa (cn 8 aY)
   (af (eP (az bS (pv 8) (ai bH (dJ (K:=K) rfl rfl (pv 8) (a5 (az (aW (K:=K) rfl) (pv 7) (ai aG (pv 6) a8) (fun _ _=>rfl)) ae)) a8) (fun _ _=>rfl)) (p9 (pv 7) (ai aG (pv 6) a8) jK)))) aI)
   (aa (bq (Jq<|fv (ax nB (pv 6) a8<|ay _)<|eF<|ax cg (ai aG (pv 6) a8) a8<|ay _) (af<|eP (az bS aY (dJ (K:=K) rfl rfl aY<|a5 (az (aW (K:=K) rfl) (pv 7) a8<|fun _ _=>rfl) ae)<|fun _ _=>rfl)<|p9 (pv 7) a8 jK) aI)
   (af (fg (cT (K:=K) rfl (pv 3) (a5 (iS (ko (K:=K) rfl) (by rfl) h_tuple GZ (a5 (eH (N:=["_law_sign","_law_part","_law_d"]) (cap:=[none,none,some 6]) (iu rfl (by decide +kernel) rfl (by decide +kernel) (by rfl) (by rfl)) rfl (fS (K:=K) rfl rfl h_zip (a5 (pv 7) (a5 (cQ (a5 a8 (a5 a8 (a5 a8 ae)))) ae))) (fun _ _ _ _=>(bD (K:=K) (n:=2) rfl rfl (ak (bj (i:=0) (show Et (["_law_sign","_law_part","_law_d"]:List Str) by decide +kernel) rfl (by walk_at "L")) (ak (bj (i:=1) (show Et (["_law_sign","_law_part","_law_d"]:List Str) by decide +kernel) rfl (by walk_at "L")) bC)))) (fun _ _ _ _=>cW) (fun _ _ _ _=>(gw (ax cg (ai aG (ai bo (pv 2) (pv 1)) a8) a8 (ay _)) (pv 0) aY))) ae)) ae))))))))))
   (af (au (pv 3)))))),?_⟩
  have E0:Ext W0 W0:=.refl W0;rw[show L2.start ["_law_places_here","_law_cell","_law_lies","_law_out","_law_draws","_law_place","_law_d","_law_mark","_law_letters"] [Z0m,.int Z05,.bl Z1r]=[some Z0m,some<|.int Z05,some<|.bl Z1r,none,none,none,none,none,none]from rfl];unfold Bb at hq;refine dq (Er:=Er) (gV (R:=(qB K)))<|fun p3 W1 e2 hp4 o5=>?_;have fr6:=bp E0.h hp4;have E0:=E0.trans e2;have Z04:=CM e2.g Z04;refine aj (Er:=Er) (FG (fE (aq (fun _=>⟨by decide,by decide⟩) aN) (fV<|GN<|aL Z04)<|aX ah<|jY ah<|qU AU))<|(CO hq).imp fun y11 hq v12 W7 e8 h13=>?_;have E0:=E0.trans e8;have Z04:=CM e8.g Z04;have o5:=o5.mono e8;refine df (Er:=Er) (f:=(zQ Z05)) (s0:=([]:List Pl)) (Iv:=fun(s16:(List Pl))(W17:Wd)(g18:St)=>∃(d20:Option V)(d21:Option V)(d22:Option V)(d23:Option V),g18=[some Z0m,some<|.int Z05,some<|.bl Z1r,some<|.ref p3,some v12,d23,d20,d21,d22]/\Ext W0 W17/\Ow (qB K) W17 p3 s16) (j4 (fW<|aL Z04)<|fW<|aL h13) (CO hq) ?_ ?_ ?_
  ·intro W35 e36;have E0:=E0.trans e36;have o5:=o5.mono e36;exact⟨_,_,_,_,rfl,E0,o5⟩
  ·intro Wb24 W25 W26 a14 v27 s15 sg28 P29 hW30 hB31 iv e32 h33 hq;obtain⟨d20,d21,d22,d23,rfl,E0,o19⟩:=iv;have E0:=E0.trans e32;have hB31:=hB31.trans e32.g;have o19:=o19.mono e32;refine ik h33 fun v41 v43 h42 h44=>?_;cases h44;unfold zQ at hq;refine cj (Er:=Er) (Iv:=fun(s60:Int)(W61:Wd)(g62:St)=>g62=[some Z0m,some<|.int Z05,some<|.bl Z1r,some<|.ref p3,some v12,some v41,some<|.int s60,d21,d22]/\Ext W0 W61/\Ow (qB K) W61 p3 s15) (aB (d9 (aq (fun _=>by decide) aN) ah)) (CO hq) ?_ ?_ ?_
   ·intro W45 N48 e46 hN49 hq;have hs50:=e46.g;have E0:=E0.trans e46;have hB31:=hB31.trans e46.g;have o19:=o19.mono e46;have h42:=CM e46.g h42;refine de (Er:=Er) (aq (fun _=>.inr ⟨by decide,by decide⟩) (aq (fun _=>⟨by decide,by decide⟩) aN))<|fun v53 W51 e52 h54=>?_;cases h54;have E0:=E0.trans e52;have hB31:=hB31.trans e52.g;have hs50:=hs50.trans e52.g;have o19:=o19.mono e52;have h42:=CM e52.g h42;exact hN49 ((a14.2/8)*8) W51 _ hs50 ⟨rfl,E0,o19⟩ hq
   ·intro W45 N48 e46 hN49 hq;have hs55:=e46.g;have E0:=E0.trans e46;have hB31:=hB31.trans e46.g;have o19:=o19.mono e46;have h42:=CM e46.g h42
    try dsimp only[aD]
    exact hN49 a14.2 W45 _ hs55 ⟨rfl,E0,o19⟩ hq
   ·intro s56 W57 sg58 hS59 iv hq;obtain⟨rfl,E0,o63⟩:=iv;have hB31:=hB31.trans hS59;have h42:=CM hS59 h42;refine cj (Er:=Er) (Iv:=fun(s79:Int)(W80:Wd)(g81:St)=>g81=[some Z0m,some<|.int Z05,some<|.bl Z1r,some<|.ref p3,some v12,some v41,some<|.int s79,d21,d22]/\Ext W0 W80/\Ow (qB K) W80 p3 s15) (aB (d9 (aq (fun _=>by decide) aN) ah)) (CO hq) ?_ ?_ ?_
    ·intro W64 N67 e65 hN68 hq;have hs69:=e65.g;have E0:=E0.trans e65;have hB31:=hB31.trans e65.g;have o63:=o63.mono e65;have h42:=CM e65.g h42;refine de (Er:=Er) (aX (aq (fun _=>.inr ⟨by decide,by decide⟩) (aq (fun _=>⟨by decide,by decide⟩) aN)) ah)<|fun v72 W70 e71 h73=>?_;cases h73;have E0:=E0.trans e71;have hB31:=hB31.trans e71.g;have hs69:=hs69.trans e71.g;have o63:=o63.mono e71;have h42:=CM e71.g h42;exact hN68 (((s56/8)*8)+(7:Int)) W70 _ hs69 ⟨rfl,E0,o63⟩ hq
    ·intro W64 N67 e65 hN68 hq;have hs74:=e65.g;have E0:=E0.trans e65;have hB31:=hB31.trans e65.g;have o63:=o63.mono e65;have h42:=CM e65.g h42
     try dsimp only[aD]
     exact hN68 s56 W64 _ hs74 ⟨rfl,E0,o63⟩ hq
    ·intro s75 W76 sg77 hS78 iv hq;obtain⟨rfl,E0,o82⟩:=iv;have hB31:=hB31.trans hS78;have h42:=CM hS78 h42;refine dq (Er:=Er) (gG<|bO (bf (f:=fun(b:Pl)=>b.1) nS<|aL h42)<|bO (bf (f:=fun(b:Pl)=>b.2.1) lb<|aL h42)<|bO (bf (f:=fun(b:Pl)=>b.2.2) mK<|aL h42)<|gF (R:=isS))<|fun p85 W83 e84 hp86 o87=>?_;have ne88:=o82.ne hp86;have fr89:=bp E0.h hp86;have E0:=E0.trans e84;have hB31:=hB31.trans e84.g;have o82:=o82.mono e84;have h42:=CM e84.g h42;refine cj (Er:=Er) (Iv:=fun(s114:(List Tx))(W115:Wd)(g116:St)=>∃(d118:Option V),g116=[some Z0m,some<|.int Z05,some<|.bl Z1r,some<|.ref p3,some v12,some v41,some<|.int s75,some<|.ref p85,d118]/\Ext W0 W115/\Ow isS W115 p85 s114/\Ow (qB K) W115 p3 s15) (gE (aB<|d6 aN ah) (aB (d6 (aq (fun _=>by decide) aN) ah))) (CO hq) ?_ ?_ ?_
     ·intro W91 N94 e92 hN95 hq;have hs96:=e92.g;have E0:=E0.trans e92;have hB31:=hB31.trans e92.g;have o82:=o82.mono e92;have h42:=CM e92.g h42;have o87:=o87.mono e92;refine aj (Er:=Er) (aV (x:=CY "abcdefghijklmnopqrstuvwxyza") (l:=[97,98,99,100,101,102,103,104,105,106,107,108,109,110,111,112,113,114,115,116,117,118,119,120,121,122,97]) (gp _ _ (by decide +kernel)))<|fun v99 W97 e98 h100=>?_;cases h100;have E0:=E0.trans e98;have hB31:=hB31.trans e98.g;have hs96:=hs96.trans e98.g;have o82:=o82.mono e98;have h42:=CM e98.g h42;have o87:=o87.mono e98;refine mN (Er:=Er) o87 (bT cy (aX (fU cy (bY (dQ o87) (aq (fun _=>by decide) aN))) ah)) (aq (fun _=>by decide) aN)<|(CO hq).imp fun y108 hq W104 mu105 o106=>?_;have E0:=mu105.e _ E0 fr89;have hB31:=hB31.trans mu105.g;have hs96:=hs96.trans mu105.g;have o82:=mu105.ow ne88 o82;have h42:=CM mu105.g h42;exact hN95 y108 W104 _ hs96 ⟨_,rfl,E0,o106,o82⟩ hq
     ·intro W91 N94 e92 hN95 hq;have hs109:=e92.g;have E0:=E0.trans e92;have hB31:=hB31.trans e92.g;have o82:=o82.mono e92;have h42:=CM e92.g h42;have o87:=o87.mono e92
      try dsimp only[aD]
      exact hN95 [a14.1.1,a14.1.2.1,a14.1.2.2] W91 _ hs109 ⟨_,rfl,E0,o87,o82⟩ hq
     ·intro s110 W111 sg112 hS113 iv hq;obtain⟨d118,rfl,E0,o117,o119⟩:=iv;have hB31:=hB31.trans hS113;have h42:=CM hS113 h42;refine cj (Er:=Er) (Iv:=fun(s139:(List Tx))(W140:Wd)(g141:St)=>g141=[some Z0m,some<|.int Z05,some<|.bl Z1r,some<|.ref p3,some v12,some v41,some<|.int s75,some<|.ref p85,d118]/\Ext W0 W140/\Ow isS W140 p85 s139/\Ow (qB K) W140 p3 s15) (gE (aB<|d6 aN ah) (aB (d9 (aq (fun _=>by decide) aN) ah))) (CO hq) ?_ ?_ ?_
      ·intro W121 N124 e122 hN125 hq;have hs126:=e122.g;have E0:=E0.trans e122;have hB31:=hB31.trans e122.g;have o119:=o119.mono e122;have h42:=CM e122.g h42;have o117:=o117.mono e122;refine mN (Er:=Er) o117 (bT (aV (x:=CY "zos") (l:=[122,111,115]) (gp _ _ (by decide +kernel))) (fU (aV (x:=CY "szo") (l:=[115,122,111]) (gp _ _ (by decide +kernel)))<|bY (dQ o117) ah)) ah<|(CO hq).imp fun y133 hq W129 mu130 o131=>?_;have E0:=mu130.e _ E0 fr89;have hB31:=hB31.trans mu130.g;have hs126:=hs126.trans mu130.g;have o119:=mu130.ow ne88 o119;have h42:=CM mu130.g h42;exact hN125 y133 W129 _ hs126 ⟨rfl,E0,o131,o119⟩ hq
      ·intro W121 N124 e122 hN125 hq;have hs134:=e122.g;have E0:=E0.trans e122;have hB31:=hB31.trans e122.g;have o119:=o119.mono e122;have h42:=CM e122.g h42;have o117:=o117.mono e122
       try dsimp only[aD]
       exact hN125 s110 W121 _ hs134 ⟨rfl,E0,o117,o119⟩ hq
      ·intro s135 W136 sg137 hS138 iv hq;obtain⟨rfl,E0,o142,o143⟩:=iv;have hB31:=hB31.trans hS138;have h42:=CM hS138 h42;obtain⟨W144,hH145,E0,hS146,h148,hk147⟩:=o142.frz E0 fr89;rw[<-hH145];have hB31:=hB31.trans hS146;have o143:=o143.keep (by rw[hH145]) hS146<|hk147 _ ne88;have h42:=CM hS146 h42;refine gH (Er:=Er) o143 (uP (Io (fo (j4 (fW<|aL h148)<|fW<|FG<|gG<|bO ah<|bO ah<|bO ah<|gF (R:=isI)) fun W151 a149 v150 e152 h153 Q161 k162=>by
        refine ik h153 fun v154 v156 h155 h157=>?_;cases h155;cases h157;exact⟨by simp[Keep,br],((nR (aB (d9 (aq (fun _=>by decide) (qO aN aN)) ah)) cy (aV (x:=CY "?") (l:=[63]) (gp _ _ (by decide +kernel)))):EV Er _ [some (.str (aM a149.1)),some (.int a149.2),some (.int s75)] _ _ _) _ (.refl _) _ k162⟩))) ((CO hq).imp fun y167 hq W164 mu165 o166=>?_)
       have E0:=mu165.e _ E0 fr6;have hB31:=hB31.trans mu165.g;have h42:=CM mu165.g h42;have h148:=CM mu165.g h148
       try dsimp only
       refine cx (W:=W164) y167 hB31 ?_ hq;exact⟨_,_,_,_,rfl,E0,o166⟩
  ·intro s169 W170 sg171 hS172 iv hq;obtain⟨d20,d21,d22,d23,rfl,E0,o19⟩:=iv;exact⟨.ref p3,rfl,hq p3 W170 E0 fr6 o19⟩
theorem Ci{f:Addr}{fd:Dr}(F:Fun K "_law_turnover" "_law_turnover" (tp 48) f fd):FnOk P w K mg base CX0 (1) f fd ["_law_card_here"] (dH (qA K) (rs<|qA K)<|Bc):=by
 have SC:FnScope ["_law_card_here","_law_holes_here"] ["_law_card_here"] (defScope<|tp 48):=by walk_at "F"
 refine F.ok SC (fun vs H Q E h=>?_)<|fun cdv A outer s H vs Q E hr h=>?_;·obtain⟨_,_,_,_,rfl,_⟩:=h;rfl
 ·obtain⟨W0,Z03,Z0i,rfl,rfl,Z01,Er,hq⟩:=h;refine⟨_,(aa (cn 1<|az (aQ (K:=K) rfl) (pv 0) a8<|fun _ _=>rfl)
   (af (au (d5 (a5 (az bS aY (dJ (K:=K) rfl rfl aY (a5 (az (aQ (K:=K) rfl) (pv 0) a8 (fun _ _=>rfl)) ae)) (fun _ _=>rfl)) (a5 (ai dG (ai dG (ai dG (az bS (pv 1) a8 (fun _ _=>rfl)) (az bS (pv 1) a8 (fun _ _=>rfl))) (az bS (pv 1) a8 (fun _ _=>rfl))) (az bS (pv 1) a8 (fun _ _=>rfl))) (a5 (ai aG (ai iR a8 (az (aQ (K:=K) rfl) (pv 0) a8 (fun _ _=>rfl))) a8) ae))))))),?_⟩
  have E0:Ext W0 W0:=.refl W0;unfold Bc at hq;refine aj (Er:=Er) (bf (f:=fun(b:Cd)=>b.2.1) lb<|aL Z01)<|fun v3 W1 e2 h4=>?_;cases h4;have E0:=E0.trans e2;have Z01:=CM e2.g Z01;exact aK (Er:=Er) (dh (K:=K) (bT (aV (x:=CY "ZS") (l:=[90,83]) (gp _ _ (by decide +kernel))) (fU (aV (x:=CY "SZ") (l:=[83,90]) (gp _ _ (by decide +kernel)))<|bf (f:=fun(b:Cd)=>b.1) nS<|aL Z01)) (gU (gU (gU (bT cy ah)<|bT cy ah)<|bT cy ah)<|bT cy ah) (aq (fun _=>by decide)<|aX ah<|bf (f:=fun(b:Cd)=>b.2.2) mK<|aL Z01))<|DE hq fun y14 hq v15 W16 e17 h18=>hq v15 W16 (E0.trans e17) h18
theorem Cj{f:Addr}{fd:Dr}(F:Fun K "_law_back" "_law_back" (tp 49) f fd):FnOk P w K mg base CX0 (1) f fd ["_law_turns_here"] (dH isS (rs isS)<|Bd):=by
 have SC:FnScope ["_law_turns_here"] ["_law_turns_here"] (defScope<|tp 49):=by walk_at "F"
 refine F.ok SC (fun vs H Q E h=>?_)<|fun cdv A outer s H vs Q E hr h=>?_;·obtain⟨_,_,_,_,rfl,_⟩:=h;rfl
 ·obtain⟨W0,Z09,_,rfl,rfl,Z0J,Er,hq⟩:=h;cases Z0J;refine⟨_,(af (au (kq (K:=K) rfl aY (a5 (eH (N:=["_law_turn"]) (cap:=[none]) (iu rfl (by decide +kernel) rfl (by decide +kernel) (by rfl) (by rfl)) rfl (iU<|pv 0) (fun _ _ _ _=>(bj (i:=0) (show Et (["_law_turn"]:List Str) by decide +kernel) rfl (by walk_at "L"))) (fun _ _ _ _=>cW)<|fun _ _ _ _=>(az bS aY (dJ (K:=K) rfl rfl aY<|a5 (pv 0) ae)<|fun _ _=>rfl)) ae)))),?_⟩;have E0:Ext W0 W0:=.refl W0;rw[show L2.start ["_law_turns_here"] [.str (aM Z09)]=[some (.str<|aM Z09)]from rfl];unfold Bd at hq;exact aK (Er:=Er) (mL (gp _ _ (by decide +kernel)) (Io (fo (iZ cy) fun W3 a1 v2 e4 h5 Q9 k10=>by
   cases h5;refine gn ?_;exact⟨by simp[Keep,br],((bT (aV (x:=CY "fib") (l:=[102,105,98]) (gp _ _ (by decide +kernel))) (fU (aV (x:=CY "bif") (l:=[98,105,102]) (gp _ _ (by decide +kernel))) cy)):EV Er _ [some (.str (aM a1))] _ _ _) _ (.refl _) _ k10⟩))) (DE hq fun y12 hq v13 W14 e15 h16=>hq v13 W14 (E0.trans e15) h16)
theorem Ck{f:Addr}{fd:Dr}(F:Fun K "_law_roll" "_law_roll" (tp 50) f fd)(h_range:mg "range"=none):FnOk P w K mg base CX0 (1) f fd ["_law_card_here","_law_many"] (bG (qA K) isI (rs<|qA K)<|Be):=by
 have SC:FnScope ["_law_card_here","_law_many","_law_holes_here"] ["_law_card_here","_law_many"] (defScope<|tp 50):=by walk_at "F"
 refine F.ok SC (fun vs H Q E h=>?_)<|fun cdv A outer s H vs Q E hr h=>?_;·obtain⟨_,_,_,_,_,_,rfl,_⟩:=h;rfl
 ·obtain⟨W0,Z03,Z0t,Z0i,_,rfl,rfl,Z01,Z2e,Er,hq⟩:=h;cases Z2e
  refine⟨_,(aa (cn 2 (kq (K:=K) rfl aY (a5 (eH (N:=["_law_k","_law_card_here","_law_many"]) (cap:=[none,some 0,some 1]) (iu rfl (by decide +kernel) rfl (by decide +kernel) (by rfl) (by rfl)) rfl (iP rfl h_range<|a5 a8 ae) (fun _ _ _ _=>(bj (i:=0) (show Et (["_law_k","_law_card_here","_law_many"]:List Str) by decide +kernel) rfl (by walk_at "L"))) (fun _ _ _ _=>cW)<|fun _ _ _ _=>(az bS (az (aQ (K:=K) rfl) (pv 1) a8<|fun _ _=>rfl) (ai aG (ai iR (pv 0)<|pv 2) a8)<|fun _ _=>rfl)) ae)))
   (af (au (d5 (a5 (az (aQ (K:=K) rfl) (pv 0) a8 (fun _ _=>rfl)) (a5 (pv 2) (a5 (ai aG (ai bH (az (aQ (K:=K) rfl) (pv 0) a8 (fun _ _=>rfl)) (pv 1)) a8) ae))))))),?_⟩
  have E0:Ext W0 W0:=.refl W0;rw[show L2.start ["_law_card_here","_law_many","_law_holes_here"] [Z0i,.int Z0t]=[some Z0i,some<|.int Z0t,none]from rfl];unfold Be at hq;refine aj (Er:=Er) (mL (gp _ _ (by decide +kernel)) (Io (fo (kf ah) fun W5 a3 v4 e6 h7 Q11 k12=>by
   have h8:=DW (R:=sh (qA K)) e6 Z01;cases h7;refine gn ?_;exact⟨by simp[Keep,br],((bT (bf (f:=fun(b:Cd)=>b.2.1) lb (aL h8)) (aq (fun _=>by decide) (aX aN aN))):EV Er _ [some (.int a3),some Z0i,some (.int Z0t)] _ _ _) _ (.refl _) _ k12⟩))) ((CO hq).imp fun y15 hq v16 W1 e2 h17=>?_)
  cases h17;have E0:=E0.trans e2;have Z01:=CM e2.g Z01;exact aK (Er:=Er) (dh (K:=K) (bf (f:=fun(b:Cd)=>b.1) nS<|aL Z01) cy (aq (fun _=>by decide)<|aX (bf (f:=fun(b:Cd)=>b.2.2) mK<|aL Z01) aN))<|fun v18 W19 e20 h21=>hq v18 W19 (E0.trans e20) h21
theorem Cm{f:Addr}{fd:Dr}(F:Fun K "_law_seen" "_law_seen" (tp 51) f fd){jA:Cd->Tx->Res Cd}(Z0W:Cal P w K mg base "_law_behind" ["_law_card_here","_law_turn"] (2) (bG (qA K) isS (rs<|qA K) jA))(h_sorted:mg "sorted"=none):FnOk P w K mg base CX0 (3) f fd ["_law_card_here","_law_turns_here"] (bG (qA K) isS (ro isI)<|Bf jA):=by
 have SC:FnScope ["_law_card_here","_law_turns_here","_law_out","_law_turn","_law_hole"] ["_law_card_here","_law_turns_here"] (defScope<|tp 51):=by walk_at "F"
 refine F.ok SC (fun vs H Q E h=>?_)<|fun cdv A outer s H vs Q E hr h=>?_;·obtain⟨_,_,_,_,_,_,rfl,_⟩:=h;rfl
 ·obtain⟨W0,Z03,Z09,Z0i,_,rfl,rfl,Z01,Z0J,Er,hq⟩:=h;cases Z0J;refine⟨_,(aa (cn 2<|cQ ae)
   (aa (cM DN rfl (iU<|pv 1) (fb 3) (aa (cn 0<|cb Z0W<|a5 (pv 0)<|a5 (pv 3) ae)
   (af (cM DN rfl (cE (K:=K) rfl (cQ (a5 (az (aQ (K:=K) rfl) (pv 0) a8 (fun _ _=>rfl)) (a5 (ai aG (ai bH (az (aQ (K:=K) rfl) (pv 0) a8 (fun _ _=>rfl)) a8) a8) ae)))) (fb 4) (af (bq (ax (i4 (K:=K) rfl) (pv 4) (pv 2) (by with_unfolding_all rfl)) (af (fg (cT (K:=K) rfl (pv 2) (a5 (pv 4) ae)))) aI))))))
   (af (au (aE (mI (K:=K) rfl) (by rfl) h_sorted IW (a5 (pv 2) ae)))))),?_⟩
  have E0:Ext W0 W0:=.refl W0;unfold Bf at hq;refine dq (Er:=Er) (gV (R:=isI))<|fun p3 W1 e2 hp4 o5=>?_;have fr6:=bp E0.h hp4;have E0:=E0.trans e2;have Z01:=CM e2.g Z01;refine df (Er:=Er) (f:=(AF jA)) (s0:=(Z03,([]:List Int))) (Iv:=fun(s9:(Cd×(List Int)))(W10:Wd)(g11:St)=>∃(v12:V)(d15:Option V)(d16:Option V),g11=[some v12,some<|.str<|aM Z09,some<|.ref p3,d16,d15]/\Ext W0 W10/\(qA K) W10.G s9.1 v12/\Ow isI W10 p3 s9.2) (iZ cy) (CO hq) ?_ ?_ ?_
  ·intro W28 e29;have E0:=E0.trans e29;have Z01:=CM e29.g Z01;have o5:=o5.mono e29;exact⟨_,_,_,rfl,E0,Z01,o5⟩
  ·intro Wb17 W18 W19 a7 v20 s8 sg21 P22 hW23 hB24 iv e25 h26 hq;obtain⟨v12,d15,d16,rfl,E0,h13,o14⟩:=iv;have E0:=E0.trans e25;have hB24:=hB24.trans e25.g;have o14:=o14.mono e25;have h13:=CM e25.g h13;cases h26;refine gn (σ':=[some v12,some<|.str<|aM Z09,some<|.ref p3,some<|.str<|aM a7,d15]) ?_;unfold AF at hq;refine aj (Er:=Er) (aS (aL h13) cy)<|(CO hq).imp fun y34 hq v35 W32 e33 h36=>?_;have E0:=E0.trans e33;have hB24:=hB24.trans e33.g;have o14:=o14.mono e33;refine pL (Er:=Er) (f:=zR) (s0:=s8.2) (Iv:=fun(s39:(List Int))(W40:Wd)(g41:St)=>∃(d43:Option V),g41=[some v35,some<|.str<|aM Z09,some<|.ref p3,some<|.str<|aM a7,d43]/\Ext W0 W40/\Ow isI W40 p3 s39) (di (FG (gG (bO (bf (f:=fun(b:Cd)=>b.2.2) mK<|aL h36) (bO (aq (fun _=>by decide)<|aX (bf (f:=fun(b:Cd)=>b.2.2) mK<|aL h36) ah)<|gF (R:=isI)))))) (CO hq) ?_ ?_ ?_
   ·intro W55 e56;have E0:=E0.trans e56;have hB24:=hB24.trans e56.g;have o14:=o14.mono e56;have h36:=CM e56.g h36;exact⟨_,rfl,E0,o14⟩
   ·intro Wb44 W45 W46 a37 v47 s38 sg48 P49 hW50 hB51 iv e52 h53 hq;obtain⟨d43,rfl,E0,o42⟩:=iv;have hB24:=hB24.trans hW50;have h36:=CM hW50 h36;have E0:=E0.trans e52;have hB24:=hB24.trans e52.g;have hB51:=hB51.trans e52.g;have o42:=o42.mono e52;have h36:=CM e52.g h36;cases h53;refine gn (σ':=[some v35,some<|.str<|aM Z09,some<|.ref p3,some<|.str<|aM a7,some<|.int a37]) ?_;unfold zR at hq;refine mM (Er:=Er) (Iv:=fun(s74:(List Int))(W75:Wd)(g76:St)=>g76=[some v35,some<|.str<|aM Z09,some<|.ref p3,some<|.str<|aM a7,some<|.int a37]/\Ext W0 W75/\Ow isI W75 p3 s74) (aB<|kg aN<|dQ o42) (CO hq) ?_ ?_ ?_
    ·intro W59 N62 e60 hN63 hq;have hs64:=e60.g;have E0:=E0.trans e60;have hB24:=hB24.trans e60.g;have hB51:=hB51.trans e60.g;have o42:=o42.mono e60;have h36:=CM e60.g h36;refine gH (Er:=Er) o42 aN<|(CO hq).imp fun y68 hq W65 mu66 o67=>?_;have E0:=mu66.e _ E0 fr6;have hB24:=hB24.trans mu66.g;have hB51:=hB51.trans mu66.g;have hs64:=hs64.trans mu66.g;have h36:=CM mu66.g h36;exact hN63 y68 W65 _ hs64 ⟨rfl,E0,o67⟩ hq
    ·intro W59 N62 e60 hN63 hq;have hs69:=e60.g;have E0:=E0.trans e60;have hB24:=hB24.trans e60.g;have hB51:=hB51.trans e60.g;have o42:=o42.mono e60;have h36:=CM e60.g h36
     try dsimp only[aD]
     exact hN63 s38 W59 _ hs69 ⟨rfl,E0,o42⟩ hq
    ·intro s70 W71 sg72 hS73 iv hq;obtain⟨rfl,E0,o77⟩:=iv;have hB24:=hB24.trans hS73;have hB51:=hB51.trans hS73;have h36:=CM hS73 h36
     try dsimp only
     refine cx (W:=W71) s70 hB51 ?_ hq;exact⟨_,rfl,E0,o77⟩
   ·intro s78 W79 sg80 hS81 iv hq;obtain⟨d43,rfl,E0,o42⟩:=iv;have hB24:=hB24.trans hS81;have h36:=CM hS81 h36
    try dsimp only
    refine cx (W:=W79) (y34,s78) hB24 ?_ hq;exact⟨_,_,_,rfl,E0,h36,o42⟩
  ·intro s82 W83 sg84 hS85 iv hq;obtain⟨v12,d15,d16,rfl,E0,h13,o14⟩:=iv;exact js (Er:=Er) (uS<|dQ o14)<|DE hq fun y86 hq p87 W88 e89 hp90 o91=>hq p87 W88 (E0.trans e89) (bp E0.h hp90) o91
theorem Cn{f:Addr}{fd:Dr}(F:Fun K "_law_kin" "_law_kin" (tp 52) f fd){qc:Cd->Res Cd}{oJ:Tx->Res Tx}{qd:Cd->Int->Res Cd}{xv:Cd->Tx->Res (List Int)}(Z0M:Cal P w K mg base "_law_turnover" ["_law_card_here"] (1) (dH (qA K) (rs<|qA K) qc))(Z0S:Cal P w K mg base "_law_back" ["_law_turns_here"] (1) (dH isS (rs isS) oJ))(Z1o:Cal P w K mg base "_law_roll" ["_law_card_here","_law_many"] (1) (bG (qA K) isI (rs<|qA K) qd))(Z2v:Cal P w K mg base "_law_seen" ["_law_card_here","_law_turns_here"] (3) (bG (qA K) isS (ro isI) xv))(h_range:mg "range"=none):FnOk P w K mg base CX0 (4) f fd ["_law_card_here","_law_turns_here","_law_cell"] (dz (qA K) isS isI (rs<|isT2 K (qA K) isS)<|Bg qc oJ qd xv):=by
 have SC:FnScope ["_law_card_here","_law_turns_here","_law_cell","_law_known","_law_hole","_law_colour"] ["_law_card_here","_law_turns_here","_law_cell"] (defScope<|tp 52):=by walk_at "F"
 refine F.ok SC (fun vs H Q E h=>?_)<|fun cdv A outer s H vs Q E hr h=>?_;·obtain⟨_,_,_,_,_,_,_,_,rfl,_⟩:=h;rfl
 ·obtain⟨W0,Z03,Z09,Z05,Z0i,_,_,rfl,rfl,Z01,Z0J,Z0I,Er,hq⟩:=h;cases Z0J;cases Z0I;refine⟨_,(aa (bq (ax cg (ai aG (pv 2) a8) a8<|ay _) (aa (cn 0<|cb Z0M<|a5 (pv 0) ae)
   (af (cn 1 (cb Z0S (a5 (pv 1) ae))))) aI)
   (aa (cn 0<|cb Z1o<|a5 (pv 0)<|a5 (ai aG (ai bo (pv 2) a8) a8) ae)
   (aa (bq (ax cg (ai aG (ai bo (pv 2) a8) a8) a8<|ay _) (aa (cn 3<|cb Z2v<|a5 (pv 0)<|a5 (pv 1) ae)
   (af (cM DN rfl (iP rfl h_range<|a5 a8 ae) (fb 4) (af (bq (ax (i4 (K:=K) rfl) (pv 4) (pv 3) (by with_unfolding_all rfl)) (aa (cn 5<|az bS aY (ai aG (ai bH (ai bo (pv 2) a8)<|ai fw a8<|pv 4) a8)<|fun _ _=>rfl)
   (af (cn 0 (d5 (a5 (az (aQ (K:=K) rfl) (pv 0) a8 (fun _ _=>rfl)) (a5 (ai dG (ai dG (jJ u7 (az (aQ (K:=K) rfl) (pv 0) a8 (fun _ _=>rfl)) mm (jo (pv 4))) (pv 5)) (jJ u7 (az (aQ (K:=K) rfl) (pv 0) a8 (fun _ _=>rfl)) (jo (ai bH (pv 4) a8)) mm)) (a5 (az (aQ (K:=K) rfl) (pv 0) a8 (fun _ _=>rfl)) ae))))))) aI))))) aI)
   (af (au (d5 (a5 (pv 0) (a5 (pv 1) ae)))))))),?_⟩
  have E0:Ext W0 W0:=.refl W0;unfold Bg at hq;refine cj (Er:=Er) (Iv:=fun(s22:(Cd×Tx))(W23:Wd)(g24:St)=>∃(v25:V),g24=[some v25,some<|.str<|aM s22.2,some<|.int Z05,none,none,none]/\Ext W0 W23/\(qA K) W23.G s22.1 v25) (aB (d9 (aq (fun _=>by decide) aN) ah)) (CO hq) ?_ ?_ ?_
  ·intro W1 N4 e2 hN5 hq;have hs6:=e2.g;have E0:=E0.trans e2;have Z01:=CM e2.g Z01;refine aj (Er:=Er) (bV<|aL Z01)<|(CO hq).imp fun y9 hq v10 W7 e8 h11=>?_;have E0:=E0.trans e8;have hs6:=hs6.trans e8.g;refine de (Er:=Er) (bV cy)<|(CO hq).imp fun y14 hq v15 W12 e13 h16=>?_;cases h16;have E0:=E0.trans e13;have hs6:=hs6.trans e13.g;have h11:=CM e13.g h11;exact hN5 (y9,y14) W12 _ hs6 ⟨_,rfl,E0,h11⟩ hq
  ·intro W1 N4 e2 hN5 hq;have hs17:=e2.g;have E0:=E0.trans e2;have Z01:=CM e2.g Z01
   try dsimp only[aD]
   exact hN5 (Z03,Z09) W1 _ hs17 ⟨_,rfl,E0,Z01⟩ hq
  ·intro s18 W19 sg20 hS21 iv hq;obtain⟨v25,rfl,E0,h26⟩:=iv;refine aj (Er:=Er) (aS (aL h26) (aq (fun _=>by decide) (aq (fun _=>⟨by decide,by decide⟩) aN)))<|(CO hq).imp fun y29 hq v30 W27 e28 h31=>?_;have E0:=E0.trans e28;refine cj (Er:=Er) (Iv:=fun(s111:Cd)(W112:Wd)(g113:St)=>∃(v114:V)(d116:Option V)(d117:Option V)(d118:Option V),g113=[some v114,some<|.str<|aM s18.2,some<|.int Z05,d116,d117,d118]/\Ext W0 W112/\(qA K) W112.G s111 v114) (aB (d9 (aq (fun _=>by decide) (aq (fun _=>⟨by decide,by decide⟩) aN)) ah)) (CO hq) ?_ ?_ ?_
   ·intro W32 N35 e33 hN36 hq;have hs37:=e33.g;have E0:=E0.trans e33;have h31:=CM e33.g h31;refine aj (Er:=Er) (FG<|gW (aL h31) cy)<|(CO hq).imp fun y40 hq v41 W38 e39 h42=>?_;have E0:=E0.trans e39;have hs37:=hs37.trans e39.g;have h31:=CM e39.g h31;refine pL (Er:=Er) (f:=(zS Z05 y40)) (s0:=y29) (Iv:=fun(s45:Cd)(W46:Wd)(g47:St)=>∃(v48:V)(d50:Option V)(d51:Option V),g47=[some v48,some<|.str<|aM s18.2,some<|.int Z05,some v41,d51,d50]/\Ext W0 W46/\(qA K) W46.G s45 v48) (kf ah) (CO hq) ?_ ?_ ?_
    ·intro W63 e64;have E0:=E0.trans e64;have hs37:=hs37.trans e64.g;have h31:=CM e64.g h31;have h42:=CM e64.g h42;exact⟨_,_,_,rfl,E0,h31⟩
    ·intro Wb52 W53 W54 a43 v55 s44 sg56 P57 hW58 hB59 iv e60 h61 hq;obtain⟨v48,d50,d51,rfl,E0,h49⟩:=iv;have hs37:=hs37.trans hW58;have h42:=CM hW58 h42;have E0:=E0.trans e60;have hs37:=hs37.trans e60.g;have hB59:=hB59.trans e60.g;have h42:=CM e60.g h42;have h49:=CM e60.g h49;cases h61;refine gn (σ':=[some v48,some<|.str<|aM s18.2,some<|.int Z05,some v41,some<|.int a43,d50]) ?_;unfold zS at hq;refine mM (Er:=Er) (Iv:=fun(s95:Cd)(W96:Wd)(g97:St)=>∃(v98:V)(d100:Option V),g97=[some v98,some<|.str<|aM s18.2,some<|.int Z05,some v41,some<|.int a43,d100]/\Ext W0 W96/\(qA K) W96.G s95 v98) (aB<|kg aN<|GN<|aL h42) (CO hq) ?_ ?_ ?_
     ·intro W67 N70 e68 hN71 hq;have hs72:=e68.g;have E0:=E0.trans e68;have hs37:=hs37.trans e68.g;have hB59:=hB59.trans e68.g;have h42:=CM e68.g h42;have h49:=CM e68.g h49;refine aj (Er:=Er) (bT (aV (x:=CY "abcdefghijklmnopqrstuvwxyz") (l:=[97,98,99,100,101,102,103,104,105,106,107,108,109,110,111,112,113,114,115,116,117,118,119,120,121,122]) (gp _ _ (by decide +kernel))) (aq (fun _=>by decide) (aX (aq (fun _=>⟨by decide,by decide⟩) aN)<|jY ah aN)))<|(CO hq).imp fun y78 hq v79 W73 e74 h80=>?_;cases h80;have E0:=E0.trans e74;have hs37:=hs37.trans e74.g;have hB59:=hB59.trans e74.g;have hs72:=hs72.trans e74.g;have h42:=CM e74.g h42;have h49:=CM e74.g h49;refine de (Er:=Er) (dh (K:=K) (bf (f:=fun(b:Cd)=>b.1) nS<|aL h49) (gU (gU (qP (bf (f:=fun(b:Cd)=>b.2.1) lb<|aL h49) uC<|uD aN) cy)<|qP (bf (f:=fun(b:Cd)=>b.2.1) lb<|aL h49) (uD<|aX aN ah) uC)<|bf (f:=fun(b:Cd)=>b.2.2) mK<|aL h49)<|(CO hq).imp fun y87 hq v88 W81 e82 h89=>?_;have E0:=E0.trans e82;have hs37:=hs37.trans e82.g;have hB59:=hB59.trans e82.g;have hs72:=hs72.trans e82.g;have h42:=CM e82.g h42;exact hN71 y87 W81 _ hs72 ⟨_,_,rfl,E0,h89⟩ hq
     ·intro W67 N70 e68 hN71 hq;have hs90:=e68.g;have E0:=E0.trans e68;have hs37:=hs37.trans e68.g;have hB59:=hB59.trans e68.g;have h42:=CM e68.g h42;have h49:=CM e68.g h49
      try dsimp only[aD]
      exact hN71 s44 W67 _ hs90 ⟨_,_,rfl,E0,h49⟩ hq
     ·intro s91 W92 sg93 hS94 iv hq;obtain⟨v98,d100,rfl,E0,h99⟩:=iv;have hs37:=hs37.trans hS94;have hB59:=hB59.trans hS94;have h42:=CM hS94 h42
      try dsimp only
      refine cx (W:=W92) s91 hB59 ?_ hq;exact⟨_,_,_,rfl,E0,h99⟩
    ·intro s102 W103 sg104 hS105 iv hq;obtain⟨v48,d50,d51,rfl,E0,h49⟩:=iv;have hs37:=hs37.trans hS105;exact hN36 s102 W103 _ hs37 ⟨_,_,_,_,rfl,E0,h49⟩ hq
   ·intro W32 N35 e33 hN36 hq;have hs106:=e33.g;have E0:=E0.trans e33;have h31:=CM e33.g h31
    try dsimp only[aD]
    exact hN36 y29 W32 _ hs106 ⟨_,_,_,_,rfl,E0,h31⟩ hq
   ·intro s107 W108 sg109 hS110 iv hq;obtain⟨v114,d116,d117,d118,rfl,E0,h115⟩:=iv;exact aK (Er:=Er) (jq (K:=K) (aL h115) cy)<|fun v119 W120 e121 h122=>hq v119 W120 (E0.trans e121) h122
theorem Co{f:Addr}{fd:Dr}(F:Fun K "_law_case" "_law_case" (tp 53) f fd){wq:Int->Res Cd}{ir:List Int->Int->Res Int}{xr:Int->Int->Res Tx}{qb:Cd->Tx->Res (List Pl)}{xt:(List Pl)->Int->Res (List Pl)}{xu:(List Pl)->Int->Bool->Res (List Pl)}{xw:Cd->Tx->Int->Res (Cd×Tx)}(Z24:Cal P w K mg base "_law_card" ["_law_cell"] (3) (dH isI (rs<|qA K) wq))(Z0D:Cal P w K mg base "_law_at" ["_law_script","_law_k"] (1) (bG (isScr K) isI (rs isI) ir))(Z2h:Cal P w K mg base "_law_turns" ["_law_cell","_law_many"] (2) (bG isI isI (rs isS) xr))(Z0X:Cal P w K mg base "_law_places" ["_law_card_here","_law_turns_here"] (3) (bG (qA K) isS (ro<|qB K) qb))(Z2w:Cal P w K mg base "_law_long" ["_law_places_here","_law_cell"] (2) (bG (qD K) isI (ro<|qB K) xt))(Z2i:Cal P w K mg base "_law_marks" ["_law_places_here","_law_cell","_law_lies"] (2) (dz (qD K) isI isB (ro<|qB K) xu))(Z2Y:Cal P w K mg base "_law_kin" ["_law_card_here","_law_turns_here","_law_cell"] (4) (dz (qA K) isS isI (rs<|isT2 K (qA K) isS) xw)):FnOk P w K mg base CX0 (5) f fd ["_law_script","_law_most"] (bG (isScr K) isI (rs<|isT3 K (qA K) (qD K) isI)<|Bh wq ir xr qb xt xu xw):=by
 have SC:FnScope ["_law_script","_law_most","_law_card_here","_law_size","_law_cell","_law_many","_law_turns_here","_law_places_here","_law_strip","_law_side"] ["_law_script","_law_most"] (defScope<|tp 53):=by walk_at "F"
 refine F.ok SC (fun vs H Q E h=>?_)<|fun cdv A outer s H vs Q E hr h=>?_;·obtain⟨_,_,_,_,_,_,rfl,_⟩:=h;rfl
 ·obtain⟨W0,Z0f,Z1E,Z0Q,_,rfl,rfl,Z02,Z4w,Er,hq⟩:=h;cases Z4w;refine⟨_,(aa (cn 2<|cb Z24<|a5 (cb Z0D<|a5 (pv 0)<|a5 a8 ae) ae)
   (aa (cn 3<|cb Z0D<|a5 (pv 0)<|a5 a8 ae)
   (aa (cn 4<|cb Z0D<|a5 (pv 0)<|a5 a8 ae)
   (aa (cn 5<|ai aG (pv 3)<|ai bH (pv 1) a8)
   (aa (bq (ax cg (ai aG (ai bo (pv 3) a8) a8) a8<|ay _) (af<|cn 5<|ai bH a8<|ai aG (ai bo (pv 3) a8) a8) aI)
   (aa (bq (ax cg (ai aG (ai bo (pv 3) a8) a8) a8<|ay _) (af<|cn 5<|ai bH a8<|ai aG (ai bo (pv 3) a8) a8) aI)
   (aa (cn 6<|cb Z2h<|a5 (cb Z0D<|a5 (pv 0)<|a5 a8 ae)<|a5 (pv 5) ae)
   (aa (cn 7<|cb Z0X<|a5 (pv 2)<|a5 (pv 6) ae)
   (aa (bq (ax qy (pv 5) (pv 1)<|ay _) (af<|cn 8<|cb Z2w<|a5 (pv 7)<|a5 (pv 4) ae)<|af<|cn 8<|cb Z2i<|a5 (pv 7)<|a5 (ai bo (pv 4) a8)<|a5 (cP cg (ai aG (pv 4) a8) a8<|ay _) ae)
   (aa (cn 9<|ai bo (cb Z0D<|a5 (pv 0)<|a5 a8 ae) a8)
   (aa (bq (ax cg (ai aG (pv 9) a8) a8<|ay _) (af<|cn 2<|az (aQ (K:=K) rfl) (cb Z2Y<|a5 (pv 2)<|a5 (pv 6)<|a5 (ai bo (pv 9) a8) ae) a8<|fun _ _=>rfl) aI)
   (aa (bq (ax cg (ai aG (pv 9) a8) a8<|ay _) (af<|cn 2<|cb Z24<|a5 (ai bo (pv 9) a8) ae) aI)
   (af (au (d5 (a5 (pv 2) (a5 (pv 8) (a5 (ai aG (cb Z0D (a5 (pv 0) (a5 a8 ae))) a8) ae)))))))))))))))))),?_⟩
  have E0:Ext W0 W0:=.refl W0;unfold Bh at hq;refine aj (Er:=Er) (bV<|aS (aL Z02) ah)<|(CO hq).imp fun y4 hq v5 W1 e2 h6=>?_;have E0:=E0.trans e2;have Z02:=CM e2.g Z02;refine aj (Er:=Er) (aS (aL Z02) ah)<|(CO hq).imp fun y9 hq v10 W7 e8 h11=>?_;cases h11;have E0:=E0.trans e8;have Z02:=CM e8.g Z02;have h6:=CM e8.g h6;refine aj (Er:=Er) (aS (aL Z02) ah)<|(CO hq).imp fun y14 hq v15 W12 e13 h16=>?_;cases h16;have E0:=E0.trans e13;have Z02:=CM e13.g Z02;have h6:=CM e13.g h6;refine aj (Er:=Er) (iX aN<|aX aN ah)<|(CO hq).imp fun y19 hq v20 W17 e18 h21=>?_;cases h21;have E0:=E0.trans e18;have Z02:=CM e18.g Z02;have h6:=CM e18.g h6;refine cj (Er:=Er) (Iv:=fun(s37:Int)(W38:Wd)(g39:St)=>g39=[some Z0Q,some<|.int Z1E,some v5,some<|.int y9,some<|.int y14,some<|.int s37,none,none,none,none]/\Ext W0 W38) (aB (d9 (aq (fun _=>by decide) (aq (fun _=>⟨by decide,by decide⟩) aN)) ah)) (CO hq) ?_ ?_ ?_
  ·intro W22 N25 e23 hN26 hq;have hs27:=e23.g;have E0:=E0.trans e23;have Z02:=CM e23.g Z02;have h6:=CM e23.g h6;refine de (Er:=Er) (aX ah (aq (fun _=>by decide) (aq (fun _=>⟨by decide,by decide⟩) aN)))<|fun v30 W28 e29 h31=>?_;cases h31;have E0:=E0.trans e29;have hs27:=hs27.trans e29.g;have Z02:=CM e29.g Z02;have h6:=CM e29.g h6;exact hN26 ((25:Int)+((y9/78)%36)) W28 _ hs27 ⟨rfl,E0⟩ hq
  ·intro W22 N25 e23 hN26 hq;have hs32:=e23.g;have E0:=E0.trans e23;have Z02:=CM e23.g Z02;have h6:=CM e23.g h6
   try dsimp only[aD]
   exact hN26 y19 W22 _ hs32 ⟨rfl,E0⟩ hq
  ·intro s33 W34 sg35 hS36 iv hq;obtain⟨rfl,E0⟩:=iv;have Z02:=CM hS36 Z02;have h6:=CM hS36 h6;refine cj (Er:=Er) (Iv:=fun(s55:Int)(W56:Wd)(g57:St)=>g57=[some Z0Q,some<|.int Z1E,some v5,some<|.int y9,some<|.int y14,some<|.int s55,none,none,none,none]/\Ext W0 W56) (aB (d9 (aq (fun _=>by decide) (aq (fun _=>⟨by decide,by decide⟩) aN)) ah)) (CO hq) ?_ ?_ ?_
   ·intro W40 N43 e41 hN44 hq;have hs45:=e41.g;have E0:=E0.trans e41;have Z02:=CM e41.g Z02;have h6:=CM e41.g h6;refine de (Er:=Er) (aX ah (aq (fun _=>by decide) (aq (fun _=>⟨by decide,by decide⟩) aN)))<|fun v48 W46 e47 h49=>?_;cases h49;have E0:=E0.trans e47;have hs45:=hs45.trans e47.g;have Z02:=CM e47.g Z02;have h6:=CM e47.g h6;exact hN44 ((13:Int)+((y9/78)%12)) W46 _ hs45 ⟨rfl,E0⟩ hq
   ·intro W40 N43 e41 hN44 hq;have hs50:=e41.g;have E0:=E0.trans e41;have Z02:=CM e41.g Z02;have h6:=CM e41.g h6
    try dsimp only[aD]
    exact hN44 s33 W40 _ hs50 ⟨rfl,E0⟩ hq
   ·intro s51 W52 sg53 hS54 iv hq;obtain⟨rfl,E0⟩:=iv;have Z02:=CM hS54 Z02;have h6:=CM hS54 h6;refine aj (Er:=Er) (aS (aS (aL Z02) ah) aN)<|(CO hq).imp fun y61 hq v62 W58 e59 h63=>?_;cases h63;have E0:=E0.trans e59;have Z02:=CM e59.g Z02;have h6:=CM e59.g h6;refine aj (Er:=Er) (FG<|gW (aL h6) cy)<|(CO hq).imp fun y66 hq v67 W64 e65 h68=>?_;have E0:=E0.trans e65;have Z02:=CM e65.g Z02;have h6:=CM e65.g h6;refine cj (Er:=Er) (Iv:=fun(s90:(List Pl))(W91:Wd)(g92:St)=>∃(v93:V),g92=[some Z0Q,some<|.int Z1E,some v5,some<|.int y9,some<|.int y14,some<|.int s51,some<|.str<|aM y61,some v67,some v93,none]/\Ext W0 W91/\(qD K) W91.G s90 v93) (aB<|d6 aN aN) (CO hq) ?_ ?_ ?_
    ·intro W69 N72 e70 hN73 hq;have hs74:=e70.g;have E0:=E0.trans e70;have Z02:=CM e70.g Z02;have h6:=CM e70.g h6;have h68:=CM e70.g h68;refine de (Er:=Er) (FG<|gW (aL h68) aN)<|(CO hq).imp fun y77 hq v78 W75 e76 h79=>?_;have E0:=E0.trans e76;have hs74:=hs74.trans e76.g;have Z02:=CM e76.g Z02;have h6:=CM e76.g h6;exact hN73 y77 W75 _ hs74 ⟨_,rfl,E0,h79⟩ hq
    ·intro W69 N72 e70 hN73 hq;have hs80:=e70.g;have E0:=E0.trans e70;have Z02:=CM e70.g Z02;have h6:=CM e70.g h6;have h68:=CM e70.g h68;refine de (Er:=Er) (FG (fE (aL h68) (aq (fun _=>⟨by decide,by decide⟩) aN) (d9 (aq (fun _=>by decide) aN) ah)))<|(CO hq).imp fun y83 hq v84 W81 e82 h85=>?_;have E0:=E0.trans e82;have hs80:=hs80.trans e82.g;have Z02:=CM e82.g Z02;have h6:=CM e82.g h6;exact hN73 y83 W81 _ hs80 ⟨_,rfl,E0,h85⟩ hq
    ·intro s86 W87 sg88 hS89 iv hq;obtain⟨v93,rfl,E0,h94⟩:=iv;have Z02:=CM hS89 Z02;have h6:=CM hS89 h6;refine aj (Er:=Er) (aq (fun _=>⟨by decide,by decide⟩)<|aS (aL Z02) ah)<|(CO hq).imp fun y98 hq v99 W95 e96 h100=>?_;cases h100;have E0:=E0.trans e96;have Z02:=CM e96.g Z02;have h6:=CM e96.g h6;have h94:=CM e96.g h94;refine cj (Er:=Er) (Iv:=fun(s118:Cd)(W119:Wd)(g120:St)=>∃(v121:V),g120=[some Z0Q,some<|.int Z1E,some v121,some<|.int y9,some<|.int y14,some<|.int s51,some<|.str<|aM y61,some v67,some v93,some<|.int y98]/\Ext W0 W119/\(qA K) W119.G s118 v121) (aB (d9 (aq (fun _=>by decide) aN) ah)) (CO hq) ?_ ?_ ?_
     ·intro W101 N104 e102 hN105 hq;have hs106:=e102.g;have E0:=E0.trans e102;have Z02:=CM e102.g Z02;have h6:=CM e102.g h6;have h94:=CM e102.g h94;refine de (Er:=Er) (bf (f:=fun(b:Cd×Tx)=>b.1) Ao (cS (aL h6) cy (aq (fun _=>⟨by decide,by decide⟩) aN)))<|(CO hq).imp fun y110 hq v111 W107 e108 h112=>?_;have E0:=E0.trans e108;have hs106:=hs106.trans e108.g;have Z02:=CM e108.g Z02;have h94:=CM e108.g h94;exact hN105 y110 W107 _ hs106 ⟨_,rfl,E0,h112⟩ hq
     ·intro W101 N104 e102 hN105 hq;have hs113:=e102.g;have E0:=E0.trans e102;have Z02:=CM e102.g Z02;have h6:=CM e102.g h6;have h94:=CM e102.g h94
      try dsimp only[aD]
      exact hN105 y4 W101 _ hs113 ⟨_,rfl,E0,h6⟩ hq
     ·intro s114 W115 sg116 hS117 iv hq;obtain⟨v121,rfl,E0,h122⟩:=iv;have Z02:=CM hS117 Z02;have h94:=CM hS117 h94;refine cj (Er:=Er) (Iv:=fun(s139:Cd)(W140:Wd)(g141:St)=>∃(v142:V),g141=[some Z0Q,some<|.int Z1E,some v142,some<|.int y9,some<|.int y14,some<|.int s51,some<|.str<|aM y61,some v67,some v93,some<|.int y98]/\Ext W0 W140/\(qA K) W140.G s139 v142) (aB (d9 (aq (fun _=>by decide) aN) ah)) (CO hq) ?_ ?_ ?_
      ·intro W123 N126 e124 hN127 hq;have hs128:=e124.g;have E0:=E0.trans e124;have Z02:=CM e124.g Z02;have h94:=CM e124.g h94;have h122:=CM e124.g h122;refine de (Er:=Er) (bV (aq (fun _=>⟨by decide,by decide⟩) aN))<|(CO hq).imp fun y131 hq v132 W129 e130 h133=>?_;have E0:=E0.trans e130;have hs128:=hs128.trans e130.g;have Z02:=CM e130.g Z02;have h94:=CM e130.g h94;exact hN127 y131 W129 _ hs128 ⟨_,rfl,E0,h133⟩ hq
      ·intro W123 N126 e124 hN127 hq;have hs134:=e124.g;have E0:=E0.trans e124;have Z02:=CM e124.g Z02;have h94:=CM e124.g h94;have h122:=CM e124.g h122
       try dsimp only[aD]
       exact hN127 s114 W123 _ hs134 ⟨_,rfl,E0,h122⟩ hq
      ·intro s135 W136 sg137 hS138 iv hq;obtain⟨v142,rfl,E0,h143⟩:=iv;have Z02:=CM hS138 Z02;have h94:=CM hS138 h94;exact aK (Er:=Er) (dh (K:=K) (aL h143) (aL h94) (aq (fun _=>by decide)<|aS (aL Z02) ah))<|DE hq fun y146 hq v147 W148 e149 h150=>hq v147 W148 (E0.trans e149) h150
theorem Cp{f:Addr}{fd:Dr}(F:Fun K "within" "within" (tp 22) f fd)(h_abs:mg "abs"=none):FnOk P w K mg base CX0 (1) f fd ["state","loose","bound"] (dz (qC K) isI isI (rs isB)<|Bi):=by
 have SC:FnScope ["state","loose","bound","twist","idle"] ["state","loose","bound"] (defScope<|tp 22):=by walk_at "F"
 refine F.ok SC (fun vs H Q E h=>?_)<|fun cdv A outer s H vs Q E hr h=>?_;·obtain⟨_,_,_,_,_,_,_,_,rfl,_⟩:=h;rfl
 ·obtain⟨W0,state,loose,bound,Z2d,_,_,rfl,rfl,Z1X,Z0v,Z0E,Er,hq⟩:=h;cases Z0v;cases Z0E;refine⟨_,(aa (eP (pv 0)<|bD (K:=K) (n:=2) rfl rfl<|ak (fb 3)<|ak (fb 4) bC)
   (af (au (gv (cP yg (aE jH (by rfl) h_abs Hm (a5 (pv 3) ae)) (pv 2) (ay _)) (i8 (cP yg (pv 4) (pv 1) (ay _))))))),?_⟩
  have E0:Ext W0 W0:=.refl W0;unfold Bi at hq;refine dY (Er:=Er) (aL Z1X)<|fun v1 W2 e3 h4=>?_;have E0:=E0.trans e3;refine ik h4 fun v5 v7 h6 h8=>?_;cases h6;cases h8;exact aK (Er:=Er) (mJ (d6 (pJ aN) aN)<|d6 aN aN)<|DE hq fun y9 hq v10 W11 e12 h13=>hq v10 W11 (E0.trans e12) h13
theorem Cq{f:Addr}{fd:Dr}(F:Fun K "twisting" "twisting" (tp 9) f fd){Z1Y:Addr}(Z3F:mg "STEPS"=some (.ref Z1Y))(Z3G:DictK K w Z1Y [(FU<|CY "f",.int<|1),(FU<|CY "b",.int<|-1),(FU<|CY "i",.int<|0)]):FnOk P w K mg base CX0 (1) f fd ["tablet","turn"] (bG (qA K) isS (rs isI)<|Bj):=by
 have SC:FnScope ["tablet","turn","step"] ["tablet","turn"] (defScope<|tp 9):=by walk_at "F"
 refine F.ok SC (fun vs H Q E h=>?_)<|fun cdv A outer s H vs Q E hr h=>?_;·obtain⟨_,_,_,_,_,_,rfl,_⟩:=h;rfl
 ·obtain⟨W0,tablet,turn,Z0a,_,rfl,rfl,Z00,Z1S,Er,hq⟩:=h;cases Z1S
  refine⟨_,(aa (cn 2 (lH (K:=K) (w:=w) rfl rfl (bU (v:=.ref _) (by rfl) Z3F rfl) (pv 1)<|fun _ _=>rfl))
   (af (au (gw (ax cg (az (aQ (K:=K) rfl) (pv 0) a8 (fun _ _=>rfl)) aY (ay _)) (pv 2) (j8 gy (pv 2)))))),?_⟩
  have E0:Ext W0 W0:=.refl W0;unfold Bj at hq;refine aj (Er:=Er) (sH Z3G (by decide +kernel) cy)<|(CO hq).imp fun y3 hq v4 W1 e2 h5=>?_;cases h5;have E0:=E0.trans e2;have Z00:=CM e2.g Z00;exact aK (Er:=Er) (nR (aB (ij (bf (f:=fun(b:Cd)=>b.1) nS<|aL Z00) (aV (x:=CY "S") (l:=[83]) (gp _ _ (by decide +kernel))))) aN<|ig aN)<|DE hq fun y6 hq v7 W8 e9 h10=>hq v7 W8 (E0.trans e9) h10
theorem Cr{f:Addr}{fd:Dr}(F:Fun K "state_behind" "state_behind" (tp 21) f fd){qe:Cd->Tx->Res Int}(Z1A:Cal P w K mg base "twisting" ["tablet","turn"] (1) (bG (qA K) isS (rs isI) qe)):FnOk P w K mg base CX0 (2) f fd ["tablet","state","turn"] (dz (qA K) (qC K) isS (rs<|qC K)<|Bk qe):=by
 have SC:FnScope ["tablet","state","turn","twist","idle"] ["tablet","state","turn"] (defScope<|tp 21):=by walk_at "F"
 refine F.ok SC (fun vs H Q E h=>?_)<|fun cdv A outer s H vs Q E hr h=>?_;·obtain⟨_,_,_,_,_,_,_,_,rfl,_⟩:=h;rfl
 ·obtain⟨W0,tablet,state,turn,Z0a,Z2d,_,rfl,rfl,Z00,Z1X,Z1S,Er,hq⟩:=h;cases Z1S;refine⟨_,(aa (eP (pv 1)<|bD (K:=K) (n:=2) rfl rfl<|ak (fb 3)<|ak (fb 4) bC)
   (af (au (d5 (a5 (ai bH (pv 3) (cb Z1A (a5 (pv 0) (a5 (pv 2) ae)))) (a5 (gw (ax cg (pv 2) aY (ay _)) (ai bH (pv 4) a8) a8) ae)))))),?_⟩
  have E0:Ext W0 W0:=.refl W0;unfold Bk at hq;refine dY (Er:=Er) (aL Z1X)<|fun v1 W2 e3 h4=>?_;have E0:=E0.trans e3;have Z00:=CM e3.g Z00;refine ik h4 fun v5 v7 h6 h8=>?_;cases h6;cases h8;exact aK (Er:=Er) (jq (K:=K) (aX aN<|aS (aL Z00) cy) (nR (aB (ij cy (aV (x:=CY "i") (l:=[105]) (gp _ _ (by decide +kernel))))) (aX aN ah) ah))<|DE hq fun y12 hq v13 W14 e15 h16=>hq v13 W14 (E0.trans e15) h16
theorem Cs{f:Addr}{fd:Dr}(F:Fun K "twisted" "twisted" (tp 20) f fd){Z1Z:Tok}(Z1B:mg "HOLES"=some (.int 4 Z1Z)):FnOk P w K mg base CX0 (1) f fd ["tablet","twist"] (bG (qA K) isI (rs<|qA K)<|Bl):=by
 have SC:FnScope ["tablet","twist","lay","holes","stand"] ["tablet","twist"] (defScope<|tp 20):=by walk_at "F"
 refine F.ok SC (fun vs H Q E h=>?_)<|fun cdv A outer s H vs Q E hr h=>?_;·obtain⟨_,_,_,_,_,_,rfl,_⟩:=h;rfl
 ·obtain⟨W0,tablet,twist,Z0a,_,rfl,rfl,Z00,Z4M,Er,hq⟩:=h;cases Z4M;refine⟨_,(aa (eP (pv 0)<|bD (K:=K) (n:=3) rfl rfl<|ak (fb 2)<|ak (fb 3)<|ak (fb 4) bC)
   (af (au (d5 (a5 (pv 2) (a5 (pv 3) (a5 (ai aG (gw (ax cg (pv 2) aY (ay _)) (ai bH (pv 4) (pv 1)) (ai iR (pv 4) (pv 1))) (bU (v:=.int 4) (by rfl) Z1B ⟨_,rfl⟩)) ae))))))),?_⟩
  have E0:Ext W0 W0:=.refl W0;unfold Bl at hq;refine dY (Er:=Er) (aL Z00)<|fun v1 W2 e3 h4=>?_;have E0:=E0.trans e3;refine sF h4 fun v5 v7 v9 h6 h8 h10=>?_;cases h6;cases h8;cases h10;exact aK (Er:=Er) (dh (K:=K) cy cy (aq (fun _=>by decide) (nR (aB (ij cy (aV (x:=CY "S") (l:=[83]) (gp _ _ (by decide +kernel))))) (aX aN aN)<|aX aN aN)))<|DE hq fun y13 hq v14 W15 e16 h17=>hq v14 W15 (E0.trans e16) h17
theorem AJ{f:Addr}{fd:Dr}(F:Fun K "top" "top" (tp 7) f fd){Z1Z:Tok}(Z1B:mg "HOLES"=some (.int 4 Z1Z)):FnOk P w K mg base CX0 (1) f fd ["tablet"] (dH (qA K) (rs isS)<|rC):=by
 have SC:FnScope ["tablet","lay","holes","stand"] ["tablet"] (defScope<|tp 7):=by walk_at "F"
 refine F.ok SC (fun vs H Q E h=>?_)<|fun cdv A outer s H vs Q E hr h=>?_;·obtain⟨_,_,_,_,rfl,_⟩:=h;rfl
 ·obtain⟨W0,tablet,Z0a,rfl,rfl,Z00,Er,hq⟩:=h;refine⟨_,(aa (eP (pv 0)<|bD (K:=K) (n:=3) rfl rfl<|ak (fb 1)<|ak (fb 2)<|ak (fb 3) bC)
   (af (au (az bS (pv 2) (ai aG (pv 3) (bU (v:=.int 4) (by rfl) Z1B ⟨_,rfl⟩)) (fun _ _=>rfl))))),?_⟩
  have E0:Ext W0 W0:=.refl W0;unfold rC at hq;refine dY (Er:=Er) (aL Z00)<|fun v1 W2 e3 h4=>?_;have E0:=E0.trans e3;refine sF h4 fun v5 v7 v9 h6 h8 h10=>?_;cases h6;cases h8;cases h10;exact aK (Er:=Er) (bT cy (aq (fun _=>by decide) aN))<|DE hq fun y11 hq v12 W13 e14 h15=>hq v12 W13 (E0.trans e14) h15
theorem Ct{f:Addr}{fd:Dr}(F:Fun K "bottom" "bottom" (tp 8) f fd){Z1Z:Tok}(Z1B:mg "HOLES"=some (.int 4 Z1Z)):FnOk P w K mg base CX0 (1) f fd ["tablet"] (dH (qA K) (rs isS)<|Bm):=by
 have SC:FnScope ["tablet","lay","holes","stand"] ["tablet"] (defScope<|tp 8):=by walk_at "F"
 refine F.ok SC (fun vs H Q E h=>?_)<|fun cdv A outer s H vs Q E hr h=>?_;·obtain⟨_,_,_,_,rfl,_⟩:=h;rfl
 ·obtain⟨W0,tablet,Z0a,rfl,rfl,Z00,Er,hq⟩:=h;refine⟨_,(aa (eP (pv 0)<|bD (K:=K) (n:=3) rfl rfl<|ak (fb 1)<|ak (fb 2)<|ak (fb 3) bC)
   (af (au (az bS (pv 2) (ai aG (ai bH (pv 3) a8) (bU (v:=.int 4) (by rfl) Z1B ⟨_,rfl⟩)) (fun _ _=>rfl))))),?_⟩
  have E0:Ext W0 W0:=.refl W0;unfold Bm at hq;refine dY (Er:=Er) (aL Z00)<|fun v1 W2 e3 h4=>?_;have E0:=E0.trans e3;refine sF h4 fun v5 v7 v9 h6 h8 h10=>?_;cases h6;cases h8;cases h10;exact aK (Er:=Er) (bT cy (aq (fun _=>by decide)<|aX aN ah))<|DE hq fun y11 hq v12 W13 e14 h15=>hq v12 W13 (E0.trans e14) h15
theorem Cu{f:Addr}{fd:Dr}(F:Fun K "left_place" "left_place" (tp 13) f fd){iJ:Cd->Res Tx}{xA:Cd->Res Tx}{qe:Cd->Tx->Res Int}(C_top:Cal P w K mg base "top" ["tablet"] (1) (dH (qA K) (rs isS) iJ))(Z3g:Cal P w K mg base "bottom" ["tablet"] (1) (dH (qA K) (rs isS) xA))(Z1A:Cal P w K mg base "twisting" ["tablet","turn"] (1) (bG (qA K) isS (rs isI) qe)){Z1J:Addr}(Z3h:mg "SLANTS"=some (.ref Z1J))(Z3i:DictK K w Z1J [(FT<|1,.str<|CY "s"),(FT<|-1,.str<|CY "z"),(FT<|0,.str<|CY "o")]):FnOk P w K mg base CX0 (2) f fd ["tablet","turn"] (bG (qA K) isS (rs<|qB K)<|Bn iJ xA qe):=by
 have SC:FnScope ["tablet","turn"] ["tablet","turn"] (defScope<|tp 13):=by walk_at "F"
 refine F.ok SC (fun vs H Q E h=>?_)<|fun cdv A outer s H vs Q E hr h=>?_;·obtain⟨_,_,_,_,_,_,rfl,_⟩:=h;rfl
 ·obtain⟨W0,tablet,turn,Z0a,_,rfl,rfl,Z00,Z1S,Er,hq⟩:=h;cases Z1S;refine⟨_,(af (au (d5 (a5 (cb C_top<|a5 (pv 0) ae) (a5 (cb Z3g<|a5 (pv 0) ae) (a5 (lH (K:=K) (w:=w) rfl rfl (bU (v:=.ref _) (by rfl) Z3h rfl) (cb Z1A<|a5 (pv 0)<|a5 (pv 1) ae)<|fun _ _=>rfl) ae)))))),?_⟩;have E0:Ext W0 W0:=.refl W0;unfold Bn at hq;exact aK (Er:=Er) (dh (K:=K) (bV<|aL Z00) (bV<|aL Z00) (sI Z3i (by decide +kernel)<|aS (aL Z00) cy))<|DE hq fun y5 hq v6 W7 e8 h9=>hq v6 W7 (E0.trans e8) h9
theorem Cv{f:Addr}{fd:Dr}(F:Fun K "suits" "suits" (tp 17) f fd){Z3W:Tok}(Z3X:mg "WORN"=some (.str (CY "?") Z3W)):FnOk P w K mg base CX0 (1) f fd ["sign","left"] (bG isS isS (rs isB)<|Bo):=by
 have SC:FnScope ["sign","left"] ["sign","left"] (defScope<|tp 17):=by walk_at "F"
 refine F.ok SC (fun vs H Q E h=>?_)<|fun cdv A outer s H vs Q E hr h=>?_;·obtain⟨_,_,_,_,_,_,rfl,_⟩:=h;rfl
 ·obtain⟨W0,sign,left,_,_,rfl,rfl,Z4Y,Z4Z,Er,hq⟩:=h;cases Z4Y;cases Z4Z;refine⟨_,(af (au (zZ (cP cg (pv 1) (bU (v:=.str<|CY "?") (by rfl) Z3X ⟨_,rfl⟩)<|ay _)<|i8<|cP cg (pv 1) (pv 0)<|ay _))),?_⟩;have E0:Ext W0 W0:=.refl W0;unfold Bo at hq;exact aK (Er:=Er) (Al (ij cy (aV (x:=CY "?") (l:=[63]) (gp _ _ (by decide +kernel))))<|ij cy cy)<|DE hq fun y1 hq v2 W3 e4 h5=>hq v2 W3 (E0.trans e4) h5
theorem Cw{f:Addr}{fd:Dr}(F:Fun K "agrees" "agrees" (tp 16) f fd){wu:Tx->Tx->Res Bool}(Z3I:Cal P w K mg base "suits" ["sign","left"] (1) (bG isS isS (rs isB) wu))(h_all:mg "all"=none)(h_zip:mg "zip"=none):FnOk P w K mg base CX0 (2) f fd ["place","mark"] (bG (qB K) (qB K) (rs isB)<|Bp wu):=by
 have SC:FnScope ["place","mark"] ["place","mark"] (defScope<|tp 16):=by walk_at "F"
 refine F.ok SC (fun vs H Q E h=>?_)<|fun cdv A outer s H vs Q E hr h=>?_;·obtain⟨_,_,_,_,_,_,rfl,_⟩:=h;rfl
 ·obtain⟨W0,place,mark,Z4d,Z1a,rfl,rfl,Z4O,Z1T,Er,hq⟩:=h;refine⟨_,(af (au (aE (lL (K:=K) rfl rfl) (by rfl) h_all JB (a5 (eH (N:=["sign","left"]) (cap:=[none,none]) (iu rfl (by decide +kernel) rfl (by decide +kernel) (by rfl) (by rfl)) rfl (fS (K:=K) rfl rfl h_zip<|a5 (pv 0)<|a5 (pv 1) ae) (fun _ _ _ _=>(bD (K:=K) (n:=2) rfl rfl (ak (bj (i:=0) (show Et (["sign","left"]:List Str) by decide +kernel) rfl (by walk_at "L")) (ak (bj (i:=1) (show Et (["sign","left"]:List Str) by decide +kernel) rfl (by walk_at "L")) bC)))) (fun _ _ _ _=>cW)<|fun _ _ _ _=>(cb Z3I<|a5 (pv 0)<|a5 (pv 1) ae)) ae)))),?_⟩;have E0:Ext W0 W0:=.refl W0;rw[show L2.start ["place","mark"] [Z4d,Z1a]=[some Z4d,some Z1a]from rfl];unfold Bp at hq;exact aK (Er:=Er) (uN (Io (fo (f:=fun(a1:Tx×Tx)=>wu a1.1 a1.2) (j4 (jr<|aL Z4O)<|jr<|aL Z1T) fun W3 a1 v2 e4 h5 Q10 k11=>by
   refine ik h5 fun v6 v8 h7 h9=>?_;cases h7;cases h9;exact⟨by simp[Keep,br],((aS cy cy):EV Er _ [some (.str (aM a1.1)),some (.str (aM a1.2))] _ _ _) _ (.refl _) _ k11⟩))) (DE hq fun y13 hq v14 W15 e16 h17=>hq v14 W15 (E0.trans e16) h17)
theorem Cy{f:Addr}{fd:Dr}(F:Fun K "leaves" "leaves" (tp 23) f fd){xC:Pl->Pl->Res Bool}{xB:Cd->Tx->Res Pl}{xx:Cd->Int->Res Cd}(Z3j:Cal P w K mg base "agrees" ["place","mark"] (2) (bG (qB K) (qB K) (rs isB) xC))(Z2j:Cal P w K mg base "left_place" ["tablet","turn"] (2) (bG (qA K) isS (rs<|qB K) xB))(Z32:Cal P w K mg base "twisted" ["tablet","twist"] (1) (bG (qA K) isI (rs<|qA K) xx)):FnOk P w K mg base CX0 (3) f fd ["tablet","state","turn","mark"] (gq (qA K) (qC K) isS (qB K) (rs isB)<|Bq xC xB xx):=by
 have SC:FnScope ["tablet","state","turn","mark"] ["tablet","state","turn","mark"] (defScope<|tp 23):=by walk_at "F"
 refine F.ok SC (fun vs H Q E h=>?_)<|fun cdv A outer s H vs Q E hr h=>?_;·obtain⟨_,_,_,_,_,_,_,_,_,_,rfl,_⟩:=h;rfl
 ·obtain⟨W0,tablet,state,turn,mark,Z0a,Z2d,_,Z1a,rfl,rfl,Z00,Z1X,Z1S,Z1T,Er,hq⟩:=h;cases Z1S;refine⟨_,(af<|au<|cb Z3j<|a5 (cb Z2j<|a5 (cb Z32<|a5 (pv 0)<|a5 (az (aQ (K:=K) rfl) (pv 1) a8<|fun _ _=>rfl) ae)<|a5 (pv 2) ae)<|a5 (pv 3) ae),?_⟩;have E0:Ext W0 W0:=.refl W0;unfold Bq at hq;exact aK (Er:=Er) (aS (aS (aS (aL Z00)<|bf (f:=fun(b:Ii)=>b.1) Ao<|aL Z1X) cy)<|aL Z1T)<|DE hq fun y3 hq v4 W5 e6 h7=>hq v4 W5 (E0.trans e6) h7
theorem Cz{f:Addr}{fd:Dr}(F:Fun K "onward" "onward" (tp 24) f fd){hZ:Cd->Ii->Tx->Res Ii}{iI:Ii->Int->Int->Res Bool}{l4:Cd->Ii->Tx->Pl->Res Bool}(Z0w:Cal P w K mg base "state_behind" ["tablet","state","turn"] (2) (dz (qA K) (qC K) isS (rs<|qC K) hZ))(Z14:Cal P w K mg base "within" ["state","loose","bound"] (1) (dz (qC K) isI isI (rs isB) iI))(Z20:Cal P w K mg base "leaves" ["tablet","state","turn","mark"] (3) (gq (qA K) (qC K) isS (qB K) (rs isB) l4)){Z21:Tok}(Z1p:mg "TURNS"=some (.str (CY "fbi") Z21)):FnOk P w K mg base CX0 (4) f fd ["tablet","mark","loose","bound","state"] (eX (qA K) (qB K) isI isI (qC K) (ro<|isT2 K isS<|qC K)<|Br hZ iI l4):=by
 have SC:FnScope ["tablet","mark","loose","bound","state","moves"] ["tablet","mark","loose","bound","state"] (defScope<|tp 24):=by walk_at "F"
 refine F.ok SC (fun vs H Q E h=>?_)<|fun cdv A outer s H vs Q E hr h=>?_;·obtain⟨_,_,_,_,_,_,_,_,_,_,_,_,rfl,_⟩:=h;rfl
 ·obtain⟨W0,tablet,mark,loose,bound,state,Z0a,Z1a,_,_,Z2d,rfl,rfl,Z00,Z1T,Z0v,Z0E,Z1X,Er,hq⟩:=h;cases Z0v;cases Z0E
  refine⟨_,(aa (pH (i:=5) SC.nd rfl (by walk_at "L") (N:=["turn","tablet","state"]) (cap:=[none,some 0,some 4]) (iu rfl (by decide +kernel) rfl (by decide +kernel) (by rfl) (by rfl)) rfl (iU (bU (v:=.str<|CY "fbi") (by rfl) Z1p ⟨_,rfl⟩)) (fun _ _ _ _=>(bj (i:=0) (show Et (["turn","tablet","state"]:List Str) by decide +kernel) rfl (by walk_at "L"))) (fun _ _ _ _=>cW)<|fun _ _ _ _=>(d5<|a5 (pv 0)<|a5 (cb Z0w<|a5 (pv 1)<|a5 (pv 2)<|a5 (pv 0) ae) ae))
   (af (au (eH (N:=["turn","after","loose","bound","tablet","mark"]) (cap:=[none,none,some 2,some 3,some 0,some 1]) (iu rfl (by decide +kernel) rfl (by decide +kernel) (by rfl) (by rfl)) rfl (cE (K:=K) rfl (pv 5)) (fun _ _ _ _=>(bD (K:=K) (n:=2) rfl rfl (ak (bj (i:=0) (show Et (["turn","after","loose","bound","tablet","mark"]:List Str) by decide +kernel) rfl (by walk_at "L")) (ak (bj (i:=1) (show Et (["turn","after","loose","bound","tablet","mark"]:List Str) by decide +kernel) rfl (by walk_at "L")) bC)))) (fun _ _ _ _=>(qH (Jq (fv (cH (cb Z14 (a5 (pv 1) (a5 (pv 2) (a5 (pv 3) ae))))) (eF (cH (cb Z20 (a5 (pv 4) (a5 (pv 1) (a5 (pv 0) (a5 (pv 5) ae))))))))))) (fun _ _ _ _=>(d5 (a5 (pv 0) (a5 (pv 1) ae)))))))),?_⟩
  have E0:Ext W0 W0:=.refl W0;rw[show L2.start ["tablet","mark","loose","bound","state","moves"] [Z0a,Z1a,.int loose,.int bound,Z2d]=[some Z0a,some Z1a,some<|.int loose,some<|.int bound,some Z2d,none]from rfl];unfold Br at hq;refine aj (Er:=Er) (FG (fo (f:=fun(a3:Tx)=>(hZ tablet state a3).bind fun y12=>CW (a3,y12)) (iZ (aV (x:=CY "fbi") (l:=[102,98,105]) (gp _ _ (by decide +kernel)))) fun W5 a3 v4 e6 h7 Q13 k14=>by
   have h8:=DW (R:=sh (qA K)) e6 Z00;have h9:=DW (R:=sh (qC K)) e6 Z1X;cases h7;refine gn ?_;exact⟨by simp[Keep,br],((jq (K:=K) cy (cS (aL h8) (aL h9) cy)):EV Er _ [some (.str (aM a3)),some Z0a,some Z2d] _ _ _) _ (.refl _) _ k14⟩)) ((CO hq).imp fun y15 hq v16 W1 e2 h17=>?_)
  have E0:=E0.trans e2;have Z00:=CM e2.g Z00;have Z1T:=CM e2.g Z1T;exact js (Er:=Er) (nU (f:=fun(a18:Tx×Ii)=>((iI a18.2 loose bound).bind fun y31=>if y31 then l4 tablet a18.2 a18.1 mark else CW false).bind fun y33=>if y33 then CW (some (a18.1,a18.2))else CW none) (di<|aL h17) fun W20 a18 v19 e21 h22 Q29 k30=>by
   have h23:=DW (R:=sh<|qA K) e21 Z00;have h24:=DW (R:=sh<|qB K) e21 Z1T;refine ik h22 fun v25 v27 h26 h28=>?_;cases h26;refine⟨by simp[Keep,br],((gE (k9<|cS (aL h28) aN aN)<|k9<|iz (aL h23) (aL h28) cy<|aL h24):TV Er _ [some (.str<|aM a18.1),some v27,some<|.int loose,some<|.int bound,some Z0a,some Z1a] _ _) _ (.refl _) _ (DE (P:=fun b32=>(if b32=true then CW (some (a18.1,a18.2))else CW none:Res (Option<|Tx×Ii)).OkE Er _) (CO k30) fun b32 k36 W34 e35=>?_)⟩;cases b32 with
   |false=>exact k36 none _ e35 trivial
   |true=>
    rw[if_pos rfl];refine EV.go (Er:=Er) (σ:=[some (.str (aM a18.1)),some v27,some (.int loose),some (.int bound),some Z0a,some Z1a]) (W1:=W34) e35 (jq (K:=K) cy (aL h28)) ?_;exact fun u39 W37 e38 h40=>k36 (some u39) _ (e35.trans e38) h40) (DE hq fun y42 hq p43 W44 e45 hp46 o47=>hq p43 W44 (E0.trans e45) (bp E0.h hp46) o47)
theorem CA{f:Addr}{fd:Dr}(F:Fun K "states_behind" "states_behind" (tp 27) f fd){fc:Cd->Pl->Int->Int->Ii->Res (List<|Tx×Ii)}(Z0N:Cal P w K mg base "onward" ["tablet","mark","loose","bound","state"] (4) (eX (qA K) (qB K) isI isI (qC K) (ro<|isT2 K isS<|qC K) fc))(h_sorted:mg "sorted"=none):FnOk P w K mg base CX0 (5) f fd ["tablet","mark","loose","bound","states"] (eX (qA K) (qB K) isI isI (qE K) (ro<|qC K)<|Bs fc):=by
 have SC:FnScope ["tablet","mark","loose","bound","states"] ["tablet","mark","loose","bound","states"] (defScope<|tp 27):=by walk_at "F"
 refine F.ok SC (fun vs H Q E h=>?_)<|fun cdv A outer s H vs Q E hr h=>?_;·obtain⟨_,_,_,_,_,_,_,_,_,_,_,_,rfl,_⟩:=h;rfl
 ·obtain⟨W0,tablet,mark,loose,bound,states,Z0a,Z1a,_,_,Z3Y,rfl,rfl,Z00,Z1T,Z0v,Z0E,Z4C,Er,hq⟩:=h;cases Z0v;cases Z0E;refine⟨_,(af (au (aE (mY rfl) (by rfl) h_sorted IW (a5 (sY (eU hr) (N:=["state","turn","after","tablet","mark","loose","bound"]) (cap:=[none,none,none,some 0,some 1,some 2,some 3]) (iu rfl (by decide +kernel) rfl (by decide +kernel) (by rfl) (by rfl)) rfl (cE (K:=K) rfl<|pv 4) (fun _ _ _ _=>(bj (i:=0) (show Et (["state","turn","after","tablet","mark","loose","bound"]:List Str) by decide +kernel) rfl (by walk_at "L"))) (fun _ _ _ _=>cW) (fun _ _ _ _=>(cE (K:=K) rfl<|cb Z0N<|a5 (pv 3)<|a5 (pv 4)<|a5 (pv 5)<|a5 (pv 6)<|a5 (pv 0) ae)) (fun _ _ _ _=>(bD (K:=K) (n:=2) rfl rfl (ak (bj (i:=1) (show Et (["state","turn","after","tablet","mark","loose","bound"]:List Str) by decide +kernel) rfl (by walk_at "L")) (ak (bj (i:=2) (show Et (["state","turn","after","tablet","mark","loose","bound"]:List Str) by decide +kernel) rfl (by walk_at "L")) bC)))) (fun _ _ _ _=>cW)<|fun _ _ _ _=>(pv 2)) ae)))),?_⟩;have E0:Ext W0 W0:=.refl W0;rw[show L2.start ["tablet","mark","loose","bound","states"] [Z0a,Z1a,.int loose,.int bound,Z3Y]=[some Z0a,some Z1a,some<|.int loose,some<|.int bound,some Z3Y]from rfl];unfold Bs at hq;exact js (Er:=Er) (vH (di<|aL Z4C) (fun W1 D2 W5 a6 v7 s8 M9 hS10 e3 h4 e11 o12 h13 k14=>by
   have h15:=CM hS10 Z00;have h16:=CM hS10 Z1T;refine gn ?_;exact⟨by simp[Keep,br],uY (((zf e11 (di<|FG<|fG (aL h15) (aL h16) aN aN<|aL h13) (fun _ _ _ e o=>o.mono e) (fun W19 a20 v21 s22 M23 hS24 e25 o26 h27 k28=>by
    have h29:=CM hS24 h15;have h30:=CM hS24 h16;have h31:=CM hS24 h13;refine ik h27 fun v32 v34 h33 h35=>?_;cases h33;exact⟨by simp[Keep,br],uY (((zq e25 h4 (aL h35)):BV Er _ [some v7,some (.str (aM a20.1)),some v34,some Z0a,some Z1a,some (.int loose),some (.int bound)] _ _ _ _ _) _ _ _ (.refl _) o26 k28)⟩)):BV Er _ [some v7,none,none,some Z0a,some Z1a,some (.int loose),some (.int bound)] _ _ _ _ _) _ _ _ (.refl _) o12 k14)⟩)) (DE hq fun y38 hq p39 W40 e41 hp42 o43=>hq p39 W40 (E0.trans e41) (bp E0.h hp42) o43)
theorem CB{f:Addr}{fd:Dr}(F:Fun K "search" "search" (tp 26) f fd){iI:Ii->Int->Int->Res Bool}{qf:Cd->Pl->Int->Int->(List Ii)->Res (List Ii)}(Z14:Cal P w K mg base "within" ["state","loose","bound"] (1) (dz (qC K) isI isI (rs isB) iI))(Z1U:Cal P w K mg base "states_behind" ["tablet","mark","loose","bound","states"] (5) (eX (qA K) (qB K) isI isI (qE K) (ro<|qC K) qf)){Z0y:Addr}(Z0F:mg "START"=some (.ref Z0y))(Z0G:∀H,SqT K H Z0y [.int (0),.int<|0]):FnOk P w K mg base CX0 (6) f fd ["tablet","strip","loose","bound"] (gq (qA K) (qD K) isI isI (ro<|qE K)<|Bt iI qf):=by
 have SC:FnScope ["tablet","strip","loose","bound","lists","mark"] ["tablet","strip","loose","bound"] (defScope<|tp 26):=by walk_at "F"
 refine F.ok SC (fun vs H Q E h=>?_)<|fun cdv A outer s H vs Q E hr h=>?_;·obtain⟨_,_,_,_,_,_,_,_,_,_,rfl,_⟩:=h;rfl
 ·obtain⟨W0,tablet,strip,loose,bound,Z0a,Z0x,_,_,rfl,rfl,Z00,Z06,Z0v,Z0E,Er,hq⟩:=h;cases Z0v;cases Z0E
  refine⟨_,(aa (cn 4 (cQ (a5 (gw (cH (cb Z14 (a5 (bU (v:=.ref _) (by rfl) Z0F rfl)<|a5 (pv 2)<|a5 (pv 3) ae))) (cQ (a5 (bU (v:=.ref _) (by rfl) Z0F rfl) ae))<|cQ ae) ae)))
   (aa (cM DN rfl (cE (K:=K) rfl<|pv 1) (fb 5) (aa (bq (ax (pX hr.units0) (az (aW (K:=K) rfl) (pv 4) (j8 gy a8)<|fun _ _=>rfl) (cQ ae)<|ay _) (af<|au<|pv 4) aI)
   (af (fg (cT (K:=K) rfl (pv 4) (a5 (cb Z1U (a5 (pv 0) (a5 (pv 5) (a5 (pv 2) (a5 (pv 3) (a5 (az (aW (K:=K) rfl) (pv 4) (j8 gy a8) (fun _ _=>rfl)) ae)))))) ae))))))
   (af (au (pv 4))))),?_⟩
  have E0:Ext W0 W0:=.refl W0;unfold Bt at hq;refine dq (Er:=Er) (gG<|bO (nR (k9<|cS (eY Z0G (gI _)<|gI _) aN aN) (FG<|gG<|bO (eY Z0G (gI _)<|gI _)<|gF (R:=(qC K)))<|FG<|gV (R:=(qC K)))<|gF (R:=(qE K)))<|(CO hq).imp fun y5 hq p6 W1 e2 hp7 o8=>?_;have fr9:=bp E0.h hp7;have E0:=E0.trans e2;have Z00:=CM e2.g Z00;have Z06:=CM e2.g Z06;refine gX (Er:=Er) (f:=(yt qf tablet loose bound)) (s0:=y5) (Iv:=fun(s12:(List<|List Ii))(W13:Wd)(g14:St)=>∃(d16:Option V),g14=[some Z0a,some Z0x,some<|.int loose,some<|.int bound,some<|.ref p6,d16]/\Ext W0 W13/\Ow (qE K) W13 p6 s12) (di<|aL Z06) (CO hq) ?_ ?_ ?_
  ·intro W28 e29;have E0:=E0.trans e29;have Z00:=CM e29.g Z00;have o8:=o8.mono e29;exact⟨_,rfl,E0,o8⟩
  ·intro Wb17 W18 W19 a10 v20 s11 sg21 P22 hW23 hB24 iv e25 h26 hrt27 hq;obtain⟨d16,rfl,E0,o15⟩:=iv;have Z00:=CM hW23 Z00;have E0:=E0.trans e25;have hB24:=hB24.trans e25.g;have Z00:=CM e25.g Z00;have o15:=o15.mono e25;refine gn (σ':=[some Z0a,some Z0x,some<|.int loose,some<|.int bound,some<|.ref p6,some v20]) ?_;unfold yt at hq;refine cX (Er:=Er) (aB<|pY<|GN<|bY (dQ o15)<|ig ah)<|(CO hq).imp fun y33 hq W34 e35=>?_;have E0:=E0.trans e35;have hB24:=hB24.trans e35.g;have Z00:=CM e35.g Z00;have o15:=o15.mono e35;have h26:=CM e35.g h26;by_cases hb41:y33=true
   ·rw[if_pos hb41]at hq ⊢;exact⟨.ref p6,rfl,(hrt27 _ hq) p6 W34 E0 fr9 o15⟩
   ·rw[if_neg hb41]at hq ⊢
    try dsimp only[aD]
    refine gH (Er:=Er) o15 (FG<|fG (aL Z00) (aL h26) aN aN<|bY (dQ o15)<|ig ah)<|(CO hq).imp fun y40 hq W37 mu38 o39=>?_;have E0:=mu38.e _ E0 fr9;have hB24:=hB24.trans mu38.g;have Z00:=CM mu38.g Z00;have h26:=CM mu38.g h26
    try dsimp only
    refine cx (W:=W37) y40 hB24 ?_ hq;exact⟨_,rfl,E0,o39⟩
  ·intro s42 W43 sg44 hS45 iv hq;obtain⟨d16,rfl,E0,o15⟩:=iv;exact⟨.ref p6,rfl,hq p6 W43 E0 fr9 o15⟩
theorem CC{f:Addr}{fd:Dr}(F:Fun K "tails" "tails" (tp 28) f fd){lj:Cd->(List Pl)->Int->Int->Res (List<|List Ii)}{fc:Cd->Pl->Int->Int->Ii->Res (List<|Tx×Ii)}(Z1K:Cal P w K mg base "search" ["tablet","strip","loose","bound"] (6) (gq (qA K) (qD K) isI isI (ro<|qE K) lj))(Z0N:Cal P w K mg base "onward" ["tablet","mark","loose","bound","state"] (4) (eX (qA K) (qB K) isI isI (qC K) (ro<|isT2 K isS<|qC K) fc))(h_len:mg "len"=none)(h_range:mg "range"=none)(h_reversed:mg "reversed"=none)(h_sum:mg "sum"=none):FnOk P w K mg base CX0 (7) f fd ["tablet","strip","loose","bound"] (gq (qA K) (qD K) isI isI (ro<|isPD P w K isI)<|Bu lj fc):=by
 have SC:FnScope ["tablet","strip","loose","bound","lists","counts","at","ahead","moves"] ["tablet","strip","loose","bound"] (defScope<|tp 28):=by walk_at "F"
 refine F.ok SC (fun vs H Q E h=>?_)<|fun cdv A outer s H vs Q E hr h=>?_;·obtain⟨_,_,_,_,_,_,_,_,_,_,rfl,_⟩:=h;rfl
 ·obtain⟨W0,tablet,strip,loose,bound,Z0a,Z0x,_,_,rfl,rfl,Z00,Z06,Z0v,Z0E,Er,hq⟩:=h;cases Z0v;cases Z0E;refine⟨_,(aa (cn 4<|cb Z1K<|a5 (pv 0)<|a5 (pv 1)<|a5 (pv 2)<|a5 (pv 3) ae)
   (aa (cn 5 (cQ (a5 (j5 (eU hr) (N:=["state"]) (cap:=[none]) (iu rfl (by decide +kernel) rfl (by decide +kernel) (by rfl) (by rfl)) rfl (cE (K:=K) rfl<|az (aW (K:=K) rfl) (pv 4) (j8 gy a8)<|fun _ _=>rfl) (fun _ _ _ _=>(bj (i:=0) (show Et (["state"]:List Str) by decide +kernel) rfl (by walk_at "L"))) (fun _ _ _ _=>cW) (fun _ _ _ _=>(pv 0))<|fun _ _ _ _=>a8) ae)))
   (aa (cM DN rfl (tu rfl h_reversed rfl h_range (a5 (ai iR (aE (bN (K:=K) rfl) (by rfl) h_len EB<|a5 (pv 4) ae) a8) ae)) (fb 6) (aa (cn 7<|az (aW (K:=K) rfl) (pv 5) (j8 gy a8)<|fun _ _=>rfl)
   (aa (cn 8 (j5 (eU hr) (N:=["state","tablet","strip","at","loose","bound"]) (cap:=[none,some 0,some 1,some 6,some 2,some 3]) (iu rfl (by decide +kernel) rfl (by decide +kernel) (by rfl) (by rfl)) rfl (cE (K:=K) rfl<|az (aW (K:=K) rfl) (pv 4) (pv 6)<|fun _ _=>rfl) (fun _ _ _ _=>(bj (i:=0) (show Et (["state","tablet","strip","at","loose","bound"]:List Str) by decide +kernel) rfl (by walk_at "L"))) (fun _ _ _ _=>cW) (fun _ _ _ _=>(pv 0))<|fun _ _ _ _=>(cb Z0N<|a5 (pv 1)<|a5 (az (aW (K:=K) rfl) (pv 2) (pv 3)<|fun _ _=>rfl)<|a5 (pv 4)<|a5 (pv 5)<|a5 (pv 0) ae)))
   (af (fg (cT (K:=K) rfl (pv 5) (a5 (j5 (eU hr) (N:=["state","moves","ahead"]) (cap:=[none,some 8,some 7]) (iu rfl (by decide +kernel) rfl (by decide +kernel) (by rfl) (by rfl)) rfl (tq (P:=P) (w:=w) (K:=K) rfl rfl rfl (pv 8)) (fun _ _ _ _=>(bj (i:=0) (show Et (["state","moves","ahead"]:List Str) by decide +kernel) rfl (by walk_at "L"))) (fun _ _ _ _=>cW) (fun _ _ _ _=>(pv 0)) (fun _ _ _ _=>(aE (lI (K:=K) rfl rfl) (by rfl) h_sum JC (a5 (eH (N:=["turn","after","ahead"]) (cap:=[none,none,some 2]) (iu rfl (by decide +kernel) rfl (by decide +kernel) (by rfl) (by rfl)) rfl (cE (K:=K) rfl (gM (P:=P) (w:=w) (K:=K) rfl rfl rfl (eU hr) (pv 1) (pv 0) (fun _ _=>rfl))) (fun _ _ _ _=>(bD (K:=K) (n:=2) rfl rfl (ak (bj (i:=0) (show Et (["turn","after","ahead"]:List Str) by decide +kernel) rfl (by walk_at "L")) (ak (bj (i:=1) (show Et (["turn","after","ahead"]:List Str) by decide +kernel) rfl (by walk_at "L")) bC)))) (fun _ _ _ _=>cW) (fun _ _ _ _=>(gM (P:=P) (w:=w) (K:=K) rfl rfl rfl (eU hr) (pv 2) (pv 1) (fun _ _=>rfl)))) ae)))) ae)))))))
   (af (au (nO (K:=K) rfl (fun a b=>[.ref a,.ref b]) (fun _ _=>rfl) (pv 5) (jo (j8 gy a8)))))))),?_⟩
  have E0:Ext W0 W0:=.refl W0;rw[show L2.start ["tablet","strip","loose","bound","lists","counts","at","ahead","moves"] [Z0a,Z0x,.int loose,.int bound]=[some Z0a,some Z0x,some<|.int loose,some<|.int bound,none,none,none,none,none]from rfl];unfold Bu at hq;refine aj (Er:=Er) (FG<|eM (aL Z00) (aL Z06) aN aN)<|(CO hq).imp fun y3 hq v4 W1 e2 h5=>?_;have E0:=E0.trans e2;have Z00:=CM e2.g Z00;have Z06:=CM e2.g Z06;refine dq (Er:=Er) (gG (bO (MY (kR (R:=isI) (di<|bY (GN<|aL h5)<|ig ah) (fun W8 D9 W12 a13 v14 s15 M16 hS17 e10 h11 e18 o19 h20 k21=>by
   refine gn ?_;exact⟨by simp[Keep,br],uY (((kQ e18 h11 (aL h20) ah):BV Er _ [some v14] _ _ _ _ _) _ _ _ (.refl _) o19 k21)⟩))) (gF (R:=(isPD P w K isI))))) ((CO hq).imp fun y26 hq p27 W6 e7 hp28 o29=>?_)
  have fr30:=bp E0.h hp28;have E0:=E0.trans e7;have Z00:=CM e7.g Z00;have Z06:=CM e7.g Z06;have h5:=CM e7.g h5;refine df (Er:=Er) (f:=(zT fc tablet strip loose bound y3)) (s0:=y26) (Iv:=fun(s33:(List<|List<|Ii×Int))(W34:Wd)(g35:St)=>∃(d37:Option V)(d38:Option V)(d39:Option V),g35=[some Z0a,some Z0x,some<|.int loose,some<|.int bound,some v4,some<|.ref p27,d39,d37,d38]/\Ext W0 W34/\Ow (isPD P w K isI) W34 p27 s33) (tx<|aX (fV<|GN<|aL h5) ah) (CO hq) ?_ ?_ ?_
  ·intro W51 e52;have E0:=E0.trans e52;have Z00:=CM e52.g Z00;have Z06:=CM e52.g Z06;have h5:=CM e52.g h5;have o29:=o29.mono e52;exact⟨_,_,_,rfl,E0,o29⟩
  ·intro Wb40 W41 W42 a31 v43 s32 sg44 P45 hW46 hB47 iv e48 h49 hq;obtain⟨d37,d38,d39,rfl,E0,o36⟩:=iv;have Z00:=CM hW46 Z00;have Z06:=CM hW46 Z06;have h5:=CM hW46 h5;have E0:=E0.trans e48;have hB47:=hB47.trans e48.g;have Z00:=CM e48.g Z00;have Z06:=CM e48.g Z06;have h5:=CM e48.g h5;have o36:=o36.mono e48;cases h49;refine gn (σ':=[some Z0a,some Z0x,some<|.int loose,some<|.int bound,some v4,some<|.ref p27,some<|.int a31,d37,d38]) ?_;unfold zT at hq;refine aj (Er:=Er) (bY (dQ o36)<|ig ah)<|(CO hq).imp fun y57 hq v58 W55 e56 h59=>?_;have E0:=E0.trans e56;have hB47:=hB47.trans e56.g;have Z00:=CM e56.g Z00;have Z06:=CM e56.g Z06;have h5:=CM e56.g h5;have o36:=o36.mono e56;refine aj (Er:=Er) (MY (kR (R:=(isL<|isT2 K isS<|qC K)) (f:=fun(a67:Ii)(s69:List (Ii×(List<|Tx×Ii)))=>((fA strip a31).bind fun y80=>fc tablet y80 loose bound a67).bind fun y81=>kO s69 a67 y81) (di<|bY (GN<|aL h5) aN) (fun W62 D63 W66 a67 v68 s69 M70 hS71 e64 h65 e72 o73 h74 k75=>by
    have h76:=CM hS71 Z00;have h77:=CM hS71 Z06;refine gn ?_;exact⟨by simp[Keep,br],uY (((kQ e72 h65 (aL h74) (FG (fG (aL h76) (bY (GN (aL h77)) aN) aN aN (aL h74)))):BV Er _ [some v68,some Z0a,some Z0x,some (.int a31),some (.int loose),some (.int bound)] _ _ _ _ _) _ _ _ (.refl _) o73 k75)⟩))) ((CO hq).imp fun y83 hq v84 W60 e61 h85=>?_)
   have E0:=E0.trans e61;have hB47:=hB47.trans e61.g;have Z00:=CM e61.g Z00;have Z06:=CM e61.g Z06;have h5:=CM e61.g h5;have o36:=o36.mono e61;have h59:=CM e61.g h59;refine gH (Er:=Er) o36 (MY (kR (R:=isI) (vR<|aL h85) (fun W86 D87 W90 a91 v92 s93 M94 hS95 e88 h89 e96 o97 h98 k99=>by
    have h100:=CM hS95 h85;have h101:=CM hS95 h59;refine gn ?_;exact⟨by simp[Keep,br],uY (((kQ e96 h89 (aL h98) (uM (Io (fo (di<|iH (aL h100)<|aL h98) fun W106 a104 v105 e107 h108 Q114 k115=>by
     have h109:=DW (R:=sh (isPD P w K isI)) e107 h101;refine ik h108 fun v110 v112 h111 h113=>?_;cases h111;exact⟨by simp[Keep,br],((iH (aL h109) (aL h113)):EV Er _ [some (.str (aM a104.1)),some v112,some v58] _ _ _) _ (.refl _) _ k115⟩)))):BV Er _ [some v92,some v84,some v58] _ _ _ _ _) _ _ _ (.refl _) o97 k99)⟩))) ((CO hq).imp fun y122 hq W119 mu120 o121=>?_)
   have E0:=mu120.e _ E0 fr30;have hB47:=hB47.trans mu120.g;have Z00:=CM mu120.g Z00;have Z06:=CM mu120.g Z06;have h5:=CM mu120.g h5;have h59:=CM mu120.g h59;have h85:=CM mu120.g h85
   try dsimp only
   refine cx (W:=W119) y122 hB47 ?_ hq;exact⟨_,_,_,rfl,E0,o121⟩
  ·intro s125 W126 sg127 hS128 iv hq;obtain⟨d37,d38,d39,rfl,E0,o36⟩:=iv;exact js (Er:=Er) (wZ<|dQ o36)<|fun p129 W130 e131 hp132 o133=>hq p129 W130 (E0.trans e131) (bp E0.h hp132) o133
theorem CD{f:Addr}{fd:Dr}(F:Fun K "ways" "ways" (tp 29) f fd){ll:Cd->(List Pl)->Int->Int->Res (List<|List<|Ii×Int)}(Z1C:Cal P w K mg base "tails" ["tablet","strip","loose","bound"] (7) (gq (qA K) (qD K) isI isI (ro<|isPD P w K isI) ll)){Z0y:Addr}(Z0F:mg "START"=some (.ref Z0y))(Z0G:∀H,SqT K H Z0y [.int (0),.int<|0]):FnOk P w K mg base CX0 (8) f fd ["tablet","strip","loose","bound"] (gq (qA K) (qD K) isI isI (rs isI)<|Bv ll):=by
 have SC:FnScope ["tablet","strip","loose","bound"] ["tablet","strip","loose","bound"] (defScope<|tp 29):=by walk_at "F"
 refine F.ok SC (fun vs H Q E h=>?_)<|fun cdv A outer s H vs Q E hr h=>?_;·obtain⟨_,_,_,_,_,_,_,_,_,_,rfl,_⟩:=h;rfl
 ·obtain⟨W0,tablet,strip,loose,bound,Z0a,Z0x,_,_,rfl,rfl,Z00,Z06,Z0v,Z0E,Er,hq⟩:=h;cases Z0v;cases Z0E;refine⟨_,(af (au (oG (eU hr) (az (aW (K:=K) rfl) (cb Z1C<|a5 (pv 0)<|a5 (pv 1)<|a5 (pv 2)<|a5 (pv 3) ae) a8<|fun _ _=>rfl) (bU (v:=.ref _) (by rfl) Z0F rfl) a8))),?_⟩;have E0:Ext W0 W0:=.refl W0;unfold Bv at hq;exact aK (Er:=Er) (oH (bY (Io<|eM (aL Z00) (aL Z06) aN aN) ah) (eY Z0G (gI _)<|gI _) ah)<|DE hq fun y3 hq v4 W5 e6 h7=>hq v4 W5 (E0.trans e6) h7
theorem CF{f:Addr}{fd:Dr}(F:Fun K "least" "least" (tp 34) f fd){lj:Cd->(List Pl)->Int->Int->Res (List<|List Ii)}(Z1K:Cal P w K mg base "search" ["tablet","strip","loose","bound"] (6) (gq (qA K) (qD K) isI isI (ro<|qE K) lj))(h_len:mg "len"=none):FnOk P w K mg base CX0 (7) f fd ["tablet","strip","loose"] (dz (qA K) (qD K) isI (rs<|isO isI)<|Bw lj):=by
 have SC:FnScope ["tablet","strip","loose","bound"] ["tablet","strip","loose"] (defScope<|tp 34):=by walk_at "F"
 refine F.ok SC (fun vs H Q E h=>?_)<|fun cdv A outer s H vs Q E hr h=>?_;·obtain⟨_,_,_,_,_,_,_,_,rfl,_⟩:=h;rfl
 ·obtain⟨W0,tablet,strip,loose,Z0a,Z0x,_,rfl,rfl,Z00,Z06,Z0v,Er,hq⟩:=h;cases Z0v
  refine⟨_,(aa (bq (ax (pX hr.units0) (az (aW (K:=K) rfl) (cb Z1K (a5 (pv 0) (a5 (pv 1) (a5 (pv 2) (a5 (aE (bN (K:=K) rfl) (by rfl) h_len EB<|a5 (pv 1) ae) ae))))) (j8 gy a8)<|fun _ _=>rfl) (cQ ae)<|ay _) (af<|au tT) aI)
   (aa (cn 3 a8)
   (aa (ny DN (ax (pX hr.units0) (az (aW (K:=K) rfl) (cb Z1K<|a5 (pv 0)<|a5 (pv 1)<|a5 (pv 2)<|a5 (pv 3) ae) (j8 gy a8)<|fun _ _=>rfl) (cQ ae)<|ay _) (af (jE (i:=3) SC.nd rfl (by walk_at "L") a8 pb)))
   (af (au (pv 3)))))),?_⟩
  have E0:Ext W0 W0:=.refl W0;unfold Bw at hq;refine cX (Er:=Er) (aB<|pY<|GN<|bY (Io<|eM (aL Z00) (aL Z06) aN<|fV<|GN<|aL Z06)<|ig ah)<|(CO hq).imp fun y3 hq W4 e5=>?_;have E0:=E0.trans e5;have Z00:=CM e5.g Z00;have Z06:=CM e5.g Z06;by_cases hb38:y3=true
  ·rw[if_pos hb38]at hq ⊢;exact aK (Er:=Er) (wN (R:=isI))<|fun v6 W7 e8 h9=>hq v6 W7 (E0.trans e8) h9
  ·rw[if_neg hb38]at hq ⊢
   try dsimp only[aD]
   refine aj (Er:=Er) ah<|fun v12 W10 e11 h13=>?_;cases h13;have E0:=E0.trans e11;have Z00:=CM e11.g Z00;have Z06:=CM e11.g Z06;refine kB (Er:=Er) (c:=(AG lj tablet strip loose)) (f:=AH) (s0:=(0:Int)) (n:=cap) (Iv:=fun(s16:Int)(W17:Wd)(g18:St)=>g18=[some Z0a,some Z0x,some<|.int loose,some<|.int s16]/\Ext W0 W17) (CO hq) ?_ ?_ ?_ ?_ ?_;·exact⟨rfl,E0⟩
   ·intro W20 W21 s15 sg22 e26 iv;obtain⟨rfl,E0⟩:=iv;have E0:=E0.trans e26;exact⟨rfl,E0⟩
   ·intro W20 s15 sg22 hW24 iv;obtain⟨rfl,E0⟩:=iv;have Z00:=CM hW24 Z00;have Z06:=CM hW24 Z06;unfold AG;exact(aB<|pY<|GN<|bY (Io<|eM (aL Z00) (aL Z06) aN aN)<|ig ah)
   ·intro Wb19 W20 s15 sg22 P23 hW24 hB25 iv hq;obtain⟨rfl,E0⟩:=iv;have Z00:=CM hW24 Z00;have Z06:=CM hW24 Z06;unfold AH at hq;refine mO (Er:=Er) (a:=s15) ah<|fun W29 e30=>?_;have E0:=E0.trans e30;have hB25:=hB25.trans e30.g;have Z00:=CM e30.g Z00;have Z06:=CM e30.g Z06
    try dsimp only
    refine cx (W:=W29) (s15+(1:Int)) hB25 ?_ hq;exact⟨rfl,E0⟩
   ·intro s31 W32 sg33 hS34 iv hq;obtain⟨rfl,E0⟩:=iv;exact aK (Er:=Er) (uQ aN)<|fun v35 W36 e37 h38=>hq v35 W36 (E0.trans e37) h38
theorem CG{f:Addr}{fd:Dr}(F:Fun K "chosen" "chosen" (tp 31) f fd):FnOk P w K mg base CX0 (1) f fd ["moves","counts","number"] (dz (isL<|isT2 K isS<|qC K) (isPD P w K isI) isI (rs<|isT3 K isS (qC K) isI)<|Bx):=by
 have SC:FnScope ["moves","counts","number","at","turn","state"] ["moves","counts","number"] (defScope<|tp 31):=by walk_at "F"
 refine F.ok SC (fun vs H Q E h=>?_)<|fun cdv A outer s H vs Q E hr h=>?_;·obtain⟨_,_,_,_,_,_,_,_,rfl,_⟩:=h;rfl
 ·obtain⟨W0,moves,counts,number,Z4R,Z4F,_,rfl,rfl,Z0K,Z0O,Z3k,Er,hq⟩:=h;cases Z3k;refine⟨_,(aa (cn 3 a8)
   (aa (ny DN (ax nB (pv 2) (gM (P:=P) (w:=w) (K:=K) rfl rfl rfl (eU hr) (pv 1) (az (aQ (K:=K) rfl) (az (aW (K:=K) rfl) (pv 0) (pv 3)<|fun _ _=>rfl) a8<|fun _ _=>rfl)<|fun _ _=>rfl)<|ay _) (aa (jE (i:=2) SC.nd rfl (by walk_at "L") (gM (P:=P) (w:=w) (K:=K) rfl rfl rfl (eU hr) (pv 1) (az (aQ (K:=K) rfl) (az (aW (K:=K) rfl) (pv 0) (pv 3)<|fun _ _=>rfl) a8<|fun _ _=>rfl)<|fun _ _=>rfl) yL)
   (af (jE (i:=3) SC.nd rfl (by walk_at "L") a8 pb))))
   (aa (eP (az (aW (K:=K) rfl) (pv 0) (pv 3)<|fun _ _=>rfl)<|bD (K:=K) (n:=2) rfl rfl<|ak (fb 4)<|ak (fb 5) bC)
   (af (au (d5 (a5 (pv 4) (a5 (pv 5) (a5 (pv 2) ae))))))))),?_⟩
  have E0:Ext W0 W0:=.refl W0;unfold Bx at hq;refine aj (Er:=Er) ah<|fun v3 W1 e2 h4=>?_;cases h4;have E0:=E0.trans e2;have Z0K:=CM e2.g Z0K;have Z0O:=CM e2.g Z0O;refine kB (Er:=Er) (c:=(zU moves counts)) (f:=(zV moves counts)) (s0:=(number,(0:Int))) (n:=cap) (Iv:=fun(s7:Ii)(W8:Wd)(g9:St)=>g9=[some Z4R,some Z4F,some<|.int s7.1,some<|.int s7.2,none,none]/\Ext W0 W8) (CO hq) ?_ ?_ ?_ ?_ ?_;·exact⟨rfl,E0⟩
  ·intro W11 W12 s6 sg13 e17 iv;obtain⟨rfl,E0⟩:=iv;have E0:=E0.trans e17;exact⟨rfl,E0⟩
  ·intro W11 s6 sg13 hW15 iv;obtain⟨rfl,E0⟩:=iv;have Z0K:=CM hW15 Z0K;have Z0O:=CM hW15 Z0O;unfold zU;exact(aB<|d6 aN<|iH (aL Z0O)<|bf (f:=fun(b:Tx×Ii)=>b.2) Ap<|bY (GN<|aL Z0K) aN)
  ·intro Wb10 W11 s6 sg13 P14 hW15 hB16 iv hq;obtain⟨rfl,E0⟩:=iv;have Z0K:=CM hW15 Z0K;have Z0O:=CM hW15 Z0O;unfold zV at hq;refine lO (Er:=Er) (a:=s6.1) (iH (aL Z0O)<|bf (f:=fun(b:Tx×Ii)=>b.2) Ap<|bY (GN<|aL Z0K) aN)<|(CO hq).imp fun y23 hq W24 e25=>?_;have E0:=E0.trans e25;have hB16:=hB16.trans e25.g;have Z0K:=CM e25.g Z0K;have Z0O:=CM e25.g Z0O;refine mO (Er:=Er) (a:=s6.2) ah<|fun W26 e27=>?_;have E0:=E0.trans e27;have hB16:=hB16.trans e27.g;have Z0K:=CM e27.g Z0K;have Z0O:=CM e27.g Z0O
   try dsimp only
   refine cx (W:=W26) ((s6.1-y23),(s6.2+(1:Int))) hB16 ?_ hq;exact⟨rfl,E0⟩
  ·intro s28 W29 sg30 hS31 iv hq;obtain⟨rfl,E0⟩:=iv;have Z0K:=CM hS31 Z0K;refine dY (Er:=Er) (bY (GN<|aL Z0K) aN)<|(CO hq).imp fun y32 hq v33 W34 e35 h36=>?_;have E0:=E0.trans e35;refine ik h36 fun v37 v39 h38 h40=>?_;cases h38;exact aK (Er:=Er) (dh (K:=K) cy (aL h40) aN)<|fun v41 W42 e43 h44=>hq v41 W42 (E0.trans e43) h44
theorem AK{f:Addr}{fd:Dr}(F:Fun K "way" "way" (tp 30) f fd){ll:Cd->(List Pl)->Int->Int->Res (List<|List<|Ii×Int)}{qg:(List<|Tx×Ii)->(List<|Ii×Int)->Int->Res (Tx×Ii×Int)}{fc:Cd->Pl->Int->Int->Ii->Res (List<|Tx×Ii)}(Z1C:Cal P w K mg base "tails" ["tablet","strip","loose","bound"] (7) (gq (qA K) (qD K) isI isI (ro<|isPD P w K isI) ll))(Z3l:Cal P w K mg base "chosen" ["moves","counts","number"] (1) (dz (isL<|isT2 K isS<|qC K) (isPD P w K isI) isI (rs<|isT3 K isS (qC K) isI) qg))(Z0N:Cal P w K mg base "onward" ["tablet","mark","loose","bound","state"] (4) (eX (qA K) (qB K) isI isI (qC K) (ro<|isT2 K isS<|qC K) fc))(h_enumerate:mg "enumerate"=none){Z0y:Addr}(Z0F:mg "START"=some (.ref Z0y))(Z0G:∀H,SqT K H Z0y [.int (0),.int<|0]):FnOk P w K mg base CX0 (8) f fd ["tablet","strip","loose","bound","number"] (eX (qA K) (qD K) isI isI isI (rs isS)<|rD ll qg fc):=by
 have SC:FnScope ["tablet","strip","loose","bound","number","counts","column","state","at","mark","turn"] ["tablet","strip","loose","bound","number"] (defScope<|tp 30):=by walk_at "F"
 refine F.ok SC (fun vs H Q E h=>?_)<|fun cdv A outer s H vs Q E hr h=>?_;·obtain⟨_,_,_,_,_,_,_,_,_,_,_,_,rfl,_⟩:=h;rfl
 ·obtain⟨W0,tablet,strip,loose,bound,number,Z0a,Z0x,_,_,_,rfl,rfl,Z00,Z06,Z0v,Z0E,Z3k,Er,hq⟩:=h;cases Z0v;cases Z0E;cases Z3k;refine⟨_,(aa (cn 5<|cb Z1C<|a5 (pv 0)<|a5 (pv 1)<|a5 (pv 2)<|a5 (pv 3) ae)
   (aa (bq (Jq (nu (ax nA (pv 4) a8<|ay _) (mj (ax nB (pv 4) (oG (eU hr) (az (aW (K:=K) rfl) (pv 5) a8<|fun _ _=>rfl) (bU (v:=.ref _) (by rfl) Z0F rfl) a8)<|ay _)))) (af og) aI)
   (aa (cn 6 aY)
   (aa (cn 7 (bU (v:=.ref _) (by rfl) Z0F rfl))
   (aa (cM DN rfl (qJ (K:=K) rfl rfl h_enumerate<|a5 (pv 1) ae) (bD (K:=K) (n:=2) rfl rfl<|ak (fb 8)<|ak (fb 9) bC) (aa (eP (cb Z3l<|a5 (cb Z0N<|a5 (pv 0)<|a5 (pv 9)<|a5 (pv 2)<|a5 (pv 3)<|a5 (pv 7) ae)<|a5 (az (aW (K:=K) rfl) (pv 5) (ai bH (pv 8) a8)<|fun _ _=>rfl)<|a5 (pv 4) ae)<|bD (K:=K) (n:=3) rfl rfl<|ak (fb 10)<|ak (fb 7)<|ak (fb 4) bC)
   (af (jE (i:=6) SC.nd rfl (by walk_at "L") (pv 10) xo))))
   (af (au (pv 6)))))))),?_⟩
  have E0:Ext W0 W0:=.refl W0;unfold rD at hq;refine aj (Er:=Er) (FG<|eM (aL Z00) (aL Z06) aN aN)<|(CO hq).imp fun y3 hq v4 W1 e2 h5=>?_;have E0:=E0.trans e2;have Z00:=CM e2.g Z00;have Z06:=CM e2.g Z06;refine cX (Er:=Er) (uB (aB<|d6 aN ah)<|aB<|d6 aN<|oH (bY (GN<|aL h5) ah) (eY Z0G (gI _)<|gI _) ah)<|(CO hq).imp fun y8 hq W9 e10=>?_;have E0:=E0.trans e10;have Z00:=CM e10.g Z00;have Z06:=CM e10.g Z06;have h5:=CM e10.g h5;by_cases hb73:y8=true
  ·rw[if_pos hb73]at hq ⊢;exact hq.elim
  ·rw[if_neg hb73]at hq ⊢
   try dsimp only[aD]
   refine aj (Er:=Er) (aV (x:=CY "") (l:=[]) (gp _ _ (by decide +kernel)))<|fun v13 W11 e12 h14=>?_;cases h14;have E0:=E0.trans e12;have Z00:=CM e12.g Z00;have Z06:=CM e12.g Z06;have h5:=CM e12.g h5;refine aj (Er:=Er) (eY Z0G (gI _)<|gI _)<|fun v17 W15 e16 h18=>?_;have E0:=E0.trans e16;have Z00:=CM e16.g Z00;have Z06:=CM e16.g Z06;have h5:=CM e16.g h5;refine df (Er:=Er) (f:=(f9 qg fc tablet loose bound y3)) (s0:=((0,0),number,([]:Tx))) (Iv:=fun(s21:(Ii×Int×Tx))(W22:Wd)(g23:St)=>∃(v24:V)(d26:Option V)(d27:Option V)(d28:Option V),g23=[some Z0a,some Z0x,some<|.int loose,some<|.int bound,some<|.int s21.2.1,some v4,some<|.str<|aM s21.2.2,some v24,d27,d28,d26]/\Ext W0 W22/\(qC K) W22.G s21.1 v24) (qS<|aL Z06) (CO hq) ?_ ?_ ?_
   ·intro W40 e41;have E0:=E0.trans e41;have Z00:=CM e41.g Z00;have h5:=CM e41.g h5;have h18:=CM e41.g h18;exact⟨_,_,_,_,rfl,E0,h18⟩
   ·intro Wb29 W30 W31 a19 v32 s20 sg33 P34 hW35 hB36 iv e37 h38 hq;obtain⟨v24,d26,d27,d28,rfl,E0,h25⟩:=iv;have Z00:=CM hW35 Z00;have h5:=CM hW35 h5;have E0:=E0.trans e37;have hB36:=hB36.trans e37.g;have Z00:=CM e37.g Z00;have h5:=CM e37.g h5;have h25:=CM e37.g h25;refine ik h38 fun v46 v48 h47 h49=>?_;cases h47;unfold f9 at hq;refine dY (Er:=Er) (cS (FG<|fG (aL Z00) (aL h49) aN aN<|aL h25) (bY (GN<|aL h5)<|aX aN ah) aN)<|(CO hq).imp fun y52 hq v53 W54 e55 h56=>?_;have E0:=E0.trans e55;have hB36:=hB36.trans e55.g;have Z00:=CM e55.g Z00;have h5:=CM e55.g h5;have h49:=CM e55.g h49;refine sF h56 fun v57 v59 v61 h58 h60 h62=>?_;cases h58;cases h62;refine xp (Er:=Er) (a:=s20.2.2) cy<|(CO hq).imp fun y65 hq W63 e64=>?_;have E0:=E0.trans e64;have hB36:=hB36.trans e64.g;have Z00:=CM e64.g Z00;have h5:=CM e64.g h5;have h49:=CM e64.g h49;have h60:=CM e64.g h60
    try dsimp only
    refine cx (W:=W63) (y52.2.1,y52.2.2,y65) hB36 ?_ hq;exact⟨_,_,_,_,rfl,E0,h60⟩
   ·intro s66 W67 sg68 hS69 iv hq;obtain⟨v24,d26,d27,d28,rfl,E0,h25⟩:=iv;exact aK (Er:=Er) cy<|fun v70 W71 e72 h73=>hq v70 W71 (E0.trans e72) h73
theorem CH{f:Addr}{fd:Dr}(F:Fun K "_law_does" "_law_does" (tp 54) f fd){qb:Cd->Tx->Res (List Pl)}{jn:Cd->Tx->Res Int}(Z0X:Cal P w K mg base "_law_places" ["_law_card_here","_law_turns_here"] (3) (bG (qA K) isS (ro<|qB K) qb))(Z19:Cal P w K mg base "_law_twist" ["_law_card_here","_law_turn"] (2) (bG (qA K) isS (rs isI) jn))(h_abs:mg "abs"=none)(h_int:mg "int"=none)(h_len:mg "len"=none)(h_zip:mg "zip"=none):FnOk P w K mg base CX0 (4) f fd ["_law_card_here","_law_strip","_law_loose","_law_bound","_law_text"] (eX (qA K) (qD K) isI isI isS (rs isB)<|Bz qb jn):=by
 have SC:FnScope ["_law_card_here","_law_strip","_law_loose","_law_bound","_law_text","_law_turn","_law_now","_law_idle","_law_place","_law_mark","_law_sign","_law_left"] ["_law_card_here","_law_strip","_law_loose","_law_bound","_law_text"] (defScope<|tp 54):=by walk_at "F"
 refine F.ok SC (fun vs H Q E h=>?_)<|fun cdv A outer s H vs Q E hr h=>?_;·obtain⟨_,_,_,_,_,_,_,_,_,_,_,_,rfl,_⟩:=h;rfl
 ·obtain⟨W0,Z03,Z2I,Z17,Z18,Z1s,Z0i,Z2u,_,_,_,rfl,rfl,Z01,Z0o,Z4m,Z4n,Z4H,Er,hq⟩:=h;cases Z4m;cases Z4n;cases Z4H
  refine⟨_,(aa (bq (ax jF (aE (bN (K:=K) rfl) (by rfl) h_len EB<|a5 (pv 4) ae) (aE (bN (K:=K) rfl) (by rfl) h_len EB<|a5 (pv 1) ae)<|ay _) (af<|au dW) aI)
   (aa (cM DN rfl (iU<|pv 4) (fb 5)<|af<|bq (Jq<|fv (ax jF (pv 5) aY<|ay _)<|fv (ax jF (pv 5) aY<|ay _)<|eF<|ax jF (pv 5) aY<|ay _) (af<|au dW) aI)
   (aa (cn 6 a8)
   (aa (cn 7 a8)
   (aa (cM DN rfl (wL (K:=K) rfl rfl h_zip<|a5 (pv 4)<|a5 (cb Z0X<|a5 (pv 0)<|a5 (pv 4) ae)<|a5 (pv 1) ae) (bD (K:=K) (n:=3) rfl rfl<|ak (fb 5)<|ak (fb 8)<|ak (fb 9) bC) (aa (cn 6<|ai bH (pv 6)<|cb Z19<|a5 (pv 0)<|a5 (pv 5) ae)
   (aa (cn 7 (ai fw (ai bH (pv 7) a8) (iS lA (by rfl) h_int Gn<|a5 (cP cg (pv 5) aY<|ay _) ae)))
   (aa (bq (Jq (nu (ax qy (aE jH (by rfl) h_abs Hm<|a5 (pv 6) ae) (pv 3)<|ay _)<|mj<|ax qy (pv 7) (pv 2)<|ay _)) (af<|au dW) aI)
   (af (cM DN rfl (fS (K:=K) rfl rfl h_zip (a5 (pv 8) (a5 (pv 9) ae))) (bD (K:=K) (n:=2) rfl rfl (ak (fb 10) (ak (fb 11) bC))) (af (bq (Jq (fv (ax jF (pv 11) aY (ay _)) (eF (ax jF (pv 11) (pv 10) (ay _))))) (af (au dW)) aI))))))))
   (af (au dW))))))),?_⟩
  have E0:Ext W0 W0:=.refl W0;unfold Bz at hq;refine cX (Er:=Er) (aB<|z8 (qR cy)<|fV<|GN<|aL Z0o)<|(CO hq).imp fun y2 hq W3 e4=>?_;have E0:=E0.trans e4;have Z01:=CM e4.g Z01;have Z0o:=CM e4.g Z0o;by_cases hb150:y2=true
  ·rw[if_pos hb150]at hq ⊢;exact aK (Er:=Er) i5<|fun v5 W6 e7 h8=>hq v5 W6 (E0.trans e7) h8
  ·rw[if_neg hb150]at hq ⊢
   try dsimp only[aD]
   refine gX (Er:=Er) (f:=By) (s0:=()) (Iv:=fun(s11:Unit)(W12:Wd)(g13:St)=>∃(d14:Option V),g13=[some Z0i,some Z2u,some<|.int Z17,some<|.int Z18,some<|.str<|aM Z1s,d14,none,none,none,none,none,none]/\Ext W0 W12) (iZ cy) (CO hq) ?_ ?_ ?_
   ·intro W26 e27;have E0:=E0.trans e27;have Z01:=CM e27.g Z01;have Z0o:=CM e27.g Z0o;exact⟨_,rfl,E0⟩
   ·intro Wb15 W16 W17 a9 v18 s10 sg19 P20 hW21 hB22 iv e23 h24 hrt25 hq;obtain⟨d14,rfl,E0⟩:=iv;have Z01:=CM hW21 Z01;have Z0o:=CM hW21 Z0o;have E0:=E0.trans e23;have hB22:=hB22.trans e23.g;have Z01:=CM e23.g Z01;have Z0o:=CM e23.g Z0o;cases h24;refine gn (σ':=[some Z0i,some Z2u,some<|.int Z17,some<|.int Z18,some<|.str<|aM Z1s,some<|.str<|aM a9,none,none,none,none,none,none]) ?_;unfold By at hq;refine uI (Er:=Er) (gE (aB (jZ cy (aV (x:=CY "f") (l:=[102]) (gp _ _ (by decide +kernel))))) (gE (aB (jZ cy (aV (x:=CY "b") (l:=[98]) (gp _ _ (by decide +kernel))))) (aB (jZ cy (aV (x:=CY "i") (l:=[105]) (gp _ _ (by decide +kernel)))))))<|(CO hq).imp fun y30 hq W31 e32=>?_;have E0:=E0.trans e32;have hB22:=hB22.trans e32.g;have Z01:=CM e32.g Z01;have Z0o:=CM e32.g Z0o;by_cases hb36:y30=true
    ·rw[if_pos hb36]at hq ⊢;exact aK (Er:=Er) i5<|fun v33 W34 e35 h36=>(hrt25 _ hq) v33 W34 (E0.trans e35) h36
    ·rw[if_neg hb36]at hq ⊢
     try dsimp only[aD]
     try dsimp only
     refine cx (W:=W31) () hB22 ?_ hq;exact⟨_,rfl,E0⟩
   ·intro s37 W38 sg39 hS40 iv hq;obtain⟨d14,rfl,E0⟩:=iv;have Z01:=CM hS40 Z01;have Z0o:=CM hS40 Z0o;refine aj (Er:=Er) ah<|fun v43 W41 e42 h44=>?_;cases h44;have E0:=E0.trans e42;have Z01:=CM e42.g Z01;have Z0o:=CM e42.g Z0o;refine aj (Er:=Er) ah<|fun v47 W45 e46 h48=>?_;cases h48;have E0:=E0.trans e46;have Z01:=CM e46.g Z01;have Z0o:=CM e46.g Z0o;refine gX (Er:=Er) (f:=(zW jn Z03 Z17 Z18)) (s0:=((0:Int),(0:Int))) (Iv:=fun(s52:Ii)(W53:Wd)(g54:St)=>∃(d55:Option V)(d56:Option V)(d57:Option V)(d58:Option V)(d59:Option V),g54=[some Z0i,some Z2u,some<|.int Z17,some<|.int Z18,some<|.str<|aM Z1s,d57,some<|.int s52.1,some<|.int s52.2,d58,d59,d55,d56]/\Ext W0 W53) (wV (uF cy) (fW<|FG<|gW (aL Z01) cy)<|fW<|aL Z0o) (CO hq) ?_ ?_ ?_
    ·intro W71 e72;have E0:=E0.trans e72;have Z01:=CM e72.g Z01;exact⟨_,_,_,_,_,rfl,E0⟩
    ·intro Wb60 W61 W62 a50 v63 s51 sg64 P65 hW66 hB67 iv e68 h69 hrt70 hq;obtain⟨d55,d56,d57,d58,d59,rfl,E0⟩:=iv;have Z01:=CM hW66 Z01;have E0:=E0.trans e68;have hB67:=hB67.trans e68.g;have Z01:=CM e68.g Z01;refine sF h69 fun v79 v81 v83 h80 h82 h84=>?_;cases h80;unfold zW at hq;refine aj (Er:=Er) (aX aN<|aS (aL Z01) cy)<|(CO hq).imp fun y88 hq v89 W85 e86 h90=>?_;cases h90;have E0:=E0.trans e86;have hB67:=hB67.trans e86.g;have Z01:=CM e86.g Z01;have h82:=CM e86.g h82;have h84:=CM e86.g h84;refine aj (Er:=Er) (jY (aX aN ah) (qU (ij cy (aV (x:=CY "i") (l:=[105]) (gp _ _ (by decide +kernel))))))<|(CO hq).imp fun y93 hq v94 W91 e92 h95=>?_;cases h95;have E0:=E0.trans e92;have hB67:=hB67.trans e92.g;have Z01:=CM e92.g Z01;have h82:=CM e92.g h82;have h84:=CM e92.g h84;refine cX (Er:=Er) (uB (aB<|d6 (pJ aN) aN)<|aB<|d6 aN aN)<|(CO hq).imp fun y96 hq W97 e98=>?_;have E0:=E0.trans e98;have hB67:=hB67.trans e98.g;have Z01:=CM e98.g Z01;have h82:=CM e98.g h82;have h84:=CM e98.g h84;by_cases hb141:y96=true
     ·rw[if_pos hb141]at hq ⊢;exact aK (Er:=Er) i5<|fun v99 W100 e101 h102=>(hrt70 _ hq) v99 W100 (E0.trans e101) h102
     ·rw[if_neg hb141]at hq ⊢
      try dsimp only[aD]
      refine qT (Er:=Er) (f:=AI) (s0:=()) (Iv:=fun(s105:Unit)(W106:Wd)(g107:St)=>∃(d108:Option V)(d109:Option V),g107=[some Z0i,some Z2u,some<|.int Z17,some<|.int Z18,some<|.str<|aM Z1s,some<|.str<|aM a50.1,some<|.int y88,some<|.int y93,some v81,some v83,d108,d109]/\Ext W0 W106) (j4 (jr<|aL h82)<|jr<|aL h84) (CO hq) ?_ ?_ ?_
      ·intro W121 e122;have E0:=E0.trans e122;have hB67:=hB67.trans e122.g;have Z01:=CM e122.g Z01;have h82:=CM e122.g h82;have h84:=CM e122.g h84;exact⟨_,_,rfl,E0⟩
      ·intro Wb110 W111 W112 a103 v113 s104 sg114 P115 hW116 hB117 iv e118 h119 hrt120 hq;obtain⟨d108,d109,rfl,E0⟩:=iv;have hB67:=hB67.trans hW116;have Z01:=CM hW116 Z01;have h82:=CM hW116 h82;have h84:=CM hW116 h84;have E0:=E0.trans e118;have hB67:=hB67.trans e118.g;have hB117:=hB117.trans e118.g;have Z01:=CM e118.g Z01;have h82:=CM e118.g h82;have h84:=CM e118.g h84;refine ik h119 fun v127 v129 h128 h130=>?_;cases h128;cases h130;unfold AI at hq;refine uI (Er:=Er) (gE (aB (jZ cy (aV (x:=CY "?") (l:=[63]) (gp _ _ (by decide +kernel)))))<|aB<|jZ cy cy)<|(CO hq).imp fun y131 hq W132 e133=>?_;have E0:=E0.trans e133;have hB67:=hB67.trans e133.g;have hB117:=hB117.trans e133.g;have Z01:=CM e133.g Z01;have h82:=CM e133.g h82;have h84:=CM e133.g h84;by_cases hb137:y131=true
       ·rw[if_pos hb137]at hq ⊢;exact aK (Er:=Er) i5<|fun v134 W135 e136 h137=>(hrt70 _<|hrt120 _ hq) v134 W135 (E0.trans e136) h137
       ·rw[if_neg hb137]at hq ⊢
        try dsimp only[aD]
        try dsimp only
        refine cx (W:=W132) () hB117 ?_ hq;exact⟨_,_,rfl,E0⟩
      ·intro s138 W139 sg140 hS141 iv hq;obtain⟨d108,d109,rfl,E0⟩:=iv;have hB67:=hB67.trans hS141;have Z01:=CM hS141 Z01;have h82:=CM hS141 h82;have h84:=CM hS141 h84
       try dsimp only
       refine cx (W:=W139) (y88,y93) hB67 ?_ hq;exact⟨_,_,_,_,_,rfl,E0⟩
    ·intro s143 W144 sg145 hS146 iv hq;obtain⟨d55,d56,d57,d58,d59,rfl,E0⟩:=iv;exact aK (Er:=Er) i5<|fun v147 W148 e149 h150=>hq v147 W148 (E0.trans e149) h150
theorem CI{f:Addr}{fd:Dr}(F:Fun K "is_row" "is_row" (tp 12) f fd)(h_all:mg "all"=none)(h_len:mg "len"=none){Z21:Tok}(Z1p:mg "TURNS"=some (.str (CY "fbi") Z21)):FnOk P w K mg base CX0 (1) f fd ["text","width"] (bG isS isI (rs isB)<|BA):=by
 have SC:FnScope ["text","width"] ["text","width"] (defScope<|tp 12):=by walk_at "F"
 refine F.ok SC (fun vs H Q E h=>?_)<|fun cdv A outer s H vs Q E hr h=>?_;·obtain⟨_,_,_,_,_,_,rfl,_⟩:=h;rfl
 ·obtain⟨W0,text,width,_,_,rfl,rfl,Z33,Z4S,Er,hq⟩:=h;cases Z33;cases Z4S;refine⟨_,(af (au (gv (cP cg (aE (bN (K:=K) rfl) (by rfl) h_len EB<|a5 (pv 0) ae) (pv 1)<|ay _) (i8 (aE (lL (K:=K) rfl rfl) (by rfl) h_all JB (a5 (eH (N:=["sign"]) (cap:=[none]) (iu rfl (by decide +kernel) rfl (by decide +kernel) (by rfl) (by rfl)) rfl (iU<|pv 0) (fun _ _ _ _=>(bj (i:=0) (show Et (["sign"]:List Str) by decide +kernel) rfl (by walk_at "L"))) (fun _ _ _ _=>cW) (fun _ _ _ _=>(cP rW (pv 0) (bU (v:=.str<|CY "fbi") (by rfl) Z1p ⟨_,rfl⟩) (by with_unfolding_all rfl)))) ae)))))),?_⟩;have E0:Ext W0 W0:=.refl W0;rw[show L2.start ["text","width"] [.str (aM text),.int width]=[some (.str<|aM text),some<|.int width]from rfl];unfold BA at hq;exact aK (Er:=Er) (mJ (d9 (qR cy) aN) (uN (Io (fo (iZ cy) fun W4 a2 v3 e5 h6 Q9 k10=>by
   cases h6;refine gn ?_;exact⟨by simp[Keep,br],((z9 cy (aV (x:=CY "fbi") (l:=[102,98,105]) (gp _ _ (by decide +kernel)))):EV Er _ [some (.str (aM a2))] _ _ _) _ (.refl _) _ k10⟩)))) (DE hq fun y13 hq v14 W15 e16 h17=>hq v14 W15 (E0.trans e16) h17)
theorem CJ{f:Addr}{fd:Dr}(F:Fun K "does" "does" (tp 25) f fd){xE:Tx->Int->Res Bool}{iI:Ii->Int->Int->Res Bool}{hZ:Cd->Ii->Tx->Res Ii}{l4:Cd->Ii->Tx->Pl->Res Bool}(Z3m:Cal P w K mg base "is_row" ["text","width"] (1) (bG isS isI (rs isB) xE))(Z14:Cal P w K mg base "within" ["state","loose","bound"] (1) (dz (qC K) isI isI (rs isB) iI))(Z0w:Cal P w K mg base "state_behind" ["tablet","state","turn"] (2) (dz (qA K) (qC K) isS (rs<|qC K) hZ))(Z20:Cal P w K mg base "leaves" ["tablet","state","turn","mark"] (3) (gq (qA K) (qC K) isS (qB K) (rs isB) l4))(h_len:mg "len"=none)(h_zip:mg "zip"=none){Z0y:Addr}(Z0F:mg "START"=some (.ref Z0y))(Z0G:∀H,SqT K H Z0y [.int (0),.int<|0]):FnOk P w K mg base CX0 (4) f fd ["tablet","strip","loose","bound","text"] (eX (qA K) (qD K) isI isI isS (rs isB)<|BB xE iI hZ l4):=by
 have SC:FnScope ["tablet","strip","loose","bound","text","state","kept","turn","mark"] ["tablet","strip","loose","bound","text"] (defScope<|tp 25):=by walk_at "F"
 refine F.ok SC (fun vs H Q E h=>?_)<|fun cdv A outer s H vs Q E hr h=>?_;·obtain⟨_,_,_,_,_,_,_,_,_,_,_,_,rfl,_⟩:=h;rfl
 ·obtain⟨W0,tablet,strip,loose,bound,text,Z0a,Z0x,_,_,_,rfl,rfl,Z00,Z06,Z0v,Z0E,Z33,Er,hq⟩:=h;cases Z0v;cases Z0E;cases Z33
  refine⟨_,(aa (bq (fN (cH (cb Z3m (a5 (pv 4) (a5 (aE (bN (K:=K) rfl) (by rfl) h_len EB<|a5 (pv 1) ae) ae))))) (af<|au dW) aI)
   (aa (cn 5 (bU (v:=.ref _) (by rfl) Z0F rfl))
   (aa (cn 6<|cb Z14<|a5 (pv 5)<|a5 (pv 2)<|a5 (pv 3) ae)
   (aa (cM DN rfl (fS (K:=K) rfl rfl h_zip<|a5 (pv 4)<|a5 (pv 1) ae) (bD (K:=K) (n:=2) rfl rfl<|ak (fb 7)<|ak (fb 8) bC) (aa (cn 5<|cb Z0w<|a5 (pv 0)<|a5 (pv 5)<|a5 (pv 7) ae)
   (af (cn 6 (gv (pv 6) (gv (cb Z14 (a5 (pv 5) (a5 (pv 2) (a5 (pv 3) ae)))) (i8 (cb Z20 (a5 (pv 0) (a5 (pv 5) (a5 (pv 7) (a5 (pv 8) ae))))))))))))
   (af (au (pv 6))))))),?_⟩
  have E0:Ext W0 W0:=.refl W0;unfold BB at hq;refine cX (Er:=Er) (iY<|k9<|aS cy<|fV<|GN<|aL Z06)<|(CO hq).imp fun y2 hq W3 e4=>?_;have E0:=E0.trans e4;have Z00:=CM e4.g Z00;have Z06:=CM e4.g Z06;by_cases hb66:y2=true
  ·rw[if_pos hb66]at hq ⊢;exact aK (Er:=Er) i5<|fun v5 W6 e7 h8=>hq v5 W6 (E0.trans e7) h8
  ·rw[if_neg hb66]at hq ⊢
   try dsimp only[aD]
   refine aj (Er:=Er) (eY Z0G (gI _)<|gI _)<|fun v11 W9 e10 h12=>?_;have E0:=E0.trans e10;have Z00:=CM e10.g Z00;have Z06:=CM e10.g Z06;refine aj (Er:=Er) (cS (aL h12) aN aN)<|(CO hq).imp fun y15 hq v16 W13 e14 h17=>?_;cases h17;have E0:=E0.trans e14;have Z00:=CM e14.g Z00;have Z06:=CM e14.g Z06;have h12:=CM e14.g h12;refine df (Er:=Er) (f:=(zX iI hZ l4 tablet loose bound)) (s0:=((0,0),y15)) (Iv:=fun(s20:(Ii×Bool))(W21:Wd)(g22:St)=>∃(v23:V)(d25:Option V)(d26:Option V),g22=[some Z0a,some Z0x,some<|.int loose,some<|.int bound,some<|.str<|aM text,some v23,some<|.bl s20.2,d25,d26]/\Ext W0 W21/\(qC K) W21.G s20.1 v23) (j4 (uF cy)<|fW<|aL Z06) (CO hq) ?_ ?_ ?_
   ·intro W38 e39;have E0:=E0.trans e39;have Z00:=CM e39.g Z00;have h12:=CM e39.g h12;exact⟨_,_,_,rfl,E0,h12⟩
   ·intro Wb27 W28 W29 a18 v30 s19 sg31 P32 hW33 hB34 iv e35 h36 hq;obtain⟨v23,d25,d26,rfl,E0,h24⟩:=iv;have Z00:=CM hW33 Z00;have E0:=E0.trans e35;have hB34:=hB34.trans e35.g;have Z00:=CM e35.g Z00;have h24:=CM e35.g h24;refine ik h36 fun v44 v46 h45 h47=>?_;cases h45;unfold zX at hq;refine aj (Er:=Er) (cS (aL Z00) (aL h24) cy)<|(CO hq).imp fun y50 hq v51 W48 e49 h52=>?_;have E0:=E0.trans e49;have hB34:=hB34.trans e49.g;have Z00:=CM e49.g Z00;have h47:=CM e49.g h47;refine de (Er:=Er) (mJ AU<|mJ (cS (aL h52) aN aN)<|iz (aL Z00) (aL h52) cy<|aL h47)<|(CO hq).imp fun y56 hq v57 W53 e54 h58=>?_;cases h58;have E0:=E0.trans e54;have hB34:=hB34.trans e54.g;have Z00:=CM e54.g Z00;have h47:=CM e54.g h47;have h52:=CM e54.g h52
    try dsimp only
    refine cx (W:=W53) (y50,y56) hB34 ?_ hq;exact⟨_,_,_,rfl,E0,h52⟩
   ·intro s59 W60 sg61 hS62 iv hq;obtain⟨v23,d25,d26,rfl,E0,h24⟩:=iv;exact aK (Er:=Er) AU<|fun v63 W64 e65 h66=>hq v63 W64 (E0.trans e65) h66
theorem CK{f:Addr}{fd:Dr}(F:Fun K "comes_ahead" "comes_ahead" (tp 33) f fd){Z21:Tok}(Z1p:mg "TURNS"=some (.str (CY "fbi") Z21)):FnOk P w K mg base CX0 (1) f fd ["turn","other"] (bG isS isS (rs isB)<|BC):=by
 have SC:FnScope ["turn","other"] ["turn","other"] (defScope<|tp 33):=by walk_at "F"
 refine F.ok SC (fun vs H Q E h=>?_)<|fun cdv A outer s H vs Q E hr h=>?_;·obtain⟨_,_,_,_,_,_,rfl,_⟩:=h;rfl
 ·obtain⟨W0,turn,other,_,_,rfl,rfl,Z1S,Z4T,Er,hq⟩:=h;cases Z1S;cases Z4T;refine⟨_,(af (au (cP nA (dJ (K:=K) rfl rfl (bU (v:=.str<|CY "fbi") (by rfl) Z1p ⟨_,rfl⟩)<|a5 (pv 0) ae) (dJ (K:=K) rfl rfl (bU (v:=.str<|CY "fbi") (by rfl) Z1p ⟨_,rfl⟩)<|a5 (pv 1) ae)<|ay _))),?_⟩;have E0:Ext W0 W0:=.refl W0;unfold BC at hq;exact aK (Er:=Er) (d6 (fU (aV (x:=CY "fbi") (l:=[102,98,105]) (gp _ _ (by decide +kernel))) cy) (fU (aV (x:=CY "fbi") (l:=[102,98,105]) (gp _ _ (by decide +kernel))) cy))<|DE hq fun y3 hq v4 W5 e6 h7=>hq v4 W5 (E0.trans e6) h7
theorem CL{f:Addr}{fd:Dr}(F:Fun K "rank" "rank" (tp 32) f fd){xF:Cd->(List Pl)->Int->Int->Tx->Res Bool}{ll:Cd->(List Pl)->Int->Int->Res (List<|List<|Ii×Int)}{fc:Cd->Pl->Int->Int->Ii->Res (List<|Tx×Ii)}{qh:Tx->Tx->Res Bool}{hZ:Cd->Ii->Tx->Res Ii}(Z3Z:Cal P w K mg base "does" ["tablet","strip","loose","bound","text"] (4) (eX (qA K) (qD K) isI isI isS (rs isB) xF))(Z1C:Cal P w K mg base "tails" ["tablet","strip","loose","bound"] (7) (gq (qA K) (qD K) isI isI (ro<|isPD P w K isI) ll))(Z0N:Cal P w K mg base "onward" ["tablet","mark","loose","bound","state"] (4) (eX (qA K) (qB K) isI isI (qC K) (ro<|isT2 K isS<|qC K) fc))(Z26:Cal P w K mg base "comes_ahead" ["turn","other"] (1) (bG isS isS (rs isB) qh))(Z0w:Cal P w K mg base "state_behind" ["tablet","state","turn"] (2) (dz (qA K) (qC K) isS (rs<|qC K) hZ))(h_enumerate:mg "enumerate"=none)(h_sum:mg "sum"=none){Z0y:Addr}(Z0F:mg "START"=some (.ref Z0y))(Z0G:∀H,SqT K H Z0y [.int (0),.int<|0]):FnOk P w K mg base CX0 (8) f fd ["tablet","strip","loose","bound","text"] (eX (qA K) (qD K) isI isI isS (rs isI)<|BD xF ll fc qh hZ):=by
 have SC:FnScope ["tablet","strip","loose","bound","text","counts","number","state","at","mark","moves"] ["tablet","strip","loose","bound","text"] (defScope<|tp 32):=by walk_at "F"
 refine F.ok SC (fun vs H Q E h=>?_)<|fun cdv A outer s H vs Q E hr h=>?_;·obtain⟨_,_,_,_,_,_,_,_,_,_,_,_,rfl,_⟩:=h;rfl
 ·obtain⟨W0,tablet,strip,loose,bound,text,Z0a,Z0x,_,_,_,rfl,rfl,Z00,Z06,Z0v,Z0E,Z33,Er,hq⟩:=h;cases Z0v;cases Z0E;cases Z33;refine⟨_,(aa (bq (fN<|cH<|cb Z3Z<|a5 (pv 0)<|a5 (pv 1)<|a5 (pv 2)<|a5 (pv 3)<|a5 (pv 4) ae) (af og) aI)
   (aa (cn 5<|cb Z1C<|a5 (pv 0)<|a5 (pv 1)<|a5 (pv 2)<|a5 (pv 3) ae)
   (aa (cn 6 a8)
   (aa (cn 7 (bU (v:=.ref _) (by rfl) Z0F rfl))
   (aa (cM DN rfl (qJ (K:=K) rfl rfl h_enumerate<|a5 (pv 1) ae) (bD (K:=K) (n:=2) rfl rfl<|ak (fb 8)<|ak (fb 9) bC) (aa (cn 10<|cb Z0N<|a5 (pv 0)<|a5 (pv 9)<|a5 (pv 2)<|a5 (pv 3)<|a5 (pv 7) ae)
   (aa (jE (i:=6) SC.nd rfl (by walk_at "L") (aE (lI (K:=K) rfl rfl) (by rfl) h_sum JC (a5 (eH (N:=["turn","after","counts","at","text"]) (cap:=[none,none,some 5,some 8,some 4]) (iu rfl (by decide +kernel) rfl (by decide +kernel) (by rfl) (by rfl)) rfl (cE (K:=K) rfl<|pv 10) (fun _ _ _ _=>(bD (K:=K) (n:=2) rfl rfl (ak (bj (i:=0) (show Et (["turn","after","counts","at","text"]:List Str) by decide +kernel) rfl (by walk_at "L")) (ak (bj (i:=1) (show Et (["turn","after","counts","at","text"]:List Str) by decide +kernel) rfl (by walk_at "L")) bC)))) (fun _ _ _ _=>(qH<|cH<|cb Z26<|a5 (pv 0)<|a5 (az bS (pv 4) (pv 3)<|fun _ _=>rfl) ae))<|fun _ _ _ _=>(gM (P:=P) (w:=w) (K:=K) rfl rfl rfl (eU hr) (az (aW (K:=K) rfl) (pv 2) (ai bH (pv 3) a8)<|fun _ _=>rfl) (pv 1)<|fun _ _=>rfl)) ae)) pb)
   (af (cn 7 (cb Z0w (a5 (pv 0) (a5 (pv 7) (a5 (az bS (pv 4) (pv 8) (fun _ _=>rfl)) ae)))))))))
   (af (au (pv 6)))))))),?_⟩
  have E0:Ext W0 W0:=.refl W0;rw[show L2.start ["tablet","strip","loose","bound","text","counts","number","state","at","mark","moves"] [Z0a,Z0x,.int loose,.int bound,.str<|aM text]=[some Z0a,some Z0x,some<|.int loose,some<|.int bound,some<|.str<|aM text,none,none,none,none,none,none]from rfl];unfold BD at hq;refine cX (Er:=Er) (iY<|k9<|fF (aL Z00) (aL Z06) aN aN cy)<|(CO hq).imp fun y2 hq W3 e4=>?_;have E0:=E0.trans e4;have Z00:=CM e4.g Z00;have Z06:=CM e4.g Z06;by_cases hb97:y2=true
  ·rw[if_pos hb97]at hq ⊢;exact hq.elim
  ·rw[if_neg hb97]at hq ⊢
   try dsimp only[aD]
   refine aj (Er:=Er) (FG<|eM (aL Z00) (aL Z06) aN aN)<|(CO hq).imp fun y7 hq v8 W5 e6 h9=>?_;have E0:=E0.trans e6;have Z00:=CM e6.g Z00;have Z06:=CM e6.g Z06;refine aj (Er:=Er) ah<|fun v12 W10 e11 h13=>?_;cases h13;have E0:=E0.trans e11;have Z00:=CM e11.g Z00;have Z06:=CM e11.g Z06;have h9:=CM e11.g h9;refine aj (Er:=Er) (eY Z0G (gI _)<|gI _)<|fun v16 W14 e15 h17=>?_;have E0:=E0.trans e15;have Z00:=CM e15.g Z00;have Z06:=CM e15.g Z06;have h9:=CM e15.g h9;refine df (Er:=Er) (f:=(zt fc qh hZ tablet loose bound text y7)) (s0:=((0:Int),(0,0))) (Iv:=fun(s20:(Int×Ii))(W21:Wd)(g22:St)=>∃(v23:V)(d25:Option V)(d26:Option V)(d27:Option V),g22=[some Z0a,some Z0x,some<|.int loose,some<|.int bound,some<|.str<|aM text,some v8,some<|.int s20.1,some v23,d26,d27,d25]/\Ext W0 W21/\(qC K) W21.G s20.2 v23) (qS<|aL Z06) (CO hq) ?_ ?_ ?_
   ·intro W39 e40;have E0:=E0.trans e40;have Z00:=CM e40.g Z00;have h9:=CM e40.g h9;have h17:=CM e40.g h17;exact⟨_,_,_,_,rfl,E0,h17⟩
   ·intro Wb28 W29 W30 a18 v31 s19 sg32 P33 hW34 hB35 iv e36 h37 hq;obtain⟨v23,d25,d26,d27,rfl,E0,h24⟩:=iv;have Z00:=CM hW34 Z00;have h9:=CM hW34 h9;have E0:=E0.trans e36;have hB35:=hB35.trans e36.g;have Z00:=CM e36.g Z00;have h9:=CM e36.g h9;have h24:=CM e36.g h24;refine ik h37 fun v45 v47 h46 h48=>?_;cases h46;unfold zt at hq;refine aj (Er:=Er) (FG<|fG (aL Z00) (aL h48) aN aN<|aL h24)<|(CO hq).imp fun y51 hq v52 W49 e50 h53=>?_;have E0:=E0.trans e50;have hB35:=hB35.trans e50.g;have Z00:=CM e50.g Z00;have h9:=CM e50.g h9;have h24:=CM e50.g h24;have h48:=CM e50.g h48;refine lO (Er:=Er) (a:=s19.1) (uM (Io (nU (di<|aL h53) fun W56 a54 v55 e57 h58 Q65 k66=>by
     have h59:=DW (R:=sh<|isL<|isPD P w K isI) e57 h9;refine ik h58 fun v60 v62 h61 h63=>?_;cases h61;refine⟨by simp[Keep,br],((k9<|aS cy<|bT cy aN):TV Er _ [some (.str<|aM a54.1),some v62,some v8,some<|.int a18.1,some<|.str<|aM text] _ _) _ (.refl _) _ (DE (P:=fun b68=>(if b68=true then(((fA y7<|a18.1+(1:Int)).bind fun y64=>getD y64 a54.2).bind fun y69=>CW<|some y69)else CW none:Res (Option Int)).OkE Er _) (CO k66) fun b68 k73 W71 e72=>?_)⟩;cases b68 with
     |false=>exact k73 none _ e72 trivial
     |true=>
      rw[if_pos rfl];refine EV.go (Er:=Er) (σ:=[some (.str (aM a54.1)),some v62,some v8,some (.int a18.1),some (.str (aM text))]) (W1:=W71) e72 (iH (bY (GN (aL h59)) (aX aN ah)) (aL h63)) ?_;exact(CO (show(Res.bind _ _).OkE Er _ from k73)).imp fun x78 k79 u76 W74 e75 h77=>k79 (some u76) _ (e72.trans e75) h77))) ((CO hq).imp fun y81 hq W82 e83=>?_)
    have E0:=E0.trans e83;have hB35:=hB35.trans e83.g;have Z00:=CM e83.g Z00;have h9:=CM e83.g h9;have h24:=CM e83.g h24;have h48:=CM e83.g h48;have h53:=CM e83.g h53;refine de (Er:=Er) (cS (aL Z00) (aL h24)<|bT cy aN)<|(CO hq).imp fun y87 hq v88 W84 e85 h89=>?_;have E0:=E0.trans e85;have hB35:=hB35.trans e85.g;have Z00:=CM e85.g Z00;have h9:=CM e85.g h9;have h48:=CM e85.g h48;have h53:=CM e85.g h53
    try dsimp only
    refine cx (W:=W84) ((s19.1+y81),y87) hB35 ?_ hq;exact⟨_,_,_,_,rfl,E0,h89⟩
   ·intro s90 W91 sg92 hS93 iv hq;obtain⟨v23,d25,d26,d27,rfl,E0,h24⟩:=iv;exact aK (Er:=Er) aN<|fun v94 W95 e96 h97=>hq v94 W95 (E0.trans e96) h97
theorem AL{f:Addr}{fd:Dr}(F:Fun K "law" "law" (tp 56) f fd){wt:List Int->Int->Res (Cd×(List Pl)×Int)}{ir:List Int->Int->Res Int}{qc:Cd->Res Cd}{qd:Cd->Int->Res Cd}{oK:Cd->(List Pl)->Int->Int->Res Int}{oM:Cd->(List Pl)->Int->Res (Option Int)}{gN:Cd->(List Pl)->Int->Int->Int->Res Tx}{xD:Cd->(List Pl)->Int->Int->Tx->Res Bool}{oJ:Tx->Res Tx}{xG:Cd->(List Pl)->Int->Int->Tx->Res Int}(Z2x:Cal P w K mg base "_law_case" ["_law_script","_law_most"] (5) (bG (isScr K) isI (rs<|isT3 K (qA K) (qD K) isI) wt))(Z0D:Cal P w K mg base "_law_at" ["_law_script","_law_k"] (1) (bG (isScr K) isI (rs isI) ir))(Z0M:Cal P w K mg base "_law_turnover" ["_law_card_here"] (1) (dH (qA K) (rs<|qA K) qc))(Z1o:Cal P w K mg base "_law_roll" ["_law_card_here","_law_many"] (1) (bG (qA K) isI (rs<|qA K) qd))(Z3E:Cal P w K mg base "ways" ["tablet","strip","loose","bound"] (8) (gq (qA K) (qD K) isI isI (rs isI) oK))(Z3d:Cal P w K mg base "least" ["tablet","strip","loose"] (7) (dz (qA K) (qD K) isI (rs<|isO isI) oM))(Z0T:Cal P w K mg base "_law_same" ["_law_found","_law_due"] 26 (fZ K 26))(C_way:Cal P w K mg base "way" ["tablet","strip","loose","bound","number"] (8) (eX (qA K) (qD K) isI isI isI (rs isS) gN))(Z2y:Cal P w K mg base "_law_does" ["_law_card_here","_law_strip","_law_loose","_law_bound","_law_text"] (4) (eX (qA K) (qD K) isI isI isS (rs isB) xD))(Z0S:Cal P w K mg base "_law_back" ["_law_turns_here"] (1) (dH isS (rs isS) oJ))(Z40:Cal P w K mg base "rank" ["tablet","strip","loose","bound","text"] (8) (eX (qA K) (qD K) isI isI isS (rs isI) xG)):FnOk P w K mg base CX0 (27) f fd ["_law_script"] (dH (isScr K) (rs isB)<|rE wt ir qc qd oK oM gN xD oJ xG):=by
 have SC:FnScope ["_law_script","_law_card_here","_law_strip","_law_loose","_law_bound","_law_over","_law_along","_law_many","_law_due","_law_other","_law_number","_law_text","_law_there"] ["_law_script"] (defScope<|tp 56):=by walk_at "F"
 refine F.ok SC (fun vs H Q E h=>?_)<|fun cdv A outer s H vs Q E hr h=>?_;·obtain⟨_,_,_,_,rfl,_⟩:=h;rfl
 ·obtain⟨W0,Z0f,Z0Q,rfl,rfl,Z02,Er,hq⟩:=h;refine⟨_,(aa (eP (cb Z2x<|a5 (pv 0)<|a5 a8 ae)<|bD (K:=K) (n:=3) rfl rfl<|ak (fb 1)<|ak (fb 2)<|ak (fb 3) bC)
   (aa (cn 4<|ai aG (cb Z0D<|a5 (pv 0)<|a5 a8 ae) a8)
   (aa (cn 5<|cb Z0M<|a5 (pv 1) ae)
   (aa (cn 6<|cb Z1o<|a5 (pv 1)<|a5 (ai aG (cb Z0D<|a5 (pv 0)<|a5 a8 ae) a8) ae)
   (aa (cn 7<|cb Z3E<|a5 (pv 1)<|a5 (pv 2)<|a5 (pv 3)<|a5 (pv 4) ae)
   (aa (cn 8<|cb Z3d<|a5 (pv 1)<|a5 (pv 2)<|a5 (pv 3) ae)
   (aa (cM DN rfl (cE (K:=K) rfl<|cQ<|a5 (pv 5)<|a5 (pv 6) ae) (fb 9)<|af<|bq (Jq<|nu (fN<|cH<|cb Z0T<|a5 (cb Z3E<|a5 (pv 9)<|a5 (pv 2)<|a5 (pv 3)<|a5 (pv 4) ae)<|a5 (pv 7) ae)<|mj<|fN<|cH<|cb Z0T<|a5 (cb Z3d<|a5 (pv 9)<|a5 (pv 2)<|a5 (pv 3) ae)<|a5 (pv 8) ae) (af<|au dW) aI)
   (aa (bq (ax cg (pv 7) a8<|ay _) (af<|au dW) aI)
   (aa (cn 10<|ai aG (cb Z0D<|a5 (pv 0)<|a5 a8 ae)<|pv 7)
   (aa (cn 11<|cb C_way<|a5 (pv 1)<|a5 (pv 2)<|a5 (pv 3)<|a5 (pv 4)<|a5 (pv 10) ae)
   (aa (bq (fN<|cH<|cb Z0T<|a5 (cb C_way<|a5 (pv 6)<|a5 (pv 2)<|a5 (pv 3)<|a5 (pv 4)<|a5 (pv 10) ae)<|a5 (pv 11) ae) (af<|au dW) aI)
   (aa (bq (fN<|cH<|cb Z2y<|a5 (pv 5)<|a5 (pv 2)<|a5 (pv 3)<|a5 (pv 4)<|a5 (cb Z0S<|a5 (pv 11) ae) ae) (af<|au dW) aI)
   (aa (cn 12<|cb Z40<|a5 (pv 5)<|a5 (pv 2)<|a5 (pv 3)<|a5 (pv 4)<|a5 (cb Z0S<|a5 (pv 11) ae) ae)
   (af (au (cb Z0T (a5 (cb C_way (a5 (pv 5) (a5 (pv 2) (a5 (pv 3) (a5 (pv 4) (a5 (pv 12) ae)))))) (a5 (cb Z0S (a5 (pv 11) ae)) ae)))))))))))))))))),?_⟩
  have E0:Ext W0 W0:=.refl W0;unfold rE at hq;refine dY (Er:=Er) (aS (aL Z02) ah)<|(CO hq).imp fun y1 hq v2 W3 e4 h5=>?_;have E0:=E0.trans e4;have Z02:=CM e4.g Z02;refine sF h5 fun v6 v8 v10 h7 h9 h11=>?_;cases h11;refine aj (Er:=Er) (aq (fun _=>by decide)<|aS (aL Z02) ah)<|(CO hq).imp fun y15 hq v16 W12 e13 h17=>?_;cases h17;have E0:=E0.trans e13;have Z02:=CM e13.g Z02;have h7:=CM e13.g h7;have h9:=CM e13.g h9;refine aj (Er:=Er) (bV<|aL h7)<|(CO hq).imp fun y20 hq v21 W18 e19 h22=>?_;have E0:=E0.trans e19;have Z02:=CM e19.g Z02;have h7:=CM e19.g h7;have h9:=CM e19.g h9;refine aj (Er:=Er) (aS (aL h7) (aq (fun _=>by decide)<|aS (aL Z02) ah))<|(CO hq).imp fun y27 hq v28 W23 e24 h29=>?_;have E0:=E0.trans e24;have Z02:=CM e24.g Z02;have h7:=CM e24.g h7;have h9:=CM e24.g h9;have h22:=CM e24.g h22;refine aj (Er:=Er) (iz (aL h7) (aL h9) aN aN)<|(CO hq).imp fun y32 hq v33 W30 e31 h34=>?_;cases h34;have E0:=E0.trans e31;have Z02:=CM e31.g Z02;have h7:=CM e31.g h7;have h9:=CM e31.g h9;have h22:=CM e31.g h22;have h29:=CM e31.g h29;refine aj (Er:=Er) (cS (aL h7) (aL h9) aN)<|(CO hq).imp fun y37 hq v38 W35 e36 h39=>?_;have E0:=E0.trans e36;have Z02:=CM e36.g Z02;have h7:=CM e36.g h7;have h9:=CM e36.g h9;have h22:=CM e36.g h22;have h29:=CM e36.g h29;refine gX (Er:=Er) (f:=(ee oK oM y1 y15 y32 y37)) (s0:=()) (Iv:=fun(s42:Unit)(W43:Wd)(g44:St)=>∃(d45:Option V),g44=[some Z0Q,some v6,some v8,some<|.int y1.2.2,some<|.int y15,some v21,some v28,some<|.int y32,some v38,d45,none,none,none]/\Ext W0 W43) (di<|FG<|gG<|bO (aL h22)<|bO (aL h29)<|gF (R:=(qA K))) (CO hq) ?_ ?_ ?_
  ·intro W57 e58;have E0:=E0.trans e58;have Z02:=CM e58.g Z02;have h7:=CM e58.g h7;have h9:=CM e58.g h9;have h22:=CM e58.g h22;have h29:=CM e58.g h29;have h39:=CM e58.g h39;exact⟨_,rfl,E0⟩
  ·intro Wb46 W47 W48 a40 v49 s41 sg50 P51 hW52 hB53 iv e54 h55 hrt56 hq;obtain⟨d45,rfl,E0⟩:=iv;have Z02:=CM hW52 Z02;have h7:=CM hW52 h7;have h9:=CM hW52 h9;have h22:=CM hW52 h22;have h29:=CM hW52 h29;have h39:=CM hW52 h39;have E0:=E0.trans e54;have hB53:=hB53.trans e54.g;have Z02:=CM e54.g Z02;have h7:=CM e54.g h7;have h9:=CM e54.g h9;have h22:=CM e54.g h22;have h29:=CM e54.g h29;have h39:=CM e54.g h39;refine gn (σ':=[some Z0Q,some v6,some v8,some<|.int y1.2.2,some<|.int y15,some v21,some v28,some<|.int y32,some v38,some v49,none,none,none]) ?_;unfold ee at hq;refine uI (Er:=Er) (uB (iY (k9 (o9 (by decide) (iz (aL h55) (aL h9) aN aN) aN))) (iY (k9 (o9 (by decide) (cS (aL h55) (aL h9) aN)<|aL h39))))<|(CO hq).imp fun y66 hq W67 e68=>?_;have E0:=E0.trans e68;have hB53:=hB53.trans e68.g;have Z02:=CM e68.g Z02;have h7:=CM e68.g h7;have h9:=CM e68.g h9;have h22:=CM e68.g h22;have h29:=CM e68.g h29;have h39:=CM e68.g h39;have h55:=CM e68.g h55;by_cases hb72:y66=true
   ·rw[if_pos hb72]at hq ⊢;exact aK (Er:=Er) i5<|fun v69 W70 e71 h72=>(hrt56 _ hq) v69 W70 (E0.trans e71) h72
   ·rw[if_neg hb72]at hq ⊢
    try dsimp only[aD]
    try dsimp only
    refine cx (W:=W67) () hB53 ?_ hq;exact⟨_,rfl,E0⟩
  ·intro s73 W74 sg75 hS76 iv hq;obtain⟨d45,rfl,E0⟩:=iv;have Z02:=CM hS76 Z02;have h7:=CM hS76 h7;have h9:=CM hS76 h9;have h22:=CM hS76 h22;have h29:=CM hS76 h29;refine cX (Er:=Er) (aB<|d9 aN ah)<|fun W77 e78=>?_;have E0:=E0.trans e78;have Z02:=CM e78.g Z02;have h7:=CM e78.g h7;have h9:=CM e78.g h9;have h22:=CM e78.g h22;have h29:=CM e78.g h29;by_cases hb124:(decide<|y32=(0:Int))=true
   ·rw[if_pos hb124]at hq ⊢;exact aK (Er:=Er) i5<|fun v79 W80 e81 h82=>hq v79 W80 (E0.trans e81) h82
   ·rw[if_neg hb124]at hq ⊢
    try dsimp only[aD]
    refine aj (Er:=Er) (iX (aS (aL Z02) ah) aN)<|(CO hq).imp fun y86 hq v87 W83 e84 h88=>?_;cases h88;have E0:=E0.trans e84;have h7:=CM e84.g h7;have h9:=CM e84.g h9;have h22:=CM e84.g h22;have h29:=CM e84.g h29;refine aj (Er:=Er) (fF (aL h7) (aL h9) aN aN aN)<|(CO hq).imp fun y91 hq v92 W89 e90 h93=>?_;cases h93;have E0:=E0.trans e90;have h9:=CM e90.g h9;have h22:=CM e90.g h22;have h29:=CM e90.g h29;refine cX (Er:=Er) (iY (k9 (oa (by decide) (fF (aL h29) (aL h9) aN aN aN) cy)))<|(CO hq).imp fun y96 hq W97 e98=>?_;have E0:=E0.trans e98;have h9:=CM e98.g h9;have h22:=CM e98.g h22;have h29:=CM e98.g h29;by_cases hb124:y96=true
    ·rw[if_pos hb124]at hq ⊢;exact aK (Er:=Er) i5<|fun v99 W100 e101 h102=>hq v99 W100 (E0.trans e101) h102
    ·rw[if_neg hb124]at hq ⊢
     try dsimp only[aD]
     refine cX (Er:=Er) (iY<|k9<|fF (aL h22) (aL h9) aN aN<|bV cy)<|(CO hq).imp fun y105 hq W106 e107=>?_;have E0:=E0.trans e107;have h9:=CM e107.g h9;have h22:=CM e107.g h22;by_cases hb124:y105=true
     ·rw[if_pos hb124]at hq ⊢;exact aK (Er:=Er) i5<|fun v108 W109 e110 h111=>hq v108 W109 (E0.trans e110) h111
     ·rw[if_neg hb124]at hq ⊢
      try dsimp only[aD]
      refine aj (Er:=Er) (fF (aL h22) (aL h9) aN aN<|bV cy)<|(CO hq).imp fun y115 hq v116 W112 e113 h117=>?_;cases h117;have E0:=E0.trans e113;have h9:=CM e113.g h9;have h22:=CM e113.g h22;exact aK (Er:=Er) (oa (by decide) (fF (aL h22) (aL h9) aN aN aN)<|bV cy)<|DE hq fun y120 hq v121 W122 e123 h124=>hq v121 W122 (E0.trans e123) h124
end
end Wb
namespace Wb
open PySem L2
section
variable{P:Dj}{w:Dp}{K:CT}{mg:Str->Option CU}{base:Heap}
theorem xH{f:Addr}{fd:Dr}{ps:List Str}{k:Nat}:FnOk P w K mg base CX0 k f fd ps (fZ K 0):=⟨fun _ _ _ _ h=>h.elim,fun _ _ _ _ _ _ _ _ _ _ _ _ _ h=>h.elim⟩
theorem lq{K:CT}(a b:String)(r:Bool)(h:Fo [] (.type a) (.type b)=some r):Fo K (.type a) (.type b)=some r:=by first|exact h|(rw[<-h];rfl)
theorem gO{c:TT}{t rest:TS}{D:Ends}{σ:St}{H:Hp}(h:∀Q:Bool->Hp->Prop,Q false H->c σ H Q)(k:rest D σ H):gm (jj c t aD) rest D σ H:=h _ k
theorem oN{c:TT}{t rest:TS}{D:Ends}{σ:St}{H:Hp}(h:∀Q:Bool->Hp->Prop,Q true H->c σ H Q)(k:t {D with nx:=rest D} σ H):gm (jj c t aD) rest D σ H:=h _ k
local macro_rules | `(tactic|walk_at "S0")=>`(tactic|simp only[cD,bF,dw,bQ,tC,eR,ao,aU,cz,aD,bR,aR,cu,bg,cA,tB,fP,rU,fe,rI,cB,cv,aT,bA,gk,cI,gj,cJ,bE,cK,bI,fQ,bB,aJ,fj,gi,gd,gf,cN,cw,cC,cO,aF,aP,L2.start,Ds,Gb,Hu,GP,EN,Fh,HR,Fp,GW,Ik,F4,EH,II,exists_eq_left',exists_eq_left,exists_and_left,exists_eq',exists_const,G6.injEq,MS.injEq,Ho.injEq,V.ref.injEq,V.ty.injEq,Jp,and_true,true_and,reduceCtorEq,false_and,and_false,exists_false,or_false,false_or,decide_eq_true_eq,IJ,decide_eq_false_iff_not,if_true,if_false,DA,ite_true,ite_false,GJ,JR,K2,K3,and_assoc])
local macro_rules | `(tactic|walk_at "S1")=>`(tactic|simp only[cD,gm,jj,bF,dw,bQ,tC,eR,ao,aU,cz,aD,bR,aR,cu,bg,cA,tB,fP,rU,fe,rI,cB,cv,aT,bA,gk,cI,gj,cJ,bE,cK,bI,fQ,bB,aJ,fj,gi,gd,gf,cN,cw,cC,cO,aF,aP,L2.start,Ds,Gb,Hu,GP,EN,Fh,HR,Fp,GW,Ik,F4,EH,II,exists_eq_left',exists_eq_left,exists_and_left,exists_eq',exists_const,G6.injEq,MS.injEq,Ho.injEq,V.ref.injEq,V.ty.injEq,Jp,and_true,true_and,reduceCtorEq,false_and,and_false,exists_false,or_false,false_or,decide_eq_true_eq,IJ,decide_eq_false_iff_not,if_true,if_false,DA,ite_true,ite_false,GJ,JR,K2,K3,and_assoc])
theorem vU{f:Addr}{fd:Dr}(F:Fun K "_law_same" "_law_same" (tp 55) f fd)(h_len:mg "len"=none)(h_isinstance:mg "isinstance"=none)(h_bool:mg "bool"=none)(h_int:mg "int"=none)(h_str:mg "str"=none)(h_list:mg "list"=none)(h_tuple:mg "tuple"=none)(h_zip:mg "zip"=none){n:Nat}
  (Z0T:Cal P w K mg base "_law_same" ["_law_found","_law_due"] n (fZ K n)):FnOk P w K mg base CX0 (n+1) f fd ["_law_found","_law_due"] (fZ K<|n+1):=by
 have SC:FnScope ["_law_found","_law_due","_law_one","_law_other"] ["_law_found","_law_due"] (defScope<|tp 55):=by walk_at "F"
 refine F.ok SC (fun vs H Q E h=>?_)<|fun cdv A outer s H vs Q E hr h=>?_;·obtain⟨v,u,rfl,_⟩:=h;rfl
 ·obtain⟨v,u,rfl,h⟩:=h;have hr:Room n _:=hr
  refine⟨_,(aa (bq (Jq<|nu (ax (op_isN.or jN) (pv 1) tT<|ay _)<|nu (ax (op_isN.or jN) (pv 1) dW<|ay _)<|mj<|ax (op_isN.or jN) (pv 1) dW<|ay _) (af (au (gv (cP cg (aE (bu (K:=K) rfl) (by rfl) h_isinstance DC (a5 (pv 0) (a5 (dA (v:=.ty "bool") (by rfl) h_bool Hi rfl) ae))) (aE (bu (K:=K) rfl) (by rfl) h_isinstance DC (a5 (pv 1) (a5 (dA (v:=.ty "bool") (by rfl) h_bool Hi rfl) ae)))<|ay _)<|i8<|cP cg (pv 0) (pv 1)<|ay _))) aI)
   (aa (bq (cH (aE (bu (K:=K) rfl) (by rfl) h_isinstance DC (a5 (pv 1) (a5 (dA (v:=.ty "int") (by rfl) h_int Gn rfl) ae)))) (af (au (gv (aE (bu (K:=K) rfl) (by rfl) h_isinstance DC (a5 (pv 0) (a5 (dA (v:=.ty "int") (by rfl) h_int Gn rfl) ae))) (gv (yG (aE (bu (K:=K) rfl) (by rfl) h_isinstance DC (a5 (pv 0) (a5 (dA (v:=.ty "bool") (by rfl) h_bool Hi rfl) ae))))<|i8<|cP cg (pv 0) (pv 1)<|ay _)))) aI)
   (aa (bq (cH (aE (bu (K:=K) rfl) (by rfl) h_isinstance DC (a5 (pv 1) (a5 (dA (v:=.ty "str") (by rfl) h_str JD rfl) ae)))) (af (au (gv (aE (bu (K:=K) rfl) (by rfl) h_isinstance DC (a5 (pv 0) (a5 (dA (v:=.ty "str") (by rfl) h_str JD rfl) ae)))<|i8<|cP cg (pv 0) (pv 1)<|ay _))) aI)
   (aa (bq (Jq (fv (cH (aE (bu (K:=K) rfl) (by rfl) h_isinstance DC (a5 (pv 1) (a5 (dA (v:=.ty "list") (by rfl) h_list Jh rfl) ae)))) (eF (fN (cH (aE (bu (K:=K) rfl) (by rfl) h_isinstance DC (a5 (pv 0) (a5 (dA (v:=.ty "list") (by rfl) h_list Jh rfl) ae)))))))) (af<|au dW) aI)
   (aa (bq (Jq (fv (cH (aE (bu (K:=K) rfl) (by rfl) h_isinstance DC (a5 (pv 1) (a5 (dA (v:=.ty "tuple") (by rfl) h_tuple GZ rfl) ae)))) (eF (fN (cH (aE (bu (K:=K) rfl) (by rfl) h_isinstance DC (a5 (pv 0) (a5 (dA (v:=.ty "tuple") (by rfl) h_tuple GZ rfl) ae)))))))) (af<|au dW) aI)
   (aa (bq (ax jF (aE (bN (K:=K) rfl) (by rfl) h_len EB<|a5 (pv 0) ae) (aE (bN (K:=K) rfl) (by rfl) h_len EB<|a5 (pv 1) ae)<|ay _) (af<|au dW) aI)
   (aa (cM DN rfl (fS (K:=K) rfl rfl h_zip<|a5 (pv 0)<|a5 (pv 1) ae) (bD (K:=K) (n:=2) rfl rfl (ak (bj (i:=2) SC.nd rfl (by walk_at "L")) (ak (bj (i:=3) SC.nd rfl (by walk_at "L")) bC))) (af (bq (fN (cH (ui Z0T hr (by rfl)<|a5 (pv 2)<|a5 (pv 3) ae))) (af<|au dW) aI)))
   (af (au dW))))))))),?_⟩
  rcases h with⟨he,q⟩|⟨x,y,rfl,rfl,q⟩
  rotate_left
  ·refine gO (fun Q q=>?_)<|gO (fun Q q=>?_)<|oN (fun Q q=>?_) ?_;·walk_at "S0";exact q
   ·walk_at "S0";exact⟨_,.str _,_,lq "str" "int" false rfl,q⟩
   ·walk_at "S0";exact⟨_,.str _,_,lq "str" "str" true rfl,q⟩
   ·walk_at "S0";refine⟨_,.str _,_,lq "str" "str" true rfl,?_⟩;walk_at "S0";simpa using q
  have fl:∀v,L2.flat v=true->(∀H',Same H H'->Q (.bl true) H')->(v=.non\/(∃b,v=.bl b)\/(∃i,v=.int i)\/∃x,v=.str x):=fun v hv _=>by
   cases v with
   |non=>exact .inl rfl
   |bl b=>exact .inr<|.inl ⟨b,rfl⟩
   |int b=>exact .inr<|.inr<|.inl ⟨b,rfl⟩
   |str b=>exact .inr<|.inr<|.inr ⟨b,rfl⟩
   |_=>cases hv
  have he':(v=u/\L2.flat v=true)\/∃m p q xs ys,n=m+1/\v=.ref p/\u=.ref q/\((H p=some (.lst xs)/\H q=some (.lst ys))\/(SqT K H p xs/\SqT K H q ys))/\xs.length=ys.length/\∀(i:Nat)(x y:V),xs[i]? =some x->ys[i]? =some y->EqK K H m x y:=by
   cases n with
   |zero=>exact .inl he
   |succ m=>rcases he with z|⟨p,q,xs,ys,z⟩;exact .inl z;exact .inr ⟨m,p,q,xs,ys,rfl,z⟩
  rcases he' with⟨rfl,hf⟩|⟨m,p,q',xs,ys,hnm,rfl,rfl,hk,hl,hi⟩
  ·rcases fl v hf q with rfl | ⟨b,rfl⟩ | ⟨i,rfl⟩ | ⟨x,rfl⟩
   ·refine oN (fun Q q=>?_) ?_;·walk_at "S0";exact q
    ·walk_at "S0";refine⟨_,.non,_,lq "NoneType" "bool" false rfl,_,.non,_,lq "NoneType" "bool" false rfl,?_⟩;walk_at "S0";exact q H<|.refl H
   ·refine oN (fun Q q=>?_) ?_;·cases b<;>walk_at "S0"<;>exact q
    ·walk_at "S0";refine⟨_,.bl _,_,lq "bool" "bool" true rfl,_,.bl _,_,lq "bool" "bool" true rfl,?_⟩;walk_at "S0";exact q H<|.refl H
   ·refine gO (fun Q q=>?_)<|oN (fun Q q=>?_) ?_;·walk_at "S0";exact q
    ·walk_at "S0";exact⟨_,.int _,_,lq "int" "int" true rfl,q⟩
    ·walk_at "S0";refine⟨_,.int _,_,lq "int" "int" true rfl,?_⟩;walk_at "S0";refine⟨_,.int _,_,lq "int" "bool" false rfl,?_⟩;walk_at "S0";exact q H<|.refl H
   ·refine gO (fun Q q=>?_)<|gO (fun Q q=>?_)<|oN (fun Q q=>?_) ?_;·walk_at "S0";exact q
    ·walk_at "S0";exact⟨_,.str _,_,lq "str" "int" false rfl,q⟩
    ·walk_at "S0";exact⟨_,.str _,_,lq "str" "str" true rfl,q⟩
    ·walk_at "S0";refine⟨_,.str _,_,lq "str" "str" true rfl,?_⟩;walk_at "S0";exact q H<|.refl H
  ·subst hnm;obtain⟨T,tp1,tp2,tl,src1,src2,h1,h2,e1,e2⟩:∃(T:String)(tp1:TyOf K H (.ref p) (.type T))(tp2:TyOf K H (.ref q') (.type T))(tl:(T="list"/\SqL K H p xs/\SqL K H q' ys)\/(T="tuple"/\SqT K H p xs/\SqT K H q' ys))(src1 src2:Src),(∀H',Same H H'->src1.has K H' xs)/\(∀H',Same H H'->src2.has K H' ys)/\src1.val=.ref p/\src2.val=.ref q':=by
    rcases hk with⟨a,b⟩|⟨a,b⟩
    ·exact⟨"list",.lst a,.lst b,.inl ⟨rfl,Fv a,Fv b⟩,.lst p,.lst q',fun H' e=>Fv<|e _ _ a,fun H' e=>Fv<|e _ _ b,rfl,rfl⟩
    ·exact⟨"tuple",.tup a,.tup b,.inr ⟨rfl,a,b⟩,.tup p,.tup q',fun H' e=>EZ e a,fun H' e=>EZ e b,rfl,rfl⟩
   have hi0:Fo K (.type T) (.type "int")=some false:=by rcases tl with⟨rfl,_⟩|⟨rfl,_⟩;exact lq _ _ _ rfl;exact lq _ _ _ rfl
   have hs0:Fo K (.type T) (.type "str")=some false:=by rcases tl with⟨rfl,_⟩|⟨rfl,_⟩;exact lq _ _ _ rfl;exact lq _ _ _ rfl
   obtain⟨bl,hl0,hl1⟩:∃bl,Fo K (.type T) (.type "list")=some bl/\Fo K (.type T) (.type "tuple")=some (!bl):=by rcases tl with⟨rfl,_⟩|⟨rfl,_⟩;exact⟨true,lq _ _ _ rfl,lq _ _ _ rfl⟩;exact⟨false,lq _ _ _ rfl,lq _ _ _ rfl⟩
   have ln1:pj K (.ref p) H xs.length:=by rcases tl with⟨_,t1,_⟩|⟨_,t1,_⟩;exact .inl ⟨_,t1,rfl⟩;exact .inr ⟨_,t1,rfl⟩
   have ln2:pj K (.ref q') H ys.length:=by rcases tl with⟨_,_,t2⟩|⟨_,_,t2⟩;exact .inl ⟨_,t2,rfl⟩;exact .inr ⟨_,t2,rfl⟩
   refine gO (fun Q q=>?_)<|gO (fun Q q=>?_)<|gO (fun Q q=>?_)<|gO (fun Q q=>?_)<|gO (fun Q q=>?_)<|gO (fun Q q=>?_) ?_;·walk_at "S0";exact q
   ·walk_at "S0";exact⟨_,tp2,_,hi0,q⟩
   ·walk_at "S0";exact⟨_,tp2,_,hs0,q⟩
   ·walk_at "S0";refine⟨_,tp2,_,hl0,?_⟩;cases bl with
    |false=>exact q
    |true=>walk_at "S0";exact⟨_,tp1,_,hl0,q⟩
   ·walk_at "S0";refine⟨_,tp2,_,hl1,?_⟩;cases bl with
    |true=>exact q
    |false=>walk_at "S0";exact⟨_,tp1,_,hl1,q⟩
   ·walk_at "S0";refine⟨_,ln1,_,ln2,?_⟩;simp only[hl,cD,bF,dw,bQ,tC,eR,ao,aU,cz,aD,bR,aR,cu,bg,cA,tB,fP,rU,fe,rI,cB,cv,aT,bA,gk,cI,gj,cJ,bE,cK,bI,fQ,bB,aJ,fj,gi,gd,gf,cN,cw,cC,cO,aF,aP,L2.start,Ds,Gb,Hu,GP,EN,Fh,HR,Fp,GW,Ik,F4,EH,II,exists_eq_left',exists_eq_left,exists_and_left,exists_eq',exists_const,G6.injEq,MS.injEq,Ho.injEq,V.ref.injEq,V.ty.injEq,Jp,and_true,true_and,reduceCtorEq,false_and,and_false,exists_false,or_false,false_or,decide_eq_true_eq,IJ,decide_eq_false_iff_not,if_true,if_false,DA,ite_true,ite_false,GJ,JR,K2,K3,and_assoc];exact q
   ·walk_at "S1";refine⟨_,rfl,_,rfl,src1,src2,xs,ys,by rw[e1,e2],h1 H<|.refl H,h2 H<|.refl H,wK (fun i σ H2=>Same H H2/\∃a b,σ=[some (.ref p),some<|.ref q',a,b]) ⟨.refl H,none,none,rfl⟩ (fun i σ H2⟨e,_⟩=>⟨h1 H2 e,h2 H2 e⟩) hl ?_ ?_⟩
    ·rintro i x y r σ H2 hx hy hr' ⟨e,a,b,rfl⟩;walk_at "S1";refine⟨_,KW aH,rfl,?_⟩;walk_at "S1";refine⟨x,y,rfl,.inl ⟨(hi i x y hx hy).same (e.trans<|cR hr'),fun H3 e3=>?_⟩⟩;walk_at "S1";exact e.trans<|(cR hr').trans e3
    ·rintro σ H2 ⟨e,a,b,rfl⟩;walk_at "S1";exact q H2 e
def rF(K:CT):Sp:=fun vs H Q _=>∃(a:Addr)(ns:List Int),vs=[.ref a]/\SqL K H a (ns.map G6)/\ns.length<=63/\∀H',Q (.bl true) H'
end
end Wb
namespace Mi
theorem je{s:List Int}(hs:s.length<=63)(k:Nat)(hk:k<=200):∃n,ir s (k:Int)=.ok n:=by
 unfold ir AW;by_cases h:(k:Int)<(s.length:Int)
 ·rw[if_pos (by simpa using h)];obtain⟨x,e,_⟩:=ju (xs:=s) (i:=(k:Int)) (by omega) h;exact⟨x,e⟩
 ·rw[if_neg (by simpa using h),uT (by omega) (by omega)];exact⟨_,rfl⟩
theorem zu(c b:Int)(hb:1<=b)(hb2:b<1073741824)(k:Nat)(s:Int×Int×List Int)(h1:0<=s.2.1)(hl:s.2.2.length<100000):∃s':Int×Int×List Int,zM c b (k:Int) s=.ok s'/\0<=s'.2.1/\∃v,0<=v/\v<b/\s'.2.2=s.2.2++[v]:=by
 unfold zM;have hm0:=E6 (s.1*48271+7919+(k:Int)) (show(2147483647:Int)≠0 by decide);have hm1:=DO (s.1*48271+7919+(k:Int)) (show(0:Int)<2147483647 by decide);generalize (s.1*48271+7919+(k:Int))%2147483647=mx at*
 have other:∀z:Int,0<=z%b/\z%b<b:=fun z=>⟨E6 _ (by omega),DO _ (by omega)⟩
 have A:∀z:Int,iw s.2.2 z=.ok (s.2.2++[z]):=fun z=>fX hl;have e2:((((jS mx mx).bind fun y63=>CW<|y63%1000003).bind fun y64=>jU y64 b).bind fun y69=>iw s.2.2 y69)=.ok (s.2.2++[mx*mx%1000003%b]):=by
  rw[ku (by omega) (by omega)];simp only[CP];rw[gY (by omega)];exact A _
 have e1:((jU s.2.1 b).bind fun y56=>iw s.2.2 y56)=.ok (s.2.2++[s.2.1%b]):=by rw[gY (by omega)];exact A _
 by_cases hf:(1000000000000000000:Int)<=dX c
 ·rw[decide_eq_true hf];by_cases hp:0<s.2.1
  ·rw[decide_eq_true hp];simp only[if_true,CP,e1,nW (show 0<b by omega) hb2];exact⟨_,rfl,Int.ediv_nonneg h1 (by omega),_,(other _).1,(other _).2,rfl⟩
  ·rw[decide_eq_false hp];simp only[if_true,CP,DA,if_false,e2];exact⟨_,rfl,h1,_,(other _).1,(other _).2,rfl⟩
 ·rw[decide_eq_false hf];simp only[CP,DA,if_false,e2];exact⟨_,rfl,h1,_,(other _).1,(other _).2,rfl⟩
theorem n6(c:Int)(n:Nat)(b:Int)(hn:n<=1000)(hb:1<=b)(hb2:b<1073741824):∃ns,iO c (n:Int) b=.ok ns/\ns.length=n/\∀x∈ns,0<=x/\x<b:=by
 unfold iO AX;rw[sJ (by omega),CP];obtain⟨s,e,h0,hl,hb⟩:=dB (f:=zM c b) (fun pre(s:Int×Int×List Int)=>0<=s.2.1/\s.2.2.length=pre.length/\∀x∈s.2.2,0<=x/\x<b) ((Ed n).map fun(i:Nat)=>(i:Int)) ((dX c)%2147483647,dX c,[]) ⟨wY c,rfl,by simp⟩ (by
  intro pre a post s e ⟨h0,hl,hb'⟩;have hlen:pre.length<n:=by have:=congrArg FA e;simp at this;omega
  obtain⟨k,rfl⟩:∃k:Nat,a=(k:Int):=by
   have:a∈(Ed n).map fun(i:Nat)=>(i:Int):=by rw[e];simp
   obtain⟨k,_,hk⟩:=DQ.mp this;exact⟨k,hk.symm⟩
  obtain⟨s',e',h0',v,v0,v1,ev⟩:=zu c b hb hb2 k s h0 (by omega);refine⟨s',e',h0',by rw[ev];simp[hl],fun x hx=>?_⟩;rw[ev]at hx;rcases DY.mp hx with z|z;·exact hb' x z
  ·rw[Gh.mp z];exact⟨v0,v1⟩)
 rw[e];exact⟨_,rfl,by rw[hl];simp,hb⟩
def isTurn(c:Nat):Prop:=c=102\/c=98\/c=105
instance zkeep71(c:Nat):Decidable (isTurn c):=by unfold isTurn;infer_instance
def dv(t:Tx):Prop:=∀c∈t,isTurn c
structure Card(t:Cd):Prop where
 lay:t.1=[83]\/t.1=[90]
 four:t.2.1.length=4
 col:∀c∈t.2.1,97<=c/\c<=122
 low:0<=t.2.2
 high:t.2.2<4
theorem vV(sz:Int)(ds:List Int)(hsz:1<=sz)(hd:ds.length=5)(a:Int)(t:Tx)(ht:t.length<1000):∃c,97<=c/\c<=122/\zN sz ds a t=.ok (t++[c]):=by
 unfold zN;obtain⟨x,e,_⟩:=ju (xs:=ds) (i:=4) (by decide) (by rw[hd];decide);rw[e];simp only[CP,gY (show 0<sz by omega)];have h0:=E6 (x+a%sz*7) (show(26:Int)≠0 by decide);have h1:=DO (x+a%sz*7) (show(0:Int)<26 by decide);generalize (x+a%sz*7)%26=r at h0 h1;obtain⟨c,e2,h2⟩:=fY (x:=([97,98,99,100,101,102,103,104,105,106,107,108,109,110,111,112,113,114,115,116,117,118,119,120,121,122]:Tx)) (i:=r) h0 (by simp;omega) (by decide);rw[e2];simp only[CP,jt (show t.length+[c].length<=100000 by simp;omega)];have hc:c∈([97,98,99,100,101,102,103,104,105,106,107,108,109,110,111,112,113,114,115,116,117,118,119,120,121,122]:Tx):=Dz h2;have:∀c∈([97,98,99,100,101,102,103,104,105,106,107,108,109,110,111,112,113,114,115,116,117,118,119,120,121,122]:Tx),97<=c/\c<=122:=by decide
 exact⟨c,(this c hc).1,(this c hc).2,rfl⟩
theorem vW(c:Int):∃t,xq c=.ok t/\t.length=4/\∀x∈t,97<=x/\x<=122:=by
 unfold xq AY;have h0:=E6 c (show(5:Int)≠0 by decide);have h1:=DO c (show(0:Int)<5 by decide);obtain⟨sz,e,h2⟩:=ju (xs:=[(1:Int),2,3,4,26]) (i:=c%5) h0 (by simp;omega);have hsz:1<=sz:=by
  have:∀x∈[(1:Int),2,3,4,26],1<=x:=by decide
  exact this sz<|Dz h2
 rw[e,CP];obtain⟨ds,e2,hd,_⟩:=n6 (c/5) 5 26 (by decide) (by decide) (by decide);rw[show iO (c/5) 5 26=CW ds from e2,CP,show cut ds none (some 4)=ds.take 4 from o6 ds 4];obtain⟨t,e3,h3,h4⟩:=dB (f:=zN sz ds) (fun pre t=>t.length=pre.length/\∀x∈t,97<=x/\x<=122) (ds.take 4) [] ⟨rfl,by simp⟩ (by
  intro pre a post t e ⟨hl,hb⟩;have hlen:pre.length<5:=by have:=congrArg FA e;simp at this;omega
  obtain⟨c,c0,c1,ec⟩:=vV sz ds hsz hd a t (by omega);refine⟨_,ec,by simp[hl],fun x hx=>?_⟩;rcases DY.mp hx with z|z;·exact hb x z
  ·rw[Gh.mp z];exact⟨c0,c1⟩)
 rw[e3];exact⟨t,rfl,by rw[h3,Hr];omega,h4⟩
theorem rG(c:Int):∃t,wq c=.ok t/\Card t:=by
 unfold wq AZ;have h0:=E6 c (show(2:Int)≠0 by decide);have h1:=DO c (show(0:Int)<2 by decide);obtain⟨y,e,h2⟩:=fY (x:=([83,90]:Tx)) (i:=c%2) h0 (by simp;omega) (by decide);obtain⟨t,e2,hl,hb⟩:=vW<|c/8;rw[e,CP,e2,CP];refine⟨_,rfl,?_,hl,hb,E6 _ (by decide),DO _ (by decide)⟩;have:y=83\/y=90:=by simpa using Dz h2
 rcases this with rfl|rfl;·exact .inl rfl
 ·exact .inr rfl
theorem vX(d:Int)(h0:0<=d)(h1:d<3):∃c,fD ([102,98,105]:Tx) d=.ok [c]/\isTurn c:=by
 obtain⟨c,e,h⟩:=fY (x:=([102,98,105]:Tx)) (i:=d) h0 (by simp;omega) (by decide);refine⟨c,e,?_⟩;have:=Dz h;simpa [isTurn] using this
theorem vY(c:Int)(n:Nat)(hn:n<=1000):∃t,xr c (n:Int)=.ok t/\t.length=n/\dv t:=by
 unfold xr B0;by_cases h:c%7=3
 ·rw[if_pos (by simpa using h)];obtain⟨y,e,hy⟩:=vX (c/7%3) (E6 _ (by decide)) (DO _ (by decide));rw[e,CP,wW (by omega) (by omega)];refine⟨_,rfl,by simp,fun x hx=>?_⟩;rw[List.eq_of_mem_replicate hx];exact hy
 ·rw[if_neg (by simpa using h)];obtain⟨ds,e,hl,hb⟩:=n6 (c/7) n 3 hn (by decide) (by decide);rw[e,CP];have key:∃t:List Nat,fk ds (fun(a9:Int)=>fD ([102,98,105]:Tx) a9)=.ok (t.map fun c=>[c])/\t.length=n/\dv t:=by
   have:∀d∈ds,∃c:Nat,fD ([102,98,105]:Tx) d=.ok [c]/\isTurn c:=fun d hd=>vX d (hb d hd).1 (hb d hd).2;have hf:∀d∈ds,fD ([102,98,105]:Tx) d=.ok ((fun d=>[if d=0 then 102 else if d=1 then 98 else 105]) d):=fun d hd=>by
    have h1:=hb d hd;have:d=0\/d=1\/d=2:=by omega
    rcases this with rfl|rfl|rfl<;>rfl
   rw[eW (by show ds.length<=100000;omega) hf];refine⟨ds.map fun d=>if d=0 then 102 else if d=1 then 98 else 105,by simp,by simp[hl],fun x hx=>?_⟩;obtain⟨d,_,rfl⟩:=DQ.mp hx;unfold isTurn;split;·exact .inl rfl
   ·split;·exact .inr<|.inl rfl
    ·exact .inr<|.inr rfl
  obtain⟨t,e2,hl2,ht⟩:=key;rw[e2,CP,nX (by rw[qY];omega),qY];exact⟨t,rfl,hl2,ht⟩
def go(c:Nat):Int:=if c=102 then 1 else if c=98 then -1 else 0
def tw(t:Cd)(c:Nat):Int:=if t.1=[83]then go c else -go c
def cY(t:Cd)(i:Int):Nat:=t.2.1[i.toNat]?.getD 0
def oO(i:Int):Nat:=if i=1 then 115 else if i= -1 then 122 else 111
def behind(t:Cd)(c:Nat):Cd:=(t.1,t.2.1,(t.2.2+go c)%4)
def place(t:Cd)(c:Nat):Pl:=([cY t t.2.2],[cY t ((t.2.2+2)%4)],[oO (tw t c)])
theorem AM(c:Nat): -1<=go c/\go c<=1:=by unfold go;split;omega;split<;>omega
theorem yu(t:Cd)(c:Nat): -1<=tw t c/\tw t c<=1:=by have:=AM c;unfold tw;split<;>omega
theorem Card.behind{t:Cd}(h:Card t)(c:Nat):Card (behind t c):=⟨h.lay,h.four,h.col,E6 _ (by decide),DO _ (by decide)⟩
theorem yv{c:Nat}(h:isTurn c):p8 [c]=.ok (go c):=by
 unfold p8 B6;rcases h with rfl|rfl|rfl<;>rfl
theorem lU{t:Cd}{c:Nat}(h:isTurn c):jA t [c]=.ok (behind t c):=by
 unfold jA B7;rw[yv h];rfl
theorem oP{t:Cd}{c:Nat}(h:isTurn c):jn t [c]=.ok (tw t c):=by
 unfold jn B8;rw[yv h];by_cases z:t.1=[83]
 ·rw[if_pos (by simpa using z)];unfold tw;rw[if_pos z]
 ·rw[if_neg (by simpa using z)];unfold tw;rw[if_neg z];simp only[CP];congr 1;omega
theorem eJ{t:Cd}(h:Card t){i:Int}(h0:0<=i)(h1:i<4):fD t.2.1 i=.ok [cY t i]:=zc h0 (by rw[h.four];exact h1) (by rw[h.four];decide)
theorem eg(i:Int):0<=i%4/\i%4<4:=⟨E6 _ (by decide),DO _ (by decide)⟩
theorem zw{i:Int}(h: -1<=i/\i<=1):fD ([122,111,115]:Tx) (i+1)=.ok [oO i]:=by
 have:i= -1\/i=0\/i=1:=by omega
 rcases this with rfl|rfl|rfl<;>rfl
def dO:Cd->Tx->List Pl
 |_,[]=>[]
 |t,c::r=>place (behind t c) c::dO (behind t c) r
def ends:Cd->Tx->Cd
 |t,[]=>t
 |t,c::r=>ends (behind t c) r
theorem qi(t:Cd)(x:Tx):(dO t x).length=x.length:=by
 induction x generalizing t with
 |nil=>rfl
 |cons c r ih=>simp[dO,ih]
theorem vZ(x:Tx):∀(t:Cd)(c:Nat),ends t (x++[c])=behind (ends t x) c:=by
 induction x with
 |nil=>intro t c;rfl
 |cons d r ih=>intro t c;simp[ends,ih]
theorem Card.ends{t:Cd}(h:Card t)(x:Tx):Card (ends t x):=by
 induction x generalizing t with
 |nil=>exact h
 |cons c r ih=>exact ih<|h.behind c
theorem tD{t:Cd}(h:Card t){c:Nat}(hc:isTurn c){out:List Pl}(ho:out.length<100000):zO jA jn [c] (t,out)=.ok (behind t c,out++[place (behind t c) c]):=by
 unfold zO;have hb:=h.behind c;simp only[lU hc,CP,oP hc,zw<|yu _ _,eJ hb hb.low hb.high,eJ hb (eg _).1 (eg _).2];rw[fX ho];rfl
theorem lV{t:Cd}(h:Card t){x:Tx}(hx:dv x)(hl:x.length<=10000):qb t x=.ok (dO t x):=by
 unfold qb B9;have key:∀(x:Tx)(t:Cd)(out:List Pl),Card t->dv x->out.length+x.length<=10000->bL (zO jA jn) (bb x) (t,out)=.ok (ends t x,out++dO t x):=by
  intro x
  induction x with
  |nil=>intro t out _ _ _;simp[bb,bL,ends,dO]
  |cons c r ih=>
   intro t out h hx hl;simp only[Fh]at hl;show bL _ ([c]::bb r) _=_;unfold bL;rw[tD h (hx c (by simp)) (by omega),CP,ih _ _ (h.behind c) (fun d hd=>hx d (by simp[hd])) (by simp;omega)];simp[ends,dO]
 rw[key x t [] h hx (by simpa using hl)];simp
def isCol(c:Nat):Prop:=97<=c/\c<=122
def isSl(c:Nat):Prop:=c=115\/c=122\/c=111
structure Mark(m:Pl):Prop where
 a:∃c,m.1=[c]/\(isCol c\/c=63)
 b:∃c,m.2.1=[c]/\(isCol c\/c=63)
 s:∃c,m.2.2=[c]/\(isSl c\/c=63)
structure Whole(m:Pl):Prop where
 a:∃c,m.1=[c]/\isCol c
 b:∃c,m.2.1=[c]/\isCol c
 s:∃c,m.2.2=[c]/\isSl c
theorem Whole.mark{m:Pl}(h:Whole m):Mark m:=by
 obtain⟨⟨a,h1,h2⟩,⟨b,h3,h4⟩,⟨s,h5,h6⟩⟩:=h;exact⟨⟨a,h1,.inl h2⟩,⟨b,h3,.inl h4⟩,⟨s,h5,.inl h6⟩⟩
theorem oQ{t:Cd}(h:Card t){i:Int}(h0:0<=i)(h1:i<4):isCol (cY t i):=by
 unfold cY;have:i.toNat<t.2.1.length:=by rw[h.four];omega
 simp only[CZ this,Hs];exact h.col _<|FD this
theorem w4(i:Int):isSl (oO i):=by unfold oO isSl;split;exact .inl rfl;split;exact .inr<|.inl rfl;exact .inr<|.inr rfl
theorem oR{t:Cd}(h:Card t)(c:Nat):Whole (place t c):=⟨⟨_,rfl,oQ h h.low h.high⟩,⟨_,rfl,oQ h (eg _).1 (eg _).2⟩,⟨_,rfl,w4 _⟩⟩
theorem n9{t:Cd}(h:Card t)(x:Tx):∀m∈dO t x,Whole m:=by
 induction x generalizing t with
 |nil=>intro m hm;simp[dO]at hm
 |cons c r ih=>
  intro m hm;rcases Dh.mp hm with rfl|hm
  ·exact oR (h.behind c) c
  ·exact ih (h.behind c) m hm
theorem oS{c:Nat}(h:isCol c):∃j d,isCol d/\ix ([97,98,99,100,101,102,103,104,105,106,107,108,109,110,111,112,113,114,115,116,117,118,119,120,121,122,97]:Tx) [c]=.ok j/\fD ([97,98,99,100,101,102,103,104,105,106,107,108,109,110,111,112,113,114,115,116,117,118,119,120,121,122,97]:Tx) (j+1)=.ok [d]:=by
 have key:∀k:Fin 26,(match ix ([97,98,99,100,101,102,103,104,105,106,107,108,109,110,111,112,113,114,115,116,117,118,119,120,121,122,97]:Tx) [97+k.1]with| .ok j=>(match fD ([97,98,99,100,101,102,103,104,105,106,107,108,109,110,111,112,113,114,115,116,117,118,119,120,121,122,97]:Tx) (j+1)with| .ok [d]=>decide (97<=d/\d<=122)|_=>false)|_=>false)=true:=by decide
 obtain⟨k,rfl⟩:∃k:Fin 26,c=97+k.1:=⟨⟨c-97,by have:=h.1;have:=h.2;omega⟩,by have:=h.1;show c=97+(c-97);omega⟩
 have:=key k;split at this
 ·rename_i j e;split at this
  ·rename_i d e2;exact⟨j,d,by simpa [isCol] using this,e,e2⟩
  ·cases this
 ·cases this
theorem xI{c:Nat}(h:isSl c):∃j d,isSl d/\ix ([115,122,111]:Tx) [c]=.ok j/\fD ([122,111,115]:Tx) j=.ok [d]:=by
 rcases h with rfl|rfl|rfl;·exact⟨0,122,.inr<|.inl rfl,rfl,rfl⟩
 ·exact⟨1,111,.inr<|.inr rfl,rfl,rfl⟩
 ·exact⟨2,115,.inl rfl,rfl,rfl⟩
def xJ(l:List Tx):Prop:=∃a b c,l=[[a],[b],[c]]/\isCol a/\isCol b/\isSl c
theorem w5(cell:Int){p:Pl}(hp:Whole p){d:Int}(h0:0<=d)(h1:d<64){out:List Pl}(ho:out.length<1000):(zQ cell (p,d) out).Ok fun r=>∃m,Mark m/\r=out++[m]:=by
 unfold zQ;obtain⟨⟨a,ea,ha⟩,⟨b,eb,hb⟩,⟨s,es,hs⟩⟩:=hp;simp only[ea,eb,es];refine lg (Fi (P:=fun d'=>0<=d'/\d'<64) (p7 (fun _=>hW ⟨by omega,by omega⟩) fun _=>hW ⟨h0,h1⟩) fun d1 hd1=>?_);refine lg (Fi (P:=fun d'=>0<=d'/\d'<64) (p7 (fun _=>hW ⟨by omega,by omega⟩) fun _=>hW hd1) fun d2 hd2=>?_);have hm0:=E6 d2 (show(3:Int)≠0 by decide);have hm1:=DO d2 (show(0:Int)<3 by decide);have step1:((if(decide<|(56:Int)<=d2)then CW (decide<|(d2%3)<(2:Int))else CW false).bind fun y90=>(if y90 then(((((fA [[a],[b],[s]]<|d2%3).bind fun y101=>ix ([97,98,99,100,101,102,103,104,105,106,107,108,109,110,111,112,113,114,115,116,117,118,119,120,121,122,97]:Tx) y101).bind fun y102=>CW<|y102+(1:Int)).bind fun y103=>fD ([97,98,99,100,101,102,103,104,105,106,107,108,109,110,111,112,113,114,115,116,117,118,119,120,121,122,97]:Tx) y103).bind fun y107=>jV [[a],[b],[s]] (d2%3) y107).bind fun y108=>CW y108 else CW [[a],[b],[s]]:Res (List Tx))).Ok xJ:=by
  have dflt:xJ [[a],[b],[s]]:=⟨a,b,s,rfl,ha,hb,hs⟩
  refine lg<|p7 (fun _=>hW ?_) fun _=>hW dflt;refine p7 (fun h2=>?_) fun _=>hW dflt;generalize d2%3=r at*
  have:r=0\/r=1:=by omega
  rcases this with rfl|rfl
  ·obtain⟨j,d,hd,e1,e2⟩:=oS ha;simp only[show fA [[a],[b],[s]] 0=CW [a]from rfl,CP,e1,e2,show jV [[a],[b],[s]] 0 [d]=CW [[d],[b],[s]]from rfl];exact hW ⟨d,b,s,rfl,hd,hb,hs⟩
  ·obtain⟨j,d,hd,e1,e2⟩:=oS hb;simp only[show fA [[a],[b],[s]] 1=CW [b]from rfl,CP,e1,e2,show jV [[a],[b],[s]] 1 [d]=CW [[a],[d],[s]]from rfl];exact hW ⟨a,d,s,rfl,ha,hd,hs⟩
 refine lg<|step1.imp fun l1 ht=>?_;obtain⟨a,b,s,rfl,ha,hb,hs⟩:=ht;have step2:((if(decide<|(56:Int)<=d2)then CW (decide<|(d2%3)=(2:Int))else CW false).bind fun y120=>(if y120 then((((fA [[a],[b],[s]] (2:Int)).bind fun y127=>ix ([115,122,111]:Tx) y127).bind fun y128=>fD ([122,111,115]:Tx) y128).bind fun y132=>jV [[a],[b],[s]] (2:Int) y132).bind fun y133=>CW y133 else CW [[a],[b],[s]]:Res (List Tx))).Ok xJ:=by
  have dflt:xJ [[a],[b],[s]]:=⟨a,b,s,rfl,ha,hb,hs⟩
  refine lg<|p7 (fun _=>hW ?_) fun _=>hW dflt;refine p7 (fun h2=>?_) fun _=>hW dflt;obtain⟨j,d,hd,e1,e2⟩:=xI hs;simp only[show fA [[a],[b],[s]] 2=CW [s]from rfl,CP,e1,e2,show jV [[a],[b],[s]] 2 [d]=CW [[a],[b],[d]]from rfl];exact hW ⟨a,b,d,rfl,ha,hb,hd⟩
 refine lg<|step2.imp fun l2 ht=>?_;obtain⟨a,b,s,rfl,ha,hb,hs⟩:=ht;have cell1:∀(x:Nat)(k:Int),0<k->k<10->∃y,((((jT d2 k).bind fun y158=>CW<|y158%2).bind fun y159=>CW<|decide<|y159=(1:Int)).bind fun y160=>if y160 then CW [x]else CW ([63]:Tx))=.ok [y]/\(y=x\/y=63):=fun x k k0 k1=>by
  rw[nW k0 (by omega)];simp only[CP];by_cases h:d2/k%2=1;·rw[if_pos (by simpa using h)];exact⟨x,rfl,.inl rfl⟩
  ·rw[if_neg (by simpa using h)];exact⟨63,rfl,.inr rfl⟩
 obtain⟨x,ex,hx⟩:=cell1 a 1 (by decide) (by decide);obtain⟨y,ey,hy⟩:=cell1 b 2 (by decide) (by decide);obtain⟨z,ez,hz⟩:=cell1 s 4 (by decide) (by decide);have ec:fk ([[a],[b],[s]].zip [(1:Int),2,4]) (fun(a149:Tx×Int)=>(((jT d2 a149.2).bind fun y158=>CW<|y158%2).bind fun y159=>CW<|decide<|y159=(1:Int)).bind fun y160=>if y160 then CW a149.1 else CW ([63]:Tx))=.ok [[x],[y],[z]]:=by
  unfold fk;rw[bK (show([[a],[b],[s]].zip [(1:Int),2,4]).length<=cap from(by show 3<=100000;decide)),CP];show jW _ [([a],(1:Int)),([b],2),([s],4)]=_;simp only[jW,ex,ey,ez,CP]
 simp only[ec,CP,z7,fX (show out.length<100000 by omega)];refine⟨_,⟨⟨x,rfl,?_⟩,⟨y,rfl,?_⟩,⟨z,rfl,?_⟩⟩,rfl⟩
 ·rcases hx with rfl | rfl;·exact .inl ha
  ·exact .inr rfl
 ·rcases hy with rfl | rfl;·exact .inl hb
  ·exact .inr rfl
 ·rcases hz with rfl | rfl;·exact .inl hs
  ·exact .inr rfl
def Marks(n:Nat)(l:List Pl):Prop:=l.length=n/\∀m∈l,Mark m
theorem jB{α β:Type}{xs:List α}{ys:List β}{p:α×β}(h:p∈xs.zip ys):p.1∈xs/\p.2∈ys:=⟨(Gj h).1,(Gj h).2⟩
theorem w6{ps:List Pl}(hp:∀p∈ps,Whole p)(hl:ps.length<=900)(cell:Int)(lies:Bool):(xu ps cell lies).Ok (Marks ps.length):=by
 unfold xu Bb;have e0:∃b:Int,((jS (8:Int) (if lies then(1:Int)else 0)).bind fun y9=>CW<|(56:Int)+y9)=.ok b/\56<=b/\b<=64:=by
  cases lies;·exact⟨56,rfl,by decide,by decide⟩
  ·exact⟨64,rfl,by decide,by decide⟩
 obtain⟨b,eb,hb0,hb1⟩:=e0;rw[eb,CP];obtain⟨ns,en,hn,hns⟩:=n6 (cell/5) ps.length b (by omega) (by omega) (by omega);rw[en,CP];obtain⟨r,er,hr⟩:=dB (f:=zQ cell) (fun pre r=>Marks pre.length r) (ps.zip ns) [] ⟨rfl,by simp⟩ (by
  intro pre a post s e ⟨h1,h2⟩;have ha:a∈ps.zip ns:=by rw[e];simp
  have hlen:pre.length<900:=by have:=congrArg FA e;simp[FN,hn]at this;omega
  obtain⟨r,er,m,hm,rfl⟩:=(w5 cell (hp _ (jB ha).1) (hns _ (jB ha).2).1 (by have:=(hns _ (jB ha).2).2;omega) (out:=s) (by omega)).ex;refine⟨_,er,by simp[h1],fun x hx=>?_⟩;rcases DY.mp hx with z|z;·exact h2 x z
  ·rw[Gh.mp z];exact hm)
 rw[er];refine⟨by rw[hr.1,FN,hn];omega,hr.2⟩
theorem Marks.get{n:Nat}{l:List Pl}(h:Marks n l){i:Int}(h0:0<=i)(h1:i<n):∃m,fA l i=.ok m/\Mark m:=by
 obtain⟨m,e,g⟩:=ju (xs:=l) h0 (by rw[h.1];exact h1);exact⟨m,e,h.2 m<|Dz g⟩
theorem tE{p:Pl}(h:Mark p):Mark ([63],p.2.1,[63]):=⟨⟨63,rfl,.inr rfl⟩,h.b,⟨63,rfl,.inr rfl⟩⟩
theorem xK{p:Pl}(hp:Mark p){d k:Int}{out:List Pl}(ho:out.length<1000):(zP (p,d) (k,out)).Ok fun r=>∃m,Mark m/\r.2=out++[m]:=by
 unfold zP;refine lg<|Fi (P:=fun r:Int×Pl=>Mark r.2) (lg<|Fi (P:=fun _=>True) (p7 (fun _=>hW trivial) fun _=>hW trivial) fun b _=>C3 (fun _=>hW<|tE hp) fun _=>hW hp) fun r hr=>?_;rw[fX (show(k,out).2.length<100000 from(by show out.length<100000;omega))];exact⟨_,hr,rfl⟩
theorem zx(d:Int)(h0:0<=d)(h1:d<3):∃c,fD ([115,122,111]:Tx) d=.ok [c]/\isSl c:=by
 obtain⟨c,e,h⟩:=fY (x:=([115,122,111]:Tx)) (i:=d) h0 (by simp;omega) (by decide);exact⟨c,e,by simpa [isSl] using Dz h⟩
theorem xM{ps:List Pl}(hp:∀p∈ps,Whole p)(hl:ps.length<=900)(h1:1<=ps.length)(cell:Int):(xt ps cell).Ok (Marks ps.length):=by
 unfold xt Ba;obtain⟨ns,en,hn,hns⟩:=n6 (cell/3) ps.length 11 (by omega) (by decide) (by decide);rw[en,CP];obtain⟨r,er,hr⟩:=dB (f:=zP) (fun pre(r:Int×List Pl)=>Marks pre.length r.2) (ps.zip ns) (0,[]) ⟨rfl,by simp⟩ (by
  intro pre a post s e ⟨h1,h2⟩;have ha:a∈ps.zip ns:=by rw[e];simp
  have hlen:pre.length<900:=by have:=congrArg FA e;simp[FN,hn]at this;omega
  obtain⟨k,out⟩:=s;obtain⟨r,er,m,hm,e2⟩:=(xK (hp _ (jB ha).1).mark (d:=a.2) (k:=k) (out:=out) (by have:out.length=pre.length:=h1;omega)).ex;refine⟨r,er,by rw[e2];simp;exact h1,fun x hx=>?_⟩;rw[e2]at hx;rcases DY.mp hx with z|z;·exact h2 x z
  ·rw[Gh.mp z];exact hm)
 rw[er,CP];have hr:Marks ps.length r.2:=⟨by rw[hr.1,FN,hn];omega,hr.2⟩
 refine lg<|Fi (P:=Marks ps.length) (p7 (fun _=>?_) fun _=>hW hr) fun r h=>hW h;rw[gY (by omega),CP];have b0:=E6 (cell/3) (show(ps.length:Int)≠0 by omega);have b1:=DO (cell/3) (show(0:Int)<(ps.length:Int) by omega);generalize cell/3%(ps.length:Int)=i at b0 b1;obtain⟨m,em,hm⟩:=hr.get b0 (by omega);obtain⟨c,ec,hc⟩:=zx (cell/7%3) (E6 _ (by decide)) (DO _ (by decide));simp only[em,CP,ec,wX b0 (show i<r.2.length by rw[hr.1];exact b1)];refine⟨by simp[hr.1],fun x hx=>?_⟩;rcases Iw hx with z|z
 ·exact hr.2 x z
 ·rw[z];exact⟨hm.a,hm.b,⟨c,rfl,.inl hc⟩⟩
def eA(t:Cd):Cd:=(if t.1=[83]then [90]else [83],[cY t 0,cY t 3,cY t 2,cY t 1],(0-t.2.2)%4)
def ff(c:Nat):Nat:=if c=102 then 98 else if c=98 then 102 else c
def eB(t:Cd)(k:Int):Cd:=(t.1,[cY t ((0-k)%4),cY t<|(1-k)%4,cY t<|(2-k)%4,cY t<|(3-k)%4],(t.2.2+k)%4)
theorem jf{t:Cd}(h:Card t):qc t=.ok (eA t):=by
 unfold qc Bc;have e1:((ix ([83,90]:Tx) t.1).bind fun y5=>fD ([90,83]:Tx) y5)=.ok (if t.1=[83]then [90]else [83]):=by
  rcases h.lay with e|e<;>rw[e]<;>rfl
 rw[e1];simp only[CP,eJ h (show(0:Int)<=0 by decide) (by decide),eJ h (show(0:Int)<=3 by decide) (by decide),eJ h (show(0:Int)<=2 by decide) (by decide),eJ h (show(0:Int)<=1 by decide) (by decide)];rfl
theorem w8{t:Cd}(h:Card t){x:Tx}(e:∀c∈x,∃i:Int,0<=i/\i<4/\c=cY t i):∀c∈x,97<=c/\c<=122:=fun c hc=>by
 obtain⟨i,h0,h1,rfl⟩:=e c hc;unfold cY;have:i.toNat<t.2.1.length:=by rw[h.four];omega
 simp only[CZ this,Hs];exact h.col _<|FD this
theorem Card.flip{t:Cd}(h:Card t):Card (eA t):=by
 refine⟨?_,rfl,w8 h fun c hc=>?_,(eg _).1,(eg _).2⟩
 ·unfold eA;split;·exact .inr rfl
  ·exact .inl rfl
 ·have:c=cY t 0\/c=cY t 3\/c=cY t 2\/c=cY t 1:=by simpa [eA] using hc
  rcases this with rfl|rfl|rfl|rfl;·exact⟨0,by decide,by decide,rfl⟩
  ·exact⟨3,by decide,by decide,rfl⟩
  ·exact⟨2,by decide,by decide,rfl⟩
  ·exact⟨1,by decide,by decide,rfl⟩
theorem Card.roll{t:Cd}(h:Card t)(k:Int):Card (eB t k):=by
 refine⟨h.lay,rfl,w8 h fun c hc=>?_,(eg _).1,(eg _).2⟩;have:c=cY t ((0-k)%4)\/c=cY t ((1-k)%4)\/c=cY t ((2-k)%4)\/c=cY t ((3-k)%4):=by simpa [eB] using hc
 rcases this with rfl|rfl|rfl|rfl<;>exact⟨_,(eg _).1,(eg _).2,rfl⟩
theorem rH{t:Cd}(h:Card t)(k:Int):qd t k=.ok (eB t k):=by
 unfold qd Be;rw[show gC (4:Int)=CW [(0:Int),1,2,3]from rfl,CP];rw[eW (g:=fun i:Int=>[cY t ((i-k)%4)]) (by decide)<|fun i _=>eJ h (eg _).1 (eg _).2];rfl
theorem w9{c:Nat}(h:isTurn c):isTurn (ff c):=by
 unfold ff;rcases h with rfl|rfl|rfl
 ·exact .inr<|.inl rfl
 ·exact .inl rfl
 ·exact .inr<|.inr rfl
theorem rJ{x:Tx}(h:dv x)(hl:x.length<=10000):oJ x=.ok (x.map ff):=by
 unfold oJ Bd;rw[eW (g:=fun t:Tx=>[ff (t.headD 0)]) (by show(bb x).length<=100000;simp[bb];omega) (fun t ht=>by
  obtain⟨c,hc,rfl⟩:=dM ht;rcases h c hc with rfl|rfl|rfl<;>rfl),CP]
 have e:((bb x).map fun t:Tx=>[ff (t.headD 0)])=(x.map ff).map fun c=>[c]:=by simp[bb]
 rw[e,nX (by rw[qY];simp;omega),qY]
theorem kT{x:Tx}(h:dv x):dv (x.map ff):=fun c hc=>by
 obtain⟨d,hd,rfl⟩:=DQ.mp hc;exact w9<|h d hd
theorem rK(i:Int)(l:List Int)(hl:l.length<1000):∃l',zR i l=.ok l'/\(∀x,x∈l'↔x∈l\/x=i)/\(l.Nodup->l'.Nodup)/\l'.length<=l.length+1:=by
 unfold zR;by_cases h:i∈l
 ·refine⟨l,?_,fun x=>⟨.inl,fun z=>z.elim id fun e=>e▸h⟩,id,by omega⟩;rw[if_neg (by simp[h])];rfl
 ·refine⟨l++ [i],?_,fun x=>by simp,fun hn=>?_,by simp⟩;·rw[if_pos (by simp[h]),fX (by omega)];rfl
  ·rw[Kx];exact⟨hn,by simp,fun a ha b hb=>by simp at hb;subst hb;intro e;subst e;exact h ha⟩
def yw(t:Cd)(x:Tx)(i:Int):Prop:=∃k,0<k/\k<=x.length/\(i=(ends t<|x.take k).2.2\/i=((ends t<|x.take k).2.2+2)%4)
theorem xN{t:Cd}(h:Card t){x:Tx}(hx:dv x)(hl:x.length<=900):∃l,xv t x=.ok l/\l.Pairwise (· <= ·)/\l.Nodup/\(∀i∈l,0<=i/\i<4)/\∀i,i∈l↔yw t x i:=by
 unfold xv Bf;obtain⟨s,e,h1,h2,h3,h4⟩:=dB (f:=AF jA) (fun pre(s:Cd×List Int)=>s.1=ends t (x.take pre.length)/\s.2.Nodup/\(∀i∈s.2,0<=i/\i<4)/\∀i,i∈s.2↔∃k,0<k/\k<=pre.length/\(i=(ends t<|x.take k).2.2\/i=((ends t<|x.take k).2.2+2)%4)) (bb x) (t,[])
  ⟨by simp[ends],by simp,by simp,fun i=>⟨fun z=>by simp at z,fun⟨k,a,b,_⟩=>by simp at b;omega⟩⟩ (by
  intro pre a post s e ⟨h1,h2,h3,h4⟩;have ha:a∈bb x:=by rw[e];simp
  obtain⟨c,hc,rfl⟩:=dM ha;have hlen:pre.length<x.length:=by have:=congrArg FA e;simp[bb]at this;omega
  have hget:x[pre.length]? =some c:=by
   have:=congrArg (fun l=>l[pre.length]?) e;simp only[bb,D7,Dw<|D0 _,He,F4]at this;cases z:x[pre.length]? with
   |none=>rw[z]at this;cases this
   |some d=>rw[z]at this;simp at this;rw[this]
  have htake:x.take (pre.length+1)=x.take pre.length++[c]:=by
   rw[List.take_add_one,hget];rfl
  have small:s.2.length<=4:=by
   have hsub:s.2 ⊆ [(0:Int),1,2,3]:=fun i hi=>by
    have:=h3 i hi;have:i=0\/i=1\/i=2\/i=3:=by omega
    simpa using this
   exact(Hw h2 hsub)
  unfold AF;rw[h1,lU<|hx c hc,CP];have hB:Card (behind (ends t<|x.take pre.length) c):=(h.ends _).behind c;generalize hbe:behind (ends t<|x.take pre.length) c=B at hB ⊢;obtain⟨l1,e1,m1,n1,k1⟩:=rK B.2.2 s.2 (by omega);obtain⟨l2,e2,m2,n2,k2⟩:=rK ((B.2.2+2)%4) l1 (by omega);have el:bL zR [B.2.2,(B.2.2+2)%4] s.2=.ok l2:=by simp only[bL,e1,e2,CP]
  rw[el];have hE:ends t (x.take<|pre.length+1)=B:=by rw[htake,vZ,hbe]
  refine⟨(B,l2),rfl,by simp[hE],n2<|n1 h2,fun i hi=>?_,fun i=>?_⟩
  ·rcases (m2 i).mp hi with z | z
   ·rcases (m1 i).mp z with z | z;·exact h3 i z
    ·rw[z];exact⟨hB.low,hB.high⟩
   ·rw[z];exact eg _
  ·rw[m2,m1,h4];constructor
   ·rintro ((⟨k,a,b,z⟩ | z) | z);·exact⟨k,a,by simp;omega,z⟩
    ·exact⟨pre.length+1,by omega,by simp,.inl (by rw[hE];exact z)⟩
    ·exact⟨pre.length+1,by omega,by simp,.inr (by rw[hE];exact z)⟩
   ·rintro ⟨k,a,b,z⟩;simp at b;rcases Ky k (pre.length+1)with q|q;·exact .inl (.inl ⟨k,a,by omega,z⟩)
    ·have:k=pre.length+1:=by omega
     subst this;rw[hE]at z;rcases z with z|z
     ·exact .inl (.inr z)
     ·exact .inr z)
 rw[e,CP];have hsub:s.2 ⊆ [(0:Int),1,2,3]:=fun i hi=>by
  have:=h3 i hi;have:i=0\/i=1\/i=2\/i=3:=by omega
  simpa using this
 have small:=(Hw h2 hsub)
 simp only[Fh,HR]at small;rw[uV (by omega)];have pm:=jc s.2;refine⟨_,rfl,lJ _,pm.nodup_iff.mpr h2,fun i hi=>h3 i<|pm.mem_iff.mp hi,fun i=>?_⟩;rw[pm.mem_iff,h4];unfold yw;simp[bb]
theorem zy(d:Int)(h0:0<=d)(h1:d<26):∃c,fD ([97,98,99,100,101,102,103,104,105,106,107,108,109,110,111,112,113,114,115,116,117,118,119,120,121,122]:Tx) d=.ok [c]/\97<=c/\c<=122:=by
 obtain⟨c,e,h⟩:=fY (x:=([97,98,99,100,101,102,103,104,105,106,107,108,109,110,111,112,113,114,115,116,117,118,119,120,121,122]:Tx)) (i:=d) h0 (by simp;omega) (by decide);have:∀c∈([97,98,99,100,101,102,103,104,105,106,107,108,109,110,111,112,113,114,115,116,117,118,119,120,121,122]:Tx),97<=c/\c<=122:=by decide
 exact⟨c,e,this c<|Dz h⟩
def xO(t:Cd)(i:Nat)(c:Nat):Cd:=(t.1,t.2.1.set i c,t.2.2)
theorem Card.dye{t:Cd}(h:Card t)(i:Nat){c:Nat}(h0:97<=c)(h1:c<=122):Card (xO t i c):=⟨h.lay,by simp[xO,h.four],fun x hx=>by
 rcases Iw hx with z|z;·exact h.col x z
 ·rw[z];exact⟨h0,h1⟩,h.low,h.high⟩
theorem xP{x:Tx}{i c:Nat}(h:i<x.length):x.take i++[c]++x.drop (i+1)=x.set i c:=by
 rw[List.set_eq_take_append_cons_drop,if_pos h];simp
theorem zz{t:Cd}(h:Card t){i:Nat}(hi:i<4)(c:Nat):((((sC t.2.1 none<|some (i:Int)).bind fun y83=>jm y83 [c]).bind fun y84=>(sC t.2.1 (some<|(i:Int)+(1:Int)) none).bind fun y85=>jm y84 y85).bind fun y86=>CW (t.1,y86,t.2.2))=.ok (xO t i c):=by
 have hl:t.2.1.length<=100000:=by rw[h.four];decide
 rw[qX hl,o6,CP,jt (by simp;have:=h.four;omega),CP,show(i:Int)+1=((i+1:Nat):Int)from rfl,qX hl,uW,CP,jt (by simp;have:=h.four;omega),CP,xP (by rw[h.four];exact hi)];rfl
theorem zA(cell:Int)(l:List Int){t:Cd}(h:Card t){i:Nat}(hi:i<4):∃t',zS cell l (i:Int) t=.ok t'/\Card t'/\(t'=t\/((i:Int)∉l/\∃c,t'=xO t i c)):=by
 unfold zS;by_cases z:(i:Int)∈l;·rw[if_neg (by simp[z])];exact⟨t,rfl,h,.inl rfl⟩
 ·rw[if_pos (by simp[z]),ku (by omega) (by omega)];simp only[CP];obtain⟨c,e,h0,h1⟩:=zy ((cell/16+5*(i:Int))%26) (E6 _ (by decide)) (DO _ (by decide));rw[e];simp only[CP];have:=zz h hi c;rw[this];exact⟨_,rfl,h.dye i h0 h1,.inr ⟨z,c,rfl⟩⟩
theorem zB{t:Cd}(h:Card t){x:Tx}(hx:dv x)(hl:x.length<=900)(cell:Int):(xw t x cell).Ok fun r=>Card r.1/\dv r.2/\r.2.length=x.length:=by
 unfold xw Bg;refine lg<|Fi (P:=fun r:Cd×Tx=>Card r.1/\dv r.2/\r.2.length=x.length) (p7 (fun _=>?_) fun _=>hW ⟨h,hx,rfl⟩) fun r⟨h1,h2,h3⟩=>?_
 ·rw[jf h,CP,rJ hx (by omega),CP];exact⟨h.flip,kT hx,by simp⟩
 ·rw[rH h1,CP];have hr:=h1.roll<|cell/2%4;generalize eB r.1 (cell/2%4)=R at hr ⊢;refine lg<|Fi (P:=Card) (p7 (fun _=>?_) fun _=>hW hr) fun c hc=>hW ⟨hc,h2,h3⟩;obtain⟨l,el,_⟩:=xN hr h2 (by omega);rw[el,CP,show gC (4:Int)=CW ((Ed 4).map fun(i:Nat)=>(i:Int))from rfl,CP];obtain⟨s,es,hs⟩:=dB (f:=zS cell l) (fun pre s=>Card s) ((Ed 4).map fun(i:Nat)=>(i:Int)) R hr (by
   intro pre a post s e hs;have ha:a∈(Ed 4).map fun(i:Nat)=>(i:Int):=by rw[e];simp
   obtain⟨i,hi,rfl⟩:=DQ.mp ha;obtain⟨t',e',h',_⟩:=zA cell l hs (Gs.mp hi);exact⟨t',e',h'⟩)
  rw[es];exact hs
theorem xQ{s:List Int}(hs:s.length<=63)(most:Nat)(hm:most<=24):(wt s (most:Int)).Ok fun r=>Card r.1/\(∃n,n<=60/\Marks n r.2.1)/\0<=r.2.2/\r.2.2<4:=by
 unfold wt Bh;obtain⟨c0,e0⟩:=je hs 0 (by decide);obtain⟨c1,e1⟩:=je hs 1 (by decide);obtain⟨c2,e2⟩:=je hs 2 (by decide);obtain⟨c3,e3⟩:=je hs 3 (by decide);obtain⟨c4,e4⟩:=je hs 4 (by decide);obtain⟨t,et,ht⟩:=rG c0;rw[show ir s 0=.ok c0 from e0,show ir s 1=.ok c1 from e1,show ir s 2=.ok c2 from e2,show ir s 3=.ok c3 from e3,show ir s 4=.ok c4 from e4];simp only[CP,et];rw[gY (by omega),CP];have z0:=E6 c2 (show(most:Int)+1≠0 by omega);have z1:=DO c2 (show(0:Int)<(most:Int)+1 by omega);refine lg (Fi (P:=fun d=>0<=d/\d<=60) (p7 (fun _=>hW ⟨by omega,by omega⟩) fun _=>hW ⟨z0,by omega⟩) fun d1 hd1=>?_);refine lg (Fi (P:=fun d=>0<=d/\d<=60) (p7 (fun _=>hW ⟨by omega,by omega⟩) fun _=>hW hd1) fun d2 hd2=>?_);obtain⟨n,rfl⟩:∃n:Nat,d2=(n:Int):=⟨d2.toNat,by omega⟩
 obtain⟨x,ex,hxl,hx⟩:=vY c1 n (by omega);rw[ex];simp only[CP,lV ht hx (show x.length<=10000 by omega)];have hw:=n9 ht x;have hpl:=qi t x;refine lg<|Fi (P:=Marks n) (p7 (fun z=>?_) fun _=>?_) fun l hl=>?_
 ·refine lg (Fi (xM hw (by omega) (by omega) c3) fun r hr=>hW ?_);rw[hpl,hxl]at hr;exact hr
 ·refine lg (Fi (w6 hw (by omega) (c3/ 3) _) fun r hr=>hW ?_);rw[hpl,hxl]at hr;exact hr
 ·refine lg<|Fi (P:=Card) (p7 (fun _=>?_) fun _=>hW ht) fun t1 h1=>?_;·exact lg (lg ((zB ht hx (by omega) _).imp fun r hr=>hW<|hW hr.1))
  ·refine lg<|Fi (P:=Card) (p7 (fun _=>?_) fun _=>hW h1) fun t2 h2=>?_
   ·obtain⟨t',e',h'⟩:=rG<|c4/ 4/ 6;rw[e'];exact h'
   ·exact⟨h2,⟨n,by omega,hl⟩,(eg _).1,(eg _).2⟩
def standAt(t:Cd)(i:Int):Cd:=(t.1,t.2.1,(if t.1=[83]then t.2.2+i else t.2.2-i)%4)
def fits(p m:Pl):Bool:=(decide (m.1=[63])||decide (m.1=p.1))&&((decide (m.2.1=[63])||decide (m.2.1=p.2.1))&&(decide (m.2.2=[63])||decide (m.2.2=p.2.2)))
theorem Card.standAt{t:Cd}(h:Card t)(i:Int):Card (standAt t i):=⟨h.lay,h.four,h.col,(eg _).1,(eg _).2⟩
theorem zC{t:Cd}(h:Card t):iJ t=.ok [cY t t.2.2]:=by
 unfold iJ rC;rw[show t.2.2%4=t.2.2 from Kz h.low h.high,eJ h h.low h.high]
theorem tF{t:Cd}(h:Card t):xA t=.ok [cY t ((t.2.2+2)%4)]:=by
 unfold xA Bm;rw[eJ h (eg _).1 (eg _).2]
theorem jg{t:Cd}{c:Nat}(h:isTurn c):qe t [c]=.ok (tw t c):=by
 unfold qe Bj;have e:getD ([([102],1),([98],(-1)),([105],0)]:List (Tx×Int)) [c]=.ok (go c):=by rcases h with rfl|rfl|rfl<;>rfl
 rw[e,CP];by_cases z:t.1=[83]
 ·rw[if_pos (by simpa using z)];unfold tw;rw[if_pos z]
 ·rw[if_neg (by simpa using z)];unfold tw;rw[if_neg z]
theorem tG{i:Int}(h: -1<=i/\i<=1):getD ([(1,[115]),((-1),[122]),(0,[111])]:List (Int×Tx)) i=.ok [oO i]:=by
 have:i= -1\/i=0\/i=1:=by omega
 rcases this with rfl|rfl|rfl<;>rfl
theorem xR{t:Cd}(h:Card t){c:Nat}(hc:isTurn c):xB t [c]=.ok (place t c):=by
 unfold xB Bn;simp only[zC h,tF h,jg hc,CP,tG<|yu t c];rfl
theorem qj(t:Cd)(i:Int):xx t i=.ok (standAt t i):=by
 unfold xx Bl standAt;by_cases z:t.1=[83]
 ·rw[if_pos (by simpa using z),if_pos z];rfl
 ·rw[if_neg (by simpa using z),if_neg z];rfl
theorem wa(a b:Tx):wu a b=.ok (decide (b=[63])||decide (b=a)):=by
 unfold wu Bo;by_cases z:b=[63]
 ·rw[if_pos (by simpa using z),decide_eq_true z];rfl
 ·rw[if_neg (by simpa using z),decide_eq_false z];rfl
theorem tH(p m:Pl):xC p m=.ok (fits p m):=by
 unfold xC Bp;rw[eW (g:=fun a1:Tx×Tx=>decide (a1.2=[63])||decide (a1.2=a1.1)) (by show 3<=100000;decide)<|fun x _=>wa x.1 x.2,CP];congr 1;simp[fits]
theorem lW{t:Cd}(h:Card t)(s:Int×Int){c:Nat}(hc:isTurn c)(m:Pl):l4 t s [c] m=.ok (fits (place (standAt t s.1) c) m):=by
 unfold l4 Bq;simp only[qj,CP,xR (h.standAt _) hc,tH]
def ag(t:Cd)(s:Int×Int)(c:Nat):Int×Int:=(s.1+tw t c,if c=105 then s.2+1 else 0)
theorem kU{t:Cd}(s:Int×Int){c:Nat}(hc:isTurn c):hZ t s [c]=.ok (ag t s c):=by
 unfold hZ Bk ag;simp only[jg hc,CP];by_cases z:c=105;·rw[if_pos (by simp[z]),if_pos z];rfl
 ·rw[if_neg (by simp[z]),if_neg z];rfl
def dj(s:Int×Int)(loose bound:Int):Bool:=decide (dX s.1<=bound)&&decide (s.2<=loose)
theorem gZ(s:Int×Int)(loose bound:Int):iI s loose bound=.ok (dj s loose bound):=by
 unfold iI Bi dj;by_cases z:dX s.1<=bound;·rw[if_pos (by simpa using z),decide_eq_true z];rfl
 ·rw[if_neg (by simpa using z),decide_eq_false z];rfl
def bz(t:Cd)(loose bound:Int)(s:Int×Int)(c:Nat)(m:Pl):Bool:=dj (ag t s c) loose bound&&fits (place (standAt t (ag t s c).1) c) m
def cU(t:Cd)(loose bound:Int):Int×Int->List (Nat×Pl)->Bool
 |_,[]=>true
 |s,(c,m)::r=>bz t loose bound s c m&&cU t loose bound (ag t s c) r
def i7(c:Nat):Bool:=decide<|isTurn c
theorem turnB_iff{c:Nat}:i7 c=true↔isTurn c:=decide_eq_true_iff
def gP(x:Tx)(n:Nat):Bool:=decide (x.length=n)&&x.all i7
theorem lu(c:Nat):([102,98,105]:Tx).contains c=i7 c:=by
 rw[Fb,turnB_iff];simp[isTurn]
theorem tI{x:Tx}(hl:x.length<=10000)(n:Nat):xE x (n:Int)=.ok (gP x n):=by
 unfold xE BA gP;rw[qW (by omega)];simp only[CP];by_cases z:x.length=n
 ·rw[if_pos (by simp[z]),eW (g:=fun t:Tx=>i7<|t.headD 0) (by show(bb x).length<=100000;simp[bb];omega) (fun t ht=>by
   obtain⟨c,hc,rfl⟩:=dM ht;show CW _=_;rw[lu];rfl),CP,decide_eq_true z,GK]
  congr 1;simp[bb,List.all_map,Function.comp_def]
  try rfl
 ·rw[if_neg (by simp;omega),decide_eq_false z];rfl
theorem qk{x:Tx}{n:Nat}(h:gP x n=true):x.length=n/\dv x:=by
 unfold gP at h;simp only[EC,decide_eq_true_eq,G1]at h;exact⟨h.1,fun c hc=>turnB_iff.mp<|h.2 c hc⟩
theorem tJ{β:Type}(x:Tx)(l:List β):(bb x).zip l=(x.zip l).map fun p=>([p.1],p.2):=by
 unfold bb;rw[List.zip_map_left];rfl
theorem lX{t:Cd}(h:Card t)(loose bound:Int):∀(l:List (Nat×Pl)),(∀p∈l,isTurn p.1)->∀(s:Int×Int)(b:Bool),∃s',bL (zX iI hZ l4 t loose bound) (l.map fun p=>([p.1],p.2)) (s,b)=.ok (s',b&&cU t loose bound s l)
 | [],_,s,b=>⟨s,by simp[bL,cU]⟩
 |(c,m)::r,hl,s,b=>by
  have hc:=hl (c,m) (by simp);obtain⟨s',e⟩:=lX h loose bound r (fun p hp=>hl p (by simp[hp])) (ag t s c)<|b&&bz t loose bound s c m;refine⟨s',?_⟩;rw[Ds];unfold bL;have e1:zX iI hZ l4 t loose bound ([c],m) (s,b)=.ok (ag t s c,b&&bz t loose bound s c m):=by
   unfold zX;simp only[kU s hc,CP,gZ,lW h _ hc];cases b with
   |false=>rfl
   |true=>
    simp only[if_true,GK];unfold bz;cases z:dj (ag t s c) loose bound<;>rfl
  rw[e1,CP,e];simp[cU,Bool.and_assoc]
theorem xT{t:Cd}(h:Card t)(strip:List Pl){loose bound:Int}(h0:0<=loose)(h1:0<=bound){x:Tx}(hl:x.length<=10000):xF t strip loose bound x=.ok (gP x strip.length&&cU t loose bound (0,0) (x.zip strip)):=by
 unfold xF BB;rw[tI hl];simp only[CP];cases z:gP x strip.length with
 |false=>rfl
 |true=>
  obtain⟨_,hx⟩:=qk z;obtain⟨s',e⟩:=lX h loose bound (x.zip strip) (fun p hp=>hx _ (Gj hp).1) (0,0) true;have w:dj (0,0) loose bound=true:=by unfold dj dX;simp[h0,h1]
  simp only[GJ,DA,if_false,gZ,w,CP,tJ,e,GK]
theorem xV(p m:Pl):eV AI ([p.1,p.2.1,p.2.2].zip [m.1,m.2.1,m.2.2]) ()=.ok (if fits p m then .nx ()else .rt false):=by
 rw[lN (g:=fun a:Tx×Tx=>if decide (a.2=[63])||decide (a.2=a.1)then none else some false) _ (fun a _=>by
  unfold AI;by_cases z:a.2=[63]
  ·simp[z]
  ·by_cases y:a.2=a.1;·simp[z,y]
   ·simp[z,y])]
 congr 1;unfold fits;simp only[Ij,List.zip_nil_right,JU,List.findSome?_nil];cases decide (m.1=[63])||decide (m.1=p.1)<;>cases decide (m.2.1=[63])||decide (m.2.1=p.2.1)<;>cases decide (m.2.2=[63])||decide (m.2.2=p.2.2)<;>rfl
theorem xW{t:Cd}(loose bound:Int)(s:Int×Int)(hs: -1000000<s.2/\s.2<1000000){c:Nat}(hc:isTurn c)(m:Pl):zW jn t loose bound ([c],place (standAt t (ag t s c).1) c,m) s=.ok (if bz t loose bound s c m then .nx (ag t s c)else .rt false):=by
 unfold zW;simp only[oP hc,CP,xV];rw[ku (by omega) (by omega)];simp only[CP];have e:(s.2+1)*(if decide (([c]:Tx)=[105])=true then(1:Int)else 0)=(ag t s c).2:=by
  unfold ag;by_cases z:c=105;·simp[z]
  ·simp[z]
 rw[e];have e1:s.1+tw t c=(ag t s c).1:=rfl;rw[e1];unfold bz dj;by_cases z:bound<dX (ag t s c).1
 ·have:¬dX (ag t s c).1<=bound:=by omega
  simp[z,this]
 ·have:dX (ag t s c).1<=bound:=by omega
  by_cases y:loose<(ag t s c).2
  ·have:¬(ag t s c).2<=loose:=by omega
   simp[*]
  ·have:(ag t s c).2<=loose:=by omega
   simp only[z,y,decide_false,DA,if_false,CP,decide_eq_true ‹dX (ag t s c).1<=bound›,decide_eq_true ‹(ag t s c).2<=loose›,Bool.and_self,GK];cases fits (place (standAt t (ag t s c).1) c) m<;>rfl
theorem nc(t:Cd)(i:Int)(c:Nat):behind (standAt t i) c=standAt t (i+tw t c):=by
 unfold behind standAt tw;split;·simp only[M1,true_and];omega
 ·simp only[M1,true_and];omega
theorem zD{t:Cd}(h:Card t):standAt t 0=t:=by
 unfold standAt;have:=h.low;have:=h.high;rw[Mb,Int.sub_zero,ite_self,Kz h.low h.high]
theorem lY{t:Cd}(loose bound:Int):∀(x:Tx)(strip:List Pl),dv x->∀(s:Int×Int),0<=s.2->s.2+x.length<100000->eV (zW jn t loose bound) ((bb x).zip ((dO (standAt t s.1) x).zip strip)) s=.ok (if cU t loose bound s (x.zip strip)then .nx (((x.zip strip).foldl (fun s p=>ag t s p.1) s))else .rt false)
 | [],strip,_,s,_,_=>by simp[bb,eV,cU]
 |c::r,[],_,s,_,_=>by simp[bb,eV,cU]
 |c::r,m::ms,hx,s,h0,h1=>by
  have hc:=hx c (by simp);simp only[Fh]at h1;have e:(bb (c::r)).zip ((dO (standAt t s.1) (c::r)).zip (m::ms))=([c],place (standAt t (ag t s c).1) c,m)::(bb r).zip ((dO (standAt t (ag t s c).1) r).zip ms):=by
   simp only[dO,nc];rfl
  rw[e];unfold eV;rw[xW loose bound s ⟨by omega,by omega⟩ hc m,CP];have b2:(ag t s c).2=s.2+1\/(ag t s c).2=0:=by unfold ag;split<;>simp
  have ih:=lY (t:=t) loose bound r ms (fun d hd=>hx d (by simp[hd])) (ag t s c) (by omega) (by omega);simp only[Ij,cU,HK];cases z:bz t loose bound s c m with
  |false=>rfl
  |true=>simp only[if_true,ux,ih,GK]
theorem tK{t:Cd}(h:Card t)(strip:List Pl)(loose bound:Int){x:Tx}(hl:x.length<=10000):xD t strip loose bound x=.ok (gP x strip.length&&cU t loose bound (0,0) (x.zip strip)):=by
 unfold xD Bz;rw[qW (by omega)];simp only[CP];by_cases z:x.length=strip.length
 ·rw[if_neg (by simp[z])];rw[lN (g:=fun t:Tx=>cond (i7<|t.headD 0) none<|some false) _ (fun t ht=>by
   obtain⟨c,hc,rfl⟩:=dM ht;unfold By;simp only[List.headD_cons];by_cases q:isTurn c;·rcases q with rfl|rfl|rfl<;>rfl
   ·rw[show i7 c=false from decide_eq_false q];have q1:c≠102:=fun e=>q (.inl e);have q2:c≠98:=fun e=>q (.inr (.inl e));have q3:c≠105:=fun e=>q (.inr (.inr e));simp[q1,q2,q3]),CP]
  cases hf:(bb x).findSome? fun t:Tx=>cond (i7<|t.headD 0) none (some false)with
  |some r=>
   obtain⟨t',ht',e⟩:=List.exists_of_findSome?_eq_some hf;obtain⟨c,hc,rfl⟩:=dM ht';have q:i7 c=false:=by
    cases z:i7 c with
    |false=>rfl
    |true=>simp[z]at e
   have:r=false:=by simpa [q] using e.symm
   subst this;have:gP x strip.length=false:=by
    unfold gP;rw[Bool.and_eq_false_iff];right;rw[List.all_eq_false];exact⟨c,hc,by simp[q]⟩
   simp[this]
  |none=>
   rw[List.findSome?_eq_none_iff]at hf;have hx:dv x:=fun c hc=>by
    have:=hf [c] (by unfold bb;exact DQ.mpr ⟨c,hc,rfl⟩);refine Ir fun q=>?_;simp[show i7 c=false from decide_eq_false q]at this
   have hr:gP x strip.length=true:=by
    unfold gP;simp only[EC,decide_eq_true_eq,G1];exact⟨z,fun c hc=>turnB_iff.mpr<|hx c hc⟩
   simp only[lV h hx hl,CP];have w:=lY (t:=t) loose bound x strip hx (0,0) (by decide) (by show(0:Int)+_<_;omega);rw[show standAt t ((0,0):Int×Int).1=t from zD h]at w;rw[w,CP,hr,GK];cases cU t loose bound (0,0) (x.zip strip)<;>rfl
 ·rw[if_pos (by simp;omega)];have:gP x strip.length=false:=by unfold gP;simp[z]
  simp[this]
theorem absI_le{i b:Int}:dX i<=b↔ -b<=i/\i<=b:=by unfold dX;split<;>omega
def fK(t:Cd)(mk:Pl)(loose bound:Int)(s:Int×Int):List Nat:=[102,98,105].filter fun c=>bz t loose bound s c mk
theorem mem_onw{t:Cd}{mk:Pl}{loose bound:Int}{s:Int×Int}{c:Nat}:c∈fK t mk loose bound s↔isTurn c/\bz t loose bound s c mk=true:=by
 unfold fK;rw[Jj];simp[isTurn]
theorem hV{t:Cd}(h:Card t)(mk:Pl)(loose bound:Int)(s:Int×Int):fc t mk loose bound s=.ok ((fK t mk loose bound s).map fun c=>([c],ag t s c)):=by
 unfold fc Br fK;rw[eW (g:=fun a:Tx=>(a,ag t s<|a.headD 0)) (by show 3<=100000;decide) (fun a ha=>by
  obtain⟨c,hc,rfl⟩:=dM ha;have ht:isTurn c:=by simpa [isTurn] using hc
  rw[kU s ht];rfl),CP]
 rw[nZ (g:=fun a:Tx×(Int×Int)=>if bz t loose bound s (a.1.headD 0) mk=true then some a else none) (by show 3<=100000;decide) (fun a ha=>by
  obtain⟨x,hx,rfl⟩:=DQ.mp ha;obtain⟨c,hc,rfl⟩:=dM hx;have ht:isTurn c:=by simpa [isTurn] using hc
  show((iI (ag t s c) loose bound).bind fun y=>if y then l4 t (ag t s c) [c] mk else CW false).bind (fun y=>if y then CW (some ([c],ag t s c))else CW none)=_;rw[gZ,CP,lW h _ ht];show _=CW (if bz t loose bound s c mk=true then some ([c],ag t s c)else none);unfold bz;cases dj (ag t s c) loose bound<;>cases fits (place (standAt t (ag t s c).1) c) mk<;>rfl)]
 show CW (List.filterMap _ [([102],ag t s 102),([98],ag t s 98),([105],ag t s 105)])=_;cases h1:bz t loose bound s 102 mk<;>cases h2:bz t loose bound s 98 mk<;>cases h3:bz t loose bound s 105 mk<;>simp[h1,h2,h3]
theorem ql:∀(n:Nat)(l:List Nat),l.Nodup->(∀x∈l,x<n)->l.length<=n
 |0,l,_,h=>by
  cases l with
  |nil=>simp
  |cons a l=>exact absurd (h a<|Di ..) (by omega)
 |n+1,l,nd,h=>by
  by_cases z:n∈l
  ·have:=ql n (l.erase n) (nd.erase n) fun x hx=>by
    have h1:=h x<|Hl hx;have h2:x≠n:=fun e=>by subst e;exact(GH nd) hx
    omega
   rw[GI z]at this;omega
  ·have:=ql n l nd fun x hx=>by
    have h1:=h x hx;have h2:x≠n:=fun e=>z<|e▸hx;omega
   omega
theorem ng{α:Type}(pre:List α)(a:α):fA (pre++[a]) (-(1:Int))=.ok a:=by
 have e:tP (pre++[a]) (-1)=some a:=by
  unfold tP ixN;rw[if_neg (by decide),if_pos (by simp;omega)];show(pre++[a])[_]? =some a;have:(-1+((pre++[a]).length:Int)).toNat=pre.length:=by simp;omega
  rw[this];simp
 unfold fA;rw[e];rfl
def oT(p:Int×Int):Prop:= -60<=p.1/\p.1<=60/\0<=p.2/\p.2<=3
theorem jC{l:List (Int×Int)}(nd:l.Nodup)(h:∀p∈l,oT p):l.length<=484:=by
 have nd2:(l.map fun p=>((p.1+60)*4+p.2).toNat).Nodup:=by
  rw[E3,FP];refine(E3.mp nd).imp_of_mem fun{a b}ha hb hne e=>hne ?_;have h1:=h a ha;have h2:=h b hb;unfold oT at h1 h2;exact Ib (by omega) (by omega)
 have:=ql 484 _ nd2 fun x hx=>by
  obtain⟨p,hp,rfl⟩:=DQ.mp hx;have h1:=h p hp;unfold oT at h1;omega
 simpa using this
theorem rL{t:Cd}{mk:Pl}{loose bound:Int}(hl:loose<=3)(hb:bound<=60){s:Int×Int}(hs:oT s){c:Nat}(h:bz t loose bound s c mk=true):oT (ag t s c):=by
 unfold bz dj at h;simp only[EC,decide_eq_true_eq]at h;have h1:=absI_le.mp h.1.1;have h2:=h.1.2;unfold oT at hs ⊢;refine⟨by omega,by omega,?_,by omega⟩;unfold ag;dsimp only;split<;>omega
def Nx(t:Cd)(mk:Pl)(loose bound:Int)(l:List (Int×Int))(p:Int×Int):Prop:=∃s∈l,∃c,isTurn c/\bz t loose bound s c mk=true/\p=ag t s c
theorem Nx.inb{t:Cd}{mk:Pl}{loose bound:Int}(hl:loose<=3)(hb:bound<=60){l:List (Int×Int)}(h:∀p∈l,oT p){p:Int×Int}(n:Nx t mk loose bound l p):oT p:=by
 obtain⟨s,hs,c,_,hm,rfl⟩:=n;exact rL hl hb (h s hs) hm
theorem zE{t:Cd}{mk:Pl}{loose bound:Int}{p:Int×Int}:¬Nx t mk loose bound [] p:=fun⟨s,hs,_⟩=>by cases hs
theorem xX{t:Cd}{mk:Pl}{loose bound:Int}{l:List (Int×Int)}{a p:Int×Int}:Nx t mk loose bound (l++[a]) p↔Nx t mk loose bound l p\/∃c∈fK t mk loose bound a,p=ag t a c:=by
 constructor
 ·rintro ⟨q,hq,c,hc,hm,rfl⟩;rcases DY.mp hq with hq|hq;·exact .inl ⟨q,hq,c,hc,hm,rfl⟩
  ·have:q=a:=by simpa using hq
   subst this;exact .inr ⟨c,mem_onw.mpr ⟨hc,hm⟩,rfl⟩
 ·rintro (⟨q,hq,z⟩ | ⟨c,hc,rfl⟩);·exact⟨q,by simp[hq],z⟩
  ·exact⟨a,by simp,c,(mem_onw.mp hc).1,(mem_onw.mp hc).2,rfl⟩
def nh(ks:List (Int×Int))(k:Int×Int):List (Int×Int):=if k∈ks then ks else k::ks
theorem addP_mem{ks:List (Int×Int)}{k p:Int×Int}:p∈nh ks k↔p∈ks\/p=k:=by
 unfold nh;split
 ·rename_i z;exact⟨.inl,fun h=>h.elim id fun e=>e▸z⟩
 ·rw[Dh];exact⟨fun h=>h.symm,fun h=>h.symm⟩
theorem rM{ks:List (Int×Int)}(h:ks.Nodup)(k:Int×Int):(nh ks k).Nodup:=by
 unfold nh;split;·exact h
 ·rename_i z;exact Fc.mpr ⟨z,h⟩
def tL(l ks:List (Int×Int)):List (Int×Int):=l.foldl nh ks
theorem iK:∀(l ks:List (Int×Int)),ks.Nodup->(tL l ks).Nodup/\∀p,p∈tL l ks↔p∈ks\/p∈l
 | [],ks,h=>⟨h,fun p=>by simp[tL]⟩
 |a::l,ks,h=>by
  have ih:=iK l (nh ks a)<|rM h a;refine⟨ih.1,fun p=>?_⟩;show p∈tL l (nh ks a)↔_;rw[ih.2,addP_mem,Dh,or_assoc]
def ip(t:Cd)(mk:Pl)(loose bound:Int)(l:List (Int×Int)):List (Int×Int):=fq<|tL (l.flatMap fun s=>(fK t mk loose bound s).map (ag t s)) []
theorem oU{t:Cd}{mk:Pl}{loose bound:Int}{l:List (Int×Int)}{p:Int×Int}:p∈(l.flatMap fun s=>(fK t mk loose bound s).map (ag t s))↔Nx t mk loose bound l p:=by
 rw[List.mem_flatMap];constructor
 ·rintro ⟨s,hs,h⟩;obtain⟨c,hc,rfl⟩:=DQ.mp h;exact⟨s,hs,c,(mem_onw.mp hc).1,(mem_onw.mp hc).2,rfl⟩
 ·rintro ⟨s,hs,c,h1,h2,rfl⟩;exact⟨s,hs,DQ.mpr ⟨c,mem_onw.mpr ⟨h1,h2⟩,rfl⟩⟩
theorem mem_nxt{t:Cd}{mk:Pl}{loose bound:Int}{l:List (Int×Int)}{p:Int×Int}:p∈ip t mk loose bound l↔Nx t mk loose bound l p:=by
 unfold ip;rw[(eI _).mem_iff,(iK _ [] Hh).2,oU];simp
theorem zF{t:Cd}{mk:Pl}{loose bound:Int}{l S:List (Int×Int)}(nd:S.Nodup)(h:∀p,p∈S↔Nx t mk loose bound l p):fq S=ip t mk loose bound l:=by
 refine kE ((eI S).trans ?_)<|kD S;have g:=iK (l.flatMap fun s=>(fK t mk loose bound s).map (ag t s)) [] Hh;exact(List.perm_ext_iff_of_nodup nd g.1).mpr fun p=>by rw[h,g.2,oU];simp
theorem wb(ys:List (Tx×(Int×Int)))(s0:List (Int×Int))(nd:s0.Nodup)(h0:∀p∈s0,oT p)(hy:∀a∈ys,oT a.2):
  bL (fun(a:Tx×(Int×Int))(s:List (Int×Int))=>sN s a.2) ys s0=.ok (tL (ys.map (·.2)) s0):=by
 induction ys generalizing s0 with
 |nil=>rfl
 |cons a ys ih=>
  have hl:=jC nd h0;show(sN s0 a.2).bind _=_;rw[show sN s0 a.2=.ok (nh s0 a.2)from bK (by omega),CP];exact ih (nh s0 a.2) (rM nd _) (fun p hp=>by
   rcases addP_mem.mp hp with z|z;·exact h0 p z
   ·rw[z];exact hy a (Di ..)) fun b hb=>hy b (Dk _ hb)
theorem wc{t:Cd}(h:Card t)(mk:Pl){loose bound:Int}(hl:loose<=3)(hb:bound<=60){states:List (Int×Int)}(hs:∀p∈states,oT p):qf t mk loose bound states=.ok (ip t mk loose bound states):=by
 unfold qf Bs;obtain⟨s,e,h1,h2⟩:=dB (f:=fun(a:Int×Int)(s:List (Int×Int))=>(fc t mk loose bound a).bind fun y=>bL (fun(a:Tx×(Int×Int))(s:List (Int×Int))=>sN s a.2) y s)
  (fun pre s=>s.Nodup/\∀p,p∈s↔Nx t mk loose bound pre p) states [] ⟨Hh,fun p=>⟨fun z=>(by cases z),fun z=>absurd z zE⟩⟩ (by
  intro pre a post s e ⟨h1,h2⟩;have ha:oT a:=hs a (by rw[e];simp);have hp:∀p∈pre,oT p:=fun p hp=>hs p (by rw[e];simp[hp]);rw[hV h,CP,wb _ s h1 (fun p hq=>((h2 p).mp hq).inb hl hb hp) (fun b hb'=>by
   obtain⟨c,hc,rfl⟩:=DQ.mp hb';exact rL hl hb ha (mem_onw.mp hc).2)]
  have g:=iK (((fK t mk loose bound a).map fun c=>(([c]:Tx),ag t a c)).map (·.2)) s h1;refine⟨_,rfl,g.1,fun p=>?_⟩;rw[g.2,h2,xX,F6,DQ];exact or_congr Iff.rfl ⟨fun⟨c,h1,h2⟩=>⟨c,h1,h2.symm⟩,fun⟨c,h1,h2⟩=>⟨c,h1,h2.symm⟩⟩)
 have hlen:=jC h1 fun p hp=>((h2 p).mp hp).inb hl hb hs;rw[show bL _ states []=CW s from e,CP,show uZ s=.ok (fq s)from bK (by omega),zF h1 h2]
def bh(t:Cd)(loose bound:Int):List Pl->List (Int×Int)->List (List<|Int×Int)
 | [],cur=>[cur]
 |m::r,cur=>match cur with
  | []=>[[]]
  |a::q=>(a::q)::bh t loose bound r (ip t m loose bound (a::q))
theorem eD{t:Cd}{loose bound:Int}(l:List Pl)(cur:List (Int×Int)):∃r,bh t loose bound l cur=cur::r:=by
 cases l with
 |nil=>exact⟨_,rfl⟩
 |cons m l=>cases cur with
  |nil=>exact⟨_,rfl⟩
  |cons a q=>exact⟨_,rfl⟩
theorem iL{t:Cd}(h:Card t){loose bound:Int}(hl:loose<=3)(hb:bound<=60):∀(strip:List Pl)(pre:List (List<|Int×Int))(cur:List (Int×Int)),pre.length+strip.length<=1000->(∀p∈cur,oT p)->
  ∃r,eV (yt qf t loose bound) strip (pre++[cur])=.ok r/\(r=.nx (pre++bh t loose bound strip cur)\/r=.rt (pre++bh t loose bound strip cur))
 | [],pre,cur,_,_=>⟨_,rfl,.inl rfl⟩
 |m::strip,pre,cur,hp,hc=>by
  simp only[Fh]at hp;show ∃r,(yt qf t loose bound m<|pre++[cur]).bind _=.ok r/\_;cases cur with
  |nil=>
   refine⟨.rt<|pre++[[]],?_,.inr rfl⟩;unfold yt;rw[ng];rfl
  |cons a q=>
   have e1:yt qf t loose bound m (pre++[a::q])=.ok (.nx<|pre++[a::q]++[ip t m loose bound (a::q)]):=by
    unfold yt;rw[ng,CP,CP,if_neg (by simp),CP,wc h m hl hb hc,CP,fX (by simp;omega)];rfl
   rw[e1,CP];obtain⟨r,er,hr⟩:=iL h hl hb strip (pre++[a::q]) (ip t m loose bound (a::q)) (by simp;omega)<|fun p hp=>(mem_nxt.mp hp).inb hl hb hc;refine⟨r,er,?_⟩;have e2:pre++bh t loose bound (m::strip) (a::q)=pre++[a::q]++bh t loose bound strip (ip t m loose bound (a::q)):=by
    rw[Dq];rfl
   rw[e2];exact hr
theorem zG:∀p∈[((0:Int),(0:Int))],oT p:=fun p hp=>by
 have:p=(0,0):=by simpa using hp
 subst this;exact⟨by decide,by decide,by decide,by decide⟩
theorem rN{t:Cd}(h:Card t){loose bound:Int}(h0:0<=loose)(h1:0<=bound)(hl:loose<=3)(hb:bound<=60)(strip:List Pl)(hs:strip.length<=1000):lj t strip loose bound=.ok (bh t loose bound strip [(0,0)]):=by
 unfold lj Bt;have w:dj (0,0) loose bound=true:=by
  unfold dj dX;simp;omega
 rw[gZ,w,CP,if_pos rfl,CP,CP];obtain⟨r,er,hr⟩:=iL h hl hb strip [] [(0,0)] (by simpa using hs) zG;rw[show eV _ strip [[((0:Int),(0:Int))]]=CW r from er,CP];rcases hr with rfl|rfl<;>rfl
def cnt(t:Cd)(loose bound:Int):List Pl->Int×Int->Int
 | [],_=>1
 |m::r,s=>((fK t m loose bound s).map fun c=>cnt t loose bound r<|ag t s c).sum
def qm(b:Bool)(i:Int):Int:=if b=true then i else 0
theorem eO{t:Cd}{loose bound:Int}{m:Pl}{r:List Pl}{s:Int×Int}:cnt t loose bound (m::r) s=qm (bz t loose bound s 102 m) (cnt t loose bound r<|ag t s 102)+qm (bz t loose bound s 98 m) (cnt t loose bound r<|ag t s 98)+qm (bz t loose bound s 105 m) (cnt t loose bound r<|ag t s 105):=by
 show((fK t m loose bound s).map fun c=>cnt t loose bound r<|ag t s c).sum=_;unfold fK qm;cases h1:bz t loose bound s 102 m<;>cases h2:bz t loose bound s 98 m<;>cases h3:bz t loose bound s 105 m<;>simp[h1,h2,h3]<;>omega
theorem j6{b:Bool}{i:Int}(h:0<=i):0<=qm b i:=by unfold qm;split<;>omega
theorem dE{t:Cd}{loose bound:Int}:∀(l:List Pl)(s:Int×Int),0<=cnt t loose bound l s
 | [],_=>by show(0:Int)<=1;decide
 |m::r,s=>by
  rw[eO];have h1:=j6 (b:=bz t loose bound s 102 m)<|dE (t:=t) (loose:=loose) (bound:=bound) r<|ag t s 102;have h2:=j6 (b:=bz t loose bound s 98 m)<|dE (t:=t) (loose:=loose) (bound:=bound) r<|ag t s 98;have h3:=j6 (b:=bz t loose bound s 105 m)<|dE (t:=t) (loose:=loose) (bound:=bound) r<|ag t s 105;omega
theorem cnt_pos{t:Cd}{loose bound:Int}{m:Pl}{r:List Pl}{s:Int×Int}:cnt t loose bound (m::r) s=0↔∀c,isTurn c->bz t loose bound s c m=true->cnt t loose bound r (ag t s c)=0:=by
 rw[eO];have n1:=dE (t:=t) (loose:=loose) (bound:=bound) r<|ag t s 102;have n2:=dE (t:=t) (loose:=loose) (bound:=bound) r<|ag t s 98;have n3:=dE (t:=t) (loose:=loose) (bound:=bound) r<|ag t s 105;have h1:=j6 (b:=bz t loose bound s 102 m) n1;have h2:=j6 (b:=bz t loose bound s 98 m) n2;have h3:=j6 (b:=bz t loose bound s 105 m) n3;constructor
 ·intro h c hc hm;rcases hc with rfl|rfl|rfl
  ·have:qm (bz t loose bound s 102 m) (cnt t loose bound r<|ag t s 102)=0:=by omega
   rw[hm]at this;exact this
  ·have:qm (bz t loose bound s 98 m) (cnt t loose bound r<|ag t s 98)=0:=by omega
   rw[hm]at this;exact this
  ·have:qm (bz t loose bound s 105 m) (cnt t loose bound r<|ag t s 105)=0:=by omega
   rw[hm]at this;exact this
 ·intro h;have key:∀c,isTurn c->qm (bz t loose bound s c m) (cnt t loose bound r<|ag t s c)=0:=fun c hc=>by
   unfold qm;split;·rename_i z;exact h c hc z
   ·rfl
  rw[key 102<|.inl rfl,key 98<|.inr<|.inl rfl,key 105<|.inr<|.inr rfl];rfl
def yx(m m':Pl):Prop:=∀p,fits p m=true->fits p m'=true
def WL:List Pl->List Pl->Prop
 | [],[]=>True
 |m::r,m'::r'=>yx m m'/\WL r r'
 |_,_=>False
theorem WL.refl:∀l,WL l l
 | []=>Ga
 |m::r=>⟨fun _ h=>h,WL.refl r⟩
theorem kW{t:Cd}{loose loose' bound bound':Int}(h1:loose<=loose')(h2:bound<=bound'){m m':Pl}(h3:yx m m'){s:Int×Int}{c:Nat}(h:bz t loose bound s c m=true):bz t loose' bound' s c m'=true:=by
 unfold bz dj at h ⊢;simp only[EC,decide_eq_true_eq]at h ⊢;exact⟨⟨Mc h.1.1 h2,Mc h.1.2 h1⟩,h3 _ h.2⟩
theorem kX{b b':Bool}{i i':Int}(h:b=true->b'=true)(hi:i<=i')(h0:0<=i'):qm b i<=qm b' i':=by
 unfold qm;cases b;·rw[if_neg (by decide)];split<;>omega
 ·rw[if_pos rfl,if_pos<|h rfl];exact hi
theorem gQ{t:Cd}{loose loose' bound bound':Int}(h1:loose<=loose')(h2:bound<=bound'):∀(l l':List Pl)(s:Int×Int),WL l l'->cnt t loose bound l s<=cnt t loose' bound' l' s
 | [],[],s,_=>GA _
 | [],_::_,_,h=>h.elim
 |_::_,[],_,h=>h.elim
 |m::r,m'::r',s,⟨h3,h4⟩=>by
  rw[eO,eO];have g1:=kX (kW (t:=t) h1 h2 h3 (s:=s) (c:=102)) (gQ (t:=t) h1 h2 r r' (ag t s 102) h4)<|dE (t:=t) r'<|ag t s 102;have g2:=kX (kW (t:=t) h1 h2 h3 (s:=s) (c:=98)) (gQ (t:=t) h1 h2 r r' (ag t s 98) h4)<|dE (t:=t) r'<|ag t s 98;have g3:=kX (kW (t:=t) h1 h2 h3 (s:=s) (c:=105)) (gQ (t:=t) h1 h2 r r' (ag t s 105) h4)<|dE (t:=t) r'<|ag t s 105;omega
theorem kY{t:Cd}{loose bound:Int}(l:List Pl)(cur:List (Int×Int)):0<(bh t loose bound l cur).length:=by
 obtain⟨r,hr⟩:=eD (t:=t) (loose:=loose) (bound:=bound) l cur;rw[hr];simp
theorem lZ{t:Cd}{loose bound:Int}:∀(l:List Pl)(cur:List (Int×Int)),(bh t loose bound l cur).length<=l.length+1
 | [],cur=>D0 _
 |m::r,[]=>by show 1<=_;omega
 |m::r,a::q=>by
  have:=lZ (t:=t) (loose:=loose) (bound:=bound) r<|ip t m loose bound (a::q);show(bh t loose bound r<|ip t m loose bound (a::q)).length+1<=r.length+1+1;omega
theorem iM{t:Cd}{loose bound:Int}:∀(l:List Pl)(cur:List (Int×Int))(i:Nat),i+1<(bh t loose bound l cur).length->∃m L,l[i]? =some m/\(bh t loose bound l cur)[i]? =some L/\(bh t loose bound l cur)[i+1]? =some (ip t m loose bound L)
 | [],cur,i,h=>absurd h (by show ¬i+1<1;omega)
 |m::r,[],i,h=>absurd h (by show ¬i+1<1;omega)
 |m::r,a::q,0,h=>by
  obtain⟨z,hz⟩:=eD (t:=t) (loose:=loose) (bound:=bound) r<|ip t m loose bound (a::q);refine⟨m,a::q,rfl,rfl,?_⟩;show(bh t loose bound r<|ip t m loose bound (a::q))[0]? =_;rw[hz];rfl
 |m::r,a::q,i+1,h=>by
  have h':i+1<(bh t loose bound r<|ip t m loose bound (a::q)).length:=by
   have:i+1+1<(bh t loose bound r<|ip t m loose bound (a::q)).length+1:=h;omega
  exact iM r (ip t m loose bound (a::q)) i h'
theorem zH{t:Cd}{m:Pl}{loose bound:Int}{l:List (Int×Int)}:(ip t m loose bound l).Nodup:=(eI _).nodup_iff.mpr (iK _ [] Hh).1
theorem j7{t:Cd}{loose bound:Int}(hl:loose<=3)(hb:bound<=60):∀(l:List Pl)(cur:List (Int×Int)),cur.Nodup->(∀p∈cur,oT p)->∀L∈bh t loose bound l cur,L.Nodup/\∀p∈L,oT p
 | [],cur,h1,h2,L,hL=>by
  have:L=cur:=by simpa [bh] using hL
  rw[this];exact⟨h1,h2⟩
 |m::r,[],h1,h2,L,hL=>by
  have:L=[]:=by simpa [bh] using hL
  rw[this];exact⟨h1,h2⟩
 |m::r,a::q,h1,h2,L,hL=>by
  rcases Dh.mp (show L∈(a::q)::bh t loose bound r (ip t m loose bound (a::q))from hL)with rfl|hL;·exact⟨h1,h2⟩
  ·exact j7 hl hb r _ zH (fun p hp=>(mem_nxt.mp hp).inb hl hb h2) L hL
theorem gc{t:Cd}{loose bound:Int}:∀(l:List Pl)(cur:List (Int×Int)),∃L,(bh t loose bound l cur)[(bh t loose bound l cur).length-1]? =some L/\(L=[]\/(bh t loose bound l cur).length=l.length+1)/\(L=[]↔∀s∈cur,cnt t loose bound l s=0)
 | [],cur=>⟨cur,rfl, .inr rfl,by
  constructor
  ·intro h;rw[h];exact fun s hs=>by cases hs
  ·intro h;cases cur with
   |nil=>rfl
   |cons a q=>exact absurd (h a (Di ..)) (by show ¬(1:Int)=0;decide)⟩
 |m::r,[]=>⟨[],rfl,.inl rfl,by simp⟩
 |m::r,a::q=>by
  obtain⟨L,h1,h2,h3⟩:=gc (t:=t) (loose:=loose) (bound:=bound) r<|ip t m loose bound (a::q);have hp:=kY (t:=t) (loose:=loose) (bound:=bound) r<|ip t m loose bound (a::q);refine⟨L,?_,?_,?_⟩
  ·show((a::q)::bh t loose bound r (ip t m loose bound (a::q)))[(bh t loose bound r<|ip t m loose bound (a::q)).length+1- 1]? =some L;rw[Il];have e:(bh t loose bound r<|ip t m loose bound (a::q)).length=(bh t loose bound r<|ip t m loose bound (a::q)).length-1+1:=by omega
   rw[e,EH];exact h1
  ·refine h2.imp id fun h=>?_;show(bh t loose bound r<|ip t m loose bound (a::q)).length+1=_;rw[h];rfl
  ·rw[h3];constructor
   ·intro h s hs;exact cnt_pos.mpr fun c hc hm=>h _<|mem_nxt.mpr ⟨s,hs,c,hc,hm,rfl⟩
   ·intro h p hp;obtain⟨s,hs,c,hc,hm,rfl⟩:=mem_nxt.mp hp;exact cnt_pos.mp (h s hs) c hc hm
theorem oV{α:Type}{xs:List α}{a:α}(h:xs[xs.length-1]? =some a):fA xs (-(1:Int))=.ok a:=by
 have hl:xs.length-1<xs.length:=(D5.mp h).1;have e:tP xs (-1)=some a:=by
  unfold tP ixN;rw[if_neg (by decide),if_pos (by omega)];show xs[_]? =some a;have:(-1+(xs.length:Int)).toNat=xs.length-1:=by omega
  rw[this];exact h
 unfold fA;rw[e];rfl
theorem eK{α:Type}{xs:List α}{i:Nat}{a:α}(h:xs[i]? =some a):fA xs (i:Int)=.ok a:=by
 unfold fA;rw[qL h];rfl
theorem wd{α:Type}{kvs:List ((Int×Int)×α)}{k:Int×Int}{a:α}(h:∀q∈kvs,q.1≠k):o7 kvs k a=kvs++[(k,a)]:=by
 unfold o7;rw[if_neg];intro z;obtain⟨q,h1,h2⟩:=List.any_eq_true.mp z;exact h q h1 (by simpa using h2)
theorem ni{α:Type}{f:Int×Int->List ((Int×Int)×α)->Res (List<|(Int×Int)×α)}{g:Int×Int->α}{ks:List (Int×Int)}(nd:ks.Nodup)(hl:ks.length<=900)(h:∀k∈ks,∀s:List ((Int×Int)×α),f k s=kO s k (g k)):bL f ks []=.ok (ks.map fun k=>(k,g k)):=by
 obtain⟨s,e,h1⟩:=dB (f:=f) (fun pre s=>s=pre.map fun k=>(k,g k)) ks [] rfl (by
  intro pre a post s e h1;have hp:pre.length<=900:=by rw[e]at hl;simp at hl;omega
  rw[h a (by rw[e];simp),h1];refine⟨_,bK (by rw[Dx];omega),?_⟩;rw[wd<|fun q hq=>?_];·simp
  ·obtain⟨k,hk,rfl⟩:=DQ.mp hq;intro z;have z:k=a:=z;subst z;rw[e,Kx]at nd;exact nd.2.2 k hk k (Di ..) rfl)
 rw[e,h1]
theorem oW{α:Type}{g:Int×Int->α}{k:Int×Int}:∀{ks:List (Int×Int)},k∈ks->look (ks.map fun k=>(k,g k)) k=some (g k)
 |a::ks,h=>by
  by_cases e:a=k;·subst e;simp[look,F0]
  ·have:k∈ks:=by
    rcases Dh.mp h with z|z;·exact absurd z.symm e
    ·exact z
   have ih:=oW (g:=g) this;simp only[look,Ds,F0,decide_eq_false e]at ih ⊢;exact ih
theorem iN{α:Type}{g:Int×Int->α}{k:Int×Int}{ks:List (Int×Int)}(h:k∈ks):getD (ks.map fun k=>(k,g k)) k=.ok (g k):=by
 unfold getD;rw[oW h];rfl
def dc(t:Cd)(strip:List Pl)(loose bound:Int)(i:Nat):List ((Int×Int)×Int):=((bh t loose bound strip [(0,0)])[i]?.getD []).map fun s=>(s,cnt t loose bound (strip.drop i) s)
theorem we{t:Cd}(h:Card t){strip:List Pl}{loose bound:Int}(hl:loose<=3)(hb:bound<=60){i:Nat}{m:Pl}{L:List (Int×Int)}(h1:strip[i]? =some m)(h2:(bh t loose bound strip [(0,0)])[i]? =some L)(h3:(bh t loose bound strip [(0,0)])[i+1]? =some (ip t m loose bound L))
  {pre:List (List<|(Int×Int)×Int)} (hp:pre.length<=900):zT fc t strip loose bound (bh t loose bound strip [(0,0)]) (i:Int) (pre++[dc t strip loose bound (i+1)])=.ok (pre++[dc t strip loose bound (i+1)]++[dc t strip loose bound i]):=by
 have all:=j7 (t:=t) hl hb strip [(0,0)] (by simp) zG L<|Dz h2;have len:=jC all.1 all.2;have ed:dc t strip loose bound (i+1)=(ip t m loose bound L).map fun s=>(s,cnt t loose bound (strip.drop<|i+1) s):=by unfold dc;rw[h3];rfl
 have ei:dc t strip loose bound i=L.map fun s=>(s,cnt t loose bound (strip.drop i) s):=by unfold dc;rw[h2];rfl
 have dr:strip.drop i=m::strip.drop (i+1):=by
  obtain⟨hi,e⟩:=D5.mp h1;rw[Eb hi,e]
 unfold zT;rw[ng,CP,eK h2,CP];rw[ni (g:=fun s=>(fK t m loose bound s).map fun c=>(([c]:Tx),ag t s c)) all.1 (by omega) (fun k hk s=>by
  rw[eK h1,CP,hV h,CP]),CP,F6]
 rw[show MW ((fun x:(Int×Int)×List (Tx×(Int×Int))=>x.1)∘fun k=>(k,(fK t m loose bound k).map fun c=>(([c]:Tx),ag t k c))) L=L from by
  rw[show((fun x:(Int×Int)×List (Tx×(Int×Int))=>x.1)∘fun k=>(k,(fK t m loose bound k).map fun c=>(([c]:Tx),ag t k c)))=id from rfl,L3]]
 rw[ni (g:=fun s=>cnt t loose bound (strip.drop i) s) all.1 (by omega) (fun k hk s=>by
  rw[iN hk,CP,eW (g:=fun a:Tx×(Int×Int)=>cnt t loose bound (strip.drop<|i+1) a.2) (by rw[Dx];unfold fK cap;refine EO (Hn _ _) (by decide)) (fun a ha=>by
   obtain⟨c,hc,rfl⟩:=DQ.mp ha;rw[ed];exact iN (mem_nxt.mpr ⟨k,hk,c,(mem_onw.mp hc).1,(mem_onw.mp hc).2,rfl⟩)),CP,CP,F6]
  congr 1;rw[dr];rfl),CP,fX (by simp;omega),CP,ei]
theorem kZ{t:Cd}(h:Card t){strip:List Pl}(hs:strip.length<=60){loose bound:Int}(h0:0<=loose)(hl:loose<=3)(hb0:0<=bound)(hb:bound<=60):∃D,ll t strip loose bound=.ok D/\D.length=(bh t loose bound strip [(0,0)]).length/\∀i,i<D.length->D[i]? =some (dc t strip loose bound i):=by
 unfold ll Bu;rw[rN h h0 hb0 hl hb strip (by omega),CP];obtain⟨L,hL,hE,_⟩:=gc (t:=t) (loose:=loose) (bound:=bound) strip [(0,0)];have hpos:=kY (t:=t) (loose:=loose) (bound:=bound) strip [(0,0)];have hlen:=lZ (t:=t) (loose:=loose) (bound:=bound) strip [(0,0)];have all:=j7 (t:=t) hl hb strip [(0,0)] (by simp) zG L<|Dz hL;have len:=jC all.1 all.2;obtain⟨k,hk⟩:∃k,(bh t loose bound strip [(0,0)]).length=k+1:=⟨_,(Nat.sub_add_cancel hpos).symm⟩
 rw[hk,Il]at hL;have e1:bL (fun(a:Int×Int)(s:List ((Int×Int)×Int))=>kO s a (1:Int)) L []=.ok (dc t strip loose bound k):=by
  rw[ni (g:=fun _=>(1:Int)) all.1 (by omega)<|fun _ _ _=>rfl];unfold dc;rw[hL];show CW (L.map _)=CW (L.map _);rcases hE with rfl|hE
  ·rfl
  ·have:k=strip.length:=by omega
   subst this;rw[G2];rfl
 rw[oV (a:=L) (by rw[hk];exact hL),CP,e1,CP,CP];have er:mZ (((bh t loose bound strip [(0,0)]).length:Int)-1)=.ok ((Ed k).map fun(i:Nat)=>(i:Int)).reverse:=by
  rw[hk];have e:((k+1:Nat):Int)-1=(k:Int):=by omega
  rw[e];unfold mZ fB;rw[bK ⟨by omega,by omega⟩];rfl
 rw[er,CP];obtain⟨s,es,h1,h2⟩:=dB (f:=zT fc t strip loose bound<|bh t loose bound strip [(0,0)]) (fun pre s=>s.length=pre.length+1/\∀j,j<=pre.length->s[j]? =some (dc t strip loose bound<|k-j)) ((Ed k).map fun(i:Nat)=>(i:Int)).reverse [dc t strip loose bound k] ⟨rfl,fun j hj=>by
  have:j=0:=Nat.le_zero.mp hj;subst this;rfl⟩ (by
  intro pre a post s e ⟨h1,h2⟩;have hlen2:pre.length<k:=by have:=congrArg FA e;simp at this;omega
  have ha:a=((k-1-pre.length:Nat):Int):=by
   have:((Ed k).map fun(i:Nat)=>(i:Int)).reverse[pre.length]? =some a:=by rw[e];simp
   rw[FH (by simpa using hlen2),Dx,IG,D7,Fx (by omega)]at this;exact(DM this).symm
  obtain⟨m,L',q1,q2,q3⟩:=iM (t:=t) (loose:=loose) (bound:=bound) strip [(0,0)] (k-1-pre.length) (by omega);have hs2:s=s.dropLast++[dc t strip loose bound (k-1-pre.length+1)]:=by
   have hne:s≠[]:=fun z=>by rw[z]at h1;simp at h1
   have hl2:=h2 pre.length<|D0 _;have e3:k-1-pre.length+1=k-pre.length:=by omega
   rw[e3];have:s.getLast hne=dc t strip loose bound (k-pre.length):=by
    have h5:=List.getLast?_eq_getElem? (l:=s);rw[h1,Il,hl2,List.getLast?_eq_some_getLast hne]at h5;exact DM h5
   rw[<-this];exact(List.dropLast_concat_getLast hne).symm
  rw[ha,hs2,we h hl hb q1 q2 q3 (by rw[List.length_dropLast];omega),<-hs2];refine⟨_,rfl,by simp[h1],fun j hj=>?_⟩;rw[GR,Js]at hj;by_cases z:j<=pre.length
  ·rw[DF (by omega)];exact h2 j z
  ·have ej:j=pre.length+1:=by omega
   subst ej;rw[Dw (by omega),h1,He];show some _=some _;congr 2;omega)
 rw[es,CP];have hsl:s.length=k+1:=by simpa using h1
 refine⟨_,rfl,by rw[HU,hk];exact hsl,fun i hi=>?_⟩;rw[HU]at hi;rw[FH hi,h2 _ (by simp;omega)];congr 2;omega
theorem rO{t:Cd}(h:Card t){strip:List Pl}(hs:strip.length<=60){loose bound:Int}(h0:0<=loose)(hl:loose<=3)(hb0:0<=bound)(hb:bound<=60):oK t strip loose bound=.ok (cnt t loose bound strip (0,0)):=by
 unfold oK Bv;obtain⟨D,e,h1,h2⟩:=kZ h hs h0 hl hb0 hb;have hpos:=kY (t:=t) (loose:=loose) (bound:=bound) strip [(0,0)];rw[e,CP,show fA D (0:Int)=.ok (dc t strip loose bound 0)from eK (i:=0) (h2 0 (by omega)),CP];obtain⟨r,hr⟩:=eD (t:=t) (loose:=loose) (bound:=bound) strip [(0,0)];congr 1;unfold dc oF;rw[hr];rfl
theorem yy{t:Cd}(h:Card t){strip:List Pl}(hs:strip.length<=60){loose bound:Int}(h0:0<=loose)(hl:loose<=3)(hb0:0<=bound)(hb:bound<=60):∃r L,lj t strip loose bound=.ok r/\fA r (-(1:Int))=.ok L/\(L.isEmpty=true↔cnt t loose bound strip (0,0)=0):=by
 obtain⟨L,hL,_,hE⟩:=gc (t:=t) (loose:=loose) (bound:=bound) strip [(0,0)];refine⟨_,L,rN h h0 hb0 hl hb strip (by omega),oV hL,?_⟩;rw[List.isEmpty_iff,hE];simp
theorem m6{c:Int->Res Bool}{f:Int->Res Int}{P:Int->Prop}{N:Int}(hc:∀b,0<=b->b<=N->∃r,c b=.ok r/\(r=true↔¬P b))(hf:∀b,f b=.ok (b+1)):∀(m:Nat)(fuel:Nat)(b:Int),0<=b->m<fuel->(∃d,b<=d/\d<=b+m/\d<=N/\P d)->(eZ c f fuel b).Ok fun d=>b<=d/\P d/\∀e,b<=e->e<d->¬P e
 |m,0,b,_,h,_=>absurd h (by omega)
 |m,fuel+1,b,h0,hm,⟨d,d1,d2,d4,d3⟩=>by
  obtain⟨r,er,hr⟩:=hc b h0 (by omega);unfold eZ;rw[er,CP];cases r with
  |false=>exact⟨GA _,IK.mp fun z=>Bool.noConfusion<|hr.mpr z,fun e h1 h2=>absurd h1 (by omega)⟩
  |true=>
   have np:=hr.mp rfl;rw[if_pos rfl,hf,CP];have hd:d≠b:=fun z=>np<|z▸d3;cases m with
   |zero=>exact absurd d2 (by omega)
   |succ m=>
    refine(m6 hc hf m fuel (b+1) (by omega) (by omega) ⟨d,by omega,by omega,d4,d3⟩).imp fun x zz=>?_;obtain⟨h1,h2,h3⟩:=zz;refine⟨by omega,h2,fun e h4 h5=>?_⟩;by_cases z:e=b;·rw[z];exact np
    ·exact h3 e (by omega) h5
theorem wg{t:Cd}(h:Card t){strip:List Pl}(hs:strip.length<=60){loose:Int}(h0:0<=loose)(hl:loose<=3):∃r,oM t strip loose=.ok r/\((r=none/\cnt t loose strip.length strip (0,0)=0)\/∃d,r=some d/\0<=d/\d<=strip.length/\cnt t loose d strip (0,0)≠0/\∀e,0<=e->e<d->cnt t loose e strip (0,0)=0):=by
 unfold oM Bw;obtain⟨r,L,e1,e2,e3⟩:=yy h hs h0 hl (show(0:Int)<=strip.length by omega) (by omega);rw[e1,CP,e2,CP,CP];by_cases z:cnt t loose strip.length strip (0,0)=0
 ·rw[if_pos<|e3.mpr z];exact⟨_,rfl,.inl ⟨rfl,z⟩⟩
 ·rw[if_neg<|fun y=>z<|e3.mp y];obtain⟨d,ed,d1,d2,d3⟩:=(m6 (N:=60) (c:=AG lj t strip loose) (f:=AH) (P:=fun b=>cnt t loose b strip (0,0)≠0) (fun b hb0 hb1=>by
   obtain⟨r,L,e1,e2,e3⟩:=yy h hs h0 hl hb0 hb1;unfold AG;rw[e1,CP,e2,CP];exact⟨_,rfl,by rw[e3,IK]⟩) (fun b=>by unfold AH;rfl) strip.length cap 0 (by decide) (by show strip.length<100000;omega) ⟨strip.length,by omega,by omega,by omega,z⟩).ex
  rw[ed,CP];refine⟨_,rfl,.inr ⟨d,rfl,d1,?_,d2,fun e h4 h5=>IK.mp<|d3 e h4 h5⟩⟩;by_cases y:(d:Int)<=strip.length;·exact y
  ·exact absurd z (d3 strip.length (by omega) (by omega))
theorem jh{moves:List (Tx×(Int×Int))}{counts:List ((Int×Int)×Int)}{f:Tx×(Int×Int)->Int}(hf:∀a∈moves,getD counts a.2=.ok (f a)):∀(post pre:List (Tx×(Int×Int)))(n:Int)(fuel:Nat),moves=pre++post->0<=n->n<(post.map f).sum->post.length<fuel->
  ∃p a q n',post=p++a::q/\eZ (zU moves counts) (zV moves counts) fuel (n,(pre.length:Int))=.ok (n',((pre.length+p.length:Nat):Int))/\n=(p.map f).sum+n'/\0<=n'/\n'<f a
 | [],pre,n,fuel,_,h0,h1,_=>absurd h1 (by simp;omega)
 |a::post,pre,n,0,_,_,_,h=>absurd h (by omega)
 |a::post,pre,n,fuel+1,hm,h0,h1,hl=>by
  have ha:moves[pre.length]? =some a:=by rw[hm];simp
  have hf':=hf a (by rw[hm];simp);have e1:zU moves counts (n,(pre.length:Int))=.ok (decide<|f a<=n):=by
   unfold zU;rw[eK ha,CP,CP,hf',CP]
  unfold eZ;rw[e1,CP];by_cases z:f a<=n
  ·have e2:zV moves counts (n,(pre.length:Int))=.ok (n-f a,(((pre++[a]).length:Nat):Int)):=by
    unfold zV;rw[eK ha,CP,CP,hf',CP];simp
   rw[if_pos<|decide_eq_true z,e2,CP];rw[Ds,EY]at h1;obtain⟨p,b,q,n',g1,g2,g3,g4,g5⟩:=jh hf post (pre++[a]) (n-f a) fuel (by rw[hm];simp) (by omega) (by omega) (by simp at hl;omega);refine⟨a::p,b,q,n',by rw[g1];rfl,?_,by rw[Ds,EY];omega,g4,g5⟩;rw[g2];congr 2;simp;omega
  ·rw[if_neg (by simpa using z)];exact⟨[],a,post,n,rfl,rfl,by simp,h0,by omega⟩
def IsWay(t:Cd)(loose bound:Int):List Pl->Int×Int->Int->Tx->Prop
 | [],_,n,x=>x=[]/\n=0
 |m::r,s,n,x=>∃p c q n' y,fK t m loose bound s=p++c::q/\x=c::y/\n=(p.map fun c=>cnt t loose bound r<|ag t s c).sum+n'/\0<=n'/\n'<cnt t loose bound r (ag t s c)/\IsWay t loose bound r (ag t s c) n' y
theorem tM{t:Cd}{m:Pl}{loose bound:Int}{s:Int×Int}{r:List Pl}{L:List (Int×Int)}(hL:∀c∈fK t m loose bound s,ag t s c∈L){n:Int}(h0:0<=n)(h1:n<cnt t loose bound (m::r) s):
  ∃p c q n',fK t m loose bound s=p++c::q/\qg ((fK t m loose bound s).map fun c=>([c],ag t s c)) (L.map fun s=>(s,cnt t loose bound r s)) n=.ok ([c],ag t s c,n')/\n=(p.map fun c=>cnt t loose bound r<|ag t s c).sum+n'/\0<=n'/\n'<cnt t loose bound r (ag t s c):=by
 unfold qg Bx;have hs:((fK t m loose bound s).map fun c=>(([c]:Tx),ag t s c)).map (fun a=>cnt t loose bound r a.2)=(fK t m loose bound s).map fun c=>cnt t loose bound r (ag t s c):=by rw[F6];rfl
 obtain⟨p,a,q,n',g1,g2,g3,g4,g5⟩:=jh (moves:=(fK t m loose bound s).map fun c=>(([c]:Tx),ag t s c)) (counts:=L.map fun s=>(s,cnt t loose bound r s)) (f:=fun a=>cnt t loose bound r a.2) (fun a ha=>by
  obtain⟨c,hc,rfl⟩:=DQ.mp ha;exact iN (hL c hc)) _ [] n cap rfl h0 (by rw[hs];exact h1) (by rw[Dx];unfold fK cap;exact Nat.lt_of_le_of_lt (Hn _ _) (by decide))
 obtain⟨P,R,e1,e2,e3⟩:=List.map_eq_append_iff.mp g1;obtain⟨c,Q,e4,e5,e6⟩:=List.map_eq_cons_iff.mp e3;subst e2 e5;refine⟨P,c,Q,n',by rw[e1,e4],?_,?_,g4,g5⟩
 ·have e7:((fK t m loose bound s).map fun c=>(([c]:Tx),ag t s c))[(([]:List (Tx×(Int×Int))).length+(P.map fun c=>(([c]:Tx),ag t s c)).length:Nat)]? =some ([c],ag t s c):=by
   rw[e1,e4];simp
  rw[show((0:Int))=(([]:List (Tx×(Int×Int))).length:Int)from rfl,g2,CP,eK e7,CP]
 ·rw[g3,F6];rfl
def eL{α:Type}(i:Nat):List α->List (Int×α)
 | []=>[]
 |a::r=>((i:Int),a)::eL (i+1) r
theorem wj{α:Type}:∀(i:Nat)(xs:List α),(eL i xs).length=xs.length
 |_,[]=>rfl
 |i,a::r=>by show(eL (i+1) r).length+1=r.length+1;rw[wj]
theorem yA{α:Type}:∀(i:Nat)(xs:List α)(j:Nat)(h:j<xs.length),(eL i xs)[j]? =some (((i+j:Nat):Int),xs[j])
 |i,a::r,0,_=>rfl
 |i,a::r,j+1,h=>by
  show(eL (i+1) r)[j]? =_;rw[yA (i+1) r j (by simpa using h)];show some (((i+1+j:Nat):Int),r[j]'(by simpa using h))=some (((i+(j+1):Nat):Int),r[j]'(by simpa using h));rw[show i+1+j=i+(j+1) by omega]
theorem rP{α:Type}(xs:List α):gD xs=eL 0 xs:=by
 refine EU fun j=>?_;by_cases h:j<xs.length
 ·rw[yA 0 xs j h];unfold gD;rw[Ju,Fx h,CZ h,Fy]
 ·rw[Ea (show(gD xs).length<=j by simp[gD];omega),Ea (by rw[wj];omega)]
theorem oX{t:Cd}(h:Card t){strip:List Pl}{loose bound:Int}(hw:(bh t loose bound strip [(0,0)]).length=strip.length+1){D:List (List<|(Int×Int)×Int)}(hl:D.length=strip.length+1)(hD:∀i,i<D.length->D[i]? =some (dc t strip loose bound i)):∀(post:List Pl)(i:Nat)(s:Int×Int)(n:Int)(x:Tx),strip.drop i=post->i<=strip.length->s∈(bh t loose bound strip [(0,0)])[i]?.getD []->0<=n->n<cnt t loose bound post s->x.length+post.length<=1000->
  ∃s' n' y,bL (f9 qg fc t loose bound D) (eL i post) (s,n,x)=.ok (s',n',x++y)/\IsWay t loose bound post s n y
 | [],i,s,n,x,_,_,_,h0,h1,_=>⟨s,n,[],by rw [EN];rfl,rfl,by
  have:n<1:=h1;omega⟩
 |m::r,i,s,n,x,hd,hi,hs,h0,h1,hx=>by
  have hi':i<strip.length:=by
   rcases Ky i strip.length with z|z;·exact z
   ·rw[Gf z]at hd;cases hd
  rw[Eb hi']at hd;obtain⟨hd1,hd2⟩:=GL hd;obtain⟨m',L,q1,q2,q3⟩:=iM (t:=t) (loose:=loose) (bound:=bound) strip [(0,0)] i (by omega);have hm:m'=m:=by rw[CZ hi',hd1]at q1;exact(DM q1).symm
  subst hm;rw[q2]at hs;have hs:s∈L:=hs;have hnx:∀c∈fK t m' loose bound s,ag t s c∈ip t m' loose bound L:=fun c hc=>mem_nxt.mpr ⟨s,hs,c,(mem_onw.mp hc).1,(mem_onw.mp hc).2,rfl⟩;obtain⟨p,c,q,n',g1,g2,g3,g4,g5⟩:=tM (r:=r) hnx h0 h1;have e1:f9 qg fc t loose bound D ((i:Int),m') (s,n,x)=.ok (ag t s c,n',x++[c]):=by
   unfold f9;dsimp only;rw[hV h,CP,show(i:Int)+1=((i+1:Nat):Int) by omega,eK (hD (i+1) (by omega)),CP];rw[show dc t strip loose bound (i+1)=(ip t m' loose bound L).map fun s=>(s,cnt t loose bound r s) by unfold dc;rw[q3,hd2];rfl,g2,CP,jt (by simp at hx ⊢;omega),CP]
  show ∃s' n' y,(f9 qg fc t loose bound D ((i:Int),m') (s,n,x)).bind _=_/\_;rw[e1,CP];obtain⟨s',n'',y,f1,f2⟩:=oX h hw hl hD r (i+1) (ag t s c) n' (x++[c]) hd2 (by omega) (by rw[q3];exact hnx c (by rw[g1];simp)) g4 g5 (by simp at hx ⊢;omega);exact⟨s',n'',c::y,by rw[f1];simp,p,c,q,n',y,g1,rfl,g3,g4,g5,f2⟩
theorem l0{t:Cd}{loose bound:Int}{strip:List Pl}(h:cnt t loose bound strip (0,0)≠0):(bh t loose bound strip [(0,0)]).length=strip.length+1:=by
 obtain⟨L,_,h2,h3⟩:=gc (t:=t) (loose:=loose) (bound:=bound) strip [(0,0)];rcases h2 with z|z;·exact absurd (h3.mp z (0,0)<|Di ..) h
 ·exact z
theorem qo{t:Cd}(h:Card t){strip:List Pl}(hs:strip.length<=60){loose bound:Int}(h0:0<=loose)(hl:loose<=3)(hb0:0<=bound)(hb:bound<=60){n:Int}(n0:0<=n)(n1:n<cnt t loose bound strip (0,0)):∃x,gN t strip loose bound n=.ok x/\IsWay t loose bound strip (0,0) n x:=by
 unfold gN rD;obtain⟨D,e,h1,h2⟩:=kZ h hs h0 hl hb0 hb;have hw:=l0 (t:=t) (loose:=loose) (bound:=bound) (strip:=strip) (by omega);obtain⟨r,hr⟩:=eD (t:=t) (loose:=loose) (bound:=bound) strip [(0,0)];have ez:oF (dc t strip loose bound 0) ((0:Int),(0:Int)) (0:Int)=cnt t loose bound strip (0,0):=by
  unfold dc oF;rw[hr];rfl
 rw[e,CP,if_neg (by simpa using n0),show fA D (0:Int)=.ok (dc t strip loose bound 0)from eK (i:=0) (h2 0 (by omega)),CP,CP,ez,CP,if_neg (by simp;omega)];obtain⟨s',n',y,f1,f2⟩:=oX h hw (by omega) h2 strip 0 (0,0) n [] rfl (by omega) (by rw[hr];simp) n0 n1 (by simp;omega);rw[rP,f1,CP];exact⟨y,rfl,f2⟩
theorem IsWay.does{t:Cd}{loose bound:Int}:∀{l:List Pl}{s:Int×Int}{n:Int}{x:Tx},IsWay t loose bound l s n x->x.length=l.length/\dv x/\cU t loose bound s (x.zip l)=true/\0<=n/\n<cnt t loose bound l s
 | [],s,n,x,h=>by
  obtain⟨e1,e2⟩:=h;subst e1 e2;exact⟨rfl,(fun c(hc:c∈[])=>nomatch hc),rfl,GA _,(by decide:(0:Int)<1)⟩
 |m::r,s,n,x,h=>by
  obtain⟨p,c,q,n',y,g1,g2,g3,g4,g5,g6⟩:=h;obtain⟨f1,f2,f3,f4,f5⟩:=g6.does;subst g2;have hc:c∈fK t m loose bound s:=by rw[g1];simp
  obtain⟨c1,c2⟩:=mem_onw.mp hc;have nn:∀l:List Nat,0<=(l.map fun c=>cnt t loose bound r<|ag t s c).sum:=fun l=>by
   induction l with
   |nil=>exact GA _
   |cons a l ih=>rw[Ds,EY];have:=dE (t:=t) (loose:=loose) (bound:=bound) r<|ag t s a;omega
  refine⟨by simp[f1],fun d hd=>?_,?_,?_,?_⟩
  ·rcases Dh.mp hd with z | z;·rw[z];exact c1
   ·exact f2 d z
  ·show(bz t loose bound s c m && cU t loose bound (ag t s c) (y.zip r))=true;rw[c2,f3];rfl
  ·have:=nn p;omega
  ·show n< ((fK t m loose bound s).map fun c=>cnt t loose bound r<|ag t s c).sum;rw[g1,L8,List.sum_append,Ds,EY];have:=nn q;omega
def lx(c:Nat):Int:=if c=102 then 0 else if c=98 then 1 else 2
theorem wk{c d:Nat}(hc:isTurn c)(hd:isTurn d):qh [c] [d]=.ok (decide<|lx c<lx d):=by
 unfold qh BC;rcases hc with rfl|rfl|rfl<;>rcases hd with rfl|rfl|rfl<;>rfl
theorem xY{t:Cd}{m:Pl}{loose bound:Int}{s:Int×Int}{c:Nat}(h:c∈fK t m loose bound s):∃q,fK t m loose bound s=((fK t m loose bound s).filter fun d=>decide<|lx d<lx c)++c::q:=by
 have hc:=mem_onw.mp h;unfold fK at h ⊢;rcases hc.1 with rfl|rfl|rfl<;>cases h1:bz t loose bound s 102 m<;>cases h2:bz t loose bound s 98 m<;>cases h3:bz t loose bound s 105 m<;>simp[h1,h2,h3,lx]at hc ⊢
theorem m7{t:Cd}(h:Card t){strip:List Pl}{loose bound:Int}(hw:(bh t loose bound strip [(0,0)]).length=strip.length+1){D:List (List<|(Int×Int)×Int)}(hl:D.length=strip.length+1)(hD:∀i,i<D.length->D[i]? =some (dc t strip loose bound i)){text:Tx}(ht:text.length=strip.length)(h60:strip.length<=1000):∀(post:List Pl)(i:Nat)(s:Int×Int)(k:Int)(x:Tx),strip.drop i=post->text.drop i=x->i<=strip.length->s∈(bh t loose bound strip [(0,0)])[i]?.getD []->dv x->cU t loose bound s (x.zip post)=true->
  ∃s' n,bL (zt fc qh hZ t loose bound text D) (eL i post) (k,s)=.ok (k+n,s')/\IsWay t loose bound post s n x
 | [],i,s,k,x,hd,hx,hi,_,_,_=>⟨s,0,by rw [Mb];rfl,by
  have h1:=congrArg FA hd;have h2:=congrArg FA hx;simp at h1 h2;exact FX.mp (by omega),rfl⟩
 |m::r,i,s,k,x,hd,hx,hi,hs,hT,hdo=>by
  have hi':i<strip.length:=by
   rcases Ky i strip.length with z|z;·exact z
   ·rw[Gf z]at hd;cases hd
  rw[Eb hi']at hd;obtain⟨hd1,hd2⟩:=GL hd;have hit:i<text.length:=by omega
  rw[Eb hit]at hx;subst hx;have hcT:isTurn text[i]:=hT _<|Di ..;have hdo:(bz t loose bound s text[i] m&&cU t loose bound (ag t s text[i]) ((text.drop<|i+1).zip r))=true:=hdo;rw[EC]at hdo;obtain⟨m',L,q1,q2,q3⟩:=iM (t:=t) (loose:=loose) (bound:=bound) strip [(0,0)] i (by omega);have hm:m'=m:=by rw[CZ hi',hd1]at q1;exact(DM q1).symm
  subst hm;rw[q2]at hs;have hs:s∈L:=hs;have hnx:∀c∈fK t m' loose bound s,ag t s c∈ip t m' loose bound L:=fun c hc=>mem_nxt.mpr ⟨s,hs,c,(mem_onw.mp hc).1,(mem_onw.mp hc).2,rfl⟩;have hon:text[i]∈fK t m' loose bound s:=mem_onw.mpr ⟨hcT,hdo.1⟩;obtain⟨q,hq⟩:=xY hon;have ei:fD text (i:Int)=.ok [text[i]]:=by
   obtain⟨c,e1,e2⟩:=fY (x:=text) (i:=(i:Int)) (by omega) (by omega) (by omega);rw[e1];have:text[i]? =some c:=e2;rw[CZ hit]at this;rw[DM this]
  have e1:zt fc qh hZ t loose bound text D ((i:Int),m') (k,s)=.ok (k+(((fK t m' loose bound s).filter fun d=>decide<|lx d<lx text[i]).map fun c=>cnt t loose bound r<|ag t s c).sum,ag t s text[i]):=by
   unfold zt;dsimp only;rw[hV h,CP,ei,CP,kU s hcT];rw[nZ (g:=fun a:Tx×(Int×Int)=>if lx (a.1.headD 0)<lx text[i]then some (cnt t loose bound r a.2)else none) (by rw[Dx];unfold fK;exact EO (Hn _ _) (by show 3<=100000;decide)) (fun a ha=>by
    obtain⟨c,hc,rfl⟩:=DQ.mp ha;rw[CP,wk (mem_onw.mp hc).1 hcT,CP];show _=CW (if lx c<lx text[i]then _ else _);by_cases z:lx c<lx text[i]
    ·rw[if_pos<|decide_eq_true z,if_pos z,show(i:Int)+1=((i+1:Nat):Int) by omega,eK (hD (i+1) (by omega)),CP];rw[show dc t strip loose bound (i+1)=(ip t m' loose bound L).map fun s=>(s,cnt t loose bound r s) by unfold dc;rw[q3,hd2];rfl,iN<|hnx c hc,CP]
    ·rw[if_neg (by simpa using z),if_neg z]),CP,CP,CP]
   congr 3;generalize fK t m' loose bound s=O
   induction O with
   |nil=>rfl
   |cons a O ih=>
    rw[Ds,Fw,List.filter_cons];by_cases z:lx a<lx text[i]
    ·rw[if_pos (show lx (ML ([a],ag t s a).1 0)< lx text[i]from z),if_pos<|decide_eq_true z,Ds];exact(EY ..).trans ((congrArg (cnt t loose bound r (ag t s a)+ ·) ih).trans (EY ..).symm)
    ·rw[if_neg (show ¬lx (ML ([a],ag t s a).1 0)<lx text[i]from z),if_neg (by simpa using z),<-ih]
  show ∃s' n,(zt fc qh hZ t loose bound text D ((i:Int),m') (k,s)).bind _=_/\_;rw[e1,CP];obtain⟨s',n,f1,f2⟩:=m7 h hw hl hD ht h60 r (i+1) (ag t s text[i]) (k+(((fK t m' loose bound s).filter fun d=>decide<|lx d<lx text[i]).map fun c=>cnt t loose bound r<|ag t s c).sum) (text.drop<|i+1) hd2 rfl (by omega) (by rw[q3];exact hnx _ hon) (fun c hc=>hT c<|Dk _ hc) hdo.2;have f3:=f2.does;refine⟨s',_,by rw[f1,Int.add_assoc],_,text[i],q,n,text.drop<|i+1,hq,rfl,rfl,f3.2.2.2.1,f3.2.2.2.2,f2⟩
theorem ji{t:Cd}{loose bound:Int}:∀{l:List Pl}{s:Int×Int}{x:Tx},x.length=l.length->dv x->cU t loose bound s (x.zip l)=true->cnt t loose bound l s≠0
 | [],s,x,_,_,_=>by show(1:Int)≠0;decide
 |m::r,s,[],h,_,_=>by cases h
 |m::r,s,c::y,h,hT,hd=>by
  have hd:(bz t loose bound s c m&&cU t loose bound (ag t s c) (y.zip r))=true:=hd;rw[EC]at hd;intro z;exact ji (by simpa using h) (fun d hd=>hT d<|Dk _ hd) hd.2<|cnt_pos.mp z c (hT c<|Di ..) hd.1
theorem xZ{t:Cd}(h:Card t){strip:List Pl}(hs:strip.length<=60){loose bound:Int}(h0:0<=loose)(hl:loose<=3)(hb0:0<=bound)(hb:bound<=60){x:Tx}(hx:x.length=strip.length)(hT:dv x)(hd:cU t loose bound (0,0) (x.zip strip)=true):∃n,xG t strip loose bound x=.ok n/\IsWay t loose bound strip (0,0) n x:=by
 unfold xG BD;obtain⟨D,e,h1,h2⟩:=kZ h hs h0 hl hb0 hb;have hw:=l0<|ji hx hT hd;obtain⟨r,hr⟩:=eD (t:=t) (loose:=loose) (bound:=bound) strip [(0,0)];have er:gP x strip.length=true:=by
  unfold gP;rw[EC,decide_eq_true_iff,G1];exact⟨hx,fun c hc=>turnB_iff.mpr<|hT c hc⟩
 rw[xT h strip h0 hb0 (by omega),er,hd,CP,CP,if_neg (by decide),e,CP];obtain⟨s',n,f1,f2⟩:=m7 h hw (by omega) h2 hx (by omega) strip 0 (0,0) 0 x rfl rfl (by omega) (by rw[hr];simp) hT hd;rw[rP,f1,CP,M8];exact⟨n,rfl,f2⟩
theorem oY{f:Nat->Int}(hf:∀c,0<=f c):∀{p q p' q':List Nat}{c c':Nat}{n n':Int},p++c::q=p'++c'::q'->0<=n->n<f c->0<=n'->n'<f c'->(p.map f).sum+n=(p'.map f).sum+n'->c=c'/\n=n'
 | [],q,[],q',c,c',n,n',e,_,_,_,_,h=>by
  refine⟨(GL e).1,?_⟩;simpa using h
 | [],q,a::p',q',c,c',n,n',e,h1,h2,h3,h4,h=>by
  have ha:c=a:=(GL e).1;subst ha;have nn:0<=(p'.map f).sum:=by
   clear h e
   induction p' with
   |nil=>exact GA _
   |cons b l ih=>rw[Ds,EY];have:=hf b;omega
  rw[Ds,EY,Gb,Md]at h;omega
 |a::p,q,[],q',c,c',n,n',e,h1,h2,h3,h4,h=>by
  have ha:a=c':=(GL e).1;subst ha;have nn:0<=(p.map f).sum:=by
   clear h e
   induction p with
   |nil=>exact GA _
   |cons b l ih=>rw[Ds,EY];have:=hf b;omega
  rw[Ds,EY,Gb,Md]at h;omega
 |a::p,q,b::p',q',c,c',n,n',e,h1,h2,h3,h4,h=>by
  have hab:=GL e;rw[Ds,EY,Ds,EY,hab.1]at h;exact oY hf hab.2 h1 h2 h3 h4 (by omega)
theorem IsWay.uniq{t:Cd}{loose bound:Int}:∀{l:List Pl}{s:Int×Int}{n:Int}{x y:Tx},IsWay t loose bound l s n x->IsWay t loose bound l s n y->x=y
 | [],_,_,_,_,h1,h2=>by rw[h1.1,h2.1]
 |m::r,s,n,x,y,h1,h2=>by
  obtain⟨p,c,q,n',z,g1,g2,g3,g4,g5,g6⟩:=h1;obtain⟨p',c',q',n'',z',k1,k2,k3,k4,k5,k6⟩:=h2;have u:=oY (f:=fun c=>cnt t loose bound r<|ag t s c) (fun c=>dE r _) (g1.symm.trans k1) g4 g5 k4 k5<|g3.symm.trans k3;obtain⟨u1,u2⟩:=u;subst u1 u2;rw[g2,k2,g6.uniq k6]
theorem fL{t u:Cd}{loose bound:Int}{f:Nat->Nat}(hst:∀s c,isTurn c->ag u s c=ag t s (f c))(hmay:∀s c m,isTurn c->bz u loose bound s c m=bz t loose bound s (f c) m)(hsum:∀g:Nat->Int,g (f 102)+g (f 98)+g (f 105)=g 102+g 98+g 105):∀(l:List Pl)(s:Int×Int),cnt u loose bound l s=cnt t loose bound l s
 | [],_=>rfl
 |m::r,s=>by
  rw[eO,eO];have a:isTurn 102:=.inl rfl;have b:isTurn 98:=.inr<|.inl rfl;have c:isTurn 105:=.inr<|.inr rfl;rw[fL hst hmay hsum r,fL hst hmay hsum r,fL hst hmay hsum r,hmay _ _ _ a,hmay _ _ _ b,hmay _ _ _ c,hst _ _ a,hst _ _ b,hst _ _ c];exact hsum fun c=>qm (bz t loose bound s c m)<|cnt t loose bound r<|ag t s c
theorem m8{t u:Cd}{loose bound:Int}{f:Nat->Nat}(hst:∀s c,isTurn c->ag u s c=ag t s (f c))(hmay:∀s c m,isTurn c->bz u loose bound s c m=bz t loose bound s (f c) m):∀(l:List Pl)(x:Tx)(s:Int×Int),dv x->cU u loose bound s (x.zip l)=cU t loose bound s ((x.map f).zip l)
 | [],x,s,_=>by cases x<;>rfl
 |m::r,[],s,_=>rfl
 |m::r,c::x,s,h=>by
  have hc:=h c<|Di ..;show(bz u loose bound s c m&&cU u loose bound (ag u s c) (x.zip r))=(bz t loose bound s (f c) m&&cU t loose bound (ag t s<|f c) ((x.map f).zip r))
  rw[hmay _ _ _ hc,hst _ _ hc,m8 hst hmay r x _ fun d hd=>h d<|Dk _ hd]
theorem oZ{t u:Cd}{loose bound:Int}(hst:∀s c,isTurn c->ag u s c=ag t s c)(hmay:∀s c m,isTurn c->bz u loose bound s c m=bz t loose bound s c m):∀(l:List Pl)(s:Int×Int)(n:Int)(x:Tx),IsWay u loose bound l s n x->IsWay t loose bound l s n x
 | [],_,_,_,h=>h
 |m::r,s,n,x,h=>by
  obtain⟨p,c,q,n',y,g1,g2,g3,g4,g5,g6⟩:=h;have ho:fK u m loose bound s=fK t m loose bound s:=by
   unfold fK;refine List.filter_congr fun c hc=>hmay _ _ _ ?_;simpa [isTurn] using hc
  have hT:∀d∈p++c::q,isTurn d:=fun d hd=>by rw[<-g1]at hd;exact(mem_onw.mp hd).1
  have hcn:∀s,cnt u loose bound r s=cnt t loose bound r s:=fL (f:=id) hst hmay (fun g=>rfl) r;have hc:isTurn c:=hT c (by simp);rw[hcn,hst _ _ hc]at g5;rw[hst _ _ hc]at g6;refine⟨p,c,q,n',y,by rw[<-ho,g1],g2,?_,g4,g5,oZ hst hmay r _ _ _ g6⟩;rw[g3];congr 2;exact HS fun d hd=>by rw[hcn,hst _ _ (hT d (by simp[hd]))]
theorem tN{t:Cd}(h:Card t)(k i:Int):cY (eB t k) ((i+k)%4)=cY t (i%4):=by
 have key:∀j:Int,0<=j->j<4->cY (eB t k) j=cY t ((j-k)%4):=fun j j0 j1=>by
  have:j=0\/j=1\/j=2\/j=3:=by omega
  rcases this with rfl|rfl|rfl|rfl<;>rfl
 rw[key _ (eg _).1 (eg _).2];congr 1;omega
theorem qp{t:Cd}(h:Card t)(k i:Int)(c:Nat):place (standAt (eB t k) i) c=place (standAt t i) c:=by
 have a1:∀j:Int,cY (standAt (eB t k) i) ((j+k)%4)=cY (standAt t i) (j%4):=fun j=>tN h k j;have e:(standAt (eB t k) i).2.2=((standAt t i).2.2+k)%4:=by
  unfold standAt eB;dsimp only;split<;>omega
 have m:(standAt t i).2.2%4=(standAt t i).2.2:=by unfold standAt;dsimp only;omega
 unfold place;rw[e,a1,m,show(((standAt t i).2.2+k)%4+2)%4=((standAt t i).2.2+2+k)%4 by omega,a1];rfl
theorem rQ{t:Cd}(h:Card t){c:Nat}(hc:isTurn c):tw (eA t) c=tw t (ff c):=by
 unfold tw;rcases h.lay with e|e<;>rw[show(eA t).1=if t.1=[83]then [90]else [83]from rfl,e]<;>rcases hc with rfl|rfl|rfl<;>decide
theorem qq{t:Cd}(h:Card t)(i:Int){c:Nat}(hc:isTurn c):place (standAt (eA t) i) c=place (standAt t i) (ff c):=by
 have key:∀j:Int,0<=j->j<4->cY (standAt (eA t) i) j=cY (standAt t i) ((0-j)%4):=fun j j0 j1=>by
  have:j=0\/j=1\/j=2\/j=3:=by omega
  rcases this with rfl|rfl|rfl|rfl<;>rfl
 have e:(standAt (eA t) i).2.2=(0-(standAt t i).2.2)%4:=by
  unfold standAt eA;dsimp only;rcases h.lay with e|e<;>rw[e]
  ·rw[if_neg (by decide),if_pos rfl];omega
  ·rw[if_pos (by decide),if_neg (by decide)];omega
 have m:0<=(standAt t i).2.2/\(standAt t i).2.2<4:=eg _;unfold place;rw[e,key _ (eg _).1 (eg _).2,key _ (eg _).1 (eg _).2,show(0-(0-(standAt t i).2.2)%4)%4=(standAt t i).2.2 by omega,show(0-((0-(standAt t i).2.2)%4+2)%4)%4=((standAt t i).2.2+2)%4 by omega];rw[show tw (standAt (eA t) i) c=tw (standAt t i) (ff c)from rQ h hc]
theorem wm{c:Nat}(hc:isTurn c):(ff c=105)↔c=105:=by rcases hc with rfl|rfl|rfl<;>decide
theorem iq{t:Cd}(h:Card t)(s:Int×Int){c:Nat}(hc:isTurn c):ag (eA t) s c=ag t s (ff c):=by
 unfold ag;rw[rQ h hc];congr 1;by_cases z:c=105;·rw[if_pos z,if_pos<|(wm hc).mpr z]
 ·rw[if_neg z,if_neg fun y=>z<|(wm hc).mp y]
theorem p0{t:Cd}(h:Card t){loose bound:Int}(s:Int×Int){c:Nat}(m:Pl)(hc:isTurn c):bz (eA t) loose bound s c m=bz t loose bound s (ff c) m:=by
 unfold bz;rw[iq h s hc,qq h _ hc]
theorem qr(t:Cd)(k:Int)(s:Int×Int)(c:Nat):ag (eB t k) s c=ag t s c:=rfl
theorem p4{t:Cd}(h:Card t)(k:Int){loose bound:Int}(s:Int×Int)(c:Nat)(m:Pl):bz (eB t k) loose bound s c m=bz t loose bound s c m:=by
 unfold bz;rw[qr,qp h]
theorem yb{x:Tx}(h:dv x):(x.map ff).map ff=x:=by
 rw[F6];have:∀c∈x,(ff∘ff) c=id c:=fun c hc=>by rcases h c hc with rfl|rfl|rfl<;>decide
 rw[HS this,L3]
theorem qt{t u:Cd}{loose:Int}{l:List Pl}(hcn:∀b,cnt u loose b l (0,0)=cnt t loose b l (0,0)){r r':Option Int}
  (h:(r=none/\cnt t loose l.length l (0,0)=0)\/∃d,r=some d/\0<=d/\d<=l.length/\cnt t loose d l (0,0)≠0/\∀e,0<=e->e<d->cnt t loose e l (0,0)=0)
  (h':(r'=none/\cnt u loose l.length l (0,0)=0)\/∃d,r'=some d/\0<=d/\d<=l.length/\cnt u loose d l (0,0)≠0/\∀e,0<=e->e<d->cnt u loose e l (0,0)=0):r'=r:=by
 simp only[hcn]at h';rcases h with⟨rfl,h1⟩|⟨d,rfl,d0,d1,d2,d3⟩
 ·rcases h' with⟨rfl,_⟩ | ⟨d',rfl,e0,e1,e2,e3⟩
  ·rfl
  ·exact absurd (gQ (t:=t) (bound:=d') (bound':=l.length) (GA loose) e1 l l (0,0)<|WL.refl l) (by have:=dE (t:=t) (loose:=loose) (bound:=d') l (0,0);omega)
 ·rcases h' with⟨rfl,e1⟩ | ⟨d',rfl,e0,e1,e2,e3⟩
  ·exact absurd (gQ (t:=t) (bound:=d) (bound':=l.length) (GA loose) d1 l l (0,0)<|WL.refl l) (by have:=dE (t:=t) (loose:=loose) (bound:=d) l (0,0);omega)
  ·congr 1;rcases Int.lt_trichotomy d d' with z|z|z
   ·exact absurd (e3 d d0 z) d2
   ·exact z.symm
   ·exact absurd (d3 d' e0 z) e2
theorem zI(ns:List Int)(h:ns.length<=63):(vT ns).Ok (· =true):=by
 unfold vT rE;refine lg ((show(wt ns (12:Int)).Ok _ from xQ h 12 (by decide)).imp fun y zz=>?_);obtain⟨hc,⟨n,hn,hm⟩,g0,g1⟩:=zz;have hl:y.2.1.length=n:=hm.1;have h60:y.2.1.length<=60:=by omega
 obtain⟨c5,e5⟩:=je h 5 (by decide);obtain⟨c6,e6⟩:=je h 6 (by decide);obtain⟨c7,e7⟩:=je h 7 (by decide);rw[show ir ns 5=.ok c5 from e5,show ir ns 6=.ok c6 from e6,show ir ns 7=.ok c7 from e7,CP,CP,jf hc,CP,CP,CP,rH hc,CP];have b0:0<=c5%13:=E6 _ (by decide);have b1:c5%13<13:=DO _ (by decide);generalize c5%13=b at b0 b1 ⊢;have cf:∀b,cnt (eA y.1) y.2.2 b y.2.1 (0,0)=cnt y.1 y.2.2 b y.2.1 (0,0):=fun b=>fL (f:=ff) (fun s c hc'=>iq hc s hc') (fun s c m hc'=>p0 hc s m hc') (fun g=>by show g 98+g 102+g 105=_;omega) _ _;have cr:∀b,cnt (eB y.1<|c6%4) y.2.2 b y.2.1 (0,0)=cnt y.1 y.2.2 b y.2.1 (0,0):=fun b=>fL (t:=y.1) (u:=eB y.1<|c6%4) (f:=id) (fun s c hc'=>rfl) (fun s c m _=>p4 hc _ s c m) (fun g=>rfl) _ _;rw[rO hc h60 g0 (by omega) b0 (by omega),CP];obtain⟨r,er,hr⟩:=wg hc h60 g0 (show y.2.2<=3 by omega);rw[er,CP];have step:∀u,Card u->(∀b,cnt u y.2.2 b y.2.1 (0,0)=cnt y.1 y.2.2 b y.2.1 (0,0))->ee oK oM y b (cnt y.1 y.2.2 b y.2.1 (0,0)) r u ()=.ok (.nx ()):=fun u hu hcn=>by
  unfold ee;obtain⟨r',er',hr'⟩:=wg hu h60 g0 (show y.2.2<=3 by omega);rw[rO hu h60 g0 (by omega) b0 (by omega),CP,uU<|hcn b,CP,CP,if_neg (by decide),er',CP,uU<|qt hcn hr hr',CP,CP,if_neg (by decide)]
 have ef:eV (ee oK oM y b (cnt y.1 y.2.2 b y.2.1 (0,0)) r) [eA y.1,eB y.1<|c6%4] ()=.ok (.nx ()):=by
  show(ee oK oM y b (cnt y.1 y.2.2 b y.2.1 (0,0)) r (eA y.1) ()).bind _=_;rw[step _ hc.flip cf,CP];show(ee oK oM y b (cnt y.1 y.2.2 b y.2.1 (0,0)) r (eB y.1<|c6%4) ()).bind _=_;rw[step _ (hc.roll _) cr];rfl
 rw[ef,CP];refine p7 (fun _=>hW rfl) fun z=>?_;have hp:0<cnt y.1 y.2.2 b y.2.1 (0,0):=by have:=dE (t:=y.1) (loose:=y.2.2) (bound:=b) y.2.1 (0,0);omega
 rw[CP,gY hp,CP];have n0:=E6 c7 (b:=cnt y.1 y.2.2 b y.2.1 (0,0)) (by omega);have n1:=DO c7 hp;generalize c7%cnt y.1 y.2.2 b y.2.1 (0,0)=k at n0 n1 ⊢;obtain⟨x,ex,hx⟩:=qo hc h60 g0 (by omega) b0 (by omega) n0 n1;obtain⟨x',ex',hx'⟩:=qo (hc.roll<|c6%4) h60 g0 (show y.2.2<=3 by omega) b0 (show b<=60 by omega) n0 (by rw[cr];exact n1);have exx:x'=x:=(oZ (t:=y.1) (u:=eB y.1<|c6%4) (fun s c _=>rfl) (fun s c m _=>p4 hc _ s c m) _ _ _ _ hx').uniq hx;subst exx;obtain⟨x1,x2,x3,_⟩:=hx.does;have bt:=kT x2;have bl:(x'.map ff).length=y.2.1.length:=by rw[Dx,x1]
 have bd:cU (eA y.1) y.2.2 b (0,0) ((x'.map ff).zip y.2.1)=true:=by
  rw[m8 (t:=y.1) (f:=ff) (fun s c hc'=>iq hc s hc') (fun s c m hc'=>p0 hc s m hc') _ _ _ bt,yb x2,x3]
 have er2:gP (x'.map ff) y.2.1.length=true:=by
  unfold gP;rw[EC,decide_eq_true_iff,G1];exact⟨bl,fun c hc=>turnB_iff.mpr<|bt c hc⟩
 rw[ex,CP,ex',CP,show kA x' x'=.ok true from by unfold kA;rw[decide_eq_true rfl],CP,CP,if_neg (by decide),rJ x2 (by omega),CP,tK hc.flip _ _ _ (by omega),er2,bd,CP,CP,if_neg (by decide),CP];obtain⟨k2,ek,hk⟩:=xZ hc.flip h60 g0 (show y.2.2<=3 by omega) b0 (show b<=60 by omega) bl bt bd;have hk':=hk.does;obtain⟨z2,ez,hz⟩:=qo hc.flip h60 g0 (show y.2.2<=3 by omega) b0 (show b<=60 by omega) hk'.2.2.2.1 hk'.2.2.2.2;rw[ek,CP,ez,CP,CP,hz.uniq hk];exact C4 (show kA _ _=.ok true from by unfold kA;rw[decide_eq_true rfl]) rfl
end Mi
namespace PySem.W.Fast
def tw140001813534094272:=()
def tw4321966507151631593:=()
def tw2179279111840823834:=()
def tw13810262117814702294:=()
def tw14842496431369740429:=()
def tw2575207979326191193:=()
def tw6858818405166986180:=()
def tw17318462890700432884:=()
def tw12297992134047619483:=()
def tw14952249352266578494:=()
def tw447263597446747957:=()
def tw9879335643197240621:=()
def tw10159399881129095643:=()
def tw6472337539984862722:=()
def tw15042883488752021643:=()
def tw8060666987683057360:=()
def tw1205274952441263945:=()
def tw726351398001015727:=()
def tw4039707410889071942:=()
def tw18418582437962087742:=()
def tw12954591660760965231:=()
def tw11766667032028208565:=()
def tw6056707288978253535:=()
def tw9919008367099125623:=()
def tw5890639436620234070:=()
def tw87601786513091389:=()
def tw13055953723892786844:=()
def tw12843764043397292189:=()
def tw6953138203311097117:=()
def tw4493901809537577575:=()
def tw7164969610272591079:=()
def tw10519837036962490867:=()
def tw17483705464198625004:=()
def tw1725486776273817318:=()
def tw16919654943277366748:=()
def tw2353497105660221152:=()
def tw15173544498738437827:=()
def tw15433366417846715934:=()
def tw15925456577456769635:=()
def tw6469784823511061222:=()
def tw10910644110388302437:=()
def tw17292613610259460706:=()
def tw5002640475654186023:=()
def tw1383625962624193546:=()
def tw8737599933303070863:=()
def tw12917704675397863716:=()
def tw16140922888777852060:=()
def tw17062427158221528723:=()
def tw12099505692703838030:=()
def tw6549852094080907030:=()
def tw14664691819916384248:=()
def tw861502493610598483:=()
def tw15254633091992210921:=()
def tw5449601097390414333:=()
def tw9615563845995560447:=()
def tw17214186515701724070:=()
def tw4323258101793500111:=()
def tw6356304189028158447:=()
def tw9806118890596472461:=()
def tw12652081859355081885:=()
def tw8002303944043701648:=()
def tw9592521066531166775:=()
def tw17817366049700826239:=()
def tw4077048163395320219:=()
def tw740290905518256060:=()
def tw12459912946257978736:=()
def tw13812277999558781770:=()
def tw11738243743197964597:=()
def tw17338325484393633139:=()
def tw1950803216711332702:=()
def tw7424060955962978353:=()
def tw4971374062829452455:=()
def tw12727641955093265886:=()
def tw17963105932079019327:=()
def tw13757698761724263525:=()
def tw2261719852989239553:=()
def tw9456574344343218679:=()
def tw14958820412457663293:=()
def tw11401859456886640639:=()
def tw5072417060200589145:=()
def tw4699756791338806529:=()
def tw5858633384734287302:=()
def tw4171853373547519906:=()
def tw938635154573522699:=()
def tw14703100239697439463:=()
def tw2570914705882880060:=()
def tw3419001889969749887:=()
def tw14564479935002850509:=()
def tw10510056951384868246:=()
def tw14196385902569759983:=()
def tw13855379610559885079:=()
def tw15402603294489630176:=()
def tw4635989785427082552:=()
def tw6968137755033780318:=()
def tw2400638427578300857:=()
def tw3721919958574915784:=()
def tw6229817132586351632:=()
def tw2107523057676978006:=()
def tw16108870410212019532:=()
def tw3042748168174471775:=()
def tw3300454383303005205:=()
def tw7476452910721959123:=()
def tw12887044766017154078:=()
def tw9972681490609642005:=()
def tw3239113980409921550:=()
def tw2244103112122482387:=()
def tw3681537716864247207:=()
def tw8733291241859026926:=()
def tw14172470266813156586:=()
def tw16298917771340976007:=()
def tw6148498323302512570:=()
def tw3543459598558145280:=()
def tw18328257000508772394:=()
def tw18101783494082082527:=()
def tw13956191218907399338:=()
def tw16248296213531012650:=()
def tw10374632558016547081:=()
def tw13034982811429478159:=()
def tw13547939009206843870:=()
def tw17590705303994421779:=()
def tw2399617604181995578:=()
def tw2941924889016668590:=()
def tw12770481643036789091:=()
def tw643336161829623379:=()
def tw15401437161963490237:=()
def tw6522051377940421278:=()
def tw14760874974797668852:=()
def tw5832305185047221409:=()
def tw9796564346219866840:=()
def tw11564986514327137767:=()
def tw17464319187374939960:=()
def tw11692469974320434101:=()
def tw12772213712371865176:=()
def tw17518593693041627797:=()
def tw2868788209673775175:=()
def tw10826640976665885199:=()
def tw10016166984437732892:=()
def tw5362036446546632119:=()
def tw2295934692909999376:=()
def tw14226173905949225808:=()
def tw14689541978594310382:=()
def tw12382822922155266910:=()
def tw7217548393331319763:=()
def tw5537553045615171315:=()
def tw615563214671542189:=()
def tw11421057715548341654:=()
def tw12431713363859531893:=()
def tw11907897558876765624:=()
def tw2646887283097553488:=()
def tw2144661209622563809:=()
def tw2314633323536394700:=()
def tw14391293386007564604:=()
def tw140236481695663071:=()
def tw3382625519597670723:=()
def tw1708089923452030704:=()
def tw17187875760726034783:=()
def tw1864683662541468164:=()
def tw539538531456391632:=()
def tw10551173667578312727:=()
def tw13444670453868202053:=()
def tw11185208467959745375:=()
def tw5498123283257192965:=()
def tw2692750590507578028:=()
def tw1532491051758110099:=()
def tw4953865588907285216:=()
def tw18146532975450069615:=()
def tw5438652380644606353:=()
def tw2135409205425526673:=()
def tw15227483606004533461:=()
def tw1070438729232803039:=()
def tw15438627641174518403:=()
def tw866717566613908145:=()
def tw16053306600634468012:=()
def tw5101696844757716304:=()
def tw13462424878891718212:=()
def tw14935467056822913822:=()
def tw3308634892276815127:=()
def tw14827714588952709054:=()
def tw16864618592142003386:=()
def tw16226643914720891334:=()
def tw16955839230299176341:=()
def tw2789304352393801511:=()
def tw7480016910919988345:=()
def tw12768989823518198380:=()
def tw2875624504187281209:=()
def tw1840220198017710270:=()
def tw9461873434466728008:=()
def tw4096438862311573950:=()
def tw15539815450414544023:=()
def tw10042083083395451092:=()
def tw384561282630992784:=()
def tw8047209995159408440:=()
def tw1000662321505670351:=()
def tw11266997524610791606:=()
def tw5702276774652866934:=()
def tw16279288168775177219:=()
def tw5994696166404524948:=()
def tw772564365185477556:=()
def tw5459702643516471331:=()
def tw16682895059504647277:=()
def tw9377399702891462756:=()
def tw2483420100392427323:=()
def tw2950685276103557050:=()
def tw8739830900816887780:=()
def tw6798380500665416597:=()
def tw6170744672141170255:=()
def tw7322748291113730364:=()
def tw16699056514693719831:=()
def tw13946496683202179788:=()
def tw7867829370405329436:=()
def tw12997797890453418503:=()
def tw2931988195819169919:=()
def tw8219003486749837733:=()
def tw4015202173357781934:=()
def tw3475869608268796686:=()
def tw13622603851894308203:=()
def tw11161164713144168021:=()
def tw2080317491765294665:=()
def tw4804111812005502284:=()
def tw3215387988796971590:=()
def tw3985964047577975286:=()
def tw443766864951011646:=()
def tw10294118229990073760:=()
def tw9116068151291705539:=()
def tw14782755387869428366:=()
def tw4906484309439969231:=()
def tw14520296925931582552:=()
def tw13135312941875745310:=()
def tw10792498714594961201:=()
def tw14243238205550065757:=()
def tw16670775579421159206:=()
def tw16822532161544500889:=()
def tw17351735930882485243:=()
def tw13053770412826190925:=()
def tw2455152089536381482:=()
def tw13674586047789940208:=()
def tw16615150188913437886:=()
def tw8912161614967838395:=()
def tw4734895289157585001:=()
def tw18367749455379333440:=()
def tw2827255003249426055:=()
def tw10295913840692754127:=()
def tw17760279517084355780:=()
def tw3919386906821981792:=()
def tw14022695629967993375:=()
def tw7774113678449685934:=()
def tw4684226298888400098:=()
def tw1972164579936704799:=()
def tw5217270863462422736:=()
def tw18157406047293677543:=()
def tw896239598344801917:=()
def tw8159993647027272844:=()
def tw446995266069924076:=()
def tw1717767836212652739:=()
def tw1915925776726481438:=()
def tw11429584451438056573:=()
def tw3641951560692057861:=()
def tw13421457143807847188:=()
def tw6550704214607550460:=()
def tw12903330217458380548:=()
def tw15621415185263527259:=()
def tw2403389108928632939:=()
def tw10876078143196172821:=()
def tw8297923619242306668:=()
def tw15685335758407661847:=()
def tw16902440903046159558:=()
def tw15805137534098808535:=()
def tw11962351593759143498:=()
def tw3235425350174046738:=()
def tw4075453323654395381:=()
def tw17435391645217708394:=()
def tw11373181179767321252:=()
def tw16723463757517087524:=()
def tw9402243437249704421:=()
def tw4547051000311932777:=()
def tw5622701340561072331:=()
def tw3270257207059953099:=()
def tw8374155422468719031:=()
def tw16120054744476736488:=()
def tw7086961617601330827:=()
def tw8997383693586321770:=()
def tw10258873121960336067:=()
def tw16756451883985382160:=()
def tw6105849179199505303:=()
def tw8949853181751564097:=()
def tw9784134513789038367:=()
def tw1825952489489211193:=()
def tw9582823730064241283:=()
def tw14387916025512776202:=()
def tw6822071536725586909:=()
def tw11898673842065290130:=()
def tw8760152093665844161:=()
def tw9689729476882780088:=()
def tw9860861378791804195:=()
end PySem.W.Fast
section
open PySem PySem.W PyProof.Rows
set_option maxHeartbeats 0 in
open_top hd for PySem.Challenge.rw_wornband_k35_flipped_ahead
end
namespace Wb
open PySem L2 Mi
theorem yc{K:CT}:∀vs H Q E,rF K vs H Q E->dH (isScr K) (rs isB) vT vs H Q E:=fun vs H Q E⟨a,ns,h1,h2,h3,h4⟩=>
 ⟨⟨H,H,.refl _⟩,ns,.ref a,rfl,h1,⟨a,rfl,h2⟩,fun _=>False,Res.Ok.e ((zI ns h3).imp fun r hr u W' _ hu=>by cases hr;cases hu;exact h4 _)⟩
theorem fin_mk{l:HA}{w:Dp}{K:CT}{h:Heap}{mg:Str->Option CU}{fa:Addr}{Z1G:Addr}{Z41 Z42:Option Addr}{Z43:Array (Option CU)}{Z44 Z45 Z46 Z47 Z34 Z48:CU}{f_law:Addr}{od_law an_law:Option Addr}{sl_law:Array (Option CU)}{oc_law kV_law dc_law pm_law cd_law ct_law:CU}{Z1Z:Tok}{Z1J:Addr}{Z4J:Nat}{x_SLANTS0 y_SLANTS0 x_SLANTS1 y_SLANTS1 x_SLANTS2 y_SLANTS2:Tok}{Z0y:Addr}{Z4U:Nat}{x_START0 x_START1:Tok}{Z1Y:Addr}{Z4V:Nat}{x_STEPS0 y_STEPS0 x_STEPS1 y_STEPS1 x_STEPS2 y_STEPS2:Tok}{Z21:Tok}{Z3W:Tok}(X:K.In h)(G:h.Ns mainGlobals mg)(hfa:mg "law"=some (.ref fa))
  (Z25:DR K mainGlobals "_law_same"=some (some<|.ref Z1G))
  (Z2z:K.lookup Z1G=some ⟨Z44,Z41,.func<|Fj "_law_same" "_law_same" (defArgs<|tp 55) (defBody<|tp 55) (defScope<|tp 55) .none Z45 Z46 Z47 Z42 Z34 Z48,Z43⟩)
  (Z2A:Gu K Z34 "_law_same"=true)
  (Z1H:FV K (.ref Z1G)=true)
  (Z35:DI K "_law_at" (tp 40) ["_law_script","_law_k"])
  (Z2Z:DI K "_law_row" (tp 36) ["_law_cell","_law_many","_law_base"])
  (Z2k:DI K "_law_holes" (tp 37) ["_law_cell"])
  (Z2B:DI K "_law_card" (tp 38) ["_law_cell"])
  (Z2l:DI K "_law_turns" (tp 39) ["_law_cell","_law_many"])
  (Z36:DI K "_law_go" (tp 42) ["_law_turn"])
  (Z27:DI K "_law_behind" (tp 43) ["_law_card_here","_law_turn"])
  (Z2m:DI K "_law_twist" (tp 44) ["_law_card_here","_law_turn"])
  (Z28:DI K "_law_places" (tp 45) ["_law_card_here","_law_turns_here"])
  (Z2C:DI K "_law_long" (tp 47) ["_law_places_here","_law_cell"])
  (Z2n:DI K "_law_marks" (tp 46) ["_law_places_here","_law_cell","_law_lies"])
  (Z1V:DI K "_law_turnover" (tp 48) ["_law_card_here"])
  (Z2D:DI K "_law_back" (tp 49) ["_law_turns_here"])
  (Z2E:DI K "_law_roll" (tp 50) ["_law_card_here","_law_many"])
  (Z2F:DI K "_law_seen" (tp 51) ["_law_card_here","_law_turns_here"])
  (Z30:DI K "_law_kin" (tp 52) ["_law_card_here","_law_turns_here","_law_cell"])
  (Z2G:DI K "_law_case" (tp 53) ["_law_script","_law_most"])
  (Z3n:DI K "within" (tp 22) ["state","loose","bound"])
  (Z31:DI K "twisting" (tp 9) ["tablet","turn"])
  (Z22:DI K "state_behind" (tp 21) ["tablet","state","turn"])
  (Z37:DI K "twisted" (tp 20) ["tablet","twist"])
  (d_top:DI K "top" (tp 7) ["tablet"])
  (Z3o:DI K "bottom" (tp 8) ["tablet"])
  (Z2o:DI K "left_place" (tp 13) ["tablet","turn"])
  (Z3J:DI K "suits" (tp 17) ["sign","left"])
  (Z3p:DI K "agrees" (tp 16) ["place","mark"])
  (Z3q:DI K "leaves" (tp 23) ["tablet","state","turn","mark"])
  (Z3r:DI K "onward" (tp 24) ["tablet","mark","loose","bound","state"])
  (Z1W:DI K "states_behind" (tp 27) ["tablet","mark","loose","bound","states"])
  (Z3s:DI K "search" (tp 26) ["tablet","strip","loose","bound"])
  (Z3K:DI K "tails" (tp 28) ["tablet","strip","loose","bound"])
  (Z49:DI K "ways" (tp 29) ["tablet","strip","loose","bound"])
  (Z3L:DI K "least" (tp 34) ["tablet","strip","loose"])
  (Z3t:DI K "chosen" (tp 31) ["moves","counts","number"])
  (d_way:DI K "way" (tp 30) ["tablet","strip","loose","bound","number"])
  (Z2H:DI K "_law_does" (tp 54) ["_law_card_here","_law_strip","_law_loose","_law_bound","_law_text"])
  (Z3u:DI K "is_row" (tp 12) ["text","width"])
  (Z4a:DI K "does" (tp 25) ["tablet","strip","loose","bound","text"])
  (Z29:DI K "comes_ahead" (tp 33) ["turn","other"])
  (Z4b:DI K "rank" (tp 32) ["tablet","strip","loose","bound","text"])
  (a_law:DR K mainGlobals "law"=some (some<|.ref f_law))
  (l_law:K.lookup f_law=some ⟨oc_law,od_law,.func<|Fj "law" "law" (defArgs<|tp 56) (defBody<|tp 56) (defScope<|tp 56) .none kV_law dc_law pm_law an_law cd_law ct_law,sl_law⟩)
  (c_law:Gu K cd_law "law"=true)
  (k_law:FV K (.ref f_law)=true)
  (z_abs:DR K mainGlobals "abs"=some none)
  (z_all:DR K mainGlobals "all"=some none)
  (z_bool:DR K mainGlobals "bool"=some none)
  (z_enumerate:DR K mainGlobals "enumerate"=some none)
  (z_int:DR K mainGlobals "int"=some none)
  (z_isinstance:DR K mainGlobals "isinstance"=some none)
  (z_len:DR K mainGlobals "len"=some none)
  (z_list:DR K mainGlobals "list"=some none)
  (z_range:DR K mainGlobals "range"=some none)
  (z_reversed:DR K mainGlobals "reversed"=some none)
  (z_sorted:DR K mainGlobals "sorted"=some none)
  (z_str:DR K mainGlobals "str"=some none)
  (z_sum:DR K mainGlobals "sum"=some none)
  (z_tuple:DR K mainGlobals "tuple"=some none)
  (z_zip:DR K mainGlobals "zip"=some none)
  (Z3M:DR K mainGlobals "HOLES"=some (some<|.int 4 Z1Z))
  (Z3v:DR K mainGlobals "SLANTS"=some (some<|.ref Z1J))
  (Z3w:K.lookup Z1J=some {cls:=.type "dict",data:=.dict #[⟨hashInt<|1,.int (1) x_SLANTS0,.str (CY "s") y_SLANTS0⟩,⟨hashInt<|-1,.int (-1) x_SLANTS1,.str (CY "z") y_SLANTS1⟩,⟨hashInt<|0,.int (0) x_SLANTS2,.str (CY "o") y_SLANTS2⟩] Z4J})
  (Z3x:(Z1J==sysModules)=false)
  (Z3N:DR K mainGlobals "START"=some (some<|.ref Z0y))
  (Z3O:K.lookup Z0y=some {cls:=.type "tuple",data:=.seq #[.int (0) x_START0,.int (0) x_START1] Z4U})
  (Z3P:DR K mainGlobals "STEPS"=some (some<|.ref Z1Y))
  (Z3Q:K.lookup Z1Y=some {cls:=.type "dict",data:=.dict #[⟨HG w.params<|CY "f",.str (CY "f") x_STEPS0,.int (1) y_STEPS0⟩,⟨HG w.params<|CY "b",.str (CY "b") x_STEPS1,.int (-1) y_STEPS1⟩,⟨HG w.params<|CY "i",.str (CY "i") x_STEPS2,.int (0) y_STEPS2⟩] Z4V})
  (Z3R:(Z1Y==sysModules)=false)
  (Z3S:DR K mainGlobals "TURNS"=some (some<|.str (CY "fbi") Z21))
  (Z4c:DR K mainGlobals "WORN"=some (some<|.str (CY "?") Z3W))
  :∃fd:Dr,(∀(s:CV)(v:CU),Kl s fd ⟨[v],[]⟩ [("_law_script",v)])/\∀base:Heap,K.In base->base.Ns mainGlobals mg->FnOk l.prog w K mg base CX0 27 fa fd ["_law_script"] (rF K):=by
 have e:=hfa.symm.trans<|Fn X G a_law;cases e;have Z3e:=mC (st:=tp 55) Z2z Z2A Z1H;have Z3f:=Z3e.binds (ps:=["_law_found","_law_due"]) fun _ _ _ _ _ _ us hl=>match us,hl with| [_,_],_=>rfl
 have F_law:=mC (st:=tp 56) l_law c_law k_law;have b_law:=F_law.binds (ps:=["_law_script"]) fun _ _ _ _ _ _ us hl=>match us,hl with| [_],_=>rfl
 have h_abs:=DT X G z_abs;have h_all:=DT X G z_all;have h_bool:=DT X G z_bool;have h_enumerate:=DT X G z_enumerate;have h_int:=DT X G z_int;have h_isinstance:=DT X G z_isinstance;have h_len:=DT X G z_len;have h_list:=DT X G z_list;have h_range:=DT X G z_range;have h_reversed:=DT X G z_reversed;have h_sorted:=DT X G z_sorted;have h_str:=DT X G z_str;have h_sum:=DT X G z_sum;have h_tuple:=DT X G z_tuple;have h_zip:=DT X G z_zip;have Z1B:=Fn X G Z3M;have Z3h:=Fn X G Z3v;have Z3i:DictK K w Z1J [(FT<|1,.str<|CY "s"),(FT<|-1,.str<|CY "z"),(FT<|0,.str<|CY "o")]:=⟨by decide,Z3x,by decide +kernel,_,_,Z3w,(.cons ⟨gR _ _,rfl,⟨_,rfl⟩⟩<|.cons ⟨gR _ _,rfl,⟨_,rfl⟩⟩<|.cons ⟨gR _ _,rfl,⟨_,rfl⟩⟩ .nil)⟩
 have Z0F:=Fn X G Z3N;have Z0G:∀H,SqT K H Z0y [.int (0),.int<|0]:=fun H=>.inr ⟨_,_,_,Z3O,⟨rfl,rfl⟩,rfl,(by show 2<=sizeLine;decide),(.cons ⟨_,rfl⟩<|.cons ⟨_,rfl⟩ .nil)⟩;have Z3F:=Fn X G Z3P;have Z3G:DictK K w Z1Y [(FU<|CY "f",.int<|1),(FU<|CY "b",.int<|-1),(FU<|CY "i",.int<|0)]:=⟨by decide,Z3R,by decide +kernel,_,_,Z3Q,(.cons ⟨gS _ _,rfl,⟨_,rfl⟩⟩<|.cons ⟨gS _ _,rfl,⟨_,rfl⟩⟩<|.cons ⟨gS _ _,rfl,⟨_,rfl⟩⟩ .nil)⟩
 have Z1p:=Fn X G Z3S;have Z3X:=Fn X G Z4c;refine⟨Fj "law" "law" (defArgs<|tp 56) (defBody<|tp 56) (defScope<|tp 56) .none kV_law dc_law pm_law an_law cd_law ct_law,fun s v=>.of_eq rfl,fun base KB _=>?_⟩;have SA:∀n:Nat,Cal l.prog w K mg base "_law_same" ["_law_found","_law_due"] n (fZ K n):=fun n=>by
  induction n with
  |zero=>exact⟨Z1G,_,xH,Fn X G Z25,Z1H,Z3f⟩
  |succ n ih=>exact⟨Z1G,_,vU Z3e h_len h_isinstance h_bool h_int h_str h_list h_tuple h_zip ih,Fn X G Z25,Z1H,Z3f⟩
 have Z0T:=SA 26;have Z0D:Cal l.prog w K mg base _ _ _ (bG _ _ _ ir):=Z35.cal X G fun F=>C5 F h_len;have Z0z:Cal l.prog w K mg base _ _ _ (dz _ _ _ _ iO):=Z2Z.cal X G fun F=>C6 F h_abs h_range;have Z2f:Cal l.prog w K mg base _ _ _ (dH _ _ xq):=Z2k.cal X G fun F=>C7 F Z0z;have Z24:Cal l.prog w K mg base _ _ _ (dH _ _ wq):=Z2B.cal X G fun F=>C8 F Z2f;have Z2h:Cal l.prog w K mg base _ _ _ (bG _ _ _ xr):=Z2l.cal X G fun F=>C9 F Z0z;have Z1u:Cal l.prog w K mg base _ _ _ (dH _ _ p8):=Z36.cal X G fun F=>Ca F;have Z0W:Cal l.prog w K mg base _ _ _ (bG _ _ _ jA):=Z27.cal X G fun F=>Cb F Z1u;have Z19:Cal l.prog w K mg base _ _ _ (bG _ _ _ jn):=Z2m.cal X G fun F=>Cc F Z1u;have Z0X:Cal l.prog w K mg base _ _ _ (bG _ _ _ qb):=Z28.cal X G fun F=>Ce F Z0W Z19;have Z2w:Cal l.prog w K mg base _ _ _ (bG _ _ _ xt):=Z2C.cal X G fun F=>Cf F Z0z h_len h_zip;have Z2i:Cal l.prog w K mg base _ _ _ (dz _ _ _ _ xu):=Z2n.cal X G fun F=>Cg F Z0z h_int h_len h_tuple h_zip;have Z0M:Cal l.prog w K mg base _ _ _ (dH _ _ qc):=Z1V.cal X G fun F=>Ci F;have Z0S:Cal l.prog w K mg base _ _ _ (dH _ _ oJ):=Z2D.cal X G fun F=>Cj F;have Z1o:Cal l.prog w K mg base _ _ _ (bG _ _ _ qd):=Z2E.cal X G fun F=>Ck F h_range;have Z2v:Cal l.prog w K mg base _ _ _ (bG _ _ _ xv):=Z2F.cal X G fun F=>Cm F Z0W h_sorted;have Z2Y:Cal l.prog w K mg base _ _ _ (dz _ _ _ _ xw):=Z30.cal X G fun F=>Cn F Z0M Z0S Z1o Z2v h_range;have Z2x:Cal l.prog w K mg base _ _ _ (bG _ _ _ wt):=Z2G.cal X G fun F=>Co F Z24 Z0D Z2h Z0X Z2w Z2i Z2Y;have Z14:Cal l.prog w K mg base _ _ _ (dz _ _ _ _ iI):=Z3n.cal X G fun F=>Cp F h_abs;have Z1A:Cal l.prog w K mg base _ _ _ (bG _ _ _ qe):=Z31.cal X G fun F=>Cq F Z3F Z3G;have Z0w:Cal l.prog w K mg base _ _ _ (dz _ _ _ _ hZ):=Z22.cal X G fun F=>Cr F Z1A;have Z32:Cal l.prog w K mg base _ _ _ (bG _ _ _ xx):=Z37.cal X G fun F=>Cs F Z1B;have C_top:Cal l.prog w K mg base _ _ _ (dH _ _ iJ):=d_top.cal X G fun F=>AJ F Z1B;have Z3g:Cal l.prog w K mg base _ _ _ (dH _ _ xA):=Z3o.cal X G fun F=>Ct F Z1B;have Z2j:Cal l.prog w K mg base _ _ _ (bG _ _ _ xB):=Z2o.cal X G fun F=>Cu F C_top Z3g Z1A Z3h Z3i;have Z3I:Cal l.prog w K mg base _ _ _ (bG _ _ _ wu):=Z3J.cal X G fun F=>Cv F Z3X;have Z3j:Cal l.prog w K mg base _ _ _ (bG _ _ _ xC):=Z3p.cal X G fun F=>Cw F Z3I h_all h_zip;have Z20:Cal l.prog w K mg base _ _ _ (gq _ _ _ _ _ l4):=Z3q.cal X G fun F=>Cy F Z3j Z2j Z32;have Z0N:Cal l.prog w K mg base _ _ _ (eX _ _ _ _ _ _ fc):=Z3r.cal X G fun F=>Cz F Z0w Z14 Z20 Z1p;have Z1U:Cal l.prog w K mg base _ _ _ (eX _ _ _ _ _ _ qf):=Z1W.cal X G fun F=>CA F Z0N h_sorted;have Z1K:Cal l.prog w K mg base _ _ _ (gq _ _ _ _ _ lj):=Z3s.cal X G fun F=>CB F Z14 Z1U Z0F Z0G;have Z1C:Cal l.prog w K mg base _ _ _ (gq _ _ _ _ _ ll):=Z3K.cal X G fun F=>CC F Z1K Z0N h_len h_range h_reversed h_sum;have Z3E:Cal l.prog w K mg base _ _ _ (gq _ _ _ _ _ oK):=Z49.cal X G fun F=>CD F Z1C Z0F Z0G;have Z3d:Cal l.prog w K mg base _ _ _ (dz _ _ _ _ oM):=Z3L.cal X G fun F=>CF F Z1K h_len;have Z3l:Cal l.prog w K mg base _ _ _ (dz _ _ _ _ qg):=Z3t.cal X G fun F=>CG F;have C_way:Cal l.prog w K mg base _ _ _ (eX _ _ _ _ _ _ gN):=d_way.cal X G fun F=>AK F Z1C Z3l Z0N h_enumerate Z0F Z0G;have Z2y:Cal l.prog w K mg base _ _ _ (eX _ _ _ _ _ _ xD):=Z2H.cal X G fun F=>CH F Z0X Z19 h_abs h_int h_len h_zip;have Z3m:Cal l.prog w K mg base _ _ _ (bG _ _ _ xE):=Z3u.cal X G fun F=>CI F h_all h_len Z1p;have Z3Z:Cal l.prog w K mg base _ _ _ (eX _ _ _ _ _ _ xF):=Z4a.cal X G fun F=>CJ F Z3m Z14 Z0w Z20 h_len h_zip Z0F Z0G;have Z26:Cal l.prog w K mg base _ _ _ (bG _ _ _ qh):=Z29.cal X G fun F=>CK F Z1p;have Z40:Cal l.prog w K mg base _ _ _ (eX _ _ _ _ _ _ xG):=Z4b.cal X G fun F=>CL F Z3Z Z1C Z0N Z26 Z0w h_enumerate h_sum Z0F Z0G;exact FnOk.imp (AL F_law Z2x Z0D Z0M Z1o Z3E Z3d Z0T C_way Z2y Z0S Z40) yc
theorem walk{l:HA}{q:Dj}{loose:List Str}{XP:(Str->Option CU)->Heap->Prop}{YP:Dp->Heap->Prop}{d:DefRec}{K:MJ->CT}(hn:l.most=some 63)(hdf:d.params.defaults=[])(hY:∀(w:Dp)(h:Heap),YP w h->(K w.params).In h)
  (F:∀(w:Dp)(mg:Str->Option CU)(fa:Addr)(h:Heap),(K w.params).In h->h.Ns mainGlobals mg->mg d.name=some (.ref fa)->∃fd:Dr,(∀(s:CV)(u:CU),Kl s fd ⟨[u],[]⟩ [("_law_script",u)])/\∀base:Heap,(K w.params).In base->base.Ns mainGlobals mg->FnOk l.prog w (K w.params) mg base CX0 27 fa fd ["_law_script"] (rF<|K w.params)):
  Lb q loose XP YP l.row.toRowW d [] (fun f vs=>Li f vs):=
 L2.walk_of (n:=63) (k:=27) (x:="_law_script") (CX:=fun _=>CX0) (sp:=fun w=>rF<|K w.params) hn (by decide) hdf ⟨rfl,by decide,by decide⟩ hY F (fun _ _ a ns hl _ hS=>⟨a,ns,rfl,hS,hl,fun _=>rfl⟩) fun _ _ _ _ _ z=>z
end Wb
local macro_rules | `(tactic| walk_at "D") => `(tactic| (apply Wb.DI.mk; (case da => k_is); (case dl => k_is); (case dc => k_is); (case dk => k_is); exact fun _ _ _ _ _ _ _ => rfl))
open PySem PySem.W PyProof.Rows
set_option maxRecDepth 100000 in
set_option maxHeartbeats 0 in
theorem PySem.Challenge.cw_wornband_k35_flipped_ahead_holds : PySem.Challenge.rw_wornband_k35_flipped_ahead.Holds := by
 refine hd ?_
 k_fill
 refine Wb.walk (l:=F1) rfl rfl (fun w h Y=>PySem.W.kIn_of Y) ?F
 case F=>
  intro w mg fa h KX G hmg
  refine' Wb.fin_mk KX G hmg ?Z25 ?Z2z ?Z2A ?Z1H ?Z35 ?Z2Z ?Z2k ?Z2B ?Z2l ?Z36 ?Z27 ?Z2m ?Z28 ?Z2C ?Z2n ?Z1V ?Z2D ?Z2E ?Z2F ?Z30 ?Z2G ?Z3n ?Z31 ?Z22 ?Z37 ?d_top ?Z3o ?Z2o ?Z3J ?Z3p ?Z3q ?Z3r ?Z1W ?Z3s ?Z3K ?Z49 ?Z3L ?Z3t ?d_way ?Z2H ?Z3u ?Z4a ?Z29 ?Z4b ?a_law ?l_law ?c_law ?k_law ?z_abs ?z_all ?z_bool ?z_enumerate ?z_int ?z_isinstance ?z_len ?z_list ?z_range ?z_reversed ?z_sorted ?z_str ?z_sum ?z_tuple ?z_zip ?Z3M ?Z3v ?Z3w ?Z3x ?Z3N ?Z3O ?Z3P ?Z3Q ?Z3R ?Z3S ?Z4c
  (case Z25=>k_is)
  (case Z2z=>k_is)
  (case Z2A=>k_is)
  (case Z1H=>k_is)
  (case Z35=>walk_at "D")
  (case Z2Z=>walk_at "D")
  (case Z2k=>walk_at "D")
  (case Z2B=>walk_at "D")
  (case Z2l=>walk_at "D")
  (case Z36=>walk_at "D")
  (case Z27=>walk_at "D")
  (case Z2m=>walk_at "D")
  (case Z28=>walk_at "D")
  (case Z2C=>walk_at "D")
  (case Z2n=>walk_at "D")
  (case Z1V=>walk_at "D")
  (case Z2D=>walk_at "D")
  (case Z2E=>walk_at "D")
  (case Z2F=>walk_at "D")
  (case Z30=>walk_at "D")
  (case Z2G=>walk_at "D")
  (case Z3n=>walk_at "D")
  (case Z31=>walk_at "D")
  (case Z22=>walk_at "D")
  (case Z37=>walk_at "D")
  (case d_top=>walk_at "D")
  (case Z3o=>walk_at "D")
  (case Z2o=>walk_at "D")
  (case Z3J=>walk_at "D")
  (case Z3p=>walk_at "D")
  (case Z3q=>walk_at "D")
  (case Z3r=>walk_at "D")
  (case Z1W=>walk_at "D")
  (case Z3s=>walk_at "D")
  (case Z3K=>walk_at "D")
  (case Z49=>walk_at "D")
  (case Z3L=>walk_at "D")
  (case Z3t=>walk_at "D")
  (case d_way=>walk_at "D")
  (case Z2H=>walk_at "D")
  (case Z3u=>walk_at "D")
  (case Z4a=>walk_at "D")
  (case Z29=>walk_at "D")
  (case Z4b=>walk_at "D")
  (case a_law=>k_is)
  (case l_law=>k_is)
  (case c_law=>k_is)
  (case k_law=>k_is)
  (case z_abs=>k_is)
  (case z_all=>k_is)
  (case z_bool=>k_is)
  (case z_enumerate=>k_is)
  (case z_int=>k_is)
  (case z_isinstance=>k_is)
  (case z_len=>k_is)
  (case z_list=>k_is)
  (case z_range=>k_is)
  (case z_reversed=>k_is)
  (case z_sorted=>k_is)
  (case z_str=>k_is)
  (case z_sum=>k_is)
  (case z_tuple=>k_is)
  (case z_zip=>k_is)
  (case Z3M=>k_is)
  (case Z3v=>k_is)
  (case Z3w=>k_is)
  (case Z3x=>rfl)
  (case Z3N=>k_is)
  (case Z3O=>k_is)
  (case Z3P=>k_is)
  (case Z3Q=>k_is)
  (case Z3R=>rfl)
  (case Z3S=>k_is)
  (case Z4c=>k_is)
