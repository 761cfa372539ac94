import PyProof.Rows.All
import Wide.All
import OpenK.AllK
import Wide.FinOn
import PyProof.EqAt
import PyProof.EqKinds
import PyProof.TupleCall
import KE.KDictSum
import KE.KRevIter
import KE.KRevSl
import KE.KDictLaws
import PyProof.StrLawsFirst
import KE.LcSums
import PyProof.EnumMake
import PyProof.TupleIter
import PyProof.StationsW
import PyProof.Rows.Own
import PyProof.NsDelKeeps
import PyProof.RulesAs
import PyProof.ExcAttrAll.ValueError
import KE.KIsAll
import PyProof.ExcBaseAll.ValueError
import PyProof.Rows.FStr
import PyProof.FString
import PyProof.Rows.StrNews
import PyProof.StrLawsTight
import PyProof.StrLawsChain
import PyProof.ExcInit
import PyProof.ExcClass3
import PyProof.InstStoreFacts
import PySem.SetTable
import PySem.SetOps
import PyProof.TupleKey
import PyProof.SetKind
import PyProof.IsRules
import KE.KSortTup
import PyProof.DictWalks
import PyProof.DictTruth
import PyProof.NeKinds
import PyProof.Rows.TupTab
import PyProof.Rows.SetFrom
import PyProof.SetRoads
import PyProof.AutoListH
import PySem.Challenge.RW_wornband_k40_whole_looker
open And renaming intro->J9
open Array renaming getD_eq_getD_getElem?->C4,getElem?_toList->Cf,getElem?_eq_getElem->Cp,length_toList->Cr,getD->DV,getElem?_eq_some_iff->DW,getElem?_eq_none->Es,replicate->Ht,toArray_toList->HQ,forIn_toList->IA,toList_push->IT,toList_map->Jb,toList->Ku
open Bool renaming false_ne_true->BF,false_eq_true->C6,eq_iff_iff->CK,true_and->Ds,and_eq_true->Ed,not_true->FI,false_and->Gh,not_eq_true'->GK,not_false->HU,or_eq_true->Jq,and_assoc->JQ
open Classical renaming byContradiction->CD,not_forall->FN,not_imp->GH
open False renaming elim->El
open ForInStep renaming yield->DR
open Iff renaming rfl->HV
open Int renaming emod_lt_of_pos->BU,emod_nonneg->Ca,toNat_natCast->CQ,emod_eq_of_lt->J2
open LawfulMonad renaming bind_assoc->JI
open List renaming getElem?_eq_getElem->Bo,getElem?_eq_some_iff->Bw,getElem?_map->Bz,size_toArray->BB,getD_eq_getElem?_getD->BC,getElem?_append_left->BG,getElem?_append_right->BH,mem_of_getElem?->BI,length_map->BJ,mem_cons->BM,mem_cons_self->BN,mem_cons_of_mem->BP,mem_map->BX,mem_append_right->C2,getElem?_eq_none_iff->Cb,not_mem_nil->Cc,getElem?_zip_eq_some->Co,range->Cv,getElem?_take_of_lt->CA,nodup_iff_pairwise_ne->CB,getElem?_eq_none->CC,mem_iff_getElem->CH,all_eq_true->CM,getElem?_cons_succ->CN,map_cons->CP,length_append->CS,getElem?_drop->CT,mem_append->CU,length_cons->D4,getElem?_cons_zero->Dc,Nodup->Dl,lookup_cons->Dm,length_eraseIdx->Dn,append_assoc->Du,ext_getElem?->Dw,length_set->Dy,drop_eq_getElem_cons->Dz,mem_singleton->DC,replicate->DH,length_eq_zero_iff->DM,append_nil->DP,nodup_cons->DQ,length_take->DT,nodup_nil->DX,pairwise_iff_getElem->E2,getElem?_set->E4,filterMap_cons->Ea,drop_length->Eh,take_of_length_le->En,map_map->Eo,find?_cons->Eu,length_singleton->Ex,mem_iff_getElem?->Ey,contains_iff_mem->EA,pairwise_map->EF,mem_range->EH,length->EK,getElem_mem->EX,getElem?_range->F0,any_cons->F3,length_erase_of_mem->F7,of_mem_zip->Fb,forIn_cons->Fc,length_zip->Fd,mem_filterMap->Fe,map_nil->Fp,forIn_nil->Fq,mem_of_mem_erase->Fx,dropLast_eq_take->Fy,length_drop->FC,zipIdx_cons->FE,mem_append_left->FJ,eq_nil_of_length_eq_zero->FP,zipIdx_nil->FX,getElem?_eraseIdx_of_lt->FY,getElem?_eraseIdx_of_ge->FZ,nil_append->G0,length_nil->G5,map_congr_left->G8,findSome?_cons->G9,pairwise_cons->Gn,set_cons_zero->Gw,set_cons_succ->Gx,mem_or_eq_of_mem_set->GA,all_cons->GO,filterMap_cons_some->GQ,pairwise_mergeSort->GX,cons_append->Ha,any_eq_true->Hb,getElem?_set_self->Hd,drop_eq_nil_of_le->Hh,pairwise_lt_range->Hj,mem_filter->Hm,foldl_cons->Ho,getElem?_reverse->Hz,take_append_drop->HA,getElem?_set_ne->HJ,eraseIdx_set_eq->HR,mergeSort_perm->HW,lookup_append->Iw,zip_cons_cons->ID,reverse_cons->IM,length_range->IW,nodup_append->IZ,perm_middle->Jc,isEmpty_nil->Je
open List.Nodup renaming not_mem_erase->F6,length_le_of_subset->FH
open List.Pairwise renaming nil->EC,map->IY
open List.Perm renaming eq_of_pairwise->GP
open List.cons renaming injEq->Hw
open Nat renaming le_refl->BD,lt_of_lt_of_le->BE,ne_of_lt->BL,le_add_right->CF,lt_irrefl->CZ,le_trans->Dt,lt_succ_of_lt->DN,ne_of_gt->E3,le_of_lt->ET,lt_succ_self->EW,sub_self->Gd,mod_lt->Gm,le_succ->GF,lt_trans->Hf,div_div_eq_div_mul->Hi,add_comm->Hk,not_lt_zero->Hu,zero_le->HN,reduceAdd->Ig,reduceSub->Ih,lt_or_gt_of_ne->IB,zero_add->IQ,div_eq_of_lt->Ja,min_eq_left->Jp,strongRecOn->Jr,pow_succ->Kx
open Ne renaming symm->DZ
open Option renaming map_eq_some_iff->Cs,getD_some->De,map_some->Ew,ne_none_iff_exists'->EN,isSome_iff_exists->GL,getD_none->GW,isSome->I9,isSome_some->Ir
open Option.some renaming inj->C5,injEq->GJ
open Or renaming inr->JG,inl->Kv
open Prod renaming ext->GY
open Prod.mk renaming injEq->Kp
open PyProof.Rows renaming boot_isinstance->C1,boot_list->Df,callWith_type1->Dq,boot_int->E1,boot_abs->EB,boot_sorted->F8,boot_tuple->Fj,boot_bool->Fw,AllBare->GC,subscriptTail_builtinR->He,boot_max->HF,boot_all->HH,boot_str->HI,listUpdate_at->Ib,Subscript_->Im,IntsAre->II,callWith_builtin1->J7,seqEpoch_at->Jm,entry_list_sort->Jv,size_push'->JK,slot_list_sort->JL,args_list_sort->JM,sortedHeap_old->JN,sortedHeap_at->Kn,boot_set->KA,tail_any->KI,TupTab->KW
open PyProof.Rows.F renaming plain_set_update_loop->Ei,entry_set_update_loop->H0
open PySem renaming wpAny_bind->Bl,wpAny_pure->Bq,Value->Bs,Shared->Bu,Program->BK,World->BQ,FuncData->BW,Spec->BY,boot_len->C0,wpAny_call_entry->C7,sizeLine_eq->Cg,Around->Ck,wpAny_callSpecial?_slot->Cn,wpAny_seqItems->Cu,wpAny_setField_rec->Cw,SetTable->Cy,wpAny_holding->Cz,wpAny_field->CG,wpAny_mono->CI,IsTupleKey->D6,wpAny_newObj_type->D7,wpAny_setState_of->D9,mem_of_lookup->Dg,wpAny_isInstance->DB,wpAny_onRaise->DE,wpAny_typeNameOfWhole_keyiter->DJ,wpAny_truthy_bool->DL,Builtin->DS,wpAny_askSetting->DU,wpAny_standAt->E5,wpAny_attempt->E6,wpAny_typeNameOf_keyiter->E7,NameKind->Ec,wpAny_setField->Ee,isSubtype_stop->Eg,IsZip->Ej,wpAny_letGo->Ek,wpAny_isSame_ref_self->Ez,Scope->EI,codeAny_mono->EU,wpAny_comprehension_free->F4,wpAny_passesOwn->F9,IsPair->Fg,DictEntry->Fi,wpAny_pyIter_list->Fn,wpAny_pyIter_slot->Ft,wpAny_dictEntries->Fu,wpAny_rule->FD,wpAny_pyIter_zip->FF,wpAny_updateSeq_pair->FL,wpAny_specialOf->FV,pushCells_keeps->FW,wpAny_ite_split->G1,codeAny_builtin->G4,wpAny_setEntries_of->Ga,wpAny_Call_Name_kw->Gi,wpAny_fieldsOf->Gq,wpAny_pyHash_tuple->Gu,wpAny_letOwnedTupleGo_zip->Gz,slot_list_getitem->GD,wpAny_of_eq->GG,wpAny_getItem_list_slice->GN,wpAny_eqBool_int->GV,wpAny_forIn_list->GZ,wpAny_execs_nil->Hn,Draws->Hq,signature?_of->Hr,codeAny_of_tree->Hs,wpAny_dictEpoch->Hv,builtinLookup_eq_fast->HB,wpAny_isOneOf_keyiter->HD,sliceRange_one->HL,wpAny_newTuple->HP,isSubtype_type->HS,evalPart_none->HX,wpAny_handled->HZ,Comprehension->I0,wpAny_newList->Ic,plainId_quiet->Ie,wpAny_pyIter_ascii->Iu,wpAny_assign_Name->IE,BindsTo->IH,seqIndex_neg->IJ,Keyword->IK,wpAny_pyIter_wide->IL,wpAny_storeSet_of->IU,wpAny_execs_cons->J4,Result->J6,seqIndex_of->Jj,wpAny_throw->Jk,wpAny_loadPart'->Jn,typeLookup_type->Jt,GenState->Jz,wpAny_Name->JA,typeIs_str->JC,call_meets->JD,fitsIndex_both->JE,call->JF,entryFor_alias->JJ,intBits_le_64->K5,call_list_seq->Ki,Within->Kt,CellsOk->Kw,cLine->KQ,putAt->KR,Params->La,Model->Lf,Fin->Lm
open PySem.Around renaming under_plainId->FQ
open PySem.Builtin.Dict renaming showsAll->HC,dictSlotNone->K2,pendingCount->K3
open PySem.Builtin.Dict_items renaming ownsTuple->G2
open PySem.Builtin.Frozenset renaming oneOther->Gr,addrOf->GS,withSetAsKey->Jg,updateFrom->Jx,newClass->JP,sizeOf->Km,slot0->Kr
open PySem.Builtin.List renaming listLengthHint->Ge
open PySem.Builtin.Range renaming rangeSize->Kq
open PySem.Builtin.SmallTypes renaming nextOf->BS,ownedTupleIsFree->C8,ownedTupleHandOut->Dh
open PySem.Builtin.Str renaming strSliceIndices->Dr,tooLong->L7
open PySem.Calls renaming call_function_entry->EZ,Name_function_global->Gg
open PySem.Challenge renaming rw_wornband_k40_whole_looker->Dp,pw_wornband_k40_whole_looker->H9
open PySem.Data renaming cell->FA,seq->HM,fields->Ji
open PySem.EqMixed renaming eq_bool_str->JV,eq_str_bool->JW,ne_bool_str->K0,ne_str_bool->K1,eq_int_str->K9,eq_str_int->Kb,ne_int_str->Kf,ne_str_int->Kh
open PySem.EqNone renaming eq_none_none->JS,eq_none_bool->JT,eq_bool_none->JU,ne_none_none->JX,ne_none_bool->JY,ne_bool_none->JZ,eq_none_int->K6,eq_none_str->K7,eq_int_none->K8,eq_str_none->Ka,ne_none_int->Kc,ne_none_str->Kd,ne_int_none->Ke,ne_str_none->Kg
open PySem.F renaming slot_dict_keyiterator_next->CY,slot_zip_next->D5,slot_tuple_iterator_next->Dv,plainAttrs_list->DO,args_zip_next_1->Ef,entry_zip_next->Ep,called_set->Et,args_tuple_iterator_next_1->Ff,entry_tuple_iterator_next->Fm,slot_list_insert->Fv,args_dict_keyiterator_next_1->FG,entry_dict_keyiterator_next->FO,slot_dict_keyiterator_iter->G3,slot_list_pop->G7,slot_set_contains->Gb,type_list_insert->GU,plainAttrs_str->Hg,slot_list_append->Hx,entry_zip_new->Hy,slot_dict_len->HE,type_list_pop->HG,called_zip->Iz,slot_dict_iter->Jf,slot_set_iter->Ju,plain_set_new->Jw
open PySem.Heap renaming get?_push_of_some->Bp,get?_push_size->By,lt_size->BA,SameBut->BO,size_push->Ci,get?_update_self->Dj,get?_update_other->Em,ExtBut->EM,get?_push_ne->GI,size_update->Jd
open PySem.Heap.IsSliceOf renaming new->Io
open PySem.Heap.Ns renaming new->KO
open PySem.Heap.SameBut renaming update->CJ
open PySem.Moved renaming trans->KS
open PySem.NameKind renaming free->D0,cell->HY
open PySem.Obj renaming mapSeq->DA,putSet->Gp,mapFields->GR,data_mapFields->Iy
open PySem.PassesOwn renaming never->BZ
open PySem.PyData renaming keyHash->FR
open PySem.SeqAt renaming EqAt->Ip,notIn_listAt->Iq
open PySem.SeqAt.EqAt renaming int_int->Gj,int_str->Ij,str_int->Ik,same->Jo,none_bool->KJ,bool_none->KL,bool_bool->KN,none_int->KY,none_str->KZ,bool_int->L0,bool_str->L1,int_none->L3,int_bool->L4,str_none->L5,str_bool->L6,str_str->L9,of_refs->Ld
open PySem.SeqAt.RcAt renaming lists_lengths->Ko,tuples->Lh,lists->Ln
open PySem.SeqAt.RcNeAt renaming lists_lengths->JO,lists->Lc
open PySem.SetTable renaming leap->C3,bits->C9,runEnd->Cm,below->CV,turns->CW,insertAt->D8,grown->EO,sizeAbove->Fh,fresh->Gv,fill->Ia,has->IS,slot->Kj,laid->Kk,fits->Kl
open PySem.SetTable.below renaming go->ED
open PySem.SetTable.layClean renaming free->Dx
open PySem.SetTable.probe renaming go->EE
open PySem.Str renaming ofString->Bv,length->L8
open PySem.Txt renaming find->Gk,slice->J8,mul->Lg
open PySem.Value renaming none->Ct,ref->CL,type->EG,int->ES,bool->Il,str->J3,scannable->Js,isStrOf->K4,isInt->KC,float->KH
open PySem.W renaming Frag->Br,nsIn->Cj,mg_none_of->Cq,kia_one->Dd,fnOf->DD,mg_of->DF,kitOne->DG,keepIn->Eb,codeIn->EL,cellsFrom_some->Fo,OpenLaw->FK,methodObj->GB,instObj->Hl,lookIn->HK,kitx_list->IF,kitx_dict->IG,looks_findIn->IP,plainGet->J5,looks_mroIn->Jl,WalkO->Jy,findIn->JB,looks_find->JH,kas_rev->Ky
open PySem.W.WData renaming int->Ll
open PySem.W.WShape renaming has->Lb
open PySem.pickOrder renaming go->IX
open Sum renaming inl->E8,inr->E9
open Sum.inl renaming inj->KD
open Sum.inr renaming inj->KG
open True renaming intro->EJ
set_option Elab.async false
set_option linter.all false
set_option maxRecDepth 100000
namespace L2
open PySem PySem.Spec PyProof.Rows
abbrev Key:=Sum Int Str
def fT:Key->Bs->Bool
 | .inl k,v=>KC k v
 | .inr x,v=>K4 x v
def rH(w:BQ):Key->Int
 | .inl k=>hashInt k
 | .inr x=>hashStr w x
theorem bM:∀{k:Key}{v:Bs},fT k v=true->(∃i t,k=E8 i/\v=ES i t)\/(∃x t,k=E9 x/\v=J3 x t)
 | .inl i,v,h=>by
  obtain⟨t,e⟩:=Value.isInt_shape (k:=i) (v:=v) h;exact .inl ⟨i,t,rfl,e⟩
 | .inr x,v,h=>by
  obtain⟨t,e⟩:=Value.isStrOf_shape (x:=x) (v:=v) h;exact .inr ⟨x,t,rfl,e⟩
theorem gf(i:Int)(t:Tok):fT (.inl i) (.int i t)=true:=by simp[fT,KC]
theorem gh(x:Str)(t:Tok):fT (.inr x) (.str x t)=true:=by simp[fT,K4]
theorem xh(a b:Int):decide ((E8 a:Key)=E8 b)=(a==b):=by
 by_cases e:a=b;·subst e;simp
 ·have h:¬(E8 a:Key)=E8 b:=fun q=>e<|KD q;rw[decide_eq_false h];exact(beq_eq_false_iff_ne.mpr e).symm
theorem xi(a b:Str):decide ((E9 a:Key)=E9 b)=decide (a=b):=by
 by_cases e:a=b;·subst e;simp
 ·have h:¬(E9 a:Key)=E9 b:=fun q=>e<|KG q;rw[decide_eq_false h,decide_eq_false e]
theorem xj(a:Int)(b:Str):decide ((E8 a:Key)=E9 b)=false:=decide_eq_false (fun q=>nomatch q)
theorem xk(a:Str)(b:Int):decide ((E9 a:Key)=E8 b)=false:=decide_eq_false (fun q=>nomatch q)
def mixKind(prog:BK)(w:BQ):PySem.KeyKind prog w Key where
 is:=fT
 hash:=rH w
 inj:=fun v a b ha hb=>by
  rcases bM ha with⟨i,t,rfl,rfl⟩|⟨x,t,rfl,rfl⟩
  ·rcases bM hb with⟨j,u,rfl,e⟩ | ⟨y,u,rfl,e⟩
   ·injection e with e1 _;rw[e1]
   ·exact nomatch e
  ·rcases bM hb with⟨j,u,rfl,e⟩ | ⟨y,u,rfl,e⟩
   ·exact nomatch e
   ·injection e with e1 _;rw[e1]
 byValue:=fun k v h=>by
  rcases bM h with⟨i,t,rfl,rfl⟩|⟨x,t,rfl,rfl⟩<;>rfl
 pyHash:=fun hv h=>by
  rcases bM hv with⟨i,t,rfl,rfl⟩|⟨x,t,rfl,rfl⟩
  ·exact wpAny_pyHash_int h
  ·exact wpAny_pyHash_str h
 eqBool:=fun hu hv h=>by
  rcases bM hu with⟨i,t,rfl,rfl⟩|⟨x,t,rfl,rfl⟩
  ·rcases bM hv with⟨j,u,rfl,rfl⟩ | ⟨y,u,rfl,rfl⟩
   ·rw[xh]at h;exact GV h
   ·rw[xj]at h;exact Ij i t y u _ _ _ _ h
  ·rcases bM hv with⟨j,u,rfl,rfl⟩ | ⟨y,u,rfl,rfl⟩
   ·rw[xk]at h;exact Ik x t j u _ _ _ _ h
   ·rw[xi]at h;exact wpAny_eqBool_str h
 «strs»:=fun k x t v h=>by
  rcases bM h with⟨i,u,rfl,e⟩|⟨y,u,rfl,e⟩
  ·exact nomatch e
  ·injection e with e1 _;subst e1;cases v<;>rfl
theorem mn(prog:BK)(w:BQ)(i:Int)(t:Tok):(mixKind prog w).is (.inl i) (.int i t)=true:=gf i t
theorem mq(prog:BK)(w:BQ)(x:Str)(t:Tok):(mixKind prog w).is (.inr x) (.str x t)=true:=gh x t
inductive V where
 |non|bl (b:Bool)|int (i:Int)|str (x:Str)|byt (b:Array UInt8)|flt (b:UInt64)|ref (a:Addr)|ty (n:String)
 deriving DecidableEq
def RelV:V->Bs->Prop
 | .non,u=>u=Ct
 | .bl b,u=>u=Il b
 | .int i,u=>∃t,u=ES i t
 | .str x,u=>∃t,u=J3 x t
 | .byt b,u=>∃t,u=Value.bytes b t
 | .flt b,u=>∃t,u=KH b t
 | .ref a,u=>u=CL a
 | .ty n,u=>u=EG n
abbrev Vals:List V->List Bs->Prop:=Paired RelV
theorem Vals.length{xs:List V}{us:List Bs}(r:Vals xs us):xs.length=us.length:=Paired.length r
theorem Vals.get:∀{xs:List V}{us:List Bs}{i:Nat}{x:V},Vals xs us->xs[i]? =some x->∃u,us[i]? =some u/\RelV x u
 |_,_,_,_,.nil,e=>by simp at e
 |_,_,0,_,.cons r _,e=>by simp at e;subst e;exact⟨_,rfl,r⟩
 |_,_,i+1,x, .cons _ t,e=>by
  obtain⟨u,h1,h2⟩:=Vals.get (i:=i) (x:=x) t (by simpa using e);exact⟨u,by simpa using h1,h2⟩
theorem Vals.set{x:V}{u:Bs}(r:RelV x u):∀{xs:List V}{us:List Bs}(i:Nat),Vals xs us->Vals (xs.set i x) (us.set i u)
 |_,_,_,.nil=>.nil
 |_,_,0,.cons _ t=>.cons r t
 |_,_,i+1,.cons q t=>.cons q<|Vals.set r i t
theorem Vals.append:∀{xs ys:List V}{us ws:List Bs},Vals xs us->Vals ys ws->Vals (xs++ys) (us++ws)
 |_,_,_,_,.nil,s=>s
 |_,_,_,_,.cons r t,s=>.cons r<|Vals.append t s
theorem Vals.take:∀{xs:List V}{us:List Bs}(n:Nat),Vals xs us->Vals (xs.take n) (us.take n)
 |_,_,0,_=>.nil
 |_,_,_+1,.nil=>.nil
 |_,_,n+1,.cons r t=>.cons r<|Vals.take n t
theorem Vals.drop:∀{xs:List V}{us:List Bs}(n:Nat),Vals xs us->Vals (xs.drop n) (us.drop n)
 |_,_,0,r=>r
 |_,_,_+1,.nil=>.nil
 |_,_,n+1,.cons _ t=>Vals.drop n t
def RelO:Option V->Option Bs->Prop
 |some v,some u=>RelV v u
 |none,none=>True
 |_,_=>False
def KV{κ:Type}:List (κ×V)->List (κ×Bs)->Prop:=Paired fun(p:κ×V)(q:κ×Bs)=>p.1=q.1/\RelV p.2 q.2
def kV:Key->V
 | .inl i=>.int i
 | .inr x=>.str x
inductive HO where
 |lst (xs:List V)
 |tup (xs:List V)
 |dK (kvs:List (Key×V))|dT (kvs:List (List Key×V))
 |set (S:Int->Bool) (n:Nat)
 |ins (C dx:Addr) (fs:List (Str×V))
 |own (x:Addr)
 |xd (fs:List (Str×V))
 |met (f x:Addr)
 |rng (lo hi:Int)
 |frz (o:Obj) (u:HO)
 |tbl (ps:Array Bs)
 |ext (φ:Heap->Prop)
abbrev Hp:=Addr->Option HO
def cN(H:Hp)(a:Addr)(o:HO):Hp:=fun b=>if b=a then some o else H b
theorem aB{H:Hp}{a:Addr}{o:HO}:cN H a o a=some o:=by unfold cN;rw[if_pos rfl]
theorem aG{H:Hp}{a b:Addr}{o:HO}(h:b≠a):cN H a o b=H b:=by unfold cN;rw[if_neg h]
theorem cn{H:Hp}{a b:Addr}{o:HO}(h:H a=some o)(h':H b=none):a≠b:=by
 intro e;subst e;rw[h]at h';cases h'
def IsTupD(h:Heap)(a:Addr)(items:Array Bs):Prop:=∃o,h.get? a=some o/\(o.cls=.type "tuple"/\o.dict=none)/\∃n,o.data=.seq items n
theorem IsTupD.tup{h:Heap}{a:Addr}{items:Array Bs}(t:IsTupD h a items):IsTup h a items:=let ⟨o,e,c,n,d⟩:=t;⟨o,e,c.1,n,d⟩
theorem IsTupD.new(h:Heap)(items:Array Bs):IsTupD (h.push {cls:=.type "tuple",data:=.seq items}) h.objs.size items:=⟨_,By h rfl,⟨rfl,rfl⟩,0,rfl⟩
section
variable(P:BK)(w:BQ)
def ObjOk(H:Hp)(h:Heap)(a:Addr):HO->Prop
 | .lst xs=>xs.length<=sizeLine/\∃(its:List Bs)(n:Nat),Vals xs its/\h.get? a=some {cls:=.type "list",data:=.seq its.toArray n}
 | .tup xs=>xs.length<=sizeLine/\∃its:List Bs,Vals xs its/\IsTupD h a its.toArray
 | .dK kvs=>kvs.length<=sizeLine/\(a==sysModules)=false/\∃vs,KV kvs vs/\h.DictOf (mixKind P w) a vs
 | .dT kvs=>kvs.length<=sizeLine/\(a == sysModules)=false/\∃xs:List (List Key×Addr×Bs),
   Paired (fun(p:List Key×V)(q:List Key×Addr×Bs)=>p.1=q.1/\H q.2.1=some (.tup<|p.1.map kV)/\RelV p.2 q.2.2) kvs xs/\
   ∃o es ep,h.get? a=some o/\o.ExactDict/\o.data=.dict es ep/\es.toList=xs.map (entryOfKey<|tupleKind<|mixKind P w)/\(xs.map (·.1)).Nodup
 | .set S n=>h.SetOf (intKind P w) a S n
 | .ins C dx fs=>H dx=some (.own a)/\fs.length<=1000/\dx≠a/\h.get? a=some (Hl C dx)/\
   ∃mA,h.Ns1 dx mA/\(∀f,RelO (fs.lookup f)<|mA f)/\Kt mA (fs.map (·.1))
 | .own _=>∃o,h.get? a=some o
 | .xd fs=>∃mA,h.Ns1 a mA/\∀f,RelO (fs.lookup f)<|mA f
 | .rng lo hi=>∃t u v,h.get? a=some {cls:=.type "range",data:=.fields #[.int lo t,.int hi u,.int 1 v]}
 | .frz o u=>h.get? a=some o/\ObjOk H h a u
 | .tbl ps=>h.get? a=some {cls:=.none,data:=.fields ps}
 | .met f x=>h.get? a=some (GB (.ref f)<|.ref x)
 | .ext φ=>φ h/\(∃o,h.get? a=some o)/\∀h1 h2:Heap,φ h1->(∀o,h1.get? a=some o->h2.get? a=some o)->φ h2
def HOk(H:Hp)(h:Heap):Prop:=∀a o,H a=some o->ObjOk P w H h a o
end
section
variable{P:BK}{w:BQ}{H H':Hp}{h h':Heap}{a:Addr}{o:HO}
theorem ObjOk.lt(x:ObjOk P w H h a o):a<h.objs.size:=by
 cases o with
 |lst xs=>obtain⟨_,_,_,_,e⟩:=x;exact BA e
 |tup xs=>obtain⟨_,_,_,p⟩:=x;exact p.tup.lt
 |dK kvs=>obtain⟨_,_,_,_,o,_,_,e,_⟩:=x;exact BA e
 |dT kvs=>obtain⟨_,_,_,_,o,_,_,e,_⟩:=x;exact BA e
 |set S n=>obtain⟨o,_,_,_,e,_⟩:=x;exact BA e
 |ins C dx fs=>obtain⟨_,_,_,e,_⟩:=x;exact BA e
 |own y=>obtain⟨_,e⟩:=x;exact BA e
 |xd fs=>obtain⟨_,⟨_,_,_,e,_⟩,_⟩:=x;exact BA e
 |rng lo hi=>obtain⟨_,_,_,e⟩:=x;exact BA e
 |frz ob u=>obtain⟨e,_⟩:=x;exact BA e
 |tbl ps=>exact BA (show h.get? a=some _ from x)
 |met f y=>exact BA (show h.get? a=some _ from x)
 |ext φ=>obtain⟨_,⟨_,e⟩,_⟩:=x;exact BA e
theorem Paired.mapP{α β:Type}{F G:α->β->Prop}:∀{l₁:List α}{l₂:List β},Paired F l₁ l₂->(∀a b,F a b->G a b)->Paired G l₁ l₂
 |_,_,.nil,_=>.nil
 |_,_,.cons r t,f=>.cons (f _ _ r)<|Paired.mapP t f
theorem ObjOk.stay(x:ObjOk P w H h a o)(k:∀b u,(b=a\/H b=some (.own a))->h.get? b=some u->h'.get? b=some u)
  (ho:∀b,H b=some (.own a)->H' b=some (.own a)) (ht:∀b xs,H b=some (.tup xs)->H' b=some (.tup xs)):ObjOk P w H' h' a o:=by
 induction o with
 |lst xs=>obtain⟨z,its,n,r,e⟩:=x;exact⟨z,its,n,r,k _ _ (.inl rfl) e⟩
 |tup xs=>obtain⟨z,its,r,ob,e,c⟩:=x;exact⟨z,its,r,ob,k _ _ (.inl rfl) e,c⟩
 |dK kvs=>obtain⟨z,y,vs,r,ob,es,ep,e,c⟩:=x;exact⟨z,y,vs,r,ob,es,ep,k _ _ (.inl rfl) e,c⟩
 |dT kvs=>
  obtain⟨z,y,xs,r,ob,es,ep,e,c⟩:=x;exact⟨z,y,xs,Paired.mapP r fun p q z=>⟨z.1,ht _ _ z.2.1,z.2.2⟩,ob,es,ep,k _ _ (.inl rfl) e,c⟩
 |set S n=>obtain⟨ob,es,ep,t,e,c⟩:=x;exact⟨ob,es,ep,t,k _ _ (.inl rfl) e,c⟩
 |ins C dx fs=>
  obtain⟨d,z,ne,e,mA,⟨od,es,ep,e2,c⟩,r⟩:=x;exact⟨ho _ d,z,ne,k _ _ (.inl rfl) e,mA,⟨od,es,ep,k _ _ (.inr d) e2,c⟩,r⟩
 |own y=>obtain⟨ob,e⟩:=x;exact⟨ob,k _ _ (.inl rfl) e⟩
 |xd fs=>obtain⟨mA,⟨od,es,ep,e,c⟩,r⟩:=x;exact⟨mA,⟨od,es,ep,k _ _ (.inl rfl) e,c⟩,r⟩
 |rng lo hi=>obtain⟨t,u,v,e⟩:=x;exact⟨t,u,v,k _ _ (.inl rfl) e⟩
 |frz ob u ih=>obtain⟨e,q⟩:=x;exact⟨k _ _ (.inl rfl) e,ih q⟩
 |tbl ps=>
  have e:h.get? a=some {cls:=.none,data:=.fields ps}:=x;show h'.get? a=some {cls:=.none,data:=.fields ps};exact k a _ (.inl rfl) e
 |met f y=>
  have e:h.get? a=some (GB (.ref f)<|.ref y):=x;show h'.get? a=some (GB (.ref f)<|.ref y);exact k a _ (.inl rfl) e
 |ext φ=>obtain⟨p,⟨o,e⟩,st⟩:=x;exact⟨st _ _ p fun o q=>k _ _ (.inl rfl) q,⟨o,k _ _ (.inl rfl) e⟩,st⟩
theorem HOk.lt(x:HOk P w H h)(e:H a=some o):a<h.objs.size:=(x a o e).lt
theorem HOk.fresh(x:HOk P w H h)(e:h.objs.size<=a):H a=none:=by
 cases q:H a with
 |none=>rfl
 |some u=>exact absurd (BE (x.lt q) e)<|CZ _
theorem HOk.kept(x:HOk P w H h)(k:∀b u,h.get? b=some u->h'.get? b=some u):HOk P w H h':=fun a o e=>
 (x a o e).stay (fun b u _ q=>k b u q) (fun _ q=>q) fun _ _ q=>q
theorem HOk.laid(x:HOk P w H h)(k:∀b u,h.get? b=some u->h'.get? b=some u)(hp:h.objs.size<=a)(new:ObjOk P w (cN H a o) h' a o):HOk P w (cN H a o) h':=fun b u e=>by
 have hn:=x.fresh hp;by_cases hb:b=a;·subst hb;rw[aB]at e;cases e;exact new
 ·rw[aG hb]at e;exact(x b u e).stay (fun c v _ q=>k c v q) (fun c q=>by rw[aG<|cn q hn];exact q) fun c xs q=>by rw[aG<|cn q hn];exact q
end
def Rd(H:Hp)(a:Addr)(u:HO):Prop:=H a=some u\/∃o,H a=some (.frz o u)
theorem Rd.ok{P:BK}{w:BQ}{H:Hp}{h:Heap}{a:Addr}{u:HO}(r:Rd H a u)(x:HOk P w H h):ObjOk P w H h a u:=by
 rcases r with r|⟨o,r⟩
 ·exact x a u r
 ·obtain⟨_,q⟩:=x a _ r;exact q
def yL:Option HO->Prop
 |some (.lst _)=>True
 |some (.dK _)=>True
 |some (.dT _)=>True
 |some (.set _ _)=>True
 |some (.ins _ _ _)=>True
 |some (.ext _)=>True
 |_=>False
section
variable{P:BK}{w:BQ}{H:Hp}{h h':Heap}{x e:Addr}{o':HO}
theorem HOk.write(ok:HOk P w H h)(mu:yL (H x))(he:e=x\/H e=some (.own x))(k:∀b u,b≠e->h.get? b=some u->h'.get? b=some u)(heo:∃u,h'.get? e=some u)
  (new:ObjOk P w (cN H x o') h' x o'):HOk P w (cN H x o') h':=fun b u q=>by
 have nown:∀c y,H c=some (.own y)->c≠x:=fun c y r z=>by subst z;rw[r]at mu;exact mu
 have ntup:∀c xs,H c=some (.tup xs)->c≠x:=fun c xs r z=>by subst z;rw[r]at mu;exact mu
 by_cases hb:b=x;·subst hb;rw[aB]at q;cases q;exact new
 ·rw[aG hb]at q;by_cases hbe:b=e
  ·have q':H b=some (.own x):=by
    rcases he with z|z;·exact absurd (hbe.trans z) hb
    ·rw[hbe];exact z
   rw[q]at q';cases q';obtain⟨v,hv⟩:=heo;exact⟨v,by rw[hbe];exact hv⟩
  ·refine(ok b u q).stay (fun c v hc r=>k c v ?_ r) (fun c r=>by rw[aG<|nown c b r];exact r) fun c xs r=>by rw[aG<|ntup c xs r];exact r
   rcases hc with rfl|hc;·exact hbe
   ·rintro rfl;rcases he with z|z;·exact nown c b hc z
    ·rw[hc]at z;cases z;exact hb rfl
end
structure Un(fs ex:List Addr)(H H':Hp)(h h':Heap):Prop where
 keep:∀b o,h.get? b=some o->H b=none->b∉fs->b∉ex->h'.get? b=some o
 slot:∀b o,h.get? b=some o->H b=none->b∈fs->b∉ex->∃sl,h'.get? b=some {o with slots:=sl}
 free:∀b o,h.get? b=some o->H b=none->b∉ex->H' b=none
 there:∀b o,h.get? b=some o->b∉ex->∃o',h'.get? b=some o'
 tups:∀b xs,H b=some (.tup xs)->H' b=some (.tup xs)
 frzs:∀b o u,H b=some (.frz o u)->H' b=some (.frz o u)
 tbls:∀b ps,H b=some (.tbl ps)->∃more,H' b=some (.tbl<|ps++more)
section
variable{fs fs' ex ex':List Addr}{H H1 H2:Hp}{h h1 h2 h':Heap}{a x e:Addr}{o:HO}
theorem Un.any(u:Un fs ex H H1 h h1){b:Addr}{ob:Obj}(q:h.get? b=some ob)(n:H b=none)(hx:b∉ex):∃sl,h1.get? b=some {ob with slots:=sl}:=by
 by_cases hb:b∈fs;·exact u.slot b ob q n hb hx
 ·exact⟨ob.slots,u.keep b ob q n hb hx⟩
theorem Un.kept(k:∀b u,h.get? b=some u->h'.get? b=some u):Un fs ex H H h h':=
 ⟨fun b ob q _ _ _=>k b ob q,fun b ob q _ _ _=>⟨ob.slots,k b ob q⟩,fun _ _ _ n _=>n,fun b ob q _=>⟨ob,k b ob q⟩,fun _ _ q=>q,fun _ _ _ q=>q,fun _ ps q=>⟨#[],by rw[q];simp⟩⟩
theorem Un.refl:Un fs ex H H h h:=Un.kept fun _ _ q=>q
theorem Un.laid(k:∀b u,h.get? b=some u->h'.get? b=some u)(hp:h.objs.size<=a)(hn:H a=none):Un fs ex H (cN H a o) h h' where
 keep:=fun b u q _ _ _=>k b u q
 slot:=fun b u q _ _ _=>⟨u.slots,k b u q⟩
 free:=fun b u q n _=>by rw[aG<|BL<|BE (BA q) hp];exact n
 there:=fun b u q _=>⟨u,k b u q⟩
 tups:=fun b xs q=>by rw[aG<|cn q hn];exact q
 frzs:=fun b u xs q=>by rw[aG<|cn q hn];exact q
 tbls:=fun b ps q=>⟨#[],by rw[aG<|cn q hn,q];simp⟩
theorem Un.write(mu:yL (H x))(he:e=x\/H e=some (.own x))(k:∀b u,b≠e->h.get? b=some u->h'.get? b=some u)(heo:∃u,h'.get? e=some u):Un fs ex H (cN H x o) h h':=by
 have hx:∀b,H b=none->b≠x:=fun b n z=>by subst z;rw[n]at mu;exact mu
 have hb:∀b,H b=none->b≠e:=fun b n z=>by
  subst z;rcases he with r|r
  ·exact hx b n r
  ·rw[n]at r;cases r
 have hm:∀b u,H b=some u->¬yL (some u)->b≠x:=fun b u q nm z=>by subst z;rw[q]at mu;exact nm mu
 refine⟨fun b u q n _ _=>k b u (hb b n) q,fun b u q n _ _=>⟨u.slots,k b u (hb b n) q⟩,fun b u q n _=>by rw[aG<|hx b n];exact n,fun b u q _=>?_,
  fun b xs q=>by rw[aG (hm b _ q fun z=>z)];exact q,fun b u xs q=>by rw[aG (hm b _ q fun z=>z)];exact q,fun b ps q=>⟨#[],by rw[aG (hm b _ q fun z=>z),q];simp⟩⟩
 by_cases hbe:b=e;·subst hbe;exact heo
 ·exact⟨u,k b u hbe q⟩
end
def iO(h:Heap)(H:Hp):List Addr:=(Cv h.objs.size).filter fun a=>(H a).isSome
def l8(h:Heap)(H:Hp):Heap:=PySem.W.hideAll h<|iO h H
theorem qg(h:Heap)(H:Hp):(l8 h H).objs.size=h.objs.size:=PySem.W.hideAll_size _ _
theorem rJ{h:Heap}{H:Hp}{b:Addr}{o:Obj}(e:h.get? b=some o)(n:H b=none):(l8 h H).get? b=some o:=
 PySem.W.hideAll_get _ e fun hm=>by
  have q:(H b).isSome=true:=(Hm.mp hm).2;rw[n]at q;simp at q
theorem vc{h:Heap}{H:Hp}{b:Addr}{o:Obj}(e:(l8 h H).get? b=some o):h.get? b=some o/\H b=none:=by
 have e':h.get? b=some o:=PySem.W.of_hideAll (iO h H) e;refine⟨e',?_⟩;cases q:H b with
 |none=>rfl
 |some x=>
  have hm:b∈iO h H:=Hm.mpr ⟨EH.mpr<|BA e',by simp[q]⟩;have z:(l8 h H).get? b=none:=PySem.W.hideAll_none (iO h H) hm;rw[z]at e;cases e
structure Mod(K:Br)(mg:Str->Option Bs)(base:Heap):Prop where
 kin:K.In base
 glob:base.Ns mainGlobals mg
 blt:∃mb,base.Ns builtinsNs mb/\∀x:Str,x≠"__name__"->mb x=bootBuiltins x
 nolimit:base.NoLimit
structure Cx where
 prog:BK
 w:BQ
 K:Br
 mg:Str->Option Bs
 base:Heap
 A:Ck
 N:List Str
 s₀:Bu
 H₀:Hp
 env:Env
 outer:List Env
 stack:List Env
 ex:List Addr
 fn:Str->Bool
 calm:Bool
 pn:List (Addr×Obj)
 xe:Bs->Bu->Prop
def frs(l:List Env):List Addr:=l.filterMap (·.frame)
abbrev Cx.fs(X:Cx):List Addr:=frs X.outer
def Vis(sc:EI)(x:Str):Prop:=sc.names.lookup x=some .local\/sc.names.lookup x=some .cell\/sc.names.lookup x=some .free
def xl(sc:EI)(x:Str):Prop:=sc.names.lookup x=some .local\/sc.names.lookup x=some .cell
def Look(env:Env)(h:Heap)(m:Str->Option Bs)(x:Str)(u:Bs):Prop:=
 (env.kindOf x=some .local/\m x=some u)\/((env.kindOf x=some .cell\/env.kindOf x=some .free)/\∃c,env.cells.lookup x=some c/\h.IsCell c (some u))
structure Cx.Ok(X:Cx):Prop where
 mod:Mod X.K X.mg X.base
 kind:X.env.scope.kind=.function
 glob:X.env.globals=mainGlobals
 blt:X.env.builtins=builtinsNs
 above:X.s₀.heap.objs.size<=X.env.locals
 inj:∀x y c,X.env.cells.lookup x=some c->X.env.cells.lookup y=some c->x=y
 has:∀x,(X.env.kindOf x=some .cell\/X.env.kindOf x=some .free)->∃c,X.env.cells.lookup x=some c
 cab:∀x c,X.fn x=true->X.env.cells.lookup x=some c->X.s₀.heap.objs.size<=c
 hd:X.calm=true->X.A.handled=none
 frames:X.A.frames=some X.stack
 stk:X.stack=X.outer\/(X.stack=X.env::X.outer/\X.env.frame=some X.env.locals)
 exf:∀b∈X.ex,b≠X.env.locals/\∀x c,X.env.cells.lookup x=some c->c≠b
 bs:∀b o,X.base.get? b=some o->X.s₀.heap.get? b=some o/\X.H₀ b=none
 bsz:X.base.objs.size<=X.s₀.heap.objs.size
 noex:∀b o,X.base.get? b=some o->b∉X.ex
 exfs:∀b∈X.ex,b∉X.fs
 funs:X.s₀.heap.FunFrames X.base X.outer
 frf:∀b∈X.fs,X.H₀ b=none
structure Inv(X:Cx)(pins:List (Addr×Obj))(σ:List (Option V))(H:Hp)(s:Bu):Prop where
 ok:X.Ok
 os:s.os=X.s₀.os
 bare:GC s.gens
 base:Un X.fs X.ex X.H₀ H X.s₀.heap s.heap
 loc:∃m,s.heap.Ns X.env.locals m/\∀(i:Nat)(x:Str)(v:V),X.N[i]? =some x->σ[i]? =some (some v)->Vis X.env.scope x->∃u,RelV v u/\Look X.env s.heap m x u
 cell:∀x c,X.env.cells.lookup x=some c->∃v,s.heap.IsCell c v
 free:H X.env.locals=none
 freeC:∀x c,X.env.cells.lookup x=some c->H c=none
 pin:∀p∈X.pn++pins,s.heap.get? p.1=some p.2/\H p.1=none/\p.1≠X.env.locals/\p.1∉X.fs/\∀v,p.2.data≠.cell v
 hok:HOk X.prog X.w H s.heap
 len:σ.length=X.N.length
section
variable{X:Cx}{pins:List (Addr×Obj)}{σ:List (Option V)}{H H':Hp}{s:Bu}{h':Heap}
theorem Cx.Ok.nofr(ok:X.Ok){b:Addr}{o:Obj}(e:X.base.get? b=some o):b∉X.fs:=fun hb=>by
 have:=(ok.funs.mem hb).1;rw[e]at this;cases this
theorem Inv.bs(I:Inv X pins σ H s):∀b o,X.base.get? b=some o->s.heap.get? b=some o/\H b=none:=fun b o e=>
 ⟨I.base.keep b o (I.ok.bs b o e).1 (I.ok.bs b o e).2 (I.ok.nofr e) (I.ok.noex b o e),I.base.free b o (I.ok.bs b o e).1 (I.ok.bs b o e).2 (I.ok.noex b o e)⟩
theorem Inv.bk(I:Inv X pins σ H s):∀b o,X.base.get? b=some o->s.heap.get? b=some o:=fun b o e=>(I.bs b o e).1
theorem Inv.mod(I:Inv X pins σ H s):Mod X.K X.mg X.base:=I.ok.mod
theorem Inv.kIn(I:Inv X pins σ H s):X.K.In s.heap:=I.ok.mod.kin.keeps I.bk
theorem Inv.lt(I:Inv X pins σ H s):X.env.locals<s.heap.objs.size:=let ⟨_,hn,_⟩:=I.loc;hn.lt
theorem Inv.sz(I:Inv X pins σ H s):X.s₀.heap.objs.size<=s.heap.objs.size:=Dt I.ok.above<|ET I.lt
theorem Inv.nofs(I:Inv X pins σ H s){a:Addr}(h:s.heap.objs.size<=a):a∉X.fs:=fun hb=>by
 obtain⟨_,o,ho,_⟩:=I.ok.funs.mem hb;exact absurd (BE (BA ho)<|Dt I.sz h)<|CZ _
theorem Inv.cne(I:Inv X pins σ H s):∀x c,X.env.cells.lookup x=some c->c≠X.env.locals:=fun x c e z=>by
 obtain⟨v,o,ho,hd⟩:=I.cell x c e;obtain⟨m,⟨o',es,ep,ho',hd',_⟩,_⟩:=I.loc;rw[z,ho']at ho;cases ho;rw[hd']at hd;cases hd
theorem Inv.funs(I:Inv X pins σ H s):s.heap.FunFrames X.base X.outer:=by
 have all:∀(l:List Env),(∀b∈frs l,b∈X.fs)->X.s₀.heap.FunFrames X.base l->s.heap.FunFrames X.base l:=by
  intro l
  induction l with
  |nil=>intro _ _;trivial
  |cons env r ih=>
   intro hs hl;obtain⟨hk,⟨L,o,hf,hn,ho,hd⟩,hr⟩:=hl;have hL:L∈X.fs:=hs L (by unfold frs;rw[Ea,hf];exact BN);obtain⟨sl,e⟩:=I.base.slot L o ho (I.ok.frf L hL) hL fun z=>I.ok.exfs L z hL;exact⟨hk,⟨L,_,hf,hn,e,hd⟩,ih (fun b hb=>hs b (by unfold frs;rw[Ea,hf];exact BP _ hb)) hr⟩
 exact all X.outer (fun _ hb=>hb) I.ok.funs
theorem Inv.stack(I:Inv X pins σ H s):s.heap.FunFrames X.base X.stack:=by
 rcases I.ok.stk with e|⟨e,hf⟩
 ·rw[e];exact I.funs
 ·rw[e];obtain⟨m,hn,_⟩:=I.loc;refine .cons (by rw[I.ok.kind];decide) hf hn ?_ I.funs;exact Heap.get?_none_of_le<|Dt I.ok.bsz I.ok.above
theorem Inv.stkSub(I:Inv X pins σ H s):∀b∈frs X.stack,b∈X.env.locals::X.fs:=fun b hb=>by
 rcases I.ok.stk with e|⟨e,hf⟩
 ·rw[e]at hb;exact BP _ hb
 ·rw[e]at hb;unfold frs at hb;rw[Ea,hf]at hb;exact hb
theorem Inv.stkFree(I:Inv X pins σ H s):∀b∈frs X.stack,H b=none:=fun b hb=>by
 rcases BM.mp (I.stkSub b hb)with e|hb;·rw[e];exact I.free
 ·obtain⟨_,o,ho,_⟩:=I.ok.funs.mem hb;exact I.base.free b o ho (I.ok.frf b hb) fun z=>I.ok.exfs b z hb
theorem Inv.step{g':Array Jz}{t':Nat}{d':Drawn}{ch:List Addr}(I:Inv X pins σ H s)
  (hch:∀b∈ch,(b∈X.ex\/X.s₀.heap.objs.size<=b)/\b≠X.env.locals/\(∀x c,X.env.cells.lookup x=some c->c≠b)/\∀p∈X.pn++pins,p.1≠b)
  (keep:∀b o,b≠X.env.locals->b∉X.fs->b∉ch->s.heap.get? b=some o->H b=none->h'.get? b=some o)
  (slot:∀b o,b≠X.env.locals->b∈X.fs->b∉ch->s.heap.get? b=some o->H b=none->∃sl,h'.get? b=some {o with slots:=sl}) (free:∀b o,b∉ch->s.heap.get? b=some o->H b=none->H' b=none)
  (there:∀b o,b∉ch->s.heap.get? b=some o->∃o',h'.get? b=some o')
  (tups:∀b xs,H b=some (.tup xs)->H' b=some (.tup xs)) (frzs:∀b o u,H b=some (.frz o u)->H' b=some (.frz o u)) (tbls:∀b ps,H b=some (.tbl ps)->∃more,H' b=some (.tbl<|ps++more))
  (ns:∀m,s.heap.Ns X.env.locals m->h'.Ns X.env.locals m) (hok:HOk X.prog X.w H' h') (hg:GC g'):
  Inv X pins σ H' {s with heap:=h',gens:=g',drawn:=d',toks:=t'}:=by
 have neL:∀b o,X.s₀.heap.get? b=some o->b≠X.env.locals:=fun b o e=>BL<|BE (BA e) I.ok.above;have neC:∀b o,X.s₀.heap.get? b=some o->b∉X.ex->b∉ch:=fun b o e hx hb=>by
  rcases (hch b hb).1 with z|z;·exact hx z
  ·exact absurd (BE (BA e) z)<|CZ _
 have cellK:∀x c,X.env.cells.lookup x=some c->∀v,s.heap.IsCell c v->h'.IsCell c v:=fun x c e v⟨o,ho,hd⟩=>by
  have nch:c∉ch:=fun z=>(hch c z).2.2.1 x c e rfl;by_cases hc:c∈X.fs
  ·obtain⟨sl,q⟩:=slot c o (I.cne x c e) hc nch ho<|I.freeC x c e;exact⟨_,q,hd⟩
  ·exact⟨o,keep c o (I.cne x c e) hc nch ho<|I.freeC x c e,hd⟩
 refine⟨I.ok,I.os,hg,⟨fun b o e n hb hx=>?_,fun b o e n hb hx=>?_,fun b o e n hx=>?_,fun b o e hx=>?_,fun b xs e=>tups b xs<|I.base.tups b xs e,fun b o xs e=>frzs b o xs<|I.base.frzs b o xs e,fun b ps e=>?_⟩,?_,fun x c e=>?_,?_,fun x c e=>?_,fun p hp=>?_,hok,I.len⟩;·exact keep b o (neL b o e) hb (neC b o e hx) (I.base.keep b o e n hb hx)<|I.base.free b o e n hx
 ·obtain⟨sl,e1⟩:=I.base.slot b o e n hb hx;obtain⟨sl',e2⟩:=slot b _ (neL b o e) hb (neC b o e hx) e1<|I.base.free b o e n hx;exact⟨sl',e2⟩
 ·obtain⟨o',e1⟩:=I.base.there b o e hx;exact free b o' (neC b o e hx) e1<|I.base.free b o e n hx
 ·obtain⟨o',e1⟩:=I.base.there b o e hx;exact there b o' (neC b o e hx) e1
 ·obtain⟨m1,e1⟩:=I.base.tbls b ps e;obtain⟨m2,e2⟩:=tbls b _ e1;exact⟨m1++m2,by rw[e2,Array.append_assoc]⟩
 ·obtain⟨m,hn,hl⟩:=I.loc;refine⟨m,ns m hn,fun i x v e1 e2 e3=>?_⟩;obtain⟨u,r,l⟩:=hl i x v e1 e2 e3;refine⟨u,r,?_⟩;rcases l with l|⟨k,c,e,z⟩
  ·exact .inl l
  ·exact .inr ⟨k,c,e,cellK x c e _ z⟩
 ·obtain⟨v,z⟩:=I.cell x c e;exact⟨v,cellK x c e v z⟩
 ·obtain⟨m,⟨o,_,_,ho,_⟩,_⟩:=I.loc;exact free _ o (fun z=>(hch _ z).2.1 rfl) ho I.free
 ·obtain⟨v,o,ho,hd⟩:=I.cell x c e;exact free c o (fun z=>(hch c z).2.2.1 x c e rfl) ho<|I.freeC x c e
 ·obtain⟨e,n,ne,nf,d⟩:=I.pin p hp;have nch:p.1∉ch:=fun z=>(hch p.1 z).2.2.2 p hp rfl;exact⟨keep p.1 p.2 ne nf nch e n,free p.1 p.2 nch e n,ne,nf,d⟩
theorem Inv.un{t':Nat}(I:Inv X pins σ H s)(u:Un X.fs [] H H' s.heap h')(hok:HOk X.prog X.w H' h'):Inv X pins σ H' {s with heap:=h',toks:=t'}:=by
 obtain⟨m,⟨o,es,ep,ho,r⟩,_⟩:=id I.loc;obtain⟨sl,hL⟩:=u.any ho I.free (by simp);exact I.step (g':=s.gens) (d':=s.drawn) (ch:=[]) (fun _ z=>nomatch z) (fun b o _ hb _ e n=>u.keep b o e n hb (by simp)) (fun b o _ hb _ e n=>u.slot b o e n hb (by simp)) (fun b o _ e n=>u.free b o e n (by simp)) (fun b o _ e=>u.there b o e (by simp)) u.tups u.frzs u.tbls (fun m' hm=>by
  obtain⟨o',es',ep',ho',r'⟩:=hm;rw[ho]at ho';cases ho';exact⟨_,es',ep',hL,r'⟩) hok I.bare
theorem Inv.call{g':Array Jz}{t':Nat}{d':Drawn}{ch:List Addr}(I:Inv X pins σ H s)(u:Un (frs X.stack) ch H H' s.heap h')(hok:HOk X.prog X.w H' h')(hg:GC g')
  (hch:∀b∈ch,(b∈X.ex\/X.s₀.heap.objs.size<=b)/\b≠X.env.locals/\(∀x c,X.env.cells.lookup x=some c->c≠b)/\∀p∈X.pn++pins,p.1≠b):
  Inv X pins σ H' {s with heap:=h',gens:=g',drawn:=d',toks:=t'}:=by
 obtain⟨m,⟨o,es,ep,ho,r⟩,_⟩:=id I.loc;obtain⟨sl,hL⟩:=u.any ho I.free fun z=>(hch _ z).2.1 rfl;exact I.step (ch:=ch) hch (fun b o hL hb hc e n=>u.keep b o e n (fun z=>(BM.mp<|I.stkSub b z).elim hL hb) hc) (fun b o _ _ hc e n=>u.any e n hc) (fun b o hc e n=>u.free b o e n hc) (fun b o hc e=>u.there b o e hc) u.tups u.frzs u.tbls (fun m' hm=>by
  obtain⟨o',es',ep',ho',r'⟩:=hm;rw[ho]at ho';cases ho';exact⟨_,es',ep',hL,r'⟩) hok hg
theorem Inv.turned{t':Nat}{it:Addr}(I:Inv X pins σ H s)(k:∀b o,b≠it->s.heap.get? b=some o->h'.get? b=some o)(hn:H it=none)(hL:it≠X.env.locals)
  (h1:it∈X.ex\/X.s₀.heap.objs.size<=it) (h2:∀x c,X.env.cells.lookup x=some c->c≠it) (h3:∀p∈X.pn++pins,p.1≠it):Inv X pins σ H {s with heap:=h',toks:=t'}:=by
 have nit:∀b u,H b=some u->b≠it:=fun b u e z=>by rw[z,hn]at e;cases e
 refine I.step (g':=s.gens) (d':=s.drawn) (ch:=[it]) (fun b hb=>?_) (fun b o _ _ hc e _=>k b o (fun z=>hc (by simp[z])) e) (fun b o _ _ hc e _=>⟨o.slots,k b o (fun z=>hc (by simp[z])) e⟩) (fun _ _ _ _ n=>n)
  (fun b o hc e=>⟨o,k b o (fun z=>hc (by simp[z])) e⟩) (fun _ _ e=>e) (fun _ _ _ e=>e) (fun b ps e=>⟨#[],by rw[e];simp⟩) (fun m hm=>?_) (fun b u e=>?_) I.bare
 ·have e:b=it:=by simpa using hb
  subst e;exact⟨h1,hL,h2,h3⟩
 ·obtain⟨o,es,ep,ho,r⟩:=hm;exact⟨o,es,ep,k _ o (DZ hL) ho,r⟩
 ·refine(I.hok b u e).stay (fun c v hc q=>k c v ?_ q) (fun _ q=>q) fun _ _ q=>q;rcases hc with z|z
  ·rw[z];exact nit b u e
  ·exact nit c _ z
theorem Inv.tok(I:Inv X pins σ H s)(t:Nat):Inv X pins σ H {s with toks:=t}:=I.un (h':=s.heap) (t':=t) Un.refl I.hok
theorem Inv.kept{t':Nat}(I:Inv X pins σ H s)(k:∀b u,s.heap.get? b=some u->h'.get? b=some u):Inv X pins σ H {s with heap:=h',toks:=t'}:=I.un (Un.kept k)<|I.hok.kept k
theorem Inv.laid{a:Addr}{o:HO}{t':Nat}(I:Inv X pins σ H s)(k:∀b u,s.heap.get? b=some u->h'.get? b=some u)(hp:s.heap.objs.size<=a)(new:ObjOk X.prog X.w (cN H a o) h' a o):
  Inv X pins σ (cN H a o) {s with heap:=h',toks:=t'}:=I.un (Un.laid k hp<|I.hok.fresh hp)<|I.hok.laid k hp new
theorem Inv.write{x e:Addr}{o:HO}{t':Nat}(I:Inv X pins σ H s)(mu:yL (H x))(he:e=x\/H e=some (.own x))(k:∀b u,b≠e->s.heap.get? b=some u->h'.get? b=some u)(heo:∃u,h'.get? e=some u)
  (new:ObjOk X.prog X.w (cN H x o) h' x o):Inv X pins σ (cN H x o) {s with heap:=h',toks:=t'}:=I.un (Un.write mu he k heo)<|I.hok.write mu he k heo new
theorem Inv.weak{σ':List (Option V)}(I:Inv X pins σ H s)(hl:σ'.length=σ.length)(w:∀(i:Nat)v,σ'[i]? =some (some v)->σ[i]? =some (some v)):Inv X pins σ' H s:=
 ⟨I.ok,I.os,I.bare,I.base,let ⟨m,hn,hl'⟩:=I.loc;⟨m,hn,fun i x v e1 e2 e3=>hl' i x v e1 (w i v e2) e3⟩,I.cell,I.free,I.freeC,I.pin,I.hok,hl.trans I.len⟩
theorem Inv.pins_of{pins':List (Addr×Obj)}(I:Inv X pins σ H s)(h:∀p∈pins',s.heap.get? p.1=some p.2/\H p.1=none/\p.1≠X.env.locals/\p.1∉X.fs/\∀v,p.2.data≠.cell v):Inv X pins' σ H s:=
 ⟨I.ok,I.os,I.bare,I.base,I.loc,I.cell,I.free,I.freeC,fun p hp=>(CU.mp hp).elim (fun z=>I.pin p<|FJ _ z) (h p),I.hok,I.len⟩
theorem mr{N:List Str}(hN:N.Nodup){i j:Nat}{x:Str}(a:N[i]? =some x)(b:N[j]? =some x):i=j:=by
 obtain⟨h1,e1⟩:=Bw.mp a;obtain⟨h2,e2⟩:=Bw.mp b;exact(List.getElem_inj hN).mp (e1.trans e2.symm)
theorem ku{M:Lf}{A:Ck}{E:Bs->Bu->Prop}{i:Nat}{x:Str}{v:V}{u:Bs}{Q:Unit->Bu->Prop}(I:Inv X pins σ H s)(hN:X.N.Nodup)(hi:X.N[i]? =some x)(hx:xl X.env.scope x)(r:RelV v u)
  (h:∀s',Inv X pins (σ.set i<|some v) H s'->(∃a,BO a s.heap s'.heap/\(a=X.env.locals\/X.env.cells.lookup x=some a))->Q () s') (hf:X.fn x=true\/X.env.scope.names.lookup x=some .local:=by first|exact .inl rfl|exact .inr rfl|assumption):wpAny M A (storeName X.env x u) Q E s:=by
 obtain⟨m,hn,hl⟩:=id I.loc;have hcls:(X.env.scope.kind== .class||(X.env.scope.kind== .module&&X.env.locals != X.env.globals))=false:=by rw[I.ok.kind];rfl
 have hiσ:i<σ.length:=by rw[I.len];exact(Bw.mp hi).1
 have cne:=I.cne;have tracked:∀{a:Addr}{h':Heap},(∃o,s.heap.get? a=some o/\H a=none)->BO a s.heap h'->HOk X.prog X.w H h':=fun{a h'}ha hs b ob e=>by
  obtain⟨_,_,hfree⟩:=ha;refine(I.hok b ob e).stay (fun c w' hc q=>(hs.2 c ?_).trans q) (fun _ q=>q) fun _ _ q=>q;rintro rfl;rcases hc with rfl|hc
  ·rw[hfree]at e;cases e
  ·rw[hfree]at hc;cases hc
 rcases hx with hk|hk
 ·refine wpAny_storeName_local hk hn (fun h' hn' hs=>?_) hcls;obtain⟨oL,_,_,hoL,_⟩:=id hn;refine h _ ⟨I.ok,I.os,I.bare,⟨fun b o e n hb hx=>?_,fun b o e n hb hx=>?_,I.base.free,fun b o e hx=>?_,I.base.tups,I.base.frzs,I.base.tbls⟩,⟨_,hn',fun j y v' e1 e2 e3=>?_⟩,fun y c e=>?_,I.free,I.freeC,fun p hp=>?_,tracked ⟨oL,hoL,I.free⟩ hs,by simpa using I.len⟩ ⟨_,hs,.inl rfl⟩;·exact(hs.2 b<|BL<|BE (BA e) I.ok.above).trans (I.base.keep b o e n hb hx)
  ·obtain⟨sl,e1⟩:=I.base.slot b o e n hb hx;exact⟨sl,(hs.2 b<|BL<|BE (BA e) I.ok.above).trans e1⟩
  ·obtain⟨o',e1⟩:=I.base.there b o e hx;exact⟨o',(hs.2 b<|BL<|BE (BA e) I.ok.above).trans e1⟩
  ·by_cases hj:j=i
   ·subst hj;rw[hi]at e1;cases e1;rw[Hd hiσ]at e2;cases e2;exact⟨u,r,.inl ⟨hk,by simp⟩⟩
   ·rw[HJ<|DZ hj]at e2;obtain⟨u',r',q⟩:=hl j y v' e1 e2 e3;refine⟨u',r',?_⟩;rcases q with⟨k,e⟩|⟨k,c,e,z⟩
    ·refine .inl ⟨k,?_⟩;have:y≠x:=fun e=>hj<|mr hN e1<|e▸hi;simp[this,e]
    ·exact .inr ⟨k,c,e,z.sameBut hs<|cne y c e⟩
  ·obtain⟨w',z⟩:=I.cell y c e;exact⟨w',z.sameBut hs<|cne y c e⟩
  ·obtain⟨e,n,ne,nf,d⟩:=I.pin p hp;exact⟨(hs.2 p.1 ne).trans e,n,ne,nf,d⟩
 ·have hfn:X.fn x=true:=by
   rcases hf with z|z;·exact z
   ·rw[z]at hk;cases hk
  obtain⟨c,hc⟩:=I.ok.has x<|.inl hk;obtain⟨w',z⟩:=I.cell x c hc;refine wpAny_storeName_cell I.ok.kind hk hc z<|fun h' hc' hs=>?_;obtain⟨oc,hoc,hocd⟩:=id z;refine h {s with heap:=h'} ⟨I.ok,I.os,I.bare,⟨fun b o e n hb hx=>?_,fun b o e n hb hx=>?_,I.base.free,fun b o e hx=>?_,I.base.tups,I.base.frzs,I.base.tbls⟩,⟨m,hn.sameBut hs<|DZ<|cne x c hc,fun j y v' e1 e2 e3=>?_⟩,fun y c' e=>?_,I.free,I.freeC,fun p hp=>?_,tracked ⟨oc,hoc,I.freeC x c hc⟩ hs,by simpa using I.len⟩ ⟨c,hs,.inr hc⟩;·exact(hs.2 b<|BL<|BE (BA e)<|I.ok.cab x c hfn hc).trans (I.base.keep b o e n hb hx)
  ·obtain⟨sl,e1⟩:=I.base.slot b o e n hb hx;exact⟨sl,(hs.2 b<|BL<|BE (BA e)<|I.ok.cab x c hfn hc).trans e1⟩
  ·obtain⟨o',e1⟩:=I.base.there b o e hx;exact⟨o',(hs.2 b<|BL<|BE (BA e)<|I.ok.cab x c hfn hc).trans e1⟩
  ·by_cases hj:j=i
   ·subst hj;rw[hi]at e1;cases e1;rw[Hd hiσ]at e2;cases e2;exact⟨u,r,.inr ⟨.inl hk,c,hc,hc'⟩⟩
   ·rw[HJ<|DZ hj]at e2;obtain⟨u',r',q⟩:=hl j y v' e1 e2 e3;refine⟨u',r',?_⟩;rcases q with q|⟨k,c',e,z'⟩
    ·exact .inl q
    ·refine .inr ⟨k,c',e,z'.sameBut hs ?_⟩;rintro rfl;exact hj<|mr hN e1<|I.ok.inj _ _ _ e hc▸hi
  ·by_cases hcc:c'=c;·subst hcc;exact⟨_,hc'⟩
   ·obtain⟨w2,z2⟩:=I.cell y c' e;exact⟨w2,z2.sameBut hs hcc⟩
  ·obtain⟨e,n,ne,nf,d⟩:=I.pin p hp;refine⟨(hs.2 p.1 ?_).trans e,n,ne,nf,d⟩;intro q;rw[q,hoc]at e;have q':oc=p.2:=C5 e;exact d w' (by rw[<-q'];exact hocd)
theorem mv{M:Lf}{A:Ck}{E:Bs->Bu->Prop}{i:Nat}{x:Str}{v:V}{u:Bs}{Q:Unit->Bu->Prop}(I:Inv X pins σ H s)(hN:X.N.Nodup)(hi:X.N[i]? =some x)(hx:xl X.env.scope x)(r:RelV v u)
  (h:∀s',Inv X pins (σ.set i<|some v) H s'->Q () s') (hf:X.fn x=true\/X.env.scope.names.lookup x=some .local:=by first|exact .inl rfl|exact .inr rfl|assumption):wpAny M A (storeName X.env x u) Q E s:=
 ku I hN hi hx r (fun s' I' _=>h s' I') hf
theorem Inv.call'{s':Bu}{ch:List Addr}(I:Inv X pins σ H s)(ho:s'.os=s.os)(u:Un (frs X.stack) ch H H' s.heap s'.heap)(hok:HOk X.prog X.w H' s'.heap)(hg:GC s'.gens)
  (hch:∀b∈ch,(b∈X.ex\/X.s₀.heap.objs.size<=b)/\b≠X.env.locals/\(∀x c,X.env.cells.lookup x=some c->c≠b)/\∀p∈X.pn++pins,p.1≠b):Inv X pins σ H' s':=by
 obtain⟨h',g',d',t',o'⟩:=s';have e:o'=s.os:=ho;subst e;exact I.call (g':=g') (t':=t') (d':=d') u hok hg hch
end
abbrev XK:=Bs->Option Addr->Hp->Prop
abbrev St:=List<|Option V
abbrev VK:=V->Hp->Prop
abbrev TE:=St->Hp->VK->Prop
abbrev TT:=St->Hp->(Bool->Hp->Prop)->Prop
abbrev TA:=St->Hp->(List V->Hp->Prop)->Prop
structure Ends where
 nx:St->Hp->Prop
 rt:VK
 bk:St->Hp->Prop:=fun _ _=>False
 ct:St->Hp->Prop:=fun _ _=>False
abbrev TS:=Ends->St->Hp->Prop
def EP(X:Cx)(pins:List (Addr×Obj))(σ:St)(Q:VK)(u:Bs)(s':Bu):Prop:=∃v H',Inv X pins σ H' s'/\RelV v u/\Q v H'
def TP(X:Cx)(pins:List (Addr×Obj))(σ:St)(Q:Bool->Hp->Prop)(b:Bool)(s':Bu):Prop:=∃H',Inv X pins σ H' s'/\Q b H'
def AP(X:Cx)(pins:List (Addr×Obj))(σ:St)(Q:List V->Hp->Prop)(us:List Bs)(s':Bu):Prop:=∃vs H',Inv X pins σ H' s'/\Vals vs us/\Q vs H'
def SP(X:Cx)(pins:List (Addr×Obj))(D:Ends)(f:Flow)(s':Bu):Prop:=
 match f with
 | .next=>∃σ' H',Inv X pins σ' H' s'/\D.nx σ' H'
 | .brk=>∃σ' H',Inv X pins σ' H' s'/\D.bk σ' H'
 | .cont=>∃σ' H',Inv X pins σ' H' s'/\D.ct σ' H'
 | .ret u=>∃v σ' H',Inv X pins σ' H' s'/\RelV v u/\D.rt v H'
def PE(X:Cx)(e:Expr)(t:TE):Prop:=
 ∀(pins:List (Addr×Obj))(s:Bu)(σ:St)(H:Hp)(Q:VK),Inv X pins σ H s->t σ H Q->wpAny (model X.prog X.w) X.A (eval e X.env) (EP X pins σ Q) X.xe s
def PT(X:Cx)(e:Expr)(t:TT):Prop:=
 ∀(pins:List (Addr×Obj))(s:Bu)(σ:St)(H:Hp)(Q:Bool->Hp->Prop),Inv X pins σ H s->t σ H Q->wpAny (model X.prog X.w) X.A (isTrue e X.env<|eval e X.env) (TP X pins σ Q) X.xe s
def PW(X:Cx)(e:Expr)(t:TT):Prop:=
 ∀(whole:Sem Bs)(pins:List (Addr×Obj))(s:Bu)(σ:St)(H:Hp)(Q:Bool->Hp->Prop),Inv X pins σ H s->t σ H Q->wpAny (model X.prog X.w) X.A (isTrue e X.env whole) (TP X pins σ Q) X.xe s
theorem PW.pt{X:Cx}{e:Expr}{t:TT}(h:PW X e t):PT X e t:=h _
def PA(X:Cx)(es:List Expr)(t:TA):Prop:=
 ∀(pos:Pos)(pins:List (Addr×Obj))(s:Bu)(σ:St)(H:Hp)(Q:List V->Hp->Prop),Inv X pins σ H s->t σ H Q->wpAny (model X.prog X.w) X.A (spliced<|backTo pos<|starEach es X.env) (AP X pins σ Q) X.xe s
def PS(X:Cx)(st:Stmt)(t:TS):Prop:=
 ∀(pins:List (Addr×Obj))(s:Bu)(σ:St)(H:Hp)(D:Ends),Inv X pins σ H s->t D σ H->wpAny (model X.prog X.w) X.A (exec st X.env) (SP X pins D) X.xe s
def PSs(X:Cx)(st:List Stmt)(t:TS):Prop:=
 ∀(pins:List (Addr×Obj))(s:Bu)(σ:St)(H:Hp)(D:Ends),Inv X pins σ H s->t D σ H->wpAny (model X.prog X.w) X.A (execs st X.env) (SP X pins D) X.xe s
theorem cm{α:Type}{t:Sem α}{Q Q':α->Bu->Prop}{M:Lf}{A:Ck}{E:Bs->Bu->Prop}{s:Bu}(h:wpAny M A t Q E s)(hQ:∀a s,Q a s->Q' a s):wpAny M A t Q' E s:=CI h hQ fun _ _ x=>x
section
variable{X:Cx}
def bD(i:Nat):TE:=fun σ H Q=>∃v,σ[i]? =some (some v)/\Q v H
def tC(v:V):TE:=fun _ H Q=>Q v H
theorem xm{i:Nat}{x:Str}{pos:Pos}(hN:X.N[i]? =some x)(hv:Vis X.env.scope x)(hd:(x==("__debug__" :Str))=false:=by decide)(hcd:(x==("__classdict__" :Str))=false:=by decide):PE X (.Name x pos) (bD i):=by
 intro pins s σ H Q I h;obtain⟨v,e,h⟩:=h;obtain⟨m,hn,hl⟩:=I.loc;obtain⟨u,r,l⟩:=hl i x v hN e hv;have fin:EP X pins σ Q u s:=⟨v,H,I,r,h⟩
 rcases l with⟨hk,hm⟩|⟨hk,c,hc,hcell⟩
 ·exact JA (wpAny_loadName_local I.ok.kind hk hn hm fin) hd
 ·rcases hk with hk | hk;·exact JA (wpAny_loadName_cell I.ok.kind hk hc hcell fin) hd
  ·exact JA (wpAny_loadName_free I.ok.kind hk hc hcell fin hcd) hd
theorem aa{i j pos}:PE X (.Constant (.int i) j pos) (tC<|.int i):=fun _ _ _ H _ I h=>wpAny_Constant_int ⟨.int i,H,I.tok _,⟨_,rfl⟩,h⟩
theorem cU{b j pos}:PE X (.Constant (.bool b) j pos) (tC<|.bl b):=fun _ _ _ H _ I h=>Constant_bool ⟨.bl b,H,I,rfl,h⟩
theorem xn{j pos}:PE X (.Constant .none j pos) (tC .non):=fun _ _ _ H _ I h=>Constant_none ⟨.non,H,I,rfl,h⟩
theorem aY{x j pos}:PE X (.Constant (.str x) j pos) (tC<|.str x):=fun _ _ _ H _ I h=>Calls.Constant_str ⟨.str x,H,I.tok _,⟨_,rfl⟩,h⟩
def Gl(X:Cx)(x:Str):Prop:=X.env.kindOf x=some .globalImplicit
theorem oM{E:Bs->Bu->Prop}{pins:List (Addr×Obj)}{s:Bu}{σ:St}{H:Hp}{x:Str}{u:Bs}{pos:Pos}{Q:Bs->Bu->Prop}(I:Inv X pins σ H s)(hg:Gl X x)(hm:X.mg x=some u)(h:Q u s)
  (hd:(x==("__debug__" :Str))=false:=by decide):wpAny (model X.prog X.w) X.A (eval (.Name x pos) X.env) Q E s:=
 Gg I.ok.kind hg (Calls.loadGlobal_global (by rw[I.ok.glob];exact I.mod.glob.keeps I.bk) hm h) hd
theorem gE{E:Bs->Bu->Prop}{pins:List (Addr×Obj)}{s:Bu}{σ:St}{H:Hp}{x:Str}{u:Bs}{pos:Pos}{Q:Bs->Bu->Prop}(I:Inv X pins σ H s)(hg:Gl X x)(hm:X.mg x=none)(hv:bootBuiltins x=some u)(h:Q u s)
  (hn:x≠"__name__":=by decide) (hd:(x==("__debug__" :Str))=false:=by decide):wpAny (model X.prog X.w) X.A (eval (.Name x pos) X.env) Q E s:=by
 obtain⟨mb,h1,h2⟩:=I.mod.blt;exact Gg I.ok.kind hg (Calls.loadGlobal_builtin (by rw[I.ok.glob];exact I.mod.glob.keeps I.bk) hm (by rw[I.ok.blt];exact h1.keeps I.bk) ((h2 x hn).trans hv) h) hd
theorem dN{x:Str}{v:V}{u:Bs}{pos:Pos}(hg:Gl X x)(hm:X.mg x=some u)(r:RelV v u)(hd:(x==("__debug__" :Str))=false:=by decide):PE X (.Name x pos) (tC v):=
 fun _ _ _ H _ I h=>oM I hg hm ⟨v,H,I,r,h⟩ hd
theorem dt{x:Str}{v:V}{u:Bs}{pos:Pos}(hg:Gl X x)(hm:X.mg x=none)(hv:bootBuiltins x=some u)(r:RelV v u)(hn:x≠"__name__":=by decide)(hd:(x==("__debug__" :Str))=false:=by decide):PE X (.Name x pos) (tC v):=
 fun _ _ _ H _ I h=>gE I hg hm hv ⟨v,H,I,r,h⟩ hn hd
variable{a b:Expr}{ta tb:TE}{pos:Pos}
def tB(t:TE):TT:=fun σ H Q=>t σ H fun x H1=>∃c,x=.bl c/\Q c H1
theorem de{e:Expr}{t:TE}(h:PE X e t)(he:∀whole,isTrue e X.env whole=(do let v <-whole;standAt e.pos;holding [v] (truthy v)):=by intro _;rfl):PT X e (tB t):=by
 intro pins s σ H Q I hw;refine isTrue_plain (cm (h pins s σ H _ I hw) fun v s1⟨x,H1,I1,r1,q1⟩=>?_)<|he _;obtain⟨d,rfl,q⟩:=q1;cases r1;exact DL ⟨H1,I1,q⟩
variable{tA tB':TT}{rest:List Expr}
def cE(t u:TT):TT:=fun σ H Q=>t σ H fun c H1=>if c=true then u σ H1 Q else Q false H1
def fM(t u:TT):TT:=fun σ H Q=>t σ H fun c H1=>if c=true then Q true H1 else u σ H1 Q
def cF(t:TT):TT:=fun σ H Q=>t σ H fun c H1=>Q (!c) H1
theorem cO(ha:PT X a tA):PW X (.BoolOp .And [a] pos) tA:=by
 intro wh pins s σ H Q I h;refine isTrue_and<|cm (ha pins s σ H Q I h) fun c s1 e=>?_;cases c with
 |true=>exact isTrue_and_nil e
 |false=>exact e
theorem l9(ha:PT X a tA):PW X (.BoolOp .Or [a] pos) tA:=by
 intro wh pins s σ H Q I h;refine isTrue_or<|cm (ha pins s σ H Q I h) fun c s1 e=>?_;cases c with
 |false=>exact isTrue_or_nil e
 |true=>exact e
theorem cQ(ha:PT X a tA)(hb:PW X (.BoolOp .And (b::rest) pos) tB'):PW X (.BoolOp .And (a::b::rest) pos) (cE tA tB'):=by
 intro wh pins s σ H Q I h;refine isTrue_and<|cm (ha pins s σ H _ I h) fun c s1 zz=>?_;obtain⟨H1,I1,q1⟩:=zz;cases c with
 |true=>exact hb wh pins s1 σ H1 Q I1 q1
 |false=>exact⟨H1,I1,q1⟩
theorem mw(ha:PT X a tA)(hb:PW X (.BoolOp .Or (b::rest) pos) tB'):PW X (.BoolOp .Or (a::b::rest) pos) (fM tA tB'):=by
 intro wh pins s σ H Q I h;refine isTrue_or<|cm (ha pins s σ H _ I h) fun c s1 zz=>?_;obtain⟨H1,I1,q1⟩:=zz;cases c with
 |true=>exact⟨H1,I1,q1⟩
 |false=>exact hb wh pins s1 σ H1 Q I1 q1
theorem la(ha:PT X a tA):PT X (.UnaryOp .Not a pos) (cF tA):=by
 intro pins s σ H Q I h;exact isTrue_not<|ha pins s σ H (fun c H1=>Q (!c) H1) I h
def bA(ta tb:TE):TE:=fun σ H Q=>ta σ H fun x H1=>∃c,x=.bl c/\if c=true then tb σ H1 Q else Q (.bl false) H1
def cG(ta tb:TE):TE:=fun σ H Q=>ta σ H fun x H1=>∃c,x=.bl c/\if c=true then Q (.bl true) H1 else tb σ H1 Q
def bB(ta:TE):TE:=fun σ H Q=>ta σ H fun x H1=>∃c,x=.bl c/\Q (.bl<|!c) H1
theorem ip{op}{t:TE}(h:PE X a t):PE X (.BoolOp op [a] pos) t:=fun pins s σ H Q I hw=>BoolOp_one<|h pins s σ H Q I hw
theorem iq(ha:PE X a ta)(hb:PE X (.BoolOp .And (b::rest) pos) tb):PE X (.BoolOp .And (a::b::rest) pos) (bA ta tb):=by
 intro pins s σ H Q I h;refine BoolOp_and<|cm (ha pins s σ H _ I h) fun v s1 zz=>?_;obtain⟨x,H1,I1,r1,q1⟩:=zz;obtain⟨c,rfl,q1⟩:=q1;cases r1;refine DL ?_;cases c with
 |true=>exact hb pins s1 σ H1 Q I1 q1
 |false=>exact⟨.bl false,H1,I1,rfl,q1⟩
theorem yM(ha:PE X a ta)(hb:PE X (.BoolOp .Or (b::rest) pos) tb):PE X (.BoolOp .Or (a::b::rest) pos) (cG ta tb):=by
 intro pins s σ H Q I h;refine BoolOp_or<|cm (ha pins s σ H _ I h) fun v s1 zz=>?_;obtain⟨x,H1,I1,r1,q1⟩:=zz;obtain⟨c,rfl,q1⟩:=q1;cases r1;refine DL ?_;cases c with
 |false=>exact hb pins s1 σ H1 Q I1 q1
 |true=>exact⟨.bl true,H1,I1,rfl,q1⟩
theorem rK(ha:PE X a ta):PE X (.UnaryOp .Not a pos) (bB ta):=by
 intro pins s σ H Q I h;refine UnaryOp_<|cm (ha pins s σ H _ I h) fun v s1 zz=>?_;obtain⟨x,H1,I1,r1,q1⟩:=zz;obtain⟨c,rfl,q1⟩:=q1;cases r1;exact not_of<|DL ⟨.bl<|!c,H1,I1,rfl,q1⟩
def fG(t:TT)(ta tb:TE):TE:=fun σ H Q=>t σ H fun c H1=>if c=true then ta σ H1 Q else tb σ H1 Q
theorem fU{c:Expr}(hc:PT X c tA)(ha:PE X a ta)(hb:PE X b tb):PE X (.IfExp c a b pos) (fG tA ta tb):=by
 intro pins s σ H Q I h;refine wpAny_IfExp<|cm (hc pins s σ H _ I h) fun d s1 zz=>?_;obtain⟨H1,I1,q1⟩:=zz;cases d with
 |true=>exact ha pins s1 σ H1 Q I1 q1
 |false=>exact hb pins s1 σ H1 Q I1 q1
end
def SqL(K:Br)(H:Hp)(a:Addr)(xs:List V):Prop:=
 Rd H a (.lst xs)\/
  ∃(o:Obj)(its:Array Bs)(n:Nat),K.lookup a=some o/\o.cls=.type "list"/\o.dict=none/\o.data=.seq its n/\its.size<=sizeLine/\Vals xs its.toList
def SqT(K:Br)(H:Hp)(a:Addr)(xs:List V):Prop:=
 Rd H a (.tup xs)\/
  ∃(o:Obj)(its:Array Bs)(n:Nat),K.lookup a=some o/\(o.cls=.type "tuple"/\o.dict=none)/\o.data=.seq its n/\its.size<=sizeLine/\Vals xs its.toList
def Am:Bs->Option V
 | .none=>some .non
 | .bool b=>some<|.bl b
 | .int i _=>some<|.int i
 | .str x _=>some<|.str x
 | .bytes b _=>some<|.byt b
 | .float b _=>some<|.flt b
 | .ref a=>some<|.ref a
 | .type n=>some<|.ty n
 |_=>none
theorem RelV.abs{x:V}{u:Bs}(r:RelV x u):Am u=some x:=by
 cases x with
 |non=>cases r;rfl
 |bl _=>cases r;rfl
 |int _=>obtain⟨t,rfl⟩:=r;rfl
 |str _=>obtain⟨t,rfl⟩:=r;rfl
 |byt _=>obtain⟨t,rfl⟩:=r;rfl
 |flt _=>obtain⟨t,rfl⟩:=r;rfl
 |ref _=>cases r;rfl
 |ty _=>cases r;rfl
theorem RelV.inj{x y:V}{u:Bs}(r:RelV x u)(q:RelV y u):x=y:=C5<|r.abs.symm.trans q.abs
theorem Vals.inj:∀{xs ys:List V}{us:List Bs},Vals xs us->Vals ys us->xs=ys
 |_,_,_,.nil,.nil=>rfl
 |_,_,_,.cons r t,.cons r' t'=>by rw[r.inj r',Vals.inj t t']
section
variable{X:Cx}{pins:List (Addr×Obj)}{σ:St}{H:Hp}{s:Bu}{a:Addr}{xs ys:List V}
theorem SqL.of{K:Br}(h:H a=some (.lst xs)):SqL K H a xs:=.inl<|.inl h
theorem SqT.of{K:Br}(h:H a=some (.tup xs)):SqT K H a xs:=.inl<|.inl h
theorem Inv.list(I:Inv X pins σ H s)(h:SqL X.K H a xs):∃its:List Bs,Vals xs its/\PlainL s.heap a its.toArray/\xs.length<=sizeLine:=by
 rcases h with h|⟨o,its,n,hk,hc,hd,hs,hz,r⟩
 ·obtain⟨z,its,n,r,e⟩:=h.ok I.hok;exact⟨its,r,⟨_,n,e,rfl,rfl,rfl⟩,z⟩
 ·refine⟨its.toList,r,⟨o,n,I.kIn a o hk,hc,hd,by simpa using hs⟩,?_⟩;have e:=r.length;simp only[Cr]at e;omega
theorem Inv.tuple(I:Inv X pins σ H s)(h:SqT X.K H a xs):∃its:List Bs,Vals xs its/\IsTup s.heap a its.toArray/\xs.length<=sizeLine:=by
 rcases h with h|⟨o,its,n,hk,hc,hs,hz,r⟩
 ·obtain⟨z,its,r,p⟩:=h.ok I.hok;exact⟨its,r,p.tup,z⟩
 ·refine⟨its.toList,r,⟨o,I.kIn a o hk,hc.1,n,by simpa using hs⟩,?_⟩;have e:=r.length;simp only[Cr]at e;omega
theorem Inv.list_inj(I:Inv X pins σ H s)(h:SqL X.K H a xs)(h':SqL X.K H a ys):xs=ys:=by
 obtain⟨its,r,⟨o,n,e,_,_,d⟩,_⟩:=I.list h;obtain⟨its',r',⟨o',n',e',_,_,d'⟩,_⟩:=I.list h';rw[e]at e';cases e';rw[d]at d';injection d' with d1 _;have:its=its':=by simpa using congrArg Ku d1
 subst this;exact r.inj r'
theorem Inv.tuple_inj(I:Inv X pins σ H s)(h:SqT X.K H a xs)(h':SqT X.K H a ys):xs=ys:=by
 obtain⟨its,r,⟨o,e,_,n,d⟩,_⟩:=I.tuple h;obtain⟨its',r',⟨o',e',_,n',d'⟩,_⟩:=I.tuple h';rw[e]at e';cases e';rw[d]at d';injection d' with d1 _;have:its=its':=by simpa using congrArg Ku d1
 subst this;exact r.inj r'
end
abbrev Cx.wish(X:Cx)(E:Bs->Bu->Prop):Cx:={X with xe:=E}
abbrev Cx.nox(X:Cx):Cx:=X.wish fun _ _=>False
theorem Cx.Ok.wish{X:Cx}(ok:X.Ok)(E:Bs->Bu->Prop):(X.wish E).Ok:=
 ⟨ok.mod,ok.kind,ok.glob,ok.blt,ok.above,ok.inj,ok.has,ok.cab,ok.hd,ok.frames,ok.stk,ok.exf,ok.bs,ok.bsz,ok.noex,ok.exfs,ok.funs,ok.frf⟩
theorem Cx.Ok.unwish{X:Cx}{E:Bs->Bu->Prop}(ok:(X.wish E).Ok):X.Ok:=
 ⟨ok.mod,ok.kind,ok.glob,ok.blt,ok.above,ok.inj,ok.has,ok.cab,ok.hd,ok.frames,ok.stk,ok.exf,ok.bs,ok.bsz,ok.noex,ok.exfs,ok.funs,ok.frf⟩
section
variable{X:Cx}{pins:List (Addr×Obj)}{σ:St}{H:Hp}{s:Bu}{E:Bs->Bu->Prop}
theorem Inv.wish(I:Inv X pins σ H s)(E:Bs->Bu->Prop):Inv (X.wish E) pins σ H s:=⟨I.ok.wish E,I.os,I.bare,I.base,I.loc,I.cell,I.free,I.freeC,I.pin,I.hok,I.len⟩
theorem Inv.unwish(I:Inv (X.wish E) pins σ H s):Inv X pins σ H s:=⟨I.ok.unwish,I.os,I.bare,I.base,I.loc,I.cell,I.free,I.freeC,I.pin,I.hok,I.len⟩
theorem SP.unwish{D:Ends}{f:Flow}{s':Bu}(h:SP (X.wish E) pins D f s'):SP X pins D f s':=by
 cases f with
 |next=>obtain⟨σ',H',I,q⟩:=h;exact⟨σ',H',I.unwish,q⟩
 |brk=>obtain⟨σ',H',I,q⟩:=h;exact⟨σ',H',I.unwish,q⟩
 |cont=>obtain⟨σ',H',I,q⟩:=h;exact⟨σ',H',I.unwish,q⟩
 |ret u=>obtain⟨v,σ',H',I,r,q⟩:=h;exact⟨v,σ',H',I.unwish,r,q⟩
theorem PSs.nox{st:List Stmt}{t:TS}(h:PSs X.nox st t):PSs X st t:=fun pins s σ H D I hw=>
 CI (h pins s σ H D (I.wish _) hw) (fun _ _ q=>q.unwish) fun _ _ z=>El z
end
section
variable{X:Cx}{st:Stmt}{rest:List Stmt}{t u:TS}{e:Expr}{te:TE}{pos:Pos}
def aF:TS:=fun D σ H=>D.nx σ H
def fN(t u:TS):TS:=fun D σ H=>t {D with nx:=u D} σ H
theorem aH:PSs X [] aF:=fun _ _ σ H _ I h=>Hn ⟨σ,H,I,h⟩
theorem af(h1:PS X st t)(h2:PSs X rest u):PSs X (st::rest) (fN t u):=by
 intro pins s σ H D I h;refine J4<|cm (h1 pins s σ H {D with nx:=u D} I h) fun f s1 q=>?_;cases f with
 |next=>
  obtain⟨σ',H',I',q⟩:=q;exact h2 pins s1 σ' H' D I' q
 |ret v=>exact q
 |brk=>exact q
 |cont=>exact q
theorem ag(h1:PS X st t):PSs X [st] t:=by
 intro pins s σ H D I h;refine J4<|cm (h1 pins s σ H D I h) fun f s1 q=>?_;cases f with
 |next=>exact Hn q
 |ret v=>exact q
 |brk=>exact q
 |cont=>exact q
theorem Inv.quiet{pins:List (Addr×Obj)}{σ:St}{H:Hp}{s:Bu}(I:Inv X pins σ H s):interactive X.env=false:=by simp[interactive,I.ok.kind]
def bj(te:TE):TS:=fun D σ H=>te σ H fun _ H1=>D.nx σ H1
theorem d5(he:PE X e te)(hs:swapsWith e none pos.line X.env=pure false:=by rfl):PS X (.Expr e pos) (bj te):=by
 intro pins s σ H D I h;exact wpAny_Expr_any (cm (he pins s σ H _ I h) fun v s1⟨x,H1,I1,r1,q1⟩=>⟨σ,H1,I1,q1⟩) I.quiet hs
def cq(te:TE):TS:=fun D σ H=>te σ H D.rt
theorem aD(he:PE X e te):PS X (.Return (some e) pos) (cq te):=by
 intro pins s σ H D I h;refine wpAny_Return_some<|cm (he pins s σ H _ I h) fun v s1 zz=>?_;obtain⟨x,H1,I1,r1,q1⟩:=zz;exact⟨x,σ,H1,I1,r1,q1⟩
def iV(c:TT)(t u:TS):TS:=fun D σ H=>c σ H fun b H1=>if b=true then t D σ H1 else u D σ H1
theorem bo{c:Expr}{a b:List Stmt}{tc:TT}(hc:PT X c tc)(ha:PSs X a t)(hb:PSs X b u):PS X (.If c a b pos) (iV tc t u):=by
 intro pins s σ H D I h;refine wpAny_If<|cm (hc pins s σ H _ I h) fun d s1 zz=>?_;obtain⟨H1,I1,q1⟩:=zz;cases d with
 |true=>exact ha pins s1 σ H1 D I1 q1
 |false=>exact hb pins s1 σ H1 D I1 q1
end
abbrev TG:=V->St->Hp->(St->Hp->Prop)->Prop
abbrev wW:=List V->St->Hp->(St->Hp->Prop)->Prop
def PG(X:Cx)(target:Expr)(t:TG):Prop:=
 ∀(pins:List (Addr×Obj))(s:Bu)(σ:St)(H:Hp)(v:V)(u:Bs)(Q:St->Hp->Prop),Inv X pins σ H s->RelV v u->t v σ H Q->
  wpAny (model X.prog X.w) X.A (assign target X.env u) (fun _ s'=>∃σ' H',Inv X pins σ' H' s'/\Q σ' H') X.xe s
def yN(X:Cx)(ts:List Expr)(t:wW):Prop:=
 ∀(pins:List (Addr×Obj))(s:Bu)(σ:St)(H:Hp)(vs:List V)(us:List Bs)(Q:St->Hp->Prop),Inv X pins σ H s->Vals vs us->t vs σ H Q->
  wpAny (model X.prog X.w) X.A (assignInOrder ((assignEach ts X.env).map (·.2)) us) (fun _ s'=>∃σ' H',Inv X pins σ' H' s'/\Q σ' H') X.xe s
abbrev xo:=V->V->V->Hp->(Hp->Prop)->Prop
def yO(X:Cx)(t:xo):Prop:=
 ∀(pins:List (Addr×Obj))(s:Bu)(σ:St)(H:Hp)(o i v:V)(ov iv u:Bs)(Q:Hp->Prop),Inv X pins σ H s->RelV o ov->RelV i iv->RelV v u->t o i v H Q->
  wpAny (model X.prog X.w) X.A (setItem ov iv u) (fun _ s'=>∃H',Inv X pins σ H' s'/\Q H') X.xe s
section
variable{X:Cx}{pos:Pos}
def aP(i:Nat):TG:=fun v σ H Q=>Q (σ.set i<|some v) H
theorem bL{i:Nat}{x:Str}(hN:X.N.Nodup)(hi:X.N[i]? =some x)(hx:xl X.env.scope x)(hf:X.fn x=true\/X.env.scope.names.lookup x=some .local:=by first|exact .inl rfl|exact .inr rfl|assumption):PG X (.Name x pos) (aP i):=by
 intro pins s σ H v u Q I r h;exact IE<|mv I hN hi hx r (fun s' I'=>⟨_,H,I',h⟩) hf
def cw:wW:=fun vs σ H Q=>vs=[]/\Q σ H
def br(t:TG)(u:wW):wW:=fun vs σ H Q=>∃v r,vs=v::r/\t v σ H fun σ' H'=>u r σ' H' Q
theorem bX:yN X [] cw:=by
 intro pins s σ H vs us Q I r h;obtain⟨e,h⟩:=h;subst e;cases r;exact assignInOrder_nil ⟨σ,H,I,h⟩
theorem aE{e:Expr}{es:List Expr}{t:TG}{u:wW}(h1:PG X e t)(h2:yN X es u)
  (hs:(assignEach (e::es) X.env).map (·.2)=assign e X.env::(assignEach es X.env).map (·.2):=by rfl):yN X (e::es) (br t u):=by
 intro pins s σ H vs us Q I r h;obtain⟨v,vr,e1,h⟩:=h;subst e1;cases r with
 |cons r rr=>
  rw[hs];refine assignInOrder_cons<|cm (h1 pins s σ H _ _ _ I r h) fun _ s1 zz=>?_;obtain⟨σ1,H1,I1,q1⟩:=zz;exact h2 pins s1 σ1 H1 _ _ Q I1 rr q1
def cu(K:Br)(n:Nat)(t:wW):TG:=fun v σ H Q=>∃a xs,v=.ref a/\SqT K H a xs/\xs.length=n/\t xs σ H Q
theorem xp{es:List Expr}{k:Nat}{t:wW}{n:Nat}(hc:X.calm=true)(h:yN X es t)
  (hn:(assignEach es X.env).length=n:=by rfl) (hst:(assignEach es X.env).findIdx? (·.1)=none:=by rfl):PG X (.Tuple es k pos) (cu X.K n t):=by
 intro pins s σ H v u Q I r hw;obtain⟨a,xs,e1,hq,hl,hw⟩:=hw;subst e1;cases r;obtain⟨its,rv,ht,hz⟩:=I.tuple hq;refine assign_Tuple_tuple (I.ok.hd hc) ht (by simp[hn,<-hl,rv.length]) hst fun h' hx=>?_;have I1:Inv X pins σ H {s with heap:=h'}:=I.kept (t':=s.toks) fun b o e=>hx b o (BL<|BA e) e;exact h pins _ σ H xs _ Q I1 (by simpa using rv) hw
def xq(to ti:TE)(t:xo):TG:=fun v σ H Q=>to σ H fun o H1=>ti σ H1 fun i H2=>t o i v H2 fun H3=>Q σ H3
theorem nO{o i:Expr}{to ti:TE}{t:xo}(ho:PE X o to)(hi:PE X i ti)(hs:yO X t)
  (ha:∀v,assign (.Subscript o i pos) X.env v=(do
   let ov <-holding [v] (eval o X.env)
   let iv <-holding [v,ov] (eval i X.env)
   standAt pos
   holding [v,ov,iv] (setItem ov iv v)
   release [v,ov,iv] []):=by intro _;rfl):PG X (.Subscript o i pos) (xq to ti t):=by
 intro pins s σ H v u Q I r h;rw[ha];refine Bl<|Cz<|cm (ho pins s σ H _ I h) fun ov s1 zz=>?_;obtain⟨x,H1,I1,r1,q1⟩:=zz;refine Bl<|Cz<|cm (hi pins s1 σ H1 _ I1 q1) fun iv s2 zz=>?_;obtain⟨y,H2,I2,r2,q2⟩:=zz;refine Bl<|E5<|Bl<|Cz<|cm (hs pins s2 σ H2 x y v ov iv u _ I2 r1 r2 r q2) fun _ s3 zz=>?_;obtain⟨H3,I3,q3⟩:=zz;exact wpAny_release ⟨σ,H3,I3,q3⟩
def bI(te:TE)(g:TG):TS:=fun D σ H=>te σ H fun x H1=>g x σ H1 D.nx
theorem fu{tg e:Expr}{te:TE}{g:TG}(he:PE X e te)(hg:PG X tg g)(hs:swapsWithSole [tg] e pos.line X.env=pure false:=by rfl)(hw:swappedStores [tg] e X.env=pure none:=by rfl)
  (h1:(assignEach [tg] X.env).map (·.2)=[assign tg X.env]:=by rfl):PS X (.Assign [tg] e pos) (bI te g):=by
 intro pins s σ H D I h;refine wpAny_Assign_stores (cm (he pins s σ H _ I h) fun v s1⟨x,H1,I1,r1,q1⟩=>?_) hs hw;rw[h1];exact cm (hg pins s1 σ H1 x v _ I1 r1 q1) fun _ s2 q=>q
theorem xr{i:Nat}{x:Str}{e:Expr}{te:TE}{pos':Pos}(hN:X.N.Nodup)(hi:X.N[i]? =some x)(hx:xl X.env.scope x)(he:PE X e te)(hs:swapsWith e (some<|.Name x pos') pos.line X.env=pure false:=by rfl)(hf:X.fn x=true\/X.env.scope.names.lookup x=some .local:=by first|exact .inl rfl|exact .inr rfl|assumption):
  PS X (.Assign [.Name x pos'] e pos) (bI te<|aP i):=by
 intro pins s σ H D I h;refine wpAny_Assign_Name (cm (he pins s σ H _ I h) fun v s1⟨y,H1,I1,r1,q1⟩=>?_) hs;exact mv I1 hN hi hx r1 (fun s2 I2=>⟨_,H1,I2,q1⟩) hf
end
structure It where
 go:Nat->Hp->Prop
 yld:Nat->Hp->V->Hp->Prop
 stop:Nat->Hp->Prop
def FpOk(X:Cx)(pins:List (Addr×Obj))(H:Hp)(b:Addr):Prop:=
 H b=none/\b≠X.env.locals/\b∉X.fs/\(b∈X.ex\/X.s₀.heap.objs.size<=b)/\(∀x c,X.env.cells.lookup x=some c->c≠b)/\∀p∈X.pn++pins,p.1≠b
theorem Inv.fpOk{X:Cx}{pins:List (Addr×Obj)}{σ:St}{H H':Hp}{s:Bu}{b:Addr}(I:Inv X pins σ H s)(hb:s.heap.objs.size<=b)(hn:H' b=none):FpOk X pins H' b:=by
 refine⟨hn,E3<|BE I.lt hb,I.nofs hb,.inr<|Dt I.sz hb,fun x c e z=>?_,fun p hp z=>?_⟩
 ·obtain⟨v,q⟩:=I.cell x c e;exact absurd (BE q.lt (by rw[z];exact hb))<|CZ _
 ·exact absurd (BE (BA (I.pin p hp).1) (by rw[z];exact hb))<|CZ _
structure Turn(P:BK)(w:BQ)(K:Br)(tg:Expr)(J:It)(fp:List Addr)(it:Addr)(tn:Nat->Heap->Prop):Prop where
 mem:it∈fp
 obj:∀i h,tn i h->∀b∈fp,∃o,h.get? b=some o/\∀v,o.data≠.cell v
 keep:∀i h h',tn i h->(∀b∈fp,∀o,h.get? b=some o->h'.get? b=some o)->tn i h'
 item:∀(X:Cx),X.prog=P->X.w=w->X.K=K->X.calm=true->∀(i:Nat)(pins:List (Addr×Obj))(s:Bu)(σ:St)(H:Hp)(E:Bs->Bu->Prop),Inv X pins σ H s->(∀b∈fp,FpOk X pins H b)->tn i s.heap->J.go i H->
  wpAny (model P w) X.A (pyNext<|.ref it) (fun r s1=>∃u,r=some u/\
   wpAny (model P w) X.A (letOwnedTupleGo tg (.ref it) u) (fun _ s2=>∃x H',Inv X pins σ H' s2/\RelV x u/\J.yld i H x H'/\tn (i+1) s2.heap/\∀b∈fp,H' b=none) E s1) E s
 done:∀(X:Cx),X.prog=P->X.w=w->X.K=K->X.calm=true->∀(i:Nat)(pins:List (Addr×Obj))(s:Bu)(σ:St)(H:Hp)(E:Bs->Bu->Prop),Inv X pins σ H s->(∀b∈fp,FpOk X pins H b)->tn i s.heap->J.stop i H->
  wpAny (model P w) X.A (pyNext<|.ref it) (fun r s1=>r=none/\Inv X pins σ H s1) E s
 self:∀(A:Ck)(i:Nat)(s:Bu)(Q:Bs->Bu->Prop)(E:Bs->Bu->Prop),tn i s.heap->Q (.ref it) s->wpAny (model P w) A (pyIter<|.ref it) Q E s
abbrev TI:=St->Hp->(It->Hp->Prop)->Prop
def An(X:Cx)(pins:List (Addr×Obj))(σ:St)(tg:Expr)(R:It->Hp->Prop)(itv:Bs)(s2:Bu):Prop:=
 ∃(it:Addr)(fp:List Addr)(tn:Nat->Heap->Prop)(J:It)(H':Hp),itv=.ref it/\Inv X pins σ H' s2/\Turn X.prog X.w X.K tg J fp it tn/\tn 0 s2.heap/\(∀b∈fp,FpOk X pins H' b)/\R J H'
def PI(X:Cx)(tg iter:Expr)(wi:TI):Prop:=
 ∀(pins:List (Addr×Obj))(s:Bu)(σ:St)(H:Hp)(R:It->Hp->Prop),Inv X pins σ H s->wi σ H R->
  wpAny (model X.prog X.w) X.A (eval iter X.env) (fun v s1=>wpAny (model X.prog X.w) X.A (pyIter v) (An X pins σ tg R) X.xe s1) X.xe s
theorem rL{M:Lf}{A:Ck}{E:Bs->Bu->Prop}{s:Bu}{tg:Expr}{it:Addr}{u:Bs}{o:Obj}{n:String}{vs:Array Bs}{Q:Unit->Bu->Prop}(ho:s.heap.get? it=some o)(hc:o.cls=.type n)(hd:o.data=.fields vs)
    (hn:["enumerate","zip","dict_itemiterator","dict_reverseitemiterator","odict_iterator","itertools.zip_longest","itertools.pairwise"].contains n=false) (hQ:Q () s):wpAny M A (letOwnedTupleGo tg (.ref it) u) Q E s:=by
  unfold letOwnedTupleGo
  cases tg<;>first
    |exact Bq hQ
    |(cases u<;>first
        |exact Bq hQ
        | (refine Bl (wpAny_load ho ?_)
           rw[hc,hd];show wpAny M A (if(["enumerate","zip","dict_itemiterator","dict_reverseitemiterator","odict_iterator","itertools.zip_longest","itertools.pairwise"].contains n&&vs[0]? ==some (rawInt _))=true then _ else _) Q E s;rw[if_neg (by intro h;rw[hn,Gh]at h;cases h)];exact Bq hQ))
def Az(K:Br)(a:Addr):It:=
 ⟨fun i H=>∃xs x,SqL K H a xs/\xs[i]? =some x,fun i H x H'=>H'=H/\∀xs,SqL K H a xs->xs[i]? =some x,fun i H=>∃xs,SqL K H a xs/\xs.length<=i⟩
def zF(lo:Int)(n:Nat):It:=⟨fun i _=>i<n,fun i H x H'=>H'=H/\x=.int (lo+i),fun i _=>n<=i⟩
theorem qh{P:BK}{w:BQ}{K:Br}{tg:Expr}(a it:Addr):Turn P w K tg (Az K a) [it] it (fun i h=>h.IsListIter it a i) where
 mem:=by simp
 obj:=fun i h st b hb=>by
  have e:b=it:=by simpa using hb
  subst e;obtain⟨o,e,c,d⟩:=st;exact⟨o,e,fun v z=>by rw[d]at z;cases z⟩
 keep:=fun i h h' st k=>st.at fun o e=>k it (by simp) o e
 item:=by
  intro X hP hw hK hc i pins s σ H E I hf st hg;subst hP hw hK;obtain⟨xs,x,hq,hx⟩:=hg;obtain⟨its,rv,p,hz⟩:=I.list hq;obtain⟨u,hu,ru⟩:=rv.get hx;obtain⟨f0,f1,f2,f3,f4,f5⟩:=hf it (by simp);refine wpAny_pyNext_list_item st p.isList (x:=u) (by simpa using hu) fun h' st' sb=>?_;have I1:Inv X pins σ H {s with heap:=h'}:=I.turned (t':=s.toks) (fun b o hb e=>(sb.2 b hb).trans e) f0 f1 f3 f4 f5;obtain⟨o,e,c,d⟩:=id st';exact⟨u,rfl,rL (s:={s with heap:=h'}) e c d (by decide) ⟨x,H,I1,ru,⟨rfl,fun ys hy=>by rw[I.list_inj hy hq];exact hx⟩,st',fun b hb=>(hf b hb).1⟩⟩
 done:=by
  intro X hP hw hK hc i pins s σ H E I hf st hg;subst hP hw hK;obtain⟨xs,hq,hx⟩:=hg;obtain⟨its,rv,p,hz⟩:=I.list hq;obtain⟨f0,f1,f2,f3,f4,f5⟩:=hf it (by simp);have hl:=rv.length;exact wpAny_pyNext_list_end (I.ok.hd hc) st p.isList (by simp;omega) fun h' eb=>⟨rfl,I.turned (t':=s.toks) (fun b o hb e=>eb b o hb e) f0 f1 f3 f4 f5⟩
 self:=fun _ _ _ _ _ st h=>wpAny_pyIter_listiter st h
theorem nP{P:BK}{w:BQ}{K:Br}{tg:Expr}(it:Addr)(lo:Int)(n:Nat):Turn P w K tg (zF lo n) [it] it (fun i h=>IsRangeIter h it (lo+(i:Nat)*1) ((n:Int)-(i:Nat)) 1) where
 mem:=by simp
 obj:=fun i h st b hb=>by
  have e:b=it:=by simpa using hb
  subst e;exact⟨_,st,fun v z=>by
   have z':Ji _=FA v:=z;cases z'⟩
 keep:=fun i h h' st k=>k it (by simp) _ st
 item:=by
  intro X hP hw hK hc i pins s σ H E I hf st hg;subst hP hw hK;obtain⟨f0,f1,f2,f3,f4,f5⟩:=hf it (by simp);have W:=Walks.range (prog:=X.prog) (w:=X.w) (I.ok.hd hc) it lo 1 n;refine W.item i s _ _ hg st fun v h' tk hv st' kk=>?_;obtain⟨t,rfl⟩:=hv;have I1:Inv X pins σ H {s with heap:=h',toks:=tk}:=I.turned (fun b o hb e=>kk b o (by simpa using hb) e) f0 f1 f3 f4 f5;refine⟨_,rfl,rL (s:={s with heap:=h',toks:=tk}) (n:="range_iterator") st' rfl rfl (by decide) ⟨.int<|lo+i,H,I1,⟨t,?_⟩,⟨rfl,rfl⟩,st',fun b hb=>(hf b hb).1⟩⟩;rw[Int.mul_one]
 done:=by
  intro X hP hw hK hc i pins s σ H E I hf st hg;subst hP hw hK;obtain⟨f0,f1,f2,f3,f4,f5⟩:=hf it (by simp);exact wpAny_pyNext_range_end (I.ok.hd hc) st (by have:n<=i:=hg;omega) fun h' eb=>⟨rfl,I.turned (t':=s.toks) (fun b o hb e=>eb b o hb e) f0 f1 f3 f4 f5⟩
 self:=fun _ _ _ _ _ st h=>wpAny_pyIter_rangeiter st h
section
variable{X:Cx}{tg:Expr}
def rM(K:Br)(tl:TE):TI:=fun σ H R=>tl σ H fun x H1=>∃a,x=.ref a/\(∃xs,SqL K H1 a xs)/\R (Az K a) H1
theorem vd{l:Expr}{tl:TE}(hl:PE X l tl):PI X tg l (rM X.K tl):=by
 intro pins s σ H R I h;refine cm (hl pins s σ H _ I h) fun v s1 zz=>?_;obtain⟨x,H1,I1,r1,q1⟩:=zz;obtain⟨a,e,⟨xs,hq⟩,q⟩:=q1;subst e;cases r1;obtain⟨its,rv,p,hz⟩:=I1.list hq;refine Fn p.isList ?_;refine⟨s1.heap.objs.size,[s1.heap.objs.size],_,_,H1,rfl,I1.kept (t':=s1.toks) fun b o e=>Bp _ e,qh a _,⟨_,By _ rfl,rfl,rfl⟩,fun b hb=>?_,q⟩;have e:b=s1.heap.objs.size:=by simpa using hb
 subst e;exact I1.fpOk (BD _)<|I1.hok.fresh<|BD _
theorem my{pins:List (Addr×Obj)}{σ:St}{H:Hp}{s:Bu}{R:It->Hp->Prop}{E:Bs->Bu->Prop}{lo hi:Int}{t u v:Tok}{tk:Nat}(I:Inv X pins σ H s)(h1: -(2^62)<=lo)(h2:lo<2^62)(h3: -(2^62)<=hi)(h4:hi<2^62)
  (q:R (zF lo (hi-lo).toNat) H):wpAny (model X.prog X.w) X.A (pyIter<|.ref s.heap.objs.size) (An X pins σ tg R) E {s with heap:=s.heap.push {cls:=.type "range",data:=.fields #[.int lo t,.int hi u,.int 1 v]},toks:=tk}:=by
 refine wpAny_pyIter_range (IsRange.new ..) (small_one h1 h2 h3 h4) ?_;have I1:Inv X pins σ H {s with heap:=s.heap.push {cls:=.type "range",data:=.fields #[.int lo t,.int hi u,.int 1 v]},toks:=tk}:=I.kept fun b o e=>Bp _ e;refine⟨(s.heap.push {cls:=.type "range",data:=.fields #[.int lo t,.int hi u,.int 1 v]}).objs.size,[(s.heap.push {cls:=.type "range",data:=.fields #[.int lo t,.int hi u,.int 1 v]}).objs.size],_,_,H,rfl,
  I1.kept (t':=tk) fun b o e=>Bp _ e,nP _ lo (hi-lo).toNat,?_,fun b hb=>?_,q⟩
 ·have e1:lo+((0:Nat):Int)*1=lo:=by simp
  have e2:(((hi-lo).toNat:Nat):Int)-((0:Nat):Int)=Kq lo hi 1:=by rw[rangeSize_one];split<;>omega
  show IsRangeIter _ _ (lo+((0:Nat):Int)*1) ((((hi-lo).toNat:Nat):Int)-((0:Nat):Int)) 1;rw[e1,e2];exact By _ rfl
 ·have e:b=(s.heap.push {cls:=.type "range",data:=.fields #[.int lo t,.int hi u,.int 1 v]}).objs.size:=by simpa using hb
  subst e;exact I1.fpOk (BD _)<|I1.hok.fresh<|BD _
def wX(ta:TA):TI:=fun σ H R=>ta σ H fun vs H1=>∃j:Int,vs=[.int j]/\ -(2^62)<=j/\j<2^62/\R (zF 0 j.toNat) H1
def wY(ta:TA):TI:=fun σ H R=>ta σ H fun vs H1=>∃i j:Int,vs=[.int i,.int j]/\(-(2^62)<=i/\i<2^62/\ -(2^62)<=j/\j<2^62)/\R (zF i (j-i).toNat) H1
theorem ff{a:Expr}{ta:TA}{p pos:Pos}(hg:Gl X "range")(hm:X.mg "range"=none)(ha:PA X [a] ta)(hs:starEach [a] X.env=[(false,eval a X.env)]:=by rfl):PI X tg (.Call (.Name "range" p) [a] [] pos) (wX ta):=by
 intro pins s σ H R I h;refine Call_<|gE I hg hm boot_range<|Dq (cm (ha pos pins s σ H _ I h) fun us s1⟨vs,H1,I1,r1,q1⟩=>?_) hs rfl;obtain⟨j,e,q1,q2,q⟩:=q1;subst e;cases r1 with
 |cons r rr=>
  cases rr;obtain⟨t,rfl⟩:=r;exact call_range_1 (my I1 (by omega) (by omega) q1 q2 (by simpa using q))
theorem qi{a b:Expr}{ta:TA}{p pos:Pos}(hg:Gl X "range")(hm:X.mg "range"=none)(ha:PA X [a,b] ta)(hs:starEach [a,b] X.env=[(false,eval a X.env),(false,eval b X.env)]:=by rfl)(hs2:starEach [b] X.env=[(false,eval b X.env)]:=by rfl):
  PI X tg (.Call (.Name "range" p) [a,b] [] pos) (wY ta):=by
 intro pins s σ H R I h;refine Call_ (gE I hg hm boot_range (Dq (cm (ha pos pins s σ H _ I h) fun us s1⟨vs,H1,I1,r1,q1⟩=>?_) (by rw[hs,hs2]) (by rw[hs2];rfl)));obtain⟨i,j,e,⟨q1,q2,q3,q4⟩,q⟩:=q1;subst e;cases r1 with
 |cons r rr=>
  cases rr with
  |cons r' rr=>
   cases rr;obtain⟨t,rfl⟩:=r;obtain⟨t',rfl⟩:=r';exact call_range_2<|my I1 q1 q2 q3 q4 q
def rN(wi:TI)(g:TG)(tb:TS):TS:=fun D σ H=>wi σ H fun J H1=>∃W:Nat->Nat->St->Hp->Prop,(∃m,W 0 m σ H1)/\∀i m σ H,W i m σ H->
 (J.stop i H/\D.nx σ H)\/(J.go i H/\∃N:St->Hp->Prop,(∀σ' H',N σ' H'->∃m',m'<m/\W (i+1) m' σ' H')/\∀x H',J.yld i H x H'->g x σ H' fun σ2 H2=>tb {D with nx:=N,ct:=N,bk:=D.nx} σ2 H2)
def ir(fp:List Addr)(h:Heap):List (Addr×Obj):=fp.filterMap fun b=>(h.get? b).map fun o=>(b,o)
theorem eM{fp:List Addr}{h:Heap}{b:Addr}{o:Obj}(hb:b∈fp)(e:h.get? b=some o):(b,o)∈ir fp h:=Fe.mpr ⟨b,hb,by rw[e];rfl⟩
theorem qj{fp:List Addr}{h:Heap}{p:Addr×Obj}(hp:p∈ir fp h):p.1∈fp/\h.get? p.1=some p.2:=by
 obtain⟨b,hb,e⟩:=Fe.mp hp;cases q:h.get? b with
 |none=>rw[q]at e;cases e
 |some o=>
  rw[q]at e;have e':(b,o)=p:=C5 e;subst e';exact⟨hb,q⟩
theorem Inv.pinned{pins:List (Addr×Obj)}{σ:St}{H:Hp}{s:Bu}{fp:List Addr}(I:Inv X pins σ H s)(hf:∀b∈fp,FpOk X pins H b)(ho:∀b∈fp,∃o,s.heap.get? b=some o/\∀v,o.data≠.cell v):Inv X (pins++ir fp s.heap) σ H s:=
 I.pins_of fun p hp=>(CU.mp hp).elim (fun z=>I.pin p<|C2 _ z) fun z=>by
  obtain⟨hb,e⟩:=qj z;obtain⟨f0,f1,f2,_⟩:=hf p.1 hb;obtain⟨o,e',d⟩:=ho p.1 hb;rw[e]at e';cases e';exact⟨e,f0,f1,f2,d⟩
theorem Inv.unpinned{pins pl:List (Addr×Obj)}{σ:St}{H:Hp}{s:Bu}(I:Inv X (pins++pl) σ H s):Inv X pins σ H s:=I.pins_of fun p hp=>I.pin p<|C2 _<|FJ _ hp
theorem bN{iter:Expr}{body:List Stmt}{wi:TI}{g:TG}{tb:TS}{pos:Pos}(hp:PassesOwn (model X.prog X.w) X.A X.env X.xe)(hc:X.calm=true)(hi:PI X tg iter wi)(hg:PG X tg g)(hb:PSs X body tb)
  (hs:∀x,foldedSetIterable iter X.env x=pure x:=by intro _;rfl):PS X (.For tg iter body [] pos) (rN wi g tb):=by
 intro pins s σ H D I h;refine wpAny_For (cm (hi pins s σ H _ I h) fun v s1 h1=>cm h1 fun itv s2 h2=>?_) hs;obtain⟨it,fp,tn,J,H2,e,I2,T,st2,f2,W,⟨m0,w0⟩,turn⟩:=h2;subst e;have stat:∀{H':Hp},(∀b∈fp,H' b=none)->∀b∈fp,FpOk X pins H' b:=fun hn b hb=>⟨hn b hb,(f2 b hb).2⟩
 refine codeAny_forLoop_any (fun n s'=>∃i σ' H',Inv X pins σ' H' s'/\tn i s'.heap/\(∀b∈fp,H' b=none)/\W i n σ' H') ?_ m0 ⟨0,σ,H2,I2,st2,fun b hb=>(f2 b hb).1,w0⟩;rintro n s3 ⟨i,σ3,H3,I3,st3,fr3,w3⟩;rcases turn i n σ3 H3 w3 with⟨stop,qn⟩|⟨go,N,hN,step⟩
 ·refine F9 hp<|cm (T.done X rfl rfl rfl hc i pins s3 σ3 H3 X.xe I3 (stat fr3) st3 stop) fun r s4 zz=>?_;obtain⟨hr,I4⟩:=zz;subst hr;exact Hn ⟨σ3,H3,I4,qn⟩
 ·refine F9 hp<|cm (T.item X rfl rfl rfl hc i pins s3 σ3 H3 X.xe I3 (stat fr3) st3 go) fun r s4 zz=>?_;obtain⟨u,hr,h4⟩:=zz;subst hr;refine F9 hp<|cm h4 fun _ s5 zz=>?_;obtain⟨x,H5,I5,r5,y5,st5,fr5⟩:=zz;have I5':=I5.pinned (stat fr5)<|T.obj _ _ st5;refine F9 hp<|cm (hg _ s5 σ3 H5 x u _ I5' r5<|step x H5 y5) fun _ s6 zz=>?_;obtain⟨σ6,H6,I6,q6⟩:=zz;refine F9 hp<|cm (hb _ s6 σ6 H6 _ I6 q6) fun f s7 q7=>?_;have again:∀{σ7:St}{H7:Hp},Inv X (pins++ir fp s5.heap) σ7 H7 s7->N σ7 H7->∃m,m<n/\∃i σ' H',Inv X pins σ' H' s7/\tn i s7.heap/\(∀b∈fp,H' b=none)/\W i m σ' H':=fun{σ7 H7}I7 n7=>by
   obtain⟨m',hm,w7⟩:=hN σ7 H7 n7;refine⟨m',hm,i+1,σ7,H7,I7.unpinned,T.keep _ _ _ st5 fun b hb o e=>(I7.pin (b,o)<|C2 _<|C2 _<|eM hb e).1,fun b hb=>?_,w7⟩;obtain⟨o,e,d⟩:=T.obj _ _ st5 b hb;exact(I7.pin (b,o)<|C2 _<|C2 _<|eM hb e).2.1
  cases f with
  |next=>obtain⟨σ7,H7,I7,n7⟩:=q7;exact again I7 n7
  |cont=>obtain⟨σ7,H7,I7,n7⟩:=q7;exact again I7 n7
  |brk=>obtain⟨σ7,H7,I7,q7⟩:=q7;exact⟨σ7,H7,I7.unpinned,q7⟩
  |ret v=>obtain⟨x7,σ7,H7,I7,r7,q7⟩:=q7;exact⟨x7,σ7,H7,I7.unpinned,r7,q7⟩
end
abbrev R2:=V->V->Hp->VK->Prop
def OpR(X:Cx)(f:Bs->Bs->Sem Bs)(r:R2):Prop:=
 ∀(pins:List (Addr×Obj))(s:Bu)(σ:St)(H:Hp)(x y:V)(v u:Bs)(Q:VK),Inv X pins σ H s->RelV x v->RelV y u->r x y H Q->
  wpAny (model X.prog X.w) X.A (f v u) (EP X pins σ Q) X.xe s
def Ao(X:Cx)(f:Bs->Sem Bs)(r:V->Hp->VK->Prop):Prop:=
 ∀(pins:List (Addr×Obj))(s:Bu)(σ:St)(H:Hp)(x:V)(v:Bs)(Q:VK),Inv X pins σ H s->RelV x v->r x H Q->
  wpAny (model X.prog X.w) X.A (f v) (EP X pins σ Q) X.xe s
def dh(X:Cx)(f:Bs)(r:List V->Hp->VK->Prop):Prop:=
 ∀(pins:List (Addr×Obj))(s:Bu)(σ:St)(H:Hp)(xs:List V)(us:List Bs)(Q:VK),Inv X pins σ H s->Vals xs us->r xs H Q->
  wpAny (model X.prog X.w) X.A (call f us) (EP X pins σ Q) X.xe s
def cY(r:R2)(ta tb:TE):TE:=fun σ H Q=>ta σ H fun x H1=>tb σ H1 fun y H2=>r x y H2 Q
def fv(r:V->Hp->VK->Prop)(ta:TE):TE:=fun σ H Q=>ta σ H fun x H1=>r x H1 Q
def rI(C:Int->Int->Prop)(g:Int->Int->V):R2:=fun x y H Q=>∃i j,x=.int i/\y=.int j/\C i j/\Q (g i j) H
def eW(g:Int->Int->V):R2:=fun x y H Q=>∃i j,x=.int i/\y=.int j/\Q (g i j) H
def rU(g:Int->V):V->Hp->VK->Prop:=fun x H Q=>∃i,x=.int i/\Q (g i) H
section
variable{X:Cx}{a b c:Expr}{ta tb tc:TE}{pos:Pos}
theorem xt(ha:PE X a ta)(hb:PE X b tb){pins:List (Addr×Obj)}{s:Bu}{σ:St}{H:Hp}{R:V->V->Hp->Prop}(I:Inv X pins σ H s)
  (h:ta σ H fun x H1=>tb σ H1 fun y H2=>R x y H2) {Q:Bs->Bu->Prop} {f:Bs->Bs->Sem Bs}
  (hf:∀v u s2 x y H2,Inv X pins σ H2 s2->RelV x v->RelV y u->R x y H2->wpAny (model X.prog X.w) X.A (f v u) Q X.xe s2):
  wpAny (model X.prog X.w) X.A (eval a X.env) (fun v s₁=>wpAny (model X.prog X.w) X.A (eval b X.env) (fun u s₂=>wpAny (model X.prog X.w) X.A (f v u) Q X.xe s₂) X.xe s₁) X.xe s:=by
 refine cm (ha pins s σ H _ I h) fun v s1 zz=>?_;obtain⟨x,H1,I1,r1,q1⟩:=zz;refine cm (hb pins s1 σ H1 _ I1 q1) fun u s2 zz=>?_;obtain⟨y,H2,I2,r2,q2⟩:=zz;exact hf v u s2 x y H2 I2 r1 r2 q2
theorem ai{op:Operator}{r:R2}(ho:OpR X (binaryOp op) r)(ha:PE X a ta)(hb:PE X b tb):PE X (.BinOp a op b pos) (cY r ta tb):=by
 intro pins s σ H Q I h;exact wpAny_BinOp<|xt ha hb I h fun v u s2 x y H2 I2 rx ry q=>ho pins s2 σ H2 x y v u Q I2 rx ry q
theorem kA{op:UnaryOp}{r:V->Hp->VK->Prop}(ho:Ao X (unaryOp op) r)(ha:PE X a ta):PE X (.UnaryOp op a pos) (fv r ta):=by
 intro pins s σ H Q I h;refine UnaryOp_<|cm (ha pins s σ H _ I h) fun v s1 zz=>?_;obtain⟨x,H1,I1,r1,q1⟩:=zz;exact ho pins s1 σ H1 x v Q I1 r1 q1
theorem zG{f:Bs->Bs->Sem Bs}{C:Int->Int->Prop}{g:Int->Int->Int}
  (rule:∀(i j:Int)(t u:Tok)(s:Bu)(Q:Bs->Bu->Prop)(E:Bs->Bu->Prop),C i j->Q (.int (g i j) s.toks) {s with toks:=s.toks+1}->wpAny (model X.prog X.w) X.A (f (.int i t)<|.int j u) Q E s):
  OpR X f (rI C fun i j=>.int<|g i j):=by
 intro pins s σ H x y v u Q I rx ry h;obtain⟨i,j,rfl,rfl,hc,q⟩:=h;obtain⟨t,rfl⟩:=rx;obtain⟨t',rfl⟩:=ry;exact rule i j t t' s _ _ hc ⟨.int<|g i j,H,I.tok _,⟨_,rfl⟩,q⟩
theorem yP{f:Bs->Bs->Sem Bs}{g:Int->Int->Int}
  (rule:∀(i j:Int)(t u:Tok)(s:Bu)(Q:Bs->Bu->Prop)(E:Bs->Bu->Prop),Q (.int (g i j) s.toks) {s with toks:=s.toks+1}->wpAny (model X.prog X.w) X.A (f (.int i t)<|.int j u) Q E s):
  OpR X f (eW fun i j=>.int<|g i j):=by
 intro pins s σ H x y v u Q I rx ry h;obtain⟨i,j,rfl,rfl,q⟩:=h;obtain⟨t,rfl⟩:=rx;obtain⟨t',rfl⟩:=ry;exact rule i j t t' s _ _ ⟨.int<|g i j,H,I.tok _,⟨_,rfl⟩,q⟩
theorem ve{f:Bs->Bs->Sem Bs}{g:Int->Int->Bool}
  (rule:∀(i j:Int)(t u:Tok)(s:Bu)(Q:Bs->Bu->Prop)(E:Bs->Bu->Prop),Q (.bool<|g i j) s->wpAny (model X.prog X.w) X.A (f (.int i t)<|.int j u) Q E s):
  OpR X f (eW fun i j=>.bl<|g i j):=by
 intro pins s σ H x y v u Q I rx ry h;obtain⟨i,j,rfl,rfl,q⟩:=h;obtain⟨t,rfl⟩:=rx;obtain⟨t',rfl⟩:=ry;exact rule i j t t' s _ _ ⟨.bl<|g i j,H,I,rfl,q⟩
def yQ(i j:Int):Prop:=0<j/\j<1073741824
def yR(i j:Int):Prop:=0<=j/\j<=1000000/\i.natAbs<2^64
def CMul(i j:Int):Prop:=(-(2^64)<i/\i<2^64)\/(-(2^64)<j/\j<2^64)
theorem CMul.ok{i j:Int}(h:CMul i j):IntMulOk i j:=by
 rcases h with⟨h1,h2⟩|⟨h1,h2⟩
 ·exact .of_left<|K5 h1 h2
 ·exact .of_right<|K5 h1 h2
theorem bh:OpR X (binaryOp .Add) (eW fun i j=>.int<|i+j):=yP fun _ _ _ _ _ _ _ q=>add_int q
theorem dE:OpR X (binaryOp .Sub) (eW fun i j=>.int<|i-j):=yP fun _ _ _ _ _ _ _ q=>sub_int q
theorem eB:OpR X (binaryOp .Mult) (rI CMul fun i j=>.int<|i*j):=zG fun _ _ _ _ _ _ _ hc q=>mul_int q hc.ok
theorem bz:OpR X (binaryOp .FloorDiv) (rI yQ fun i j=>.int<|i/j):=zG fun i j _ _ _ _ _ hc q=>by
 have h1:(0:Int)<j:=hc.1;have h2:j<1073741824:=hc.2;exact floordiv_int (by omega) (by rw[Int.fdiv_eq_ediv_of_nonneg i (by omega)];exact q) (.inl (PyProof.noPylong_small (by omega)))
theorem aA:OpR X (binaryOp .Mod) (rI (fun _ j=>0<j) fun i j=>.int<|i%j):=zG fun i j _ _ _ _ _ hc q=>by
 have h1:(0:Int)<j:=hc;exact mod_int' (by omega) (by rw[Int.fmod_eq_emod_of_nonneg i (by omega)];exact q)
theorem lb:OpR X (binaryOp .Pow) (rI yR fun i j=>.int<|i^j.toNat):=zG fun _ _ _ _ _ _ _ hc q=>pow_int_small hc.1 hc.2.1 hc.2.2 q
theorem AF{f:Bs->Sem Bs}{g:Int->Int}
  (rule:∀(i:Int)(t:Tok)(s:Bu)(Q:Bs->Bu->Prop)(E:Bs->Bu->Prop),Q (.int (g i) s.toks) {s with toks:=s.toks+1}->wpAny (model X.prog X.w) X.A (f<|.int i t) Q E s):
  Ao X f (rU fun i=>.int<|g i):=by
 intro pins s σ H x v Q I rx h;obtain⟨i,rfl,q⟩:=h;obtain⟨t,rfl⟩:=rx;exact rule i t s _ _ ⟨.int<|g i,H,I.tok _,⟨_,rfl⟩,q⟩
theorem iu:Ao X (unaryOp .USub) (rU fun i=>.int<|-i):=AF fun _ _ _ _ _ q=>neg_int q
end
def cH:V->V->Bool
 | .non,.non=>true| .non,.int _=>true| .int _,.non=>true| .non,.bl _=>true| .bl _,.non=>true| .non,.str _=>true| .str _,.non=>true
 | .int _,.int _=>true| .bl _,.bl _=>true| .str _,.str _=>true| .byt _,.byt _=>true
 | .int _,.str _=>true| .str _,.int _=>true| .bl _,.str _=>true| .str _,.bl _=>true
 |_,_=>false
def fH:R2:=fun x y H Q=>cH x y=true/\Q (.bl<|decide<|x=y) H
def fI:R2:=fun x y H Q=>cH x y=true/\Q (.bl<|!decide (x=y)) H
theorem oN{i j:Int}:decide (V.int i=V.int j)=(i==j):=by
 rw[CK];simp
theorem rO{i j:Bool}:decide (V.bl i=V.bl j)=(i==j):=by
 rw[CK];simp
theorem oO{i j:Str}:decide (V.str i=V.str j)=(i==j):=by
 rw[CK];simp
theorem oP{i j:Array UInt8}:decide (V.byt i=V.byt j)=(i.toList==j.toList):=by
 rw[CK];cases i;cases j;simp
section
variable{X:Cx}{a b c:Expr}{ta tb tc:TE}{pos:Pos}
theorem aS{pins:List (Addr×Obj)}{σ:St}{H:Hp}{s:Bu}{Q:VK}{k k':Bool}(I:Inv X pins σ H s)(q:Q (.bl k) H)(e:k=k'):EP X pins σ Q (.bool k') s:=by
 subst e;exact⟨.bl k,H,I,rfl,q⟩
theorem bO:OpR X (compareOp .Eq) fH:=by
 intro pins s σ H x y v u Q I rx ry h;obtain⟨hs,q⟩:=h;cases x with
 |non=>
  cases rx;cases y with
  |non=>cases ry;exact JS (aS I q (by simp))
  |bl j=>cases ry;exact JT (aS I q (by simp))
  |int j=>obtain⟨t',rfl⟩:=ry;exact K6 (aS I q (by simp))
  |str j=>obtain⟨t',rfl⟩:=ry;exact K7 (aS I q (by simp))
  |_=>exact absurd (show false=true from hs) BF
 |bl i=>
  cases rx;cases y with
  |non=>cases ry;exact JU (aS I q (by simp))
  |bl j=>cases ry;exact eq_bool<|aS I q rO
  |str j=>obtain⟨t',rfl⟩:=ry;exact JV (aS I q (by simp))
  |_=>exact absurd (show false=true from hs) BF
 |int i=>
  obtain⟨t,rfl⟩:=rx;cases y with
  |non=>cases ry;exact K8 (aS I q (by simp))
  |int j=>obtain⟨t',rfl⟩:=ry;exact eq_int<|aS I q oN
  |str j=>obtain⟨t',rfl⟩:=ry;exact K9 (aS I q (by simp))
  |_=>exact absurd (show false=true from hs) BF
 |str i=>
  obtain⟨t,rfl⟩:=rx;cases y with
  |non=>cases ry;exact Ka (aS I q (by simp))
  |bl j=>cases ry;exact JW (aS I q (by simp))
  |int j=>obtain⟨t',rfl⟩:=ry;exact Kb (aS I q (by simp))
  |str j=>obtain⟨t',rfl⟩:=ry;exact eq_str<|aS I q oO
  |_=>exact absurd (show false=true from hs) BF
 |byt i=>
  obtain⟨t,rfl⟩:=rx;cases y with
  |byt j=>obtain⟨t',rfl⟩:=ry;exact PySem.W.eq_bytes<|aS I q oP
  |_=>exact absurd (show false=true from hs) BF
 |_=>cases y<;>exact absurd (show false=true from hs) BF
theorem gR:OpR X (compareOp .NotEq) fI:=by
 intro pins s σ H x y v u Q I rx ry h;obtain⟨hs,q⟩:=h;cases x with
 |non=>
  cases rx;cases y with
  |non=>cases ry;exact JX (aS I q (by simp))
  |bl j=>cases ry;exact JY (aS I q (by simp))
  |int j=>obtain⟨t',rfl⟩:=ry;exact Kc (aS I q (by simp))
  |str j=>obtain⟨t',rfl⟩:=ry;exact Kd (aS I q (by simp))
  |_=>exact absurd (show false=true from hs) BF
 |bl i=>
  cases rx;cases y with
  |non=>cases ry;exact JZ (aS I q (by simp))
  |bl j=>cases ry;exact ne_bool<|aS I q<|congrArg not rO
  |str j=>obtain⟨t',rfl⟩:=ry;exact K0 (aS I q (by simp))
  |_=>exact absurd (show false=true from hs) BF
 |int i=>
  obtain⟨t,rfl⟩:=rx;cases y with
  |non=>cases ry;exact Ke (aS I q (by simp))
  |int j=>obtain⟨t',rfl⟩:=ry;exact ne_int<|aS I q<|congrArg not oN
  |str j=>obtain⟨t',rfl⟩:=ry;exact Kf (aS I q (by simp))
  |_=>exact absurd (show false=true from hs) BF
 |str i=>
  obtain⟨t,rfl⟩:=rx;cases y with
  |non=>cases ry;exact Kg (aS I q (by simp))
  |bl j=>cases ry;exact K1 (aS I q (by simp))
  |int j=>obtain⟨t',rfl⟩:=ry;exact Kh (aS I q (by simp))
  |str j=>obtain⟨t',rfl⟩:=ry;exact ne_str<|aS I q<|congrArg not oO
  |_=>exact absurd (show false=true from hs) BF
 |byt i=>
  obtain⟨t,rfl⟩:=rx;cases y with
  |byt j=>obtain⟨t',rfl⟩:=ry;exact PySem.W.ne_bytes<|aS I q<|congrArg not oP
  |_=>exact absurd (show false=true from hs) BF
 |_=>cases y<;>exact absurd (show false=true from hs) BF
theorem rP:OpR X (compareOp .Lt) (eW fun i j=>.bl<|decide<|i<j):=ve fun _ _ _ _ _ _ _ q=>lt_int q
theorem oQ:OpR X (compareOp .LtE) (eW fun i j=>.bl<|decide<|i<=j):=ve fun _ _ _ _ _ _ _ q=>le_int q
theorem gA:OpR X (compareOp .Gt) (eW fun i j=>.bl<|decide<|j<i):=ve fun _ _ _ _ _ _ _ q=>gt_int q
theorem rQ:OpR X (compareOp .GtE) (eW fun i j=>.bl<|decide<|j<=i):=ve fun _ _ _ _ _ _ _ q=>ge_int q
theorem op_isN:OpR X (compareOp .Is) (fun x y H Q=>y=.non/\Q (.bl<|decide<|x=.non) H):=by
 intro pins s σ H x y v u Q I rx ry h;obtain⟨rfl,q⟩:=h;cases ry;refine is_none_gen<|aS I q ?_
 cases x<;>first
  |(cases rx;rfl)
  |(obtain⟨t,rfl⟩:=rx;rfl)
theorem OpR.or{f:Bs->Bs->Sem Bs}{r r':R2}(h:OpR X f r)(h':OpR X f r'):OpR X f (fun x y H Q=>r x y H Q\/r' x y H Q):=by
 intro pins s σ H x y v u Q I rx ry q;rcases q with q|q
 ·exact h pins s σ H x y v u Q I rx ry q
 ·exact h' pins s σ H x y v u Q I rx ry q
theorem ay(b:Expr){op:CmpOp}(h:op≠.In:=by decide)(h2:op≠.NotIn:=by decide):behindInMarks op b=false:=by
 have e1:(op==CmpOp.In)=false:=by cases op<;>first|rfl|exact absurd rfl h
 have e2:(op==CmpOp.NotIn)=false:=by cases op<;>first|rfl|exact absurd rfl h2
 cases b<;>simp[behindInMarks,e1,e2]
theorem cP{op:CmpOp}{r:R2}(ho:OpR X (compareOp op) r)(ha:PE X a ta)(hb:PE X b tb)(hm:behindInMarks op b=false):PE X (.Compare a [op] [b] pos) (cY r ta tb):=by
 intro pins s σ H Q I h;exact wpAny_Compare1 (xt ha hb I h fun v u s2 x y H2 I2 rx ry q=>ho pins s2 σ H2 x y v u Q I2 rx ry q) hm
def bC(t:TE):TT:=fun σ H Q=>t σ H fun x H'=>∃k,x=.bl k/\Q k H'
theorem ar{op:CmpOp}{r:R2}(ho:OpR X (compareOp op) r)(ha:PE X a ta)(hb:PE X b tb)(hm:behindInMarks op b=false):PT X (.Compare a [op] [b] pos) (bC<|cY r ta tb):=by
 intro pins s σ H Q I h;refine wpAny_isTrue_Compare1 (cm (ha pins s σ H _ I h) fun v s1⟨x,H1,I1,r1,q1⟩=>cm (hb pins s1 σ H1 _ I1 q1) fun u s2⟨y,H2,I2,r2,q2⟩=>
  cm (ho pins s2 σ H2 x y v u _ I2 r1 r2 q2) fun c s3⟨z,H3,I3,r3,k,e,q3⟩=>?_) hm
 subst e;cases r3;exact DL ⟨H3,I3,q3⟩
theorem je:(sizeLine:Nat)<2^63:=by rw[Cg];decide
theorem cv:OpR X (binaryOp .Add) (fun x y H Q=>∃i j,x=.str i/\y=.str j/\i.length+j.length<=sizeLine/\Q (.str<|i++j) H):=by
 intro pins s σ H x y v u Q I rx ry h;obtain⟨i,j,rfl,rfl,hz,q⟩:=h;obtain⟨t,rfl⟩:=rx;obtain⟨t',rfl⟩:=ry;exact add_str (fun t' tk=>⟨.str<|i++j,H,I.tok _,⟨_,rfl⟩,q⟩) hz
theorem eN{x:V}{us:List Bs}(r:Vals [x] us):∃u,us=[u]/\RelV x u:=by
 cases r with
 |cons r1 r2=>cases r2;exact⟨_,rfl,r1⟩
theorem kB{x y:V}{us:List Bs}(r:Vals [x,y] us):∃u w',us=[u,w']/\RelV x u/\RelV y w':=by
 cases r with
 |cons r1 r2=>
  cases r2 with
  |cons r3 r4=>cases r4;exact⟨_,_,rfl,r1,r3⟩
theorem gS:dh X (.builtin "abs") (fun xs H Q=>∃i,xs=[.int i]/\Q (.int (if i<0 then -i else i)) H):=by
 intro pins s σ H xs us Q I r h;obtain⟨i,rfl,q⟩:=h;obtain⟨u,rfl,t,rfl⟩:=eN r;exact call_abs_int fun u tk=>⟨.int (if i<0 then -i else i),H,I.tok _,⟨_,rfl⟩,q⟩
theorem kC(hc:X.calm=true):dh X (.builtin "max") (fun xs H Q=>∃i j,xs=[.int i,.int j]/\Q (.int (if j>i then j else i)) H):=by
 intro pins s σ H xs us Q I r h;obtain⟨i,j,rfl,q⟩:=h;obtain⟨u,w',rfl,⟨t,rfl⟩,⟨t',rfl⟩⟩:=kB r;refine max_two_ints (I.ok.hd hc) fun h' tk k=>⟨_,H,I.kept k,?_,q⟩
 by_cases hj:j>i;·rw[if_pos hj,if_pos hj];exact⟨_,rfl⟩
 ·rw[if_neg hj,if_neg hj];exact⟨_,rfl⟩
theorem iw:dh X (.type "int") (fun xs H Q=>(∃i,xs=[.int i]/\Q (.int i) H)\/∃k,xs=[.bl k]/\Q (.int (if k then 1 else 0)) H):=by
 intro pins s σ H xs us Q I r h;rcases h with⟨i,rfl,q⟩|⟨k,rfl,q⟩
 ·obtain⟨u,rfl,t,rfl⟩:=eN r;exact call_int_int ⟨.int i,H,I,⟨_,rfl⟩,q⟩
 ·obtain⟨u,rfl,r1⟩:=eN r;cases r1;exact call_int_bool ⟨.int (if k then 1 else 0),H,I.tok _,⟨_,rfl⟩,q⟩
def mz(K:Br)(x:V)(H:Hp)(n:Nat):Prop:=
 match x with
 | .str y=>y.length<=sizeLine/\n=y.length
 | .byt y=>y.size<=sizeLine/\n=y.size
 | .ref p=>(∃xs,SqL K H p xs/\n=xs.length)\/∃xs,SqT K H p xs/\n=xs.length
 |_=>False
theorem rR:dh X (.builtin "len") (fun xs H Q=>∃x n,xs=[x]/\mz X.K x H n/\Q (.int n) H):=by
 intro pins s σ H xs us Q I r h;obtain⟨x,n,rfl,e,q⟩:=h;obtain⟨u,rfl,rx⟩:=eN r;have hl:=je;have hs:sizeLine=16777216:=Cg;cases x with
 |str y=>
  obtain⟨t,rfl⟩:=rx;obtain⟨hy,e'⟩:y.length<=sizeLine/\n=y.length:=e;subst e';exact len_str (by omega) ⟨.int _,H,I.tok _,⟨_,rfl⟩,q⟩
 |byt y=>
  obtain⟨t,rfl⟩:=rx;obtain⟨hy,e'⟩:y.size<=sizeLine/\n=y.size:=e;subst e';exact PySem.W.len_bytes (by omega) ⟨.int _,H,I.tok _,⟨_,rfl⟩,q⟩
 |ref p=>
  cases rx;have e':(∃xs,SqL X.K H p xs/\n=xs.length)\/∃xs,SqT X.K H p xs/\n=xs.length:=e;rcases e' with⟨xs,hx,e'⟩|⟨xs,hx,e'⟩
  ·subst e';obtain⟨its,r',pl,hz⟩:=I.list hx;have hlen:=r'.length;exact Calls.call_len_list pl.isList (by simp only[BB];omega) ⟨.int xs.length,H,I.tok _,⟨_,by simp only[BB];rw[hlen]⟩,q⟩
  ·subst e';obtain⟨its,r',pl,hz⟩:=I.tuple hx;have hlen:=r'.length;exact len_tuple pl (by simp only[BB];omega) ⟨.int xs.length,H,I.tok _,⟨_,by simp only[BB];rw[hlen]⟩,q⟩
 |_=>exact(show False from e).elim
end
structure ObjM(h:Heap)(x dx C:Addr)(mA:Str->Option Bs):Prop where
 obj:h.get? x=some (Hl C dx)
 ns:h.Ns1 dx mA
 ne:dx≠x
theorem qk{h:Heap}{dx:Addr}{mA:Str->Option Bs}(n:h.Ns1 dx mA):∃od,h.get? dx=some od/\∀name,HK name od=some (mA name):=by
 obtain⟨o,es,ep,ho,hd,hk,_,hm⟩:=n;refine⟨o,ho,fun name=>?_⟩;have e:=hm name;unfold nsFind findBy at e;rw[<-Array.find?_toList]at e;unfold HK;rw[hd];dsimp only;split
 ·rename_i y q;rw[q]at e;exact congrArg some e
 ·rename_i q;rw[q]at e;have a:es.toList.any (·.refKey)=false:=by
   rw[List.any_eq_false];intro y hy;obtain⟨z,t,hkey⟩:=hk y<|Array.mem_toList_iff.mp hy;simp[DictEntry.refKey,hkey]
  have a':¬es.toList.any (·.refKey)=true:=by rw[a];exact BF
  rw[if_neg a'];exact congrArg some e
theorem ObjM.look{h:Heap}{x dx C:Addr}{mA:Str->Option Bs}(I:ObjM h x dx C mA):∃od,PySem.W.InstAt h x (Hl C dx) C (some od)/\∀name,HK name od=some (mA name):=
 let ⟨od,ho,hl⟩:=qk I.ns
 ⟨od,⟨I.obj,rfl,rfl,ho⟩,hl⟩
theorem RelO.some_of{v:V}{o:Option Bs}(r:RelO (some v) o):∃u,o=some u/\RelV v u:=by
 cases o with
 |none=>exact(show False from r).elim
 |some u=>exact⟨u,rfl,r⟩
section
variable{P:BK}{w:BQ}{H H':Hp}{h h':Heap}{a C dx:Addr}{fs fs':List (Str×V)}
theorem vf(hok:HOk P w H h)(e:H a=some (.ins C dx fs)):∃mA,ObjM h a dx C mA/\(∀f,RelO (fs.lookup f)<|mA f)/\Kt mA (fs.map (·.1))/\fs.length<=1000/\H dx=some (.own a):=by
 obtain⟨d,z,ne,ob,mA,n,r,q⟩:=(show ObjOk P w H h a (.ins C dx fs)from hok a _ e)
 exact⟨mA,⟨ob,n,ne⟩,r,q,z,d⟩
end
structure Cls(K:Br)(C:Addr):Prop where
 pg:J5 K C Str.empty=true
 hd:PySem.W.hasDictIn K C=true
 po:PySem.W.plainOver K C=true
 sa:JB K (.ref C) "__setattr__"=some (some<|.builtin "object.__setattr__")
theorem Cls.get{K:Br}{C:Addr}(c:Cls K C)(f:Str):J5 K C f=true:=c.pg
section
variable{X:Cx}{pins:List (Addr×Obj)}{σ:St}{H:Hp}{s:Bu}{A:Ck}{E:Bs->Bu->Prop}{Q:Bs->Bu->Prop}{c:Bs}{b:Bool}
inductive TyOf(K:Br)(H:Hp):V->Bs->Prop where
 |non:TyOf K H .non (.type "NoneType")
 |bl (x:Bool):TyOf K H (.bl x) (.type "bool")
 |int (i:Int):TyOf K H (.int i) (.type "int")
 |str (x:Str):TyOf K H (.str x) (.type "str")
 |flt (x:UInt64):TyOf K H (.flt x) (.type "float")
 |lst {a:Addr} {xs:List V} (e:H a=some (.lst xs)):TyOf K H (.ref a) (.type "list")
 |frz {a:Addr} {o:Obj} {xs:List V} (e:H a=some (.frz o<|.lst xs)):TyOf K H (.ref a) (.type "list")
 |tup {a:Addr} {xs:List V} (e:SqT K H a xs):TyOf K H (.ref a) (.type "tuple")
 |dK {a:Addr} {kvs:List (Key×V)} (e:H a=some (.dK kvs)):TyOf K H (.ref a) (.type "dict")
 |dT {a:Addr} {kvs:List (List Key×V)} (e:H a=some (.dT kvs)):TyOf K H (.ref a) (.type "dict")
 | ins {a C dx:Addr} {fs:List (Str×V)} (e:H a=some (.ins C dx fs)) (cl:Cls K C) (ha:JB K (.ref C) "__class__" =some (some<|.builtin "object.__class__"))
   (hn:PySem.W.specialIn K (.builtin "object.__class__") "__get__"=some (some<|.builtin "getset_descriptor.__get__")) (htk:PySem.W.takesIn K (.builtin "object.__class__")=some true)
   (hm:PySem.W.mroIn K C (.type "object")=some true):TyOf K H (.ref a) (.ref C)
theorem ql{x:V}{u t:Bs}(I:Inv X pins σ H s)(rx:RelV x u)(ty:TyOf X.K H x t)(e:DG X.K t c=some b)(h:∀tk,Q (.bool b) {s with toks:=tk}):
  wpAny (model X.prog X.w) A (call (.builtin "isinstance") [u,c]) Q E s:=by
 cases ty with
 |non=>cases (show u=Ct from rx);exact Dd PySem.W.kitx_none I.kIn EJ e (fun z=>nomatch z) h
 |bl y=>cases (show u=Il y from rx);exact Dd PySem.W.kitx_bool I.kIn EJ e (fun z=>nomatch z) h
 |int i=>obtain⟨t,q⟩:=(show ∃t,u=ES i t from rx);cases q;exact Dd PySem.W.kitx_int I.kIn EJ e (fun z=>nomatch z) h
 |str y=>obtain⟨t,q⟩:=(show ∃t,u=J3 y t from rx);cases q;exact Dd PySem.W.kitx_str I.kIn EJ e (fun z=>nomatch z) h
 |flt y=>obtain⟨t,q⟩:=(show ∃t,u=KH y t from rx);cases q;exact Dd PySem.W.kitx_float I.kIn EJ e (fun z=>nomatch z) h
 | @lst a xs ea=>
  cases (show u=CL a from rx);obtain⟨_,_,n,_,h1⟩:=(show ObjOk X.prog X.w H s.heap a (.lst xs)from I.hok a _ ea)
  exact Dd IF I.kIn ⟨_,h1,rfl⟩ e (fun z=>nomatch z) h
 | @frz a ob xs ea=>
  cases (show u=CL a from rx);obtain⟨_,_,_,n,_,h1⟩:=(show ObjOk X.prog X.w H s.heap a (.frz ob<|.lst xs)from I.hok a _ ea)
  exact Dd IF I.kIn ⟨_,h1,rfl⟩ e (fun z=>nomatch z) h
 | @tup a xs ea=>
  cases (show u=CL a from rx);obtain⟨_,_,p,_⟩:=I.tuple ea;obtain⟨o,h1,h2,_⟩:=p;exact Dd PySem.W.kitx_tuple I.kIn ⟨o,h1,h2⟩ e (fun z=>nomatch z) h
 | @dK a kvs ea=>
  cases (show u=CL a from rx);obtain⟨_,_,vs,_,p⟩:=(show ObjOk X.prog X.w H s.heap a (.dK kvs)from I.hok a _ ea)
  obtain⟨o,es,ep,h1,h2,_⟩:=p;exact Dd IG I.kIn ⟨o,h1,h2.1⟩ e (fun z=>nomatch z) h
 | @dT a kvs ea=>
  cases (show u=CL a from rx);obtain⟨_,_,xs,_,o,es,ep,h1,h2,_⟩:=(show ObjOk X.prog X.w H s.heap a (.dT kvs)from I.hok a _ ea)
  exact Dd IG I.kIn ⟨o,h1,h2.1⟩ e (fun z=>nomatch z) h
 | @ins a C dx fs ea cl ha hn htk hm=>
  cases (show u=CL a from rx);obtain⟨mA,O,_⟩:=vf I.hok ea;obtain⟨od,J,_⟩:=O.look;exact Dd (PySem.W.kitx_own (cl.get _) cl.hd ha hn htk hm) I.kIn J e (fun z=>nomatch z) h
end
structure Room(k:Nat)(A:Ck):Prop where
 hd:A.handled=none
 dp:A.depth+3*k+5<recursionLimit
 un:A.units+16*k+200<cLine
theorem Room.mono{j k:Nat}{A:Ck}(r:Room k A)(h:j<=k):Room j A:=⟨r.hd,by have:=r.dp;omega,by have:=r.un;omega⟩
theorem Room.deeper{k:Nat}{A:Ck}(r:Room (k+1) A)(env:Env):Room k (A.deeper env):=
 ⟨r.hd,by have:=r.dp;show A.depth+1+3*k+5<_;omega,by have:=r.un;show A.units+3+16*k+200<_;omega⟩
theorem Room.depth{k:Nat}{A:Ck}(r:Room k A):A.depth<recursionLimit:=by have:=r.dp;omega
theorem Room.units0{k:Nat}{A:Ck}(r:Room k A):A.units<cLine:=by have:=r.un;omega
def aN:TA:=fun _ H Q=>Q [] H
def ak(ta:TE)(tr:TA):TA:=fun σ H Q=>ta σ H fun x H1=>tr σ H1 fun xs H2=>Q (x::xs) H2
section
variable{X:Cx}{e:Expr}{es:List Expr}{te:TE}{t:TA}{pos:Pos}
theorem ae:PA X [] aN:=fun _ _ _ _ H Q I h=>Calls.spliced_nil ⟨[],H,I,.nil,h⟩
theorem a8(ha:PE X e te)(hr:PA X es t)(hs:starEach (e::es) X.env=(false,eval e X.env)::starEach es X.env:=by rfl):PA X (e::es) (ak te t):=by
 intro pos pins s σ H Q I h;rw[hs];show wpAny _ _ (spliced ((false,eval e X.env)::backTo pos (starEach es X.env))) _ _ s;refine Calls.spliced_cons<|cm (ha pins s σ H _ I h) fun u s1 zz=>?_;obtain⟨x,H1,I1,r1,q1⟩:=zz;refine cm (hr pos pins s1 σ H1 _ I1 q1) fun us s2 zz=>?_;obtain⟨xs,H2,I2,r2,q2⟩:=zz;exact⟨x::xs,H2,I2,.cons r1 r2,q2⟩
def cx(t:TA):TE:=fun σ H Q=>t σ H fun xs H1=>xs.length<=sizeLine/\∀p,H1 p=none->Q (.ref p) (cN H1 p<|.tup xs)
def bW(t:TA):TE:=fun σ H Q=>t σ H fun xs H1=>xs.length<=sizeLine/\∀p,H1 p=none->Q (.ref p) (cN H1 p<|.lst xs)
theorem cI{x1}(h:PA X es t):PE X (.Tuple es x1 pos) (cx t):=by
 intro pins s σ H Q I hq;refine wpAny_Tuple_spliced (cm (h pos pins s σ H _ I hq) fun us s1⟨xs,H1,I1,r,z,q⟩=>⟨by rw[<-r.length];exact z,?_⟩);have hf:H1 s1.heap.objs.size=none:=I1.hok.fresh<|BD _;refine⟨.ref s1.heap.objs.size,cN H1 s1.heap.objs.size<|.tup xs,I1.laid (t':=s1.toks) (fun b u e=>Bp _ e) (BD _) ?_,rfl,q _ hf⟩;exact⟨z,us,r,⟨_,By _ rfl,⟨rfl,rfl⟩,_,rfl⟩⟩
theorem bR(h:PA X es t):PE X (.List es pos) (bW t):=by
 intro pins s σ H Q I hq;refine wpAny_List_spliced (cm (h pos pins s σ H _ I hq) fun us s1⟨xs,H1,I1,r,z,q⟩=>⟨by rw[<-r.length];exact z,?_⟩);have hf:H1 s1.heap.objs.size=none:=I1.hok.fresh<|BD _;refine⟨.ref s1.heap.objs.size,cN H1 s1.heap.objs.size<|.lst xs,I1.laid (t':=s1.toks) (fun b u e=>Bp _ e) (BD _) ?_,rfl,q _ hf⟩;exact⟨z,us,0,r,By _ rfl⟩
end
abbrev Sp:=List V->Hp->VK->XK->Prop
abbrev CXT:=List Env->Hp->Bu->XK->Bs->Bu->Prop
structure Env0(P:BK)(w:BQ)(K:Br)(mg:Str->Option Bs)(base:Heap)(A:Ck)(outer:List Env)(s:Bu)(H:Hp):Prop where
 frames:A.frames=some outer
 mod:Mod K mg base
 bs:∀b o,base.get? b=some o->s.heap.get? b=some o/\H b=none
 bsz:base.objs.size<=s.heap.objs.size
 funs:s.heap.FunFrames base outer
 frf:∀b∈frs outer,H b=none
 hok:HOk P w H s.heap
 bare:GC s.gens
def CE(outer:List Env)(P:BK)(w:BQ)(H:Hp)(s:Bu)(Q:VK)(u:Bs)(s':Bu):Prop:=
 ∃v H',s'.os=s.os/\GC s'.gens/\Un (frs outer) [] H H' s.heap s'.heap/\HOk P w H' s'.heap/\RelV v u/\Q v H'
def CR(CX:CXT)(outer:List Env)(P:BK)(w:BQ)(H:Hp)(s:Bu)(Q:VK)(E:XK)(r:J6)(s':Bu):Prop:=
 match r with
 | .ok (.ret u)=>CE outer P w H s Q u s'
 | .ok _=>False
 | .error e=>CX outer H s E e s'
structure FnOk(P:BK)(w:BQ)(K:Br)(mg:Str->Option Bs)(base:Heap)(CX:CXT)(k:Nat)(f:Addr)(fd:BW)(ps:List Str)(sp:Sp):Prop where
 len:∀vs H Q E,sp vs H Q E->vs.length=ps.length
 run:∀(A:Ck)(outer:List Env)(s:Bu)(H:Hp)(args:Args)(us:List Bs)(vs:List V)(Q:VK)(E:XK),Room k A->Env0 P w K mg base A outer s H->IH s fd args (ps.zip us)->Vals vs us->sp vs H Q E->
  codeAny (model P w) A (.call (.ref f) args) (CR CX outer P w H s Q E) s
theorem FnOk.imp{P:BK}{w:BQ}{K:Br}{mg:Str->Option Bs}{base:Heap}{CX:CXT}{k:Nat}{f:Addr}{fd:BW}{ps:List Str}{sp sp':Sp}(F:FnOk P w K mg base CX k f fd ps sp)
  (h:∀vs H Q E,sp' vs H Q E->sp vs H Q E):FnOk P w K mg base CX k f fd ps sp':=
 ⟨fun vs H Q E q=>F.len vs H Q E<|h _ _ _ _ q,fun A outer s H args us vs Q E hr he hb hv hs=>F.run A outer s H args us vs Q E hr he hb hv<|h _ _ _ _ hs⟩
section
variable{X:Cx}{pins:List (Addr×Obj)}{σ:St}{H:Hp}{s s':Bu}
theorem Inv.env0(I:Inv X pins σ H s):Env0 X.prog X.w X.K X.mg X.base X.A X.stack s H:=
 ⟨I.ok.frames,I.ok.mod,I.bs,Dt I.ok.bsz I.sz,I.stack,I.stkFree,I.hok,I.bare⟩
theorem Inv.after{Q:VK}{u:Bs}(I:Inv X pins σ H s)(h:CE X.stack X.prog X.w H s Q u s'):EP X pins σ Q u s':=by
 obtain⟨v,H',os,bare,un,hok,r,q⟩:=h;obtain⟨hh,g,d,t,os'⟩:=s';obtain rfl:os'=s.os:=os;exact⟨v,H',I.call (h':=hh) (g':=g) (d':=d) (t':=t) (ch:=[]) un hok bare (fun b z=>absurd z (by simp)),r,q⟩
end
def aV(sp:Sp)(dvs:List V)(E:XK)(t:TA):TE:=fun σ H Q=>t σ H fun vs H1=>sp (vs++dvs) H1 Q E
def Binds(K:Br)(fd:BW)(ps:List Str)(ds:List Bs):Prop:=
 ∀(s:Bu)(us:List Bs),K.In s.heap->(us++ds).length=ps.length->IH s fd ⟨us,[]⟩ (ps.zip<|us++ds)
theorem Binds.all{K:Br}{fd:BW}{ps:List Str}(h:∀us:List Bs,us.length=ps.length->bindArgs fd ⟨us,[]⟩=pure (ps.zip us)):Binds K fd ps []:=fun s us _ hl=>by
 rw[DP]at hl ⊢;exact .of_eq<|h us hl
def nQ(CX:CXT)(X:Cx)(E:XK):Prop:=∀(pins:List (Addr×Obj))(σ:St)(H:Hp)(s:Bu)(e:Bs)(s':Bu),Inv X pins σ H s->CX X.stack H s E e s'->X.xe e s'
section
variable{X:Cx}{CX:CXT}{k:Nat}{f C:Addr}{fd:BW}{ps:List Str}{sp:Sp}{dvs:List V}{ds:List Bs}{E:XK}{x m:Str}{p pos apos:Pos}{e o:Expr}{es:List Expr}{ta:TE}{t:TA}
theorem xu{pins:List (Addr×Obj)}{σ:St}{H:Hp}{s:Bu}{Q:VK}{us:List Bs}{vs:List V}(F:FnOk X.prog X.w X.K X.mg X.base CX k f fd ps sp)(hr:Room k X.A)(hb:Binds X.K fd ps ds)(hd:Vals dvs ds)(hx:nQ CX X E)
  (I:Inv X pins σ H s) (r:Vals vs us) (h:sp (vs++dvs) H Q E):wpAny (model X.prog X.w) X.A (call (.ref f) us) (EP X pins σ Q) X.xe s:=by
 have r2:Vals (vs++dvs) (us++ds):=r.append hd;have hl:(us++ds).length=ps.length:=by rw[<-r2.length];exact F.len _ _ _ _ h
 refine wpAny_call<|EU (F.run X.A X.stack s H ⟨us,[]⟩ (us++ds) (vs++dvs) Q E hr I.env0 (hb s us I.kIn hl) r2 h) fun r s' hq=>?_;cases r with
 |error e=>exact hx pins σ H s e s' I hq
 |ok fl=>
  cases fl with
  |ret u=>exact I.after hq
  |next=>exact El hq
  |brk=>exact El hq
  |cont=>exact El hq
theorem vg(F:FnOk X.prog X.w X.K X.mg X.base CX k f fd ps sp)(hr:Room k X.A)(hg:Gl X x)(hm:X.mg x=some (.ref f))(hk:Eb X.K (.ref f)=true)(hb:Binds X.K fd ps ds)(hd:Vals dvs ds)(hx:nQ CX X E)
  (ha:PA X (e::es) t) (hdb:(x==("__debug__" :Str))=false:=by decide) (he:starEach (e::es) X.env=(false,eval e X.env)::starEach es X.env:=by rfl) (hpl:(backTo pos<|starEach es X.env).any (·.1)=false:=by rfl):
  PE X (.Call (.Name x p) (e::es) [] pos) (aV sp dvs E t):=by
 intro pins s σ H Q I h;refine Gi<|oM I hg hm ?_ hdb;refine PySem.W.callWith_K (h₀:=X.base) I.ok.mod.kin hk (cm (ha pos pins s σ H _ I h) fun us s1⟨vs,H1,I1,r,q⟩=>⟨I1.kIn,?_⟩) he hpl;exact xu F hr hb hd hx I1 r q
end
structure FnScope(N P:List Str)(sc:EI):Prop where
 kind:sc.kind=.function
 co:sc.isCoroutine=false
 gen:sc.isGenerator=false
 nd:N.Nodup
 pre:N.take P.length=P
 par:∀x∈P,sc.names.lookup x=some .local\/sc.names.lookup x=some .cell
 nofree:∀y∈sc.names,y.2≠.free
theorem kD{kindOf:Str->Option Ec}{x:Str}:∀{binds:List (Str×Bs)}{m:Str->Option Bs},(∀v,(x,v)∉binds)->bindL kindOf binds m x=m x
 | [],_,_=>rfl
 |(n,v)::r,m,h=>by
  unfold bindL;rw[kD fun w hw=>h w<|BP _ hw];split
  ·have:x≠n:=by rintro rfl;exact h v BN
   simp[this]
  ·rfl
theorem kE{kindOf:Str->Option Ec}{x:Str}:∀{binds:List (Str×Bs)}{m:Str->Option Bs},(∀v,(x,v)∉binds)->bindC kindOf binds m x=m x
 | [],_,_=>rfl
 |(n,v)::r,m,h=>by
  unfold bindC;rw[kE fun w hw=>h w<|BP _ hw];split;·rfl
  ·have:x≠n:=by rintro rfl;exact h v BN
   simp[this]
theorem kF{kindOf:Str->Option Ec}{x:Str}{v:Bs}:∀{P:List Str}{vs:List Bs}{i:Nat}{m:Str->Option Bs},P.Nodup->P[i]? =some x->vs[i]? =some v->kindOf x=some .local->
  bindL kindOf (P.zip vs) m x=some v
 | [],_,_,_,_,h,_,_=>by simp at h
 |_::_,[],_,_,_,_,h,_=>by simp at h
 |p::P,w::vs,0,m,nd,h1,h2,hk=>by
  simp at h1 h2;subst h1;subst h2;show bindL kindOf ((p,w)::P.zip vs) m p=_;unfold bindL;rw[kD fun v hv=>(DQ.mp nd).1 (Fb hv).1,if_pos hk];simp
 |p::P,w::vs,i+1,m,nd,h1,h2,hk=>by
  show bindL kindOf ((p,w)::P.zip vs) m x=_;unfold bindL;exact kF (i:=i) (DQ.mp nd).2 (by simpa using h1) (by simpa using h2) hk
theorem kG{kindOf:Str->Option Ec}{x:Str}{v:Bs}:∀{P:List Str}{vs:List Bs}{i:Nat}{m:Str->Option Bs},P.Nodup->P[i]? =some x->vs[i]? =some v->kindOf x≠some .local->
  bindC kindOf (P.zip vs) m x=some v
 | [],_,_,_,_,h,_,_=>by simp at h
 |_::_,[],_,_,_,_,h,_=>by simp at h
 |p::P,w::vs,0,m,nd,h1,h2,hk=>by
  simp at h1 h2;subst h1;subst h2;show bindC kindOf ((p,w)::P.zip vs) m p=_;unfold bindC;rw[kE fun v hv=>(DQ.mp nd).1 (Fb hv).1,if_neg hk];simp
 |p::P,w::vs,i+1,m,nd,h1,h2,hk=>by
  show bindC kindOf ((p,w)::P.zip vs) m x=_;unfold bindC;exact kG (i:=i) (DQ.mp nd).2 (by simpa using h1) (by simpa using h2) hk
def start(N:List Str)(vs:List V):St:=vs.map some++DH (N.length-vs.length) none
def qm(CX:CXT)(P:BK)(w:BQ)(K:Br)(mg:Str->Option Bs)(base:Heap)(N:List Str)(qual:Str)(scope:EI)(f:Addr)(cd:Bs)(A:Ck)(outer:List Env)(s:Bu)(H:Hp)(E:XK):Cx where
 prog:=P
 w:=w
 K:=K
 mg:=mg
 base:=base
 A:=A.deeper<|envOfC qual scope s.heap.objs.size f cd
 N:=N
 s₀:=s
 H₀:=H
 env:=envOfC qual scope s.heap.objs.size f cd
 outer:=outer
 stack:=envOfC qual scope s.heap.objs.size f cd::outer
 ex:=[]
 calm:=true
 fn:=fun _=>true
 pn:=[]
 xe:=fun e s'=>wpAny (model P w) (A.deeper<|envOfC qual scope s.heap.objs.size f cd) (leaving (envOfC qual scope s.heap.objs.size f cd) e) (fun _ s''=>CX outer H s E e s'') (fun e' s''=>CX outer H s E e' s'') s'
theorem mC{sc:EI}{n:Nat}{x:Str}(h:sc.names.lookup x=some .cell):∃c,(cellsFrom n sc.names []).lookup x=some c:=by
 have q:=Fo sc.names n []<|.inl h;exact GL.mp q
theorem qo{CX:CXT}{P:BK}{w:BQ}{K:Br}{mg:Str->Option Bs}{base:Heap}{N ps:List Str}{qual:Str}{scope:EI}{f:Addr}{cd:Bs}{A:Ck}{outer:List Env}{s s1:Bu}{H:Hp}{E:XK}{us:List Bs}{vs:List V}
  (S:FnScope N ps scope) (hd:A.handled=none) (e0:Env0 P w K mg base A outer s H) (hl:vs.length=ps.length) (r:Vals vs us)
  (x:InCallC s s.heap.objs.size (bindL (envOfC qual scope s.heap.objs.size f cd).kindOf (ps.zip us) fun _=>none) (cellsFrom (s.heap.objs.size+1) scope.names []) (bindC (envOfC qual scope s.heap.objs.size f cd).kindOf (ps.zip us) fun _=>none) s1):
  Inv (qm CX P w K mg base N qual scope f cd A outer s H E) [] (start N vs) H s1:=by
 have hpl:ps.length<=N.length:=by have:=congrArg EK S.pre;rw[DT]at this;omega
 obtain⟨h1,tk,rfl,hk⟩:=x.done;have noA:∀b:Addr,b∉(qm CX P w K mg base N qual scope f cd A outer s H E).ex:=fun b z=>absurd (show b∈([]:List Addr)from z) (by simp);refine⟨⟨e0.mod,S.kind,rfl,rfl,BD _,fun y z c h1 h2=>?_,fun y hy=>?_,fun y c _ h=>?_,fun _=>hd,Around.frames_deeper e0.frames,.inr ⟨rfl,rfl⟩,fun b z=>absurd z<|noA b,e0.bs,e0.bsz,fun b _ _=>noA b,fun b z=>absurd z<|noA b,e0.funs,e0.frf⟩,
  rfl,e0.bare,Un.kept hk,⟨_,x.toInCall.ns,fun i y v h1 h2 h3=>?_⟩,fun y c h=>⟨_,x.cell y c h⟩,e0.hok.fresh (BD _),fun y c h=>?_,fun p hp=>absurd (show p∈([]:List (Addr×Obj))from hp) (by simp),e0.hok.kept hk,?_⟩
 ·exact name_of_addr x.apart (Dg h1)<|Dg h2
 ·have hy:scope.names.lookup y=some .cell\/scope.names.lookup y=some .free:=hy;rcases hy with hy|hy
  ·exact mC hy
  ·exact absurd rfl<|S.nofree _<|Dg hy
 ·exact ET<|x.above y c<|Dg h
 ·have hi:i<vs.length:=by
   unfold start at h2;by_cases hi:i<vs.length;·exact hi
   ·rw[BH (by simpa using hi)]at h2;rw[List.getElem?_replicate]at h2;split at h2<;>cases h2
  have ha:vs[i]? =some v:=by
   unfold start at h2;rw[BG (by simpa using hi),Bz]at h2;cases e:vs[i]? with
   |none=>rw[e]at h2;cases h2
   |some a=>rw[e]at h2;cases h2;rfl
  obtain⟨u,hu,rv⟩:=r.get ha;have hp:ps[i]? =some y:=by
   rw[<-S.pre,CA (by omega)];exact h1
  have ndP:ps.Nodup:=by rw[<-S.pre];exact S.nd.sublist<|List.take_sublist _ _
  refine⟨u,rv,?_⟩;rcases S.par y (BI hp)with k|k
  ·exact .inl ⟨k,kF ndP hp hu k⟩
  ·obtain⟨c,e⟩:=mC (n:=s.heap.objs.size+1) k;refine .inr ⟨.inl k,c,e,?_⟩;have q:=x.cell y c e;rw[kG ndP hp hu (by show scope.names.lookup y≠_;rw[k];decide)]at q;exact q
 ·exact e0.hok.fresh<|ET<|x.above y c<|Dg h
 ·unfold start;show _=N.length;rw[CS,BJ,List.length_replicate];omega
theorem yS{CX:CXT}{P:BK}{w:BQ}{K:Br}{mg:Str->Option Bs}{base:Heap}{k:Nat}{f:Addr}{name qual:Str}{params:Arguments}{body:List Stmt}{scope:EI}{dV kV doc pm cdv ct oc:Bs}{an od:Option Addr}
  {osl:Array (Option Bs)} {N ps:List Str} {sp:Sp} (lk:K.lookup f=some ⟨oc,od,.func<|DD name qual params body scope dV kV doc pm an cdv ct,osl⟩) (hcd:EL K cdv qual=true) (S:FnScope N ps scope)
  (len:∀vs H Q E,sp vs H Q E->vs.length=ps.length)
  (hbody:∀(A:Ck) (outer:List Env) (s:Bu) (H:Hp) (vs:List V) (Q:VK) (E:XK),Room k (A.deeper<|envOfC qual scope s.heap.objs.size f cdv)->sp vs H Q E->
   ∃t,PSs (qm CX P w K mg base N qual scope f cdv A outer s H E) body t/\t {nx:=fun _ H'=>Q .non H',rt:=Q} (start N vs) H):
  FnOk P w K mg base CX (k+1) f (DD name qual params body scope dV kV doc pm an cdv ct) ps sp:=by
 refine⟨len,fun A outer s H args us vs Q E hr e0 hb r hsp=>?_⟩;have hl:=len _ _ _ _ hsp;have KX:K.In s.heap:=e0.mod.kin.keeps fun b o e=>(e0.bs b o e).1;have lim:s.heap.NoLimit:=e0.mod.nolimit.keeps fun b o e=>(e0.bs b o e).1;have hkind:∀y∈ps.zip us,scope.names.lookup y.1=some .local\/(scope.names.lookup y.1=some .cell/\((cellsFrom (s.heap.objs.size+1) scope.names []).lookup y.1).isSome=true):=fun⟨n,v⟩hy=>by
  rcases S.par n (Fb hy).1 with q|q;·exact .inl q
  ·exact .inr ⟨q,Fo _ _ _<|.inl q⟩
 refine codeAny_call_function hr.depth (KX _ _ lk) rfl S.co S.gen rfl (PySem.W.codeRec_of KX hcd)<|hb _ _ _ _ ?_;refine wpAny_newFunctionEnv_cells S.kind hkind fun env he s1 x=>?_;subst he;refine⟨lim.keeps x.toInCall.keep,codeAny_func ?_⟩;obtain⟨t,ht,hq⟩:=hbody A outer s H vs Q E (hr.deeper _) hsp;have I:Inv (qm CX P w K mg base N qual scope f cdv A outer s H E) [] (start N vs) H s1:=qo S hr.hd e0 hl r x;refine CI (ht [] s1 (start N vs) H _ I hq) (fun fl s' hs=>?_) fun e s' hs=>hs;have fin:∀{σ':St}{H':Hp}{v:V}{u:Bs},Inv (qm CX P w K mg base N qual scope f cdv A outer s H E) [] σ' H' s'->RelV v u->Q v H'->CE outer P w H s Q u s':=
  fun{σ' H' v u}J rv q=>⟨v,H',J.os,J.bare,J.base,J.hok,rv,q⟩
 cases fl with
 |ret u=>
  obtain⟨v,σ',H',J,rv,q⟩:=hs;exact fin J rv q
 |next=>
  obtain⟨σ',H',J,q⟩:=hs;exact fin (v:=V.non) (u:=Ct) J rfl q
 |brk=>
  obtain⟨_,_,_,q⟩:=hs;exact El q
 |cont=>
  obtain⟨_,_,_,q⟩:=hs;exact El q
section
variable{X:Cx}{x:Str}{p pos:Pos}{e:Expr}{es:List Expr}{t:TA}{id T:String}{r:List V->Hp->VK->Prop}
def dW(r:List V->Hp->VK->Prop)(t:TA):TE:=fun σ H Q=>t σ H fun vs H1=>r vs H1 Q
theorem aq(hc:dh X (.builtin id) r)(hg:Gl X x)(hm:X.mg x=none)(hv:bootBuiltins x=some (.builtin id))(ha:PA X (e::es) t)(hn:x≠"__name__":=by decide)(hdb:(x==("__debug__" :Str))=false:=by decide)
  (he:starEach (e::es) X.env=(false,eval e X.env)::starEach es X.env:=by rfl) (hpl:(backTo pos<|starEach es X.env).any (·.1)=false:=by rfl):PE X (.Call (.Name x p) (e::es) [] pos) (dW r t):=by
 intro pins s σ H Q I h;refine Gi<|gE I hg hm hv ?_ hn hdb;exact J7 (cm (ha pos pins s σ H _ I h) fun us s1⟨vs,H1,I1,r1,q1⟩=>hc pins s1 σ H1 vs us Q I1 r1 q1) he hpl
theorem cC(hc:dh X (.type T) r)(hg:Gl X x)(hm:X.mg x=none)(hv:bootBuiltins x=some (.type T))(ha:PA X (e::es) t)(hn:x≠"__name__":=by decide)(hdb:(x==("__debug__" :Str))=false:=by decide)
  (he:starEach (e::es) X.env=(false,eval e X.env)::starEach es X.env:=by rfl) (hpl:(backTo pos<|starEach es X.env).any (·.1)=false:=by rfl):PE X (.Call (.Name x p) (e::es) [] pos) (dW r t):=by
 intro pins s σ H Q I h;refine Gi<|gE I hg hm hv ?_ hn hdb;exact Dq (cm (ha pos pins s σ H _ I h) fun us s1⟨vs,H1,I1,r1,q1⟩=>hc pins s1 σ H1 vs us Q I1 r1 q1) he hpl
end
end L2
open L2.FnScope renaming nd->Le
open L2.PW renaming pt->FT
open L2.SqL renaming of->Di
open L2.SqT renaming of->JR
open L2.V renaming int->ER,str->Fz,bl->Lo
namespace HT
open PySem PyProof.Rows
section
open PySem.SeqAt
open PySem.AutoSeq1 (wpAny_loadPart')
open PySem.MeetsSeq PySem.MeetsSeq2 PySem.MeetsSeq3
end
section
variable{prog:BK}{w:BQ}{A:Ck}{E:Bs->Bu->Prop}{s:Bu}
def sIx(n d:Nat):Option Int->Nat
 |none=>d
 |some v=>if v<0 then(v+(n:Int)).toNat else min v.toNat n
theorem sIx_le(n d:Nat)(hd:d<=n)(o:Option Int):sIx n d o<=n:=by
 cases o with
 |none=>exact hd
 |some v=>
  show(if v<0 then(v+(n:Int)).toNat else min v.toNat n)<=n;by_cases hv:v<0;·rw[if_pos hv];omega
  ·rw[if_neg hv];exact Nat.min_le_right _ _
end
end HT
namespace L2
open PySem PySem.Spec PyProof.Rows
abbrev TO:=St->Hp->(Option Int->Hp->Prop)->Prop
def PO(X:Cx)(e:Option Expr)(t:TO):Prop:=
 ∀(pins:List (Addr×Obj))(s:Bu)(σ:St)(H:Hp)(Q:Option Int->Hp->Prop),Inv X pins σ H s->t σ H Q->
  wpAny (model X.prog X.w) X.A (evalPart e X.env) (fun u s'=>∃o H',Inv X pins σ H' s'/\IsPart u o/\Q o H') X.xe s
def aL:TO:=fun _ H Q=>Q none H
def bw(t:TE):TO:=fun σ H Q=>t σ H fun x H1=>∃i,x=.int i/\Q (some i) H1
theorem nR{ns:List Int}:∀{us:List Bs},Vals (ns.map ER) us->II us ns:=by
 induction ns with
 |nil=>intro us r;rw[Fp]at r;cases r;exact .nil
 |cons n ns ih=>
  intro us r;rw[CP]at r;cases r with
  |cons r1 r2=>
   obtain⟨t,e⟩:=r1;subst e;exact .cons n t<|ih r2
section
variable{X:Cx}{e:Expr}{te:TE}{lo hi:Option Expr}{tl th:TO}{pos p2:Pos}
theorem j6:PO X none aL:=by
 intro pins s σ H Q I h;rw[HX];exact Bq ⟨none,H,I,.none,h⟩
theorem gT(h:PE X e te):PO X (some e) (bw te):=by
 intro pins s σ H Q I hw;rw[evalPart_some];refine cm (h pins s σ H _ I hw) fun u s1 zz=>?_;obtain⟨x,H1,I1,r1,q1⟩:=zz;obtain⟨i,rfl,q⟩:=q1;obtain⟨t,rfl⟩:=r1;exact⟨some i,H1,I1,.int i t,q⟩
def zH(X:Cx)(r:V->Option Int->Option Int->Hp->VK->Prop):Prop:=
 ∀(pins:List (Addr×Obj))(s:Bu)(σ:St)(H:Hp)(x:V)(v vl vu:Bs)(lo hi:Option Int)(sl:Addr)(Q:VK),Inv X pins σ H s->RelV x v->s.heap.IsSliceOf sl vl vu .none->IsPart vl lo->IsPart vu hi->r x lo hi H Q->
  ∃T id,typeLookup (.type T) "__getitem__"=pure (some<|.builtin id)/\s.TypeIs v T/\wpAny (model X.prog X.w) X.A (getItem v<|.ref sl) (EP X pins σ Q) X.xe s
def fw(r:V->Option Int->Option Int->Hp->VK->Prop)(te:TE)(tl th:TO):TE:=fun σ H Q=>te σ H fun x H1=>tl σ H1 fun l H2=>th σ H2 fun u H3=>r x l u H3 Q
theorem gU{r:V->Option Int->Option Int->Hp->VK->Prop}(hr:zH X r)(he:PE X e te)(hl:PO X lo tl)(hu:PO X hi th):PE X (.Subscript e (.Slice lo hi none p2) pos) (fw r te tl th):=by
 intro pins s σ H Q I h;refine Im<|cm (he pins s σ H _ I h) fun v s1 zz=>?_;obtain⟨x,H1,I1,r1,q1⟩:=zz;refine wpAny_Slice<|cm (hl pins s1 σ H1 _ I1 q1) fun vl s2 zz=>?_;obtain⟨l,H2,I2,pl,q2⟩:=zz;refine cm (hu pins s2 σ H2 _ I2 q2) fun vu s3 zz=>?_;obtain⟨u,H3,I3,pu,q3⟩:=zz;rw[HX];refine Bq ?_;have I4:Inv X pins σ H3 {s3 with heap:=s3.heap.push {cls:=.type "slice",data:=.fields #[vl,vu,.none]}}:=I3.kept (t':=s3.toks) fun b ob q=>Bp _ q;obtain⟨T,id,hT,ht,hg⟩:=hr pins {s3 with heap:=s3.heap.push {cls:=.type "slice",data:=.fields #[vl,vu,.none]}} σ H3 x v vl vu l u s3.heap.objs.size Q I4 r1 (Io ..) pl pu q3;show wpAny (model X.prog X.w) X.A (subscriptTail e (.Slice lo hi none p2) v<|.ref s3.heap.objs.size) (EP X pins σ Q) X.xe {s3 with heap:=s3.heap.push {cls:=.type "slice",data:=.fields #[vl,vu,.none]}};exact KI (ops:=[.ref s3.heap.objs.size,v]) ht hT hg (by with_unfolding_all rfl)
def nU(xs:List V)(lo hi:Option Int):List V:=(xs.drop<|HT.sIx xs.length 0 lo).take (HT.sIx xs.length xs.length hi-HT.sIx xs.length 0 lo)
theorem mD(xs:List V)(lo hi:Option Int):(nU xs lo hi).length<=xs.length:=by
 unfold nU;rw[DT,FC];omega
end
def ixN(n:Nat)(i:Int):Option Nat:=if 0<=i then(if i<n then some i.toNat else none)else if -(n:Int)<=i then some (i+n).toNat else none
def atI{α:Type}(xs:List α)(i:Int):Option α:=(ixN xs.length i).bind fun j=>xs[j]?
theorem ixN_seq{n:Nat}{i:Int}{j:Nat}(h:ixN n i=some j):seqIndex? i n=some j/\j<n/\ -(n:Int)<=i/\i<n:=by
 unfold ixN at h;by_cases h0:0<=i
 ·rw[if_pos h0]at h;by_cases h1:i<n
  ·rw[if_pos h1]at h;have e:i.toNat=j:=C5 h;exact⟨by rw[Jj h0 h1,e],by omega,by omega,h1⟩
  ·rw[if_neg h1]at h;cases h
 ·rw[if_neg h0]at h;by_cases h1: -(n:Int)<=i
  ·rw[if_pos h1]at h;have e:(i+n).toNat=j:=C5 h;exact⟨by rw[IJ (by omega) h1,e],by omega,h1,by omega⟩
  ·rw[if_neg h1]at h;cases h
theorem lg{α:Type}{xs:List α}{i:Int}{v:α}(h:atI xs i=some v):∃j,seqIndex? i xs.length=some j/\xs[j]? =some v/\j<xs.length/\ -(xs.length:Int)<=i/\i<xs.length:=by
 unfold atI at h;cases e:ixN xs.length i with
 |none=>rw[e]at h;cases h
 |some j=>
  rw[e]at h;obtain⟨h1,h2,h3,h4⟩:=ixN_seq e;exact⟨j,h1,h,h2,h3,h4⟩
def vh(b:Expr):Prop:=∀o i,subscripted b false o i=operate [o,i] (getItem o i)
def yz(X:Cx)(r:R2):Prop:=
 ∀(value slice:Expr)(pins:List (Addr×Obj))(s:Bu)(σ:St)(H:Hp)(x y:V)(v u:Bs)(Q:VK),Inv X pins σ H s->RelV x v->RelV y u->r x y H Q->
  subscripted slice false v u=operate [v,u] (getItem v u)->wpAny (model X.prog X.w) X.A (subscriptTail value slice v u) (EP X pins σ Q) X.xe s
def yT(X:Cx)(id:String)(r:V->List V->Hp->VK->Prop):Prop:=
 ∀(pins:List (Addr×Obj))(s:Bu)(σ:St)(H:Hp)(x:V)(xs:List V)(v:Bs)(us:List Bs)(Q:VK),Inv X pins σ H s->RelV x v->Vals xs us->r x xs H Q->
  wpAny (model X.prog X.w) X.A (call (.builtin id) (v::us)) (EP X pins σ Q) X.xe s
section
variable{X:Cx}{a b:Expr}{ta tb:TE}{pos:Pos}
theorem ax{r:R2}(hr:yz X r)(ha:PE X a ta)(hb:PE X b tb)(hs:vh b):PE X (.Subscript a b pos) (cY r ta tb):=by
 intro pins s σ H Q I h;exact Im<|xt ha hb I h fun v u s2 x y H2 I2 rx ry q=>hr a b pins s2 σ H2 x y v u Q I2 rx ry q<|hs _ _
def cf(K:Br):R2:=fun x y H Q=>∃p xs i v,x=.ref p/\y=.int i/\SqL K H p xs/\atI xs i=some v/\Q v H
def cy(K:Br):R2:=fun x y H Q=>∃p xs i v,x=.ref p/\y=.int i/\SqT K H p xs/\atI xs i=some v/\Q v H
def cJ:R2:=fun x y H Q=>∃z i c,x=.str z/\y=.int i/\z.length<=sizeLine/\atI z.cps.toList i=some c/\Q (.str ⟨#[c]⟩) H
theorem vi:yz X (cf X.K):=by
 intro value slice pins s σ H x y v u Q I rx ry h hs;obtain⟨p,xs,i,z,rfl,rfl,hq,he,q⟩:=h;cases rx;obtain⟨t,rfl⟩:=ry;obtain⟨its,r,pl,hz⟩:=I.list hq;obtain⟨j,h1,h2,h3,h4,h5⟩:=lg he;obtain⟨w,ew,rw'⟩:=r.get h2;have hl:=r.length;have hn:=je;have fin:EP X pins σ Q w s:=⟨z,H,I,rw',q⟩
 by_cases h0:0<=i
 ·have hj:i.toNat=j:=by
   rw[Jj h0 h5]at h1;exact C5 h1
  exact item_listR pl.isList h0 (by omega) (by rw[hj];simpa using ew) fin hs
 ·have hj:(i+(its.toArray.size:Int)).toNat=j:=by
   rw[IJ (by omega) h4]at h1;rw[BB,<-hl];exact C5 h1
  exact He (x:=w) pl.isList.typeIs GD.lookup
   (wpAny_getItem_list_neg (Q:=fun r s'=>r=w/\EP X pins σ Q r s') pl.isList (by omega) (by rw[BB]<;>omega) (by omega) (by rw[hj];simpa using ew) ⟨rfl,fin⟩) hs
theorem xv:yz X (cy X.K):=by
 intro value slice pins s σ H x y v u Q I rx ry h hs;obtain⟨p,xs,i,z,rfl,rfl,hq,he,q⟩:=h;cases rx;obtain⟨t,rfl⟩:=ry;obtain⟨its,r,pl,hz⟩:=I.tuple hq;obtain⟨j,h1,h2,h3,h4,h5⟩:=lg he;obtain⟨w,ew,rw'⟩:=r.get h2;have hl:=r.length;have hn:=je;have fin:EP X pins σ Q w s:=⟨z,H,I,rw',q⟩
 exact He (x:=w) pl.typeIs slot_tuple_getitem.lookup
  (getItem_tuple (j:=j) (Q:=fun r s'=>r=w/\EP X pins σ Q r s') pl (by omega) (by omega) (by rw[BB,<-hl];exact h1) (by simpa using ew) ⟨rfl,fin⟩) hs
theorem bS:yz X cJ:=by
 intro value slice pins s σ H x y v u Q I rx ry h hs;obtain⟨z,i,c,rfl,rfl,hz,he,q⟩:=h;obtain⟨t,rfl⟩:=rx;obtain⟨t',rfl⟩:=ry;obtain⟨j,h1,h2,h3,h4,h5⟩:=lg he;have hl:z.cps.toList.length=z.length:=by simp[L8]
 rw[hl]at h1 h4 h5;have hn:=je;exact KI (JC s z t) slot_str_getitem.lookup (getItem_str (c:=c) (by
  have e1:decide (i< -(2^63:Int))=false:=decide_eq_false (by omega);have e2:decide (i≥2^63)=false:=decide_eq_false (by omega);rw[e1,e2,Bool.or_false]) (by rw[h1];simpa using h2) ⟨.str ⟨#[c]⟩,H,I.tok _,⟨_,rfl⟩,q⟩) hs
theorem nV(its:List Bs)(n j:Nat)(u:Bs):DA (·.setIfInBounds j u) {cls:=.type "list",data:=.seq its.toArray n}={cls:=.type "list",data:=.seq (its.set j u).toArray n}:=by
 simp[DA]
theorem Inv.lst{pins:List (Addr×Obj)}{σ:St}{H:Hp}{s:Bu}{p:Addr}{xs:List V}(I:Inv X pins σ H s)(h:H p=some (.lst xs)):
  ∃(its:List Bs)(n:Nat),Vals xs its/\s.heap.get? p=some {cls:=.type "list",data:=.seq its.toArray n}/\xs.length<=sizeLine:=by
 obtain⟨z,its,n,r,e⟩:=I.hok p _ h;exact⟨its,n,r,e,z⟩
theorem Inv.lstUpd{pins:List (Addr×Obj)}{σ:St}{H:Hp}{s:Bu}{p:Addr}{xs ys:List V}{its its':List Bs}{n n':Nat}{f:Obj->Obj}(I:Inv X pins σ H s)(h:H p=some (.lst xs))
  (ho:s.heap.get? p=some {cls:=.type "list",data:=.seq its.toArray n}) (hf:f {cls:=.type "list",data:=.seq its.toArray n}={cls:=.type "list",data:=.seq its'.toArray n'}) (r:Vals ys its') (hz:ys.length<=sizeLine) (t:Nat):
  Inv X pins σ (cN H p<|.lst ys) {s with heap:=s.heap.update p f,toks:=t}:=by
 have e:(s.heap.update p f).get? p=some {cls:=.type "list",data:=.seq its'.toArray n'}:=by
  rw[Dj f ho (by rw[hf]<;>rfl),hf]
 refine I.write (x:=p) (e:=p) (by rw[h];trivial) (.inl rfl) (fun b u hb q=>(Em _ _<|DZ hb).trans q) ⟨_,e⟩ ?_;exact⟨hz,its',n',r,e⟩
def rS:V->V->V->Hp->(Hp->Prop)->Prop:=fun o i v H Q=>∃p xs k j,o=.ref p/\i=.int k/\H p=some (.lst xs)/\ixN xs.length k=some j/\Q (cN H p<|.lst<|xs.set j v)
theorem jf:yO X rS:=by
 intro pins s σ H o i v ov iv u Q I ro ri rv h;obtain⟨p,xs,k,j,rfl,rfl,hp,hj,q⟩:=h;cases ro;obtain⟨t,rfl⟩:=ri;obtain⟨its,n,r,ho,hz⟩:=I.lst hp;obtain⟨h1,h2,h3,h4⟩:=ixN_seq hj;have hl:=r.length;have hn:=je;have I':Inv X pins σ (cN H p<|.lst<|xs.set j v) {s with heap:=s.heap.update p (DA (·.setIfInBounds j u))}:=
  I.lstUpd hp ho (nV its n j u) (r.set rv j) (by rw[Dy];exact hz) s.toks
 by_cases h0:0<=k
 ·have hk:k.toNat=j:=by
   rw[Jj h0 h4]at h1;exact C5 h1
  exact PySem.W.ki_setAt ho h0 (by omega) (by rw[BB,<-hl];exact h4) (by rw[hk];exact⟨_,I',q⟩)
 ·have hk:(k+(its.toArray.size:Int)).toNat=j:=by
   rw[IJ (by omega) h3]at h1;rw[BB,<-hl];exact C5 h1
  exact PySem.W.ki_setBack ho (by omega) (by rw[BB,<-hl];exact h3) (by omega) (by rw[hk];exact⟨_,I',q⟩)
theorem lh(lo hi:Option Int)(n:Nat):(sliceBounds lo hi none n).1=((HT.sIx n 0 lo:Nat):Int)/\(sliceBounds lo hi none n).2.1=((HT.sIx n n hi:Nat):Int)/\(sliceBounds lo hi none n).2.2=1:=by
 refine⟨?_,?_,rfl⟩
 ·cases lo with
  |none=>simp[sliceBounds,HT.sIx]
  |some i=>
   simp only[sliceBounds,HT.sIx,GW,show(1:Int)>0 by decide,if_true];by_cases h:i<0;·simp only[h,if_true]<;>omega
   ·simp only[h,if_false]<;>omega
 ·cases hi with
  |none=>simp[sliceBounds,HT.sIx]
  |some i=>
   simp only[sliceBounds,HT.sIx,GW,show(1:Int)>0 by decide,if_true];by_cases h:i<0;·simp only[h,if_true]<;>omega
   ·simp only[h,if_false]<;>omega
theorem jU(its:List Bs)(lo hi:Option Int):slicePick its.toArray lo hi none=((its.drop<|HT.sIx its.length 0 lo).take (HT.sIx its.length its.length hi-HT.sIx its.length 0 lo)).toArray:=by
 obtain⟨h1,h2,h3⟩:=lh lo hi its.toArray.size;unfold slicePick;rw[h1,h2,h3];simp only[HL,pick_run,BB]<;>rfl
def cz(K:Br):V->Option Int->Option Int->Hp->VK->Prop:=fun x lo hi H Q=>∃a xs,x=.ref a/\SqL K H a xs/\∀p,H p=none->Q (.ref p) (cN H p<|.lst<|nU xs lo hi)
theorem vj:zH X (cz X.K):=by
 intro pins s σ H x v vl vu lo hi sl Q I rx hs pl pu h;obtain⟨a,xs,rfl,hx,q⟩:=h;cases rx;obtain⟨its,r,ht,hz⟩:=I.list hx;have hlen:=r.length;refine⟨"list",_,GD.lookup,ht.isList.typeIs,?_⟩;refine GN ht.isList hs pl pu .none (by simp) ?_ (by rw[BB]<;>omega);rw[jU,<-hlen];refine⟨.ref s.heap.objs.size,_,I.laid (t':=s.toks) (o:=.lst<|nU xs lo hi) (fun b ob q=>Bp _ q) (BD _) ?_,rfl,q _<|I.hok.fresh<|BD _⟩;exact⟨Dt (mD xs lo hi) hz,_,0,(r.drop<|HT.sIx xs.length 0 lo).take (HT.sIx xs.length xs.length hi-HT.sIx xs.length 0 lo),By _ rfl⟩
def flatV:V->Bool
 | .non=>true
 | .bl _=>true
 | .int _=>true
 | .str _=>true
 |_=>false
def eqV:V->V->Bool
 | .non,.non=>true
 | .bl a,.bl b=>a==b
 | .bl a,.int b=>(if a then 1 else 0)==b
 | .int a,.bl b=>a==(if b then 1 else 0)
 | .int a,.int b=>a==b
 | .str a,.str b=>a==b
 |_,_=>false
theorem xw{A:Ck}{s:Bu}{y x:V}{u v:Bs}(ry:RelV y u)(rx:RelV x v)(fy:flatV y=true)(fx:flatV x=true):Ip A s u v (eqV y x):=by
 cases y with
 |non=>
  cases ry;cases x with
  |non=>cases rx;exact Jo _
  |bl b=>cases rx;exact KJ b
  |int b=>obtain⟨t,rfl⟩:=rx;exact KY b t
  |str b=>obtain⟨t,rfl⟩:=rx;exact KZ b t
  |_=>exact absurd (show false=true from fx) BF
 |bl a=>
  cases ry;cases x with
  |non=>cases rx;exact KL a
  |bl b=>cases rx;exact KN a b
  |int b=>obtain⟨t,rfl⟩:=rx;exact L0 a b t
  |str b=>obtain⟨t,rfl⟩:=rx;exact L1 a b t
  |_=>exact absurd (show false=true from fx) BF
 |int a=>
  obtain⟨t',rfl⟩:=ry;cases x with
  |non=>cases rx;exact L3 a t'
  |bl b=>cases rx;exact L4 a t' b
  |int b=>obtain⟨t,rfl⟩:=rx;exact Gj a t' b t
  |str b=>obtain⟨t,rfl⟩:=rx;exact Ij a t' b t
  |_=>exact absurd (show false=true from fx) BF
 |str a=>
  obtain⟨t',rfl⟩:=ry;cases x with
  |non=>cases rx;exact L5 a t'
  |bl b=>cases rx;exact L6 a t' b
  |int b=>obtain⟨t,rfl⟩:=rx;exact Ik a t' b t
  |str b=>obtain⟨t,rfl⟩:=rx;exact L9 a t' b t
  |_=>exact absurd (show false=true from fx) BF
 |_=>exact absurd (show false=true from fy) BF
def vm(x:V)(u:Bs):Bool:=match u with
 | .none=>eqV .non x
 | .bool b=>eqV (.bl b) x
 | .int i _=>eqV (.int i) x
 | .str z _=>eqV (.str z) x
 |_=>false
theorem rV{x y:V}{u:Bs}(r:RelV y u)(f:flatV y=true):vm x u=eqV y x:=by
 cases y with
 |non=>cases r;rfl
 |bl b=>cases r;rfl
 |int i=>obtain⟨t,rfl⟩:=r;rfl
 |str z=>obtain⟨t,rfl⟩:=r;rfl
 |_=>exact absurd (show false=true from f) BF
theorem lj{x:V}:∀{xs:List V}{us:List Bs},Vals xs us->xs.all flatV=true->us.any (vm x)=xs.any fun y=>eqV y x
 |_,_,.nil,_=>rfl
 |y::xs,u::us, .cons r t,f=>by
  rw[GO,Ed]at f;rw[F3,F3,rV r f.1,lj t f.2]
theorem jg{A:Ck}{s:Bu}{x:V}{v:Bs}(rx:RelV x v)(fx:flatV x=true):∀{xs:List V}{us:List Bs},Vals xs us->xs.all flatV=true->∀u∈us,Ip A s u v (vm x u)
 |_,_,.nil,_=>fun u hu=>by cases hu
 |y::xs,u::us, .cons r t,f=>fun u' hu=>by
  rw[GO,Ed]at f;rcases BM.mp hu with rfl|hu
  ·rw[rV r f.1];exact xw r rx f.1 fx
  ·exact jg rx fx t f.2 u' hu
def zI(x:V)(xs:List V):Bool:=xs.any fun y=>eqV y x
def fJ(K:Br)(neg:Bool):R2:=fun x y H Q=>∃p xs,y=.ref p/\(SqL K H p xs\/SqT K H p xs)/\flatV x=true/\xs.all flatV=true/\Q (.bl (if neg then !zI x xs else zI x xs)) H
theorem ll:OpR X (compareOp .NotIn) (fJ X.K true):=by
 intro pins s σ H x y v u Q I rx ry h;obtain⟨p,xs,rfl,hq,fx,fs,q⟩:=h;cases ry;rcases hq with hq|hq
 ·obtain⟨its,r,pl,hz⟩:=I.list hq;refine Iq (vm x) pl.isList (fun w hw=>jg rx fx r fs w (by simpa using hw)) ⟨.bl _,H,I,rfl,?_⟩;rw[show its.toArray.any (vm x)=its.any (vm x) by simp,lj r fs];exact q
 ·obtain⟨its,r,pl,hz⟩:=I.tuple hq;refine SeqAt.notIn_tupleAt (vm x) pl (fun w hw=>jg rx fx r fs w (by simpa using hw)) ⟨.bl _,H,I,rfl,?_⟩;rw[show its.toArray.any (vm x)=its.any (vm x) by simp,lj r fs];exact q
theorem lq:dh X (.type "list") (fun xs H Q=>∃p ys,xs=[.ref p]/\(SqL X.K H p ys\/SqT X.K H p ys)/\∀l,H l=none->Q (.ref l) (cN H l<|.lst ys)):=by
 intro pins s σ H xs us Q I r h;obtain⟨p,ys,rfl,hq,q⟩:=h;obtain⟨u,rfl,rx⟩:=eN r;cases rx;have fin:∀(its:List Bs),Vals ys its->ys.length<=sizeLine->∀(h':Heap)(c':Nat),(∀b o',s.heap.get? b=some o'->h'.get? b=some o')->
   h'.get? s.heap.objs.size=some {cls:=.type "list",dict:=none,data:=.seq its.toArray c',slots:= #[]}->EP X pins σ Q (.ref s.heap.objs.size) {s with heap:=h'}:=fun its r' hz h' c' kp e=>
  ⟨.ref s.heap.objs.size,_,I.laid (t':=s.toks) kp (BD _) (show ObjOk X.prog X.w _ h' _ (.lst ys)from⟨hz,its,c',r',e⟩),rfl,q _<|I.hok.fresh<|BD _⟩
 rcases hq with hq|hq
 ·obtain⟨its,r',pl,hz⟩:=I.list hq;have hlen:=r'.length;obtain⟨o,ho,hc,n,hd⟩:=pl.isList;exact Ki p (.inl rfl) ho hc hd (fun h' c' kp e=>fin its r' hz h' c' kp e) (by simp only[BB]<;>omega)
 ·obtain⟨its,r',pl,hz⟩:=I.tuple hq;have hlen:=r'.length;obtain⟨o,ho,hc,n,hd⟩:=pl;exact Ki p (.inr rfl) ho hc hd (fun h' c' kp e=>fin its r' hz h' c' kp e) (by simp only[BB]<;>omega)
theorem jV:dh X (.type "tuple") (fun xs H Q=>∃p ys,xs=[.ref p]/\((SqL X.K H p ys/\∀l,H l=none->Q (.ref l) (cN H l<|.tup ys))\/(SqT X.K H p ys/\Q (.ref p) H))):=by
 intro pins s σ H xs us Q I r h;obtain⟨p,ys,rfl,h⟩:=h;obtain⟨u,rfl,rx⟩:=eN r;cases rx;rcases h with⟨hq,q⟩|⟨hq,q⟩
 ·obtain⟨its,r',pl,hz⟩:=I.list hq;have hlen:=r'.length;refine call_tuple_list pl.isList (fun h' kp=>?_) (by simp only[BB]<;>omega);have I1:Inv X pins σ H {s with heap:=h'}:=I.kept (t':=s.toks) kp;have I2:Inv X pins σ (cN H h'.objs.size<|.tup ys) {s with heap:=h'.push {cls:=.type "tuple",data:=.seq its.toArray}}:=
   I1.laid (t':=s.toks) (fun b o e=>Bp _ e) (BD _) (show ObjOk X.prog X.w _ _ _ (.tup ys)from⟨hz,its,r',IsTupD.new _ _⟩)
  exact⟨.ref h'.objs.size,_,I2,rfl,q _<|I1.hok.fresh<|BD _⟩
 ·obtain⟨its,r',pl,hz⟩:=I.tuple hq;exact call_tuple_same pl ⟨.ref p,H,I,rfl,q⟩
def Ap(K:Br)(T:String)(x:V)(H:Hp):Prop:=match x with
 | .str _=>T="str"
 | .int _=>T="int"
 | .ref p=>(T="list" /\∃xs,SqL K H p xs)\/(T="tuple" /\((∃o,K.lookup p=some o/\o.cls=.type "tuple" /\o.dict=none)\/∃xs,SqT K H p xs))\/
   (T="dict"/\((∃kvs,H p=some (.dK kvs))\/∃kvs,H p=some (.dT kvs)))\/(T="set"/\∃S n,H p=some (.set S n))
 |_=>False
theorem xx{pins:List (Addr×Obj)}{σ:St}{H:Hp}{s:Bu}{T:String}{x:V}{v:Bs}(I:Inv X pins σ H s)(r:RelV x v)(ty:Ap X.K T x H):
  s.TypeIs v T/\∀a,v=.ref a->∃ob,s.heap.get? a=some ob/\ob.dict=none:=by
 cases x with
 |str z=>
  obtain⟨t,rfl⟩:=r;cases (show T="str" from ty);exact⟨JC s z t,fun _ e=>nomatch e⟩
 |int i=>
  obtain⟨t,rfl⟩:=r;cases (show T="int" from ty);exact⟨typeIs_int s i t,fun _ e=>nomatch e⟩
 |ref p=>
  cases r;rcases ty with⟨rfl,xs,hq⟩|⟨rfl,⟨o,hk,hc,hd⟩|⟨xs,hq⟩⟩|⟨rfl,hk⟩|⟨rfl,S,n,hk⟩
  ·obtain⟨its,_,pl,_⟩:=I.list hq;refine⟨pl.isList.typeIs,fun a e=>?_⟩;cases e;obtain⟨o,n,e,c,hd,_⟩:=pl;exact⟨o,e,hd⟩
  ·refine⟨⟨o,I.kIn p o hk,hc⟩,fun a e=>?_⟩;cases e;exact⟨o,I.kIn _ o hk,hd⟩
  ·obtain⟨o,e1,c1,d1⟩:∃o,s.heap.get? p=some o/\o.cls=.type "tuple"/\o.dict=none:=by
    rcases hq with hq|⟨o,its,n,hk,hc,_⟩
    ·obtain⟨_,_,_,o,e1,⟨c1,d1⟩,_⟩:=hq.ok I.hok;exact⟨o,e1,c1,d1⟩
    ·exact⟨o,I.kIn p o hk,hc.1,hc.2⟩
   refine⟨⟨o,e1,c1⟩,fun a e=>?_⟩;cases e;exact⟨o,e1,d1⟩
  ·have z:∃o,s.heap.get? p=some o/\o.ExactDict:=by
    rcases hk with⟨kvs,hk⟩|⟨kvs,hk⟩
    ·obtain⟨_,_,_,_,o,_,_,e,ex,_⟩:=I.hok p _ hk;exact⟨o,e,ex⟩
    ·obtain⟨_,_,_,_,o,_,_,e,ex,_⟩:=I.hok p _ hk;exact⟨o,e,ex⟩
   obtain⟨o,e,ex⟩:=z;refine⟨⟨o,e,ex.1⟩,fun a e2=>?_⟩;cases e2;exact⟨o,e,ex.2.1⟩
  ·obtain⟨o,_,_,_,e,ex,_⟩:=I.hok p _ hk;refine⟨⟨o,e,ex.1⟩,fun a e2=>?_⟩;cases e2;exact⟨o,e,ex.2.1⟩
 |_=>exact El ty
def eJ(K:Br)(T:String)(r:V->List V->Hp->VK->Prop)(to:TE)(t:TA):TE:=fun σ H Q=>to σ H fun x H1=>Ap K T x H1/\t σ H1 fun xs H2=>r x xs H2 Q
variable{o e:Expr}{es:List Expr}{to:TE}{t:TA}{name:Str}{apos cpos:Pos}{T id:String}{r:V->List V->Hp->VK->Prop}
theorem yU(pa:PlainAttrs T)(slot:Slot T name id)(hty:typeOf (.builtin id)=pure (.type "method_descriptor"))(hm:yT X id r)(ho:PE X o to)(ha:PA X (e::es) t)
  (hbase:attributeBase o name X.env (eval o X.env)=eval o X.env:=by rfl)
  (hfew:((backTo cpos<|starEach (e::es) X.env).all (fun x=> !x.1) && (backToKw cpos<|keywordEach [] X.env).all (fun x=>x.1.isSome)
   &&decide ((e::es).length+([]:List IK).length+(if([]:List IK).isEmpty then 0 else 1)<30))=true:=by rfl)
  (hline:(apos.endLine==cpos.line)=true:=by rfl) (hs:starEach (e::es) X.env=(false,eval e X.env)::starEach es X.env:=by rfl) (hplain:(backTo cpos<|starEach es X.env).any (·.1)=false:=by rfl):
  PE X (.Call (.Attribute o name apos) (e::es) [] cpos) (eJ X.K T r to t):=by
 intro pins s σ H Q I h;refine wpAny_Call_method_late hbase hfew hline rfl<|cm (ho pins s σ H _ I h) fun v s1 zz=>?_;obtain⟨x,H1,I1,r1,ty,q1⟩:=zz;obtain⟨h1,h2⟩:=xx I1 r1 ty;refine⟨T,id,pa,slot,hty,h1,h2,?_⟩;have hA:=ha cpos pins s1 σ H1 _ I1 q1;rw[hs]at hA ⊢;refine Calls.callWith_builtin (by show(false||(backTo cpos<|starEach es X.env).any (·.1))=false;rw[hplain]<;>rfl)<|Calls.evalArgs_plain ?_;refine cm hA fun us s2 zz=>?_;obtain⟨vs,H2,I2,r2,q2⟩:=zz;exact hm pins s2 σ H2 x vs v us Q I2 r1 r2 q2
end
def Aq(X:Cx)(id:String)(r:V->List V->Hp->VK->Prop):Prop:=
 ∀(pins:List (Addr×Obj))(s:Bu)(σ:St)(H:Hp)(x:V)(xs:List V)(v:Bs)(us:List Bs)(Q:VK),Inv X pins σ H s->RelV x v->Vals xs us->r x xs H Q->
  wpAny (model X.prog X.w) X.A (call (.builtin id) (v::us)) (EP X pins σ Q) X.xe s
theorem Vals.one:∀{x:V}{us:List Bs},Vals [x] us->∃u,us=[u]/\RelV x u
 |_,_,.cons r .nil=>⟨_,rfl,r⟩
theorem Vals.eraseIdx:∀{xs:List V}{us:List Bs}(i:Nat),Vals xs us->Vals (xs.eraseIdx i) (us.eraseIdx i)
 |_,_,_,.nil=>.nil
 |_,_,0,.cons _ t=>t
 |_,_,i+1,.cons r t=>.cons r<|Vals.eraseIdx i t
theorem kH{α:Type}:∀(l:List α)(i:Nat),(l.eraseIdx i).length<=l.length
 | [],_=>BD _
 |_::_,0=>GF _
 |_::r,i+1=>Nat.succ_le_succ<|kH r i
section
variable{X:Cx}{pins:List (Addr×Obj)}{σ:St}{H:Hp}{s:Bu}{l b:Addr}{xs ys zs:List V}
theorem Inv.lset{its its':List Bs}{n:Nat}{f:Array Bs->Array Bs}{t':Nat}(I:Inv X pins σ H s)(hH:H l=some (.lst xs))
  (e:s.heap.get? l=some {cls:=.type "list",data:=.seq its.toArray n}) (hf:f its.toArray=its'.toArray) (hv:Vals ys its') (hz:ys.length<=sizeLine):
  Inv X pins σ (cN H l<|.lst ys) {s with heap:=s.heap.update l<|DA f,toks:=t'}:=by
 have q:=PySem.IsL.update e f;rw[hf]at q;refine I.write (x:=l) (e:=l) (by rw[hH];exact trivial) (.inl rfl) (fun b' u hb hu=>(Em s.heap (DA f)<|DZ hb).trans hu) ⟨_,q⟩ ?_;exact⟨hz,its',_,hv,q⟩
theorem Inv.lnew{its:List Bs}{t':Nat}(I:Inv X pins σ H s)(hv:Vals ys its)(hz:ys.length<=sizeLine):
  Inv X pins σ (cN H s.heap.objs.size<|.lst ys) {s with heap:=s.heap.push {cls:=.type "list",data:=.seq its.toArray},toks:=t'}:=
 I.laid (fun _ _ q=>Bp _ q) (BD _) ⟨hz,its,0,hv,By _ rfl⟩
theorem Inv.fresh(I:Inv X pins σ H s):H s.heap.objs.size=none:=I.hok.fresh<|BD _
theorem Inv.lstM(I:Inv X pins σ H s)(hH:H l=some (.lst xs)):xs.length<=sizeLine/\∃(its:List Bs)(n:Nat),Vals xs its/\xs.length=its.length/\s.heap.get? l=some {cls:=.type "list",data:=.seq its.toArray n}:=by
 obtain⟨z,its,n,r,e⟩:=I.hok l _ hH;exact⟨z,its,n,r,r.length,e⟩
end
section
variable{X:Cx}
def aI:V->List V->Hp->VK->Prop:=fun x vs H Q=>∃l xs y,x=.ref l/\vs=[y]/\H l=some (.lst xs)/\xs.length<sizeLine/\Q .non (cN H l<|.lst<|xs++[y])
theorem qp:Aq X "list.append" aI:=by
 intro pins s σ H x vs v us Q I rx rv h;obtain⟨l,xs,y,rfl,rfl,hH,hz,q⟩:=h;cases rx;obtain⟨u,rfl,ru⟩:=rv.one;obtain⟨z,its,n,r,hl,e⟩:=I.lstM hH;refine JD Hx ⟨_,e,rfl⟩ F.entry_list_append (F.args_list_append_2 _ _) (PySem.list_append l its.toArray n u (by rw[BB];omega)) ⟨e,?_⟩;refine⟨.non,_,I.lset (its':=its++[u]) hH e (by simp) (r.append<|.cons ru .nil) ?_,rfl,q⟩;rw[CS,Ex];omega
def rW:V->List V->Hp->VK->Prop:=fun x vs H Q=>∃l xs i k y,x=.ref l/\vs=[.int i]/\H l=some (.lst xs)/\ -(2^63)<=i/\i<2^63/\seqIndex? i xs.length=some k/\xs[k]? =some y/\Q y (cN H l<|.lst<|xs.eraseIdx k)
theorem mE:Aq X "list.pop" rW:=by
 intro pins s σ H x vs v us Q I rx rv h;obtain⟨l,xs,i,k,y,rfl,rfl,hH,h1,h2,hk,hy,q⟩:=h;cases rx;obtain⟨u,rfl,ru⟩:=rv.one;obtain⟨t,rfl⟩:=ru;obtain⟨z,its,n,r,hl,e⟩:=I.lstM hH;obtain⟨w,hw,rw'⟩:=r.get hy;refine JD G7 ⟨_,e,rfl⟩ F.entry_list_pop (F.args_list_pop_2 _ _)
  (MeetsSeq.list_pop_at l its.toArray n i t k w (JE h1 h2) (by rw[BB,<-hl];exact hk) (by rw[<-Cf];exact hw) (by rw[BB];omega)) ⟨e,?_⟩
 refine⟨y,_,I.lset (its':=its.eraseIdx k) hH e ?_ (r.eraseIdx k) ?_,rw',q⟩
 ·show its.toArray.eraseIdxIfInBounds k=(its.eraseIdx k).toArray;rw[List.eraseIdxIfInBounds_toArray]
 ·have:=kH xs k;omega
def cK:R2:=fun x y H Q=>∃l b xs zs,x=.ref l/\y=.ref b/\H l=some (.lst xs)/\H b=some (.lst zs)/\xs.length+zs.length<=sizeLine/\∀p,H p=none->Q (.ref p) (cN H p<|.lst<|xs++zs)
theorem rX:OpR X (binaryOp .Add) cK:=by
 intro pins s σ H x y v u Q I rx ry h;obtain⟨l,b,xs,zs,rfl,rfl,hH,hB,hz,q⟩:=h;cases rx;cases ry;obtain⟨z,its,n,r,hl,e⟩:=I.lstM hH;obtain⟨z2,its2,n2,r2,hl2,e2⟩:=I.lstM hB;refine PySem.P.add_list e e2 ?_ (by rw[BB,BB];omega);have ea:its.toArray++its2.toArray=(its++its2).toArray:=by simp
 rw[ea];exact⟨.ref _,_,I.lnew (t':=s.toks) (r.append r2) (by rw[CS];omega),rfl,q _ I.fresh⟩
end
section
variable{κ:Type}[DecidableEq κ]
def jW(kvs:List (κ×V))(k:κ):Option V:=(kvs.find? fun kv=>decide<|kv.1=k).map (·.2)
def qq(kvs:List (κ×V))(k:κ)(v:V):List (κ×V):=
 if(kvs.any fun kv=>decide<|kv.1=k)=true then kvs.map (fun kv=>if kv.1=k then(kv.1,v)else kv)else kvs++[(k,v)]
theorem gV{p:κ×V}{r:List (κ×V)}{k:κ}(e:p.1=k):jW (p::r) k=some p.2:=by simp[jW,Eu,e]
theorem gW{p:κ×V}{r:List (κ×V)}{k:κ}(e:¬p.1=k):jW (p::r) k=jW r k:=by simp[jW,Eu,e]
theorem mF(k:κ):∀kvs:List (κ×V),(kvs.any fun kv=>decide<|kv.1=k)=(jW kvs k).isSome
 | []=>rfl
 |p::r=>by
  rw[F3];by_cases e:p.1=k;·simp only[gV e,decide_eq_true e,Bool.true_or,Ir]
  ·rw[gW e,decide_eq_false e,Bool.false_or];exact mF k r
theorem RelO.isSome_eq{o:Option V}{u:Option Bs}(r:RelO o u):o.isSome=u.isSome:=by
 cases o with
 |none=>cases u with
  |none=>rfl
  |some _=>exact(show False from r).elim
 |some _=>cases u with
  |none=>exact(show False from r).elim
  |some _=>rfl
theorem KV.val{kvs:List (κ×V)}{vs:List (κ×Bs)}(r:KV kvs vs)(k:κ):RelO (jW kvs k) (valueAt vs k):=by
 unfold KV at r
 induction r with
 |nil=>exact EJ
 | @cons p q ps qs h t ih=>
  obtain⟨h1,h2⟩:=h;by_cases e:p.1=k
  ·have e':q.1=k:=h1.symm.trans e;have b:valueAt (q::qs) k=some q.2:=by simp[valueAt,Eu,e']
   rw[gV e,b];exact h2
  ·have e':¬q.1=k:=fun z=>e<|h1.trans z;have b:valueAt (q::qs) k=valueAt qs k:=by simp[valueAt,Eu,e']
   rw[gW e,b];exact ih
end
theorem wZ{P:BK}{w:BQ}{k:Key}{u:Bs}(r:RelV (kV k) u):(mixKind P w).is k u=true:=by
 cases k with
 |inl i=>obtain⟨t,e⟩:=(show ∃t,u=ES i t from r);subst e;exact mn P w i t
 |inr x=>obtain⟨t,e⟩:=(show ∃t,u=J3 x t from r);subst e;exact mq P w x t
theorem kI{P:BK}{w:BQ}:∀{ks:List Key}{us:List Bs},Vals (ks.map kV) us->ItemsAre (mixKind P w) ks us
 | [],_,r=>by rw[Fp]at r;cases r;exact .nil
 |k::ks,_,r=>by
  rw[CP]at r;cases r with
  |cons h t=>exact .cons (wZ h)<|kI t
section
variable{X:Cx}{pins:List (Addr×Obj)}{σ:St}{H:Hp}{s:Bu}{a:Addr}{y v:V}{u r:Bs}{o:Option V}{A:Ck}{E:Bs->Bu->Prop}
theorem Inv.big(I:Inv X pins σ H s):sysModules<s.heap.objs.size:=by
 have h:mainGlobals<s.heap.objs.size:=(I.mod.glob.keeps I.bk).lt;exact Hf (by decide) h
theorem vn{h':Heap}{t':Nat}{ob:HO}(I:Inv X pins σ H s)(mu:yL (H a))(hs:BO a s.heap h')(he:∃q,h'.get? a=some q)(new:ObjOk X.prog X.w (cN H a ob) h' a ob):
  Inv X pins σ (cN H a ob) {s with heap:=h',toks:=t'}:=
 I.write (x:=a) (e:=a) mu (.inl rfl) (fun b q hb z=>(hs.2 b hb).trans z) he new
end
def xy(i:Expr):Prop:=∀ov iv,subscripted i false ov iv=operate [ov,iv] (getItem ov iv)
theorem vo{prog:BK}{w:BQ}{A:Ck}{E:Bs->Bu->Prop}{s:Bu}{env:Env}{value slice:Expr}{pos:Pos}{T id:String}{Q:Bs->Bu->Prop}
  (hl:typeLookup (.type T) "__getitem__"=pure (some<|.builtin id)) (hs:xy slice)
  (h:wpAny (model prog w) A (eval value env) (fun o s₁=>wpAny (model prog w) A (eval slice env) (fun i s₂=>s₂.TypeIs o T/\wpAny (model prog w) A (getItem o i) Q E s₂) E s₁) E s):
  wpAny (model prog w) A (eval (.Subscript value slice pos) env) Q E s:=by
 refine Im<|CI h (fun o s₁ h₁=>CI h₁ (fun i s₂ h₂=>?_) fun _ _ x=>x) fun _ _ x=>x;obtain⟨hT,h₂⟩:=h₂;unfold subscriptTail;refine Bl ?_;rw[getitemInPython_of_ne hT.not_modules];refine Bl<|FV hT hl ?_;have fin:wpAny (model prog w) A (subscripted slice false o i) (fun r s₃=>wpAny (model prog w) A (letTemporaryGo value o r>>=fun _=>pure r) Q E s₃) E s₂:=by
  rw[hs o i];exact wpAny_operating<|CI h₂ (fun r s₃ h₃=>Bl<|wpAny_letTemporaryGo<|Bq h₃) fun _ _ x=>x
 first
  |exact Bq<|Bl fin
  |exact Bl<|Bq<|Bl fin
  |exact Bl fin
end L2
namespace Att
open PySem PySem.W PySem.Calls PyProof.Rows
theorem iW{P:La}{h:Heap}:∀(ns:List Int)(vs:List Bs),WellAll P h vs (ns.map Ll)->II vs ns:=by
 intro ns
 induction ns with
 |nil=>
  intro vs w;rw[Fp]at w;cases w;exact .nil
 |cons n ns ih=>
  intro vs w;rw[CP]at w;cases w with
  |cons a b=>
   cases a;exact .cons _ _<|ih _ b
theorem qr{l:FK}{n:Nat}(hn:l.most=some n){P:La}{h:Heap}{args:List WData}{vals:List Bs}
  (hpre:l.row.toRowW.claim.pre args=true) (hwl:WellAll P h vals args):
  ∃a vs ns,vals=[CL a]/\args=[WData.list (ns.map Ll)]/\h.get? a=some {cls:=.type "list",data:=.seq vs.toArray}/\II vs ns/\ns.length<=n:=by
 have hsh:WShape.hasAll [] args [.list .int]=true:=(pre_splitW hpre).1;have hc:l.pre.holds [] {args:=args}=true:=(pre_splitW hpre).2;obtain⟨d,r,rfl,h1,h2⟩:=hasAllW_cons hsh;obtain rfl:=hasAllW_nil h2;obtain⟨xs,rfl,h3⟩:=hasW_list h1;obtain⟨ns,rfl⟩:=items_int h3;have hlen:ns.length<=n:=by
  unfold OpenLaw.pre at hc;have h4:(WTm.not<|.lt (.lit<|.int (n:Int))<|.len<|.arg 0).holds [] {args:=[.list (ns.map .int)]}=true:=by
   have h4:=(holds_andW hc).1;rw[hn]at h4;exact h4
  have h5:=condW_of h4<|w_not<|w_lt w_lit<|w_len_list<|w_arg rfl;rw[BJ]at h5;refine Nat.le_of_not_lt fun q=>?_;have q':(n:Int)<((ns.length:Nat):Int):=by omega
  first
   |(rw[decide_eq_true q']at h5;exact absurd h5 (by decide))
   |(simp at h5;omega)
 cases hwl with
 |cons w1 w2=>
  cases w2;cases w1 with
  |list ho hall=>exact⟨_,_,ns,rfl,rfl,ho,iW ns _ hall,hlen⟩
theorem qt(l:FK)(args:List WData):l.row.toRowW.claim.post args (.bool true) args=true:=
 postW_of (r:=l.row.toRowW) (X:=(true==true))
  (show Lb [] (.bool true) .bool=true by first|rfl|decide|simp[Lb,WShape.arms,WShape.armsAll])
  (show(WTm.eq .res<|.lit<|.bool true).value [] {args:=args,res:=some<|.bool true,after:=args}=some (.bool<|true==true)from w_eq_bool (w_res rfl) w_lit) rfl
theorem attach_call{l:FK}{n:Nat}{q:BK}{loose:List Str}{XP:(Str->Option Bs)->Heap->Prop}{YP:BQ->Heap->Prop}{d:DefRec}
  (hn:l.most=some n) (hdf:d.params.defaults=[])
  (call:∀(w:BQ) (s₀ s₁:Bu) (mg mb:Str->Option Bs) (fa:Addr) (o:Obj) (pm cd doc:Bs) (a:Addr) (vs:List Bs) (ns:List Int),
   Ground q loose [] XP w s₀ mg mb s₁.heap->YP w s₁.heap->
   s₁.heap.get? fa=some o->o.data=.func (docDef d.name d.params d.body d.scope pm cd doc)->s₁.heap.CodeRec cd d.name->mg d.name=some (.ref fa)->
   s₁.heap.get? a=some {cls:=.type "list",data:=.seq vs.toArray}->II vs ns->ns.length<=n->s₁.gens= #[]->
   codeAny (model l.prog w) callerA (.call (.ref fa) ⟨[.ref a],[]⟩) (fun r s'=>r=.ok (.ret (.bool true))/\OldK s₁.heap s'.heap/\s'.os=s₁.os/\GC s'.gens) s₁):
  Jy q loose XP YP l.row.toRowW d [] (fun f vs=>JF f vs):=by
 intro w s₀ s₁ mg mb G Y fa o pm cd doc dV kV ho hd hcd hD hmg hg args vals as hpre hlay hrd hwl hlo;obtain rfl:dV=.none:=Dflts.none hD hdf;obtain rfl:kV=.none:=Dflts.noKw hD;obtain⟨a,vs,ns,rfl,rfl,hobj,hints,hlen⟩:=qr hn hpre hwl;refine enter_call<|EU (call w s₀ s₁ mg mb fa o pm cd doc a vs ns G Y ho (fd_plain hd) hcd hmg hobj hints hlen hg) fun r s' hq=>?_;obtain⟨rfl,h2,h3,h4⟩:=hq;exact⟨.inl ⟨.bool true,.bool true,[],rfl,fun _=>rfl,.bool true,qt l _,fun _=>⟨EC,fun _ hm=>(nomatch hm)⟩⟩,h2,h3,h4⟩
end Att
namespace L2
open PySem PySem.Spec PyProof.Rows
theorem iy:∀{vs:List Bs}{ns:List Int},II vs ns->Vals (ns.map ER) vs
 |_,_,.nil=>.nil
 |_,_,.cons n t h=>.cons ⟨t,rfl⟩<|iy h
def xA(H:Hp):Prop:=∀b,H b=none\/∃o xs,H b=some (.frz o<|.lst xs)
theorem rY{P:BK}{w:BQ}{K:Br}{mg mb:Str->Option Bs}{CX:CXT}{k:Nat}{fa a:Addr}{fd:BW}{x:Str}{sp:Sp}{s₁:Bu}{vs:List Bs}{ns:List Int}
  (KX:K.In s₁.heap) (hns:s₁.heap.Ns mainGlobals mg) (hb:s₁.heap.Ns builtinsNs mb) (hbb:∀x:Str,x≠"__name__"->mb x=bootBuiltins x) (hlim:s₁.heap.NoLimit) (hg:s₁.gens= #[])
  (ha:s₁.heap.get? a=some {cls:=.type "list",data:=.seq vs.toArray}) (hi:II vs ns) (hl:ns.length<=sizeLine) (hr:Room k callerA)
  (F:∀base:Heap,K.In base->base.Ns mainGlobals mg->FnOk P w K mg base CX k fa fd [x] sp) (hbind:∀(s:Bu)(u:Bs),IH s fd ⟨[u],[]⟩ [(x,u)])
  (hsp:∀H:Hp,xA H->SqL K H a (ns.map ER)->sp [.ref a] H (fun v _=>v=.bl true) fun _ _ _=>False)
  (hCX:∀H e s',CX [] H s₁ (fun _ _ _=>False) e s'->False):
  codeAny (model P w) callerA (.call (.ref fa) ⟨[.ref a],[]⟩) (fun r s'=>r=.ok (.ret<|.bool true)/\OldK s₁.heap s'.heap/\s'.os=s₁.os/\GC s'.gens) s₁:=by
 have rv:=iy hi;have lenV:=hi.length;have core:∀H:Hp,xA H->SqL K H a (ns.map ER)->HOk P w H s₁.heap->(∀b,H b≠none->b=a)->(H a≠none->K.lookup a=none)->
   codeAny (model P w) callerA (.call (.ref fa) ⟨[.ref a],[]⟩) (fun r s'=>r=.ok (.ret<|.bool true)/\OldK s₁.heap s'.heap/\s'.os=s₁.os/\GC s'.gens) s₁:=by
  intro H hO hS hok hA hK;have base_of:∀{b:Addr}{o:Obj},s₁.heap.get? b=some o->H b=none->(l8 s₁.heap H).get? b=some o:=fun e n=>rJ e n;have noA:∀{b:Addr}{o:Obj}{es:Array Fi}{ep:Nat},s₁.heap.get? b=some o->o.data=.dict es ep->H b=none:=fun{b o es ep}e d=>by
   cases q:H b with
   |none=>rfl
   |some u=>
    have e':b=a:=hA b (by rw[q];simp);subst e';rw[ha]at e;cases e;have d':HM vs.toArray _=Data.dict es ep:=d;cases d'
  have nsK:∀{b:Addr}{m:Str->Option Bs},s₁.heap.Ns b m->(l8 s₁.heap H).Ns b m:=fun{b m}⟨o,es,ep,e,d,r⟩=>⟨o,es,ep,base_of e<|noA e d,d,r⟩
  have hKb:K.In (l8 s₁.heap H):=fun b o e=>base_of (KX b o e) (by
   cases q:H b with
   |none=>rfl
   |some u=>
    have e':b=a:=hA b (by rw[q];simp);subst e';rw[hK (by rw[q];simp)]at e;cases e)
  have hM:Mod K mg (l8 s₁.heap H):=⟨hKb,nsK hns,⟨mb,nsK hb,hbb⟩,let ⟨mc,h1,h2⟩:=hlim;⟨mc,nsK h1,h2⟩⟩
  have e0:Env0 P w K mg (l8 s₁.heap H) callerA [] s₁ H:=⟨rfl,hM,fun b o e=>vc e,Nat.le_of_eq<|qg _ _,trivial,fun b hb=>absurd (show b∈([]:List Addr)from hb) (by simp),hok,.of_eq hg⟩
  refine EU ((F _ hKb<|nsK hns).run callerA [] s₁ H ⟨[.ref a],[]⟩ [.ref a] [.ref a] _ _ hr e0 (hbind s₁<|.ref a) (.cons rfl .nil) (hsp H hO hS)) fun r s' h=>?_;cases r with
  |error e=>exact(hCX H e s' h).elim
  |ok fl=>
   cases fl with
   |next=>exact El h
   |brk=>exact El h
   |cont=>exact El h
   |ret u=>
    obtain⟨v,H',os,bare,un,hok',r',q⟩:=h;have q':v=.bl true:=q;subst q';obtain rfl:u=Il true:=r';refine⟨rfl,OldK.of_keep fun b o e=>?_,os,bare⟩;cases q:H b with
    |none=>exact un.keep b o e q (by intro z;exact absurd (show b∈([]:List Addr)from z) (by simp)) (by simp)
    |some u=>
     rcases hO b with z|⟨ob,xs,z⟩
     ·rw[q]at z;cases z
     ·have z2:=un.frzs b ob _ z;obtain⟨e1,_⟩:=hok b _ z;obtain⟨e2,_⟩:=hok' b _ z2;rw[e]at e1;cases e1;exact e2
 cases hk:K.lookup a with
 |some o=>
  have e:=KX a o hk;rw[ha]at e;cases e;refine core (fun _=>none) (fun _=>.inl rfl) (.inr ⟨_,vs.toArray,_,hk,rfl,rfl,rfl,by rw[BB,lenV];exact hl,by simpa using rv⟩) (fun b u z=>by have z':(none:Option HO)=some u:=z;cases z') (fun b z=>absurd rfl z) fun z=>absurd rfl z
 |none=>
  refine core (fun b=>if b=a then some (.frz {cls:=.type "list",data:=.seq vs.toArray}<|.lst<|ns.map ER)else none) (fun b=>?_) (.inl<|.inr ⟨{cls:=.type "list",data:=.seq vs.toArray},if_pos rfl⟩) (fun b u z=>?_) (fun b z=>?_) fun _=>hk
  ·by_cases hb:b=a;·exact .inr ⟨_,_,if_pos hb⟩
   ·exact .inl<|if_neg hb
  ·by_cases hb:b=a
   ·have z':=(if_pos hb).symm.trans z;cases z';subst hb;exact⟨ha,by rw[BJ];exact hl,vs,_,rv,ha⟩
   ·have z':=(if_neg hb).symm.trans z;cases z'
  ·by_cases hb:b=a;·exact hb
   ·exact absurd (if_neg hb) z
theorem walk_of{l:FK}{n k:Nat}{q:BK}{loose:List Str}{XP:(Str->Option Bs)->Heap->Prop}{YP:BQ->Heap->Prop}{d:DefRec}{K:La->Br}{CX:BQ->CXT}{sp:BQ->Sp}{x:Str}
  (hn:l.most=some n) (hn2:n<=sizeLine) (hdf:d.params.defaults=[]) (hr:Room k callerA)
  (hY:∀(w:BQ)(h:Heap),YP w h->(K w.params).In h)
  (F:∀(w:BQ) (mg:Str->Option Bs) (fa:Addr) (h:Heap),(K w.params).In h->h.Ns mainGlobals mg->mg d.name=some (.ref fa)->
   ∃fd:BW,(∀(s:Bu)(u:Bs),IH s fd ⟨[u],[]⟩ [(x,u)])/\
    ∀base:Heap,(K w.params).In base->base.Ns mainGlobals mg->FnOk l.prog w (K w.params) mg base (CX w) k fa fd [x] (sp w))
  (hsp:∀(w:BQ)(H:Hp)(a:Addr)(ns:List Int),ns.length<=n->xA H->SqL (K w.params) H a (ns.map ER)->sp w [.ref a] H (fun v _=>v=.bl true) fun _ _ _=>False)
  (hCX:∀(w:BQ)(H:Hp)(s:Bu)(e:Bs)(s':Bu),CX w [] H s (fun _ _ _=>False) e s'->False):
  Jy q loose XP YP l.row.toRowW d [] (fun f vs=>JF f vs):=by
 refine Att.attach_call hn hdf fun w s₀ s₁ mg mb fa o pm cd doc a vs ns G Y ho hd hcd hmg hobj hints hlen hg=>?_;have KX:=hY w _ Y;obtain⟨fd,hb,hF⟩:=F w mg fa _ KX G.T.g hmg;exact rY KX G.T.g G.T.b G.T.builtins G.T.nolimit hg hobj hints (Dt hlen hn2) hr hF hb (fun H hO hS=>hsp w H a ns hlen hO hS) fun H e s'=>hCX w H s₁ e s'
def defArgs(s:Stmt):Arguments:=match s with
 | .FunctionDef _ a _ _ _ _ _ _ _ _=>a
 |_=>{posonlyargs:=[],args:=[],vararg:=none,kwonlyargs:=[],kw_defaults:=[],kwarg:=none,defaults:=[]}
def defBody(s:Stmt):List Stmt:=match s with
 | .FunctionDef _ _ b _ _ _ _ _ _ _=>b
 |_=>[]
def defScope(s:Stmt):EI:=match s with
 | .FunctionDef _ _ _ _ _ _ sc _ _ _=>sc
 |_=>{kind:=.function,names:=[],isGenerator:=false,isCoroutine:=false}
abbrev CX0:CXT:=fun _ _ _ _ _ _=>False
abbrev E0:XK:=fun _ _ _=>False
theorem yV{X:Cx}:nQ CX0 X E0:=fun _ _ _ _ _ _ _ h=>h.elim
structure Fun(K:Br)(x qual:Str)(st:Stmt)(f:Addr)(fd:BW):Prop where
 ex:∃(oc:Bs)(od:Option Addr)(kV doc pm:Bs)(an:Option Addr)(cdv ct:Bs)(osl:Array (Option Bs)),
  fd=DD x qual (defArgs st) (defBody st) (defScope st) .none kV doc pm an cdv ct/\K.lookup f=some ⟨oc,od,.func fd,osl⟩/\EL K cdv qual=true
 kp:Eb K (.ref f)=true
section
variable{P:BK}{w:BQ}{K:Br}{mg:Str->Option Bs}{base:Heap}
theorem Fun.ok{x qual:Str}{st:Stmt}{f:Addr}{fd:BW}{N ps:List Str}{k:Nat}{sp:Sp}(F:Fun K x qual st f fd)(S:FnScope N ps (defScope st))(len:∀vs H Q E,sp vs H Q E->vs.length=ps.length)
  (hbody:∀(cdv:Bs) (A:Ck) (outer:List Env) (s:Bu) (H:Hp) (vs:List V) (Q:VK) (E:XK),Room k (A.deeper<|envOfC qual (defScope st) s.heap.objs.size f cdv)->sp vs H Q E->
   ∃t,PSs (qm CX0 P w K mg base N qual (defScope st) f cdv A outer s H E).nox (defBody st) t/\t {nx:=fun _ H'=>Q .non H',rt:=Q} (start N vs) H):FnOk P w K mg base CX0 (k+1) f fd ps sp:=by
 obtain⟨oc,od,kV,doc,pm,an,cdv,ct,osl,rfl,lk,hcd⟩:=F.ex;refine yS lk hcd S len fun A outer s H vs Q E hr hsp=>?_;obtain⟨t,h,q⟩:=hbody cdv A outer s H vs Q E hr hsp;exact⟨t,h.nox,q⟩
theorem Fun.binds{x qual:Str}{st:Stmt}{f:Addr}{fd:BW}{ps:List Str}(F:Fun K x qual st f fd)
  (h:∀(kV doc pm:Bs)(an:Option Addr)(cdv ct:Bs)(us:List Bs),us.length=ps.length->bindArgs (DD x qual (defArgs st) (defBody st) (defScope st) .none kV doc pm an cdv ct) ⟨us,[]⟩=pure (ps.zip us)):Binds K fd ps []:=by
 obtain⟨oc,od,kV,doc,pm,an,cdv,ct,osl,rfl,lk,hcd⟩:=F.ex;exact .all<|h kV doc pm an cdv ct
theorem lu{x qual:Str}{st:Stmt}{f:Addr}{oc:Bs}{od an:Option Addr}{osl:Array (Option Bs)}{kV doc pm cdv ct:Bs}(l:K.lookup f=some ⟨oc,od,.func<|DD x qual (defArgs st) (defBody st) (defScope st) .none kV doc pm an cdv ct,osl⟩)
  (c:EL K cdv qual=true) (k:Eb K (.ref f)=true):Fun K x qual st f (DD x qual (defArgs st) (defBody st) (defScope st) .none kV doc pm an cdv ct):=⟨⟨oc,od,kV,doc,pm,an,cdv,ct,osl,rfl,l,c⟩,k⟩
end
section
variable{X:Cx}
theorem pv(i:Nat){x:Str}{pos:Pos}(hN:X.N[i]? =some x:=by rfl)(hv:Vis X.env.scope x:=by first|exact Kv rfl|exact JG (Kv rfl)|exact JG<|JG rfl)(hd:(x==("__debug__" :Str))=false:=by decide)
  (hcd:(x==("__classdict__" :Str))=false:=by decide):PE X (.Name x pos) (bD i):=xm hN hv hd hcd
end
def Same(H H':Hp):Prop:=∀b o,H b=some o->H' b=some o
theorem Same.refl(H:Hp):Same H H:=fun _ _ h=>h
theorem Same.trans{H H1 H2:Hp}(a:Same H H1)(b:Same H1 H2):Same H H2:=fun c o h=>b c o<|a c o h
theorem Same.seq{K:Br}{H H':Hp}{a:Addr}{xs:List V}(e:Same H H')(h:SqL K H a xs):SqL K H' a xs:=by
 rcases h with(h|⟨o,h⟩)|h;·exact .inl<|.inl<|e _ _ h
 ·exact .inl<|.inr ⟨o,e _ _ h⟩
 ·exact .inr h
end L2
set_option maxHeartbeats 4000000
namespace L2
open PySem PySem.Spec PyProof.Rows
abbrev aT(l:List Nat):Str:=⟨l.toArray⟩
theorem dO(l:List Nat):(aT l).length=l.length:=by simp[L8,aT]
theorem oR(l:List Nat):(aT l).cps.toList=l:=by simp[aT]
theorem nW(a b:List Nat):aT a++aT b=aT (a++b):=by
 apply PySem.Str.ext';rw[PySem.Str.cps_append];simp[aT]
theorem oS{a b:List Nat}(h:aT a=aT b):a=b:=by
 have:=congrArg (fun x=>x.cps.toList) h;simpa [aT] using this
theorem rZ(x:Str):x=aT x.cps.toList:=by cases x;simp[aT]
def DictK(K:Br)(w:BQ)(a:Addr)(kvs:List (Key×V)):Prop:=
 kvs.length<=1000/\(a==sysModules)=false/\(kvs.map (·.1)).Nodup/\∃(es:Array Fi)(ep:Nat),K.lookup a=some {cls:=.type "dict",data:=.dict es ep}/\
  Paired (fun(p:Key×V)(e:Fi)=>fT p.1 e.key=true/\e.hash=rH w p.1/\RelV p.2 e.val) kvs es.toList
theorem mG{P:BK}{w:BQ}{kvs:List (Key×V)}{es:List Fi}(r:Paired (fun(p:Key×V)(e:Fi)=>fT p.1 e.key=true/\e.hash=rH w p.1/\RelV p.2 e.val) kvs es):
  ∀e∈es,∃k,fT k e.key=true/\e.hash=rH w k:=by
 induction r with
 |nil=>intro e h;cases h
 | @cons p e ps es h t ih=>
  intro e' h';rcases BM.mp h' with rfl|h'
  ·exact⟨p.1,h.1,h.2.1⟩
  ·exact ih e' h'
theorem lx{P:BK}{w:BQ}{kvs:List (Key×V)}{es:List Fi}(r:Paired (fun(p:Key×V)(e:Fi)=>fT p.1 e.key=true/\e.hash=rH w p.1/\RelV p.2 e.val) kvs es):
  ∃vs,KV kvs vs/\Pairs (mixKind P w) es vs/\vs.map (·.1)=kvs.map (·.1):=by
 induction r with
 |nil=>exact⟨[],.nil,.nil,rfl⟩
 | @cons p e ps es h t ih=>
  obtain⟨vs,h1,h2,h3⟩:=ih;exact⟨(p.1,e.val)::vs,.cons ⟨rfl,h.2.2⟩ h1,.cons h.1 rfl h2,by simp[h3]⟩
theorem DictK.of{P:BK}{w:BQ}{K:Br}{a:Addr}{kvs:List (Key×V)}{h:Heap}(d:DictK K w a kvs)(x:K.In h):(a==sysModules)=false/\∃vs,KV kvs vs/\h.DictOf (mixKind P w) a vs:=by
 obtain⟨hz,hs,nd,es,ep,lk,r⟩:=d;obtain⟨vs,h1,h2,h3⟩:=lx (P:=P) r;refine⟨hs,vs,h1,_,es,ep,x _ _ lk,⟨rfl,rfl,rfl⟩,rfl,fun e he=>mG (P:=P) r e (by simpa using he),h2,by rw[h3];exact nd⟩
section
variable{X:Cx}{o i e:Expr}{pos:Pos}{td ty:TE}
def aR(K:Br)(w:BQ)(td ty:TE):TE:=fun σ H Q=>td σ H fun x H1=>ty σ H1 fun y H2=>∃a kvs k v,x=.ref a/\DictK K w a kvs/\y=kV k/\jW kvs k=some v/\Q v H2
theorem sd(ho:PE X o td)(hi:PE X i ty)(hs:xy i):PE X (.Subscript o i pos) (aR X.K X.w td ty):=by
 intro pins s σ H Q I h;refine vo PySem.F.slot_dict_getitem.lookup hs<|cm (ho pins s σ H _ I h) fun u s1 zz=>?_;obtain⟨x,H1,I1,rx,q1⟩:=zz;refine cm (hi pins s1 σ H1 _ I1 q1) fun iv s2 zz=>?_;obtain⟨y,H2,I2,ry,a,kvs,k,v,ex,dk,ey,ev,q2⟩:=zz;subst ex ey;obtain rfl:u=CL a:=rx;obtain⟨hd,vs,rel,dd⟩:=dk.of (P:=X.prog) I2.kIn;refine⟨dd.typeIs,?_⟩;obtain⟨w',hw,rw'⟩:=RelO.some_of (v:=v) (o:=valueAt vs k) (by rw[<-ev];exact rel.val k);exact wpAny_getItem_of (wZ ry) dd.mapOf hw ⟨v,H2,I2.tok _,rw',q2⟩
end
section
variable{X:Cx}
theorem jh:OpR X (compareOp .Is) (fun x y H Q=>∃c,y=.bl c/\Q (.bl<|decide<|x=.bl c) H):=by
 intro pins s σ H x y v u Q I rx ry h;obtain⟨c,rfl,q⟩:=h;cases ry;cases x with
 |bl b=>cases rx;exact is_bool (aS I q (by cases b<;>cases c<;>simp))
 |non=>cases rx;exact Bq (aS I q (by simp))
 |int i=>obtain⟨t,rfl⟩:=rx;exact Bq (aS I q (by simp))
 |str i=>obtain⟨t,rfl⟩:=rx;exact Bq (aS I q (by simp))
 |byt i=>obtain⟨t,rfl⟩:=rx;exact Bq (aS I q (by simp))
 |flt i=>obtain⟨t,rfl⟩:=rx;exact Bq (aS I q (by simp))
 |ref a=>cases rx;exact Bq (aS I q (by simp))
 |ty a=>cases rx;exact Bq (aS I q (by simp))
theorem nX:OpR X (binaryOp .Mult) (fun x y H Q=>∃c n,x=.str (aT [c])/\y=.int n/\0<=n/\n<=100000/\Q (.str<|aT<|DH n.toNat c) H):=by
 intro pins s σ H x y v u Q I rx ry h;obtain⟨c,n,rfl,rfl,h0,h1,q⟩:=h;obtain⟨t,rfl⟩:=rx;obtain⟨t',rfl⟩:=ry;have hl:(aT [c]).length=1:=dO [c];refine SB.mul ?_ fun t' k=>?_
 ·refine⟨?_,fun _ _=>?_,fun _ _=>?_⟩
  ·have e1:decide (n< -(2^63:Int))=false:=decide_eq_false (by omega);have e2:decide (n≥2^63)=false:=decide_eq_false (by omega);rw[e1,e2];rfl
  ·rw[hl];have h2:1<=n:=by omega
   have:(1:Int)<=(2^63-1)/n:=(Int.le_ediv_iff_mul_le (by omega)).mpr (by omega);omega
  ·rw[hl];unfold L7;have:=Cg;simp;omega
 ·have e:Lg (aT [c]) n=aT (DH n.toNat c):=by
   rw[rZ<|Lg (aT [c]) n];show aT ((Lg ⟨#[c]⟩ n).cps.toList)=_;rw[mul_one_list]
  exact⟨.str _,H,I.tok _,⟨t',rfl⟩,by rw[e];exact q⟩
end
section
variable{X:Cx}
def iX(l:List Nat)(lo hi:Option Int):List Nat:=(l.drop<|HT.sIx l.length 0 lo).take (HT.sIx l.length l.length hi-HT.sIx l.length 0 lo)
theorem ji(lo hi:Option Int)(n:Nat):Dr lo hi 1 n=sliceRange ((HT.sIx n 0 lo:Nat):Int) ((HT.sIx n n hi:Nat):Int) 1:=by
 unfold Dr;have e1:(match lo with|none=>(0:Int)|some i=>max 0 (min (if i<0 then i+(n:Int)else i) n))=((HT.sIx n 0 lo:Nat):Int):=by
  cases lo with
  |none=>simp[HT.sIx]
  |some i=>simp only[HT.sIx];by_cases h:i<0<;>simp only[h,if_true,if_false]<;>omega
 have e2:(match hi with|none=>(n:Int)|some i=>max 0 (min (if i<0 then i+(n:Int)else i) n))=((HT.sIx n n hi:Nat):Int):=by
  cases hi with
  |none=>simp[HT.sIx]
  |some i=>simp only[HT.sIx];by_cases h:i<0<;>simp only[h,if_true,if_false]<;>omega
 simp only[show(1:Int)>0 by decide,if_true];rw[<-e1,<-e2];cases lo<;>cases hi<;>rfl
theorem qu(l:List Nat)(lo hi:Option Int):J8 (aT l) lo hi=aT (iX l lo hi):=by
 have hn:(aT l).length=l.length:=dO l;have hk:(Dr lo hi 1 l.length).filterMap ((aT l).cps[·]?)=iX l lo hi:=by
  rw[ji,HL,pick_run];simp[iX]
 have hlen:(Dr lo hi 1 l.length).length=(iX l lo hi).length:=by
  rw[ji,HL];have h1:=HT.sIx_le l.length 0 (HN _) lo;have h2:=HT.sIx_le l.length l.length (BD _) hi;simp[iX];omega
 unfold J8;rw[hn];split
 ·rename_i h;have h:(Dr lo hi 1 l.length).length=l.length:=by simpa using h
  have hl:=hlen.symm.trans h;have e:iX l lo hi=l:=by
   have h3:(iX l lo hi).length<=(l.drop<|HT.sIx l.length 0 lo).length:=by unfold iX;simp;omega
   have h4:HT.sIx l.length 0 lo=0\/l.length=0:=by
    rw[FC]at h3;omega
   rcases h4 with h4|h4
   ·unfold iX at hl ⊢;rw[h4]at hl ⊢;rw[List.drop_zero]at hl ⊢;rw[DT]at hl;exact En (by omega)
   ·have:l=[]:=DM.mp h4;subst this;simp[iX]
  rw[e]
 ·rw[hk]
theorem se:zH X (fun x lo hi H Q=>∃l,x=.str (aT l)/\l.length<=sizeLine/\Q (.str<|aT<|iX l lo hi) H):=by
 intro pins s σ H x v vl vu lo hi sl Q I rx hs pl pu h;obtain⟨l,rfl,hz,q⟩:=h;obtain⟨t,rfl⟩:=rx;obtain⟨a1,rfl,e1⟩:∃a:Option (Int×Tok),vl=partValue a/\a.map (·.1)=lo:=by
  cases pl with
  |none=>exact⟨none,rfl,rfl⟩
  |int i t=>exact⟨some (i,t),rfl,rfl⟩
 obtain⟨a2,rfl,e2⟩:∃a:Option (Int×Tok),vu=partValue a/\a.map (·.1)=hi:=by
  cases pu with
  |none=>exact⟨none,rfl,rfl⟩
  |int i t=>exact⟨some (i,t),rfl,rfl⟩
 have hle:(J8 (aT l) lo hi).length<=sizeLine:=Dt (Txt.slice_le _ _ _) (by rw[dO];exact hz);refine⟨"str",_,PySem.F.slot_str_getitem.lookup,JC _ _ _,wpAny_getItem_str_slice (l:=a1) (u:=a2) (st:=none) hs rfl ?_⟩;subst e1 e2;refine post_val_or_str ⟨hle,fun t' k=>⟨.str _,H,I.tok _,⟨t',rfl⟩,?_⟩⟩;have:=qu l (a1.map (·.1)) (a2.map (·.1));unfold J8 at this;show Q (.str (if _ then _ else _)) H;exact this▸q
theorem sf(hc:X.calm=true):yT X "str.index" (fun x xs H Q=>∃a b,x=.str a/\xs=[.str b]/\0<=Gk a b/\Q (.int<|Gk a b) H):=by
 intro pins s σ H x xs v us Q I rx rs h;obtain⟨a,b,rfl,rfl,h0,q⟩:=h;obtain⟨t,rfl⟩:=rx;obtain⟨u,rfl,t',rfl⟩:=eN rs;refine index_or (I.ok.hd hc) (fun e=>?_) fun _ _=>⟨.int _,H,I.tok _,⟨_,rfl⟩,q⟩
 omega
theorem nY{ys:List (List Nat)}:∀{us:List Bs},Vals (ys.map fun y=>Fz<|aT y) us->StrsAre us (ys.map aT):=by
 induction ys with
 |nil=>intro us r;cases r;exact .nil
 |cons y ys ih=>
  intro us r;cases r with
  |cons r1 r2=>
   obtain⟨t,e⟩:=r1;subst e;exact .cons _ t<|ih r2
theorem nZ(ys:List (List Nat)):Txt.join (aT []) (ys.map aT)=aT ys.flatten:=by
 have key:∀(r:List (List Nat))(acc:List Nat),(r.map aT).foldl (fun acc p=>acc++(aT []).cps++p.cps) acc.toArray=(acc++r.flatten).toArray:=by
  intro r
  induction r with
  |nil=>intro acc;simp
  |cons a r ih=>
   intro acc;rw[CP,Ho,List.flatten_cons,<-Du,<-ih (acc++a)];simp[aT]
 cases ys with
 |nil=>rfl
 |cons a r=>
  show Str.mk (((r.map aT)).foldl (fun acc p=>acc++(aT []).cps++p.cps) a.toArray)=_;rw[key];rfl
theorem vp:yT X "str.join" (fun x xs H Q=>∃(p:Addr)(ys:List (List Nat)),x=.str (aT [])/\xs=[.ref p]/\SqL X.K H p (ys.map fun y=>Fz<|aT y)/\ys.flatten.length<=100000/\Q (.str<|aT ys.flatten) H):=by
 intro pins s σ H x xs v us Q I rx rs h;obtain⟨p,ys,rfl,rfl,hp,hl,q⟩:=h;obtain⟨t,rfl⟩:=rx;obtain⟨u,rfl,r1⟩:=eN rs;cases r1;obtain⟨its,r,pl,hz⟩:=I.list hp;refine join_list pl.isList (by simpa using nY r) ?_ fun t' k=>⟨.str _,H,I.tok _,⟨t',rfl⟩,by rw[nZ];exact q⟩
 have e:((ys.map aT).map (·.length)).sum=ys.flatten.length:=by
  rw[Eo,List.length_flatten];congr 1
  all_goals exact G8 fun y _=>dO y
 have e2:(aT []).length=0:=dO [];rw[e,e2];omega
theorem mH:dh X (.builtin "isinstance") (fun xs H Q=>∃x T t b,xs=[x,.ty T]/\TyOf X.K H x t/\DG X.K t (.type T)=some b/\Q (.bl b) H):=by
 intro pins s σ H xs us Q I r h;obtain⟨x,T,t,b,rfl,ty,e,q⟩:=h;obtain⟨u,w',rfl,rx,rT⟩:=kB r;obtain rfl:w'=.type T:=rT;exact ql I rx ty e fun tk=>⟨.bl b,H,I.tok _,rfl,q⟩
def AA(l:List Nat):It:=⟨fun i _=>i<l.length,fun i H x H'=>H'=H/\∃c,l[i]? =some c/\x=.str (aT [c]),fun i _=>l.length<=i⟩
def yW(tl:TE):TI:=fun σ H R=>tl σ H fun x H1=>∃l,x=.str (aT l)/\R (AA l) H1
end
theorem si{P:BK}{w:BQ}{K:Br}{tg:Expr}(l:List Nat)(it:Addr)(ty:String)(t:Tok)(hty:ty="str_ascii_iterator"\/ty="str_iterator")
  (W:∀A':Ck,A'.handled=none->Walks P w A' it [it] [it] l.length (SignAt<|aT l) (fun i h=>h.IsStrIter it ty (aT l) t i)):
  Turn P w K tg (AA l) [it] it (fun i h=>i<=l.length/\h.IsStrIter it ty (aT l) t i) where
 mem:=by simp
 obj:=fun i h st b hb=>by
  have e:b=it:=by simpa using hb
  subst e;obtain⟨_,o,e,c,d⟩:=st;exact⟨o,e,fun v z=>by rw[d]at z;cases z⟩
 keep:=fun i h h' st k=>⟨st.1,by obtain⟨o,e,r⟩:=st.2;exact⟨o,k it (by simp) o e,r⟩⟩
 item:=by
  intro X hP hw hK hc i pins s σ H E I hf st hg;subst hP hw hK;obtain⟨f0,f1,f2,f3,f4,f5⟩:=hf it (by simp);refine(W X.A<|I.ok.hd hc).item i s _ _ hg st.2 fun v h' tk hv st' kk=>?_;obtain⟨c,u,hc',rfl⟩:=hv;have I1:Inv X pins σ H {s with heap:=h',toks:=tk}:=I.turned (fun b o hb e=>kk b o (by simpa using hb) e) f0 f1 f3 f4 f5;obtain⟨o,e,c1,d⟩:=id st';refine⟨_,rfl,rL (s:={s with heap:=h',toks:=tk}) (n:=ty) e c1 d (by rcases hty with rfl|rfl<;>decide) ⟨.str<|aT [c],H,I1,⟨u,rfl⟩,⟨rfl,c,?_,rfl⟩,⟨hg,st'⟩,fun b hb=>(hf b hb).1⟩⟩;simpa [aT] using hc'
 done:=by
  intro X hP hw hK hc i pins s σ H E I hf st hg;subst hP hw hK;obtain⟨f0,f1,f2,f3,f4,f5⟩:=hf it (by simp);have e:i=l.length:=Nat.le_antisymm st.1 hg;subst e;exact(W X.A<|I.ok.hd hc).done s _ _ st.2 fun h' tk kk=>⟨rfl,I.turned (fun b o hb e=>kk b o (by simpa using hb) e) f0 f1 f3 f4 f5⟩
 self:=fun A i s Q E st h=>by
  rcases hty with rfl|rfl;·exact wpAny_pyIter_striter_ascii st.2 h
  ·exact wpAny_pyIter_striter_wide st.2 h
theorem iz{X:Cx}{tg l:Expr}{tl:TE}(hl:PE X l tl):PI X tg l (yW tl):=by
 intro pins s σ H R I h;refine cm (hl pins s σ H _ I h) fun v s1 zz=>?_;obtain⟨x,H1,I1,r1,q1⟩:=zz;obtain⟨y,e,q⟩:=q1;subst e;obtain⟨t,rfl⟩:=r1;have hn:(aT y).cps.size=y.length:=by simp[aT]
 have fin:∀(ob:Obj)(ty:String),(ty="str_ascii_iterator"\/ty="str_iterator")->(∀A':Ck,A'.handled=none->Walks X.prog X.w A' s1.heap.objs.size [s1.heap.objs.size] [s1.heap.objs.size] y.length (SignAt<|aT y) (fun i h=>h.IsStrIter s1.heap.objs.size ty (aT y) t i))->
   (s1.heap.push ob).IsStrIter s1.heap.objs.size ty (aT y) t 0->An X pins σ tg R (.ref s1.heap.objs.size) {s1 with heap:=s1.heap.push ob}:=fun ob ty hty W st=>by
  refine⟨s1.heap.objs.size,[s1.heap.objs.size],_,_,H1,rfl,I1.kept (t':=s1.toks) fun b o e=>Bp _ e,si y _ ty t hty W,⟨HN _,st⟩,fun b hb=>?_,q⟩;have e:b=s1.heap.objs.size:=by simpa using hb
  subst e;exact I1.fpOk (BD _)<|I1.hok.fresh<|BD _
 cases ha:(aT y).cps.all (· <128);·exact IL ha<|fin _ "str_iterator" (.inr rfl) (fun A' hA=>hn▸Walks.strWide hA _ (aT y) t) ⟨_,By _ rfl,rfl,rfl⟩
 ·exact Iu ha<|fin _ "str_ascii_iterator" (.inl rfl) (fun A' hA=>hn▸Walks.strAscii hA _ (aT y) t) ⟨_,By _ rfl,rfl,rfl⟩
def bY(env:Env):List (Str×Ec)->List (Str×Addr)->List (Str×Addr)
 | [],acc=>acc
 |(n,k)::r,acc=>bY env r (if(k== .free)=true then(n,(env.cells.lookup n).getD 0)::acc else acc)
theorem f9{scope:EI}{env:Env}(h:∀x∈scope.names,x.2=.free->∃c,env.cells.lookup x.1=some c):closureFor scope env=pure (bY env scope.names []):=by
 simp only[closureFor];have key:∀(names:List (Str×Ec))(acc:List (Str×Addr)),(∀x∈names,x.2=.free->∃c,env.cells.lookup x.1=some c)->
   (forIn names acc fun(x:Str×Ec)(cs:List (Str×Addr))=>if(x.2== .free)=true then(do let a <-cellOf env x.1;pure (DR ((x.1,a)::cs)))else pure (DR cs))=(pure (bY env names acc):Sem _):=by
  intro names
  induction names with
  |nil=>intro acc _;rfl
  |cons x r ih=>
   intro acc hx;obtain⟨n,k⟩:=x;rw[Fc];have hr:∀y∈r,y.2=.free->∃c,env.cells.lookup y.1=some c:=fun y hy=>hx y<|BP _ hy;unfold bY;by_cases hk:(k==D0)=true
   ·obtain⟨c,hc⟩:=hx (n,k) BN (by simpa using hk);have hc:env.cells.lookup n=some c:=hc;simp only[hk,if_true];unfold cellOf;simp only[hc,De];exact ih _ hr
   ·simp only[hk,if_false];exact ih _ hr
 have:=key scope.names [] h;rw[this];rfl
theorem fV{env:Env}{x:Str}{c:Addr}:∀(names:List (Str×Ec))(acc:List (Str×Addr)),(∀y∈names,y.2=.free->∃c,env.cells.lookup y.1=some c)->(bY env names acc).lookup x=some c->
  ((x,D0)∈names/\env.cells.lookup x=some c)\/acc.lookup x=some c
 | [],_,_,h=>.inr h
 |(n,k)::r,acc,hx,h=>by
  unfold bY at h;rcases fV r _ (fun y hy=>hx y<|BP _ hy) h with⟨q1,q2⟩|q
  ·exact .inl ⟨BP _ q1,q2⟩
  ·by_cases hk:(k == D0)=true
   ·rw[if_pos hk]at q;have hk':k=.free:=by simpa using hk
    subst hk';rw[Dm]at q;cases hb:x==n with
    |true=>
     rw[hb]at q;have e:x=n:=beq_iff_eq.mp hb;subst e;obtain⟨c',hc⟩:=hx (x,.free) BN rfl;have hc:env.cells.lookup x=some c':=hc;rw[hc]at q;simp at q;subst q;exact .inl ⟨BN,hc⟩
    |false=>rw[hb]at q;exact .inr q
   ·rw[if_neg hk]at q;exact .inr q
theorem iP{env:Env}{x:Str}{c:Addr}:∀(names:List (Str×Ec))(acc:List (Str×Addr)),acc.lookup x=some c->env.cells.lookup x=some c->(bY env names acc).lookup x=some c
 | [],_,h,_=>h
 |(n,k)::r,acc,h,he=>by
  unfold bY;refine iP r _ ?_ he;by_cases hk:(k==D0)=true
  ·rw[if_pos hk,Dm];cases hb:x==n with
   |true=>
    have e:x=n:=beq_iff_eq.mp hb;subst e;simp[he]
   |false=>exact h
  ·rw[if_neg hk];exact h
theorem iQ{env:Env}{x:Str}{c:Addr}:∀(names:List (Str×Ec))(acc:List (Str×Addr)),(x,D0)∈names->env.cells.lookup x=some c->(bY env names acc).lookup x=some c
 |(n,k)::r,acc,h,he=>by
  unfold bY;rcases BM.mp h with e|h
  ·cases e;exact iP r _ (by simp[he]) he
  ·exact iQ r _ h he
theorem cD:∀(names:List (Str×Ec))(n:Nat)(acc:List (Str×Addr)),cellsFrom n names acc=cellsFrom n names []++acc
 | [],_,_=>rfl
 |(x,k)::r,n,acc=>by
  unfold cellsFrom;split;·rw[cD r _ ((x,n)::acc),cD r _ [(x,n)],Du];rfl
  ·exact cD r n acc
theorem eD:∀(names:List (Str×Ec))(n:Nat){x:Str}{c:Addr},(x,c)∈cellsFrom n names []->(x,HY)∈names
 | [],_,_,_,h=>by cases h
 |(y,k)::r,n,x,c,h=>by
  unfold cellsFrom at h;split at h
  ·rename_i hk;rw[cD]at h;rcases CU.mp h with h|h
   ·exact BP _<|eD r _ h
   ·have e:(x,c)=(y,n):=by simpa using h
    cases e;have hk':k=.cell:=by simpa using hk
    subst hk';exact BN
  ·exact BP _<|eD r _ h
theorem jj{M:Lf}{A:Ck}{E:Bs->Bu->Prop}{s:Bu}{scope:EI}{env:Env}{cl:List (Str×Addr)}{Q:Env->Bu->Prop}
  (hQ:Q (newEnv scope s.heap.objs.size env.globals (cellsFrom (s.heap.objs.size+1) scope.names cl) env.qual none .none (some env) builtinsNs) {s with heap:=pushCells (s.heap.push {cls:=.type "dict",data:=.dict #[]}) scope.names}):
  wpAny M A (newFunctionEnv scope env.globals cl [] env.qual none .none<|some env) Q E s:=by
 simp only[newFunctionEnv,Ir,if_true];refine Bl<|wpAny_alloc ?_;refine Bl (wpAny_layCells _ (fun name kind cells=>by cases hkc:kind==HY<;>simp[hkc]) _ _ _ _ ?_);rw[show({s with heap:=s.heap.push {cls:=.type "dict",data:=.dict #[]}}:Bu).heap.objs.size=s.heap.objs.size+1 from Ci ..];simp only[Fq];exact Bl<|Bq<|Bq hQ
section
variable{prog:BK}{w:BQ}{A:Ck}{R:J6->Bu->Prop}{s:Bu}
theorem ly{elt target iter:Expr}{ifs:List Expr}{scope:EI}{pos:Pos}{it acc:Bs}{env:Env}(I:Nat->Bu->Prop)
  (turn:∀n s,I n s->wpAny (model prog w) A (pyNext it) (fun r s₁=>match r with
   |none=>R (.ok .next) s₁
   | some v=>wpAny (model prog w) A (letOwnedTupleGo target it v) (fun _ s₁'=>wpAny (model prog w) A (assign target env v) (fun _ s₂=>
     wpAny (model prog w) A (forIn ifs true fun c r=>if r=true then do let ok <-isTrue c env (eval c env);pure (DR ok)else pure (DR r)) (fun ok s₃=>
      if ok=true then wpAny (model prog w) A (eval elt env) (fun x s₄=>
       wpAny (model prog w) A (call (.builtin "list.append") [acc,x]) (fun _ s₅=>∃m,m<n/\I m s₅) (fun _ _=>False) s₄) (fun _ _=>False) s₃
      else ∃m,m<n/\I m s₃) (fun _ _=>False) s₂) (fun _ _=>False) s₁') (fun _ _=>False) s₁) (fun _ _=>False) s)
  (n:Nat) (h:I n s):codeAny (model prog w) A (.compLoop (.ListComp elt [⟨target,iter,ifs,0⟩] scope pos) 0 it acc env) R s:=by
 refine codeAny_loop rfl I (fun n s hI=>?_) n h;show wpAny _ A ((compTurn (.ListComp elt [⟨target,iter,ifs,0⟩] scope pos) 0 it acc env).onRaise (fun x=>do noteFrame x env;theTreesLotGoes x)) _ _ s;refine wpAny_noted ?_;rw[compTurn_list];refine Bl<|E5<|Bl<|CI (turn n s hI) (fun r s₁ h₁=>?_) fun _ _ h'=>h'.elim;cases r with
 |none=>exact Bq h₁
 |some v=>
  refine Bl<|CI h₁ (fun _ s₁' h₁'=>?_) fun _ _ h'=>h'.elim;refine Bl<|CI h₁' (fun _ s₂ h₂=>Bl<|CI h₂ (fun ok s₃ h₃=>?_) fun _ _ h'=>h'.elim) fun _ _ h'=>h'.elim;cases ok with
  |true=>
   rw[if_pos rfl]at h₃;exact Bl<|Bl<|CI h₃ (fun x s₄ h₄=>Bl<|CI h₄ (fun _ s₅ h₅=>Bq<|Bq ⟨rfl,h₅⟩) fun _ _ h'=>h'.elim) fun _ _ h'=>h'.elim
  |false=>
   rw[if_neg BF]at h₃;exact Bq ⟨rfl,h₃⟩
end
def sj(scope:EI)(x:Str):Bool:=scope.names.lookup x==some .local||scope.names.lookup x==some .cell
def aK(X:Cx)(scope:EI)(N:List Str)(s:Bu)(H:Hp)(C:Addr)(fp:List Addr):Cx:=
 {X with N:=N,s₀:=s,H₀:=H,env:=compEnvC scope (cellsFrom (C+1) scope.names<|bY X.env scope.names []) C X.env,outer:=X.stack,ex:=fp,fn:=sj scope,pn:=[],xe:=fun _ _=>False}
def bF(cap:List (Option Nat))(σ:St):St:=cap.map fun o=>o.bind fun j=>(σ[j]?).bind id
structure CompScope(X:Cx)(scope:EI)(N:List Str)(cap:List (Option Nat)):Prop where
 kind:scope.kind=.function
 nd:N.Nodup
 len:cap.length=N.length
 uniq:(scope.names.map (·.1)).Nodup
 free:∀x∈scope.names,x.2=.free->(X.env.kindOf x.1=some .cell\/X.env.kindOf x.1=some .free)
 cap:∀(k:Nat)(x:Str)(j:Nat),N[k]? =some x->cap[k]? =some (some j)->X.N[j]? =some x/\(x,D0)∈scope.names
theorem cT{α:Type}:∀{l:List (Str×α)}{x:Str}{k:α},(l.map (·.1)).Nodup->(x,k)∈l->l.lookup x=some k
 |(y,j)::r,x,k,nd,h=>by
  obtain⟨n1,n2⟩:=DQ.mp (show(y::r.map (·.1)).Nodup from nd);rw[Dm];rcases BM.mp h with e|h;·cases e;simp
  ·have:(x == y)=false:=beq_eq_false_iff_ne.mpr fun e=>n1<|e▸BX.mpr ⟨(x,k),h,rfl⟩;rw[this];exact cT n2 h
theorem eO{env:Env}:∀{names:List (Str×Ec)}{x:Str},(names.map fun(p:Str×Ec)=>if(p.2==D0&&env.scope.kind== .function&&env.kindOf p.1==some .cell)=true then(p.1,HY)else(p.1,p.2)).lookup x=
  (names.lookup x).map fun k=>if(k==D0&&env.scope.kind== .function&&env.kindOf x==some .cell)=true then .cell else k
 | [],_=>rfl
 |(n,k)::r,x=>by
  rw[CP];have ih:= @eO env r x;by_cases hx:x=n
  ·subst hx;by_cases hc:(k==D0&&env.scope.kind== .function&&env.kindOf x==some .cell)=true;·simp only[hc,if_true,Dm,beq_self_eq_true,Ew]
   ·rw[if_neg hc,Dm,Dm,beq_self_eq_true];simp only[Ew];rw[if_neg hc]
  ·have hb:(x == n)=false:=beq_eq_false_iff_ne.mpr hx;by_cases hc:(k==D0&&env.scope.kind== .function&&env.kindOf n==some .cell)=true;·simp only[hc,if_true,Dm,hb];exact ih
   ·rw[if_neg hc,Dm,Dm,hb];exact ih
def sk(X:Cx)(ifs:List Expr)(t:TT):Prop:=
 ∀(pins:List (Addr×Obj))(s:Bu)(σ:St)(H:Hp)(Q:Bool->Hp->Prop),Inv X pins σ H s->t σ H Q->
  wpAny (model X.prog X.w) X.A (forIn ifs true fun c r=>if r=true then do let ok <-isTrue c X.env (eval c X.env);pure (DR ok)else pure (DR r)) (TP X pins σ Q) X.xe s
def vq:TT:=fun _ H Q=>Q true H
theorem du{X:Cx}:sk X [] vq:=fun _ _ _ H _ I h=>wpAny_tests_nil ⟨H,I,h⟩
theorem vt{X:Cx}{c:Expr}{t:TT}(h:PT X c t):sk X [c] t:=fun pins s σ H Q I hq=>wpAny_tests_one<|h pins s σ H Q I hq
def Keep:St->St->Prop
 | [],_=>True
 |none::a,_::b=>Keep a b
 |some v::a,some u::b=>v=u/\Keep a b
 |_,_=>False
theorem Keep.get:∀{a b:St}{j:Nat}{v:V},Keep a b->a[j]? =some (some v)->b[j]? =some (some v)
 | [],_,_,_,_,h=>by simp at h
 |none::a,_::b,0,_,_,h=>by simp at h
 |none::a,_::b,j+1,v,k,h=>Keep.get (j:=j) (a:=a) (b:=b) k h
 |some w::a,some u::b,0,v,k,h=>by
  have e:w=u:=k.1;subst e;exact h
 |some w::a,some u::b,j+1,v,k,h=>Keep.get (j:=j) (a:=a) (b:=b) k.2 h
 |none::_,[],_,_,k,_=>k.elim
 |some _::_,[],_,_,k,_=>k.elim
 |some _::_,none::_,_,_,k,_=>k.elim
def yX(cap:List (Option Nat))(g:TG)(tf:TT)(te:TE)(σ:St)(H1:Hp)(Q:VK)(J:It):Prop:=∃W:Nat->Nat->List V->Hp->Prop,(∃m,W 0 m [] H1)/\∀i m ys H,W i m ys H->ys.length<sizeLine/\
  ((J.stop i H/\∀D,H D=none->Q (.ref D) (cN H D<|.lst ys))\/
   (J.go i H/\∃N:List V->Hp->Prop,(∀ys' H',N ys' H'->∃m',m'<m/\W (i+1) m' ys' H')/\∀x H',J.yld i H x H'->g x (bF cap σ) H' fun σ2 H2=>Keep (bF cap σ) σ2/\tf σ2 H2 fun b H3=>if b=true then te σ2 H3 fun y H4=>N (ys++[y]) H4 else N ys H3))
def mI(cap:List (Option Nat))(wi:TI)(g:TG)(tf:TT)(te:TE):TE:=fun σ H Q=>wi σ H fun J H1=>yX cap g tf te σ H1 Q J
theorem df{X:Cx}{scope:EI}{C:Addr}{x:Str}{c:Addr}(frc:∀x∈scope.names,x.2=.free->∃c,X.env.cells.lookup x.1=some c)
  (h:(cellsFrom (C+1) scope.names<|bY X.env scope.names []).lookup x=some c):(x,c)∈cellsFrom (C+1) scope.names []\/((x,D0)∈scope.names/\X.env.cells.lookup x=some c):=by
 rw[cD,Iw]at h;cases e:(cellsFrom (C+1) scope.names []).lookup x with
 |some d=>
  rw[e]at h;have h:some d=some c:=h;cases h;exact .inl<|Dg e
 |none=>
  rw[e]at h;have h:(bY X.env scope.names []).lookup x=some c:=h;rcases fV _ _ frc h with q|q
  ·exact .inr q
  ·cases q
theorem mJ{X:Cx}{scope:EI}{C:Addr}{x:Str}{c:Addr}(uq:(scope.names.map (·.1)).Nodup)(hx:(x,D0)∈scope.names)(hc:X.env.cells.lookup x=some c):
  (cellsFrom (C+1) scope.names<|bY X.env scope.names []).lookup x=some c:=by
 rw[cD,Iw];cases e:(cellsFrom (C+1) scope.names []).lookup x with
 |some d=>
  have h1:=cT uq<|eD _ _<|Dg e;have h2:=cT uq hx;rw[h1]at h2;cases h2
 |none=>exact iQ _ _ hx hc
section
variable{X:Cx}{scope:EI}{N:List Str}{cap:List (Option Nat)}{pins:List (Addr×Obj)}{σ:St}{H:Hp}{s:Bu}{C:Addr}{fp:List Addr}
theorem qv{h4:Heap}(S:CompScope X scope N cap)(I:Inv X pins σ H s)(hC:s.heap.objs.size<=C)(ck:Kw h4 (C+1) (cellsFrom (C+1) scope.names []))
  (hf:∀b∈fp,FpOk X pins H b) (hlt:∀b∈fp,b<C):(aK X scope N s H C fp).Ok:=by
 have frc:∀x∈scope.names,x.2=.free->∃c,X.env.cells.lookup x.1=some c:=fun x hx hk=>I.ok.has x.1<|S.free x hx hk;have old:∀x c,X.env.cells.lookup x=some c->c<C:=fun x c e=>by
  obtain⟨v,q⟩:=I.cell x c e;exact BE q.lt hC
 have own:∀x c,(x,c)∈cellsFrom (C+1) scope.names []->C<c:=fun x c e=>(ck.empty x c e).2;refine⟨I.ok.mod,S.kind,I.ok.glob,I.ok.blt,hC,fun x y c h1 h2=>?_,fun x hx=>?_,fun x c hfn h=>?_,I.ok.hd,I.ok.frames,.inl rfl,fun b hb=>⟨BL<|hlt b hb,fun x c h=>?_⟩,I.bs,Dt I.ok.bsz I.sz,fun b o e hb=>?_,fun b hb z=>?_,I.stack,I.stkFree⟩
 ·rcases df frc h1 with a | ⟨a1,a2⟩ <;> rcases df frc h2 with b | ⟨b1,b2⟩
  ·exact name_of_addr ck.apart a b
  ·exact absurd (Hf (own x c a)<|old y c b2)<|CZ _
  ·exact absurd (Hf (own y c b)<|old x c a2)<|CZ _
  ·exact I.ok.inj x y c a2 b2
 ·have hx:(relabel scope X.env).names.lookup x=some .cell\/(relabel scope X.env).names.lookup x=some .free:=hx;have e:(relabel scope X.env).names.lookup x=_:=eO (env:=X.env) (names:=scope.names) (x:=x);rw[e]at hx;cases q:scope.names.lookup x with
  |none=>rw[q]at hx;rcases hx with z|z<;>cases z
  |some k=>
   have hm:=Dg q;by_cases hk:k=.free
   ·subst hk;obtain⟨c,hc⟩:=frc _ hm rfl;exact⟨c,mJ S.uniq hm hc⟩
   ·have hk':(k == D0)=false:=by simpa using hk
    rw[q]at hx;simp only[Ew,hk',Gh,C6,if_false]at hx;have hkc:k=.cell:=by
     rcases hx with z|z;·exact C5 z
     ·exact absurd (C5 z) hk
    subst hkc;exact GL.mp<|Fo scope.names (C+1) _<|.inl q
 ·rcases df frc h with a | ⟨a1,a2⟩
  ·exact Dt hC<|ET<|own x c a
  ·have q:=cT S.uniq a1;have z:sj scope x=true:=hfn;unfold sj at z;rw[q]at z;exact absurd z (by decide)
 ·rcases df frc h with a | ⟨a1,a2⟩
  ·exact E3<|Hf (hlt b hb)<|own x c a
  ·exact(hf b hb).2.2.2.2.1 x c a2
 ·rcases (hf b hb).2.2.2.1 with z | z;·exact I.ok.noex b o e z
  ·exact absurd (BE (BE (BA e) I.ok.bsz) z)<|CZ _
 ·rcases BM.mp (I.stkSub b z)with q | q;·exact(hf b hb).2.1 q
  ·exact(hf b hb).2.2.1 q
theorem jk{s4:Bu}(S:CompScope X scope N cap)(I:Inv X pins σ H s)(hC:s.heap.objs.size<=C)(ck:Kw s4.heap (C+1) (cellsFrom (C+1) scope.names []))
  (hf:∀b∈fp,FpOk X pins H b) (hlt:∀b∈fp,b<C) (h4:∃h' tk,s4={s with heap:=h',toks:=tk}) (hn:s4.heap.Ns C fun _=>none) (hk:∀b o,s.heap.get? b=some o->s4.heap.get? b=some o):
  Inv (aK X scope N s H C fp) [] (bF cap σ) H s4:=by
 have frc:∀x∈scope.names,x.2=.free->∃c,X.env.cells.lookup x.1=some c:=fun x hx hk=>I.ok.has x.1<|S.free x hx hk;obtain⟨h',tk,rfl⟩:=h4;refine⟨qv S I hC ck hf hlt,rfl,I.bare,Un.kept hk,⟨_,hn,fun i x v e1 e2 e3=>?_⟩,fun x c h=>?_,I.hok.fresh hC,fun x c h=>?_,fun p hp=>absurd (show p∈([]:List (Addr×Obj))from hp) (by simp),I.hok.kept hk,?_⟩
 ·have e1:N[i]? =some x:=e1;unfold bF at e2;rw[Bz]at e2;cases q:cap[i]? with
  |none=>rw[q]at e2;cases e2
  |some o=>
   cases o with
   |none=>rw[q]at e2;cases e2
   |some j=>
    rw[q]at e2;obtain⟨hj,hm⟩:=S.cap i x j e1 q;have e2:σ[j]?.bind id=some v:=C5 e2;have e2':σ[j]? =some (some v):=by
     cases z:σ[j]? with
     |none=>rw[z]at e2;cases e2
     |some o=>rw[z]at e2;exact congrArg some e2
    have kd:=S.free _ hm rfl;obtain⟨m,_,hl⟩:=I.loc;obtain⟨u,r,lk⟩:=hl j x v hj e2' (by rcases kd with z|z;exact .inr<|.inl z;exact .inr<|.inr z);refine⟨u,r,.inr ?_⟩;rcases lk with⟨z,_⟩|⟨_,c,hc,hcell⟩
    ·rcases kd with q|q<;> ·rw[show X.env.kindOf x=_ from q]at z;cases z
    ·refine⟨?_,c,mJ S.uniq hm hc,hcell.keeps hk⟩;have e:(relabel scope X.env).names.lookup x=_:=eO (env:=X.env) (names:=scope.names) (x:=x);rw[cT S.uniq hm]at e;simp only[Ew]at e;show(relabel scope X.env).names.lookup x=some .cell\/(relabel scope X.env).names.lookup x=some .free;rw[e];split;·exact .inl rfl
     ·exact .inr rfl
 ·rcases df frc h with a | ⟨a1,a2⟩
  ·exact⟨_,(ck.empty x c a).1⟩
  ·obtain⟨v,q⟩:=I.cell x c a2;exact⟨v,q.keeps hk⟩
 ·rcases df frc h with a | ⟨a1,a2⟩
  ·exact I.hok.fresh<|Dt hC<|ET (ck.empty x c a).2
  ·exact I.freeC x c a2
 ·show(bF cap σ).length=N.length;unfold bF;rw[BJ,S.len]
end
abbrev gF(its:List Bs)(k:Nat):Obj:={cls:=.type "list",data:=.seq its.toArray k}
section
variable{X:Cx}{scope:EI}{N:List Str}{cap:List (Option Nat)}{tg iter elt:Expr}{ifs:List Expr}{pos:Pos}{wi:TI}{g:TG}{tf:TT}{te:TE}
theorem kJ(S:CompScope X scope N cap)(hc:X.calm=true)
  (hg:∀s H C fp,PG (aK X scope N s H C fp) tg g) (hf:∀s H C fp,sk (aK X scope N s H C fp) ifs tf) (he:∀s H C fp,PE (aK X scope N s H C fp) elt te)
  {pins:List (Addr×Obj)} {σ:St} {H2:Hp} {s2:Bu} {it:Addr} {fp:List Addr} {tn:Nat->Heap->Prop} {J:It} {Qv:VK} {E:Bs->Bu->Prop} {RR:Bs->Addr->J6->Bu->Prop}
  (I2:Inv X pins σ H2 s2) (T:Turn X.prog X.w X.K tg J fp it tn) (st2:tn 0 s2.heap) (f2:∀b∈fp,FpOk X pins H2 b) {W:Nat->Nat->List V->Hp->Prop} (w0:∃m,W 0 m [] H2)
  (turn:∀i m ys H,W i m ys H->ys.length< sizeLine/\((J.stop i H/\∀D,H D=none->Qv (.ref D) (cN H D<|.lst ys))\/
   (J.go i H/\∃N:List V->Hp->Prop,(∀ys' H',N ys' H'->∃m',m'<m/\W (i+1) m' ys' H')/\∀x H',J.yld i H x H'->g x (bF cap σ) H' fun σ2 H2=>Keep (bF cap σ) σ2/\tf σ2 H2 fun b H3=>if b=true then te σ2 H3 fun y H4=>N (ys++[y]) H4 else N ys H3)))
  (fin:∀(D C:Addr) (σ':St) (H':Hp) (s':Bu) (its:List Bs) (k:Nat) (ys:List V),s2.heap.objs.size<=D->s2.heap.objs.size<=C->D≠C->Inv (aK X scope N s2 H2 C fp) [(D,gF its k)] σ' H' s'->Vals ys its->ys.length<=sizeLine->
   Qv (.ref D) (cN H' D (.lst ys))->RR (.ref D) C (.ok .next) s'):
  wpAny (model X.prog X.w) X.A (newList []) (fun acc s₃=>wpAny (model X.prog X.w) X.A (newFunctionEnv scope X.env.globals (bY X.env scope.names []) [] X.env.qual none .none<|some X.env) (fun cenv s₄=>
   codeAny (model X.prog X.w) X.A (.compStart (.ListComp elt [⟨tg,iter,ifs,0⟩] scope pos) 0 (.ref it) acc {cenv with scope:=relabel scope X.env}) (RR acc cenv.locals) s₄) E s₃) E s2:=by
 refine D7<|jj ?_;generalize hD:s2.heap.objs.size=D;generalize hH3:s2.heap.push {cls:=.type "list",dict:=none,data:=.seq ([]:List Bs).toArray}=h3;have hz3:h3.objs.size=D+1:=by rw[<-hH3,Ci,hD]
 dsimp only;have eC:({s2 with heap:=h3}:Bu).heap.objs.size=D+1:=hz3;rw[show h3.objs.size=D+1 from hz3];generalize hH4:pushCells (h3.push {cls:=.type "dict",data:=.dict #[]}) scope.names=h4;have hz3':(h3.push {cls:=.type "dict",data:=.dict #[]}).objs.size=D+1+1:=by rw[Ci,hz3]
 have ck:Kw h4 (D+1+1) (cellsFrom (D+1+1) scope.names []):=by
  have:=cellsFrom_ok scope.names (h3.push {cls:=.type "dict",data:=.dict #[]}) (D+1+1) [] ⟨fun _ _ hm=>(nomatch hm),EC⟩ (by rw[hz3'];exact BD _);rw[hz3',hH4]at this;exact this
 have k23:∀b o,s2.heap.get? b=some o->h3.get? b=some o:=fun b o e=>by rw[<-hH3];exact Bp _ e
 have k34:∀b o,h3.get? b=some o->h4.get? b=some o:=fun b o e=>by rw[<-hH4];exact FW _ _ b o<|Bp _ e
 have hD4:h4.get? D=some (gF [] 0):=k34 _ _ (by rw[<-hH3,<-hD];exact By _ rfl);have hn4:h4.Ns (D+1) fun _=>none:=by
  rw[<-hH4,<-hz3];exact(KO h3<|.type "dict").keeps (FW _ _)
 have fpD:∀b∈fp,b<D:=fun b hb=>by
  obtain⟨o,e,_⟩:=T.obj _ _ st2 b hb;rw[<-hD];exact BA e
 have hlt:∀b∈fp,b<D+1:=fun b hb=>DN<|fpD b hb;have hDC:s2.heap.objs.size<=D+1:=by rw[hD];exact GF _
 have hDs:s2.heap.objs.size<=D:=by rw[hD];exact BD _
 have IC:Inv (aK X scope N s2 H2 (D+1) fp) [] (bF cap σ) H2 {s2 with heap:=h4}:=
  jk S I2 hDC ck f2 hlt ⟨_,_,rfl⟩ hn4 fun b o e=>k34 b o<|k23 b o e
 have okC:=IC.ok;have nfs:∀{b:Addr},s2.heap.objs.size<=b->b∉frs X.stack:=fun{b}hb hm=>by
  obtain⟨_,o,ho,_⟩:=I2.stack.mem hm;exact absurd (BE (BA ho) hb)<|CZ _
 have frc:∀x∈scope.names,x.2=.free->∃c,X.env.cells.lookup x.1=some c:=fun x hx hk=>I2.ok.has x.1<|S.free x hx hk;have cellsD:∀x c,(aK X scope N s2 H2 (D+1) fp).env.cells.lookup x=some c->c≠D:=fun x c e=>by
  rcases df frc e with a|⟨_,a⟩
  ·have q:D+1+1<=c:=(ck.empty x c a).2;exact E3<|BE (BE (EW D)<|GF _) q
  ·obtain⟨v,q⟩:=I2.cell x c a;have:=q.lt;rw[hD]at this;exact BL this
 have fpO:∀{H':Hp}{its:List Bs}{k:Nat},(∀b∈fp,H' b=none)->∀b∈fp,FpOk (aK X scope N s2 H2 (D+1) fp) [(D,gF its k)] H' b:=fun{H' its k}hn b hb=>
  ⟨hn b hb,BL<|hlt b hb,okC.exfs b hb,.inl hb,(okC.exf b hb).2,fun p hp=>by
   have e:p=(D,gF its k):=by simpa [aK] using hp
   subst e;exact E3 (fpD b hb)⟩
 have pinD:∀{σ':St}{H':Hp}{s':Bu}{its:List Bs}{k:Nat},Inv (aK X scope N s2 H2 (D+1) fp) [] σ' H' s'->s'.heap.get? D=some (gF its k)->H' D=none->Inv (aK X scope N s2 H2 (D+1) fp) [(D,gF its k)] σ' H' s':=fun{σ' H' s' its k}J e n=>
  J.pins_of fun p hp=>by
   have e':p=(D,gF its k):=by simpa using hp
   subst e';exact⟨e,n,BL<|EW _,nfs hDs,fun v z=>by
    have z':HM its.toArray k=FA v:=z;cases z'⟩
 have loop:codeAny (model X.prog X.w) X.A (.compLoop (.ListComp elt [⟨tg,iter,ifs,0⟩] scope pos) 0 (.ref it) (.ref D) (aK X scope N s2 H2 (D+1) fp).env) (RR (.ref D)<|D+1) {s2 with heap:=h4}:=by
  obtain⟨m0,w0⟩:=w0;refine ly (fun n s'=>∃i ys its k σ' H',Inv (aK X scope N s2 H2 (D+1) fp) [(D,gF its k)] σ' H' s'/\tn i s'.heap/\(∀b∈fp,H' b=none)/\Vals ys its/\(∀(j:Nat)(v:V),(bF cap σ)[j]? =some (some v)->σ'[j]? =some (some v))/\W i n ys H') ?_ m0
   ⟨0,[],[],0,bF cap σ,H2,pinD IC hD4<|I2.hok.fresh hDs,T.keep _ _ _ st2 fun b hb o e=>k34 b o<|k23 b o e,fun b hb=>(f2 b hb).1,.nil,fun _ _ e=>e,w0⟩
  rintro n s3 ⟨i,ys,its,k,σ3,H3,I3,st3,fr3,rv,kp,w3⟩;obtain⟨hyl,tr⟩:=turn i n ys H3 w3;have pin3:=I3.pin (D,gF its k)<|C2 _ BN;rcases tr with⟨stop,qn⟩|⟨go,NN,hNN,step⟩
  ·refine cm (T.done (aK X scope N s2 H2 (D+1) fp) rfl rfl rfl hc i _ s3 σ3 H3 _ I3 (fpO fr3) st3 stop) fun r s4 zz=>?_;obtain⟨hr,I4⟩:=zz;subst hr;exact fin D (D+1) σ3 H3 s4 its k ys hDs hDC (BL<|EW _) I4 rv (ET hyl)<|qn D pin3.2.1
  ·have I3':Inv (aK X scope N s2 H2 (D+1) fp) [(D,gF its k)] (bF cap σ) H3 s3:=I3.weak (by rw[I3.len,IC.len]) kp;refine cm (T.item (aK X scope N s2 H2 (D+1) fp) rfl rfl rfl hc i _ s3 _ H3 _ I3' (fpO fr3) st3 go) fun r s4 zz=>?_;obtain⟨u,hr,h4⟩:=zz;subst hr;refine cm h4 fun _ s5 zz=>?_;obtain⟨x,H5,I5,r5,y5,st5,fr5⟩:=zz;have I5':=I5.pinned (fpO fr5)<|T.obj _ _ st5;refine cm (hg _ _ _ _ _ s5 _ H5 x u _ I5' r5<|step x H5 y5) fun _ s6 zz=>?_;obtain⟨σ6,H6,I6,kp6,q6⟩:=zz;refine cm (hf _ _ _ _ _ s6 σ6 H6 _ I6 q6) fun ok s7 zz=>?_;obtain⟨H7,I7,q7⟩:=zz;have back:∀{s8:Bu}{H8:Hp},Inv (aK X scope N s2 H2 (D+1) fp) ([(D,gF its k)]++ir fp s5.heap) σ6 H8 s8->tn (i+1) s8.heap/\(∀b∈fp,H8 b=none)/\s8.heap.get? D=some (gF its k)/\H8 D=none:=fun{s8 H8}I8=>by
    have at_:∀b∈fp,∀o,s5.heap.get? b=some o->s8.heap.get? b=some o/\H8 b=none:=fun b hb o e=>by
     have z:=I8.pin (b,o)<|C2 _<|C2 _<|eM hb e;exact⟨z.1,z.2.1⟩
    have pd:=I8.pin (D,gF its k)<|C2 _<|FJ _ BN;refine⟨T.keep _ _ _ st5 fun b hb o e=>(at_ b hb o e).1,fun b hb=>?_,pd.1,pd.2.1⟩;obtain⟨o,e,d⟩:=T.obj _ _ st5 b hb;exact(at_ b hb o e).2
   cases ok with
   |false=>
    rw[if_neg BF]at q7 ⊢;obtain⟨m',hm,w'⟩:=hNN _ _ q7;obtain⟨t7,f7,d7,n7⟩:=back I7;exact⟨m',hm,i+1,ys,its,k,σ6,H7,I7.unpinned,t7,f7,rv,fun j v e=>Keep.get kp6 e,w'⟩
   |true=>
    rw[if_pos rfl]at q7 ⊢;refine cm (he _ _ _ _ _ s7 σ6 H7 _ I7 q7) fun y8 s8 zz=>?_;obtain⟨y,H8,I8,r8,q8⟩:=zz;obtain⟨m',hm,w'⟩:=hNN _ _ q8;obtain⟨t8,f8,d8,n8⟩:=back I8;refine append_at (D:=D) (its:=its.toArray) (n:=k) d8 (fun h' hs' hD'=>?_) (by rw[BB,<-rv.length];exact ET hyl);have J0:Inv (aK X scope N s2 H2 (D+1) fp) [] σ6 H8 s8:=I8.pins_of fun p hp=>by cases hp
    have J1:Inv (aK X scope N s2 H2 (D+1) fp) [] σ6 H8 {s8 with heap:=h'}:=J0.turned (it:=D) (t':=s8.toks) (fun b o hb e=>(hs'.2 b hb).trans e) n8 (BL<|EW _) (.inr hDs) cellsD fun p hp=>by
     have:p∈([]:List (Addr×Obj)):=hp;cases this
    refine⟨m',hm,i+1,ys++[y],its++[y8],k+1,σ6,H8,pinD J1 (by simpa using hD') n8,T.keep _ _ _ t8 fun b hb o e=>(hs'.2 b<|BL<|fpD b hb).trans e,f8,rv.append<|.cons r8 .nil,fun j v e=>Keep.get kp6 e,w'⟩
 exact codeAny_compStart_list loop<|CI (T.self _ 0 _ _ _ (T.keep _ _ _ st2 fun b hb o e=>k34 b o<|k23 b o e) loop) (fun _ _ h=>h) fun _ _ h=>h
end
section
variable{X:Cx}{scope:EI}{N:List Str}{cap:List (Option Nat)}{tg iter elt:Expr}{ifs:List Expr}{pos:Pos}{wi:TI}{g:TG}{tf:TT}{te:TE}
theorem mK{pins:List (Addr×Obj)}{σ σ':St}{H2 H':Hp}{s2 s':Bu}{fp:List Addr}{D C:Addr}{its:List Bs}{k:Nat}{ys:List V}{h':Heap}(I2:Inv X pins σ H2 s2)(f2:∀b∈fp,FpOk X pins H2 b)
  (hD:s2.heap.objs.size<=D) (hC:s2.heap.objs.size<=C) (hDC:D≠C) (I':Inv (aK X scope N s2 H2 C fp) [(D,gF its k)] σ' H' s') (rv:Vals ys its) (hl:ys.length<=sizeLine) (hs:BO C s'.heap h'):
  Inv X pins σ (cN H' D<|.lst ys) {s' with heap:=h'}:=by
 have pd:=I'.pin (D,gF its k)<|C2 _ BN;have nD:H' D=none:=pd.2.1;have nC:H' C=none:=I'.free;have lt2:∀b o,s2.heap.get? b=some o->b≠D/\b≠C:=fun b o e=>⟨BL<|BE (BA e) hD,BL<|BE (BA e) hC⟩
 have hk:∀b o,b≠C->s'.heap.get? b=some o->h'.get? b=some o:=fun b o hb e=>(hs.2 b hb).trans e;have B:Un (frs X.stack) fp H2 H' s2.heap s'.heap:=I'.base;have tr:∀b u,H' b=some u->b≠D/\b≠C:=fun b u e=>⟨fun z=>(by rw[z,nD]at e;cases e),fun z=>(by rw[z,nC]at e;cases e)⟩
 refine I2.call' (ch:=fp) I'.os ⟨fun b o e n hb hx=>?_,fun b o e n hb hx=>?_,fun b o e n hx=>?_,fun b o e hx=>?_,fun b xs e=>?_,fun b o u e=>?_,fun b ps e=>?_⟩ (fun b u e=>?_) I'.bare fun b hb=>⟨(f2 b hb).2.2.2.1,(f2 b hb).2.1,(f2 b hb).2.2.2.2.1,(f2 b hb).2.2.2.2.2⟩
 ·exact hk b o (lt2 b o e).2 (B.keep b o e n hb hx)
 ·obtain⟨sl,q⟩:=B.slot b o e n hb hx;exact⟨sl,hk b _ (lt2 b o e).2 q⟩
 ·rw[aG (lt2 b o e).1];exact B.free b o e n hx
 ·obtain⟨o',q⟩:=B.there b o e hx;exact⟨o',hk b _ (lt2 b o e).2 q⟩
 ·rw[aG (tr b _<|B.tups b xs e).1];exact B.tups b xs e
 ·rw[aG (tr b _<|B.frzs b o u e).1];exact B.frzs b o u e
 ·obtain⟨more,q⟩:=B.tbls b ps e;exact⟨more,by rw[aG (tr b _ q).1];exact q⟩
 ·by_cases hb:b=D
  ·subst hb;rw[aB]at e;cases e;exact⟨hl,its,k,rv,hk _ _ hDC pd.1⟩
  ·rw[aG hb]at e;refine(I'.hok b u e).stay (fun c w' hc q=>hk c w' ?_ q) (fun c q=>by rw[aG (tr c _ q).1];exact q) fun c xs q=>by rw[aG (tr c _ q).1];exact q
   rcases hc with z|z;·rw[z];exact(tr b u e).2
   ·exact(tr c _ z).2
theorem gG(S:CompScope X scope N cap):∀x∈scope.names,x.2=.local->scope.names.lookup x.1=some .local:=fun x hx hl=>cT S.uniq (by rw[<-hl];exact hx)
theorem fA(S:CompScope X scope N cap)(hc:X.calm=true)(hi:PI X tg iter wi)
  (hg:∀s H C fp,PG (aK X scope N s H C fp) tg g) (hf:∀s H C fp,sk (aK X scope N s H C fp) ifs tf) (he:∀s H C fp,PE (aK X scope N s H C fp) elt te)
  (hs:∀x,foldedSetIterable iter X.env x=pure x:=by intro _;rfl):PE X (.ListComp elt [⟨tg,iter,ifs,0⟩] scope pos) (mI cap wi g tf te):=by
 intro pins s σ H Q I h;rw[eval_ListComp];have frc:∀x∈scope.names,x.2=.free->∃c,X.env.cells.lookup x.1=some c:=fun x hx hk=>I.ok.has x.1<|S.free x hx hk;refine F4 (use:=none) rfl hs (f9 frc) S.kind (gG S)<|cm (hi pins s σ H _ I h) fun v s1 h1=>cm h1 fun itv s2 h2=>?_;obtain⟨it,fp,tn,J,H2,rfl,I2,T,st2,f2,W,w0,turn⟩:=h2;refine kJ (RR:=fun acc C=>compPost (model X.prog X.w) X.A X.xe none (EP X pins σ Q) acc C) S hc hg hf he I2 T st2 f2 w0 turn fun D C σ' H' s' its k ys hD hC hDC I' rv hl q=>?_;obtain⟨m,hn,_⟩:=I'.loc;exact⟨m,hn,fun h' hs'=>⟨.ref D,_,mK I2 f2 hD hC hDC I' rv hl hs',rfl,q⟩⟩
end
section
variable{X:Cx}{scope:EI}{N:List Str}{cap:List (Option Nat)}{tg iter elt:Expr}{ifs:List Expr}{pos spos py:Pos}{wi:TI}{g:TG}{tf:TT}{te:TE}{i:Nat}{y:Str}
theorem gH(hN:X.N.Nodup)(hi':X.N[i]? =some y)(hy:xl X.env.scope y)(S:CompScope X scope N cap)(hc:X.calm=true)(hi:PI X tg iter wi)
  (hg:∀s H C fp,PG (aK X scope N s H C fp) tg g) (hf:∀s H C fp,sk (aK X scope N s H C fp) ifs tf) (he:∀s H C fp,PE (aK X scope N s H C fp) elt te)
  (hsw:swapsWith (.ListComp elt [⟨tg,iter,ifs,0⟩] scope pos) (some<|.Name y py) spos.line X.env=pure true:=by rfl)
  (hs:∀x,foldedSetIterable iter X.env x=pure x:=by intro _;rfl) (hfn:X.fn y=true\/X.env.scope.names.lookup y=some .local:=by first|exact .inl rfl|exact .inr rfl|assumption):
  PS X (.Assign [.Name y py] (.ListComp elt [⟨tg,iter,ifs,0⟩] scope pos) spos) (bI (mI cap wi g tf te)<|aP i):=by
 intro pins s σ H D I h;rw[exec_Assign_Name_used _ _ _ _ hsw];refine Bl<|E5<|Bl ?_;show wpAny _ X.A (do let _ <-comprehension (.ListComp elt [⟨tg,iter,ifs,0⟩] scope pos) scope X.env _ (newList []) false (eval iter X.env) (some<|assign (.Name y py) X.env)) _ _ s;have frc:∀x∈scope.names,x.2=.free->∃c,X.env.cells.lookup x.1=some c:=fun x hx hk=>I.ok.has x.1<|S.free x hx hk;refine Bl<|CI (F4 (use:=some<|assign (.Name y py) X.env) (Q:=fun _ s'=>SP X pins D .next s') rfl hs (f9 frc) S.kind (gG S)<|cm (hi pins s σ H _ I h) fun v s1 h1=>cm h1 fun itv s2 h2=>?_) (fun _ s' hq=>Bq<|Bq hq) fun _ _ e=>e;obtain⟨it,fp,tn,J,H2,rfl,I2,T,st2,f2,W,w0,turn⟩:=h2;refine kJ (Qv:=fun x H1=>aP i x σ H1 D.nx) (RR:=fun acc C=>compPost (model X.prog X.w) X.A X.xe (some<|assign (.Name y py) X.env) (fun _ s'=>SP X pins D .next s') acc C) S hc hg hf he I2 T st2 f2 w0 turn fun d C σ' H' s' its k ys hD hC hDC I' rv hl q=>?_;obtain⟨m,hn,_⟩:=I'.loc;have I3:Inv X pins σ (cN H' d<|.lst ys) s':=mK (h':=s'.heap) I2 f2 hD hC hDC I' rv hl<|.refl ..;have nC:(cN H' d<|.lst ys) C=none:=by rw[aG<|DZ hDC];exact I'.free
 have cL:C≠X.env.locals:=fun z=>absurd (BE I2.lt hC) (by rw[z];exact CZ _);have cc:∀x c,X.env.cells.lookup x=some c->c≠C:=fun x c e z=>by
  obtain⟨v,q⟩:=I2.cell x c e;exact absurd (BE q.lt hC) (by rw[z];exact CZ _)
 show wpAny _ X.A (assign (.Name y py) X.env<|.ref d) _ _ _;refine IE<|ku (v:=.ref d) I3 hN hi' hy rfl (fun s4 I4⟨a,sb,ha⟩=>?_) hfn;have aC:C≠a:=by
  rcases ha with z|z;·rw[z];exact cL
  ·exact DZ<|cc _ _ z
 refine⟨m,hn.sameBut sb aC,fun h' hs'=>?_⟩;exact⟨_,_,I4.turned (it:=C) (t':=s4.toks) (fun b o hb e=>(hs'.2 b hb).trans e) nC cL (.inr<|Dt I2.sz hC) cc (fun p hp z=>absurd (BE (BA (I2.pin p hp).1) hC) (by rw[z];exact CZ _)),q⟩
end
inductive Src where
 |lst (a:Addr)|tup (a:Addr)|str (l:List Nat)
def Src.has(K:Br)(H:Hp):Src->List V->Prop
 | .lst a,xs=>SqL K H a xs
 | .tup a,xs=>SqT K H a xs
 | .str l,xs=>xs=l.map fun c=>Fz<|aT [c]
def Src.at(it:Addr)(i:Nat)(h:Heap):Src->Prop
 | .lst a=>h.IsListIter it a i
 | .tup a=>h.IsTupleIter it a i
 | .str l=>∃t,h.IsStrIter it "str_ascii_iterator" (aT l) t i\/h.IsStrIter it "str_iterator" (aT l) t i
def Src.val:Src->V
 | .lst a=>.ref a
 | .tup a=>.ref a
 | .str l=>.str<|aT l
section
variable{P:BK}{w:BQ}{A:Ck}{E:Bs->Bu->Prop}{s:Bu}
theorem lA{j a:Addr}{k:Nat}{us:Array Bs}{x:Bs}{Q:Bs->Bu->Prop}(g:s.heap.IsTupleIter j a k)(ga:s.heap.IsTuple a us)(gx:us[k]? =some x)
  (q:∀h',h'.IsTupleIter j a (k+1)->BO j s.heap h'->Q x {s with heap:=h'}):wpAny (model P w) A (BS<|.ref j) Q E s:=by
 obtain⟨ob,e1,e2,e3⟩:=id g;obtain⟨ot,f1,_,nn,f3⟩:=ga;unfold BS;refine Bl<|Cn (name:=Bv "__next__") g.typeIs Dv<|C7 Dv g.typeIs Fm ?_<|Ff _;show wpAny (model P w) _ (field (.ref j) 0>>=_) _ _ s;refine Bl<|CG e1 e3 (x:=.ref a) rfl ?_;show wpAny (model P w) _ (if(CL a==Ct)=true then _ else _) _ _ s;rw[if_neg (show ¬((CL a==Ct)=true)from BF)];show wpAny (model P w) _ (field (.ref j) 1>>=_) _ _ s;refine Bl<|CG e1 e3 (x:=.int k 0) rfl ?_;show wpAny (model P w) _ (seqItems? (.ref a)>>=_) _ _ s;refine Bl<|Cu f1 f3 ?_;simp only[CQ,gx];refine Bl (Ee e1 e3 (by simp) (Bq ⟨x,rfl,Bq (q _ ⟨_,Dj _ e1<|Obj.isFreed_of_fields<|Iy e3 _,(Obj.cls_mapFields ..).trans e2,(by rw[Iy e3];simp[rawInt])⟩<|CJ ..)⟩))
theorem mL{j a:Addr}{k:Nat}{us:Array Bs}{Q:Bs->Bu->Prop}(hh:A.handled=none)(g:s.heap.IsTupleIter j a k)(ga:s.heap.IsTuple a us)(gx:us[k]? =none)
  (q:∀h' e,EM j s.heap h'->(∃o,h'.get? e=some o/\o.cls=.type "StopIteration")->E (.ref e) {s with heap:=h'}):wpAny (model P w) A (BS<|.ref j) Q E s:=by
 obtain⟨ob,e1,e2,e3⟩:=id g;obtain⟨ot,f1,_,nn,f3⟩:=ga;unfold BS;refine Bl<|Cn (name:=Bv "__next__") g.typeIs Dv<|C7 Dv g.typeIs Fm ?_<|Ff _;show wpAny (model P w) _ (field (.ref j) 0>>=_) _ _ s;refine Bl<|CG e1 e3 (x:=.ref a) rfl ?_;show wpAny (model P w) _ (if(CL a==Ct)=true then _ else _) _ _ s;rw[if_neg (show ¬((CL a==Ct)=true)from BF)];show wpAny (model P w) _ (field (.ref j) 1>>=_) _ _ s;refine Bl<|CG e1 e3 (x:=.int k 0) rfl ?_;show wpAny (model P w) _ (seqItems? (.ref a)>>=_) _ _ s;refine Bl<|Cu f1 f3 ?_;simp only[CQ,gx];refine Bl (FD (Bl (Ee e1 e3 (by simp) ?_)));show wpAny (model P w) _ (newExc (.type "StopIteration") []>>=_) _ _ _;refine Bl ?_;simp only[newExc,newTuple];refine Bl (D7 (Bl (m:=firstArgMember _ _) (GG (a:=Ct) (by first|rfl|(simp only[firstArgMember];rfl)) (D7 ?_ (by size_fits)))) (by size_fits));simp only[raiseNew];refine Bl<|HZ ?_
 first|rw[show A.in1.handled=none from hh]|rw[hh]
 exact Bl<|Bq<|Jk<|q _ _ (((CJ ..).extBut.push _).push _) ⟨_,By _ rfl,rfl⟩
theorem sm(hh:A.handled=none)(j a:Addr)(ne:a≠j)(us:Array Bs):Hq P w A j [j,a] us.size (fun k v=>us[k]? =some v) (fun k h=>h.IsTupleIter j a k/\h.IsTuple a us) where
 live:=fun _ _ st=>by obtain⟨⟨o,e,_⟩,_⟩:=st;exact⟨o,e⟩
 frame:=fun _ _ _ st hk=>⟨st.1.at fun o e=>hk j (by simp) o e,by obtain⟨o,e,r⟩:=st.2;exact⟨o,hk a (by simp) o e,r⟩⟩
 item:=fun k s Q E hk st q=>lA st.1 st.2 (x:=us[k]) (by simp[hk]) fun h' g' sb=>q _ h' s.toks (by simp[hk]) ⟨g',by obtain⟨o,e,r⟩:=st.2;exact⟨o,(sb.2 a ne).trans e,r⟩⟩ sb
 done:=fun s Q E st q=>mL hh st.1 st.2 (by simp) q
theorem Src.draws{X:Cx}{pins:List (Addr×Obj)}{σ:St}{H:Hp}{s0:Bu}{c:Src}{xs:List V}{it:Addr}{i:Nat}(hh:A.handled=none)(I:Inv X pins σ H s0)(hs:c.has X.K H xs)(ht:c.at it i s0.heap)(hit:H it=none):
  ∃(fp:List Addr)(Pt:Nat->Bs->Prop)(St:Nat->Heap->Prop),Hq X.prog X.w A it fp xs.length Pt St/\St i s0.heap/\(∀k v,Pt k v-> ∃x,xs[k]? =some x/\RelV x v)/\(∀k h,St k h->c.at it k h)/\it∈fp/\
   ∀b∈fp,b=it\/H b≠none\/∃o,X.base.get? b=some o:=by
 cases c with
 |lst a=>
  obtain⟨its,rv,p,hz⟩:=I.list hs;have ne:a≠it:=fun z=>by
   obtain⟨o,e,c1,_⟩:=(show s0.heap.IsListIter it a i from ht)
   obtain⟨o2,e2,c2,_⟩:=p.isList;rw[z,e]at e2;cases e2;rw[c1]at c2;exact absurd c2 (by decide)
  have dr:=Draws.list (prog:=X.prog) (w:=X.w) hh it a ne its.toArray;rw[BB,<-rv.length]at dr;refine⟨_,_,_,dr,⟨ht,p.isList⟩,fun k v e=>?_,fun k h st=>st.1,by simp,fun b hb=>?_⟩
  ·have e:its[k]? =some v:=by simpa using e
   have hk:k<xs.length:=by rw[rv.length];exact(Bw.mp e).1
   obtain⟨u,hu,ru⟩:=rv.get (i:=k) (x:=xs[k]) (by simp[hk]);rw[e]at hu;cases hu;exact⟨_,by simp[hk],ru⟩
  ·rcases BM.mp hb with z | z;·exact .inl z
   ·have z:b=a:=by simpa using z
    subst z;rcases (show SqL X.K H b xs from hs)with(z|⟨o,z⟩)|⟨o,_,_,z,_⟩
    ·exact .inr (.inl (by rw[z];simp))
    ·exact .inr (.inl (by rw[z];simp))
    ·exact .inr<|.inr ⟨_,I.mod.kin _ _ z⟩
 |tup a=>
  obtain⟨its,rv,p,hz⟩:=I.tuple hs;have p:s0.heap.IsTuple a its.toArray:=p;have ne:a≠it:=fun z=>by
   obtain⟨o,e,c1,_⟩:=(show s0.heap.IsTupleIter it a i from ht)
   obtain⟨o2,e2,c2,_⟩:=id p;rw[z,e]at e2;cases e2;rw[c1]at c2;exact absurd c2 (by decide)
  have dr:=sm (P:=X.prog) (w:=X.w) hh it a ne its.toArray;rw[BB,<-rv.length]at dr;refine⟨_,_,_,dr,⟨ht,p⟩,fun k v e=>?_,fun k h st=>st.1,by simp,fun b hb=>?_⟩
  ·have e:its[k]? =some v:=by simpa using e
   have hk:k<xs.length:=by rw[rv.length];exact(Bw.mp e).1
   obtain⟨u,hu,ru⟩:=rv.get (i:=k) (x:=xs[k]) (by simp[hk]);rw[e]at hu;cases hu;exact⟨_,by simp[hk],ru⟩
  ·rcases BM.mp hb with z | z;·exact .inl z
   ·have z:b=a:=by simpa using z
    subst z;rcases (show SqT X.K H b xs from hs)with(z|⟨o,z⟩)|⟨o,_,_,z,_⟩
    ·exact .inr (.inl (by rw[z];simp))
    ·exact .inr (.inl (by rw[z];simp))
    ·exact .inr<|.inr ⟨_,I.mod.kin _ _ z⟩
 |str l=>
  have hs:xs=l.map fun c=>Fz (aT [c]):=hs;obtain⟨t,ht⟩:=(show ∃t,s0.heap.IsStrIter it "str_ascii_iterator" (aT l) t i\/s0.heap.IsStrIter it "str_iterator" (aT l) t i from ht)
  have hn:(aT l).cps.size=xs.length:=by rw[hs];simp[aT]
  have sg:∀(k:Nat)(v:Bs),(∃c u,(aT l).cps[k]? =some c/\v=.str ⟨#[c]⟩ u)->∃x,xs[k]? =some x/\RelV x v:=fun k v⟨c,u,e,ev⟩=>by
   have e:l[k]? =some c:=by simpa [aT] using e
   exact⟨.str<|aT [c],by rw[hs];simp[e],⟨u,ev⟩⟩
  rcases ht with ht|ht;·exact⟨_,_,_,hn▸Draws.strAscii hh it (aT l) t,ht,sg,fun k h st=>⟨t,.inl st⟩,by simp,fun b hb=>.inl (by simpa using hb)⟩
  ·exact⟨_,_,_,hn▸Draws.strWide hh it (aT l) t,ht,sg,fun k h st=>⟨t,.inr st⟩,by simp,fun b hb=>.inl (by simpa using hb)⟩
end
def eP(v:Bs)(h:Heap)(o:Obj):Prop:=∀(prog:BK)(w:BQ)(A:Ck)(E:Bs->Bu->Prop)(Q:Bs->Bu->Prop)(s:Bu),s.heap=h->Q (.ref h.objs.size) {s with heap:=h.push o}->wpAny (model prog w) A (pyIter v) Q E s
def yY(h:Heap)(o1 o2:Obj):Heap:=((h.push o1).push o2).push {cls:=.type "tuple",data:=.seq #[.ref h.objs.size,.ref (h.push o1).objs.size]}
def yZ(h:Heap)(o1 o2:Obj):Heap:=(yY h o1 o2).push {cls:=.type "tuple",data:=.seq #[.none,.none]}
def yA(h:Heap)(o1 o2:Obj):Heap:=(yZ h o1 o2).push {cls:=.type "zip",data:=.fields #[.none,.bool false,.bool false,.ref ((h.push o1).push o2).objs.size,.ref (yY h o1 o2).objs.size]}
theorem lB(v1 v2:Bs)(o1 o2:Obj):Meets (DS.«zip.__new__» ⟨[.type "zip",v1,v2],[]⟩) (fun _ R s=>eP v1 s.heap o1/\eP v2 (s.heap.push o1) o2/\R (.ok<|.ret<|.ref (yZ s.heap o1 o2).objs.size) {s with heap:=yA s.heap o1 o2}):=
 .of_wp fun prog w A R s h=>by
  obtain⟨hp,g,d,tk,os⟩:=s;obtain⟨i1,i2,h⟩:=h;have hsub:=sub_zip;have j1:=fun(A:Ck)(E:Bs->Bu->Prop)(Q:Bs->Bu->Prop)(q:Q _ _)=>i1 prog w A E Q ⟨hp,g,d,tk,os⟩ rfl q;have j2:=fun(A:Ck)(E:Bs->Bu->Prop)(Q:Bs->Bu->Prop)(q:Q _ _)=>i2 prog w A E Q ⟨hp.push o1,g,d,tk,os⟩ rfl q
  wp_walk using j1 _ _ _,j2 _ _ _
  exact⟨_,rfl,h⟩
theorem qw{P:BK}{w:BQ}{A:Ck}{E:Bs->Bu->Prop}{s:Bu}{v1 v2:Bs}{o1 o2:Obj}{Q:Bs->Bu->Prop}(i1:eP v1 s.heap o1)(i2:eP v2 (s.heap.push o1) o2)
  (f1:o1.isFreed=false) (f2:o2.isFreed=false)
  (q:∀h',Ej h' (s.heap.objs.size+4) (s.heap.objs.size+2) (s.heap.objs.size+3) .none->Fg h' (s.heap.objs.size+2) (.ref s.heap.objs.size) (.ref<|s.heap.objs.size+1)->Fg h' (s.heap.objs.size+3) .none .none->
   h'.get? s.heap.objs.size=some o1->h'.get? (s.heap.objs.size+1)=some o2->(∀c o,s.heap.get? c=some o->h'.get? c=some o)->Q (.ref (s.heap.objs.size+4)) {s with heap:=h'}):
  wpAny (model P w) A (call (.type "zip") [v1,v2]) Q E s:=by
 refine callType_new Iz (by decide) (PySem.F.typeCall_zip_2 _ _) (PySem.F.newCall_zip_2 _ _) (fun obj=>PySem.F.args_object_init_3 obj _ _) Hy (lB v1 v2 o1 o2) ⟨i1,i2,?_⟩;have z1:(s.heap.push o1).objs.size=s.heap.objs.size+1:=Ci ..;have z2:((s.heap.push o1).push o2).objs.size=s.heap.objs.size+2:=by rw[Ci,z1]
 have z3:(yY s.heap o1 o2).objs.size=s.heap.objs.size+3:=by unfold yY;rw[Ci,z2]
 have z4:(yZ s.heap o1 o2).objs.size=s.heap.objs.size+4:=by unfold yZ;rw[Ci,z3]
 have g5:(yA s.heap o1 o2).get? (yZ s.heap o1 o2).objs.size=some _:=By _ rfl;have g4:(yA s.heap o1 o2).get? (yY s.heap o1 o2).objs.size=some _:=Bp _<|By _ rfl;have g3:(yA s.heap o1 o2).get? ((s.heap.push o1).push o2).objs.size=some _:=Bp _<|Bp _<|By _ rfl;have g2:(yA s.heap o1 o2).get? (s.heap.push o1).objs.size=some o2:=Bp _<|Bp _<|Bp _<|By _ f2;have g1:(yA s.heap o1 o2).get? s.heap.objs.size=some o1:=Bp _<|Bp _<|Bp _<|Bp _<|By _ f1;show _/\_;rw[z2,z3,z4]at g5;rw[z1,z2]at g3;rw[z3]at g4;rw[z1]at g2;rw[z4];exact⟨⟨_,g5,rfl⟩,q _ g5 g3 g4 g1 g2 fun c o x=>Bp _<|Bp _<|Bp _<|Bp _<|Bp _ x⟩
theorem Src.iter{X:Cx}{pins:List (Addr×Obj)}{σ:St}{H:Hp}{s:Bu}{c:Src}{xs:List V}{v:Bs}{h:Heap}(I:Inv X pins σ H s)(hs:c.has X.K H xs)(rv:RelV c.val v)(k:∀b o,s.heap.get? b=some o->h.get? b=some o):
  ∃o,eP v h o/\o.isFreed=false/\(∀h':Heap,h'.get? h.objs.size=some o->c.at h.objs.size 0 h'):=by
 cases c with
 |lst a=>
  obtain⟨its,r,p,hz⟩:=I.list hs;cases (show v=.ref a from rv);obtain⟨o,e,r2⟩:=p.isList;refine⟨{cls:=.type "list_iterator",data:=.fields #[.ref a,.int 0 0]},fun prog w A E Q s' e' q=>?_,rfl,fun h' e'=>⟨_,e',rfl,rfl⟩⟩;subst e';exact Fn ⟨o,k a o e,r2⟩ q
 |tup a=>
  obtain⟨its,r,p,hz⟩:=I.tuple hs;cases (show v=.ref a from rv);obtain⟨o,e,r2⟩:=p;refine⟨{cls:=.type "tuple_iterator",data:=.fields #[.ref a,.int 0 0]},fun prog w A E Q s' e' q=>?_,rfl,fun h' e'=>⟨_,e',rfl,rfl⟩⟩;subst e';exact wpAny_pyIter_tuple ⟨o,k a o e,r2⟩ q
 |str l=>
  obtain⟨t,rfl⟩:=(show ∃t,v=.str (aT l) t from rv)
  cases ha:(aT l).cps.all (· <128);·exact⟨{cls:=.type "str_iterator",data:=.fields #[.str (aT l) t,.int 0 0]},fun prog w A E Q s' e' q=>by subst e';exact IL ha q,rfl,fun h' e'=>⟨t,.inr ⟨_,e',rfl,rfl⟩⟩⟩
  ·exact⟨{cls:=.type "str_ascii_iterator",data:=.fields #[.str (aT l) t,.int 0 0]},fun prog w A E Q s' e' q=>by subst e';exact Iu ha q,rfl,fun h' e'=>⟨t,.inl ⟨_,e',rfl,rfl⟩⟩⟩
section
variable{P:BK}{w:BQ}{A:Ck}{E:Bs->Bu->Prop}{s:Bu}{z TI TO i1 i2:Addr}{fp1 fp2:List Addr}{n1 n2 k:Nat}{P1 P2:Nat->Bs->Prop}{S1 S2:Nat->Heap->Prop}{a b:Bs}
structure ZApart(z TI TO i1 i2:Addr)(fp1 fp2:List Addr):Prop where
 c1:TI≠z
 c2:TO≠z
 c3:i1≠z
 c4:i2≠z
 c5:TI≠TO
 c6:TI≠i1
 c7:TI≠i2
 c8:TO≠i1
 c9:TO≠i2
 d1:z∉fp1/\TO∉fp1/\i2∉fp1
 d2:z∉fp2/\TO∉fp2/\i1∉fp2
theorem au{n:Nat}{it:Addr}{fp:List Addr}{Pt:Nat->Bs->Prop}{S:Nat->Heap->Prop}(D:Hq P w A it fp n Pt S){j:Nat}{h h':Heap}{c:Addr}(st:S j h)(sb:BO c h h')(hc:c∉fp):S j h':=
 D.frame _ _ _ st fun b hb o e=>(sb.2 b fun q=>hc<|q▸hb).trans e
theorem qx{Q:Option Bs->Bu->Prop}(D1:Hq P w A.in1 i1 fp1 n1 P1 S1)(D2:Hq P w A.in1 i2 fp2 n2 P2 S2)(Z:ZApart z TI TO i1 i2 fp1 fp2)(h1:k<n1)(h2:k<n2)(hz:Ej s.heap z TI TO .none)
  (hI:Fg s.heap TI (.ref i1) (.ref i2)) (hO:Fg s.heap TO a b) (t1:S1 k s.heap) (t2:S2 k s.heap)
  (q:∀x y h' tk T,P1 k x->P2 k y->T=s.heap.objs.size->Ej h' z TI TO (rawInt T)->Fg h' TO x y->S1 (k+1) h'->S2 (k+1) h'->Fg h' T x y->
   (∀c o,c≠z->c≠TO->c≠i1->c≠i2->s.heap.get? c=some o->h'.get? c=some o)->Q (some (.ref T)) {s with heap:=h',toks:=tk}):
  wpAny (model P w) A (pyNext<|.ref z) Q E s:=by
 have hT:s.TypeIs (.ref z) "zip":=⟨_,hz,rfl⟩
 unfold pyNext;refine Bl<|E6<|Cn (name:=Bv "__next__") hT D5<|C7 D5 hT Ep ?_<|Ef _;obtain⟨hp,gg,dd,tk0,os⟩:=s;show wpAny (model P w) _ (field (.ref z) 2>>=_) _ _ _;refine Bl<|CG hz rfl (x:=.bool false) rfl ?_;show wpAny (model P w) _ (field (.ref z) 3>>=_) _ _ _;refine Bl<|CG hz rfl (x:=.ref TI) rfl<|Bl<|Cu hI rfl ?_;show wpAny (model P w) _ (C8 (.ref z)>>=_) _ _ _;refine Bl ?_;unfold C8;refine Bl<|CG hz rfl (x:=.none) rfl<|Bq ?_;simp only[if_true];refine Bl (FD (Bl (CG hz rfl (x:=.ref TO) rfl (Bl (Cw hz (by simp) fun g1 y1 b1=>?_)))));replace y1:Ej g1 z TI TO .ellipsis:=y1;replace b1:BO z hp g1:=b1;refine Bl ?_;simp only[FE,FX,Fc,Fq];refine Bl<|Bl<|DE ?_;show wpAny (model P w) _ (BS (.ref i1)>>=_) _ _ _;refine Bl<|D1.item k _ _ _ h1 (au D1 t1 b1 Z.d1.1) fun x g2 tk2 px u1 b2=>Bq ?_;replace b2:BO i1 g1 g2:=b2;have O2:Fg g2 TO a b:=b2.extBut _ _ Z.c8<|b1.extBut _ _ Z.c2 hO;refine Bl<|Cu O2 rfl<|Bl<|FL O2 fun g3 O3 b3=>?_;replace O3:Fg g3 TO x b:=O3;replace b3:BO TO g2 g3:=b3;refine Bl<|Ek<|Bq<|Bl<|Bl<|DE ?_;show wpAny (model P w) _ (BS (.ref i2)>>=_) _ _ _;refine Bl<|D2.item k _ _ _ h2 (au D2 (au D2 (au D2 t2 b1 Z.d2.1) b2 Z.d2.2.2) b3 Z.d2.2.1) fun y g4 tk4 py u2 b4=>Bq ?_;replace b4:BO i2 g3 g4:=b4;have O4:Fg g4 TO x b:=b4.extBut _ _ Z.c9 O3;refine Bl<|Cu O4 rfl<|Bl<|FL O4 fun g5 O5 b5=>?_;replace O5:Fg g5 TO x y:=O5;replace b5:BO TO g4 g5:=b5;refine Bl<|Ek<|Bq<|Bq<|Bl<|Cu O5 rfl<|Bl<|HP ?_;have sz:g5.objs.size=hp.objs.size:=by rw[b5.1,b4.1,b3.1,b2.1,b1.1]
 have y5:Ej g5 z TI TO .ellipsis:=b5.extBut _ _ Z.c2.symm<|b4.extBut _ _ Z.c4.symm<|b3.extBut _ _ Z.c2.symm<|b2.extBut _ _ Z.c3.symm y1;have k5:∀c o,c≠z->c≠TO->c≠i1->c≠i2->hp.get? c=some o->g5.get? c=some o:=fun c o e1 e2 e3 e4 e=>b5.extBut _ _ e2<|b4.extBut _ _ e4<|b3.extBut _ _ e2<|b2.extBut _ _ e3<|b1.extBut _ _ e1 e;have v1:S1 (k+1) g5:=au D1 (au D1 (au D1 u1 b3 Z.d1.2.1) b4 Z.d1.2.2) b5 Z.d1.2.1;have v2:S2 (k+1) g5:=au D2 u2 b5 Z.d2.2.1;have lz:z<g5.objs.size:=BA y5;show wpAny (model P w) _ (Dh (.ref z) (.ref g5.objs.size)>>=_) _ _ _;refine Bl ?_;unfold Dh;have y6:Ej (g5.push {cls:=.type "tuple",data:=.seq #[x,y]}) z TI TO .ellipsis:=Bp _ y5;refine Bl (Cw y6 (by simp) fun g7 y7 b7=>?_);replace y7:Ej g7 z TI TO (rawInt g5.objs.size):=y7;replace b7:BO z (g5.push {cls:=.type "tuple",data:=.seq #[x,y]}) g7:=b7;refine Cw y7 (by simp) fun g8 y8 b8=>?_;replace y8:Ej g8 z TI TO (rawInt g5.objs.size):=y8;replace b8:BO z g7 g8:=b8;have up:∀c o,c≠z->g5.get? c=some o->g8.get? c=some o:=fun c o e1 e=>b8.extBut _ _ e1<|b7.extBut _ _ e1<|Bp _ e;have T8:Fg g8 g5.objs.size x y:=b8.extBut _ _ (E3 lz)<|b7.extBut _ _ (E3 lz)<|By _ rfl;refine Bq ⟨_,rfl,Bq<|q x y g8 _ g5.objs.size px py sz y8 (up _ _ Z.c2 O5) (D1.frame _ _ _ v1 fun b hb o e=>up b o (fun q=>Z.d1.1<|q▸hb) e) (D2.frame _ _ _ v2 fun b hb o e=>up b o (fun q=>Z.d2.1<|q▸hb) e) T8 fun c o e1 e2 e3 e4 e=>up c o e1<|k5 c o e1 e2 e3 e4 e⟩
theorem so{Q:Option Bs->Bu->Prop}(hh:A.handled=none)(D1:Hq P w A.in1 i1 fp1 n1 P1 S1)(D2:Hq P w A.in1 i2 fp2 n2 P2 S2)(Z:ZApart z TI TO i1 i2 fp1 fp2)(hk:k=n1\/(k<n1/\k=n2))(hz:Ej s.heap z TI TO .none)
  (hI:Fg s.heap TI (.ref i1) (.ref i2)) (hO:Fg s.heap TO a b) (t1:S1 k s.heap) (t2:S2 k s.heap)
  (q:∀h' tk,(∀c o,c≠z->c≠TO->c≠i1->c≠i2->s.heap.get? c=some o->h'.get? c=some o)->Q none {s with heap:=h',toks:=tk}):
  wpAny (model P w) A (pyNext<|.ref z) Q E s:=by
 have hT:s.TypeIs (.ref z) "zip":=⟨_,hz,rfl⟩
 unfold pyNext;refine Bl<|E6<|Cn (name:=Bv "__next__") hT D5<|C7 D5 hT Ep ?_<|Ef _;obtain⟨hp,gg,dd,tk0,os⟩:=s;show wpAny (model P w) _ (field (.ref z) 2>>=_) _ _ _;refine Bl<|CG hz rfl (x:=.bool false) rfl ?_;show wpAny (model P w) _ (field (.ref z) 3>>=_) _ _ _;refine Bl<|CG hz rfl (x:=.ref TI) rfl<|Bl<|Cu hI rfl ?_;show wpAny (model P w) _ (C8 (.ref z)>>=_) _ _ _;refine Bl ?_;unfold C8;refine Bl<|CG hz rfl (x:=.none) rfl<|Bq ?_;simp only[if_true];refine Bl (FD (Bl (CG hz rfl (x:=.ref TO) rfl (Bl (Cw hz (by simp) fun g1 y1 b1=>?_)))));replace y1:Ej g1 z TI TO .ellipsis:=y1;replace b1:BO z hp g1:=b1;refine Bl ?_;simp only[FE,FX,Fc,Fq];refine Bl<|Bl<|DE ?_;show wpAny (model P w) _ (BS (.ref i1)>>=_) _ _ _;rcases hk with hk|⟨hk1,hk2⟩
 ·subst hk;refine Bl<|D1.done _ _ _ (au D1 t1 b1 Z.d1.1) fun g2 e b2 he=>?_;obtain⟨oe,hoe,hce⟩:=he;replace b2:EM i1 g1 g2:=b2;have y2:Ej g2 z TI TO .ellipsis:=b2 _ _ Z.c3.symm y1;have ez:e≠z:=fun x=>by subst x;rw[y2]at hoe;cases hoe;simp at hce
  refine Cw y2 (by simp) fun g3 _ b3=>?_;exact Bl<|DB (T:="StopIteration") (b:=true) ⟨oe,b3.extBut _ _ ez hoe,hce⟩ Eg<|Bq<|q g3 _ fun c o e1 _ e3 _ x=>b3.extBut _ _ e1<|b2 _ _ e3<|b1.extBut _ _ e1 x
 ·subst hk2;refine Bl<|D1.item k _ _ _ hk1 (au D1 t1 b1 Z.d1.1) fun x g2 tk2 px u1 b2=>Bq ?_;replace b2:BO i1 g1 g2:=b2;have O2:Fg g2 TO a b:=b2.extBut _ _ Z.c8<|b1.extBut _ _ Z.c2 hO;refine Bl<|Cu O2 rfl<|Bl<|FL O2 fun g3 O3 b3=>?_;replace b3:BO TO g2 g3:=b3;refine Bl<|Ek<|Bq<|Bl<|Bl<|DE ?_;show wpAny (model P w) _ (BS (.ref i2)>>=_) _ _ _;refine Bl<|D2.done _ _ _ (au D2 (au D2 (au D2 t2 b1 Z.d2.1) b2 Z.d2.2.2) b3 Z.d2.2.1) fun g4 e b4 he=>?_;obtain⟨oe,hoe,hce⟩:=he;replace b4:EM i2 g3 g4:=b4;have y4:Ej g4 z TI TO .ellipsis:=b4 _ _ Z.c4.symm<|b3.extBut _ _ Z.c2.symm<|b2.extBut _ _ Z.c3.symm y1;have ez:e≠z:=fun x=>by subst x;rw[y4]at hoe;cases hoe;simp at hce
  refine Cw y4 (by simp) fun g5 _ b5=>?_;exact Bl<|DB (T:="StopIteration") (b:=true) ⟨oe,b5.extBut _ _ ez hoe,hce⟩ Eg<|Bq<|q g5 _ fun c o e1 e2 e3 e4 x=>b5.extBut _ _ e1<|b4 _ _ e4<|b3.extBut _ _ e2<|b2.extBut _ _ e3<|b1.extBut _ _ e1 x
end
def z6(K:Br)(c1 c2:Src):It:=
  ⟨fun i H=>∃xs ys x y,c1.has K H xs/\c2.has K H ys/\xs[i]? =some x/\ys[i]? =some y,
   fun i H v H'=>∃p x y,H p=none/\v=.ref p/\(∀xs,c1.has K H xs->xs[i]? =some x)/\(∀ys,c2.has K H ys->ys[i]? =some y)/\H'=cN H p (.tup [x,y]),
   fun i H=>∃xs ys,c1.has K H xs/\c2.has K H ys/\(i=xs.length\/(i<xs.length/\i=ys.length))⟩
theorem Src.inj{X:Cx}{pins:List (Addr×Obj)}{σ:St}{H:Hp}{s:Bu}{c:Src}{xs ys:List V}(I:Inv X pins σ H s)(h1:c.has X.K H xs)(h2:c.has X.K H ys):xs=ys:=by
 cases c with
 |lst a=>exact I.list_inj h1 h2
 |tup a=>exact I.tuple_inj h1 h2
 |str l=>exact Eq.trans h1<|Eq.symm h2
theorem Src.at_keep{c:Src}{it:Addr}{i:Nat}{h h':Heap}(st:c.at it i h)(k:∀o,h.get? it=some o->h'.get? it=some o):c.at it i h':=by
 cases c with
 |lst a=>obtain⟨o,e,r⟩:=st;exact⟨o,k o e,r⟩
 |tup a=>obtain⟨o,e,r⟩:=st;exact⟨o,k o e,r⟩
 |str l=>
  obtain⟨t,st⟩:=st;rcases st with⟨o,e,r⟩|⟨o,e,r⟩
  ·exact⟨t,.inl ⟨o,k o e,r⟩⟩
  ·exact⟨t,.inr ⟨o,k o e,r⟩⟩
theorem Src.at_obj{c:Src}{it:Addr}{i:Nat}{h:Heap}(st:c.at it i h):∃o,h.get? it=some o/\∃vs,o.data=.fields vs:=by
 cases c with
 |lst a=>obtain⟨o,e,_,r⟩:=st;exact⟨o,e,_,r⟩
 |tup a=>obtain⟨o,e,_,r⟩:=st;exact⟨o,e,_,r⟩
 |str l=>
  obtain⟨t,st⟩:=st;rcases st with⟨o,e,_,r⟩|⟨o,e,_,r⟩
  ·exact⟨o,e,_,r⟩
  ·exact⟨o,e,_,r⟩
def AG(c1 c2:Src)(z TI TO i1 i2:Addr)(i:Nat)(h:Heap):Prop:=Ej h z TI TO .none/\Fg h TI (.ref i1) (.ref i2)/\(∃a b,Fg h TO a b)/\c1.at i1 i h/\c2.at i2 i h
structure ZIds(z TI TO i1 i2:Addr):Prop where
 c1:TI≠z
 c2:TO≠z
 c3:i1≠z
 c4:i2≠z
 c5:TI≠TO
 c6:TI≠i1
 c7:TI≠i2
 c8:TO≠i1
 c9:TO≠i2
 c10:i1≠i2
theorem sq{X:Cx}{pins:List (Addr×Obj)}{σ:St}{H:Hp}{s:Bu}{z TI TO i1 i2:Addr}{fp1 fp2:List Addr}(I:Inv X pins σ H s)(Z:ZIds z TI TO i1 i2)(hf:∀b∈[z,TI,TO,i1,i2],FpOk X pins H b)
  (g1:∀b∈fp1,b=i1\/H b≠none\/∃o,X.base.get? b=some o) (g2:∀b∈fp2,b=i2\/H b≠none\/∃o,X.base.get? b=some o):ZApart z TI TO i1 i2 fp1 fp2:=by
 have no:∀b∈[z,TI,TO,i1,i2],¬(H b≠none\/∃o,X.base.get? b=some o):=fun b hb q=>by
  rcases q with q|⟨o,q⟩
  ·exact q (hf b hb).1
  ·rcases (hf b hb).2.2.2.1 with y | y;·exact I.ok.noex b o q y
   ·exact absurd (BE (BE (BA q) I.ok.bsz) y)<|CZ _
 refine⟨Z.c1,Z.c2,Z.c3,Z.c4,Z.c5,Z.c6,Z.c7,Z.c8,Z.c9,⟨fun m=>?_,fun m=>?_,fun m=>?_⟩,⟨fun m=>?_,fun m=>?_,fun m=>?_⟩⟩;·exact(g1 _ m).elim (fun e=>Z.c3 e.symm) (no z (by simp))
 ·exact(g1 _ m).elim (fun e=>Z.c8 e) (no TO (by simp))
 ·exact(g1 _ m).elim (fun e=>Z.c10 e.symm) (no i2 (by simp))
 ·exact(g2 _ m).elim (fun e=>Z.c4 e.symm) (no z (by simp))
 ·exact(g2 _ m).elim (fun e=>Z.c9 e) (no TO (by simp))
 ·exact(g2 _ m).elim (fun e=>Z.c10 e) (no i1 (by simp))
theorem sr{P:BK}{w:BQ}{K:Br}{elts:List Expr}{kk:Nat}{tp:Pos}(c1 c2:Src)(z TI TO i1 i2:Addr)(Z:ZIds z TI TO i1 i2):
  Turn P w K (.Tuple elts kk tp) (z6 K c1 c2) [z,TI,TO,i1,i2] z (AG c1 c2 z TI TO i1 i2) where
 mem:=by simp
 obj:=fun i h st b hb=>by
  obtain⟨hz,hI,⟨a,b',hO⟩,t1,t2⟩:=st;obtain⟨o1,e1,v1,d1⟩:=Src.at_obj t1;obtain⟨o2,e2,v2,d2⟩:=Src.at_obj t2;simp only[BM,Cc,or_false]at hb;rcases hb with rfl|rfl|rfl|rfl|rfl;·exact⟨_,hz,fun v q=>by cases (show Ji _=FA v from q)⟩
  ·exact⟨_,hI,fun v q=>by cases (show HM _ _=FA v from q)⟩
  ·exact⟨_,hO,fun v q=>by cases (show HM _ _=FA v from q)⟩
  ·exact⟨_,e1,fun v q=>by rw[d1]at q;cases q⟩
  ·exact⟨_,e2,fun v q=>by rw[d2]at q;cases q⟩
 keep:=fun i h h' st k=>by
  obtain⟨hz,hI,⟨a,b',hO⟩,t1,t2⟩:=st;exact⟨k z (by simp) _ hz,k TI (by simp) _ hI,⟨a,b',k TO (by simp) _ hO⟩,Src.at_keep t1 (k i1 (by simp)),Src.at_keep t2 (k i2 (by simp))⟩
 item:=by
  intro X hP hw hK hc i pins s σ H E I hf st hg;subst hP hw hK;obtain⟨xs,ys,x,y,hx,hy,ex,ey⟩:=hg;obtain⟨hz,hI,⟨a,b',hO⟩,t1,t2⟩:=st;have hh:X.A.in1.handled=none:=I.ok.hd hc;obtain⟨fp1,P1,S1,D1,u1,r1,a1,_,g1⟩:=Src.draws (A:=X.A.in1) hh I hx t1 (hf i1 (by simp)).1;obtain⟨fp2,P2,S2,D2,u2,r2,a2,_,g2⟩:=Src.draws (A:=X.A.in1) hh I hy t2 (hf i2 (by simp)).1;have ZA:=sq I Z hf g1 g2;refine qx D1 D2 ZA (Bw.mp ex).1 (Bw.mp ey).1 hz hI hO u1 u2 fun vx vy h' tk T px py hT hz' hO' w1 w2 hTp kp=>?_;obtain⟨x',ex',rx⟩:=r1 i vx px;obtain⟨y',ey',ry⟩:=r2 i vy py;rw[ex]at ex';cases ex';rw[ey]at ey';cases ey';have nT:H T=none:=by rw[hT];exact I.hok.fresh<|BD _
  refine⟨_,rfl,Gz hz' fun h2 hz2 sb=>?_⟩;have lt:∀{c o},s.heap.get? c=some o->c≠T:=fun e=>by rw[hT];exact BL<|BA e
  have up:∀c o,c≠z->h'.get? c=some o->h2.get? c=some o:=fun c o hc e=>(sb.2 c hc).trans e;have kp2:∀b o,b∉[z,TO,i1,i2]->s.heap.get? b=some o->h2.get? b=some o:=fun b o hb e=>by
   simp only[BM,Cc,or_false,not_or]at hb;exact up b o hb.1<|kp b o hb.1 hb.2.1 hb.2.2.1 hb.2.2.2 e
  have ch:∀b∈[z,TO,i1,i2],b∈[z,TI,TO,i1,i2]:=fun b hb=>by
   simp only[BM,Cc,or_false]at hb ⊢;rcases hb with h|h|h|h<;>simp[h]
  have iO:∀b u,H b=some u->b∉[z,TO,i1,i2]/\b≠T:=fun b u e=>⟨fun hb=>(by rw[(hf b<|ch b hb).1]at e;cases e),fun q=>(by rw[q,nT]at e;cases e)⟩
  have I2:Inv X pins σ (cN H T<|.tup [x,y]) {s with heap:=h2,gens:=s.gens,drawn:=s.drawn,toks:=tk}:=by
   refine I.step (g':=s.gens) (d':=s.drawn) (t':=tk) (ch:=[z,TO,i1,i2]) (fun b hb=>⟨(hf b<|ch b hb).2.2.2.1,(hf b<|ch b hb).2.1,(hf b<|ch b hb).2.2.2.2.1,(hf b<|ch b hb).2.2.2.2.2⟩) (fun b o _ _ hb e _=>kp2 b o hb e) (fun b o _ _ hb e _=>⟨o.slots,kp2 b o hb e⟩)
    (fun b o hb e n=>by rw[aG<|lt e];exact n) (fun b o hb e=>⟨o,kp2 b o hb e⟩) (fun b xs e=>by rw[aG (iO b _ e).2];exact e) (fun b o u e=>by rw[aG (iO b _ e).2];exact e) (fun b ps e=>⟨#[],by rw[aG (iO b _ e).2,e];simp⟩) (fun m hm=>?_) (fun b u e=>?_) I.bare
   ·obtain⟨o,es,ep,ho,r⟩:=hm;exact⟨o,es,ep,kp2 _ o (fun hb=>(hf _<|ch _ hb).2.1 rfl) ho,r⟩
   ·by_cases hb:b=T
    ·subst hb;rw[aB]at e;cases e;refine⟨(by show 2<=sizeLine;rw[Cg];decide),[vx,vy],.cons rx<|.cons ry .nil,⟨_,up _ _ ?_ hTp,⟨rfl,rfl⟩,_,rfl⟩⟩;exact fun q=>lt hz q.symm
    ·rw[aG hb]at e;refine(I.hok b u e).stay (fun c v hc q=>kp2 c v ?_ q) (fun c q=>by rw[aG (iO c _ q).2];exact q) fun c xs q=>by rw[aG (iO c _ q).2];exact q
     rcases hc with q|q;·rw[q];exact(iO b u e).1
     ·exact(iO c _ q).1
  refine⟨.ref T,_,I2,rfl,⟨T,x,y,nT,rfl,fun xs' h=>by rw[Src.inj I h hx];exact ex,fun ys' h=>by rw[Src.inj I h hy];exact ey,rfl⟩,⟨hz2,up _ _ Z.c1<|kp _ _ Z.c1 Z.c5 Z.c6 Z.c7 hI,⟨_,_,up _ _ Z.c2 hO'⟩,Src.at_keep (a1 _ _ w1) fun o e=>up _ o Z.c3 e,Src.at_keep (a2 _ _ w2) fun o e=>up _ o Z.c4 e⟩,fun b hb=>?_⟩;have hbT:b≠T:=by
   obtain⟨o,e⟩:∃o,s.heap.get? b=some o:=by
    obtain⟨o1,e1,_⟩:=Src.at_obj t1;obtain⟨o2,e2,_⟩:=Src.at_obj t2;simp only[BM,Cc,or_false]at hb;rcases hb with rfl|rfl|rfl|rfl|rfl;·exact⟨_,hz⟩
    ·exact⟨_,hI⟩
    ·exact⟨_,hO⟩
    ·exact⟨_,e1⟩
    ·exact⟨_,e2⟩
   exact lt e
  rw[aG hbT];exact(hf b hb).1
 done:=by
  intro X hP hw hK hc i pins s σ H E I hf st hg;subst hP hw hK;obtain⟨xs,ys,hx,hy,hend⟩:=hg;obtain⟨hz,hI,⟨a,b',hO⟩,t1,t2⟩:=st;have hh:X.A.in1.handled=none:=I.ok.hd hc;obtain⟨fp1,P1,S1,D1,u1,r1,a1,_,g1⟩:=Src.draws (A:=X.A.in1) hh I hx t1 (hf i1 (by simp)).1;obtain⟨fp2,P2,S2,D2,u2,r2,a2,_,g2⟩:=Src.draws (A:=X.A.in1) hh I hy t2 (hf i2 (by simp)).1;have ZA:=sq I Z hf g1 g2;have ch:∀b∈[z,TO,i1,i2],b∈[z,TI,TO,i1,i2]:=fun b hb=>by
   simp only[BM,Cc,or_false]at hb ⊢;rcases hb with h|h|h|h<;>simp[h]
  refine so hh D1 D2 ZA hend hz hI hO u1 u2 fun h2 tk kp=>⟨rfl,?_⟩
  have kp2:∀b o,b∉[z,TO,i1,i2]->s.heap.get? b=some o->h2.get? b=some o:=fun b o hb e=>by
   simp only[BM,Cc,or_false,not_or]at hb;exact kp b o hb.1 hb.2.1 hb.2.2.1 hb.2.2.2 e
  refine I.step (g':=s.gens) (d':=s.drawn) (t':=tk) (ch:=[z,TO,i1,i2]) (fun b hb=>⟨(hf b<|ch b hb).2.2.2.1,(hf b<|ch b hb).2.1,(hf b<|ch b hb).2.2.2.2.1,(hf b<|ch b hb).2.2.2.2.2⟩) (fun b o _ _ hb e _=>kp2 b o hb e) (fun b o _ _ hb e _=>⟨o.slots,kp2 b o hb e⟩)
   (fun b o hb e n=>n) (fun b o hb e=>⟨o,kp2 b o hb e⟩) (fun b xs e=>e) (fun b o u e=>e) (fun b ps e=>⟨#[],by rw[e];simp⟩) (fun m hm=>?_) (fun b u e=>?_) I.bare
  ·obtain⟨o,es,ep,ho,r⟩:=hm;exact⟨o,es,ep,kp2 _ o (fun hb=>(hf _<|ch _ hb).2.1 rfl) ho,r⟩
  ·have iO:∀b u,H b=some u->b∉[z,TO,i1,i2]:=fun b u e hb=>by rw[(hf b<|ch b hb).1]at e;cases e
   refine(I.hok b u e).stay (fun c v hc q=>kp2 c v ?_ q) (fun c q=>q) fun c xs q=>q;rcases hc with q|q
   ·rw[q];exact iO b u e
   ·exact iO c _ q
 self:=fun _ _ _ _ _ st h=>FF st.1 h
theorem iY(n a b:Nat)(h:a≠b): @Ne Nat (n+a) (n+b):=fun e=>h<|Nat.add_left_cancel e
def xB(K:Br)(t:TA):TI:=fun σ H R=>t σ H fun vs H1=>∃c1 c2 xs ys,vs=[c1.val,c2.val]/\c1.has K H1 xs/\c2.has K H1 ys/\R (z6 K c1 c2) H1
theorem xC{X:Cx}{a b:Expr}{ta:TA}{p pos tp:Pos}{elts:List Expr}{kk:Nat}(hg:Gl X "zip")(hm:X.mg "zip"=none)(ha:PA X [a,b] ta)
  (hs:starEach [a,b] X.env=[(false,eval a X.env),(false,eval b X.env)]:=by rfl) (hs2:starEach [b] X.env=[(false,eval b X.env)]:=by rfl):PI X (.Tuple elts kk tp) (.Call (.Name "zip" p) [a,b] [] pos) (xB X.K ta):=by
 intro pins s σ H R I h;refine Call_ (gE I hg hm boot_zip (Dq (cm (ha pos pins s σ H _ I h) fun us s1⟨vs,H1,I1,r1,q1⟩=>?_) (by rw[hs,hs2]) (by rw[hs2];rfl)));obtain⟨c1,c2,xs,ys,e,h1,h2,q⟩:=q1;subst e;obtain⟨v1,v2,rfl,ra,rb⟩:=kB r1;obtain⟨o1,i1,f1,n1⟩:=Src.iter I1 h1 ra fun _ _ e=>e;obtain⟨o2,i2,f2,n2⟩:=Src.iter (h:=s1.heap.push o1) I1 h2 rb fun _ _ e=>Bp _ e;have z1:(s1.heap.push o1).objs.size=s1.heap.objs.size+1:=Ci ..;rw[z1]at n2;refine qw i1 i2 f1 f2 fun h' hz hI hO e1 e2 kp=>?_;refine FF hz ?_;have zi:∀n:Nat,ZIds (n+4) (n+2) (n+3) n (n+1):=fun n=>⟨(iY n 2 4 (by decide)),(iY n 3 4 (by decide)),(iY n 0 4 (by decide)),(iY n 1 4 (by decide)),(iY n 2 3 (by decide)),(iY n 2 0 (by decide)),(iY n 2 1 (by decide)),(iY n 3 0 (by decide)),(iY n 3 1 (by decide)),(iY n 0 1 (by decide))⟩
 refine⟨s1.heap.objs.size+4,[s1.heap.objs.size+4,s1.heap.objs.size+2,s1.heap.objs.size+3,s1.heap.objs.size,s1.heap.objs.size+1],_,_,H1,rfl,I1.kept (t':=s1.toks) kp,sr c1 c2 _ _ _ _ _<|zi s1.heap.objs.size,⟨hz,hI,⟨_,_,hO⟩,n1 h' e1,n2 h' e2⟩,fun b hb=>?_,q⟩;have hb':s1.heap.objs.size<=b:=by
  simp only[BM,Cc,or_false]at hb;rcases hb with z|z|z|z|z<;>rw[z]
  ·exact CF _ 4
  ·exact CF _ 2
  ·exact CF _ 3
  ·exact BD _
  ·exact CF _ 1
 exact I1.fpOk hb'<|I1.hok.fresh hb'
theorem vv{K:Br}{c1 c2:Src}{xs ys:List V}{g:TG}{tb:TS}{D:Ends}{σ:St}{H:Hp}(Pv:Nat->St->Hp->Prop)(h0:Pv 0 σ H)(hl:∀i σ H,Pv i σ H->c1.has K H xs/\c2.has K H ys)(hn:xs.length=ys.length)
  (hs:∀i x y p σ H,xs[i]? =some x->ys[i]? =some y->H p=none->Pv i σ H->g (.ref p) σ (cN H p<|.tup [x,y]) fun σ2 H2=>tb {D with nx:=Pv<|i+1,ct:=Pv<|i+1,bk:=D.nx} σ2 H2) (hd:∀σ H,Pv xs.length σ H->D.nx σ H):
  ∃W:Nat->Nat->St->Hp->Prop,(∃m,W 0 m σ H)/\ ∀i m σ H,W i m σ H->
   ((z6 K c1 c2).stop i H/\D.nx σ H)\/((z6 K c1 c2).go i H/\∃N:St->Hp->Prop,(∀σ' H',N σ' H'->∃m',m'<m/\W (i+1) m' σ' H')/\∀x H',(z6 K c1 c2).yld i H x H'->g x σ H' fun σ2 H2=>tb {D with nx:=N,ct:=N,bk:=D.nx} σ2 H2):=by
 refine⟨fun i m σ H=>m=xs.length-i/\i<=xs.length/\Pv i σ H,⟨xs.length,by simp,HN _,h0⟩,?_⟩;rintro i m σ H ⟨rfl,hi,p⟩;obtain⟨q1,q2⟩:=hl i σ H p;by_cases hlt:i<xs.length
 ·refine .inr ⟨⟨xs,ys,xs[i],ys[i],q1,q2,by simp[hlt],by simp[<-hn,hlt]⟩,Pv<|i+1,fun σ' H' p'=>⟨xs.length- (i+1),by omega,rfl,hlt,p'⟩,fun v H' ⟨a,x,y,na,ev,ex,ey,eh⟩=>?_⟩;subst ev eh;exact hs i x y a σ H (ex xs q1) (ey ys q2) na p
 ·have e:i=xs.length:=by omega
  subst e;exact .inl ⟨⟨xs,ys,q1,q2,.inl rfl⟩,hd σ H p⟩
structure Cal(P:BK)(w:BQ)(K:Br)(mg:Str->Option Bs)(base:Heap)(x:Str)(ps:List Str)(k:Nat)(sp:Sp):Prop where
 ex:∃(f:Addr)(fd:BW),FnOk P w K mg base CX0 k f fd ps sp/\mg x=some (.ref f)/\Eb K (.ref f)=true/\Binds K fd ps []
theorem su{X:Cx}{x:Str}{ps:List Str}{k:Nat}{sp:Sp}{p pos:Pos}{e:Expr}{es:List Expr}{t:TA}(C:Cal X.prog X.w X.K X.mg X.base x ps k sp)(hr:Room k X.A)(hg:Gl X x)(ha:PA X (e::es) t)
  (hdb:(x==("__debug__" :Str))=false:=by decide) (he:starEach (e::es) X.env=(false,eval e X.env)::starEach es X.env:=by rfl) (hpl:(backTo pos<|starEach es X.env).any (·.1)=false:=by rfl):
  PE X (.Call (.Name x p) (e::es) [] pos) (aV sp [] E0 t):=by
 obtain⟨f,fd,F,hm,hk,hb⟩:=C.ex;exact vg F hr hg hm hk hb .nil yV ha hdb he hpl
theorem jl{X:Cx}{scope:EI}{N:List Str}{cap:List (Option Nat)}(kind:scope.kind=.function)(nd:N.Nodup)(len:cap.length=N.length)(uniq:(scope.names.map (·.1)).Nodup)
  (fr:(scope.names.all fun x=>x.2 != .free||(X.env.kindOf x.1==some .cell||X.env.kindOf x.1==some .free))=true)
  (cp:((N.zip cap).all fun p=>match p.2 with|none=>true|some j=>X.N[j]? ==some p.1&&scope.names.contains (p.1,D0))=true):CompScope X scope N cap:=by
 refine⟨kind,nd,len,uniq,fun x hx hk=>?_,fun k x j h1 h2=>?_⟩
 ·have:=CM.mp fr x hx;rw[hk]at this;simpa using this
 ·have hm:(x,some j)∈N.zip cap:=by
   rw[Ey];exact⟨k,by rw[Co];exact⟨h1,h2⟩⟩
  have:=CM.mp cp _ hm;simpa using this
def flat:V->Bool
 | .non=>true
 | .bl _=>true
 | .int _=>true
 | .str _=>true
 |_=>false
theorem dX{H:Hp}{p:Addr}{o:HO}(h:H p=none):Same H (cN H p o):=fun b u e=>by rw[aG<|cn e h];exact e
theorem fB(x:String)(l:List Nat)(h:(Bv x).cps.toList=l):Bv x=aT l:=by rw[rZ<|Bv x,h]
section
variable{X:Cx}{K:Br}{w:BQ}
theorem aO(h:X.K=K):yz X (cy K):=h▸xv
theorem aJ(h:X.K=K):yz X (cf K):=h▸vi
theorem aQ(h:X.K=K):dh X (.builtin "len") (fun xs H Q=>∃x n,xs=[x]/\mz K x H n/\Q (.int n) H):=h▸rR
theorem bu(h:X.K=K):dh X (.builtin "isinstance") (fun xs H Q=>∃x T t b,xs=[x,.ty T]/\TyOf K H x t/\DG K t (.type T)=some b/\Q (.bl b) H):=h▸mH
theorem sv(h:X.K=K):yT X "str.join" (fun x xs H Q=>∃(p:Addr)(ys:List (List Nat)),x=.str (aT [])/\xs=[.ref p]/\SqL K H p (ys.map fun y=>Fz<|aT y)/\ys.flatten.length<=100000/\Q (.str<|aT ys.flatten) H):=h▸vp
theorem mM(h:X.K=K):zH X (cz K):=h▸vj
theorem kK(h:X.K=K)(hw:X.w=w){o i:Expr}{pos:Pos}{td ty:TE}(ho:PE X o td)(hi:PE X i ty)(hs:xy i):PE X (.Subscript o i pos) (aR K w td ty):=h▸hw▸sd ho hi hs
theorem bZ(h:X.K=K){pos:Pos}{es:List Expr}{k:Nat}{t:wW}{n:Nat}(hc:X.calm=true)(hg:yN X es t)(hn:(assignEach es X.env).length=n:=by rfl)(hst:(assignEach es X.env).findIdx? (·.1)=none:=by rfl):PG X (.Tuple es k pos) (cu K n t):=h▸xp hc hg hn hst
theorem bJ(h:X.K=K){tg l:Expr}{tl:TE}(hl:PE X l tl):PI X tg l (rM K tl):=h▸vd hl
theorem gi(h:X.K=K){a b:Expr}{ta:TA}{p pos tp:Pos}{elts:List Expr}{kk:Nat}(hg:Gl X "zip")(hm:X.mg "zip"=none)(ha:PA X [a,b] ta)
  (hs:starEach [a,b] X.env=[(false,eval a X.env),(false,eval b X.env)]:=by rfl) (hs2:starEach [b] X.env=[(false,eval b X.env)]:=by rfl):PI X (.Tuple elts kk tp) (.Call (.Name "zip" p) [a,b] [] pos) (xB K ta):=h▸xC hg hm ha hs hs2
theorem gJ(h:X.K=K){o e:Expr}{es:List Expr}{to:TE}{t:TA}{name:Str}{apos cpos:Pos}{T id:String}{r:V->List V->Hp->VK->Prop}(pa:PlainAttrs T)(slot:Slot T name id)(hty:typeOf (.builtin id)=pure (.type "method_descriptor"))(hm:yT X id r)(ho:PE X o to)(ha:PA X (e::es) t)
  (hbase:attributeBase o name X.env (eval o X.env)=eval o X.env:=by rfl)
  (hfew:((backTo cpos<|starEach (e::es) X.env).all (fun x=> !x.1)&&(backToKw cpos<|keywordEach [] X.env).all (fun x=>x.1.isSome)&&decide ((e::es).length+([]:List IK).length+(if([]:List IK).isEmpty then 0 else 1)<30))=true:=by rfl)
  (hline:(apos.endLine==cpos.line)=true:=by rfl) (hs:starEach (e::es) X.env=(false,eval e X.env)::starEach es X.env:=by rfl) (hplain:(backTo cpos<|starEach es X.env).any (·.1)=false:=by rfl):
  PE X (.Call (.Attribute o name apos) (e::es) [] cpos) (eJ K T r to t):=h▸yU pa slot hty hm ho ha hbase hfew hline hs hplain
end
end L2
open L2.Src renaming at_keep->FU,at_obj->Gy,draws->Hc,iter->KU,inj->Li
namespace Wb
open PySem L2
abbrev Rp(α:Type):=Hp->α->V->Prop
class Mono{α:Type}(R:Rp α):Prop where
 mono:∀{H H':Hp}{m:α}{v:V},Same H H'->R H m v->R H' m v
def LR{α:Type}(R:Rp α)(H:Hp)(ms:List α)(vs:List V):Prop:=vs.length=ms.length/\∀(i:Nat)(v:V)(m:α),vs[i]? =some v->ms[i]? =some m->R H m v
theorem LR.nil{α:Type}{R:Rp α}{H:Hp}:LR R H [] []:=⟨rfl,fun i v m e=>by simp at e⟩
theorem LR.same{α:Type}{R:Rp α}[Mono R]{H H':Hp}{ms:List α}{vs:List V}(h:LR R H ms vs)(e:Same H H'):LR R H' ms vs:=⟨h.1,fun i v m a b=>Mono.mono e<|h.2 i v m a b⟩
theorem LR.snoc{α:Type}{R:Rp α}{H:Hp}{ms:List α}{vs:List V}{m:α}{v:V}(h:LR R H ms vs)(r:R H m v):LR R H (ms++[m]) (vs++[v]):=by
 refine⟨by simp[h.1],fun i v' m' a b=>?_⟩;by_cases hi:i<vs.length
 ·rw[BG hi]at a;rw[BG (by rw[<-h.1];exact hi)]at b;exact h.2 i v' m' a b
 ·rw[BH (by omega)]at a;rw[BH (by rw[<-h.1];omega)]at b;rw[<-h.1]at b;cases e:i-vs.length with
  |zero=>rw[e]at a b;simp at a b;subst a b;exact r
  |succ n=>rw[e]at a;simp at a
theorem LR.get{α:Type}{R:Rp α}{H:Hp}{ms:List α}{vs:List V}{i:Nat}{m:α}(h:LR R H ms vs)(e:ms[i]? =some m):∃v,vs[i]? =some v/\R H m v:=by
 have hi:i<vs.length:=by rw[h.1];exact(Bw.mp e).1
 exact⟨vs[i],by simp[hi],h.2 i _ m (by simp[hi]) e⟩
def isL{α:Type}(R:Rp α):Rp (List α):=fun H ms v=>∃p vs,v=.ref p/\H p=some (.lst vs)/\LR R H ms vs
instance zkeep1{α:Type}{R:Rp α}[Mono R]:Mono (isL R):=⟨fun e⟨p,vs,h1,h2,h3⟩=>⟨p,vs,h1,e _ _ h2,h3.same e⟩⟩
def isS:Rp (List Nat):=fun _ l v=>v=.str (aT l)
instance zkeep2:Mono isS:=⟨fun _ h=>h⟩
def isI:Rp Int:=fun _ l v=>v=.int l
instance zkeep4:Mono isI:=⟨fun _ h=>h⟩
theorem LR.str{H:Hp}{ms:List (List Nat)}{vs:List V}(h:LR isS H ms vs):vs=ms.map fun l=>Fz (aT l):=by
 refine Dw fun i=>?_;rw[Bz];cases e:ms[i]? with
 |none=>rw[Cb]at e;rw[Cb.mpr (by rw[h.1];exact e)];rfl
 |some m=>obtain⟨v,a,b⟩:=h.get e;rw[a];cases b;rfl
end Wb
open Wb.Mono renaming mono->Bk
namespace L2
open PySem PySem.Spec PyProof.Rows
section
variable{X:Cx}{K:Br}{w:BQ}
theorem dP(h:X.K=K):dh X (.type "list") (fun xs H Q=>∃p ys,xs=[.ref p]/\(SqL K H p ys\/SqT K H p ys)/\∀l,H l=none->Q (.ref l) (cN H l<|.lst ys)):=h▸lq
end
end L2
namespace Wb
open PySem L2
theorem LR.take{α:Type}{R:Rp α}{H:Hp}{ms:List α}{vs:List V}(h:LR R H ms vs)(k:Nat):LR R H (ms.take k) (vs.take k):=by
 refine⟨by simp[h.1],fun i v m a b=>?_⟩;rw[List.getElem?_take]at a b;split at a;·rw[if_pos (by assumption)]at b;exact h.2 i v m a b
 ·cases a
theorem LR.drop{α:Type}{R:Rp α}{H:Hp}{ms:List α}{vs:List V}(h:LR R H ms vs)(k:Nat):LR R H (ms.drop k) (vs.drop k):=by
 refine⟨by simp[h.1],fun i v m a b=>?_⟩;rw[CT]at a b;exact h.2 _ v m a b
theorem none_of{H H':Hp}{p:Addr}(e:Same H H')(h:H' p=none):H p=none:=by
 cases z:H p with
 |none=>rfl
 |some x=>have:=e _ _ z;rw[h]at this;cases this
theorem qy{H H3:Hp}{p:Addr}{o:HO}(e:Same H H3)(h:H p=none):Same H (cN H3 p o):=fun a u z=>by
 rw[aG<|cn z h];exact e _ _ z
end Wb
namespace L2
open PySem PySem.Spec PyProof.Rows
theorem fW:∀(xs:List V)(us:List Bs),us.length=xs.length->(∀(j:Nat)(x:V)(u:Bs),xs[j]? =some x->us[j]? =some u->RelV x u)->Vals xs us
 | [],[],_,_=>.nil
 |x::xs,u::us,hl,h=>.cons (h 0 x u rfl rfl) (fW xs us (by simpa using hl) fun j x u a b=>h (j+1) x u (by simpa using a) (by simpa using b))
 | [],_::_,hl,_=>by simp at hl
 |_::_,[],hl,_=>by simp at hl
theorem fg{α β:Type}{F:α->β->Prop}:∀{l₁:List α}{l₂:List β},Paired F l₁ l₂->∀{j:Nat}{b:β},l₂[j]? =some b->∃a,l₁[j]? =some a/\F a b
 |_,_,.nil,j,b,h=>by simp at h
 |_,_,.cons r rs,0,b,h=>by simp at h;subst h;exact⟨_,rfl,r⟩
 |_,_,.cons r rs,j+1,b,h=>by simp at h;obtain⟨a,h1,h2⟩:=fg rs h;exact⟨a,by simpa using h1,h2⟩
section
variable{X:Cx}{K:Br}{w:BQ}
theorem lC(h:X.K=K):dh X (.builtin "sorted") (fun xs H Q=>∃(p:Addr)(ns:List Int),xs=[.ref p]/\SqL K H p (ns.map ER)/\ns.length<64/\∀(q:Addr)(ns':List Int),H q=none->ns'.Perm ns->ns'.Pairwise (· <= ·)->Q (.ref q) (cN H q<|.lst<|ns'.map ER)):=by
 subst h;intro pins s σ H xs us Q I r h;obtain⟨p,ns,rfl,hq,h64,q⟩:=h;obtain⟨u,rfl,rx⟩:=eN r;cases rx;obtain⟨its,r',pl,hz⟩:=I.list hq;have hi:=nR r';have hlen:=IntsAre.length hi;refine sorted_ints pl.isList hi (by omega) fun out ns' a1 a2 a3=>?_;obtain⟨e,he⟩:=sortedAll_at s.heap its out;have hl':=a2.length_eq;refine⟨.ref<|s.heap.objs.size+1,_,I.laid (t':=s.toks) (fun _ _=>sortedAll_old) (GF _) (show ObjOk X.prog X.w _ _ _ (.lst<|ns'.map ER)from⟨by rw[BJ,Cg];omega,out.toList,e,iy a1,by rw[HQ];exact he⟩),rfl,q _ ns' (I.hok.fresh<|GF _) a2 a3⟩
theorem gB(h:X.K=K):OpR X (compareOp .NotIn) (fJ K true):=h▸ll
end
end L2
namespace L2
theorem lD{k:Nat}{A:Ck}(r:Room k A):A.units+1<KQ:=by have:=r.un;omega
end L2
namespace L2
open PySem PySem.Spec PyProof.Rows
def sx(K:Br)(te:TE)(tk:TO):TE:=fun σ H Q=>te σ H fun x H1=>tk σ H1 fun k H2=>∃a xs,x=.ref a/\k=some (-1)/\SqL K H2 a xs/\∀p,H2 p=none->Q (.ref p) (cN H2 p<|.lst xs.reverse)
theorem sy{xs:List V}{us:List Bs}(r:Vals xs us):Vals xs.reverse us.reverse:=by
 induction r with
 |nil=>exact .nil
 |cons h t ih=>rw[IM,IM];exact Paired.snoc ih h
theorem mN{X:Cx}{K:Br}(hK:X.K=K){e st:Expr}{te:TE}{tk:TO}{pos p2:Pos}(ops:Addr->Addr->List Bs)(hs:∀a b:Addr,subscripted (.Slice none none (some st) p2) false (.ref a) (.ref b)=operate (ops a b) (getItem (.ref a)<|.ref b))(he:PE X e te)(hk:PO X (some st) tk):PE X (.Subscript e (.Slice none none (some st) p2) pos) (sx K te tk):=by
 subst hK;intro pins s σ H Q I h;refine Im<|cm (he pins s σ H _ I h) fun v s1 zz=>?_;obtain⟨x,H1,I1,r1,q1⟩:=zz;refine wpAny_Slice ?_;rw[HX];refine Bq ?_;refine Bq ?_;refine cm (hk pins s1 σ H1 _ I1 q1) fun vk s3 zz=>?_;obtain⟨k,H3,I3,pk,q3⟩:=zz;obtain⟨a,xs,rfl,rfl,hx,q⟩:=q3;cases r1;have I4:Inv X pins σ H3 {s3 with heap:=s3.heap.push {cls:=.type "slice",data:=.fields #[.none,.none,vk]}}:=I3.kept (t':=s3.toks) fun b ob q=>Bp _ q;obtain⟨its,r,ht,hz⟩:=I4.list hx;have hlen:=r.length;show wpAny (model X.prog X.w) X.A (subscriptTail e (.Slice none none (some st) p2) (.ref a)<|.ref s3.heap.objs.size) (EP X pins σ Q) X.xe {s3 with heap:=s3.heap.push {cls:=.type "slice",data:=.fields #[.none,.none,vk]}};refine KI (ops:=ops a s3.heap.objs.size) ht.isList.typeIs GD.lookup ?_<|hs _ _;refine GN ht.isList (Io ..) .none .none pk (by decide) ?_ (by rw[BB];omega);rw[PySem.W.krv_pick];refine⟨.ref _,_,I4.laid (t':=s3.toks) (o:=.lst xs.reverse) (fun b ob q=>Bp _ q) (BD _) ?_,rfl,q _<|I4.hok.fresh<|BD _⟩;exact⟨by rw[List.length_reverse];exact hz,_,0,sy r,By _ rfl⟩
end L2
namespace Wb
open PySem L2
end Wb
namespace L2
open PySem PySem.Spec PyProof.Rows Wb
end L2
namespace L2
open PySem PySem.Spec PyProof.Rows
abbrev bV(h:Heap)(T:Addr)(a b c:Bs):Prop:=h.get? T=some {cls:=.type "tuple",data:=.seq #[a,b,c]}
def z7(h:Heap)(o1 o2 o3:Obj):Heap:=(((h.push o1).push o2).push o3).push {cls:=.type "tuple",data:=.seq #[.ref h.objs.size,.ref (h.push o1).objs.size,.ref ((h.push o1).push o2).objs.size]}
def z8(h:Heap)(o1 o2 o3:Obj):Heap:=(z7 h o1 o2 o3).push {cls:=.type "tuple",data:=.seq #[.none,.none,.none]}
def xD(h:Heap)(o1 o2 o3:Obj):Heap:=(z8 h o1 o2 o3).push {cls:=.type "zip",data:=.fields #[.none,.bool false,.bool false,.ref (((h.push o1).push o2).push o3).objs.size,.ref (z7 h o1 o2 o3).objs.size]}
theorem jX(v1 v2 v3:Bs)(o1 o2 o3:Obj):Meets (DS.«zip.__new__» ⟨[.type "zip",v1,v2,v3],[]⟩) (fun _ R s=>eP v1 s.heap o1/\eP v2 (s.heap.push o1) o2/\eP v3 ((s.heap.push o1).push o2) o3/\R (.ok<|.ret<|.ref (z8 s.heap o1 o2 o3).objs.size) {s with heap:=xD s.heap o1 o2 o3}):=
 .of_wp fun prog w A R s h=>by
  obtain⟨hp,g,d,tk,os⟩:=s;obtain⟨i1,i2,i3,h⟩:=h;have hsub:=sub_zip;have j1:=fun(A:Ck)(E:Bs->Bu->Prop)(Q:Bs->Bu->Prop)(q:Q _ _)=>i1 prog w A E Q ⟨hp,g,d,tk,os⟩ rfl q;have j2:=fun(A:Ck)(E:Bs->Bu->Prop)(Q:Bs->Bu->Prop)(q:Q _ _)=>i2 prog w A E Q ⟨hp.push o1,g,d,tk,os⟩ rfl q;have j3:=fun(A:Ck)(E:Bs->Bu->Prop)(Q:Bs->Bu->Prop)(q:Q _ _)=>i3 prog w A E Q ⟨(hp.push o1).push o2,g,d,tk,os⟩ rfl q
  wp_walk using j1 _ _ _,j2 _ _ _,j3 _ _ _
  exact⟨_,rfl,h⟩
theorem jm(a b c:Bs):checkTypeCall "zip" ⟨[a,b,c],[]⟩=pure ():=by kernel_rfl
theorem jY(a b c:Bs):checkBuiltinCall "zip.__new__" ⟨[.type "zip",a,b,c],[]⟩=pure ():=by kernel_rfl
theorem gK(a b c d:Bs):argsOk "object.__init__" ⟨[a,b,c,d],[]⟩:=by
 unfold argsOk;rw[Hr (id:="object.__init__") (n:=['_','_','t','i','n','i','_','_']) (o:=['t','c','e','j','b','o']) (by kernel_rfl) PySem.F.owner_object];kernel_rfl
theorem qz{P:BK}{w:BQ}{A:Ck}{E:Bs->Bu->Prop}{s:Bu}{v1 v2 v3:Bs}{o1 o2 o3:Obj}{Q:Bs->Bu->Prop}(i1:eP v1 s.heap o1)(i2:eP v2 (s.heap.push o1) o2)(i3:eP v3 ((s.heap.push o1).push o2) o3)
  (f1:o1.isFreed=false) (f2:o2.isFreed=false) (f3:o3.isFreed=false)
  (q:∀h',Ej h' (s.heap.objs.size+5) (s.heap.objs.size+3) (s.heap.objs.size+4) .none->bV h' (s.heap.objs.size+3) (.ref s.heap.objs.size) (.ref<|s.heap.objs.size+1) (.ref<|s.heap.objs.size+2)->bV h' (s.heap.objs.size+4) .none .none .none->
   h'.get? s.heap.objs.size=some o1->h'.get? (s.heap.objs.size+1)=some o2->h'.get? (s.heap.objs.size+2)=some o3->(∀c o,s.heap.get? c=some o->h'.get? c=some o)->Q (.ref (s.heap.objs.size+5)) {s with heap:=h'}):
  wpAny (model P w) A (call (.type "zip") [v1,v2,v3]) Q E s:=by
 refine callType_new Iz (by decide) (jm _ _ _) (jY _ _ _) (fun obj=>gK obj _ _ _) Hy (jX v1 v2 v3 o1 o2 o3) ⟨i1,i2,i3,?_⟩;have z1:(s.heap.push o1).objs.size=s.heap.objs.size+1:=Ci ..;have z2:((s.heap.push o1).push o2).objs.size=s.heap.objs.size+2:=by rw[Ci,z1]
 have z3:(((s.heap.push o1).push o2).push o3).objs.size=s.heap.objs.size+3:=by rw[Ci,z2]
 have z4:(z7 s.heap o1 o2 o3).objs.size=s.heap.objs.size+4:=by unfold z7;rw[Ci,z3]
 have z5:(z8 s.heap o1 o2 o3).objs.size=s.heap.objs.size+5:=by unfold z8;rw[Ci,z4]
 have g6:(xD s.heap o1 o2 o3).get? (z8 s.heap o1 o2 o3).objs.size=some _:=By _ rfl;have g5:(xD s.heap o1 o2 o3).get? (z7 s.heap o1 o2 o3).objs.size=some _:=Bp _<|By _ rfl;have g4:(xD s.heap o1 o2 o3).get? (((s.heap.push o1).push o2).push o3).objs.size=some _:=Bp _<|Bp _<|By _ rfl;have g3:(xD s.heap o1 o2 o3).get? ((s.heap.push o1).push o2).objs.size=some o3:=Bp _<|Bp _<|Bp _<|By _ f3;have g2:(xD s.heap o1 o2 o3).get? (s.heap.push o1).objs.size=some o2:=Bp _<|Bp _<|Bp _<|Bp _<|By _ f2;have g1:(xD s.heap o1 o2 o3).get? s.heap.objs.size=some o1:=Bp _<|Bp _<|Bp _<|Bp _<|Bp _<|By _ f1;show _/\_;rw[z3,z4,z5]at g6;rw[z1,z2,z3]at g4;rw[z4]at g5;rw[z2]at g3;rw[z1]at g2;rw[z5];exact⟨⟨_,g6,rfl⟩,q _ g6 g4 g5 g1 g2 g3 fun c o x=>Bp _<|Bp _<|Bp _<|Bp _<|Bp _<|Bp _ x⟩
section
variable{P:BK}{w:BQ}{A:Ck}{E:Bs->Bu->Prop}{s:Bu}{z TI TO i1 i2 i3:Addr}{fp1 fp2 fp3:List Addr}{n1 n2 n3 k:Nat}{P1 P2 P3:Nat->Bs->Prop}{S1 S2 S3:Nat->Heap->Prop}{a b c:Bs}
theorem bG{T:Addr}{a b c x:Bs}{k:Nat}{Q:Unit->Bu->Prop}(hT:bV s.heap T a b c)
  (h:∀h',h'.get? T=some {cls:=.type "tuple",data:=.seq ((#[a,b,c]:Array Bs).setIfInBounds k x)}->BO T s.heap h'->Q () {s with heap:=h'}):
  wpAny (model P w) A (updateSeq T (·.setIfInBounds k x)) Q E s:=by
 refine wpAny_updateSeq hT rfl<|h _ ?_<|CJ ..;rw[Dj _ hT rfl];simp[DA]
structure ZApart3(z TI TO i1 i2 i3:Addr)(fp1 fp2 fp3:List Addr):Prop where
 c1:TI≠z
 c2:TO≠z
 c3:i1≠z
 c4:i2≠z
 c4':i3≠z
 c5:TI≠TO
 c6:TI≠i1
 c7:TI≠i2
 c7':TI≠i3
 c8:TO≠i1
 c9:TO≠i2
 c9':TO≠i3
 d1:z∉fp1/\TO∉fp1/\i2∉fp1/\i3∉fp1
 d2:z∉fp2/\TO∉fp2/\i1∉fp2/\i3∉fp2
 d3:z∉fp3/\TO∉fp3/\i1∉fp3/\i2∉fp3
theorem qF{Q:Option Bs->Bu->Prop}(D1:Hq P w A.in1 i1 fp1 n1 P1 S1)(D2:Hq P w A.in1 i2 fp2 n2 P2 S2)(D3:Hq P w A.in1 i3 fp3 n3 P3 S3)(Z:ZApart3 z TI TO i1 i2 i3 fp1 fp2 fp3)(h1:k<n1)(h2:k<n2)(h3:k<n3)(hz:Ej s.heap z TI TO .none)
  (hI:bV s.heap TI (.ref i1) (.ref i2) (.ref i3)) (hO:bV s.heap TO a b c) (t1:S1 k s.heap) (t2:S2 k s.heap) (t3:S3 k s.heap)
  (q:∀x y u h' tk T,P1 k x->P2 k y->P3 k u->T=s.heap.objs.size->Ej h' z TI TO (rawInt T)->bV h' TO x y u->S1 (k+1) h'->S2 (k+1) h'->S3 (k+1) h'->bV h' T x y u->
   (∀c o,c≠z->c≠TO->c≠i1->c≠i2->c≠i3->s.heap.get? c=some o->h'.get? c=some o)->Q (some (.ref T)) {s with heap:=h',toks:=tk}):
  wpAny (model P w) A (pyNext<|.ref z) Q E s:=by
 have hT:s.TypeIs (.ref z) "zip":=⟨_,hz,rfl⟩
 unfold pyNext;refine Bl<|E6<|Cn (name:=Bv "__next__") hT D5<|C7 D5 hT Ep ?_<|Ef _;obtain⟨hp,gg,dd,tk0,os⟩:=s;show wpAny (model P w) _ (field (.ref z) 2>>=_) _ _ _;refine Bl<|CG hz rfl (x:=.bool false) rfl ?_;show wpAny (model P w) _ (field (.ref z) 3>>=_) _ _ _;refine Bl<|CG hz rfl (x:=.ref TI) rfl<|Bl<|Cu hI rfl ?_;show wpAny (model P w) _ (C8 (.ref z)>>=_) _ _ _;refine Bl ?_;unfold C8;refine Bl<|CG hz rfl (x:=.none) rfl<|Bq ?_;simp only[if_true];refine Bl (FD (Bl (CG hz rfl (x:=.ref TO) rfl (Bl (Cw hz (by simp) fun g1 y1 b1=>?_)))));replace y1:Ej g1 z TI TO .ellipsis:=y1;replace b1:BO z hp g1:=b1;refine Bl ?_;simp only[FE,FX,Fc,Fq];refine Bl<|Bl<|DE ?_;show wpAny (model P w) _ (BS (.ref i1)>>=_) _ _ _;refine Bl<|D1.item k _ _ _ h1 (au D1 t1 b1 Z.d1.1) fun x g2 tk2 px u1 b2=>Bq ?_;replace b2:BO i1 g1 g2:=b2;have O2:bV g2 TO a b c:=b2.extBut _ _ Z.c8<|b1.extBut _ _ Z.c2 hO;refine Bl<|Cu O2 rfl<|Bl<|bG O2 fun g3 O3 b3=>?_;replace O3:bV g3 TO x b c:=O3;replace b3:BO TO g2 g3:=b3;refine Bl<|Ek<|Bq<|Bl<|Bl<|DE ?_;show wpAny (model P w) _ (BS (.ref i2)>>=_) _ _ _;refine Bl<|D2.item k _ _ _ h2 (au D2 (au D2 (au D2 t2 b1 Z.d2.1) b2 Z.d2.2.2.1) b3 Z.d2.2.1) fun y g4 tk4 py u2 b4=>Bq ?_;replace b4:BO i2 g3 g4:=b4;have O4:bV g4 TO x b c:=b4.extBut _ _ Z.c9 O3;refine Bl<|Cu O4 rfl<|Bl<|bG O4 fun g5 O5 b5=>?_;replace O5:bV g5 TO x y c:=O5;replace b5:BO TO g4 g5:=b5;refine Bl<|Ek<|Bq<|Bl<|Bl<|DE ?_;show wpAny (model P w) _ (BS (.ref i3)>>=_) _ _ _;refine Bl<|D3.item k _ _ _ h3 (au D3 (au D3 (au D3 (au D3 (au D3 t3 b1 Z.d3.1) b2 Z.d3.2.2.1) b3 Z.d3.2.1) b4 Z.d3.2.2.2) b5 Z.d3.2.1) fun u g6 tk6 pu u3 b6=>Bq ?_;replace b6:BO i3 g5 g6:=b6;have O6:bV g6 TO x y c:=b6.extBut _ _ Z.c9' O5;refine Bl<|Cu O6 rfl<|Bl<|bG O6 fun g7 O7 b7=>?_;replace O7:bV g7 TO x y u:=O7;replace b7:BO TO g6 g7:=b7;refine Bl<|Ek<|Bq<|Bq<|Bl<|Cu O7 rfl<|Bl<|HP ?_;have sz:g7.objs.size=hp.objs.size:=by rw[b7.1,b6.1,b5.1,b4.1,b3.1,b2.1,b1.1]
 have y7:Ej g7 z TI TO .ellipsis:=b7.extBut _ _ Z.c2.symm<|b6.extBut _ _ Z.c4'.symm<|b5.extBut _ _ Z.c2.symm<|b4.extBut _ _ Z.c4.symm<|b3.extBut _ _ Z.c2.symm<|b2.extBut _ _ Z.c3.symm y1;have k7:∀c o,c≠z->c≠TO->c≠i1->c≠i2->c≠i3->hp.get? c=some o->g7.get? c=some o:=fun c o e1 e2 e3 e4 e5 e=>b7.extBut _ _ e2<|b6.extBut _ _ e5<|b5.extBut _ _ e2<|b4.extBut _ _ e4<|b3.extBut _ _ e2<|b2.extBut _ _ e3<|b1.extBut _ _ e1 e;have v1:S1 (k+1) g7:=au D1 (au D1 (au D1 (au D1 (au D1 u1 b3 Z.d1.2.1) b4 Z.d1.2.2.1) b5 Z.d1.2.1) b6 Z.d1.2.2.2) b7 Z.d1.2.1;have v2:S2 (k+1) g7:=au D2 (au D2 (au D2 u2 b5 Z.d2.2.1) b6 Z.d2.2.2.2) b7 Z.d2.2.1;have v3:S3 (k+1) g7:=au D3 u3 b7 Z.d3.2.1;have lz:z<g7.objs.size:=BA y7;show wpAny (model P w) _ (Dh (.ref z) (.ref g7.objs.size)>>=_) _ _ _;refine Bl ?_;unfold Dh;have y8:Ej (g7.push {cls:=.type "tuple",data:=.seq #[x,y,u]}) z TI TO .ellipsis:=Bp _ y7;refine Bl (Cw y8 (by simp) fun g9 y9 b9=>?_);replace y9:Ej g9 z TI TO (rawInt g7.objs.size):=y9;replace b9:BO z (g7.push {cls:=.type "tuple",data:=.seq #[x,y,u]}) g9:=b9;refine Cw y9 (by simp) fun g10 y10 b10=>?_;replace y10:Ej g10 z TI TO (rawInt g7.objs.size):=y10;replace b10:BO z g9 g10:=b10;have up:∀c o,c≠z->g7.get? c=some o->g10.get? c=some o:=fun c o e1 e=>b10.extBut _ _ e1<|b9.extBut _ _ e1<|Bp _ e;have T8:bV g10 g7.objs.size x y u:=b10.extBut _ _ (E3 lz)<|b9.extBut _ _ (E3 lz)<|By _ rfl;refine Bq ⟨_,rfl,Bq<|q x y u g10 _ g7.objs.size px py pu sz y10 (up _ _ Z.c2 O7) (D1.frame _ _ _ v1 fun b hb o e=>up b o (fun q=>Z.d1.1<|q▸hb) e) (D2.frame _ _ _ v2 fun b hb o e=>up b o (fun q=>Z.d2.1<|q▸hb) e) (D3.frame _ _ _ v3 fun b hb o e=>up b o (fun q=>Z.d3.1<|q▸hb) e) T8 fun c o e1 e2 e3 e4 e5 e=>up c o e1<|k7 c o e1 e2 e3 e4 e5 e⟩
theorem sA{Q:Option Bs->Bu->Prop}(hh:A.handled=none)(D1:Hq P w A.in1 i1 fp1 n1 P1 S1)(D2:Hq P w A.in1 i2 fp2 n2 P2 S2)(D3:Hq P w A.in1 i3 fp3 n3 P3 S3)(Z:ZApart3 z TI TO i1 i2 i3 fp1 fp2 fp3)(hk:k=n1\/(k<n1/\k=n2)\/(k<n1/\k<n2/\k=n3))(hz:Ej s.heap z TI TO .none)
  (hI:bV s.heap TI (.ref i1) (.ref i2) (.ref i3)) (hO:bV s.heap TO a b c) (t1:S1 k s.heap) (t2:S2 k s.heap) (t3:S3 k s.heap)
  (q:∀h' tk,(∀c o,c≠z->c≠TO->c≠i1->c≠i2->c≠i3->s.heap.get? c=some o->h'.get? c=some o)->Q none {s with heap:=h',toks:=tk}):
  wpAny (model P w) A (pyNext<|.ref z) Q E s:=by
 have hT:s.TypeIs (.ref z) "zip":=⟨_,hz,rfl⟩
 unfold pyNext;refine Bl<|E6<|Cn (name:=Bv "__next__") hT D5<|C7 D5 hT Ep ?_<|Ef _;obtain⟨hp,gg,dd,tk0,os⟩:=s;show wpAny (model P w) _ (field (.ref z) 2>>=_) _ _ _;refine Bl<|CG hz rfl (x:=.bool false) rfl ?_;show wpAny (model P w) _ (field (.ref z) 3>>=_) _ _ _;refine Bl<|CG hz rfl (x:=.ref TI) rfl<|Bl<|Cu hI rfl ?_;show wpAny (model P w) _ (C8 (.ref z)>>=_) _ _ _;refine Bl ?_;unfold C8;refine Bl<|CG hz rfl (x:=.none) rfl<|Bq ?_;simp only[if_true];refine Bl (FD (Bl (CG hz rfl (x:=.ref TO) rfl (Bl (Cw hz (by simp) fun g1 y1 b1=>?_)))));replace y1:Ej g1 z TI TO .ellipsis:=y1;replace b1:BO z hp g1:=b1;refine Bl ?_;simp only[FE,FX,Fc,Fq];refine Bl<|Bl<|DE ?_;show wpAny (model P w) _ (BS (.ref i1)>>=_) _ _ _;rcases hk with hk|hk
 ·subst hk;refine Bl<|D1.done _ _ _ (au D1 t1 b1 Z.d1.1) fun g2 e b2 he=>?_;obtain⟨oe,hoe,hce⟩:=he;replace b2:EM i1 g1 g2:=b2;have y2:Ej g2 z TI TO .ellipsis:=b2 _ _ Z.c3.symm y1;have ez:e≠z:=fun x=>by subst x;rw[y2]at hoe;cases hoe;simp at hce
  refine Cw y2 (by simp) fun g3 _ b3=>?_;exact Bl<|DB (T:="StopIteration") (b:=true) ⟨oe,b3.extBut _ _ ez hoe,hce⟩ Eg<|Bq<|q g3 _ fun c o e1 _ e3 _ _ x=>b3.extBut _ _ e1<|b2 _ _ e3<|b1.extBut _ _ e1 x
 ·have hk1:k< n1:=by rcases hk with z | z <;> exact z.1
  refine Bl<|D1.item k _ _ _ hk1 (au D1 t1 b1 Z.d1.1) fun x g2 tk2 px u1 b2=>Bq ?_;replace b2:BO i1 g1 g2:=b2;have O2:bV g2 TO a b c:=b2.extBut _ _ Z.c8<|b1.extBut _ _ Z.c2 hO;refine Bl<|Cu O2 rfl<|Bl<|bG O2 fun g3 O3 b3=>?_;replace b3:BO TO g2 g3:=b3;replace O3:bV g3 TO x b c:=O3;refine Bl<|Ek<|Bq<|Bl<|Bl<|DE ?_;show wpAny (model P w) _ (BS (.ref i2)>>=_) _ _ _;rcases hk with⟨_,hk2⟩|⟨_,hk2,hk3⟩
  ·subst hk2;refine Bl<|D2.done _ _ _ (au D2 (au D2 (au D2 t2 b1 Z.d2.1) b2 Z.d2.2.2.1) b3 Z.d2.2.1) fun g4 e b4 he=>?_;obtain⟨oe,hoe,hce⟩:=he;replace b4:EM i2 g3 g4:=b4;have y4:Ej g4 z TI TO .ellipsis:=b4 _ _ Z.c4.symm<|b3.extBut _ _ Z.c2.symm<|b2.extBut _ _ Z.c3.symm y1;have ez:e≠z:=fun x=>by subst x;rw[y4]at hoe;cases hoe;simp at hce
   refine Cw y4 (by simp) fun g5 _ b5=>?_;exact Bl<|DB (T:="StopIteration") (b:=true) ⟨oe,b5.extBut _ _ ez hoe,hce⟩ Eg<|Bq<|q g5 _ fun c o e1 e2 e3 e4 _ x=>b5.extBut _ _ e1<|b4 _ _ e4<|b3.extBut _ _ e2<|b2.extBut _ _ e3<|b1.extBut _ _ e1 x
  ·subst hk3;refine Bl<|D2.item k _ _ _ hk2 (au D2 (au D2 (au D2 t2 b1 Z.d2.1) b2 Z.d2.2.2.1) b3 Z.d2.2.1) fun y g4 tk4 py u2 b4=>Bq ?_;replace b4:BO i2 g3 g4:=b4;have O4:bV g4 TO x b c:=b4.extBut _ _ Z.c9 O3;refine Bl<|Cu O4 rfl<|Bl<|bG O4 fun g5 O5 b5=>?_;replace b5:BO TO g4 g5:=b5;refine Bl<|Ek<|Bq<|Bl<|Bl<|DE ?_;show wpAny (model P w) _ (BS (.ref i3)>>=_) _ _ _;refine Bl<|D3.done _ _ _ (au D3 (au D3 (au D3 (au D3 (au D3 t3 b1 Z.d3.1) b2 Z.d3.2.2.1) b3 Z.d3.2.1) b4 Z.d3.2.2.2) b5 Z.d3.2.1) fun g6 e b6 he=>?_;obtain⟨oe,hoe,hce⟩:=he;replace b6:EM i3 g5 g6:=b6;have y6:Ej g6 z TI TO .ellipsis:=b6 _ _ Z.c4'.symm<|b5.extBut _ _ Z.c2.symm<|b4.extBut _ _ Z.c4.symm<|b3.extBut _ _ Z.c2.symm<|b2.extBut _ _ Z.c3.symm y1;have ez:e≠z:=fun x=>by subst x;rw[y6]at hoe;cases hoe;simp at hce
   refine Cw y6 (by simp) fun g7 _ b7=>?_;exact Bl<|DB (T:="StopIteration") (b:=true) ⟨oe,b7.extBut _ _ ez hoe,hce⟩ Eg<|Bq<|q g7 _ fun c o e1 e2 e3 e4 e5 x=>b7.extBut _ _ e1<|b6 _ _ e5<|b5.extBut _ _ e2<|b4.extBut _ _ e4<|b3.extBut _ _ e2<|b2.extBut _ _ e3<|b1.extBut _ _ e1 x
end
def z9(K:Br)(c1 c2 c3:Src):It:=
  ⟨fun i H=>∃xs ys us x y u,c1.has K H xs/\c2.has K H ys/\c3.has K H us/\xs[i]? =some x/\ys[i]? =some y/\us[i]? =some u,
   fun i H v H'=>∃p x y u,H p=none/\v=.ref p/\(∀xs,c1.has K H xs->xs[i]? =some x)/\(∀ys,c2.has K H ys->ys[i]? =some y)/\(∀us,c3.has K H us->us[i]? =some u)/\H'=cN H p (.tup [x,y,u]),
   fun i H=>∃xs ys us,c1.has K H xs/\c2.has K H ys/\c3.has K H us/\(i=xs.length\/(i<xs.length/\i=ys.length)\/(i<xs.length/\i<ys.length/\i=us.length))⟩
def Ar(c1 c2 c3:Src)(z TI TO i1 i2 i3:Addr)(i:Nat)(h:Heap):Prop:=Ej h z TI TO .none/\bV h TI (.ref i1) (.ref i2) (.ref i3)/\(∃a b c,bV h TO a b c)/\c1.at i1 i h/\c2.at i2 i h/\c3.at i3 i h
structure ZIds3(z TI TO i1 i2 i3:Addr):Prop where
 c1:TI≠z
 c2:TO≠z
 c3:i1≠z
 c4:i2≠z
 c4':i3≠z
 c5:TI≠TO
 c6:TI≠i1
 c7:TI≠i2
 c7':TI≠i3
 c8:TO≠i1
 c9:TO≠i2
 c9':TO≠i3
 c10:i1≠i2
 c11:i1≠i3
 c12:i2≠i3
theorem oT{X:Cx}{pins:List (Addr×Obj)}{σ:St}{H:Hp}{s:Bu}{z TI TO i1 i2 i3:Addr}{fp1 fp2 fp3:List Addr}(I:Inv X pins σ H s)(Z:ZIds3 z TI TO i1 i2 i3)(hf:∀b∈[z,TI,TO,i1,i2,i3],FpOk X pins H b)
  (g1:∀b∈fp1,b=i1\/H b≠none\/∃o,X.base.get? b=some o) (g2:∀b∈fp2,b=i2\/H b≠none\/∃o,X.base.get? b=some o) (g3:∀b∈fp3,b=i3\/H b≠none\/∃o,X.base.get? b=some o):ZApart3 z TI TO i1 i2 i3 fp1 fp2 fp3:=by
 have no:∀b∈[z,TI,TO,i1,i2,i3],¬(H b≠none\/∃o,X.base.get? b=some o):=fun b hb q=>by
  rcases q with q|⟨o,q⟩
  ·exact q (hf b hb).1
  ·rcases (hf b hb).2.2.2.1 with y | y;·exact I.ok.noex b o q y
   ·exact absurd (BE (BE (BA q) I.ok.bsz) y)<|CZ _
 refine⟨Z.c1,Z.c2,Z.c3,Z.c4,Z.c4',Z.c5,Z.c6,Z.c7,Z.c7',Z.c8,Z.c9,Z.c9',⟨fun m=>?_,fun m=>?_,fun m=>?_,fun m=>?_⟩,⟨fun m=>?_,fun m=>?_,fun m=>?_,fun m=>?_⟩,⟨fun m=>?_,fun m=>?_,fun m=>?_,fun m=>?_⟩⟩;·exact(g1 _ m).elim (fun e=>Z.c3 e.symm) (no z (by simp))
 ·exact(g1 _ m).elim (fun e=>Z.c8 e) (no TO (by simp))
 ·exact(g1 _ m).elim (fun e=>Z.c10 e.symm) (no i2 (by simp))
 ·exact(g1 _ m).elim (fun e=>Z.c11 e.symm) (no i3 (by simp))
 ·exact(g2 _ m).elim (fun e=>Z.c4 e.symm) (no z (by simp))
 ·exact(g2 _ m).elim (fun e=>Z.c9 e) (no TO (by simp))
 ·exact(g2 _ m).elim (fun e=>Z.c10 e) (no i1 (by simp))
 ·exact(g2 _ m).elim (fun e=>Z.c12 e.symm) (no i3 (by simp))
 ·exact(g3 _ m).elim (fun e=>Z.c4' e.symm) (no z (by simp))
 ·exact(g3 _ m).elim (fun e=>Z.c9' e) (no TO (by simp))
 ·exact(g3 _ m).elim (fun e=>Z.c11 e) (no i1 (by simp))
 ·exact(g3 _ m).elim (fun e=>Z.c12 e) (no i2 (by simp))
theorem qG{P:BK}{w:BQ}{K:Br}{elts:List Expr}{kk:Nat}{tp:Pos}(c1 c2 c3:Src)(z TI TO i1 i2 i3:Addr)(Z:ZIds3 z TI TO i1 i2 i3):
  Turn P w K (.Tuple elts kk tp) (z9 K c1 c2 c3) [z,TI,TO,i1,i2,i3] z (Ar c1 c2 c3 z TI TO i1 i2 i3) where
 mem:=by simp
 obj:=fun i h st b hb=>by
  obtain⟨hz,hI,⟨a,b',c',hO⟩,t1,t2,t3⟩:=st;obtain⟨o1,e1,v1,d1⟩:=Gy t1;obtain⟨o2,e2,v2,d2⟩:=Gy t2;obtain⟨o3,e3,v3,d3⟩:=Gy t3;simp only[BM,Cc,or_false]at hb;rcases hb with rfl|rfl|rfl|rfl|rfl|rfl;·exact⟨_,hz,fun v q=>by cases (show Ji _=FA v from q)⟩
  ·exact⟨_,hI,fun v q=>by cases (show HM _ _=FA v from q)⟩
  ·exact⟨_,hO,fun v q=>by cases (show HM _ _=FA v from q)⟩
  ·exact⟨_,e1,fun v q=>by rw[d1]at q;cases q⟩
  ·exact⟨_,e2,fun v q=>by rw[d2]at q;cases q⟩
  ·exact⟨_,e3,fun v q=>by rw[d3]at q;cases q⟩
 keep:=fun i h h' st k=>by
  obtain⟨hz,hI,⟨a,b',c',hO⟩,t1,t2,t3⟩:=st;exact⟨k z (by simp) _ hz,k TI (by simp) _ hI,⟨a,b',c',k TO (by simp) _ hO⟩,FU t1 (k i1 (by simp)),FU t2 (k i2 (by simp)),FU t3 (k i3 (by simp))⟩
 item:=by
  intro X hP hw hK hc i pins s σ H E I hf st hg;subst hP hw hK;obtain⟨xs,ys,us,x,y,u,hx,hy,hu,ex,ey,eu⟩:=hg;obtain⟨hz,hI,⟨a,b',c',hO⟩,t1,t2,t3⟩:=st;have hh:X.A.in1.handled=none:=I.ok.hd hc;obtain⟨fp1,P1,S1,D1,u1,r1,a1,_,g1⟩:=Hc (A:=X.A.in1) hh I hx t1 (hf i1 (by simp)).1;obtain⟨fp2,P2,S2,D2,u2,r2,a2,_,g2⟩:=Hc (A:=X.A.in1) hh I hy t2 (hf i2 (by simp)).1;obtain⟨fp3,P3,S3,D3,u3,r3,a3,_,g3⟩:=Hc (A:=X.A.in1) hh I hu t3 (hf i3 (by simp)).1;have ZA:=oT I Z hf g1 g2 g3;refine qF D1 D2 D3 ZA (Bw.mp ex).1 (Bw.mp ey).1 (Bw.mp eu).1 hz hI hO u1 u2 u3 fun vx vy vu h' tk T px py pu hT hz' hO' w1 w2 w3 hTp kp=>?_;obtain⟨x',ex',rx⟩:=r1 i vx px;obtain⟨y',ey',ry⟩:=r2 i vy py;obtain⟨u',eu',ru⟩:=r3 i vu pu;rw[ex]at ex';cases ex';rw[ey]at ey';cases ey';rw[eu]at eu';cases eu';have nT:H T=none:=by rw[hT];exact I.hok.fresh<|BD _
  refine⟨_,rfl,Gz hz' fun h2 hz2 sb=>?_⟩;have lt:∀{c o},s.heap.get? c=some o->c≠T:=fun e=>by rw[hT];exact BL<|BA e
  have up:∀c o,c≠z->h'.get? c=some o->h2.get? c=some o:=fun c o hc e=>(sb.2 c hc).trans e;have kp2:∀b o,b∉[z,TO,i1,i2,i3]->s.heap.get? b=some o->h2.get? b=some o:=fun b o hb e=>by
   simp only[BM,Cc,or_false,not_or]at hb;exact up b o hb.1<|kp b o hb.1 hb.2.1 hb.2.2.1 hb.2.2.2.1 hb.2.2.2.2 e
  have ch:∀b∈[z,TO,i1,i2,i3],b∈[z,TI,TO,i1,i2,i3]:=fun b hb=>by
   simp only[BM,Cc,or_false]at hb ⊢;rcases hb with h|h|h|h|h<;>simp[h]
  have iO:∀b u,H b=some u->b∉[z,TO,i1,i2,i3]/\b≠T:=fun b u e=>⟨fun hb=>(by rw[(hf b<|ch b hb).1]at e;cases e),fun q=>(by rw[q,nT]at e;cases e)⟩
  have I2:Inv X pins σ (cN H T<|.tup [x,y,u]) {s with heap:=h2,gens:=s.gens,drawn:=s.drawn,toks:=tk}:=by
   refine I.step (g':=s.gens) (d':=s.drawn) (t':=tk) (ch:=[z,TO,i1,i2,i3]) (fun b hb=>⟨(hf b<|ch b hb).2.2.2.1,(hf b<|ch b hb).2.1,(hf b<|ch b hb).2.2.2.2.1,(hf b<|ch b hb).2.2.2.2.2⟩) (fun b o _ _ hb e _=>kp2 b o hb e) (fun b o _ _ hb e _=>⟨o.slots,kp2 b o hb e⟩)
    (fun b o hb e n=>by rw[aG<|lt e];exact n) (fun b o hb e=>⟨o,kp2 b o hb e⟩) (fun b xs e=>by rw[aG (iO b _ e).2];exact e) (fun b o u e=>by rw[aG (iO b _ e).2];exact e) (fun b ps e=>⟨#[],by rw[aG (iO b _ e).2,e];simp⟩) (fun m hm=>?_) (fun b u e=>?_) I.bare
   ·obtain⟨o,es,ep,ho,r⟩:=hm;exact⟨o,es,ep,kp2 _ o (fun hb=>(hf _<|ch _ hb).2.1 rfl) ho,r⟩
   ·by_cases hb:b=T
    ·subst hb;rw[aB]at e;cases e;refine⟨(by show 3<=sizeLine;rw[Cg];decide),[vx,vy,vu],.cons rx<|.cons ry<|.cons ru .nil,⟨_,up _ _ ?_ hTp,⟨rfl,rfl⟩,_,rfl⟩⟩;exact fun q=>lt hz q.symm
    ·rw[aG hb]at e;refine(I.hok b u e).stay (fun c v hc q=>kp2 c v ?_ q) (fun c q=>by rw[aG (iO c _ q).2];exact q) fun c xs q=>by rw[aG (iO c _ q).2];exact q
     rcases hc with q|q;·rw[q];exact(iO b u e).1
     ·exact(iO c _ q).1
  refine⟨.ref T,_,I2,rfl,⟨T,x,y,u,nT,rfl,fun xs' h=>by rw[Li I h hx];exact ex,fun ys' h=>by rw[Li I h hy];exact ey,fun us' h=>by rw[Li I h hu];exact eu,rfl⟩,⟨hz2,up _ _ Z.c1<|kp _ _ Z.c1 Z.c5 Z.c6 Z.c7 Z.c7' hI,⟨_,_,_,up _ _ Z.c2 hO'⟩,FU (a1 _ _ w1) fun o e=>up _ o Z.c3 e,FU (a2 _ _ w2) fun o e=>up _ o Z.c4 e,FU (a3 _ _ w3) fun o e=>up _ o Z.c4' e⟩,fun b hb=>?_⟩;have hbT:b≠T:=by
   obtain⟨o,e⟩:∃o,s.heap.get? b=some o:=by
    obtain⟨o1,e1,_⟩:=Gy t1;obtain⟨o2,e2,_⟩:=Gy t2;obtain⟨o3,e3,_⟩:=Gy t3;simp only[BM,Cc,or_false]at hb;rcases hb with rfl|rfl|rfl|rfl|rfl|rfl;·exact⟨_,hz⟩
    ·exact⟨_,hI⟩
    ·exact⟨_,hO⟩
    ·exact⟨_,e1⟩
    ·exact⟨_,e2⟩
    ·exact⟨_,e3⟩
   exact lt e
  rw[aG hbT];exact(hf b hb).1
 done:=by
  intro X hP hw hK hc i pins s σ H E I hf st hg;subst hP hw hK;obtain⟨xs,ys,us,hx,hy,hu,hend⟩:=hg;obtain⟨hz,hI,⟨a,b',c',hO⟩,t1,t2,t3⟩:=st;have hh:X.A.in1.handled=none:=I.ok.hd hc;obtain⟨fp1,P1,S1,D1,u1,r1,a1,_,g1⟩:=Hc (A:=X.A.in1) hh I hx t1 (hf i1 (by simp)).1;obtain⟨fp2,P2,S2,D2,u2,r2,a2,_,g2⟩:=Hc (A:=X.A.in1) hh I hy t2 (hf i2 (by simp)).1;obtain⟨fp3,P3,S3,D3,u3,r3,a3,_,g3⟩:=Hc (A:=X.A.in1) hh I hu t3 (hf i3 (by simp)).1;have ZA:=oT I Z hf g1 g2 g3;have ch:∀b∈[z,TO,i1,i2,i3],b∈[z,TI,TO,i1,i2,i3]:=fun b hb=>by
   simp only[BM,Cc,or_false]at hb ⊢;rcases hb with h|h|h|h|h<;>simp[h]
  refine sA hh D1 D2 D3 ZA hend hz hI hO u1 u2 u3 fun h2 tk kp=>⟨rfl,?_⟩
  have kp2:∀b o,b∉[z,TO,i1,i2,i3]->s.heap.get? b=some o->h2.get? b=some o:=fun b o hb e=>by
   simp only[BM,Cc,or_false,not_or]at hb;exact kp b o hb.1 hb.2.1 hb.2.2.1 hb.2.2.2.1 hb.2.2.2.2 e
  refine I.step (g':=s.gens) (d':=s.drawn) (t':=tk) (ch:=[z,TO,i1,i2,i3]) (fun b hb=>⟨(hf b<|ch b hb).2.2.2.1,(hf b<|ch b hb).2.1,(hf b<|ch b hb).2.2.2.2.1,(hf b<|ch b hb).2.2.2.2.2⟩) (fun b o _ _ hb e _=>kp2 b o hb e) (fun b o _ _ hb e _=>⟨o.slots,kp2 b o hb e⟩)
   (fun b o hb e n=>n) (fun b o hb e=>⟨o,kp2 b o hb e⟩) (fun b xs e=>e) (fun b o u e=>e) (fun b ps e=>⟨#[],by rw[e];simp⟩) (fun m hm=>?_) (fun b u e=>?_) I.bare
  ·obtain⟨o,es,ep,ho,r⟩:=hm;exact⟨o,es,ep,kp2 _ o (fun hb=>(hf _<|ch _ hb).2.1 rfl) ho,r⟩
  ·have iO:∀b u,H b=some u->b∉[z,TO,i1,i2,i3]:=fun b u e hb=>by rw[(hf b<|ch b hb).1]at e;cases e
   refine(I.hok b u e).stay (fun c v hc q=>kp2 c v ?_ q) (fun c q=>q) fun c xs q=>q;rcases hc with q|q
   ·rw[q];exact iO b u e
   ·exact iO c _ q
 self:=fun _ _ _ _ _ st h=>FF st.1 h
theorem za{x y z:V}{us:List Bs}(r:Vals [x,y,z] us):∃u v w',us=[u,v,w']/\RelV x u/\RelV y v/\RelV z w':=by
 cases r with
 |cons h1 r=>cases r with
  |cons h2 r=>cases r with
   |cons h3 r=>cases r;exact⟨_,_,_,rfl,h1,h2,h3⟩
def x3(K:Br)(t:TA):TI:=fun σ H R=>t σ H fun vs H1=>∃c1 c2 c3 xs ys us,vs=[c1.val,c2.val,c3.val]/\c1.has K H1 xs/\c2.has K H1 ys/\c3.has K H1 us/\R (z9 K c1 c2 c3) H1
theorem vz{X:Cx}{K:Br}(hK:X.K=K){a b c:Expr}{ta:TA}{p pos tp:Pos}{elts:List Expr}{kk:Nat}(hg:Gl X "zip")(hm:X.mg "zip"=none)(ha:PA X [a,b,c] ta)
  (hs:starEach [a,b,c] X.env=[(false,eval a X.env),(false,eval b X.env),(false,eval c X.env)]:=by rfl) (hs2:starEach [b,c] X.env=[(false,eval b X.env),(false,eval c X.env)]:=by rfl):PI X (.Tuple elts kk tp) (.Call (.Name "zip" p) [a,b,c] [] pos) (x3 K ta):=by
 subst hK;intro pins s σ H R I h;refine Call_ (gE I hg hm boot_zip (Dq (cm (ha pos pins s σ H _ I h) fun us s1⟨vs,H1,I1,r1,q1⟩=>?_) (by rw[hs,hs2]) (by rw[hs2];rfl)));obtain⟨c1,c2,c3,xs,ys,zs,e,h1,h2,h3,q⟩:=q1;subst e;obtain⟨v1,v2,v3,rfl,ra,rb,rc⟩:=za r1;obtain⟨o1,i1,f1,n1⟩:=KU I1 h1 ra fun _ _ e=>e;obtain⟨o2,i2,f2,n2⟩:=KU (h:=s1.heap.push o1) I1 h2 rb fun _ _ e=>Bp _ e;obtain⟨o3,i3,f3,n3⟩:=KU (h:=(s1.heap.push o1).push o2) I1 h3 rc fun _ _ e=>Bp _<|Bp _ e;have z1:(s1.heap.push o1).objs.size=s1.heap.objs.size+1:=Ci ..;have z2:((s1.heap.push o1).push o2).objs.size=s1.heap.objs.size+2:=by rw[Ci,z1]
 rw[z1]at n2;rw[z2]at n3;refine qz i1 i2 i3 f1 f2 f3 fun h' hz hI hO e1 e2 e3 kp=>?_;refine FF hz ?_;have zi:∀n:Nat,ZIds3 (n+5) (n+3) (n+4) n (n+1) (n+2):=fun n=>⟨(iY n 3 5 (by decide)),(iY n 4 5 (by decide)),(iY n 0 5 (by decide)),(iY n 1 5 (by decide)),(iY n 2 5 (by decide)),(iY n 3 4 (by decide)),(iY n 3 0 (by decide)),(iY n 3 1 (by decide)),(iY n 3 2 (by decide)),(iY n 4 0 (by decide)),(iY n 4 1 (by decide)),(iY n 4 2 (by decide)),(iY n 0 1 (by decide)),(iY n 0 2 (by decide)),(iY n 1 2 (by decide))⟩
 refine⟨s1.heap.objs.size+5,[s1.heap.objs.size+5,s1.heap.objs.size+3,s1.heap.objs.size+4,s1.heap.objs.size,s1.heap.objs.size+1,s1.heap.objs.size+2],_,_,H1,rfl,I1.kept (t':=s1.toks) kp,qG c1 c2 c3 _ _ _ _ _ _<|zi s1.heap.objs.size,⟨hz,hI,⟨_,_,_,hO⟩,n1 h' e1,n2 h' e2,n3 h' e3⟩,fun b hb=>?_,q⟩;have hb':s1.heap.objs.size<=b:=by
  simp only[BM,Cc,or_false]at hb;rcases hb with z|z|z|z|z|z<;>rw[z]
  ·exact CF _ 5
  ·exact CF _ 3
  ·exact CF _ 4
  ·exact BD _
  ·exact CF _ 1
  ·exact CF _ 2
 exact I1.fpOk hb'<|I1.hok.fresh hb'
end L2
namespace Mi
inductive Res(α:Type) where
 |ok (a:α)|err (j:Nat)|stuck
namespace Res
variable{α β:Type}
def Ok(m:Res α)(P:α->Prop):Prop:=match m with| .ok a=>P a|_=>False
def bind(m:Res α)(f:α->Res β):Res β:=match m with| .ok a=>f a| .err j=>.err j| .stuck=>.stuck
theorem bind_ok{m:Res α}{f:α->Res β}{P:β->Prop}(h:m.Ok fun a=>(f a).Ok P):(m.bind f).Ok P:=by cases m<;>exact h
theorem Ok.imp{m:Res α}{P Q:α->Prop}(h:m.Ok P)(k:∀a,P a->Q a):m.Ok Q:=by cases m<;>first|exact k _ h|exact h
theorem Ok.ex{m:Res α}{P:α->Prop}(h:m.Ok P):∃a,m=.ok a/\P a:=by
 cases m with
 |ok a=>exact⟨a,rfl,h⟩
 |err j=>exact h.elim
 |stuck=>exact h.elim
def OkE(m:Res α)(Er:Nat->Prop)(P:α->Prop):Prop:=match m with| .ok a=>P a| .err j=>Er j| .stuck=>False
theorem okE_bind{m:Res α}{f:α->Res β}{Er:Nat->Prop}{P:β->Prop}(h:(m.bind f).OkE Er P):m.OkE Er fun a=>(f a).OkE Er P:=by cases m<;>exact h
theorem OkE.imp{m:Res α}{Er:Nat->Prop}{P Q:α->Prop}(h:m.OkE Er P)(k:∀a,P a->Q a):m.OkE Er Q:=by cases m<;>first|exact k _ h|exact h
theorem Ok.e{m:Res α}{Er:Nat->Prop}{P:α->Prop}(h:m.Ok P):m.OkE Er P:=by
 cases m with
 |ok a=>exact h
 |err j=>exact h.elim
 |stuck=>exact h.elim
@[simp] theorem bind_ok'(a:α)(f:α->Res β):(Res.ok a).bind f=f a:=rfl
end Res
abbrev cap:Nat:=100000
def dF(b:Prop)[Decidable b]{α:Type}(a:α):Res α:=if b then .ok a else .stuck
theorem bt{b:Prop}[Decidable b]{α:Type}{a:α}(h:b):dF b a=.ok a:=if_pos h
theorem aW{b:Prop}[Decidable b]{α:Type}{a:α}{Er:Nat->Prop}{P:α->Prop}(h:(dF b a).OkE Er P):b/\P a:=by
 unfold dF at h;by_cases hb:b;·rw[if_pos hb]at h;exact⟨hb,h⟩
 ·rw[if_neg hb]at h;exact h.elim
def rF{α:Type}:Option α->Res α
 |some a=>.ok a
 |none=>.stuck
theorem dv{α:Type}{o:Option α}{Er:Nat->Prop}{P:α->Prop}(h:(rF o).OkE Er P):∃a,o=some a/\P a:=by
 cases o with
 |none=>exact h.elim
 |some a=>exact⟨a,rfl,h⟩
abbrev Tx:=List Nat
def dG(i:Int):Int:=if i<0 then -i else i
def iA(i j:Int):Res Int:=dF ((-(2^64)<i/\i<2^64)\/(-(2^64)<j/\j<2^64))<|i*j
def jn(i j:Int):Res Int:=dF (0<j/\j<1073741824)<|i/j
def gL(i j:Int):Res Int:=dF (0<j)<|i%j
def ixN(n:Nat)(i:Int):Option Nat:=if 0<=i then(if i<n then some i.toNat else none)else if -(n:Int)<=i then some (i+n).toNat else none
def oU{α:Type}(xs:List α)(i:Int):Option α:=(ixN xs.length i).bind fun j=>xs[j]?
theorem oV{α:Type}{xs:List α}{j:Nat}{v:α}(h:xs[j]? =some v):oU xs (j:Int)=some v:=by
 have hl:j<xs.length:=(Bw.mp h).1;unfold oU ixN;rw[if_pos (by omega),if_pos (by omega),CQ];exact h
theorem sC{α:Type}{xs:List α}{i:Int}(h0:0<=i)(h1:i<xs.length):∃h:i.toNat<xs.length,oU xs i=some xs[i.toNat]:=by
 have h2:i.toNat<xs.length:=by omega
 refine⟨h2,?_⟩;have:=oV (xs:=xs) (j:=i.toNat) (v:=xs[i.toNat]) (by simp[h2]);rw[Int.toNat_of_nonneg h0]at this;exact this
def ef{α:Type}(xs:List α)(i:Int):Res α:=rF<|oU xs i
def fh(x:Tx)(i:Int):Res Tx:=(dF (x.length<=cap) x).bind fun x=>(rF<|oU x i).bind fun c=>.ok [c]
def iB(a b:Tx):Res Tx:=dF (a.length+b.length<=cap)<|a++b
def vA{α:Type}(a b:List α):Res (List α):=dF (a.length+b.length<=cap)<|a++b
def fP{α:Type}(a:List α)(x:α):Res (List α):=dF (a.length<cap)<|a++[x]
def xE(a:Tx)(n:Int):Res Tx:=match a with
 | [c]=>dF (0<=n/\n<=cap)<|DH n.toNat c
 |_=>.stuck
def xF(x:Tx):Res Int:=dF (x.length<=cap) (x.length:Int)
def sIx(n d:Nat):Option Int->Nat
 |none=>d
 |some v=>if v<0 then(v+(n:Int)).toNat else min v.toNat n
def cut{α:Type}(l:List α)(lo hi:Option Int):List α:=(l.drop<|sIx l.length 0 lo).take (sIx l.length l.length hi-sIx l.length 0 lo)
def qH(x:Tx)(lo hi:Option Int):Res Tx:=dF (x.length<=cap)<|cut x lo hi
def iZ{α:Type}(xs:List α)(i:Int)(x:α):Res (List α):=(rF<|ixN xs.length i).bind fun j=>.ok<|xs.set j x
def sD(x:Tx)(c:Nat):Option Nat:=x.findIdx? (· ==c)
def j0(x y:Tx):Res Int:=match y with
 | [c]=>(rF<|sD x c).bind fun j=>.ok (j:Int)
 |_=>.stuck
def mO(xs:List Tx):Res Tx:=dF (xs.flatten.length<=cap) xs.flatten
def look{κ α:Type}[DecidableEq κ](kvs:List (κ×α))(k:κ):Option α:=(kvs.find? fun p=>decide<|p.1=k).map (·.2)
def getD{κ α:Type}[DecidableEq κ](kvs:List (κ×α))(k:κ):Res α:=rF<|look kvs k
def gX{α β:Type}(f:α->Res β):List α->Res (List β)
 | []=>.ok []
 |a::r=>(f a).bind fun b=>(gX f r).bind fun bs=>.ok (b::bs)
def eE{α β:Type}(xs:List α)(f:α->Res β):Res (List β):=(dF (xs.length<=cap) xs).bind fun xs=>gX f xs
def gY{α β:Type}(f:α->Res (Option β)):List α->Res (List β)
 | []=>.ok []
 |a::r=>(f a).bind fun b=>(gY f r).bind fun bs=>.ok (match b with|some b=>b::bs|none=>bs)
def oW{α β:Type}(xs:List α)(f:α->Res (Option β)):Res (List β):=(dF (xs.length<=cap) xs).bind fun xs=>gY f xs
def bQ{α S:Type}(f:α->S->Res S):List α->S->Res S
 | [],s=>.ok s
 |a::r,s=>(f a s).bind fun s=>bQ f r s
inductive Fl(γ S:Type) where
 |nx (s:S)|bk (s:S)|rt (r:γ)
def sE{S γ:Type}(k:S->Res (Fl γ S)):Fl γ S->Res (Fl γ S)
 | .nx s=>k s
 | .bk s=>.ok<|.nx s
 | .rt x=>.ok<|.rt x
def dH{α S γ:Type}(f:α->S->Res (Fl γ S)):List α->S->Res (Fl γ S)
 | [],s=>.ok<|.nx s
 |a::r,s=>(f a s).bind (sE<|dH f r)
def jo(n:Int):List Int:=(Cv n.toNat).map fun(i:Nat)=>(i:Int)
def fb(n:Int):Res (List Int):=dF (-(2^62)<=n/\n<2^62)<|jo n
def bE(x:Tx):List Tx:=x.map fun c=>[c]
def iC(xs:List Int):List Int:=xs.mergeSort fun a b=>decide<|a<=b
theorem iR(xs:List Int):(iC xs).Perm xs:=HW _ _
theorem kL(xs:List Int):(iC xs).Pairwise (· <= ·):=by
 have:=GX (le:=fun a b:Int=>decide<|a<=b) (fun a b c h1 h2=>by simp at *;omega) (fun a b=>by simp;omega) xs;exact this.imp fun h=>by simpa using h
theorem qI{xs ys:List Int}(h:ys.Perm xs)(hs:ys.Pairwise (· <= ·)):ys=iC xs:=
 GP (le:=(· <= ·)) (fun a b _ _ h1 h2=>by omega) hs (kL xs) (h.trans (iR xs).symm)
def sF(xs:List Int):Res (List Int):=dF (xs.length<64)<|iC xs
def zb{α:Type}[DecidableEq α](a b:α):Res Bool:=if a=b then .ok true else .stuck
def xG{α:Type}:List α->Res (α×α×α)
 | [a,b,c]=>.ok (a,b,c)
 |_=>.stuck
theorem oX{α β:Type}{f:α->Res β}{g:α->β}:∀{xs:List α},(∀x∈xs,f x=.ok (g x))->gX f xs=.ok (xs.map g)
 | [],_=>rfl
 |a::r,h=>by
  unfold gX;rw[h a<|BN ..,Res.bind_ok',oX fun x hx=>h x<|BP _ hx];rfl
theorem dY{α β:Type}{f:α->Res β}{g:α->β}{xs:List α}(hl:xs.length<=cap)(h:∀x∈xs,f x=.ok (g x)):eE xs f=.ok (xs.map g):=by
 unfold eE;rw[bt hl,Res.bind_ok',oX h]
end Mi
open Mi.Res renaming okE_bind->Bm,bind_ok'->Bn,ok->Bt,stuck->Gf
open Mi.Res.Ok renaming imp->CO
open Mi.Res.OkE renaming imp->Ce
namespace Wb
open PySem L2 Mi
variable{Er:Nat->Prop}
structure Wd where
 G:Hp
 H:Hp
 ok:Same G H
structure Ext(W W':Wd):Prop where
 g:Same W.G W'.G
 h:Same W.H W'.H
 k:∀p,W.H p≠none->W'.G p=W.G p
theorem Ext.refl(W:Wd):Ext W W:=⟨.refl _,.refl _,fun _ _=>rfl⟩
theorem Ext.trans{W W1 W2:Wd}(a:Ext W W1)(b:Ext W1 W2):Ext W W2:=⟨a.g.trans b.g,a.h.trans b.h,fun p hp=>by
 obtain⟨o,ho⟩:=EN.mp hp;rw[b.k p (by rw[a.h p o ho];exact fun z=>nomatch z),a.k p hp]⟩
theorem Same.upd2{G H:Hp}(h:Same G H)(p:Addr)(o:HO):Same (cN G p o) (cN H p o):=fun a u e=>by
 by_cases z:a=p;·subst z;rw[aB]at e ⊢;exact e
 ·rw[aG z]at e ⊢;exact h _ _ e
def Wd.new(W:Wd)(p:Addr)(o:HO):Wd:=⟨cN W.G p o,cN W.H p o,Same.upd2 W.ok p o⟩
theorem Wd.gnone(W:Wd){p:Addr}(h:W.H p=none):W.G p=none:=none_of W.ok h
theorem Ext.new{W:Wd}{p:Addr}(o:HO)(h:W.H p=none):Ext W (W.new p o):=⟨dX<|W.gnone h,dX h,fun q hq=>aG fun z=>hq<|z▸h⟩
def Wd.mut(W:Wd)(p:Addr)(o:HO)(h:W.G p=none):Wd:=⟨W.G,cN W.H p o,qy W.ok h⟩
theorem Ext.own{W:Wd}{p:Addr}(o:HO)(h:W.H p=none):Ext W (W.mut p o<|W.gnone h):=⟨.refl _,dX h,fun _ _=>rfl⟩
def Wd.frz(W:Wd)(p:Addr)(o:HO)(h:W.H p=some o):Wd:=⟨cN W.G p o,W.H,fun a u e=>by
 by_cases z:a=p;·subst z;rw[aB]at e;cases e;exact h
 ·rw[aG z]at e;exact W.ok _ _ e⟩
theorem Ext.mut{W0 W:Wd}{p:Addr}{o:HO}(e:Ext W0 W)(hp:W0.H p=none)(h:W.G p=none):Ext W0 (W.mut p o h):=
 ⟨e.g,fun a u z=>by show cN W.H p o a=_;rw[aG<|cn z hp];exact e.h _ _ z,e.k⟩
theorem Ext.frz{W0 W:Wd}{p:Addr}{o:HO}(e:Ext W0 W)(hp:W0.H p=none)(h:W.H p=some o)(hg:W.G p=none):Ext W0 (W.frz p o h):=
 ⟨e.g.trans<|dX hg,e.h,fun q hq=>by show cN W.G p o q=_;rw[aG (fun z=>hq (by rw[z];exact hp))];exact e.k q hq⟩
abbrev Rw(α:Type):=Wd->α->V->Prop
class MonoW{α:Type}(R:Rw α):Prop where
 mono:∀{W W':Wd}{a:α}{v:V},Ext W W'->R W a v->R W' a v
def sh{α:Type}(R:Rp α):Rw α:=fun W a v=>R W.G a v
instance zkeep8{α:Type}{R:Rp α}[Mono R]:MonoW (sh R):=⟨fun e h=>Bk (R:=R) e.g h⟩
def pk{α:Type}(R:Rp α):Rw (List α):=fun W xs v=>∃p vs,v=.ref p/\W.H p=some (.lst vs)/\LR R W.G xs vs
instance zkeep9{α:Type}{R:Rp α}[Mono R]:MonoW (pk R):=⟨fun e⟨p,vs,a,b,c⟩=>⟨p,vs,a,e.h _ _ b,c.same e.g⟩⟩
theorem pk.of{α:Type}{R:Rp α}{W:Wd}{xs:List α}{v:V}(h:isL R W.G xs v):pk R W xs v:=by
 obtain⟨p,vs,a,b,c⟩:=h;exact⟨p,vs,a,W.ok _ _ b,c⟩
structure Ow{α:Type}(R:Rp α)(W:Wd)(p:Addr)(xs:List α):Prop where
 g:W.G p=none
 h:∃vs,W.H p=some (.lst vs)/\LR R W.G xs vs
theorem Ow.mono{α:Type}{R:Rp α}[Mono R]{W W':Wd}{p:Addr}{xs:List α}(o:Ow R W p xs)(e:Ext W W'):Ow R W' p xs:=by
 obtain⟨vs,a,b⟩:=o.h;exact⟨by rw[e.k p (by rw[a];exact fun z=>nomatch z)];exact o.g,vs,e.h _ _ a,b.same e.g⟩
theorem Ow.pk{α:Type}{R:Rp α}{W:Wd}{p:Addr}{xs:List α}(o:Ow R W p xs):pk R W xs (.ref p):=by
 obtain⟨vs,a,b⟩:=o.h;exact⟨p,vs,rfl,a,b⟩
theorem Ow.frz{α:Type}{R:Rp α}[Mono R]{W0 W:Wd}{p:Addr}{xs:List α}(o:Ow R W p xs)(e:Ext W0 W)(hp:W0.H p=none):
  ∃W',W'.H=W.H/\Ext W0 W'/\Same W.G W'.G/\isL R W'.G xs (.ref p)/\∀q,q≠p->W'.G q=W.G q:=by
 obtain⟨vs,a,b⟩:=o.h;exact⟨W.frz p _ a,rfl,e.frz hp a o.g,dX o.g,⟨p,vs,rfl,aB,b.same<|dX o.g⟩,fun q hq=>aG hq⟩
theorem Ow.keep{α:Type}{R:Rp α}[Mono R]{W W':Wd}{q:Addr}{xs:List α}(o:Ow R W q xs)(hH:W'.H q=W.H q)(hs:Same W.G W'.G)(hg:W'.G q=W.G q):Ow R W' q xs:=by
 obtain⟨vs,a,b⟩:=o.h;exact⟨by rw[hg];exact o.g,vs,by rw[hH];exact a,b.same hs⟩
def EV(Er:Nat->Prop){α:Type}(t:TE)(σ:St)(W:Wd)(R:Rw α)(m:Res α):Prop:=∀W1,Ext W W1->∀Q:VK,m.OkE Er (fun a=>∀v W2,Ext W1 W2->R W2 a v->Q v W2.H)->t σ W1.H Q
def EVo(Er:Nat->Prop){α:Type}(t:TE)(σ:St)(W:Wd)(R:Rp α)(m:Res (List α)):Prop:=∀W1,Ext W W1->∀Q:VK,m.OkE Er (fun xs=>∀p W2,Ext W1 W2->W1.H p=none->Ow R W2 p xs->Q (.ref p) W2.H)->t σ W1.H Q
def TV(Er:Nat->Prop)(t:TT)(σ:St)(W:Wd)(m:Res Bool):Prop:=∀W1,Ext W W1->∀Q:Bool->Hp->Prop,m.OkE Er (fun b=>∀W2,Ext W1 W2->Q b W2.H)->t σ W1.H Q
section
variable{α β γ:Type}{t ta tb:TE}{σ:St}{W W0 W':Wd}{K:Br}
theorem EV.imp{R R':Rw α}{m:Res α}(h:EV Er t σ W R m)(f:∀W a v,R W a v->R' W a v):EV Er t σ W R' m:=fun W1 e1 Q k=>h W1 e1 Q<|k.imp fun a ka v W2 e2 r=>ka v W2 e2<|f _ _ _ r
theorem EVo.ev{R:Rp α}[Mono R]{m:Res (List α)}(h:EVo Er t σ W R m):EV Er t σ W (sh<|isL R) m:=fun W1 e1 Q k=>h W1 e1 Q (k.imp fun xs kx p W2 e2 hp o=>by
 obtain⟨W3,hH,e3,_,r,_⟩:=o.frz e2 hp;rw[<-hH];exact kx (.ref p) W3 e3 r)
theorem EVo.pk{R:Rp α}[Mono R]{m:Res (List α)}(h:EVo Er t σ W R m):EV Er t σ W (pk R) m:=fun W1 e1 Q k=>h W1 e1 Q<|k.imp fun xs kx p W2 e2 hp o=>kx (.ref p) W2 e2 o.pk
theorem EV.pk{R:Rp α}{m:Res (List α)}(h:EV Er t σ W (sh<|isL R) m):EV Er t σ W (pk R) m:=h.imp fun _ _ _ r=>pk.of r
theorem gM{R:Rw α}[MonoW R]{i:Nat}{v:V}{a:α}(r:R W a v)(h:σ[i]? =some (some v):=by rfl):EV Er (bD i) σ W R (.ok a):=fun W1 e1 Q k=>⟨v,h,k v W1 (.refl _)<|MonoW.mono e1 r⟩
theorem gZ{R:Rp α}[Mono R]{i:Nat}{p:Addr}{a:List α}(r:Ow R W p a)(h:σ[i]? =some (some<|.ref p):=by rfl):EV Er (bD i) σ W (pk R) (.ok a):=gM r.pk h
def isB:Rp Bool:=fun _ b v=>v=.bl b
instance zkeep10:Mono isB:=⟨fun _ h=>h⟩
theorem ah{i:Int}:EV Er (tC<|.int i) σ W (sh isI) (.ok i):=fun W1 _ Q k=>k _ W1 (.refl _) rfl
theorem bc{x:Str}{l:Tx}(h:x=aT l):EV Er (tC<|.str x) σ W (sh isS) (.ok l):=fun W1 _ Q k=>k _ W1 (.refl _) (by rw[h];rfl)
theorem eQ{b:Bool}:EV Er (tC<|.bl b) σ W (sh isB) (.ok b):=fun W1 _ Q k=>k _ W1 (.refl _) rfl
theorem o6{r:R2}{Ra:Rw α}[MonoW Ra]{Rb:Rw β}{R:Rw γ}{ma:Res α}{mb:Res β}{f:α->β->Res γ}(ha:EV Er ta σ W Ra ma)(hb:EV Er tb σ W Rb mb)
  (h:∀W a b x y Q,Ra W a x->Rb W b y->(f a b).OkE Er (fun c=>∀v W2,Ext W W2->R W2 c v->Q v W2.H)->r x y W.H Q):EV Er (cY r ta tb) σ W R (ma.bind fun a=>mb.bind fun b=>f a b):=fun W1 e1 Q k=>by
 refine ha W1 e1 _<|(Bm k).imp fun a ka x W2 e2 hx=>?_;refine hb W2 (e1.trans e2) _<|(Bm ka).imp fun b kb y W3 e3 hy=>?_;exact h W3 a b x y Q (MonoW.mono e3 hx) hy<|kb.imp fun c kc v W4 e4 hv=>kc v W4 ((e2.trans e3).trans e4) hv
theorem AH{r:V->Hp->VK->Prop}{Ra:Rw α}{R:Rw γ}{ma:Res α}{f:α->Res γ}(ha:EV Er ta σ W Ra ma)
  (h:∀W a x Q,Ra W a x->(f a).OkE Er (fun c=>∀v W2,Ext W W2->R W2 c v->Q v W2.H)->r x W.H Q):EV Er (fv r ta) σ W R (ma.bind f):=fun W1 e1 Q k=>by
 refine ha W1 e1 _<|(Bm k).imp fun a ka x W2 e2 hx=>?_;exact h W2 a x Q hx<|ka.imp fun c kc v W4 e4 hv=>kc v W4 (e2.trans e4) hv
section
variable{ma mb:Res Int}
theorem aM{g:Int->Int->Int}(ha:EV Er ta σ W (sh isI) ma)(hb:EV Er tb σ W (sh isI) mb):EV Er (cY (eW fun i j=>.int<|g i j) ta tb) σ W (sh isI) (ma.bind fun a=>mb.bind fun b=>.ok<|g a b):=
 o6 ha hb fun W a b x y Q hx hy k=>by cases hx;cases hy;exact⟨a,b,rfl,rfl,k _ W (.refl _) rfl⟩
theorem sG{C:Int->Int->Prop}{g:Int->Int->Int}{f:Int->Int->Res Int}(hf:∀a b P,(f a b).OkE Er P->C a b/\P (g a b))(ha:EV Er ta σ W (sh isI) ma)(hb:EV Er tb σ W (sh isI) mb):
  EV Er (cY (rI C fun i j=>.int<|g i j) ta tb) σ W (sh isI) (ma.bind fun a=>mb.bind fun b=>f a b):=
 o6 ha hb fun W a b x y Q hx hy k=>by cases hx;cases hy;exact⟨a,b,rfl,rfl,(hf a b _ k).1,(hf a b _ k).2 _ W (.refl _) rfl⟩
theorem gN(ha:EV Er ta σ W (sh isI) ma)(hb:EV Er tb σ W (sh isI) mb):EV Er (cY (rI CMul fun i j=>.int<|i*j) ta tb) σ W (sh isI) (ma.bind fun a=>mb.bind fun b=>iA a b):=sG (fun a b P h=>by unfold iA at h;obtain⟨h1,h2⟩:=aW h;exact⟨h1,h2⟩) ha hb
theorem oY(ha:EV Er ta σ W (sh isI) ma)(hb:EV Er tb σ W (sh isI) mb):EV Er (cY (rI yQ fun i j=>.int<|i/j) ta tb) σ W (sh isI) (ma.bind fun a=>mb.bind fun b=>jn a b):=sG (fun a b P h=>by unfold jn at h;obtain⟨h1,h2⟩:=aW h;exact⟨h1,h2⟩) ha hb
theorem fC(ha:EV Er ta σ W (sh isI) ma)(hb:EV Er tb σ W (sh isI) mb):EV Er (cY (rI (fun _ j=>0<j) fun i j=>.int<|i%j) ta tb) σ W (sh isI) (ma.bind fun a=>mb.bind fun b=>gL a b):=sG (fun a b P h=>by unfold gL at h;obtain⟨h1,h2⟩:=aW h;exact⟨h1,h2⟩) ha hb
theorem ao{C:Int->Int->Prop}{g:Int->Int->Int}{n:Int}(hn:∀a,C a n)(ha:EV Er ta σ W (sh isI) ma):EV Er (cY (rI C fun i j=>.int<|g i j) ta<|tC<|.int n) σ W (sh isI) (ma.bind fun a=>.ok<|g a n):=
 fun W1 e1 Q k=>ha W1 e1 _ ((Bm k).imp fun a ka x W2 e2 hx=>by cases hx;exact⟨a,n,rfl,rfl,hn a,ka _ W2 e2 rfl⟩)
end
end
end Wb
open Wb.EV renaming pk->DK
open Wb.EVo renaming ev->DY,pk->G6
open Wb.Ext renaming new->EY
open Wb.MonoW renaming mono->BR
namespace Wb
open PySem L2 Mi
variable{Er:Nat->Prop}
section
variable{α β γ δ:Type}{t ta tb tc:TE}{σ:St}{W W0 W':Wd}{K:Br}
theorem o7{n:Nat}(h:n<=cap):n<=sizeLine:=by rw[Cg];unfold cap at h;omega
section
variable{ma mb:Res Int}
theorem jq(ha:EV Er ta σ W (sh isI) ma):EV Er (fv (rU fun i=>.int<|-i) ta) σ W (sh isI) (ma.bind fun a=>.ok<|-a):=
 AH ha fun W a x Q hx k=>by cases hx;exact⟨a,rfl,k _ W (.refl _) rfl⟩
theorem cg{g:Int->Int->Bool}(ha:EV Er ta σ W (sh isI) ma)(hb:EV Er tb σ W (sh isI) mb):EV Er (cY (eW fun i j=>.bl<|g i j) ta tb) σ W (sh isB) (ma.bind fun a=>mb.bind fun b=>.ok<|g a b):=
 o6 ha hb fun W a b x y Q hx hy k=>by cases hx;cases hy;exact⟨a,b,rfl,rfl,k _ W (.refl _) rfl⟩
end
theorem dI{a b:Int}:decide (ER a=ER b)=decide (a=b):=by rw[CK];simp
theorem dS{a b:Tx}:decide (Fz (aT a)=Fz (aT b))=decide (a=b):=by
 rw[CK,decide_eq_true_eq,decide_eq_true_eq];exact⟨fun h=>oS<|Fz.inj h,fun h=>by rw[h]⟩
theorem cM{ma mb:Res Int}(ha:EV Er ta σ W (sh isI) ma)(hb:EV Er tb σ W (sh isI) mb):EV Er (cY fH ta tb) σ W (sh isB) (ma.bind fun a=>mb.bind fun b=>.ok<|decide<|a=b):=
 o6 ha hb fun W a b x y Q hx hy k=>by cases hx;cases hy;exact⟨rfl,by rw[dI];exact k _ W (.refl _) rfl⟩
theorem fD{ma mb:Res Tx}(ha:EV Er ta σ W (sh isS) ma)(hb:EV Er tb σ W (sh isS) mb):EV Er (cY fH ta tb) σ W (sh isB) (ma.bind fun a=>mb.bind fun b=>.ok<|decide<|a=b):=
 o6 ha hb fun W a b x y Q hx hy k=>by cases hx;cases hy;exact⟨rfl,by rw[dS];exact k _ W (.refl _) rfl⟩
theorem xH{ma mb:Res Int}(ha:EV Er ta σ W (sh isI) ma)(hb:EV Er tb σ W (sh isI) mb):EV Er (cY fI ta tb) σ W (sh isB) (ma.bind fun a=>mb.bind fun b=>.ok<|!decide (a=b)):=
 o6 ha hb fun W a b x y Q hx hy k=>by cases hx;cases hy;exact⟨rfl,by rw[dI];exact k _ W (.refl _) rfl⟩
theorem gO{ma mb:Res Tx}(ha:EV Er ta σ W (sh isS) ma)(hb:EV Er tb σ W (sh isS) mb):EV Er (cY fI ta tb) σ W (sh isB) (ma.bind fun a=>mb.bind fun b=>.ok<|!decide (a=b)):=
 o6 ha hb fun W a b x y Q hx hy k=>by cases hx;cases hy;exact⟨rfl,by rw[dS];exact k _ W (.refl _) rfl⟩
theorem az{m:Res Bool}(h:EV Er t σ W (sh isB) m):TV Er (bC t) σ W m:=fun W1 e1 Q k=>h W1 e1 _<|k.imp fun b kb v W2 e2 hv=>⟨b,hv,kb W2 e2⟩
theorem mP{m:Res Bool}(h:EV Er t σ W (sh isB) m):TV Er (tB t) σ W m:=fun W1 e1 Q k=>h W1 e1 _<|k.imp fun b kb v W2 e2 hv=>⟨b,hv,kb W2 e2⟩
theorem xI{t:TT}{m:Res Bool}(h:TV Er t σ W m):TV Er (cF t) σ W (m.bind fun b=>.ok<|!b):=fun W1 e1 Q k=>h W1 e1 _<|(Bm k).imp fun b kb W2 e2=>kb W2 e2
theorem dg{t u:TT}{m n:Res Bool}(h:TV Er t σ W m)(g:TV Er u σ W n):TV Er (cE t u) σ W (m.bind fun b=>if b then n else .ok false):=fun W1 e1 Q k=>h W1 e1 _ ((Bm k).imp fun b kb W2 e2=>by
 cases b with
 |true=>exact g W2 (e1.trans e2) _ (kb.imp fun c kc W3 e3=>kc W3<|e2.trans e3)
 |false=>exact kb W2 e2)
theorem sH{t u:TT}{m n:Res Bool}(h:TV Er t σ W m)(g:TV Er u σ W n):TV Er (fM t u) σ W (m.bind fun b=>if b then .ok true else n):=fun W1 e1 Q k=>h W1 e1 _ ((Bm k).imp fun b kb W2 e2=>by
 cases b with
 |true=>exact kb W2 e2
 |false=>exact g W2 (e1.trans e2) _ (kb.imp fun c kc W3 e3=>kc W3 (e2.trans e3)))
theorem sI{m n:Res Bool}(h:EV Er ta σ W (sh isB) m)(g:EV Er tb σ W (sh isB) n):EV Er (bA ta tb) σ W (sh isB) (m.bind fun b=>if b then n else .ok false):=fun W1 e1 Q k=>h W1 e1 _ ((Bm k).imp fun b kb v W2 e2 hv=>⟨b,hv,by
 cases b with
 |true=>exact g W2 (e1.trans e2) _ (kb.imp fun c kc v W3 e3 hv=>kc v W3 (e2.trans e3) hv)
 |false=>exact kb _ W2 e2 rfl⟩)
theorem zc{m n:Res Bool}(h:EV Er ta σ W (sh isB) m)(g:EV Er tb σ W (sh isB) n):EV Er (cG ta tb) σ W (sh isB) (m.bind fun b=>if b then .ok true else n):=fun W1 e1 Q k=>h W1 e1 _ ((Bm k).imp fun b kb v W2 e2 hv=>⟨b,hv,by
 cases b with
 |true=>exact kb _ W2 e2 rfl
 |false=>exact g W2 (e1.trans e2) _ (kb.imp fun c kc v W3 e3 hv=>kc v W3 (e2.trans e3) hv)⟩)
theorem xJ{m:Res Bool}(h:EV Er ta σ W (sh isB) m):EV Er (bB ta) σ W (sh isB) (m.bind fun b=>.ok<|!b):=fun W1 e1 Q k=>h W1 e1 _<|(Bm k).imp fun b kb v W2 e2 hv=>⟨b,hv,kb _ W2 e2 rfl⟩
theorem oZ{R:Rw α}{c:TT}{mc:Res Bool}{m n:Res α}(hc:TV Er c σ W mc)(h:EV Er ta σ W R m)(g:EV Er tb σ W R n):EV Er (fG c ta tb) σ W R (mc.bind fun b=>if b then m else n):=fun W1 e1 Q k=>hc W1 e1 _ ((Bm k).imp fun b kb W2 e2=>by
 cases b with
 |true=>exact h W2 (e1.trans e2) _ (kb.imp fun c kc v W3 e3 hv=>kc v W3 (e2.trans e3) hv)
 |false=>exact g W2 (e1.trans e2) _ (kb.imp fun c kc v W3 e3 hv=>kc v W3 (e2.trans e3) hv))
theorem eF{ma mb:Res Tx}(ha:EV Er ta σ W (sh isS) ma)(hb:EV Er tb σ W (sh isS) mb):EV Er (cY (fun x y H Q=>∃i j,x=.str i/\y=.str j/\i.length+j.length<=sizeLine/\Q (.str<|i++j) H) ta tb) σ W (sh isS) (ma.bind fun a=>mb.bind fun b=>iB a b):=
 o6 ha hb fun W a b x y Q hx hy k=>by
  cases hx;cases hy;obtain⟨h1,h2⟩:=aW k;exact⟨_,_,rfl,rfl,by rw[dO,dO];exact o7 h1,by rw[nW];exact h2 _ W (.refl _) rfl⟩
theorem vB{ma:Res Tx}{mb:Res Int}(ha:EV Er ta σ W (sh isS) ma)(hb:EV Er tb σ W (sh isI) mb):EV Er (cY (fun x y H Q=>∃c n,x=.str (aT [c])/\y=.int n/\0<=n/\n<=100000/\Q (.str<|aT<|DH n.toNat c) H) ta tb) σ W (sh isS) (ma.bind fun a=>mb.bind fun b=>xE a b):=
 o6 ha hb fun W a b x y Q hx hy k=>by
  cases hx;cases hy
  match a,k with
  | [c],k=>
   obtain⟨h1,h2⟩:=aW k;exact⟨c,b,rfl,rfl,h1.1,h1.2,h2 _ W (.refl _) rfl⟩
theorem bT{ma:Res Tx}{mb:Res Int}(ha:EV Er ta σ W (sh isS) ma)(hb:EV Er tb σ W (sh isI) mb):EV Er (cY cJ ta tb) σ W (sh isS) (ma.bind fun a=>mb.bind fun b=>fh a b):=
 o6 ha hb fun W a b x y Q hx hy k=>by
  cases hx;cases hy;obtain⟨h1,h2⟩:=aW<|Bm k;obtain⟨c,h3,h4⟩:=dv<|Bm h2;exact⟨_,b,c,rfl,rfl,by rw[dO];exact o7 h1,by rw[oR];exact h3,h4 _ W (.refl _) rfl⟩
theorem zd{R:Rw α}{r:V->Option Int->Option Int->Hp->VK->Prop}{Ra:Rw β}[MonoW Ra]{ma:Res β}{tl th:TO}{ml mh:Res (Option Int)}{f:β->Option Int->Option Int->Res α}(ha:EV Er ta σ W Ra ma)
  (hl:∀W1,Ext W W1->∀Q:Option Int->Hp->Prop,ml.OkE Er (fun o=>∀W2,Ext W1 W2->Q o W2.H)->tl σ W1.H Q) (hh:∀W1,Ext W W1->∀Q:Option Int->Hp->Prop,mh.OkE Er (fun o=>∀W2,Ext W1 W2->Q o W2.H)->th σ W1.H Q)
  (h:∀W a x lo hi Q,Ra W a x->(f a lo hi).OkE Er (fun c=>∀v W2,Ext W W2->R W2 c v->Q v W2.H)->r x lo hi W.H Q):EV Er (fw r ta tl th) σ W R (ma.bind fun a=>ml.bind fun lo=>mh.bind fun hi=>f a lo hi):=fun W1 e1 Q k=>
 ha W1 e1 _ ((Bm k).imp fun a ka x W2 e2 hx=>hl W2 (e1.trans e2) _ ((Bm ka).imp fun lo kl W3 e3=>hh W3 ((e1.trans e2).trans e3) _ ((Bm kl).imp fun hi kh W4 e4=>
  h W4 a x lo hi Q (BR (e3.trans e4) hx) (kh.imp fun c kc v W5 e5 hv=>kc v W5 (((e2.trans e3).trans e4).trans e5) hv))))
theorem p5:∀W1,Ext W W1->∀Q:Option Int->Hp->Prop,(Bt (none:Option Int)).OkE Er (fun o=>∀W2,Ext W1 W2->Q o W2.H)->aL σ W1.H Q:=fun W1 _ Q k=>k W1<|.refl _
theorem p6{m:Res Int}(h:EV Er t σ W (sh isI) m):∀W1,Ext W W1->∀Q:Option Int->Hp->Prop,(m.bind fun i=>.ok<|some i).OkE Er (fun o=>∀W2,Ext W1 W2->Q o W2.H)->bw t σ W1.H Q:=fun W1 e1 Q k=>
 h W1 e1 _ ((Bm k).imp fun i ki v W2 e2 hv=>⟨i,hv,ki W2 e2⟩)
theorem p7{ma:Res Tx}{tl th:TO}{ml mh:Res (Option Int)}(ha:EV Er ta σ W (sh isS) ma)
  (hl:∀W1,Ext W W1->∀Q:Option Int->Hp->Prop,ml.OkE Er (fun o=>∀W2,Ext W1 W2->Q o W2.H)->tl σ W1.H Q) (hh:∀W1,Ext W W1->∀Q:Option Int->Hp->Prop,mh.OkE Er (fun o=>∀W2,Ext W1 W2->Q o W2.H)->th σ W1.H Q):
  EV Er (fw (fun x lo hi H Q=>∃l,x=.str (aT l)/\l.length<=sizeLine/\Q (.str<|aT<|iX l lo hi) H) ta tl th) σ W (sh isS) (ma.bind fun a=>ml.bind fun lo=>mh.bind fun hi=>qH a lo hi):=
 zd ha hl hh fun W a x lo hi Q hx k=>by
  cases hx;obtain⟨h1,h2⟩:=aW k;exact⟨a,rfl,o7 h1,h2 _ W (.refl _) rfl⟩
theorem ze(x:Tx)(c j:Nat)(h:sD x c=some j):Gk (aT x) (aT [c])=(j:Int):=by
 unfold sD at h;rw[List.findIdx?_eq_some_iff_getElem]at h;obtain⟨hj,h1,h2⟩:=h;have hat:∀i,StrLaws.At (aT x) (aT [c]) (aT x).length i↔x[i]? =some c:=fun i=>by
  have:=StrLaws.subAt_one (aT x) c i;rw[oR]at this;exact this
 unfold Gk;rcases StrLaws.occ_head (aT x) (aT [c]) 1 (BD _)with⟨_,hn⟩|⟨i,r,e,hi,hk⟩
 ·exact absurd ((hat j).mpr (by rw[Bo hj];simpa using h1))<|hn j
 ·rw[e];have e2:=(hat i).mp hi;obtain⟨hil,e3⟩:=Bw.mp e2;have:i=j:=by
   rcases Nat.lt_trichotomy i j with z|z|z;·exact absurd e3 (by simpa using h2 i z)
   ·exact z
   ·exact absurd ((hat j).mpr (by rw[Bo hj];simpa using h1))<|hk j z
  rw[this]
theorem hU{ma mb:Res Tx}{K:Br}(ha:EV Er ta σ W (sh isS) ma)(hb:EV Er tb σ W (sh isS) mb):EV Er (eJ K "str" (fun x xs H Q=>∃a b,x=.str a/\xs=[.str b]/\0<=Gk a b/\Q (.int<|Gk a b) H) ta<|ak tb aN) σ W (sh isI) (ma.bind fun a=>mb.bind fun b=>j0 a b):=fun W1 e1 Q k=>
 ha W1 e1 _ ((Bm k).imp fun a ka x W2 e2 hx=>by
  cases hx;refine⟨rfl,hb W2 (e1.trans e2) _<|(Bm ka).imp fun b kb y W3 e3 hy=>?_⟩;cases hy
  match b,kb with
  | [c],kb=>
   obtain⟨j,h1,h2⟩:=dv (Bm kb);have e:=ze a c j h1;exact⟨_,_,rfl,rfl,by rw[e];omega,by rw[e];exact h2 _ W3 (e2.trans e3) rfl⟩)
theorem Same.tup{H H':Hp}{a:Addr}{xs:List V}(e:Same H H')(h:SqT K H a xs):SqT K H' a xs:=by
 rcases h with(h|⟨o,h⟩)|h;·exact .inl<|.inl<|e _ _ h
 ·exact .inl<|.inr ⟨o,e _ _ h⟩
 ·exact .inr h
def isT2(K:Br)(R1:Rp α)(R2:Rp β):Rp (α×β):=fun H a v=>∃p x y,v=.ref p/\SqT K H p [x,y]/\R1 H a.1 x/\R2 H a.2 y
def isT3(K:Br)(R1:Rp α)(R2:Rp β)(R3:Rp γ):Rp (α×β×γ):=fun H a v=>∃p x y z,v=.ref p/\SqT K H p [x,y,z]/\R1 H a.1 x/\R2 H a.2.1 y/\R3 H a.2.2 z
instance zkeep14{R1:Rp α}{R2:Rp β}[Mono R1][Mono R2]:Mono (isT2 K R1 R2):=⟨fun e⟨p,x,y,h0,h,h1,h2⟩=>⟨p,x,y,h0,Same.tup e h,Bk e h1,Bk e h2⟩⟩
instance zkeep15{R1:Rp α}{R2:Rp β}{R3:Rp γ}[Mono R1][Mono R2][Mono R3]:Mono (isT3 K R1 R2 R3):=⟨fun e⟨p,x,y,z,h0,h,h1,h2,h3⟩=>⟨p,x,y,z,h0,Same.tup e h,Bk e h1,Bk e h2,Bk e h3⟩⟩
theorem eX{R1:Rp α}{R2:Rp β}[Mono R1][Mono R2]{ma:Res α}{mb:Res β}(ha:EV Er ta σ W (sh R1) ma)(hb:EV Er tb σ W (sh R2) mb):EV Er (cx<|ak ta<|ak tb aN) σ W (sh<|isT2 K R1 R2) (ma.bind fun a=>mb.bind fun b=>.ok (a,b)):=fun W1 e1 Q k=>
 ha W1 e1 _ ((Bm k).imp fun a ka x W2 e2 hx=>hb W2 (e1.trans e2) _ ((Bm ka).imp fun b kb y W3 e3 hy=>⟨(by show 2<=sizeLine;decide),fun p hp=>
  kb (.ref p) (W3.new p (.tup [x,y])) ((e2.trans e3).trans (.new _ hp)) ⟨p,x,y,rfl,JR aB,Bk (EY _ hp).g (Bk (R:=R1) e3.g hx),Bk (R:=R2) (EY _ hp).g hy⟩⟩))
theorem dQ{R1:Rp α}{R2:Rp β}{R3:Rp γ}[Mono R1][Mono R2][Mono R3]{ma:Res α}{mb:Res β}{mc:Res γ}(ha:EV Er ta σ W (sh R1) ma)(hb:EV Er tb σ W (sh R2) mb)(hc:EV Er tc σ W (sh R3) mc):
  EV Er (cx<|ak ta<|ak tb<|ak tc aN) σ W (sh<|isT3 K R1 R2 R3) (ma.bind fun a=>mb.bind fun b=>mc.bind fun c=>.ok (a,b,c)):=fun W1 e1 Q k=>
 ha W1 e1 _ ((Bm k).imp fun a ka x W2 e2 hx=>hb W2 (e1.trans e2) _ ((Bm ka).imp fun b kb y W3 e3 hy=>hc W3 ((e1.trans e2).trans e3) _ ((Bm kb).imp fun c kc z W4 e4 hz=>⟨(by show 3<=sizeLine;decide),fun p hp=>
  kc (.ref p) (W4.new p (.tup [x,y,z])) (((e2.trans e3).trans e4).trans (.new _ hp)) ⟨p,x,y,z,rfl,JR aB,Bk (EY _ hp).g (Bk (R:=R1) (e3.trans e4).g hx),Bk (R:=R2) (EY _ hp).g (Bk (R:=R2) e4.g hy),Bk (R:=R3) (EY _ hp).g hz⟩⟩)))
theorem bg{R:Rp α}{Rt:Rp β}{m:Res β}{i:Int}{f:β->α}(h:∀H b v,Rt H b v->∃p xs x,v=.ref p/\SqT K H p xs/\L2.atI xs i=some x/\R H (f b) x)(ha:EV Er ta σ W (sh Rt) m):EV Er (cY (cy K) ta<|tC<|.int i) σ W (sh R) (m.bind fun b=>.ok<|f b):=fun W1 e1 Q k=>
 ha W1 e1 _ ((Bm k).imp fun b kb v W2 e2 hv=>by
  obtain⟨p,xs,x,h1,h2,h3,h4⟩:=h _ _ _ hv;exact⟨p,xs,i,x,h1,rfl,Same.tup W2.ok h2,h3,kb _ W2 e2 h4⟩)
theorem xK{R1:Rp α}{R2:Rp β}:∀H b v,isT2 K R1 R2 H b v->∃p xs x,v=.ref p/\SqT K H p xs/\L2.atI xs 0=some x/\R1 H b.1 x:=fun _ _ _⟨p,x,y,h0,h,h1,h2⟩=>⟨p,_,x,h0,h,rfl,h1⟩
theorem As{R1:Rp α}{R2:Rp β}:∀H b v,isT2 K R1 R2 H b v->∃p xs x,v=.ref p/\SqT K H p xs/\L2.atI xs 1=some x/\R2 H b.2 x:=fun _ _ _⟨p,x,y,h0,h,h1,h2⟩=>⟨p,_,y,h0,h,rfl,h2⟩
theorem mQ{R1:Rp α}{R2:Rp β}{R3:Rp γ}:∀H b v,isT3 K R1 R2 R3 H b v->∃p xs x,v=.ref p/\SqT K H p xs/\L2.atI xs 0=some x/\R1 H b.1 x:=fun _ _ _⟨p,x,y,z,h0,h,h1,h2,h3⟩=>⟨p,_,x,h0,h,rfl,h1⟩
theorem jZ{R1:Rp α}{R2:Rp β}{R3:Rp γ}:∀H b v,isT3 K R1 R2 R3 H b v->∃p xs x,v=.ref p/\SqT K H p xs/\L2.atI xs 1=some x/\R2 H b.2.1 x:=fun _ _ _⟨p,x,y,z,h0,h,h1,h2,h3⟩=>⟨p,_,y,h0,h,rfl,h2⟩
theorem jr{R1:Rp α}{R2:Rp β}{R3:Rp γ}:∀H b v,isT3 K R1 R2 R3 H b v->∃p xs x,v=.ref p/\SqT K H p xs/\L2.atI xs 2=some x/\R3 H b.2.2 x:=fun _ _ _⟨p,x,y,z,h0,h,h1,h2,h3⟩=>⟨p,_,z,h0,h,rfl,h3⟩
theorem p8{R:Rp α}{H:Hp}{as:List α}{xs:List V}(h:LR R H as xs){i:Int}{a:α}(e:oU as i=some a):∃x,L2.atI xs i=some x/\R H a x:=by
 unfold oU at e;unfold L2.atI;rw[h.1];cases z:Mi.ixN as.length i with
 |none=>rw[z]at e;cases e
 |some j=>
  rw[z]at e;obtain⟨x,h1,h2⟩:=h.get (i:=j) e;exact⟨x,by show(L2.ixN as.length i).bind _=_;rw[show L2.ixN as.length i=Mi.ixN as.length i from rfl,z];exact h1,h2⟩
theorem LR.three{R:Rp α}{H:Hp}{a b c:α}{x y z:V}(h1:R H a x)(h2:R H b y)(h3:R H c z):LR R H [a,b,c] [x,y,z]:=⟨rfl,fun i v m e1 e2=>by
 match i,e1,e2 with
 |0,e1,e2=>cases e1;cases e2;exact h1
 |1,e1,e2=>cases e1;cases e2;exact h2
 |2,e1,e2=>cases e1;cases e2;exact h3⟩
theorem bP{R:Rp α}[Mono R]{ma:Res (List α)}{mb:Res Int}(ha:EV Er ta σ W (pk R) ma)(hb:EV Er tb σ W (sh isI) mb):EV Er (cY (cf K) ta tb) σ W (sh R) (ma.bind fun a=>mb.bind fun b=>ef a b):=
 o6 ha hb fun W a b x y Q hx hy k=>by
  cases hy;obtain⟨p,vs,rfl,h,h1⟩:=hx;obtain⟨c,h4,h5⟩:=dv k;obtain⟨z,h6,h7⟩:=p8 h1 h4;exact⟨p,_,b,z,rfl,rfl,Di h,h6,h5 _ W (.refl _) h7⟩
theorem gj{R:Rp α}:EVo Er (bW aN) σ W R (.ok []):=fun W1 e1 Q k=>⟨by decide,fun p hp=>k p (W1.mut p (.lst [])<|W1.gnone hp) (.own _ hp) hp ⟨W1.gnone hp,[],aB,.nil⟩⟩
def AV(Er:Nat->Prop)(t:TA)(σ:St)(W:Wd)(R:Rp α)(n:Nat)(m:Res (List α)):Prop:=∀W1,Ext W W1->∀Q:List V->Hp->Prop,m.OkE Er (fun as=>∀vs W2,Ext W1 W2->vs.length=n->LR R W2.G as vs->Q vs W2.H)->t σ W1.H Q
theorem eR{R:Rp α}:AV Er aN σ W R 0 (.ok []):=fun W1 _ Q k=>k [] W1 (.refl _) rfl .nil
theorem LR.cons{R:Rp α}{H:Hp}{a:α}{v:V}{as:List α}{vs:List V}(h:R H a v)(r:LR R H as vs):LR R H (a::as) (v::vs):=⟨by simp[r.1],fun i x m e1 e2=>by
 cases i with
 |zero=>cases e1;cases e2;exact h
 |succ j=>exact r.2 j x m e1 e2⟩
theorem aZ{R:Rp α}[Mono R]{n:Nat}{ts:TA}{m:Res α}{ms:Res (List α)}(h:EV Er t σ W (sh R) m)(g:AV Er ts σ W R n ms):AV Er (ak t ts) σ W R (n+1) (m.bind fun a=>ms.bind fun as=>.ok (a::as)):=fun W1 e1 Q k=>
 h W1 e1 _ ((Bm k).imp fun a ka v W2 e2 hv=>g W2 (e1.trans e2) _ ((Bm ka).imp fun as kas vs W3 e3 hn hvs=>kas (v::vs) W3 (e2.trans e3) (by simp[hn])<|.cons (Bk (R:=R) e3.g hv) hvs))
theorem eS{R:Rp α}[Mono R]{n:Nat}{ts:TA}{ms:Res (List α)}(g:AV Er ts σ W R n ms)(hn:n<=cap:=by decide):EVo Er (bW ts) σ W R ms:=fun W1 e1 Q k=>
 g W1 e1 _ (k.imp fun as ka vs W2 e2 hv hvs=>⟨by rw[hv];exact o7 hn,fun p hp=>ka p (W2.mut p (.lst vs)<|W2.gnone hp) (e2.trans<|.own _ hp) (none_of e2.h hp) ⟨W2.gnone hp,vs,aB,hvs⟩⟩)
theorem p9{R:Rp α}[Mono R]{ma mb:Res (List α)}(ha:EV Er ta σ W (pk R) ma)(hb:EV Er tb σ W (pk R) mb):EVo Er (cY cK ta tb) σ W R (ma.bind fun a=>mb.bind fun b=>vA a b):=fun W1 e1 Q k=>
 ha W1 e1 _ ((Bm k).imp fun a ka x W2 e2 hx=>hb W2 (e1.trans e2) _ ((Bm ka).imp fun b kb y W3 e3 hy=>by
  obtain⟨p,vs,rfl,h1,h2⟩:=BR e3 hx;obtain⟨q,us,rfl,h3,h4⟩:=hy;obtain⟨h5,h6⟩:=aW kb;refine⟨p,q,vs,us,rfl,rfl,h1,h3,by rw[h2.1,h4.1];exact o7 h5,fun r hr=>h6 r (W3.mut r (.lst<|vs++us)<|W3.gnone hr) ((e2.trans e3).trans (.own _ hr)) (none_of (e2.trans e3).h hr) ⟨W3.gnone hr,_,aB,?_⟩⟩;exact⟨by rw[CS,CS,h2.1,h4.1],fun i v m q1 q2=>by
   by_cases hi:i<vs.length
   ·rw[BG hi]at q1;rw[BG (by rw[<-h2.1];exact hi)]at q2;exact h2.2 i v m q1 q2
   ·rw[BH (by omega)]at q1;rw[BH (by rw[<-h2.1];omega)]at q2;rw[<-h2.1]at q2;exact h4.2 _ v m q1 q2⟩))
theorem LR.cut{R:Rp α}{H:Hp}{as:List α}{vs:List V}(h:LR R H as vs)(lo hi:Option Int):LR R H (Mi.cut as lo hi) (nU vs lo hi):=by
 unfold Mi.cut nU;rw[h.1];exact(h.drop _).take _
theorem pf{R:Rp α}[Mono R]{ma:Res (List α)}{tl th:TO}{ml mh:Res (Option Int)}(ha:EV Er ta σ W (pk R) ma)
  (hl:∀W1,Ext W W1->∀Q:Option Int->Hp->Prop,ml.OkE Er (fun o=>∀W2,Ext W1 W2->Q o W2.H)->tl σ W1.H Q) (hh:∀W1,Ext W W1->∀Q:Option Int->Hp->Prop,mh.OkE Er (fun o=>∀W2,Ext W1 W2->Q o W2.H)->th σ W1.H Q):
  EVo Er (fw (cz K) ta tl th) σ W R (ma.bind fun a=>ml.bind fun lo=>mh.bind fun hi=>.ok<|Mi.cut a lo hi):=fun W1 e1 Q k=>
 ha W1 e1 _ ((Bm k).imp fun a ka x W2 e2 hx=>hl W2 (e1.trans e2) _ ((Bm ka).imp fun lo kl W3 e3=>hh W3 ((e1.trans e2).trans e3) _ ((Bm kl).imp fun hi kh W4 e4=>by
  obtain⟨p,vs,rfl,h1,h2⟩:=BR (e3.trans e4) hx;have e5:=(e2.trans e3).trans e4;exact⟨p,vs,rfl,Di h1,fun r hr=>kh r (W4.mut r (.lst (nU vs lo hi)) (W4.gnone hr)) (e5.trans (.own _ hr)) (none_of e5.h hr) ⟨W4.gnone hr,_,aB,h2.cut lo hi⟩⟩)))
theorem lE{ma:Res Int}(ha:EV Er ta σ W (sh isI) ma):EV Er (dW (fun xs H Q=>∃i,xs=[.int i]/\Q (.int (if i<0 then -i else i)) H)<|ak ta aN) σ W (sh isI) (ma.bind fun a=>.ok<|dG a):=fun W1 e1 Q k=>
 ha W1 e1 _ ((Bm k).imp fun a ka x W2 e2 hx=>by cases hx;exact⟨a,rfl,ka _ W2 e2 rfl⟩)
theorem d6{R:Rp α}{ma:Res (List α)}(ha:EV Er ta σ W (pk R) ma):EV Er (dW (fun xs H Q=>∃x n,xs=[x]/\mz K x H n/\Q (.int n) H)<|ak ta aN) σ W (sh isI) (ma.bind fun a=>.ok (a.length:Int)):=fun W1 e1 Q k=>
 ha W1 e1 _ ((Bm k).imp fun a ka x W2 e2 hx=>by
  obtain⟨p,vs,rfl,h1,h2⟩:=hx;exact⟨_,a.length,rfl,.inl ⟨vs,Di h1,h2.1.symm⟩,ka _ W2 e2 rfl⟩)
theorem vC{ma:Res Tx}(ha:EV Er ta σ W (sh isS) ma):EV Er (dW (fun xs H Q=>∃x n,xs=[x]/\mz K x H n/\Q (.int n) H)<|ak ta aN) σ W (sh isI) (ma.bind fun a=>xF a):=fun W1 e1 Q k=>
 ha W1 e1 _ ((Bm k).imp fun a ka x W2 e2 hx=>by
  cases hx;obtain⟨h1,h2⟩:=aW ka;exact⟨_,a.length,rfl,⟨by rw[dO];exact o7 h1,by rw[dO]⟩,h2 _ W2 e2 rfl⟩)
theorem lF{ma:Res (List Tx)}{x:Str}(hx:x=aT [])(ha:EV Er ta σ W (pk isS) ma):EV Er (eJ K "str" (fun x xs H Q=>∃(p:Addr)(ys:List (List Nat)),x=.str (aT [])/\xs=[.ref p]/\SqL K H p (ys.map fun y=>Fz<|aT y)/\ys.flatten.length<=100000/\Q (.str<|aT ys.flatten) H) (tC<|.str x)<|ak ta aN) σ W (sh isS) (ma.bind fun a=>mO a):=fun W1 e1 Q k=>
 ⟨by show Ap K "str" (.str x) W1.H;rfl,ha W1 e1 _ ((Bm k).imp fun a ka v W2 e2 hv=>by
  obtain⟨p,vs,rfl,h1,h2⟩:=hv;obtain⟨h3,h4⟩:=aW ka;exact⟨p,a,by rw[hx],rfl,Di (by rw[h1,h2.str]),h3,h4 _ W2 e2 rfl⟩)⟩
end
end Wb
open Wb.Same renaming tup->Dk
namespace Wb
open PySem L2 Mi
variable{Er:Nat->Prop}
abbrev Rt(β:Type):=Wd->β->VK->Prop
def rs{β:Type}(R:Rp β):Rt β:=fun W r Q=>∀u W',Ext W W'->R W'.G r u->Q u W'.H
def ro{β:Type}(R:Rp β):Rt (List β):=fun W r Q=>∀p W',Ext W W'->W.H p=none->Ow R W' p r->Q (.ref p) W'.H
section
variable{α β γ δ ε ζ:Type}
def dB(R1:Rp α)(rt:Rt β)(m:α->Res β):Sp:=fun vs H Q _=>∃(W:Wd)(a:α)(v:V),W.H=H/\vs=[v]/\R1 W.G a v/\∃Er:Nat->Prop,(m a).OkE Er fun r=>rt W r Q
def bH(R1:Rp α)(R2:Rp γ)(rt:Rt β)(m:α->γ->Res β):Sp:=fun vs H Q _=>∃(W:Wd)(a:α)(b:γ)(v u:V),W.H=H/\vs=[v,u]/\R1 W.G a v/\R2 W.G b u/\∃Er:Nat->Prop,(m a b).OkE Er fun r=>rt W r Q
def fc(R1:Rp α)(R2:Rp γ)(R3:Rp δ)(rt:Rt β)(m:α->γ->δ->Res β):Sp:=fun vs H Q _=>∃(W:Wd)(a:α)(b:γ)(c:δ)(v u w:V),W.H=H/\vs=[v,u,w]/\R1 W.G a v/\R2 W.G b u/\R3 W.G c w/\∃Er:Nat->Prop,(m a b c).OkE Er fun r=>rt W r Q
def j4(R1:Rp α)(R2:Rp γ)(R3:Rp δ)(R4:Rp ε)(rt:Rt β)(m:α->γ->δ->ε->Res β):Sp:=fun vs H Q _=>∃(W:Wd)(a:α)(b:γ)(c:δ)(d:ε)(v u w x:V),W.H=H/\vs=[v,u,w,x]/\R1 W.G a v/\R2 W.G b u/\R3 W.G c w/\R4 W.G d x/\∃Er:Nat->Prop,(m a b c d).OkE Er fun r=>rt W r Q
def fQ(R1:Rp α)(R2:Rp γ)(R3:Rp δ)(R4:Rp ε)(R5:Rp ζ)(rt:Rt β)(m:α->γ->δ->ε->ζ->Res β):Sp:=fun vs H Q _=>∃(W:Wd)(a:α)(b:γ)(c:δ)(d:ε)(e:ζ)(v u w x y:V),W.H=H/\vs=[v,u,w,x,y]/\R1 W.G a v/\R2 W.G b u/\R3 W.G c w/\R4 W.G d x/\R5 W.G e y/\∃Er:Nat->Prop,(m a b c d e).OkE Er fun r=>rt W r Q
variable{t t1 t2 t3 t4 t5:TE}{σ:St}{W W0 W':Wd}{K:Br}
section
variable{R1:Rp α}{R2:Rp γ}{R3:Rp δ}{R4:Rp ε}{R5:Rp ζ}[Mono R1][Mono R2][Mono R3][Mono R4][Mono R5]{m1:Res α}{m2:Res γ}{m3:Res δ}{m4:Res ε}{m5:Res ζ}{E:XK}
theorem cR{R:Rp β}{m:α->Res β}(h1:EV Er t1 σ W (sh R1) m1):EV Er (aV (dB R1 (rs R) m) [] E<|ak t1 aN) σ W (sh R) (m1.bind fun a=>m a):=fun W1 e1 Q k=>
 h1 W1 e1 _ ((Bm k).imp fun a ka v W2 e2 hv=>⟨W2,a,v,rfl,rfl,hv,Er,ka.imp fun r kr u W' e hu=>kr u W' (e2.trans e) hu⟩)
theorem ba{R:Rp β}{m:α->γ->Res β}(h1:EV Er t1 σ W (sh R1) m1)(h2:EV Er t2 σ W (sh R2) m2):EV Er (aV (bH R1 R2 (rs R) m) [] E<|ak t1<|ak t2 aN) σ W (sh R) (m1.bind fun a=>m2.bind fun b=>m a b):=fun W1 e1 Q k=>
 h1 W1 e1 _ ((Bm k).imp fun a ka v W2 e2 hv=>h2 W2 (e1.trans e2) _<|(Bm ka).imp fun b kb u W3 e3 hu=>⟨W3,a,b,v,u,rfl,rfl,BR (R:=sh R1) e3 hv,hu,Er,kb.imp fun r kr u W' e hu=>kr u W' ((e2.trans e3).trans e) hu⟩)
theorem iD{R:Rp β}{m:α->γ->Res (List β)}(h1:EV Er t1 σ W (sh R1) m1)(h2:EV Er t2 σ W (sh R2) m2):EVo Er (aV (bH R1 R2 (ro R) m) [] E<|ak t1<|ak t2 aN) σ W R (m1.bind fun a=>m2.bind fun b=>m a b):=fun W1 e1 Q k=>
 h1 W1 e1 _ ((Bm k).imp fun a ka v W2 e2 hv=>h2 W2 (e1.trans e2) _<|(Bm ka).imp fun b kb u W3 e3 hu=>⟨W3,a,b,v,u,rfl,rfl,BR (R:=sh R1) e3 hv,hu,Er,kb.imp fun r kr p W' e hp o=>kr p W' ((e2.trans e3).trans e) (none_of (e2.trans e3).h hp) o⟩)
theorem hV{R:Rp β}{m:α->γ->δ->Res β}(h1:EV Er t1 σ W (sh R1) m1)(h2:EV Er t2 σ W (sh R2) m2)(h3:EV Er t3 σ W (sh R3) m3):EV Er (aV (fc R1 R2 R3 (rs R) m) [] E<|ak t1<|ak t2<|ak t3 aN) σ W (sh R) (m1.bind fun a=>m2.bind fun b=>m3.bind fun c=>m a b c):=fun W1 e1 Q k=>
 h1 W1 e1 _ ((Bm k).imp fun a ka v W2 e2 hv=>h2 W2 (e1.trans e2) _ ((Bm ka).imp fun b kb u W3 e3 hu=>h3 W3 ((e1.trans e2).trans e3) _ ((Bm kb).imp fun c kc w W4 e4 hw=>
  ⟨W4,a,b,c,v,u,w,rfl,rfl,BR (R:=sh R1) (e3.trans e4) hv,BR (R:=sh R2) e4 hu,hw,Er,kc.imp fun r kr u W' e hu=>kr u W' (((e2.trans e3).trans e4).trans e) hu⟩)))
theorem fj{R:Rp β}{m:α->γ->δ->Res (List β)}(h1:EV Er t1 σ W (sh R1) m1)(h2:EV Er t2 σ W (sh R2) m2)(h3:EV Er t3 σ W (sh R3) m3):EVo Er (aV (fc R1 R2 R3 (ro R) m) [] E<|ak t1<|ak t2<|ak t3 aN) σ W R (m1.bind fun a=>m2.bind fun b=>m3.bind fun c=>m a b c):=fun W1 e1 Q k=>
 h1 W1 e1 _ ((Bm k).imp fun a ka v W2 e2 hv=>h2 W2 (e1.trans e2) _ ((Bm ka).imp fun b kb u W3 e3 hu=>h3 W3 ((e1.trans e2).trans e3) _ ((Bm kb).imp fun c kc w W4 e4 hw=>
  ⟨W4,a,b,c,v,u,w,rfl,rfl,BR (R:=sh R1) (e3.trans e4) hv,BR (R:=sh R2) e4 hu,hw,Er,kc.imp fun r kr p W' e hp o=>kr p W' (((e2.trans e3).trans e4).trans e) (none_of ((e2.trans e3).trans e4).h hp) o⟩)))
theorem sJ{R:Rp β}{m:α->γ->δ->ε->Res β}(h1:EV Er t1 σ W (sh R1) m1)(h2:EV Er t2 σ W (sh R2) m2)(h3:EV Er t3 σ W (sh R3) m3)(h4:EV Er t4 σ W (sh R4) m4):EV Er (aV (j4 R1 R2 R3 R4 (rs R) m) [] E<|ak t1<|ak t2<|ak t3<|ak t4 aN) σ W (sh R) (m1.bind fun a=>m2.bind fun b=>m3.bind fun c=>m4.bind fun d=>m a b c d):=fun W1 e1 Q k=>
 h1 W1 e1 _ ((Bm k).imp fun a ka v W2 e2 hv=>h2 W2 (e1.trans e2) _ ((Bm ka).imp fun b kb u W3 e3 hu=>h3 W3 ((e1.trans e2).trans e3) _ ((Bm kb).imp fun c kc w W4 e4 hw=>h4 W4 (((e1.trans e2).trans e3).trans e4) _ ((Bm kc).imp fun d kd x W5 e5 hx=>
  ⟨W5,a,b,c,d,v,u,w,x,rfl,rfl,BR (R:=sh R1) ((e3.trans e4).trans e5) hv,BR (R:=sh R2) (e4.trans e5) hu,BR (R:=sh R3) e5 hw,hx,Er,kd.imp fun r kr u W' e hu=>kr u W' ((((e2.trans e3).trans e4).trans e5).trans e) hu⟩))))
theorem qJ{R:Rp β}{m:α->γ->δ->ε->Res (List β)}(h1:EV Er t1 σ W (sh R1) m1)(h2:EV Er t2 σ W (sh R2) m2)(h3:EV Er t3 σ W (sh R3) m3)(h4:EV Er t4 σ W (sh R4) m4):EVo Er (aV (j4 R1 R2 R3 R4 (ro R) m) [] E<|ak t1<|ak t2<|ak t3<|ak t4 aN) σ W R (m1.bind fun a=>m2.bind fun b=>m3.bind fun c=>m4.bind fun d=>m a b c d):=fun W1 e1 Q k=>
 h1 W1 e1 _ ((Bm k).imp fun a ka v W2 e2 hv=>h2 W2 (e1.trans e2) _ ((Bm ka).imp fun b kb u W3 e3 hu=>h3 W3 ((e1.trans e2).trans e3) _ ((Bm kb).imp fun c kc w W4 e4 hw=>h4 W4 (((e1.trans e2).trans e3).trans e4) _ ((Bm kc).imp fun d kd x W5 e5 hx=>
  ⟨W5,a,b,c,d,v,u,w,x,rfl,rfl,BR (R:=sh R1) ((e3.trans e4).trans e5) hv,BR (R:=sh R2) (e4.trans e5) hu,BR (R:=sh R3) e5 hw,hx,Er,kd.imp fun r kr p W' e hp o=>kr p W' ((((e2.trans e3).trans e4).trans e5).trans e) (none_of (((e2.trans e3).trans e4).trans e5).h hp) o⟩))))
theorem js{R:Rp β}{m:α->γ->δ->ε->ζ->Res β}(h1:EV Er t1 σ W (sh R1) m1)(h2:EV Er t2 σ W (sh R2) m2)(h3:EV Er t3 σ W (sh R3) m3)(h4:EV Er t4 σ W (sh R4) m4)(h5:EV Er t5 σ W (sh R5) m5):EV Er (aV (fQ R1 R2 R3 R4 R5 (rs R) m) [] E<|ak t1<|ak t2<|ak t3<|ak t4<|ak t5 aN) σ W (sh R) (m1.bind fun a=>m2.bind fun b=>m3.bind fun c=>m4.bind fun d=>m5.bind fun e=>m a b c d e):=fun W1 e1 Q k=>
 h1 W1 e1 _ ((Bm k).imp fun a ka v W2 e2 hv=>h2 W2 (e1.trans e2) _ ((Bm ka).imp fun b kb u W3 e3 hu=>h3 W3 ((e1.trans e2).trans e3) _ ((Bm kb).imp fun c kc w W4 e4 hw=>h4 W4 (((e1.trans e2).trans e3).trans e4) _ ((Bm kc).imp fun d kd x W5 e5 hx=>h5 W5 ((((e1.trans e2).trans e3).trans e4).trans e5) _ ((Bm kd).imp fun e ke y W6 e6 hy=>
  ⟨W6,a,b,c,d,e,v,u,w,x,y,rfl,rfl,BR (R:=sh R1) (((e3.trans e4).trans e5).trans e6) hv,BR (R:=sh R2) ((e4.trans e5).trans e6) hu,BR (R:=sh R3) (e5.trans e6) hw,BR (R:=sh R4) e6 hx,hy,Er,ke.imp fun r kr u W' e hu=>kr u W' (((((e2.trans e3).trans e4).trans e5).trans e6).trans e) hu⟩)))))
theorem gk{R:Rp β}{m:α->γ->δ->ε->ζ->Res (List β)}(h1:EV Er t1 σ W (sh R1) m1)(h2:EV Er t2 σ W (sh R2) m2)(h3:EV Er t3 σ W (sh R3) m3)(h4:EV Er t4 σ W (sh R4) m4)(h5:EV Er t5 σ W (sh R5) m5):EVo Er (aV (fQ R1 R2 R3 R4 R5 (ro R) m) [] E<|ak t1<|ak t2<|ak t3<|ak t4<|ak t5 aN) σ W R (m1.bind fun a=>m2.bind fun b=>m3.bind fun c=>m4.bind fun d=>m5.bind fun e=>m a b c d e):=fun W1 e1 Q k=>
 h1 W1 e1 _ ((Bm k).imp fun a ka v W2 e2 hv=>h2 W2 (e1.trans e2) _ ((Bm ka).imp fun b kb u W3 e3 hu=>h3 W3 ((e1.trans e2).trans e3) _ ((Bm kb).imp fun c kc w W4 e4 hw=>h4 W4 (((e1.trans e2).trans e3).trans e4) _ ((Bm kc).imp fun d kd x W5 e5 hx=>h5 W5 ((((e1.trans e2).trans e3).trans e4).trans e5) _ ((Bm kd).imp fun e ke y W6 e6 hy=>
  ⟨W6,a,b,c,d,e,v,u,w,x,y,rfl,rfl,BR (R:=sh R1) (((e3.trans e4).trans e5).trans e6) hv,BR (R:=sh R2) ((e4.trans e5).trans e6) hu,BR (R:=sh R3) (e5.trans e6) hw,BR (R:=sh R4) e6 hx,hy,Er,ke.imp fun r kr p W' e hp o=>kr p W' (((((e2.trans e3).trans e4).trans e5).trans e6).trans e) (none_of ((((e2.trans e3).trans e4).trans e5).trans e6).h hp) o⟩)))))
end
def Yl(J:It)(W:Wd)(R:Rp α)(xs:List α):Prop:=∀W1:Wd,Same W.G W1.G->(∀(i:Nat)(a:α),xs[i]? =some a->J.go i W1.H/\∀x H',J.yld i W1.H x H'->∃W2:Wd,W2.H=H'/\Ext W1 W2/\R W2.G a x)/\J.stop xs.length W1.H
def IV(Er:Nat->Prop)(wi:TI)(σ:St)(W:Wd)(R:Rp α)(m:Res (List α)):Prop:=∀W1,Ext W W1->∀P:It->Hp->Prop,m.OkE Er (fun xs=>∀J W2,Ext W1 W2->Yl J W2 R xs->P J W2.H)->wi σ W1.H P
theorem cb{R:Rp α}[Mono R]{m:Res (List α)}(h:EV Er t σ W (sh<|isL R) m):IV Er (rM K t) σ W R m:=fun W1 e1 P k=>
 h W1 e1 _ (k.imp fun xs kx v W2 e2 hv=>by
  obtain⟨p,vs,rfl,h1,h2⟩:=hv;refine⟨p,rfl,⟨vs,Di (W2.ok _ _ h1)⟩,kx _ W2 e2 fun W3 e3=>⟨fun i a ha=>?_,vs,Di (W3.ok _ _ (e3 _ _ h1)),by rw[h2.1];exact BD _⟩⟩;obtain⟨x,hx,hr⟩:=h2.get ha;refine⟨⟨vs,x,Di (W3.ok _ _ (e3 _ _ h1)),hx⟩,fun y H'⟨z1,z2⟩=>⟨W3,z1.symm,.refl _,?_⟩⟩;have:=z2 vs (Di (W3.ok _ _ (e3 _ _ h1)));rw[hx]at this;cases this;exact Bk e3 hr)
theorem iE{m:Res Tx}(h:EV Er t σ W (sh isS) m):IV Er (yW t) σ W isS (m.bind fun x=>.ok<|bE x):=fun W1 e1 P k=>
 h W1 e1 _ ((Bm k).imp fun x kx v W2 e2 hv=>by
  cases hv;refine⟨x,rfl,kx _ W2 e2 fun W3 e3=>⟨fun i a ha=>?_,by show x.length<=(bE x).length;simp[bE]⟩⟩;unfold bE at ha;rw[Bz]at ha;cases hc:x[i]? with
  |none=>rw[hc]at ha;cases ha
  |some c=>
   rw[hc]at ha;cases ha;refine⟨(Bw.mp hc).1,fun y H'⟨z1,c',z2,z3⟩=>⟨W3,z1.symm,.refl _,?_⟩⟩;rw[hc]at z2;cases z2;exact z3)
theorem fX{m:Res Int}(h:EV Er t σ W (sh isI) m):IV Er (wX<|ak t aN) σ W isI (m.bind fun n=>fb n):=fun W1 e1 P k=>
 h W1 e1 _ ((Bm k).imp fun n kn v W2 e2 hv=>by
  cases hv;obtain⟨hb,kn⟩:=aW kn;refine⟨n,rfl,hb.1,hb.2,kn _ W2 e2 fun W3 e3=>⟨fun i a ha=>?_,by show n.toNat<=(jo n).length;simp[jo]⟩⟩;unfold jo at ha;rw[Bz]at ha;have hi:i<n.toNat:=by
   refine CD fun z=>?_;rw[Cb.mpr (by simp;omega)]at ha;cases ha
  rw[F0 hi]at ha;cases ha;exact⟨hi,fun y H'⟨z1,z2⟩=>⟨W3,z1.symm,.refl _,by rw[z2];show ER (0+(i:Int))=.int (i:Int);rw[Int.zero_add]⟩⟩)
def SrcR(K:Br)(W:Wd)(R:Rp α)(xs:List α)(v:V):Prop:=∃(c:Src)(vs:List V),v=c.val/\(∀W1:Wd,Same W.G W1.G->c.has K W1.H vs)/\LR R W.G xs vs
theorem SrcR.mono{R:Rp α}[Mono R]{xs:List α}{v:V}(h:SrcR K W R xs v)(e:Same W.G W'.G):SrcR K W' R xs v:=by
 obtain⟨c,vs,h1,h2,h3⟩:=h;exact⟨c,vs,h1,fun W1 e1=>h2 W1<|e.trans e1,h3.same e⟩
def SV(Er:Nat->Prop)(t:TE)(σ:St)(W:Wd)(K:Br)(R:Rp α)(m:Res (List α)):Prop:=EV Er t σ W (fun W xs v=>SrcR K W R xs v) m
theorem iF{R:Rp α}[Mono R]{m:Res (List α)}(h:EV Er t σ W (sh<|isL R) m):SV Er t σ W K R m:=h.imp fun W xs v⟨p,vs,h0,h1,h2⟩=>⟨.lst p,vs,h0,fun W1 e1=>Di<|W1.ok _ _<|e1 _ _ h1,h2⟩
theorem sL{H:Hp}(x:Tx):LR isS H (bE x) (x.map fun c=>Fz<|aT [c]):=⟨by simp[bE],fun i v m e1 e2=>by
 unfold bE at e2;rw[Bz]at e1 e2;cases hc:x[i]? with
 |none=>rw[hc]at e1;cases e1
 |some c=>rw[hc]at e1 e2;cases e1;cases e2;rfl⟩
theorem xM{m:Res Tx}(h:EV Er t σ W (sh isS) m):SV Er t σ W K isS (m.bind fun x=>.ok<|bE x):=fun W1 e1 Q k=>
 h W1 e1 _ ((Bm k).imp fun x kx v W2 e2 hv=>by cases hv;exact kx _ W2 e2 ⟨.str x,_,rfl,fun _ _=>rfl,sL x⟩)
theorem gm{R:Rp α}{m:Res (α×α×α)}(h:EV Er t σ W (sh<|isT3 K R R R) m):SV Er t σ W K R (m.bind fun x=>.ok [x.1,x.2.1,x.2.2]):=fun W1 e1 Q k=>
 h W1 e1 _ ((Bm k).imp fun x kx v W2 e2 hv=>by
  obtain⟨p,a,b,c,h0,h,h1,h2,h3⟩:=hv;exact kx _ W2 e2 ⟨.tup p,_,h0,fun W3 e3=>Dk (e3.trans W3.ok) h,LR.three h1 h2 h3⟩)
theorem jt{R1:Rp α}{R2:Rp β}[Mono R1][Mono R2]{m1:Res (List α)}{m2:Res (List β)}(h1:SV Er t1 σ W K R1 m1)(h2:SV Er t2 σ W K R2 m2):IV Er (xB K<|ak t1<|ak t2 aN) σ W (isT2 K R1 R2) (m1.bind fun xs=>m2.bind fun ys=>.ok<|xs.zip ys):=fun W1 e1 P k=>
 h1 W1 e1 _ ((Bm k).imp fun xs kx v W2 e2 hv=>h2 W2 (e1.trans e2) _ ((Bm kx).imp fun ys ky u W3 e3 hu=>by
  obtain⟨c1,vs,rfl,a1,b1⟩:=SrcR.mono hv e3.g;obtain⟨c2,us,rfl,a2,b2⟩:=hu;refine⟨c1,c2,vs,us,rfl,a1 W3<|.refl _,a2 W3<|.refl _,ky _ W3 (e2.trans e3) fun W4 e4=>⟨fun i ab hab=>?_,?_⟩⟩
  ·rw[Co]at hab;obtain⟨x,hx,rx⟩:=b1.get hab.1;obtain⟨y,hy,ry⟩:=b2.get hab.2;refine⟨⟨vs,us,x,y,a1 W4 e4,a2 W4 e4,hx,hy⟩,fun z H'⟨p,x',y',hp,z0,z1,z2,z3⟩=>⟨W4.new p<|.tup [x',y'],by rw[z3];rfl,.new _ hp,p,x',y',z0,JR aB,?_,?_⟩⟩
   ·have:=z1 vs<|a1 W4 e4;rw[hx]at this;cases this;exact Bk (e4.trans (EY _ hp).g) rx
   ·have:=z2 us<|a2 W4 e4;rw[hy]at this;cases this;exact Bk (e4.trans (EY _ hp).g) ry
  ·refine⟨vs,us,a1 W4 e4,a2 W4 e4,?_⟩;rw[Fd,b1.1,b2.1];omega))
theorem kM{f:α->Res β}{xs:List α}{i:Nat}{a:α}(h:xs[i]? =some a):gX f (xs.drop i)=(f a).bind fun b=>(gX f<|xs.drop<|i+1).bind fun bs=>.ok (b::bs):=by
 obtain⟨hi,e⟩:=Bw.mp h;rw[Dz hi,e];rfl
theorem o8{f:α->Res (Option β)}{xs:List α}{i:Nat}{a:α}(h:xs[i]? =some a):gY f (xs.drop i)=(f a).bind fun b=>(gY f<|xs.drop<|i+1).bind fun bs=>.ok (match b with|some b=>b::bs|none=>bs):=by
 obtain⟨hi,e⟩:=Bw.mp h;rw[Dz hi,e];rfl
theorem fE{cap:List (Option Nat)}{wi:TI}{g:TG}{te:TE}{R:Rp α}{R':Rp β}[Mono R']{m:Res (List α)}{f:α->Res β}(hi:IV Er wi σ W R m)
  (hb:∀(W1:Wd)(a:α)(v:V),Ext W W1->R W1.G a v->∀Q:VK,(f a).OkE Er (fun b=>∀u W2,Ext W1 W2->R' W2.G b u->Q u W2.H)->g v (bF cap σ) W1.H fun σ2 H2=>Keep (bF cap σ) σ2/\te σ2 H2 Q):
  EVo Er (mI cap wi g vq te) σ W R' (m.bind fun xs=>eE xs f):=fun W1 e1 Q k=>by
 refine hi W1 e1 _<|(Bm k).imp fun xs kx J W2 e2 hy=>?_;obtain⟨hl,kx⟩:=aW<|Bm kx;refine⟨fun i n ys H=>n=xs.length-i/\i<=xs.length/\ys.length<=i/\∃(W3:Wd)(bs:List β),W3.H=H/\Ext W2 W3/\LR R' W3.G bs ys/\(gX f<|xs.drop i).OkE Er (fun r=>∀p W4,Ext W1 W4->W1.H p=none->Ow R' W4 p (bs++r)->Q (.ref p) W4.H),⟨xs.length,by simp,by simp,by simp,W2,[],rfl,.refl _,.nil,?_⟩,?_⟩;·simpa using kx
 ·rintro i n ys H ⟨rfl,hi1,hyl,W3,bs,rfl,e3,lr,q⟩;refine⟨by rw[Cg];unfold Mi.cap at hl;omega,?_⟩;by_cases hlt:i<xs.length
  ·obtain⟨a,ha⟩:∃a,xs[i]? =some a:=⟨xs[i],by simp[hlt]⟩
   obtain⟨h1,h2⟩:=(hy W3 e3.g).1 i a ha;refine .inr ⟨h1,fun ys' H'=>ys'.length<=i+1/\∃(W3:Wd)(bs:List β),W3.H=H'/\Ext W2 W3/\LR R' W3.G bs ys'/\(gX f<|xs.drop<|i+1).OkE Er (fun r=>∀p W4,Ext W1 W4->W1.H p=none->Ow R' W4 p (bs++r)->Q (.ref p) W4.H),fun ys' H'⟨z1,z2⟩=>⟨xs.length-(i+1),by omega,rfl,hlt,z1,z2⟩,fun x H' hx=>?_⟩;obtain⟨W4,rfl,e4,rx⟩:=h2 x H' hx;rw[kM ha]at q;have:=hb W4 a x (e1.trans<|(e2.trans e3).trans e4) rx (fun y H4=>(ys++[y]).length<=i+1/\∃(W3:Wd)(bs:List β),W3.H=H4/\Ext W2 W3/\LR R' W3.G bs (ys++[y])/\(gX f<|xs.drop<|i+1).OkE Er (fun r=>∀p W4,Ext W1 W4->W1.H p=none->Ow R' W4 p (bs++r)->Q (.ref p) W4.H))
    ((Bm q).imp fun b kb u W5 e5 hu=>⟨by simp;exact hyl,W5,bs++[b],rfl,(e3.trans e4).trans e5,(lr.same (e4.trans e5).g).snoc hu,(Bm kb).imp fun r kr=>by rw[Du];exact kr⟩)
   exact this
  ·have e:i=xs.length:=by omega
   subst e;rw[Eh]at q;refine .inl ⟨(hy W3 e3.g).2,fun D hD=>?_⟩;have e13:=e2.trans e3;have:=q D (W3.mut D (.lst ys)<|W3.gnone hD) (e13.trans<|.own _ hD) (none_of e13.h hD) ⟨W3.gnone hD,ys,aB,by rw[DP];exact lr⟩;exact this
theorem sM{cap:List (Option Nat)}{wi:TI}{g:TG}{tf:TT}{te:TE}{R:Rp α}{R':Rp β}[Mono R']{m:Res (List α)}{f:α->Res (Option β)}(hi:IV Er wi σ W R m)
    (hb:∀(W1:Wd)(a:α)(v:V),Ext W W1->R W1.G a v->∀Q:Option V->Hp->Prop,(f a).OkE Er (fun b=>∀u W2,Ext W1 W2->(match b,u with|some b,some u=>R' W2.G b u|none,none=>True|_,_=>False)->Q u W2.H)->g v (bF cap σ) W1.H fun σ2 H2=>Keep (bF cap σ) σ2/\tf σ2 H2 fun b H3=>if b=true then te σ2 H3 (fun y H4=>Q (some y) H4)else Q none H3):
    EVo Er (mI cap wi g tf te) σ W R' (m.bind fun xs=>oW xs f):=fun W1 e1 Q k=>by
  refine hi W1 e1 _<|(Bm k).imp fun xs kx J W2 e2 hy=>?_;obtain⟨hl,kx⟩:=aW<|Bm kx;refine⟨fun i n ys H=>n=xs.length-i/\i<=xs.length/\ys.length<=i/\∃(W3:Wd)(bs:List β),W3.H=H/\Ext W2 W3/\LR R' W3.G bs ys/\(gY f<|xs.drop i).OkE Er (fun r=>∀p W4,Ext W1 W4->W1.H p=none->Ow R' W4 p (bs++r)->Q (.ref p) W4.H),⟨xs.length,by simp,by simp,by simp,W2,[],rfl,.refl _,.nil,?_⟩,?_⟩;·simpa using kx
  · rintro i n ys H ⟨rfl,hi1,hyl,W3,bs,rfl,e3,lr,q⟩;refine⟨by rw[Cg];unfold Mi.cap at hl;omega,?_⟩;by_cases hlt:i<xs.length
    · obtain⟨a,ha⟩:∃a,xs[i]? =some a:=⟨xs[i],by simp[hlt]⟩
      obtain⟨h1,h2⟩:=(hy W3 e3.g).1 i a ha;refine .inr ⟨h1,fun ys' H'=>ys'.length<=i+1/\∃(W3:Wd)(bs:List β),W3.H=H'/\Ext W2 W3/\LR R' W3.G bs ys'/\(gY f<|xs.drop<|i+1).OkE Er (fun r=>∀p W4,Ext W1 W4->W1.H p=none->Ow R' W4 p (bs++r)->Q (.ref p) W4.H),fun ys' H'⟨z1,z2⟩=>⟨xs.length-(i+1),by omega,rfl,hlt,z1,z2⟩,fun x H' hx=>?_⟩;obtain⟨W4,rfl,e4,rx⟩:=h2 x H' hx;rw[o8 ha]at q
      have:=hb W4 a x (e1.trans<|(e2.trans e3).trans e4) rx (fun y H4=>(match y with|some y=>ys++[y]|none=>ys).length<=i+1/\∃(W3:Wd)(bs:List β),W3.H=H4/\Ext W2 W3/\LR R' W3.G bs (match y with|some y=>ys++[y]|none=>ys)/\(gY f<|xs.drop<|i+1).OkE Er (fun r=>∀p W4,Ext W1 W4->W1.H p=none->Ow R' W4 p (bs++r)->Q (.ref p) W4.H))
        ((Bm q).imp fun b kb u W5 e5 hu=>by
          match b,u,hu,kb with
          |some b,some u,hu,kb=>exact⟨by simp;exact hyl,W5,bs++[b],rfl,(e3.trans e4).trans e5,(lr.same (e4.trans e5).g).snoc hu,(Bm kb).imp fun r kr=>by rw[Du];exact kr⟩
          |none,none,hu,kb=>exact⟨by show ys.length<=i+1;omega,W5,bs,rfl,(e3.trans e4).trans e5,lr.same (e4.trans e5).g,(Bm kb).imp fun r kr=>kr⟩)
      exact this
    · have e:i=xs.length:=by omega
      subst e;rw[Eh]at q;refine .inl ⟨(hy W3 e3.g).2,fun D hD=>?_⟩;have e13:=e2.trans e3;have:=q D (W3.mut D (.lst ys)<|W3.gnone hD) (e13.trans<|.own _ hD) (none_of e13.h hD) ⟨W3.gnone hD,ys,aB,by rw[DP];exact lr⟩;exact this
end
end Wb
open Wb.SrcR renaming mono->Lp
namespace Wb
open PySem L2 Mi
variable{Er:Nat->Prop}
section
variable{α β γ δ:Type}{t u:TS}{te ti:TE}{g:TG}{D:Ends}{σ:St}{W W0 W':Wd}{K:Br}{i j k n:Nat}{P:St->Hp->Prop}{H:Hp}{v:V}
theorem gn{σ':St}(h:P σ' H)(hσ:σ.set i (some v)=σ':=by rfl):aP i v σ H P:=by subst hσ;exact h
theorem k4{σ':V->V->St}{R1:Rp α}{R2:Rp β}{ab:α×β}(h:isT2 K R1 R2 W.G ab v)(q:∀x y,R1 W.G ab.1 x->R2 W.G ab.2 y->P (σ' x y) W.H)(hσ:∀x y,(σ.set i<|some x).set j (some y)=σ' x y:=by intro _ _;rfl):cu K 2 (br (aP i)<|br (aP j) cw) v σ W.H P:=by
 obtain⟨p,x,y,h0,h,h1,h2⟩:=h;exact⟨p,_,h0,Dk W.ok h,rfl,x,_,rfl,y,_,rfl,rfl,by have:=q x y h1 h2;rw[<-hσ]at this;exact this⟩
theorem sN{σ':V->V->V->St}{R1:Rp α}{R2:Rp β}{R3:Rp γ}{ab:α×β×γ}(h:isT3 K R1 R2 R3 W.G ab v)(q:∀x y z,R1 W.G ab.1 x->R2 W.G ab.2.1 y->R3 W.G ab.2.2 z->P (σ' x y z) W.H)(hσ:∀x y z,((σ.set i<|some x).set j (some y)).set k (some z)=σ' x y z:=by intro _ _ _;rfl):cu K 3 (br (aP i)<|br (aP j)<|br (aP k) cw) v σ W.H P:=by
 obtain⟨p,x,y,z,h0,h,h1,h2,h3⟩:=h;exact⟨p,_,h0,Dk W.ok h,rfl,x,_,rfl,y,_,rfl,z,_,rfl,rfl,by have:=q x y z h1 h2 h3;rw[<-hσ]at this;exact this⟩
theorem cW{σ':V->St}{R:Rw α}{m:Res α}(h:EV Er te σ W R m)(q:m.OkE Er fun a=>∀v W',Ext W W'->R W' a v->D.nx (σ' v) W'.H)(hσ:∀v,σ.set i (some v)=σ' v:=by intro _;rfl):bI te (aP i) D σ W.H:=h W (.refl _) _ (q.imp fun a k v W' e r=>by have:=k v W' e r;rw[<-hσ]at this;exact this)
theorem vD{σ':Addr->St}{R:Rp α}{m:Res (List α)}(h:EVo Er te σ W R m)(q:m.OkE Er fun a=>∀p W',Ext W W'->W.H p=none->Ow R W' p a->D.nx (σ' p) W'.H)(hσ:∀p,σ.set i (some<|.ref p)=σ' p:=by intro _;rfl):bI te (aP i) D σ W.H:=h W (.refl _) _ (q.imp fun a k p W' e hp r=>by have:=k p W' e hp r;rw[<-hσ]at this;exact this)
theorem aX{R:Rw α}{m:Res α}(h:EV Er te σ W R m)(q:m.OkE Er fun a=>∀v W',Ext W W'->R W' a v->D.rt v W'.H):cq te D σ W.H:=h W (.refl _) _ q
theorem lG{R:Rp α}{m:Res (List α)}(h:EVo Er te σ W R m)(q:m.OkE Er fun a=>∀p W',Ext W W'->W.H p=none->Ow R W' p a->D.rt (.ref p) W'.H):cq te D σ W.H:=h W (.refl _) _ q
theorem ph{c:TT}{m:Res Bool}(h:TV Er c σ W m)(q:m.OkE Er fun b=>∀W',Ext W W'->if b=true then t D σ W'.H else u D σ W'.H):iV c t u D σ W.H:=h W (.refl _) _ q
theorem gP{S:Type}{c:TT}{m:Res Bool}{mA mB:Res S}{P:S->Prop}(Iv:S->Wd->St->Prop)(h:TV Er c σ W m)(q:(m.bind fun b=>if b then mA else mB).OkE Er P)
  (hA:∀W'(N:St->Hp->Prop),Ext W W'->(∀s W1 σ1,Same W.G W1.G->Iv s W1 σ1->P s->N σ1 W1.H)->mA.OkE Er P->t {D with nx:=N} σ W'.H)
  (hB:∀W'(N:St->Hp->Prop),Ext W W'->(∀s W1 σ1,Same W.G W1.G->Iv s W1 σ1->P s->N σ1 W1.H)->mB.OkE Er P->u {D with nx:=N} σ W'.H)
  (hd:∀s W1 σ1,Same W.G W1.G->Iv s W1 σ1->P s->D.nx σ1 W1.H):iV c t u D σ W.H:=h W (.refl _) _ ((Bm q).imp fun b kb W' e=>by
 cases b with
 |true=>exact hA W' D.nx e hd kb
 |false=>exact hB W' D.nx e hd kb)
theorem Ow.ne{R:Rp α}{p q:Addr}{ys:List α}(o:Ow R W q ys)(hp:W.H p=none):q≠p:=by
 obtain⟨vs,a,b⟩:=o.h;exact cn a hp
structure Mu(W W':Wd)(p:Addr):Prop where
 g:Same W.G W'.G
 e:∀W0:Wd,Ext W0 W->W0.H p=none->Ext W0 W'
 h:∀q,q≠p->W.H q≠none->W'.H q=W.H q/\W'.G q=W.G q
theorem Mu.of{W1:Wd}{p:Addr}{o:HO}(e1:Ext W W1)(hg:W1.G p=none):Mu W (W1.mut p o hg) p:=⟨e1.g,fun W0 e0 hp=>(e0.trans e1).mut hp hg,fun q hq hn=>by
 obtain⟨o',ho⟩:=EN.mp hn;exact⟨by show cN W1.H p o q=_;rw[aG hq,e1.h _ _ ho,ho],e1.k q hn⟩⟩
theorem Mu.ow{R:Rp α}[Mono R]{p q:Addr}{ys:List α}(m:Mu W W' p)(hq:q≠p)(o:Ow R W q ys):Ow R W' q ys:=by
 obtain⟨vs,a,b⟩:=o.h;obtain⟨h1,h2⟩:=m.h q hq (by rw[a];exact fun z=>nomatch z);exact⟨by rw[h2];exact o.g,vs,by rw[h1];exact a,b.same m.g⟩
theorem iG{R:Rp α}[Mono R]{p:Addr}{xs:List α}{m:Res α}(o:Ow R W p xs)(h:EV Er te σ W (sh R) m)(q:(m.bind fun a=>fP xs a).OkE Er fun ys=>∀W',Mu W W' p->Ow R W' p ys->D.nx σ W'.H)(hi:σ[i]? =some (some<|.ref p):=by rfl):bj (eJ K "list" aI (bD i)<|ak te aN) D σ W.H:=by
 obtain⟨vs,h1,h2⟩:=o.h;refine⟨.ref p,hi,.inl ⟨rfl,vs,Di h1⟩,h W (.refl _) _<|(Bm q).imp fun a ka v W2 e2 hv=>?_⟩;obtain⟨h3,h4⟩:=aW ka;have hg:=(o.mono e2).g;refine⟨p,vs,v,rfl,rfl,e2.h _ _ h1,by rw[h2.1,Cg];unfold Mi.cap at h3;omega,h4 (W2.mut p (.lst<|vs++[v]) hg) (.of e2 hg) ⟨hg,_,aB,(h2.same e2.g).snoc hv⟩⟩
theorem LR.set{R:Rp α}{H:Hp}{as:List α}{vs:List V}{a:α}{v:V}(h:LR R H as vs)(r:R H a v)(j:Nat):LR R H (as.set j a) (vs.set j v):=⟨by simp[h.1],fun i x m e1 e2=>by
 rw[E4]at e1 e2;by_cases z:j=i
 ·rw[if_pos z]at e1 e2;split at e1
  ·split at e2;·cases e1;cases e2;exact r
   ·cases e2
  ·cases e1
 ·rw[if_neg z]at e1 e2;exact h.2 i x m e1 e2⟩
theorem pj{R:Rp α}[Mono R]{p:Addr}{xs:List α}{m:Res α}{mi:Res Int}(o:Ow R W p xs)(h:EV Er te σ W (sh R) m)(hj:EV Er ti σ W (sh isI) mi)(q:(m.bind fun a=>mi.bind fun j=>iZ xs j a).OkE Er fun ys=>∀W',Mu W W' p->Ow R W' p ys->D.nx σ W'.H)(hi:σ[i]? =some (some<|.ref p):=by rfl):bI te (xq (bD i) ti rS) D σ W.H:=by
 obtain⟨vs,h1,h2⟩:=o.h;refine h W (.refl _) _<|(Bm q).imp fun a ka v W2 e2 hv=>⟨.ref p,hi,hj W2 e2 _<|(Bm ka).imp fun j kj x W3 e3 hx=>?_⟩;cases hx;obtain⟨l,h3,h4⟩:=dv<|Bm kj;have e:=e2.trans e3;have hg:=(o.mono e).g;exact⟨p,vs,j,l,rfl,rfl,e.h _ _ h1,by rw[h2.1];exact h3,h4 (W3.mut p (.lst<|vs.set l v) hg) (.of e hg) ⟨hg,_,aB,(h2.same e.g).set (Bk (R:=R) e3.g hv) l⟩⟩
def sO{S:Type}(W:Wd)(Iv:S->Wd->St->Prop)(P:S->Prop):St->Hp->Prop:=fun σ' H'=>∃s' W',W'.H=H'/\Same W.G W'.G/\Iv s' W' σ'/\P s'
theorem kN{S:Type}{f:α->S->Res S}{xs:List α}{i:Nat}{a:α}{s:S}(h:xs[i]? =some a):bQ f (xs.drop i) s=(f a s).bind fun s=>bQ f (xs.drop<|i+1) s:=by
 obtain⟨hi,e⟩:=Bw.mp h;rw[Dz hi,e];rfl
theorem lH{S:Type}{wi:TI}{tb:TS}{R:Rp α}{m:Res (List α)}{f:α->S->Res S}{s0:S}{P:S->Prop}(Iv:S->Wd->St->Prop)(hi:IV Er wi σ W R m)(q:(m.bind fun xs=>bQ f xs s0).OkE Er P)
  (h0:∀W1,Ext W W1->Iv s0 W1 σ)
  (hs:∀Wb W1 W2 a v s σ1 P',Same W.G W1.G->Same Wb.G W1.G->Iv s W1 σ1->Ext W1 W2->R W2.G a v->(f a s).OkE Er P'->g v σ1 W2.H fun σ2 H2=>tb {D with nx:=sO Wb Iv P',ct:=sO Wb Iv P',bk:=D.nx} σ2 H2)
  (hd:∀s W1 σ1,Same W.G W1.G->Iv s W1 σ1->P s->D.nx σ1 W1.H):rN wi g tb D σ W.H:=by
 refine hi W (.refl _) _<|(Bm q).imp fun xs kx J W1 e1 hy=>?_;refine⟨fun i n σ' H'=>n=xs.length-i/\i<=xs.length/\∃s' W',W'.H=H'/\Same W1.G W'.G/\Iv s' W' σ'/\(bQ f (xs.drop i) s').OkE Er P,⟨xs.length,by simp,by simp,s0,W1,rfl,.refl _,h0 W1 e1,by simpa using kx⟩,?_⟩;rintro i n σ1 H1 ⟨rfl,hi1,s,W2,rfl,e2,iv,k⟩;by_cases hlt:i<xs.length
 ·obtain⟨a,ha⟩:∃a,xs[i]? =some a:=⟨xs[i],by simp[hlt]⟩
  obtain⟨h1,h2⟩:=(hy W2 e2).1 i a ha;refine .inr ⟨h1,sO W1 Iv fun s'=>(bQ f (xs.drop<|i+1) s').OkE Er P,fun σ' H'⟨s',W',z1,z2,z3,z4⟩=>⟨xs.length-(i+1),by omega,rfl,hlt,s',W',z1,z2,z3,z4⟩,fun x H' hx=>?_⟩;obtain⟨W3,rfl,e3,rx⟩:=h2 x H' hx;rw[kN ha]at k;exact hs W1 W2 W3 a x s σ1 (fun s'=>(bQ f (xs.drop<|i+1) s').OkE Er P) (e1.g.trans e2) e2 iv e3 rx<|Bm k
 ·have e:i=xs.length:=by omega
  subst e;rw[Eh]at k;exact .inl ⟨(hy W2 e2).2,hd s W2 σ1 (e1.g.trans e2) iv k⟩
theorem qK{S:Type}{f:α->S->Res (Fl γ S)}{xs:List α}{i:Nat}{a:α}{s:S}(h:xs[i]? =some a):dH f (xs.drop i) s=(f a s).bind (sE<|dH f<|xs.drop<|i+1):=by
 obtain⟨hi,e⟩:=Bw.mp h;rw[Dz hi,e];rfl
theorem lI{S:Type}{wi:TI}{tb:TS}{R:Rp α}{m:Res (List α)}{f:α->S->Res (Fl γ S)}{s0:S}{P:Fl γ S->Prop}(Iv:S->Wd->St->Prop)(hi:IV Er wi σ W R m)(q:(m.bind fun xs=>dH f xs s0).OkE Er P)
  (h0:∀W1,Ext W W1->Iv s0 W1 σ)
  (hs:∀Wb W1 W2 a v s σ1 P',Same W.G W1.G->Same Wb.G W1.G->Iv s W1 σ1->Ext W1 W2->R W2.G a v->(∀r,P' (.rt r)->P (.rt r))->(f a s).OkE Er P'->g v σ1 W2.H fun σ2 H2=>tb {D with nx:=sO Wb Iv fun s'=>P'<|.nx s',ct:=sO Wb Iv fun s'=>P'<|.nx s',bk:=D.nx} σ2 H2)
  (hd:∀s W1 σ1,Same W.G W1.G->Iv s W1 σ1->P (.nx s)->D.nx σ1 W1.H):rN wi g tb D σ W.H:=by
 refine hi W (.refl _) _<|(Bm q).imp fun xs kx J W1 e1 hy=>?_;refine⟨fun i n σ' H'=>n=xs.length-i/\i<=xs.length/\∃s' W',W'.H=H'/\Same W1.G W'.G/\Iv s' W' σ'/\(dH f (xs.drop i) s').OkE Er P,⟨xs.length,by simp,by simp,s0,W1,rfl,.refl _,h0 W1 e1,by simpa using kx⟩,?_⟩;rintro i n σ1 H1 ⟨rfl,hi1,s,W2,rfl,e2,iv,k⟩;by_cases hlt:i<xs.length
 ·obtain⟨a,ha⟩:∃a,xs[i]? =some a:=⟨xs[i],by simp[hlt]⟩
  obtain⟨h1,h2⟩:=(hy W2 e2).1 i a ha;refine .inr ⟨h1,sO W1 Iv fun s'=>(dH f (xs.drop<|i+1) s').OkE Er P,fun σ' H'⟨s',W',z1,z2,z3,z4⟩=>⟨xs.length-(i+1),by omega,rfl,hlt,s',W',z1,z2,z3,z4⟩,fun x H' hx=>?_⟩;obtain⟨W3,rfl,e3,rx⟩:=h2 x H' hx;rw[qK ha]at k;exact hs W1 W2 W3 a x s σ1 (fun fl=>match fl with| .nx s'=>(dH f (xs.drop<|i+1) s').OkE Er P| .bk s'=>P (.nx s')| .rt r=>P<|.rt r) (e1.g.trans e2) e2 iv e3 rx (fun r h=>h) ((Bm k).imp fun fl h=>by cases fl<;>exact h)
 ·have e:i=xs.length:=by omega
  subst e;rw[Eh]at k;exact .inl ⟨(hy W2 e2).2,hd s W2 σ1 (e1.g.trans e2) iv k⟩
section
variable{r:TS}
theorem aw{σ':V->St}{R:Rw α}{m:Res α}(h:EV Er te σ W R m)(q:m.OkE Er fun a=>∀v W',Ext W W'->R W' a v->r D (σ' v) W'.H)(hσ:∀v,σ.set i (some v)=σ' v:=by intro _;rfl):fN (bI te<|aP i) r D σ W.H:=cW (D:={D with nx:=r D}) h q hσ
theorem dJ{σ':Addr->St}{R:Rp α}{m:Res (List α)}(h:EVo Er te σ W R m)(q:m.OkE Er fun a=>∀p W',Ext W W'->W.H p=none->Ow R W' p a->r D (σ' p) W'.H)(hσ:∀p,σ.set i (some<|.ref p)=σ' p:=by intro _;rfl):fN (bI te<|aP i) r D σ W.H:=vD (D:={D with nx:=r D}) h q hσ
theorem fk{R:Rw α}{m:Res α}(h:EV Er te σ W R m)(q:m.OkE Er fun a=>∀v W',Ext W W'->R W' a v->g v σ W'.H (r D)):fN (bI te g) r D σ W.H:=h W (.refl _) _ q
theorem eH{c:TT}{m:Res Bool}(h:TV Er c σ W m)(q:m.OkE Er fun b=>∀W',Ext W W'->if b=true then t {D with nx:=r D} σ W'.H else u {D with nx:=r D} σ W'.H):fN (iV c t u) r D σ W.H:=h W (.refl _) _ q
theorem bK{S:Type}{c:TT}{m:Res Bool}{mA mB:Res S}{P:S->Prop}(Iv:S->Wd->St->Prop)(h:TV Er c σ W m)(q:(m.bind fun b=>if b then mA else mB).OkE Er P)
  (hA:∀W'(N:St->Hp->Prop),Ext W W'->(∀s W1 σ1,Same W.G W1.G->Iv s W1 σ1->P s->N σ1 W1.H)->mA.OkE Er P->t {D with nx:=N} σ W'.H)
  (hB:∀W'(N:St->Hp->Prop),Ext W W'->(∀s W1 σ1,Same W.G W1.G->Iv s W1 σ1->P s->N σ1 W1.H)->mB.OkE Er P->u {D with nx:=N} σ W'.H)
  (hd:∀s W1 σ1,Same W.G W1.G->Iv s W1 σ1->P s->r D σ1 W1.H):fN (iV c t u) r D σ W.H:=gP (D:={D with nx:=r D}) Iv h q hA hB hd
theorem mR{R:Rp α}[Mono R]{p:Addr}{xs:List α}{m:Res α}(o:Ow R W p xs)(h:EV Er te σ W (sh R) m)(q:(m.bind fun a=>fP xs a).OkE Er fun ys=>∀W',Mu W W' p->Ow R W' p ys->r D σ W'.H)(hi:σ[i]? =some (some<|.ref p):=by rfl):fN (bj<|eJ K "list" aI (bD i)<|ak te aN) r D σ W.H:=iG (D:={D with nx:=r D}) o h q hi
theorem cA{S:Type}{wi:TI}{tb:TS}{R:Rp α}{m:Res (List α)}{f:α->S->Res S}{s0:S}{P:S->Prop}(Iv:S->Wd->St->Prop)(hi:IV Er wi σ W R m)(q:(m.bind fun xs=>bQ f xs s0).OkE Er P)
  (h0:∀W1,Ext W W1->Iv s0 W1 σ)
  (hs:∀Wb W1 W2 a v s σ1 P',Same W.G W1.G->Same Wb.G W1.G->Iv s W1 σ1->Ext W1 W2->R W2.G a v->(f a s).OkE Er P'->g v σ1 W2.H fun σ2 H2=>tb {D with nx:=sO Wb Iv P',ct:=sO Wb Iv P',bk:=r D} σ2 H2)
  (hd:∀s W1 σ1,Same W.G W1.G->Iv s W1 σ1->P s->r D σ1 W1.H):fN (rN wi g tb) r D σ W.H:=lH (D:={D with nx:=r D}) Iv hi q h0 hs hd
theorem fo{S:Type}{wi:TI}{tb:TS}{R:Rp α}{m:Res (List α)}{f:α->S->Res (Fl γ S)}{s0:S}{P:Fl γ S->Prop}(Iv:S->Wd->St->Prop)(hi:IV Er wi σ W R m)(q:(m.bind fun xs=>dH f xs s0).OkE Er P)
  (h0:∀W1,Ext W W1->Iv s0 W1 σ)
  (hs:∀Wb W1 W2 a v s σ1 P',Same W.G W1.G->Same Wb.G W1.G->Iv s W1 σ1->Ext W1 W2->R W2.G a v->(∀r,P' (.rt r)->P (.rt r))->(f a s).OkE Er P'->g v σ1 W2.H fun σ2 H2=>tb {D with nx:=sO Wb Iv fun s'=>P'<|.nx s',ct:=sO Wb Iv fun s'=>P'<|.nx s',bk:=r D} σ2 H2)
  (hd:∀s W1 σ1,Same W.G W1.G->Iv s W1 σ1->P (.nx s)->r D σ1 W1.H):fN (rN wi g tb) r D σ W.H:=lI (D:={D with nx:=r D}) Iv hi q h0 hs hd
end
theorem bU{S:Type}{Wb W:Wd}{Iv:S->Wd->St->Prop}{P:S->Prop}(s:S)(hs:Same Wb.G W.G)(iv:Iv s W σ)(hq:P s):sO Wb Iv P σ W.H:=⟨s,W,rfl,hs,iv,hq⟩
end
end Wb
namespace L2
open PySem PySem.Spec PyProof.Rows
section
variable{X:Cx}{K:Br}{w:BQ}
theorem mS{ns:List Bool}:∀{us:List Bs},Vals (ns.map Lo) us->LSm.BoolsAre us ns:=by
 induction ns with
 |nil=>intro us r;cases r;exact .nil
 |cons b r ih=>intro us h;cases h with|cons h1 h2=>cases h1;exact .cons b<|ih h2
theorem kO(hc:X.calm=true)(hK:X.K=K):dh X (.builtin "all") (fun xs H Q=>∃(p:Addr)(bs:List Bool),xs=[.ref p]/\SqL K H p (bs.map Lo)/\Q (.bl<|bs.all id) H):=by
 subst hK;intro pins s σ H xs us Q I r h;obtain⟨p,bs,rfl,hq,q⟩:=h;obtain⟨u,rfl,rx⟩:=eN r;cases rx;obtain⟨its,r',pl,hz⟩:=I.list hq;have hb:=mS r';have hl:=pl.isList;have hlt:p<s.heap.objs.size:=by obtain⟨_,e,_⟩:=hl;exact BA e
 refine call_all_walk<|Fn hl ?_;refine⟨s.heap.objs.size,[s.heap.objs.size,p],[s.heap.objs.size],its.toArray.size,_,_,fun i=>(bs[i]?).getD true,rfl,Walks.list (A:=X.A.in1) (I.ok.hd hc) _ p (BL hlt) its.toArray,
  ⟨⟨_,By _ rfl,rfl,rfl⟩,hl.push _⟩,fun i v s' Q' E' hP hQ=>?_,fun h' tk hk=>?_⟩
 ·obtain⟨b,e,rfl⟩:=hb.get i v (by simpa using hP);simp only[e,De]at hQ;exact DL hQ
 ·have e:((Cv its.toArray.size).all fun i=>(bs[i]?).getD true)=bs.all id:=by
   rw[BB,hb.length];exact LSm.range_all bs
  rw[e];exact⟨.bl _,H,I.kept<|LSm.kept_iter hk,rfl,q⟩
end
end L2
namespace Wb
open PySem L2 Mi
variable{Er:Nat->Prop}
section
variable{α β γ δ:Type}{t ta tb tc:TE}{σ:St}{W W0 W':Wd}{K:Br}{w:BQ}
theorem j7{a n r:Int}(hc:0<=n/\n<=1000000/\a.natAbs<2^64)(hr:a^n.toNat=r):EV Er (cY (rI yR fun i j=>.int<|i^j.toNat) (tC<|.int a)<|tC<|.int n) σ W (sh isI) (.ok r):=fun W1 e1 Q k=>⟨a,n,rfl,rfl,hc,by show Q (.int<|a^n.toNat) W1.H;rw[hr];exact k _ W1 (.refl _) rfl⟩
def isScr(K:Br):Rp (List Int):=fun H ns v=>∃a,v=.ref a/\SqL K H a (ns.map ER)
instance zkeep17:Mono (isScr K):=⟨fun e⟨a,h1,h2⟩=>⟨a,h1,e.seq h2⟩⟩
theorem kP{ma:Res (List Int)}(ha:EV Er ta σ W (sh<|isScr K) ma):EV Er (dW (fun xs H Q=>∃x n,xs=[x]/\mz K x H n/\Q (.int n) H)<|ak ta aN) σ W (sh isI) (ma.bind fun a=>.ok (a.length:Int)):=fun W1 e1 Q k=>
 ha W1 e1 _ ((Bm k).imp fun a ka x W2 e2 hx=>by
  obtain⟨p,rfl,h1⟩:=hx;exact⟨_,a.length,rfl,.inl ⟨_,W2.ok.seq h1,by simp⟩,ka _ W2 e2 rfl⟩)
theorem sP{ma:Res (List Int)}{mb:Res Int}(ha:EV Er ta σ W (sh<|isScr K) ma)(hb:EV Er tb σ W (sh isI) mb):EV Er (cY (cf K) ta tb) σ W (sh isI) (ma.bind fun a=>mb.bind fun b=>ef a b):=
 o6 ha hb fun W a b x y Q hx hy k=>by
  cases hy;obtain⟨p,rfl,h1⟩:=hx;obtain⟨c,h4,h5⟩:=dv k;have lr:LR isI W.G a (a.map ER):=⟨by simp,fun i v m e1 e2=>by rw[Bz,e2]at e1;cases e1;rfl⟩
  obtain⟨z,h6,h7⟩:=p8 lr h4;exact⟨p,_,b,z,rfl,rfl,W.ok.seq h1,h6,h5 _ W (.refl _) h7⟩
theorem lJ{ma:Res Bool}(ha:EV Er ta σ W (sh isB) ma):EV Er (dW (fun xs H Q=>(∃i,xs=[.int i]/\Q (.int i) H)\/∃k,xs=[.bl k]/\Q (.int (if k then 1 else 0)) H)<|ak ta aN) σ W (sh isI) (ma.bind fun a=>.ok (if a then(1:Int)else 0)):=fun W1 e1 Q k=>
 ha W1 e1 _ ((Bm k).imp fun a ka x W2 e2 hx=>by cases hx;exact .inr ⟨a,rfl,ka _ W2 e2 rfl⟩)
theorem ju{R:Rp α}{W1 W2:Wd}{xs:List α}{vs:List V}{Q:VK}(h:LR R W2.G xs vs)(e:Ext W1 W2)(k:∀p W2,Ext W1 W2->W1.H p=none->Ow R W2 p xs->Q (.ref p) W2.H)(r:Addr)(hr:W2.H r=none):Q (.ref r) (cN W2.H r<|.lst vs):=
 k r (W2.mut r (.lst vs)<|W2.gnone hr) (e.trans<|.own _ hr) (none_of e.h hr) ⟨W2.gnone hr,vs,aB,h⟩
theorem hX{R:Rp α}{ma:Res (List α)}(ha:EV Er ta σ W (pk R) ma):EVo Er (dW (fun xs H Q=>∃p ys,xs=[.ref p]/\(SqL K H p ys\/SqT K H p ys)/\∀l,H l=none->Q (.ref l) (cN H l<|.lst ys))<|ak ta aN) σ W R ma:=fun W1 e1 Q k=>
 ha W1 e1 _ (k.imp fun a ka x W2 e2 hx=>by
  obtain⟨p,vs,rfl,h1,h2⟩:=hx;exact⟨p,vs,rfl,.inl (Di h1),fun l hl=>ju h2 e2 ka l hl⟩)
theorem LR.ints{H:Hp}{ns:List Int}{vs:List V}(h:LR isI H ns vs):vs=ns.map ER:=by
 refine Dw fun i=>?_;rw[Bz];cases e:ns[i]? with
 |none=>rw[Cb]at e;rw[Cb.mpr (by rw[h.1];exact e)];rfl
 |some m=>obtain⟨v,a,b⟩:=h.get e;rw[a];cases b;rfl
theorem LR.bools{H:Hp}{ns:List Bool}{vs:List V}(h:LR isB H ns vs):vs=ns.map Lo:=by
 refine Dw fun i=>?_;rw[Bz];cases e:ns[i]? with
 |none=>rw[Cb]at e;rw[Cb.mpr (by rw[h.1];exact e)];rfl
 |some m=>obtain⟨v,a,b⟩:=h.get e;rw[a];cases b;rfl
theorem sQ{ma:Res (List Bool)}(ha:EV Er ta σ W (pk isB) ma):EV Er (dW (fun xs H Q=>∃(p:Addr)(bs:List Bool),xs=[.ref p]/\SqL K H p (bs.map Lo)/\Q (.bl<|bs.all id) H)<|ak ta aN) σ W (sh isB) (ma.bind fun a=>.ok<|a.all id):=fun W1 e1 Q k=>
 ha W1 e1 _ ((Bm k).imp fun a ka x W2 e2 hx=>by
  obtain⟨p,vs,rfl,h1,h2⟩:=hx;exact⟨p,a,rfl,Di (by rw[h1,h2.bools]),ka _ W2 e2 rfl⟩)
theorem pq{ma mb:Res Int}(ha:EV Er ta σ W (sh isI) ma)(hb:EV Er tb σ W (sh isI) mb):EV Er (dW (fun xs H Q=>∃i j,xs=[.int i,.int j]/\Q (.int (if j>i then j else i)) H)<|ak ta<|ak tb aN) σ W (sh isI) (ma.bind fun a=>mb.bind fun b=>.ok (if b>a then b else a)):=fun W1 e1 Q k=>
 ha W1 e1 _ ((Bm k).imp fun a ka x W2 e2 hx=>hb W2 (e1.trans e2) _ ((Bm ka).imp fun b kb y W3 e3 hy=>by cases hx;cases hy;exact⟨a,b,rfl,kb _ W3 (e2.trans e3) rfl⟩))
theorem sR{f:α->V}{g:β->Key}[DecidableEq β](hg:∀a b,g a=g b->a=b)(kvs:List (β×α))(k:β):jW (kvs.map fun p=>(g p.1,f p.2)) (g k)=(look kvs k).map f:=by
 induction kvs with
 |nil=>rfl
 |cons p r ih=>
  unfold look at ih ⊢;rw[CP];by_cases z:p.1=k;·rw[gV (by rw[z]),List.find?_cons_of_pos (by simpa using z)];rfl
  ·rw[gW<|fun e=>z<|hg _ _ e,ih,List.find?_cons_of_neg (by simpa using z)]
theorem pz{R:Rp α}{Rk:Rp β}[DecidableEq β]{d:Addr}{kv:List (Key×V)}{kvs:List (β×α)}{f:α->V}{g:β->Key}(hg:∀a b,g a=g b->a=b)(hf:∀H a,R H a<|f a)(hk:∀H b v,Rk H b v->v=kV (g b))(D:DictK K w d kv)(e:kv=kvs.map fun p=>(g p.1,f p.2)){m:Res β}(h:EV Er t σ W (sh Rk) m):
  EV Er (aR K w (tC<|.ref d) t) σ W (sh R) (m.bind fun k=>getD kvs k):=fun W1 e1 Q k=>
 h W1 e1 _ ((Bm k).imp fun b kb v W2 e2 hv=>by
  obtain⟨a,h1,h2⟩:=dv kb;refine⟨d,kv,g b,f a,rfl,D,hk _ _ _ hv,?_,h2 _ W2 e2 (hf _ _)⟩;rw[e,sR hg,h1];rfl)
theorem Au:∀a b:Tx,(E9 (aT a):Key)=E9 (aT b)->a=b:=fun a b e=>oS<|KG e
theorem Av:∀a b:Int,(E8 a:Key)=E8 b->a=b:=fun a b e=>KD e
theorem qL{d:Addr}{kv:List (Key×V)}{kvs:List (Tx×Int)}(D:DictK K w d kv)(e:kv=kvs.map fun p=>(E9<|aT p.1,ER p.2)){m:Res Tx}(h:EV Er t σ W (sh isS) m):EV Er (aR K w (tC<|.ref d) t) σ W (sh isI) (m.bind fun k=>getD kvs k):=pz (R:=isI) (f:=ER) (g:=fun a=>E9<|aT a) Au (fun _ _=>rfl) (fun _ _ _ h=>h) D e h
theorem qM{d:Addr}{kv:List (Key×V)}{kvs:List (Int×Tx)}(D:DictK K w d kv)(e:kv=kvs.map fun p=>(E8 p.1,Fz<|aT p.2)){m:Res Int}(h:EV Er t σ W (sh isI) m):EV Er (aR K w (tC<|.ref d) t) σ W (sh isS) (m.bind fun k=>getD kvs k):=pz (R:=isS) (f:=fun a=>Fz<|aT a) (g:=fun a=>E8 a) Av (fun _ _=>rfl) (fun _ _ _ h=>h) D e h
theorem jv{ma:Res Int}{mb:Res (List Int)}(ha:EV Er ta σ W (sh isI) ma)(hb:EV Er tb σ W (pk isI) mb):EV Er (cY (fJ K true) ta tb) σ W (sh isB) (ma.bind fun a=>mb.bind fun b=>.ok<|!b.contains a):=
 o6 ha hb fun W a b x y Q hx hy k=>by
  cases hx;obtain⟨p,vs,rfl,h1,h2⟩:=hy;refine⟨p,vs,rfl,.inl<|Di h1,rfl,by rw[h2.ints];simp[L2.flatV],?_⟩;have e:zI (.int a) vs=b.contains a:=by
   rw[h2.ints];unfold zI;rw[List.any_map,CK];simp[L2.eqV]
   try exact⟨fun⟨x,h,e⟩=>by subst e;exact h,fun h=>⟨a,h,rfl⟩⟩
  rw[if_pos rfl,e];exact k _ W (.refl _) rfl
theorem sS{R:Rp α}[Mono R]{ma:Res (List α)}(ha:EV Er ta σ W (pk R) ma):EV Er (dW (fun xs H Q=>∃p ys,xs=[.ref p]/\((SqL K H p ys/\∀l,H l=none->Q (.ref l) (cN H l<|.tup ys))\/(SqT K H p ys/\Q (.ref p) H)))<|ak ta aN) σ W (sh<|isT3 K R R R) (ma.bind fun a=>xG a):=fun W1 e1 Q k=>
 ha W1 e1 _ ((Bm k).imp fun a ka x W2 e2 hx=>by
  obtain⟨p,vs,rfl,h1,h2⟩:=hx
  match a,ka,h2 with
  | [a,b,c],ka,h2=>
   match vs,h2.1,h2,h1 with
   | [x,y,z],_,h2,h1=>
    refine⟨p,_,rfl,.inl ⟨Di h1,fun l hl=>ka (.ref l) (W2.new l<|.tup [x,y,z]) (e2.trans<|.new _ hl) ⟨l,x,y,z,rfl,JR aB,?_,?_,?_⟩⟩⟩;·exact Bk (EY _ hl).g (h2.2 0 x a rfl rfl)
    ·exact Bk (EY _ hl).g (h2.2 1 y b rfl rfl)
    ·exact Bk (EY _ hl).g (h2.2 2 z c rfl rfl))
def EqK(K:Br)(H:Hp):Nat->V->V->Prop
  |0,v,u=>v=u/\flat v=true
  |n+1,v,u=>(v=u/\flat v=true)\/ ∃p q xs ys,v= .ref p/\u= .ref q/\((H p=some (.lst xs)/\H q=some (.lst ys))\/(SqT K H p xs/\SqT K H q ys))/\xs.length=ys.length/\
      ∀(i:Nat)(x y:V),xs[i]? =some x->ys[i]? =some y->EqK K H n x y
theorem EqK.same{H H':Hp}(e:Same H H'):∀{n:Nat}{v u:V},EqK K H n v u->EqK K H' n v u
 |0,_,_,h=>h
 |n+1,_,_,h=>by
  rcases h with h|⟨p,q,xs,ys,h1,h2,h3,h4,h5⟩
  ·exact .inl h
  ·refine .inr ⟨p,q,xs,ys,h1,h2,?_,h4,fun i x y e1 e2=>EqK.same e<|h5 i x y e1 e2⟩;rcases h3 with⟨a,b⟩|⟨a,b⟩
   ·exact .inl ⟨e _ _ a,e _ _ b⟩
   ·exact .inr ⟨Dk e a,Dk e b⟩
theorem EqK.flat{H:Hp}{n:Nat}{v:V}(h:L2.flat v=true):EqK K H n v v:=by cases n with|zero=>exact⟨rfl,h⟩|succ n=>exact .inl ⟨rfl,h⟩
class EqR(K:Br){α:Type}(R:Rp α)(n:outParam Nat):Prop where
 eq:∀H a v u m,n<=m->R H a v->R H a u->EqK K H m v u
instance zkeep20:EqR K isB 0:=⟨fun H a v u m _ h1 h2=>by cases h1;cases h2;exact .flat rfl⟩
end
end Wb
namespace L2
open PySem PySem.Spec PyProof.Rows
section
variable{X:Cx}{K:Br}{w:BQ}{o e:Expr}{to:TE}{t:TA}{apos cpos:Pos}
def zf(K:Br):V->List V->Hp->VK->Prop:=fun x xs H Q=>∃(p:Addr)(ys:List (List Nat)),x=.str (aT [])/\xs=[.ref p]/\SqL K H p (ys.map fun y=>Fz<|aT y)/\ys.flatten.length<=100000/\Q (.str<|aT ys.flatten) H
def zg:V->List V->Hp->VK->Prop:=fun x xs H Q=>∃a b,x=.str a/\xs=[.str b]/\0<=Gk a b/\Q (.int<|Gk a b) H
abbrev Aw(X:Cx)(cpos:Pos)(e:Expr):Prop:=((backTo cpos<|starEach [e] X.env).all (fun x=> !x.1)&&(backToKw cpos<|keywordEach [] X.env).all (fun x=>x.1.isSome)&&decide ([e].length+([]:List IK).length+(if([]:List IK).isEmpty then 0 else 1)<30))=true
theorem jw(h:X.K=K):dh X (.type "tuple") (fun xs H Q=>∃p ys,xs=[.ref p]/\((SqL K H p ys/\∀l,H l=none->Q (.ref l) (cN H l<|.tup ys))\/(SqT K H p ys/\Q (.ref p) H))):=h▸jV
theorem jx(h:X.K=K)(ho:PE X o to)(ha:PA X [e] t)(hbase:attributeBase o "join" X.env (eval o X.env)=eval o X.env:=by rfl)(hfew:Aw X cpos e:=by rfl)(hline:(apos.endLine==cpos.line)=true:=by rfl)(hs:starEach [e] X.env=(false,eval e X.env)::starEach [] X.env:=by rfl)(hplain:(backTo cpos<|starEach [] X.env).any (·.1)=false:=by rfl):
  PE X (.Call (.Attribute o "join" apos) [e] [] cpos) (eJ K "str" (zf K) to t):=gJ (K:=K) h Hg PySem.F.slot_str_join PySem.F.type_str_join (sv (K:=K) h) ho ha hbase hfew hline hs hplain
theorem fq(h:X.K=K)(hc:X.calm=true)(ho:PE X o to)(ha:PA X [e] t)(hbase:attributeBase o "index" X.env (eval o X.env)=eval o X.env:=by rfl)(hfew:Aw X cpos e:=by rfl)(hline:(apos.endLine==cpos.line)=true:=by rfl)(hs:starEach [e] X.env=(false,eval e X.env)::starEach [] X.env:=by rfl)(hplain:(backTo cpos<|starEach [] X.env).any (·.1)=false:=by rfl):
  PE X (.Call (.Attribute o "index" apos) [e] [] cpos) (eJ K "str" zg to t):=gJ (K:=K) h Hg PySem.F.slot_str_index PySem.F.type_str_index (sf hc) ho ha hbase hfew hline hs hplain
theorem cS(h:X.K=K)(ho:PE X o to)(ha:PA X [e] t)(hbase:attributeBase o "append" X.env (eval o X.env)=eval o X.env:=by rfl)(hfew:Aw X cpos e:=by rfl)(hline:(apos.endLine==cpos.line)=true:=by rfl)(hs:starEach [e] X.env=(false,eval e X.env)::starEach [] X.env:=by rfl)(hplain:(backTo cpos<|starEach [] X.env).any (·.1)=false:=by rfl):
  PE X (.Call (.Attribute o "append" apos) [e] [] cpos) (eJ K "list" aI to t):=gJ (K:=K) h DO Hx PySem.F.type_list_append qp ho ha hbase hfew hline hs hplain
end
end L2
namespace Wb
open PySem L2 Mi
variable{Er:Nat->Prop}
section
variable{α β γ δ:Type}{t t1 t2 t3 ta tb tc:TE}{σ:St}{W W0 W':Wd}{K:Br}{w:BQ}
theorem sT{xs:List α}{ys:List β}{zs:List γ}{i:Nat}{p:α×β×γ}(h:(xs.zip<|ys.zip zs)[i]? =some p):xs[i]? =some p.1/\ys[i]? =some p.2.1/\zs[i]? =some p.2.2:=by
 rw[Co]at h;obtain⟨h1,h2⟩:=h;rw[Co]at h2;exact⟨h1,h2.1,h2.2⟩
theorem vE{R1:Rp α}{R2:Rp β}{R3:Rp γ}[Mono R1][Mono R2][Mono R3]{m1:Res (List α)}{m2:Res (List β)}{m3:Res (List γ)}(h1:SV Er t1 σ W K R1 m1)(h2:SV Er t2 σ W K R2 m2)(h3:SV Er t3 σ W K R3 m3):IV Er (x3 K<|ak t1<|ak t2<|ak t3 aN) σ W (isT3 K R1 R2 R3) (m1.bind fun xs=>m2.bind fun ys=>m3.bind fun zs=>.ok<|xs.zip<|ys.zip zs):=fun W1 e1 P k=>
 h1 W1 e1 _ ((Bm k).imp fun xs kx v W2 e2 hv=>h2 W2 (e1.trans e2) _ ((Bm kx).imp fun ys ky u W3 e3 hu=>h3 W3 ((e1.trans e2).trans e3) _ ((Bm ky).imp fun zs kz r W4 e4 hr=>by
  obtain⟨c1,vs,rfl,a1,b1⟩:=Lp hv (e3.trans e4).g;obtain⟨c2,us,rfl,a2,b2⟩:=Lp hu e4.g;obtain⟨c3,rs,rfl,a3,b3⟩:=hr;refine⟨c1,c2,c3,vs,us,rs,rfl,a1 W4<|.refl _,a2 W4<|.refl _,a3 W4<|.refl _,kz _ W4 ((e2.trans e3).trans e4) fun W5 e5=>⟨fun i ab hab=>?_,?_⟩⟩
  ·obtain⟨q1,q2,q3⟩:=sT hab;obtain⟨x,hx,rx⟩:=b1.get q1;obtain⟨y,hy,ry⟩:=b2.get q2;obtain⟨z,hz,rz⟩:=b3.get q3;refine⟨⟨vs,us,rs,x,y,z,a1 W5 e5,a2 W5 e5,a3 W5 e5,hx,hy,hz⟩,fun o H'⟨p,x',y',z',hp,z0,z1,z2,z3,z4⟩=>⟨W5.new p<|.tup [x',y',z'],by rw[z4];rfl,.new _ hp,p,x',y',z',z0,JR aB,?_,?_,?_⟩⟩
   ·have:=z1 vs<|a1 W5 e5;rw[hx]at this;cases this;exact Bk (e5.trans (EY _ hp).g) rx
   ·have:=z2 us<|a2 W5 e5;rw[hy]at this;cases this;exact Bk (e5.trans (EY _ hp).g) ry
   ·have:=z3 rs<|a3 W5 e5;rw[hz]at this;cases this;exact Bk (e5.trans (EY _ hp).g) rz
  ·refine⟨vs,us,rs,a1 W5 e5,a2 W5 e5,a3 W5 e5,?_⟩;rw[Fd,Fd,b1.1,b2.1,b3.1];omega)))
theorem sU{ma:Res (List Int)}(ha:EV Er ta σ W (pk isI) ma):EVo Er (dW (fun xs H Q=>∃(p:Addr)(ns:List Int),xs=[.ref p]/\SqL K H p (ns.map ER)/\ns.length<64/\∀(q:Addr)(ns':List Int),H q=none->ns'.Perm ns->ns'.Pairwise (· <= ·)->Q (.ref q) (cN H q<|.lst<|ns'.map ER))<|ak ta aN) σ W isI (ma.bind fun a=>sF a):=fun W1 e1 Q k=>
 ha W1 e1 _ ((Bm k).imp fun a ka x W2 e2 hx=>by
  obtain⟨p,vs,rfl,h1,h2⟩:=hx;obtain⟨h3,h4⟩:=aW ka;refine⟨p,a,rfl,Di (by rw[h1,h2.ints]),h3,fun q ns' hq hp hs=>?_⟩;rw[qI hp hs];exact ju (vs:=(iC a).map ER) ⟨by simp,fun i v m e1 e2=>by rw[Bz,e2]at e1;cases e1;rfl⟩ e2 h4 q hq)
theorem jy{R1:Rp α}{R2:Rp β}{d:Addr}{x y:V}{a:α}{b:β}(T:∀H,SqT K H d [x,y])(h1:∀H,R1 H a x)(h2:∀H,R2 H b y):EV Er (tC<|.ref d) σ W (sh<|isT2 K R1 R2) (.ok (a,b)):=fun W1 _ Q k=>k _ W1 (.refl _) ⟨d,x,y,rfl,T _,h1 _,h2 _⟩
theorem gI(i:Int):∀H,isI H i (.int i):=fun _=>rfl
end
end Wb
namespace Mi
theorem dR{a b:Int}(h:0<b):gL a b=.ok (a%b):=bt h
theorem mT{a b:Int}(h1:0<b)(h2:b<1073741824):jn a b=.ok (a/b):=bt ⟨h1,h2⟩
theorem jz{a b:Int}(h1: -18446744073709551616<a)(h2:a<18446744073709551616):iA a b=.ok (a*b):=bt<|.inl ⟨h1,h2⟩
theorem jA{a b:Int}(h1: -18446744073709551616<b)(h2:b<18446744073709551616):iA a b=.ok (a*b):=bt<|.inr ⟨h1,h2⟩
theorem fF{α:Type}{xs:List α}{x:α}(h:xs.length<100000):fP xs x=.ok (xs++[x]):=bt h
theorem gp{a b:Tx}(h:a.length+b.length<=100000):iB a b=.ok (a++b):=bt h
theorem pA{α:Type}{a b:List α}(h:a.length+b.length<=100000):vA a b=.ok (a++b):=bt h
theorem vF{a:Tx}(h:a.length<=100000):xF a=.ok (a.length:Int):=bt h
theorem vG{c:Nat}{n:Int}(h0:0<=n)(h1:n<=100000):xE [c] n=.ok (DH n.toNat c):=bt ⟨h0,h1⟩
theorem pB{a:Tx}{lo hi:Option Int}(h:a.length<=100000):qH a lo hi=.ok (cut a lo hi):=bt h
theorem mU{xs:List Tx}(h:xs.flatten.length<=100000):mO xs=.ok xs.flatten:=bt h
theorem iH{n:Nat}(h:n<=100000):fb (n:Int)=.ok ((Cv n).map fun(i:Nat)=>(i:Int)):=by
 unfold fb;rw[bt ⟨by omega,by omega⟩];simp[jo]
theorem eI{α:Type}{xs:List α}{i:Int}(h0:0<=i)(h1:i<xs.length):∃x,ef xs i=.ok x/\xs[i.toNat]? =some x:=by
 obtain⟨h,e⟩:=sC h0 h1;exact⟨xs[i.toNat],by unfold ef;rw[e];rfl,by simp[h]⟩
theorem hZ{x:Tx}{i:Int}(h0:0<=i)(h1:i<x.length)(h2:x.length<=100000):∃c,fh x i=.ok [c]/\x[i.toNat]? =some c:=by
 obtain⟨h,e⟩:=sC h0 h1;refine⟨x[i.toNat],?_,by simp[h]⟩;unfold fh;rw[bt h2];show(rF<|oU x i).bind _=_;rw[e];rfl
theorem xN{x:Tx}{i:Int}(h0:0<=i)(h1:i<x.length)(h2:x.length<=100000):fh x i=.ok [x[i.toNat]?.getD 0]:=by
 obtain⟨c,e,h⟩:=hZ h0 h1 h2;rw[e,h];rfl
theorem vH{α:Type}{xs:List α}{i:Int}{x:α}(h0:0<=i)(h1:i<xs.length):iZ xs i x=.ok (xs.set i.toNat x):=by
 unfold iZ ixN;rw[if_pos h0,if_pos h1];rfl
theorem sV{α:Type}[DecidableEq α]{a b:α}(h:a=b):zb a b=.ok true:=if_pos h
theorem sW{xs:List Int}(h:xs.length<64):sF xs=.ok (iC xs):=bt h
theorem cZ{α S:Type}{f:α->S->Res S}(I:List α->S->Prop)(xs:List α)(s0:S)(h0:I [] s0)(step:∀pre a post s,xs=pre++a::post->I pre s->∃s',f a s=.ok s'/\I (pre++[a]) s'):
  ∃s,bQ f xs s0=.ok s/\I xs s:=by
 have key:∀(post pre:List α)(s:S),xs=pre++post->I pre s->∃s',bQ f post s=.ok s'/\I xs s':=by
  intro post
  induction post with
  |nil=>intro pre s e h;rw[DP]at e;subst e;exact⟨s,rfl,h⟩
  |cons a r ih=>
   intro pre s e h;obtain⟨s1,e1,h1⟩:=step pre a r s e h;obtain⟨s2,e2,h2⟩:=ih (pre++[a]) s1 (by rw[e];simp) h1;exact⟨s2,by unfold bQ;rw[e1];exact e2,h2⟩
 exact key xs [] s0 rfl h0
theorem iI{α γ:Type}{f:α->Unit->Res (Fl γ Unit)}{g:α->Option γ}(xs:List α)(step:∀a∈xs,f a ()=.ok (match g a with|some r=>.rt r|none=>.nx ())):dH f xs ()=.ok (match xs.findSome? g with|some r=>.rt r|none=>.nx ()):=by
 induction xs with
 |nil=>rfl
 |cons a r ih=>
  unfold dH;rw[step a<|BN ..];cases h:g a with
  |some z=>simp[h,sE]
  |none=>simp only[Bn,sE,G9,h];exact ih fun b hb=>step b<|BP _ hb
theorem mV{α β:Type}{f:α->Res (Option β)}{g:α->Option β}:∀{xs:List α},(∀x∈xs,f x=.ok (g x))->gY f xs=.ok (xs.filterMap g)
 | [],_=>rfl
 |a::r,h=>by
  unfold gY;rw[h a<|BN ..,Bn,mV fun x hx=>h x<|BP _ hx,Bn,Ea];cases g a<;>rfl
theorem sX{α β:Type}{f:α->Res (Option β)}{g:α->Option β}{xs:List α}(hl:xs.length<=100000)(h:∀x∈xs,f x=.ok (g x)):oW xs f=.ok (xs.filterMap g):=by
 unfold oW;rw[bt hl,Bn,mV h]
theorem pC(l:List Nat):((l.map fun c=>[c]):List Tx).flatten=l:=by induction l with|nil=>rfl|cons a r ih=>simp[ih]
theorem jB{α:Type}(l:List α)(k:Nat):cut l none (some (k:Int))=l.take k:=by
 unfold cut sIx;simp only[];rw[if_neg (by omega),CQ];simp[List.take_eq_take_iff]
theorem sY{α:Type}(l:List α)(k:Nat):cut l (some (k:Int)) none=l.drop k:=by
 unfold cut sIx;simp only[];rw[if_neg (by omega),CQ];by_cases h:k<=l.length;·rw[Jp h,En (by simp)]
 ·rw[Nat.min_eq_right (by omega),Hh (by omega),Hh (by omega)];simp
theorem eK{x:Tx}{t:Tx}(h:t∈bE x):∃c∈x,t=[c]:=by
 unfold bE at h;obtain⟨c,hc,e⟩:=BX.mp h;exact⟨c,hc,e.symm⟩
theorem vI(a:Int):0<=dG a:=by unfold dG;split<;>omega
section
variable{α β:Type}{P:α->Prop}{Q:β->Prop}
theorem gq{m:Res α}{f:α->Res β}(h:m.Ok fun a=>(f a).Ok Q):(m.bind f).Ok Q:=Res.bind_ok h
theorem zh{b:Bool}{A B:Res α}(h1:b=true->A.Ok P)(h2:b=false->B.Ok P):(if b=true then A else B).Ok P:=by
 cases b with
 |true=>exact h1 rfl
 |false=>exact h2 rfl
theorem lK{c:Prop}[Decidable c]{A B:Res α}(h1:c->A.Ok P)(h2:¬c->B.Ok P):(if decide c=true then A else B).Ok P:=by
 by_cases h:c;·rw[decide_eq_true h];exact h1 h
 ·rw[decide_eq_false h];exact h2 h
theorem eT{a:α}(h:P a):(Bt a).Ok P:=h
theorem AB{m:Res α}{a:α}(e:m=.ok a)(h:P a):m.Ok P:=by rw[e];exact h
end
end Mi
namespace L2
open PySem PySem.Spec PyProof.Rows Wb
end L2
namespace L2
open PySem PySem.Spec PyProof.Rows
end L2
namespace Wb
open PySem L2 Mi
variable{Er:Nat->Prop}
end Wb
namespace Mi
def j5{κ α:Type}[DecidableEq κ](kvs:List (κ×α))(k:κ)(a:α):List (κ×α):=
 if(kvs.any fun kv=>decide<|kv.1=k)=true then kvs.map (fun kv=>if kv.1=k then(kv.1,a)else kv)else kvs++[(k,a)]
end Mi
namespace PySem
open Sem (wp)
open AutoSeq1 (wpAny_loadPart')
end PySem
namespace L2
open PySem PySem.Spec PyProof.Rows
end L2
namespace L2
end L2
namespace Wb
open PySem L2 Mi
variable{Er:Nat->Prop}
section
variable{α β γ δ:Type}{t t1 t2 t3 t4 ta tb tc td:TE}{σ:St}{W W0 W':Wd}{K:Br}{w:BQ}
def gr(K:Br):Nat->Sp
 |0=>fun _ _ _ _=>False
 |n+1=>fun vs H Q _=>∃v u,vs=[v,u]/\((EqK K H n v u/\∀H',Same H H'->Q (.bl true) H')\/∃x y,v=.str x/\u=.str y/\Q (.bl<|decide<|Fz x=Fz y) H)
theorem mW[DecidableEq α]{R:Rp α}[Mono R]{n N:Nat}[EqR K R n]{E:XK}{ma mb:Res α}(hn:n<N)(ha:EV Er ta σ W (sh R) ma)(hb:EV Er tb σ W (sh R) mb):EV Er (aV (gr K N) [] E<|ak ta<|ak tb aN) σ W (sh isB) (ma.bind fun a=>mb.bind fun b=>zb a b):=fun W1 e1 Q k=>
 ha W1 e1 _ ((Bm k).imp fun a ka x W2 e2 hx=>hb W2 (e1.trans e2) _ ((Bm ka).imp fun b kb y W3 e3 hy=>by
  unfold zb at kb;by_cases z:a=b
  ·rw[if_pos z]at kb;subst z;cases N with
   |zero=>omega
   |succ N=>
    refine⟨x,y,rfl,.inl ⟨EqR.eq W3.H a x y N (by omega) (Bk W3.ok<|Bk (R:=R) e3.g hx)<|Bk W3.ok hy,fun H' hs=>?_⟩⟩;exact kb (.bl true) ⟨W3.G,H',W3.ok.trans hs⟩ ⟨e2.g.trans e3.g,(e2.h.trans e3.h).trans hs,fun p hp=>(e2.trans e3).k p hp⟩ rfl
  ·rw[if_neg z]at kb;exact kb.elim))
theorem EV.go{W1:Wd}{R:Rw α}{m:Res α}{Q:VK}(e:Ext W W1)(h:EV Er t σ W R m)(k:m.OkE Er fun a=>∀v W2,Ext W1 W2->R W2 a v->Q v W2.H):t σ W1.H Q:=h W1 e Q k
end
end Wb
namespace Mi
end Mi
namespace L2
open PySem PySem.Spec PyProof.Rows
end L2
namespace L2
open PySem PySem.Spec PySem.Calls PyProof.Rows
open PySem.W (findIn findObj mroIn looks_findIn looks_find looks_mroIn class_get KitX clsIn Frag)
end L2
namespace L2
open PySem PySem.Spec PySem.Calls PyProof.Rows
end L2
namespace L2
open PySem PySem.Spec PySem.Calls PyProof.Rows Mi
end L2
namespace Wb
open PySem L2 Mi
end Wb
namespace Wb
open PySem L2 Mi
open PySem.W (findIn findObj mroIn kitOne kitCls clsIn typeIn subIn specialIn takesIn Frag)
end Wb
namespace Wb
open PySem L2 Mi
end Wb
namespace L2
open PySem PySem.Spec PyProof.Rows
end L2
namespace Wb
open PySem L2 Mi
end Wb
namespace Mi
end Mi
namespace Wb
open PySem L2 Mi
end Wb
namespace L2
open PySem PySem.Spec PyProof.Rows
end L2
namespace Wb
open PySem L2 Mi
section
variable{Er:Nat->Prop}{α β:Type}{K:Br}{W W0:Wd}{p:Addr}{ta tb te:TE}{σ:St}{D:Ends}{i:Nat}{r:TS}{base:Heap}
theorem LR.rev{R:Rp α}{H:Hp}{as:List α}{vs:List V}(h:LR R H as vs):LR R H as.reverse vs.reverse:=⟨by simp[h.1],fun i v m q1 q2=>by
 have hi:i<vs.length:=by have:=(Bw.mp q1).1;simpa using this
 rw[Hz hi]at q1;rw[Hz (by rw[<-h.1];exact hi),<-h.1]at q2;exact h.2 _ v m q1 q2⟩
theorem vJ{R:Rp α}[Mono R]{ma:Res (List α)}(ha:EV Er ta σ W (pk R) ma):EVo Er (sx K ta<|bw<|fv (rU fun i=>.int<|-i)<|tC<|.int 1) σ W R (ma.bind fun a=>.ok a.reverse):=fun W1 e1 Q k=>
 ha W1 e1 _ ((Bm k).imp fun a ka x W2 e2 hx=>by
  obtain⟨p,vs,rfl,h1,h2⟩:=hx;refine⟨1,rfl, -1,rfl,p,vs,rfl,rfl,Di h1,fun q hq=>ka q (W2.mut q (.lst vs.reverse) (W2.gnone hq)) (e2.trans (.own _ hq)) (none_of e2.h hq) ⟨W2.gnone hq,_,aB,LR.rev h2⟩⟩)
end
end Wb
namespace L2
open PySem PySem.Spec PySem.Calls PyProof.Rows Mi
end L2
namespace Wb
open PySem L2 Mi
end Wb
namespace L2
open PySem PySem.Spec PyProof.Rows
end L2
namespace Wb
open PySem L2 Mi
end Wb
namespace L2
open PySem PySem.Spec PyProof.Rows
end L2
namespace Wb
open PySem L2 Mi
end Wb
namespace Mi
def lL{α β:Type}(p:List β×(List β->α))(j:Int):Res (β×(β->α)):=(rF<|ixN p.1.length j).bind fun k=>(rF p.1[k]?).bind fun b=>.ok (b,fun b'=>p.2<|p.1.set k b')
def j8(i j:Int):List Int:=(Cv (j-i).toNat).map fun(n:Nat)=>i+(n:Int)
def lM(i j:Int):Res (List Int):=dF (-(2^62)<=i/\i<2^62/\ -(2^62)<=j/\j<2^62)<|j8 i j
end Mi
namespace Wb
open PySem L2 Mi
abbrev FS:=Addr->Prop
abbrev Rf(α:Type):=Wd->FS->α->V->Prop
theorem nn_of{H:Hp}{q:Addr}{o:HO}(h:H q=some o):H q≠none:=by rw[h];exact fun z=>nomatch z
structure MuF(F:FS)(W W':Wd):Prop where
 g:Same W.G W'.G
 h:∀q,¬F q->W.H q≠none->W'.H q=W.H q
 k:∀q,W.H q≠none->W'.G q=W.G q
 n:∀q,W.H q≠none->W'.H q≠none
section
variable{α β γ:Type}{K:Br}{W W' W0 W1 W2:Wd}{F F' F1:FS}
theorem Ext.keepH(e:Ext W W'){q:Addr}(hn:W.H q≠none):W'.H q=W.H q:=by
 obtain⟨o,ho⟩:=EN.mp hn;rw[ho];exact e.h _ _ ho
theorem Ext.muF(e:Ext W W'):MuF F W W':=⟨e.g,fun q _ hn=>e.keepH hn,e.k,fun q hn=>by rw[e.keepH hn];exact hn⟩
theorem MuF.trans(m:MuF F W W1)(m':MuF F1 W1 W2)(hF:∀q,F1 q->F q\/W.H q=none):MuF F W W2:=⟨m.g.trans m'.g,fun q hq hn=>by
 have h1:=m.h q hq hn;have:¬F1 q:=fun z=>(hF q z).elim hq hn;rw[m'.h q this (by rw[h1];exact hn),h1],fun q hn=>by rw[m'.k q (m.n q hn),m.k q hn],fun q hn=>m'.n q (m.n q hn)⟩
theorem MuF.of{p:Addr}{o:HO}(hF:F p)(hg:W.G p=none):MuF F W (W.mut p o hg):=⟨.refl _,fun q hq hn=>aG fun z=>hq<|z▸hF,fun _ _=>rfl,fun q hn=>by
 show cN W.H p o q≠none;by_cases z:q=p
 ·rw[z,aB];exact fun z=>nomatch z
 ·rw[aG z];exact hn⟩
class FrT(R:Rf α):Prop where
 fr:∀{W W':Wd}{F:FS}{a:α}{v:V},R W F a v->Same W.G W'.G->(∀q,F q->W'.H q=W.H q/\W'.G q=W.G q)->R W' F a v
 lv:∀{W:Wd}{F:FS}{a:α}{v:V},R W F a v->∀q,F q->W.G q=none/\W.H q≠none
theorem FrT.ext{R:Rf α}[FrT R]{a:α}{v:V}(t:R W F a v)(e:Ext W W'):R W' F a v:=FrT.fr t e.g fun q hq=>⟨e.keepH (FrT.lv t q hq).2,e.k q (FrT.lv t q hq).2⟩
theorem FrT.mu{R:Rf α}[FrT R]{a:α}{v:V}(t:R W F a v)(m:MuF F' W W')(dj:∀q,F q->F' q->False):R W' F a v:=FrT.fr t m.g fun q hq=>⟨m.h q (dj q hq) (FrT.lv t q hq).2,m.k q (FrT.lv t q hq).2⟩
class FzT(R:Rf α)(R':outParam (Rp α)):Prop where
 fz:∀{W W':Wd}{F:FS}{a:α}{v:V},R W F a v->Same W.G W'.G->(∀q,F q->W'.G q=W.H q)->R' W'.G a v
def fz(R:Rp α):Rf α:=fun W F a v=>(∀q,¬F q)/\R W.G a v
instance zkeep44{R:Rp α}[Mono R]:FrT (fz R):=⟨fun h s _=>⟨h.1,Bk s h.2⟩,fun h q hq=>absurd hq<|h.1 q⟩
instance zkeep45{R:Rp α}[Mono R]:FzT (fz R) R:=⟨fun h s _=>Bk s h.2⟩
structure TL(R:Rf α)(W:Wd)(Fs:Nat->FS)(xs:List α)(vs:List V):Prop where
 len:vs.length=xs.length
 el:∀i x u,xs[i]? =some x->vs[i]? =some u->R W (Fs i) x u
 rng:∀i q,Fs i q->i<xs.length
 dj:∀i j q,Fs i q->Fs j q->i=j
def oL(R:Rf α):Rf (List α):=fun W F xs v=>∃(p:Addr)(vs:List V)(Fs:Nat->FS),v=.ref p/\W.G p=none/\W.H p=some (.lst vs)/\TL R W Fs xs vs/\(∀i,¬Fs i p)/\∀q,F q↔q=p\/∃i,Fs i q
theorem TL.at2{R:Rf α}{Fs:Nat->FS}{xs:List α}{vs:List V}(t:TL R W Fs xs vs){i:Nat}{q:Addr}(h:Fs i q):∃x u,xs[i]? =some x/\vs[i]? =some u/\R W (Fs i) x u:=by
 have h1:=t.rng i q h;have h2:i<vs.length:=by rw[t.len];exact h1
 exact⟨xs[i],vs[i],by simp[h1],by simp[h2],t.el i _ _ (by simp[h1]) (by simp[h2])⟩
instance zkeep46{R:Rf α}[FrT R]:FrT (oL R):=⟨fun⟨p,vs,Fs,e,g,h,t,np,hF⟩s k=>by
 have kp:=k p<|(hF p).mpr (.inl rfl);exact⟨p,vs,Fs,e,by rw[kp.2];exact g,by rw[kp.1];exact h,⟨t.len,fun i x u a b=>FrT.fr (t.el i x u a b) s<|fun q hq=>k q<|(hF q).mpr (.inr ⟨i,hq⟩),t.rng,t.dj⟩,np,hF⟩,fun⟨p,vs,Fs,e,g,h,t,np,hF⟩q hq=>by
 rcases (hF q).mp hq with rfl|⟨i,hi⟩
 ·exact⟨g,nn_of h⟩
 ·obtain⟨x,u,_,_,r⟩:=t.at2 hi;exact FrT.lv r q hi⟩
instance zkeep47{R:Rf α}{R':Rp α}[FzT R R']:FzT (oL R) (isL R'):=⟨fun⟨p,vs,Fs,e,g,h,t,np,hF⟩s k=>⟨p,vs,e,by rw[k p<|(hF p).mpr (.inl rfl)];exact h,t.len,fun i u x a b=>FzT.fz (t.el i x u b a) s fun q hq=>k q<|(hF q).mpr (.inr ⟨i,hq⟩)⟩⟩
structure TC where
 {α:Type}
 R:Rf α
 a:α
 v:V
 i:FrT R
def tc(R:Rf α)[FrT R](a:α)(v:V):TC:=⟨R,a,v,inferInstance⟩
def noT:Rf Unit:=fun _ F _ _=>∀q,¬F q
instance zkeep48:FrT noT:=⟨fun h _ _=>h,fun h q hq=>absurd hq<|h q⟩
def AD:TC:=tc noT () .non
structure SepF(W0 W:Wd)(Fs:Nat->FS)(cs:List TC):Prop where
 el:∀(i:Nat)(c:TC),cs[i]? =some c->c.R W (Fs i) c.a c.v
 rng:∀i q,Fs i q->i<cs.length
 dj:∀i j q,Fs i q->Fs j q->i=j
 nw:∀i q,Fs i q->W0.H q=none
def Sep(W0 W:Wd)(cs:List TC):Prop:=∃Fs,SepF W0 W Fs cs
variable{cs:List TC}
theorem Sep.nil:Sep W0 W []:=⟨fun _ _=>False,fun _ _ h=>by simp at h,fun _ _ h=>h.elim,fun _ _ _ h=>h.elim,fun _ _ h=>h.elim⟩
theorem SepF.lv{Fs:Nat->FS}(s:SepF W0 W Fs cs){i:Nat}{q:Addr}(h:Fs i q):W.G q=none/\W.H q≠none:=by
 have h1:=s.rng i q h;have:=s.el i cs[i] (by simp[h1]);exact @FrT.lv _ _ cs[i].i _ _ _ _ this q h
theorem Sep.ext(s:Sep W0 W cs)(e:Ext W W'):Sep W0 W' cs:=by
 obtain⟨Fs,s⟩:=s;exact⟨Fs,fun i c h=> @FrT.ext _ _ _ _ _ c.i _ _ (s.el i c h) e,s.rng,s.dj,s.nw⟩
theorem SepF.put{Fs:Nat->FS}{R:Rf β}[FrT R]{b:β}{u:V}{i:Nat}(s:SepF W0 W Fs cs)(E:Ext W0 W)(m:MuF (Fs i) W W')(hF:∀q,F q->Fs i q\/W.H q=none)(t:R W' F b u)(hi:i<cs.length):Sep W0 W' (cs.set i<|tc R b u):=by
 refine⟨fun j=>if j=i then F else Fs j,fun j c h=>?_,fun j q h=>?_,fun j k q h1 h2=>?_,fun j q h=>?_⟩
 ·rw[E4]at h;by_cases z:i=j
  ·subst z;rw[if_pos rfl,if_pos hi]at h;cases h;simp only[if_true];exact t
  ·rw[if_neg z]at h;simp only[if_neg (DZ z)];exact @FrT.mu _ _ _ _ _ _ c.i _ _ (s.el j c h) m fun q a b=>z (s.dj j i q a b).symm
 ·rw[Dy];by_cases z:j=i;·rw[z];exact hi
  ·simp only[if_neg z]at h;exact s.rng j q h
 ·have key:∀j q,(if j=i then F else Fs j) q->(j=i/\F q)\/(j≠i/\Fs j q):=fun j q h=>by
   by_cases z:j=i;·exact .inl ⟨z,by simpa [if_pos z] using h⟩
   ·exact .inr ⟨z,by simpa [if_neg z] using h⟩
  rcases key j q h1 with⟨z1,a⟩|⟨z1,a⟩<;>rcases key k q h2 with⟨z2,b⟩|⟨z2,b⟩
  ·rw[z1,z2]
  ·exact((hF q a).elim (fun y=>z2<|s.dj k i q b y) fun y=>absurd y (s.lv b).2).elim
  ·exact((hF q b).elim (fun y=>z1<|s.dj j i q a y) fun y=>absurd y (s.lv a).2).elim
  ·exact s.dj j k q a b
 ·by_cases z:j=i
  ·simp only[if_pos z]at h;exact(hF q h).elim (s.nw i q) fun y=>none_of E.h y
  ·simp only[if_neg z]at h;exact s.nw j q h
theorem Sep.add{R:Rf β}[FrT R]{b:β}{u:V}(s:Sep W0 W cs)(E:Ext W0 W)(e:Ext W W')(hF:∀q,F q->W.H q=none)(t:R W' F b u):Sep W0 W' (cs++[tc R b u]):=by
 obtain⟨Fs,s⟩:=s;have hn:∀j q,j=cs.length->¬Fs j q:=fun j q z h=>by have:=s.rng j q h;omega
 have key:∀j q,(if j=cs.length then F else Fs j) q->(j=cs.length/\F q)\/(j<cs.length/\Fs j q):=fun j q h=>by
  by_cases z:j=cs.length;·exact .inl ⟨z,by simpa [if_pos z] using h⟩
  ·have h':Fs j q:=by simpa [if_neg z] using h
   exact .inr ⟨s.rng j q h',h'⟩
 refine⟨fun j=>if j=cs.length then F else Fs j,fun j c h=>?_,fun j q h=>?_,fun j k q h1 h2=>?_,fun j q h=>?_⟩
 ·by_cases z:j< cs.length
  ·rw[BG z]at h;simp only[if_neg (BL z)];exact @FrT.ext _ _ _ _ _ c.i _ _ (s.el j c h) e
  ·rw[BH (by omega)]at h;have:j-cs.length=0:=by
    refine CD fun y=>?_;rw[Cb.mpr (by simp;omega)]at h;cases h
   rw[this]at h;cases h;have z2:j=cs.length:=by omega
   simp only[if_pos z2];exact t
 ·rw[CS,Ex];rcases key j q h with⟨a,_⟩|⟨a,_⟩<;>omega
 ·rcases key j q h1 with⟨z1,a⟩ | ⟨z1,a⟩ <;> rcases key k q h2 with⟨z2,b⟩ | ⟨z2,b⟩
  ·omega
  ·exact absurd (hF q a) (s.lv b).2
  ·exact absurd (hF q b) (s.lv a).2
  ·exact s.dj j k q a b
 ·rcases key j q h with⟨_,a⟩ | ⟨_,a⟩
  ·exact none_of E.h<|hF q a
  ·exact s.nw j q a
theorem SepF.del{Fs:Nat->FS}(s:SepF W0 W Fs cs)(i:Nat):Sep W0 W (cs.eraseIdx i):=by
 by_cases hi:i<cs.length
 ·have key:∀j q,(if j<i then Fs j else Fs (j+1)) q->(j<i/\Fs j q)\/(i<=j/\Fs (j+1) q):=fun j q h=>by
   by_cases z:j<i;·exact .inl ⟨z,by simpa [if_pos z] using h⟩
   ·exact .inr ⟨by omega,by simpa [if_neg z] using h⟩
  refine⟨fun j=>if j<i then Fs j else Fs (j+1),fun j c h=>?_,fun j q h=>?_,fun j k q h1 h2=>?_,fun j q h=>?_⟩
  ·by_cases z:j< i
   ·rw[FY z]at h;simp only[if_pos z];exact s.el j c h
   ·rw[FZ (by omega)]at h;simp only[if_neg z];exact s.el (j+1) c h
  ·rw[Dn,if_pos hi];rcases key j q h with⟨a,b⟩|⟨a,b⟩
   ·omega
   ·have:=s.rng _ q b;omega
  ·rcases key j q h1 with⟨z1,a⟩|⟨z1,a⟩<;>rcases key k q h2 with⟨z2,b⟩|⟨z2,b⟩<;>have:=s.dj _ _ q a b<;>omega
  ·rcases key j q h with⟨_,a⟩|⟨_,a⟩<;>exact s.nw _ q a
 ·rw[List.eraseIdx_of_length_le (by omega)];exact⟨Fs,s⟩
theorem SepF.move{Fs:Nat->FS}{R:Rf β}[FrT R]{b:β}{u:V}{i j:Nat}(s:SepF W0 W Fs cs)(E:Ext W0 W)(m:MuF (fun q=>Fs i q\/Fs j q) W W')(hF:∀q,F q->Fs i q\/Fs j q\/W.H q=none)(t:R W' F b u)(hi:i<cs.length)(hij:i≠j):Sep W0 W' ((cs.set i<|tc R b u).eraseIdx j):=by
 have key:∀k q,(if k=i then F else if k=j then(fun _=>False)else Fs k) q->(k=i/\F q)\/(k≠i/\k≠j/\Fs k q):=fun k q h=>by
  by_cases z:k=i;·exact .inl ⟨z,by simpa [if_pos z] using h⟩
  ·rw[if_neg z]at h;by_cases y:k=j;·simp[if_pos y]at h
   ·exact .inr ⟨z,y,by simpa [if_neg y] using h⟩
 have s2:SepF W0 W' (fun k=>if k=i then F else if k=j then(fun _=>False)else Fs k) ((cs.set i<|tc R b u).set j AD):=by
  refine⟨fun k c h=>?_,fun k q h=>?_,fun k l q h1 h2=>?_,fun k q h=>?_⟩
  ·rw[E4]at h;by_cases y:j=k
   ·subst y;rw[if_pos rfl]at h;split at h
    ·cases h;simp only[if_neg (DZ hij),if_true];exact fun _ z=>z
    ·cases h
   ·rw[if_neg y,E4]at h;by_cases z:i=k
    ·subst z;rw[if_pos rfl,if_pos hi]at h;cases h;simp only[if_true];exact t
    ·rw[if_neg z]at h;simp only[if_neg (DZ z),if_neg<|DZ y];exact @FrT.mu _ _ _ _ _ _ c.i _ _ (s.el k c h) m fun q a b=>b.elim (fun b=>z (s.dj k i q a b).symm) fun b=>y (s.dj k j q a b).symm
  ·rw[Dy,Dy];rcases key k q h with⟨a,_⟩|⟨_,_,a⟩
   ·omega
   ·exact s.rng k q a
  ·rcases key k q h1 with⟨z1,a⟩ | ⟨z1,y1,a⟩ <;> rcases key l q h2 with⟨z2,b⟩ | ⟨z2,y2,b⟩
   ·omega
   ·exact((hF q a).elim (fun y=>z2<|s.dj l i q b y) fun y=>y.elim (fun y=>y2<|s.dj l j q b y) fun y=>absurd y (s.lv b).2).elim
   ·exact((hF q b).elim (fun y=>z1<|s.dj k i q a y) fun y=>y.elim (fun y=>y1<|s.dj k j q a y) fun y=>absurd y (s.lv a).2).elim
   ·exact s.dj k l q a b
  ·rcases key k q h with⟨_,a⟩ | ⟨_,_,a⟩
   ·exact(hF q a).elim (s.nw i q) fun y=>y.elim (s.nw j q) fun y=>none_of E.h y
   ·exact s.nw k q a
 have:=s2.del j;rw[HR]at this;exact this
open Classical in
theorem Sep.frz{R:Rf β}[FrT R]{R':Rp β}[FzT R R']{b:β}{u:V}{i:Nat}(s:Sep W0 W cs)(E:Ext W0 W)(hc:cs[i]? =some (tc R b u)):∃W',W'.H=W.H/\Ext W0 W'/\Same W.G W'.G/\Sep W0 W' (cs.eraseIdx i)/\R' W'.G b u:=by
 obtain⟨Fs,s⟩:=s;have hs:Same W.G fun q=>if Fs i q then W.H q else W.G q:=fun a o h=>by
  show(if Fs i a then _ else _)=_;rw[if_neg fun z=>by have:=(s.lv z).1;rw[h]at this;cases this];exact h
 have ho:Same (fun q=>if Fs i q then W.H q else W.G q) W.H:=fun a o h=>by
  have h:(if Fs i a then W.H a else W.G a)=some o:=h;split at h;·exact h
  ·exact W.ok _ _ h
 let W':Wd:=⟨_,W.H,ho⟩
 refine⟨W',rfl,⟨E.g.trans hs,E.h,fun q hq=>?_⟩,hs,?_,FzT.fz (R:=R) (s.el i _ hc) hs fun q hq=>if_pos hq⟩
 ·show(if Fs i q then _ else _)=_;rw[if_neg fun z=>hq<|s.nw i q z];exact E.k q hq
 ·have s2:SepF W0 W' (fun k=>if k=i then(fun _=>False)else Fs k) (cs.set i AD):=by
   have key:∀k q,(if k=i then(fun _=>False)else Fs k) q->k≠i/\Fs k q:=fun k q h=>by
    by_cases z:k=i;·simp[if_pos z]at h
    ·exact⟨z,by simpa [if_neg z] using h⟩
   refine⟨fun k c h=>?_,fun k q h=>?_,fun k l q h1 h2=>s.dj k l q (key k q h1).2 (key l q h2).2,fun k q h=>s.nw k q (key k q h).2⟩
   ·rw[E4]at h;by_cases z:i=k
    ·subst z;rw[if_pos rfl]at h;split at h
     ·cases h;simp only[if_true];exact fun _ z=>z
     ·cases h
    ·rw[if_neg z]at h;simp only[if_neg (DZ z)];refine @FrT.fr _ _ c.i _ _ _ _ _ (s.el k c h) hs fun q hq=>⟨rfl,?_⟩
     show(if Fs i q then _ else _)=_;rw[if_neg fun y=>z<|s.dj i k q y hq]
   ·rw[Dy];exact s.rng k q (key k q h).2
  have:=s2.del i;rw[HR]at this;exact this
end
section
variable{Er:Nat->Prop}{α β γ δ ε ζ:Type}{K:Br}{W W' W0 W1 W2:Wd}{F F' F1:FS}{cs:List TC}{σ:St}{t ta tb te ti tp t1 t2 t3 t4 t5:TE}{D:Ends}{i k:Nat}{r:TS}
def vw(R:Rf α):Rw α:=fun W a v=>∃F,R W F a v
instance zkeep49{R:Rf α}[FrT R]:MonoW (vw R):=⟨fun e⟨F,t⟩=>⟨F,FrT.ext t e⟩⟩
theorem Sep.vw{R:Rf α}[FrT R]{a:α}{v:V}(s:Sep W0 W cs)(hc:cs[k]? =some (tc R a v)):vw R W a v:=by
 obtain⟨Fs,s⟩:=s;exact⟨Fs k,s.el k _ hc⟩
theorem d9{R:Rf α}[FrT R]{a:α}{v:V}(s:Sep W0 W cs)(hc:cs[k]? =some (tc R a v):=by rfl)(h:σ[i]? =some (some v):=by rfl):EV Er (bD i) σ W (vw R) (.ok a):=gM (s.vw hc) h
theorem xO{xs:List α}{j:Int}{a:α}(h:oU xs j=some a):∃l,Mi.ixN xs.length j=some l/\xs[l]? =some a:=by
 unfold oU at h;cases z:Mi.ixN xs.length j with
 |none=>rw[z]at h;cases h
 |some l=>rw[z]at h;exact⟨l,rfl,h⟩
theorem TL.ix{R:Rf α}{Fs:Nat->FS}{xs:List α}{vs:List V}(t:TL R W Fs xs vs){j:Int}{l:Nat}{a:α}(h1:Mi.ixN xs.length j=some l)(h2:xs[l]? =some a):∃x,vs[l]? =some x/\L2.atI vs j=some x/\R W (Fs l) a x:=by
 have hl:l<vs.length:=by rw[t.len];exact(Bw.mp h2).1
 refine⟨vs[l],by simp[hl],?_,t.el l a _ h2 (by simp[hl])⟩;show(L2.ixN vs.length j).bind _=_;rw[t.len,show L2.ixN xs.length j=Mi.ixN xs.length j from rfl,h1];simp[hl]
theorem gu{R:Rf α}[FrT R]{ma:Res (List α)}{mb:Res Int}(ha:EV Er ta σ W (vw<|oL R) ma)(hb:EV Er tb σ W (sh isI) mb):EV Er (cY (cf K) ta tb) σ W (vw R) (ma.bind fun a=>mb.bind fun b=>ef a b):=
 o6 ha hb fun W a b x y Q hx hy k=>by
  cases hy;obtain⟨F,p,vs,Fs,rfl,g,h,t,np,hF⟩:=hx;obtain⟨c,h4,h5⟩:=dv k;obtain⟨l,h6,h7⟩:=xO h4;obtain⟨z,h8,h9,h10⟩:=t.ix h6 h7;exact⟨p,_,b,z,rfl,rfl,Di h,h9,h5 _ W (.refl _) ⟨_,h10⟩⟩
theorem TL.lr{R:Rp α}{Fs:Nat->FS}{xs:List α}{vs:List V}(t:TL (fz R) W Fs xs vs):LR R W.G xs vs:=⟨t.len,fun i v m a b=>(t.el i m v b a).2⟩
theorem TL.of{R:Rp α}{xs:List α}{vs:List V}(t:LR R W.G xs vs):TL (fz R) W (fun _ _=>False) xs vs:=⟨t.1,fun i x u a b=>⟨fun _ z=>z,t.2 i u x b a⟩,fun _ _ z=>z.elim,fun _ _ _ z=>z.elim⟩
theorem gv{R:Rp α}{m:Res (List α)}(h:EV Er t σ W (vw<|oL<|fz R) m):EV Er t σ W (pk R) m:=h.imp fun _ _ _⟨_,p,vs,Fs,e,g,h,t,_⟩=>⟨p,vs,e,h,t.lr⟩
theorem gw{R:Rf α}{ma:Res (List α)}(ha:EV Er ta σ W (vw<|oL R) ma):EV Er (dW (fun xs H Q=>∃x n,xs=[x]/\mz K x H n/\Q (.int n) H)<|ak ta aN) σ W (sh isI) (ma.bind fun a=>.ok (a.length:Int)):=fun W1 e1 Q k=>
 ha W1 e1 _ ((Bm k).imp fun a ka x W2 e2 hx=>by
  obtain⟨F,p,vs,Fs,rfl,g,h,t,np,hF⟩:=hx;exact⟨_,a.length,rfl,.inl ⟨vs,Di h,t.len.symm⟩,ka _ W2 e2 rfl⟩)
def EVt(Er:Nat->Prop)(t:TE)(σ:St)(W:Wd)(R:Rf α)(m:Res α):Prop:=∀W1,Ext W W1->∀Q:VK,m.OkE Er (fun a=>∀v W2 F,Ext W1 W2->(∀q,F q->W1.H q=none)->R W2 F a v->Q v W2.H)->t σ W1.H Q
theorem oL.ofOw{R:Rp α}{p:Addr}{xs:List α}(o:Ow R W p xs):oL (fz R) W (· =p) xs (.ref p):=by
 obtain⟨vs,h1,h2⟩:=o.h;exact⟨p,vs,fun _ _=>False,rfl,o.g,h1,.of h2,fun _ z=>z,fun q=>⟨.inl,fun z=>z.elim id fun⟨_,z⟩=>z.elim⟩⟩
theorem EVo.tr{R:Rp α}{m:Res (List α)}(h:EVo Er t σ W R m):EVt Er t σ W (oL<|fz R) m:=fun W1 e1 Q k=>h W1 e1 Q (k.imp fun xs kx p W2 e2 hp o=>kx _ W2 _ e2 (fun q hq=>by rw[hq];exact hp)<|oL.ofOw o)
def yB(R:Rf β):Rt β:=fun W r Q=>∀u W' F,Ext W W'->(∀q,F q->W.H q=none)->R W' F r u->Q u W'.H
section
variable{R1:Rp α}{R2:Rp γ}{R3:Rp δ}{R4:Rp ε}{R5:Rp ζ}[Mono R1][Mono R2][Mono R3][Mono R4][Mono R5]{m1:Res α}{m2:Res γ}{m3:Res δ}{m4:Res ε}{m5:Res ζ}{E:XK}
theorem qN{R:Rf β}{m:α->γ->Res β}(h1:EV Er t1 σ W (sh R1) m1)(h2:EV Er t2 σ W (sh R2) m2):EVt Er (aV (bH R1 R2 (yB R) m) [] E<|ak t1<|ak t2 aN) σ W R (m1.bind fun a=>m2.bind fun b=>m a b):=fun W1 e1 Q k=>
 h1 W1 e1 _ ((Bm k).imp fun a ka v W2 e2 hv=>h2 W2 (e1.trans e2) _<|(Bm ka).imp fun b kb u W3 e3 hu=>⟨W3,a,b,v,u,rfl,rfl,BR (R:=sh R1) e3 hv,hu,Er,kb.imp fun r kr u W' F e hF o=>kr u W' F ((e2.trans e3).trans e) (fun q hq=>none_of (e2.trans e3).h (hF q hq)) o⟩)
theorem qO{R:Rf β}{m:α->γ->δ->ε->Res β}(h1:EV Er t1 σ W (sh R1) m1)(h2:EV Er t2 σ W (sh R2) m2)(h3:EV Er t3 σ W (sh R3) m3)(h4:EV Er t4 σ W (sh R4) m4):EVt Er (aV (j4 R1 R2 R3 R4 (yB R) m) [] E<|ak t1<|ak t2<|ak t3<|ak t4 aN) σ W R (m1.bind fun a=>m2.bind fun b=>m3.bind fun c=>m4.bind fun d=>m a b c d):=fun W1 e1 Q k=>
 h1 W1 e1 _ ((Bm k).imp fun a ka v W2 e2 hv=>h2 W2 (e1.trans e2) _ ((Bm ka).imp fun b kb u W3 e3 hu=>h3 W3 ((e1.trans e2).trans e3) _ ((Bm kb).imp fun c kc w W4 e4 hw=>h4 W4 (((e1.trans e2).trans e3).trans e4) _ ((Bm kc).imp fun d kd x W5 e5 hx=>
  ⟨W5,a,b,c,d,v,u,w,x,rfl,rfl,BR (R:=sh R1) ((e3.trans e4).trans e5) hv,BR (R:=sh R2) (e4.trans e5) hu,BR (R:=sh R3) e5 hw,hx,Er,kd.imp fun r kr u W' F e hF o=>kr u W' F ((((e2.trans e3).trans e4).trans e5).trans e) (fun q hq=>none_of (((e2.trans e3).trans e4).trans e5).h (hF q hq)) o⟩))))
end
def Lens(W0:Wd)(C:α->List TC)(R:Rf β):Rw (β×(β->α)):=fun W bp u=>∃F,R W F bp.1 u/\(∀q,F q->W0.H q=none)/\∀W' F' b',MuF F W W'->(∀q,F' q->F q\/W.H q=none)->R W' F' b' u->Sep W0 W' (C<|bp.2 b')
instance zkeep50{C:α->List TC}{R:Rf β}[FrT R]:MonoW (Lens W0 C R):=⟨fun e⟨F,t,n,p⟩=>⟨F,FrT.ext t e,n,fun W' F' b' m hF t'=>p W' F' b' (e.muF.trans m fun q hq=>.inl hq) (fun q hq=>(hF q hq).imp id (none_of e.h)) t'⟩⟩
variable{C:α->List TC}
theorem jC{R:Rf α}[FrT R]{a:α}{v:V}(s:Sep W0 W (C a))(E:Ext W0 W)(hc:(C a)[k]? =some (tc R a v):=by rfl)(hs:∀b,C b=(C a).set k (tc R b v):=by intro _;rfl)(h:σ[i]? =some (some v):=by rfl):EV Er (bD i) σ W (Lens W0 C R) (.ok (a,fun b=>b)):=by
 obtain⟨Fs,s⟩:=s;exact gM (R:=Lens W0 C R) ⟨Fs k,s.el k _ hc,s.nw k,fun W' F' b' m hF t=>by rw[hs];exact s.put E m hF t (Bw.mp hc).1⟩ h
theorem MuF.up(m:MuF F W W')(h:∀q,F q->F' q):MuF F' W W':=⟨m.g,fun q hq hn=>m.h q (fun z=>hq<|h q z) hn,m.k,m.n⟩
theorem sZ{R:Rf β}[FrT R]{ma:Res (List β×(List β->α))}{mb:Res Int}(ha:EV Er ta σ W (Lens W0 C<|oL R) ma)(hb:EV Er tb σ W (sh isI) mb):EV Er (cY (cf K) ta tb) σ W (Lens W0 C R) (ma.bind fun a=>mb.bind fun b=>lL a b):=
 o6 ha hb fun W a b x y Q hx hy k=>by
  cases hy;obtain⟨F,⟨p,vs,Fs,rfl,g,h,t,np,hF⟩,n,pb⟩:=hx;obtain⟨l,h1,k⟩:=dv<|Bm k;obtain⟨c,h2,k⟩:=dv<|Bm k;obtain⟨z,h8,h9,h10⟩:=t.ix h1 h2;have hll:l<a.1.length:=(Bw.mp h2).1;refine⟨p,_,b,z,rfl,rfl,Di h,h9,k _ W (.refl _) ⟨Fs l,h10,fun q hq=>n q<|(hF q).mpr (.inr ⟨l,hq⟩),fun W' F' b' m hF' t'=>?_⟩⟩;have key:∀j q,(if j=l then F' else Fs j) q->(j=l/\F' q)\/(j≠l/\Fs j q):=fun j q h=>by
   by_cases z:j=l;·exact .inl ⟨z,by simpa [if_pos z] using h⟩
   ·exact .inr ⟨z,by simpa [if_neg z] using h⟩
  have lv:∀j q,Fs j q->W.H q≠none:=fun j q hq=>by
   obtain⟨x,u,_,_,r⟩:=t.at2 hq;exact(FrT.lv r q hq).2
  refine pb W' (fun q=>q=p\/∃j,(if j=l then F' else Fs j) q) (a.1.set l b') (m.up fun q hq=>(hF q).mpr (.inr ⟨l,hq⟩)) (fun q hq=>?_) ⟨p,vs,fun j=>if j=l then F' else Fs j,rfl,by rw[m.k p<|nn_of h];exact g,by rw[m.h p (np l)<|nn_of h];exact h,⟨by rw[Dy];exact t.len,fun j x u e1 e2=>?_,fun j q hq=>?_,fun j j2 q q1 q2=>?_⟩,fun j hj=>?_,fun q=>HV⟩
  ·rcases hq with rfl | ⟨j,hj⟩
   ·exact .inl<|(hF _).mpr (.inl rfl)
   ·rcases key j q hj with⟨z1,z2⟩ | ⟨z1,z2⟩
    ·exact(hF' q z2).imp (fun y=>(hF q).mpr (.inr ⟨l,y⟩)) id
    ·exact .inl<|(hF q).mpr (.inr ⟨j,z2⟩)
  ·rw[E4]at e1;by_cases z1:l=j
   ·subst z1;rw[if_pos rfl,if_pos hll]at e1;cases e1;rw[h8]at e2;cases e2;simp only[if_true];exact t'
   ·rw[if_neg z1]at e1;simp only[if_neg (DZ z1)];exact FrT.mu (t.el j x u e1 e2) m fun q y1 y2=>z1<|t.dj l j q y2 y1
  ·rw[Dy];rcases key j q hq with⟨z1,z2⟩|⟨z1,z2⟩
   ·rw[z1];exact hll
   ·exact t.rng j q z2
  ·rcases key j q q1 with⟨z1,y1⟩ | ⟨z1,y1⟩ <;> rcases key j2 q q2 with⟨z2,y2⟩ | ⟨z2,y2⟩
   ·rw[z1,z2]
   ·exact((hF' q y1).elim (fun y=>z2<|t.dj j2 l q y2 y) fun y=>absurd y<|lv _ _ y2).elim
   ·exact((hF' q y2).elim (fun y=>z1<|t.dj j l q y1 y) fun y=>absurd y<|lv _ _ y1).elim
   ·exact t.dj j j2 q y1 y2
  ·rcases key j p hj with⟨z1,z2⟩ | ⟨z1,z2⟩
   ·exact(hF' p z2).elim (np l) fun y=>absurd y<|nn_of h
   ·exact np j z2
theorem Lens.lf{R:Rp β}[Mono R]{bp:List β×(List β->α)}{u:V}(E:Ext W0 W)(l:Lens W0 C (oL<|fz R) W bp u):∃p vs,u=.ref p/\W.H p=some (.lst vs)/\LR R W.G bp.1 vs/\∃hg:W.G p=none,∀vs' xs',LR R W.G xs' vs'->Ext W0 (W.mut p (.lst vs') hg)/\Sep W0 (W.mut p (.lst vs') hg) (C<|bp.2 xs'):=by
 obtain⟨F,⟨p,vs,Fs,rfl,g,h,t,np,hF⟩,n,pb⟩:=l;have hp:F p:=(hF p).mpr (.inl rfl);refine⟨p,vs,rfl,h,t.lr,g,fun vs' xs' lr=>⟨E.mut (n p hp) g,pb _ (· =p) xs' (MuF.of hp g) (fun q hq=>.inl (by rw[hq];exact hp)) ⟨p,vs',fun _ _=>False,rfl,g,aB,.of lr,fun _ z=>z,fun q=>⟨.inl,fun z=>z.elim id fun⟨_,z⟩=>z.elim⟩⟩⟩⟩
theorem vK{R:Rp β}[Mono R]{mp:Res (List β×(List β->α))}{m:Res β}{mi:Res Int}(E:Ext W0 W)(h:EV Er te σ W (sh R) m)(hp:EV Er tp σ W (Lens W0 C<|oL<|fz R) mp)(hj:EV Er ti σ W (sh isI) mi)(q:(m.bind fun x=>mp.bind fun p=>mi.bind fun j=>(iZ p.1 j x).bind fun b=>.ok<|p.2 b).OkE Er fun a'=>∀W',Same W.G W'.G->Ext W0 W'->Sep W0 W' (C a')->D.nx σ W'.H):
  bI te (xq tp ti rS) D σ W.H:=h W (.refl _) _ ((Bm q).imp fun x kx v W1 e1 hv=>hp W1 e1 _ ((Bm kx).imp fun p kp u W2 e2 l=>hj W2 (e1.trans e2) _ ((Bm kp).imp fun j kj y W3 e3 hy=>by
 cases hy;obtain⟨p0,vs,rfl,hH,lr,hg,back⟩:=Lens.lf (((E.trans e1).trans e2).trans e3) (BR e3 l);obtain⟨n,h3,h4⟩:=dv (Bm (Bm kj));obtain⟨b1,b2⟩:=back (vs.set n v) (p.1.set n x) (lr.set (Bk (R:=R) (e2.trans e3).g hv) n);exact⟨p0,vs,j,n,rfl,rfl,hH,by rw[lr.1];exact h3,h4 (W3.mut p0 (.lst (vs.set n v)) hg) ((e1.trans e2).trans e3).g b1 b2⟩)))
theorem pD{R:Rf β}[FrT R]{m:Res β}{σ':V->St}(S:Sep W0 W cs)(E:Ext W0 W)(h:EVt Er te σ W R m)(q:m.OkE Er fun a=>∀v W',Ext W W'->Sep W0 W' (cs++[tc R a v])->D.nx (σ' v) W'.H)(hσ:∀v,σ.set i (some v)=σ' v:=by intro _;rfl):bI te (aP i) D σ W.H:=h W (.refl _) _ (q.imp fun a k v W' F e hF t=>by have:=k v W' e<|S.add E e hF t;rw[<-hσ]at this;exact this)
theorem kQ{R:Rf β}[FrT R]{m:Res β}{σ':V->St}(S:Sep W0 W cs)(E:Ext W0 W)(h:EVt Er te σ W R m)(q:m.OkE Er fun a=>∀v W',Ext W W'->Sep W0 W' (cs++[tc R a v])->r D (σ' v) W'.H)(hσ:∀v,σ.set i (some v)=σ' v:=by intro _;rfl):fN (bI te<|aP i) r D σ W.H:=pD (D:={D with nx:=r D}) S E h q hσ
theorem lN{R:Rf β}[FrT R]{b:β}{v:V}(S:Sep W0 W cs)(hc:cs[k]? =some (tc R b v))(q:∀F,(∀q,F q->W0.H q=none)->R W F b v->D.rt v W.H)(hi:σ[i]? =some (some v):=by rfl):cq (bD i) D σ W.H:=by
 obtain⟨Fs,s⟩:=S;exact⟨v,hi,q (Fs k) (s.nw k)<|s.el k _ hc⟩
theorem t9{R:Rf β}[FrT R]{xs:List β}{b:β}{v u:V}{k l j:Nat}(S:Sep W0 W cs)(E:Ext W0 W)(hk:cs[k]? =some (tc (oL R) xs v))(hl:cs[l]? =some (tc R b u))(hkl:k≠l)(q:(fP xs b).OkE Er fun ys=>∀W',Same W.G W'.G->Ext W0 W'->Sep W0 W' ((cs.set k<|tc (oL R) ys v).eraseIdx l)->D.nx σ W'.H)(hi:σ[i]? =some (some v):=by rfl)(hj:σ[j]? =some (some u):=by rfl):
  bj (eJ K "list" aI (bD i)<|ak (bD j) aN) D σ W.H:=by
 obtain⟨Fs,s⟩:=S;obtain⟨p,vs,Gs,rfl,g,h,t,np,hF⟩:=(show oL R W (Fs k) xs v from s.el k _ hk)
 have tb:R W (Fs l) b u:=s.el l _ hl;obtain⟨h3,h4⟩:=aW q;have hp:Fs k p:=(hF p).mpr (.inl rfl);have kk:k<cs.length:=(Bw.mp hk).1;have lp:¬Fs l p:=fun z=>hkl<|s.dj k l p hp z;refine⟨_,hi,.inl ⟨rfl,vs,Di h⟩,_,hj,p,vs,u,rfl,rfl,h,by rw[t.len,Cg];unfold Mi.cap at h3;omega,h4 (W.mut p (.lst<|vs++[u]) g) (.refl _) (E.mut (s.nw k p hp) g) ?_⟩;have m1:MuF (· =p) W (W.mut p (.lst<|vs++[u]) g):=MuF.of (F:=(· =p)) rfl g;have key:∀j q,(if j=xs.length then Fs l else Gs j) q->(j=xs.length/\Fs l q)\/(j<xs.length/\Gs j q):=fun j q h=>by
  by_cases z:j=xs.length;·exact .inl ⟨z,by simpa [if_pos z] using h⟩
  ·have h':Gs j q:=by simpa [if_neg z] using h
   exact .inr ⟨t.rng j q h',h'⟩
 refine s.move (F:=fun q=>q=p\/∃j,(if j=xs.length then Fs l else Gs j) q) E (m1.up fun q hq=>.inl (by rw[hq];exact hp)) (fun q hq=>?_) ⟨p,vs++[u],fun j=>if j=xs.length then Fs l else Gs j,rfl,g,aB,⟨by simp[t.len],fun j x y e1 e2=>?_,fun j q hq=>?_,fun j j2 q q1 q2=>?_⟩,fun j hj=>?_,fun q=>HV⟩ kk hkl
 ·rcases hq with rfl | ⟨j,hj⟩
  ·exact .inl hp
  ·rcases key j q hj with⟨_,z⟩ | ⟨_,z⟩
   ·exact .inr<|.inl z
   ·exact .inl<|(hF q).mpr (.inr ⟨j,z⟩)
 ·by_cases z:j< xs.length
  ·rw[BG z]at e1;rw[BG (by rw[t.len];exact z)]at e2;simp only[if_neg (BL z)];exact FrT.mu (t.el j x y e1 e2) m1 fun q a b=>np j<|b▸a
  ·rw[BH (by omega)]at e1;rw[BH (by rw[t.len];omega),t.len]at e2;have z2:j-xs.length=0:=by
    refine CD fun y=>?_;rw[Cb.mpr (by simp;omega)]at e1;cases e1
   rw[z2]at e1 e2;cases e1;cases e2;have z3:j=xs.length:=by omega
   simp only[if_pos z3];exact FrT.mu tb m1 fun q a b=>lp<|b▸a
 ·rw[CS,Ex];rcases key j q hq with⟨a,_⟩|⟨a,_⟩<;>omega
 ·rcases key j q q1 with⟨z1,a⟩ | ⟨z1,a⟩ <;> rcases key j2 q q2 with⟨z2,b⟩ | ⟨z2,b⟩
  ·omega
  ·exact(hkl<|s.dj k l q ((hF q).mpr (.inr ⟨_,b⟩)) a).elim
  ·exact(hkl<|s.dj k l q ((hF q).mpr (.inr ⟨_,a⟩)) b).elim
  ·exact t.dj j j2 q a b
 ·rcases key j p hj with⟨_,z⟩ | ⟨_,z⟩
  ·exact lp z
  ·exact np j z
end
section
variable{Er:Nat->Prop}{α β γ:Type}{K:Br}{W W' W0 W1 W2:Wd}{F F' F1:FS}{cs:List TC}{σ:St}{t ta tb te ti tp:TE}{D:Ends}{i k:Nat}{r:TS}
theorem mX{R:Rf α}:EVt Er (bW aN) σ W (oL R) (.ok []):=fun W1 e1 Q k=>⟨by decide,fun p hp=>k _ (W1.mut p (.lst [])<|W1.gnone hp) (· =p) (.own _ hp) (fun q hq=>by rw[hq];exact hp) ⟨p,[],fun _ _=>False,rfl,W1.gnone hp,aB,⟨rfl,fun i x u h=>by simp at h,fun _ _ z=>z.elim,fun _ _ _ z=>z.elim⟩,fun _ z=>z,fun q=>⟨.inl,fun z=>z.elim id fun⟨_,z⟩=>z.elim⟩⟩⟩
theorem EVt.ev{R:Rf α}[FrT R]{R':Rp α}[FzT R R']{m:Res α}(h:EVt Er t σ W R m):EV Er t σ W (sh R') m:=fun W1 e1 Q k=>h W1 e1 Q (k.imp fun a ka v W2 F e2 hF o=>by
 have s:Sep W1 W2 [tc R a v]:=Sep.add (cs:=[]) (Sep.nil (W0:=W1) (W:=W1)) (.refl _) e2 hF o;obtain⟨W3,hH,e3,_,_,r⟩:=Sep.frz (R:=R) (i:=0) s e2 rfl;rw[<-hH];exact ka v W3 e3 r)
theorem qP{m n:Res Int}(h:EV Er ta σ W (sh isI) m)(g:EV Er tb σ W (sh isI) n):IV Er (wY<|ak ta<|ak tb aN) σ W isI (m.bind fun i=>n.bind fun j=>lM i j):=fun W1 e1 P k=>
 h W1 e1 _ ((Bm k).imp fun a ka v W2 e2 hv=>g W2 (e1.trans e2) _ ((Bm ka).imp fun b kb u W3 e3 hu=>by
  cases hv;cases hu;obtain⟨hb,kn⟩:=aW kb;refine⟨a,b,rfl,hb,kn _ W3 (e2.trans e3) fun W4 e4=>⟨fun i x ha=>?_,by show(b-a).toNat<=(j8 a b).length;simp[j8]⟩⟩;unfold j8 at ha;rw[Bz]at ha;have hi:i<(b-a).toNat:=by
   refine CD fun z=>?_;rw[Cb.mpr (by simp;omega)]at ha;cases ha
  rw[F0 hi]at ha;cases ha;exact⟨hi,fun y H'⟨z1,z2⟩=>⟨W4,z1.symm,.refl _,z2⟩⟩))
end
end Wb
open Wb.EVo renaming tr->Lu
open Wb.FrT renaming lv->Jh,ext->Kz,mu->Ls
open Wb.MuF renaming of->Lr
open Wb.Sep renaming nil->Lj
namespace L2
open PySem PySem.Spec PyProof.Rows
noncomputable def dZ(tg iter:Expr)(ifs:List Expr)(body:Sem Unit)(it:Bs)(env:Env)(c:Code):Sem Fin:=do
 standAt iter.pos
 match <-pyNext it with
 |none=>pure<|.done .next
 |some v=>
  letOwnedTupleGo tg it v
  assign tg env v
  let mut ok:=true
  for c in ifs do
   if ok then ok <-isTrue c env (eval c env)
  if ok then body
  again c
structure CompE(e:Expr):Prop where
 a:∀(A:Ck)(d:Nat)(it acc:Bs)(env:Env),A.under (.compLoop e d it acc env)=A
 b:∀(A:Ck)(d:Nat)(it acc:Bs)(env:Env),A.under (.compStart e d it acc env)=A
 c:∀(prog:BK)(w:BQ)(d:Nat)(it acc:Bs)(env:Env),(model prog w).den (.compLoop e d it acc env)=(compTurn e d it acc env).onRaise (fun x=>do noteFrame x env;theTreesLotGoes x)
 d:∀(prog:BK)(w:BQ)(d:Nat)(it acc:Bs)(env:Env),(model prog w).den (.compStart e d it acc env)=(compStart e d it acc env).onRaise (fun x=>do noteFrame x env;standAt theWindowsPlace)
theorem CompE.set{k:Expr}{gs:List I0}{sc:EI}{pos:Pos}:CompE (.SetComp k gs sc pos):=⟨fun _ _ _ _ _=>rfl,fun _ _ _ _ _=>rfl,fun _ _ _ _ _ _=>rfl,fun _ _ _ _ _ _=>rfl⟩
section
variable{prog:BK}{w:BQ}{A:Ck}{R:J6->Bu->Prop}{s:Bu}
theorem k6{e:Expr}(ce:CompE e){d:Nat}{tg iter:Expr}{ifs:List Expr}{it acc:Bs}{env:Env}{body:Sem Unit}(ht:compTurn e d it acc env=dZ tg iter ifs body it env (.compLoop e d it acc env))(I:Nat->Bu->Prop)
  (turn:∀n s,I n s->wpAny (model prog w) A (pyNext it) (fun r s₁=>match r with
   |none=>R (.ok .next) s₁
   | some v=>wpAny (model prog w) A (letOwnedTupleGo tg it v) (fun _ s₁'=>wpAny (model prog w) A (assign tg env v) (fun _ s₂=>
     wpAny (model prog w) A (forIn ifs true fun c r=>if r=true then do let ok <-isTrue c env (eval c env);pure (DR ok)else pure (DR r)) (fun ok s₃=>
      if ok=true then wpAny (model prog w) A body (fun _ s₅=>∃m,m<n/\I m s₅) (fun _ _=>False) s₃
      else ∃m,m<n/\I m s₃) (fun _ _=>False) s₂) (fun _ _=>False) s₁') (fun _ _=>False) s₁) (fun _ _=>False) s)
  (n:Nat) (h:I n s):codeAny (model prog w) A (.compLoop e d it acc env) R s:=by
 refine codeAny_loop rfl I (fun n s hI=>?_) n h;rw[ce.a,ce.c];refine wpAny_noted ?_;rw[ht];unfold dZ;refine Bl<|E5<|Bl<|CI (turn n s hI) (fun r s₁ h₁=>?_) fun _ _ h'=>h'.elim;cases r with
 |none=>exact Bq h₁
 |some v=>
  refine Bl<|CI h₁ (fun _ s₁' h₁'=>?_) fun _ _ h'=>h'.elim;refine Bl<|CI h₁' (fun _ s₂ h₂=>Bl<|CI h₂ (fun ok s₃ h₃=>?_) fun _ _ h'=>h'.elim) fun _ _ h'=>h'.elim;cases ok with
  |true=>
   rw[if_pos rfl]at h₃;exact Bl<|CI h₃ (fun _ s₄ h₄=>Bq ⟨rfl,h₄⟩) fun _ _ h'=>h'.elim
  |false=>
   rw[if_neg BF]at h₃;exact Bq ⟨rfl,h₃⟩
theorem gC{e:Expr}(ce:CompE e){d:Nat}{g:I0}{it acc:Bs}{env:Env}(hg:(clausesOf e)[d]? =some g)(ha:g.is_async=0)
  (h0:codeAny (model prog w) A (.compLoop e d it acc env) R s)
  (h:wpAny (model prog w) A (pyIter it) (fun it' s'=>codeAny (model prog w) A (.compLoop e d it' acc env) R s') (notedBy (model prog w) A env fun x s'=>R (.error x) s') s):
  codeAny (model prog w) A (.compStart e d it acc env) R s:=by
 refine Hs ?_;rw[ce.b,ce.d];refine wpAny_notedAt ?_;unfold compStart;rw[hg];simp only[Option.elim_some,ha,bne_self_eq_false,C6,if_false];refine Bl<|DU<|wpAny_ite ?_;split
 ·first
   |exact Bl<|Bq<|Bq<|J9 rfl h0
   |exact Bq<|J9 rfl h0
 ·first
   |exact Bl<|FD<|Bl<|E5<|Bl<|CI h (fun it' s' h'=>Bq<|J9 rfl h') fun _ _ x=>x
   |(refine Bl<|FD ?_;exact Bl<|E5<|Bl<|CI h (fun it' s' h'=>Bq<|J9 rfl h') fun _ _ x=>x)
end
noncomputable def vL(iter:Expr)(e:Expr)(d:Nat)(env:Env)(acc:Bs):Sem Unit:=do
        let x <-eval iter env
        standAt iter.pos
        let x <-foldedSetIterable iter env x
        let _ <-runOwn (.compStart e d (<-holding [x] (pyIter x)) acc env) env
abbrev TB:=Addr->St->Hp->(Hp->Prop)->Prop
def PB(Y:Cx)(body:Bs->Sem Unit)(tb:TB):Prop:=∀(D:Addr)(pins:List (Addr×Obj))(s:Bu)(σ:St)(H:Hp)(N:Hp->Prop),Inv Y pins σ H s->tb D σ H N->
 wpAny (model Y.prog Y.w) Y.A (body<|.ref D) (fun _ s'=>∃σ' H',Inv Y pins σ' H' s'/\(∀(j:Nat)(v:V),σ[j]? =some (some v)->σ'[j]? =some (some v))/\N H') (fun _ _=>False) s
def tj(g:TG)(tf:TT)(tb:TB)(D:Addr)(σ:St)(H1:Hp)(N:Hp->Prop)(J:It):Prop:=∃W:Nat->Nat->Hp->Prop,(∃m,W 0 m H1)/\∀i m H,W i m H->
 ((J.stop i H/\N H)\/(J.go i H/\∃M:Hp->Prop,(∀H',M H'->∃m',m'<m/\W (i+1) m' H')/\∀x H',J.yld i H x H'->g x σ H' fun σ2 H2=>Keep σ σ2/\tf σ2 H2 fun b H3=>if b=true then tb D σ2 H3 M else M H3))
def xP(wi:TI)(g:TG)(tf:TT)(tb:TB):TB:=fun D σ H N=>wi σ H fun J H1=>tj g tf tb D σ H1 N J
section
variable{Y:Cx}{tg iter elt kx vx:Expr}{ifs:List Expr}{g:TG}{tf:TT}{tb:TB}{body:Bs->Sem Unit}{te tk tv:TE}{wi:TI}
theorem mY(hc:Y.calm=true)(hxe:Y.xe=fun _ _=>False)(hg:PG Y tg g)(hf:sk Y ifs tf)(hb:PB Y body tb){e:Expr}(ce:CompE e){d:Nat}{it:Addr}{fp:List Addr}{tn:Nat->Heap->Prop}{J:It}(T:Turn Y.prog Y.w Y.K tg J fp it tn)
  {pins:List (Addr×Obj)} {s:Bu} {σ:St} {H:Hp} {D:Addr} {N:Hp->Prop} {R:J6->Bu->Prop} (I:Inv Y pins σ H s) (st:tn 0 s.heap) (f:∀b∈fp,FpOk Y pins H b) (w:tj g tf tb D σ H N J)
  (ht:compTurn e d (.ref it) (.ref D) Y.env=dZ tg iter ifs (body<|.ref D) (.ref it) Y.env (.compLoop e d (.ref it) (.ref D) Y.env))
  (fin:∀σ' H' s',Inv Y pins σ' H' s'->(∀(j:Nat)(v:V),σ[j]? =some (some v)->σ'[j]? =some (some v))->N H'->R (.ok .next) s'):
  codeAny (model Y.prog Y.w) Y.A (.compLoop e d (.ref it) (.ref D) Y.env) R s:=by
 obtain⟨W,⟨m0,w0⟩,turn⟩:=w;have stat:∀{H':Hp},(∀b∈fp,H' b=none)->∀b∈fp,FpOk Y pins H' b:=fun hn b hb=>⟨hn b hb,(f b hb).2⟩
 refine k6 ce ht (fun n s'=>∃i σ' H',Inv Y pins σ' H' s'/\tn i s'.heap/\(∀b∈fp,H' b=none)/\(∀(j:Nat)(v:V),σ[j]? =some (some v)->σ'[j]? =some (some v))/\W i n H') ?_ m0 ⟨0,σ,H,I,st,fun b hb=>(f b hb).1,fun _ _ e=>e,w0⟩;rintro n s3 ⟨i,σ3,H3,I3,st3,fr3,kp,w3⟩;rcases turn i n H3 w3 with⟨stop,qn⟩|⟨go,M,hM,step⟩
 ·refine cm (T.done Y rfl rfl rfl hc i pins s3 σ3 H3 _ I3 (stat fr3) st3 stop) fun r s4 zz=>?_;obtain⟨hr,I4⟩:=zz;subst hr;exact fin σ3 H3 s4 I4 kp qn
 ·have I3':Inv Y pins σ H3 s3:=I3.weak (by rw[I3.len,I.len]) kp;refine cm (T.item Y rfl rfl rfl hc i pins s3 σ H3 _ I3' (stat fr3) st3 go) fun r s4 zz=>?_;obtain⟨u,hr,h4⟩:=zz;subst hr;refine cm h4 fun _ s5 zz=>?_;obtain⟨x,H5,I5,r5,y5,st5,fr5⟩:=zz;have I5':=I5.pinned (stat fr5)<|T.obj _ _ st5;have hg':=hg _ s5 σ H5 x u _ I5' r5<|step x H5 y5;rw[hxe]at hg';refine cm hg' fun _ s6 zz=>?_;obtain⟨σ6,H6,I6,kp6,q6⟩:=zz;have hf':=hf _ s6 σ6 H6 _ I6 q6;rw[hxe]at hf';refine cm hf' fun ok s7 zz=>?_;obtain⟨H7,I7,q7⟩:=zz;have again:∀{s8:Bu}{σ7:St}{H7:Hp},Inv Y (pins++ir fp s5.heap) σ7 H7 s8->(∀(j:Nat)(v:V),σ6[j]? =some (some v)->σ7[j]? =some (some v))->M H7->∃m,m<n/\∃i σ' H',Inv Y pins σ' H' s8/\tn i s8.heap/\(∀b∈fp,H' b=none)/\(∀(j:Nat)(v:V),σ[j]? =some (some v)->σ'[j]? =some (some v))/\W i m H':=fun{s8 σ7 H7}I7 k7 n7=>by
   obtain⟨m',hm,w7⟩:=hM H7 n7;refine⟨m',hm,i+1,σ7,H7,I7.unpinned,T.keep _ _ _ st5 fun b hb o e=>(I7.pin (b,o)<|C2 _<|C2 _<|eM hb e).1,fun b hb=>?_,fun j v e=>k7 j v<|Keep.get kp6 e,w7⟩;obtain⟨o,e,d⟩:=T.obj _ _ st5 b hb;exact(I7.pin (b,o)<|C2 _<|C2 _<|eM hb e).2.1
  cases ok with
  |false=>
   rw[if_neg BF]at q7 ⊢;exact again I7 (fun _ _ e=>e) q7
  |true=>
   rw[if_pos rfl]at q7 ⊢;refine cm (hb D _ s7 σ6 H7 _ I7 q7) fun _ s8 zz=>?_;obtain⟨σ8,H8,I8,k8,q8⟩:=zz;exact again I8 k8 q8
theorem xQ(hc:Y.calm=true)(hxe:Y.xe=fun _ _=>False)(hi:PI Y tg iter wi)(hg:PG Y tg g)(hf:sk Y ifs tf){body:Env->Bs->Sem Unit}(hb:PB Y (body Y.env) tb){e:Expr}(ce:CompE e){d:Nat}(hcl:(clausesOf e)[d]? =some ⟨tg,iter,ifs,0⟩)
  (ht:∀env it acc,compTurn e d it acc env=dZ tg iter ifs (body env acc) it env (.compLoop e d it acc env):=by intro _ _ _;rfl) (hs:∀x,foldedSetIterable iter Y.env x=pure x:=by intro _;rfl):
  PB Y (vL iter e d Y.env) (xP wi g tf tb):=by
 intro D pins s σ H N I h;have hi':=hi pins s σ H _ I h;rw[hxe]at hi';refine Bl<|cm hi' fun v s1 h1=>Bl<|E5<|Bl<|GG (hs v)<|Bl<|Cz<|cm h1 fun itv s2 h2=>?_;obtain⟨it,fp,tn,J,H2,rfl,I2,T,st2,f2,w⟩:=h2;have lp:codeAny (model Y.prog Y.w) Y.A (.compLoop e d (.ref it) (.ref D) Y.env) (fun r s'=>match r with| .ok f=>(∃σ' H',Inv Y pins σ' H' s'/\(∀(j:Nat)(v:V),σ[j]? =some (some v)->σ'[j]? =some (some v))/\N H')| .error x=>cameBackBy (model Y.prog Y.w) Y.A Y.env (fun _ _=>False) x s') s2:=
  mY hc hxe hg hf hb ce T I2 st2 f2 w (ht _ _ _) fun σ' H' s' I' k' n'=>⟨σ',H',I',k',n'⟩
 refine Bl<|wpAny_runOwn<|gC ce hcl rfl ?_ ?_
 ·exact EU lp fun r s' h=>by
   cases r with
   |ok f=>exact Bq h
   |error x=>exact h
 ·refine T.self _ 0 _ _ _ st2 (EU lp fun r s' h=>by
   cases r with
   |ok f=>exact Bq h
   |error x=>exact h)
end
section
variable{X:Cx}{scope:EI}{N:List Str}{cap:List (Option Nat)}{tg iter:Expr}{ifs:List Expr}{pos:Pos}{wi:TI}{g:TG}{tf:TT}{tb:TB}{body:Env->Bs->Sem Unit}
theorem qQ{pins:List (Addr×Obj)}{σ σ':St}{H2 H':Hp}{s2 s':Bu}{fp:List Addr}{C:Addr}{h':Heap}(I2:Inv X pins σ H2 s2)(f2:∀b∈fp,FpOk X pins H2 b)
  (hC:s2.heap.objs.size<=C) (I':Inv (aK X scope N s2 H2 C fp) [] σ' H' s') (hs:BO C s'.heap h'):Inv X pins σ H' {s' with heap:=h'}:=by
 have nC:H' C=none:=I'.free;have lt2:∀b o,s2.heap.get? b=some o->b≠C:=fun b o e=>BL<|BE (BA e) hC;have hk:∀b o,b≠C->s'.heap.get? b=some o->h'.get? b=some o:=fun b o hb e=>(hs.2 b hb).trans e;have B:Un (frs X.stack) fp H2 H' s2.heap s'.heap:=I'.base;have tr:∀b u,H' b=some u->b≠C:=fun b u e z=>by rw[z,nC]at e;cases e
 refine I2.call' (ch:=fp) I'.os ⟨fun b o e n hb hx=>?_,fun b o e n hb hx=>?_,fun b o e n hx=>?_,fun b o e hx=>?_,fun b xs e=>?_,fun b o u e=>?_,fun b ps e=>?_⟩ (fun b u e=>?_) I'.bare fun b hb=>⟨(f2 b hb).2.2.2.1,(f2 b hb).2.1,(f2 b hb).2.2.2.2.1,(f2 b hb).2.2.2.2.2⟩
 ·exact hk b o (lt2 b o e)<|B.keep b o e n hb hx
 ·obtain⟨sl,q⟩:=B.slot b o e n hb hx;exact⟨sl,hk b _ (lt2 b o e) q⟩
 ·exact B.free b o e n hx
 ·obtain⟨o',q⟩:=B.there b o e hx;exact⟨o',hk b _ (lt2 b o e) q⟩
 ·exact B.tups b xs e
 ·exact B.frzs b o u e
 ·exact B.tbls b ps e
 ·refine(I'.hok b u e).stay (fun c w' hc q=>hk c w' ?_ q) (fun c q=>q) fun c xs q=>q;rcases hc with z|z
  ·rw[z];exact tr b u e
  ·exact tr c _ z
theorem o9(S:CompScope X scope N cap)(hc:X.calm=true){e:Expr}(ce:CompE e)(hcl:(clausesOf e)[0]? =some ⟨tg,iter,ifs,0⟩)
    (hg:∀s H C fp,PG (aK X scope N s H C fp) tg g) (hf:∀s H C fp,sk (aK X scope N s H C fp) ifs tf) (hb:∀s H C fp,PB (aK X scope N s H C fp) (body (aK X scope N s H C fp).env) tb)
    (ht:∀env it acc,compTurn e 0 it acc env=dZ tg iter ifs (body env acc) it env (.compLoop e 0 it acc env))
    {pins:List (Addr×Obj)} {σ:St} {H3:Hp} {s3:Bu} {it D:Addr} {fp:List Addr} {tn:Nat->Heap->Prop} {J:It} {Qv:Hp->Prop} {E:Bs->Bu->Prop} {RR:Addr->J6->Bu->Prop}
    (I3:Inv X pins σ H3 s3) (T:Turn X.prog X.w X.K tg J fp it tn) (st3:tn 0 s3.heap) (f3:∀b∈fp,FpOk X pins H3 b) (w:tj g tf tb D (bF cap σ) H3 Qv J)
    (fin:∀(C:Addr)(σ':St)(H':Hp)(s':Bu),s3.heap.objs.size<=C->Inv (aK X scope N s3 H3 C fp) [] σ' H' s'->Qv H'->RR C (.ok .next) s'):
    wpAny (model X.prog X.w) X.A (newFunctionEnv scope X.env.globals (bY X.env scope.names []) [] X.env.qual none .none<|some X.env) (fun cenv s₄=>
      codeAny (model X.prog X.w) X.A (.compStart e 0 (.ref it) (.ref D) {cenv with scope:=relabel scope X.env}) (RR cenv.locals) s₄) E s3:=by
  refine jj ?_;generalize hC:s3.heap.objs.size=C;generalize hH4:pushCells (s3.heap.push {cls:=.type "dict",data:=.dict #[]}) scope.names=h4;have hz3':(s3.heap.push {cls:=.type "dict",data:=.dict #[]}).objs.size=C+1:=by rw[Ci,hC]
  have ck:Kw h4 (C+1) (cellsFrom (C+1) scope.names []):=by
    have:=cellsFrom_ok scope.names (s3.heap.push {cls:=.type "dict",data:=.dict #[]}) (C+1) [] ⟨fun _ _ hm=>(nomatch hm),EC⟩ (by rw[hz3'];exact BD _);rw[hz3',hH4]at this;exact this
  have k34:∀b o,s3.heap.get? b=some o->h4.get? b=some o:=fun b o e=>by rw[<-hH4];exact FW _ _ b o<|Bp _ e
  have hn4:h4.Ns C fun _=>none:=by
    rw[<-hH4,<-hC];exact(KO s3.heap<|.type "dict").keeps (FW _ _)
  have hlt:∀b∈fp,b<C:=fun b hb=>by
    obtain⟨o,e,_⟩:=T.obj _ _ st3 b hb;rw[<-hC];exact BA e
  have hCs:s3.heap.objs.size<=C:=by rw[hC];exact BD _
  have IC:Inv (aK X scope N s3 H3 C fp) [] (bF cap σ) H3 {s3 with heap:=h4}:=
    jk S I3 hCs ck f3 hlt ⟨_,_,rfl⟩ hn4 fun b o e=>k34 b o e
  have okC:=IC.ok;have fO:∀b∈fp,FpOk (aK X scope N s3 H3 C fp) [] H3 b:=fun b hb=>
    ⟨(f3 b hb).1,BL<|hlt b hb,okC.exfs b hb,.inl hb,(okC.exf b hb).2,fun p hp=>by
      have:p∈([]:List (Addr×Obj)):=hp;cases this⟩
  have st4:tn 0 h4:=T.keep _ _ _ st3 fun b hb o e=>k34 b o e;have loop:codeAny (model X.prog X.w) X.A (.compLoop e 0 (.ref it) (.ref D) (aK X scope N s3 H3 C fp).env) (RR C) {s3 with heap:=h4}:=
    mY (Y:=aK X scope N s3 H3 C fp) hc rfl (hg _ _ _ _) (hf _ _ _ _) (hb _ _ _ _) ce T IC st4 fO w (ht _ _ _) fun σ' H' s' I' _ q=>fin C σ' H' s' hCs I' q
  exact gC ce hcl rfl loop<|T.self _ 0 _ _ _ st4 loop
theorem qR{it acc:Bs}{env:Env}{e iter2:Expr}{d:Nat}{c:Code}:dZ tg iter ifs (vL iter2 e d env acc) it env c=(do
 standAt iter.pos
 match <-pyNext it with
 |none=>pure (.done .next)
 |some v=>
  letOwnedTupleGo tg it v
  assign tg env v
  let mut ok:=true
  for c in ifs do
   if ok then ok <-isTrue c env (eval c env)
  if ok then
    let x <-eval iter2 env
    standAt iter2.pos
    let x <-foldedSetIterable iter2 env x
    let _ <-runOwn (.compStart e d (<-holding [x] (pyIter x)) acc env) env
  again c):=by
 unfold dZ vL;simp only[JI,pure_bind]
 all_goals rfl
variable{kx vx elt tg2 iter2 tg3 iter3:Expr}{ifs2 ifs3:List Expr}{wi2 wi3:TI}{g2 g3:TG}{tf2 tf3:TT}{te tk tv:TE}{mk:HO}
end
end L2
open L2.CompE renaming set->Lq
namespace Wb
open PySem L2 Mi
section
variable{Er:Nat->Prop}{α β γ S:Type}{K:Br}{W W' W0 Wb W1 W2:Wd}{σ:St}{t ta tb te ti tk tv:TE}{i:Nat}{O:Wd->Addr->S->Prop}
theorem zj{t:TB}{D:Addr}{H:Hp}{M:Hp->Prop}(h:t D σ H M):vq σ H fun b H3=>if b=true then t D σ H3 M else M H3:=by
 show(if true=true then t D σ H M else M H);rw[if_pos rfl];exact h
def BV(Er:Nat->Prop)(t:TB)(σ:St)(Wb W:Wd)(O:Wd->Addr->S->Prop)(D:Addr)(m:S->Res S):Prop:=∀W1 s(N:Hp->Prop),Ext W W1->O W1 D s->(m s).OkE Er (fun s'=>∀W',Same W1.G W'.G->Ext Wb W'->O W' D s'->N W'.H)->t D σ W1.H N
theorem pE{R:Rp α}{J:It}{xs:List α}{g:TG}{tf:TT}{t:TB}{f:α->S->Res S}{D:Addr}{N:Hp->Prop}{s0:S}(hy:Yl J W R xs)(h0:Ext W W1\/Same W.G W1.G)(eb:Ext Wb W1)(o:O W1 D s0)
  (hs:∀W2 a v s(M:Hp->Prop),Same W.G W2.G->Ext Wb W2->O W2 D s->R W2.G a v->(f a s).OkE Er (fun s'=>∀W',Same W2.G W'.G->Ext Wb W'->O W' D s'->M W'.H)->g v σ W2.H fun σ2 H2=>Keep σ σ2/\tf σ2 H2 fun b H3=>if b=true then t D σ2 H3 M else M H3)
  (mono:∀W W' s,Ext W W'->O W D s->O W' D s)
  (k:(bQ f xs s0).OkE Er fun s'=>∀W',Same W.G W'.G->Ext Wb W'->O W' D s'->N W'.H):tj g tf t D σ W1.H N J:=by
 have hs1:Same W.G W1.G:=h0.elim (fun e=>e.g) id;refine⟨fun i n H=>n=xs.length-i/\i<=xs.length/\∃(W3:Wd)(s:S),W3.H=H/\Same W.G W3.G/\Ext Wb W3/\O W3 D s/\(bQ f (xs.drop i) s).OkE Er fun s'=>∀W',Same W.G W'.G->Ext Wb W'->O W' D s'->N W'.H,⟨xs.length,by simp,by simp,W1,s0,rfl,hs1,eb,o,by simpa using k⟩,?_⟩;rintro i n H ⟨rfl,hi1,W3,s,rfl,e3,eb3,o3,q⟩;by_cases hlt:i<xs.length
 ·obtain⟨a,ha⟩:∃a,xs[i]? =some a:=⟨xs[i],by simp[hlt]⟩
  obtain⟨h1,h2⟩:=(hy W3 e3).1 i a ha;refine .inr ⟨h1,fun H'=>∃(W3:Wd)(s:S),W3.H=H'/\Same W.G W3.G/\Ext Wb W3/\O W3 D s/\(bQ f (xs.drop<|i+1) s).OkE Er fun s'=>∀W',Same W.G W'.G->Ext Wb W'->O W' D s'->N W'.H,fun H' z=>⟨xs.length-(i+1),by omega,rfl,hlt,z⟩,fun x H' hx=>?_⟩;obtain⟨W4,rfl,e4,rx⟩:=h2 x H' hx;rw[kN ha]at q;exact hs W4 a x s _ (e3.trans e4.g) (eb3.trans e4) (mono _ _ _ e4 o3) rx<|(Bm q).imp fun s' ks W' z1 z2 z3=>⟨W',s',rfl,(e3.trans e4.g).trans z1,z2,z3,ks⟩
 ·have e:i=xs.length:=by omega
  subst e;rw[Eh]at q;exact .inl ⟨(hy W3 e3).2,q W3 e3 eb3 o3⟩
theorem xR{R:Rp α}{wi:TI}{g:TG}{tf:TT}{t:TB}{mi:Res (List α)}{f:α->S->Res S}{D:Addr}(eb:Ext Wb W)(hi:IV Er wi σ W R mi)(mono:∀W W' s,Ext W W'->O W D s->O W' D s)
  (hs:∀W2 a v s(M:Hp->Prop),Same W.G W2.G->Ext Wb W2->O W2 D s->R W2.G a v->(f a s).OkE Er (fun s'=>∀W',Same W2.G W'.G->Ext Wb W'->O W' D s'->M W'.H)->g v σ W2.H fun σ2 H2=>Keep σ σ2/\tf σ2 H2 fun b H3=>if b=true then t D σ2 H3 M else M H3):
  BV Er (xP wi g tf t) σ Wb W O D (fun s=>mi.bind fun xs=>bQ f xs s):=fun W1 s N e1 o k=>
 hi W1 e1 _ ((Bm k).imp fun xs kx J W2 e2 hy=>pE (W:=W2) (Wb:=Wb) hy (.inl<|.refl _) ((eb.trans e1).trans e2) (mono _ _ _ e2 o) (fun W3 a v s M e3 eb3 o3 r k3=>hs W3 a v s M ((e1.trans e2).g.trans e3) eb3 o3 r k3) mono<|kx.imp fun s' ks W' z1 z2 z3=>ks W' (e2.g.trans z1) z2 z3)
end
end Wb
namespace Mi
end Mi
namespace Wb
open PySem L2 Mi
end Wb
namespace Mi
end Mi
namespace Wb
open PySem L2 Mi
section
open PyProof PyProof.Rows
variable{X:Cx}{pos:Pos}
end
end Wb
namespace Mi
end Mi
namespace Wb
open PySem L2 Mi
end Wb
namespace Mi
end Mi
namespace Wb
open PySem L2 Mi
end Wb
namespace L2
open PySem PySem.Spec PyProof.Rows
end L2
namespace L2
open PySem PySem.Spec PyProof.Rows Builtin Builtin.ObjectAttr
open PySem.W (findIn findObj mroIn looks_findIn looks_find looks_mroIn looks_clsIn clsIn Frag InstAt Looks)
end L2
namespace L2
open PySem PySem.Spec PySem.Calls PyProof.Rows
open PySem.W (findIn findObj mroIn looks_findIn looks_find looks_mroIn class_get KitX clsIn Frag InstAt lookIn)
def XO(a:Addr)(o:Obj):HO:=.ext fun h=>h.get? a=some o
section
variable{P:BK}{w:BQ}{H:Hp}{h:Heap}{a d:Addr}{o:Obj}{fs:List (Str×V)}{mA:Str->Option Bs}
theorem XO.ok(e:h.get? a=some o):ObjOk P w H h a (XO a o):=⟨e,⟨_,e⟩,fun _ _ p k=>k _ p⟩
end
end L2
open L2.XO renaming ok->Lk
namespace L2
open PySem PySem.Spec PySem.Calls PyProof.Rows
open PySem.W (findIn findObj clsIn Frag InstAt lookIn)
end L2
namespace Mi
end Mi
namespace Wb
open PySem L2 Mi
section
variable{Er:Nat->Prop}{α β:Type}{W W':Wd}{σ:St}{K:Br}
theorem TL.snoc{R:Rf α}[FrT R]{Fs:Nat->FS}{F:FS}{xs:List α}{vs:List V}{x:α}{u:V}(t:TL R W Fs xs vs)(e:Ext W W')(r:R W' F x u)(hn:∀q,F q->W.H q=none):TL R W' (fun j=>if j=xs.length then F else Fs j) (xs++[x]) (vs++[u]):=by
 have key:∀j q,(if j=xs.length then F else Fs j) q->(j=xs.length/\F q)\/(j<xs.length/\Fs j q):=fun j q h=>by
  by_cases z:j=xs.length;·exact .inl ⟨z,by simpa [if_pos z] using h⟩
  ·have h':Fs j q:=by simpa [if_neg z] using h
   exact .inr ⟨t.rng j q h',h'⟩
 refine⟨by simp[t.len],fun i y w h1 h2=>?_,fun i q h=>?_,fun i j q h1 h2=>?_⟩
 ·by_cases z:i< xs.length
  ·rw[BG z]at h1;rw[BG (by rw[t.len];exact z)]at h2;simp only[if_neg (BL z)];exact Kz (t.el i y w h1 h2) e
  ·rw[BH (by omega)]at h1;rw[BH (by rw[t.len];omega),t.len]at h2;have z2:i-xs.length=0:=by
    refine CD fun y=>?_;rw[Cb.mpr (by simp;omega)]at h1;cases h1
   rw[z2]at h1 h2;cases h1;cases h2;simp only[if_pos (show i=xs.length by omega)];exact r
 ·rw[CS,Ex];rcases key i q h with⟨a,_⟩|⟨a,_⟩<;>omega
 ·rcases key i q h1 with⟨z1,a⟩ | ⟨z1,a⟩ <;> rcases key j q h2 with⟨z2,b⟩ | ⟨z2,b⟩
  ·omega
  ·obtain⟨_,_,_,_,rr⟩:=t.at2 b;exact absurd (hn q a) (Jh rr q b).2
  ·obtain⟨_,_,_,_,rr⟩:=t.at2 a;exact absurd (hn q b) (Jh rr q a).2
  ·exact t.dj i j q a b
theorem TL.ext{R:Rf α}[FrT R]{Fs:Nat->FS}{xs:List α}{vs:List V}(t:TL R W Fs xs vs)(e:Ext W W'):TL R W' Fs xs vs:=⟨t.len,fun i x u a b=>Kz (t.el i x u a b) e,t.rng,t.dj⟩
theorem mZ{cap:List (Option Nat)}{wi:TI}{g:TG}{te:TE}{R:Rp α}{R':Rf β}[FrT R']{m:Res (List α)}{f:α->Res β}(hi:IV Er wi σ W R m)
  (hb:∀(W1:Wd)(a:α)(v:V),Ext W W1->R W1.G a v->∀Q:VK,(f a).OkE Er (fun b=>∀u W2 F,Ext W1 W2->(∀q,F q->W1.H q=none)->R' W2 F b u->Q u W2.H)->g v (bF cap σ) W1.H fun σ2 H2=>Keep (bF cap σ) σ2/\te σ2 H2 Q):
  EVt Er (mI cap wi g vq te) σ W (oL R') (m.bind fun xs=>eE xs f):=fun W1 e1 Q k=>by
 refine hi W1 e1 _<|(Bm k).imp fun xs kx J W2 e2 hy=>?_;obtain⟨hl,kx⟩:=aW<|Bm kx;refine⟨fun i n ys H=>n=xs.length-i/\i<=xs.length/\ys.length<=i/\∃(W3:Wd)(bs:List β)(Fs:Nat->FS),W3.H=H/\Ext W2 W3/\TL R' W3 Fs bs ys/\(∀i q,Fs i q->W2.H q=none)/\(gX f<|xs.drop i).OkE Er (fun r=>∀v W4 F,Ext W1 W4->(∀q,F q->W1.H q=none)->oL R' W4 F (bs++r) v->Q v W4.H),⟨xs.length,by simp,by simp,by simp,W2,[],fun _ _=>False,rfl,.refl _,⟨rfl,fun i x u h=>by simp at h,fun _ _ z=>z.elim,fun _ _ _ z=>z.elim⟩,fun _ _ z=>z.elim,?_⟩,?_⟩;·simpa using kx
 ·rintro i n ys H ⟨rfl,hi1,hyl,W3,bs,Fs,rfl,e3,lr,fr,q⟩;refine⟨by rw[Cg];unfold Mi.cap at hl;omega,?_⟩;by_cases hlt:i<xs.length
  ·obtain⟨a,ha⟩:∃a,xs[i]? =some a:=⟨xs[i],by simp[hlt]⟩
   obtain⟨h1,h2⟩:=(hy W3 e3.g).1 i a ha;refine .inr ⟨h1,fun ys' H'=>ys'.length<=i+1/\∃(W3:Wd)(bs:List β)(Fs:Nat->FS),W3.H=H'/\Ext W2 W3/\TL R' W3 Fs bs ys'/\(∀i q,Fs i q->W2.H q=none)/\(gX f<|xs.drop<|i+1).OkE Er (fun r=>∀v W4 F,Ext W1 W4->(∀q,F q->W1.H q=none)->oL R' W4 F (bs++r) v->Q v W4.H),fun ys' H'⟨z1,z2⟩=>⟨xs.length-(i+1),by omega,rfl,hlt,z1,z2⟩,fun x H' hx=>?_⟩;obtain⟨W4,rfl,e4,rx⟩:=h2 x H' hx;rw[kM ha]at q;have:=hb W4 a x (e1.trans<|(e2.trans e3).trans e4) rx (fun y H4=>(ys++[y]).length<=i+1/\∃(W3:Wd)(bs:List β)(Fs:Nat->FS),W3.H=H4/\Ext W2 W3/\TL R' W3 Fs bs (ys++[y])/\(∀i q,Fs i q->W2.H q=none)/\(gX f<|xs.drop<|i+1).OkE Er (fun r=>∀v W4 F,Ext W1 W4->(∀q,F q->W1.H q=none)->oL R' W4 F (bs++r) v->Q v W4.H))
    ((Bm q).imp fun b kb u W5 F5 e5 hF5 hu=>⟨by simp;exact hyl,W5,bs++[b],_,rfl,(e3.trans e4).trans e5,(lr.ext e4).snoc e5 hu hF5,fun j q hq=>?_,(Bm kb).imp fun r kr=>by rw[Du];exact kr⟩)
   ·exact this
   ·by_cases z:j=bs.length
    ·simp only[if_pos z]at hq;exact none_of (e3.trans e4).h (hF5 q hq)
    ·simp only[if_neg z]at hq;exact fr j q hq
  ·have e:i=xs.length:=by omega
   subst e;rw[Eh]at q;refine .inl ⟨(hy W3 e3.g).2,fun D hD=>?_⟩;have e13:=e2.trans e3;refine q (.ref D) (W3.mut D (.lst ys)<|W3.gnone hD) (fun q=>q=D\/∃i,Fs i q) (e13.trans<|.own _ hD) (fun q hq=>?_) ⟨D,ys,Fs,rfl,W3.gnone hD,aB,by rw[DP];exact lr.ext<|.own _ hD,fun i z=>?_,fun q=>HV⟩
   ·rcases hq with z | ⟨i,z⟩
    ·rw[z];exact none_of e13.h hD
    ·exact none_of e2.h<|fr i q z
   ·obtain⟨_,_,_,_,rr⟩:=lr.at2 z;exact(Jh rr D z).2 hD
end
end Wb
namespace Mi
end Mi
namespace L2
open PySem PySem.Spec PyProof.Rows PySem.SeqAt PySem.AutoSeq1 PySem.MeetsSeq
end L2
namespace Wb
open PySem L2 Mi
end Wb
namespace Mi
def xS(a b:Int×Int):Bool:=decide (a.1<b.1)||(decide (a.1=b.1)&&decide (a.2<=b.2))
theorem i4{a b:Int×Int}:xS a b=true↔a.1<b.1\/(a.1=b.1/\a.2<=b.2):=by unfold xS;simp
def dw(xs:List (Int×Int)):List (Int×Int):=xs.mergeSort xS
theorem dz(xs:List (Int×Int)):(dw xs).Perm xs:=HW _ _
theorem jD(xs:List (Int×Int)):(dw xs).Pairwise (fun a b=>xS a b=true):=
 GX (le:=xS) (fun a b c h1 h2=>by rw[i4]at *;omega) (fun a b=>by simp only[Jq,i4];omega) xs
theorem gQ{xs ys:List (Int×Int)}(h:ys.Perm xs)(hs:ys.Pairwise (fun a b=>xS a b=true)):ys=dw xs:=
 GP (le:=fun a b=>xS a b=true) (fun a b _ _ h1 h2=>by rw[i4]at *;exact GY (by omega) (by omega)) hs (jD xs) (h.trans (dz xs).symm)
def qS(ks:List (Int×Int))(k:Int×Int):Res (List<|Int×Int):=dF (ks.length<1000) (if k∈ks then ks else k::ks)
def tm(ks:List (Int×Int)):Res (List<|Int×Int):=dF (ks.length<=63)<|dw ks
end Mi
namespace Wb
open PySem
theorem jE{xs:Array Nat}{j:Nat}(up:∀a b,a<b->b<xs.size->xs.getD a 0<xs.getD b 0):∀(f lo hi:Nat),hi-lo<=f->lo<=hi->hi<=xs.size->(∀a,a<lo->xs.getD a 0<j)->(∀a,hi<=a->a<xs.size->j<=xs.getD a 0)->
  ED xs j f lo hi<=xs.size/\(∀a,a<ED xs j f lo hi->xs.getD a 0<j)/\(∀a,ED xs j f lo hi<=a->a<xs.size->j<=xs.getD a 0)
 |0,lo,hi,h,hl,hs,h1,h2=>by
  unfold ED;exact⟨by omega,h1,fun a ha=>h2 a (by omega)⟩
 |f+1,lo,hi,h,hl,hs,h1,h2=>by
  unfold ED;by_cases z:lo<hi
  ·rw[if_pos z];have hm:(lo+hi)/2<hi:=by omega
   have hm2:lo<=(lo+hi)/2:=by omega
   have e:∀d d':Nat,xs.getD ((lo+hi)/2) d=xs.getD ((lo+hi)/2) d':=fun d d'=>by
    simp[DV,show(lo+hi)/2<xs.size by omega]
   dsimp only;generalize hM:(lo+hi)/2=m at*
   by_cases y:xs.getD m j<j
   ·rw[if_pos y];refine jE up f (m+1) hi (by omega) (by omega) hs (fun a ha=>?_) h2;by_cases q:a=m;·subst q;rw[e 0 j];exact y
    ·have:=up a m (by omega) (by omega);rw[e 0 j]at this;omega
   ·rw[if_neg y];refine jE up f lo m (by omega) hm2 (by omega) h1<|fun a ha hb=>?_;by_cases q:a=m;·subst q;rw[e 0 j];omega
    ·have:=up m a (by omega) hb;rw[e 0 j]at this;omega
  ·rw[if_neg z];exact⟨by omega,h1,fun a ha=>h2 a (by omega)⟩
def Up(xs:Array Nat):Prop:=∀a b,a<b->b<xs.size->xs.getD a 0<xs.getD b 0
theorem i5{xs:Array Nat}(up:Up xs)(j:Nat):CV xs j<=xs.size/\(∀a,a<CV xs j->xs.getD a 0<j)/\(∀a,CV xs j<=a->a<xs.size->j<=xs.getD a 0):=by
 unfold CV;exact jE up xs.size 0 xs.size (by omega) (by omega) (by omega) (fun a ha=>by omega) (fun a ha hb=>by omega)
abbrev Pr:=SetTable.Probe
def fR(mask:Nat)(p:Pr):Pr:=if p.more>0 then {p with j:=p.j+1,more:=p.more-1} else {p with j:=(C3 mask p.i p.perturb).1,more:=Cm mask (C3 mask p.i p.perturb).1-(C3 mask p.i p.perturb).1,i:=(C3 mask p.i p.perturb).1,perturb:=(C3 mask p.i p.perturb).2}
theorem jF(t:Cy)(p:Pr):t.advance p=fR t.mask p:=by unfold SetTable.advance fR;rfl
def itM(mask:Nat):Nat->Pr->Pr
 |0,p=>p
 |n+1,p=>itM mask n<|fR mask p
theorem eY(mask:Nat):∀(a b:Nat)(p:Pr),itM mask (a+b) p=itM mask b (itM mask a p)
 |0,b,p=>by rw[IQ];rfl
 |a+1,b,p=>by rw[show a+1+b=(a+b)+1 by omega];exact eY mask a b<|fR mask p
theorem tq(mask n:Nat)(p:Pr):itM mask (n+1) p=fR mask (itM mask n p):=by rw[eY];rfl
def rG(mask i pt:Nat):Pr:={j:=i,more:=Cm mask i-i,i,perturb:=pt,dummy:=none}
theorem j9(mask:Nat):∀(n:Nat)(p:Pr),p.more=n->p.dummy=none->itM mask (n+1) p=rG mask (C3 mask p.i p.perturb).1 (C3 mask p.i p.perturb).2
 |0,p,h,hd=>by
  show fR mask p=_;unfold fR rG;rw[if_neg (by omega)];cases p;simp at hd;subst hd;rfl
 |n+1,p,h,hd=>by
  show itM mask (n+1) (fR mask p)=_;have e:fR mask p={p with j:=p.j+1,more:=p.more-1}:=by unfold fR;rw[if_pos (by omega)]
  rw[e];exact j9 mask n _ (by show p.more-1=n;omega) hd
theorem pF(mask i:Nat):Cm mask i-i<=9:=by unfold Cm;split<;>omega
def mm(mask:Nat):Nat->Nat×Nat->Nat×Nat
 |0,x=>x
 |n+1,x=>mm mask n<|C3 mask x.1 x.2
theorem tu(mask:Nat):∀(n i pt:Nat),∃k,k<=10*n/\itM mask k (rG mask i pt)=rG mask (mm mask n (i,pt)).1 (mm mask n (i,pt)).2
 |0,i,pt=>⟨0,by omega,rfl⟩
 |n+1,i,pt=>by
  obtain⟨k,hk,e⟩:=tu mask n (C3 mask i pt).1 (C3 mask i pt).2;have r:=j9 mask _ (rG mask i pt) rfl rfl;have m:=pF mask i;refine⟨(rG mask i pt).more+1+k,?_,?_⟩
  ·have:(rG mask i pt).more<=9:=m;omega
  ·rw[eY,r];exact e
theorem pG(mask:Nat):∀(a b:Nat)(x:Nat×Nat),mm mask (a+b) x=mm mask b (mm mask a x)
 |0,b,x=>by rw[IQ];rfl
 |a+1,b,x=>by rw[show a+1+b=(a+b)+1 by omega];exact pG mask a b _
theorem tx(mask:Nat):∀(n:Nat)(x:Nat×Nat),(mm mask n x).2=x.2/32^n
 |0,x=>by simp[mm]
 |n+1,x=>by
  show(mm mask n<|C3 mask x.1 x.2).2=_;rw[tx mask n];show x.2/32/32^n=_;rw[Hi,Kx,Nat.mul_comm]
theorem xT(mask:Nat):∀(n:Nat)(x:Nat×Nat),x.1<=mask->(mm mask n x).1<=mask
 |0,x,h=>h
 |n+1,x,h=>xT mask n _ (by show(x.1*5+1+x.2/32)%(mask+1)<=mask;have:=Gm (x.1*5+1+x.2/32) (show 0<mask+1 by omega);omega)
def uV(mask:Nat):Nat->Nat->Nat
 |0,i=>i
 |n+1,i=>uV mask n<|(i*5+1)%(mask+1)
theorem tD(mask:Nat):∀(n i:Nat),mm mask n (i,0)=(uV mask n i,0)
 |0,i=>rfl
 |n+1,i=>by
  show mm mask n (C3 mask i 0)=_;rw[show C3 mask i 0=((i*5+1)%(mask+1),0) by simp[C3],tD mask n];rfl
theorem ja(mask:Nat):∀(a b i:Nat),uV mask (a+b) i=uV mask b (uV mask a i)
 |0,b,i=>by rw[IQ];rfl
 |a+1,b,i=>by rw[show a+1+b=(a+b)+1 by omega];exact ja mask a b _
def isMask(m:Nat):Prop:=m=7\/m=31\/m=127\/m=511\/m=2047
def zJ(m:Nat):Nat->Nat->Nat->Nat
 |0,_,acc=>acc
 |n+1,i,acc=>zJ m n ((i*5+1)%(m+1))<|acc|||2^i
theorem pH(m:Nat):∀(n i acc e:Nat),(zJ m n i acc).testBit e=true->acc.testBit e=true\/∃k,k<n/\uV m k i=e
 |0,i,acc,e,h=>.inl h
 |n+1,i,acc,e,h=>by
  rcases pH m n _ _ e h with q|⟨k,hk,q⟩
  ·rw[Nat.testBit_or,Jq]at q;rcases q with q|q
   ·exact .inl q
   ·rw[Nat.testBit_two_pow,decide_eq_true_eq]at q;exact .inr ⟨0,by omega,q⟩
  ·exact .inr ⟨k+1,by omega,q⟩
theorem Ax{m:Nat}(h:isMask m):(∀e,e<m+1->∃k,k<m+1/\uV m k 0=e)/\uV m (m+1) 0=0:=by
 have key:∀m,zJ m (m+1) 0 0=2^(m+1)-1->∀e,e<m+1->∃k,k<m+1/\uV m k 0=e:=fun m hv e he=>by
  have hb:(zJ m (m+1) 0 0).testBit e=true:=by rw[hv,Nat.testBit_two_pow_sub_one];simpa using he
  rcases pH m _ _ _ e hb with q|q;·simp at q
  ·exact q
 rcases h with rfl|rfl|rfl|rfl|rfl;·exact⟨key 7 (by decide +kernel),by decide +kernel⟩
 ·exact⟨key 31 (by decide +kernel),by decide +kernel⟩
 ·exact⟨key 127 (by decide +kernel),by decide +kernel⟩
 ·exact⟨key 511 (by decide +kernel),by decide +kernel⟩
 ·exact⟨key 2047 (by decide +kernel),by decide +kernel⟩
theorem tE{m:Nat}(h:isMask m){i e:Nat}(hi:i<=m)(he:e<=m):∃n,n<=m/\uV m n i=e:=by
 obtain⟨h1,h2⟩:=Ax h;obtain⟨a,ha,ea⟩:=h1 i (by omega);obtain⟨b,hb,eb⟩:=h1 e (by omega);by_cases z:a<=b
 ·refine⟨b- a,by omega,?_⟩;rw[<-ea,<-ja,show a+(b-a)=b by omega,eb]
 ·refine⟨m+1- a+b,by omega,?_⟩;rw[<-ea,<-ja,show a+(m+1-a+b)=(m+1)+b by omega,ja,h2,eb]
theorem zk{m:Nat}(h:isMask m){p:Pr}(hd:p.dummy=none)(hm:p.more<=9)(hp:p.perturb<2^64){e:Nat}(he:e<=m):∃k,k<10*CW m/\(itM m k p).j=e:=by
 have r:=j9 m p.more p rfl hd;obtain⟨k1,hk1,e1⟩:=tu m 12 (C3 m p.i p.perturb).1 (C3 m p.i p.perturb).2;have z:(mm m 12 ((C3 m p.i p.perturb).1,(C3 m p.i p.perturb).2)).2=0:=by
  rw[tx];show p.perturb/32/32^12=0;rw[Hi];exact Ja (by omega)
 have i0:(C3 m p.i p.perturb).1<=m:=by
  show(p.i*5+1+p.perturb/32)%(m+1)<=m;have:=Gm (p.i*5+1+p.perturb/32) (show 0<m+1 by omega);omega
 have i1:=xT m 12 ((C3 m p.i p.perturb).1,(C3 m p.i p.perturb).2) i0;rw[z]at e1;generalize (mm m 12 ((C3 m p.i p.perturb).1,(C3 m p.i p.perturb).2)).1=i at*
 obtain⟨n,hn,en⟩:=tE h i1 he;obtain⟨k2,hk2,e2⟩:=tu m n i 0;rw[tD,en]at e2;refine⟨p.more+1+k1+k2,?_,?_⟩;·unfold CW;omega
 ·rw[eY,eY,r,e1,e2];rfl
def InP(xs:Array Nat)(j:Nat):Prop:=∃a,a<xs.size/\xs.getD a 0=j
theorem n4{xs:Array Nat}{a:Nat}(h:a<xs.size):xs[a]? =some (xs.getD a 0):=by simp[DV,h]
theorem fY{xs:Array Nat}(up:Up xs){a:Nat}(h:a<xs.size):CV xs (xs.getD a 0)=a:=by
 obtain⟨h0,h1,h2⟩:=i5 up<|xs.getD a 0;generalize CV xs (xs.getD a 0)=b at*
 by_cases z:a<b;·have:=h1 a z;omega
 ·by_cases y:b< a
  ·have:=up b a y h;have:=h2 b (by omega) (by omega);omega
  ·omega
theorem qT{xs:Array Nat}(up:Up xs){j:Nat}(h:¬InP xs j):(xs[CV xs j]? ==some j)=false:=by
 obtain⟨h0,h1,h2⟩:=i5 up j;by_cases z:CV xs j<xs.size
 ·rw[n4 z];rw[beq_eq_false_iff_ne];intro e;injection e with e;exact h ⟨_,z,e⟩
 ·rw[Es (by omega)];rfl
structure Tp(t:Cy)(hs:List Int):Prop where
 dm:t.dummies= #[]
 sz:t.place.size=hs.length
 up:Up t.place
 le:∀j,InP t.place j->j<=t.mask
 msk:isMask t.mask
 reach:∀i h,hs[i]? =some h->∃k,(itM t.mask k<|t.probeStart h).j=t.place.getD i 0/\∀k',k'<k->InP t.place (itM t.mask k'<|t.probeStart h).j
structure Tb(t:Cy)(hs:List Int):Prop extends Tp t hs where
 room:hs.length*5<t.mask*3
section
variable{t:Cy}{hs:List Int}
theorem Tb.live(T:Tb t hs){i:Nat}(h:i<t.place.size):t.slot (t.place.getD i 0)=.live i:=by
 unfold Kj;dsimp only;rw[fY T.up h,n4 h];simp
theorem Tb.empty(T:Tb t hs){j:Nat}(h:¬InP t.place j):t.slot j=.empty:=by
 unfold Kj;dsimp only;rw[if_neg (by rw[qT T.up h];decide)];unfold IS;rw[T.dm];rfl
theorem n5(t:Cy)(h:Int):(t.probeStart h).dummy=none/\(t.probeStart h).more<=9/\(t.probeStart h).perturb<2^64:=by
 refine⟨rfl,pF _ _,?_⟩;show(h%(2^64:Int)).toNat<2^64;omega
theorem xU{xs:Array Nat}(up:Up xs){m:Nat}(h:xs.size<=m):∃j,j<=m/\¬InP xs j:=by
 have base:∀n,n<=xs.size->(∀j,j<n->InP xs j)->∀a,a<n->xs.getD a 0=a:=by
  intro n hn hin a
  induction a using Jr with
  |_ a ih=>
   intro ha;obtain⟨b,hb,eb⟩:=hin a ha;have lo:∀a,a<xs.size->a<=xs.getD a 0:=by
    intro a
    induction a with
    |zero=>intro _;omega
    |succ a ih=>intro h;have:=ih (by omega);have:=up a (a+1) (by omega) h;omega
   have:=lo b hb;by_cases z:b=a;·rw[<-z];rw[z]at eb;rw[z];exact eb
   ·have:=ih b (by omega) (by omega);omega
 by_cases hall:∀j,j<xs.size->InP xs j
 ·refine⟨xs.size,h,fun⟨a,ha,ea⟩=>?_⟩;have:=base xs.size (by omega) hall a ha;omega
 ·have ⟨j,hj⟩:=FN.mp hall;have ⟨h1,h2⟩:=GH.mp hj;exact⟨j,by omega,h2⟩
theorem Tb.gap(T:Tb t hs){p:Pr}(hp:p.dummy=none/\p.more<=9/\p.perturb<2^64):∃k,k<10*CW t.mask/\¬InP t.place (itM t.mask k p).j/\∀k',k'<k->InP t.place (itM t.mask k' p).j:=by
 obtain⟨e,he,hn⟩:=xU T.up (m:=t.mask) (by have:=T.sz;have:=T.room;omega);obtain⟨k,hk,ek⟩:=zk T.msk hp.1 hp.2.1 hp.2.2 he;rw[<-ek]at hn;clear ek
 induction k using Jr with
 |_ k ih=>
  by_cases z:∀k',k'<k->InP t.place (itM t.mask k' p).j;·exact⟨k,hk,hn,z⟩
  ·have ⟨k',h'⟩:=FN.mp z;have ⟨h1,h2⟩:=GH.mp h';exact ih k' h1 h2 (by omega)
theorem Tb.go(T:Tb t hs){hashAt:Nat->Int}(hA:∀i h,hs[i]? =some h->hashAt i=h)(h:Int):∀(E fuel:Nat)(p:Pr),p.dummy=none->E<fuel->¬InP t.place (itM t.mask E p).j->(∀k',k'<E->InP t.place (itM t.mask k' p).j)->
  (∃k i,k<E/\i<hs.length/\t.place.getD i 0=(itM t.mask k p).j/\hs[i]? =some h/\EE t hashAt h fuel p=some (.candidate (itM t.mask k p).j i (itM t.mask (k+1) p))/\∀k',k'<k->∀i,t.place.getD i 0=(itM t.mask k' p).j->i<hs.length->hs[i]? ≠some h)\/
  (EE t hashAt h fuel p=some (.empty (itM t.mask E p).j none)/\∀k',k'<E->∀i,t.place.getD i 0=(itM t.mask k' p).j->i<hs.length->hs[i]? ≠some h)
 |0,fuel+1,p,hd,hf,hn,ha=>by
  refine .inr ⟨?_,fun k' hk=>absurd hk (by omega)⟩;unfold EE;rw[T.empty (j:=p.j) hn,hd];rfl
 |E+1,fuel+1,p,hd,hf,hn,ha=>by
  obtain⟨a,h1,h2⟩:=ha 0 (by omega);have h2':t.place.getD a 0=p.j:=h2;have one:∀i,t.place.getD i 0=p.j->i<hs.length->i=a:=fun i hi hl=>by
   have hi':i<t.place.size:=by have:=T.sz;omega
   rw[<-fY T.up hi',hi,<-h2',fY T.up h1]
  unfold EE;rw[<-h2',T.live h1];dsimp only;have hl:a<hs.length:=by have:=T.sz;omega
  by_cases z:hashAt a=h
  ·refine .inl ⟨0,a,by omega,hl,h2,?_,?_,fun k' hk=>absurd hk (by omega)⟩
   ·have e:=hA a hs[a] (Bo hl);rw[Bo hl,<-e,z]
   ·rw[if_pos (by simpa using z),jF,h2'];rfl
  ·rw[if_neg (by simpa using z),jF];have hne:∀i,t.place.getD i 0=p.j->i<hs.length->hs[i]? ≠some h:=fun i hi hl' e=>z (by rw[one i hi hl']at e;exact hA a h e);have hd':(fR t.mask p).dummy=none:=by unfold fR;split<;>exact hd
   rcases Tb.go T hA h E fuel (fR t.mask p) hd' (by omega) hn (fun k' hk=>ha (k'+1) (by omega))with⟨k,i,g1,g2,g3,g4,g5,g6⟩|⟨g1,g2⟩
   ·refine .inl ⟨k+1,i,by omega,g2,g3,g4,g5,fun k' hk=>?_⟩;cases k' with
    |zero=>exact hne
    |succ k'=>exact g6 k' (by omega)
   ·refine .inr ⟨g1,fun k' hk=>?_⟩;cases k' with
    |zero=>exact hne
    |succ k'=>exact g2 k' (by omega)
theorem jG{α:Type}(xs:Array α)(p:Nat)(x:α):(D8 xs p x).toList=xs.toList.take p++x::xs.toList.drop p:=by
 unfold D8;simp[Array.toList_append,IT,En]
theorem eU{α:Type}(xs:Array α){p:Nat}(h:p<=xs.size)(x:α):(D8 xs p x).size=xs.size+1:=by
 rw[<-Cr,jG];simp;omega
theorem vM{α:Type}(xs:Array α){p:Nat}(h:p<=xs.size)(x:α)(a:Nat):(D8 xs p x)[a]? =if a<p then xs[a]? else if a=p then some x else xs[a-1]? :=by
 rw[<-Cf,jG];by_cases z:a<p;·rw[if_pos z,BG (by simp;omega),CA z,Cf]
 ·rw[if_neg z,BH (by simp;omega)];have hl:(List.take p xs.toList).length=p:=by simp;omega
  rw[hl];by_cases y:a=p;·rw[if_pos y,y];simp
  ·rw[if_neg y,show a- p=(a- p- 1)+1 by omega,CN,CT,Cf];congr 1;omega
theorem i6(xs:Array Nat){p:Nat}(h:p<=xs.size)(x:Nat)(a:Nat):(D8 xs p x).getD a 0=if a<p then xs.getD a 0 else if a=p then x else xs.getD (a-1) 0:=by
 rw[C4,vM xs h];split;·rw[C4]
 ·split;·rfl
  ·rw[C4]
theorem pI{xs:Array Nat}{p:Nat}(h:p<=xs.size){x j:Nat}:InP (D8 xs p x) j↔j=x\/InP xs j:=by
 constructor
 ·rintro ⟨a,ha,e⟩;rw[eU xs h]at ha;rw[i6 xs h]at e;by_cases z:a<p;·rw[if_pos z]at e;exact .inr ⟨a,by omega,e⟩
  ·rw[if_neg z]at e;by_cases y:a=p;·rw[if_pos y]at e;exact .inl e.symm
   ·rw[if_neg y]at e;exact .inr ⟨a-1,by omega,e⟩
 ·rintro (rfl | ⟨a,ha,e⟩);·exact⟨p,by rw[eU xs h];omega,by rw[i6 xs h,if_neg (by omega),if_pos rfl]⟩
  ·by_cases z:a< p;·exact⟨a,by rw[eU xs h];omega,by rw[i6 xs h,if_pos z,e]⟩
   ·exact⟨a+1,by rw[eU xs h];omega,by rw[i6 xs h,if_neg (by omega),if_neg (by omega)];exact e⟩
theorem Tb.put(T:Tb t hs){h:Int}{E:Nat}(hn:¬InP t.place (itM t.mask E<|t.probeStart h).j)(hj:(itM t.mask E<|t.probeStart h).j<=t.mask)(ha:∀k',k'<E->InP t.place (itM t.mask k'<|t.probeStart h).j):
  (t.put (itM t.mask E<|t.probeStart h).j).2<=hs.length/\(t.put (itM t.mask E<|t.probeStart h).j).1.mask=t.mask/\Tp (t.put (itM t.mask E<|t.probeStart h).j).1 (hs.take (t.put (itM t.mask E<|t.probeStart h).j).2++h::hs.drop (t.put (itM t.mask E<|t.probeStart h).j).2):=by
 obtain⟨b0,b1,b2⟩:=i5 T.up (itM t.mask E<|t.probeStart h).j;generalize hJ:(itM t.mask E<|t.probeStart h).j=j at*
 have hp2:(t.put j).2=CV t.place j:=rfl;have hpl:(t.put j).1.place=D8 t.place (CV t.place j) j:=rfl;have hmk:(t.put j).1.mask=t.mask:=rfl;have hst:∀h,(t.put j).1.probeStart h=t.probeStart h:=fun _=>rfl;have hsz:=T.sz;generalize CV t.place j=p at*
 rw[hp2];refine⟨by omega,rfl,?_,?_,?_,?_,T.msk,?_⟩
 ·show(if IS t.dummies j then _ else t.dummies)= #[];unfold IS;rw[T.dm];rfl
 ·rw[hpl,eU _ b0];simp;omega
 ·rw[hpl];intro a b hab hb;rw[eU _ b0]at hb;rw[i6 _ b0,i6 _ b0];have gt:∀a,p<=a->a<t.place.size->j<t.place.getD a 0:=fun a h1 h2=>by
   have:=b2 a h1 h2;by_cases z:t.place.getD a 0=j;·exact absurd ⟨a,h2,z⟩ hn
   ·omega
  by_cases z1:a<p
  ·rw[if_pos z1];by_cases z2:b<p;·rw[if_pos z2];exact T.up a b hab (by omega)
   ·rw[if_neg z2];by_cases z3:b=p;·rw[if_pos z3];exact b1 a z1
    ·rw[if_neg z3];have:=b1 a z1;have:=gt (b-1) (by omega) (by omega);omega
  ·rw[if_neg z1,if_neg (show ¬b< p by omega),if_neg (show ¬b=p by omega)];by_cases z3:a=p;·rw[if_pos z3];exact gt (b-1) (by omega) (by omega)
   ·rw[if_neg z3];exact T.up (a-1) (b-1) (by omega) (by omega)
 ·intro q hq;rw[hpl,pI b0]at hq;rcases hq with rfl|hq
  ·exact hj
  ·exact T.le q hq
 ·intro i g hg;rw[hmk,hst,hpl];have mono:∀q,InP t.place q->InP (D8 t.place p j) q:=fun q hq=>(pI b0).mpr (.inr hq);have hl:(hs.take p).length=p:=by simp;omega
  by_cases z1:i<p
  ·rw[BG (by omega),CA z1]at hg;obtain⟨k,ek,hk⟩:=T.reach i g hg;exact⟨k,by rw[ek,i6 _ b0,if_pos z1],fun k' h'=>mono _<|hk k' h'⟩
  ·rw[BH (by omega),hl]at hg;by_cases z2:i=p
   ·rw[z2,Gd,Dc]at hg;cases hg;exact⟨E,by rw[hJ,i6 _ b0,if_neg z1,if_pos z2],fun k' h'=>mono _<|ha k' h'⟩
   ·rw[show i- p=(i- p- 1)+1 by omega,CN,CT]at hg;rw[show p+(i-p-1)=i-1 by omega]at hg;obtain⟨k,ek,hk⟩:=T.reach (i-1) g hg;exact⟨k,by rw[ek,i6 _ b0,if_neg z1,if_neg z2],fun k' h'=>mono _<|hk k' h'⟩
end
def Oc(ow:Array (Option Nat))(j:Nat):Prop:=(ow.getD j<|some 0).isSome=true
theorem lO(m i pt:Nat):∀k,k<=Cm m i-i->itM m k (rG m i pt)={j:=i+k,more:=Cm m i-i-k,i:=i,perturb:=pt,dummy:=none}
 |0,_=>rfl
 |k+1,h=>by
  rw[tq,lO m i pt k (by omega)];unfold fR;rw[if_pos (by show Cm m i-i-k>0;omega)];rfl
theorem qU(m i:Nat):i<=Cm m i:=by unfold Cm;split<;>omega
theorem pJ{m:Nat}(ow:Array (Option Nat)):∀(f i pt n:Nat),n<f->¬Oc ow (mm m n (i,pt)).1->
  ∃j E,Dx m ow f i pt=some j/\(itM m E<|rG m i pt).j=j/\¬Oc ow j/\∀k',k'<E->Oc ow (itM m k'<|rG m i pt).j
 |0,_,_,_,h,_=>absurd h (by omega)
 |f+1,i,pt,n,h,hn=>by
  have hr:=qU m i;unfold Dx;cases hf:(Cv<|Cm m i+1-i).find? fun k=>(ow.getD (i+k)<|some 0).isNone with
  |some k=>
   have hk:=EH.mp<|List.mem_of_find?_eq_some hf;have hp:=List.find?_some hf;have hb:=(List.find?_range_eq_some.mp hf).2.2;refine⟨i+k,k,rfl,by rw[lO m i pt k (by omega)],?_,fun k' hk'=>?_⟩;·unfold Oc;simp at hp ⊢;exact hp
   ·rw[lO m i pt k' (by omega)];have:=hb k' hk';unfold Oc;simpa using this
  |none=>
   have hall:=List.find?_eq_none.mp hf;have occ:∀k,k<=Cm m i-i->Oc ow (i+k):=fun k hk=>by
    have:=hall k (EH.mpr (by omega));unfold Oc;cases q:ow.getD (i+k) (some 0)with
    |none=>rw[q]at this;exact absurd rfl this
    |some a=>rfl
   cases n with
   |zero=>exact absurd (occ 0 (by omega)) hn
   |succ n=>
    obtain⟨j,E,e1,e2,e3,e4⟩:=pJ ow f (C3 m i pt).1 (C3 m i pt).2 n (by omega) hn;have r:=j9 m (Cm m i-i) (rG m i pt) rfl rfl;refine⟨j,(Cm m i-i)+1+E,e1,?_,e3,fun k' hk'=>?_⟩;·rw[eY,r];exact e2
    ·by_cases z:k'<=Cm m i- i;·rw[lO m i pt k' z];exact occ k' z
     ·rw[show k'=(Cm m i- i)+1+(k'- ((Cm m i- i)+1)) by omega,eY,r];exact e4 _ (by omega)
abbrev stM(m:Nat)(h:Int):Pr:=rG m (C9 h%(m+1))<|C9 h
theorem vN(h:Int):C9 h<2^64:=by show(h%(2^64:Int)).toNat<2^64;omega
theorem vO{m:Nat}(hm:isMask m)(ow:Array (Option Nat))(h:Int){e:Nat}(he:e<=m)(hn:¬Oc ow e):
  ∃j E,Dx m ow (CW m) (C9 h%(m+1)) (C9 h)=some j/\(itM m E<|stM m h).j=j/\¬Oc ow j/\∀k',k'<E->Oc ow (itM m k'<|stM m h).j:=by
 have i0:C9 h%(m+1)<=m:=by have:=Gm (C9 h) (show 0<m+1 by omega);omega
 have z:(mm m 13 (C9 h%(m+1),C9 h)).2=0:=by
  rw[tx];exact Ja (by have:=vN h;show C9 h<32^13;omega)
 have i1:=xT m 13 (C9 h%(m+1),C9 h) i0;obtain⟨n,hn',en⟩:=tE hm i1 he;refine pJ ow _ _ _ (13+n) (by unfold CW;omega) ?_;rw[pG,show mm m 13 (C9 h%(m+1),C9 h)=((mm m 13 (C9 h%(m+1),C9 h)).1,0)from GY rfl z,tD,en];exact hn
structure Lay(m:Nat)(hs:List Int)(ow:Array (Option Nat))(k:Nat):Prop where
 sz:ow.size=m+1
 cnt:ow.toList.countP I9=k
 inj:∀(j j' i:Nat),ow[j]? =some (some i)->ow[j']? =some (some i)->j=j'
 lt:∀(j i:Nat),ow[j]? =some (some i)->i<k
 reach:∀(j i:Nat)(h:Int),ow[j]? =some (some i)->hs[i]? =some h->∃n,(itM m n<|stM m h).j=j/\∀n',n'<n->Oc ow (itM m n'<|stM m h).j
theorem i7{ow:Array (Option Nat)}{j:Nat}(hj:j<ow.size):Oc ow j↔∃i,ow[j]? =some (some i):=by
 unfold Oc;simp[DV,hj];cases ow[j]<;>simp
theorem Lay.gap{m:Nat}{hs:List Int}{ow:Array (Option Nat)}{k:Nat}(L:Lay m hs ow k)(h:k<=m):∃e,e<=m/\¬Oc ow e:=by
 by_cases z:∀e,e<=m->Oc ow e
 ·exfalso;have:ow.toList.countP I9=ow.toList.length:=List.countP_eq_length.mpr fun a ha=>by
   obtain⟨j,hj,e⟩:=CH.mp ha;have hj':j<ow.size:=by simpa using hj
   obtain⟨i,hi⟩:=(i7 hj').mp (z j (by have:=L.sz;omega));rw[<-e];have:ow.toList[j]=some i:=by
    have q:ow.toList[j]? =some (some i):=by rw[Cf];exact hi
    rw[Bo hj]at q;injection q
   rw[this];rfl
  rw[L.cnt,Cr,L.sz]at this;omega
 ·have ⟨e,he⟩:=FN.mp z;have ⟨h1,h2⟩:=GH.mp he;exact⟨e,h1,h2⟩
theorem zl{ow:Array (Option Nat)}{j:Nat}(h:¬Oc ow j):j<ow.size:=by
 by_cases z:j<ow.size;·exact z
 ·exact absurd (by unfold Oc;simp[DV,z]) h
theorem Lay.step{m:Nat}(hm:isMask m){hs:List Int}{ow:Array (Option Nat)}{k:Nat}(L:Lay m hs ow k)(hk:k<=m){h:Int}(hh:hs[k]? =some h):
  ∃j,Dx m ow (CW m) (C9 h%(m+1)) (C9 h)=some j/\Lay m hs (ow.setIfInBounds j<|some k) (k+1):=by
 obtain⟨e,he,hn⟩:=L.gap hk;obtain⟨j,E,e1,e2,e3,e4⟩:=vO hm ow h he hn;have hj:=zl e3;refine⟨j,e1,?_⟩;have none_j:ow[j]? =some none:=by
  have:¬∃i,ow[j]? =some (some i):=fun z=>e3<|(i7 hj).mpr z;rw[Cp hj]at this ⊢;cases q:ow[j]with
  |none=>rfl
  |some i=>exact absurd ⟨i,by rw[q]⟩ this
 have at_:∀q,(ow.setIfInBounds j<|some k)[q]? =if q=j then some (some k)else ow[q]? :=fun q=>by
  rw[Array.getElem?_setIfInBounds];by_cases z:j=q;·subst z;simp[hj]
  ·rw[if_neg z,if_neg<|DZ z]
 have oc:∀q,Oc ow q->Oc (ow.setIfInBounds j<|some k) q:=fun q hq=>by
  by_cases hs':q<ow.size
  ·obtain⟨i,hi⟩:=(i7 hs').mp hq;refine(i7 (by simpa using hs')).mpr ?_;rw[at_];by_cases z:q=j;·exact⟨k,by rw[if_pos z]⟩
   ·exact⟨i,by rw[if_neg z];exact hi⟩
  ·unfold Oc;simp[DV,hs']
 refine⟨by simp[L.sz],?_,?_,?_,?_⟩
 ·have hj2:j< ow.toList.length:=by simpa using hj
  have q:ow.toList[j]=none:=by
   have:=none_j;rw[<-Cf,Bo hj2]at this;injection this
  rw[Array.toList_setIfInBounds,List.countP_set hj2,q,L.cnt];simp
 ·intro a b i ha hb;rw[at_]at ha hb;by_cases z1:a=j
  ·rw[if_pos z1]at ha;injection ha with ha;injection ha with ha;by_cases z2:b=j;·rw[z1,z2]
   ·rw[if_neg z2]at hb;have:=L.lt b i hb;omega
  ·rw[if_neg z1]at ha;by_cases z2:b=j
   ·rw[if_pos z2]at hb;injection hb with hb;injection hb with hb;have:=L.lt a i ha;omega
   ·rw[if_neg z2]at hb;exact L.inj a b i ha hb
 ·intro a i ha;rw[at_]at ha;by_cases z1:a=j
  ·rw[if_pos z1]at ha;injection ha with ha;injection ha with ha;omega
  ·rw[if_neg z1]at ha;have:=L.lt a i ha;omega
 ·intro a i g ha hg;rw[at_]at ha;by_cases z1:a=j
  ·rw[if_pos z1]at ha;injection ha with ha;injection ha with ha;subst ha;rw[hh]at hg;cases hg;exact⟨E,by rw[z1];exact e2,fun n' h'=>oc _<|e4 n' h'⟩
  ·rw[if_neg z1]at ha;obtain⟨n,q1,q2⟩:=L.reach a i g ha hg;exact⟨n,q1,fun n' h'=>oc _<|q2 n' h'⟩
theorem qV(m:Nat)(hs:List Int):Lay m hs (Ht (m+1) none) 0:=by
 have no:∀(j i:Nat),(Ht (m+1) (none:Option Nat))[j]? =some (some i)->False:=fun j i h=>by
  rw[Array.getElem?_replicate]at h;split at h<;>simp at h
 refine⟨by simp,?_,fun j j' i h _=>(no j i h).elim,fun j i h=>(no j i h).elim,fun j i _ h _=>(no j i h).elim⟩;rw[Array.toList_replicate,List.countP_replicate];rfl
abbrev lP(m:Nat)(acc:Option (Array (Option Nat)×Nat))(h:Int):Option (Array (Option Nat)×Nat):=do
 let (owner,k) <-acc
 let j <-Dx m owner (CW m) (C9 h%(m+1)) (C9 h)
 pure (owner.setIfInBounds j<|some k,k+1)
theorem n6{m:Nat}(hm:isMask m)(hs:List Int):∀(r:List Int)(ow:Array (Option Nat))(k:Nat),Lay m hs ow k->hs.drop k=r->hs.length<=m->k<=hs.length->∃ow',r.foldl (lP m) (some (ow,k))=some (ow',hs.length)/\Lay m hs ow' hs.length
 | [],ow,k,L,hd,hl,hk=>by
  have:k=hs.length:=by
   have:=congrArg EK hd;simp at this;omega
  subst this;exact⟨ow,rfl,L⟩
 |h::r,ow,k,L,hd,hl,hk=>by
  have hk2:k<hs.length:=by
   have:=congrArg EK hd;simp at this;omega
  have hh:hs[k]? =some h:=by
   have:(hs.drop k)[0]? =some h:=by rw[hd];rfl
   rw[CT]at this;exact this
  obtain⟨j,e,L'⟩:=L.step hm (by omega) hh;have e':lP m (some (ow,k)) h=some (ow.setIfInBounds j<|some k,k+1):=by
   show(Dx m ow (CW m) (C9 h%(m+1))<|C9 h).bind _=_;rw[e];rfl
  rw[Ho,e'];exact n6 hm hs r _ _ L' (by rw[<-List.drop_drop,hd];rfl) hl (by omega)
theorem n9{m:Nat}(hm:isMask m){hs:Array Int}(hl:hs.size<=m):∃ow,SetTable.layClean m hs=some ow/\Lay m hs.toList ow hs.size:=by
 obtain⟨ow,e,L⟩:=n6 hm hs.toList hs.toList _ 0 (qV m hs.toList) rfl (by simpa using hl) (by simp);refine⟨ow,?_,by simpa using L⟩;show Option.map (·.1) (hs.foldl (lP m)<|some (Ht (m+1) none,0))=_;rw[<-Array.foldl_toList,e];rfl
abbrev di(m:Nat)(ow:Array (Option Nat)):List (Nat×Nat):=(Cv<|m+1).filterMap fun j=>(ow.getD j none).map (j, ·)
theorem ft{m:Nat}{ow:Array (Option Nat)}(hs:ow.size=m+1){j i:Nat}:(j,i)∈di m ow↔ow[j]? =some (some i):=by
 unfold di;rw[Fe];constructor
 ·rintro ⟨q,hq,e⟩;rw[Cs]at e;obtain⟨a,e1,e2⟩:=e;injection e2 with e2 e3;subst e2;subst e3;have:=EH.mp hq;have hq':q<ow.size:=by omega
  simp[DV,hq']at e1;rw[Cp hq',e1]
 ·intro h;have hj:j<ow.size:=(DW.mp h).1;refine⟨j,EH.mpr (by omega),?_⟩;rw[C4,h];rfl
theorem lQ{f:Nat->Option Nat}:∀{l:List Nat},l.Pairwise (· < ·)->((l.filterMap fun j=>(f j).map (j, ·)).map (·.1)).Pairwise (· < ·)
 | [],_=>by simp
 |a::l,h=>by
  have ih:=lQ (f:=f) (Gn.mp h).2;cases e:f a with
  |none=>simpa [e] using ih
  |some b=>
   rw[GQ (b:=(a,b)) (by rw[e];rfl),CP];refine Gn.mpr ⟨fun q hq=>?_,ih⟩;obtain⟨x,hx,rfl⟩:=BX.mp hq;obtain⟨c,hc,e2⟩:=Fe.mp hx;rw[Cs]at e2;obtain⟨_,_,rfl⟩:=e2;exact(Gn.mp h).1 c hc
theorem tF{f:Nat->Option Nat}:∀(l:List Nat),(l.filterMap fun j=>(f j).map (j, ·)).length=(l.map f).countP I9
 | []=>rfl
 |a::l=>by
  have ih:=tF (f:=f) l;cases e:f a with
  |none=>rw[List.filterMap_cons_none (by rw[e];rfl),ih];simp[e]
  |some b=>rw[GQ (b:=(a,b)) (by rw[e];rfl)];simp[e,ih]
theorem tG{m k:Nat}{hs:List Int}{ow:Array (Option Nat)}(L:Lay m hs ow k):(di m ow).length=k:=by
 unfold di;rw[tF (f:=fun j=>ow.getD j none),<-L.cnt];congr 1;refine List.ext_getElem (by simp[L.sz]) fun i h1 h2=>?_;simp at h1 h2;simp[DV,h2]
theorem tH:∀(n:Nat)(l:List Nat),l.Nodup->(∀x∈l,x<n)->l.length<=n
 |0,l,_,h=>by
  cases l with
  |nil=>simp
  |cons a l=>exact absurd (h a<|BN ..) (by omega)
 |n+1,l,nd,h=>by
  by_cases z:n∈l
  ·have:=tH n (l.erase n) (nd.erase n) fun x hx=>by
    have h1:=h x<|Fx hx;have h2:x≠n:=fun e=>by subst e;exact(F6 nd) hx
    omega
   rw[F7 z]at this;omega
  ·have:=tH n l nd fun x hx=>by
    have h1:=h x hx;have h2:x≠n:=fun e=>z<|e▸hx;omega
   omega
theorem pK:∀(n:Nat)(l:List Nat),l.Nodup->(∀x∈l,x<n)->l.length=n->l.Perm (Cv n)
 |0,l,_,_,h=>by rw[DM.mp h];exact .refl _
 |n+1,l,nd,h,hl=>by
  have z:n∈l:=by
   by_cases z:n∈l;·exact z
   ·have:=tH n l nd fun x hx=>by
     have h1:=h x hx;have h2:x≠n:=fun e=>z<|e▸hx;omega
    omega
  have:=pK n (l.erase n) (nd.erase n) (fun x hx=>by
    have h1:=h x<|Fx hx;have h2:x≠n:=fun e=>by subst e;exact(F6 nd) hx
    omega) (by rw[F7 z];omega)
  rw[List.range_succ];exact(List.perm_cons_erase z).trans ((List.Perm.cons n this).trans (List.perm_append_singleton n _).symm)
theorem vP{l:List Nat}(h:l.Pairwise (· < ·)):Up l.toArray:=fun a b hab hb=>by
 have hb':b<l.length:=by simpa using hb
 have:=E2.mp h a b (by omega) hb' hab;simpa [DV,show a<l.length by omega,hb'] using this
theorem kR{m i:Nat}(h:i<=m):i+(Cm m i-i)<=m:=by unfold Cm;split<;>omega
theorem zm{m:Nat}{p:Pr}(h:p.j+p.more<=m):(fR m p).j+(fR m p).more<=m:=by
 unfold fR;split;·show p.j+1+(p.more-1)<=m;omega
 ·refine kR ?_;show(p.i*5+1+p.perturb/32)%(m+1)<=m;have:=Gm (p.i*5+1+p.perturb/32) (show 0<m+1 by omega);omega
theorem zo{m:Nat}:∀(n:Nat){p:Pr},p.j+p.more<=m->(itM m n p).j+(itM m n p).more<=m
 |0,_,h=>h
 |n+1,_,h=>zo n<|zm h
theorem x4{m:Nat}{h:Int}(n:Nat):(itM m n<|stM m h).j<=m:=by
 have:=zo (m:=m) n (p:=stM m h) (kR (i:=C9 h%(m+1)) (by have:=Gm (C9 h) (show 0<m+1 by omega);omega));omega
theorem vQ{m:Nat}(hm:isMask m){hs:Array Int}(hl:hs.size<=m)(fi mo:Nat)(led plain:Bool):
  ∃t order,Kk m fi mo led plain hs=some (t,order)/\t.mask=m/\t.led=led/\t.plain=plain/\order.toList.Perm (Cv hs.size)/\Tp t (order.toList.map fun i=>hs.toList.getD i 0):=by
 obtain⟨ow,e,L⟩:=n9 hm hl;refine⟨_,_,by unfold Kk;rw[e];rfl,rfl,rfl,rfl,?_,?_⟩
 ·show((di m ow).map (·.2)).toArray.toList.Perm _;have len:=tG L;have inc:=lQ (f:=fun j=>ow.getD j none)<|Hj (n:=m+1);have nd1:((di m ow).map (·.1)).Nodup:=inc.imp fun h=>BL h;refine pK hs.size _ ?_ (fun x hx=>?_) (by simpa using len)
  ·show((di m ow).map (·.2)).Nodup;rw[CB,EF];rw[CB,EF]at nd1;refine nd1.imp_of_mem fun{a b}ha hb hne e=>hne ?_;have h1:=(ft L.sz (j:=a.1) (i:=a.2)).mp ha;have h2:=(ft L.sz (j:=b.1) (i:=b.2)).mp hb;rw[<-e]at h2;exact L.inj _ _ _ h1 h2
  ·obtain⟨y,hy,rfl⟩:=BX.mp (show x∈(di m ow).map (·.2)from hx);exact L.lt _ _<|(ft L.sz (j:=y.1) (i:=y.2)).mp hy
 ·have inc:=lQ (f:=fun j=>ow.getD j none)<|Hj (n:=m+1);have inp:∀j,InP ((di m ow).map (·.1)).toArray j↔∃i,ow[j]? =some (some i):=fun j=>by
   constructor
   ·rintro ⟨a,ha,e⟩;have ha':a<(di m ow).length:=by simpa using ha
    have:((di m ow)[a]).1=j:=by simpa [DV,ha'] using e
    have mem:=EX ha';rw[<-this];exact⟨_,(ft L.sz (j:=(di m ow)[a].1) (i:=(di m ow)[a].2)).mp mem⟩
   ·rintro ⟨i,hi⟩;have mem:=(ft L.sz).mpr hi;obtain⟨a,ha,e⟩:=CH.mp mem;exact⟨a,by simpa using ha,by simp[DV,ha,e]⟩
  have ocp:∀j,j<=m->Oc ow j->InP ((di m ow).map (·.1)).toArray j:=fun j hj h=>(inp j).mpr ((i7 (by have:=L.sz;omega)).mp h);refine⟨rfl,?_,vP inc,?_,hm,?_⟩
  ·show((di m ow).map (·.1)).toArray.size=(List.map _ ((di m ow).map (·.2)).toArray.toList).length;simp
  ·intro j hj;obtain⟨i,hi⟩:=(inp j).mp hj;have:=(DW.mp hi).1;have:=L.sz;show j<=m;omega
  ·intro a h ha;have ha2:((di m ow)[a]?).map (fun y=>hs.toList.getD y.2 0)=some h:=by
    have:(((di m ow).map (·.2)).map fun i=>hs.toList.getD i 0)[a]? =some h:=ha;rw[Eo,Bz]at this;exact this
   obtain⟨y,hy,e⟩:=Cs.mp ha2;have mem:=BI hy;have at_:=(ft L.sz (j:=y.1) (i:=y.2)).mp mem;have lt:=L.lt _ _ at_;have hh:hs.toList[y.2]? =some h:=by
    have hlt:y.2<hs.toList.length:=by simpa using lt
    rw[BC,Bo hlt]at e;rw[Bo hlt];exact congrArg some e
   obtain⟨n,q1,q2⟩:=L.reach _ _ _ at_ hh;have hla:a<(di m ow).length:=(Bw.mp hy).1;refine⟨n,?_,fun n' h'=>?_⟩
   ·show(itM m n<|stM m h).j=((di m ow).map (·.1)).toArray.getD a 0;rw[q1,C4];simp only[List.getElem?_toArray,Bz,hy];rfl
   ·refine ocp _ ?_<|q2 n' h';by_cases z:(itM m n'<|stM m h).j<=m;·exact z
    ·exfalso;exact z<|x4 n'
section
variable{prog:BK}{w:BQ}{K:Type}[DecidableEq K]{knd:KeyKind prog w K}{A:Ck}{E:Bs->Bu->Prop}{s:Bu}
structure TupsOf(knd:KeyKind prog w K)(h:Heap)(es:List (Int×Bs))(ks:List (List K)):Prop where
 len:es.length=ks.length
 at_:∀(i:Nat)(e:Int×Bs),es[i]? =some e->∃k b,ks[i]? =some k/\e.2=.ref b/\D6 knd h k b/\e.1=tupleKeyHash knd k
theorem Tb.fits{t:Cy}{es:Array (Int×Bs)}(T:Tb t (es.toList.map (·.1))):t.fits es.size=true:=by
 have h1:=T.sz;have h2:=T.room;have h3:=T.dm;simp at h1 h2;unfold Kl Ia;rw[h3];simp;omega
theorem tI{m:Nat}(h:isMask m):(m%2==0)=false:=by rcases h with rfl|rfl|rfl|rfl|rfl<;>rfl
theorem x5{m:Nat}:∀(k:Nat){p:Pr},p.dummy=none->(itM m k p).dummy=none
 |0,_,h=>h
 |k+1,p,h=>x5 k (by unfold fR;split<;>exact h)
theorem jH{adding:Bool}{a x:Addr}{o:Obj}{es:Array (Int×Bs)}{ep:Nat}{t:Cy}{ks:List (List K)}{kx:List K}(hu:A.units<cLine)(ho:s.heap.get? a=some o)(hd:o.data=.set es ep t)(T:Tb t (es.toList.map (·.1)))(hk:TupsOf knd s.heap es.toList ks)(hx:D6 knd s.heap kx x)
  (seen:∀(l:List Bs)(Q:Bool->Bu->Prop),(∀y∈l,∃e∈es.toList,y=e.2)->Q false s->wpAny (model prog w) A (searchCouldBeSeen (.ref x) l) Q E s) {Q:SetFound->Bu->Prop}:
  ∀(fuel G:Nat)(st:Option Pr),(st.getD<|t.probeStart<|tupleKeyHash knd kx).dummy=none->G<fuel->G<10*CW t.mask-> ¬InP t.place (itM t.mask G<|st.getD<|t.probeStart<|tupleKeyHash knd kx).j->(∀k',k'<G->InP t.place (itM t.mask k'<|st.getD<|t.probeStart<|tupleKeyHash knd kx).j)->
   ((∃k i,k<G/\t.place.getD i 0=(itM t.mask k<|st.getD<|t.probeStart<|tupleKeyHash knd kx).j/\ks[i]? =some kx)->∀r:Option Nat,r.isSome= !adding->Q (.there r) s)->
   ((∀k i,k<G->t.place.getD i 0=(itM t.mask k<|st.getD<|t.probeStart<|tupleKeyHash knd kx).j->i<es.size->ks[i]? ≠some kx)->Q (.free (itM t.mask G<|st.getD<|t.probeStart<|tupleKeyHash knd kx).j false) s)->
   wpAny (model prog w) A (setSearchFrom a (.ref x) (tupleKeyHash knd kx) adding fuel st) Q E s:=by
 intro fuel
 induction fuel with
 |zero=>intro G st _ h;exact absurd h (by omega)
 |succ fuel ih=>
  intro G st hdm hG hGt hn ha h1 h2;unfold setSearchFrom;refine Bl<|D9 ho hd T.fits ?_;dsimp only;rw[if_neg (by unfold SetTable.gaveWay;rw[tI T.msk];decide)];generalize hp:st.getD (t.probeStart<|tupleKeyHash knd kx)=p at*
  have hA:∀(i:Nat)(h:Int),(es.toList.map (·.1))[i]? =some h->(fun(i:Nat)=>(es[i]?.map (fun(e:Int×Bs)=>e.1)).getD 0) i=h:=fun i h hh=>by
   rw[Bz,Cf]at hh;show(es[i]?.map (fun(e:Int×Bs)=>e.1)).getD 0=h;rw[hh];rfl
  have go:=T.go hA (tupleKeyHash knd kx) G (10*CW t.mask) p hdm hGt hn ha;have hpr:t.probe (fun(i:Nat)=>(es[i]?.map (fun(e:Int×Bs)=>e.1)).getD 0) (tupleKeyHash knd kx) p=EE t (fun(i:Nat)=>(es[i]?.map (fun(e:Int×Bs)=>e.1)).getD 0) (tupleKeyHash knd kx) (10*CW t.mask) p:=rfl;rw[<-hpr]at go;rcases go with⟨k,i,g1,g2,g3,g4,g5,g6⟩|⟨g1,g2⟩
  ·have e:∀f,f=(fun(i:Nat)=>(es[i]?.map (fun(e:Int×Bs)=>e.1)).getD 0)->t.probe f (tupleKeyHash knd kx) p=some (.candidate (itM t.mask k p).j i (itM t.mask (k+1) p)):=fun f hf=>by rw[hf];exact g5
   have hi:i<es.size:=by simpa using g2
   obtain⟨ky,b,q1,q2,q3,q4⟩:=hk.at_ i es[i] (by rw[Cf,Cp hi]);have hei:es[i]? =some (es[i].1,.ref b):=by rw[Cp hi,<-q2]
   have key_ne:∀k' i',k'<k->t.place.getD i' 0=(itM t.mask k' p).j->i'<es.size->ks[i']? ≠some kx:=fun k' i' hk' hi' hl hq=>by
    have hl':i'<es.toList.length:=by simpa using hl
    obtain⟨kz,c,z1,z2,z3,z4⟩:=hk.at_ i' es.toList[i'] (Bo hl');rw[z1]at hq;cases hq;refine g6 k' hk' i' hi' (by simpa using hl) ?_;rw[Bz,Bo hl',<-z4];rfl
   have one:∀i',t.place.getD i' 0=(itM t.mask k p).j->i'<es.size->i'=i:=fun i' hi' hl=>by
    have h1':i'<t.place.size:=by have:=T.sz;simp at this;omega
    have h2':i<t.place.size:=by have:=T.sz;simp at this;omega
    rw[<-fY T.up h1',hi',<-g3,fY T.up h2']
   have again:ky≠kx->wpAny (model prog w) A (setSearchFrom a (.ref x) (tupleKeyHash knd kx) adding fuel<|some<|itM t.mask (k+1) p) Q E s:=fun hne=>by
    have ad:∀n,itM t.mask n (itM t.mask (k+1) p)=itM t.mask (k+1+n) p:=fun n=>(eY t.mask (k+1) n p).symm;refine ih (G-(k+1)) (some<|itM t.mask (k+1) p) ?_ (by omega) (by omega) ?_ ?_ ?_ ?_;·exact x5 (k+1) hdm
    ·show ¬InP t.place (itM t.mask _<|itM t.mask (k+1) p).j;rw[ad,show k+1+(G-(k+1))=G by omega];exact hn
    ·intro k' hk';show InP t.place (itM t.mask _<|itM t.mask (k+1) p).j;rw[ad];exact ha _ (by omega)
    ·rintro ⟨k',i',r1,r2,r3⟩ r hr;have r2':t.place.getD i' 0=(itM t.mask k'<|itM t.mask (k+1) p).j:=r2;rw[ad]at r2';exact h1 ⟨k+1+k',i',by omega,r2',r3⟩ r hr
    ·intro r;show Q (.free (itM t.mask _<|itM t.mask (k+1) p).j false) s;rw[ad,show k+1+(G-(k+1))=G by omega];refine h2 fun k' i' z1 z2 z3=>?_;by_cases y1:k'<k;·exact key_ne k' i' y1 z2 z3
     ·by_cases y2:k'=k
      ·subst y2;rw[one i' z2 z3,q1];intro z;injection z with z;exact hne z
      ·refine r (k'- (k+1)) i' (by omega) ?_ z3;show t.place.getD i' 0=(itM t.mask _<|itM t.mask (k+1) p).j;rw[ad,show k+1+(k'-(k+1))=k' by omega];exact z2
   have hlive:t.slot (itM t.mask k p).j=.live i:=by rw[<-g3];exact T.live (by have:=T.sz;simp at this;omega)
   have hmem:t.sameMemory t.moves t.mask=some true:=by unfold SetTable.sameMemory;simp
   rw[e]
   ·dsimp only;simp only[hei];by_cases hl:t.led=true
    ·rw[if_neg (by simp[hl])];refine Bl<|Cz<|(tupleKind knd).eqBool hu q3 hx ?_;refine Bl<|D9 ho hd T.fits ?_;dsimp only;by_cases hq:ky=kx
     ·rw[decide_eq_true hq];have hw:∃k i,k<G/\t.place.getD i 0=(itM t.mask k p).j/\ks[i]? =some kx:=⟨k,i,g1,g3,hq▸q1⟩
      cases adding with
      |true=>
       rw[if_pos (by decide)];exact Bq<|h1 hw none rfl
      |false=>
       rw[if_neg (by decide),hmem];dsimp only;rw[if_pos rfl,hlive];dsimp only;rw[hei];dsimp only;refine Bl<|Ez ?_;refine Bl<|Bq ?_;exact Bq<|h1 hw (some i) rfl
     ·rw[decide_eq_false hq,if_neg (by cases adding <;> decide),hmem];dsimp only;rw[if_pos rfl,hlive];dsimp only;rw[hei];dsimp only;refine Bl<|Ez ?_;refine Bl<|Bq ?_;exact again hq
    ·rw[if_pos (by simp[hl])];refine Bl<|seen _ _ (fun y hy=>?_) ?_
     ·obtain⟨z,hz,rfl⟩:=BX.mp hy;exact⟨z,by simp at hz;simpa using hz.1,rfl⟩
     rw[if_neg (by decide)];refine Bl<|Cz<|(tupleKind knd).eqBool hu q3 hx ?_;refine Bl<|D9 ho hd T.fits ?_;dsimp only;by_cases hq:ky=kx
     ·rw[decide_eq_true hq];have hw:∃k i,k<G/\t.place.getD i 0=(itM t.mask k p).j/\ks[i]? =some kx:=⟨k,i,g1,g3,hq▸q1⟩
      cases adding with
      |true=>
       rw[if_pos (by decide)];exact Bq<|h1 hw none rfl
      |false=>
       rw[if_neg (by decide),hmem];dsimp only;rw[if_pos rfl,hlive];dsimp only;rw[hei];dsimp only;refine Bl<|Ez ?_;refine Bl<|Bq ?_;exact Bq<|h1 hw (some i) rfl
     ·rw[decide_eq_false hq,if_neg (by cases adding <;> decide),hmem];dsimp only;rw[if_pos rfl,hlive];dsimp only;rw[hei];dsimp only;refine Bl<|Ez ?_;refine Bl<|Bq ?_;exact again hq
   ·rfl
  ·have e:∀f,f=(fun(i:Nat)=>(es[i]?.map (fun(e:Int×Bs)=>e.1)).getD 0)->t.probe f (tupleKeyHash knd kx) p=some (.empty (itM t.mask G p).j none):=fun f hf=>by rw[hf];exact g1
   rw[e]
   ·refine Bq<|h2 fun k i hk' hi hl hq=>?_;have hl':i<es.toList.length:=by simpa using hl
    obtain⟨ky,b,q1,q2,q3,q4⟩:=hk.at_ i es.toList[i] (Bo hl');rw[q1]at hq;cases hq;refine g2 k hk' i hi (by simpa using hl) ?_;rw[Bz,Bo hl',<-q4];rfl
   ·rfl
end
section
variable{prog:BK}{w:BQ}{K:Type}[DecidableEq K]{knd:KeyKind prog w K}{A:Ck}{E:Bs->Bu->Prop}{s:Bu}
theorem qW{n:Nat}{v:Bs}(h:carriedByValue v=true):ofAClassStatement n v=pure false:=by
 cases v<;>first|(cases n<;>rfl)|(exfalso;revert h;simp[carriedByValue])
theorem kS{ks:List K}{a:Addr}{Q:Bool->Bu->Prop}(hk:D6 knd s.heap ks a)(h:Q false s):wpAny (model prog w) A (ofAClassStatement 8<|.ref a) Q E s:=by
 have hT:=hk.typeIs;obtain⟨o,items,n,ho,_,hd,hi⟩:=hk;unfold ofAClassStatement;refine Bl<|wpAny_typeOf hT ?_;dsimp only;rw[if_pos (by rfl)];refine Bl<|Bq ?_;rw[if_neg (by decide)];refine Bl<|Cu ho hd ?_;dsimp only;refine Bl ?_;show wpAny _ _ (forIn items _ _) _ _ s;rw[<-IA];refine GZ _ (fun rest r s'=>r.1=none/\s'=s/\∀v∈rest,carriedByValue v=true) _ ?_ ?_ _ _ ⟨rfl,rfl,hi.byValue⟩
 ·rintro v rest r s' ⟨hr,rfl,hall⟩;rw[qW<|hall v BN];refine Bl<|Bq ?_;simp only[C6,if_false];exact Bq ⟨rfl,rfl,fun u hu'=>hall u<|BP _ hu'⟩
 ·rintro ⟨r1,r2⟩ s' ⟨hr,rfl,_⟩;simp only at hr;subst hr;exact Bq h
theorem nc{kx:List K}{x:Addr}(hx:D6 knd s.heap kx x):∀(l:List Bs){Q:Bool->Bu->Prop},(∀y∈l,∃k b,y=.ref b/\D6 knd s.heap k b)->Q false s->wpAny (model prog w) A (searchCouldBeSeen (.ref x) l) Q E s:=by
 intro l Q hl h;unfold searchCouldBeSeen;refine Bl ?_;refine GZ _ (fun rest r s'=>r.1=none/\s'=s/\∀y∈rest,∃k b,y=.ref b/\D6 knd s.heap k b) _ ?_ ?_ _ _ ⟨rfl,rfl,hl⟩
 ·rintro v rest r s' ⟨hr,rfl,hall⟩;obtain⟨k,b,rfl,hb⟩:=hall v BN;dsimp only;by_cases z:x=b
  ·rw[if_pos (by simp[z])];exact Bq ⟨rfl,rfl,fun u hu'=>hall u<|BP _ hu'⟩
  ·rw[if_neg (by simp[z,carriedByValue])];refine Bl<|(tupleKind knd).quiet hx ?_;simp only[FI,C6,if_false];refine Bl<|(tupleKind knd).quiet hb ?_;simp only[FI,C6,if_false];refine Bl<|kS hx ?_;simp only[C6,if_false];refine Bl<|kS hb ?_;simp only[C6,if_false];exact Bq ⟨rfl,rfl,fun u hu'=>hall u<|BP _ hu'⟩
 ·rintro ⟨r1,r2⟩ s' ⟨hr,rfl,_⟩;simp only at hr;subst hr;exact Bq h
end
section
variable{prog:BK}{w:BQ}{K:Type}[DecidableEq K]{knd:KeyKind prog w K}
theorem ng{h h':Heap}{a b:Addr}{o:Obj}{es:Array (Int×Bs)}{ep:Nat}{t:Cy}{k:List K}(hk:D6 knd h k b)(ho:h.get? a=some o)(hd:o.data=.set es ep t)(hs:BO a h h'):D6 knd h' k b:=by
 obtain⟨ob,items,n,h1,h2,h3,h4⟩:=hk;have ne:b≠a:=fun z=>by
  subst z;rw[ho]at h1;cases h1;rw[hd]at h3;cases h3
 exact⟨ob,items,n,(hs.2 b ne).trans h1,h2,h3,h4⟩
theorem TupsOf.keep{h h':Heap}{a:Addr}{o:Obj}{es:Array (Int×Bs)}{ep:Nat}{t:Cy}{l:List (Int×Bs)}{ks:List (List K)}(T:TupsOf knd h l ks)(ho:h.get? a=some o)(hd:o.data=.set es ep t)(hs:BO a h h'):TupsOf knd h' l ks:=
 ⟨T.len,fun i e he=>let ⟨k,b,q1,q2,q3,q4⟩:=T.at_ i e he;⟨k,b,q1,q2,ng q3 ho hd hs,q4⟩⟩
end
section
variable{prog:BK}{w:BQ}{K:Type}[DecidableEq K]{knd:KeyKind prog w K}{A:Ck}{E:Bs->Bu->Prop}{s:Bu}
theorem tJ{ks:List K}{a:Addr}{Q:Bool->Bu->Prop}(hI:∀k∈ks,∀v,knd.is k v=true->∃i t,v=.int i t)(hk:D6 knd s.heap ks a)(h:Q true s):wpAny (model prog w) A (hashByValue 8<|.ref a) Q E s:=by
 have hT:=hk.typeIs;obtain⟨o,items,n,ho,_,hd,hi⟩:=hk;unfold hashByValue;refine Bl<|FV hT F.slot_tuple_hash.lookup ?_;show wpAny _ _ (seqItems? (.ref a)>>=_) _ _ s;refine Bl<|Cu ho hd ?_;dsimp only;refine Bl ?_;show wpAny _ _ (forIn items _ _) _ _ s;rw[<-IA];have hall:∀v∈items.toList,∃i t,v=.int i t:=by
  clear hd ho;generalize items.toList=l at hi
  induction hi with
  |nil=>intro v hv;cases hv
  |cons h1 _ ih=>
   intro v hv;rcases BM.mp hv with rfl|hv
   ·exact hI _ (BN ..) _ h1
   ·exact ih (fun k hk=>hI k<|BP _ hk) v hv
 refine GZ _ (fun rest r s'=>r.1=none/\s'=s/\∀v∈rest,∃i t,v=ES i t) _ ?_ ?_ _ _ ⟨rfl,rfl,hall⟩
 ·rintro v rest r s' ⟨hr,rfl,hall⟩;obtain⟨i,t,rfl⟩:=hall v BN;show wpAny _ _ (hashByValue 7 (.int i t)>>=_) _ _ _;rw[show hashByValue 7 (.int i t)=pure true from rfl];refine Bl<|Bq ?_;exact Bq ⟨rfl,rfl,fun u hu'=>hall u<|BP _ hu'⟩
 ·rintro ⟨r1,r2⟩ s' ⟨hr,rfl,_⟩;simp only at hr;subst hr;exact Bq h
structure SetT(knd:KeyKind prog w K)(h:Heap)(a:Addr)(led:Bool)(ks:List (List K))(o:Obj)(es:Array (Int×Bs))(ep:Nat)(t:Cy):Prop where
 at_:h.get? a=some o
 ex:o.ExactSet
 dat:o.data=.set es ep t
 tab:Tb t (es.toList.map (·.1))
 tup:TupsOf knd h es.toList ks
 nd:ks.Nodup
 led:t.led=led
 pl:t.plain=true
theorem Tp.fits{t:Cy}{es:Array (Int×Bs)}(T:Tp t (es.toList.map (·.1)))(h:es.size<=t.mask):t.fits es.size=true:=by
 have h1:=T.sz;have h3:=T.dm;simp at h1;unfold Kl Ia;rw[h3];simp;omega
theorem Tp.full{t:Cy}{es:Array (Int×Bs)}(T:Tp t (es.toList.map (·.1))):t.tooFull=decide (es.size*5≥t.mask*3):=by
 have h1:=T.sz;simp at h1;unfold SetTable.tooFull Ia;rw[T.dm,h1];simp
theorem vR{es:Array (Int×Bs)}{order:Array Nat}(h:order.toList.Perm (Cv es.size)):(order.filterMap (es[·]?)).toList=order.toList.map fun i=>es.toList.getD i (0,.none):=by
 rw[Array.toList_filterMap];have:∀i∈order.toList,i<es.size:=fun i hi=>by have:=h.mem_iff.mp hi;simpa using this
 generalize order.toList=l at this;clear h
 induction l with
 |nil=>rfl
 |cons i l ih=>
  have hi:=this i<|BN ..;rw[Ea,Cp hi,CP,ih fun j hj=>this j<|BP _ hj];congr 1;rw[BC,Bo (by simpa using hi)];rfl
theorem iJ{α:Type}(l:List α)(d:α):(Cv l.length).map (fun i=>l.getD i d)=l:=by
 apply Dw;intro i;rw[Bz];by_cases z:i<l.length
 ·rw[F0 z,Bo z];simp[BC,z]
 ·rw[CC (by simpa using z),CC (by simpa using z)];rfl
theorem TupsOf.order{h:Heap}{es:List (Int×Bs)}{ks:List (List K)}(U:TupsOf knd h es ks){l:List Nat}(hl:l.Perm (Cv es.length)):TupsOf knd h (l.map fun i=>es.getD i (0,.none)) (l.map fun i=>ks.getD i []):=by
 refine⟨by simp,fun i e he=>?_⟩;rw[Bz]at he;obtain⟨j,hj,e1⟩:=Cs.mp he;have hlt:j<es.length:=by have:=hl.mem_iff.mp<|BI hj;simpa using this
 obtain⟨k,b,q1,q2,q3,q4⟩:=U.at_ j es[j] (Bo hlt);have e2:e=es[j]:=by rw[<-e1,BC,Bo hlt];rfl
 subst e2;refine⟨k,b,?_,q2,q3,q4⟩;rw[Bz,hj];simp[BC,q1]
theorem tK{a:Addr}{o:Obj}{es es1:Array (Int×Bs)}{ep n:Nat}{t t1:Cy}{led:Bool}{ks1:List (List K)}(ho:s.heap.get? a=some o)(hex:o.ExactSet)(hd:o.data=.set es ep t)(T1:Tp t1 (es1.toList.map (·.1)))(U1:TupsOf knd s.heap es1.toList ks1)(nd1:ks1.Nodup)(hl:t1.led=led)(hpl:t1.plain=true)(hn:es1.size=n)(h0:0<n)(h63:n<=1000)(hr:(n-1)*5<t1.mask*3){Q:Bool->Bu->Prop}
  (h:∀h' ks' o' es' ep' t',BO a s.heap h'->SetT knd h' a led ks' o' es' ep' t'->ks'.Perm ks1->es'.toList.Perm es1.toList->Q true {s with heap:=h'}):
  wpAny (model prog w) A (do
    storeSet a es1 t1
    if(!false&&t1.tooFull)=true then setRelay a (EO n)
    pure true) Q E s:=by
 have put:∀(s:Bu)(o:Obj)es ep t(es':Array (Int×Bs))(t':Cy),s.heap.get? a=some o->o.data=.set es ep t->(s.heap.update a<|Gp es' t').get? a=some {o with data:=.set es' (ep+1) t'}:=fun s o es ep t es' t' ho hd=>by
  have:=Dj (Gp es' t') ho (by rw[putSet_of es' t' hd];rfl);rw[putSet_of es' t' hd]at this;exact this
 have big:1000<=sizeLine:=by rw[Cg];omega
 have mk:=T1.msk;refine Bl (IU ho hd ?_ (by omega));have ho1:=put s o es ep t es1 t1 ho hd;have sb1:=CJ s.heap a<|Gp es1 t1;have U2:=U1.keep ho hd sb1;rw[T1.full];by_cases z:es1.size*5≥t1.mask*3
 ·rw[decide_eq_true z,if_pos (by rfl)];unfold setRelay;refine Bl (Bl (D9 ho1 rfl (T1.fits (by rcases mk with y|y|y|y|y<;>omega)) ?_));dsimp only;have hw:Fh (EO n)<=2048/\isMask (Fh (EO n)-1)/\n*5<(Fh (EO n)-1)*3:=by
   rcases mk with y|y|y|y|y
   ·have:n=5:=by omega
    subst this;exact⟨by decide,.inr (.inl (by decide)),by decide⟩
   ·have:n=19:=by omega
    subst this;exact⟨by decide,.inr (.inr (.inl (by decide))),by decide⟩
   ·have:n=77:=by omega
    subst this;exact⟨by decide,.inr (.inr (.inr (.inl (by decide)))),by decide⟩
   ·have:n=307:=by omega
    subst this;exact⟨by decide,.inr (.inr (.inr (.inr (by decide)))),by decide⟩
   ·omega
  rw[if_neg (by have:=hw.1;rw[Cg];omega)];obtain⟨t2,order,e2,m2,l2,p2,pm,T2⟩:=vQ hw.2.1 (hs:=es1.map (·.1)) (by simp;omega) t1.finger (t1.movedTo<|Fh (EO n)-1) t1.led t1.plain;have er:t1.relaid (es1.map (·.1)) (EO n)=some (t2,order):=e2;have pm':order.toList.Perm (Cv es1.size):=by simpa using pm
  have fm:=vR (es:=es1) pm';have fs:(order.filterMap (es1[·]?)).size=es1.size:=by
   rw[<-Cr,fm,BJ,pm'.length_eq,IW]
  rw[er];have key:∀(f:Array (Int×Bs)->Option (Cy×Array Nat)->Sem (Array (Int×Bs)×Cy))(R:(Array (Int×Bs)×Cy)->Bu->Prop)(s:Bu),(∀es l,f es l=(do
     let some (t,order):=l|unsupported "internal:set-table-without-room"
     let es':=order.filterMap (es[·]?)
     if es'.size != es.size then unsupported "internal:set-table-lost-an-element"
     pure (es',t)))->R (order.filterMap (es1[·]?),t2) s->wpAny (model prog w) A (f es1 (some (t2,order))) R E s:=fun f R s hf hR=>by
   rw[hf];dsimp only;rw[if_neg (by rw[fs];simp)];exact Bq hR
  refine Bl<|key _ _ _ (fun _ _=>rfl) ?_;dsimp only;refine IU ho1 rfl ?_ (by rw[fs];omega);have ho2:=put {s with heap:=s.heap.update a (Gp es1 t1)} _ _ _ _ (order.filterMap (es1[·]?)) t2 ho1 rfl;have sb2:=CJ (s.heap.update a<|Gp es1 t1) a (Gp (order.filterMap (es1[·]?)) t2);have U3:=U2.order (l:=order.toList) (by simpa using pm');rw[<-fm]at U3;have U4:=U3.keep ho1 rfl sb2;have pk:(order.toList.map fun i=>ks1.getD i []).Perm ks1:=by
   have:=pm'.map<|fun i=>ks1.getD i [];have hl:es1.size=ks1.length:=by have:=U1.len;simpa using this
   rw[hl,iJ]at this;exact this
  have pe:(order.filterMap (es1[·]?)).toList.Perm es1.toList:=by
   rw[fm];have:=pm'.map<|fun i=>es1.toList.getD i (0,Ct);have hl:es1.size=es1.toList.length:=by simp
   rw[hl,iJ]at this;exact this
  refine Bq (h _ _ _ _ _ _ (sb1.trans sb2) ⟨ho2,hex,rfl,⟨?_,?_⟩,U4,pk.nodup_iff.mpr nd1,by rw[l2];exact hl,by rw[p2];exact hpl⟩ pk pe)
  ·rw[fm,Eo];have:((fun x:Int×Bs=>x.1)∘fun i=>es1.toList.getD i (0,.none))=fun i=>(es1.map (·.1)).toList.getD i 0:=funext fun i=>by
    simp only[Function.comp,BC,Jb,Bz];cases es1.toList[i]? <;>rfl
   rw[this];exact T2
  ·rw[BJ,Cr,fs,m2];have:=hw.2.2;omega
 ·rw[decide_eq_false z,if_neg (by decide)];refine Bq (h _ _ _ _ _ _ sb1 ⟨ho1,hex,rfl,⟨T1,by simp;omega⟩,U2,nd1,hl,hpl⟩ (.refl _)<|.refl _)
theorem pL{a x:Addr}{o:Obj}{es:Array (Int×Bs)}{ep:Nat}{t:Cy}{led:Bool}{ks:List (List K)}{kx:List K}(hu:A.units<cLine)(S:SetT knd s.heap a led ks o es ep t)(hn:es.size<1000)(hx:D6 knd s.heap kx x)(hI:∀k∈kx,∀v,knd.is k v=true->∃i t,v=.int i t)
  {Q:Bool->Bu->Prop} {fuel:Nat}
  (h1:kx∈ks->Q false s) (h2:kx∉ks->∀h' ks' o' es' ep' t',BO a s.heap h'->SetT knd h' a led ks' o' es' ep' t'->ks'.Perm (kx::ks)->es'.toList.Perm ((tupleKeyHash knd kx,.ref x)::es.toList)->Q true {s with heap:=h'}):
  wpAny (model prog w) A (setAddHashedIn a (.ref x) (tupleKeyHash knd kx)<|fuel+1) Q E s:=by
 unfold setAddHashedIn;refine Bl<|D9 S.at_ S.dat S.tab.fits ?_;dsimp only;rw[if_neg (by unfold byScan;simp[Js])];obtain⟨G,g1,g2,g3⟩:=S.tab.gap<|n5 t<|tupleKeyHash knd kx;have mem:∀i,i<es.size->ks[i]? =some kx->∃k,k<G/\t.place.getD i 0=(itM t.mask k<|t.probeStart<|tupleKeyHash knd kx).j:=fun i hi z=>by
  have hi':i<es.toList.length:=by simpa using hi
  obtain⟨k,b,q1,q2,q3,q4⟩:=S.tup.at_ i es.toList[i] (Bo hi');rw[q1]at z;cases z;obtain⟨n,r1,r2⟩:=S.tab.reach i (tupleKeyHash knd kx) (by rw[Bz,Bo hi',<-q4];rfl);refine⟨n,?_,r1.symm⟩;by_cases y:n<G;·exact y
  ·by_cases y2:n=G
   ·subst y2;refine absurd ?_ g2;rw[r1];exact⟨i,by have:=S.tab.sz;simp at this;omega,rfl⟩
   ·exact absurd (r2 G (by omega)) g2
 refine Bl ?_;unfold setSearch;have ht:t.mask<=2047:=by rcases S.tab.msk with z|z|z|z|z<;>omega
 refine jH (knd:=knd) hu S.at_ S.dat S.tab S.tup hx (fun l Q hl h=>nc hx l (fun y hy=>?_) h) 100000 G none rfl (by unfold CW at g1;omega) g1 g2 g3 ?_ ?_
 ·obtain⟨e,he,rfl⟩:=hl y hy;obtain⟨i,hi,rfl⟩:=CH.mp he;obtain⟨k,b,q1,q2,q3,q4⟩:=S.tup.at_ i es.toList[i] (Bo hi);exact⟨k,b,q2,q3⟩
 ·rintro ⟨k,i,_,_,hq⟩ r hr;exact Bq<|h1<|BI hq
 ·intro hall;have nin:kx∉ks:=fun hm=>by
   obtain⟨i,hi,e⟩:=CH.mp hm;have hi':i<es.size:=by have:=S.tup.len;simp at this;omega
   have hq:ks[i]? =some kx:=by rw[Bo hi,e]
   obtain⟨k,q1,q2⟩:=mem i hi' hq;exact hall k i q1 q2 hi' hq
  refine Bl<|D9 S.at_ S.dat S.tab.fits ?_;dsimp only;have jle:(itM t.mask G<|t.probeStart<|tupleKeyHash knd kx).j<=t.mask:=x4 (m:=t.mask) (h:=tupleKeyHash knd kx) G;obtain⟨p1,p2,p3⟩:=S.tab.put g2 jle g3;have led1:(t.put (itM t.mask G<|t.probeStart<|tupleKeyHash knd kx).j).1.led=t.led:=rfl;simp only[GW];generalize hP:t.put (itM t.mask G<|t.probeStart<|tupleKeyHash knd kx).j=P at*
  obtain⟨t1,p⟩:=P;dsimp only at p1 p2 p3 led1;have hp:p<=es.size:=by simpa using p1
  have il:=jG es p (tupleKeyHash knd kx,CL x);have T1:Tp t1 ((D8 es p (tupleKeyHash knd kx,CL x)).toList.map (·.1)):=by
   rw[il,List.map_append,CP,List.map_take,List.map_drop];exact p3
  have U1:TupsOf knd s.heap (D8 es p (tupleKeyHash knd kx,CL x)).toList (ks.take p++kx::ks.drop p):=by
   have hlen:=S.tup.len;have hp2:p<=ks.length:=by simp at hlen;omega
   rw[il];refine⟨by simp[hlen],fun i e he=>?_⟩;have l1:(es.toList.take p).length=p:=by simp;omega
   have l2:(ks.take p).length=p:=by simp;omega
   by_cases z:i<p
   ·rw[BG (by omega),CA z]at he;obtain⟨k,b,q⟩:=S.tup.at_ i e he;exact⟨k,b,by rw[BG (by omega),CA z];exact q.1,q.2⟩
   ·rw[BH (by omega),l1]at he;rw[BH (by omega),l2];by_cases y:i=p
    ·rw[y,Gd,Dc]at he ⊢;cases he;exact⟨kx,x,rfl,rfl,hx,rfl⟩
    ·rw[show i- p=(i- p- 1)+1 by omega,CN,CT]at he ⊢;exact S.tup.at_ _ e he
  have pk:(ks.take p++kx::ks.drop p).Perm (kx::ks):=Jc.trans (.cons kx (by rw[HA]));have nd1:(ks.take p++kx::ks.drop p).Nodup:=pk.nodup_iff.mpr<|DQ.mpr ⟨nin,S.nd⟩;have room:=S.tab.room;have pl1:t1.plain=true:=by have:=S.pl;rw[<-this];have e:=congrArg (fun z:Cy×Nat=>z.1.plain) hP;exact e.symm
  rw[if_pos pl1];refine Bl<|tJ hI hx ?_;exact tK S.at_ S.ex S.dat T1 U1 nd1 (led1.trans S.led) pl1 (eU es hp _) (by omega) (by omega) (by rw[p2];simpa using room) fun h' ks' o' es' ep' t' a1 a2 a3 a4=>h2 nin h' ks' o' es' ep' t' a1 a2 (a3.trans pk) (a4.trans (by rw[il];exact Jc.trans (.cons _ (by rw[HA]))))
end
end Wb
namespace Wb
open PySem PySem.W PySem.Calls PyProof.Rows
theorem sl_next:Slot "set_iterator" "__next__" "set_iterator.__next__":=
 .of (owner:="set_iterator") (n:="__next__") (by rw[Jt,HB];kernel_rfl) (by decide +kernel) (by decide +kernel) (by decide +kernel)
  (by first|exact .inl (by decide +kernel)|exact .inr (by decide +kernel)) (by rw[HS];kernel_rfl)
theorem pM:Slot "set_iterator" "__iter__" "set_iterator.__iter__":=
 .of (owner:="set_iterator") (n:="__iter__") (by rw[Jt,HB];kernel_rfl) (by decide +kernel) (by decide +kernel) (by decide +kernel)
  (by first|exact .inl (by decide +kernel)|exact .inr (by decide +kernel)) (by rw[HS];kernel_rfl)
theorem pN:entryFor table "set_iterator.__next__"=some DS.«set_iterator.__next__»:=entryFor_of_tree (by kernel_rfl)
theorem vS:entryFor table "set_iterator.__iter__"=some DS.«dict_keyiterator.__iter__»:=JJ (id':="dict_keyiterator.__iter__") (by kernel_rfl) rfl (by decide +kernel) (by kernel_rfl)
theorem xV:entryFor table "set.__iter__"=some DS.«frozenset.__iter__»:=JJ (id':="frozenset.__iter__") (by kernel_rfl) rfl (by decide +kernel) (by kernel_rfl)
theorem pO:Manifest.owners.lookup (String.ofList ['r','o','t','a','r','e','t','i','_','t','e','s'].reverse)=some Manifest.sig_set_iterator:=by kernel_rfl
theorem pP(a:Bs):argsOk "set_iterator.__next__" ⟨[a],[]⟩:=by
 unfold argsOk;rw[Hr (id:="set_iterator.__next__") (n:=['_','_','t','x','e','n','_','_']) (o:=['r','o','t','a','r','e','t','i','_','t','e','s']) (by kernel_rfl) pO];kernel_rfl
theorem vT(a:Bs):argsOk "set_iterator.__iter__" ⟨[a],[]⟩:=by
 unfold argsOk;rw[Hr (id:="set_iterator.__iter__") (n:=['_','_','r','e','t','i','_','_']) (o:=['r','o','t','a','r','e','t','i','_','t','e','s']) (by kernel_rfl) pO];kernel_rfl
theorem jI{α:Type}:∀(l:List α)(i:Nat)(h:i<l.length),(l[i]::l.eraseIdx i).Perm l
 |a::l,0,_=>.refl _
 |a::l,i+1,h=>by
  have h2:i<l.length:=by simpa using h
  exact(List.Perm.swap a l[i] (l.eraseIdx i)).trans (.cons a<|jI l i h2)
theorem kT{α:Type}(next:Nat->Nat):∀(fuel k:Nat)(left:List α)(out:Array α),fuel=left.length->(IX next fuel k left out).toList.Perm (out.toList++left)
 |0,k,left,out,h=>by
  have:left=[]:=DM.mp h.symm;subst this;unfold IX;simp
 |fuel+1,k,left,out,h=>by
  unfold IX;have hl:next k%left.length<left.length:=Gm _ (by omega)
  rw[Bo hl];dsimp only;refine(kT next fuel (k+1) _ _ (by rw[Dn];simp[hl];omega)).trans ?_;rw[IT,Du];refine List.Perm.append_left _ ?_;exact jI left _ hl
def dD(w:BQ)(a:Addr)(ep:Nat)(es:Array (Int×Bs)):Array (Int×Bs):=if w.params.followText "set-order"=true then pickOrder (w.params.setOrder a ep) es else es
theorem i8(w:BQ)(a:Addr)(ep:Nat)(es:Array (Int×Bs)):(dD w a ep es).toList.Perm es.toList:=by
 unfold dD;split
 ·have:=kT (w.params.setOrder a ep) es.size 0 es.toList #[] (by simp);simp only[G0]at this;exact this
 ·exact .refl _
def cj(w:BQ)(t:Cy)(i:Nat):Int:=if w.params.followText "set-order"=true then 0 else if i=0 then 0 else(t.place.getD (i-1) 0:Int)+1
theorem oa{w:BQ}{t:Cy}{hs:List Int}(T:Tp t hs)(hb:¬w.params.followText "set-order"=true){i:Nat}(hi:i<=t.place.size):CV t.place (cj w t i).toNat=i:=by
 obtain⟨b0,b1,b2⟩:=i5 T.up (cj w t i).toNat;generalize hB:CV t.place (cj w t i).toNat=b at*
 have e:(cj w t i).toNat=if i=0 then 0 else t.place.getD (i-1) 0+1:=by
  unfold cj;rw[if_neg hb];split<;>omega
 rw[e]at b1 b2;by_cases z:i=0
 ·rw[if_pos z]at b1;by_cases y:b=0;·omega
  ·have:=b1 0 (by omega);omega
 ·rw[if_neg z]at b1 b2;by_cases y:b<i
  ·have:=b2 (i- 1) (by omega) (by omega);omega
  ·by_cases y2:i< b
   ·have h1:=b1 i y2;have h2:=T.up (i-1) i (by omega) (by omega);omega
   ·omega
def jJ(w:BQ)(a:Addr)(t:Cy)(n ep i:Nat):Obj:={cls:=.type "set_iterator",dict:=none,data:=.fields #[.int (cj w t i) 0,.int i 0,.ref a,.int n 0,.int ep 0],slots:= #[]}
section
variable{prog:BK}{w:BQ}{A:Ck}{E:Bs->Bu->Prop}{s:Bu}{a I:Addr}{o:Obj}{es:Array (Int×Bs)}{ep:Nat}{t:Cy}
theorem nh{i:Nat}{Q:Option (Bs×Nat)->Bu->Prop}(ho:s.heap.get? a=some o)(hd:o.data=.set es ep t)(T:Tp t (es.toList.map (·.1)))(hf:t.fits es.size=true)(hl:t.led= !w.params.followText "set-order")(hp:t.plain=true)(hi:i<=es.size)
  (h:Q (((dD w a ep es)[i]?).map fun e=>(e.2,(cj w t<|i+1).toNat)) s):wpAny (model prog w) A (setNext a (cj w t i).toNat i ep) Q E s:=by
 have hsz:t.place.size=es.size:=by have:=T.sz;simpa using this
 unfold setNext;refine Bl<|D9 ho hd hf ?_;dsimp only;unfold setsByText;refine Bl<|Bl<|DU<|Bq ?_;show wpAny (model prog w) A (if w.params.followText "set-order"=true then _ else _) Q E s;by_cases z:w.params.followText "set-order"=true
 ·rw[if_pos z,if_neg (by simp)];unfold setWalk;refine Bl<|Bl<|D9 ho hd hf ?_;dsimp only;unfold setsByText;refine Bl<|Bl<|DU<|Bq ?_;show wpAny (model prog w) A (if w.params.followText "set-order"=true then _ else _) _ E s;rw[if_pos z];refine Bl<|DU<|Bq<|Bq ?_;unfold dD cj at h;rw[if_pos z,if_pos z]at h;unfold cj;rw[if_pos z];exact h
 ·rw[if_neg z];refine G1 (fun hab=>absurd hab (show ¬((!t.plain&&decide (es.size>1))=true) by rw[hp];simp))<|fun _=>?_;show wpAny _ _ ((if(!t.led&& !es.isEmpty)=true then unsupported _ else pure ())>>=_) _ _ _;rw[if_neg (by rw[hl];simp[z])];refine Bl<|Bq ?_;rw[oa T z (by omega)];unfold dD at h;rw[if_neg z]at h;by_cases y:i<es.size
  ·have y2:i< t.place.size:=by omega
   rw[Cp y]at h ⊢;rw[Cp y2];have e:(cj w t<|i+1).toNat=t.place[i]+1:=by
    unfold cj;rw[if_neg z,if_neg (by omega),show i+1-1=i by omega];have:t.place.getD i 0=t.place[i]:=by simp[DV,y2]
    omega
   simp only[Ew,e]at h;exact Bq h
  ·rw[Es (by omega)]at h ⊢;exact Bq h
end
section
variable{prog:BK}{w:BQ}{A:Ck}{E:Bs->Bu->Prop}{s:Bu}{a I:Addr}{o:Obj}{es:Array (Int×Bs)}{ep:Nat}{t:Cy}
theorem jK{n i:Nat}(h:s.heap.get? I=some (jJ w a t n ep i)):s.TypeIs (.ref I) "set_iterator":=⟨_,h,rfl⟩
structure SetR(w:BQ)(o:Obj)(es:Array (Int×Bs))(ep:Nat)(t:Cy):Prop where
 ex:o.ExactSet
 dat:o.data=.set es ep t
 tab:Tb t (es.toList.map (·.1))
 led:t.led= !w.params.followText "set-order"
 pl:t.plain=true
theorem tL{Q:Bs->Bu->Prop}(R:SetR w o es ep t)(ho:s.heap.get? a=some o)(h:Q (.ref s.heap.objs.size) {s with heap:=s.heap.push (jJ w a t es.size ep 0)}):wpAny (model prog w) A (pyIter<|.ref a) Q E s:=by
 have hT:s.TypeIs (.ref a) "set":=⟨o,ho,R.ex.1⟩
 refine Ft hT Ju<|C7 Ju hT xV ?_<|F.args_set_iter_1 _;unfold DS.«frozenset.__iter__»;refine Bl (m:=Kr _ _)<|Bq ?_;unfold Km;refine Bl<|Bl<|Ga ho R.dat R.tab.fits<|Bq ?_;unfold setDrawn;refine Bl<|Bl<|D9 ho R.dat R.tab.fits ?_;dsimp only;unfold setsByText;refine Bl<|Bl<|DU<|Bq<|Bq ?_;refine G1 (fun hab=>absurd hab (show ¬((!w.params.followText "set-order"&&(!t.plain&&decide (es.size>1)))=true) by rw[R.pl];simp))<|fun _=>?_;refine Bl<|Bq ?_;refine Bl<|wpAny_setEpoch_of ho R.dat R.tab.fits ?_;have e0:cj w t 0=0:=by unfold cj;split<;>rfl
 refine Bl<|D7<|Bq ⟨_,rfl,"set_iterator",_,⟨_,By _ rfl,rfl⟩,sl_next.lookup,?_⟩;unfold jJ at h;rw[e0]at h;exact h
theorem qX{i:Nat}{Q:Option Bs->Bu->Prop}(R:SetR w o es ep t)(ho:s.heap.get? a=some o)(hne:a≠I)(hI:s.heap.get? I=some (jJ w a t es.size ep i)){e:Int×Bs}(he:(dD w a ep es)[i]? =some e)
  (h:∀h',h'.get? I=some (jJ w a t es.size ep<|i+1)->BO I s.heap h'->Q (some e.2) {s with heap:=h'}):wpAny (model prog w) A (pyNext<|.ref I) Q E s:=by
 have hsz:(dD w a ep es).size=es.size:=by have:=(i8 w a ep es).length_eq;simpa using this
 have hi:i<es.size:=by have:=(DW.mp he).1;omega
 have hT:=jK hI;unfold pyNext;refine Bl (E6 (Cn (name:=Bv "__next__") hT sl_next
  (C7 sl_next hT pN ?_ (pP _))))
 unfold DS.«set_iterator.__next__»;refine Bl (m:=slotArgs _ _ _)<|Bq ?_;refine Bl<|Gq hI rfl ?_;dsimp only;refine Bl<|Ga ho R.dat R.tab.fits ?_;rw[if_neg (by simp)];show wpAny _ _ (setNext a (cj w t i).toNat ((i:Int).toNat) ((ep:Int).toNat)>>=_) _ _ _;rw[CQ,CQ];refine Bl (nh ho R.dat R.tab.toTp R.tab.fits R.led R.pl (by omega) ?_);rw[he];dsimp only[Ew];refine Bl (Ee hI rfl (by simp) ?_);have hI1:=Dj (GR (·.setIfInBounds 0 (rawInt ((cj w t<|i+1).toNat:Int)))) hI rfl;refine Bl (Ee hI1 rfl (by simp) ?_);have hI2:=Dj (GR (·.setIfInBounds 1 (rawInt<|(i:Int)+1))) hI1 rfl;refine Bq ⟨_,rfl,Bq<|h _ (hI2.trans ?_)<|(CJ ..).trans (CJ ..)⟩;have e1:((cj w t<|i+1).toNat:Int)=cj w t (i+1):=by unfold cj;split<;>(try split)<;>omega
 rw[e1];rfl
theorem tM{Q:Option Bs->Bu->Prop}(hh:A.handled=none)(R:SetR w o es ep t)(ho:s.heap.get? a=some o)(hne:a≠I)(hI:s.heap.get? I=some (jJ w a t es.size ep es.size))
  (h:∀h',EM I s.heap h'->Q none {s with heap:=h'}):wpAny (model prog w) A (pyNext<|.ref I) Q E s:=by
 have hsz:(dD w a ep es).size=es.size:=by have:=(i8 w a ep es).length_eq;simpa using this
 have hT:=jK hI;unfold pyNext;refine Bl (E6 (Cn (name:=Bv "__next__") hT sl_next
  (C7 sl_next hT pN ?_ (pP _))))
 unfold DS.«set_iterator.__next__»;refine Bl (m:=slotArgs _ _ _)<|Bq ?_;refine Bl<|Gq hI rfl ?_;dsimp only;refine Bl<|Ga ho R.dat R.tab.fits ?_;rw[if_neg (by simp)];show wpAny _ _ (setNext a (cj w t es.size).toNat ((es.size:Int).toNat) ((ep:Int).toNat)>>=_) _ _ _;rw[CQ,CQ];refine Bl (nh ho R.dat R.tab.toTp R.tab.fits R.led R.pl (by omega) ?_);rw[Es (by omega)];dsimp only[Option.map_none];refine Bl (Ee hI rfl (by simp) ?_);show wpAny _ _ (newExc (.type "StopIteration") []>>=_) _ _ _;refine Bl ?_;simp only[newExc,newTuple];refine Bl (D7 ?_ (by size_fits));refine Bl (m:=firstArgMember _ _) (GG (a:=Ct) (by first|rfl|(simp only[firstArgMember];rfl)) ?_);refine D7 ?_ (by size_fits);simp only[raiseNew];refine Bl<|HZ ?_;rw[show A.in1.handled=none from hh];refine Bl<|Bq<|Jk ?_;refine Bl<|DB (T:="StopIteration") (b:=true) ⟨_,By _ rfl,rfl⟩ Eg ?_;exact Bq<|h _<|((CJ ..).extBut.push _).push _
theorem Walks.setOf(hh:A.handled=none)(I a:Addr)(hne:a≠I)(R:SetR w o es ep t):
  Walks prog w A I [I,a] [I] es.size (fun i v=>∃e,(dD w a ep es)[i]? =some e/\v=e.2) (fun i h=>h.get? I=some (jJ w a t es.size ep i)/\h.get? a=some o) where
 sub:=fun b hb=>by simp at hb;simp[hb]
 frame:=fun _ _ _ st hk=>⟨hk I (by simp) _ st.1,hk a (by simp) _ st.2⟩
 item:=fun i s Q E hi st hQ=>by
  have hsz:(dD w a ep es).size=es.size:=by have:=(i8 w a ep es).length_eq;simpa using this
  have he:(dD w a ep es)[i]? =some (dD w a ep es)[i]:=Cp (by omega);refine qX R st.2 hne st.1 he fun h' hI' hs'=>?_;exact hQ _ h' s.toks ⟨_,he,rfl⟩ ⟨hI',hs'.extBut a _ hne st.2⟩ fun b o hb e=>hs'.extBut b o (fun h=>hb (by simp[h])) e
 done:=fun s Q E st hQ=>tM hh R st.2 hne st.1 fun h' he'=>hQ h' s.toks fun b o hb e=>he' b o (fun h=>hb (by simp[h])) e
 self:=fun i s Q E st hQ=>by
  refine Ft (jK st.1) pM<|C7 pM (jK st.1) vS ?_<|vT _;show wpAny _ _ (ret<|.ref I) _ _ s;exact Bq ⟨_,rfl,"set_iterator",_,jK st.1,sl_next.lookup,hQ⟩
theorem tN{Q:Bool->Bu->Prop}(hT:s.TypeIs (.ref a) "set")(h:Q false s):wpAny (model prog w) A (Ge<|.ref a) Q E s:=by
 unfold Ge;refine Bl<|FV hT F.slot_set_len.lookup ?_;generalize hid:("set.__len__" :String)=id0
 wp_delta
 rw[show splitId id0=some ("set","__len__")from by subst hid;decide +kernel];subst hid;refine Bl (DB (T:="set") (b:=true) hT (by rw[HS];kernel_rfl) ?_);refine G1 (fun hab=>absurd hab (by decide))<|fun _=>?_;refine G1 (fun _=>?_) (fun hab=>absurd (by decide +kernel) hab);refine Bl<|wpAny_typeOf hT ?_;exact Bq h
theorem vU(R:SetR w o es ep t):KdlSrc prog w "set" a a es.size (fun i v=>∃e,(dD w a ep es)[i]? =some e/\v=e.2) (fun h=>h.get? a=some o) where
 type:=fun _ hm=>⟨o,hm,R.ex.1⟩
 there:=fun _ hm=>⟨BA hm,BA hm⟩
 keep:=fun _ _ hm hk=>hk a (.inl rfl) o hm
 notList:=by decide
 notTuple:=by decide
 hint:=fun _ _ _ _ hm hq=>tN ⟨o,hm,R.ex.1⟩ hq
 iter:=fun _ _ hh hm=>⟨_,_,(fun _ _ hq=>tL R hm hq),Walks.setOf hh _ a (BL<|BA hm) R,⟨By _ rfl,Bp _ hm⟩⟩
end
def Good(n:Nat)(c:Nat->Nat->Bool){α:Type}:KasT α->(α->Prop)->Prop
 | .ret a,Q=>Q a
 | .ask i j k,Q=>i<n/\j<n/\Good n c (k<|c i j) Q
section
variable{n:Nat}{c:Nat->Nat->Bool}{α β:Type}
theorem Good.bind{f:α->KasT β}{Q:β->Prop}:∀(t:KasT α),Good n c t (fun a=>Good n c (f a) Q)->Good n c (t.bind f) Q
 | .ret _,h=>h
 | .ask i j k,h=>⟨h.1,h.2.1,Good.bind (k<|c i j) h.2.2⟩
theorem Good.imp{Q Q':α->Prop}(hq:∀a,Q a->Q' a):∀(t:KasT α),Good n c t Q->Good n c t Q'
 | .ret a,h=>hq a h
 | .ask i j k,h=>⟨h.1,h.2.1,Good.imp hq (k<|c i j) h.2.2⟩
theorem Good.wp{cmp:Nat->Nat->(Bool->Bu->Prop)->Bu->Prop}{s:Bu}{Q:α->Prop}(hc:∀i j(C:Bool->Bu->Prop),i<n->j<n->C (c i j) s->cmp i j C s):∀(t:KasT α),Good n c t Q->t.kasWp cmp (fun a s'=>s'=s/\Q a) s
 | .ret a,h=>⟨rfl,h⟩
 | .ask i j k,h=>hc i j _ h.1 h.2.1<|Good.wp hc (k<|c i j) h.2.2
structure OrdC(n:Nat)(c:Nat->Nat->Bool):Prop where
 tr:∀i j k,i<n->j<n->k<n->c i j=true->c j k=true->c i k=true
 tot:∀i j,i<n->j<n->i≠j->c i j=false->c j i=true
structure Pm(n:Nat)(p:Array Nat):Prop where
 pm:p.toList.Perm (Cv n)
theorem Pm.sz{p:Array Nat}(h:Pm n p):p.size=n:=by have:=h.pm.length_eq;simpa using this
theorem i9{p:Array Nat}{a:Nat}(h:a<p.size):p.getD a 0=p.toList[a]'(by simpa using h):=by simp[DV,h]
theorem Pm.lt{p:Array Nat}(h:Pm n p){a:Nat}(ha:a<n):p.getD a 0<n:=by
 have hs:=h.sz;rw[i9 (by omega)];have:=h.pm.mem_iff.mp (EX (l:=p.toList) (n:=a) (by simp;omega));simpa using this
theorem Pm.inj{p:Array Nat}(h:Pm n p){a b:Nat}(ha:a<n)(hb:b<n)(hab:a≠b):p.getD a 0≠p.getD b 0:=by
 have hs:=h.sz;rw[i9 (by omega),i9 (by omega)];have nd:p.toList.Nodup:=h.pm.nodup_iff.mpr List.nodup_range;have pw:=E2.mp<|CB.mp nd;rcases IB hab with z|z
 ·exact pw a b _ _ z
 ·exact fun e=>pw b a _ _ z e.symm
def vV(c:Nat->Nat->Bool)(p:Array Nat)(m:Nat):Prop:=∀a b,a<b->b<m->c (p.getD a 0) (p.getD b 0)=true
def AE(c:Nat->Nat->Bool)(p:Array Nat)(m:Nat):Prop:=∀a b,a<b->b<m->c (p.getD b 0) (p.getD a 0)=true
variable{p:Array Nat}
theorem og(O:OrdC n c)(P:Pm n p):∀(f m:Nat),1<=m->m+f=n->vV c p m->Good n c (kas_asc p f m) fun m'=>m<=m'/\m'<=n/\vV c p m'/\(m'=n\/(m'<n/\c (p.getD m' 0) (p.getD (m'-1) 0)=true))
 |0,m,h1,h2,u=>⟨BD _,by omega,u,.inl (by omega)⟩
 |f+1,m,h1,h2,u=>by
  refine⟨P.lt (by omega),P.lt (by omega),?_⟩;cases hc:c (p.getD m 0) (p.getD (m-1) 0)with
  |true=>exact⟨BD _,by omega,u,.inr ⟨by omega,hc⟩⟩
  |false=>
   have q:=O.tot _ _ (P.lt (a:=m) (by omega)) (P.lt (a:=m-1) (by omega)) (P.inj (by omega) (by omega) (by omega)) hc;refine Good.imp (fun m' h=>⟨by omega,h.2⟩) _ (og O P f (m+1) (by omega) (by omega) fun a b hab hb=>?_);by_cases z:b<m;·exact u a b hab z
   ·have:b=m:=by omega
    subst this;by_cases y:a=b-1;·rw[y];exact q
    ·exact O.tr _ _ _ (P.lt (by omega)) (P.lt (by omega)) (P.lt (by omega)) (u a (b-1) (by omega) (by omega)) q
theorem pQ(O:OrdC n c)(P:Pm n p):∀(f m:Nat),2<=m->m+f=n->AE c p m->Good n c (kas_desc f p m 0) fun r=>r.1=p/\r.2.2=0/\2<=r.2.1/\r.2.1<=n/\AE c p r.2.1
 |0,m,h1,h2,u=>⟨rfl,rfl,h1,by show m<=n;omega,u⟩
 |f+1,m,h1,h2,u=>by
  refine⟨P.lt (by omega),P.lt (by omega),?_⟩;cases hc:c (p.getD m 0) (p.getD (m-1) 0)with
  |true=>
   refine pQ O P f (m+1) (by omega) (by omega) fun a b hab hb=>?_;by_cases z:b<m;·exact u a b hab z
   ·have:b=m:=by omega
    subst this;by_cases y:a=b-1;·rw[y];exact hc
    ·exact O.tr _ _ _ (P.lt (by omega)) (P.lt (by omega)) (P.lt (by omega)) hc (u a (b-1) (by omega) (by omega))
  |false=>
   have q:=O.tot _ _ (P.lt (a:=m) (by omega)) (P.lt (a:=m-1) (by omega)) (P.inj (by omega) (by omega) (by omega)) hc;refine⟨P.lt (by omega),P.lt (by omega),?_⟩;rw[q];exact⟨rfl,rfl,h1,by show m<=n;omega,u⟩
theorem Pm.of(P:Pm n p){q:Array Nat}(h:q.Perm p):Pm n q:=⟨(Array.perm_iff_toList_perm.mp h).trans P.pm⟩
theorem tO(P:Pm n p){m:Nat}(hm:m<=n)(k:Nat):(Ky p 0 m).getD k 0=if k<m then p.getD (m-1-k) 0 else p.getD k 0:=by
 have hs:=P.sz;unfold Ky;rw[C4,getElem?_mirror_all (by omega)];by_cases z:k<m
 ·rw[if_pos ⟨by omega,z⟩,if_pos z,C4];congr 2;omega
 ·rw[if_neg (by omega),if_neg z,C4]
theorem tP(O:OrdC n c)(P:Pm n p)(h1:1<=n):Good n c (kas_count n p) fun r=>Pm n r.2/\1<=r.1/\r.1<=n/\vV c r.2 r.1:=by
 unfold kas_count;refine Good.bind _ (Good.imp (fun m h=>?_) _ (og O P (n-1) 1 (by omega) (by omega) fun a b hab hb=>by omega));obtain⟨q1,q2,q3,q4⟩:=h;by_cases z:m=n;·rw[if_pos (by simp[z])];exact⟨P,q1,q2,q3⟩
 ·rw[if_neg (by simp[z])];by_cases y:m>1
  ·rw[if_pos y];refine⟨P.lt (by omega),P.lt (by omega),?_⟩;rw[q3 0 (m-1) (by omega) (by omega)];exact⟨P,q1,q2,q3⟩
  ·rw[if_neg y];have:m=1:=by omega
   subst this;have q5:c (p.getD 1 0) (p.getD 0 0)=true:=by rcases q4 with q4|q4;exact absurd q4 z;exact q4.2
   unfold kas_descPart;refine Good.bind _ (Good.imp (fun r h=>?_) _ (pQ O P (n-(1+1)) 2 (by omega) (by omega) fun a b hab hb=>?_))
   ·obtain⟨r,k,q⟩:=r;obtain⟨e1,e2,e3,e4,e5⟩:=h;dsimp only at e1 e2 e3 e4 e5 ⊢;subst e1 e2;rw[if_neg (by omega)];unfold kas_tail3;have P2:Pm n (Ky r 0 k):=P.of<|mirror_perm _ _ _ _;have U2:vV c (Ky r 0 k) k:=fun a b hab hb=>by
     rw[tO P e4,tO P e4,if_pos (by omega),if_pos hb];exact e5 _ _ (by omega) (by omega)
    refine Good.bind _ (Good.imp (fun m h=>?_) _ (og O P2 (n-k) k (by omega) (by omega) U2));exact⟨P2,by show 1<=m;omega,h.2.1,h.2.2.1⟩
   ·have:a=0/\b=1:=by omega
    rw[this.1,this.2];exact q5
theorem jL(O:OrdC n c)(P:Pm n p){k:Nat}(hk:k<n)(u:vV c p k):∀(f l r:Nat),l<=r->r<=k->r-l<=f->(∀a,a<l->c (p.getD a 0) (p.getD k 0)=true)->(∀a,r<=a->a<k->c (p.getD k 0) (p.getD a 0)=true)->
  Good n c (kas_place p k f l r) fun l=>l<=k/\(∀a,a<l->c (p.getD a 0) (p.getD k 0)=true)/\(∀a,l<=a->a<k->c (p.getD k 0) (p.getD a 0)=true)
 |0,l,r,h1,h2,h3,lo,hi=>by
  have:l=r:=by omega
  subst this;exact⟨h2,lo,hi⟩
 |f+1,l,r,h1,h2,h3,lo,hi=>by
  unfold kas_place;by_cases z:l≥r
  ·rw[if_pos z];have:l=r:=by omega
   subst this;exact⟨h2,lo,hi⟩
  ·rw[if_neg z];refine⟨P.lt hk,P.lt (by omega),?_⟩;cases hc:c (p.getD k 0) (p.getD ((l+r)/2) 0)with
   |true=>
    refine jL O P hk u f l ((l+r)/2) (by omega) (by omega) (by omega) lo fun a h4 h5=>?_;by_cases y:a=(l+r)/2;·rw[y];exact hc
    ·exact O.tr _ _ _ (P.lt hk) (P.lt (by omega)) (P.lt (by omega)) hc (u _ _ (by omega) h5)
   |false=>
    have q:=O.tot _ _ (P.lt hk) (P.lt (a:=(l+r)/2) (by omega)) (P.inj hk (by omega) (by omega)) hc;refine jL O P hk u f ((l+r)/2+1) r (by omega) (by omega) (by omega) (fun a h4=>?_) hi;by_cases y:a=(l+r)/2;·rw[y];exact q
    ·exact O.tr _ _ _ (P.lt (by omega)) (P.lt (by omega)) (P.lt hk) (u _ _ (by omega) (by omega)) q
theorem tQ(O:OrdC n c):∀(f k:Nat)(p:Array Nat),Pm n p->k+f=n->vV c p k->Good n c (kas_bin f p k) fun p'=>Pm n p'/\vV c p' n
 |0,k,p,P,h,u=>⟨P,by rw[<-h];exact u⟩
 |f+1,k,p,P,h,u=>by
  refine Good.bind _ (Good.imp (fun l hl=>?_) _ (jL O P (by omega) u k 0 k (by omega) (by omega) (by omega) (fun a ha=>by omega) fun a h1 h2=>by omega));obtain⟨l1,l2,l3⟩:=hl;have hs:=P.sz;have at_:∀x,(bubble p k<|k-l).getD x 0=if x=l then p.getD k 0 else if l<x/\x<=k then p.getD (x-1) 0 else p.getD x 0:=fun x=>by
   rw[C4,getElem?_bubble (by omega) _ (by omega),show k-(k-l)=l by omega];split;·rw[C4]
   ·split<;>rw[C4]
  refine tQ O f (k+1) _ (P.of<|bubble_perm _ _ _) (by omega) fun a b hab hb=>?_;rw[at_,at_];by_cases z1:a=l
  ·rw[if_pos z1,if_neg (by omega),if_pos (by omega)];exact l3 _ (by omega) (by omega)
  ·rw[if_neg z1];by_cases z2:b=l
   ·rw[if_pos z2,if_neg (by omega)];exact l2 _ (by omega)
   ·rw[if_neg z2];by_cases z3:l<a/\a<=k
    ·rw[if_pos z3,if_pos (by omega)];exact u _ _ (by omega) (by omega)
    ·rw[if_neg z3];by_cases z4:l<b/\b<=k
     ·rw[if_pos z4];exact u _ _ (by omega) (by omega)
     ·rw[if_neg z4];exact u _ _ (by omega) (by omega)
theorem vW(O:OrdC n c)(h1:1<=n):Good n c (kas_sort n) fun p=>Pm n p/\vV c p n:=by
 unfold kas_sort;refine Good.bind _<|Good.imp (fun r h=>?_) _<|tP O (p:=List.toArray<|Cv n) ⟨.refl _⟩ h1;obtain⟨q1,q2,q3,q4⟩:=h;by_cases z:r.1<n
 ·rw[if_pos z,show max r.1 1=r.1 by omega];exact tQ O _ _ _ q1 (by omega) q4
 ·rw[if_neg z];have:r.1=n:=by omega
  exact⟨q1,by rw[<-this];exact q4⟩
end
def PairAt(h:Heap)(v:Bs)(k:Int×Int):Prop:=∃b o t1 t2 n,v=.ref b/\h.get? b=some o/\o.cls=.type "tuple"/\o.data=.seq #[.int k.1 t1,.int k.2 t2] n
def lR(a b:Int×Int):Bool:=decide (a.1<b.1)||(decide (a.1=b.1)&&decide (a.2<b.2))
theorem ia{a b:Int×Int}:lR a b=true↔a.1<b.1\/(a.1=b.1/\a.2<b.2):=by unfold lR;simp
theorem xW{a b c:Int×Int}(h:lR a b=true)(h':lR b c=true):lR a c=true:=by rw[ia]at *;omega
theorem vX{a b:Int×Int}(hn:a≠b)(h:lR a b=false):lR b a=true:=by
 have h2:¬lR a b=true:=by rw[h];decide
 rw[ia]at h2;rw[ia];by_cases z:a.1=b.1
 ·have:a.2≠b.2:=fun e=>hn<|GY z e;omega
 ·omega
theorem vY(a:Int×Int):lR a a=false:=by unfold lR;simp
structure PairsAt(h:Heap)(vs:List Bs)(ks:List (Int×Int)):Prop where
 len:vs.length=ks.length
 at_:∀(i:Nat)(v:Bs),vs[i]? =some v->∃k,ks[i]? =some k/\PairAt h v k
theorem PairsAt.get{h:Heap}{vs:List Bs}{ks:List (Int×Int)}(P:PairsAt h vs ks){i:Nat}(hi:i<vs.length):PairAt h (vs.getD i .none) (ks.getD i (0,0)):=by
 obtain⟨k,h1,h2⟩:=P.at_ i vs[i] (Bo hi);rw[BC,BC,Bo hi,h1];exact h2
theorem PairsAt.keep{h h':Heap}{vs:List Bs}{ks:List (Int×Int)}(P:PairsAt h vs ks)(hk:∀b o,o.cls=.type "tuple"->h.get? b=some o->h'.get? b=some o):PairsAt h' vs ks:=
 ⟨P.len,fun i v e=>let ⟨k,q1,b,o,t1,t2,n,q2,q3,q4,q5⟩:=P.at_ i v e;⟨k,q1,b,o,t1,t2,n,q2,hk b o q4 q3,q4,q5⟩⟩
section
variable{prog:BK}{w:BQ}{A:Ck}{E:Bs->Bu->Prop}{s:Bu}
theorem vZ{x y:Bs}{k l:Int×Int}{Q:Bool->Bu->Prop}(hx:PairAt s.heap x k)(hy:PairAt s.heap y l)(h:Q (lR k l) s):wpAny (model prog w) A (keyLt' (tuples' true) x y) Q E s:=by
 obtain⟨bx,ox,t1,t2,n,rfl,hx,_,dx⟩:=hx;obtain⟨by_,oy,u1,u2,m,rfl,hy,_,dy⟩:=hy;refine kat_lt hx dx hy dy<|kat_cons<|GV<|kat_go (fun e=>kat_yes<|kat_cons<|GV<|kat_go (fun e'=>kat_yes<|kat_nil ?_) fun e'=>kat_no<|kat_one _ _<|lt_int ?_) fun e=>kat_no<|oneLt_int ?_
 ·have e1:k.1=l.1:=by simpa using e
  have e2:k.2=l.2:=by simpa using e'
  have:k=l:=GY e1 e2;subst this;rw[vY]at h;simpa using h
 ·have e1:k.1=l.1:=by simpa using e
  show Q (decide<|k.2<l.2) s;unfold lR at h;simpa [e1] using h
 ·have e1:¬k.1=l.1:=by simpa using e
  unfold lR at h;simpa [e1] using h
theorem pR{h:Heap}:∀{vs:List Bs}{ks:List (Int×Int)},PairsAt h vs ks->∃fs,fs.length=vs.length/\KatTups h vs fs/\∀f∈fs,∃i t,f=ES i t
 | [],ks,P=>⟨[],rfl,trivial,fun f hf=>by cases hf⟩
 |v::vs,ks,P=>by
  obtain⟨k,q1,b,o,t1,t2,n,rfl,q3,q4,q5⟩:=P.at_ 0 v rfl;obtain⟨fs,l1,l2,l3⟩:=pR (h:=h) (vs:=vs) (ks:=ks.drop 1) ⟨by have:=P.len;simp at this ⊢;omega,fun i v e=>by
   obtain⟨k,a1,a2⟩:=P.at_ (i+1) v (by simpa using e);exact⟨k,by rw[CT,Hk];exact a1,a2⟩⟩
  refine⟨.int k.1 t1::fs,by simp[l1],.cons q3 q4 q5 (by simp) l2,fun f hf=>?_⟩;rcases BM.mp hf with rfl|hf
  ·exact⟨_,_,rfl⟩
  ·exact l3 f hf
theorem oh{a:Addr}{vs:List Bs}{ks:List (Int×Int)}{n:Nat}{P:Lm->Bu->Prop}(ho:s.heap.get? a=some (seqObj "list" vs.toArray n))(hp:PairsAt s.heap vs ks)(nd:ks.Nodup)(h64:vs.length<64)
  (h:∀p:List Nat,p.Perm (Cv vs.length)->(p.map fun i=>ks.getD i (0,0)).Pairwise (fun x y=>lR x y=true)->P (.done<|.ret .none) {s with heap:=sortedHeap s.heap a vs (p.map fun i=>vs.getD i Ct).toArray}):
  wpAny (model prog w) A (DS.«list.sort» ⟨[.ref a],[]⟩) P E s:=by
 rw[list_sort_plain];have ha:a<s.heap.objs.size:=BA ho;refine Bl<|listItems_at ho rfl ?_;refine Bl<|Ib ho rfl ?_;obtain⟨e1,ho1⟩:∃e1,(s.heap.update a<|DA fun _=> #[]).get? a=some (seqObj "list" #[] e1):=⟨_,get?_update_seq ho<|fun _=> #[]⟩
 refine Bl<|Jm ho1 rfl ?_;refine Bl<|HP ?_;refine Bl<|Ic ?_;refine Cz ?_;have ho6:(((s.heap.update a<|DA fun _=> #[]).push (seqObj "tuple" vs.toArray 0)).push (seqObj "list" #[] 0)).get? a=some (seqObj "list" #[] e1):=by
  rw[GI _ _ _ (by rw[JK,Jd];exact BL<|DN ha),GI _ _ _ (by rw[Jd];exact BL ha)];exact ho1
 show wpAny (model prog w) A _ P E {s with heap:=((s.heap.update a<|DA fun _=> #[]).push (seqObj "tuple" vs.toArray 0)).push (seqObj "list" #[] 0)};dsimp only;have hsz:vs.toArray.size=vs.length:=by simp
 have hl:vs.length<=sizeLine:=by rw[Cg];omega
 by_cases h2:vs.toArray.size<2
 ·rw[if_pos h2,if_pos h2];refine Bl<|Bq ?_;rw[StateT.run_pure];refine Bl<|Bq ?_;dsimp only;refine Bl<|Jm ho6 rfl ?_;refine Bl (Ib ho6 rfl ?_ (hsz2:=by rw[Array.size_map];show(pairsOf vs).size<=_;rw[pairsOf_size,Cg];omega));simp only[bne_self_eq_false,C6,if_false];have:=h (Cv vs.length) (.refl _) (by
   have h3:vs.length=0\/vs.length=1:=by omega
   rcases h3 with h3|h3<;>rw[h3];·exact EC
   ·exact List.pairwise_singleton _ _)
  refine Bq ?_;have e:(arrOf<|SortSt.mk' general' (vs.toArray.zip vs.toArray) #[] 7 none).map (·.2)=((Cv vs.length).map fun i=>vs.getD i Ct).toArray:=by
   rw[iJ];show(vs.toArray.zip vs.toArray).map (·.2)=_;apply Array.toList_inj.mp;simp only[Jb,Array.toList_zip,List.map_snd_zip,BD]
  rw[e];exact this
 ·rw[if_neg h2,if_neg h2];obtain⟨fs,l1,l2,l3⟩:=pR (hp.keep (h':=((s.heap.update a<|DA fun _=> #[]).push (seqObj "tuple" vs.toArray 0)).push (seqObj "list" #[] 0)) fun b o hc e=>by
   have hb:b≠a:=fun z=>by subst z;rw[ho]at e;cases e;exact absurd hc (by show ¬(EG "list"=EG "tuple");decide)
   exact Bp _ (Bp _ ((Em _ _ (DZ hb)).trans e)))
  have hp2:=hp.keep (h':=((s.heap.update a<|DA fun _=> #[]).push (seqObj "tuple" vs.toArray 0)).push (seqObj "list" #[] 0)) fun b o hc e=>by
   have hb:b≠a:=fun z=>by subst z;rw[ho]at e;cases e;exact absurd hc (by show ¬(EG "list"=EG "tuple");decide)
   exact Bp _<|Bp _<|(Em _ _<|DZ hb).trans e
  refine Bl (kat_kind (T:=.type "int") l2 (by rw[l1];omega) (fun v hv=>?_) (by decide) ?_)
  ·obtain⟨i,t,rfl⟩:=l3 v hv;exact .now
  rw[show(EG "int" != EG "tuple")=true from by decide];have inj:∀i j,i<vs.length->j<vs.length->ks.getD i (0,0)=ks.getD j (0,0)->i=j:=fun i j hi hj e=>by
   have lk:=hp.len;have pw:=E2.mp<|CB.mp nd;have ei:ks.getD i (0,0)=ks[i]'(by omega):=by simp[BC,show i<ks.length by omega]
   have ej:ks.getD j (0,0)=ks[j]'(by omega):=by simp[BC,show j<ks.length by omega]
   rw[ei,ej]at e;by_cases z:i=j;·exact z
   ·rcases IB z with z | z;·exact absurd e<|pw i j _ _ z
    ·exact absurd e.symm<|pw j i _ _ z
  have O:OrdC vs.length fun i j=>lR (ks.getD i (0,0)) (ks.getD j (0,0)):=⟨fun i j k _ _ _ x y=>xW x y,fun i j hi hj hij x=>vX (fun e=>hij<|inj i j hi hj e) x⟩
  have run:=Good.wp (s:={s with heap:=((s.heap.update a<|DA fun _=> #[]).push (seqObj "tuple" vs.toArray 0)).push (seqObj "list" #[] 0)}) (cmp:=kas_ask prog w A (tuples' true) vs) (fun i j C hi hj hC=>vZ (hp2.get hi) (hp2.get hj) hC) _ (vW O (by omega));refine Bl (CI (kat_run (Q:=fun st' s'=>∃p:Array Nat,p.size=vs.length/\arrOf st'=p.map (kas_item<|vs.toArray.zip vs.toArray)/\failedOf st'=none/\s'={s with heap:=((s.heap.update a<|DA fun _=> #[]).push (seqObj "tuple" vs.toArray 0)).push (seqObj "list" #[] 0)}/\Pm vs.length p/\vV (fun i j=>lR (ks.getD i (0,0))<|ks.getD j (0,0)) p vs.length)
   rfl (by omega) h64 (fun p' st' s' a1 a2 a3 a4=>⟨p',a1,a2,a3,a4⟩) run) ?_ fun _ _ e=>e)
  rintro ⟨⟨⟩,st'⟩ s' ⟨p,hps,har,hf,rfl,P1,U1⟩;dsimp only;have hout:=kat_snds rfl har;rw[hout];refine Bl<|Jm ho6 rfl ?_;refine Bl (Ib ho6 rfl ?_ (hsz2:=by rw[BB,BJ,Cr,hps];exact Nat.le_succ_of_le hl));rw[hf];simp only[bne_self_eq_false,C6,if_false];refine Bq<|h p.toList P1.pm ?_;rw[EF,E2];intro i j hi hj hij;have:=U1 i j hij (by simpa [hps] using hj)
  rwa [i9 (by simpa using hi),i9 (by simpa using hj)]at this
end
end Wb
namespace Wb
open PySem PySem.W PyProof.Rows
section
variable{prog:BK}{w:BQ}{A:Ck}{E:Bs->Bu->Prop}{s:Bu}
theorem ni{a:Addr}{vs:List Bs}{key:Bs->Int×Int}{n:Nat}{P:Lm->Bu->Prop}(ho:s.heap.get? a=some (seqObj "list" vs.toArray n))(hp:∀v∈vs,PairAt s.heap v<|key v)(nd:(vs.map key).Nodup)(hl:vs.length<=63)
  (h:∀out:List Bs,out.Perm vs->(out.map key).Pairwise (fun x y=>lR x y=true)->P (.done<|.ret .none) {s with heap:=sortedHeap s.heap a vs out.toArray}):
  wpAny (model prog w) A (DS.«list.sort» ⟨[.ref a],[]⟩) P E s:=by
 refine oh (ks:=vs.map key) ho ⟨by rw[BJ],fun i v hv=>⟨key v,by rw[Bz,hv];rfl,hp v<|BI hv⟩⟩ nd (by omega) fun p pm pw=>h _ ?_ ?_
 ·have:=pm.map fun i=>vs.getD i Ct;have e:(Cv vs.length).map (fun i=>vs.getD i Ct)=vs:=by
   refine Dw fun i=>?_;rw[Bz];by_cases z:i<vs.length
   ·rw[F0 z,Bo z];show some (vs.getD i Ct)=_;rw[BC,Bo z];rfl
   ·rw[CC (by simp;omega),CC (by omega)];rfl
  rw[e]at this;exact this
 ·rw[Eo];have e:p.map (key∘fun i=>vs.getD i Ct)=p.map fun i=>(vs.map key).getD i (0,0):=G8 fun i hi=>by
   have z:i<vs.length:=by have:=pm.mem_iff.mp hi;simpa using this
   show key (vs.getD i Ct)=_;rw[BC,BC,Bz,Bo z];rfl
  rw[e];exact pw
end
end Wb
namespace Wb
open PySem PySem.W PySem.Calls PyProof.Rows
section
variable{prog:BK}{w:BQ}{K:Type}[DecidableEq K]{knd:KeyKind prog w K}{A:Ck}{E:Bs->Bu->Prop}{s:Bu}
theorem qY{a x:Addr}{o:Obj}{es:Array (Int×Bs)}{ep:Nat}{t:Cy}{led:Bool}{ks:List (List K)}{kx:List K}(hu:A.units+1<cLine)(S:SetT knd s.heap a led ks o es ep t)(hn:es.size<1000)(hx:D6 knd s.heap kx x)(hI:∀k∈kx,∀v,knd.is k v=true->∃i t,v=.int i t){Q:Bs->Bu->Prop}
  (h1:kx∈ks->∀tk,Q .none {s with toks:=tk}) (h2:kx∉ks->∀tk h' ks' o' es' ep' t',BO a s.heap h'->SetT knd h' a led ks' o' es' ep' t'->ks'.Perm (kx::ks)->es'.toList.Perm ((tupleKeyHash knd kx,.ref x)::es.toList)->Q .none {s with heap:=h',toks:=tk}):
  wpAny (model prog w) A (call (.builtin "set.add") [.ref a,.ref x]) Q E s:=by
 have hT:s.TypeIs (.ref a) "set":=⟨o,S.at_,S.ex.1⟩
 refine C7 F.slot_set_add hT F.entry_set_add ?_<|F.args_set_add_2 _ _;unfold DS.«set.add» Gr;simp only[Je,JI];unfold GS setAdd;refine Bl<|Bq ?_
 try dsimp only
 refine Bl<|Bq ?_
 try dsimp only
 refine Bl ?_;refine Cz ?_;refine Bl (Gu (show A.in1.units<cLine from hu) hx ?_);unfold setAddHashed;refine Cz (pL (s:={s with toks:=s.toks+(kx.length+1)}) (show A.in1.units<cLine from hu) S hn hx hI (fun hm=>?_) fun hm h' ks' o' es' ep' t' a1 a2 a3 a4=>?_)
 ·show wpAny _ _ (ret Ct) _ _ _;exact Bq ⟨_,rfl,h1 hm _⟩
 ·show wpAny _ _ (ret Ct) _ _ _;exact Bq ⟨_,rfl,h2 hm _ h' ks' o' es' ep' t' a1 a2 a3 a4⟩
end
end Wb
namespace L2
open PySem PySem.Spec PyProof.Rows Wb
structure TupsH(prog:BK)(w:BQ)(K:Br)(H:Hp)(es:List (Int×Bs))(ks:List (Int×Int)):Prop where
 len:es.length=ks.length
 at_:∀(i:Nat)(e:Int×Bs),es[i]? =some e->∃k b,ks[i]? =some k/\e.2=.ref b/\SqT K H b [.int k.1,.int k.2]/\e.1=tupleKeyHash (mixKind prog w) [.inl k.1,.inl k.2]
def SetH(prog:BK)(w:BQ)(K:Br)(H:Hp)(o:Obj)(ks:List (Int×Int)):Prop:=∃es ep t,SetR w o es ep t/\TupsH prog w K H es.toList ks/\ks.Nodup
def fK(k:Int×Int):List Key:=[.inl k.1,.inl k.2]
theorem gy{a b:Int×Int}(h:fK a=fK b):a=b:=by
 unfold fK at h;injection h with h1 h2;injection h2 with h2 _;injection h1 with h1;injection h2 with h2;exact GY h1 h2
def oi:List Key->Int×Int
 | [.inl a,.inl b]=>(a,b)
 |_=>(0,0)
theorem gz(k:Int×Int):oi (fK k)=k:=rfl
noncomputable def x6(elt:Expr)(env:Env)(acc:Bs):Sem Unit:=do
 let v <-eval elt env
 standAt elt.pos
 let _ <-call (.builtin "set.add") [acc,v]
def oj(prog:BK)(w:BQ)(K:Br)(te:TE):TB:=fun D σ H N=>te σ H fun y H'=>∃G o ks b k,Same G H'/\H' D=some (XO D o)/\SetH prog w K G o ks/\ks.length<1000/\y=.ref b/\SqT K G b [.int k.1,.int k.2]/\(k∈ks->N H')/\(k∉ks->∀o' ks',SetH prog w K G o' ks'->ks'.Perm (k::ks)->N (cN H' D<|XO D o'))
section
variable{Y X:Cx}{elt:Expr}{te:TE}
theorem eZ{pins:List (Addr×Obj)}{σ:St}{H:Hp}{s:Bu}{b:Addr}{k:Int×Int}(I:Inv X pins σ H s)(h:SqT X.K H b [.int k.1,.int k.2]):D6 (mixKind X.prog X.w) s.heap (fK k) b:=by
 obtain⟨its,r,⟨o,h1,h2,n,h3⟩,_⟩:=I.tuple h;exact⟨o,its.toArray,n,h1,h2,h3,by simpa using kI (ks:=fK k) r⟩
theorem xX{k:Int×Int}:∀q∈fK k,∀v,(mixKind X.prog X.w).is q v=true->∃i t,v=.int i t:=fun q hq v hv=>by
 have:q=.inl k.1\/q=.inl k.2:=by simpa [fK] using hq
 rcases bM (show fT q v=true from hv)with⟨i,t,e1,rfl⟩|⟨x,t,e1,rfl⟩
 ·exact⟨i,t,rfl⟩
 ·rcases this with z|z<;>(rw[z]at e1;cases e1)
theorem xY(hxe:Y.xe=fun _ _=>False)(hu:Y.A.units+1<cLine)(he:PE Y elt te):PB Y (x6 elt Y.env) (oj Y.prog Y.w Y.K te):=by
 intro D pins s σ H N I h;have he':=he pins s σ H _ I h;rw[hxe]at he';refine Bl<|cm he' fun u s1 zz=>?_;obtain⟨y,H1,I1,r1,G,o,ks,b,k,eG,hD,hS,hl,ey,hb,h1,h2⟩:=zz;subst ey;obtain rfl:u=.ref b:=r1;refine Bl<|E5 ?_;obtain⟨es,ep,t,R,T,nd⟩:=hS;have hDo:s1.heap.get? D=some o:=(I1.hok D _ hD).1;have hsz:es.size=ks.length:=by have:=T.len;simpa using this
 have U:TupsOf (mixKind Y.prog Y.w) s1.heap es.toList (ks.map fK):=⟨by rw[BJ];exact T.len,fun i e hi=>by
  obtain⟨k,b,q1,q2,q3,q4⟩:=T.at_ i e hi;exact⟨fK k,b,by rw[Bz,q1];rfl,q2,eZ I1 (Dk eG q3),q4⟩⟩
 have S:SetT (mixKind Y.prog Y.w) s1.heap D (!Y.w.params.followText "set-order") (ks.map fK) o es ep t:=⟨hDo,R.ex,R.dat,R.tab,U,IY _ (fun a b hab e=>hab<|gy e) nd,R.led,R.pl⟩
 refine Bl (qY hu S (by omega) (eZ I1<|Dk eG hb) xX (fun hm tk=>?_) fun hm tk h' ks' o' es' ep' t' a1 a2 a3 a4=>?_)
 ·obtain⟨k',m1,m2⟩:=BX.mp hm;cases gy m2;exact Bq ⟨σ,H1,I1.kept<|fun _ _ z=>z,fun _ _ e=>e,h1 m1⟩
 ·have nm:k∉ks:=fun z=>hm<|BX.mpr ⟨k,z,rfl⟩;have pk:(ks'.map oi).Perm (k::ks):=by
   have:=a3.map oi;rw[CP,Eo,show(oi∘fK)=id from funext gz,List.map_id,gz]at this;exact this
  have TH:TupsH Y.prog Y.w Y.K G es'.toList (ks'.map oi):=⟨by rw[BJ];exact a2.tup.len,fun i e hi=>by
   obtain⟨kk,b',q1,q2,q3,q4⟩:=a2.tup.at_ i e hi;have src:∃k0:Int×Int,SqT Y.K G b' [.int k0.1,.int k0.2]:=by
    rcases BM.mp (a4.mem_iff.mp<|BI hi)with z|z;·rw[z]at q2;cases q2;exact⟨k,hb⟩
    ·obtain⟨j,hj,ej⟩:=CH.mp z;obtain⟨k0,b0,r1,r2,r3,r4⟩:=T.at_ j e (by rw[Bo hj,ej]);rw[r2]at q2;cases q2;exact⟨k0,r3⟩
   obtain⟨k0,hk0⟩:=src;have e0:kk=fK k0:=q3.inj (ng (eZ I1 (Dk eG hk0)) hDo R.dat a1);subst e0;exact⟨k0,b',by rw[Bz,q1];rfl,q2,hk0,q4⟩⟩
  refine Bq ⟨σ,_,?_,fun _ _ e=>e,h2 nm o' (ks'.map oi) ⟨es',ep',t',⟨a2.ex,a2.dat,a2.tab,a2.led,a2.pl⟩,TH,pk.nodup_iff.mpr<|DQ.mpr ⟨nm,nd⟩⟩ pk⟩;exact I1.write (x:=D) (e:=D) (by rw[hD];exact EJ) (.inl rfl) (fun b u hb' z=>(a1.2 b hb').trans z) ⟨o',a2.at_⟩<|Lk a2.at_
theorem jM{pins:List (Addr×Obj)}{σ:St}{H:Hp}{s:Bu}{b:Addr}{k l:Int×Int}(I:Inv X pins σ H s)(h:SqT X.K H b [.int k.1,.int k.2])(h':SqT X.K H b [.int l.1,.int l.2]):k=l:=by
 have:=I.tuple_inj h h';injection this with e1 e2;injection e2 with e2 _;injection e1 with e1;injection e2 with e2;exact GY e1 e2
open Classical in
noncomputable def d4(K:Br)(H:Hp)(e:Int×Bs):Int×Int:=if h:∃k:Int×Int,∃b,e.2=.ref b/\SqT K H b [.int k.1,.int k.2]then h.choose else(0,0)
theorem jb{pins:List (Addr×Obj)}{σ:St}{G H:Hp}{s:Bu}{b:Addr}{k:Int×Int}{e:Int×Bs}(eG:Same G H)(I:Inv X pins σ H s)(h:SqT X.K G b [.int k.1,.int k.2])(he:e.2=.ref b):d4 X.K G e=k:=by
 have ex:∃k:Int×Int,∃b,e.2=.ref b/\SqT X.K G b [.int k.1,.int k.2]:=⟨k,b,he,h⟩
 unfold d4;rw[dif_pos ex];obtain⟨b',e1,e2⟩:=ex.choose_spec;rw[he]at e1;cases e1;exact jM I (Dk eG e2)<|Dk eG h
def xZ:Bs->V
 | .ref b=>.ref b
 |_=>.non
def tR(prog:BK)(w:BQ)(K:Br):List V->Hp->VK->Prop:=fun xs H Q=>∃(G:Hp)(p:Addr)(o:Obj)(ks:List (Int×Int)),xs=[.ref p]/\Same G H/\H p=some (XO p o)/\SetH prog w K G o ks/\ks.length<=63/\∀(q:Addr)(us:List V)(ks':List (Int×Int)),H q=none->ks'.Perm ks->ks'.Pairwise (fun a b=>lR a b=true)->us.length=ks'.length->(∀(i:Nat)(v:V)(k:Int×Int),us[i]? =some v->ks'[i]? =some k->∃b,v=.ref b/\SqT K G b [.int k.1,.int k.2])->Q (.ref q) (cN H q<|.lst us)
theorem lS(hc:X.calm=true):dh X (.builtin "sorted") (tR X.prog X.w X.K):=by
 intro pins s σ H xs us Q I r h;obtain⟨G,p,o,ks,rfl,eG,hp,⟨es,ep,t,R,T,nd⟩,h64,q⟩:=h;obtain⟨u,rfl,rx⟩:=eN r;cases rx;have hpo:s.heap.get? p=some o:=(I.hok p _ hp).1;have hsz:es.size=ks.length:=by have:=T.len;simpa using this
 have op:=i8 X.w p ep es;have osz:(dD X.w p ep es).size=es.size:=by have:=op.length_eq;simpa using this
 have ek:es.toList.map (d4 X.K G)=ks:=by
  apply Dw;intro i;rw[Bz];by_cases z:i<es.toList.length
  ·obtain⟨k,b,q1,q2,q3,q4⟩:=T.at_ i es.toList[i] (Bo z);rw[Bo z,q1];exact congrArg some<|jb eG I q3 q2
  ·rw[CC (by omega),CC (by have:=T.len;omega)];rfl
 have mem:∀e∈(dD X.w p ep es).toList,∃b,e.2=.ref b/\SqT X.K G b [.int (d4 X.K G e).1,.int (d4 X.K G e).2]:=fun e he=>by
  obtain⟨j,hj,ej⟩:=CH.mp<|op.mem_iff.mp he;obtain⟨k0,b0,r1,r2,r3,r4⟩:=T.at_ j e (by rw[Bo hj,ej]);exact⟨b0,r2,by rw[jb eG I r3 r2];exact r3⟩
 have kzp:((dD X.w p ep es).toList.map (d4 X.K G)).Perm ks:=by
  have:=op.map<|d4 X.K G;rw[ek]at this;exact this
 refine EZ kind_sorted plain_sorted entry_sorted (args_sorted1 _) ?_;unfold DS.«sorted»;refine Bl (m:=checkCount "sorted" 1 1 _)<|Bq ?_;refine Bl (PySem.W.kdu_collect (A:=X.A.in1) (vU (a:=p) R) (I.ok.hd hc) hpo (by rw[Cg];omega) fun h' tk acc hk hacc=>?_);have av:acc.toList=(dD X.w p ep es).toList.map (·.2):=by
  apply Dw;intro i;rw[Bz];by_cases z:i<acc.size
  ·have z2:i< acc.toList.length:=by simpa using z
   obtain⟨e,q1,q2⟩:=hacc.2 i acc.toList[i] (by rw[<-Cf];exact Bo z2);rw[Bo z2,Cf,q1,q2];rfl
  ·have:=hacc.1;rw[CC (by simp;omega),CC (by simp;omega)];rfl
 have hal:acc.toList.length=ks.length:=by rw[Cr,hacc.1,hsz]
 have I':=I.kept (t':=tk) hk;refine Bl (Ic ?_ (by rw[hal,Cg];omega));have hoL:(h'.push<|seqObj "list" acc.toList.toArray 0).get? h'.objs.size=some (seqObj "list" acc.toList.toArray 0):=By _ rfl;have src:∀v∈acc.toList,∃b,v=.ref b/\SqT X.K G b [.int (d4 X.K G (0,v)).1,.int (d4 X.K G (0,v)).2]:=fun v hv=>by
  rw[av]at hv;obtain⟨e,he,rfl⟩:=BX.mp hv;obtain⟨b,h2,h3⟩:=mem e he;exact⟨b,h2,by rw[show d4 X.K G (0,e.2)=d4 X.K G e from rfl];exact h3⟩
 have km:acc.toList.map (fun v=>d4 X.K G (0,v))=(dD X.w p ep es).toList.map (d4 X.K G):=by rw[av,Eo];rfl
 refine Bl (Cz (C7 JL ⟨_,hoL,rfl⟩ Jv (ni (key:=fun v=>d4 X.K G (0,v)) hoL (fun v hv=>?_) (by rw[km];exact kzp.nodup_iff.mpr nd) (by rw[hal];omega) fun out op' pw=>⟨_,rfl,?_⟩)<|JM _))
 ·obtain⟨b,rfl,h3⟩:=src v hv;obtain⟨its,rr,⟨ob,g1,g2,n,g3⟩,_⟩:=I'.tuple<|Dk eG h3;obtain⟨u1,u2,e1,⟨t1,e2⟩,t2,e3⟩:∃u1 u2,its=[u1,u2]/\RelV (.int (d4 X.K G (0,.ref b)).1) u1/\RelV (.int (d4 X.K G (0,.ref b)).2) u2:=by
   cases rr with
   |cons a b=>cases b with
    |cons c d=>cases d with
     |nil=>exact⟨_,_,rfl,a,c⟩
  subst e1;rw[e2,e3]at g3;exact⟨b,ob,t1,t2,n,rfl,Bp _ g1,g2,g3⟩
 obtain⟨e,he⟩:=Kn (h:=h'.push<|seqObj "list" acc.toList.toArray 0) (a:=h'.objs.size) (vs:=acc.toList) (out:=out.toArray) (n:=0) hoL;have at_:∀v∈out,∃b,v=.ref b/\SqT X.K G b [.int (d4 X.K G (0,v)).1,.int (d4 X.K G (0,v)).2]:=fun v hv=>src v<|op'.mem_iff.mp hv;have pkz:(out.map fun v=>d4 X.K G (0,v)).Perm ks:=by
  have:=op'.map fun v=>d4 X.K G (0,v);rw[km]at this;exact this.trans kzp
 have ol:out.length=ks.length:=by rw[op'.length_eq];exact hal
 refine Bq ⟨_,rfl,.ref h'.objs.size,_,I'.laid (t':=tk) (fun b o z=>?_) (BD _) (show ObjOk X.prog X.w _ _ _ (.lst<|out.map xZ)from⟨by rw[BJ,Cg];omega,out,e,?_,he⟩),rfl,q _ _ (out.map fun v=>d4 X.K G (0,v)) (I'.hok.fresh<|BD _) pkz pw (by rw[BJ,BJ]) fun i v k h1 h2=>?_⟩
 ·show(sortedHeap _ _ _ _).get? b=some o;rw[JN (BL<|BA z) (by rw[JK];exact DN<|BA z)];exact Bp _ z
 ·refine fW _ _ (by rw[BJ]) fun j x u hx hu=>?_;rw[Bz,hu]at hx;cases hx;obtain⟨b,rfl,_⟩:=at_ u<|BI hu;rfl
 ·rw[Bz]at h1 h2;obtain⟨u,hu,rfl⟩:=Cs.mp h1;rw[hu]at h2;cases h2;obtain⟨b,rfl,h4⟩:=at_ u<|BI hu;exact⟨b,rfl,h4⟩
end
def set0(w:BQ):Obj:={cls:=.type "set",dict:=none,data:=.set #[] 0<|.fresh 0 0<|!w.params.followText "set-order",slots:= #[]}
theorem w4(prog:BK)(w:BQ)(K:Br)(H:Hp):SetH prog w K H (set0 w) []:=
 ⟨#[],0,.fresh 0 0<|!w.params.followText "set-order",⟨⟨rfl,rfl,rfl⟩,rfl,⟨⟨rfl,rfl,fun a b _ hb=>by simp[Gv]at hb,fun j⟨a,ha,_⟩=>by simp[Gv]at ha,.inl rfl,fun i h e=>by simp at e⟩,by show 0*5<7*3;decide⟩,rfl,rfl⟩,⟨rfl,fun i e he=>by simp at he⟩,EC⟩
def om(w:BQ)(cap:List (Option Nat))(wi:TI)(g:TG)(tf:TT)(tb:TB):TE:=fun σ H Q=>wi σ H fun J H1=>∀D,H1 D=none->tj g tf tb D (bF cap σ) (cN H1 D<|XO D<|set0 w) (fun H'=>Q (.ref D) H') J
section
variable{X:Cx}{scope:EI}{N:List Str}{cap:List (Option Nat)}{tg iter:Expr}{ifs:List Expr}{pos:Pos}{wi:TI}{g:TG}{tf:TT}{tb:TB}{body:Env->Bs->Sem Unit}
theorem tS(S:CompScope X scope N cap)(hc:X.calm=true){elt:Expr}{gs:List I0}(hi:PI X tg iter wi)
  (hg:∀s H C fp,PG (aK X scope N s H C fp) tg g) (hf:∀s H C fp,sk (aK X scope N s H C fp) ifs tf) (hb:∀s H C fp,PB (aK X scope N s H C fp) (body (aK X scope N s H C fp).env) tb)
  (ht:∀env it acc,compTurn (.SetComp elt (⟨tg,iter,ifs,0⟩::gs) scope pos) 0 it acc env=dZ tg iter ifs (body env acc) it env (.compLoop (.SetComp elt (⟨tg,iter,ifs,0⟩::gs) scope pos) 0 it acc env):=by intro _ _ _;rfl)
  (hs:∀x,foldedSetIterable iter X.env x=pure x:=by intro _;rfl):PE X (.SetComp elt (⟨tg,iter,ifs,0⟩::gs) scope pos) (om X.w cap wi g tf tb):=by
 intro pins s σ H Q I h;rw[arm_eval_SetComp];have frc:∀x∈scope.names,x.2=.free->∃c,X.env.cells.lookup x.1=some c:=fun x hx hk=>I.ok.has x.1<|S.free x hx hk;refine F4 (use:=none) rfl hs (f9 frc) S.kind (gG S)<|cm (hi pins s σ H _ I h) fun v s1 h1=>cm h1 fun itv s2 h2=>?_;obtain⟨it,fp,tn,J,H2,rfl,I2,T,st2,f2,w⟩:=h2;unfold newSet setsByText;refine Bl<|Bl<|DU<|Bq ?_;refine D7 ?_;have hz:H2 s2.heap.objs.size=none:=I2.hok.fresh<|BD _;have I3:Inv X pins σ (cN H2 s2.heap.objs.size<|XO s2.heap.objs.size<|set0 X.w) {s2 with heap:=s2.heap.push (set0 X.w)}:=
  I2.laid (a:=s2.heap.objs.size) (t':=s2.toks) (fun _ _ q=>Bp _ q) (BD _) (Lk<|By _ rfl)
 have nD:∀b∈fp,b≠s2.heap.objs.size:=fun b hb=>by
  obtain⟨o,e,_⟩:=T.obj _ _ st2 b hb;exact BL<|BA e
 have f3:∀b∈fp,FpOk X pins (cN H2 s2.heap.objs.size<|XO s2.heap.objs.size<|set0 X.w) b:=fun b hb=>⟨by rw[aG<|nD b hb];exact(f2 b hb).1,(f2 b hb).2⟩
 refine o9 (RR:=fun C=>compPost (model X.prog X.w) X.A X.xe none (EP X pins σ Q) (.ref s2.heap.objs.size) C) S hc Lq rfl hg hf hb ht I3 T (T.keep _ _ _ st2 fun b hb o e=>Bp _ e) f3 (w _ hz) fun C σ' H' s' hC I' q=>?_;obtain⟨m,hn,_⟩:=I'.loc;exact⟨m,hn,fun h' hs'=>⟨.ref _,H',qQ I3 f3 hC I' hs',rfl,q⟩⟩
variable{kx vx elt tg2 iter2:Expr}{ifs2:List Expr}{wi2:TI}{g2:TG}{tf2:TT}{te:TE}
theorem qZ(hu:X.A.units+1<cLine)(S:CompScope X scope N cap)(hc:X.calm=true)(hi:PI X tg iter wi)
  (hg:∀s H C fp,PG (aK X scope N s H C fp) tg g) (hf:∀s H C fp,sk (aK X scope N s H C fp) ifs tf)
  (hi2:∀s H C fp,PI (aK X scope N s H C fp) tg2 iter2 wi2) (hg2:∀s H C fp,PG (aK X scope N s H C fp) tg2 g2) (hf2:∀s H C fp,sk (aK X scope N s H C fp) ifs2 tf2) (he:∀s H C fp,PE (aK X scope N s H C fp) elt te)
  (hs:∀x,foldedSetIterable iter X.env x=pure x:=by intro _;rfl) (hs2:∀env x,foldedSetIterable iter2 env x=pure x:=by intro _ _;rfl):PE X (.SetComp elt [⟨tg,iter,ifs,0⟩,⟨tg2,iter2,ifs2,0⟩] scope pos) (om X.w cap wi g tf<|xP wi2 g2 tf2<|oj X.prog X.w X.K te):=
 tS S hc hi hg hf (body:=vL iter2 (.SetComp elt [⟨tg,iter,ifs,0⟩,⟨tg2,iter2,ifs2,0⟩] scope pos) 1)
  (fun s H C fp=>xQ (Y:=aK X scope N s H C fp) hc rfl (hi2 s H C fp) (hg2 s H C fp) (hf2 s H C fp) (body:=x6 elt) (xY (Y:=aK X scope N s H C fp) rfl hu<|he s H C fp) Lq rfl (fun _ _ _=>rfl)<|hs2 _) (fun _ _ _=>by rw[qR];rfl) hs
end
end L2
namespace Wb
open PySem L2 Mi
section
variable{Er:Nat->Prop}{α:Type}{prog:BK}{w:BQ}{K:Br}{W W' W0 Wb W1 W2:Wd}{σ:St}{te:TE}
structure OwS2(prog:BK)(w:BQ)(K:Br)(W:Wd)(p:Addr)(ks:List (Int×Int)):Prop where
 g:W.G p=none
 h:∃o ks0,W.H p=some (XO p o)/\SetH prog w K W.G o ks0/\ks0.Perm ks
theorem r0{G G':Hp}{o:Obj}{ks:List (Int×Int)}(h:SetH prog w K G o ks)(e:Same G G'):SetH prog w K G' o ks:=
 let ⟨es,ep,t,R,T,nd⟩:=h
 ⟨es,ep,t,R,⟨T.len,fun i x hx=>let ⟨k,b,q1,q2,q3,q4⟩:=T.at_ i x hx;⟨k,b,q1,q2,Dk e q3,q4⟩⟩,nd⟩
theorem OwS2.mono{p:Addr}{ks:List (Int×Int)}(o:OwS2 prog w K W p ks)(e:Ext W W'):OwS2 prog w K W' p ks:=by
 obtain⟨x,k0,a,b,c⟩:=o.h;exact⟨by rw[e.k p (by rw[a];exact fun z=>nomatch z)];exact o.g,x,k0,e.h _ _ a,r0 b e.g,c⟩
theorem y0{me:Res (Int×Int)}{D:Addr}(eb:Ext Wb W)(hD:Wb.H D=none)(h:EV Er te σ W (sh<|isT2 K isI isI) me):BV Er (oj prog w K te) σ Wb W (OwS2 prog w K) D (fun ks=>me.bind fun y=>qS ks y):=fun W1 ks N e1 o k=>
 h W1 e1 _ ((Bm k).imp fun y ky v W2 e2 hv=>by
  obtain⟨h3,h4⟩:=aW ky;have o2:=o.mono e2;obtain⟨ob,ks0,q1,q2,q3⟩:=o2.h;obtain⟨p,x1,x2,rfl,t1,r1,r2⟩:=hv;cases r1;cases r2;refine⟨W2.G,ob,ks0,p,y,W2.ok,q1,q2,by rw[q3.length_eq];exact h3,rfl,t1,fun hm=>?_,fun hm o' ks' s' p'=>?_⟩
  ·rw[if_pos<|q3.mem_iff.mp hm]at h4;exact h4 W2 e2.g ((eb.trans e1).trans e2) o2
  ·rw[if_neg (fun z=>hm (q3.mem_iff.mpr z))]at h4;exact h4 (W2.mut D (XO D o') o2.g) e2.g (((eb.trans e1).trans e2).mut hD o2.g) ⟨o2.g,o',ks',aB,s',p'.trans (.cons _ q3)⟩)
theorem tT{R:Rp α}{cap:List (Option Nat)}{wi:TI}{g:TG}{tf:TT}{t:TB}{mi:Res (List α)}{f:α->List (Int×Int)->Res (List<|Int×Int)}(hi:IV Er wi σ W R mi)
  (hs:∀Wb D W2 a v s(M:Hp->Prop),Same W.G W2.G->Ext W Wb->Wb.H D=none->Ext Wb W2->OwS2 prog w K W2 D s->R W2.G a v->(f a s).OkE Er (fun s'=>∀W',Same W2.G W'.G->Ext Wb W'->OwS2 prog w K W' D s'->M W'.H)->g v (bF cap σ) W2.H fun σ2 H2=>Keep (bF cap σ) σ2/\tf σ2 H2 fun b H3=>if b=true then t D σ2 H3 M else M H3):
  EVo Er (dW (tR prog w K)<|ak (om w cap wi g tf t) aN) σ W (isT2 K isI isI) ((mi.bind fun xs=>bQ f xs []).bind fun ks=>tm ks):=fun W1 e1 Q k=>by
 refine hi W1 e1 _<|(Bm<|Bm k).imp fun xs kx J W2 e2 hy D hD=>?_;refine pE (W:=W2) (W1:=W2.mut D (XO D<|set0 w)<|W2.gnone hD) (Wb:=W2) (O:=OwS2 prog w K) (s0:=[]) hy (.inr<|.refl _) (.own _ hD) ⟨W2.gnone hD,set0 w,[],aB,w4 ..,.refl _⟩ (fun W3 a v s M e3 eb3 o3 r k3=>hs W2 D W3 a v s M ((e1.trans e2).g.trans e3) (e1.trans e2) hD eb3 o3 r k3) (fun _ _ _ e o=>o.mono e) ?_;exact kx.imp fun ks kk W' z1 z2 z3=>by
  obtain⟨h3,h4⟩:=aW kk;obtain⟨o,ks0,q1,q2,q3⟩:=z3.h;refine⟨W'.G,D,o,ks0,rfl,W'.ok,q1,q2,by rw[q3.length_eq];exact h3,fun q us ks1 hq p1 p2 l1 at_=>?_⟩;have e:ks1=dw ks:=gQ (p1.trans q3) (p2.imp fun{a b}h=>by rw[ia]at h;rw[i4];omega);rw[<-e]at h4;exact ju (W2:=W') (vs:=us) ⟨l1,fun i v m e1 e2=>by
   obtain⟨b,rfl,hb⟩:=at_ i v m e1 e2;exact⟨b,_,_,rfl,hb,rfl,rfl⟩⟩ (e2.trans z2) h4 q hq
end
end Wb
namespace L2
open PySem PySem.Spec PyProof.Rows Wb
def zp:R2:=fun x y H Q=>∃p q xs,x=.ref p/\y=.ref q/\H p=some (.lst xs)/\H q=some (.lst [])/\Q (.bl xs.isEmpty) H
theorem ya{X:Cx}(hu:X.A.units<cLine):OpR X (compareOp .Eq) zp:=by
 intro pins s σ H x y v u Q I rx ry h;obtain⟨p,q,xs,rfl,rfl,h1,h2,hq⟩:=h;cases rx;cases ry;obtain⟨i1,r1,t1,z1⟩:=I.list<|Di (K:=X.K) h1;obtain⟨i2,r2,t2,z2⟩:=I.list<|Di (K:=X.K) h2;have l1:=r1.length;have l2:=r2.length;have key:SeqAt.RcAt X.A s (.ref p) (.ref q) xs.isEmpty:=by
  cases xs with
  |nil=>
   have:=Ln (A:=X.A) (s:=s) (e:=fun _=>true) t1.isList t2.isList (by rw[BB,BB,<-l1,<-l2]) hu (fun j h1' h2'=>by
    have:j<i1.length:=by simpa using h1'
    rw[<-l1]at this;exact absurd this (Hu _))
   have e0:i1.toArray.size=0:=by rw[BB,<-l1];rfl
   rw[e0]at this;exact this
  |cons a r=>exact Ko t1.isList t2.isList (by simp at l1 l2 ⊢;omega) hu
 exact key _ _ _ _ ⟨.bl _,H,I,rfl,hq⟩
end L2
namespace Wb
open PySem L2 Mi
section
variable{Er:Nat->Prop}{α:Type}{W:Wd}{σ:St}{ta:TE}
theorem yb{R:Rp α}{ma:Res (List α)}(ha:EV Er ta σ W (pk R) ma):EV Er (cY zp ta<|bW aN) σ W (sh isB) (ma.bind fun a=>.ok a.isEmpty):=fun W1 e1 Q k=>
 ha W1 e1 _ ((Bm k).imp fun a ka x W2 e2 hx=>by
  obtain⟨p,vs,rfl,h1,h2⟩:=hx;refine⟨by decide,fun q hq=>⟨p,q,vs,rfl,rfl,?_,aB,?_⟩⟩;·rw[aG (fun z=>by rw[z]at h1;rw[hq]at h1;cases h1)];exact h1
  ·have:vs.isEmpty=a.isEmpty:=by
    have:=h2.1;cases vs<;>cases a<;>simp at this ⊢
   rw[this];exact ka (.bl a.isEmpty) (W2.mut q (.lst []) (W2.gnone hq)) (e2.trans (.own _ hq)) rfl)
end
end Wb
namespace Mi
def tU{α:Type}(kvs:List ((Int×Int)×α))(k:Int×Int)(a:α):Res (List<|(Int×Int)×α):=dF (kvs.length<1000)<|j5 kvs k a
def tV(ks:List (Int×Int)):Res (List<|Int×Int):=dF (ks.length<=63/\ks.Nodup)<|dw ks
end Mi
namespace Wb
open PySem PySem.W PySem.Calls PyProof.Rows
def nj(d:Addr)(n ep i:Nat):Obj:={cls:=.type "dict_keyiterator",dict:=none,data:=.fields #[.ref d,.int i 0,.int n 0,.int ep 0],slots:= #[]}
section
variable{prog:BK}{w:BQ}{A:Ck}{E:Bs->Bu->Prop}{s:Bu}{d it:Addr}{o:Obj}{es:Array Fi}{ep:Nat}
theorem r6{Q:Bs->Bu->Prop}(hd:(d==sysModules)=false)(ho:s.heap.get? d=some o)(hx:o.ExactDict)(hdat:o.data=.dict es ep)(hQ:Q (.ref s.heap.objs.size) {s with heap:=s.heap.push (nj d es.size ep 0)}):wpAny (model prog w) A (pyIter<|.ref d) Q E s:=by
 have hT:s.TypeIs (.ref d) "dict":=⟨o,ho,hx.1⟩
 refine Ft hT Jf<|C7 Jf hT F.entry_dict_iter ?_<|F.args_dict_iter_1 _;unfold DS.«dict.__iter__»;refine Bl ?_;unfold K2;refine Bl<|wpAny_notOrdered_dict hT ?_;show wpAny _ _ (pure<|CL d) _ _ s;refine Bq ?_;show wpAny _ _ (HC d>>=_) _ _ s;unfold HC;rw[if_neg (by rw[hd];exact BF)];refine Bl<|Bq ?_;refine Bl<|Fu ho hdat ?_;refine Bl<|Hv ho hdat ?_;refine Bl<|D7<|Bq ⟨_,rfl,"dict_keyiterator",_,⟨_,By _ rfl,rfl⟩,CY.lookup,?_⟩;exact hQ
theorem r9{i:Nat}{Q:Option Bs->Bu->Prop}(hit:s.heap.get? it=some (nj d es.size ep i))(ho:s.heap.get? d=some o)(hdat:o.data=.dict es ep)(hi:i<es.size)
  (hQ:∀h',h'.get? it=some (nj d es.size ep<|i+1)->BO it s.heap h'->Q (some es[i].key) {s with heap:=h'}):wpAny (model prog w) A (pyNext<|.ref it) Q E s:=by
 have hT:s.TypeIs (.ref it) "dict_keyiterator":=⟨_,hit,rfl⟩
 unfold pyNext;refine Bl (E6 (Cn (name:=Bv "__next__") hT CY
  (C7 CY hT FO ?_ (FG _))))
 refine Bl<|Bq ?_;refine Bl ?_;refine Bl ?_
 first|refine Bl (DJ hT<|Bq ?_)|refine Bl<|E7 hT<|Bq ?_
 refine Bl<|Gq hit rfl ?_;have hown:G2 "dict_keyiterator"=false:=by decide
 simp only[hown,C6,if_false];show wpAny _ _ (if(CL d==Ct)=true then _ else _) _ _ s;rw[if_neg (show ¬((CL d==Ct)=true)from BF)];refine Bl<|Bq ?_;refine Bl<|Fu ho hdat ?_;rw[if_neg (by simp)];refine Bl<|Bq ?_;refine Bl<|Hv ho hdat ?_;rw[if_neg (by simp)];refine Bq ?_;simp only[show ¬((i:Int)<0)from by omega,if_false,CQ,Cp hi];refine Bl ?_
 first|refine Bl (DJ hT<|Bq ?_)|refine Bl<|E7 hT<|Bq ?_
 refine Bl<|HD hT ?_;show wpAny _ _ (setField (.ref it) 1 (rawInt<|(i:Int)+1)>>=_) _ _ s;refine Bl (Ee hit rfl (by simp) ?_);have hit':=Dj (GR (·.setIfInBounds 1 (rawInt<|(i:Int)+1))) hit rfl;refine Bl<|Cz ?_;refine Bl (HD (s:={s with heap:=s.heap.update it (GR (·.setIfInBounds 1 (rawInt<|(i:Int)+1)))}) ⟨_,hit',rfl⟩ ?_);show wpAny _ _ (pure es[i].key) _ _ _;exact Bq<|Bq ⟨_,rfl,Bq<|hQ _ (hit'.trans rfl)<|CJ ..⟩
theorem tW{Q:Option Bs->Bu->Prop}(hh:A.handled=none)(hit:s.heap.get? it=some (nj d es.size ep es.size))(ho:s.heap.get? d=some o)(hdat:o.data=.dict es ep)
  (hQ:∀h',EM it s.heap h'->Q none {s with heap:=h'}):wpAny (model prog w) A (pyNext<|.ref it) Q E s:=by
 have hT:s.TypeIs (.ref it) "dict_keyiterator":=⟨_,hit,rfl⟩
 unfold pyNext;refine Bl (E6 (Cn (name:=Bv "__next__") hT CY
  (C7 CY hT FO ?_ (FG _))))
 refine Bl<|Bq ?_;refine Bl ?_;refine Bl ?_
 first|refine Bl (DJ hT<|Bq ?_)|refine Bl<|E7 hT<|Bq ?_
 refine Bl<|Gq hit rfl ?_;have hown:G2 "dict_keyiterator"=false:=by decide
 simp only[hown,C6,if_false];show wpAny _ _ (if(CL d==Ct)=true then _ else _) _ _ s;rw[if_neg (show ¬((CL d==Ct)=true)from BF)];refine Bl<|Bq ?_;refine Bl<|Fu ho hdat ?_;rw[if_neg (by simp)];refine Bl<|Bq ?_;refine Bl<|Hv ho hdat ?_;rw[if_neg (by simp)];refine Bq ?_;simp only[show ¬((es.size:Int)<0)from by omega,if_false,CQ,Es<|BD es.size];refine Bl ?_
 first|refine Bl (DJ hT<|Bq ?_)|refine Bl<|E7 hT<|Bq ?_
 show wpAny _ _ (setField (.ref it) 0 .none>>=_) _ _ s;refine Bl (Ee hit rfl (by simp) ?_);show wpAny _ _ (newExc (.type "StopIteration") []>>=_) _ _ _;refine Bl ?_;simp only[newExc,newTuple];refine Bl (D7 ?_ (by size_fits));refine Bl (m:=firstArgMember _ _) (GG (a:=Ct) (by first|rfl|(simp only[firstArgMember];rfl)) ?_);refine D7 ?_ (by size_fits);simp only[raiseNew];refine Bl<|HZ ?_;rw[show A.in1.handled=none from hh];refine Bl<|Bq<|Jk ?_;refine Bl<|DB (T:="StopIteration") (b:=true) ⟨_,By _ rfl,rfl⟩ Eg ?_;exact Bq<|hQ _<|((CJ ..).extBut.push _).push _
theorem Walks.dictR(hh:A.handled=none)(I d:Addr)(hne:d≠I)(hx:o.ExactDict)(hdat:o.data=.dict es ep):
  Walks prog w A I [I,d] [I] es.size (fun i v=>∃e,es[i]? =some e/\v=e.key) (fun i h=>h.get? I=some (nj d es.size ep i)/\h.get? d=some o) where
 sub:=fun b hb=>by simp at hb;simp[hb]
 frame:=fun _ _ _ st hk=>⟨hk I (by simp) _ st.1,hk d (by simp) _ st.2⟩
 item:=fun i s Q E hi st hQ=>by
  refine r9 st.1 st.2 hdat hi fun h' hI' hs'=>?_;exact hQ _ h' s.toks ⟨_,Cp hi,rfl⟩ ⟨hI',hs'.extBut d _ hne st.2⟩ fun b o hb e=>hs'.extBut b o (fun h=>hb (by simp[h])) e
 done:=fun s Q E st hQ=>tW hh st.1 st.2 hdat fun h' he'=>hQ h' s.toks fun b o hb e=>he' b o (fun h=>hb (by simp[h])) e
 self:=fun i s Q E st hQ=>by
  have hT:s.TypeIs (.ref I) "dict_keyiterator":=⟨_,st.1,rfl⟩
  refine Ft hT G3<|C7 G3 hT F.entry_dict_keyiterator_iter ?_<|F.args_dict_keyiterator_iter_1 _;show wpAny _ _ (ret<|.ref I) _ _ s;exact Bq ⟨_,rfl,"dict_keyiterator",_,hT,CY.lookup,hQ⟩
theorem tX(lo:(d==sysModules)=false)(hx:o.ExactDict)(hdat:o.data=.dict es ep):KdlSrc prog w "dict" d d es.size (fun i v=>∃e,es[i]? =some e/\v=e.key) (fun h=>h.get? d=some o) where
 type:=fun _ hm=>⟨o,hm,hx.1⟩
 there:=fun _ hm=>⟨BA hm,BA hm⟩
 keep:=fun _ _ hm hk=>hk d (.inl rfl) o hm
 notList:=by decide
 notTuple:=by decide
 hint:=fun _ _ _ _ hm hq=>kdl_hint_dict ⟨o,hm,hx.1⟩ hq
 iter:=fun _ _ hh hm=>⟨_,_,(fun _ _ hq=>r6 lo hm hx hdat hq),Walks.dictR hh _ d (BL<|BA hm) hx hdat,⟨By _ rfl,Bp _ hm⟩⟩
end
end Wb
namespace L2
open PySem PySem.Spec PyProof.Rows Wb
def KP(K:Br)(G:Hp):List ((Int×Int)×V)->List (List Key×Addr×Bs)->Prop:=Paired<|fun(p:(Int×Int)×V)(q:List Key×Addr×Bs)=>fK p.1=q.1/\SqT K G q.2.1 [.int p.1.1,.int p.1.2]/\RelV p.2 q.2.2
section
variable{K:Br}{G G':Hp}{kvs:List ((Int×Int)×V)}{xs:List (List Key×Addr×Bs)}
theorem KP.val(r:KP K G kvs xs)(k:Int×Int):RelO (jW kvs k) ((atKey xs<|fK k).map (·.2)):=by
 unfold KP at r
 induction r with
 |nil=>exact EJ
 | @cons p q ps qs h t ih=>
  obtain⟨h1,_,h2⟩:=h;by_cases e:p.1=k
  ·have e':q.1=fK k:=by rw[<-h1,e]
   have b:atKey (q::qs) (fK k)=some q.2:=by simp[atKey,Eu,e']
   rw[gV e,b];exact h2
  ·have e':¬q.1=fK k:=fun z=>e<|gy<|h1.trans z;have b:atKey (q::qs) (fK k)=atKey qs (fK k):=by simp[atKey,Eu,e']
   rw[gW e,b];exact ih
theorem KP.repl(r:KP K G kvs xs)(k:Int×Int){y:V}{u:Bs}(ry:RelV y u):KP K G (kvs.map fun kv=>if kv.1=k then(kv.1,y)else kv) (xs.map<|KR (fK k) u):=by
 unfold KP at r ⊢
 induction r with
 |nil=>exact .nil
 | @cons p q ps qs h t ih=>
  rw[CP,CP];refine .cons ?_ ih;obtain⟨h1,h2,h3⟩:=h;unfold KR;by_cases e:p.1=k;·rw[if_pos e,if_pos (by rw[<-h1,e])];exact⟨h1,h2,ry⟩
  ·rw[if_neg e,if_neg<|fun z=>e<|gy<|h1.trans z];exact⟨h1,h2,h3⟩
theorem KP.put(r:KP K G kvs xs)(k:Int×Int){b:Addr}{y:V}{u:Bs}(hb:SqT K G b [.int k.1,.int k.2])(ry:RelV y u):KP K G (qq kvs k y) (storedH xs (fK k) b u):=by
 have e:(kvs.any fun kv=>decide<|kv.1=k)=(atKey xs<|fK k).isSome:=by rw[mF,(r.val k).isSome_eq,Option.isSome_map]
 unfold qq storedH;rw[e];by_cases q:(atKey xs<|fK k).isSome=true;·rw[if_pos q,if_pos q];exact r.repl k ry
 ·rw[if_neg q,if_neg q];exact Paired.snoc r ⟨rfl,hb,ry⟩
theorem KP.same(r:KP K G kvs xs)(e:Same G G'):KP K G' kvs xs:=Paired.mapP r fun _ _ z=>⟨z.1,Dk e z.2.1,z.2.2⟩
end
def DictP(prog:BK)(w:BQ)(K:Br)(G:Hp)(o:Obj)(kvs:List ((Int×Int)×V)):Prop:=∃es ep xs,o.ExactDict/\o.data=.dict es ep/\es.toList=xs.map (entryOfKey<|tupleKind<|mixKind prog w)/\(xs.map (·.1)).Nodup/\KP K G kvs xs
def PDa(prog:BK)(w:BQ)(K:Br)(G H:Hp)(a:Addr)(kvs:List ((Int×Int)×V)):Prop:=∃o,Same G H/\H a=some (XO a o)/\(a==sysModules)=false/\DictP prog w K G o kvs/\kvs.length<=1000
def nk:Obj:={cls:=.type "dict",dict:=none,data:=.dict #[],slots:= #[]}
def tY:TE:=fun _ H Q=>∀p,H p=none->(p==sysModules)=false->Q (.ref p) (cN H p<|XO p nk)
def tZ(prog:BK)(w:BQ)(K:Br)(td ty tv:TE):TS:=fun D σ H=>tv σ H fun v H1=>td σ H1 fun x H2=>ty σ H2 fun y H3=>∃G a kvs b k,x=.ref a/\PDa prog w K G H3 a kvs/\kvs.length<1000/\y=.ref b/\SqT K G b [.int k.1,.int k.2]/\∀o',DictP prog w K G o' (qq kvs k v)->D.nx σ (cN H3 a<|XO a o')
def x8(prog:BK)(w:BQ)(K:Br):List V->Hp->VK->Prop:=fun xs H Q=>∃G a kvs,xs=[.ref a]/\PDa prog w K G H a kvs/\Q (.int kvs.length) H
def u0(prog:BK)(w:BQ)(K:Br):List V->Hp->VK->Prop:=fun xs H Q=>∃G a kvs,xs=[.ref a]/\PDa prog w K G H a kvs/\∀q us,H q=none->us.length=kvs.length->(∀(i:Nat)(v:V)(p:(Int×Int)×V),us[i]? =some v->kvs[i]? =some p->∃b,v=.ref b/\SqT K G b [.int p.1.1,.int p.1.2])->Q (.ref q) (cN H q<|.lst us)
def u4(K:Br):List V->Hp->VK->Prop:=fun xs H Q=>∃(G:Hp)(p:Addr)(us:List V)(ks:List (Int×Int)),xs=[.ref p]/\Same G H/\SqL K H p us/\us.length=ks.length/\(∀(i:Nat)(v:V)(k:Int×Int),us[i]? =some v->ks[i]? =some k->∃b,v=.ref b/\SqT K G b [.int k.1,.int k.2])/\ks.Nodup/\ks.length<=63/\
 ∀(q:Addr)(us':List V)(ks':List (Int×Int)),H q=none->ks'.Perm ks->ks'.Pairwise (fun a b=>lR a b=true)->us'.length=ks'.length->(∀(i:Nat)(v:V)(k:Int×Int),us'[i]? =some v->ks'[i]? =some k->∃b,v=.ref b/\SqT K G b [.int k.1,.int k.2])->Q (.ref q) (cN H q<|.lst us')
section
variable{X:Cx}{K:Br}{pos pos':Pos}{o i value:Expr}{td ty tv:TE}{pins:List (Addr×Obj)}{σ:St}{H:Hp}{s:Bu}
theorem u5(prog:BK)(w:BQ)(K:Br)(G:Hp):DictP prog w K G nk []:=⟨#[],0,[],⟨rfl,rfl,rfl⟩,rfl,rfl,DX,.nil⟩
theorem u6:PE X (.Dict [] [] pos) tY:=fun pins s σ H Q I h=>
 wpAny_Dict_empty ⟨.ref s.heap.objs.size,_,I.laid (a:=s.heap.objs.size) (t':=s.toks) (fun _ _ q=>Bp _ q) (BD _)<|Lk (o:=nk)<|By _ rfl,rfl,h _ (I.hok.fresh<|BD _)<|beq_eq_false_iff_ne.mpr<|DZ<|BL I.big⟩
theorem PDa.h{G:Hp}{a:Addr}{kvs:List ((Int×Int)×V)}(I:Inv X pins σ H s)(g:PDa X.prog X.w X.K G H a kvs):∃xs,KP X.K G kvs xs/\s.heap.DictOfH (tupleKind<|mixKind X.prog X.w) a xs/\xs.length<=1000:=by
 obtain⟨o,eG,ha,lo,⟨es,ep,xs,ex,dat,he,nd,r⟩,hl⟩:=g;have hl2:kvs.length=xs.length:=Paired.length r;refine⟨xs,r,⟨o,es,ep,(I.hok a _ ha).1,ex,dat,he,fun x hx=>?_,nd⟩,by omega⟩;obtain⟨j,hj⟩:=Ey.mp hx;obtain⟨p,hp,h1,h2,h3⟩:=fg r hj;rw[<-h1];exact eZ I<|Dk eG h2
theorem u7(hu:X.A.units+1<cLine)(ho:PE X o td)(hi:PE X i ty)(hv:PE X value tv)(hs:swapsWith value (some<|.Subscript o i pos') pos.line X.env=pure false):
  PS X (.Assign [.Subscript o i pos'] value pos) (tZ X.prog X.w X.K td ty tv):=by
 intro pins s σ H D I h;refine wpAny_Assign_Subscript (cm (hv pins s σ H _ I h) fun r s1⟨v,H1,I1,rv,q1⟩=>cm (ho pins s1 σ H1 _ I1 q1) fun u s2⟨x,H2,I2,rx,q2⟩=>cm (hi pins s2 σ H2 _ I2 q2) fun iv s3⟨y,H3,I3,ry,G,a,kvs,b,k,ex,g,hl,ey,hb,q3⟩=>?_) hs;subst ex ey;obtain rfl:u=CL a:=rx;obtain rfl:iv=CL b:=ry;obtain⟨xs,rel,dd,hx⟩:=g.h I3;obtain⟨ob,eG,ha,lo,_,_⟩:=g;refine wpAny_setItem_heap (hsz:=by rw[Cg];omega) (tupleKind_room_in1 hu) (eZ I3<|Dk eG hb) dd fun h' dd' hs=>?_;obtain⟨o',es,ep,hq,h2,h3,h4,_,h5⟩:=dd';exact⟨σ,_,vn I3 (by rw[ha];exact EJ) hs ⟨o',hq⟩<|Lk hq,q3 o' ⟨es,ep,_,h2,h3,h4,h5,rel.put k hb rv⟩⟩
theorem rd:dh X (.builtin "len") (x8 X.prog X.w X.K):=by
 intro pins s σ H xs us Q I r h;obtain⟨G,a,kvs,rfl,g,q⟩:=h;obtain⟨u,rfl,rx⟩:=eN r;cases rx;obtain⟨ys,rel,⟨od,es,ep,hod,hx,hdat,he,hk,nd⟩,hl⟩:=g.h I;obtain⟨ob,eG,ha,lo,_,_⟩:=g;have hT:s.TypeIs (.ref a) "dict":=⟨od,hod,hx.1⟩
 have hsz:es.size=kvs.length:=by
  rw[<-Cr,he,BJ];exact(Paired.length rel).symm
 have hsz2:es.size<=1000:=by rw[<-Cr,he,BJ];exact hl
 refine EZ kind_len plain_len entry_len (args_len1 _) ?_;unfold DS.«len»;refine Bl (m:=oneArg "len" _)<|Bq ?_;refine Bl (m:=callSpecial? (.ref a)<|Bv "__len__") (Cn (name:=Bv "__len__") hT HE
  (C7 HE hT PySem.F.entry_dict_len ?_ (PySem.F.args_dict_len_1 _)))
 show wpAny _ _ (dictSize a>>=_) _ _ s;unfold dictSize;refine Bl<|Bl<|Fu hod hdat<|Bq ?_;show wpAny _ _ (K3 a>>=_) _ _ s;refine Bl<|wpAny_pendingCount_other lo ?_;rw[show((es.size:Int)+((0:Nat):Int))=(es.size:Int) by omega];unfold retInt;refine Bl<|wpAny_mkInt<|Bq ⟨_,rfl,?_⟩;refine Bl<|Cz<|Bq ?_;refine Bl<|Ek ?_;show wpAny _ _ (if((es.size:Nat):Int)<0 then _ else _) _ _ _;rw[if_neg (by omega)];show wpAny _ _ (if((es.size:Nat):Int)≥2^63 then _ else _) _ _ _;rw[if_neg (by omega)];rw[hsz];exact Bl<|wpAny_mkInt<|Bq ⟨_,rfl,⟨.int kvs.length,H,I.tok _,⟨_,rfl⟩,q⟩⟩
theorem oo(hc:X.calm=true):dh X (.type "list") (u0 X.prog X.w X.K):=by
 intro pins s σ H xs us Q I r h;obtain⟨G,a,kvs,rfl,g,q⟩:=h;obtain⟨u,rfl,rx⟩:=eN r;cases rx;obtain⟨ob,eG,ha,lo,⟨es,ep,ys,hx,hdat,he,nd,rel⟩,hl⟩:=g;have hod:s.heap.get? a=some ob:=(I.hok a _ ha).1;have hsz:es.size=kvs.length:=by
  rw[<-Cr,he,BJ];exact(Paired.length rel).symm
 have src:∀(i:Nat)(e:Fi)(p:(Int×Int)×V),es[i]? =some e->kvs[i]? =some p->∃b,e.key=.ref b/\SqT X.K G b [.int p.1.1,.int p.1.2]:=fun i e p h1 h2=>by
  rw[<-Cf,he,Bz]at h1;obtain⟨y,h3,rfl⟩:=Cs.mp h1;obtain⟨p',h4,h5,h6,h7⟩:=fg rel h3;rw[h2]at h4;cases h4;exact⟨y.2.1,rfl,h6⟩
 refine PySem.W.kdl_call (tX lo hx hdat) (I.ok.hd hc) hod (by rw[Cg];omega) fun h' tk acc c' hk e hacc=>?_;refine⟨.ref _,_,I.laid (t':=tk) hk (BD _) (show ObjOk X.prog X.w _ h' _ (.lst<|acc.toList.map xZ)from⟨by rw[BJ,Cr,hacc.1,Cg];omega,acc.toList,c',?_,by rw[HQ];exact e⟩),rfl,q _ _ (I.hok.fresh<|BD _) (by rw[BJ,Cr,hacc.1,hsz]) fun i v p h1 h2=>?_⟩
 ·refine fW _ _ (by rw[BJ]) fun j x u hx hu=>?_;rw[Bz,hu]at hx;cases hx;obtain⟨e,h1,rfl⟩:=hacc.2 j u (by rw[<-Cf];exact hu);have hj:j<kvs.length:=by have:=(DW.mp h1).1;omega
  obtain⟨b,h3,_⟩:=src j e _ h1<|Bo hj;rw[h3];rfl
 ·rw[Bz]at h1;obtain⟨u,hu,rfl⟩:=Cs.mp h1;obtain⟨e,h3,rfl⟩:=hacc.2 i u (by rw[<-Cf];exact hu);obtain⟨b,h4,h5⟩:=src i e p h3 h2;exact⟨b,by rw[h4];rfl,h5⟩
theorem oq(h:X.K=K):dh X (.builtin "sorted") (u4 K):=by
 subst h;intro pins s σ H xs us Q I r h;obtain⟨G,p,vs,ks,rfl,eG,hq,hl,rel,nd,hz,q⟩:=h;obtain⟨u,rfl,rx⟩:=eN r;cases rx;obtain⟨its,r',pl,_⟩:=I.list hq;have l1:=r'.length;have il:its.length=ks.length:=by omega
 have at_:∀(j:Nat)(u:Bs)(k:Int×Int),its[j]? =some u->ks[j]? =some k->∃b,u=.ref b/\SqT X.K G b [.int k.1,.int k.2]:=fun j u k h1 h2=>by
  obtain⟨v,h3,h4⟩:=fg r' h1;obtain⟨b,rfl,h5⟩:=rel j v k h3 h2;exact⟨b,h4,h5⟩
 have km:its.map (fun v=>d4 X.K G (0,v))=ks:=by
  apply Dw;intro j;rw[Bz];by_cases z:j<its.length
  ·have z2:j< ks.length:=by omega
   obtain⟨b,h1,h2⟩:=at_ j its[j] ks[j] (Bo z) (Bo z2);rw[Bo z,Bo z2];exact congrArg some<|jb (e:=(0,its[j])) eG I h2 h1
  ·rw[CC (by omega),CC (by omega)];rfl
 have src:∀v∈its,∃b,v=.ref b/\SqT X.K G b [.int (d4 X.K G (0,v)).1,.int (d4 X.K G (0,v)).2]:=fun v hv=>by
  obtain⟨j,hj,e⟩:=CH.mp hv;have z2:j<ks.length:=by omega
  obtain⟨b,h1,h2⟩:=at_ j v ks[j] (by rw[Bo hj,e]) (Bo z2);exact⟨b,h1,by rw[jb (e:=(0,v)) eG I h2 h1];exact h2⟩
 refine EZ kind_sorted plain_sorted entry_sorted (args_sorted1 _) ?_;unfold DS.«sorted»;refine Bl (m:=checkCount "sorted" 1 1 _)<|Bq ?_;refine Bl (collect_list pl.isList ?_ (by rw[Cg];omega));refine Bl (Ic ?_ (by rw[Cg];omega));generalize hh1:(s.heap.push<|seqObj "list" #[] 0).update s.heap.objs.size (DA (· ++its.toArray))=h1;have k1:∀b o,s.heap.get? b=some o->h1.get? b=some o:=fun b o q=>by
  have hlt:b<s.heap.objs.size:=BA q;rw[<-hh1,Heap.get?_update_ne _ _ _ _<|BL hlt,GI _ _ _<|BL hlt];exact q
 have I':=I.kept (t':=s.toks) k1;have hoL:(h1.push<|seqObj "list" its.toArray 0).get? h1.objs.size=some (seqObj "list" its.toArray 0):=By _ rfl;refine Bl (Cz (C7 JL ⟨_,hoL,rfl⟩ Jv (ni (key:=fun v=>d4 X.K G (0,v)) hoL (fun v hv=>?_) (by rw[km];exact nd) (by rw[il];omega) fun out op' pw=>⟨_,rfl,?_⟩)<|JM _))
 ·obtain⟨b,rfl,h3⟩:=src v hv;obtain⟨jts,rr,⟨ob,g1,g2,n,g3⟩,_⟩:=I'.tuple<|Dk eG h3;obtain⟨u1,u2,e1,⟨t1,e2⟩,t2,e3⟩:∃u1 u2,jts=[u1,u2]/\RelV (.int (d4 X.K G (0,.ref b)).1) u1/\RelV (.int (d4 X.K G (0,.ref b)).2) u2:=by
   cases rr with
   |cons a b=>cases b with
    |cons c d=>cases d with
     |nil=>exact⟨_,_,rfl,a,c⟩
  subst e1;rw[e2,e3]at g3;exact⟨b,ob,t1,t2,n,rfl,Bp _ g1,g2,g3⟩
 obtain⟨e,he⟩:=Kn (h:=h1.push<|seqObj "list" its.toArray 0) (a:=h1.objs.size) (vs:=its) (out:=out.toArray) (n:=0) hoL;have at2:∀v∈out,∃b,v=.ref b/\SqT X.K G b [.int (d4 X.K G (0,v)).1,.int (d4 X.K G (0,v)).2]:=fun v hv=>src v<|op'.mem_iff.mp hv;have pkz:(out.map fun v=>d4 X.K G (0,v)).Perm ks:=by
  have:=op'.map fun v=>d4 X.K G (0,v);rw[km]at this;exact this
 have ol:out.length=ks.length:=by rw[op'.length_eq];exact il
 refine Bq ⟨_,rfl,.ref h1.objs.size,_,I'.laid (t':=s.toks) (fun b o z=>?_) (BD _) (show ObjOk X.prog X.w _ _ _ (.lst<|out.map xZ)from⟨by rw[BJ,Cg];omega,out,e,?_,he⟩),rfl,q _ _ (out.map fun v=>d4 X.K G (0,v)) (I'.hok.fresh<|BD _) pkz pw (by rw[BJ,BJ]) fun i v k h1 h2=>?_⟩
 ·show(sortedHeap _ _ _ _).get? b=some o;rw[JN (BL<|BA z) (by rw[JK];exact DN<|BA z)];exact Bp _ z
 ·refine fW _ _ (by rw[BJ]) fun j x u hx hu=>?_;rw[Bz,hu]at hx;cases hx;obtain⟨b,rfl,_⟩:=at2 u<|BI hu;rfl
 ·rw[Bz]at h1 h2;obtain⟨u,hu,rfl⟩:=Cs.mp h1;rw[hu]at h2;cases h2;obtain⟨b,rfl,h4⟩:=at2 u<|BI hu;exact⟨b,rfl,h4⟩
end
end L2
namespace Wb
open PySem L2 Mi
section
variable{Er:Nat->Prop}{α:Type}{prog:BK}{w:BQ}{K:Br}{W W' W0 W1 W2:Wd}{σ:St}{te ti ta:TE}{R:Rp α}{i:Nat}{p:Addr}{D:Ends}{r:TS}
structure OwP(prog:BK)(w:BQ)(K:Br)(R:Rp α)(W:Wd)(p:Addr)(kvs:List ((Int×Int)×α)):Prop where
 g:W.G p=none
 h:∃o vs,W.H p=some (XO p o)/\(p==sysModules)=false/\DictP prog w K W.G o vs/\vs.length<=1000/\vs.length=kvs.length/\∀(i:Nat)(q:(Int×Int)×V)(x:(Int×Int)×α),vs[i]? =some q->kvs[i]? =some x->q.1=x.1/\R W.G x.2 q.2
theorem jN{G G':Hp}{o:Obj}{kvs:List ((Int×Int)×V)}(h:DictP prog w K G o kvs)(e:Same G G'):DictP prog w K G' o kvs:=
 let ⟨es,ep,xs,a,b,c,d,r⟩:=h
 ⟨es,ep,xs,a,b,c,d,r.same e⟩
theorem OwP.mono[Mono R]{kvs:List ((Int×Int)×α)}(o:OwP prog w K R W p kvs)(e:Ext W W'):OwP prog w K R W' p kvs:=by
 obtain⟨x,vs,a,lo,b,hl,c,d⟩:=o.h;exact⟨by rw[e.k p (by rw[a];exact fun z=>nomatch z)];exact o.g,x,vs,e.h _ _ a,lo,jN b e.g,hl,c,fun i q y h1 h2=>⟨(d i q y h1 h2).1,Bk e.g (d i q y h1 h2).2⟩⟩
theorem OwP.keep[Mono R]{q:Addr}{kvs:List ((Int×Int)×α)}(o:OwP prog w K R W q kvs)(hH:W'.H q=W.H q)(hs:Same W.G W'.G)(hg:W'.G q=W.G q):OwP prog w K R W' q kvs:=by
 obtain⟨x,vs,a,lo,b,hl,c,d⟩:=o.h;exact⟨by rw[hg];exact o.g,x,vs,by rw[hH];exact a,lo,jN b hs,hl,c,fun i q y h1 h2=>⟨(d i q y h1 h2).1,Bk hs (d i q y h1 h2).2⟩⟩
theorem Mu.owP[Mono R]{q:Addr}{kvs:List ((Int×Int)×α)}(m:Mu W W' p)(hq:q≠p)(o:OwP prog w K R W q kvs):OwP prog w K R W' q kvs:=by
 obtain⟨x,vs,a,_⟩:=o.h;obtain⟨h1,h2⟩:=m.h q hq (by rw[a];exact fun z=>nomatch z);exact o.keep h1 m.g h2
theorem u9{H:Hp}{vs:List ((Int×Int)×V)}{xs:List ((Int×Int)×α)}(hl:vs.length=xs.length)(h:∀(i:Nat)(q:(Int×Int)×V)(x:(Int×Int)×α),vs[i]? =some q->xs[i]? =some x->q.1=x.1/\R H x.2 q.2){k:Int×Int}{a:α}{v:V}(hv:R H a v):
  (qq vs k v).length=(j5 xs k a).length/\∀(i:Nat)(q:(Int×Int)×V)(x:(Int×Int)×α),(qq vs k v)[i]? =some q->(j5 xs k a)[i]? =some x->q.1=x.1/\R H x.2 q.2:=by
 have key:∀(vs:List ((Int×Int)×V))(xs:List ((Int×Int)×α)),vs.length=xs.length->(∀(i:Nat)(q:(Int×Int)×V)(x:(Int×Int)×α),vs[i]? =some q->xs[i]? =some x->q.1=x.1/\R H x.2 q.2)->(vs.any fun p=>decide<|p.1=k)=(xs.any fun p=>decide<|p.1=k):=by
  intro vs
  induction vs with
  |nil=>intro xs hl _;cases xs with|nil=>rfl|cons _ _=>cases hl
  |cons q vs ih=>
   intro xs hl h;cases xs with
   |nil=>cases hl
   |cons x xs=>rw[F3,F3,ih xs (by simpa using hl) fun i q x h1 h2=>h (i+1) q x h1 h2,(h 0 q x rfl rfl).1]
 unfold qq j5;rw[key vs xs hl h];by_cases z:(xs.any fun p=>decide<|p.1=k)=true
 ·rw[if_pos z,if_pos z];refine⟨by rw[BJ,BJ];exact hl,fun i q x h1 h2=>?_⟩;rw[Bz]at h1 h2;obtain⟨q',h3,rfl⟩:=Cs.mp h1;obtain⟨x',h4,rfl⟩:=Cs.mp h2;have:=h i q' x' h3 h4;by_cases y:x'.1=k;·rw[if_pos y,if_pos<|this.1.trans y];exact⟨this.1,hv⟩
  ·rw[if_neg y,if_neg<|fun e=>y<|this.1.symm.trans e];exact this
 ·rw[if_neg z,if_neg z];refine⟨by simp[hl],fun i q x h1 h2=>?_⟩;by_cases y:i<vs.length
  ·rw[BG y]at h1;rw[BG (by omega)]at h2;exact h i q x h1 h2
  ·rw[BH (by omega)]at h1;rw[BH (by omega),<-hl]at h2;cases e:i-vs.length with
   |zero=>rw[e]at h1 h2;cases h1;cases h2;exact⟨rfl,hv⟩
   |succ n=>rw[e]at h1;simp at h1
theorem ua{kvs:List ((Int×Int)×α)}{k:Int×Int}{a:α}:(j5 kvs k a).length<=kvs.length+1:=by unfold j5;split<;>simp
def Ay(prog:BK)(w:BQ)(K:Br)(Er:Nat->Prop)(t:TE)(σ:St)(W:Wd)(R:Rp α)(m:Res (List<|(Int×Int)×α)):Prop:=∀W1,Ext W W1->∀Q:VK,m.OkE Er (fun xs=>∀p W2,Ext W1 W2->W1.H p=none->OwP prog w K R W2 p xs->Q (.ref p) W2.H)->t σ W1.H Q
theorem ub:Ay prog w K Er tY σ W R (.ok []):=fun W1 e1 Q k p hp lo=>k p (W1.mut p (XO p nk)<|W1.gnone hp) (.own _ hp) hp ⟨W1.gnone hp,nk,[],aB,lo,u5 ..,by decide,rfl,fun i q x h=>by simp at h⟩
theorem w5{σ':Addr->St}{m:Res (List<|(Int×Int)×α)}(h:Ay prog w K Er te σ W R m)(q:m.OkE Er fun a=>∀p W',Ext W W'->W.H p=none->OwP prog w K R W' p a->D.nx (σ' p) W'.H)(hσ:∀p,σ.set i (some<|.ref p)=σ' p:=by intro _;rfl):bI te (aP i) D σ W.H:=
 h W (.refl _) _ (q.imp fun a k p W' e hp o=>by show D.nx (σ.set i<|some<|.ref p) W'.H;rw[hσ];exact k p W' e hp o)
theorem rf{σ':Addr->St}{m:Res (List<|(Int×Int)×α)}(h:Ay prog w K Er te σ W R m)(q:m.OkE Er fun a=>∀p W',Ext W W'->W.H p=none->OwP prog w K R W' p a->r D (σ' p) W'.H)(hσ:∀p,σ.set i (some<|.ref p)=σ' p:=by intro _;rfl):fN (bI te<|aP i) r D σ W.H:=w5 (D:={D with nx:=r D}) h q hσ
theorem OwP.pd[Mono R]{kvs:List ((Int×Int)×α)}(o:OwP prog w K R W p kvs):∃vs,PDa prog w K W.G W.H p vs/\vs.length=kvs.length/\∀(i:Nat)(q:(Int×Int)×V)(x:(Int×Int)×α),vs[i]? =some q->kvs[i]? =some x->q.1=x.1/\R W.G x.2 q.2:=by
 obtain⟨x,vs,a,lo,b,hl,c,d⟩:=o.h;exact⟨vs,⟨x,W.ok,a,lo,b,hl⟩,c,d⟩
theorem uc[Mono R]{xs:List ((Int×Int)×α)}{m:Res α}{mk:Res (Int×Int)}(o:OwP prog w K R W p xs)(h:EV Er te σ W (sh R) m)(hj:EV Er ti σ W (sh<|isT2 K isI isI) mk)
  (q:(m.bind fun a=>mk.bind fun k=>tU xs k a).OkE Er fun ys=>∀W',Mu W W' p->OwP prog w K R W' p ys->D.nx σ W'.H) (hi:σ[i]? =some (some<|.ref p):=by rfl):tZ prog w K (bD i) ti te D σ W.H:=by
 refine h W (.refl _) _<|(Bm q).imp fun a ka v W2 e2 hv=>⟨.ref p,hi,hj W2 e2 _<|(Bm ka).imp fun k kk x W3 e3 hx=>?_⟩;obtain⟨h3,h4⟩:=aW kk;have e:=e2.trans e3;have o':=o.mono e;obtain⟨ob,vs,o1,lo,o2,hl,o3,o4⟩:=o'.h;obtain⟨b,x1,x2,rfl,t1,r1,r2⟩:=hx;cases r1;cases r2;obtain⟨p1,p2⟩:=u9 o3 o4 (k:=k)<|Bk (R:=R) e3.g hv;refine⟨W3.G,p,vs,b,k,rfl,⟨ob,W3.ok,o1,lo,o2,hl⟩,by omega,rfl,t1,fun o2' d'=>?_⟩;exact h4 (W3.mut p (XO p o2') o'.g) (.of e o'.g) ⟨o'.g,o2',_,aB,lo,d',by have:=ua (kvs:=xs) (k:=k) (a:=a);omega,p1,p2⟩
theorem w6[Mono R]{xs:List ((Int×Int)×α)}(o:OwP prog w K R W p xs)(hi:σ[i]? =some (some<|.ref p):=by rfl):EV Er (dW (x8 prog w K)<|ak (bD i) aN) σ W (sh isI) (.ok (xs.length:Int)):=fun W1 e1 Q k=>by
 obtain⟨vs,g,hl,_⟩:=(o.mono e1).pd;exact⟨.ref p,hi,W1.G,p,vs,rfl,g,by rw[hl];exact k _ W1 (.refl _) rfl⟩
theorem ud[Mono R]{xs:List ((Int×Int)×α)}(o:OwP prog w K R W p xs)(hi:σ[i]? =some (some<|.ref p):=by rfl):EVo Er (dW (u0 prog w K)<|ak (bD i) aN) σ W (isT2 K isI isI) (.ok (xs.map (·.1))):=fun W1 e1 Q k=>by
 obtain⟨vs,g,hl,rel⟩:=(o.mono e1).pd;refine⟨.ref p,hi,W1.G,p,vs,rfl,g,fun q us hq l1 at_=>?_⟩;refine ju (W2:=W1) (vs:=us) ⟨by rw[BJ,l1,hl],fun i v m e1 e2=>?_⟩ (.refl _) k q hq;rw[Bz]at e2;obtain⟨x,h1,rfl⟩:=Cs.mp e2;have hv:i<vs.length:=by have:=(Bw.mp h1).1;omega
 obtain⟨b,rfl,hb⟩:=at_ i v vs[i] e1 (Bo hv);have:=(rel i vs[i] x (Bo hv) h1).1;rw[this]at hb;exact⟨b,_,_,rfl,hb,rfl,rfl⟩
theorem ue{ma:Res (List<|Int×Int)}(ha:EV Er ta σ W (pk<|isT2 K isI isI) ma):EVo Er (dW (u4 K)<|ak ta aN) σ W (isT2 K isI isI) (ma.bind fun a=>tV a):=fun W1 e1 Q k=>
 ha W1 e1 _ ((Bm k).imp fun a ka x W2 e2 hx=>by
  obtain⟨p,vs,rfl,h1,h2⟩:=hx;obtain⟨⟨h3,nd⟩,h4⟩:=aW ka;refine⟨W2.G,p,vs,a,rfl,W2.ok,Di h1,h2.1,fun i v k e1 e2=>?_,nd,h3,fun q us' ks' hq p1 p2 l1 at_=>?_⟩
  ·obtain⟨b,x1,x2,rfl,t1,r1,r2⟩:=h2.2 i v k e1 e2;cases r1;cases r2;exact⟨b,rfl,t1⟩
  ·have e:ks'=dw a:=gQ p1 (p2.imp fun {a b} h=>by rw[ia]at h;rw[i4];omega);rw[<-e]at h4;exact ju (W2:=W2) (vs:=us') ⟨l1,fun i v m e1 e2=>by
    obtain⟨b,rfl,hb⟩:=at_ i v m e1 e2;exact⟨b,_,_,rfl,hb,rfl,rfl⟩⟩ e2 h4 q hq)
end
section
variable{Er:Nat->Prop}{α β γ:Type}{K:Br}{W W0:Wd}{σ:St}{t ta tb te:TE}{cs:List TC}{D:Ends}{r:TS}{i k:Nat}{F:FS}
theorem yc{R:Rf α}{c:TT}{mc:Res Bool}{m n:Res α}(hc:TV Er c σ W mc)(h:EVt Er ta σ W R m)(g:EVt Er tb σ W R n):EVt Er (fG c ta tb) σ W R (mc.bind fun b=>if b then m else n):=fun W1 e1 Q k=>hc W1 e1 _ ((Bm k).imp fun b kb W2 e2=>by
 cases b with
 |true=>exact h W2 (e1.trans e2) _ (kb.imp fun c kc v W3 F e3 hF hv=>kc v W3 F (e2.trans e3) (fun q hq=>none_of e2.h<|hF q hq) hv)
 |false=>exact g W2 (e1.trans e2) _ (kb.imp fun c kc v W3 F e3 hF hv=>kc v W3 F (e2.trans e3) (fun q hq=>none_of e2.h (hF q hq)) hv))
theorem uf{R:Rf α}[FrT R]{m:Res α}(h:EVt Er t σ W R m):EVt Er (bW<|ak t aN) σ W (oL R) (m.bind fun a=>.ok [a]):=fun W1 e1 Q k=>
 h W1 e1 _ ((Bm k).imp fun a ka v W2 F e2 hF hv=>⟨o7 (n:=1) (by decide),fun p hp=>by
  have hl:=Jh hv;have np:¬F p:=fun z=>(hl p z).2 hp;refine ka _ (W2.mut p (.lst [v])<|W2.gnone hp) (fun q=>q=p\/F q) (e2.trans<|.own _ hp) (fun q hq=>hq.elim (fun z=>by rw[z];exact none_of e2.h hp)<|hF q) ⟨p,[v],fun j=>if j=0 then F else fun _=>False,rfl,W2.gnone hp,aB,⟨rfl,fun j x u a b=>?_,fun j q hq=>?_,fun j l q h1 h2=>?_⟩,fun j=>?_,fun q=>⟨?_,?_⟩⟩
  ·cases j with
   |zero=>cases a;cases b;exact Kz hv (.own _ hp)
   |succ j=>cases a
  ·cases j with
   |zero=>exact Nat.zero_lt_one
   |succ j=>exact(show False from by simpa using hq).elim
  ·cases j<;>cases l<;>simp at h1 h2 ⊢
  ·cases j with
   |zero=>exact np
   |succ j=>simp
  ·rintro (z | z);·exact .inl z
   ·exact .inr ⟨0,z⟩
  ·rintro (z | ⟨j,z⟩);·exact .inl z
   ·cases j with
    |zero=>exact .inr z
    |succ j=>exact(show False from by simpa using z).elim⟩)
class NoL(R:Rp α):Prop where
 no:∀{G G':Hp}{a:α}{v:V},(∀q o,G q=some o->(∀vs,o≠.lst vs)->G' q=some o)->R G a v->R G' a v
instance zkeep63:NoL isI:=⟨fun _ h=>h⟩
theorem sqt_no{G G':Hp}(h:∀q o,G q=some o->(∀vs,o≠.lst vs)->G' q=some o){p:Addr}{us:List V}(s:SqT K G p us):SqT K G' p us:=by
 rcases s with(s|⟨o,s⟩)|s;·exact .inl (.inl (h _ _ s fun _ z=>nomatch z))
 ·exact .inl (.inr ⟨o,h _ _ s fun _ z=>nomatch z⟩)
 ·exact .inr s
instance zkeep66{R1:Rp α}{R2:Rp β}[NoL R1][NoL R2]:NoL (isT2 K R1 R2):=⟨fun h⟨p,x,y,e,s,a,b⟩=>⟨p,x,y,e,sqt_no h s,NoL.no h a,NoL.no h b⟩⟩
theorem w8{R:Rp α}{xs:List (List α)}{v:V}(h:oL (oL<|fz R) W F xs v):∀q,F q->∃vs,W.H q=some (.lst vs):=by
 obtain⟨p,vs,Fs,rfl,g,hp,t,np,hF⟩:=h;intro q hq;rcases (hF q).mp hq with rfl|⟨i,hi⟩
 ·exact⟨_,hp⟩
 ·obtain⟨x,u,_,_,r⟩:=t.at2 hi;obtain⟨p',vs',Fs',rfl,g',hp',t',np',hF'⟩:=r;rcases (hF' q).mp hi with rfl|⟨j,hj⟩
  ·exact⟨_,hp'⟩
  ·obtain⟨y,w,_,_,r'⟩:=t'.at2 hj;exact absurd hj<|r'.1 q
open Classical in
theorem zq{R:Rf β}[FrT R]{R':Rp β}[FzT R R']{b:β}{u:V}(t:R W F b u):∃Wf,Wf.H=W.H/\Same W.G Wf.G/\R' Wf.G b u/\∀W2,Ext Wf W2->∃W3,W3.H=W2.H/\Ext W W3/\∀q,¬F q->W3.G q=W2.G q:=by
 have lv:=fun q=>Jh t q;have hs:Same W.G fun q=>if F q then W.H q else W.G q:=fun a o h=>by
  show(if F a then _ else _)=_;rw[if_neg fun z=>by have:=(lv a z).1;rw[h]at this;cases this];exact h
 have ho:Same (fun q=>if F q then W.H q else W.G q) W.H:=fun a o h=>by
  have h:(if F a then W.H a else W.G a)=some o:=h;split at h;·exact h
  ·exact W.ok _ _ h
 let Wf:Wd:=⟨_,W.H,ho⟩
 refine⟨Wf,rfl,hs,FzT.fz t hs fun q hq=>if_pos hq,fun W2 e=>⟨⟨fun q=>if F q then none else W2.G q,W2.H,fun a o h=>?_⟩,rfl,⟨fun a o h=>?_,e.h,fun q hq=>?_⟩,fun q hq=>if_neg hq⟩⟩
 ·have h:(if F a then none else W2.G a)=some o:=h;split at h;·cases h
  ·exact W2.ok _ _ h
 ·show(if F a then none else W2.G a)=_;rw[if_neg fun z=>by have:=(lv a z).1;rw[h]at this;cases this];exact e.g _ _<|hs _ _ h
 ·show(if F q then none else W2.G q)=_;by_cases z:F q;·rw[if_pos z,(lv q z).1]
  ·rw[if_neg z,e.k q hq];exact if_neg z
theorem ug{R:Rp β}[Mono R][NoL R]{xs:List (List β)}{v:V}{m:Res (List β)}(S:Sep W0 W cs)(E:Ext W0 W)(hk:cs[k]? =some (tc (oL<|oL<|fz R) xs v))(h:∀Wf,Same W.G Wf.G->isL (isL R) Wf.G xs v->EVo Er te σ Wf R m)(q:(m.bind fun b=>fP xs b).OkE Er fun ys=>∀W',Same W.G W'.G->Ext W0 W'->Sep W0 W' (cs.set k<|tc (oL<|oL<|fz R) ys v)->D.nx σ W'.H)(hi:σ[i]? =some (some v):=by rfl):
  bj (eJ K "list" aI (bD i)<|ak te aN) D σ W.H:=by
 have S':=S;obtain⟨Fs,s⟩:=S';have tr:oL (oL<|fz R) W (Fs k) xs v:=s.el k _ hk;have kk:k<cs.length:=(Bw.mp hk).1;have lst:=w8 tr;obtain⟨Wf,f1,f2,f3,f4⟩:=zq tr;obtain⟨p0,vs0,_,rfl,g0,h0,_⟩:=id tr;refine⟨_,hi,.inl ⟨rfl,vs0,Di h0⟩,?_⟩;have hh:=h Wf f2 f3 Wf<|.refl _;rw[f1]at hh;refine hh _<|(Bm q).imp fun b kb p W2 e2 hp o=>?_;obtain⟨W3,a1,a2,a3⟩:=f4 W2 e2;have nF:¬Fs k p:=fun z=>(Jh tr p z).2 hp;have t3:oL (fz R) W3 (· =p) b (.ref p):=by
  obtain⟨o1,us,o2,o3⟩:=o;refine oL.ofOw ⟨by rw[a3 p nF];exact o1,us,by rw[a1];exact o2,o3.1,fun j x y e3 e4=>NoL.no (fun z o hz hn=>?_)<|o3.2 j x y e3 e4⟩;rw[a3 z fun hf=>?_];·exact hz
  ·obtain⟨ws,hw⟩:=lst z hf;have e5:=e2.keepH (q:=z) (by rw[f1,hw];exact fun z=>nomatch z);rw[f1,hw,W2.ok _ _ hz]at e5;cases e5;exact hn _ rfl
 have S3:=Sep.add (F:=(· =p)) S E a2 (fun z hz=>by rw[hz];exact hp) t3;rw[<-a1];have:=t9 (Er:=Er) (K:=K) (D:=⟨fun _ H=>D.nx σ H,D.rt,D.bk,D.ct⟩) (σ:=σ++[some (.ref p)]) (i:=i) (j:=σ.length) (k:=k) (l:=cs.length) (xs:=xs) (b:=b) (v:=.ref p0) (u:=.ref p) S3 (E.trans a2) (by rw[BG kk];exact hk) (by simp) (BL kk) (kb.imp fun ys ky W' e1 e3 S4=>ky W' (a2.g.trans e1) e3 (by
  rw[List.set_append_left _ _ kk]at S4;rw[List.eraseIdx_append_of_length_le (by simp)]at S4;simpa using S4)) (by rw[BG (Bw.mp hi).1];exact hi) (by simp)
 obtain⟨v1,g1,_,v2,g2,g3⟩:=this;rw[BG (Bw.mp hi).1,hi]at g1;cases g1;rw[BH<|BD _,Gd]at g2;cases g2;exact g3
end
end Wb
namespace Mi
abbrev Cd:=Tx×Tx×Int
abbrev Pl:=Tx×Tx×Tx
abbrev Ii:=Int×Int
end Mi
namespace L2
open PySem PySem.Spec PyProof.Rows Wb
end L2
namespace Wb
open PySem L2 Mi
end Wb
namespace L2
open PySem PySem.Spec PyProof.Rows Wb
end L2
namespace Wb
open PySem L2 Mi
end Wb
namespace L2
open PySem PySem.Spec PyProof.Rows
section
variable{X:Cx}
theorem f6(i:Nat){x:Str}{pos:Pos}(hN:X.N.Nodup:=by exact Le (by assumption))(hi:X.N[i]? =some x:=by rfl)(hx:xl X.env.scope x:=by first|exact Kv rfl|exact JG rfl)(hf:X.fn x=true\/X.env.scope.names.lookup x=some .local:=by first|exact .inl rfl|exact .inr rfl|assumption):PG X (.Name x pos) (aP i):=bL hN hi hx hf
theorem cX(i:Nat){x:Str}{e:Expr}{te:TE}{pos pos':Pos}(he:PE X e te)(hN:X.N.Nodup:=by exact Le (by assumption))(hi:X.N[i]? =some x:=by rfl)(hx:xl X.env.scope x:=by first|exact Kv rfl|exact JG rfl)(hs:swapsWith e (some<|.Name x pos') pos.line X.env=pure false:=by rfl)(hf:X.fn x=true\/X.env.scope.names.lookup x=some .local:=by first|exact .inl rfl|exact .inr rfl|assumption):PS X (.Assign [.Name x pos'] e pos) (bI te<|aP i):=xr hN hi hx he hs hf
theorem dq{x:Str}{ps:List Str}{k:Nat}{sp:Sp}{p pos:Pos}{e:Expr}{es:List Expr}{t:TA}(C:Cal X.prog X.w X.K X.mg X.base x ps k sp)(ha:PA X (e::es) t)(hr:Room k X.A:=by exact Room.mono (by assumption) (by decide))(hg:Gl X x:=by rfl)
  (hdb:(x==("__debug__" :Str))=false:=by decide) (he:starEach (e::es) X.env=(false,eval e X.env)::starEach es X.env:=by rfl) (hpl:(backTo pos<|starEach es X.env).any (·.1)=false:=by rfl):PE X (.Call (.Name x p) (e::es) [] pos) (aV sp [] E0 t):=su C hr hg ha hdb he hpl
end
end L2
namespace Wb
open PySem L2 Mi
section
variable{Er:Nat->Prop}{W:Wd}{σ:St}{te:TE}{D:Ends}{r:TS}{i:Nat}
theorem bf{i:Nat}{a:Int}(h:σ[i]? =some (some<|.int a):=by rfl):EV Er (bD i) σ W (sh isI) (.ok a):=gM (R:=sh isI) (v:=.int a) rfl h
theorem cV{i:Nat}{a:Tx}(h:σ[i]? =some (some<|.str<|aT a):=by rfl):EV Er (bD i) σ W (sh isS) (.ok a):=gM (R:=sh isS) (v:=.str<|aT a) rfl h
theorem zr{i:Nat}{a:Bool}(h:σ[i]? =some (some<|.bl a):=by rfl):EV Er (bD i) σ W (sh isB) (.ok a):=gM (R:=sh isB) (v:=.bl a) rfl h
theorem aU{α:Type}{R:Rp α}[Mono R]{i:Nat}{a:α}{v:V}(r:R W.G a v)(h:σ[i]? =some (some v):=by rfl):EV Er (bD i) σ W (sh R) (.ok a):=gM (R:=sh R) r h
end
abbrev qA(K:Br):=isT3 K isS isS isI
abbrev qB(K:Br):=isT3 K isS isS isS
abbrev qC(K:Br):=isT2 K isI isI
abbrev qD(K:Br):=isL<|qB K
abbrev qE(K:Br):=isL<|qC K
def DI(K:Br)(x:Str)(st:Stmt)(ps:List Str):Prop:=∃f fd,Fun K x x st f fd/\Cj K mainGlobals x=some (some<|.ref f)/\Binds K fd ps []
section
variable{P:BK}{w:BQ}{K:Br}{mg:Str->Option Bs}{base h:Heap}{x:Str}{st:Stmt}{ps:List Str}{n:Nat}{sp:Sp}{f:Addr}
def zt:List Str->List Bs->List Bs
 | [],_=>[]
 |_::r,us=>us.headD .none::zt r us.tail
theorem uh:∀(ps:List Str)(us:List Bs),us.length=ps.length->zt ps us=us
 | [],us,h=>(FP h).symm
 |_::r,[],h=>by cases h
 |_::r,a::us,h=>by
  show a::zt r us=_;rw[uh r us<|Nat.succ.inj h]
theorem DI.mk{oc:Bs}{od an:Option Addr}{osl:Array (Option Bs)}{kV doc pm cdv ct:Bs}(da:Cj K mainGlobals x=some (some<|.ref f))(dl:K.lookup f=some ⟨oc,od,.func<|DD x x (defArgs st) (defBody st) (defScope st) .none kV doc pm an cdv ct,osl⟩)
  (dc:EL K cdv x=true) (dk:Eb K (.ref f)=true) (db:∀(kV doc pm:Bs)(an:Option Addr)(cdv ct:Bs)(us:List Bs),bindArgs (DD x x (defArgs st) (defBody st) (defScope st) .none kV doc pm an cdv ct) ⟨zt ps us,[]⟩=pure (ps.zip<|zt ps us)):DI K x st ps:=
 ⟨f,_,lu dl dc dk,da,(lu dl dc dk).binds fun kV doc pm an cdv ct us hl=>by
  have:=db kV doc pm an cdv ct us;rw[uh ps us hl]at this;exact this⟩
theorem DI.cal(d:DI K x st ps)(X:K.In h)(G:h.Ns mainGlobals mg)(r:∀{f fd},Fun K x x st f fd->FnOk P w K mg base CX0 n f fd ps sp):Cal P w K mg base x ps n sp:=by
 obtain⟨f,fd,F,a,b⟩:=d;exact⟨f,fd,r F,DF X G a,F.kp,b⟩
end
end Wb
namespace L2
open PySem PySem.Spec PyProof.Rows Wb
def zu:R2:=fun x y H Q=>∃p q xs,x=.ref p/\y=.ref q/\H p=some (.lst xs)/\H q=some (.lst [])/\Q (.bl<|!xs.isEmpty) H
theorem yd{X:Cx}(hu:X.A.units<cLine):OpR X (compareOp .NotEq) zu:=by
 intro pins s σ H x y v u Q I rx ry h;obtain⟨p,q,xs,rfl,rfl,h1,h2,hq⟩:=h;cases rx;cases ry;obtain⟨i1,r1,t1,z1⟩:=I.list<|Di (K:=X.K) h1;obtain⟨i2,r2,t2,z2⟩:=I.list<|Di (K:=X.K) h2;have l1:=r1.length;have l2:=r2.length;have key:SeqAt.RcNeAt X.A s (.ref p) (.ref q) (!xs.isEmpty):=by
  cases xs with
  |nil=>
   have:=Lc (A:=X.A) (s:=s) (e:=fun _=>true) t1.isList t2.isList (by rw[BB,BB,<-l1,<-l2]) hu (fun j h1' h2'=>by
    have:j<i1.length:=by simpa using h1'
    rw[<-l1]at this;exact absurd this (Hu _))
   have e0:i1.toArray.size=0:=by rw[BB,<-l1];rfl
   rw[e0]at this;exact this
  |cons a r=>exact JO t1.isList t2.isList (by simp at l1 l2 ⊢;omega) hu
 exact key _ _ _ _ ⟨.bl _,H,I,rfl,hq⟩
def zv(K:Br)(neg:Bool):R2:=fun x y H Q=>∃(a:Int×Int)(ps:List (Int×Int))(p:Addr)(vs:List V),y=.ref p/\isT2 K isI isI H a x/\SqL K H p vs/\LR (isT2 K isI isI) H ps vs/\Q (.bl (if neg then !ps.contains a else ps.contains a)) H
theorem zw{X:Cx}{pins:List (Addr×Obj)}{σ:St}{H:Hp}{s:Bu}{a b:Addr}{k l:Int×Int}(hu:X.A.units+1<cLine)(I:Inv X pins σ H s)(h:SqT X.K H a [.int k.1,.int k.2])(h':SqT X.K H b [.int l.1,.int l.2]):Ip X.A.in1 s (.ref a) (.ref b) (decide<|k=l):=by
 by_cases e:a=b
 ·subst e;rw[decide_eq_true<|jM I h h'];exact Jo _
 ·obtain⟨i1,r1,t1,z1⟩:=I.tuple h;obtain⟨i2,r2,t2,z2⟩:=I.tuple h';obtain⟨_,_,rfl,⟨t,rfl⟩,⟨u,rfl⟩⟩:=kB r1;obtain⟨_,_,rfl,⟨t',rfl⟩,⟨u',rfl⟩⟩:=kB r2;have key:=Lh (A:=X.A.in1) (s:=s) (e:=fun j=>if j=0 then k.1==l.1 else k.2==l.2) t1 t2 hu (fun j h1 h2=>by
   have h1:j<2:=h1
   match j,h1 with
   |0,_=>exact Gj _ _ _ _
   |1,_=>exact Gj _ _ _ _)
  have:decide (k=l)=((Cv<|min #[ES k.1 t,.int k.2 u].size #[ES l.1 t',.int l.2 u'].size).all (fun j=>if j=0 then k.1==l.1 else k.2==l.2)&& #[ES k.1 t,.int k.2 u].size== #[ES l.1 t',.int l.2 u'].size):=by
   show decide (k=l)=(([0,1]:List Nat).all _&&(2:Nat)==2)
   simp only[GO,List.all_nil,if_true,Bool.and_true];rw[CK];simp[Prod.ext_iff]
  rw[this];exact Ld e key
open Classical in
noncomputable def ye(K:Br)(H:Hp)(a:Int×Int)(u:Bs):Bool:=decide (∃b,u=.ref b/\SqT K H b [.int a.1,.int a.2])
open Classical in
theorem yf{X:Cx}{pins:List (Addr×Obj)}{σ:St}{H:Hp}{s:Bu}{b:Addr}{a k:Int×Int}(I:Inv X pins σ H s)(h:SqT X.K H b [.int k.1,.int k.2]):ye X.K H a (.ref b)=decide (k=a):=by
 unfold ye;rw[CK,decide_eq_true_iff,decide_eq_true_iff];constructor
 ·rintro ⟨b',e,h'⟩;cases e;exact jM I h h'
 ·rintro rfl;exact⟨b,rfl,h⟩
theorem pS{X:Cx}{pins:List (Addr×Obj)}{σ:St}{H:Hp}{s:Bu}{q:Addr}{a:Int×Int}(hu:X.A.units+1<cLine)(I:Inv X pins σ H s)(ha:SqT X.K H q [.int a.1,.int a.2]):∀{ps:List (Int×Int)}{vs:List V}{us:List Bs},LR (isT2 X.K isI isI) H ps vs->Vals vs us->(us.any (ye X.K H a)=ps.contains a)/\∀u∈us,Ip X.A.in1 s u (.ref q) (ye X.K H a u)
 | [],vs,us,h,r=>by
  have:vs=[]:=FP h.1;subst this;cases r;exact⟨rfl,fun u hu=>by cases hu⟩
 |k::ps,[],us,h,r=>absurd h.1 (by simp)
 |k::ps,v::vs,us,h,r=>by
  cases r with
  |cons r1 r2=>
   obtain⟨g1,g2⟩:=pS hu I ha (ps:=ps) ⟨by have:=h.1;simpa using this,fun i x m e1 e2=>h.2 (i+1) x m (by simpa using e1) (by simpa using e2)⟩ r2;obtain⟨b,x1,x2,rfl,t1,q1,q2⟩:=h.2 0 v k rfl rfl;cases q1;cases q2;cases r1;have e:=yf (a:=a) I t1;refine⟨?_,fun u hu'=>?_⟩
   ·rw[F3,g1,e,List.contains_cons];congr 1;rw[CK,decide_eq_true_iff,beq_iff_eq];exact eq_comm
   ·rcases BM.mp hu' with rfl | hu';·rw[e];exact zw hu I t1 ha
    ·exact g2 u hu'
theorem rg{X:Cx}{K:Br}(hK:X.K=K)(hu:X.A.units+1<cLine):OpR X (compareOp .NotIn) (zv K true):=by
 subst hK;intro pins s σ H x y v u Q I rx ry h;obtain⟨a,ps,p,vs,rfl,⟨q,x1,x2,rfl,t1,q1,q2⟩,hl,lr,hq⟩:=h;cases q1;cases q2;cases rx;cases ry;obtain⟨its,r,pl,hz⟩:=I.list hl;obtain⟨g1,g2⟩:=pS hu I t1 lr r;refine Iq (ye X.K H a) pl.isList (fun w hw=>g2 w (by simpa using hw)) ⟨.bl _,H,I,rfl,?_⟩;rw[show its.toArray.any (ye X.K H a)=its.any (ye X.K H a) by simp,g1];exact hq
end L2
namespace Wb
open PySem L2 Mi
section
variable{Er:Nat->Prop}{α:Type}{P:BK}{w:BQ}{K:Br}{W:Wd}{σ:St}{t ta tb:TE}{R:Rp α}
theorem yg{ma:Res (List α)}(ha:EV Er ta σ W (pk R) ma):EV Er (cY zu ta<|bW aN) σ W (sh isB) (ma.bind fun a=>.ok<|!a.isEmpty):=fun W1 e1 Q k=>
 ha W1 e1 _ ((Bm k).imp fun a ka x W2 e2 hx=>by
  obtain⟨p,vs,rfl,h1,h2⟩:=hx;refine⟨by decide,fun q hq=>⟨p,q,vs,rfl,rfl,?_,aB,?_⟩⟩;·rw[aG (fun z=>by rw[z]at h1;rw[hq]at h1;cases h1)];exact h1
  ·have:vs.isEmpty=a.isEmpty:=by
    have:=h2.1;cases vs<;>cases a<;>simp at this ⊢
   rw[this];exact ka (.bl (!a.isEmpty)) (W2.mut q (.lst []) (W2.gnone hq)) (e2.trans (.own _ hq)) rfl)
theorem LR.up{ps:List α}{vs:List V}{H H':Hp}[Mono R](h:LR R H ps vs)(e:Same H H'):LR R H' ps vs:=⟨h.1,fun i v m a b=>Bk e<|h.2 i v m a b⟩
theorem ou{ma:Res (Int×Int)}{mb:Res (List<|Int×Int)}(ha:EV Er ta σ W (sh<|isT2 K isI isI) ma)(hb:EV Er tb σ W (pk<|isT2 K isI isI) mb):EV Er (cY (zv K true) ta tb) σ W (sh isB) (ma.bind fun a=>mb.bind fun b=>.ok<|!b.contains a):=fun W1 e1 Q k=>
 ha W1 e1 _ ((Bm k).imp fun a ka x W2 e2 hx=>hb W2 (e1.trans e2) _ ((Bm ka).imp fun b kb y W3 e3 hy=>by
  obtain⟨p,vs,rfl,h1,h2⟩:=hy;exact⟨a,b,p,vs,rfl,Bk W3.ok (Bk (R:=isT2 K isI isI) e3.g hx),Di h1,h2.up W3.ok,kb _ W3 (e2.trans e3) rfl⟩))
end
end Wb
namespace Wb
open PySem PySem.W PySem.Calls PyProof.Rows
section
variable{prog:BK}{w:BQ}{K:Type}[DecidableEq K]{knd:KeyKind prog w K}{A:Ck}{E:Bs->Bu->Prop}{s:Bu}
theorem oz{a x:Addr}{o:Obj}{es:Array (Int×Bs)}{ep:Nat}{t:Cy}{led:Bool}{ks:List (List K)}{kx:List K}(hu:A.units<cLine)(S:SetT knd s.heap a led ks o es ep t)(hn:es.size<1000)(hx:D6 knd s.heap kx x)(hI:∀k∈kx,∀v,knd.is k v=true->∃i t,v=.int i t){Q:Bool->Bu->Prop}
  (h1:kx∈ks->Q false {s with toks:=s.toks+(kx.length+1)}) (h2:kx∉ks->∀h' ks' o' es' ep' t',BO a s.heap h'->SetT knd h' a led ks' o' es' ep' t'->ks'.Perm (kx::ks)->es'.toList.Perm ((tupleKeyHash knd kx,.ref x)::es.toList)->Q true {s with heap:=h',toks:=s.toks+(kx.length+1)}):
  wpAny (model prog w) A (setAdd a<|.ref x) Q E s:=by
 unfold setAdd;refine Cz<|Bl<|Gu hu hx ?_;unfold setAddHashed;exact Cz<|pL (s:={s with toks:=s.toks+(kx.length+1)}) hu S hn hx hI (fun hm=>h1 hm) fun hm h' ks' o' es' ep' t' a1 a2 a3 a4=>h2 hm h' ks' o' es' ep' t' a1 a2 a3 a4
end
section
variable{prog:BK}{w:BQ}{A:Ck}{R:J6->Bu->Prop}{I:Addr}{fp wr:List Addr}{G:Array Jz->Array Jz->Prop}{n:Nat}{P:Nat->Bs->Prop}{St:Nat->Bu->Prop}{K:Type}[DecidableEq K]{knd:KeyKind prog w K}
def ui(adr:Nat->Addr)(n:Nat)(es:Array (Int×Bs)):Prop:=∀e∈es.toList,∃j,j<n/\e.2=.ref (adr j)
theorem jO{h h':Heap}{S:Addr}{led:Bool}{ks:List (List K)}{o:Obj}{es:Array (Int×Bs)}{ep:Nat}{t:Cy}{adr:Nat->Addr}(T:SetT knd h S led ks o es ep t)(F:ui adr n es)(hw:∀j,j<n->adr j∉wr)(hS:S∉wr)(hk:∀b ob,b∉wr->h.get? b=some ob->h'.get? b=some ob):SetT knd h' S led ks o es ep t:=
 ⟨hk S _ hS T.at_,T.ex,T.dat,T.tab,⟨T.tup.len,fun i e he=>by
  obtain⟨k,b,q1,q2,⟨ob,items,m,g1,g2,g3,g4⟩,q4⟩:=T.tup.at_ i e he;obtain⟨j,hj,ej⟩:=F e<|BI he;have:b=adr j:=by rw[q2]at ej;cases ej;rfl
  exact⟨k,b,q1,q2,⟨ob,items,m,hk b ob (by rw[this];exact hw j hj) g1,g2,g3,g4⟩,q4⟩⟩,T.nd,T.led,T.pl⟩
theorem rh(W:WalksS prog w A.in1 I fp wr G n P St)(S:Addr)(hSf:S∉fp)(led:Bool)(hu:A.in1.units<cLine)(val:Nat->List K)(adr:Nat->Addr)(hval:∀i v,P i v->v=.ref (adr i))(hI:∀i,∀k∈val i,∀v,knd.is k v=true->∃j t,v=.int j t)(hn:n<1000)(hw:∀i,i<n->adr i∉wr):
  ∀(k i:Nat)(s:Bu)(ks:List (List K))(o:Obj)(es:Array (Int×Bs))(ep:Nat)(t:Cy),n-i=k->i<=n->St i s->SetT knd s.heap S led ks o es ep t->ks.length<=i->(∀q,q∈ks↔ ∃j,j<i/\val j=q)->(∀j,j<n->D6 knd s.heap (val j) (adr j))->ui adr n es->
   (∀s' ks' o' es' ep' t',Moved (S::wr) G s s'->SetT knd s'.heap S led ks' o' es' ep' t'->(∀q,q∈ks'↔∃j,j<n/\val j=q)->ui adr n es'->R (.ok<|.ret .none) s')->
   codeAny (model prog w) A (.builtin "set.update.loop" ⟨[.ref S,.ref I],[]⟩) R s:=by
 have hSw:S∉wr:=fun h=>hSf<|W.sub _ h;have hsub:∀b∈wr,b∈S::wr:=fun b hb=>BP _ hb;intro k
 induction k with
 |zero=>
  intro i s ks o es ep t hk hi hst hS hl hm hkey hF hR;have hin:i=n:=by omega
  subst hin;refine G4 H0 ?_;rw[FQ Ei _];show wpAny _ A.in1 (pyNext (.ref I)>>=_) _ _ s;refine Bl<|W.done s _ _ hst fun s' hmv=>?_;show wpAny _ A.in1 (ret Ct) _ _ s';exact Bq<|hR s' ks o es ep t (hmv.mono hsub) (jO hS hF hw hSw hmv.heap) hm hF
 |succ k ih=>
  intro i s ks o es ep t hk hi hst hS hl hm hkey hF hR;have hlt:i<n:=by omega
  refine G4 H0 ?_;rw[FQ Ei _];show wpAny _ A.in1 (pyNext (.ref I)>>=_) _ _ s;refine Bl<|W.item i s _ _ hlt hst fun v s' hP hst' hmv=>?_;obtain rfl:=hval i v hP;have hS':=jO hS hF hw hSw hmv.heap;have hkey':∀j,j<n->D6 knd s'.heap (val j) (adr j):=fun j hj=>by
   obtain⟨ob,items,m,g1,g2,g3,g4⟩:=hkey j hj;exact⟨ob,items,m,hmv.heap _ _ (hw j hj) g1,g2,g3,g4⟩
  have hsz:es.size=ks.length:=by have:=hS.tup.len;simpa using this
  show wpAny _ A.in1 (holding [CL (adr i)] (setAdd S<|.ref<|adr i)>>=_) _ _ s';refine Bl (Cz (oz hu hS' (by omega) (hkey' i hlt) (hI i) (fun hmem=>?_) fun hmem h' ks' o' es' ep' t' a1 a2 a3 a4=>?_))
  ·refine Bq ⟨Ie Ei _,ih (i+1) _ ks o es ep t (by omega) hlt (W.frame _ s' _ _ hst' (CF ..) fun b hb o e=>e) hS' (by omega) (fun q=>?_) hkey' hF fun s'' ks' o' es' ep' t' hm'' b1 b2 b3=>?_⟩
   ·rw[hm];constructor;·rintro ⟨j,hj,e⟩;exact⟨j,by omega,e⟩
    ·rintro ⟨j,hj,e⟩;by_cases z:j<i;·exact⟨j,z,e⟩
     ·have:j=i:=by omega
      subst this;exact(hm q).mp (e▸hmem)
   ·exact hR s'' ks' o' es' ep' t' (KS W.gtrans ((hmv.mono hsub).then_heap (CF ..) fun b o hb e=>e) hm'') b1 b2 b3
  ·have nS:∀j,j<n->adr j≠S:=fun j hj z=>by
    obtain⟨ob,items,m,g1,g2,g3,g4⟩:=hkey' j hj;rw[z,hS'.at_]at g1;cases g1;rw[hS'.dat]at g3;cases g3
   refine Bq ⟨Ie Ei _,ih (i+1) _ ks' o' es' ep' t' (by omega) hlt (W.frame _ s' _ _ hst' (CF ..) fun b hb o e=>?_) a2 (by have:=a3.length_eq;simp at this;omega) (fun q=>?_) (fun j hj=>?_) (fun e he=>?_) fun s'' ks'' o'' es'' ep'' t'' hm'' b1 b2 b3=>?_⟩;·rw[a1.2 b (fun h:b=S=>hSf (by rw[<-h];exact hb))];exact e
   ·rw[a3.mem_iff,BM,hm];constructor
    ·rintro (rfl | ⟨j,hj,e⟩);·exact⟨i,by omega,rfl⟩
     ·exact⟨j,by omega,e⟩
    ·rintro ⟨j,hj,e⟩;by_cases z:j<i;·exact .inr ⟨j,z,e⟩
     ·have:j=i:=by omega
      subst this;exact .inl e.symm
   ·obtain⟨ob,items,m,g1,g2,g3,g4⟩:=hkey' j hj;exact⟨ob,items,m,(a1.2 _<|nS j hj).trans g1,g2,g3,g4⟩
   ·rcases BM.mp (a4.mem_iff.mp he)with rfl | he;·exact⟨i,hlt,rfl⟩
    ·exact hF e he
   ·refine hR s'' ks'' o'' es'' ep'' t'' (KS W.gtrans ((hmv.mono hsub).then_heap (CF ..) fun b o hb e=>?_) hm'') b1 b2 b3;rw[a1.2 b (fun h:b=S=>hb (by rw[h];exact BN))];exact e
end
section
variable{prog:BK}{w:BQ}{K:Type}[DecidableEq K]{knd:KeyKind prog w K}{A:Ck}{E:Bs->Bu->Prop}{s:Bu}
theorem kg(a:Bs){Q₁:Bs->Bu->Prop}(h:Q₁ (.ref s.heap.objs.size) {s with heap:=s.heap.push (L2.set0 w)}):
  codeAny (model prog w) A (.call (.builtin "set.__new__") ⟨[.type "set",a],[]⟩) (wants Q₁ E) s:=by
 refine Hs ?_;show wpAny _ A.in1 (do checkBuiltinCall "set.__new__" ⟨[.type "set",a],[]⟩;again (.builtin "set.__new__" ⟨[.type "set",a],[]⟩)) _ _ s;refine Bl<|GG (F.newCall_set_1 a)<|Bq ⟨Ie Jw _,G4 F.entry_set_new ?_⟩;rw[FQ Jw _];unfold DS.«set.__new__» JP;have hsub:=sub_set_self;obtain⟨hp,g,d,tk,os⟩:=s;dsimp only
 wp_walk
 refine DU<|Bq ?_;dsimp only;simp only[newObj];refine Bl<|wpAny_alloc<|Bq ?_;exact Bq h
theorem zx{h:Heap}{S:Addr}(hS:h.get? S=some (L2.set0 w)):SetT knd h S (!w.params.followText "set-order") [] (L2.set0 w) #[] 0 (.fresh 0 0<|!w.params.followText "set-order"):=
 ⟨hS,⟨rfl,rfl,rfl⟩,rfl,⟨⟨rfl,rfl,fun a b _ hb=>by simp[Gv]at hb,fun j⟨a,ha,_⟩=>by simp[Gv]at ha,.inl rfl,fun i h e=>by simp at e⟩,by show 0*5<7*3;decide⟩,⟨rfl,fun i e he=>by simp at he⟩,DX,rfl,rfl⟩
theorem rj{l:Addr}{items:Array Bs}{val:Nat->List K}{adr:Nat->Addr}{Q:Bs->Bu->Prop}(hh:A.handled=none)(hu:A.units+3<cLine)(hl:s.heap.IsList l items)(hit:∀(i:Nat)(v:Bs),items[i]? =some v->v=.ref (adr i))(hkey:∀j,j<items.size->D6 knd s.heap (val j) (adr j))(hI:∀i,∀k∈val i,∀v,knd.is k v=true->∃j t,v=.int j t)(hb:items.size<1000)
  (h:∀h' tk ks o es ep t,SetT knd h' s.heap.objs.size (!w.params.followText "set-order") ks o es ep t->(∀q,q∈ks↔∃j,j<items.size/\val j=q)->ui adr items.size es->(∀b o,b<s.heap.objs.size->s.heap.get? b=some o->h'.get? b=some o)->Q (.ref s.heap.objs.size) {s with heap:=h',toks:=tk}):
  wpAny (model prog w) A (call (.type "set") [.ref l]) Q E s:=by
 obtain⟨c,tl,hmro⟩:=Et.mro;have hmade:=Et.made;have hsub:=Et.sub;refine wpAny_call<|Hs ?_;show wpAny _ _ (callAny (.type "set") _) _ _ _;refine Bq ⟨Code.quiet_builtin _ (by decide +kernel),G4 F.entry_type_call ?_⟩;rw[Around.under_plain (weight_type_call_type "set" [.ref l] []) rfl];have h1:=Et.notType;have h2:=Et.canCreate;have hct:=F.typeCall_set_1<|.ref l
 repeat (any_goals (first|assumption|wp_step))
 refine EU (kg (.ref l) (E:=E) (Q₁:=fun obj s₁=>obj=.ref s.heap.objs.size/\s₁={s with heap:=s.heap.push (L2.set0 w)}) ⟨rfl,rfl⟩) fun r s₁ hr=>?_;cases r with
 |error e=>exact hr
 |ok fl=>
  cases fl with
  |ret obj=>
   obtain⟨rfl,rfl⟩:=hr;have hS:(s.heap.push<|L2.set0 w).get? s.heap.objs.size=some (L2.set0 w):=By _ rfl;have hT:Shared.TypeIs {s with heap:=s.heap.push (L2.set0 w)} (.ref s.heap.objs.size) "set":=⟨_,hS,rfl⟩
   have hli:=Et.init.lookup;have hbi:=Et.init.bind<|.ref s.heap.objs.size
   repeat (any_goals (first|assumption|wp_step))
   refine EU (codeAny_call_builtin (R:=wants (fun r s₂=>r=.none/\∃h' tk ks o es ep t,s₂={s with heap:=h',toks:=tk}/\SetT knd h' s.heap.objs.size (!w.params.followText "set-order") ks o es ep t/\(∀q,q∈ks↔∃j,j<items.size/\val j=q)/\ui adr items.size es/\
     (∀b o,b<s.heap.objs.size->s.heap.get? b=some o->h'.get? b=some o)) E) Et.init.plain F.entry_set_init (check_set_init_1 hT ?_)) fun r₂ s₂ hr₂=>?_
   ·obtain⟨ol,hol,hcl,nl,hdl⟩:=hl;obtain⟨ocls,odict,odata,oslots⟩:=ol;simp only at hcl hdl;subst hcl;subst hdl;have hol':(s.heap.push<|L2.set0 w).get? l=some {cls:=.type "list",dict:=odict,data:=.seq items nl,slots:=oslots}:=Bp _ hol;have hsls:=F.sub_list_set;have hslf:=F.sub_list_frozenset;have hne:(EG "list"==EG "dict")=false:=by decide
    have hl1:(s.heap.push<|L2.set0 w).IsList l items:=⟨_,hol',rfl,nl,rfl⟩
    have hS2:(s.heap.push<|L2.set0 w).get? s.heap.objs.size=some {cls:=.type "set",dict:=none,data:=.set #[] 0 (.fresh 0 0<|!w.params.followText "set-order")}:=hS;unfold DS.«set.__init__» noKeywords Jx;generalize hPI:pyIter=PI
    wp_walk
    subst hPI;refine Fn hl1 ?_;refine Bl<|wpAny_runValue ?_;have hlS:l<s.heap.objs.size:=BA hol;have hh3:A.in1.in1.in1.handled=none:=by simp[hh]
    have hneI:l≠(s.heap.push<|L2.set0 w).objs.size:=by
     rw[Ci];exact BL<|DN hlS
    have hSf:s.heap.objs.size∉[(s.heap.push<|L2.set0 w).objs.size,l]:=by
     rw[Ci];simp only[BM,DC,Cc,or_false,not_or];exact⟨BL<|EW _,E3 hlS⟩
    have hlt:∀j,j<items.size->adr j<s.heap.objs.size:=fun j hj=>by
     obtain⟨ob,_,_,g1,_⟩:=hkey j hj;exact BA g1
    refine rh (knd:=knd) ((Walks.list hh3 _ l hneI items).toS) s.heap.objs.size hSf (!w.params.followText "set-order") (show A.units+3<cLine from hu) val adr hit hI hb (fun j hj=>?_) (items.size-0) 0 _ [] (L2.set0 w) #[] 0 _ (by omega) (HN _)
     ⟨⟨_,By _ rfl,rfl,rfl⟩,(hl1.push _)⟩ (zx<|Bp _ hS) (BD _) (fun q=>Iff.intro (fun z=>absurd z Cc) fun z=>(by obtain⟨j,hj,_⟩:=z;exact absurd hj<|Hu _)) (fun j hj=>?_) (fun e he=>by simp at he) ?hR
    case hR=>
     intro s' ks o es ep t hm hS' hq hF;obtain⟨h',g',d',tk',os'⟩:=s';have eg:g'=s.gens:=hm.gens;have ed:d'=s.drawn:=hm.drawn;have eo:os'=s.os:=hm.os;subst eg;subst ed;subst eo;show wpAny _ _ _ _ _ _;refine Bq ?_;show wpAny _ _ (ret Ct) _ _ _;refine Bq ⟨rfl,h',tk',ks,o,es,ep,t,rfl,hS',hq,hF,fun b o hb e=>?_⟩;have hb1:b≠s.heap.objs.size:=BL hb;have hb2:b≠(s.heap.push<|L2.set0 w).objs.size:=by
      rw[Ci];exact BL<|DN hb
     exact hm.heap b o (by simp only[BM,DC,Cc,or_false,not_or];exact⟨hb1,hb2⟩)<|Bp _<|Bp _ e
    ·simp only[BM,DC,Cc,or_false];rw[Ci];exact BL<|DN<|hlt j hj
    ·obtain⟨ob,its,m,g1,g2,g3,g4⟩:=hkey j hj;exact⟨ob,its,m,Bp _<|Bp _ g1,g2,g3,g4⟩
   ·cases r₂ with
    |error e=>exact hr₂
    |ok fl₂=>
     cases fl₂ with
     |ret r=>
      obtain⟨rfl,h',tk,ks,o,es,ep,t,rfl,hS',hq,hF,hk'⟩:=hr₂
      repeat (any_goals (first|assumption|wp_step))
      exact h _ _ _ _ _ _ _ hS' hq hF hk'
     |_=>exact hr₂.elim
  |_=>exact hr.elim
end
section
variable{prog:BK}{w:BQ}{K:Type}[DecidableEq K]{knd:KeyKind prog w K}{A:Ck}{E:Bs->Bu->Prop}{s:Bu}
theorem uj{a x:Addr}{o:Obj}{es:Array (Int×Bs)}{ep:Nat}{t:Cy}{led:Bool}{ks:List (List K)}{kx:List K}(hu:A.units<cLine)(S:SetT knd s.heap a led ks o es ep t)(hx:D6 knd s.heap kx x)(hI:∀k∈kx,∀v,knd.is k v=true->∃i t,v=.int i t){Q:Option Nat->Bu->Prop}{fuel:Nat}
  (h:∀r:Option Nat,r.isSome=decide (kx∈ks)->Q r s):wpAny (model prog w) A (setFindIn a (.ref x) (tupleKeyHash knd kx)<|fuel+1) Q E s:=by
 unfold setFindIn;refine Bl<|D9 S.at_ S.dat S.tab.fits ?_;dsimp only;rw[if_neg (by unfold byScan;simp[Js])];obtain⟨G,g1,g2,g3⟩:=S.tab.gap<|n5 t<|tupleKeyHash knd kx;have mem:∀i,i<es.size->ks[i]? =some kx->∃k,k<G/\t.place.getD i 0=(itM t.mask k<|t.probeStart<|tupleKeyHash knd kx).j:=fun i hi z=>by
  have hi':i<es.toList.length:=by simpa using hi
  obtain⟨k,b,q1,q2,q3,q4⟩:=S.tup.at_ i es.toList[i] (Bo hi');rw[q1]at z;cases z;obtain⟨n,r1,r2⟩:=S.tab.reach i (tupleKeyHash knd kx) (by rw[Bz,Bo hi',<-q4];rfl);refine⟨n,?_,r1.symm⟩;by_cases y:n<G;·exact y
  ·by_cases y2:n=G
   ·subst y2;refine absurd ?_ g2;rw[r1];exact⟨i,by have:=S.tab.sz;simp at this;omega,rfl⟩
   ·exact absurd (r2 G (by omega)) g2
 refine Bl ?_;unfold setSearch;have ht:t.mask<=2047:=by rcases S.tab.msk with z|z|z|z|z<;>omega
 refine jH (knd:=knd) hu S.at_ S.dat S.tab S.tup hx (fun l Q hl h=>nc hx l (fun y hy=>?_) h) 100000 G none rfl (by unfold CW at g1;omega) g1 g2 g3 ?_ ?_
 ·obtain⟨e,he,rfl⟩:=hl y hy;obtain⟨i,hi,rfl⟩:=CH.mp he;obtain⟨k,b,q1,q2,q3,q4⟩:=S.tup.at_ i es.toList[i] (Bo hi);exact⟨k,b,q2,q3⟩
 ·rintro ⟨k,i,_,_,hq⟩ r hr;exact Bq (h r (by rw[hr,decide_eq_true<|BI hq];rfl))
 ·intro hall;have nin:kx∉ks:=fun hm=>by
   obtain⟨i,hi,e⟩:=CH.mp hm;have hi':i<es.size:=by have:=S.tup.len;simp at this;omega
   have hq:ks[i]? =some kx:=by rw[Bo hi,e]
   obtain⟨k,q1,q2⟩:=mem i hi' hq;exact hall k i q1 q2 hi' hq
  exact Bq (h none (by rw[decide_eq_false nin];rfl))
theorem lT{a x:Addr}{o:Obj}{es:Array (Int×Bs)}{ep:Nat}{t:Cy}{led:Bool}{ks:List (List K)}{kx:List K}(hu:A.units+1<cLine)(S:SetT knd s.heap a led ks o es ep t)(hx:D6 knd s.heap kx x)(hI:∀k∈kx,∀v,knd.is k v=true->∃i t,v=.int i t){Q:Bs->Bu->Prop}
  (h:Q (.bool<|!decide (kx∈ks)) {s with toks:=s.toks+(kx.length+1)}):wpAny (model prog w) A (compareOp .NotIn (.ref x)<|.ref a) Q E s:=by
 have hT:s.TypeIs (.ref a) "set":=⟨o,S.at_,S.ex.1⟩
 show wpAny _ _ (do return .bool (!(<-contains (.ref a) (.ref x)))) Q E s;refine Bl ?_;unfold contains
 try with_reducible refine Cz ?_
 refine Bl<|FV hT Gb.lookup ?_;show wpAny _ _ (if(some (Value.builtin "set.__contains__")==some Ct)=true then _ else _) _ E s;rw[if_neg (by rw[beq_builtin_none];exact BF)];refine Bl (wpAny_callSpecialUnlessNone?_slot (name:=Bv "__contains__") hT Gb
  (C7 Gb hT entry_set_contains ?_ (F.args_set_contains_2 _ _)))
 unfold DS.«frozenset.__contains__» Gr;simp only[Je,JI];unfold GS Jg setContains;refine Bl<|Bq ?_
 try dsimp only
 refine Bl<|Bq ?_
 try dsimp only
 refine Bl<|wpAny_tryCatch ?_;refine Cz ?_;refine Bl (Gu (show A.in1.units<cLine from hu) hx ?_);unfold setFind;refine Bl (uj (s:={s with toks:=s.toks+(kx.length+1)}) (fuel:=99999) (show A.in1.units<cLine from hu) S hx hI fun r hr=>?_);refine Bq ?_;show wpAny _ _ (ret<|Il r.isSome) _ _ _;rw[hr];exact Bq ⟨_,rfl,DL<|Bq h⟩
end
end Wb
namespace L2
open PySem PySem.Spec PyProof.Rows Wb
def x9(prog:BK)(w:BQ)(K:Br):List V->Hp->VK->Prop:=fun xs H Q=>∃(G:Hp)(p:Addr)(vs:List V)(ks:List (Int×Int)),xs=[.ref p]/\Same G H/\SqL K H p vs/\LR (isT2 K isI isI) G ks vs/\ks.length<1000/\∀q o ks',H q=none->SetH prog w K G o ks'->(∀k,k∈ks'↔k∈ks)->Q (.ref q) (cN H q<|XO q o)
def uk:Bs->Addr
 | .ref b=>b
 |_=>0
theorem rk{X:Cx}{P:BK}{w:BQ}{K:Br}(hP:X.prog=P)(hw:X.w=w)(hK:X.K=K)(hh:X.A.handled=none)(hu:X.A.units+3<cLine):dh X (.type "set") (x9 P w K):=by
 subst hP hw hK;intro pins s σ H xs us Q I r h;obtain⟨G,p,vs,ks,rfl,eG,hq,lr,hz,q⟩:=h;obtain⟨u,rfl,rx⟩:=eN r;cases rx;obtain⟨its,r',pl,_⟩:=I.list hq;have l1:=r'.length;have l0:=lr.1;have at_:∀(j:Nat)(u:Bs)(k:Int×Int),its[j]? =some u->ks[j]? =some k->∃b,u=.ref b/\SqT X.K G b [.int k.1,.int k.2]:=fun j u k h1 h2=>by
  obtain⟨v,h3,h4⟩:=fg r' h1;obtain⟨b,x1,x2,rfl,t1,r1,r2⟩:=lr.2 j v k h3 h2;cases r1;cases r2;exact⟨b,h4,t1⟩
 have at2:∀j,j<its.length->∃k,ks[j]? =some k/\ks.getD j (0,0)=k/\its[j]? =some (.ref<|uk<|its.getD j .none)/\SqT X.K G (uk<|its.getD j .none) [.int k.1,.int k.2]:=fun j hj=>by
  have z2:j<ks.length:=by omega
  obtain⟨b,h1,h2⟩:=at_ j its[j] ks[j] (Bo hj) (Bo z2);refine⟨ks[j],Bo z2,by rw[BC,Bo z2];rfl,?_,?_⟩;·rw[BC,Bo hj,De,h1];rfl
  ·rw[BC,Bo hj,De,h1];exact h2
 have hkey:∀j,j<its.toArray.size->D6 (mixKind X.prog X.w) s.heap (fK<|ks.getD j (0,0)) (uk<|its.getD j .none):=fun j hj=>by
  obtain⟨k,_,e,_,h4⟩:=at2 j (by simpa using hj);rw[e];exact eZ I<|Dk eG h4
 refine rj (knd:=mixKind X.prog X.w) (val:=fun j=>fK<|ks.getD j (0,0)) (adr:=fun j=>uk<|its.getD j .none) hh hu pl.isList (fun i v hv=>?_) hkey (fun i=>xX) (by rw[BB];omega) fun h' tk ks' o es ep t S hq2 hF hk=>?_
 ·have hv:its[i]? =some v:=by simpa using hv
  obtain⟨k,_,_,h3,_⟩:=at2 i (Bw.mp hv).1;rw[hv]at h3;exact C5 h3
 ·have hk0:∀b ob,s.heap.get? b=some ob->h'.get? b=some ob:=fun b ob z=>hk b ob (BA z) z;have form:∀kk∈ks',∃k,kk=fK k/\k∈ks:=fun kk hkk=>by
   obtain⟨j,hj,e⟩:=(hq2 kk).mp hkk;obtain⟨k,h1,e2,_⟩:=at2 j (by simpa using hj);exact⟨k,by rw[<-e,<-e2],BI h1⟩
  refine⟨.ref s.heap.objs.size,_,I.laid (a:=s.heap.objs.size) (t':=tk) hk0 (BD _)<|Lk S.at_,rfl,q _ o (ks'.map oi) (I.hok.fresh<|BD _) ⟨es,ep,t,⟨S.ex,S.dat,S.tab,S.led,S.pl⟩,⟨by rw[BJ];exact S.tup.len,fun i e he=>?_⟩,?_⟩ fun k=>?_⟩
  ·obtain⟨kk,b,q1,q2,q3,q4⟩:=S.tup.at_ i e he;obtain⟨j,hj,ej⟩:=hF e<|BI he;obtain⟨k,_,e2,_,h4⟩:=at2 j (by simpa using hj);have eb:b=uk (its.getD j .none):=by rw[q2]at ej;cases ej;rfl
   have e0:kk=fK k:=q3.inj (by
    obtain⟨ob,items,m,g1,g2,g3,g4⟩:=hkey j hj;rw[e2]at g4;rw[eb];exact⟨ob,items,m,hk0 _ _ g1,g2,g3,g4⟩)
   subst e0;exact⟨k,b,by rw[Bz,q1];rfl,q2,by rw[eb];exact h4,q4⟩
  ·rw[CB,EF];refine(CB.mp S.nd).imp_of_mem fun{a b}ha hb hne e=>hne ?_;obtain⟨k1,rfl,_⟩:=form a ha;obtain⟨k2,rfl,_⟩:=form b hb;rw[gz,gz]at e;rw[e]
  ·rw[BX];constructor
   ·rintro ⟨kk,hkk,rfl⟩;obtain⟨k,rfl,hm⟩:=form kk hkk;rw[gz];exact hm
   ·intro hm;obtain⟨j,hj,e⟩:=CH.mp hm;refine⟨fK k,(hq2 _).mpr ⟨j,by rw[BB];omega,?_⟩,gz k⟩;show fK (ks.getD j (0,0))=fK k;rw[BC,Bo hj,De,e]
def zy(prog:BK)(w:BQ)(K:Br):R2:=fun x y H Q=>∃G a o ks b k,y=.ref a/\Same G H/\H a=some (XO a o)/\SetH prog w K G o ks/\x=.ref b/\SqT K G b [.int k.1,.int k.2]/\Q (.bl<|!decide (k∈ks)) H
theorem rl{X:Cx}{P:BK}{w:BQ}{K:Br}(hP:X.prog=P)(hw:X.w=w)(hK:X.K=K)(hu:X.A.units+1<cLine):OpR X (compareOp .NotIn) (zy P w K):=by
 subst hP hw hK;intro pins s σ H x y v u Q I rx ry h;obtain⟨G,a,o,ks,b,k,rfl,eG,ha,⟨es,ep,t,R,T,nd⟩,rfl,hb,hq⟩:=h;cases rx;cases ry;have hDo:s.heap.get? a=some o:=(I.hok a _ ha).1;have U:TupsOf (mixKind X.prog X.w) s.heap es.toList (ks.map fK):=⟨by rw[BJ];exact T.len,fun i e hi=>by
  obtain⟨k,b,q1,q2,q3,q4⟩:=T.at_ i e hi;exact⟨fK k,b,by rw[Bz,q1];rfl,q2,eZ I (Dk eG q3),q4⟩⟩
 have S:SetT (mixKind X.prog X.w) s.heap a (!X.w.params.followText "set-order") (ks.map fK) o es ep t:=⟨hDo,R.ex,R.dat,R.tab,U,IY _ (fun a b hab e=>hab<|gy e) nd,R.led,R.pl⟩
 refine lT hu S (eZ I<|Dk eG hb) xX ⟨.bl _,H,I.tok _,rfl,?_⟩;have e:∀inst:Decidable (fK k∈ks.map fK), @decide (fK k∈ks.map fK) inst=decide (k∈ks):=fun inst=>by
  rw[CK,decide_eq_true_iff,decide_eq_true_iff,BX];exact⟨fun⟨k',h1,h2⟩=>gy h2▸h1,fun h=>⟨k,h,rfl⟩⟩
 rw[e];exact hq
end L2
namespace Wb
open PySem L2 Mi
theorem yh{k:Nat}{A:Ck}(r:Room k A):A.units+3<KQ:=by have:=r.un;omega
section
variable{Er:Nat->Prop}{P:BK}{w:BQ}{K:Br}{W:Wd}{σ:St}{ta tb:TE}
def isST(prog:BK)(w:BQ)(K:Br):Rp (List<|Int×Int):=fun G ks v=>∃p o ks',v=.ref p/\G p=some (XO p o)/\SetH prog w K G o ks'/\∀k,k∈ks'↔k∈ks
theorem setH_same{G G':Hp}{o:Obj}{ks:List (Int×Int)}(h:SetH P w K G o ks)(e:Same G G'):SetH P w K G' o ks:=by
 obtain⟨es,ep,t,R,T,nd⟩:=h;exact⟨es,ep,t,R,⟨T.len,fun i x hx=>by
  obtain⟨k,b,q1,q2,q3,q4⟩:=T.at_ i x hx;exact⟨k,b,q1,q2,Dk e q3,q4⟩⟩,nd⟩
instance zkeep71:Mono (isST P w K):=⟨fun e⟨p,o,ks',h0,h1,h2,h3⟩=>⟨p,o,ks',h0,e _ _ h1,setH_same h2 e,h3⟩⟩
theorem w9{ma:Res (List<|Int×Int)}(ha:EV Er ta σ W (pk<|isT2 K isI isI) ma):EV Er (dW (x9 P w K)<|ak ta aN) σ W (sh<|isST P w K) (ma.bind fun a=>dF (a.length<1000) a):=fun W1 e1 Q k=>
 ha W1 e1 _ ((Bm k).imp fun a ka x W2 e2 hx=>by
  obtain⟨p,vs,rfl,h1,h2⟩:=hx;obtain⟨h3,h4⟩:=aW ka;exact⟨W2.G,p,vs,a,rfl,W2.ok,Di h1,h2,h3,fun q o ks' hq hs hm=>h4 (.ref q) (W2.new q (XO q o)) (e2.trans (.new _ hq)) ⟨q,o,ks',rfl,aB,setH_same hs (EY _ hq).g,hm⟩⟩)
theorem oA{ma:Res (Int×Int)}{mb:Res (List<|Int×Int)}(ha:EV Er ta σ W (sh<|isT2 K isI isI) ma)(hb:EV Er tb σ W (sh<|isST P w K) mb):EV Er (cY (zy P w K) ta tb) σ W (sh isB) (ma.bind fun a=>mb.bind fun b=>.ok<|!b.contains a):=fun W1 e1 Q k=>
 ha W1 e1 _ ((Bm k).imp fun a ka x W2 e2 hx=>hb W2 (e1.trans e2) _ ((Bm ka).imp fun b kb y W3 e3 hy=>by
  obtain⟨p,o,ks',rfl,h1,h2,h3⟩:=hy;obtain⟨q,x1,x2,rfl,t1,r1,r2⟩:=(Bk (R:=isT2 K isI isI) e3.g hx)
  cases r1;cases r2;refine⟨W3.G,p,o,ks',q,a,rfl,W3.ok,W3.ok _ _ h1,h2,rfl,t1,?_⟩;have e:decide (a∈ks')=b.contains a:=by
   rw[CK,decide_eq_true_iff,EA,h3]
  rw[e];exact kb _ W3 (e2.trans e3) rfl))
end
section
variable{Er:Nat->Prop}{α β γ δ ε ζ η:Type}{t1 t2 t3 t4 t5 t6:TE}{σ:St}{W:Wd}{E:XK}{R1:Rp α}{R2:Rp γ}{R3:Rp δ}{R4:Rp ε}{R5:Rp ζ}{R6:Rp η}[Mono R1][Mono R2][Mono R3][Mono R4][Mono R5][Mono R6]{m1:Res α}{m2:Res γ}{m3:Res δ}{m4:Res ε}{m5:Res ζ}{m6:Res η}
def wa(R1:Rp α)(R2:Rp γ)(R3:Rp δ)(R4:Rp ε)(R5:Rp ζ)(R6:Rp η)(rt:Rt β)(m:α->γ->δ->ε->ζ->η->Res β):Sp:=fun vs H Q _=>∃(W:Wd)(a:α)(b:γ)(c:δ)(d:ε)(e:ζ)(f:η)(v u w x y z:V),W.H=H/\vs=[v,u,w,x,y,z]/\R1 W.G a v/\R2 W.G b u/\R3 W.G c w/\R4 W.G d x/\R5 W.G e y/\R6 W.G f z/\∃Er:Nat->Prop,(m a b c d e f).OkE Er fun r=>rt W r Q
theorem um{R:Rp β}{m:α->γ->δ->ε->ζ->η->Res β}(h1:EV Er t1 σ W (sh R1) m1)(h2:EV Er t2 σ W (sh R2) m2)(h3:EV Er t3 σ W (sh R3) m3)(h4:EV Er t4 σ W (sh R4) m4)(h5:EV Er t5 σ W (sh R5) m5)(h6:EV Er t6 σ W (sh R6) m6):EV Er (aV (wa R1 R2 R3 R4 R5 R6 (rs R) m) [] E<|ak t1<|ak t2<|ak t3<|ak t4<|ak t5<|ak t6 aN) σ W (sh R) (m1.bind fun a=>m2.bind fun b=>m3.bind fun c=>m4.bind fun d=>m5.bind fun e=>m6.bind fun f=>m a b c d e f):=fun W1 e1 Q k=>
 h1 W1 e1 _ ((Bm k).imp fun a ka v W2 e2 hv=>h2 W2 (e1.trans e2) _ ((Bm ka).imp fun b kb u W3 e3 hu=>h3 W3 ((e1.trans e2).trans e3) _ ((Bm kb).imp fun c kc w W4 e4 hw=>h4 W4 (((e1.trans e2).trans e3).trans e4) _ ((Bm kc).imp fun d kd x W5 e5 hx=>h5 W5 ((((e1.trans e2).trans e3).trans e4).trans e5) _ ((Bm kd).imp fun e ke y W6 e6 hy=>h6 W6 (((((e1.trans e2).trans e3).trans e4).trans e5).trans e6) _ ((Bm ke).imp fun f kf z W7 e7 hz=>
  ⟨W7,a,b,c,d,e,f,v,u,w,x,y,z,rfl,rfl,BR (R:=sh R1) ((((e3.trans e4).trans e5).trans e6).trans e7) hv,BR (R:=sh R2) (((e4.trans e5).trans e6).trans e7) hu,BR (R:=sh R3) ((e5.trans e6).trans e7) hw,BR (R:=sh R4) (e6.trans e7) hx,BR (R:=sh R5) e7 hy,hz,Er,kf.imp fun r kr u W' e hu=>kr u W' ((((((e2.trans e3).trans e4).trans e5).trans e6).trans e7).trans e) hu⟩))))))
end
end Wb
namespace L2
def insAt{α:Type}(xs:List α)(k:Nat)(y:α):List α:=xs.take k++y::xs.drop k
end L2
namespace Mi
def rm{α:Type}(xs:List α)(i:Int):Res (List α):=(dF (xs.length<=cap) ()).bind fun _=>(rF<|ixN xs.length i).bind fun k=>.ok<|xs.eraseIdx k
def uo{α:Type}(xs:List α)(i:Int)(y:α):Res (List α):=dF (0<=i/\i<=xs.length/\xs.length<cap)<|L2.insAt xs i.toNat y
end Mi
namespace L2
open PySem PySem.Spec PyProof.Rows
theorem ib{α:Type}{xs:List α}{k:Nat}{y:α}(hk:k<=xs.length)(j:Nat):(insAt xs k y)[j]? =if j<k then xs[j]? else if j=k then some y else xs[j-1]? :=by
 unfold insAt;have hl:(xs.take k).length=k:=by rw[DT];omega
 by_cases z:j<k;·rw[if_pos z,BG (by omega),CA z]
 ·rw[if_neg z,BH (by omega),hl];by_cases z2:j=k;·rw[if_pos z2,z2,Gd];rfl
  ·rw[if_neg z2,show j-k=(j-k-1)+1 by omega,CN,CT,show k+(j-k-1)=j-1 by omega]
theorem eL{α:Type}{xs:List α}{k:Nat}{y:α}(hk:k<=xs.length):(insAt xs k y).length=xs.length+1:=by
 unfold insAt;rw[CS,DT,D4,FC];omega
theorem xa{xs:List V}{us:List Bs}{j:Nat}{x:V}{u:Bs}(r:Vals xs us)(hx:xs[j]? =some x)(hu:us[j]? =some u):RelV x u:=by
 obtain⟨u',h1,h2⟩:=r.get hx;rw[hu]at h1;cases h1;exact h2
def pT:V->List V->Hp->VK->Prop:=fun x vs H Q=>∃l xs i y,x=.ref l/\vs=[.int i,y]/\H l=some (.lst xs)/\0<=i/\i<=xs.length/\xs.length<sizeLine/\Q .non (cN H l<|.lst<|insAt xs i.toNat y)
theorem kU{X:Cx}:Aq X "list.insert" pT:=by
 intro pins s σ H x vs v us Q I rx rv h;obtain⟨l,xs,i,y,rfl,rfl,hH,h0,h1,hz,q⟩:=h;cases rx;obtain⟨_,w,rfl,⟨t,rfl⟩,rw'⟩:=kB rv;obtain⟨z,its,n,r,hl,e⟩:=I.lstM hH;have hb: -(2^63)<=i/\i<2^63:=by rw[Cg]at hz;omega
 have hil:i.toNat<=its.length:=by omega
 refine JD Fv ⟨_,e,rfl⟩ F.entry_list_insert (F.args_list_insert_3 _ _ _) (AutoListH.list_insert_list_int_val_1 l its.toArray n i t w (by simpa using JE hb.1 hb.2) (by rw[BB];omega)) ⟨e,?_⟩;refine⟨.non,_,I.lset (its':=insAt its i.toNat w) hH e ?_ (fW _ _ (by rw[eL hil,eL (by omega)];omega) fun j a b ha hb'=>?_) (by rw[eL (by omega)];omega),rfl,q⟩
 ·show(its.toArray.extract 0 (if i< 0 then(i+((its.toArray.size:Nat):Int)).toNat else min i.toNat its.toArray.size)).push w++its.toArray.extract (if i< 0 then(i+((its.toArray.size:Nat):Int)).toNat else min i.toNat its.toArray.size)=(insAt its i.toNat w).toArray;rw[if_neg (by omega),BB,Jp hil];unfold insAt;apply Array.ext';simp[Array.toList_extract,List.extract_eq_take_drop];exact En (by simp)
 ·rw[ib (by omega)]at ha;rw[ib hil]at hb';by_cases z1:j<i.toNat
  ·rw[if_pos z1]at ha hb';exact xa r ha hb'
  ·rw[if_neg z1]at ha hb';by_cases z2:j=i.toNat
   ·rw[if_pos z2]at ha hb';cases ha;cases hb';exact rw'
   ·rw[if_neg z2]at ha hb';exact xa r ha hb'
end L2
namespace Wb
open PySem L2 Mi
section
variable{Er:Nat->Prop}{α β:Type}{K:Br}{W W' W0:Wd}{σ:St}{te ti tp:TE}{D:Ends}{r:TS}{C:α->List TC}{R:Rf β}[FrT R]
theorem ixN_seq{n:Nat}{i:Int}{k:Nat}(h:Mi.ixN n i=some k):seqIndex? i n=some k/\k<n/\ -(n:Int)<=i/\i<n:=by
 unfold Mi.ixN at h;unfold seqIndex?;by_cases z:0<=i
 ·rw[if_pos z]at h;by_cases z2:i<n
  ·rw[if_pos z2]at h;cases h;have e:(if i<0 then i+(n:Int)else i)=i:=if_neg (by omega);dsimp only;rw[e,if_pos (by simp;omega)];exact⟨rfl,by omega,by omega,by omega⟩
  ·rw[if_neg z2]at h;cases h
 ·rw[if_neg z]at h;by_cases z2: -(n:Int)<=i
  ·rw[if_pos z2]at h;cases h;have e:(if i<0 then i+(n:Int)else i)=i+n:=if_pos (by omega);dsimp only;rw[e,if_pos (by simp;omega)];exact⟨rfl,by omega,by omega,by omega⟩
  ·rw[if_neg z2]at h;cases h
theorem TL.erase{Fs:Nat->FS}{xs:List β}{vs:List V}(t:TL R W Fs xs vs){k:Nat}(hk:k<xs.length)(h:∀j x u,xs[j]? =some x->vs[j]? =some u->R W (Fs j) x u->R W' (Fs j) x u):TL R W' (fun j=>if j<k then Fs j else Fs (j+1)) (xs.eraseIdx k) (vs.eraseIdx k):=by
 have key:∀j q,(if j<k then Fs j else Fs (j+1)) q->(j<k/\Fs j q)\/(k<=j/\Fs (j+1) q):=fun j q h=>by
  by_cases z:j<k;·exact .inl ⟨z,by simpa [if_pos z] using h⟩
  ·exact .inr ⟨by omega,by simpa [if_neg z] using h⟩
 refine⟨by rw[Dn,Dn,t.len],fun j x u a b=>?_,fun j q hq=>?_,fun j j2 q q1 q2=>?_⟩
 ·by_cases z:j< k
  ·rw[FY z]at a b;simp only[if_pos z];exact h j x u a b<|t.el j x u a b
  ·rw[FZ (by omega)]at a b;simp only[if_neg z];exact h (j+1) x u a b<|t.el (j+1) x u a b
 ·rw[Dn,if_pos hk];rcases key j q hq with⟨a,b⟩|⟨a,b⟩
  ·omega
  ·have:=t.rng _ q b;omega
 ·rcases key j q q1 with⟨a,b⟩|⟨a,b⟩<;>rcases key j2 q q2 with⟨c,d⟩|⟨c,d⟩<;>have:=t.dj _ _ q b d<;>omega
theorem kW{mp:Res (List β×(List β->α))}{mi:Res Int}(E:Ext W0 W)(hp:EV Er tp σ W (Lens W0 C<|oL R) mp)(hi:EV Er ti σ W (sh isI) mi)(q:(mp.bind fun p=>mi.bind fun j=>(rm p.1 j).bind fun b=>.ok<|p.2 b).OkE Er fun a'=>∀W',Same W.G W'.G->Ext W0 W'->Sep W0 W' (C a')->D.nx σ W'.H):
  bj (eJ K "list" rW tp<|ak ti aN) D σ W.H:=hp W (.refl _) _ ((Bm q).imp fun p kp u W1 e1 l=>by
 obtain⟨p0,vs0,hl0⟩:∃p0 vs0,u=.ref p0/\W1.H p0=some (.lst vs0):=by
  obtain⟨F,⟨p0,vs,Fs,e,g,hl,_⟩,_⟩:=l;exact⟨p0,vs,e,hl⟩
 obtain⟨rfl,hl0⟩:=hl0;refine⟨.inl ⟨rfl,vs0,Di hl0⟩,hi W1 e1 _<|(Bm kp).imp fun j kj v W2 e2 hv=>?_⟩;cases hv;obtain⟨F,⟨p1,vs,Fs,e,g,hl,t,np,hF⟩,n,up⟩:=(BR e2 l:Lens W0 C (oL R) W2 p (.ref p0))
 cases e;obtain⟨hcap,kj⟩:=aW<|Bm<|Bm kj;obtain⟨k,h3,h4⟩:=dv<|Bm kj;obtain⟨s1,s2,s3,s4⟩:=ixN_seq h3;have hvl:k<vs.length:=by rw[t.len];exact s2
 have hp0:F p0:=(hF p0).mpr (.inl rfl);have hsz:vs.length<=100000:=by rw[t.len];exact hcap
 refine⟨p0,vs,j,k,vs[k],rfl,rfl,hl,by rw[<-t.len]at s3;omega,by rw[<-t.len]at s4;omega,by rw[t.len];exact s1,Bo hvl,h4 (W2.mut p0 (.lst<|vs.eraseIdx k) g) (e1.trans e2).g (((E.trans e1).trans e2).mut (n p0 hp0) g) (up _ (fun q=>q=p0\/∃j,(if j<k then Fs j else Fs (j+1)) q) _ ((Lr (F:=(· =p0)) rfl g).up fun q hq=>by rw[hq];exact hp0) (fun q hq=>?_) ⟨p0,vs.eraseIdx k,_,rfl,g,aB,t.erase s2 fun j x u _ _ r=>Ls r (Lr (F:=(· =p0)) rfl g) fun q a b=>np j<|b▸a,fun j hj=>?_,fun q=>HV⟩)⟩
 ·rcases hq with rfl | ⟨j,hj⟩
  ·exact .inl hp0
  ·split at hj;·exact .inl ((hF q).mpr (.inr ⟨_,hj⟩))
   ·exact .inl ((hF q).mpr (.inr ⟨_,hj⟩))
 ·split at hj;·exact np _ hj
  ·exact np _ hj)
theorem EV.tr{R':Rp β}{m:Res β}(h:EV Er te σ W (sh R') m):EVt Er te σ W (fz R') m:=fun W1 e1 Q k=>h W1 e1 Q<|k.imp fun a ka v W2 e2 hv=>ka v W2 (fun _=>False) e2 (fun _ z=>z.elim) ⟨fun _ z=>z,hv⟩
theorem TL.ins{Fs:Nat->FS}{F2:FS}{xs:List β}{vs:List V}{x:β}{u:V}(t:TL R W Fs xs vs){k:Nat}(hk:k<=xs.length)(h:∀j x u,R W (Fs j) x u->R W' (Fs j) x u)(hx:R W' F2 x u)(dj:∀j q,Fs j q->F2 q->False):TL R W' (fun j=>if j<k then Fs j else if j=k then F2 else Fs (j-1)) (insAt xs k x) (insAt vs k u):=by
 have hkv:k<=vs.length:=by rw[t.len];exact hk
 have key:∀j q,(if j<k then Fs j else if j=k then F2 else Fs (j-1)) q->(j<k/\Fs j q)\/(j=k/\F2 q)\/(k<j/\Fs (j-1) q):=fun j q h=>by
  by_cases z:j<k;·exact .inl ⟨z,by simpa [if_pos z] using h⟩
  ·rw[if_neg z]at h;by_cases z2:j=k;·exact .inr (.inl ⟨z2,by simpa [if_pos z2] using h⟩)
   ·exact .inr (.inr ⟨by omega,by simpa [if_neg z2] using h⟩)
 refine⟨by rw[eL hk,eL hkv,t.len],fun j y v a b=>?_,fun j q hq=>?_,fun j j2 q q1 q2=>?_⟩
 ·rw[ib hk]at a;rw[ib hkv]at b;by_cases z:j<k
  ·rw[if_pos z]at a b;simp only[if_pos z];exact h j y v<|t.el j y v a b
  ·rw[if_neg z]at a b;simp only[if_neg z];by_cases z2:j=k
   ·rw[if_pos z2]at a b;cases a;cases b;simp only[if_pos z2];exact hx
   ·rw[if_neg z2]at a b;simp only[if_neg z2];exact h _ y v<|t.el _ y v a b
 ·rw[eL hk];rcases key j q hq with⟨a,_⟩|⟨a,_⟩|⟨a,b⟩
  ·omega
  ·omega
  ·have:=t.rng _ q b;omega
 ·rcases key j q q1 with⟨a,b⟩ | ⟨a,b⟩ | ⟨a,b⟩ <;> rcases key j2 q q2 with⟨c,d⟩ | ⟨c,d⟩ | ⟨c,d⟩
  ·exact t.dj _ _ q b d
  ·exact(dj _ q b d).elim
  ·have:=t.dj _ _ q b d;omega
  ·exact(dj _ q d b).elim
  ·omega
  ·exact(dj _ q d b).elim
  ·have:=t.dj _ _ q b d;omega
  ·exact(dj _ q b d).elim
  ·have:=t.dj _ _ q b d;omega
theorem pU{mp:Res (List β×(List β->α))}{mi:Res Int}{m:Res β}(E:Ext W0 W)(hp:EV Er tp σ W (Lens W0 C<|oL R) mp)(hi:EV Er ti σ W (sh isI) mi)(h:EVt Er te σ W R m)(q:(mp.bind fun p=>mi.bind fun j=>m.bind fun x=>(uo p.1 j x).bind fun b=>.ok<|p.2 b).OkE Er fun a'=>∀W',Same W.G W'.G->Ext W0 W'->Sep W0 W' (C a')->D.nx σ W'.H):
  bj (eJ K "list" pT tp<|ak ti<|ak te aN) D σ W.H:=hp W (.refl _) _ ((Bm q).imp fun p kp u W1 e1 l=>by
 obtain⟨p0,vs0,hl0⟩:∃p0 vs0,u=.ref p0/\W1.H p0=some (.lst vs0):=by
  obtain⟨F,⟨p0,vs,Fs,e,g,hl,_⟩,_⟩:=l;exact⟨p0,vs,e,hl⟩
 obtain⟨rfl,hl0⟩:=hl0;refine⟨.inl ⟨rfl,vs0,Di hl0⟩,hi W1 e1 _<|(Bm kp).imp fun j kj v W2 e2 hv=>h W2 (e1.trans e2) _<|(Bm kj).imp fun x kx y W3 F2 e3 hF2 hy=>?_⟩;cases hv;obtain⟨F,⟨p1,vs,Fs,e,g,hl,t,np,hF⟩,n,up⟩:=(BR e2 l:Lens W0 C (oL R) W2 p (.ref p0))
 cases e;obtain⟨⟨c1,c2,c3⟩,h4⟩:=aW<|Bm kx;have hl3:W3.H p0=some (.lst vs):=e3.h _ _ hl;have g3:W3.G p0=none:=by rw[e3.k p0<|nn_of hl];exact g
 have n2:¬F2 p0:=fun z=>nn_of hl<|hF2 p0 z;have m1:MuF (· =p0) W3 (W3.mut p0 (.lst<|insAt vs j.toNat y) g3):=Lr (F:=(· =p0)) rfl g3;have hp0:F p0:=(hF p0).mpr (.inl rfl);have lv:∀j q,Fs j q->W2.H q≠none:=fun j q hq=>by
  obtain⟨_,_,_,_,r⟩:=t.at2 hq;exact(Jh r q hq).2
 have hvl:vs.length=p.1.length:=t.len;refine⟨p0,vs,j,y,rfl,rfl,hl3,c1,by rw[hvl];exact c2,by rw[hvl,Cg];unfold Mi.cap at c3;omega,h4 (W3.mut p0 (.lst<|insAt vs j.toNat y) g3) ((e1.trans e2).trans e3).g ((((E.trans e1).trans e2).trans e3).mut (n p0 hp0) g3) (up _ (fun q=>q=p0\/∃i,(if i<j.toNat then Fs i else if i=j.toNat then F2 else Fs (i-1)) q) _ (e3.muF.trans (m1.up (F':=F) fun q hq=>by rw[hq];exact hp0) fun q hq=>.inl hq) (fun q hq=>?_) ⟨p0,insAt vs j.toNat y,_,rfl,g3,aB,t.ins (by omega) (fun i x u r=>Ls (Kz r e3) m1 fun q a b=>np i<|b▸a) (Ls hy m1 fun q a b=>n2<|b▸a)<|fun i q a b=>lv i q a<|hF2 q b,fun i hi=>?_,fun q=>HV⟩)⟩
 ·rcases hq with rfl | ⟨i,hi⟩
  ·exact .inl hp0
  ·split at hi;·exact .inl ((hF q).mpr (.inr ⟨_,hi⟩))
   ·split at hi;·exact .inr (hF2 q hi)
    ·exact .inl ((hF q).mpr (.inr ⟨_,hi⟩))
 ·split at hi;·exact np _ hi
  ·split at hi;·exact n2 hi
   ·exact np _ hi)
end
end Wb
namespace Mi
noncomputable section
@[irreducible]noncomputable def zK(Z0d:List Int)(l_k:Int):Res Int:=if(decide<|l_k<(Z0d.length:Int))then ef Z0d l_k else(iA ((l_k*48271)+(11:Int))<|(Z0d.length:Int)+(7:Int)).bind fun y8=>Bt<|y8%1000003
def fS(Z0d:List Int)(l_k:Int):Res Int:=zK Z0d l_k
@[irreducible]noncomputable def yC(Z03:Int)(Z1a:Int)(a19:Int)(s20:(Int×Int×(List Int))):Res (Int×Int×(List Int)):=((if(decide<|(1000000000000000000:Int)<=dG Z03)then Bt (decide<|(0:Int)<s20.2.1)else Bt false).bind fun y45=>(if y45 then((gL s20.2.1 Z1a).bind fun y56=>fP s20.2.2 y56).bind fun y55=>(jn s20.2.1 Z1a).bind fun y59=>Bt (y59,y55)else((((iA ((((s20.1*48271)+(7919:Int))+a19)%2147483647)<|(((s20.1*48271)+(7919:Int))+a19)%2147483647).bind fun y63=>Bt<|y63%1000003).bind fun y64=>gL y64 Z1a).bind fun y69=>fP s20.2.2 y69).bind fun y68=>Bt (s20.2.1,y68):Res (Int×(List Int)))).bind fun s70=>Bt (((((s20.1*48271)+(7919:Int))+a19)%2147483647),s70.1,s70.2)
@[irreducible]noncomputable def zL(Z03:Int)(Z0j:Int)(Z1a:Int):Res (List Int):=((fb Z0j).bind fun y78=>bQ (yC Z03 Z1a) y78 (((dG Z03)%2147483647),dG Z03,([]:List Int))).bind fun s79=>Bt s79.2.2
def ic(Z03:Int)(Z0j:Int)(Z1a:Int):Res (List Int):=zL Z03 Z0j Z1a
@[irreducible]noncomputable def yD(y3:Int)(y8:List Int)(a15:Int)(s16:Tx):Res Tx:=(((((ef y8 (4:Int)).bind fun y39=>((gL a15 y3).bind fun y38=>Bt<|y38*7).bind fun y40=>Bt<|y39+y40).bind fun y41=>Bt<|y41%26).bind fun y42=>fh ([97,98,99,100,101,102,103,104,105,106,107,108,109,110,111,112,113,114,115,116,117,118,119,120,121,122]:Tx) y42).bind fun y43=>iB s16 y43).bind fun y44=>Bt y44
@[irreducible]noncomputable def zM(ic:Int->Int->Int->Res (List Int))(Z03:Int):Res Tx:=(ef [(1:Int),(2:Int),(3:Int),(4:Int),(26:Int)]<|Z03%5).bind fun y3=>(ic (Z03/5) (5:Int) (26:Int)).bind fun y8=>(bQ (yD y3 y8) (cut y8 none<|some (4:Int)) ([]:Tx)).bind fun s47=>Bt s47
def wb(Z03:Int):Res Tx:=zM ic Z03
@[irreducible]noncomputable def zN(wb:Int->Res Tx)(Z03:Int):Res Cd:=(fh ([83,90]:Tx)<|Z03%2).bind fun y1=>(wb<|Z03/8).bind fun y2=>Bt (y1,y2,((Z03/2)%4))
def uW(Z03:Int):Res Cd:=zN wb Z03
@[irreducible]noncomputable def zO(ic:Int->Int->Int->Res (List Int))(Z03:Int)(Z0j:Int):Res Tx:=if(decide<|(Z03%7)=(3:Int))then(fh ([102,98,105]:Tx)<|(Z03/7)%3).bind fun y3=>xE y3 Z0j else((ic (Z03/7) Z0j (3:Int)).bind fun y18=>eE y18<|fun(a9:Int)=>fh ([102,98,105]:Tx) a9).bind fun y19=>mO y19
def wc(Z03:Int)(Z0j:Int):Res Tx:=zO ic Z03 Z0j
@[irreducible]noncomputable def zP(Z0L:Tx):Res Int:=(j0 ([98,105,102]:Tx) Z0L).bind fun y1=>Bt<|y1-(1:Int)
def nM(Z0L:Tx):Res Int:=zP Z0L
@[irreducible]noncomputable def zQ(nM:Tx->Res Int)(Z01:Cd)(Z0L:Tx):Res Cd:=(((nM Z0L).bind fun y1=>Bt<|Z01.2.2+y1).bind fun y2=>Bt<|y2%4).bind fun y3=>Bt (Z01.1,Z01.2.1,y3)
def jc(Z01:Cd)(Z0L:Tx):Res Cd:=zQ nM Z01 Z0L
@[irreducible]noncomputable def zR(nM:Tx->Res Int)(Z01:Cd)(Z0L:Tx):Res Int:=if(decide<|Z01.1=([83]:Tx))then nM Z0L else(nM Z0L).bind fun y8=>Bt<|(0:Int)-y8
def fL(Z01:Cd)(Z0L:Tx):Res Int:=zR nM Z01 Z0L
@[irreducible]noncomputable def yE(jc:Cd->Tx->Res Cd)(fL:Cd->Tx->Res Int)(a7:Tx)(s8:(Cd×(List Pl))):Res (Cd×(List Pl)):=(jc s8.1 a7).bind fun y34=>(((fL y34 a7).bind fun y39=>Bt<|y39+(1:Int)).bind fun y40=>fh ([122,111,115]:Tx) y40).bind fun y41=>(((fh y34.2.1 y34.2.2).bind fun y44=>(fh y34.2.1<|(y34.2.2+(2:Int))%4).bind fun y45=>Bt (y44,y45,y41)).bind fun y50=>fP s8.2 y50).bind fun y49=>Bt (y34,y49)
@[irreducible]noncomputable def zS(jc:Cd->Tx->Res Cd)(fL:Cd->Tx->Res Int)(Z01:Cd)(Z08:Tx):Res (List Pl):=(bQ (yE jc fL) (bE Z08) (Z01,([]:List Pl))).bind fun s51=>Bt s51.2
def oB(Z01:Cd)(Z08:Tx):Res (List Pl):=zS jc fL Z01 Z08
@[irreducible]noncomputable def yF(Z03:Int)(a14:Pl×Int)(s15:(List Pl)):Res (List Pl):=(if(decide<|(Z03%5)=(0:Int))then Bt ((a14.2/8)*8)else Bt a14.2:Res Int).bind fun s56=>(if(decide<|(Z03%5)=(1:Int))then Bt (((s56/8)*8)+(7:Int))else Bt s56:Res Int).bind fun s75=>((if(decide<|(56:Int)<=s75)then Bt (decide<|(s75%3)<(2:Int))else Bt false).bind fun y90=>(if y90 then(((((ef [a14.1.1,a14.1.2.1,a14.1.2.2]<|s75%3).bind fun y101=>j0 ([97,98,99,100,101,102,103,104,105,106,107,108,109,110,111,112,113,114,115,116,117,118,119,120,121,122,97]:Tx) y101).bind fun y102=>Bt<|y102+(1:Int)).bind fun y103=>fh ([97,98,99,100,101,102,103,104,105,106,107,108,109,110,111,112,113,114,115,116,117,118,119,120,121,122,97]:Tx) y103).bind fun y107=>iZ [a14.1.1,a14.1.2.1,a14.1.2.2] (s75%3) y107).bind fun y108=>Bt y108 else Bt [a14.1.1,a14.1.2.1,a14.1.2.2]:Res (List Tx))).bind fun s110=>((if(decide<|(56:Int)<=s75)then Bt (decide<|(s75%3)=(2:Int))else Bt false).bind fun y120=>(if y120 then((((ef s110 (2:Int)).bind fun y127=>j0 ([115,122,111]:Tx) y127).bind fun y128=>fh ([122,111,115]:Tx) y128).bind fun y132=>iZ s110 (2:Int) y132).bind fun y133=>Bt y133 else Bt s110:Res (List Tx))).bind fun s135=>(((eE (s135.zip [(1:Int),(2:Int),(4:Int)]) (fun(a149:Tx×Int)=>(((jn s75 a149.2).bind fun y158=>Bt<|y158%2).bind fun y159=>Bt<|decide<|y159=(1:Int)).bind fun y160=>if y160 then Bt a149.1 else Bt ([63]:Tx))).bind fun y163=>xG y163).bind fun y168=>fP s15 y168).bind fun y167=>Bt y167
@[irreducible]noncomputable def zT(ic:Int->Int->Int->Res (List Int))(Z1b:List Pl)(Z03:Int)(Z1l:Bool):Res (List Pl):=(((iA (8:Int) (if Z1l then(1:Int)else 0)).bind fun y9=>Bt<|(56:Int)+y9).bind fun y10=>ic (Z03/5) (Z1b.length:Int) y10).bind fun y11=>(bQ (yF Z03) (Z1b.zip y11) ([]:List Pl)).bind fun s169=>Bt s169
def wd(Z1b:List Pl)(Z03:Int)(Z1l:Bool):Res (List Pl):=zT ic Z1b Z03 Z1l
@[irreducible]noncomputable def zU(Z01:Cd):Res Cd:=((j0 ([83,90]:Tx) Z01.1).bind fun y5=>fh ([90,83]:Tx) y5).bind fun y12=>((((fh Z01.2.1 (0:Int)).bind fun y6=>(fh Z01.2.1 (3:Int)).bind fun y7=>iB y6 y7).bind fun y8=>(fh Z01.2.1 (2:Int)).bind fun y9=>iB y8 y9).bind fun y10=>(fh Z01.2.1 (1:Int)).bind fun y11=>iB y10 y11).bind fun y13=>Bt (y12,y13,(((0:Int)-Z01.2.2)%4))
def we(Z01:Cd):Res Cd:=zU Z01
@[irreducible]noncomputable def zV(Z08:Tx):Res Tx:=(eE (bE Z08)<|fun(a1:Tx)=>(j0 ([98,105,102]:Tx) a1).bind fun y8=>fh ([102,105,98]:Tx) y8).bind fun y11=>mO y11
def wg(Z08:Tx):Res Tx:=zV Z08
@[irreducible]noncomputable def zW(Z01:Cd)(Z0j:Int):Res Cd:=(((fb (4:Int)).bind fun y13=>eE y13<|fun(a3:Int)=>fh Z01.2.1<|(a3-Z0j)%4).bind fun y14=>mO y14).bind fun y15=>Bt (Z01.1,y15,((Z01.2.2+Z0j)%4))
def wj(Z01:Cd)(Z0j:Int):Res Cd:=zW Z01 Z0j
@[irreducible]noncomputable def yG(a37:Int)(s38:(List Int)):Res (List Int):=(if(!s38.contains a37)then(fP s38 a37).bind fun y68=>Bt y68 else Bt s38:Res (List Int)).bind fun s70=>Bt s70
@[irreducible]noncomputable def zz(jc:Cd->Tx->Res Cd)(a7:Tx)(s8:(Cd×(List Int))):Res (Cd×(List Int)):=(jc s8.1 a7).bind fun y34=>(bQ yG [y34.2.2,((y34.2.2+(2:Int))%4)] s8.2).bind fun s78=>Bt (y34,s78)
@[irreducible]noncomputable def zX(jc:Cd->Tx->Res Cd)(Z01:Cd)(Z08:Tx):Res (List Int):=(bQ (zz jc) (bE Z08) (Z01,([]:List Int))).bind fun s82=>sF s82.2
def wk(Z01:Cd)(Z08:Tx):Res (List Int):=zX jc Z01 Z08
@[irreducible]noncomputable def yH(Z03:Int)(y40:List Int)(a43:Int)(s44:Cd):Res Cd:=(if(!y40.contains a43)then((((iA (5:Int) a43).bind fun y75=>Bt<|(Z03/16)+y75).bind fun y76=>Bt<|y76%26).bind fun y77=>fh ([97,98,99,100,101,102,103,104,105,106,107,108,109,110,111,112,113,114,115,116,117,118,119,120,121,122]:Tx) y77).bind fun y78=>((((qH s44.2.1 none<|some a43).bind fun y83=>iB y83 y78).bind fun y84=>(qH s44.2.1 (some<|a43+(1:Int)) none).bind fun y85=>iB y84 y85).bind fun y86=>Bt (s44.1,y86,s44.2.2)).bind fun y87=>Bt y87 else Bt s44:Res Cd).bind fun s91=>Bt s91
@[irreducible]noncomputable def zY(we:Cd->Res Cd)(wg:Tx->Res Tx)(wj:Cd->Int->Res Cd)(wk:Cd->Tx->Res (List Int))(Z01:Cd)(Z08:Tx)(Z03:Int):Res (Cd×Tx):=(if(decide<|(Z03%2)=(1:Int))then(we Z01).bind fun y9=>(wg Z08).bind fun y14=>Bt (y9,y14)else Bt (Z01,Z08):Res (Cd×Tx)).bind fun s18=>(wj s18.1<|(Z03/2)%4).bind fun y29=>(if(decide<|((Z03/8)%2)=(1:Int))then(wk y29 s18.2).bind fun y40=>((fb (4:Int)).bind fun y101=>bQ (yH Z03 y40) y101 y29).bind fun s102=>Bt s102 else Bt y29:Res Cd).bind fun s107=>Bt (s107,s18.2)
def wm(Z01:Cd)(Z08:Tx)(Z03:Int):Res (Cd×Tx):=zY we wg wj wk Z01 Z08 Z03
@[irreducible]noncomputable def zZ(uW:Int->Res Cd)(fS:List Int->Int->Res Int)(wc:Int->Int->Res Tx)(wd:(List Pl)->Int->Bool->Res (List Pl))(oB:Cd->Tx->Res (List Pl))(wm:Cd->Tx->Int->Res (Cd×Tx))(Z0d:List Int)(Z2P:Int):Res (Cd×(List Pl)×Int):=((fS Z0d (0:Int)).bind fun y3=>uW y3).bind fun y4=>((fS Z0d (1:Int)).bind fun y10=>((fS Z0d (2:Int)).bind fun y9=>gL y9<|Z2P+(1:Int)).bind fun y11=>wc y10 y11).bind fun y12=>(fS Z0d (3:Int)).bind fun y17=>((oB y4 y12).bind fun y22=>wd y22 (y17/3)<|decide<|(y17%3)=(2:Int)).bind fun y23=>((fS Z0d (4:Int)).bind fun y28=>Bt<|y28/4).bind fun y29=>(if(decide<|(y29%6)=(1:Int))then((wm y4 y12<|y29/6).bind fun y40=>Bt y40.1).bind fun y41=>Bt y41 else Bt y4:Res Cd).bind fun s45=>(if(decide<|(y29%6)=(2:Int))then(uW<|y29/6).bind fun y62=>Bt y62 else Bt s45:Res Cd).bind fun s66=>((fS Z0d (4:Int)).bind fun y75=>Bt<|y75%4).bind fun y76=>Bt (s66,y23,y76)
def uX(Z0d:List Int)(Z2P:Int):Res (Cd×(List Pl)×Int):=zZ uW fS wc wd oB wm Z0d Z2P
@[irreducible]noncomputable def uY(a83:Tx×Tx)(s84:Bool):Res Bool:=((if(!decide (a83.2=([63]:Tx)))then Bt (!decide (a83.2=a83.1))else Bt false).bind fun y112=>(if y112 then Bt false else Bt s84:Res Bool)).bind fun s124=>Bt s124
@[irreducible]noncomputable def xb(fL:Cd->Tx->Res Int)(Z01:Cd)(Z1H:Pl)(Z0a:Int)(Z0b:Int)(Z0u:Ii)(a7:Tx)(s8:(List Ii)):Res (List Ii):=(fL Z01 a7).bind fun y38=>(iA (Z0u.2+(1:Int)) (if(decide<|a7=([105]:Tx))then(1:Int)else 0)).bind fun y47=>(if(decide<|Z01.1=([90]:Tx))then Bt ((Z01.2.2-(Z0u.1+y38))%4)else Bt ((Z01.2.2+(Z0u.1+y38))%4):Res Int).bind fun s65=>(if(decide<|dG (Z0u.1+y38)<=Z0b)then Bt (decide<|y47<=Z0a)else Bt false).bind fun y75=>(((((fh Z01.2.1 s65).bind fun y78=>(fh Z01.2.1<|(s65+(2:Int))%4).bind fun y79=>(fh ([122,111,115]:Tx)<|y38+(1:Int)).bind fun y80=>Bt (y78,y79,y80)).bind fun y81=>Bt [y81.1,y81.2.1,y81.2.2]).bind fun y82=>Bt<|y82.zip [Z1H.1,Z1H.2.1,Z1H.2.2]).bind fun y132=>bQ uY y132 y75).bind fun s133=>(if s133 then(fP s8 ((Z0u.1+y38),y47)).bind fun y146=>Bt y146 else Bt s8:Res (List Ii)).bind fun s148=>Bt s148
@[irreducible]noncomputable def A0(fL:Cd->Tx->Res Int)(Z01:Cd)(Z1H:Pl)(Z0a:Int)(Z0b:Int)(Z0u:Ii):Res (List Ii):=(bQ (xb fL Z01 Z1H Z0a Z0b Z0u) (bE ([102,98,105]:Tx)) ([]:List Ii)).bind fun s156=>Bt s156
def lU(Z01:Cd)(Z1H:Pl)(Z0a:Int)(Z0b:Int)(Z0u:Ii):Res (List Ii):=A0 fL Z01 Z1H Z0a Z0b Z0u
@[irreducible]noncomputable def yi(a63:Ii)(s64:(List<|Ii×Bool)):Res (List<|Ii×Bool):=(tU s64 a63 true).bind fun y89=>Bt y89
@[irreducible]noncomputable def zA(lU:Cd->Pl->Int->Int->Ii->Res (List Ii))(Z01:Cd)(Z0a:Int)(Z0b:Int)(a7:Pl)(a39:Ii)(s40:(List<|Ii×Bool)):Res (List<|Ii×Bool):=((lU Z01 a7 Z0a Z0b a39).bind fun y90=>bQ yi y90 s40).bind fun s91=>Bt s91
@[irreducible]noncomputable def yj(lU:Cd->Pl->Int->Int->Ii->Res (List Ii))(Z01:Cd)(Z0a:Int)(Z0b:Int)(a7:Pl)(s8:(List<|List Ii)):Res (Fl (List<|List Ii)<|List<|List Ii):=((ef s8<|-(1:Int)).bind fun y95=>bQ (zA lU Z01 Z0a Z0b a7) y95 ([]:List (Ii×Bool))).bind fun s96=>((tV (s96.map (·.1))).bind fun y104=>fP s8 y104).bind fun y103=>if(decide<|(s96.length:Int)=(0:Int))then Bt (.rt y103)else Bt (.nx y103)
@[irreducible]noncomputable def A1(lU:Cd->Pl->Int->Int->Ii->Res (List Ii))(Z01:Cd)(Z1d:List Pl)(Z0a:Int)(Z0b:Int):Res (List<|List Ii):=(dH (yj lU Z01 Z0a Z0b) Z1d [[((0:Int),(0:Int))]]).bind (fun | .nx s107=>(Bt s107)| .rt r=>Bt r| .bk _=>Gf)
def wo(Z01:Cd)(Z1d:List Pl)(Z0a:Int)(Z0b:Int):Res (List<|List Ii):=A1 lU Z01 Z1d Z0a Z0b
@[irreducible]noncomputable def A2(ic:Int->Int->Int->Res (List Int))(Z3h:List (List Ii))(Z03:Int):Res (List<|List Ii):=(eE Z3h<|fun(a1:List Ii)=>Bt a1).bind fun y10=>(ic (Z03/7) (4:Int) (30030:Int)).bind fun y16=>((ef y16 (0:Int)).bind fun y21=>gL y21 (if(y10.length:Int)>(1:Int)then(y10.length:Int)else(1:Int))).bind fun y22=>((((ef y16 (2:Int)).bind fun y27=>Bt<|y27%11).bind fun y28=>Bt<|y28-(5:Int)).bind fun y32=>((((ef y16 (2:Int)).bind fun y29=>Bt<|y29/11).bind fun y30=>Bt<|y30%6).bind fun y31=>Bt<|y31-(1:Int)).bind fun y33=>Bt (y32,y33)).bind fun y34=>((((ef y16 (3:Int)).bind fun y37=>Bt<|y37%6).bind fun y38=>Bt<|decide<|y38=(1:Int)).bind fun y39=>(if y39 then((((ef y16 (2:Int)).bind fun y48=>Bt<|y48%5).bind fun y49=>ef [(100000000000000000000:Int),((0:Int)-(61:Int)),(61:Int),(240:Int),((0:Int)-(100000000000000000000:Int))] y49).bind fun y53=>((((ef y16 (3:Int)).bind fun y50=>Bt<|y50/6).bind fun y51=>Bt<|y51%4).bind fun y52=>ef [((0:Int)-(1:Int)),(7:Int),(100000000000000000000:Int),(3:Int)] y52).bind fun y54=>Bt (y53,y54)).bind fun y55=>Bt y55 else Bt y34:Res Ii)).bind fun s59=>((if(decide<|(Z03%7)=(1:Int))then if(decide<|(0:Int)<(y10.length:Int))then((ef y10 y22).bind fun y68=>Bt (y68.length:Int)).bind fun y69=>Bt (decide<|(0:Int)<y69)else Bt false else Bt false).bind fun y70=>(if y70 then((lL (y10,fun(b:List (List Ii))=>b) y22).bind fun y80=>((ef y16 (1:Int)).bind fun y78=>((ef y10 y22).bind fun y77=>Bt (y77.length:Int)).bind fun y79=>gL y78 y79).bind fun y81=>(rm y80.1 y81).bind fun b=>Bt<|y80.2 b).bind fun y82=>Bt y82 else Bt y10:Res (List<|List Ii))).bind fun s86=>((if(decide<|(Z03%7)=(2:Int))then Bt (decide<|(0:Int)<(s86.length:Int))else Bt false).bind fun y93=>(if y93 then((lL (s86,fun(b:List (List Ii))=>b) y22).bind fun y104=>((ef y16 (1:Int)).bind fun y102=>(((ef s86 y22).bind fun y100=>Bt (y100.length:Int)).bind fun y101=>Bt<|y101+(1:Int)).bind fun y103=>gL y102 y103).bind fun y105=>(uo y104.1 y105 s59).bind fun b=>Bt<|y104.2 b).bind fun y106=>Bt y106 else Bt s86:Res (List<|List Ii))).bind fun s110=>((if(decide<|(Z03%7)=(3:Int))then Bt (decide<|(0:Int)<(s110.length:Int))else Bt false).bind fun y117=>(if y117 then((rm (s110,fun(b:List (List Ii))=>b).1 y22).bind fun b=>Bt<|(s110,fun(b:List (List Ii))=>b).2 b).bind fun y124=>Bt y124 else Bt s110:Res (List<|List Ii))).bind fun s128=>(if(decide<|(Z03%7)=(4:Int))then(((ef y16 (1:Int)).bind fun y141=>gL y141<|(s128.length:Int)+(1:Int)).bind fun y142=>(uo (s128,fun(b:List (List Ii))=>b).1 y142 ([]:List Ii)).bind fun b=>Bt<|(s128,fun(b:List (List Ii))=>b).2 b).bind fun y143=>Bt y143 else Bt s128:Res (List<|List Ii)).bind fun s147=>(if(decide<|(Z03%7)=(5:Int))then(eE s147<|fun(a164:List Ii)=>vA a164.reverse<|cut a164 none<|some (1:Int)).bind fun y173=>Bt y173 else Bt s147:Res (List<|List Ii)).bind fun s178=>((if(decide<|(Z03%7)=(6:Int))then if(decide<|(0:Int)<(s178.length:Int))then((ef s178 y22).bind fun y186=>Bt (y186.length:Int)).bind fun y187=>Bt (decide<|(0:Int)<y187)else Bt false else Bt false).bind fun y188=>(if y188 then((lL (s178,fun(b:List (List Ii))=>b) y22).bind fun y198=>((ef y16 (1:Int)).bind fun y196=>((ef s178 y22).bind fun y195=>Bt (y195.length:Int)).bind fun y197=>gL y196 y197).bind fun y199=>(iZ y198.1 y199 s59).bind fun b=>Bt<|y198.2 b).bind fun y200=>Bt y200 else Bt s178:Res (List<|List Ii))).bind fun s204=>Bt s204
def nN(Z3h:List (List Ii))(Z03:Int):Res (List<|List Ii):=A2 ic Z3h Z03
@[irreducible]noncomputable def yI(a34:Tx)(s35:(List Tx)):Res (List Tx):=(((iB a34 ([102]:Tx)).bind fun y62=>((iB a34 ([98]:Tx)).bind fun y60=>((iB a34 ([105]:Tx)).bind fun y59=>Bt (y59::([]:List Tx))).bind fun y61=>Bt (y60::y61)).bind fun y63=>Bt (y62::y63)).bind fun y64=>vA s35 y64).bind fun y65=>Bt y65
@[irreducible]noncomputable def yJ(a5:Int)(s6:(List Tx)):Res (List Tx):=(bQ yI s6 ([]:List Tx)).bind fun s68=>Bt s68
@[irreducible]noncomputable def A3(Z0j:Int):Res (List Tx):=((fb Z0j).bind fun y76=>bQ yJ y76 [([]:Tx)]).bind fun s77=>Bt s77
def wq(Z0j:Int):Res (List Tx):=A3 Z0j
@[irreducible]noncomputable def A4(a9:Tx)(s10:Unit):Res (Fl Bool Unit):=(if(!decide (a9=([102]:Tx)))then if(!decide (a9=([98]:Tx)))then Bt (!decide (a9=([105]:Tx)))else Bt false else Bt false).bind fun y30=>if y30 then Bt (.rt false)else Bt (.nx ())
@[irreducible]noncomputable def zB(a103:Tx×Tx)(s104:Unit):Res (Fl Bool Unit):=(if(!decide (a103.2=([63]:Tx)))then Bt (!decide (a103.2=a103.1))else Bt false).bind fun y131=>if y131 then Bt (.rt false)else Bt (.nx ())
@[irreducible]noncomputable def yK(fL:Cd->Tx->Res Int)(Z01:Cd)(Z0a:Int)(Z0b:Int)(a50:Tx×Pl×Pl)(s51:Ii):Res (Fl Bool Ii):=((fL Z01 a50.1).bind fun y87=>Bt<|s51.1+y87).bind fun y88=>(iA (s51.2+(1:Int)) (if(decide<|a50.1=([105]:Tx))then(1:Int)else 0)).bind fun y93=>(if(decide<|Z0b<dG y88)then Bt true else Bt (decide<|Z0a<y93)).bind fun y96=>if y96 then Bt (.rt false)else(dH zB ([a50.2.1.1,a50.2.1.2.1,a50.2.1.2.2].zip [a50.2.2.1,a50.2.2.2.1,a50.2.2.2.2]) ()).bind (fun | .nx s138=>(Bt<|.nx (y88,y93))| .rt r=>Bt (.rt r)| .bk _=>Gf)
@[irreducible]noncomputable def A5(oB:Cd->Tx->Res (List Pl))(fL:Cd->Tx->Res Int)(Z01:Cd)(Z1d:List Pl)(Z0a:Int)(Z0b:Int)(Z1n:Tx):Res Bool:=((xF Z1n).bind fun y1=>Bt<|!decide (y1=(Z1d.length:Int))).bind fun y2=>if y2 then Bt false else(dH A4 (bE Z1n) ()).bind (fun | .nx s37=>((((oB Z01 Z1n).bind fun y49=>Bt<|(bE Z1n).zip (y49.zip Z1d)).bind fun y142=>dH (yK fL Z01 Z0a Z0b) y142 ((0:Int),(0:Int))).bind (fun | .nx s143=>(Bt true)| .rt r=>Bt r| .bk _=>Gf))| .rt r=>Bt r| .bk _=>Gf)
def pV(Z01:Cd)(Z1d:List Pl)(Z0a:Int)(Z0b:Int)(Z1n:Tx):Res Bool:=A5 oB fL Z01 Z1d Z0a Z0b Z1n
@[irreducible]noncomputable def A6(tablet:Cd)(turn:Tx):Res Int:=(getD ([([102],1),([98],(-1)),([105],0)]:List (Tx×Int)) turn).bind fun y3=>if(decide<|tablet.1=([83]:Tx))then Bt y3 else Bt (-y3)
def oC(tablet:Cd)(turn:Tx):Res Int:=A6 tablet turn
@[irreducible]noncomputable def A7(oC:Cd->Tx->Res Int)(tablet:Cd)(state:Ii)(turn:Tx):Res Ii:=((oC tablet turn).bind fun y9=>Bt<|state.1+y9).bind fun y10=>(if(decide<|turn=([105]:Tx))then Bt (state.2+(1:Int))else Bt (0:Int)).bind fun y11=>Bt (y10,y11)
def uZ(tablet:Cd)(state:Ii)(turn:Tx):Res Ii:=A7 oC tablet state turn
@[irreducible]noncomputable def A8(state:Ii)(loose:Int)(bound:Int):Res Bool:=if(decide<|dG state.1<=bound)then Bt (decide<|state.2<=loose)else Bt false
def nq(state:Ii)(loose:Int)(bound:Int):Res Bool:=A8 state loose bound
@[irreducible]noncomputable def A9(tablet:Cd)(twist:Int):Res Cd:=((if(decide<|tablet.1=([83]:Tx))then Bt (tablet.2.2+twist)else Bt (tablet.2.2-twist)).bind fun y11=>Bt<|y11%4).bind fun y12=>Bt (tablet.1,tablet.2.1,y12)
def wt(tablet:Cd)(twist:Int):Res Cd:=A9 tablet twist
@[irreducible]noncomputable def pW(tablet:Cd):Res Tx:=fh tablet.2.1<|tablet.2.2%4
def ie(tablet:Cd):Res Tx:=pW tablet
@[irreducible]noncomputable def Aa(tablet:Cd):Res Tx:=fh tablet.2.1<|(tablet.2.2+(2:Int))%4
def wu(tablet:Cd):Res Tx:=Aa tablet
@[irreducible]noncomputable def Ab(ie:Cd->Res Tx)(wu:Cd->Res Tx)(oC:Cd->Tx->Res Int)(tablet:Cd)(turn:Tx):Res Pl:=(ie tablet).bind fun y2=>(wu tablet).bind fun y3=>((oC tablet turn).bind fun y1=>getD ([(1,[115]),((-1),[122]),(0,[111])]:List (Int×Tx)) y1).bind fun y4=>Bt (y2,y3,y4)
def wx(tablet:Cd)(turn:Tx):Res Pl:=Ab ie wu oC tablet turn
@[irreducible]noncomputable def Ac(sign:Tx)(left:Tx):Res Bool:=if(decide<|left=([63]:Tx))then Bt true else Bt (decide<|left=sign)
def va(sign:Tx)(left:Tx):Res Bool:=Ac sign left
@[irreducible]noncomputable def Ad(va:Tx->Tx->Res Bool)(place:Pl)(mark:Pl):Res Bool:=(eE ([place.1,place.2.1,place.2.2].zip [mark.1,mark.2.1,mark.2.2])<|fun(a1:Tx×Tx)=>va a1.1 a1.2).bind fun y12=>Bt<|y12.all id
def wy(place:Pl)(mark:Pl):Res Bool:=Ad va place mark
@[irreducible]noncomputable def Ae(wy:Pl->Pl->Res Bool)(wx:Cd->Tx->Res Pl)(wt:Cd->Int->Res Cd)(tablet:Cd)(state:Ii)(turn:Tx)(mark:Pl):Res Bool:=((wt tablet state.1).bind fun y1=>wx y1 turn).bind fun y2=>wy y2 mark
def ur(tablet:Cd)(state:Ii)(turn:Tx)(mark:Pl):Res Bool:=Ae wy wx wt tablet state turn mark
@[irreducible]noncomputable def Af(uZ:Cd->Ii->Tx->Res Ii)(nq:Ii->Int->Int->Res Bool)(ur:Cd->Ii->Tx->Pl->Res Bool)(tablet:Cd)(mark:Pl)(loose:Int)(bound:Int)(state:Ii):Res (List<|Tx×Ii):=(eE (bE ([102,98,105]:Tx))<|fun(a3:Tx)=>(uZ tablet state a3).bind fun y12=>Bt (a3,y12)).bind fun y15=>oW y15 (fun(a18:Tx×Ii)=>((nq a18.2 loose bound).bind fun y31=>if y31 then ur tablet a18.2 a18.1 mark else Bt false).bind fun y33=>if y33 then Bt (some (a18.1,a18.2))else Bt none)
def lV(tablet:Cd)(mark:Pl)(loose:Int)(bound:Int)(state:Ii):Res (List<|Tx×Ii):=Af uZ nq ur tablet mark loose bound state
@[irreducible]noncomputable def Ag(y3:List Ii)(a29:Tx×Ii)(s30:Unit):Res (Fl Bool Unit):=if(!y3.contains a29.2)then Bt (.rt false)else Bt (.nx ())
@[irreducible]noncomputable def Ah(lV:Cd->Pl->Int->Int->Ii->Res (List<|Tx×Ii))(tablet:Cd)(mark:Pl)(loose:Int)(bound:Int)(y3:List Ii)(a6:Ii)(s7:Unit):Res (Fl Bool Unit):=((lV tablet mark loose bound a6).bind fun y63=>dH (Ag y3) y63 ()).bind (fun | .nx s64=>(Bt<|.nx ())| .rt r=>Bt (.rt r)| .bk _=>Gf)
@[irreducible]noncomputable def Ai(lV:Cd->Pl->Int->Int->Ii->Res (List<|Tx×Ii))(tablet:Cd)(mark:Pl)(loose:Int)(bound:Int)(states:List Ii)(following:List Ii):Res Bool:=(dF (following.length<1000) following).bind fun y3=>(dH (Ah lV tablet mark loose bound y3) states ()).bind (fun | .nx s68=>(Bt true)| .rt r=>Bt r| .bk _=>Gf)
def wz(tablet:Cd)(mark:Pl)(loose:Int)(bound:Int)(states:List Ii)(following:List Ii):Res Bool:=Ai lV tablet mark loose bound states following
@[irreducible]noncomputable def Aj(wz:Cd->Pl->Int->Int->(List Ii)->(List Ii)->Res Bool)(tablet:Cd)(strip:List Pl)(loose:Int)(bound:Int)(lists:List (List Ii)):Res Bool:=(if(decide<|(lists.length:Int)<(2:Int))then Bt true else Bt (decide<|((strip.length:Int)+(1:Int))<(lists.length:Int))).bind fun y1=>if y1 then Bt false else(((ef lists<|-(1:Int)).bind fun y8=>Bt<|!y8.isEmpty).bind fun y10=>if y10 then Bt true else(ef lists (0:Int)).bind fun y9=>Bt<|!y9.contains (0,0)).bind fun y11=>if y11 then Bt false else((fb<|(lists.length:Int)-(1:Int)).bind fun y33=>eE y33<|fun(a18:Int)=>(ef strip a18).bind fun y28=>(ef lists a18).bind fun y29=>(ef lists<|a18+(1:Int)).bind fun y30=>wz tablet y28 loose bound y29 y30).bind fun y34=>Bt<|y34.all id
def vb(tablet:Cd)(strip:List Pl)(loose:Int)(bound:Int)(lists:List (List Ii)):Res Bool:=Aj wz tablet strip loose bound lists
@[irreducible]noncomputable def Ak(lV:Cd->Pl->Int->Int->Ii->Res (List<|Tx×Ii))(tablet:Cd)(mark:Pl)(loose:Int)(bound:Int)(states:List Ii):Res (List Ii):=(bQ (fun(a6:Ii)(s8:List Ii)=>(lV tablet mark loose bound a6).bind fun y36=>bQ (fun(a20:Tx×Ii)(s22:List Ii)=>qS s22 a20.2) y36 s8) states ([]:List Ii)).bind fun k37=>tm k37
def oD(tablet:Cd)(mark:Pl)(loose:Int)(bound:Int)(states:List Ii):Res (List Ii):=Ak lV tablet mark loose bound states
@[irreducible]noncomputable def xc(oD:Cd->Pl->Int->Int->(List Ii)->Res (List Ii))(tablet:Cd)(loose:Int)(bound:Int)(a7:Pl)(s8:(List<|List Ii)):Res (Fl (List<|List Ii)<|List<|List Ii):=((ef s8<|-(1:Int)).bind fun y28=>Bt y28.isEmpty).bind fun y29=>if y29 then Bt (.rt s8)else(((ef s8<|-(1:Int)).bind fun y38=>oD tablet a7 loose bound y38).bind fun y39=>fP s8 y39).bind fun y40=>Bt<|.nx y40
@[irreducible]noncomputable def Al(nq:Ii->Int->Int->Res Bool)(oD:Cd->Pl->Int->Int->(List Ii)->Res (List Ii))(tablet:Cd)(strip:List Pl)(loose:Int)(bound:Int):Res (List<|List Ii):=(((nq (0,0) loose bound).bind fun y1=>if y1 then Bt [(0,0)]else Bt ([]:List Ii)).bind fun y2=>Bt [y2]).bind fun y3=>(dH (xc oD tablet loose bound) strip y3).bind (fun | .nx s43=>(Bt s43)| .rt r=>Bt r| .bk _=>Gf)
def wA(tablet:Cd)(strip:List Pl)(loose:Int)(bound:Int):Res (List<|List Ii):=Al nq oD tablet strip loose bound
@[irreducible]noncomputable def ee(fS:List Int->Int->Res Int)(nN:(List<|List Ii)->Int->Res (List<|List Ii))(Z0d:List Int)(a32:Int)(s33:(List<|List Ii)):Res (List<|List Ii):=((((fS Z0d a32).bind fun y57=>Bt<|y57/2).bind fun y59=>((fS Z0d a32).bind fun y58=>Bt<|y58%2).bind fun y60=>iA y59 y60).bind fun y61=>nN s33 y61).bind fun y62=>Bt y62
@[irreducible]noncomputable def fZ(pV:Cd->(List Pl)->Int->Int->Tx->Res Bool)(y1:Cd×(List Pl)×Int)(y15:Int)(a74:Tx)(s75:Bool):Res Bool:=((pV y1.1 y1.2.1 y1.2.2 y15 a74).bind fun y95=>(if y95 then Bt true else Bt s75:Res Bool)).bind fun s107=>Bt s107
@[irreducible]noncomputable def pX(uX:List Int->Int->Res (Cd×(List Pl)×Int))(fS:List Int->Int->Res Int)(wo:Cd->(List Pl)->Int->Int->Res (List<|List Ii))(nN:(List<|List Ii)->Int->Res (List<|List Ii))(wq:Int->Res (List Tx))(pV:Cd->(List Pl)->Int->Int->Tx->Res Bool)(vb:Cd->(List Pl)->Int->Int->(List<|List Ii)->Res Bool)(wA:Cd->(List Pl)->Int->Int->Res (List<|List Ii))(Z0d:List Int):Res Bool:=(uX Z0d (4:Int)).bind fun y1=>((fS Z0d (5:Int)).bind fun y14=>Bt<|y14%6).bind fun y15=>(((((fS Z0d (5:Int)).bind fun y20=>Bt<|y20/6).bind fun y21=>Bt<|y21%4).bind fun y22=>Bt<|(y15-(2:Int))+y22).bind fun y23=>Bt (if y23>(0:Int)then y23 else(0:Int))).bind fun y24=>(wo y1.1 y1.2.1 y1.2.2 y24).bind fun y29=>((lM (6:Int) (9:Int)).bind fun y65=>bQ (ee fS nN Z0d) y65 y29).bind fun s66=>((wq (y1.2.1.length:Int)).bind fun y114=>bQ (fZ pV y1 y15) y114 false).bind fun s115=>(if s115 then((vb y1.1 y1.2.1 y1.2.2 y15 s66).bind fun y119=>zb y119 false).bind fun y120=>Bt (!y120)else Bt false).bind fun y121=>if y121 then Bt false else((wA y1.1 y1.2.1 y1.2.2 y15).bind fun y128=>vb y1.1 y1.2.1 y1.2.2 y15 y128).bind fun y129=>zb y129<|!s115
def uu(Z0d:List Int):Res Bool:=pX uX fS wo nN wq pV vb wA Z0d
end
end Mi
namespace Wb
open PySem L2 Mi
def tp(i:Nat):Stmt:=H9.main.body.getD i<|.Pass ⟨0,0,0,0⟩
end Wb
local macro_rules | `(tactic|walk_at "L")=>`(tactic|first | exact Kv rfl | exact JG rfl)
local macro_rules | `(tactic|walk_at "F")=>`(tactic|exact⟨rfl,rfl,rfl,by decide +kernel,rfl,by decide +kernel,by decide +kernel⟩)
namespace Wb
open PySem L2 Mi
section
variable{P:BK}{w:BQ}{K:Br}{mg:Str->Option Bs}{base:Heap}
theorem AI{f:Addr}{fd:BW}(F:Fun K "_law_at" "_law_at" (tp 31) f fd)(h_len:mg "len"=none):FnOk P w K mg base CX0 (1) f fd ["_law_script","_law_k"] (bH (isScr K) isI (rs isI)<|zK):=by
 have SC:FnScope ["_law_script","_law_k"] ["_law_script","_law_k"] (defScope<|tp 31):=by walk_at "F"
 refine F.ok SC (fun vs H Q E h=>?_)<|fun cdv A outer s H vs Q E hr h=>?_;·obtain⟨_,_,_,_,_,_,rfl,_⟩:=h;rfl
 ·obtain⟨W0,Z0d,l_k,Z0H,_,rfl,rfl,Z02,z_l_k,Er,hq⟩:=h;cases z_l_k
  refine⟨_,(af (bo (ar rP (pv 1) (aq (aQ (K:=K) rfl) (by rfl) h_len C0<|a8 (pv 0) ae)<|ay _) (ag<|aD<|ax (aJ (K:=K) rfl) (pv 0) (pv 1)<|fun _ _=>rfl) aH)
   (ag (aD (ai aA (ai eB (ai bh (ai eB (pv 1) aa) aa) (ai bh (aq (aQ (K:=K) rfl) (by rfl) h_len C0 (a8 (pv 0) ae)) aa)) aa)))),?_⟩
  have E0:Ext W0 W0:=.refl W0;unfold zK at hq;refine eH (Er:=Er) (az<|cg bf<|kP<|aU Z02)<|fun W1 e2=>?_;have E0:=E0.trans e2;have Z02:=Bk e2.g Z02;by_cases hb13:(decide<|l_k<(Z0d.length:Int))=true
  ·rw[if_pos hb13]at hq ⊢;exact aX (Er:=Er) (sP (aU Z02) bf)<|Ce hq fun y3 hq v4 W5 e6 h7=>hq v4 W5 (E0.trans e6) h7
  ·rw[if_neg hb13]at hq ⊢
   try dsimp only[aF]
   exact aX (Er:=Er) (ao (fun _=>by decide) (gN (aM (ao (fun _=>.inr ⟨by decide,by decide⟩) bf) ah)<|aM (kP<|aU Z02) ah))<|Ce hq fun y9 hq v10 W11 e12 h13=>hq v10 W11 (E0.trans e12) h13
theorem AJ{f:Addr}{fd:BW}(F:Fun K "_law_row" "_law_row" (tp 27) f fd)(h_abs:mg "abs"=none)(h_range:mg "range"=none):FnOk P w K mg base CX0 (1) f fd ["_law_cell","_law_many","_law_base"] (fc isI isI isI (ro isI)<|zL):=by
 have SC:FnScope ["_law_cell","_law_many","_law_base","_law_now","_law_far","_law_mix","_law_out","_law_k"] ["_law_cell","_law_many","_law_base"] (defScope<|tp 27):=by walk_at "F"
 refine F.ok SC (fun vs H Q E h=>?_)<|fun cdv A outer s H vs Q E hr h=>?_;·obtain⟨_,_,_,_,_,_,_,_,rfl,_⟩:=h;rfl
 ·obtain⟨W0,Z03,Z0j,Z1a,_,_,_,rfl,rfl,Z0B,Z1D,Z4o,Er,hq⟩:=h;cases Z0B;cases Z1D;cases Z4o
  refine⟨_,(af (cX 3 (aq gS (by rfl) h_abs EB<|a8 (pv 0) ae))
   (af (cX 4<|cP rQ (pv 3) (ai lb aa aa)<|ay _)
   (af (cX 5<|ai aA (pv 3) aa)
   (af (cX 6<|bR ae)
   (af (bN BZ rfl (ff rfl h_range<|a8 (pv 1) ae) (f6 7) (af (cX 5<|ai aA (ai bh (ai bh (ai eB (pv 5) aa) aa)<|pv 7) aa)
   (ag (bo (FT<|cQ (de<|pv 4)<|cO<|ar gA (pv 3) aa<|ay _) (af (d5<|cS (K:=K) rfl (pv 6)<|a8 (ai aA (pv 3)<|pv 2) ae)
   (ag (cX 3 (ai bz (pv 3) (pv 2))))) (ag (d5 (cS (K:=K) rfl (pv 6) (a8 (ai aA (ai aA (ai eB (pv 5) (pv 5)) aa) (pv 2)) ae))))))))
   (ag (aD (pv 6)))))))),?_⟩
  have E0:Ext W0 W0:=.refl W0;unfold zL at hq;refine aw (Er:=Er) (lE bf)<|fun v3 W1 e2 h4=>?_;cases h4;have E0:=E0.trans e2;refine aw (Er:=Er) (cg bf (j7 (r:=1000000000000000000) (by decide) (by decide)))<|fun v7 W5 e6 h8=>?_;cases h8;have E0:=E0.trans e6;refine aw (Er:=Er) (ao (fun _=>by decide) bf)<|fun v11 W9 e10 h12=>?_;cases h12;have E0:=E0.trans e10;refine dJ (Er:=Er) (gj (R:=isI))<|fun p15 W13 e14 hp16 o17=>?_;have fr18:=none_of E0.h hp16;have E0:=E0.trans e14;refine cA (Er:=Er) (f:=(yC Z03 Z1a)) (s0:=(((dG Z03)%2147483647),dG Z03,([]:List Int))) (Iv:=fun(s21:(Int×Int×(List Int)))(W22:Wd)(g23:St)=>∃(d25:Option V),g23=[some (.int Z03),some<|.int Z0j,some<|.int Z1a,some<|.int s21.2.1,some<|.bl<|decide<|(1000000000000000000:Int)<=dG Z03,some<|.int s21.1,some<|.ref p15,d25]/\Ext W0 W22/\Ow isI W22 p15 s21.2.2) (fX bf) (Bm hq) ?_ ?_ ?_
  ·intro W37 e38;have E0:=E0.trans e38;have o17:=o17.mono e38;exact⟨_,rfl,E0,o17⟩
  ·intro Wb26 W27 W28 a19 v29 s20 sg30 P31 hW32 hB33 iv e34 h35 hq;obtain⟨d25,rfl,E0,o24⟩:=iv;have E0:=E0.trans e34;have hB33:=hB33.trans e34.g;have o24:=o24.mono e34;cases h35;refine gn (σ':=[some (.int Z03),some<|.int Z0j,some<|.int Z1a,some<|.int s20.2.1,some<|.bl<|decide<|(1000000000000000000:Int)<=dG Z03,some<|.int s20.1,some<|.ref p15,some<|.int a19]) ?_;unfold yC at hq;refine aw (Er:=Er) (ao (fun _=>by decide) (aM (aM (ao (fun _=>.inr ⟨by decide,by decide⟩) bf) ah) bf))<|fun v43 W41 e42 h44=>?_;cases h44;have E0:=E0.trans e42;have hB33:=hB33.trans e42.g;have o24:=o24.mono e42;refine gP (Er:=Er) (Iv:=fun(s74:(Int×(List Int)))(W75:Wd)(g76:St)=>g76=[some (.int Z03),some<|.int Z0j,some<|.int Z1a,some<|.int s74.1,some<|.bl<|decide<|(1000000000000000000:Int)<=dG Z03,some<|.int<|(((s20.1*48271)+(7919:Int))+a19)%2147483647,some<|.ref p15,some<|.int a19]/\Ext W0 W75/\Ow isI W75 p15 s74.2) (dg (mP zr)<|az<|cg bf ah) (Bm hq) ?_ ?_ ?_
   ·intro W46 N49 e47 hN50 hq;have hs51:=e47.g;have E0:=E0.trans e47;have hB33:=hB33.trans e47.g;have o24:=o24.mono e47;refine mR (Er:=Er) o24 (fC bf bf)<|(Bm hq).imp fun y55 hq W52 mu53 o54=>?_;have E0:=mu53.e _ E0 fr18;have hB33:=hB33.trans mu53.g;have hs51:=hs51.trans mu53.g;refine cW (Er:=Er) (oY bf bf)<|(Bm hq).imp fun y59 hq v60 W57 e58 h61=>?_;cases h61;have E0:=E0.trans e58;have hB33:=hB33.trans e58.g;have hs51:=hs51.trans e58.g;have o54:=o54.mono e58;exact hN50 (y59,y55) W57 _ hs51 ⟨rfl,E0,o54⟩ hq
   ·intro W46 N49 e47 hN50 hq;have hs62:=e47.g;have E0:=E0.trans e47;have hB33:=hB33.trans e47.g;have o24:=o24.mono e47;refine iG (Er:=Er) o24 (fC (ao (fun _=>by decide)<|gN bf bf) bf)<|(Bm hq).imp fun y68 hq W65 mu66 o67=>?_;have E0:=mu66.e _ E0 fr18;have hB33:=hB33.trans mu66.g;have hs62:=hs62.trans mu66.g;exact hN50 (s20.2.1,y68) W65 _ hs62 ⟨rfl,E0,o67⟩ hq
   ·intro s70 W71 sg72 hS73 iv hq;obtain⟨rfl,E0,o77⟩:=iv;have hB33:=hB33.trans hS73
    try dsimp only
    refine bU (W:=W71) (((((s20.1*48271)+(7919:Int))+a19)%2147483647),s70.1,s70.2) hB33 ?_ hq;exact⟨_,rfl,E0,o77⟩
  ·intro s79 W80 sg81 hS82 iv hq;obtain⟨d25,rfl,E0,o24⟩:=iv;exact⟨.ref p15,rfl,hq p15 W80 E0 fr18 o24⟩
theorem AK{f:Addr}{fd:BW}(F:Fun K "_law_holes" "_law_holes" (tp 28) f fd){ic:Int->Int->Int->Res (List Int)}(Z0t:Cal P w K mg base "_law_row" ["_law_cell","_law_many","_law_base"] (1) (fc isI isI isI (ro isI) ic)):FnOk P w K mg base CX0 (2) f fd ["_law_cell"] (dB isI (rs isS)<|zM ic):=by
 have SC:FnScope ["_law_cell","_law_size","_law_draws","_law_out","_law_d"] ["_law_cell"] (defScope<|tp 28):=by walk_at "F"
 refine F.ok SC (fun vs H Q E h=>?_)<|fun cdv A outer s H vs Q E hr h=>?_;·obtain⟨_,_,_,_,rfl,_⟩:=h;rfl
 ·obtain⟨W0,Z03,_,rfl,rfl,Z0B,Er,hq⟩:=h;cases Z0B;refine⟨_,(af (cX 1<|ax (aJ (K:=K) rfl) (bR<|a8 aa<|a8 aa<|a8 aa<|a8 aa<|a8 aa ae) (ai aA (pv 0) aa)<|fun _ _=>rfl)
   (af (cX 2<|dq Z0t<|a8 (ai bz (pv 0) aa)<|a8 aa<|a8 aa ae)
   (af (cX 3 aY)
   (af (bN BZ rfl (bJ (K:=K) rfl<|gU (mM (K:=K) rfl) (pv 2) j6<|gT aa) (f6 4)<|ag<|cX 3<|ai cv (pv 3)<|ax bS aY (ai aA (ai bh (ax (aJ (K:=K) rfl) (pv 2) aa<|fun _ _=>rfl)<|ai eB (ai aA (pv 4)<|pv 1) aa) aa)<|fun _ _=>rfl)
   (ag (aD (pv 3))))))),?_⟩
  have E0:Ext W0 W0:=.refl W0;unfold zM at hq;refine aw (Er:=Er) (bP (G6<|eS<|aZ ah<|aZ ah<|aZ ah<|aZ ah<|aZ ah<|eR (R:=isI)) (ao (fun _=>by decide) bf))<|(Bm hq).imp fun y3 hq v4 W1 e2 h5=>?_;cases h5;have E0:=E0.trans e2;refine aw (Er:=Er) (DY (fj (ao (fun _=>⟨by decide,by decide⟩) bf) ah ah))<|(Bm hq).imp fun y8 hq v9 W6 e7 h10=>?_;have E0:=E0.trans e7;refine aw (Er:=Er) (bc (x:=Bv "") (l:=[]) (fB _ _ (by decide +kernel)))<|fun v13 W11 e12 h14=>?_;cases h14;have E0:=E0.trans e12;have h10:=Bk e12.g h10;refine cA (Er:=Er) (f:=(yD y3 y8)) (s0:=([]:Tx)) (Iv:=fun(s17:Tx)(W18:Wd)(g19:St)=>∃(d20:Option V),g19=[some (.int Z03),some<|.int y3,some v9,some<|.str<|aT s17,d20]/\Ext W0 W18) (cb<|DY<|pf (DK<|aU h10) p5<|p6 ah) (Bm hq) ?_ ?_ ?_
  ·intro W32 e33;have E0:=E0.trans e33;have h10:=Bk e33.g h10;exact⟨_,rfl,E0⟩
  ·intro Wb21 W22 W23 a15 v24 s16 sg25 P26 hW27 hB28 iv e29 h30 hq;obtain⟨d20,rfl,E0⟩:=iv;have h10:=Bk hW27 h10;have E0:=E0.trans e29;have hB28:=hB28.trans e29.g;have h10:=Bk e29.g h10;cases h30;refine gn (σ':=[some (.int Z03),some<|.int y3,some v9,some<|.str<|aT s16,some<|.int a15]) ?_;unfold yD at hq;refine cW (Er:=Er) (eF cV (bT (bc (x:=Bv "abcdefghijklmnopqrstuvwxyz") (l:=[97,98,99,100,101,102,103,104,105,106,107,108,109,110,111,112,113,114,115,116,117,118,119,120,121,122]) (fB _ _ (by decide +kernel))) (ao (fun _=>by decide) (aM (bP (DK<|aU h10) ah) (ao (fun _=>.inr ⟨by decide,by decide⟩)<|fC bf bf)))))<|(Bm hq).imp fun y44 hq v45 W36 e37 h46=>?_;cases h46;have E0:=E0.trans e37;have hB28:=hB28.trans e37.g;have h10:=Bk e37.g h10
   try dsimp only
   refine bU (W:=W36) y44 hB28 ?_ hq;exact⟨_,rfl,E0⟩
  ·intro s47 W48 sg49 hS50 iv hq;obtain⟨d20,rfl,E0⟩:=iv;exact aX (Er:=Er) cV<|fun v51 W52 e53 h54=>hq v51 W52 (E0.trans e53) h54
theorem AL{f:Addr}{fd:BW}(F:Fun K "_law_card" "_law_card" (tp 29) f fd){wb:Int->Res Tx}(Z2c:Cal P w K mg base "_law_holes" ["_law_cell"] (2) (dB isI (rs isS) wb)):FnOk P w K mg base CX0 (3) f fd ["_law_cell"] (dB isI (rs<|qA K)<|zN wb):=by
 have SC:FnScope ["_law_cell"] ["_law_cell"] (defScope<|tp 29):=by walk_at "F"
 refine F.ok SC (fun vs H Q E h=>?_)<|fun cdv A outer s H vs Q E hr h=>?_;·obtain⟨_,_,_,_,rfl,_⟩:=h;rfl
 ·obtain⟨W0,Z03,_,rfl,rfl,Z0B,Er,hq⟩:=h;cases Z0B;refine⟨_,(ag<|aD<|cI<|a8 (ax bS aY (ai aA (pv 0) aa)<|fun _ _=>rfl)<|a8 (dq Z2c<|a8 (ai bz (pv 0) aa) ae)<|a8 (ai aA (ai bz (pv 0) aa) aa) ae),?_⟩;have E0:Ext W0 W0:=.refl W0;unfold zN at hq;exact aX (Er:=Er) (dQ (K:=K) (bT (bc (x:=Bv "SZ") (l:=[83,90]) (fB _ _ (by decide +kernel))) (ao (fun _=>by decide) bf)) (cR (ao (fun _=>⟨by decide,by decide⟩) bf)) (ao (fun _=>by decide) (ao (fun _=>⟨by decide,by decide⟩) bf)))<|Ce hq fun y3 hq v4 W5 e6 h7=>hq v4 W5 (E0.trans e6) h7
theorem AM{f:Addr}{fd:BW}(F:Fun K "_law_turns" "_law_turns" (tp 30) f fd){ic:Int->Int->Int->Res (List Int)}(Z0t:Cal P w K mg base "_law_row" ["_law_cell","_law_many","_law_base"] (1) (fc isI isI isI (ro isI) ic)):FnOk P w K mg base CX0 (2) f fd ["_law_cell","_law_many"] (bH isI isI (rs isS)<|zO ic):=by
 have SC:FnScope ["_law_cell","_law_many"] ["_law_cell","_law_many"] (defScope<|tp 30):=by walk_at "F"
 refine F.ok SC (fun vs H Q E h=>?_)<|fun cdv A outer s H vs Q E hr h=>?_;·obtain⟨_,_,_,_,_,_,rfl,_⟩:=h;rfl
 ·obtain⟨W0,Z03,Z0j,_,_,rfl,rfl,Z0B,Z1D,Er,hq⟩:=h;cases Z0B;cases Z1D;refine⟨_,(af (bo (ar bO (ai aA (pv 0) aa) aa<|ay _) (ag<|aD<|ai nX (ax bS aY (ai aA (ai bz (pv 0) aa) aa)<|fun _ _=>rfl)<|pv 1) aH)
   (ag (aD (jx (K:=K) rfl aY (a8 (fA (N:=["_law_d"]) (cap:=[none]) (jl rfl (by decide +kernel) rfl (by decide +kernel) (by rfl) (by rfl)) rfl (bJ (K:=K) rfl (dq Z0t (a8 (ai bz (pv 0) aa) (a8 (pv 1) (a8 aa ae))))) (fun _ _ _ _=>(bL (i:=0) (show Dl (["_law_d"]:List Str) by decide +kernel) rfl (by walk_at "L"))) (fun _ _ _ _=>du) (fun _ _ _ _=>(ax bS aY (pv 0) (fun _ _=>rfl)))) ae))))),?_⟩
  have E0:Ext W0 W0:=.refl W0;rw[show L2.start ["_law_cell","_law_many"] [.int Z03,.int Z0j]=[some (.int Z03),some<|.int Z0j]from rfl];unfold zO at hq;refine eH (Er:=Er) (az (cM (ao (fun _=>by decide) bf) ah))<|fun W1 e2=>?_;have E0:=E0.trans e2;by_cases hb24:(decide<|(Z03%7)=(3:Int))=true
  ·rw[if_pos hb24]at hq ⊢;exact aX (Er:=Er) (vB (bT (bc (x:=Bv "fbi") (l:=[102,98,105]) (fB _ _ (by decide +kernel))) (ao (fun _=>by decide) (ao (fun _=>⟨by decide,by decide⟩) bf))) bf)<|Ce hq fun y4 hq v5 W6 e7 h8=>hq v5 W6 (E0.trans e7) h8
  ·rw[if_neg hb24]at hq ⊢
   try dsimp only[aF]
   exact aX (Er:=Er) (lF (fB _ _ (by decide +kernel)) (G6 (fE (cb (DY (fj (ao (fun _=>⟨by decide,by decide⟩) bf) bf ah))) fun W11 a9 v10 e12 h13 Q16 k17=>by
    cases h13;refine gn ?_;exact⟨by simp[Keep,bF],((bT (bc (x:=Bv "fbi") (l:=[102,98,105]) (fB _ _ (by decide +kernel))) bf):EV Er _ [some (.int a9)] _ _ _) _ (.refl _) _ k17⟩))) (Ce hq fun y20 hq v21 W22 e23 h24=>hq v21 W22 (E0.trans e23) h24)
theorem AN{f:Addr}{fd:BW}(F:Fun K "_law_go" "_law_go" (tp 33) f fd):FnOk P w K mg base CX0 (1) f fd ["_law_turn"] (dB isS (rs isI)<|zP):=by
 have SC:FnScope ["_law_turn"] ["_law_turn"] (defScope<|tp 33):=by walk_at "F"
 refine F.ok SC (fun vs H Q E h=>?_)<|fun cdv A outer s H vs Q E hr h=>?_;·obtain⟨_,_,_,_,rfl,_⟩:=h;rfl
 ·obtain⟨W0,Z0L,_,rfl,rfl,Z2d,Er,hq⟩:=h;cases Z2d;refine⟨_,(ag<|aD<|ai dE (fq (K:=K) rfl rfl aY<|a8 (pv 0) ae) aa),?_⟩;have E0:Ext W0 W0:=.refl W0;unfold zP at hq;exact aX (Er:=Er) (aM (hU (bc (x:=Bv "bif") (l:=[98,105,102]) (fB _ _ (by decide +kernel))) cV) ah)<|Ce hq fun y2 hq v3 W4 e5 h6=>hq v3 W4 (E0.trans e5) h6
theorem AO{f:Addr}{fd:BW}(F:Fun K "_law_behind" "_law_behind" (tp 34) f fd){nM:Tx->Res Int}(Z1o:Cal P w K mg base "_law_go" ["_law_turn"] (1) (dB isS (rs isI) nM)):FnOk P w K mg base CX0 (2) f fd ["_law_card_here","_law_turn"] (bH (qA K) isS (rs<|qA K)<|zQ nM):=by
 have SC:FnScope ["_law_card_here","_law_turn"] ["_law_card_here","_law_turn"] (defScope<|tp 34):=by walk_at "F"
 refine F.ok SC (fun vs H Q E h=>?_)<|fun cdv A outer s H vs Q E hr h=>?_;·obtain⟨_,_,_,_,_,_,rfl,_⟩:=h;rfl
 ·obtain⟨W0,Z01,Z0L,Z07,_,rfl,rfl,Z00,Z2d,Er,hq⟩:=h;cases Z2d;refine⟨_,(ag<|aD<|cI<|a8 (ax (aO (K:=K) rfl) (pv 0) aa<|fun _ _=>rfl)<|a8 (ax (aO (K:=K) rfl) (pv 0) aa<|fun _ _=>rfl)<|a8 (ai aA (ai bh (ax (aO (K:=K) rfl) (pv 0) aa<|fun _ _=>rfl)<|dq Z1o<|a8 (pv 1) ae) aa) ae),?_⟩;have E0:Ext W0 W0:=.refl W0;unfold zQ at hq;exact aX (Er:=Er) (dQ (K:=K) (bg (f:=fun(b:Cd)=>b.1) mQ<|aU Z00) (bg (f:=fun(b:Cd)=>b.2.1) jZ<|aU Z00) (ao (fun _=>by decide)<|aM (bg (f:=fun(b:Cd)=>b.2.2) jr<|aU Z00)<|cR cV))<|Ce hq fun y4 hq v5 W6 e7 h8=>hq v5 W6 (E0.trans e7) h8
theorem AQ{f:Addr}{fd:BW}(F:Fun K "_law_twist" "_law_twist" (tp 35) f fd){nM:Tx->Res Int}(Z1o:Cal P w K mg base "_law_go" ["_law_turn"] (1) (dB isS (rs isI) nM)):FnOk P w K mg base CX0 (2) f fd ["_law_card_here","_law_turn"] (bH (qA K) isS (rs isI)<|zR nM):=by
 have SC:FnScope ["_law_card_here","_law_turn"] ["_law_card_here","_law_turn"] (defScope<|tp 35):=by walk_at "F"
 refine F.ok SC (fun vs H Q E h=>?_)<|fun cdv A outer s H vs Q E hr h=>?_;·obtain⟨_,_,_,_,_,_,rfl,_⟩:=h;rfl
 ·obtain⟨W0,Z01,Z0L,Z07,_,rfl,rfl,Z00,Z2d,Er,hq⟩:=h;cases Z2d;refine⟨_,(af (bo (ar bO (ax (aO (K:=K) rfl) (pv 0) aa<|fun _ _=>rfl) aY<|ay _) (ag<|aD<|dq Z1o<|a8 (pv 1) ae) aH)
   (ag (aD (ai dE aa (dq Z1o (a8 (pv 1) ae)))))),?_⟩
  have E0:Ext W0 W0:=.refl W0;unfold zR at hq;refine eH (Er:=Er) (az (fD (bg (f:=fun(b:Cd)=>b.1) mQ<|aU Z00) (bc (x:=Bv "S") (l:=[83]) (fB _ _ (by decide +kernel)))))<|fun W1 e2=>?_;have E0:=E0.trans e2;have Z00:=Bk e2.g Z00;by_cases hb13:(decide<|Z01.1=([83]:Tx))=true
  ·rw[if_pos hb13]at hq ⊢;exact aX (Er:=Er) (cR cV)<|Ce hq fun y3 hq v4 W5 e6 h7=>hq v4 W5 (E0.trans e6) h7
  ·rw[if_neg hb13]at hq ⊢
   try dsimp only[aF]
   exact aX (Er:=Er) (aM ah<|cR cV)<|Ce hq fun y9 hq v10 W11 e12 h13=>hq v10 W11 (E0.trans e12) h13
theorem AR{f:Addr}{fd:BW}(F:Fun K "_law_places" "_law_places" (tp 36) f fd){jc:Cd->Tx->Res Cd}{fL:Cd->Tx->Res Int}(Z0Q:Cal P w K mg base "_law_behind" ["_law_card_here","_law_turn"] (2) (bH (qA K) isS (rs<|qA K) jc))(Z0z:Cal P w K mg base "_law_twist" ["_law_card_here","_law_turn"] (2) (bH (qA K) isS (rs isI) fL)):FnOk P w K mg base CX0 (3) f fd ["_law_card_here","_law_turns_here"] (bH (qA K) isS (ro<|qB K)<|zS jc fL):=by
 have SC:FnScope ["_law_card_here","_law_turns_here","_law_out","_law_turn","_law_slant"] ["_law_card_here","_law_turns_here"] (defScope<|tp 36):=by walk_at "F"
 refine F.ok SC (fun vs H Q E h=>?_)<|fun cdv A outer s H vs Q E hr h=>?_;·obtain⟨_,_,_,_,_,_,rfl,_⟩:=h;rfl
 ·obtain⟨W0,Z01,Z08,Z07,_,rfl,rfl,Z00,Z0C,Er,hq⟩:=h;cases Z0C;refine⟨_,(af (cX 2<|bR ae)
   (af (bN BZ rfl (iz<|pv 1) (f6 3) (af (cX 0<|dq Z0Q<|a8 (pv 0)<|a8 (pv 3) ae)
   (af (cX 4<|ax bS aY (ai bh (dq Z0z<|a8 (pv 0)<|a8 (pv 3) ae) aa)<|fun _ _=>rfl)
   (ag (d5 (cS (K:=K) rfl (pv 2) (a8 (cI (a8 (ax bS (ax (aO (K:=K) rfl) (pv 0) aa (fun _ _=>rfl)) (ax (aO (K:=K) rfl) (pv 0) aa (fun _ _=>rfl)) (fun _ _=>rfl)) (a8 (ax bS (ax (aO (K:=K) rfl) (pv 0) aa (fun _ _=>rfl)) (ai aA (ai bh (ax (aO (K:=K) rfl) (pv 0) aa (fun _ _=>rfl)) aa) aa) (fun _ _=>rfl)) (a8 (pv 4) ae)))) ae)))))))
   (ag (aD (pv 2))))),?_⟩
  have E0:Ext W0 W0:=.refl W0;unfold zS at hq;refine dJ (Er:=Er) (gj (R:=(qB K)))<|fun p3 W1 e2 hp4 o5=>?_;have fr6:=none_of E0.h hp4;have E0:=E0.trans e2;have Z00:=Bk e2.g Z00;refine cA (Er:=Er) (f:=(yE jc fL)) (s0:=(Z01,([]:List Pl))) (Iv:=fun(s9:(Cd×(List Pl)))(W10:Wd)(g11:St)=>∃(v12:V)(d15:Option V)(d16:Option V),g11=[some v12,some<|.str<|aT Z08,some<|.ref p3,d16,d15]/\Ext W0 W10/\(qA K) W10.G s9.1 v12/\Ow (qB K) W10 p3 s9.2) (iE cV) (Bm hq) ?_ ?_ ?_
  ·intro W28 e29;have E0:=E0.trans e29;have Z00:=Bk e29.g Z00;have o5:=o5.mono e29;exact⟨_,_,_,rfl,E0,Z00,o5⟩
  ·intro Wb17 W18 W19 a7 v20 s8 sg21 P22 hW23 hB24 iv e25 h26 hq;obtain⟨v12,d15,d16,rfl,E0,h13,o14⟩:=iv;have E0:=E0.trans e25;have hB24:=hB24.trans e25.g;have o14:=o14.mono e25;have h13:=Bk e25.g h13;cases h26;refine gn (σ':=[some v12,some<|.str<|aT Z08,some<|.ref p3,some<|.str<|aT a7,d15]) ?_;unfold yE at hq;refine aw (Er:=Er) (ba (aU h13) cV)<|(Bm hq).imp fun y34 hq v35 W32 e33 h36=>?_;have E0:=E0.trans e33;have hB24:=hB24.trans e33.g;have o14:=o14.mono e33;refine aw (Er:=Er) (bT (bc (x:=Bv "zos") (l:=[122,111,115]) (fB _ _ (by decide +kernel)))<|aM (ba (aU h36) cV) ah)<|(Bm hq).imp fun y41 hq v42 W37 e38 h43=>?_;cases h43;have E0:=E0.trans e38;have hB24:=hB24.trans e38.g;have o14:=o14.mono e38;have h36:=Bk e38.g h36;refine iG (Er:=Er) o14 (dQ (K:=K) (bT (bg (f:=fun(b:Cd)=>b.2.1) jZ<|aU h36)<|bg (f:=fun(b:Cd)=>b.2.2) jr<|aU h36) (bT (bg (f:=fun(b:Cd)=>b.2.1) jZ<|aU h36) (ao (fun _=>by decide)<|aM (bg (f:=fun(b:Cd)=>b.2.2) jr<|aU h36) ah)) cV)<|(Bm hq).imp fun y49 hq W46 mu47 o48=>?_;have E0:=mu47.e _ E0 fr6;have hB24:=hB24.trans mu47.g;have h36:=Bk mu47.g h36
   try dsimp only
   refine bU (W:=W46) (y34,y49) hB24 ?_ hq;exact⟨_,_,_,rfl,E0,h36,o48⟩
  ·intro s51 W52 sg53 hS54 iv hq;obtain⟨v12,d15,d16,rfl,E0,h13,o14⟩:=iv;exact⟨.ref p3,rfl,hq p3 W52 E0 fr6 o14⟩
theorem AS{f:Addr}{fd:BW}(F:Fun K "_law_marks" "_law_marks" (tp 37) f fd){ic:Int->Int->Int->Res (List Int)}(Z0t:Cal P w K mg base "_law_row" ["_law_cell","_law_many","_law_base"] (1) (fc isI isI isI (ro isI) ic))(h_int:mg "int"=none)(h_len:mg "len"=none)(h_tuple:mg "tuple"=none)(h_zip:mg "zip"=none):FnOk P w K mg base CX0 (2) f fd ["_law_places_here","_law_cell","_law_lies"] (fc (qD K) isI isB (ro<|qB K)<|zT ic):=by
 have SC:FnScope ["_law_places_here","_law_cell","_law_lies","_law_out","_law_draws","_law_place","_law_d","_law_mark","_law_letters"] ["_law_places_here","_law_cell","_law_lies"] (defScope<|tp 37):=by walk_at "F"
 refine F.ok SC (fun vs H Q E h=>?_)<|fun cdv A outer s H vs Q E hr h=>?_;·obtain⟨_,_,_,_,_,_,_,_,rfl,_⟩:=h;rfl
 ·obtain⟨W0,Z1b,Z03,Z1l,Z0A,_,_,rfl,rfl,Z0F,Z0B,Z4q,Er,hq⟩:=h;cases Z0B;cases Z4q;refine⟨_,(af (cX 3<|bR ae)
   (af (cX 4 (dq Z0t (a8 (ai bz (pv 1) aa) (a8 (aq (aQ (K:=K) rfl) (by rfl) h_len C0<|a8 (pv 0) ae) (a8 (ai bh aa (ai eB aa (cC iw (by rfl) h_int E1<|a8 (pv 2) ae))) ae)))))
   (af (bN BZ rfl (gi (K:=K) rfl rfl h_zip<|a8 (pv 0)<|a8 (pv 4) ae) (bZ (K:=K) (n:=2) rfl rfl<|aE (f6 5)<|aE (f6 6) bX) (af (bo (ar bO (ai aA (pv 1) aa) aa<|ay _) (ag<|cX 6<|ai eB (ai bz (pv 6) aa) aa) aH)
   (af (bo (ar bO (ai aA (pv 1) aa) aa<|ay _) (ag<|cX 6<|ai bh (ai eB (ai bz (pv 6) aa) aa) aa) aH)
   (af (cX 7<|bR<|a8 (ax (aO (K:=K) rfl) (pv 5) aa<|fun _ _=>rfl)<|a8 (ax (aO (K:=K) rfl) (pv 5) aa<|fun _ _=>rfl)<|a8 (ax (aO (K:=K) rfl) (pv 5) aa<|fun _ _=>rfl) ae)
   (af (bo (FT<|cQ (ar rQ (pv 6) aa<|ay _)<|cO<|ar rP (ai aA (pv 6) aa) aa<|ay _) (af (cX 8 aY)
   (ag (fu (ax bS (pv 8) (ai bh (fq (K:=K) rfl rfl (pv 8) (a8 (ax (aJ (K:=K) rfl) (pv 7) (ai aA (pv 6) aa) (fun _ _=>rfl)) ae)) aa) (fun _ _=>rfl)) (nO (pv 7) (ai aA (pv 6) aa) jf)))) aH)
   (af (bo (FT<|cQ (ar rQ (pv 6) aa<|ay _)<|cO<|ar bO (ai aA (pv 6) aa) aa<|ay _) (ag<|fu (ax bS aY (fq (K:=K) rfl rfl aY<|a8 (ax (aJ (K:=K) rfl) (pv 7) aa<|fun _ _=>rfl) ae)<|fun _ _=>rfl)<|nO (pv 7) aa jf) aH)
   (ag (d5 (cS (K:=K) rfl (pv 3) (a8 (cC (jw (K:=K) rfl) (by rfl) h_tuple Fj (a8 (fA (N:=["_law_sign","_law_part","_law_d"]) (cap:=[none,none,some 6]) (jl rfl (by decide +kernel) rfl (by decide +kernel) (by rfl) (by rfl)) rfl (gi (K:=K) rfl rfl h_zip (a8 (pv 7) (a8 (bR (a8 aa (a8 aa (a8 aa ae)))) ae))) (fun _ _ _ _=>(bZ (K:=K) (n:=2) rfl rfl (aE (bL (i:=0) (show Dl (["_law_sign","_law_part","_law_d"]:List Str) by decide +kernel) rfl (by walk_at "L")) (aE (bL (i:=1) (show Dl (["_law_sign","_law_part","_law_d"]:List Str) by decide +kernel) rfl (by walk_at "L")) bX)))) (fun _ _ _ _=>du) (fun _ _ _ _=>(fU (ar bO (ai aA (ai bz (pv 2) (pv 1)) aa) aa (ay _)) (pv 0) aY))) ae)) ae))))))))))
   (ag (aD (pv 3)))))),?_⟩
  have E0:Ext W0 W0:=.refl W0;rw[show L2.start ["_law_places_here","_law_cell","_law_lies","_law_out","_law_draws","_law_place","_law_d","_law_mark","_law_letters"] [Z0A,.int Z03,.bl Z1l]=[some Z0A,some<|.int Z03,some<|.bl Z1l,none,none,none,none,none,none]from rfl];unfold zT at hq;refine dJ (Er:=Er) (gj (R:=(qB K)))<|fun p3 W1 e2 hp4 o5=>?_;have fr6:=none_of E0.h hp4;have E0:=E0.trans e2;have Z0F:=Bk e2.g Z0F;refine aw (Er:=Er) (DY (fj (ao (fun _=>⟨by decide,by decide⟩) bf) (d6<|DK<|aU Z0F)<|aM ah<|gN ah<|lJ zr))<|(Bm hq).imp fun y11 hq v12 W7 e8 h13=>?_;have E0:=E0.trans e8;have Z0F:=Bk e8.g Z0F;have o5:=o5.mono e8;refine cA (Er:=Er) (f:=(yF Z03)) (s0:=([]:List Pl)) (Iv:=fun(s16:(List Pl))(W17:Wd)(g18:St)=>∃(d20:Option V)(d21:Option V)(d22:Option V)(d23:Option V),g18=[some Z0A,some<|.int Z03,some<|.bl Z1l,some<|.ref p3,some v12,d23,d20,d21,d22]/\Ext W0 W17/\Ow (qB K) W17 p3 s16) (jt (iF<|aU Z0F)<|iF<|aU h13) (Bm hq) ?_ ?_ ?_
  ·intro W35 e36;have E0:=E0.trans e36;have o5:=o5.mono e36;exact⟨_,_,_,_,rfl,E0,o5⟩
  ·intro Wb24 W25 W26 a14 v27 s15 sg28 P29 hW30 hB31 iv e32 h33 hq;obtain⟨d20,d21,d22,d23,rfl,E0,o19⟩:=iv;have E0:=E0.trans e32;have hB31:=hB31.trans e32.g;have o19:=o19.mono e32;refine k4 h33 fun v41 v43 h42 h44=>?_;cases h44;unfold yF at hq;refine bK (Er:=Er) (Iv:=fun(s60:Int)(W61:Wd)(g62:St)=>g62=[some Z0A,some<|.int Z03,some<|.bl Z1l,some<|.ref p3,some v12,some v41,some<|.int s60,d21,d22]/\Ext W0 W61/\Ow (qB K) W61 p3 s15) (az (cM (ao (fun _=>by decide) bf) ah)) (Bm hq) ?_ ?_ ?_
   ·intro W45 N48 e46 hN49 hq;have hs50:=e46.g;have E0:=E0.trans e46;have hB31:=hB31.trans e46.g;have o19:=o19.mono e46;have h42:=Bk e46.g h42;refine cW (Er:=Er) (ao (fun _=>.inr ⟨by decide,by decide⟩) (ao (fun _=>⟨by decide,by decide⟩) bf))<|fun v53 W51 e52 h54=>?_;cases h54;have E0:=E0.trans e52;have hB31:=hB31.trans e52.g;have hs50:=hs50.trans e52.g;have o19:=o19.mono e52;have h42:=Bk e52.g h42;exact hN49 ((a14.2/8)*8) W51 _ hs50 ⟨rfl,E0,o19⟩ hq
   ·intro W45 N48 e46 hN49 hq;have hs55:=e46.g;have E0:=E0.trans e46;have hB31:=hB31.trans e46.g;have o19:=o19.mono e46;have h42:=Bk e46.g h42
    try dsimp only[aF]
    exact hN49 a14.2 W45 _ hs55 ⟨rfl,E0,o19⟩ hq
   ·intro s56 W57 sg58 hS59 iv hq;obtain⟨rfl,E0,o63⟩:=iv;have hB31:=hB31.trans hS59;have h42:=Bk hS59 h42;refine bK (Er:=Er) (Iv:=fun(s79:Int)(W80:Wd)(g81:St)=>g81=[some Z0A,some<|.int Z03,some<|.bl Z1l,some<|.ref p3,some v12,some v41,some<|.int s79,d21,d22]/\Ext W0 W80/\Ow (qB K) W80 p3 s15) (az (cM (ao (fun _=>by decide) bf) ah)) (Bm hq) ?_ ?_ ?_
    ·intro W64 N67 e65 hN68 hq;have hs69:=e65.g;have E0:=E0.trans e65;have hB31:=hB31.trans e65.g;have o63:=o63.mono e65;have h42:=Bk e65.g h42;refine cW (Er:=Er) (aM (ao (fun _=>.inr ⟨by decide,by decide⟩) (ao (fun _=>⟨by decide,by decide⟩) bf)) ah)<|fun v72 W70 e71 h73=>?_;cases h73;have E0:=E0.trans e71;have hB31:=hB31.trans e71.g;have hs69:=hs69.trans e71.g;have o63:=o63.mono e71;have h42:=Bk e71.g h42;exact hN68 (((s56/8)*8)+(7:Int)) W70 _ hs69 ⟨rfl,E0,o63⟩ hq
    ·intro W64 N67 e65 hN68 hq;have hs74:=e65.g;have E0:=E0.trans e65;have hB31:=hB31.trans e65.g;have o63:=o63.mono e65;have h42:=Bk e65.g h42
     try dsimp only[aF]
     exact hN68 s56 W64 _ hs74 ⟨rfl,E0,o63⟩ hq
    ·intro s75 W76 sg77 hS78 iv hq;obtain⟨rfl,E0,o82⟩:=iv;have hB31:=hB31.trans hS78;have h42:=Bk hS78 h42;refine dJ (Er:=Er) (eS<|aZ (bg (f:=fun(b:Pl)=>b.1) mQ<|aU h42)<|aZ (bg (f:=fun(b:Pl)=>b.2.1) jZ<|aU h42)<|aZ (bg (f:=fun(b:Pl)=>b.2.2) jr<|aU h42)<|eR (R:=isS))<|fun p85 W83 e84 hp86 o87=>?_;have ne88:=o82.ne hp86;have fr89:=none_of E0.h hp86;have E0:=E0.trans e84;have hB31:=hB31.trans e84.g;have o82:=o82.mono e84;have h42:=Bk e84.g h42;refine bK (Er:=Er) (Iv:=fun(s114:(List Tx))(W115:Wd)(g116:St)=>∃(d118:Option V),g116=[some Z0A,some<|.int Z03,some<|.bl Z1l,some<|.ref p3,some v12,some v41,some<|.int s75,some<|.ref p85,d118]/\Ext W0 W115/\Ow isS W115 p85 s114/\Ow (qB K) W115 p3 s15) (dg (az<|cg bf ah) (az (cg (ao (fun _=>by decide) bf) ah))) (Bm hq) ?_ ?_ ?_
     ·intro W91 N94 e92 hN95 hq;have hs96:=e92.g;have E0:=E0.trans e92;have hB31:=hB31.trans e92.g;have o82:=o82.mono e92;have h42:=Bk e92.g h42;have o87:=o87.mono e92;refine aw (Er:=Er) (bc (x:=Bv "abcdefghijklmnopqrstuvwxyza") (l:=[97,98,99,100,101,102,103,104,105,106,107,108,109,110,111,112,113,114,115,116,117,118,119,120,121,122,97]) (fB _ _ (by decide +kernel)))<|fun v99 W97 e98 h100=>?_;cases h100;have E0:=E0.trans e98;have hB31:=hB31.trans e98.g;have hs96:=hs96.trans e98.g;have o82:=o82.mono e98;have h42:=Bk e98.g h42;have o87:=o87.mono e98;refine pj (Er:=Er) o87 (bT cV (aM (hU cV (bP (gZ o87) (ao (fun _=>by decide) bf))) ah)) (ao (fun _=>by decide) bf)<|(Bm hq).imp fun y108 hq W104 mu105 o106=>?_;have E0:=mu105.e _ E0 fr89;have hB31:=hB31.trans mu105.g;have hs96:=hs96.trans mu105.g;have o82:=mu105.ow ne88 o82;have h42:=Bk mu105.g h42;exact hN95 y108 W104 _ hs96 ⟨_,rfl,E0,o106,o82⟩ hq
     ·intro W91 N94 e92 hN95 hq;have hs109:=e92.g;have E0:=E0.trans e92;have hB31:=hB31.trans e92.g;have o82:=o82.mono e92;have h42:=Bk e92.g h42;have o87:=o87.mono e92
      try dsimp only[aF]
      exact hN95 [a14.1.1,a14.1.2.1,a14.1.2.2] W91 _ hs109 ⟨_,rfl,E0,o87,o82⟩ hq
     ·intro s110 W111 sg112 hS113 iv hq;obtain⟨d118,rfl,E0,o117,o119⟩:=iv;have hB31:=hB31.trans hS113;have h42:=Bk hS113 h42;refine bK (Er:=Er) (Iv:=fun(s139:(List Tx))(W140:Wd)(g141:St)=>g141=[some Z0A,some<|.int Z03,some<|.bl Z1l,some<|.ref p3,some v12,some v41,some<|.int s75,some<|.ref p85,d118]/\Ext W0 W140/\Ow isS W140 p85 s139/\Ow (qB K) W140 p3 s15) (dg (az<|cg bf ah) (az (cM (ao (fun _=>by decide) bf) ah))) (Bm hq) ?_ ?_ ?_
      ·intro W121 N124 e122 hN125 hq;have hs126:=e122.g;have E0:=E0.trans e122;have hB31:=hB31.trans e122.g;have o119:=o119.mono e122;have h42:=Bk e122.g h42;have o117:=o117.mono e122;refine pj (Er:=Er) o117 (bT (bc (x:=Bv "zos") (l:=[122,111,115]) (fB _ _ (by decide +kernel))) (hU (bc (x:=Bv "szo") (l:=[115,122,111]) (fB _ _ (by decide +kernel)))<|bP (gZ o117) ah)) ah<|(Bm hq).imp fun y133 hq W129 mu130 o131=>?_;have E0:=mu130.e _ E0 fr89;have hB31:=hB31.trans mu130.g;have hs126:=hs126.trans mu130.g;have o119:=mu130.ow ne88 o119;have h42:=Bk mu130.g h42;exact hN125 y133 W129 _ hs126 ⟨rfl,E0,o131,o119⟩ hq
      ·intro W121 N124 e122 hN125 hq;have hs134:=e122.g;have E0:=E0.trans e122;have hB31:=hB31.trans e122.g;have o119:=o119.mono e122;have h42:=Bk e122.g h42;have o117:=o117.mono e122
       try dsimp only[aF]
       exact hN125 s110 W121 _ hs134 ⟨rfl,E0,o117,o119⟩ hq
      ·intro s135 W136 sg137 hS138 iv hq;obtain⟨rfl,E0,o142,o143⟩:=iv;have hB31:=hB31.trans hS138;have h42:=Bk hS138 h42;obtain⟨W144,hH145,E0,hS146,h148,hk147⟩:=o142.frz E0 fr89;rw[<-hH145];have hB31:=hB31.trans hS146;have o143:=o143.keep (by rw[hH145]) hS146<|hk147 _ ne88;have h42:=Bk hS146 h42;refine iG (Er:=Er) o143 (sS (G6 (fE (jt (iF<|aU h148)<|iF<|DY<|eS<|aZ ah<|aZ ah<|aZ ah<|eR (R:=isI)) fun W151 a149 v150 e152 h153 Q161 k162=>by
        refine k4 h153 fun v154 v156 h155 h157=>?_;cases h155;cases h157;exact⟨by simp[Keep,bF],((oZ (az (cM (ao (fun _=>by decide) (oY bf bf)) ah)) cV (bc (x:=Bv "?") (l:=[63]) (fB _ _ (by decide +kernel)))):EV Er _ [some (.str (aT a149.1)),some (.int a149.2),some (.int s75)] _ _ _) _ (.refl _) _ k162⟩))) ((Bm hq).imp fun y167 hq W164 mu165 o166=>?_)
       have E0:=mu165.e _ E0 fr6;have hB31:=hB31.trans mu165.g;have h42:=Bk mu165.g h42;have h148:=Bk mu165.g h148
       try dsimp only
       refine bU (W:=W164) y167 hB31 ?_ hq;exact⟨_,_,_,_,rfl,E0,o166⟩
  ·intro s169 W170 sg171 hS172 iv hq;obtain⟨d20,d21,d22,d23,rfl,E0,o19⟩:=iv;exact⟨.ref p3,rfl,hq p3 W170 E0 fr6 o19⟩
theorem AU{f:Addr}{fd:BW}(F:Fun K "_law_turnover" "_law_turnover" (tp 38) f fd):FnOk P w K mg base CX0 (1) f fd ["_law_card_here"] (dB (qA K) (rs<|qA K)<|zU):=by
 have SC:FnScope ["_law_card_here","_law_holes_here"] ["_law_card_here"] (defScope<|tp 38):=by walk_at "F"
 refine F.ok SC (fun vs H Q E h=>?_)<|fun cdv A outer s H vs Q E hr h=>?_;·obtain⟨_,_,_,_,rfl,_⟩:=h;rfl
 ·obtain⟨W0,Z01,Z07,rfl,rfl,Z00,Er,hq⟩:=h;refine⟨_,(af (cX 1<|ax (aO (K:=K) rfl) (pv 0) aa<|fun _ _=>rfl)
   (ag (aD (cI (a8 (ax bS aY (fq (K:=K) rfl rfl aY (a8 (ax (aO (K:=K) rfl) (pv 0) aa (fun _ _=>rfl)) ae)) (fun _ _=>rfl)) (a8 (ai cv (ai cv (ai cv (ax bS (pv 1) aa (fun _ _=>rfl)) (ax bS (pv 1) aa (fun _ _=>rfl))) (ax bS (pv 1) aa (fun _ _=>rfl))) (ax bS (pv 1) aa (fun _ _=>rfl))) (a8 (ai aA (ai dE aa (ax (aO (K:=K) rfl) (pv 0) aa (fun _ _=>rfl))) aa) ae))))))),?_⟩
  have E0:Ext W0 W0:=.refl W0;unfold zU at hq;refine aw (Er:=Er) (bg (f:=fun(b:Cd)=>b.2.1) jZ<|aU Z00)<|fun v3 W1 e2 h4=>?_;cases h4;have E0:=E0.trans e2;have Z00:=Bk e2.g Z00;exact aX (Er:=Er) (dQ (K:=K) (bT (bc (x:=Bv "ZS") (l:=[90,83]) (fB _ _ (by decide +kernel))) (hU (bc (x:=Bv "SZ") (l:=[83,90]) (fB _ _ (by decide +kernel)))<|bg (f:=fun(b:Cd)=>b.1) mQ<|aU Z00)) (eF (eF (eF (bT cV ah)<|bT cV ah)<|bT cV ah)<|bT cV ah) (ao (fun _=>by decide)<|aM ah<|bg (f:=fun(b:Cd)=>b.2.2) jr<|aU Z00))<|Ce hq fun y14 hq v15 W16 e17 h18=>hq v15 W16 (E0.trans e17) h18
theorem AW{f:Addr}{fd:BW}(F:Fun K "_law_back" "_law_back" (tp 39) f fd):FnOk P w K mg base CX0 (1) f fd ["_law_turns_here"] (dB isS (rs isS)<|zV):=by
 have SC:FnScope ["_law_turns_here"] ["_law_turns_here"] (defScope<|tp 39):=by walk_at "F"
 refine F.ok SC (fun vs H Q E h=>?_)<|fun cdv A outer s H vs Q E hr h=>?_;·obtain⟨_,_,_,_,rfl,_⟩:=h;rfl
 ·obtain⟨W0,Z08,_,rfl,rfl,Z0C,Er,hq⟩:=h;cases Z0C;refine⟨_,(ag (aD (jx (K:=K) rfl aY (a8 (fA (N:=["_law_turn"]) (cap:=[none]) (jl rfl (by decide +kernel) rfl (by decide +kernel) (by rfl) (by rfl)) rfl (iz<|pv 0) (fun _ _ _ _=>(bL (i:=0) (show Dl (["_law_turn"]:List Str) by decide +kernel) rfl (by walk_at "L"))) (fun _ _ _ _=>du)<|fun _ _ _ _=>(ax bS aY (fq (K:=K) rfl rfl aY<|a8 (pv 0) ae)<|fun _ _=>rfl)) ae)))),?_⟩;have E0:Ext W0 W0:=.refl W0;rw[show L2.start ["_law_turns_here"] [.str (aT Z08)]=[some (.str<|aT Z08)]from rfl];unfold zV at hq;exact aX (Er:=Er) (lF (fB _ _ (by decide +kernel)) (G6 (fE (iE cV) fun W3 a1 v2 e4 h5 Q9 k10=>by
   cases h5;refine gn ?_;exact⟨by simp[Keep,bF],((bT (bc (x:=Bv "fib") (l:=[102,105,98]) (fB _ _ (by decide +kernel))) (hU (bc (x:=Bv "bif") (l:=[98,105,102]) (fB _ _ (by decide +kernel))) cV)):EV Er _ [some (.str (aT a1))] _ _ _) _ (.refl _) _ k10⟩))) (Ce hq fun y12 hq v13 W14 e15 h16=>hq v13 W14 (E0.trans e15) h16)
theorem AX{f:Addr}{fd:BW}(F:Fun K "_law_roll" "_law_roll" (tp 40) f fd)(h_range:mg "range"=none):FnOk P w K mg base CX0 (1) f fd ["_law_card_here","_law_many"] (bH (qA K) isI (rs<|qA K)<|zW):=by
 have SC:FnScope ["_law_card_here","_law_many","_law_holes_here"] ["_law_card_here","_law_many"] (defScope<|tp 40):=by walk_at "F"
 refine F.ok SC (fun vs H Q E h=>?_)<|fun cdv A outer s H vs Q E hr h=>?_;·obtain⟨_,_,_,_,_,_,rfl,_⟩:=h;rfl
 ·obtain⟨W0,Z01,Z0j,Z07,_,rfl,rfl,Z00,Z1D,Er,hq⟩:=h;cases Z1D
  refine⟨_,(af (cX 2 (jx (K:=K) rfl aY (a8 (fA (N:=["_law_k","_law_card_here","_law_many"]) (cap:=[none,some 0,some 1]) (jl rfl (by decide +kernel) rfl (by decide +kernel) (by rfl) (by rfl)) rfl (ff rfl h_range<|a8 aa ae) (fun _ _ _ _=>(bL (i:=0) (show Dl (["_law_k","_law_card_here","_law_many"]:List Str) by decide +kernel) rfl (by walk_at "L"))) (fun _ _ _ _=>du)<|fun _ _ _ _=>(ax bS (ax (aO (K:=K) rfl) (pv 1) aa<|fun _ _=>rfl) (ai aA (ai dE (pv 0)<|pv 2) aa)<|fun _ _=>rfl)) ae)))
   (ag (aD (cI (a8 (ax (aO (K:=K) rfl) (pv 0) aa (fun _ _=>rfl)) (a8 (pv 2) (a8 (ai aA (ai bh (ax (aO (K:=K) rfl) (pv 0) aa (fun _ _=>rfl)) (pv 1)) aa) ae))))))),?_⟩
  have E0:Ext W0 W0:=.refl W0;rw[show L2.start ["_law_card_here","_law_many","_law_holes_here"] [Z07,.int Z0j]=[some Z07,some<|.int Z0j,none]from rfl];unfold zW at hq;refine aw (Er:=Er) (lF (fB _ _ (by decide +kernel)) (G6 (fE (fX ah) fun W5 a3 v4 e6 h7 Q11 k12=>by
   have h8:=BR (R:=sh (qA K)) e6 Z00;cases h7;refine gn ?_;exact⟨by simp[Keep,bF],((bT (bg (f:=fun(b:Cd)=>b.2.1) jZ (aU h8)) (ao (fun _=>by decide) (aM bf bf))):EV Er _ [some (.int a3),some Z07,some (.int Z0j)] _ _ _) _ (.refl _) _ k12⟩))) ((Bm hq).imp fun y15 hq v16 W1 e2 h17=>?_)
  cases h17;have E0:=E0.trans e2;have Z00:=Bk e2.g Z00;exact aX (Er:=Er) (dQ (K:=K) (bg (f:=fun(b:Cd)=>b.1) mQ<|aU Z00) cV (ao (fun _=>by decide)<|aM (bg (f:=fun(b:Cd)=>b.2.2) jr<|aU Z00) bf))<|fun v18 W19 e20 h21=>hq v18 W19 (E0.trans e20) h21
theorem AY{f:Addr}{fd:BW}(F:Fun K "_law_seen" "_law_seen" (tp 41) f fd){jc:Cd->Tx->Res Cd}(Z0Q:Cal P w K mg base "_law_behind" ["_law_card_here","_law_turn"] (2) (bH (qA K) isS (rs<|qA K) jc))(h_sorted:mg "sorted"=none):FnOk P w K mg base CX0 (3) f fd ["_law_card_here","_law_turns_here"] (bH (qA K) isS (ro isI)<|zX jc):=by
 have SC:FnScope ["_law_card_here","_law_turns_here","_law_out","_law_turn","_law_hole"] ["_law_card_here","_law_turns_here"] (defScope<|tp 41):=by walk_at "F"
 refine F.ok SC (fun vs H Q E h=>?_)<|fun cdv A outer s H vs Q E hr h=>?_;·obtain⟨_,_,_,_,_,_,rfl,_⟩:=h;rfl
 ·obtain⟨W0,Z01,Z08,Z07,_,rfl,rfl,Z00,Z0C,Er,hq⟩:=h;cases Z0C;refine⟨_,(af (cX 2<|bR ae)
   (af (bN BZ rfl (iz<|pv 1) (f6 3) (af (cX 0<|dq Z0Q<|a8 (pv 0)<|a8 (pv 3) ae)
   (ag (bN BZ rfl (bJ (K:=K) rfl (bR (a8 (ax (aO (K:=K) rfl) (pv 0) aa (fun _ _=>rfl)) (a8 (ai aA (ai bh (ax (aO (K:=K) rfl) (pv 0) aa (fun _ _=>rfl)) aa) aa) ae)))) (f6 4) (ag (bo (ar (gB (K:=K) rfl) (pv 4) (pv 2) (by with_unfolding_all rfl)) (ag (d5 (cS (K:=K) rfl (pv 2) (a8 (pv 4) ae)))) aH))))))
   (ag (aD (aq (lC (K:=K) rfl) (by rfl) h_sorted F8 (a8 (pv 2) ae)))))),?_⟩
  have E0:Ext W0 W0:=.refl W0;unfold zX at hq;refine dJ (Er:=Er) (gj (R:=isI))<|fun p3 W1 e2 hp4 o5=>?_;have fr6:=none_of E0.h hp4;have E0:=E0.trans e2;have Z00:=Bk e2.g Z00;refine cA (Er:=Er) (f:=(zz jc)) (s0:=(Z01,([]:List Int))) (Iv:=fun(s9:(Cd×(List Int)))(W10:Wd)(g11:St)=>∃(v12:V)(d15:Option V)(d16:Option V),g11=[some v12,some<|.str<|aT Z08,some<|.ref p3,d16,d15]/\Ext W0 W10/\(qA K) W10.G s9.1 v12/\Ow isI W10 p3 s9.2) (iE cV) (Bm hq) ?_ ?_ ?_
  ·intro W28 e29;have E0:=E0.trans e29;have Z00:=Bk e29.g Z00;have o5:=o5.mono e29;exact⟨_,_,_,rfl,E0,Z00,o5⟩
  ·intro Wb17 W18 W19 a7 v20 s8 sg21 P22 hW23 hB24 iv e25 h26 hq;obtain⟨v12,d15,d16,rfl,E0,h13,o14⟩:=iv;have E0:=E0.trans e25;have hB24:=hB24.trans e25.g;have o14:=o14.mono e25;have h13:=Bk e25.g h13;cases h26;refine gn (σ':=[some v12,some<|.str<|aT Z08,some<|.ref p3,some<|.str<|aT a7,d15]) ?_;unfold zz at hq;refine aw (Er:=Er) (ba (aU h13) cV)<|(Bm hq).imp fun y34 hq v35 W32 e33 h36=>?_;have E0:=E0.trans e33;have hB24:=hB24.trans e33.g;have o14:=o14.mono e33;refine lH (Er:=Er) (f:=yG) (s0:=s8.2) (Iv:=fun(s39:(List Int))(W40:Wd)(g41:St)=>∃(d43:Option V),g41=[some v35,some<|.str<|aT Z08,some<|.ref p3,some<|.str<|aT a7,d43]/\Ext W0 W40/\Ow isI W40 p3 s39) (cb (DY (eS (aZ (bg (f:=fun(b:Cd)=>b.2.2) jr<|aU h36) (aZ (ao (fun _=>by decide)<|aM (bg (f:=fun(b:Cd)=>b.2.2) jr<|aU h36) ah)<|eR (R:=isI)))))) (Bm hq) ?_ ?_ ?_
   ·intro W55 e56;have E0:=E0.trans e56;have hB24:=hB24.trans e56.g;have o14:=o14.mono e56;have h36:=Bk e56.g h36;exact⟨_,rfl,E0,o14⟩
   ·intro Wb44 W45 W46 a37 v47 s38 sg48 P49 hW50 hB51 iv e52 h53 hq;obtain⟨d43,rfl,E0,o42⟩:=iv;have hB24:=hB24.trans hW50;have h36:=Bk hW50 h36;have E0:=E0.trans e52;have hB24:=hB24.trans e52.g;have hB51:=hB51.trans e52.g;have o42:=o42.mono e52;have h36:=Bk e52.g h36;cases h53;refine gn (σ':=[some v35,some<|.str<|aT Z08,some<|.ref p3,some<|.str<|aT a7,some<|.int a37]) ?_;unfold yG at hq;refine gP (Er:=Er) (Iv:=fun(s74:(List Int))(W75:Wd)(g76:St)=>g76=[some v35,some<|.str<|aT Z08,some<|.ref p3,some<|.str<|aT a7,some<|.int a37]/\Ext W0 W75/\Ow isI W75 p3 s74) (az<|jv bf<|gZ o42) (Bm hq) ?_ ?_ ?_
    ·intro W59 N62 e60 hN63 hq;have hs64:=e60.g;have E0:=E0.trans e60;have hB24:=hB24.trans e60.g;have hB51:=hB51.trans e60.g;have o42:=o42.mono e60;have h36:=Bk e60.g h36;refine iG (Er:=Er) o42 bf<|(Bm hq).imp fun y68 hq W65 mu66 o67=>?_;have E0:=mu66.e _ E0 fr6;have hB24:=hB24.trans mu66.g;have hB51:=hB51.trans mu66.g;have hs64:=hs64.trans mu66.g;have h36:=Bk mu66.g h36;exact hN63 y68 W65 _ hs64 ⟨rfl,E0,o67⟩ hq
    ·intro W59 N62 e60 hN63 hq;have hs69:=e60.g;have E0:=E0.trans e60;have hB24:=hB24.trans e60.g;have hB51:=hB51.trans e60.g;have o42:=o42.mono e60;have h36:=Bk e60.g h36
     try dsimp only[aF]
     exact hN63 s38 W59 _ hs69 ⟨rfl,E0,o42⟩ hq
    ·intro s70 W71 sg72 hS73 iv hq;obtain⟨rfl,E0,o77⟩:=iv;have hB24:=hB24.trans hS73;have hB51:=hB51.trans hS73;have h36:=Bk hS73 h36
     try dsimp only
     refine bU (W:=W71) s70 hB51 ?_ hq;exact⟨_,rfl,E0,o77⟩
   ·intro s78 W79 sg80 hS81 iv hq;obtain⟨d43,rfl,E0,o42⟩:=iv;have hB24:=hB24.trans hS81;have h36:=Bk hS81 h36
    try dsimp only
    refine bU (W:=W79) (y34,s78) hB24 ?_ hq;exact⟨_,_,_,rfl,E0,h36,o42⟩
  ·intro s82 W83 sg84 hS85 iv hq;obtain⟨v12,d15,d16,rfl,E0,h13,o14⟩:=iv;exact lG (Er:=Er) (sU<|gZ o14)<|Ce hq fun y86 hq p87 W88 e89 hp90 o91=>hq p87 W88 (E0.trans e89) (none_of E0.h hp90) o91
theorem AZ{f:Addr}{fd:BW}(F:Fun K "_law_kin" "_law_kin" (tp 42) f fd){we:Cd->Res Cd}{wg:Tx->Res Tx}{wj:Cd->Int->Res Cd}{wk:Cd->Tx->Res (List Int)}(Z1J:Cal P w K mg base "_law_turnover" ["_law_card_here"] (1) (dB (qA K) (rs<|qA K) we))(Z2z:Cal P w K mg base "_law_back" ["_law_turns_here"] (1) (dB isS (rs isS) wg))(Z2A:Cal P w K mg base "_law_roll" ["_law_card_here","_law_many"] (1) (bH (qA K) isI (rs<|qA K) wj))(Z2B:Cal P w K mg base "_law_seen" ["_law_card_here","_law_turns_here"] (3) (bH (qA K) isS (ro isI) wk))(h_range:mg "range"=none):FnOk P w K mg base CX0 (4) f fd ["_law_card_here","_law_turns_here","_law_cell"] (fc (qA K) isS isI (rs<|isT2 K (qA K) isS)<|zY we wg wj wk):=by
 have SC:FnScope ["_law_card_here","_law_turns_here","_law_cell","_law_known","_law_hole","_law_colour"] ["_law_card_here","_law_turns_here","_law_cell"] (defScope<|tp 42):=by walk_at "F"
 refine F.ok SC (fun vs H Q E h=>?_)<|fun cdv A outer s H vs Q E hr h=>?_;·obtain⟨_,_,_,_,_,_,_,_,rfl,_⟩:=h;rfl
 ·obtain⟨W0,Z01,Z08,Z03,Z07,_,_,rfl,rfl,Z00,Z0C,Z0B,Er,hq⟩:=h;cases Z0C;cases Z0B;refine⟨_,(af (bo (ar bO (ai aA (pv 2) aa) aa<|ay _) (af (cX 0<|dq Z1J<|a8 (pv 0) ae)
   (ag (cX 1 (dq Z2z (a8 (pv 1) ae))))) aH)
   (af (cX 0<|dq Z2A<|a8 (pv 0)<|a8 (ai aA (ai bz (pv 2) aa) aa) ae)
   (af (bo (ar bO (ai aA (ai bz (pv 2) aa) aa) aa<|ay _) (af (cX 3<|dq Z2B<|a8 (pv 0)<|a8 (pv 1) ae)
   (ag (bN BZ rfl (ff rfl h_range<|a8 aa ae) (f6 4) (ag (bo (ar (gB (K:=K) rfl) (pv 4) (pv 3) (by with_unfolding_all rfl)) (af (cX 5<|ax bS aY (ai aA (ai bh (ai bz (pv 2) aa)<|ai eB aa<|pv 4) aa)<|fun _ _=>rfl)
   (ag (cX 0 (cI (a8 (ax (aO (K:=K) rfl) (pv 0) aa (fun _ _=>rfl)) (a8 (ai cv (ai cv (gU se (ax (aO (K:=K) rfl) (pv 0) aa (fun _ _=>rfl)) j6 (gT (pv 4))) (pv 5)) (gU se (ax (aO (K:=K) rfl) (pv 0) aa (fun _ _=>rfl)) (gT (ai bh (pv 4) aa)) j6)) (a8 (ax (aO (K:=K) rfl) (pv 0) aa (fun _ _=>rfl)) ae))))))) aH))))) aH)
   (ag (aD (cI (a8 (pv 0) (a8 (pv 1) ae)))))))),?_⟩
  have E0:Ext W0 W0:=.refl W0;unfold zY at hq;refine bK (Er:=Er) (Iv:=fun(s22:(Cd×Tx))(W23:Wd)(g24:St)=>∃(v25:V),g24=[some v25,some<|.str<|aT s22.2,some<|.int Z03,none,none,none]/\Ext W0 W23/\(qA K) W23.G s22.1 v25) (az (cM (ao (fun _=>by decide) bf) ah)) (Bm hq) ?_ ?_ ?_
  ·intro W1 N4 e2 hN5 hq;have hs6:=e2.g;have E0:=E0.trans e2;have Z00:=Bk e2.g Z00;refine aw (Er:=Er) (cR<|aU Z00)<|(Bm hq).imp fun y9 hq v10 W7 e8 h11=>?_;have E0:=E0.trans e8;have hs6:=hs6.trans e8.g;refine cW (Er:=Er) (cR cV)<|(Bm hq).imp fun y14 hq v15 W12 e13 h16=>?_;cases h16;have E0:=E0.trans e13;have hs6:=hs6.trans e13.g;have h11:=Bk e13.g h11;exact hN5 (y9,y14) W12 _ hs6 ⟨_,rfl,E0,h11⟩ hq
  ·intro W1 N4 e2 hN5 hq;have hs17:=e2.g;have E0:=E0.trans e2;have Z00:=Bk e2.g Z00
   try dsimp only[aF]
   exact hN5 (Z01,Z08) W1 _ hs17 ⟨_,rfl,E0,Z00⟩ hq
  ·intro s18 W19 sg20 hS21 iv hq;obtain⟨v25,rfl,E0,h26⟩:=iv;refine aw (Er:=Er) (ba (aU h26) (ao (fun _=>by decide) (ao (fun _=>⟨by decide,by decide⟩) bf)))<|(Bm hq).imp fun y29 hq v30 W27 e28 h31=>?_;have E0:=E0.trans e28;refine bK (Er:=Er) (Iv:=fun(s111:Cd)(W112:Wd)(g113:St)=>∃(v114:V)(d116:Option V)(d117:Option V)(d118:Option V),g113=[some v114,some<|.str<|aT s18.2,some<|.int Z03,d116,d117,d118]/\Ext W0 W112/\(qA K) W112.G s111 v114) (az (cM (ao (fun _=>by decide) (ao (fun _=>⟨by decide,by decide⟩) bf)) ah)) (Bm hq) ?_ ?_ ?_
   ·intro W32 N35 e33 hN36 hq;have hs37:=e33.g;have E0:=E0.trans e33;have h31:=Bk e33.g h31;refine aw (Er:=Er) (DY<|iD (aU h31) cV)<|(Bm hq).imp fun y40 hq v41 W38 e39 h42=>?_;have E0:=E0.trans e39;have hs37:=hs37.trans e39.g;have h31:=Bk e39.g h31;refine lH (Er:=Er) (f:=(yH Z03 y40)) (s0:=y29) (Iv:=fun(s45:Cd)(W46:Wd)(g47:St)=>∃(v48:V)(d50:Option V)(d51:Option V),g47=[some v48,some<|.str<|aT s18.2,some<|.int Z03,some v41,d51,d50]/\Ext W0 W46/\(qA K) W46.G s45 v48) (fX ah) (Bm hq) ?_ ?_ ?_
    ·intro W63 e64;have E0:=E0.trans e64;have hs37:=hs37.trans e64.g;have h31:=Bk e64.g h31;have h42:=Bk e64.g h42;exact⟨_,_,_,rfl,E0,h31⟩
    ·intro Wb52 W53 W54 a43 v55 s44 sg56 P57 hW58 hB59 iv e60 h61 hq;obtain⟨v48,d50,d51,rfl,E0,h49⟩:=iv;have hs37:=hs37.trans hW58;have h42:=Bk hW58 h42;have E0:=E0.trans e60;have hs37:=hs37.trans e60.g;have hB59:=hB59.trans e60.g;have h42:=Bk e60.g h42;have h49:=Bk e60.g h49;cases h61;refine gn (σ':=[some v48,some<|.str<|aT s18.2,some<|.int Z03,some v41,some<|.int a43,d50]) ?_;unfold yH at hq;refine gP (Er:=Er) (Iv:=fun(s95:Cd)(W96:Wd)(g97:St)=>∃(v98:V)(d100:Option V),g97=[some v98,some<|.str<|aT s18.2,some<|.int Z03,some v41,some<|.int a43,d100]/\Ext W0 W96/\(qA K) W96.G s95 v98) (az<|jv bf<|DK<|aU h42) (Bm hq) ?_ ?_ ?_
     ·intro W67 N70 e68 hN71 hq;have hs72:=e68.g;have E0:=E0.trans e68;have hs37:=hs37.trans e68.g;have hB59:=hB59.trans e68.g;have h42:=Bk e68.g h42;have h49:=Bk e68.g h49;refine aw (Er:=Er) (bT (bc (x:=Bv "abcdefghijklmnopqrstuvwxyz") (l:=[97,98,99,100,101,102,103,104,105,106,107,108,109,110,111,112,113,114,115,116,117,118,119,120,121,122]) (fB _ _ (by decide +kernel))) (ao (fun _=>by decide) (aM (ao (fun _=>⟨by decide,by decide⟩) bf)<|gN ah bf)))<|(Bm hq).imp fun y78 hq v79 W73 e74 h80=>?_;cases h80;have E0:=E0.trans e74;have hs37:=hs37.trans e74.g;have hB59:=hB59.trans e74.g;have hs72:=hs72.trans e74.g;have h42:=Bk e74.g h42;have h49:=Bk e74.g h49;refine cW (Er:=Er) (dQ (K:=K) (bg (f:=fun(b:Cd)=>b.1) mQ<|aU h49) (eF (eF (p7 (bg (f:=fun(b:Cd)=>b.2.1) jZ<|aU h49) p5<|p6 bf) cV)<|p7 (bg (f:=fun(b:Cd)=>b.2.1) jZ<|aU h49) (p6<|aM bf ah) p5)<|bg (f:=fun(b:Cd)=>b.2.2) jr<|aU h49)<|(Bm hq).imp fun y87 hq v88 W81 e82 h89=>?_;have E0:=E0.trans e82;have hs37:=hs37.trans e82.g;have hB59:=hB59.trans e82.g;have hs72:=hs72.trans e82.g;have h42:=Bk e82.g h42;exact hN71 y87 W81 _ hs72 ⟨_,_,rfl,E0,h89⟩ hq
     ·intro W67 N70 e68 hN71 hq;have hs90:=e68.g;have E0:=E0.trans e68;have hs37:=hs37.trans e68.g;have hB59:=hB59.trans e68.g;have h42:=Bk e68.g h42;have h49:=Bk e68.g h49
      try dsimp only[aF]
      exact hN71 s44 W67 _ hs90 ⟨_,_,rfl,E0,h49⟩ hq
     ·intro s91 W92 sg93 hS94 iv hq;obtain⟨v98,d100,rfl,E0,h99⟩:=iv;have hs37:=hs37.trans hS94;have hB59:=hB59.trans hS94;have h42:=Bk hS94 h42
      try dsimp only
      refine bU (W:=W92) s91 hB59 ?_ hq;exact⟨_,_,_,rfl,E0,h99⟩
    ·intro s102 W103 sg104 hS105 iv hq;obtain⟨v48,d50,d51,rfl,E0,h49⟩:=iv;have hs37:=hs37.trans hS105;exact hN36 s102 W103 _ hs37 ⟨_,_,_,_,rfl,E0,h49⟩ hq
   ·intro W32 N35 e33 hN36 hq;have hs106:=e33.g;have E0:=E0.trans e33;have h31:=Bk e33.g h31
    try dsimp only[aF]
    exact hN36 y29 W32 _ hs106 ⟨_,_,_,_,rfl,E0,h31⟩ hq
   ·intro s107 W108 sg109 hS110 iv hq;obtain⟨v114,d116,d117,d118,rfl,E0,h115⟩:=iv;exact aX (Er:=Er) (eX (K:=K) (aU h115) cV)<|fun v119 W120 e121 h122=>hq v119 W120 (E0.trans e121) h122
theorem B0{f:Addr}{fd:BW}(F:Fun K "_law_small" "_law_small" (tp 43) f fd){uW:Int->Res Cd}{fS:List Int->Int->Res Int}{wc:Int->Int->Res Tx}{wd:(List Pl)->Int->Bool->Res (List Pl)}{oB:Cd->Tx->Res (List Pl)}{wm:Cd->Tx->Int->Res (Cd×Tx)}(Z21:Cal P w K mg base "_law_card" ["_law_cell"] (3) (dB isI (rs<|qA K) uW))(Z0s:Cal P w K mg base "_law_at" ["_law_script","_law_k"] (1) (bH (isScr K) isI (rs isI) fS))(Z2e:Cal P w K mg base "_law_turns" ["_law_cell","_law_many"] (2) (bH isI isI (rs isS) wc))(Z2f:Cal P w K mg base "_law_marks" ["_law_places_here","_law_cell","_law_lies"] (2) (fc (qD K) isI isB (ro<|qB K) wd))(Z0R:Cal P w K mg base "_law_places" ["_law_card_here","_law_turns_here"] (3) (bH (qA K) isS (ro<|qB K) oB))(Z34:Cal P w K mg base "_law_kin" ["_law_card_here","_law_turns_here","_law_cell"] (4) (fc (qA K) isS isI (rs<|isT2 K (qA K) isS) wm)):FnOk P w K mg base CX0 (5) f fd ["_law_script","_law_most"] (bH (isScr K) isI (rs<|isT3 K (qA K) (qD K) isI)<|zZ uW fS wc wd oB wm):=by
 have SC:FnScope ["_law_script","_law_most","_law_card_here","_law_turns_here","_law_cell","_law_strip","_law_side"] ["_law_script","_law_most"] (defScope<|tp 43):=by walk_at "F"
 refine F.ok SC (fun vs H Q E h=>?_)<|fun cdv A outer s H vs Q E hr h=>?_;·obtain⟨_,_,_,_,_,_,rfl,_⟩:=h;rfl
 ·obtain⟨W0,Z0d,Z2P,Z0H,_,rfl,rfl,Z02,Z4u,Er,hq⟩:=h;cases Z4u;refine⟨_,(af (cX 2<|dq Z21<|a8 (dq Z0s<|a8 (pv 0)<|a8 aa ae) ae)
   (af (cX 3<|dq Z2e<|a8 (dq Z0s<|a8 (pv 0)<|a8 aa ae)<|a8 (ai aA (dq Z0s<|a8 (pv 0)<|a8 aa ae)<|ai bh (pv 1) aa) ae)
   (af (cX 4<|dq Z0s<|a8 (pv 0)<|a8 aa ae)
   (af (cX 5<|dq Z2f<|a8 (dq Z0R<|a8 (pv 2)<|a8 (pv 3) ae)<|a8 (ai bz (pv 4) aa)<|a8 (cP bO (ai aA (pv 4) aa) aa<|ay _) ae)
   (af (cX 6<|ai bz (dq Z0s<|a8 (pv 0)<|a8 aa ae) aa)
   (af (bo (ar bO (ai aA (pv 6) aa) aa<|ay _) (ag<|cX 2<|ax (aO (K:=K) rfl) (dq Z34<|a8 (pv 2)<|a8 (pv 3)<|a8 (ai bz (pv 6) aa) ae) aa<|fun _ _=>rfl) aH)
   (af (bo (ar bO (ai aA (pv 6) aa) aa<|ay _) (ag<|cX 2<|dq Z21<|a8 (ai bz (pv 6) aa) ae) aH)
   (ag (aD (cI (a8 (pv 2) (a8 (pv 5) (a8 (ai aA (dq Z0s (a8 (pv 0) (a8 aa ae))) aa) ae))))))))))))),?_⟩
  have E0:Ext W0 W0:=.refl W0;unfold zZ at hq;refine aw (Er:=Er) (cR<|ba (aU Z02) ah)<|(Bm hq).imp fun y4 hq v5 W1 e2 h6=>?_;have E0:=E0.trans e2;have Z02:=Bk e2.g Z02;refine aw (Er:=Er) (ba (ba (aU Z02) ah)<|fC (ba (aU Z02) ah)<|aM bf ah)<|(Bm hq).imp fun y12 hq v13 W7 e8 h14=>?_;cases h14;have E0:=E0.trans e8;have Z02:=Bk e8.g Z02;have h6:=Bk e8.g h6;refine aw (Er:=Er) (ba (aU Z02) ah)<|(Bm hq).imp fun y17 hq v18 W15 e16 h19=>?_;cases h19;have E0:=E0.trans e16;have Z02:=Bk e16.g Z02;have h6:=Bk e16.g h6;refine aw (Er:=Er) (DY (fj (DY<|iD (aU h6) cV) (ao (fun _=>⟨by decide,by decide⟩) bf) (cM (ao (fun _=>by decide) bf) ah)))<|(Bm hq).imp fun y23 hq v24 W20 e21 h25=>?_;have E0:=E0.trans e21;have Z02:=Bk e21.g Z02;have h6:=Bk e21.g h6;refine aw (Er:=Er) (ao (fun _=>⟨by decide,by decide⟩)<|ba (aU Z02) ah)<|(Bm hq).imp fun y29 hq v30 W26 e27 h31=>?_;cases h31;have E0:=E0.trans e27;have Z02:=Bk e27.g Z02;have h6:=Bk e27.g h6;have h25:=Bk e27.g h25;refine bK (Er:=Er) (Iv:=fun(s49:Cd)(W50:Wd)(g51:St)=>∃(v52:V),g51=[some Z0H,some<|.int Z2P,some v52,some<|.str<|aT y12,some<|.int y17,some v24,some<|.int y29]/\Ext W0 W50/\(qA K) W50.G s49 v52) (az (cM (ao (fun _=>by decide) bf) ah)) (Bm hq) ?_ ?_ ?_
  ·intro W32 N35 e33 hN36 hq;have hs37:=e33.g;have E0:=E0.trans e33;have Z02:=Bk e33.g Z02;have h6:=Bk e33.g h6;have h25:=Bk e33.g h25;refine cW (Er:=Er) (bg (f:=fun(b:Cd×Tx)=>b.1) xK (hV (aU h6) cV (ao (fun _=>⟨by decide,by decide⟩) bf)))<|(Bm hq).imp fun y41 hq v42 W38 e39 h43=>?_;have E0:=E0.trans e39;have hs37:=hs37.trans e39.g;have Z02:=Bk e39.g Z02;have h25:=Bk e39.g h25;exact hN36 y41 W38 _ hs37 ⟨_,rfl,E0,h43⟩ hq
  ·intro W32 N35 e33 hN36 hq;have hs44:=e33.g;have E0:=E0.trans e33;have Z02:=Bk e33.g Z02;have h6:=Bk e33.g h6;have h25:=Bk e33.g h25
   try dsimp only[aF]
   exact hN36 y4 W32 _ hs44 ⟨_,rfl,E0,h6⟩ hq
  ·intro s45 W46 sg47 hS48 iv hq;obtain⟨v52,rfl,E0,h53⟩:=iv;have Z02:=Bk hS48 Z02;have h25:=Bk hS48 h25;refine bK (Er:=Er) (Iv:=fun(s70:Cd)(W71:Wd)(g72:St)=>∃(v73:V),g72=[some Z0H,some<|.int Z2P,some v73,some<|.str<|aT y12,some<|.int y17,some v24,some<|.int y29]/\Ext W0 W71/\(qA K) W71.G s70 v73) (az (cM (ao (fun _=>by decide) bf) ah)) (Bm hq) ?_ ?_ ?_
   ·intro W54 N57 e55 hN58 hq;have hs59:=e55.g;have E0:=E0.trans e55;have Z02:=Bk e55.g Z02;have h25:=Bk e55.g h25;have h53:=Bk e55.g h53;refine cW (Er:=Er) (cR (ao (fun _=>⟨by decide,by decide⟩) bf))<|(Bm hq).imp fun y62 hq v63 W60 e61 h64=>?_;have E0:=E0.trans e61;have hs59:=hs59.trans e61.g;have Z02:=Bk e61.g Z02;have h25:=Bk e61.g h25;exact hN58 y62 W60 _ hs59 ⟨_,rfl,E0,h64⟩ hq
   ·intro W54 N57 e55 hN58 hq;have hs65:=e55.g;have E0:=E0.trans e55;have Z02:=Bk e55.g Z02;have h25:=Bk e55.g h25;have h53:=Bk e55.g h53
    try dsimp only[aF]
    exact hN58 s45 W54 _ hs65 ⟨_,rfl,E0,h53⟩ hq
   ·intro s66 W67 sg68 hS69 iv hq;obtain⟨v73,rfl,E0,h74⟩:=iv;have Z02:=Bk hS69 Z02;have h25:=Bk hS69 h25;exact aX (Er:=Er) (dQ (K:=K) (aU h74) (aU h25) (ao (fun _=>by decide)<|ba (aU Z02) ah))<|Ce hq fun y77 hq v78 W79 e80 h81=>hq v78 W79 (E0.trans e80) h81
theorem B1{f:Addr}{fd:BW}(F:Fun K "_law_next" "_law_next" (tp 46) f fd){fL:Cd->Tx->Res Int}(Z0z:Cal P w K mg base "_law_twist" ["_law_card_here","_law_turn"] (2) (bH (qA K) isS (rs isI) fL))(h_abs:mg "abs"=none)(h_int:mg "int"=none)(h_zip:mg "zip"=none):FnOk P w K mg base CX0 (3) f fd ["_law_card_here","_law_mark","_law_loose","_law_bound","_law_state"] (fQ (qA K) (qB K) isI isI (qC K) (ro<|qC K)<|A0 fL):=by
 have SC:FnScope ["_law_card_here","_law_mark","_law_loose","_law_bound","_law_state","_law_out","_law_turn","_law_step","_law_now","_law_idle","_law_hole","_law_good","_law_sign","_law_left"] ["_law_card_here","_law_mark","_law_loose","_law_bound","_law_state"] (defScope<|tp 46):=by walk_at "F"
 refine F.ok SC (fun vs H Q E h=>?_)<|fun cdv A outer s H vs Q E hr h=>?_;·obtain⟨_,_,_,_,_,_,_,_,_,_,_,_,rfl,_⟩:=h;rfl
 ·obtain⟨W0,Z01,Z1H,Z0a,Z0b,Z0u,Z07,Z1N,_,_,Z1F,rfl,rfl,Z00,Z06,Z23,Z24,Z05,Er,hq⟩:=h;cases Z23;cases Z24;refine⟨_,(af (cX 5<|bR ae)
   (af (bN BZ rfl (iz aY) (f6 6) (af (cX 7<|dq Z0z<|a8 (pv 0)<|a8 (pv 6) ae)
   (af (cX 8<|ai bh (ax (aO (K:=K) rfl) (pv 4) aa<|fun _ _=>rfl)<|pv 7)
   (af (cX 9 (ai eB (ai bh (ax (aO (K:=K) rfl) (pv 4) aa<|fun _ _=>rfl) aa) (cC iw (by rfl) h_int E1<|a8 (cP bO (pv 6) aY<|ay _) ae)))
   (af (cX 10<|ai aA (ai bh (ax (aO (K:=K) rfl) (pv 0) aa<|fun _ _=>rfl)<|pv 8) aa)
   (af (bo (ar bO (ax (aO (K:=K) rfl) (pv 0) aa<|fun _ _=>rfl) aY<|ay _) (ag<|cX 10<|ai aA (ai dE (ax (aO (K:=K) rfl) (pv 0) aa<|fun _ _=>rfl)<|pv 8) aa) aH)
   (af (cX 11 (iq (cP oQ (aq gS (by rfl) h_abs EB<|a8 (pv 8) ae) (pv 3)<|ay _)<|ip<|cP oQ (pv 9) (pv 2)<|ay _))
   (af (bN BZ rfl (gi (K:=K) rfl rfl h_zip<|a8 (cI<|a8 (ax bS (ax (aO (K:=K) rfl) (pv 0) aa<|fun _ _=>rfl) (pv 10)<|fun _ _=>rfl)<|a8 (ax bS (ax (aO (K:=K) rfl) (pv 0) aa<|fun _ _=>rfl) (ai aA (ai bh (pv 10) aa) aa)<|fun _ _=>rfl)<|a8 (ax bS aY (ai bh (pv 7) aa)<|fun _ _=>rfl) ae)<|a8 (pv 1) ae) (bZ (K:=K) (n:=2) rfl rfl<|aE (f6 12)<|aE (f6 13) bX)<|ag<|bo (FT<|cQ (ar gR (pv 13) aY<|ay _)<|cO<|ar gR (pv 13) (pv 12)<|ay _) (ag<|cX 11 cU) aH)
   (ag (bo (de (pv 11)) (ag (d5 (cS (K:=K) rfl (pv 5) (a8 (cI (a8 (pv 8) (a8 (pv 9) ae))) ae)))) aH))))))))))
   (ag (aD (pv 5))))),?_⟩
  have E0:Ext W0 W0:=.refl W0;unfold A0 at hq;refine dJ (Er:=Er) (gj (R:=(qC K)))<|fun p3 W1 e2 hp4 o5=>?_;have fr6:=none_of E0.h hp4;have E0:=E0.trans e2;have Z00:=Bk e2.g Z00;have Z06:=Bk e2.g Z06;have Z05:=Bk e2.g Z05;refine cA (Er:=Er) (f:=(xb fL Z01 Z1H Z0a Z0b Z0u)) (s0:=([]:List Ii)) (Iv:=fun(s9:(List Ii))(W10:Wd)(g11:St)=>∃(d13:Option V)(d14:Option V)(d15:Option V)(d16:Option V)(d17:Option V)(d18:Option V)(d19:Option V)(d20:Option V),g11=[some Z07,some Z1N,some<|.int Z0a,some<|.int Z0b,some Z1F,some<|.ref p3,d20,d13,d14,d15,d16,d17,d18,d19]/\Ext W0 W10/\Ow (qC K) W10 p3 s9) (iE (bc (x:=Bv "fbi") (l:=[102,98,105]) (fB _ _ (by decide +kernel)))) (Bm hq) ?_ ?_ ?_
  ·intro W32 e33;have E0:=E0.trans e33;have Z00:=Bk e33.g Z00;have Z06:=Bk e33.g Z06;have Z05:=Bk e33.g Z05;have o5:=o5.mono e33;exact⟨_,_,_,_,_,_,_,_,rfl,E0,o5⟩
  ·intro Wb21 W22 W23 a7 v24 s8 sg25 P26 hW27 hB28 iv e29 h30 hq;obtain⟨d13,d14,d15,d16,d17,d18,d19,d20,rfl,E0,o12⟩:=iv;have Z00:=Bk hW27 Z00;have Z06:=Bk hW27 Z06;have Z05:=Bk hW27 Z05;have E0:=E0.trans e29;have hB28:=hB28.trans e29.g;have Z00:=Bk e29.g Z00;have Z06:=Bk e29.g Z06;have Z05:=Bk e29.g Z05;have o12:=o12.mono e29;cases h30;refine gn (σ':=[some Z07,some Z1N,some<|.int Z0a,some<|.int Z0b,some Z1F,some<|.ref p3,some<|.str<|aT a7,d13,d14,d15,d16,d17,d18,d19]) ?_;unfold xb at hq;refine aw (Er:=Er) (ba (aU Z00) cV)<|(Bm hq).imp fun y38 hq v39 W36 e37 h40=>?_;cases h40;have E0:=E0.trans e37;have hB28:=hB28.trans e37.g;have Z00:=Bk e37.g Z00;have Z06:=Bk e37.g Z06;have Z05:=Bk e37.g Z05;have o12:=o12.mono e37;refine aw (Er:=Er) (aM (bg (f:=fun(b:Ii)=>b.1) xK<|aU Z05) bf)<|fun v43 W41 e42 h44=>?_;cases h44;have E0:=E0.trans e42;have hB28:=hB28.trans e42.g;have Z00:=Bk e42.g Z00;have Z06:=Bk e42.g Z06;have Z05:=Bk e42.g Z05;have o12:=o12.mono e42;refine aw (Er:=Er) (gN (aM (bg (f:=fun(b:Ii)=>b.2) As<|aU Z05) ah) (lJ (fD cV (bc (x:=Bv "i") (l:=[105]) (fB _ _ (by decide +kernel))))))<|(Bm hq).imp fun y47 hq v48 W45 e46 h49=>?_;cases h49;have E0:=E0.trans e46;have hB28:=hB28.trans e46.g;have Z00:=Bk e46.g Z00;have Z06:=Bk e46.g Z06;have Z05:=Bk e46.g Z05;have o12:=o12.mono e46;refine aw (Er:=Er) (ao (fun _=>by decide)<|aM (bg (f:=fun(b:Cd)=>b.2.2) jr<|aU Z00) bf)<|fun v52 W50 e51 h53=>?_;cases h53;have E0:=E0.trans e51;have hB28:=hB28.trans e51.g;have Z00:=Bk e51.g Z00;have Z06:=Bk e51.g Z06;have Z05:=Bk e51.g Z05;have o12:=o12.mono e51;refine bK (Er:=Er) (Iv:=fun(s69:Int)(W70:Wd)(g71:St)=>g71=[some Z07,some Z1N,some<|.int Z0a,some<|.int Z0b,some Z1F,some<|.ref p3,some<|.str<|aT a7,some<|.int y38,some<|.int<|Z0u.1+y38,some<|.int y47,some<|.int s69,d17,d18,d19]/\Ext W0 W70/\Ow (qC K) W70 p3 s8) (az (fD (bg (f:=fun(b:Cd)=>b.1) mQ<|aU Z00) (bc (x:=Bv "Z") (l:=[90]) (fB _ _ (by decide +kernel))))) (Bm hq) ?_ ?_ ?_
   ·intro W54 N57 e55 hN58 hq;have hs59:=e55.g;have E0:=E0.trans e55;have hB28:=hB28.trans e55.g;have Z00:=Bk e55.g Z00;have Z06:=Bk e55.g Z06;have Z05:=Bk e55.g Z05;have o12:=o12.mono e55;refine cW (Er:=Er) (ao (fun _=>by decide)<|aM (bg (f:=fun(b:Cd)=>b.2.2) jr<|aU Z00) bf)<|fun v62 W60 e61 h63=>?_;cases h63;have E0:=E0.trans e61;have hB28:=hB28.trans e61.g;have hs59:=hs59.trans e61.g;have Z00:=Bk e61.g Z00;have Z06:=Bk e61.g Z06;have Z05:=Bk e61.g Z05;have o12:=o12.mono e61;exact hN58 ((Z01.2.2-(Z0u.1+y38))%4) W60 _ hs59 ⟨rfl,E0,o12⟩ hq
   ·intro W54 N57 e55 hN58 hq;have hs64:=e55.g;have E0:=E0.trans e55;have hB28:=hB28.trans e55.g;have Z00:=Bk e55.g Z00;have Z06:=Bk e55.g Z06;have Z05:=Bk e55.g Z05;have o12:=o12.mono e55
    try dsimp only[aF]
    exact hN58 ((Z01.2.2+(Z0u.1+y38))%4) W54 _ hs64 ⟨rfl,E0,o12⟩ hq
   ·intro s65 W66 sg67 hS68 iv hq;obtain⟨rfl,E0,o72⟩:=iv;have hB28:=hB28.trans hS68;have Z00:=Bk hS68 Z00;have Z06:=Bk hS68 Z06;have Z05:=Bk hS68 Z05;refine aw (Er:=Er) (sI (cg (lE bf) bf)<|cg bf bf)<|(Bm hq).imp fun y75 hq v76 W73 e74 h77=>?_;cases h77;have E0:=E0.trans e74;have hB28:=hB28.trans e74.g;have Z00:=Bk e74.g Z00;have Z06:=Bk e74.g Z06;have Z05:=Bk e74.g Z05;have o72:=o72.mono e74;refine cA (Er:=Er) (f:=uY) (s0:=y75) (Iv:=fun(s85:Bool)(W86:Wd)(g87:St)=>∃(d88:Option V)(d89:Option V),g87=[some Z07,some Z1N,some<|.int Z0a,some<|.int Z0b,some Z1F,some<|.ref p3,some<|.str<|aT a7,some<|.int y38,some<|.int<|Z0u.1+y38,some<|.int y47,some<|.int s65,some<|.bl s85,d88,d89]/\Ext W0 W86/\Ow (qC K) W86 p3 s8) (jt (gm (dQ (K:=K) (bT (bg (f:=fun(b:Cd)=>b.2.1) jZ<|aU Z00) bf) (bT (bg (f:=fun(b:Cd)=>b.2.1) jZ<|aU Z00) (ao (fun _=>by decide)<|aM bf ah)) (bT (bc (x:=Bv "zos") (l:=[122,111,115]) (fB _ _ (by decide +kernel)))<|aM bf ah)))<|gm<|aU Z06) (Bm hq) ?_ ?_ ?_
    ·intro W102 e103;have E0:=E0.trans e103;have hB28:=hB28.trans e103.g;have Z00:=Bk e103.g Z00;have Z06:=Bk e103.g Z06;have Z05:=Bk e103.g Z05;have o72:=o72.mono e103;exact⟨_,_,rfl,E0,o72⟩
    ·intro Wb91 W92 W93 a83 v94 s84 sg95 P96 hW97 hB98 iv e99 h100 hq;obtain⟨d88,d89,rfl,E0,o90⟩:=iv;have hB28:=hB28.trans hW97;have Z00:=Bk hW97 Z00;have Z06:=Bk hW97 Z06;have Z05:=Bk hW97 Z05;have E0:=E0.trans e99;have hB28:=hB28.trans e99.g;have hB98:=hB98.trans e99.g;have Z00:=Bk e99.g Z00;have Z06:=Bk e99.g Z06;have Z05:=Bk e99.g Z05;have o90:=o90.mono e99;refine k4 h100 fun v108 v110 h109 h111=>?_;cases h109;cases h111;unfold uY at hq;refine gP (Er:=Er) (Iv:=fun(s128:Bool)(W129:Wd)(g130:St)=>g130=[some Z07,some Z1N,some<|.int Z0a,some<|.int Z0b,some Z1F,some<|.ref p3,some<|.str<|aT a7,some<|.int y38,some<|.int<|Z0u.1+y38,some<|.int y47,some<|.int s65,some<|.bl s128,some<|.str<|aT a83.1,some<|.str<|aT a83.2]/\Ext W0 W129/\Ow (qC K) W129 p3 s8) (dg (az (gO cV (bc (x:=Bv "?") (l:=[63]) (fB _ _ (by decide +kernel)))))<|az<|gO cV cV) (Bm hq) ?_ ?_ ?_
     ·intro W113 N116 e114 hN117 hq;have hs118:=e114.g;have E0:=E0.trans e114;have hB28:=hB28.trans e114.g;have hB98:=hB98.trans e114.g;have Z00:=Bk e114.g Z00;have Z06:=Bk e114.g Z06;have Z05:=Bk e114.g Z05;have o90:=o90.mono e114;refine cW (Er:=Er) eQ<|fun v121 W119 e120 h122=>?_;cases h122;have E0:=E0.trans e120;have hB28:=hB28.trans e120.g;have hB98:=hB98.trans e120.g;have hs118:=hs118.trans e120.g;have Z00:=Bk e120.g Z00;have Z06:=Bk e120.g Z06;have Z05:=Bk e120.g Z05;have o90:=o90.mono e120;exact hN117 false W119 _ hs118 ⟨rfl,E0,o90⟩ hq
     ·intro W113 N116 e114 hN117 hq;have hs123:=e114.g;have E0:=E0.trans e114;have hB28:=hB28.trans e114.g;have hB98:=hB98.trans e114.g;have Z00:=Bk e114.g Z00;have Z06:=Bk e114.g Z06;have Z05:=Bk e114.g Z05;have o90:=o90.mono e114
      try dsimp only[aF]
      exact hN117 s84 W113 _ hs123 ⟨rfl,E0,o90⟩ hq
     ·intro s124 W125 sg126 hS127 iv hq;obtain⟨rfl,E0,o131⟩:=iv;have hB28:=hB28.trans hS127;have hB98:=hB98.trans hS127;have Z00:=Bk hS127 Z00;have Z06:=Bk hS127 Z06;have Z05:=Bk hS127 Z05
      try dsimp only
      refine bU (W:=W125) s124 hB98 ?_ hq;exact⟨_,_,rfl,E0,o131⟩
    ·intro s133 W134 sg135 hS136 iv hq;obtain⟨d88,d89,rfl,E0,o90⟩:=iv;have hB28:=hB28.trans hS136;have Z00:=Bk hS136 Z00;have Z06:=Bk hS136 Z06;have Z05:=Bk hS136 Z05;refine gP (Er:=Er) (Iv:=fun(s152:(List Ii))(W153:Wd)(g154:St)=>g154=[some Z07,some Z1N,some<|.int Z0a,some<|.int Z0b,some Z1F,some<|.ref p3,some<|.str<|aT a7,some<|.int y38,some<|.int<|Z0u.1+y38,some<|.int y47,some<|.int s65,some<|.bl s133,d88,d89]/\Ext W0 W153/\Ow (qC K) W153 p3 s152) (mP zr) (Bm hq) ?_ ?_ ?_
     ·intro W137 N140 e138 hN141 hq;have hs142:=e138.g;have E0:=E0.trans e138;have hB28:=hB28.trans e138.g;have Z00:=Bk e138.g Z00;have Z06:=Bk e138.g Z06;have Z05:=Bk e138.g Z05;have o90:=o90.mono e138;refine iG (Er:=Er) o90 (eX (K:=K) bf bf)<|(Bm hq).imp fun y146 hq W143 mu144 o145=>?_;have E0:=mu144.e _ E0 fr6;have hB28:=hB28.trans mu144.g;have hs142:=hs142.trans mu144.g;have Z00:=Bk mu144.g Z00;have Z06:=Bk mu144.g Z06;have Z05:=Bk mu144.g Z05;exact hN141 y146 W143 _ hs142 ⟨rfl,E0,o145⟩ hq
     ·intro W137 N140 e138 hN141 hq;have hs147:=e138.g;have E0:=E0.trans e138;have hB28:=hB28.trans e138.g;have Z00:=Bk e138.g Z00;have Z06:=Bk e138.g Z06;have Z05:=Bk e138.g Z05;have o90:=o90.mono e138
      try dsimp only[aF]
      exact hN141 s8 W137 _ hs147 ⟨rfl,E0,o90⟩ hq
     ·intro s148 W149 sg150 hS151 iv hq;obtain⟨rfl,E0,o155⟩:=iv;have hB28:=hB28.trans hS151;have Z00:=Bk hS151 Z00;have Z06:=Bk hS151 Z06;have Z05:=Bk hS151 Z05
      try dsimp only
      refine bU (W:=W149) s148 hB28 ?_ hq;exact⟨_,_,_,_,_,_,_,_,rfl,E0,o155⟩
  ·intro s156 W157 sg158 hS159 iv hq;obtain⟨d13,d14,d15,d16,d17,d18,d19,d20,rfl,E0,o12⟩:=iv;exact⟨.ref p3,rfl,hq p3 W157 E0 fr6 o12⟩
theorem B2{f:Addr}{fd:BW}(F:Fun K "_law_reach" "_law_reach" (tp 47) f fd){lU:Cd->Pl->Int->Int->Ii->Res (List Ii)}(Z2C:Cal P w K mg base "_law_next" ["_law_card_here","_law_mark","_law_loose","_law_bound","_law_state"] (3) (fQ (qA K) (qB K) isI isI (qC K) (ro<|qC K) lU))(h_len:mg "len"=none)(h_list:mg "list"=none)(h_sorted:mg "sorted"=none):FnOk P w K mg base CX0 (4) f fd ["_law_card_here","_law_strip","_law_loose","_law_bound"] (j4 (qA K) (qD K) isI isI (ro<|qE K)<|A1 lU):=by
 have SC:FnScope ["_law_card_here","_law_strip","_law_loose","_law_bound","_law_out","_law_mark","_law_known","_law_state","_law_after"] ["_law_card_here","_law_strip","_law_loose","_law_bound"] (defScope<|tp 47):=by walk_at "F"
 refine F.ok SC (fun vs H Q E h=>?_)<|fun cdv A outer s H vs Q E hr h=>?_;·obtain⟨_,_,_,_,_,_,_,_,_,_,rfl,_⟩:=h;rfl
 ·obtain⟨W0,Z01,Z1d,Z0a,Z0b,Z07,Z0D,_,_,rfl,rfl,Z00,Z0i,Z23,Z24,Er,hq⟩:=h;cases Z23;cases Z24;refine⟨_,(af (cX 4<|bR<|a8 (bR<|a8 (cI<|a8 aa<|a8 aa ae) ae) ae)
   (af (bN BZ rfl (bJ (K:=K) rfl<|pv 1) (f6 5) (af (cX 6 u6)
   (af (bN BZ rfl (bJ (K:=K) rfl<|ax (aJ (K:=K) rfl) (pv 4) (kA iu aa)<|fun _ _=>rfl) (f6 7)<|ag<|bN BZ rfl (bJ (K:=K) rfl<|dq Z2C<|a8 (pv 0)<|a8 (pv 5)<|a8 (pv 2)<|a8 (pv 3)<|a8 (pv 7) ae) (f6 8)<|ag<|u7 (lD hr) (pv 6) (pv 8) cU rfl)
   (af (d5 (cS (K:=K) rfl (pv 4) (a8 (aq (oq (K:=K) rfl) (by rfl) h_sorted F8 (a8 (cC (oo rfl) (by rfl) h_list Df<|a8 (pv 6) ae) ae)) ae)))
   (ag (bo (ar bO (aq rd (by rfl) h_len C0 (a8 (pv 6) ae)) aa (ay _)) (ag (aD (pv 4))) aH))))))
   (ag (aD (pv 4))))),?_⟩
  have E0:Ext W0 W0:=.refl W0;unfold A1 at hq;refine dJ (Er:=Er) (eS<|aZ (DY<|eS<|aZ (eX (K:=K) ah ah)<|eR (R:=(qC K)))<|eR (R:=(qE K)))<|fun p3 W1 e2 hp4 o5=>?_;have fr6:=none_of E0.h hp4;have E0:=E0.trans e2;have Z00:=Bk e2.g Z00;have Z0i:=Bk e2.g Z0i;refine fo (Er:=Er) (f:=(yj lU Z01 Z0a Z0b)) (s0:=[[((0:Int),(0:Int))]]) (Iv:=fun(s9:(List<|List Ii))(W10:Wd)(g11:St)=>∃(d13:Option V)(d14:Option V)(d15:Option V)(d16:Option V),g11=[some Z07,some Z0D,some<|.int Z0a,some<|.int Z0b,some<|.ref p3,d16,d13,d14,d15]/\Ext W0 W10/\Ow (qE K) W10 p3 s9) (cb<|aU Z0i) (Bm hq) ?_ ?_ ?_
  ·intro W28 e29;have E0:=E0.trans e29;have Z00:=Bk e29.g Z00;have o5:=o5.mono e29;exact⟨_,_,_,_,rfl,E0,o5⟩
  ·intro Wb17 W18 W19 a7 v20 s8 sg21 P22 hW23 hB24 iv e25 h26 hrt27 hq;obtain⟨d13,d14,d15,d16,rfl,E0,o12⟩:=iv;have Z00:=Bk hW23 Z00;have E0:=E0.trans e25;have hB24:=hB24.trans e25.g;have Z00:=Bk e25.g Z00;have o12:=o12.mono e25;refine gn (σ':=[some Z07,some Z0D,some<|.int Z0a,some<|.int Z0b,some<|.ref p3,some v20,d13,d14,d15]) ?_;unfold yj at hq;refine rf (Er:=Er) (ub (prog:=P) (w:=w) (K:=K) (R:=isB))<|fun p34 W32 e33 hp35 o36=>?_;have ne37:=o12.ne hp35;have fr38:=none_of E0.h hp35;have E0:=E0.trans e33;have hB24:=hB24.trans e33.g;have Z00:=Bk e33.g Z00;have o12:=o12.mono e33;have h26:=Bk e33.g h26;refine cA (Er:=Er) (f:=(zA lU Z01 Z0a Z0b a7)) (s0:=([]:List (Ii×Bool))) (Iv:=fun(s41:(List<|Ii×Bool))(W42:Wd)(g43:St)=>∃(d45:Option V)(d46:Option V),g43=[some Z07,some Z0D,some<|.int Z0a,some<|.int Z0b,some<|.ref p3,some v20,some<|.ref p34,d46,d45]/\Ext W0 W42/\OwP P w K isB W42 p34 s41/\Ow (qE K) W42 p3 s8) (cb<|bP (gZ o12)<|jq ah) (Bm hq) ?_ ?_ ?_
   ·intro W59 e60;have E0:=E0.trans e60;have hB24:=hB24.trans e60.g;have Z00:=Bk e60.g Z00;have o12:=o12.mono e60;have h26:=Bk e60.g h26;have o36:=o36.mono e60;exact⟨_,_,rfl,E0,o36,o12⟩
   ·intro Wb48 W49 W50 a39 v51 s40 sg52 P53 hW54 hB55 iv e56 h57 hq;obtain⟨d45,d46,rfl,E0,o44,o47⟩:=iv;have hB24:=hB24.trans hW54;have Z00:=Bk hW54 Z00;have h26:=Bk hW54 h26;have E0:=E0.trans e56;have hB24:=hB24.trans e56.g;have hB55:=hB55.trans e56.g;have Z00:=Bk e56.g Z00;have o47:=o47.mono e56;have h26:=Bk e56.g h26;have o44:=o44.mono e56;refine gn (σ':=[some Z07,some Z0D,some<|.int Z0a,some<|.int Z0b,some<|.ref p3,some v20,some<|.ref p34,some v51,d45]) ?_;unfold zA at hq;refine lH (Er:=Er) (f:=yi) (s0:=s40) (Iv:=fun(s65:(List<|Ii×Bool))(W66:Wd)(g67:St)=>∃(d69:Option V),g67=[some Z07,some Z0D,some<|.int Z0a,some<|.int Z0b,some<|.ref p3,some v20,some<|.ref p34,some v51,d69]/\Ext W0 W66/\OwP P w K isB W66 p34 s65/\Ow (qE K) W66 p3 s8) (cb<|DY<|gk (aU Z00) (aU h26) bf bf<|aU h57) (Bm hq) ?_ ?_ ?_
    ·intro W82 e83;have E0:=E0.trans e83;have hB24:=hB24.trans e83.g;have hB55:=hB55.trans e83.g;have Z00:=Bk e83.g Z00;have o47:=o47.mono e83;have h26:=Bk e83.g h26;have o44:=o44.mono e83;have h57:=Bk e83.g h57;exact⟨_,rfl,E0,o44,o47⟩
    ·intro Wb71 W72 W73 a63 v74 s64 sg75 P76 hW77 hB78 iv e79 h80 hq;obtain⟨d69,rfl,E0,o68,o70⟩:=iv;have hB24:=hB24.trans hW77;have hB55:=hB55.trans hW77;have Z00:=Bk hW77 Z00;have h26:=Bk hW77 h26;have h57:=Bk hW77 h57;have E0:=E0.trans e79;have hB24:=hB24.trans e79.g;have hB55:=hB55.trans e79.g;have hB78:=hB78.trans e79.g;have Z00:=Bk e79.g Z00;have o70:=o70.mono e79;have h26:=Bk e79.g h26;have o68:=o68.mono e79;have h57:=Bk e79.g h57;refine gn (σ':=[some Z07,some Z0D,some<|.int Z0a,some<|.int Z0b,some<|.ref p3,some v20,some<|.ref p34,some v51,some v74]) ?_;unfold yi at hq;refine uc (Er:=Er) o68 eQ (aU h80)<|(Bm hq).imp fun y89 hq W86 mu87 o88=>?_;have E0:=mu87.e _ E0 fr38;have hB24:=hB24.trans mu87.g;have hB55:=hB55.trans mu87.g;have hB78:=hB78.trans mu87.g;have Z00:=Bk mu87.g Z00;have o70:=mu87.ow ne37 o70;have h26:=Bk mu87.g h26;have h57:=Bk mu87.g h57;have h80:=Bk mu87.g h80
     try dsimp only
     refine bU (W:=W86) y89 hB78 ?_ hq;exact⟨_,rfl,E0,o88,o70⟩
    ·intro s91 W92 sg93 hS94 iv hq;obtain⟨d69,rfl,E0,o68,o70⟩:=iv;have hB24:=hB24.trans hS94;have hB55:=hB55.trans hS94;have Z00:=Bk hS94 Z00;have h26:=Bk hS94 h26;have h57:=Bk hS94 h57
     try dsimp only
     refine bU (W:=W92) s91 hB55 ?_ hq;exact⟨_,_,rfl,E0,o68,o70⟩
   ·intro s96 W97 sg98 hS99 iv hq;obtain⟨d45,d46,rfl,E0,o44,o47⟩:=iv;have hB24:=hB24.trans hS99;have Z00:=Bk hS99 Z00;have h26:=Bk hS99 h26;refine mR (Er:=Er) o47 (DY<|ue<|G6<|ud o44)<|(Bm hq).imp fun y103 hq W100 mu101 o102=>?_;have E0:=mu101.e _ E0 fr6;have hB24:=hB24.trans mu101.g;have Z00:=Bk mu101.g Z00;have h26:=Bk mu101.g h26;have o44:=mu101.owP (DZ ne37) o44;refine ph (Er:=Er) (az<|cM (w6 o44) ah)<|fun W105 e106=>?_;have E0:=E0.trans e106;have hB24:=hB24.trans e106.g;have Z00:=Bk e106.g Z00;have h26:=Bk e106.g h26;have o44:=o44.mono e106;have o102:=o102.mono e106;by_cases hb106:(decide<|(s96.length:Int)=(0:Int))=true
    ·rw[if_pos hb106]at hq ⊢;exact⟨.ref p3,rfl,(hrt27 _ hq) p3 W105 E0 fr6 o102⟩
    ·rw[if_neg hb106]at hq ⊢
     try dsimp only[aF]
     try dsimp only
     refine bU (W:=W105) y103 hB24 ?_ hq;exact⟨_,_,_,_,rfl,E0,o102⟩
  ·intro s107 W108 sg109 hS110 iv hq;obtain⟨d13,d14,d15,d16,rfl,E0,o12⟩:=iv;exact⟨.ref p3,rfl,hq p3 W108 E0 fr6 o12⟩
theorem B3{f:Addr}{fd:BW}(F:Fun K "_law_bent" "_law_bent" (tp 48) f fd){ic:Int->Int->Int->Res (List Int)}(Z0t:Cal P w K mg base "_law_row" ["_law_cell","_law_many","_law_base"] (1) (fc isI isI isI (ro isI) ic))(h_len:mg "len"=none)(h_list:mg "list"=none)(h_max:mg "max"=none):FnOk P w K mg base CX0 (2) f fd ["_law_lists","_law_cell"] (bH (isL<|qE K) isI (yB<|oL<|oL<|fz<|qC K)<|A2 ic):=by
 have SC:FnScope ["_law_lists","_law_cell","_law_out","_law_draws","_law_at_here","_law_state"] ["_law_lists","_law_cell"] (defScope<|tp 48):=by walk_at "F"
 refine F.ok SC (fun vs H Q E h=>?_)<|fun cdv A outer s H vs Q E hr h=>?_;·obtain⟨_,_,_,_,_,_,rfl,_⟩:=h;rfl
 ·obtain⟨W0,Z3h,Z03,Z0X,_,rfl,rfl,Z4m,Z0B,Er,hq⟩:=h;cases Z0B
  refine⟨_,(af (gH (i:=2) SC.nd rfl (by walk_at "L") (N:=["_law_states"]) (cap:=[none]) (jl rfl (by decide +kernel) rfl (by decide +kernel) (by rfl) (by rfl)) rfl (bJ (K:=K) rfl<|pv 0) (fun _ _ _ _=>(bL (i:=0) (show Dl (["_law_states"]:List Str) by decide +kernel) rfl (by walk_at "L"))) (fun _ _ _ _=>du) (fun _ _ _ _=>(cC (dP (K:=K) rfl) (by rfl) h_list Df<|a8 (pv 0) ae)))
   (af (cX 3<|dq Z0t<|a8 (ai bz (pv 1) aa)<|a8 aa<|a8 aa ae)
   (af (cX 4 (ai aA (ax (aJ (K:=K) rfl) (pv 3) aa<|fun _ _=>rfl) (aq (kC rfl) (by rfl) h_max HF (a8 aa (a8 (aq (aQ (K:=K) rfl) (by rfl) h_len C0<|a8 (pv 2) ae) ae)))))
   (af (cX 5<|cI<|a8 (ai dE (ai aA (ax (aJ (K:=K) rfl) (pv 3) aa<|fun _ _=>rfl) aa) aa)<|a8 (ai dE (ai aA (ai bz (ax (aJ (K:=K) rfl) (pv 3) aa<|fun _ _=>rfl) aa) aa) aa) ae)
   (af (bo (ar bO (ai aA (ax (aJ (K:=K) rfl) (pv 3) aa<|fun _ _=>rfl) aa) aa<|ay _) (ag<|cX 5<|cI<|a8 (ax (aJ (K:=K) rfl) (bR<|a8 (ai lb aa aa)<|a8 (ai dE aa aa)<|a8 aa<|a8 aa<|a8 (ai dE aa<|ai lb aa aa) ae) (ai aA (ax (aJ (K:=K) rfl) (pv 3) aa<|fun _ _=>rfl) aa)<|fun _ _=>rfl)<|a8 (ax (aJ (K:=K) rfl) (bR<|a8 (ai dE aa aa)<|a8 aa<|a8 (ai lb aa aa)<|a8 aa ae) (ai aA (ai bz (ax (aJ (K:=K) rfl) (pv 3) aa<|fun _ _=>rfl) aa) aa)<|fun _ _=>rfl) ae) aH)
   (af (bo (FT (cQ (ar bO (ai aA (pv 1) aa) aa<|ay _) (cQ (ar gA (aq (aQ (K:=K) rfl) (by rfl) h_len C0<|a8 (pv 2) ae) aa<|ay _) (cO (ar gA (aq (aQ (K:=K) rfl) (by rfl) h_len C0<|a8 (ax (aJ (K:=K) rfl) (pv 2) (pv 4)<|fun _ _=>rfl) ae) aa<|ay _))))) (ag (d5 (gJ (K:=K) rfl DO G7 HG mE (ax (aJ (K:=K) rfl) (pv 2) (pv 4)<|fun _ _=>rfl) (a8 (ai aA (ax (aJ (K:=K) rfl) (pv 3) aa<|fun _ _=>rfl) (aq (aQ (K:=K) rfl) (by rfl) h_len C0<|a8 (ax (aJ (K:=K) rfl) (pv 2) (pv 4)<|fun _ _=>rfl) ae)) ae)))) aH)
   (af (bo (FT (cQ (ar bO (ai aA (pv 1) aa) aa<|ay _) (cO (ar gA (aq (aQ (K:=K) rfl) (by rfl) h_len C0<|a8 (pv 2) ae) aa<|ay _)))) (ag (d5 (gJ (K:=K) rfl DO Fv GU kU (ax (aJ (K:=K) rfl) (pv 2) (pv 4)<|fun _ _=>rfl) (a8 (ai aA (ax (aJ (K:=K) rfl) (pv 3) aa<|fun _ _=>rfl) (ai bh (aq (aQ (K:=K) rfl) (by rfl) h_len C0<|a8 (ax (aJ (K:=K) rfl) (pv 2) (pv 4)<|fun _ _=>rfl) ae) aa))<|a8 (pv 5) ae)))) aH)
   (af (bo (FT (cQ (ar bO (ai aA (pv 1) aa) aa<|ay _) (cO (ar gA (aq (aQ (K:=K) rfl) (by rfl) h_len C0<|a8 (pv 2) ae) aa<|ay _)))) (ag<|d5<|gJ (K:=K) rfl DO G7 HG mE (pv 2)<|a8 (pv 4) ae) aH)
   (af (bo (ar bO (ai aA (pv 1) aa) aa<|ay _) (ag (d5 (gJ (K:=K) rfl DO Fv GU kU (pv 2) (a8 (ai aA (ax (aJ (K:=K) rfl) (pv 3) aa<|fun _ _=>rfl) (ai bh (aq (aQ (K:=K) rfl) (by rfl) h_len C0<|a8 (pv 2) ae) aa))<|a8 (bR ae) ae)))) aH)
   (af (bo (ar bO (ai aA (pv 1) aa) aa<|ay _) (ag (gH (i:=2) SC.nd rfl (by walk_at "L") (N:=["_law_states"]) (cap:=[none]) (jl rfl (by decide +kernel) rfl (by decide +kernel) (by rfl) (by rfl)) rfl (bJ (K:=K) rfl<|pv 2) (fun _ _ _ _=>(bL (i:=0) (show Dl (["_law_states"]:List Str) by decide +kernel) rfl (by walk_at "L"))) (fun _ _ _ _=>du)<|fun _ _ _ _=>(ai rX (mN (K:=K) rfl (fun a b=>[.ref a,.ref b]) (fun _ _=>rfl) (pv 0)<|gT<|kA iu aa)<|gU (mM (K:=K) rfl) (pv 0) j6<|gT aa))) aH)
   (af (bo (FT (cQ (ar bO (ai aA (pv 1) aa) aa<|ay _) (cQ (ar gA (aq (aQ (K:=K) rfl) (by rfl) h_len C0<|a8 (pv 2) ae) aa<|ay _) (cO (ar gA (aq (aQ (K:=K) rfl) (by rfl) h_len C0<|a8 (ax (aJ (K:=K) rfl) (pv 2) (pv 4)<|fun _ _=>rfl) ae) aa<|ay _))))) (ag (fu (pv 5) (nO (ax (aJ (K:=K) rfl) (pv 2) (pv 4)<|fun _ _=>rfl) (ai aA (ax (aJ (K:=K) rfl) (pv 3) aa<|fun _ _=>rfl) (aq (aQ (K:=K) rfl) (by rfl) h_len C0<|a8 (ax (aJ (K:=K) rfl) (pv 2) (pv 4)<|fun _ _=>rfl) ae)) jf))) aH)
   (ag (aD (pv 2)))))))))))))),?_⟩
  have E0:Ext W0 W0:=.refl W0;rw[show L2.start ["_law_lists","_law_cell","_law_out","_law_draws","_law_at_here","_law_state"] [Z0X,.int Z03]=[some Z0X,some<|.int Z03,none,none,none,none]from rfl];unfold A2 at hq;have S:Sep W0 W0 []:=Lj;refine kQ (Er:=Er) S E0 (mZ (cb<|aU Z4m) fun W3 a1 v2 e4 h5 Q8 k9=>by
   refine gn ?_;exact⟨by simp[Keep,bF],((Lu (hX (DK (aU h5)))):EVt Er _ [some v2] _ _ _) _ (.refl _) _ k9⟩) ((Bm hq).imp fun y10 hq v11 W12 e13 S=>?_)
  have E0:=E0.trans e13;have S:Sep W0 W12 [tc (oL<|oL<|fz<|qC K) y10 v11]:=S;refine aw (Er:=Er) (DY (fj (ao (fun _=>⟨by decide,by decide⟩) bf) ah ah))<|(Bm hq).imp fun y16 hq v17 W14 e15 h18=>?_;have S:=S.ext e15;have E0:=E0.trans e15;refine aw (Er:=Er) (fC (bP (DK<|aU h18) ah)<|pq ah<|gw<|d9 (R:=(oL<|oL<|fz<|qC K)) (k:=0) S)<|(Bm hq).imp fun y22 hq v23 W19 e20 h24=>?_;cases h24;have S:=S.ext e20;have E0:=E0.trans e20;have h18:=Bk e20.g h18;refine aw (Er:=Er) (eX (K:=K) (aM (ao (fun _=>by decide)<|bP (DK<|aU h18) ah) ah) (aM (ao (fun _=>by decide) (ao (fun _=>⟨by decide,by decide⟩)<|bP (DK<|aU h18) ah)) ah))<|(Bm hq).imp fun y34 hq v35 W25 e26 h36=>?_;have S:=S.ext e26;have E0:=E0.trans e26;have h18:=Bk e26.g h18;refine bK (Er:=Er) (Iv:=fun(s63:Ii)(W64:Wd)(g65:St)=>∃(v66:V),g65=[some Z0X,some<|.int Z03,some v11,some v17,some<|.int y22,some v66]/\Ext W0 W64/\(qC K) W64.G s63 v66/\Sep W0 W64 [tc (oL<|oL<|fz<|qC K) y10 v11]) (az (cM (ao (fun _=>by decide)<|bP (DK<|aU h18) ah) ah)) (Bm hq) ?_ ?_ ?_
  ·intro W40 N43 e41 hN44 hq;have hs45:=e41.g;have S:=S.ext e41;have E0:=E0.trans e41;have h18:=Bk e41.g h18;have h36:=Bk e41.g h36;refine cW (Er:=Er) (eX (K:=K) (bP (G6 (eS (aZ (j7 (r:=100000000000000000000) (by decide) (by decide)) (aZ (aM ah ah) (aZ ah (aZ ah (aZ (aM ah (j7 (r:=100000000000000000000) (by decide) (by decide)))<|eR (R:=isI)))))))) (ao (fun _=>by decide)<|bP (DK<|aU h18) ah)) (bP (G6 (eS (aZ (aM ah ah) (aZ ah (aZ (j7 (r:=100000000000000000000) (by decide) (by decide))<|aZ ah<|eR (R:=isI)))))) (ao (fun _=>by decide) (ao (fun _=>⟨by decide,by decide⟩)<|bP (DK<|aU h18) ah))))<|(Bm hq).imp fun y55 hq v56 W46 e47 h57=>?_;have S:=S.ext e47;have E0:=E0.trans e47;have hs45:=hs45.trans e47.g;have h18:=Bk e47.g h18;exact hN44 y55 W46 _ hs45 ⟨_,rfl,E0,h57,S⟩ hq
  ·intro W40 N43 e41 hN44 hq;have hs58:=e41.g;have S:=S.ext e41;have E0:=E0.trans e41;have h18:=Bk e41.g h18;have h36:=Bk e41.g h36
   try dsimp only[aF]
   exact hN44 y34 W40 _ hs58 ⟨_,rfl,E0,h36,S⟩ hq
  ·intro s59 W60 sg61 hS62 iv hq;obtain⟨v66,rfl,E0,h67,S⟩:=iv;have h18:=Bk hS62 h18;refine bK (Er:=Er) (Iv:=fun(s90:(List<|List Ii))(W91:Wd)(g92:St)=>g92=[some Z0X,some<|.int Z03,some v11,some v17,some<|.int y22,some v66]/\Ext W0 W91/\Sep W0 W91 [tc (oL<|oL<|fz<|qC K) s90 v11]) (dg (az (cM (ao (fun _=>by decide) bf) ah))<|dg (az<|cg (gw<|d9 (R:=(oL<|oL<|fz<|qC K)) (k:=0) S) ah)<|az<|cg (d6<|gv<|gu (d9 (R:=(oL<|oL<|fz<|qC K)) (k:=0) S) bf) ah) (Bm hq) ?_ ?_ ?_
   ·intro W71 N74 e72 hN75 hq;have hs76:=e72.g;have S:=S.ext e72;have E0:=E0.trans e72;have h18:=Bk e72.g h18;have h67:=Bk e72.g h67;refine kW (Er:=Er) (K:=K) E0 (sZ (jC (R:=(oL<|oL<|fz<|qC K)) (C:=fun bb=>[tc (oL<|oL<|fz<|qC K) bb v11]) (k:=0) S E0) bf) (fC (bP (DK<|aU h18) ah)<|d6<|gv<|gu (d9 (R:=(oL<|oL<|fz<|qC K)) (k:=0) S) bf)<|(Bm hq).imp fun y82 hq W83 hS84 E0 S=>?_;have S:Sep W0 W83 [tc (oL<|oL<|fz<|qC K) y82 v11]:=S;have hs76:=hs76.trans hS84;have h18:=Bk hS84 h18;have h67:=Bk hS84 h67;exact hN75 y82 W83 _ hs76 ⟨rfl,E0,S⟩ hq
   ·intro W71 N74 e72 hN75 hq;have hs85:=e72.g;have S:=S.ext e72;have E0:=E0.trans e72;have h18:=Bk e72.g h18;have h67:=Bk e72.g h67
    try dsimp only[aF]
    exact hN75 y10 W71 _ hs85 ⟨rfl,E0,S⟩ hq
   ·intro s86 W87 sg88 hS89 iv hq;obtain⟨rfl,E0,S⟩:=iv;have h18:=Bk hS89 h18;have h67:=Bk hS89 h67;refine bK (Er:=Er) (Iv:=fun(s114:(List<|List Ii))(W115:Wd)(g116:St)=>g116=[some Z0X,some<|.int Z03,some v11,some v17,some<|.int y22,some v66]/\Ext W0 W115/\Sep W0 W115 [tc (oL<|oL<|fz<|qC K) s114 v11]) (dg (az (cM (ao (fun _=>by decide) bf) ah))<|az<|cg (gw<|d9 (R:=(oL<|oL<|fz<|qC K)) (k:=0) S) ah) (Bm hq) ?_ ?_ ?_
    ·intro W94 N97 e95 hN98 hq;have hs99:=e95.g;have S:=S.ext e95;have E0:=E0.trans e95;have h18:=Bk e95.g h18;have h67:=Bk e95.g h67;refine pU (Er:=Er) (K:=K) E0 (sZ (jC (R:=(oL<|oL<|fz<|qC K)) (C:=fun bb=>[tc (oL<|oL<|fz<|qC K) bb v11]) (k:=0) S E0) bf) (fC (bP (DK<|aU h18) ah)<|aM (d6<|gv<|gu (d9 (R:=(oL<|oL<|fz<|qC K)) (k:=0) S) bf) ah) (EV.tr<|aU h67)<|(Bm hq).imp fun y106 hq W107 hS108 E0 S=>?_;have S:Sep W0 W107 [tc (oL<|oL<|fz<|qC K) y106 v11]:=S;have hs99:=hs99.trans hS108;have h18:=Bk hS108 h18;have h67:=Bk hS108 h67;exact hN98 y106 W107 _ hs99 ⟨rfl,E0,S⟩ hq
    ·intro W94 N97 e95 hN98 hq;have hs109:=e95.g;have S:=S.ext e95;have E0:=E0.trans e95;have h18:=Bk e95.g h18;have h67:=Bk e95.g h67
     try dsimp only[aF]
     exact hN98 s86 W94 _ hs109 ⟨rfl,E0,S⟩ hq
    ·intro s110 W111 sg112 hS113 iv hq;obtain⟨rfl,E0,S⟩:=iv;have h18:=Bk hS113 h18;have h67:=Bk hS113 h67;refine bK (Er:=Er) (Iv:=fun(s132:(List<|List Ii))(W133:Wd)(g134:St)=>g134=[some Z0X,some<|.int Z03,some v11,some v17,some<|.int y22,some v66]/\Ext W0 W133/\Sep W0 W133 [tc (oL<|oL<|fz<|qC K) s132 v11]) (dg (az (cM (ao (fun _=>by decide) bf) ah))<|az<|cg (gw<|d9 (R:=(oL<|oL<|fz<|qC K)) (k:=0) S) ah) (Bm hq) ?_ ?_ ?_
     ·intro W118 N121 e119 hN122 hq;have hs123:=e119.g;have S:=S.ext e119;have E0:=E0.trans e119;have h18:=Bk e119.g h18;have h67:=Bk e119.g h67;refine kW (Er:=Er) (K:=K) E0 (jC (R:=(oL<|oL<|fz<|qC K)) (C:=fun bb=>[tc (oL<|oL<|fz<|qC K) bb v11]) (k:=0) S E0) bf<|(Bm hq).imp fun y124 hq W125 hS126 E0 S=>?_;have S:Sep W0 W125 [tc (oL<|oL<|fz<|qC K) y124 v11]:=S;have hs123:=hs123.trans hS126;have h18:=Bk hS126 h18;have h67:=Bk hS126 h67;exact hN122 y124 W125 _ hs123 ⟨rfl,E0,S⟩ hq
     ·intro W118 N121 e119 hN122 hq;have hs127:=e119.g;have S:=S.ext e119;have E0:=E0.trans e119;have h18:=Bk e119.g h18;have h67:=Bk e119.g h67
      try dsimp only[aF]
      exact hN122 s110 W118 _ hs127 ⟨rfl,E0,S⟩ hq
     ·intro s128 W129 sg130 hS131 iv hq;obtain⟨rfl,E0,S⟩:=iv;have h18:=Bk hS131 h18;have h67:=Bk hS131 h67;refine bK (Er:=Er) (Iv:=fun(s151:(List<|List Ii))(W152:Wd)(g153:St)=>g153=[some Z0X,some<|.int Z03,some v11,some v17,some<|.int y22,some v66]/\Ext W0 W152/\Sep W0 W152 [tc (oL<|oL<|fz<|qC K) s151 v11]) (az (cM (ao (fun _=>by decide) bf) ah)) (Bm hq) ?_ ?_ ?_
      ·intro W135 N138 e136 hN139 hq;have hs140:=e136.g;have S:=S.ext e136;have E0:=E0.trans e136;have h18:=Bk e136.g h18;have h67:=Bk e136.g h67;refine pU (Er:=Er) (K:=K) E0 (jC (R:=(oL<|oL<|fz<|qC K)) (C:=fun bb=>[tc (oL<|oL<|fz<|qC K) bb v11]) (k:=0) S E0) (fC (bP (DK<|aU h18) ah)<|aM (gw<|d9 (R:=(oL<|oL<|fz<|qC K)) (k:=0) S) ah) (mX (R:=(fz<|qC K)))<|(Bm hq).imp fun y143 hq W144 hS145 E0 S=>?_;have S:Sep W0 W144 [tc (oL<|oL<|fz<|qC K) y143 v11]:=S;have hs140:=hs140.trans hS145;have h18:=Bk hS145 h18;have h67:=Bk hS145 h67;exact hN139 y143 W144 _ hs140 ⟨rfl,E0,S⟩ hq
      ·intro W135 N138 e136 hN139 hq;have hs146:=e136.g;have S:=S.ext e136;have E0:=E0.trans e136;have h18:=Bk e136.g h18;have h67:=Bk e136.g h67
       try dsimp only[aF]
       exact hN139 s128 W135 _ hs146 ⟨rfl,E0,S⟩ hq
      ·intro s147 W148 sg149 hS150 iv hq;obtain⟨rfl,E0,S⟩:=iv;have h18:=Bk hS150 h18;have h67:=Bk hS150 h67;refine bK (Er:=Er) (Iv:=fun(s182:(List<|List Ii))(W183:Wd)(g184:St)=>∃(v185:V),g184=[some Z0X,some<|.int Z03,some v185,some v17,some<|.int y22,some v66]/\Ext W0 W183/\Sep W0 W183 [tc (oL<|oL<|fz<|qC K) s182 v185]) (az (cM (ao (fun _=>by decide) bf) ah)) (Bm hq) ?_ ?_ ?_
       ·intro W154 N157 e155 hN158 hq;have hs159:=e155.g;have S:=S.ext e155;have E0:=E0.trans e155;have h18:=Bk e155.g h18;have h67:=Bk e155.g h67;obtain⟨W160,hH161,E0,hS162,S,h163⟩:=S.frz (R:=(oL<|oL<|fz<|qC K)) (i:=0) E0 rfl;have S:Sep W0 W160 []:=S;rw[<-hH161];have hs159:=hs159.trans hS162;have h18:=Bk hS162 h18;have h67:=Bk hS162 h67;have S:Sep W0 W160 []:=Lj;refine pD (Er:=Er) S E0 (mZ (cb<|aU h163) fun W166 a164 v165 e167 h168 Q171 k172=>by
         refine gn ?_;exact⟨by simp[Keep,bF],((Lu (p9 (G6 (vJ (DK (aU h168)))) (G6 (pf (DK (aU h168)) p5 (p6 ah))))):EVt Er _ [some v165] _ _ _) _ (.refl _) _ k172⟩) ((Bm hq).imp fun y173 hq v174 W175 e176 S=>?_)
        have E0:=E0.trans e176;have hs159:=hs159.trans e176.g;have h18:=Bk e176.g h18;have h67:=Bk e176.g h67;have S:Sep W0 W175 [tc (oL<|oL<|fz<|qC K) y173 v174]:=S;exact hN158 y173 W175 _ hs159 ⟨_,rfl,E0,S⟩ hq
       ·intro W154 N157 e155 hN158 hq;have hs177:=e155.g;have S:=S.ext e155;have E0:=E0.trans e155;have h18:=Bk e155.g h18;have h67:=Bk e155.g h67
        try dsimp only[aF]
        exact hN158 s147 W154 _ hs177 ⟨_,rfl,E0,S⟩ hq
       ·intro s178 W179 sg180 hS181 iv hq;obtain⟨v185,rfl,E0,S⟩:=iv;have h18:=Bk hS181 h18;have h67:=Bk hS181 h67;refine bK (Er:=Er) (Iv:=fun(s208:(List<|List Ii))(W209:Wd)(g210:St)=>g210=[some Z0X,some<|.int Z03,some v185,some v17,some<|.int y22,some v66]/\Ext W0 W209/\Sep W0 W209 [tc (oL<|oL<|fz<|qC K) s208 v185]) (dg (az (cM (ao (fun _=>by decide) bf) ah))<|dg (az<|cg (gw<|d9 (R:=(oL<|oL<|fz<|qC K)) (k:=0) S) ah)<|az<|cg (d6<|gv<|gu (d9 (R:=(oL<|oL<|fz<|qC K)) (k:=0) S) bf) ah) (Bm hq) ?_ ?_ ?_
        ·intro W189 N192 e190 hN193 hq;have hs194:=e190.g;have S:=S.ext e190;have E0:=E0.trans e190;have h18:=Bk e190.g h18;have h67:=Bk e190.g h67;refine vK (Er:=Er) E0 (aU h67) (sZ (jC (R:=(oL<|oL<|fz<|qC K)) (C:=fun bb=>[tc (oL<|oL<|fz<|qC K) bb v185]) (k:=0) S E0) bf) (fC (bP (DK<|aU h18) ah)<|d6<|gv<|gu (d9 (R:=(oL<|oL<|fz<|qC K)) (k:=0) S) bf)<|(Bm hq).imp fun y200 hq W201 hS202 E0 S=>?_;have S:Sep W0 W201 [tc (oL<|oL<|fz<|qC K) y200 v185]:=S;have hs194:=hs194.trans hS202;exact hN193 y200 W201 _ hs194 ⟨rfl,E0,S⟩ hq
        ·intro W189 N192 e190 hN193 hq;have hs203:=e190.g;have S:=S.ext e190;have E0:=E0.trans e190;have h18:=Bk e190.g h18;have h67:=Bk e190.g h67
         try dsimp only[aF]
         exact hN193 s178 W189 _ hs203 ⟨rfl,E0,S⟩ hq
        ·intro s204 W205 sg206 hS207 iv hq;obtain⟨rfl,E0,S⟩:=iv;exact lN (k:=0) S rfl fun F211 hF212 t213=>hq v185 W205 F211 E0 hF212 t213
theorem B4{f:Addr}{fd:BW}(F:Fun K "_law_all" "_law_all" (tp 45) f fd)(h_range:mg "range"=none):FnOk P w K mg base CX0 (1) f fd ["_law_many"] (dB isI (rs<|isL isS)<|A3):=by
 have SC:FnScope ["_law_many","_law_out","_law_k","_law_longer","_law_text"] ["_law_many"] (defScope<|tp 45):=by walk_at "F"
 refine F.ok SC (fun vs H Q E h=>?_)<|fun cdv A outer s H vs Q E hr h=>?_;·obtain⟨_,_,_,_,rfl,_⟩:=h;rfl
 ·obtain⟨W0,Z0j,_,rfl,rfl,Z1D,Er,hq⟩:=h;cases Z1D;refine⟨_,(af (cX 1<|bR<|a8 aY ae)
   (af (bN BZ rfl (ff rfl h_range<|a8 (pv 0) ae) (f6 2) (af (cX 3<|bR ae)
   (af (bN BZ rfl (bJ (K:=K) rfl<|pv 1) (f6 4)<|ag<|cX 3<|ai rX (pv 3)<|bR<|a8 (ai cv (pv 4) aY)<|a8 (ai cv (pv 4) aY)<|a8 (ai cv (pv 4) aY) ae)
   (ag (cX 1 (pv 3))))))
   (ag (aD (pv 1))))),?_⟩
  have E0:Ext W0 W0:=.refl W0;unfold A3 at hq;refine aw (Er:=Er) (DY (eS (aZ (bc (x:=Bv "") (l:=[]) (fB _ _ (by decide +kernel)))<|eR (R:=isS))))<|fun v3 W1 e2 h4=>?_;have E0:=E0.trans e2;refine cA (Er:=Er) (f:=yJ) (s0:=[([]:Tx)]) (Iv:=fun(s7:(List Tx))(W8:Wd)(g9:St)=>∃(v10:V)(d12:Option V)(d13:Option V)(d14:Option V),g9=[some (.int Z0j),some v10,d14,d12,d13]/\Ext W0 W8/\(isL isS) W8.G s7 v10) (fX bf) (Bm hq) ?_ ?_ ?_
  ·intro W26 e27;have E0:=E0.trans e27;have h4:=Bk e27.g h4;exact⟨_,_,_,_,rfl,E0,h4⟩
  ·intro Wb15 W16 W17 a5 v18 s6 sg19 P20 hW21 hB22 iv e23 h24 hq;obtain⟨v10,d12,d13,d14,rfl,E0,h11⟩:=iv;have E0:=E0.trans e23;have hB22:=hB22.trans e23.g;have h11:=Bk e23.g h11;cases h24;refine gn (σ':=[some (.int Z0j),some v10,some<|.int a5,d12,d13]) ?_;unfold yJ at hq;refine aw (Er:=Er) (DY<|gj (R:=isS))<|fun v32 W30 e31 h33=>?_;have E0:=E0.trans e31;have hB22:=hB22.trans e31.g;have h11:=Bk e31.g h11;refine cA (Er:=Er) (f:=yI) (s0:=([]:List Tx)) (Iv:=fun(s36:(List Tx))(W37:Wd)(g38:St)=>∃(v39:V)(d41:Option V),g38=[some (.int Z0j),some v10,some<|.int a5,some v39,d41]/\Ext W0 W37/\(isL isS) W37.G s36 v39) (cb<|aU h11) (Bm hq) ?_ ?_ ?_
   ·intro W53 e54;have E0:=E0.trans e54;have hB22:=hB22.trans e54.g;have h11:=Bk e54.g h11;have h33:=Bk e54.g h33;exact⟨_,_,rfl,E0,h33⟩
   ·intro Wb42 W43 W44 a34 v45 s35 sg46 P47 hW48 hB49 iv e50 h51 hq;obtain⟨v39,d41,rfl,E0,h40⟩:=iv;have hB22:=hB22.trans hW48;have h11:=Bk hW48 h11;have E0:=E0.trans e50;have hB22:=hB22.trans e50.g;have hB49:=hB49.trans e50.g;have h11:=Bk e50.g h11;have h40:=Bk e50.g h40;cases h51;refine gn (σ':=[some (.int Z0j),some v10,some<|.int a5,some v39,some<|.str<|aT a34]) ?_;unfold yI at hq;refine cW (Er:=Er) (DY (p9 (DK<|aU h40) (G6 (eS (aZ (eF cV (bc (x:=Bv "f") (l:=[102]) (fB _ _ (by decide +kernel)))) (aZ (eF cV (bc (x:=Bv "b") (l:=[98]) (fB _ _ (by decide +kernel)))) (aZ (eF cV (bc (x:=Bv "i") (l:=[105]) (fB _ _ (by decide +kernel))))<|eR (R:=isS))))))))<|(Bm hq).imp fun y65 hq v66 W57 e58 h67=>?_;have E0:=E0.trans e58;have hB22:=hB22.trans e58.g;have hB49:=hB49.trans e58.g;have h11:=Bk e58.g h11
    try dsimp only
    refine bU (W:=W57) y65 hB49 ?_ hq;exact⟨_,_,rfl,E0,h67⟩
   ·intro s68 W69 sg70 hS71 iv hq;obtain⟨v39,d41,rfl,E0,h40⟩:=iv;have hB22:=hB22.trans hS71;have h11:=Bk hS71 h11;refine cW (Er:=Er) (aU h40)<|fun v74 W72 e73 h75=>?_;have E0:=E0.trans e73;have hB22:=hB22.trans e73.g;have h40:=Bk e73.g h40
    try dsimp only
    refine bU (W:=W72) s68 hB22 ?_ hq;exact⟨_,_,_,_,rfl,E0,h75⟩
  ·intro s77 W78 sg79 hS80 iv hq;obtain⟨v10,d12,d13,d14,rfl,E0,h11⟩:=iv;exact aX (Er:=Er) (aU h11)<|fun v81 W82 e83 h84=>hq v81 W82 (E0.trans e83) h84
theorem B5{f:Addr}{fd:BW}(F:Fun K "_law_does" "_law_does" (tp 44) f fd){oB:Cd->Tx->Res (List Pl)}{fL:Cd->Tx->Res Int}(Z0R:Cal P w K mg base "_law_places" ["_law_card_here","_law_turns_here"] (3) (bH (qA K) isS (ro<|qB K) oB))(Z0z:Cal P w K mg base "_law_twist" ["_law_card_here","_law_turn"] (2) (bH (qA K) isS (rs isI) fL))(h_abs:mg "abs"=none)(h_int:mg "int"=none)(h_len:mg "len"=none)(h_zip:mg "zip"=none):FnOk P w K mg base CX0 (4) f fd ["_law_card_here","_law_strip","_law_loose","_law_bound","_law_text"] (fQ (qA K) (qD K) isI isI isS (rs isB)<|A5 oB fL):=by
 have SC:FnScope ["_law_card_here","_law_strip","_law_loose","_law_bound","_law_text","_law_turn","_law_now","_law_idle","_law_place","_law_mark","_law_sign","_law_left"] ["_law_card_here","_law_strip","_law_loose","_law_bound","_law_text"] (defScope<|tp 44):=by walk_at "F"
 refine F.ok SC (fun vs H Q E h=>?_)<|fun cdv A outer s H vs Q E hr h=>?_;·obtain⟨_,_,_,_,_,_,_,_,_,_,_,_,rfl,_⟩:=h;rfl
 ·obtain⟨W0,Z01,Z1d,Z0a,Z0b,Z1n,Z07,Z0D,_,_,_,rfl,rfl,Z00,Z0i,Z23,Z24,Z4y,Er,hq⟩:=h;cases Z23;cases Z24;cases Z4y
  refine⟨_,(af (bo (ar gR (aq (aQ (K:=K) rfl) (by rfl) h_len C0<|a8 (pv 4) ae) (aq (aQ (K:=K) rfl) (by rfl) h_len C0<|a8 (pv 1) ae)<|ay _) (ag<|aD cU) aH)
   (af (bN BZ rfl (iz<|pv 4) (f6 5)<|ag<|bo (FT<|cQ (ar gR (pv 5) aY<|ay _)<|cQ (ar gR (pv 5) aY<|ay _)<|cO<|ar gR (pv 5) aY<|ay _) (ag<|aD cU) aH)
   (af (cX 6 aa)
   (af (cX 7 aa)
   (af (bN BZ rfl (vz (K:=K) rfl rfl h_zip<|a8 (pv 4)<|a8 (dq Z0R<|a8 (pv 0)<|a8 (pv 4) ae)<|a8 (pv 1) ae) (bZ (K:=K) (n:=3) rfl rfl<|aE (f6 5)<|aE (f6 8)<|aE (f6 9) bX) (af (cX 6<|ai bh (pv 6)<|dq Z0z<|a8 (pv 0)<|a8 (pv 5) ae)
   (af (cX 7 (ai eB (ai bh (pv 7) aa) (cC iw (by rfl) h_int E1<|a8 (cP bO (pv 5) aY<|ay _) ae)))
   (af (bo (FT (mw (ar gA (aq gS (by rfl) h_abs EB<|a8 (pv 6) ae) (pv 3)<|ay _)<|l9<|ar gA (pv 7) (pv 2)<|ay _)) (ag<|aD cU) aH)
   (ag (bN BZ rfl (gi (K:=K) rfl rfl h_zip (a8 (pv 8) (a8 (pv 9) ae))) (bZ (K:=K) (n:=2) rfl rfl (aE (f6 10) (aE (f6 11) bX))) (ag (bo (FT (cQ (ar gR (pv 11) aY (ay _)) (cO (ar gR (pv 11) (pv 10) (ay _))))) (ag (aD cU)) aH))))))))
   (ag (aD cU))))))),?_⟩
  have E0:Ext W0 W0:=.refl W0;unfold A5 at hq;refine eH (Er:=Er) (az<|xH (vC cV)<|d6<|DK<|aU Z0i)<|(Bm hq).imp fun y2 hq W3 e4=>?_;have E0:=E0.trans e4;have Z00:=Bk e4.g Z00;have Z0i:=Bk e4.g Z0i;by_cases hb150:y2=true
  ·rw[if_pos hb150]at hq ⊢;exact aX (Er:=Er) eQ<|fun v5 W6 e7 h8=>hq v5 W6 (E0.trans e7) h8
  ·rw[if_neg hb150]at hq ⊢
   try dsimp only[aF]
   refine fo (Er:=Er) (f:=A4) (s0:=()) (Iv:=fun(s11:Unit)(W12:Wd)(g13:St)=>∃(d14:Option V),g13=[some Z07,some Z0D,some<|.int Z0a,some<|.int Z0b,some<|.str<|aT Z1n,d14,none,none,none,none,none,none]/\Ext W0 W12) (iE cV) (Bm hq) ?_ ?_ ?_
   ·intro W26 e27;have E0:=E0.trans e27;have Z00:=Bk e27.g Z00;have Z0i:=Bk e27.g Z0i;exact⟨_,rfl,E0⟩
   ·intro Wb15 W16 W17 a9 v18 s10 sg19 P20 hW21 hB22 iv e23 h24 hrt25 hq;obtain⟨d14,rfl,E0⟩:=iv;have Z00:=Bk hW21 Z00;have Z0i:=Bk hW21 Z0i;have E0:=E0.trans e23;have hB22:=hB22.trans e23.g;have Z00:=Bk e23.g Z00;have Z0i:=Bk e23.g Z0i;cases h24;refine gn (σ':=[some Z07,some Z0D,some<|.int Z0a,some<|.int Z0b,some<|.str<|aT Z1n,some<|.str<|aT a9,none,none,none,none,none,none]) ?_;unfold A4 at hq;refine ph (Er:=Er) (dg (az (gO cV (bc (x:=Bv "f") (l:=[102]) (fB _ _ (by decide +kernel))))) (dg (az (gO cV (bc (x:=Bv "b") (l:=[98]) (fB _ _ (by decide +kernel))))) (az (gO cV (bc (x:=Bv "i") (l:=[105]) (fB _ _ (by decide +kernel)))))))<|(Bm hq).imp fun y30 hq W31 e32=>?_;have E0:=E0.trans e32;have hB22:=hB22.trans e32.g;have Z00:=Bk e32.g Z00;have Z0i:=Bk e32.g Z0i;by_cases hb36:y30=true
    ·rw[if_pos hb36]at hq ⊢;exact aX (Er:=Er) eQ<|fun v33 W34 e35 h36=>(hrt25 _ hq) v33 W34 (E0.trans e35) h36
    ·rw[if_neg hb36]at hq ⊢
     try dsimp only[aF]
     try dsimp only
     refine bU (W:=W31) () hB22 ?_ hq;exact⟨_,rfl,E0⟩
   ·intro s37 W38 sg39 hS40 iv hq;obtain⟨d14,rfl,E0⟩:=iv;have Z00:=Bk hS40 Z00;have Z0i:=Bk hS40 Z0i;refine aw (Er:=Er) ah<|fun v43 W41 e42 h44=>?_;cases h44;have E0:=E0.trans e42;have Z00:=Bk e42.g Z00;have Z0i:=Bk e42.g Z0i;refine aw (Er:=Er) ah<|fun v47 W45 e46 h48=>?_;cases h48;have E0:=E0.trans e46;have Z00:=Bk e46.g Z00;have Z0i:=Bk e46.g Z0i;refine fo (Er:=Er) (f:=(yK fL Z01 Z0a Z0b)) (s0:=((0:Int),(0:Int))) (Iv:=fun(s52:Ii)(W53:Wd)(g54:St)=>∃(d55:Option V)(d56:Option V)(d57:Option V)(d58:Option V)(d59:Option V),g54=[some Z07,some Z0D,some<|.int Z0a,some<|.int Z0b,some<|.str<|aT Z1n,d57,some<|.int s52.1,some<|.int s52.2,d58,d59,d55,d56]/\Ext W0 W53) (vE (xM cV) (iF<|DY<|iD (aU Z00) cV)<|iF<|aU Z0i) (Bm hq) ?_ ?_ ?_
    ·intro W71 e72;have E0:=E0.trans e72;have Z00:=Bk e72.g Z00;exact⟨_,_,_,_,_,rfl,E0⟩
    ·intro Wb60 W61 W62 a50 v63 s51 sg64 P65 hW66 hB67 iv e68 h69 hrt70 hq;obtain⟨d55,d56,d57,d58,d59,rfl,E0⟩:=iv;have Z00:=Bk hW66 Z00;have E0:=E0.trans e68;have hB67:=hB67.trans e68.g;have Z00:=Bk e68.g Z00;refine sN h69 fun v79 v81 v83 h80 h82 h84=>?_;cases h80;unfold yK at hq;refine aw (Er:=Er) (aM bf<|ba (aU Z00) cV)<|(Bm hq).imp fun y88 hq v89 W85 e86 h90=>?_;cases h90;have E0:=E0.trans e86;have hB67:=hB67.trans e86.g;have Z00:=Bk e86.g Z00;have h82:=Bk e86.g h82;have h84:=Bk e86.g h84;refine aw (Er:=Er) (gN (aM bf ah) (lJ (fD cV (bc (x:=Bv "i") (l:=[105]) (fB _ _ (by decide +kernel))))))<|(Bm hq).imp fun y93 hq v94 W91 e92 h95=>?_;cases h95;have E0:=E0.trans e92;have hB67:=hB67.trans e92.g;have Z00:=Bk e92.g Z00;have h82:=Bk e92.g h82;have h84:=Bk e92.g h84;refine eH (Er:=Er) (sH (az<|cg (lE bf) bf)<|az<|cg bf bf)<|(Bm hq).imp fun y96 hq W97 e98=>?_;have E0:=E0.trans e98;have hB67:=hB67.trans e98.g;have Z00:=Bk e98.g Z00;have h82:=Bk e98.g h82;have h84:=Bk e98.g h84;by_cases hb141:y96=true
     ·rw[if_pos hb141]at hq ⊢;exact aX (Er:=Er) eQ<|fun v99 W100 e101 h102=>(hrt70 _ hq) v99 W100 (E0.trans e101) h102
     ·rw[if_neg hb141]at hq ⊢
      try dsimp only[aF]
      refine lI (Er:=Er) (f:=zB) (s0:=()) (Iv:=fun(s105:Unit)(W106:Wd)(g107:St)=>∃(d108:Option V)(d109:Option V),g107=[some Z07,some Z0D,some<|.int Z0a,some<|.int Z0b,some<|.str<|aT Z1n,some<|.str<|aT a50.1,some<|.int y88,some<|.int y93,some v81,some v83,d108,d109]/\Ext W0 W106) (jt (gm<|aU h82)<|gm<|aU h84) (Bm hq) ?_ ?_ ?_
      ·intro W121 e122;have E0:=E0.trans e122;have hB67:=hB67.trans e122.g;have Z00:=Bk e122.g Z00;have h82:=Bk e122.g h82;have h84:=Bk e122.g h84;exact⟨_,_,rfl,E0⟩
      ·intro Wb110 W111 W112 a103 v113 s104 sg114 P115 hW116 hB117 iv e118 h119 hrt120 hq;obtain⟨d108,d109,rfl,E0⟩:=iv;have hB67:=hB67.trans hW116;have Z00:=Bk hW116 Z00;have h82:=Bk hW116 h82;have h84:=Bk hW116 h84;have E0:=E0.trans e118;have hB67:=hB67.trans e118.g;have hB117:=hB117.trans e118.g;have Z00:=Bk e118.g Z00;have h82:=Bk e118.g h82;have h84:=Bk e118.g h84;refine k4 h119 fun v127 v129 h128 h130=>?_;cases h128;cases h130;unfold zB at hq;refine ph (Er:=Er) (dg (az (gO cV (bc (x:=Bv "?") (l:=[63]) (fB _ _ (by decide +kernel)))))<|az<|gO cV cV)<|(Bm hq).imp fun y131 hq W132 e133=>?_;have E0:=E0.trans e133;have hB67:=hB67.trans e133.g;have hB117:=hB117.trans e133.g;have Z00:=Bk e133.g Z00;have h82:=Bk e133.g h82;have h84:=Bk e133.g h84;by_cases hb137:y131=true
       ·rw[if_pos hb137]at hq ⊢;exact aX (Er:=Er) eQ<|fun v134 W135 e136 h137=>(hrt70 _<|hrt120 _ hq) v134 W135 (E0.trans e136) h137
       ·rw[if_neg hb137]at hq ⊢
        try dsimp only[aF]
        try dsimp only
        refine bU (W:=W132) () hB117 ?_ hq;exact⟨_,_,rfl,E0⟩
      ·intro s138 W139 sg140 hS141 iv hq;obtain⟨d108,d109,rfl,E0⟩:=iv;have hB67:=hB67.trans hS141;have Z00:=Bk hS141 Z00;have h82:=Bk hS141 h82;have h84:=Bk hS141 h84
       try dsimp only
       refine bU (W:=W139) (y88,y93) hB67 ?_ hq;exact⟨_,_,_,_,_,rfl,E0⟩
    ·intro s143 W144 sg145 hS146 iv hq;obtain⟨d55,d56,d57,d58,d59,rfl,E0⟩:=iv;exact aX (Er:=Er) eQ<|fun v147 W148 e149 h150=>hq v147 W148 (E0.trans e149) h150
theorem B6{f:Addr}{fd:BW}(F:Fun K "twisting" "twisting" (tp 6) f fd){Z1O:Addr}(Z3I:mg "STEPS"=some (.ref Z1O))(Z3J:DictK K w Z1O [(E9<|Bv "f",.int<|1),(E9<|Bv "b",.int<|-1),(E9<|Bv "i",.int<|0)]):FnOk P w K mg base CX0 (1) f fd ["tablet","turn"] (bH (qA K) isS (rs isI)<|A6):=by
 have SC:FnScope ["tablet","turn","step"] ["tablet","turn"] (defScope<|tp 6):=by walk_at "F"
 refine F.ok SC (fun vs H Q E h=>?_)<|fun cdv A outer s H vs Q E hr h=>?_;·obtain⟨_,_,_,_,_,_,rfl,_⟩:=h;rfl
 ·obtain⟨W0,tablet,turn,Z0f,_,rfl,rfl,Z04,Z2g,Er,hq⟩:=h;cases Z2g
  refine⟨_,(af (cX 2 (kK (K:=K) (w:=w) rfl rfl (dN (v:=.ref _) (by rfl) Z3I rfl) (pv 1)<|fun _ _=>rfl))
   (ag (aD (fU (ar bO (ax (aO (K:=K) rfl) (pv 0) aa (fun _ _=>rfl)) aY (ay _)) (pv 2) (kA iu (pv 2)))))),?_⟩
  have E0:Ext W0 W0:=.refl W0;unfold A6 at hq;refine aw (Er:=Er) (qL Z3J (by decide +kernel) cV)<|(Bm hq).imp fun y3 hq v4 W1 e2 h5=>?_;cases h5;have E0:=E0.trans e2;have Z04:=Bk e2.g Z04;exact aX (Er:=Er) (oZ (az (fD (bg (f:=fun(b:Cd)=>b.1) mQ<|aU Z04) (bc (x:=Bv "S") (l:=[83]) (fB _ _ (by decide +kernel))))) bf<|jq bf)<|Ce hq fun y6 hq v7 W8 e9 h10=>hq v7 W8 (E0.trans e9) h10
theorem B7{f:Addr}{fd:BW}(F:Fun K "state_behind" "state_behind" (tp 17) f fd){oC:Cd->Tx->Res Int}(Z1w:Cal P w K mg base "twisting" ["tablet","turn"] (1) (bH (qA K) isS (rs isI) oC)):FnOk P w K mg base CX0 (2) f fd ["tablet","state","turn"] (fc (qA K) (qC K) isS (rs<|qC K)<|A7 oC):=by
 have SC:FnScope ["tablet","state","turn","twist","idle"] ["tablet","state","turn"] (defScope<|tp 17):=by walk_at "F"
 refine F.ok SC (fun vs H Q E h=>?_)<|fun cdv A outer s H vs Q E hr h=>?_;·obtain⟨_,_,_,_,_,_,_,_,rfl,_⟩:=h;rfl
 ·obtain⟨W0,tablet,state,turn,Z0f,Z2a,_,rfl,rfl,Z04,Z1P,Z2g,Er,hq⟩:=h;cases Z2g;refine⟨_,(af (fu (pv 1)<|bZ (K:=K) (n:=2) rfl rfl<|aE (f6 3)<|aE (f6 4) bX)
   (ag (aD (cI (a8 (ai bh (pv 3) (dq Z1w (a8 (pv 0) (a8 (pv 2) ae)))) (a8 (fU (ar bO (pv 2) aY (ay _)) (ai bh (pv 4) aa) aa) ae)))))),?_⟩
  have E0:Ext W0 W0:=.refl W0;unfold A7 at hq;refine fk (Er:=Er) (aU Z1P)<|fun v1 W2 e3 h4=>?_;have E0:=E0.trans e3;have Z04:=Bk e3.g Z04;refine k4 h4 fun v5 v7 h6 h8=>?_;cases h6;cases h8;exact aX (Er:=Er) (eX (K:=K) (aM bf<|ba (aU Z04) cV) (oZ (az (fD cV (bc (x:=Bv "i") (l:=[105]) (fB _ _ (by decide +kernel))))) (aM bf ah) ah))<|Ce hq fun y12 hq v13 W14 e15 h16=>hq v13 W14 (E0.trans e15) h16
theorem B8{f:Addr}{fd:BW}(F:Fun K "within" "within" (tp 18) f fd)(h_abs:mg "abs"=none):FnOk P w K mg base CX0 (1) f fd ["state","loose","bound"] (fc (qC K) isI isI (rs isB)<|A8):=by
 have SC:FnScope ["state","loose","bound","twist","idle"] ["state","loose","bound"] (defScope<|tp 18):=by walk_at "F"
 refine F.ok SC (fun vs H Q E h=>?_)<|fun cdv A outer s H vs Q E hr h=>?_;·obtain⟨_,_,_,_,_,_,_,_,rfl,_⟩:=h;rfl
 ·obtain⟨W0,state,loose,bound,Z2a,_,_,rfl,rfl,Z1P,Z11,Z12,Er,hq⟩:=h;cases Z11;cases Z12;refine⟨_,(af (fu (pv 0)<|bZ (K:=K) (n:=2) rfl rfl<|aE (f6 3)<|aE (f6 4) bX)
   (ag (aD (iq (cP oQ (aq gS (by rfl) h_abs EB (a8 (pv 3) ae)) (pv 2) (ay _)) (ip (cP oQ (pv 4) (pv 1) (ay _))))))),?_⟩
  have E0:Ext W0 W0:=.refl W0;unfold A8 at hq;refine fk (Er:=Er) (aU Z1P)<|fun v1 W2 e3 h4=>?_;have E0:=E0.trans e3;refine k4 h4 fun v5 v7 h6 h8=>?_;cases h6;cases h8;exact aX (Er:=Er) (sI (cg (lE bf) bf)<|cg bf bf)<|Ce hq fun y9 hq v10 W11 e12 h13=>hq v10 W11 (E0.trans e12) h13
theorem B9{f:Addr}{fd:BW}(F:Fun K "twisted" "twisted" (tp 16) f fd){Z1Q:Tok}(Z1x:mg "HOLES"=some (.int 4 Z1Q)):FnOk P w K mg base CX0 (1) f fd ["tablet","twist"] (bH (qA K) isI (rs<|qA K)<|A9):=by
 have SC:FnScope ["tablet","twist","lay","holes","stand"] ["tablet","twist"] (defScope<|tp 16):=by walk_at "F"
 refine F.ok SC (fun vs H Q E h=>?_)<|fun cdv A outer s H vs Q E hr h=>?_;·obtain⟨_,_,_,_,_,_,rfl,_⟩:=h;rfl
 ·obtain⟨W0,tablet,twist,Z0f,_,rfl,rfl,Z04,Z4K,Er,hq⟩:=h;cases Z4K;refine⟨_,(af (fu (pv 0)<|bZ (K:=K) (n:=3) rfl rfl<|aE (f6 2)<|aE (f6 3)<|aE (f6 4) bX)
   (ag (aD (cI (a8 (pv 2) (a8 (pv 3) (a8 (ai aA (fU (ar bO (pv 2) aY (ay _)) (ai bh (pv 4) (pv 1)) (ai dE (pv 4) (pv 1))) (dN (v:=.int 4) (by rfl) Z1x ⟨_,rfl⟩)) ae))))))),?_⟩
  have E0:Ext W0 W0:=.refl W0;unfold A9 at hq;refine fk (Er:=Er) (aU Z04)<|fun v1 W2 e3 h4=>?_;have E0:=E0.trans e3;refine sN h4 fun v5 v7 v9 h6 h8 h10=>?_;cases h6;cases h8;cases h10;exact aX (Er:=Er) (dQ (K:=K) cV cV (ao (fun _=>by decide) (oZ (az (fD cV (bc (x:=Bv "S") (l:=[83]) (fB _ _ (by decide +kernel))))) (aM bf bf)<|aM bf bf)))<|Ce hq fun y13 hq v14 W15 e16 h17=>hq v14 W15 (E0.trans e16) h17
theorem zC{f:Addr}{fd:BW}(F:Fun K "top" "top" (tp 4) f fd){Z1Q:Tok}(Z1x:mg "HOLES"=some (.int 4 Z1Q)):FnOk P w K mg base CX0 (1) f fd ["tablet"] (dB (qA K) (rs isS)<|pW):=by
 have SC:FnScope ["tablet","lay","holes","stand"] ["tablet"] (defScope<|tp 4):=by walk_at "F"
 refine F.ok SC (fun vs H Q E h=>?_)<|fun cdv A outer s H vs Q E hr h=>?_;·obtain⟨_,_,_,_,rfl,_⟩:=h;rfl
 ·obtain⟨W0,tablet,Z0f,rfl,rfl,Z04,Er,hq⟩:=h;refine⟨_,(af (fu (pv 0)<|bZ (K:=K) (n:=3) rfl rfl<|aE (f6 1)<|aE (f6 2)<|aE (f6 3) bX)
   (ag (aD (ax bS (pv 2) (ai aA (pv 3) (dN (v:=.int 4) (by rfl) Z1x ⟨_,rfl⟩)) (fun _ _=>rfl))))),?_⟩
  have E0:Ext W0 W0:=.refl W0;unfold pW at hq;refine fk (Er:=Er) (aU Z04)<|fun v1 W2 e3 h4=>?_;have E0:=E0.trans e3;refine sN h4 fun v5 v7 v9 h6 h8 h10=>?_;cases h6;cases h8;cases h10;exact aX (Er:=Er) (bT cV (ao (fun _=>by decide) bf))<|Ce hq fun y11 hq v12 W13 e14 h15=>hq v12 W13 (E0.trans e14) h15
theorem Ba{f:Addr}{fd:BW}(F:Fun K "bottom" "bottom" (tp 5) f fd){Z1Q:Tok}(Z1x:mg "HOLES"=some (.int 4 Z1Q)):FnOk P w K mg base CX0 (1) f fd ["tablet"] (dB (qA K) (rs isS)<|Aa):=by
 have SC:FnScope ["tablet","lay","holes","stand"] ["tablet"] (defScope<|tp 5):=by walk_at "F"
 refine F.ok SC (fun vs H Q E h=>?_)<|fun cdv A outer s H vs Q E hr h=>?_;·obtain⟨_,_,_,_,rfl,_⟩:=h;rfl
 ·obtain⟨W0,tablet,Z0f,rfl,rfl,Z04,Er,hq⟩:=h;refine⟨_,(af (fu (pv 0)<|bZ (K:=K) (n:=3) rfl rfl<|aE (f6 1)<|aE (f6 2)<|aE (f6 3) bX)
   (ag (aD (ax bS (pv 2) (ai aA (ai bh (pv 3) aa) (dN (v:=.int 4) (by rfl) Z1x ⟨_,rfl⟩)) (fun _ _=>rfl))))),?_⟩
  have E0:Ext W0 W0:=.refl W0;unfold Aa at hq;refine fk (Er:=Er) (aU Z04)<|fun v1 W2 e3 h4=>?_;have E0:=E0.trans e3;refine sN h4 fun v5 v7 v9 h6 h8 h10=>?_;cases h6;cases h8;cases h10;exact aX (Er:=Er) (bT cV (ao (fun _=>by decide)<|aM bf ah))<|Ce hq fun y11 hq v12 W13 e14 h15=>hq v12 W13 (E0.trans e14) h15
theorem Bb{f:Addr}{fd:BW}(F:Fun K "left_place" "left_place" (tp 9) f fd){ie:Cd->Res Tx}{wu:Cd->Res Tx}{oC:Cd->Tx->Res Int}(C_top:Cal P w K mg base "top" ["tablet"] (1) (dB (qA K) (rs isS) ie))(Z3o:Cal P w K mg base "bottom" ["tablet"] (1) (dB (qA K) (rs isS) wu))(Z1w:Cal P w K mg base "twisting" ["tablet","turn"] (1) (bH (qA K) isS (rs isI) oC)){Z1E:Addr}(Z3p:mg "SLANTS"=some (.ref Z1E))(Z3q:DictK K w Z1E [(E8<|1,.str<|Bv "s"),(E8<|-1,.str<|Bv "z"),(E8<|0,.str<|Bv "o")]):FnOk P w K mg base CX0 (2) f fd ["tablet","turn"] (bH (qA K) isS (rs<|qB K)<|Ab ie wu oC):=by
 have SC:FnScope ["tablet","turn"] ["tablet","turn"] (defScope<|tp 9):=by walk_at "F"
 refine F.ok SC (fun vs H Q E h=>?_)<|fun cdv A outer s H vs Q E hr h=>?_;·obtain⟨_,_,_,_,_,_,rfl,_⟩:=h;rfl
 ·obtain⟨W0,tablet,turn,Z0f,_,rfl,rfl,Z04,Z2g,Er,hq⟩:=h;cases Z2g;refine⟨_,(ag (aD (cI (a8 (dq C_top<|a8 (pv 0) ae) (a8 (dq Z3o<|a8 (pv 0) ae) (a8 (kK (K:=K) (w:=w) rfl rfl (dN (v:=.ref _) (by rfl) Z3p rfl) (dq Z1w<|a8 (pv 0)<|a8 (pv 1) ae)<|fun _ _=>rfl) ae)))))),?_⟩;have E0:Ext W0 W0:=.refl W0;unfold Ab at hq;exact aX (Er:=Er) (dQ (K:=K) (cR<|aU Z04) (cR<|aU Z04) (qM Z3q (by decide +kernel)<|ba (aU Z04) cV))<|Ce hq fun y5 hq v6 W7 e8 h9=>hq v6 W7 (E0.trans e8) h9
theorem Bc{f:Addr}{fd:BW}(F:Fun K "suits" "suits" (tp 13) f fd){Z40:Tok}(Z41:mg "WORN"=some (.str (Bv "?") Z40)):FnOk P w K mg base CX0 (1) f fd ["sign","left"] (bH isS isS (rs isB)<|Ac):=by
 have SC:FnScope ["sign","left"] ["sign","left"] (defScope<|tp 13):=by walk_at "F"
 refine F.ok SC (fun vs H Q E h=>?_)<|fun cdv A outer s H vs Q E hr h=>?_;·obtain⟨_,_,_,_,_,_,rfl,_⟩:=h;rfl
 ·obtain⟨W0,sign,left,_,_,rfl,rfl,Z4S,Z4T,Er,hq⟩:=h;cases Z4S;cases Z4T;refine⟨_,(ag (aD (yM (cP bO (pv 1) (dN (v:=.str<|Bv "?") (by rfl) Z41 ⟨_,rfl⟩)<|ay _)<|ip<|cP bO (pv 1) (pv 0)<|ay _))),?_⟩;have E0:Ext W0 W0:=.refl W0;unfold Ac at hq;exact aX (Er:=Er) (zc (fD cV (bc (x:=Bv "?") (l:=[63]) (fB _ _ (by decide +kernel))))<|fD cV cV)<|Ce hq fun y1 hq v2 W3 e4 h5=>hq v2 W3 (E0.trans e4) h5
theorem Bd{f:Addr}{fd:BW}(F:Fun K "agrees" "agrees" (tp 12) f fd){va:Tx->Tx->Res Bool}(Z3L:Cal P w K mg base "suits" ["sign","left"] (1) (bH isS isS (rs isB) va))(h_all:mg "all"=none)(h_zip:mg "zip"=none):FnOk P w K mg base CX0 (2) f fd ["place","mark"] (bH (qB K) (qB K) (rs isB)<|Ad va):=by
 have SC:FnScope ["place","mark"] ["place","mark"] (defScope<|tp 12):=by walk_at "F"
 refine F.ok SC (fun vs H Q E h=>?_)<|fun cdv A outer s H vs Q E hr h=>?_;·obtain⟨_,_,_,_,_,_,rfl,_⟩:=h;rfl
 ·obtain⟨W0,place,mark,Z4c,Z0E,rfl,rfl,Z4M,Z0k,Er,hq⟩:=h;refine⟨_,(ag (aD (aq (kO (K:=K) rfl rfl) (by rfl) h_all HH (a8 (fA (N:=["sign","left"]) (cap:=[none,none]) (jl rfl (by decide +kernel) rfl (by decide +kernel) (by rfl) (by rfl)) rfl (gi (K:=K) rfl rfl h_zip<|a8 (pv 0)<|a8 (pv 1) ae) (fun _ _ _ _=>(bZ (K:=K) (n:=2) rfl rfl (aE (bL (i:=0) (show Dl (["sign","left"]:List Str) by decide +kernel) rfl (by walk_at "L")) (aE (bL (i:=1) (show Dl (["sign","left"]:List Str) by decide +kernel) rfl (by walk_at "L")) bX)))) (fun _ _ _ _=>du)<|fun _ _ _ _=>(dq Z3L<|a8 (pv 0)<|a8 (pv 1) ae)) ae)))),?_⟩;have E0:Ext W0 W0:=.refl W0;rw[show L2.start ["place","mark"] [Z4c,Z0E]=[some Z4c,some Z0E]from rfl];unfold Ad at hq;exact aX (Er:=Er) (sQ (G6 (fE (f:=fun(a1:Tx×Tx)=>va a1.1 a1.2) (jt (gm<|aU Z4M)<|gm<|aU Z0k) fun W3 a1 v2 e4 h5 Q10 k11=>by
   refine k4 h5 fun v6 v8 h7 h9=>?_;cases h7;cases h9;exact⟨by simp[Keep,bF],((ba cV cV):EV Er _ [some (.str (aT a1.1)),some (.str (aT a1.2))] _ _ _) _ (.refl _) _ k11⟩))) (Ce hq fun y13 hq v14 W15 e16 h17=>hq v14 W15 (E0.trans e16) h17)
theorem Be{f:Addr}{fd:BW}(F:Fun K "leaves" "leaves" (tp 19) f fd){wy:Pl->Pl->Res Bool}{wx:Cd->Tx->Res Pl}{wt:Cd->Int->Res Cd}(Z3r:Cal P w K mg base "agrees" ["place","mark"] (2) (bH (qB K) (qB K) (rs isB) wy))(Z2h:Cal P w K mg base "left_place" ["tablet","turn"] (2) (bH (qA K) isS (rs<|qB K) wx))(Z3a:Cal P w K mg base "twisted" ["tablet","twist"] (1) (bH (qA K) isI (rs<|qA K) wt)):FnOk P w K mg base CX0 (3) f fd ["tablet","state","turn","mark"] (j4 (qA K) (qC K) isS (qB K) (rs isB)<|Ae wy wx wt):=by
 have SC:FnScope ["tablet","state","turn","mark"] ["tablet","state","turn","mark"] (defScope<|tp 19):=by walk_at "F"
 refine F.ok SC (fun vs H Q E h=>?_)<|fun cdv A outer s H vs Q E hr h=>?_;·obtain⟨_,_,_,_,_,_,_,_,_,_,rfl,_⟩:=h;rfl
 ·obtain⟨W0,tablet,state,turn,mark,Z0f,Z2a,_,Z0E,rfl,rfl,Z04,Z1P,Z2g,Z0k,Er,hq⟩:=h;cases Z2g;refine⟨_,(ag<|aD<|dq Z3r<|a8 (dq Z2h<|a8 (dq Z3a<|a8 (pv 0)<|a8 (ax (aO (K:=K) rfl) (pv 1) aa<|fun _ _=>rfl) ae)<|a8 (pv 2) ae)<|a8 (pv 3) ae),?_⟩;have E0:Ext W0 W0:=.refl W0;unfold Ae at hq;exact aX (Er:=Er) (ba (ba (ba (aU Z04)<|bg (f:=fun(b:Ii)=>b.1) xK<|aU Z1P) cV)<|aU Z0k)<|Ce hq fun y3 hq v4 W5 e6 h7=>hq v4 W5 (E0.trans e6) h7
theorem Bf{f:Addr}{fd:BW}(F:Fun K "onward" "onward" (tp 20) f fd){uZ:Cd->Ii->Tx->Res Ii}{nq:Ii->Int->Int->Res Bool}{ur:Cd->Ii->Tx->Pl->Res Bool}(Z1R:Cal P w K mg base "state_behind" ["tablet","state","turn"] (2) (fc (qA K) (qC K) isS (rs<|qC K) uZ))(Z1S:Cal P w K mg base "within" ["state","loose","bound"] (1) (fc (qC K) isI isI (rs isB) nq))(Z3s:Cal P w K mg base "leaves" ["tablet","state","turn","mark"] (3) (j4 (qA K) (qC K) isS (qB K) (rs isB) ur)){Z3M:Tok}(Z3N:mg "TURNS"=some (.str (Bv "fbi") Z3M)):FnOk P w K mg base CX0 (4) f fd ["tablet","mark","loose","bound","state"] (fQ (qA K) (qB K) isI isI (qC K) (ro<|isT2 K isS<|qC K)<|Af uZ nq ur):=by
 have SC:FnScope ["tablet","mark","loose","bound","state","moves"] ["tablet","mark","loose","bound","state"] (defScope<|tp 20):=by walk_at "F"
 refine F.ok SC (fun vs H Q E h=>?_)<|fun cdv A outer s H vs Q E hr h=>?_;·obtain⟨_,_,_,_,_,_,_,_,_,_,_,_,rfl,_⟩:=h;rfl
 ·obtain⟨W0,tablet,mark,loose,bound,state,Z0f,Z0E,_,_,Z2a,rfl,rfl,Z04,Z0k,Z11,Z12,Z1P,Er,hq⟩:=h;cases Z11;cases Z12
  refine⟨_,(af (gH (i:=5) SC.nd rfl (by walk_at "L") (N:=["turn","tablet","state"]) (cap:=[none,some 0,some 4]) (jl rfl (by decide +kernel) rfl (by decide +kernel) (by rfl) (by rfl)) rfl (iz (dN (v:=.str<|Bv "fbi") (by rfl) Z3N ⟨_,rfl⟩)) (fun _ _ _ _=>(bL (i:=0) (show Dl (["turn","tablet","state"]:List Str) by decide +kernel) rfl (by walk_at "L"))) (fun _ _ _ _=>du)<|fun _ _ _ _=>(cI<|a8 (pv 0)<|a8 (dq Z1R<|a8 (pv 1)<|a8 (pv 2)<|a8 (pv 0) ae) ae))
   (ag (aD (fA (N:=["turn","after","loose","bound","tablet","mark"]) (cap:=[none,none,some 2,some 3,some 0,some 1]) (jl rfl (by decide +kernel) rfl (by decide +kernel) (by rfl) (by rfl)) rfl (bJ (K:=K) rfl (pv 5)) (fun _ _ _ _=>(bZ (K:=K) (n:=2) rfl rfl (aE (bL (i:=0) (show Dl (["turn","after","loose","bound","tablet","mark"]:List Str) by decide +kernel) rfl (by walk_at "L")) (aE (bL (i:=1) (show Dl (["turn","after","loose","bound","tablet","mark"]:List Str) by decide +kernel) rfl (by walk_at "L")) bX)))) (fun _ _ _ _=>(vt (FT (cQ (de (dq Z1S (a8 (pv 1) (a8 (pv 2) (a8 (pv 3) ae))))) (cO (de (dq Z3s (a8 (pv 4) (a8 (pv 1) (a8 (pv 0) (a8 (pv 5) ae))))))))))) (fun _ _ _ _=>(cI (a8 (pv 0) (a8 (pv 1) ae)))))))),?_⟩
  have E0:Ext W0 W0:=.refl W0;rw[show L2.start ["tablet","mark","loose","bound","state","moves"] [Z0f,Z0E,.int loose,.int bound,Z2a]=[some Z0f,some Z0E,some<|.int loose,some<|.int bound,some Z2a,none]from rfl];unfold Af at hq;refine aw (Er:=Er) (DY (fE (f:=fun(a3:Tx)=>(uZ tablet state a3).bind fun y12=>Bt (a3,y12)) (iE (bc (x:=Bv "fbi") (l:=[102,98,105]) (fB _ _ (by decide +kernel)))) fun W5 a3 v4 e6 h7 Q13 k14=>by
   have h8:=BR (R:=sh (qA K)) e6 Z04;have h9:=BR (R:=sh (qC K)) e6 Z1P;cases h7;refine gn ?_;exact⟨by simp[Keep,bF],((eX (K:=K) cV (hV (aU h8) (aU h9) cV)):EV Er _ [some (.str (aT a3)),some Z0f,some Z2a] _ _ _) _ (.refl _) _ k14⟩)) ((Bm hq).imp fun y15 hq v16 W1 e2 h17=>?_)
  have E0:=E0.trans e2;have Z04:=Bk e2.g Z04;have Z0k:=Bk e2.g Z0k;exact lG (Er:=Er) (sM (f:=fun(a18:Tx×Ii)=>((nq a18.2 loose bound).bind fun y31=>if y31 then ur tablet a18.2 a18.1 mark else Bt false).bind fun y33=>if y33 then Bt (some (a18.1,a18.2))else Bt none) (cb<|aU h17) fun W20 a18 v19 e21 h22 Q29 k30=>by
   have h23:=BR (R:=sh<|qA K) e21 Z04;have h24:=BR (R:=sh<|qB K) e21 Z0k;refine k4 h22 fun v25 v27 h26 h28=>?_;cases h26;refine⟨by simp[Keep,bF],((dg (mP<|hV (aU h28) bf bf)<|mP<|sJ (aU h23) (aU h28) cV<|aU h24):TV Er _ [some (.str<|aT a18.1),some v27,some<|.int loose,some<|.int bound,some Z0f,some Z0E] _ _) _ (.refl _) _ (Ce (P:=fun b32=>(if b32=true then Bt (some (a18.1,a18.2))else Bt none:Res (Option<|Tx×Ii)).OkE Er _) (Bm k30) fun b32 k36 W34 e35=>?_)⟩;cases b32 with
   |false=>exact k36 none _ e35 trivial
   |true=>
    rw[if_pos rfl];refine EV.go (Er:=Er) (σ:=[some (.str (aT a18.1)),some v27,some (.int loose),some (.int bound),some Z0f,some Z0E]) (W1:=W34) e35 (eX (K:=K) cV (aU h28)) ?_;exact fun u39 W37 e38 h40=>k36 (some u39) _ (e35.trans e38) h40) (Ce hq fun y42 hq p43 W44 e45 hp46 o47=>hq p43 W44 (E0.trans e45) (none_of E0.h hp46) o47)
theorem Bg{f:Addr}{fd:BW}(F:Fun K "led_on" "led_on" (tp 25) f fd){lV:Cd->Pl->Int->Int->Ii->Res (List<|Tx×Ii)}(Z1T:Cal P w K mg base "onward" ["tablet","mark","loose","bound","state"] (4) (fQ (qA K) (qB K) isI isI (qC K) (ro<|isT2 K isS<|qC K) lV))(h_set:mg "set"=none):FnOk P w K mg base CX0 (5) f fd ["tablet","mark","loose","bound","states","following"] (wa (qA K) (qB K) isI isI (qE K) (qE K) (rs isB)<|Ai lV):=by
 have SC:FnScope ["tablet","mark","loose","bound","states","following","told","state","turn","after"] ["tablet","mark","loose","bound","states","following"] (defScope<|tp 25):=by walk_at "F"
 refine F.ok SC (fun vs H Q E h=>?_)<|fun cdv A outer s H vs Q E hr h=>?_;·obtain⟨_,_,_,_,_,_,_,_,_,_,_,_,_,_,rfl,_⟩:=h;rfl
 ·obtain⟨W0,tablet,mark,loose,bound,states,following,Z0f,Z0E,_,_,Z1U,Z2D,rfl,rfl,Z04,Z0k,Z11,Z12,Z2i,Z4b,Er,hq⟩:=h;cases Z11;cases Z12
  refine⟨_,(af (cX 6 (cC (rk (P:=P) (w:=w) (K:=K) rfl rfl rfl hr.hd<|yh hr) (by rfl) h_set KA<|a8 (pv 5) ae))
   (af (bN BZ rfl (bJ (K:=K) rfl<|pv 4) (f6 7) (ag (bN BZ rfl (bJ (K:=K) rfl<|dq Z1T<|a8 (pv 0)<|a8 (pv 1)<|a8 (pv 2)<|a8 (pv 3)<|a8 (pv 7) ae) (bZ (K:=K) (n:=2) rfl rfl<|aE (f6 8)<|aE (f6 9) bX) (ag (bo (ar (rl (P:=P) (w:=w) (K:=K) rfl rfl rfl<|lD hr) (pv 9) (pv 6) (by with_unfolding_all rfl)) (ag<|aD cU) aH)))))
   (ag (aD cU)))),?_⟩
  have E0:Ext W0 W0:=.refl W0;unfold Ai at hq;refine aw (Er:=Er) (w9 (P:=P) (w:=w) (K:=K)<|DK<|aU Z4b)<|(Bm hq).imp fun y3 hq v4 W1 e2 h5=>?_;have E0:=E0.trans e2;have Z04:=Bk e2.g Z04;have Z0k:=Bk e2.g Z0k;have Z2i:=Bk e2.g Z2i;refine fo (Er:=Er) (f:=(Ah lV tablet mark loose bound y3)) (s0:=()) (Iv:=fun(s8:Unit)(W9:Wd)(g10:St)=>∃(d11:Option V)(d12:Option V)(d13:Option V),g10=[some Z0f,some Z0E,some<|.int loose,some<|.int bound,some Z1U,some Z2D,some v4,d13,d11,d12]/\Ext W0 W9) (cb<|aU Z2i) (Bm hq) ?_ ?_ ?_
  ·intro W25 e26;have E0:=E0.trans e26;have Z04:=Bk e26.g Z04;have Z0k:=Bk e26.g Z0k;have h5:=Bk e26.g h5;exact⟨_,_,_,rfl,E0⟩
  ·intro Wb14 W15 W16 a6 v17 s7 sg18 P19 hW20 hB21 iv e22 h23 hrt24 hq;obtain⟨d11,d12,d13,rfl,E0⟩:=iv;have Z04:=Bk hW20 Z04;have Z0k:=Bk hW20 Z0k;have h5:=Bk hW20 h5;have E0:=E0.trans e22;have hB21:=hB21.trans e22.g;have Z04:=Bk e22.g Z04;have Z0k:=Bk e22.g Z0k;have h5:=Bk e22.g h5;refine gn (σ':=[some Z0f,some Z0E,some<|.int loose,some<|.int bound,some Z1U,some Z2D,some v4,some v17,d11,d12]) ?_;unfold Ah at hq;refine lI (Er:=Er) (f:=(Ag y3)) (s0:=()) (Iv:=fun(s31:Unit)(W32:Wd)(g33:St)=>∃(d34:Option V)(d35:Option V),g33=[some Z0f,some Z0E,some<|.int loose,some<|.int bound,some Z1U,some Z2D,some v4,some v17,d34,d35]/\Ext W0 W32) (cb<|DY<|gk (aU Z04) (aU Z0k) bf bf<|aU h23) (Bm hq) ?_ ?_ ?_
   ·intro W47 e48;have E0:=E0.trans e48;have hB21:=hB21.trans e48.g;have Z04:=Bk e48.g Z04;have Z0k:=Bk e48.g Z0k;have h5:=Bk e48.g h5;have h23:=Bk e48.g h23;exact⟨_,_,rfl,E0⟩
   ·intro Wb36 W37 W38 a29 v39 s30 sg40 P41 hW42 hB43 iv e44 h45 hrt46 hq;obtain⟨d34,d35,rfl,E0⟩:=iv;have hB21:=hB21.trans hW42;have Z04:=Bk hW42 Z04;have Z0k:=Bk hW42 Z0k;have h5:=Bk hW42 h5;have h23:=Bk hW42 h23;have E0:=E0.trans e44;have hB21:=hB21.trans e44.g;have hB43:=hB43.trans e44.g;have Z04:=Bk e44.g Z04;have Z0k:=Bk e44.g Z0k;have h5:=Bk e44.g h5;have h23:=Bk e44.g h23;refine k4 h45 fun v53 v55 h54 h56=>?_;cases h54;unfold Ag at hq;refine ph (Er:=Er) (az<|oA (aU h56)<|aU h5)<|fun W57 e58=>?_;have E0:=E0.trans e58;have hB21:=hB21.trans e58.g;have hB43:=hB43.trans e58.g;have Z04:=Bk e58.g Z04;have Z0k:=Bk e58.g Z0k;have h5:=Bk e58.g h5;have h23:=Bk e58.g h23;have h56:=Bk e58.g h56;by_cases hb62:(!y3.contains a29.2)=true
    ·rw[if_pos hb62]at hq ⊢;exact aX (Er:=Er) eQ<|fun v59 W60 e61 h62=>(hrt24 _<|hrt46 _ hq) v59 W60 (E0.trans e61) h62
    ·rw[if_neg hb62]at hq ⊢
     try dsimp only[aF]
     try dsimp only
     refine bU (W:=W57) () hB43 ?_ hq;exact⟨_,_,rfl,E0⟩
   ·intro s64 W65 sg66 hS67 iv hq;obtain⟨d34,d35,rfl,E0⟩:=iv;have hB21:=hB21.trans hS67;have Z04:=Bk hS67 Z04;have Z0k:=Bk hS67 Z0k;have h5:=Bk hS67 h5;have h23:=Bk hS67 h23
    try dsimp only
    refine bU (W:=W65) () hB21 ?_ hq;exact⟨_,_,_,rfl,E0⟩
  ·intro s68 W69 sg70 hS71 iv hq;obtain⟨d11,d12,d13,rfl,E0⟩:=iv;exact aX (Er:=Er) eQ<|fun v72 W73 e74 h75=>hq v72 W73 (E0.trans e74) h75
theorem Bh{f:Addr}{fd:BW}(F:Fun K "holds" "holds" (tp 24) f fd){wz:Cd->Pl->Int->Int->(List Ii)->(List Ii)->Res Bool}(Z3t:Cal P w K mg base "led_on" ["tablet","mark","loose","bound","states","following"] (5) (wa (qA K) (qB K) isI isI (qE K) (qE K) (rs isB) wz))(h_all:mg "all"=none)(h_len:mg "len"=none)(h_range:mg "range"=none){Z1y:Addr}(Z1V:mg "START"=some (.ref Z1y))(Z1W:∀H,SqT K H Z1y [.int (0),.int<|0]):FnOk P w K mg base CX0 (6) f fd ["tablet","strip","loose","bound","lists"] (fQ (qA K) (qD K) isI isI (isL<|qE K) (rs isB)<|Aj wz):=by
 have SC:FnScope ["tablet","strip","loose","bound","lists"] ["tablet","strip","loose","bound","lists"] (defScope<|tp 24):=by walk_at "F"
 refine F.ok SC (fun vs H Q E h=>?_)<|fun cdv A outer s H vs Q E hr h=>?_;·obtain⟨_,_,_,_,_,_,_,_,_,_,_,_,rfl,_⟩:=h;rfl
 ·obtain⟨W0,tablet,strip,loose,bound,lists,Z0f,Z2b,_,_,Z3O,rfl,rfl,Z04,Z1h,Z11,Z12,Z1i,Er,hq⟩:=h;cases Z11;cases Z12
  refine⟨_,(af (bo (FT (mw (ar rP (aq (aQ (K:=K) rfl) (by rfl) h_len C0<|a8 (pv 4) ae) aa<|ay _) (l9 (ar gA (aq (aQ (K:=K) rfl) (by rfl) h_len C0<|a8 (pv 4) ae) (ai bh (aq (aQ (K:=K) rfl) (by rfl) h_len C0<|a8 (pv 1) ae) aa)<|ay _)))) (ag<|aD cU) aH)
   (af (bo (FT (mw (ar (yd hr.units0) (ax (aJ (K:=K) rfl) (pv 4) (kA iu aa)<|fun _ _=>rfl) (bR ae)<|ay _) (l9 (ar (rg (K:=K) rfl<|lD hr) (dN (v:=.ref _) (by rfl) Z1V rfl) (ax (aJ (K:=K) rfl) (pv 4) aa<|fun _ _=>rfl) (by with_unfolding_all rfl))))) (ag<|aD cU) aH)
   (ag (aD (aq (kO (K:=K) rfl rfl) (by rfl) h_all HH (a8 (fA (N:=["at","tablet","strip","loose","bound","lists"]) (cap:=[none,some 0,some 1,some 2,some 3,some 4]) (jl rfl (by decide +kernel) rfl (by decide +kernel) (by rfl) (by rfl)) rfl (ff rfl h_range (a8 (ai dE (aq (aQ (K:=K) rfl) (by rfl) h_len C0 (a8 (pv 4) ae)) aa) ae)) (fun _ _ _ _=>(bL (i:=0) (show Dl (["at","tablet","strip","loose","bound","lists"]:List Str) by decide +kernel) rfl (by walk_at "L"))) (fun _ _ _ _=>du) (fun _ _ _ _=>(dq Z3t (a8 (pv 1) (a8 (ax (aJ (K:=K) rfl) (pv 2) (pv 0) (fun _ _=>rfl)) (a8 (pv 3) (a8 (pv 4) (a8 (ax (aJ (K:=K) rfl) (pv 5) (pv 0) (fun _ _=>rfl)) (a8 (ax (aJ (K:=K) rfl) (pv 5) (ai bh (pv 0) aa) (fun _ _=>rfl)) ae))))))))) ae)))))),?_⟩
  have E0:Ext W0 W0:=.refl W0;rw[show L2.start ["tablet","strip","loose","bound","lists"] [Z0f,Z2b,.int loose,.int bound,Z3O]=[some Z0f,some Z2b,some<|.int loose,some<|.int bound,some Z3O]from rfl];unfold Aj at hq;refine eH (Er:=Er) (sH (az<|cg (d6<|DK<|aU Z1i) ah)<|az<|cg (d6<|DK<|aU Z1i)<|aM (d6<|DK<|aU Z1h) ah)<|(Bm hq).imp fun y1 hq W2 e3=>?_;have E0:=E0.trans e3;have Z04:=Bk e3.g Z04;have Z1h:=Bk e3.g Z1h;have Z1i:=Bk e3.g Z1i;by_cases hb39:y1=true
  ·rw[if_pos hb39]at hq ⊢;exact aX (Er:=Er) eQ<|fun v4 W5 e6 h7=>hq v4 W5 (E0.trans e6) h7
  ·rw[if_neg hb39]at hq ⊢
   try dsimp only[aF]
   refine eH (Er:=Er) (sH (az<|yg<|DK<|bP (DK<|aU Z1i)<|jq ah)<|az<|ou (jy Z1W (gI _)<|gI _)<|DK<|bP (DK<|aU Z1i) ah)<|(Bm hq).imp fun y11 hq W12 e13=>?_;have E0:=E0.trans e13;have Z04:=Bk e13.g Z04;have Z1h:=Bk e13.g Z1h;have Z1i:=Bk e13.g Z1i;by_cases hb39:y11=true
   ·rw[if_pos hb39]at hq ⊢;exact aX (Er:=Er) eQ<|fun v14 W15 e16 h17=>hq v14 W15 (E0.trans e16) h17
   ·rw[if_neg hb39]at hq ⊢
    try dsimp only[aF]
    exact aX (Er:=Er) (sQ (G6 (fE (fX<|aM (d6<|DK<|aU Z1i) ah) fun W20 a18 v19 e21 h22 Q31 k32=>by
     have h23:=BR (R:=sh (qA K)) e21 Z04;have h24:=BR (R:=sh (qD K)) e21 Z1h;have h25:=BR (R:=sh (isL (qE K))) e21 Z1i;cases h22;refine gn ?_;exact⟨by simp[Keep,bF],((um (aU h23) (bP (DK (aU h24)) bf) bf bf (bP (DK (aU h25)) bf) (bP (DK (aU h25)) (aM bf ah))):EV Er _ [some (.int a18),some Z0f,some Z2b,some (.int loose),some (.int bound),some Z3O] _ _ _) _ (.refl _) _ k32⟩))) (Ce hq fun y35 hq v36 W37 e38 h39=>hq v36 W37 (E0.trans e38) h39)
theorem Bi{f:Addr}{fd:BW}(F:Fun K "states_behind" "states_behind" (tp 22) f fd){lV:Cd->Pl->Int->Int->Ii->Res (List<|Tx×Ii)}(Z1T:Cal P w K mg base "onward" ["tablet","mark","loose","bound","state"] (4) (fQ (qA K) (qB K) isI isI (qC K) (ro<|isT2 K isS<|qC K) lV))(h_sorted:mg "sorted"=none):FnOk P w K mg base CX0 (5) f fd ["tablet","mark","loose","bound","states"] (fQ (qA K) (qB K) isI isI (qE K) (ro<|qC K)<|Ak lV):=by
 have SC:FnScope ["tablet","mark","loose","bound","states"] ["tablet","mark","loose","bound","states"] (defScope<|tp 22):=by walk_at "F"
 refine F.ok SC (fun vs H Q E h=>?_)<|fun cdv A outer s H vs Q E hr h=>?_;·obtain⟨_,_,_,_,_,_,_,_,_,_,_,_,rfl,_⟩:=h;rfl
 ·obtain⟨W0,tablet,mark,loose,bound,states,Z0f,Z0E,_,_,Z1U,rfl,rfl,Z04,Z0k,Z11,Z12,Z2i,Er,hq⟩:=h;cases Z11;cases Z12;refine⟨_,(ag (aD (aq (lS rfl) (by rfl) h_sorted F8 (a8 (qZ (lD hr) (N:=["state","turn","after","tablet","mark","loose","bound"]) (cap:=[none,none,none,some 0,some 1,some 2,some 3]) (jl rfl (by decide +kernel) rfl (by decide +kernel) (by rfl) (by rfl)) rfl (bJ (K:=K) rfl<|pv 4) (fun _ _ _ _=>(bL (i:=0) (show Dl (["state","turn","after","tablet","mark","loose","bound"]:List Str) by decide +kernel) rfl (by walk_at "L"))) (fun _ _ _ _=>du) (fun _ _ _ _=>(bJ (K:=K) rfl<|dq Z1T<|a8 (pv 3)<|a8 (pv 4)<|a8 (pv 5)<|a8 (pv 6)<|a8 (pv 0) ae)) (fun _ _ _ _=>(bZ (K:=K) (n:=2) rfl rfl (aE (bL (i:=1) (show Dl (["state","turn","after","tablet","mark","loose","bound"]:List Str) by decide +kernel) rfl (by walk_at "L")) (aE (bL (i:=2) (show Dl (["state","turn","after","tablet","mark","loose","bound"]:List Str) by decide +kernel) rfl (by walk_at "L")) bX)))) (fun _ _ _ _=>du)<|fun _ _ _ _=>(pv 2)) ae)))),?_⟩;have E0:Ext W0 W0:=.refl W0;rw[show L2.start ["tablet","mark","loose","bound","states"] [Z0f,Z0E,.int loose,.int bound,Z1U]=[some Z0f,some Z0E,some<|.int loose,some<|.int bound,some Z1U]from rfl];unfold Ak at hq;exact lG (Er:=Er) (tT (cb<|aU Z2i) (fun W1 D2 W5 a6 v7 s8 M9 hS10 e3 h4 e11 o12 h13 k14=>by
   have h15:=Bk hS10 Z04;have h16:=Bk hS10 Z0k;refine gn ?_;exact⟨by simp[Keep,bF],zj (((xR e11 (cb<|DY<|gk (aU h15) (aU h16) bf bf<|aU h13) (fun _ _ _ e o=>o.mono e) (fun W19 a20 v21 s22 M23 hS24 e25 o26 h27 k28=>by
    have h29:=Bk hS24 h15;have h30:=Bk hS24 h16;have h31:=Bk hS24 h13;refine k4 h27 fun v32 v34 h33 h35=>?_;cases h33;exact⟨by simp[Keep,bF],zj (((y0 e25 h4 (aU h35)):BV Er _ [some v7,some (.str (aT a20.1)),some v34,some Z0f,some Z0E,some (.int loose),some (.int bound)] _ _ _ _ _) _ _ _ (.refl _) o26 k28)⟩)):BV Er _ [some v7,none,none,some Z0f,some Z0E,some (.int loose),some (.int bound)] _ _ _ _ _) _ _ _ (.refl _) o12 k14)⟩)) (Ce hq fun y38 hq p39 W40 e41 hp42 o43=>hq p39 W40 (E0.trans e41) (none_of E0.h hp42) o43)
theorem Bj{f:Addr}{fd:BW}(F:Fun K "search" "search" (tp 21) f fd){nq:Ii->Int->Int->Res Bool}{oD:Cd->Pl->Int->Int->(List Ii)->Res (List Ii)}(Z1S:Cal P w K mg base "within" ["state","loose","bound"] (1) (fc (qC K) isI isI (rs isB) nq))(Z1K:Cal P w K mg base "states_behind" ["tablet","mark","loose","bound","states"] (5) (fQ (qA K) (qB K) isI isI (qE K) (ro<|qC K) oD)){Z1y:Addr}(Z1V:mg "START"=some (.ref Z1y))(Z1W:∀H,SqT K H Z1y [.int (0),.int<|0]):FnOk P w K mg base CX0 (6) f fd ["tablet","strip","loose","bound"] (j4 (qA K) (qD K) isI isI (yB<|oL<|oL<|fz<|qC K)<|Al nq oD):=by
 have SC:FnScope ["tablet","strip","loose","bound","lists","mark"] ["tablet","strip","loose","bound"] (defScope<|tp 21):=by walk_at "F"
 refine F.ok SC (fun vs H Q E h=>?_)<|fun cdv A outer s H vs Q E hr h=>?_;·obtain⟨_,_,_,_,_,_,_,_,_,_,rfl,_⟩:=h;rfl
 ·obtain⟨W0,tablet,strip,loose,bound,Z0f,Z2b,_,_,rfl,rfl,Z04,Z1h,Z11,Z12,Er,hq⟩:=h;cases Z11;cases Z12
  refine⟨_,(af (cX 4 (bR (a8 (fU (de (dq Z1S (a8 (dN (v:=.ref _) (by rfl) Z1V rfl)<|a8 (pv 2)<|a8 (pv 3) ae))) (bR (a8 (dN (v:=.ref _) (by rfl) Z1V rfl) ae))<|bR ae) ae)))
   (af (bN BZ rfl (bJ (K:=K) rfl<|pv 1) (f6 5) (af (bo (ar (ya hr.units0) (ax (aJ (K:=K) rfl) (pv 4) (kA iu aa)<|fun _ _=>rfl) (bR ae)<|ay _) (ag<|aD<|pv 4) aH)
   (ag (d5 (cS (K:=K) rfl (pv 4) (a8 (dq Z1K (a8 (pv 0) (a8 (pv 5) (a8 (pv 2) (a8 (pv 3) (a8 (ax (aJ (K:=K) rfl) (pv 4) (kA iu aa) (fun _ _=>rfl)) ae)))))) ae))))))
   (ag (aD (pv 4))))),?_⟩
  have E0:Ext W0 W0:=.refl W0;unfold Al at hq;have S:Sep W0 W0 []:=Lj;refine kQ (Er:=Er) S E0 (uf<|yc (mP<|hV (jy Z1W (gI _)<|gI _) bf bf) (Lu<|eS<|aZ (jy Z1W (gI _)<|gI _)<|eR (R:=(qC K)))<|mX (R:=(fz<|qC K)))<|(Bm hq).imp fun y3 hq v4 W5 e6 S=>?_;have E0:=E0.trans e6;have Z04:=Bk e6.g Z04;have Z1h:=Bk e6.g Z1h;have S:Sep W0 W5 [tc (oL<|oL<|fz<|qC K) y3 v4]:=S;refine fo (Er:=Er) (f:=(xc oD tablet loose bound)) (s0:=y3) (Iv:=fun(s9:(List<|List Ii))(W10:Wd)(g11:St)=>∃(d12:Option V),g11=[some Z0f,some Z2b,some<|.int loose,some<|.int bound,some v4,d12]/\Ext W0 W10/\Sep W0 W10 [tc (oL<|oL<|fz<|qC K) s9 v4]) (cb<|aU Z1h) (Bm hq) ?_ ?_ ?_
  ·intro W24 e25;have S:=S.ext e25;have E0:=E0.trans e25;have Z04:=Bk e25.g Z04;exact⟨_,rfl,E0,S⟩
  ·intro Wb13 W14 W15 a7 v16 s8 sg17 P18 hW19 hB20 iv e21 h22 hrt23 hq;obtain⟨d12,rfl,E0,S⟩:=iv;have Z04:=Bk hW19 Z04;have S:=S.ext e21;have E0:=E0.trans e21;have hB20:=hB20.trans e21.g;have Z04:=Bk e21.g Z04;refine gn (σ':=[some Z0f,some Z2b,some<|.int loose,some<|.int bound,some v4,some v16]) ?_;unfold xc at hq;refine eH (Er:=Er) (az<|yb<|gv<|gu (d9 (R:=(oL<|oL<|fz<|qC K)) (k:=0) S)<|jq ah)<|(Bm hq).imp fun y29 hq W30 e31=>?_;have S:=S.ext e31;have E0:=E0.trans e31;have hB20:=hB20.trans e31.g;have Z04:=Bk e31.g Z04;have h22:=Bk e31.g h22;by_cases hb42:y29=true
   ·rw[if_pos hb42]at hq ⊢;exact lN (k:=0) S rfl fun F32 hF33 t34=>(hrt23 _ hq) v4 W30 F32 E0 hF33 t34
   ·rw[if_neg hb42]at hq ⊢
    try dsimp only[aF]
    refine ug (Er:=Er) (K:=K) (xs:=s8) (k:=0) (i:=4) S E0 rfl (fun W35 hS36 h37=>(have Z04:=Bk (R:=(qA K)) hS36 Z04;have h22:=Bk (R:=(qB K)) hS36 h22;(gk (aU Z04) (aU h22) bf bf<|bP (DK<|aU h37)<|jq ah)))<|(Bm hq).imp fun y40 hq W41 hS42 E0 S=>?_;have S:Sep W0 W41 [tc (oL<|oL<|fz<|qC K) y40 v4]:=S;have hB20:=hB20.trans hS42;have Z04:=Bk hS42 Z04;have h22:=Bk hS42 h22
    try dsimp only
    refine bU (W:=W41) y40 hB20 ?_ hq;exact⟨_,rfl,E0,S⟩
  ·intro s43 W44 sg45 hS46 iv hq;obtain⟨d12,rfl,E0,S⟩:=iv;exact lN (k:=0) S rfl fun F47 hF48 t49=>hq v4 W44 F47 E0 hF48 t49
theorem zD{f:Addr}{fd:BW}(F:Fun K "law" "law" (tp 50) f fd){uX:List Int->Int->Res (Cd×(List Pl)×Int)}{fS:List Int->Int->Res Int}{wo:Cd->(List Pl)->Int->Int->Res (List<|List Ii)}{nN:(List<|List Ii)->Int->Res (List<|List Ii)}{wq:Int->Res (List Tx)}{pV:Cd->(List Pl)->Int->Int->Tx->Res Bool}{vb:Cd->(List Pl)->Int->Int->(List<|List Ii)->Res Bool}{wA:Cd->(List Pl)->Int->Int->Res (List<|List Ii)}(Z2j:Cal P w K mg base "_law_small" ["_law_script","_law_most"] (5) (bH (isScr K) isI (rs<|isT3 K (qA K) (qD K) isI) uX))(Z0s:Cal P w K mg base "_law_at" ["_law_script","_law_k"] (1) (bH (isScr K) isI (rs isI) fS))(Z2k:Cal P w K mg base "_law_reach" ["_law_card_here","_law_strip","_law_loose","_law_bound"] (4) (j4 (qA K) (qD K) isI isI (ro<|qE K) wo))(Z2E:Cal P w K mg base "_law_bent" ["_law_lists","_law_cell"] (2) (bH (isL<|qE K) isI (yB<|oL<|oL<|fz<|qC K) nN))(Z35:Cal P w K mg base "_law_all" ["_law_many"] (1) (dB isI (rs<|isL isS) wq))(Z2F:Cal P w K mg base "_law_does" ["_law_card_here","_law_strip","_law_loose","_law_bound","_law_text"] (4) (fQ (qA K) (qD K) isI isI isS (rs isB) pV))(Z1j:Cal P w K mg base "_law_same" ["_law_found","_law_due"] 26 (gr K 26))(Z3l:Cal P w K mg base "holds" ["tablet","strip","loose","bound","lists"] (6) (fQ (qA K) (qD K) isI isI (isL<|qE K) (rs isB) vb))(Z3u:Cal P w K mg base "search" ["tablet","strip","loose","bound"] (6) (j4 (qA K) (qD K) isI isI (yB<|oL<|oL<|fz<|qC K) wA))(h_len:mg "len"=none)(h_list:mg "list"=none)(h_max:mg "max"=none)(h_range:mg "range"=none):FnOk P w K mg base CX0 (27) f fd ["_law_script"] (dB (isScr K) (rs isB)<|pX uX fS wo nN wq pV vb wA):=by
 have SC:FnScope ["_law_script","_law_card_here","_law_strip","_law_loose","_law_bound","_law_near","_law_lists","_law_k","_law_some","_law_text"] ["_law_script"] (defScope<|tp 50):=by walk_at "F"
 refine F.ok SC (fun vs H Q E h=>?_)<|fun cdv A outer s H vs Q E hr h=>?_;·obtain⟨_,_,_,_,rfl,_⟩:=h;rfl
 ·obtain⟨W0,Z0d,Z0H,rfl,rfl,Z02,Er,hq⟩:=h;refine⟨_,(af (fu (dq Z2j<|a8 (pv 0)<|a8 aa ae)<|bZ (K:=K) (n:=3) rfl rfl<|aE (f6 1)<|aE (f6 2)<|aE (f6 3) bX)
   (af (cX 4<|ai aA (dq Z0s<|a8 (pv 0)<|a8 aa ae) aa)
   (af (cX 5 (aq (kC rfl) (by rfl) h_max HF<|a8 aa<|a8 (ai bh (ai dE (pv 4) aa)<|ai aA (ai bz (dq Z0s<|a8 (pv 0)<|a8 aa ae) aa) aa) ae))
   (af (cX 6<|dq Z2k<|a8 (pv 1)<|a8 (pv 2)<|a8 (pv 3)<|a8 (pv 5) ae)
   (af (bN BZ rfl (qi rfl h_range<|a8 aa<|a8 aa ae) (f6 7)<|ag<|cX 6<|dq Z2E<|a8 (pv 6)<|a8 (ai eB (ai bz (dq Z0s<|a8 (pv 0)<|a8 (pv 7) ae) aa)<|ai aA (dq Z0s<|a8 (pv 0)<|a8 (pv 7) ae) aa) ae)
   (af (cX 8 cU)
   (af (bN BZ rfl (bJ (K:=K) rfl (dq Z35 (a8 (aq (aQ (K:=K) rfl) (by rfl) h_len C0<|a8 (pv 2) ae) ae))) (f6 9)<|ag<|bo (de<|dq Z2F<|a8 (pv 1)<|a8 (pv 2)<|a8 (pv 3)<|a8 (pv 4)<|a8 (pv 9) ae) (ag<|cX 8 cU) aH)
   (af (bo (FT (cQ (de<|pv 8) (cO (la (de (dq Z1j (a8 (dq Z3l (a8 (pv 1) (a8 (cC (dP (K:=K) rfl) (by rfl) h_list Df<|a8 (pv 2) ae)<|a8 (pv 3)<|a8 (pv 4)<|a8 (pv 6) ae)))<|a8 cU ae))))))) (ag<|aD cU) aH)
   (ag (aD (dq Z1j (a8 (dq Z3l (a8 (pv 1) (a8 (cC (dP (K:=K) rfl) (by rfl) h_list Df (a8 (pv 2) ae)) (a8 (pv 3) (a8 (pv 4) (a8 (dq Z3u (a8 (pv 1) (a8 (cC (dP (K:=K) rfl) (by rfl) h_list Df (a8 (pv 2) ae)) (a8 (pv 3) (a8 (pv 4) ae))))) ae)))))) (a8 (rK (pv 8)) ae))))))))))))),?_⟩
  have E0:Ext W0 W0:=.refl W0;unfold pX at hq;refine fk (Er:=Er) (ba (aU Z02) ah)<|(Bm hq).imp fun y1 hq v2 W3 e4 h5=>?_;have E0:=E0.trans e4;have Z02:=Bk e4.g Z02;refine sN h5 fun v6 v8 v10 h7 h9 h11=>?_;cases h11;refine aw (Er:=Er) (ao (fun _=>by decide)<|ba (aU Z02) ah)<|(Bm hq).imp fun y15 hq v16 W12 e13 h17=>?_;cases h17;have E0:=E0.trans e13;have Z02:=Bk e13.g Z02;have h7:=Bk e13.g h7;have h9:=Bk e13.g h9;refine aw (Er:=Er) (pq ah (aM (aM bf ah) (ao (fun _=>by decide) (ao (fun _=>⟨by decide,by decide⟩)<|ba (aU Z02) ah))))<|(Bm hq).imp fun y24 hq v25 W18 e19 h26=>?_;cases h26;have E0:=E0.trans e19;have Z02:=Bk e19.g Z02;have h7:=Bk e19.g h7;have h9:=Bk e19.g h9;refine aw (Er:=Er) (DY<|qJ (aU h7) (aU h9) bf bf)<|(Bm hq).imp fun y29 hq v30 W27 e28 h31=>?_;have E0:=E0.trans e28;have Z02:=Bk e28.g Z02;have h7:=Bk e28.g h7;have h9:=Bk e28.g h9;refine cA (Er:=Er) (f:=(ee fS nN Z0d)) (s0:=y29) (Iv:=fun(s34:(List<|List Ii))(W35:Wd)(g36:St)=>∃(v37:V)(d39:Option V),g36=[some Z0H,some v6,some v8,some<|.int y1.2.2,some<|.int y15,some<|.int y24,some v37,d39,none,none]/\Ext W0 W35/\(isL<|qE K) W35.G s34 v37) (qP ah ah) (Bm hq) ?_ ?_ ?_
  ·intro W51 e52;have E0:=E0.trans e52;have Z02:=Bk e52.g Z02;have h7:=Bk e52.g h7;have h9:=Bk e52.g h9;have h31:=Bk e52.g h31;exact⟨_,_,rfl,E0,h31⟩
  ·intro Wb40 W41 W42 a32 v43 s33 sg44 P45 hW46 hB47 iv e48 h49 hq;obtain⟨v37,d39,rfl,E0,h38⟩:=iv;have Z02:=Bk hW46 Z02;have h7:=Bk hW46 h7;have h9:=Bk hW46 h9;have E0:=E0.trans e48;have hB47:=hB47.trans e48.g;have Z02:=Bk e48.g Z02;have h7:=Bk e48.g h7;have h9:=Bk e48.g h9;have h38:=Bk e48.g h38;cases h49;refine gn (σ':=[some Z0H,some v6,some v8,some<|.int y1.2.2,some<|.int y15,some<|.int y24,some v37,some<|.int a32,none,none]) ?_;unfold ee at hq;refine cW (Er:=Er) (EVt.ev (qN (aU h38) (gN (ao (fun _=>⟨by decide,by decide⟩)<|ba (aU Z02) bf) (ao (fun _=>by decide)<|ba (aU Z02) bf))))<|(Bm hq).imp fun y62 hq v63 W55 e56 h64=>?_;have E0:=E0.trans e56;have hB47:=hB47.trans e56.g;have Z02:=Bk e56.g Z02;have h7:=Bk e56.g h7;have h9:=Bk e56.g h9
   try dsimp only
   refine bU (W:=W55) y62 hB47 ?_ hq;exact⟨_,_,rfl,E0,h64⟩
  ·intro s66 W67 sg68 hS69 iv hq;obtain⟨v37,d39,rfl,E0,h38⟩:=iv;have h7:=Bk hS69 h7;have h9:=Bk hS69 h9;refine aw (Er:=Er) eQ<|fun v72 W70 e71 h73=>?_;cases h73;have E0:=E0.trans e71;have h7:=Bk e71.g h7;have h9:=Bk e71.g h9;have h38:=Bk e71.g h38;refine cA (Er:=Er) (f:=(fZ pV y1 y15)) (s0:=false) (Iv:=fun(s76:Bool)(W77:Wd)(g78:St)=>∃(d79:Option V),g78=[some Z0H,some v6,some v8,some<|.int y1.2.2,some<|.int y15,some<|.int y24,some v37,d39,some<|.bl s76,d79]/\Ext W0 W77) (cb<|cR<|d6<|DK<|aU h9) (Bm hq) ?_ ?_ ?_
   ·intro W91 e92;have E0:=E0.trans e92;have h7:=Bk e92.g h7;have h9:=Bk e92.g h9;have h38:=Bk e92.g h38;exact⟨_,rfl,E0⟩
   ·intro Wb80 W81 W82 a74 v83 s75 sg84 P85 hW86 hB87 iv e88 h89 hq;obtain⟨d79,rfl,E0⟩:=iv;have h7:=Bk hW86 h7;have h9:=Bk hW86 h9;have h38:=Bk hW86 h38;have E0:=E0.trans e88;have hB87:=hB87.trans e88.g;have h7:=Bk e88.g h7;have h9:=Bk e88.g h9;have h38:=Bk e88.g h38;cases h89;refine gn (σ':=[some Z0H,some v6,some v8,some<|.int y1.2.2,some<|.int y15,some<|.int y24,some v37,d39,some<|.bl s75,some<|.str<|aT a74]) ?_;unfold fZ at hq;refine gP (Er:=Er) (Iv:=fun(s111:Bool)(W112:Wd)(g113:St)=>g113=[some Z0H,some v6,some v8,some<|.int y1.2.2,some<|.int y15,some<|.int y24,some v37,d39,some<|.bl s111,some<|.str<|aT a74]/\Ext W0 W112) (mP<|js (aU h7) (aU h9) bf bf cV) (Bm hq) ?_ ?_ ?_
    ·intro W96 N99 e97 hN100 hq;have hs101:=e97.g;have E0:=E0.trans e97;have hB87:=hB87.trans e97.g;have h7:=Bk e97.g h7;have h9:=Bk e97.g h9;have h38:=Bk e97.g h38;refine cW (Er:=Er) eQ<|fun v104 W102 e103 h105=>?_;cases h105;have E0:=E0.trans e103;have hB87:=hB87.trans e103.g;have hs101:=hs101.trans e103.g;have h7:=Bk e103.g h7;have h9:=Bk e103.g h9;have h38:=Bk e103.g h38;exact hN100 true W102 _ hs101 ⟨rfl,E0⟩ hq
    ·intro W96 N99 e97 hN100 hq;have hs106:=e97.g;have E0:=E0.trans e97;have hB87:=hB87.trans e97.g;have h7:=Bk e97.g h7;have h9:=Bk e97.g h9;have h38:=Bk e97.g h38
     try dsimp only[aF]
     exact hN100 s75 W96 _ hs106 ⟨rfl,E0⟩ hq
    ·intro s107 W108 sg109 hS110 iv hq;obtain⟨rfl,E0⟩:=iv;have hB87:=hB87.trans hS110;have h7:=Bk hS110 h7;have h9:=Bk hS110 h9;have h38:=Bk hS110 h38
     try dsimp only
     refine bU (W:=W108) s107 hB87 ?_ hq;exact⟨_,rfl,E0⟩
   ·intro s115 W116 sg117 hS118 iv hq;obtain⟨d79,rfl,E0⟩:=iv;have h7:=Bk hS118 h7;have h9:=Bk hS118 h9;have h38:=Bk hS118 h38;refine eH (Er:=Er) (dg (mP zr) (xI (mP (mW (by decide) (js (aU h7) (DY<|hX<|DK<|aU h9) bf bf<|aU h38) eQ))))<|(Bm hq).imp fun y121 hq W122 e123=>?_;have E0:=E0.trans e123;have h7:=Bk e123.g h7;have h9:=Bk e123.g h9;have h38:=Bk e123.g h38;by_cases hb134:y121=true
    ·rw[if_pos hb134]at hq ⊢;exact aX (Er:=Er) eQ<|fun v124 W125 e126 h127=>hq v124 W125 (E0.trans e126) h127
    ·rw[if_neg hb134]at hq ⊢
     try dsimp only[aF]
     exact aX (Er:=Er) (mW (by decide) (js (aU h7) (DY<|hX<|DK<|aU h9) bf bf<|EVt.ev<|qO (aU h7) (DY<|hX<|DK<|aU h9) bf bf)<|xJ zr)<|Ce hq fun y130 hq v131 W132 e133 h134=>hq v131 W132 (E0.trans e133) h134
end
end Wb
namespace Wb
open PySem L2
section
variable{P:BK}{w:BQ}{K:Br}{mg:Str->Option Bs}{base:Heap}
theorem wB{f:Addr}{fd:BW}{ps:List Str}{k:Nat}:FnOk P w K mg base CX0 k f fd ps (gr K 0):=⟨fun _ _ _ _ h=>h.elim,fun _ _ _ _ _ _ _ _ _ _ _ _ _ h=>h.elim⟩
theorem ko{K:Br}(a b:String)(r:Bool)(h:DG [] (.type a) (.type b)=some r):DG K (.type a) (.type b)=some r:=by first|exact h|(rw[<-h];rfl)
theorem gb{c:TT}{t rest:TS}{D:Ends}{σ:St}{H:Hp}(h:∀Q:Bool->Hp->Prop,Q false H->c σ H Q)(k:rest D σ H):fN (iV c t aF) rest D σ H:=h _ k
theorem nr{c:TT}{t rest:TS}{D:Ends}{σ:St}{H:Hp}(h:∀Q:Bool->Hp->Prop,Q true H->c σ H Q)(k:t {D with nx:=rest D} σ H):fN (iV c t aF) rest D σ H:=h _ k
local macro_rules | `(tactic|walk_at "S0")=>`(tactic|simp only[cz,bC,cY,bD,tC,dW,ak,aN,cq,aF,bI,aP,cu,br,cw,tB,fv,rU,eW,rI,cx,bW,aV,bj,fG,cE,fM,cF,bA,cG,bB,fw,bw,aL,eJ,fJ,fH,fI,cH,cK,cf,cy,cJ,aI,aR,L2.start,CP,Fp,Ha,G0,DP,D4,G5,DH,Gw,Gx,Dc,CN,GJ,exists_eq_left',exists_eq_left,exists_and_left,exists_eq',exists_const,ER.injEq,Lo.injEq,Fz.injEq,V.ref.injEq,V.ty.injEq,Hw,and_true,true_and,reduceCtorEq,false_and,and_false,exists_false,or_false,false_or,decide_eq_true_eq,GK,decide_eq_false_iff_not,if_true,if_false,C6,ite_true,ite_false,FI,HU,Ig,Ih,and_assoc])
local macro_rules | `(tactic|walk_at "S1")=>`(tactic|simp only[cz,fN,iV,bC,cY,bD,tC,dW,ak,aN,cq,aF,bI,aP,cu,br,cw,tB,fv,rU,eW,rI,cx,bW,aV,bj,fG,cE,fM,cF,bA,cG,bB,fw,bw,aL,eJ,fJ,fH,fI,cH,cK,cf,cy,cJ,aI,aR,L2.start,CP,Fp,Ha,G0,DP,D4,G5,DH,Gw,Gx,Dc,CN,GJ,exists_eq_left',exists_eq_left,exists_and_left,exists_eq',exists_const,ER.injEq,Lo.injEq,Fz.injEq,V.ref.injEq,V.ty.injEq,Hw,and_true,true_and,reduceCtorEq,false_and,and_false,exists_false,or_false,false_or,decide_eq_true_eq,GK,decide_eq_false_iff_not,if_true,if_false,C6,ite_true,ite_false,FI,HU,Ig,Ih,and_assoc])
theorem uv{f:Addr}{fd:BW}(F:Fun K "_law_same" "_law_same" (tp 49) f fd)(h_len:mg "len"=none)(h_isinstance:mg "isinstance"=none)(h_bool:mg "bool"=none)(h_int:mg "int"=none)(h_str:mg "str"=none)(h_list:mg "list"=none)(h_tuple:mg "tuple"=none)(h_zip:mg "zip"=none){n:Nat}
  (Z1j:Cal P w K mg base "_law_same" ["_law_found","_law_due"] n (gr K n)):FnOk P w K mg base CX0 (n+1) f fd ["_law_found","_law_due"] (gr K<|n+1):=by
 have SC:FnScope ["_law_found","_law_due","_law_one","_law_other"] ["_law_found","_law_due"] (defScope<|tp 49):=by walk_at "F"
 refine F.ok SC (fun vs H Q E h=>?_)<|fun cdv A outer s H vs Q E hr h=>?_;·obtain⟨v,u,rfl,_⟩:=h;rfl
 ·obtain⟨v,u,rfl,h⟩:=h;have hr:Room n _:=hr
  refine⟨_,(af (bo (FT<|mw (ar (op_isN.or jh) (pv 1) xn<|ay _)<|mw (ar (op_isN.or jh) (pv 1) cU<|ay _)<|l9<|ar (op_isN.or jh) (pv 1) cU<|ay _) (ag (aD (iq (cP bO (aq (bu (K:=K) rfl) (by rfl) h_isinstance C1 (a8 (pv 0) (a8 (dt (v:=.ty "bool") (by rfl) h_bool Fw rfl) ae))) (aq (bu (K:=K) rfl) (by rfl) h_isinstance C1 (a8 (pv 1) (a8 (dt (v:=.ty "bool") (by rfl) h_bool Fw rfl) ae)))<|ay _)<|ip<|cP bO (pv 0) (pv 1)<|ay _))) aH)
   (af (bo (de (aq (bu (K:=K) rfl) (by rfl) h_isinstance C1 (a8 (pv 1) (a8 (dt (v:=.ty "int") (by rfl) h_int E1 rfl) ae)))) (ag (aD (iq (aq (bu (K:=K) rfl) (by rfl) h_isinstance C1 (a8 (pv 0) (a8 (dt (v:=.ty "int") (by rfl) h_int E1 rfl) ae))) (iq (rK (aq (bu (K:=K) rfl) (by rfl) h_isinstance C1 (a8 (pv 0) (a8 (dt (v:=.ty "bool") (by rfl) h_bool Fw rfl) ae))))<|ip<|cP bO (pv 0) (pv 1)<|ay _)))) aH)
   (af (bo (de (aq (bu (K:=K) rfl) (by rfl) h_isinstance C1 (a8 (pv 1) (a8 (dt (v:=.ty "str") (by rfl) h_str HI rfl) ae)))) (ag (aD (iq (aq (bu (K:=K) rfl) (by rfl) h_isinstance C1 (a8 (pv 0) (a8 (dt (v:=.ty "str") (by rfl) h_str HI rfl) ae)))<|ip<|cP bO (pv 0) (pv 1)<|ay _))) aH)
   (af (bo (FT (cQ (de (aq (bu (K:=K) rfl) (by rfl) h_isinstance C1 (a8 (pv 1) (a8 (dt (v:=.ty "list") (by rfl) h_list Df rfl) ae)))) (cO (la (de (aq (bu (K:=K) rfl) (by rfl) h_isinstance C1 (a8 (pv 0) (a8 (dt (v:=.ty "list") (by rfl) h_list Df rfl) ae)))))))) (ag<|aD cU) aH)
   (af (bo (FT (cQ (de (aq (bu (K:=K) rfl) (by rfl) h_isinstance C1 (a8 (pv 1) (a8 (dt (v:=.ty "tuple") (by rfl) h_tuple Fj rfl) ae)))) (cO (la (de (aq (bu (K:=K) rfl) (by rfl) h_isinstance C1 (a8 (pv 0) (a8 (dt (v:=.ty "tuple") (by rfl) h_tuple Fj rfl) ae)))))))) (ag<|aD cU) aH)
   (af (bo (ar gR (aq (aQ (K:=K) rfl) (by rfl) h_len C0<|a8 (pv 0) ae) (aq (aQ (K:=K) rfl) (by rfl) h_len C0<|a8 (pv 1) ae)<|ay _) (ag<|aD cU) aH)
   (af (bN BZ rfl (gi (K:=K) rfl rfl h_zip<|a8 (pv 0)<|a8 (pv 1) ae) (bZ (K:=K) (n:=2) rfl rfl (aE (bL (i:=2) SC.nd rfl (by walk_at "L")) (aE (bL (i:=3) SC.nd rfl (by walk_at "L")) bX))) (ag (bo (la (de (su Z1j hr (by rfl)<|a8 (pv 2)<|a8 (pv 3) ae))) (ag<|aD cU) aH)))
   (ag (aD cU))))))))),?_⟩
  rcases h with⟨he,q⟩|⟨x,y,rfl,rfl,q⟩
  rotate_left
  ·refine gb (fun Q q=>?_)<|gb (fun Q q=>?_)<|nr (fun Q q=>?_) ?_;·walk_at "S0";exact q
   ·walk_at "S0";exact⟨_,.str _,_,ko "str" "int" false rfl,q⟩
   ·walk_at "S0";exact⟨_,.str _,_,ko "str" "str" true rfl,q⟩
   ·walk_at "S0";refine⟨_,.str _,_,ko "str" "str" true rfl,?_⟩;walk_at "S0";simpa using q
  have fl:∀v,L2.flat v=true->(∀H',Same H H'->Q (.bl true) H')->(v=.non\/(∃b,v=.bl b)\/(∃i,v=.int i)\/∃x,v=.str x):=fun v hv _=>by
   cases v with
   |non=>exact .inl rfl
   |bl b=>exact .inr<|.inl ⟨b,rfl⟩
   |int b=>exact .inr<|.inr<|.inl ⟨b,rfl⟩
   |str b=>exact .inr<|.inr<|.inr ⟨b,rfl⟩
   |_=>cases hv
  have he':(v=u/\L2.flat v=true)\/∃m p q xs ys,n=m+1/\v=.ref p/\u=.ref q/\((H p=some (.lst xs)/\H q=some (.lst ys))\/(SqT K H p xs/\SqT K H q ys))/\xs.length=ys.length/\∀(i:Nat)(x y:V),xs[i]? =some x->ys[i]? =some y->EqK K H m x y:=by
   cases n with
   |zero=>exact .inl he
   |succ m=>rcases he with z|⟨p,q,xs,ys,z⟩;exact .inl z;exact .inr ⟨m,p,q,xs,ys,rfl,z⟩
  rcases he' with⟨rfl,hf⟩|⟨m,p,q',xs,ys,hnm,rfl,rfl,hk,hl,hi⟩
  ·rcases fl v hf q with rfl | ⟨b,rfl⟩ | ⟨i,rfl⟩ | ⟨x,rfl⟩
   ·refine nr (fun Q q=>?_) ?_;·walk_at "S0";exact q
    ·walk_at "S0";refine⟨_,.non,_,ko "NoneType" "bool" false rfl,_,.non,_,ko "NoneType" "bool" false rfl,?_⟩;walk_at "S0";exact q H<|.refl H
   ·refine nr (fun Q q=>?_) ?_;·cases b<;>walk_at "S0"<;>exact q
    ·walk_at "S0";refine⟨_,.bl _,_,ko "bool" "bool" true rfl,_,.bl _,_,ko "bool" "bool" true rfl,?_⟩;walk_at "S0";exact q H<|.refl H
   ·refine gb (fun Q q=>?_)<|nr (fun Q q=>?_) ?_;·walk_at "S0";exact q
    ·walk_at "S0";exact⟨_,.int _,_,ko "int" "int" true rfl,q⟩
    ·walk_at "S0";refine⟨_,.int _,_,ko "int" "int" true rfl,?_⟩;walk_at "S0";refine⟨_,.int _,_,ko "int" "bool" false rfl,?_⟩;walk_at "S0";exact q H<|.refl H
   ·refine gb (fun Q q=>?_)<|gb (fun Q q=>?_)<|nr (fun Q q=>?_) ?_;·walk_at "S0";exact q
    ·walk_at "S0";exact⟨_,.str _,_,ko "str" "int" false rfl,q⟩
    ·walk_at "S0";exact⟨_,.str _,_,ko "str" "str" true rfl,q⟩
    ·walk_at "S0";refine⟨_,.str _,_,ko "str" "str" true rfl,?_⟩;walk_at "S0";exact q H<|.refl H
  ·subst hnm;obtain⟨T,tp1,tp2,tl,src1,src2,h1,h2,e1,e2⟩:∃(T:String)(tp1:TyOf K H (.ref p) (.type T))(tp2:TyOf K H (.ref q') (.type T))(tl:(T="list"/\SqL K H p xs/\SqL K H q' ys)\/(T="tuple"/\SqT K H p xs/\SqT K H q' ys))(src1 src2:Src),(∀H',Same H H'->src1.has K H' xs)/\(∀H',Same H H'->src2.has K H' ys)/\src1.val=.ref p/\src2.val=.ref q':=by
    rcases hk with⟨a,b⟩|⟨a,b⟩
    ·exact⟨"list",.lst a,.lst b,.inl ⟨rfl,Di a,Di b⟩,.lst p,.lst q',fun H' e=>Di<|e _ _ a,fun H' e=>Di<|e _ _ b,rfl,rfl⟩
    ·exact⟨"tuple",.tup a,.tup b,.inr ⟨rfl,a,b⟩,.tup p,.tup q',fun H' e=>Dk e a,fun H' e=>Dk e b,rfl,rfl⟩
   have hi0:DG K (.type T) (.type "int")=some false:=by rcases tl with⟨rfl,_⟩|⟨rfl,_⟩;exact ko _ _ _ rfl;exact ko _ _ _ rfl
   have hs0:DG K (.type T) (.type "str")=some false:=by rcases tl with⟨rfl,_⟩|⟨rfl,_⟩;exact ko _ _ _ rfl;exact ko _ _ _ rfl
   obtain⟨bl,hl0,hl1⟩:∃bl,DG K (.type T) (.type "list")=some bl/\DG K (.type T) (.type "tuple")=some (!bl):=by rcases tl with⟨rfl,_⟩|⟨rfl,_⟩;exact⟨true,ko _ _ _ rfl,ko _ _ _ rfl⟩;exact⟨false,ko _ _ _ rfl,ko _ _ _ rfl⟩
   have ln1:mz K (.ref p) H xs.length:=by rcases tl with⟨_,t1,_⟩|⟨_,t1,_⟩;exact .inl ⟨_,t1,rfl⟩;exact .inr ⟨_,t1,rfl⟩
   have ln2:mz K (.ref q') H ys.length:=by rcases tl with⟨_,_,t2⟩|⟨_,_,t2⟩;exact .inl ⟨_,t2,rfl⟩;exact .inr ⟨_,t2,rfl⟩
   refine gb (fun Q q=>?_)<|gb (fun Q q=>?_)<|gb (fun Q q=>?_)<|gb (fun Q q=>?_)<|gb (fun Q q=>?_)<|gb (fun Q q=>?_) ?_;·walk_at "S0";exact q
   ·walk_at "S0";exact⟨_,tp2,_,hi0,q⟩
   ·walk_at "S0";exact⟨_,tp2,_,hs0,q⟩
   ·walk_at "S0";refine⟨_,tp2,_,hl0,?_⟩;cases bl with
    |false=>exact q
    |true=>walk_at "S0";exact⟨_,tp1,_,hl0,q⟩
   ·walk_at "S0";refine⟨_,tp2,_,hl1,?_⟩;cases bl with
    |true=>exact q
    |false=>walk_at "S0";exact⟨_,tp1,_,hl1,q⟩
   ·walk_at "S0";refine⟨_,ln1,_,ln2,?_⟩;simp only[hl,cz,bC,cY,bD,tC,dW,ak,aN,cq,aF,bI,aP,cu,br,cw,tB,fv,rU,eW,rI,cx,bW,aV,bj,fG,cE,fM,cF,bA,cG,bB,fw,bw,aL,eJ,fJ,fH,fI,cH,cK,cf,cy,cJ,aI,aR,L2.start,CP,Fp,Ha,G0,DP,D4,G5,DH,Gw,Gx,Dc,CN,GJ,exists_eq_left',exists_eq_left,exists_and_left,exists_eq',exists_const,ER.injEq,Lo.injEq,Fz.injEq,V.ref.injEq,V.ty.injEq,Hw,and_true,true_and,reduceCtorEq,false_and,and_false,exists_false,or_false,false_or,decide_eq_true_eq,GK,decide_eq_false_iff_not,if_true,if_false,C6,ite_true,ite_false,FI,HU,Ig,Ih,and_assoc];exact q
   ·walk_at "S1";refine⟨_,rfl,_,rfl,src1,src2,xs,ys,by rw[e1,e2],h1 H<|.refl H,h2 H<|.refl H,vv (fun i σ H2=>Same H H2/\∃a b,σ=[some (.ref p),some<|.ref q',a,b]) ⟨.refl H,none,none,rfl⟩ (fun i σ H2⟨e,_⟩=>⟨h1 H2 e,h2 H2 e⟩) hl ?_ ?_⟩
    ·rintro i x y r σ H2 hx hy hr' ⟨e,a,b,rfl⟩;walk_at "S1";refine⟨_,JR aB,rfl,?_⟩;walk_at "S1";refine⟨x,y,rfl,.inl ⟨(hi i x y hx hy).same (e.trans<|dX hr'),fun H3 e3=>?_⟩⟩;walk_at "S1";exact e.trans<|(dX hr').trans e3
    ·rintro σ H2 ⟨e,a,b,rfl⟩;walk_at "S1";exact q H2 e
def pY(K:Br):Sp:=fun vs H Q _=>∃(a:Addr)(ns:List Int),vs=[.ref a]/\SqL K H a (ns.map ER)/\ns.length<=63/\∀H',Q (.bl true) H'
end
end Wb
namespace Mi
theorem jP{s:List Int}(hs:s.length<=63)(k:Nat)(hk:k<=200):∃n,fS s (k:Int)=.ok n:=by
 unfold fS zK;by_cases h:(k:Int)<(s.length:Int)
 ·rw[if_pos (by simpa using h)];obtain⟨x,e,_⟩:=eI (xs:=s) (i:=(k:Int)) (by omega) h;exact⟨x,e⟩
 ·rw[if_neg (by simpa using h),jA (by omega) (by omega)];exact⟨_,rfl⟩
theorem yk(c b:Int)(hb:1<=b)(hb2:b<1073741824)(k:Nat)(s:Int×Int×List Int)(h1:0<=s.2.1)(hl:s.2.2.length<100000):∃s':Int×Int×List Int,yC c b (k:Int) s=.ok s'/\0<=s'.2.1/\∃v,0<=v/\v<b/\s'.2.2=s.2.2++[v]:=by
 unfold yC;have hm0:=Ca (s.1*48271+7919+(k:Int)) (show(2147483647:Int)≠0 by decide);have hm1:=BU (s.1*48271+7919+(k:Int)) (show(0:Int)<2147483647 by decide);generalize (s.1*48271+7919+(k:Int))%2147483647=mx at*
 have other:∀z:Int,0<=z%b/\z%b<b:=fun z=>⟨Ca _ (by omega),BU _ (by omega)⟩
 have A:∀z:Int,fP s.2.2 z=.ok (s.2.2++[z]):=fun z=>fF hl;have e2:((((iA mx mx).bind fun y63=>Bt<|y63%1000003).bind fun y64=>gL y64 b).bind fun y69=>fP s.2.2 y69)=.ok (s.2.2++[mx*mx%1000003%b]):=by
  rw[jz (by omega) (by omega)];simp only[Bn];rw[dR (by omega)];exact A _
 have e1:((gL s.2.1 b).bind fun y56=>fP s.2.2 y56)=.ok (s.2.2++[s.2.1%b]):=by rw[dR (by omega)];exact A _
 by_cases hf:(1000000000000000000:Int)<=dG c
 ·rw[decide_eq_true hf];by_cases hp:0<s.2.1
  ·rw[decide_eq_true hp];simp only[if_true,Bn,e1,mT (show 0<b by omega) hb2];exact⟨_,rfl,Int.ediv_nonneg h1 (by omega),_,(other _).1,(other _).2,rfl⟩
  ·rw[decide_eq_false hp];simp only[if_true,Bn,C6,if_false,e2];exact⟨_,rfl,h1,_,(other _).1,(other _).2,rfl⟩
 ·rw[decide_eq_false hf];simp only[Bn,C6,if_false,e2];exact⟨_,rfl,h1,_,(other _).1,(other _).2,rfl⟩
theorem lW(c:Int)(n:Nat)(b:Int)(hn:n<=1000)(hb:1<=b)(hb2:b<1073741824):∃ns,ic c (n:Int) b=.ok ns/\ns.length=n/\∀x∈ns,0<=x/\x<b:=by
 unfold ic zL;rw[iH (by omega),Bn];obtain⟨s,e,h0,hl,hb⟩:=cZ (f:=yC c b) (fun pre(s:Int×Int×List Int)=>0<=s.2.1/\s.2.2.length=pre.length/\∀x∈s.2.2,0<=x/\x<b) ((Cv n).map fun(i:Nat)=>(i:Int)) ((dG c)%2147483647,dG c,[]) ⟨vI c,rfl,by simp⟩ (by
  intro pre a post s e ⟨h0,hl,hb'⟩;have hlen:pre.length<n:=by have:=congrArg EK e;simp at this;omega
  obtain⟨k,rfl⟩:∃k:Nat,a=(k:Int):=by
   have:a∈(Cv n).map fun(i:Nat)=>(i:Int):=by rw[e];simp
   obtain⟨k,_,hk⟩:=BX.mp this;exact⟨k,hk.symm⟩
  obtain⟨s',e',h0',v,v0,v1,ev⟩:=yk c b hb hb2 k s h0 (by omega);refine⟨s',e',h0',by rw[ev];simp[hl],fun x hx=>?_⟩;rw[ev]at hx;rcases CU.mp hx with z|z;·exact hb' x z
  ·rw[DC.mp z];exact⟨v0,v1⟩)
 rw[e];exact⟨_,rfl,by rw[hl];simp,hb⟩
def isTurn(c:Nat):Prop:=c=102\/c=98\/c=105
instance zkeep72(c:Nat):Decidable (isTurn c):=by unfold isTurn;infer_instance
def dn(t:Tx):Prop:=∀c∈t,isTurn c
structure Card(t:Cd):Prop where
 lay:t.1=[83]\/t.1=[90]
 four:t.2.1.length=4
 col:∀c∈t.2.1,97<=c/\c<=122
 low:0<=t.2.2
 high:t.2.2<4
theorem uw(sz:Int)(ds:List Int)(hsz:1<=sz)(hd:ds.length=5)(a:Int)(t:Tx)(ht:t.length<1000):∃c,97<=c/\c<=122/\yD sz ds a t=.ok (t++[c]):=by
 unfold yD;obtain⟨x,e,_⟩:=eI (xs:=ds) (i:=4) (by decide) (by rw[hd];decide);rw[e];simp only[Bn,dR (show 0<sz by omega)];have h0:=Ca (x+a%sz*7) (show(26:Int)≠0 by decide);have h1:=BU (x+a%sz*7) (show(0:Int)<26 by decide);generalize (x+a%sz*7)%26=r at h0 h1;obtain⟨c,e2,h2⟩:=hZ (x:=([97,98,99,100,101,102,103,104,105,106,107,108,109,110,111,112,113,114,115,116,117,118,119,120,121,122]:Tx)) (i:=r) h0 (by simp;omega) (by decide);rw[e2];simp only[Bn,gp (show t.length+[c].length<=100000 by simp;omega)];have hc:c∈([97,98,99,100,101,102,103,104,105,106,107,108,109,110,111,112,113,114,115,116,117,118,119,120,121,122]:Tx):=BI h2;have:∀c∈([97,98,99,100,101,102,103,104,105,106,107,108,109,110,111,112,113,114,115,116,117,118,119,120,121,122]:Tx),97<=c/\c<=122:=by decide
 exact⟨c,(this c hc).1,(this c hc).2,rfl⟩
theorem ux(c:Int):∃t,wb c=.ok t/\t.length=4/\∀x∈t,97<=x/\x<=122:=by
 unfold wb zM;have h0:=Ca c (show(5:Int)≠0 by decide);have h1:=BU c (show(0:Int)<5 by decide);obtain⟨sz,e,h2⟩:=eI (xs:=[(1:Int),2,3,4,26]) (i:=c%5) h0 (by simp;omega);have hsz:1<=sz:=by
  have:∀x∈[(1:Int),2,3,4,26],1<=x:=by decide
  exact this sz<|BI h2
 rw[e,Bn];obtain⟨ds,e2,hd,_⟩:=lW (c/5) 5 26 (by decide) (by decide) (by decide);rw[show ic (c/5) 5 26=Bt ds from e2,Bn,show cut ds none (some 4)=ds.take 4 from jB ds 4];obtain⟨t,e3,h3,h4⟩:=cZ (f:=yD sz ds) (fun pre t=>t.length=pre.length/\∀x∈t,97<=x/\x<=122) (ds.take 4) [] ⟨rfl,by simp⟩ (by
  intro pre a post t e ⟨hl,hb⟩;have hlen:pre.length<5:=by have:=congrArg EK e;simp at this;omega
  obtain⟨c,c0,c1,ec⟩:=uw sz ds hsz hd a t (by omega);refine⟨_,ec,by simp[hl],fun x hx=>?_⟩;rcases CU.mp hx with z|z;·exact hb x z
  ·rw[DC.mp z];exact⟨c0,c1⟩)
 rw[e3];exact⟨t,rfl,by rw[h3,DT];omega,h4⟩
theorem pZ(c:Int):∃t,uW c=.ok t/\Card t:=by
 unfold uW zN;have h0:=Ca c (show(2:Int)≠0 by decide);have h1:=BU c (show(0:Int)<2 by decide);obtain⟨y,e,h2⟩:=hZ (x:=([83,90]:Tx)) (i:=c%2) h0 (by simp;omega) (by decide);obtain⟨t,e2,hl,hb⟩:=ux<|c/8;rw[e,Bn,e2,Bn];refine⟨_,rfl,?_,hl,hb,Ca _ (by decide),BU _ (by decide)⟩;have:y=83\/y=90:=by simpa using BI h2
 rcases this with rfl|rfl;·exact .inl rfl
 ·exact .inr rfl
theorem uy(d:Int)(h0:0<=d)(h1:d<3):∃c,fh ([102,98,105]:Tx) d=.ok [c]/\isTurn c:=by
 obtain⟨c,e,h⟩:=hZ (x:=([102,98,105]:Tx)) (i:=d) h0 (by simp;omega) (by decide);refine⟨c,e,?_⟩;have:=BI h;simpa [isTurn] using this
theorem uz(c:Int)(n:Nat)(hn:n<=1000):∃t,wc c (n:Int)=.ok t/\t.length=n/\dn t:=by
 unfold wc zO;by_cases h:c%7=3
 ·rw[if_pos (by simpa using h)];obtain⟨y,e,hy⟩:=uy (c/7%3) (Ca _ (by decide)) (BU _ (by decide));rw[e,Bn,vG (by omega) (by omega)];refine⟨_,rfl,by simp,fun x hx=>?_⟩;rw[List.eq_of_mem_replicate hx];exact hy
 ·rw[if_neg (by simpa using h)];obtain⟨ds,e,hl,hb⟩:=lW (c/7) n 3 hn (by decide) (by decide);rw[e,Bn];have key:∃t:List Nat,eE ds (fun(a9:Int)=>fh ([102,98,105]:Tx) a9)=.ok (t.map fun c=>[c])/\t.length=n/\dn t:=by
   have:∀d∈ds,∃c:Nat,fh ([102,98,105]:Tx) d=.ok [c]/\isTurn c:=fun d hd=>uy d (hb d hd).1 (hb d hd).2;have hf:∀d∈ds,fh ([102,98,105]:Tx) d=.ok ((fun d=>[if d=0 then 102 else if d=1 then 98 else 105]) d):=fun d hd=>by
    have h1:=hb d hd;have:d=0\/d=1\/d=2:=by omega
    rcases this with rfl|rfl|rfl<;>rfl
   rw[dY (by show ds.length<=100000;omega) hf];refine⟨ds.map fun d=>if d=0 then 102 else if d=1 then 98 else 105,by simp,by simp[hl],fun x hx=>?_⟩;obtain⟨d,_,rfl⟩:=BX.mp hx;unfold isTurn;split;·exact .inl rfl
   ·split;·exact .inr<|.inl rfl
    ·exact .inr<|.inr rfl
  obtain⟨t,e2,hl2,ht⟩:=key;rw[e2,Bn,mU (by rw[pC];omega),pC];exact⟨t,rfl,hl2,ht⟩
def go(c:Nat):Int:=if c=102 then 1 else if c=98 then -1 else 0
def tw(t:Cd)(c:Nat):Int:=if t.1=[83]then go c else -go c
def dC(t:Cd)(i:Int):Nat:=t.2.1[i.toNat]?.getD 0
def nt(i:Int):Nat:=if i=1 then 115 else if i= -1 then 122 else 111
def behind(t:Cd)(c:Nat):Cd:=(t.1,t.2.1,(t.2.2+go c)%4)
def place(t:Cd)(c:Nat):Pl:=([dC t t.2.2],[dC t ((t.2.2+2)%4)],[nt (tw t c)])
theorem zE(c:Nat): -1<=go c/\go c<=1:=by unfold go;split;omega;split<;>omega
theorem uA(t:Cd)(c:Nat): -1<=tw t c/\tw t c<=1:=by have:=zE c;unfold tw;split<;>omega
theorem Card.behind{t:Cd}(h:Card t)(c:Nat):Card (behind t c):=⟨h.lay,h.four,h.col,Ca _ (by decide),BU _ (by decide)⟩
theorem xf{c:Nat}(h:isTurn c):nM [c]=.ok (go c):=by
 unfold nM zP;rcases h with rfl|rfl|rfl<;>rfl
theorem kX{t:Cd}{c:Nat}(h:isTurn c):jc t [c]=.ok (behind t c):=by
 unfold jc zQ;rw[xf h];rfl
theorem jQ{t:Cd}{c:Nat}(h:isTurn c):fL t [c]=.ok (tw t c):=by
 unfold fL zR;rw[xf h];by_cases z:t.1=[83]
 ·rw[if_pos (by simpa using z)];unfold tw;rw[if_pos z]
 ·rw[if_neg (by simpa using z)];unfold tw;rw[if_neg z];simp only[Bn];congr 1;omega
theorem dA{t:Cd}(h:Card t){i:Int}(h0:0<=i)(h1:i<4):fh t.2.1 i=.ok [dC t i]:=xN h0 (by rw[h.four];exact h1) (by rw[h.four];decide)
theorem fe(i:Int):0<=i%4/\i%4<4:=⟨Ca _ (by decide),BU _ (by decide)⟩
theorem uB{i:Int}(h: -1<=i/\i<=1):fh ([122,111,115]:Tx) (i+1)=.ok [nt i]:=by
 have:i= -1\/i=0\/i=1:=by omega
 rcases this with rfl|rfl|rfl<;>rfl
def dM:Cd->Tx->List Pl
 |_,[]=>[]
 |t,c::r=>place (behind t c) c::dM (behind t c) r
def ends:Cd->Tx->Cd
 |t,[]=>t
 |t,c::r=>ends (behind t c) r
theorem oE(t:Cd)(x:Tx):(dM t x).length=x.length:=by
 induction x generalizing t with
 |nil=>rfl
 |cons c r ih=>simp[dM,ih]
theorem uC(x:Tx):∀(t:Cd)(c:Nat),ends t (x++[c])=behind (ends t x) c:=by
 induction x with
 |nil=>intro t c;rfl
 |cons d r ih=>intro t c;simp[ends,ih]
theorem Card.ends{t:Cd}(h:Card t)(x:Tx):Card (ends t x):=by
 induction x generalizing t with
 |nil=>exact h
 |cons c r ih=>exact ih<|h.behind c
theorem rn{t:Cd}(h:Card t){c:Nat}(hc:isTurn c){out:List Pl}(ho:out.length<100000):yE jc fL [c] (t,out)=.ok (behind t c,out++[place (behind t c) c]):=by
 unfold yE;have hb:=h.behind c;simp only[kX hc,Bn,jQ hc,uB<|uA _ _,dA hb hb.low hb.high,dA hb (fe _).1 (fe _).2];rw[fF ho];rfl
theorem kY{t:Cd}(h:Card t){x:Tx}(hx:dn x)(hl:x.length<=10000):oB t x=.ok (dM t x):=by
 unfold oB zS;have key:∀(x:Tx)(t:Cd)(out:List Pl),Card t->dn x->out.length+x.length<=10000->bQ (yE jc fL) (bE x) (t,out)=.ok (ends t x,out++dM t x):=by
  intro x
  induction x with
  |nil=>intro t out _ _ _;simp[bE,bQ,ends,dM]
  |cons c r ih=>
   intro t out h hx hl;simp only[D4]at hl;show bQ _ ([c]::bE r) _=_;unfold bQ;rw[rn h (hx c (by simp)) (by omega),Bn,ih _ _ (h.behind c) (fun d hd=>hx d (by simp[hd])) (by simp;omega)];simp[ends,dM]
 rw[key x t [] h hx (by simpa using hl)];simp
def isCol(c:Nat):Prop:=97<=c/\c<=122
def isSl(c:Nat):Prop:=c=115\/c=122\/c=111
structure Mark(m:Pl):Prop where
 a:∃c,m.1=[c]/\(isCol c\/c=63)
 b:∃c,m.2.1=[c]/\(isCol c\/c=63)
 s:∃c,m.2.2=[c]/\(isSl c\/c=63)
structure Whole(m:Pl):Prop where
 a:∃c,m.1=[c]/\isCol c
 b:∃c,m.2.1=[c]/\isCol c
 s:∃c,m.2.2=[c]/\isSl c
theorem nu{t:Cd}(h:Card t){i:Int}(h0:0<=i)(h1:i<4):isCol (dC t i):=by
 unfold dC;have:i.toNat<t.2.1.length:=by rw[h.four];omega
 simp only[Bo this,De];exact h.col _<|EX this
theorem uD(i:Int):isSl (nt i):=by unfold nt isSl;split;exact .inl rfl;split;exact .inr<|.inl rfl;exact .inr<|.inr rfl
theorem nv{t:Cd}(h:Card t)(c:Nat):Whole (place t c):=⟨⟨_,rfl,nu h h.low h.high⟩,⟨_,rfl,nu h (fe _).1 (fe _).2⟩,⟨_,rfl,uD _⟩⟩
theorem lX{t:Cd}(h:Card t)(x:Tx):∀m∈dM t x,Whole m:=by
 induction x generalizing t with
 |nil=>intro m hm;simp[dM]at hm
 |cons c r ih=>
  intro m hm;rcases BM.mp hm with rfl|hm
  ·exact nv (h.behind c) c
  ·exact ih (h.behind c) m hm
theorem ny{c:Nat}(h:isCol c):∃j d,isCol d/\j0 ([97,98,99,100,101,102,103,104,105,106,107,108,109,110,111,112,113,114,115,116,117,118,119,120,121,122,97]:Tx) [c]=.ok j/\fh ([97,98,99,100,101,102,103,104,105,106,107,108,109,110,111,112,113,114,115,116,117,118,119,120,121,122,97]:Tx) (j+1)=.ok [d]:=by
 have key:∀k:Fin 26,(match j0 ([97,98,99,100,101,102,103,104,105,106,107,108,109,110,111,112,113,114,115,116,117,118,119,120,121,122,97]:Tx) [97+k.1]with| .ok j=>(match fh ([97,98,99,100,101,102,103,104,105,106,107,108,109,110,111,112,113,114,115,116,117,118,119,120,121,122,97]:Tx) (j+1)with| .ok [d]=>decide (97<=d/\d<=122)|_=>false)|_=>false)=true:=by decide
 obtain⟨k,rfl⟩:∃k:Fin 26,c=97+k.1:=⟨⟨c-97,by have:=h.1;have:=h.2;omega⟩,by have:=h.1;show c=97+(c-97);omega⟩
 have:=key k;split at this
 ·rename_i j e;split at this
  ·rename_i d e2;exact⟨j,d,by simpa [isCol] using this,e,e2⟩
  ·cases this
 ·cases this
theorem wC{c:Nat}(h:isSl c):∃j d,isSl d/\j0 ([115,122,111]:Tx) [c]=.ok j/\fh ([122,111,115]:Tx) j=.ok [d]:=by
 rcases h with rfl|rfl|rfl;·exact⟨0,122,.inr<|.inl rfl,rfl,rfl⟩
 ·exact⟨1,111,.inr<|.inr rfl,rfl,rfl⟩
 ·exact⟨2,115,.inl rfl,rfl,rfl⟩
def wD(l:List Tx):Prop:=∃a b c,l=[[a],[b],[c]]/\isCol a/\isCol b/\isSl c
theorem uE(cell:Int){p:Pl}(hp:Whole p){d:Int}(h0:0<=d)(h1:d<64){out:List Pl}(ho:out.length<1000):(yF cell (p,d) out).Ok fun r=>∃m,Mark m/\r=out++[m]:=by
 unfold yF;obtain⟨⟨a,ea,ha⟩,⟨b,eb,hb⟩,⟨s,es,hs⟩⟩:=hp;simp only[ea,eb,es];refine gq (CO (P:=fun d'=>0<=d'/\d'<64) (lK (fun _=>eT ⟨by omega,by omega⟩) fun _=>eT ⟨h0,h1⟩) fun d1 hd1=>?_);refine gq (CO (P:=fun d'=>0<=d'/\d'<64) (lK (fun _=>eT ⟨by omega,by omega⟩) fun _=>eT hd1) fun d2 hd2=>?_);have hm0:=Ca d2 (show(3:Int)≠0 by decide);have hm1:=BU d2 (show(0:Int)<3 by decide);have step1:((if(decide<|(56:Int)<=d2)then Bt (decide<|(d2%3)<(2:Int))else Bt false).bind fun y90=>(if y90 then(((((ef [[a],[b],[s]]<|d2%3).bind fun y101=>j0 ([97,98,99,100,101,102,103,104,105,106,107,108,109,110,111,112,113,114,115,116,117,118,119,120,121,122,97]:Tx) y101).bind fun y102=>Bt<|y102+(1:Int)).bind fun y103=>fh ([97,98,99,100,101,102,103,104,105,106,107,108,109,110,111,112,113,114,115,116,117,118,119,120,121,122,97]:Tx) y103).bind fun y107=>iZ [[a],[b],[s]] (d2%3) y107).bind fun y108=>Bt y108 else Bt [[a],[b],[s]]:Res (List Tx))).Ok wD:=by
  have dflt:wD [[a],[b],[s]]:=⟨a,b,s,rfl,ha,hb,hs⟩
  refine gq<|lK (fun _=>eT ?_) fun _=>eT dflt;refine lK (fun h2=>?_) fun _=>eT dflt;generalize d2%3=r at*
  have:r=0\/r=1:=by omega
  rcases this with rfl|rfl
  ·obtain⟨j,d,hd,e1,e2⟩:=ny ha;simp only[show ef [[a],[b],[s]] 0=Bt [a]from rfl,Bn,e1,e2,show iZ [[a],[b],[s]] 0 [d]=Bt [[d],[b],[s]]from rfl];exact eT ⟨d,b,s,rfl,hd,hb,hs⟩
  ·obtain⟨j,d,hd,e1,e2⟩:=ny hb;simp only[show ef [[a],[b],[s]] 1=Bt [b]from rfl,Bn,e1,e2,show iZ [[a],[b],[s]] 1 [d]=Bt [[a],[d],[s]]from rfl];exact eT ⟨a,d,s,rfl,ha,hd,hs⟩
 refine gq<|step1.imp fun l1 ht=>?_;obtain⟨a,b,s,rfl,ha,hb,hs⟩:=ht;have step2:((if(decide<|(56:Int)<=d2)then Bt (decide<|(d2%3)=(2:Int))else Bt false).bind fun y120=>(if y120 then((((ef [[a],[b],[s]] (2:Int)).bind fun y127=>j0 ([115,122,111]:Tx) y127).bind fun y128=>fh ([122,111,115]:Tx) y128).bind fun y132=>iZ [[a],[b],[s]] (2:Int) y132).bind fun y133=>Bt y133 else Bt [[a],[b],[s]]:Res (List Tx))).Ok wD:=by
  have dflt:wD [[a],[b],[s]]:=⟨a,b,s,rfl,ha,hb,hs⟩
  refine gq<|lK (fun _=>eT ?_) fun _=>eT dflt;refine lK (fun h2=>?_) fun _=>eT dflt;obtain⟨j,d,hd,e1,e2⟩:=wC hs;simp only[show ef [[a],[b],[s]] 2=Bt [s]from rfl,Bn,e1,e2,show iZ [[a],[b],[s]] 2 [d]=Bt [[a],[b],[d]]from rfl];exact eT ⟨a,b,d,rfl,ha,hb,hd⟩
 refine gq<|step2.imp fun l2 ht=>?_;obtain⟨a,b,s,rfl,ha,hb,hs⟩:=ht;have cell1:∀(x:Nat)(k:Int),0<k->k<10->∃y,((((jn d2 k).bind fun y158=>Bt<|y158%2).bind fun y159=>Bt<|decide<|y159=(1:Int)).bind fun y160=>if y160 then Bt [x]else Bt ([63]:Tx))=.ok [y]/\(y=x\/y=63):=fun x k k0 k1=>by
  rw[mT k0 (by omega)];simp only[Bn];by_cases h:d2/k%2=1;·rw[if_pos (by simpa using h)];exact⟨x,rfl,.inl rfl⟩
  ·rw[if_neg (by simpa using h)];exact⟨63,rfl,.inr rfl⟩
 obtain⟨x,ex,hx⟩:=cell1 a 1 (by decide) (by decide);obtain⟨y,ey,hy⟩:=cell1 b 2 (by decide) (by decide);obtain⟨z,ez,hz⟩:=cell1 s 4 (by decide) (by decide);have ec:eE ([[a],[b],[s]].zip [(1:Int),2,4]) (fun(a149:Tx×Int)=>(((jn d2 a149.2).bind fun y158=>Bt<|y158%2).bind fun y159=>Bt<|decide<|y159=(1:Int)).bind fun y160=>if y160 then Bt a149.1 else Bt ([63]:Tx))=.ok [[x],[y],[z]]:=by
  unfold eE;rw[bt (show([[a],[b],[s]].zip [(1:Int),2,4]).length<=cap from(by show 3<=100000;decide)),Bn];show gX _ [([a],(1:Int)),([b],2),([s],4)]=_;simp only[gX,ex,ey,ez,Bn]
 simp only[ec,Bn,xG,fF (show out.length<100000 by omega)];refine⟨_,⟨⟨x,rfl,?_⟩,⟨y,rfl,?_⟩,⟨z,rfl,?_⟩⟩,rfl⟩
 ·rcases hx with rfl | rfl;·exact .inl ha
  ·exact .inr rfl
 ·rcases hy with rfl | rfl;·exact .inl hb
  ·exact .inr rfl
 ·rcases hz with rfl | rfl;·exact .inl hs
  ·exact .inr rfl
def uF(n:Nat)(l:List Pl):Prop:=l.length=n/\∀m∈l,Mark m
theorem lY{α β:Type}{xs:List α}{ys:List β}{p:α×β}(h:p∈xs.zip ys):p.1∈xs/\p.2∈ys:=⟨(Fb h).1,(Fb h).2⟩
theorem uG{ps:List Pl}(hp:∀p∈ps,Whole p)(hl:ps.length<=900)(cell:Int)(lies:Bool):(wd ps cell lies).Ok (uF ps.length):=by
 unfold wd zT;have e0:∃b:Int,((iA (8:Int) (if lies then(1:Int)else 0)).bind fun y9=>Bt<|(56:Int)+y9)=.ok b/\56<=b/\b<=64:=by
  cases lies;·exact⟨56,rfl,by decide,by decide⟩
  ·exact⟨64,rfl,by decide,by decide⟩
 obtain⟨b,eb,hb0,hb1⟩:=e0;rw[eb,Bn];obtain⟨ns,en,hn,hns⟩:=lW (cell/5) ps.length b (by omega) (by omega) (by omega);rw[en,Bn];obtain⟨r,er,hr⟩:=cZ (f:=yF cell) (fun pre r=>uF pre.length r) (ps.zip ns) [] ⟨rfl,by simp⟩ (by
  intro pre a post s e ⟨h1,h2⟩;have ha:a∈ps.zip ns:=by rw[e];simp
  have hlen:pre.length<900:=by have:=congrArg EK e;simp[Fd,hn]at this;omega
  obtain⟨r,er,m,hm,rfl⟩:=(uE cell (hp _ (lY ha).1) (hns _ (lY ha).2).1 (by have:=(hns _ (lY ha).2).2;omega) (out:=s) (by omega)).ex;refine⟨_,er,by simp[h1],fun x hx=>?_⟩;rcases CU.mp hx with z|z;·exact h2 x z
  ·rw[DC.mp z];exact hm)
 rw[er];refine⟨by rw[hr.1,Fd,hn];omega,hr.2⟩
def q0(t:Cd):Cd:=(if t.1=[83]then [90]else [83],[dC t 0,dC t 3,dC t 2,dC t 1],(0-t.2.2)%4)
def oF(c:Nat):Nat:=if c=102 then 98 else if c=98 then 102 else c
def q9(t:Cd)(k:Int):Cd:=(t.1,[dC t ((0-k)%4),dC t<|(1-k)%4,dC t<|(2-k)%4,dC t<|(3-k)%4],(t.2.2+k)%4)
theorem nz{t:Cd}(h:Card t):we t=.ok (q0 t):=by
 unfold we zU;have e1:((j0 ([83,90]:Tx) t.1).bind fun y5=>fh ([90,83]:Tx) y5)=.ok (if t.1=[83]then [90]else [83]):=by
  rcases h.lay with e|e<;>rw[e]<;>rfl
 rw[e1];simp only[Bn,dA h (show(0:Int)<=0 by decide) (by decide),dA h (show(0:Int)<=3 by decide) (by decide),dA h (show(0:Int)<=2 by decide) (by decide),dA h (show(0:Int)<=1 by decide) (by decide)];rfl
theorem uH{t:Cd}(h:Card t){x:Tx}(e:∀c∈x,∃i:Int,0<=i/\i<4/\c=dC t i):∀c∈x,97<=c/\c<=122:=fun c hc=>by
 obtain⟨i,h0,h1,rfl⟩:=e c hc;unfold dC;have:i.toNat<t.2.1.length:=by rw[h.four];omega
 simp only[Bo this,De];exact h.col _<|EX this
theorem Card.flip{t:Cd}(h:Card t):Card (q0 t):=by
 refine⟨?_,rfl,uH h fun c hc=>?_,(fe _).1,(fe _).2⟩
 ·unfold q0;split;·exact .inr rfl
  ·exact .inl rfl
 ·have:c=dC t 0\/c=dC t 3\/c=dC t 2\/c=dC t 1:=by simpa [q0] using hc
  rcases this with rfl|rfl|rfl|rfl;·exact⟨0,by decide,by decide,rfl⟩
  ·exact⟨3,by decide,by decide,rfl⟩
  ·exact⟨2,by decide,by decide,rfl⟩
  ·exact⟨1,by decide,by decide,rfl⟩
theorem Card.roll{t:Cd}(h:Card t)(k:Int):Card (q9 t k):=by
 refine⟨h.lay,rfl,uH h fun c hc=>?_,(fe _).1,(fe _).2⟩;have:c=dC t ((0-k)%4)\/c=dC t ((1-k)%4)\/c=dC t ((2-k)%4)\/c=dC t ((3-k)%4):=by simpa [q9] using hc
 rcases this with rfl|rfl|rfl|rfl<;>exact⟨_,(fe _).1,(fe _).2,rfl⟩
theorem wF{t:Cd}(h:Card t)(k:Int):wj t k=.ok (q9 t k):=by
 unfold wj zW;rw[show fb (4:Int)=Bt [(0:Int),1,2,3]from rfl,Bn];rw[dY (g:=fun i:Int=>[dC t ((i-k)%4)]) (by decide)<|fun i _=>dA h (fe _).1 (fe _).2];rfl
theorem uI{c:Nat}(h:isTurn c):isTurn (oF c):=by
 unfold oF;rcases h with rfl|rfl|rfl
 ·exact .inr<|.inl rfl
 ·exact .inl rfl
 ·exact .inr<|.inr rfl
theorem wG{x:Tx}(h:dn x)(hl:x.length<=10000):wg x=.ok (x.map oF):=by
 unfold wg zV;rw[dY (g:=fun t:Tx=>[oF (t.headD 0)]) (by show(bE x).length<=100000;simp[bE];omega) (fun t ht=>by
  obtain⟨c,hc,rfl⟩:=eK ht;rcases h c hc with rfl|rfl|rfl<;>rfl),Bn]
 have e:((bE x).map fun t:Tx=>[oF (t.headD 0)])=(x.map oF).map fun c=>[c]:=by simp[bE]
 rw[e,mU (by rw[pC];simp;omega),pC]
theorem oG{x:Tx}(h:dn x):dn (x.map oF):=fun c hc=>by
 obtain⟨d,hd,rfl⟩:=BX.mp hc;exact uI<|h d hd
theorem qa(i:Int)(l:List Int)(hl:l.length<1000):∃l',yG i l=.ok l'/\(∀x,x∈l'↔x∈l\/x=i)/\(l.Nodup->l'.Nodup)/\l'.length<=l.length+1:=by
 unfold yG;by_cases h:i∈l
 ·refine⟨l,?_,fun x=>⟨.inl,fun z=>z.elim id fun e=>e▸h⟩,id,by omega⟩;rw[if_neg (by simp[h])];rfl
 ·refine⟨l++ [i],?_,fun x=>by simp,fun hn=>?_,by simp⟩;·rw[if_pos (by simp[h]),fF (by omega)];rfl
  ·rw[IZ];exact⟨hn,by simp,fun a ha b hb=>by simp at hb;subst hb;intro e;subst e;exact h ha⟩
def xg(t:Cd)(x:Tx)(i:Int):Prop:=∃k,0<k/\k<=x.length/\(i=(ends t<|x.take k).2.2\/i=((ends t<|x.take k).2.2+2)%4)
theorem wH{t:Cd}(h:Card t){x:Tx}(hx:dn x)(hl:x.length<=900):∃l,wk t x=.ok l/\l.Pairwise (· <= ·)/\l.Nodup/\(∀i∈l,0<=i/\i<4)/\∀i,i∈l↔xg t x i:=by
 unfold wk zX;obtain⟨s,e,h1,h2,h3,h4⟩:=cZ (f:=zz jc) (fun pre(s:Cd×List Int)=>s.1=ends t (x.take pre.length)/\s.2.Nodup/\(∀i∈s.2,0<=i/\i<4)/\∀i,i∈s.2↔∃k,0<k/\k<=pre.length/\(i=(ends t<|x.take k).2.2\/i=((ends t<|x.take k).2.2+2)%4)) (bE x) (t,[])
  ⟨by simp[ends],by simp,by simp,fun i=>⟨fun z=>by simp at z,fun⟨k,a,b,_⟩=>by simp at b;omega⟩⟩ (by
  intro pre a post s e ⟨h1,h2,h3,h4⟩;have ha:a∈bE x:=by rw[e];simp
  obtain⟨c,hc,rfl⟩:=eK ha;have hlen:pre.length<x.length:=by have:=congrArg EK e;simp[bE]at this;omega
  have hget:x[pre.length]? =some c:=by
   have:=congrArg (fun l=>l[pre.length]?) e;simp only[bE,Bz,BH<|BD _,Gd,Dc]at this;cases z:x[pre.length]? with
   |none=>rw[z]at this;cases this
   |some d=>rw[z]at this;simp at this;rw[this]
  have htake:x.take (pre.length+1)=x.take pre.length++[c]:=by
   rw[List.take_add_one,hget];rfl
  have small:s.2.length<=4:=by
   have hsub:s.2 ⊆ [(0:Int),1,2,3]:=fun i hi=>by
    have:=h3 i hi;have:i=0\/i=1\/i=2\/i=3:=by omega
    simpa using this
   exact(FH h2 hsub)
  unfold zz;rw[h1,kX<|hx c hc,Bn];have hB:Card (behind (ends t<|x.take pre.length) c):=(h.ends _).behind c;generalize hbe:behind (ends t<|x.take pre.length) c=B at hB ⊢;obtain⟨l1,e1,m1,n1,k1⟩:=qa B.2.2 s.2 (by omega);obtain⟨l2,e2,m2,n2,k2⟩:=qa ((B.2.2+2)%4) l1 (by omega);have el:bQ yG [B.2.2,(B.2.2+2)%4] s.2=.ok l2:=by simp only[bQ,e1,e2,Bn]
  rw[el];have hE:ends t (x.take<|pre.length+1)=B:=by rw[htake,uC,hbe]
  refine⟨(B,l2),rfl,by simp[hE],n2<|n1 h2,fun i hi=>?_,fun i=>?_⟩
  ·rcases (m2 i).mp hi with z | z
   ·rcases (m1 i).mp z with z | z;·exact h3 i z
    ·rw[z];exact⟨hB.low,hB.high⟩
   ·rw[z];exact fe _
  ·rw[m2,m1,h4];constructor
   ·rintro ((⟨k,a,b,z⟩ | z) | z);·exact⟨k,a,by simp;omega,z⟩
    ·exact⟨pre.length+1,by omega,by simp,.inl (by rw[hE];exact z)⟩
    ·exact⟨pre.length+1,by omega,by simp,.inr (by rw[hE];exact z)⟩
   ·rintro ⟨k,a,b,z⟩;simp at b;rcases Nat.lt_or_ge k (pre.length+1)with q|q;·exact .inl (.inl ⟨k,a,by omega,z⟩)
    ·have:k=pre.length+1:=by omega
     subst this;rw[hE]at z;rcases z with z|z
     ·exact .inl (.inr z)
     ·exact .inr z)
 rw[e,Bn];have hsub:s.2 ⊆ [(0:Int),1,2,3]:=fun i hi=>by
  have:=h3 i hi;have:i=0\/i=1\/i=2\/i=3:=by omega
  simpa using this
 have small:=(FH h2 hsub)
 simp only[D4,G5]at small;rw[sW (by omega)];have pm:=iR s.2;refine⟨_,rfl,kL _,pm.nodup_iff.mpr h2,fun i hi=>h3 i<|pm.mem_iff.mp hi,fun i=>?_⟩;rw[pm.mem_iff,h4];unfold xg;simp[bE]
theorem yl(d:Int)(h0:0<=d)(h1:d<26):∃c,fh ([97,98,99,100,101,102,103,104,105,106,107,108,109,110,111,112,113,114,115,116,117,118,119,120,121,122]:Tx) d=.ok [c]/\97<=c/\c<=122:=by
 obtain⟨c,e,h⟩:=hZ (x:=([97,98,99,100,101,102,103,104,105,106,107,108,109,110,111,112,113,114,115,116,117,118,119,120,121,122]:Tx)) (i:=d) h0 (by simp;omega) (by decide);have:∀c∈([97,98,99,100,101,102,103,104,105,106,107,108,109,110,111,112,113,114,115,116,117,118,119,120,121,122]:Tx),97<=c/\c<=122:=by decide
 exact⟨c,e,this c<|BI h⟩
def wI(t:Cd)(i:Nat)(c:Nat):Cd:=(t.1,t.2.1.set i c,t.2.2)
theorem Card.dye{t:Cd}(h:Card t)(i:Nat){c:Nat}(h0:97<=c)(h1:c<=122):Card (wI t i c):=⟨h.lay,by simp[wI,h.four],fun x hx=>by
 rcases GA hx with z|z;·exact h.col x z
 ·rw[z];exact⟨h0,h1⟩,h.low,h.high⟩
theorem wJ{x:Tx}{i c:Nat}(h:i<x.length):x.take i++[c]++x.drop (i+1)=x.set i c:=by
 rw[List.set_eq_take_append_cons_drop,if_pos h];simp
theorem ym{t:Cd}(h:Card t){i:Nat}(hi:i<4)(c:Nat):((((qH t.2.1 none<|some (i:Int)).bind fun y83=>iB y83 [c]).bind fun y84=>(qH t.2.1 (some<|(i:Int)+(1:Int)) none).bind fun y85=>iB y84 y85).bind fun y86=>Bt (t.1,y86,t.2.2))=.ok (wI t i c):=by
 have hl:t.2.1.length<=100000:=by rw[h.four];decide
 rw[pB hl,jB,Bn,gp (by simp;have:=h.four;omega),Bn,show(i:Int)+1=((i+1:Nat):Int)from rfl,pB hl,sY,Bn,gp (by simp;have:=h.four;omega),Bn,wJ (by rw[h.four];exact hi)];rfl
theorem yn(cell:Int)(l:List Int){t:Cd}(h:Card t){i:Nat}(hi:i<4):∃t',yH cell l (i:Int) t=.ok t'/\Card t'/\(t'=t\/((i:Int)∉l/\∃c,t'=wI t i c)):=by
 unfold yH;by_cases z:(i:Int)∈l;·rw[if_neg (by simp[z])];exact⟨t,rfl,h,.inl rfl⟩
 ·rw[if_pos (by simp[z]),jz (by omega) (by omega)];simp only[Bn];obtain⟨c,e,h0,h1⟩:=yl ((cell/16+5*(i:Int))%26) (Ca _ (by decide)) (BU _ (by decide));rw[e];simp only[Bn];have:=ym h hi c;rw[this];exact⟨_,rfl,h.dye i h0 h1,.inr ⟨z,c,rfl⟩⟩
theorem yo{t:Cd}(h:Card t){x:Tx}(hx:dn x)(hl:x.length<=900)(cell:Int):(wm t x cell).Ok fun r=>Card r.1/\dn r.2/\r.2.length=x.length:=by
 unfold wm zY;refine gq<|CO (P:=fun r:Cd×Tx=>Card r.1/\dn r.2/\r.2.length=x.length) (lK (fun _=>?_) fun _=>eT ⟨h,hx,rfl⟩) fun r⟨h1,h2,h3⟩=>?_
 ·rw[nz h,Bn,wG hx (by omega),Bn];exact⟨h.flip,oG hx,by simp⟩
 ·rw[wF h1,Bn];have hr:=h1.roll<|cell/2%4;generalize q9 r.1 (cell/2%4)=R at hr ⊢;refine gq<|CO (P:=Card) (lK (fun _=>?_) fun _=>eT hr) fun c hc=>eT ⟨hc,h2,h3⟩;obtain⟨l,el,_⟩:=wH hr h2 (by omega);rw[el,Bn,show fb (4:Int)=Bt ((Cv 4).map fun(i:Nat)=>(i:Int))from rfl,Bn];obtain⟨s,es,hs⟩:=cZ (f:=yH cell l) (fun pre s=>Card s) ((Cv 4).map fun(i:Nat)=>(i:Int)) R hr (by
   intro pre a post s e hs;have ha:a∈(Cv 4).map fun(i:Nat)=>(i:Int):=by rw[e];simp
   obtain⟨i,hi,rfl⟩:=BX.mp ha;obtain⟨t',e',h',_⟩:=yn cell l hs (EH.mp hi);exact⟨t',e',h'⟩)
  rw[es];exact hs
def standAt(t:Cd)(i:Int):Cd:=(t.1,t.2.1,(if t.1=[83]then t.2.2+i else t.2.2-i)%4)
def fits(p m:Pl):Bool:=(decide (m.1=[63])||decide (m.1=p.1))&&((decide (m.2.1=[63])||decide (m.2.1=p.2.1))&&(decide (m.2.2=[63])||decide (m.2.2=p.2.2)))
theorem Card.standAt{t:Cd}(h:Card t)(i:Int):Card (standAt t i):=⟨h.lay,h.four,h.col,(fe _).1,(fe _).2⟩
theorem yp{t:Cd}(h:Card t):ie t=.ok [dC t t.2.2]:=by
 unfold ie pW;rw[show t.2.2%4=t.2.2 from J2 h.low h.high,dA h h.low h.high]
theorem rp{t:Cd}(h:Card t):wu t=.ok [dC t ((t.2.2+2)%4)]:=by
 unfold wu Aa;rw[dA h (fe _).1 (fe _).2]
theorem iS{t:Cd}{c:Nat}(h:isTurn c):oC t [c]=.ok (tw t c):=by
 unfold oC A6;have e:getD ([([102],1),([98],(-1)),([105],0)]:List (Tx×Int)) [c]=.ok (go c):=by rcases h with rfl|rfl|rfl<;>rfl
 rw[e,Bn];by_cases z:t.1=[83]
 ·rw[if_pos (by simpa using z)];unfold tw;rw[if_pos z]
 ·rw[if_neg (by simpa using z)];unfold tw;rw[if_neg z]
theorem rq{i:Int}(h: -1<=i/\i<=1):getD ([(1,[115]),((-1),[122]),(0,[111])]:List (Int×Tx)) i=.ok [nt i]:=by
 have:i= -1\/i=0\/i=1:=by omega
 rcases this with rfl|rfl|rfl<;>rfl
theorem wK{t:Cd}(h:Card t){c:Nat}(hc:isTurn c):wx t [c]=.ok (place t c):=by
 unfold wx Ab;simp only[yp h,rp h,iS hc,Bn,rq<|uA t c];rfl
theorem oH(t:Cd)(i:Int):wt t i=.ok (standAt t i):=by
 unfold wt A9 standAt;by_cases z:t.1=[83]
 ·rw[if_pos (by simpa using z),if_pos z];rfl
 ·rw[if_neg (by simpa using z),if_neg z];rfl
theorem uJ(a b:Tx):va a b=.ok (decide (b=[63])||decide (b=a)):=by
 unfold va Ac;by_cases z:b=[63]
 ·rw[if_pos (by simpa using z),decide_eq_true z];rfl
 ·rw[if_neg (by simpa using z),decide_eq_false z];rfl
theorem rA(p m:Pl):wy p m=.ok (fits p m):=by
 unfold wy Ad;rw[dY (g:=fun a1:Tx×Tx=>decide (a1.2=[63])||decide (a1.2=a1.1)) (by show 3<=100000;decide)<|fun x _=>uJ x.1 x.2,Bn];congr 1;simp[fits]
theorem rB{t:Cd}(h:Card t)(s:Int×Int){c:Nat}(hc:isTurn c)(m:Pl):ur t s [c] m=.ok (fits (place (standAt t s.1) c) m):=by
 unfold ur Ae;simp only[oH,Bn,wK (h.standAt _) hc,rA]
def aj(t:Cd)(s:Int×Int)(c:Nat):Int×Int:=(s.1+tw t c,if c=105 then s.2+1 else 0)
theorem uK{t:Cd}(s:Int×Int){c:Nat}(hc:isTurn c):uZ t s [c]=.ok (aj t s c):=by
 unfold uZ A7 aj;simp only[iS hc,Bn];by_cases z:c=105;·rw[if_pos (by simp[z]),if_pos z];rfl
 ·rw[if_neg (by simp[z]),if_neg z];rfl
def dU(s:Int×Int)(loose bound:Int):Bool:=decide (dG s.1<=bound)&&decide (s.2<=loose)
theorem kZ(s:Int×Int)(loose bound:Int):nq s loose bound=.ok (dU s loose bound):=by
 unfold nq A8 dU;by_cases z:dG s.1<=bound;·rw[if_pos (by simpa using z),decide_eq_true z];rfl
 ·rw[if_neg (by simpa using z),decide_eq_false z];rfl
def cB(t:Cd)(loose bound:Int)(s:Int×Int)(c:Nat)(m:Pl):Bool:=dU (aj t s c) loose bound&&fits (place (standAt t (aj t s c).1) c) m
def eV(t:Cd)(loose bound:Int):Int×Int->List (Nat×Pl)->Bool
 |_,[]=>true
 |s,(c,m)::r=>cB t loose bound s c m&&eV t loose bound (aj t s c) r
def iT(c:Nat):Bool:=decide<|isTurn c
theorem turnB_iff{c:Nat}:iT c=true↔isTurn c:=decide_eq_true_iff
def lZ(x:Tx)(n:Nat):Bool:=decide (x.length=n)&&x.all iT
theorem wL(p m:Pl):dH zB ([p.1,p.2.1,p.2.2].zip [m.1,m.2.1,m.2.2]) ()=.ok (if fits p m then .nx ()else .rt false):=by
 rw[iI (g:=fun a:Tx×Tx=>if decide (a.2=[63])||decide (a.2=a.1)then none else some false) _ (fun a _=>by
  unfold zB;by_cases z:a.2=[63]
  ·simp[z]
  ·by_cases y:a.2=a.1;·simp[z,y]
   ·simp[z,y])]
 congr 1;unfold fits;simp only[ID,List.zip_nil_right,G9,List.findSome?_nil];cases decide (m.1=[63])||decide (m.1=p.1)<;>cases decide (m.2.1=[63])||decide (m.2.1=p.2.1)<;>cases decide (m.2.2=[63])||decide (m.2.2=p.2.2)<;>rfl
theorem wM{t:Cd}(loose bound:Int)(s:Int×Int)(hs: -1000000<s.2/\s.2<1000000){c:Nat}(hc:isTurn c)(m:Pl):yK fL t loose bound ([c],place (standAt t (aj t s c).1) c,m) s=.ok (if cB t loose bound s c m then .nx (aj t s c)else .rt false):=by
 unfold yK;simp only[jQ hc,Bn,wL];rw[jz (by omega) (by omega)];simp only[Bn];have e:(s.2+1)*(if decide (([c]:Tx)=[105])=true then(1:Int)else 0)=(aj t s c).2:=by
  unfold aj;by_cases z:c=105;·simp[z]
  ·simp[z]
 rw[e];have e1:s.1+tw t c=(aj t s c).1:=rfl;rw[e1];unfold cB dU;by_cases z:bound<dG (aj t s c).1
 ·have:¬dG (aj t s c).1<=bound:=by omega
  simp[z,this]
 ·have:dG (aj t s c).1<=bound:=by omega
  by_cases y:loose<(aj t s c).2
  ·have:¬(aj t s c).2<=loose:=by omega
   simp[*]
  ·have:(aj t s c).2<=loose:=by omega
   simp only[z,y,decide_false,C6,if_false,Bn,decide_eq_true ‹dG (aj t s c).1<=bound›,decide_eq_true ‹(aj t s c).2<=loose›,Bool.and_self,Ds];cases fits (place (standAt t (aj t s c).1) c) m<;>rfl
theorem m7(t:Cd)(i:Int)(c:Nat):behind (standAt t i) c=standAt t (i+tw t c):=by
 unfold behind standAt tw;split;·simp only[Kp,true_and];omega
 ·simp only[Kp,true_and];omega
theorem yq{t:Cd}(h:Card t):standAt t 0=t:=by
 unfold standAt;have:=h.low;have:=h.high;rw[Int.add_zero,Int.sub_zero,ite_self,J2 h.low h.high]
theorem l4{t:Cd}(loose bound:Int):∀(x:Tx)(strip:List Pl),dn x->∀(s:Int×Int),0<=s.2->s.2+x.length<100000->dH (yK fL t loose bound) ((bE x).zip ((dM (standAt t s.1) x).zip strip)) s=.ok (if eV t loose bound s (x.zip strip)then .nx (((x.zip strip).foldl (fun s p=>aj t s p.1) s))else .rt false)
 | [],strip,_,s,_,_=>by simp[bE,dH,eV]
 |c::r,[],_,s,_,_=>by simp[bE,dH,eV]
 |c::r,m::ms,hx,s,h0,h1=>by
  have hc:=hx c (by simp);simp only[D4]at h1;have e:(bE (c::r)).zip ((dM (standAt t s.1) (c::r)).zip (m::ms))=([c],place (standAt t (aj t s c).1) c,m)::(bE r).zip ((dM (standAt t (aj t s c).1) r).zip ms):=by
   simp only[dM,m7];rfl
  rw[e];unfold dH;rw[wM loose bound s ⟨by omega,by omega⟩ hc m,Bn];have b2:(aj t s c).2=s.2+1\/(aj t s c).2=0:=by unfold aj;split<;>simp
  have ih:=l4 (t:=t) loose bound r ms (fun d hd=>hx d (by simp[hd])) (aj t s c) (by omega) (by omega);simp only[ID,eV,Ho];cases z:cB t loose bound s c m with
  |false=>rfl
  |true=>simp only[if_true,sE,ih,Ds]
theorem rC{t:Cd}(h:Card t)(strip:List Pl)(loose bound:Int){x:Tx}(hl:x.length<=10000):pV t strip loose bound x=.ok (lZ x strip.length&&eV t loose bound (0,0) (x.zip strip)):=by
 unfold pV A5;rw[vF (by omega)];simp only[Bn];by_cases z:x.length=strip.length
 ·rw[if_neg (by simp[z])];rw[iI (g:=fun t:Tx=>cond (iT<|t.headD 0) none<|some false) _ (fun t ht=>by
   obtain⟨c,hc,rfl⟩:=eK ht;unfold A4;simp only[List.headD_cons];by_cases q:isTurn c;·rcases q with rfl|rfl|rfl<;>rfl
   ·rw[show iT c=false from decide_eq_false q];have q1:c≠102:=fun e=>q (.inl e);have q2:c≠98:=fun e=>q (.inr (.inl e));have q3:c≠105:=fun e=>q (.inr (.inr e));simp[q1,q2,q3]),Bn]
  cases hf:(bE x).findSome? fun t:Tx=>cond (iT<|t.headD 0) none (some false)with
  |some r=>
   obtain⟨t',ht',e⟩:=List.exists_of_findSome?_eq_some hf;obtain⟨c,hc,rfl⟩:=eK ht';have q:iT c=false:=by
    cases z:iT c with
    |false=>rfl
    |true=>simp[z]at e
   have:r=false:=by simpa [q] using e.symm
   subst this;have:lZ x strip.length=false:=by
    unfold lZ;rw[Bool.and_eq_false_iff];right;rw[List.all_eq_false];exact⟨c,hc,by simp[q]⟩
   simp[this]
  |none=>
   rw[List.findSome?_eq_none_iff]at hf;have hx:dn x:=fun c hc=>by
    have:=hf [c] (by unfold bE;exact BX.mpr ⟨c,hc,rfl⟩);refine CD fun q=>?_;simp[show iT c=false from decide_eq_false q]at this
   have hr:lZ x strip.length=true:=by
    unfold lZ;simp only[Ed,decide_eq_true_eq,CM];exact⟨z,fun c hc=>turnB_iff.mpr<|hx c hc⟩
   simp only[kY h hx hl,Bn];have w:=l4 (t:=t) loose bound x strip hx (0,0) (by decide) (by show(0:Int)+_<_;omega);rw[show standAt t ((0,0):Int×Int).1=t from yq h]at w;rw[w,Bn,hr,Ds];cases eV t loose bound (0,0) (x.zip strip)<;>rfl
 ·rw[if_pos (by simp;omega)];have:lZ x strip.length=false:=by unfold lZ;simp[z]
  simp[this]
theorem uL{s:List Int}(hs:s.length<=63)(most:Nat)(hm:most<=24):(uX s (most:Int)).Ok fun r=>Card r.1/\(∃n,n<=most/\uF n r.2.1)/\0<=r.2.2/\r.2.2<4:=by
 unfold uX zZ;obtain⟨c0,e0⟩:=jP hs 0 (by decide);obtain⟨c1,e1⟩:=jP hs 1 (by decide);obtain⟨c2,e2⟩:=jP hs 2 (by decide);obtain⟨c3,e3⟩:=jP hs 3 (by decide);obtain⟨c4,e4⟩:=jP hs 4 (by decide);obtain⟨t,et,ht⟩:=pZ c0;rw[show fS s 0=.ok c0 from e0,show fS s 1=.ok c1 from e1,show fS s 2=.ok c2 from e2,show fS s 3=.ok c3 from e3,show fS s 4=.ok c4 from e4];simp only[Bn,et];rw[dR (by omega),Bn];have z0:=Ca c2 (show(most:Int)+1≠0 by omega);have z1:=BU c2 (show(0:Int)<(most:Int)+1 by omega);obtain⟨n,hn⟩:∃n:Nat,c2%((most:Int)+1)=(n:Int):=⟨(c2%((most:Int)+1)).toNat,by omega⟩
 rw[hn]at z0 z1 ⊢;have hn':n<=most:=by omega
 clear hn z0 z1;obtain⟨x,ex,hxl,hx⟩:=uz c1 n (by omega);rw[ex,Bn,kY ht hx (show x.length<=10000 by omega),Bn];have hw:=lX ht x;have hpl:=oE t x;refine gq (CO (uG hw (by omega) (c3/3) _) fun l hl=>?_);rw[hpl,hxl]at hl;refine gq<|CO (P:=Card) (lK (fun _=>?_) fun _=>eT ht) fun t1 h1=>?_;·exact gq (gq ((yo ht hx (by omega) _).imp fun r hr=>eT<|eT hr.1))
 ·refine gq<|CO (P:=Card) (lK (fun _=>?_) fun _=>eT h1) fun t2 h2=>?_
  ·obtain⟨t',e',h'⟩:=pZ<|c4/ 4/ 6;rw[e'];exact h'
  ·exact⟨h2,⟨n,hn',hl⟩,(fe _).1,(fe _).2⟩
theorem yr{x:Tx}(hx:x.length<=10){out:List Tx}(ho:out.length<=1000):yI x out=.ok (out++[x++[102],x++[98],x++[105]]):=by
 unfold yI;rw[gp (by simp;omega),gp (by simp;omega),gp (by simp;omega)];simp only[Bn];rw[pA (by simp;omega)];rfl
def uM(n:Nat)(l:List Tx):Prop:=l.length=3^n/\∀x,x∈l↔x.length=n/\dn x
theorem snoc_turns{x:Tx}{c:Nat}:dn (x++[c])↔dn x/\isTurn c:=by
 unfold dn;simp only[CU,DC];constructor
 ·exact fun h=>⟨fun d hd=>h d<|.inl hd,h c<|.inr rfl⟩
 ·rintro ⟨h1,h2⟩ d (hd | rfl);·exact h1 d hd
  ·exact h2
theorem yt{n:Nat}(hn:n<4){l:List Tx}(h:uM n l)(a:Int):(yJ a l).Ok (uM<|n+1):=by
 unfold yJ;have p4:3^n<=27:=by have:=Nat.pow_le_pow_right (show 0<3 by decide) (show n<=3 by omega);simpa using this
 obtain⟨s,e,h1,h2⟩:=cZ (f:=yI) (fun pre s=>s.length=3*pre.length/\∀y,y∈s↔∃x∈pre,∃c,isTurn c/\y=x++[c]) l [] ⟨rfl,fun y=>by simp⟩ (by
  intro pre x post s e ⟨h1,h2⟩;have hx:x∈l:=by rw[e];simp
  have hl:l.length=pre.length+1+post.length:=by rw[e];simp;omega
  have:=h.1;refine⟨_,yr (by have:=((h.2 x).mp hx).1;omega) (by omega),by simp;omega,fun y=>?_⟩;rw[CU,h2];constructor
  ·rintro (⟨z,hz,c,hc,rfl⟩ | hy);·exact⟨z,by simp[hz],c,hc,rfl⟩
   ·have:y=x++ [102]\/y=x++ [98]\/y=x++ [105]:=by simpa using hy
    rcases this with rfl|rfl|rfl;·exact⟨x,by simp,102,.inl rfl,rfl⟩
    ·exact⟨x,by simp,98,.inr<|.inl rfl,rfl⟩
    ·exact⟨x,by simp,105,.inr<|.inr rfl,rfl⟩
  ·rintro ⟨z,hz,c,hc,rfl⟩;rcases CU.mp hz with hz|hz;·exact .inl ⟨z,hz,c,hc,rfl⟩
   ·have:z=x:=by simpa using hz
    subst this;right;rcases hc with rfl|rfl|rfl<;>simp)
 rw[e];refine⟨by rw[h1,h.1,Kx];omega,fun y=>?_⟩;rw[h2];constructor
 ·rintro ⟨x,hx,c,hc,rfl⟩;have:=(h.2 x).mp hx;exact⟨by simp[this.1],snoc_turns.mpr ⟨this.2,hc⟩⟩
 ·rintro ⟨hy,ht⟩;obtain⟨x,c,rfl⟩:∃x c,y=x++[c]:=⟨y.dropLast,y.getLast (by intro z;subst z;simp at hy),(List.dropLast_concat_getLast _).symm⟩
  have:=snoc_turns.mp ht;exact⟨x,(h.2 x).mpr ⟨by simpa using hy,this.1⟩,c,this.2,rfl⟩
theorem yu{n:Nat}(hn:n<=4):(wq (n:Int)).Ok (uM n):=by
 unfold wq A3;rw[iH (by omega),Bn];obtain⟨s,e,h1,h2⟩:=cZ (f:=yJ) (fun pre s=>uM pre.length s/\True) ((Cv n).map fun(i:Nat)=>(i:Int)) [[]] ⟨⟨rfl,fun x=>by
  constructor
  ·intro hx;have:x=[]:=by simpa using hx
   subst this;exact⟨rfl,fun c hc=>by cases hc⟩
  ·rintro ⟨hx,_⟩;have:x=[]:=DM.mp hx;subst this;simp⟩,trivial⟩ (by
  intro pre a post s e ⟨h1,_⟩;have:pre.length<n:=by have:=congrArg EK e;simp at this;omega
  obtain⟨s',e',h'⟩:=(yt (by omega) h1 a).ex;exact⟨s',e',by simpa using h',trivial⟩)
 rw[e];exact(by simpa using h1:uM n s)
def Bx(a b:Nat)(L:List (List<|Int×Int)):Prop:=L.length<=a/\∀l∈L,l.length<=b
theorem Bx.up{a b:Nat}{L:List (List<|Int×Int)}(h:Bx a b L):Bx (a+1) (b+1) L:=⟨by have:=h.1;omega,fun l hl=>by have:=h.2 l hl;omega⟩
theorem Bx.set{a b:Nat}{L:List (List<|Int×Int)}(h:Bx a b L)(k:Nat){l:List (Int×Int)}(hl:l.length<=b+1):Bx (a+1) (b+1) (L.set k l):=⟨by rw[Dy];have:=h.1;omega,fun x hx=>by
 rcases GA hx with z|z;·have:=h.2 x z;omega
 ·rw[z];exact hl⟩
theorem qb{α:Type}(xs:List α)(k:Nat)(y:α):(L2.insAt xs k y).length<=xs.length+1:=by
 unfold L2.insAt;rw[CS,DT,D4,FC];omega
theorem qc{α:Type}{xs:List α}{i:Int}(h0:0<=i)(h1:i<xs.length)(hl:xs.length<=1000):rm xs i=.ok (xs.eraseIdx i.toNat):=by
 unfold rm ixN;rw[bt (show xs.length<=cap by show xs.length<=100000;omega),Bn,if_pos h0,if_pos h1];rfl
theorem qd{α:Type}{xs:List α}{i:Int}{y:α}(h0:0<=i)(h1:i<=xs.length)(hl:xs.length<=1000):uo xs i y=.ok (L2.insAt xs i.toNat y):=bt ⟨h0,h1,by show xs.length<100000;omega⟩
theorem m8{α β:Type}{xs:List β}{f:List β->α}{i:Int}(h0:0<=i)(h1:i<xs.length):∃b,xs[i.toNat]? =some b/\lL (xs,f) i=.ok (b,fun b'=>f<|xs.set i.toNat b'):=by
 have hl:i.toNat<xs.length:=by omega
 refine⟨xs[i.toNat],Bo hl,?_⟩;unfold lL;have e1:ixN xs.length i=some i.toNat:=by
  unfold ixN;rw[if_pos h0,if_pos h1]
 show(rF<|ixN xs.length i).bind _=_;rw[e1];show(rF xs[i.toNat]?).bind _=_;rw[Bo hl];rfl
theorem wN{L:List (List<|Int×Int)}{a b:Nat}(hB:Bx a b L)(h1:a<=900)(h2:b<=900)(cell:Int):(nN L cell).Ok (Bx (a+1)<|b+1):=by
 have hLa:L.length<=900:=by have:=hB.1;omega
 unfold nN A2;obtain⟨ds,ed,dl,hd⟩:=lW (cell/7) 4 30030 (by decide) (by decide) (by decide);have dget:∀k:Nat,k<4->∃v,ef ds (k:Int)=.ok v/\0<=v:=fun k hk=>by
  obtain⟨v,e1,e2⟩:=eI (xs:=ds) (i:=(k:Int)) (by omega) (by rw[dl];omega);exact⟨v,e1,(hd v<|BI e2).1⟩
 obtain⟨d0,e0,p0⟩:=dget 0 (by decide);obtain⟨d1,e1,p1⟩:=dget 1 (by decide);obtain⟨d2,e2,p2⟩:=dget 2 (by decide);obtain⟨d3,e3,p3⟩:=dget 3 (by decide);rw[dY (f:=fun(a1:List (Int×Int))=>Bt a1) (g:=fun x=>x) (by show L.length<=100000;omega)<|fun _ _=>rfl,show(L.map fun x=>x)=L from List.map_id' L,Bn,show ic (cell/7) (4:Int) 30030=.ok ds from ed,Bn,show ef ds (0:Int)=.ok d0 from e0,show ef ds (1:Int)=.ok d1 from e1,show ef ds (2:Int)=.ok d2 from e2,show ef ds (3:Int)=.ok d3 from e3,Bn];obtain⟨at_,ea,a0,a1⟩:∃at_,gL d0 (if(L.length:Int)>(1:Int)then(L.length:Int)else(1:Int))=.ok at_/\0<=at_/\(0<L.length->at_<L.length):=by
  by_cases z:(L.length:Int)>1
  ·rw[if_pos z];exact⟨d0%(L.length:Int),dR (by omega),Ca _ (by omega),fun _=>BU _ (by omega)⟩
  ·rw[if_neg z];exact⟨d0%1,dR (by omega),Ca _ (by omega),fun h=>by have:=BU d0 (b:=1) (by omega);omega⟩
 rw[ea,Bn];refine gq<|CO (P:=fun _=>True) trivial fun s0 _=>?_;refine gq<|CO (P:=fun _=>True) ?_ fun st _=>?_
 ·simp only[Bn];refine lK (fun _=>?_) fun _=>trivial;have q1:d2%5=0\/d2%5=1\/d2%5=2\/d2%5=3\/d2%5=4:=by omega
  have q2:d3/6%4=0\/d3/6%4=1\/d3/6%4=2\/d3/6%4=3:=by omega
  generalize d2%5=u at q1;generalize d3/6%4=w at q2;rcases q1 with rfl|rfl|rfl|rfl|rfl<;>rcases q2 with rfl|rfl|rfl|rfl<;>exact trivial
 refine gq<|CO (P:=fun s=>s=L\/(cell%7=1/\Bx (a+1) (b+1) s)) ?_ fun s1 hs1=>?_
 ·refine gq<|CO (P:=fun y=>y=true->cell% 7=1/\0< L.length/\∃l,L[at_.toNat]? =some l/\0< l.length) ?_ fun y hy=>zh (fun z=>?_) fun _=>eT<|.inl rfl
  ·refine lK (fun c=>lK (fun z=>?_) fun _=>eT fun z=>by cases z) fun _=>eT fun z=>by cases z
   have hz:0<L.length:=by omega
   obtain⟨l,el,hl⟩:=eI (xs:=L) (i:=at_) a0 (by have:=a1 hz;omega);rw[el,Bn,Bn];exact eT fun q=>⟨c,hz,l,hl,by have:=of_decide_eq_true q;omega⟩
  ·obtain⟨c,hz,l,hl,hp⟩:=hy z;obtain⟨l',hl',en⟩:=m8 (xs:=L) (f:=fun b=>b) a0 (by have:=a1 hz;omega);have:l'=l:=by rw[hl]at hl';exact(C5 hl').symm
   subst this;have hll:=hB.2 l'<|BI hl;obtain⟨l2,el,hl2⟩:=eI (xs:=L) (i:=at_) a0 (by have:=a1 hz;omega);have:l2=l':=by rw[hl]at hl2;exact(C5 hl2).symm
   subst this;have m0:0<=d1%(l2.length:Int):=Ca _ (by omega);have m1:d1%(l2.length:Int)<l2.length:=BU _ (by omega);rw[show lL (L,fun(b:List (List Ii))=>b) at_=_ from en,Bn,Bn,el,Bn,Bn,dR (by omega),Bn,qc (xs:=l2) m0 m1 (by omega),Bn,Bn];exact eT (.inr ⟨c,hB.set _ (by rw[Dn];split<;>omega)⟩)
 refine gq<|CO (P:=fun s=>s=L\/(cell%7<=2/\Bx (a+1) (b+1) s)) ?_ fun s2 hs2=>?_
 ·refine gq (CO (P:=fun y=>y=true->cell% 7=2/\0< s1.length) ?_ fun y hy=>zh (fun z=>?_) fun _=>eT (hs1.imp id fun q=>⟨by omega,q.2⟩))
  ·exact lK (fun c=>eT fun q=>⟨c,by have:=of_decide_eq_true q;omega⟩) fun _=>eT fun z=>by cases z
  ·obtain⟨c,hz⟩:=hy z;have e:s1=L:=hs1.elim id fun q=>absurd q.1 (by omega);subst e;obtain⟨l',hl',en⟩:=m8 (xs:=s1) (f:=fun b=>b) a0 (by have:=a1 hz;omega);have hll:=hB.2 l'<|BI hl';obtain⟨l2,el,hl2⟩:=eI (xs:=s1) (i:=at_) a0 (by have:=a1 hz;omega);have:l2=l':=by rw[hl']at hl2;exact(C5 hl2).symm
   subst this;have m0:0<=d1%((l2.length:Int)+1):=Ca _ (by omega);have m1:d1%((l2.length:Int)+1)<(l2.length:Int)+1:=BU _ (by omega);rw[show lL (s1,fun(b:List (List Ii))=>b) at_=_ from en,Bn,Bn,el,Bn,Bn,Bn,dR (by omega),Bn,qd (xs:=l2) m0 (by omega) (by omega),Bn,Bn];exact eT (.inr ⟨by omega,hB.set _ (l:=L2.insAt l2 (d1%((l2.length:Int)+1)).toNat st) (by have:=qb l2 (d1%((l2.length:Int)+1)).toNat st;omega)⟩)
 refine gq<|CO (P:=fun s=>s=L\/(cell%7<=3/\Bx (a+1) (b+1) s)) ?_ fun s3 hs3=>?_
 ·refine gq (CO (P:=fun y=>y=true->cell% 7=3/\0< s2.length) ?_ fun y hy=>zh (fun z=>?_) fun _=>eT (hs2.imp id fun q=>⟨by omega,q.2⟩))
  ·exact lK (fun c=>eT fun q=>⟨c,by have:=of_decide_eq_true q;omega⟩) fun _=>eT fun z=>by cases z
  ·obtain⟨c,hz⟩:=hy z;have e:s2=L:=hs2.elim id fun q=>absurd q.1 (by omega);subst e;refine gq (AB (a:=s2.eraseIdx at_.toNat) ?_ (eT (.inr ⟨by omega,?_,fun l hl=>?_⟩)))
   ·show(rm s2 at_).bind (fun b=>Bt b)=_;rw[qc a0 (a1 hz) (by omega),Bn]
   ·rw[Dn];have:=hB.1;split<;>omega
   ·have:=hB.2 l<|List.mem_of_mem_eraseIdx hl;omega
 refine gq (CO (P:=fun s=>s=L\/(cell%7<=4/\Bx (a+1) (b+1) s)) (lK (fun c=>?_) fun _=>eT (hs3.imp id fun q=>⟨by omega,q.2⟩)) fun s4 hs4=>?_)
 ·have e:s3=L:=hs3.elim id fun q=>absurd q.1 (by omega);subst e;have m0:0<=d1%((s3.length:Int)+1):=Ca _ (by omega);have m1:d1%((s3.length:Int)+1)<(s3.length:Int)+1:=BU _ (by omega);rw[Bn,dR (by omega),Bn];refine gq (AB (a:=L2.insAt s3 (d1%((s3.length:Int)+1)).toNat []) ?_ (eT (.inr ⟨by omega,?_,fun l hl=>?_⟩)))
  ·show(uo s3 (d1% ((s3.length:Int)+1)) []).bind (fun b=>Bt b)=_;rw[qd m0 (by omega) (by omega),Bn]
  ·have:=qb s3 (d1%((s3.length:Int)+1)).toNat [];have:=hB.1;omega
  ·unfold L2.insAt at hl;rcases CU.mp hl with q|q
   ·have:=hB.2 l<|List.mem_of_mem_take q;omega
   ·rcases BM.mp q with rfl | q;·simp
    ·have:=hB.2 l<|List.mem_of_mem_drop q;omega
 refine gq (CO (P:=fun s=>s=L\/(cell%7<=5/\Bx (a+1) (b+1) s)) (lK (fun c=>?_) fun _=>eT (hs4.imp id fun q=>⟨by omega,q.2⟩)) fun s5 hs5=>?_)
 ·have e:s4=L:=hs4.elim id fun q=>absurd q.1 (by omega);subst e;have tk:∀x:List (Int×Int),cut x none (some (1:Int))=x.take 1:=fun x=>jB x 1;rw[dY (g:=fun x:List (Int×Int)=>x.reverse++x.take 1) (by show s4.length<=100000;omega) (fun x hx=>by
   have:=hB.2 x hx;rw[tk,pA (by simp;omega)]),Bn]
  refine eT (.inr ⟨by omega,by rw[BJ];have:=hB.1;omega,fun l hl=>?_⟩);obtain⟨x,hx,rfl⟩:=BX.mp hl;have:=hB.2 x hx;simp;omega
 refine gq<|CO (P:=Bx (a+1)<|b+1) ?_ fun s6 hs6=>eT hs6;refine gq<|CO (P:=fun y=>y=true->cell%7=6/\0<s5.length/\∃l,s5[at_.toNat]? =some l/\0<l.length) ?_ fun y hy=>zh (fun z=>?_) fun _=>eT<|hs5.elim (fun q=>q▸hB.up) fun q=>q.2
 ·refine lK (fun c=>lK (fun z=>?_) fun _=>eT fun z=>by cases z) fun _=>eT fun z=>by cases z
  have e:s5=L:=hs5.elim id fun q=>absurd q.1 (by omega);subst e;have hz:0<s5.length:=by omega
  obtain⟨l,el,hl⟩:=eI (xs:=s5) (i:=at_) a0 (by have:=a1 hz;omega);rw[el,Bn,Bn];exact eT fun q=>⟨c,hz,l,hl,by have:=of_decide_eq_true q;omega⟩
 ·obtain⟨c,hz,l,hl,hp⟩:=hy z;have e:s5=L:=hs5.elim id fun q=>absurd q.1 (by omega);subst e;obtain⟨l',hl',en⟩:=m8 (xs:=s5) (f:=fun b=>b) a0 (by have:=a1 hz;omega);have:l'=l:=by rw[hl]at hl';exact(C5 hl').symm
  subst this;have hll:=hB.2 l'<|BI hl;obtain⟨l2,el,hl2⟩:=eI (xs:=s5) (i:=at_) a0 (by have:=a1 hz;omega);have:l2=l':=by rw[hl]at hl2;exact(C5 hl2).symm
  subst this;have m0:0<=d1%(l2.length:Int):=Ca _ (by omega);have m1:d1%(l2.length:Int)<l2.length:=BU _ (by omega);rw[show lL (s5,fun(b:List (List Ii))=>b) at_=_ from en,Bn,Bn,el,Bn,Bn,dR (by omega),Bn,vH m0 m1,Bn,Bn];exact eT (hB.set _ (by rw[Dy];omega))
theorem yv{t:Cd}{c:Nat}(h:isTurn c): -1<=tw t c/\tw t c<=1:=by
 unfold tw go;rcases h with rfl|rfl|rfl<;>split<;>decide
def kq(t:Cd)(mk:Pl)(loose bound:Int)(s:Int×Int):List Nat:=[102,98,105].filter fun c=>cB t loose bound s c mk
theorem mem_onw{t:Cd}{mk:Pl}{loose bound:Int}{s:Int×Int}{c:Nat}:c∈kq t mk loose bound s↔isTurn c/\cB t loose bound s c mk=true:=by
 unfold kq;rw[Hm];simp[isTurn]
theorem l5{t:Cd}(h:Card t)(mk:Pl)(loose bound:Int)(s:Int×Int):lV t mk loose bound s=.ok ((kq t mk loose bound s).map fun c=>([c],aj t s c)):=by
 unfold lV Af kq;rw[dY (g:=fun a:Tx=>(a,aj t s<|a.headD 0)) (by show 3<=100000;decide) (fun a ha=>by
  obtain⟨c,hc,rfl⟩:=eK ha;have ht:isTurn c:=by simpa [isTurn] using hc
  rw[uK s ht];rfl),Bn]
 rw[sX (g:=fun a:Tx×(Int×Int)=>if cB t loose bound s (a.1.headD 0) mk=true then some a else none) (by show 3<=100000;decide) (fun a ha=>by
  obtain⟨x,hx,rfl⟩:=BX.mp ha;obtain⟨c,hc,rfl⟩:=eK hx;have ht:isTurn c:=by simpa [isTurn] using hc
  show((nq (aj t s c) loose bound).bind fun y=>if y then ur t (aj t s c) [c] mk else Bt false).bind (fun y=>if y then Bt (some ([c],aj t s c))else Bt none)=_;rw[kZ,Bn,rB h _ ht];show _=Bt (if cB t loose bound s c mk=true then some ([c],aj t s c)else none);unfold cB;cases dU (aj t s c) loose bound<;>cases fits (place (standAt t (aj t s c).1) c) mk<;>rfl)]
 show Bt (List.filterMap _ [([102],aj t s 102),([98],aj t s 98),([105],aj t s 105)])=_;cases h1:cB t loose bound s 102 mk<;>cases h2:cB t loose bound s 98 mk<;>cases h3:cB t loose bound s 105 mk<;>simp[h1,h2,h3]
theorem oI:∀(n:Nat)(l:List Nat),l.Nodup->(∀x∈l,x<n)->l.length<=n
 |0,l,_,h=>by
  cases l with
  |nil=>simp
  |cons a l=>exact absurd (h a<|BN ..) (by omega)
 |n+1,l,nd,h=>by
  by_cases z:n∈l
  ·have:=oI n (l.erase n) (nd.erase n) fun x hx=>by
    have h1:=h x<|Fx hx;have h2:x≠n:=fun e=>by subst e;exact(F6 nd) hx
    omega
   rw[F7 z]at this;omega
  ·have:=oI n l nd fun x hx=>by
    have h1:=h x hx;have h2:x≠n:=fun e=>z<|e▸hx;omega
   omega
theorem m9{α:Type}(pre:List α)(a:α):ef (pre++[a]) (-(1:Int))=.ok a:=by
 have e:oU (pre++[a]) (-1)=some a:=by
  unfold oU ixN;rw[if_neg (by decide),if_pos (by simp;omega)];show(pre++[a])[_]? =some a;have:(-1+((pre++[a]).length:Int)).toNat=pre.length:=by simp;omega
  rw[this];simp
 unfold ef;rw[e];rfl
theorem wO(p m:Pl)(b:Bool):bQ uY ([p.1,p.2.1,p.2.2].zip [m.1,m.2.1,m.2.2]) b=.ok (b&&fits p m):=by
 have e:∀(a:Tx×Tx)(b:Bool),uY a b=.ok (b&&(decide (a.2=[63])||decide (a.2=a.1))):=fun a b=>by
  unfold uY;by_cases z:a.2=[63]
  ·simp[z]
  ·by_cases y:a.2=a.1;·simp[z,y]
   ·simp[z,y]
 show(uY (p.1,m.1) b).bind (fun s=>(uY (p.2.1,m.2.1) s).bind fun s=>(uY (p.2.2,m.2.2) s).bind fun s=>Bt s)=_;simp only[e,Bn];unfold fits;rw[JQ,JQ]
theorem md{t:Cd}(h:Card t)(mk:Pl)(loose bound:Int)(s:Int×Int){c:Nat}(hc:isTurn c)(out:List (Int×Int))(ho:out.length<=1000):xb fL t mk loose bound s [c] out=.ok (if cB t loose bound s c mk=true then out++[aj t s c]else out):=by
 unfold xb;rw[jQ hc,Bn,jA (by split<;>decide) (by split<;>decide),Bn];have e:(s.2+1)*(if decide (([c]:Tx)=[105])=true then(1:Int)else 0)=(aj t s c).2:=by
  unfold aj;by_cases z:c=105;·simp[z]
  ·simp[z]
 have eh:(if decide (t.1=([90]:Tx))=true then Bt ((t.2.2-(s.1+tw t c))%4)else Bt ((t.2.2+(s.1+tw t c))%4):Res Int)=.ok (standAt t (aj t s c).1).2.2:=by
  unfold standAt aj;dsimp only;rcases h.lay with z|z
  ·rw[z];rfl
  ·rw[z];rfl
 rw[e,eh,Bn];have hc2:=h.standAt (aj t s c).1;have ew:(if decide (dG (s.1+tw t c)<=bound)=true then Bt (decide<|(aj t s c).2<=loose)else Bt false:Res Bool)=.ok (dU (aj t s c) loose bound):=by
  unfold dU;show(if decide (dG (aj t s c).1<=bound)=true then _ else _)=_;cases decide (dG (aj t s c).1<=bound)<;>rfl
 rw[ew,Bn];rw[show fh t.2.1 (standAt t (aj t s c).1).2.2=.ok [dC (standAt t (aj t s c).1) (standAt t (aj t s c).1).2.2]from dA hc2 hc2.low hc2.high,Bn];rw[show fh t.2.1 (((standAt t (aj t s c).1).2.2+2)%4)=.ok [dC (standAt t (aj t s c).1) (((standAt t (aj t s c).1).2.2+2)%4)]from dA hc2 (fe _).1 (fe _).2,Bn];rw[uB<|uA t c,Bn,Bn,Bn,Bn];show((bQ uY ([(place (standAt t (aj t s c).1) c).1,(place (standAt t (aj t s c).1) c).2.1,(place (standAt t (aj t s c).1) c).2.2].zip [mk.1,mk.2.1,mk.2.2])<|dU (aj t s c) loose bound).bind fun g=>(if g=true then(fP out<|aj t s c).bind fun y=>Bt y else Bt out:Res (List<|Int×Int)).bind fun s=>Bt s)=_;rw[wO,Bn];show((if cB t loose bound s c mk=true then(fP out<|aj t s c).bind fun y=>Bt y else Bt out:Res (List<|Int×Int)).bind fun s=>Bt s)=_;cases cB t loose bound s c mk with
 |false=>rfl
 |true=>rw[if_pos rfl,if_pos rfl,fF (by omega)];rfl
theorem wQ{t:Cd}(h:Card t)(mk:Pl)(loose bound:Int)(s:Int×Int):lU t mk loose bound s=.ok ((kq t mk loose bound s).map (aj t s)):=by
 unfold lU A0;show((xb fL t mk loose bound s [102] []).bind fun s1=>(xb fL t mk loose bound s [98] s1).bind fun s1=>(xb fL t mk loose bound s [105] s1).bind fun s1=>Bt s1).bind (fun s1=>Bt s1)=_;rw[md h mk loose bound s (.inl rfl) [] (by decide),Bn,md h mk loose bound s (.inr<|.inl rfl) _ (by split<;>simp),Bn,md h mk loose bound s (.inr<|.inr rfl) _ (by split<;>split<;>simp),Bn,Bn];unfold kq;cases h1:cB t loose bound s 102 mk<;>cases h2:cB t loose bound s 98 mk<;>cases h3:cB t loose bound s 105 mk<;>simp[h1,h2,h3]
def jR(k:Nat)(p:Int×Int):Prop:= -(k:Int)<=p.1/\p.1<=k/\0<=p.2/\p.2<=k
theorem ig{k:Nat}(hk:k<=4){l:List (Int×Int)}(nd:l.Nodup)(h:∀p∈l,jR k p):l.length<=45:=by
 have nd2:(l.map fun p=>((p.1+4)*5+p.2).toNat).Nodup:=by
  rw[CB,EF];refine(CB.mp nd).imp_of_mem fun{a b}ha hb hne e=>hne ?_;have h1:=h a ha;have h2:=h b hb;unfold jR at h1 h2;exact GY (by omega) (by omega)
 have:=oI 45 _ nd2 fun x hx=>by
  obtain⟨p,hp,rfl⟩:=BX.mp hx;have h1:=h p hp;unfold jR at h1;omega
 simpa using this
theorem mf{t:Cd}{k:Nat}{s:Int×Int}(hs:jR k s){c:Nat}(hc:isTurn c):jR (k+1) (aj t s c):=by
 have h1:=yv (t:=t) hc;unfold jR at hs ⊢;refine⟨?_,?_,?_,?_⟩;·show _<=s.1+tw t c;omega
 ·show s.1+tw t c<=_;omega
 ·show 0<=if c=105 then s.2+1 else 0;split<;>omega
 ·show(if c=105 then s.2+1 else 0)<=_;split<;>omega
def Nx(t:Cd)(mk:Pl)(loose bound:Int)(l:List (Int×Int))(p:Int×Int):Prop:=∃s∈l,∃c,isTurn c/\cB t loose bound s c mk=true/\p=aj t s c
theorem Nx.inb{t:Cd}{mk:Pl}{loose bound:Int}{k:Nat}{l:List (Int×Int)}(h:∀p∈l,jR k p){p:Int×Int}(n:Nx t mk loose bound l p):jR (k+1) p:=by
 obtain⟨s,hs,c,hc,hm,rfl⟩:=n;exact mf (h s hs) hc
theorem uN{t:Cd}{mk:Pl}{loose bound:Int}{p:Int×Int}:¬Nx t mk loose bound [] p:=fun⟨s,hs,_⟩=>by cases hs
theorem qe{t:Cd}{mk:Pl}{loose bound:Int}{l:List (Int×Int)}{a p:Int×Int}:Nx t mk loose bound (l++[a]) p↔Nx t mk loose bound l p\/∃c∈kq t mk loose bound a,p=aj t a c:=by
 constructor
 ·rintro ⟨q,hq,c,hc,hm,rfl⟩;rcases CU.mp hq with hq|hq;·exact .inl ⟨q,hq,c,hc,hm,rfl⟩
  ·have:q=a:=by simpa using hq
   subst this;exact .inr ⟨c,mem_onw.mpr ⟨hc,hm⟩,rfl⟩
 ·rintro (⟨q,hq,z⟩ | ⟨c,hc,rfl⟩);·exact⟨q,by simp[hq],z⟩
  ·exact⟨a,by simp,c,(mem_onw.mp hc).1,(mem_onw.mp hc).2,rfl⟩
def mj(ks:List (Int×Int))(k:Int×Int):List (Int×Int):=if k∈ks then ks else k::ks
theorem addP_mem{ks:List (Int×Int)}{k p:Int×Int}:p∈mj ks k↔p∈ks\/p=k:=by
 unfold mj;split
 ·rename_i z;exact⟨.inl,fun h=>h.elim id fun e=>e▸z⟩
 ·rw[BM];exact⟨fun h=>h.symm,fun h=>h.symm⟩
theorem qf{ks:List (Int×Int)}(h:ks.Nodup)(k:Int×Int):(mj ks k).Nodup:=by
 unfold mj;split;·exact h
 ·rename_i z;exact DQ.mpr ⟨z,h⟩
def rD(l ks:List (Int×Int)):List (Int×Int):=l.foldl mj ks
theorem ij:∀(l ks:List (Int×Int)),ks.Nodup->(rD l ks).Nodup/\∀p,p∈rD l ks↔p∈ks\/p∈l
 | [],ks,h=>⟨h,fun p=>by simp[rD]⟩
 |a::l,ks,h=>by
  have ih:=ij l (mj ks a)<|qf h a;refine⟨ih.1,fun p=>?_⟩;show p∈rD l (mj ks a)↔_;rw[ih.2,addP_mem,BM,or_assoc]
def gc(t:Cd)(mk:Pl)(loose bound:Int)(l:List (Int×Int)):List (Int×Int):=dw<|rD (l.flatMap fun s=>(kq t mk loose bound s).map (aj t s)) []
theorem nA{t:Cd}{mk:Pl}{loose bound:Int}{l:List (Int×Int)}{p:Int×Int}:p∈(l.flatMap fun s=>(kq t mk loose bound s).map (aj t s))↔Nx t mk loose bound l p:=by
 rw[List.mem_flatMap];constructor
 ·rintro ⟨s,hs,h⟩;obtain⟨c,hc,rfl⟩:=BX.mp h;exact⟨s,hs,c,(mem_onw.mp hc).1,(mem_onw.mp hc).2,rfl⟩
 ·rintro ⟨s,hs,c,h1,h2,rfl⟩;exact⟨s,hs,BX.mpr ⟨c,mem_onw.mpr ⟨h1,h2⟩,rfl⟩⟩
theorem mem_nxt{t:Cd}{mk:Pl}{loose bound:Int}{l:List (Int×Int)}{p:Int×Int}:p∈gc t mk loose bound l↔Nx t mk loose bound l p:=by
 unfold gc;rw[(dz _).mem_iff,(ij _ [] DX).2,nA];simp
theorem oJ{t:Cd}{mk:Pl}{loose bound:Int}{l S:List (Int×Int)}(nd:S.Nodup)(h:∀p,p∈S↔Nx t mk loose bound l p):dw S=gc t mk loose bound l:=by
 refine gQ ((dz S).trans ?_)<|jD S;have g:=ij (l.flatMap fun s=>(kq t mk loose bound s).map (aj t s)) [] DX;exact(List.perm_ext_iff_of_nodup nd g.1).mpr fun p=>by rw[h,g.2,nA];simp
theorem uO{k:Nat}(hk:k<=4)(ys:List (Tx×(Int×Int)))(s0:List (Int×Int))(nd:s0.Nodup)(h0:∀p∈s0,jR k p)(hy:∀a∈ys,jR k a.2):
  bQ (fun(a:Tx×(Int×Int))(s:List (Int×Int))=>qS s a.2) ys s0=.ok (rD (ys.map (·.2)) s0):=by
 induction ys generalizing s0 with
 |nil=>rfl
 |cons a ys ih=>
  have hl:=ig hk nd h0;show(qS s0 a.2).bind _=_;rw[show qS s0 a.2=.ok (mj s0 a.2)from bt (by omega),Bn];exact ih (mj s0 a.2) (qf nd _) (fun p hp=>by
   rcases addP_mem.mp hp with z|z;·exact h0 p z
   ·rw[z];exact hy a (BN ..)) fun b hb=>hy b (BP _ hb)
theorem uP{t:Cd}(h:Card t)(mk:Pl){loose bound:Int}{k:Nat}(hk:k<4){states:List (Int×Int)}(hs:∀p∈states,jR k p):oD t mk loose bound states=.ok (gc t mk loose bound states):=by
 unfold oD Ak;obtain⟨s,e,h1,h2⟩:=cZ (f:=fun(a:Int×Int)(s:List (Int×Int))=>(lV t mk loose bound a).bind fun y=>bQ (fun(a:Tx×(Int×Int))(s:List (Int×Int))=>qS s a.2) y s)
  (fun pre s=>s.Nodup/\∀p,p∈s↔Nx t mk loose bound pre p) states [] ⟨DX,fun p=>⟨fun z=>(by cases z),fun z=>absurd z uN⟩⟩ (by
  intro pre a post s e ⟨h1,h2⟩;have ha:jR k a:=hs a (by rw[e];simp);have hp:∀p∈pre,jR k p:=fun p hp=>hs p (by rw[e];simp[hp]);rw[l5 h,Bn,uO (k:=k+1) (by omega) _ s h1 (fun p hq=>((h2 p).mp hq).inb hp) (fun b hb'=>by
   obtain⟨c,hc,rfl⟩:=BX.mp hb';exact mf ha (mem_onw.mp hc).1)]
  have g:=ij (((kq t mk loose bound a).map fun c=>(([c]:Tx),aj t a c)).map (·.2)) s h1;refine⟨_,rfl,g.1,fun p=>?_⟩;rw[g.2,h2,qe,Eo,BX];exact or_congr HV ⟨fun⟨c,h1,h2⟩=>⟨c,h1,h2.symm⟩,fun⟨c,h1,h2⟩=>⟨c,h1,h2.symm⟩⟩)
 have hlen:=ig (k:=k+1) (by omega) h1 fun p hp=>((h2 p).mp hp).inb hs;rw[show bQ _ states []=Bt s from e,Bn,show tm s=.ok (dw s)from bt (by omega),oJ h1 h2]
def bq(t:Cd)(loose bound:Int):List Pl->List (Int×Int)->List (List<|Int×Int)
 | [],cur=>[cur]
 |m::r,cur=>match cur with
  | []=>[[]]
  |a::q=>(a::q)::bq t loose bound r (gc t m loose bound (a::q))
theorem rE{t:Cd}{loose bound:Int}(l:List Pl):bq t loose bound l []=[[]]:=by cases l<;>rfl
theorem gd{t:Cd}{loose bound:Int}(l:List Pl)(cur:List (Int×Int)):∃r,bq t loose bound l cur=cur::r:=by
 cases l with
 |nil=>exact⟨_,rfl⟩
 |cons m l=>cases cur with
  |nil=>exact⟨_,rfl⟩
  |cons a q=>exact⟨_,rfl⟩
theorem ik{t:Cd}(h:Card t){loose bound:Int}:∀(strip:List Pl)(k:Nat)(pre:List (List<|Int×Int))(cur:List (Int×Int)),k+strip.length<=4->pre.length+strip.length<=1000->(∀p∈cur,jR k p)->
  ∃r,dH (xc oD t loose bound) strip (pre++[cur])=.ok r/\(r=.nx (pre++bq t loose bound strip cur)\/r=.rt (pre++bq t loose bound strip cur))
 | [],k,pre,cur,_,_,_=>⟨_,rfl,.inl rfl⟩
 |m::strip,k,pre,cur,hk,hp,hc=>by
  simp only[D4]at hp hk;show ∃r,(xc oD t loose bound m<|pre++[cur]).bind _=.ok r/\_;cases cur with
  |nil=>
   refine⟨.rt<|pre++[[]],?_,.inr rfl⟩;unfold xc;rw[m9];rfl
  |cons a q=>
   have e1:xc oD t loose bound m (pre++[a::q])=.ok (.nx<|pre++[a::q]++[gc t m loose bound (a::q)]):=by
    unfold xc;rw[m9,Bn,Bn,if_neg (by simp),Bn,uP h m (show k<4 by omega) hc,Bn,fF (by simp;omega)];rfl
   rw[e1,Bn];obtain⟨r,er,hr⟩:=ik h strip (k+1) (pre++[a::q]) (gc t m loose bound (a::q)) (by omega) (by simp;omega)<|fun p hp=>(mem_nxt.mp hp).inb hc;refine⟨r,er,?_⟩;have e2:pre++bq t loose bound (m::strip) (a::q)=pre++[a::q]++bq t loose bound strip (gc t m loose bound (a::q)):=by
    rw[Du];rfl
   rw[e2];exact hr
theorem wR:∀p∈[((0:Int),(0:Int))],jR 0 p:=fun p hp=>by
 have:p=(0,0):=by simpa using hp
 subst this;exact⟨by decide,by decide,by decide,by decide⟩
theorem wU{t:Cd}(h:Card t){loose bound:Int}(h0:0<=loose)(h1:0<=bound)(hl:loose<=3)(hb:bound<=60)(strip:List Pl)(hs:strip.length<=4):wA t strip loose bound=.ok (bq t loose bound strip [(0,0)]):=by
 unfold wA Al;have w:dU (0,0) loose bound=true:=by
  unfold dU dG;simp;omega
 rw[kZ,w,Bn,if_pos rfl,Bn,Bn];obtain⟨r,er,hr⟩:=ik h strip 0 [] [(0,0)] (by omega) (by simp;omega) wR;rw[show dH _ strip [[((0:Int),(0:Int))]]=Bt r from er,Bn];rcases hr with rfl|rfl<;>rfl
theorem uQ(kvs:List ((Int×Int)×Bool))(k:Int×Int):(j5 kvs k true).map (·.1)=if k∈kvs.map (·.1)then kvs.map (·.1)else kvs.map (·.1)++[k]:=by
 unfold j5;by_cases z:k∈kvs.map (·.1)
 ·have:(kvs.any fun kv=>decide<|kv.1=k)=true:=by
   obtain⟨kv,h1,h2⟩:=BX.mp z;exact Hb.mpr ⟨kv,h1,by simpa using h2⟩
  rw[if_pos this,if_pos z,Eo];refine G8 fun kv _=>?_;show(if kv.1=k then(kv.1,true)else kv).1=kv.1;split<;>rfl
 ·have:¬(kvs.any fun kv=>decide<|kv.1=k)=true:=fun y=>by
   obtain⟨kv,h1,h2⟩:=Hb.mp y;exact z (BX.mpr ⟨kv,h1,by simpa using h2⟩)
  rw[if_neg this,if_neg z];simp
def Ks(kvs:List ((Int×Int)×Bool))(P:Int×Int->Prop):Prop:=(kvs.map (·.1)).Nodup/\∀p,p∈kvs.map (·.1)↔P p
theorem Ks.put{kvs:List ((Int×Int)×Bool)}{P:Int×Int->Prop}(h:Ks kvs P)(k:Int×Int):Ks (j5 kvs k true) fun p=>P p\/p=k:=by
 unfold Ks;rw[uQ];by_cases z:k∈kvs.map (·.1)
 ·rw[if_pos z];exact⟨h.1,fun p=>by rw[h.2];exact⟨.inl,fun y=>y.elim id fun e=>by rw[e];exact(h.2 k).mp z⟩⟩
 ·rw[if_neg z];refine⟨IZ.mpr ⟨h.1,by simp,fun a ha b hb e=>?_⟩,fun p=>by rw[CU,h.2];simp⟩;have:b=k:=by simpa using hb
  subst this;subst e;exact z ha
theorem Ks.len{kvs:List ((Int×Int)×Bool)}{P:Int×Int->Prop}(h:Ks kvs P){k:Nat}(hk:k<=4)(hb:∀p,P p->jR k p):kvs.length<=45:=by
 have:=ig hk h.1 fun p hp=>hb p<|(h.2 p).mp hp;simpa using this
theorem Ks.iff{kvs:List ((Int×Int)×Bool)}{P Q:Int×Int->Prop}(h:Ks kvs P)(e:∀p,P p↔Q p):Ks kvs Q:=⟨h.1,fun p=>(h.2 p).trans (e p)⟩
theorem nB{k:Nat}(hk:k<=4):∀(ys:List (Int×Int))(kvs:List ((Int×Int)×Bool))(P:Int×Int->Prop),Ks kvs P->(∀p,P p->jR k p)->(∀p∈ys,jR k p)->∃kvs',bQ yi ys kvs=.ok kvs'/\Ks kvs' fun p=>P p\/p∈ys
 | [],kvs,P,h,_,_=>⟨kvs,rfl,h.iff fun p=>by simp⟩
 |a::ys,kvs,P,h,hP,hy=>by
  have hl:=h.len hk hP;have e:yi a kvs=.ok (j5 kvs a true):=by
   unfold yi;rw[show tU kvs a true=.ok (j5 kvs a true)from bt (by omega)];rfl
  obtain⟨k',e',h'⟩:=nB hk ys (j5 kvs a true) _ (h.put a) (fun p hp=>hp.elim (hP p) fun e=>by rw[e];exact hy a<|BN ..) fun p hp=>hy p<|BP _ hp;refine⟨k',?_,h'.iff fun p=>by rw[BM,or_assoc]⟩;show(yi a kvs).bind _=_;rw[e,Bn];exact e'
theorem uR{t:Cd}(h:Card t)(mk:Pl){loose bound:Int}{k:Nat}(hk:k<4){pre:List (List<|Int×Int)}(hp:pre.length<=1000){cur:List (Int×Int)}(hs:∀p∈cur,jR k p):yj lU t loose bound mk (pre++[cur])=.ok (if gc t mk loose bound cur=[]then .rt (pre++[cur]++[gc t mk loose bound cur])else .nx (pre++[cur]++[gc t mk loose bound cur])):=by
 unfold yj;rw[m9,Bn];obtain⟨s,e,h1⟩:=cZ (f:=zA lU t loose bound mk) (fun pre s=>Ks s<|Nx t mk loose bound pre) cur [] ⟨DX,fun p=>⟨fun z=>(by cases z),fun z=>absurd z uN⟩⟩ (by
  intro pre a post s e h1;have ha:jR k a:=hs a (by rw[e];simp);have hq:∀p∈pre,jR k p:=fun p hp=>hs p (by rw[e];simp[hp]);unfold zA;rw[wQ h mk loose bound _,Bn];obtain⟨s',e',h'⟩:=nB (k:=k+1) (by omega) ((kq t mk loose bound a).map (aj t a)) s _ h1 (fun p n=>n.inb hq) (fun p hp=>by
   obtain⟨c,hc,rfl⟩:=BX.mp hp;exact mf ha (mem_onw.mp hc).1)
  rw[e',Bn];exact⟨s',rfl,h'.iff fun p=>by
   rw[qe,BX];exact or_congr HV ⟨fun⟨c,h1,h2⟩=>⟨c,h1,h2.symm⟩,fun⟨c,h1,h2⟩=>⟨c,h1,h2.symm⟩⟩⟩)
 have hlen:=h1.len (k:=k+1) (by omega) fun p n=>n.inb hs;rw[show bQ _ cur []=Bt s from e,Bn,show tV (s.map (·.1))=.ok (dw (s.map (·.1)))from bt ⟨by rw[BJ];omega,h1.1⟩,oJ h1.1 h1.2,Bn,fF (by simp;omega),Bn];have el:(gc t mk loose bound cur).length=s.length:=by
  rw[<-oJ h1.1 h1.2,(dz _).length_eq,BJ]
 by_cases z:gc t mk loose bound cur=[]
 ·rw[if_pos z,if_pos (by rw[z]at el;simp at el;simp[<-el])]
 ·rw[if_neg z,if_neg (fun y=>z (by
   have:s.length=0:=by simpa using y
   exact DM.mp (by omega)))]
theorem jS{t:Cd}(h:Card t){loose bound:Int}:∀(strip:List Pl)(k:Nat)(pre:List (List<|Int×Int))(cur:List (Int×Int)),k+strip.length<=4->cur≠[]->pre.length+strip.length<=1000->(∀p∈cur,jR k p)->
  ∃r,dH (yj lU t loose bound) strip (pre++[cur])=.ok r/\(r=.nx (pre++bq t loose bound strip cur)\/r=.rt (pre++bq t loose bound strip cur))
 | [],k,pre,cur,_,_,_,_=>⟨_,rfl,.inl rfl⟩
 |m::strip,k,pre,[],_,hn,hp,hc=>absurd rfl hn
 |m::strip,k,pre,a::q,hk,hn,hp,hc=>by
  simp only[D4]at hp hk;show ∃r,(yj lU t loose bound m<|pre++[a::q]).bind _=.ok r/\_;rw[uR h m (show k<4 by omega) (by omega) hc,Bn];have e2:pre++bq t loose bound (m::strip) (a::q)=pre++[a::q]++bq t loose bound strip (gc t m loose bound (a::q)):=by
   rw[Du];rfl
  rw[e2];by_cases z:gc t m loose bound (a::q)=[]
  ·rw[if_pos z,z,rE];exact⟨_,rfl,.inr rfl⟩
  ·rw[if_neg z];exact jS h strip (k+1) (pre++[a::q]) (gc t m loose bound (a::q)) (by omega) z (by simp;omega) fun p hp=>(mem_nxt.mp hp).inb hc
theorem uS{t:Cd}(h:Card t){loose bound:Int}(hl:loose<=3)(hb:bound<=60)(strip:List Pl)(hs:strip.length<=4):wo t strip loose bound=.ok (bq t loose bound strip [(0,0)]):=by
 unfold wo A1;obtain⟨r,er,hr⟩:=jS h strip 0 [] [(0,0)] (by omega) (by simp) (by simp;omega) wR;rw[show dH _ strip [[((0:Int),(0:Int))]]=Bt r from er,Bn];rcases hr with rfl|rfl<;>rfl
def cnt(t:Cd)(loose bound:Int):List Pl->Int×Int->Int
 | [],_=>1
 |m::r,s=>((kq t m loose bound s).map fun c=>cnt t loose bound r<|aj t s c).sum
def uT(b:Bool)(i:Int):Int:=if b=true then i else 0
theorem l6{t:Cd}{loose bound:Int}{m:Pl}{r:List Pl}{s:Int×Int}:cnt t loose bound (m::r) s=uT (cB t loose bound s 102 m) (cnt t loose bound r<|aj t s 102)+uT (cB t loose bound s 98 m) (cnt t loose bound r<|aj t s 98)+uT (cB t loose bound s 105 m) (cnt t loose bound r<|aj t s 105):=by
 show((kq t m loose bound s).map fun c=>cnt t loose bound r<|aj t s c).sum=_;unfold kq uT;cases h1:cB t loose bound s 102 m<;>cases h2:cB t loose bound s 98 m<;>cases h3:cB t loose bound s 105 m<;>simp[h1,h2,h3]<;>omega
theorem iK{b:Bool}{i:Int}(h:0<=i):0<=uT b i:=by unfold uT;split<;>omega
theorem iL{t:Cd}{loose bound:Int}:∀(l:List Pl)(s:Int×Int),0<=cnt t loose bound l s
 | [],_=>by show(0:Int)<=1;decide
 |m::r,s=>by
  rw[l6];have h1:=iK (b:=cB t loose bound s 102 m)<|iL (t:=t) (loose:=loose) (bound:=bound) r<|aj t s 102;have h2:=iK (b:=cB t loose bound s 98 m)<|iL (t:=t) (loose:=loose) (bound:=bound) r<|aj t s 98;have h3:=iK (b:=cB t loose bound s 105 m)<|iL (t:=t) (loose:=loose) (bound:=bound) r<|aj t s 105;omega
theorem cnt_pos{t:Cd}{loose bound:Int}{m:Pl}{r:List Pl}{s:Int×Int}:cnt t loose bound (m::r) s=0↔∀c,isTurn c->cB t loose bound s c m=true->cnt t loose bound r (aj t s c)=0:=by
 rw[l6];have n1:=iL (t:=t) (loose:=loose) (bound:=bound) r<|aj t s 102;have n2:=iL (t:=t) (loose:=loose) (bound:=bound) r<|aj t s 98;have n3:=iL (t:=t) (loose:=loose) (bound:=bound) r<|aj t s 105;have h1:=iK (b:=cB t loose bound s 102 m) n1;have h2:=iK (b:=cB t loose bound s 98 m) n2;have h3:=iK (b:=cB t loose bound s 105 m) n3;constructor
 ·intro h c hc hm;rcases hc with rfl|rfl|rfl
  ·have:uT (cB t loose bound s 102 m) (cnt t loose bound r<|aj t s 102)=0:=by omega
   rw[hm]at this;exact this
  ·have:uT (cB t loose bound s 98 m) (cnt t loose bound r<|aj t s 98)=0:=by omega
   rw[hm]at this;exact this
  ·have:uT (cB t loose bound s 105 m) (cnt t loose bound r<|aj t s 105)=0:=by omega
   rw[hm]at this;exact this
 ·intro h;have key:∀c,isTurn c->uT (cB t loose bound s c m) (cnt t loose bound r<|aj t s c)=0:=fun c hc=>by
   unfold uT;split;·rename_i z;exact h c hc z
   ·rfl
  rw[key 102<|.inl rfl,key 98<|.inr<|.inl rfl,key 105<|.inr<|.inr rfl];rfl
theorem nE{t:Cd}{loose bound:Int}(l:List Pl)(cur:List (Int×Int)):0<(bq t loose bound l cur).length:=by
 obtain⟨r,hr⟩:=gd (t:=t) (loose:=loose) (bound:=bound) l cur;rw[hr];simp
theorem iM{t:Cd}{loose bound:Int}:∀(l:List Pl)(cur:List (Int×Int)),(bq t loose bound l cur).length<=l.length+1
 | [],cur=>BD _
 |m::r,[]=>by show 1<=_;omega
 |m::r,a::q=>by
  have:=iM (t:=t) (loose:=loose) (bound:=bound) r<|gc t m loose bound (a::q);show(bq t loose bound r<|gc t m loose bound (a::q)).length+1<=r.length+1+1;omega
theorem nG{t:Cd}{loose bound:Int}:∀(l:List Pl)(cur:List (Int×Int))(i:Nat),i+1<(bq t loose bound l cur).length->∃m L,l[i]? =some m/\(bq t loose bound l cur)[i]? =some L/\(bq t loose bound l cur)[i+1]? =some (gc t m loose bound L)
 | [],cur,i,h=>absurd h (by show ¬i+1<1;omega)
 |m::r,[],i,h=>absurd h (by show ¬i+1<1;omega)
 |m::r,a::q,0,h=>by
  obtain⟨z,hz⟩:=gd (t:=t) (loose:=loose) (bound:=bound) r<|gc t m loose bound (a::q);refine⟨m,a::q,rfl,rfl,?_⟩;show(bq t loose bound r<|gc t m loose bound (a::q))[0]? =_;rw[hz];rfl
 |m::r,a::q,i+1,h=>by
  have h':i+1<(bq t loose bound r<|gc t m loose bound (a::q)).length:=by
   have:i+1+1<(bq t loose bound r<|gc t m loose bound (a::q)).length+1:=h;omega
  exact nG r (gc t m loose bound (a::q)) i h'
theorem yw{t:Cd}{m:Pl}{loose bound:Int}{l:List (Int×Int)}:(gc t m loose bound l).Nodup:=(dz _).nodup_iff.mpr (ij _ [] DX).1
theorem iN{t:Cd}{loose bound:Int}:∀(l:List Pl)(k:Nat)(cur:List (Int×Int)),k+l.length<=4->cur.Nodup->(∀p∈cur,jR k p)->∀L∈bq t loose bound l cur,L.Nodup/\L.length<=45
 | [],k,cur,hk,h1,h2,L,hL=>by
  have:L=cur:=by simpa [bq] using hL
  subst this;exact⟨h1,ig (by omega) h1 h2⟩
 |m::r,k,[],_,h1,h2,L,hL=>by
  have:L=[]:=by simpa [bq] using hL
  subst this;exact⟨DX,by simp⟩
 |m::r,k,a::q,hk,h1,h2,L,hL=>by
  simp only[D4]at hk;rcases BM.mp (show L∈(a::q)::bq t loose bound r (gc t m loose bound (a::q))from hL)with rfl|hL
  ·exact⟨h1,ig (by omega) h1 h2⟩
  ·exact iN r (k+1) _ (by omega) yw (fun p hp=>(mem_nxt.mp hp).inb h2) L hL
theorem jT{t:Cd}{loose bound:Int}:∀(l:List Pl)(cur:List (Int×Int)),∃L,(bq t loose bound l cur)[(bq t loose bound l cur).length-1]? =some L/\(L=[]\/(bq t loose bound l cur).length=l.length+1)/\(L=[]↔∀s∈cur,cnt t loose bound l s=0)
 | [],cur=>⟨cur,rfl, .inr rfl,by
  constructor
  ·intro h;rw[h];exact fun s hs=>by cases hs
  ·intro h;cases cur with
   |nil=>rfl
   |cons a q=>exact absurd (h a (BN ..)) (by show ¬(1:Int)=0;decide)⟩
 |m::r,[]=>⟨[],rfl,.inl rfl,by simp⟩
 |m::r,a::q=>by
  obtain⟨L,h1,h2,h3⟩:=jT (t:=t) (loose:=loose) (bound:=bound) r<|gc t m loose bound (a::q);have hp:=nE (t:=t) (loose:=loose) (bound:=bound) r<|gc t m loose bound (a::q);refine⟨L,?_,?_,?_⟩
  ·show((a::q)::bq t loose bound r (gc t m loose bound (a::q)))[(bq t loose bound r<|gc t m loose bound (a::q)).length+1- 1]? =some L;rw[Nat.add_sub_cancel];have e:(bq t loose bound r<|gc t m loose bound (a::q)).length=(bq t loose bound r<|gc t m loose bound (a::q)).length-1+1:=by omega
   rw[e,CN];exact h1
  ·refine h2.imp id fun h=>?_;show(bq t loose bound r<|gc t m loose bound (a::q)).length+1=_;rw[h];rfl
  ·rw[h3];constructor
   ·intro h s hs;exact cnt_pos.mpr fun c hc hm=>h _<|mem_nxt.mpr ⟨s,hs,c,hc,hm,rfl⟩
   ·intro h p hp;obtain⟨s,hs,c,hc,hm,rfl⟩:=mem_nxt.mp hp;exact cnt_pos.mp (h s hs) c hc hm
theorem uU{α:Type}{xs:List α}{a:α}(h:xs[xs.length-1]? =some a):ef xs (-(1:Int))=.ok a:=by
 have hl:xs.length-1<xs.length:=(Bw.mp h).1;have e:oU xs (-1)=some a:=by
  unfold oU ixN;rw[if_neg (by decide),if_pos (by omega)];show xs[_]? =some a;have:(-1+(xs.length:Int)).toNat=xs.length-1:=by omega
  rw[this];exact h
 unfold ef;rw[e];rfl
theorem jd{α:Type}{xs:List α}{i:Nat}{a:α}(h:xs[i]? =some a):ef xs (i:Int)=.ok a:=by
 unfold ef;rw[oV h];rfl
def nH(t:Cd)(loose bound:Int)(a:Pl×List (Int×Int)×List (Int×Int)):Bool:=a.2.1.all fun s=>(kq t a.1 loose bound s).all fun c=>a.2.2.contains<|aj t s c
def gD(t:Cd)(loose bound:Int)(strip:List Pl)(L:List (List<|Int×Int)):Bool:=
 decide (2<=L.length)&&decide (L.length<=strip.length+1)&&decide (L[L.length-1]?.getD []=[])&&(L[0]?.getD []).contains (0,0)&&(strip.zip<|L.dropLast.zip<|L.drop 1).all (nH t loose bound)
theorem nI{α:Type}{f:α->Bool}:∀(xs:List α),(xs.findSome? fun a=>if f a=true then none else some false)=if xs.all f=true then none else some false
 | []=>rfl
 |a::xs=>by
  rw[G9,GO];cases h:f a;·simp
  ·simp[nI xs]
theorem nJ{α:Type}{g:α->Unit->Res (Fl Bool Unit)}{f:α->Bool}(xs:List α)(h:∀a∈xs,g a ()=.ok (if f a=true then .nx ()else .rt false)):dH g xs ()=.ok (if xs.all f=true then .nx ()else .rt false):=by
 rw[iI (g:=fun a=>if f a=true then none else some false) xs fun a ha=>by rw[h a ha];cases f a<;>rfl,nI];cases xs.all f<;>rfl
theorem oK{t:Cd}{loose bound:Int}{strip:List Pl}(h:cnt t loose bound strip (0,0)=0):gD t loose bound strip (bq t loose bound strip [(0,0)])=true:=by
 obtain⟨r,hr⟩:=gd (t:=t) (loose:=loose) (bound:=bound) strip [(0,0)];obtain⟨E,e1,_,e3⟩:=jT (t:=t) (loose:=loose) (bound:=bound) strip [(0,0)];have hE:E=[]:=e3.mpr fun s hs=>by
  have:s=(0,0):=by simpa using hs
  rw[this];exact h
 subst hE;have hlen:=iM (t:=t) (loose:=loose) (bound:=bound) strip [(0,0)];have h2:2<=(bq t loose bound strip [(0,0)]).length:=by
  cases strip with
  |nil=>exact absurd h (by show ¬(1:Int)=0;decide)
  |cons m q=>
   have:=nE (t:=t) (loose:=loose) (bound:=bound) q<|gc t m loose bound [(0,0)];show 2<=(bq t loose bound q<|gc t m loose bound [(0,0)]).length+1;omega
 unfold gD;rw[decide_eq_true h2,decide_eq_true hlen,e1,hr];simp only[De,Ds,Dc];rw[<-hr,show decide True=true from rfl,Ds,show([((0:Int),(0:Int))]:List (Int×Int)).contains (0,0)=true from by decide,Ds,CM];intro a ha;obtain⟨i,hi⟩:=Ey.mp ha;obtain⟨z1,z2⟩:=Co.mp hi;obtain⟨z3,z4⟩:=Co.mp z2;rw[CT]at z4;rw[Fy]at z3;have hi1:1+i<(bq t loose bound strip [(0,0)]).length:=(Bw.mp z4).1;rw[CA (by omega)]at z3;obtain⟨m,L,q1,q2,q3⟩:=nG (t:=t) (loose:=loose) (bound:=bound) strip [(0,0)] i (by omega);rw[q1]at z1;rw[q2]at z3;rw[Hk,q3]at z4;unfold nH;rw[<-C5 z1,<-C5 z3,<-C5 z4,CM];intro s hs;rw[CM];intro c hc;rw[EA];exact mem_nxt.mpr ⟨s,hs,c,(mem_onw.mp hc).1,(mem_onw.mp hc).2,rfl⟩
theorem yx{t:Cd}(h:Card t)(mk:Pl)(loose bound:Int)(xs ys:List (Int×Int))(hy:ys.length<=900):wz t mk loose bound xs ys=.ok (nH t loose bound (mk,xs,ys)):=by
 unfold wz Ai;rw[bt (show ys.length<1000 by omega),Bn,nJ (f:=fun s=>(kq t mk loose bound s).all fun c=>ys.contains<|aj t s c) xs fun s hs=>?_,Bn]
 ·show _=Bt (xs.all fun s=>(kq t mk loose bound s).all fun c=>ys.contains<|aj t s c);cases (xs.all fun s=>(kq t mk loose bound s).all fun c=>ys.contains<|aj t s c)<;>rfl
 ·unfold Ah;rw[l5 h,Bn,nJ (f:=fun p:Tx×(Int×Int)=>ys.contains p.2) _ fun p hp=>?_,Bn]
  ·rw[List.all_map];show(match (if((kq t mk loose bound s).all fun c=>ys.contains<|aj t s c)=true then(Fl.nx ():Fl Bool Unit)else .rt false)with| .nx _=>_| .rt r=>_| .bk _=>_)=_;cases ((kq t mk loose bound s).all fun c=>ys.contains<|aj t s c)<;>rfl
  ·unfold Ag;cases ys.contains p.2<;>rfl
theorem nK{t:Cd}(h:Card t)(strip:List Pl)(hs:strip.length<=1000)(loose bound:Int){L:List (List<|Int×Int)}(hl:∀l∈L,l.length<=900):vb t strip loose bound L=.ok (gD t loose bound strip L):=by
 unfold vb Aj gD;by_cases h2:2<=L.length
 ·rw[if_neg (by simp;omega),Bn,decide_eq_true h2,Ds];by_cases h3:L.length<=strip.length+1
  ·rw[if_neg (by simp;omega),decide_eq_true h3,Ds];have l1:L[L.length-1]? =some L[L.length-1]:=Bo (by omega);have l0:L[0]? =some L[0]:=Bo (by omega);rw[uU l1,Bn,Bn,l1,l0,De,De];by_cases h4:L[L.length-1]=[]
   ·rw[decide_eq_true h4,Ds,h4,show(!([]:List (Int×Int)).isEmpty)=false from rfl,if_neg (by decide),show ef L (0:Int)=.ok L[0]from jd (i:=0) l0,Bn,Bn];cases h5:L[0].contains (0,0)with
    |false=>rfl
    |true=>
     rw[show(!true)=false from rfl,if_neg (by decide),Ds,show(L.length:Int)-1=((L.length-1:Nat):Int) by omega,iH (by omega),Bn];have key:∀i:Nat,i<L.length-1->(strip.zip<|L.dropLast.zip<|L.drop 1)[i]? =some (strip.getD i default,L.getD i [],L.getD (i+1) []):=fun i hi=>by
      rw[Co];refine⟨by rw[BC,Bo (show i<strip.length by omega)];rfl,?_⟩;rw[Co];constructor
      ·show L.dropLast[i]? =some (L.getD i []);rw[Fy,CA hi,BC,Bo (show i<L.length by omega)];rfl
      ·show(L.drop 1)[i]? =some (L.getD (i+1) []);rw[CT,Hk,BC,Bo (show i+1<L.length by omega)];rfl
     rw[dY (g:=fun a:Int=>nH t loose bound (strip.getD a.toNat default,L.getD a.toNat [],L.getD (a.toNat+1) [])) (by rw[BJ,IW];show _<=100000;omega) (fun a ha=>by
      obtain⟨i,hi,rfl⟩:=BX.mp ha;have hi:i<L.length-1:=by simpa using hi
      rw[jd (i:=i) (Bo (show i<strip.length by omega)),Bn,jd (i:=i) (Bo (show i<L.length by omega)),Bn,show(i:Int)+1=((i+1:Nat):Int) by omega,jd (i:=i+1) (Bo (show i+1<L.length by omega)),Bn,yx h _ loose bound _ _ (hl _ (EX _))];congr 2;simp[BC,Bo (show i<strip.length by omega),Bo (show i<L.length by omega),Bo (show i+1<L.length by omega)]),Bn]
     congr 1;rw[CK,CM,CM];constructor
     ·intro hall p hp;obtain⟨i,hi⟩:=Ey.mp hp;have hlt:i<L.length-1:=by
       have:=(Bw.mp hi).1;simp at this;omega
      rw[key i hlt]at hi;cases hi;exact hall _ (BX.mpr ⟨(i:Int),BX.mpr ⟨i,by simpa using hlt,rfl⟩,rfl⟩)
     ·intro hall b hb;obtain⟨a,ha,rfl⟩:=BX.mp hb;obtain⟨i,hi,rfl⟩:=BX.mp ha;exact hall _ (BI (key i (by simpa using hi)))
   ·rw[decide_eq_false h4,Gh,Gh];have:(!L[L.length-1].isEmpty)=true:=by
     cases q:L[L.length-1]with
     |nil=>exact absurd q h4
     |cons _ _=>rfl
    rw[this,if_pos rfl,Bn,if_pos rfl]
  ·rw[if_pos (by simp;omega),decide_eq_false h3];simp
 ·rw[if_pos (by simp;omega),Bn,if_pos rfl,decide_eq_false h2];simp
theorem l7{t:Cd}{loose bound:Int}{strip:List Pl}{L:List (List<|Int×Int)}(h:gD t loose bound strip L=true):cnt t loose bound strip (0,0)=0:=by
 unfold gD at h;simp only[Ed,decide_eq_true_eq]at h;obtain⟨⟨⟨⟨h2,h3⟩,h4⟩,h5⟩,h6⟩:=h;rw[CM]at h6;have key:∀(n i:Nat),i+n+1=L.length->∀s∈L[i]?.getD [],cnt t loose bound (strip.drop i) s=0:=by
  intro n
  induction n with
  |zero=>
   intro i hi s hs;rw[show i=L.length-1 by omega,h4]at hs;cases hs
  |succ n ih=>
   intro i hi s hs;have i1:i<strip.length:=by omega
   have i2:i<L.length:=by omega
   have i3:i+1<L.length:=by omega
   rw[Dz i1];refine cnt_pos.mpr fun c hc hm=>ih (i+1) (by omega) _ ?_;have hz:(strip.zip<|L.dropLast.zip<|L.drop 1)[i]? =some (strip[i],L[i],L[i+1]):=by
    rw[Co];refine⟨Bo i1,?_⟩;rw[Co];refine⟨?_,?_⟩;·rw[Fy,CA (by omega)];exact Bo i2
    ·rw[CT,Hk];exact Bo i3
   have st:=h6 _<|BI hz;unfold nH at st;rw[CM]at st;rw[Bo i2]at hs;have:=st s hs;rw[CM]at this;rw[Bo i3];exact EA.mp<|this c<|mem_onw.mpr ⟨hc,hm⟩
 have:=key (L.length-1) 0 (by omega) (0,0)<|EA.mp h5;simpa using this
theorem iU{t:Cd}{loose bound:Int}:∀{l:List Pl}{s:Int×Int}{x:Tx},x.length=l.length->dn x->eV t loose bound s (x.zip l)=true->cnt t loose bound l s≠0
 | [],s,x,_,_,_=>by show(1:Int)≠0;decide
 |m::r,s,[],h,_,_=>by cases h
 |m::r,s,c::y,h,hT,hd=>by
  have hd:(cB t loose bound s c m&&eV t loose bound (aj t s c) (y.zip r))=true:=hd;rw[Ed]at hd;intro z;exact iU (by simpa using h) (fun d hd=>hT d<|BP _ hd) hd.2<|cnt_pos.mp z c (hT c<|BN ..) hd.1
theorem nL{t:Cd}{loose bound:Int}:∀(l:List Pl)(s:Int×Int),cnt t loose bound l s≠0->∃x:Tx,x.length=l.length/\dn x/\eV t loose bound s (x.zip l)=true
 | [],s,_=>⟨[],rfl,(fun c(hc:c∈[])=>nomatch hc),rfl⟩
 |m::r,s,h=>by
  refine CD fun hno=>h<|cnt_pos.mpr fun c hc hm=>CD fun z=>?_;obtain⟨x,h1,h2,h3⟩:=nL r (aj t s c) z;refine hno ⟨c::x,by simp[h1],fun d hd=>?_,?_⟩
  ·rcases BM.mp hd with q | q;·rw[q];exact hc
   ·exact h2 d q
  ·show(cB t loose bound s c m && eV t loose bound (aj t s c) (x.zip r))=true;rw[hm,h3];rfl
theorem yy(ns:List Int)(h:ns.length<=63):(uu ns).Ok (· =true):=by
 unfold uu pX;refine gq ((show(uX ns (4:Int)).Ok _ from uL h 4 (by decide)).imp fun y zz=>?_);obtain⟨hc,⟨n,hn,hm⟩,g0,g1⟩:=zz;have hl:y.2.1.length=n:=hm.1;have h4:y.2.1.length<=4:=by omega
 obtain⟨c5,e5⟩:=jP h 5 (by decide);rw[show fS ns 5=.ok c5 from e5,Bn,Bn,Bn,Bn,Bn,Bn];have b0:0<=c5%6:=Ca _ (by decide);have b1:c5%6<6:=BU _ (by decide);generalize c5%6=b at b0 b1 ⊢;have n0:0<=c5/6%4:=Ca _ (by decide);have n1:c5/6%4<4:=BU _ (by decide);generalize c5/6%4=w at n0 n1 ⊢;obtain⟨nb,en,nb1⟩:∃nb,(if b-2+w>(0:Int)then b-2+w else(0:Int))=nb/\nb<=60:=⟨_,rfl,by split<;>omega⟩
 rw[en,Bn,uS hc (show y.2.2<=3 by omega) nb1 y.2.1 h4,Bn];have hB:Bx 5 45 (bq y.1 y.2.2 nb y.2.1 [(0,0)]):=⟨by have:=iM (t:=y.1) (loose:=y.2.2) (bound:=nb) y.2.1 [(0,0)];omega,fun l hl'=>(iN (t:=y.1) (loose:=y.2.2) (bound:=nb) y.2.1 0 [(0,0)] (by omega) (by simp) wR l hl').2⟩
 have er:lM (6:Int) (9:Int)=.ok [6,7,8]:=rfl;have step:∀(k:Nat)(a b:Nat)(L:List (List<|Int×Int)),k<=200->a<=900->b<=900->Bx a b L->(ee fS nN ns (k:Int) L).Ok (Bx (a+1)<|b+1):=fun k a b L hk ha hb hL=>by
  unfold ee;obtain⟨c,ec⟩:=jP h k hk;rw[ec,Bn,Bn,Bn,Bn,jA (by omega) (by omega),Bn];exact gq<|(wN hL ha hb _).imp fun s hs=>eT hs
 rw[er,Bn];refine gq<|CO (P:=Bx 8 48) ?_ fun S hS=>?_
 ·show((ee fS nN ns ((6:Nat):Int) _).bind _).Ok _;refine gq ((step 6 5 45 _ (by decide) (by decide) (by decide) hB).imp fun s1 h1=>?_);show((ee fS nN ns ((7:Nat):Int) _).bind _).Ok _;refine gq ((step 7 6 46 _ (by decide) (by decide) (by decide) h1).imp fun s2 h2=>?_);show((ee fS nN ns ((8:Nat):Int) _).bind _).Ok _;exact gq ((step 8 7 47 _ (by decide) (by decide) (by decide) h2).imp fun s3 h3=>eT h3)
 obtain⟨A,eA,hA⟩:=(yu h4).ex;rw[eA,Bn];have row:∀x∈A,x.length=y.2.1.length/\dn x/\pV y.1 y.2.1 y.2.2 b x=.ok (eV y.1 y.2.2 b (0,0)<|x.zip y.2.1):=fun x hx=>by
  obtain⟨q1,q2⟩:=(hA.2 x).mp hx;have er:lZ x y.2.1.length=true:=by
   unfold lZ;rw[Ed,decide_eq_true_iff,CM];exact⟨q1,fun c hc=>turnB_iff.mpr<|q2 c hc⟩
  exact⟨q1,q2,by rw[rC hc _ _ _ (by omega),er,Ds]⟩
 obtain⟨s,es,hs⟩:=cZ (f:=fZ pV y b) (fun pre(s:Bool)=>s=pre.any fun x=>eV y.1 y.2.2 b (0,0)<|x.zip y.2.1) A false rfl (by
  intro pre x post s e hs;obtain⟨_,_,q⟩:=row x (by rw[e];simp);unfold fZ;rw[q,Bn];refine⟨s||eV y.1 y.2.2 b (0,0) (x.zip y.2.1),?_,by rw[hs,List.any_append];simp⟩;cases eV y.1 y.2.2 b (0,0) (x.zip y.2.1)<;>cases s<;>rfl)
 rw[es,Bn];have some_iff:s=true↔cnt y.1 y.2.2 b y.2.1 (0,0)≠0:=by
  rw[hs,Hb];constructor
  ·rintro ⟨x,hx,hd⟩;obtain⟨q1,q2,_⟩:=row x hx;exact iU q1 q2 hd
  ·intro hne;obtain⟨x,q1,q2,q3⟩:=nL y.2.1 (0,0) hne;exact⟨x,(hA.2 x).mpr ⟨q1,q2⟩,q3⟩
 have hH:=nK hc y.2.1 (by omega) y.2.2 b (L:=S) (fun l hl'=>by have:=hS.2 l hl';omega);have hW:=nK hc y.2.1 (by omega) y.2.2 b (L:=bq y.1 y.2.2 b y.2.1 [(0,0)]) (fun l hl'=>by have:=(iN (t:=y.1) (loose:=y.2.2) (bound:=b) y.2.1 0 [(0,0)] (by omega) (by simp) wR l hl').2;omega);rw[wU hc g0 b0 (show y.2.2<=3 by omega) (show b<=60 by omega) y.2.1 h4,Bn,hW,Bn,hH];have e1:s=true->gD y.1 y.2.2 b y.2.1 S=false:=fun z=>by
  cases q:gD y.1 y.2.2 b y.2.1 S with
  |false=>rfl
  |true=>exact absurd (l7 q)<|some_iff.mp z
 have e2:gD y.1 y.2.2 b y.2.1 (bq y.1 y.2.2 b y.2.1 [(0,0)])= !s:=by
  cases s with
  |true=>
   cases q:gD y.1 y.2.2 b y.2.1 (bq y.1 y.2.2 b y.2.1 [(0,0)])with
   |false=>rfl
   |true=>exact absurd (l7 q)<|some_iff.mp rfl
  |false=>
   refine oK<|Classical.not_not.mp fun z=>?_;exact Bool.noConfusion<|some_iff.mpr z
 refine gq<|CO (P:=fun r=>r=false) (zh (fun z=>?_) fun _=>eT rfl) fun r hr=>?_
 ·rw[e1 z,Bn,sV rfl,Bn];exact eT rfl
 ·subst hr;rw[if_neg (by decide),sV e2];rfl
end Mi
namespace PySem.W.Fast
def tw861502493610598483:=()
def tw9424447138613012783:=()
def tw7774113678449685934:=()
def tw7968833095072559221:=()
def tw8854275682344465072:=()
def tw9561226457009474297:=()
def tw15438627641174518403:=()
def tw5072417060200589145:=()
def tw15925456577456769635:=()
def tw12917704675397863716:=()
def tw8997383693586321770:=()
def tw9461873434466728008:=()
def tw15433366417846715934:=()
def tw13444670453868202053:=()
def tw9615563845995560447:=()
def tw5344687154915797982:=()
def tw13055953723892786844:=()
def tw4096438862311573950:=()
def tw2314633323536394700:=()
def tw6798380500665416597:=()
def tw13855379610559885079:=()
def tw2849704279308238487:=()
def tw9592521066531166775:=()
def tw6128106870883400570:=()
def tw1840220198017710270:=()
def tw17483705464198625004:=()
def tw1540495269515653059:=()
def tw7873823757921102712:=()
def tw13622603851894308203:=()
def tw10258873121960336067:=()
def tw4699756791338806529:=()
def tw7164969610272591079:=()
def tw11898673842065290130:=()
def tw13421457143807847188:=()
def tw10510056951384868246:=()
def tw15402603294489630176:=()
def tw140236481695663071:=()
def tw17292613610259460706:=()
def tw6522051377940421278:=()
def tw10519837036962490867:=()
def tw7424060955962978353:=()
def tw8733291241859026926:=()
def tw3215387988796971590:=()
def tw16955839230299176341:=()
def tw9972681490609642005:=()
def tw16298917771340976007:=()
def tw3382625519597670723:=()
def tw2135409205425526673:=()
def tw15227483606004533461:=()
def tw15685335758407661847:=()
def tw2144661209622563809:=()
def tw9784134513789038367:=()
def tw8002303944043701648:=()
def tw17351735930882485243:=()
def tw10295913840692754127:=()
def tw11589282660436910429:=()
def tw7086961617601330827:=()
def tw6822071536725586909:=()
def tw2261719852989239553:=()
def tw4039707410889071942:=()
def tw5459702643516471331:=()
def tw3919386906821981792:=()
def tw4075453323654395381:=()
def tw15127105006835628225:=()
def tw2950685276103557050:=()
def tw16902440903046159558:=()
def tw8159993647027272844:=()
def tw2455152089536381482:=()
def tw2403389108928632939:=()
def tw3308634892276815127:=()
def tw13769103115541136327:=()
def tw3641951560692057861:=()
def tw14703100239697439463:=()
def tw12459912946257978736:=()
def tw16120054744476736488:=()
def tw3721919958574915784:=()
def tw10294118229990073760:=()
def tw12887044766017154078:=()
def tw8912161614967838395:=()
def tw7476452910721959123:=()
end PySem.W.Fast
section
open PySem PySem.W PyProof.Rows
set_option maxHeartbeats 0 in
open_top hd for PySem.Challenge.rw_wornband_k40_whole_looker
end
namespace Wb
open PySem L2 Mi
theorem wV{K:Br}:∀vs H Q E,pY K vs H Q E->dB (isScr K) (rs isB) uu vs H Q E:=fun vs H Q E⟨a,ns,h1,h2,h3,h4⟩=>
 ⟨⟨H,H,.refl _⟩,ns,.ref a,rfl,h1,⟨a,rfl,h2⟩,fun _=>False,Res.Ok.e ((yy ns h3).imp fun r hr u W' _ hu=>by cases hr;cases hu;exact h4 _)⟩
theorem fin_mk{l:FK}{w:BQ}{K:Br}{h:Heap}{mg:Str->Option Bs}{fa:Addr}{Z1B:Addr}{Z42 Z43:Option Addr}{Z44:Array (Option Bs)}{Z45 Z46 Z47 Z48 Z3b Z49:Bs}{f_law:Addr}{od_law an_law:Option Addr}{sl_law:Array (Option Bs)}{oc_law kV_law dc_law pm_law cd_law ct_law:Bs}{Z1Q:Tok}{Z1E:Addr}{Z4G:Nat}{x_SLANTS0 y_SLANTS0 x_SLANTS1 y_SLANTS1 x_SLANTS2 y_SLANTS2:Tok}{Z1y:Addr}{Z4O:Nat}{x_START0 x_START1:Tok}{Z1O:Addr}{Z4P:Nat}{x_STEPS0 y_STEPS0 x_STEPS1 y_STEPS1 x_STEPS2 y_STEPS2:Tok}{Z3M:Tok}{Z40:Tok}(X:K.In h)(G:h.Ns mainGlobals mg)(hfa:mg "law"=some (.ref fa))
  (Z22:Cj K mainGlobals "_law_same"=some (some<|.ref Z1B))
  (Z2G:K.lookup Z1B=some ⟨Z45,Z42,.func<|DD "_law_same" "_law_same" (defArgs<|tp 49) (defBody<|tp 49) (defScope<|tp 49) .none Z46 Z47 Z48 Z43 Z3b Z49,Z44⟩)
  (Z2H:EL K Z3b "_law_same"=true)
  (Z1C:Eb K (.ref Z1B)=true)
  (Z3c:DI K "_law_at" (tp 31) ["_law_script","_law_k"])
  (Z36:DI K "_law_row" (tp 27) ["_law_cell","_law_many","_law_base"])
  (Z2l:DI K "_law_holes" (tp 28) ["_law_cell"])
  (Z2I:DI K "_law_card" (tp 29) ["_law_cell"])
  (Z2m:DI K "_law_turns" (tp 30) ["_law_cell","_law_many"])
  (Z3d:DI K "_law_go" (tp 33) ["_law_turn"])
  (Z25:DI K "_law_behind" (tp 34) ["_law_card_here","_law_turn"])
  (Z2n:DI K "_law_twist" (tp 35) ["_law_card_here","_law_turn"])
  (Z26:DI K "_law_places" (tp 36) ["_law_card_here","_law_turns_here"])
  (Z2o:DI K "_law_marks" (tp 37) ["_law_places_here","_law_cell","_law_lies"])
  (Z1L:DI K "_law_turnover" (tp 38) ["_law_card_here"])
  (Z2J:DI K "_law_back" (tp 39) ["_law_turns_here"])
  (Z2K:DI K "_law_roll" (tp 40) ["_law_card_here","_law_many"])
  (Z2L:DI K "_law_seen" (tp 41) ["_law_card_here","_law_turns_here"])
  (Z37:DI K "_law_kin" (tp 42) ["_law_card_here","_law_turns_here","_law_cell"])
  (Z2p:DI K "_law_small" (tp 43) ["_law_script","_law_most"])
  (Z2M:DI K "_law_next" (tp 46) ["_law_card_here","_law_mark","_law_loose","_law_bound","_law_state"])
  (Z2q:DI K "_law_reach" (tp 47) ["_law_card_here","_law_strip","_law_loose","_law_bound"])
  (Z2N:DI K "_law_bent" (tp 48) ["_law_lists","_law_cell"])
  (Z38:DI K "_law_all" (tp 45) ["_law_many"])
  (Z2O:DI K "_law_does" (tp 44) ["_law_card_here","_law_strip","_law_loose","_law_bound","_law_text"])
  (Z39:DI K "twisting" (tp 6) ["tablet","turn"])
  (Z1X:DI K "state_behind" (tp 17) ["tablet","state","turn"])
  (Z3v:DI K "within" (tp 18) ["state","loose","bound"])
  (Z3e:DI K "twisted" (tp 16) ["tablet","twist"])
  (d_top:DI K "top" (tp 4) ["tablet"])
  (Z3w:DI K "bottom" (tp 5) ["tablet"])
  (Z2r:DI K "left_place" (tp 9) ["tablet","turn"])
  (Z3P:DI K "suits" (tp 13) ["sign","left"])
  (Z3x:DI K "agrees" (tp 12) ["place","mark"])
  (Z3y:DI K "leaves" (tp 19) ["tablet","state","turn","mark"])
  (Z3z:DI K "onward" (tp 20) ["tablet","mark","loose","bound","state"])
  (Z3A:DI K "led_on" (tp 25) ["tablet","mark","loose","bound","states","following"])
  (Z3Q:DI K "holds" (tp 24) ["tablet","strip","loose","bound","lists"])
  (Z1M:DI K "states_behind" (tp 22) ["tablet","mark","loose","bound","states"])
  (Z3B:DI K "search" (tp 21) ["tablet","strip","loose","bound"])
  (a_law:Cj K mainGlobals "law"=some (some<|.ref f_law))
  (l_law:K.lookup f_law=some ⟨oc_law,od_law,.func<|DD "law" "law" (defArgs<|tp 50) (defBody<|tp 50) (defScope<|tp 50) .none kV_law dc_law pm_law an_law cd_law ct_law,sl_law⟩)
  (c_law:EL K cd_law "law"=true)
  (k_law:Eb K (.ref f_law)=true)
  (z_abs:Cj K mainGlobals "abs"=some none)
  (z_all:Cj K mainGlobals "all"=some none)
  (z_bool:Cj K mainGlobals "bool"=some none)
  (z_int:Cj K mainGlobals "int"=some none)
  (z_isinstance:Cj K mainGlobals "isinstance"=some none)
  (z_len:Cj K mainGlobals "len"=some none)
  (z_list:Cj K mainGlobals "list"=some none)
  (z_max:Cj K mainGlobals "max"=some none)
  (z_range:Cj K mainGlobals "range"=some none)
  (z_set:Cj K mainGlobals "set"=some none)
  (z_sorted:Cj K mainGlobals "sorted"=some none)
  (z_str:Cj K mainGlobals "str"=some none)
  (z_tuple:Cj K mainGlobals "tuple"=some none)
  (z_zip:Cj K mainGlobals "zip"=some none)
  (Z3R:Cj K mainGlobals "HOLES"=some (some<|.int 4 Z1Q))
  (Z3C:Cj K mainGlobals "SLANTS"=some (some<|.ref Z1E))
  (Z3D:K.lookup Z1E=some {cls:=.type "dict",data:=.dict #[⟨hashInt<|1,.int (1) x_SLANTS0,.str (Bv "s") y_SLANTS0⟩,⟨hashInt<|-1,.int (-1) x_SLANTS1,.str (Bv "z") y_SLANTS1⟩,⟨hashInt<|0,.int (0) x_SLANTS2,.str (Bv "o") y_SLANTS2⟩] Z4G})
  (Z3E:(Z1E==sysModules)=false)
  (Z3S:Cj K mainGlobals "START"=some (some<|.ref Z1y))
  (Z3T:K.lookup Z1y=some {cls:=.type "tuple",data:=.seq #[.int (0) x_START0,.int (0) x_START1] Z4O})
  (Z3U:Cj K mainGlobals "STEPS"=some (some<|.ref Z1O))
  (Z3V:K.lookup Z1O=some {cls:=.type "dict",data:=.dict #[⟨FR w.params<|Bv "f",.str (Bv "f") x_STEPS0,.int (1) y_STEPS0⟩,⟨FR w.params<|Bv "b",.str (Bv "b") x_STEPS1,.int (-1) y_STEPS1⟩,⟨FR w.params<|Bv "i",.str (Bv "i") x_STEPS2,.int (0) y_STEPS2⟩] Z4P})
  (Z3W:(Z1O==sysModules)=false)
  (Z3X:Cj K mainGlobals "TURNS"=some (some<|.str (Bv "fbi") Z3M))
  (Z4a:Cj K mainGlobals "WORN"=some (some<|.str (Bv "?") Z40))
  :∃fd:BW,(∀(s:Bu)(v:Bs),IH s fd ⟨[v],[]⟩ [("_law_script",v)])/\∀base:Heap,K.In base->base.Ns mainGlobals mg->FnOk l.prog w K mg base CX0 27 fa fd ["_law_script"] (pY K):=by
 have e:=hfa.symm.trans<|DF X G a_law;cases e;have Z3m:=lu (st:=tp 49) Z2G Z2H Z1C;have Z3n:=Z3m.binds (ps:=["_law_found","_law_due"]) fun _ _ _ _ _ _ us hl=>match us,hl with| [_,_],_=>rfl
 have F_law:=lu (st:=tp 50) l_law c_law k_law;have b_law:=F_law.binds (ps:=["_law_script"]) fun _ _ _ _ _ _ us hl=>match us,hl with| [_],_=>rfl
 have h_abs:=Cq X G z_abs;have h_all:=Cq X G z_all;have h_bool:=Cq X G z_bool;have h_int:=Cq X G z_int;have h_isinstance:=Cq X G z_isinstance;have h_len:=Cq X G z_len;have h_list:=Cq X G z_list;have h_max:=Cq X G z_max;have h_range:=Cq X G z_range;have h_set:=Cq X G z_set;have h_sorted:=Cq X G z_sorted;have h_str:=Cq X G z_str;have h_tuple:=Cq X G z_tuple;have h_zip:=Cq X G z_zip;have Z1x:=DF X G Z3R;have Z3p:=DF X G Z3C;have Z3q:DictK K w Z1E [(E8<|1,.str<|Bv "s"),(E8<|-1,.str<|Bv "z"),(E8<|0,.str<|Bv "o")]:=⟨by decide,Z3E,by decide +kernel,_,_,Z3D,(.cons ⟨gf _ _,rfl,⟨_,rfl⟩⟩<|.cons ⟨gf _ _,rfl,⟨_,rfl⟩⟩<|.cons ⟨gf _ _,rfl,⟨_,rfl⟩⟩ .nil)⟩
 have Z1V:=DF X G Z3S;have Z1W:∀H,SqT K H Z1y [.int (0),.int<|0]:=fun H=>.inr ⟨_,_,_,Z3T,⟨rfl,rfl⟩,rfl,(by show 2<=sizeLine;decide),(.cons ⟨_,rfl⟩<|.cons ⟨_,rfl⟩ .nil)⟩;have Z3I:=DF X G Z3U;have Z3J:DictK K w Z1O [(E9<|Bv "f",.int<|1),(E9<|Bv "b",.int<|-1),(E9<|Bv "i",.int<|0)]:=⟨by decide,Z3W,by decide +kernel,_,_,Z3V,(.cons ⟨gh _ _,rfl,⟨_,rfl⟩⟩<|.cons ⟨gh _ _,rfl,⟨_,rfl⟩⟩<|.cons ⟨gh _ _,rfl,⟨_,rfl⟩⟩ .nil)⟩
 have Z3N:=DF X G Z3X;have Z41:=DF X G Z4a;refine⟨DD "law" "law" (defArgs<|tp 50) (defBody<|tp 50) (defScope<|tp 50) .none kV_law dc_law pm_law an_law cd_law ct_law,fun s v=>.of_eq rfl,fun base KB _=>?_⟩;have SA:∀n:Nat,Cal l.prog w K mg base "_law_same" ["_law_found","_law_due"] n (gr K n):=fun n=>by
  induction n with
  |zero=>exact⟨Z1B,_,wB,DF X G Z22,Z1C,Z3n⟩
  |succ n ih=>exact⟨Z1B,_,uv Z3m h_len h_isinstance h_bool h_int h_str h_list h_tuple h_zip ih,DF X G Z22,Z1C,Z3n⟩
 have Z1j:=SA 26;have Z0s:Cal l.prog w K mg base _ _ _ (bH _ _ _ fS):=Z3c.cal X G fun F=>AI F h_len;have Z0t:Cal l.prog w K mg base _ _ _ (fc _ _ _ _ ic):=Z36.cal X G fun F=>AJ F h_abs h_range;have Z2c:Cal l.prog w K mg base _ _ _ (dB _ _ wb):=Z2l.cal X G fun F=>AK F Z0t;have Z21:Cal l.prog w K mg base _ _ _ (dB _ _ uW):=Z2I.cal X G fun F=>AL F Z2c;have Z2e:Cal l.prog w K mg base _ _ _ (bH _ _ _ wc):=Z2m.cal X G fun F=>AM F Z0t;have Z1o:Cal l.prog w K mg base _ _ _ (dB _ _ nM):=Z3d.cal X G fun F=>AN F;have Z0Q:Cal l.prog w K mg base _ _ _ (bH _ _ _ jc):=Z25.cal X G fun F=>AO F Z1o;have Z0z:Cal l.prog w K mg base _ _ _ (bH _ _ _ fL):=Z2n.cal X G fun F=>AQ F Z1o;have Z0R:Cal l.prog w K mg base _ _ _ (bH _ _ _ oB):=Z26.cal X G fun F=>AR F Z0Q Z0z;have Z2f:Cal l.prog w K mg base _ _ _ (fc _ _ _ _ wd):=Z2o.cal X G fun F=>AS F Z0t h_int h_len h_tuple h_zip;have Z1J:Cal l.prog w K mg base _ _ _ (dB _ _ we):=Z1L.cal X G fun F=>AU F;have Z2z:Cal l.prog w K mg base _ _ _ (dB _ _ wg):=Z2J.cal X G fun F=>AW F;have Z2A:Cal l.prog w K mg base _ _ _ (bH _ _ _ wj):=Z2K.cal X G fun F=>AX F h_range;have Z2B:Cal l.prog w K mg base _ _ _ (bH _ _ _ wk):=Z2L.cal X G fun F=>AY F Z0Q h_sorted;have Z34:Cal l.prog w K mg base _ _ _ (fc _ _ _ _ wm):=Z37.cal X G fun F=>AZ F Z1J Z2z Z2A Z2B h_range;have Z2j:Cal l.prog w K mg base _ _ _ (bH _ _ _ uX):=Z2p.cal X G fun F=>B0 F Z21 Z0s Z2e Z2f Z0R Z34;have Z2C:Cal l.prog w K mg base _ _ _ (fQ _ _ _ _ _ _ lU):=Z2M.cal X G fun F=>B1 F Z0z h_abs h_int h_zip;have Z2k:Cal l.prog w K mg base _ _ _ (j4 _ _ _ _ _ wo):=Z2q.cal X G fun F=>B2 F Z2C h_len h_list h_sorted;have Z2E:Cal l.prog w K mg base _ _ _ (bH _ _ _ nN):=Z2N.cal X G fun F=>B3 F Z0t h_len h_list h_max;have Z35:Cal l.prog w K mg base _ _ _ (dB _ _ wq):=Z38.cal X G fun F=>B4 F h_range;have Z2F:Cal l.prog w K mg base _ _ _ (fQ _ _ _ _ _ _ pV):=Z2O.cal X G fun F=>B5 F Z0R Z0z h_abs h_int h_len h_zip;have Z1w:Cal l.prog w K mg base _ _ _ (bH _ _ _ oC):=Z39.cal X G fun F=>B6 F Z3I Z3J;have Z1R:Cal l.prog w K mg base _ _ _ (fc _ _ _ _ uZ):=Z1X.cal X G fun F=>B7 F Z1w;have Z1S:Cal l.prog w K mg base _ _ _ (fc _ _ _ _ nq):=Z3v.cal X G fun F=>B8 F h_abs;have Z3a:Cal l.prog w K mg base _ _ _ (bH _ _ _ wt):=Z3e.cal X G fun F=>B9 F Z1x;have C_top:Cal l.prog w K mg base _ _ _ (dB _ _ ie):=d_top.cal X G fun F=>zC F Z1x;have Z3o:Cal l.prog w K mg base _ _ _ (dB _ _ wu):=Z3w.cal X G fun F=>Ba F Z1x;have Z2h:Cal l.prog w K mg base _ _ _ (bH _ _ _ wx):=Z2r.cal X G fun F=>Bb F C_top Z3o Z1w Z3p Z3q;have Z3L:Cal l.prog w K mg base _ _ _ (bH _ _ _ va):=Z3P.cal X G fun F=>Bc F Z41;have Z3r:Cal l.prog w K mg base _ _ _ (bH _ _ _ wy):=Z3x.cal X G fun F=>Bd F Z3L h_all h_zip;have Z3s:Cal l.prog w K mg base _ _ _ (j4 _ _ _ _ _ ur):=Z3y.cal X G fun F=>Be F Z3r Z2h Z3a;have Z1T:Cal l.prog w K mg base _ _ _ (fQ _ _ _ _ _ _ lV):=Z3z.cal X G fun F=>Bf F Z1R Z1S Z3s Z3N;have Z3t:Cal l.prog w K mg base _ _ _ (wa _ _ _ _ _ _ _ wz):=Z3A.cal X G fun F=>Bg F Z1T h_set;have Z3l:Cal l.prog w K mg base _ _ _ (fQ _ _ _ _ _ _ vb):=Z3Q.cal X G fun F=>Bh F Z3t h_all h_len h_range Z1V Z1W;have Z1K:Cal l.prog w K mg base _ _ _ (fQ _ _ _ _ _ _ oD):=Z1M.cal X G fun F=>Bi F Z1T h_sorted;have Z3u:Cal l.prog w K mg base _ _ _ (j4 _ _ _ _ _ wA):=Z3B.cal X G fun F=>Bj F Z1S Z1K Z1V Z1W;exact FnOk.imp (zD F_law Z2j Z0s Z2k Z2E Z35 Z2F Z1j Z3l Z3u h_len h_list h_max h_range) wV
theorem walk{l:FK}{q:BK}{loose:List Str}{XP:(Str->Option Bs)->Heap->Prop}{YP:BQ->Heap->Prop}{d:DefRec}{K:La->Br}(hn:l.most=some 63)(hdf:d.params.defaults=[])(hY:∀(w:BQ)(h:Heap),YP w h->(K w.params).In h)
  (F:∀(w:BQ)(mg:Str->Option Bs)(fa:Addr)(h:Heap),(K w.params).In h->h.Ns mainGlobals mg->mg d.name=some (.ref fa)->∃fd:BW,(∀(s:Bu)(u:Bs),IH s fd ⟨[u],[]⟩ [("_law_script",u)])/\∀base:Heap,(K w.params).In base->base.Ns mainGlobals mg->FnOk l.prog w (K w.params) mg base CX0 27 fa fd ["_law_script"] (pY<|K w.params)):
  Jy q loose XP YP l.row.toRowW d [] (fun f vs=>JF f vs):=
 L2.walk_of (n:=63) (k:=27) (x:="_law_script") (CX:=fun _=>CX0) (sp:=fun w=>pY<|K w.params) hn (by decide) hdf ⟨rfl,by decide,by decide⟩ hY F (fun _ _ a ns hl _ hS=>⟨a,ns,rfl,hS,hl,fun _=>rfl⟩) fun _ _ _ _ _ z=>z
end Wb
local macro_rules | `(tactic| walk_at "D") => `(tactic| (apply Wb.DI.mk; (case da => k_is); (case dl => k_is); (case dc => k_is); (case dk => k_is); exact fun _ _ _ _ _ _ _ => rfl))
open PySem PySem.W PyProof.Rows
set_option maxRecDepth 100000 in
set_option maxHeartbeats 0 in
theorem PySem.Challenge.cw_wornband_k40_whole_looker_holds : PySem.Challenge.rw_wornband_k40_whole_looker.Holds := by
 refine hd ?_
 k_fill
 refine Wb.walk (l:=Dp) rfl rfl (fun w h Y=>PySem.W.kIn_of Y) ?F
 case F=>
  intro w mg fa h KX G hmg
  refine' Wb.fin_mk KX G hmg ?Z22 ?Z2G ?Z2H ?Z1C ?Z3c ?Z36 ?Z2l ?Z2I ?Z2m ?Z3d ?Z25 ?Z2n ?Z26 ?Z2o ?Z1L ?Z2J ?Z2K ?Z2L ?Z37 ?Z2p ?Z2M ?Z2q ?Z2N ?Z38 ?Z2O ?Z39 ?Z1X ?Z3v ?Z3e ?d_top ?Z3w ?Z2r ?Z3P ?Z3x ?Z3y ?Z3z ?Z3A ?Z3Q ?Z1M ?Z3B ?a_law ?l_law ?c_law ?k_law ?z_abs ?z_all ?z_bool ?z_int ?z_isinstance ?z_len ?z_list ?z_max ?z_range ?z_set ?z_sorted ?z_str ?z_tuple ?z_zip ?Z3R ?Z3C ?Z3D ?Z3E ?Z3S ?Z3T ?Z3U ?Z3V ?Z3W ?Z3X ?Z4a
  (case Z22=>k_is)
  (case Z2G=>k_is)
  (case Z2H=>k_is)
  (case Z1C=>k_is)
  (case Z3c=>walk_at "D")
  (case Z36=>walk_at "D")
  (case Z2l=>walk_at "D")
  (case Z2I=>walk_at "D")
  (case Z2m=>walk_at "D")
  (case Z3d=>walk_at "D")
  (case Z25=>walk_at "D")
  (case Z2n=>walk_at "D")
  (case Z26=>walk_at "D")
  (case Z2o=>walk_at "D")
  (case Z1L=>walk_at "D")
  (case Z2J=>walk_at "D")
  (case Z2K=>walk_at "D")
  (case Z2L=>walk_at "D")
  (case Z37=>walk_at "D")
  (case Z2p=>walk_at "D")
  (case Z2M=>walk_at "D")
  (case Z2q=>walk_at "D")
  (case Z2N=>walk_at "D")
  (case Z38=>walk_at "D")
  (case Z2O=>walk_at "D")
  (case Z39=>walk_at "D")
  (case Z1X=>walk_at "D")
  (case Z3v=>walk_at "D")
  (case Z3e=>walk_at "D")
  (case d_top=>walk_at "D")
  (case Z3w=>walk_at "D")
  (case Z2r=>walk_at "D")
  (case Z3P=>walk_at "D")
  (case Z3x=>walk_at "D")
  (case Z3y=>walk_at "D")
  (case Z3z=>walk_at "D")
  (case Z3A=>walk_at "D")
  (case Z3Q=>walk_at "D")
  (case Z1M=>walk_at "D")
  (case Z3B=>walk_at "D")
  (case a_law=>k_is)
  (case l_law=>k_is)
  (case c_law=>k_is)
  (case k_law=>k_is)
  (case z_abs=>k_is)
  (case z_all=>k_is)
  (case z_bool=>k_is)
  (case z_int=>k_is)
  (case z_isinstance=>k_is)
  (case z_len=>k_is)
  (case z_list=>k_is)
  (case z_max=>k_is)
  (case z_range=>k_is)
  (case z_set=>k_is)
  (case z_sorted=>k_is)
  (case z_str=>k_is)
  (case z_tuple=>k_is)
  (case z_zip=>k_is)
  (case Z3R=>k_is)
  (case Z3C=>k_is)
  (case Z3D=>k_is)
  (case Z3E=>rfl)
  (case Z3S=>k_is)
  (case Z3T=>k_is)
  (case Z3U=>k_is)
  (case Z3V=>k_is)
  (case Z3W=>rfl)
  (case Z3X=>k_is)
  (case Z4a=>k_is)
