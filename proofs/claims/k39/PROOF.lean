import PyProof.Rows.All
import Wide.All
import OpenK.AllK
import Wide.FinOn
import PyProof.EqAt
import PyProof.EqKinds
import PyProof.TupleCall
import KE.KDictSum
import KE.KRevIter
import KE.KRevSl
import KE.KDictLaws
import PyProof.StrLawsFirst
import KE.LcSums
import PyProof.EnumMake
import PyProof.TupleIter
import PyProof.StationsW
import PyProof.Rows.Own
import PyProof.NsDelKeeps
import PyProof.RulesAs
import PyProof.ExcAttrAll.ValueError
import KE.KIsAll
import PyProof.ExcBaseAll.ValueError
import PyProof.Rows.FStr
import PyProof.FString
import PyProof.Rows.StrNews
import PyProof.StrLawsTight
import PyProof.StrLawsChain
import PyProof.ExcInit
import PyProof.ExcClass3
import PyProof.InstStoreFacts
import PySem.SetTable
import PySem.SetOps
import PyProof.TupleKey
import PyProof.SetKind
import PyProof.IsRules
import KE.KSortTup
import PyProof.Rows.SortRun
import PyProof.Rows.SortShell
import PyProof.DictWalks
import PyProof.DictTruth
import PyProof.NeKinds
import PyProof.Rows.TupTab
import PyProof.Rows.SetFrom
import PyProof.SetRoads
import PyProof.AutoListH
import PySem.Challenge.RW_wornband_k39_searches_judged
open Array renaming getElem?_toList->BB,length_toList->BX,getElem?_eq_getElem->C7,getD_eq_getD_getElem?->Ct,toList_append->Cv,getD->E1,getElem?_eq_some_iff->E2,toList_push->Ed,toList_setIfInBounds->EO,toList_eraseIdxIfInBounds->FF,toList_reverse->G0,size_setIfInBounds->GY,getElem?_eq_none->Ho,replicate->Hy,toArray_toList->HU,toList_extract->HV,forIn_toList->IE,toList_map->Jb,toList_inj->Je,toList->Ky
open Bool renaming false_ne_true->BH,false_eq_true->Cg,eq_iff_iff->CH,true_and->Eg,false_and->EJ,not_true->FU,not_eq_true'->GQ,and_eq_true->Hb,not_false->HW,or_eq_true->Jt,and_assoc->JT
open Classical renaming byContradiction->E5,not_forall->FY,not_imp->GL
open False renaming elim->Ex
open ForInStep renaming done->C1,yield->Cm
open Iff renaming rfl->JB
open Int renaming emod_lt_of_pos->BZ,emod_nonneg->Cf,toNat_natCast->DQ
open List renaming getElem?_eq_getElem->Bn,getElem?_eq_some_iff->Bv,getElem?_map->Bz,size_toArray->BA,mem_cons->BE,getElem?_append_right->BI,mem_of_getElem?->BJ,getElem?_append_left->BL,mem_cons_of_mem->BP,getD_eq_getElem?_getD->BQ,mem_cons_self->BR,length_map->BS,append_assoc->BU,mem_map->C6,getElem?_take_of_lt->Ca,nodup_iff_pairwise_ne->Ce,not_mem_nil->Ci,mem_append->Ck,getElem?_eq_none_iff->Cr,mem_append_right->CA,getElem?_drop->CC,map_cons->CO,length_append->CP,range->CZ,getElem?_cons_succ->D5,mem_iff_getElem->D7,pairwise_append->D9,append_nil->Dd,length_cons->De,getElem?_zip_eq_some->Df,mem_singleton->Dp,lookup_cons->Dq,length_eraseIdx->Dr,getElem?_cons_zero->Ds,Nodup->DA,pairwise_iff_getElem->DE,getElem?_eq_none->DF,getElem_mem->DH,mem_reverse->DJ,replicate->DN,ext_getElem?->DR,pairwise_map->DT,nodup_cons->DV,length_set->DX,find?_cons->DY,length_take->DZ,perm_append_comm->E4,drop_eq_getElem_cons->E6,of_mem_zip->E7,length_zip->E8,filterMap_cons->Ej,nodup_nil->Ep,take_of_length_le->Ey,mem_iff_getElem?->EC,mem_range->EI,length->EK,zipIdx_cons->EY,all_eq_true->EZ,drop_length->F0,mem_or_eq_of_mem_set->F6,any_cons->F7,length_erase_of_mem->F9,forIn_cons->Fc,mem_filterMap->Fd,set_cons_zero->Fi,length_eq_zero_iff->Fn,pairwise_singleton->Fp,map_nil->Fv,forIn_nil->Fx,getElem?_set->Fy,length_singleton->FG,mem_of_mem_erase->FH,length_drop->FO,cons_append->FQ,mem_append_left->FV,eq_nil_of_length_eq_zero->G2,zipIdx_nil->G9,getElem?_eraseIdx_of_lt->Ga,getElem?_eraseIdx_of_ge->Gb,nil_append->Gd,length_nil->Gh,getElem?_range->Gk,map_map->Gp,drop_zero->Gv,pairwise_cons->Gz,set_cons_succ->GB,all_cons->GU,filterMap_cons_some->GX,pairwise_mergeSort->Hc,getElem?_set_self->Hh,drop_eq_nil_of_le->Hl,pairwise_lt_range->Hq,mem_filter->Hs,foldl_cons->Hw,getElem?_reverse->HD,take_append_drop->HE,contains_iff_mem->HI,dropLast_eq_take->HM,getElem?_set_ne->HN,mem_of_mem_drop->HX,map_congr_left->HY,mergeSort_perm->HZ,findSome?_cons->I0,reverse_append->I9,lookup_append->IA,reverse_cons->IS,length_range->IX,nodup_append->J4,perm_middle->Jc,map_snd_zip->Jf,any_eq_true->Ji,drop_drop->JN,map_id'->KD,all_map->KG
open List.Nodup renaming not_mem_erase->F8,length_le_of_subset->FT
open List.Pairwise renaming nil->GK,map->Lm
open List.Perm renaming append_right->CQ,append_left->Dl,eq_of_pairwise->GW
open List.cons renaming injEq->HA
open Nat renaming le_refl->Bt,lt_of_lt_of_le->BG,ne_of_lt->BO,zero_le->BV,le_add_right->Cz,lt_irrefl->CU,le_trans->Dw,ne_of_gt->E9,lt_succ_of_lt->Eb,zero_add->Ec,le_of_lt->EW,lt_succ_self->EX,sub_self->Fz,le_succ->GJ,lt_trans->Hj,div_div_eq_div_mul->Hm,mod_lt->Hn,reduceAdd->Ik,reduceSub->Il,le_succ_of_le->IY,div_eq_of_lt->Ja,min_eq_left->Js,strongRecOn->Ju,not_lt_zero->Jw,add_assoc->Kq,add_comm->KA,sub_zero->KC
open Ne renaming symm->EF
open Option renaming map_eq_some_iff->Cw,getD_some->CY,ne_none_iff_exists'->EN,map_some->G8,isSome_iff_exists->GR,getD_none->Ha,isSome->Ie,isSome_some->Iy,isSome_map->J3
open Option.some renaming inj->C9,injEq->GP
open Or renaming inr->JK,inl->Kz
open Prod renaming ext->Gy
open PyProof.Rows renaming wpS_bind->Bw,wpS_pure->BD,Keyed->BF,boot_isinstance->BN,boot_list->CD,wpS_forRange->CK,SortSt->Di,wpS_modify->Dn,callWith_type1->Dt,wpS_mono->Eo,boot_tuple->Et,boot_int->EE,mem_zip_self->F3,wpS_get->FA,boot_bool->FE,boot_abs->FI,boot_all->FJ,SortKind->FZ,AllBare->GH,boot_sorted->GZ,wpS_lift->He,subscriptTail_builtinR->Hi,boot_max->HJ,boot_str->HL,listUpdate_at->Ih,Subscript_->Iq,IntsAre->IL,callWith_builtin1->J8,seqEpoch_at->Jn,boot_set->KH,tail_any->KO,TupTab->L0
open PyProof.Rows.F renaming plain_set_update_loop->Es,entry_set_update_loop->Hf
open PyProof.Rows.SortSt renaming mk'->ES
open PySem renaming wpAny_bind->Bk,Value->Bq,wpAny_pure->Br,Shared->Bs,Program->BK,boot_len->BW,World->C2,Spec->C3,FuncData->C4,Around->Cj,wpAny_seqItems->Cy,wpAny_setField_rec->CB,sizeLine_eq->CF,wpAny_callSpecial?_slot->CG,wpAny_call_entry->CI,wpAny_field->CJ,SetTable->CL,wpAny_holding->CV,IsTupleKey->D8,mem_of_lookup->Dg,Builtin->Dv,wpAny_mono->Dx,wpAny_onRaise->DL,wpAny_typeNameOfWhole_keyiter->DO,wpAny_truthy_bool->DP,wpAny_setState_of->DU,wpAny_newObj_type->Ea,wpAny_rule->Ee,wpAny_typeNameOf_keyiter->Ef,NameKind->El,wpAny_isInstance->En,IsZip->Eu,wpAny_letGo->Ew,wpAny_attempt->EB,wpAny_isSame_ref_self->ED,isSubtype_stop->EM,wpAny_passesOwn->Fb,IsPair->Fg,Scope->Fj,DictEntry->Fm,wpAny_pyIter_list->Ft,wpAny_dictEntries->FC,wpAny_pyIter_zip->FP,wpAny_updateSeq_pair->FX,codeAny_builtin->Gg,codeAny_mono->Gn,wpAny_Call_Name_kw->Gs,wpAny_setField->Gx,wpAny_letOwnedTupleGo_zip->GD,slot_list_getitem->GI,wpAny_getItem_list_slice->GS,wpAny_comprehension_free->GV,wpAny_eqBool_int->H9,wpAny_forIn_list->Hd,Model->Ht,wpAny_execs_nil->Hu,wpAny_specialOf->Hv,Draws->Hx,wpAny_dictEpoch->Hz,wpAny_isOneOf_keyiter->HG,sliceRange_one->HQ,wpAny_newTuple->HS,wpAny_standAt->Ia,evalPart_none->Ib,plainId_quiet->Ij,wpAny_pyIter_ascii->Iz,tupleKind_room_in1->IF,wpAny_pyHash_tuple->IG,wpAny_assign_Name->IH,BindsTo->IK,seqIndex_neg->IM,Keyword->IP,wpAny_pyIter_wide->IQ,wpAny_storeSet_of->IW,wpAny_pyIter_slot->IZ,wpAny_execs_cons->J6,seqIndex_of->Jk,wpAny_of_eq->Jl,wpAny_loadPart'->Jp,pushCells_keeps->Jr,codeAny_of_tree->Jx,GenState->JC,wpAny_Name->JD,typeIs_str->JF,call_meets->JG,fitsIndex_both->JI,call->JJ,wpAny_fieldsOf->JO,intBits_le_64->K8,call_list_seq->Kl,wpAny_handled->Km,wpAny_newList->Kr,Within->Kx,cLine->KU,putAt->KW,Result->Lb,Params->Le
open PySem.Around renaming under_plainId->G3
open PySem.Builtin.Dict renaming showsAll->HF,dictSlotNone->K5,pendingCount->K6
open PySem.Builtin.Dict_items renaming ownsTuple->Ge
open PySem.Builtin.Frozenset renaming withSetAsKey->Jh,updateFrom->Jz,newClass->JQ,oneOther->JS,addrOf->Ku
open PySem.Builtin.Range renaming rangeSize->Kv
open PySem.Builtin.SmallTypes renaming nextOf->BY,ownedTupleIsFree->Cb,ownedTupleHandOut->Dh
open PySem.Builtin.Str renaming strSliceIndices->Du,tooLong->La
open PySem.Calls renaming Name_function_global->Gr,call_function_entry->GF
open PySem.Challenge renaming rw_wornband_k39_searches_judged->Dj,pw_wornband_k39_searches_judged->GO
open PySem.Data renaming cell->FN,seq->HR,fields->Jj
open PySem.EqMixed renaming eq_bool_str->JY,eq_str_bool->JZ,ne_bool_str->K3,ne_str_bool->K4,eq_int_str->Kc,eq_str_int->Ke,ne_int_str->Ki,ne_str_int->Kk
open PySem.EqNone renaming eq_none_none->JV,eq_none_bool->JW,eq_bool_none->JX,ne_none_none->K0,ne_none_bool->K1,ne_bool_none->K2,eq_none_int->K9,eq_none_str->Ka,eq_int_none->Kb,eq_str_none->Kd,ne_none_int->Kf,ne_none_str->Kg,ne_int_none->Kh,ne_str_none->Kj
open PySem.F renaming slot_dict_keyiterator_next->CT,slot_zip_next->D0,slot_tuple_iterator_next->Dy,plainAttrs_list->DS,args_zip_next_1->Em,entry_zip_next->Ez,called_set->EA,args_tuple_iterator_next_1->Ff,entry_tuple_iterator_next->Fq,slot_list_insert->FD,args_dict_keyiterator_next_1->FR,entry_dict_keyiterator_next->G1,slot_dict_keyiterator_iter->Gf,slot_list_pop->Gj,slot_set_contains->Gm,type_list_insert->H0,plainAttrs_str->Hk,slot_list_append->HB,entry_zip_new->HC,slot_dict_len->HH,type_list_pop->HK,called_zip->ID,slot_dict_iter->Jg,plain_set_new->Jy
open PySem.Heap renaming get?_push_of_some->Bm,get?_push_size->By,lt_size->BC,SameBut->BM,size_push->Cs,get?_update_self->E3,ExtBut->Fo,get?_update_other->Fw,get?_push_ne->GN,size_update->Jd
open PySem.Heap.IsSliceOf renaming new->Ir
open PySem.Heap.SameBut renaming update->DC
open PySem.Moved renaming trans->KY
open PySem.NameKind renaming free->CW,cell->Ic
open PySem.Obj renaming mapSeq->DW,putSet->GA,data_mapFields->IB,mapFields->Kt
open PySem.PassesOwn renaming never->C5
open PySem.PyData renaming keyHash->G4
open PySem.SeqAt renaming EqAt->Iu,notIn_listAt->Iw
open PySem.SeqAt.EqAt renaming int_int->Gu,int_str->Im,str_int->Io,same->Jq,none_bool->KQ,bool_none->KR,bool_bool->KS,none_int->L1,none_str->L3,bool_int->L4,bool_str->L5,int_none->L6,int_bool->L7,str_none->L8,str_bool->L9,str_str->Ld,of_refs->Lh
open PySem.SeqAt.RcAt renaming tuples->Ll
open PySem.SeqAt.RcNeAt renaming lists_lengths->JP,lists->Lg
open PySem.SetTable renaming leap->C8,bits->Cc,runEnd->Cp,turns->CS,insertAt->D4,below->Dm,grown->ER,sizeAbove->Fh,fill->Ig,has->IU,fresh->JR,slot->Kn,laid->Ko,fits->Kp
open PySem.SetTable.below renaming go->EG
open PySem.SetTable.layClean renaming free->Dz
open PySem.SetTable.probe renaming go->EH
open PySem.Str renaming ofString->Bu,length->Lc
open PySem.Txt renaming find->Gw,slice->J9,mul->Lk
open PySem.Value renaming none->CM,ref->CN,int->EU,type->FL,bool->Ip,str->J5,scannable->Jv,isStrOf->K7,isInt->KI,float->KN
open PySem.W renaming Frag->Bo,nsIn->Co,mg_none_of->Cu,kitOne->D6,kia_one->Dc,fnOf->DK,mg_of->DM,keepIn->Ek,codeIn->EL,cellsFrom_some->Fu,OpenLaw->FW,methodObj->GG,instObj->Hr,lookIn->HP,kitx_list->II,kitx_dict->IJ,looks_findIn->IT,plainGet->J7,looks_mroIn->Jm,WalkO->JA,findIn->JE,looks_find->JM
open PySem.W.WData renaming int->Lp
open PySem.W.WShape renaming has->Lf
open Sum renaming inl->Eh,inr->Ei
open Sum.inl renaming inj->KJ
open Sum.inr renaming inj->KL
open True renaming intro->Fe
set_option Elab.async false
set_option linter.all false
set_option maxRecDepth 100000
namespace L2
open PySem PySem.Spec PyProof.Rows
abbrev Key:=Sum Int Str
def fW:Key->Bq->Bool
 | .inl k,v=>KI k v
 | .inr x,v=>K7 x v
def rK(w:C2):Key->Int
 | .inl k=>hashInt k
 | .inr x=>hashStr w x
theorem bM:∀{k:Key}{v:Bq},fW k v=true->(∃i t,k=Eh i/\v=EU i t)\/(∃x t,k=Ei x/\v=J5 x t)
 | .inl i,v,h=>by
  obtain⟨t,e⟩:=Value.isInt_shape (k:=i) (v:=v) h;exact .inl ⟨i,t,rfl,e⟩
 | .inr x,v,h=>by
  obtain⟨t,e⟩:=Value.isStrOf_shape (x:=x) (v:=v) h;exact .inr ⟨x,t,rfl,e⟩
theorem gr(i:Int)(t:Tok):fW (.inl i) (.int i t)=true:=by simp[fW,KI]
theorem gs(x:Str)(t:Tok):fW (.inr x) (.str x t)=true:=by simp[fW,K7]
theorem x8(a b:Int):decide ((Eh a:Key)=Eh b)=(a==b):=by
 by_cases e:a=b;·subst e;simp
 ·have h:¬(Eh a:Key)=Eh b:=fun q=>e<|KJ q;rw[decide_eq_false h];exact(beq_eq_false_iff_ne.mpr e).symm
theorem x9(a b:Str):decide ((Ei a:Key)=Ei b)=decide (a=b):=by
 by_cases e:a=b;·subst e;simp
 ·have h:¬(Ei a:Key)=Ei b:=fun q=>e<|KL q;rw[decide_eq_false h,decide_eq_false e]
theorem xb(a:Int)(b:Str):decide ((Eh a:Key)=Ei b)=false:=decide_eq_false (fun q=>nomatch q)
theorem xc(a:Str)(b:Int):decide ((Ei a:Key)=Eh b)=false:=decide_eq_false (fun q=>nomatch q)
def mixKind(prog:BK)(w:C2):PySem.KeyKind prog w Key where
 is:=fW
 hash:=rK w
 inj:=fun v a b ha hb=>by
  rcases bM ha with⟨i,t,rfl,rfl⟩|⟨x,t,rfl,rfl⟩
  ·rcases bM hb with⟨j,u,rfl,e⟩ | ⟨y,u,rfl,e⟩
   ·injection e with e1 _;rw[e1]
   ·exact nomatch e
  ·rcases bM hb with⟨j,u,rfl,e⟩ | ⟨y,u,rfl,e⟩
   ·exact nomatch e
   ·injection e with e1 _;rw[e1]
 byValue:=fun k v h=>by
  rcases bM h with⟨i,t,rfl,rfl⟩|⟨x,t,rfl,rfl⟩<;>rfl
 pyHash:=fun hv h=>by
  rcases bM hv with⟨i,t,rfl,rfl⟩|⟨x,t,rfl,rfl⟩
  ·exact wpAny_pyHash_int h
  ·exact wpAny_pyHash_str h
 eqBool:=fun hu hv h=>by
  rcases bM hu with⟨i,t,rfl,rfl⟩|⟨x,t,rfl,rfl⟩
  ·rcases bM hv with⟨j,u,rfl,rfl⟩ | ⟨y,u,rfl,rfl⟩
   ·rw[x8]at h;exact H9 h
   ·rw[xb]at h;exact Im i t y u _ _ _ _ h
  ·rcases bM hv with⟨j,u,rfl,rfl⟩ | ⟨y,u,rfl,rfl⟩
   ·rw[xc]at h;exact Io x t j u _ _ _ _ h
   ·rw[x9]at h;exact wpAny_eqBool_str h
 «strs»:=fun k x t v h=>by
  rcases bM h with⟨i,u,rfl,e⟩|⟨y,u,rfl,e⟩
  ·exact nomatch e
  ·injection e with e1 _;subst e1;cases v<;>rfl
theorem mm(prog:BK)(w:C2)(i:Int)(t:Tok):(mixKind prog w).is (.inl i) (.int i t)=true:=gr i t
theorem mn(prog:BK)(w:C2)(x:Str)(t:Tok):(mixKind prog w).is (.inr x) (.str x t)=true:=gs x t
inductive V where
 |non|bl (b:Bool)|int (i:Int)|str (x:Str)|byt (b:Array UInt8)|flt (b:UInt64)|ref (a:Addr)|ty (n:String)
 deriving DecidableEq
def RelV:V->Bq->Prop
 | .non,u=>u=CM
 | .bl b,u=>u=Ip b
 | .int i,u=>∃t,u=EU i t
 | .str x,u=>∃t,u=J5 x t
 | .byt b,u=>∃t,u=Value.bytes b t
 | .flt b,u=>∃t,u=KN b t
 | .ref a,u=>u=CN a
 | .ty n,u=>u=FL n
abbrev Vals:List V->List Bq->Prop:=Paired RelV
theorem Vals.length{xs:List V}{us:List Bq}(r:Vals xs us):xs.length=us.length:=Paired.length r
theorem Vals.get:∀{xs:List V}{us:List Bq}{i:Nat}{x:V},Vals xs us->xs[i]? =some x->∃u,us[i]? =some u/\RelV x u
 |_,_,_,_,.nil,e=>by simp at e
 |_,_,0,_,.cons r _,e=>by simp at e;subst e;exact⟨_,rfl,r⟩
 |_,_,i+1,x, .cons _ t,e=>by
  obtain⟨u,h1,h2⟩:=Vals.get (i:=i) (x:=x) t (by simpa using e);exact⟨u,by simpa using h1,h2⟩
theorem Vals.set{x:V}{u:Bq}(r:RelV x u):∀{xs:List V}{us:List Bq}(i:Nat),Vals xs us->Vals (xs.set i x) (us.set i u)
 |_,_,_,.nil=>.nil
 |_,_,0,.cons _ t=>.cons r t
 |_,_,i+1,.cons q t=>.cons q<|Vals.set r i t
theorem Vals.append:∀{xs ys:List V}{us ws:List Bq},Vals xs us->Vals ys ws->Vals (xs++ys) (us++ws)
 |_,_,_,_,.nil,s=>s
 |_,_,_,_,.cons r t,s=>.cons r<|Vals.append t s
theorem Vals.take:∀{xs:List V}{us:List Bq}(n:Nat),Vals xs us->Vals (xs.take n) (us.take n)
 |_,_,0,_=>.nil
 |_,_,_+1,.nil=>.nil
 |_,_,n+1,.cons r t=>.cons r<|Vals.take n t
theorem Vals.drop:∀{xs:List V}{us:List Bq}(n:Nat),Vals xs us->Vals (xs.drop n) (us.drop n)
 |_,_,0,r=>r
 |_,_,_+1,.nil=>.nil
 |_,_,n+1,.cons _ t=>Vals.drop n t
def RelO:Option V->Option Bq->Prop
 |some v,some u=>RelV v u
 |none,none=>True
 |_,_=>False
def KV{κ:Type}:List (κ×V)->List (κ×Bq)->Prop:=Paired fun(p:κ×V)(q:κ×Bq)=>p.1=q.1/\RelV p.2 q.2
def kV:Key->V
 | .inl i=>.int i
 | .inr x=>.str x
inductive HO where
 |lst (xs:List V)
 |tup (xs:List V)
 |dK (kvs:List (Key×V))|dT (kvs:List (List Key×V))
 |set (S:Int->Bool) (n:Nat)
 |ins (C dx:Addr) (fs:List (Str×V))
 |own (x:Addr)
 |xd (fs:List (Str×V))
 |met (f x:Addr)
 |rng (lo hi:Int)
 |frz (o:Obj) (u:HO)
 |tbl (ps:Array Bq)
 |ext (φ:Heap->Prop)
abbrev Hp:=Addr->Option HO
def cU(H:Hp)(a:Addr)(o:HO):Hp:=fun b=>if b=a then some o else H b
theorem aG{H:Hp}{a:Addr}{o:HO}:cU H a o a=some o:=by unfold cU;rw[if_pos rfl]
theorem aH{H:Hp}{a b:Addr}{o:HO}(h:b≠a):cU H a o b=H b:=by unfold cU;rw[if_neg h]
theorem cm{H:Hp}{a b:Addr}{o:HO}(h:H a=some o)(h':H b=none):a≠b:=by
 intro e;subst e;rw[h]at h';cases h'
def IsTupD(h:Heap)(a:Addr)(items:Array Bq):Prop:=∃o,h.get? a=some o/\(o.cls=.type "tuple"/\o.dict=none)/\∃n,o.data=.seq items n
theorem IsTupD.tup{h:Heap}{a:Addr}{items:Array Bq}(t:IsTupD h a items):IsTup h a items:=let ⟨o,e,c,n,d⟩:=t;⟨o,e,c.1,n,d⟩
theorem IsTupD.new(h:Heap)(items:Array Bq):IsTupD (h.push {cls:=.type "tuple",data:=.seq items}) h.objs.size items:=⟨_,By h rfl,⟨rfl,rfl⟩,0,rfl⟩
section
variable(P:BK)(w:C2)
def ObjOk(H:Hp)(h:Heap)(a:Addr):HO->Prop
 | .lst xs=>xs.length<=sizeLine/\∃(its:List Bq)(n:Nat),Vals xs its/\h.get? a=some {cls:=.type "list",data:=.seq its.toArray n}
 | .tup xs=>xs.length<=sizeLine/\∃its:List Bq,Vals xs its/\IsTupD h a its.toArray
 | .dK kvs=>kvs.length<=sizeLine/\(a==sysModules)=false/\∃vs,KV kvs vs/\h.DictOf (mixKind P w) a vs
 | .dT kvs=>kvs.length<=sizeLine/\(a == sysModules)=false/\∃xs:List (List Key×Addr×Bq),
   Paired (fun(p:List Key×V)(q:List Key×Addr×Bq)=>p.1=q.1/\H q.2.1=some (.tup<|p.1.map kV)/\RelV p.2 q.2.2) kvs xs/\
   ∃o es ep,h.get? a=some o/\o.ExactDict/\o.data=.dict es ep/\es.toList=xs.map (entryOfKey<|tupleKind<|mixKind P w)/\(xs.map (·.1)).Nodup
 | .set S n=>h.SetOf (intKind P w) a S n
 | .ins C dx fs=>H dx=some (.own a)/\fs.length<=1000/\dx≠a/\h.get? a=some (Hr C dx)/\
   ∃mA,h.Ns1 dx mA/\(∀f,RelO (fs.lookup f)<|mA f)/\Kx mA (fs.map (·.1))
 | .own _=>∃o,h.get? a=some o
 | .xd fs=>∃mA,h.Ns1 a mA/\∀f,RelO (fs.lookup f)<|mA f
 | .rng lo hi=>∃t u v,h.get? a=some {cls:=.type "range",data:=.fields #[.int lo t,.int hi u,.int 1 v]}
 | .frz o u=>h.get? a=some o/\ObjOk H h a u
 | .tbl ps=>h.get? a=some {cls:=.none,data:=.fields ps}
 | .met f x=>h.get? a=some (GG (.ref f)<|.ref x)
 | .ext φ=>φ h/\(∃o,h.get? a=some o)/\∀h1 h2:Heap,φ h1->(∀o,h1.get? a=some o->h2.get? a=some o)->φ h2
def HOk(H:Hp)(h:Heap):Prop:=∀a o,H a=some o->ObjOk P w H h a o
end
section
variable{P:BK}{w:C2}{H H':Hp}{h h':Heap}{a:Addr}{o:HO}
theorem ObjOk.lt(x:ObjOk P w H h a o):a<h.objs.size:=by
 cases o with
 |lst xs=>obtain⟨_,_,_,_,e⟩:=x;exact BC e
 |tup xs=>obtain⟨_,_,_,p⟩:=x;exact p.tup.lt
 |dK kvs=>obtain⟨_,_,_,_,o,_,_,e,_⟩:=x;exact BC e
 |dT kvs=>obtain⟨_,_,_,_,o,_,_,e,_⟩:=x;exact BC e
 |set S n=>obtain⟨o,_,_,_,e,_⟩:=x;exact BC e
 |ins C dx fs=>obtain⟨_,_,_,e,_⟩:=x;exact BC e
 |own y=>obtain⟨_,e⟩:=x;exact BC e
 |xd fs=>obtain⟨_,⟨_,_,_,e,_⟩,_⟩:=x;exact BC e
 |rng lo hi=>obtain⟨_,_,_,e⟩:=x;exact BC e
 |frz ob u=>obtain⟨e,_⟩:=x;exact BC e
 |tbl ps=>exact BC (show h.get? a=some _ from x)
 |met f y=>exact BC (show h.get? a=some _ from x)
 |ext φ=>obtain⟨_,⟨_,e⟩,_⟩:=x;exact BC e
theorem Paired.mapP{α β:Type}{F G:α->β->Prop}:∀{l₁:List α}{l₂:List β},Paired F l₁ l₂->(∀a b,F a b->G a b)->Paired G l₁ l₂
 |_,_,.nil,_=>.nil
 |_,_,.cons r t,f=>.cons (f _ _ r)<|Paired.mapP t f
theorem ObjOk.stay(x:ObjOk P w H h a o)(k:∀b u,(b=a\/H b=some (.own a))->h.get? b=some u->h'.get? b=some u)
  (ho:∀b,H b=some (.own a)->H' b=some (.own a)) (ht:∀b xs,H b=some (.tup xs)->H' b=some (.tup xs)):ObjOk P w H' h' a o:=by
 induction o with
 |lst xs=>obtain⟨z,its,n,r,e⟩:=x;exact⟨z,its,n,r,k _ _ (.inl rfl) e⟩
 |tup xs=>obtain⟨z,its,r,ob,e,c⟩:=x;exact⟨z,its,r,ob,k _ _ (.inl rfl) e,c⟩
 |dK kvs=>obtain⟨z,y,vs,r,ob,es,ep,e,c⟩:=x;exact⟨z,y,vs,r,ob,es,ep,k _ _ (.inl rfl) e,c⟩
 |dT kvs=>
  obtain⟨z,y,xs,r,ob,es,ep,e,c⟩:=x;exact⟨z,y,xs,Paired.mapP r fun p q z=>⟨z.1,ht _ _ z.2.1,z.2.2⟩,ob,es,ep,k _ _ (.inl rfl) e,c⟩
 |set S n=>obtain⟨ob,es,ep,t,e,c⟩:=x;exact⟨ob,es,ep,t,k _ _ (.inl rfl) e,c⟩
 |ins C dx fs=>
  obtain⟨d,z,ne,e,mA,⟨od,es,ep,e2,c⟩,r⟩:=x;exact⟨ho _ d,z,ne,k _ _ (.inl rfl) e,mA,⟨od,es,ep,k _ _ (.inr d) e2,c⟩,r⟩
 |own y=>obtain⟨ob,e⟩:=x;exact⟨ob,k _ _ (.inl rfl) e⟩
 |xd fs=>obtain⟨mA,⟨od,es,ep,e,c⟩,r⟩:=x;exact⟨mA,⟨od,es,ep,k _ _ (.inl rfl) e,c⟩,r⟩
 |rng lo hi=>obtain⟨t,u,v,e⟩:=x;exact⟨t,u,v,k _ _ (.inl rfl) e⟩
 |frz ob u ih=>obtain⟨e,q⟩:=x;exact⟨k _ _ (.inl rfl) e,ih q⟩
 |tbl ps=>
  have e:h.get? a=some {cls:=.none,data:=.fields ps}:=x;show h'.get? a=some {cls:=.none,data:=.fields ps};exact k a _ (.inl rfl) e
 |met f y=>
  have e:h.get? a=some (GG (.ref f)<|.ref y):=x;show h'.get? a=some (GG (.ref f)<|.ref y);exact k a _ (.inl rfl) e
 |ext φ=>obtain⟨p,⟨o,e⟩,st⟩:=x;exact⟨st _ _ p fun o q=>k _ _ (.inl rfl) q,⟨o,k _ _ (.inl rfl) e⟩,st⟩
theorem HOk.lt(x:HOk P w H h)(e:H a=some o):a<h.objs.size:=(x a o e).lt
theorem HOk.fresh(x:HOk P w H h)(e:h.objs.size<=a):H a=none:=by
 cases q:H a with
 |none=>rfl
 |some u=>exact absurd (BG (x.lt q) e)<|CU _
theorem HOk.kept(x:HOk P w H h)(k:∀b u,h.get? b=some u->h'.get? b=some u):HOk P w H h':=fun a o e=>
 (x a o e).stay (fun b u _ q=>k b u q) (fun _ q=>q) fun _ _ q=>q
theorem HOk.laid(x:HOk P w H h)(k:∀b u,h.get? b=some u->h'.get? b=some u)(hp:h.objs.size<=a)(new:ObjOk P w (cU H a o) h' a o):HOk P w (cU H a o) h':=fun b u e=>by
 have hn:=x.fresh hp;by_cases hb:b=a;·subst hb;rw[aG]at e;cases e;exact new
 ·rw[aH hb]at e;exact(x b u e).stay (fun c v _ q=>k c v q) (fun c q=>by rw[aH<|cm q hn];exact q) fun c xs q=>by rw[aH<|cm q hn];exact q
end
def Rd(H:Hp)(a:Addr)(u:HO):Prop:=H a=some u\/∃o,H a=some (.frz o u)
theorem Rd.ok{P:BK}{w:C2}{H:Hp}{h:Heap}{a:Addr}{u:HO}(r:Rd H a u)(x:HOk P w H h):ObjOk P w H h a u:=by
 rcases r with r|⟨o,r⟩
 ·exact x a u r
 ·obtain⟨_,q⟩:=x a _ r;exact q
def yt:Option HO->Prop
 |some (.lst _)=>True
 |some (.dK _)=>True
 |some (.dT _)=>True
 |some (.set _ _)=>True
 |some (.ins _ _ _)=>True
 |some (.ext _)=>True
 |_=>False
section
variable{P:BK}{w:C2}{H:Hp}{h h':Heap}{x e:Addr}{o':HO}
theorem HOk.write(ok:HOk P w H h)(mu:yt (H x))(he:e=x\/H e=some (.own x))(k:∀b u,b≠e->h.get? b=some u->h'.get? b=some u)(heo:∃u,h'.get? e=some u)
  (new:ObjOk P w (cU H x o') h' x o'):HOk P w (cU H x o') h':=fun b u q=>by
 have nown:∀c y,H c=some (.own y)->c≠x:=fun c y r z=>by subst z;rw[r]at mu;exact mu
 have ntup:∀c xs,H c=some (.tup xs)->c≠x:=fun c xs r z=>by subst z;rw[r]at mu;exact mu
 by_cases hb:b=x;·subst hb;rw[aG]at q;cases q;exact new
 ·rw[aH hb]at q;by_cases hbe:b=e
  ·have q':H b=some (.own x):=by
    rcases he with z|z;·exact absurd (hbe.trans z) hb
    ·rw[hbe];exact z
   rw[q]at q';cases q';obtain⟨v,hv⟩:=heo;exact⟨v,by rw[hbe];exact hv⟩
  ·refine(ok b u q).stay (fun c v hc r=>k c v ?_ r) (fun c r=>by rw[aH<|nown c b r];exact r) fun c xs r=>by rw[aH<|ntup c xs r];exact r
   rcases hc with rfl|hc;·exact hbe
   ·rintro rfl;rcases he with z|z;·exact nown c b hc z
    ·rw[hc]at z;cases z;exact hb rfl
end
structure Un(fs ex:List Addr)(H H':Hp)(h h':Heap):Prop where
 keep:∀b o,h.get? b=some o->H b=none->b∉fs->b∉ex->h'.get? b=some o
 slot:∀b o,h.get? b=some o->H b=none->b∈fs->b∉ex->∃sl,h'.get? b=some {o with slots:=sl}
 free:∀b o,h.get? b=some o->H b=none->b∉ex->H' b=none
 there:∀b o,h.get? b=some o->b∉ex->∃o',h'.get? b=some o'
 tups:∀b xs,H b=some (.tup xs)->H' b=some (.tup xs)
 frzs:∀b o u,H b=some (.frz o u)->H' b=some (.frz o u)
 tbls:∀b ps,H b=some (.tbl ps)->∃more,H' b=some (.tbl<|ps++more)
section
variable{fs fs' ex ex':List Addr}{H H1 H2:Hp}{h h1 h2 h':Heap}{a x e:Addr}{o:HO}
theorem Un.any(u:Un fs ex H H1 h h1){b:Addr}{ob:Obj}(q:h.get? b=some ob)(n:H b=none)(hx:b∉ex):∃sl,h1.get? b=some {ob with slots:=sl}:=by
 by_cases hb:b∈fs;·exact u.slot b ob q n hb hx
 ·exact⟨ob.slots,u.keep b ob q n hb hx⟩
theorem Un.kept(k:∀b u,h.get? b=some u->h'.get? b=some u):Un fs ex H H h h':=
 ⟨fun b ob q _ _ _=>k b ob q,fun b ob q _ _ _=>⟨ob.slots,k b ob q⟩,fun _ _ _ n _=>n,fun b ob q _=>⟨ob,k b ob q⟩,fun _ _ q=>q,fun _ _ _ q=>q,fun _ ps q=>⟨#[],by rw[q];simp⟩⟩
theorem Un.refl:Un fs ex H H h h:=Un.kept fun _ _ q=>q
theorem Un.laid(k:∀b u,h.get? b=some u->h'.get? b=some u)(hp:h.objs.size<=a)(hn:H a=none):Un fs ex H (cU H a o) h h' where
 keep:=fun b u q _ _ _=>k b u q
 slot:=fun b u q _ _ _=>⟨u.slots,k b u q⟩
 free:=fun b u q n _=>by rw[aH<|BO<|BG (BC q) hp];exact n
 there:=fun b u q _=>⟨u,k b u q⟩
 tups:=fun b xs q=>by rw[aH<|cm q hn];exact q
 frzs:=fun b u xs q=>by rw[aH<|cm q hn];exact q
 tbls:=fun b ps q=>⟨#[],by rw[aH<|cm q hn,q];simp⟩
theorem Un.write(mu:yt (H x))(he:e=x\/H e=some (.own x))(k:∀b u,b≠e->h.get? b=some u->h'.get? b=some u)(heo:∃u,h'.get? e=some u):Un fs ex H (cU H x o) h h':=by
 have hx:∀b,H b=none->b≠x:=fun b n z=>by subst z;rw[n]at mu;exact mu
 have hb:∀b,H b=none->b≠e:=fun b n z=>by
  subst z;rcases he with r|r
  ·exact hx b n r
  ·rw[n]at r;cases r
 have hm:∀b u,H b=some u->¬yt (some u)->b≠x:=fun b u q nm z=>by subst z;rw[q]at mu;exact nm mu
 refine⟨fun b u q n _ _=>k b u (hb b n) q,fun b u q n _ _=>⟨u.slots,k b u (hb b n) q⟩,fun b u q n _=>by rw[aH<|hx b n];exact n,fun b u q _=>?_,
  fun b xs q=>by rw[aH (hm b _ q fun z=>z)];exact q,fun b u xs q=>by rw[aH (hm b _ q fun z=>z)];exact q,fun b ps q=>⟨#[],by rw[aH (hm b _ q fun z=>z),q];simp⟩⟩
 by_cases hbe:b=e;·subst hbe;exact heo
 ·exact⟨u,k b u hbe q⟩
end
def iK(h:Heap)(H:Hp):List Addr:=(CZ h.objs.size).filter fun a=>(H a).isSome
def lj(h:Heap)(H:Hp):Heap:=PySem.W.hideAll h<|iK h H
theorem qf(h:Heap)(H:Hp):(lj h H).objs.size=h.objs.size:=PySem.W.hideAll_size _ _
theorem rL{h:Heap}{H:Hp}{b:Addr}{o:Obj}(e:h.get? b=some o)(n:H b=none):(lj h H).get? b=some o:=
 PySem.W.hideAll_get _ e fun hm=>by
  have q:(H b).isSome=true:=(Hs.mp hm).2;rw[n]at q;simp at q
theorem uW{h:Heap}{H:Hp}{b:Addr}{o:Obj}(e:(lj h H).get? b=some o):h.get? b=some o/\H b=none:=by
 have e':h.get? b=some o:=PySem.W.of_hideAll (iK h H) e;refine⟨e',?_⟩;cases q:H b with
 |none=>rfl
 |some x=>
  have hm:b∈iK h H:=Hs.mpr ⟨EI.mpr<|BC e',by simp[q]⟩;have z:(lj h H).get? b=none:=PySem.W.hideAll_none (iK h H) hm;rw[z]at e;cases e
structure Mod(K:Bo)(mg:Str->Option Bq)(base:Heap):Prop where
 kin:K.In base
 glob:base.Ns mainGlobals mg
 blt:∃mb,base.Ns builtinsNs mb/\∀x:Str,x≠"__name__"->mb x=bootBuiltins x
 nolimit:base.NoLimit
structure Cx where
 prog:BK
 w:C2
 K:Bo
 mg:Str->Option Bq
 base:Heap
 A:Cj
 N:List Str
 s₀:Bs
 H₀:Hp
 env:Env
 outer:List Env
 stack:List Env
 ex:List Addr
 fn:Str->Bool
 calm:Bool
 pn:List (Addr×Obj)
 xe:Bq->Bs->Prop
def frs(l:List Env):List Addr:=l.filterMap (·.frame)
abbrev Cx.fs(X:Cx):List Addr:=frs X.outer
def Vis(sc:Fj)(x:Str):Prop:=sc.names.lookup x=some .local\/sc.names.lookup x=some .cell\/sc.names.lookup x=some .free
def xf(sc:Fj)(x:Str):Prop:=sc.names.lookup x=some .local\/sc.names.lookup x=some .cell
def Look(env:Env)(h:Heap)(m:Str->Option Bq)(x:Str)(u:Bq):Prop:=
 (env.kindOf x=some .local/\m x=some u)\/((env.kindOf x=some .cell\/env.kindOf x=some .free)/\∃c,env.cells.lookup x=some c/\h.IsCell c (some u))
structure Cx.Ok(X:Cx):Prop where
 mod:Mod X.K X.mg X.base
 kind:X.env.scope.kind=.function
 glob:X.env.globals=mainGlobals
 blt:X.env.builtins=builtinsNs
 above:X.s₀.heap.objs.size<=X.env.locals
 inj:∀x y c,X.env.cells.lookup x=some c->X.env.cells.lookup y=some c->x=y
 has:∀x,(X.env.kindOf x=some .cell\/X.env.kindOf x=some .free)->∃c,X.env.cells.lookup x=some c
 cab:∀x c,X.fn x=true->X.env.cells.lookup x=some c->X.s₀.heap.objs.size<=c
 hd:X.calm=true->X.A.handled=none
 frames:X.A.frames=some X.stack
 stk:X.stack=X.outer\/(X.stack=X.env::X.outer/\X.env.frame=some X.env.locals)
 exf:∀b∈X.ex,b≠X.env.locals/\∀x c,X.env.cells.lookup x=some c->c≠b
 bs:∀b o,X.base.get? b=some o->X.s₀.heap.get? b=some o/\X.H₀ b=none
 bsz:X.base.objs.size<=X.s₀.heap.objs.size
 noex:∀b o,X.base.get? b=some o->b∉X.ex
 exfs:∀b∈X.ex,b∉X.fs
 funs:X.s₀.heap.FunFrames X.base X.outer
 frf:∀b∈X.fs,X.H₀ b=none
structure Inv(X:Cx)(pins:List (Addr×Obj))(σ:List (Option V))(H:Hp)(s:Bs):Prop where
 ok:X.Ok
 os:s.os=X.s₀.os
 bare:GH s.gens
 base:Un X.fs X.ex X.H₀ H X.s₀.heap s.heap
 loc:∃m,s.heap.Ns X.env.locals m/\∀(i:Nat)(x:Str)(v:V),X.N[i]? =some x->σ[i]? =some (some v)->Vis X.env.scope x->∃u,RelV v u/\Look X.env s.heap m x u
 cell:∀x c,X.env.cells.lookup x=some c->∃v,s.heap.IsCell c v
 free:H X.env.locals=none
 freeC:∀x c,X.env.cells.lookup x=some c->H c=none
 pin:∀p∈X.pn++pins,s.heap.get? p.1=some p.2/\H p.1=none/\p.1≠X.env.locals/\p.1∉X.fs/\∀v,p.2.data≠.cell v
 hok:HOk X.prog X.w H s.heap
 len:σ.length=X.N.length
section
variable{X:Cx}{pins:List (Addr×Obj)}{σ:List (Option V)}{H H':Hp}{s:Bs}{h':Heap}
theorem Cx.Ok.nofr(ok:X.Ok){b:Addr}{o:Obj}(e:X.base.get? b=some o):b∉X.fs:=fun hb=>by
 have:=(ok.funs.mem hb).1;rw[e]at this;cases this
theorem Inv.bs(I:Inv X pins σ H s):∀b o,X.base.get? b=some o->s.heap.get? b=some o/\H b=none:=fun b o e=>
 ⟨I.base.keep b o (I.ok.bs b o e).1 (I.ok.bs b o e).2 (I.ok.nofr e) (I.ok.noex b o e),I.base.free b o (I.ok.bs b o e).1 (I.ok.bs b o e).2 (I.ok.noex b o e)⟩
theorem Inv.bk(I:Inv X pins σ H s):∀b o,X.base.get? b=some o->s.heap.get? b=some o:=fun b o e=>(I.bs b o e).1
theorem Inv.mod(I:Inv X pins σ H s):Mod X.K X.mg X.base:=I.ok.mod
theorem Inv.kIn(I:Inv X pins σ H s):X.K.In s.heap:=I.ok.mod.kin.keeps I.bk
theorem Inv.lt(I:Inv X pins σ H s):X.env.locals<s.heap.objs.size:=let ⟨_,hn,_⟩:=I.loc;hn.lt
theorem Inv.sz(I:Inv X pins σ H s):X.s₀.heap.objs.size<=s.heap.objs.size:=Dw I.ok.above<|EW I.lt
theorem Inv.nofs(I:Inv X pins σ H s){a:Addr}(h:s.heap.objs.size<=a):a∉X.fs:=fun hb=>by
 obtain⟨_,o,ho,_⟩:=I.ok.funs.mem hb;exact absurd (BG (BC ho)<|Dw I.sz h)<|CU _
theorem Inv.cne(I:Inv X pins σ H s):∀x c,X.env.cells.lookup x=some c->c≠X.env.locals:=fun x c e z=>by
 obtain⟨v,o,ho,hd⟩:=I.cell x c e;obtain⟨m,⟨o',es,ep,ho',hd',_⟩,_⟩:=I.loc;rw[z,ho']at ho;cases ho;rw[hd']at hd;cases hd
theorem Inv.funs(I:Inv X pins σ H s):s.heap.FunFrames X.base X.outer:=by
 have all:∀(l:List Env),(∀b∈frs l,b∈X.fs)->X.s₀.heap.FunFrames X.base l->s.heap.FunFrames X.base l:=by
  intro l
  induction l with
  |nil=>intro _ _;trivial
  |cons env r ih=>
   intro hs hl;obtain⟨hk,⟨L,o,hf,hn,ho,hd⟩,hr⟩:=hl;have hL:L∈X.fs:=hs L (by unfold frs;rw[Ej,hf];exact BR);obtain⟨sl,e⟩:=I.base.slot L o ho (I.ok.frf L hL) hL fun z=>I.ok.exfs L z hL;exact⟨hk,⟨L,_,hf,hn,e,hd⟩,ih (fun b hb=>hs b (by unfold frs;rw[Ej,hf];exact BP _ hb)) hr⟩
 exact all X.outer (fun _ hb=>hb) I.ok.funs
theorem Inv.stack(I:Inv X pins σ H s):s.heap.FunFrames X.base X.stack:=by
 rcases I.ok.stk with e|⟨e,hf⟩
 ·rw[e];exact I.funs
 ·rw[e];obtain⟨m,hn,_⟩:=I.loc;refine .cons (by rw[I.ok.kind];decide) hf hn ?_ I.funs;exact Heap.get?_none_of_le<|Dw I.ok.bsz I.ok.above
theorem Inv.stkSub(I:Inv X pins σ H s):∀b∈frs X.stack,b∈X.env.locals::X.fs:=fun b hb=>by
 rcases I.ok.stk with e|⟨e,hf⟩
 ·rw[e]at hb;exact BP _ hb
 ·rw[e]at hb;unfold frs at hb;rw[Ej,hf]at hb;exact hb
theorem Inv.stkFree(I:Inv X pins σ H s):∀b∈frs X.stack,H b=none:=fun b hb=>by
 rcases BE.mp (I.stkSub b hb)with e|hb;·rw[e];exact I.free
 ·obtain⟨_,o,ho,_⟩:=I.ok.funs.mem hb;exact I.base.free b o ho (I.ok.frf b hb) fun z=>I.ok.exfs b z hb
theorem Inv.step{g':Array JC}{t':Nat}{d':Drawn}{ch:List Addr}(I:Inv X pins σ H s)
  (hch:∀b∈ch,(b∈X.ex\/X.s₀.heap.objs.size<=b)/\b≠X.env.locals/\(∀x c,X.env.cells.lookup x=some c->c≠b)/\∀p∈X.pn++pins,p.1≠b)
  (keep:∀b o,b≠X.env.locals->b∉X.fs->b∉ch->s.heap.get? b=some o->H b=none->h'.get? b=some o)
  (slot:∀b o,b≠X.env.locals->b∈X.fs->b∉ch->s.heap.get? b=some o->H b=none->∃sl,h'.get? b=some {o with slots:=sl}) (free:∀b o,b∉ch->s.heap.get? b=some o->H b=none->H' b=none)
  (there:∀b o,b∉ch->s.heap.get? b=some o->∃o',h'.get? b=some o')
  (tups:∀b xs,H b=some (.tup xs)->H' b=some (.tup xs)) (frzs:∀b o u,H b=some (.frz o u)->H' b=some (.frz o u)) (tbls:∀b ps,H b=some (.tbl ps)->∃more,H' b=some (.tbl<|ps++more))
  (ns:∀m,s.heap.Ns X.env.locals m->h'.Ns X.env.locals m) (hok:HOk X.prog X.w H' h') (hg:GH g'):
  Inv X pins σ H' {s with heap:=h',gens:=g',drawn:=d',toks:=t'}:=by
 have neL:∀b o,X.s₀.heap.get? b=some o->b≠X.env.locals:=fun b o e=>BO<|BG (BC e) I.ok.above;have neC:∀b o,X.s₀.heap.get? b=some o->b∉X.ex->b∉ch:=fun b o e hx hb=>by
  rcases (hch b hb).1 with z|z;·exact hx z
  ·exact absurd (BG (BC e) z)<|CU _
 have cellK:∀x c,X.env.cells.lookup x=some c->∀v,s.heap.IsCell c v->h'.IsCell c v:=fun x c e v⟨o,ho,hd⟩=>by
  have nch:c∉ch:=fun z=>(hch c z).2.2.1 x c e rfl;by_cases hc:c∈X.fs
  ·obtain⟨sl,q⟩:=slot c o (I.cne x c e) hc nch ho<|I.freeC x c e;exact⟨_,q,hd⟩
  ·exact⟨o,keep c o (I.cne x c e) hc nch ho<|I.freeC x c e,hd⟩
 refine⟨I.ok,I.os,hg,⟨fun b o e n hb hx=>?_,fun b o e n hb hx=>?_,fun b o e n hx=>?_,fun b o e hx=>?_,fun b xs e=>tups b xs<|I.base.tups b xs e,fun b o xs e=>frzs b o xs<|I.base.frzs b o xs e,fun b ps e=>?_⟩,?_,fun x c e=>?_,?_,fun x c e=>?_,fun p hp=>?_,hok,I.len⟩;·exact keep b o (neL b o e) hb (neC b o e hx) (I.base.keep b o e n hb hx)<|I.base.free b o e n hx
 ·obtain⟨sl,e1⟩:=I.base.slot b o e n hb hx;obtain⟨sl',e2⟩:=slot b _ (neL b o e) hb (neC b o e hx) e1<|I.base.free b o e n hx;exact⟨sl',e2⟩
 ·obtain⟨o',e1⟩:=I.base.there b o e hx;exact free b o' (neC b o e hx) e1<|I.base.free b o e n hx
 ·obtain⟨o',e1⟩:=I.base.there b o e hx;exact there b o' (neC b o e hx) e1
 ·obtain⟨m1,e1⟩:=I.base.tbls b ps e;obtain⟨m2,e2⟩:=tbls b _ e1;exact⟨m1++m2,by rw[e2,Array.append_assoc]⟩
 ·obtain⟨m,hn,hl⟩:=I.loc;refine⟨m,ns m hn,fun i x v e1 e2 e3=>?_⟩;obtain⟨u,r,l⟩:=hl i x v e1 e2 e3;refine⟨u,r,?_⟩;rcases l with l|⟨k,c,e,z⟩
  ·exact .inl l
  ·exact .inr ⟨k,c,e,cellK x c e _ z⟩
 ·obtain⟨v,z⟩:=I.cell x c e;exact⟨v,cellK x c e v z⟩
 ·obtain⟨m,⟨o,_,_,ho,_⟩,_⟩:=I.loc;exact free _ o (fun z=>(hch _ z).2.1 rfl) ho I.free
 ·obtain⟨v,o,ho,hd⟩:=I.cell x c e;exact free c o (fun z=>(hch c z).2.2.1 x c e rfl) ho<|I.freeC x c e
 ·obtain⟨e,n,ne,nf,d⟩:=I.pin p hp;have nch:p.1∉ch:=fun z=>(hch p.1 z).2.2.2 p hp rfl;exact⟨keep p.1 p.2 ne nf nch e n,free p.1 p.2 nch e n,ne,nf,d⟩
theorem Inv.un{t':Nat}(I:Inv X pins σ H s)(u:Un X.fs [] H H' s.heap h')(hok:HOk X.prog X.w H' h'):Inv X pins σ H' {s with heap:=h',toks:=t'}:=by
 obtain⟨m,⟨o,es,ep,ho,r⟩,_⟩:=id I.loc;obtain⟨sl,hL⟩:=u.any ho I.free (by simp);exact I.step (g':=s.gens) (d':=s.drawn) (ch:=[]) (fun _ z=>nomatch z) (fun b o _ hb _ e n=>u.keep b o e n hb (by simp)) (fun b o _ hb _ e n=>u.slot b o e n hb (by simp)) (fun b o _ e n=>u.free b o e n (by simp)) (fun b o _ e=>u.there b o e (by simp)) u.tups u.frzs u.tbls (fun m' hm=>by
  obtain⟨o',es',ep',ho',r'⟩:=hm;rw[ho]at ho';cases ho';exact⟨_,es',ep',hL,r'⟩) hok I.bare
theorem Inv.call{g':Array JC}{t':Nat}{d':Drawn}{ch:List Addr}(I:Inv X pins σ H s)(u:Un (frs X.stack) ch H H' s.heap h')(hok:HOk X.prog X.w H' h')(hg:GH g')
  (hch:∀b∈ch,(b∈X.ex\/X.s₀.heap.objs.size<=b)/\b≠X.env.locals/\(∀x c,X.env.cells.lookup x=some c->c≠b)/\∀p∈X.pn++pins,p.1≠b):
  Inv X pins σ H' {s with heap:=h',gens:=g',drawn:=d',toks:=t'}:=by
 obtain⟨m,⟨o,es,ep,ho,r⟩,_⟩:=id I.loc;obtain⟨sl,hL⟩:=u.any ho I.free fun z=>(hch _ z).2.1 rfl;exact I.step (ch:=ch) hch (fun b o hL hb hc e n=>u.keep b o e n (fun z=>(BE.mp<|I.stkSub b z).elim hL hb) hc) (fun b o _ _ hc e n=>u.any e n hc) (fun b o hc e n=>u.free b o e n hc) (fun b o hc e=>u.there b o e hc) u.tups u.frzs u.tbls (fun m' hm=>by
  obtain⟨o',es',ep',ho',r'⟩:=hm;rw[ho]at ho';cases ho';exact⟨_,es',ep',hL,r'⟩) hok hg
theorem Inv.turned{t':Nat}{it:Addr}(I:Inv X pins σ H s)(k:∀b o,b≠it->s.heap.get? b=some o->h'.get? b=some o)(hn:H it=none)(hL:it≠X.env.locals)
  (h1:it∈X.ex\/X.s₀.heap.objs.size<=it) (h2:∀x c,X.env.cells.lookup x=some c->c≠it) (h3:∀p∈X.pn++pins,p.1≠it):Inv X pins σ H {s with heap:=h',toks:=t'}:=by
 have nit:∀b u,H b=some u->b≠it:=fun b u e z=>by rw[z,hn]at e;cases e
 refine I.step (g':=s.gens) (d':=s.drawn) (ch:=[it]) (fun b hb=>?_) (fun b o _ _ hc e _=>k b o (fun z=>hc (by simp[z])) e) (fun b o _ _ hc e _=>⟨o.slots,k b o (fun z=>hc (by simp[z])) e⟩) (fun _ _ _ _ n=>n)
  (fun b o hc e=>⟨o,k b o (fun z=>hc (by simp[z])) e⟩) (fun _ _ e=>e) (fun _ _ _ e=>e) (fun b ps e=>⟨#[],by rw[e];simp⟩) (fun m hm=>?_) (fun b u e=>?_) I.bare
 ·have e:b=it:=by simpa using hb
  subst e;exact⟨h1,hL,h2,h3⟩
 ·obtain⟨o,es,ep,ho,r⟩:=hm;exact⟨o,es,ep,k _ o (EF hL) ho,r⟩
 ·refine(I.hok b u e).stay (fun c v hc q=>k c v ?_ q) (fun _ q=>q) fun _ _ q=>q;rcases hc with z|z
  ·rw[z];exact nit b u e
  ·exact nit c _ z
theorem Inv.tok(I:Inv X pins σ H s)(t:Nat):Inv X pins σ H {s with toks:=t}:=I.un (h':=s.heap) (t':=t) Un.refl I.hok
theorem Inv.kept{t':Nat}(I:Inv X pins σ H s)(k:∀b u,s.heap.get? b=some u->h'.get? b=some u):Inv X pins σ H {s with heap:=h',toks:=t'}:=I.un (Un.kept k)<|I.hok.kept k
theorem Inv.laid{a:Addr}{o:HO}{t':Nat}(I:Inv X pins σ H s)(k:∀b u,s.heap.get? b=some u->h'.get? b=some u)(hp:s.heap.objs.size<=a)(new:ObjOk X.prog X.w (cU H a o) h' a o):
  Inv X pins σ (cU H a o) {s with heap:=h',toks:=t'}:=I.un (Un.laid k hp<|I.hok.fresh hp)<|I.hok.laid k hp new
theorem Inv.write{x e:Addr}{o:HO}{t':Nat}(I:Inv X pins σ H s)(mu:yt (H x))(he:e=x\/H e=some (.own x))(k:∀b u,b≠e->s.heap.get? b=some u->h'.get? b=some u)(heo:∃u,h'.get? e=some u)
  (new:ObjOk X.prog X.w (cU H x o) h' x o):Inv X pins σ (cU H x o) {s with heap:=h',toks:=t'}:=I.un (Un.write mu he k heo)<|I.hok.write mu he k heo new
theorem Inv.weak{σ':List (Option V)}(I:Inv X pins σ H s)(hl:σ'.length=σ.length)(w:∀(i:Nat)v,σ'[i]? =some (some v)->σ[i]? =some (some v)):Inv X pins σ' H s:=
 ⟨I.ok,I.os,I.bare,I.base,let ⟨m,hn,hl'⟩:=I.loc;⟨m,hn,fun i x v e1 e2 e3=>hl' i x v e1 (w i v e2) e3⟩,I.cell,I.free,I.freeC,I.pin,I.hok,hl.trans I.len⟩
theorem Inv.pins_of{pins':List (Addr×Obj)}(I:Inv X pins σ H s)(h:∀p∈pins',s.heap.get? p.1=some p.2/\H p.1=none/\p.1≠X.env.locals/\p.1∉X.fs/\∀v,p.2.data≠.cell v):Inv X pins' σ H s:=
 ⟨I.ok,I.os,I.bare,I.base,I.loc,I.cell,I.free,I.freeC,fun p hp=>(Ck.mp hp).elim (fun z=>I.pin p<|FV _ z) (h p),I.hok,I.len⟩
theorem mq{N:List Str}(hN:N.Nodup){i j:Nat}{x:Str}(a:N[i]? =some x)(b:N[j]? =some x):i=j:=by
 obtain⟨h1,e1⟩:=Bv.mp a;obtain⟨h2,e2⟩:=Bv.mp b;exact(List.getElem_inj hN).mp (e1.trans e2.symm)
theorem kB{M:Ht}{A:Cj}{E:Bq->Bs->Prop}{i:Nat}{x:Str}{v:V}{u:Bq}{Q:Unit->Bs->Prop}(I:Inv X pins σ H s)(hN:X.N.Nodup)(hi:X.N[i]? =some x)(hx:xf X.env.scope x)(r:RelV v u)
  (h:∀s',Inv X pins (σ.set i<|some v) H s'->(∃a,BM a s.heap s'.heap/\(a=X.env.locals\/X.env.cells.lookup x=some a))->Q () s') (hf:X.fn x=true\/X.env.scope.names.lookup x=some .local:=by first|exact .inl rfl|exact .inr rfl|assumption):wpAny M A (storeName X.env x u) Q E s:=by
 obtain⟨m,hn,hl⟩:=id I.loc;have hcls:(X.env.scope.kind== .class||(X.env.scope.kind== .module&&X.env.locals != X.env.globals))=false:=by rw[I.ok.kind];rfl
 have hiσ:i<σ.length:=by rw[I.len];exact(Bv.mp hi).1
 have cne:=I.cne;have tracked:∀{a:Addr}{h':Heap},(∃o,s.heap.get? a=some o/\H a=none)->BM a s.heap h'->HOk X.prog X.w H h':=fun{a h'}ha hs b ob e=>by
  obtain⟨_,_,hfree⟩:=ha;refine(I.hok b ob e).stay (fun c w' hc q=>(hs.2 c ?_).trans q) (fun _ q=>q) fun _ _ q=>q;rintro rfl;rcases hc with rfl|hc
  ·rw[hfree]at e;cases e
  ·rw[hfree]at hc;cases hc
 rcases hx with hk|hk
 ·refine wpAny_storeName_local hk hn (fun h' hn' hs=>?_) hcls;obtain⟨oL,_,_,hoL,_⟩:=id hn;refine h _ ⟨I.ok,I.os,I.bare,⟨fun b o e n hb hx=>?_,fun b o e n hb hx=>?_,I.base.free,fun b o e hx=>?_,I.base.tups,I.base.frzs,I.base.tbls⟩,⟨_,hn',fun j y v' e1 e2 e3=>?_⟩,fun y c e=>?_,I.free,I.freeC,fun p hp=>?_,tracked ⟨oL,hoL,I.free⟩ hs,by simpa using I.len⟩ ⟨_,hs,.inl rfl⟩;·exact(hs.2 b<|BO<|BG (BC e) I.ok.above).trans (I.base.keep b o e n hb hx)
  ·obtain⟨sl,e1⟩:=I.base.slot b o e n hb hx;exact⟨sl,(hs.2 b<|BO<|BG (BC e) I.ok.above).trans e1⟩
  ·obtain⟨o',e1⟩:=I.base.there b o e hx;exact⟨o',(hs.2 b<|BO<|BG (BC e) I.ok.above).trans e1⟩
  ·by_cases hj:j=i
   ·subst hj;rw[hi]at e1;cases e1;rw[Hh hiσ]at e2;cases e2;exact⟨u,r,.inl ⟨hk,by simp⟩⟩
   ·rw[HN<|EF hj]at e2;obtain⟨u',r',q⟩:=hl j y v' e1 e2 e3;refine⟨u',r',?_⟩;rcases q with⟨k,e⟩|⟨k,c,e,z⟩
    ·refine .inl ⟨k,?_⟩;have:y≠x:=fun e=>hj<|mq hN e1<|e▸hi;simp[this,e]
    ·exact .inr ⟨k,c,e,z.sameBut hs<|cne y c e⟩
  ·obtain⟨w',z⟩:=I.cell y c e;exact⟨w',z.sameBut hs<|cne y c e⟩
  ·obtain⟨e,n,ne,nf,d⟩:=I.pin p hp;exact⟨(hs.2 p.1 ne).trans e,n,ne,nf,d⟩
 ·have hfn:X.fn x=true:=by
   rcases hf with z|z;·exact z
   ·rw[z]at hk;cases hk
  obtain⟨c,hc⟩:=I.ok.has x<|.inl hk;obtain⟨w',z⟩:=I.cell x c hc;refine wpAny_storeName_cell I.ok.kind hk hc z<|fun h' hc' hs=>?_;obtain⟨oc,hoc,hocd⟩:=id z;refine h {s with heap:=h'} ⟨I.ok,I.os,I.bare,⟨fun b o e n hb hx=>?_,fun b o e n hb hx=>?_,I.base.free,fun b o e hx=>?_,I.base.tups,I.base.frzs,I.base.tbls⟩,⟨m,hn.sameBut hs<|EF<|cne x c hc,fun j y v' e1 e2 e3=>?_⟩,fun y c' e=>?_,I.free,I.freeC,fun p hp=>?_,tracked ⟨oc,hoc,I.freeC x c hc⟩ hs,by simpa using I.len⟩ ⟨c,hs,.inr hc⟩;·exact(hs.2 b<|BO<|BG (BC e)<|I.ok.cab x c hfn hc).trans (I.base.keep b o e n hb hx)
  ·obtain⟨sl,e1⟩:=I.base.slot b o e n hb hx;exact⟨sl,(hs.2 b<|BO<|BG (BC e)<|I.ok.cab x c hfn hc).trans e1⟩
  ·obtain⟨o',e1⟩:=I.base.there b o e hx;exact⟨o',(hs.2 b<|BO<|BG (BC e)<|I.ok.cab x c hfn hc).trans e1⟩
  ·by_cases hj:j=i
   ·subst hj;rw[hi]at e1;cases e1;rw[Hh hiσ]at e2;cases e2;exact⟨u,r,.inr ⟨.inl hk,c,hc,hc'⟩⟩
   ·rw[HN<|EF hj]at e2;obtain⟨u',r',q⟩:=hl j y v' e1 e2 e3;refine⟨u',r',?_⟩;rcases q with q|⟨k,c',e,z'⟩
    ·exact .inl q
    ·refine .inr ⟨k,c',e,z'.sameBut hs ?_⟩;rintro rfl;exact hj<|mq hN e1<|I.ok.inj _ _ _ e hc▸hi
  ·by_cases hcc:c'=c;·subst hcc;exact⟨_,hc'⟩
   ·obtain⟨w2,z2⟩:=I.cell y c' e;exact⟨w2,z2.sameBut hs hcc⟩
  ·obtain⟨e,n,ne,nf,d⟩:=I.pin p hp;refine⟨(hs.2 p.1 ?_).trans e,n,ne,nf,d⟩;intro q;rw[q,hoc]at e;have q':oc=p.2:=C9 e;exact d w' (by rw[<-q'];exact hocd)
theorem mv{M:Ht}{A:Cj}{E:Bq->Bs->Prop}{i:Nat}{x:Str}{v:V}{u:Bq}{Q:Unit->Bs->Prop}(I:Inv X pins σ H s)(hN:X.N.Nodup)(hi:X.N[i]? =some x)(hx:xf X.env.scope x)(r:RelV v u)
  (h:∀s',Inv X pins (σ.set i<|some v) H s'->Q () s') (hf:X.fn x=true\/X.env.scope.names.lookup x=some .local:=by first|exact .inl rfl|exact .inr rfl|assumption):wpAny M A (storeName X.env x u) Q E s:=
 kB I hN hi hx r (fun s' I' _=>h s' I') hf
theorem Inv.call'{s':Bs}{ch:List Addr}(I:Inv X pins σ H s)(ho:s'.os=s.os)(u:Un (frs X.stack) ch H H' s.heap s'.heap)(hok:HOk X.prog X.w H' s'.heap)(hg:GH s'.gens)
  (hch:∀b∈ch,(b∈X.ex\/X.s₀.heap.objs.size<=b)/\b≠X.env.locals/\(∀x c,X.env.cells.lookup x=some c->c≠b)/\∀p∈X.pn++pins,p.1≠b):Inv X pins σ H' s':=by
 obtain⟨h',g',d',t',o'⟩:=s';have e:o'=s.os:=ho;subst e;exact I.call (g':=g') (t':=t') (d':=d') u hok hg hch
end
abbrev XK:=Bq->Option Addr->Hp->Prop
abbrev St:=List<|Option V
abbrev VK:=V->Hp->Prop
abbrev TE:=St->Hp->VK->Prop
abbrev TT:=St->Hp->(Bool->Hp->Prop)->Prop
abbrev TA:=St->Hp->(List V->Hp->Prop)->Prop
structure Ends where
 nx:St->Hp->Prop
 rt:VK
 bk:St->Hp->Prop:=fun _ _=>False
 ct:St->Hp->Prop:=fun _ _=>False
abbrev TS:=Ends->St->Hp->Prop
def EP(X:Cx)(pins:List (Addr×Obj))(σ:St)(Q:VK)(u:Bq)(s':Bs):Prop:=∃v H',Inv X pins σ H' s'/\RelV v u/\Q v H'
def TP(X:Cx)(pins:List (Addr×Obj))(σ:St)(Q:Bool->Hp->Prop)(b:Bool)(s':Bs):Prop:=∃H',Inv X pins σ H' s'/\Q b H'
def AP(X:Cx)(pins:List (Addr×Obj))(σ:St)(Q:List V->Hp->Prop)(us:List Bq)(s':Bs):Prop:=∃vs H',Inv X pins σ H' s'/\Vals vs us/\Q vs H'
def SP(X:Cx)(pins:List (Addr×Obj))(D:Ends)(f:Flow)(s':Bs):Prop:=
 match f with
 | .next=>∃σ' H',Inv X pins σ' H' s'/\D.nx σ' H'
 | .brk=>∃σ' H',Inv X pins σ' H' s'/\D.bk σ' H'
 | .cont=>∃σ' H',Inv X pins σ' H' s'/\D.ct σ' H'
 | .ret u=>∃v σ' H',Inv X pins σ' H' s'/\RelV v u/\D.rt v H'
def PE(X:Cx)(e:Expr)(t:TE):Prop:=
 ∀(pins:List (Addr×Obj))(s:Bs)(σ:St)(H:Hp)(Q:VK),Inv X pins σ H s->t σ H Q->wpAny (model X.prog X.w) X.A (eval e X.env) (EP X pins σ Q) X.xe s
def PT(X:Cx)(e:Expr)(t:TT):Prop:=
 ∀(pins:List (Addr×Obj))(s:Bs)(σ:St)(H:Hp)(Q:Bool->Hp->Prop),Inv X pins σ H s->t σ H Q->wpAny (model X.prog X.w) X.A (isTrue e X.env<|eval e X.env) (TP X pins σ Q) X.xe s
def PW(X:Cx)(e:Expr)(t:TT):Prop:=
 ∀(whole:Sem Bq)(pins:List (Addr×Obj))(s:Bs)(σ:St)(H:Hp)(Q:Bool->Hp->Prop),Inv X pins σ H s->t σ H Q->wpAny (model X.prog X.w) X.A (isTrue e X.env whole) (TP X pins σ Q) X.xe s
theorem PW.pt{X:Cx}{e:Expr}{t:TT}(h:PW X e t):PT X e t:=h _
def PA(X:Cx)(es:List Expr)(t:TA):Prop:=
 ∀(pos:Pos)(pins:List (Addr×Obj))(s:Bs)(σ:St)(H:Hp)(Q:List V->Hp->Prop),Inv X pins σ H s->t σ H Q->wpAny (model X.prog X.w) X.A (spliced<|backTo pos<|starEach es X.env) (AP X pins σ Q) X.xe s
def PS(X:Cx)(st:Stmt)(t:TS):Prop:=
 ∀(pins:List (Addr×Obj))(s:Bs)(σ:St)(H:Hp)(D:Ends),Inv X pins σ H s->t D σ H->wpAny (model X.prog X.w) X.A (exec st X.env) (SP X pins D) X.xe s
def PSs(X:Cx)(st:List Stmt)(t:TS):Prop:=
 ∀(pins:List (Addr×Obj))(s:Bs)(σ:St)(H:Hp)(D:Ends),Inv X pins σ H s->t D σ H->wpAny (model X.prog X.w) X.A (execs st X.env) (SP X pins D) X.xe s
theorem cT{α:Type}{t:Sem α}{Q Q':α->Bs->Prop}{M:Ht}{A:Cj}{E:Bq->Bs->Prop}{s:Bs}(h:wpAny M A t Q E s)(hQ:∀a s,Q a s->Q' a s):wpAny M A t Q' E s:=Dx h hQ fun _ _ x=>x
section
variable{X:Cx}
def bF(i:Nat):TE:=fun σ H Q=>∃v,σ[i]? =some (some v)/\Q v H
def tC(v:V):TE:=fun _ H Q=>Q v H
theorem xg{i:Nat}{x:Str}{pos:Pos}(hN:X.N[i]? =some x)(hv:Vis X.env.scope x)(hd:(x==("__debug__" :Str))=false:=by decide)(hcd:(x==("__classdict__" :Str))=false:=by decide):PE X (.Name x pos) (bF i):=by
 intro pins s σ H Q I h;obtain⟨v,e,h⟩:=h;obtain⟨m,hn,hl⟩:=I.loc;obtain⟨u,r,l⟩:=hl i x v hN e hv;have fin:EP X pins σ Q u s:=⟨v,H,I,r,h⟩
 rcases l with⟨hk,hm⟩|⟨hk,c,hc,hcell⟩
 ·exact JD (wpAny_loadName_local I.ok.kind hk hn hm fin) hd
 ·rcases hk with hk | hk;·exact JD (wpAny_loadName_cell I.ok.kind hk hc hcell fin) hd
  ·exact JD (wpAny_loadName_free I.ok.kind hk hc hcell fin hcd) hd
theorem aa{i j pos}:PE X (.Constant (.int i) j pos) (tC<|.int i):=fun _ _ _ H _ I h=>wpAny_Constant_int ⟨.int i,H,I.tok _,⟨_,rfl⟩,h⟩
theorem cM{b j pos}:PE X (.Constant (.bool b) j pos) (tC<|.bl b):=fun _ _ _ H _ I h=>Constant_bool ⟨.bl b,H,I,rfl,h⟩
theorem xh{j pos}:PE X (.Constant .none j pos) (tC .non):=fun _ _ _ H _ I h=>Constant_none ⟨.non,H,I,rfl,h⟩
theorem bq{x j pos}:PE X (.Constant (.str x) j pos) (tC<|.str x):=fun _ _ _ H _ I h=>Calls.Constant_str ⟨.str x,H,I.tok _,⟨_,rfl⟩,h⟩
def Gl(X:Cx)(x:Str):Prop:=X.env.kindOf x=some .globalImplicit
theorem oM{E:Bq->Bs->Prop}{pins:List (Addr×Obj)}{s:Bs}{σ:St}{H:Hp}{x:Str}{u:Bq}{pos:Pos}{Q:Bq->Bs->Prop}(I:Inv X pins σ H s)(hg:Gl X x)(hm:X.mg x=some u)(h:Q u s)
  (hd:(x==("__debug__" :Str))=false:=by decide):wpAny (model X.prog X.w) X.A (eval (.Name x pos) X.env) Q E s:=
 Gr I.ok.kind hg (Calls.loadGlobal_global (by rw[I.ok.glob];exact I.mod.glob.keeps I.bk) hm h) hd
theorem gO{E:Bq->Bs->Prop}{pins:List (Addr×Obj)}{s:Bs}{σ:St}{H:Hp}{x:Str}{u:Bq}{pos:Pos}{Q:Bq->Bs->Prop}(I:Inv X pins σ H s)(hg:Gl X x)(hm:X.mg x=none)(hv:bootBuiltins x=some u)(h:Q u s)
  (hn:x≠"__name__":=by decide) (hd:(x==("__debug__" :Str))=false:=by decide):wpAny (model X.prog X.w) X.A (eval (.Name x pos) X.env) Q E s:=by
 obtain⟨mb,h1,h2⟩:=I.mod.blt;exact Gr I.ok.kind hg (Calls.loadGlobal_builtin (by rw[I.ok.glob];exact I.mod.glob.keeps I.bk) hm (by rw[I.ok.blt];exact h1.keeps I.bk) ((h2 x hn).trans hv) h) hd
theorem eQ{x:Str}{v:V}{u:Bq}{pos:Pos}(hg:Gl X x)(hm:X.mg x=some u)(r:RelV v u)(hd:(x==("__debug__" :Str))=false:=by decide):PE X (.Name x pos) (tC v):=
 fun _ _ _ H _ I h=>oM I hg hm ⟨v,H,I,r,h⟩ hd
theorem cN{x:Str}{v:V}{u:Bq}{pos:Pos}(hg:Gl X x)(hm:X.mg x=none)(hv:bootBuiltins x=some u)(r:RelV v u)(hn:x≠"__name__":=by decide)(hd:(x==("__debug__" :Str))=false:=by decide):PE X (.Name x pos) (tC v):=
 fun _ _ _ H _ I h=>gO I hg hm hv ⟨v,H,I,r,h⟩ hn hd
variable{a b:Expr}{ta tb:TE}{pos:Pos}
def tB(t:TE):TT:=fun σ H Q=>t σ H fun x H1=>∃c,x=.bl c/\Q c H1
theorem cE{e:Expr}{t:TE}(h:PE X e t)(he:∀whole,isTrue e X.env whole=(do let v <-whole;standAt e.pos;holding [v] (truthy v)):=by intro _;rfl):PT X e (tB t):=by
 intro pins s σ H Q I hw;refine isTrue_plain (cT (h pins s σ H _ I hw) fun v s1⟨x,H1,I1,r1,q1⟩=>?_)<|he _;obtain⟨d,rfl,q⟩:=q1;cases r1;exact DP ⟨H1,I1,q⟩
variable{tA tB':TT}{rest:List Expr}
def cF(t u:TT):TT:=fun σ H Q=>t σ H fun c H1=>if c=true then u σ H1 Q else Q false H1
def fQ(t u:TT):TT:=fun σ H Q=>t σ H fun c H1=>if c=true then Q true H1 else u σ H1 Q
def cG(t:TT):TT:=fun σ H Q=>t σ H fun c H1=>Q (!c) H1
theorem d5(ha:PT X a tA):PW X (.BoolOp .And [a] pos) tA:=by
 intro wh pins s σ H Q I h;refine isTrue_and<|cT (ha pins s σ H Q I h) fun c s1 e=>?_;cases c with
 |true=>exact isTrue_and_nil e
 |false=>exact e
theorem gP(ha:PT X a tA):PW X (.BoolOp .Or [a] pos) tA:=by
 intro wh pins s σ H Q I h;refine isTrue_or<|cT (ha pins s σ H Q I h) fun c s1 e=>?_;cases c with
 |false=>exact isTrue_or_nil e
 |true=>exact e
theorem dq(ha:PT X a tA)(hb:PW X (.BoolOp .And (b::rest) pos) tB'):PW X (.BoolOp .And (a::b::rest) pos) (cF tA tB'):=by
 intro wh pins s σ H Q I h;refine isTrue_and<|cT (ha pins s σ H _ I h) fun c s1 zz=>?_;obtain⟨H1,I1,q1⟩:=zz;cases c with
 |true=>exact hb wh pins s1 σ H1 Q I1 q1
 |false=>exact⟨H1,I1,q1⟩
theorem gY(ha:PT X a tA)(hb:PW X (.BoolOp .Or (b::rest) pos) tB'):PW X (.BoolOp .Or (a::b::rest) pos) (fQ tA tB'):=by
 intro wh pins s σ H Q I h;refine isTrue_or<|cT (ha pins s σ H _ I h) fun c s1 zz=>?_;obtain⟨H1,I1,q1⟩:=zz;cases c with
 |true=>exact⟨H1,I1,q1⟩
 |false=>exact hb wh pins s1 σ H1 Q I1 q1
theorem f6(ha:PT X a tA):PT X (.UnaryOp .Not a pos) (cG tA):=by
 intro pins s σ H Q I h;exact isTrue_not<|ha pins s σ H (fun c H1=>Q (!c) H1) I h
def bA(ta tb:TE):TE:=fun σ H Q=>ta σ H fun x H1=>∃c,x=.bl c/\if c=true then tb σ H1 Q else Q (.bl false) H1
def cH(ta tb:TE):TE:=fun σ H Q=>ta σ H fun x H1=>∃c,x=.bl c/\if c=true then Q (.bl true) H1 else tb σ H1 Q
def bD(ta:TE):TE:=fun σ H Q=>ta σ H fun x H1=>∃c,x=.bl c/\Q (.bl<|!c) H1
theorem iu{op}{t:TE}(h:PE X a t):PE X (.BoolOp op [a] pos) t:=fun pins s σ H Q I hw=>BoolOp_one<|h pins s σ H Q I hw
theorem iw(ha:PE X a ta)(hb:PE X (.BoolOp .And (b::rest) pos) tb):PE X (.BoolOp .And (a::b::rest) pos) (bA ta tb):=by
 intro pins s σ H Q I h;refine BoolOp_and<|cT (ha pins s σ H _ I h) fun v s1 zz=>?_;obtain⟨x,H1,I1,r1,q1⟩:=zz;obtain⟨c,rfl,q1⟩:=q1;cases r1;refine DP ?_;cases c with
 |true=>exact hb pins s1 σ H1 Q I1 q1
 |false=>exact⟨.bl false,H1,I1,rfl,q1⟩
theorem yu(ha:PE X a ta)(hb:PE X (.BoolOp .Or (b::rest) pos) tb):PE X (.BoolOp .Or (a::b::rest) pos) (cH ta tb):=by
 intro pins s σ H Q I h;refine BoolOp_or<|cT (ha pins s σ H _ I h) fun v s1 zz=>?_;obtain⟨x,H1,I1,r1,q1⟩:=zz;obtain⟨c,rfl,q1⟩:=q1;cases r1;refine DP ?_;cases c with
 |false=>exact hb pins s1 σ H1 Q I1 q1
 |true=>exact⟨.bl true,H1,I1,rfl,q1⟩
theorem xi(ha:PE X a ta):PE X (.UnaryOp .Not a pos) (bD ta):=by
 intro pins s σ H Q I h;refine UnaryOp_<|cT (ha pins s σ H _ I h) fun v s1 zz=>?_;obtain⟨x,H1,I1,r1,q1⟩:=zz;obtain⟨c,rfl,q1⟩:=q1;cases r1;exact not_of<|DP ⟨.bl<|!c,H1,I1,rfl,q1⟩
def fR(t:TT)(ta tb:TE):TE:=fun σ H Q=>t σ H fun c H1=>if c=true then ta σ H1 Q else tb σ H1 Q
theorem gZ{c:Expr}(hc:PT X c tA)(ha:PE X a ta)(hb:PE X b tb):PE X (.IfExp c a b pos) (fR tA ta tb):=by
 intro pins s σ H Q I h;refine wpAny_IfExp<|cT (hc pins s σ H _ I h) fun d s1 zz=>?_;obtain⟨H1,I1,q1⟩:=zz;cases d with
 |true=>exact ha pins s1 σ H1 Q I1 q1
 |false=>exact hb pins s1 σ H1 Q I1 q1
end
def SqL(K:Bo)(H:Hp)(a:Addr)(xs:List V):Prop:=
 Rd H a (.lst xs)\/
  ∃(o:Obj)(its:Array Bq)(n:Nat),K.lookup a=some o/\o.cls=.type "list"/\o.dict=none/\o.data=.seq its n/\its.size<=sizeLine/\Vals xs its.toList
def SqT(K:Bo)(H:Hp)(a:Addr)(xs:List V):Prop:=
 Rd H a (.tup xs)\/
  ∃(o:Obj)(its:Array Bq)(n:Nat),K.lookup a=some o/\(o.cls=.type "tuple"/\o.dict=none)/\o.data=.seq its n/\its.size<=sizeLine/\Vals xs its.toList
def Ah:Bq->Option V
 | .none=>some .non
 | .bool b=>some<|.bl b
 | .int i _=>some<|.int i
 | .str x _=>some<|.str x
 | .bytes b _=>some<|.byt b
 | .float b _=>some<|.flt b
 | .ref a=>some<|.ref a
 | .type n=>some<|.ty n
 |_=>none
theorem RelV.abs{x:V}{u:Bq}(r:RelV x u):Ah u=some x:=by
 cases x with
 |non=>cases r;rfl
 |bl _=>cases r;rfl
 |int _=>obtain⟨t,rfl⟩:=r;rfl
 |str _=>obtain⟨t,rfl⟩:=r;rfl
 |byt _=>obtain⟨t,rfl⟩:=r;rfl
 |flt _=>obtain⟨t,rfl⟩:=r;rfl
 |ref _=>cases r;rfl
 |ty _=>cases r;rfl
theorem RelV.inj{x y:V}{u:Bq}(r:RelV x u)(q:RelV y u):x=y:=C9<|r.abs.symm.trans q.abs
theorem Vals.inj:∀{xs ys:List V}{us:List Bq},Vals xs us->Vals ys us->xs=ys
 |_,_,_,.nil,.nil=>rfl
 |_,_,_,.cons r t,.cons r' t'=>by rw[r.inj r',Vals.inj t t']
section
variable{X:Cx}{pins:List (Addr×Obj)}{σ:St}{H:Hp}{s:Bs}{a:Addr}{xs ys:List V}
theorem SqL.of{K:Bo}(h:H a=some (.lst xs)):SqL K H a xs:=.inl<|.inl h
theorem SqT.of{K:Bo}(h:H a=some (.tup xs)):SqT K H a xs:=.inl<|.inl h
theorem Inv.list(I:Inv X pins σ H s)(h:SqL X.K H a xs):∃its:List Bq,Vals xs its/\PlainL s.heap a its.toArray/\xs.length<=sizeLine:=by
 rcases h with h|⟨o,its,n,hk,hc,hd,hs,hz,r⟩
 ·obtain⟨z,its,n,r,e⟩:=h.ok I.hok;exact⟨its,r,⟨_,n,e,rfl,rfl,rfl⟩,z⟩
 ·refine⟨its.toList,r,⟨o,n,I.kIn a o hk,hc,hd,by simpa using hs⟩,?_⟩;have e:=r.length;simp only[BX]at e;omega
theorem Inv.tuple(I:Inv X pins σ H s)(h:SqT X.K H a xs):∃its:List Bq,Vals xs its/\IsTup s.heap a its.toArray/\xs.length<=sizeLine:=by
 rcases h with h|⟨o,its,n,hk,hc,hs,hz,r⟩
 ·obtain⟨z,its,r,p⟩:=h.ok I.hok;exact⟨its,r,p.tup,z⟩
 ·refine⟨its.toList,r,⟨o,I.kIn a o hk,hc.1,n,by simpa using hs⟩,?_⟩;have e:=r.length;simp only[BX]at e;omega
theorem Inv.list_inj(I:Inv X pins σ H s)(h:SqL X.K H a xs)(h':SqL X.K H a ys):xs=ys:=by
 obtain⟨its,r,⟨o,n,e,_,_,d⟩,_⟩:=I.list h;obtain⟨its',r',⟨o',n',e',_,_,d'⟩,_⟩:=I.list h';rw[e]at e';cases e';rw[d]at d';injection d' with d1 _;have:its=its':=by simpa using congrArg Ky d1
 subst this;exact r.inj r'
theorem Inv.tuple_inj(I:Inv X pins σ H s)(h:SqT X.K H a xs)(h':SqT X.K H a ys):xs=ys:=by
 obtain⟨its,r,⟨o,e,_,n,d⟩,_⟩:=I.tuple h;obtain⟨its',r',⟨o',e',_,n',d'⟩,_⟩:=I.tuple h';rw[e]at e';cases e';rw[d]at d';injection d' with d1 _;have:its=its':=by simpa using congrArg Ky d1
 subst this;exact r.inj r'
end
abbrev Cx.wish(X:Cx)(E:Bq->Bs->Prop):Cx:={X with xe:=E}
abbrev Cx.nox(X:Cx):Cx:=X.wish fun _ _=>False
theorem Cx.Ok.wish{X:Cx}(ok:X.Ok)(E:Bq->Bs->Prop):(X.wish E).Ok:=
 ⟨ok.mod,ok.kind,ok.glob,ok.blt,ok.above,ok.inj,ok.has,ok.cab,ok.hd,ok.frames,ok.stk,ok.exf,ok.bs,ok.bsz,ok.noex,ok.exfs,ok.funs,ok.frf⟩
theorem Cx.Ok.unwish{X:Cx}{E:Bq->Bs->Prop}(ok:(X.wish E).Ok):X.Ok:=
 ⟨ok.mod,ok.kind,ok.glob,ok.blt,ok.above,ok.inj,ok.has,ok.cab,ok.hd,ok.frames,ok.stk,ok.exf,ok.bs,ok.bsz,ok.noex,ok.exfs,ok.funs,ok.frf⟩
section
variable{X:Cx}{pins:List (Addr×Obj)}{σ:St}{H:Hp}{s:Bs}{E:Bq->Bs->Prop}
theorem Inv.wish(I:Inv X pins σ H s)(E:Bq->Bs->Prop):Inv (X.wish E) pins σ H s:=⟨I.ok.wish E,I.os,I.bare,I.base,I.loc,I.cell,I.free,I.freeC,I.pin,I.hok,I.len⟩
theorem Inv.unwish(I:Inv (X.wish E) pins σ H s):Inv X pins σ H s:=⟨I.ok.unwish,I.os,I.bare,I.base,I.loc,I.cell,I.free,I.freeC,I.pin,I.hok,I.len⟩
theorem SP.unwish{D:Ends}{f:Flow}{s':Bs}(h:SP (X.wish E) pins D f s'):SP X pins D f s':=by
 cases f with
 |next=>obtain⟨σ',H',I,q⟩:=h;exact⟨σ',H',I.unwish,q⟩
 |brk=>obtain⟨σ',H',I,q⟩:=h;exact⟨σ',H',I.unwish,q⟩
 |cont=>obtain⟨σ',H',I,q⟩:=h;exact⟨σ',H',I.unwish,q⟩
 |ret u=>obtain⟨v,σ',H',I,r,q⟩:=h;exact⟨v,σ',H',I.unwish,r,q⟩
theorem PSs.nox{st:List Stmt}{t:TS}(h:PSs X.nox st t):PSs X st t:=fun pins s σ H D I hw=>
 Dx (h pins s σ H D (I.wish _) hw) (fun _ _ q=>q.unwish) fun _ _ z=>Ex z
end
section
variable{X:Cx}{st:Stmt}{rest:List Stmt}{t u:TS}{e:Expr}{te:TE}{pos:Pos}
def aA:TS:=fun D σ H=>D.nx σ H
def fS(t u:TS):TS:=fun D σ H=>t {D with nx:=u D} σ H
theorem az:PSs X [] aA:=fun _ _ σ H _ I h=>Hu ⟨σ,H,I,h⟩
theorem af(h1:PS X st t)(h2:PSs X rest u):PSs X (st::rest) (fS t u):=by
 intro pins s σ H D I h;refine J6<|cT (h1 pins s σ H {D with nx:=u D} I h) fun f s1 q=>?_;cases f with
 |next=>
  obtain⟨σ',H',I',q⟩:=q;exact h2 pins s1 σ' H' D I' q
 |ret v=>exact q
 |brk=>exact q
 |cont=>exact q
theorem ah(h1:PS X st t):PSs X [st] t:=by
 intro pins s σ H D I h;refine J6<|cT (h1 pins s σ H D I h) fun f s1 q=>?_;cases f with
 |next=>exact Hu q
 |ret v=>exact q
 |brk=>exact q
 |cont=>exact q
theorem Inv.quiet{pins:List (Addr×Obj)}{σ:St}{H:Hp}{s:Bs}(I:Inv X pins σ H s):interactive X.env=false:=by simp[interactive,I.ok.kind]
def bu(te:TE):TS:=fun D σ H=>te σ H fun _ H1=>D.nx σ H1
theorem d6(he:PE X e te)(hs:swapsWith e none pos.line X.env=pure false:=by rfl):PS X (.Expr e pos) (bu te):=by
 intro pins s σ H D I h;exact wpAny_Expr_any (cT (he pins s σ H _ I h) fun v s1⟨x,H1,I1,r1,q1⟩=>⟨σ,H1,I1,q1⟩) I.quiet hs
def cn(te:TE):TS:=fun D σ H=>te σ H D.rt
theorem aB(he:PE X e te):PS X (.Return (some e) pos) (cn te):=by
 intro pins s σ H D I h;refine wpAny_Return_some<|cT (he pins s σ H _ I h) fun v s1 zz=>?_;obtain⟨x,H1,I1,r1,q1⟩:=zz;exact⟨x,σ,H1,I1,r1,q1⟩
def iR(c:TT)(t u:TS):TS:=fun D σ H=>c σ H fun b H1=>if b=true then t D σ H1 else u D σ H1
theorem aX{c:Expr}{a b:List Stmt}{tc:TT}(hc:PT X c tc)(ha:PSs X a t)(hb:PSs X b u):PS X (.If c a b pos) (iR tc t u):=by
 intro pins s σ H D I h;refine wpAny_If<|cT (hc pins s σ H _ I h) fun d s1 zz=>?_;obtain⟨H1,I1,q1⟩:=zz;cases d with
 |true=>exact ha pins s1 σ H1 D I1 q1
 |false=>exact hb pins s1 σ H1 D I1 q1
end
abbrev TG:=V->St->Hp->(St->Hp->Prop)->Prop
abbrev wM:=List V->St->Hp->(St->Hp->Prop)->Prop
def PG(X:Cx)(target:Expr)(t:TG):Prop:=
 ∀(pins:List (Addr×Obj))(s:Bs)(σ:St)(H:Hp)(v:V)(u:Bq)(Q:St->Hp->Prop),Inv X pins σ H s->RelV v u->t v σ H Q->
  wpAny (model X.prog X.w) X.A (assign target X.env u) (fun _ s'=>∃σ' H',Inv X pins σ' H' s'/\Q σ' H') X.xe s
def yv(X:Cx)(ts:List Expr)(t:wM):Prop:=
 ∀(pins:List (Addr×Obj))(s:Bs)(σ:St)(H:Hp)(vs:List V)(us:List Bq)(Q:St->Hp->Prop),Inv X pins σ H s->Vals vs us->t vs σ H Q->
  wpAny (model X.prog X.w) X.A (assignInOrder ((assignEach ts X.env).map (·.2)) us) (fun _ s'=>∃σ' H',Inv X pins σ' H' s'/\Q σ' H') X.xe s
abbrev xj:=V->V->V->Hp->(Hp->Prop)->Prop
def yw(X:Cx)(t:xj):Prop:=
 ∀(pins:List (Addr×Obj))(s:Bs)(σ:St)(H:Hp)(o i v:V)(ov iv u:Bq)(Q:Hp->Prop),Inv X pins σ H s->RelV o ov->RelV i iv->RelV v u->t o i v H Q->
  wpAny (model X.prog X.w) X.A (setItem ov iv u) (fun _ s'=>∃H',Inv X pins σ H' s'/\Q H') X.xe s
section
variable{X:Cx}{pos:Pos}
def aO(i:Nat):TG:=fun v σ H Q=>Q (σ.set i<|some v) H
theorem bQ{i:Nat}{x:Str}(hN:X.N.Nodup)(hi:X.N[i]? =some x)(hx:xf X.env.scope x)(hf:X.fn x=true\/X.env.scope.names.lookup x=some .local:=by first|exact .inl rfl|exact .inr rfl|assumption):PG X (.Name x pos) (aO i):=by
 intro pins s σ H v u Q I r h;exact IH<|mv I hN hi hx r (fun s' I'=>⟨_,H,I',h⟩) hf
def cx:wM:=fun vs σ H Q=>vs=[]/\Q σ H
def br(t:TG)(u:wM):wM:=fun vs σ H Q=>∃v r,vs=v::r/\t v σ H fun σ' H'=>u r σ' H' Q
theorem cq:yv X [] cx:=by
 intro pins s σ H vs us Q I r h;obtain⟨e,h⟩:=h;subst e;cases r;exact assignInOrder_nil ⟨σ,H,I,h⟩
theorem aE{e:Expr}{es:List Expr}{t:TG}{u:wM}(h1:PG X e t)(h2:yv X es u)
  (hs:(assignEach (e::es) X.env).map (·.2)=assign e X.env::(assignEach es X.env).map (·.2):=by rfl):yv X (e::es) (br t u):=by
 intro pins s σ H vs us Q I r h;obtain⟨v,vr,e1,h⟩:=h;subst e1;cases r with
 |cons r rr=>
  rw[hs];refine assignInOrder_cons<|cT (h1 pins s σ H _ _ _ I r h) fun _ s1 zz=>?_;obtain⟨σ1,H1,I1,q1⟩:=zz;exact h2 pins s1 σ1 H1 _ _ Q I1 rr q1
def cu(K:Bo)(n:Nat)(t:wM):TG:=fun v σ H Q=>∃a xs,v=.ref a/\SqT K H a xs/\xs.length=n/\t xs σ H Q
theorem xk{es:List Expr}{k:Nat}{t:wM}{n:Nat}(hc:X.calm=true)(h:yv X es t)
  (hn:(assignEach es X.env).length=n:=by rfl) (hst:(assignEach es X.env).findIdx? (·.1)=none:=by rfl):PG X (.Tuple es k pos) (cu X.K n t):=by
 intro pins s σ H v u Q I r hw;obtain⟨a,xs,e1,hq,hl,hw⟩:=hw;subst e1;cases r;obtain⟨its,rv,ht,hz⟩:=I.tuple hq;refine assign_Tuple_tuple (I.ok.hd hc) ht (by simp[hn,<-hl,rv.length]) hst fun h' hx=>?_;have I1:Inv X pins σ H {s with heap:=h'}:=I.kept (t':=s.toks) fun b o e=>hx b o (BO<|BC e) e;exact h pins _ σ H xs _ Q I1 (by simpa using rv) hw
def xl(to ti:TE)(t:xj):TG:=fun v σ H Q=>to σ H fun o H1=>ti σ H1 fun i H2=>t o i v H2 fun H3=>Q σ H3
theorem ll{o i:Expr}{to ti:TE}{t:xj}(ho:PE X o to)(hi:PE X i ti)(hs:yw X t)
  (ha:∀v,assign (.Subscript o i pos) X.env v=(do
   let ov <-holding [v] (eval o X.env)
   let iv <-holding [v,ov] (eval i X.env)
   standAt pos
   holding [v,ov,iv] (setItem ov iv v)
   release [v,ov,iv] []):=by intro _;rfl):PG X (.Subscript o i pos) (xl to ti t):=by
 intro pins s σ H v u Q I r h;rw[ha];refine Bk<|CV<|cT (ho pins s σ H _ I h) fun ov s1 zz=>?_;obtain⟨x,H1,I1,r1,q1⟩:=zz;refine Bk<|CV<|cT (hi pins s1 σ H1 _ I1 q1) fun iv s2 zz=>?_;obtain⟨y,H2,I2,r2,q2⟩:=zz;refine Bk<|Ia<|Bk<|CV<|cT (hs pins s2 σ H2 x y v ov iv u _ I2 r1 r2 r q2) fun _ s3 zz=>?_;obtain⟨H3,I3,q3⟩:=zz;exact wpAny_release ⟨σ,H3,I3,q3⟩
def bK(te:TE)(g:TG):TS:=fun D σ H=>te σ H fun x H1=>g x σ H1 D.nx
theorem f9{tg e:Expr}{te:TE}{g:TG}(he:PE X e te)(hg:PG X tg g)(hs:swapsWithSole [tg] e pos.line X.env=pure false:=by rfl)(hw:swappedStores [tg] e X.env=pure none:=by rfl)
  (h1:(assignEach [tg] X.env).map (·.2)=[assign tg X.env]:=by rfl):PS X (.Assign [tg] e pos) (bK te g):=by
 intro pins s σ H D I h;refine wpAny_Assign_stores (cT (he pins s σ H _ I h) fun v s1⟨x,H1,I1,r1,q1⟩=>?_) hs hw;rw[h1];exact cT (hg pins s1 σ H1 x v _ I1 r1 q1) fun _ s2 q=>q
theorem xm{i:Nat}{x:Str}{e:Expr}{te:TE}{pos':Pos}(hN:X.N.Nodup)(hi:X.N[i]? =some x)(hx:xf X.env.scope x)(he:PE X e te)(hs:swapsWith e (some<|.Name x pos') pos.line X.env=pure false:=by rfl)(hf:X.fn x=true\/X.env.scope.names.lookup x=some .local:=by first|exact .inl rfl|exact .inr rfl|assumption):
  PS X (.Assign [.Name x pos'] e pos) (bK te<|aO i):=by
 intro pins s σ H D I h;refine wpAny_Assign_Name (cT (he pins s σ H _ I h) fun v s1⟨y,H1,I1,r1,q1⟩=>?_) hs;exact mv I1 hN hi hx r1 (fun s2 I2=>⟨_,H1,I2,q1⟩) hf
end
structure It where
 go:Nat->Hp->Prop
 yld:Nat->Hp->V->Hp->Prop
 stop:Nat->Hp->Prop
def FpOk(X:Cx)(pins:List (Addr×Obj))(H:Hp)(b:Addr):Prop:=
 H b=none/\b≠X.env.locals/\b∉X.fs/\(b∈X.ex\/X.s₀.heap.objs.size<=b)/\(∀x c,X.env.cells.lookup x=some c->c≠b)/\∀p∈X.pn++pins,p.1≠b
theorem Inv.fpOk{X:Cx}{pins:List (Addr×Obj)}{σ:St}{H H':Hp}{s:Bs}{b:Addr}(I:Inv X pins σ H s)(hb:s.heap.objs.size<=b)(hn:H' b=none):FpOk X pins H' b:=by
 refine⟨hn,E9<|BG I.lt hb,I.nofs hb,.inr<|Dw I.sz hb,fun x c e z=>?_,fun p hp z=>?_⟩
 ·obtain⟨v,q⟩:=I.cell x c e;exact absurd (BG q.lt (by rw[z];exact hb))<|CU _
 ·exact absurd (BG (BC (I.pin p hp).1) (by rw[z];exact hb))<|CU _
structure Turn(P:BK)(w:C2)(K:Bo)(tg:Expr)(J:It)(fp:List Addr)(it:Addr)(tn:Nat->Heap->Prop):Prop where
 mem:it∈fp
 obj:∀i h,tn i h->∀b∈fp,∃o,h.get? b=some o/\∀v,o.data≠.cell v
 keep:∀i h h',tn i h->(∀b∈fp,∀o,h.get? b=some o->h'.get? b=some o)->tn i h'
 item:∀(X:Cx),X.prog=P->X.w=w->X.K=K->X.calm=true->∀(i:Nat)(pins:List (Addr×Obj))(s:Bs)(σ:St)(H:Hp)(E:Bq->Bs->Prop),Inv X pins σ H s->(∀b∈fp,FpOk X pins H b)->tn i s.heap->J.go i H->
  wpAny (model P w) X.A (pyNext<|.ref it) (fun r s1=>∃u,r=some u/\
   wpAny (model P w) X.A (letOwnedTupleGo tg (.ref it) u) (fun _ s2=>∃x H',Inv X pins σ H' s2/\RelV x u/\J.yld i H x H'/\tn (i+1) s2.heap/\∀b∈fp,H' b=none) E s1) E s
 done:∀(X:Cx),X.prog=P->X.w=w->X.K=K->X.calm=true->∀(i:Nat)(pins:List (Addr×Obj))(s:Bs)(σ:St)(H:Hp)(E:Bq->Bs->Prop),Inv X pins σ H s->(∀b∈fp,FpOk X pins H b)->tn i s.heap->J.stop i H->
  wpAny (model P w) X.A (pyNext<|.ref it) (fun r s1=>r=none/\Inv X pins σ H s1) E s
 self:∀(A:Cj)(i:Nat)(s:Bs)(Q:Bq->Bs->Prop)(E:Bq->Bs->Prop),tn i s.heap->Q (.ref it) s->wpAny (model P w) A (pyIter<|.ref it) Q E s
abbrev TI:=St->Hp->(It->Hp->Prop)->Prop
def Ai(X:Cx)(pins:List (Addr×Obj))(σ:St)(tg:Expr)(R:It->Hp->Prop)(itv:Bq)(s2:Bs):Prop:=
 ∃(it:Addr)(fp:List Addr)(tn:Nat->Heap->Prop)(J:It)(H':Hp),itv=.ref it/\Inv X pins σ H' s2/\Turn X.prog X.w X.K tg J fp it tn/\tn 0 s2.heap/\(∀b∈fp,FpOk X pins H' b)/\R J H'
def PI(X:Cx)(tg iter:Expr)(wi:TI):Prop:=
 ∀(pins:List (Addr×Obj))(s:Bs)(σ:St)(H:Hp)(R:It->Hp->Prop),Inv X pins σ H s->wi σ H R->
  wpAny (model X.prog X.w) X.A (eval iter X.env) (fun v s1=>wpAny (model X.prog X.w) X.A (pyIter v) (Ai X pins σ tg R) X.xe s1) X.xe s
theorem rM{M:Ht}{A:Cj}{E:Bq->Bs->Prop}{s:Bs}{tg:Expr}{it:Addr}{u:Bq}{o:Obj}{n:String}{vs:Array Bq}{Q:Unit->Bs->Prop}(ho:s.heap.get? it=some o)(hc:o.cls=.type n)(hd:o.data=.fields vs)
    (hn:["enumerate","zip","dict_itemiterator","dict_reverseitemiterator","odict_iterator","itertools.zip_longest","itertools.pairwise"].contains n=false) (hQ:Q () s):wpAny M A (letOwnedTupleGo tg (.ref it) u) Q E s:=by
  unfold letOwnedTupleGo
  cases tg<;>first
    |exact Br hQ
    |(cases u<;>first
        |exact Br hQ
        | (refine Bk (wpAny_load ho ?_)
           rw[hc,hd];show wpAny M A (if(["enumerate","zip","dict_itemiterator","dict_reverseitemiterator","odict_iterator","itertools.zip_longest","itertools.pairwise"].contains n&&vs[0]? ==some (rawInt _))=true then _ else _) Q E s;rw[if_neg (by intro h;rw[hn,EJ]at h;cases h)];exact Br hQ))
def Av(K:Bo)(a:Addr):It:=
 ⟨fun i H=>∃xs x,SqL K H a xs/\xs[i]? =some x,fun i H x H'=>H'=H/\∀xs,SqL K H a xs->xs[i]? =some x,fun i H=>∃xs,SqL K H a xs/\xs.length<=i⟩
def zA(lo:Int)(n:Nat):It:=⟨fun i _=>i<n,fun i H x H'=>H'=H/\x=.int (lo+i),fun i _=>n<=i⟩
theorem qg{P:BK}{w:C2}{K:Bo}{tg:Expr}(a it:Addr):Turn P w K tg (Av K a) [it] it (fun i h=>h.IsListIter it a i) where
 mem:=by simp
 obj:=fun i h st b hb=>by
  have e:b=it:=by simpa using hb
  subst e;obtain⟨o,e,c,d⟩:=st;exact⟨o,e,fun v z=>by rw[d]at z;cases z⟩
 keep:=fun i h h' st k=>st.at fun o e=>k it (by simp) o e
 item:=by
  intro X hP hw hK hc i pins s σ H E I hf st hg;subst hP hw hK;obtain⟨xs,x,hq,hx⟩:=hg;obtain⟨its,rv,p,hz⟩:=I.list hq;obtain⟨u,hu,ru⟩:=rv.get hx;obtain⟨f0,f1,f2,f3,f4,f5⟩:=hf it (by simp);refine wpAny_pyNext_list_item st p.isList (x:=u) (by simpa using hu) fun h' st' sb=>?_;have I1:Inv X pins σ H {s with heap:=h'}:=I.turned (t':=s.toks) (fun b o hb e=>(sb.2 b hb).trans e) f0 f1 f3 f4 f5;obtain⟨o,e,c,d⟩:=id st';exact⟨u,rfl,rM (s:={s with heap:=h'}) e c d (by decide) ⟨x,H,I1,ru,⟨rfl,fun ys hy=>by rw[I.list_inj hy hq];exact hx⟩,st',fun b hb=>(hf b hb).1⟩⟩
 done:=by
  intro X hP hw hK hc i pins s σ H E I hf st hg;subst hP hw hK;obtain⟨xs,hq,hx⟩:=hg;obtain⟨its,rv,p,hz⟩:=I.list hq;obtain⟨f0,f1,f2,f3,f4,f5⟩:=hf it (by simp);have hl:=rv.length;exact wpAny_pyNext_list_end (I.ok.hd hc) st p.isList (by simp;omega) fun h' eb=>⟨rfl,I.turned (t':=s.toks) (fun b o hb e=>eb b o hb e) f0 f1 f3 f4 f5⟩
 self:=fun _ _ _ _ _ st h=>wpAny_pyIter_listiter st h
theorem nQ{P:BK}{w:C2}{K:Bo}{tg:Expr}(it:Addr)(lo:Int)(n:Nat):Turn P w K tg (zA lo n) [it] it (fun i h=>IsRangeIter h it (lo+(i:Nat)*1) ((n:Int)-(i:Nat)) 1) where
 mem:=by simp
 obj:=fun i h st b hb=>by
  have e:b=it:=by simpa using hb
  subst e;exact⟨_,st,fun v z=>by
   have z':Jj _=FN v:=z;cases z'⟩
 keep:=fun i h h' st k=>k it (by simp) _ st
 item:=by
  intro X hP hw hK hc i pins s σ H E I hf st hg;subst hP hw hK;obtain⟨f0,f1,f2,f3,f4,f5⟩:=hf it (by simp);have W:=Walks.range (prog:=X.prog) (w:=X.w) (I.ok.hd hc) it lo 1 n;refine W.item i s _ _ hg st fun v h' tk hv st' kk=>?_;obtain⟨t,rfl⟩:=hv;have I1:Inv X pins σ H {s with heap:=h',toks:=tk}:=I.turned (fun b o hb e=>kk b o (by simpa using hb) e) f0 f1 f3 f4 f5;refine⟨_,rfl,rM (s:={s with heap:=h',toks:=tk}) (n:="range_iterator") st' rfl rfl (by decide) ⟨.int<|lo+i,H,I1,⟨t,?_⟩,⟨rfl,rfl⟩,st',fun b hb=>(hf b hb).1⟩⟩;rw[Int.mul_one]
 done:=by
  intro X hP hw hK hc i pins s σ H E I hf st hg;subst hP hw hK;obtain⟨f0,f1,f2,f3,f4,f5⟩:=hf it (by simp);exact wpAny_pyNext_range_end (I.ok.hd hc) st (by have:n<=i:=hg;omega) fun h' eb=>⟨rfl,I.turned (t':=s.toks) (fun b o hb e=>eb b o hb e) f0 f1 f3 f4 f5⟩
 self:=fun _ _ _ _ _ st h=>wpAny_pyIter_rangeiter st h
section
variable{X:Cx}{tg:Expr}
def rN(K:Bo)(tl:TE):TI:=fun σ H R=>tl σ H fun x H1=>∃a,x=.ref a/\(∃xs,SqL K H1 a xs)/\R (Av K a) H1
theorem uX{l:Expr}{tl:TE}(hl:PE X l tl):PI X tg l (rN X.K tl):=by
 intro pins s σ H R I h;refine cT (hl pins s σ H _ I h) fun v s1 zz=>?_;obtain⟨x,H1,I1,r1,q1⟩:=zz;obtain⟨a,e,⟨xs,hq⟩,q⟩:=q1;subst e;cases r1;obtain⟨its,rv,p,hz⟩:=I1.list hq;refine Ft p.isList ?_;refine⟨s1.heap.objs.size,[s1.heap.objs.size],_,_,H1,rfl,I1.kept (t':=s1.toks) fun b o e=>Bm _ e,qg a _,⟨_,By _ rfl,rfl,rfl⟩,fun b hb=>?_,q⟩;have e:b=s1.heap.objs.size:=by simpa using hb
 subst e;exact I1.fpOk (Bt _)<|I1.hok.fresh<|Bt _
theorem mw{pins:List (Addr×Obj)}{σ:St}{H:Hp}{s:Bs}{R:It->Hp->Prop}{E:Bq->Bs->Prop}{lo hi:Int}{t u v:Tok}{tk:Nat}(I:Inv X pins σ H s)(h1: -(2^62)<=lo)(h2:lo<2^62)(h3: -(2^62)<=hi)(h4:hi<2^62)
  (q:R (zA lo (hi-lo).toNat) H):wpAny (model X.prog X.w) X.A (pyIter<|.ref s.heap.objs.size) (Ai X pins σ tg R) E {s with heap:=s.heap.push {cls:=.type "range",data:=.fields #[.int lo t,.int hi u,.int 1 v]},toks:=tk}:=by
 refine wpAny_pyIter_range (IsRange.new ..) (small_one h1 h2 h3 h4) ?_;have I1:Inv X pins σ H {s with heap:=s.heap.push {cls:=.type "range",data:=.fields #[.int lo t,.int hi u,.int 1 v]},toks:=tk}:=I.kept fun b o e=>Bm _ e;refine⟨(s.heap.push {cls:=.type "range",data:=.fields #[.int lo t,.int hi u,.int 1 v]}).objs.size,[(s.heap.push {cls:=.type "range",data:=.fields #[.int lo t,.int hi u,.int 1 v]}).objs.size],_,_,H,rfl,
  I1.kept (t':=tk) fun b o e=>Bm _ e,nQ _ lo (hi-lo).toNat,?_,fun b hb=>?_,q⟩
 ·have e1:lo+((0:Nat):Int)*1=lo:=by simp
  have e2:(((hi-lo).toNat:Nat):Int)-((0:Nat):Int)=Kv lo hi 1:=by rw[rangeSize_one];split<;>omega
  show IsRangeIter _ _ (lo+((0:Nat):Int)*1) ((((hi-lo).toNat:Nat):Int)-((0:Nat):Int)) 1;rw[e1,e2];exact By _ rfl
 ·have e:b=(s.heap.push {cls:=.type "range",data:=.fields #[.int lo t,.int hi u,.int 1 v]}).objs.size:=by simpa using hb
  subst e;exact I1.fpOk (Bt _)<|I1.hok.fresh<|Bt _
def wN(ta:TA):TI:=fun σ H R=>ta σ H fun vs H1=>∃j:Int,vs=[.int j]/\ -(2^62)<=j/\j<2^62/\R (zA 0 j.toNat) H1
def wO(ta:TA):TI:=fun σ H R=>ta σ H fun vs H1=>∃i j:Int,vs=[.int i,.int j]/\(-(2^62)<=i/\i<2^62/\ -(2^62)<=j/\j<2^62)/\R (zA i (j-i).toNat) H1
theorem gu{a:Expr}{ta:TA}{p pos:Pos}(hg:Gl X "range")(hm:X.mg "range"=none)(ha:PA X [a] ta)(hs:starEach [a] X.env=[(false,eval a X.env)]:=by rfl):PI X tg (.Call (.Name "range" p) [a] [] pos) (wN ta):=by
 intro pins s σ H R I h;refine Call_<|gO I hg hm boot_range<|Dt (cT (ha pos pins s σ H _ I h) fun us s1⟨vs,H1,I1,r1,q1⟩=>?_) hs rfl;obtain⟨j,e,q1,q2,q⟩:=q1;subst e;cases r1 with
 |cons r rr=>
  cases rr;obtain⟨t,rfl⟩:=r;exact call_range_1 (mw I1 (by omega) (by omega) q1 q2 (by simpa using q))
theorem qh{a b:Expr}{ta:TA}{p pos:Pos}(hg:Gl X "range")(hm:X.mg "range"=none)(ha:PA X [a,b] ta)(hs:starEach [a,b] X.env=[(false,eval a X.env),(false,eval b X.env)]:=by rfl)(hs2:starEach [b] X.env=[(false,eval b X.env)]:=by rfl):
  PI X tg (.Call (.Name "range" p) [a,b] [] pos) (wO ta):=by
 intro pins s σ H R I h;refine Call_ (gO I hg hm boot_range (Dt (cT (ha pos pins s σ H _ I h) fun us s1⟨vs,H1,I1,r1,q1⟩=>?_) (by rw[hs,hs2]) (by rw[hs2];rfl)));obtain⟨i,j,e,⟨q1,q2,q3,q4⟩,q⟩:=q1;subst e;cases r1 with
 |cons r rr=>
  cases rr with
  |cons r' rr=>
   cases rr;obtain⟨t,rfl⟩:=r;obtain⟨t',rfl⟩:=r';exact call_range_2<|mw I1 q1 q2 q3 q4 q
def rO(wi:TI)(g:TG)(tb:TS):TS:=fun D σ H=>wi σ H fun J H1=>∃W:Nat->Nat->St->Hp->Prop,(∃m,W 0 m σ H1)/\∀i m σ H,W i m σ H->
 (J.stop i H/\D.nx σ H)\/(J.go i H/\∃N:St->Hp->Prop,(∀σ' H',N σ' H'->∃m',m'<m/\W (i+1) m' σ' H')/\∀x H',J.yld i H x H'->g x σ H' fun σ2 H2=>tb {D with nx:=N,ct:=N,bk:=D.nx} σ2 H2)
def jh(fp:List Addr)(h:Heap):List (Addr×Obj):=fp.filterMap fun b=>(h.get? b).map fun o=>(b,o)
theorem gQ{fp:List Addr}{h:Heap}{b:Addr}{o:Obj}(hb:b∈fp)(e:h.get? b=some o):(b,o)∈jh fp h:=Fd.mpr ⟨b,hb,by rw[e];rfl⟩
theorem qi{fp:List Addr}{h:Heap}{p:Addr×Obj}(hp:p∈jh fp h):p.1∈fp/\h.get? p.1=some p.2:=by
 obtain⟨b,hb,e⟩:=Fd.mp hp;cases q:h.get? b with
 |none=>rw[q]at e;cases e
 |some o=>
  rw[q]at e;have e':(b,o)=p:=C9 e;subst e';exact⟨hb,q⟩
theorem Inv.pinned{pins:List (Addr×Obj)}{σ:St}{H:Hp}{s:Bs}{fp:List Addr}(I:Inv X pins σ H s)(hf:∀b∈fp,FpOk X pins H b)(ho:∀b∈fp,∃o,s.heap.get? b=some o/\∀v,o.data≠.cell v):Inv X (pins++jh fp s.heap) σ H s:=
 I.pins_of fun p hp=>(Ck.mp hp).elim (fun z=>I.pin p<|CA _ z) fun z=>by
  obtain⟨hb,e⟩:=qi z;obtain⟨f0,f1,f2,_⟩:=hf p.1 hb;obtain⟨o,e',d⟩:=ho p.1 hb;rw[e]at e';cases e';exact⟨e,f0,f1,f2,d⟩
theorem Inv.unpinned{pins pl:List (Addr×Obj)}{σ:St}{H:Hp}{s:Bs}(I:Inv X (pins++pl) σ H s):Inv X pins σ H s:=I.pins_of fun p hp=>I.pin p<|CA _<|FV _ hp
theorem bS{iter:Expr}{body:List Stmt}{wi:TI}{g:TG}{tb:TS}{pos:Pos}(hp:PassesOwn (model X.prog X.w) X.A X.env X.xe)(hc:X.calm=true)(hi:PI X tg iter wi)(hg:PG X tg g)(hb:PSs X body tb)
  (hs:∀x,foldedSetIterable iter X.env x=pure x:=by intro _;rfl):PS X (.For tg iter body [] pos) (rO wi g tb):=by
 intro pins s σ H D I h;refine wpAny_For (cT (hi pins s σ H _ I h) fun v s1 h1=>cT h1 fun itv s2 h2=>?_) hs;obtain⟨it,fp,tn,J,H2,e,I2,T,st2,f2,W,⟨m0,w0⟩,turn⟩:=h2;subst e;have stat:∀{H':Hp},(∀b∈fp,H' b=none)->∀b∈fp,FpOk X pins H' b:=fun hn b hb=>⟨hn b hb,(f2 b hb).2⟩
 refine codeAny_forLoop_any (fun n s'=>∃i σ' H',Inv X pins σ' H' s'/\tn i s'.heap/\(∀b∈fp,H' b=none)/\W i n σ' H') ?_ m0 ⟨0,σ,H2,I2,st2,fun b hb=>(f2 b hb).1,w0⟩;rintro n s3 ⟨i,σ3,H3,I3,st3,fr3,w3⟩;rcases turn i n σ3 H3 w3 with⟨stop,qn⟩|⟨go,N,hN,step⟩
 ·refine Fb hp<|cT (T.done X rfl rfl rfl hc i pins s3 σ3 H3 X.xe I3 (stat fr3) st3 stop) fun r s4 zz=>?_;obtain⟨hr,I4⟩:=zz;subst hr;exact Hu ⟨σ3,H3,I4,qn⟩
 ·refine Fb hp<|cT (T.item X rfl rfl rfl hc i pins s3 σ3 H3 X.xe I3 (stat fr3) st3 go) fun r s4 zz=>?_;obtain⟨u,hr,h4⟩:=zz;subst hr;refine Fb hp<|cT h4 fun _ s5 zz=>?_;obtain⟨x,H5,I5,r5,y5,st5,fr5⟩:=zz;have I5':=I5.pinned (stat fr5)<|T.obj _ _ st5;refine Fb hp<|cT (hg _ s5 σ3 H5 x u _ I5' r5<|step x H5 y5) fun _ s6 zz=>?_;obtain⟨σ6,H6,I6,q6⟩:=zz;refine Fb hp<|cT (hb _ s6 σ6 H6 _ I6 q6) fun f s7 q7=>?_;have again:∀{σ7:St}{H7:Hp},Inv X (pins++jh fp s5.heap) σ7 H7 s7->N σ7 H7->∃m,m<n/\∃i σ' H',Inv X pins σ' H' s7/\tn i s7.heap/\(∀b∈fp,H' b=none)/\W i m σ' H':=fun{σ7 H7}I7 n7=>by
   obtain⟨m',hm,w7⟩:=hN σ7 H7 n7;refine⟨m',hm,i+1,σ7,H7,I7.unpinned,T.keep _ _ _ st5 fun b hb o e=>(I7.pin (b,o)<|CA _<|CA _<|gQ hb e).1,fun b hb=>?_,w7⟩;obtain⟨o,e,d⟩:=T.obj _ _ st5 b hb;exact(I7.pin (b,o)<|CA _<|CA _<|gQ hb e).2.1
  cases f with
  |next=>obtain⟨σ7,H7,I7,n7⟩:=q7;exact again I7 n7
  |cont=>obtain⟨σ7,H7,I7,n7⟩:=q7;exact again I7 n7
  |brk=>obtain⟨σ7,H7,I7,q7⟩:=q7;exact⟨σ7,H7,I7.unpinned,q7⟩
  |ret v=>obtain⟨x7,σ7,H7,I7,r7,q7⟩:=q7;exact⟨x7,σ7,H7,I7.unpinned,r7,q7⟩
end
abbrev R2:=V->V->Hp->VK->Prop
def OpR(X:Cx)(f:Bq->Bq->Sem Bq)(r:R2):Prop:=
 ∀(pins:List (Addr×Obj))(s:Bs)(σ:St)(H:Hp)(x y:V)(v u:Bq)(Q:VK),Inv X pins σ H s->RelV x v->RelV y u->r x y H Q->
  wpAny (model X.prog X.w) X.A (f v u) (EP X pins σ Q) X.xe s
def Aj(X:Cx)(f:Bq->Sem Bq)(r:V->Hp->VK->Prop):Prop:=
 ∀(pins:List (Addr×Obj))(s:Bs)(σ:St)(H:Hp)(x:V)(v:Bq)(Q:VK),Inv X pins σ H s->RelV x v->r x H Q->
  wpAny (model X.prog X.w) X.A (f v) (EP X pins σ Q) X.xe s
def dt(X:Cx)(f:Bq)(r:List V->Hp->VK->Prop):Prop:=
 ∀(pins:List (Addr×Obj))(s:Bs)(σ:St)(H:Hp)(xs:List V)(us:List Bq)(Q:VK),Inv X pins σ H s->Vals xs us->r xs H Q->
  wpAny (model X.prog X.w) X.A (call f us) (EP X pins σ Q) X.xe s
def cX(r:R2)(ta tb:TE):TE:=fun σ H Q=>ta σ H fun x H1=>tb σ H1 fun y H2=>r x y H2 Q
def fB(r:V->Hp->VK->Prop)(ta:TE):TE:=fun σ H Q=>ta σ H fun x H1=>r x H1 Q
def rI(C:Int->Int->Prop)(g:Int->Int->V):R2:=fun x y H Q=>∃i j,x=.int i/\y=.int j/\C i j/\Q (g i j) H
def eP(g:Int->Int->V):R2:=fun x y H Q=>∃i j,x=.int i/\y=.int j/\Q (g i j) H
def rU(g:Int->V):V->Hp->VK->Prop:=fun x H Q=>∃i,x=.int i/\Q (g i) H
section
variable{X:Cx}{a b c:Expr}{ta tb tc:TE}{pos:Pos}
theorem xn(ha:PE X a ta)(hb:PE X b tb){pins:List (Addr×Obj)}{s:Bs}{σ:St}{H:Hp}{R:V->V->Hp->Prop}(I:Inv X pins σ H s)
  (h:ta σ H fun x H1=>tb σ H1 fun y H2=>R x y H2) {Q:Bq->Bs->Prop} {f:Bq->Bq->Sem Bq}
  (hf:∀v u s2 x y H2,Inv X pins σ H2 s2->RelV x v->RelV y u->R x y H2->wpAny (model X.prog X.w) X.A (f v u) Q X.xe s2):
  wpAny (model X.prog X.w) X.A (eval a X.env) (fun v s₁=>wpAny (model X.prog X.w) X.A (eval b X.env) (fun u s₂=>wpAny (model X.prog X.w) X.A (f v u) Q X.xe s₂) X.xe s₁) X.xe s:=by
 refine cT (ha pins s σ H _ I h) fun v s1 zz=>?_;obtain⟨x,H1,I1,r1,q1⟩:=zz;refine cT (hb pins s1 σ H1 _ I1 q1) fun u s2 zz=>?_;obtain⟨y,H2,I2,r2,q2⟩:=zz;exact hf v u s2 x y H2 I2 r1 r2 q2
theorem ai{op:Operator}{r:R2}(ho:OpR X (binaryOp op) r)(ha:PE X a ta)(hb:PE X b tb):PE X (.BinOp a op b pos) (cX r ta tb):=by
 intro pins s σ H Q I h;exact wpAny_BinOp<|xn ha hb I h fun v u s2 x y H2 I2 rx ry q=>ho pins s2 σ H2 x y v u Q I2 rx ry q
theorem kC{op:UnaryOp}{r:V->Hp->VK->Prop}(ho:Aj X (unaryOp op) r)(ha:PE X a ta):PE X (.UnaryOp op a pos) (fB r ta):=by
 intro pins s σ H Q I h;refine UnaryOp_<|cT (ha pins s σ H _ I h) fun v s1 zz=>?_;obtain⟨x,H1,I1,r1,q1⟩:=zz;exact ho pins s1 σ H1 x v Q I1 r1 q1
theorem zB{f:Bq->Bq->Sem Bq}{C:Int->Int->Prop}{g:Int->Int->Int}
  (rule:∀(i j:Int)(t u:Tok)(s:Bs)(Q:Bq->Bs->Prop)(E:Bq->Bs->Prop),C i j->Q (.int (g i j) s.toks) {s with toks:=s.toks+1}->wpAny (model X.prog X.w) X.A (f (.int i t)<|.int j u) Q E s):
  OpR X f (rI C fun i j=>.int<|g i j):=by
 intro pins s σ H x y v u Q I rx ry h;obtain⟨i,j,rfl,rfl,hc,q⟩:=h;obtain⟨t,rfl⟩:=rx;obtain⟨t',rfl⟩:=ry;exact rule i j t t' s _ _ hc ⟨.int<|g i j,H,I.tok _,⟨_,rfl⟩,q⟩
theorem yx{f:Bq->Bq->Sem Bq}{g:Int->Int->Int}
  (rule:∀(i j:Int)(t u:Tok)(s:Bs)(Q:Bq->Bs->Prop)(E:Bq->Bs->Prop),Q (.int (g i j) s.toks) {s with toks:=s.toks+1}->wpAny (model X.prog X.w) X.A (f (.int i t)<|.int j u) Q E s):
  OpR X f (eP fun i j=>.int<|g i j):=by
 intro pins s σ H x y v u Q I rx ry h;obtain⟨i,j,rfl,rfl,q⟩:=h;obtain⟨t,rfl⟩:=rx;obtain⟨t',rfl⟩:=ry;exact rule i j t t' s _ _ ⟨.int<|g i j,H,I.tok _,⟨_,rfl⟩,q⟩
theorem uY{f:Bq->Bq->Sem Bq}{g:Int->Int->Bool}
  (rule:∀(i j:Int)(t u:Tok)(s:Bs)(Q:Bq->Bs->Prop)(E:Bq->Bs->Prop),Q (.bool<|g i j) s->wpAny (model X.prog X.w) X.A (f (.int i t)<|.int j u) Q E s):
  OpR X f (eP fun i j=>.bl<|g i j):=by
 intro pins s σ H x y v u Q I rx ry h;obtain⟨i,j,rfl,rfl,q⟩:=h;obtain⟨t,rfl⟩:=rx;obtain⟨t',rfl⟩:=ry;exact rule i j t t' s _ _ ⟨.bl<|g i j,H,I,rfl,q⟩
def yy(i j:Int):Prop:=0<j/\j<1073741824
def yA(i j:Int):Prop:=0<=j/\j<=1000000/\i.natAbs<2^64
def CMul(i j:Int):Prop:=(-(2^64)<i/\i<2^64)\/(-(2^64)<j/\j<2^64)
theorem CMul.ok{i j:Int}(h:CMul i j):IntMulOk i j:=by
 rcases h with⟨h1,h2⟩|⟨h1,h2⟩
 ·exact .of_left<|K8 h1 h2
 ·exact .of_right<|K8 h1 h2
theorem bg:OpR X (binaryOp .Add) (eP fun i j=>.int<|i+j):=yx fun _ _ _ _ _ _ _ q=>add_int q
theorem dH:OpR X (binaryOp .Sub) (eP fun i j=>.int<|i-j):=yx fun _ _ _ _ _ _ _ q=>sub_int q
theorem eI:OpR X (binaryOp .Mult) (rI CMul fun i j=>.int<|i*j):=zB fun _ _ _ _ _ _ _ hc q=>mul_int q hc.ok
theorem aQ:OpR X (binaryOp .FloorDiv) (rI yy fun i j=>.int<|i/j):=zB fun i j _ _ _ _ _ hc q=>by
 have h1:(0:Int)<j:=hc.1;have h2:j<1073741824:=hc.2;exact floordiv_int (by omega) (by rw[Int.fdiv_eq_ediv_of_nonneg i (by omega)];exact q) (.inl (PyProof.noPylong_small (by omega)))
theorem av:OpR X (binaryOp .Mod) (rI (fun _ j=>0<j) fun i j=>.int<|i%j):=zB fun i j _ _ _ _ _ hc q=>by
 have h1:(0:Int)<j:=hc;exact mod_int' (by omega) (by rw[Int.fmod_eq_emod_of_nonneg i (by omega)];exact q)
theorem lp:OpR X (binaryOp .Pow) (rI yA fun i j=>.int<|i^j.toNat):=zB fun _ _ _ _ _ _ _ hc q=>pow_int_small hc.1 hc.2.1 hc.2.2 q
theorem Ay{f:Bq->Sem Bq}{g:Int->Int}
  (rule:∀(i:Int)(t:Tok)(s:Bs)(Q:Bq->Bs->Prop)(E:Bq->Bs->Prop),Q (.int (g i) s.toks) {s with toks:=s.toks+1}->wpAny (model X.prog X.w) X.A (f<|.int i t) Q E s):
  Aj X f (rU fun i=>.int<|g i):=by
 intro pins s σ H x v Q I rx h;obtain⟨i,rfl,q⟩:=h;obtain⟨t,rfl⟩:=rx;exact rule i t s _ _ ⟨.int<|g i,H,I.tok _,⟨_,rfl⟩,q⟩
theorem iy:Aj X (unaryOp .USub) (rU fun i=>.int<|-i):=Ay fun _ _ _ _ _ q=>neg_int q
end
def cI:V->V->Bool
 | .non,.non=>true| .non,.int _=>true| .int _,.non=>true| .non,.bl _=>true| .bl _,.non=>true| .non,.str _=>true| .str _,.non=>true
 | .int _,.int _=>true| .bl _,.bl _=>true| .str _,.str _=>true| .byt _,.byt _=>true
 | .int _,.str _=>true| .str _,.int _=>true| .bl _,.str _=>true| .str _,.bl _=>true
 |_,_=>false
def fM:R2:=fun x y H Q=>cI x y=true/\Q (.bl<|decide<|x=y) H
def fT:R2:=fun x y H Q=>cI x y=true/\Q (.bl<|!decide (x=y)) H
theorem oN{i j:Int}:decide (V.int i=V.int j)=(i==j):=by
 rw[CH];simp
theorem rP{i j:Bool}:decide (V.bl i=V.bl j)=(i==j):=by
 rw[CH];simp
theorem oO{i j:Str}:decide (V.str i=V.str j)=(i==j):=by
 rw[CH];simp
theorem oP{i j:Array UInt8}:decide (V.byt i=V.byt j)=(i.toList==j.toList):=by
 rw[CH];cases i;cases j;simp
section
variable{X:Cx}{a b c:Expr}{ta tb tc:TE}{pos:Pos}
theorem aR{pins:List (Addr×Obj)}{σ:St}{H:Hp}{s:Bs}{Q:VK}{k k':Bool}(I:Inv X pins σ H s)(q:Q (.bl k) H)(e:k=k'):EP X pins σ Q (.bool k') s:=by
 subst e;exact⟨.bl k,H,I,rfl,q⟩
theorem bE:OpR X (compareOp .Eq) fM:=by
 intro pins s σ H x y v u Q I rx ry h;obtain⟨hs,q⟩:=h;cases x with
 |non=>
  cases rx;cases y with
  |non=>cases ry;exact JV (aR I q (by simp))
  |bl j=>cases ry;exact JW (aR I q (by simp))
  |int j=>obtain⟨t',rfl⟩:=ry;exact K9 (aR I q (by simp))
  |str j=>obtain⟨t',rfl⟩:=ry;exact Ka (aR I q (by simp))
  |_=>exact absurd (show false=true from hs) BH
 |bl i=>
  cases rx;cases y with
  |non=>cases ry;exact JX (aR I q (by simp))
  |bl j=>cases ry;exact eq_bool<|aR I q rP
  |str j=>obtain⟨t',rfl⟩:=ry;exact JY (aR I q (by simp))
  |_=>exact absurd (show false=true from hs) BH
 |int i=>
  obtain⟨t,rfl⟩:=rx;cases y with
  |non=>cases ry;exact Kb (aR I q (by simp))
  |int j=>obtain⟨t',rfl⟩:=ry;exact eq_int<|aR I q oN
  |str j=>obtain⟨t',rfl⟩:=ry;exact Kc (aR I q (by simp))
  |_=>exact absurd (show false=true from hs) BH
 |str i=>
  obtain⟨t,rfl⟩:=rx;cases y with
  |non=>cases ry;exact Kd (aR I q (by simp))
  |bl j=>cases ry;exact JZ (aR I q (by simp))
  |int j=>obtain⟨t',rfl⟩:=ry;exact Ke (aR I q (by simp))
  |str j=>obtain⟨t',rfl⟩:=ry;exact eq_str<|aR I q oO
  |_=>exact absurd (show false=true from hs) BH
 |byt i=>
  obtain⟨t,rfl⟩:=rx;cases y with
  |byt j=>obtain⟨t',rfl⟩:=ry;exact PySem.W.eq_bytes<|aR I q oP
  |_=>exact absurd (show false=true from hs) BH
 |_=>cases y<;>exact absurd (show false=true from hs) BH
theorem rQ:OpR X (compareOp .NotEq) fT:=by
 intro pins s σ H x y v u Q I rx ry h;obtain⟨hs,q⟩:=h;cases x with
 |non=>
  cases rx;cases y with
  |non=>cases ry;exact K0 (aR I q (by simp))
  |bl j=>cases ry;exact K1 (aR I q (by simp))
  |int j=>obtain⟨t',rfl⟩:=ry;exact Kf (aR I q (by simp))
  |str j=>obtain⟨t',rfl⟩:=ry;exact Kg (aR I q (by simp))
  |_=>exact absurd (show false=true from hs) BH
 |bl i=>
  cases rx;cases y with
  |non=>cases ry;exact K2 (aR I q (by simp))
  |bl j=>cases ry;exact ne_bool<|aR I q<|congrArg not rP
  |str j=>obtain⟨t',rfl⟩:=ry;exact K3 (aR I q (by simp))
  |_=>exact absurd (show false=true from hs) BH
 |int i=>
  obtain⟨t,rfl⟩:=rx;cases y with
  |non=>cases ry;exact Kh (aR I q (by simp))
  |int j=>obtain⟨t',rfl⟩:=ry;exact ne_int<|aR I q<|congrArg not oN
  |str j=>obtain⟨t',rfl⟩:=ry;exact Ki (aR I q (by simp))
  |_=>exact absurd (show false=true from hs) BH
 |str i=>
  obtain⟨t,rfl⟩:=rx;cases y with
  |non=>cases ry;exact Kj (aR I q (by simp))
  |bl j=>cases ry;exact K4 (aR I q (by simp))
  |int j=>obtain⟨t',rfl⟩:=ry;exact Kk (aR I q (by simp))
  |str j=>obtain⟨t',rfl⟩:=ry;exact ne_str<|aR I q<|congrArg not oO
  |_=>exact absurd (show false=true from hs) BH
 |byt i=>
  obtain⟨t,rfl⟩:=rx;cases y with
  |byt j=>obtain⟨t',rfl⟩:=ry;exact PySem.W.ne_bytes<|aR I q<|congrArg not oP
  |_=>exact absurd (show false=true from hs) BH
 |_=>cases y<;>exact absurd (show false=true from hs) BH
theorem my:OpR X (compareOp .Lt) (eP fun i j=>.bl<|decide<|i<j):=uY fun _ _ _ _ _ _ _ q=>lt_int q
theorem oQ:OpR X (compareOp .LtE) (eP fun i j=>.bl<|decide<|i<=j):=uY fun _ _ _ _ _ _ _ q=>le_int q
theorem gK:OpR X (compareOp .Gt) (eP fun i j=>.bl<|decide<|j<i):=uY fun _ _ _ _ _ _ _ q=>gt_int q
theorem rR:OpR X (compareOp .GtE) (eP fun i j=>.bl<|decide<|j<=i):=uY fun _ _ _ _ _ _ _ q=>ge_int q
theorem op_isN:OpR X (compareOp .Is) (fun x y H Q=>y=.non/\Q (.bl<|decide<|x=.non) H):=by
 intro pins s σ H x y v u Q I rx ry h;obtain⟨rfl,q⟩:=h;cases ry;refine is_none_gen<|aR I q ?_
 cases x<;>first
  |(cases rx;rfl)
  |(obtain⟨t,rfl⟩:=rx;rfl)
theorem OpR.or{f:Bq->Bq->Sem Bq}{r r':R2}(h:OpR X f r)(h':OpR X f r'):OpR X f (fun x y H Q=>r x y H Q\/r' x y H Q):=by
 intro pins s σ H x y v u Q I rx ry q;rcases q with q|q
 ·exact h pins s σ H x y v u Q I rx ry q
 ·exact h' pins s σ H x y v u Q I rx ry q
theorem ay(b:Expr){op:CmpOp}(h:op≠.In:=by decide)(h2:op≠.NotIn:=by decide):behindInMarks op b=false:=by
 have e1:(op==CmpOp.In)=false:=by cases op<;>first|rfl|exact absurd rfl h
 have e2:(op==CmpOp.NotIn)=false:=by cases op<;>first|rfl|exact absurd rfl h2
 cases b<;>simp[behindInMarks,e1,e2]
theorem cV{op:CmpOp}{r:R2}(ho:OpR X (compareOp op) r)(ha:PE X a ta)(hb:PE X b tb)(hm:behindInMarks op b=false):PE X (.Compare a [op] [b] pos) (cX r ta tb):=by
 intro pins s σ H Q I h;exact wpAny_Compare1 (xn ha hb I h fun v u s2 x y H2 I2 rx ry q=>ho pins s2 σ H2 x y v u Q I2 rx ry q) hm
def bB(t:TE):TT:=fun σ H Q=>t σ H fun x H'=>∃k,x=.bl k/\Q k H'
theorem aq{op:CmpOp}{r:R2}(ho:OpR X (compareOp op) r)(ha:PE X a ta)(hb:PE X b tb)(hm:behindInMarks op b=false):PT X (.Compare a [op] [b] pos) (bB<|cX r ta tb):=by
 intro pins s σ H Q I h;refine wpAny_isTrue_Compare1 (cT (ha pins s σ H _ I h) fun v s1⟨x,H1,I1,r1,q1⟩=>cT (hb pins s1 σ H1 _ I1 q1) fun u s2⟨y,H2,I2,r2,q2⟩=>
  cT (ho pins s2 σ H2 x y v u _ I2 r1 r2 q2) fun c s3⟨z,H3,I3,r3,k,e,q3⟩=>?_) hm
 subst e;cases r3;exact DP ⟨H3,I3,q3⟩
theorem ji:(sizeLine:Nat)<2^63:=by rw[CF];decide
theorem dJ:OpR X (binaryOp .Add) (fun x y H Q=>∃i j,x=.str i/\y=.str j/\i.length+j.length<=sizeLine/\Q (.str<|i++j) H):=by
 intro pins s σ H x y v u Q I rx ry h;obtain⟨i,j,rfl,rfl,hz,q⟩:=h;obtain⟨t,rfl⟩:=rx;obtain⟨t',rfl⟩:=ry;exact add_str (fun t' tk=>⟨.str<|i++j,H,I.tok _,⟨_,rfl⟩,q⟩) hz
theorem eR{x:V}{us:List Bq}(r:Vals [x] us):∃u,us=[u]/\RelV x u:=by
 cases r with
 |cons r1 r2=>cases r2;exact⟨_,rfl,r1⟩
theorem kD{x y:V}{us:List Bq}(r:Vals [x,y] us):∃u w',us=[u,w']/\RelV x u/\RelV y w':=by
 cases r with
 |cons r1 r2=>
  cases r2 with
  |cons r3 r4=>cases r4;exact⟨_,_,rfl,r1,r3⟩
theorem jj:dt X (.builtin "abs") (fun xs H Q=>∃i,xs=[.int i]/\Q (.int (if i<0 then -i else i)) H):=by
 intro pins s σ H xs us Q I r h;obtain⟨i,rfl,q⟩:=h;obtain⟨u,rfl,t,rfl⟩:=eR r;exact call_abs_int fun u tk=>⟨.int (if i<0 then -i else i),H,I.tok _,⟨_,rfl⟩,q⟩
theorem kE(hc:X.calm=true):dt X (.builtin "max") (fun xs H Q=>∃i j,xs=[.int i,.int j]/\Q (.int (if j>i then j else i)) H):=by
 intro pins s σ H xs us Q I r h;obtain⟨i,j,rfl,q⟩:=h;obtain⟨u,w',rfl,⟨t,rfl⟩,⟨t',rfl⟩⟩:=kD r;refine max_two_ints (I.ok.hd hc) fun h' tk k=>⟨_,H,I.kept k,?_,q⟩
 by_cases hj:j>i;·rw[if_pos hj,if_pos hj];exact⟨_,rfl⟩
 ·rw[if_neg hj,if_neg hj];exact⟨_,rfl⟩
theorem kF:dt X (.type "int") (fun xs H Q=>(∃i,xs=[.int i]/\Q (.int i) H)\/∃k,xs=[.bl k]/\Q (.int (if k then 1 else 0)) H):=by
 intro pins s σ H xs us Q I r h;rcases h with⟨i,rfl,q⟩|⟨k,rfl,q⟩
 ·obtain⟨u,rfl,t,rfl⟩:=eR r;exact call_int_int ⟨.int i,H,I,⟨_,rfl⟩,q⟩
 ·obtain⟨u,rfl,r1⟩:=eR r;cases r1;exact call_int_bool ⟨.int (if k then 1 else 0),H,I.tok _,⟨_,rfl⟩,q⟩
def nR(K:Bo)(x:V)(H:Hp)(n:Nat):Prop:=
 match x with
 | .str y=>y.length<=sizeLine/\n=y.length
 | .byt y=>y.size<=sizeLine/\n=y.size
 | .ref p=>(∃xs,SqL K H p xs/\n=xs.length)\/∃xs,SqT K H p xs/\n=xs.length
 |_=>False
theorem rS:dt X (.builtin "len") (fun xs H Q=>∃x n,xs=[x]/\nR X.K x H n/\Q (.int n) H):=by
 intro pins s σ H xs us Q I r h;obtain⟨x,n,rfl,e,q⟩:=h;obtain⟨u,rfl,rx⟩:=eR r;have hl:=ji;have hs:sizeLine=16777216:=CF;cases x with
 |str y=>
  obtain⟨t,rfl⟩:=rx;obtain⟨hy,e'⟩:y.length<=sizeLine/\n=y.length:=e;subst e';exact len_str (by omega) ⟨.int _,H,I.tok _,⟨_,rfl⟩,q⟩
 |byt y=>
  obtain⟨t,rfl⟩:=rx;obtain⟨hy,e'⟩:y.size<=sizeLine/\n=y.size:=e;subst e';exact PySem.W.len_bytes (by omega) ⟨.int _,H,I.tok _,⟨_,rfl⟩,q⟩
 |ref p=>
  cases rx;have e':(∃xs,SqL X.K H p xs/\n=xs.length)\/∃xs,SqT X.K H p xs/\n=xs.length:=e;rcases e' with⟨xs,hx,e'⟩|⟨xs,hx,e'⟩
  ·subst e';obtain⟨its,r',pl,hz⟩:=I.list hx;have hlen:=r'.length;exact Calls.call_len_list pl.isList (by simp only[BA];omega) ⟨.int xs.length,H,I.tok _,⟨_,by simp only[BA];rw[hlen]⟩,q⟩
  ·subst e';obtain⟨its,r',pl,hz⟩:=I.tuple hx;have hlen:=r'.length;exact len_tuple pl (by simp only[BA];omega) ⟨.int xs.length,H,I.tok _,⟨_,by simp only[BA];rw[hlen]⟩,q⟩
 |_=>exact(show False from e).elim
end
structure ObjM(h:Heap)(x dx C:Addr)(mA:Str->Option Bq):Prop where
 obj:h.get? x=some (Hr C dx)
 ns:h.Ns1 dx mA
 ne:dx≠x
theorem qj{h:Heap}{dx:Addr}{mA:Str->Option Bq}(n:h.Ns1 dx mA):∃od,h.get? dx=some od/\∀name,HP name od=some (mA name):=by
 obtain⟨o,es,ep,ho,hd,hk,_,hm⟩:=n;refine⟨o,ho,fun name=>?_⟩;have e:=hm name;unfold nsFind findBy at e;rw[<-Array.find?_toList]at e;unfold HP;rw[hd];dsimp only;split
 ·rename_i y q;rw[q]at e;exact congrArg some e
 ·rename_i q;rw[q]at e;have a:es.toList.any (·.refKey)=false:=by
   rw[List.any_eq_false];intro y hy;obtain⟨z,t,hkey⟩:=hk y<|Array.mem_toList_iff.mp hy;simp[DictEntry.refKey,hkey]
  have a':¬es.toList.any (·.refKey)=true:=by rw[a];exact BH
  rw[if_neg a'];exact congrArg some e
theorem ObjM.look{h:Heap}{x dx C:Addr}{mA:Str->Option Bq}(I:ObjM h x dx C mA):∃od,PySem.W.InstAt h x (Hr C dx) C (some od)/\∀name,HP name od=some (mA name):=
 let ⟨od,ho,hl⟩:=qj I.ns
 ⟨od,⟨I.obj,rfl,rfl,ho⟩,hl⟩
theorem RelO.some_of{v:V}{o:Option Bq}(r:RelO (some v) o):∃u,o=some u/\RelV v u:=by
 cases o with
 |none=>exact(show False from r).elim
 |some u=>exact⟨u,rfl,r⟩
section
variable{P:BK}{w:C2}{H H':Hp}{h h':Heap}{a C dx:Addr}{fs fs':List (Str×V)}
theorem uZ(hok:HOk P w H h)(e:H a=some (.ins C dx fs)):∃mA,ObjM h a dx C mA/\(∀f,RelO (fs.lookup f)<|mA f)/\Kx mA (fs.map (·.1))/\fs.length<=1000/\H dx=some (.own a):=by
 obtain⟨d,z,ne,ob,mA,n,r,q⟩:=(show ObjOk P w H h a (.ins C dx fs)from hok a _ e)
 exact⟨mA,⟨ob,n,ne⟩,r,q,z,d⟩
end
structure Cls(K:Bo)(C:Addr):Prop where
 pg:J7 K C Str.empty=true
 hd:PySem.W.hasDictIn K C=true
 po:PySem.W.plainOver K C=true
 sa:JE K (.ref C) "__setattr__"=some (some<|.builtin "object.__setattr__")
theorem Cls.get{K:Bo}{C:Addr}(c:Cls K C)(f:Str):J7 K C f=true:=c.pg
section
variable{X:Cx}{pins:List (Addr×Obj)}{σ:St}{H:Hp}{s:Bs}{A:Cj}{E:Bq->Bs->Prop}{Q:Bq->Bs->Prop}{c:Bq}{b:Bool}
inductive TyOf(K:Bo)(H:Hp):V->Bq->Prop where
 |non:TyOf K H .non (.type "NoneType")
 |bl (x:Bool):TyOf K H (.bl x) (.type "bool")
 |int (i:Int):TyOf K H (.int i) (.type "int")
 |str (x:Str):TyOf K H (.str x) (.type "str")
 |flt (x:UInt64):TyOf K H (.flt x) (.type "float")
 |lst {a:Addr} {xs:List V} (e:H a=some (.lst xs)):TyOf K H (.ref a) (.type "list")
 |frz {a:Addr} {o:Obj} {xs:List V} (e:H a=some (.frz o<|.lst xs)):TyOf K H (.ref a) (.type "list")
 |tup {a:Addr} {xs:List V} (e:SqT K H a xs):TyOf K H (.ref a) (.type "tuple")
 |dK {a:Addr} {kvs:List (Key×V)} (e:H a=some (.dK kvs)):TyOf K H (.ref a) (.type "dict")
 |dT {a:Addr} {kvs:List (List Key×V)} (e:H a=some (.dT kvs)):TyOf K H (.ref a) (.type "dict")
 | ins {a C dx:Addr} {fs:List (Str×V)} (e:H a=some (.ins C dx fs)) (cl:Cls K C) (ha:JE K (.ref C) "__class__" =some (some<|.builtin "object.__class__"))
   (hn:PySem.W.specialIn K (.builtin "object.__class__") "__get__"=some (some<|.builtin "getset_descriptor.__get__")) (htk:PySem.W.takesIn K (.builtin "object.__class__")=some true)
   (hm:PySem.W.mroIn K C (.type "object")=some true):TyOf K H (.ref a) (.ref C)
theorem qk{x:V}{u t:Bq}(I:Inv X pins σ H s)(rx:RelV x u)(ty:TyOf X.K H x t)(e:D6 X.K t c=some b)(h:∀tk,Q (.bool b) {s with toks:=tk}):
  wpAny (model X.prog X.w) A (call (.builtin "isinstance") [u,c]) Q E s:=by
 cases ty with
 |non=>cases (show u=CM from rx);exact Dc PySem.W.kitx_none I.kIn Fe e (fun z=>nomatch z) h
 |bl y=>cases (show u=Ip y from rx);exact Dc PySem.W.kitx_bool I.kIn Fe e (fun z=>nomatch z) h
 |int i=>obtain⟨t,q⟩:=(show ∃t,u=EU i t from rx);cases q;exact Dc PySem.W.kitx_int I.kIn Fe e (fun z=>nomatch z) h
 |str y=>obtain⟨t,q⟩:=(show ∃t,u=J5 y t from rx);cases q;exact Dc PySem.W.kitx_str I.kIn Fe e (fun z=>nomatch z) h
 |flt y=>obtain⟨t,q⟩:=(show ∃t,u=KN y t from rx);cases q;exact Dc PySem.W.kitx_float I.kIn Fe e (fun z=>nomatch z) h
 | @lst a xs ea=>
  cases (show u=CN a from rx);obtain⟨_,_,n,_,h1⟩:=(show ObjOk X.prog X.w H s.heap a (.lst xs)from I.hok a _ ea)
  exact Dc II I.kIn ⟨_,h1,rfl⟩ e (fun z=>nomatch z) h
 | @frz a ob xs ea=>
  cases (show u=CN a from rx);obtain⟨_,_,_,n,_,h1⟩:=(show ObjOk X.prog X.w H s.heap a (.frz ob<|.lst xs)from I.hok a _ ea)
  exact Dc II I.kIn ⟨_,h1,rfl⟩ e (fun z=>nomatch z) h
 | @tup a xs ea=>
  cases (show u=CN a from rx);obtain⟨_,_,p,_⟩:=I.tuple ea;obtain⟨o,h1,h2,_⟩:=p;exact Dc PySem.W.kitx_tuple I.kIn ⟨o,h1,h2⟩ e (fun z=>nomatch z) h
 | @dK a kvs ea=>
  cases (show u=CN a from rx);obtain⟨_,_,vs,_,p⟩:=(show ObjOk X.prog X.w H s.heap a (.dK kvs)from I.hok a _ ea)
  obtain⟨o,es,ep,h1,h2,_⟩:=p;exact Dc IJ I.kIn ⟨o,h1,h2.1⟩ e (fun z=>nomatch z) h
 | @dT a kvs ea=>
  cases (show u=CN a from rx);obtain⟨_,_,xs,_,o,es,ep,h1,h2,_⟩:=(show ObjOk X.prog X.w H s.heap a (.dT kvs)from I.hok a _ ea)
  exact Dc IJ I.kIn ⟨o,h1,h2.1⟩ e (fun z=>nomatch z) h
 | @ins a C dx fs ea cl ha hn htk hm=>
  cases (show u=CN a from rx);obtain⟨mA,O,_⟩:=uZ I.hok ea;obtain⟨od,J,_⟩:=O.look;exact Dc (PySem.W.kitx_own (cl.get _) cl.hd ha hn htk hm) I.kIn J e (fun z=>nomatch z) h
end
structure Room(k:Nat)(A:Cj):Prop where
 hd:A.handled=none
 dp:A.depth+3*k+5<recursionLimit
 un:A.units+16*k+200<cLine
theorem Room.mono{j k:Nat}{A:Cj}(r:Room k A)(h:j<=k):Room j A:=⟨r.hd,by have:=r.dp;omega,by have:=r.un;omega⟩
theorem Room.deeper{k:Nat}{A:Cj}(r:Room (k+1) A)(env:Env):Room k (A.deeper env):=
 ⟨r.hd,by have:=r.dp;show A.depth+1+3*k+5<_;omega,by have:=r.un;show A.units+3+16*k+200<_;omega⟩
theorem Room.depth{k:Nat}{A:Cj}(r:Room k A):A.depth<recursionLimit:=by have:=r.dp;omega
theorem Room.units0{k:Nat}{A:Cj}(r:Room k A):A.units<cLine:=by have:=r.un;omega
def aS:TA:=fun _ H Q=>Q [] H
def ak(ta:TE)(tr:TA):TA:=fun σ H Q=>ta σ H fun x H1=>tr σ H1 fun xs H2=>Q (x::xs) H2
section
variable{X:Cx}{e:Expr}{es:List Expr}{te:TE}{t:TA}{pos:Pos}
theorem ae:PA X [] aS:=fun _ _ _ _ H Q I h=>Calls.spliced_nil ⟨[],H,I,.nil,h⟩
theorem a5(ha:PE X e te)(hr:PA X es t)(hs:starEach (e::es) X.env=(false,eval e X.env)::starEach es X.env:=by rfl):PA X (e::es) (ak te t):=by
 intro pos pins s σ H Q I h;rw[hs];show wpAny _ _ (spliced ((false,eval e X.env)::backTo pos (starEach es X.env))) _ _ s;refine Calls.spliced_cons<|cT (ha pins s σ H _ I h) fun u s1 zz=>?_;obtain⟨x,H1,I1,r1,q1⟩:=zz;refine cT (hr pos pins s1 σ H1 _ I1 q1) fun us s2 zz=>?_;obtain⟨xs,H2,I2,r2,q2⟩:=zz;exact⟨x::xs,H2,I2,.cons r1 r2,q2⟩
def cy(t:TA):TE:=fun σ H Q=>t σ H fun xs H1=>xs.length<=sizeLine/\∀p,H1 p=none->Q (.ref p) (cU H1 p<|.tup xs)
def cj(t:TA):TE:=fun σ H Q=>t σ H fun xs H1=>xs.length<=sizeLine/\∀p,H1 p=none->Q (.ref p) (cU H1 p<|.lst xs)
theorem bW{x1}(h:PA X es t):PE X (.Tuple es x1 pos) (cy t):=by
 intro pins s σ H Q I hq;refine wpAny_Tuple_spliced (cT (h pos pins s σ H _ I hq) fun us s1⟨xs,H1,I1,r,z,q⟩=>⟨by rw[<-r.length];exact z,?_⟩);have hf:H1 s1.heap.objs.size=none:=I1.hok.fresh<|Bt _;refine⟨.ref s1.heap.objs.size,cU H1 s1.heap.objs.size<|.tup xs,I1.laid (t':=s1.toks) (fun b u e=>Bm _ e) (Bt _) ?_,rfl,q _ hf⟩;exact⟨z,us,r,⟨_,By _ rfl,⟨rfl,rfl⟩,_,rfl⟩⟩
theorem cb(h:PA X es t):PE X (.List es pos) (cj t):=by
 intro pins s σ H Q I hq;refine wpAny_List_spliced (cT (h pos pins s σ H _ I hq) fun us s1⟨xs,H1,I1,r,z,q⟩=>⟨by rw[<-r.length];exact z,?_⟩);have hf:H1 s1.heap.objs.size=none:=I1.hok.fresh<|Bt _;refine⟨.ref s1.heap.objs.size,cU H1 s1.heap.objs.size<|.lst xs,I1.laid (t':=s1.toks) (fun b u e=>Bm _ e) (Bt _) ?_,rfl,q _ hf⟩;exact⟨z,us,0,r,By _ rfl⟩
end
abbrev Sp:=List V->Hp->VK->XK->Prop
abbrev CXT:=List Env->Hp->Bs->XK->Bq->Bs->Prop
structure Env0(P:BK)(w:C2)(K:Bo)(mg:Str->Option Bq)(base:Heap)(A:Cj)(outer:List Env)(s:Bs)(H:Hp):Prop where
 frames:A.frames=some outer
 mod:Mod K mg base
 bs:∀b o,base.get? b=some o->s.heap.get? b=some o/\H b=none
 bsz:base.objs.size<=s.heap.objs.size
 funs:s.heap.FunFrames base outer
 frf:∀b∈frs outer,H b=none
 hok:HOk P w H s.heap
 bare:GH s.gens
def CE(outer:List Env)(P:BK)(w:C2)(H:Hp)(s:Bs)(Q:VK)(u:Bq)(s':Bs):Prop:=
 ∃v H',s'.os=s.os/\GH s'.gens/\Un (frs outer) [] H H' s.heap s'.heap/\HOk P w H' s'.heap/\RelV v u/\Q v H'
def CR(CX:CXT)(outer:List Env)(P:BK)(w:C2)(H:Hp)(s:Bs)(Q:VK)(E:XK)(r:Lb)(s':Bs):Prop:=
 match r with
 | .ok (.ret u)=>CE outer P w H s Q u s'
 | .ok _=>False
 | .error e=>CX outer H s E e s'
structure FnOk(P:BK)(w:C2)(K:Bo)(mg:Str->Option Bq)(base:Heap)(CX:CXT)(k:Nat)(f:Addr)(fd:C4)(ps:List Str)(sp:Sp):Prop where
 len:∀vs H Q E,sp vs H Q E->vs.length=ps.length
 run:∀(A:Cj)(outer:List Env)(s:Bs)(H:Hp)(args:Args)(us:List Bq)(vs:List V)(Q:VK)(E:XK),Room k A->Env0 P w K mg base A outer s H->IK s fd args (ps.zip us)->Vals vs us->sp vs H Q E->
  codeAny (model P w) A (.call (.ref f) args) (CR CX outer P w H s Q E) s
theorem FnOk.imp{P:BK}{w:C2}{K:Bo}{mg:Str->Option Bq}{base:Heap}{CX:CXT}{k:Nat}{f:Addr}{fd:C4}{ps:List Str}{sp sp':Sp}(F:FnOk P w K mg base CX k f fd ps sp)
  (h:∀vs H Q E,sp' vs H Q E->sp vs H Q E):FnOk P w K mg base CX k f fd ps sp':=
 ⟨fun vs H Q E q=>F.len vs H Q E<|h _ _ _ _ q,fun A outer s H args us vs Q E hr he hb hv hs=>F.run A outer s H args us vs Q E hr he hb hv<|h _ _ _ _ hs⟩
section
variable{X:Cx}{pins:List (Addr×Obj)}{σ:St}{H:Hp}{s s':Bs}
theorem Inv.env0(I:Inv X pins σ H s):Env0 X.prog X.w X.K X.mg X.base X.A X.stack s H:=
 ⟨I.ok.frames,I.ok.mod,I.bs,Dw I.ok.bsz I.sz,I.stack,I.stkFree,I.hok,I.bare⟩
theorem Inv.after{Q:VK}{u:Bq}(I:Inv X pins σ H s)(h:CE X.stack X.prog X.w H s Q u s'):EP X pins σ Q u s':=by
 obtain⟨v,H',os,bare,un,hok,r,q⟩:=h;obtain⟨hh,g,d,t,os'⟩:=s';obtain rfl:os'=s.os:=os;exact⟨v,H',I.call (h':=hh) (g':=g) (d':=d) (t':=t) (ch:=[]) un hok bare (fun b z=>absurd z (by simp)),r,q⟩
end
def aV(sp:Sp)(dvs:List V)(E:XK)(t:TA):TE:=fun σ H Q=>t σ H fun vs H1=>sp (vs++dvs) H1 Q E
def Binds(K:Bo)(fd:C4)(ps:List Str)(ds:List Bq):Prop:=
 ∀(s:Bs)(us:List Bq),K.In s.heap->(us++ds).length=ps.length->IK s fd ⟨us,[]⟩ (ps.zip<|us++ds)
theorem Binds.all{K:Bo}{fd:C4}{ps:List Str}(h:∀us:List Bq,us.length=ps.length->bindArgs fd ⟨us,[]⟩=pure (ps.zip us)):Binds K fd ps []:=fun s us _ hl=>by
 rw[Dd]at hl ⊢;exact .of_eq<|h us hl
def nU(CX:CXT)(X:Cx)(E:XK):Prop:=∀(pins:List (Addr×Obj))(σ:St)(H:Hp)(s:Bs)(e:Bq)(s':Bs),Inv X pins σ H s->CX X.stack H s E e s'->X.xe e s'
section
variable{X:Cx}{CX:CXT}{k:Nat}{f C:Addr}{fd:C4}{ps:List Str}{sp:Sp}{dvs:List V}{ds:List Bq}{E:XK}{x m:Str}{p pos apos:Pos}{e o:Expr}{es:List Expr}{ta:TE}{t:TA}
theorem xo{pins:List (Addr×Obj)}{σ:St}{H:Hp}{s:Bs}{Q:VK}{us:List Bq}{vs:List V}(F:FnOk X.prog X.w X.K X.mg X.base CX k f fd ps sp)(hr:Room k X.A)(hb:Binds X.K fd ps ds)(hd:Vals dvs ds)(hx:nU CX X E)
  (I:Inv X pins σ H s) (r:Vals vs us) (h:sp (vs++dvs) H Q E):wpAny (model X.prog X.w) X.A (call (.ref f) us) (EP X pins σ Q) X.xe s:=by
 have r2:Vals (vs++dvs) (us++ds):=r.append hd;have hl:(us++ds).length=ps.length:=by rw[<-r2.length];exact F.len _ _ _ _ h
 refine wpAny_call<|Gn (F.run X.A X.stack s H ⟨us,[]⟩ (us++ds) (vs++dvs) Q E hr I.env0 (hb s us I.kIn hl) r2 h) fun r s' hq=>?_;cases r with
 |error e=>exact hx pins σ H s e s' I hq
 |ok fl=>
  cases fl with
  |ret u=>exact I.after hq
  |next=>exact Ex hq
  |brk=>exact Ex hq
  |cont=>exact Ex hq
theorem va(F:FnOk X.prog X.w X.K X.mg X.base CX k f fd ps sp)(hr:Room k X.A)(hg:Gl X x)(hm:X.mg x=some (.ref f))(hk:Ek X.K (.ref f)=true)(hb:Binds X.K fd ps ds)(hd:Vals dvs ds)(hx:nU CX X E)
  (ha:PA X (e::es) t) (hdb:(x==("__debug__" :Str))=false:=by decide) (he:starEach (e::es) X.env=(false,eval e X.env)::starEach es X.env:=by rfl) (hpl:(backTo pos<|starEach es X.env).any (·.1)=false:=by rfl):
  PE X (.Call (.Name x p) (e::es) [] pos) (aV sp dvs E t):=by
 intro pins s σ H Q I h;refine Gs<|oM I hg hm ?_ hdb;refine PySem.W.callWith_K (h₀:=X.base) I.ok.mod.kin hk (cT (ha pos pins s σ H _ I h) fun us s1⟨vs,H1,I1,r,q⟩=>⟨I1.kIn,?_⟩) he hpl;exact xo F hr hb hd hx I1 r q
end
structure FnScope(N P:List Str)(sc:Fj):Prop where
 kind:sc.kind=.function
 co:sc.isCoroutine=false
 gen:sc.isGenerator=false
 nd:N.Nodup
 pre:N.take P.length=P
 par:∀x∈P,sc.names.lookup x=some .local\/sc.names.lookup x=some .cell
 nofree:∀y∈sc.names,y.2≠.free
theorem kG{kindOf:Str->Option El}{x:Str}:∀{binds:List (Str×Bq)}{m:Str->Option Bq},(∀v,(x,v)∉binds)->bindL kindOf binds m x=m x
 | [],_,_=>rfl
 |(n,v)::r,m,h=>by
  unfold bindL;rw[kG fun w hw=>h w<|BP _ hw];split
  ·have:x≠n:=by rintro rfl;exact h v BR
   simp[this]
  ·rfl
theorem kH{kindOf:Str->Option El}{x:Str}:∀{binds:List (Str×Bq)}{m:Str->Option Bq},(∀v,(x,v)∉binds)->bindC kindOf binds m x=m x
 | [],_,_=>rfl
 |(n,v)::r,m,h=>by
  unfold bindC;rw[kH fun w hw=>h w<|BP _ hw];split;·rfl
  ·have:x≠n:=by rintro rfl;exact h v BR
   simp[this]
theorem kI{kindOf:Str->Option El}{x:Str}{v:Bq}:∀{P:List Str}{vs:List Bq}{i:Nat}{m:Str->Option Bq},P.Nodup->P[i]? =some x->vs[i]? =some v->kindOf x=some .local->
  bindL kindOf (P.zip vs) m x=some v
 | [],_,_,_,_,h,_,_=>by simp at h
 |_::_,[],_,_,_,_,h,_=>by simp at h
 |p::P,w::vs,0,m,nd,h1,h2,hk=>by
  simp at h1 h2;subst h1;subst h2;show bindL kindOf ((p,w)::P.zip vs) m p=_;unfold bindL;rw[kG fun v hv=>(DV.mp nd).1 (E7 hv).1,if_pos hk];simp
 |p::P,w::vs,i+1,m,nd,h1,h2,hk=>by
  show bindL kindOf ((p,w)::P.zip vs) m x=_;unfold bindL;exact kI (i:=i) (DV.mp nd).2 (by simpa using h1) (by simpa using h2) hk
theorem kJ{kindOf:Str->Option El}{x:Str}{v:Bq}:∀{P:List Str}{vs:List Bq}{i:Nat}{m:Str->Option Bq},P.Nodup->P[i]? =some x->vs[i]? =some v->kindOf x≠some .local->
  bindC kindOf (P.zip vs) m x=some v
 | [],_,_,_,_,h,_,_=>by simp at h
 |_::_,[],_,_,_,_,h,_=>by simp at h
 |p::P,w::vs,0,m,nd,h1,h2,hk=>by
  simp at h1 h2;subst h1;subst h2;show bindC kindOf ((p,w)::P.zip vs) m p=_;unfold bindC;rw[kH fun v hv=>(DV.mp nd).1 (E7 hv).1,if_neg hk];simp
 |p::P,w::vs,i+1,m,nd,h1,h2,hk=>by
  show bindC kindOf ((p,w)::P.zip vs) m x=_;unfold bindC;exact kJ (i:=i) (DV.mp nd).2 (by simpa using h1) (by simpa using h2) hk
def start(N:List Str)(vs:List V):St:=vs.map some++DN (N.length-vs.length) none
def ql(CX:CXT)(P:BK)(w:C2)(K:Bo)(mg:Str->Option Bq)(base:Heap)(N:List Str)(qual:Str)(scope:Fj)(f:Addr)(cd:Bq)(A:Cj)(outer:List Env)(s:Bs)(H:Hp)(E:XK):Cx where
 prog:=P
 w:=w
 K:=K
 mg:=mg
 base:=base
 A:=A.deeper<|envOfC qual scope s.heap.objs.size f cd
 N:=N
 s₀:=s
 H₀:=H
 env:=envOfC qual scope s.heap.objs.size f cd
 outer:=outer
 stack:=envOfC qual scope s.heap.objs.size f cd::outer
 ex:=[]
 calm:=true
 fn:=fun _=>true
 pn:=[]
 xe:=fun e s'=>wpAny (model P w) (A.deeper<|envOfC qual scope s.heap.objs.size f cd) (leaving (envOfC qual scope s.heap.objs.size f cd) e) (fun _ s''=>CX outer H s E e s'') (fun e' s''=>CX outer H s E e' s'') s'
theorem mz{sc:Fj}{n:Nat}{x:Str}(h:sc.names.lookup x=some .cell):∃c,(cellsFrom n sc.names []).lookup x=some c:=by
 have q:=Fu sc.names n []<|.inl h;exact GR.mp q
theorem qm{CX:CXT}{P:BK}{w:C2}{K:Bo}{mg:Str->Option Bq}{base:Heap}{N ps:List Str}{qual:Str}{scope:Fj}{f:Addr}{cd:Bq}{A:Cj}{outer:List Env}{s s1:Bs}{H:Hp}{E:XK}{us:List Bq}{vs:List V}
  (S:FnScope N ps scope) (hd:A.handled=none) (e0:Env0 P w K mg base A outer s H) (hl:vs.length=ps.length) (r:Vals vs us)
  (x:InCallC s s.heap.objs.size (bindL (envOfC qual scope s.heap.objs.size f cd).kindOf (ps.zip us) fun _=>none) (cellsFrom (s.heap.objs.size+1) scope.names []) (bindC (envOfC qual scope s.heap.objs.size f cd).kindOf (ps.zip us) fun _=>none) s1):
  Inv (ql CX P w K mg base N qual scope f cd A outer s H E) [] (start N vs) H s1:=by
 have hpl:ps.length<=N.length:=by have:=congrArg EK S.pre;rw[DZ]at this;omega
 obtain⟨h1,tk,rfl,hk⟩:=x.done;have noA:∀b:Addr,b∉(ql CX P w K mg base N qual scope f cd A outer s H E).ex:=fun b z=>absurd (show b∈([]:List Addr)from z) (by simp);refine⟨⟨e0.mod,S.kind,rfl,rfl,Bt _,fun y z c h1 h2=>?_,fun y hy=>?_,fun y c _ h=>?_,fun _=>hd,Around.frames_deeper e0.frames,.inr ⟨rfl,rfl⟩,fun b z=>absurd z<|noA b,e0.bs,e0.bsz,fun b _ _=>noA b,fun b z=>absurd z<|noA b,e0.funs,e0.frf⟩,
  rfl,e0.bare,Un.kept hk,⟨_,x.toInCall.ns,fun i y v h1 h2 h3=>?_⟩,fun y c h=>⟨_,x.cell y c h⟩,e0.hok.fresh (Bt _),fun y c h=>?_,fun p hp=>absurd (show p∈([]:List (Addr×Obj))from hp) (by simp),e0.hok.kept hk,?_⟩
 ·exact name_of_addr x.apart (Dg h1)<|Dg h2
 ·have hy:scope.names.lookup y=some .cell\/scope.names.lookup y=some .free:=hy;rcases hy with hy|hy
  ·exact mz hy
  ·exact absurd rfl<|S.nofree _<|Dg hy
 ·exact EW<|x.above y c<|Dg h
 ·have hi:i<vs.length:=by
   unfold start at h2;by_cases hi:i<vs.length;·exact hi
   ·rw[BI (by simpa using hi)]at h2;rw[List.getElem?_replicate]at h2;split at h2<;>cases h2
  have ha:vs[i]? =some v:=by
   unfold start at h2;rw[BL (by simpa using hi),Bz]at h2;cases e:vs[i]? with
   |none=>rw[e]at h2;cases h2
   |some a=>rw[e]at h2;cases h2;rfl
  obtain⟨u,hu,rv⟩:=r.get ha;have hp:ps[i]? =some y:=by
   rw[<-S.pre,Ca (by omega)];exact h1
  have ndP:ps.Nodup:=by rw[<-S.pre];exact S.nd.sublist<|List.take_sublist _ _
  refine⟨u,rv,?_⟩;rcases S.par y (BJ hp)with k|k
  ·exact .inl ⟨k,kI ndP hp hu k⟩
  ·obtain⟨c,e⟩:=mz (n:=s.heap.objs.size+1) k;refine .inr ⟨.inl k,c,e,?_⟩;have q:=x.cell y c e;rw[kJ ndP hp hu (by show scope.names.lookup y≠_;rw[k];decide)]at q;exact q
 ·exact e0.hok.fresh<|EW<|x.above y c<|Dg h
 ·unfold start;show _=N.length;rw[CP,BS,List.length_replicate];omega
theorem yB{CX:CXT}{P:BK}{w:C2}{K:Bo}{mg:Str->Option Bq}{base:Heap}{k:Nat}{f:Addr}{name qual:Str}{params:Arguments}{body:List Stmt}{scope:Fj}{dV kV doc pm cdv ct oc:Bq}{an od:Option Addr}
  {osl:Array (Option Bq)} {N ps:List Str} {sp:Sp} (lk:K.lookup f=some ⟨oc,od,.func<|DK name qual params body scope dV kV doc pm an cdv ct,osl⟩) (hcd:EL K cdv qual=true) (S:FnScope N ps scope)
  (len:∀vs H Q E,sp vs H Q E->vs.length=ps.length)
  (hbody:∀(A:Cj) (outer:List Env) (s:Bs) (H:Hp) (vs:List V) (Q:VK) (E:XK),Room k (A.deeper<|envOfC qual scope s.heap.objs.size f cdv)->sp vs H Q E->
   ∃t,PSs (ql CX P w K mg base N qual scope f cdv A outer s H E) body t/\t {nx:=fun _ H'=>Q .non H',rt:=Q} (start N vs) H):
  FnOk P w K mg base CX (k+1) f (DK name qual params body scope dV kV doc pm an cdv ct) ps sp:=by
 refine⟨len,fun A outer s H args us vs Q E hr e0 hb r hsp=>?_⟩;have hl:=len _ _ _ _ hsp;have KX:K.In s.heap:=e0.mod.kin.keeps fun b o e=>(e0.bs b o e).1;have lim:s.heap.NoLimit:=e0.mod.nolimit.keeps fun b o e=>(e0.bs b o e).1;have hkind:∀y∈ps.zip us,scope.names.lookup y.1=some .local\/(scope.names.lookup y.1=some .cell/\((cellsFrom (s.heap.objs.size+1) scope.names []).lookup y.1).isSome=true):=fun⟨n,v⟩hy=>by
  rcases S.par n (E7 hy).1 with q|q;·exact .inl q
  ·exact .inr ⟨q,Fu _ _ _<|.inl q⟩
 refine codeAny_call_function hr.depth (KX _ _ lk) rfl S.co S.gen rfl (PySem.W.codeRec_of KX hcd)<|hb _ _ _ _ ?_;refine wpAny_newFunctionEnv_cells S.kind hkind fun env he s1 x=>?_;subst he;refine⟨lim.keeps x.toInCall.keep,codeAny_func ?_⟩;obtain⟨t,ht,hq⟩:=hbody A outer s H vs Q E (hr.deeper _) hsp;have I:Inv (ql CX P w K mg base N qual scope f cdv A outer s H E) [] (start N vs) H s1:=qm S hr.hd e0 hl r x;refine Dx (ht [] s1 (start N vs) H _ I hq) (fun fl s' hs=>?_) fun e s' hs=>hs;have fin:∀{σ':St}{H':Hp}{v:V}{u:Bq},Inv (ql CX P w K mg base N qual scope f cdv A outer s H E) [] σ' H' s'->RelV v u->Q v H'->CE outer P w H s Q u s':=
  fun{σ' H' v u}J rv q=>⟨v,H',J.os,J.bare,J.base,J.hok,rv,q⟩
 cases fl with
 |ret u=>
  obtain⟨v,σ',H',J,rv,q⟩:=hs;exact fin J rv q
 |next=>
  obtain⟨σ',H',J,q⟩:=hs;exact fin (v:=V.non) (u:=CM) J rfl q
 |brk=>
  obtain⟨_,_,_,q⟩:=hs;exact Ex q
 |cont=>
  obtain⟨_,_,_,q⟩:=hs;exact Ex q
section
variable{X:Cx}{x:Str}{p pos:Pos}{e:Expr}{es:List Expr}{t:TA}{id T:String}{r:List V->Hp->VK->Prop}
def dX(r:List V->Hp->VK->Prop)(t:TA):TE:=fun σ H Q=>t σ H fun vs H1=>r vs H1 Q
theorem ao(hc:dt X (.builtin id) r)(hg:Gl X x)(hm:X.mg x=none)(hv:bootBuiltins x=some (.builtin id))(ha:PA X (e::es) t)(hn:x≠"__name__":=by decide)(hdb:(x==("__debug__" :Str))=false:=by decide)
  (he:starEach (e::es) X.env=(false,eval e X.env)::starEach es X.env:=by rfl) (hpl:(backTo pos<|starEach es X.env).any (·.1)=false:=by rfl):PE X (.Call (.Name x p) (e::es) [] pos) (dX r t):=by
 intro pins s σ H Q I h;refine Gs<|gO I hg hm hv ?_ hn hdb;exact J8 (cT (ha pos pins s σ H _ I h) fun us s1⟨vs,H1,I1,r1,q1⟩=>hc pins s1 σ H1 vs us Q I1 r1 q1) he hpl
theorem cC(hc:dt X (.type T) r)(hg:Gl X x)(hm:X.mg x=none)(hv:bootBuiltins x=some (.type T))(ha:PA X (e::es) t)(hn:x≠"__name__":=by decide)(hdb:(x==("__debug__" :Str))=false:=by decide)
  (he:starEach (e::es) X.env=(false,eval e X.env)::starEach es X.env:=by rfl) (hpl:(backTo pos<|starEach es X.env).any (·.1)=false:=by rfl):PE X (.Call (.Name x p) (e::es) [] pos) (dX r t):=by
 intro pins s σ H Q I h;refine Gs<|gO I hg hm hv ?_ hn hdb;exact Dt (cT (ha pos pins s σ H _ I h) fun us s1⟨vs,H1,I1,r1,q1⟩=>hc pins s1 σ H1 vs us Q I1 r1 q1) he hpl
end
end L2
open L2.FnScope renaming nd->Lj
open L2.PW renaming pt->FK
open L2.SqL renaming of->DB
open L2.SqT renaming of->JU
open L2.V renaming int->ET,str->G5,bl->Lq
namespace HT
open PySem PyProof.Rows
section
open PySem.SeqAt
open PySem.AutoSeq1 (wpAny_loadPart')
open PySem.MeetsSeq PySem.MeetsSeq2 PySem.MeetsSeq3
end
section
variable{prog:BK}{w:C2}{A:Cj}{E:Bq->Bs->Prop}{s:Bs}
def sIx(n d:Nat):Option Int->Nat
 |none=>d
 |some v=>if v<0 then(v+(n:Int)).toNat else min v.toNat n
theorem sIx_le(n d:Nat)(hd:d<=n)(o:Option Int):sIx n d o<=n:=by
 cases o with
 |none=>exact hd
 |some v=>
  show(if v<0 then(v+(n:Int)).toNat else min v.toNat n)<=n;by_cases hv:v<0;·rw[if_pos hv];omega
  ·rw[if_neg hv];exact Nat.min_le_right _ _
end
end HT
namespace L2
open PySem PySem.Spec PyProof.Rows
abbrev TO:=St->Hp->(Option Int->Hp->Prop)->Prop
def PO(X:Cx)(e:Option Expr)(t:TO):Prop:=
 ∀(pins:List (Addr×Obj))(s:Bs)(σ:St)(H:Hp)(Q:Option Int->Hp->Prop),Inv X pins σ H s->t σ H Q->
  wpAny (model X.prog X.w) X.A (evalPart e X.env) (fun u s'=>∃o H',Inv X pins σ H' s'/\IsPart u o/\Q o H') X.xe s
def aK:TO:=fun _ H Q=>Q none H
def bw(t:TE):TO:=fun σ H Q=>t σ H fun x H1=>∃i,x=.int i/\Q (some i) H1
theorem nV{ns:List Int}:∀{us:List Bq},Vals (ns.map ET) us->IL us ns:=by
 induction ns with
 |nil=>intro us r;rw[Fv]at r;cases r;exact .nil
 |cons n ns ih=>
  intro us r;rw[CO]at r;cases r with
  |cons r1 r2=>
   obtain⟨t,e⟩:=r1;subst e;exact .cons n t<|ih r2
section
variable{X:Cx}{e:Expr}{te:TE}{lo hi:Option Expr}{tl th:TO}{pos p2:Pos}
theorem gv:PO X none aK:=by
 intro pins s σ H Q I h;rw[Ib];exact Br ⟨none,H,I,.none,h⟩
theorem fC(h:PE X e te):PO X (some e) (bw te):=by
 intro pins s σ H Q I hw;rw[evalPart_some];refine cT (h pins s σ H _ I hw) fun u s1 zz=>?_;obtain⟨x,H1,I1,r1,q1⟩:=zz;obtain⟨i,rfl,q⟩:=q1;obtain⟨t,rfl⟩:=r1;exact⟨some i,H1,I1,.int i t,q⟩
def zC(X:Cx)(r:V->Option Int->Option Int->Hp->VK->Prop):Prop:=
 ∀(pins:List (Addr×Obj))(s:Bs)(σ:St)(H:Hp)(x:V)(v vl vu:Bq)(lo hi:Option Int)(sl:Addr)(Q:VK),Inv X pins σ H s->RelV x v->s.heap.IsSliceOf sl vl vu .none->IsPart vl lo->IsPart vu hi->r x lo hi H Q->
  ∃T id,typeLookup (.type T) "__getitem__"=pure (some<|.builtin id)/\s.TypeIs v T/\wpAny (model X.prog X.w) X.A (getItem v<|.ref sl) (EP X pins σ Q) X.xe s
def fD(r:V->Option Int->Option Int->Hp->VK->Prop)(te:TE)(tl th:TO):TE:=fun σ H Q=>te σ H fun x H1=>tl σ H1 fun l H2=>th σ H2 fun u H3=>r x l u H3 Q
theorem fj{r:V->Option Int->Option Int->Hp->VK->Prop}(hr:zC X r)(he:PE X e te)(hl:PO X lo tl)(hu:PO X hi th):PE X (.Subscript e (.Slice lo hi none p2) pos) (fD r te tl th):=by
 intro pins s σ H Q I h;refine Iq<|cT (he pins s σ H _ I h) fun v s1 zz=>?_;obtain⟨x,H1,I1,r1,q1⟩:=zz;refine wpAny_Slice<|cT (hl pins s1 σ H1 _ I1 q1) fun vl s2 zz=>?_;obtain⟨l,H2,I2,pl,q2⟩:=zz;refine cT (hu pins s2 σ H2 _ I2 q2) fun vu s3 zz=>?_;obtain⟨u,H3,I3,pu,q3⟩:=zz;rw[Ib];refine Br ?_;have I4:Inv X pins σ H3 {s3 with heap:=s3.heap.push {cls:=.type "slice",data:=.fields #[vl,vu,.none]}}:=I3.kept (t':=s3.toks) fun b ob q=>Bm _ q;obtain⟨T,id,hT,ht,hg⟩:=hr pins {s3 with heap:=s3.heap.push {cls:=.type "slice",data:=.fields #[vl,vu,.none]}} σ H3 x v vl vu l u s3.heap.objs.size Q I4 r1 (Ir ..) pl pu q3;show wpAny (model X.prog X.w) X.A (subscriptTail e (.Slice lo hi none p2) v<|.ref s3.heap.objs.size) (EP X pins σ Q) X.xe {s3 with heap:=s3.heap.push {cls:=.type "slice",data:=.fields #[vl,vu,.none]}};exact KO (ops:=[.ref s3.heap.objs.size,v]) ht hT hg (by with_unfolding_all rfl)
def nW(xs:List V)(lo hi:Option Int):List V:=(xs.drop<|HT.sIx xs.length 0 lo).take (HT.sIx xs.length xs.length hi-HT.sIx xs.length 0 lo)
theorem mC(xs:List V)(lo hi:Option Int):(nW xs lo hi).length<=xs.length:=by
 unfold nW;rw[DZ,FO];omega
end
def ixN(n:Nat)(i:Int):Option Nat:=if 0<=i then(if i<n then some i.toNat else none)else if -(n:Int)<=i then some (i+n).toNat else none
def atI{α:Type}(xs:List α)(i:Int):Option α:=(ixN xs.length i).bind fun j=>xs[j]?
theorem ixN_seq{n:Nat}{i:Int}{j:Nat}(h:ixN n i=some j):seqIndex? i n=some j/\j<n/\ -(n:Int)<=i/\i<n:=by
 unfold ixN at h;by_cases h0:0<=i
 ·rw[if_pos h0]at h;by_cases h1:i<n
  ·rw[if_pos h1]at h;have e:i.toNat=j:=C9 h;exact⟨by rw[Jk h0 h1,e],by omega,by omega,h1⟩
  ·rw[if_neg h1]at h;cases h
 ·rw[if_neg h0]at h;by_cases h1: -(n:Int)<=i
  ·rw[if_pos h1]at h;have e:(i+n).toNat=j:=C9 h;exact⟨by rw[IM (by omega) h1,e],by omega,h1,by omega⟩
  ·rw[if_neg h1]at h;cases h
theorem lq{α:Type}{xs:List α}{i:Int}{v:α}(h:atI xs i=some v):∃j,seqIndex? i xs.length=some j/\xs[j]? =some v/\j<xs.length/\ -(xs.length:Int)<=i/\i<xs.length:=by
 unfold atI at h;cases e:ixN xs.length i with
 |none=>rw[e]at h;cases h
 |some j=>
  rw[e]at h;obtain⟨h1,h2,h3,h4⟩:=ixN_seq e;exact⟨j,h1,h,h2,h3,h4⟩
def vb(b:Expr):Prop:=∀o i,subscripted b false o i=operate [o,i] (getItem o i)
def yj(X:Cx)(r:R2):Prop:=
 ∀(value slice:Expr)(pins:List (Addr×Obj))(s:Bs)(σ:St)(H:Hp)(x y:V)(v u:Bq)(Q:VK),Inv X pins σ H s->RelV x v->RelV y u->r x y H Q->
  subscripted slice false v u=operate [v,u] (getItem v u)->wpAny (model X.prog X.w) X.A (subscriptTail value slice v u) (EP X pins σ Q) X.xe s
def yC(X:Cx)(id:String)(r:V->List V->Hp->VK->Prop):Prop:=
 ∀(pins:List (Addr×Obj))(s:Bs)(σ:St)(H:Hp)(x:V)(xs:List V)(v:Bq)(us:List Bq)(Q:VK),Inv X pins σ H s->RelV x v->Vals xs us->r x xs H Q->
  wpAny (model X.prog X.w) X.A (call (.builtin id) (v::us)) (EP X pins σ Q) X.xe s
section
variable{X:Cx}{a b:Expr}{ta tb:TE}{pos:Pos}
theorem ar{r:R2}(hr:yj X r)(ha:PE X a ta)(hb:PE X b tb)(hs:vb b):PE X (.Subscript a b pos) (cX r ta tb):=by
 intro pins s σ H Q I h;exact Iq<|xn ha hb I h fun v u s2 x y H2 I2 rx ry q=>hr a b pins s2 σ H2 x y v u Q I2 rx ry q<|hs _ _
def cf(K:Bo):R2:=fun x y H Q=>∃p xs i v,x=.ref p/\y=.int i/\SqL K H p xs/\atI xs i=some v/\Q v H
def cz(K:Bo):R2:=fun x y H Q=>∃p xs i v,x=.ref p/\y=.int i/\SqT K H p xs/\atI xs i=some v/\Q v H
def cJ:R2:=fun x y H Q=>∃z i c,x=.str z/\y=.int i/\z.length<=sizeLine/\atI z.cps.toList i=some c/\Q (.str ⟨#[c]⟩) H
theorem vc:yj X (cf X.K):=by
 intro value slice pins s σ H x y v u Q I rx ry h hs;obtain⟨p,xs,i,z,rfl,rfl,hq,he,q⟩:=h;cases rx;obtain⟨t,rfl⟩:=ry;obtain⟨its,r,pl,hz⟩:=I.list hq;obtain⟨j,h1,h2,h3,h4,h5⟩:=lq he;obtain⟨w,ew,rw'⟩:=r.get h2;have hl:=r.length;have hn:=ji;have fin:EP X pins σ Q w s:=⟨z,H,I,rw',q⟩
 by_cases h0:0<=i
 ·have hj:i.toNat=j:=by
   rw[Jk h0 h5]at h1;exact C9 h1
  exact item_listR pl.isList h0 (by omega) (by rw[hj];simpa using ew) fin hs
 ·have hj:(i+(its.toArray.size:Int)).toNat=j:=by
   rw[IM (by omega) h4]at h1;rw[BA,<-hl];exact C9 h1
  exact Hi (x:=w) pl.isList.typeIs GI.lookup
   (wpAny_getItem_list_neg (Q:=fun r s'=>r=w/\EP X pins σ Q r s') pl.isList (by omega) (by rw[BA]<;>omega) (by omega) (by rw[hj];simpa using ew) ⟨rfl,fin⟩) hs
theorem xp:yj X (cz X.K):=by
 intro value slice pins s σ H x y v u Q I rx ry h hs;obtain⟨p,xs,i,z,rfl,rfl,hq,he,q⟩:=h;cases rx;obtain⟨t,rfl⟩:=ry;obtain⟨its,r,pl,hz⟩:=I.tuple hq;obtain⟨j,h1,h2,h3,h4,h5⟩:=lq he;obtain⟨w,ew,rw'⟩:=r.get h2;have hl:=r.length;have hn:=ji;have fin:EP X pins σ Q w s:=⟨z,H,I,rw',q⟩
 exact Hi (x:=w) pl.typeIs slot_tuple_getitem.lookup
  (getItem_tuple (j:=j) (Q:=fun r s'=>r=w/\EP X pins σ Q r s') pl (by omega) (by omega) (by rw[BA,<-hl];exact h1) (by simpa using ew) ⟨rfl,fin⟩) hs
theorem bN:yj X cJ:=by
 intro value slice pins s σ H x y v u Q I rx ry h hs;obtain⟨z,i,c,rfl,rfl,hz,he,q⟩:=h;obtain⟨t,rfl⟩:=rx;obtain⟨t',rfl⟩:=ry;obtain⟨j,h1,h2,h3,h4,h5⟩:=lq he;have hl:z.cps.toList.length=z.length:=by simp[Lc]
 rw[hl]at h1 h4 h5;have hn:=ji;exact KO (JF s z t) slot_str_getitem.lookup (getItem_str (c:=c) (by
  have e1:decide (i< -(2^63:Int))=false:=decide_eq_false (by omega);have e2:decide (i≥2^63)=false:=decide_eq_false (by omega);rw[e1,e2,Bool.or_false]) (by rw[h1];simpa using h2) ⟨.str ⟨#[c]⟩,H,I.tok _,⟨_,rfl⟩,q⟩) hs
theorem nX(its:List Bq)(n j:Nat)(u:Bq):DW (·.setIfInBounds j u) {cls:=.type "list",data:=.seq its.toArray n}={cls:=.type "list",data:=.seq (its.set j u).toArray n}:=by
 simp[DW]
theorem Inv.lst{pins:List (Addr×Obj)}{σ:St}{H:Hp}{s:Bs}{p:Addr}{xs:List V}(I:Inv X pins σ H s)(h:H p=some (.lst xs)):
  ∃(its:List Bq)(n:Nat),Vals xs its/\s.heap.get? p=some {cls:=.type "list",data:=.seq its.toArray n}/\xs.length<=sizeLine:=by
 obtain⟨z,its,n,r,e⟩:=I.hok p _ h;exact⟨its,n,r,e,z⟩
theorem Inv.lstUpd{pins:List (Addr×Obj)}{σ:St}{H:Hp}{s:Bs}{p:Addr}{xs ys:List V}{its its':List Bq}{n n':Nat}{f:Obj->Obj}(I:Inv X pins σ H s)(h:H p=some (.lst xs))
  (ho:s.heap.get? p=some {cls:=.type "list",data:=.seq its.toArray n}) (hf:f {cls:=.type "list",data:=.seq its.toArray n}={cls:=.type "list",data:=.seq its'.toArray n'}) (r:Vals ys its') (hz:ys.length<=sizeLine) (t:Nat):
  Inv X pins σ (cU H p<|.lst ys) {s with heap:=s.heap.update p f,toks:=t}:=by
 have e:(s.heap.update p f).get? p=some {cls:=.type "list",data:=.seq its'.toArray n'}:=by
  rw[E3 f ho (by rw[hf]<;>rfl),hf]
 refine I.write (x:=p) (e:=p) (by rw[h];trivial) (.inl rfl) (fun b u hb q=>(Fw _ _<|EF hb).trans q) ⟨_,e⟩ ?_;exact⟨hz,its',n',r,e⟩
def rV:V->V->V->Hp->(Hp->Prop)->Prop:=fun o i v H Q=>∃p xs k j,o=.ref p/\i=.int k/\H p=some (.lst xs)/\ixN xs.length k=some j/\Q (cU H p<|.lst<|xs.set j v)
theorem hV:yw X rV:=by
 intro pins s σ H o i v ov iv u Q I ro ri rv h;obtain⟨p,xs,k,j,rfl,rfl,hp,hj,q⟩:=h;cases ro;obtain⟨t,rfl⟩:=ri;obtain⟨its,n,r,ho,hz⟩:=I.lst hp;obtain⟨h1,h2,h3,h4⟩:=ixN_seq hj;have hl:=r.length;have hn:=ji;have I':Inv X pins σ (cU H p<|.lst<|xs.set j v) {s with heap:=s.heap.update p (DW (·.setIfInBounds j u))}:=
  I.lstUpd hp ho (nX its n j u) (r.set rv j) (by rw[DX];exact hz) s.toks
 by_cases h0:0<=k
 ·have hk:k.toNat=j:=by
   rw[Jk h0 h4]at h1;exact C9 h1
  exact PySem.W.ki_setAt ho h0 (by omega) (by rw[BA,<-hl];exact h4) (by rw[hk];exact⟨_,I',q⟩)
 ·have hk:(k+(its.toArray.size:Int)).toNat=j:=by
   rw[IM (by omega) h3]at h1;rw[BA,<-hl];exact C9 h1
  exact PySem.W.ki_setBack ho (by omega) (by rw[BA,<-hl];exact h3) (by omega) (by rw[hk];exact⟨_,I',q⟩)
theorem lu(lo hi:Option Int)(n:Nat):(sliceBounds lo hi none n).1=((HT.sIx n 0 lo:Nat):Int)/\(sliceBounds lo hi none n).2.1=((HT.sIx n n hi:Nat):Int)/\(sliceBounds lo hi none n).2.2=1:=by
 refine⟨?_,?_,rfl⟩
 ·cases lo with
  |none=>simp[sliceBounds,HT.sIx]
  |some i=>
   simp only[sliceBounds,HT.sIx,Ha,show(1:Int)>0 by decide,if_true];by_cases h:i<0;·simp only[h,if_true]<;>omega
   ·simp only[h,if_false]<;>omega
 ·cases hi with
  |none=>simp[sliceBounds,HT.sIx]
  |some i=>
   simp only[sliceBounds,HT.sIx,Ha,show(1:Int)>0 by decide,if_true];by_cases h:i<0;·simp only[h,if_true]<;>omega
   ·simp only[h,if_false]<;>omega
theorem k6(its:List Bq)(lo hi:Option Int):slicePick its.toArray lo hi none=((its.drop<|HT.sIx its.length 0 lo).take (HT.sIx its.length its.length hi-HT.sIx its.length 0 lo)).toArray:=by
 obtain⟨h1,h2,h3⟩:=lu lo hi its.toArray.size;unfold slicePick;rw[h1,h2,h3];simp only[HQ,pick_run,BA]<;>rfl
def cA(K:Bo):V->Option Int->Option Int->Hp->VK->Prop:=fun x lo hi H Q=>∃a xs,x=.ref a/\SqL K H a xs/\∀p,H p=none->Q (.ref p) (cU H p<|.lst<|nW xs lo hi)
theorem vd:zC X (cA X.K):=by
 intro pins s σ H x v vl vu lo hi sl Q I rx hs pl pu h;obtain⟨a,xs,rfl,hx,q⟩:=h;cases rx;obtain⟨its,r,ht,hz⟩:=I.list hx;have hlen:=r.length;refine⟨"list",_,GI.lookup,ht.isList.typeIs,?_⟩;refine GS ht.isList hs pl pu .none (by simp) ?_ (by rw[BA]<;>omega);rw[k6,<-hlen];refine⟨.ref s.heap.objs.size,_,I.laid (t':=s.toks) (o:=.lst<|nW xs lo hi) (fun b ob q=>Bm _ q) (Bt _) ?_,rfl,q _<|I.hok.fresh<|Bt _⟩;exact⟨Dw (mC xs lo hi) hz,_,0,(r.drop<|HT.sIx xs.length 0 lo).take (HT.sIx xs.length xs.length hi-HT.sIx xs.length 0 lo),By _ rfl⟩
def flatV:V->Bool
 | .non=>true
 | .bl _=>true
 | .int _=>true
 | .str _=>true
 |_=>false
def eqV:V->V->Bool
 | .non,.non=>true
 | .bl a,.bl b=>a==b
 | .bl a,.int b=>(if a then 1 else 0)==b
 | .int a,.bl b=>a==(if b then 1 else 0)
 | .int a,.int b=>a==b
 | .str a,.str b=>a==b
 |_,_=>false
theorem xq{A:Cj}{s:Bs}{y x:V}{u v:Bq}(ry:RelV y u)(rx:RelV x v)(fy:flatV y=true)(fx:flatV x=true):Iu A s u v (eqV y x):=by
 cases y with
 |non=>
  cases ry;cases x with
  |non=>cases rx;exact Jq _
  |bl b=>cases rx;exact KQ b
  |int b=>obtain⟨t,rfl⟩:=rx;exact L1 b t
  |str b=>obtain⟨t,rfl⟩:=rx;exact L3 b t
  |_=>exact absurd (show false=true from fx) BH
 |bl a=>
  cases ry;cases x with
  |non=>cases rx;exact KR a
  |bl b=>cases rx;exact KS a b
  |int b=>obtain⟨t,rfl⟩:=rx;exact L4 a b t
  |str b=>obtain⟨t,rfl⟩:=rx;exact L5 a b t
  |_=>exact absurd (show false=true from fx) BH
 |int a=>
  obtain⟨t',rfl⟩:=ry;cases x with
  |non=>cases rx;exact L6 a t'
  |bl b=>cases rx;exact L7 a t' b
  |int b=>obtain⟨t,rfl⟩:=rx;exact Gu a t' b t
  |str b=>obtain⟨t,rfl⟩:=rx;exact Im a t' b t
  |_=>exact absurd (show false=true from fx) BH
 |str a=>
  obtain⟨t',rfl⟩:=ry;cases x with
  |non=>cases rx;exact L8 a t'
  |bl b=>cases rx;exact L9 a t' b
  |int b=>obtain⟨t,rfl⟩:=rx;exact Io a t' b t
  |str b=>obtain⟨t,rfl⟩:=rx;exact Ld a t' b t
  |_=>exact absurd (show false=true from fx) BH
 |_=>exact absurd (show false=true from fy) BH
def ve(x:V)(u:Bq):Bool:=match u with
 | .none=>eqV .non x
 | .bool b=>eqV (.bl b) x
 | .int i _=>eqV (.int i) x
 | .str z _=>eqV (.str z) x
 |_=>false
theorem rW{x y:V}{u:Bq}(r:RelV y u)(f:flatV y=true):ve x u=eqV y x:=by
 cases y with
 |non=>cases r;rfl
 |bl b=>cases r;rfl
 |int i=>obtain⟨t,rfl⟩:=r;rfl
 |str z=>obtain⟨t,rfl⟩:=r;rfl
 |_=>exact absurd (show false=true from f) BH
theorem lx{x:V}:∀{xs:List V}{us:List Bq},Vals xs us->xs.all flatV=true->us.any (ve x)=xs.any fun y=>eqV y x
 |_,_,.nil,_=>rfl
 |y::xs,u::us, .cons r t,f=>by
  rw[GU,Hb]at f;rw[F7,F7,rW r f.1,lx t f.2]
theorem jk{A:Cj}{s:Bs}{x:V}{v:Bq}(rx:RelV x v)(fx:flatV x=true):∀{xs:List V}{us:List Bq},Vals xs us->xs.all flatV=true->∀u∈us,Iu A s u v (ve x u)
 |_,_,.nil,_=>fun u hu=>by cases hu
 |y::xs,u::us, .cons r t,f=>fun u' hu=>by
  rw[GU,Hb]at f;rcases BE.mp hu with rfl|hu
  ·rw[rW r f.1];exact xq r rx f.1 fx
  ·exact jk rx fx t f.2 u' hu
def zD(x:V)(xs:List V):Bool:=xs.any fun y=>eqV y x
def fN(K:Bo)(neg:Bool):R2:=fun x y H Q=>∃p xs,y=.ref p/\(SqL K H p xs\/SqT K H p xs)/\flatV x=true/\xs.all flatV=true/\Q (.bl (if neg then !zD x xs else zD x xs)) H
theorem ly:OpR X (compareOp .NotIn) (fN X.K true):=by
 intro pins s σ H x y v u Q I rx ry h;obtain⟨p,xs,rfl,hq,fx,fs,q⟩:=h;cases ry;rcases hq with hq|hq
 ·obtain⟨its,r,pl,hz⟩:=I.list hq;refine Iw (ve x) pl.isList (fun w hw=>jk rx fx r fs w (by simpa using hw)) ⟨.bl _,H,I,rfl,?_⟩;rw[show its.toArray.any (ve x)=its.any (ve x) by simp,lx r fs];exact q
 ·obtain⟨its,r,pl,hz⟩:=I.tuple hq;refine SeqAt.notIn_tupleAt (ve x) pl (fun w hw=>jk rx fx r fs w (by simpa using hw)) ⟨.bl _,H,I,rfl,?_⟩;rw[show its.toArray.any (ve x)=its.any (ve x) by simp,lx r fs];exact q
theorem lA:dt X (.type "list") (fun xs H Q=>∃p ys,xs=[.ref p]/\(SqL X.K H p ys\/SqT X.K H p ys)/\∀l,H l=none->Q (.ref l) (cU H l<|.lst ys)):=by
 intro pins s σ H xs us Q I r h;obtain⟨p,ys,rfl,hq,q⟩:=h;obtain⟨u,rfl,rx⟩:=eR r;cases rx;have fin:∀(its:List Bq),Vals ys its->ys.length<=sizeLine->∀(h':Heap)(c':Nat),(∀b o',s.heap.get? b=some o'->h'.get? b=some o')->
   h'.get? s.heap.objs.size=some {cls:=.type "list",dict:=none,data:=.seq its.toArray c',slots:= #[]}->EP X pins σ Q (.ref s.heap.objs.size) {s with heap:=h'}:=fun its r' hz h' c' kp e=>
  ⟨.ref s.heap.objs.size,_,I.laid (t':=s.toks) kp (Bt _) (show ObjOk X.prog X.w _ h' _ (.lst ys)from⟨hz,its,c',r',e⟩),rfl,q _<|I.hok.fresh<|Bt _⟩
 rcases hq with hq|hq
 ·obtain⟨its,r',pl,hz⟩:=I.list hq;have hlen:=r'.length;obtain⟨o,ho,hc,n,hd⟩:=pl.isList;exact Kl p (.inl rfl) ho hc hd (fun h' c' kp e=>fin its r' hz h' c' kp e) (by simp only[BA]<;>omega)
 ·obtain⟨its,r',pl,hz⟩:=I.tuple hq;have hlen:=r'.length;obtain⟨o,ho,hc,n,hd⟩:=pl;exact Kl p (.inr rfl) ho hc hd (fun h' c' kp e=>fin its r' hz h' c' kp e) (by simp only[BA]<;>omega)
theorem k8:dt X (.type "tuple") (fun xs H Q=>∃p ys,xs=[.ref p]/\((SqL X.K H p ys/\∀l,H l=none->Q (.ref l) (cU H l<|.tup ys))\/(SqT X.K H p ys/\Q (.ref p) H))):=by
 intro pins s σ H xs us Q I r h;obtain⟨p,ys,rfl,h⟩:=h;obtain⟨u,rfl,rx⟩:=eR r;cases rx;rcases h with⟨hq,q⟩|⟨hq,q⟩
 ·obtain⟨its,r',pl,hz⟩:=I.list hq;have hlen:=r'.length;refine call_tuple_list pl.isList (fun h' kp=>?_) (by simp only[BA]<;>omega);have I1:Inv X pins σ H {s with heap:=h'}:=I.kept (t':=s.toks) kp;have I2:Inv X pins σ (cU H h'.objs.size<|.tup ys) {s with heap:=h'.push {cls:=.type "tuple",data:=.seq its.toArray}}:=
   I1.laid (t':=s.toks) (fun b o e=>Bm _ e) (Bt _) (show ObjOk X.prog X.w _ _ _ (.tup ys)from⟨hz,its,r',IsTupD.new _ _⟩)
  exact⟨.ref h'.objs.size,_,I2,rfl,q _<|I1.hok.fresh<|Bt _⟩
 ·obtain⟨its,r',pl,hz⟩:=I.tuple hq;exact call_tuple_same pl ⟨.ref p,H,I,rfl,q⟩
def Ak(K:Bo)(T:String)(x:V)(H:Hp):Prop:=match x with
 | .str _=>T="str"
 | .int _=>T="int"
 | .ref p=>(T="list" /\∃xs,SqL K H p xs)\/(T="tuple" /\((∃o,K.lookup p=some o/\o.cls=.type "tuple" /\o.dict=none)\/∃xs,SqT K H p xs))\/
   (T="dict"/\((∃kvs,H p=some (.dK kvs))\/∃kvs,H p=some (.dT kvs)))\/(T="set"/\∃S n,H p=some (.set S n))
 |_=>False
theorem xr{pins:List (Addr×Obj)}{σ:St}{H:Hp}{s:Bs}{T:String}{x:V}{v:Bq}(I:Inv X pins σ H s)(r:RelV x v)(ty:Ak X.K T x H):
  s.TypeIs v T/\∀a,v=.ref a->∃ob,s.heap.get? a=some ob/\ob.dict=none:=by
 cases x with
 |str z=>
  obtain⟨t,rfl⟩:=r;cases (show T="str" from ty);exact⟨JF s z t,fun _ e=>nomatch e⟩
 |int i=>
  obtain⟨t,rfl⟩:=r;cases (show T="int" from ty);exact⟨typeIs_int s i t,fun _ e=>nomatch e⟩
 |ref p=>
  cases r;rcases ty with⟨rfl,xs,hq⟩|⟨rfl,⟨o,hk,hc,hd⟩|⟨xs,hq⟩⟩|⟨rfl,hk⟩|⟨rfl,S,n,hk⟩
  ·obtain⟨its,_,pl,_⟩:=I.list hq;refine⟨pl.isList.typeIs,fun a e=>?_⟩;cases e;obtain⟨o,n,e,c,hd,_⟩:=pl;exact⟨o,e,hd⟩
  ·refine⟨⟨o,I.kIn p o hk,hc⟩,fun a e=>?_⟩;cases e;exact⟨o,I.kIn _ o hk,hd⟩
  ·obtain⟨o,e1,c1,d1⟩:∃o,s.heap.get? p=some o/\o.cls=.type "tuple"/\o.dict=none:=by
    rcases hq with hq|⟨o,its,n,hk,hc,_⟩
    ·obtain⟨_,_,_,o,e1,⟨c1,d1⟩,_⟩:=hq.ok I.hok;exact⟨o,e1,c1,d1⟩
    ·exact⟨o,I.kIn p o hk,hc.1,hc.2⟩
   refine⟨⟨o,e1,c1⟩,fun a e=>?_⟩;cases e;exact⟨o,e1,d1⟩
  ·have z:∃o,s.heap.get? p=some o/\o.ExactDict:=by
    rcases hk with⟨kvs,hk⟩|⟨kvs,hk⟩
    ·obtain⟨_,_,_,_,o,_,_,e,ex,_⟩:=I.hok p _ hk;exact⟨o,e,ex⟩
    ·obtain⟨_,_,_,_,o,_,_,e,ex,_⟩:=I.hok p _ hk;exact⟨o,e,ex⟩
   obtain⟨o,e,ex⟩:=z;refine⟨⟨o,e,ex.1⟩,fun a e2=>?_⟩;cases e2;exact⟨o,e,ex.2.1⟩
  ·obtain⟨o,_,_,_,e,ex,_⟩:=I.hok p _ hk;refine⟨⟨o,e,ex.1⟩,fun a e2=>?_⟩;cases e2;exact⟨o,e,ex.2.1⟩
 |_=>exact Ex ty
def eO(K:Bo)(T:String)(r:V->List V->Hp->VK->Prop)(to:TE)(t:TA):TE:=fun σ H Q=>to σ H fun x H1=>Ak K T x H1/\t σ H1 fun xs H2=>r x xs H2 Q
variable{o e:Expr}{es:List Expr}{to:TE}{t:TA}{name:Str}{apos cpos:Pos}{T id:String}{r:V->List V->Hp->VK->Prop}
theorem yD(pa:PlainAttrs T)(slot:Slot T name id)(hty:typeOf (.builtin id)=pure (.type "method_descriptor"))(hm:yC X id r)(ho:PE X o to)(ha:PA X (e::es) t)
  (hbase:attributeBase o name X.env (eval o X.env)=eval o X.env:=by rfl)
  (hfew:((backTo cpos<|starEach (e::es) X.env).all (fun x=> !x.1) && (backToKw cpos<|keywordEach [] X.env).all (fun x=>x.1.isSome)
   &&decide ((e::es).length+([]:List IP).length+(if([]:List IP).isEmpty then 0 else 1)<30))=true:=by rfl)
  (hline:(apos.endLine==cpos.line)=true:=by rfl) (hs:starEach (e::es) X.env=(false,eval e X.env)::starEach es X.env:=by rfl) (hplain:(backTo cpos<|starEach es X.env).any (·.1)=false:=by rfl):
  PE X (.Call (.Attribute o name apos) (e::es) [] cpos) (eO X.K T r to t):=by
 intro pins s σ H Q I h;refine wpAny_Call_method_late hbase hfew hline rfl<|cT (ho pins s σ H _ I h) fun v s1 zz=>?_;obtain⟨x,H1,I1,r1,ty,q1⟩:=zz;obtain⟨h1,h2⟩:=xr I1 r1 ty;refine⟨T,id,pa,slot,hty,h1,h2,?_⟩;have hA:=ha cpos pins s1 σ H1 _ I1 q1;rw[hs]at hA ⊢;refine Calls.callWith_builtin (by show(false||(backTo cpos<|starEach es X.env).any (·.1))=false;rw[hplain]<;>rfl)<|Calls.evalArgs_plain ?_;refine cT hA fun us s2 zz=>?_;obtain⟨vs,H2,I2,r2,q2⟩:=zz;exact hm pins s2 σ H2 x vs v us Q I2 r1 r2 q2
end
def Al(X:Cx)(id:String)(r:V->List V->Hp->VK->Prop):Prop:=
 ∀(pins:List (Addr×Obj))(s:Bs)(σ:St)(H:Hp)(x:V)(xs:List V)(v:Bq)(us:List Bq)(Q:VK),Inv X pins σ H s->RelV x v->Vals xs us->r x xs H Q->
  wpAny (model X.prog X.w) X.A (call (.builtin id) (v::us)) (EP X pins σ Q) X.xe s
theorem Vals.one:∀{x:V}{us:List Bq},Vals [x] us->∃u,us=[u]/\RelV x u
 |_,_,.cons r .nil=>⟨_,rfl,r⟩
theorem Vals.eraseIdx:∀{xs:List V}{us:List Bq}(i:Nat),Vals xs us->Vals (xs.eraseIdx i) (us.eraseIdx i)
 |_,_,_,.nil=>.nil
 |_,_,0,.cons _ t=>t
 |_,_,i+1,.cons r t=>.cons r<|Vals.eraseIdx i t
theorem kK{α:Type}:∀(l:List α)(i:Nat),(l.eraseIdx i).length<=l.length
 | [],_=>Bt _
 |_::_,0=>GJ _
 |_::r,i+1=>Nat.succ_le_succ<|kK r i
section
variable{X:Cx}{pins:List (Addr×Obj)}{σ:St}{H:Hp}{s:Bs}{l b:Addr}{xs ys zs:List V}
theorem Inv.lset{its its':List Bq}{n:Nat}{f:Array Bq->Array Bq}{t':Nat}(I:Inv X pins σ H s)(hH:H l=some (.lst xs))
  (e:s.heap.get? l=some {cls:=.type "list",data:=.seq its.toArray n}) (hf:f its.toArray=its'.toArray) (hv:Vals ys its') (hz:ys.length<=sizeLine):
  Inv X pins σ (cU H l<|.lst ys) {s with heap:=s.heap.update l<|DW f,toks:=t'}:=by
 have q:=PySem.IsL.update e f;rw[hf]at q;refine I.write (x:=l) (e:=l) (by rw[hH];exact trivial) (.inl rfl) (fun b' u hb hu=>(Fw s.heap (DW f)<|EF hb).trans hu) ⟨_,q⟩ ?_;exact⟨hz,its',_,hv,q⟩
theorem Inv.lnew{its:List Bq}{t':Nat}(I:Inv X pins σ H s)(hv:Vals ys its)(hz:ys.length<=sizeLine):
  Inv X pins σ (cU H s.heap.objs.size<|.lst ys) {s with heap:=s.heap.push {cls:=.type "list",data:=.seq its.toArray},toks:=t'}:=
 I.laid (fun _ _ q=>Bm _ q) (Bt _) ⟨hz,its,0,hv,By _ rfl⟩
theorem Inv.fresh(I:Inv X pins σ H s):H s.heap.objs.size=none:=I.hok.fresh<|Bt _
theorem Inv.lstM(I:Inv X pins σ H s)(hH:H l=some (.lst xs)):xs.length<=sizeLine/\∃(its:List Bq)(n:Nat),Vals xs its/\xs.length=its.length/\s.heap.get? l=some {cls:=.type "list",data:=.seq its.toArray n}:=by
 obtain⟨z,its,n,r,e⟩:=I.hok l _ hH;exact⟨z,its,n,r,r.length,e⟩
end
section
variable{X:Cx}
def aI:V->List V->Hp->VK->Prop:=fun x vs H Q=>∃l xs y,x=.ref l/\vs=[y]/\H l=some (.lst xs)/\xs.length<sizeLine/\Q .non (cU H l<|.lst<|xs++[y])
theorem qo:Al X "list.append" aI:=by
 intro pins s σ H x vs v us Q I rx rv h;obtain⟨l,xs,y,rfl,rfl,hH,hz,q⟩:=h;cases rx;obtain⟨u,rfl,ru⟩:=rv.one;obtain⟨z,its,n,r,hl,e⟩:=I.lstM hH;refine JG HB ⟨_,e,rfl⟩ F.entry_list_append (F.args_list_append_2 _ _) (PySem.list_append l its.toArray n u (by rw[BA];omega)) ⟨e,?_⟩;refine⟨.non,_,I.lset (its':=its++[u]) hH e (by simp) (r.append<|.cons ru .nil) ?_,rfl,q⟩;rw[CP,FG];omega
def rX:V->List V->Hp->VK->Prop:=fun x vs H Q=>∃l xs i k y,x=.ref l/\vs=[.int i]/\H l=some (.lst xs)/\ -(2^63)<=i/\i<2^63/\seqIndex? i xs.length=some k/\xs[k]? =some y/\Q y (cU H l<|.lst<|xs.eraseIdx k)
theorem mD:Al X "list.pop" rX:=by
 intro pins s σ H x vs v us Q I rx rv h;obtain⟨l,xs,i,k,y,rfl,rfl,hH,h1,h2,hk,hy,q⟩:=h;cases rx;obtain⟨u,rfl,ru⟩:=rv.one;obtain⟨t,rfl⟩:=ru;obtain⟨z,its,n,r,hl,e⟩:=I.lstM hH;obtain⟨w,hw,rw'⟩:=r.get hy;refine JG Gj ⟨_,e,rfl⟩ F.entry_list_pop (F.args_list_pop_2 _ _)
  (MeetsSeq.list_pop_at l its.toArray n i t k w (JI h1 h2) (by rw[BA,<-hl];exact hk) (by rw[<-BB];exact hw) (by rw[BA];omega)) ⟨e,?_⟩
 refine⟨y,_,I.lset (its':=its.eraseIdx k) hH e ?_ (r.eraseIdx k) ?_,rw',q⟩
 ·show its.toArray.eraseIdxIfInBounds k=(its.eraseIdx k).toArray;rw[List.eraseIdxIfInBounds_toArray]
 ·have:=kK xs k;omega
def cK:R2:=fun x y H Q=>∃l b xs zs,x=.ref l/\y=.ref b/\H l=some (.lst xs)/\H b=some (.lst zs)/\xs.length+zs.length<=sizeLine/\∀p,H p=none->Q (.ref p) (cU H p<|.lst<|xs++zs)
theorem xt:OpR X (binaryOp .Add) cK:=by
 intro pins s σ H x y v u Q I rx ry h;obtain⟨l,b,xs,zs,rfl,rfl,hH,hB,hz,q⟩:=h;cases rx;cases ry;obtain⟨z,its,n,r,hl,e⟩:=I.lstM hH;obtain⟨z2,its2,n2,r2,hl2,e2⟩:=I.lstM hB;refine PySem.P.add_list e e2 ?_ (by rw[BA,BA];omega);have ea:its.toArray++its2.toArray=(its++its2).toArray:=by simp
 rw[ea];exact⟨.ref _,_,I.lnew (t':=s.toks) (r.append r2) (by rw[CP];omega),rfl,q _ I.fresh⟩
end
section
variable{κ:Type}[DecidableEq κ]
def fU(kvs:List (κ×V))(k:κ):Option V:=(kvs.find? fun kv=>decide<|kv.1=k).map (·.2)
def qp(kvs:List (κ×V))(k:κ)(v:V):List (κ×V):=
 if(kvs.any fun kv=>decide<|kv.1=k)=true then kvs.map (fun kv=>if kv.1=k then(kv.1,v)else kv)else kvs++[(k,v)]
theorem fX{p:κ×V}{r:List (κ×V)}{k:κ}(e:p.1=k):fU (p::r) k=some p.2:=by simp[fU,DY,e]
theorem fY{p:κ×V}{r:List (κ×V)}{k:κ}(e:¬p.1=k):fU (p::r) k=fU r k:=by simp[fU,DY,e]
theorem mE(k:κ):∀kvs:List (κ×V),(kvs.any fun kv=>decide<|kv.1=k)=(fU kvs k).isSome
 | []=>rfl
 |p::r=>by
  rw[F7];by_cases e:p.1=k;·simp only[fX e,decide_eq_true e,Bool.true_or,Iy]
  ·rw[fY e,decide_eq_false e,Bool.false_or];exact mE k r
theorem RelO.isSome_eq{o:Option V}{u:Option Bq}(r:RelO o u):o.isSome=u.isSome:=by
 cases o with
 |none=>cases u with
  |none=>rfl
  |some _=>exact(show False from r).elim
 |some _=>cases u with
  |none=>exact(show False from r).elim
  |some _=>rfl
theorem KV.val{kvs:List (κ×V)}{vs:List (κ×Bq)}(r:KV kvs vs)(k:κ):RelO (fU kvs k) (valueAt vs k):=by
 unfold KV at r
 induction r with
 |nil=>exact Fe
 | @cons p q ps qs h t ih=>
  obtain⟨h1,h2⟩:=h;by_cases e:p.1=k
  ·have e':q.1=k:=h1.symm.trans e;have b:valueAt (q::qs) k=some q.2:=by simp[valueAt,DY,e']
   rw[fX e,b];exact h2
  ·have e':¬q.1=k:=fun z=>e<|h1.trans z;have b:valueAt (q::qs) k=valueAt qs k:=by simp[valueAt,DY,e']
   rw[fY e,b];exact ih
end
theorem wQ{P:BK}{w:C2}{k:Key}{u:Bq}(r:RelV (kV k) u):(mixKind P w).is k u=true:=by
 cases k with
 |inl i=>obtain⟨t,e⟩:=(show ∃t,u=EU i t from r);subst e;exact mm P w i t
 |inr x=>obtain⟨t,e⟩:=(show ∃t,u=J5 x t from r);subst e;exact mn P w x t
theorem kL{P:BK}{w:C2}:∀{ks:List Key}{us:List Bq},Vals (ks.map kV) us->ItemsAre (mixKind P w) ks us
 | [],_,r=>by rw[Fv]at r;cases r;exact .nil
 |k::ks,_,r=>by
  rw[CO]at r;cases r with
  |cons h t=>exact .cons (wQ h)<|kL t
section
variable{X:Cx}{pins:List (Addr×Obj)}{σ:St}{H:Hp}{s:Bs}{a:Addr}{y v:V}{u r:Bq}{o:Option V}{A:Cj}{E:Bq->Bs->Prop}
theorem Inv.big(I:Inv X pins σ H s):sysModules<s.heap.objs.size:=by
 have h:mainGlobals<s.heap.objs.size:=(I.mod.glob.keeps I.bk).lt;exact Hj (by decide) h
theorem vf{h':Heap}{t':Nat}{ob:HO}(I:Inv X pins σ H s)(mu:yt (H a))(hs:BM a s.heap h')(he:∃q,h'.get? a=some q)(new:ObjOk X.prog X.w (cU H a ob) h' a ob):
  Inv X pins σ (cU H a ob) {s with heap:=h',toks:=t'}:=
 I.write (x:=a) (e:=a) mu (.inl rfl) (fun b q hb z=>(hs.2 b hb).trans z) he new
end
def xu(i:Expr):Prop:=∀ov iv,subscripted i false ov iv=operate [ov,iv] (getItem ov iv)
theorem vg{prog:BK}{w:C2}{A:Cj}{E:Bq->Bs->Prop}{s:Bs}{env:Env}{value slice:Expr}{pos:Pos}{T id:String}{Q:Bq->Bs->Prop}
  (hl:typeLookup (.type T) "__getitem__"=pure (some<|.builtin id)) (hs:xu slice)
  (h:wpAny (model prog w) A (eval value env) (fun o s₁=>wpAny (model prog w) A (eval slice env) (fun i s₂=>s₂.TypeIs o T/\wpAny (model prog w) A (getItem o i) Q E s₂) E s₁) E s):
  wpAny (model prog w) A (eval (.Subscript value slice pos) env) Q E s:=by
 refine Iq<|Dx h (fun o s₁ h₁=>Dx h₁ (fun i s₂ h₂=>?_) fun _ _ x=>x) fun _ _ x=>x;obtain⟨hT,h₂⟩:=h₂;unfold subscriptTail;refine Bk ?_;rw[getitemInPython_of_ne hT.not_modules];refine Bk<|Hv hT hl ?_;have fin:wpAny (model prog w) A (subscripted slice false o i) (fun r s₃=>wpAny (model prog w) A (letTemporaryGo value o r>>=fun _=>pure r) Q E s₃) E s₂:=by
  rw[hs o i];exact wpAny_operating<|Dx h₂ (fun r s₃ h₃=>Bk<|wpAny_letTemporaryGo<|Br h₃) fun _ _ x=>x
 first
  |exact Br<|Bk fin
  |exact Bk<|Br<|Bk fin
  |exact Bk fin
end L2
namespace Att
open PySem PySem.W PySem.Calls PyProof.Rows
theorem iS{P:Le}{h:Heap}:∀(ns:List Int)(vs:List Bq),WellAll P h vs (ns.map Lp)->IL vs ns:=by
 intro ns
 induction ns with
 |nil=>
  intro vs w;rw[Fv]at w;cases w;exact .nil
 |cons n ns ih=>
  intro vs w;rw[CO]at w;cases w with
  |cons a b=>
   cases a;exact .cons _ _<|ih _ b
theorem qq{l:FW}{n:Nat}(hn:l.most=some n){P:Le}{h:Heap}{args:List WData}{vals:List Bq}
  (hpre:l.row.toRowW.claim.pre args=true) (hwl:WellAll P h vals args):
  ∃a vs ns,vals=[CN a]/\args=[WData.list (ns.map Lp)]/\h.get? a=some {cls:=.type "list",data:=.seq vs.toArray}/\IL vs ns/\ns.length<=n:=by
 have hsh:WShape.hasAll [] args [.list .int]=true:=(pre_splitW hpre).1;have hc:l.pre.holds [] {args:=args}=true:=(pre_splitW hpre).2;obtain⟨d,r,rfl,h1,h2⟩:=hasAllW_cons hsh;obtain rfl:=hasAllW_nil h2;obtain⟨xs,rfl,h3⟩:=hasW_list h1;obtain⟨ns,rfl⟩:=items_int h3;have hlen:ns.length<=n:=by
  unfold OpenLaw.pre at hc;have h4:(WTm.not<|.lt (.lit<|.int (n:Int))<|.len<|.arg 0).holds [] {args:=[.list (ns.map .int)]}=true:=by
   have h4:=(holds_andW hc).1;rw[hn]at h4;exact h4
  have h5:=condW_of h4<|w_not<|w_lt w_lit<|w_len_list<|w_arg rfl;rw[BS]at h5;refine Nat.le_of_not_lt fun q=>?_;have q':(n:Int)<((ns.length:Nat):Int):=by omega
  first
   |(rw[decide_eq_true q']at h5;exact absurd h5 (by decide))
   |(simp at h5;omega)
 cases hwl with
 |cons w1 w2=>
  cases w2;cases w1 with
  |list ho hall=>exact⟨_,_,ns,rfl,rfl,ho,iS ns _ hall,hlen⟩
theorem qr(l:FW)(args:List WData):l.row.toRowW.claim.post args (.bool true) args=true:=
 postW_of (r:=l.row.toRowW) (X:=(true==true))
  (show Lf [] (.bool true) .bool=true by first|rfl|decide|simp[Lf,WShape.arms,WShape.armsAll])
  (show(WTm.eq .res<|.lit<|.bool true).value [] {args:=args,res:=some<|.bool true,after:=args}=some (.bool<|true==true)from w_eq_bool (w_res rfl) w_lit) rfl
theorem attach_call{l:FW}{n:Nat}{q:BK}{loose:List Str}{XP:(Str->Option Bq)->Heap->Prop}{YP:C2->Heap->Prop}{d:DefRec}
  (hn:l.most=some n) (hdf:d.params.defaults=[])
  (call:∀(w:C2) (s₀ s₁:Bs) (mg mb:Str->Option Bq) (fa:Addr) (o:Obj) (pm cd doc:Bq) (a:Addr) (vs:List Bq) (ns:List Int),
   Ground q loose [] XP w s₀ mg mb s₁.heap->YP w s₁.heap->
   s₁.heap.get? fa=some o->o.data=.func (docDef d.name d.params d.body d.scope pm cd doc)->s₁.heap.CodeRec cd d.name->mg d.name=some (.ref fa)->
   s₁.heap.get? a=some {cls:=.type "list",data:=.seq vs.toArray}->IL vs ns->ns.length<=n->s₁.gens= #[]->
   codeAny (model l.prog w) callerA (.call (.ref fa) ⟨[.ref a],[]⟩) (fun r s'=>r=.ok (.ret (.bool true))/\OldK s₁.heap s'.heap/\s'.os=s₁.os/\GH s'.gens) s₁):
  JA q loose XP YP l.row.toRowW d [] (fun f vs=>JJ f vs):=by
 intro w s₀ s₁ mg mb G Y fa o pm cd doc dV kV ho hd hcd hD hmg hg args vals as hpre hlay hrd hwl hlo;obtain rfl:dV=.none:=Dflts.none hD hdf;obtain rfl:kV=.none:=Dflts.noKw hD;obtain⟨a,vs,ns,rfl,rfl,hobj,hints,hlen⟩:=qq hn hpre hwl;refine enter_call<|Gn (call w s₀ s₁ mg mb fa o pm cd doc a vs ns G Y ho (fd_plain hd) hcd hmg hobj hints hlen hg) fun r s' hq=>?_;obtain⟨rfl,h2,h3,h4⟩:=hq;exact⟨.inl ⟨.bool true,.bool true,[],rfl,fun _=>rfl,.bool true,qr l _,fun _=>⟨GK,fun _ hm=>(nomatch hm)⟩⟩,h2,h3,h4⟩
end Att
namespace L2
open PySem PySem.Spec PyProof.Rows
theorem iz:∀{vs:List Bq}{ns:List Int},IL vs ns->Vals (ns.map ET) vs
 |_,_,.nil=>.nil
 |_,_,.cons n t h=>.cons ⟨t,rfl⟩<|iz h
def xv(H:Hp):Prop:=∀b,H b=none\/∃o xs,H b=some (.frz o<|.lst xs)
theorem rY{P:BK}{w:C2}{K:Bo}{mg mb:Str->Option Bq}{CX:CXT}{k:Nat}{fa a:Addr}{fd:C4}{x:Str}{sp:Sp}{s₁:Bs}{vs:List Bq}{ns:List Int}
  (KX:K.In s₁.heap) (hns:s₁.heap.Ns mainGlobals mg) (hb:s₁.heap.Ns builtinsNs mb) (hbb:∀x:Str,x≠"__name__"->mb x=bootBuiltins x) (hlim:s₁.heap.NoLimit) (hg:s₁.gens= #[])
  (ha:s₁.heap.get? a=some {cls:=.type "list",data:=.seq vs.toArray}) (hi:IL vs ns) (hl:ns.length<=sizeLine) (hr:Room k callerA)
  (F:∀base:Heap,K.In base->base.Ns mainGlobals mg->FnOk P w K mg base CX k fa fd [x] sp) (hbind:∀(s:Bs)(u:Bq),IK s fd ⟨[u],[]⟩ [(x,u)])
  (hsp:∀H:Hp,xv H->SqL K H a (ns.map ET)->sp [.ref a] H (fun v _=>v=.bl true) fun _ _ _=>False)
  (hCX:∀H e s',CX [] H s₁ (fun _ _ _=>False) e s'->False):
  codeAny (model P w) callerA (.call (.ref fa) ⟨[.ref a],[]⟩) (fun r s'=>r=.ok (.ret<|.bool true)/\OldK s₁.heap s'.heap/\s'.os=s₁.os/\GH s'.gens) s₁:=by
 have rv:=iz hi;have lenV:=hi.length;have core:∀H:Hp,xv H->SqL K H a (ns.map ET)->HOk P w H s₁.heap->(∀b,H b≠none->b=a)->(H a≠none->K.lookup a=none)->
   codeAny (model P w) callerA (.call (.ref fa) ⟨[.ref a],[]⟩) (fun r s'=>r=.ok (.ret<|.bool true)/\OldK s₁.heap s'.heap/\s'.os=s₁.os/\GH s'.gens) s₁:=by
  intro H hO hS hok hA hK;have base_of:∀{b:Addr}{o:Obj},s₁.heap.get? b=some o->H b=none->(lj s₁.heap H).get? b=some o:=fun e n=>rL e n;have noA:∀{b:Addr}{o:Obj}{es:Array Fm}{ep:Nat},s₁.heap.get? b=some o->o.data=.dict es ep->H b=none:=fun{b o es ep}e d=>by
   cases q:H b with
   |none=>rfl
   |some u=>
    have e':b=a:=hA b (by rw[q];simp);subst e';rw[ha]at e;cases e;have d':HR vs.toArray _=Data.dict es ep:=d;cases d'
  have nsK:∀{b:Addr}{m:Str->Option Bq},s₁.heap.Ns b m->(lj s₁.heap H).Ns b m:=fun{b m}⟨o,es,ep,e,d,r⟩=>⟨o,es,ep,base_of e<|noA e d,d,r⟩
  have hKb:K.In (lj s₁.heap H):=fun b o e=>base_of (KX b o e) (by
   cases q:H b with
   |none=>rfl
   |some u=>
    have e':b=a:=hA b (by rw[q];simp);subst e';rw[hK (by rw[q];simp)]at e;cases e)
  have hM:Mod K mg (lj s₁.heap H):=⟨hKb,nsK hns,⟨mb,nsK hb,hbb⟩,let ⟨mc,h1,h2⟩:=hlim;⟨mc,nsK h1,h2⟩⟩
  have e0:Env0 P w K mg (lj s₁.heap H) callerA [] s₁ H:=⟨rfl,hM,fun b o e=>uW e,Nat.le_of_eq<|qf _ _,trivial,fun b hb=>absurd (show b∈([]:List Addr)from hb) (by simp),hok,.of_eq hg⟩
  refine Gn ((F _ hKb<|nsK hns).run callerA [] s₁ H ⟨[.ref a],[]⟩ [.ref a] [.ref a] _ _ hr e0 (hbind s₁<|.ref a) (.cons rfl .nil) (hsp H hO hS)) fun r s' h=>?_;cases r with
  |error e=>exact(hCX H e s' h).elim
  |ok fl=>
   cases fl with
   |next=>exact Ex h
   |brk=>exact Ex h
   |cont=>exact Ex h
   |ret u=>
    obtain⟨v,H',os,bare,un,hok',r',q⟩:=h;have q':v=.bl true:=q;subst q';obtain rfl:u=Ip true:=r';refine⟨rfl,OldK.of_keep fun b o e=>?_,os,bare⟩;cases q:H b with
    |none=>exact un.keep b o e q (by intro z;exact absurd (show b∈([]:List Addr)from z) (by simp)) (by simp)
    |some u=>
     rcases hO b with z|⟨ob,xs,z⟩
     ·rw[q]at z;cases z
     ·have z2:=un.frzs b ob _ z;obtain⟨e1,_⟩:=hok b _ z;obtain⟨e2,_⟩:=hok' b _ z2;rw[e]at e1;cases e1;exact e2
 cases hk:K.lookup a with
 |some o=>
  have e:=KX a o hk;rw[ha]at e;cases e;refine core (fun _=>none) (fun _=>.inl rfl) (.inr ⟨_,vs.toArray,_,hk,rfl,rfl,rfl,by rw[BA,lenV];exact hl,by simpa using rv⟩) (fun b u z=>by have z':(none:Option HO)=some u:=z;cases z') (fun b z=>absurd rfl z) fun z=>absurd rfl z
 |none=>
  refine core (fun b=>if b=a then some (.frz {cls:=.type "list",data:=.seq vs.toArray}<|.lst<|ns.map ET)else none) (fun b=>?_) (.inl<|.inr ⟨{cls:=.type "list",data:=.seq vs.toArray},if_pos rfl⟩) (fun b u z=>?_) (fun b z=>?_) fun _=>hk
  ·by_cases hb:b=a;·exact .inr ⟨_,_,if_pos hb⟩
   ·exact .inl<|if_neg hb
  ·by_cases hb:b=a
   ·have z':=(if_pos hb).symm.trans z;cases z';subst hb;exact⟨ha,by rw[BS];exact hl,vs,_,rv,ha⟩
   ·have z':=(if_neg hb).symm.trans z;cases z'
  ·by_cases hb:b=a;·exact hb
   ·exact absurd (if_neg hb) z
theorem walk_of{l:FW}{n k:Nat}{q:BK}{loose:List Str}{XP:(Str->Option Bq)->Heap->Prop}{YP:C2->Heap->Prop}{d:DefRec}{K:Le->Bo}{CX:C2->CXT}{sp:C2->Sp}{x:Str}
  (hn:l.most=some n) (hn2:n<=sizeLine) (hdf:d.params.defaults=[]) (hr:Room k callerA)
  (hY:∀(w:C2)(h:Heap),YP w h->(K w.params).In h)
  (F:∀(w:C2) (mg:Str->Option Bq) (fa:Addr) (h:Heap),(K w.params).In h->h.Ns mainGlobals mg->mg d.name=some (.ref fa)->
   ∃fd:C4,(∀(s:Bs)(u:Bq),IK s fd ⟨[u],[]⟩ [(x,u)])/\
    ∀base:Heap,(K w.params).In base->base.Ns mainGlobals mg->FnOk l.prog w (K w.params) mg base (CX w) k fa fd [x] (sp w))
  (hsp:∀(w:C2)(H:Hp)(a:Addr)(ns:List Int),ns.length<=n->xv H->SqL (K w.params) H a (ns.map ET)->sp w [.ref a] H (fun v _=>v=.bl true) fun _ _ _=>False)
  (hCX:∀(w:C2)(H:Hp)(s:Bs)(e:Bq)(s':Bs),CX w [] H s (fun _ _ _=>False) e s'->False):
  JA q loose XP YP l.row.toRowW d [] (fun f vs=>JJ f vs):=by
 refine Att.attach_call hn hdf fun w s₀ s₁ mg mb fa o pm cd doc a vs ns G Y ho hd hcd hmg hobj hints hlen hg=>?_;have KX:=hY w _ Y;obtain⟨fd,hb,hF⟩:=F w mg fa _ KX G.T.g hmg;exact rY KX G.T.g G.T.b G.T.builtins G.T.nolimit hg hobj hints (Dw hlen hn2) hr hF hb (fun H hO hS=>hsp w H a ns hlen hO hS) fun H e s'=>hCX w H s₁ e s'
def defArgs(s:Stmt):Arguments:=match s with
 | .FunctionDef _ a _ _ _ _ _ _ _ _=>a
 |_=>{posonlyargs:=[],args:=[],vararg:=none,kwonlyargs:=[],kw_defaults:=[],kwarg:=none,defaults:=[]}
def defBody(s:Stmt):List Stmt:=match s with
 | .FunctionDef _ _ b _ _ _ _ _ _ _=>b
 |_=>[]
def defScope(s:Stmt):Fj:=match s with
 | .FunctionDef _ _ _ _ _ _ sc _ _ _=>sc
 |_=>{kind:=.function,names:=[],isGenerator:=false,isCoroutine:=false}
abbrev CX0:CXT:=fun _ _ _ _ _ _=>False
abbrev E0:XK:=fun _ _ _=>False
theorem yE{X:Cx}:nU CX0 X E0:=fun _ _ _ _ _ _ _ h=>h.elim
structure Fun(K:Bo)(x qual:Str)(st:Stmt)(f:Addr)(fd:C4):Prop where
 ex:∃(oc:Bq)(od:Option Addr)(kV doc pm:Bq)(an:Option Addr)(cdv ct:Bq)(osl:Array (Option Bq)),
  fd=DK x qual (defArgs st) (defBody st) (defScope st) .none kV doc pm an cdv ct/\K.lookup f=some ⟨oc,od,.func fd,osl⟩/\EL K cdv qual=true
 kp:Ek K (.ref f)=true
section
variable{P:BK}{w:C2}{K:Bo}{mg:Str->Option Bq}{base:Heap}
theorem Fun.ok{x qual:Str}{st:Stmt}{f:Addr}{fd:C4}{N ps:List Str}{k:Nat}{sp:Sp}(F:Fun K x qual st f fd)(S:FnScope N ps (defScope st))(len:∀vs H Q E,sp vs H Q E->vs.length=ps.length)
  (hbody:∀(cdv:Bq) (A:Cj) (outer:List Env) (s:Bs) (H:Hp) (vs:List V) (Q:VK) (E:XK),Room k (A.deeper<|envOfC qual (defScope st) s.heap.objs.size f cdv)->sp vs H Q E->
   ∃t,PSs (ql CX0 P w K mg base N qual (defScope st) f cdv A outer s H E).nox (defBody st) t/\t {nx:=fun _ H'=>Q .non H',rt:=Q} (start N vs) H):FnOk P w K mg base CX0 (k+1) f fd ps sp:=by
 obtain⟨oc,od,kV,doc,pm,an,cdv,ct,osl,rfl,lk,hcd⟩:=F.ex;refine yB lk hcd S len fun A outer s H vs Q E hr hsp=>?_;obtain⟨t,h,q⟩:=hbody cdv A outer s H vs Q E hr hsp;exact⟨t,h.nox,q⟩
theorem Fun.binds{x qual:Str}{st:Stmt}{f:Addr}{fd:C4}{ps:List Str}(F:Fun K x qual st f fd)
  (h:∀(kV doc pm:Bq)(an:Option Addr)(cdv ct:Bq)(us:List Bq),us.length=ps.length->bindArgs (DK x qual (defArgs st) (defBody st) (defScope st) .none kV doc pm an cdv ct) ⟨us,[]⟩=pure (ps.zip us)):Binds K fd ps []:=by
 obtain⟨oc,od,kV,doc,pm,an,cdv,ct,osl,rfl,lk,hcd⟩:=F.ex;exact .all<|h kV doc pm an cdv ct
theorem lB{x qual:Str}{st:Stmt}{f:Addr}{oc:Bq}{od an:Option Addr}{osl:Array (Option Bq)}{kV doc pm cdv ct:Bq}(l:K.lookup f=some ⟨oc,od,.func<|DK x qual (defArgs st) (defBody st) (defScope st) .none kV doc pm an cdv ct,osl⟩)
  (c:EL K cdv qual=true) (k:Ek K (.ref f)=true):Fun K x qual st f (DK x qual (defArgs st) (defBody st) (defScope st) .none kV doc pm an cdv ct):=⟨⟨oc,od,kV,doc,pm,an,cdv,ct,osl,rfl,l,c⟩,k⟩
end
section
variable{X:Cx}
theorem pv(i:Nat){x:Str}{pos:Pos}(hN:X.N[i]? =some x:=by rfl)(hv:Vis X.env.scope x:=by first|exact Kz rfl|exact JK (Kz rfl)|exact JK<|JK rfl)(hd:(x==("__debug__" :Str))=false:=by decide)
  (hcd:(x==("__classdict__" :Str))=false:=by decide):PE X (.Name x pos) (bF i):=xg hN hv hd hcd
end
def Same(H H':Hp):Prop:=∀b o,H b=some o->H' b=some o
theorem Same.refl(H:Hp):Same H H:=fun _ _ h=>h
theorem Same.trans{H H1 H2:Hp}(a:Same H H1)(b:Same H1 H2):Same H H2:=fun c o h=>b c o<|a c o h
theorem Same.seq{K:Bo}{H H':Hp}{a:Addr}{xs:List V}(e:Same H H')(h:SqL K H a xs):SqL K H' a xs:=by
 rcases h with(h|⟨o,h⟩)|h;·exact .inl<|.inl<|e _ _ h
 ·exact .inl<|.inr ⟨o,e _ _ h⟩
 ·exact .inr h
end L2
set_option maxHeartbeats 4000000
namespace L2
open PySem PySem.Spec PyProof.Rows
abbrev sOf(l:List Nat):Str:=⟨l.toArray⟩
theorem eS(l:List Nat):(sOf l).length=l.length:=by simp[Lc,sOf]
theorem oR(l:List Nat):(sOf l).cps.toList=l:=by simp[sOf]
theorem nY(a b:List Nat):sOf a++sOf b=sOf (a++b):=by
 apply PySem.Str.ext';rw[PySem.Str.cps_append];simp[sOf]
theorem oS{a b:List Nat}(h:sOf a=sOf b):a=b:=by
 have:=congrArg (fun x=>x.cps.toList) h;simpa [sOf] using this
theorem rZ(x:Str):x=sOf x.cps.toList:=by cases x;simp[sOf]
def DictK(K:Bo)(w:C2)(a:Addr)(kvs:List (Key×V)):Prop:=
 kvs.length<=1000/\(a==sysModules)=false/\(kvs.map (·.1)).Nodup/\∃(es:Array Fm)(ep:Nat),K.lookup a=some {cls:=.type "dict",data:=.dict es ep}/\
  Paired (fun(p:Key×V)(e:Fm)=>fW p.1 e.key=true/\e.hash=rK w p.1/\RelV p.2 e.val) kvs es.toList
theorem mF{P:BK}{w:C2}{kvs:List (Key×V)}{es:List Fm}(r:Paired (fun(p:Key×V)(e:Fm)=>fW p.1 e.key=true/\e.hash=rK w p.1/\RelV p.2 e.val) kvs es):
  ∀e∈es,∃k,fW k e.key=true/\e.hash=rK w k:=by
 induction r with
 |nil=>intro e h;cases h
 | @cons p e ps es h t ih=>
  intro e' h';rcases BE.mp h' with rfl|h'
  ·exact⟨p.1,h.1,h.2.1⟩
  ·exact ih e' h'
theorem lC{P:BK}{w:C2}{kvs:List (Key×V)}{es:List Fm}(r:Paired (fun(p:Key×V)(e:Fm)=>fW p.1 e.key=true/\e.hash=rK w p.1/\RelV p.2 e.val) kvs es):
  ∃vs,KV kvs vs/\Pairs (mixKind P w) es vs/\vs.map (·.1)=kvs.map (·.1):=by
 induction r with
 |nil=>exact⟨[],.nil,.nil,rfl⟩
 | @cons p e ps es h t ih=>
  obtain⟨vs,h1,h2,h3⟩:=ih;exact⟨(p.1,e.val)::vs,.cons ⟨rfl,h.2.2⟩ h1,.cons h.1 rfl h2,by simp[h3]⟩
theorem DictK.of{P:BK}{w:C2}{K:Bo}{a:Addr}{kvs:List (Key×V)}{h:Heap}(d:DictK K w a kvs)(x:K.In h):(a==sysModules)=false/\∃vs,KV kvs vs/\h.DictOf (mixKind P w) a vs:=by
 obtain⟨hz,hs,nd,es,ep,lk,r⟩:=d;obtain⟨vs,h1,h2,h3⟩:=lC (P:=P) r;refine⟨hs,vs,h1,_,es,ep,x _ _ lk,⟨rfl,rfl,rfl⟩,rfl,fun e he=>mF (P:=P) r e (by simpa using he),h2,by rw[h3];exact nd⟩
section
variable{X:Cx}{o i e:Expr}{pos:Pos}{td ty:TE}
def aP(K:Bo)(w:C2)(td ty:TE):TE:=fun σ H Q=>td σ H fun x H1=>ty σ H1 fun y H2=>∃a kvs k v,x=.ref a/\DictK K w a kvs/\y=kV k/\fU kvs k=some v/\Q v H2
theorem sd(ho:PE X o td)(hi:PE X i ty)(hs:xu i):PE X (.Subscript o i pos) (aP X.K X.w td ty):=by
 intro pins s σ H Q I h;refine vg PySem.F.slot_dict_getitem.lookup hs<|cT (ho pins s σ H _ I h) fun u s1 zz=>?_;obtain⟨x,H1,I1,rx,q1⟩:=zz;refine cT (hi pins s1 σ H1 _ I1 q1) fun iv s2 zz=>?_;obtain⟨y,H2,I2,ry,a,kvs,k,v,ex,dk,ey,ev,q2⟩:=zz;subst ex ey;obtain rfl:u=CN a:=rx;obtain⟨hd,vs,rel,dd⟩:=dk.of (P:=X.prog) I2.kIn;refine⟨dd.typeIs,?_⟩;obtain⟨w',hw,rw'⟩:=RelO.some_of (v:=v) (o:=valueAt vs k) (by rw[<-ev];exact rel.val k);exact wpAny_getItem_of (wQ ry) dd.mapOf hw ⟨v,H2,I2.tok _,rw',q2⟩
end
section
variable{X:Cx}
theorem jl:OpR X (compareOp .Is) (fun x y H Q=>∃c,y=.bl c/\Q (.bl<|decide<|x=.bl c) H):=by
 intro pins s σ H x y v u Q I rx ry h;obtain⟨c,rfl,q⟩:=h;cases ry;cases x with
 |bl b=>cases rx;exact is_bool (aR I q (by cases b<;>cases c<;>simp))
 |non=>cases rx;exact Br (aR I q (by simp))
 |int i=>obtain⟨t,rfl⟩:=rx;exact Br (aR I q (by simp))
 |str i=>obtain⟨t,rfl⟩:=rx;exact Br (aR I q (by simp))
 |byt i=>obtain⟨t,rfl⟩:=rx;exact Br (aR I q (by simp))
 |flt i=>obtain⟨t,rfl⟩:=rx;exact Br (aR I q (by simp))
 |ref a=>cases rx;exact Br (aR I q (by simp))
 |ty a=>cases rx;exact Br (aR I q (by simp))
theorem nZ:OpR X (binaryOp .Mult) (fun x y H Q=>∃c n,x=.str (sOf [c])/\y=.int n/\0<=n/\n<=100000/\Q (.str<|sOf<|DN n.toNat c) H):=by
 intro pins s σ H x y v u Q I rx ry h;obtain⟨c,n,rfl,rfl,h0,h1,q⟩:=h;obtain⟨t,rfl⟩:=rx;obtain⟨t',rfl⟩:=ry;have hl:(sOf [c]).length=1:=eS [c];refine SB.mul ?_ fun t' k=>?_
 ·refine⟨?_,fun _ _=>?_,fun _ _=>?_⟩
  ·have e1:decide (n< -(2^63:Int))=false:=decide_eq_false (by omega);have e2:decide (n≥2^63)=false:=decide_eq_false (by omega);rw[e1,e2];rfl
  ·rw[hl];have h2:1<=n:=by omega
   have:(1:Int)<=(2^63-1)/n:=(Int.le_ediv_iff_mul_le (by omega)).mpr (by omega);omega
  ·rw[hl];unfold La;have:=CF;simp;omega
 ·have e:Lk (sOf [c]) n=sOf (DN n.toNat c):=by
   rw[rZ<|Lk (sOf [c]) n];show sOf ((Lk ⟨#[c]⟩ n).cps.toList)=_;rw[mul_one_list]
  exact⟨.str _,H,I.tok _,⟨t',rfl⟩,by rw[e];exact q⟩
end
section
variable{X:Cx}
def iT(l:List Nat)(lo hi:Option Int):List Nat:=(l.drop<|HT.sIx l.length 0 lo).take (HT.sIx l.length l.length hi-HT.sIx l.length 0 lo)
theorem jm(lo hi:Option Int)(n:Nat):Du lo hi 1 n=sliceRange ((HT.sIx n 0 lo:Nat):Int) ((HT.sIx n n hi:Nat):Int) 1:=by
 unfold Du;have e1:(match lo with|none=>(0:Int)|some i=>max 0 (min (if i<0 then i+(n:Int)else i) n))=((HT.sIx n 0 lo:Nat):Int):=by
  cases lo with
  |none=>simp[HT.sIx]
  |some i=>simp only[HT.sIx];by_cases h:i<0<;>simp only[h,if_true,if_false]<;>omega
 have e2:(match hi with|none=>(n:Int)|some i=>max 0 (min (if i<0 then i+(n:Int)else i) n))=((HT.sIx n n hi:Nat):Int):=by
  cases hi with
  |none=>simp[HT.sIx]
  |some i=>simp only[HT.sIx];by_cases h:i<0<;>simp only[h,if_true,if_false]<;>omega
 simp only[show(1:Int)>0 by decide,if_true];rw[<-e1,<-e2];cases lo<;>cases hi<;>rfl
theorem qt(l:List Nat)(lo hi:Option Int):J9 (sOf l) lo hi=sOf (iT l lo hi):=by
 have hn:(sOf l).length=l.length:=eS l;have hk:(Du lo hi 1 l.length).filterMap ((sOf l).cps[·]?)=iT l lo hi:=by
  rw[jm,HQ,pick_run];simp[iT]
 have hlen:(Du lo hi 1 l.length).length=(iT l lo hi).length:=by
  rw[jm,HQ];have h1:=HT.sIx_le l.length 0 (BV _) lo;have h2:=HT.sIx_le l.length l.length (Bt _) hi;simp[iT];omega
 unfold J9;rw[hn];split
 ·rename_i h;have h:(Du lo hi 1 l.length).length=l.length:=by simpa using h
  have hl:=hlen.symm.trans h;have e:iT l lo hi=l:=by
   have h3:(iT l lo hi).length<=(l.drop<|HT.sIx l.length 0 lo).length:=by unfold iT;simp;omega
   have h4:HT.sIx l.length 0 lo=0\/l.length=0:=by
    rw[FO]at h3;omega
   rcases h4 with h4|h4
   ·unfold iT at hl ⊢;rw[h4]at hl ⊢;rw[Gv]at hl ⊢;rw[DZ]at hl;exact Ey (by omega)
   ·have:l=[]:=Fn.mp h4;subst this;simp[iT]
  rw[e]
 ·rw[hk]
theorem se:zC X (fun x lo hi H Q=>∃l,x=.str (sOf l)/\l.length<=sizeLine/\Q (.str<|sOf<|iT l lo hi) H):=by
 intro pins s σ H x v vl vu lo hi sl Q I rx hs pl pu h;obtain⟨l,rfl,hz,q⟩:=h;obtain⟨t,rfl⟩:=rx;obtain⟨a1,rfl,e1⟩:∃a:Option (Int×Tok),vl=partValue a/\a.map (·.1)=lo:=by
  cases pl with
  |none=>exact⟨none,rfl,rfl⟩
  |int i t=>exact⟨some (i,t),rfl,rfl⟩
 obtain⟨a2,rfl,e2⟩:∃a:Option (Int×Tok),vu=partValue a/\a.map (·.1)=hi:=by
  cases pu with
  |none=>exact⟨none,rfl,rfl⟩
  |int i t=>exact⟨some (i,t),rfl,rfl⟩
 have hle:(J9 (sOf l) lo hi).length<=sizeLine:=Dw (Txt.slice_le _ _ _) (by rw[eS];exact hz);refine⟨"str",_,PySem.F.slot_str_getitem.lookup,JF _ _ _,wpAny_getItem_str_slice (l:=a1) (u:=a2) (st:=none) hs rfl ?_⟩;subst e1 e2;refine post_val_or_str ⟨hle,fun t' k=>⟨.str _,H,I.tok _,⟨t',rfl⟩,?_⟩⟩;have:=qt l (a1.map (·.1)) (a2.map (·.1));unfold J9 at this;show Q (.str (if _ then _ else _)) H;exact this▸q
theorem sf(hc:X.calm=true):yC X "str.index" (fun x xs H Q=>∃a b,x=.str a/\xs=[.str b]/\0<=Gw a b/\Q (.int<|Gw a b) H):=by
 intro pins s σ H x xs v us Q I rx rs h;obtain⟨a,b,rfl,rfl,h0,q⟩:=h;obtain⟨t,rfl⟩:=rx;obtain⟨u,rfl,t',rfl⟩:=eR rs;refine index_or (I.ok.hd hc) (fun e=>?_) fun _ _=>⟨.int _,H,I.tok _,⟨_,rfl⟩,q⟩
 omega
theorem o6{ys:List (List Nat)}:∀{us:List Bq},Vals (ys.map fun y=>G5<|sOf y) us->StrsAre us (ys.map sOf):=by
 induction ys with
 |nil=>intro us r;cases r;exact .nil
 |cons y ys ih=>
  intro us r;cases r with
  |cons r1 r2=>
   obtain⟨t,e⟩:=r1;subst e;exact .cons _ t<|ih r2
theorem o7(ys:List (List Nat)):Txt.join (sOf []) (ys.map sOf)=sOf ys.flatten:=by
 have key:∀(r:List (List Nat))(acc:List Nat),(r.map sOf).foldl (fun acc p=>acc++(sOf []).cps++p.cps) acc.toArray=(acc++r.flatten).toArray:=by
  intro r
  induction r with
  |nil=>intro acc;simp
  |cons a r ih=>
   intro acc;rw[CO,Hw,List.flatten_cons,<-BU,<-ih (acc++a)];simp[sOf]
 cases ys with
 |nil=>rfl
 |cons a r=>
  show Str.mk (((r.map sOf)).foldl (fun acc p=>acc++(sOf []).cps++p.cps) a.toArray)=_;rw[key];rfl
theorem vh:yC X "str.join" (fun x xs H Q=>∃(p:Addr)(ys:List (List Nat)),x=.str (sOf [])/\xs=[.ref p]/\SqL X.K H p (ys.map fun y=>G5<|sOf y)/\ys.flatten.length<=100000/\Q (.str<|sOf ys.flatten) H):=by
 intro pins s σ H x xs v us Q I rx rs h;obtain⟨p,ys,rfl,rfl,hp,hl,q⟩:=h;obtain⟨t,rfl⟩:=rx;obtain⟨u,rfl,r1⟩:=eR rs;cases r1;obtain⟨its,r,pl,hz⟩:=I.list hp;refine join_list pl.isList (by simpa using o6 r) ?_ fun t' k=>⟨.str _,H,I.tok _,⟨t',rfl⟩,by rw[o7];exact q⟩
 have e:((ys.map sOf).map (·.length)).sum=ys.flatten.length:=by
  rw[Gp,List.length_flatten];congr 1
  all_goals exact HY fun y _=>eS y
 have e2:(sOf []).length=0:=eS [];rw[e,e2];omega
theorem mG:dt X (.builtin "isinstance") (fun xs H Q=>∃x T t b,xs=[x,.ty T]/\TyOf X.K H x t/\D6 X.K t (.type T)=some b/\Q (.bl b) H):=by
 intro pins s σ H xs us Q I r h;obtain⟨x,T,t,b,rfl,ty,e,q⟩:=h;obtain⟨u,w',rfl,rx,rT⟩:=kD r;obtain rfl:w'=.type T:=rT;exact qk I rx ty e fun tk=>⟨.bl b,H,I.tok _,rfl,q⟩
def Aw(l:List Nat):It:=⟨fun i _=>i<l.length,fun i H x H'=>H'=H/\∃c,l[i]? =some c/\x=.str (sOf [c]),fun i _=>l.length<=i⟩
def yF(tl:TE):TI:=fun σ H R=>tl σ H fun x H1=>∃l,x=.str (sOf l)/\R (Aw l) H1
end
theorem si{P:BK}{w:C2}{K:Bo}{tg:Expr}(l:List Nat)(it:Addr)(ty:String)(t:Tok)(hty:ty="str_ascii_iterator"\/ty="str_iterator")
  (W:∀A':Cj,A'.handled=none->Walks P w A' it [it] [it] l.length (SignAt<|sOf l) (fun i h=>h.IsStrIter it ty (sOf l) t i)):
  Turn P w K tg (Aw l) [it] it (fun i h=>i<=l.length/\h.IsStrIter it ty (sOf l) t i) where
 mem:=by simp
 obj:=fun i h st b hb=>by
  have e:b=it:=by simpa using hb
  subst e;obtain⟨_,o,e,c,d⟩:=st;exact⟨o,e,fun v z=>by rw[d]at z;cases z⟩
 keep:=fun i h h' st k=>⟨st.1,by obtain⟨o,e,r⟩:=st.2;exact⟨o,k it (by simp) o e,r⟩⟩
 item:=by
  intro X hP hw hK hc i pins s σ H E I hf st hg;subst hP hw hK;obtain⟨f0,f1,f2,f3,f4,f5⟩:=hf it (by simp);refine(W X.A<|I.ok.hd hc).item i s _ _ hg st.2 fun v h' tk hv st' kk=>?_;obtain⟨c,u,hc',rfl⟩:=hv;have I1:Inv X pins σ H {s with heap:=h',toks:=tk}:=I.turned (fun b o hb e=>kk b o (by simpa using hb) e) f0 f1 f3 f4 f5;obtain⟨o,e,c1,d⟩:=id st';refine⟨_,rfl,rM (s:={s with heap:=h',toks:=tk}) (n:=ty) e c1 d (by rcases hty with rfl|rfl<;>decide) ⟨.str<|sOf [c],H,I1,⟨u,rfl⟩,⟨rfl,c,?_,rfl⟩,⟨hg,st'⟩,fun b hb=>(hf b hb).1⟩⟩;simpa [sOf] using hc'
 done:=by
  intro X hP hw hK hc i pins s σ H E I hf st hg;subst hP hw hK;obtain⟨f0,f1,f2,f3,f4,f5⟩:=hf it (by simp);have e:i=l.length:=Nat.le_antisymm st.1 hg;subst e;exact(W X.A<|I.ok.hd hc).done s _ _ st.2 fun h' tk kk=>⟨rfl,I.turned (fun b o hb e=>kk b o (by simpa using hb) e) f0 f1 f3 f4 f5⟩
 self:=fun A i s Q E st h=>by
  rcases hty with rfl|rfl;·exact wpAny_pyIter_striter_ascii st.2 h
  ·exact wpAny_pyIter_striter_wide st.2 h
theorem jn{X:Cx}{tg l:Expr}{tl:TE}(hl:PE X l tl):PI X tg l (yF tl):=by
 intro pins s σ H R I h;refine cT (hl pins s σ H _ I h) fun v s1 zz=>?_;obtain⟨x,H1,I1,r1,q1⟩:=zz;obtain⟨y,e,q⟩:=q1;subst e;obtain⟨t,rfl⟩:=r1;have hn:(sOf y).cps.size=y.length:=by simp[sOf]
 have fin:∀(ob:Obj)(ty:String),(ty="str_ascii_iterator"\/ty="str_iterator")->(∀A':Cj,A'.handled=none->Walks X.prog X.w A' s1.heap.objs.size [s1.heap.objs.size] [s1.heap.objs.size] y.length (SignAt<|sOf y) (fun i h=>h.IsStrIter s1.heap.objs.size ty (sOf y) t i))->
   (s1.heap.push ob).IsStrIter s1.heap.objs.size ty (sOf y) t 0->Ai X pins σ tg R (.ref s1.heap.objs.size) {s1 with heap:=s1.heap.push ob}:=fun ob ty hty W st=>by
  refine⟨s1.heap.objs.size,[s1.heap.objs.size],_,_,H1,rfl,I1.kept (t':=s1.toks) fun b o e=>Bm _ e,si y _ ty t hty W,⟨BV _,st⟩,fun b hb=>?_,q⟩;have e:b=s1.heap.objs.size:=by simpa using hb
  subst e;exact I1.fpOk (Bt _)<|I1.hok.fresh<|Bt _
 cases ha:(sOf y).cps.all (· <128);·exact IQ ha<|fin _ "str_iterator" (.inr rfl) (fun A' hA=>hn▸Walks.strWide hA _ (sOf y) t) ⟨_,By _ rfl,rfl,rfl⟩
 ·exact Iz ha<|fin _ "str_ascii_iterator" (.inl rfl) (fun A' hA=>hn▸Walks.strAscii hA _ (sOf y) t) ⟨_,By _ rfl,rfl,rfl⟩
def cv(env:Env):List (Str×El)->List (Str×Addr)->List (Str×Addr)
 | [],acc=>acc
 |(n,k)::r,acc=>cv env r (if(k== .free)=true then(n,(env.cells.lookup n).getD 0)::acc else acc)
theorem gL{scope:Fj}{env:Env}(h:∀x∈scope.names,x.2=.free->∃c,env.cells.lookup x.1=some c):closureFor scope env=pure (cv env scope.names []):=by
 simp only[closureFor];have key:∀(names:List (Str×El))(acc:List (Str×Addr)),(∀x∈names,x.2=.free->∃c,env.cells.lookup x.1=some c)->
   (forIn names acc fun(x:Str×El)(cs:List (Str×Addr))=>if(x.2== .free)=true then(do let a <-cellOf env x.1;pure (Cm ((x.1,a)::cs)))else pure (Cm cs))=(pure (cv env names acc):Sem _):=by
  intro names
  induction names with
  |nil=>intro acc _;rfl
  |cons x r ih=>
   intro acc hx;obtain⟨n,k⟩:=x;rw[Fc];have hr:∀y∈r,y.2=.free->∃c,env.cells.lookup y.1=some c:=fun y hy=>hx y<|BP _ hy;unfold cv;by_cases hk:(k==CW)=true
   ·obtain⟨c,hc⟩:=hx (n,k) BR (by simpa using hk);have hc:env.cells.lookup n=some c:=hc;simp only[hk,if_true];unfold cellOf;simp only[hc,CY];exact ih _ hr
   ·simp only[hk,if_false];exact ih _ hr
 have:=key scope.names [] h;rw[this];rfl
theorem fZ{env:Env}{x:Str}{c:Addr}:∀(names:List (Str×El))(acc:List (Str×Addr)),(∀y∈names,y.2=.free->∃c,env.cells.lookup y.1=some c)->(cv env names acc).lookup x=some c->
  ((x,CW)∈names/\env.cells.lookup x=some c)\/acc.lookup x=some c
 | [],_,_,h=>.inr h
 |(n,k)::r,acc,hx,h=>by
  unfold cv at h;rcases fZ r _ (fun y hy=>hx y<|BP _ hy) h with⟨q1,q2⟩|q
  ·exact .inl ⟨BP _ q1,q2⟩
  ·by_cases hk:(k == CW)=true
   ·rw[if_pos hk]at q;have hk':k=.free:=by simpa using hk
    subst hk';rw[Dq]at q;cases hb:x==n with
    |true=>
     rw[hb]at q;have e:x=n:=beq_iff_eq.mp hb;subst e;obtain⟨c',hc⟩:=hx (x,.free) BR rfl;have hc:env.cells.lookup x=some c':=hc;rw[hc]at q;simp at q;subst q;exact .inl ⟨BR,hc⟩
    |false=>rw[hb]at q;exact .inr q
   ·rw[if_neg hk]at q;exact .inr q
theorem iL{env:Env}{x:Str}{c:Addr}:∀(names:List (Str×El))(acc:List (Str×Addr)),acc.lookup x=some c->env.cells.lookup x=some c->(cv env names acc).lookup x=some c
 | [],_,h,_=>h
 |(n,k)::r,acc,h,he=>by
  unfold cv;refine iL r _ ?_ he;by_cases hk:(k==CW)=true
  ·rw[if_pos hk,Dq];cases hb:x==n with
   |true=>
    have e:x=n:=beq_iff_eq.mp hb;subst e;simp[he]
   |false=>exact h
  ·rw[if_neg hk];exact h
theorem iM{env:Env}{x:Str}{c:Addr}:∀(names:List (Str×El))(acc:List (Str×Addr)),(x,CW)∈names->env.cells.lookup x=some c->(cv env names acc).lookup x=some c
 |(n,k)::r,acc,h,he=>by
  unfold cv;rcases BE.mp h with e|h
  ·cases e;exact iL r _ (by simp[he]) he
  ·exact iM r _ h he
theorem cD:∀(names:List (Str×El))(n:Nat)(acc:List (Str×Addr)),cellsFrom n names acc=cellsFrom n names []++acc
 | [],_,_=>rfl
 |(x,k)::r,n,acc=>by
  unfold cellsFrom;split;·rw[cD r _ ((x,n)::acc),cD r _ [(x,n)],BU];rfl
  ·exact cD r n acc
theorem dZ:∀(names:List (Str×El))(n:Nat){x:Str}{c:Addr},(x,c)∈cellsFrom n names []->(x,Ic)∈names
 | [],_,_,_,h=>by cases h
 |(y,k)::r,n,x,c,h=>by
  unfold cellsFrom at h;split at h
  ·rename_i hk;rw[cD]at h;rcases Ck.mp h with h|h
   ·exact BP _<|dZ r _ h
   ·have e:(x,c)=(y,n):=by simpa using h
    cases e;have hk':k=.cell:=by simpa using hk
    subst hk';exact BR
  ·exact BP _<|dZ r _ h
theorem o8{M:Ht}{A:Cj}{E:Bq->Bs->Prop}{s:Bs}{scope:Fj}{env:Env}{cl:List (Str×Addr)}{Q:Env->Bs->Prop}
  (hQ:Q (newEnv scope s.heap.objs.size env.globals (cellsFrom (s.heap.objs.size+1) scope.names cl) env.qual none .none (some env) builtinsNs) {s with heap:=pushCells (s.heap.push {cls:=.type "dict",data:=.dict #[]}) scope.names}):
  wpAny M A (newFunctionEnv scope env.globals cl [] env.qual none .none<|some env) Q E s:=by
 simp only[newFunctionEnv,Iy,if_true];refine Bk<|wpAny_alloc ?_;refine Bk (wpAny_layCells _ (fun name kind cells=>by cases hkc:kind==Ic<;>simp[hkc]) _ _ _ _ ?_);rw[show({s with heap:=s.heap.push {cls:=.type "dict",data:=.dict #[]}}:Bs).heap.objs.size=s.heap.objs.size+1 from Cs ..];simp only[Fx];exact Bk<|Br<|Br hQ
section
variable{prog:BK}{w:C2}{A:Cj}{R:Lb->Bs->Prop}{s:Bs}
theorem lD{elt target iter:Expr}{ifs:List Expr}{scope:Fj}{pos:Pos}{it acc:Bq}{env:Env}(I:Nat->Bs->Prop)
  (turn:∀n s,I n s->wpAny (model prog w) A (pyNext it) (fun r s₁=>match r with
   |none=>R (.ok .next) s₁
   | some v=>wpAny (model prog w) A (letOwnedTupleGo target it v) (fun _ s₁'=>wpAny (model prog w) A (assign target env v) (fun _ s₂=>
     wpAny (model prog w) A (forIn ifs true fun c r=>if r=true then do let ok <-isTrue c env (eval c env);pure (Cm ok)else pure (Cm r)) (fun ok s₃=>
      if ok=true then wpAny (model prog w) A (eval elt env) (fun x s₄=>
       wpAny (model prog w) A (call (.builtin "list.append") [acc,x]) (fun _ s₅=>∃m,m<n/\I m s₅) (fun _ _=>False) s₄) (fun _ _=>False) s₃
      else ∃m,m<n/\I m s₃) (fun _ _=>False) s₂) (fun _ _=>False) s₁') (fun _ _=>False) s₁) (fun _ _=>False) s)
  (n:Nat) (h:I n s):codeAny (model prog w) A (.compLoop (.ListComp elt [⟨target,iter,ifs,0⟩] scope pos) 0 it acc env) R s:=by
 refine codeAny_loop rfl I (fun n s hI=>?_) n h;show wpAny _ A ((compTurn (.ListComp elt [⟨target,iter,ifs,0⟩] scope pos) 0 it acc env).onRaise (fun x=>do noteFrame x env;theTreesLotGoes x)) _ _ s;refine wpAny_noted ?_;rw[compTurn_list];refine Bk<|Ia<|Bk<|Dx (turn n s hI) (fun r s₁ h₁=>?_) fun _ _ h'=>h'.elim;cases r with
 |none=>exact Br h₁
 |some v=>
  refine Bk<|Dx h₁ (fun _ s₁' h₁'=>?_) fun _ _ h'=>h'.elim;refine Bk<|Dx h₁' (fun _ s₂ h₂=>Bk<|Dx h₂ (fun ok s₃ h₃=>?_) fun _ _ h'=>h'.elim) fun _ _ h'=>h'.elim;cases ok with
  |true=>
   rw[if_pos rfl]at h₃;exact Bk<|Bk<|Dx h₃ (fun x s₄ h₄=>Bk<|Dx h₄ (fun _ s₅ h₅=>Br<|Br ⟨rfl,h₅⟩) fun _ _ h'=>h'.elim) fun _ _ h'=>h'.elim
  |false=>
   rw[if_neg BH]at h₃;exact Br ⟨rfl,h₃⟩
end
def sj(scope:Fj)(x:Str):Bool:=scope.names.lookup x==some .local||scope.names.lookup x==some .cell
def bC(X:Cx)(scope:Fj)(N:List Str)(s:Bs)(H:Hp)(C:Addr)(fp:List Addr):Cx:=
 {X with N:=N,s₀:=s,H₀:=H,env:=compEnvC scope (cellsFrom (C+1) scope.names<|cv X.env scope.names []) C X.env,outer:=X.stack,ex:=fp,fn:=sj scope,pn:=[],xe:=fun _ _=>False}
def bR(cap:List (Option Nat))(σ:St):St:=cap.map fun o=>o.bind fun j=>(σ[j]?).bind id
structure CompScope(X:Cx)(scope:Fj)(N:List Str)(cap:List (Option Nat)):Prop where
 kind:scope.kind=.function
 nd:N.Nodup
 len:cap.length=N.length
 uniq:(scope.names.map (·.1)).Nodup
 free:∀x∈scope.names,x.2=.free->(X.env.kindOf x.1=some .cell\/X.env.kindOf x.1=some .free)
 cap:∀(k:Nat)(x:Str)(j:Nat),N[k]? =some x->cap[k]? =some (some j)->X.N[j]? =some x/\(x,CW)∈scope.names
theorem cW{α:Type}:∀{l:List (Str×α)}{x:Str}{k:α},(l.map (·.1)).Nodup->(x,k)∈l->l.lookup x=some k
 |(y,j)::r,x,k,nd,h=>by
  obtain⟨n1,n2⟩:=DV.mp (show(y::r.map (·.1)).Nodup from nd);rw[Dq];rcases BE.mp h with e|h;·cases e;simp
  ·have:(x == y)=false:=beq_eq_false_iff_ne.mpr fun e=>n1<|e▸C6.mpr ⟨(x,k),h,rfl⟩;rw[this];exact cW n2 h
theorem eJ{env:Env}:∀{names:List (Str×El)}{x:Str},(names.map fun(p:Str×El)=>if(p.2==CW&&env.scope.kind== .function&&env.kindOf p.1==some .cell)=true then(p.1,Ic)else(p.1,p.2)).lookup x=
  (names.lookup x).map fun k=>if(k==CW&&env.scope.kind== .function&&env.kindOf x==some .cell)=true then .cell else k
 | [],_=>rfl
 |(n,k)::r,x=>by
  rw[CO];have ih:= @eJ env r x;by_cases hx:x=n
  ·subst hx;by_cases hc:(k==CW&&env.scope.kind== .function&&env.kindOf x==some .cell)=true;·simp only[hc,if_true,Dq,beq_self_eq_true,G8]
   ·rw[if_neg hc,Dq,Dq,beq_self_eq_true];simp only[G8];rw[if_neg hc]
  ·have hb:(x == n)=false:=beq_eq_false_iff_ne.mpr hx;by_cases hc:(k==CW&&env.scope.kind== .function&&env.kindOf n==some .cell)=true;·simp only[hc,if_true,Dq,hb];exact ih
   ·rw[if_neg hc,Dq,Dq,hb];exact ih
def yG(X:Cx)(ifs:List Expr)(t:TT):Prop:=
 ∀(pins:List (Addr×Obj))(s:Bs)(σ:St)(H:Hp)(Q:Bool->Hp->Prop),Inv X pins σ H s->t σ H Q->
  wpAny (model X.prog X.w) X.A (forIn ifs true fun c r=>if r=true then do let ok <-isTrue c X.env (eval c X.env);pure (Cm ok)else pure (Cm r)) (TP X pins σ Q) X.xe s
def xw:TT:=fun _ H Q=>Q true H
theorem du{X:Cx}:yG X [] xw:=fun _ _ _ H _ I h=>wpAny_tests_nil ⟨H,I,h⟩
theorem vi{X:Cx}{c:Expr}{t:TT}(h:PT X c t):yG X [c] t:=fun pins s σ H Q I hq=>wpAny_tests_one<|h pins s σ H Q I hq
def Keep:St->St->Prop
 | [],_=>True
 |none::a,_::b=>Keep a b
 |some v::a,some u::b=>v=u/\Keep a b
 |_,_=>False
theorem Keep.get:∀{a b:St}{j:Nat}{v:V},Keep a b->a[j]? =some (some v)->b[j]? =some (some v)
 | [],_,_,_,_,h=>by simp at h
 |none::a,_::b,0,_,_,h=>by simp at h
 |none::a,_::b,j+1,v,k,h=>Keep.get (j:=j) (a:=a) (b:=b) k h
 |some w::a,some u::b,0,v,k,h=>by
  have e:w=u:=k.1;subst e;exact h
 |some w::a,some u::b,j+1,v,k,h=>Keep.get (j:=j) (a:=a) (b:=b) k.2 h
 |none::_,[],_,_,k,_=>k.elim
 |some _::_,[],_,_,k,_=>k.elim
 |some _::_,none::_,_,_,k,_=>k.elim
def yH(cap:List (Option Nat))(g:TG)(tf:TT)(te:TE)(σ:St)(H1:Hp)(Q:VK)(J:It):Prop:=∃W:Nat->Nat->List V->Hp->Prop,(∃m,W 0 m [] H1)/\∀i m ys H,W i m ys H->ys.length<sizeLine/\
  ((J.stop i H/\∀D,H D=none->Q (.ref D) (cU H D<|.lst ys))\/
   (J.go i H/\∃N:List V->Hp->Prop,(∀ys' H',N ys' H'->∃m',m'<m/\W (i+1) m' ys' H')/\∀x H',J.yld i H x H'->g x (bR cap σ) H' fun σ2 H2=>Keep (bR cap σ) σ2/\tf σ2 H2 fun b H3=>if b=true then te σ2 H3 fun y H4=>N (ys++[y]) H4 else N ys H3))
def mH(cap:List (Option Nat))(wi:TI)(g:TG)(tf:TT)(te:TE):TE:=fun σ H Q=>wi σ H fun J H1=>yH cap g tf te σ H1 Q J
theorem de{X:Cx}{scope:Fj}{C:Addr}{x:Str}{c:Addr}(frc:∀x∈scope.names,x.2=.free->∃c,X.env.cells.lookup x.1=some c)
  (h:(cellsFrom (C+1) scope.names<|cv X.env scope.names []).lookup x=some c):(x,c)∈cellsFrom (C+1) scope.names []\/((x,CW)∈scope.names/\X.env.cells.lookup x=some c):=by
 rw[cD,IA]at h;cases e:(cellsFrom (C+1) scope.names []).lookup x with
 |some d=>
  rw[e]at h;have h:some d=some c:=h;cases h;exact .inl<|Dg e
 |none=>
  rw[e]at h;have h:(cv X.env scope.names []).lookup x=some c:=h;rcases fZ _ _ frc h with q|q
  ·exact .inr q
  ·cases q
theorem mI{X:Cx}{scope:Fj}{C:Addr}{x:Str}{c:Addr}(uq:(scope.names.map (·.1)).Nodup)(hx:(x,CW)∈scope.names)(hc:X.env.cells.lookup x=some c):
  (cellsFrom (C+1) scope.names<|cv X.env scope.names []).lookup x=some c:=by
 rw[cD,IA];cases e:(cellsFrom (C+1) scope.names []).lookup x with
 |some d=>
  have h1:=cW uq<|dZ _ _<|Dg e;have h2:=cW uq hx;rw[h1]at h2;cases h2
 |none=>exact iM _ _ hx hc
section
variable{X:Cx}{scope:Fj}{N:List Str}{cap:List (Option Nat)}{pins:List (Addr×Obj)}{σ:St}{H:Hp}{s:Bs}{C:Addr}{fp:List Addr}
theorem qu{h4:Heap}(S:CompScope X scope N cap)(I:Inv X pins σ H s)(hC:s.heap.objs.size<=C)(ck:CellsOk h4 (C+1) (cellsFrom (C+1) scope.names []))
  (hf:∀b∈fp,FpOk X pins H b) (hlt:∀b∈fp,b<C):(bC X scope N s H C fp).Ok:=by
 have frc:∀x∈scope.names,x.2=.free->∃c,X.env.cells.lookup x.1=some c:=fun x hx hk=>I.ok.has x.1<|S.free x hx hk;have old:∀x c,X.env.cells.lookup x=some c->c<C:=fun x c e=>by
  obtain⟨v,q⟩:=I.cell x c e;exact BG q.lt hC
 have own:∀x c,(x,c)∈cellsFrom (C+1) scope.names []->C<c:=fun x c e=>(ck.empty x c e).2;refine⟨I.ok.mod,S.kind,I.ok.glob,I.ok.blt,hC,fun x y c h1 h2=>?_,fun x hx=>?_,fun x c hfn h=>?_,I.ok.hd,I.ok.frames,.inl rfl,fun b hb=>⟨BO<|hlt b hb,fun x c h=>?_⟩,I.bs,Dw I.ok.bsz I.sz,fun b o e hb=>?_,fun b hb z=>?_,I.stack,I.stkFree⟩
 ·rcases de frc h1 with a | ⟨a1,a2⟩ <;> rcases de frc h2 with b | ⟨b1,b2⟩
  ·exact name_of_addr ck.apart a b
  ·exact absurd (Hj (own x c a)<|old y c b2)<|CU _
  ·exact absurd (Hj (own y c b)<|old x c a2)<|CU _
  ·exact I.ok.inj x y c a2 b2
 ·have hx:(relabel scope X.env).names.lookup x=some .cell\/(relabel scope X.env).names.lookup x=some .free:=hx;have e:(relabel scope X.env).names.lookup x=_:=eJ (env:=X.env) (names:=scope.names) (x:=x);rw[e]at hx;cases q:scope.names.lookup x with
  |none=>rw[q]at hx;rcases hx with z|z<;>cases z
  |some k=>
   have hm:=Dg q;by_cases hk:k=.free
   ·subst hk;obtain⟨c,hc⟩:=frc _ hm rfl;exact⟨c,mI S.uniq hm hc⟩
   ·have hk':(k == CW)=false:=by simpa using hk
    rw[q]at hx;simp only[G8,hk',EJ,Cg,if_false]at hx;have hkc:k=.cell:=by
     rcases hx with z|z;·exact C9 z
     ·exact absurd (C9 z) hk
    subst hkc;exact GR.mp<|Fu scope.names (C+1) _<|.inl q
 ·rcases de frc h with a | ⟨a1,a2⟩
  ·exact Dw hC<|EW<|own x c a
  ·have q:=cW S.uniq a1;have z:sj scope x=true:=hfn;unfold sj at z;rw[q]at z;exact absurd z (by decide)
 ·rcases de frc h with a | ⟨a1,a2⟩
  ·exact E9<|Hj (hlt b hb)<|own x c a
  ·exact(hf b hb).2.2.2.2.1 x c a2
 ·rcases (hf b hb).2.2.2.1 with z | z;·exact I.ok.noex b o e z
  ·exact absurd (BG (BG (BC e) I.ok.bsz) z)<|CU _
 ·rcases BE.mp (I.stkSub b z)with q | q;·exact(hf b hb).2.1 q
  ·exact(hf b hb).2.2.1 q
theorem o9{s4:Bs}(S:CompScope X scope N cap)(I:Inv X pins σ H s)(hC:s.heap.objs.size<=C)(ck:CellsOk s4.heap (C+1) (cellsFrom (C+1) scope.names []))
  (hf:∀b∈fp,FpOk X pins H b) (hlt:∀b∈fp,b<C) (h4:∃h' tk,s4={s with heap:=h',toks:=tk}) (hn:s4.heap.Ns C fun _=>none) (hk:∀b o,s.heap.get? b=some o->s4.heap.get? b=some o):
  Inv (bC X scope N s H C fp) [] (bR cap σ) H s4:=by
 have frc:∀x∈scope.names,x.2=.free->∃c,X.env.cells.lookup x.1=some c:=fun x hx hk=>I.ok.has x.1<|S.free x hx hk;obtain⟨h',tk,rfl⟩:=h4;refine⟨qu S I hC ck hf hlt,rfl,I.bare,Un.kept hk,⟨_,hn,fun i x v e1 e2 e3=>?_⟩,fun x c h=>?_,I.hok.fresh hC,fun x c h=>?_,fun p hp=>absurd (show p∈([]:List (Addr×Obj))from hp) (by simp),I.hok.kept hk,?_⟩
 ·have e1:N[i]? =some x:=e1;unfold bR at e2;rw[Bz]at e2;cases q:cap[i]? with
  |none=>rw[q]at e2;cases e2
  |some o=>
   cases o with
   |none=>rw[q]at e2;cases e2
   |some j=>
    rw[q]at e2;obtain⟨hj,hm⟩:=S.cap i x j e1 q;have e2:σ[j]?.bind id=some v:=C9 e2;have e2':σ[j]? =some (some v):=by
     cases z:σ[j]? with
     |none=>rw[z]at e2;cases e2
     |some o=>rw[z]at e2;exact congrArg some e2
    have kd:=S.free _ hm rfl;obtain⟨m,_,hl⟩:=I.loc;obtain⟨u,r,lk⟩:=hl j x v hj e2' (by rcases kd with z|z;exact .inr<|.inl z;exact .inr<|.inr z);refine⟨u,r,.inr ?_⟩;rcases lk with⟨z,_⟩|⟨_,c,hc,hcell⟩
    ·rcases kd with q|q<;> ·rw[show X.env.kindOf x=_ from q]at z;cases z
    ·refine⟨?_,c,mI S.uniq hm hc,hcell.keeps hk⟩;have e:(relabel scope X.env).names.lookup x=_:=eJ (env:=X.env) (names:=scope.names) (x:=x);rw[cW S.uniq hm]at e;simp only[G8]at e;show(relabel scope X.env).names.lookup x=some .cell\/(relabel scope X.env).names.lookup x=some .free;rw[e];split;·exact .inl rfl
     ·exact .inr rfl
 ·rcases de frc h with a | ⟨a1,a2⟩
  ·exact⟨_,(ck.empty x c a).1⟩
  ·obtain⟨v,q⟩:=I.cell x c a2;exact⟨v,q.keeps hk⟩
 ·rcases de frc h with a | ⟨a1,a2⟩
  ·exact I.hok.fresh<|Dw hC<|EW (ck.empty x c a).2
  ·exact I.freeC x c a2
 ·show(bR cap σ).length=N.length;unfold bR;rw[BS,S.len]
end
abbrev gR(its:List Bq)(k:Nat):Obj:={cls:=.type "list",data:=.seq its.toArray k}
section
variable{X:Cx}{scope:Fj}{N:List Str}{cap:List (Option Nat)}{tg iter elt:Expr}{ifs:List Expr}{pos:Pos}{wi:TI}{g:TG}{tf:TT}{te:TE}
theorem kM(S:CompScope X scope N cap)(hc:X.calm=true)
  (hg:∀s H C fp,PG (bC X scope N s H C fp) tg g) (hf:∀s H C fp,yG (bC X scope N s H C fp) ifs tf) (he:∀s H C fp,PE (bC X scope N s H C fp) elt te)
  {pins:List (Addr×Obj)} {σ:St} {H2:Hp} {s2:Bs} {it:Addr} {fp:List Addr} {tn:Nat->Heap->Prop} {J:It} {Qv:VK} {E:Bq->Bs->Prop} {RR:Bq->Addr->Lb->Bs->Prop}
  (I2:Inv X pins σ H2 s2) (T:Turn X.prog X.w X.K tg J fp it tn) (st2:tn 0 s2.heap) (f2:∀b∈fp,FpOk X pins H2 b) {W:Nat->Nat->List V->Hp->Prop} (w0:∃m,W 0 m [] H2)
  (turn:∀i m ys H,W i m ys H->ys.length< sizeLine/\((J.stop i H/\∀D,H D=none->Qv (.ref D) (cU H D<|.lst ys))\/
   (J.go i H/\∃N:List V->Hp->Prop,(∀ys' H',N ys' H'->∃m',m'<m/\W (i+1) m' ys' H')/\∀x H',J.yld i H x H'->g x (bR cap σ) H' fun σ2 H2=>Keep (bR cap σ) σ2/\tf σ2 H2 fun b H3=>if b=true then te σ2 H3 fun y H4=>N (ys++[y]) H4 else N ys H3)))
  (fin:∀(D C:Addr) (σ':St) (H':Hp) (s':Bs) (its:List Bq) (k:Nat) (ys:List V),s2.heap.objs.size<=D->s2.heap.objs.size<=C->D≠C->Inv (bC X scope N s2 H2 C fp) [(D,gR its k)] σ' H' s'->Vals ys its->ys.length<=sizeLine->
   Qv (.ref D) (cU H' D (.lst ys))->RR (.ref D) C (.ok .next) s'):
  wpAny (model X.prog X.w) X.A (newList []) (fun acc s₃=>wpAny (model X.prog X.w) X.A (newFunctionEnv scope X.env.globals (cv X.env scope.names []) [] X.env.qual none .none<|some X.env) (fun cenv s₄=>
   codeAny (model X.prog X.w) X.A (.compStart (.ListComp elt [⟨tg,iter,ifs,0⟩] scope pos) 0 (.ref it) acc {cenv with scope:=relabel scope X.env}) (RR acc cenv.locals) s₄) E s₃) E s2:=by
 refine Ea<|o8 ?_;generalize hD:s2.heap.objs.size=D;generalize hH3:s2.heap.push {cls:=.type "list",dict:=none,data:=.seq ([]:List Bq).toArray}=h3;have hz3:h3.objs.size=D+1:=by rw[<-hH3,Cs,hD]
 dsimp only;have eC:({s2 with heap:=h3}:Bs).heap.objs.size=D+1:=hz3;rw[show h3.objs.size=D+1 from hz3];generalize hH4:pushCells (h3.push {cls:=.type "dict",data:=.dict #[]}) scope.names=h4;have hz3':(h3.push {cls:=.type "dict",data:=.dict #[]}).objs.size=D+1+1:=by rw[Cs,hz3]
 have ck:CellsOk h4 (D+1+1) (cellsFrom (D+1+1) scope.names []):=by
  have:=cellsFrom_ok scope.names (h3.push {cls:=.type "dict",data:=.dict #[]}) (D+1+1) [] ⟨fun _ _ hm=>(nomatch hm),GK⟩ (by rw[hz3'];exact Bt _);rw[hz3',hH4]at this;exact this
 have k23:∀b o,s2.heap.get? b=some o->h3.get? b=some o:=fun b o e=>by rw[<-hH3];exact Bm _ e
 have k34:∀b o,h3.get? b=some o->h4.get? b=some o:=fun b o e=>by rw[<-hH4];exact Jr _ _ b o<|Bm _ e
 have hD4:h4.get? D=some (gR [] 0):=k34 _ _ (by rw[<-hH3,<-hD];exact By _ rfl);have hn4:h4.Ns (D+1) fun _=>none:=by
  rw[<-hH4,<-hz3];exact(Heap.Ns.new h3<|.type "dict").keeps (Jr _ _)
 have fpD:∀b∈fp,b<D:=fun b hb=>by
  obtain⟨o,e,_⟩:=T.obj _ _ st2 b hb;rw[<-hD];exact BC e
 have hlt:∀b∈fp,b<D+1:=fun b hb=>Eb<|fpD b hb;have hDC:s2.heap.objs.size<=D+1:=by rw[hD];exact GJ _
 have hDs:s2.heap.objs.size<=D:=by rw[hD];exact Bt _
 have IC:Inv (bC X scope N s2 H2 (D+1) fp) [] (bR cap σ) H2 {s2 with heap:=h4}:=
  o9 S I2 hDC ck f2 hlt ⟨_,_,rfl⟩ hn4 fun b o e=>k34 b o<|k23 b o e
 have okC:=IC.ok;have nfs:∀{b:Addr},s2.heap.objs.size<=b->b∉frs X.stack:=fun{b}hb hm=>by
  obtain⟨_,o,ho,_⟩:=I2.stack.mem hm;exact absurd (BG (BC ho) hb)<|CU _
 have frc:∀x∈scope.names,x.2=.free->∃c,X.env.cells.lookup x.1=some c:=fun x hx hk=>I2.ok.has x.1<|S.free x hx hk;have cellsD:∀x c,(bC X scope N s2 H2 (D+1) fp).env.cells.lookup x=some c->c≠D:=fun x c e=>by
  rcases de frc e with a|⟨_,a⟩
  ·have q:D+1+1<=c:=(ck.empty x c a).2;exact E9<|BG (BG (EX D)<|GJ _) q
  ·obtain⟨v,q⟩:=I2.cell x c a;have:=q.lt;rw[hD]at this;exact BO this
 have fpO:∀{H':Hp}{its:List Bq}{k:Nat},(∀b∈fp,H' b=none)->∀b∈fp,FpOk (bC X scope N s2 H2 (D+1) fp) [(D,gR its k)] H' b:=fun{H' its k}hn b hb=>
  ⟨hn b hb,BO<|hlt b hb,okC.exfs b hb,.inl hb,(okC.exf b hb).2,fun p hp=>by
   have e:p=(D,gR its k):=by simpa [bC] using hp
   subst e;exact E9 (fpD b hb)⟩
 have pinD:∀{σ':St}{H':Hp}{s':Bs}{its:List Bq}{k:Nat},Inv (bC X scope N s2 H2 (D+1) fp) [] σ' H' s'->s'.heap.get? D=some (gR its k)->H' D=none->Inv (bC X scope N s2 H2 (D+1) fp) [(D,gR its k)] σ' H' s':=fun{σ' H' s' its k}J e n=>
  J.pins_of fun p hp=>by
   have e':p=(D,gR its k):=by simpa using hp
   subst e';exact⟨e,n,BO<|EX _,nfs hDs,fun v z=>by
    have z':HR its.toArray k=FN v:=z;cases z'⟩
 have loop:codeAny (model X.prog X.w) X.A (.compLoop (.ListComp elt [⟨tg,iter,ifs,0⟩] scope pos) 0 (.ref it) (.ref D) (bC X scope N s2 H2 (D+1) fp).env) (RR (.ref D)<|D+1) {s2 with heap:=h4}:=by
  obtain⟨m0,w0⟩:=w0;refine lD (fun n s'=>∃i ys its k σ' H',Inv (bC X scope N s2 H2 (D+1) fp) [(D,gR its k)] σ' H' s'/\tn i s'.heap/\(∀b∈fp,H' b=none)/\Vals ys its/\(∀(j:Nat)(v:V),(bR cap σ)[j]? =some (some v)->σ'[j]? =some (some v))/\W i n ys H') ?_ m0
   ⟨0,[],[],0,bR cap σ,H2,pinD IC hD4<|I2.hok.fresh hDs,T.keep _ _ _ st2 fun b hb o e=>k34 b o<|k23 b o e,fun b hb=>(f2 b hb).1,.nil,fun _ _ e=>e,w0⟩
  rintro n s3 ⟨i,ys,its,k,σ3,H3,I3,st3,fr3,rv,kp,w3⟩;obtain⟨hyl,tr⟩:=turn i n ys H3 w3;have pin3:=I3.pin (D,gR its k)<|CA _ BR;rcases tr with⟨stop,qn⟩|⟨go,NN,hNN,step⟩
  ·refine cT (T.done (bC X scope N s2 H2 (D+1) fp) rfl rfl rfl hc i _ s3 σ3 H3 _ I3 (fpO fr3) st3 stop) fun r s4 zz=>?_;obtain⟨hr,I4⟩:=zz;subst hr;exact fin D (D+1) σ3 H3 s4 its k ys hDs hDC (BO<|EX _) I4 rv (EW hyl)<|qn D pin3.2.1
  ·have I3':Inv (bC X scope N s2 H2 (D+1) fp) [(D,gR its k)] (bR cap σ) H3 s3:=I3.weak (by rw[I3.len,IC.len]) kp;refine cT (T.item (bC X scope N s2 H2 (D+1) fp) rfl rfl rfl hc i _ s3 _ H3 _ I3' (fpO fr3) st3 go) fun r s4 zz=>?_;obtain⟨u,hr,h4⟩:=zz;subst hr;refine cT h4 fun _ s5 zz=>?_;obtain⟨x,H5,I5,r5,y5,st5,fr5⟩:=zz;have I5':=I5.pinned (fpO fr5)<|T.obj _ _ st5;refine cT (hg _ _ _ _ _ s5 _ H5 x u _ I5' r5<|step x H5 y5) fun _ s6 zz=>?_;obtain⟨σ6,H6,I6,kp6,q6⟩:=zz;refine cT (hf _ _ _ _ _ s6 σ6 H6 _ I6 q6) fun ok s7 zz=>?_;obtain⟨H7,I7,q7⟩:=zz;have back:∀{s8:Bs}{H8:Hp},Inv (bC X scope N s2 H2 (D+1) fp) ([(D,gR its k)]++jh fp s5.heap) σ6 H8 s8->tn (i+1) s8.heap/\(∀b∈fp,H8 b=none)/\s8.heap.get? D=some (gR its k)/\H8 D=none:=fun{s8 H8}I8=>by
    have at_:∀b∈fp,∀o,s5.heap.get? b=some o->s8.heap.get? b=some o/\H8 b=none:=fun b hb o e=>by
     have z:=I8.pin (b,o)<|CA _<|CA _<|gQ hb e;exact⟨z.1,z.2.1⟩
    have pd:=I8.pin (D,gR its k)<|CA _<|FV _ BR;refine⟨T.keep _ _ _ st5 fun b hb o e=>(at_ b hb o e).1,fun b hb=>?_,pd.1,pd.2.1⟩;obtain⟨o,e,d⟩:=T.obj _ _ st5 b hb;exact(at_ b hb o e).2
   cases ok with
   |false=>
    rw[if_neg BH]at q7 ⊢;obtain⟨m',hm,w'⟩:=hNN _ _ q7;obtain⟨t7,f7,d7,n7⟩:=back I7;exact⟨m',hm,i+1,ys,its,k,σ6,H7,I7.unpinned,t7,f7,rv,fun j v e=>Keep.get kp6 e,w'⟩
   |true=>
    rw[if_pos rfl]at q7 ⊢;refine cT (he _ _ _ _ _ s7 σ6 H7 _ I7 q7) fun y8 s8 zz=>?_;obtain⟨y,H8,I8,r8,q8⟩:=zz;obtain⟨m',hm,w'⟩:=hNN _ _ q8;obtain⟨t8,f8,d8,n8⟩:=back I8;refine append_at (D:=D) (its:=its.toArray) (n:=k) d8 (fun h' hs' hD'=>?_) (by rw[BA,<-rv.length];exact EW hyl);have J0:Inv (bC X scope N s2 H2 (D+1) fp) [] σ6 H8 s8:=I8.pins_of fun p hp=>by cases hp
    have J1:Inv (bC X scope N s2 H2 (D+1) fp) [] σ6 H8 {s8 with heap:=h'}:=J0.turned (it:=D) (t':=s8.toks) (fun b o hb e=>(hs'.2 b hb).trans e) n8 (BO<|EX _) (.inr hDs) cellsD fun p hp=>by
     have:p∈([]:List (Addr×Obj)):=hp;cases this
    refine⟨m',hm,i+1,ys++[y],its++[y8],k+1,σ6,H8,pinD J1 (by simpa using hD') n8,T.keep _ _ _ t8 fun b hb o e=>(hs'.2 b<|BO<|fpD b hb).trans e,f8,rv.append<|.cons r8 .nil,fun j v e=>Keep.get kp6 e,w'⟩
 exact codeAny_compStart_list loop<|Dx (T.self _ 0 _ _ _ (T.keep _ _ _ st2 fun b hb o e=>k34 b o<|k23 b o e) loop) (fun _ _ h=>h) fun _ _ h=>h
end
section
variable{X:Cx}{scope:Fj}{N:List Str}{cap:List (Option Nat)}{tg iter elt:Expr}{ifs:List Expr}{pos:Pos}{wi:TI}{g:TG}{tf:TT}{te:TE}
theorem mJ{pins:List (Addr×Obj)}{σ σ':St}{H2 H':Hp}{s2 s':Bs}{fp:List Addr}{D C:Addr}{its:List Bq}{k:Nat}{ys:List V}{h':Heap}(I2:Inv X pins σ H2 s2)(f2:∀b∈fp,FpOk X pins H2 b)
  (hD:s2.heap.objs.size<=D) (hC:s2.heap.objs.size<=C) (hDC:D≠C) (I':Inv (bC X scope N s2 H2 C fp) [(D,gR its k)] σ' H' s') (rv:Vals ys its) (hl:ys.length<=sizeLine) (hs:BM C s'.heap h'):
  Inv X pins σ (cU H' D<|.lst ys) {s' with heap:=h'}:=by
 have pd:=I'.pin (D,gR its k)<|CA _ BR;have nD:H' D=none:=pd.2.1;have nC:H' C=none:=I'.free;have lt2:∀b o,s2.heap.get? b=some o->b≠D/\b≠C:=fun b o e=>⟨BO<|BG (BC e) hD,BO<|BG (BC e) hC⟩
 have hk:∀b o,b≠C->s'.heap.get? b=some o->h'.get? b=some o:=fun b o hb e=>(hs.2 b hb).trans e;have B:Un (frs X.stack) fp H2 H' s2.heap s'.heap:=I'.base;have tr:∀b u,H' b=some u->b≠D/\b≠C:=fun b u e=>⟨fun z=>(by rw[z,nD]at e;cases e),fun z=>(by rw[z,nC]at e;cases e)⟩
 refine I2.call' (ch:=fp) I'.os ⟨fun b o e n hb hx=>?_,fun b o e n hb hx=>?_,fun b o e n hx=>?_,fun b o e hx=>?_,fun b xs e=>?_,fun b o u e=>?_,fun b ps e=>?_⟩ (fun b u e=>?_) I'.bare fun b hb=>⟨(f2 b hb).2.2.2.1,(f2 b hb).2.1,(f2 b hb).2.2.2.2.1,(f2 b hb).2.2.2.2.2⟩
 ·exact hk b o (lt2 b o e).2 (B.keep b o e n hb hx)
 ·obtain⟨sl,q⟩:=B.slot b o e n hb hx;exact⟨sl,hk b _ (lt2 b o e).2 q⟩
 ·rw[aH (lt2 b o e).1];exact B.free b o e n hx
 ·obtain⟨o',q⟩:=B.there b o e hx;exact⟨o',hk b _ (lt2 b o e).2 q⟩
 ·rw[aH (tr b _<|B.tups b xs e).1];exact B.tups b xs e
 ·rw[aH (tr b _<|B.frzs b o u e).1];exact B.frzs b o u e
 ·obtain⟨more,q⟩:=B.tbls b ps e;exact⟨more,by rw[aH (tr b _ q).1];exact q⟩
 ·by_cases hb:b=D
  ·subst hb;rw[aG]at e;cases e;exact⟨hl,its,k,rv,hk _ _ hDC pd.1⟩
  ·rw[aH hb]at e;refine(I'.hok b u e).stay (fun c w' hc q=>hk c w' ?_ q) (fun c q=>by rw[aH (tr c _ q).1];exact q) fun c xs q=>by rw[aH (tr c _ q).1];exact q
   rcases hc with z|z;·rw[z];exact(tr b u e).2
   ·exact(tr c _ z).2
theorem jo(S:CompScope X scope N cap):∀x∈scope.names,x.2=.local->scope.names.lookup x.1=some .local:=fun x hx hl=>cW S.uniq (by rw[<-hl];exact hx)
theorem eT(S:CompScope X scope N cap)(hc:X.calm=true)(hi:PI X tg iter wi)
  (hg:∀s H C fp,PG (bC X scope N s H C fp) tg g) (hf:∀s H C fp,yG (bC X scope N s H C fp) ifs tf) (he:∀s H C fp,PE (bC X scope N s H C fp) elt te)
  (hs:∀x,foldedSetIterable iter X.env x=pure x:=by intro _;rfl):PE X (.ListComp elt [⟨tg,iter,ifs,0⟩] scope pos) (mH cap wi g tf te):=by
 intro pins s σ H Q I h;rw[eval_ListComp];have frc:∀x∈scope.names,x.2=.free->∃c,X.env.cells.lookup x.1=some c:=fun x hx hk=>I.ok.has x.1<|S.free x hx hk;refine GV (use:=none) rfl hs (gL frc) S.kind (jo S)<|cT (hi pins s σ H _ I h) fun v s1 h1=>cT h1 fun itv s2 h2=>?_;obtain⟨it,fp,tn,J,H2,rfl,I2,T,st2,f2,W,w0,turn⟩:=h2;refine kM (RR:=fun acc C=>compPost (model X.prog X.w) X.A X.xe none (EP X pins σ Q) acc C) S hc hg hf he I2 T st2 f2 w0 turn fun D C σ' H' s' its k ys hD hC hDC I' rv hl q=>?_;obtain⟨m,hn,_⟩:=I'.loc;exact⟨m,hn,fun h' hs'=>⟨.ref D,_,mJ I2 f2 hD hC hDC I' rv hl hs',rfl,q⟩⟩
end
section
variable{X:Cx}{scope:Fj}{N:List Str}{cap:List (Option Nat)}{tg iter elt:Expr}{ifs:List Expr}{pos spos py:Pos}{wi:TI}{g:TG}{tf:TT}{te:TE}{i:Nat}{y:Str}
theorem fE(hN:X.N.Nodup)(hi':X.N[i]? =some y)(hy:xf X.env.scope y)(S:CompScope X scope N cap)(hc:X.calm=true)(hi:PI X tg iter wi)
  (hg:∀s H C fp,PG (bC X scope N s H C fp) tg g) (hf:∀s H C fp,yG (bC X scope N s H C fp) ifs tf) (he:∀s H C fp,PE (bC X scope N s H C fp) elt te)
  (hsw:swapsWith (.ListComp elt [⟨tg,iter,ifs,0⟩] scope pos) (some<|.Name y py) spos.line X.env=pure true:=by rfl)
  (hs:∀x,foldedSetIterable iter X.env x=pure x:=by intro _;rfl) (hfn:X.fn y=true\/X.env.scope.names.lookup y=some .local:=by first|exact .inl rfl|exact .inr rfl|assumption):
  PS X (.Assign [.Name y py] (.ListComp elt [⟨tg,iter,ifs,0⟩] scope pos) spos) (bK (mH cap wi g tf te)<|aO i):=by
 intro pins s σ H D I h;rw[exec_Assign_Name_used _ _ _ _ hsw];refine Bk<|Ia<|Bk ?_;show wpAny _ X.A (do let _ <-comprehension (.ListComp elt [⟨tg,iter,ifs,0⟩] scope pos) scope X.env _ (newList []) false (eval iter X.env) (some<|assign (.Name y py) X.env)) _ _ s;have frc:∀x∈scope.names,x.2=.free->∃c,X.env.cells.lookup x.1=some c:=fun x hx hk=>I.ok.has x.1<|S.free x hx hk;refine Bk<|Dx (GV (use:=some<|assign (.Name y py) X.env) (Q:=fun _ s'=>SP X pins D .next s') rfl hs (gL frc) S.kind (jo S)<|cT (hi pins s σ H _ I h) fun v s1 h1=>cT h1 fun itv s2 h2=>?_) (fun _ s' hq=>Br<|Br hq) fun _ _ e=>e;obtain⟨it,fp,tn,J,H2,rfl,I2,T,st2,f2,W,w0,turn⟩:=h2;refine kM (Qv:=fun x H1=>aO i x σ H1 D.nx) (RR:=fun acc C=>compPost (model X.prog X.w) X.A X.xe (some<|assign (.Name y py) X.env) (fun _ s'=>SP X pins D .next s') acc C) S hc hg hf he I2 T st2 f2 w0 turn fun d C σ' H' s' its k ys hD hC hDC I' rv hl q=>?_;obtain⟨m,hn,_⟩:=I'.loc;have I3:Inv X pins σ (cU H' d<|.lst ys) s':=mJ (h':=s'.heap) I2 f2 hD hC hDC I' rv hl<|.refl ..;have nC:(cU H' d<|.lst ys) C=none:=by rw[aH<|EF hDC];exact I'.free
 have cL:C≠X.env.locals:=fun z=>absurd (BG I2.lt hC) (by rw[z];exact CU _);have cc:∀x c,X.env.cells.lookup x=some c->c≠C:=fun x c e z=>by
  obtain⟨v,q⟩:=I2.cell x c e;exact absurd (BG q.lt hC) (by rw[z];exact CU _)
 show wpAny _ X.A (assign (.Name y py) X.env<|.ref d) _ _ _;refine IH<|kB (v:=.ref d) I3 hN hi' hy rfl (fun s4 I4⟨a,sb,ha⟩=>?_) hfn;have aC:C≠a:=by
  rcases ha with z|z;·rw[z];exact cL
  ·exact EF<|cc _ _ z
 refine⟨m,hn.sameBut sb aC,fun h' hs'=>?_⟩;exact⟨_,_,I4.turned (it:=C) (t':=s4.toks) (fun b o hb e=>(hs'.2 b hb).trans e) nC cL (.inr<|Dw I2.sz hC) cc (fun p hp z=>absurd (BG (BC (I2.pin p hp).1) hC) (by rw[z];exact CU _)),q⟩
end
inductive Src where
 |lst (a:Addr)|tup (a:Addr)|str (l:List Nat)
def Src.has(K:Bo)(H:Hp):Src->List V->Prop
 | .lst a,xs=>SqL K H a xs
 | .tup a,xs=>SqT K H a xs
 | .str l,xs=>xs=l.map fun c=>G5<|sOf [c]
def Src.at(it:Addr)(i:Nat)(h:Heap):Src->Prop
 | .lst a=>h.IsListIter it a i
 | .tup a=>h.IsTupleIter it a i
 | .str l=>∃t,h.IsStrIter it "str_ascii_iterator" (sOf l) t i\/h.IsStrIter it "str_iterator" (sOf l) t i
def Src.val:Src->V
 | .lst a=>.ref a
 | .tup a=>.ref a
 | .str l=>.str<|sOf l
section
variable{P:BK}{w:C2}{A:Cj}{E:Bq->Bs->Prop}{s:Bs}
theorem lE{j a:Addr}{k:Nat}{us:Array Bq}{x:Bq}{Q:Bq->Bs->Prop}(g:s.heap.IsTupleIter j a k)(ga:s.heap.IsTuple a us)(gx:us[k]? =some x)
  (q:∀h',h'.IsTupleIter j a (k+1)->BM j s.heap h'->Q x {s with heap:=h'}):wpAny (model P w) A (BY<|.ref j) Q E s:=by
 obtain⟨ob,e1,e2,e3⟩:=id g;obtain⟨ot,f1,_,nn,f3⟩:=ga;unfold BY;refine Bk<|CG (name:=Bu "__next__") g.typeIs Dy<|CI Dy g.typeIs Fq ?_<|Ff _;show wpAny (model P w) _ (field (.ref j) 0>>=_) _ _ s;refine Bk<|CJ e1 e3 (x:=.ref a) rfl ?_;show wpAny (model P w) _ (if(CN a==CM)=true then _ else _) _ _ s;rw[if_neg (show ¬((CN a==CM)=true)from BH)];show wpAny (model P w) _ (field (.ref j) 1>>=_) _ _ s;refine Bk<|CJ e1 e3 (x:=.int k 0) rfl ?_;show wpAny (model P w) _ (seqItems? (.ref a)>>=_) _ _ s;refine Bk<|Cy f1 f3 ?_;simp only[DQ,gx];refine Bk (Gx e1 e3 (by simp) (Br ⟨x,rfl,Br (q _ ⟨_,E3 _ e1<|Obj.isFreed_of_fields<|IB e3 _,(Obj.cls_mapFields ..).trans e2,(by rw[IB e3];simp[rawInt])⟩<|DC ..)⟩))
theorem mK{j a:Addr}{k:Nat}{us:Array Bq}{Q:Bq->Bs->Prop}(hh:A.handled=none)(g:s.heap.IsTupleIter j a k)(ga:s.heap.IsTuple a us)(gx:us[k]? =none)
  (q:∀h' e,Fo j s.heap h'->(∃o,h'.get? e=some o/\o.cls=.type "StopIteration")->E (.ref e) {s with heap:=h'}):wpAny (model P w) A (BY<|.ref j) Q E s:=by
 obtain⟨ob,e1,e2,e3⟩:=id g;obtain⟨ot,f1,_,nn,f3⟩:=ga;unfold BY;refine Bk<|CG (name:=Bu "__next__") g.typeIs Dy<|CI Dy g.typeIs Fq ?_<|Ff _;show wpAny (model P w) _ (field (.ref j) 0>>=_) _ _ s;refine Bk<|CJ e1 e3 (x:=.ref a) rfl ?_;show wpAny (model P w) _ (if(CN a==CM)=true then _ else _) _ _ s;rw[if_neg (show ¬((CN a==CM)=true)from BH)];show wpAny (model P w) _ (field (.ref j) 1>>=_) _ _ s;refine Bk<|CJ e1 e3 (x:=.int k 0) rfl ?_;show wpAny (model P w) _ (seqItems? (.ref a)>>=_) _ _ s;refine Bk<|Cy f1 f3 ?_;simp only[DQ,gx];refine Bk (Ee (Bk (Gx e1 e3 (by simp) ?_)));show wpAny (model P w) _ (newExc (.type "StopIteration") []>>=_) _ _ _;refine Bk ?_;simp only[newExc,newTuple];refine Bk (Ea (Bk (m:=firstArgMember _ _) (Jl (a:=CM) (by first|rfl|(simp only[firstArgMember];rfl)) (Ea ?_ (by size_fits)))) (by size_fits));simp only[raiseNew];refine Bk<|Km ?_
 first|rw[show A.in1.handled=none from hh]|rw[hh]
 exact Bk<|Br<|wpAny_throw<|q _ _ (((DC ..).extBut.push _).push _) ⟨_,By _ rfl,rfl⟩
theorem sk(hh:A.handled=none)(j a:Addr)(ne:a≠j)(us:Array Bq):Hx P w A j [j,a] us.size (fun k v=>us[k]? =some v) (fun k h=>h.IsTupleIter j a k/\h.IsTuple a us) where
 live:=fun _ _ st=>by obtain⟨⟨o,e,_⟩,_⟩:=st;exact⟨o,e⟩
 frame:=fun _ _ _ st hk=>⟨st.1.at fun o e=>hk j (by simp) o e,by obtain⟨o,e,r⟩:=st.2;exact⟨o,hk a (by simp) o e,r⟩⟩
 item:=fun k s Q E hk st q=>lE st.1 st.2 (x:=us[k]) (by simp[hk]) fun h' g' sb=>q _ h' s.toks (by simp[hk]) ⟨g',by obtain⟨o,e,r⟩:=st.2;exact⟨o,(sb.2 a ne).trans e,r⟩⟩ sb
 done:=fun s Q E st q=>mK hh st.1 st.2 (by simp) q
theorem Src.draws{X:Cx}{pins:List (Addr×Obj)}{σ:St}{H:Hp}{s0:Bs}{c:Src}{xs:List V}{it:Addr}{i:Nat}(hh:A.handled=none)(I:Inv X pins σ H s0)(hs:c.has X.K H xs)(ht:c.at it i s0.heap)(hit:H it=none):
  ∃(fp:List Addr)(Pt:Nat->Bq->Prop)(St:Nat->Heap->Prop),Hx X.prog X.w A it fp xs.length Pt St/\St i s0.heap/\(∀k v,Pt k v-> ∃x,xs[k]? =some x/\RelV x v)/\(∀k h,St k h->c.at it k h)/\it∈fp/\
   ∀b∈fp,b=it\/H b≠none\/∃o,X.base.get? b=some o:=by
 cases c with
 |lst a=>
  obtain⟨its,rv,p,hz⟩:=I.list hs;have ne:a≠it:=fun z=>by
   obtain⟨o,e,c1,_⟩:=(show s0.heap.IsListIter it a i from ht)
   obtain⟨o2,e2,c2,_⟩:=p.isList;rw[z,e]at e2;cases e2;rw[c1]at c2;exact absurd c2 (by decide)
  have dr:=Draws.list (prog:=X.prog) (w:=X.w) hh it a ne its.toArray;rw[BA,<-rv.length]at dr;refine⟨_,_,_,dr,⟨ht,p.isList⟩,fun k v e=>?_,fun k h st=>st.1,by simp,fun b hb=>?_⟩
  ·have e:its[k]? =some v:=by simpa using e
   have hk:k<xs.length:=by rw[rv.length];exact(Bv.mp e).1
   obtain⟨u,hu,ru⟩:=rv.get (i:=k) (x:=xs[k]) (by simp[hk]);rw[e]at hu;cases hu;exact⟨_,by simp[hk],ru⟩
  ·rcases BE.mp hb with z | z;·exact .inl z
   ·have z:b=a:=by simpa using z
    subst z;rcases (show SqL X.K H b xs from hs)with(z|⟨o,z⟩)|⟨o,_,_,z,_⟩
    ·exact .inr (.inl (by rw[z];simp))
    ·exact .inr (.inl (by rw[z];simp))
    ·exact .inr<|.inr ⟨_,I.mod.kin _ _ z⟩
 |tup a=>
  obtain⟨its,rv,p,hz⟩:=I.tuple hs;have p:s0.heap.IsTuple a its.toArray:=p;have ne:a≠it:=fun z=>by
   obtain⟨o,e,c1,_⟩:=(show s0.heap.IsTupleIter it a i from ht)
   obtain⟨o2,e2,c2,_⟩:=id p;rw[z,e]at e2;cases e2;rw[c1]at c2;exact absurd c2 (by decide)
  have dr:=sk (P:=X.prog) (w:=X.w) hh it a ne its.toArray;rw[BA,<-rv.length]at dr;refine⟨_,_,_,dr,⟨ht,p⟩,fun k v e=>?_,fun k h st=>st.1,by simp,fun b hb=>?_⟩
  ·have e:its[k]? =some v:=by simpa using e
   have hk:k<xs.length:=by rw[rv.length];exact(Bv.mp e).1
   obtain⟨u,hu,ru⟩:=rv.get (i:=k) (x:=xs[k]) (by simp[hk]);rw[e]at hu;cases hu;exact⟨_,by simp[hk],ru⟩
  ·rcases BE.mp hb with z | z;·exact .inl z
   ·have z:b=a:=by simpa using z
    subst z;rcases (show SqT X.K H b xs from hs)with(z|⟨o,z⟩)|⟨o,_,_,z,_⟩
    ·exact .inr (.inl (by rw[z];simp))
    ·exact .inr (.inl (by rw[z];simp))
    ·exact .inr<|.inr ⟨_,I.mod.kin _ _ z⟩
 |str l=>
  have hs:xs=l.map fun c=>G5 (sOf [c]):=hs;obtain⟨t,ht⟩:=(show ∃t,s0.heap.IsStrIter it "str_ascii_iterator" (sOf l) t i\/s0.heap.IsStrIter it "str_iterator" (sOf l) t i from ht)
  have hn:(sOf l).cps.size=xs.length:=by rw[hs];simp[sOf]
  have sg:∀(k:Nat)(v:Bq),(∃c u,(sOf l).cps[k]? =some c/\v=.str ⟨#[c]⟩ u)->∃x,xs[k]? =some x/\RelV x v:=fun k v⟨c,u,e,ev⟩=>by
   have e:l[k]? =some c:=by simpa [sOf] using e
   exact⟨.str<|sOf [c],by rw[hs];simp[e],⟨u,ev⟩⟩
  rcases ht with ht|ht;·exact⟨_,_,_,hn▸Draws.strAscii hh it (sOf l) t,ht,sg,fun k h st=>⟨t,.inl st⟩,by simp,fun b hb=>.inl (by simpa using hb)⟩
  ·exact⟨_,_,_,hn▸Draws.strWide hh it (sOf l) t,ht,sg,fun k h st=>⟨t,.inr st⟩,by simp,fun b hb=>.inl (by simpa using hb)⟩
end
def eK(v:Bq)(h:Heap)(o:Obj):Prop:=∀(prog:BK)(w:C2)(A:Cj)(E:Bq->Bs->Prop)(Q:Bq->Bs->Prop)(s:Bs),s.heap=h->Q (.ref h.objs.size) {s with heap:=h.push o}->wpAny (model prog w) A (pyIter v) Q E s
def yI(h:Heap)(o1 o2:Obj):Heap:=((h.push o1).push o2).push {cls:=.type "tuple",data:=.seq #[.ref h.objs.size,.ref (h.push o1).objs.size]}
def yJ(h:Heap)(o1 o2:Obj):Heap:=(yI h o1 o2).push {cls:=.type "tuple",data:=.seq #[.none,.none]}
def yk(h:Heap)(o1 o2:Obj):Heap:=(yJ h o1 o2).push {cls:=.type "zip",data:=.fields #[.none,.bool false,.bool false,.ref ((h.push o1).push o2).objs.size,.ref (yI h o1 o2).objs.size]}
theorem lF(v1 v2:Bq)(o1 o2:Obj):Meets (Dv.«zip.__new__» ⟨[.type "zip",v1,v2],[]⟩) (fun _ R s=>eK v1 s.heap o1/\eK v2 (s.heap.push o1) o2/\R (.ok<|.ret<|.ref (yJ s.heap o1 o2).objs.size) {s with heap:=yk s.heap o1 o2}):=
 .of_wp fun prog w A R s h=>by
  obtain⟨hp,g,d,tk,os⟩:=s;obtain⟨i1,i2,h⟩:=h;have hsub:=sub_zip;have j1:=fun(A:Cj)(E:Bq->Bs->Prop)(Q:Bq->Bs->Prop)(q:Q _ _)=>i1 prog w A E Q ⟨hp,g,d,tk,os⟩ rfl q;have j2:=fun(A:Cj)(E:Bq->Bs->Prop)(Q:Bq->Bs->Prop)(q:Q _ _)=>i2 prog w A E Q ⟨hp.push o1,g,d,tk,os⟩ rfl q
  wp_walk using j1 _ _ _,j2 _ _ _
  exact⟨_,rfl,h⟩
theorem qv{P:BK}{w:C2}{A:Cj}{E:Bq->Bs->Prop}{s:Bs}{v1 v2:Bq}{o1 o2:Obj}{Q:Bq->Bs->Prop}(i1:eK v1 s.heap o1)(i2:eK v2 (s.heap.push o1) o2)
  (f1:o1.isFreed=false) (f2:o2.isFreed=false)
  (q:∀h',Eu h' (s.heap.objs.size+4) (s.heap.objs.size+2) (s.heap.objs.size+3) .none->Fg h' (s.heap.objs.size+2) (.ref s.heap.objs.size) (.ref<|s.heap.objs.size+1)->Fg h' (s.heap.objs.size+3) .none .none->
   h'.get? s.heap.objs.size=some o1->h'.get? (s.heap.objs.size+1)=some o2->(∀c o,s.heap.get? c=some o->h'.get? c=some o)->Q (.ref (s.heap.objs.size+4)) {s with heap:=h'}):
  wpAny (model P w) A (call (.type "zip") [v1,v2]) Q E s:=by
 refine callType_new ID (by decide) (PySem.F.typeCall_zip_2 _ _) (PySem.F.newCall_zip_2 _ _) (fun obj=>PySem.F.args_object_init_3 obj _ _) HC (lF v1 v2 o1 o2) ⟨i1,i2,?_⟩;have z1:(s.heap.push o1).objs.size=s.heap.objs.size+1:=Cs ..;have z2:((s.heap.push o1).push o2).objs.size=s.heap.objs.size+2:=by rw[Cs,z1]
 have z3:(yI s.heap o1 o2).objs.size=s.heap.objs.size+3:=by unfold yI;rw[Cs,z2]
 have z4:(yJ s.heap o1 o2).objs.size=s.heap.objs.size+4:=by unfold yJ;rw[Cs,z3]
 have g5:(yk s.heap o1 o2).get? (yJ s.heap o1 o2).objs.size=some _:=By _ rfl;have g4:(yk s.heap o1 o2).get? (yI s.heap o1 o2).objs.size=some _:=Bm _<|By _ rfl;have g3:(yk s.heap o1 o2).get? ((s.heap.push o1).push o2).objs.size=some _:=Bm _<|Bm _<|By _ rfl;have g2:(yk s.heap o1 o2).get? (s.heap.push o1).objs.size=some o2:=Bm _<|Bm _<|Bm _<|By _ f2;have g1:(yk s.heap o1 o2).get? s.heap.objs.size=some o1:=Bm _<|Bm _<|Bm _<|Bm _<|By _ f1;show _/\_;rw[z2,z3,z4]at g5;rw[z1,z2]at g3;rw[z3]at g4;rw[z1]at g2;rw[z4];exact⟨⟨_,g5,rfl⟩,q _ g5 g3 g4 g1 g2 fun c o x=>Bm _<|Bm _<|Bm _<|Bm _<|Bm _ x⟩
theorem Src.iter{X:Cx}{pins:List (Addr×Obj)}{σ:St}{H:Hp}{s:Bs}{c:Src}{xs:List V}{v:Bq}{h:Heap}(I:Inv X pins σ H s)(hs:c.has X.K H xs)(rv:RelV c.val v)(k:∀b o,s.heap.get? b=some o->h.get? b=some o):
  ∃o,eK v h o/\o.isFreed=false/\(∀h':Heap,h'.get? h.objs.size=some o->c.at h.objs.size 0 h'):=by
 cases c with
 |lst a=>
  obtain⟨its,r,p,hz⟩:=I.list hs;cases (show v=.ref a from rv);obtain⟨o,e,r2⟩:=p.isList;refine⟨{cls:=.type "list_iterator",data:=.fields #[.ref a,.int 0 0]},fun prog w A E Q s' e' q=>?_,rfl,fun h' e'=>⟨_,e',rfl,rfl⟩⟩;subst e';exact Ft ⟨o,k a o e,r2⟩ q
 |tup a=>
  obtain⟨its,r,p,hz⟩:=I.tuple hs;cases (show v=.ref a from rv);obtain⟨o,e,r2⟩:=p;refine⟨{cls:=.type "tuple_iterator",data:=.fields #[.ref a,.int 0 0]},fun prog w A E Q s' e' q=>?_,rfl,fun h' e'=>⟨_,e',rfl,rfl⟩⟩;subst e';exact wpAny_pyIter_tuple ⟨o,k a o e,r2⟩ q
 |str l=>
  obtain⟨t,rfl⟩:=(show ∃t,v=.str (sOf l) t from rv)
  cases ha:(sOf l).cps.all (· <128);·exact⟨{cls:=.type "str_iterator",data:=.fields #[.str (sOf l) t,.int 0 0]},fun prog w A E Q s' e' q=>by subst e';exact IQ ha q,rfl,fun h' e'=>⟨t,.inr ⟨_,e',rfl,rfl⟩⟩⟩
  ·exact⟨{cls:=.type "str_ascii_iterator",data:=.fields #[.str (sOf l) t,.int 0 0]},fun prog w A E Q s' e' q=>by subst e';exact Iz ha q,rfl,fun h' e'=>⟨t,.inl ⟨_,e',rfl,rfl⟩⟩⟩
section
variable{P:BK}{w:C2}{A:Cj}{E:Bq->Bs->Prop}{s:Bs}{z TI TO i1 i2:Addr}{fp1 fp2:List Addr}{n1 n2 k:Nat}{P1 P2:Nat->Bq->Prop}{S1 S2:Nat->Heap->Prop}{a b:Bq}
structure ZApart(z TI TO i1 i2:Addr)(fp1 fp2:List Addr):Prop where
 c1:TI≠z
 c2:TO≠z
 c3:i1≠z
 c4:i2≠z
 c5:TI≠TO
 c6:TI≠i1
 c7:TI≠i2
 c8:TO≠i1
 c9:TO≠i2
 d1:z∉fp1/\TO∉fp1/\i2∉fp1
 d2:z∉fp2/\TO∉fp2/\i1∉fp2
theorem ax{n:Nat}{it:Addr}{fp:List Addr}{Pt:Nat->Bq->Prop}{S:Nat->Heap->Prop}(D:Hx P w A it fp n Pt S){j:Nat}{h h':Heap}{c:Addr}(st:S j h)(sb:BM c h h')(hc:c∉fp):S j h':=
 D.frame _ _ _ st fun b hb o e=>(sb.2 b fun q=>hc<|q▸hb).trans e
theorem qw{Q:Option Bq->Bs->Prop}(D1:Hx P w A.in1 i1 fp1 n1 P1 S1)(D2:Hx P w A.in1 i2 fp2 n2 P2 S2)(Z:ZApart z TI TO i1 i2 fp1 fp2)(h1:k<n1)(h2:k<n2)(hz:Eu s.heap z TI TO .none)
  (hI:Fg s.heap TI (.ref i1) (.ref i2)) (hO:Fg s.heap TO a b) (t1:S1 k s.heap) (t2:S2 k s.heap)
  (q:∀x y h' tk T,P1 k x->P2 k y->T=s.heap.objs.size->Eu h' z TI TO (rawInt T)->Fg h' TO x y->S1 (k+1) h'->S2 (k+1) h'->Fg h' T x y->
   (∀c o,c≠z->c≠TO->c≠i1->c≠i2->s.heap.get? c=some o->h'.get? c=some o)->Q (some (.ref T)) {s with heap:=h',toks:=tk}):
  wpAny (model P w) A (pyNext<|.ref z) Q E s:=by
 have hT:s.TypeIs (.ref z) "zip":=⟨_,hz,rfl⟩
 unfold pyNext;refine Bk<|EB<|CG (name:=Bu "__next__") hT D0<|CI D0 hT Ez ?_<|Em _;obtain⟨hp,gg,dd,tk0,os⟩:=s;show wpAny (model P w) _ (field (.ref z) 2>>=_) _ _ _;refine Bk<|CJ hz rfl (x:=.bool false) rfl ?_;show wpAny (model P w) _ (field (.ref z) 3>>=_) _ _ _;refine Bk<|CJ hz rfl (x:=.ref TI) rfl<|Bk<|Cy hI rfl ?_;show wpAny (model P w) _ (Cb (.ref z)>>=_) _ _ _;refine Bk ?_;unfold Cb;refine Bk<|CJ hz rfl (x:=.none) rfl<|Br ?_;simp only[if_true];refine Bk (Ee (Bk (CJ hz rfl (x:=.ref TO) rfl (Bk (CB hz (by simp) fun g1 y1 b1=>?_)))));replace y1:Eu g1 z TI TO .ellipsis:=y1;replace b1:BM z hp g1:=b1;refine Bk ?_;simp only[EY,G9,Fc,Fx];refine Bk<|Bk<|DL ?_;show wpAny (model P w) _ (BY (.ref i1)>>=_) _ _ _;refine Bk<|D1.item k _ _ _ h1 (ax D1 t1 b1 Z.d1.1) fun x g2 tk2 px u1 b2=>Br ?_;replace b2:BM i1 g1 g2:=b2;have O2:Fg g2 TO a b:=b2.extBut _ _ Z.c8<|b1.extBut _ _ Z.c2 hO;refine Bk<|Cy O2 rfl<|Bk<|FX O2 fun g3 O3 b3=>?_;replace O3:Fg g3 TO x b:=O3;replace b3:BM TO g2 g3:=b3;refine Bk<|Ew<|Br<|Bk<|Bk<|DL ?_;show wpAny (model P w) _ (BY (.ref i2)>>=_) _ _ _;refine Bk<|D2.item k _ _ _ h2 (ax D2 (ax D2 (ax D2 t2 b1 Z.d2.1) b2 Z.d2.2.2) b3 Z.d2.2.1) fun y g4 tk4 py u2 b4=>Br ?_;replace b4:BM i2 g3 g4:=b4;have O4:Fg g4 TO x b:=b4.extBut _ _ Z.c9 O3;refine Bk<|Cy O4 rfl<|Bk<|FX O4 fun g5 O5 b5=>?_;replace O5:Fg g5 TO x y:=O5;replace b5:BM TO g4 g5:=b5;refine Bk<|Ew<|Br<|Br<|Bk<|Cy O5 rfl<|Bk<|HS ?_;have sz:g5.objs.size=hp.objs.size:=by rw[b5.1,b4.1,b3.1,b2.1,b1.1]
 have y5:Eu g5 z TI TO .ellipsis:=b5.extBut _ _ Z.c2.symm<|b4.extBut _ _ Z.c4.symm<|b3.extBut _ _ Z.c2.symm<|b2.extBut _ _ Z.c3.symm y1;have k5:∀c o,c≠z->c≠TO->c≠i1->c≠i2->hp.get? c=some o->g5.get? c=some o:=fun c o e1 e2 e3 e4 e=>b5.extBut _ _ e2<|b4.extBut _ _ e4<|b3.extBut _ _ e2<|b2.extBut _ _ e3<|b1.extBut _ _ e1 e;have v1:S1 (k+1) g5:=ax D1 (ax D1 (ax D1 u1 b3 Z.d1.2.1) b4 Z.d1.2.2) b5 Z.d1.2.1;have v2:S2 (k+1) g5:=ax D2 u2 b5 Z.d2.2.1;have lz:z<g5.objs.size:=BC y5;show wpAny (model P w) _ (Dh (.ref z) (.ref g5.objs.size)>>=_) _ _ _;refine Bk ?_;unfold Dh;have y6:Eu (g5.push {cls:=.type "tuple",data:=.seq #[x,y]}) z TI TO .ellipsis:=Bm _ y5;refine Bk (CB y6 (by simp) fun g7 y7 b7=>?_);replace y7:Eu g7 z TI TO (rawInt g5.objs.size):=y7;replace b7:BM z (g5.push {cls:=.type "tuple",data:=.seq #[x,y]}) g7:=b7;refine CB y7 (by simp) fun g8 y8 b8=>?_;replace y8:Eu g8 z TI TO (rawInt g5.objs.size):=y8;replace b8:BM z g7 g8:=b8;have up:∀c o,c≠z->g5.get? c=some o->g8.get? c=some o:=fun c o e1 e=>b8.extBut _ _ e1<|b7.extBut _ _ e1<|Bm _ e;have T8:Fg g8 g5.objs.size x y:=b8.extBut _ _ (E9 lz)<|b7.extBut _ _ (E9 lz)<|By _ rfl;refine Br ⟨_,rfl,Br<|q x y g8 _ g5.objs.size px py sz y8 (up _ _ Z.c2 O5) (D1.frame _ _ _ v1 fun b hb o e=>up b o (fun q=>Z.d1.1<|q▸hb) e) (D2.frame _ _ _ v2 fun b hb o e=>up b o (fun q=>Z.d2.1<|q▸hb) e) T8 fun c o e1 e2 e3 e4 e=>up c o e1<|k5 c o e1 e2 e3 e4 e⟩
theorem sm{Q:Option Bq->Bs->Prop}(hh:A.handled=none)(D1:Hx P w A.in1 i1 fp1 n1 P1 S1)(D2:Hx P w A.in1 i2 fp2 n2 P2 S2)(Z:ZApart z TI TO i1 i2 fp1 fp2)(hk:k=n1\/(k<n1/\k=n2))(hz:Eu s.heap z TI TO .none)
  (hI:Fg s.heap TI (.ref i1) (.ref i2)) (hO:Fg s.heap TO a b) (t1:S1 k s.heap) (t2:S2 k s.heap)
  (q:∀h' tk,(∀c o,c≠z->c≠TO->c≠i1->c≠i2->s.heap.get? c=some o->h'.get? c=some o)->Q none {s with heap:=h',toks:=tk}):
  wpAny (model P w) A (pyNext<|.ref z) Q E s:=by
 have hT:s.TypeIs (.ref z) "zip":=⟨_,hz,rfl⟩
 unfold pyNext;refine Bk<|EB<|CG (name:=Bu "__next__") hT D0<|CI D0 hT Ez ?_<|Em _;obtain⟨hp,gg,dd,tk0,os⟩:=s;show wpAny (model P w) _ (field (.ref z) 2>>=_) _ _ _;refine Bk<|CJ hz rfl (x:=.bool false) rfl ?_;show wpAny (model P w) _ (field (.ref z) 3>>=_) _ _ _;refine Bk<|CJ hz rfl (x:=.ref TI) rfl<|Bk<|Cy hI rfl ?_;show wpAny (model P w) _ (Cb (.ref z)>>=_) _ _ _;refine Bk ?_;unfold Cb;refine Bk<|CJ hz rfl (x:=.none) rfl<|Br ?_;simp only[if_true];refine Bk (Ee (Bk (CJ hz rfl (x:=.ref TO) rfl (Bk (CB hz (by simp) fun g1 y1 b1=>?_)))));replace y1:Eu g1 z TI TO .ellipsis:=y1;replace b1:BM z hp g1:=b1;refine Bk ?_;simp only[EY,G9,Fc,Fx];refine Bk<|Bk<|DL ?_;show wpAny (model P w) _ (BY (.ref i1)>>=_) _ _ _;rcases hk with hk|⟨hk1,hk2⟩
 ·subst hk;refine Bk<|D1.done _ _ _ (ax D1 t1 b1 Z.d1.1) fun g2 e b2 he=>?_;obtain⟨oe,hoe,hce⟩:=he;replace b2:Fo i1 g1 g2:=b2;have y2:Eu g2 z TI TO .ellipsis:=b2 _ _ Z.c3.symm y1;have ez:e≠z:=fun x=>by subst x;rw[y2]at hoe;cases hoe;simp at hce
  refine CB y2 (by simp) fun g3 _ b3=>?_;exact Bk<|En (T:="StopIteration") (b:=true) ⟨oe,b3.extBut _ _ ez hoe,hce⟩ EM<|Br<|q g3 _ fun c o e1 _ e3 _ x=>b3.extBut _ _ e1<|b2 _ _ e3<|b1.extBut _ _ e1 x
 ·subst hk2;refine Bk<|D1.item k _ _ _ hk1 (ax D1 t1 b1 Z.d1.1) fun x g2 tk2 px u1 b2=>Br ?_;replace b2:BM i1 g1 g2:=b2;have O2:Fg g2 TO a b:=b2.extBut _ _ Z.c8<|b1.extBut _ _ Z.c2 hO;refine Bk<|Cy O2 rfl<|Bk<|FX O2 fun g3 O3 b3=>?_;replace b3:BM TO g2 g3:=b3;refine Bk<|Ew<|Br<|Bk<|Bk<|DL ?_;show wpAny (model P w) _ (BY (.ref i2)>>=_) _ _ _;refine Bk<|D2.done _ _ _ (ax D2 (ax D2 (ax D2 t2 b1 Z.d2.1) b2 Z.d2.2.2) b3 Z.d2.2.1) fun g4 e b4 he=>?_;obtain⟨oe,hoe,hce⟩:=he;replace b4:Fo i2 g3 g4:=b4;have y4:Eu g4 z TI TO .ellipsis:=b4 _ _ Z.c4.symm<|b3.extBut _ _ Z.c2.symm<|b2.extBut _ _ Z.c3.symm y1;have ez:e≠z:=fun x=>by subst x;rw[y4]at hoe;cases hoe;simp at hce
  refine CB y4 (by simp) fun g5 _ b5=>?_;exact Bk<|En (T:="StopIteration") (b:=true) ⟨oe,b5.extBut _ _ ez hoe,hce⟩ EM<|Br<|q g5 _ fun c o e1 e2 e3 e4 x=>b5.extBut _ _ e1<|b4 _ _ e4<|b3.extBut _ _ e2<|b2.extBut _ _ e3<|b1.extBut _ _ e1 x
end
def yK(K:Bo)(c1 c2:Src):It:=
  ⟨fun i H=>∃xs ys x y,c1.has K H xs/\c2.has K H ys/\xs[i]? =some x/\ys[i]? =some y,
   fun i H v H'=>∃p x y,H p=none/\v=.ref p/\(∀xs,c1.has K H xs->xs[i]? =some x)/\(∀ys,c2.has K H ys->ys[i]? =some y)/\H'=cU H p (.tup [x,y]),
   fun i H=>∃xs ys,c1.has K H xs/\c2.has K H ys/\(i=xs.length\/(i<xs.length/\i=ys.length))⟩
theorem Src.inj{X:Cx}{pins:List (Addr×Obj)}{σ:St}{H:Hp}{s:Bs}{c:Src}{xs ys:List V}(I:Inv X pins σ H s)(h1:c.has X.K H xs)(h2:c.has X.K H ys):xs=ys:=by
 cases c with
 |lst a=>exact I.list_inj h1 h2
 |tup a=>exact I.tuple_inj h1 h2
 |str l=>exact Eq.trans h1<|Eq.symm h2
theorem Src.at_keep{c:Src}{it:Addr}{i:Nat}{h h':Heap}(st:c.at it i h)(k:∀o,h.get? it=some o->h'.get? it=some o):c.at it i h':=by
 cases c with
 |lst a=>obtain⟨o,e,r⟩:=st;exact⟨o,k o e,r⟩
 |tup a=>obtain⟨o,e,r⟩:=st;exact⟨o,k o e,r⟩
 |str l=>
  obtain⟨t,st⟩:=st;rcases st with⟨o,e,r⟩|⟨o,e,r⟩
  ·exact⟨t,.inl ⟨o,k o e,r⟩⟩
  ·exact⟨t,.inr ⟨o,k o e,r⟩⟩
theorem Src.at_obj{c:Src}{it:Addr}{i:Nat}{h:Heap}(st:c.at it i h):∃o,h.get? it=some o/\∃vs,o.data=.fields vs:=by
 cases c with
 |lst a=>obtain⟨o,e,_,r⟩:=st;exact⟨o,e,_,r⟩
 |tup a=>obtain⟨o,e,_,r⟩:=st;exact⟨o,e,_,r⟩
 |str l=>
  obtain⟨t,st⟩:=st;rcases st with⟨o,e,_,r⟩|⟨o,e,_,r⟩
  ·exact⟨o,e,_,r⟩
  ·exact⟨o,e,_,r⟩
def Az(c1 c2:Src)(z TI TO i1 i2:Addr)(i:Nat)(h:Heap):Prop:=Eu h z TI TO .none/\Fg h TI (.ref i1) (.ref i2)/\(∃a b,Fg h TO a b)/\c1.at i1 i h/\c2.at i2 i h
structure ZIds(z TI TO i1 i2:Addr):Prop where
 c1:TI≠z
 c2:TO≠z
 c3:i1≠z
 c4:i2≠z
 c5:TI≠TO
 c6:TI≠i1
 c7:TI≠i2
 c8:TO≠i1
 c9:TO≠i2
 c10:i1≠i2
theorem sq{X:Cx}{pins:List (Addr×Obj)}{σ:St}{H:Hp}{s:Bs}{z TI TO i1 i2:Addr}{fp1 fp2:List Addr}(I:Inv X pins σ H s)(Z:ZIds z TI TO i1 i2)(hf:∀b∈[z,TI,TO,i1,i2],FpOk X pins H b)
  (g1:∀b∈fp1,b=i1\/H b≠none\/∃o,X.base.get? b=some o) (g2:∀b∈fp2,b=i2\/H b≠none\/∃o,X.base.get? b=some o):ZApart z TI TO i1 i2 fp1 fp2:=by
 have no:∀b∈[z,TI,TO,i1,i2],¬(H b≠none\/∃o,X.base.get? b=some o):=fun b hb q=>by
  rcases q with q|⟨o,q⟩
  ·exact q (hf b hb).1
  ·rcases (hf b hb).2.2.2.1 with y | y;·exact I.ok.noex b o q y
   ·exact absurd (BG (BG (BC q) I.ok.bsz) y)<|CU _
 refine⟨Z.c1,Z.c2,Z.c3,Z.c4,Z.c5,Z.c6,Z.c7,Z.c8,Z.c9,⟨fun m=>?_,fun m=>?_,fun m=>?_⟩,⟨fun m=>?_,fun m=>?_,fun m=>?_⟩⟩;·exact(g1 _ m).elim (fun e=>Z.c3 e.symm) (no z (by simp))
 ·exact(g1 _ m).elim (fun e=>Z.c8 e) (no TO (by simp))
 ·exact(g1 _ m).elim (fun e=>Z.c10 e.symm) (no i2 (by simp))
 ·exact(g2 _ m).elim (fun e=>Z.c4 e.symm) (no z (by simp))
 ·exact(g2 _ m).elim (fun e=>Z.c9 e) (no TO (by simp))
 ·exact(g2 _ m).elim (fun e=>Z.c10 e) (no i1 (by simp))
theorem sr{P:BK}{w:C2}{K:Bo}{elts:List Expr}{kk:Nat}{tp:Pos}(c1 c2:Src)(z TI TO i1 i2:Addr)(Z:ZIds z TI TO i1 i2):
  Turn P w K (.Tuple elts kk tp) (yK K c1 c2) [z,TI,TO,i1,i2] z (Az c1 c2 z TI TO i1 i2) where
 mem:=by simp
 obj:=fun i h st b hb=>by
  obtain⟨hz,hI,⟨a,b',hO⟩,t1,t2⟩:=st;obtain⟨o1,e1,v1,d1⟩:=Src.at_obj t1;obtain⟨o2,e2,v2,d2⟩:=Src.at_obj t2;simp only[BE,Ci,or_false]at hb;rcases hb with rfl|rfl|rfl|rfl|rfl;·exact⟨_,hz,fun v q=>by cases (show Jj _=FN v from q)⟩
  ·exact⟨_,hI,fun v q=>by cases (show HR _ _=FN v from q)⟩
  ·exact⟨_,hO,fun v q=>by cases (show HR _ _=FN v from q)⟩
  ·exact⟨_,e1,fun v q=>by rw[d1]at q;cases q⟩
  ·exact⟨_,e2,fun v q=>by rw[d2]at q;cases q⟩
 keep:=fun i h h' st k=>by
  obtain⟨hz,hI,⟨a,b',hO⟩,t1,t2⟩:=st;exact⟨k z (by simp) _ hz,k TI (by simp) _ hI,⟨a,b',k TO (by simp) _ hO⟩,Src.at_keep t1 (k i1 (by simp)),Src.at_keep t2 (k i2 (by simp))⟩
 item:=by
  intro X hP hw hK hc i pins s σ H E I hf st hg;subst hP hw hK;obtain⟨xs,ys,x,y,hx,hy,ex,ey⟩:=hg;obtain⟨hz,hI,⟨a,b',hO⟩,t1,t2⟩:=st;have hh:X.A.in1.handled=none:=I.ok.hd hc;obtain⟨fp1,P1,S1,D1,u1,r1,a1,_,g1⟩:=Src.draws (A:=X.A.in1) hh I hx t1 (hf i1 (by simp)).1;obtain⟨fp2,P2,S2,D2,u2,r2,a2,_,g2⟩:=Src.draws (A:=X.A.in1) hh I hy t2 (hf i2 (by simp)).1;have ZA:=sq I Z hf g1 g2;refine qw D1 D2 ZA (Bv.mp ex).1 (Bv.mp ey).1 hz hI hO u1 u2 fun vx vy h' tk T px py hT hz' hO' w1 w2 hTp kp=>?_;obtain⟨x',ex',rx⟩:=r1 i vx px;obtain⟨y',ey',ry⟩:=r2 i vy py;rw[ex]at ex';cases ex';rw[ey]at ey';cases ey';have nT:H T=none:=by rw[hT];exact I.hok.fresh<|Bt _
  refine⟨_,rfl,GD hz' fun h2 hz2 sb=>?_⟩;have lt:∀{c o},s.heap.get? c=some o->c≠T:=fun e=>by rw[hT];exact BO<|BC e
  have up:∀c o,c≠z->h'.get? c=some o->h2.get? c=some o:=fun c o hc e=>(sb.2 c hc).trans e;have kp2:∀b o,b∉[z,TO,i1,i2]->s.heap.get? b=some o->h2.get? b=some o:=fun b o hb e=>by
   simp only[BE,Ci,or_false,not_or]at hb;exact up b o hb.1<|kp b o hb.1 hb.2.1 hb.2.2.1 hb.2.2.2 e
  have ch:∀b∈[z,TO,i1,i2],b∈[z,TI,TO,i1,i2]:=fun b hb=>by
   simp only[BE,Ci,or_false]at hb ⊢;rcases hb with h|h|h|h<;>simp[h]
  have iK:∀b u,H b=some u->b∉[z,TO,i1,i2]/\b≠T:=fun b u e=>⟨fun hb=>(by rw[(hf b<|ch b hb).1]at e;cases e),fun q=>(by rw[q,nT]at e;cases e)⟩
  have I2:Inv X pins σ (cU H T<|.tup [x,y]) {s with heap:=h2,gens:=s.gens,drawn:=s.drawn,toks:=tk}:=by
   refine I.step (g':=s.gens) (d':=s.drawn) (t':=tk) (ch:=[z,TO,i1,i2]) (fun b hb=>⟨(hf b<|ch b hb).2.2.2.1,(hf b<|ch b hb).2.1,(hf b<|ch b hb).2.2.2.2.1,(hf b<|ch b hb).2.2.2.2.2⟩) (fun b o _ _ hb e _=>kp2 b o hb e) (fun b o _ _ hb e _=>⟨o.slots,kp2 b o hb e⟩)
    (fun b o hb e n=>by rw[aH<|lt e];exact n) (fun b o hb e=>⟨o,kp2 b o hb e⟩) (fun b xs e=>by rw[aH (iK b _ e).2];exact e) (fun b o u e=>by rw[aH (iK b _ e).2];exact e) (fun b ps e=>⟨#[],by rw[aH (iK b _ e).2,e];simp⟩) (fun m hm=>?_) (fun b u e=>?_) I.bare
   ·obtain⟨o,es,ep,ho,r⟩:=hm;exact⟨o,es,ep,kp2 _ o (fun hb=>(hf _<|ch _ hb).2.1 rfl) ho,r⟩
   ·by_cases hb:b=T
    ·subst hb;rw[aG]at e;cases e;refine⟨(by show 2<=sizeLine;rw[CF];decide),[vx,vy],.cons rx<|.cons ry .nil,⟨_,up _ _ ?_ hTp,⟨rfl,rfl⟩,_,rfl⟩⟩;exact fun q=>lt hz q.symm
    ·rw[aH hb]at e;refine(I.hok b u e).stay (fun c v hc q=>kp2 c v ?_ q) (fun c q=>by rw[aH (iK c _ q).2];exact q) fun c xs q=>by rw[aH (iK c _ q).2];exact q
     rcases hc with q|q;·rw[q];exact(iK b u e).1
     ·exact(iK c _ q).1
  refine⟨.ref T,_,I2,rfl,⟨T,x,y,nT,rfl,fun xs' h=>by rw[Src.inj I h hx];exact ex,fun ys' h=>by rw[Src.inj I h hy];exact ey,rfl⟩,⟨hz2,up _ _ Z.c1<|kp _ _ Z.c1 Z.c5 Z.c6 Z.c7 hI,⟨_,_,up _ _ Z.c2 hO'⟩,Src.at_keep (a1 _ _ w1) fun o e=>up _ o Z.c3 e,Src.at_keep (a2 _ _ w2) fun o e=>up _ o Z.c4 e⟩,fun b hb=>?_⟩;have hbT:b≠T:=by
   obtain⟨o,e⟩:∃o,s.heap.get? b=some o:=by
    obtain⟨o1,e1,_⟩:=Src.at_obj t1;obtain⟨o2,e2,_⟩:=Src.at_obj t2;simp only[BE,Ci,or_false]at hb;rcases hb with rfl|rfl|rfl|rfl|rfl;·exact⟨_,hz⟩
    ·exact⟨_,hI⟩
    ·exact⟨_,hO⟩
    ·exact⟨_,e1⟩
    ·exact⟨_,e2⟩
   exact lt e
  rw[aH hbT];exact(hf b hb).1
 done:=by
  intro X hP hw hK hc i pins s σ H E I hf st hg;subst hP hw hK;obtain⟨xs,ys,hx,hy,hend⟩:=hg;obtain⟨hz,hI,⟨a,b',hO⟩,t1,t2⟩:=st;have hh:X.A.in1.handled=none:=I.ok.hd hc;obtain⟨fp1,P1,S1,D1,u1,r1,a1,_,g1⟩:=Src.draws (A:=X.A.in1) hh I hx t1 (hf i1 (by simp)).1;obtain⟨fp2,P2,S2,D2,u2,r2,a2,_,g2⟩:=Src.draws (A:=X.A.in1) hh I hy t2 (hf i2 (by simp)).1;have ZA:=sq I Z hf g1 g2;have ch:∀b∈[z,TO,i1,i2],b∈[z,TI,TO,i1,i2]:=fun b hb=>by
   simp only[BE,Ci,or_false]at hb ⊢;rcases hb with h|h|h|h<;>simp[h]
  refine sm hh D1 D2 ZA hend hz hI hO u1 u2 fun h2 tk kp=>⟨rfl,?_⟩
  have kp2:∀b o,b∉[z,TO,i1,i2]->s.heap.get? b=some o->h2.get? b=some o:=fun b o hb e=>by
   simp only[BE,Ci,or_false,not_or]at hb;exact kp b o hb.1 hb.2.1 hb.2.2.1 hb.2.2.2 e
  refine I.step (g':=s.gens) (d':=s.drawn) (t':=tk) (ch:=[z,TO,i1,i2]) (fun b hb=>⟨(hf b<|ch b hb).2.2.2.1,(hf b<|ch b hb).2.1,(hf b<|ch b hb).2.2.2.2.1,(hf b<|ch b hb).2.2.2.2.2⟩) (fun b o _ _ hb e _=>kp2 b o hb e) (fun b o _ _ hb e _=>⟨o.slots,kp2 b o hb e⟩)
   (fun b o hb e n=>n) (fun b o hb e=>⟨o,kp2 b o hb e⟩) (fun b xs e=>e) (fun b o u e=>e) (fun b ps e=>⟨#[],by rw[e];simp⟩) (fun m hm=>?_) (fun b u e=>?_) I.bare
  ·obtain⟨o,es,ep,ho,r⟩:=hm;exact⟨o,es,ep,kp2 _ o (fun hb=>(hf _<|ch _ hb).2.1 rfl) ho,r⟩
  ·have iK:∀b u,H b=some u->b∉[z,TO,i1,i2]:=fun b u e hb=>by rw[(hf b<|ch b hb).1]at e;cases e
   refine(I.hok b u e).stay (fun c v hc q=>kp2 c v ?_ q) (fun c q=>q) fun c xs q=>q;rcases hc with q|q
   ·rw[q];exact iK b u e
   ·exact iK c _ q
 self:=fun _ _ _ _ _ st h=>FP st.1 h
theorem iU(n a b:Nat)(h:a≠b): @Ne Nat (n+a) (n+b):=fun e=>h<|Nat.add_left_cancel e
def xx(K:Bo)(t:TA):TI:=fun σ H R=>t σ H fun vs H1=>∃c1 c2 xs ys,vs=[c1.val,c2.val]/\c1.has K H1 xs/\c2.has K H1 ys/\R (yK K c1 c2) H1
theorem xA{X:Cx}{a b:Expr}{ta:TA}{p pos tp:Pos}{elts:List Expr}{kk:Nat}(hg:Gl X "zip")(hm:X.mg "zip"=none)(ha:PA X [a,b] ta)
  (hs:starEach [a,b] X.env=[(false,eval a X.env),(false,eval b X.env)]:=by rfl) (hs2:starEach [b] X.env=[(false,eval b X.env)]:=by rfl):PI X (.Tuple elts kk tp) (.Call (.Name "zip" p) [a,b] [] pos) (xx X.K ta):=by
 intro pins s σ H R I h;refine Call_ (gO I hg hm boot_zip (Dt (cT (ha pos pins s σ H _ I h) fun us s1⟨vs,H1,I1,r1,q1⟩=>?_) (by rw[hs,hs2]) (by rw[hs2];rfl)));obtain⟨c1,c2,xs,ys,e,h1,h2,q⟩:=q1;subst e;obtain⟨v1,v2,rfl,ra,rb⟩:=kD r1;obtain⟨o1,i1,f1,n1⟩:=Src.iter I1 h1 ra fun _ _ e=>e;obtain⟨o2,i2,f2,n2⟩:=Src.iter (h:=s1.heap.push o1) I1 h2 rb fun _ _ e=>Bm _ e;have z1:(s1.heap.push o1).objs.size=s1.heap.objs.size+1:=Cs ..;rw[z1]at n2;refine qv i1 i2 f1 f2 fun h' hz hI hO e1 e2 kp=>?_;refine FP hz ?_;have zi:∀n:Nat,ZIds (n+4) (n+2) (n+3) n (n+1):=fun n=>⟨(iU n 2 4 (by decide)),(iU n 3 4 (by decide)),(iU n 0 4 (by decide)),(iU n 1 4 (by decide)),(iU n 2 3 (by decide)),(iU n 2 0 (by decide)),(iU n 2 1 (by decide)),(iU n 3 0 (by decide)),(iU n 3 1 (by decide)),(iU n 0 1 (by decide))⟩
 refine⟨s1.heap.objs.size+4,[s1.heap.objs.size+4,s1.heap.objs.size+2,s1.heap.objs.size+3,s1.heap.objs.size,s1.heap.objs.size+1],_,_,H1,rfl,I1.kept (t':=s1.toks) kp,sr c1 c2 _ _ _ _ _<|zi s1.heap.objs.size,⟨hz,hI,⟨_,_,hO⟩,n1 h' e1,n2 h' e2⟩,fun b hb=>?_,q⟩;have hb':s1.heap.objs.size<=b:=by
  simp only[BE,Ci,or_false]at hb;rcases hb with z|z|z|z|z<;>rw[z]
  ·exact Cz _ 4
  ·exact Cz _ 2
  ·exact Cz _ 3
  ·exact Bt _
  ·exact Cz _ 1
 exact I1.fpOk hb'<|I1.hok.fresh hb'
theorem vj{K:Bo}{c1 c2:Src}{xs ys:List V}{g:TG}{tb:TS}{D:Ends}{σ:St}{H:Hp}(Pv:Nat->St->Hp->Prop)(h0:Pv 0 σ H)(hl:∀i σ H,Pv i σ H->c1.has K H xs/\c2.has K H ys)(hn:xs.length=ys.length)
  (hs:∀i x y p σ H,xs[i]? =some x->ys[i]? =some y->H p=none->Pv i σ H->g (.ref p) σ (cU H p<|.tup [x,y]) fun σ2 H2=>tb {D with nx:=Pv<|i+1,ct:=Pv<|i+1,bk:=D.nx} σ2 H2) (hd:∀σ H,Pv xs.length σ H->D.nx σ H):
  ∃W:Nat->Nat->St->Hp->Prop,(∃m,W 0 m σ H)/\ ∀i m σ H,W i m σ H->
   ((yK K c1 c2).stop i H/\D.nx σ H)\/((yK K c1 c2).go i H/\∃N:St->Hp->Prop,(∀σ' H',N σ' H'->∃m',m'<m/\W (i+1) m' σ' H')/\∀x H',(yK K c1 c2).yld i H x H'->g x σ H' fun σ2 H2=>tb {D with nx:=N,ct:=N,bk:=D.nx} σ2 H2):=by
 refine⟨fun i m σ H=>m=xs.length-i/\i<=xs.length/\Pv i σ H,⟨xs.length,by simp,BV _,h0⟩,?_⟩;rintro i m σ H ⟨rfl,hi,p⟩;obtain⟨q1,q2⟩:=hl i σ H p;by_cases hlt:i<xs.length
 ·refine .inr ⟨⟨xs,ys,xs[i],ys[i],q1,q2,by simp[hlt],by simp[<-hn,hlt]⟩,Pv<|i+1,fun σ' H' p'=>⟨xs.length- (i+1),by omega,rfl,hlt,p'⟩,fun v H' ⟨a,x,y,na,ev,ex,ey,eh⟩=>?_⟩;subst ev eh;exact hs i x y a σ H (ex xs q1) (ey ys q2) na p
 ·have e:i=xs.length:=by omega
  subst e;exact .inl ⟨⟨xs,ys,q1,q2,.inl rfl⟩,hd σ H p⟩
structure Cal(P:BK)(w:C2)(K:Bo)(mg:Str->Option Bq)(base:Heap)(x:Str)(ps:List Str)(k:Nat)(sp:Sp):Prop where
 ex:∃(f:Addr)(fd:C4),FnOk P w K mg base CX0 k f fd ps sp/\mg x=some (.ref f)/\Ek K (.ref f)=true/\Binds K fd ps []
theorem su{X:Cx}{x:Str}{ps:List Str}{k:Nat}{sp:Sp}{p pos:Pos}{e:Expr}{es:List Expr}{t:TA}(C:Cal X.prog X.w X.K X.mg X.base x ps k sp)(hr:Room k X.A)(hg:Gl X x)(ha:PA X (e::es) t)
  (hdb:(x==("__debug__" :Str))=false:=by decide) (he:starEach (e::es) X.env=(false,eval e X.env)::starEach es X.env:=by rfl) (hpl:(backTo pos<|starEach es X.env).any (·.1)=false:=by rfl):
  PE X (.Call (.Name x p) (e::es) [] pos) (aV sp [] E0 t):=by
 obtain⟨f,fd,F,hm,hk,hb⟩:=C.ex;exact va F hr hg hm hk hb .nil yE ha hdb he hpl
theorem iV{X:Cx}{scope:Fj}{N:List Str}{cap:List (Option Nat)}(kind:scope.kind=.function)(nd:N.Nodup)(len:cap.length=N.length)(uniq:(scope.names.map (·.1)).Nodup)
  (fr:(scope.names.all fun x=>x.2 != .free||(X.env.kindOf x.1==some .cell||X.env.kindOf x.1==some .free))=true)
  (cp:((N.zip cap).all fun p=>match p.2 with|none=>true|some j=>X.N[j]? ==some p.1&&scope.names.contains (p.1,CW))=true):CompScope X scope N cap:=by
 refine⟨kind,nd,len,uniq,fun x hx hk=>?_,fun k x j h1 h2=>?_⟩
 ·have:=EZ.mp fr x hx;rw[hk]at this;simpa using this
 ·have hm:(x,some j)∈N.zip cap:=by
   rw[EC];exact⟨k,by rw[Df];exact⟨h1,h2⟩⟩
  have:=EZ.mp cp _ hm;simpa using this
def flat:V->Bool
 | .non=>true
 | .bl _=>true
 | .int _=>true
 | .str _=>true
 |_=>false
theorem dR{H:Hp}{p:Addr}{o:HO}(h:H p=none):Same H (cU H p o):=fun b u e=>by rw[aH<|cm e h];exact e
theorem gF(x:String)(l:List Nat)(h:(Bu x).cps.toList=l):Bu x=sOf l:=by rw[rZ<|Bu x,h]
section
variable{X:Cx}{K:Bo}{w:C2}
theorem aM(h:X.K=K):yj X (cz K):=h▸xp
theorem aF(h:X.K=K):yj X (cf K):=h▸vc
theorem aL(h:X.K=K):dt X (.builtin "len") (fun xs H Q=>∃x n,xs=[x]/\nR K x H n/\Q (.int n) H):=h▸rS
theorem aY(h:X.K=K):dt X (.builtin "isinstance") (fun xs H Q=>∃x T t b,xs=[x,.ty T]/\TyOf K H x t/\D6 K t (.type T)=some b/\Q (.bl b) H):=h▸mG
theorem sv(h:X.K=K):yC X "str.join" (fun x xs H Q=>∃(p:Addr)(ys:List (List Nat)),x=.str (sOf [])/\xs=[.ref p]/\SqL K H p (ys.map fun y=>G5<|sOf y)/\ys.flatten.length<=100000/\Q (.str<|sOf ys.flatten) H):=h▸vh
theorem hW(h:X.K=K):zC X (cA K):=h▸vd
theorem kN(h:X.K=K)(hw:X.w=w){o i:Expr}{pos:Pos}{td ty:TE}(ho:PE X o td)(hi:PE X i ty)(hs:xu i):PE X (.Subscript o i pos) (aP K w td ty):=h▸hw▸sd ho hi hs
theorem cw(h:X.K=K){pos:Pos}{es:List Expr}{k:Nat}{t:wM}{n:Nat}(hc:X.calm=true)(hg:yv X es t)(hn:(assignEach es X.env).length=n:=by rfl)(hst:(assignEach es X.env).findIdx? (·.1)=none:=by rfl):PG X (.Tuple es k pos) (cu K n t):=h▸xk hc hg hn hst
theorem bG(h:X.K=K){tg l:Expr}{tl:TE}(hl:PE X l tl):PI X tg l (rN K tl):=h▸uX hl
theorem gw(h:X.K=K){a b:Expr}{ta:TA}{p pos tp:Pos}{elts:List Expr}{kk:Nat}(hg:Gl X "zip")(hm:X.mg "zip"=none)(ha:PA X [a,b] ta)
  (hs:starEach [a,b] X.env=[(false,eval a X.env),(false,eval b X.env)]:=by rfl) (hs2:starEach [b] X.env=[(false,eval b X.env)]:=by rfl):PI X (.Tuple elts kk tp) (.Call (.Name "zip" p) [a,b] [] pos) (xx K ta):=h▸xA hg hm ha hs hs2
theorem gS(h:X.K=K){o e:Expr}{es:List Expr}{to:TE}{t:TA}{name:Str}{apos cpos:Pos}{T id:String}{r:V->List V->Hp->VK->Prop}(pa:PlainAttrs T)(slot:Slot T name id)(hty:typeOf (.builtin id)=pure (.type "method_descriptor"))(hm:yC X id r)(ho:PE X o to)(ha:PA X (e::es) t)
  (hbase:attributeBase o name X.env (eval o X.env)=eval o X.env:=by rfl)
  (hfew:((backTo cpos<|starEach (e::es) X.env).all (fun x=> !x.1)&&(backToKw cpos<|keywordEach [] X.env).all (fun x=>x.1.isSome)&&decide ((e::es).length+([]:List IP).length+(if([]:List IP).isEmpty then 0 else 1)<30))=true:=by rfl)
  (hline:(apos.endLine==cpos.line)=true:=by rfl) (hs:starEach (e::es) X.env=(false,eval e X.env)::starEach es X.env:=by rfl) (hplain:(backTo cpos<|starEach es X.env).any (·.1)=false:=by rfl):
  PE X (.Call (.Attribute o name apos) (e::es) [] cpos) (eO K T r to t):=h▸yD pa slot hty hm ho ha hbase hfew hline hs hplain
end
end L2
open L2.Src renaming at_keep->G6,at_obj->GC,draws->Hg,iter->KZ,inj->Ln
namespace Wb
open PySem L2
abbrev Rp(α:Type):=Hp->α->V->Prop
class Mono{α:Type}(R:Rp α):Prop where
 mono:∀{H H':Hp}{m:α}{v:V},Same H H'->R H m v->R H' m v
def LR{α:Type}(R:Rp α)(H:Hp)(ms:List α)(vs:List V):Prop:=vs.length=ms.length/\∀(i:Nat)(v:V)(m:α),vs[i]? =some v->ms[i]? =some m->R H m v
theorem LR.nil{α:Type}{R:Rp α}{H:Hp}:LR R H [] []:=⟨rfl,fun i v m e=>by simp at e⟩
theorem LR.same{α:Type}{R:Rp α}[Mono R]{H H':Hp}{ms:List α}{vs:List V}(h:LR R H ms vs)(e:Same H H'):LR R H' ms vs:=⟨h.1,fun i v m a b=>Mono.mono e<|h.2 i v m a b⟩
theorem LR.snoc{α:Type}{R:Rp α}{H:Hp}{ms:List α}{vs:List V}{m:α}{v:V}(h:LR R H ms vs)(r:R H m v):LR R H (ms++[m]) (vs++[v]):=by
 refine⟨by simp[h.1],fun i v' m' a b=>?_⟩;by_cases hi:i<vs.length
 ·rw[BL hi]at a;rw[BL (by rw[<-h.1];exact hi)]at b;exact h.2 i v' m' a b
 ·rw[BI (by omega)]at a;rw[BI (by rw[<-h.1];omega)]at b;rw[<-h.1]at b;cases e:i-vs.length with
  |zero=>rw[e]at a b;simp at a b;subst a b;exact r
  |succ n=>rw[e]at a;simp at a
theorem LR.get{α:Type}{R:Rp α}{H:Hp}{ms:List α}{vs:List V}{i:Nat}{m:α}(h:LR R H ms vs)(e:ms[i]? =some m):∃v,vs[i]? =some v/\R H m v:=by
 have hi:i<vs.length:=by rw[h.1];exact(Bv.mp e).1
 exact⟨vs[i],by simp[hi],h.2 i _ m (by simp[hi]) e⟩
theorem LR.got{α:Type}{R:Rp α}{H:Hp}{ms:List α}{vs:List V}{i:Nat}{v:V}(h:LR R H ms vs)(e:vs[i]? =some v):∃m,ms[i]? =some m/\R H m v:=by
 have hi:i<ms.length:=by rw[<-h.1];exact(Bv.mp e).1
 exact⟨ms[i],by simp[hi],h.2 i v _ e (by simp[hi])⟩
def isL{α:Type}(R:Rp α):Rp (List α):=fun H ms v=>∃p vs,v=.ref p/\H p=some (.lst vs)/\LR R H ms vs
instance zkeep1{α:Type}{R:Rp α}[Mono R]:Mono (isL R):=⟨fun e⟨p,vs,h1,h2,h3⟩=>⟨p,vs,h1,e _ _ h2,h3.same e⟩⟩
def isS:Rp (List Nat):=fun _ l v=>v=.str (sOf l)
instance zkeep2:Mono isS:=⟨fun _ h=>h⟩
def isI:Rp Int:=fun _ l v=>v=.int l
instance zkeep4:Mono isI:=⟨fun _ h=>h⟩
theorem LR.str{H:Hp}{ms:List (List Nat)}{vs:List V}(h:LR isS H ms vs):vs=ms.map fun l=>G5 (sOf l):=by
 refine DR fun i=>?_;rw[Bz];cases e:ms[i]? with
 |none=>rw[Cr]at e;rw[Cr.mpr (by rw[h.1];exact e)];rfl
 |some m=>obtain⟨v,a,b⟩:=h.get e;rw[a];cases b;rfl
end Wb
open Wb.Mono renaming mono->Bi
namespace L2
open PySem PySem.Spec PyProof.Rows
section
variable{X:Cx}{K:Bo}{w:C2}
theorem cY(h:X.K=K):dt X (.type "list") (fun xs H Q=>∃p ys,xs=[.ref p]/\(SqL K H p ys\/SqT K H p ys)/\∀l,H l=none->Q (.ref l) (cU H l<|.lst ys)):=h▸lA
end
end L2
namespace Wb
open PySem L2
theorem LR.take{α:Type}{R:Rp α}{H:Hp}{ms:List α}{vs:List V}(h:LR R H ms vs)(k:Nat):LR R H (ms.take k) (vs.take k):=by
 refine⟨by simp[h.1],fun i v m a b=>?_⟩;rw[List.getElem?_take]at a b;split at a;·rw[if_pos (by assumption)]at b;exact h.2 i v m a b
 ·cases a
theorem LR.drop{α:Type}{R:Rp α}{H:Hp}{ms:List α}{vs:List V}(h:LR R H ms vs)(k:Nat):LR R H (ms.drop k) (vs.drop k):=by
 refine⟨by simp[h.1],fun i v m a b=>?_⟩;rw[CC]at a b;exact h.2 _ v m a b
theorem none_of{H H':Hp}{p:Addr}(e:Same H H')(h:H' p=none):H p=none:=by
 cases z:H p with
 |none=>rfl
 |some x=>have:=e _ _ z;rw[h]at this;cases this
theorem qx{H H3:Hp}{p:Addr}{o:HO}(e:Same H H3)(h:H p=none):Same H (cU H3 p o):=fun a u z=>by
 rw[aH<|cm z h];exact e _ _ z
end Wb
namespace L2
open PySem PySem.Spec PyProof.Rows
theorem hX:∀(xs:List V)(us:List Bq),us.length=xs.length->(∀(j:Nat)(x:V)(u:Bq),xs[j]? =some x->us[j]? =some u->RelV x u)->Vals xs us
 | [],[],_,_=>.nil
 |x::xs,u::us,hl,h=>.cons (h 0 x u rfl rfl) (hX xs us (by simpa using hl) fun j x u a b=>h (j+1) x u (by simpa using a) (by simpa using b))
 | [],_::_,hl,_=>by simp at hl
 |_::_,[],hl,_=>by simp at hl
theorem fk{α β:Type}{F:α->β->Prop}:∀{l₁:List α}{l₂:List β},Paired F l₁ l₂->∀{j:Nat}{b:β},l₂[j]? =some b->∃a,l₁[j]? =some a/\F a b
 |_,_,.nil,j,b,h=>by simp at h
 |_,_,.cons r rs,0,b,h=>by simp at h;subst h;exact⟨_,rfl,r⟩
 |_,_,.cons r rs,j+1,b,h=>by simp at h;obtain⟨a,h1,h2⟩:=fk rs h;exact⟨a,by simpa using h1,h2⟩
section
variable{X:Cx}{K:Bo}{w:C2}
theorem lG(h:X.K=K):dt X (.builtin "sorted") (fun xs H Q=>∃(p:Addr)(ns:List Int),xs=[.ref p]/\SqL K H p (ns.map ET)/\ns.length<64/\∀(q:Addr)(ns':List Int),H q=none->ns'.Perm ns->ns'.Pairwise (· <= ·)->Q (.ref q) (cU H q<|.lst<|ns'.map ET)):=by
 subst h;intro pins s σ H xs us Q I r h;obtain⟨p,ns,rfl,hq,h64,q⟩:=h;obtain⟨u,rfl,rx⟩:=eR r;cases rx;obtain⟨its,r',pl,hz⟩:=I.list hq;have hi:=nV r';have hlen:=IntsAre.length hi;refine sorted_ints pl.isList hi (by omega) fun out ns' a1 a2 a3=>?_;obtain⟨e,he⟩:=sortedAll_at s.heap its out;have hl':=a2.length_eq;refine⟨.ref<|s.heap.objs.size+1,_,I.laid (t':=s.toks) (fun _ _=>sortedAll_old) (GJ _) (show ObjOk X.prog X.w _ _ _ (.lst<|ns'.map ET)from⟨by rw[BS,CF];omega,out.toList,e,iz a1,by rw[HU];exact he⟩),rfl,q _ ns' (I.hok.fresh<|GJ _) a2 a3⟩
theorem gM(h:X.K=K):OpR X (compareOp .NotIn) (fN K true):=h▸ly
end
end L2
namespace L2
theorem iA{k:Nat}{A:Cj}(r:Room k A):A.units+1<KU:=by have:=r.un;omega
end L2
namespace L2
open PySem PySem.Spec PyProof.Rows
def sx(K:Bo)(te:TE)(tk:TO):TE:=fun σ H Q=>te σ H fun x H1=>tk σ H1 fun k H2=>∃a xs,x=.ref a/\k=some (-1)/\SqL K H2 a xs/\∀p,H2 p=none->Q (.ref p) (cU H2 p<|.lst xs.reverse)
theorem sy{xs:List V}{us:List Bq}(r:Vals xs us):Vals xs.reverse us.reverse:=by
 induction r with
 |nil=>exact .nil
 |cons h t ih=>rw[IS,IS];exact Paired.snoc ih h
theorem mL{X:Cx}{K:Bo}(hK:X.K=K){e st:Expr}{te:TE}{tk:TO}{pos p2:Pos}(ops:Addr->Addr->List Bq)(hs:∀a b:Addr,subscripted (.Slice none none (some st) p2) false (.ref a) (.ref b)=operate (ops a b) (getItem (.ref a)<|.ref b))(he:PE X e te)(hk:PO X (some st) tk):PE X (.Subscript e (.Slice none none (some st) p2) pos) (sx K te tk):=by
 subst hK;intro pins s σ H Q I h;refine Iq<|cT (he pins s σ H _ I h) fun v s1 zz=>?_;obtain⟨x,H1,I1,r1,q1⟩:=zz;refine wpAny_Slice ?_;rw[Ib];refine Br ?_;refine Br ?_;refine cT (hk pins s1 σ H1 _ I1 q1) fun vk s3 zz=>?_;obtain⟨k,H3,I3,pk,q3⟩:=zz;obtain⟨a,xs,rfl,rfl,hx,q⟩:=q3;cases r1;have I4:Inv X pins σ H3 {s3 with heap:=s3.heap.push {cls:=.type "slice",data:=.fields #[.none,.none,vk]}}:=I3.kept (t':=s3.toks) fun b ob q=>Bm _ q;obtain⟨its,r,ht,hz⟩:=I4.list hx;have hlen:=r.length;show wpAny (model X.prog X.w) X.A (subscriptTail e (.Slice none none (some st) p2) (.ref a)<|.ref s3.heap.objs.size) (EP X pins σ Q) X.xe {s3 with heap:=s3.heap.push {cls:=.type "slice",data:=.fields #[.none,.none,vk]}};refine KO (ops:=ops a s3.heap.objs.size) ht.isList.typeIs GI.lookup ?_<|hs _ _;refine GS ht.isList (Ir ..) .none .none pk (by decide) ?_ (by rw[BA];omega);rw[PySem.W.krv_pick];refine⟨.ref _,_,I4.laid (t':=s3.toks) (o:=.lst xs.reverse) (fun b ob q=>Bm _ q) (Bt _) ?_,rfl,q _<|I4.hok.fresh<|Bt _⟩;exact⟨by rw[List.length_reverse];exact hz,_,0,sy r,By _ rfl⟩
end L2
namespace Wb
open PySem L2
end Wb
namespace L2
open PySem PySem.Spec PyProof.Rows Wb
end L2
namespace L2
open PySem PySem.Spec PyProof.Rows
abbrev bX(h:Heap)(T:Addr)(a b c:Bq):Prop:=h.get? T=some {cls:=.type "tuple",data:=.seq #[a,b,c]}
def yL(h:Heap)(o1 o2 o3:Obj):Heap:=(((h.push o1).push o2).push o3).push {cls:=.type "tuple",data:=.seq #[.ref h.objs.size,.ref (h.push o1).objs.size,.ref ((h.push o1).push o2).objs.size]}
def yM(h:Heap)(o1 o2 o3:Obj):Heap:=(yL h o1 o2 o3).push {cls:=.type "tuple",data:=.seq #[.none,.none,.none]}
def xB(h:Heap)(o1 o2 o3:Obj):Heap:=(yM h o1 o2 o3).push {cls:=.type "zip",data:=.fields #[.none,.bool false,.bool false,.ref (((h.push o1).push o2).push o3).objs.size,.ref (yL h o1 o2 o3).objs.size]}
theorem kg(v1 v2 v3:Bq)(o1 o2 o3:Obj):Meets (Dv.«zip.__new__» ⟨[.type "zip",v1,v2,v3],[]⟩) (fun _ R s=>eK v1 s.heap o1/\eK v2 (s.heap.push o1) o2/\eK v3 ((s.heap.push o1).push o2) o3/\R (.ok<|.ret<|.ref (yM s.heap o1 o2 o3).objs.size) {s with heap:=xB s.heap o1 o2 o3}):=
 .of_wp fun prog w A R s h=>by
  obtain⟨hp,g,d,tk,os⟩:=s;obtain⟨i1,i2,i3,h⟩:=h;have hsub:=sub_zip;have j1:=fun(A:Cj)(E:Bq->Bs->Prop)(Q:Bq->Bs->Prop)(q:Q _ _)=>i1 prog w A E Q ⟨hp,g,d,tk,os⟩ rfl q;have j2:=fun(A:Cj)(E:Bq->Bs->Prop)(Q:Bq->Bs->Prop)(q:Q _ _)=>i2 prog w A E Q ⟨hp.push o1,g,d,tk,os⟩ rfl q;have j3:=fun(A:Cj)(E:Bq->Bs->Prop)(Q:Bq->Bs->Prop)(q:Q _ _)=>i3 prog w A E Q ⟨(hp.push o1).push o2,g,d,tk,os⟩ rfl q
  wp_walk using j1 _ _ _,j2 _ _ _,j3 _ _ _
  exact⟨_,rfl,h⟩
theorem jq(a b c:Bq):checkTypeCall "zip" ⟨[a,b,c],[]⟩=pure ():=by kernel_rfl
theorem ko(a b c:Bq):checkBuiltinCall "zip.__new__" ⟨[.type "zip",a,b,c],[]⟩=pure ():=by kernel_rfl
theorem gT(a b c d:Bq):argsOk "object.__init__" ⟨[a,b,c,d],[]⟩:=by
 unfold argsOk;rw[PySem.signature?_of (id:="object.__init__") (n:=['_','_','t','i','n','i','_','_']) (o:=['t','c','e','j','b','o']) (by kernel_rfl) PySem.F.owner_object];kernel_rfl
theorem qy{P:BK}{w:C2}{A:Cj}{E:Bq->Bs->Prop}{s:Bs}{v1 v2 v3:Bq}{o1 o2 o3:Obj}{Q:Bq->Bs->Prop}(i1:eK v1 s.heap o1)(i2:eK v2 (s.heap.push o1) o2)(i3:eK v3 ((s.heap.push o1).push o2) o3)
  (f1:o1.isFreed=false) (f2:o2.isFreed=false) (f3:o3.isFreed=false)
  (q:∀h',Eu h' (s.heap.objs.size+5) (s.heap.objs.size+3) (s.heap.objs.size+4) .none->bX h' (s.heap.objs.size+3) (.ref s.heap.objs.size) (.ref<|s.heap.objs.size+1) (.ref<|s.heap.objs.size+2)->bX h' (s.heap.objs.size+4) .none .none .none->
   h'.get? s.heap.objs.size=some o1->h'.get? (s.heap.objs.size+1)=some o2->h'.get? (s.heap.objs.size+2)=some o3->(∀c o,s.heap.get? c=some o->h'.get? c=some o)->Q (.ref (s.heap.objs.size+5)) {s with heap:=h'}):
  wpAny (model P w) A (call (.type "zip") [v1,v2,v3]) Q E s:=by
 refine callType_new ID (by decide) (jq _ _ _) (ko _ _ _) (fun obj=>gT obj _ _ _) HC (kg v1 v2 v3 o1 o2 o3) ⟨i1,i2,i3,?_⟩;have z1:(s.heap.push o1).objs.size=s.heap.objs.size+1:=Cs ..;have z2:((s.heap.push o1).push o2).objs.size=s.heap.objs.size+2:=by rw[Cs,z1]
 have z3:(((s.heap.push o1).push o2).push o3).objs.size=s.heap.objs.size+3:=by rw[Cs,z2]
 have z4:(yL s.heap o1 o2 o3).objs.size=s.heap.objs.size+4:=by unfold yL;rw[Cs,z3]
 have z5:(yM s.heap o1 o2 o3).objs.size=s.heap.objs.size+5:=by unfold yM;rw[Cs,z4]
 have g6:(xB s.heap o1 o2 o3).get? (yM s.heap o1 o2 o3).objs.size=some _:=By _ rfl;have g5:(xB s.heap o1 o2 o3).get? (yL s.heap o1 o2 o3).objs.size=some _:=Bm _<|By _ rfl;have g4:(xB s.heap o1 o2 o3).get? (((s.heap.push o1).push o2).push o3).objs.size=some _:=Bm _<|Bm _<|By _ rfl;have g3:(xB s.heap o1 o2 o3).get? ((s.heap.push o1).push o2).objs.size=some o3:=Bm _<|Bm _<|Bm _<|By _ f3;have g2:(xB s.heap o1 o2 o3).get? (s.heap.push o1).objs.size=some o2:=Bm _<|Bm _<|Bm _<|Bm _<|By _ f2;have g1:(xB s.heap o1 o2 o3).get? s.heap.objs.size=some o1:=Bm _<|Bm _<|Bm _<|Bm _<|Bm _<|By _ f1;show _/\_;rw[z3,z4,z5]at g6;rw[z1,z2,z3]at g4;rw[z4]at g5;rw[z2]at g3;rw[z1]at g2;rw[z5];exact⟨⟨_,g6,rfl⟩,q _ g6 g4 g5 g1 g2 g3 fun c o x=>Bm _<|Bm _<|Bm _<|Bm _<|Bm _<|Bm _ x⟩
section
variable{P:BK}{w:C2}{A:Cj}{E:Bq->Bs->Prop}{s:Bs}{z TI TO i1 i2 i3:Addr}{fp1 fp2 fp3:List Addr}{n1 n2 n3 k:Nat}{P1 P2 P3:Nat->Bq->Prop}{S1 S2 S3:Nat->Heap->Prop}{a b c:Bq}
theorem bH{T:Addr}{a b c x:Bq}{k:Nat}{Q:Unit->Bs->Prop}(hT:bX s.heap T a b c)
  (h:∀h',h'.get? T=some {cls:=.type "tuple",data:=.seq ((#[a,b,c]:Array Bq).setIfInBounds k x)}->BM T s.heap h'->Q () {s with heap:=h'}):
  wpAny (model P w) A (updateSeq T (·.setIfInBounds k x)) Q E s:=by
 refine wpAny_updateSeq hT rfl<|h _ ?_<|DC ..;rw[E3 _ hT rfl];simp[DW]
structure ZApart3(z TI TO i1 i2 i3:Addr)(fp1 fp2 fp3:List Addr):Prop where
 c1:TI≠z
 c2:TO≠z
 c3:i1≠z
 c4:i2≠z
 c4':i3≠z
 c5:TI≠TO
 c6:TI≠i1
 c7:TI≠i2
 c7':TI≠i3
 c8:TO≠i1
 c9:TO≠i2
 c9':TO≠i3
 d1:z∉fp1/\TO∉fp1/\i2∉fp1/\i3∉fp1
 d2:z∉fp2/\TO∉fp2/\i1∉fp2/\i3∉fp2
 d3:z∉fp3/\TO∉fp3/\i1∉fp3/\i2∉fp3
theorem qz{Q:Option Bq->Bs->Prop}(D1:Hx P w A.in1 i1 fp1 n1 P1 S1)(D2:Hx P w A.in1 i2 fp2 n2 P2 S2)(D3:Hx P w A.in1 i3 fp3 n3 P3 S3)(Z:ZApart3 z TI TO i1 i2 i3 fp1 fp2 fp3)(h1:k<n1)(h2:k<n2)(h3:k<n3)(hz:Eu s.heap z TI TO .none)
  (hI:bX s.heap TI (.ref i1) (.ref i2) (.ref i3)) (hO:bX s.heap TO a b c) (t1:S1 k s.heap) (t2:S2 k s.heap) (t3:S3 k s.heap)
  (q:∀x y u h' tk T,P1 k x->P2 k y->P3 k u->T=s.heap.objs.size->Eu h' z TI TO (rawInt T)->bX h' TO x y u->S1 (k+1) h'->S2 (k+1) h'->S3 (k+1) h'->bX h' T x y u->
   (∀c o,c≠z->c≠TO->c≠i1->c≠i2->c≠i3->s.heap.get? c=some o->h'.get? c=some o)->Q (some (.ref T)) {s with heap:=h',toks:=tk}):
  wpAny (model P w) A (pyNext<|.ref z) Q E s:=by
 have hT:s.TypeIs (.ref z) "zip":=⟨_,hz,rfl⟩
 unfold pyNext;refine Bk<|EB<|CG (name:=Bu "__next__") hT D0<|CI D0 hT Ez ?_<|Em _;obtain⟨hp,gg,dd,tk0,os⟩:=s;show wpAny (model P w) _ (field (.ref z) 2>>=_) _ _ _;refine Bk<|CJ hz rfl (x:=.bool false) rfl ?_;show wpAny (model P w) _ (field (.ref z) 3>>=_) _ _ _;refine Bk<|CJ hz rfl (x:=.ref TI) rfl<|Bk<|Cy hI rfl ?_;show wpAny (model P w) _ (Cb (.ref z)>>=_) _ _ _;refine Bk ?_;unfold Cb;refine Bk<|CJ hz rfl (x:=.none) rfl<|Br ?_;simp only[if_true];refine Bk (Ee (Bk (CJ hz rfl (x:=.ref TO) rfl (Bk (CB hz (by simp) fun g1 y1 b1=>?_)))));replace y1:Eu g1 z TI TO .ellipsis:=y1;replace b1:BM z hp g1:=b1;refine Bk ?_;simp only[EY,G9,Fc,Fx];refine Bk<|Bk<|DL ?_;show wpAny (model P w) _ (BY (.ref i1)>>=_) _ _ _;refine Bk<|D1.item k _ _ _ h1 (ax D1 t1 b1 Z.d1.1) fun x g2 tk2 px u1 b2=>Br ?_;replace b2:BM i1 g1 g2:=b2;have O2:bX g2 TO a b c:=b2.extBut _ _ Z.c8<|b1.extBut _ _ Z.c2 hO;refine Bk<|Cy O2 rfl<|Bk<|bH O2 fun g3 O3 b3=>?_;replace O3:bX g3 TO x b c:=O3;replace b3:BM TO g2 g3:=b3;refine Bk<|Ew<|Br<|Bk<|Bk<|DL ?_;show wpAny (model P w) _ (BY (.ref i2)>>=_) _ _ _;refine Bk<|D2.item k _ _ _ h2 (ax D2 (ax D2 (ax D2 t2 b1 Z.d2.1) b2 Z.d2.2.2.1) b3 Z.d2.2.1) fun y g4 tk4 py u2 b4=>Br ?_;replace b4:BM i2 g3 g4:=b4;have O4:bX g4 TO x b c:=b4.extBut _ _ Z.c9 O3;refine Bk<|Cy O4 rfl<|Bk<|bH O4 fun g5 O5 b5=>?_;replace O5:bX g5 TO x y c:=O5;replace b5:BM TO g4 g5:=b5;refine Bk<|Ew<|Br<|Bk<|Bk<|DL ?_;show wpAny (model P w) _ (BY (.ref i3)>>=_) _ _ _;refine Bk<|D3.item k _ _ _ h3 (ax D3 (ax D3 (ax D3 (ax D3 (ax D3 t3 b1 Z.d3.1) b2 Z.d3.2.2.1) b3 Z.d3.2.1) b4 Z.d3.2.2.2) b5 Z.d3.2.1) fun u g6 tk6 pu u3 b6=>Br ?_;replace b6:BM i3 g5 g6:=b6;have O6:bX g6 TO x y c:=b6.extBut _ _ Z.c9' O5;refine Bk<|Cy O6 rfl<|Bk<|bH O6 fun g7 O7 b7=>?_;replace O7:bX g7 TO x y u:=O7;replace b7:BM TO g6 g7:=b7;refine Bk<|Ew<|Br<|Br<|Bk<|Cy O7 rfl<|Bk<|HS ?_;have sz:g7.objs.size=hp.objs.size:=by rw[b7.1,b6.1,b5.1,b4.1,b3.1,b2.1,b1.1]
 have y7:Eu g7 z TI TO .ellipsis:=b7.extBut _ _ Z.c2.symm<|b6.extBut _ _ Z.c4'.symm<|b5.extBut _ _ Z.c2.symm<|b4.extBut _ _ Z.c4.symm<|b3.extBut _ _ Z.c2.symm<|b2.extBut _ _ Z.c3.symm y1;have k7:∀c o,c≠z->c≠TO->c≠i1->c≠i2->c≠i3->hp.get? c=some o->g7.get? c=some o:=fun c o e1 e2 e3 e4 e5 e=>b7.extBut _ _ e2<|b6.extBut _ _ e5<|b5.extBut _ _ e2<|b4.extBut _ _ e4<|b3.extBut _ _ e2<|b2.extBut _ _ e3<|b1.extBut _ _ e1 e;have v1:S1 (k+1) g7:=ax D1 (ax D1 (ax D1 (ax D1 (ax D1 u1 b3 Z.d1.2.1) b4 Z.d1.2.2.1) b5 Z.d1.2.1) b6 Z.d1.2.2.2) b7 Z.d1.2.1;have v2:S2 (k+1) g7:=ax D2 (ax D2 (ax D2 u2 b5 Z.d2.2.1) b6 Z.d2.2.2.2) b7 Z.d2.2.1;have v3:S3 (k+1) g7:=ax D3 u3 b7 Z.d3.2.1;have lz:z<g7.objs.size:=BC y7;show wpAny (model P w) _ (Dh (.ref z) (.ref g7.objs.size)>>=_) _ _ _;refine Bk ?_;unfold Dh;have y8:Eu (g7.push {cls:=.type "tuple",data:=.seq #[x,y,u]}) z TI TO .ellipsis:=Bm _ y7;refine Bk (CB y8 (by simp) fun g9 y9 b9=>?_);replace y9:Eu g9 z TI TO (rawInt g7.objs.size):=y9;replace b9:BM z (g7.push {cls:=.type "tuple",data:=.seq #[x,y,u]}) g9:=b9;refine CB y9 (by simp) fun g10 y10 b10=>?_;replace y10:Eu g10 z TI TO (rawInt g7.objs.size):=y10;replace b10:BM z g9 g10:=b10;have up:∀c o,c≠z->g7.get? c=some o->g10.get? c=some o:=fun c o e1 e=>b10.extBut _ _ e1<|b9.extBut _ _ e1<|Bm _ e;have T8:bX g10 g7.objs.size x y u:=b10.extBut _ _ (E9 lz)<|b9.extBut _ _ (E9 lz)<|By _ rfl;refine Br ⟨_,rfl,Br<|q x y u g10 _ g7.objs.size px py pu sz y10 (up _ _ Z.c2 O7) (D1.frame _ _ _ v1 fun b hb o e=>up b o (fun q=>Z.d1.1<|q▸hb) e) (D2.frame _ _ _ v2 fun b hb o e=>up b o (fun q=>Z.d2.1<|q▸hb) e) (D3.frame _ _ _ v3 fun b hb o e=>up b o (fun q=>Z.d3.1<|q▸hb) e) T8 fun c o e1 e2 e3 e4 e5 e=>up c o e1<|k7 c o e1 e2 e3 e4 e5 e⟩
theorem sA{Q:Option Bq->Bs->Prop}(hh:A.handled=none)(D1:Hx P w A.in1 i1 fp1 n1 P1 S1)(D2:Hx P w A.in1 i2 fp2 n2 P2 S2)(D3:Hx P w A.in1 i3 fp3 n3 P3 S3)(Z:ZApart3 z TI TO i1 i2 i3 fp1 fp2 fp3)(hk:k=n1\/(k<n1/\k=n2)\/(k<n1/\k<n2/\k=n3))(hz:Eu s.heap z TI TO .none)
  (hI:bX s.heap TI (.ref i1) (.ref i2) (.ref i3)) (hO:bX s.heap TO a b c) (t1:S1 k s.heap) (t2:S2 k s.heap) (t3:S3 k s.heap)
  (q:∀h' tk,(∀c o,c≠z->c≠TO->c≠i1->c≠i2->c≠i3->s.heap.get? c=some o->h'.get? c=some o)->Q none {s with heap:=h',toks:=tk}):
  wpAny (model P w) A (pyNext<|.ref z) Q E s:=by
 have hT:s.TypeIs (.ref z) "zip":=⟨_,hz,rfl⟩
 unfold pyNext;refine Bk<|EB<|CG (name:=Bu "__next__") hT D0<|CI D0 hT Ez ?_<|Em _;obtain⟨hp,gg,dd,tk0,os⟩:=s;show wpAny (model P w) _ (field (.ref z) 2>>=_) _ _ _;refine Bk<|CJ hz rfl (x:=.bool false) rfl ?_;show wpAny (model P w) _ (field (.ref z) 3>>=_) _ _ _;refine Bk<|CJ hz rfl (x:=.ref TI) rfl<|Bk<|Cy hI rfl ?_;show wpAny (model P w) _ (Cb (.ref z)>>=_) _ _ _;refine Bk ?_;unfold Cb;refine Bk<|CJ hz rfl (x:=.none) rfl<|Br ?_;simp only[if_true];refine Bk (Ee (Bk (CJ hz rfl (x:=.ref TO) rfl (Bk (CB hz (by simp) fun g1 y1 b1=>?_)))));replace y1:Eu g1 z TI TO .ellipsis:=y1;replace b1:BM z hp g1:=b1;refine Bk ?_;simp only[EY,G9,Fc,Fx];refine Bk<|Bk<|DL ?_;show wpAny (model P w) _ (BY (.ref i1)>>=_) _ _ _;rcases hk with hk|hk
 ·subst hk;refine Bk<|D1.done _ _ _ (ax D1 t1 b1 Z.d1.1) fun g2 e b2 he=>?_;obtain⟨oe,hoe,hce⟩:=he;replace b2:Fo i1 g1 g2:=b2;have y2:Eu g2 z TI TO .ellipsis:=b2 _ _ Z.c3.symm y1;have ez:e≠z:=fun x=>by subst x;rw[y2]at hoe;cases hoe;simp at hce
  refine CB y2 (by simp) fun g3 _ b3=>?_;exact Bk<|En (T:="StopIteration") (b:=true) ⟨oe,b3.extBut _ _ ez hoe,hce⟩ EM<|Br<|q g3 _ fun c o e1 _ e3 _ _ x=>b3.extBut _ _ e1<|b2 _ _ e3<|b1.extBut _ _ e1 x
 ·have hk1:k< n1:=by rcases hk with z | z <;> exact z.1
  refine Bk<|D1.item k _ _ _ hk1 (ax D1 t1 b1 Z.d1.1) fun x g2 tk2 px u1 b2=>Br ?_;replace b2:BM i1 g1 g2:=b2;have O2:bX g2 TO a b c:=b2.extBut _ _ Z.c8<|b1.extBut _ _ Z.c2 hO;refine Bk<|Cy O2 rfl<|Bk<|bH O2 fun g3 O3 b3=>?_;replace b3:BM TO g2 g3:=b3;replace O3:bX g3 TO x b c:=O3;refine Bk<|Ew<|Br<|Bk<|Bk<|DL ?_;show wpAny (model P w) _ (BY (.ref i2)>>=_) _ _ _;rcases hk with⟨_,hk2⟩|⟨_,hk2,hk3⟩
  ·subst hk2;refine Bk<|D2.done _ _ _ (ax D2 (ax D2 (ax D2 t2 b1 Z.d2.1) b2 Z.d2.2.2.1) b3 Z.d2.2.1) fun g4 e b4 he=>?_;obtain⟨oe,hoe,hce⟩:=he;replace b4:Fo i2 g3 g4:=b4;have y4:Eu g4 z TI TO .ellipsis:=b4 _ _ Z.c4.symm<|b3.extBut _ _ Z.c2.symm<|b2.extBut _ _ Z.c3.symm y1;have ez:e≠z:=fun x=>by subst x;rw[y4]at hoe;cases hoe;simp at hce
   refine CB y4 (by simp) fun g5 _ b5=>?_;exact Bk<|En (T:="StopIteration") (b:=true) ⟨oe,b5.extBut _ _ ez hoe,hce⟩ EM<|Br<|q g5 _ fun c o e1 e2 e3 e4 _ x=>b5.extBut _ _ e1<|b4 _ _ e4<|b3.extBut _ _ e2<|b2.extBut _ _ e3<|b1.extBut _ _ e1 x
  ·subst hk3;refine Bk<|D2.item k _ _ _ hk2 (ax D2 (ax D2 (ax D2 t2 b1 Z.d2.1) b2 Z.d2.2.2.1) b3 Z.d2.2.1) fun y g4 tk4 py u2 b4=>Br ?_;replace b4:BM i2 g3 g4:=b4;have O4:bX g4 TO x b c:=b4.extBut _ _ Z.c9 O3;refine Bk<|Cy O4 rfl<|Bk<|bH O4 fun g5 O5 b5=>?_;replace b5:BM TO g4 g5:=b5;refine Bk<|Ew<|Br<|Bk<|Bk<|DL ?_;show wpAny (model P w) _ (BY (.ref i3)>>=_) _ _ _;refine Bk<|D3.done _ _ _ (ax D3 (ax D3 (ax D3 (ax D3 (ax D3 t3 b1 Z.d3.1) b2 Z.d3.2.2.1) b3 Z.d3.2.1) b4 Z.d3.2.2.2) b5 Z.d3.2.1) fun g6 e b6 he=>?_;obtain⟨oe,hoe,hce⟩:=he;replace b6:Fo i3 g5 g6:=b6;have y6:Eu g6 z TI TO .ellipsis:=b6 _ _ Z.c4'.symm<|b5.extBut _ _ Z.c2.symm<|b4.extBut _ _ Z.c4.symm<|b3.extBut _ _ Z.c2.symm<|b2.extBut _ _ Z.c3.symm y1;have ez:e≠z:=fun x=>by subst x;rw[y6]at hoe;cases hoe;simp at hce
   refine CB y6 (by simp) fun g7 _ b7=>?_;exact Bk<|En (T:="StopIteration") (b:=true) ⟨oe,b7.extBut _ _ ez hoe,hce⟩ EM<|Br<|q g7 _ fun c o e1 e2 e3 e4 e5 x=>b7.extBut _ _ e1<|b6 _ _ e5<|b5.extBut _ _ e2<|b4.extBut _ _ e4<|b3.extBut _ _ e2<|b2.extBut _ _ e3<|b1.extBut _ _ e1 x
end
def yN(K:Bo)(c1 c2 c3:Src):It:=
  ⟨fun i H=>∃xs ys us x y u,c1.has K H xs/\c2.has K H ys/\c3.has K H us/\xs[i]? =some x/\ys[i]? =some y/\us[i]? =some u,
   fun i H v H'=>∃p x y u,H p=none/\v=.ref p/\(∀xs,c1.has K H xs->xs[i]? =some x)/\(∀ys,c2.has K H ys->ys[i]? =some y)/\(∀us,c3.has K H us->us[i]? =some u)/\H'=cU H p (.tup [x,y,u]),
   fun i H=>∃xs ys us,c1.has K H xs/\c2.has K H ys/\c3.has K H us/\(i=xs.length\/(i<xs.length/\i=ys.length)\/(i<xs.length/\i<ys.length/\i=us.length))⟩
def Am(c1 c2 c3:Src)(z TI TO i1 i2 i3:Addr)(i:Nat)(h:Heap):Prop:=Eu h z TI TO .none/\bX h TI (.ref i1) (.ref i2) (.ref i3)/\(∃a b c,bX h TO a b c)/\c1.at i1 i h/\c2.at i2 i h/\c3.at i3 i h
structure ZIds3(z TI TO i1 i2 i3:Addr):Prop where
 c1:TI≠z
 c2:TO≠z
 c3:i1≠z
 c4:i2≠z
 c4':i3≠z
 c5:TI≠TO
 c6:TI≠i1
 c7:TI≠i2
 c7':TI≠i3
 c8:TO≠i1
 c9:TO≠i2
 c9':TO≠i3
 c10:i1≠i2
 c11:i1≠i3
 c12:i2≠i3
theorem oT{X:Cx}{pins:List (Addr×Obj)}{σ:St}{H:Hp}{s:Bs}{z TI TO i1 i2 i3:Addr}{fp1 fp2 fp3:List Addr}(I:Inv X pins σ H s)(Z:ZIds3 z TI TO i1 i2 i3)(hf:∀b∈[z,TI,TO,i1,i2,i3],FpOk X pins H b)
  (g1:∀b∈fp1,b=i1\/H b≠none\/∃o,X.base.get? b=some o) (g2:∀b∈fp2,b=i2\/H b≠none\/∃o,X.base.get? b=some o) (g3:∀b∈fp3,b=i3\/H b≠none\/∃o,X.base.get? b=some o):ZApart3 z TI TO i1 i2 i3 fp1 fp2 fp3:=by
 have no:∀b∈[z,TI,TO,i1,i2,i3],¬(H b≠none\/∃o,X.base.get? b=some o):=fun b hb q=>by
  rcases q with q|⟨o,q⟩
  ·exact q (hf b hb).1
  ·rcases (hf b hb).2.2.2.1 with y | y;·exact I.ok.noex b o q y
   ·exact absurd (BG (BG (BC q) I.ok.bsz) y)<|CU _
 refine⟨Z.c1,Z.c2,Z.c3,Z.c4,Z.c4',Z.c5,Z.c6,Z.c7,Z.c7',Z.c8,Z.c9,Z.c9',⟨fun m=>?_,fun m=>?_,fun m=>?_,fun m=>?_⟩,⟨fun m=>?_,fun m=>?_,fun m=>?_,fun m=>?_⟩,⟨fun m=>?_,fun m=>?_,fun m=>?_,fun m=>?_⟩⟩;·exact(g1 _ m).elim (fun e=>Z.c3 e.symm) (no z (by simp))
 ·exact(g1 _ m).elim (fun e=>Z.c8 e) (no TO (by simp))
 ·exact(g1 _ m).elim (fun e=>Z.c10 e.symm) (no i2 (by simp))
 ·exact(g1 _ m).elim (fun e=>Z.c11 e.symm) (no i3 (by simp))
 ·exact(g2 _ m).elim (fun e=>Z.c4 e.symm) (no z (by simp))
 ·exact(g2 _ m).elim (fun e=>Z.c9 e) (no TO (by simp))
 ·exact(g2 _ m).elim (fun e=>Z.c10 e) (no i1 (by simp))
 ·exact(g2 _ m).elim (fun e=>Z.c12 e.symm) (no i3 (by simp))
 ·exact(g3 _ m).elim (fun e=>Z.c4' e.symm) (no z (by simp))
 ·exact(g3 _ m).elim (fun e=>Z.c9' e) (no TO (by simp))
 ·exact(g3 _ m).elim (fun e=>Z.c11 e) (no i1 (by simp))
 ·exact(g3 _ m).elim (fun e=>Z.c12 e) (no i2 (by simp))
theorem qF{P:BK}{w:C2}{K:Bo}{elts:List Expr}{kk:Nat}{tp:Pos}(c1 c2 c3:Src)(z TI TO i1 i2 i3:Addr)(Z:ZIds3 z TI TO i1 i2 i3):
  Turn P w K (.Tuple elts kk tp) (yN K c1 c2 c3) [z,TI,TO,i1,i2,i3] z (Am c1 c2 c3 z TI TO i1 i2 i3) where
 mem:=by simp
 obj:=fun i h st b hb=>by
  obtain⟨hz,hI,⟨a,b',c',hO⟩,t1,t2,t3⟩:=st;obtain⟨o1,e1,v1,d1⟩:=GC t1;obtain⟨o2,e2,v2,d2⟩:=GC t2;obtain⟨o3,e3,v3,d3⟩:=GC t3;simp only[BE,Ci,or_false]at hb;rcases hb with rfl|rfl|rfl|rfl|rfl|rfl;·exact⟨_,hz,fun v q=>by cases (show Jj _=FN v from q)⟩
  ·exact⟨_,hI,fun v q=>by cases (show HR _ _=FN v from q)⟩
  ·exact⟨_,hO,fun v q=>by cases (show HR _ _=FN v from q)⟩
  ·exact⟨_,e1,fun v q=>by rw[d1]at q;cases q⟩
  ·exact⟨_,e2,fun v q=>by rw[d2]at q;cases q⟩
  ·exact⟨_,e3,fun v q=>by rw[d3]at q;cases q⟩
 keep:=fun i h h' st k=>by
  obtain⟨hz,hI,⟨a,b',c',hO⟩,t1,t2,t3⟩:=st;exact⟨k z (by simp) _ hz,k TI (by simp) _ hI,⟨a,b',c',k TO (by simp) _ hO⟩,G6 t1 (k i1 (by simp)),G6 t2 (k i2 (by simp)),G6 t3 (k i3 (by simp))⟩
 item:=by
  intro X hP hw hK hc i pins s σ H E I hf st hg;subst hP hw hK;obtain⟨xs,ys,us,x,y,u,hx,hy,hu,ex,ey,eu⟩:=hg;obtain⟨hz,hI,⟨a,b',c',hO⟩,t1,t2,t3⟩:=st;have hh:X.A.in1.handled=none:=I.ok.hd hc;obtain⟨fp1,P1,S1,D1,u1,r1,a1,_,g1⟩:=Hg (A:=X.A.in1) hh I hx t1 (hf i1 (by simp)).1;obtain⟨fp2,P2,S2,D2,u2,r2,a2,_,g2⟩:=Hg (A:=X.A.in1) hh I hy t2 (hf i2 (by simp)).1;obtain⟨fp3,P3,S3,D3,u3,r3,a3,_,g3⟩:=Hg (A:=X.A.in1) hh I hu t3 (hf i3 (by simp)).1;have ZA:=oT I Z hf g1 g2 g3;refine qz D1 D2 D3 ZA (Bv.mp ex).1 (Bv.mp ey).1 (Bv.mp eu).1 hz hI hO u1 u2 u3 fun vx vy vu h' tk T px py pu hT hz' hO' w1 w2 w3 hTp kp=>?_;obtain⟨x',ex',rx⟩:=r1 i vx px;obtain⟨y',ey',ry⟩:=r2 i vy py;obtain⟨u',eu',ru⟩:=r3 i vu pu;rw[ex]at ex';cases ex';rw[ey]at ey';cases ey';rw[eu]at eu';cases eu';have nT:H T=none:=by rw[hT];exact I.hok.fresh<|Bt _
  refine⟨_,rfl,GD hz' fun h2 hz2 sb=>?_⟩;have lt:∀{c o},s.heap.get? c=some o->c≠T:=fun e=>by rw[hT];exact BO<|BC e
  have up:∀c o,c≠z->h'.get? c=some o->h2.get? c=some o:=fun c o hc e=>(sb.2 c hc).trans e;have kp2:∀b o,b∉[z,TO,i1,i2,i3]->s.heap.get? b=some o->h2.get? b=some o:=fun b o hb e=>by
   simp only[BE,Ci,or_false,not_or]at hb;exact up b o hb.1<|kp b o hb.1 hb.2.1 hb.2.2.1 hb.2.2.2.1 hb.2.2.2.2 e
  have ch:∀b∈[z,TO,i1,i2,i3],b∈[z,TI,TO,i1,i2,i3]:=fun b hb=>by
   simp only[BE,Ci,or_false]at hb ⊢;rcases hb with h|h|h|h|h<;>simp[h]
  have iK:∀b u,H b=some u->b∉[z,TO,i1,i2,i3]/\b≠T:=fun b u e=>⟨fun hb=>(by rw[(hf b<|ch b hb).1]at e;cases e),fun q=>(by rw[q,nT]at e;cases e)⟩
  have I2:Inv X pins σ (cU H T<|.tup [x,y,u]) {s with heap:=h2,gens:=s.gens,drawn:=s.drawn,toks:=tk}:=by
   refine I.step (g':=s.gens) (d':=s.drawn) (t':=tk) (ch:=[z,TO,i1,i2,i3]) (fun b hb=>⟨(hf b<|ch b hb).2.2.2.1,(hf b<|ch b hb).2.1,(hf b<|ch b hb).2.2.2.2.1,(hf b<|ch b hb).2.2.2.2.2⟩) (fun b o _ _ hb e _=>kp2 b o hb e) (fun b o _ _ hb e _=>⟨o.slots,kp2 b o hb e⟩)
    (fun b o hb e n=>by rw[aH<|lt e];exact n) (fun b o hb e=>⟨o,kp2 b o hb e⟩) (fun b xs e=>by rw[aH (iK b _ e).2];exact e) (fun b o u e=>by rw[aH (iK b _ e).2];exact e) (fun b ps e=>⟨#[],by rw[aH (iK b _ e).2,e];simp⟩) (fun m hm=>?_) (fun b u e=>?_) I.bare
   ·obtain⟨o,es,ep,ho,r⟩:=hm;exact⟨o,es,ep,kp2 _ o (fun hb=>(hf _<|ch _ hb).2.1 rfl) ho,r⟩
   ·by_cases hb:b=T
    ·subst hb;rw[aG]at e;cases e;refine⟨(by show 3<=sizeLine;rw[CF];decide),[vx,vy,vu],.cons rx<|.cons ry<|.cons ru .nil,⟨_,up _ _ ?_ hTp,⟨rfl,rfl⟩,_,rfl⟩⟩;exact fun q=>lt hz q.symm
    ·rw[aH hb]at e;refine(I.hok b u e).stay (fun c v hc q=>kp2 c v ?_ q) (fun c q=>by rw[aH (iK c _ q).2];exact q) fun c xs q=>by rw[aH (iK c _ q).2];exact q
     rcases hc with q|q;·rw[q];exact(iK b u e).1
     ·exact(iK c _ q).1
  refine⟨.ref T,_,I2,rfl,⟨T,x,y,u,nT,rfl,fun xs' h=>by rw[Ln I h hx];exact ex,fun ys' h=>by rw[Ln I h hy];exact ey,fun us' h=>by rw[Ln I h hu];exact eu,rfl⟩,⟨hz2,up _ _ Z.c1<|kp _ _ Z.c1 Z.c5 Z.c6 Z.c7 Z.c7' hI,⟨_,_,_,up _ _ Z.c2 hO'⟩,G6 (a1 _ _ w1) fun o e=>up _ o Z.c3 e,G6 (a2 _ _ w2) fun o e=>up _ o Z.c4 e,G6 (a3 _ _ w3) fun o e=>up _ o Z.c4' e⟩,fun b hb=>?_⟩;have hbT:b≠T:=by
   obtain⟨o,e⟩:∃o,s.heap.get? b=some o:=by
    obtain⟨o1,e1,_⟩:=GC t1;obtain⟨o2,e2,_⟩:=GC t2;obtain⟨o3,e3,_⟩:=GC t3;simp only[BE,Ci,or_false]at hb;rcases hb with rfl|rfl|rfl|rfl|rfl|rfl;·exact⟨_,hz⟩
    ·exact⟨_,hI⟩
    ·exact⟨_,hO⟩
    ·exact⟨_,e1⟩
    ·exact⟨_,e2⟩
    ·exact⟨_,e3⟩
   exact lt e
  rw[aH hbT];exact(hf b hb).1
 done:=by
  intro X hP hw hK hc i pins s σ H E I hf st hg;subst hP hw hK;obtain⟨xs,ys,us,hx,hy,hu,hend⟩:=hg;obtain⟨hz,hI,⟨a,b',c',hO⟩,t1,t2,t3⟩:=st;have hh:X.A.in1.handled=none:=I.ok.hd hc;obtain⟨fp1,P1,S1,D1,u1,r1,a1,_,g1⟩:=Hg (A:=X.A.in1) hh I hx t1 (hf i1 (by simp)).1;obtain⟨fp2,P2,S2,D2,u2,r2,a2,_,g2⟩:=Hg (A:=X.A.in1) hh I hy t2 (hf i2 (by simp)).1;obtain⟨fp3,P3,S3,D3,u3,r3,a3,_,g3⟩:=Hg (A:=X.A.in1) hh I hu t3 (hf i3 (by simp)).1;have ZA:=oT I Z hf g1 g2 g3;have ch:∀b∈[z,TO,i1,i2,i3],b∈[z,TI,TO,i1,i2,i3]:=fun b hb=>by
   simp only[BE,Ci,or_false]at hb ⊢;rcases hb with h|h|h|h|h<;>simp[h]
  refine sA hh D1 D2 D3 ZA hend hz hI hO u1 u2 u3 fun h2 tk kp=>⟨rfl,?_⟩
  have kp2:∀b o,b∉[z,TO,i1,i2,i3]->s.heap.get? b=some o->h2.get? b=some o:=fun b o hb e=>by
   simp only[BE,Ci,or_false,not_or]at hb;exact kp b o hb.1 hb.2.1 hb.2.2.1 hb.2.2.2.1 hb.2.2.2.2 e
  refine I.step (g':=s.gens) (d':=s.drawn) (t':=tk) (ch:=[z,TO,i1,i2,i3]) (fun b hb=>⟨(hf b<|ch b hb).2.2.2.1,(hf b<|ch b hb).2.1,(hf b<|ch b hb).2.2.2.2.1,(hf b<|ch b hb).2.2.2.2.2⟩) (fun b o _ _ hb e _=>kp2 b o hb e) (fun b o _ _ hb e _=>⟨o.slots,kp2 b o hb e⟩)
   (fun b o hb e n=>n) (fun b o hb e=>⟨o,kp2 b o hb e⟩) (fun b xs e=>e) (fun b o u e=>e) (fun b ps e=>⟨#[],by rw[e];simp⟩) (fun m hm=>?_) (fun b u e=>?_) I.bare
  ·obtain⟨o,es,ep,ho,r⟩:=hm;exact⟨o,es,ep,kp2 _ o (fun hb=>(hf _<|ch _ hb).2.1 rfl) ho,r⟩
  ·have iK:∀b u,H b=some u->b∉[z,TO,i1,i2,i3]:=fun b u e hb=>by rw[(hf b<|ch b hb).1]at e;cases e
   refine(I.hok b u e).stay (fun c v hc q=>kp2 c v ?_ q) (fun c q=>q) fun c xs q=>q;rcases hc with q|q
   ·rw[q];exact iK b u e
   ·exact iK c _ q
 self:=fun _ _ _ _ _ st h=>FP st.1 h
theorem yO{x y z:V}{us:List Bq}(r:Vals [x,y,z] us):∃u v w',us=[u,v,w']/\RelV x u/\RelV y v/\RelV z w':=by
 cases r with
 |cons h1 r=>cases r with
  |cons h2 r=>cases r with
   |cons h3 r=>cases r;exact⟨_,_,_,rfl,h1,h2,h3⟩
def wR(K:Bo)(t:TA):TI:=fun σ H R=>t σ H fun vs H1=>∃c1 c2 c3 xs ys us,vs=[c1.val,c2.val,c3.val]/\c1.has K H1 xs/\c2.has K H1 ys/\c3.has K H1 us/\R (yN K c1 c2 c3) H1
theorem vm{X:Cx}{K:Bo}(hK:X.K=K){a b c:Expr}{ta:TA}{p pos tp:Pos}{elts:List Expr}{kk:Nat}(hg:Gl X "zip")(hm:X.mg "zip"=none)(ha:PA X [a,b,c] ta)
  (hs:starEach [a,b,c] X.env=[(false,eval a X.env),(false,eval b X.env),(false,eval c X.env)]:=by rfl) (hs2:starEach [b,c] X.env=[(false,eval b X.env),(false,eval c X.env)]:=by rfl):PI X (.Tuple elts kk tp) (.Call (.Name "zip" p) [a,b,c] [] pos) (wR K ta):=by
 subst hK;intro pins s σ H R I h;refine Call_ (gO I hg hm boot_zip (Dt (cT (ha pos pins s σ H _ I h) fun us s1⟨vs,H1,I1,r1,q1⟩=>?_) (by rw[hs,hs2]) (by rw[hs2];rfl)));obtain⟨c1,c2,c3,xs,ys,zs,e,h1,h2,h3,q⟩:=q1;subst e;obtain⟨v1,v2,v3,rfl,ra,rb,rc⟩:=yO r1;obtain⟨o1,i1,f1,n1⟩:=KZ I1 h1 ra fun _ _ e=>e;obtain⟨o2,i2,f2,n2⟩:=KZ (h:=s1.heap.push o1) I1 h2 rb fun _ _ e=>Bm _ e;obtain⟨o3,i3,f3,n3⟩:=KZ (h:=(s1.heap.push o1).push o2) I1 h3 rc fun _ _ e=>Bm _<|Bm _ e;have z1:(s1.heap.push o1).objs.size=s1.heap.objs.size+1:=Cs ..;have z2:((s1.heap.push o1).push o2).objs.size=s1.heap.objs.size+2:=by rw[Cs,z1]
 rw[z1]at n2;rw[z2]at n3;refine qy i1 i2 i3 f1 f2 f3 fun h' hz hI hO e1 e2 e3 kp=>?_;refine FP hz ?_;have zi:∀n:Nat,ZIds3 (n+5) (n+3) (n+4) n (n+1) (n+2):=fun n=>⟨(iU n 3 5 (by decide)),(iU n 4 5 (by decide)),(iU n 0 5 (by decide)),(iU n 1 5 (by decide)),(iU n 2 5 (by decide)),(iU n 3 4 (by decide)),(iU n 3 0 (by decide)),(iU n 3 1 (by decide)),(iU n 3 2 (by decide)),(iU n 4 0 (by decide)),(iU n 4 1 (by decide)),(iU n 4 2 (by decide)),(iU n 0 1 (by decide)),(iU n 0 2 (by decide)),(iU n 1 2 (by decide))⟩
 refine⟨s1.heap.objs.size+5,[s1.heap.objs.size+5,s1.heap.objs.size+3,s1.heap.objs.size+4,s1.heap.objs.size,s1.heap.objs.size+1,s1.heap.objs.size+2],_,_,H1,rfl,I1.kept (t':=s1.toks) kp,qF c1 c2 c3 _ _ _ _ _ _<|zi s1.heap.objs.size,⟨hz,hI,⟨_,_,_,hO⟩,n1 h' e1,n2 h' e2,n3 h' e3⟩,fun b hb=>?_,q⟩;have hb':s1.heap.objs.size<=b:=by
  simp only[BE,Ci,or_false]at hb;rcases hb with z|z|z|z|z|z<;>rw[z]
  ·exact Cz _ 5
  ·exact Cz _ 3
  ·exact Cz _ 4
  ·exact Bt _
  ·exact Cz _ 1
  ·exact Cz _ 2
 exact I1.fpOk hb'<|I1.hok.fresh hb'
end L2
namespace Mi
inductive Res(α:Type) where
 |ok (a:α)|err (j:Nat)|stuck
namespace Res
variable{α β:Type}
def Ok(m:Res α)(P:α->Prop):Prop:=match m with| .ok a=>P a|_=>False
def bind(m:Res α)(f:α->Res β):Res β:=match m with| .ok a=>f a| .err j=>.err j| .stuck=>.stuck
theorem bind_ok{m:Res α}{f:α->Res β}{P:β->Prop}(h:m.Ok fun a=>(f a).Ok P):(m.bind f).Ok P:=by cases m<;>exact h
theorem Ok.imp{m:Res α}{P Q:α->Prop}(h:m.Ok P)(k:∀a,P a->Q a):m.Ok Q:=by cases m<;>first|exact k _ h|exact h
theorem Ok.ex{m:Res α}{P:α->Prop}(h:m.Ok P):∃a,m=.ok a/\P a:=by
 cases m with
 |ok a=>exact⟨a,rfl,h⟩
 |err j=>exact h.elim
 |stuck=>exact h.elim
def OkE(m:Res α)(Er:Nat->Prop)(P:α->Prop):Prop:=match m with| .ok a=>P a| .err j=>Er j| .stuck=>False
theorem okE_bind{m:Res α}{f:α->Res β}{Er:Nat->Prop}{P:β->Prop}(h:(m.bind f).OkE Er P):m.OkE Er fun a=>(f a).OkE Er P:=by cases m<;>exact h
theorem OkE.imp{m:Res α}{Er:Nat->Prop}{P Q:α->Prop}(h:m.OkE Er P)(k:∀a,P a->Q a):m.OkE Er Q:=by cases m<;>first|exact k _ h|exact h
theorem Ok.e{m:Res α}{Er:Nat->Prop}{P:α->Prop}(h:m.Ok P):m.OkE Er P:=by
 cases m with
 |ok a=>exact h
 |err j=>exact h.elim
 |stuck=>exact h.elim
@[simp] theorem bind_ok'(a:α)(f:α->Res β):(Res.ok a).bind f=f a:=rfl
end Res
abbrev cap:Nat:=100000
def eA(b:Prop)[Decidable b]{α:Type}(a:α):Res α:=if b then .ok a else .stuck
theorem bz{b:Prop}[Decidable b]{α:Type}{a:α}(h:b):eA b a=.ok a:=if_pos h
theorem bh{b:Prop}[Decidable b]{α:Type}{a:α}{Er:Nat->Prop}{P:α->Prop}(h:(eA b a).OkE Er P):b/\P a:=by
 unfold eA at h;by_cases hb:b;·rw[if_pos hb]at h;exact⟨hb,h⟩
 ·rw[if_neg hb]at h;exact h.elim
def rG{α:Type}:Option α->Res α
 |some a=>.ok a
 |none=>.stuck
theorem dv{α:Type}{o:Option α}{Er:Nat->Prop}{P:α->Prop}(h:(rG o).OkE Er P):∃a,o=some a/\P a:=by
 cases o with
 |none=>exact h.elim
 |some a=>exact⟨a,rfl,h⟩
abbrev Tx:=List Nat
def eL(i:Int):Int:=if i<0 then -i else i
def iW(i j:Int):Res Int:=eA ((-(2^64)<i/\i<2^64)\/(-(2^64)<j/\j<2^64))<|i*j
def jr(i j:Int):Res Int:=eA (0<j/\j<1073741824)<|i/j
def gG(i j:Int):Res Int:=eA (0<j)<|i%j
def ixN(n:Nat)(i:Int):Option Nat:=if 0<=i then(if i<n then some i.toNat else none)else if -(n:Int)<=i then some (i+n).toNat else none
def oU{α:Type}(xs:List α)(i:Int):Option α:=(ixN xs.length i).bind fun j=>xs[j]?
theorem oV{α:Type}{xs:List α}{j:Nat}{v:α}(h:xs[j]? =some v):oU xs (j:Int)=some v:=by
 have hl:j<xs.length:=(Bv.mp h).1;unfold oU ixN;rw[if_pos (by omega),if_pos (by omega),DQ];exact h
theorem sC{α:Type}{xs:List α}{i:Int}(h0:0<=i)(h1:i<xs.length):∃h:i.toNat<xs.length,oU xs i=some xs[i.toNat]:=by
 have h2:i.toNat<xs.length:=by omega
 refine⟨h2,?_⟩;have:=oV (xs:=xs) (j:=i.toNat) (v:=xs[i.toNat]) (by simp[h2]);rw[Int.toNat_of_nonneg h0]at this;exact this
def dF{α:Type}(xs:List α)(i:Int):Res α:=rG<|oU xs i
def fb(x:Tx)(i:Int):Res Tx:=(eA (x.length<=cap) x).bind fun x=>(rG<|oU x i).bind fun c=>.ok [c]
def kq(a b:Tx):Res Tx:=eA (a.length+b.length<=cap)<|a++b
def xC{α:Type}(a b:List α):Res (List α):=eA (a.length+b.length<=cap)<|a++b
def gH{α:Type}(a:List α)(x:α):Res (List α):=eA (a.length<cap)<|a++[x]
def xD(a:Tx)(n:Int):Res Tx:=match a with
 | [c]=>eA (0<=n/\n<=cap)<|DN n.toNat c
 |_=>.stuck
def sIx(n d:Nat):Option Int->Nat
 |none=>d
 |some v=>if v<0 then(v+(n:Int)).toNat else min v.toNat n
def cut{α:Type}(l:List α)(lo hi:Option Int):List α:=(l.drop<|sIx l.length 0 lo).take (sIx l.length l.length hi-sIx l.length 0 lo)
def qG(x:Tx)(lo hi:Option Int):Res Tx:=eA (x.length<=cap)<|cut x lo hi
def iB{α:Type}(xs:List α)(i:Int)(x:α):Res (List α):=(rG<|ixN xs.length i).bind fun j=>.ok<|xs.set j x
def sD(x:Tx)(c:Nat):Option Nat:=x.findIdx? (· ==c)
def iX(x y:Tx):Res Int:=match y with
 | [c]=>(rG<|sD x c).bind fun j=>.ok (j:Int)
 |_=>.stuck
def mM(xs:List Tx):Res Tx:=eA (xs.flatten.length<=cap) xs.flatten
def look{κ α:Type}[DecidableEq κ](kvs:List (κ×α))(k:κ):Option α:=(kvs.find? fun p=>decide<|p.1=k).map (·.2)
def getD{κ α:Type}[DecidableEq κ](kvs:List (κ×α))(k:κ):Res α:=rG<|look kvs k
def hZ{α β:Type}(f:α->Res β):List α->Res (List β)
 | []=>.ok []
 |a::r=>(f a).bind fun b=>(hZ f r).bind fun bs=>.ok (b::bs)
def dG{α β:Type}(xs:List α)(f:α->Res β):Res (List β):=(eA (xs.length<=cap) xs).bind fun xs=>hZ f xs
def i4{α β:Type}(f:α->Res (Option β)):List α->Res (List β)
 | []=>.ok []
 |a::r=>(f a).bind fun b=>(i4 f r).bind fun bs=>.ok (match b with|some b=>b::bs|none=>bs)
def oW{α β:Type}(xs:List α)(f:α->Res (Option β)):Res (List β):=(eA (xs.length<=cap) xs).bind fun xs=>i4 f xs
def cO{α S:Type}(f:α->S->Res S):List α->S->Res S
 | [],s=>.ok s
 |a::r,s=>(f a s).bind fun s=>cO f r s
inductive Fl(γ S:Type) where
 |nx (s:S)|bk (s:S)|rt (r:γ)
def vn{S γ:Type}(k:S->Res (Fl γ S)):Fl γ S->Res (Fl γ S)
 | .nx s=>k s
 | .bk s=>.ok<|.nx s
 | .rt x=>.ok<|.rt x
def fo{α S γ:Type}(f:α->S->Res (Fl γ S)):List α->S->Res (Fl γ S)
 | [],s=>.ok<|.nx s
 |a::r,s=>(f a s).bind (vn<|fo f r)
def js(n:Int):List Int:=(CZ n.toNat).map fun(i:Nat)=>(i:Int)
def fF(n:Int):Res (List Int):=eA (-(2^62)<=n/\n<2^62)<|js n
def cQ(x:Tx):List Tx:=x.map fun c=>[c]
def iC(xs:List Int):List Int:=xs.mergeSort fun a b=>decide<|a<=b
theorem iN(xs:List Int):(iC xs).Perm xs:=HZ _ _
theorem kO(xs:List Int):(iC xs).Pairwise (· <= ·):=by
 have:=Hc (le:=fun a b:Int=>decide<|a<=b) (fun a b c h1 h2=>by simp at *;omega) (fun a b=>by simp;omega) xs;exact this.imp fun h=>by simpa using h
theorem qH{xs ys:List Int}(h:ys.Perm xs)(hs:ys.Pairwise (· <= ·)):ys=iC xs:=
 GW (le:=(· <= ·)) (fun a b _ _ h1 h2=>by omega) hs (kO xs) (h.trans (iN xs).symm)
def sE(xs:List Int):Res (List Int):=eA (xs.length<64)<|iC xs
def wU{α:Type}[DecidableEq α](a b:α):Res Bool:=if a=b then .ok true else .stuck
def xE{α:Type}:List α->Res (α×α×α)
 | [a,b,c]=>.ok (a,b,c)
 |_=>.stuck
theorem oX{α β:Type}{f:α->Res β}{g:α->β}:∀{xs:List α},(∀x∈xs,f x=.ok (g x))->hZ f xs=.ok (xs.map g)
 | [],_=>rfl
 |a::r,h=>by
  unfold hZ;rw[h a<|BR ..,Res.bind_ok',oX fun x hx=>h x<|BP _ hx];rfl
theorem cZ{α β:Type}{f:α->Res β}{g:α->β}{xs:List α}(hl:xs.length<=cap)(h:∀x∈xs,f x=.ok (g x)):dG xs f=.ok (xs.map g):=by
 unfold dG;rw[bz hl,Res.bind_ok',oX h]
end Mi
open Mi.Res renaming okE_bind->Bj,bind_ok'->Bl,ok->Bp,stuck->Gq
open Mi.Res.Ok renaming imp->Cq
open Mi.Res.OkE renaming imp->Cn
namespace Wb
open PySem L2 Mi
variable{Er:Nat->Prop}
structure Wd where
 G:Hp
 H:Hp
 ok:Same G H
structure Ext(W W':Wd):Prop where
 g:Same W.G W'.G
 h:Same W.H W'.H
 k:∀p,W.H p≠none->W'.G p=W.G p
theorem Ext.refl(W:Wd):Ext W W:=⟨.refl _,.refl _,fun _ _=>rfl⟩
theorem Ext.trans{W W1 W2:Wd}(a:Ext W W1)(b:Ext W1 W2):Ext W W2:=⟨a.g.trans b.g,a.h.trans b.h,fun p hp=>by
 obtain⟨o,ho⟩:=EN.mp hp;rw[b.k p (by rw[a.h p o ho];exact fun z=>nomatch z),a.k p hp]⟩
theorem Same.upd2{G H:Hp}(h:Same G H)(p:Addr)(o:HO):Same (cU G p o) (cU H p o):=fun a u e=>by
 by_cases z:a=p;·subst z;rw[aG]at e ⊢;exact e
 ·rw[aH z]at e ⊢;exact h _ _ e
def Wd.new(W:Wd)(p:Addr)(o:HO):Wd:=⟨cU W.G p o,cU W.H p o,Same.upd2 W.ok p o⟩
theorem Wd.gnone(W:Wd){p:Addr}(h:W.H p=none):W.G p=none:=none_of W.ok h
theorem Ext.new{W:Wd}{p:Addr}(o:HO)(h:W.H p=none):Ext W (W.new p o):=⟨dR<|W.gnone h,dR h,fun q hq=>aH fun z=>hq<|z▸h⟩
def Wd.mut(W:Wd)(p:Addr)(o:HO)(h:W.G p=none):Wd:=⟨W.G,cU W.H p o,qx W.ok h⟩
theorem Ext.own{W:Wd}{p:Addr}(o:HO)(h:W.H p=none):Ext W (W.mut p o<|W.gnone h):=⟨.refl _,dR h,fun _ _=>rfl⟩
def Wd.frz(W:Wd)(p:Addr)(o:HO)(h:W.H p=some o):Wd:=⟨cU W.G p o,W.H,fun a u e=>by
 by_cases z:a=p;·subst z;rw[aG]at e;cases e;exact h
 ·rw[aH z]at e;exact W.ok _ _ e⟩
theorem Ext.mut{W0 W:Wd}{p:Addr}{o:HO}(e:Ext W0 W)(hp:W0.H p=none)(h:W.G p=none):Ext W0 (W.mut p o h):=
 ⟨e.g,fun a u z=>by show cU W.H p o a=_;rw[aH<|cm z hp];exact e.h _ _ z,e.k⟩
theorem Ext.frz{W0 W:Wd}{p:Addr}{o:HO}(e:Ext W0 W)(hp:W0.H p=none)(h:W.H p=some o)(hg:W.G p=none):Ext W0 (W.frz p o h):=
 ⟨e.g.trans<|dR hg,e.h,fun q hq=>by show cU W.G p o q=_;rw[aH (fun z=>hq (by rw[z];exact hp))];exact e.k q hq⟩
abbrev Rw(α:Type):=Wd->α->V->Prop
class MonoW{α:Type}(R:Rw α):Prop where
 mono:∀{W W':Wd}{a:α}{v:V},Ext W W'->R W a v->R W' a v
def sh{α:Type}(R:Rp α):Rw α:=fun W a v=>R W.G a v
instance zkeep8{α:Type}{R:Rp α}[Mono R]:MonoW (sh R):=⟨fun e h=>Bi (R:=R) e.g h⟩
def pk{α:Type}(R:Rp α):Rw (List α):=fun W xs v=>∃p vs,v=.ref p/\W.H p=some (.lst vs)/\LR R W.G xs vs
instance zkeep9{α:Type}{R:Rp α}[Mono R]:MonoW (pk R):=⟨fun e⟨p,vs,a,b,c⟩=>⟨p,vs,a,e.h _ _ b,c.same e.g⟩⟩
theorem pk.of{α:Type}{R:Rp α}{W:Wd}{xs:List α}{v:V}(h:isL R W.G xs v):pk R W xs v:=by
 obtain⟨p,vs,a,b,c⟩:=h;exact⟨p,vs,a,W.ok _ _ b,c⟩
structure Ow{α:Type}(R:Rp α)(W:Wd)(p:Addr)(xs:List α):Prop where
 g:W.G p=none
 h:∃vs,W.H p=some (.lst vs)/\LR R W.G xs vs
theorem Ow.mono{α:Type}{R:Rp α}[Mono R]{W W':Wd}{p:Addr}{xs:List α}(o:Ow R W p xs)(e:Ext W W'):Ow R W' p xs:=by
 obtain⟨vs,a,b⟩:=o.h;exact⟨by rw[e.k p (by rw[a];exact fun z=>nomatch z)];exact o.g,vs,e.h _ _ a,b.same e.g⟩
theorem Ow.pk{α:Type}{R:Rp α}{W:Wd}{p:Addr}{xs:List α}(o:Ow R W p xs):pk R W xs (.ref p):=by
 obtain⟨vs,a,b⟩:=o.h;exact⟨p,vs,rfl,a,b⟩
theorem Ow.frz{α:Type}{R:Rp α}[Mono R]{W0 W:Wd}{p:Addr}{xs:List α}(o:Ow R W p xs)(e:Ext W0 W)(hp:W0.H p=none):
  ∃W',W'.H=W.H/\Ext W0 W'/\Same W.G W'.G/\isL R W'.G xs (.ref p)/\∀q,q≠p->W'.G q=W.G q:=by
 obtain⟨vs,a,b⟩:=o.h;exact⟨W.frz p _ a,rfl,e.frz hp a o.g,dR o.g,⟨p,vs,rfl,aG,b.same<|dR o.g⟩,fun q hq=>aH hq⟩
theorem Ow.keep{α:Type}{R:Rp α}[Mono R]{W W':Wd}{q:Addr}{xs:List α}(o:Ow R W q xs)(hH:W'.H q=W.H q)(hs:Same W.G W'.G)(hg:W'.G q=W.G q):Ow R W' q xs:=by
 obtain⟨vs,a,b⟩:=o.h;exact⟨by rw[hg];exact o.g,vs,by rw[hH];exact a,b.same hs⟩
def EV(Er:Nat->Prop){α:Type}(t:TE)(σ:St)(W:Wd)(R:Rw α)(m:Res α):Prop:=∀W1,Ext W W1->∀Q:VK,m.OkE Er (fun a=>∀v W2,Ext W1 W2->R W2 a v->Q v W2.H)->t σ W1.H Q
def EVo(Er:Nat->Prop){α:Type}(t:TE)(σ:St)(W:Wd)(R:Rp α)(m:Res (List α)):Prop:=∀W1,Ext W W1->∀Q:VK,m.OkE Er (fun xs=>∀p W2,Ext W1 W2->W1.H p=none->Ow R W2 p xs->Q (.ref p) W2.H)->t σ W1.H Q
def TV(Er:Nat->Prop)(t:TT)(σ:St)(W:Wd)(m:Res Bool):Prop:=∀W1,Ext W W1->∀Q:Bool->Hp->Prop,m.OkE Er (fun b=>∀W2,Ext W1 W2->Q b W2.H)->t σ W1.H Q
section
variable{α β γ:Type}{t ta tb:TE}{σ:St}{W W0 W':Wd}{K:Bo}
theorem EV.imp{R R':Rw α}{m:Res α}(h:EV Er t σ W R m)(f:∀W a v,R W a v->R' W a v):EV Er t σ W R' m:=fun W1 e1 Q k=>h W1 e1 Q<|k.imp fun a ka v W2 e2 r=>ka v W2 e2<|f _ _ _ r
theorem EVo.ev{R:Rp α}[Mono R]{m:Res (List α)}(h:EVo Er t σ W R m):EV Er t σ W (sh<|isL R) m:=fun W1 e1 Q k=>h W1 e1 Q (k.imp fun xs kx p W2 e2 hp o=>by
 obtain⟨W3,hH,e3,_,r,_⟩:=o.frz e2 hp;rw[<-hH];exact kx (.ref p) W3 e3 r)
theorem EVo.pk{R:Rp α}[Mono R]{m:Res (List α)}(h:EVo Er t σ W R m):EV Er t σ W (pk R) m:=fun W1 e1 Q k=>h W1 e1 Q<|k.imp fun xs kx p W2 e2 hp o=>kx (.ref p) W2 e2 o.pk
theorem EV.pk{R:Rp α}{m:Res (List α)}(h:EV Er t σ W (sh<|isL R) m):EV Er t σ W (pk R) m:=h.imp fun _ _ _ r=>pk.of r
theorem gU{R:Rw α}[MonoW R]{i:Nat}{v:V}{a:α}(r:R W a v)(h:σ[i]? =some (some v):=by rfl):EV Er (bF i) σ W R (.ok a):=fun W1 e1 Q k=>⟨v,h,k v W1 (.refl _)<|MonoW.mono e1 r⟩
theorem fG{R:Rp α}[Mono R]{i:Nat}{p:Addr}{a:List α}(r:Ow R W p a)(h:σ[i]? =some (some<|.ref p):=by rfl):EV Er (bF i) σ W (pk R) (.ok a):=gU r.pk h
def isB:Rp Bool:=fun _ b v=>v=.bl b
instance zkeep10:Mono isB:=⟨fun _ h=>h⟩
theorem ag{i:Int}:EV Er (tC<|.int i) σ W (sh isI) (.ok i):=fun W1 _ Q k=>k _ W1 (.refl _) rfl
theorem bt{x:Str}{l:Tx}(h:x=sOf l):EV Er (tC<|.str x) σ W (sh isS) (.ok l):=fun W1 _ Q k=>k _ W1 (.refl _) (by rw[h];rfl)
theorem dU{b:Bool}:EV Er (tC<|.bl b) σ W (sh isB) (.ok b):=fun W1 _ Q k=>k _ W1 (.refl _) rfl
theorem oY{r:R2}{Ra:Rw α}[MonoW Ra]{Rb:Rw β}{R:Rw γ}{ma:Res α}{mb:Res β}{f:α->β->Res γ}(ha:EV Er ta σ W Ra ma)(hb:EV Er tb σ W Rb mb)
  (h:∀W a b x y Q,Ra W a x->Rb W b y->(f a b).OkE Er (fun c=>∀v W2,Ext W W2->R W2 c v->Q v W2.H)->r x y W.H Q):EV Er (cX r ta tb) σ W R (ma.bind fun a=>mb.bind fun b=>f a b):=fun W1 e1 Q k=>by
 refine ha W1 e1 _<|(Bj k).imp fun a ka x W2 e2 hx=>?_;refine hb W2 (e1.trans e2) _<|(Bj ka).imp fun b kb y W3 e3 hy=>?_;exact h W3 a b x y Q (MonoW.mono e3 hx) hy<|kb.imp fun c kc v W4 e4 hv=>kc v W4 ((e2.trans e3).trans e4) hv
theorem AA{r:V->Hp->VK->Prop}{Ra:Rw α}{R:Rw γ}{ma:Res α}{f:α->Res γ}(ha:EV Er ta σ W Ra ma)
  (h:∀W a x Q,Ra W a x->(f a).OkE Er (fun c=>∀v W2,Ext W W2->R W2 c v->Q v W2.H)->r x W.H Q):EV Er (fB r ta) σ W R (ma.bind f):=fun W1 e1 Q k=>by
 refine ha W1 e1 _<|(Bj k).imp fun a ka x W2 e2 hx=>?_;exact h W2 a x Q hx<|ka.imp fun c kc v W4 e4 hv=>kc v W4 (e2.trans e4) hv
section
variable{ma mb:Res Int}
theorem aJ{g:Int->Int->Int}(ha:EV Er ta σ W (sh isI) ma)(hb:EV Er tb σ W (sh isI) mb):EV Er (cX (eP fun i j=>.int<|g i j) ta tb) σ W (sh isI) (ma.bind fun a=>mb.bind fun b=>.ok<|g a b):=
 oY ha hb fun W a b x y Q hx hy k=>by cases hx;cases hy;exact⟨a,b,rfl,rfl,k _ W (.refl _) rfl⟩
theorem sF{C:Int->Int->Prop}{g:Int->Int->Int}{f:Int->Int->Res Int}(hf:∀a b P,(f a b).OkE Er P->C a b/\P (g a b))(ha:EV Er ta σ W (sh isI) ma)(hb:EV Er tb σ W (sh isI) mb):
  EV Er (cX (rI C fun i j=>.int<|g i j) ta tb) σ W (sh isI) (ma.bind fun a=>mb.bind fun b=>f a b):=
 oY ha hb fun W a b x y Q hx hy k=>by cases hx;cases hy;exact⟨a,b,rfl,rfl,(hf a b _ k).1,(hf a b _ k).2 _ W (.refl _) rfl⟩
theorem iD(ha:EV Er ta σ W (sh isI) ma)(hb:EV Er tb σ W (sh isI) mb):EV Er (cX (rI CMul fun i j=>.int<|i*j) ta tb) σ W (sh isI) (ma.bind fun a=>mb.bind fun b=>iW a b):=sF (fun a b P h=>by unfold iW at h;obtain⟨h1,h2⟩:=bh h;exact⟨h1,h2⟩) ha hb
theorem oZ(ha:EV Er ta σ W (sh isI) ma)(hb:EV Er tb σ W (sh isI) mb):EV Er (cX (rI yy fun i j=>.int<|i/j) ta tb) σ W (sh isI) (ma.bind fun a=>mb.bind fun b=>jr a b):=sF (fun a b P h=>by unfold jr at h;obtain⟨h1,h2⟩:=bh h;exact⟨h1,h2⟩) ha hb
theorem fc(ha:EV Er ta σ W (sh isI) ma)(hb:EV Er tb σ W (sh isI) mb):EV Er (cX (rI (fun _ j=>0<j) fun i j=>.int<|i%j) ta tb) σ W (sh isI) (ma.bind fun a=>mb.bind fun b=>gG a b):=sF (fun a b P h=>by unfold gG at h;obtain⟨h1,h2⟩:=bh h;exact⟨h1,h2⟩) ha hb
theorem aj{C:Int->Int->Prop}{g:Int->Int->Int}{n:Int}(hn:∀a,C a n)(ha:EV Er ta σ W (sh isI) ma):EV Er (cX (rI C fun i j=>.int<|g i j) ta<|tC<|.int n) σ W (sh isI) (ma.bind fun a=>.ok<|g a n):=
 fun W1 e1 Q k=>ha W1 e1 _ ((Bj k).imp fun a ka x W2 e2 hx=>by cases hx;exact⟨a,n,rfl,rfl,hn a,ka _ W2 e2 rfl⟩)
end
end
end Wb
open Wb.EV renaming pk->Dk
open Wb.EVo renaming ev->DD,pk->Gi
open Wb.Ext renaming new->F4
open Wb.MonoW renaming mono->C0
namespace Wb
open PySem L2 Mi
variable{Er:Nat->Prop}
section
variable{α β γ δ:Type}{t ta tb tc:TE}{σ:St}{W W0 W':Wd}{K:Bo}
theorem sG{n:Nat}(h:n<=cap):n<=sizeLine:=by rw[CF];unfold cap at h;omega
section
variable{ma mb:Res Int}
theorem jt(ha:EV Er ta σ W (sh isI) ma):EV Er (fB (rU fun i=>.int<|-i) ta) σ W (sh isI) (ma.bind fun a=>.ok<|-a):=
 AA ha fun W a x Q hx k=>by cases hx;exact⟨a,rfl,k _ W (.refl _) rfl⟩
theorem bT{g:Int->Int->Bool}(ha:EV Er ta σ W (sh isI) ma)(hb:EV Er tb σ W (sh isI) mb):EV Er (cX (eP fun i j=>.bl<|g i j) ta tb) σ W (sh isB) (ma.bind fun a=>mb.bind fun b=>.ok<|g a b):=
 oY ha hb fun W a b x y Q hx hy k=>by cases hx;cases hy;exact⟨a,b,rfl,rfl,k _ W (.refl _) rfl⟩
end
theorem dI{a b:Int}:decide (ET a=ET b)=decide (a=b):=by rw[CH];simp
theorem dS{a b:Tx}:decide (G5 (sOf a)=G5 (sOf b))=decide (a=b):=by
 rw[CH,decide_eq_true_eq,decide_eq_true_eq];exact⟨fun h=>oS<|G5.inj h,fun h=>by rw[h]⟩
theorem bL{ma mb:Res Int}(ha:EV Er ta σ W (sh isI) ma)(hb:EV Er tb σ W (sh isI) mb):EV Er (cX fM ta tb) σ W (sh isB) (ma.bind fun a=>mb.bind fun b=>.ok<|decide<|a=b):=
 oY ha hb fun W a b x y Q hx hy k=>by cases hx;cases hy;exact⟨rfl,by rw[dI];exact k _ W (.refl _) rfl⟩
theorem gb{ma mb:Res Tx}(ha:EV Er ta σ W (sh isS) ma)(hb:EV Er tb σ W (sh isS) mb):EV Er (cX fM ta tb) σ W (sh isB) (ma.bind fun a=>mb.bind fun b=>.ok<|decide<|a=b):=
 oY ha hb fun W a b x y Q hx hy k=>by cases hx;cases hy;exact⟨rfl,by rw[dS];exact k _ W (.refl _) rfl⟩
theorem sH{ma mb:Res Tx}(ha:EV Er ta σ W (sh isS) ma)(hb:EV Er tb σ W (sh isS) mb):EV Er (cX fT ta tb) σ W (sh isB) (ma.bind fun a=>mb.bind fun b=>.ok<|!decide (a=b)):=
 oY ha hb fun W a b x y Q hx hy k=>by cases hx;cases hy;exact⟨rfl,by rw[dS];exact k _ W (.refl _) rfl⟩
theorem aw{m:Res Bool}(h:EV Er t σ W (sh isB) m):TV Er (bB t) σ W m:=fun W1 e1 Q k=>h W1 e1 _<|k.imp fun b kb v W2 e2 hv=>⟨b,hv,kb W2 e2⟩
theorem ju{m:Res Bool}(h:EV Er t σ W (sh isB) m):TV Er (tB t) σ W m:=fun W1 e1 Q k=>h W1 e1 _<|k.imp fun b kb v W2 e2 hv=>⟨b,hv,kb W2 e2⟩
theorem gV{t:TT}{m:Res Bool}(h:TV Er t σ W m):TV Er (cG t) σ W (m.bind fun b=>.ok<|!b):=fun W1 e1 Q k=>h W1 e1 _<|(Bj k).imp fun b kb W2 e2=>kb W2 e2
theorem ee{t u:TT}{m n:Res Bool}(h:TV Er t σ W m)(g:TV Er u σ W n):TV Er (cF t u) σ W (m.bind fun b=>if b then n else .ok false):=fun W1 e1 Q k=>h W1 e1 _ ((Bj k).imp fun b kb W2 e2=>by
 cases b with
 |true=>exact g W2 (e1.trans e2) _ (kb.imp fun c kc W3 e3=>kc W3<|e2.trans e3)
 |false=>exact kb W2 e2)
theorem jv{t u:TT}{m n:Res Bool}(h:TV Er t σ W m)(g:TV Er u σ W n):TV Er (fQ t u) σ W (m.bind fun b=>if b then .ok true else n):=fun W1 e1 Q k=>h W1 e1 _ ((Bj k).imp fun b kb W2 e2=>by
 cases b with
 |true=>exact kb W2 e2
 |false=>exact g W2 (e1.trans e2) _ (kb.imp fun c kc W3 e3=>kc W3 (e2.trans e3)))
theorem sI{m n:Res Bool}(h:EV Er ta σ W (sh isB) m)(g:EV Er tb σ W (sh isB) n):EV Er (bA ta tb) σ W (sh isB) (m.bind fun b=>if b then n else .ok false):=fun W1 e1 Q k=>h W1 e1 _ ((Bj k).imp fun b kb v W2 e2 hv=>⟨b,hv,by
 cases b with
 |true=>exact g W2 (e1.trans e2) _ (kb.imp fun c kc v W3 e3 hv=>kc v W3 (e2.trans e3) hv)
 |false=>exact kb _ W2 e2 rfl⟩)
theorem yP{m n:Res Bool}(h:EV Er ta σ W (sh isB) m)(g:EV Er tb σ W (sh isB) n):EV Er (cH ta tb) σ W (sh isB) (m.bind fun b=>if b then .ok true else n):=fun W1 e1 Q k=>h W1 e1 _ ((Bj k).imp fun b kb v W2 e2 hv=>⟨b,hv,by
 cases b with
 |true=>exact kb _ W2 e2 rfl
 |false=>exact g W2 (e1.trans e2) _ (kb.imp fun c kc v W3 e3 hv=>kc v W3 (e2.trans e3) hv)⟩)
theorem p4{R:Rw α}{c:TT}{mc:Res Bool}{m n:Res α}(hc:TV Er c σ W mc)(h:EV Er ta σ W R m)(g:EV Er tb σ W R n):EV Er (fR c ta tb) σ W R (mc.bind fun b=>if b then m else n):=fun W1 e1 Q k=>hc W1 e1 _ ((Bj k).imp fun b kb W2 e2=>by
 cases b with
 |true=>exact h W2 (e1.trans e2) _ (kb.imp fun c kc v W3 e3 hv=>kc v W3 (e2.trans e3) hv)
 |false=>exact g W2 (e1.trans e2) _ (kb.imp fun c kc v W3 e3 hv=>kc v W3 (e2.trans e3) hv))
theorem gy{ma mb:Res Tx}(ha:EV Er ta σ W (sh isS) ma)(hb:EV Er tb σ W (sh isS) mb):EV Er (cX (fun x y H Q=>∃i j,x=.str i/\y=.str j/\i.length+j.length<=sizeLine/\Q (.str<|i++j) H) ta tb) σ W (sh isS) (ma.bind fun a=>mb.bind fun b=>kq a b):=
 oY ha hb fun W a b x y Q hx hy k=>by
  cases hx;cases hy;obtain⟨h1,h2⟩:=bh k;exact⟨_,_,rfl,rfl,by rw[eS,eS];exact sG h1,by rw[nY];exact h2 _ W (.refl _) rfl⟩
theorem vo{ma:Res Tx}{mb:Res Int}(ha:EV Er ta σ W (sh isS) ma)(hb:EV Er tb σ W (sh isI) mb):EV Er (cX (fun x y H Q=>∃c n,x=.str (sOf [c])/\y=.int n/\0<=n/\n<=100000/\Q (.str<|sOf<|DN n.toNat c) H) ta tb) σ W (sh isS) (ma.bind fun a=>mb.bind fun b=>xD a b):=
 oY ha hb fun W a b x y Q hx hy k=>by
  cases hx;cases hy
  match a,k with
  | [c],k=>
   obtain⟨h1,h2⟩:=bh k;exact⟨c,b,rfl,rfl,h1.1,h1.2,h2 _ W (.refl _) rfl⟩
theorem bO{ma:Res Tx}{mb:Res Int}(ha:EV Er ta σ W (sh isS) ma)(hb:EV Er tb σ W (sh isI) mb):EV Er (cX cJ ta tb) σ W (sh isS) (ma.bind fun a=>mb.bind fun b=>fb a b):=
 oY ha hb fun W a b x y Q hx hy k=>by
  cases hx;cases hy;obtain⟨h1,h2⟩:=bh<|Bj k;obtain⟨c,h3,h4⟩:=dv<|Bj h2;exact⟨_,b,c,rfl,rfl,by rw[eS];exact sG h1,by rw[oR];exact h3,h4 _ W (.refl _) rfl⟩
theorem yQ{R:Rw α}{r:V->Option Int->Option Int->Hp->VK->Prop}{Ra:Rw β}[MonoW Ra]{ma:Res β}{tl th:TO}{ml mh:Res (Option Int)}{f:β->Option Int->Option Int->Res α}(ha:EV Er ta σ W Ra ma)
  (hl:∀W1,Ext W W1->∀Q:Option Int->Hp->Prop,ml.OkE Er (fun o=>∀W2,Ext W1 W2->Q o W2.H)->tl σ W1.H Q) (hh:∀W1,Ext W W1->∀Q:Option Int->Hp->Prop,mh.OkE Er (fun o=>∀W2,Ext W1 W2->Q o W2.H)->th σ W1.H Q)
  (h:∀W a x lo hi Q,Ra W a x->(f a lo hi).OkE Er (fun c=>∀v W2,Ext W W2->R W2 c v->Q v W2.H)->r x lo hi W.H Q):EV Er (fD r ta tl th) σ W R (ma.bind fun a=>ml.bind fun lo=>mh.bind fun hi=>f a lo hi):=fun W1 e1 Q k=>
 ha W1 e1 _ ((Bj k).imp fun a ka x W2 e2 hx=>hl W2 (e1.trans e2) _ ((Bj ka).imp fun lo kl W3 e3=>hh W3 ((e1.trans e2).trans e3) _ ((Bj kl).imp fun hi kh W4 e4=>
  h W4 a x lo hi Q (C0 (e3.trans e4) hx) (kh.imp fun c kc v W5 e5 hv=>kc v W5 (((e2.trans e3).trans e4).trans e5) hv))))
theorem kP:∀W1,Ext W W1->∀Q:Option Int->Hp->Prop,(Bp (none:Option Int)).OkE Er (fun o=>∀W2,Ext W1 W2->Q o W2.H)->aK σ W1.H Q:=fun W1 _ Q k=>k W1<|.refl _
theorem kQ{m:Res Int}(h:EV Er t σ W (sh isI) m):∀W1,Ext W W1->∀Q:Option Int->Hp->Prop,(m.bind fun i=>.ok<|some i).OkE Er (fun o=>∀W2,Ext W1 W2->Q o W2.H)->bw t σ W1.H Q:=fun W1 e1 Q k=>
 h W1 e1 _ ((Bj k).imp fun i ki v W2 e2 hv=>⟨i,hv,ki W2 e2⟩)
theorem p5{ma:Res Tx}{tl th:TO}{ml mh:Res (Option Int)}(ha:EV Er ta σ W (sh isS) ma)
  (hl:∀W1,Ext W W1->∀Q:Option Int->Hp->Prop,ml.OkE Er (fun o=>∀W2,Ext W1 W2->Q o W2.H)->tl σ W1.H Q) (hh:∀W1,Ext W W1->∀Q:Option Int->Hp->Prop,mh.OkE Er (fun o=>∀W2,Ext W1 W2->Q o W2.H)->th σ W1.H Q):
  EV Er (fD (fun x lo hi H Q=>∃l,x=.str (sOf l)/\l.length<=sizeLine/\Q (.str<|sOf<|iT l lo hi) H) ta tl th) σ W (sh isS) (ma.bind fun a=>ml.bind fun lo=>mh.bind fun hi=>qG a lo hi):=
 yQ ha hl hh fun W a x lo hi Q hx k=>by
  cases hx;obtain⟨h1,h2⟩:=bh k;exact⟨a,rfl,sG h1,h2 _ W (.refl _) rfl⟩
theorem yR(x:Tx)(c j:Nat)(h:sD x c=some j):Gw (sOf x) (sOf [c])=(j:Int):=by
 unfold sD at h;rw[List.findIdx?_eq_some_iff_getElem]at h;obtain⟨hj,h1,h2⟩:=h;have hat:∀i,StrLaws.At (sOf x) (sOf [c]) (sOf x).length i↔x[i]? =some c:=fun i=>by
  have:=StrLaws.subAt_one (sOf x) c i;rw[oR]at this;exact this
 unfold Gw;rcases StrLaws.occ_head (sOf x) (sOf [c]) 1 (Bt _)with⟨_,hn⟩|⟨i,r,e,hi,hk⟩
 ·exact absurd ((hat j).mpr (by rw[Bn hj];simpa using h1))<|hn j
 ·rw[e];have e2:=(hat i).mp hi;obtain⟨hil,e3⟩:=Bv.mp e2;have:i=j:=by
   rcases Nat.lt_trichotomy i j with z|z|z;·exact absurd e3 (by simpa using h2 i z)
   ·exact z
   ·exact absurd ((hat j).mpr (by rw[Bn hj];simpa using h1))<|hk j z
  rw[this]
theorem i5{ma mb:Res Tx}{K:Bo}(ha:EV Er ta σ W (sh isS) ma)(hb:EV Er tb σ W (sh isS) mb):EV Er (eO K "str" (fun x xs H Q=>∃a b,x=.str a/\xs=[.str b]/\0<=Gw a b/\Q (.int<|Gw a b) H) ta<|ak tb aS) σ W (sh isI) (ma.bind fun a=>mb.bind fun b=>iX a b):=fun W1 e1 Q k=>
 ha W1 e1 _ ((Bj k).imp fun a ka x W2 e2 hx=>by
  cases hx;refine⟨rfl,hb W2 (e1.trans e2) _<|(Bj ka).imp fun b kb y W3 e3 hy=>?_⟩;cases hy
  match b,kb with
  | [c],kb=>
   obtain⟨j,h1,h2⟩:=dv (Bj kb);have e:=yR a c j h1;exact⟨_,_,rfl,rfl,by rw[e];omega,by rw[e];exact h2 _ W3 (e2.trans e3) rfl⟩)
theorem Same.tup{H H':Hp}{a:Addr}{xs:List V}(e:Same H H')(h:SqT K H a xs):SqT K H' a xs:=by
 rcases h with(h|⟨o,h⟩)|h;·exact .inl<|.inl<|e _ _ h
 ·exact .inl<|.inr ⟨o,e _ _ h⟩
 ·exact .inr h
def isT2(K:Bo)(R1:Rp α)(R2:Rp β):Rp (α×β):=fun H a v=>∃p x y,v=.ref p/\SqT K H p [x,y]/\R1 H a.1 x/\R2 H a.2 y
def isT3(K:Bo)(R1:Rp α)(R2:Rp β)(R3:Rp γ):Rp (α×β×γ):=fun H a v=>∃p x y z,v=.ref p/\SqT K H p [x,y,z]/\R1 H a.1 x/\R2 H a.2.1 y/\R3 H a.2.2 z
instance zkeep14{R1:Rp α}{R2:Rp β}[Mono R1][Mono R2]:Mono (isT2 K R1 R2):=⟨fun e⟨p,x,y,h0,h,h1,h2⟩=>⟨p,x,y,h0,Same.tup e h,Bi e h1,Bi e h2⟩⟩
instance zkeep15{R1:Rp α}{R2:Rp β}{R3:Rp γ}[Mono R1][Mono R2][Mono R3]:Mono (isT3 K R1 R2 R3):=⟨fun e⟨p,x,y,z,h0,h,h1,h2,h3⟩=>⟨p,x,y,z,h0,Same.tup e h,Bi e h1,Bi e h2,Bi e h3⟩⟩
theorem eB{R1:Rp α}{R2:Rp β}[Mono R1][Mono R2]{ma:Res α}{mb:Res β}(ha:EV Er ta σ W (sh R1) ma)(hb:EV Er tb σ W (sh R2) mb):EV Er (cy<|ak ta<|ak tb aS) σ W (sh<|isT2 K R1 R2) (ma.bind fun a=>mb.bind fun b=>.ok (a,b)):=fun W1 e1 Q k=>
 ha W1 e1 _ ((Bj k).imp fun a ka x W2 e2 hx=>hb W2 (e1.trans e2) _ ((Bj ka).imp fun b kb y W3 e3 hy=>⟨(by show 2<=sizeLine;decide),fun p hp=>
  kb (.ref p) (W3.new p (.tup [x,y])) ((e2.trans e3).trans (.new _ hp)) ⟨p,x,y,rfl,JU aG,Bi (F4 _ hp).g (Bi (R:=R1) e3.g hx),Bi (R:=R2) (F4 _ hp).g hy⟩⟩))
theorem d9{R1:Rp α}{R2:Rp β}{R3:Rp γ}[Mono R1][Mono R2][Mono R3]{ma:Res α}{mb:Res β}{mc:Res γ}(ha:EV Er ta σ W (sh R1) ma)(hb:EV Er tb σ W (sh R2) mb)(hc:EV Er tc σ W (sh R3) mc):
  EV Er (cy<|ak ta<|ak tb<|ak tc aS) σ W (sh<|isT3 K R1 R2 R3) (ma.bind fun a=>mb.bind fun b=>mc.bind fun c=>.ok (a,b,c)):=fun W1 e1 Q k=>
 ha W1 e1 _ ((Bj k).imp fun a ka x W2 e2 hx=>hb W2 (e1.trans e2) _ ((Bj ka).imp fun b kb y W3 e3 hy=>hc W3 ((e1.trans e2).trans e3) _ ((Bj kb).imp fun c kc z W4 e4 hz=>⟨(by show 3<=sizeLine;decide),fun p hp=>
  kc (.ref p) (W4.new p (.tup [x,y,z])) (((e2.trans e3).trans e4).trans (.new _ hp)) ⟨p,x,y,z,rfl,JU aG,Bi (F4 _ hp).g (Bi (R:=R1) (e3.trans e4).g hx),Bi (R:=R2) (F4 _ hp).g (Bi (R:=R2) e4.g hy),Bi (R:=R3) (F4 _ hp).g hz⟩⟩)))
theorem aZ{R:Rp α}{Rt:Rp β}{m:Res β}{i:Int}{f:β->α}(h:∀H b v,Rt H b v->∃p xs x,v=.ref p/\SqT K H p xs/\L2.atI xs i=some x/\R H (f b) x)(ha:EV Er ta σ W (sh Rt) m):EV Er (cX (cz K) ta<|tC<|.int i) σ W (sh R) (m.bind fun b=>.ok<|f b):=fun W1 e1 Q k=>
 ha W1 e1 _ ((Bj k).imp fun b kb v W2 e2 hv=>by
  obtain⟨p,xs,x,h1,h2,h3,h4⟩:=h _ _ _ hv;exact⟨p,xs,i,x,h1,rfl,Same.tup W2.ok h2,h3,kb _ W2 e2 h4⟩)
theorem xF{R1:Rp α}{R2:Rp β}:∀H b v,isT2 K R1 R2 H b v->∃p xs x,v=.ref p/\SqT K H p xs/\L2.atI xs 0=some x/\R1 H b.1 x:=fun _ _ _⟨p,x,y,h0,h,h1,h2⟩=>⟨p,_,x,h0,h,rfl,h1⟩
theorem An{R1:Rp α}{R2:Rp β}:∀H b v,isT2 K R1 R2 H b v->∃p xs x,v=.ref p/\SqT K H p xs/\L2.atI xs 1=some x/\R2 H b.2 x:=fun _ _ _⟨p,x,y,h0,h,h1,h2⟩=>⟨p,_,y,h0,h,rfl,h2⟩
theorem lH{R1:Rp α}{R2:Rp β}{R3:Rp γ}:∀H b v,isT3 K R1 R2 R3 H b v->∃p xs x,v=.ref p/\SqT K H p xs/\L2.atI xs 0=some x/\R1 H b.1 x:=fun _ _ _⟨p,x,y,z,h0,h,h1,h2,h3⟩=>⟨p,_,x,h0,h,rfl,h1⟩
theorem iY{R1:Rp α}{R2:Rp β}{R3:Rp γ}:∀H b v,isT3 K R1 R2 R3 H b v->∃p xs x,v=.ref p/\SqT K H p xs/\L2.atI xs 1=some x/\R2 H b.2.1 x:=fun _ _ _⟨p,x,y,z,h0,h,h1,h2,h3⟩=>⟨p,_,y,h0,h,rfl,h2⟩
theorem jw{R1:Rp α}{R2:Rp β}{R3:Rp γ}:∀H b v,isT3 K R1 R2 R3 H b v->∃p xs x,v=.ref p/\SqT K H p xs/\L2.atI xs 2=some x/\R3 H b.2.2 x:=fun _ _ _⟨p,x,y,z,h0,h,h1,h2,h3⟩=>⟨p,_,z,h0,h,rfl,h3⟩
theorem p6{R:Rp α}{H:Hp}{as:List α}{xs:List V}(h:LR R H as xs){i:Int}{a:α}(e:oU as i=some a):∃x,L2.atI xs i=some x/\R H a x:=by
 unfold oU at e;unfold L2.atI;rw[h.1];cases z:Mi.ixN as.length i with
 |none=>rw[z]at e;cases e
 |some j=>
  rw[z]at e;obtain⟨x,h1,h2⟩:=h.get (i:=j) e;exact⟨x,by show(L2.ixN as.length i).bind _=_;rw[show L2.ixN as.length i=Mi.ixN as.length i from rfl,z];exact h1,h2⟩
theorem LR.three{R:Rp α}{H:Hp}{a b c:α}{x y z:V}(h1:R H a x)(h2:R H b y)(h3:R H c z):LR R H [a,b,c] [x,y,z]:=⟨rfl,fun i v m e1 e2=>by
 match i,e1,e2 with
 |0,e1,e2=>cases e1;cases e2;exact h1
 |1,e1,e2=>cases e1;cases e2;exact h2
 |2,e1,e2=>cases e1;cases e2;exact h3⟩
theorem bI{R:Rp α}[Mono R]{ma:Res (List α)}{mb:Res Int}(ha:EV Er ta σ W (pk R) ma)(hb:EV Er tb σ W (sh isI) mb):EV Er (cX (cf K) ta tb) σ W (sh R) (ma.bind fun a=>mb.bind fun b=>dF a b):=
 oY ha hb fun W a b x y Q hx hy k=>by
  cases hy;obtain⟨p,vs,rfl,h,h1⟩:=hx;obtain⟨c,h4,h5⟩:=dv k;obtain⟨z,h6,h7⟩:=p6 h1 h4;exact⟨p,_,b,z,rfl,rfl,DB h,h6,h5 _ W (.refl _) h7⟩
theorem eU{R:Rp α}:EVo Er (cj aS) σ W R (.ok []):=fun W1 e1 Q k=>⟨by decide,fun p hp=>k p (W1.mut p (.lst [])<|W1.gnone hp) (.own _ hp) hp ⟨W1.gnone hp,[],aG,.nil⟩⟩
def AV(Er:Nat->Prop)(t:TA)(σ:St)(W:Wd)(R:Rp α)(n:Nat)(m:Res (List α)):Prop:=∀W1,Ext W W1->∀Q:List V->Hp->Prop,m.OkE Er (fun as=>∀vs W2,Ext W1 W2->vs.length=n->LR R W2.G as vs->Q vs W2.H)->t σ W1.H Q
theorem fH{R:Rp α}:AV Er aS σ W R 0 (.ok []):=fun W1 _ Q k=>k [] W1 (.refl _) rfl .nil
theorem LR.cons{R:Rp α}{H:Hp}{a:α}{v:V}{as:List α}{vs:List V}(h:R H a v)(r:LR R H as vs):LR R H (a::as) (v::vs):=⟨by simp[r.1],fun i x m e1 e2=>by
 cases i with
 |zero=>cases e1;cases e2;exact h
 |succ j=>exact r.2 j x m e1 e2⟩
theorem bj{R:Rp α}[Mono R]{n:Nat}{ts:TA}{m:Res α}{ms:Res (List α)}(h:EV Er t σ W (sh R) m)(g:AV Er ts σ W R n ms):AV Er (ak t ts) σ W R (n+1) (m.bind fun a=>ms.bind fun as=>.ok (a::as)):=fun W1 e1 Q k=>
 h W1 e1 _ ((Bj k).imp fun a ka v W2 e2 hv=>g W2 (e1.trans e2) _ ((Bj ka).imp fun as kas vs W3 e3 hn hvs=>kas (v::vs) W3 (e2.trans e3) (by simp[hn])<|.cons (Bi (R:=R) e3.g hv) hvs))
theorem fI{R:Rp α}[Mono R]{n:Nat}{ts:TA}{ms:Res (List α)}(g:AV Er ts σ W R n ms)(hn:n<=cap:=by decide):EVo Er (cj ts) σ W R ms:=fun W1 e1 Q k=>
 g W1 e1 _ (k.imp fun as ka vs W2 e2 hv hvs=>⟨by rw[hv];exact sG hn,fun p hp=>ka p (W2.mut p (.lst vs)<|W2.gnone hp) (e2.trans<|.own _ hp) (none_of e2.h hp) ⟨W2.gnone hp,vs,aG,hvs⟩⟩)
theorem vp{R:Rp α}[Mono R]{ma mb:Res (List α)}(ha:EV Er ta σ W (pk R) ma)(hb:EV Er tb σ W (pk R) mb):EVo Er (cX cK ta tb) σ W R (ma.bind fun a=>mb.bind fun b=>xC a b):=fun W1 e1 Q k=>
 ha W1 e1 _ ((Bj k).imp fun a ka x W2 e2 hx=>hb W2 (e1.trans e2) _ ((Bj ka).imp fun b kb y W3 e3 hy=>by
  obtain⟨p,vs,rfl,h1,h2⟩:=C0 e3 hx;obtain⟨q,us,rfl,h3,h4⟩:=hy;obtain⟨h5,h6⟩:=bh kb;refine⟨p,q,vs,us,rfl,rfl,h1,h3,by rw[h2.1,h4.1];exact sG h5,fun r hr=>h6 r (W3.mut r (.lst<|vs++us)<|W3.gnone hr) ((e2.trans e3).trans (.own _ hr)) (none_of (e2.trans e3).h hr) ⟨W3.gnone hr,_,aG,?_⟩⟩;exact⟨by rw[CP,CP,h2.1,h4.1],fun i v m q1 q2=>by
   by_cases hi:i<vs.length
   ·rw[BL hi]at q1;rw[BL (by rw[<-h2.1];exact hi)]at q2;exact h2.2 i v m q1 q2
   ·rw[BI (by omega)]at q1;rw[BI (by rw[<-h2.1];omega)]at q2;rw[<-h2.1]at q2;exact h4.2 _ v m q1 q2⟩))
theorem LR.cut{R:Rp α}{H:Hp}{as:List α}{vs:List V}(h:LR R H as vs)(lo hi:Option Int):LR R H (Mi.cut as lo hi) (nW vs lo hi):=by
 unfold Mi.cut nW;rw[h.1];exact(h.drop _).take _
theorem iZ{R:Rp α}[Mono R]{ma:Res (List α)}{tl th:TO}{ml mh:Res (Option Int)}(ha:EV Er ta σ W (pk R) ma)
  (hl:∀W1,Ext W W1->∀Q:Option Int->Hp->Prop,ml.OkE Er (fun o=>∀W2,Ext W1 W2->Q o W2.H)->tl σ W1.H Q) (hh:∀W1,Ext W W1->∀Q:Option Int->Hp->Prop,mh.OkE Er (fun o=>∀W2,Ext W1 W2->Q o W2.H)->th σ W1.H Q):
  EVo Er (fD (cA K) ta tl th) σ W R (ma.bind fun a=>ml.bind fun lo=>mh.bind fun hi=>.ok<|Mi.cut a lo hi):=fun W1 e1 Q k=>
 ha W1 e1 _ ((Bj k).imp fun a ka x W2 e2 hx=>hl W2 (e1.trans e2) _ ((Bj ka).imp fun lo kl W3 e3=>hh W3 ((e1.trans e2).trans e3) _ ((Bj kl).imp fun hi kh W4 e4=>by
  obtain⟨p,vs,rfl,h1,h2⟩:=C0 (e3.trans e4) hx;have e5:=(e2.trans e3).trans e4;exact⟨p,vs,rfl,DB h1,fun r hr=>kh r (W4.mut r (.lst (nW vs lo hi)) (W4.gnone hr)) (e5.trans (.own _ hr)) (none_of e5.h hr) ⟨W4.gnone hr,_,aG,h2.cut lo hi⟩⟩)))
theorem oa{ma:Res Int}(ha:EV Er ta σ W (sh isI) ma):EV Er (dX (fun xs H Q=>∃i,xs=[.int i]/\Q (.int (if i<0 then -i else i)) H)<|ak ta aS) σ W (sh isI) (ma.bind fun a=>.ok<|eL a):=fun W1 e1 Q k=>
 ha W1 e1 _ ((Bj k).imp fun a ka x W2 e2 hx=>by cases hx;exact⟨a,rfl,ka _ W2 e2 rfl⟩)
theorem bZ{R:Rp α}{ma:Res (List α)}(ha:EV Er ta σ W (pk R) ma):EV Er (dX (fun xs H Q=>∃x n,xs=[x]/\nR K x H n/\Q (.int n) H)<|ak ta aS) σ W (sh isI) (ma.bind fun a=>.ok (a.length:Int)):=fun W1 e1 Q k=>
 ha W1 e1 _ ((Bj k).imp fun a ka x W2 e2 hx=>by
  obtain⟨p,vs,rfl,h1,h2⟩:=hx;exact⟨_,a.length,rfl,.inl ⟨vs,DB h1,h2.1.symm⟩,ka _ W2 e2 rfl⟩)
theorem lI{ma:Res (List Tx)}{x:Str}(hx:x=sOf [])(ha:EV Er ta σ W (pk isS) ma):EV Er (eO K "str" (fun x xs H Q=>∃(p:Addr)(ys:List (List Nat)),x=.str (sOf [])/\xs=[.ref p]/\SqL K H p (ys.map fun y=>G5<|sOf y)/\ys.flatten.length<=100000/\Q (.str<|sOf ys.flatten) H) (tC<|.str x)<|ak ta aS) σ W (sh isS) (ma.bind fun a=>mM a):=fun W1 e1 Q k=>
 ⟨by show Ak K "str" (.str x) W1.H;rfl,ha W1 e1 _ ((Bj k).imp fun a ka v W2 e2 hv=>by
  obtain⟨p,vs,rfl,h1,h2⟩:=hv;obtain⟨h3,h4⟩:=bh ka;exact⟨p,a,by rw[hx],rfl,DB (by rw[h1,h2.str]),h3,h4 _ W2 e2 rfl⟩)⟩
end
end Wb
open Wb.Same renaming tup->DG
namespace Wb
open PySem L2 Mi
variable{Er:Nat->Prop}
abbrev Rt(β:Type):=Wd->β->VK->Prop
def rs{β:Type}(R:Rp β):Rt β:=fun W r Q=>∀u W',Ext W W'->R W'.G r u->Q u W'.H
def ro{β:Type}(R:Rp β):Rt (List β):=fun W r Q=>∀p W',Ext W W'->W.H p=none->Ow R W' p r->Q (.ref p) W'.H
section
variable{α β γ δ ε ζ:Type}
def ei(R1:Rp α)(rt:Rt β)(m:α->Res β):Sp:=fun vs H Q _=>∃(W:Wd)(a:α)(v:V),W.H=H/\vs=[v]/\R1 W.G a v/\∃Er:Nat->Prop,(m a).OkE Er fun r=>rt W r Q
def bJ(R1:Rp α)(R2:Rp γ)(rt:Rt β)(m:α->γ->Res β):Sp:=fun vs H Q _=>∃(W:Wd)(a:α)(b:γ)(v u:V),W.H=H/\vs=[v,u]/\R1 W.G a v/\R2 W.G b u/\∃Er:Nat->Prop,(m a b).OkE Er fun r=>rt W r Q
def fe(R1:Rp α)(R2:Rp γ)(R3:Rp δ)(rt:Rt β)(m:α->γ->δ->Res β):Sp:=fun vs H Q _=>∃(W:Wd)(a:α)(b:γ)(c:δ)(v u w:V),W.H=H/\vs=[v,u,w]/\R1 W.G a v/\R2 W.G b u/\R3 W.G c w/\∃Er:Nat->Prop,(m a b c).OkE Er fun r=>rt W r Q
def mN(R1:Rp α)(R2:Rp γ)(R3:Rp δ)(R4:Rp ε)(rt:Rt β)(m:α->γ->δ->ε->Res β):Sp:=fun vs H Q _=>∃(W:Wd)(a:α)(b:γ)(c:δ)(d:ε)(v u w x:V),W.H=H/\vs=[v,u,w,x]/\R1 W.G a v/\R2 W.G b u/\R3 W.G c w/\R4 W.G d x/\∃Er:Nat->Prop,(m a b c d).OkE Er fun r=>rt W r Q
def gW(R1:Rp α)(R2:Rp γ)(R3:Rp δ)(R4:Rp ε)(R5:Rp ζ)(rt:Rt β)(m:α->γ->δ->ε->ζ->Res β):Sp:=fun vs H Q _=>∃(W:Wd)(a:α)(b:γ)(c:δ)(d:ε)(e:ζ)(v u w x y:V),W.H=H/\vs=[v,u,w,x,y]/\R1 W.G a v/\R2 W.G b u/\R3 W.G c w/\R4 W.G d x/\R5 W.G e y/\∃Er:Nat->Prop,(m a b c d e).OkE Er fun r=>rt W r Q
variable{t t1 t2 t3 t4 t5:TE}{σ:St}{W W0 W':Wd}{K:Bo}
section
variable{R1:Rp α}{R2:Rp γ}{R3:Rp δ}{R4:Rp ε}{R5:Rp ζ}[Mono R1][Mono R2][Mono R3][Mono R4][Mono R5]{m1:Res α}{m2:Res γ}{m3:Res δ}{m4:Res ε}{m5:Res ζ}{E:XK}
theorem d4{R:Rp β}{m:α->Res β}(h1:EV Er t1 σ W (sh R1) m1):EV Er (aV (ei R1 (rs R) m) [] E<|ak t1 aS) σ W (sh R) (m1.bind fun a=>m a):=fun W1 e1 Q k=>
 h1 W1 e1 _ ((Bj k).imp fun a ka v W2 e2 hv=>⟨W2,a,v,rfl,rfl,hv,Er,ka.imp fun r kr u W' e hu=>kr u W' (e2.trans e) hu⟩)
theorem aU{R:Rp β}{m:α->γ->Res β}(h1:EV Er t1 σ W (sh R1) m1)(h2:EV Er t2 σ W (sh R2) m2):EV Er (aV (bJ R1 R2 (rs R) m) [] E<|ak t1<|ak t2 aS) σ W (sh R) (m1.bind fun a=>m2.bind fun b=>m a b):=fun W1 e1 Q k=>
 h1 W1 e1 _ ((Bj k).imp fun a ka v W2 e2 hv=>h2 W2 (e1.trans e2) _<|(Bj ka).imp fun b kb u W3 e3 hu=>⟨W3,a,b,v,u,rfl,rfl,C0 (R:=sh R1) e3 hv,hu,Er,kb.imp fun r kr u W' e hu=>kr u W' ((e2.trans e3).trans e) hu⟩)
theorem iE{R:Rp β}{m:α->γ->Res (List β)}(h1:EV Er t1 σ W (sh R1) m1)(h2:EV Er t2 σ W (sh R2) m2):EVo Er (aV (bJ R1 R2 (ro R) m) [] E<|ak t1<|ak t2 aS) σ W R (m1.bind fun a=>m2.bind fun b=>m a b):=fun W1 e1 Q k=>
 h1 W1 e1 _ ((Bj k).imp fun a ka v W2 e2 hv=>h2 W2 (e1.trans e2) _<|(Bj ka).imp fun b kb u W3 e3 hu=>⟨W3,a,b,v,u,rfl,rfl,C0 (R:=sh R1) e3 hv,hu,Er,kb.imp fun r kr p W' e hp o=>kr p W' ((e2.trans e3).trans e) (none_of (e2.trans e3).h hp) o⟩)
theorem jx{R:Rp β}{m:α->γ->δ->Res β}(h1:EV Er t1 σ W (sh R1) m1)(h2:EV Er t2 σ W (sh R2) m2)(h3:EV Er t3 σ W (sh R3) m3):EV Er (aV (fe R1 R2 R3 (rs R) m) [] E<|ak t1<|ak t2<|ak t3 aS) σ W (sh R) (m1.bind fun a=>m2.bind fun b=>m3.bind fun c=>m a b c):=fun W1 e1 Q k=>
 h1 W1 e1 _ ((Bj k).imp fun a ka v W2 e2 hv=>h2 W2 (e1.trans e2) _ ((Bj ka).imp fun b kb u W3 e3 hu=>h3 W3 ((e1.trans e2).trans e3) _ ((Bj kb).imp fun c kc w W4 e4 hw=>
  ⟨W4,a,b,c,v,u,w,rfl,rfl,C0 (R:=sh R1) (e3.trans e4) hv,C0 (R:=sh R2) e4 hu,hw,Er,kc.imp fun r kr u W' e hu=>kr u W' (((e2.trans e3).trans e4).trans e) hu⟩)))
theorem eE{R:Rp β}{m:α->γ->δ->Res (List β)}(h1:EV Er t1 σ W (sh R1) m1)(h2:EV Er t2 σ W (sh R2) m2)(h3:EV Er t3 σ W (sh R3) m3):EVo Er (aV (fe R1 R2 R3 (ro R) m) [] E<|ak t1<|ak t2<|ak t3 aS) σ W R (m1.bind fun a=>m2.bind fun b=>m3.bind fun c=>m a b c):=fun W1 e1 Q k=>
 h1 W1 e1 _ ((Bj k).imp fun a ka v W2 e2 hv=>h2 W2 (e1.trans e2) _ ((Bj ka).imp fun b kb u W3 e3 hu=>h3 W3 ((e1.trans e2).trans e3) _ ((Bj kb).imp fun c kc w W4 e4 hw=>
  ⟨W4,a,b,c,v,u,w,rfl,rfl,C0 (R:=sh R1) (e3.trans e4) hv,C0 (R:=sh R2) e4 hu,hw,Er,kc.imp fun r kr p W' e hp o=>kr p W' (((e2.trans e3).trans e4).trans e) (none_of ((e2.trans e3).trans e4).h hp) o⟩)))
theorem sJ{R:Rp β}{m:α->γ->δ->ε->Res β}(h1:EV Er t1 σ W (sh R1) m1)(h2:EV Er t2 σ W (sh R2) m2)(h3:EV Er t3 σ W (sh R3) m3)(h4:EV Er t4 σ W (sh R4) m4):EV Er (aV (mN R1 R2 R3 R4 (rs R) m) [] E<|ak t1<|ak t2<|ak t3<|ak t4 aS) σ W (sh R) (m1.bind fun a=>m2.bind fun b=>m3.bind fun c=>m4.bind fun d=>m a b c d):=fun W1 e1 Q k=>
 h1 W1 e1 _ ((Bj k).imp fun a ka v W2 e2 hv=>h2 W2 (e1.trans e2) _ ((Bj ka).imp fun b kb u W3 e3 hu=>h3 W3 ((e1.trans e2).trans e3) _ ((Bj kb).imp fun c kc w W4 e4 hw=>h4 W4 (((e1.trans e2).trans e3).trans e4) _ ((Bj kc).imp fun d kd x W5 e5 hx=>
  ⟨W5,a,b,c,d,v,u,w,x,rfl,rfl,C0 (R:=sh R1) ((e3.trans e4).trans e5) hv,C0 (R:=sh R2) (e4.trans e5) hu,C0 (R:=sh R3) e5 hw,hx,Er,kd.imp fun r kr u W' e hu=>kr u W' ((((e2.trans e3).trans e4).trans e5).trans e) hu⟩))))
theorem qI{R:Rp β}{m:α->γ->δ->ε->Res (List β)}(h1:EV Er t1 σ W (sh R1) m1)(h2:EV Er t2 σ W (sh R2) m2)(h3:EV Er t3 σ W (sh R3) m3)(h4:EV Er t4 σ W (sh R4) m4):EVo Er (aV (mN R1 R2 R3 R4 (ro R) m) [] E<|ak t1<|ak t2<|ak t3<|ak t4 aS) σ W R (m1.bind fun a=>m2.bind fun b=>m3.bind fun c=>m4.bind fun d=>m a b c d):=fun W1 e1 Q k=>
 h1 W1 e1 _ ((Bj k).imp fun a ka v W2 e2 hv=>h2 W2 (e1.trans e2) _ ((Bj ka).imp fun b kb u W3 e3 hu=>h3 W3 ((e1.trans e2).trans e3) _ ((Bj kb).imp fun c kc w W4 e4 hw=>h4 W4 (((e1.trans e2).trans e3).trans e4) _ ((Bj kc).imp fun d kd x W5 e5 hx=>
  ⟨W5,a,b,c,d,v,u,w,x,rfl,rfl,C0 (R:=sh R1) ((e3.trans e4).trans e5) hv,C0 (R:=sh R2) (e4.trans e5) hu,C0 (R:=sh R3) e5 hw,hx,Er,kd.imp fun r kr p W' e hp o=>kr p W' ((((e2.trans e3).trans e4).trans e5).trans e) (none_of (((e2.trans e3).trans e4).trans e5).h hp) o⟩))))
theorem i6{R:Rp β}{m:α->γ->δ->ε->ζ->Res β}(h1:EV Er t1 σ W (sh R1) m1)(h2:EV Er t2 σ W (sh R2) m2)(h3:EV Er t3 σ W (sh R3) m3)(h4:EV Er t4 σ W (sh R4) m4)(h5:EV Er t5 σ W (sh R5) m5):EV Er (aV (gW R1 R2 R3 R4 R5 (rs R) m) [] E<|ak t1<|ak t2<|ak t3<|ak t4<|ak t5 aS) σ W (sh R) (m1.bind fun a=>m2.bind fun b=>m3.bind fun c=>m4.bind fun d=>m5.bind fun e=>m a b c d e):=fun W1 e1 Q k=>
 h1 W1 e1 _ ((Bj k).imp fun a ka v W2 e2 hv=>h2 W2 (e1.trans e2) _ ((Bj ka).imp fun b kb u W3 e3 hu=>h3 W3 ((e1.trans e2).trans e3) _ ((Bj kb).imp fun c kc w W4 e4 hw=>h4 W4 (((e1.trans e2).trans e3).trans e4) _ ((Bj kc).imp fun d kd x W5 e5 hx=>h5 W5 ((((e1.trans e2).trans e3).trans e4).trans e5) _ ((Bj kd).imp fun e ke y W6 e6 hy=>
  ⟨W6,a,b,c,d,e,v,u,w,x,y,rfl,rfl,C0 (R:=sh R1) (((e3.trans e4).trans e5).trans e6) hv,C0 (R:=sh R2) ((e4.trans e5).trans e6) hu,C0 (R:=sh R3) (e5.trans e6) hw,C0 (R:=sh R4) e6 hx,hy,Er,ke.imp fun r kr u W' e hu=>kr u W' (((((e2.trans e3).trans e4).trans e5).trans e6).trans e) hu⟩)))))
theorem iF{R:Rp β}{m:α->γ->δ->ε->ζ->Res (List β)}(h1:EV Er t1 σ W (sh R1) m1)(h2:EV Er t2 σ W (sh R2) m2)(h3:EV Er t3 σ W (sh R3) m3)(h4:EV Er t4 σ W (sh R4) m4)(h5:EV Er t5 σ W (sh R5) m5):EVo Er (aV (gW R1 R2 R3 R4 R5 (ro R) m) [] E<|ak t1<|ak t2<|ak t3<|ak t4<|ak t5 aS) σ W R (m1.bind fun a=>m2.bind fun b=>m3.bind fun c=>m4.bind fun d=>m5.bind fun e=>m a b c d e):=fun W1 e1 Q k=>
 h1 W1 e1 _ ((Bj k).imp fun a ka v W2 e2 hv=>h2 W2 (e1.trans e2) _ ((Bj ka).imp fun b kb u W3 e3 hu=>h3 W3 ((e1.trans e2).trans e3) _ ((Bj kb).imp fun c kc w W4 e4 hw=>h4 W4 (((e1.trans e2).trans e3).trans e4) _ ((Bj kc).imp fun d kd x W5 e5 hx=>h5 W5 ((((e1.trans e2).trans e3).trans e4).trans e5) _ ((Bj kd).imp fun e ke y W6 e6 hy=>
  ⟨W6,a,b,c,d,e,v,u,w,x,y,rfl,rfl,C0 (R:=sh R1) (((e3.trans e4).trans e5).trans e6) hv,C0 (R:=sh R2) ((e4.trans e5).trans e6) hu,C0 (R:=sh R3) (e5.trans e6) hw,C0 (R:=sh R4) e6 hx,hy,Er,ke.imp fun r kr p W' e hp o=>kr p W' (((((e2.trans e3).trans e4).trans e5).trans e6).trans e) (none_of ((((e2.trans e3).trans e4).trans e5).trans e6).h hp) o⟩)))))
end
def Yl(J:It)(W:Wd)(R:Rp α)(xs:List α):Prop:=∀W1:Wd,Same W.G W1.G->(∀(i:Nat)(a:α),xs[i]? =some a->J.go i W1.H/\∀x H',J.yld i W1.H x H'->∃W2:Wd,W2.H=H'/\Ext W1 W2/\R W2.G a x)/\J.stop xs.length W1.H
def IV(Er:Nat->Prop)(wi:TI)(σ:St)(W:Wd)(R:Rp α)(m:Res (List α)):Prop:=∀W1,Ext W W1->∀P:It->Hp->Prop,m.OkE Er (fun xs=>∀J W2,Ext W1 W2->Yl J W2 R xs->P J W2.H)->wi σ W1.H P
theorem bU{R:Rp α}[Mono R]{m:Res (List α)}(h:EV Er t σ W (sh<|isL R) m):IV Er (rN K t) σ W R m:=fun W1 e1 P k=>
 h W1 e1 _ (k.imp fun xs kx v W2 e2 hv=>by
  obtain⟨p,vs,rfl,h1,h2⟩:=hv;refine⟨p,rfl,⟨vs,DB (W2.ok _ _ h1)⟩,kx _ W2 e2 fun W3 e3=>⟨fun i a ha=>?_,vs,DB (W3.ok _ _ (e3 _ _ h1)),by rw[h2.1];exact Bt _⟩⟩;obtain⟨x,hx,hr⟩:=h2.get ha;refine⟨⟨vs,x,DB (W3.ok _ _ (e3 _ _ h1)),hx⟩,fun y H'⟨z1,z2⟩=>⟨W3,z1.symm,.refl _,?_⟩⟩;have:=z2 vs (DB (W3.ok _ _ (e3 _ _ h1)));rw[hx]at this;cases this;exact Bi e3 hr)
theorem jy{m:Res Tx}(h:EV Er t σ W (sh isS) m):IV Er (yF t) σ W isS (m.bind fun x=>.ok<|cQ x):=fun W1 e1 P k=>
 h W1 e1 _ ((Bj k).imp fun x kx v W2 e2 hv=>by
  cases hv;refine⟨x,rfl,kx _ W2 e2 fun W3 e3=>⟨fun i a ha=>?_,by show x.length<=(cQ x).length;simp[cQ]⟩⟩;unfold cQ at ha;rw[Bz]at ha;cases hc:x[i]? with
  |none=>rw[hc]at ha;cases ha
  |some c=>
   rw[hc]at ha;cases ha;refine⟨(Bv.mp hc).1,fun y H'⟨z1,c',z2,z3⟩=>⟨W3,z1.symm,.refl _,?_⟩⟩;rw[hc]at z2;cases z2;exact z3)
theorem i7{m:Res Int}(h:EV Er t σ W (sh isI) m):IV Er (wN<|ak t aS) σ W isI (m.bind fun n=>fF n):=fun W1 e1 P k=>
 h W1 e1 _ ((Bj k).imp fun n kn v W2 e2 hv=>by
  cases hv;obtain⟨hb,kn⟩:=bh kn;refine⟨n,rfl,hb.1,hb.2,kn _ W2 e2 fun W3 e3=>⟨fun i a ha=>?_,by show n.toNat<=(js n).length;simp[js]⟩⟩;unfold js at ha;rw[Bz]at ha;have hi:i<n.toNat:=by
   refine E5 fun z=>?_;rw[Cr.mpr (by simp;omega)]at ha;cases ha
  rw[Gk hi]at ha;cases ha;exact⟨hi,fun y H'⟨z1,z2⟩=>⟨W3,z1.symm,.refl _,by rw[z2];show ET (0+(i:Int))=.int (i:Int);rw[Int.zero_add]⟩⟩)
def SrcR(K:Bo)(W:Wd)(R:Rp α)(xs:List α)(v:V):Prop:=∃(c:Src)(vs:List V),v=c.val/\(∀W1:Wd,Same W.G W1.G->c.has K W1.H vs)/\LR R W.G xs vs
theorem SrcR.mono{R:Rp α}[Mono R]{xs:List α}{v:V}(h:SrcR K W R xs v)(e:Same W.G W'.G):SrcR K W' R xs v:=by
 obtain⟨c,vs,h1,h2,h3⟩:=h;exact⟨c,vs,h1,fun W1 e1=>h2 W1<|e.trans e1,h3.same e⟩
def SV(Er:Nat->Prop)(t:TE)(σ:St)(W:Wd)(K:Bo)(R:Rp α)(m:Res (List α)):Prop:=EV Er t σ W (fun W xs v=>SrcR K W R xs v) m
theorem fJ{R:Rp α}[Mono R]{m:Res (List α)}(h:EV Er t σ W (sh<|isL R) m):SV Er t σ W K R m:=h.imp fun W xs v⟨p,vs,h0,h1,h2⟩=>⟨.lst p,vs,h0,fun W1 e1=>DB<|W1.ok _ _<|e1 _ _ h1,h2⟩
theorem j4{R:Rp α}{m:Res (α×α×α)}(h:EV Er t σ W (sh<|isT3 K R R R) m):SV Er t σ W K R (m.bind fun x=>.ok [x.1,x.2.1,x.2.2]):=fun W1 e1 Q k=>
 h W1 e1 _ ((Bj k).imp fun x kx v W2 e2 hv=>by
  obtain⟨p,a,b,c,h0,h,h1,h2,h3⟩:=hv;exact kx _ W2 e2 ⟨.tup p,_,h0,fun W3 e3=>DG (e3.trans W3.ok) h,LR.three h1 h2 h3⟩)
theorem jz{R1:Rp α}{R2:Rp β}[Mono R1][Mono R2]{m1:Res (List α)}{m2:Res (List β)}(h1:SV Er t1 σ W K R1 m1)(h2:SV Er t2 σ W K R2 m2):IV Er (xx K<|ak t1<|ak t2 aS) σ W (isT2 K R1 R2) (m1.bind fun xs=>m2.bind fun ys=>.ok<|xs.zip ys):=fun W1 e1 P k=>
 h1 W1 e1 _ ((Bj k).imp fun xs kx v W2 e2 hv=>h2 W2 (e1.trans e2) _ ((Bj kx).imp fun ys ky u W3 e3 hu=>by
  obtain⟨c1,vs,rfl,a1,b1⟩:=SrcR.mono hv e3.g;obtain⟨c2,us,rfl,a2,b2⟩:=hu;refine⟨c1,c2,vs,us,rfl,a1 W3<|.refl _,a2 W3<|.refl _,ky _ W3 (e2.trans e3) fun W4 e4=>⟨fun i ab hab=>?_,?_⟩⟩
  ·rw[Df]at hab;obtain⟨x,hx,rx⟩:=b1.get hab.1;obtain⟨y,hy,ry⟩:=b2.get hab.2;refine⟨⟨vs,us,x,y,a1 W4 e4,a2 W4 e4,hx,hy⟩,fun z H'⟨p,x',y',hp,z0,z1,z2,z3⟩=>⟨W4.new p<|.tup [x',y'],by rw[z3];rfl,.new _ hp,p,x',y',z0,JU aG,?_,?_⟩⟩
   ·have:=z1 vs<|a1 W4 e4;rw[hx]at this;cases this;exact Bi (e4.trans (F4 _ hp).g) rx
   ·have:=z2 us<|a2 W4 e4;rw[hy]at this;cases this;exact Bi (e4.trans (F4 _ hp).g) ry
  ·refine⟨vs,us,a1 W4 e4,a2 W4 e4,?_⟩;rw[E8,b1.1,b2.1];omega))
theorem kR{f:α->Res β}{xs:List α}{i:Nat}{a:α}(h:xs[i]? =some a):hZ f (xs.drop i)=(f a).bind fun b=>(hZ f<|xs.drop<|i+1).bind fun bs=>.ok (b::bs):=by
 obtain⟨hi,e⟩:=Bv.mp h;rw[E6 hi,e];rfl
theorem og{f:α->Res (Option β)}{xs:List α}{i:Nat}{a:α}(h:xs[i]? =some a):i4 f (xs.drop i)=(f a).bind fun b=>(i4 f<|xs.drop<|i+1).bind fun bs=>.ok (match b with|some b=>b::bs|none=>bs):=by
 obtain⟨hi,e⟩:=Bv.mp h;rw[E6 hi,e];rfl
theorem eD{cap:List (Option Nat)}{wi:TI}{g:TG}{te:TE}{R:Rp α}{R':Rp β}[Mono R']{m:Res (List α)}{f:α->Res β}(hi:IV Er wi σ W R m)
  (hb:∀(W1:Wd)(a:α)(v:V),Ext W W1->R W1.G a v->∀Q:VK,(f a).OkE Er (fun b=>∀u W2,Ext W1 W2->R' W2.G b u->Q u W2.H)->g v (bR cap σ) W1.H fun σ2 H2=>Keep (bR cap σ) σ2/\te σ2 H2 Q):
  EVo Er (mH cap wi g xw te) σ W R' (m.bind fun xs=>dG xs f):=fun W1 e1 Q k=>by
 refine hi W1 e1 _<|(Bj k).imp fun xs kx J W2 e2 hy=>?_;obtain⟨hl,kx⟩:=bh<|Bj kx;refine⟨fun i n ys H=>n=xs.length-i/\i<=xs.length/\ys.length<=i/\∃(W3:Wd)(bs:List β),W3.H=H/\Ext W2 W3/\LR R' W3.G bs ys/\(hZ f<|xs.drop i).OkE Er (fun r=>∀p W4,Ext W1 W4->W1.H p=none->Ow R' W4 p (bs++r)->Q (.ref p) W4.H),⟨xs.length,by simp,by simp,by simp,W2,[],rfl,.refl _,.nil,?_⟩,?_⟩;·simpa using kx
 ·rintro i n ys H ⟨rfl,hi1,hyl,W3,bs,rfl,e3,lr,q⟩;refine⟨by rw[CF];unfold Mi.cap at hl;omega,?_⟩;by_cases hlt:i<xs.length
  ·obtain⟨a,ha⟩:∃a,xs[i]? =some a:=⟨xs[i],by simp[hlt]⟩
   obtain⟨h1,h2⟩:=(hy W3 e3.g).1 i a ha;refine .inr ⟨h1,fun ys' H'=>ys'.length<=i+1/\∃(W3:Wd)(bs:List β),W3.H=H'/\Ext W2 W3/\LR R' W3.G bs ys'/\(hZ f<|xs.drop<|i+1).OkE Er (fun r=>∀p W4,Ext W1 W4->W1.H p=none->Ow R' W4 p (bs++r)->Q (.ref p) W4.H),fun ys' H'⟨z1,z2⟩=>⟨xs.length-(i+1),by omega,rfl,hlt,z1,z2⟩,fun x H' hx=>?_⟩;obtain⟨W4,rfl,e4,rx⟩:=h2 x H' hx;rw[kR ha]at q;have:=hb W4 a x (e1.trans<|(e2.trans e3).trans e4) rx (fun y H4=>(ys++[y]).length<=i+1/\∃(W3:Wd)(bs:List β),W3.H=H4/\Ext W2 W3/\LR R' W3.G bs (ys++[y])/\(hZ f<|xs.drop<|i+1).OkE Er (fun r=>∀p W4,Ext W1 W4->W1.H p=none->Ow R' W4 p (bs++r)->Q (.ref p) W4.H))
    ((Bj q).imp fun b kb u W5 e5 hu=>⟨by simp;exact hyl,W5,bs++[b],rfl,(e3.trans e4).trans e5,(lr.same (e4.trans e5).g).snoc hu,(Bj kb).imp fun r kr=>by rw[BU];exact kr⟩)
   exact this
  ·have e:i=xs.length:=by omega
   subst e;rw[F0]at q;refine .inl ⟨(hy W3 e3.g).2,fun D hD=>?_⟩;have e13:=e2.trans e3;have:=q D (W3.mut D (.lst ys)<|W3.gnone hD) (e13.trans<|.own _ hD) (none_of e13.h hD) ⟨W3.gnone hD,ys,aG,by rw[Dd];exact lr⟩;exact this
theorem sL{cap:List (Option Nat)}{wi:TI}{g:TG}{tf:TT}{te:TE}{R:Rp α}{R':Rp β}[Mono R']{m:Res (List α)}{f:α->Res (Option β)}(hi:IV Er wi σ W R m)
    (hb:∀(W1:Wd)(a:α)(v:V),Ext W W1->R W1.G a v->∀Q:Option V->Hp->Prop,(f a).OkE Er (fun b=>∀u W2,Ext W1 W2->(match b,u with|some b,some u=>R' W2.G b u|none,none=>True|_,_=>False)->Q u W2.H)->g v (bR cap σ) W1.H fun σ2 H2=>Keep (bR cap σ) σ2/\tf σ2 H2 fun b H3=>if b=true then te σ2 H3 (fun y H4=>Q (some y) H4)else Q none H3):
    EVo Er (mH cap wi g tf te) σ W R' (m.bind fun xs=>oW xs f):=fun W1 e1 Q k=>by
  refine hi W1 e1 _<|(Bj k).imp fun xs kx J W2 e2 hy=>?_;obtain⟨hl,kx⟩:=bh<|Bj kx;refine⟨fun i n ys H=>n=xs.length-i/\i<=xs.length/\ys.length<=i/\∃(W3:Wd)(bs:List β),W3.H=H/\Ext W2 W3/\LR R' W3.G bs ys/\(i4 f<|xs.drop i).OkE Er (fun r=>∀p W4,Ext W1 W4->W1.H p=none->Ow R' W4 p (bs++r)->Q (.ref p) W4.H),⟨xs.length,by simp,by simp,by simp,W2,[],rfl,.refl _,.nil,?_⟩,?_⟩;·simpa using kx
  · rintro i n ys H ⟨rfl,hi1,hyl,W3,bs,rfl,e3,lr,q⟩;refine⟨by rw[CF];unfold Mi.cap at hl;omega,?_⟩;by_cases hlt:i<xs.length
    · obtain⟨a,ha⟩:∃a,xs[i]? =some a:=⟨xs[i],by simp[hlt]⟩
      obtain⟨h1,h2⟩:=(hy W3 e3.g).1 i a ha;refine .inr ⟨h1,fun ys' H'=>ys'.length<=i+1/\∃(W3:Wd)(bs:List β),W3.H=H'/\Ext W2 W3/\LR R' W3.G bs ys'/\(i4 f<|xs.drop<|i+1).OkE Er (fun r=>∀p W4,Ext W1 W4->W1.H p=none->Ow R' W4 p (bs++r)->Q (.ref p) W4.H),fun ys' H'⟨z1,z2⟩=>⟨xs.length-(i+1),by omega,rfl,hlt,z1,z2⟩,fun x H' hx=>?_⟩;obtain⟨W4,rfl,e4,rx⟩:=h2 x H' hx;rw[og ha]at q
      have:=hb W4 a x (e1.trans<|(e2.trans e3).trans e4) rx (fun y H4=>(match y with|some y=>ys++[y]|none=>ys).length<=i+1/\∃(W3:Wd)(bs:List β),W3.H=H4/\Ext W2 W3/\LR R' W3.G bs (match y with|some y=>ys++[y]|none=>ys)/\(i4 f<|xs.drop<|i+1).OkE Er (fun r=>∀p W4,Ext W1 W4->W1.H p=none->Ow R' W4 p (bs++r)->Q (.ref p) W4.H))
        ((Bj q).imp fun b kb u W5 e5 hu=>by
          match b,u,hu,kb with
          |some b,some u,hu,kb=>exact⟨by simp;exact hyl,W5,bs++[b],rfl,(e3.trans e4).trans e5,(lr.same (e4.trans e5).g).snoc hu,(Bj kb).imp fun r kr=>by rw[BU];exact kr⟩
          |none,none,hu,kb=>exact⟨by show ys.length<=i+1;omega,W5,bs,rfl,(e3.trans e4).trans e5,lr.same (e4.trans e5).g,(Bj kb).imp fun r kr=>kr⟩)
      exact this
    · have e:i=xs.length:=by omega
      subst e;rw[F0]at q;refine .inl ⟨(hy W3 e3.g).2,fun D hD=>?_⟩;have e13:=e2.trans e3;have:=q D (W3.mut D (.lst ys)<|W3.gnone hD) (e13.trans<|.own _ hD) (none_of e13.h hD) ⟨W3.gnone hD,ys,aG,by rw[Dd];exact lr⟩;exact this
end
end Wb
open Wb.SrcR renaming mono->Lr
namespace Wb
open PySem L2 Mi
variable{Er:Nat->Prop}
section
variable{α β γ δ:Type}{t u:TS}{te ti:TE}{g:TG}{D:Ends}{σ:St}{W W0 W':Wd}{K:Bo}{i j k n:Nat}{P:St->Hp->Prop}{H:Hp}{v:V}
theorem gn{σ':St}(h:P σ' H)(hσ:σ.set i (some v)=σ':=by rfl):aO i v σ H P:=by subst hσ;exact h
theorem lJ{σ':V->V->St}{R1:Rp α}{R2:Rp β}{ab:α×β}(h:isT2 K R1 R2 W.G ab v)(q:∀x y,R1 W.G ab.1 x->R2 W.G ab.2 y->P (σ' x y) W.H)(hσ:∀x y,(σ.set i<|some x).set j (some y)=σ' x y:=by intro _ _;rfl):cu K 2 (br (aO i)<|br (aO j) cx) v σ W.H P:=by
 obtain⟨p,x,y,h0,h,h1,h2⟩:=h;exact⟨p,_,h0,DG W.ok h,rfl,x,_,rfl,y,_,rfl,rfl,by have:=q x y h1 h2;rw[<-hσ]at this;exact this⟩
theorem sM{σ':V->V->V->St}{R1:Rp α}{R2:Rp β}{R3:Rp γ}{ab:α×β×γ}(h:isT3 K R1 R2 R3 W.G ab v)(q:∀x y z,R1 W.G ab.1 x->R2 W.G ab.2.1 y->R3 W.G ab.2.2 z->P (σ' x y z) W.H)(hσ:∀x y z,((σ.set i<|some x).set j (some y)).set k (some z)=σ' x y z:=by intro _ _ _;rfl):cu K 3 (br (aO i)<|br (aO j)<|br (aO k) cx) v σ W.H P:=by
 obtain⟨p,x,y,z,h0,h,h1,h2,h3⟩:=h;exact⟨p,_,h0,DG W.ok h,rfl,x,_,rfl,y,_,rfl,z,_,rfl,rfl,by have:=q x y z h1 h2 h3;rw[<-hσ]at this;exact this⟩
theorem cg{σ':V->St}{R:Rw α}{m:Res α}(h:EV Er te σ W R m)(q:m.OkE Er fun a=>∀v W',Ext W W'->R W' a v->D.nx (σ' v) W'.H)(hσ:∀v,σ.set i (some v)=σ' v:=by intro _;rfl):bK te (aO i) D σ W.H:=h W (.refl _) _ (q.imp fun a k v W' e r=>by have:=k v W' e r;rw[<-hσ]at this;exact this)
theorem vq{σ':Addr->St}{R:Rp α}{m:Res (List α)}(h:EVo Er te σ W R m)(q:m.OkE Er fun a=>∀p W',Ext W W'->W.H p=none->Ow R W' p a->D.nx (σ' p) W'.H)(hσ:∀p,σ.set i (some<|.ref p)=σ' p:=by intro _;rfl):bK te (aO i) D σ W.H:=h W (.refl _) _ (q.imp fun a k p W' e hp r=>by have:=k p W' e hp r;rw[<-hσ]at this;exact this)
theorem aT{R:Rw α}{m:Res α}(h:EV Er te σ W R m)(q:m.OkE Er fun a=>∀v W',Ext W W'->R W' a v->D.rt v W'.H):cn te D σ W.H:=h W (.refl _) _ q
theorem p7{R:Rp α}{m:Res (List α)}(h:EVo Er te σ W R m)(q:m.OkE Er fun a=>∀p W',Ext W W'->W.H p=none->Ow R W' p a->D.rt (.ref p) W'.H):cn te D σ W.H:=h W (.refl _) _ q
theorem p8{c:TT}{m:Res Bool}(h:TV Er c σ W m)(q:m.OkE Er fun b=>∀W',Ext W W'->if b=true then t D σ W'.H else u D σ W'.H):iR c t u D σ W.H:=h W (.refl _) _ q
theorem iG{S:Type}{c:TT}{m:Res Bool}{mA mB:Res S}{P:S->Prop}(Iv:S->Wd->St->Prop)(h:TV Er c σ W m)(q:(m.bind fun b=>if b then mA else mB).OkE Er P)
  (hA:∀W'(N:St->Hp->Prop),Ext W W'->(∀s W1 σ1,Same W.G W1.G->Iv s W1 σ1->P s->N σ1 W1.H)->mA.OkE Er P->t {D with nx:=N} σ W'.H)
  (hB:∀W'(N:St->Hp->Prop),Ext W W'->(∀s W1 σ1,Same W.G W1.G->Iv s W1 σ1->P s->N σ1 W1.H)->mB.OkE Er P->u {D with nx:=N} σ W'.H)
  (hd:∀s W1 σ1,Same W.G W1.G->Iv s W1 σ1->P s->D.nx σ1 W1.H):iR c t u D σ W.H:=h W (.refl _) _ ((Bj q).imp fun b kb W' e=>by
 cases b with
 |true=>exact hA W' D.nx e hd kb
 |false=>exact hB W' D.nx e hd kb)
theorem Ow.ne{R:Rp α}{p q:Addr}{ys:List α}(o:Ow R W q ys)(hp:W.H p=none):q≠p:=by
 obtain⟨vs,a,b⟩:=o.h;exact cm a hp
structure Mu(W W':Wd)(p:Addr):Prop where
 g:Same W.G W'.G
 e:∀W0:Wd,Ext W0 W->W0.H p=none->Ext W0 W'
 h:∀q,q≠p->W.H q≠none->W'.H q=W.H q/\W'.G q=W.G q
theorem Mu.of{W1:Wd}{p:Addr}{o:HO}(e1:Ext W W1)(hg:W1.G p=none):Mu W (W1.mut p o hg) p:=⟨e1.g,fun W0 e0 hp=>(e0.trans e1).mut hp hg,fun q hq hn=>by
 obtain⟨o',ho⟩:=EN.mp hn;exact⟨by show cU W1.H p o q=_;rw[aH hq,e1.h _ _ ho,ho],e1.k q hn⟩⟩
theorem Mu.ow{R:Rp α}[Mono R]{p q:Addr}{ys:List α}(m:Mu W W' p)(hq:q≠p)(o:Ow R W q ys):Ow R W' q ys:=by
 obtain⟨vs,a,b⟩:=o.h;obtain⟨h1,h2⟩:=m.h q hq (by rw[a];exact fun z=>nomatch z);exact⟨by rw[h2];exact o.g,vs,by rw[h1];exact a,b.same m.g⟩
theorem gX{R:Rp α}[Mono R]{p:Addr}{xs:List α}{m:Res α}(o:Ow R W p xs)(h:EV Er te σ W (sh R) m)(q:(m.bind fun a=>gH xs a).OkE Er fun ys=>∀W',Mu W W' p->Ow R W' p ys->D.nx σ W'.H)(hi:σ[i]? =some (some<|.ref p):=by rfl):bu (eO K "list" aI (bF i)<|ak te aS) D σ W.H:=by
 obtain⟨vs,h1,h2⟩:=o.h;refine⟨.ref p,hi,.inl ⟨rfl,vs,DB h1⟩,h W (.refl _) _<|(Bj q).imp fun a ka v W2 e2 hv=>?_⟩;obtain⟨h3,h4⟩:=bh ka;have hg:=(o.mono e2).g;refine⟨p,vs,v,rfl,rfl,e2.h _ _ h1,by rw[h2.1,CF];unfold Mi.cap at h3;omega,h4 (W2.mut p (.lst<|vs++[v]) hg) (.of e2 hg) ⟨hg,_,aG,(h2.same e2.g).snoc hv⟩⟩
theorem LR.set{R:Rp α}{H:Hp}{as:List α}{vs:List V}{a:α}{v:V}(h:LR R H as vs)(r:R H a v)(j:Nat):LR R H (as.set j a) (vs.set j v):=⟨by simp[h.1],fun i x m e1 e2=>by
 rw[Fy]at e1 e2;by_cases z:j=i
 ·rw[if_pos z]at e1 e2;split at e1
  ·split at e2;·cases e1;cases e2;exact r
   ·cases e2
  ·cases e1
 ·rw[if_neg z]at e1 e2;exact h.2 i x m e1 e2⟩
theorem lK{R:Rp α}[Mono R]{p:Addr}{xs:List α}{m:Res α}{mi:Res Int}(o:Ow R W p xs)(h:EV Er te σ W (sh R) m)(hj:EV Er ti σ W (sh isI) mi)(q:(m.bind fun a=>mi.bind fun j=>iB xs j a).OkE Er fun ys=>∀W',Mu W W' p->Ow R W' p ys->D.nx σ W'.H)(hi:σ[i]? =some (some<|.ref p):=by rfl):bK te (xl (bF i) ti rV) D σ W.H:=by
 obtain⟨vs,h1,h2⟩:=o.h;refine h W (.refl _) _<|(Bj q).imp fun a ka v W2 e2 hv=>⟨.ref p,hi,hj W2 e2 _<|(Bj ka).imp fun j kj x W3 e3 hx=>?_⟩;cases hx;obtain⟨l,h3,h4⟩:=dv<|Bj kj;have e:=e2.trans e3;have hg:=(o.mono e).g;exact⟨p,vs,j,l,rfl,rfl,e.h _ _ h1,by rw[h2.1];exact h3,h4 (W3.mut p (.lst<|vs.set l v) hg) (.of e hg) ⟨hg,_,aG,(h2.same e.g).set (Bi (R:=R) e3.g hv) l⟩⟩
def sN{S:Type}(W:Wd)(Iv:S->Wd->St->Prop)(P:S->Prop):St->Hp->Prop:=fun σ' H'=>∃s' W',W'.H=H'/\Same W.G W'.G/\Iv s' W' σ'/\P s'
theorem qJ{S:Type}{f:α->S->Res S}{xs:List α}{i:Nat}{a:α}{s:S}(h:xs[i]? =some a):cO f (xs.drop i) s=(f a s).bind fun s=>cO f (xs.drop<|i+1) s:=by
 obtain⟨hi,e⟩:=Bv.mp h;rw[E6 hi,e];rfl
theorem lL{S:Type}{wi:TI}{tb:TS}{R:Rp α}{m:Res (List α)}{f:α->S->Res S}{s0:S}{P:S->Prop}(Iv:S->Wd->St->Prop)(hi:IV Er wi σ W R m)(q:(m.bind fun xs=>cO f xs s0).OkE Er P)
  (h0:∀W1,Ext W W1->Iv s0 W1 σ)
  (hs:∀Wb W1 W2 a v s σ1 P',Same W.G W1.G->Same Wb.G W1.G->Iv s W1 σ1->Ext W1 W2->R W2.G a v->(f a s).OkE Er P'->g v σ1 W2.H fun σ2 H2=>tb {D with nx:=sN Wb Iv P',ct:=sN Wb Iv P',bk:=D.nx} σ2 H2)
  (hd:∀s W1 σ1,Same W.G W1.G->Iv s W1 σ1->P s->D.nx σ1 W1.H):rO wi g tb D σ W.H:=by
 refine hi W (.refl _) _<|(Bj q).imp fun xs kx J W1 e1 hy=>?_;refine⟨fun i n σ' H'=>n=xs.length-i/\i<=xs.length/\∃s' W',W'.H=H'/\Same W1.G W'.G/\Iv s' W' σ'/\(cO f (xs.drop i) s').OkE Er P,⟨xs.length,by simp,by simp,s0,W1,rfl,.refl _,h0 W1 e1,by simpa using kx⟩,?_⟩;rintro i n σ1 H1 ⟨rfl,hi1,s,W2,rfl,e2,iv,k⟩;by_cases hlt:i<xs.length
 ·obtain⟨a,ha⟩:∃a,xs[i]? =some a:=⟨xs[i],by simp[hlt]⟩
  obtain⟨h1,h2⟩:=(hy W2 e2).1 i a ha;refine .inr ⟨h1,sN W1 Iv fun s'=>(cO f (xs.drop<|i+1) s').OkE Er P,fun σ' H'⟨s',W',z1,z2,z3,z4⟩=>⟨xs.length-(i+1),by omega,rfl,hlt,s',W',z1,z2,z3,z4⟩,fun x H' hx=>?_⟩;obtain⟨W3,rfl,e3,rx⟩:=h2 x H' hx;rw[qJ ha]at k;exact hs W1 W2 W3 a x s σ1 (fun s'=>(cO f (xs.drop<|i+1) s').OkE Er P) (e1.g.trans e2) e2 iv e3 rx<|Bj k
 ·have e:i=xs.length:=by omega
  subst e;rw[F0]at k;exact .inl ⟨(hy W2 e2).2,hd s W2 σ1 (e1.g.trans e2) iv k⟩
theorem qK{S:Type}{f:α->S->Res (Fl γ S)}{xs:List α}{i:Nat}{a:α}{s:S}(h:xs[i]? =some a):fo f (xs.drop i) s=(f a s).bind (vn<|fo f<|xs.drop<|i+1):=by
 obtain⟨hi,e⟩:=Bv.mp h;rw[E6 hi,e];rfl
theorem j5{S:Type}{wi:TI}{tb:TS}{R:Rp α}{m:Res (List α)}{f:α->S->Res (Fl γ S)}{s0:S}{P:Fl γ S->Prop}(Iv:S->Wd->St->Prop)(hi:IV Er wi σ W R m)(q:(m.bind fun xs=>fo f xs s0).OkE Er P)
  (h0:∀W1,Ext W W1->Iv s0 W1 σ)
  (hs:∀Wb W1 W2 a v s σ1 P',Same W.G W1.G->Same Wb.G W1.G->Iv s W1 σ1->Ext W1 W2->R W2.G a v->(∀r,P' (.rt r)->P (.rt r))->(f a s).OkE Er P'->g v σ1 W2.H fun σ2 H2=>tb {D with nx:=sN Wb Iv fun s'=>P'<|.nx s',ct:=sN Wb Iv fun s'=>P'<|.nx s',bk:=D.nx} σ2 H2)
  (hd:∀s W1 σ1,Same W.G W1.G->Iv s W1 σ1->P (.nx s)->D.nx σ1 W1.H):rO wi g tb D σ W.H:=by
 refine hi W (.refl _) _<|(Bj q).imp fun xs kx J W1 e1 hy=>?_;refine⟨fun i n σ' H'=>n=xs.length-i/\i<=xs.length/\∃s' W',W'.H=H'/\Same W1.G W'.G/\Iv s' W' σ'/\(fo f (xs.drop i) s').OkE Er P,⟨xs.length,by simp,by simp,s0,W1,rfl,.refl _,h0 W1 e1,by simpa using kx⟩,?_⟩;rintro i n σ1 H1 ⟨rfl,hi1,s,W2,rfl,e2,iv,k⟩;by_cases hlt:i<xs.length
 ·obtain⟨a,ha⟩:∃a,xs[i]? =some a:=⟨xs[i],by simp[hlt]⟩
  obtain⟨h1,h2⟩:=(hy W2 e2).1 i a ha;refine .inr ⟨h1,sN W1 Iv fun s'=>(fo f (xs.drop<|i+1) s').OkE Er P,fun σ' H'⟨s',W',z1,z2,z3,z4⟩=>⟨xs.length-(i+1),by omega,rfl,hlt,s',W',z1,z2,z3,z4⟩,fun x H' hx=>?_⟩;obtain⟨W3,rfl,e3,rx⟩:=h2 x H' hx;rw[qK ha]at k;exact hs W1 W2 W3 a x s σ1 (fun fl=>match fl with| .nx s'=>(fo f (xs.drop<|i+1) s').OkE Er P| .bk s'=>P (.nx s')| .rt r=>P<|.rt r) (e1.g.trans e2) e2 iv e3 rx (fun r h=>h) ((Bj k).imp fun fl h=>by cases fl<;>exact h)
 ·have e:i=xs.length:=by omega
  subst e;rw[F0]at k;exact .inl ⟨(hy W2 e2).2,hd s W2 σ1 (e1.g.trans e2) iv k⟩
section
variable{r:TS}
theorem au{σ':V->St}{R:Rw α}{m:Res α}(h:EV Er te σ W R m)(q:m.OkE Er fun a=>∀v W',Ext W W'->R W' a v->r D (σ' v) W'.H)(hσ:∀v,σ.set i (some v)=σ' v:=by intro _;rfl):fS (bK te<|aO i) r D σ W.H:=cg (D:={D with nx:=r D}) h q hσ
theorem dg{σ':Addr->St}{R:Rp α}{m:Res (List α)}(h:EVo Er te σ W R m)(q:m.OkE Er fun a=>∀p W',Ext W W'->W.H p=none->Ow R W' p a->r D (σ' p) W'.H)(hσ:∀p,σ.set i (some<|.ref p)=σ' p:=by intro _;rfl):fS (bK te<|aO i) r D σ W.H:=vq (D:={D with nx:=r D}) h q hσ
theorem fq{R:Rw α}{m:Res α}(h:EV Er te σ W R m)(q:m.OkE Er fun a=>∀v W',Ext W W'->R W' a v->g v σ W'.H (r D)):fS (bK te g) r D σ W.H:=h W (.refl _) _ q
theorem dN{c:TT}{m:Res Bool}(h:TV Er c σ W m)(q:m.OkE Er fun b=>∀W',Ext W W'->if b=true then t {D with nx:=r D} σ W'.H else u {D with nx:=r D} σ W'.H):fS (iR c t u) r D σ W.H:=h W (.refl _) _ q
theorem bf{S:Type}{c:TT}{m:Res Bool}{mA mB:Res S}{P:S->Prop}(Iv:S->Wd->St->Prop)(h:TV Er c σ W m)(q:(m.bind fun b=>if b then mA else mB).OkE Er P)
  (hA:∀W'(N:St->Hp->Prop),Ext W W'->(∀s W1 σ1,Same W.G W1.G->Iv s W1 σ1->P s->N σ1 W1.H)->mA.OkE Er P->t {D with nx:=N} σ W'.H)
  (hB:∀W'(N:St->Hp->Prop),Ext W W'->(∀s W1 σ1,Same W.G W1.G->Iv s W1 σ1->P s->N σ1 W1.H)->mB.OkE Er P->u {D with nx:=N} σ W'.H)
  (hd:∀s W1 σ1,Same W.G W1.G->Iv s W1 σ1->P s->r D σ1 W1.H):fS (iR c t u) r D σ W.H:=iG (D:={D with nx:=r D}) Iv h q hA hB hd
theorem mO{R:Rp α}[Mono R]{p:Addr}{xs:List α}{m:Res α}(o:Ow R W p xs)(h:EV Er te σ W (sh R) m)(q:(m.bind fun a=>gH xs a).OkE Er fun ys=>∀W',Mu W W' p->Ow R W' p ys->r D σ W'.H)(hi:σ[i]? =some (some<|.ref p):=by rfl):fS (bu<|eO K "list" aI (bF i)<|ak te aS) r D σ W.H:=gX (D:={D with nx:=r D}) o h q hi
theorem cR{S:Type}{wi:TI}{tb:TS}{R:Rp α}{m:Res (List α)}{f:α->S->Res S}{s0:S}{P:S->Prop}(Iv:S->Wd->St->Prop)(hi:IV Er wi σ W R m)(q:(m.bind fun xs=>cO f xs s0).OkE Er P)
  (h0:∀W1,Ext W W1->Iv s0 W1 σ)
  (hs:∀Wb W1 W2 a v s σ1 P',Same W.G W1.G->Same Wb.G W1.G->Iv s W1 σ1->Ext W1 W2->R W2.G a v->(f a s).OkE Er P'->g v σ1 W2.H fun σ2 H2=>tb {D with nx:=sN Wb Iv P',ct:=sN Wb Iv P',bk:=r D} σ2 H2)
  (hd:∀s W1 σ1,Same W.G W1.G->Iv s W1 σ1->P s->r D σ1 W1.H):fS (rO wi g tb) r D σ W.H:=lL (D:={D with nx:=r D}) Iv hi q h0 hs hd
theorem gz{S:Type}{wi:TI}{tb:TS}{R:Rp α}{m:Res (List α)}{f:α->S->Res (Fl γ S)}{s0:S}{P:Fl γ S->Prop}(Iv:S->Wd->St->Prop)(hi:IV Er wi σ W R m)(q:(m.bind fun xs=>fo f xs s0).OkE Er P)
  (h0:∀W1,Ext W W1->Iv s0 W1 σ)
  (hs:∀Wb W1 W2 a v s σ1 P',Same W.G W1.G->Same Wb.G W1.G->Iv s W1 σ1->Ext W1 W2->R W2.G a v->(∀r,P' (.rt r)->P (.rt r))->(f a s).OkE Er P'->g v σ1 W2.H fun σ2 H2=>tb {D with nx:=sN Wb Iv fun s'=>P'<|.nx s',ct:=sN Wb Iv fun s'=>P'<|.nx s',bk:=r D} σ2 H2)
  (hd:∀s W1 σ1,Same W.G W1.G->Iv s W1 σ1->P (.nx s)->r D σ1 W1.H):fS (rO wi g tb) r D σ W.H:=j5 (D:={D with nx:=r D}) Iv hi q h0 hs hd
end
theorem bY{S:Type}{Wb W:Wd}{Iv:S->Wd->St->Prop}{P:S->Prop}(s:S)(hs:Same Wb.G W.G)(iv:Iv s W σ)(hq:P s):sN Wb Iv P σ W.H:=⟨s,W,rfl,hs,iv,hq⟩
end
end Wb
namespace L2
open PySem PySem.Spec PyProof.Rows
section
variable{X:Cx}{K:Bo}{w:C2}
theorem mP{ns:List Bool}:∀{us:List Bq},Vals (ns.map Lq) us->LSm.BoolsAre us ns:=by
 induction ns with
 |nil=>intro us r;cases r;exact .nil
 |cons b r ih=>intro us h;cases h with|cons h1 h2=>cases h1;exact .cons b<|ih h2
theorem iH(hc:X.calm=true)(hK:X.K=K):dt X (.builtin "all") (fun xs H Q=>∃(p:Addr)(bs:List Bool),xs=[.ref p]/\SqL K H p (bs.map Lq)/\Q (.bl<|bs.all id) H):=by
 subst hK;intro pins s σ H xs us Q I r h;obtain⟨p,bs,rfl,hq,q⟩:=h;obtain⟨u,rfl,rx⟩:=eR r;cases rx;obtain⟨its,r',pl,hz⟩:=I.list hq;have hb:=mP r';have hl:=pl.isList;have hlt:p<s.heap.objs.size:=by obtain⟨_,e,_⟩:=hl;exact BC e
 refine call_all_walk<|Ft hl ?_;refine⟨s.heap.objs.size,[s.heap.objs.size,p],[s.heap.objs.size],its.toArray.size,_,_,fun i=>(bs[i]?).getD true,rfl,Walks.list (A:=X.A.in1) (I.ok.hd hc) _ p (BO hlt) its.toArray,
  ⟨⟨_,By _ rfl,rfl,rfl⟩,hl.push _⟩,fun i v s' Q' E' hP hQ=>?_,fun h' tk hk=>?_⟩
 ·obtain⟨b,e,rfl⟩:=hb.get i v (by simpa using hP);simp only[e,CY]at hQ;exact DP hQ
 ·have e:((CZ its.toArray.size).all fun i=>(bs[i]?).getD true)=bs.all id:=by
   rw[BA,hb.length];exact LSm.range_all bs
  rw[e];exact⟨.bl _,H,I.kept<|LSm.kept_iter hk,rfl,q⟩
end
end L2
namespace Wb
open PySem L2 Mi
variable{Er:Nat->Prop}
section
variable{α β γ δ:Type}{t ta tb tc:TE}{σ:St}{W W0 W':Wd}{K:Bo}{w:C2}
theorem j6{a n r:Int}(hc:0<=n/\n<=1000000/\a.natAbs<2^64)(hr:a^n.toNat=r):EV Er (cX (rI yA fun i j=>.int<|i^j.toNat) (tC<|.int a)<|tC<|.int n) σ W (sh isI) (.ok r):=fun W1 e1 Q k=>⟨a,n,rfl,rfl,hc,by show Q (.int<|a^n.toNat) W1.H;rw[hr];exact k _ W1 (.refl _) rfl⟩
def isScr(K:Bo):Rp (List Int):=fun H ns v=>∃a,v=.ref a/\SqL K H a (ns.map ET)
instance zkeep17:Mono (isScr K):=⟨fun e⟨a,h1,h2⟩=>⟨a,h1,e.seq h2⟩⟩
theorem kS{ma:Res (List Int)}(ha:EV Er ta σ W (sh<|isScr K) ma):EV Er (dX (fun xs H Q=>∃x n,xs=[x]/\nR K x H n/\Q (.int n) H)<|ak ta aS) σ W (sh isI) (ma.bind fun a=>.ok (a.length:Int)):=fun W1 e1 Q k=>
 ha W1 e1 _ ((Bj k).imp fun a ka x W2 e2 hx=>by
  obtain⟨p,rfl,h1⟩:=hx;exact⟨_,a.length,rfl,.inl ⟨_,W2.ok.seq h1,by simp⟩,ka _ W2 e2 rfl⟩)
theorem sO{ma:Res (List Int)}{mb:Res Int}(ha:EV Er ta σ W (sh<|isScr K) ma)(hb:EV Er tb σ W (sh isI) mb):EV Er (cX (cf K) ta tb) σ W (sh isI) (ma.bind fun a=>mb.bind fun b=>dF a b):=
 oY ha hb fun W a b x y Q hx hy k=>by
  cases hy;obtain⟨p,rfl,h1⟩:=hx;obtain⟨c,h4,h5⟩:=dv k;have lr:LR isI W.G a (a.map ET):=⟨by simp,fun i v m e1 e2=>by rw[Bz,e2]at e1;cases e1;rfl⟩
  obtain⟨z,h6,h7⟩:=p6 lr h4;exact⟨p,_,b,z,rfl,rfl,W.ok.seq h1,h6,h5 _ W (.refl _) h7⟩
theorem p9{ma:Res Bool}(ha:EV Er ta σ W (sh isB) ma):EV Er (dX (fun xs H Q=>(∃i,xs=[.int i]/\Q (.int i) H)\/∃k,xs=[.bl k]/\Q (.int (if k then 1 else 0)) H)<|ak ta aS) σ W (sh isI) (ma.bind fun a=>.ok (if a then(1:Int)else 0)):=fun W1 e1 Q k=>
 ha W1 e1 _ ((Bj k).imp fun a ka x W2 e2 hx=>by cases hx;exact .inr ⟨a,rfl,ka _ W2 e2 rfl⟩)
theorem lM{R:Rp α}{W1 W2:Wd}{xs:List α}{vs:List V}{Q:VK}(h:LR R W2.G xs vs)(e:Ext W1 W2)(k:∀p W2,Ext W1 W2->W1.H p=none->Ow R W2 p xs->Q (.ref p) W2.H)(r:Addr)(hr:W2.H r=none):Q (.ref r) (cU W2.H r<|.lst vs):=
 k r (W2.mut r (.lst vs)<|W2.gnone hr) (e.trans<|.own _ hr) (none_of e.h hr) ⟨W2.gnone hr,vs,aG,h⟩
theorem gc{R:Rp α}{ma:Res (List α)}(ha:EV Er ta σ W (pk R) ma):EVo Er (dX (fun xs H Q=>∃p ys,xs=[.ref p]/\(SqL K H p ys\/SqT K H p ys)/\∀l,H l=none->Q (.ref l) (cU H l<|.lst ys))<|ak ta aS) σ W R ma:=fun W1 e1 Q k=>
 ha W1 e1 _ (k.imp fun a ka x W2 e2 hx=>by
  obtain⟨p,vs,rfl,h1,h2⟩:=hx;exact⟨p,vs,rfl,.inl (DB h1),fun l hl=>lM h2 e2 ka l hl⟩)
theorem LR.ints{H:Hp}{ns:List Int}{vs:List V}(h:LR isI H ns vs):vs=ns.map ET:=by
 refine DR fun i=>?_;rw[Bz];cases e:ns[i]? with
 |none=>rw[Cr]at e;rw[Cr.mpr (by rw[h.1];exact e)];rfl
 |some m=>obtain⟨v,a,b⟩:=h.get e;rw[a];cases b;rfl
theorem LR.bools{H:Hp}{ns:List Bool}{vs:List V}(h:LR isB H ns vs):vs=ns.map Lq:=by
 refine DR fun i=>?_;rw[Bz];cases e:ns[i]? with
 |none=>rw[Cr]at e;rw[Cr.mpr (by rw[h.1];exact e)];rfl
 |some m=>obtain⟨v,a,b⟩:=h.get e;rw[a];cases b;rfl
theorem oh{ma:Res (List Bool)}(ha:EV Er ta σ W (pk isB) ma):EV Er (dX (fun xs H Q=>∃(p:Addr)(bs:List Bool),xs=[.ref p]/\SqL K H p (bs.map Lq)/\Q (.bl<|bs.all id) H)<|ak ta aS) σ W (sh isB) (ma.bind fun a=>.ok<|a.all id):=fun W1 e1 Q k=>
 ha W1 e1 _ ((Bj k).imp fun a ka x W2 e2 hx=>by
  obtain⟨p,vs,rfl,h1,h2⟩:=hx;exact⟨p,a,rfl,DB (by rw[h1,h2.bools]),ka _ W2 e2 rfl⟩)
theorem pf{ma mb:Res Int}(ha:EV Er ta σ W (sh isI) ma)(hb:EV Er tb σ W (sh isI) mb):EV Er (dX (fun xs H Q=>∃i j,xs=[.int i,.int j]/\Q (.int (if j>i then j else i)) H)<|ak ta<|ak tb aS) σ W (sh isI) (ma.bind fun a=>mb.bind fun b=>.ok (if b>a then b else a)):=fun W1 e1 Q k=>
 ha W1 e1 _ ((Bj k).imp fun a ka x W2 e2 hx=>hb W2 (e1.trans e2) _ ((Bj ka).imp fun b kb y W3 e3 hy=>by cases hx;cases hy;exact⟨a,b,rfl,kb _ W3 (e2.trans e3) rfl⟩))
theorem sP{f:α->V}{g:β->Key}[DecidableEq β](hg:∀a b,g a=g b->a=b)(kvs:List (β×α))(k:β):fU (kvs.map fun p=>(g p.1,f p.2)) (g k)=(look kvs k).map f:=by
 induction kvs with
 |nil=>rfl
 |cons p r ih=>
  unfold look at ih ⊢;rw[CO];by_cases z:p.1=k;·rw[fX (by rw[z]),List.find?_cons_of_pos (by simpa using z)];rfl
  ·rw[fY<|fun e=>z<|hg _ _ e,ih,List.find?_cons_of_neg (by simpa using z)]
theorem ph{R:Rp α}{Rk:Rp β}[DecidableEq β]{d:Addr}{kv:List (Key×V)}{kvs:List (β×α)}{f:α->V}{g:β->Key}(hg:∀a b,g a=g b->a=b)(hf:∀H a,R H a<|f a)(hk:∀H b v,Rk H b v->v=kV (g b))(D:DictK K w d kv)(e:kv=kvs.map fun p=>(g p.1,f p.2)){m:Res β}(h:EV Er t σ W (sh Rk) m):
  EV Er (aP K w (tC<|.ref d) t) σ W (sh R) (m.bind fun k=>getD kvs k):=fun W1 e1 Q k=>
 h W1 e1 _ ((Bj k).imp fun b kb v W2 e2 hv=>by
  obtain⟨a,h1,h2⟩:=dv kb;refine⟨d,kv,g b,f a,rfl,D,hk _ _ _ hv,?_,h2 _ W2 e2 (hf _ _)⟩;rw[e,sP hg,h1];rfl)
theorem Ao:∀a b:Tx,(Ei (sOf a):Key)=Ei (sOf b)->a=b:=fun a b e=>oS<|KL e
theorem Ap:∀a b:Int,(Eh a:Key)=Eh b->a=b:=fun a b e=>KJ e
theorem qL{d:Addr}{kv:List (Key×V)}{kvs:List (Tx×Int)}(D:DictK K w d kv)(e:kv=kvs.map fun p=>(Ei<|sOf p.1,ET p.2)){m:Res Tx}(h:EV Er t σ W (sh isS) m):EV Er (aP K w (tC<|.ref d) t) σ W (sh isI) (m.bind fun k=>getD kvs k):=ph (R:=isI) (f:=ET) (g:=fun a=>Ei<|sOf a) Ao (fun _ _=>rfl) (fun _ _ _ h=>h) D e h
theorem qM{d:Addr}{kv:List (Key×V)}{kvs:List (Int×Tx)}(D:DictK K w d kv)(e:kv=kvs.map fun p=>(Eh p.1,G5<|sOf p.2)){m:Res Int}(h:EV Er t σ W (sh isI) m):EV Er (aP K w (tC<|.ref d) t) σ W (sh isS) (m.bind fun k=>getD kvs k):=ph (R:=isS) (f:=fun a=>G5<|sOf a) (g:=fun a=>Eh a) Ap (fun _ _=>rfl) (fun _ _ _ h=>h) D e h
theorem jA{ma:Res Int}{mb:Res (List Int)}(ha:EV Er ta σ W (sh isI) ma)(hb:EV Er tb σ W (pk isI) mb):EV Er (cX (fN K true) ta tb) σ W (sh isB) (ma.bind fun a=>mb.bind fun b=>.ok<|!b.contains a):=
 oY ha hb fun W a b x y Q hx hy k=>by
  cases hx;obtain⟨p,vs,rfl,h1,h2⟩:=hy;refine⟨p,vs,rfl,.inl<|DB h1,rfl,by rw[h2.ints];simp[L2.flatV],?_⟩;have e:zD (.int a) vs=b.contains a:=by
   rw[h2.ints];unfold zD;rw[List.any_map,CH];simp[L2.eqV]
   try exact⟨fun⟨x,h,e⟩=>by subst e;exact h,fun h=>⟨a,h,rfl⟩⟩
  rw[if_pos rfl,e];exact k _ W (.refl _) rfl
theorem sQ{R:Rp α}[Mono R]{ma:Res (List α)}(ha:EV Er ta σ W (pk R) ma):EV Er (dX (fun xs H Q=>∃p ys,xs=[.ref p]/\((SqL K H p ys/\∀l,H l=none->Q (.ref l) (cU H l<|.tup ys))\/(SqT K H p ys/\Q (.ref p) H)))<|ak ta aS) σ W (sh<|isT3 K R R R) (ma.bind fun a=>xE a):=fun W1 e1 Q k=>
 ha W1 e1 _ ((Bj k).imp fun a ka x W2 e2 hx=>by
  obtain⟨p,vs,rfl,h1,h2⟩:=hx
  match a,ka,h2 with
  | [a,b,c],ka,h2=>
   match vs,h2.1,h2,h1 with
   | [x,y,z],_,h2,h1=>
    refine⟨p,_,rfl,.inl ⟨DB h1,fun l hl=>ka (.ref l) (W2.new l<|.tup [x,y,z]) (e2.trans<|.new _ hl) ⟨l,x,y,z,rfl,JU aG,?_,?_,?_⟩⟩⟩;·exact Bi (F4 _ hl).g (h2.2 0 x a rfl rfl)
    ·exact Bi (F4 _ hl).g (h2.2 1 y b rfl rfl)
    ·exact Bi (F4 _ hl).g (h2.2 2 z c rfl rfl))
def EqK(K:Bo)(H:Hp):Nat->V->V->Prop
  |0,v,u=>v=u/\flat v=true
  |n+1,v,u=>(v=u/\flat v=true)\/ ∃p q xs ys,v= .ref p/\u= .ref q/\((H p=some (.lst xs)/\H q=some (.lst ys))\/(SqT K H p xs/\SqT K H q ys))/\xs.length=ys.length/\
      ∀(i:Nat)(x y:V),xs[i]? =some x->ys[i]? =some y->EqK K H n x y
theorem EqK.same{H H':Hp}(e:Same H H'):∀{n:Nat}{v u:V},EqK K H n v u->EqK K H' n v u
 |0,_,_,h=>h
 |n+1,_,_,h=>by
  rcases h with h|⟨p,q,xs,ys,h1,h2,h3,h4,h5⟩
  ·exact .inl h
  ·refine .inr ⟨p,q,xs,ys,h1,h2,?_,h4,fun i x y e1 e2=>EqK.same e<|h5 i x y e1 e2⟩;rcases h3 with⟨a,b⟩|⟨a,b⟩
   ·exact .inl ⟨e _ _ a,e _ _ b⟩
   ·exact .inr ⟨DG e a,DG e b⟩
theorem EqK.flat{H:Hp}{n:Nat}{v:V}(h:L2.flat v=true):EqK K H n v v:=by cases n with|zero=>exact⟨rfl,h⟩|succ n=>exact .inl ⟨rfl,h⟩
class EqR(K:Bo){α:Type}(R:Rp α)(n:outParam Nat):Prop where
 eq:∀H a v u m,n<=m->R H a v->R H a u->EqK K H m v u
instance zkeep18:EqR K isI 0:=⟨fun H a v u m _ h1 h2=>by cases h1;cases h2;exact .flat rfl⟩
instance zkeep19:EqR K isS 0:=⟨fun H a v u m _ h1 h2=>by cases h1;cases h2;exact .flat rfl⟩
instance zkeep20:EqR K isB 0:=⟨fun H a v u m _ h1 h2=>by cases h1;cases h2;exact .flat rfl⟩
instance zkeep23{R:Rp α}{n:Nat}[EqR K R n]:EqR K (isL R) (n+1):=⟨fun H a v u m hm⟨p,vs,h1,h2,h3⟩⟨q,us,g1,g2,g3⟩=>by
 cases m with
 |zero=>omega
 |succ m=>
  refine .inr ⟨p,q,vs,us,h1,g1,.inl ⟨h2,g2⟩,by rw[h3.1,g3.1],fun i x y e1 e2=>?_⟩;obtain⟨b,hb,rb⟩:=h3.got e1;exact EqR.eq H b x y m (by omega) rb (g3.2 i y b e2 hb)⟩
instance zkeep24{R1:Rp α}{R2:Rp β}{n k:Nat}[EqR K R1 n][EqR K R2 k]:EqR K (isT2 K R1 R2) (max n k+1):=⟨fun H a v u m hm⟨p,x,y,h0,h,h1,h2⟩⟨q,x',y',g0,g,g1,g2⟩=>by
 cases m with
 |zero=>omega
 |succ m=>
  refine .inr ⟨p,q,_,_,h0,g0,.inr ⟨h,g⟩,rfl,fun i z z' e1 e2=>?_⟩
  match i,e1,e2 with
  |0,e1,e2=>cases e1;cases e2;exact EqR.eq H _ _ _ m (by omega) h1 g1
  |1,e1,e2=>cases e1;cases e2;exact EqR.eq H _ _ _ m (by omega) h2 g2⟩
instance zkeep25{R1:Rp α}{R2:Rp β}{R3:Rp γ}{n k l:Nat}[EqR K R1 n][EqR K R2 k][EqR K R3 l]:EqR K (isT3 K R1 R2 R3) (max n (max k l)+1):=⟨fun H a v u m hm⟨p,x,y,z,h0,h,h1,h2,h3⟩⟨q,x',y',z',g0,g,g1,g2,g3⟩=>by
 cases m with
 |zero=>omega
 |succ m=>
  refine .inr ⟨p,q,_,_,h0,g0,.inr ⟨h,g⟩,rfl,fun i w w' e1 e2=>?_⟩
  match i,e1,e2 with
  |0,e1,e2=>cases e1;cases e2;exact EqR.eq H _ _ _ m (by omega) h1 g1
  |1,e1,e2=>cases e1;cases e2;exact EqR.eq H _ _ _ m (by omega) h2 g2
  |2,e1,e2=>cases e1;cases e2;exact EqR.eq H _ _ _ m (by omega) h3 g3⟩
end
end Wb
namespace L2
open PySem PySem.Spec PyProof.Rows
section
variable{X:Cx}{K:Bo}{w:C2}{o e:Expr}{to:TE}{t:TA}{apos cpos:Pos}
def yT(K:Bo):V->List V->Hp->VK->Prop:=fun x xs H Q=>∃(p:Addr)(ys:List (List Nat)),x=.str (sOf [])/\xs=[.ref p]/\SqL K H p (ys.map fun y=>G5<|sOf y)/\ys.flatten.length<=100000/\Q (.str<|sOf ys.flatten) H
def yV:V->List V->Hp->VK->Prop:=fun x xs H Q=>∃a b,x=.str a/\xs=[.str b]/\0<=Gw a b/\Q (.int<|Gw a b) H
abbrev Aq(X:Cx)(cpos:Pos)(e:Expr):Prop:=((backTo cpos<|starEach [e] X.env).all (fun x=> !x.1)&&(backToKw cpos<|keywordEach [] X.env).all (fun x=>x.1.isSome)&&decide ([e].length+([]:List IP).length+(if([]:List IP).isEmpty then 0 else 1)<30))=true
theorem jB(h:X.K=K):dt X (.type "tuple") (fun xs H Q=>∃p ys,xs=[.ref p]/\((SqL K H p ys/\∀l,H l=none->Q (.ref l) (cU H l<|.tup ys))\/(SqT K H p ys/\Q (.ref p) H))):=h▸k8
theorem jC(h:X.K=K)(ho:PE X o to)(ha:PA X [e] t)(hbase:attributeBase o "join" X.env (eval o X.env)=eval o X.env:=by rfl)(hfew:Aq X cpos e:=by rfl)(hline:(apos.endLine==cpos.line)=true:=by rfl)(hs:starEach [e] X.env=(false,eval e X.env)::starEach [] X.env:=by rfl)(hplain:(backTo cpos<|starEach [] X.env).any (·.1)=false:=by rfl):
  PE X (.Call (.Attribute o "join" apos) [e] [] cpos) (eO K "str" (yT K) to t):=gS (K:=K) h Hk PySem.F.slot_str_join PySem.F.type_str_join (sv (K:=K) h) ho ha hbase hfew hline hs hplain
theorem ft(h:X.K=K)(hc:X.calm=true)(ho:PE X o to)(ha:PA X [e] t)(hbase:attributeBase o "index" X.env (eval o X.env)=eval o X.env:=by rfl)(hfew:Aq X cpos e:=by rfl)(hline:(apos.endLine==cpos.line)=true:=by rfl)(hs:starEach [e] X.env=(false,eval e X.env)::starEach [] X.env:=by rfl)(hplain:(backTo cpos<|starEach [] X.env).any (·.1)=false:=by rfl):
  PE X (.Call (.Attribute o "index" apos) [e] [] cpos) (eO K "str" yV to t):=gS (K:=K) h Hk PySem.F.slot_str_index PySem.F.type_str_index (sf hc) ho ha hbase hfew hline hs hplain
theorem cS(h:X.K=K)(ho:PE X o to)(ha:PA X [e] t)(hbase:attributeBase o "append" X.env (eval o X.env)=eval o X.env:=by rfl)(hfew:Aq X cpos e:=by rfl)(hline:(apos.endLine==cpos.line)=true:=by rfl)(hs:starEach [e] X.env=(false,eval e X.env)::starEach [] X.env:=by rfl)(hplain:(backTo cpos<|starEach [] X.env).any (·.1)=false:=by rfl):
  PE X (.Call (.Attribute o "append" apos) [e] [] cpos) (eO K "list" aI to t):=gS (K:=K) h DS HB PySem.F.type_list_append qo ho ha hbase hfew hline hs hplain
end
end L2
namespace Wb
open PySem L2 Mi
variable{Er:Nat->Prop}
section
variable{α β γ δ:Type}{t t1 t2 t3 ta tb tc:TE}{σ:St}{W W0 W':Wd}{K:Bo}{w:C2}
theorem sR{xs:List α}{ys:List β}{zs:List γ}{i:Nat}{p:α×β×γ}(h:(xs.zip<|ys.zip zs)[i]? =some p):xs[i]? =some p.1/\ys[i]? =some p.2.1/\zs[i]? =some p.2.2:=by
 rw[Df]at h;obtain⟨h1,h2⟩:=h;rw[Df]at h2;exact⟨h1,h2.1,h2.2⟩
theorem vt{R1:Rp α}{R2:Rp β}{R3:Rp γ}[Mono R1][Mono R2][Mono R3]{m1:Res (List α)}{m2:Res (List β)}{m3:Res (List γ)}(h1:SV Er t1 σ W K R1 m1)(h2:SV Er t2 σ W K R2 m2)(h3:SV Er t3 σ W K R3 m3):IV Er (wR K<|ak t1<|ak t2<|ak t3 aS) σ W (isT3 K R1 R2 R3) (m1.bind fun xs=>m2.bind fun ys=>m3.bind fun zs=>.ok<|xs.zip<|ys.zip zs):=fun W1 e1 P k=>
 h1 W1 e1 _ ((Bj k).imp fun xs kx v W2 e2 hv=>h2 W2 (e1.trans e2) _ ((Bj kx).imp fun ys ky u W3 e3 hu=>h3 W3 ((e1.trans e2).trans e3) _ ((Bj ky).imp fun zs kz r W4 e4 hr=>by
  obtain⟨c1,vs,rfl,a1,b1⟩:=Lr hv (e3.trans e4).g;obtain⟨c2,us,rfl,a2,b2⟩:=Lr hu e4.g;obtain⟨c3,rs,rfl,a3,b3⟩:=hr;refine⟨c1,c2,c3,vs,us,rs,rfl,a1 W4<|.refl _,a2 W4<|.refl _,a3 W4<|.refl _,kz _ W4 ((e2.trans e3).trans e4) fun W5 e5=>⟨fun i ab hab=>?_,?_⟩⟩
  ·obtain⟨q1,q2,q3⟩:=sR hab;obtain⟨x,hx,rx⟩:=b1.get q1;obtain⟨y,hy,ry⟩:=b2.get q2;obtain⟨z,hz,rz⟩:=b3.get q3;refine⟨⟨vs,us,rs,x,y,z,a1 W5 e5,a2 W5 e5,a3 W5 e5,hx,hy,hz⟩,fun o H'⟨p,x',y',z',hp,z0,z1,z2,z3,z4⟩=>⟨W5.new p<|.tup [x',y',z'],by rw[z4];rfl,.new _ hp,p,x',y',z',z0,JU aG,?_,?_,?_⟩⟩
   ·have:=z1 vs<|a1 W5 e5;rw[hx]at this;cases this;exact Bi (e5.trans (F4 _ hp).g) rx
   ·have:=z2 us<|a2 W5 e5;rw[hy]at this;cases this;exact Bi (e5.trans (F4 _ hp).g) ry
   ·have:=z3 rs<|a3 W5 e5;rw[hz]at this;cases this;exact Bi (e5.trans (F4 _ hp).g) rz
  ·refine⟨vs,us,rs,a1 W5 e5,a2 W5 e5,a3 W5 e5,?_⟩;rw[E8,E8,b1.1,b2.1,b3.1];omega)))
theorem sS{ma:Res (List Int)}(ha:EV Er ta σ W (pk isI) ma):EVo Er (dX (fun xs H Q=>∃(p:Addr)(ns:List Int),xs=[.ref p]/\SqL K H p (ns.map ET)/\ns.length<64/\∀(q:Addr)(ns':List Int),H q=none->ns'.Perm ns->ns'.Pairwise (· <= ·)->Q (.ref q) (cU H q<|.lst<|ns'.map ET))<|ak ta aS) σ W isI (ma.bind fun a=>sE a):=fun W1 e1 Q k=>
 ha W1 e1 _ ((Bj k).imp fun a ka x W2 e2 hx=>by
  obtain⟨p,vs,rfl,h1,h2⟩:=hx;obtain⟨h3,h4⟩:=bh ka;refine⟨p,a,rfl,DB (by rw[h1,h2.ints]),h3,fun q ns' hq hp hs=>?_⟩;rw[qH hp hs];exact lM (vs:=(iC a).map ET) ⟨by simp,fun i v m e1 e2=>by rw[Bz,e2]at e1;cases e1;rfl⟩ e2 h4 q hq)
theorem sT{R1:Rp α}{R2:Rp β}{d:Addr}{x y:V}{a:α}{b:β}(T:∀H,SqT K H d [x,y])(h1:∀H,R1 H a x)(h2:∀H,R2 H b y):EV Er (tC<|.ref d) σ W (sh<|isT2 K R1 R2) (.ok (a,b)):=fun W1 _ Q k=>k _ W1 (.refl _) ⟨d,x,y,rfl,T _,h1 _,h2 _⟩
theorem gI(i:Int):∀H,isI H i (.int i):=fun _=>rfl
end
end Wb
namespace Mi
theorem dw{a b:Int}(h:0<b):gG a b=.ok (a%b):=bz h
theorem mQ{a b:Int}(h1:0<b)(h2:b<1073741824):jr a b=.ok (a/b):=bz ⟨h1,h2⟩
theorem mR{a b:Int}(h1: -18446744073709551616<a)(h2:a<18446744073709551616):iW a b=.ok (a*b):=bz<|.inl ⟨h1,h2⟩
theorem jD{a b:Int}(h1: -18446744073709551616<b)(h2:b<18446744073709551616):iW a b=.ok (a*b):=bz<|.inr ⟨h1,h2⟩
theorem fK{α:Type}{xs:List α}{x:α}(h:xs.length<100000):gH xs x=.ok (xs++[x]):=bz h
theorem lN{a b:Tx}(h:a.length+b.length<=100000):kq a b=.ok (a++b):=bz h
theorem vv{α:Type}{a b:List α}(h:a.length+b.length<=100000):xC a b=.ok (a++b):=bz h
theorem vz{c:Nat}{n:Int}(h0:0<=n)(h1:n<=100000):xD [c] n=.ok (DN n.toNat c):=bz ⟨h0,h1⟩
theorem pj{a:Tx}{lo hi:Option Int}(h:a.length<=100000):qG a lo hi=.ok (cut a lo hi):=bz h
theorem mS{xs:List Tx}(h:xs.flatten.length<=100000):mM xs=.ok xs.flatten:=bz h
theorem kT{n:Nat}(h:n<=100000):fF (n:Int)=.ok ((CZ n).map fun(i:Nat)=>(i:Int)):=by
 unfold fF;rw[bz ⟨by omega,by omega⟩];simp[js]
theorem dO{α:Type}{xs:List α}{i:Int}(h0:0<=i)(h1:i<xs.length):∃x,dF xs i=.ok x/\xs[i.toNat]? =some x:=by
 obtain⟨h,e⟩:=sC h0 h1;exact⟨xs[i.toNat],by unfold dF;rw[e];rfl,by simp[h]⟩
theorem gA{x:Tx}{i:Int}(h0:0<=i)(h1:i<x.length)(h2:x.length<=100000):∃c,fb x i=.ok [c]/\x[i.toNat]? =some c:=by
 obtain⟨h,e⟩:=sC h0 h1;refine⟨x[i.toNat],?_,by simp[h]⟩;unfold fb;rw[bz h2];show(rG<|oU x i).bind _=_;rw[e];rfl
theorem xG{x:Tx}{i:Int}(h0:0<=i)(h1:i<x.length)(h2:x.length<=100000):fb x i=.ok [x[i.toNat]?.getD 0]:=by
 obtain⟨c,e,h⟩:=gA h0 h1 h2;rw[e,h];rfl
theorem pq{α:Type}{xs:List α}{i:Int}{x:α}(h0:0<=i)(h1:i<xs.length):iB xs i x=.ok (xs.set i.toNat x):=by
 unfold iB ixN;rw[if_pos h0,if_pos h1];rfl
theorem lO{α:Type}[DecidableEq α]{a b:α}(h:a=b):wU a b=.ok true:=if_pos h
theorem sU{xs:List Int}(h:xs.length<64):sE xs=.ok (iC xs):=bz h
theorem eM{α S:Type}{f:α->S->Res S}(I:List α->S->Prop)(xs:List α)(s0:S)(h0:I [] s0)(step:∀pre a post s,xs=pre++a::post->I pre s->∃s',f a s=.ok s'/\I (pre++[a]) s'):
  ∃s,cO f xs s0=.ok s/\I xs s:=by
 have key:∀(post pre:List α)(s:S),xs=pre++post->I pre s->∃s',cO f post s=.ok s'/\I xs s':=by
  intro post
  induction post with
  |nil=>intro pre s e h;rw[Dd]at e;subst e;exact⟨s,rfl,h⟩
  |cons a r ih=>
   intro pre s e h;obtain⟨s1,e1,h1⟩:=step pre a r s e h;obtain⟨s2,e2,h2⟩:=ih (pre++[a]) s1 (by rw[e];simp) h1;exact⟨s2,by unfold cO;rw[e1];exact e2,h2⟩
 exact key xs [] s0 rfl h0
theorem qN{α γ:Type}{f:α->Unit->Res (Fl γ Unit)}{g:α->Option γ}(xs:List α)(step:∀a∈xs,f a ()=.ok (match g a with|some r=>.rt r|none=>.nx ())):fo f xs ()=.ok (match xs.findSome? g with|some r=>.rt r|none=>.nx ()):=by
 induction xs with
 |nil=>rfl
 |cons a r ih=>
  unfold fo;rw[step a<|BR ..];cases h:g a with
  |some z=>simp[h,vn]
  |none=>simp only[Bl,vn,I0,h];exact ih fun b hb=>step b<|BP _ hb
theorem mT{α β:Type}{f:α->Res (Option β)}{g:α->Option β}:∀{xs:List α},(∀x∈xs,f x=.ok (g x))->i4 f xs=.ok (xs.filterMap g)
 | [],_=>rfl
 |a::r,h=>by
  unfold i4;rw[h a<|BR ..,Bl,mT fun x hx=>h x<|BP _ hx,Bl,Ej];cases g a<;>rfl
theorem sV{α β:Type}{f:α->Res (Option β)}{g:α->Option β}{xs:List α}(hl:xs.length<=100000)(h:∀x∈xs,f x=.ok (g x)):oW xs f=.ok (xs.filterMap g):=by
 unfold oW;rw[bz hl,Bl,mT h]
theorem pA(l:List Nat):((l.map fun c=>[c]):List Tx).flatten=l:=by induction l with|nil=>rfl|cons a r ih=>simp[ih]
theorem jE{α:Type}(l:List α)(k:Nat):cut l none (some (k:Int))=l.take k:=by
 unfold cut sIx;simp only[];rw[if_neg (by omega),DQ];simp[List.take_eq_take_iff]
theorem mU{α:Type}(l:List α)(k:Nat):cut l (some (k:Int)) none=l.drop k:=by
 unfold cut sIx;simp only[];rw[if_neg (by omega),DQ];by_cases h:k<=l.length;·rw[Js h,Ey (by simp)]
 ·rw[Nat.min_eq_right (by omega),Hl (by omega),Hl (by omega)];simp
theorem gB{x:Tx}{t:Tx}(h:t∈cQ x):∃c∈x,t=[c]:=by
 unfold cQ at h;obtain⟨c,hc,e⟩:=C6.mp h;exact⟨c,hc,e.symm⟩
theorem vA(a:Int):0<=eL a:=by unfold eL;split<;>omega
section
variable{α β:Type}{P:α->Prop}{Q:β->Prop}
theorem fh{m:Res α}{f:α->Res β}(h:m.Ok fun a=>(f a).Ok Q):(m.bind f).Ok Q:=Res.bind_ok h
theorem yW{b:Bool}{A B:Res α}(h1:b=true->A.Ok P)(h2:b=false->B.Ok P):(if b=true then A else B).Ok P:=by
 cases b with
 |true=>exact h1 rfl
 |false=>exact h2 rfl
theorem iO{c:Prop}[Decidable c]{A B:Res α}(h1:c->A.Ok P)(h2:¬c->B.Ok P):(if decide c=true then A else B).Ok P:=by
 by_cases h:c;·rw[decide_eq_true h];exact h1 h
 ·rw[decide_eq_false h];exact h2 h
theorem dn{a:α}(h:P a):(Bp a).Ok P:=h
theorem Ax{m:Res α}{a:α}(e:m=.ok a)(h:P a):m.Ok P:=by rw[e];exact h
end
end Mi
namespace L2
open PySem PySem.Spec PyProof.Rows Wb
end L2
namespace L2
open PySem PySem.Spec PyProof.Rows
end L2
namespace Wb
open PySem L2 Mi
variable{Er:Nat->Prop}
end Wb
namespace Mi
inductive Dat where
 |n|b (x:Bool)|i (x:Int)|s (x:Tx)|t (xs:List Dat)|l (xs:List Dat)
def fO(k:Nat)(d:Dat):Bool:=match d,k with
 | .b _,0=>true| .b _,1=>true| .i _,1=>true| .s _,2=>true| .l _,3=>true| .t _,4=>true|_,_=>false
def gJ{κ α:Type}[DecidableEq κ](kvs:List (κ×α))(k:κ)(a:α):List (κ×α):=
 if(kvs.any fun kv=>decide<|kv.1=k)=true then kvs.map (fun kv=>if kv.1=k then(kv.1,a)else kv)else kvs++[(k,a)]
end Mi
open Mi.Dat renaming i->G7,t->Jo,l->Kw
namespace PySem
open Sem (wp)
open AutoSeq1 (wpAny_loadPart')
end PySem
namespace L2
open PySem PySem.Spec PyProof.Rows
end L2
namespace L2
end L2
namespace Wb
open PySem L2 Mi
variable{Er:Nat->Prop}
inductive isU(K:Bo)(H:Hp):Dat->V->Prop where
 |n:isU K H .n .non
 |b {x:Bool}:isU K H (.b x) (.bl x)
 |i {x:Int}:isU K H (.i x) (.int x)
 |s {x:Tx}:isU K H (.s x) (.str<|sOf x)
 |t {p:Addr} {xs:List Dat} {vs:List V} (h:SqT K H p vs) (hl:vs.length=xs.length) (r:∀(j:Nat)x v,xs[j]? =some x->vs[j]? =some v->isU K H x v):isU K H (.t xs) (.ref p)
 |l {p:Addr} {xs:List Dat} {vs:List V} (h:H p=some (.lst vs)) (hl:vs.length=xs.length) (r:∀(j:Nat)x v,xs[j]? =some x->vs[j]? =some v->isU K H x v):isU K H (.l xs) (.ref p)
section
variable{α β γ δ:Type}{t t1 t2 t3 t4 ta tb tc td:TE}{σ:St}{W W0 W':Wd}{K:Bo}{w:C2}
def xH(K:Bo)(R:Rp α)(u:α->Dat):Prop:=∀H a v,R H a v->isU K H (u a) v
theorem kU:xH K isI .i:=fun _ _ _ h=>by cases h;exact .i
theorem sW{R:Rp α}{u:α->Dat}(h:xH K R u):xH K (isL R) (fun xs=>.l<|xs.map u):=fun H xs v⟨p,vs,h0,h1,h2⟩=>by
 subst h0;refine .l h1 (by rw[BS,h2.1]) fun j x v e1 e2=>?_;rw[Bz]at e1;obtain⟨a,ha,rfl⟩:=Cw.mp e1;exact h _ _ _<|h2.2 j v a e2 ha
theorem sX{R1:Rp α}{R2:Rp β}{u1:α->Dat}{u2:β->Dat}(h1:xH K R1 u1)(h2:xH K R2 u2):xH K (isT2 K R1 R2) (fun x=>.t [u1 x.1,u2 x.2]):=fun H a v⟨p,x,y,h0,h,r1,r2⟩=>by
 subst h0;refine .t h rfl fun j d v e1 e2=>?_
 match j,e1,e2 with
 |0,e1,e2=>cases e1;cases e2;exact h1 _ _ _ r1
 |1,e1,e2=>cases e1;cases e2;exact h2 _ _ _ r2
theorem oi{R:Rp α}{u:α->Dat}{m:Res α}(h:xH K R u)(e:EV Er t σ W (sh R) m):EV Er t σ W (sh<|isU K) (m.bind fun a=>.ok<|u a):=fun W1 e1 Q k=>
 e W1 e1 _ ((Bj k).imp fun a ka v W2 e2 hv=>ka v W2 e2<|h _ _ _ hv)
theorem qO{K:Bo}(a b:String)(r:Bool)(h:D6 [] (.type a) (.type b)=some r):D6 K (.type a) (.type b)=some r:=by first|exact h|(rw[<-h];rfl)
def yX:Nat->String|0=>"bool"|1=>"int"|2=>"str"|3=>"list"|_=>"tuple"
theorem jF{ma:Res Dat}{j:Nat}(hj:j<5)(ha:EV Er ta σ W (sh<|isU K) ma):EV Er (dX (fun xs H Q=>∃x T t b,xs=[x,.ty T]/\TyOf K H x t/\D6 K t (.type T)=some b/\Q (.bl b) H)<|ak ta<|ak (tC<|.ty<|yX j) aS) σ W (sh isB) (ma.bind fun a=>.ok<|fO j a):=fun W1 e1 Q k=>
  ha W1 e1 _ ((Bj k).imp fun a ka x W2 e2 hx=>by
    have hj':j=0\/j=1\/j=2\/j=3\/j=4:=by omega
    cases hx with
    | n => refine ⟨_, _, _, false, rfl, .non, ?_, ?_⟩
           ·rcases hj' with rfl|rfl|rfl|rfl|rfl<;>exact qO _ _ _ rfl
           · have:=ka (.bl<|fO j .n) W2 e2 rfl;rcases hj' with rfl|rfl|rfl|rfl|rfl<;>exact this
    | b => rename_i x
           refine⟨_,_,_,fO j<|.b x,rfl,.bl _,?_,ka _ W2 e2 rfl⟩;rcases hj' with rfl|rfl|rfl|rfl|rfl<;>exact qO _ _ _ rfl
    | i => rename_i x
           refine⟨_,_,_,fO j<|.i x,rfl,.int _,?_,ka _ W2 e2 rfl⟩;rcases hj' with rfl|rfl|rfl|rfl|rfl<;>exact qO _ _ _ rfl
    | s => rename_i x
           refine⟨_,_,_,fO j<|.s x,rfl,.str _,?_,ka _ W2 e2 rfl⟩;rcases hj' with rfl|rfl|rfl|rfl|rfl<;>exact qO _ _ _ rfl
    | @t p xs vs h hl r=>
           refine⟨_,_,_,fO j<|.t xs,rfl,.tup<|DG W2.ok h,?_,ka _ W2 e2 rfl⟩;rcases hj' with rfl|rfl|rfl|rfl|rfl<;>exact qO _ _ _ rfl
    | @l p xs vs h hl r=>
           refine⟨_,_,_,fO j (.l xs),rfl,.lst (W2.ok _ _ h),?_,ka _ W2 e2 rfl⟩;rcases hj' with rfl|rfl|rfl|rfl|rfl<;>exact qO _ _ _ rfl)
def gC(K:Bo):Nat->Sp
 |0=>fun _ _ _ _=>False
 |n+1=>fun vs H Q _=>∃v u,vs=[v,u]/\((EqK K H n v u/\∀H',Same H H'->Q (.bl true) H')\/∃x y,v=.str x/\u=.str y/\Q (.bl<|decide<|G5 x=G5 y) H)
theorem gd[DecidableEq α]{R:Rp α}[Mono R]{n N:Nat}[EqR K R n]{E:XK}{ma mb:Res α}(hn:n<N)(ha:EV Er ta σ W (sh R) ma)(hb:EV Er tb σ W (sh R) mb):EV Er (aV (gC K N) [] E<|ak ta<|ak tb aS) σ W (sh isB) (ma.bind fun a=>mb.bind fun b=>wU a b):=fun W1 e1 Q k=>
 ha W1 e1 _ ((Bj k).imp fun a ka x W2 e2 hx=>hb W2 (e1.trans e2) _ ((Bj ka).imp fun b kb y W3 e3 hy=>by
  unfold wU at kb;by_cases z:a=b
  ·rw[if_pos z]at kb;subst z;cases N with
   |zero=>omega
   |succ N=>
    refine⟨x,y,rfl,.inl ⟨EqR.eq W3.H a x y N (by omega) (Bi W3.ok<|Bi (R:=R) e3.g hx)<|Bi W3.ok hy,fun H' hs=>?_⟩⟩;exact kb (.bl true) ⟨W3.G,H',W3.ok.trans hs⟩ ⟨e2.g.trans e3.g,(e2.h.trans e3.h).trans hs,fun p hp=>(e2.trans e3).k p hp⟩ rfl
  ·rw[if_neg z]at kb;exact kb.elim))
theorem EV.go{W1:Wd}{R:Rw α}{m:Res α}{Q:VK}(e:Ext W W1)(h:EV Er t σ W R m)(k:m.OkE Er fun a=>∀v W2,Ext W1 W2->R W2 a v->Q v W2.H):t σ W1.H Q:=h W1 e Q k
end
end Wb
namespace Mi
end Mi
namespace L2
open PySem PySem.Spec PyProof.Rows
end L2
namespace L2
open PySem PySem.Spec PySem.Calls PyProof.Rows
open PySem.W (findIn findObj mroIn looks_findIn looks_find looks_mroIn class_get KitX clsIn Frag)
end L2
namespace L2
open PySem PySem.Spec PySem.Calls PyProof.Rows
end L2
namespace L2
open PySem PySem.Spec PySem.Calls PyProof.Rows Mi
end L2
namespace Wb
open PySem L2 Mi
end Wb
namespace Wb
open PySem L2 Mi
open PySem.W (findIn findObj mroIn kitOne kitCls clsIn typeIn subIn specialIn takesIn Frag)
end Wb
namespace Wb
open PySem L2 Mi
end Wb
namespace L2
open PySem PySem.Spec PyProof.Rows
end L2
namespace Wb
open PySem L2 Mi
end Wb
namespace Mi
end Mi
namespace Wb
open PySem L2 Mi
end Wb
namespace L2
open PySem PySem.Spec PyProof.Rows
end L2
namespace Wb
open PySem L2 Mi
section
variable{Er:Nat->Prop}{α β:Type}{K:Bo}{W W0:Wd}{p:Addr}{ta tb te:TE}{σ:St}{D:Ends}{i:Nat}{r:TS}{base:Heap}
theorem LR.rev{R:Rp α}{H:Hp}{as:List α}{vs:List V}(h:LR R H as vs):LR R H as.reverse vs.reverse:=⟨by simp[h.1],fun i v m q1 q2=>by
 have hi:i<vs.length:=by have:=(Bv.mp q1).1;simpa using this
 rw[HD hi]at q1;rw[HD (by rw[<-h.1];exact hi),<-h.1]at q2;exact h.2 _ v m q1 q2⟩
theorem vB{R:Rp α}[Mono R]{ma:Res (List α)}(ha:EV Er ta σ W (pk R) ma):EVo Er (sx K ta<|bw<|fB (rU fun i=>.int<|-i)<|tC<|.int 1) σ W R (ma.bind fun a=>.ok a.reverse):=fun W1 e1 Q k=>
 ha W1 e1 _ ((Bj k).imp fun a ka x W2 e2 hx=>by
  obtain⟨p,vs,rfl,h1,h2⟩:=hx;refine⟨1,rfl, -1,rfl,p,vs,rfl,rfl,DB h1,fun q hq=>ka q (W2.mut q (.lst vs.reverse) (W2.gnone hq)) (e2.trans (.own _ hq)) (none_of e2.h hq) ⟨W2.gnone hq,_,aG,LR.rev h2⟩⟩)
end
end Wb
namespace L2
open PySem PySem.Spec PySem.Calls PyProof.Rows Mi
end L2
namespace Wb
open PySem L2 Mi
end Wb
namespace L2
open PySem PySem.Spec PyProof.Rows
end L2
namespace Wb
open PySem L2 Mi
end Wb
namespace L2
open PySem PySem.Spec PyProof.Rows
end L2
namespace Wb
open PySem L2 Mi
end Wb
namespace Mi
def lP{α β:Type}(p:List β×(List β->α))(j:Int):Res (β×(β->α)):=(rG<|ixN p.1.length j).bind fun k=>(rG p.1[k]?).bind fun b=>.ok (b,fun b'=>p.2<|p.1.set k b')
def j7(i j:Int):List Int:=(CZ (j-i).toNat).map fun(n:Nat)=>i+(n:Int)
def lQ(i j:Int):Res (List Int):=eA (-(2^62)<=i/\i<2^62/\ -(2^62)<=j/\j<2^62)<|j7 i j
end Mi
namespace Wb
open PySem L2 Mi
abbrev FS:=Addr->Prop
abbrev Rf(α:Type):=Wd->FS->α->V->Prop
theorem nn_of{H:Hp}{q:Addr}{o:HO}(h:H q=some o):H q≠none:=by rw[h];exact fun z=>nomatch z
structure MuF(F:FS)(W W':Wd):Prop where
 g:Same W.G W'.G
 h:∀q,¬F q->W.H q≠none->W'.H q=W.H q
 k:∀q,W.H q≠none->W'.G q=W.G q
 n:∀q,W.H q≠none->W'.H q≠none
section
variable{α β γ:Type}{K:Bo}{W W' W0 W1 W2:Wd}{F F' F1:FS}
theorem Ext.keepH(e:Ext W W'){q:Addr}(hn:W.H q≠none):W'.H q=W.H q:=by
 obtain⟨o,ho⟩:=EN.mp hn;rw[ho];exact e.h _ _ ho
theorem Ext.muF(e:Ext W W'):MuF F W W':=⟨e.g,fun q _ hn=>e.keepH hn,e.k,fun q hn=>by rw[e.keepH hn];exact hn⟩
theorem MuF.trans(m:MuF F W W1)(m':MuF F1 W1 W2)(hF:∀q,F1 q->F q\/W.H q=none):MuF F W W2:=⟨m.g.trans m'.g,fun q hq hn=>by
 have h1:=m.h q hq hn;have:¬F1 q:=fun z=>(hF q z).elim hq hn;rw[m'.h q this (by rw[h1];exact hn),h1],fun q hn=>by rw[m'.k q (m.n q hn),m.k q hn],fun q hn=>m'.n q (m.n q hn)⟩
theorem MuF.of{p:Addr}{o:HO}(hF:F p)(hg:W.G p=none):MuF F W (W.mut p o hg):=⟨.refl _,fun q hq hn=>aH fun z=>hq<|z▸hF,fun _ _=>rfl,fun q hn=>by
 show cU W.H p o q≠none;by_cases z:q=p
 ·rw[z,aG];exact fun z=>nomatch z
 ·rw[aH z];exact hn⟩
class FrT(R:Rf α):Prop where
 fr:∀{W W':Wd}{F:FS}{a:α}{v:V},R W F a v->Same W.G W'.G->(∀q,F q->W'.H q=W.H q/\W'.G q=W.G q)->R W' F a v
 lv:∀{W:Wd}{F:FS}{a:α}{v:V},R W F a v->∀q,F q->W.G q=none/\W.H q≠none
theorem FrT.ext{R:Rf α}[FrT R]{a:α}{v:V}(t:R W F a v)(e:Ext W W'):R W' F a v:=FrT.fr t e.g fun q hq=>⟨e.keepH (FrT.lv t q hq).2,e.k q (FrT.lv t q hq).2⟩
theorem FrT.mu{R:Rf α}[FrT R]{a:α}{v:V}(t:R W F a v)(m:MuF F' W W')(dj:∀q,F q->F' q->False):R W' F a v:=FrT.fr t m.g fun q hq=>⟨m.h q (dj q hq) (FrT.lv t q hq).2,m.k q (FrT.lv t q hq).2⟩
class FzT(R:Rf α)(R':outParam (Rp α)):Prop where
 fz:∀{W W':Wd}{F:FS}{a:α}{v:V},R W F a v->Same W.G W'.G->(∀q,F q->W'.G q=W.H q)->R' W'.G a v
def fz(R:Rp α):Rf α:=fun W F a v=>(∀q,¬F q)/\R W.G a v
instance zkeep44{R:Rp α}[Mono R]:FrT (fz R):=⟨fun h s _=>⟨h.1,Bi s h.2⟩,fun h q hq=>absurd hq<|h.1 q⟩
instance zkeep45{R:Rp α}[Mono R]:FzT (fz R) R:=⟨fun h s _=>Bi s h.2⟩
structure TL(R:Rf α)(W:Wd)(Fs:Nat->FS)(xs:List α)(vs:List V):Prop where
 len:vs.length=xs.length
 el:∀i x u,xs[i]? =some x->vs[i]? =some u->R W (Fs i) x u
 rng:∀i q,Fs i q->i<xs.length
 dj:∀i j q,Fs i q->Fs j q->i=j
def oL(R:Rf α):Rf (List α):=fun W F xs v=>∃(p:Addr)(vs:List V)(Fs:Nat->FS),v=.ref p/\W.G p=none/\W.H p=some (.lst vs)/\TL R W Fs xs vs/\(∀i,¬Fs i p)/\∀q,F q↔q=p\/∃i,Fs i q
theorem TL.at2{R:Rf α}{Fs:Nat->FS}{xs:List α}{vs:List V}(t:TL R W Fs xs vs){i:Nat}{q:Addr}(h:Fs i q):∃x u,xs[i]? =some x/\vs[i]? =some u/\R W (Fs i) x u:=by
 have h1:=t.rng i q h;have h2:i<vs.length:=by rw[t.len];exact h1
 exact⟨xs[i],vs[i],by simp[h1],by simp[h2],t.el i _ _ (by simp[h1]) (by simp[h2])⟩
instance zkeep46{R:Rf α}[FrT R]:FrT (oL R):=⟨fun⟨p,vs,Fs,e,g,h,t,np,hF⟩s k=>by
 have kp:=k p<|(hF p).mpr (.inl rfl);exact⟨p,vs,Fs,e,by rw[kp.2];exact g,by rw[kp.1];exact h,⟨t.len,fun i x u a b=>FrT.fr (t.el i x u a b) s<|fun q hq=>k q<|(hF q).mpr (.inr ⟨i,hq⟩),t.rng,t.dj⟩,np,hF⟩,fun⟨p,vs,Fs,e,g,h,t,np,hF⟩q hq=>by
 rcases (hF q).mp hq with rfl|⟨i,hi⟩
 ·exact⟨g,nn_of h⟩
 ·obtain⟨x,u,_,_,r⟩:=t.at2 hi;exact FrT.lv r q hi⟩
instance zkeep47{R:Rf α}{R':Rp α}[FzT R R']:FzT (oL R) (isL R'):=⟨fun⟨p,vs,Fs,e,g,h,t,np,hF⟩s k=>⟨p,vs,e,by rw[k p<|(hF p).mpr (.inl rfl)];exact h,t.len,fun i u x a b=>FzT.fz (t.el i x u b a) s fun q hq=>k q<|(hF q).mpr (.inr ⟨i,hq⟩)⟩⟩
structure TC where
 {α:Type}
 R:Rf α
 a:α
 v:V
 i:FrT R
def tc(R:Rf α)[FrT R](a:α)(v:V):TC:=⟨R,a,v,inferInstance⟩
def noT:Rf Unit:=fun _ F _ _=>∀q,¬F q
instance zkeep48:FrT noT:=⟨fun h _ _=>h,fun h q hq=>absurd hq<|h q⟩
def AB:TC:=tc noT () .non
structure SepF(W0 W:Wd)(Fs:Nat->FS)(cs:List TC):Prop where
 el:∀(i:Nat)(c:TC),cs[i]? =some c->c.R W (Fs i) c.a c.v
 rng:∀i q,Fs i q->i<cs.length
 dj:∀i j q,Fs i q->Fs j q->i=j
 nw:∀i q,Fs i q->W0.H q=none
def Sep(W0 W:Wd)(cs:List TC):Prop:=∃Fs,SepF W0 W Fs cs
variable{cs:List TC}
theorem Sep.nil:Sep W0 W []:=⟨fun _ _=>False,fun _ _ h=>by simp at h,fun _ _ h=>h.elim,fun _ _ _ h=>h.elim,fun _ _ h=>h.elim⟩
theorem SepF.lv{Fs:Nat->FS}(s:SepF W0 W Fs cs){i:Nat}{q:Addr}(h:Fs i q):W.G q=none/\W.H q≠none:=by
 have h1:=s.rng i q h;have:=s.el i cs[i] (by simp[h1]);exact @FrT.lv _ _ cs[i].i _ _ _ _ this q h
theorem Sep.ext(s:Sep W0 W cs)(e:Ext W W'):Sep W0 W' cs:=by
 obtain⟨Fs,s⟩:=s;exact⟨Fs,fun i c h=> @FrT.ext _ _ _ _ _ c.i _ _ (s.el i c h) e,s.rng,s.dj,s.nw⟩
theorem SepF.put{Fs:Nat->FS}{R:Rf β}[FrT R]{b:β}{u:V}{i:Nat}(s:SepF W0 W Fs cs)(E:Ext W0 W)(m:MuF (Fs i) W W')(hF:∀q,F q->Fs i q\/W.H q=none)(t:R W' F b u)(hi:i<cs.length):Sep W0 W' (cs.set i<|tc R b u):=by
 refine⟨fun j=>if j=i then F else Fs j,fun j c h=>?_,fun j q h=>?_,fun j k q h1 h2=>?_,fun j q h=>?_⟩
 ·rw[Fy]at h;by_cases z:i=j
  ·subst z;rw[if_pos rfl,if_pos hi]at h;cases h;simp only[if_true];exact t
  ·rw[if_neg z]at h;simp only[if_neg (EF z)];exact @FrT.mu _ _ _ _ _ _ c.i _ _ (s.el j c h) m fun q a b=>z (s.dj j i q a b).symm
 ·rw[DX];by_cases z:j=i;·rw[z];exact hi
  ·simp only[if_neg z]at h;exact s.rng j q h
 ·have key:∀j q,(if j=i then F else Fs j) q->(j=i/\F q)\/(j≠i/\Fs j q):=fun j q h=>by
   by_cases z:j=i;·exact .inl ⟨z,by simpa [if_pos z] using h⟩
   ·exact .inr ⟨z,by simpa [if_neg z] using h⟩
  rcases key j q h1 with⟨z1,a⟩|⟨z1,a⟩<;>rcases key k q h2 with⟨z2,b⟩|⟨z2,b⟩
  ·rw[z1,z2]
  ·exact((hF q a).elim (fun y=>z2<|s.dj k i q b y) fun y=>absurd y (s.lv b).2).elim
  ·exact((hF q b).elim (fun y=>z1<|s.dj j i q a y) fun y=>absurd y (s.lv a).2).elim
  ·exact s.dj j k q a b
 ·by_cases z:j=i
  ·simp only[if_pos z]at h;exact(hF q h).elim (s.nw i q) fun y=>none_of E.h y
  ·simp only[if_neg z]at h;exact s.nw j q h
theorem Sep.add{R:Rf β}[FrT R]{b:β}{u:V}(s:Sep W0 W cs)(E:Ext W0 W)(e:Ext W W')(hF:∀q,F q->W.H q=none)(t:R W' F b u):Sep W0 W' (cs++[tc R b u]):=by
 obtain⟨Fs,s⟩:=s;have hn:∀j q,j=cs.length->¬Fs j q:=fun j q z h=>by have:=s.rng j q h;omega
 have key:∀j q,(if j=cs.length then F else Fs j) q->(j=cs.length/\F q)\/(j<cs.length/\Fs j q):=fun j q h=>by
  by_cases z:j=cs.length;·exact .inl ⟨z,by simpa [if_pos z] using h⟩
  ·have h':Fs j q:=by simpa [if_neg z] using h
   exact .inr ⟨s.rng j q h',h'⟩
 refine⟨fun j=>if j=cs.length then F else Fs j,fun j c h=>?_,fun j q h=>?_,fun j k q h1 h2=>?_,fun j q h=>?_⟩
 ·by_cases z:j< cs.length
  ·rw[BL z]at h;simp only[if_neg (BO z)];exact @FrT.ext _ _ _ _ _ c.i _ _ (s.el j c h) e
  ·rw[BI (by omega)]at h;have:j-cs.length=0:=by
    refine E5 fun y=>?_;rw[Cr.mpr (by simp;omega)]at h;cases h
   rw[this]at h;cases h;have z2:j=cs.length:=by omega
   simp only[if_pos z2];exact t
 ·rw[CP,FG];rcases key j q h with⟨a,_⟩|⟨a,_⟩<;>omega
 ·rcases key j q h1 with⟨z1,a⟩ | ⟨z1,a⟩ <;> rcases key k q h2 with⟨z2,b⟩ | ⟨z2,b⟩
  ·omega
  ·exact absurd (hF q a) (s.lv b).2
  ·exact absurd (hF q b) (s.lv a).2
  ·exact s.dj j k q a b
 ·rcases key j q h with⟨_,a⟩ | ⟨_,a⟩
  ·exact none_of E.h<|hF q a
  ·exact s.nw j q a
theorem SepF.del{Fs:Nat->FS}(s:SepF W0 W Fs cs)(i:Nat):Sep W0 W (cs.eraseIdx i):=by
 by_cases hi:i<cs.length
 ·have key:∀j q,(if j<i then Fs j else Fs (j+1)) q->(j<i/\Fs j q)\/(i<=j/\Fs (j+1) q):=fun j q h=>by
   by_cases z:j<i;·exact .inl ⟨z,by simpa [if_pos z] using h⟩
   ·exact .inr ⟨by omega,by simpa [if_neg z] using h⟩
  refine⟨fun j=>if j<i then Fs j else Fs (j+1),fun j c h=>?_,fun j q h=>?_,fun j k q h1 h2=>?_,fun j q h=>?_⟩
  ·by_cases z:j< i
   ·rw[Ga z]at h;simp only[if_pos z];exact s.el j c h
   ·rw[Gb (by omega)]at h;simp only[if_neg z];exact s.el (j+1) c h
  ·rw[Dr,if_pos hi];rcases key j q h with⟨a,b⟩|⟨a,b⟩
   ·omega
   ·have:=s.rng _ q b;omega
  ·rcases key j q h1 with⟨z1,a⟩|⟨z1,a⟩<;>rcases key k q h2 with⟨z2,b⟩|⟨z2,b⟩<;>have:=s.dj _ _ q a b<;>omega
  ·rcases key j q h with⟨_,a⟩|⟨_,a⟩<;>exact s.nw _ q a
 ·rw[List.eraseIdx_of_length_le (by omega)];exact⟨Fs,s⟩
open Classical in
theorem Sep.frz{R:Rf β}[FrT R]{R':Rp β}[FzT R R']{b:β}{u:V}{i:Nat}(s:Sep W0 W cs)(E:Ext W0 W)(hc:cs[i]? =some (tc R b u)):∃W',W'.H=W.H/\Ext W0 W'/\Same W.G W'.G/\Sep W0 W' (cs.eraseIdx i)/\R' W'.G b u:=by
 obtain⟨Fs,s⟩:=s;have hs:Same W.G fun q=>if Fs i q then W.H q else W.G q:=fun a o h=>by
  show(if Fs i a then _ else _)=_;rw[if_neg fun z=>by have:=(s.lv z).1;rw[h]at this;cases this];exact h
 have ho:Same (fun q=>if Fs i q then W.H q else W.G q) W.H:=fun a o h=>by
  have h:(if Fs i a then W.H a else W.G a)=some o:=h;split at h;·exact h
  ·exact W.ok _ _ h
 let W':Wd:=⟨_,W.H,ho⟩
 refine⟨W',rfl,⟨E.g.trans hs,E.h,fun q hq=>?_⟩,hs,?_,FzT.fz (R:=R) (s.el i _ hc) hs fun q hq=>if_pos hq⟩
 ·show(if Fs i q then _ else _)=_;rw[if_neg fun z=>hq<|s.nw i q z];exact E.k q hq
 ·have s2:SepF W0 W' (fun k=>if k=i then(fun _=>False)else Fs k) (cs.set i AB):=by
   have key:∀k q,(if k=i then(fun _=>False)else Fs k) q->k≠i/\Fs k q:=fun k q h=>by
    by_cases z:k=i;·simp[if_pos z]at h
    ·exact⟨z,by simpa [if_neg z] using h⟩
   refine⟨fun k c h=>?_,fun k q h=>?_,fun k l q h1 h2=>s.dj k l q (key k q h1).2 (key l q h2).2,fun k q h=>s.nw k q (key k q h).2⟩
   ·rw[Fy]at h;by_cases z:i=k
    ·subst z;rw[if_pos rfl]at h;split at h
     ·cases h;simp only[if_true];exact fun _ z=>z
     ·cases h
    ·rw[if_neg z]at h;simp only[if_neg (EF z)];refine @FrT.fr _ _ c.i _ _ _ _ _ (s.el k c h) hs fun q hq=>⟨rfl,?_⟩
     show(if Fs i q then _ else _)=_;rw[if_neg fun y=>z<|s.dj i k q y hq]
   ·rw[DX];exact s.rng k q (key k q h).2
  have:=s2.del i;rw[List.eraseIdx_set_eq]at this;exact this
end
section
variable{Er:Nat->Prop}{α β γ δ ε ζ:Type}{K:Bo}{W W' W0 W1 W2:Wd}{F F' F1:FS}{cs:List TC}{σ:St}{t ta tb te ti tp t1 t2 t3 t4 t5:TE}{D:Ends}{i k:Nat}{r:TS}
def vw(R:Rf α):Rw α:=fun W a v=>∃F,R W F a v
instance zkeep49{R:Rf α}[FrT R]:MonoW (vw R):=⟨fun e⟨F,t⟩=>⟨F,FrT.ext t e⟩⟩
theorem Sep.vw{R:Rf α}[FrT R]{a:α}{v:V}(s:Sep W0 W cs)(hc:cs[k]? =some (tc R a v)):vw R W a v:=by
 obtain⟨Fs,s⟩:=s;exact⟨Fs k,s.el k _ hc⟩
theorem dz{R:Rf α}[FrT R]{a:α}{v:V}(s:Sep W0 W cs)(hc:cs[k]? =some (tc R a v):=by rfl)(h:σ[i]? =some (some v):=by rfl):EV Er (bF i) σ W (vw R) (.ok a):=gU (s.vw hc) h
theorem xI{xs:List α}{j:Int}{a:α}(h:oU xs j=some a):∃l,Mi.ixN xs.length j=some l/\xs[l]? =some a:=by
 unfold oU at h;cases z:Mi.ixN xs.length j with
 |none=>rw[z]at h;cases h
 |some l=>rw[z]at h;exact⟨l,rfl,h⟩
theorem TL.ix{R:Rf α}{Fs:Nat->FS}{xs:List α}{vs:List V}(t:TL R W Fs xs vs){j:Int}{l:Nat}{a:α}(h1:Mi.ixN xs.length j=some l)(h2:xs[l]? =some a):∃x,vs[l]? =some x/\L2.atI vs j=some x/\R W (Fs l) a x:=by
 have hl:l<vs.length:=by rw[t.len];exact(Bv.mp h2).1
 refine⟨vs[l],by simp[hl],?_,t.el l a _ h2 (by simp[hl])⟩;show(L2.ixN vs.length j).bind _=_;rw[t.len,show L2.ixN xs.length j=Mi.ixN xs.length j from rfl,h1];simp[hl]
theorem i8{R:Rf α}[FrT R]{ma:Res (List α)}{mb:Res Int}(ha:EV Er ta σ W (vw<|oL R) ma)(hb:EV Er tb σ W (sh isI) mb):EV Er (cX (cf K) ta tb) σ W (vw R) (ma.bind fun a=>mb.bind fun b=>dF a b):=
 oY ha hb fun W a b x y Q hx hy k=>by
  cases hy;obtain⟨F,p,vs,Fs,rfl,g,h,t,np,hF⟩:=hx;obtain⟨c,h4,h5⟩:=dv k;obtain⟨l,h6,h7⟩:=xI h4;obtain⟨z,h8,h9,h10⟩:=t.ix h6 h7;exact⟨p,_,b,z,rfl,rfl,DB h,h9,h5 _ W (.refl _) ⟨_,h10⟩⟩
theorem TL.lr{R:Rp α}{Fs:Nat->FS}{xs:List α}{vs:List V}(t:TL (fz R) W Fs xs vs):LR R W.G xs vs:=⟨t.len,fun i v m a b=>(t.el i m v b a).2⟩
theorem TL.of{R:Rp α}{xs:List α}{vs:List V}(t:LR R W.G xs vs):TL (fz R) W (fun _ _=>False) xs vs:=⟨t.1,fun i x u a b=>⟨fun _ z=>z,t.2 i u x b a⟩,fun _ _ z=>z.elim,fun _ _ _ z=>z.elim⟩
theorem i9{R:Rp α}{m:Res (List α)}(h:EV Er t σ W (vw<|oL<|fz R) m):EV Er t σ W (pk R) m:=h.imp fun _ _ _⟨_,p,vs,Fs,e,g,h,t,_⟩=>⟨p,vs,e,h,t.lr⟩
theorem gD{R:Rf α}{ma:Res (List α)}(ha:EV Er ta σ W (vw<|oL R) ma):EV Er (dX (fun xs H Q=>∃x n,xs=[x]/\nR K x H n/\Q (.int n) H)<|ak ta aS) σ W (sh isI) (ma.bind fun a=>.ok (a.length:Int)):=fun W1 e1 Q k=>
 ha W1 e1 _ ((Bj k).imp fun a ka x W2 e2 hx=>by
  obtain⟨F,p,vs,Fs,rfl,g,h,t,np,hF⟩:=hx;exact⟨_,a.length,rfl,.inl ⟨vs,DB h,t.len.symm⟩,ka _ W2 e2 rfl⟩)
def EVt(Er:Nat->Prop)(t:TE)(σ:St)(W:Wd)(R:Rf α)(m:Res α):Prop:=∀W1,Ext W W1->∀Q:VK,m.OkE Er (fun a=>∀v W2 F,Ext W1 W2->(∀q,F q->W1.H q=none)->R W2 F a v->Q v W2.H)->t σ W1.H Q
theorem oL.ofOw{R:Rp α}{p:Addr}{xs:List α}(o:Ow R W p xs):oL (fz R) W (· =p) xs (.ref p):=by
 obtain⟨vs,h1,h2⟩:=o.h;exact⟨p,vs,fun _ _=>False,rfl,o.g,h1,.of h2,fun _ z=>z,fun q=>⟨.inl,fun z=>z.elim id fun⟨_,z⟩=>z.elim⟩⟩
theorem EVo.tr{R:Rp α}{m:Res (List α)}(h:EVo Er t σ W R m):EVt Er t σ W (oL<|fz R) m:=fun W1 e1 Q k=>h W1 e1 Q (k.imp fun xs kx p W2 e2 hp o=>kx _ W2 _ e2 (fun q hq=>by rw[hq];exact hp)<|oL.ofOw o)
def Ar(R:Rf β):Rt β:=fun W r Q=>∀u W' F,Ext W W'->(∀q,F q->W.H q=none)->R W' F r u->Q u W'.H
section
variable{R1:Rp α}{R2:Rp γ}{R3:Rp δ}{R4:Rp ε}{R5:Rp ζ}[Mono R1][Mono R2][Mono R3][Mono R4][Mono R5]{m1:Res α}{m2:Res γ}{m3:Res δ}{m4:Res ε}{m5:Res ζ}{E:XK}
theorem qP{R:Rf β}{m:α->γ->Res β}(h1:EV Er t1 σ W (sh R1) m1)(h2:EV Er t2 σ W (sh R2) m2):EVt Er (aV (bJ R1 R2 (Ar R) m) [] E<|ak t1<|ak t2 aS) σ W R (m1.bind fun a=>m2.bind fun b=>m a b):=fun W1 e1 Q k=>
 h1 W1 e1 _ ((Bj k).imp fun a ka v W2 e2 hv=>h2 W2 (e1.trans e2) _<|(Bj ka).imp fun b kb u W3 e3 hu=>⟨W3,a,b,v,u,rfl,rfl,C0 (R:=sh R1) e3 hv,hu,Er,kb.imp fun r kr u W' F e hF o=>kr u W' F ((e2.trans e3).trans e) (fun q hq=>none_of (e2.trans e3).h (hF q hq)) o⟩)
end
def Lens(W0:Wd)(C:α->List TC)(R:Rf β):Rw (β×(β->α)):=fun W bp u=>∃F,R W F bp.1 u/\(∀q,F q->W0.H q=none)/\∀W' F' b',MuF F W W'->(∀q,F' q->F q\/W.H q=none)->R W' F' b' u->Sep W0 W' (C<|bp.2 b')
instance zkeep50{C:α->List TC}{R:Rf β}[FrT R]:MonoW (Lens W0 C R):=⟨fun e⟨F,t,n,p⟩=>⟨F,FrT.ext t e,n,fun W' F' b' m hF t'=>p W' F' b' (e.muF.trans m fun q hq=>.inl hq) (fun q hq=>(hF q hq).imp id (none_of e.h)) t'⟩⟩
variable{C:α->List TC}
theorem jG{R:Rf α}[FrT R]{a:α}{v:V}(s:Sep W0 W (C a))(E:Ext W0 W)(hc:(C a)[k]? =some (tc R a v):=by rfl)(hs:∀b,C b=(C a).set k (tc R b v):=by intro _;rfl)(h:σ[i]? =some (some v):=by rfl):EV Er (bF i) σ W (Lens W0 C R) (.ok (a,fun b=>b)):=by
 obtain⟨Fs,s⟩:=s;exact gU (R:=Lens W0 C R) ⟨Fs k,s.el k _ hc,s.nw k,fun W' F' b' m hF t=>by rw[hs];exact s.put E m hF t (Bv.mp hc).1⟩ h
theorem MuF.up(m:MuF F W W')(h:∀q,F q->F' q):MuF F' W W':=⟨m.g,fun q hq hn=>m.h q (fun z=>hq<|h q z) hn,m.k,m.n⟩
theorem sY{R:Rf β}[FrT R]{ma:Res (List β×(List β->α))}{mb:Res Int}(ha:EV Er ta σ W (Lens W0 C<|oL R) ma)(hb:EV Er tb σ W (sh isI) mb):EV Er (cX (cf K) ta tb) σ W (Lens W0 C R) (ma.bind fun a=>mb.bind fun b=>lP a b):=
 oY ha hb fun W a b x y Q hx hy k=>by
  cases hy;obtain⟨F,⟨p,vs,Fs,rfl,g,h,t,np,hF⟩,n,pb⟩:=hx;obtain⟨l,h1,k⟩:=dv<|Bj k;obtain⟨c,h2,k⟩:=dv<|Bj k;obtain⟨z,h8,h9,h10⟩:=t.ix h1 h2;have hll:l<a.1.length:=(Bv.mp h2).1;refine⟨p,_,b,z,rfl,rfl,DB h,h9,k _ W (.refl _) ⟨Fs l,h10,fun q hq=>n q<|(hF q).mpr (.inr ⟨l,hq⟩),fun W' F' b' m hF' t'=>?_⟩⟩;have key:∀j q,(if j=l then F' else Fs j) q->(j=l/\F' q)\/(j≠l/\Fs j q):=fun j q h=>by
   by_cases z:j=l;·exact .inl ⟨z,by simpa [if_pos z] using h⟩
   ·exact .inr ⟨z,by simpa [if_neg z] using h⟩
  have lv:∀j q,Fs j q->W.H q≠none:=fun j q hq=>by
   obtain⟨x,u,_,_,r⟩:=t.at2 hq;exact(FrT.lv r q hq).2
  refine pb W' (fun q=>q=p\/∃j,(if j=l then F' else Fs j) q) (a.1.set l b') (m.up fun q hq=>(hF q).mpr (.inr ⟨l,hq⟩)) (fun q hq=>?_) ⟨p,vs,fun j=>if j=l then F' else Fs j,rfl,by rw[m.k p<|nn_of h];exact g,by rw[m.h p (np l)<|nn_of h];exact h,⟨by rw[DX];exact t.len,fun j x u e1 e2=>?_,fun j q hq=>?_,fun j j2 q q1 q2=>?_⟩,fun j hj=>?_,fun q=>JB⟩
  ·rcases hq with rfl | ⟨j,hj⟩
   ·exact .inl<|(hF _).mpr (.inl rfl)
   ·rcases key j q hj with⟨z1,z2⟩ | ⟨z1,z2⟩
    ·exact(hF' q z2).imp (fun y=>(hF q).mpr (.inr ⟨l,y⟩)) id
    ·exact .inl<|(hF q).mpr (.inr ⟨j,z2⟩)
  ·rw[Fy]at e1;by_cases z1:l=j
   ·subst z1;rw[if_pos rfl,if_pos hll]at e1;cases e1;rw[h8]at e2;cases e2;simp only[if_true];exact t'
   ·rw[if_neg z1]at e1;simp only[if_neg (EF z1)];exact FrT.mu (t.el j x u e1 e2) m fun q y1 y2=>z1<|t.dj l j q y2 y1
  ·rw[DX];rcases key j q hq with⟨z1,z2⟩|⟨z1,z2⟩
   ·rw[z1];exact hll
   ·exact t.rng j q z2
  ·rcases key j q q1 with⟨z1,y1⟩ | ⟨z1,y1⟩ <;> rcases key j2 q q2 with⟨z2,y2⟩ | ⟨z2,y2⟩
   ·rw[z1,z2]
   ·exact((hF' q y1).elim (fun y=>z2<|t.dj j2 l q y2 y) fun y=>absurd y<|lv _ _ y2).elim
   ·exact((hF' q y2).elim (fun y=>z1<|t.dj j l q y1 y) fun y=>absurd y<|lv _ _ y1).elim
   ·exact t.dj j j2 q y1 y2
  ·rcases key j p hj with⟨z1,z2⟩ | ⟨z1,z2⟩
   ·exact(hF' p z2).elim (np l) fun y=>absurd y<|nn_of h
   ·exact np j z2
theorem Lens.lf{R:Rp β}[Mono R]{bp:List β×(List β->α)}{u:V}(E:Ext W0 W)(l:Lens W0 C (oL<|fz R) W bp u):∃p vs,u=.ref p/\W.H p=some (.lst vs)/\LR R W.G bp.1 vs/\∃hg:W.G p=none,∀vs' xs',LR R W.G xs' vs'->Ext W0 (W.mut p (.lst vs') hg)/\Sep W0 (W.mut p (.lst vs') hg) (C<|bp.2 xs'):=by
 obtain⟨F,⟨p,vs,Fs,rfl,g,h,t,np,hF⟩,n,pb⟩:=l;have hp:F p:=(hF p).mpr (.inl rfl);refine⟨p,vs,rfl,h,t.lr,g,fun vs' xs' lr=>⟨E.mut (n p hp) g,pb _ (· =p) xs' (MuF.of hp g) (fun q hq=>.inl (by rw[hq];exact hp)) ⟨p,vs',fun _ _=>False,rfl,g,aG,.of lr,fun _ z=>z,fun q=>⟨.inl,fun z=>z.elim id fun⟨_,z⟩=>z.elim⟩⟩⟩⟩
theorem vC{R:Rp β}[Mono R]{mp:Res (List β×(List β->α))}{m:Res β}{mi:Res Int}(E:Ext W0 W)(h:EV Er te σ W (sh R) m)(hp:EV Er tp σ W (Lens W0 C<|oL<|fz R) mp)(hj:EV Er ti σ W (sh isI) mi)(q:(m.bind fun x=>mp.bind fun p=>mi.bind fun j=>(iB p.1 j x).bind fun b=>.ok<|p.2 b).OkE Er fun a'=>∀W',Same W.G W'.G->Ext W0 W'->Sep W0 W' (C a')->D.nx σ W'.H):
  bK te (xl tp ti rV) D σ W.H:=h W (.refl _) _ ((Bj q).imp fun x kx v W1 e1 hv=>hp W1 e1 _ ((Bj kx).imp fun p kp u W2 e2 l=>hj W2 (e1.trans e2) _ ((Bj kp).imp fun j kj y W3 e3 hy=>by
 cases hy;obtain⟨p0,vs,rfl,hH,lr,hg,back⟩:=Lens.lf (((E.trans e1).trans e2).trans e3) (C0 e3 l);obtain⟨n,h3,h4⟩:=dv (Bj (Bj kj));obtain⟨b1,b2⟩:=back (vs.set n v) (p.1.set n x) (lr.set (Bi (R:=R) (e2.trans e3).g hv) n);exact⟨p0,vs,j,n,rfl,rfl,hH,by rw[lr.1];exact h3,h4 (W3.mut p0 (.lst (vs.set n v)) hg) ((e1.trans e2).trans e3).g b1 b2⟩)))
theorem pD{R:Rf β}[FrT R]{m:Res β}{σ':V->St}(S:Sep W0 W cs)(E:Ext W0 W)(h:EVt Er te σ W R m)(q:m.OkE Er fun a=>∀v W',Ext W W'->Sep W0 W' (cs++[tc R a v])->D.nx (σ' v) W'.H)(hσ:∀v,σ.set i (some v)=σ' v:=by intro _;rfl):bK te (aO i) D σ W.H:=h W (.refl _) _ (q.imp fun a k v W' F e hF t=>by have:=k v W' e<|S.add E e hF t;rw[<-hσ]at this;exact this)
theorem qQ{R:Rf β}[FrT R]{m:Res β}{σ':V->St}(S:Sep W0 W cs)(E:Ext W0 W)(h:EVt Er te σ W R m)(q:m.OkE Er fun a=>∀v W',Ext W W'->Sep W0 W' (cs++[tc R a v])->r D (σ' v) W'.H)(hσ:∀v,σ.set i (some v)=σ' v:=by intro _;rfl):fS (bK te<|aO i) r D σ W.H:=pD (D:={D with nx:=r D}) S E h q hσ
theorem vD{R:Rf β}[FrT R]{b:β}{v:V}(S:Sep W0 W cs)(hc:cs[k]? =some (tc R b v))(q:∀F,(∀q,F q->W0.H q=none)->R W F b v->D.rt v W.H)(hi:σ[i]? =some (some v):=by rfl):cn (bF i) D σ W.H:=by
 obtain⟨Fs,s⟩:=S;exact⟨v,hi,q (Fs k) (s.nw k)<|s.el k _ hc⟩
end
section
variable{Er:Nat->Prop}{α β γ:Type}{K:Bo}{W W' W0 W1 W2:Wd}{F F' F1:FS}{cs:List TC}{σ:St}{t ta tb te ti tp:TE}{D:Ends}{i k:Nat}{r:TS}
theorem sZ{R:Rf α}:EVt Er (cj aS) σ W (oL R) (.ok []):=fun W1 e1 Q k=>⟨by decide,fun p hp=>k _ (W1.mut p (.lst [])<|W1.gnone hp) (· =p) (.own _ hp) (fun q hq=>by rw[hq];exact hp) ⟨p,[],fun _ _=>False,rfl,W1.gnone hp,aG,⟨rfl,fun i x u h=>by simp at h,fun _ _ z=>z.elim,fun _ _ _ z=>z.elim⟩,fun _ z=>z,fun q=>⟨.inl,fun z=>z.elim id fun⟨_,z⟩=>z.elim⟩⟩⟩
theorem EVt.ev{R:Rf α}[FrT R]{R':Rp α}[FzT R R']{m:Res α}(h:EVt Er t σ W R m):EV Er t σ W (sh R') m:=fun W1 e1 Q k=>h W1 e1 Q (k.imp fun a ka v W2 F e2 hF o=>by
 have s:Sep W1 W2 [tc R a v]:=Sep.add (cs:=[]) (Sep.nil (W0:=W1) (W:=W1)) (.refl _) e2 hF o;obtain⟨W3,hH,e3,_,_,r⟩:=Sep.frz (R:=R) (i:=0) s e2 rfl;rw[<-hH];exact ka v W3 e3 r)
theorem qR{m n:Res Int}(h:EV Er ta σ W (sh isI) m)(g:EV Er tb σ W (sh isI) n):IV Er (wO<|ak ta<|ak tb aS) σ W isI (m.bind fun i=>n.bind fun j=>lQ i j):=fun W1 e1 P k=>
 h W1 e1 _ ((Bj k).imp fun a ka v W2 e2 hv=>g W2 (e1.trans e2) _ ((Bj ka).imp fun b kb u W3 e3 hu=>by
  cases hv;cases hu;obtain⟨hb,kn⟩:=bh kb;refine⟨a,b,rfl,hb,kn _ W3 (e2.trans e3) fun W4 e4=>⟨fun i x ha=>?_,by show(b-a).toNat<=(j7 a b).length;simp[j7]⟩⟩;unfold j7 at ha;rw[Bz]at ha;have hi:i<(b-a).toNat:=by
   refine E5 fun z=>?_;rw[Cr.mpr (by simp;omega)]at ha;cases ha
  rw[Gk hi]at ha;cases ha;exact⟨hi,fun y H'⟨z1,z2⟩=>⟨W4,z1.symm,.refl _,z2⟩⟩))
end
end Wb
open Wb.FrT renaming lv->Li,ext->Lo,mu->Lu
open Wb.MuF renaming of->Ls
namespace L2
open PySem PySem.Spec PyProof.Rows
end L2
namespace Wb
open PySem L2 Mi
end Wb
namespace Mi
end Mi
namespace Wb
open PySem L2 Mi
end Wb
namespace Mi
end Mi
namespace Wb
open PySem L2 Mi
section
open PyProof PyProof.Rows
variable{X:Cx}{pos:Pos}
end
end Wb
namespace Mi
end Mi
namespace Wb
open PySem L2 Mi
end Wb
namespace Mi
end Mi
namespace Wb
open PySem L2 Mi
end Wb
namespace L2
open PySem PySem.Spec PyProof.Rows
end L2
namespace L2
open PySem PySem.Spec PyProof.Rows Builtin Builtin.ObjectAttr
open PySem.W (findIn findObj mroIn looks_findIn looks_find looks_mroIn looks_clsIn clsIn Frag InstAt Looks)
end L2
namespace L2
open PySem PySem.Spec PySem.Calls PyProof.Rows
open PySem.W (findIn findObj mroIn looks_findIn looks_find looks_mroIn class_get KitX clsIn Frag InstAt lookIn)
def XO(a:Addr)(o:Obj):HO:=.ext fun h=>h.get? a=some o
section
variable{P:BK}{w:C2}{H:Hp}{h:Heap}{a d:Addr}{o:Obj}{fs:List (Str×V)}{mA:Str->Option Bq}
theorem XO.ok(e:h.get? a=some o):ObjOk P w H h a (XO a o):=⟨e,⟨_,e⟩,fun _ _ p k=>k _ p⟩
end
end L2
namespace L2
open PySem PySem.Spec PySem.Calls PyProof.Rows
open PySem.W (findIn findObj clsIn Frag InstAt lookIn)
end L2
namespace Mi
end Mi
namespace Wb
open PySem L2 Mi
section
variable{Er:Nat->Prop}{α β:Type}{W W':Wd}{σ:St}{K:Bo}
theorem TL.snoc{R:Rf α}[FrT R]{Fs:Nat->FS}{F:FS}{xs:List α}{vs:List V}{x:α}{u:V}(t:TL R W Fs xs vs)(e:Ext W W')(r:R W' F x u)(hn:∀q,F q->W.H q=none):TL R W' (fun j=>if j=xs.length then F else Fs j) (xs++[x]) (vs++[u]):=by
 have key:∀j q,(if j=xs.length then F else Fs j) q->(j=xs.length/\F q)\/(j<xs.length/\Fs j q):=fun j q h=>by
  by_cases z:j=xs.length;·exact .inl ⟨z,by simpa [if_pos z] using h⟩
  ·have h':Fs j q:=by simpa [if_neg z] using h
   exact .inr ⟨t.rng j q h',h'⟩
 refine⟨by simp[t.len],fun i y w h1 h2=>?_,fun i q h=>?_,fun i j q h1 h2=>?_⟩
 ·by_cases z:i< xs.length
  ·rw[BL z]at h1;rw[BL (by rw[t.len];exact z)]at h2;simp only[if_neg (BO z)];exact Lo (t.el i y w h1 h2) e
  ·rw[BI (by omega)]at h1;rw[BI (by rw[t.len];omega),t.len]at h2;have z2:i-xs.length=0:=by
    refine E5 fun y=>?_;rw[Cr.mpr (by simp;omega)]at h1;cases h1
   rw[z2]at h1 h2;cases h1;cases h2;simp only[if_pos (show i=xs.length by omega)];exact r
 ·rw[CP,FG];rcases key i q h with⟨a,_⟩|⟨a,_⟩<;>omega
 ·rcases key i q h1 with⟨z1,a⟩ | ⟨z1,a⟩ <;> rcases key j q h2 with⟨z2,b⟩ | ⟨z2,b⟩
  ·omega
  ·obtain⟨_,_,_,_,rr⟩:=t.at2 b;exact absurd (hn q a) (Li rr q b).2
  ·obtain⟨_,_,_,_,rr⟩:=t.at2 a;exact absurd (hn q b) (Li rr q a).2
  ·exact t.dj i j q a b
theorem TL.ext{R:Rf α}[FrT R]{Fs:Nat->FS}{xs:List α}{vs:List V}(t:TL R W Fs xs vs)(e:Ext W W'):TL R W' Fs xs vs:=⟨t.len,fun i x u a b=>Lo (t.el i x u a b) e,t.rng,t.dj⟩
theorem mV{cap:List (Option Nat)}{wi:TI}{g:TG}{te:TE}{R:Rp α}{R':Rf β}[FrT R']{m:Res (List α)}{f:α->Res β}(hi:IV Er wi σ W R m)
  (hb:∀(W1:Wd)(a:α)(v:V),Ext W W1->R W1.G a v->∀Q:VK,(f a).OkE Er (fun b=>∀u W2 F,Ext W1 W2->(∀q,F q->W1.H q=none)->R' W2 F b u->Q u W2.H)->g v (bR cap σ) W1.H fun σ2 H2=>Keep (bR cap σ) σ2/\te σ2 H2 Q):
  EVt Er (mH cap wi g xw te) σ W (oL R') (m.bind fun xs=>dG xs f):=fun W1 e1 Q k=>by
 refine hi W1 e1 _<|(Bj k).imp fun xs kx J W2 e2 hy=>?_;obtain⟨hl,kx⟩:=bh<|Bj kx;refine⟨fun i n ys H=>n=xs.length-i/\i<=xs.length/\ys.length<=i/\∃(W3:Wd)(bs:List β)(Fs:Nat->FS),W3.H=H/\Ext W2 W3/\TL R' W3 Fs bs ys/\(∀i q,Fs i q->W2.H q=none)/\(hZ f<|xs.drop i).OkE Er (fun r=>∀v W4 F,Ext W1 W4->(∀q,F q->W1.H q=none)->oL R' W4 F (bs++r) v->Q v W4.H),⟨xs.length,by simp,by simp,by simp,W2,[],fun _ _=>False,rfl,.refl _,⟨rfl,fun i x u h=>by simp at h,fun _ _ z=>z.elim,fun _ _ _ z=>z.elim⟩,fun _ _ z=>z.elim,?_⟩,?_⟩;·simpa using kx
 ·rintro i n ys H ⟨rfl,hi1,hyl,W3,bs,Fs,rfl,e3,lr,fr,q⟩;refine⟨by rw[CF];unfold Mi.cap at hl;omega,?_⟩;by_cases hlt:i<xs.length
  ·obtain⟨a,ha⟩:∃a,xs[i]? =some a:=⟨xs[i],by simp[hlt]⟩
   obtain⟨h1,h2⟩:=(hy W3 e3.g).1 i a ha;refine .inr ⟨h1,fun ys' H'=>ys'.length<=i+1/\∃(W3:Wd)(bs:List β)(Fs:Nat->FS),W3.H=H'/\Ext W2 W3/\TL R' W3 Fs bs ys'/\(∀i q,Fs i q->W2.H q=none)/\(hZ f<|xs.drop<|i+1).OkE Er (fun r=>∀v W4 F,Ext W1 W4->(∀q,F q->W1.H q=none)->oL R' W4 F (bs++r) v->Q v W4.H),fun ys' H'⟨z1,z2⟩=>⟨xs.length-(i+1),by omega,rfl,hlt,z1,z2⟩,fun x H' hx=>?_⟩;obtain⟨W4,rfl,e4,rx⟩:=h2 x H' hx;rw[kR ha]at q;have:=hb W4 a x (e1.trans<|(e2.trans e3).trans e4) rx (fun y H4=>(ys++[y]).length<=i+1/\∃(W3:Wd)(bs:List β)(Fs:Nat->FS),W3.H=H4/\Ext W2 W3/\TL R' W3 Fs bs (ys++[y])/\(∀i q,Fs i q->W2.H q=none)/\(hZ f<|xs.drop<|i+1).OkE Er (fun r=>∀v W4 F,Ext W1 W4->(∀q,F q->W1.H q=none)->oL R' W4 F (bs++r) v->Q v W4.H))
    ((Bj q).imp fun b kb u W5 F5 e5 hF5 hu=>⟨by simp;exact hyl,W5,bs++[b],_,rfl,(e3.trans e4).trans e5,(lr.ext e4).snoc e5 hu hF5,fun j q hq=>?_,(Bj kb).imp fun r kr=>by rw[BU];exact kr⟩)
   ·exact this
   ·by_cases z:j=bs.length
    ·simp only[if_pos z]at hq;exact none_of (e3.trans e4).h (hF5 q hq)
    ·simp only[if_neg z]at hq;exact fr j q hq
  ·have e:i=xs.length:=by omega
   subst e;rw[F0]at q;refine .inl ⟨(hy W3 e3.g).2,fun D hD=>?_⟩;have e13:=e2.trans e3;refine q (.ref D) (W3.mut D (.lst ys)<|W3.gnone hD) (fun q=>q=D\/∃i,Fs i q) (e13.trans<|.own _ hD) (fun q hq=>?_) ⟨D,ys,Fs,rfl,W3.gnone hD,aG,by rw[Dd];exact lr.ext<|.own _ hD,fun i z=>?_,fun q=>JB⟩
   ·rcases hq with z | ⟨i,z⟩
    ·rw[z];exact none_of e13.h hD
    ·exact none_of e2.h<|fr i q z
   ·obtain⟨_,_,_,_,rr⟩:=lr.at2 z;exact(Li rr D z).2 hD
end
end Wb
namespace Mi
end Mi
namespace L2
open PySem PySem.Spec PyProof.Rows PySem.SeqAt PySem.AutoSeq1 PySem.MeetsSeq
end L2
namespace Wb
open PySem L2 Mi
end Wb
namespace Mi
def xJ(a b:Int×Int):Bool:=decide (a.1<b.1)||(decide (a.1=b.1)&&decide (a.2<=b.2))
theorem j8{a b:Int×Int}:xJ a b=true↔a.1<b.1\/(a.1=b.1/\a.2<=b.2):=by unfold xJ;simp
def eV(xs:List (Int×Int)):List (Int×Int):=xs.mergeSort xJ
theorem dA(xs:List (Int×Int)):(eV xs).Perm xs:=HZ _ _
theorem jH(xs:List (Int×Int)):(eV xs).Pairwise (fun a b=>xJ a b=true):=
 Hc (le:=xJ) (fun a b c h1 h2=>by rw[j8]at *;omega) (fun a b=>by simp only[Jt,j8];omega) xs
theorem jI{xs ys:List (Int×Int)}(h:ys.Perm xs)(hs:ys.Pairwise (fun a b=>xJ a b=true)):ys=eV xs:=
 GW (le:=fun a b=>xJ a b=true) (fun a b _ _ h1 h2=>by rw[j8]at *;exact Gy (by omega) (by omega)) hs (jH xs) (h.trans (dA xs).symm)
end Mi
namespace Wb
open PySem
theorem jJ{xs:Array Nat}{j:Nat}(up:∀a b,a<b->b<xs.size->xs.getD a 0<xs.getD b 0):∀(f lo hi:Nat),hi-lo<=f->lo<=hi->hi<=xs.size->(∀a,a<lo->xs.getD a 0<j)->(∀a,hi<=a->a<xs.size->j<=xs.getD a 0)->
  EG xs j f lo hi<=xs.size/\(∀a,a<EG xs j f lo hi->xs.getD a 0<j)/\(∀a,EG xs j f lo hi<=a->a<xs.size->j<=xs.getD a 0)
 |0,lo,hi,h,hl,hs,h1,h2=>by
  unfold EG;exact⟨by omega,h1,fun a ha=>h2 a (by omega)⟩
 |f+1,lo,hi,h,hl,hs,h1,h2=>by
  unfold EG;by_cases z:lo<hi
  ·rw[if_pos z];have hm:(lo+hi)/2<hi:=by omega
   have hm2:lo<=(lo+hi)/2:=by omega
   have e:∀d d':Nat,xs.getD ((lo+hi)/2) d=xs.getD ((lo+hi)/2) d':=fun d d'=>by
    simp[E1,show(lo+hi)/2<xs.size by omega]
   dsimp only;generalize hM:(lo+hi)/2=m at*
   by_cases y:xs.getD m j<j
   ·rw[if_pos y];refine jJ up f (m+1) hi (by omega) (by omega) hs (fun a ha=>?_) h2;by_cases q:a=m;·subst q;rw[e 0 j];exact y
    ·have:=up a m (by omega) (by omega);rw[e 0 j]at this;omega
   ·rw[if_neg y];refine jJ up f lo m (by omega) hm2 (by omega) h1<|fun a ha hb=>?_;by_cases q:a=m;·subst q;rw[e 0 j];omega
    ·have:=up m a (by omega) hb;rw[e 0 j]at this;omega
  ·rw[if_neg z];exact⟨by omega,h1,fun a ha=>h2 a (by omega)⟩
def Up(xs:Array Nat):Prop:=∀a b,a<b->b<xs.size->xs.getD a 0<xs.getD b 0
theorem jK{xs:Array Nat}(up:Up xs)(j:Nat):Dm xs j<=xs.size/\(∀a,a<Dm xs j->xs.getD a 0<j)/\(∀a,Dm xs j<=a->a<xs.size->j<=xs.getD a 0):=by
 unfold Dm;exact jJ up xs.size 0 xs.size (by omega) (by omega) (by omega) (fun a ha=>by omega) (fun a ha hb=>by omega)
abbrev Pr:=SetTable.Probe
def fV(mask:Nat)(p:Pr):Pr:=if p.more>0 then {p with j:=p.j+1,more:=p.more-1} else {p with j:=(C8 mask p.i p.perturb).1,more:=Cp mask (C8 mask p.i p.perturb).1-(C8 mask p.i p.perturb).1,i:=(C8 mask p.i p.perturb).1,perturb:=(C8 mask p.i p.perturb).2}
theorem jL(t:CL)(p:Pr):t.advance p=fV t.mask p:=by unfold SetTable.advance fV;rfl
def itM(mask:Nat):Nat->Pr->Pr
 |0,p=>p
 |n+1,p=>itM mask n<|fV mask p
theorem eW(mask:Nat):∀(a b:Nat)(p:Pr),itM mask (a+b) p=itM mask b (itM mask a p)
 |0,b,p=>by rw[Ec];rfl
 |a+1,b,p=>by rw[show a+1+b=(a+b)+1 by omega];exact eW mask a b<|fV mask p
theorem t9(mask n:Nat)(p:Pr):itM mask (n+1) p=fV mask (itM mask n p):=by rw[eW];rfl
def rH(mask i pt:Nat):Pr:={j:=i,more:=Cp mask i-i,i,perturb:=pt,dummy:=none}
theorem j9(mask:Nat):∀(n:Nat)(p:Pr),p.more=n->p.dummy=none->itM mask (n+1) p=rH mask (C8 mask p.i p.perturb).1 (C8 mask p.i p.perturb).2
 |0,p,h,hd=>by
  show fV mask p=_;unfold fV rH;rw[if_neg (by omega)];cases p;simp at hd;subst hd;rfl
 |n+1,p,h,hd=>by
  show itM mask (n+1) (fV mask p)=_;have e:fV mask p={p with j:=p.j+1,more:=p.more-1}:=by unfold fV;rw[if_pos (by omega)]
  rw[e];exact j9 mask n _ (by show p.more-1=n;omega) hd
theorem pE(mask i:Nat):Cp mask i-i<=9:=by unfold Cp;split<;>omega
def md(mask:Nat):Nat->Nat×Nat->Nat×Nat
 |0,x=>x
 |n+1,x=>md mask n<|C8 mask x.1 x.2
theorem tj(mask:Nat):∀(n i pt:Nat),∃k,k<=10*n/\itM mask k (rH mask i pt)=rH mask (md mask n (i,pt)).1 (md mask n (i,pt)).2
 |0,i,pt=>⟨0,by omega,rfl⟩
 |n+1,i,pt=>by
  obtain⟨k,hk,e⟩:=tj mask n (C8 mask i pt).1 (C8 mask i pt).2;have r:=j9 mask _ (rH mask i pt) rfl rfl;have m:=pE mask i;refine⟨(rH mask i pt).more+1+k,?_,?_⟩
  ·have:(rH mask i pt).more<=9:=m;omega
  ·rw[eW,r];exact e
theorem pF(mask:Nat):∀(a b:Nat)(x:Nat×Nat),md mask (a+b) x=md mask b (md mask a x)
 |0,b,x=>by rw[Ec];rfl
 |a+1,b,x=>by rw[show a+1+b=(a+b)+1 by omega];exact pF mask a b _
theorem tm(mask:Nat):∀(n:Nat)(x:Nat×Nat),(md mask n x).2=x.2/32^n
 |0,x=>by simp[md]
 |n+1,x=>by
  show(md mask n<|C8 mask x.1 x.2).2=_;rw[tm mask n];show x.2/32/32^n=_;rw[Hm,Nat.pow_succ,Nat.mul_comm]
theorem xK(mask:Nat):∀(n:Nat)(x:Nat×Nat),x.1<=mask->(md mask n x).1<=mask
 |0,x,h=>h
 |n+1,x,h=>xK mask n _ (by show(x.1*5+1+x.2/32)%(mask+1)<=mask;have:=Hn (x.1*5+1+x.2/32) (show 0<mask+1 by omega);omega)
def uQ(mask:Nat):Nat->Nat->Nat
 |0,i=>i
 |n+1,i=>uQ mask n<|(i*5+1)%(mask+1)
theorem tq(mask:Nat):∀(n i:Nat),md mask n (i,0)=(uQ mask n i,0)
 |0,i=>rfl
 |n+1,i=>by
  show md mask n (C8 mask i 0)=_;rw[show C8 mask i 0=((i*5+1)%(mask+1),0) by simp[C8],tq mask n];rfl
theorem ja(mask:Nat):∀(a b i:Nat),uQ mask (a+b) i=uQ mask b (uQ mask a i)
 |0,b,i=>by rw[Ec];rfl
 |a+1,b,i=>by rw[show a+1+b=(a+b)+1 by omega];exact ja mask a b _
def isMask(m:Nat):Prop:=m=7\/m=31\/m=127\/m=511\/m=2047
def zE(m:Nat):Nat->Nat->Nat->Nat
 |0,_,acc=>acc
 |n+1,i,acc=>zE m n ((i*5+1)%(m+1))<|acc|||2^i
theorem pG(m:Nat):∀(n i acc e:Nat),(zE m n i acc).testBit e=true->acc.testBit e=true\/∃k,k<n/\uQ m k i=e
 |0,i,acc,e,h=>.inl h
 |n+1,i,acc,e,h=>by
  rcases pG m n _ _ e h with q|⟨k,hk,q⟩
  ·rw[Nat.testBit_or,Jt]at q;rcases q with q|q
   ·exact .inl q
   ·rw[Nat.testBit_two_pow,decide_eq_true_eq]at q;exact .inr ⟨0,by omega,q⟩
  ·exact .inr ⟨k+1,by omega,q⟩
theorem As{m:Nat}(h:isMask m):(∀e,e<m+1->∃k,k<m+1/\uQ m k 0=e)/\uQ m (m+1) 0=0:=by
 have key:∀m,zE m (m+1) 0 0=2^(m+1)-1->∀e,e<m+1->∃k,k<m+1/\uQ m k 0=e:=fun m hv e he=>by
  have hb:(zE m (m+1) 0 0).testBit e=true:=by rw[hv,Nat.testBit_two_pow_sub_one];simpa using he
  rcases pG m _ _ _ e hb with q|q;·simp at q
  ·exact q
 rcases h with rfl|rfl|rfl|rfl|rfl;·exact⟨key 7 (by decide +kernel),by decide +kernel⟩
 ·exact⟨key 31 (by decide +kernel),by decide +kernel⟩
 ·exact⟨key 127 (by decide +kernel),by decide +kernel⟩
 ·exact⟨key 511 (by decide +kernel),by decide +kernel⟩
 ·exact⟨key 2047 (by decide +kernel),by decide +kernel⟩
theorem tu{m:Nat}(h:isMask m){i e:Nat}(hi:i<=m)(he:e<=m):∃n,n<=m/\uQ m n i=e:=by
 obtain⟨h1,h2⟩:=As h;obtain⟨a,ha,ea⟩:=h1 i (by omega);obtain⟨b,hb,eb⟩:=h1 e (by omega);by_cases z:a<=b
 ·refine⟨b- a,by omega,?_⟩;rw[<-ea,<-ja,show a+(b-a)=b by omega,eb]
 ·refine⟨m+1- a+b,by omega,?_⟩;rw[<-ea,<-ja,show a+(m+1-a+b)=(m+1)+b by omega,ja,h2,eb]
theorem yY{m:Nat}(h:isMask m){p:Pr}(hd:p.dummy=none)(hm:p.more<=9)(hp:p.perturb<2^64){e:Nat}(he:e<=m):∃k,k<10*CS m/\(itM m k p).j=e:=by
 have r:=j9 m p.more p rfl hd;obtain⟨k1,hk1,e1⟩:=tj m 12 (C8 m p.i p.perturb).1 (C8 m p.i p.perturb).2;have z:(md m 12 ((C8 m p.i p.perturb).1,(C8 m p.i p.perturb).2)).2=0:=by
  rw[tm];show p.perturb/32/32^12=0;rw[Hm];exact Ja (by omega)
 have i0:(C8 m p.i p.perturb).1<=m:=by
  show(p.i*5+1+p.perturb/32)%(m+1)<=m;have:=Hn (p.i*5+1+p.perturb/32) (show 0<m+1 by omega);omega
 have i1:=xK m 12 ((C8 m p.i p.perturb).1,(C8 m p.i p.perturb).2) i0;rw[z]at e1;generalize (md m 12 ((C8 m p.i p.perturb).1,(C8 m p.i p.perturb).2)).1=i at*
 obtain⟨n,hn,en⟩:=tu h i1 he;obtain⟨k2,hk2,e2⟩:=tj m n i 0;rw[tq,en]at e2;refine⟨p.more+1+k1+k2,?_,?_⟩;·unfold CS;omega
 ·rw[eW,eW,r,e1,e2];rfl
def InP(xs:Array Nat)(j:Nat):Prop:=∃a,a<xs.size/\xs.getD a 0=j
theorem mW{xs:Array Nat}{a:Nat}(h:a<xs.size):xs[a]? =some (xs.getD a 0):=by simp[E1,h]
theorem gf{xs:Array Nat}(up:Up xs){a:Nat}(h:a<xs.size):Dm xs (xs.getD a 0)=a:=by
 obtain⟨h0,h1,h2⟩:=jK up<|xs.getD a 0;generalize Dm xs (xs.getD a 0)=b at*
 by_cases z:a<b;·have:=h1 a z;omega
 ·by_cases y:b< a
  ·have:=up b a y h;have:=h2 b (by omega) (by omega);omega
  ·omega
theorem qS{xs:Array Nat}(up:Up xs){j:Nat}(h:¬InP xs j):(xs[Dm xs j]? ==some j)=false:=by
 obtain⟨h0,h1,h2⟩:=jK up j;by_cases z:Dm xs j<xs.size
 ·rw[mW z];rw[beq_eq_false_iff_ne];intro e;injection e with e;exact h ⟨_,z,e⟩
 ·rw[Ho (by omega)];rfl
structure Tp(t:CL)(hs:List Int):Prop where
 dm:t.dummies= #[]
 sz:t.place.size=hs.length
 up:Up t.place
 le:∀j,InP t.place j->j<=t.mask
 msk:isMask t.mask
 reach:∀i h,hs[i]? =some h->∃k,(itM t.mask k<|t.probeStart h).j=t.place.getD i 0/\∀k',k'<k->InP t.place (itM t.mask k'<|t.probeStart h).j
structure Tb(t:CL)(hs:List Int):Prop extends Tp t hs where
 room:hs.length*5<t.mask*3
section
variable{t:CL}{hs:List Int}
theorem Tb.live(T:Tb t hs){i:Nat}(h:i<t.place.size):t.slot (t.place.getD i 0)=.live i:=by
 unfold Kn;dsimp only;rw[gf T.up h,mW h];simp
theorem Tb.empty(T:Tb t hs){j:Nat}(h:¬InP t.place j):t.slot j=.empty:=by
 unfold Kn;dsimp only;rw[if_neg (by rw[qS T.up h];decide)];unfold IU;rw[T.dm];rfl
theorem mX(t:CL)(h:Int):(t.probeStart h).dummy=none/\(t.probeStart h).more<=9/\(t.probeStart h).perturb<2^64:=by
 refine⟨rfl,pE _ _,?_⟩;show(h%(2^64:Int)).toNat<2^64;omega
theorem xM{xs:Array Nat}(up:Up xs){m:Nat}(h:xs.size<=m):∃j,j<=m/\¬InP xs j:=by
 have base:∀n,n<=xs.size->(∀j,j<n->InP xs j)->∀a,a<n->xs.getD a 0=a:=by
  intro n hn hin a
  induction a using Ju with
  |_ a ih=>
   intro ha;obtain⟨b,hb,eb⟩:=hin a ha;have lo:∀a,a<xs.size->a<=xs.getD a 0:=by
    intro a
    induction a with
    |zero=>intro _;omega
    |succ a ih=>intro h;have:=ih (by omega);have:=up a (a+1) (by omega) h;omega
   have:=lo b hb;by_cases z:b=a;·rw[<-z];rw[z]at eb;rw[z];exact eb
   ·have:=ih b (by omega) (by omega);omega
 by_cases hall:∀j,j<xs.size->InP xs j
 ·refine⟨xs.size,h,fun⟨a,ha,ea⟩=>?_⟩;have:=base xs.size (by omega) hall a ha;omega
 ·have ⟨j,hj⟩:=FY.mp hall;have ⟨h1,h2⟩:=GL.mp hj;exact⟨j,by omega,h2⟩
theorem Tb.gap(T:Tb t hs){p:Pr}(hp:p.dummy=none/\p.more<=9/\p.perturb<2^64):∃k,k<10*CS t.mask/\¬InP t.place (itM t.mask k p).j/\∀k',k'<k->InP t.place (itM t.mask k' p).j:=by
 obtain⟨e,he,hn⟩:=xM T.up (m:=t.mask) (by have:=T.sz;have:=T.room;omega);obtain⟨k,hk,ek⟩:=yY T.msk hp.1 hp.2.1 hp.2.2 he;rw[<-ek]at hn;clear ek
 induction k using Ju with
 |_ k ih=>
  by_cases z:∀k',k'<k->InP t.place (itM t.mask k' p).j;·exact⟨k,hk,hn,z⟩
  ·have ⟨k',h'⟩:=FY.mp z;have ⟨h1,h2⟩:=GL.mp h';exact ih k' h1 h2 (by omega)
theorem Tb.go(T:Tb t hs){hashAt:Nat->Int}(hA:∀i h,hs[i]? =some h->hashAt i=h)(h:Int):∀(E fuel:Nat)(p:Pr),p.dummy=none->E<fuel->¬InP t.place (itM t.mask E p).j->(∀k',k'<E->InP t.place (itM t.mask k' p).j)->
  (∃k i,k<E/\i<hs.length/\t.place.getD i 0=(itM t.mask k p).j/\hs[i]? =some h/\EH t hashAt h fuel p=some (.candidate (itM t.mask k p).j i (itM t.mask (k+1) p))/\∀k',k'<k->∀i,t.place.getD i 0=(itM t.mask k' p).j->i<hs.length->hs[i]? ≠some h)\/
  (EH t hashAt h fuel p=some (.empty (itM t.mask E p).j none)/\∀k',k'<E->∀i,t.place.getD i 0=(itM t.mask k' p).j->i<hs.length->hs[i]? ≠some h)
 |0,fuel+1,p,hd,hf,hn,ha=>by
  refine .inr ⟨?_,fun k' hk=>absurd hk (by omega)⟩;unfold EH;rw[T.empty (j:=p.j) hn,hd];rfl
 |E+1,fuel+1,p,hd,hf,hn,ha=>by
  obtain⟨a,h1,h2⟩:=ha 0 (by omega);have h2':t.place.getD a 0=p.j:=h2;have one:∀i,t.place.getD i 0=p.j->i<hs.length->i=a:=fun i hi hl=>by
   have hi':i<t.place.size:=by have:=T.sz;omega
   rw[<-gf T.up hi',hi,<-h2',gf T.up h1]
  unfold EH;rw[<-h2',T.live h1];dsimp only;have hl:a<hs.length:=by have:=T.sz;omega
  by_cases z:hashAt a=h
  ·refine .inl ⟨0,a,by omega,hl,h2,?_,?_,fun k' hk=>absurd hk (by omega)⟩
   ·have e:=hA a hs[a] (Bn hl);rw[Bn hl,<-e,z]
   ·rw[if_pos (by simpa using z),jL,h2'];rfl
  ·rw[if_neg (by simpa using z),jL];have hne:∀i,t.place.getD i 0=p.j->i<hs.length->hs[i]? ≠some h:=fun i hi hl' e=>z (by rw[one i hi hl']at e;exact hA a h e);have hd':(fV t.mask p).dummy=none:=by unfold fV;split<;>exact hd
   rcases Tb.go T hA h E fuel (fV t.mask p) hd' (by omega) hn (fun k' hk=>ha (k'+1) (by omega))with⟨k,i,g1,g2,g3,g4,g5,g6⟩|⟨g1,g2⟩
   ·refine .inl ⟨k+1,i,by omega,g2,g3,g4,g5,fun k' hk=>?_⟩;cases k' with
    |zero=>exact hne
    |succ k'=>exact g6 k' (by omega)
   ·refine .inr ⟨g1,fun k' hk=>?_⟩;cases k' with
    |zero=>exact hne
    |succ k'=>exact g2 k' (by omega)
theorem jM{α:Type}(xs:Array α)(p:Nat)(x:α):(D4 xs p x).toList=xs.toList.take p++x::xs.toList.drop p:=by
 unfold D4;simp[Cv,Ed,Ey]
theorem eN{α:Type}(xs:Array α){p:Nat}(h:p<=xs.size)(x:α):(D4 xs p x).size=xs.size+1:=by
 rw[<-BX,jM];simp;omega
theorem vE{α:Type}(xs:Array α){p:Nat}(h:p<=xs.size)(x:α)(a:Nat):(D4 xs p x)[a]? =if a<p then xs[a]? else if a=p then some x else xs[a-1]? :=by
 rw[<-BB,jM];by_cases z:a<p;·rw[if_pos z,BL (by simp;omega),Ca z,BB]
 ·rw[if_neg z,BI (by simp;omega)];have hl:(List.take p xs.toList).length=p:=by simp;omega
  rw[hl];by_cases y:a=p;·rw[if_pos y,y];simp
  ·rw[if_neg y,show a- p=(a- p- 1)+1 by omega,D5,CC,BB];congr 1;omega
theorem ic(xs:Array Nat){p:Nat}(h:p<=xs.size)(x:Nat)(a:Nat):(D4 xs p x).getD a 0=if a<p then xs.getD a 0 else if a=p then x else xs.getD (a-1) 0:=by
 rw[Ct,vE xs h];split;·rw[Ct]
 ·split;·rfl
  ·rw[Ct]
theorem pH{xs:Array Nat}{p:Nat}(h:p<=xs.size){x j:Nat}:InP (D4 xs p x) j↔j=x\/InP xs j:=by
 constructor
 ·rintro ⟨a,ha,e⟩;rw[eN xs h]at ha;rw[ic xs h]at e;by_cases z:a<p;·rw[if_pos z]at e;exact .inr ⟨a,by omega,e⟩
  ·rw[if_neg z]at e;by_cases y:a=p;·rw[if_pos y]at e;exact .inl e.symm
   ·rw[if_neg y]at e;exact .inr ⟨a-1,by omega,e⟩
 ·rintro (rfl | ⟨a,ha,e⟩);·exact⟨p,by rw[eN xs h];omega,by rw[ic xs h,if_neg (by omega),if_pos rfl]⟩
  ·by_cases z:a< p;·exact⟨a,by rw[eN xs h];omega,by rw[ic xs h,if_pos z,e]⟩
   ·exact⟨a+1,by rw[eN xs h];omega,by rw[ic xs h,if_neg (by omega),if_neg (by omega)];exact e⟩
theorem Tb.put(T:Tb t hs){h:Int}{E:Nat}(hn:¬InP t.place (itM t.mask E<|t.probeStart h).j)(hj:(itM t.mask E<|t.probeStart h).j<=t.mask)(ha:∀k',k'<E->InP t.place (itM t.mask k'<|t.probeStart h).j):
  (t.put (itM t.mask E<|t.probeStart h).j).2<=hs.length/\(t.put (itM t.mask E<|t.probeStart h).j).1.mask=t.mask/\Tp (t.put (itM t.mask E<|t.probeStart h).j).1 (hs.take (t.put (itM t.mask E<|t.probeStart h).j).2++h::hs.drop (t.put (itM t.mask E<|t.probeStart h).j).2):=by
 obtain⟨b0,b1,b2⟩:=jK T.up (itM t.mask E<|t.probeStart h).j;generalize hJ:(itM t.mask E<|t.probeStart h).j=j at*
 have hp2:(t.put j).2=Dm t.place j:=rfl;have hpl:(t.put j).1.place=D4 t.place (Dm t.place j) j:=rfl;have hmk:(t.put j).1.mask=t.mask:=rfl;have hst:∀h,(t.put j).1.probeStart h=t.probeStart h:=fun _=>rfl;have hsz:=T.sz;generalize Dm t.place j=p at*
 rw[hp2];refine⟨by omega,rfl,?_,?_,?_,?_,T.msk,?_⟩
 ·show(if IU t.dummies j then _ else t.dummies)= #[];unfold IU;rw[T.dm];rfl
 ·rw[hpl,eN _ b0];simp;omega
 ·rw[hpl];intro a b hab hb;rw[eN _ b0]at hb;rw[ic _ b0,ic _ b0];have gt:∀a,p<=a->a<t.place.size->j<t.place.getD a 0:=fun a h1 h2=>by
   have:=b2 a h1 h2;by_cases z:t.place.getD a 0=j;·exact absurd ⟨a,h2,z⟩ hn
   ·omega
  by_cases z1:a<p
  ·rw[if_pos z1];by_cases z2:b<p;·rw[if_pos z2];exact T.up a b hab (by omega)
   ·rw[if_neg z2];by_cases z3:b=p;·rw[if_pos z3];exact b1 a z1
    ·rw[if_neg z3];have:=b1 a z1;have:=gt (b-1) (by omega) (by omega);omega
  ·rw[if_neg z1,if_neg (show ¬b< p by omega),if_neg (show ¬b=p by omega)];by_cases z3:a=p;·rw[if_pos z3];exact gt (b-1) (by omega) (by omega)
   ·rw[if_neg z3];exact T.up (a-1) (b-1) (by omega) (by omega)
 ·intro q hq;rw[hpl,pH b0]at hq;rcases hq with rfl|hq
  ·exact hj
  ·exact T.le q hq
 ·intro i g hg;rw[hmk,hst,hpl];have mono:∀q,InP t.place q->InP (D4 t.place p j) q:=fun q hq=>(pH b0).mpr (.inr hq);have hl:(hs.take p).length=p:=by simp;omega
  by_cases z1:i<p
  ·rw[BL (by omega),Ca z1]at hg;obtain⟨k,ek,hk⟩:=T.reach i g hg;exact⟨k,by rw[ek,ic _ b0,if_pos z1],fun k' h'=>mono _<|hk k' h'⟩
  ·rw[BI (by omega),hl]at hg;by_cases z2:i=p
   ·rw[z2,Fz,Ds]at hg;cases hg;exact⟨E,by rw[hJ,ic _ b0,if_neg z1,if_pos z2],fun k' h'=>mono _<|ha k' h'⟩
   ·rw[show i- p=(i- p- 1)+1 by omega,D5,CC]at hg;rw[show p+(i-p-1)=i-1 by omega]at hg;obtain⟨k,ek,hk⟩:=T.reach (i-1) g hg;exact⟨k,by rw[ek,ic _ b0,if_neg z1,if_neg z2],fun k' h'=>mono _<|hk k' h'⟩
end
def Oc(ow:Array (Option Nat))(j:Nat):Prop:=(ow.getD j<|some 0).isSome=true
theorem lR(m i pt:Nat):∀k,k<=Cp m i-i->itM m k (rH m i pt)={j:=i+k,more:=Cp m i-i-k,i:=i,perturb:=pt,dummy:=none}
 |0,_=>rfl
 |k+1,h=>by
  rw[t9,lR m i pt k (by omega)];unfold fV;rw[if_pos (by show Cp m i-i-k>0;omega)];rfl
theorem qT(m i:Nat):i<=Cp m i:=by unfold Cp;split<;>omega
theorem pI{m:Nat}(ow:Array (Option Nat)):∀(f i pt n:Nat),n<f->¬Oc ow (md m n (i,pt)).1->
  ∃j E,Dz m ow f i pt=some j/\(itM m E<|rH m i pt).j=j/\¬Oc ow j/\∀k',k'<E->Oc ow (itM m k'<|rH m i pt).j
 |0,_,_,_,h,_=>absurd h (by omega)
 |f+1,i,pt,n,h,hn=>by
  have hr:=qT m i;unfold Dz;cases hf:(CZ<|Cp m i+1-i).find? fun k=>(ow.getD (i+k)<|some 0).isNone with
  |some k=>
   have hk:=EI.mp<|List.mem_of_find?_eq_some hf;have hp:=List.find?_some hf;have hb:=(List.find?_range_eq_some.mp hf).2.2;refine⟨i+k,k,rfl,by rw[lR m i pt k (by omega)],?_,fun k' hk'=>?_⟩;·unfold Oc;simp at hp ⊢;exact hp
   ·rw[lR m i pt k' (by omega)];have:=hb k' hk';unfold Oc;simpa using this
  |none=>
   have hall:=List.find?_eq_none.mp hf;have occ:∀k,k<=Cp m i-i->Oc ow (i+k):=fun k hk=>by
    have:=hall k (EI.mpr (by omega));unfold Oc;cases q:ow.getD (i+k) (some 0)with
    |none=>rw[q]at this;exact absurd rfl this
    |some a=>rfl
   cases n with
   |zero=>exact absurd (occ 0 (by omega)) hn
   |succ n=>
    obtain⟨j,E,e1,e2,e3,e4⟩:=pI ow f (C8 m i pt).1 (C8 m i pt).2 n (by omega) hn;have r:=j9 m (Cp m i-i) (rH m i pt) rfl rfl;refine⟨j,(Cp m i-i)+1+E,e1,?_,e3,fun k' hk'=>?_⟩;·rw[eW,r];exact e2
    ·by_cases z:k'<=Cp m i- i;·rw[lR m i pt k' z];exact occ k' z
     ·rw[show k'=(Cp m i- i)+1+(k'- ((Cp m i- i)+1)) by omega,eW,r];exact e4 _ (by omega)
abbrev stM(m:Nat)(h:Int):Pr:=rH m (Cc h%(m+1))<|Cc h
theorem vF(h:Int):Cc h<2^64:=by show(h%(2^64:Int)).toNat<2^64;omega
theorem vG{m:Nat}(hm:isMask m)(ow:Array (Option Nat))(h:Int){e:Nat}(he:e<=m)(hn:¬Oc ow e):
  ∃j E,Dz m ow (CS m) (Cc h%(m+1)) (Cc h)=some j/\(itM m E<|stM m h).j=j/\¬Oc ow j/\∀k',k'<E->Oc ow (itM m k'<|stM m h).j:=by
 have i0:Cc h%(m+1)<=m:=by have:=Hn (Cc h) (show 0<m+1 by omega);omega
 have z:(md m 13 (Cc h%(m+1),Cc h)).2=0:=by
  rw[tm];exact Ja (by have:=vF h;show Cc h<32^13;omega)
 have i1:=xK m 13 (Cc h%(m+1),Cc h) i0;obtain⟨n,hn',en⟩:=tu hm i1 he;refine pI ow _ _ _ (13+n) (by unfold CS;omega) ?_;rw[pF,show md m 13 (Cc h%(m+1),Cc h)=((md m 13 (Cc h%(m+1),Cc h)).1,0)from Gy rfl z,tq,en];exact hn
structure Lay(m:Nat)(hs:List Int)(ow:Array (Option Nat))(k:Nat):Prop where
 sz:ow.size=m+1
 cnt:ow.toList.countP Ie=k
 inj:∀(j j' i:Nat),ow[j]? =some (some i)->ow[j']? =some (some i)->j=j'
 lt:∀(j i:Nat),ow[j]? =some (some i)->i<k
 reach:∀(j i:Nat)(h:Int),ow[j]? =some (some i)->hs[i]? =some h->∃n,(itM m n<|stM m h).j=j/\∀n',n'<n->Oc ow (itM m n'<|stM m h).j
theorem ie{ow:Array (Option Nat)}{j:Nat}(hj:j<ow.size):Oc ow j↔∃i,ow[j]? =some (some i):=by
 unfold Oc;simp[E1,hj];cases ow[j]<;>simp
theorem Lay.gap{m:Nat}{hs:List Int}{ow:Array (Option Nat)}{k:Nat}(L:Lay m hs ow k)(h:k<=m):∃e,e<=m/\¬Oc ow e:=by
 by_cases z:∀e,e<=m->Oc ow e
 ·exfalso;have:ow.toList.countP Ie=ow.toList.length:=List.countP_eq_length.mpr fun a ha=>by
   obtain⟨j,hj,e⟩:=D7.mp ha;have hj':j<ow.size:=by simpa using hj
   obtain⟨i,hi⟩:=(ie hj').mp (z j (by have:=L.sz;omega));rw[<-e];have:ow.toList[j]=some i:=by
    have q:ow.toList[j]? =some (some i):=by rw[BB];exact hi
    rw[Bn hj]at q;injection q
   rw[this];rfl
  rw[L.cnt,BX,L.sz]at this;omega
 ·have ⟨e,he⟩:=FY.mp z;have ⟨h1,h2⟩:=GL.mp he;exact⟨e,h1,h2⟩
theorem yZ{ow:Array (Option Nat)}{j:Nat}(h:¬Oc ow j):j<ow.size:=by
 by_cases z:j<ow.size;·exact z
 ·exact absurd (by unfold Oc;simp[E1,z]) h
theorem Lay.step{m:Nat}(hm:isMask m){hs:List Int}{ow:Array (Option Nat)}{k:Nat}(L:Lay m hs ow k)(hk:k<=m){h:Int}(hh:hs[k]? =some h):
  ∃j,Dz m ow (CS m) (Cc h%(m+1)) (Cc h)=some j/\Lay m hs (ow.setIfInBounds j<|some k) (k+1):=by
 obtain⟨e,he,hn⟩:=L.gap hk;obtain⟨j,E,e1,e2,e3,e4⟩:=vG hm ow h he hn;have hj:=yZ e3;refine⟨j,e1,?_⟩;have none_j:ow[j]? =some none:=by
  have:¬∃i,ow[j]? =some (some i):=fun z=>e3<|(ie hj).mpr z;rw[C7 hj]at this ⊢;cases q:ow[j]with
  |none=>rfl
  |some i=>exact absurd ⟨i,by rw[q]⟩ this
 have at_:∀q,(ow.setIfInBounds j<|some k)[q]? =if q=j then some (some k)else ow[q]? :=fun q=>by
  rw[Array.getElem?_setIfInBounds];by_cases z:j=q;·subst z;simp[hj]
  ·rw[if_neg z,if_neg<|EF z]
 have oc:∀q,Oc ow q->Oc (ow.setIfInBounds j<|some k) q:=fun q hq=>by
  by_cases hs':q<ow.size
  ·obtain⟨i,hi⟩:=(ie hs').mp hq;refine(ie (by simpa using hs')).mpr ?_;rw[at_];by_cases z:q=j;·exact⟨k,by rw[if_pos z]⟩
   ·exact⟨i,by rw[if_neg z];exact hi⟩
  ·unfold Oc;simp[E1,hs']
 refine⟨by simp[L.sz],?_,?_,?_,?_⟩
 ·have hj2:j< ow.toList.length:=by simpa using hj
  have q:ow.toList[j]=none:=by
   have:=none_j;rw[<-BB,Bn hj2]at this;injection this
  rw[EO,List.countP_set hj2,q,L.cnt];simp
 ·intro a b i ha hb;rw[at_]at ha hb;by_cases z1:a=j
  ·rw[if_pos z1]at ha;injection ha with ha;injection ha with ha;by_cases z2:b=j;·rw[z1,z2]
   ·rw[if_neg z2]at hb;have:=L.lt b i hb;omega
  ·rw[if_neg z1]at ha;by_cases z2:b=j
   ·rw[if_pos z2]at hb;injection hb with hb;injection hb with hb;have:=L.lt a i ha;omega
   ·rw[if_neg z2]at hb;exact L.inj a b i ha hb
 ·intro a i ha;rw[at_]at ha;by_cases z1:a=j
  ·rw[if_pos z1]at ha;injection ha with ha;injection ha with ha;omega
  ·rw[if_neg z1]at ha;have:=L.lt a i ha;omega
 ·intro a i g ha hg;rw[at_]at ha;by_cases z1:a=j
  ·rw[if_pos z1]at ha;injection ha with ha;injection ha with ha;subst ha;rw[hh]at hg;cases hg;exact⟨E,by rw[z1];exact e2,fun n' h'=>oc _<|e4 n' h'⟩
  ·rw[if_neg z1]at ha;obtain⟨n,q1,q2⟩:=L.reach a i g ha hg;exact⟨n,q1,fun n' h'=>oc _<|q2 n' h'⟩
theorem qU(m:Nat)(hs:List Int):Lay m hs (Hy (m+1) none) 0:=by
 have no:∀(j i:Nat),(Hy (m+1) (none:Option Nat))[j]? =some (some i)->False:=fun j i h=>by
  rw[Array.getElem?_replicate]at h;split at h<;>simp at h
 refine⟨by simp,?_,fun j j' i h _=>(no j i h).elim,fun j i h=>(no j i h).elim,fun j i _ h _=>(no j i h).elim⟩;rw[Array.toList_replicate,List.countP_replicate];rfl
abbrev lS(m:Nat)(acc:Option (Array (Option Nat)×Nat))(h:Int):Option (Array (Option Nat)×Nat):=do
 let (owner,k) <-acc
 let j <-Dz m owner (CS m) (Cc h%(m+1)) (Cc h)
 pure (owner.setIfInBounds j<|some k,k+1)
theorem mY{m:Nat}(hm:isMask m)(hs:List Int):∀(r:List Int)(ow:Array (Option Nat))(k:Nat),Lay m hs ow k->hs.drop k=r->hs.length<=m->k<=hs.length->∃ow',r.foldl (lS m) (some (ow,k))=some (ow',hs.length)/\Lay m hs ow' hs.length
 | [],ow,k,L,hd,hl,hk=>by
  have:k=hs.length:=by
   have:=congrArg EK hd;simp at this;omega
  subst this;exact⟨ow,rfl,L⟩
 |h::r,ow,k,L,hd,hl,hk=>by
  have hk2:k<hs.length:=by
   have:=congrArg EK hd;simp at this;omega
  have hh:hs[k]? =some h:=by
   have:(hs.drop k)[0]? =some h:=by rw[hd];rfl
   rw[CC]at this;exact this
  obtain⟨j,e,L'⟩:=L.step hm (by omega) hh;have e':lS m (some (ow,k)) h=some (ow.setIfInBounds j<|some k,k+1):=by
   show(Dz m ow (CS m) (Cc h%(m+1))<|Cc h).bind _=_;rw[e];rfl
  rw[Hw,e'];exact mY hm hs r _ _ L' (by rw[<-JN,hd];rfl) hl (by omega)
theorem mZ{m:Nat}(hm:isMask m){hs:Array Int}(hl:hs.size<=m):∃ow,SetTable.layClean m hs=some ow/\Lay m hs.toList ow hs.size:=by
 obtain⟨ow,e,L⟩:=mY hm hs.toList hs.toList _ 0 (qU m hs.toList) rfl (by simpa using hl) (by simp);refine⟨ow,?_,by simpa using L⟩;show Option.map (·.1) (hs.foldl (lS m)<|some (Hy (m+1) none,0))=_;rw[<-Array.foldl_toList,e];rfl
abbrev dh(m:Nat)(ow:Array (Option Nat)):List (Nat×Nat):=(CZ<|m+1).filterMap fun j=>(ow.getD j none).map (j, ·)
theorem fu{m:Nat}{ow:Array (Option Nat)}(hs:ow.size=m+1){j i:Nat}:(j,i)∈dh m ow↔ow[j]? =some (some i):=by
 unfold dh;rw[Fd];constructor
 ·rintro ⟨q,hq,e⟩;rw[Cw]at e;obtain⟨a,e1,e2⟩:=e;injection e2 with e2 e3;subst e2;subst e3;have:=EI.mp hq;have hq':q<ow.size:=by omega
  simp[E1,hq']at e1;rw[C7 hq',e1]
 ·intro h;have hj:j<ow.size:=(E2.mp h).1;refine⟨j,EI.mpr (by omega),?_⟩;rw[Ct,h];rfl
theorem lT{f:Nat->Option Nat}:∀{l:List Nat},l.Pairwise (· < ·)->((l.filterMap fun j=>(f j).map (j, ·)).map (·.1)).Pairwise (· < ·)
 | [],_=>by simp
 |a::l,h=>by
  have ih:=lT (f:=f) (Gz.mp h).2;cases e:f a with
  |none=>simpa [e] using ih
  |some b=>
   rw[GX (b:=(a,b)) (by rw[e];rfl),CO];refine Gz.mpr ⟨fun q hq=>?_,ih⟩;obtain⟨x,hx,rfl⟩:=C6.mp hq;obtain⟨c,hc,e2⟩:=Fd.mp hx;rw[Cw]at e2;obtain⟨_,_,rfl⟩:=e2;exact(Gz.mp h).1 c hc
theorem tx{f:Nat->Option Nat}:∀(l:List Nat),(l.filterMap fun j=>(f j).map (j, ·)).length=(l.map f).countP Ie
 | []=>rfl
 |a::l=>by
  have ih:=tx (f:=f) l;cases e:f a with
  |none=>rw[List.filterMap_cons_none (by rw[e];rfl),ih];simp[e]
  |some b=>rw[GX (b:=(a,b)) (by rw[e];rfl)];simp[e,ih]
theorem tD{m k:Nat}{hs:List Int}{ow:Array (Option Nat)}(L:Lay m hs ow k):(dh m ow).length=k:=by
 unfold dh;rw[tx (f:=fun j=>ow.getD j none),<-L.cnt];congr 1;refine List.ext_getElem (by simp[L.sz]) fun i h1 h2=>?_;simp at h1 h2;simp[E1,h2]
theorem tE:∀(n:Nat)(l:List Nat),l.Nodup->(∀x∈l,x<n)->l.length<=n
 |0,l,_,h=>by
  cases l with
  |nil=>simp
  |cons a l=>exact absurd (h a<|BR ..) (by omega)
 |n+1,l,nd,h=>by
  by_cases z:n∈l
  ·have:=tE n (l.erase n) (nd.erase n) fun x hx=>by
    have h1:=h x<|FH hx;have h2:x≠n:=fun e=>by subst e;exact(F8 nd) hx
    omega
   rw[F9 z]at this;omega
  ·have:=tE n l nd fun x hx=>by
    have h1:=h x hx;have h2:x≠n:=fun e=>z<|e▸hx;omega
   omega
theorem pJ:∀(n:Nat)(l:List Nat),l.Nodup->(∀x∈l,x<n)->l.length=n->l.Perm (CZ n)
 |0,l,_,_,h=>by rw[Fn.mp h];exact .refl _
 |n+1,l,nd,h,hl=>by
  have z:n∈l:=by
   by_cases z:n∈l;·exact z
   ·have:=tE n l nd fun x hx=>by
     have h1:=h x hx;have h2:x≠n:=fun e=>z<|e▸hx;omega
    omega
  have:=pJ n (l.erase n) (nd.erase n) (fun x hx=>by
    have h1:=h x<|FH hx;have h2:x≠n:=fun e=>by subst e;exact(F8 nd) hx
    omega) (by rw[F9 z];omega)
  rw[List.range_succ];exact(List.perm_cons_erase z).trans ((List.Perm.cons n this).trans (List.perm_append_singleton n _).symm)
theorem vH{l:List Nat}(h:l.Pairwise (· < ·)):Up l.toArray:=fun a b hab hb=>by
 have hb':b<l.length:=by simpa using hb
 have:=DE.mp h a b (by omega) hb' hab;simpa [E1,show a<l.length by omega,hb'] using this
theorem kW{m i:Nat}(h:i<=m):i+(Cp m i-i)<=m:=by unfold Cp;split<;>omega
theorem z6{m:Nat}{p:Pr}(h:p.j+p.more<=m):(fV m p).j+(fV m p).more<=m:=by
 unfold fV;split;·show p.j+1+(p.more-1)<=m;omega
 ·refine kW ?_;show(p.i*5+1+p.perturb/32)%(m+1)<=m;have:=Hn (p.i*5+1+p.perturb/32) (show 0<m+1 by omega);omega
theorem z7{m:Nat}:∀(n:Nat){p:Pr},p.j+p.more<=m->(itM m n p).j+(itM m n p).more<=m
 |0,_,h=>h
 |n+1,_,h=>z7 n<|z6 h
theorem wV{m:Nat}{h:Int}(n:Nat):(itM m n<|stM m h).j<=m:=by
 have:=z7 (m:=m) n (p:=stM m h) (kW (i:=Cc h%(m+1)) (by have:=Hn (Cc h) (show 0<m+1 by omega);omega));omega
theorem vI{m:Nat}(hm:isMask m){hs:Array Int}(hl:hs.size<=m)(fi mo:Nat)(led plain:Bool):
  ∃t order,Ko m fi mo led plain hs=some (t,order)/\t.mask=m/\t.led=led/\t.plain=plain/\order.toList.Perm (CZ hs.size)/\Tp t (order.toList.map fun i=>hs.toList.getD i 0):=by
 obtain⟨ow,e,L⟩:=mZ hm hl;refine⟨_,_,by unfold Ko;rw[e];rfl,rfl,rfl,rfl,?_,?_⟩
 ·show((dh m ow).map (·.2)).toArray.toList.Perm _;have len:=tD L;have inc:=lT (f:=fun j=>ow.getD j none)<|Hq (n:=m+1);have nd1:((dh m ow).map (·.1)).Nodup:=inc.imp fun h=>BO h;refine pJ hs.size _ ?_ (fun x hx=>?_) (by simpa using len)
  ·show((dh m ow).map (·.2)).Nodup;rw[Ce,DT];rw[Ce,DT]at nd1;refine nd1.imp_of_mem fun{a b}ha hb hne e=>hne ?_;have h1:=(fu L.sz (j:=a.1) (i:=a.2)).mp ha;have h2:=(fu L.sz (j:=b.1) (i:=b.2)).mp hb;rw[<-e]at h2;exact L.inj _ _ _ h1 h2
  ·obtain⟨y,hy,rfl⟩:=C6.mp (show x∈(dh m ow).map (·.2)from hx);exact L.lt _ _<|(fu L.sz (j:=y.1) (i:=y.2)).mp hy
 ·have inc:=lT (f:=fun j=>ow.getD j none)<|Hq (n:=m+1);have inp:∀j,InP ((dh m ow).map (·.1)).toArray j↔∃i,ow[j]? =some (some i):=fun j=>by
   constructor
   ·rintro ⟨a,ha,e⟩;have ha':a<(dh m ow).length:=by simpa using ha
    have:((dh m ow)[a]).1=j:=by simpa [E1,ha'] using e
    have mem:=DH ha';rw[<-this];exact⟨_,(fu L.sz (j:=(dh m ow)[a].1) (i:=(dh m ow)[a].2)).mp mem⟩
   ·rintro ⟨i,hi⟩;have mem:=(fu L.sz).mpr hi;obtain⟨a,ha,e⟩:=D7.mp mem;exact⟨a,by simpa using ha,by simp[E1,ha,e]⟩
  have ocp:∀j,j<=m->Oc ow j->InP ((dh m ow).map (·.1)).toArray j:=fun j hj h=>(inp j).mpr ((ie (by have:=L.sz;omega)).mp h);refine⟨rfl,?_,vH inc,?_,hm,?_⟩
  ·show((dh m ow).map (·.1)).toArray.size=(List.map _ ((dh m ow).map (·.2)).toArray.toList).length;simp
  ·intro j hj;obtain⟨i,hi⟩:=(inp j).mp hj;have:=(E2.mp hi).1;have:=L.sz;show j<=m;omega
  ·intro a h ha;have ha2:((dh m ow)[a]?).map (fun y=>hs.toList.getD y.2 0)=some h:=by
    have:(((dh m ow).map (·.2)).map fun i=>hs.toList.getD i 0)[a]? =some h:=ha;rw[Gp,Bz]at this;exact this
   obtain⟨y,hy,e⟩:=Cw.mp ha2;have mem:=BJ hy;have at_:=(fu L.sz (j:=y.1) (i:=y.2)).mp mem;have lt:=L.lt _ _ at_;have hh:hs.toList[y.2]? =some h:=by
    have hlt:y.2<hs.toList.length:=by simpa using lt
    rw[BQ,Bn hlt]at e;rw[Bn hlt];exact congrArg some e
   obtain⟨n,q1,q2⟩:=L.reach _ _ _ at_ hh;have hla:a<(dh m ow).length:=(Bv.mp hy).1;refine⟨n,?_,fun n' h'=>?_⟩
   ·show(itM m n<|stM m h).j=((dh m ow).map (·.1)).toArray.getD a 0;rw[q1,Ct];simp only[List.getElem?_toArray,Bz,hy];rfl
   ·refine ocp _ ?_<|q2 n' h';by_cases z:(itM m n'<|stM m h).j<=m;·exact z
    ·exfalso;exact z<|wV n'
section
variable{prog:BK}{w:C2}{K:Type}[DecidableEq K]{knd:KeyKind prog w K}{A:Cj}{E:Bq->Bs->Prop}{s:Bs}
structure TupsOf(knd:KeyKind prog w K)(h:Heap)(es:List (Int×Bq))(ks:List (List K)):Prop where
 len:es.length=ks.length
 at_:∀(i:Nat)(e:Int×Bq),es[i]? =some e->∃k b,ks[i]? =some k/\e.2=.ref b/\D8 knd h k b/\e.1=tupleKeyHash knd k
theorem Tb.fits{t:CL}{es:Array (Int×Bq)}(T:Tb t (es.toList.map (·.1))):t.fits es.size=true:=by
 have h1:=T.sz;have h2:=T.room;have h3:=T.dm;simp at h1 h2;unfold Kp Ig;rw[h3];simp;omega
theorem tF{m:Nat}(h:isMask m):(m%2==0)=false:=by rcases h with rfl|rfl|rfl|rfl|rfl<;>rfl
theorem wW{m:Nat}:∀(k:Nat){p:Pr},p.dummy=none->(itM m k p).dummy=none
 |0,_,h=>h
 |k+1,p,h=>wW k (by unfold fV;split<;>exact h)
theorem jN{adding:Bool}{a x:Addr}{o:Obj}{es:Array (Int×Bq)}{ep:Nat}{t:CL}{ks:List (List K)}{kx:List K}(hu:A.units<cLine)(ho:s.heap.get? a=some o)(hd:o.data=.set es ep t)(T:Tb t (es.toList.map (·.1)))(hk:TupsOf knd s.heap es.toList ks)(hx:D8 knd s.heap kx x)
  (seen:∀(l:List Bq)(Q:Bool->Bs->Prop),(∀y∈l,∃e∈es.toList,y=e.2)->Q false s->wpAny (model prog w) A (searchCouldBeSeen (.ref x) l) Q E s) {Q:SetFound->Bs->Prop}:
  ∀(fuel G:Nat)(st:Option Pr),(st.getD<|t.probeStart<|tupleKeyHash knd kx).dummy=none->G<fuel->G<10*CS t.mask-> ¬InP t.place (itM t.mask G<|st.getD<|t.probeStart<|tupleKeyHash knd kx).j->(∀k',k'<G->InP t.place (itM t.mask k'<|st.getD<|t.probeStart<|tupleKeyHash knd kx).j)->
   ((∃k i,k<G/\t.place.getD i 0=(itM t.mask k<|st.getD<|t.probeStart<|tupleKeyHash knd kx).j/\ks[i]? =some kx)->∀r:Option Nat,r.isSome= !adding->Q (.there r) s)->
   ((∀k i,k<G->t.place.getD i 0=(itM t.mask k<|st.getD<|t.probeStart<|tupleKeyHash knd kx).j->i<es.size->ks[i]? ≠some kx)->Q (.free (itM t.mask G<|st.getD<|t.probeStart<|tupleKeyHash knd kx).j false) s)->
   wpAny (model prog w) A (setSearchFrom a (.ref x) (tupleKeyHash knd kx) adding fuel st) Q E s:=by
 intro fuel
 induction fuel with
 |zero=>intro G st _ h;exact absurd h (by omega)
 |succ fuel ih=>
  intro G st hdm hG hGt hn ha h1 h2;unfold setSearchFrom;refine Bk<|DU ho hd T.fits ?_;dsimp only;rw[if_neg (by unfold SetTable.gaveWay;rw[tF T.msk];decide)];generalize hp:st.getD (t.probeStart<|tupleKeyHash knd kx)=p at*
  have hA:∀(i:Nat)(h:Int),(es.toList.map (·.1))[i]? =some h->(fun(i:Nat)=>(es[i]?.map (fun(e:Int×Bq)=>e.1)).getD 0) i=h:=fun i h hh=>by
   rw[Bz,BB]at hh;show(es[i]?.map (fun(e:Int×Bq)=>e.1)).getD 0=h;rw[hh];rfl
  have go:=T.go hA (tupleKeyHash knd kx) G (10*CS t.mask) p hdm hGt hn ha;have hpr:t.probe (fun(i:Nat)=>(es[i]?.map (fun(e:Int×Bq)=>e.1)).getD 0) (tupleKeyHash knd kx) p=EH t (fun(i:Nat)=>(es[i]?.map (fun(e:Int×Bq)=>e.1)).getD 0) (tupleKeyHash knd kx) (10*CS t.mask) p:=rfl;rw[<-hpr]at go;rcases go with⟨k,i,g1,g2,g3,g4,g5,g6⟩|⟨g1,g2⟩
  ·have e:∀f,f=(fun(i:Nat)=>(es[i]?.map (fun(e:Int×Bq)=>e.1)).getD 0)->t.probe f (tupleKeyHash knd kx) p=some (.candidate (itM t.mask k p).j i (itM t.mask (k+1) p)):=fun f hf=>by rw[hf];exact g5
   have hi:i<es.size:=by simpa using g2
   obtain⟨ky,b,q1,q2,q3,q4⟩:=hk.at_ i es[i] (by rw[BB,C7 hi]);have hei:es[i]? =some (es[i].1,.ref b):=by rw[C7 hi,<-q2]
   have key_ne:∀k' i',k'<k->t.place.getD i' 0=(itM t.mask k' p).j->i'<es.size->ks[i']? ≠some kx:=fun k' i' hk' hi' hl hq=>by
    have hl':i'<es.toList.length:=by simpa using hl
    obtain⟨kz,c,z1,z2,z3,z4⟩:=hk.at_ i' es.toList[i'] (Bn hl');rw[z1]at hq;cases hq;refine g6 k' hk' i' hi' (by simpa using hl) ?_;rw[Bz,Bn hl',<-z4];rfl
   have one:∀i',t.place.getD i' 0=(itM t.mask k p).j->i'<es.size->i'=i:=fun i' hi' hl=>by
    have h1':i'<t.place.size:=by have:=T.sz;simp at this;omega
    have h2':i<t.place.size:=by have:=T.sz;simp at this;omega
    rw[<-gf T.up h1',hi',<-g3,gf T.up h2']
   have again:ky≠kx->wpAny (model prog w) A (setSearchFrom a (.ref x) (tupleKeyHash knd kx) adding fuel<|some<|itM t.mask (k+1) p) Q E s:=fun hne=>by
    have ad:∀n,itM t.mask n (itM t.mask (k+1) p)=itM t.mask (k+1+n) p:=fun n=>(eW t.mask (k+1) n p).symm;refine ih (G-(k+1)) (some<|itM t.mask (k+1) p) ?_ (by omega) (by omega) ?_ ?_ ?_ ?_;·exact wW (k+1) hdm
    ·show ¬InP t.place (itM t.mask _<|itM t.mask (k+1) p).j;rw[ad,show k+1+(G-(k+1))=G by omega];exact hn
    ·intro k' hk';show InP t.place (itM t.mask _<|itM t.mask (k+1) p).j;rw[ad];exact ha _ (by omega)
    ·rintro ⟨k',i',r1,r2,r3⟩ r hr;have r2':t.place.getD i' 0=(itM t.mask k'<|itM t.mask (k+1) p).j:=r2;rw[ad]at r2';exact h1 ⟨k+1+k',i',by omega,r2',r3⟩ r hr
    ·intro r;show Q (.free (itM t.mask _<|itM t.mask (k+1) p).j false) s;rw[ad,show k+1+(G-(k+1))=G by omega];refine h2 fun k' i' z1 z2 z3=>?_;by_cases y1:k'<k;·exact key_ne k' i' y1 z2 z3
     ·by_cases y2:k'=k
      ·subst y2;rw[one i' z2 z3,q1];intro z;injection z with z;exact hne z
      ·refine r (k'- (k+1)) i' (by omega) ?_ z3;show t.place.getD i' 0=(itM t.mask _<|itM t.mask (k+1) p).j;rw[ad,show k+1+(k'-(k+1))=k' by omega];exact z2
   have hlive:t.slot (itM t.mask k p).j=.live i:=by rw[<-g3];exact T.live (by have:=T.sz;simp at this;omega)
   have hmem:t.sameMemory t.moves t.mask=some true:=by unfold SetTable.sameMemory;simp
   rw[e]
   ·dsimp only;simp only[hei];by_cases hl:t.led=true
    ·rw[if_neg (by simp[hl])];refine Bk<|CV<|(tupleKind knd).eqBool hu q3 hx ?_;refine Bk<|DU ho hd T.fits ?_;dsimp only;by_cases hq:ky=kx
     ·rw[decide_eq_true hq];have hw:∃k i,k<G/\t.place.getD i 0=(itM t.mask k p).j/\ks[i]? =some kx:=⟨k,i,g1,g3,hq▸q1⟩
      cases adding with
      |true=>
       rw[if_pos (by decide)];exact Br<|h1 hw none rfl
      |false=>
       rw[if_neg (by decide),hmem];dsimp only;rw[if_pos rfl,hlive];dsimp only;rw[hei];dsimp only;refine Bk<|ED ?_;refine Bk<|Br ?_;exact Br<|h1 hw (some i) rfl
     ·rw[decide_eq_false hq,if_neg (by cases adding <;> decide),hmem];dsimp only;rw[if_pos rfl,hlive];dsimp only;rw[hei];dsimp only;refine Bk<|ED ?_;refine Bk<|Br ?_;exact again hq
    ·rw[if_pos (by simp[hl])];refine Bk<|seen _ _ (fun y hy=>?_) ?_
     ·obtain⟨z,hz,rfl⟩:=C6.mp hy;exact⟨z,by simp at hz;simpa using hz.1,rfl⟩
     rw[if_neg (by decide)];refine Bk<|CV<|(tupleKind knd).eqBool hu q3 hx ?_;refine Bk<|DU ho hd T.fits ?_;dsimp only;by_cases hq:ky=kx
     ·rw[decide_eq_true hq];have hw:∃k i,k<G/\t.place.getD i 0=(itM t.mask k p).j/\ks[i]? =some kx:=⟨k,i,g1,g3,hq▸q1⟩
      cases adding with
      |true=>
       rw[if_pos (by decide)];exact Br<|h1 hw none rfl
      |false=>
       rw[if_neg (by decide),hmem];dsimp only;rw[if_pos rfl,hlive];dsimp only;rw[hei];dsimp only;refine Bk<|ED ?_;refine Bk<|Br ?_;exact Br<|h1 hw (some i) rfl
     ·rw[decide_eq_false hq,if_neg (by cases adding <;> decide),hmem];dsimp only;rw[if_pos rfl,hlive];dsimp only;rw[hei];dsimp only;refine Bk<|ED ?_;refine Bk<|Br ?_;exact again hq
   ·rfl
  ·have e:∀f,f=(fun(i:Nat)=>(es[i]?.map (fun(e:Int×Bq)=>e.1)).getD 0)->t.probe f (tupleKeyHash knd kx) p=some (.empty (itM t.mask G p).j none):=fun f hf=>by rw[hf];exact g1
   rw[e]
   ·refine Br<|h2 fun k i hk' hi hl hq=>?_;have hl':i<es.toList.length:=by simpa using hl
    obtain⟨ky,b,q1,q2,q3,q4⟩:=hk.at_ i es.toList[i] (Bn hl');rw[q1]at hq;cases hq;refine g2 k hk' i hi (by simpa using hl) ?_;rw[Bz,Bn hl',<-q4];rfl
   ·rfl
end
section
variable{prog:BK}{w:C2}{K:Type}[DecidableEq K]{knd:KeyKind prog w K}{A:Cj}{E:Bq->Bs->Prop}{s:Bs}
theorem qV{n:Nat}{v:Bq}(h:carriedByValue v=true):ofAClassStatement n v=pure false:=by
 cases v<;>first|(cases n<;>rfl)|(exfalso;revert h;simp[carriedByValue])
theorem kX{ks:List K}{a:Addr}{Q:Bool->Bs->Prop}(hk:D8 knd s.heap ks a)(h:Q false s):wpAny (model prog w) A (ofAClassStatement 8<|.ref a) Q E s:=by
 have hT:=hk.typeIs;obtain⟨o,items,n,ho,_,hd,hi⟩:=hk;unfold ofAClassStatement;refine Bk<|wpAny_typeOf hT ?_;dsimp only;rw[if_pos (by rfl)];refine Bk<|Br ?_;rw[if_neg (by decide)];refine Bk<|Cy ho hd ?_;dsimp only;refine Bk ?_;show wpAny _ _ (forIn items _ _) _ _ s;rw[<-IE];refine Hd _ (fun rest r s'=>r.1=none/\s'=s/\∀v∈rest,carriedByValue v=true) _ ?_ ?_ _ _ ⟨rfl,rfl,hi.byValue⟩
 ·rintro v rest r s' ⟨hr,rfl,hall⟩;rw[qV<|hall v BR];refine Bk<|Br ?_;simp only[Cg,if_false];exact Br ⟨rfl,rfl,fun u hu'=>hall u<|BP _ hu'⟩
 ·rintro ⟨r1,r2⟩ s' ⟨hr,rfl,_⟩;simp only at hr;subst hr;exact Br h
theorem n6{kx:List K}{x:Addr}(hx:D8 knd s.heap kx x):∀(l:List Bq){Q:Bool->Bs->Prop},(∀y∈l,∃k b,y=.ref b/\D8 knd s.heap k b)->Q false s->wpAny (model prog w) A (searchCouldBeSeen (.ref x) l) Q E s:=by
 intro l Q hl h;unfold searchCouldBeSeen;refine Bk ?_;refine Hd _ (fun rest r s'=>r.1=none/\s'=s/\∀y∈rest,∃k b,y=.ref b/\D8 knd s.heap k b) _ ?_ ?_ _ _ ⟨rfl,rfl,hl⟩
 ·rintro v rest r s' ⟨hr,rfl,hall⟩;obtain⟨k,b,rfl,hb⟩:=hall v BR;dsimp only;by_cases z:x=b
  ·rw[if_pos (by simp[z])];exact Br ⟨rfl,rfl,fun u hu'=>hall u<|BP _ hu'⟩
  ·rw[if_neg (by simp[z,carriedByValue])];refine Bk<|(tupleKind knd).quiet hx ?_;simp only[FU,Cg,if_false];refine Bk<|(tupleKind knd).quiet hb ?_;simp only[FU,Cg,if_false];refine Bk<|kX hx ?_;simp only[Cg,if_false];refine Bk<|kX hb ?_;simp only[Cg,if_false];exact Br ⟨rfl,rfl,fun u hu'=>hall u<|BP _ hu'⟩
 ·rintro ⟨r1,r2⟩ s' ⟨hr,rfl,_⟩;simp only at hr;subst hr;exact Br h
end
section
variable{prog:BK}{w:C2}{K:Type}[DecidableEq K]{knd:KeyKind prog w K}
theorem tG{h h':Heap}{a b:Addr}{o:Obj}{es:Array (Int×Bq)}{ep:Nat}{t:CL}{k:List K}(hk:D8 knd h k b)(ho:h.get? a=some o)(hd:o.data=.set es ep t)(hs:BM a h h'):D8 knd h' k b:=by
 obtain⟨ob,items,n,h1,h2,h3,h4⟩:=hk;have ne:b≠a:=fun z=>by
  subst z;rw[ho]at h1;cases h1;rw[hd]at h3;cases h3
 exact⟨ob,items,n,(hs.2 b ne).trans h1,h2,h3,h4⟩
theorem TupsOf.keep{h h':Heap}{a:Addr}{o:Obj}{es:Array (Int×Bq)}{ep:Nat}{t:CL}{l:List (Int×Bq)}{ks:List (List K)}(T:TupsOf knd h l ks)(ho:h.get? a=some o)(hd:o.data=.set es ep t)(hs:BM a h h'):TupsOf knd h' l ks:=
 ⟨T.len,fun i e he=>let ⟨k,b,q1,q2,q3,q4⟩:=T.at_ i e he;⟨k,b,q1,q2,tG q3 ho hd hs,q4⟩⟩
end
section
variable{prog:BK}{w:C2}{K:Type}[DecidableEq K]{knd:KeyKind prog w K}{A:Cj}{E:Bq->Bs->Prop}{s:Bs}
theorem tH{ks:List K}{a:Addr}{Q:Bool->Bs->Prop}(hI:∀k∈ks,∀v,knd.is k v=true->∃i t,v=.int i t)(hk:D8 knd s.heap ks a)(h:Q true s):wpAny (model prog w) A (hashByValue 8<|.ref a) Q E s:=by
 have hT:=hk.typeIs;obtain⟨o,items,n,ho,_,hd,hi⟩:=hk;unfold hashByValue;refine Bk<|Hv hT F.slot_tuple_hash.lookup ?_;show wpAny _ _ (seqItems? (.ref a)>>=_) _ _ s;refine Bk<|Cy ho hd ?_;dsimp only;refine Bk ?_;show wpAny _ _ (forIn items _ _) _ _ s;rw[<-IE];have hall:∀v∈items.toList,∃i t,v=.int i t:=by
  clear hd ho;generalize items.toList=l at hi
  induction hi with
  |nil=>intro v hv;cases hv
  |cons h1 _ ih=>
   intro v hv;rcases BE.mp hv with rfl|hv
   ·exact hI _ (BR ..) _ h1
   ·exact ih (fun k hk=>hI k<|BP _ hk) v hv
 refine Hd _ (fun rest r s'=>r.1=none/\s'=s/\∀v∈rest,∃i t,v=EU i t) _ ?_ ?_ _ _ ⟨rfl,rfl,hall⟩
 ·rintro v rest r s' ⟨hr,rfl,hall⟩;obtain⟨i,t,rfl⟩:=hall v BR;show wpAny _ _ (hashByValue 7 (.int i t)>>=_) _ _ _;rw[show hashByValue 7 (.int i t)=pure true from rfl];refine Bk<|Br ?_;exact Br ⟨rfl,rfl,fun u hu'=>hall u<|BP _ hu'⟩
 ·rintro ⟨r1,r2⟩ s' ⟨hr,rfl,_⟩;simp only at hr;subst hr;exact Br h
structure SetT(knd:KeyKind prog w K)(h:Heap)(a:Addr)(led:Bool)(ks:List (List K))(o:Obj)(es:Array (Int×Bq))(ep:Nat)(t:CL):Prop where
 at_:h.get? a=some o
 ex:o.ExactSet
 dat:o.data=.set es ep t
 tab:Tb t (es.toList.map (·.1))
 tup:TupsOf knd h es.toList ks
 nd:ks.Nodup
 led:t.led=led
 pl:t.plain=true
theorem Tp.fits{t:CL}{es:Array (Int×Bq)}(T:Tp t (es.toList.map (·.1)))(h:es.size<=t.mask):t.fits es.size=true:=by
 have h1:=T.sz;have h3:=T.dm;simp at h1;unfold Kp Ig;rw[h3];simp;omega
theorem Tp.full{t:CL}{es:Array (Int×Bq)}(T:Tp t (es.toList.map (·.1))):t.tooFull=decide (es.size*5≥t.mask*3):=by
 have h1:=T.sz;simp at h1;unfold SetTable.tooFull Ig;rw[T.dm,h1];simp
theorem vJ{es:Array (Int×Bq)}{order:Array Nat}(h:order.toList.Perm (CZ es.size)):(order.filterMap (es[·]?)).toList=order.toList.map fun i=>es.toList.getD i (0,.none):=by
 rw[Array.toList_filterMap];have:∀i∈order.toList,i<es.size:=fun i hi=>by have:=h.mem_iff.mp hi;simpa using this
 generalize order.toList=l at this;clear h
 induction l with
 |nil=>rfl
 |cons i l ih=>
  have hi:=this i<|BR ..;rw[Ej,C7 hi,CO,ih fun j hj=>this j<|BP _ hj];congr 1;rw[BQ,Bn (by simpa using hi)];rfl
theorem kY{α:Type}(l:List α)(d:α):(CZ l.length).map (fun i=>l.getD i d)=l:=by
 apply DR;intro i;rw[Bz];by_cases z:i<l.length
 ·rw[Gk z,Bn z];simp[BQ,z]
 ·rw[DF (by simpa using z),DF (by simpa using z)];rfl
theorem TupsOf.order{h:Heap}{es:List (Int×Bq)}{ks:List (List K)}(U:TupsOf knd h es ks){l:List Nat}(hl:l.Perm (CZ es.length)):TupsOf knd h (l.map fun i=>es.getD i (0,.none)) (l.map fun i=>ks.getD i []):=by
 refine⟨by simp,fun i e he=>?_⟩;rw[Bz]at he;obtain⟨j,hj,e1⟩:=Cw.mp he;have hlt:j<es.length:=by have:=hl.mem_iff.mp<|BJ hj;simpa using this
 obtain⟨k,b,q1,q2,q3,q4⟩:=U.at_ j es[j] (Bn hlt);have e2:e=es[j]:=by rw[<-e1,BQ,Bn hlt];rfl
 subst e2;refine⟨k,b,?_,q2,q3,q4⟩;rw[Bz,hj];simp[BQ,q1]
theorem tI{a:Addr}{o:Obj}{es es1:Array (Int×Bq)}{ep n:Nat}{t t1:CL}{led:Bool}{ks1:List (List K)}(ho:s.heap.get? a=some o)(hex:o.ExactSet)(hd:o.data=.set es ep t)(T1:Tp t1 (es1.toList.map (·.1)))(U1:TupsOf knd s.heap es1.toList ks1)(nd1:ks1.Nodup)(hl:t1.led=led)(hpl:t1.plain=true)(hn:es1.size=n)(h0:0<n)(h63:n<=1000)(hr:(n-1)*5<t1.mask*3){Q:Bool->Bs->Prop}
  (h:∀h' ks' o' es' ep' t',BM a s.heap h'->SetT knd h' a led ks' o' es' ep' t'->ks'.Perm ks1->es'.toList.Perm es1.toList->Q true {s with heap:=h'}):
  wpAny (model prog w) A (do
    storeSet a es1 t1
    if(!false&&t1.tooFull)=true then setRelay a (ER n)
    pure true) Q E s:=by
 have put:∀(s:Bs)(o:Obj)es ep t(es':Array (Int×Bq))(t':CL),s.heap.get? a=some o->o.data=.set es ep t->(s.heap.update a<|GA es' t').get? a=some {o with data:=.set es' (ep+1) t'}:=fun s o es ep t es' t' ho hd=>by
  have:=E3 (GA es' t') ho (by rw[putSet_of es' t' hd];rfl);rw[putSet_of es' t' hd]at this;exact this
 have big:1000<=sizeLine:=by rw[CF];omega
 have mk:=T1.msk;refine Bk (IW ho hd ?_ (by omega));have ho1:=put s o es ep t es1 t1 ho hd;have sb1:=DC s.heap a<|GA es1 t1;have U2:=U1.keep ho hd sb1;rw[T1.full];by_cases z:es1.size*5≥t1.mask*3
 ·rw[decide_eq_true z,if_pos (by rfl)];unfold setRelay;refine Bk (Bk (DU ho1 rfl (T1.fits (by rcases mk with y|y|y|y|y<;>omega)) ?_));dsimp only;have hw:Fh (ER n)<=2048/\isMask (Fh (ER n)-1)/\n*5<(Fh (ER n)-1)*3:=by
   rcases mk with y|y|y|y|y
   ·have:n=5:=by omega
    subst this;exact⟨by decide,.inr (.inl (by decide)),by decide⟩
   ·have:n=19:=by omega
    subst this;exact⟨by decide,.inr (.inr (.inl (by decide))),by decide⟩
   ·have:n=77:=by omega
    subst this;exact⟨by decide,.inr (.inr (.inr (.inl (by decide)))),by decide⟩
   ·have:n=307:=by omega
    subst this;exact⟨by decide,.inr (.inr (.inr (.inr (by decide)))),by decide⟩
   ·omega
  rw[if_neg (by have:=hw.1;rw[CF];omega)];obtain⟨t2,order,e2,m2,l2,p2,pm,T2⟩:=vI hw.2.1 (hs:=es1.map (·.1)) (by simp;omega) t1.finger (t1.movedTo<|Fh (ER n)-1) t1.led t1.plain;have er:t1.relaid (es1.map (·.1)) (ER n)=some (t2,order):=e2;have pm':order.toList.Perm (CZ es1.size):=by simpa using pm
  have fm:=vJ (es:=es1) pm';have fs:(order.filterMap (es1[·]?)).size=es1.size:=by
   rw[<-BX,fm,BS,pm'.length_eq,IX]
  rw[er];have key:∀(f:Array (Int×Bq)->Option (CL×Array Nat)->Sem (Array (Int×Bq)×CL))(R:(Array (Int×Bq)×CL)->Bs->Prop)(s:Bs),(∀es l,f es l=(do
     let some (t,order):=l|unsupported "internal:set-table-without-room"
     let es':=order.filterMap (es[·]?)
     if es'.size != es.size then unsupported "internal:set-table-lost-an-element"
     pure (es',t)))->R (order.filterMap (es1[·]?),t2) s->wpAny (model prog w) A (f es1 (some (t2,order))) R E s:=fun f R s hf hR=>by
   rw[hf];dsimp only;rw[if_neg (by rw[fs];simp)];exact Br hR
  refine Bk<|key _ _ _ (fun _ _=>rfl) ?_;dsimp only;refine IW ho1 rfl ?_ (by rw[fs];omega);have ho2:=put {s with heap:=s.heap.update a (GA es1 t1)} _ _ _ _ (order.filterMap (es1[·]?)) t2 ho1 rfl;have sb2:=DC (s.heap.update a<|GA es1 t1) a (GA (order.filterMap (es1[·]?)) t2);have U3:=U2.order (l:=order.toList) (by simpa using pm');rw[<-fm]at U3;have U4:=U3.keep ho1 rfl sb2;have pk:(order.toList.map fun i=>ks1.getD i []).Perm ks1:=by
   have:=pm'.map<|fun i=>ks1.getD i [];have hl:es1.size=ks1.length:=by have:=U1.len;simpa using this
   rw[hl,kY]at this;exact this
  have pe:(order.filterMap (es1[·]?)).toList.Perm es1.toList:=by
   rw[fm];have:=pm'.map<|fun i=>es1.toList.getD i (0,CM);have hl:es1.size=es1.toList.length:=by simp
   rw[hl,kY]at this;exact this
  refine Br (h _ _ _ _ _ _ (sb1.trans sb2) ⟨ho2,hex,rfl,⟨?_,?_⟩,U4,pk.nodup_iff.mpr nd1,by rw[l2];exact hl,by rw[p2];exact hpl⟩ pk pe)
  ·rw[fm,Gp];have:((fun x:Int×Bq=>x.1)∘fun i=>es1.toList.getD i (0,.none))=fun i=>(es1.map (·.1)).toList.getD i 0:=funext fun i=>by
    simp only[Function.comp,BQ,Jb,Bz];cases es1.toList[i]? <;>rfl
   rw[this];exact T2
  ·rw[BS,BX,fs,m2];have:=hw.2.2;omega
 ·rw[decide_eq_false z,if_neg (by decide)];refine Br (h _ _ _ _ _ _ sb1 ⟨ho1,hex,rfl,⟨T1,by simp;omega⟩,U2,nd1,hl,hpl⟩ (.refl _)<|.refl _)
theorem vK{a x:Addr}{o:Obj}{es:Array (Int×Bq)}{ep:Nat}{t:CL}{led:Bool}{ks:List (List K)}{kx:List K}(hu:A.units<cLine)(S:SetT knd s.heap a led ks o es ep t)(hn:es.size<1000)(hx:D8 knd s.heap kx x)(hI:∀k∈kx,∀v,knd.is k v=true->∃i t,v=.int i t)
  {Q:Bool->Bs->Prop} {fuel:Nat}
  (h1:kx∈ks->Q false s) (h2:kx∉ks->∀h' ks' o' es' ep' t',BM a s.heap h'->SetT knd h' a led ks' o' es' ep' t'->ks'.Perm (kx::ks)->es'.toList.Perm ((tupleKeyHash knd kx,.ref x)::es.toList)->Q true {s with heap:=h'}):
  wpAny (model prog w) A (setAddHashedIn a (.ref x) (tupleKeyHash knd kx)<|fuel+1) Q E s:=by
 unfold setAddHashedIn;refine Bk<|DU S.at_ S.dat S.tab.fits ?_;dsimp only;rw[if_neg (by unfold byScan;simp[Jv])];obtain⟨G,g1,g2,g3⟩:=S.tab.gap<|mX t<|tupleKeyHash knd kx;have mem:∀i,i<es.size->ks[i]? =some kx->∃k,k<G/\t.place.getD i 0=(itM t.mask k<|t.probeStart<|tupleKeyHash knd kx).j:=fun i hi z=>by
  have hi':i<es.toList.length:=by simpa using hi
  obtain⟨k,b,q1,q2,q3,q4⟩:=S.tup.at_ i es.toList[i] (Bn hi');rw[q1]at z;cases z;obtain⟨n,r1,r2⟩:=S.tab.reach i (tupleKeyHash knd kx) (by rw[Bz,Bn hi',<-q4];rfl);refine⟨n,?_,r1.symm⟩;by_cases y:n<G;·exact y
  ·by_cases y2:n=G
   ·subst y2;refine absurd ?_ g2;rw[r1];exact⟨i,by have:=S.tab.sz;simp at this;omega,rfl⟩
   ·exact absurd (r2 G (by omega)) g2
 refine Bk ?_;unfold setSearch;have ht:t.mask<=2047:=by rcases S.tab.msk with z|z|z|z|z<;>omega
 refine jN (knd:=knd) hu S.at_ S.dat S.tab S.tup hx (fun l Q hl h=>n6 hx l (fun y hy=>?_) h) 100000 G none rfl (by unfold CS at g1;omega) g1 g2 g3 ?_ ?_
 ·obtain⟨e,he,rfl⟩:=hl y hy;obtain⟨i,hi,rfl⟩:=D7.mp he;obtain⟨k,b,q1,q2,q3,q4⟩:=S.tup.at_ i es.toList[i] (Bn hi);exact⟨k,b,q2,q3⟩
 ·rintro ⟨k,i,_,_,hq⟩ r hr;exact Br<|h1<|BJ hq
 ·intro hall;have nin:kx∉ks:=fun hm=>by
   obtain⟨i,hi,e⟩:=D7.mp hm;have hi':i<es.size:=by have:=S.tup.len;simp at this;omega
   have hq:ks[i]? =some kx:=by rw[Bn hi,e]
   obtain⟨k,q1,q2⟩:=mem i hi' hq;exact hall k i q1 q2 hi' hq
  refine Bk<|DU S.at_ S.dat S.tab.fits ?_;dsimp only;have jle:(itM t.mask G<|t.probeStart<|tupleKeyHash knd kx).j<=t.mask:=wV (m:=t.mask) (h:=tupleKeyHash knd kx) G;obtain⟨p1,p2,p3⟩:=S.tab.put g2 jle g3;have led1:(t.put (itM t.mask G<|t.probeStart<|tupleKeyHash knd kx).j).1.led=t.led:=rfl;simp only[Ha];generalize hP:t.put (itM t.mask G<|t.probeStart<|tupleKeyHash knd kx).j=P at*
  obtain⟨t1,p⟩:=P;dsimp only at p1 p2 p3 led1;have hp:p<=es.size:=by simpa using p1
  have il:=jM es p (tupleKeyHash knd kx,CN x);have T1:Tp t1 ((D4 es p (tupleKeyHash knd kx,CN x)).toList.map (·.1)):=by
   rw[il,List.map_append,CO,List.map_take,List.map_drop];exact p3
  have U1:TupsOf knd s.heap (D4 es p (tupleKeyHash knd kx,CN x)).toList (ks.take p++kx::ks.drop p):=by
   have hlen:=S.tup.len;have hp2:p<=ks.length:=by simp at hlen;omega
   rw[il];refine⟨by simp[hlen],fun i e he=>?_⟩;have l1:(es.toList.take p).length=p:=by simp;omega
   have l2:(ks.take p).length=p:=by simp;omega
   by_cases z:i<p
   ·rw[BL (by omega),Ca z]at he;obtain⟨k,b,q⟩:=S.tup.at_ i e he;exact⟨k,b,by rw[BL (by omega),Ca z];exact q.1,q.2⟩
   ·rw[BI (by omega),l1]at he;rw[BI (by omega),l2];by_cases y:i=p
    ·rw[y,Fz,Ds]at he ⊢;cases he;exact⟨kx,x,rfl,rfl,hx,rfl⟩
    ·rw[show i- p=(i- p- 1)+1 by omega,D5,CC]at he ⊢;exact S.tup.at_ _ e he
  have pk:(ks.take p++kx::ks.drop p).Perm (kx::ks):=Jc.trans (.cons kx (by rw[HE]));have nd1:(ks.take p++kx::ks.drop p).Nodup:=pk.nodup_iff.mpr<|DV.mpr ⟨nin,S.nd⟩;have room:=S.tab.room;have pl1:t1.plain=true:=by have:=S.pl;rw[<-this];have e:=congrArg (fun z:CL×Nat=>z.1.plain) hP;exact e.symm
  rw[if_pos pl1];refine Bk<|tH hI hx ?_;exact tI S.at_ S.ex S.dat T1 U1 nd1 (led1.trans S.led) pl1 (eN es hp _) (by omega) (by omega) (by rw[p2];simpa using room) fun h' ks' o' es' ep' t' a1 a2 a3 a4=>h2 nin h' ks' o' es' ep' t' a1 a2 (a3.trans pk) (a4.trans (by rw[il];exact Jc.trans (.cons _ (by rw[HE]))))
end
end Wb
namespace Wb
open PySem PySem.W PySem.Calls PyProof.Rows
section
variable{prog:BK}{w:C2}{A:Cj}{E:Bq->Bs->Prop}{s:Bs}{a I:Addr}{o:Obj}{es:Array (Int×Bq)}{ep:Nat}{t:CL}
structure SetR(w:C2)(o:Obj)(es:Array (Int×Bq))(ep:Nat)(t:CL):Prop where
 ex:o.ExactSet
 dat:o.data=.set es ep t
 tab:Tb t (es.toList.map (·.1))
 led:t.led= !w.params.followText "set-order"
 pl:t.plain=true
end
def PairAt(h:Heap)(v:Bq)(k:Int×Int):Prop:=∃b o t1 t2 n,v=.ref b/\h.get? b=some o/\o.cls=.type "tuple"/\o.data=.seq #[.int k.1 t1,.int k.2 t2] n
def me(a b:Int×Int):Bool:=decide (a.1<b.1)||(decide (a.1=b.1)&&decide (a.2<b.2))
theorem jb{a b:Int×Int}:me a b=true↔a.1<b.1\/(a.1=b.1/\a.2<b.2):=by unfold me;simp
theorem xN{a b c:Int×Int}(h:me a b=true)(h':me b c=true):me a c=true:=by rw[jb]at *;omega
theorem vL{a b:Int×Int}(hn:a≠b)(h:me a b=false):me b a=true:=by
 have h2:¬me a b=true:=by rw[h];decide
 rw[jb]at h2;rw[jb];by_cases z:a.1=b.1
 ·have:a.2≠b.2:=fun e=>hn<|Gy z e;omega
 ·omega
theorem pK(a:Int×Int):me a a=false:=by unfold me;simp
structure PairsAt(h:Heap)(vs:List Bq)(ks:List (Int×Int)):Prop where
 len:vs.length=ks.length
 at_:∀(i:Nat)(v:Bq),vs[i]? =some v->∃k,ks[i]? =some k/\PairAt h v k
section
variable{prog:BK}{w:C2}{A:Cj}{E:Bq->Bs->Prop}{s:Bs}
theorem vM{x y:Bq}{k l:Int×Int}{Q:Bool->Bs->Prop}(hx:PairAt s.heap x k)(hy:PairAt s.heap y l)(h:Q (me k l) s):wpAny (model prog w) A (keyLt' (tuples' true) x y) Q E s:=by
 obtain⟨bx,ox,t1,t2,n,rfl,hx,_,dx⟩:=hx;obtain⟨by_,oy,u1,u2,m,rfl,hy,_,dy⟩:=hy;refine kat_lt hx dx hy dy<|kat_cons<|H9<|kat_go (fun e=>kat_yes<|kat_cons<|H9<|kat_go (fun e'=>kat_yes<|kat_nil ?_) fun e'=>kat_no<|kat_one _ _<|lt_int ?_) fun e=>kat_no<|oneLt_int ?_
 ·have e1:k.1=l.1:=by simpa using e
  have e2:k.2=l.2:=by simpa using e'
  have:k=l:=Gy e1 e2;subst this;rw[pK]at h;simpa using h
 ·have e1:k.1=l.1:=by simpa using e
  show Q (decide<|k.2<l.2) s;unfold me at h;simpa [e1] using h
 ·have e1:¬k.1=l.1:=by simpa using e
  unfold me at h;simpa [e1] using h
theorem pL{h:Heap}:∀{vs:List Bq}{ks:List (Int×Int)},PairsAt h vs ks->∃fs,fs.length=vs.length/\KatTups h vs fs/\∀f∈fs,∃i t,f=EU i t
 | [],ks,P=>⟨[],rfl,trivial,fun f hf=>by cases hf⟩
 |v::vs,ks,P=>by
  obtain⟨k,q1,b,o,t1,t2,n,rfl,q3,q4,q5⟩:=P.at_ 0 v rfl;obtain⟨fs,l1,l2,l3⟩:=pL (h:=h) (vs:=vs) (ks:=ks.drop 1) ⟨by have:=P.len;simp at this ⊢;omega,fun i v e=>by
   obtain⟨k,a1,a2⟩:=P.at_ (i+1) v (by simpa using e);exact⟨k,by rw[CC,KA];exact a1,a2⟩⟩
  refine⟨.int k.1 t1::fs,by simp[l1],.cons q3 q4 q5 (by simp) l2,fun f hf=>?_⟩;rcases BE.mp hf with rfl|hf
  ·exact⟨_,_,rfl⟩
  ·exact l3 f hf
end
end Wb
namespace Wb
open PySem PyProof.Rows
abbrev at'(xs:Array BF)(i:Nat):BF:=xs.getD i (CM,CM)
structure LtOk(M:Ht)(A:Cj)(E:Bq->Bs->Prop)(s:Bs)(κ:FZ)(U:BF->Prop)(L:BF->BF->Bool):Prop where
 lt:∀(x y:BF)(st:Di)(Q:Option Bool->Di->Prop),U x->U y->kindOf st=κ->Q (some<|L x y) st->wpS M A E s (lt' x y) Q st
 tr:∀x y z,U x->U y->U z->L x y=true->L y z=true->L x z=true
 tot:∀x y,U x->U y->x≠y->L x y=false->L y x=true
 irr:∀x,L x x=false
structure SB(κ:FZ)(a0:List BF)(st:Di):Prop where
 kind:kindOf st=κ
 failed:failedOf st=none
 perm:(arrOf st).toList.Perm a0
def Sr(L:BF->BF->Bool)(xs:Array BF)(a b:Nat):Prop:=∀i j,a<=i->i<j->j<b->L (at' xs i) (at' xs j)=true
theorem dB{xs:Array BF}{i:Nat}(h:i<xs.size):xs[i]? =some (at' xs i):=by simp[E1,h]
theorem eX{xs:Array BF}{i:Nat}(h:i<xs.size):at' xs i=xs.toList[i]'(by simpa using h):=by simp[E1,h]
section
variable{M:Ht}{A:Cj}{E:Bq->Bs->Prop}{s:Bs}{κ:FZ}{U:BF->Prop}{L:BF->BF->Bool}{a0:List BF}{st:Di}
theorem SB.size(B:SB κ a0 st):(arrOf st).size=a0.length:=by rw[<-BX];exact B.perm.length_eq
theorem SB.u(B:SB κ a0 st)(hU:∀x∈a0,U x){i:Nat}(hi:i<a0.length):U (at' (arrOf st) i):=by
 have h:=B.size;rw[eX (by omega)];exact hU _<|B.perm.mem_iff.mp<|DH _
theorem z8{xs:Array BF}(nd:xs.toList.Nodup){i j:Nat}(hi:i<xs.size)(hj:j<xs.size)(hij:i≠j):at' xs i≠at' xs j:=by
 rw[eX hi,eX hj];have pw:=DE.mp<|Ce.mp nd;rcases Nat.lt_or_gt_of_ne hij with z|z
 ·exact pw i j _ _ z
 ·exact fun e=>pw j i _ _ z e.symm
theorem SB.ne(B:SB κ a0 st)(nd:a0.Nodup){i j:Nat}(hi:i<a0.length)(hj:j<a0.length)(hij:i≠j):at' (arrOf st) i≠at' (arrOf st) j:=by
 have h:=B.size;exact z8 (B.perm.nodup_iff.mpr nd) (by omega) (by omega) hij
theorem SB.set(B:SB κ a0 st){xs:Array BF}(h:xs.Perm (arrOf st)):SB κ a0 (setArr st xs):=⟨B.kind,B.failed,(Array.perm_iff_toList_perm.mp h).trans B.perm⟩
theorem bo{arr:Array BF}{i:Nat}{Q:BF->Di->Prop}(hi:i<arr.size)(h:Q (at' arr i) st):wpS M A E s (elem' arr i) Q st:=by
 rw[elem'_eq,dB hi];exact BD h
theorem ig(O:LtOk M A E s κ U L)(hU:∀x∈a0,U x)(B:SB κ a0 st){i j:Nat}{Q:Option Bool->Di->Prop}(hi:i<a0.length)(hj:j<a0.length)(h:Q (some<|L (at' (arrOf st) i)<|at' (arrOf st) j) st):wpS M A E s (ltAt' i j) Q st:=by
 have hs:=B.size;rw[ltAt'_eq];refine Bw (FA (Bw (bo (by omega) (Bw (bo (by omega) ?_)))));exact O.lt _ _ _ _ (B.u hU hi) (B.u hU hj) B.kind h
theorem qW{xs:Array BF}{src d:Nat}(hs:src<xs.size)(hd:d<=src)(k:Nat):at' (bubble xs src d) k=if k=src-d then at' xs src else if src-d<k/\k<=src then at' xs (k-1)else at' xs k:=by
 simp only[at',Ct];rw[getElem?_bubble hs _ hd];split;·rfl
 ·split<;>rfl
theorem qX{xs:Array BF}{i j:Nat}(hj:j<=xs.size)(k:Nat):at' (mirror xs i j<|(j-i)/2) k=if i<=k/\k<j then at' xs (i+j-1-k)else at' xs k:=by
 simp only[at',Ct];rw[getElem?_mirror_all hj];split<;>rfl
theorem vN(O:LtOk M A E s κ U L)(hU:∀x∈a0,U x)(nd:a0.Nodup){lo n ok:Nat}{Q:Bool->Di->Prop}(hn:lo+n<=a0.length)(hok:ok<=n)(B:SB κ a0 st)(hs:Sr L (arrOf st) lo (lo+ok))
  (h:∀st',SB κ a0 st'->pendingOf st'=pendingOf st->Sr L (arrOf st') lo (lo+n)->(∀i,i<lo\/lo+n<=i->at' (arrOf st') i=at' (arrOf st) i)->Q true st'):wpS M A E s (binarySort' lo n ok) Q st:=by
 rw[binarySort'_eq];refine Bw (Eo (CK (I:=fun k c st'=>c=(none,())/\SB κ a0 st'/\pendingOf st'=pendingOf st/\Sr L (arrOf st') lo (lo+min k n)/\∀i,i<lo\/lo+n<=i->at' (arrOf st') i=at' (arrOf st) i)
  (Q:=fun c st'=>c=(none,())/\SB κ a0 st'/\pendingOf st'=pendingOf st/\Sr L (arrOf st') lo (lo+n)/\∀i,i<lo\/lo+n<=i->at' (arrOf st') i=at' (arrOf st) i) ?step ?fin ?init) ?post)
 case post=>
  rintro c st' ⟨rfl,h1,h2,h3,h4⟩;exact BD<|h st' h1 h2 h3 h4
 case init=>
  refine⟨rfl,B,rfl,fun i j h1 h2 h3=>?_,fun i _=>rfl⟩;exact hs i j h1 h2 (by omega)
 case fin=>
  rintro c st' ⟨hc,h1,h2,h3,h4⟩;rw[show min (max (max ok 1) n) n=n by omega]at h3;exact⟨hc,h1,h2,h3,h4⟩
 case step=>
  rintro k c st' hak hkn ⟨rfl,B',hp,hs',hout⟩;rw[show min k n=k by omega]at hs';have hsz:=B'.size;refine Bw (Eo (CK (I:=fun x c st''=>st''=st'/\∃l r,c=(none,l,r)/\l<=r/\r<=k/\r-l<=k-x/\
    (∀i,i<l->L (at' (arrOf st') (lo+i)) (at' (arrOf st') (lo+k))=true)/\(∀i,r<=i->i<k->L (at' (arrOf st') (lo+k)) (at' (arrOf st') (lo+i))=true))
   (Q:=fun c st''=>st''=st'/\∃l r,c=(none,l,r)/\l<=k/\
    (∀i,i<l->L (at' (arrOf st') (lo+i)) (at' (arrOf st') (lo+k))=true)/\(∀i,l<=i->i<k->L (at' (arrOf st') (lo+k)) (at' (arrOf st') (lo+i))=true)) ?istep ?ifin ?iinit) ?ipost)
  case iinit=>exact⟨rfl,0,k,rfl,by omega,by omega,by omega,fun i hi=>by omega,fun i h1 h2=>by omega⟩
  case ifin=>
   rintro c st'' ⟨rfl,l,r,rfl,hlr,hrk,hm,hlo,hhi⟩;have:l=r:=by omega
   subst this;exact⟨rfl,l,l,rfl,hrk,hlo,hhi⟩
  case istep=>
   rintro x c st'' _ hxk ⟨rfl,l,r,rfl,hlr,hrk,hm,hlo,hhi⟩;dsimp only;by_cases hge:l≥r
   ·rw[if_pos hge];have:l=r:=by omega
    subst this;exact BD ⟨rfl,l,l,rfl,hrk,hlo,hhi⟩
   ·rw[if_neg hge];refine Bw (ig O hU B' (by omega) (by omega) ?_);have uu:∀i,i<=k->U (at' (arrOf st'')<|lo+i):=fun i hi=>B'.u hU (by omega);cases hless:L (at' (arrOf st'')<|lo+k) (at' (arrOf st'')<|lo+(l+r)/2)with
    |true=>
     simp only[if_true];refine BD ⟨rfl,l,(l+r)/2,rfl,by omega,by omega,by omega,hlo,fun i h1 h2=>?_⟩;by_cases y:i=(l+r)/2;·rw[y];exact hless
     ·exact O.tr _ _ _ (uu _ (by omega)) (uu _ (by omega)) (uu _ (by omega)) hless (hs' _ _ (by omega) (by omega) (by omega))
    |false=>
     simp only[Cg,if_false];have q:=O.tot _ _ (uu _ (by omega)) (uu _ (by omega)) (B'.ne nd (by omega) (by omega) (by omega)) hless;refine BD ⟨rfl,(l+r)/2+1,r,rfl,by omega,by omega,by omega,fun i h1=>?_,hhi⟩;by_cases y:i=(l+r)/2;·rw[y];exact q
     ·exact O.tr _ _ _ (uu _ (by omega)) (uu _ (by omega)) (uu _ (by omega)) (hs' _ _ (by omega) (by omega) (by omega)) q
  case ipost=>
   rintro c st'' ⟨rfl,l,r,rfl,hlk,hlo,hhi⟩;show wpS _ _ _ _ (do moveDown' (lo+k) (lo+l);pure (Cm (none,()))) _ _;rw[moveDown'_eq];have e1:∀i,at' (bubble (arrOf st'') (lo+k)<|lo+k-(lo+l)) i=if i=lo+l then at' (arrOf st'') (lo+k)else if lo+l<i/\i<=lo+k then at' (arrOf st'') (i-1)else at' (arrOf st'') i:=fun i=>by
    rw[qW (by omega) (by omega),show lo+k-(lo+k-(lo+l))=lo+l by omega]
   refine Bw<|Dn<|BD ⟨rfl,B'.set<|bubble_perm _ _ _,hp,?_,fun i hi=>?_⟩
   ·rw[show min (k+1) n=k+1 by omega];intro i j h1 h2 h3;show L (at' (bubble (arrOf st'') (lo+k)<|lo+k-(lo+l)) i) (at' (bubble (arrOf st'') (lo+k)<|lo+k-(lo+l)) j)=true;rw[e1,e1];have hlo':∀i,lo<=i->i<lo+l->L (at' (arrOf st'') i) (at' (arrOf st'')<|lo+k)=true:=fun i h1 h2=>by
     have:=hlo (i-lo) (by omega);rwa [show lo+(i-lo)=i by omega]at this
    have hhi':∀i,lo+l<=i->i<lo+k->L (at' (arrOf st'')<|lo+k) (at' (arrOf st'') i)=true:=fun i h1 h2=>by
     have:=hhi (i-lo) (by omega) (by omega);rwa [show lo+(i-lo)=i by omega]at this
    repeat' split
    all_goals first
     |(exfalso;omega)
     |exact hlo' _ (by omega) (by omega)
     |exact hhi' _ (by omega) (by omega)
     |exact hs' _ _ (by omega) (by omega) (by omega)
   ·show at' (bubble (arrOf st'') (lo+k)<|lo+k- (lo+l)) i=_;rw[e1,if_neg (by omega),if_neg (by omega)];exact hout i hi
end
section
variable{M:Ht}{A:Cj}{E:Bq->Bs->Prop}{s:Bs}{κ:FZ}{U:BF->Prop}{L:BF->BF->Bool}{a0:List BF}{st:Di}
theorem z9(O:LtOk M A E s κ U L)(hU:∀x∈a0,U x)(nd:a0.Nodup){lo nrem n0:Nat}{Q:Option (Option Nat)×Nat->Di->Prop}(hn:lo+nrem<=a0.length)(h1:1<=n0)(h2:n0<=nrem)(B:SB κ a0 st)(hs:Sr L (arrOf st) lo (lo+n0))
  (h:∀n,n0<=n->n<=nrem->Sr L (arrOf st) lo (lo+n)->(n=nrem\/L (at' (arrOf st)<|lo+n) (at' (arrOf st)<|lo+n-1)=true)->Q (none,n) st):
  wpS M A E s (forIn [n0:nrem] ((none:Option (Option Nat)),n0) fun _ c=>do
   let some smaller <-ltAt' (lo+c.2) (lo+c.2-1)|pure (C1 (some none,c.2))
   if smaller=true then pure (C1 (none,c.2))else pure (Cm (none,c.2+1))) Q st:=by
 refine CK (I:=fun x c st'=>st'=st/\c=(none,x)/\n0<=x/\x<=nrem/\Sr L (arrOf st) lo (lo+x)) ?step ?fin ⟨rfl,rfl,Bt _,h2,hs⟩
 case fin=>
  rintro c st' ⟨rfl,rfl,q1,q2,q3⟩;rw[show max n0 nrem=nrem by omega]at q3 ⊢;exact h nrem h2 (Bt _) q3<|.inl rfl
 case step=>
  rintro x c st' hx1 hx2 ⟨rfl,rfl,q1,q2,q3⟩;dsimp only;have uu:∀i,i<a0.length->U (at' (arrOf st') i):=fun i hi=>B.u hU hi;refine Bw (ig O hU B (by omega) (by omega) ?_);cases hless:L (at' (arrOf st')<|lo+x) (at' (arrOf st')<|lo+x-1)with
  |true=>
   dsimp only;rw[if_pos rfl];exact BD<|h x q1 q2 q3<|.inr hless
  |false=>
   dsimp only;rw[if_neg (by decide)];have q:=O.tot _ _ (uu _ (by omega)) (uu _ (by omega)) (B.ne nd (by omega) (by omega) (by omega)) hless;refine BD ⟨rfl,rfl,by omega,by omega,fun i j g1 g2 g3=>?_⟩;by_cases z:j<lo+x;·exact q3 i j g1 g2 z
   ·have:j=lo+x:=by omega
    subst this;by_cases y:i=lo+x-1;·rw[y];exact q
    ·exact O.tr _ _ _ (uu _ (by omega)) (uu _ (by omega)) (uu _ (by omega)) (q3 i (lo+x-1) g1 (by omega) (by omega)) q
theorem zc(O:LtOk M A E s κ U L)(hU:∀x∈a0,U x)(nd:a0.Nodup){lo nrem n0:Nat}{Q:Option (Option Nat)×Nat×Nat->Di->Prop}(hn:lo+nrem<=a0.length)(h1:2<=n0)(h2:n0<=nrem)(B:SB κ a0 st)(hs:∀i j,lo<=i->i<j->j<lo+n0->L (at' (arrOf st) j) (at' (arrOf st) i)=true)
  (h:∀n,n0<=n->n<=nrem->(∀i j,lo<=i->i<j->j<lo+n->L (at' (arrOf st) j) (at' (arrOf st) i)=true)->Q (none,n,0) st):
  wpS M A E s (forIn [n0:nrem] ((none:Option (Option Nat)),n0,0) fun _ c=>do
   let some smaller <-ltAt' (lo+c.2.1) (lo+c.2.1-1)|pure (C1 (some none,c.2.1,c.2.2))
   if smaller=true then
    if c.2.2>0 then
     reverseSlice' (lo+c.2.1-(c.2.2+1)) (lo+c.2.1)
     pure (Cm (none,c.2.1+1,0))
    else pure (Cm (none,c.2.1+1,0))
   else
    let some larger <-ltAt' (lo+c.2.1-1) (lo+c.2.1)|pure (C1 (some none,c.2.1,c.2.2))
    if larger=true then pure (C1 (none,c.2.1,c.2.2))else pure (Cm (none,c.2.1+1,c.2.2+1))) Q st:=by
 refine CK (I:=fun x c st'=>st'=st/\c=(none,x,0)/\n0<=x/\x<=nrem/\∀i j,lo<=i->i<j->j<lo+x->L (at' (arrOf st) j) (at' (arrOf st) i)=true) ?step ?fin ⟨rfl,rfl,Bt _,h2,hs⟩
 case fin=>
  rintro c st' ⟨rfl,rfl,q1,q2,q3⟩;rw[show max n0 nrem=nrem by omega]at q3 ⊢;exact h nrem h2 (Bt _) q3
 case step=>
  rintro x c st' hx1 hx2 ⟨rfl,rfl,q1,q2,q3⟩;dsimp only;have uu:∀i,i<a0.length->U (at' (arrOf st') i):=fun i hi=>B.u hU hi;refine Bw (ig O hU B (by omega) (by omega) ?_);cases hless:L (at' (arrOf st')<|lo+x) (at' (arrOf st')<|lo+x-1)with
  |true=>
   dsimp only;rw[if_pos rfl,if_neg (by omega)];refine BD ⟨rfl,rfl,by omega,by omega,fun i j g1 g2 g3=>?_⟩;by_cases z:j<lo+x;·exact q3 i j g1 g2 z
   ·have:j=lo+x:=by omega
    subst this;by_cases y:i=lo+x-1;·rw[y];exact hless
    ·exact O.tr _ _ _ (uu _ (by omega)) (uu _ (by omega)) (uu _ (by omega)) hless (q3 i (lo+x-1) g1 (by omega) (by omega))
  |false=>
   dsimp only;rw[if_neg (by decide)];have q:=O.tot _ _ (uu _ (by omega)) (uu _ (by omega)) (B.ne nd (by omega) (by omega) (by omega)) hless;refine Bw (ig O hU B (by omega) (by omega) ?_);rw[q];dsimp only;rw[if_pos rfl];exact BD<|h x q1 q2 q3
theorem xO(O:LtOk M A E s κ U L)(hU:∀x∈a0,U x)(nd:a0.Nodup){lo nrem:Nat}{Q:Option Nat->Di->Prop}(hn:lo+nrem<=a0.length)(h1:1<=nrem)(B:SB κ a0 st)
  (h:∀n st',1<=n->n<=nrem->SB κ a0 st'->pendingOf st'=pendingOf st->Sr L (arrOf st') lo (lo+n)->(∀i,i<lo\/lo+nrem<=i->at' (arrOf st') i=at' (arrOf st) i)->Q (some n) st'):wpS M A E s (countRun' lo nrem) Q st:=by
 rw[countRun'_eq];refine Bw (z9 O hU nd hn (Bt _) h1 B (fun i j g1 g2 g3=>by omega) fun n n1 n2 n3 n4=>?_);dsimp only;by_cases z:n=nrem
 ·rw[if_pos (by simpa using z)];exact BD<|h n st n1 n2 B rfl n3 fun _ _=>rfl
 rw[if_neg (by simpa using z)];have n5:L (at' (arrOf st)<|lo+n) (at' (arrOf st)<|lo+n-1)=true:=n4.resolve_left z;by_cases y:n>1
 ·rw[if_pos y];refine Bw (ig O hU B (by omega) (by omega) ?_);rw[n3 lo (lo+n-1) (Bt _) (by omega) (by omega)];dsimp only;rw[if_pos rfl];exact BD<|h n st n1 n2 B rfl n3 fun _ _=>rfl
 rw[if_neg y];have:n=1:=by omega
 subst this;refine Bw<|He<|Ee ⟨rfl,?_⟩;refine Bw (zc O hU nd hn (Bt _) (by omega) B (fun i j g1 g2 g3=>?_) fun m m1 m2 m3=>?_)
 ·have:i=lo/\j=lo+1:=by omega
  rw[this.1,this.2];exact n5
 dsimp only;rw[if_neg (by omega)];rw[reverseSlice'_eq];refine Bw<|Dn ?_;have hsz:=B.size;have e1:∀k,at' (mirror (arrOf st) lo (lo+m)<|(lo+m-lo)/2) k=if lo<=k/\k<lo+m then at' (arrOf st) (lo+(lo+m)-1-k)else at' (arrOf st) k:=fun k=>qX (by omega) k;have B2:SB κ a0 (setArr st<|mirror (arrOf st) lo (lo+m)<|(lo+m-lo)/2):=B.set<|mirror_perm _ _ _ _;refine Bw (z9 O hU nd hn (by omega) m2 B2 (fun i j g1 g2 g3=>?_) fun k k1 k2 k3 k4=>?_)
 ·show L (at' (mirror (arrOf st) lo (lo+m)<|(lo+m- lo)/ 2) i) (at' (mirror (arrOf st) lo (lo+m)<|(lo+m- lo)/ 2) j)=true;rw[e1,e1,if_pos (by omega),if_pos (by omega)];exact m3 _ _ (by omega) (by omega) (by omega)
 ·dsimp only;refine BD (h k _ (by omega) k2 B2 rfl k3 fun i hi=>?_);show at' (mirror (arrOf st) lo (lo+m)<|(lo+m-lo)/2) i=_;rw[e1,if_neg (by omega)]
end
def dP:Bool->BF->Array BF->Nat->Nat->Nat->StateT Di Sem (Option Nat):=sortPriv%PySem.Builtin.gallop
def wX(left:Bool)(key:BF)(arr:Array BF)(base i:Nat):StateT Di Sem (Option Bool):=do
    let x <-elem' arr (base+i)
    if left then lt' x key else return (<-lt' key x).map (!·)
theorem oj(left:Bool)(key:BF)(arr:Array BF)(base n hint:Nat):dP left key arr base n hint=(do
 let mut lastofs:=0
 let mut ofs:=1
 let mut lo:=0
 let mut hi:=0
 let some right <-wX left key arr base hint|return none
 if right then
  let maxofs:=n-hint
  for _ in [0:n]do
   if ofs≥maxofs then break
   let some more <-wX left key arr base (hint+ofs)|return none
   if !more then break
   lastofs:=ofs
   ofs:=2*ofs+1
  lo:=hint+lastofs+1
  hi:=hint+min ofs maxofs
 else
  let maxofs:=hint+1
  for _ in [0:n]do
   if ofs≥maxofs then break
   let some found <-wX left key arr base (hint-ofs)|return none
   if found then break
   lastofs:=ofs
   ofs:=2*ofs+1
  lo:=hint+1-min ofs maxofs
  hi:=hint-lastofs
 for _ in [0:n]do
  if lo≥hi then break
  let m:=lo+(hi-lo)/2
  let some more <-wX left key arr base m|return none
  if more then lo:=m+1 else hi:=m
 return some hi):=rfl
section
variable{M:Ht}{A:Cj}{E:Bq->Bs->Prop}{s:Bs}{κ:FZ}{U:BF->Prop}{L:BF->BF->Bool}{st:Di}
def B'(L:BF->BF->Bool)(left:Bool)(key:BF)(arr:Array BF)(base i:Nat):Bool:=if left then L (at' arr<|base+i) key else !L key (at' arr<|base+i)
theorem xP(O:LtOk M A E s κ U L){left:Bool}{key:BF}{arr:Array BF}{base i:Nat}{Q:Option Bool->Di->Prop}(hk:U key)(hu:U (at' arr<|base+i))(hi:base+i<arr.size)(kd:kindOf st=κ)(h:Q (some<|B' L left key arr base i) st):wpS M A E s (wX left key arr base i) Q st:=by
 unfold wX;refine Bw<|bo hi ?_;unfold B' at h;cases left with
 |true=>exact O.lt _ _ _ _ hu hk kd h
 |false=>exact Bw<|O.lt _ _ _ _ hk hu kd<|BD h
theorem di(O:LtOk M A E s κ U L){left:Bool}{key:BF}{arr:Array BF}{base n hint:Nat}{Q:Option Nat->Di->Prop}(hk:U key)(hu:∀i,i<n->U (at' arr<|base+i))(hz:base+n<=arr.size)(hh:hint<n)(kd:kindOf st=κ)
  (mono:∀i j,i<j->j<n->B' L left key arr base j=true->B' L left key arr base i=true)
  (h:∀k,k<=n->(∀i,i<n->(B' L left key arr base i=true↔i<k))->Q (some k) st):wpS M A E s (dP left key arr base n hint) Q st:=by
 rw[oj];have ask:∀i(R:Option Bool->Di->Prop),i<n->R (some<|B' L left key arr base i) st->wpS M A E s (wX left key arr base i) R st:=fun i R hi hR=>xP O hk (hu i hi) (by omega) kd hR;generalize hB:B' L left key arr base=B at*
 have fin:∀lo hi,lo<=hi->hi<=n->(∀i,i<lo->B i=true)->(∀i,hi<=i->i<n->B i=false)->∀k:Option (Option Nat)×Nat×Nat->StateT Di Sem (Option Nat),(∀l r,k (none,l,r)=pure (some r))->wpS M A E s (do
   let c <-forIn [0:n] ((none:Option (Option Nat)),lo,hi) fun _ c=>do
    if c.2.1≥c.2.2 then pure (C1 (none,c.2.1,c.2.2))else
     let some more <-wX left key arr base (c.2.1+(c.2.2-c.2.1)/2)|pure (C1 (some none,c.2.1,c.2.2))
     if more=true then pure (Cm (none,c.2.1+(c.2.2-c.2.1)/2+1,c.2.2))else pure (Cm (none,c.2.1,c.2.1+(c.2.2-c.2.1)/2))
   k c) Q st:=by
  intro lo hi hlo hhi h1 h2 k hk';refine Bw (CK (I:=fun x c st'=>st'=st/\∃l r,c=(none,l,r)/\l<=r/\r<=n/\r-l<=n-x/\(∀i,i<l->B i=true)/\∀i,r<=i->i<n->B i=false) ?step ?fin ⟨rfl,lo,hi,rfl,hlo,hhi,by omega,h1,h2⟩)
  case fin=>
   rintro c st' ⟨rfl,l,r,rfl,q1,q2,q3,q4,q5⟩;have:l=r:=by omega
   subst this;rw[hk'];refine BD<|h l q2 fun i hi=>⟨fun z=>?_,q4 i⟩;by_cases y:i<l;·exact y
   ·rw[q5 i (by omega) hi]at z;cases z
  case step=>
   rintro x c st' _ hx ⟨rfl,l,r,rfl,q1,q2,q3,q4,q5⟩;dsimp only;by_cases z:l≥r
   ·rw[if_pos z];have:l=r:=by omega
    subst this;refine BD ?_;show wpS M A E s (k (none,l,l)) Q st';rw[hk'];refine BD<|h l q2 fun i hi=>⟨fun z=>?_,q4 i⟩;by_cases y:i<l;·exact y
    ·rw[q5 i (by omega) hi]at z;cases z
   ·rw[if_neg z];refine Bw (ask _ _ (by omega) ?_);cases hm:B (l+(r-l)/2)with
    |true=>
     dsimp only;rw[if_pos rfl];refine BD ⟨rfl,_,_,rfl,by omega,q2,by omega,fun i hi=>?_,q5⟩;by_cases y:i=l+(r-l)/2;·rw[y];exact hm
     ·exact mono i _ (by omega) (by omega) hm
    |false=>
     dsimp only;rw[if_neg (by decide)];refine BD ⟨rfl,_,_,rfl,by omega,by omega,by omega,q4,fun i h1 h2=>?_⟩;cases e:B i with
     |false=>rfl
     |true=>
      by_cases y:i=l+(r-l)/2;·rw[y]at e;rw[e]at hm;exact hm
      ·rw[mono _ i (by omega) h2 e]at hm;exact hm
 refine Bw<|ask hint _ hh ?_;cases hr:B hint with
 |true=>
  dsimp only;rw[if_pos rfl];refine Bw<|Eo (CK (I:=fun x c st'=>st'=st/\∃la o,c=(none,la,o)/\la<o/\x<o/\hint+la<n/\B (hint+la)=true) (Q:=fun c st'=>st'=st/\∃la o,c=(none,la,o)/\la<o/\hint+la<n/\B (hint+la)=true/\(o≥n-hint\/(hint+o<n/\B (hint+o)=false))) ?step ?fin ?init) ?post
  case init=>exact⟨rfl,0,1,rfl,by omega,by omega,by omega,by simpa using hr⟩
  case fin=>
   rintro c st' ⟨rfl,la,o,rfl,q1,q2,q3,q4⟩;exact⟨rfl,la,o,rfl,q1,q3,q4,.inl (by omega)⟩
  case step=>
   rintro x c st' _ hx ⟨rfl,la,o,rfl,q1,q2,q3,q4⟩;dsimp only;by_cases z:o≥n-hint
   ·rw[if_pos z];exact BD ⟨rfl,la,o,rfl,q1,q3,q4,.inl z⟩
   ·rw[if_neg z];refine Bw (ask _ _ (by omega) ?_);cases hm:B (hint+o)with
    |true=>exact BD ⟨rfl,o,2*o+1,rfl,by omega,by omega,by omega,hm⟩
    |false=>exact BD ⟨rfl,la,o,rfl,q1,q3,q4,.inr ⟨by omega,hm⟩⟩
  case post=>
   rintro c st' ⟨rfl,la,o,rfl,q1,q3,q4,q5⟩;dsimp only;have k1:∀i,i<hint+la+1->B i=true:=fun i hi=>by
    by_cases y:i=hint+la;·rw[y];exact q4
    ·exact mono i _ (by omega) q3 q4
   refine fin (hint+la+1) (hint+min o (n-hint)) (by omega) (by omega) k1 (fun i h1 h2=>?_) _<|fun _ _=>rfl;rcases q5 with q5|⟨q5,q6⟩
   ·omega
   ·cases e:B i with
    |false=>rfl
    |true=>
     by_cases y:i=hint+o;·rw[y]at e;rw[e]at q6;exact q6
     ·rw[mono _ i (by omega) h2 e]at q6;exact q6
 |false=>
  dsimp only;rw[if_neg (by decide)];refine Bw<|Eo (CK (I:=fun x c st'=>st'=st/\∃la o,c=(none,la,o)/\la<o/\x<o/\la<=hint/\B (hint-la)=false) (Q:=fun c st'=>st'=st/\∃la o,c=(none,la,o)/\la<o/\la<=hint/\B (hint-la)=false/\(o≥hint+1\/(o<=hint/\B (hint-o)=true))) ?step ?fin ?init) ?post
  case init=>exact⟨rfl,0,1,rfl,by omega,by omega,by omega,by simpa using hr⟩
  case fin=>
   rintro c st' ⟨rfl,la,o,rfl,q1,q2,q3,q4⟩;exact⟨rfl,la,o,rfl,q1,q3,q4,.inl (by omega)⟩
  case step=>
   rintro x c st' _ hx ⟨rfl,la,o,rfl,q1,q2,q3,q4⟩;dsimp only;by_cases z:o≥hint+1
   ·rw[if_pos z];exact BD ⟨rfl,la,o,rfl,q1,q3,q4,.inl z⟩
   ·rw[if_neg z];refine Bw (ask _ _ (by omega) ?_);cases hm:B (hint-o)with
    |true=>exact BD ⟨rfl,la,o,rfl,q1,q3,q4,.inr ⟨by omega,hm⟩⟩
    |false=>exact BD ⟨rfl,o,2*o+1,rfl,by omega,by omega,by omega,hm⟩
  case post=>
   rintro c st' ⟨rfl,la,o,rfl,q1,q3,q4,q5⟩;dsimp only;refine fin (hint+1-min o (hint+1)) (hint-la) (by omega) (by omega) (fun i hi=>?_) (fun i h1 h2=>?_) _<|fun _ _=>rfl
   ·rcases q5 with q5 | ⟨q5,q6⟩
    ·omega
    ·by_cases y:i=hint- o;·rw[y];exact q6
     ·exact mono i _ (by omega) (by omega) q6
   ·cases e:B i with
    |false=>rfl
    |true=>
     by_cases y:i=hint-la;·rw[y]at e;rw[e]at q4;exact q4
     ·rw[mono _ i (by omega) h2 e]at q4;exact q4
end
def ext'(xs:Array BF)(a b:Nat):List BF:=(xs.extract a b).toList
theorem dM(xs:Array BF)(a b:Nat):ext' xs a b=(xs.toList.drop a).take (b-a):=by unfold ext';rw[HV,List.extract_eq_drop_take]
theorem bV{xs:Array BF}{a b:Nat}(hb:b<=xs.size){x:BF}:x∈ext' xs a b↔∃i,a<=i/\i<b/\x=at' xs i:=by
 rw[dM,EC];constructor
 ·rintro ⟨i,hi⟩;have hlt:i<b-a:=by
   have:=(Bv.mp hi).1;simp at this;omega
  rw[Ca hlt,CC,BB,dB (by omega)]at hi;cases hi;exact⟨a+i,by omega,by omega,rfl⟩
 ·rintro ⟨i,h1,h2,rfl⟩;refine⟨i-a,?_⟩;rw[Ca (by omega),CC,BB,show a+(i-a)=i by omega,dB (by omega)]
theorem gh{L:BF->BF->Bool}{xs:Array BF}{a b lo hi:Nat}(h:Sr L xs lo hi)(ha:lo<=a)(hb:b<=hi)(hs:hi<=xs.size):(ext' xs a b).Pairwise (fun x y=>L x y=true):=by
 rw[dM,DE];intro i j hi' hj hij;have hj':j<b-a:=by simp at hj;omega
 have e:∀k,k<b-a->(h':k<((xs.toList.drop a).take (b-a)).length)->((xs.toList.drop a).take (b-a))[k]=at' xs (a+k):=fun k hk h'=>by
  have:=Bn h';rw[Ca hk,CC,BB,dB (by omega)]at this;exact(C9 this).symm
 rw[e i (by omega),e j hj'];exact h _ _ (by omega) (by omega) (by omega)
theorem fv{xs:Array BF}{a b:Nat}(hb:b<xs.size)(hab:a<=b):ext' xs a (b+1)=ext' xs a b++[at' xs b]:=by
 rw[dM,dM,show b+1-a=(b-a)+1 by omega,List.take_succ,CC,BB,show a+(b-a)=b by omega,dB hb];rfl
theorem dC{xs:Array BF}{a b c:Nat}(h1:a<=b)(h2:b<=c):ext' xs a c=ext' xs a b++ext' xs b c:=by
 rw[dM,dM,dM,show c-a=(b-a)+(c-b) by omega,List.take_add,JN,show a+(b-a)=b by omega]
theorem ij(xs:Array BF):ext' xs 0 xs.size=xs.toList:=by rw[dM,Gv,KC,<-BX,List.take_length]
theorem dQ(xs:Array BF)(a:Nat):ext' xs a a=[]:=by rw[dM];simp
structure JL(L:BF->BF->Bool)(a b out:Array BF)(ia ib:Nat):Prop where
 pm:out.toList.Perm (ext' a 0 ia++ext' b 0 ib)
 so:out.toList.Pairwise (fun x y=>L x y=true)
 lo:∀x∈out.toList,(∀i,ia<=i->i<a.size->L x (at' a i)=true)/\∀j,ib<=j->j<b.size->L x (at' b j)=true
section
variable{L:BF->BF->Bool}{a b out:Array BF}{ia ib:Nat}
theorem JL.takeA(J:JL L a b out ia ib)(sa:Sr L a 0 a.size){k:Nat}(hk:ia+k<=a.size)(h:∀i,ia<=i->i<ia+k->∀j,ib<=j->j<b.size->L (at' a i) (at' b j)=true){out':Array BF}(ho:out'.toList=out.toList++ext' a ia (ia+k)):JL L a b out' (ia+k) ib:=by
 refine⟨?_,?_,fun x hx=>?_⟩
 ·rw[ho,dC (xs:=a) (BV ia)<|Cz ia k,BU];refine(CQ _ J.pm).trans ?_;rw[BU];exact Dl _ E4
 ·rw[ho,D9];refine⟨J.so,gh sa (BV _) (by omega)<|Bt _,fun x hx y hy=>?_⟩;obtain⟨i,h1,h2,rfl⟩:=(bV (by omega)).mp hy;exact(J.lo x hx).1 i h1 (by omega)
 ·rw[ho]at hx;rcases Ck.mp hx with hx|hx
  ·exact⟨fun i h1 h2=>(J.lo x hx).1 i (by omega) h2,(J.lo x hx).2⟩
  ·obtain⟨i,h1,h2,rfl⟩:=(bV (by omega)).mp hx;exact⟨fun i' h3 h4=>sa i i' (by omega) (by omega) h4,h i h1 h2⟩
theorem JL.takeB(J:JL L a b out ia ib)(sb:Sr L b 0 b.size){k:Nat}(hk:ib+k<=b.size)(h:∀j,ib<=j->j<ib+k->∀i,ia<=i->i<a.size->L (at' b j) (at' a i)=true){out':Array BF}(ho:out'.toList=out.toList++ext' b ib (ib+k)):JL L a b out' ia (ib+k):=by
 refine⟨?_,?_,fun x hx=>?_⟩
 ·rw[ho,dC (xs:=b) (BV ib)<|Cz ib k,<-BU];exact CQ _ J.pm
 ·rw[ho,D9];refine⟨J.so,gh sb (BV _) (by omega)<|Bt _,fun x hx y hy=>?_⟩;obtain⟨i,h1,h2,rfl⟩:=(bV (by omega)).mp hy;exact(J.lo x hx).2 i h1 (by omega)
 ·rw[ho]at hx;rcases Ck.mp hx with hx|hx
  ·exact⟨(J.lo x hx).1,fun i h1 h2=>(J.lo x hx).2 i (by omega) h2⟩
  ·obtain⟨i,h1,h2,rfl⟩:=(bV (by omega)).mp hx;exact⟨h i h1 h2,fun i' h3 h4=>sb i i' (by omega) (by omega) h4⟩
theorem JL.fin(J:JL L a b out ia ib)(sa:Sr L a 0 a.size)(sb:Sr L b 0 b.size)(ha:ia<=a.size)(hb:ib<=b.size)(h:∀j,ib<=j->j<b.size->∀i,ia<=i->i<a.size->L (at' b j) (at' a i)=true){r:List BF}(hr:r=out.toList++ext' b ib b.size++ext' a ia a.size):
  r.Perm (a.toList++b.toList)/\r.Pairwise (fun x y=>L x y=true):=by
 subst hr;constructor
 ·have e1:a.toList=ext' a 0 ia++ext' a ia a.size:=by rw[<-dC (BV _) ha,ij]
  have e2:b.toList=ext' b 0 ib++ext' b ib b.size:=by rw[<-dC (BV _) hb,ij]
  rw[e1,e2];refine(CQ _<|CQ _ J.pm).trans ?_;generalize ext' a 0 ia=p;generalize ext' a ia a.size=q;generalize ext' b 0 ib=u;generalize ext' b ib b.size=v;rw[BU p,BU p,BU p];refine Dl _ ?_;exact E4
 ·rw[BU,D9,D9];refine⟨J.so,⟨gh sb (BV _) (Bt _)<|Bt _,gh sa (BV _) (Bt _)<|Bt _,fun x hx y hy=>?_⟩,fun x hx y hy=>?_⟩
  ·obtain⟨j,h1,h2,rfl⟩:=(bV<|Bt _).mp hx;obtain⟨i,h3,h4,rfl⟩:=(bV<|Bt _).mp hy;exact h j h1 h2 i h3 h4
  ·rcases Ck.mp hy with hy | hy
   ·obtain⟨j,h1,h2,rfl⟩:=(bV<|Bt _).mp hy;exact(J.lo x hx).2 j h1 h2
   ·obtain⟨j,h1,h2,rfl⟩:=(bV<|Bt _).mp hy;exact(J.lo x hx).1 j h1 h2
end
def jO:Array BF->Array BF->StateT Di Sem (Array BF):=sortPriv%PySem.Builtin.mergeLo
def ik(g:Nat):StateT Di Sem Unit:=modify fun st=>ES (kindOf st) (arrOf st) (pendingOf st) g<|failedOf st
theorem n9(a b:Array BF):jO a b=(do
 rule "list.sort.merge-lo"
 let total:=a.size+b.size
 let done (out:Array BF) (ia ib:Nat):=out++a.extract ia a.size++b.extract ib b.size
 let lastOfA (out:Array BF) (ia ib:Nat):=out++b.extract ib b.size++a.extract ia a.size
 let mut out:Array BF:= #[<-elem' b 0]
 let mut ia:=0
 let mut ib:=1
 if ib==b.size then return done out ia ib
 if ia+1==a.size then return lastOfA out ia ib
 let mut minGallop:=gallopOf (<-get)
 for _ in [0:total]do
  let mut acount:=0
  let mut bcount:=0
  for _ in [0:total]do
   let some bWins <-lt' (<-elem' b ib) (<-elem' a ia)|return done out ia ib
   if bWins then
    out:=out.push<|<-elem' b ib;ib:=ib+1;bcount:=bcount+1;acount:=0
    if ib==b.size then return done out ia ib
    if bcount≥minGallop then break
   else
    out:=out.push<|<-elem' a ia;ia:=ia+1;acount:=acount+1;bcount:=0
    if ia+1==a.size then return lastOfA out ia ib
    if acount≥minGallop then break
  rule "list.sort.gallop"
  minGallop:=minGallop+1
  for _ in [0:total]do
   if minGallop>1 then minGallop:=minGallop-1
   ik minGallop
   let some k <-dP false (<-elem' b ib) a ia (a.size-ia) 0|return done out ia ib
   acount:=k
   if k>0 then
    out:=out++a.extract ia (ia+k);ia:=ia+k
    if ia+1==a.size then return lastOfA out ia ib
    if ia==a.size then return done out ia ib
   out:=out.push<|<-elem' b ib;ib:=ib+1
   if ib==b.size then return done out ia ib
   let some k <-dP true (<-elem' a ia) b ib (b.size-ib) 0|return done out ia ib
   bcount:=k
   if k>0 then
    out:=out++b.extract ib (ib+k);ib:=ib+k
    if ib==b.size then return done out ia ib
   out:=out.push<|<-elem' a ia;ia:=ia+1
   if ia+1==a.size then return lastOfA out ia ib
   if acount<7&&bcount<7 then break
  minGallop:=minGallop+1
  ik minGallop
 unsupported "internal:list.sort.merge-bound"):=rfl
section
variable{M:Ht}{A:Cj}{E:Bq->Bs->Prop}{s:Bs}{κ:FZ}{U:BF->Prop}{L:BF->BF->Bool}{st:Di}
def cB(st st':Di):Prop:=kindOf st'=kindOf st/\arrOf st'=arrOf st/\pendingOf st'=pendingOf st/\failedOf st'=failedOf st
theorem om(O:LtOk M A E s κ U L){a b:Array BF}{Q:Array BF->Di->Prop}(kd:kindOf st=κ)(ua:∀i,i<a.size->U (at' a i))(ub:∀i,i<b.size->U (at' b i))(na:0<a.size)(nb:0<b.size)(sa:Sr L a 0 a.size)(sb:Sr L b 0 b.size)
  (ne:∀i j,i<a.size->j<b.size->at' a i≠at' b j) (h0:L (at' b 0) (at' a 0)=true) (h1:∀j,j<b.size->L (at' b j) (at' a<|a.size-1)=true)
  (h:∀r st',cB st st'->r.toList.Perm (a.toList++b.toList)->r.toList.Pairwise (fun x y=>L x y=true)->Q r st'):wpS M A E s (jO a b) Q st:=by
 rw[n9];refine Bw<|He<|Ee ⟨rfl,?_⟩;dsimp only;refine Bw<|bo nb ?_;have J0:JL L a b #[at' b 0] 0 1:=by
  refine⟨?_,Fp _ _,fun x hx=>?_⟩;·rw[dQ,fv (a:=0) (b:=0) nb<|Bt _,dQ];exact .refl _
  ·have:x=at' b 0:=by simpa using hx
   subst this;refine⟨fun i h2 h3=>?_,fun j h2 h3=>sb 0 j (Bt _) (by omega) h3⟩;by_cases z:i=0;·rw[z];exact h0
   ·exact O.tr _ _ _ (ub 0 nb) (ua 0 na) (ua i h3) h0 (sa 0 i (Bt _) (by omega) h3)
 have endB:∀(out:Array BF)ia ib st',cB st st'->JL L a b out ia ib->ia<=a.size->ib=b.size->Q (out++a.extract ia a.size++b.extract ib b.size) st':=fun out ia ib st' al J h2 h3=>by
  subst h3;have:=J.fin sa sb h2 (Bt _) (fun j h3 h4=>by omega) (r:=(out++a.extract ia a.size++b.extract b.size b.size).toList) (by
   rw[Cv,Cv];show out.toList++ext' a ia a.size++ext' b b.size b.size=_;rw[dQ,Dd,Dd])
  exact h _ st' al this.1 this.2
 have endA:∀(out:Array BF)ia ib st',cB st st'->JL L a b out ia ib->ib<=b.size->ia+1=a.size->Q (out++b.extract ib b.size++a.extract ia a.size) st':=fun out ia ib st' al J h2 h3=>by
  have:=J.fin sa sb (by omega) h2 (fun j h4 h5 i h6 h7=>by
   have:i=a.size-1:=by omega
   rw[this];exact h1 j h5) (r:=(out++b.extract ib b.size++a.extract ia a.size).toList) (by rw[Cv,Cv];rfl)
  exact h _ st' al this.1 this.2
 have al0:cB st st:=⟨rfl,rfl,rfl,rfl⟩
 by_cases z1:1=b.size
 ·rw[if_pos (by simpa using z1)];exact BD<|endB _ 0 1 st al0 J0 (BV _) z1
 rw[if_neg (by simpa using z1)];by_cases z2:0+1=a.size
 ·rw[if_pos (by simpa using z2)];exact BD (endA _ 0 1 st al0 J0 (by omega) z2)
 rw[if_neg (by simpa using z2)];refine Bw<|FA ?_;refine Bw<|Eo (CK (I:=fun x c st'=>cB st st'/\∃out ia ib g,c=(none,out,ia,ib,g)/\JL L a b out ia ib/\ia+1<a.size/\ib<b.size/\x+1<=ia+ib) (Q:=fun c st'=>cB st st'/\∃r rest,c=(some r,rest)/\Q r st') ?step ?fin ?init) ?post
 case init=>exact⟨al0,_,_,_,_,rfl,J0,by omega,by omega,by omega⟩
 case fin=>
  rintro c st' ⟨al,out,ia,ib,g,rfl,J,q1,q2,q3⟩;omega
 case post=>
  rintro c st' ⟨al,r,rest,rfl,hq⟩;exact BD hq
 case step=>
  rintro x c st1 _ hx ⟨al,out,ia,ib,g,rfl,J,q1,q2,q3⟩;dsimp only;refine Bw (Eo (CK (I:=fun y c st'=>st'=st1/\∃out ia ib ac bc,c=(none,out,ia,ib,ac,bc)/\JL L a b out ia ib/\ia+1<a.size/\ib<b.size/\x+1+y<=ia+ib)
   (Q:=fun c st'=>st'=st1/\((∃r rest,c=(some r,rest)/\Q r st')\/∃out ia ib ac bc,c=(none,out,ia,ib,ac,bc)/\JL L a b out ia ib/\ia+1<a.size/\ib<b.size/\x+2<=ia+ib)) ?step1 ?fin1 ?init1) ?post1)
  case init1=>exact⟨rfl,_,_,_,_,_,rfl,J,q1,q2,by omega⟩
  case fin1=>
   rintro c st' ⟨rfl,out,ia,ib,ac,bc,rfl,J,q1,q2,q3⟩;exact⟨rfl,.inr ⟨_,_,_,_,_,rfl,J,q1,q2,by omega⟩⟩
  case step1=>
   rintro y c st' _ hy ⟨rfl,out,ia,ib,ac,bc,rfl,J,q1,q2,q3⟩;dsimp only;refine Bw (bo q2 (Bw (bo (by omega) (Bw (O.lt _ _ _ _ (ub _ q2) (ua _ (by omega)) (al.1.trans kd) ?_)))));cases hw:L (at' b ib) (at' a ia)with
   |true=>
    dsimp only;rw[if_pos rfl];refine Bw<|bo q2 ?_;have J':JL L a b (out.push<|at' b ib) ia (ib+1):=J.takeB sb (k:=1) (by omega) (fun j h2 h3 i h4 h5=>by
     have:j=ib:=by omega
     subst this;by_cases z:i=ia;·rw[z];exact hw
     ·exact O.tr _ _ _ (ub _ q2) (ua _ (by omega)) (ua _ h5) hw (sa ia i (by omega) (by omega) h5)) (by rw[Ed,fv q2 (Bt _),dQ];rfl)
    by_cases z:ib+1=b.size
    ·rw[if_pos (by simpa using z)];exact BD ⟨rfl,.inl ⟨_,_,rfl,endB _ ia (ib+1) _ al J' (by omega) z⟩⟩
    ·rw[if_neg (by simpa using z)];by_cases w:bc+1≥g;·rw[if_pos w];exact BD ⟨rfl,.inr ⟨_,_,_,_,_,rfl,J',q1,by omega,by omega⟩⟩
     ·rw[if_neg w];exact BD ⟨rfl,_,_,_,_,_,rfl,J',q1,by omega,by omega⟩
   |false=>
    dsimp only;rw[if_neg (by decide)];refine Bw (bo (by omega) ?_);have hw':=O.tot _ _ (ub _ q2) (ua _ (by omega)) (fun e=>ne ia ib (by omega) q2 e.symm) hw;have J':JL L a b (out.push<|at' a ia) (ia+1) ib:=J.takeA sa (k:=1) (by omega) (fun i h2 h3 j h4 h5=>by
     have:i=ia:=by omega
     subst this;by_cases z:j=ib;·rw[z];exact hw'
     ·exact O.tr _ _ _ (ua _ (by omega)) (ub _ q2) (ub _ h5) hw' (sb ib j (by omega) (by omega) h5)) (by rw[Ed,fv (by omega) (Bt _),dQ];rfl)
    by_cases z:ia+1+1=a.size
    ·rw[if_pos (by simpa using z)];exact BD ⟨rfl,.inl ⟨_,_,rfl,endA _ (ia+1) ib _ al J' (by omega) z⟩⟩
    ·rw[if_neg (by simpa using z)];by_cases w:ac+1≥g;·rw[if_pos w];exact BD ⟨rfl,.inr ⟨_,_,_,_,_,rfl,J',by omega,by omega,by omega⟩⟩
     ·rw[if_neg w];exact BD ⟨rfl,_,_,_,_,_,rfl,J',by omega,by omega,by omega⟩
  case post1=>
   rintro c st' ⟨rfl,⟨r,rest,rfl,hq⟩|⟨out,ia,ib,ac,bc,rfl,J,q1,q2,q3⟩⟩;·exact BD ⟨al,_,_,rfl,hq⟩
   dsimp only;refine Bw<|He<|Ee ⟨rfl,?_⟩;refine Bw (Eo (CK (I:=fun y c st'=>cB st st'/\∃out ia ib g ac bc,c=(none,out,ia,ib,g,ac,bc)/\JL L a b out ia ib/\ia+1<a.size/\ib<b.size/\x+2<=ia+ib)
    (Q:=fun c st'=>cB st st'/\((∃r rest,c=(some r,rest)/\Q r st')\/∃out ia ib g ac bc,c=(none,out,ia,ib,g,ac,bc)/\JL L a b out ia ib/\ia+1<a.size/\ib<b.size/\x+2<=ia+ib)) ?step2 ?fin2 ?init2) ?post2)
   case init2=>exact⟨al,_,_,_,_,_,_,rfl,J,q1,q2,q3⟩
   case fin2=>exact fun c st'⟨al,out,ia,ib,g,ac,bc,e,J,q1,q2,q3⟩=>⟨al,.inr ⟨out,ia,ib,g,ac,bc,e,J,q1,q2,q3⟩⟩
   case post2=>
    rintro c st' ⟨al,⟨r,rest,rfl,hq⟩|⟨out,ia,ib,g,ac,bc,rfl,J,q1,q2,q3⟩⟩;·exact BD ⟨al,_,_,rfl,hq⟩
    ·dsimp only;refine Bw (Dn (BD ⟨al,_,_,_,_,rfl,J,q1,q2,by omega⟩))
   case step2=>
    rintro y c st' _ hy ⟨al,out,ia,ib,g,ac,bc,rfl,J,q1,q2,q3⟩;dsimp only
    let C:=Option (Array BF)×Array BF×Nat×Nat×Nat×Nat×Nat
    let R:ForInStep C->Di->Prop:=fun r st'=>match r with
     | .done c=>cB st st'/\((∃r rest,c=(some r,rest)/\Q r st')\/∃out ia ib g ac bc,c=(none,out,ia,ib,g,ac,bc)/\JL L a b out ia ib/\ia+1<a.size/\ib<b.size/\x+2<=ia+ib)
     | .yield c=>cB st st'/\∃out ia ib g ac bc,c=(none,out,ia,ib,g,ac,bc)/\JL L a b out ia ib/\ia+1<a.size/\ib<b.size/\x+2<=ia+ib
    have pC:∀(out:Array BF)ia ib g k k1 st',cB st st'->JL L a b out ia ib->ia+1<a.size->ib<b.size->x+2<=ia+ib->L (at' a ia) (at' b ib)=true->wpS M A E s (do
      let x <-elem' a ia
      if(ia+1+1==a.size)=true then pure (C1 (some<|out.push x++b.extract ib b.size++a.extract (ia+1) a.size,out.push x,ia+1,ib,g,k,k1))
      else if(decide (k<7)&&decide (k1<7))=true then pure (C1 (none,out.push x,ia+1,ib,g,k,k1))
      else pure (Cm (none,out.push x,ia+1,ib,g,k,k1))) R st':=by
     intro out ia ib g k k1 st' al J q1 q2 q3 hab;refine Bw (bo (by omega) ?_);have J':JL L a b (out.push<|at' a ia) (ia+1) ib:=J.takeA sa (k:=1) (by omega) (fun i h2 h3 j h4 h5=>by
      have:i=ia:=by omega
      subst this;by_cases z:j=ib;·rw[z];exact hab
      ·exact O.tr _ _ _ (ua _ (by omega)) (ub _ q2) (ub _ h5) hab (sb ib j (by omega) (by omega) h5)) (by rw[Ed,fv (by omega) (Bt _),dQ];rfl)
     by_cases z:ia+1+1=a.size
     ·rw[if_pos (by simpa using z)];exact BD ⟨al,.inl ⟨_,_,rfl,endA _ (ia+1) ib _ al J' (by omega) z⟩⟩
     ·rw[if_neg (by simpa using z)];by_cases w:(decide (k<7)&&decide (k1<7))=true;·rw[if_pos w];exact BD ⟨al,.inr ⟨_,_,_,_,_,_,rfl,J',by omega,by omega,by omega⟩⟩
      ·rw[if_neg w];exact BD ⟨al,_,_,_,_,_,_,rfl,J',by omega,by omega,by omega⟩
    have pB:∀(out:Array BF)ia ib g k bc st',cB st st'->JL L a b out ia ib->ia+1<a.size->ib<b.size->x+2<=ia+ib->L (at' b ib) (at' a ia)=true->wpS M A E s (do
      let x <-elem' b ib
      if(ib+1==b.size)=true then pure (C1 (some<|out.push x++a.extract ia a.size++b.extract (ib+1) b.size,out.push x,ia,ib+1,g,k,bc))
      else
       let y <-elem' a ia
       let some k1 <-dP true y b (ib+1) (b.size-(ib+1)) 0|pure (C1 (some<|out.push x++a.extract ia a.size++b.extract (ib+1) b.size,out.push x,ia,ib+1,g,k,bc))
       if k1>0 then
        if(ib+1+k1==b.size)=true then pure (C1 (some<|out.push x++b.extract (ib+1) (ib+1+k1)++a.extract ia a.size++b.extract (ib+1+k1) b.size,out.push x++b.extract (ib+1) (ib+1+k1),ia,ib+1+k1,g,k,k1))
        else
         let z <-elem' a ia
         if(ia+1+1==a.size)=true then pure (C1 (some<|(out.push x++b.extract (ib+1) (ib+1+k1)).push z++b.extract (ib+1+k1) b.size++a.extract (ia+1) a.size,(out.push x++b.extract (ib+1) (ib+1+k1)).push z,ia+1,ib+1+k1,g,k,k1))
         else if(decide (k<7)&&decide (k1<7))=true then pure (C1 (none,(out.push x++b.extract (ib+1) (ib+1+k1)).push z,ia+1,ib+1+k1,g,k,k1))
         else pure (Cm (none,(out.push x++b.extract (ib+1) (ib+1+k1)).push z,ia+1,ib+1+k1,g,k,k1))
       else
        let z <-elem' a ia
        if(ia+1+1==a.size)=true then pure (C1 (some<|(out.push x).push z++b.extract (ib+1) b.size++a.extract (ia+1) a.size,(out.push x).push z,ia+1,ib+1,g,k,k1))
        else if(decide (k<7)&&decide (k1<7))=true then pure (C1 (none,(out.push x).push z,ia+1,ib+1,g,k,k1))
        else pure (Cm (none,(out.push x).push z,ia+1,ib+1,g,k,k1))) R st':=by
     intro out ia ib g k bc st' al J q1 q2 q3 hba;refine Bw<|bo q2 ?_;have J':JL L a b (out.push<|at' b ib) ia (ib+1):=J.takeB sb (k:=1) (by omega) (fun j h2 h3 i h4 h5=>by
      have:j=ib:=by omega
      subst this;by_cases z:i=ia;·rw[z];exact hba
      ·exact O.tr _ _ _ (ub _ q2) (ua _ (by omega)) (ua _ h5) hba (sa ia i (by omega) (by omega) h5)) (by rw[Ed,fv q2 (Bt _),dQ];rfl)
     by_cases z:ib+1=b.size
     ·rw[if_pos (by simpa using z)];exact BD ⟨al,.inl ⟨_,_,rfl,endB _ ia (ib+1) _ al J' (by omega) z⟩⟩
     rw[if_neg (by simpa using z)];refine Bw (bo (by omega) (Bw (di O (ua _ (by omega)) (fun i hi=>ub _ (by omega)) (by omega) (by omega) (al.1.trans kd) (fun i j hij hj hB=>?_) fun k1 hk1 hB=>?_)))
     ·show L (at' b<|ib+1+i) (at' a ia)=true;exact O.tr _ _ _ (ub _ (by omega)) (ub _ (by omega)) (ua _ (by omega)) (sb (ib+1+i) (ib+1+j) (by omega) (by omega) (by omega)) hB
     have hB':∀i,i<b.size-(ib+1)->(L (at' b<|ib+1+i) (at' a ia)=true↔i<k1):=hB;dsimp only;have J2:JL L a b (out.push (at' b ib)++b.extract (ib+1) (ib+1+k1)) ia (ib+1+k1):=J'.takeB sb (by omega) (fun j h2 h3 i h4 h5=>by
      have e:=(hB' (j-(ib+1)) (by omega)).mpr (by omega);rw[show ib+1+(j-(ib+1))=j by omega]at e;by_cases w:i=ia;·rw[w];exact e
      ·exact O.tr _ _ _ (ub _ (by omega)) (ua _ (by omega)) (ua _ h5) e (sa ia i (by omega) (by omega) h5)) (by rw[Cv];rfl)
     have ab:ib+1+k1<b.size->L (at' a ia) (at' b<|ib+1+k1)=true:=fun hlt=>by
      refine O.tot _ _ (ub _ hlt) (ua _ (by omega)) (fun e=>ne ia _ (by omega) hlt e.symm) ?_;cases e:L (at' b<|ib+1+k1) (at' a ia)with
      |false=>rfl
      |true=>exact absurd ((hB' k1 (by omega)).mp e) (by omega)
     by_cases w:k1>0
     ·rw[if_pos w];by_cases v:ib+1+k1=b.size
      ·rw[if_pos (by simpa using v)];exact BD ⟨al,.inl ⟨_,_,rfl,endB _ ia (ib+1+k1) _ al J2 (by omega) v⟩⟩
      ·rw[if_neg (by simpa using v)];exact pC _ _ _ _ _ _ _ al J2 q1 (by omega) (by omega) (ab (by omega))
     ·rw[if_neg w];have:k1=0:=by omega
      subst this;exact pC _ _ _ _ _ _ _ al J' q1 (by omega) (by omega) (ab (by omega))
    by_cases w:g>1
    ·rw[if_pos w];refine Bw (Dn (Bw (bo q2 (Bw (di O (ub _ q2) (fun i hi=>ua _ (by omega)) (by omega) (by omega) (al.1.trans kd) (fun i j hij hj hB=>?_) fun k hk hB=>?_)))))
     ·have hB':(!L (at' b ib) (at' a<|ia+j))=true:=hB;show(!L (at' b ib) (at' a<|ia+i))=true;cases e:L (at' b ib) (at' a<|ia+i)with
      |false=>rfl
      |true=>
       rw[O.tr _ _ _ (ub _ q2) (ua _ (by omega)) (ua _ (by omega)) e (sa (ia+i) (ia+j) (by omega) (by omega) (by omega))]at hB';exact hB'
     have hB':∀i,i<a.size-ia->((!L (at' b ib) (at' a<|ia+i))=true↔i<k):=hB;have hk1:ia+k+1<=a.size:=by
      by_cases v:a.size-1-ia<k
      ·have e:=(hB' (a.size- 1- ia) (by omega)).mpr v;rw[show ia+(a.size-1-ia)=a.size-1 by omega,h1 ib q2]at e;cases e
      ·omega
     dsimp only;have J1:JL L a b (out++a.extract ia (ia+k)) (ia+k) ib:=J.takeA sa (by omega) (fun i h2 h3 j h4 h5=>by
      have e:=(hB' (i-ia) (by omega)).mpr (by omega);rw[show ia+(i-ia)=i by omega]at e;have e2:=O.tot _ _ (ub _ q2) (ua _ (by omega)) (fun e=>ne i ib (by omega) q2 e.symm) (by simpa using e);by_cases v:j=ib;·rw[v];exact e2
      ·exact O.tr _ _ _ (ua _ (by omega)) (ub _ q2) (ub _ h5) e2 (sb ib j (by omega) (by omega) h5)) (by rw[Cv];rfl)
     have hba:L (at' b ib) (at' a<|ia+k)=true:=by
      cases e:L (at' b ib) (at' a<|ia+k)with
      |true=>rfl
      |false=>exact absurd ((hB' k (by omega)).mp (by rw[e];rfl)) (by omega)
     by_cases v:k>0
     ·rw[if_pos v];by_cases u:ia+k+1=a.size
      ·rw[if_pos (by simpa using u)];exact BD ⟨al,.inl ⟨_,_,rfl,endA _ (ia+k) ib _ al J1 (by omega) u⟩⟩
      ·rw[if_neg (by simpa using u),if_neg (by simp;omega)];exact pB _ _ _ _ _ _ _ al J1 (by omega) q2 (by omega) hba
     ·rw[if_neg v];have:k=0:=by omega
      subst this;exact pB _ _ _ _ _ _ _ al J q1 q2 (by omega) hba
    ·rw[if_neg w];refine Bw (Dn (Bw (bo q2 (Bw (di O (ub _ q2) (fun i hi=>ua _ (by omega)) (by omega) (by omega) (al.1.trans kd) (fun i j hij hj hB=>?_) fun k hk hB=>?_)))))
     ·have hB':(!L (at' b ib) (at' a<|ia+j))=true:=hB;show(!L (at' b ib) (at' a<|ia+i))=true;cases e:L (at' b ib) (at' a<|ia+i)with
      |false=>rfl
      |true=>
       rw[O.tr _ _ _ (ub _ q2) (ua _ (by omega)) (ua _ (by omega)) e (sa (ia+i) (ia+j) (by omega) (by omega) (by omega))]at hB';exact hB'
     have hB':∀i,i<a.size-ia->((!L (at' b ib) (at' a<|ia+i))=true↔i<k):=hB;have hk1:ia+k+1<=a.size:=by
      by_cases v:a.size-1-ia<k
      ·have e:=(hB' (a.size- 1- ia) (by omega)).mpr v;rw[show ia+(a.size-1-ia)=a.size-1 by omega,h1 ib q2]at e;cases e
      ·omega
     dsimp only;have J1:JL L a b (out++a.extract ia (ia+k)) (ia+k) ib:=J.takeA sa (by omega) (fun i h2 h3 j h4 h5=>by
      have e:=(hB' (i-ia) (by omega)).mpr (by omega);rw[show ia+(i-ia)=i by omega]at e;have e2:=O.tot _ _ (ub _ q2) (ua _ (by omega)) (fun e=>ne i ib (by omega) q2 e.symm) (by simpa using e);by_cases v:j=ib;·rw[v];exact e2
      ·exact O.tr _ _ _ (ua _ (by omega)) (ub _ q2) (ub _ h5) e2 (sb ib j (by omega) (by omega) h5)) (by rw[Cv];rfl)
     have hba:L (at' b ib) (at' a<|ia+k)=true:=by
      cases e:L (at' b ib) (at' a<|ia+k)with
      |true=>rfl
      |false=>exact absurd ((hB' k (by omega)).mp (by rw[e];rfl)) (by omega)
     by_cases v:k>0
     ·rw[if_pos v];by_cases u:ia+k+1=a.size
      ·rw[if_pos (by simpa using u)];exact BD ⟨al,.inl ⟨_,_,rfl,endA _ (ia+k) ib _ al J1 (by omega) u⟩⟩
      ·rw[if_neg (by simpa using u),if_neg (by simp;omega)];exact pB _ _ _ _ _ _ _ al J1 (by omega) q2 (by omega) hba
     ·rw[if_neg v];have:k=0:=by omega
      subst this;exact pB _ _ _ _ _ _ _ al J q1 q2 (by omega) hba
end
def jP:Array BF->Array BF->StateT Di Sem (Array BF):=sortPriv%PySem.Builtin.mergeHi
theorem nc(a b:Array BF):jP a b=(do
 rule "list.sort.merge-hi"
 let total:=a.size+b.size
 let done (out:Array BF) (na nb:Nat):=a.extract 0 na++b.extract 0 nb++out.reverse
 let firstOfB (out:Array BF) (na nb:Nat):=b.extract 0 nb++a.extract 0 na++out.reverse
 let mut na:=a.size-1
 let mut nb:=b.size
 let mut out:Array BF:= #[<-elem' a na]
 if na==0 then return done out na nb
 if nb==1 then return firstOfB out na nb
 let mut minGallop:=gallopOf (<-get)
 for _ in [0:total]do
  let mut acount:=0
  let mut bcount:=0
  for _ in [0:total]do
   let some aWins <-lt' (<-elem' b (nb-1)) (<-elem' a (na-1))|return done out na nb
   if aWins then
    na:=na-1;out:=out.push<|<-elem' a na;acount:=acount+1;bcount:=0
    if na==0 then return done out na nb
    if acount≥minGallop then break
   else
    nb:=nb-1;out:=out.push<|<-elem' b nb;bcount:=bcount+1;acount:=0
    if nb==1 then return firstOfB out na nb
    if bcount≥minGallop then break
  rule "list.sort.gallop"
  minGallop:=minGallop+1
  for _ in [0:total]do
   if minGallop>1 then minGallop:=minGallop-1
   ik minGallop
   let some at_ <-dP false (<-elem' b (nb-1)) a 0 na (na-1)|return done out na nb
   let k:=na-at_
   acount:=k
   if k>0 then
    out:=out++(a.extract at_ na).reverse;na:=at_
    if na==0 then return done out na nb
   nb:=nb-1;out:=out.push (<-elem' b nb)
   if nb==1 then return firstOfB out na nb
   let some at_ <-dP true (<-elem' a (na-1)) b 0 nb (nb-1)|return done out na nb
   let k:=nb-at_
   bcount:=k
   if k>0 then
    out:=out++(b.extract at_ nb).reverse;nb:=at_
    if nb==1 then return firstOfB out na nb
    if nb==0 then return done out na nb
   na:=na-1;out:=out.push (<-elem' a na)
   if na==0 then return done out na nb
   if acount<7&&bcount<7 then break
  minGallop:=minGallop+1
  ik minGallop
 unsupported "internal:list.sort.merge-bound"):=rfl
structure JH(L:BF->BF->Bool)(a b out:Array BF)(na nb:Nat):Prop where
 pm:out.toList.reverse.Perm (ext' a na a.size++ext' b nb b.size)
 so:out.toList.reverse.Pairwise (fun x y=>L x y=true)
 hi:∀x∈out.toList,(∀i,i<na->L (at' a i) x=true)/\∀j,j<nb->L (at' b j) x=true
section
variable{L:BF->BF->Bool}{a b out:Array BF}{na nb:Nat}
theorem JH.takeA(J:JH L a b out na nb)(sa:Sr L a 0 a.size)(hn:na<=a.size){m:Nat}(hm:m<=na)(h:∀i,m<=i->i<na->∀j,j<nb->L (at' b j) (at' a i)=true){out':Array BF}(ho:out'.toList.reverse=ext' a m na++out.toList.reverse):JH L a b out' m nb:=by
 have mem:∀x,x∈out'.toList↔x∈ext' a m na\/x∈out.toList:=fun x=>by rw[<-DJ,ho,Ck,DJ]
 refine⟨?_,?_,fun x hx=>?_⟩
 ·rw[ho,dC (xs:=a) hm hn,BU];exact Dl _ J.pm
 ·rw[ho,D9];refine⟨gh sa (BV _) hn<|Bt _,J.so,fun x hx y hy=>?_⟩;obtain⟨i,h1,h2,rfl⟩:=(bV hn).mp hx;exact(J.hi y<|DJ.mp hy).1 i h2
 ·rcases (mem x).mp hx with hx | hx
  ·obtain⟨i,h1,h2,rfl⟩:=(bV hn).mp hx;exact⟨fun i' h3=>sa i' i (BV _) (by omega) (by omega),h i h1 h2⟩
  ·exact⟨fun i h1=>(J.hi x hx).1 i (by omega),(J.hi x hx).2⟩
theorem JH.takeB(J:JH L a b out na nb)(sb:Sr L b 0 b.size)(hn:nb<=b.size){m:Nat}(hm:m<=nb)(h:∀j,m<=j->j<nb->∀i,i<na->L (at' a i) (at' b j)=true){out':Array BF}(ho:out'.toList.reverse=ext' b m nb++out.toList.reverse):JH L a b out' na m:=by
 have mem:∀x,x∈out'.toList↔x∈ext' b m nb\/x∈out.toList:=fun x=>by rw[<-DJ,ho,Ck,DJ]
 refine⟨?_,?_,fun x hx=>?_⟩
 ·rw[ho,dC (xs:=b) hm hn];refine(Dl _ J.pm).trans ?_;rw[<-BU,<-BU];exact CQ _ E4
 ·rw[ho,D9];refine⟨gh sb (BV _) hn<|Bt _,J.so,fun x hx y hy=>?_⟩;obtain⟨i,h1,h2,rfl⟩:=(bV hn).mp hx;exact(J.hi y<|DJ.mp hy).2 i h2
 ·rcases (mem x).mp hx with hx | hx
  ·obtain⟨i,h1,h2,rfl⟩:=(bV hn).mp hx;exact⟨h i h1 h2,fun i' h3=>sb i' i (BV _) (by omega) (by omega)⟩
  ·exact⟨(J.hi x hx).1,fun i h1=>(J.hi x hx).2 i (by omega)⟩
theorem JH.fin(J:JH L a b out na nb)(sa:Sr L a 0 a.size)(sb:Sr L b 0 b.size)(ha:na<=a.size)(hb:nb<=b.size)(h:∀j,j<nb->∀i,i<na->L (at' b j) (at' a i)=true){r:List BF}(hr:r=ext' b 0 nb++ext' a 0 na++out.toList.reverse):
  r.Perm (a.toList++b.toList)/\r.Pairwise (fun x y=>L x y=true):=by
 subst hr;constructor
 ·have e1:a.toList=ext' a 0 na++ext' a na a.size:=by rw[<-dC (BV _) ha,ij]
  have e2:b.toList=ext' b 0 nb++ext' b nb b.size:=by rw[<-dC (BV _) hb,ij]
  rw[e1,e2];refine(Dl _ J.pm).trans ?_;generalize ext' a 0 na=p;generalize ext' a na a.size=q;generalize ext' b 0 nb=u;generalize ext' b nb b.size=v;refine(CQ (q++v)<|E4 (l₁:=u) (l₂:=p)).trans ?_;rw[BU,BU];refine Dl _ ?_;rw[<-BU,<-BU];exact CQ _ E4
 ·rw[BU,D9,D9];refine⟨gh sb (BV _) hb<|Bt _,⟨gh sa (BV _) ha<|Bt _,J.so,fun x hx y hy=>?_⟩,fun x hx y hy=>?_⟩
  ·obtain⟨i,h1,h2,rfl⟩:=(bV ha).mp hx;exact(J.hi y<|DJ.mp hy).1 i h2
  ·obtain⟨j,h1,h2,rfl⟩:=(bV hb).mp hx;rcases Ck.mp hy with hy|hy
   ·obtain⟨i,h3,h4,rfl⟩:=(bV ha).mp hy;exact h j h2 i h4
   ·exact(J.hi y<|DJ.mp hy).2 j h2
end
section
variable{M:Ht}{A:Cj}{E:Bq->Bs->Prop}{s:Bs}{κ:FZ}{U:BF->Prop}{L:BF->BF->Bool}{st:Di}
theorem ng(out:Array BF)(x:BF):(out.push x).toList.reverse=x::out.toList.reverse:=by rw[Ed,I9];rfl
theorem lU(out xs:Array BF):(out++xs.reverse).toList.reverse=xs.toList++out.toList.reverse:=by rw[Cv,I9,G0,List.reverse_reverse]
theorem lV{xs:Array BF}{i:Nat}(h:0<i)(hi:i<=xs.size):ext' xs (i-1) i=[at' xs (i-1)]:=by
 have:=fv (xs:=xs) (a:=i-1) (b:=i-1) (by omega)<|Bt _;rw[show i-1+1=i by omega,dQ]at this;exact this
theorem oo(O:LtOk M A E s κ U L){a b:Array BF}{Q:Array BF->Di->Prop}(kd:kindOf st=κ)(ua:∀i,i<a.size->U (at' a i))(ub:∀i,i<b.size->U (at' b i))(za:0<a.size)(zb:0<b.size)(sa:Sr L a 0 a.size)(sb:Sr L b 0 b.size)
  (ne:∀i j,i<a.size->j<b.size->at' a i≠at' b j) (h0:L (at' b 0) (at' a 0)=true) (h1:∀j,j<b.size->L (at' b j) (at' a<|a.size-1)=true)
  (h:∀r st',cB st st'->r.toList.Perm (a.toList++b.toList)->r.toList.Pairwise (fun x y=>L x y=true)->Q r st'):wpS M A E s (jP a b) Q st:=by
 have b0:∀i,i<a.size->L (at' b 0) (at' a i)=true:=fun i hi=>by
  by_cases z:i=0;·rw[z];exact h0
  ·exact O.tr _ _ _ (ub 0 zb) (ua 0 za) (ua i hi) h0 (sa 0 i (Bt _) (by omega) hi)
 rw[nc];refine Bw<|He<|Ee ⟨rfl,?_⟩;dsimp only;refine Bw (bo (by omega) ?_);have J0:JH L a b #[at' a (a.size-1)] (a.size-1) b.size:=by
  refine⟨?_,Fp _ _,fun x hx=>?_⟩;·rw[lV za<|Bt _,dQ];exact .refl _
  ·have:x=at' a (a.size- 1):=by simpa using hx
   subst this;exact⟨fun i h2=>sa i _ (BV _) h2 (by omega),fun j h2=>h1 j h2⟩
 have endA:∀(out:Array BF)na nb st',cB st st'->JH L a b out na nb->nb<=b.size->na=0->Q (a.extract 0 na++b.extract 0 nb++out.reverse) st':=fun out na nb st' al J h2 h3=>by
  subst h3;have:=J.fin sa sb (BV _) h2 (fun j h3 i h4=>by omega) (r:=(a.extract 0 0++b.extract 0 nb++out.reverse).toList) (by
   rw[Cv,Cv,G0];show ext' a 0 0++ext' b 0 nb++out.toList.reverse=_;rw[dQ,Gd,Dd])
  exact h _ st' al this.1 this.2
 have endB:∀(out:Array BF)na nb st',cB st st'->JH L a b out na nb->na<=a.size->nb=1->Q (b.extract 0 nb++a.extract 0 na++out.reverse) st':=fun out na nb st' al J h2 h3=>by
  have:=J.fin sa sb h2 (by omega) (fun j h4 i h5=>by
   have:j=0:=by omega
   rw[this];exact b0 i (by omega)) (r:=(b.extract 0 nb++a.extract 0 na++out.reverse).toList) (by rw[Cv,Cv,G0];rfl)
  exact h _ st' al this.1 this.2
 have al0:cB st st:=⟨rfl,rfl,rfl,rfl⟩
 by_cases z1:a.size-1=0
 ·rw[if_pos (by simpa using z1)];exact BD<|endA _ _ _ st al0 J0 (Bt _) z1
 rw[if_neg (by simpa using z1)];by_cases z2:b.size=1
 ·rw[if_pos (by simpa using z2)];exact BD (endB _ _ _ st al0 J0 (by omega) z2)
 rw[if_neg (by simpa using z2)];refine Bw<|FA ?_;refine Bw<|Eo (CK (I:=fun x c st'=>cB st st'/\∃na nb out g,c=(none,na,nb,out,g)/\JH L a b out na nb/\0<na/\1<nb/\na<=a.size/\nb<=b.size/\na+nb+x+1<=a.size+b.size) (Q:=fun c st'=>cB st st'/\∃r rest,c=(some r,rest)/\Q r st') ?step ?fin ?init) ?post
 case init=>exact⟨al0,_,_,_,_,rfl,J0,by omega,by omega,by omega,by omega,by omega⟩
 case fin=>
  rintro c st' ⟨al,na,nb,out,g,rfl,J,q1,q2,q3,q4,q5⟩;omega
 case post=>
  rintro c st' ⟨al,r,rest,rfl,hq⟩;exact BD hq
 case step=>
  rintro x c st1 _ hx ⟨al,na,nb,out,g,rfl,J,q1,q2,q3,q4,q5⟩;dsimp only;have ta:∀(out:Array BF)na nb,JH L a b out na nb->0<na->na<=a.size->0<nb->nb<=b.size->L (at' b<|nb-1) (at' a<|na-1)=true->JH L a b (out.push<|at' a<|na-1) (na-1) nb:=fun out na nb J q1 q3 q2 q4 hw=>
   J.takeA sa q3 (m:=na-1) (by omega) (fun i h2 h3 j h4=>by
    have:i=na-1:=by omega
    subst this;by_cases z:j=nb-1;·rw[z];exact hw
    ·exact O.tr _ _ _ (ub _ (by omega)) (ub _ (by omega)) (ua _ (by omega)) (sb j (nb-1) (BV _) (by omega) (by omega)) hw) (by rw[ng,lV q1 q3];rfl)
  have tb:∀(out:Array BF)na nb,JH L a b out na nb->0<nb->nb<=b.size->na<=a.size->(∀i,i<na->L (at' a i) (at' b<|nb-1)=true)->JH L a b (out.push<|at' b<|nb-1) na (nb-1):=fun out na nb J q1 q3 q4 hw=>
   J.takeB sb q3 (m:=nb-1) (by omega) (fun j h2 h3 i h4=>by
    have:j=nb-1:=by omega
    subst this;exact hw i h4) (by rw[ng,lV q1 q3];rfl)
  refine Bw (Eo (CK (I:=fun y c st'=>st'=st1/\∃na nb out ac bc,c=(none,na,nb,out,ac,bc)/\JH L a b out na nb/\0<na/\1<nb/\na<=a.size/\nb<=b.size/\na+nb+x+y+1<=a.size+b.size)
   (Q:=fun c st'=>st'=st1/\((∃r rest,c=(some r,rest)/\Q r st')\/∃na nb out ac bc,c=(none,na,nb,out,ac,bc)/\JH L a b out na nb/\0<na/\1<nb/\na<=a.size/\nb<=b.size/\na+nb+x+2<=a.size+b.size)) ?step1 ?fin1 ?init1) ?post1)
  case init1=>exact⟨rfl,_,_,_,_,_,rfl,J,q1,q2,q3,q4,by omega⟩
  case fin1=>
   rintro c st' ⟨rfl,na,nb,out,ac,bc,rfl,J,q1,q2,q3,q4,q5⟩;exact⟨rfl,.inr ⟨_,_,_,_,_,rfl,J,q1,q2,q3,q4,by omega⟩⟩
  case step1=>
   rintro y c st' _ hy ⟨rfl,na,nb,out,ac,bc,rfl,J,q1,q2,q3,q4,q5⟩;dsimp only;refine Bw (bo (by omega) (Bw (bo (by omega) (Bw (O.lt _ _ _ _ (ub _ (by omega)) (ua _ (by omega)) (al.1.trans kd) ?_)))));cases hw:L (at' b<|nb-1) (at' a<|na-1)with
   |true=>
    dsimp only;rw[if_pos rfl];refine Bw (bo (by omega) ?_);have J':=ta out na nb J q1 q3 (by omega) q4 hw;by_cases z:na-1=0
    ·rw[if_pos (by simpa using z)];exact BD ⟨rfl,.inl ⟨_,_,rfl,endA _ _ _ _ al J' q4 z⟩⟩
    ·rw[if_neg (by simpa using z)];by_cases w:ac+1≥g;·rw[if_pos w];exact BD ⟨rfl,.inr ⟨_,_,_,_,_,rfl,J',by omega,q2,by omega,q4,by omega⟩⟩
     ·rw[if_neg w];exact BD ⟨rfl,_,_,_,_,_,rfl,J',by omega,q2,by omega,q4,by omega⟩
   |false=>
    dsimp only;rw[if_neg (by decide)];refine Bw (bo (by omega) ?_);have hw':=O.tot _ _ (ub _ (by omega)) (ua _ (by omega)) (fun e=>ne (na-1) (nb-1) (by omega) (by omega) e.symm) hw;have J':=tb out na nb J (by omega) q4 q3 (fun i hi=>by
     by_cases z:i=na-1;·rw[z];exact hw'
     ·exact O.tr _ _ _ (ua _ (by omega)) (ua _ (by omega)) (ub _ (by omega)) (sa i (na-1) (BV _) (by omega) (by omega)) hw')
    by_cases z:nb-1=1
    ·rw[if_pos (by simpa using z)];exact BD ⟨rfl,.inl ⟨_,_,rfl,endB _ _ _ _ al J' q3 z⟩⟩
    ·rw[if_neg (by simpa using z)];by_cases w:bc+1≥g;·rw[if_pos w];exact BD ⟨rfl,.inr ⟨_,_,_,_,_,rfl,J',q1,by omega,q3,by omega,by omega⟩⟩
     ·rw[if_neg w];exact BD ⟨rfl,_,_,_,_,_,rfl,J',q1,by omega,q3,by omega,by omega⟩
  case post1=>
   rintro c st' ⟨rfl,⟨r,rest,rfl,hq⟩|⟨na,nb,out,ac,bc,rfl,J,q1,q2,q3,q4,q5⟩⟩;·exact BD ⟨al,_,_,rfl,hq⟩
   dsimp only;refine Bw<|He<|Ee ⟨rfl,?_⟩;refine Bw (Eo (CK (I:=fun y c st'=>cB st st'/\∃na nb out g ac bc,c=(none,na,nb,out,g,ac,bc)/\JH L a b out na nb/\0<na/\1<nb/\na<=a.size/\nb<=b.size/\na+nb+x+2<=a.size+b.size)
    (Q:=fun c st'=>cB st st'/\((∃r rest,c=(some r,rest)/\Q r st')\/∃na nb out g ac bc,c=(none,na,nb,out,g,ac,bc)/\JH L a b out na nb/\0<na/\1<nb/\na<=a.size/\nb<=b.size/\na+nb+x+2<=a.size+b.size)) ?step2 ?fin2 ?init2) ?post2)
   case init2=>exact⟨al,_,_,_,_,_,_,rfl,J,q1,q2,q3,q4,q5⟩
   case fin2=>exact fun c st'⟨al,na,nb,out,g,ac,bc,e,J,q⟩=>⟨al,.inr ⟨na,nb,out,g,ac,bc,e,J,q⟩⟩
   case post2=>
    rintro c st' ⟨al,⟨r,rest,rfl,hq⟩|⟨na,nb,out,g,ac,bc,rfl,J,q1,q2,q3,q4,q5⟩⟩;·exact BD ⟨al,_,_,rfl,hq⟩
    ·dsimp only;refine Bw (Dn (BD ⟨al,_,_,_,_,rfl,J,q1,q2,q3,q4,by omega⟩))
   case step2=>
    rintro y c st' _ hy ⟨al,na,nb,out,g,ac,bc,rfl,J,q1,q2,q3,q4,q5⟩;dsimp only
    let C:=Option (Array BF)×Nat×Nat×Array BF×Nat×Nat×Nat
    let R:ForInStep C->Di->Prop:=fun r st'=>match r with
     | .done c=>cB st st'/\((∃r rest,c=(some r,rest)/\Q r st')\/∃na nb out g ac bc,c=(none,na,nb,out,g,ac,bc)/\JH L a b out na nb/\0<na/\1<nb/\na<=a.size/\nb<=b.size/\na+nb+x+2<=a.size+b.size)
     | .yield c=>cB st st'/\∃na nb out g ac bc,c=(none,na,nb,out,g,ac,bc)/\JH L a b out na nb/\0<na/\1<nb/\na<=a.size/\nb<=b.size/\na+nb+x+2<=a.size+b.size
    have pC:∀(out:Array BF)na nb g k k1 st',cB st st'->JH L a b out na nb->0<na->1<nb->na<=a.size->nb<=b.size->na+nb+x+2<=a.size+b.size->L (at' b<|nb-1) (at' a<|na-1)=true->wpS M A E s (do
      let x <-elem' a (na-1)
      if(na-1==0)=true then pure (C1 (some<|a.extract 0 (na-1)++b.extract 0 nb++(out.push x).reverse,na-1,nb,out.push x,g,k,k1))
      else if(decide (k<7)&&decide (k1<7))=true then pure (C1 (none,na-1,nb,out.push x,g,k,k1))
      else pure (Cm (none,na-1,nb,out.push x,g,k,k1))) R st':=by
     intro out na nb g k k1 st' al J q1 q2 q3 q4 q5 hba;refine Bw (bo (by omega) ?_);have J':=ta out na nb J q1 q3 (by omega) q4 hba;by_cases z:na-1=0
     ·rw[if_pos (by simpa using z)];exact BD ⟨al,.inl ⟨_,_,rfl,endA _ _ _ _ al J' q4 z⟩⟩
     ·rw[if_neg (by simpa using z)];by_cases w:(decide (k<7)&&decide (k1<7))=true;·rw[if_pos w];exact BD ⟨al,.inr ⟨_,_,_,_,_,_,rfl,J',by omega,q2,by omega,q4,by omega⟩⟩
      ·rw[if_neg w];exact BD ⟨al,_,_,_,_,_,_,rfl,J',by omega,q2,by omega,q4,by omega⟩
    have pB:∀(out:Array BF)na nb g k bc st',cB st st'->JH L a b out na nb->0<na->1<nb->na<=a.size->nb<=b.size->na+nb+x+2<=a.size+b.size->(∀i,i<na->L (at' a i) (at' b<|nb-1)=true)->wpS M A E s (do
      let x <-elem' b (nb-1)
      if(nb-1==1)=true then pure (C1 (some<|b.extract 0 (nb-1)++a.extract 0 na++(out.push x).reverse,na,nb-1,out.push x,g,k,bc))
      else
       let y <-elem' a (na-1)
       let some m <-dP true y b 0 (nb-1) (nb-1-1)|pure (C1 (some<|a.extract 0 na++b.extract 0 (nb-1)++(out.push x).reverse,na,nb-1,out.push x,g,k,bc))
       if nb-1-m>0 then
        if(m==1)=true then pure (C1 (some<|b.extract 0 m++a.extract 0 na++(out.push x++(b.extract m<|nb-1).reverse).reverse,na,m,out.push x++(b.extract m<|nb-1).reverse,g,k,nb-1-m))
        else if(m==0)=true then pure (C1 (some<|a.extract 0 na++b.extract 0 m++(out.push x++(b.extract m<|nb-1).reverse).reverse,na,m,out.push x++(b.extract m<|nb-1).reverse,g,k,nb-1-m))
        else
         let z <-elem' a (na-1)
         if(na-1==0)=true then pure (C1 (some<|a.extract 0 (na-1)++b.extract 0 m++((out.push x++(b.extract m<|nb-1).reverse).push z).reverse,na-1,m,(out.push x++(b.extract m<|nb-1).reverse).push z,g,k,nb-1-m))
         else if(decide (k<7)&&decide (nb-1-m<7))=true then pure (C1 (none,na-1,m,(out.push x++(b.extract m<|nb-1).reverse).push z,g,k,nb-1-m))
         else pure (Cm (none,na-1,m,(out.push x++(b.extract m<|nb-1).reverse).push z,g,k,nb-1-m))
       else
        let z <-elem' a (na-1)
        if(na-1==0)=true then pure (C1 (some<|a.extract 0 (na-1)++b.extract 0 (nb-1)++((out.push x).push z).reverse,na-1,nb-1,(out.push x).push z,g,k,nb-1-m))
        else if(decide (k<7)&&decide (nb-1-m<7))=true then pure (C1 (none,na-1,nb-1,(out.push x).push z,g,k,nb-1-m))
        else pure (Cm (none,na-1,nb-1,(out.push x).push z,g,k,nb-1-m))) R st':=by
     intro out na nb g k bc st' al J q1 q2 q3 q4 q5 hab;refine Bw (bo (by omega) ?_);have J':=tb out na nb J (by omega) q4 q3 hab;by_cases z:nb-1=1
     ·rw[if_pos (by simpa using z)];exact BD ⟨al,.inl ⟨_,_,rfl,endB _ _ _ _ al J' q3 z⟩⟩
     rw[if_neg (by simpa using z)];refine Bw (bo (by omega) (Bw (di O (ua _ (by omega)) (fun i hi=>ub _ (by omega)) (by omega) (by omega) (al.1.trans kd) (fun i j hij hj hB=>?_) fun m hm hB=>?_)))
     ·have hB':L (at' b<|0+j) (at' a<|na- 1)=true:=hB;show L (at' b<|0+i) (at' a<|na-1)=true;rw[Ec]at hB' ⊢;exact O.tr _ _ _ (ub _ (by omega)) (ub _ (by omega)) (ua _ (by omega)) (sb i j (BV _) hij (by omega)) hB'
     have hB':∀i,i<nb-1->(L (at' b i) (at' a<|na-1)=true↔i<m):=fun i hi=>by
      have e:L (at' b<|0+i) (at' a<|na-1)=true↔i<m:=hB i hi
      rwa [Ec]at e
     have m1:1<=m:=(hB' 0 (by omega)).mp (b0 _ (by omega));dsimp only;have J2:JH L a b (out.push (at' b<|nb-1)++(b.extract m<|nb-1).reverse) na m:=J'.takeB sb (by omega) hm (fun j h2 h3 i h4=>by
      have e:L (at' b j) (at' a<|na-1)=false:=by
       cases e:L (at' b j) (at' a<|na-1)with
       |false=>rfl
       |true=>exact absurd ((hB' j h3).mp e) (by omega)
      have e2:=O.tot _ _ (ub _ (by omega)) (ua _ (by omega)) (fun e=>ne (na-1) j (by omega) (by omega) e.symm) e;by_cases w:i=na-1;·rw[w];exact e2
      ·exact O.tr _ _ _ (ua _ (by omega)) (ua _ (by omega)) (ub _ (by omega)) (sa i (na-1) (BV _) (by omega) (by omega)) e2) (by rw[lU];rfl)
     have ba:L (at' b<|m-1) (at' a<|na-1)=true:=(hB' (m-1) (by omega)).mpr (by omega);by_cases w:nb-1-m>0
     ·rw[if_pos w];by_cases v:m=1
      ·rw[if_pos (by simpa using v)];exact BD ⟨al,.inl ⟨_,_,rfl,endB _ _ _ _ al J2 q3 v⟩⟩
      ·rw[if_neg (by simpa using v),if_neg (by simp;omega)];exact pC _ _ _ _ _ _ _ al J2 q1 (by omega) q3 (by omega) (by omega) ba
     ·rw[if_neg w];have:m=nb-1:=by omega
      subst this;exact pC _ _ _ _ _ _ _ al J' q1 (by omega) q3 (by omega) (by omega) ba
    by_cases w:g>1
    ·rw[if_pos w];refine Bw (Dn (Bw (bo (by omega) (Bw (di O (ub _ (by omega)) (fun i hi=>ua _ (by omega)) (by omega) (by omega) (al.1.trans kd) (fun i j hij hj hB=>?_) fun m hm hB=>?_)))))
     ·have hB':(!L (at' b<|nb- 1) (at' a<|0+j))=true:=hB;show(!L (at' b<|nb-1) (at' a<|0+i))=true;rw[Ec]at hB' ⊢;cases e:L (at' b<|nb-1) (at' a i)with
      |false=>rfl
      |true=>
       rw[O.tr _ _ _ (ub _ (by omega)) (ua _ (by omega)) (ua _ (by omega)) e (sa i j (BV _) hij (by omega))]at hB';exact hB'
     have hB':∀i,i<na->((!L (at' b<|nb-1) (at' a i))=true↔i<m):=fun i hi=>by
      have e:(!L (at' b<|nb-1) (at' a<|0+i))=true↔i<m:=hB i hi
      rwa [Ec]at e
     dsimp only;have J1:JH L a b (out++(a.extract m na).reverse) m nb:=J.takeA sa q3 hm (fun i h2 h3 j h4=>by
      have e:L (at' b<|nb-1) (at' a i)=true:=by
       cases e:L (at' b<|nb-1) (at' a i)with
       |true=>rfl
       |false=>exact absurd ((hB' i h3).mp (by rw[e];rfl)) (by omega)
      by_cases v:j=nb-1;·rw[v];exact e
      ·exact O.tr _ _ _ (ub _ (by omega)) (ub _ (by omega)) (ua _ (by omega)) (sb j (nb-1) (BV _) (by omega) (by omega)) e) (by rw[lU];rfl)
     have hab:∀i,i<m->L (at' a i) (at' b<|nb-1)=true:=fun i hi=>by
      have e:=(hB' i (by omega)).mpr hi;exact O.tot _ _ (ub _ (by omega)) (ua _ (by omega)) (fun e=>ne i (nb-1) (by omega) (by omega) e.symm) (by simpa using e)
     by_cases v:na-m>0
     ·rw[if_pos v];by_cases u:m=0
      ·rw[if_pos (by simpa using u)];exact BD ⟨al,.inl ⟨_,_,rfl,endA _ _ _ _ al J1 q4 u⟩⟩
      ·rw[if_neg (by simpa using u)];exact pB _ _ _ _ _ _ _ al J1 (by omega) q2 (by omega) q4 (by omega) hab
     ·rw[if_neg v];have:m=na:=by omega
      subst this;exact pB _ _ _ _ _ _ _ al J q1 q2 q3 q4 (by omega) hab
    ·rw[if_neg w];refine Bw (Dn (Bw (bo (by omega) (Bw (di O (ub _ (by omega)) (fun i hi=>ua _ (by omega)) (by omega) (by omega) (al.1.trans kd) (fun i j hij hj hB=>?_) fun m hm hB=>?_)))))
     ·have hB':(!L (at' b<|nb- 1) (at' a<|0+j))=true:=hB;show(!L (at' b<|nb-1) (at' a<|0+i))=true;rw[Ec]at hB' ⊢;cases e:L (at' b<|nb-1) (at' a i)with
      |false=>rfl
      |true=>
       rw[O.tr _ _ _ (ub _ (by omega)) (ua _ (by omega)) (ua _ (by omega)) e (sa i j (BV _) hij (by omega))]at hB';exact hB'
     have hB':∀i,i<na->((!L (at' b<|nb-1) (at' a i))=true↔i<m):=fun i hi=>by
      have e:(!L (at' b<|nb-1) (at' a<|0+i))=true↔i<m:=hB i hi
      rwa [Ec]at e
     dsimp only;have J1:JH L a b (out++(a.extract m na).reverse) m nb:=J.takeA sa q3 hm (fun i h2 h3 j h4=>by
      have e:L (at' b<|nb-1) (at' a i)=true:=by
       cases e:L (at' b<|nb-1) (at' a i)with
       |true=>rfl
       |false=>exact absurd ((hB' i h3).mp (by rw[e];rfl)) (by omega)
      by_cases v:j=nb-1;·rw[v];exact e
      ·exact O.tr _ _ _ (ub _ (by omega)) (ub _ (by omega)) (ua _ (by omega)) (sb j (nb-1) (BV _) (by omega) (by omega)) e) (by rw[lU];rfl)
     have hab:∀i,i<m->L (at' a i) (at' b<|nb-1)=true:=fun i hi=>by
      have e:=(hB' i (by omega)).mpr hi;exact O.tot _ _ (ub _ (by omega)) (ua _ (by omega)) (fun e=>ne i (nb-1) (by omega) (by omega) e.symm) (by simpa using e)
     by_cases v:na-m>0
     ·rw[if_pos v];by_cases u:m=0
      ·rw[if_pos (by simpa using u)];exact BD ⟨al,.inl ⟨_,_,rfl,endA _ _ _ _ al J1 q4 u⟩⟩
      ·rw[if_neg (by simpa using u)];exact pB _ _ _ _ _ _ _ al J1 (by omega) q2 (by omega) q4 (by omega) hab
     ·rw[if_neg v];have:m=na:=by omega
      subst this;exact pB _ _ _ _ _ _ _ al J q1 q2 q3 q4 (by omega) hab
end
def gi:Nat->StateT Di Sem Bool:=sortPriv%PySem.Builtin.mergeAt
def putAt(xs:Array BF)(off:Nat)(m:Array BF):Array BF:=m.toList.zipIdx.foldl (fun a(x:BF×Nat)=>a.setIfInBounds (off+x.2) x.1) xs
theorem nh(i:Nat):gi i=(do
 let s <-get
 let (some (sa,na,power),some (sb,nb,_)):=((pendingOf s)[i]?,(pendingOf s)[i+1]?)|unsupported "internal:list.sort.pending"
 set (ES (kindOf s) (arrOf s) (((pendingOf s).setIfInBounds i (sa,na+nb,power)).eraseIdxIfInBounds (i+1)) (gallopOf s)<|failedOf s)
 let some k <-dP false (<-elem' (arrOf s) sb) (arrOf s) sa na 0|return false
 let (sa,na):=(sa+k,na-k)
 if na==0 then return true
 let some nb <-dP true (<-elem' (arrOf s) (sa+na-1)) (arrOf s) sb nb (nb-1)|return false
 if nb==0 then return true
 let x:=(arrOf s).extract sa sb
 let y:=(arrOf s).extract sb (sb+nb)
 let merged <-if na<=nb then jO x y else jP x y
 modify fun s=>setArr s (putAt (arrOf s) sa merged)
 return (failedOf (<-get)).isNone):=rfl
theorem tJ:∀(m:List BF)(off j0:Nat)(xs:Array BF),off+j0+m.length<=xs.size->
  ((m.zipIdx j0).foldl (fun a(x:BF×Nat)=>a.setIfInBounds (off+x.2) x.1) xs).size=xs.size/\∀i,at' ((m.zipIdx j0).foldl (fun a(x:BF×Nat)=>a.setIfInBounds (off+x.2) x.1) xs) i=if off+j0<=i/\i<off+j0+m.length then m.getD (i-(off+j0)) (CM,CM)else at' xs i
 | [],off,j0,xs,h=>⟨rfl,fun i=>by rw[if_neg (by simp)];rfl⟩
 |x::m,off,j0,xs,h=>by
  simp only[De]at h;have ih:=tJ m off (j0+1) (xs.setIfInBounds (off+j0) x) (by rw[GY];omega);rw[EY,Hw];refine⟨ih.1.trans<|GY ..,fun i=>?_⟩;rw[ih.2];have e:at' (xs.setIfInBounds (off+j0) x) i=if i=off+j0 then x else at' xs i:=by
   simp only[at',Ct];by_cases z:i=off+j0;·rw[if_pos z,z,Array.getElem?_setIfInBounds_self_of_lt (by omega)];rfl
   ·rw[if_neg z,Array.getElem?_setIfInBounds_ne (by omega)]
  by_cases z1:off+(j0+1)<=i/\i<off+(j0+1)+m.length
  ·rw[if_pos z1,if_pos (by simp;omega),show i- (off+j0)=(i- (off+(j0+1)))+1 by omega];rfl
  ·rw[if_neg z1,e];by_cases z2:i=off+j0;·rw[if_pos z2,if_pos (by simp;omega),z2,Fz];rfl
   ·rw[if_neg z2,if_neg (by simp;omega)]
theorem tK{xs m:Array BF}{off:Nat}(h:off+m.size<=xs.size):(putAt xs off m).size=xs.size/\∀i,at' (putAt xs off m) i=if off<=i/\i<off+m.size then at' m (i-off)else at' xs i:=by
 have:=tJ m.toList off 0 xs (by simpa using h);refine⟨this.1,fun i=>?_⟩;have e:=this.2 i;simp only[Nat.add_zero,BX]at e;refine e.trans ?_;by_cases z:off<=i/\i<off+m.size
 ·rw[if_pos z,if_pos z];simp[at',Ct,BQ]
 ·rw[if_neg z,if_neg z]
theorem tL{xs m:Array BF}{off:Nat}(h:off+m.size<=xs.size):(putAt xs off m).toList=ext' xs 0 off++m.toList++ext' xs (off+m.size) xs.size:=by
 obtain⟨hs,ha⟩:=tK h;apply DR;intro i;have l1:(ext' xs 0 off).length=off:=by rw[dM];simp;omega
 by_cases z:i<xs.size
 ·rw[BB,dB (by omega),ha];by_cases z1:i<off;·rw[if_neg (by omega),BU,BL (by omega),dM,Gv,Ca (by omega),BB,dB z]
  ·by_cases z2:i< off+m.size;·rw[if_pos (by omega),BU,BI (by omega),l1,BL (by simpa using (by omega:i-off<m.size)),BB,dB (by omega)]
   ·rw[if_neg (by omega),BI (by simp[l1];omega),dM];have:(ext' xs 0 off++m.toList).length=off+m.size:=by simp[l1]
    rw[this,Ca (by omega),CC,BB,show off+m.size+(i-(off+m.size))=i by omega,dB z]
 ·have l2:(ext' xs (off+m.size) xs.size).length=xs.size- (off+m.size):=by rw[dM];simp
  rw[DF (by simp;omega),DF (by simp[l1,l2];omega)]
theorem tM{xs:Array BF}{a b i:Nat}(hb:b<=xs.size)(hi:i<b-a):at' (xs.extract a b) i=at' xs (a+i):=by
 have h1:i<(xs.extract a b).size:=by simp;omega
 have e:=dB h1;rw[Array.getElem?_extract_of_lt (by omega)]at e;have e2:=dB (xs:=xs) (i:=a+i) (by omega);rw[C7 (by omega)]at e2;exact(C9 e).symm.trans (C9 e2)
theorem tN{xs:Array BF}{a b:Nat}(hb:b<=xs.size):(xs.extract a b).size=b-a:=by simp;omega
section
variable{M:Ht}{A:Cj}{E:Bq->Bs->Prop}{s:Bs}{κ:FZ}{U:BF->Prop}{L:BF->BF->Bool}{a0:List BF}{st:Di}
theorem oq(O:LtOk M A E s κ U L)(hU:∀x∈a0,U x)(nd:a0.Nodup){i sa na sb nb pw pw':Nat}{Q:Bool->Di->Prop}(B:SB κ a0 st)(p1:(pendingOf st)[i]? =some (sa,na,pw))(p2:(pendingOf st)[i+1]? =some (sb,nb,pw'))(hsb:sb=sa+na)(z1:0<na)(z2:0<nb)(hz:sb+nb<=a0.length)
  (s1:Sr L (arrOf st) sa sb) (s2:Sr L (arrOf st) sb (sb+nb))
  (h:∀st',SB κ a0 st'->pendingOf st'=((pendingOf st).setIfInBounds i (sa,na+nb,pw)).eraseIdxIfInBounds (i+1)->Sr L (arrOf st') sa (sb+nb)->(∀i,i<sa\/sb+nb<=i->at' (arrOf st') i=at' (arrOf st) i)->Q true st'):wpS M A E s (gi i) Q st:=by
 have hs:=B.size;have uu:∀i,i<a0.length->U (at' (arrOf st) i):=fun i hi=>B.u hU hi;have nn:∀i j,i<a0.length->j<a0.length->i≠j->at' (arrOf st) i≠at' (arrOf st) j:=fun i j hi hj hij=>B.ne nd hi hj hij;rw[nh];refine Bw<|FA ?_;rw[p1,p2];dsimp only;refine Bw<|Dn (f:=fun _=>ES (kindOf st) (arrOf st) (((pendingOf st).setIfInBounds i (sa,na+nb,pw)).eraseIdxIfInBounds (i+1)) (gallopOf st)<|failedOf st) ?_;have B1:SB κ a0 (ES (kindOf st) (arrOf st) (((pendingOf st).setIfInBounds i (sa,na+nb,pw)).eraseIdxIfInBounds (i+1)) (gallopOf st)<|failedOf st):=⟨B.kind,B.failed,B.perm⟩
 refine Bw (bo (by omega) (Bw (di O (uu _ (by omega)) (fun i hi=>uu _ (by omega)) (by omega) z1 B.kind (fun i j hij hj hB=>?_) fun k hk hB=>?_)))
 ·have hB':(!L (at' (arrOf st) sb) (at' (arrOf st)<|sa+j))=true:=hB;show(!L (at' (arrOf st) sb) (at' (arrOf st)<|sa+i))=true;cases e:L (at' (arrOf st) sb) (at' (arrOf st)<|sa+i)with
  |false=>rfl
  |true=>
   rw[O.tr _ _ _ (uu _ (by omega)) (uu _ (by omega)) (uu _ (by omega)) e (s1 (sa+i) (sa+j) (by omega) (by omega) (by omega))]at hB';exact hB'
 have hB':∀i,i<na->((!L (at' (arrOf st) sb) (at' (arrOf st)<|sa+i))=true↔i<k):=hB;have lo:∀i,sa<=i->i<sa+k->L (at' (arrOf st) i) (at' (arrOf st) sb)=true:=fun i h2 h3=>by
  have e:=(hB' (i-sa) (by omega)).mpr (by omega);rw[show sa+(i-sa)=i by omega]at e;exact O.tot _ _ (uu _ (by omega)) (uu _ (by omega)) (nn _ _ (by omega) (by omega) (by omega)) (by simpa using e)
 have hi:∀i,sa+k<=i->i<sb->L (at' (arrOf st) sb) (at' (arrOf st) i)=true:=fun i h2 h3=>by
  cases e:L (at' (arrOf st) sb) (at' (arrOf st) i)with
  |true=>rfl
  |false=>exact absurd ((hB' (i-sa) (by omega)).mp (by rw[show sa+(i-sa)=i by omega,e];rfl)) (by omega)
 have lob:∀i j,sa<=i->i<sa+k->sb<=j->j<sb+nb->L (at' (arrOf st) i) (at' (arrOf st) j)=true:=fun i j h2 h3 h4 h5=>by
  by_cases y:j=sb;·rw[y];exact lo i h2 h3
  ·exact O.tr _ _ _ (uu _ (by omega)) (uu _ (by omega)) (uu _ (by omega)) (lo i h2 h3) (s2 sb j (Bt _) (by omega) h5)
 dsimp only;by_cases y0:na-k=0
 ·rw[if_pos (by simpa using y0)];refine BD<|h _ B1 rfl (fun i j h2 h3 h4=>?_) fun _ _=>rfl;show L (at' (arrOf st) i) (at' (arrOf st) j)=true;by_cases y1:j<sb;·exact s1 i j h2 h3 y1
  ·by_cases y2:sb<=i;·exact s2 i j y2 h3 h4
   ·exact lob i j h2 (by omega) (by omega) h4
 rw[if_neg (by simpa using y0)];have elast:sa+k+(na-k)-1=sb-1:=by omega
 refine Bw (bo (by omega) (Bw (di O (uu _ (by omega)) (fun i hi=>uu _ (by omega)) (by omega) (by omega) B.kind (fun i j hij hj hB=>?_) fun m hm hM=>?_)))
 ·have hB2:L (at' (arrOf st)<|sb+j) (at' (arrOf st)<|sa+k+(na- k)- 1)=true:=hB;show L (at' (arrOf st)<|sb+i) (at' (arrOf st)<|sa+k+(na-k)-1)=true;exact O.tr _ _ _ (uu _ (by omega)) (uu _ (by omega)) (uu _ (by omega)) (s2 (sb+i) (sb+j) (by omega) (by omega) (by omega)) hB2
 have hM':∀i,i<nb->(L (at' (arrOf st)<|sb+i) (at' (arrOf st)<|sb-1)=true↔i<m):=fun i hi=>by
  have e:L (at' (arrOf st)<|sb+i) (at' (arrOf st)<|sa+k+(na-k)-1)=true↔i<m:=hM i hi
  rwa [elast]at e
 have m1:0<m:=(hM' 0 z2).mp (hi _ (by omega) (by omega));dsimp only;rw[if_neg (by simp;omega)];have xz:((arrOf st).extract (sa+k) sb).size=na-k:=by rw[tN (by omega)];omega
 have yz:((arrOf st).extract sb (sb+m)).size=m:=by rw[tN (by omega)];omega
 have xa:∀i,i<na-k->at' ((arrOf st).extract (sa+k) sb) i=at' (arrOf st) (sa+k+i):=fun i hi=>tM (by omega) (by omega);have ya:∀i,i<m->at' ((arrOf st).extract sb (sb+m)) i=at' (arrOf st) (sb+i):=fun i hi=>tM (by omega) (by omega);have fin:∀(r:Array BF)st',cB (ES (kindOf st) (arrOf st) (((pendingOf st).setIfInBounds i (sa,na+nb,pw)).eraseIdxIfInBounds (i+1)) (gallopOf st)<|failedOf st) st'->r.toList.Perm (((arrOf st).extract (sa+k) sb).toList++((arrOf st).extract sb (sb+m)).toList)->r.toList.Pairwise (fun x y=>L x y=true)->
   wpS M A E s (do
    modify fun s=>setArr s (putAt (arrOf s) (sa+k) r)
    return (failedOf (<-get)).isNone) Q st':=by
  intro r st' al pm so;have e1:arrOf st'=arrOf st:=al.2.1;have rz:r.size=na-k+m:=by
   have:=pm.length_eq;rw[CP,BX,BX,BX,xz,yz]at this;exact this
  have bd:sa+k+r.size<=(arrOf st').size:=by rw[e1];omega
  obtain⟨pz,pa⟩:=tK bd;have pl:=tL bd;refine Bw<|Dn<|Bw<|FA<|BD ?_;have ef:(failedOf<|setArr st'<|putAt (arrOf st') (sa+k) r).isNone=true:=by
   show(failedOf st').isNone=true;rw[al.2.2.2];show(failedOf st).isNone=true;rw[B.failed];rfl
  rw[ef];have mem:∀i,sa+k<=i->i<sb+m->∃j,sa+k<=j/\j<sb+m/\at' r (i-(sa+k))=at' (arrOf st) j:=fun i h2 h3=>by
   have hr:at' r (i-(sa+k))∈r.toList:=by rw[eX (by omega)];exact DH _
   rcases Ck.mp (pm.mem_iff.mp hr)with q|q
   ·obtain⟨j,q1,q2,q3⟩:=(bV (xs:=arrOf st) (by omega)).mp q;exact⟨j,q1,by omega,q3⟩
   ·obtain⟨j,q1,q2,q3⟩:=(bV (xs:=arrOf st) (by omega)).mp q;exact⟨j,by omega,q2,q3⟩
  refine h _ ⟨al.1.trans B.kind,by show failedOf st'=none;rw[al.2.2.2];exact B.failed,?_⟩ al.2.2.1 (fun i j h2 h3 h4=>?_) fun i h2=>?_
  ·show(putAt (arrOf st') (sa+k) r).toList.Perm a0;rw[pl,e1];refine List.Perm.trans ?_ B.perm;have ea:(arrOf st).toList=ext' (arrOf st) 0 (sa+k)++(((arrOf st).extract (sa+k) sb).toList++((arrOf st).extract sb (sb+m)).toList)++ext' (arrOf st) (sa+k+r.size) (arrOf st).size:=by
    show _=ext' (arrOf st) 0 (sa+k)++(ext' (arrOf st) (sa+k) sb++ext' (arrOf st) sb (sb+m))++ext' (arrOf st) (sa+k+r.size) (arrOf st).size;rw[show sa+k+r.size=sb+m by omega,<-dC (by omega) (by omega),<-dC (by omega) (by omega),<-dC (by omega) (by omega),ij]
   rw[ea];exact CQ _<|Dl _ pm
  ·show L (at' (putAt (arrOf st') (sa+k) r) i) (at' (putAt (arrOf st') (sa+k) r) j)=true;rw[pa,pa,e1];have hib:∀x y,sa+k<=x->x<sb+m->sb+m<=y->y<sb+nb->L (at' (arrOf st) x) (at' (arrOf st) y)=true:=fun x y g1 g2 g3 g4=>by
    have ey:L (at' (arrOf st)<|sb-1) (at' (arrOf st) y)=true:=by
     refine O.tot _ _ (uu _ (by omega)) (uu _ (by omega)) (nn _ _ (by omega) (by omega) (by omega)) ?_;cases e:L (at' (arrOf st) y) (at' (arrOf st)<|sb-1)with
     |false=>rfl
     |true=>exact absurd ((hM' (y-sb) (by omega)).mp (by rw[show sb+(y-sb)=y by omega];exact e)) (by omega)
    by_cases g5:sb<=x;·exact s2 x y g5 (by omega) g4
    ·by_cases g6:x=sb- 1;·rw[g6];exact ey
     ·exact O.tr _ _ _ (uu _ (by omega)) (uu _ (by omega)) (uu _ (by omega)) (s1 x (sb-1) (by omega) (by omega) (by omega)) ey
   by_cases c1:i<sa+k
   ·rw[if_neg (by omega)];by_cases c2:sa+k<=j/\j<sa+k+r.size
    ·rw[if_pos c2];obtain⟨q,q1,q2,q3⟩:=mem j c2.1 (by omega);rw[q3];by_cases c3:q<sb;·exact s1 i q h2 (by omega) c3
     ·exact lob i q h2 c1 (by omega) (by omega)
    ·rw[if_neg c2];by_cases c3:j<sb;·exact s1 i j h2 h3 c3
     ·exact lob i j h2 c1 (by omega) h4
   ·by_cases c4:i< sa+k+r.size
    ·rw[if_pos (by omega)];by_cases c5:j<sa+k+r.size
     ·rw[if_pos (by omega),eX (by omega),eX (by omega)];exact DE.mp so _ _ _ _ (by omega)
     ·rw[if_neg (by omega)];obtain⟨q,q1,q2,q3⟩:=mem i (by omega) (by omega);rw[q3];exact hib q j q1 q2 (by omega) h4
    ·rw[if_neg (by omega),if_neg (by omega)];exact s2 i j (by omega) h3 h4
  ·show at' (putAt (arrOf st') (sa+k) r) i=_;rw[pa,if_neg (by omega),e1]
 have xU:∀i,i<((arrOf st).extract (sa+k) sb).size->U (at' ((arrOf st).extract (sa+k) sb) i):=fun i hi=>by rw[xa i (by omega)];exact uu _ (by omega)
 have yU:∀i,i<((arrOf st).extract sb (sb+m)).size->U (at' ((arrOf st).extract sb (sb+m)) i):=fun i hi=>by rw[ya i (by omega)];exact uu _ (by omega)
 have xS:Sr L ((arrOf st).extract (sa+k) sb) 0 ((arrOf st).extract (sa+k) sb).size:=fun i j g1 g2 g3=>by rw[xa i (by omega),xa j (by omega)];exact s1 _ _ (by omega) (by omega) (by omega)
 have yS:Sr L ((arrOf st).extract sb (sb+m)) 0 ((arrOf st).extract sb (sb+m)).size:=fun i j g1 g2 g3=>by rw[ya i (by omega),ya j (by omega)];exact s2 _ _ (by omega) (by omega) (by omega)
 have xy:∀i j,i<((arrOf st).extract (sa+k) sb).size->j<((arrOf st).extract sb (sb+m)).size->at' ((arrOf st).extract (sa+k) sb) i≠at' ((arrOf st).extract sb (sb+m)) j:=fun i j g1 g2=>by rw[xa i (by omega),ya j (by omega)];exact nn _ _ (by omega) (by omega) (by omega)
 have f0:L (at' ((arrOf st).extract sb (sb+m)) 0) (at' ((arrOf st).extract (sa+k) sb) 0)=true:=by rw[xa 0 (by omega),ya 0 m1];exact hi _ (by omega) (by omega)
 have f1:∀j,j<((arrOf st).extract sb (sb+m)).size->L (at' ((arrOf st).extract sb (sb+m)) j) (at' ((arrOf st).extract (sa+k) sb)<|((arrOf st).extract (sa+k) sb).size-1)=true:=fun j g1=>by
  rw[xa _ (by omega),ya j (by omega),xz,show sa+k+(na-k-1)=sb-1 by omega];exact(hM' j (by omega)).mpr (by omega)
 by_cases w:na-k<=m
 ·rw[if_pos w];exact Bw (om O B.kind xU yU (by omega) (by omega) xS yS xy f0 f1 fin)
 ·rw[if_neg w];exact Bw (oo O B.kind xU yU (by omega) (by omega) xS yS xy f0 f1 fin)
end
def pM:Nat->Nat->Nat->Nat:=sortPriv%PySem.Builtin.minRun
def ou:Nat->Nat->Nat->Nat->Nat:=sortPriv%PySem.Builtin.power
theorem lW:sortRuns'=(do
 let size:=(arrOf<|<-get).size
 let minrun:=pM size size 0
 let mut lo:=0
 for _ in [0:size]do
  if lo≥size then break
  let some found <-countRun' lo (size-lo)|return
  let mut n:=found
  if n<minrun then
   rule "list.sort.binary-insertion"
   let force:=min (size-lo) minrun
   if !(<-binarySort' lo force n)then return
   n:=force
  if let some (s1,n1,_):=(pendingOf<|<-get).back? then
   let pw:=ou size (2*s1+n1) (2*s1+n1+n1+n) size
   for _ in [0:size]do
    let p:=pendingOf (<-get)
    let some (_,_,older):=(if p.size>1 then p[p.size-2]? else none)|break
    if older<=pw then break
    if !(<-gi (p.size-2))then return
   modify fun s=>ES (kindOf s) (arrOf s) ((pendingOf s).modify ((pendingOf s).size-1) fun(st,len,_)=>(st,len,pw)) (gallopOf s) (failedOf s)
  modify fun s=>ES (kindOf s) (arrOf s) ((pendingOf s).push (lo,n,0)) (gallopOf s) (failedOf s)
  lo:=lo+n
 for _ in [0:size]do
  let p:=pendingOf (<-get)
  if p.size<=1 then break
  let i:=p.size-2
  let before:=if i>0 then p[i-1]?.map (·.2.1)else none
  let i:=if before.any (· <(p[i+1]?.elim 0 (·.2.1)))then i-1 else i
  if !(<-gi i)then return):=rfl
def rsP(p:Array (Nat×Nat×Nat)):List (Nat×Nat):=p.toList.map fun t=>(t.1,t.2.1)
def Chain:Nat->List (Nat×Nat)->Nat->Prop
 |a,[],b=>a=b
 |a,t::r,b=>t.1=a/\0<t.2/\Chain (a+t.2) r b
theorem eF:∀(l r:List (Nat×Nat))(a b:Nat),Chain a (l++r) b↔∃c,Chain a l c/\Chain c r b
 | [],r,a,b=>⟨fun h=>⟨a,rfl,h⟩,fun⟨c,h1,h2⟩=>by cases h1;exact h2⟩
 |t::l,r,a,b=>by
  constructor
  ·rintro ⟨h1,h2,h3⟩;obtain⟨c,h4,h5⟩:=(eF l r _ b).mp h3;exact⟨c,⟨h1,h2,h4⟩,h5⟩
  ·rintro ⟨c,⟨h1,h2,h4⟩,h5⟩;exact⟨h1,h2,(eF l r _ b).mpr ⟨c,h4,h5⟩⟩
theorem fw:∀{l:List (Nat×Nat)}{a b:Nat},Chain a l b->a+l.length<=b/\∀t∈l,a<=t.1/\t.1+t.2<=b
 | [],a,b,h=>by cases h;exact⟨by simp,fun t ht=>by cases ht⟩
 |t::l,a,b,⟨h1,h2,h3⟩=>by
  have ih:=fw h3;refine⟨by have:=ih.1;simp;omega,fun u hu=>?_⟩;rcases BE.mp hu with rfl|hu
  ·have:=ih.1;omega
  ·have:=ih.2 u hu;omega
structure Rn(L:BF->BF->Bool)(p:Array (Nat×Nat×Nat))(xs:Array BF)(lo:Nat):Prop where
 ch:Chain 0 (rsP p) lo
 so:∀t∈rsP p,Sr L xs t.1<|t.1+t.2
theorem lX{α:Type}:∀(l:List α)(i:Nat)(x y:α),l[i]? =some x->l[i+1]? =some y->l=l.take i++x::y::l.drop (i+2)
 | [],i,x,y,h,_=>by simp at h
 |a::l,0,x,y,h1,h2=>by
  cases l with
  |nil=>simp at h2
  |cons b l=>
   simp at h1 h2;subst h1 h2;simp
 |a::l,i+1,x,y,h1,h2=>by
  have:=lX l i x y (by simpa using h1) (by simpa using h2);simp only[List.take_succ_cons,List.drop_succ_cons,FQ];exact congrArg (a:: ·) this
theorem ni{p:Array (Nat×Nat×Nat)}{i:Nat}{x y z:Nat×Nat×Nat}(h1:p[i]? =some x)(h2:p[i+1]? =some y):((p.setIfInBounds i z).eraseIdxIfInBounds (i+1)).toList=p.toList.take i++z::p.toList.drop (i+2):=by
 have hl:i+1<p.size:=(E2.mp h2).1;have e:=lX p.toList i x y (by rw[BB];exact h1) (by rw[BB];exact h2);have e1:((p.setIfInBounds i z).eraseIdxIfInBounds (i+1)).toList=(p.toList.set i z).eraseIdx (i+1):=by
  rw[FF,EO]
 rw[e1];have tl:(p.toList.take i).length=i:=by simp;omega
 conv=>lhs;rw[e]
 rw[List.set_append_right _ _ (by omega),tl,Fz,Fi,List.eraseIdx_append_of_length_le (by omega),tl,show i+1-i=1 by omega];rfl
theorem Rn.merge{L:BF->BF->Bool}{p:Array (Nat×Nat×Nat)}{xs xs':Array BF}{lo i sa na pw sb nb pw':Nat}(R:Rn L p xs lo)(h1:p[i]? =some (sa,na,pw))(h2:p[i+1]? =some (sb,nb,pw'))
  (hs:Sr L xs' sa (sb+nb)) (ho:∀i,i<sa\/sb+nb<=i->at' xs' i=at' xs i):Rn L ((p.setIfInBounds i (sa,na+nb,pw)).eraseIdxIfInBounds (i+1)) xs' lo/\sb=sa+na/\0<na/\0<nb/\sb+nb<=lo:=by
 have e:=lX p.toList i _ _ (by rw[BB];exact h1) (by rw[BB];exact h2);have er:rsP p=(p.toList.take i).map (fun t=>(t.1,t.2.1))++(sa,na)::(sb,nb)::(p.toList.drop<|i+2).map (fun t=>(t.1,t.2.1)):=by
  unfold rsP;conv=>lhs;rw[e]
  simp
 have er2:rsP ((p.setIfInBounds i (sa,na+nb,pw)).eraseIdxIfInBounds (i+1))=(p.toList.take i).map (fun t=>(t.1,t.2.1))++(sa,na+nb)::(p.toList.drop<|i+2).map (fun t=>(t.1,t.2.1)):=by
  unfold rsP;rw[ni h1 h2];simp
 have ch:=R.ch;have so:=R.so;rw[er]at ch so;generalize (p.toList.take i).map (fun t=>(t.1,t.2.1))=l1 at*
 generalize (p.toList.drop<|i+2).map (fun t=>(t.1,t.2.1))=l2 at*
 obtain⟨c,c1,c2,c3,c4,c5,c6⟩:=(eF _ _ _ _).mp ch;dsimp only at c2 c3 c4 c5 c6;subst c2;have l6:=fw c6;have l1':=fw c1;refine⟨⟨?_,fun t ht=>?_⟩,by omega,c3,c5,by omega⟩
 ·rw[er2];exact(eF _ _ _ _).mpr ⟨sa,c1,rfl,by show 0<na+nb;omega,by show Chain (sa+(na+nb)) l2 lo;rw[<-Kq];exact c6⟩
 ·rw[er2]at ht;have keep:∀t:Nat×Nat,Sr L xs t.1 (t.1+t.2)->(t.1+t.2<=sa\/sb+nb<=t.1)->Sr L xs' t.1 (t.1+t.2):=fun t h h3 i j g1 g2 g3=>by
   rw[ho i (by omega),ho j (by omega)];exact h i j g1 g2 g3
  rcases Ck.mp ht with ht|ht;·exact keep t (so t (by simp[ht]))<|.inl (l1'.2 t ht).2
  ·rcases BE.mp ht with rfl | ht
   ·show Sr L xs' sa (sa+(na+nb));rw[<-Kq,<-c4];exact hs
   ·exact keep t (so t (by simp[ht])) (.inr (by have:=(l6.2 t ht).1;omega))
theorem Rn.two{L:BF->BF->Bool}{p:Array (Nat×Nat×Nat)}{xs:Array BF}{lo i sa na pw sb nb pw':Nat}(R:Rn L p xs lo)(h1:p[i]? =some (sa,na,pw))(h2:p[i+1]? =some (sb,nb,pw')):sb=sa+na/\0<na/\0<nb/\sb+nb<=lo/\Sr L xs sa sb/\Sr L xs sb (sb+nb):=by
 have e:=lX p.toList i _ _ (by rw[BB];exact h1) (by rw[BB];exact h2);have er:rsP p=(p.toList.take i).map (fun t=>(t.1,t.2.1))++(sa,na)::(sb,nb)::(p.toList.drop<|i+2).map (fun t=>(t.1,t.2.1)):=by
  unfold rsP;conv=>lhs;rw[e]
  simp
 have ch:=R.ch;have so:=R.so;rw[er]at ch so;obtain⟨c,c1,c2,c3,c4,c5,c6⟩:=(eF _ _ _ _).mp ch;dsimp only at c2 c3 c4 c5 c6;have l6:=fw c6;have s1:Sr L xs sa (sa+na):=so (sa,na) (by simp);have s2:Sr L xs sb (sb+nb):=so (sb,nb) (by simp);exact⟨by omega,c3,c5,by omega,by rw[show sb=sa+na by omega];exact s1,s2⟩
theorem Rn.keep{L:BF->BF->Bool}{p:Array (Nat×Nat×Nat)}{xs xs':Array BF}{lo:Nat}(R:Rn L p xs lo)(ho:∀i,i<lo->at' xs' i=at' xs i):Rn L p xs' lo:=
 ⟨R.ch,fun t ht i j g1 g2 g3=>by
  have:=(fw R.ch).2 t ht;rw[ho i (by omega),ho j (by omega)];exact R.so t ht i j g1 g2 g3⟩
theorem Rn.push{L:BF->BF->Bool}{p:Array (Nat×Nat×Nat)}{xs:Array BF}{lo n w:Nat}(R:Rn L p xs lo)(hn:0<n)(hs:Sr L xs lo (lo+n)):Rn L (p.push (lo,n,w)) xs (lo+n):=by
 have e:rsP (p.push (lo,n,w))=rsP p++[(lo,n)]:=by unfold rsP;simp
 refine⟨by rw[e];exact(eF _ _ _ _).mpr ⟨lo,R.ch,rfl,hn,rfl⟩,fun t ht=>?_⟩;rw[e]at ht;rcases Ck.mp ht with ht|ht
 ·exact R.so t ht
 ·have:t=(lo,n):=by simpa using ht
  subst this;exact hs
theorem jQ(p:Array (Nat×Nat×Nat))(i w:Nat):rsP (p.modify i fun(st,len,_)=>(st,len,w))=rsP p:=by
 unfold rsP;apply DR;intro j;rw[Bz,Bz,BB,BB,Array.getElem?_modify];by_cases z:i=j
 ·rw[if_pos z];cases p[j]? <;>rfl
 ·rw[if_neg z]
theorem Rn.mod{L:BF->BF->Bool}{p:Array (Nat×Nat×Nat)}{xs:Array BF}{lo:Nat}(R:Rn L p xs lo)(i w:Nat):Rn L (p.modify i fun(st,len,_)=>(st,len,w)) xs lo:=⟨by rw[jQ];exact R.ch,by rw[jQ];exact R.so⟩
theorem pN(p:Array (Nat×Nat×Nat)):(rsP p).length=p.size:=by unfold rsP;simp
theorem qY{p:Array (Nat×Nat×Nat)}{i:Nat}{z:Nat×Nat×Nat}(h:i+1<p.size):((p.setIfInBounds i z).eraseIdxIfInBounds (i+1)).size=p.size-1:=by
 rw[<-BX,FF,EO,Dr,DX,BX,if_pos h]
section
variable{M:Ht}{A:Cj}{E:Bq->Bs->Prop}{s:Bs}{κ:FZ}{U:BF->Prop}{L:BF->BF->Bool}{a0:List BF}{st:Di}
theorem oz(O:LtOk M A E s κ U L)(hU:∀x∈a0,U x)(nd:a0.Nodup){i lo:Nat}{Q:Bool->Di->Prop}(B:SB κ a0 st)(R:Rn L (pendingOf st) (arrOf st) lo)(hi:i+1<(pendingOf st).size)(hlo:lo<=a0.length)
  (h:∀st',SB κ a0 st'->Rn L (pendingOf st') (arrOf st') lo->(pendingOf st').size=(pendingOf st).size-1->(∀i,lo<=i->at' (arrOf st') i=at' (arrOf st) i)->Q true st'):wpS M A E s (gi i) Q st:=by
 obtain⟨⟨sa,na,pw⟩,h1⟩:∃t,(pendingOf st)[i]? =some t:=⟨_,C7 (by omega)⟩
 obtain⟨⟨sb,nb,pw'⟩,h2⟩:∃t,(pendingOf st)[i+1]? =some t:=⟨_,C7 hi⟩
 obtain⟨t1,t2,t3,t4,t5,t6⟩:=R.two h1 h2;refine oq O hU nd B h1 h2 t1 t2 t3 (by omega) t5 t6 fun st' B' ep s' o'=>?_;have:=(R.merge h1 h2 s' o').1;refine h st' B' (by rw[ep];exact this) (by rw[ep];exact qY hi) fun i hi=>o' i (.inr (by omega))
theorem nj(O:LtOk M A E s κ U L)(hU:∀x∈a0,U x)(nd:a0.Nodup){Q:Unit->Di->Prop}(B:SB κ a0 st)(hp:pendingOf st= #[])(h:∀st',SB κ a0 st'->Sr L (arrOf st') 0 a0.length->Q () st'):wpS M A E s sortRuns' Q st:=by
 have hs:=B.size;rw[lW];refine Bw<|FA ?_;dsimp only;rw[hs];generalize pM a0.length a0.length 0=mr;refine Bw<|Eo (CK (I:=fun x c st'=>SB κ a0 st'/\∃lo,c=(none,lo)/\x<=lo/\lo<=a0.length/\Rn L (pendingOf st') (arrOf st') lo) (Q:=fun c st'=>SB κ a0 st'/\∃lo,c=(none,lo)/\Rn L (pendingOf st') (arrOf st') a0.length) ?step ?fin ?init) ?post
 case init=>exact⟨B,0,rfl,Bt _,BV _,by rw[hp];exact⟨rfl,fun t ht=>by cases ht⟩⟩
 case fin=>
  rintro c st' ⟨B',lo,rfl,q1,q2,R⟩;have:lo=a0.length:=by omega
  subst this;exact⟨B',_,rfl,R⟩
 case post=>
  rintro c st1 ⟨B1,lo,rfl,R1⟩;dsimp only;refine Bw<|Eo (CK (I:=fun x c st'=>c=(none,())/\SB κ a0 st'/\Rn L (pendingOf st') (arrOf st') a0.length/\((pendingOf st').size<=1\/(pendingOf st').size+x<=a0.length)) (Q:=fun c st'=>c=(none,())/\SB κ a0 st'/\Rn L (pendingOf st') (arrOf st') a0.length/\(pendingOf st').size<=1) ?fstep ?ffin ?finit) ?fpost
  case finit=>
   refine⟨rfl,B1,R1,.inr ?_⟩;have:=(fw R1.ch).1;rw[pN]at this;omega
  case ffin=>
   rintro c st' ⟨rfl,B',R',q⟩;exact⟨rfl,B',R',by omega⟩
  case fstep=>
   rintro x c st' _ hx ⟨rfl,B',R',q⟩;refine Bw<|FA ?_;by_cases z:(pendingOf st').size<=1;·rw[if_pos z];exact BD ⟨rfl,B',R',z⟩
   ·rw[if_neg z];have hb:∀(c:Prop)[Decidable c],(if c then(pendingOf st').size-2-1 else(pendingOf st').size-2)+1<(pendingOf st').size:=fun c _=>by split<;>omega
    refine Bw<|oz O hU nd B' R' (hb _) (Bt _) fun st2 B2 R2 e2 _=>?_;exact BD ⟨rfl,B2,R2,by omega⟩
  case fpost=>
   rintro c st' ⟨rfl,B',R',q⟩;refine BD<|h st' B' ?_;have ch:=R'.ch;have so:=R'.so;have hl:=pN<|pendingOf st';generalize rsP (pendingOf st')=l at*
   match l,hl with
   | [],_=>
    have:0=a0.length:=ch;intro i j g1 g2 g3;omega
   | [t],_=>
    obtain⟨c1,c2,c3⟩:=ch;have c4:0+t.2=a0.length:=c3;have:=so t (by simp);rw[c1,c4]at this;exact this
   |_::_::_,hl=>simp at hl;omega
 case step=>
  rintro x c st1 _ hx ⟨B1,lo,rfl,q1,q2,R1⟩;dsimp only;by_cases z:lo≥a0.length
  ·rw[if_pos z];have:lo=a0.length:=by omega
   subst this;exact BD ⟨B1,_,rfl,R1⟩
  rw[if_neg z];refine Bw (xO O hU nd (by omega) (by omega) B1 fun n st2 n1 n2 B2 e2 s2 o2=>?_);dsimp only;by_cases y:n<mr
  ·rw[if_pos y];refine Bw<|He<|Ee ⟨rfl,?_⟩;refine Bw (vN O hU nd (by omega) (by omega) B2 s2 fun st3 B3 e3' s3 o3'=>?_);rw[if_neg (by decide)];have e3:pendingOf st3=pendingOf st1:=e3'.trans e2;have o3:∀i,i<lo->at' (arrOf st3) i=at' (arrOf st1) i:=fun i hi=>(o3' i<|.inl hi).trans (o2 i<|.inl hi);refine Bw<|FA ?_;have R3:Rn L (pendingOf st3) (arrOf st3) lo:=by rw[e3];exact R1.keep o3
   cases hb:(pendingOf st3).back? with
   |none=>
    dsimp only;exact Bw (Dn (BD ⟨⟨B3.kind,B3.failed,B3.perm⟩,lo+min (a0.length-lo) mr,rfl,by omega,by omega,R3.push (by omega) s3⟩))
   |some t=>
    obtain⟨t1,t2,t3⟩:=t;dsimp only;generalize ou a0.length (2*t1+t2) (2*t1+t2+t2+min (a0.length-lo) mr) a0.length=pw;refine Bw<|Eo (CK (I:=fun y c st'=>c=(none,())/\SB κ a0 st'/\Rn L (pendingOf st') (arrOf st') lo/\Sr L (arrOf st') lo (lo+min (a0.length-lo) mr)) (Q:=fun c st'=>c=(none,())/\SB κ a0 st'/\Rn L (pendingOf st') (arrOf st') lo/\Sr L (arrOf st') lo (lo+min (a0.length-lo) mr)) ?ms ?mf ?mi) ?mp
    case mi=>exact⟨rfl,B3,R3,s3⟩
    case mf=>exact fun c st' h=>h
    case ms=>
     rintro y c st4 _ hy ⟨rfl,B4,R4,s4⟩;refine Bw<|FA ?_;by_cases w:(pendingOf st4).size>1
     ·rw[if_pos w];obtain⟨⟨u1,u2,u3⟩,hu⟩:∃t,(pendingOf st4)[(pendingOf st4).size-2]? =some t:=⟨_,C7 (by omega)⟩
      rw[hu];dsimp only;by_cases v:u3<=pw;·rw[if_pos v];exact BD ⟨rfl,B4,R4,s4⟩
      ·rw[if_neg v];refine Bw (oz O hU nd B4 R4 (by omega) (by omega) fun st5 B5 R5 _ o5=>?_);exact BD ⟨rfl,B5,R5,fun i j g1 g2 g3=>by rw[o5 i g1,o5 j (by omega)];exact s4 i j g1 g2 g3⟩
     ·rw[if_neg w];exact BD ⟨rfl,B4,R4,s4⟩
    case mp=>
     rintro c st4 ⟨rfl,B4,R4,s4⟩;dsimp only;exact Bw (Dn (Bw (Dn (BD ⟨⟨B4.kind,B4.failed,B4.perm⟩,lo+min (a0.length-lo) mr,rfl,by omega,by omega,(R4.mod _ _).push (by omega) s4⟩))))
  ·rw[if_neg y];have B3:=B2;have s3:=s2;have e3:=e2;have o3:∀i,i<lo->at' (arrOf st2) i=at' (arrOf st1) i:=fun i hi=>o2 i<|.inl hi;refine Bw<|FA ?_;have R3:Rn L (pendingOf st2) (arrOf st2) lo:=by rw[e3];exact R1.keep o3
   cases hb:(pendingOf st2).back? with
   |none=>
    dsimp only;exact Bw (Dn (BD ⟨⟨B3.kind,B3.failed,B3.perm⟩,lo+n,rfl,by omega,by omega,R3.push (by omega) s3⟩))
   |some t=>
    obtain⟨t1,t2,t3⟩:=t;dsimp only;generalize ou a0.length (2*t1+t2) (2*t1+t2+t2+n) a0.length=pw;refine Bw<|Eo (CK (I:=fun y c st'=>c=(none,())/\SB κ a0 st'/\Rn L (pendingOf st') (arrOf st') lo/\Sr L (arrOf st') lo (lo+n)) (Q:=fun c st'=>c=(none,())/\SB κ a0 st'/\Rn L (pendingOf st') (arrOf st') lo/\Sr L (arrOf st') lo (lo+n)) ?ms ?mf ?mi) ?mp
    case mi=>exact⟨rfl,B3,R3,s3⟩
    case mf=>exact fun c st' h=>h
    case ms=>
     rintro y c st4 _ hy ⟨rfl,B4,R4,s4⟩;refine Bw<|FA ?_;by_cases w:(pendingOf st4).size>1
     ·rw[if_pos w];obtain⟨⟨u1,u2,u3⟩,hu⟩:∃t,(pendingOf st4)[(pendingOf st4).size-2]? =some t:=⟨_,C7 (by omega)⟩
      rw[hu];dsimp only;by_cases v:u3<=pw;·rw[if_pos v];exact BD ⟨rfl,B4,R4,s4⟩
      ·rw[if_neg v];refine Bw (oz O hU nd B4 R4 (by omega) (by omega) fun st5 B5 R5 _ o5=>?_);exact BD ⟨rfl,B5,R5,fun i j g1 g2 g3=>by rw[o5 i g1,o5 j (by omega)];exact s4 i j g1 g2 g3⟩
     ·rw[if_neg w];exact BD ⟨rfl,B4,R4,s4⟩
    case mp=>
     rintro c st4 ⟨rfl,B4,R4,s4⟩;dsimp only;exact Bw (Dn (Bw (Dn (BD ⟨⟨B4.kind,B4.failed,B4.perm⟩,lo+n,rfl,by omega,by omega,(R4.mod _ _).push (by omega) s4⟩))))
end
end Wb
namespace Wb
open PySem PySem.W PySem.Calls PyProof.Rows
theorem pO{α β:Type}{f:α->β}:∀{l:List α},(l.map f).Nodup->∀{x y:α},x∈l->y∈l->f x=f y->x=y
 | [],_,x,_,hx,_,_=>by cases hx
 |a::l,nd,x,y,hx,hy,e=>by
  rw[CO,DV]at nd;rcases BE.mp hx with q|q
  ·rcases BE.mp hy with q' | q';·rw[q,q']
   ·exact absurd (C6.mpr ⟨y,q',by rw[<-e,q]⟩) nd.1
  ·rcases BE.mp hy with q' | q';·exact absurd (C6.mpr ⟨x,q,by rw[e,q']⟩) nd.1
   ·exact pO nd.2 q q' e
theorem lY{α:Type}(l:List α):(l.zip l)=l.map fun x=>(x,x):=by
 induction l with
 |nil=>rfl
 |cons a l ih=>rw[List.zip_cons_cons,ih];rfl
section
variable{prog:BK}{w:C2}{A:Cj}{E:Bq->Bs->Prop}{s:Bs}
theorem zd{key:Bq->Int×Int}{vs:List Bq}(hp:∀v∈vs,PairAt s.heap v<|key v)(nd:(vs.map key).Nodup):LtOk (model prog w) A E s (tuples' true) (fun x=>x∈vs.zip vs) (fun x y=>me (key x.1)<|key y.1) where
 lt:=fun x y st Q hx hy kd h=>by
  have h1:=hp _ (F3 hx).2;have h2:=hp _ (F3 hy).2;rw[lt'_eq];refine Bw<|FA<|Bw<|He<|EB ?_;rw[kd];exact vM h1 h2 ⟨rfl,BD h⟩
 tr:=fun x y z _ _ _ h1 h2=>xN h1 h2
 tot:=fun x y hx hy hne h=>vL (fun e=>hne (by
  have e1:=pO nd (F3 hx).2 (F3 hy).2 e;have:=(F3 hx).1;have:=(F3 hy).1;exact Gy e1 (by simp_all))) h
 irr:=fun x=>pK _
theorem tO{a:Addr}{vs:List Bq}{key:Bq->Int×Int}{n:Nat}{P:PySem.Fin->Bs->Prop}(ho:s.heap.get? a=some (seqObj "list" vs.toArray n))(hp:∀v∈vs,PairAt s.heap v<|key v)(nd:(vs.map key).Nodup)(hl:vs.length<=sizeLine)
  (h:∀out:List Bq,out.Perm vs->(out.map key).Pairwise (fun x y=>me x y=true)->P (.done<|.ret .none) {s with heap:=sortedHeap s.heap a vs out.toArray}):
  wpAny (model prog w) A (Dv.«list.sort» ⟨[.ref a],[]⟩) P E s:=by
 rw[list_sort_plain];have ha:a<s.heap.objs.size:=BC ho;refine Bk<|listItems_at ho rfl ?_;refine Bk (Ih ho rfl ?_ (by rw[BA];exact hl)<|BV _);obtain⟨e1,ho1⟩:∃e1,(s.heap.update a<|DW fun _=> #[]).get? a=some (seqObj "list" #[] e1):=⟨_,get?_update_seq ho<|fun _=> #[]⟩
 refine Bk<|Jn ho1 rfl ?_;refine Bk (HS ?_ (by show vs.length<=_;exact hl));refine Bk<|Kr ?_<|BV _;refine CV ?_;have ho6:(((s.heap.update a<|DW fun _=> #[]).push (seqObj "tuple" vs.toArray 0)).push (seqObj "list" #[] 0)).get? a=some (seqObj "list" #[] e1):=by
  rw[GN _ _ _ (by rw[size_push',Jd];exact BO<|Eb ha),GN _ _ _ (by rw[Jd];exact BO ha)];exact ho1
 show wpAny (model prog w) A _ P E {s with heap:=((s.heap.update a<|DW fun _=> #[]).push (seqObj "tuple" vs.toArray 0)).push (seqObj "list" #[] 0)};dsimp only;by_cases h2:vs.toArray.size<2
 ·rw[if_pos h2,if_pos h2];refine Bk<|Br ?_;rw[StateT.run_pure];refine Bk<|Br ?_;dsimp only;refine Bk<|Jn ho6 rfl ?_;have e:(arrOf<|ES general' (vs.toArray.zip vs.toArray) #[] 7 none).map (·.2)=vs.toArray:=by
   show(vs.toArray.zip vs.toArray).map (·.2)=_;apply Je.mp;simp only[Jb,Array.toList_zip,Jf,Bt]
  rw[e];refine Bk (Ih ho6 rfl ?_ (BV _) (by rw[BA];exact IY hl));simp only[bne_self_eq_false,Cg,if_false];refine Br<|h vs (.refl _) ?_;have h3:vs.length<2:=by simpa using h2
  match vs,h3 with
  | [],_=>exact GK
  | [v],_=>exact Fp _ _
  |_::_::_,h3=>simp at h3;omega
 ·rw[if_neg h2,if_neg h2];have hp2:∀v∈vs,PairAt (((s.heap.update a<|DW fun _=> #[]).push (seqObj "tuple" vs.toArray 0)).push (seqObj "list" #[] 0)) v (key v):=fun v hv=>by
   obtain⟨b,o,t1,t2,m,q2,q3,q4,q5⟩:=hp v hv;have hb:b≠a:=fun z=>by subst z;rw[ho]at q3;cases q3;exact absurd q4 (by show ¬(FL "list"=FL "tuple");decide)
   exact⟨b,o,t1,t2,m,q2,Bm _<|Bm _<|(Fw _ _<|EF hb).trans q3,q4,q5⟩
  obtain⟨fs,l1,l2,l3⟩:=pL (h:=((s.heap.update a<|DW fun _=> #[]).push (seqObj "tuple" vs.toArray 0)).push (seqObj "list" #[] 0)) (vs:=vs) (ks:=vs.map key) ⟨by simp,fun i v e=>⟨key v,by rw[Bz,e];rfl,hp2 v<|BJ e⟩⟩;have h3:2<=vs.length:=by simp at h2;exact h2
  refine Bk (kat_kind (T:=.type "int") l2 (by rw[l1];omega) (fun v hv=>?_) (by decide) ?_)
  ·obtain⟨i,t,rfl⟩:=l3 v hv;exact .now
  rw[show(FL "int" != FL "tuple")=true from by decide];have O:=zd (prog:=prog) (w:=w) (A:=A) (E:=E) (s:={s with heap:=((s.heap.update a<|DW fun _=> #[]).push (seqObj "tuple" vs.toArray 0)).push (seqObj "list" #[] 0)}) hp2 nd;have za:(vs.toArray.zip vs.toArray).toList=vs.zip vs:=by simp
  have ndz:(vs.zip vs).Nodup:=by
   rw[lY,Ce,DT];have nv:vs.Nodup:=Ce.mpr ((DT.mp<|Ce.mp nd).imp fun h e=>h (by rw[e]));exact(Ce.mp nv).imp fun h e=>h<|congrArg Prod.fst e
  have lz:(vs.zip vs).length=vs.length:=by simp
  refine Bk (Dx (nj (Q:=fun _ st'=>SB (tuples' true) (vs.zip vs) st'/\Sr (fun x y=>me (key x.1)<|key y.1) (arrOf st') 0 (vs.zip vs).length) O (fun x hx=>hx) ndz (st:=ES (tuples' true) (vs.toArray.zip vs.toArray) #[] 7 none) ⟨rfl,rfl,by show(vs.toArray.zip vs.toArray).toList.Perm _;rw[za]⟩ rfl fun st' B S=>⟨B,S⟩) ?_ fun _ _ e=>e);rintro ⟨⟨⟩,st'⟩ s' ⟨rfl,B,S⟩;dsimp only at B S ⊢;have hz:=B.size;have mem:∀x∈(arrOf st').toList,x.1=x.2:=fun x hx=>(F3<|B.perm.mem_iff.mp hx).1;refine Bk<|Jn ho6 rfl ?_;refine Bk (Ih ho6 rfl ?_ (BV _) (by rw[Array.size_map,hz,lz];exact IY hl));rw[B.failed];simp only[bne_self_eq_false,Cg,if_false];have eo:(arrOf st').map (·.2)=((arrOf st').toList.map fun x:BF=>x.2).toArray:=by apply Je.mp;simp
  rw[eo];refine Br<|h ((arrOf st').toList.map fun x:BF=>x.2) ?_ ?_
  ·have:=B.perm.map (·.2);rw[Jf<|Bt _]at this;exact this
  ·rw[Gp,DT,DE];intro i j hi hj hij;have hj2:j<(arrOf st').size:=by simpa using hj
   have:=S i j (BV _) hij (by omega);rw[eX (by simpa using hi),eX (by simpa using hj)]at this;show me (key ((arrOf st').toList[i]).2) (key ((arrOf st').toList[j]).2)=true;rw[<-mem _ (DH hi),<-mem _ (DH hj)];exact this
end
end Wb
namespace L2
open PySem PySem.Spec PyProof.Rows Wb
structure TupsH(prog:BK)(w:C2)(K:Bo)(H:Hp)(es:List (Int×Bq))(ks:List (Int×Int)):Prop where
 len:es.length=ks.length
 at_:∀(i:Nat)(e:Int×Bq),es[i]? =some e->∃k b,ks[i]? =some k/\e.2=.ref b/\SqT K H b [.int k.1,.int k.2]/\e.1=tupleKeyHash (mixKind prog w) [.inl k.1,.inl k.2]
def tP(prog:BK)(w:C2)(K:Bo)(H:Hp)(o:Obj)(ks:List (Int×Int)):Prop:=∃es ep t,SetR w o es ep t/\TupsH prog w K H es.toList ks/\ks.Nodup
def gj(k:Int×Int):List Key:=[.inl k.1,.inl k.2]
theorem jc{a b:Int×Int}(h:gj a=gj b):a=b:=by
 unfold gj at h;injection h with h1 h2;injection h2 with h2 _;injection h1 with h1;injection h2 with h2;exact Gy h1 h2
def ze:List Key->Int×Int
 | [.inl a,.inl b]=>(a,b)
 |_=>(0,0)
theorem jd(k:Int×Int):ze (gj k)=k:=rfl
section
variable{Y X:Cx}{elt:Expr}{te:TE}
theorem gE{pins:List (Addr×Obj)}{σ:St}{H:Hp}{s:Bs}{b:Addr}{k:Int×Int}(I:Inv X pins σ H s)(h:SqT X.K H b [.int k.1,.int k.2]):D8 (mixKind X.prog X.w) s.heap (gj k) b:=by
 obtain⟨its,r,⟨o,h1,h2,n,h3⟩,_⟩:=I.tuple h;exact⟨o,its.toArray,n,h1,h2,h3,by simpa using kL (ks:=gj k) r⟩
theorem zf{k:Int×Int}:∀q∈gj k,∀v,(mixKind X.prog X.w).is q v=true->∃i t,v=.int i t:=fun q hq v hv=>by
 have:q=.inl k.1\/q=.inl k.2:=by simpa [gj] using hq
 rcases bM (show fW q v=true from hv)with⟨i,t,e1,rfl⟩|⟨x,t,e1,rfl⟩
 ·exact⟨i,t,rfl⟩
 ·rcases this with z|z<;>(rw[z]at e1;cases e1)
theorem jR{pins:List (Addr×Obj)}{σ:St}{H:Hp}{s:Bs}{b:Addr}{k l:Int×Int}(I:Inv X pins σ H s)(h:SqT X.K H b [.int k.1,.int k.2])(h':SqT X.K H b [.int l.1,.int l.2]):k=l:=by
 have:=I.tuple_inj h h';injection this with e1 e2;injection e2 with e2 _;injection e1 with e1;injection e2 with e2;exact Gy e1 e2
open Classical in
noncomputable def iI(K:Bo)(H:Hp)(e:Int×Bq):Int×Int:=if h:∃k:Int×Int,∃b,e.2=.ref b/\SqT K H b [.int k.1,.int k.2]then h.choose else(0,0)
theorem pP{pins:List (Addr×Obj)}{σ:St}{G H:Hp}{s:Bs}{b:Addr}{k:Int×Int}{e:Int×Bq}(eG:Same G H)(I:Inv X pins σ H s)(h:SqT X.K G b [.int k.1,.int k.2])(he:e.2=.ref b):iI X.K G e=k:=by
 have ex:∃k:Int×Int,∃b,e.2=.ref b/\SqT X.K G b [.int k.1,.int k.2]:=⟨k,b,he,h⟩
 unfold iI;rw[dif_pos ex];obtain⟨b',e1,e2⟩:=ex.choose_spec;rw[he]at e1;cases e1;exact jR I (DG eG e2)<|DG eG h
def zg:Bq->V
 | .ref b=>.ref b
 |_=>.non
end
def set0(w:C2):Obj:={cls:=.type "set",dict:=none,data:=.set #[] 0<|.fresh 0 0<|!w.params.followText "set-order",slots:= #[]}
end L2
namespace Wb
open PySem L2 Mi
end Wb
namespace L2
open PySem PySem.Spec PyProof.Rows Wb
end L2
namespace Wb
open PySem L2 Mi
end Wb
namespace Mi
def iP{α:Type}(kvs:List ((Int×Int)×α))(k:Int×Int)(a:α):Res (List<|(Int×Int)×α):=eA (kvs.length<1000)<|gJ kvs k a
def tQ(ks:List (Int×Int)):Res (List<|Int×Int):=eA (ks.length<=1000/\ks.Nodup)<|eV ks
end Mi
namespace Wb
open PySem PySem.W PySem.Calls PyProof.Rows
def nk(d:Addr)(n ep i:Nat):Obj:={cls:=.type "dict_keyiterator",dict:=none,data:=.fields #[.ref d,.int i 0,.int n 0,.int ep 0],slots:= #[]}
section
variable{prog:BK}{w:C2}{A:Cj}{E:Bq->Bs->Prop}{s:Bs}{d it:Addr}{o:Obj}{es:Array Fm}{ep:Nat}
theorem qZ{Q:Bq->Bs->Prop}(hd:(d==sysModules)=false)(ho:s.heap.get? d=some o)(hx:o.ExactDict)(hdat:o.data=.dict es ep)(hQ:Q (.ref s.heap.objs.size) {s with heap:=s.heap.push (nk d es.size ep 0)}):wpAny (model prog w) A (pyIter<|.ref d) Q E s:=by
 have hT:s.TypeIs (.ref d) "dict":=⟨o,ho,hx.1⟩
 refine IZ hT Jg<|CI Jg hT F.entry_dict_iter ?_<|F.args_dict_iter_1 _;unfold Dv.«dict.__iter__»;refine Bk ?_;unfold K5;refine Bk<|wpAny_notOrdered_dict hT ?_;show wpAny _ _ (pure<|CN d) _ _ s;refine Br ?_;show wpAny _ _ (HF d>>=_) _ _ s;unfold HF;rw[if_neg (by rw[hd];exact BH)];refine Bk<|Br ?_;refine Bk<|FC ho hdat ?_;refine Bk<|Hz ho hdat ?_;refine Bk<|Ea<|Br ⟨_,rfl,"dict_keyiterator",_,⟨_,By _ rfl,rfl⟩,CT.lookup,?_⟩;exact hQ
theorem r0{i:Nat}{Q:Option Bq->Bs->Prop}(hit:s.heap.get? it=some (nk d es.size ep i))(ho:s.heap.get? d=some o)(hdat:o.data=.dict es ep)(hi:i<es.size)
  (hQ:∀h',h'.get? it=some (nk d es.size ep<|i+1)->BM it s.heap h'->Q (some es[i].key) {s with heap:=h'}):wpAny (model prog w) A (pyNext<|.ref it) Q E s:=by
 have hT:s.TypeIs (.ref it) "dict_keyiterator":=⟨_,hit,rfl⟩
 unfold pyNext;refine Bk (EB (CG (name:=Bu "__next__") hT CT
  (CI CT hT G1 ?_ (FR _))))
 refine Bk<|Br ?_;refine Bk ?_;refine Bk ?_
 first|refine Bk (DO hT<|Br ?_)|refine Bk<|Ef hT<|Br ?_
 refine Bk<|JO hit rfl ?_;have hown:Ge "dict_keyiterator"=false:=by decide
 simp only[hown,Cg,if_false];show wpAny _ _ (if(CN d==CM)=true then _ else _) _ _ s;rw[if_neg (show ¬((CN d==CM)=true)from BH)];refine Bk<|Br ?_;refine Bk<|FC ho hdat ?_;rw[if_neg (by simp)];refine Bk<|Br ?_;refine Bk<|Hz ho hdat ?_;rw[if_neg (by simp)];refine Br ?_;simp only[show ¬((i:Int)<0)from by omega,if_false,DQ,C7 hi];refine Bk ?_
 first|refine Bk (DO hT<|Br ?_)|refine Bk<|Ef hT<|Br ?_
 refine Bk<|HG hT ?_;show wpAny _ _ (setField (.ref it) 1 (rawInt<|(i:Int)+1)>>=_) _ _ s;refine Bk (Gx hit rfl (by simp) ?_);have hit':=E3 (Kt (·.setIfInBounds 1 (rawInt<|(i:Int)+1))) hit rfl;refine Bk<|CV ?_;refine Bk (HG (s:={s with heap:=s.heap.update it (Kt (·.setIfInBounds 1 (rawInt<|(i:Int)+1)))}) ⟨_,hit',rfl⟩ ?_);show wpAny _ _ (pure es[i].key) _ _ _;exact Br<|Br ⟨_,rfl,Br<|hQ _ (hit'.trans rfl)<|DC ..⟩
theorem tR{Q:Option Bq->Bs->Prop}(hh:A.handled=none)(hit:s.heap.get? it=some (nk d es.size ep es.size))(ho:s.heap.get? d=some o)(hdat:o.data=.dict es ep)
  (hQ:∀h',Fo it s.heap h'->Q none {s with heap:=h'}):wpAny (model prog w) A (pyNext<|.ref it) Q E s:=by
 have hT:s.TypeIs (.ref it) "dict_keyiterator":=⟨_,hit,rfl⟩
 unfold pyNext;refine Bk (EB (CG (name:=Bu "__next__") hT CT
  (CI CT hT G1 ?_ (FR _))))
 refine Bk<|Br ?_;refine Bk ?_;refine Bk ?_
 first|refine Bk (DO hT<|Br ?_)|refine Bk<|Ef hT<|Br ?_
 refine Bk<|JO hit rfl ?_;have hown:Ge "dict_keyiterator"=false:=by decide
 simp only[hown,Cg,if_false];show wpAny _ _ (if(CN d==CM)=true then _ else _) _ _ s;rw[if_neg (show ¬((CN d==CM)=true)from BH)];refine Bk<|Br ?_;refine Bk<|FC ho hdat ?_;rw[if_neg (by simp)];refine Bk<|Br ?_;refine Bk<|Hz ho hdat ?_;rw[if_neg (by simp)];refine Br ?_;simp only[show ¬((es.size:Int)<0)from by omega,if_false,DQ,Ho<|Bt es.size];refine Bk ?_
 first|refine Bk (DO hT<|Br ?_)|refine Bk<|Ef hT<|Br ?_
 show wpAny _ _ (setField (.ref it) 0 .none>>=_) _ _ s;refine Bk (Gx hit rfl (by simp) ?_);show wpAny _ _ (newExc (.type "StopIteration") []>>=_) _ _ _;refine Bk ?_;simp only[newExc,newTuple];refine Bk (Ea ?_ (by size_fits));refine Bk (m:=firstArgMember _ _) (Jl (a:=CM) (by first|rfl|(simp only[firstArgMember];rfl)) ?_);refine Ea ?_ (by size_fits);simp only[raiseNew];refine Bk<|Km ?_;rw[show A.in1.handled=none from hh];refine Bk<|Br<|wpAny_throw ?_;refine Bk<|En (T:="StopIteration") (b:=true) ⟨_,By _ rfl,rfl⟩ EM ?_;exact Br<|hQ _<|((DC ..).extBut.push _).push _
theorem Walks.dictR(hh:A.handled=none)(I d:Addr)(hne:d≠I)(hx:o.ExactDict)(hdat:o.data=.dict es ep):
  Walks prog w A I [I,d] [I] es.size (fun i v=>∃e,es[i]? =some e/\v=e.key) (fun i h=>h.get? I=some (nk d es.size ep i)/\h.get? d=some o) where
 sub:=fun b hb=>by simp at hb;simp[hb]
 frame:=fun _ _ _ st hk=>⟨hk I (by simp) _ st.1,hk d (by simp) _ st.2⟩
 item:=fun i s Q E hi st hQ=>by
  refine r0 st.1 st.2 hdat hi fun h' hI' hs'=>?_;exact hQ _ h' s.toks ⟨_,C7 hi,rfl⟩ ⟨hI',hs'.extBut d _ hne st.2⟩ fun b o hb e=>hs'.extBut b o (fun h=>hb (by simp[h])) e
 done:=fun s Q E st hQ=>tR hh st.1 st.2 hdat fun h' he'=>hQ h' s.toks fun b o hb e=>he' b o (fun h=>hb (by simp[h])) e
 self:=fun i s Q E st hQ=>by
  have hT:s.TypeIs (.ref I) "dict_keyiterator":=⟨_,st.1,rfl⟩
  refine IZ hT Gf<|CI Gf hT F.entry_dict_keyiterator_iter ?_<|F.args_dict_keyiterator_iter_1 _;show wpAny _ _ (ret<|.ref I) _ _ s;exact Br ⟨_,rfl,"dict_keyiterator",_,hT,CT.lookup,hQ⟩
theorem tS(lo:(d==sysModules)=false)(hx:o.ExactDict)(hdat:o.data=.dict es ep):KdlSrc prog w "dict" d d es.size (fun i v=>∃e,es[i]? =some e/\v=e.key) (fun h=>h.get? d=some o) where
 type:=fun _ hm=>⟨o,hm,hx.1⟩
 there:=fun _ hm=>⟨BC hm,BC hm⟩
 keep:=fun _ _ hm hk=>hk d (.inl rfl) o hm
 notList:=by decide
 notTuple:=by decide
 hint:=fun _ _ _ _ hm hq=>kdl_hint_dict ⟨o,hm,hx.1⟩ hq
 iter:=fun _ _ hh hm=>⟨_,_,(fun _ _ hq=>qZ lo hm hx hdat hq),Walks.dictR hh _ d (BO<|BC hm) hx hdat,⟨By _ rfl,Bm _ hm⟩⟩
end
end Wb
namespace L2
open PySem PySem.Spec PyProof.Rows Wb
def KP(K:Bo)(G:Hp):List ((Int×Int)×V)->List (List Key×Addr×Bq)->Prop:=Paired<|fun(p:(Int×Int)×V)(q:List Key×Addr×Bq)=>gj p.1=q.1/\SqT K G q.2.1 [.int p.1.1,.int p.1.2]/\RelV p.2 q.2.2
section
variable{K:Bo}{G G':Hp}{kvs:List ((Int×Int)×V)}{xs:List (List Key×Addr×Bq)}
theorem KP.val(r:KP K G kvs xs)(k:Int×Int):RelO (fU kvs k) ((atKey xs<|gj k).map (·.2)):=by
 unfold KP at r
 induction r with
 |nil=>exact Fe
 | @cons p q ps qs h t ih=>
  obtain⟨h1,_,h2⟩:=h;by_cases e:p.1=k
  ·have e':q.1=gj k:=by rw[<-h1,e]
   have b:atKey (q::qs) (gj k)=some q.2:=by simp[atKey,DY,e']
   rw[fX e,b];exact h2
  ·have e':¬q.1=gj k:=fun z=>e<|jc<|h1.trans z;have b:atKey (q::qs) (gj k)=atKey qs (gj k):=by simp[atKey,DY,e']
   rw[fY e,b];exact ih
theorem KP.repl(r:KP K G kvs xs)(k:Int×Int){y:V}{u:Bq}(ry:RelV y u):KP K G (kvs.map fun kv=>if kv.1=k then(kv.1,y)else kv) (xs.map<|KW (gj k) u):=by
 unfold KP at r ⊢
 induction r with
 |nil=>exact .nil
 | @cons p q ps qs h t ih=>
  rw[CO,CO];refine .cons ?_ ih;obtain⟨h1,h2,h3⟩:=h;unfold KW;by_cases e:p.1=k;·rw[if_pos e,if_pos (by rw[<-h1,e])];exact⟨h1,h2,ry⟩
  ·rw[if_neg e,if_neg<|fun z=>e<|jc<|h1.trans z];exact⟨h1,h2,h3⟩
theorem KP.put(r:KP K G kvs xs)(k:Int×Int){b:Addr}{y:V}{u:Bq}(hb:SqT K G b [.int k.1,.int k.2])(ry:RelV y u):KP K G (qp kvs k y) (storedH xs (gj k) b u):=by
 have e:(kvs.any fun kv=>decide<|kv.1=k)=(atKey xs<|gj k).isSome:=by rw[mE,(r.val k).isSome_eq,J3]
 unfold qp storedH;rw[e];by_cases q:(atKey xs<|gj k).isSome=true;·rw[if_pos q,if_pos q];exact r.repl k ry
 ·rw[if_neg q,if_neg q];exact Paired.snoc r ⟨rfl,hb,ry⟩
theorem KP.same(r:KP K G kvs xs)(e:Same G G'):KP K G' kvs xs:=Paired.mapP r fun _ _ z=>⟨z.1,DG e z.2.1,z.2.2⟩
end
def DictP(prog:BK)(w:C2)(K:Bo)(G:Hp)(o:Obj)(kvs:List ((Int×Int)×V)):Prop:=∃es ep xs,o.ExactDict/\o.data=.dict es ep/\es.toList=xs.map (entryOfKey<|tupleKind<|mixKind prog w)/\(xs.map (·.1)).Nodup/\KP K G kvs xs
def PDa(prog:BK)(w:C2)(K:Bo)(G H:Hp)(a:Addr)(kvs:List ((Int×Int)×V)):Prop:=∃o,Same G H/\H a=some (XO a o)/\(a==sysModules)=false/\DictP prog w K G o kvs/\kvs.length<=1000
def nq:Obj:={cls:=.type "dict",dict:=none,data:=.dict #[],slots:= #[]}
def tT:TE:=fun _ H Q=>∀p,H p=none->(p==sysModules)=false->Q (.ref p) (cU H p<|XO p nq)
def tU(prog:BK)(w:C2)(K:Bo)(td ty tv:TE):TS:=fun D σ H=>tv σ H fun v H1=>td σ H1 fun x H2=>ty σ H2 fun y H3=>∃G a kvs b k,x=.ref a/\PDa prog w K G H3 a kvs/\kvs.length<1000/\y=.ref b/\SqT K G b [.int k.1,.int k.2]/\∀o',DictP prog w K G o' (qp kvs k v)->D.nx σ (cU H3 a<|XO a o')
def wY(prog:BK)(w:C2)(K:Bo):List V->Hp->VK->Prop:=fun xs H Q=>∃G a kvs,xs=[.ref a]/\PDa prog w K G H a kvs/\Q (.int kvs.length) H
def tV(prog:BK)(w:C2)(K:Bo):List V->Hp->VK->Prop:=fun xs H Q=>∃G a kvs,xs=[.ref a]/\PDa prog w K G H a kvs/\∀q us,H q=none->us.length=kvs.length->(∀(i:Nat)(v:V)(p:(Int×Int)×V),us[i]? =some v->kvs[i]? =some p->∃b,v=.ref b/\SqT K G b [.int p.1.1,.int p.1.2])->Q (.ref q) (cU H q<|.lst us)
def tW(K:Bo):List V->Hp->VK->Prop:=fun xs H Q=>∃(G:Hp)(p:Addr)(us:List V)(ks:List (Int×Int)),xs=[.ref p]/\Same G H/\SqL K H p us/\us.length=ks.length/\(∀(i:Nat)(v:V)(k:Int×Int),us[i]? =some v->ks[i]? =some k->∃b,v=.ref b/\SqT K G b [.int k.1,.int k.2])/\ks.Nodup/\ks.length<=1000/\
 ∀(q:Addr)(us':List V)(ks':List (Int×Int)),H q=none->ks'.Perm ks->ks'.Pairwise (fun a b=>me a b=true)->us'.length=ks'.length->(∀(i:Nat)(v:V)(k:Int×Int),us'[i]? =some v->ks'[i]? =some k->∃b,v=.ref b/\SqT K G b [.int k.1,.int k.2])->Q (.ref q) (cU H q<|.lst us')
section
variable{X:Cx}{K:Bo}{pos pos':Pos}{o i value:Expr}{td ty tv:TE}{pins:List (Addr×Obj)}{σ:St}{H:Hp}{s:Bs}
theorem tX(prog:BK)(w:C2)(K:Bo)(G:Hp):DictP prog w K G nq []:=⟨#[],0,[],⟨rfl,rfl,rfl⟩,rfl,rfl,Ep,.nil⟩
theorem nr:PE X (.Dict [] [] pos) tT:=fun pins s σ H Q I h=>
 wpAny_Dict_empty ⟨.ref s.heap.objs.size,_,I.laid (a:=s.heap.objs.size) (t':=s.toks) (fun _ _ q=>Bm _ q) (Bt _)<|XO.ok (o:=nq)<|By _ rfl,rfl,h _ (I.hok.fresh<|Bt _)<|beq_eq_false_iff_ne.mpr<|EF<|BO I.big⟩
theorem PDa.h{G:Hp}{a:Addr}{kvs:List ((Int×Int)×V)}(I:Inv X pins σ H s)(g:PDa X.prog X.w X.K G H a kvs):∃xs,KP X.K G kvs xs/\s.heap.DictOfH (tupleKind<|mixKind X.prog X.w) a xs/\xs.length<=1000:=by
 obtain⟨o,eG,ha,lo,⟨es,ep,xs,ex,dat,he,nd,r⟩,hl⟩:=g;have hl2:kvs.length=xs.length:=Paired.length r;refine⟨xs,r,⟨o,es,ep,(I.hok a _ ha).1,ex,dat,he,fun x hx=>?_,nd⟩,by omega⟩;obtain⟨j,hj⟩:=EC.mp hx;obtain⟨p,hp,h1,h2,h3⟩:=fk r hj;rw[<-h1];exact gE I<|DG eG h2
theorem nt(hu:X.A.units+1<cLine)(ho:PE X o td)(hi:PE X i ty)(hv:PE X value tv)(hs:swapsWith value (some<|.Subscript o i pos') pos.line X.env=pure false):
  PS X (.Assign [.Subscript o i pos'] value pos) (tU X.prog X.w X.K td ty tv):=by
 intro pins s σ H D I h;refine wpAny_Assign_Subscript (cT (hv pins s σ H _ I h) fun r s1⟨v,H1,I1,rv,q1⟩=>cT (ho pins s1 σ H1 _ I1 q1) fun u s2⟨x,H2,I2,rx,q2⟩=>cT (hi pins s2 σ H2 _ I2 q2) fun iv s3⟨y,H3,I3,ry,G,a,kvs,b,k,ex,g,hl,ey,hb,q3⟩=>?_) hs;subst ex ey;obtain rfl:u=CN a:=rx;obtain rfl:iv=CN b:=ry;obtain⟨xs,rel,dd,hx⟩:=g.h I3;obtain⟨ob,eG,ha,lo,_,_⟩:=g;refine wpAny_setItem_heap (hsz:=by rw[CF];omega) (IF hu) (gE I3<|DG eG hb) dd fun h' dd' hs=>?_;obtain⟨o',es,ep,hq,h2,h3,h4,_,h5⟩:=dd';exact⟨σ,_,vf I3 (by rw[ha];exact Fe) hs ⟨o',hq⟩<|XO.ok hq,q3 o' ⟨es,ep,_,h2,h3,h4,h5,rel.put k hb rv⟩⟩
theorem r6:dt X (.builtin "len") (wY X.prog X.w X.K):=by
 intro pins s σ H xs us Q I r h;obtain⟨G,a,kvs,rfl,g,q⟩:=h;obtain⟨u,rfl,rx⟩:=eR r;cases rx;obtain⟨ys,rel,⟨od,es,ep,hod,hx,hdat,he,hk,nd⟩,hl⟩:=g.h I;obtain⟨ob,eG,ha,lo,_,_⟩:=g;have hT:s.TypeIs (.ref a) "dict":=⟨od,hod,hx.1⟩
 have hsz:es.size=kvs.length:=by
  rw[<-BX,he,BS];exact(Paired.length rel).symm
 have hsz2:es.size<=1000:=by rw[<-BX,he,BS];exact hl
 refine GF kind_len plain_len entry_len (args_len1 _) ?_;unfold Dv.«len»;refine Bk (m:=oneArg "len" _)<|Br ?_;refine Bk (m:=callSpecial? (.ref a)<|Bu "__len__") (CG (name:=Bu "__len__") hT HH
  (CI HH hT PySem.F.entry_dict_len ?_ (PySem.F.args_dict_len_1 _)))
 show wpAny _ _ (dictSize a>>=_) _ _ s;unfold dictSize;refine Bk<|Bk<|FC hod hdat<|Br ?_;show wpAny _ _ (K6 a>>=_) _ _ s;refine Bk<|wpAny_pendingCount_other lo ?_;rw[show((es.size:Int)+((0:Nat):Int))=(es.size:Int) by omega];unfold retInt;refine Bk<|wpAny_mkInt<|Br ⟨_,rfl,?_⟩;refine Bk<|CV<|Br ?_;refine Bk<|Ew ?_;show wpAny _ _ (if((es.size:Nat):Int)<0 then _ else _) _ _ _;rw[if_neg (by omega)];show wpAny _ _ (if((es.size:Nat):Int)≥2^63 then _ else _) _ _ _;rw[if_neg (by omega)];rw[hsz];exact Bk<|wpAny_mkInt<|Br ⟨_,rfl,⟨.int kvs.length,H,I.tok _,⟨_,rfl⟩,q⟩⟩
theorem oA(hc:X.calm=true):dt X (.type "list") (tV X.prog X.w X.K):=by
 intro pins s σ H xs us Q I r h;obtain⟨G,a,kvs,rfl,g,q⟩:=h;obtain⟨u,rfl,rx⟩:=eR r;cases rx;obtain⟨ob,eG,ha,lo,⟨es,ep,ys,hx,hdat,he,nd,rel⟩,hl⟩:=g;have hod:s.heap.get? a=some ob:=(I.hok a _ ha).1;have hsz:es.size=kvs.length:=by
  rw[<-BX,he,BS];exact(Paired.length rel).symm
 have src:∀(i:Nat)(e:Fm)(p:(Int×Int)×V),es[i]? =some e->kvs[i]? =some p->∃b,e.key=.ref b/\SqT X.K G b [.int p.1.1,.int p.1.2]:=fun i e p h1 h2=>by
  rw[<-BB,he,Bz]at h1;obtain⟨y,h3,rfl⟩:=Cw.mp h1;obtain⟨p',h4,h5,h6,h7⟩:=fk rel h3;rw[h2]at h4;cases h4;exact⟨y.2.1,rfl,h6⟩
 refine PySem.W.kdl_call (tS lo hx hdat) (I.ok.hd hc) hod (by rw[CF];omega) fun h' tk acc c' hk e hacc=>?_;refine⟨.ref _,_,I.laid (t':=tk) hk (Bt _) (show ObjOk X.prog X.w _ h' _ (.lst<|acc.toList.map zg)from⟨by rw[BS,BX,hacc.1,CF];omega,acc.toList,c',?_,by rw[HU];exact e⟩),rfl,q _ _ (I.hok.fresh<|Bt _) (by rw[BS,BX,hacc.1,hsz]) fun i v p h1 h2=>?_⟩
 ·refine hX _ _ (by rw[BS]) fun j x u hx hu=>?_;rw[Bz,hu]at hx;cases hx;obtain⟨e,h1,rfl⟩:=hacc.2 j u (by rw[<-BB];exact hu);have hj:j<kvs.length:=by have:=(E2.mp h1).1;omega
  obtain⟨b,h3,_⟩:=src j e _ h1<|Bn hj;rw[h3];rfl
 ·rw[Bz]at h1;obtain⟨u,hu,rfl⟩:=Cw.mp h1;obtain⟨e,h3,rfl⟩:=hacc.2 i u (by rw[<-BB];exact hu);obtain⟨b,h4,h5⟩:=src i e p h3 h2;exact⟨b,by rw[h4];rfl,h5⟩
theorem oB(h:X.K=K):dt X (.builtin "sorted") (tW K):=by
 subst h;intro pins s σ H xs us Q I r h;obtain⟨G,p,vs,ks,rfl,eG,hq,hl,rel,nd,hz,q⟩:=h;obtain⟨u,rfl,rx⟩:=eR r;cases rx;obtain⟨its,r',pl,_⟩:=I.list hq;have l1:=r'.length;have il:its.length=ks.length:=by omega
 have at_:∀(j:Nat)(u:Bq)(k:Int×Int),its[j]? =some u->ks[j]? =some k->∃b,u=.ref b/\SqT X.K G b [.int k.1,.int k.2]:=fun j u k h1 h2=>by
  obtain⟨v,h3,h4⟩:=fk r' h1;obtain⟨b,rfl,h5⟩:=rel j v k h3 h2;exact⟨b,h4,h5⟩
 have km:its.map (fun v=>iI X.K G (0,v))=ks:=by
  apply DR;intro j;rw[Bz];by_cases z:j<its.length
  ·have z2:j< ks.length:=by omega
   obtain⟨b,h1,h2⟩:=at_ j its[j] ks[j] (Bn z) (Bn z2);rw[Bn z,Bn z2];exact congrArg some<|pP (e:=(0,its[j])) eG I h2 h1
  ·rw[DF (by omega),DF (by omega)];rfl
 have src:∀v∈its,∃b,v=.ref b/\SqT X.K G b [.int (iI X.K G (0,v)).1,.int (iI X.K G (0,v)).2]:=fun v hv=>by
  obtain⟨j,hj,e⟩:=D7.mp hv;have z2:j<ks.length:=by omega
  obtain⟨b,h1,h2⟩:=at_ j v ks[j] (by rw[Bn hj,e]) (Bn z2);exact⟨b,h1,by rw[pP (e:=(0,v)) eG I h2 h1];exact h2⟩
 refine GF kind_sorted plain_sorted entry_sorted (args_sorted1 _) ?_;unfold Dv.«sorted»;refine Bk (m:=checkCount "sorted" 1 1 _)<|Br ?_;refine Bk (collect_list pl.isList ?_ (by rw[CF];omega));refine Bk (Kr ?_ (by rw[CF];omega));generalize hh1:(s.heap.push<|seqObj "list" #[] 0).update s.heap.objs.size (DW (· ++its.toArray))=h1;have k1:∀b o,s.heap.get? b=some o->h1.get? b=some o:=fun b o q=>by
  have hlt:b<s.heap.objs.size:=BC q;rw[<-hh1,Heap.get?_update_ne _ _ _ _<|BO hlt,GN _ _ _<|BO hlt];exact q
 have I':=I.kept (t':=s.toks) k1;have hoL:(h1.push<|seqObj "list" its.toArray 0).get? h1.objs.size=some (seqObj "list" its.toArray 0):=By _ rfl;refine Bk (CV (CI slot_list_sort ⟨_,hoL,rfl⟩ entry_list_sort (tO (key:=fun v=>iI X.K G (0,v)) hoL (fun v hv=>?_) (by rw[km];exact nd) (by rw[il,CF];omega) fun out op' pw=>⟨_,rfl,?_⟩)<|args_list_sort _))
 ·obtain⟨b,rfl,h3⟩:=src v hv;obtain⟨jts,rr,⟨ob,g1,g2,n,g3⟩,_⟩:=I'.tuple<|DG eG h3;obtain⟨u1,u2,e1,⟨t1,e2⟩,t2,e3⟩:∃u1 u2,jts=[u1,u2]/\RelV (.int (iI X.K G (0,.ref b)).1) u1/\RelV (.int (iI X.K G (0,.ref b)).2) u2:=by
   cases rr with
   |cons a b=>cases b with
    |cons c d=>cases d with
     |nil=>exact⟨_,_,rfl,a,c⟩
  subst e1;rw[e2,e3]at g3;exact⟨b,ob,t1,t2,n,rfl,Bm _ g1,g2,g3⟩
 obtain⟨e,he⟩:=sortedHeap_at (h:=h1.push<|seqObj "list" its.toArray 0) (a:=h1.objs.size) (vs:=its) (out:=out.toArray) (n:=0) hoL;have at2:∀v∈out,∃b,v=.ref b/\SqT X.K G b [.int (iI X.K G (0,v)).1,.int (iI X.K G (0,v)).2]:=fun v hv=>src v<|op'.mem_iff.mp hv;have pkz:(out.map fun v=>iI X.K G (0,v)).Perm ks:=by
  have:=op'.map fun v=>iI X.K G (0,v);rw[km]at this;exact this
 have ol:out.length=ks.length:=by rw[op'.length_eq];exact il
 refine Br ⟨_,rfl,.ref h1.objs.size,_,I'.laid (t':=s.toks) (fun b o z=>?_) (Bt _) (show ObjOk X.prog X.w _ _ _ (.lst<|out.map zg)from⟨by rw[BS,CF];omega,out,e,?_,he⟩),rfl,q _ _ (out.map fun v=>iI X.K G (0,v)) (I'.hok.fresh<|Bt _) pkz pw (by rw[BS,BS]) fun i v k h1 h2=>?_⟩
 ·show(sortedHeap _ _ _ _).get? b=some o;rw[sortedHeap_old (BO<|BC z) (by rw[size_push'];exact Eb<|BC z)];exact Bm _ z
 ·refine hX _ _ (by rw[BS]) fun j x u hx hu=>?_;rw[Bz,hu]at hx;cases hx;obtain⟨b,rfl,_⟩:=at2 u<|BJ hu;rfl
 ·rw[Bz]at h1 h2;obtain⟨u,hu,rfl⟩:=Cw.mp h1;rw[hu]at h2;cases h2;obtain⟨b,rfl,h4⟩:=at2 u<|BJ hu;exact⟨b,rfl,h4⟩
end
end L2
namespace Wb
open PySem L2 Mi
section
variable{Er:Nat->Prop}{α:Type}{prog:BK}{w:C2}{K:Bo}{W W' W0 W1 W2:Wd}{σ:St}{te ti ta:TE}{R:Rp α}{i:Nat}{p:Addr}{D:Ends}{r:TS}
structure OwP(prog:BK)(w:C2)(K:Bo)(R:Rp α)(W:Wd)(p:Addr)(kvs:List ((Int×Int)×α)):Prop where
 g:W.G p=none
 h:∃o vs,W.H p=some (XO p o)/\(p==sysModules)=false/\DictP prog w K W.G o vs/\vs.length<=1000/\vs.length=kvs.length/\∀(i:Nat)(q:(Int×Int)×V)(x:(Int×Int)×α),vs[i]? =some q->kvs[i]? =some x->q.1=x.1/\R W.G x.2 q.2
theorem jS{G G':Hp}{o:Obj}{kvs:List ((Int×Int)×V)}(h:DictP prog w K G o kvs)(e:Same G G'):DictP prog w K G' o kvs:=
 let ⟨es,ep,xs,a,b,c,d,r⟩:=h
 ⟨es,ep,xs,a,b,c,d,r.same e⟩
theorem OwP.mono[Mono R]{kvs:List ((Int×Int)×α)}(o:OwP prog w K R W p kvs)(e:Ext W W'):OwP prog w K R W' p kvs:=by
 obtain⟨x,vs,a,lo,b,hl,c,d⟩:=o.h;exact⟨by rw[e.k p (by rw[a];exact fun z=>nomatch z)];exact o.g,x,vs,e.h _ _ a,lo,jS b e.g,hl,c,fun i q y h1 h2=>⟨(d i q y h1 h2).1,Bi e.g (d i q y h1 h2).2⟩⟩
theorem OwP.keep[Mono R]{q:Addr}{kvs:List ((Int×Int)×α)}(o:OwP prog w K R W q kvs)(hH:W'.H q=W.H q)(hs:Same W.G W'.G)(hg:W'.G q=W.G q):OwP prog w K R W' q kvs:=by
 obtain⟨x,vs,a,lo,b,hl,c,d⟩:=o.h;exact⟨by rw[hg];exact o.g,x,vs,by rw[hH];exact a,lo,jS b hs,hl,c,fun i q y h1 h2=>⟨(d i q y h1 h2).1,Bi hs (d i q y h1 h2).2⟩⟩
theorem Mu.owP[Mono R]{q:Addr}{kvs:List ((Int×Int)×α)}(m:Mu W W' p)(hq:q≠p)(o:OwP prog w K R W q kvs):OwP prog w K R W' q kvs:=by
 obtain⟨x,vs,a,_⟩:=o.h;obtain⟨h1,h2⟩:=m.h q hq (by rw[a];exact fun z=>nomatch z);exact o.keep h1 m.g h2
theorem tY{H:Hp}{vs:List ((Int×Int)×V)}{xs:List ((Int×Int)×α)}(hl:vs.length=xs.length)(h:∀(i:Nat)(q:(Int×Int)×V)(x:(Int×Int)×α),vs[i]? =some q->xs[i]? =some x->q.1=x.1/\R H x.2 q.2){k:Int×Int}{a:α}{v:V}(hv:R H a v):
  (qp vs k v).length=(gJ xs k a).length/\∀(i:Nat)(q:(Int×Int)×V)(x:(Int×Int)×α),(qp vs k v)[i]? =some q->(gJ xs k a)[i]? =some x->q.1=x.1/\R H x.2 q.2:=by
 have key:∀(vs:List ((Int×Int)×V))(xs:List ((Int×Int)×α)),vs.length=xs.length->(∀(i:Nat)(q:(Int×Int)×V)(x:(Int×Int)×α),vs[i]? =some q->xs[i]? =some x->q.1=x.1/\R H x.2 q.2)->(vs.any fun p=>decide<|p.1=k)=(xs.any fun p=>decide<|p.1=k):=by
  intro vs
  induction vs with
  |nil=>intro xs hl _;cases xs with|nil=>rfl|cons _ _=>cases hl
  |cons q vs ih=>
   intro xs hl h;cases xs with
   |nil=>cases hl
   |cons x xs=>rw[F7,F7,ih xs (by simpa using hl) fun i q x h1 h2=>h (i+1) q x h1 h2,(h 0 q x rfl rfl).1]
 unfold qp gJ;rw[key vs xs hl h];by_cases z:(xs.any fun p=>decide<|p.1=k)=true
 ·rw[if_pos z,if_pos z];refine⟨by rw[BS,BS];exact hl,fun i q x h1 h2=>?_⟩;rw[Bz]at h1 h2;obtain⟨q',h3,rfl⟩:=Cw.mp h1;obtain⟨x',h4,rfl⟩:=Cw.mp h2;have:=h i q' x' h3 h4;by_cases y:x'.1=k;·rw[if_pos y,if_pos<|this.1.trans y];exact⟨this.1,hv⟩
  ·rw[if_neg y,if_neg<|fun e=>y<|this.1.symm.trans e];exact this
 ·rw[if_neg z,if_neg z];refine⟨by simp[hl],fun i q x h1 h2=>?_⟩;by_cases y:i<vs.length
  ·rw[BL y]at h1;rw[BL (by omega)]at h2;exact h i q x h1 h2
  ·rw[BI (by omega)]at h1;rw[BI (by omega),<-hl]at h2;cases e:i-vs.length with
   |zero=>rw[e]at h1 h2;cases h1;cases h2;exact⟨rfl,hv⟩
   |succ n=>rw[e]at h1;simp at h1
theorem tZ{kvs:List ((Int×Int)×α)}{k:Int×Int}{a:α}:(gJ kvs k a).length<=kvs.length+1:=by unfold gJ;split<;>simp
def Au(prog:BK)(w:C2)(K:Bo)(Er:Nat->Prop)(t:TE)(σ:St)(W:Wd)(R:Rp α)(m:Res (List<|(Int×Int)×α)):Prop:=∀W1,Ext W W1->∀Q:VK,m.OkE Er (fun xs=>∀p W2,Ext W1 W2->W1.H p=none->OwP prog w K R W2 p xs->Q (.ref p) W2.H)->t σ W1.H Q
theorem nu:Au prog w K Er tT σ W R (.ok []):=fun W1 e1 Q k p hp lo=>k p (W1.mut p (XO p nq)<|W1.gnone hp) (.own _ hp) hp ⟨W1.gnone hp,nq,[],aG,lo,tX ..,by decide,rfl,fun i q x h=>by simp at h⟩
theorem vO{σ':Addr->St}{m:Res (List<|(Int×Int)×α)}(h:Au prog w K Er te σ W R m)(q:m.OkE Er fun a=>∀p W',Ext W W'->W.H p=none->OwP prog w K R W' p a->D.nx (σ' p) W'.H)(hσ:∀p,σ.set i (some<|.ref p)=σ' p:=by intro _;rfl):bK te (aO i) D σ W.H:=
 h W (.refl _) _ (q.imp fun a k p W' e hp o=>by show D.nx (σ.set i<|some<|.ref p) W'.H;rw[hσ];exact k p W' e hp o)
theorem kZ{σ':Addr->St}{m:Res (List<|(Int×Int)×α)}(h:Au prog w K Er te σ W R m)(q:m.OkE Er fun a=>∀p W',Ext W W'->W.H p=none->OwP prog w K R W' p a->r D (σ' p) W'.H)(hσ:∀p,σ.set i (some<|.ref p)=σ' p:=by intro _;rfl):fS (bK te<|aO i) r D σ W.H:=vO (D:={D with nx:=r D}) h q hσ
theorem OwP.pd[Mono R]{kvs:List ((Int×Int)×α)}(o:OwP prog w K R W p kvs):∃vs,PDa prog w K W.G W.H p vs/\vs.length=kvs.length/\∀(i:Nat)(q:(Int×Int)×V)(x:(Int×Int)×α),vs[i]? =some q->kvs[i]? =some x->q.1=x.1/\R W.G x.2 q.2:=by
 obtain⟨x,vs,a,lo,b,hl,c,d⟩:=o.h;exact⟨vs,⟨x,W.ok,a,lo,b,hl⟩,c,d⟩
theorem ny[Mono R]{xs:List ((Int×Int)×α)}{m:Res α}{mk:Res (Int×Int)}(o:OwP prog w K R W p xs)(h:EV Er te σ W (sh R) m)(hj:EV Er ti σ W (sh<|isT2 K isI isI) mk)
  (q:(m.bind fun a=>mk.bind fun k=>iP xs k a).OkE Er fun ys=>∀W',Mu W W' p->OwP prog w K R W' p ys->D.nx σ W'.H) (hi:σ[i]? =some (some<|.ref p):=by rfl):tU prog w K (bF i) ti te D σ W.H:=by
 refine h W (.refl _) _<|(Bj q).imp fun a ka v W2 e2 hv=>⟨.ref p,hi,hj W2 e2 _<|(Bj ka).imp fun k kk x W3 e3 hx=>?_⟩;obtain⟨h3,h4⟩:=bh kk;have e:=e2.trans e3;have o':=o.mono e;obtain⟨ob,vs,o1,lo,o2,hl,o3,o4⟩:=o'.h;obtain⟨b,x1,x2,rfl,t1,r1,r2⟩:=hx;cases r1;cases r2;obtain⟨p1,p2⟩:=tY o3 o4 (k:=k)<|Bi (R:=R) e3.g hv;refine⟨W3.G,p,vs,b,k,rfl,⟨ob,W3.ok,o1,lo,o2,hl⟩,by omega,rfl,t1,fun o2' d'=>?_⟩;exact h4 (W3.mut p (XO p o2') o'.g) (.of e o'.g) ⟨o'.g,o2',_,aG,lo,d',by have:=tZ (kvs:=xs) (k:=k) (a:=a);omega,p1,p2⟩
theorem vP[Mono R]{xs:List ((Int×Int)×α)}(o:OwP prog w K R W p xs)(hi:σ[i]? =some (some<|.ref p):=by rfl):EV Er (dX (wY prog w K)<|ak (bF i) aS) σ W (sh isI) (.ok (xs.length:Int)):=fun W1 e1 Q k=>by
 obtain⟨vs,g,hl,_⟩:=(o.mono e1).pd;exact⟨.ref p,hi,W1.G,p,vs,rfl,g,by rw[hl];exact k _ W1 (.refl _) rfl⟩
theorem u0[Mono R]{xs:List ((Int×Int)×α)}(o:OwP prog w K R W p xs)(hi:σ[i]? =some (some<|.ref p):=by rfl):EVo Er (dX (tV prog w K)<|ak (bF i) aS) σ W (isT2 K isI isI) (.ok (xs.map (·.1))):=fun W1 e1 Q k=>by
 obtain⟨vs,g,hl,rel⟩:=(o.mono e1).pd;refine⟨.ref p,hi,W1.G,p,vs,rfl,g,fun q us hq l1 at_=>?_⟩;refine lM (W2:=W1) (vs:=us) ⟨by rw[BS,l1,hl],fun i v m e1 e2=>?_⟩ (.refl _) k q hq;rw[Bz]at e2;obtain⟨x,h1,rfl⟩:=Cw.mp e2;have hv:i<vs.length:=by have:=(Bv.mp h1).1;omega
 obtain⟨b,rfl,hb⟩:=at_ i v vs[i] e1 (Bn hv);have:=(rel i vs[i] x (Bn hv) h1).1;rw[this]at hb;exact⟨b,_,_,rfl,hb,rfl,rfl⟩
theorem u4{ma:Res (List<|Int×Int)}(ha:EV Er ta σ W (pk<|isT2 K isI isI) ma):EVo Er (dX (tW K)<|ak ta aS) σ W (isT2 K isI isI) (ma.bind fun a=>tQ a):=fun W1 e1 Q k=>
 ha W1 e1 _ ((Bj k).imp fun a ka x W2 e2 hx=>by
  obtain⟨p,vs,rfl,h1,h2⟩:=hx;obtain⟨⟨h3,nd⟩,h4⟩:=bh ka;refine⟨W2.G,p,vs,a,rfl,W2.ok,DB h1,h2.1,fun i v k e1 e2=>?_,nd,h3,fun q us' ks' hq p1 p2 l1 at_=>?_⟩
  ·obtain⟨b,x1,x2,rfl,t1,r1,r2⟩:=h2.2 i v k e1 e2;cases r1;cases r2;exact⟨b,rfl,t1⟩
  ·have e:ks'=eV a:=jI p1 (p2.imp fun {a b} h=>by rw[jb]at h;rw[j8];omega);rw[<-e]at h4;exact lM (W2:=W2) (vs:=us') ⟨l1,fun i v m e1 e2=>by
    obtain⟨b,rfl,hb⟩:=at_ i v m e1 e2;exact⟨b,_,_,rfl,hb,rfl,rfl⟩⟩ e2 h4 q hq)
end
end Wb
namespace Mi
abbrev Cd:=Tx×Tx×Int
abbrev Pl:=Tx×Tx×Tx
abbrev Ii:=Int×Int
end Mi
namespace L2
open PySem PySem.Spec PyProof.Rows Wb
end L2
namespace Wb
open PySem L2 Mi
section
variable{Er:Nat->Prop}{α β:Type}{prog:BK}{w:C2}{K:Bo}{W W' W0 Wb W1 W2:Wd}{σ:St}{t te tk tv td ti ta:TE}{R:Rp α}{i:Nat}{p:Addr}{D:Ends}{r:TS}
theorem nz{H:Hp}:∀(vs:List ((Int×Int)×V))(kvs:List ((Int×Int)×α)),vs.length=kvs.length->(∀(i:Nat)(q:(Int×Int)×V)(x:(Int×Int)×α),vs[i]? =some q->kvs[i]? =some x->q.1=x.1/\R H x.2 q.2)->∀k,(match look kvs k with|none=>fU vs k=none|some a=>∃v,fU vs k=some v/\R H a v)
 | [],[],_,_,k=>rfl
 | [],_::_,h,_,_=>by simp at h
 |_::_,[],h,_,_=>by simp at h
 |q::vs,x::kvs,hl,h,k=>by
  obtain⟨h1,h2⟩:=h 0 q x rfl rfl;have ih:=nz vs kvs (by simpa using hl) (fun i q x a b=>h (i+1) q x a b) k;by_cases e:x.1=k
  ·have a:look (x::kvs) k=some x.2:=by simp[look,DY,e]
   rw[a,fX<|h1.trans e];exact⟨q.2,rfl,h2⟩
  ·have a:look (x::kvs) k=look kvs k:=by simp[look,DY,e]
   rw[a,fY<|fun z=>e<|h1.symm.trans z];exact ih
end
end Wb
namespace L2
open PySem PySem.Spec PyProof.Rows Wb
end L2
namespace Wb
open PySem L2 Mi
end Wb
namespace L2
open PySem PySem.Spec PyProof.Rows
section
variable{X:Cx}
theorem ff(i:Nat){x:Str}{pos:Pos}(hN:X.N.Nodup:=by exact Lj (by assumption))(hi:X.N[i]? =some x:=by rfl)(hx:xf X.env.scope x:=by first|exact Kz rfl|exact JK rfl)(hf:X.fn x=true\/X.env.scope.names.lookup x=some .local:=by first|exact .inl rfl|exact .inr rfl|assumption):PG X (.Name x pos) (aO i):=bQ hN hi hx hf
theorem cP(i:Nat){x:Str}{e:Expr}{te:TE}{pos pos':Pos}(he:PE X e te)(hN:X.N.Nodup:=by exact Lj (by assumption))(hi:X.N[i]? =some x:=by rfl)(hx:xf X.env.scope x:=by first|exact Kz rfl|exact JK rfl)(hs:swapsWith e (some<|.Name x pos') pos.line X.env=pure false:=by rfl)(hf:X.fn x=true\/X.env.scope.names.lookup x=some .local:=by first|exact .inl rfl|exact .inr rfl|assumption):PS X (.Assign [.Name x pos'] e pos) (bK te<|aO i):=xm hN hi hx he hs hf
theorem df{x:Str}{ps:List Str}{k:Nat}{sp:Sp}{p pos:Pos}{e:Expr}{es:List Expr}{t:TA}(C:Cal X.prog X.w X.K X.mg X.base x ps k sp)(ha:PA X (e::es) t)(hr:Room k X.A:=by exact Room.mono (by assumption) (by decide))(hg:Gl X x:=by rfl)
  (hdb:(x==("__debug__" :Str))=false:=by decide) (he:starEach (e::es) X.env=(false,eval e X.env)::starEach es X.env:=by rfl) (hpl:(backTo pos<|starEach es X.env).any (·.1)=false:=by rfl):PE X (.Call (.Name x p) (e::es) [] pos) (aV sp [] E0 t):=su C hr hg ha hdb he hpl
end
end L2
namespace Wb
open PySem L2 Mi
section
variable{Er:Nat->Prop}{W:Wd}{σ:St}{te:TE}{D:Ends}{r:TS}{i:Nat}
theorem aW{i:Nat}{a:Int}(h:σ[i]? =some (some<|.int a):=by rfl):EV Er (bF i) σ W (sh isI) (.ok a):=gU (R:=sh isI) (v:=.int a) rfl h
theorem dY{i:Nat}{a:Tx}(h:σ[i]? =some (some<|.str<|sOf a):=by rfl):EV Er (bF i) σ W (sh isS) (.ok a):=gU (R:=sh isS) (v:=.str<|sOf a) rfl h
theorem zF{i:Nat}{a:Bool}(h:σ[i]? =some (some<|.bl a):=by rfl):EV Er (bF i) σ W (sh isB) (.ok a):=gU (R:=sh isB) (v:=.bl a) rfl h
theorem aN{α:Type}{R:Rp α}[Mono R]{i:Nat}{a:α}{v:V}(r:R W.G a v)(h:σ[i]? =some (some v):=by rfl):EV Er (bF i) σ W (sh R) (.ok a):=gU (R:=sh R) r h
end
abbrev qA(K:Bo):=isT3 K isS isS isI
abbrev qB(K:Bo):=isT3 K isS isS isS
abbrev qC(K:Bo):=isT2 K isI isI
abbrev qD(K:Bo):=isL<|qB K
abbrev qE(K:Bo):=isL<|qC K
def DI(K:Bo)(x:Str)(st:Stmt)(ps:List Str):Prop:=∃f fd,Fun K x x st f fd/\Co K mainGlobals x=some (some<|.ref f)/\Binds K fd ps []
section
variable{P:BK}{w:C2}{K:Bo}{mg:Str->Option Bq}{base h:Heap}{x:Str}{st:Stmt}{ps:List Str}{n:Nat}{sp:Sp}{f:Addr}
def zh:List Str->List Bq->List Bq
 | [],_=>[]
 |_::r,us=>us.headD .none::zh r us.tail
theorem u5:∀(ps:List Str)(us:List Bq),us.length=ps.length->zh ps us=us
 | [],us,h=>(G2 h).symm
 |_::r,[],h=>by cases h
 |_::r,a::us,h=>by
  show a::zh r us=_;rw[u5 r us<|Nat.succ.inj h]
theorem DI.mk{oc:Bq}{od an:Option Addr}{osl:Array (Option Bq)}{kV doc pm cdv ct:Bq}(da:Co K mainGlobals x=some (some<|.ref f))(dl:K.lookup f=some ⟨oc,od,.func<|DK x x (defArgs st) (defBody st) (defScope st) .none kV doc pm an cdv ct,osl⟩)
  (dc:EL K cdv x=true) (dk:Ek K (.ref f)=true) (db:∀(kV doc pm:Bq)(an:Option Addr)(cdv ct:Bq)(us:List Bq),bindArgs (DK x x (defArgs st) (defBody st) (defScope st) .none kV doc pm an cdv ct) ⟨zh ps us,[]⟩=pure (ps.zip<|zh ps us)):DI K x st ps:=
 ⟨f,_,lB dl dc dk,da,(lB dl dc dk).binds fun kV doc pm an cdv ct us hl=>by
  have:=db kV doc pm an cdv ct us;rw[u5 ps us hl]at this;exact this⟩
theorem DI.cal(d:DI K x st ps)(X:K.In h)(G:h.Ns mainGlobals mg)(r:∀{f fd},Fun K x x st f fd->FnOk P w K mg base CX0 n f fd ps sp):Cal P w K mg base x ps n sp:=by
 obtain⟨f,fd,F,a,b⟩:=d;exact⟨f,fd,r F,DM X G a,F.kp,b⟩
end
end Wb
namespace L2
open PySem PySem.Spec PyProof.Rows Wb
def zj:R2:=fun x y H Q=>∃p q xs,x=.ref p/\y=.ref q/\H p=some (.lst xs)/\H q=some (.lst [])/\Q (.bl<|!xs.isEmpty) H
theorem u6{X:Cx}(hu:X.A.units<cLine):OpR X (compareOp .NotEq) zj:=by
 intro pins s σ H x y v u Q I rx ry h;obtain⟨p,q,xs,rfl,rfl,h1,h2,hq⟩:=h;cases rx;cases ry;obtain⟨i1,r1,t1,z1⟩:=I.list<|DB (K:=X.K) h1;obtain⟨i2,r2,t2,z2⟩:=I.list<|DB (K:=X.K) h2;have l1:=r1.length;have l2:=r2.length;have key:SeqAt.RcNeAt X.A s (.ref p) (.ref q) (!xs.isEmpty):=by
  cases xs with
  |nil=>
   have:=Lg (A:=X.A) (s:=s) (e:=fun _=>true) t1.isList t2.isList (by rw[BA,BA,<-l1,<-l2]) hu (fun j h1' h2'=>by
    have:j<i1.length:=by simpa using h1'
    rw[<-l1]at this;exact absurd this (Jw _))
   have e0:i1.toArray.size=0:=by rw[BA,<-l1];rfl
   rw[e0]at this;exact this
  |cons a r=>exact JP t1.isList t2.isList (by simp at l1 l2 ⊢;omega) hu
 exact key _ _ _ _ ⟨.bl _,H,I,rfl,hq⟩
def zk(K:Bo)(neg:Bool):R2:=fun x y H Q=>∃(a:Int×Int)(ps:List (Int×Int))(p:Addr)(vs:List V),y=.ref p/\isT2 K isI isI H a x/\SqL K H p vs/\LR (isT2 K isI isI) H ps vs/\Q (.bl (if neg then !ps.contains a else ps.contains a)) H
theorem zl{X:Cx}{pins:List (Addr×Obj)}{σ:St}{H:Hp}{s:Bs}{a b:Addr}{k l:Int×Int}(hu:X.A.units+1<cLine)(I:Inv X pins σ H s)(h:SqT X.K H a [.int k.1,.int k.2])(h':SqT X.K H b [.int l.1,.int l.2]):Iu X.A.in1 s (.ref a) (.ref b) (decide<|k=l):=by
 by_cases e:a=b
 ·subst e;rw[decide_eq_true<|jR I h h'];exact Jq _
 ·obtain⟨i1,r1,t1,z1⟩:=I.tuple h;obtain⟨i2,r2,t2,z2⟩:=I.tuple h';obtain⟨_,_,rfl,⟨t,rfl⟩,⟨u,rfl⟩⟩:=kD r1;obtain⟨_,_,rfl,⟨t',rfl⟩,⟨u',rfl⟩⟩:=kD r2;have key:=Ll (A:=X.A.in1) (s:=s) (e:=fun j=>if j=0 then k.1==l.1 else k.2==l.2) t1 t2 hu (fun j h1 h2=>by
   have h1:j<2:=h1
   match j,h1 with
   |0,_=>exact Gu _ _ _ _
   |1,_=>exact Gu _ _ _ _)
  have:decide (k=l)=((CZ<|min #[EU k.1 t,.int k.2 u].size #[EU l.1 t',.int l.2 u'].size).all (fun j=>if j=0 then k.1==l.1 else k.2==l.2)&& #[EU k.1 t,.int k.2 u].size== #[EU l.1 t',.int l.2 u'].size):=by
   show decide (k=l)=(([0,1]:List Nat).all _&&(2:Nat)==2)
   simp only[GU,List.all_nil,if_true,Bool.and_true];rw[CH];simp[Prod.ext_iff]
  rw[this];exact Lh e key
open Classical in
noncomputable def xQ(K:Bo)(H:Hp)(a:Int×Int)(u:Bq):Bool:=decide (∃b,u=.ref b/\SqT K H b [.int a.1,.int a.2])
open Classical in
theorem xR{X:Cx}{pins:List (Addr×Obj)}{σ:St}{H:Hp}{s:Bs}{b:Addr}{a k:Int×Int}(I:Inv X pins σ H s)(h:SqT X.K H b [.int k.1,.int k.2]):xQ X.K H a (.ref b)=decide (k=a):=by
 unfold xQ;rw[CH,decide_eq_true_iff,decide_eq_true_iff];constructor
 ·rintro ⟨b',e,h'⟩;cases e;exact jR I h h'
 ·rintro rfl;exact⟨b,rfl,h⟩
theorem pQ{X:Cx}{pins:List (Addr×Obj)}{σ:St}{H:Hp}{s:Bs}{q:Addr}{a:Int×Int}(hu:X.A.units+1<cLine)(I:Inv X pins σ H s)(ha:SqT X.K H q [.int a.1,.int a.2]):∀{ps:List (Int×Int)}{vs:List V}{us:List Bq},LR (isT2 X.K isI isI) H ps vs->Vals vs us->(us.any (xQ X.K H a)=ps.contains a)/\∀u∈us,Iu X.A.in1 s u (.ref q) (xQ X.K H a u)
 | [],vs,us,h,r=>by
  have:vs=[]:=G2 h.1;subst this;cases r;exact⟨rfl,fun u hu=>by cases hu⟩
 |k::ps,[],us,h,r=>absurd h.1 (by simp)
 |k::ps,v::vs,us,h,r=>by
  cases r with
  |cons r1 r2=>
   obtain⟨g1,g2⟩:=pQ hu I ha (ps:=ps) ⟨by have:=h.1;simpa using this,fun i x m e1 e2=>h.2 (i+1) x m (by simpa using e1) (by simpa using e2)⟩ r2;obtain⟨b,x1,x2,rfl,t1,q1,q2⟩:=h.2 0 v k rfl rfl;cases q1;cases q2;cases r1;have e:=xR (a:=a) I t1;refine⟨?_,fun u hu'=>?_⟩
   ·rw[F7,g1,e,List.contains_cons];congr 1;rw[CH,decide_eq_true_iff,beq_iff_eq];exact eq_comm
   ·rcases BE.mp hu' with rfl | hu';·rw[e];exact zl hu I t1 ha
    ·exact g2 u hu'
theorem l4{X:Cx}{K:Bo}(hK:X.K=K)(hu:X.A.units+1<cLine):OpR X (compareOp .NotIn) (zk K true):=by
 subst hK;intro pins s σ H x y v u Q I rx ry h;obtain⟨a,ps,p,vs,rfl,⟨q,x1,x2,rfl,t1,q1,q2⟩,hl,lr,hq⟩:=h;cases q1;cases q2;cases rx;cases ry;obtain⟨its,r,pl,hz⟩:=I.list hl;obtain⟨g1,g2⟩:=pQ hu I t1 lr r;refine Iw (xQ X.K H a) pl.isList (fun w hw=>g2 w (by simpa using hw)) ⟨.bl _,H,I,rfl,?_⟩;rw[show its.toArray.any (xQ X.K H a)=its.any (xQ X.K H a) by simp,g1];exact hq
def zm(prog:BK)(w:C2)(K:Bo):R2:=fun x y H Q=>∃G a kvs b k,y=.ref a/\PDa prog w K G H a kvs/\x=.ref b/\SqT K G b [.int k.1,.int k.2]/\Q (.bl<|!(fU kvs k).isSome) H
theorem r9{X:Cx}{P:BK}{w:C2}{K:Bo}(hP:X.prog=P)(hw:X.w=w)(hK:X.K=K)(hu:X.A.units+1<cLine):OpR X (compareOp .NotIn) (zm P w K):=by
 subst hP hw hK;intro pins s σ H x y v u Q I rx ry h;obtain⟨G,a,kvs,b,k,rfl,g,rfl,hb,hq⟩:=h;cases rx;cases ry;obtain⟨xs,rel,dd,hx⟩:=g.h I;obtain⟨ob,eG,ha,lo,_,_⟩:=g;refine wpAny_notIn_heap (IF hu) (gE I<|DG eG hb) lo dd ⟨.bl _,H,I.tok _,rfl,?_⟩;have:=rel.val k;have e:(atKey xs<|gj k).isSome=(fU kvs k).isSome:=by
  cases h1:atKey xs (gj k)with
  |none=>
   rw[h1]at this;cases h2:fU kvs k with
   |none=>rfl
   |some z=>rw[h2]at this;exact this.elim
  |some z'=>
   rw[h1]at this;cases h2:fU kvs k with
   |none=>rw[h2]at this;exact this.elim
   |some z=>rfl
 rw[e];exact hq
end L2
namespace Wb
open PySem L2 Mi
section
variable{Er:Nat->Prop}{α:Type}{P:BK}{w:C2}{K:Bo}{W:Wd}{σ:St}{t ta tb:TE}{R:Rp α}
theorem u7{ma:Res (List α)}(ha:EV Er ta σ W (pk R) ma):EV Er (cX zj ta<|cj aS) σ W (sh isB) (ma.bind fun a=>.ok<|!a.isEmpty):=fun W1 e1 Q k=>
 ha W1 e1 _ ((Bj k).imp fun a ka x W2 e2 hx=>by
  obtain⟨p,vs,rfl,h1,h2⟩:=hx;refine⟨by decide,fun q hq=>⟨p,q,vs,rfl,rfl,?_,aG,?_⟩⟩;·rw[aH (fun z=>by rw[z]at h1;rw[hq]at h1;cases h1)];exact h1
  ·have:vs.isEmpty=a.isEmpty:=by
    have:=h2.1;cases vs<;>cases a<;>simp at this ⊢
   rw[this];exact ka (.bl (!a.isEmpty)) (W2.mut q (.lst []) (W2.gnone hq)) (e2.trans (.own _ hq)) rfl)
theorem LR.up{ps:List α}{vs:List V}{H H':Hp}[Mono R](h:LR R H ps vs)(e:Same H H'):LR R H' ps vs:=⟨h.1,fun i v m a b=>Bi e<|h.2 i v m a b⟩
theorem jT{ma:Res (Int×Int)}{mb:Res (List<|Int×Int)}(ha:EV Er ta σ W (sh<|isT2 K isI isI) ma)(hb:EV Er tb σ W (pk<|isT2 K isI isI) mb):EV Er (cX (zk K true) ta tb) σ W (sh isB) (ma.bind fun a=>mb.bind fun b=>.ok<|!b.contains a):=fun W1 e1 Q k=>
 ha W1 e1 _ ((Bj k).imp fun a ka x W2 e2 hx=>hb W2 (e1.trans e2) _ ((Bj ka).imp fun b kb y W3 e3 hy=>by
  obtain⟨p,vs,rfl,h1,h2⟩:=hy;exact⟨a,b,p,vs,rfl,Bi W3.ok (Bi (R:=isT2 K isI isI) e3.g hx),DB h1,h2.up W3.ok,kb _ W3 (e2.trans e3) rfl⟩))
theorem rd{H:Hp}{vs:List ((Int×Int)×V)}{kvs:List ((Int×Int)×α)}(h1:vs.length=kvs.length)(h2:∀(i:Nat)(q:(Int×Int)×V)(x:(Int×Int)×α),vs[i]? =some q->kvs[i]? =some x->q.1=x.1/\R H x.2 q.2)(k:Int×Int):(fU vs k).isSome=(look kvs k).isSome:=by
 have lr:=nz vs kvs h1 h2 k;cases q:look kvs k with
 |none=>rw[q]at lr;rw[show fU vs k=none from lr];rfl
 |some a=>
  rw[q]at lr;obtain⟨v,hv,_⟩:=lr;rw[hv];rfl
theorem rf[Mono R]{ma:Res (Int×Int)}{i:Nat}{p:Addr}{xs:List ((Int×Int)×α)}(o:OwP P w K R W p xs)(ha:EV Er ta σ W (sh<|isT2 K isI isI) ma)(hi:σ[i]? =some (some<|.ref p):=by rfl):EV Er (cX (zm P w K) ta<|bF i) σ W (sh isB) (ma.bind fun a=>.ok<|!(look xs a).isSome):=fun W1 e1 Q k=>
 ha W1 e1 _ ((Bj k).imp fun a ka x W2 e2 hx=>by
  obtain⟨vs,g,l,h⟩:=(o.mono (e1.trans e2)).pd;obtain⟨q,x1,x2,rfl,t1,r1,r2⟩:=hx;cases r1;cases r2;refine⟨_,hi,W2.G,p,vs,q,a,rfl,g,rfl,t1,?_⟩;rw[rd l h];exact ka _ W2 e2 rfl)
end
end Wb
namespace Wb
open PySem PySem.W PySem.Calls PyProof.Rows
section
variable{prog:BK}{w:C2}{K:Type}[DecidableEq K]{knd:KeyKind prog w K}{A:Cj}{E:Bq->Bs->Prop}{s:Bs}
theorem oC{a x:Addr}{o:Obj}{es:Array (Int×Bq)}{ep:Nat}{t:CL}{led:Bool}{ks:List (List K)}{kx:List K}(hu:A.units<cLine)(S:SetT knd s.heap a led ks o es ep t)(hn:es.size<1000)(hx:D8 knd s.heap kx x)(hI:∀k∈kx,∀v,knd.is k v=true->∃i t,v=.int i t){Q:Bool->Bs->Prop}
  (h1:kx∈ks->Q false {s with toks:=s.toks+(kx.length+1)}) (h2:kx∉ks->∀h' ks' o' es' ep' t',BM a s.heap h'->SetT knd h' a led ks' o' es' ep' t'->ks'.Perm (kx::ks)->es'.toList.Perm ((tupleKeyHash knd kx,.ref x)::es.toList)->Q true {s with heap:=h',toks:=s.toks+(kx.length+1)}):
  wpAny (model prog w) A (setAdd a<|.ref x) Q E s:=by
 unfold setAdd;refine CV<|Bk<|IG hu hx ?_;unfold setAddHashed;exact CV<|vK (s:={s with toks:=s.toks+(kx.length+1)}) hu S hn hx hI (fun hm=>h1 hm) fun hm h' ks' o' es' ep' t' a1 a2 a3 a4=>h2 hm h' ks' o' es' ep' t' a1 a2 a3 a4
end
section
variable{prog:BK}{w:C2}{A:Cj}{R:Lb->Bs->Prop}{I:Addr}{fp wr:List Addr}{G:Array JC->Array JC->Prop}{n:Nat}{P:Nat->Bq->Prop}{St:Nat->Bs->Prop}{K:Type}[DecidableEq K]{knd:KeyKind prog w K}
def u9(adr:Nat->Addr)(n:Nat)(es:Array (Int×Bq)):Prop:=∀e∈es.toList,∃j,j<n/\e.2=.ref (adr j)
theorem jU{h h':Heap}{S:Addr}{led:Bool}{ks:List (List K)}{o:Obj}{es:Array (Int×Bq)}{ep:Nat}{t:CL}{adr:Nat->Addr}(T:SetT knd h S led ks o es ep t)(F:u9 adr n es)(hw:∀j,j<n->adr j∉wr)(hS:S∉wr)(hk:∀b ob,b∉wr->h.get? b=some ob->h'.get? b=some ob):SetT knd h' S led ks o es ep t:=
 ⟨hk S _ hS T.at_,T.ex,T.dat,T.tab,⟨T.tup.len,fun i e he=>by
  obtain⟨k,b,q1,q2,⟨ob,items,m,g1,g2,g3,g4⟩,q4⟩:=T.tup.at_ i e he;obtain⟨j,hj,ej⟩:=F e<|BJ he;have:b=adr j:=by rw[q2]at ej;cases ej;rfl
  exact⟨k,b,q1,q2,⟨ob,items,m,hk b ob (by rw[this];exact hw j hj) g1,g2,g3,g4⟩,q4⟩⟩,T.nd,T.led,T.pl⟩
theorem rg(W:WalksS prog w A.in1 I fp wr G n P St)(S:Addr)(hSf:S∉fp)(led:Bool)(hu:A.in1.units<cLine)(val:Nat->List K)(adr:Nat->Addr)(hval:∀i v,P i v->v=.ref (adr i))(hI:∀i,∀k∈val i,∀v,knd.is k v=true->∃j t,v=.int j t)(hn:n<1000)(hw:∀i,i<n->adr i∉wr):
  ∀(k i:Nat)(s:Bs)(ks:List (List K))(o:Obj)(es:Array (Int×Bq))(ep:Nat)(t:CL),n-i=k->i<=n->St i s->SetT knd s.heap S led ks o es ep t->ks.length<=i->(∀q,q∈ks↔ ∃j,j<i/\val j=q)->(∀j,j<n->D8 knd s.heap (val j) (adr j))->u9 adr n es->
   (∀s' ks' o' es' ep' t',Moved (S::wr) G s s'->SetT knd s'.heap S led ks' o' es' ep' t'->(∀q,q∈ks'↔∃j,j<n/\val j=q)->u9 adr n es'->R (.ok<|.ret .none) s')->
   codeAny (model prog w) A (.builtin "set.update.loop" ⟨[.ref S,.ref I],[]⟩) R s:=by
 have hSw:S∉wr:=fun h=>hSf<|W.sub _ h;have hsub:∀b∈wr,b∈S::wr:=fun b hb=>BP _ hb;intro k
 induction k with
 |zero=>
  intro i s ks o es ep t hk hi hst hS hl hm hkey hF hR;have hin:i=n:=by omega
  subst hin;refine Gg Hf ?_;rw[G3 Es _];show wpAny _ A.in1 (pyNext (.ref I)>>=_) _ _ s;refine Bk<|W.done s _ _ hst fun s' hmv=>?_;show wpAny _ A.in1 (ret CM) _ _ s';exact Br<|hR s' ks o es ep t (hmv.mono hsub) (jU hS hF hw hSw hmv.heap) hm hF
 |succ k ih=>
  intro i s ks o es ep t hk hi hst hS hl hm hkey hF hR;have hlt:i<n:=by omega
  refine Gg Hf ?_;rw[G3 Es _];show wpAny _ A.in1 (pyNext (.ref I)>>=_) _ _ s;refine Bk<|W.item i s _ _ hlt hst fun v s' hP hst' hmv=>?_;obtain rfl:=hval i v hP;have hS':=jU hS hF hw hSw hmv.heap;have hkey':∀j,j<n->D8 knd s'.heap (val j) (adr j):=fun j hj=>by
   obtain⟨ob,items,m,g1,g2,g3,g4⟩:=hkey j hj;exact⟨ob,items,m,hmv.heap _ _ (hw j hj) g1,g2,g3,g4⟩
  have hsz:es.size=ks.length:=by have:=hS.tup.len;simpa using this
  show wpAny _ A.in1 (holding [CN (adr i)] (setAdd S<|.ref<|adr i)>>=_) _ _ s';refine Bk (CV (oC hu hS' (by omega) (hkey' i hlt) (hI i) (fun hmem=>?_) fun hmem h' ks' o' es' ep' t' a1 a2 a3 a4=>?_))
  ·refine Br ⟨Ij Es _,ih (i+1) _ ks o es ep t (by omega) hlt (W.frame _ s' _ _ hst' (Cz ..) fun b hb o e=>e) hS' (by omega) (fun q=>?_) hkey' hF fun s'' ks' o' es' ep' t' hm'' b1 b2 b3=>?_⟩
   ·rw[hm];constructor;·rintro ⟨j,hj,e⟩;exact⟨j,by omega,e⟩
    ·rintro ⟨j,hj,e⟩;by_cases z:j<i;·exact⟨j,z,e⟩
     ·have:j=i:=by omega
      subst this;exact(hm q).mp (e▸hmem)
   ·exact hR s'' ks' o' es' ep' t' (KY W.gtrans ((hmv.mono hsub).then_heap (Cz ..) fun b o hb e=>e) hm'') b1 b2 b3
  ·have nS:∀j,j<n->adr j≠S:=fun j hj z=>by
    obtain⟨ob,items,m,g1,g2,g3,g4⟩:=hkey' j hj;rw[z,hS'.at_]at g1;cases g1;rw[hS'.dat]at g3;cases g3
   refine Br ⟨Ij Es _,ih (i+1) _ ks' o' es' ep' t' (by omega) hlt (W.frame _ s' _ _ hst' (Cz ..) fun b hb o e=>?_) a2 (by have:=a3.length_eq;simp at this;omega) (fun q=>?_) (fun j hj=>?_) (fun e he=>?_) fun s'' ks'' o'' es'' ep'' t'' hm'' b1 b2 b3=>?_⟩;·rw[a1.2 b (fun h:b=S=>hSf (by rw[<-h];exact hb))];exact e
   ·rw[a3.mem_iff,BE,hm];constructor
    ·rintro (rfl | ⟨j,hj,e⟩);·exact⟨i,by omega,rfl⟩
     ·exact⟨j,by omega,e⟩
    ·rintro ⟨j,hj,e⟩;by_cases z:j<i;·exact .inr ⟨j,z,e⟩
     ·have:j=i:=by omega
      subst this;exact .inl e.symm
   ·obtain⟨ob,items,m,g1,g2,g3,g4⟩:=hkey' j hj;exact⟨ob,items,m,(a1.2 _<|nS j hj).trans g1,g2,g3,g4⟩
   ·rcases BE.mp (a4.mem_iff.mp he)with rfl | he;·exact⟨i,hlt,rfl⟩
    ·exact hF e he
   ·refine hR s'' ks'' o'' es'' ep'' t'' (KY W.gtrans ((hmv.mono hsub).then_heap (Cz ..) fun b o hb e=>?_) hm'') b1 b2 b3;rw[a1.2 b (fun h:b=S=>hb (by rw[h];exact BR))];exact e
end
section
variable{prog:BK}{w:C2}{K:Type}[DecidableEq K]{knd:KeyKind prog w K}{A:Cj}{E:Bq->Bs->Prop}{s:Bs}
theorem ku(a:Bq){Q₁:Bq->Bs->Prop}(h:Q₁ (.ref s.heap.objs.size) {s with heap:=s.heap.push (L2.set0 w)}):
  codeAny (model prog w) A (.call (.builtin "set.__new__") ⟨[.type "set",a],[]⟩) (wants Q₁ E) s:=by
 refine Jx ?_;show wpAny _ A.in1 (do checkBuiltinCall "set.__new__" ⟨[.type "set",a],[]⟩;again (.builtin "set.__new__" ⟨[.type "set",a],[]⟩)) _ _ s;refine Bk<|Jl (F.newCall_set_1 a)<|Br ⟨Ij Jy _,Gg F.entry_set_new ?_⟩;rw[G3 Jy _];unfold Dv.«set.__new__» JQ;have hsub:=sub_set_self;obtain⟨hp,g,d,tk,os⟩:=s;dsimp only
 wp_walk
 refine wpAny_askSetting<|Br ?_;dsimp only;simp only[newObj];refine Bk<|wpAny_alloc<|Br ?_;exact Br h
theorem zo{h:Heap}{S:Addr}(hS:h.get? S=some (L2.set0 w)):SetT knd h S (!w.params.followText "set-order") [] (L2.set0 w) #[] 0 (.fresh 0 0<|!w.params.followText "set-order"):=
 ⟨hS,⟨rfl,rfl,rfl⟩,rfl,⟨⟨rfl,rfl,fun a b _ hb=>by simp[JR]at hb,fun j⟨a,ha,_⟩=>by simp[JR]at ha,.inl rfl,fun i h e=>by simp at e⟩,by show 0*5<7*3;decide⟩,⟨rfl,fun i e he=>by simp at he⟩,Ep,rfl,rfl⟩
theorem rh{l:Addr}{items:Array Bq}{val:Nat->List K}{adr:Nat->Addr}{Q:Bq->Bs->Prop}(hh:A.handled=none)(hu:A.units+3<cLine)(hl:s.heap.IsList l items)(hit:∀(i:Nat)(v:Bq),items[i]? =some v->v=.ref (adr i))(hkey:∀j,j<items.size->D8 knd s.heap (val j) (adr j))(hI:∀i,∀k∈val i,∀v,knd.is k v=true->∃j t,v=.int j t)(hb:items.size<1000)
  (h:∀h' tk ks o es ep t,SetT knd h' s.heap.objs.size (!w.params.followText "set-order") ks o es ep t->(∀q,q∈ks↔∃j,j<items.size/\val j=q)->u9 adr items.size es->(∀b o,b<s.heap.objs.size->s.heap.get? b=some o->h'.get? b=some o)->Q (.ref s.heap.objs.size) {s with heap:=h',toks:=tk}):
  wpAny (model prog w) A (call (.type "set") [.ref l]) Q E s:=by
 obtain⟨c,tl,hmro⟩:=EA.mro;have hmade:=EA.made;have hsub:=EA.sub;refine wpAny_call<|Jx ?_;show wpAny _ _ (callAny (.type "set") _) _ _ _;refine Br ⟨Code.quiet_builtin _ (by decide +kernel),Gg F.entry_type_call ?_⟩;rw[Around.under_plain (weight_type_call_type "set" [.ref l] []) rfl];have h1:=EA.notType;have h2:=EA.canCreate;have hct:=F.typeCall_set_1<|.ref l
 repeat (any_goals (first|assumption|wp_step))
 refine Gn (ku (.ref l) (E:=E) (Q₁:=fun obj s₁=>obj=.ref s.heap.objs.size/\s₁={s with heap:=s.heap.push (L2.set0 w)}) ⟨rfl,rfl⟩) fun r s₁ hr=>?_;cases r with
 |error e=>exact hr
 |ok fl=>
  cases fl with
  |ret obj=>
   obtain⟨rfl,rfl⟩:=hr;have hS:(s.heap.push<|L2.set0 w).get? s.heap.objs.size=some (L2.set0 w):=By _ rfl;have hT:Shared.TypeIs {s with heap:=s.heap.push (L2.set0 w)} (.ref s.heap.objs.size) "set":=⟨_,hS,rfl⟩
   have hli:=EA.init.lookup;have hbi:=EA.init.bind<|.ref s.heap.objs.size
   repeat (any_goals (first|assumption|wp_step))
   refine Gn (codeAny_call_builtin (R:=wants (fun r s₂=>r=.none/\∃h' tk ks o es ep t,s₂={s with heap:=h',toks:=tk}/\SetT knd h' s.heap.objs.size (!w.params.followText "set-order") ks o es ep t/\(∀q,q∈ks↔∃j,j<items.size/\val j=q)/\u9 adr items.size es/\
     (∀b o,b<s.heap.objs.size->s.heap.get? b=some o->h'.get? b=some o)) E) EA.init.plain F.entry_set_init (check_set_init_1 hT ?_)) fun r₂ s₂ hr₂=>?_
   ·obtain⟨ol,hol,hcl,nl,hdl⟩:=hl;obtain⟨ocls,odict,odata,oslots⟩:=ol;simp only at hcl hdl;subst hcl;subst hdl;have hol':(s.heap.push<|L2.set0 w).get? l=some {cls:=.type "list",dict:=odict,data:=.seq items nl,slots:=oslots}:=Bm _ hol;have hsls:=F.sub_list_set;have hslf:=F.sub_list_frozenset;have hne:(FL "list"==FL "dict")=false:=by decide
    have hl1:(s.heap.push<|L2.set0 w).IsList l items:=⟨_,hol',rfl,nl,rfl⟩
    have hS2:(s.heap.push<|L2.set0 w).get? s.heap.objs.size=some {cls:=.type "set",dict:=none,data:=.set #[] 0 (.fresh 0 0<|!w.params.followText "set-order")}:=hS;unfold Dv.«set.__init__» noKeywords Jz;generalize hPI:pyIter=PI
    wp_walk
    subst hPI;refine Ft hl1 ?_;refine Bk<|wpAny_runValue ?_;have hlS:l<s.heap.objs.size:=BC hol;have hh3:A.in1.in1.in1.handled=none:=by simp[hh]
    have hneI:l≠(s.heap.push<|L2.set0 w).objs.size:=by
     rw[Cs];exact BO<|Eb hlS
    have hSf:s.heap.objs.size∉[(s.heap.push<|L2.set0 w).objs.size,l]:=by
     rw[Cs];simp only[BE,Dp,Ci,or_false,not_or];exact⟨BO<|EX _,E9 hlS⟩
    have hlt:∀j,j<items.size->adr j<s.heap.objs.size:=fun j hj=>by
     obtain⟨ob,_,_,g1,_⟩:=hkey j hj;exact BC g1
    refine rg (knd:=knd) ((Walks.list hh3 _ l hneI items).toS) s.heap.objs.size hSf (!w.params.followText "set-order") (show A.units+3<cLine from hu) val adr hit hI hb (fun j hj=>?_) (items.size-0) 0 _ [] (L2.set0 w) #[] 0 _ (by omega) (BV _)
     ⟨⟨_,By _ rfl,rfl,rfl⟩,(hl1.push _)⟩ (zo<|Bm _ hS) (Bt _) (fun q=>Iff.intro (fun z=>absurd z Ci) fun z=>(by obtain⟨j,hj,_⟩:=z;exact absurd hj<|Jw _)) (fun j hj=>?_) (fun e he=>by simp at he) ?hR
    case hR=>
     intro s' ks o es ep t hm hS' hq hF;obtain⟨h',g',d',tk',os'⟩:=s';have eg:g'=s.gens:=hm.gens;have ed:d'=s.drawn:=hm.drawn;have eo:os'=s.os:=hm.os;subst eg;subst ed;subst eo;show wpAny _ _ _ _ _ _;refine Br ?_;show wpAny _ _ (ret CM) _ _ _;refine Br ⟨rfl,h',tk',ks,o,es,ep,t,rfl,hS',hq,hF,fun b o hb e=>?_⟩;have hb1:b≠s.heap.objs.size:=BO hb;have hb2:b≠(s.heap.push<|L2.set0 w).objs.size:=by
      rw[Cs];exact BO<|Eb hb
     exact hm.heap b o (by simp only[BE,Dp,Ci,or_false,not_or];exact⟨hb1,hb2⟩)<|Bm _<|Bm _ e
    ·simp only[BE,Dp,Ci,or_false];rw[Cs];exact BO<|Eb<|hlt j hj
    ·obtain⟨ob,its,m,g1,g2,g3,g4⟩:=hkey j hj;exact⟨ob,its,m,Bm _<|Bm _ g1,g2,g3,g4⟩
   ·cases r₂ with
    |error e=>exact hr₂
    |ok fl₂=>
     cases fl₂ with
     |ret r=>
      obtain⟨rfl,h',tk,ks,o,es,ep,t,rfl,hS',hq,hF,hk'⟩:=hr₂
      repeat (any_goals (first|assumption|wp_step))
      exact h _ _ _ _ _ _ _ hS' hq hF hk'
     |_=>exact hr₂.elim
  |_=>exact hr.elim
end
section
variable{prog:BK}{w:C2}{K:Type}[DecidableEq K]{knd:KeyKind prog w K}{A:Cj}{E:Bq->Bs->Prop}{s:Bs}
theorem uc{a x:Addr}{o:Obj}{es:Array (Int×Bq)}{ep:Nat}{t:CL}{led:Bool}{ks:List (List K)}{kx:List K}(hu:A.units<cLine)(S:SetT knd s.heap a led ks o es ep t)(hx:D8 knd s.heap kx x)(hI:∀k∈kx,∀v,knd.is k v=true->∃i t,v=.int i t){Q:Option Nat->Bs->Prop}{fuel:Nat}
  (h:∀r:Option Nat,r.isSome=decide (kx∈ks)->Q r s):wpAny (model prog w) A (setFindIn a (.ref x) (tupleKeyHash knd kx)<|fuel+1) Q E s:=by
 unfold setFindIn;refine Bk<|DU S.at_ S.dat S.tab.fits ?_;dsimp only;rw[if_neg (by unfold byScan;simp[Jv])];obtain⟨G,g1,g2,g3⟩:=S.tab.gap<|mX t<|tupleKeyHash knd kx;have mem:∀i,i<es.size->ks[i]? =some kx->∃k,k<G/\t.place.getD i 0=(itM t.mask k<|t.probeStart<|tupleKeyHash knd kx).j:=fun i hi z=>by
  have hi':i<es.toList.length:=by simpa using hi
  obtain⟨k,b,q1,q2,q3,q4⟩:=S.tup.at_ i es.toList[i] (Bn hi');rw[q1]at z;cases z;obtain⟨n,r1,r2⟩:=S.tab.reach i (tupleKeyHash knd kx) (by rw[Bz,Bn hi',<-q4];rfl);refine⟨n,?_,r1.symm⟩;by_cases y:n<G;·exact y
  ·by_cases y2:n=G
   ·subst y2;refine absurd ?_ g2;rw[r1];exact⟨i,by have:=S.tab.sz;simp at this;omega,rfl⟩
   ·exact absurd (r2 G (by omega)) g2
 refine Bk ?_;unfold setSearch;have ht:t.mask<=2047:=by rcases S.tab.msk with z|z|z|z|z<;>omega
 refine jN (knd:=knd) hu S.at_ S.dat S.tab S.tup hx (fun l Q hl h=>n6 hx l (fun y hy=>?_) h) 100000 G none rfl (by unfold CS at g1;omega) g1 g2 g3 ?_ ?_
 ·obtain⟨e,he,rfl⟩:=hl y hy;obtain⟨i,hi,rfl⟩:=D7.mp he;obtain⟨k,b,q1,q2,q3,q4⟩:=S.tup.at_ i es.toList[i] (Bn hi);exact⟨k,b,q2,q3⟩
 ·rintro ⟨k,i,_,_,hq⟩ r hr;exact Br (h r (by rw[hr,decide_eq_true<|BJ hq];rfl))
 ·intro hall;have nin:kx∉ks:=fun hm=>by
   obtain⟨i,hi,e⟩:=D7.mp hm;have hi':i<es.size:=by have:=S.tup.len;simp at this;omega
   have hq:ks[i]? =some kx:=by rw[Bn hi,e]
   obtain⟨k,q1,q2⟩:=mem i hi' hq;exact hall k i q1 q2 hi' hq
  exact Br (h none (by rw[decide_eq_false nin];rfl))
theorem lZ{a x:Addr}{o:Obj}{es:Array (Int×Bq)}{ep:Nat}{t:CL}{led:Bool}{ks:List (List K)}{kx:List K}(hu:A.units+1<cLine)(S:SetT knd s.heap a led ks o es ep t)(hx:D8 knd s.heap kx x)(hI:∀k∈kx,∀v,knd.is k v=true->∃i t,v=.int i t){Q:Bq->Bs->Prop}
  (h:Q (.bool<|!decide (kx∈ks)) {s with toks:=s.toks+(kx.length+1)}):wpAny (model prog w) A (compareOp .NotIn (.ref x)<|.ref a) Q E s:=by
 have hT:s.TypeIs (.ref a) "set":=⟨o,S.at_,S.ex.1⟩
 show wpAny _ _ (do return .bool (!(<-contains (.ref a) (.ref x)))) Q E s;refine Bk ?_;unfold contains
 try with_reducible refine CV ?_
 refine Bk<|Hv hT Gm.lookup ?_;show wpAny _ _ (if(some (Value.builtin "set.__contains__")==some CM)=true then _ else _) _ E s;rw[if_neg (by rw[beq_builtin_none];exact BH)];refine Bk (wpAny_callSpecialUnlessNone?_slot (name:=Bu "__contains__") hT Gm
  (CI Gm hT entry_set_contains ?_ (F.args_set_contains_2 _ _)))
 unfold Dv.«frozenset.__contains__» JS;simp only[List.isEmpty_nil,bind_assoc];unfold Ku Jh setContains;refine Bk<|Br ?_
 try dsimp only
 refine Bk<|Br ?_
 try dsimp only
 refine Bk<|wpAny_tryCatch ?_;refine CV ?_;refine Bk (IG (show A.in1.units<cLine from hu) hx ?_);unfold setFind;refine Bk (uc (s:={s with toks:=s.toks+(kx.length+1)}) (fuel:=99999) (show A.in1.units<cLine from hu) S hx hI fun r hr=>?_);refine Br ?_;show wpAny _ _ (ret<|Ip r.isSome) _ _ _;rw[hr];exact Br ⟨_,rfl,DP<|Br h⟩
end
end Wb
namespace L2
open PySem PySem.Spec PyProof.Rows Wb
def wZ(prog:BK)(w:C2)(K:Bo):List V->Hp->VK->Prop:=fun xs H Q=>∃(G:Hp)(p:Addr)(vs:List V)(ks:List (Int×Int)),xs=[.ref p]/\Same G H/\SqL K H p vs/\LR (isT2 K isI isI) G ks vs/\ks.length<1000/\∀q o ks',H q=none->tP prog w K G o ks'->(∀k,k∈ks'↔k∈ks)->Q (.ref q) (cU H q<|XO q o)
def ud:Bq->Addr
 | .ref b=>b
 |_=>0
theorem rj{X:Cx}{P:BK}{w:C2}{K:Bo}(hP:X.prog=P)(hw:X.w=w)(hK:X.K=K)(hh:X.A.handled=none)(hu:X.A.units+3<cLine):dt X (.type "set") (wZ P w K):=by
 subst hP hw hK;intro pins s σ H xs us Q I r h;obtain⟨G,p,vs,ks,rfl,eG,hq,lr,hz,q⟩:=h;obtain⟨u,rfl,rx⟩:=eR r;cases rx;obtain⟨its,r',pl,_⟩:=I.list hq;have l1:=r'.length;have l0:=lr.1;have at_:∀(j:Nat)(u:Bq)(k:Int×Int),its[j]? =some u->ks[j]? =some k->∃b,u=.ref b/\SqT X.K G b [.int k.1,.int k.2]:=fun j u k h1 h2=>by
  obtain⟨v,h3,h4⟩:=fk r' h1;obtain⟨b,x1,x2,rfl,t1,r1,r2⟩:=lr.2 j v k h3 h2;cases r1;cases r2;exact⟨b,h4,t1⟩
 have at2:∀j,j<its.length->∃k,ks[j]? =some k/\ks.getD j (0,0)=k/\its[j]? =some (.ref<|ud<|its.getD j .none)/\SqT X.K G (ud<|its.getD j .none) [.int k.1,.int k.2]:=fun j hj=>by
  have z2:j<ks.length:=by omega
  obtain⟨b,h1,h2⟩:=at_ j its[j] ks[j] (Bn hj) (Bn z2);refine⟨ks[j],Bn z2,by rw[BQ,Bn z2];rfl,?_,?_⟩;·rw[BQ,Bn hj,CY,h1];rfl
  ·rw[BQ,Bn hj,CY,h1];exact h2
 have hkey:∀j,j<its.toArray.size->D8 (mixKind X.prog X.w) s.heap (gj<|ks.getD j (0,0)) (ud<|its.getD j .none):=fun j hj=>by
  obtain⟨k,_,e,_,h4⟩:=at2 j (by simpa using hj);rw[e];exact gE I<|DG eG h4
 refine rh (knd:=mixKind X.prog X.w) (val:=fun j=>gj<|ks.getD j (0,0)) (adr:=fun j=>ud<|its.getD j .none) hh hu pl.isList (fun i v hv=>?_) hkey (fun i=>zf) (by rw[BA];omega) fun h' tk ks' o es ep t S hq2 hF hk=>?_
 ·have hv:its[i]? =some v:=by simpa using hv
  obtain⟨k,_,_,h3,_⟩:=at2 i (Bv.mp hv).1;rw[hv]at h3;exact C9 h3
 ·have hk0:∀b ob,s.heap.get? b=some ob->h'.get? b=some ob:=fun b ob z=>hk b ob (BC z) z;have form:∀kk∈ks',∃k,kk=gj k/\k∈ks:=fun kk hkk=>by
   obtain⟨j,hj,e⟩:=(hq2 kk).mp hkk;obtain⟨k,h1,e2,_⟩:=at2 j (by simpa using hj);exact⟨k,by rw[<-e,<-e2],BJ h1⟩
  refine⟨.ref s.heap.objs.size,_,I.laid (a:=s.heap.objs.size) (t':=tk) hk0 (Bt _)<|XO.ok S.at_,rfl,q _ o (ks'.map ze) (I.hok.fresh<|Bt _) ⟨es,ep,t,⟨S.ex,S.dat,S.tab,S.led,S.pl⟩,⟨by rw[BS];exact S.tup.len,fun i e he=>?_⟩,?_⟩ fun k=>?_⟩
  ·obtain⟨kk,b,q1,q2,q3,q4⟩:=S.tup.at_ i e he;obtain⟨j,hj,ej⟩:=hF e<|BJ he;obtain⟨k,_,e2,_,h4⟩:=at2 j (by simpa using hj);have eb:b=ud (its.getD j .none):=by rw[q2]at ej;cases ej;rfl
   have e0:kk=gj k:=q3.inj (by
    obtain⟨ob,items,m,g1,g2,g3,g4⟩:=hkey j hj;rw[e2]at g4;rw[eb];exact⟨ob,items,m,hk0 _ _ g1,g2,g3,g4⟩)
   subst e0;exact⟨k,b,by rw[Bz,q1];rfl,q2,by rw[eb];exact h4,q4⟩
  ·rw[Ce,DT];refine(Ce.mp S.nd).imp_of_mem fun{a b}ha hb hne e=>hne ?_;obtain⟨k1,rfl,_⟩:=form a ha;obtain⟨k2,rfl,_⟩:=form b hb;rw[jd,jd]at e;rw[e]
  ·rw[C6];constructor
   ·rintro ⟨kk,hkk,rfl⟩;obtain⟨k,rfl,hm⟩:=form kk hkk;rw[jd];exact hm
   ·intro hm;obtain⟨j,hj,e⟩:=D7.mp hm;refine⟨gj k,(hq2 _).mpr ⟨j,by rw[BA];omega,?_⟩,jd k⟩;show gj (ks.getD j (0,0))=gj k;rw[BQ,Bn hj,CY,e]
def zp(prog:BK)(w:C2)(K:Bo):R2:=fun x y H Q=>∃G a o ks b k,y=.ref a/\Same G H/\H a=some (XO a o)/\tP prog w K G o ks/\x=.ref b/\SqT K G b [.int k.1,.int k.2]/\Q (.bl<|!decide (k∈ks)) H
theorem rk{X:Cx}{P:BK}{w:C2}{K:Bo}(hP:X.prog=P)(hw:X.w=w)(hK:X.K=K)(hu:X.A.units+1<cLine):OpR X (compareOp .NotIn) (zp P w K):=by
 subst hP hw hK;intro pins s σ H x y v u Q I rx ry h;obtain⟨G,a,o,ks,b,k,rfl,eG,ha,⟨es,ep,t,R,T,nd⟩,rfl,hb,hq⟩:=h;cases rx;cases ry;have hDo:s.heap.get? a=some o:=(I.hok a _ ha).1;have U:TupsOf (mixKind X.prog X.w) s.heap es.toList (ks.map gj):=⟨by rw[BS];exact T.len,fun i e hi=>by
  obtain⟨k,b,q1,q2,q3,q4⟩:=T.at_ i e hi;exact⟨gj k,b,by rw[Bz,q1];rfl,q2,gE I (DG eG q3),q4⟩⟩
 have S:SetT (mixKind X.prog X.w) s.heap a (!X.w.params.followText "set-order") (ks.map gj) o es ep t:=⟨hDo,R.ex,R.dat,R.tab,U,Lm _ (fun a b hab e=>hab<|jc e) nd,R.led,R.pl⟩
 refine lZ hu S (gE I<|DG eG hb) zf ⟨.bl _,H,I.tok _,rfl,?_⟩;have e:∀inst:Decidable (gj k∈ks.map gj), @decide (gj k∈ks.map gj) inst=decide (k∈ks):=fun inst=>by
  rw[CH,decide_eq_true_iff,decide_eq_true_iff,C6];exact⟨fun⟨k',h1,h2⟩=>jc h2▸h1,fun h=>⟨k,h,rfl⟩⟩
 rw[e];exact hq
end L2
namespace Wb
open PySem L2 Mi
theorem xT{k:Nat}{A:Cj}(r:Room k A):A.units+3<KU:=by have:=r.un;omega
section
variable{Er:Nat->Prop}{P:BK}{w:C2}{K:Bo}{W:Wd}{σ:St}{ta tb:TE}
def isST(prog:BK)(w:C2)(K:Bo):Rp (List<|Int×Int):=fun G ks v=>∃p o ks',v=.ref p/\G p=some (XO p o)/\tP prog w K G o ks'/\∀k,k∈ks'↔k∈ks
theorem setH_same{G G':Hp}{o:Obj}{ks:List (Int×Int)}(h:tP P w K G o ks)(e:Same G G'):tP P w K G' o ks:=by
 obtain⟨es,ep,t,R,T,nd⟩:=h;exact⟨es,ep,t,R,⟨T.len,fun i x hx=>by
  obtain⟨k,b,q1,q2,q3,q4⟩:=T.at_ i x hx;exact⟨k,b,q1,q2,DG e q3,q4⟩⟩,nd⟩
instance zkeep71:Mono (isST P w K):=⟨fun e⟨p,o,ks',h0,h1,h2,h3⟩=>⟨p,o,ks',h0,e _ _ h1,setH_same h2 e,h3⟩⟩
theorem vQ{ma:Res (List<|Int×Int)}(ha:EV Er ta σ W (pk<|isT2 K isI isI) ma):EV Er (dX (wZ P w K)<|ak ta aS) σ W (sh<|isST P w K) (ma.bind fun a=>eA (a.length<1000) a):=fun W1 e1 Q k=>
 ha W1 e1 _ ((Bj k).imp fun a ka x W2 e2 hx=>by
  obtain⟨p,vs,rfl,h1,h2⟩:=hx;obtain⟨h3,h4⟩:=bh ka;exact⟨W2.G,p,vs,a,rfl,W2.ok,DB h1,h2,h3,fun q o ks' hq hs hm=>h4 (.ref q) (W2.new q (XO q o)) (e2.trans (.new _ hq)) ⟨q,o,ks',rfl,aG,setH_same hs (F4 _ hq).g,hm⟩⟩)
theorem oD{ma:Res (Int×Int)}{mb:Res (List<|Int×Int)}(ha:EV Er ta σ W (sh<|isT2 K isI isI) ma)(hb:EV Er tb σ W (sh<|isST P w K) mb):EV Er (cX (zp P w K) ta tb) σ W (sh isB) (ma.bind fun a=>mb.bind fun b=>.ok<|!b.contains a):=fun W1 e1 Q k=>
 ha W1 e1 _ ((Bj k).imp fun a ka x W2 e2 hx=>hb W2 (e1.trans e2) _ ((Bj ka).imp fun b kb y W3 e3 hy=>by
  obtain⟨p,o,ks',rfl,h1,h2,h3⟩:=hy;obtain⟨q,x1,x2,rfl,t1,r1,r2⟩:=(Bi (R:=isT2 K isI isI) e3.g hx)
  cases r1;cases r2;refine⟨W3.G,p,o,ks',q,a,rfl,W3.ok,W3.ok _ _ h1,h2,rfl,t1,?_⟩;have e:decide (a∈ks')=b.contains a:=by
   rw[CH,decide_eq_true_iff,HI,h3]
  rw[e];exact kb _ W3 (e2.trans e3) rfl))
end
section
variable{Er:Nat->Prop}{α β γ δ ε ζ η:Type}{t1 t2 t3 t4 t5 t6:TE}{σ:St}{W:Wd}{E:XK}{R1:Rp α}{R2:Rp γ}{R3:Rp δ}{R4:Rp ε}{R5:Rp ζ}{R6:Rp η}[Mono R1][Mono R2][Mono R3][Mono R4][Mono R5][Mono R6]{m1:Res α}{m2:Res γ}{m3:Res δ}{m4:Res ε}{m5:Res ζ}{m6:Res η}
def vR(R1:Rp α)(R2:Rp γ)(R3:Rp δ)(R4:Rp ε)(R5:Rp ζ)(R6:Rp η)(rt:Rt β)(m:α->γ->δ->ε->ζ->η->Res β):Sp:=fun vs H Q _=>∃(W:Wd)(a:α)(b:γ)(c:δ)(d:ε)(e:ζ)(f:η)(v u w x y z:V),W.H=H/\vs=[v,u,w,x,y,z]/\R1 W.G a v/\R2 W.G b u/\R3 W.G c w/\R4 W.G d x/\R5 W.G e y/\R6 W.G f z/\∃Er:Nat->Prop,(m a b c d e f).OkE Er fun r=>rt W r Q
theorem ue{R:Rp β}{m:α->γ->δ->ε->ζ->η->Res β}(h1:EV Er t1 σ W (sh R1) m1)(h2:EV Er t2 σ W (sh R2) m2)(h3:EV Er t3 σ W (sh R3) m3)(h4:EV Er t4 σ W (sh R4) m4)(h5:EV Er t5 σ W (sh R5) m5)(h6:EV Er t6 σ W (sh R6) m6):EV Er (aV (vR R1 R2 R3 R4 R5 R6 (rs R) m) [] E<|ak t1<|ak t2<|ak t3<|ak t4<|ak t5<|ak t6 aS) σ W (sh R) (m1.bind fun a=>m2.bind fun b=>m3.bind fun c=>m4.bind fun d=>m5.bind fun e=>m6.bind fun f=>m a b c d e f):=fun W1 e1 Q k=>
 h1 W1 e1 _ ((Bj k).imp fun a ka v W2 e2 hv=>h2 W2 (e1.trans e2) _ ((Bj ka).imp fun b kb u W3 e3 hu=>h3 W3 ((e1.trans e2).trans e3) _ ((Bj kb).imp fun c kc w W4 e4 hw=>h4 W4 (((e1.trans e2).trans e3).trans e4) _ ((Bj kc).imp fun d kd x W5 e5 hx=>h5 W5 ((((e1.trans e2).trans e3).trans e4).trans e5) _ ((Bj kd).imp fun e ke y W6 e6 hy=>h6 W6 (((((e1.trans e2).trans e3).trans e4).trans e5).trans e6) _ ((Bj ke).imp fun f kf z W7 e7 hz=>
  ⟨W7,a,b,c,d,e,f,v,u,w,x,y,z,rfl,rfl,C0 (R:=sh R1) ((((e3.trans e4).trans e5).trans e6).trans e7) hv,C0 (R:=sh R2) (((e4.trans e5).trans e6).trans e7) hu,C0 (R:=sh R3) ((e5.trans e6).trans e7) hw,C0 (R:=sh R4) (e6.trans e7) hx,C0 (R:=sh R5) e7 hy,hz,Er,kf.imp fun r kr u W' e hu=>kr u W' ((((((e2.trans e3).trans e4).trans e5).trans e6).trans e7).trans e) hu⟩))))))
end
end Wb
namespace L2
def insAt{α:Type}(xs:List α)(k:Nat)(y:α):List α:=xs.take k++y::xs.drop k
end L2
namespace Mi
def rl{α:Type}(xs:List α)(i:Int):Res (List α):=(eA (xs.length<=cap) ()).bind fun _=>(rG<|ixN xs.length i).bind fun k=>.ok<|xs.eraseIdx k
def uf{α:Type}(xs:List α)(i:Int)(y:α):Res (List α):=eA (0<=i/\i<=xs.length/\xs.length<cap)<|L2.insAt xs i.toNat y
end Mi
namespace L2
open PySem PySem.Spec PyProof.Rows
theorem ip{α:Type}{xs:List α}{k:Nat}{y:α}(hk:k<=xs.length)(j:Nat):(insAt xs k y)[j]? =if j<k then xs[j]? else if j=k then some y else xs[j-1]? :=by
 unfold insAt;have hl:(xs.take k).length=k:=by rw[DZ];omega
 by_cases z:j<k;·rw[if_pos z,BL (by omega),Ca z]
 ·rw[if_neg z,BI (by omega),hl];by_cases z2:j=k;·rw[if_pos z2,z2,Fz];rfl
  ·rw[if_neg z2,show j-k=(j-k-1)+1 by omega,D5,CC,show k+(j-k-1)=j-1 by omega]
theorem eH{α:Type}{xs:List α}{k:Nat}{y:α}(hk:k<=xs.length):(insAt xs k y).length=xs.length+1:=by
 unfold insAt;rw[CP,DZ,De,FO];omega
theorem x3{xs:List V}{us:List Bq}{j:Nat}{x:V}{u:Bq}(r:Vals xs us)(hx:xs[j]? =some x)(hu:us[j]? =some u):RelV x u:=by
 obtain⟨u',h1,h2⟩:=r.get hx;rw[hu]at h1;cases h1;exact h2
def pR:V->List V->Hp->VK->Prop:=fun x vs H Q=>∃l xs i y,x=.ref l/\vs=[.int i,y]/\H l=some (.lst xs)/\0<=i/\i<=xs.length/\xs.length<sizeLine/\Q .non (cU H l<|.lst<|insAt xs i.toNat y)
theorem l5{X:Cx}:Al X "list.insert" pR:=by
 intro pins s σ H x vs v us Q I rx rv h;obtain⟨l,xs,i,y,rfl,rfl,hH,h0,h1,hz,q⟩:=h;cases rx;obtain⟨_,w,rfl,⟨t,rfl⟩,rw'⟩:=kD rv;obtain⟨z,its,n,r,hl,e⟩:=I.lstM hH;have hb: -(2^63)<=i/\i<2^63:=by rw[CF]at hz;omega
 have hil:i.toNat<=its.length:=by omega
 refine JG FD ⟨_,e,rfl⟩ F.entry_list_insert (F.args_list_insert_3 _ _ _) (AutoListH.list_insert_list_int_val_1 l its.toArray n i t w (by simpa using JI hb.1 hb.2) (by rw[BA];omega)) ⟨e,?_⟩;refine⟨.non,_,I.lset (its':=insAt its i.toNat w) hH e ?_ (hX _ _ (by rw[eH hil,eH (by omega)];omega) fun j a b ha hb'=>?_) (by rw[eH (by omega)];omega),rfl,q⟩
 ·show(its.toArray.extract 0 (if i< 0 then(i+((its.toArray.size:Nat):Int)).toNat else min i.toNat its.toArray.size)).push w++its.toArray.extract (if i< 0 then(i+((its.toArray.size:Nat):Int)).toNat else min i.toNat its.toArray.size)=(insAt its i.toNat w).toArray;rw[if_neg (by omega),BA,Js hil];unfold insAt;apply Array.ext';simp[HV,List.extract_eq_take_drop];exact Ey (by simp)
 ·rw[ip (by omega)]at ha;rw[ip hil]at hb';by_cases z1:j<i.toNat
  ·rw[if_pos z1]at ha hb';exact x3 r ha hb'
  ·rw[if_neg z1]at ha hb';by_cases z2:j=i.toNat
   ·rw[if_pos z2]at ha hb';cases ha;cases hb';exact rw'
   ·rw[if_neg z2]at ha hb';exact x3 r ha hb'
end L2
namespace Wb
open PySem L2 Mi
section
variable{Er:Nat->Prop}{α β:Type}{K:Bo}{W W' W0:Wd}{σ:St}{te ti tp:TE}{D:Ends}{r:TS}{C:α->List TC}{R:Rf β}[FrT R]
theorem ixN_seq{n:Nat}{i:Int}{k:Nat}(h:Mi.ixN n i=some k):seqIndex? i n=some k/\k<n/\ -(n:Int)<=i/\i<n:=by
 unfold Mi.ixN at h;unfold seqIndex?;by_cases z:0<=i
 ·rw[if_pos z]at h;by_cases z2:i<n
  ·rw[if_pos z2]at h;cases h;have e:(if i<0 then i+(n:Int)else i)=i:=if_neg (by omega);dsimp only;rw[e,if_pos (by simp;omega)];exact⟨rfl,by omega,by omega,by omega⟩
  ·rw[if_neg z2]at h;cases h
 ·rw[if_neg z]at h;by_cases z2: -(n:Int)<=i
  ·rw[if_pos z2]at h;cases h;have e:(if i<0 then i+(n:Int)else i)=i+n:=if_pos (by omega);dsimp only;rw[e,if_pos (by simp;omega)];exact⟨rfl,by omega,by omega,by omega⟩
  ·rw[if_neg z2]at h;cases h
theorem TL.erase{Fs:Nat->FS}{xs:List β}{vs:List V}(t:TL R W Fs xs vs){k:Nat}(hk:k<xs.length)(h:∀j x u,xs[j]? =some x->vs[j]? =some u->R W (Fs j) x u->R W' (Fs j) x u):TL R W' (fun j=>if j<k then Fs j else Fs (j+1)) (xs.eraseIdx k) (vs.eraseIdx k):=by
 have key:∀j q,(if j<k then Fs j else Fs (j+1)) q->(j<k/\Fs j q)\/(k<=j/\Fs (j+1) q):=fun j q h=>by
  by_cases z:j<k;·exact .inl ⟨z,by simpa [if_pos z] using h⟩
  ·exact .inr ⟨by omega,by simpa [if_neg z] using h⟩
 refine⟨by rw[Dr,Dr,t.len],fun j x u a b=>?_,fun j q hq=>?_,fun j j2 q q1 q2=>?_⟩
 ·by_cases z:j< k
  ·rw[Ga z]at a b;simp only[if_pos z];exact h j x u a b<|t.el j x u a b
  ·rw[Gb (by omega)]at a b;simp only[if_neg z];exact h (j+1) x u a b<|t.el (j+1) x u a b
 ·rw[Dr,if_pos hk];rcases key j q hq with⟨a,b⟩|⟨a,b⟩
  ·omega
  ·have:=t.rng _ q b;omega
 ·rcases key j q q1 with⟨a,b⟩|⟨a,b⟩<;>rcases key j2 q q2 with⟨c,d⟩|⟨c,d⟩<;>have:=t.dj _ _ q b d<;>omega
theorem l7{mp:Res (List β×(List β->α))}{mi:Res Int}(E:Ext W0 W)(hp:EV Er tp σ W (Lens W0 C<|oL R) mp)(hi:EV Er ti σ W (sh isI) mi)(q:(mp.bind fun p=>mi.bind fun j=>(rl p.1 j).bind fun b=>.ok<|p.2 b).OkE Er fun a'=>∀W',Same W.G W'.G->Ext W0 W'->Sep W0 W' (C a')->D.nx σ W'.H):
  bu (eO K "list" rX tp<|ak ti aS) D σ W.H:=hp W (.refl _) _ ((Bj q).imp fun p kp u W1 e1 l=>by
 obtain⟨p0,vs0,hl0⟩:∃p0 vs0,u=.ref p0/\W1.H p0=some (.lst vs0):=by
  obtain⟨F,⟨p0,vs,Fs,e,g,hl,_⟩,_⟩:=l;exact⟨p0,vs,e,hl⟩
 obtain⟨rfl,hl0⟩:=hl0;refine⟨.inl ⟨rfl,vs0,DB hl0⟩,hi W1 e1 _<|(Bj kp).imp fun j kj v W2 e2 hv=>?_⟩;cases hv;obtain⟨F,⟨p1,vs,Fs,e,g,hl,t,np,hF⟩,n,up⟩:=(C0 e2 l:Lens W0 C (oL R) W2 p (.ref p0))
 cases e;obtain⟨hcap,kj⟩:=bh<|Bj<|Bj kj;obtain⟨k,h3,h4⟩:=dv<|Bj kj;obtain⟨s1,s2,s3,s4⟩:=ixN_seq h3;have hvl:k<vs.length:=by rw[t.len];exact s2
 have hp0:F p0:=(hF p0).mpr (.inl rfl);have hsz:vs.length<=100000:=by rw[t.len];exact hcap
 refine⟨p0,vs,j,k,vs[k],rfl,rfl,hl,by rw[<-t.len]at s3;omega,by rw[<-t.len]at s4;omega,by rw[t.len];exact s1,Bn hvl,h4 (W2.mut p0 (.lst<|vs.eraseIdx k) g) (e1.trans e2).g (((E.trans e1).trans e2).mut (n p0 hp0) g) (up _ (fun q=>q=p0\/∃j,(if j<k then Fs j else Fs (j+1)) q) _ ((Ls (F:=(· =p0)) rfl g).up fun q hq=>by rw[hq];exact hp0) (fun q hq=>?_) ⟨p0,vs.eraseIdx k,_,rfl,g,aG,t.erase s2 fun j x u _ _ r=>Lu r (Ls (F:=(· =p0)) rfl g) fun q a b=>np j<|b▸a,fun j hj=>?_,fun q=>JB⟩)⟩
 ·rcases hq with rfl | ⟨j,hj⟩
  ·exact .inl hp0
  ·split at hj;·exact .inl ((hF q).mpr (.inr ⟨_,hj⟩))
   ·exact .inl ((hF q).mpr (.inr ⟨_,hj⟩))
 ·split at hj;·exact np _ hj
  ·exact np _ hj)
theorem EV.tr{R':Rp β}{m:Res β}(h:EV Er te σ W (sh R') m):EVt Er te σ W (fz R') m:=fun W1 e1 Q k=>h W1 e1 Q<|k.imp fun a ka v W2 e2 hv=>ka v W2 (fun _=>False) e2 (fun _ z=>z.elim) ⟨fun _ z=>z,hv⟩
theorem TL.ins{Fs:Nat->FS}{F2:FS}{xs:List β}{vs:List V}{x:β}{u:V}(t:TL R W Fs xs vs){k:Nat}(hk:k<=xs.length)(h:∀j x u,R W (Fs j) x u->R W' (Fs j) x u)(hx:R W' F2 x u)(dj:∀j q,Fs j q->F2 q->False):TL R W' (fun j=>if j<k then Fs j else if j=k then F2 else Fs (j-1)) (insAt xs k x) (insAt vs k u):=by
 have hkv:k<=vs.length:=by rw[t.len];exact hk
 have key:∀j q,(if j<k then Fs j else if j=k then F2 else Fs (j-1)) q->(j<k/\Fs j q)\/(j=k/\F2 q)\/(k<j/\Fs (j-1) q):=fun j q h=>by
  by_cases z:j<k;·exact .inl ⟨z,by simpa [if_pos z] using h⟩
  ·rw[if_neg z]at h;by_cases z2:j=k;·exact .inr (.inl ⟨z2,by simpa [if_pos z2] using h⟩)
   ·exact .inr (.inr ⟨by omega,by simpa [if_neg z2] using h⟩)
 refine⟨by rw[eH hk,eH hkv,t.len],fun j y v a b=>?_,fun j q hq=>?_,fun j j2 q q1 q2=>?_⟩
 ·rw[ip hk]at a;rw[ip hkv]at b;by_cases z:j<k
  ·rw[if_pos z]at a b;simp only[if_pos z];exact h j y v<|t.el j y v a b
  ·rw[if_neg z]at a b;simp only[if_neg z];by_cases z2:j=k
   ·rw[if_pos z2]at a b;cases a;cases b;simp only[if_pos z2];exact hx
   ·rw[if_neg z2]at a b;simp only[if_neg z2];exact h _ y v<|t.el _ y v a b
 ·rw[eH hk];rcases key j q hq with⟨a,_⟩|⟨a,_⟩|⟨a,b⟩
  ·omega
  ·omega
  ·have:=t.rng _ q b;omega
 ·rcases key j q q1 with⟨a,b⟩ | ⟨a,b⟩ | ⟨a,b⟩ <;> rcases key j2 q q2 with⟨c,d⟩ | ⟨c,d⟩ | ⟨c,d⟩
  ·exact t.dj _ _ q b d
  ·exact(dj _ q b d).elim
  ·have:=t.dj _ _ q b d;omega
  ·exact(dj _ q d b).elim
  ·omega
  ·exact(dj _ q d b).elim
  ·have:=t.dj _ _ q b d;omega
  ·exact(dj _ q b d).elim
  ·have:=t.dj _ _ q b d;omega
theorem pS{mp:Res (List β×(List β->α))}{mi:Res Int}{m:Res β}(E:Ext W0 W)(hp:EV Er tp σ W (Lens W0 C<|oL R) mp)(hi:EV Er ti σ W (sh isI) mi)(h:EVt Er te σ W R m)(q:(mp.bind fun p=>mi.bind fun j=>m.bind fun x=>(uf p.1 j x).bind fun b=>.ok<|p.2 b).OkE Er fun a'=>∀W',Same W.G W'.G->Ext W0 W'->Sep W0 W' (C a')->D.nx σ W'.H):
  bu (eO K "list" pR tp<|ak ti<|ak te aS) D σ W.H:=hp W (.refl _) _ ((Bj q).imp fun p kp u W1 e1 l=>by
 obtain⟨p0,vs0,hl0⟩:∃p0 vs0,u=.ref p0/\W1.H p0=some (.lst vs0):=by
  obtain⟨F,⟨p0,vs,Fs,e,g,hl,_⟩,_⟩:=l;exact⟨p0,vs,e,hl⟩
 obtain⟨rfl,hl0⟩:=hl0;refine⟨.inl ⟨rfl,vs0,DB hl0⟩,hi W1 e1 _<|(Bj kp).imp fun j kj v W2 e2 hv=>h W2 (e1.trans e2) _<|(Bj kj).imp fun x kx y W3 F2 e3 hF2 hy=>?_⟩;cases hv;obtain⟨F,⟨p1,vs,Fs,e,g,hl,t,np,hF⟩,n,up⟩:=(C0 e2 l:Lens W0 C (oL R) W2 p (.ref p0))
 cases e;obtain⟨⟨c1,c2,c3⟩,h4⟩:=bh<|Bj kx;have hl3:W3.H p0=some (.lst vs):=e3.h _ _ hl;have g3:W3.G p0=none:=by rw[e3.k p0<|nn_of hl];exact g
 have n2:¬F2 p0:=fun z=>nn_of hl<|hF2 p0 z;have m1:MuF (· =p0) W3 (W3.mut p0 (.lst<|insAt vs j.toNat y) g3):=Ls (F:=(· =p0)) rfl g3;have hp0:F p0:=(hF p0).mpr (.inl rfl);have lv:∀j q,Fs j q->W2.H q≠none:=fun j q hq=>by
  obtain⟨_,_,_,_,r⟩:=t.at2 hq;exact(Li r q hq).2
 have hvl:vs.length=p.1.length:=t.len;refine⟨p0,vs,j,y,rfl,rfl,hl3,c1,by rw[hvl];exact c2,by rw[hvl,CF];unfold Mi.cap at c3;omega,h4 (W3.mut p0 (.lst<|insAt vs j.toNat y) g3) ((e1.trans e2).trans e3).g ((((E.trans e1).trans e2).trans e3).mut (n p0 hp0) g3) (up _ (fun q=>q=p0\/∃i,(if i<j.toNat then Fs i else if i=j.toNat then F2 else Fs (i-1)) q) _ (e3.muF.trans (m1.up (F':=F) fun q hq=>by rw[hq];exact hp0) fun q hq=>.inl hq) (fun q hq=>?_) ⟨p0,insAt vs j.toNat y,_,rfl,g3,aG,t.ins (by omega) (fun i x u r=>Lu (Lo r e3) m1 fun q a b=>np i<|b▸a) (Lu hy m1 fun q a b=>n2<|b▸a)<|fun i q a b=>lv i q a<|hF2 q b,fun i hi=>?_,fun q=>JB⟩)⟩
 ·rcases hq with rfl | ⟨i,hi⟩
  ·exact .inl hp0
  ·split at hi;·exact .inl ((hF q).mpr (.inr ⟨_,hi⟩))
   ·split at hi;·exact .inr (hF2 q hi)
    ·exact .inl ((hF q).mpr (.inr ⟨_,hi⟩))
 ·split at hi;·exact np _ hi
  ·split at hi;·exact n2 hi
   ·exact np _ hi)
end
end Wb
namespace Mi
noncomputable section
@[irreducible]noncomputable def zG(Z0d:List Int)(l_k:Int):Res Int:=if(decide<|l_k<(Z0d.length:Int))then dF Z0d l_k else(iW ((l_k*48271)+(11:Int))<|(Z0d.length:Int)+(7:Int)).bind fun y8=>Bp<|y8%1000003
def fP(Z0d:List Int)(l_k:Int):Res Int:=zG Z0d l_k
@[irreducible]noncomputable def yl(Z03:Int)(Z19:Int)(a19:Int)(s20:(Int×Int×(List Int))):Res (Int×Int×(List Int)):=((if(decide<|(1000000000000000000:Int)<=eL Z03)then Bp (decide<|(0:Int)<s20.2.1)else Bp false).bind fun y45=>(if y45 then((gG s20.2.1 Z19).bind fun y56=>gH s20.2.2 y56).bind fun y55=>(jr s20.2.1 Z19).bind fun y59=>Bp (y59,y55)else((((iW ((((s20.1*48271)+(7919:Int))+a19)%2147483647)<|(((s20.1*48271)+(7919:Int))+a19)%2147483647).bind fun y63=>Bp<|y63%1000003).bind fun y64=>gG y64 Z19).bind fun y69=>gH s20.2.2 y69).bind fun y68=>Bp (s20.2.1,y68):Res (Int×(List Int)))).bind fun s70=>Bp (((((s20.1*48271)+(7919:Int))+a19)%2147483647),s70.1,s70.2)
@[irreducible]noncomputable def zH(Z03:Int)(Z0u:Int)(Z19:Int):Res (List Int):=((fF Z0u).bind fun y78=>cO (yl Z03 Z19) y78 (((eL Z03)%2147483647),eL Z03,([]:List Int))).bind fun s79=>Bp s79.2.2
def gk(Z03:Int)(Z0u:Int)(Z19:Int):Res (List Int):=zH Z03 Z0u Z19
@[irreducible]noncomputable def ym(y3:Int)(y8:List Int)(a15:Int)(s16:Tx):Res Tx:=(((((dF y8 (4:Int)).bind fun y39=>((gG a15 y3).bind fun y38=>Bp<|y38*7).bind fun y40=>Bp<|y39+y40).bind fun y41=>Bp<|y41%26).bind fun y42=>fb ([97,98,99,100,101,102,103,104,105,106,107,108,109,110,111,112,113,114,115,116,117,118,119,120,121,122]:Tx) y42).bind fun y43=>kq s16 y43).bind fun y44=>Bp y44
@[irreducible]noncomputable def zI(gk:Int->Int->Int->Res (List Int))(Z03:Int):Res Tx:=(dF [(1:Int),(2:Int),(3:Int),(4:Int),(26:Int)]<|Z03%5).bind fun y3=>(gk (Z03/5) (5:Int) (26:Int)).bind fun y8=>(cO (ym y3 y8) (cut y8 none<|some (4:Int)) ([]:Tx)).bind fun s47=>Bp s47
def vS(Z03:Int):Res Tx:=zI gk Z03
@[irreducible]noncomputable def zJ(vS:Int->Res Tx)(Z03:Int):Res Cd:=(fb ([83,90]:Tx)<|Z03%2).bind fun y1=>(vS<|Z03/8).bind fun y2=>Bp (y1,y2,((Z03/2)%4))
def uR(Z03:Int):Res Cd:=zJ vS Z03
@[irreducible]noncomputable def zK(gk:Int->Int->Int->Res (List Int))(Z03:Int)(Z0u:Int):Res Tx:=if(decide<|(Z03%7)=(3:Int))then(fb ([102,98,105]:Tx)<|(Z03/7)%3).bind fun y3=>xD y3 Z0u else((gk (Z03/7) Z0u (3:Int)).bind fun y18=>dG y18<|fun(a9:Int)=>fb ([102,98,105]:Tx) a9).bind fun y19=>mM y19
def vT(Z03:Int)(Z0u:Int):Res Tx:=zK gk Z03 Z0u
@[irreducible]noncomputable def zL(Z0J:Tx):Res Int:=(iX ([98,105,102]:Tx) Z0J).bind fun y1=>Bp<|y1-(1:Int)
def nN(Z0J:Tx):Res Int:=zL Z0J
@[irreducible]noncomputable def zM(nN:Tx->Res Int)(Z02:Cd)(Z0J:Tx):Res Cd:=(((nN Z0J).bind fun y1=>Bp<|Z02.2.2+y1).bind fun y2=>Bp<|y2%4).bind fun y3=>Bp (Z02.1,Z02.2.1,y3)
def je(Z02:Cd)(Z0J:Tx):Res Cd:=zM nN Z02 Z0J
@[irreducible]noncomputable def zN(nN:Tx->Res Int)(Z02:Cd)(Z0J:Tx):Res Int:=if(decide<|Z02.1=([83]:Tx))then nN Z0J else(nN Z0J).bind fun y8=>Bp<|(0:Int)-y8
def iJ(Z02:Cd)(Z0J:Tx):Res Int:=zN nN Z02 Z0J
@[irreducible]noncomputable def yn(je:Cd->Tx->Res Cd)(iJ:Cd->Tx->Res Int)(a7:Tx)(s8:(Cd×(List Pl))):Res (Cd×(List Pl)):=(je s8.1 a7).bind fun y34=>(((iJ y34 a7).bind fun y39=>Bp<|y39+(1:Int)).bind fun y40=>fb ([122,111,115]:Tx) y40).bind fun y41=>(((fb y34.2.1 y34.2.2).bind fun y44=>(fb y34.2.1<|(y34.2.2+(2:Int))%4).bind fun y45=>Bp (y44,y45,y41)).bind fun y50=>gH s8.2 y50).bind fun y49=>Bp (y34,y49)
@[irreducible]noncomputable def zO(je:Cd->Tx->Res Cd)(iJ:Cd->Tx->Res Int)(Z02:Cd)(Z09:Tx):Res (List Pl):=(cO (yn je iJ) (cQ Z09) (Z02,([]:List Pl))).bind fun s51=>Bp s51.2
def vU(Z02:Cd)(Z09:Tx):Res (List Pl):=zO je iJ Z02 Z09
@[irreducible]noncomputable def yo(a16:Pl×Int)(s17:(Int×(List Pl))):Res (Int×(List Pl)):=((if(decide<|a16.2=(5:Int))then Bp (decide<|s17.1<(6:Int))else Bp false).bind fun y45=>(if y45 then Bp ((s17.1+(1:Int)),(([63]:Tx),a16.1.2.1,([63]:Tx)))else Bp (s17.1,a16.1):Res (Int×Pl))).bind fun s61=>(gH s17.2 s61.2).bind fun y74=>Bp (s61.1,y74)
@[irreducible]noncomputable def zP(gk:Int->Int->Int->Res (List Int))(Z0n:List Pl)(Z03:Int):Res (List Pl):=(gk (Z03/3) (Z0n.length:Int) (11:Int)).bind fun y13=>(cO yo (Z0n.zip y13) ((0:Int),([]:List Pl))).bind fun s75=>(if(decide<|(Z03%3)=(2:Int))then(gG (Z03/3) (Z0n.length:Int)).bind fun y87=>((((dF s75.2 y87).bind fun y90=>Bp y90.1).bind fun y92=>((dF s75.2 y87).bind fun y91=>Bp y91.2.1).bind fun y93=>(fb ([115,122,111]:Tx)<|(Z03/7)%3).bind fun y94=>Bp (y92,y93,y94)).bind fun y98=>iB s75.2 y87 y98).bind fun y99=>Bp y99 else Bp s75.2:Res (List Pl)).bind fun s101=>Bp s101
def vV(Z0n:List Pl)(Z03:Int):Res (List Pl):=zP gk Z0n Z03
@[irreducible]noncomputable def yp(Z03:Int)(a14:Pl×Int)(s15:(List Pl)):Res (List Pl):=(if(decide<|(Z03%5)=(0:Int))then Bp ((a14.2/8)*8)else Bp a14.2:Res Int).bind fun s56=>(if(decide<|(Z03%5)=(1:Int))then Bp (((s56/8)*8)+(7:Int))else Bp s56:Res Int).bind fun s75=>((if(decide<|(56:Int)<=s75)then Bp (decide<|(s75%3)<(2:Int))else Bp false).bind fun y90=>(if y90 then(((((dF [a14.1.1,a14.1.2.1,a14.1.2.2]<|s75%3).bind fun y101=>iX ([97,98,99,100,101,102,103,104,105,106,107,108,109,110,111,112,113,114,115,116,117,118,119,120,121,122,97]:Tx) y101).bind fun y102=>Bp<|y102+(1:Int)).bind fun y103=>fb ([97,98,99,100,101,102,103,104,105,106,107,108,109,110,111,112,113,114,115,116,117,118,119,120,121,122,97]:Tx) y103).bind fun y107=>iB [a14.1.1,a14.1.2.1,a14.1.2.2] (s75%3) y107).bind fun y108=>Bp y108 else Bp [a14.1.1,a14.1.2.1,a14.1.2.2]:Res (List Tx))).bind fun s110=>((if(decide<|(56:Int)<=s75)then Bp (decide<|(s75%3)=(2:Int))else Bp false).bind fun y120=>(if y120 then((((dF s110 (2:Int)).bind fun y127=>iX ([115,122,111]:Tx) y127).bind fun y128=>fb ([122,111,115]:Tx) y128).bind fun y132=>iB s110 (2:Int) y132).bind fun y133=>Bp y133 else Bp s110:Res (List Tx))).bind fun s135=>(((dG (s135.zip [(1:Int),(2:Int),(4:Int)]) (fun(a149:Tx×Int)=>(((jr s75 a149.2).bind fun y158=>Bp<|y158%2).bind fun y159=>Bp<|decide<|y159=(1:Int)).bind fun y160=>if y160 then Bp a149.1 else Bp ([63]:Tx))).bind fun y163=>xE y163).bind fun y168=>gH s15 y168).bind fun y167=>Bp y167
@[irreducible]noncomputable def zQ(gk:Int->Int->Int->Res (List Int))(Z0n:List Pl)(Z03:Int)(Z1h:Bool):Res (List Pl):=(((iW (8:Int) (if Z1h then(1:Int)else 0)).bind fun y9=>Bp<|(56:Int)+y9).bind fun y10=>gk (Z03/5) (Z0n.length:Int) y10).bind fun y11=>(cO (yp Z03) (Z0n.zip y11) ([]:List Pl)).bind fun s169=>Bp s169
def vW(Z0n:List Pl)(Z03:Int)(Z1h:Bool):Res (List Pl):=zQ gk Z0n Z03 Z1h
@[irreducible]noncomputable def zR(Z02:Cd):Res Cd:=((iX ([83,90]:Tx) Z02.1).bind fun y5=>fb ([90,83]:Tx) y5).bind fun y12=>((((fb Z02.2.1 (0:Int)).bind fun y6=>(fb Z02.2.1 (3:Int)).bind fun y7=>kq y6 y7).bind fun y8=>(fb Z02.2.1 (2:Int)).bind fun y9=>kq y8 y9).bind fun y10=>(fb Z02.2.1 (1:Int)).bind fun y11=>kq y10 y11).bind fun y13=>Bp (y12,y13,(((0:Int)-Z02.2.2)%4))
def vX(Z02:Cd):Res Cd:=zR Z02
@[irreducible]noncomputable def zS(Z09:Tx):Res Tx:=(dG (cQ Z09)<|fun(a1:Tx)=>(iX ([98,105,102]:Tx) a1).bind fun y8=>fb ([102,105,98]:Tx) y8).bind fun y11=>mM y11
def vY(Z09:Tx):Res Tx:=zS Z09
@[irreducible]noncomputable def zT(Z02:Cd)(Z0u:Int):Res Cd:=(((fF (4:Int)).bind fun y13=>dG y13<|fun(a3:Int)=>fb Z02.2.1<|(a3-Z0u)%4).bind fun y14=>mM y14).bind fun y15=>Bp (Z02.1,y15,((Z02.2.2+Z0u)%4))
def vZ(Z02:Cd)(Z0u:Int):Res Cd:=zT Z02 Z0u
@[irreducible]noncomputable def yq(a37:Int)(s38:(List Int)):Res (List Int):=(if(!s38.contains a37)then(gH s38 a37).bind fun y68=>Bp y68 else Bp s38:Res (List Int)).bind fun s70=>Bp s70
@[irreducible]noncomputable def zq(je:Cd->Tx->Res Cd)(a7:Tx)(s8:(Cd×(List Int))):Res (Cd×(List Int)):=(je s8.1 a7).bind fun y34=>(cO yq [y34.2.2,((y34.2.2+(2:Int))%4)] s8.2).bind fun s78=>Bp (y34,s78)
@[irreducible]noncomputable def zU(je:Cd->Tx->Res Cd)(Z02:Cd)(Z09:Tx):Res (List Int):=(cO (zq je) (cQ Z09) (Z02,([]:List Int))).bind fun s82=>sE s82.2
def w4(Z02:Cd)(Z09:Tx):Res (List Int):=zU je Z02 Z09
@[irreducible]noncomputable def yr(Z03:Int)(y40:List Int)(a43:Int)(s44:Cd):Res Cd:=(if(!y40.contains a43)then((((iW (5:Int) a43).bind fun y75=>Bp<|(Z03/16)+y75).bind fun y76=>Bp<|y76%26).bind fun y77=>fb ([97,98,99,100,101,102,103,104,105,106,107,108,109,110,111,112,113,114,115,116,117,118,119,120,121,122]:Tx) y77).bind fun y78=>((((qG s44.2.1 none<|some a43).bind fun y83=>kq y83 y78).bind fun y84=>(qG s44.2.1 (some<|a43+(1:Int)) none).bind fun y85=>kq y84 y85).bind fun y86=>Bp (s44.1,y86,s44.2.2)).bind fun y87=>Bp y87 else Bp s44:Res Cd).bind fun s91=>Bp s91
@[irreducible]noncomputable def zV(vX:Cd->Res Cd)(vY:Tx->Res Tx)(vZ:Cd->Int->Res Cd)(w4:Cd->Tx->Res (List Int))(Z02:Cd)(Z09:Tx)(Z03:Int):Res (Cd×Tx):=(if(decide<|(Z03%2)=(1:Int))then(vX Z02).bind fun y9=>(vY Z09).bind fun y14=>Bp (y9,y14)else Bp (Z02,Z09):Res (Cd×Tx)).bind fun s18=>(vZ s18.1<|(Z03/2)%4).bind fun y29=>(if(decide<|((Z03/8)%2)=(1:Int))then(w4 y29 s18.2).bind fun y40=>((fF (4:Int)).bind fun y101=>cO (yr Z03 y40) y101 y29).bind fun s102=>Bp s102 else Bp y29:Res Cd).bind fun s107=>Bp (s107,s18.2)
def w5(Z02:Cd)(Z09:Tx)(Z03:Int):Res (Cd×Tx):=zV vX vY vZ w4 Z02 Z09 Z03
@[irreducible]noncomputable def zW(uR:Int->Res Cd)(fP:List Int->Int->Res Int)(vT:Int->Int->Res Tx)(vU:Cd->Tx->Res (List Pl))(vV:(List Pl)->Int->Res (List Pl))(vW:(List Pl)->Int->Bool->Res (List Pl))(w5:Cd->Tx->Int->Res (Cd×Tx))(Z0d:List Int)(Z1r:Int):Res (Cd×(List Pl)×Int):=((fP Z0d (0:Int)).bind fun y3=>uR y3).bind fun y4=>(fP Z0d (2:Int)).bind fun y9=>(fP Z0d (3:Int)).bind fun y14=>(gG y9<|Z1r+(1:Int)).bind fun y19=>(if(decide<|((y9/13)%6)=(1:Int))then Bp ((25:Int)+((y9/78)%36))else Bp y19:Res Int).bind fun s33=>(if(decide<|((y9/13)%6)=(3:Int))then Bp ((13:Int)+((y9/78)%12))else Bp s33:Res Int).bind fun s51=>((fP Z0d (1:Int)).bind fun y60=>vT y60 s51).bind fun y61=>(vU y4 y61).bind fun y66=>(if(decide<|Z1r<s51)then(vV y66 y14).bind fun y77=>Bp y77 else(vW y66 (y14/3)<|decide<|(y14%3)=(2:Int)).bind fun y83=>Bp y83:Res (List Pl)).bind fun s86=>((fP Z0d (4:Int)).bind fun y97=>Bp<|y97/4).bind fun y98=>(if(decide<|(y98%6)=(1:Int))then((w5 y4 y61<|y98/6).bind fun y109=>Bp y109.1).bind fun y110=>Bp y110 else Bp y4:Res Cd).bind fun s114=>(if(decide<|(y98%6)=(2:Int))then(uR<|y98/6).bind fun y131=>Bp y131 else Bp s114:Res Cd).bind fun s135=>((fP Z0d (4:Int)).bind fun y144=>Bp<|y144%4).bind fun y145=>Bp (s135,s86,y145)
def uS(Z0d:List Int)(Z1r:Int):Res (Cd×(List Pl)×Int):=zW uR fP vT vU vV vW w5 Z0d Z1r
@[irreducible]noncomputable def uT(a83:Tx×Tx)(s84:Bool):Res Bool:=((if(!decide (a83.2=([63]:Tx)))then Bp (!decide (a83.2=a83.1))else Bp false).bind fun y112=>(if y112 then Bp false else Bp s84:Res Bool)).bind fun s124=>Bp s124
@[irreducible]noncomputable def x4(iJ:Cd->Tx->Res Int)(Z02:Cd)(Z1A:Pl)(Z0a:Int)(Z0b:Int)(Z0y:Ii)(a7:Tx)(s8:(List Ii)):Res (List Ii):=(iJ Z02 a7).bind fun y38=>(iW (Z0y.2+(1:Int)) (if(decide<|a7=([105]:Tx))then(1:Int)else 0)).bind fun y47=>(if(decide<|Z02.1=([90]:Tx))then Bp ((Z02.2.2-(Z0y.1+y38))%4)else Bp ((Z02.2.2+(Z0y.1+y38))%4):Res Int).bind fun s65=>(if(decide<|eL (Z0y.1+y38)<=Z0b)then Bp (decide<|y47<=Z0a)else Bp false).bind fun y75=>(((((fb Z02.2.1 s65).bind fun y78=>(fb Z02.2.1<|(s65+(2:Int))%4).bind fun y79=>(fb ([122,111,115]:Tx)<|y38+(1:Int)).bind fun y80=>Bp (y78,y79,y80)).bind fun y81=>Bp [y81.1,y81.2.1,y81.2.2]).bind fun y82=>Bp<|y82.zip [Z1A.1,Z1A.2.1,Z1A.2.2]).bind fun y132=>cO uT y132 y75).bind fun s133=>(if s133 then(gH s8 ((Z0y.1+y38),y47)).bind fun y146=>Bp y146 else Bp s8:Res (List Ii)).bind fun s148=>Bp s148
@[irreducible]noncomputable def zX(iJ:Cd->Tx->Res Int)(Z02:Cd)(Z1A:Pl)(Z0a:Int)(Z0b:Int)(Z0y:Ii):Res (List Ii):=(cO (x4 iJ Z02 Z1A Z0a Z0b Z0y) (cQ ([102,98,105]:Tx)) ([]:List Ii)).bind fun s156=>Bp s156
def gN(Z02:Cd)(Z1A:Pl)(Z0a:Int)(Z0b:Int)(Z0y:Ii):Res (List Ii):=zX iJ Z02 Z1A Z0a Z0b Z0y
@[irreducible]noncomputable def xV(a63:Ii)(s64:(List<|Ii×Bool)):Res (List<|Ii×Bool):=(iP s64 a63 true).bind fun y89=>Bp y89
@[irreducible]noncomputable def zr(gN:Cd->Pl->Int->Int->Ii->Res (List Ii))(Z02:Cd)(Z0a:Int)(Z0b:Int)(a7:Pl)(a39:Ii)(s40:(List<|Ii×Bool)):Res (List<|Ii×Bool):=((gN Z02 a7 Z0a Z0b a39).bind fun y90=>cO xV y90 s40).bind fun s91=>Bp s91
@[irreducible]noncomputable def xW(gN:Cd->Pl->Int->Int->Ii->Res (List Ii))(Z02:Cd)(Z0a:Int)(Z0b:Int)(a7:Pl)(s8:(List<|List Ii)):Res (Fl (List<|List Ii)<|List<|List Ii):=((dF s8<|-(1:Int)).bind fun y95=>cO (zr gN Z02 Z0a Z0b a7) y95 ([]:List (Ii×Bool))).bind fun s96=>((tQ (s96.map (·.1))).bind fun y104=>gH s8 y104).bind fun y103=>if(decide<|(s96.length:Int)=(0:Int))then Bp (.rt y103)else Bp (.nx y103)
@[irreducible]noncomputable def zY(gN:Cd->Pl->Int->Int->Ii->Res (List Ii))(Z02:Cd)(Z1d:List Pl)(Z0a:Int)(Z0b:Int):Res (List<|List Ii):=(fo (xW gN Z02 Z0a Z0b) Z1d [[((0:Int),(0:Int))]]).bind (fun | .nx s107=>(Bp s107)| .rt r=>Bp r| .bk _=>Gq)
def w6(Z02:Cd)(Z1d:List Pl)(Z0a:Int)(Z0b:Int):Res (List<|List Ii):=zY gN Z02 Z1d Z0a Z0b
@[irreducible]noncomputable def zZ(gk:Int->Int->Int->Res (List Int))(Z0C:List (List Ii))(Z03:Int):Res (List<|List Ii):=(dG Z0C<|fun(a1:List Ii)=>Bp a1).bind fun y10=>(gk (Z03/7) (4:Int) (30030:Int)).bind fun y16=>((dF y16 (0:Int)).bind fun y21=>gG y21 (if(y10.length:Int)>(1:Int)then(y10.length:Int)else(1:Int))).bind fun y22=>((((dF y16 (2:Int)).bind fun y27=>Bp<|y27%11).bind fun y28=>Bp<|y28-(5:Int)).bind fun y32=>((((dF y16 (2:Int)).bind fun y29=>Bp<|y29/11).bind fun y30=>Bp<|y30%6).bind fun y31=>Bp<|y31-(1:Int)).bind fun y33=>Bp (y32,y33)).bind fun y34=>((((dF y16 (3:Int)).bind fun y37=>Bp<|y37%6).bind fun y38=>Bp<|decide<|y38=(1:Int)).bind fun y39=>(if y39 then((((dF y16 (2:Int)).bind fun y48=>Bp<|y48%5).bind fun y49=>dF [(100000000000000000000:Int),((0:Int)-(61:Int)),(61:Int),(240:Int),((0:Int)-(100000000000000000000:Int))] y49).bind fun y53=>((((dF y16 (3:Int)).bind fun y50=>Bp<|y50/6).bind fun y51=>Bp<|y51%4).bind fun y52=>dF [((0:Int)-(1:Int)),(7:Int),(100000000000000000000:Int),(3:Int)] y52).bind fun y54=>Bp (y53,y54)).bind fun y55=>Bp y55 else Bp y34:Res Ii)).bind fun s59=>((if(decide<|(Z03%7)=(1:Int))then if(decide<|(0:Int)<(y10.length:Int))then((dF y10 y22).bind fun y68=>Bp (y68.length:Int)).bind fun y69=>Bp (decide<|(0:Int)<y69)else Bp false else Bp false).bind fun y70=>(if y70 then((lP (y10,fun(b:List (List Ii))=>b) y22).bind fun y80=>((dF y16 (1:Int)).bind fun y78=>((dF y10 y22).bind fun y77=>Bp (y77.length:Int)).bind fun y79=>gG y78 y79).bind fun y81=>(rl y80.1 y81).bind fun b=>Bp<|y80.2 b).bind fun y82=>Bp y82 else Bp y10:Res (List<|List Ii))).bind fun s86=>((if(decide<|(Z03%7)=(2:Int))then Bp (decide<|(0:Int)<(s86.length:Int))else Bp false).bind fun y93=>(if y93 then((lP (s86,fun(b:List (List Ii))=>b) y22).bind fun y104=>((dF y16 (1:Int)).bind fun y102=>(((dF s86 y22).bind fun y100=>Bp (y100.length:Int)).bind fun y101=>Bp<|y101+(1:Int)).bind fun y103=>gG y102 y103).bind fun y105=>(uf y104.1 y105 s59).bind fun b=>Bp<|y104.2 b).bind fun y106=>Bp y106 else Bp s86:Res (List<|List Ii))).bind fun s110=>((if(decide<|(Z03%7)=(3:Int))then Bp (decide<|(0:Int)<(s110.length:Int))else Bp false).bind fun y117=>(if y117 then((rl (s110,fun(b:List (List Ii))=>b).1 y22).bind fun b=>Bp<|(s110,fun(b:List (List Ii))=>b).2 b).bind fun y124=>Bp y124 else Bp s110:Res (List<|List Ii))).bind fun s128=>(if(decide<|(Z03%7)=(4:Int))then(((dF y16 (1:Int)).bind fun y141=>gG y141<|(s128.length:Int)+(1:Int)).bind fun y142=>(uf (s128,fun(b:List (List Ii))=>b).1 y142 ([]:List Ii)).bind fun b=>Bp<|(s128,fun(b:List (List Ii))=>b).2 b).bind fun y143=>Bp y143 else Bp s128:Res (List<|List Ii)).bind fun s147=>(if(decide<|(Z03%7)=(5:Int))then(dG s147<|fun(a164:List Ii)=>xC a164.reverse<|cut a164 none<|some (1:Int)).bind fun y173=>Bp y173 else Bp s147:Res (List<|List Ii)).bind fun s178=>((if(decide<|(Z03%7)=(6:Int))then if(decide<|(0:Int)<(s178.length:Int))then((dF s178 y22).bind fun y186=>Bp (y186.length:Int)).bind fun y187=>Bp (decide<|(0:Int)<y187)else Bp false else Bp false).bind fun y188=>(if y188 then((lP (s178,fun(b:List (List Ii))=>b) y22).bind fun y198=>((dF y16 (1:Int)).bind fun y196=>((dF s178 y22).bind fun y195=>Bp (y195.length:Int)).bind fun y197=>gG y196 y197).bind fun y199=>(iB y198.1 y199 s59).bind fun b=>Bp<|y198.2 b).bind fun y200=>Bp y200 else Bp s178:Res (List<|List Ii))).bind fun s204=>Bp s204
def nO(Z0C:List (List Ii))(Z03:Int):Res (List<|List Ii):=zZ gk Z0C Z03
@[irreducible]noncomputable def zt(a8:List Ii)(s9:Unit):Res (Fl Bool Unit):=(if(!(fO 3<|(fun(z:List Ii)=>Kw<|z.map fun(z:Ii)=>Jo [G7 z.1,G7 z.2]) a8))then Bp true else((dG a8<|fun(a29:Ii)=>Bp<|fO 4<|Jo [G7 a29.1,G7 a29.2]).bind fun y38=>Bp<|y38.all id).bind fun y39=>Bp<|!y39).bind fun y40=>if y40 then Bp (.rt false)else Bp (.nx ())
@[irreducible]noncomputable def zu(a103:Ii)(s104:(List<|Ii×Bool)):Res (List<|Ii×Bool):=(iP s104 a103 true).bind fun y128=>Bp y128
@[irreducible]noncomputable def A0(s129:(List<|Ii×Bool))(a156:Ii)(s157:Unit):Res (Fl Bool Unit):=if(!(look s129 a156).isSome)then Bp (.rt false)else Bp (.nx ())
@[irreducible]noncomputable def A1(gN:Cd->Pl->Int->Int->Ii->Res (List Ii))(Z02:Cd)(Z0a:Int)(Z0b:Int)(a61:Pl×(List Ii)×(List Ii))(s129:(List<|Ii×Bool))(a133:Ii)(s134:Unit):Res (Fl Bool Unit):=((gN Z02 a61.1 Z0a Z0b a133).bind fun y184=>fo (A0 s129) y184 ()).bind (fun | .nx s185=>(Bp<|.nx ())| .rt r=>Bp (.rt r)| .bk _=>Gq)
@[irreducible]noncomputable def zv(gN:Cd->Pl->Int->Int->Ii->Res (List Ii))(Z02:Cd)(Z0a:Int)(Z0b:Int)(a61:Pl×(List Ii)×(List Ii))(s62:Unit):Res (Fl Bool Unit):=(cO zu a61.2.2 ([]:List (Ii×Bool))).bind fun s129=>(fo (A1 gN Z02 Z0a Z0b a61 s129) a61.2.1 ()).bind (fun | .nx s189=>(Bp<|.nx ())| .rt r=>Bp (.rt r)| .bk _=>Gq)
@[irreducible]noncomputable def A2(gN:Cd->Pl->Int->Int->Ii->Res (List Ii))(Z02:Cd)(Z1d:List Pl)(Z0a:Int)(Z0b:Int)(Z0C:List (List Ii)):Res Bool:=(if(!(fO 3<|(fun(z:List (List Ii))=>Kw<|z.map fun(z:List Ii)=>Kw<|z.map fun(z:Ii)=>Jo [G7 z.1,G7 z.2]) Z0C))then Bp true else if(decide<|(Z0C.length:Int)<(2:Int))then Bp true else Bp (decide<|((Z1d.length:Int)+(1:Int))<(Z0C.length:Int))).bind fun y1=>if y1 then Bp false else(fo zt Z0C ()).bind (fun | .nx s47=>((((dF Z0C<|-(1:Int)).bind fun y51=>Bp<|!y51.isEmpty).bind fun y53=>if y53 then Bp true else(dF Z0C (0:Int)).bind fun y52=>Bp<|!y52.contains ((0:Int),(0:Int))).bind fun y54=>if y54 then Bp false else(fo (zv gN Z02 Z0a Z0b) (Z1d.zip<|(cut Z0C none<|some<|-(1:Int)).zip (cut Z0C (some (1:Int)) none)) ()).bind (fun | .nx s193=>(Bp true)| .rt r=>Bp r| .bk _=>Gq))| .rt r=>Bp r| .bk _=>Gq)
def w8(Z02:Cd)(Z1d:List Pl)(Z0a:Int)(Z0b:Int)(Z0C:List (List Ii)):Res Bool:=A2 gN Z02 Z1d Z0a Z0b Z0C
@[irreducible]noncomputable def A3(tablet:Cd)(turn:Tx):Res Int:=(getD ([([102],1),([98],(-1)),([105],0)]:List (Tx×Int)) turn).bind fun y3=>if(decide<|tablet.1=([83]:Tx))then Bp y3 else Bp (-y3)
def oE(tablet:Cd)(turn:Tx):Res Int:=A3 tablet turn
@[irreducible]noncomputable def A4(oE:Cd->Tx->Res Int)(tablet:Cd)(state:Ii)(turn:Tx):Res Ii:=((oE tablet turn).bind fun y9=>Bp<|state.1+y9).bind fun y10=>(if(decide<|turn=([105]:Tx))then Bp (state.2+(1:Int))else Bp (0:Int)).bind fun y11=>Bp (y10,y11)
def uU(tablet:Cd)(state:Ii)(turn:Tx):Res Ii:=A4 oE tablet state turn
@[irreducible]noncomputable def A5(state:Ii)(loose:Int)(bound:Int):Res Bool:=if(decide<|eL state.1<=bound)then Bp (decide<|state.2<=loose)else Bp false
def ug(state:Ii)(loose:Int)(bound:Int):Res Bool:=A5 state loose bound
@[irreducible]noncomputable def A6(tablet:Cd)(twist:Int):Res Cd:=((if(decide<|tablet.1=([83]:Tx))then Bp (tablet.2.2+twist)else Bp (tablet.2.2-twist)).bind fun y11=>Bp<|y11%4).bind fun y12=>Bp (tablet.1,tablet.2.1,y12)
def w9(tablet:Cd)(twist:Int):Res Cd:=A6 tablet twist
@[irreducible]noncomputable def pT(tablet:Cd):Res Tx:=fb tablet.2.1<|tablet.2.2%4
def iq(tablet:Cd):Res Tx:=pT tablet
@[irreducible]noncomputable def A7(tablet:Cd):Res Tx:=fb tablet.2.1<|(tablet.2.2+(2:Int))%4
def wa(tablet:Cd):Res Tx:=A7 tablet
@[irreducible]noncomputable def A8(iq:Cd->Res Tx)(wa:Cd->Res Tx)(oE:Cd->Tx->Res Int)(tablet:Cd)(turn:Tx):Res Pl:=(iq tablet).bind fun y2=>(wa tablet).bind fun y3=>((oE tablet turn).bind fun y1=>getD ([(1,[115]),((-1),[122]),(0,[111])]:List (Int×Tx)) y1).bind fun y4=>Bp (y2,y3,y4)
def wb(tablet:Cd)(turn:Tx):Res Pl:=A8 iq wa oE tablet turn
@[irreducible]noncomputable def A9(sign:Tx)(left:Tx):Res Bool:=if(decide<|left=([63]:Tx))then Bp true else Bp (decide<|left=sign)
def uV(sign:Tx)(left:Tx):Res Bool:=A9 sign left
@[irreducible]noncomputable def Aa(uV:Tx->Tx->Res Bool)(place:Pl)(mark:Pl):Res Bool:=(dG ([place.1,place.2.1,place.2.2].zip [mark.1,mark.2.1,mark.2.2])<|fun(a1:Tx×Tx)=>uV a1.1 a1.2).bind fun y12=>Bp<|y12.all id
def wc(place:Pl)(mark:Pl):Res Bool:=Aa uV place mark
@[irreducible]noncomputable def Ab(wc:Pl->Pl->Res Bool)(wb:Cd->Tx->Res Pl)(w9:Cd->Int->Res Cd)(tablet:Cd)(state:Ii)(turn:Tx)(mark:Pl):Res Bool:=((w9 tablet state.1).bind fun y1=>wb y1 turn).bind fun y2=>wc y2 mark
def uh(tablet:Cd)(state:Ii)(turn:Tx)(mark:Pl):Res Bool:=Ab wc wb w9 tablet state turn mark
@[irreducible]noncomputable def Ac(uU:Cd->Ii->Tx->Res Ii)(ug:Ii->Int->Int->Res Bool)(uh:Cd->Ii->Tx->Pl->Res Bool)(tablet:Cd)(mark:Pl)(loose:Int)(bound:Int)(state:Ii):Res (List<|Tx×Ii):=(dG (cQ ([102,98,105]:Tx))<|fun(a3:Tx)=>(uU tablet state a3).bind fun y12=>Bp (a3,y12)).bind fun y15=>oW y15 (fun(a18:Tx×Ii)=>((ug a18.2 loose bound).bind fun y31=>if y31 then uh tablet a18.2 a18.1 mark else Bp false).bind fun y33=>if y33 then Bp (some (a18.1,a18.2))else Bp none)
def rJ(tablet:Cd)(mark:Pl)(loose:Int)(bound:Int)(state:Ii):Res (List<|Tx×Ii):=Ac uU ug uh tablet mark loose bound state
@[irreducible]noncomputable def Ad(y3:List Ii)(a29:Tx×Ii)(s30:Unit):Res (Fl Bool Unit):=if(!y3.contains a29.2)then Bp (.rt false)else Bp (.nx ())
@[irreducible]noncomputable def Ae(rJ:Cd->Pl->Int->Int->Ii->Res (List<|Tx×Ii))(tablet:Cd)(mark:Pl)(loose:Int)(bound:Int)(y3:List Ii)(a6:Ii)(s7:Unit):Res (Fl Bool Unit):=((rJ tablet mark loose bound a6).bind fun y63=>fo (Ad y3) y63 ()).bind (fun | .nx s64=>(Bp<|.nx ())| .rt r=>Bp (.rt r)| .bk _=>Gq)
@[irreducible]noncomputable def Af(rJ:Cd->Pl->Int->Int->Ii->Res (List<|Tx×Ii))(tablet:Cd)(mark:Pl)(loose:Int)(bound:Int)(states:List Ii)(following:List Ii):Res Bool:=(eA (following.length<1000) following).bind fun y3=>(fo (Ae rJ tablet mark loose bound y3) states ()).bind (fun | .nx s68=>(Bp true)| .rt r=>Bp r| .bk _=>Gq)
def wd(tablet:Cd)(mark:Pl)(loose:Int)(bound:Int)(states:List Ii)(following:List Ii):Res Bool:=Af rJ tablet mark loose bound states following
@[irreducible]noncomputable def Ag(wd:Cd->Pl->Int->Int->(List Ii)->(List Ii)->Res Bool)(tablet:Cd)(strip:List Pl)(loose:Int)(bound:Int)(lists:List (List Ii)):Res Bool:=(if(decide<|(lists.length:Int)<(2:Int))then Bp true else Bp (decide<|((strip.length:Int)+(1:Int))<(lists.length:Int))).bind fun y1=>if y1 then Bp false else(((dF lists<|-(1:Int)).bind fun y8=>Bp<|!y8.isEmpty).bind fun y10=>if y10 then Bp true else(dF lists (0:Int)).bind fun y9=>Bp<|!y9.contains (0,0)).bind fun y11=>if y11 then Bp false else((fF<|(lists.length:Int)-(1:Int)).bind fun y33=>dG y33<|fun(a18:Int)=>(dF strip a18).bind fun y28=>(dF lists a18).bind fun y29=>(dF lists<|a18+(1:Int)).bind fun y30=>wd tablet y28 loose bound y29 y30).bind fun y34=>Bp<|y34.all id
def ui(tablet:Cd)(strip:List Pl)(loose:Int)(bound:Int)(lists:List (List Ii)):Res Bool:=Ag wd tablet strip loose bound lists
@[irreducible]noncomputable def dW(fP:List Int->Int->Res Int)(nO:(List<|List Ii)->Int->Res (List<|List Ii))(Z0d:List Int)(a76:Int)(s77:(List<|List Ii)):Res (List<|List Ii):=((((fP Z0d a76).bind fun y101=>Bp<|y101/2).bind fun y103=>((fP Z0d a76).bind fun y102=>Bp<|y102%2).bind fun y104=>iW y103 y104).bind fun y105=>nO s77 y105).bind fun y106=>Bp y106
@[irreducible]noncomputable def pU(uS:List Int->Int->Res (Cd×(List Pl)×Int))(fP:List Int->Int->Res Int)(w6:Cd->(List Pl)->Int->Int->Res (List<|List Ii))(nO:(List<|List Ii)->Int->Res (List<|List Ii))(w8:Cd->(List Pl)->Int->Int->(List<|List Ii)->Res Bool)(ui:Cd->(List Pl)->Int->Int->(List<|List Ii)->Res Bool)(Z0d:List Int):Res Bool:=(uS Z0d (12:Int)).bind fun y1=>((fP Z0d (5:Int)).bind fun y14=>Bp<|y14%7).bind fun y15=>(((((fP Z0d (5:Int)).bind fun y18=>Bp<|y18/7).bind fun y19=>Bp<|y19%4).bind fun y20=>Bp<|decide<|y20=(1:Int)).bind fun y21=>(if y21 then Bp (y1.2.1.length:Int)else Bp y15:Res Int)).bind fun s33=>(((((fP Z0d (5:Int)).bind fun y44=>Bp<|y44/28).bind fun y45=>Bp<|y45%4).bind fun y46=>Bp<|decide<|y46=(1:Int)).bind fun y47=>(if y47 then(((((fP Z0d (5:Int)).bind fun y56=>Bp<|y56/112).bind fun y57=>Bp<|y57%3).bind fun y58=>Bp<|(s33-(1:Int))+y58).bind fun y59=>Bp (if y59>(0:Int)then y59 else(0:Int))).bind fun y60=>Bp y60 else Bp s33:Res Int)).bind fun s64=>(w6 y1.1 y1.2.1 y1.2.2 s64).bind fun y73=>((lQ (6:Int) (9:Int)).bind fun y109=>cO (dW fP nO Z0d) y109 y73).bind fun s110=>(dG s110<|fun(a116:List Ii)=>Bp a116).bind fun y125=>(w8 y1.1 y1.2.1 y1.2.2 s33 s110).bind fun y130=>((((ui y1.1 y1.2.1 y1.2.2 s33 y125).bind fun y137=>wU y137 y130).bind fun y138=>Bp<|!y138).bind fun y140=>if y140 then Bp true else(wU y125 s110).bind fun y139=>Bp<|!y139).bind fun y141=>if y141 then Bp false else((wU y1.2.1 y1.2.1).bind fun y148=>Bp<|!y148).bind fun y149=>if y149 then Bp false else(((ui y1.1 y1.2.1 y1.2.2 s33 ([]:List (List Ii))).bind fun y156=>wU y156 false).bind fun y157=>Bp<|!y157).bind fun y158=>if y158 then Bp false else(ui y1.1 y1.2.1 y1.2.2 s33 [([]:List Ii)]).bind fun y165=>wU y165 false
def uj(Z0d:List Int):Res Bool:=pU uS fP w6 nO w8 ui Z0d
end
end Mi
namespace Wb
open PySem L2 Mi
def tp(i:Nat):Stmt:=GO.main.body.getD i<|.Pass ⟨0,0,0,0⟩
end Wb
local macro_rules | `(tactic|walk_at "L")=>`(tactic|first | exact Kz rfl | exact JK rfl)
local macro_rules | `(tactic|walk_at "F")=>`(tactic|exact⟨rfl,rfl,rfl,by decide +kernel,rfl,by decide +kernel,by decide +kernel⟩)
namespace Wb
open PySem L2 Mi
section
variable{P:BK}{w:C2}{K:Bo}{mg:Str->Option Bq}{base:Heap}
theorem AD{f:Addr}{fd:C4}(F:Fun K "_law_at" "_law_at" (tp 29) f fd)(h_len:mg "len"=none):FnOk P w K mg base CX0 (1) f fd ["_law_script","_law_k"] (bJ (isScr K) isI (rs isI)<|zG):=by
 have SC:FnScope ["_law_script","_law_k"] ["_law_script","_law_k"] (defScope<|tp 29):=by walk_at "F"
 refine F.ok SC (fun vs H Q E h=>?_)<|fun cdv A outer s H vs Q E hr h=>?_;·obtain⟨_,_,_,_,_,_,rfl,_⟩:=h;rfl
 ·obtain⟨W0,Z0d,l_k,Z0v,_,rfl,rfl,Z01,z_l_k,Er,hq⟩:=h;cases z_l_k
  refine⟨_,(af (aX (aq my (pv 1) (ao (aL (K:=K) rfl) (by rfl) h_len BW<|a5 (pv 0) ae)<|ay _) (ah<|aB<|ar (aF (K:=K) rfl) (pv 0) (pv 1)<|fun _ _=>rfl) az)
   (ah (aB (ai av (ai eI (ai bg (ai eI (pv 1) aa) aa) (ai bg (ao (aL (K:=K) rfl) (by rfl) h_len BW (a5 (pv 0) ae)) aa)) aa)))),?_⟩
  have E0:Ext W0 W0:=.refl W0;unfold zG at hq;refine dN (Er:=Er) (aw<|bT aW<|kS<|aN Z01)<|fun W1 e2=>?_;have E0:=E0.trans e2;have Z01:=Bi e2.g Z01;by_cases hb13:(decide<|l_k<(Z0d.length:Int))=true
  ·rw[if_pos hb13]at hq ⊢;exact aT (Er:=Er) (sO (aN Z01) aW)<|Cn hq fun y3 hq v4 W5 e6 h7=>hq v4 W5 (E0.trans e6) h7
  ·rw[if_neg hb13]at hq ⊢
   try dsimp only[aA]
   exact aT (Er:=Er) (aj (fun _=>by decide) (iD (aJ (aj (fun _=>.inr ⟨by decide,by decide⟩) aW) ag)<|aJ (kS<|aN Z01) ag))<|Cn hq fun y9 hq v10 W11 e12 h13=>hq v10 W11 (E0.trans e12) h13
theorem AE{f:Addr}{fd:C4}(F:Fun K "_law_row" "_law_row" (tp 25) f fd)(h_abs:mg "abs"=none)(h_range:mg "range"=none):FnOk P w K mg base CX0 (1) f fd ["_law_cell","_law_many","_law_base"] (fe isI isI isI (ro isI)<|zH):=by
 have SC:FnScope ["_law_cell","_law_many","_law_base","_law_now","_law_far","_law_mix","_law_out","_law_k"] ["_law_cell","_law_many","_law_base"] (defScope<|tp 25):=by walk_at "F"
 refine F.ok SC (fun vs H Q E h=>?_)<|fun cdv A outer s H vs Q E hr h=>?_;·obtain⟨_,_,_,_,_,_,_,_,rfl,_⟩:=h;rfl
 ·obtain⟨W0,Z03,Z0u,Z19,_,_,_,rfl,rfl,Z0x,Z23,Z4d,Er,hq⟩:=h;cases Z0x;cases Z23;cases Z4d
  refine⟨_,(af (cP 3 (ao jj (by rfl) h_abs FI<|a5 (pv 0) ae))
   (af (cP 4<|cV rR (pv 3) (ai lp aa aa)<|ay _)
   (af (cP 5<|ai av (pv 3) aa)
   (af (cP 6<|cb ae)
   (af (bS C5 rfl (gu rfl h_range<|a5 (pv 1) ae) (ff 7) (af (cP 5<|ai av (ai bg (ai bg (ai eI (pv 5) aa) aa)<|pv 7) aa)
   (ah (aX (FK<|dq (cE<|pv 4)<|d5<|aq gK (pv 3) aa<|ay _) (af (d6<|cS (K:=K) rfl (pv 6)<|a5 (ai av (pv 3)<|pv 2) ae)
   (ah (cP 3 (ai aQ (pv 3) (pv 2))))) (ah (d6 (cS (K:=K) rfl (pv 6) (a5 (ai av (ai av (ai eI (pv 5) (pv 5)) aa) (pv 2)) ae))))))))
   (ah (aB (pv 6)))))))),?_⟩
  have E0:Ext W0 W0:=.refl W0;unfold zH at hq;refine au (Er:=Er) (oa aW)<|fun v3 W1 e2 h4=>?_;cases h4;have E0:=E0.trans e2;refine au (Er:=Er) (bT aW (j6 (r:=1000000000000000000) (by decide) (by decide)))<|fun v7 W5 e6 h8=>?_;cases h8;have E0:=E0.trans e6;refine au (Er:=Er) (aj (fun _=>by decide) aW)<|fun v11 W9 e10 h12=>?_;cases h12;have E0:=E0.trans e10;refine dg (Er:=Er) (eU (R:=isI))<|fun p15 W13 e14 hp16 o17=>?_;have fr18:=none_of E0.h hp16;have E0:=E0.trans e14;refine cR (Er:=Er) (f:=(yl Z03 Z19)) (s0:=(((eL Z03)%2147483647),eL Z03,([]:List Int))) (Iv:=fun(s21:(Int×Int×(List Int)))(W22:Wd)(g23:St)=>∃(d25:Option V),g23=[some (.int Z03),some<|.int Z0u,some<|.int Z19,some<|.int s21.2.1,some<|.bl<|decide<|(1000000000000000000:Int)<=eL Z03,some<|.int s21.1,some<|.ref p15,d25]/\Ext W0 W22/\Ow isI W22 p15 s21.2.2) (i7 aW) (Bj hq) ?_ ?_ ?_
  ·intro W37 e38;have E0:=E0.trans e38;have o17:=o17.mono e38;exact⟨_,rfl,E0,o17⟩
  ·intro Wb26 W27 W28 a19 v29 s20 sg30 P31 hW32 hB33 iv e34 h35 hq;obtain⟨d25,rfl,E0,o24⟩:=iv;have E0:=E0.trans e34;have hB33:=hB33.trans e34.g;have o24:=o24.mono e34;cases h35;refine gn (σ':=[some (.int Z03),some<|.int Z0u,some<|.int Z19,some<|.int s20.2.1,some<|.bl<|decide<|(1000000000000000000:Int)<=eL Z03,some<|.int s20.1,some<|.ref p15,some<|.int a19]) ?_;unfold yl at hq;refine au (Er:=Er) (aj (fun _=>by decide) (aJ (aJ (aj (fun _=>.inr ⟨by decide,by decide⟩) aW) ag) aW))<|fun v43 W41 e42 h44=>?_;cases h44;have E0:=E0.trans e42;have hB33:=hB33.trans e42.g;have o24:=o24.mono e42;refine iG (Er:=Er) (Iv:=fun(s74:(Int×(List Int)))(W75:Wd)(g76:St)=>g76=[some (.int Z03),some<|.int Z0u,some<|.int Z19,some<|.int s74.1,some<|.bl<|decide<|(1000000000000000000:Int)<=eL Z03,some<|.int<|(((s20.1*48271)+(7919:Int))+a19)%2147483647,some<|.ref p15,some<|.int a19]/\Ext W0 W75/\Ow isI W75 p15 s74.2) (ee (ju zF)<|aw<|bT aW ag) (Bj hq) ?_ ?_ ?_
   ·intro W46 N49 e47 hN50 hq;have hs51:=e47.g;have E0:=E0.trans e47;have hB33:=hB33.trans e47.g;have o24:=o24.mono e47;refine mO (Er:=Er) o24 (fc aW aW)<|(Bj hq).imp fun y55 hq W52 mu53 o54=>?_;have E0:=mu53.e _ E0 fr18;have hB33:=hB33.trans mu53.g;have hs51:=hs51.trans mu53.g;refine cg (Er:=Er) (oZ aW aW)<|(Bj hq).imp fun y59 hq v60 W57 e58 h61=>?_;cases h61;have E0:=E0.trans e58;have hB33:=hB33.trans e58.g;have hs51:=hs51.trans e58.g;have o54:=o54.mono e58;exact hN50 (y59,y55) W57 _ hs51 ⟨rfl,E0,o54⟩ hq
   ·intro W46 N49 e47 hN50 hq;have hs62:=e47.g;have E0:=E0.trans e47;have hB33:=hB33.trans e47.g;have o24:=o24.mono e47;refine gX (Er:=Er) o24 (fc (aj (fun _=>by decide)<|iD aW aW) aW)<|(Bj hq).imp fun y68 hq W65 mu66 o67=>?_;have E0:=mu66.e _ E0 fr18;have hB33:=hB33.trans mu66.g;have hs62:=hs62.trans mu66.g;exact hN50 (s20.2.1,y68) W65 _ hs62 ⟨rfl,E0,o67⟩ hq
   ·intro s70 W71 sg72 hS73 iv hq;obtain⟨rfl,E0,o77⟩:=iv;have hB33:=hB33.trans hS73
    try dsimp only
    refine bY (W:=W71) (((((s20.1*48271)+(7919:Int))+a19)%2147483647),s70.1,s70.2) hB33 ?_ hq;exact⟨_,rfl,E0,o77⟩
  ·intro s79 W80 sg81 hS82 iv hq;obtain⟨d25,rfl,E0,o24⟩:=iv;exact⟨.ref p15,rfl,hq p15 W80 E0 fr18 o24⟩
theorem AF{f:Addr}{fd:C4}(F:Fun K "_law_holes" "_law_holes" (tp 26) f fd){gk:Int->Int->Int->Res (List Int)}(Z0r:Cal P w K mg base "_law_row" ["_law_cell","_law_many","_law_base"] (1) (fe isI isI isI (ro isI) gk)):FnOk P w K mg base CX0 (2) f fd ["_law_cell"] (ei isI (rs isS)<|zI gk):=by
 have SC:FnScope ["_law_cell","_law_size","_law_draws","_law_out","_law_d"] ["_law_cell"] (defScope<|tp 26):=by walk_at "F"
 refine F.ok SC (fun vs H Q E h=>?_)<|fun cdv A outer s H vs Q E hr h=>?_;·obtain⟨_,_,_,_,rfl,_⟩:=h;rfl
 ·obtain⟨W0,Z03,_,rfl,rfl,Z0x,Er,hq⟩:=h;cases Z0x;refine⟨_,(af (cP 1<|ar (aF (K:=K) rfl) (cb<|a5 aa<|a5 aa<|a5 aa<|a5 aa<|a5 aa ae) (ai av (pv 0) aa)<|fun _ _=>rfl)
   (af (cP 2<|df Z0r<|a5 (ai aQ (pv 0) aa)<|a5 aa<|a5 aa ae)
   (af (cP 3 bq)
   (af (bS C5 rfl (bG (K:=K) rfl<|fj (hW (K:=K) rfl) (pv 2) gv<|fC aa) (ff 4)<|ah<|cP 3<|ai dJ (pv 3)<|ar bN bq (ai av (ai bg (ar (aF (K:=K) rfl) (pv 2) aa<|fun _ _=>rfl)<|ai eI (ai av (pv 4)<|pv 1) aa) aa)<|fun _ _=>rfl)
   (ah (aB (pv 3))))))),?_⟩
  have E0:Ext W0 W0:=.refl W0;unfold zI at hq;refine au (Er:=Er) (bI (Gi<|fI<|bj ag<|bj ag<|bj ag<|bj ag<|bj ag<|fH (R:=isI)) (aj (fun _=>by decide) aW))<|(Bj hq).imp fun y3 hq v4 W1 e2 h5=>?_;cases h5;have E0:=E0.trans e2;refine au (Er:=Er) (DD (eE (aj (fun _=>⟨by decide,by decide⟩) aW) ag ag))<|(Bj hq).imp fun y8 hq v9 W6 e7 h10=>?_;have E0:=E0.trans e7;refine au (Er:=Er) (bt (x:=Bu "") (l:=[]) (gF _ _ (by decide +kernel)))<|fun v13 W11 e12 h14=>?_;cases h14;have E0:=E0.trans e12;have h10:=Bi e12.g h10;refine cR (Er:=Er) (f:=(ym y3 y8)) (s0:=([]:Tx)) (Iv:=fun(s17:Tx)(W18:Wd)(g19:St)=>∃(d20:Option V),g19=[some (.int Z03),some<|.int y3,some v9,some<|.str<|sOf s17,d20]/\Ext W0 W18) (bU<|DD<|iZ (Dk<|aN h10) kP<|kQ ag) (Bj hq) ?_ ?_ ?_
  ·intro W32 e33;have E0:=E0.trans e33;have h10:=Bi e33.g h10;exact⟨_,rfl,E0⟩
  ·intro Wb21 W22 W23 a15 v24 s16 sg25 P26 hW27 hB28 iv e29 h30 hq;obtain⟨d20,rfl,E0⟩:=iv;have h10:=Bi hW27 h10;have E0:=E0.trans e29;have hB28:=hB28.trans e29.g;have h10:=Bi e29.g h10;cases h30;refine gn (σ':=[some (.int Z03),some<|.int y3,some v9,some<|.str<|sOf s16,some<|.int a15]) ?_;unfold ym at hq;refine cg (Er:=Er) (gy dY (bO (bt (x:=Bu "abcdefghijklmnopqrstuvwxyz") (l:=[97,98,99,100,101,102,103,104,105,106,107,108,109,110,111,112,113,114,115,116,117,118,119,120,121,122]) (gF _ _ (by decide +kernel))) (aj (fun _=>by decide) (aJ (bI (Dk<|aN h10) ag) (aj (fun _=>.inr ⟨by decide,by decide⟩)<|fc aW aW)))))<|(Bj hq).imp fun y44 hq v45 W36 e37 h46=>?_;cases h46;have E0:=E0.trans e37;have hB28:=hB28.trans e37.g;have h10:=Bi e37.g h10
   try dsimp only
   refine bY (W:=W36) y44 hB28 ?_ hq;exact⟨_,rfl,E0⟩
  ·intro s47 W48 sg49 hS50 iv hq;obtain⟨d20,rfl,E0⟩:=iv;exact aT (Er:=Er) dY<|fun v51 W52 e53 h54=>hq v51 W52 (E0.trans e53) h54
theorem AG{f:Addr}{fd:C4}(F:Fun K "_law_card" "_law_card" (tp 27) f fd){vS:Int->Res Tx}(Z24:Cal P w K mg base "_law_holes" ["_law_cell"] (2) (ei isI (rs isS) vS)):FnOk P w K mg base CX0 (3) f fd ["_law_cell"] (ei isI (rs<|qA K)<|zJ vS):=by
 have SC:FnScope ["_law_cell"] ["_law_cell"] (defScope<|tp 27):=by walk_at "F"
 refine F.ok SC (fun vs H Q E h=>?_)<|fun cdv A outer s H vs Q E hr h=>?_;·obtain⟨_,_,_,_,rfl,_⟩:=h;rfl
 ·obtain⟨W0,Z03,_,rfl,rfl,Z0x,Er,hq⟩:=h;cases Z0x;refine⟨_,(ah<|aB<|bW<|a5 (ar bN bq (ai av (pv 0) aa)<|fun _ _=>rfl)<|a5 (df Z24<|a5 (ai aQ (pv 0) aa) ae)<|a5 (ai av (ai aQ (pv 0) aa) aa) ae),?_⟩;have E0:Ext W0 W0:=.refl W0;unfold zJ at hq;exact aT (Er:=Er) (d9 (K:=K) (bO (bt (x:=Bu "SZ") (l:=[83,90]) (gF _ _ (by decide +kernel))) (aj (fun _=>by decide) aW)) (d4 (aj (fun _=>⟨by decide,by decide⟩) aW)) (aj (fun _=>by decide) (aj (fun _=>⟨by decide,by decide⟩) aW)))<|Cn hq fun y3 hq v4 W5 e6 h7=>hq v4 W5 (E0.trans e6) h7
theorem AH{f:Addr}{fd:C4}(F:Fun K "_law_turns" "_law_turns" (tp 28) f fd){gk:Int->Int->Int->Res (List Int)}(Z0r:Cal P w K mg base "_law_row" ["_law_cell","_law_many","_law_base"] (1) (fe isI isI isI (ro isI) gk)):FnOk P w K mg base CX0 (2) f fd ["_law_cell","_law_many"] (bJ isI isI (rs isS)<|zK gk):=by
 have SC:FnScope ["_law_cell","_law_many"] ["_law_cell","_law_many"] (defScope<|tp 28):=by walk_at "F"
 refine F.ok SC (fun vs H Q E h=>?_)<|fun cdv A outer s H vs Q E hr h=>?_;·obtain⟨_,_,_,_,_,_,rfl,_⟩:=h;rfl
 ·obtain⟨W0,Z03,Z0u,_,_,rfl,rfl,Z0x,Z23,Er,hq⟩:=h;cases Z0x;cases Z23;refine⟨_,(af (aX (aq bE (ai av (pv 0) aa) aa<|ay _) (ah<|aB<|ai nZ (ar bN bq (ai av (ai aQ (pv 0) aa) aa)<|fun _ _=>rfl)<|pv 1) az)
   (ah (aB (jC (K:=K) rfl bq (a5 (eT (N:=["_law_d"]) (cap:=[none]) (iV rfl (by decide +kernel) rfl (by decide +kernel) (by rfl) (by rfl)) rfl (bG (K:=K) rfl (df Z0r (a5 (ai aQ (pv 0) aa) (a5 (pv 1) (a5 aa ae))))) (fun _ _ _ _=>(bQ (i:=0) (show DA (["_law_d"]:List Str) by decide +kernel) rfl (by walk_at "L"))) (fun _ _ _ _=>du) (fun _ _ _ _=>(ar bN bq (pv 0) (fun _ _=>rfl)))) ae))))),?_⟩
  have E0:Ext W0 W0:=.refl W0;rw[show L2.start ["_law_cell","_law_many"] [.int Z03,.int Z0u]=[some (.int Z03),some<|.int Z0u]from rfl];unfold zK at hq;refine dN (Er:=Er) (aw (bL (aj (fun _=>by decide) aW) ag))<|fun W1 e2=>?_;have E0:=E0.trans e2;by_cases hb24:(decide<|(Z03%7)=(3:Int))=true
  ·rw[if_pos hb24]at hq ⊢;exact aT (Er:=Er) (vo (bO (bt (x:=Bu "fbi") (l:=[102,98,105]) (gF _ _ (by decide +kernel))) (aj (fun _=>by decide) (aj (fun _=>⟨by decide,by decide⟩) aW))) aW)<|Cn hq fun y4 hq v5 W6 e7 h8=>hq v5 W6 (E0.trans e7) h8
  ·rw[if_neg hb24]at hq ⊢
   try dsimp only[aA]
   exact aT (Er:=Er) (lI (gF _ _ (by decide +kernel)) (Gi (eD (bU (DD (eE (aj (fun _=>⟨by decide,by decide⟩) aW) aW ag))) fun W11 a9 v10 e12 h13 Q16 k17=>by
    cases h13;refine gn ?_;exact⟨by simp[Keep,bR],((bO (bt (x:=Bu "fbi") (l:=[102,98,105]) (gF _ _ (by decide +kernel))) aW):EV Er _ [some (.int a9)] _ _ _) _ (.refl _) _ k17⟩))) (Cn hq fun y20 hq v21 W22 e23 h24=>hq v21 W22 (E0.trans e23) h24)
theorem AI{f:Addr}{fd:C4}(F:Fun K "_law_go" "_law_go" (tp 31) f fd):FnOk P w K mg base CX0 (1) f fd ["_law_turn"] (ei isS (rs isI)<|zL):=by
 have SC:FnScope ["_law_turn"] ["_law_turn"] (defScope<|tp 31):=by walk_at "F"
 refine F.ok SC (fun vs H Q E h=>?_)<|fun cdv A outer s H vs Q E hr h=>?_;·obtain⟨_,_,_,_,rfl,_⟩:=h;rfl
 ·obtain⟨W0,Z0J,_,rfl,rfl,Z25,Er,hq⟩:=h;cases Z25;refine⟨_,(ah<|aB<|ai dH (ft (K:=K) rfl rfl bq<|a5 (pv 0) ae) aa),?_⟩;have E0:Ext W0 W0:=.refl W0;unfold zL at hq;exact aT (Er:=Er) (aJ (i5 (bt (x:=Bu "bif") (l:=[98,105,102]) (gF _ _ (by decide +kernel))) dY) ag)<|Cn hq fun y2 hq v3 W4 e5 h6=>hq v3 W4 (E0.trans e5) h6
theorem AJ{f:Addr}{fd:C4}(F:Fun K "_law_behind" "_law_behind" (tp 32) f fd){nN:Tx->Res Int}(Z1j:Cal P w K mg base "_law_go" ["_law_turn"] (1) (ei isS (rs isI) nN)):FnOk P w K mg base CX0 (2) f fd ["_law_card_here","_law_turn"] (bJ (qA K) isS (rs<|qA K)<|zM nN):=by
 have SC:FnScope ["_law_card_here","_law_turn"] ["_law_card_here","_law_turn"] (defScope<|tp 32):=by walk_at "F"
 refine F.ok SC (fun vs H Q E h=>?_)<|fun cdv A outer s H vs Q E hr h=>?_;·obtain⟨_,_,_,_,_,_,rfl,_⟩:=h;rfl
 ·obtain⟨W0,Z02,Z0J,Z06,_,rfl,rfl,Z00,Z25,Er,hq⟩:=h;cases Z25;refine⟨_,(ah<|aB<|bW<|a5 (ar (aM (K:=K) rfl) (pv 0) aa<|fun _ _=>rfl)<|a5 (ar (aM (K:=K) rfl) (pv 0) aa<|fun _ _=>rfl)<|a5 (ai av (ai bg (ar (aM (K:=K) rfl) (pv 0) aa<|fun _ _=>rfl)<|df Z1j<|a5 (pv 1) ae) aa) ae),?_⟩;have E0:Ext W0 W0:=.refl W0;unfold zM at hq;exact aT (Er:=Er) (d9 (K:=K) (aZ (f:=fun(b:Cd)=>b.1) lH<|aN Z00) (aZ (f:=fun(b:Cd)=>b.2.1) iY<|aN Z00) (aj (fun _=>by decide)<|aJ (aZ (f:=fun(b:Cd)=>b.2.2) jw<|aN Z00)<|d4 dY))<|Cn hq fun y4 hq v5 W6 e7 h8=>hq v5 W6 (E0.trans e7) h8
theorem AK{f:Addr}{fd:C4}(F:Fun K "_law_twist" "_law_twist" (tp 33) f fd){nN:Tx->Res Int}(Z1j:Cal P w K mg base "_law_go" ["_law_turn"] (1) (ei isS (rs isI) nN)):FnOk P w K mg base CX0 (2) f fd ["_law_card_here","_law_turn"] (bJ (qA K) isS (rs isI)<|zN nN):=by
 have SC:FnScope ["_law_card_here","_law_turn"] ["_law_card_here","_law_turn"] (defScope<|tp 33):=by walk_at "F"
 refine F.ok SC (fun vs H Q E h=>?_)<|fun cdv A outer s H vs Q E hr h=>?_;·obtain⟨_,_,_,_,_,_,rfl,_⟩:=h;rfl
 ·obtain⟨W0,Z02,Z0J,Z06,_,rfl,rfl,Z00,Z25,Er,hq⟩:=h;cases Z25;refine⟨_,(af (aX (aq bE (ar (aM (K:=K) rfl) (pv 0) aa<|fun _ _=>rfl) bq<|ay _) (ah<|aB<|df Z1j<|a5 (pv 1) ae) az)
   (ah (aB (ai dH aa (df Z1j (a5 (pv 1) ae)))))),?_⟩
  have E0:Ext W0 W0:=.refl W0;unfold zN at hq;refine dN (Er:=Er) (aw (gb (aZ (f:=fun(b:Cd)=>b.1) lH<|aN Z00) (bt (x:=Bu "S") (l:=[83]) (gF _ _ (by decide +kernel)))))<|fun W1 e2=>?_;have E0:=E0.trans e2;have Z00:=Bi e2.g Z00;by_cases hb13:(decide<|Z02.1=([83]:Tx))=true
  ·rw[if_pos hb13]at hq ⊢;exact aT (Er:=Er) (d4 dY)<|Cn hq fun y3 hq v4 W5 e6 h7=>hq v4 W5 (E0.trans e6) h7
  ·rw[if_neg hb13]at hq ⊢
   try dsimp only[aA]
   exact aT (Er:=Er) (aJ ag<|d4 dY)<|Cn hq fun y9 hq v10 W11 e12 h13=>hq v10 W11 (E0.trans e12) h13
theorem AL{f:Addr}{fd:C4}(F:Fun K "_law_places" "_law_places" (tp 34) f fd){je:Cd->Tx->Res Cd}{iJ:Cd->Tx->Res Int}(Z0P:Cal P w K mg base "_law_behind" ["_law_card_here","_law_turn"] (2) (bJ (qA K) isS (rs<|qA K) je))(Z10:Cal P w K mg base "_law_twist" ["_law_card_here","_law_turn"] (2) (bJ (qA K) isS (rs isI) iJ)):FnOk P w K mg base CX0 (3) f fd ["_law_card_here","_law_turns_here"] (bJ (qA K) isS (ro<|qB K)<|zO je iJ):=by
 have SC:FnScope ["_law_card_here","_law_turns_here","_law_out","_law_turn","_law_slant"] ["_law_card_here","_law_turns_here"] (defScope<|tp 34):=by walk_at "F"
 refine F.ok SC (fun vs H Q E h=>?_)<|fun cdv A outer s H vs Q E hr h=>?_;·obtain⟨_,_,_,_,_,_,rfl,_⟩:=h;rfl
 ·obtain⟨W0,Z02,Z09,Z06,_,rfl,rfl,Z00,Z0D,Er,hq⟩:=h;cases Z0D;refine⟨_,(af (cP 2<|cb ae)
   (af (bS C5 rfl (jn<|pv 1) (ff 3) (af (cP 0<|df Z0P<|a5 (pv 0)<|a5 (pv 3) ae)
   (af (cP 4<|ar bN bq (ai bg (df Z10<|a5 (pv 0)<|a5 (pv 3) ae) aa)<|fun _ _=>rfl)
   (ah (d6 (cS (K:=K) rfl (pv 2) (a5 (bW (a5 (ar bN (ar (aM (K:=K) rfl) (pv 0) aa (fun _ _=>rfl)) (ar (aM (K:=K) rfl) (pv 0) aa (fun _ _=>rfl)) (fun _ _=>rfl)) (a5 (ar bN (ar (aM (K:=K) rfl) (pv 0) aa (fun _ _=>rfl)) (ai av (ai bg (ar (aM (K:=K) rfl) (pv 0) aa (fun _ _=>rfl)) aa) aa) (fun _ _=>rfl)) (a5 (pv 4) ae)))) ae)))))))
   (ah (aB (pv 2))))),?_⟩
  have E0:Ext W0 W0:=.refl W0;unfold zO at hq;refine dg (Er:=Er) (eU (R:=(qB K)))<|fun p3 W1 e2 hp4 o5=>?_;have fr6:=none_of E0.h hp4;have E0:=E0.trans e2;have Z00:=Bi e2.g Z00;refine cR (Er:=Er) (f:=(yn je iJ)) (s0:=(Z02,([]:List Pl))) (Iv:=fun(s9:(Cd×(List Pl)))(W10:Wd)(g11:St)=>∃(v12:V)(d15:Option V)(d16:Option V),g11=[some v12,some<|.str<|sOf Z09,some<|.ref p3,d16,d15]/\Ext W0 W10/\(qA K) W10.G s9.1 v12/\Ow (qB K) W10 p3 s9.2) (jy dY) (Bj hq) ?_ ?_ ?_
  ·intro W28 e29;have E0:=E0.trans e29;have Z00:=Bi e29.g Z00;have o5:=o5.mono e29;exact⟨_,_,_,rfl,E0,Z00,o5⟩
  ·intro Wb17 W18 W19 a7 v20 s8 sg21 P22 hW23 hB24 iv e25 h26 hq;obtain⟨v12,d15,d16,rfl,E0,h13,o14⟩:=iv;have E0:=E0.trans e25;have hB24:=hB24.trans e25.g;have o14:=o14.mono e25;have h13:=Bi e25.g h13;cases h26;refine gn (σ':=[some v12,some<|.str<|sOf Z09,some<|.ref p3,some<|.str<|sOf a7,d15]) ?_;unfold yn at hq;refine au (Er:=Er) (aU (aN h13) dY)<|(Bj hq).imp fun y34 hq v35 W32 e33 h36=>?_;have E0:=E0.trans e33;have hB24:=hB24.trans e33.g;have o14:=o14.mono e33;refine au (Er:=Er) (bO (bt (x:=Bu "zos") (l:=[122,111,115]) (gF _ _ (by decide +kernel)))<|aJ (aU (aN h36) dY) ag)<|(Bj hq).imp fun y41 hq v42 W37 e38 h43=>?_;cases h43;have E0:=E0.trans e38;have hB24:=hB24.trans e38.g;have o14:=o14.mono e38;have h36:=Bi e38.g h36;refine gX (Er:=Er) o14 (d9 (K:=K) (bO (aZ (f:=fun(b:Cd)=>b.2.1) iY<|aN h36)<|aZ (f:=fun(b:Cd)=>b.2.2) jw<|aN h36) (bO (aZ (f:=fun(b:Cd)=>b.2.1) iY<|aN h36) (aj (fun _=>by decide)<|aJ (aZ (f:=fun(b:Cd)=>b.2.2) jw<|aN h36) ag)) dY)<|(Bj hq).imp fun y49 hq W46 mu47 o48=>?_;have E0:=mu47.e _ E0 fr6;have hB24:=hB24.trans mu47.g;have h36:=Bi mu47.g h36
   try dsimp only
   refine bY (W:=W46) (y34,y49) hB24 ?_ hq;exact⟨_,_,_,rfl,E0,h36,o48⟩
  ·intro s51 W52 sg53 hS54 iv hq;obtain⟨v12,d15,d16,rfl,E0,h13,o14⟩:=iv;exact⟨.ref p3,rfl,hq p3 W52 E0 fr6 o14⟩
theorem AM{f:Addr}{fd:C4}(F:Fun K "_law_long" "_law_long" (tp 36) f fd){gk:Int->Int->Int->Res (List Int)}(Z0r:Cal P w K mg base "_law_row" ["_law_cell","_law_many","_law_base"] (1) (fe isI isI isI (ro isI) gk))(h_len:mg "len"=none)(h_zip:mg "zip"=none):FnOk P w K mg base CX0 (2) f fd ["_law_places_here","_law_cell"] (bJ (qD K) isI (ro<|qB K)<|zP gk):=by
 have SC:FnScope ["_law_places_here","_law_cell","_law_out","_law_worn","_law_draws","_law_place","_law_d","_law_at_here"] ["_law_places_here","_law_cell"] (defScope<|tp 36):=by walk_at "F"
 refine F.ok SC (fun vs H Q E h=>?_)<|fun cdv A outer s H vs Q E hr h=>?_;·obtain⟨_,_,_,_,_,_,rfl,_⟩:=h;rfl
 ·obtain⟨W0,Z0n,Z03,Z0l,_,rfl,rfl,Z04,Z0x,Er,hq⟩:=h;cases Z0x;refine⟨_,(af (cP 2<|cb ae)
   (af (cP 3 aa)
   (af (cP 4 (df Z0r (a5 (ai aQ (pv 1) aa) (a5 (ao (aL (K:=K) rfl) (by rfl) h_len BW<|a5 (pv 0) ae)<|a5 aa ae))))
   (af (bS C5 rfl (gw (K:=K) rfl rfl h_zip<|a5 (pv 0)<|a5 (pv 4) ae) (cw (K:=K) (n:=2) rfl rfl<|aE (ff 5)<|aE (ff 6) cq) (af (aX (FK<|dq (aq bE (pv 6) aa<|ay _)<|d5<|aq my (pv 3) aa<|ay _) (af (cP 3<|ai bg (pv 3) aa)
   (ah (cP 5 (bW (a5 bq (a5 (ar (aM (K:=K) rfl) (pv 5) aa (fun _ _=>rfl)) (a5 bq ae))))))) az)
   (ah (d6 (cS (K:=K) rfl (pv 2) (a5 (pv 5) ae))))))
   (af (aX (aq bE (ai av (pv 1) aa) aa<|ay _) (af (cP 7 (ai av (ai aQ (pv 1) aa) (ao (aL (K:=K) rfl) (by rfl) h_len BW<|a5 (pv 0) ae)))
   (ah (f9 (bW (a5 (ar (aM (K:=K) rfl) (ar (aF (K:=K) rfl) (pv 2) (pv 7) (fun _ _=>rfl)) aa (fun _ _=>rfl)) (a5 (ar (aM (K:=K) rfl) (ar (aF (K:=K) rfl) (pv 2) (pv 7) (fun _ _=>rfl)) aa (fun _ _=>rfl)) (a5 (ar bN bq (ai av (ai aQ (pv 1) aa) aa) (fun _ _=>rfl)) ae)))) (ll (pv 2) (pv 7) hV)))) az)
   (ah (aB (pv 2)))))))),?_⟩
  have E0:Ext W0 W0:=.refl W0;unfold zP at hq;refine dg (Er:=Er) (eU (R:=(qB K)))<|fun p3 W1 e2 hp4 o5=>?_;have fr6:=none_of E0.h hp4;have E0:=E0.trans e2;have Z04:=Bi e2.g Z04;refine au (Er:=Er) ag<|fun v9 W7 e8 h10=>?_;cases h10;have E0:=E0.trans e8;have Z04:=Bi e8.g Z04;have o5:=o5.mono e8;refine au (Er:=Er) (DD (eE (aj (fun _=>⟨by decide,by decide⟩) aW) (bZ<|Dk<|aN Z04) ag))<|(Bj hq).imp fun y13 hq v14 W11 e12 h15=>?_;have E0:=E0.trans e12;have Z04:=Bi e12.g Z04;have o5:=o5.mono e12;refine cR (Er:=Er) (f:=yo) (s0:=((0:Int),([]:List Pl))) (Iv:=fun(s18:(Int×(List Pl)))(W19:Wd)(g20:St)=>∃(d22:Option V)(d23:Option V),g20=[some Z0l,some<|.int Z03,some<|.ref p3,some<|.int s18.1,some v14,d22,d23,none]/\Ext W0 W19/\Ow (qB K) W19 p3 s18.2) (jz (fJ<|aN Z04)<|fJ<|aN h15) (Bj hq) ?_ ?_ ?_
  ·intro W35 e36;have E0:=E0.trans e36;have Z04:=Bi e36.g Z04;have o5:=o5.mono e36;exact⟨_,_,rfl,E0,o5⟩
  ·intro Wb24 W25 W26 a16 v27 s17 sg28 P29 hW30 hB31 iv e32 h33 hq;obtain⟨d22,d23,rfl,E0,o21⟩:=iv;have Z04:=Bi hW30 Z04;have E0:=E0.trans e32;have hB31:=hB31.trans e32.g;have Z04:=Bi e32.g Z04;have o21:=o21.mono e32;refine lJ h33 fun v41 v43 h42 h44=>?_;cases h44;unfold yo at hq;refine bf (Er:=Er) (Iv:=fun(s65:(Int×Pl))(W66:Wd)(g67:St)=>∃(v68:V),g67=[some Z0l,some<|.int Z03,some<|.ref p3,some<|.int s65.1,some v14,some v68,some<|.int a16.2,none]/\Ext W0 W66/\(qB K) W66.G s65.2 v68/\Ow (qB K) W66 p3 s17.2) (ee (aw<|bL aW ag)<|aw<|bT aW ag) (Bj hq) ?_ ?_ ?_
   ·intro W46 N49 e47 hN50 hq;have hs51:=e47.g;have E0:=E0.trans e47;have hB31:=hB31.trans e47.g;have Z04:=Bi e47.g Z04;have o21:=o21.mono e47;have h42:=Bi e47.g h42;refine au (Er:=Er) (aJ aW ag)<|fun v54 W52 e53 h55=>?_;cases h55;have E0:=E0.trans e53;have hB31:=hB31.trans e53.g;have hs51:=hs51.trans e53.g;have Z04:=Bi e53.g Z04;have o21:=o21.mono e53;have h42:=Bi e53.g h42;refine cg (Er:=Er) (d9 (K:=K) (bt (x:=Bu "?") (l:=[63]) (gF _ _ (by decide +kernel))) (aZ (f:=fun(b:Pl)=>b.2.1) iY<|aN h42) (bt (x:=Bu "?") (l:=[63]) (gF _ _ (by decide +kernel))))<|fun v58 W56 e57 h59=>?_;have E0:=E0.trans e57;have hB31:=hB31.trans e57.g;have hs51:=hs51.trans e57.g;have Z04:=Bi e57.g Z04;have o21:=o21.mono e57;exact hN50 ((s17.1+(1:Int)),(([63]:Tx),a16.1.2.1,([63]:Tx))) W56 _ hs51 ⟨_,rfl,E0,h59,o21⟩ hq
   ·intro W46 N49 e47 hN50 hq;have hs60:=e47.g;have E0:=E0.trans e47;have hB31:=hB31.trans e47.g;have Z04:=Bi e47.g Z04;have o21:=o21.mono e47;have h42:=Bi e47.g h42
    try dsimp only[aA]
    exact hN50 (s17.1,a16.1) W46 _ hs60 ⟨_,rfl,E0,h42,o21⟩ hq
   ·intro s61 W62 sg63 hS64 iv hq;obtain⟨v68,rfl,E0,h69,o70⟩:=iv;have hB31:=hB31.trans hS64;have Z04:=Bi hS64 Z04;refine gX (Er:=Er) o70 (aN h69)<|(Bj hq).imp fun y74 hq W71 mu72 o73=>?_;have E0:=mu72.e _ E0 fr6;have hB31:=hB31.trans mu72.g;have Z04:=Bi mu72.g Z04;have h69:=Bi mu72.g h69
    try dsimp only
    refine bY (W:=W71) (s61.1,y74) hB31 ?_ hq;exact⟨_,_,rfl,E0,o73⟩
  ·intro s75 W76 sg77 hS78 iv hq;obtain⟨d22,d23,rfl,E0,o21⟩:=iv;have Z04:=Bi hS78 Z04;refine bf (Er:=Er) (Iv:=fun(s105:(List Pl))(W106:Wd)(g107:St)=>∃(d109:Option V),g107=[some Z0l,some<|.int Z03,some<|.ref p3,some<|.int s75.1,some v14,d22,d23,d109]/\Ext W0 W106/\Ow (qB K) W106 p3 s105) (aw (bL (aj (fun _=>by decide) aW) ag)) (Bj hq) ?_ ?_ ?_
   ·intro W79 N82 e80 hN83 hq;have hs84:=e80.g;have E0:=E0.trans e80;have Z04:=Bi e80.g Z04;have o21:=o21.mono e80;refine au (Er:=Er) (fc (aj (fun _=>⟨by decide,by decide⟩) aW)<|bZ<|Dk<|aN Z04)<|(Bj hq).imp fun y87 hq v88 W85 e86 h89=>?_;cases h89;have E0:=E0.trans e86;have hs84:=hs84.trans e86.g;have o21:=o21.mono e86;refine lK (Er:=Er) o21 (d9 (K:=K) (aZ (f:=fun(b:Pl)=>b.1) lH<|bI (fG o21) aW) (aZ (f:=fun(b:Pl)=>b.2.1) iY<|bI (fG o21) aW) (bO (bt (x:=Bu "szo") (l:=[115,122,111]) (gF _ _ (by decide +kernel))) (aj (fun _=>by decide) (aj (fun _=>⟨by decide,by decide⟩) aW)))) aW<|(Bj hq).imp fun y99 hq W95 mu96 o97=>?_;have E0:=mu96.e _ E0 fr6;have hs84:=hs84.trans mu96.g;exact hN83 y99 W95 _ hs84 ⟨_,rfl,E0,o97⟩ hq
   ·intro W79 N82 e80 hN83 hq;have hs100:=e80.g;have E0:=E0.trans e80;have Z04:=Bi e80.g Z04;have o21:=o21.mono e80
    try dsimp only[aA]
    exact hN83 s75.2 W79 _ hs100 ⟨_,rfl,E0,o21⟩ hq
   ·intro s101 W102 sg103 hS104 iv hq;obtain⟨d109,rfl,E0,o108⟩:=iv;exact⟨.ref p3,rfl,hq p3 W102 E0 fr6 o108⟩
theorem AN{f:Addr}{fd:C4}(F:Fun K "_law_marks" "_law_marks" (tp 35) f fd){gk:Int->Int->Int->Res (List Int)}(Z0r:Cal P w K mg base "_law_row" ["_law_cell","_law_many","_law_base"] (1) (fe isI isI isI (ro isI) gk))(h_int:mg "int"=none)(h_len:mg "len"=none)(h_tuple:mg "tuple"=none)(h_zip:mg "zip"=none):FnOk P w K mg base CX0 (2) f fd ["_law_places_here","_law_cell","_law_lies"] (fe (qD K) isI isB (ro<|qB K)<|zQ gk):=by
 have SC:FnScope ["_law_places_here","_law_cell","_law_lies","_law_out","_law_draws","_law_place","_law_d","_law_mark","_law_letters"] ["_law_places_here","_law_cell","_law_lies"] (defScope<|tp 35):=by walk_at "F"
 refine F.ok SC (fun vs H Q E h=>?_)<|fun cdv A outer s H vs Q E hr h=>?_;·obtain⟨_,_,_,_,_,_,_,_,rfl,_⟩:=h;rfl
 ·obtain⟨W0,Z0n,Z03,Z1h,Z0l,_,_,rfl,rfl,Z04,Z0x,Z4g,Er,hq⟩:=h;cases Z0x;cases Z4g;refine⟨_,(af (cP 3<|cb ae)
   (af (cP 4 (df Z0r (a5 (ai aQ (pv 1) aa) (a5 (ao (aL (K:=K) rfl) (by rfl) h_len BW<|a5 (pv 0) ae) (a5 (ai bg aa (ai eI aa (cC kF (by rfl) h_int EE<|a5 (pv 2) ae))) ae)))))
   (af (bS C5 rfl (gw (K:=K) rfl rfl h_zip<|a5 (pv 0)<|a5 (pv 4) ae) (cw (K:=K) (n:=2) rfl rfl<|aE (ff 5)<|aE (ff 6) cq) (af (aX (aq bE (ai av (pv 1) aa) aa<|ay _) (ah<|cP 6<|ai eI (ai aQ (pv 6) aa) aa) az)
   (af (aX (aq bE (ai av (pv 1) aa) aa<|ay _) (ah<|cP 6<|ai bg (ai eI (ai aQ (pv 6) aa) aa) aa) az)
   (af (cP 7<|cb<|a5 (ar (aM (K:=K) rfl) (pv 5) aa<|fun _ _=>rfl)<|a5 (ar (aM (K:=K) rfl) (pv 5) aa<|fun _ _=>rfl)<|a5 (ar (aM (K:=K) rfl) (pv 5) aa<|fun _ _=>rfl) ae)
   (af (aX (FK<|dq (aq rR (pv 6) aa<|ay _)<|d5<|aq my (ai av (pv 6) aa) aa<|ay _) (af (cP 8 bq)
   (ah (f9 (ar bN (pv 8) (ai bg (ft (K:=K) rfl rfl (pv 8) (a5 (ar (aF (K:=K) rfl) (pv 7) (ai av (pv 6) aa) (fun _ _=>rfl)) ae)) aa) (fun _ _=>rfl)) (ll (pv 7) (ai av (pv 6) aa) hV)))) az)
   (af (aX (FK<|dq (aq rR (pv 6) aa<|ay _)<|d5<|aq bE (ai av (pv 6) aa) aa<|ay _) (ah<|f9 (ar bN bq (ft (K:=K) rfl rfl bq<|a5 (ar (aF (K:=K) rfl) (pv 7) aa<|fun _ _=>rfl) ae)<|fun _ _=>rfl)<|ll (pv 7) aa hV) az)
   (ah (d6 (cS (K:=K) rfl (pv 3) (a5 (cC (jB (K:=K) rfl) (by rfl) h_tuple Et (a5 (eT (N:=["_law_sign","_law_part","_law_d"]) (cap:=[none,none,some 6]) (iV rfl (by decide +kernel) rfl (by decide +kernel) (by rfl) (by rfl)) rfl (gw (K:=K) rfl rfl h_zip (a5 (pv 7) (a5 (cb (a5 aa (a5 aa (a5 aa ae)))) ae))) (fun _ _ _ _=>(cw (K:=K) (n:=2) rfl rfl (aE (bQ (i:=0) (show DA (["_law_sign","_law_part","_law_d"]:List Str) by decide +kernel) rfl (by walk_at "L")) (aE (bQ (i:=1) (show DA (["_law_sign","_law_part","_law_d"]:List Str) by decide +kernel) rfl (by walk_at "L")) cq)))) (fun _ _ _ _=>du) (fun _ _ _ _=>(gZ (aq bE (ai av (ai aQ (pv 2) (pv 1)) aa) aa (ay _)) (pv 0) bq))) ae)) ae))))))))))
   (ah (aB (pv 3)))))),?_⟩
  have E0:Ext W0 W0:=.refl W0;rw[show L2.start ["_law_places_here","_law_cell","_law_lies","_law_out","_law_draws","_law_place","_law_d","_law_mark","_law_letters"] [Z0l,.int Z03,.bl Z1h]=[some Z0l,some<|.int Z03,some<|.bl Z1h,none,none,none,none,none,none]from rfl];unfold zQ at hq;refine dg (Er:=Er) (eU (R:=(qB K)))<|fun p3 W1 e2 hp4 o5=>?_;have fr6:=none_of E0.h hp4;have E0:=E0.trans e2;have Z04:=Bi e2.g Z04;refine au (Er:=Er) (DD (eE (aj (fun _=>⟨by decide,by decide⟩) aW) (bZ<|Dk<|aN Z04)<|aJ ag<|iD ag<|p9 zF))<|(Bj hq).imp fun y11 hq v12 W7 e8 h13=>?_;have E0:=E0.trans e8;have Z04:=Bi e8.g Z04;have o5:=o5.mono e8;refine cR (Er:=Er) (f:=(yp Z03)) (s0:=([]:List Pl)) (Iv:=fun(s16:(List Pl))(W17:Wd)(g18:St)=>∃(d20:Option V)(d21:Option V)(d22:Option V)(d23:Option V),g18=[some Z0l,some<|.int Z03,some<|.bl Z1h,some<|.ref p3,some v12,d23,d20,d21,d22]/\Ext W0 W17/\Ow (qB K) W17 p3 s16) (jz (fJ<|aN Z04)<|fJ<|aN h13) (Bj hq) ?_ ?_ ?_
  ·intro W35 e36;have E0:=E0.trans e36;have o5:=o5.mono e36;exact⟨_,_,_,_,rfl,E0,o5⟩
  ·intro Wb24 W25 W26 a14 v27 s15 sg28 P29 hW30 hB31 iv e32 h33 hq;obtain⟨d20,d21,d22,d23,rfl,E0,o19⟩:=iv;have E0:=E0.trans e32;have hB31:=hB31.trans e32.g;have o19:=o19.mono e32;refine lJ h33 fun v41 v43 h42 h44=>?_;cases h44;unfold yp at hq;refine bf (Er:=Er) (Iv:=fun(s60:Int)(W61:Wd)(g62:St)=>g62=[some Z0l,some<|.int Z03,some<|.bl Z1h,some<|.ref p3,some v12,some v41,some<|.int s60,d21,d22]/\Ext W0 W61/\Ow (qB K) W61 p3 s15) (aw (bL (aj (fun _=>by decide) aW) ag)) (Bj hq) ?_ ?_ ?_
   ·intro W45 N48 e46 hN49 hq;have hs50:=e46.g;have E0:=E0.trans e46;have hB31:=hB31.trans e46.g;have o19:=o19.mono e46;have h42:=Bi e46.g h42;refine cg (Er:=Er) (aj (fun _=>.inr ⟨by decide,by decide⟩) (aj (fun _=>⟨by decide,by decide⟩) aW))<|fun v53 W51 e52 h54=>?_;cases h54;have E0:=E0.trans e52;have hB31:=hB31.trans e52.g;have hs50:=hs50.trans e52.g;have o19:=o19.mono e52;have h42:=Bi e52.g h42;exact hN49 ((a14.2/8)*8) W51 _ hs50 ⟨rfl,E0,o19⟩ hq
   ·intro W45 N48 e46 hN49 hq;have hs55:=e46.g;have E0:=E0.trans e46;have hB31:=hB31.trans e46.g;have o19:=o19.mono e46;have h42:=Bi e46.g h42
    try dsimp only[aA]
    exact hN49 a14.2 W45 _ hs55 ⟨rfl,E0,o19⟩ hq
   ·intro s56 W57 sg58 hS59 iv hq;obtain⟨rfl,E0,o63⟩:=iv;have hB31:=hB31.trans hS59;have h42:=Bi hS59 h42;refine bf (Er:=Er) (Iv:=fun(s79:Int)(W80:Wd)(g81:St)=>g81=[some Z0l,some<|.int Z03,some<|.bl Z1h,some<|.ref p3,some v12,some v41,some<|.int s79,d21,d22]/\Ext W0 W80/\Ow (qB K) W80 p3 s15) (aw (bL (aj (fun _=>by decide) aW) ag)) (Bj hq) ?_ ?_ ?_
    ·intro W64 N67 e65 hN68 hq;have hs69:=e65.g;have E0:=E0.trans e65;have hB31:=hB31.trans e65.g;have o63:=o63.mono e65;have h42:=Bi e65.g h42;refine cg (Er:=Er) (aJ (aj (fun _=>.inr ⟨by decide,by decide⟩) (aj (fun _=>⟨by decide,by decide⟩) aW)) ag)<|fun v72 W70 e71 h73=>?_;cases h73;have E0:=E0.trans e71;have hB31:=hB31.trans e71.g;have hs69:=hs69.trans e71.g;have o63:=o63.mono e71;have h42:=Bi e71.g h42;exact hN68 (((s56/8)*8)+(7:Int)) W70 _ hs69 ⟨rfl,E0,o63⟩ hq
    ·intro W64 N67 e65 hN68 hq;have hs74:=e65.g;have E0:=E0.trans e65;have hB31:=hB31.trans e65.g;have o63:=o63.mono e65;have h42:=Bi e65.g h42
     try dsimp only[aA]
     exact hN68 s56 W64 _ hs74 ⟨rfl,E0,o63⟩ hq
    ·intro s75 W76 sg77 hS78 iv hq;obtain⟨rfl,E0,o82⟩:=iv;have hB31:=hB31.trans hS78;have h42:=Bi hS78 h42;refine dg (Er:=Er) (fI<|bj (aZ (f:=fun(b:Pl)=>b.1) lH<|aN h42)<|bj (aZ (f:=fun(b:Pl)=>b.2.1) iY<|aN h42)<|bj (aZ (f:=fun(b:Pl)=>b.2.2) jw<|aN h42)<|fH (R:=isS))<|fun p85 W83 e84 hp86 o87=>?_;have ne88:=o82.ne hp86;have fr89:=none_of E0.h hp86;have E0:=E0.trans e84;have hB31:=hB31.trans e84.g;have o82:=o82.mono e84;have h42:=Bi e84.g h42;refine bf (Er:=Er) (Iv:=fun(s114:(List Tx))(W115:Wd)(g116:St)=>∃(d118:Option V),g116=[some Z0l,some<|.int Z03,some<|.bl Z1h,some<|.ref p3,some v12,some v41,some<|.int s75,some<|.ref p85,d118]/\Ext W0 W115/\Ow isS W115 p85 s114/\Ow (qB K) W115 p3 s15) (ee (aw<|bT aW ag) (aw (bT (aj (fun _=>by decide) aW) ag))) (Bj hq) ?_ ?_ ?_
     ·intro W91 N94 e92 hN95 hq;have hs96:=e92.g;have E0:=E0.trans e92;have hB31:=hB31.trans e92.g;have o82:=o82.mono e92;have h42:=Bi e92.g h42;have o87:=o87.mono e92;refine au (Er:=Er) (bt (x:=Bu "abcdefghijklmnopqrstuvwxyza") (l:=[97,98,99,100,101,102,103,104,105,106,107,108,109,110,111,112,113,114,115,116,117,118,119,120,121,122,97]) (gF _ _ (by decide +kernel)))<|fun v99 W97 e98 h100=>?_;cases h100;have E0:=E0.trans e98;have hB31:=hB31.trans e98.g;have hs96:=hs96.trans e98.g;have o82:=o82.mono e98;have h42:=Bi e98.g h42;have o87:=o87.mono e98;refine lK (Er:=Er) o87 (bO dY (aJ (i5 dY (bI (fG o87) (aj (fun _=>by decide) aW))) ag)) (aj (fun _=>by decide) aW)<|(Bj hq).imp fun y108 hq W104 mu105 o106=>?_;have E0:=mu105.e _ E0 fr89;have hB31:=hB31.trans mu105.g;have hs96:=hs96.trans mu105.g;have o82:=mu105.ow ne88 o82;have h42:=Bi mu105.g h42;exact hN95 y108 W104 _ hs96 ⟨_,rfl,E0,o106,o82⟩ hq
     ·intro W91 N94 e92 hN95 hq;have hs109:=e92.g;have E0:=E0.trans e92;have hB31:=hB31.trans e92.g;have o82:=o82.mono e92;have h42:=Bi e92.g h42;have o87:=o87.mono e92
      try dsimp only[aA]
      exact hN95 [a14.1.1,a14.1.2.1,a14.1.2.2] W91 _ hs109 ⟨_,rfl,E0,o87,o82⟩ hq
     ·intro s110 W111 sg112 hS113 iv hq;obtain⟨d118,rfl,E0,o117,o119⟩:=iv;have hB31:=hB31.trans hS113;have h42:=Bi hS113 h42;refine bf (Er:=Er) (Iv:=fun(s139:(List Tx))(W140:Wd)(g141:St)=>g141=[some Z0l,some<|.int Z03,some<|.bl Z1h,some<|.ref p3,some v12,some v41,some<|.int s75,some<|.ref p85,d118]/\Ext W0 W140/\Ow isS W140 p85 s139/\Ow (qB K) W140 p3 s15) (ee (aw<|bT aW ag) (aw (bL (aj (fun _=>by decide) aW) ag))) (Bj hq) ?_ ?_ ?_
      ·intro W121 N124 e122 hN125 hq;have hs126:=e122.g;have E0:=E0.trans e122;have hB31:=hB31.trans e122.g;have o119:=o119.mono e122;have h42:=Bi e122.g h42;have o117:=o117.mono e122;refine lK (Er:=Er) o117 (bO (bt (x:=Bu "zos") (l:=[122,111,115]) (gF _ _ (by decide +kernel))) (i5 (bt (x:=Bu "szo") (l:=[115,122,111]) (gF _ _ (by decide +kernel)))<|bI (fG o117) ag)) ag<|(Bj hq).imp fun y133 hq W129 mu130 o131=>?_;have E0:=mu130.e _ E0 fr89;have hB31:=hB31.trans mu130.g;have hs126:=hs126.trans mu130.g;have o119:=mu130.ow ne88 o119;have h42:=Bi mu130.g h42;exact hN125 y133 W129 _ hs126 ⟨rfl,E0,o131,o119⟩ hq
      ·intro W121 N124 e122 hN125 hq;have hs134:=e122.g;have E0:=E0.trans e122;have hB31:=hB31.trans e122.g;have o119:=o119.mono e122;have h42:=Bi e122.g h42;have o117:=o117.mono e122
       try dsimp only[aA]
       exact hN125 s110 W121 _ hs134 ⟨rfl,E0,o117,o119⟩ hq
      ·intro s135 W136 sg137 hS138 iv hq;obtain⟨rfl,E0,o142,o143⟩:=iv;have hB31:=hB31.trans hS138;have h42:=Bi hS138 h42;obtain⟨W144,hH145,E0,hS146,h148,hk147⟩:=o142.frz E0 fr89;rw[<-hH145];have hB31:=hB31.trans hS146;have o143:=o143.keep (by rw[hH145]) hS146<|hk147 _ ne88;have h42:=Bi hS146 h42;refine gX (Er:=Er) o143 (sQ (Gi (eD (jz (fJ<|aN h148)<|fJ<|DD<|fI<|bj ag<|bj ag<|bj ag<|fH (R:=isI)) fun W151 a149 v150 e152 h153 Q161 k162=>by
        refine lJ h153 fun v154 v156 h155 h157=>?_;cases h155;cases h157;exact⟨by simp[Keep,bR],((p4 (aw (bL (aj (fun _=>by decide) (oZ aW aW)) ag)) dY (bt (x:=Bu "?") (l:=[63]) (gF _ _ (by decide +kernel)))):EV Er _ [some (.str (sOf a149.1)),some (.int a149.2),some (.int s75)] _ _ _) _ (.refl _) _ k162⟩))) ((Bj hq).imp fun y167 hq W164 mu165 o166=>?_)
       have E0:=mu165.e _ E0 fr6;have hB31:=hB31.trans mu165.g;have h42:=Bi mu165.g h42;have h148:=Bi mu165.g h148
       try dsimp only
       refine bY (W:=W164) y167 hB31 ?_ hq;exact⟨_,_,_,_,rfl,E0,o166⟩
  ·intro s169 W170 sg171 hS172 iv hq;obtain⟨d20,d21,d22,d23,rfl,E0,o19⟩:=iv;exact⟨.ref p3,rfl,hq p3 W170 E0 fr6 o19⟩
theorem AO{f:Addr}{fd:C4}(F:Fun K "_law_turnover" "_law_turnover" (tp 37) f fd):FnOk P w K mg base CX0 (1) f fd ["_law_card_here"] (ei (qA K) (rs<|qA K)<|zR):=by
 have SC:FnScope ["_law_card_here","_law_holes_here"] ["_law_card_here"] (defScope<|tp 37):=by walk_at "F"
 refine F.ok SC (fun vs H Q E h=>?_)<|fun cdv A outer s H vs Q E hr h=>?_;·obtain⟨_,_,_,_,rfl,_⟩:=h;rfl
 ·obtain⟨W0,Z02,Z06,rfl,rfl,Z00,Er,hq⟩:=h;refine⟨_,(af (cP 1<|ar (aM (K:=K) rfl) (pv 0) aa<|fun _ _=>rfl)
   (ah (aB (bW (a5 (ar bN bq (ft (K:=K) rfl rfl bq (a5 (ar (aM (K:=K) rfl) (pv 0) aa (fun _ _=>rfl)) ae)) (fun _ _=>rfl)) (a5 (ai dJ (ai dJ (ai dJ (ar bN (pv 1) aa (fun _ _=>rfl)) (ar bN (pv 1) aa (fun _ _=>rfl))) (ar bN (pv 1) aa (fun _ _=>rfl))) (ar bN (pv 1) aa (fun _ _=>rfl))) (a5 (ai av (ai dH aa (ar (aM (K:=K) rfl) (pv 0) aa (fun _ _=>rfl))) aa) ae))))))),?_⟩
  have E0:Ext W0 W0:=.refl W0;unfold zR at hq;refine au (Er:=Er) (aZ (f:=fun(b:Cd)=>b.2.1) iY<|aN Z00)<|fun v3 W1 e2 h4=>?_;cases h4;have E0:=E0.trans e2;have Z00:=Bi e2.g Z00;exact aT (Er:=Er) (d9 (K:=K) (bO (bt (x:=Bu "ZS") (l:=[90,83]) (gF _ _ (by decide +kernel))) (i5 (bt (x:=Bu "SZ") (l:=[83,90]) (gF _ _ (by decide +kernel)))<|aZ (f:=fun(b:Cd)=>b.1) lH<|aN Z00)) (gy (gy (gy (bO dY ag)<|bO dY ag)<|bO dY ag)<|bO dY ag) (aj (fun _=>by decide)<|aJ ag<|aZ (f:=fun(b:Cd)=>b.2.2) jw<|aN Z00))<|Cn hq fun y14 hq v15 W16 e17 h18=>hq v15 W16 (E0.trans e17) h18
theorem AQ{f:Addr}{fd:C4}(F:Fun K "_law_back" "_law_back" (tp 38) f fd):FnOk P w K mg base CX0 (1) f fd ["_law_turns_here"] (ei isS (rs isS)<|zS):=by
 have SC:FnScope ["_law_turns_here"] ["_law_turns_here"] (defScope<|tp 38):=by walk_at "F"
 refine F.ok SC (fun vs H Q E h=>?_)<|fun cdv A outer s H vs Q E hr h=>?_;·obtain⟨_,_,_,_,rfl,_⟩:=h;rfl
 ·obtain⟨W0,Z09,_,rfl,rfl,Z0D,Er,hq⟩:=h;cases Z0D;refine⟨_,(ah (aB (jC (K:=K) rfl bq (a5 (eT (N:=["_law_turn"]) (cap:=[none]) (iV rfl (by decide +kernel) rfl (by decide +kernel) (by rfl) (by rfl)) rfl (jn<|pv 0) (fun _ _ _ _=>(bQ (i:=0) (show DA (["_law_turn"]:List Str) by decide +kernel) rfl (by walk_at "L"))) (fun _ _ _ _=>du)<|fun _ _ _ _=>(ar bN bq (ft (K:=K) rfl rfl bq<|a5 (pv 0) ae)<|fun _ _=>rfl)) ae)))),?_⟩;have E0:Ext W0 W0:=.refl W0;rw[show L2.start ["_law_turns_here"] [.str (sOf Z09)]=[some (.str<|sOf Z09)]from rfl];unfold zS at hq;exact aT (Er:=Er) (lI (gF _ _ (by decide +kernel)) (Gi (eD (jy dY) fun W3 a1 v2 e4 h5 Q9 k10=>by
   cases h5;refine gn ?_;exact⟨by simp[Keep,bR],((bO (bt (x:=Bu "fib") (l:=[102,105,98]) (gF _ _ (by decide +kernel))) (i5 (bt (x:=Bu "bif") (l:=[98,105,102]) (gF _ _ (by decide +kernel))) dY)):EV Er _ [some (.str (sOf a1))] _ _ _) _ (.refl _) _ k10⟩))) (Cn hq fun y12 hq v13 W14 e15 h16=>hq v13 W14 (E0.trans e15) h16)
theorem AR{f:Addr}{fd:C4}(F:Fun K "_law_roll" "_law_roll" (tp 39) f fd)(h_range:mg "range"=none):FnOk P w K mg base CX0 (1) f fd ["_law_card_here","_law_many"] (bJ (qA K) isI (rs<|qA K)<|zT):=by
 have SC:FnScope ["_law_card_here","_law_many","_law_holes_here"] ["_law_card_here","_law_many"] (defScope<|tp 39):=by walk_at "F"
 refine F.ok SC (fun vs H Q E h=>?_)<|fun cdv A outer s H vs Q E hr h=>?_;·obtain⟨_,_,_,_,_,_,rfl,_⟩:=h;rfl
 ·obtain⟨W0,Z02,Z0u,Z06,_,rfl,rfl,Z00,Z23,Er,hq⟩:=h;cases Z23
  refine⟨_,(af (cP 2 (jC (K:=K) rfl bq (a5 (eT (N:=["_law_k","_law_card_here","_law_many"]) (cap:=[none,some 0,some 1]) (iV rfl (by decide +kernel) rfl (by decide +kernel) (by rfl) (by rfl)) rfl (gu rfl h_range<|a5 aa ae) (fun _ _ _ _=>(bQ (i:=0) (show DA (["_law_k","_law_card_here","_law_many"]:List Str) by decide +kernel) rfl (by walk_at "L"))) (fun _ _ _ _=>du)<|fun _ _ _ _=>(ar bN (ar (aM (K:=K) rfl) (pv 1) aa<|fun _ _=>rfl) (ai av (ai dH (pv 0)<|pv 2) aa)<|fun _ _=>rfl)) ae)))
   (ah (aB (bW (a5 (ar (aM (K:=K) rfl) (pv 0) aa (fun _ _=>rfl)) (a5 (pv 2) (a5 (ai av (ai bg (ar (aM (K:=K) rfl) (pv 0) aa (fun _ _=>rfl)) (pv 1)) aa) ae))))))),?_⟩
  have E0:Ext W0 W0:=.refl W0;rw[show L2.start ["_law_card_here","_law_many","_law_holes_here"] [Z06,.int Z0u]=[some Z06,some<|.int Z0u,none]from rfl];unfold zT at hq;refine au (Er:=Er) (lI (gF _ _ (by decide +kernel)) (Gi (eD (i7 ag) fun W5 a3 v4 e6 h7 Q11 k12=>by
   have h8:=C0 (R:=sh (qA K)) e6 Z00;cases h7;refine gn ?_;exact⟨by simp[Keep,bR],((bO (aZ (f:=fun(b:Cd)=>b.2.1) iY (aN h8)) (aj (fun _=>by decide) (aJ aW aW))):EV Er _ [some (.int a3),some Z06,some (.int Z0u)] _ _ _) _ (.refl _) _ k12⟩))) ((Bj hq).imp fun y15 hq v16 W1 e2 h17=>?_)
  cases h17;have E0:=E0.trans e2;have Z00:=Bi e2.g Z00;exact aT (Er:=Er) (d9 (K:=K) (aZ (f:=fun(b:Cd)=>b.1) lH<|aN Z00) dY (aj (fun _=>by decide)<|aJ (aZ (f:=fun(b:Cd)=>b.2.2) jw<|aN Z00) aW))<|fun v18 W19 e20 h21=>hq v18 W19 (E0.trans e20) h21
theorem AS{f:Addr}{fd:C4}(F:Fun K "_law_seen" "_law_seen" (tp 40) f fd){je:Cd->Tx->Res Cd}(Z0P:Cal P w K mg base "_law_behind" ["_law_card_here","_law_turn"] (2) (bJ (qA K) isS (rs<|qA K) je))(h_sorted:mg "sorted"=none):FnOk P w K mg base CX0 (3) f fd ["_law_card_here","_law_turns_here"] (bJ (qA K) isS (ro isI)<|zU je):=by
 have SC:FnScope ["_law_card_here","_law_turns_here","_law_out","_law_turn","_law_hole"] ["_law_card_here","_law_turns_here"] (defScope<|tp 40):=by walk_at "F"
 refine F.ok SC (fun vs H Q E h=>?_)<|fun cdv A outer s H vs Q E hr h=>?_;·obtain⟨_,_,_,_,_,_,rfl,_⟩:=h;rfl
 ·obtain⟨W0,Z02,Z09,Z06,_,rfl,rfl,Z00,Z0D,Er,hq⟩:=h;cases Z0D;refine⟨_,(af (cP 2<|cb ae)
   (af (bS C5 rfl (jn<|pv 1) (ff 3) (af (cP 0<|df Z0P<|a5 (pv 0)<|a5 (pv 3) ae)
   (ah (bS C5 rfl (bG (K:=K) rfl (cb (a5 (ar (aM (K:=K) rfl) (pv 0) aa (fun _ _=>rfl)) (a5 (ai av (ai bg (ar (aM (K:=K) rfl) (pv 0) aa (fun _ _=>rfl)) aa) aa) ae)))) (ff 4) (ah (aX (aq (gM (K:=K) rfl) (pv 4) (pv 2) (by with_unfolding_all rfl)) (ah (d6 (cS (K:=K) rfl (pv 2) (a5 (pv 4) ae)))) az))))))
   (ah (aB (ao (lG (K:=K) rfl) (by rfl) h_sorted GZ (a5 (pv 2) ae)))))),?_⟩
  have E0:Ext W0 W0:=.refl W0;unfold zU at hq;refine dg (Er:=Er) (eU (R:=isI))<|fun p3 W1 e2 hp4 o5=>?_;have fr6:=none_of E0.h hp4;have E0:=E0.trans e2;have Z00:=Bi e2.g Z00;refine cR (Er:=Er) (f:=(zq je)) (s0:=(Z02,([]:List Int))) (Iv:=fun(s9:(Cd×(List Int)))(W10:Wd)(g11:St)=>∃(v12:V)(d15:Option V)(d16:Option V),g11=[some v12,some<|.str<|sOf Z09,some<|.ref p3,d16,d15]/\Ext W0 W10/\(qA K) W10.G s9.1 v12/\Ow isI W10 p3 s9.2) (jy dY) (Bj hq) ?_ ?_ ?_
  ·intro W28 e29;have E0:=E0.trans e29;have Z00:=Bi e29.g Z00;have o5:=o5.mono e29;exact⟨_,_,_,rfl,E0,Z00,o5⟩
  ·intro Wb17 W18 W19 a7 v20 s8 sg21 P22 hW23 hB24 iv e25 h26 hq;obtain⟨v12,d15,d16,rfl,E0,h13,o14⟩:=iv;have E0:=E0.trans e25;have hB24:=hB24.trans e25.g;have o14:=o14.mono e25;have h13:=Bi e25.g h13;cases h26;refine gn (σ':=[some v12,some<|.str<|sOf Z09,some<|.ref p3,some<|.str<|sOf a7,d15]) ?_;unfold zq at hq;refine au (Er:=Er) (aU (aN h13) dY)<|(Bj hq).imp fun y34 hq v35 W32 e33 h36=>?_;have E0:=E0.trans e33;have hB24:=hB24.trans e33.g;have o14:=o14.mono e33;refine lL (Er:=Er) (f:=yq) (s0:=s8.2) (Iv:=fun(s39:(List Int))(W40:Wd)(g41:St)=>∃(d43:Option V),g41=[some v35,some<|.str<|sOf Z09,some<|.ref p3,some<|.str<|sOf a7,d43]/\Ext W0 W40/\Ow isI W40 p3 s39) (bU (DD (fI (bj (aZ (f:=fun(b:Cd)=>b.2.2) jw<|aN h36) (bj (aj (fun _=>by decide)<|aJ (aZ (f:=fun(b:Cd)=>b.2.2) jw<|aN h36) ag)<|fH (R:=isI)))))) (Bj hq) ?_ ?_ ?_
   ·intro W55 e56;have E0:=E0.trans e56;have hB24:=hB24.trans e56.g;have o14:=o14.mono e56;have h36:=Bi e56.g h36;exact⟨_,rfl,E0,o14⟩
   ·intro Wb44 W45 W46 a37 v47 s38 sg48 P49 hW50 hB51 iv e52 h53 hq;obtain⟨d43,rfl,E0,o42⟩:=iv;have hB24:=hB24.trans hW50;have h36:=Bi hW50 h36;have E0:=E0.trans e52;have hB24:=hB24.trans e52.g;have hB51:=hB51.trans e52.g;have o42:=o42.mono e52;have h36:=Bi e52.g h36;cases h53;refine gn (σ':=[some v35,some<|.str<|sOf Z09,some<|.ref p3,some<|.str<|sOf a7,some<|.int a37]) ?_;unfold yq at hq;refine iG (Er:=Er) (Iv:=fun(s74:(List Int))(W75:Wd)(g76:St)=>g76=[some v35,some<|.str<|sOf Z09,some<|.ref p3,some<|.str<|sOf a7,some<|.int a37]/\Ext W0 W75/\Ow isI W75 p3 s74) (aw<|jA aW<|fG o42) (Bj hq) ?_ ?_ ?_
    ·intro W59 N62 e60 hN63 hq;have hs64:=e60.g;have E0:=E0.trans e60;have hB24:=hB24.trans e60.g;have hB51:=hB51.trans e60.g;have o42:=o42.mono e60;have h36:=Bi e60.g h36;refine gX (Er:=Er) o42 aW<|(Bj hq).imp fun y68 hq W65 mu66 o67=>?_;have E0:=mu66.e _ E0 fr6;have hB24:=hB24.trans mu66.g;have hB51:=hB51.trans mu66.g;have hs64:=hs64.trans mu66.g;have h36:=Bi mu66.g h36;exact hN63 y68 W65 _ hs64 ⟨rfl,E0,o67⟩ hq
    ·intro W59 N62 e60 hN63 hq;have hs69:=e60.g;have E0:=E0.trans e60;have hB24:=hB24.trans e60.g;have hB51:=hB51.trans e60.g;have o42:=o42.mono e60;have h36:=Bi e60.g h36
     try dsimp only[aA]
     exact hN63 s38 W59 _ hs69 ⟨rfl,E0,o42⟩ hq
    ·intro s70 W71 sg72 hS73 iv hq;obtain⟨rfl,E0,o77⟩:=iv;have hB24:=hB24.trans hS73;have hB51:=hB51.trans hS73;have h36:=Bi hS73 h36
     try dsimp only
     refine bY (W:=W71) s70 hB51 ?_ hq;exact⟨_,rfl,E0,o77⟩
   ·intro s78 W79 sg80 hS81 iv hq;obtain⟨d43,rfl,E0,o42⟩:=iv;have hB24:=hB24.trans hS81;have h36:=Bi hS81 h36
    try dsimp only
    refine bY (W:=W79) (y34,s78) hB24 ?_ hq;exact⟨_,_,_,rfl,E0,h36,o42⟩
  ·intro s82 W83 sg84 hS85 iv hq;obtain⟨v12,d15,d16,rfl,E0,h13,o14⟩:=iv;exact p7 (Er:=Er) (sS<|fG o14)<|Cn hq fun y86 hq p87 W88 e89 hp90 o91=>hq p87 W88 (E0.trans e89) (none_of E0.h hp90) o91
theorem AU{f:Addr}{fd:C4}(F:Fun K "_law_kin" "_law_kin" (tp 41) f fd){vX:Cd->Res Cd}{vY:Tx->Res Tx}{vZ:Cd->Int->Res Cd}{w4:Cd->Tx->Res (List Int)}(Z1C:Cal P w K mg base "_law_turnover" ["_law_card_here"] (1) (ei (qA K) (rs<|qA K) vX))(Z2n:Cal P w K mg base "_law_back" ["_law_turns_here"] (1) (ei isS (rs isS) vY))(Z2o:Cal P w K mg base "_law_roll" ["_law_card_here","_law_many"] (1) (bJ (qA K) isI (rs<|qA K) vZ))(Z2p:Cal P w K mg base "_law_seen" ["_law_card_here","_law_turns_here"] (3) (bJ (qA K) isS (ro isI) w4))(h_range:mg "range"=none):FnOk P w K mg base CX0 (4) f fd ["_law_card_here","_law_turns_here","_law_cell"] (fe (qA K) isS isI (rs<|isT2 K (qA K) isS)<|zV vX vY vZ w4):=by
 have SC:FnScope ["_law_card_here","_law_turns_here","_law_cell","_law_known","_law_hole","_law_colour"] ["_law_card_here","_law_turns_here","_law_cell"] (defScope<|tp 41):=by walk_at "F"
 refine F.ok SC (fun vs H Q E h=>?_)<|fun cdv A outer s H vs Q E hr h=>?_;·obtain⟨_,_,_,_,_,_,_,_,rfl,_⟩:=h;rfl
 ·obtain⟨W0,Z02,Z09,Z03,Z06,_,_,rfl,rfl,Z00,Z0D,Z0x,Er,hq⟩:=h;cases Z0D;cases Z0x;refine⟨_,(af (aX (aq bE (ai av (pv 2) aa) aa<|ay _) (af (cP 0<|df Z1C<|a5 (pv 0) ae)
   (ah (cP 1 (df Z2n (a5 (pv 1) ae))))) az)
   (af (cP 0<|df Z2o<|a5 (pv 0)<|a5 (ai av (ai aQ (pv 2) aa) aa) ae)
   (af (aX (aq bE (ai av (ai aQ (pv 2) aa) aa) aa<|ay _) (af (cP 3<|df Z2p<|a5 (pv 0)<|a5 (pv 1) ae)
   (ah (bS C5 rfl (gu rfl h_range<|a5 aa ae) (ff 4) (ah (aX (aq (gM (K:=K) rfl) (pv 4) (pv 3) (by with_unfolding_all rfl)) (af (cP 5<|ar bN bq (ai av (ai bg (ai aQ (pv 2) aa)<|ai eI aa<|pv 4) aa)<|fun _ _=>rfl)
   (ah (cP 0 (bW (a5 (ar (aM (K:=K) rfl) (pv 0) aa (fun _ _=>rfl)) (a5 (ai dJ (ai dJ (fj se (ar (aM (K:=K) rfl) (pv 0) aa (fun _ _=>rfl)) gv (fC (pv 4))) (pv 5)) (fj se (ar (aM (K:=K) rfl) (pv 0) aa (fun _ _=>rfl)) (fC (ai bg (pv 4) aa)) gv)) (a5 (ar (aM (K:=K) rfl) (pv 0) aa (fun _ _=>rfl)) ae))))))) az))))) az)
   (ah (aB (bW (a5 (pv 0) (a5 (pv 1) ae)))))))),?_⟩
  have E0:Ext W0 W0:=.refl W0;unfold zV at hq;refine bf (Er:=Er) (Iv:=fun(s22:(Cd×Tx))(W23:Wd)(g24:St)=>∃(v25:V),g24=[some v25,some<|.str<|sOf s22.2,some<|.int Z03,none,none,none]/\Ext W0 W23/\(qA K) W23.G s22.1 v25) (aw (bL (aj (fun _=>by decide) aW) ag)) (Bj hq) ?_ ?_ ?_
  ·intro W1 N4 e2 hN5 hq;have hs6:=e2.g;have E0:=E0.trans e2;have Z00:=Bi e2.g Z00;refine au (Er:=Er) (d4<|aN Z00)<|(Bj hq).imp fun y9 hq v10 W7 e8 h11=>?_;have E0:=E0.trans e8;have hs6:=hs6.trans e8.g;refine cg (Er:=Er) (d4 dY)<|(Bj hq).imp fun y14 hq v15 W12 e13 h16=>?_;cases h16;have E0:=E0.trans e13;have hs6:=hs6.trans e13.g;have h11:=Bi e13.g h11;exact hN5 (y9,y14) W12 _ hs6 ⟨_,rfl,E0,h11⟩ hq
  ·intro W1 N4 e2 hN5 hq;have hs17:=e2.g;have E0:=E0.trans e2;have Z00:=Bi e2.g Z00
   try dsimp only[aA]
   exact hN5 (Z02,Z09) W1 _ hs17 ⟨_,rfl,E0,Z00⟩ hq
  ·intro s18 W19 sg20 hS21 iv hq;obtain⟨v25,rfl,E0,h26⟩:=iv;refine au (Er:=Er) (aU (aN h26) (aj (fun _=>by decide) (aj (fun _=>⟨by decide,by decide⟩) aW)))<|(Bj hq).imp fun y29 hq v30 W27 e28 h31=>?_;have E0:=E0.trans e28;refine bf (Er:=Er) (Iv:=fun(s111:Cd)(W112:Wd)(g113:St)=>∃(v114:V)(d116:Option V)(d117:Option V)(d118:Option V),g113=[some v114,some<|.str<|sOf s18.2,some<|.int Z03,d116,d117,d118]/\Ext W0 W112/\(qA K) W112.G s111 v114) (aw (bL (aj (fun _=>by decide) (aj (fun _=>⟨by decide,by decide⟩) aW)) ag)) (Bj hq) ?_ ?_ ?_
   ·intro W32 N35 e33 hN36 hq;have hs37:=e33.g;have E0:=E0.trans e33;have h31:=Bi e33.g h31;refine au (Er:=Er) (DD<|iE (aN h31) dY)<|(Bj hq).imp fun y40 hq v41 W38 e39 h42=>?_;have E0:=E0.trans e39;have hs37:=hs37.trans e39.g;have h31:=Bi e39.g h31;refine lL (Er:=Er) (f:=(yr Z03 y40)) (s0:=y29) (Iv:=fun(s45:Cd)(W46:Wd)(g47:St)=>∃(v48:V)(d50:Option V)(d51:Option V),g47=[some v48,some<|.str<|sOf s18.2,some<|.int Z03,some v41,d51,d50]/\Ext W0 W46/\(qA K) W46.G s45 v48) (i7 ag) (Bj hq) ?_ ?_ ?_
    ·intro W63 e64;have E0:=E0.trans e64;have hs37:=hs37.trans e64.g;have h31:=Bi e64.g h31;have h42:=Bi e64.g h42;exact⟨_,_,_,rfl,E0,h31⟩
    ·intro Wb52 W53 W54 a43 v55 s44 sg56 P57 hW58 hB59 iv e60 h61 hq;obtain⟨v48,d50,d51,rfl,E0,h49⟩:=iv;have hs37:=hs37.trans hW58;have h42:=Bi hW58 h42;have E0:=E0.trans e60;have hs37:=hs37.trans e60.g;have hB59:=hB59.trans e60.g;have h42:=Bi e60.g h42;have h49:=Bi e60.g h49;cases h61;refine gn (σ':=[some v48,some<|.str<|sOf s18.2,some<|.int Z03,some v41,some<|.int a43,d50]) ?_;unfold yr at hq;refine iG (Er:=Er) (Iv:=fun(s95:Cd)(W96:Wd)(g97:St)=>∃(v98:V)(d100:Option V),g97=[some v98,some<|.str<|sOf s18.2,some<|.int Z03,some v41,some<|.int a43,d100]/\Ext W0 W96/\(qA K) W96.G s95 v98) (aw<|jA aW<|Dk<|aN h42) (Bj hq) ?_ ?_ ?_
     ·intro W67 N70 e68 hN71 hq;have hs72:=e68.g;have E0:=E0.trans e68;have hs37:=hs37.trans e68.g;have hB59:=hB59.trans e68.g;have h42:=Bi e68.g h42;have h49:=Bi e68.g h49;refine au (Er:=Er) (bO (bt (x:=Bu "abcdefghijklmnopqrstuvwxyz") (l:=[97,98,99,100,101,102,103,104,105,106,107,108,109,110,111,112,113,114,115,116,117,118,119,120,121,122]) (gF _ _ (by decide +kernel))) (aj (fun _=>by decide) (aJ (aj (fun _=>⟨by decide,by decide⟩) aW)<|iD ag aW)))<|(Bj hq).imp fun y78 hq v79 W73 e74 h80=>?_;cases h80;have E0:=E0.trans e74;have hs37:=hs37.trans e74.g;have hB59:=hB59.trans e74.g;have hs72:=hs72.trans e74.g;have h42:=Bi e74.g h42;have h49:=Bi e74.g h49;refine cg (Er:=Er) (d9 (K:=K) (aZ (f:=fun(b:Cd)=>b.1) lH<|aN h49) (gy (gy (p5 (aZ (f:=fun(b:Cd)=>b.2.1) iY<|aN h49) kP<|kQ aW) dY)<|p5 (aZ (f:=fun(b:Cd)=>b.2.1) iY<|aN h49) (kQ<|aJ aW ag) kP)<|aZ (f:=fun(b:Cd)=>b.2.2) jw<|aN h49)<|(Bj hq).imp fun y87 hq v88 W81 e82 h89=>?_;have E0:=E0.trans e82;have hs37:=hs37.trans e82.g;have hB59:=hB59.trans e82.g;have hs72:=hs72.trans e82.g;have h42:=Bi e82.g h42;exact hN71 y87 W81 _ hs72 ⟨_,_,rfl,E0,h89⟩ hq
     ·intro W67 N70 e68 hN71 hq;have hs90:=e68.g;have E0:=E0.trans e68;have hs37:=hs37.trans e68.g;have hB59:=hB59.trans e68.g;have h42:=Bi e68.g h42;have h49:=Bi e68.g h49
      try dsimp only[aA]
      exact hN71 s44 W67 _ hs90 ⟨_,_,rfl,E0,h49⟩ hq
     ·intro s91 W92 sg93 hS94 iv hq;obtain⟨v98,d100,rfl,E0,h99⟩:=iv;have hs37:=hs37.trans hS94;have hB59:=hB59.trans hS94;have h42:=Bi hS94 h42
      try dsimp only
      refine bY (W:=W92) s91 hB59 ?_ hq;exact⟨_,_,_,rfl,E0,h99⟩
    ·intro s102 W103 sg104 hS105 iv hq;obtain⟨v48,d50,d51,rfl,E0,h49⟩:=iv;have hs37:=hs37.trans hS105;exact hN36 s102 W103 _ hs37 ⟨_,_,_,_,rfl,E0,h49⟩ hq
   ·intro W32 N35 e33 hN36 hq;have hs106:=e33.g;have E0:=E0.trans e33;have h31:=Bi e33.g h31
    try dsimp only[aA]
    exact hN36 y29 W32 _ hs106 ⟨_,_,_,_,rfl,E0,h31⟩ hq
   ·intro s107 W108 sg109 hS110 iv hq;obtain⟨v114,d116,d117,d118,rfl,E0,h115⟩:=iv;exact aT (Er:=Er) (eB (K:=K) (aN h115) dY)<|fun v119 W120 e121 h122=>hq v119 W120 (E0.trans e121) h122
theorem AW{f:Addr}{fd:C4}(F:Fun K "_law_case" "_law_case" (tp 42) f fd){uR:Int->Res Cd}{fP:List Int->Int->Res Int}{vT:Int->Int->Res Tx}{vU:Cd->Tx->Res (List Pl)}{vV:(List Pl)->Int->Res (List Pl)}{vW:(List Pl)->Int->Bool->Res (List Pl)}{w5:Cd->Tx->Int->Res (Cd×Tx)}(Z1Q:Cal P w K mg base "_law_card" ["_law_cell"] (3) (ei isI (rs<|qA K) uR))(Z0t:Cal P w K mg base "_law_at" ["_law_script","_law_k"] (1) (bJ (isScr K) isI (rs isI) fP))(Z26:Cal P w K mg base "_law_turns" ["_law_cell","_law_many"] (2) (bJ isI isI (rs isS) vT))(Z1U:Cal P w K mg base "_law_places" ["_law_card_here","_law_turns_here"] (3) (bJ (qA K) isS (ro<|qB K) vU))(Z2q:Cal P w K mg base "_law_long" ["_law_places_here","_law_cell"] (2) (bJ (qD K) isI (ro<|qB K) vV))(Z27:Cal P w K mg base "_law_marks" ["_law_places_here","_law_cell","_law_lies"] (2) (fe (qD K) isI isB (ro<|qB K) vW))(Z2W:Cal P w K mg base "_law_kin" ["_law_card_here","_law_turns_here","_law_cell"] (4) (fe (qA K) isS isI (rs<|isT2 K (qA K) isS) w5)):FnOk P w K mg base CX0 (5) f fd ["_law_script","_law_most"] (bJ (isScr K) isI (rs<|isT3 K (qA K) (qD K) isI)<|zW uR fP vT vU vV vW w5):=by
 have SC:FnScope ["_law_script","_law_most","_law_card_here","_law_size","_law_cell","_law_many","_law_turns_here","_law_places_here","_law_strip","_law_side"] ["_law_script","_law_most"] (defScope<|tp 42):=by walk_at "F"
 refine F.ok SC (fun vs H Q E h=>?_)<|fun cdv A outer s H vs Q E hr h=>?_;·obtain⟨_,_,_,_,_,_,rfl,_⟩:=h;rfl
 ·obtain⟨W0,Z0d,Z1r,Z0v,_,rfl,rfl,Z01,Z4l,Er,hq⟩:=h;cases Z4l;refine⟨_,(af (cP 2<|df Z1Q<|a5 (df Z0t<|a5 (pv 0)<|a5 aa ae) ae)
   (af (cP 3<|df Z0t<|a5 (pv 0)<|a5 aa ae)
   (af (cP 4<|df Z0t<|a5 (pv 0)<|a5 aa ae)
   (af (cP 5<|ai av (pv 3)<|ai bg (pv 1) aa)
   (af (aX (aq bE (ai av (ai aQ (pv 3) aa) aa) aa<|ay _) (ah<|cP 5<|ai bg aa<|ai av (ai aQ (pv 3) aa) aa) az)
   (af (aX (aq bE (ai av (ai aQ (pv 3) aa) aa) aa<|ay _) (ah<|cP 5<|ai bg aa<|ai av (ai aQ (pv 3) aa) aa) az)
   (af (cP 6<|df Z26<|a5 (df Z0t<|a5 (pv 0)<|a5 aa ae)<|a5 (pv 5) ae)
   (af (cP 7<|df Z1U<|a5 (pv 2)<|a5 (pv 6) ae)
   (af (aX (aq gK (pv 5) (pv 1)<|ay _) (ah<|cP 8<|df Z2q<|a5 (pv 7)<|a5 (pv 4) ae)<|ah<|cP 8<|df Z27<|a5 (pv 7)<|a5 (ai aQ (pv 4) aa)<|a5 (cV bE (ai av (pv 4) aa) aa<|ay _) ae)
   (af (cP 9<|ai aQ (df Z0t<|a5 (pv 0)<|a5 aa ae) aa)
   (af (aX (aq bE (ai av (pv 9) aa) aa<|ay _) (ah<|cP 2<|ar (aM (K:=K) rfl) (df Z2W<|a5 (pv 2)<|a5 (pv 6)<|a5 (ai aQ (pv 9) aa) ae) aa<|fun _ _=>rfl) az)
   (af (aX (aq bE (ai av (pv 9) aa) aa<|ay _) (ah<|cP 2<|df Z1Q<|a5 (ai aQ (pv 9) aa) ae) az)
   (ah (aB (bW (a5 (pv 2) (a5 (pv 8) (a5 (ai av (df Z0t (a5 (pv 0) (a5 aa ae))) aa) ae)))))))))))))))))),?_⟩
  have E0:Ext W0 W0:=.refl W0;unfold zW at hq;refine au (Er:=Er) (d4<|aU (aN Z01) ag)<|(Bj hq).imp fun y4 hq v5 W1 e2 h6=>?_;have E0:=E0.trans e2;have Z01:=Bi e2.g Z01;refine au (Er:=Er) (aU (aN Z01) ag)<|(Bj hq).imp fun y9 hq v10 W7 e8 h11=>?_;cases h11;have E0:=E0.trans e8;have Z01:=Bi e8.g Z01;have h6:=Bi e8.g h6;refine au (Er:=Er) (aU (aN Z01) ag)<|(Bj hq).imp fun y14 hq v15 W12 e13 h16=>?_;cases h16;have E0:=E0.trans e13;have Z01:=Bi e13.g Z01;have h6:=Bi e13.g h6;refine au (Er:=Er) (fc aW<|aJ aW ag)<|(Bj hq).imp fun y19 hq v20 W17 e18 h21=>?_;cases h21;have E0:=E0.trans e18;have Z01:=Bi e18.g Z01;have h6:=Bi e18.g h6;refine bf (Er:=Er) (Iv:=fun(s37:Int)(W38:Wd)(g39:St)=>g39=[some Z0v,some<|.int Z1r,some v5,some<|.int y9,some<|.int y14,some<|.int s37,none,none,none,none]/\Ext W0 W38) (aw (bL (aj (fun _=>by decide) (aj (fun _=>⟨by decide,by decide⟩) aW)) ag)) (Bj hq) ?_ ?_ ?_
  ·intro W22 N25 e23 hN26 hq;have hs27:=e23.g;have E0:=E0.trans e23;have Z01:=Bi e23.g Z01;have h6:=Bi e23.g h6;refine cg (Er:=Er) (aJ ag (aj (fun _=>by decide) (aj (fun _=>⟨by decide,by decide⟩) aW)))<|fun v30 W28 e29 h31=>?_;cases h31;have E0:=E0.trans e29;have hs27:=hs27.trans e29.g;have Z01:=Bi e29.g Z01;have h6:=Bi e29.g h6;exact hN26 ((25:Int)+((y9/78)%36)) W28 _ hs27 ⟨rfl,E0⟩ hq
  ·intro W22 N25 e23 hN26 hq;have hs32:=e23.g;have E0:=E0.trans e23;have Z01:=Bi e23.g Z01;have h6:=Bi e23.g h6
   try dsimp only[aA]
   exact hN26 y19 W22 _ hs32 ⟨rfl,E0⟩ hq
  ·intro s33 W34 sg35 hS36 iv hq;obtain⟨rfl,E0⟩:=iv;have Z01:=Bi hS36 Z01;have h6:=Bi hS36 h6;refine bf (Er:=Er) (Iv:=fun(s55:Int)(W56:Wd)(g57:St)=>g57=[some Z0v,some<|.int Z1r,some v5,some<|.int y9,some<|.int y14,some<|.int s55,none,none,none,none]/\Ext W0 W56) (aw (bL (aj (fun _=>by decide) (aj (fun _=>⟨by decide,by decide⟩) aW)) ag)) (Bj hq) ?_ ?_ ?_
   ·intro W40 N43 e41 hN44 hq;have hs45:=e41.g;have E0:=E0.trans e41;have Z01:=Bi e41.g Z01;have h6:=Bi e41.g h6;refine cg (Er:=Er) (aJ ag (aj (fun _=>by decide) (aj (fun _=>⟨by decide,by decide⟩) aW)))<|fun v48 W46 e47 h49=>?_;cases h49;have E0:=E0.trans e47;have hs45:=hs45.trans e47.g;have Z01:=Bi e47.g Z01;have h6:=Bi e47.g h6;exact hN44 ((13:Int)+((y9/78)%12)) W46 _ hs45 ⟨rfl,E0⟩ hq
   ·intro W40 N43 e41 hN44 hq;have hs50:=e41.g;have E0:=E0.trans e41;have Z01:=Bi e41.g Z01;have h6:=Bi e41.g h6
    try dsimp only[aA]
    exact hN44 s33 W40 _ hs50 ⟨rfl,E0⟩ hq
   ·intro s51 W52 sg53 hS54 iv hq;obtain⟨rfl,E0⟩:=iv;have Z01:=Bi hS54 Z01;have h6:=Bi hS54 h6;refine au (Er:=Er) (aU (aU (aN Z01) ag) aW)<|(Bj hq).imp fun y61 hq v62 W58 e59 h63=>?_;cases h63;have E0:=E0.trans e59;have Z01:=Bi e59.g Z01;have h6:=Bi e59.g h6;refine au (Er:=Er) (DD<|iE (aN h6) dY)<|(Bj hq).imp fun y66 hq v67 W64 e65 h68=>?_;have E0:=E0.trans e65;have Z01:=Bi e65.g Z01;have h6:=Bi e65.g h6;refine bf (Er:=Er) (Iv:=fun(s90:(List Pl))(W91:Wd)(g92:St)=>∃(v93:V),g92=[some Z0v,some<|.int Z1r,some v5,some<|.int y9,some<|.int y14,some<|.int s51,some<|.str<|sOf y61,some v67,some v93,none]/\Ext W0 W91/\(qD K) W91.G s90 v93) (aw<|bT aW aW) (Bj hq) ?_ ?_ ?_
    ·intro W69 N72 e70 hN73 hq;have hs74:=e70.g;have E0:=E0.trans e70;have Z01:=Bi e70.g Z01;have h6:=Bi e70.g h6;have h68:=Bi e70.g h68;refine cg (Er:=Er) (DD<|iE (aN h68) aW)<|(Bj hq).imp fun y77 hq v78 W75 e76 h79=>?_;have E0:=E0.trans e76;have hs74:=hs74.trans e76.g;have Z01:=Bi e76.g Z01;have h6:=Bi e76.g h6;exact hN73 y77 W75 _ hs74 ⟨_,rfl,E0,h79⟩ hq
    ·intro W69 N72 e70 hN73 hq;have hs80:=e70.g;have E0:=E0.trans e70;have Z01:=Bi e70.g Z01;have h6:=Bi e70.g h6;have h68:=Bi e70.g h68;refine cg (Er:=Er) (DD (eE (aN h68) (aj (fun _=>⟨by decide,by decide⟩) aW) (bL (aj (fun _=>by decide) aW) ag)))<|(Bj hq).imp fun y83 hq v84 W81 e82 h85=>?_;have E0:=E0.trans e82;have hs80:=hs80.trans e82.g;have Z01:=Bi e82.g Z01;have h6:=Bi e82.g h6;exact hN73 y83 W81 _ hs80 ⟨_,rfl,E0,h85⟩ hq
    ·intro s86 W87 sg88 hS89 iv hq;obtain⟨v93,rfl,E0,h94⟩:=iv;have Z01:=Bi hS89 Z01;have h6:=Bi hS89 h6;refine au (Er:=Er) (aj (fun _=>⟨by decide,by decide⟩)<|aU (aN Z01) ag)<|(Bj hq).imp fun y98 hq v99 W95 e96 h100=>?_;cases h100;have E0:=E0.trans e96;have Z01:=Bi e96.g Z01;have h6:=Bi e96.g h6;have h94:=Bi e96.g h94;refine bf (Er:=Er) (Iv:=fun(s118:Cd)(W119:Wd)(g120:St)=>∃(v121:V),g120=[some Z0v,some<|.int Z1r,some v121,some<|.int y9,some<|.int y14,some<|.int s51,some<|.str<|sOf y61,some v67,some v93,some<|.int y98]/\Ext W0 W119/\(qA K) W119.G s118 v121) (aw (bL (aj (fun _=>by decide) aW) ag)) (Bj hq) ?_ ?_ ?_
     ·intro W101 N104 e102 hN105 hq;have hs106:=e102.g;have E0:=E0.trans e102;have Z01:=Bi e102.g Z01;have h6:=Bi e102.g h6;have h94:=Bi e102.g h94;refine cg (Er:=Er) (aZ (f:=fun(b:Cd×Tx)=>b.1) xF (jx (aN h6) dY (aj (fun _=>⟨by decide,by decide⟩) aW)))<|(Bj hq).imp fun y110 hq v111 W107 e108 h112=>?_;have E0:=E0.trans e108;have hs106:=hs106.trans e108.g;have Z01:=Bi e108.g Z01;have h94:=Bi e108.g h94;exact hN105 y110 W107 _ hs106 ⟨_,rfl,E0,h112⟩ hq
     ·intro W101 N104 e102 hN105 hq;have hs113:=e102.g;have E0:=E0.trans e102;have Z01:=Bi e102.g Z01;have h6:=Bi e102.g h6;have h94:=Bi e102.g h94
      try dsimp only[aA]
      exact hN105 y4 W101 _ hs113 ⟨_,rfl,E0,h6⟩ hq
     ·intro s114 W115 sg116 hS117 iv hq;obtain⟨v121,rfl,E0,h122⟩:=iv;have Z01:=Bi hS117 Z01;have h94:=Bi hS117 h94;refine bf (Er:=Er) (Iv:=fun(s139:Cd)(W140:Wd)(g141:St)=>∃(v142:V),g141=[some Z0v,some<|.int Z1r,some v142,some<|.int y9,some<|.int y14,some<|.int s51,some<|.str<|sOf y61,some v67,some v93,some<|.int y98]/\Ext W0 W140/\(qA K) W140.G s139 v142) (aw (bL (aj (fun _=>by decide) aW) ag)) (Bj hq) ?_ ?_ ?_
      ·intro W123 N126 e124 hN127 hq;have hs128:=e124.g;have E0:=E0.trans e124;have Z01:=Bi e124.g Z01;have h94:=Bi e124.g h94;have h122:=Bi e124.g h122;refine cg (Er:=Er) (d4 (aj (fun _=>⟨by decide,by decide⟩) aW))<|(Bj hq).imp fun y131 hq v132 W129 e130 h133=>?_;have E0:=E0.trans e130;have hs128:=hs128.trans e130.g;have Z01:=Bi e130.g Z01;have h94:=Bi e130.g h94;exact hN127 y131 W129 _ hs128 ⟨_,rfl,E0,h133⟩ hq
      ·intro W123 N126 e124 hN127 hq;have hs134:=e124.g;have E0:=E0.trans e124;have Z01:=Bi e124.g Z01;have h94:=Bi e124.g h94;have h122:=Bi e124.g h122
       try dsimp only[aA]
       exact hN127 s114 W123 _ hs134 ⟨_,rfl,E0,h122⟩ hq
      ·intro s135 W136 sg137 hS138 iv hq;obtain⟨v142,rfl,E0,h143⟩:=iv;have Z01:=Bi hS138 Z01;have h94:=Bi hS138 h94;exact aT (Er:=Er) (d9 (K:=K) (aN h143) (aN h94) (aj (fun _=>by decide)<|aU (aN Z01) ag))<|Cn hq fun y146 hq v147 W148 e149 h150=>hq v147 W148 (E0.trans e149) h150
theorem AX{f:Addr}{fd:C4}(F:Fun K "_law_next" "_law_next" (tp 43) f fd){iJ:Cd->Tx->Res Int}(Z10:Cal P w K mg base "_law_twist" ["_law_card_here","_law_turn"] (2) (bJ (qA K) isS (rs isI) iJ))(h_abs:mg "abs"=none)(h_int:mg "int"=none)(h_zip:mg "zip"=none):FnOk P w K mg base CX0 (3) f fd ["_law_card_here","_law_mark","_law_loose","_law_bound","_law_state"] (gW (qA K) (qB K) isI isI (qC K) (ro<|qC K)<|zX iJ):=by
 have SC:FnScope ["_law_card_here","_law_mark","_law_loose","_law_bound","_law_state","_law_out","_law_turn","_law_step","_law_now","_law_idle","_law_hole","_law_good","_law_sign","_law_left"] ["_law_card_here","_law_mark","_law_loose","_law_bound","_law_state"] (defScope<|tp 43):=by walk_at "F"
 refine F.ok SC (fun vs H Q E h=>?_)<|fun cdv A outer s H vs Q E hr h=>?_;·obtain⟨_,_,_,_,_,_,_,_,_,_,_,_,rfl,_⟩:=h;rfl
 ·obtain⟨W0,Z02,Z1A,Z0a,Z0b,Z0y,Z06,Z1E,_,_,Z1y,rfl,rfl,Z00,Z07,Z1S,Z1T,Z05,Er,hq⟩:=h;cases Z1S;cases Z1T;refine⟨_,(af (cP 5<|cb ae)
   (af (bS C5 rfl (jn bq) (ff 6) (af (cP 7<|df Z10<|a5 (pv 0)<|a5 (pv 6) ae)
   (af (cP 8<|ai bg (ar (aM (K:=K) rfl) (pv 4) aa<|fun _ _=>rfl)<|pv 7)
   (af (cP 9 (ai eI (ai bg (ar (aM (K:=K) rfl) (pv 4) aa<|fun _ _=>rfl) aa) (cC kF (by rfl) h_int EE<|a5 (cV bE (pv 6) bq<|ay _) ae)))
   (af (cP 10<|ai av (ai bg (ar (aM (K:=K) rfl) (pv 0) aa<|fun _ _=>rfl)<|pv 8) aa)
   (af (aX (aq bE (ar (aM (K:=K) rfl) (pv 0) aa<|fun _ _=>rfl) bq<|ay _) (ah<|cP 10<|ai av (ai dH (ar (aM (K:=K) rfl) (pv 0) aa<|fun _ _=>rfl)<|pv 8) aa) az)
   (af (cP 11 (iw (cV oQ (ao jj (by rfl) h_abs FI<|a5 (pv 8) ae) (pv 3)<|ay _)<|iu<|cV oQ (pv 9) (pv 2)<|ay _))
   (af (bS C5 rfl (gw (K:=K) rfl rfl h_zip<|a5 (bW<|a5 (ar bN (ar (aM (K:=K) rfl) (pv 0) aa<|fun _ _=>rfl) (pv 10)<|fun _ _=>rfl)<|a5 (ar bN (ar (aM (K:=K) rfl) (pv 0) aa<|fun _ _=>rfl) (ai av (ai bg (pv 10) aa) aa)<|fun _ _=>rfl)<|a5 (ar bN bq (ai bg (pv 7) aa)<|fun _ _=>rfl) ae)<|a5 (pv 1) ae) (cw (K:=K) (n:=2) rfl rfl<|aE (ff 12)<|aE (ff 13) cq)<|ah<|aX (FK<|dq (aq rQ (pv 13) bq<|ay _)<|d5<|aq rQ (pv 13) (pv 12)<|ay _) (ah<|cP 11 cM) az)
   (ah (aX (cE (pv 11)) (ah (d6 (cS (K:=K) rfl (pv 5) (a5 (bW (a5 (pv 8) (a5 (pv 9) ae))) ae)))) az))))))))))
   (ah (aB (pv 5))))),?_⟩
  have E0:Ext W0 W0:=.refl W0;unfold zX at hq;refine dg (Er:=Er) (eU (R:=(qC K)))<|fun p3 W1 e2 hp4 o5=>?_;have fr6:=none_of E0.h hp4;have E0:=E0.trans e2;have Z00:=Bi e2.g Z00;have Z07:=Bi e2.g Z07;have Z05:=Bi e2.g Z05;refine cR (Er:=Er) (f:=(x4 iJ Z02 Z1A Z0a Z0b Z0y)) (s0:=([]:List Ii)) (Iv:=fun(s9:(List Ii))(W10:Wd)(g11:St)=>∃(d13:Option V)(d14:Option V)(d15:Option V)(d16:Option V)(d17:Option V)(d18:Option V)(d19:Option V)(d20:Option V),g11=[some Z06,some Z1E,some<|.int Z0a,some<|.int Z0b,some Z1y,some<|.ref p3,d20,d13,d14,d15,d16,d17,d18,d19]/\Ext W0 W10/\Ow (qC K) W10 p3 s9) (jy (bt (x:=Bu "fbi") (l:=[102,98,105]) (gF _ _ (by decide +kernel)))) (Bj hq) ?_ ?_ ?_
  ·intro W32 e33;have E0:=E0.trans e33;have Z00:=Bi e33.g Z00;have Z07:=Bi e33.g Z07;have Z05:=Bi e33.g Z05;have o5:=o5.mono e33;exact⟨_,_,_,_,_,_,_,_,rfl,E0,o5⟩
  ·intro Wb21 W22 W23 a7 v24 s8 sg25 P26 hW27 hB28 iv e29 h30 hq;obtain⟨d13,d14,d15,d16,d17,d18,d19,d20,rfl,E0,o12⟩:=iv;have Z00:=Bi hW27 Z00;have Z07:=Bi hW27 Z07;have Z05:=Bi hW27 Z05;have E0:=E0.trans e29;have hB28:=hB28.trans e29.g;have Z00:=Bi e29.g Z00;have Z07:=Bi e29.g Z07;have Z05:=Bi e29.g Z05;have o12:=o12.mono e29;cases h30;refine gn (σ':=[some Z06,some Z1E,some<|.int Z0a,some<|.int Z0b,some Z1y,some<|.ref p3,some<|.str<|sOf a7,d13,d14,d15,d16,d17,d18,d19]) ?_;unfold x4 at hq;refine au (Er:=Er) (aU (aN Z00) dY)<|(Bj hq).imp fun y38 hq v39 W36 e37 h40=>?_;cases h40;have E0:=E0.trans e37;have hB28:=hB28.trans e37.g;have Z00:=Bi e37.g Z00;have Z07:=Bi e37.g Z07;have Z05:=Bi e37.g Z05;have o12:=o12.mono e37;refine au (Er:=Er) (aJ (aZ (f:=fun(b:Ii)=>b.1) xF<|aN Z05) aW)<|fun v43 W41 e42 h44=>?_;cases h44;have E0:=E0.trans e42;have hB28:=hB28.trans e42.g;have Z00:=Bi e42.g Z00;have Z07:=Bi e42.g Z07;have Z05:=Bi e42.g Z05;have o12:=o12.mono e42;refine au (Er:=Er) (iD (aJ (aZ (f:=fun(b:Ii)=>b.2) An<|aN Z05) ag) (p9 (gb dY (bt (x:=Bu "i") (l:=[105]) (gF _ _ (by decide +kernel))))))<|(Bj hq).imp fun y47 hq v48 W45 e46 h49=>?_;cases h49;have E0:=E0.trans e46;have hB28:=hB28.trans e46.g;have Z00:=Bi e46.g Z00;have Z07:=Bi e46.g Z07;have Z05:=Bi e46.g Z05;have o12:=o12.mono e46;refine au (Er:=Er) (aj (fun _=>by decide)<|aJ (aZ (f:=fun(b:Cd)=>b.2.2) jw<|aN Z00) aW)<|fun v52 W50 e51 h53=>?_;cases h53;have E0:=E0.trans e51;have hB28:=hB28.trans e51.g;have Z00:=Bi e51.g Z00;have Z07:=Bi e51.g Z07;have Z05:=Bi e51.g Z05;have o12:=o12.mono e51;refine bf (Er:=Er) (Iv:=fun(s69:Int)(W70:Wd)(g71:St)=>g71=[some Z06,some Z1E,some<|.int Z0a,some<|.int Z0b,some Z1y,some<|.ref p3,some<|.str<|sOf a7,some<|.int y38,some<|.int<|Z0y.1+y38,some<|.int y47,some<|.int s69,d17,d18,d19]/\Ext W0 W70/\Ow (qC K) W70 p3 s8) (aw (gb (aZ (f:=fun(b:Cd)=>b.1) lH<|aN Z00) (bt (x:=Bu "Z") (l:=[90]) (gF _ _ (by decide +kernel))))) (Bj hq) ?_ ?_ ?_
   ·intro W54 N57 e55 hN58 hq;have hs59:=e55.g;have E0:=E0.trans e55;have hB28:=hB28.trans e55.g;have Z00:=Bi e55.g Z00;have Z07:=Bi e55.g Z07;have Z05:=Bi e55.g Z05;have o12:=o12.mono e55;refine cg (Er:=Er) (aj (fun _=>by decide)<|aJ (aZ (f:=fun(b:Cd)=>b.2.2) jw<|aN Z00) aW)<|fun v62 W60 e61 h63=>?_;cases h63;have E0:=E0.trans e61;have hB28:=hB28.trans e61.g;have hs59:=hs59.trans e61.g;have Z00:=Bi e61.g Z00;have Z07:=Bi e61.g Z07;have Z05:=Bi e61.g Z05;have o12:=o12.mono e61;exact hN58 ((Z02.2.2-(Z0y.1+y38))%4) W60 _ hs59 ⟨rfl,E0,o12⟩ hq
   ·intro W54 N57 e55 hN58 hq;have hs64:=e55.g;have E0:=E0.trans e55;have hB28:=hB28.trans e55.g;have Z00:=Bi e55.g Z00;have Z07:=Bi e55.g Z07;have Z05:=Bi e55.g Z05;have o12:=o12.mono e55
    try dsimp only[aA]
    exact hN58 ((Z02.2.2+(Z0y.1+y38))%4) W54 _ hs64 ⟨rfl,E0,o12⟩ hq
   ·intro s65 W66 sg67 hS68 iv hq;obtain⟨rfl,E0,o72⟩:=iv;have hB28:=hB28.trans hS68;have Z00:=Bi hS68 Z00;have Z07:=Bi hS68 Z07;have Z05:=Bi hS68 Z05;refine au (Er:=Er) (sI (bT (oa aW) aW)<|bT aW aW)<|(Bj hq).imp fun y75 hq v76 W73 e74 h77=>?_;cases h77;have E0:=E0.trans e74;have hB28:=hB28.trans e74.g;have Z00:=Bi e74.g Z00;have Z07:=Bi e74.g Z07;have Z05:=Bi e74.g Z05;have o72:=o72.mono e74;refine cR (Er:=Er) (f:=uT) (s0:=y75) (Iv:=fun(s85:Bool)(W86:Wd)(g87:St)=>∃(d88:Option V)(d89:Option V),g87=[some Z06,some Z1E,some<|.int Z0a,some<|.int Z0b,some Z1y,some<|.ref p3,some<|.str<|sOf a7,some<|.int y38,some<|.int<|Z0y.1+y38,some<|.int y47,some<|.int s65,some<|.bl s85,d88,d89]/\Ext W0 W86/\Ow (qC K) W86 p3 s8) (jz (j4 (d9 (K:=K) (bO (aZ (f:=fun(b:Cd)=>b.2.1) iY<|aN Z00) aW) (bO (aZ (f:=fun(b:Cd)=>b.2.1) iY<|aN Z00) (aj (fun _=>by decide)<|aJ aW ag)) (bO (bt (x:=Bu "zos") (l:=[122,111,115]) (gF _ _ (by decide +kernel)))<|aJ aW ag)))<|j4<|aN Z07) (Bj hq) ?_ ?_ ?_
    ·intro W102 e103;have E0:=E0.trans e103;have hB28:=hB28.trans e103.g;have Z00:=Bi e103.g Z00;have Z07:=Bi e103.g Z07;have Z05:=Bi e103.g Z05;have o72:=o72.mono e103;exact⟨_,_,rfl,E0,o72⟩
    ·intro Wb91 W92 W93 a83 v94 s84 sg95 P96 hW97 hB98 iv e99 h100 hq;obtain⟨d88,d89,rfl,E0,o90⟩:=iv;have hB28:=hB28.trans hW97;have Z00:=Bi hW97 Z00;have Z07:=Bi hW97 Z07;have Z05:=Bi hW97 Z05;have E0:=E0.trans e99;have hB28:=hB28.trans e99.g;have hB98:=hB98.trans e99.g;have Z00:=Bi e99.g Z00;have Z07:=Bi e99.g Z07;have Z05:=Bi e99.g Z05;have o90:=o90.mono e99;refine lJ h100 fun v108 v110 h109 h111=>?_;cases h109;cases h111;unfold uT at hq;refine iG (Er:=Er) (Iv:=fun(s128:Bool)(W129:Wd)(g130:St)=>g130=[some Z06,some Z1E,some<|.int Z0a,some<|.int Z0b,some Z1y,some<|.ref p3,some<|.str<|sOf a7,some<|.int y38,some<|.int<|Z0y.1+y38,some<|.int y47,some<|.int s65,some<|.bl s128,some<|.str<|sOf a83.1,some<|.str<|sOf a83.2]/\Ext W0 W129/\Ow (qC K) W129 p3 s8) (ee (aw (sH dY (bt (x:=Bu "?") (l:=[63]) (gF _ _ (by decide +kernel)))))<|aw<|sH dY dY) (Bj hq) ?_ ?_ ?_
     ·intro W113 N116 e114 hN117 hq;have hs118:=e114.g;have E0:=E0.trans e114;have hB28:=hB28.trans e114.g;have hB98:=hB98.trans e114.g;have Z00:=Bi e114.g Z00;have Z07:=Bi e114.g Z07;have Z05:=Bi e114.g Z05;have o90:=o90.mono e114;refine cg (Er:=Er) dU<|fun v121 W119 e120 h122=>?_;cases h122;have E0:=E0.trans e120;have hB28:=hB28.trans e120.g;have hB98:=hB98.trans e120.g;have hs118:=hs118.trans e120.g;have Z00:=Bi e120.g Z00;have Z07:=Bi e120.g Z07;have Z05:=Bi e120.g Z05;have o90:=o90.mono e120;exact hN117 false W119 _ hs118 ⟨rfl,E0,o90⟩ hq
     ·intro W113 N116 e114 hN117 hq;have hs123:=e114.g;have E0:=E0.trans e114;have hB28:=hB28.trans e114.g;have hB98:=hB98.trans e114.g;have Z00:=Bi e114.g Z00;have Z07:=Bi e114.g Z07;have Z05:=Bi e114.g Z05;have o90:=o90.mono e114
      try dsimp only[aA]
      exact hN117 s84 W113 _ hs123 ⟨rfl,E0,o90⟩ hq
     ·intro s124 W125 sg126 hS127 iv hq;obtain⟨rfl,E0,o131⟩:=iv;have hB28:=hB28.trans hS127;have hB98:=hB98.trans hS127;have Z00:=Bi hS127 Z00;have Z07:=Bi hS127 Z07;have Z05:=Bi hS127 Z05
      try dsimp only
      refine bY (W:=W125) s124 hB98 ?_ hq;exact⟨_,_,rfl,E0,o131⟩
    ·intro s133 W134 sg135 hS136 iv hq;obtain⟨d88,d89,rfl,E0,o90⟩:=iv;have hB28:=hB28.trans hS136;have Z00:=Bi hS136 Z00;have Z07:=Bi hS136 Z07;have Z05:=Bi hS136 Z05;refine iG (Er:=Er) (Iv:=fun(s152:(List Ii))(W153:Wd)(g154:St)=>g154=[some Z06,some Z1E,some<|.int Z0a,some<|.int Z0b,some Z1y,some<|.ref p3,some<|.str<|sOf a7,some<|.int y38,some<|.int<|Z0y.1+y38,some<|.int y47,some<|.int s65,some<|.bl s133,d88,d89]/\Ext W0 W153/\Ow (qC K) W153 p3 s152) (ju zF) (Bj hq) ?_ ?_ ?_
     ·intro W137 N140 e138 hN141 hq;have hs142:=e138.g;have E0:=E0.trans e138;have hB28:=hB28.trans e138.g;have Z00:=Bi e138.g Z00;have Z07:=Bi e138.g Z07;have Z05:=Bi e138.g Z05;have o90:=o90.mono e138;refine gX (Er:=Er) o90 (eB (K:=K) aW aW)<|(Bj hq).imp fun y146 hq W143 mu144 o145=>?_;have E0:=mu144.e _ E0 fr6;have hB28:=hB28.trans mu144.g;have hs142:=hs142.trans mu144.g;have Z00:=Bi mu144.g Z00;have Z07:=Bi mu144.g Z07;have Z05:=Bi mu144.g Z05;exact hN141 y146 W143 _ hs142 ⟨rfl,E0,o145⟩ hq
     ·intro W137 N140 e138 hN141 hq;have hs147:=e138.g;have E0:=E0.trans e138;have hB28:=hB28.trans e138.g;have Z00:=Bi e138.g Z00;have Z07:=Bi e138.g Z07;have Z05:=Bi e138.g Z05;have o90:=o90.mono e138
      try dsimp only[aA]
      exact hN141 s8 W137 _ hs147 ⟨rfl,E0,o90⟩ hq
     ·intro s148 W149 sg150 hS151 iv hq;obtain⟨rfl,E0,o155⟩:=iv;have hB28:=hB28.trans hS151;have Z00:=Bi hS151 Z00;have Z07:=Bi hS151 Z07;have Z05:=Bi hS151 Z05
      try dsimp only
      refine bY (W:=W149) s148 hB28 ?_ hq;exact⟨_,_,_,_,_,_,_,_,rfl,E0,o155⟩
  ·intro s156 W157 sg158 hS159 iv hq;obtain⟨d13,d14,d15,d16,d17,d18,d19,d20,rfl,E0,o12⟩:=iv;exact⟨.ref p3,rfl,hq p3 W157 E0 fr6 o12⟩
theorem AY{f:Addr}{fd:C4}(F:Fun K "_law_reach" "_law_reach" (tp 44) f fd){gN:Cd->Pl->Int->Int->Ii->Res (List Ii)}(Z1f:Cal P w K mg base "_law_next" ["_law_card_here","_law_mark","_law_loose","_law_bound","_law_state"] (3) (gW (qA K) (qB K) isI isI (qC K) (ro<|qC K) gN))(h_len:mg "len"=none)(h_list:mg "list"=none)(h_sorted:mg "sorted"=none):FnOk P w K mg base CX0 (4) f fd ["_law_card_here","_law_strip","_law_loose","_law_bound"] (mN (qA K) (qD K) isI isI (ro<|qE K)<|zY gN):=by
 have SC:FnScope ["_law_card_here","_law_strip","_law_loose","_law_bound","_law_out","_law_mark","_law_known","_law_state","_law_after"] ["_law_card_here","_law_strip","_law_loose","_law_bound"] (defScope<|tp 44):=by walk_at "F"
 refine F.ok SC (fun vs H Q E h=>?_)<|fun cdv A outer s H vs Q E hr h=>?_;·obtain⟨_,_,_,_,_,_,_,_,_,_,rfl,_⟩:=h;rfl
 ·obtain⟨W0,Z02,Z1d,Z0a,Z0b,Z06,Z0m,_,_,rfl,rfl,Z00,Z0k,Z1S,Z1T,Er,hq⟩:=h;cases Z1S;cases Z1T;refine⟨_,(af (cP 4<|cb<|a5 (cb<|a5 (bW<|a5 aa<|a5 aa ae) ae) ae)
   (af (bS C5 rfl (bG (K:=K) rfl<|pv 1) (ff 5) (af (cP 6 nr)
   (af (bS C5 rfl (bG (K:=K) rfl<|ar (aF (K:=K) rfl) (pv 4) (kC iy aa)<|fun _ _=>rfl) (ff 7)<|ah<|bS C5 rfl (bG (K:=K) rfl<|df Z1f<|a5 (pv 0)<|a5 (pv 5)<|a5 (pv 2)<|a5 (pv 3)<|a5 (pv 7) ae) (ff 8)<|ah<|nt (iA hr) (pv 6) (pv 8) cM rfl)
   (af (d6 (cS (K:=K) rfl (pv 4) (a5 (ao (oB (K:=K) rfl) (by rfl) h_sorted GZ (a5 (cC (oA rfl) (by rfl) h_list CD<|a5 (pv 6) ae) ae)) ae)))
   (ah (aX (aq bE (ao r6 (by rfl) h_len BW (a5 (pv 6) ae)) aa (ay _)) (ah (aB (pv 4))) az))))))
   (ah (aB (pv 4))))),?_⟩
  have E0:Ext W0 W0:=.refl W0;unfold zY at hq;refine dg (Er:=Er) (fI<|bj (DD<|fI<|bj (eB (K:=K) ag ag)<|fH (R:=(qC K)))<|fH (R:=(qE K)))<|fun p3 W1 e2 hp4 o5=>?_;have fr6:=none_of E0.h hp4;have E0:=E0.trans e2;have Z00:=Bi e2.g Z00;have Z0k:=Bi e2.g Z0k;refine gz (Er:=Er) (f:=(xW gN Z02 Z0a Z0b)) (s0:=[[((0:Int),(0:Int))]]) (Iv:=fun(s9:(List<|List Ii))(W10:Wd)(g11:St)=>∃(d13:Option V)(d14:Option V)(d15:Option V)(d16:Option V),g11=[some Z06,some Z0m,some<|.int Z0a,some<|.int Z0b,some<|.ref p3,d16,d13,d14,d15]/\Ext W0 W10/\Ow (qE K) W10 p3 s9) (bU<|aN Z0k) (Bj hq) ?_ ?_ ?_
  ·intro W28 e29;have E0:=E0.trans e29;have Z00:=Bi e29.g Z00;have o5:=o5.mono e29;exact⟨_,_,_,_,rfl,E0,o5⟩
  ·intro Wb17 W18 W19 a7 v20 s8 sg21 P22 hW23 hB24 iv e25 h26 hrt27 hq;obtain⟨d13,d14,d15,d16,rfl,E0,o12⟩:=iv;have Z00:=Bi hW23 Z00;have E0:=E0.trans e25;have hB24:=hB24.trans e25.g;have Z00:=Bi e25.g Z00;have o12:=o12.mono e25;refine gn (σ':=[some Z06,some Z0m,some<|.int Z0a,some<|.int Z0b,some<|.ref p3,some v20,d13,d14,d15]) ?_;unfold xW at hq;refine kZ (Er:=Er) (nu (prog:=P) (w:=w) (K:=K) (R:=isB))<|fun p34 W32 e33 hp35 o36=>?_;have ne37:=o12.ne hp35;have fr38:=none_of E0.h hp35;have E0:=E0.trans e33;have hB24:=hB24.trans e33.g;have Z00:=Bi e33.g Z00;have o12:=o12.mono e33;have h26:=Bi e33.g h26;refine cR (Er:=Er) (f:=(zr gN Z02 Z0a Z0b a7)) (s0:=([]:List (Ii×Bool))) (Iv:=fun(s41:(List<|Ii×Bool))(W42:Wd)(g43:St)=>∃(d45:Option V)(d46:Option V),g43=[some Z06,some Z0m,some<|.int Z0a,some<|.int Z0b,some<|.ref p3,some v20,some<|.ref p34,d46,d45]/\Ext W0 W42/\OwP P w K isB W42 p34 s41/\Ow (qE K) W42 p3 s8) (bU<|bI (fG o12)<|jt ag) (Bj hq) ?_ ?_ ?_
   ·intro W59 e60;have E0:=E0.trans e60;have hB24:=hB24.trans e60.g;have Z00:=Bi e60.g Z00;have o12:=o12.mono e60;have h26:=Bi e60.g h26;have o36:=o36.mono e60;exact⟨_,_,rfl,E0,o36,o12⟩
   ·intro Wb48 W49 W50 a39 v51 s40 sg52 P53 hW54 hB55 iv e56 h57 hq;obtain⟨d45,d46,rfl,E0,o44,o47⟩:=iv;have hB24:=hB24.trans hW54;have Z00:=Bi hW54 Z00;have h26:=Bi hW54 h26;have E0:=E0.trans e56;have hB24:=hB24.trans e56.g;have hB55:=hB55.trans e56.g;have Z00:=Bi e56.g Z00;have o47:=o47.mono e56;have h26:=Bi e56.g h26;have o44:=o44.mono e56;refine gn (σ':=[some Z06,some Z0m,some<|.int Z0a,some<|.int Z0b,some<|.ref p3,some v20,some<|.ref p34,some v51,d45]) ?_;unfold zr at hq;refine lL (Er:=Er) (f:=xV) (s0:=s40) (Iv:=fun(s65:(List<|Ii×Bool))(W66:Wd)(g67:St)=>∃(d69:Option V),g67=[some Z06,some Z0m,some<|.int Z0a,some<|.int Z0b,some<|.ref p3,some v20,some<|.ref p34,some v51,d69]/\Ext W0 W66/\OwP P w K isB W66 p34 s65/\Ow (qE K) W66 p3 s8) (bU<|DD<|iF (aN Z00) (aN h26) aW aW<|aN h57) (Bj hq) ?_ ?_ ?_
    ·intro W82 e83;have E0:=E0.trans e83;have hB24:=hB24.trans e83.g;have hB55:=hB55.trans e83.g;have Z00:=Bi e83.g Z00;have o47:=o47.mono e83;have h26:=Bi e83.g h26;have o44:=o44.mono e83;have h57:=Bi e83.g h57;exact⟨_,rfl,E0,o44,o47⟩
    ·intro Wb71 W72 W73 a63 v74 s64 sg75 P76 hW77 hB78 iv e79 h80 hq;obtain⟨d69,rfl,E0,o68,o70⟩:=iv;have hB24:=hB24.trans hW77;have hB55:=hB55.trans hW77;have Z00:=Bi hW77 Z00;have h26:=Bi hW77 h26;have h57:=Bi hW77 h57;have E0:=E0.trans e79;have hB24:=hB24.trans e79.g;have hB55:=hB55.trans e79.g;have hB78:=hB78.trans e79.g;have Z00:=Bi e79.g Z00;have o70:=o70.mono e79;have h26:=Bi e79.g h26;have o68:=o68.mono e79;have h57:=Bi e79.g h57;refine gn (σ':=[some Z06,some Z0m,some<|.int Z0a,some<|.int Z0b,some<|.ref p3,some v20,some<|.ref p34,some v51,some v74]) ?_;unfold xV at hq;refine ny (Er:=Er) o68 dU (aN h80)<|(Bj hq).imp fun y89 hq W86 mu87 o88=>?_;have E0:=mu87.e _ E0 fr38;have hB24:=hB24.trans mu87.g;have hB55:=hB55.trans mu87.g;have hB78:=hB78.trans mu87.g;have Z00:=Bi mu87.g Z00;have o70:=mu87.ow ne37 o70;have h26:=Bi mu87.g h26;have h57:=Bi mu87.g h57;have h80:=Bi mu87.g h80
     try dsimp only
     refine bY (W:=W86) y89 hB78 ?_ hq;exact⟨_,rfl,E0,o88,o70⟩
    ·intro s91 W92 sg93 hS94 iv hq;obtain⟨d69,rfl,E0,o68,o70⟩:=iv;have hB24:=hB24.trans hS94;have hB55:=hB55.trans hS94;have Z00:=Bi hS94 Z00;have h26:=Bi hS94 h26;have h57:=Bi hS94 h57
     try dsimp only
     refine bY (W:=W92) s91 hB55 ?_ hq;exact⟨_,_,rfl,E0,o68,o70⟩
   ·intro s96 W97 sg98 hS99 iv hq;obtain⟨d45,d46,rfl,E0,o44,o47⟩:=iv;have hB24:=hB24.trans hS99;have Z00:=Bi hS99 Z00;have h26:=Bi hS99 h26;refine mO (Er:=Er) o47 (DD<|u4<|Gi<|u0 o44)<|(Bj hq).imp fun y103 hq W100 mu101 o102=>?_;have E0:=mu101.e _ E0 fr6;have hB24:=hB24.trans mu101.g;have Z00:=Bi mu101.g Z00;have h26:=Bi mu101.g h26;have o44:=mu101.owP (EF ne37) o44;refine p8 (Er:=Er) (aw<|bL (vP o44) ag)<|fun W105 e106=>?_;have E0:=E0.trans e106;have hB24:=hB24.trans e106.g;have Z00:=Bi e106.g Z00;have h26:=Bi e106.g h26;have o44:=o44.mono e106;have o102:=o102.mono e106;by_cases hb106:(decide<|(s96.length:Int)=(0:Int))=true
    ·rw[if_pos hb106]at hq ⊢;exact⟨.ref p3,rfl,(hrt27 _ hq) p3 W105 E0 fr6 o102⟩
    ·rw[if_neg hb106]at hq ⊢
     try dsimp only[aA]
     try dsimp only
     refine bY (W:=W105) y103 hB24 ?_ hq;exact⟨_,_,_,_,rfl,E0,o102⟩
  ·intro s107 W108 sg109 hS110 iv hq;obtain⟨d13,d14,d15,d16,rfl,E0,o12⟩:=iv;exact⟨.ref p3,rfl,hq p3 W108 E0 fr6 o12⟩
theorem AZ{f:Addr}{fd:C4}(F:Fun K "_law_bent" "_law_bent" (tp 46) f fd){gk:Int->Int->Int->Res (List Int)}(Z0r:Cal P w K mg base "_law_row" ["_law_cell","_law_many","_law_base"] (1) (fe isI isI isI (ro isI) gk))(h_len:mg "len"=none)(h_list:mg "list"=none)(h_max:mg "max"=none):FnOk P w K mg base CX0 (2) f fd ["_law_lists","_law_cell"] (bJ (isL<|qE K) isI (Ar<|oL<|oL<|fz<|qC K)<|zZ gk):=by
 have SC:FnScope ["_law_lists","_law_cell","_law_out","_law_draws","_law_at_here","_law_state"] ["_law_lists","_law_cell"] (defScope<|tp 46):=by walk_at "F"
 refine F.ok SC (fun vs H Q E h=>?_)<|fun cdv A outer s H vs Q E hr h=>?_;·obtain⟨_,_,_,_,_,_,rfl,_⟩:=h;rfl
 ·obtain⟨W0,Z0C,Z03,Z0j,_,rfl,rfl,Z0i,Z0x,Er,hq⟩:=h;cases Z0x
  refine⟨_,(af (fE (i:=2) SC.nd rfl (by walk_at "L") (N:=["_law_states"]) (cap:=[none]) (iV rfl (by decide +kernel) rfl (by decide +kernel) (by rfl) (by rfl)) rfl (bG (K:=K) rfl<|pv 0) (fun _ _ _ _=>(bQ (i:=0) (show DA (["_law_states"]:List Str) by decide +kernel) rfl (by walk_at "L"))) (fun _ _ _ _=>du) (fun _ _ _ _=>(cC (cY (K:=K) rfl) (by rfl) h_list CD<|a5 (pv 0) ae)))
   (af (cP 3<|df Z0r<|a5 (ai aQ (pv 1) aa)<|a5 aa<|a5 aa ae)
   (af (cP 4 (ai av (ar (aF (K:=K) rfl) (pv 3) aa<|fun _ _=>rfl) (ao (kE rfl) (by rfl) h_max HJ (a5 aa (a5 (ao (aL (K:=K) rfl) (by rfl) h_len BW<|a5 (pv 2) ae) ae)))))
   (af (cP 5<|bW<|a5 (ai dH (ai av (ar (aF (K:=K) rfl) (pv 3) aa<|fun _ _=>rfl) aa) aa)<|a5 (ai dH (ai av (ai aQ (ar (aF (K:=K) rfl) (pv 3) aa<|fun _ _=>rfl) aa) aa) aa) ae)
   (af (aX (aq bE (ai av (ar (aF (K:=K) rfl) (pv 3) aa<|fun _ _=>rfl) aa) aa<|ay _) (ah<|cP 5<|bW<|a5 (ar (aF (K:=K) rfl) (cb<|a5 (ai lp aa aa)<|a5 (ai dH aa aa)<|a5 aa<|a5 aa<|a5 (ai dH aa<|ai lp aa aa) ae) (ai av (ar (aF (K:=K) rfl) (pv 3) aa<|fun _ _=>rfl) aa)<|fun _ _=>rfl)<|a5 (ar (aF (K:=K) rfl) (cb<|a5 (ai dH aa aa)<|a5 aa<|a5 (ai lp aa aa)<|a5 aa ae) (ai av (ai aQ (ar (aF (K:=K) rfl) (pv 3) aa<|fun _ _=>rfl) aa) aa)<|fun _ _=>rfl) ae) az)
   (af (aX (FK (dq (aq bE (ai av (pv 1) aa) aa<|ay _) (dq (aq gK (ao (aL (K:=K) rfl) (by rfl) h_len BW<|a5 (pv 2) ae) aa<|ay _) (d5 (aq gK (ao (aL (K:=K) rfl) (by rfl) h_len BW<|a5 (ar (aF (K:=K) rfl) (pv 2) (pv 4)<|fun _ _=>rfl) ae) aa<|ay _))))) (ah (d6 (gS (K:=K) rfl DS Gj HK mD (ar (aF (K:=K) rfl) (pv 2) (pv 4)<|fun _ _=>rfl) (a5 (ai av (ar (aF (K:=K) rfl) (pv 3) aa<|fun _ _=>rfl) (ao (aL (K:=K) rfl) (by rfl) h_len BW<|a5 (ar (aF (K:=K) rfl) (pv 2) (pv 4)<|fun _ _=>rfl) ae)) ae)))) az)
   (af (aX (FK (dq (aq bE (ai av (pv 1) aa) aa<|ay _) (d5 (aq gK (ao (aL (K:=K) rfl) (by rfl) h_len BW<|a5 (pv 2) ae) aa<|ay _)))) (ah (d6 (gS (K:=K) rfl DS FD H0 l5 (ar (aF (K:=K) rfl) (pv 2) (pv 4)<|fun _ _=>rfl) (a5 (ai av (ar (aF (K:=K) rfl) (pv 3) aa<|fun _ _=>rfl) (ai bg (ao (aL (K:=K) rfl) (by rfl) h_len BW<|a5 (ar (aF (K:=K) rfl) (pv 2) (pv 4)<|fun _ _=>rfl) ae) aa))<|a5 (pv 5) ae)))) az)
   (af (aX (FK (dq (aq bE (ai av (pv 1) aa) aa<|ay _) (d5 (aq gK (ao (aL (K:=K) rfl) (by rfl) h_len BW<|a5 (pv 2) ae) aa<|ay _)))) (ah<|d6<|gS (K:=K) rfl DS Gj HK mD (pv 2)<|a5 (pv 4) ae) az)
   (af (aX (aq bE (ai av (pv 1) aa) aa<|ay _) (ah (d6 (gS (K:=K) rfl DS FD H0 l5 (pv 2) (a5 (ai av (ar (aF (K:=K) rfl) (pv 3) aa<|fun _ _=>rfl) (ai bg (ao (aL (K:=K) rfl) (by rfl) h_len BW<|a5 (pv 2) ae) aa))<|a5 (cb ae) ae)))) az)
   (af (aX (aq bE (ai av (pv 1) aa) aa<|ay _) (ah (fE (i:=2) SC.nd rfl (by walk_at "L") (N:=["_law_states"]) (cap:=[none]) (iV rfl (by decide +kernel) rfl (by decide +kernel) (by rfl) (by rfl)) rfl (bG (K:=K) rfl<|pv 2) (fun _ _ _ _=>(bQ (i:=0) (show DA (["_law_states"]:List Str) by decide +kernel) rfl (by walk_at "L"))) (fun _ _ _ _=>du)<|fun _ _ _ _=>(ai xt (mL (K:=K) rfl (fun a b=>[.ref a,.ref b]) (fun _ _=>rfl) (pv 0)<|fC<|kC iy aa)<|fj (hW (K:=K) rfl) (pv 0) gv<|fC aa))) az)
   (af (aX (FK (dq (aq bE (ai av (pv 1) aa) aa<|ay _) (dq (aq gK (ao (aL (K:=K) rfl) (by rfl) h_len BW<|a5 (pv 2) ae) aa<|ay _) (d5 (aq gK (ao (aL (K:=K) rfl) (by rfl) h_len BW<|a5 (ar (aF (K:=K) rfl) (pv 2) (pv 4)<|fun _ _=>rfl) ae) aa<|ay _))))) (ah (f9 (pv 5) (ll (ar (aF (K:=K) rfl) (pv 2) (pv 4)<|fun _ _=>rfl) (ai av (ar (aF (K:=K) rfl) (pv 3) aa<|fun _ _=>rfl) (ao (aL (K:=K) rfl) (by rfl) h_len BW<|a5 (ar (aF (K:=K) rfl) (pv 2) (pv 4)<|fun _ _=>rfl) ae)) hV))) az)
   (ah (aB (pv 2)))))))))))))),?_⟩
  have E0:Ext W0 W0:=.refl W0;rw[show L2.start ["_law_lists","_law_cell","_law_out","_law_draws","_law_at_here","_law_state"] [Z0j,.int Z03]=[some Z0j,some<|.int Z03,none,none,none,none]from rfl];unfold zZ at hq;have S:Sep W0 W0 []:=Sep.nil;refine qQ (Er:=Er) S E0 (mV (bU<|aN Z0i) fun W3 a1 v2 e4 h5 Q8 k9=>by
   refine gn ?_;exact⟨by simp[Keep,bR],((EVo.tr (gc (Dk (aN h5)))):EVt Er _ [some v2] _ _ _) _ (.refl _) _ k9⟩) ((Bj hq).imp fun y10 hq v11 W12 e13 S=>?_)
  have E0:=E0.trans e13;have S:Sep W0 W12 [tc (oL<|oL<|fz<|qC K) y10 v11]:=S;refine au (Er:=Er) (DD (eE (aj (fun _=>⟨by decide,by decide⟩) aW) ag ag))<|(Bj hq).imp fun y16 hq v17 W14 e15 h18=>?_;have S:=S.ext e15;have E0:=E0.trans e15;refine au (Er:=Er) (fc (bI (Dk<|aN h18) ag)<|pf ag<|gD<|dz (R:=(oL<|oL<|fz<|qC K)) (k:=0) S)<|(Bj hq).imp fun y22 hq v23 W19 e20 h24=>?_;cases h24;have S:=S.ext e20;have E0:=E0.trans e20;have h18:=Bi e20.g h18;refine au (Er:=Er) (eB (K:=K) (aJ (aj (fun _=>by decide)<|bI (Dk<|aN h18) ag) ag) (aJ (aj (fun _=>by decide) (aj (fun _=>⟨by decide,by decide⟩)<|bI (Dk<|aN h18) ag)) ag))<|(Bj hq).imp fun y34 hq v35 W25 e26 h36=>?_;have S:=S.ext e26;have E0:=E0.trans e26;have h18:=Bi e26.g h18;refine bf (Er:=Er) (Iv:=fun(s63:Ii)(W64:Wd)(g65:St)=>∃(v66:V),g65=[some Z0j,some<|.int Z03,some v11,some v17,some<|.int y22,some v66]/\Ext W0 W64/\(qC K) W64.G s63 v66/\Sep W0 W64 [tc (oL<|oL<|fz<|qC K) y10 v11]) (aw (bL (aj (fun _=>by decide)<|bI (Dk<|aN h18) ag) ag)) (Bj hq) ?_ ?_ ?_
  ·intro W40 N43 e41 hN44 hq;have hs45:=e41.g;have S:=S.ext e41;have E0:=E0.trans e41;have h18:=Bi e41.g h18;have h36:=Bi e41.g h36;refine cg (Er:=Er) (eB (K:=K) (bI (Gi (fI (bj (j6 (r:=100000000000000000000) (by decide) (by decide)) (bj (aJ ag ag) (bj ag (bj ag (bj (aJ ag (j6 (r:=100000000000000000000) (by decide) (by decide)))<|fH (R:=isI)))))))) (aj (fun _=>by decide)<|bI (Dk<|aN h18) ag)) (bI (Gi (fI (bj (aJ ag ag) (bj ag (bj (j6 (r:=100000000000000000000) (by decide) (by decide))<|bj ag<|fH (R:=isI)))))) (aj (fun _=>by decide) (aj (fun _=>⟨by decide,by decide⟩)<|bI (Dk<|aN h18) ag))))<|(Bj hq).imp fun y55 hq v56 W46 e47 h57=>?_;have S:=S.ext e47;have E0:=E0.trans e47;have hs45:=hs45.trans e47.g;have h18:=Bi e47.g h18;exact hN44 y55 W46 _ hs45 ⟨_,rfl,E0,h57,S⟩ hq
  ·intro W40 N43 e41 hN44 hq;have hs58:=e41.g;have S:=S.ext e41;have E0:=E0.trans e41;have h18:=Bi e41.g h18;have h36:=Bi e41.g h36
   try dsimp only[aA]
   exact hN44 y34 W40 _ hs58 ⟨_,rfl,E0,h36,S⟩ hq
  ·intro s59 W60 sg61 hS62 iv hq;obtain⟨v66,rfl,E0,h67,S⟩:=iv;have h18:=Bi hS62 h18;refine bf (Er:=Er) (Iv:=fun(s90:(List<|List Ii))(W91:Wd)(g92:St)=>g92=[some Z0j,some<|.int Z03,some v11,some v17,some<|.int y22,some v66]/\Ext W0 W91/\Sep W0 W91 [tc (oL<|oL<|fz<|qC K) s90 v11]) (ee (aw (bL (aj (fun _=>by decide) aW) ag))<|ee (aw<|bT (gD<|dz (R:=(oL<|oL<|fz<|qC K)) (k:=0) S) ag)<|aw<|bT (bZ<|i9<|i8 (dz (R:=(oL<|oL<|fz<|qC K)) (k:=0) S) aW) ag) (Bj hq) ?_ ?_ ?_
   ·intro W71 N74 e72 hN75 hq;have hs76:=e72.g;have S:=S.ext e72;have E0:=E0.trans e72;have h18:=Bi e72.g h18;have h67:=Bi e72.g h67;refine l7 (Er:=Er) (K:=K) E0 (sY (jG (R:=(oL<|oL<|fz<|qC K)) (C:=fun bb=>[tc (oL<|oL<|fz<|qC K) bb v11]) (k:=0) S E0) aW) (fc (bI (Dk<|aN h18) ag)<|bZ<|i9<|i8 (dz (R:=(oL<|oL<|fz<|qC K)) (k:=0) S) aW)<|(Bj hq).imp fun y82 hq W83 hS84 E0 S=>?_;have S:Sep W0 W83 [tc (oL<|oL<|fz<|qC K) y82 v11]:=S;have hs76:=hs76.trans hS84;have h18:=Bi hS84 h18;have h67:=Bi hS84 h67;exact hN75 y82 W83 _ hs76 ⟨rfl,E0,S⟩ hq
   ·intro W71 N74 e72 hN75 hq;have hs85:=e72.g;have S:=S.ext e72;have E0:=E0.trans e72;have h18:=Bi e72.g h18;have h67:=Bi e72.g h67
    try dsimp only[aA]
    exact hN75 y10 W71 _ hs85 ⟨rfl,E0,S⟩ hq
   ·intro s86 W87 sg88 hS89 iv hq;obtain⟨rfl,E0,S⟩:=iv;have h18:=Bi hS89 h18;have h67:=Bi hS89 h67;refine bf (Er:=Er) (Iv:=fun(s114:(List<|List Ii))(W115:Wd)(g116:St)=>g116=[some Z0j,some<|.int Z03,some v11,some v17,some<|.int y22,some v66]/\Ext W0 W115/\Sep W0 W115 [tc (oL<|oL<|fz<|qC K) s114 v11]) (ee (aw (bL (aj (fun _=>by decide) aW) ag))<|aw<|bT (gD<|dz (R:=(oL<|oL<|fz<|qC K)) (k:=0) S) ag) (Bj hq) ?_ ?_ ?_
    ·intro W94 N97 e95 hN98 hq;have hs99:=e95.g;have S:=S.ext e95;have E0:=E0.trans e95;have h18:=Bi e95.g h18;have h67:=Bi e95.g h67;refine pS (Er:=Er) (K:=K) E0 (sY (jG (R:=(oL<|oL<|fz<|qC K)) (C:=fun bb=>[tc (oL<|oL<|fz<|qC K) bb v11]) (k:=0) S E0) aW) (fc (bI (Dk<|aN h18) ag)<|aJ (bZ<|i9<|i8 (dz (R:=(oL<|oL<|fz<|qC K)) (k:=0) S) aW) ag) (EV.tr<|aN h67)<|(Bj hq).imp fun y106 hq W107 hS108 E0 S=>?_;have S:Sep W0 W107 [tc (oL<|oL<|fz<|qC K) y106 v11]:=S;have hs99:=hs99.trans hS108;have h18:=Bi hS108 h18;have h67:=Bi hS108 h67;exact hN98 y106 W107 _ hs99 ⟨rfl,E0,S⟩ hq
    ·intro W94 N97 e95 hN98 hq;have hs109:=e95.g;have S:=S.ext e95;have E0:=E0.trans e95;have h18:=Bi e95.g h18;have h67:=Bi e95.g h67
     try dsimp only[aA]
     exact hN98 s86 W94 _ hs109 ⟨rfl,E0,S⟩ hq
    ·intro s110 W111 sg112 hS113 iv hq;obtain⟨rfl,E0,S⟩:=iv;have h18:=Bi hS113 h18;have h67:=Bi hS113 h67;refine bf (Er:=Er) (Iv:=fun(s132:(List<|List Ii))(W133:Wd)(g134:St)=>g134=[some Z0j,some<|.int Z03,some v11,some v17,some<|.int y22,some v66]/\Ext W0 W133/\Sep W0 W133 [tc (oL<|oL<|fz<|qC K) s132 v11]) (ee (aw (bL (aj (fun _=>by decide) aW) ag))<|aw<|bT (gD<|dz (R:=(oL<|oL<|fz<|qC K)) (k:=0) S) ag) (Bj hq) ?_ ?_ ?_
     ·intro W118 N121 e119 hN122 hq;have hs123:=e119.g;have S:=S.ext e119;have E0:=E0.trans e119;have h18:=Bi e119.g h18;have h67:=Bi e119.g h67;refine l7 (Er:=Er) (K:=K) E0 (jG (R:=(oL<|oL<|fz<|qC K)) (C:=fun bb=>[tc (oL<|oL<|fz<|qC K) bb v11]) (k:=0) S E0) aW<|(Bj hq).imp fun y124 hq W125 hS126 E0 S=>?_;have S:Sep W0 W125 [tc (oL<|oL<|fz<|qC K) y124 v11]:=S;have hs123:=hs123.trans hS126;have h18:=Bi hS126 h18;have h67:=Bi hS126 h67;exact hN122 y124 W125 _ hs123 ⟨rfl,E0,S⟩ hq
     ·intro W118 N121 e119 hN122 hq;have hs127:=e119.g;have S:=S.ext e119;have E0:=E0.trans e119;have h18:=Bi e119.g h18;have h67:=Bi e119.g h67
      try dsimp only[aA]
      exact hN122 s110 W118 _ hs127 ⟨rfl,E0,S⟩ hq
     ·intro s128 W129 sg130 hS131 iv hq;obtain⟨rfl,E0,S⟩:=iv;have h18:=Bi hS131 h18;have h67:=Bi hS131 h67;refine bf (Er:=Er) (Iv:=fun(s151:(List<|List Ii))(W152:Wd)(g153:St)=>g153=[some Z0j,some<|.int Z03,some v11,some v17,some<|.int y22,some v66]/\Ext W0 W152/\Sep W0 W152 [tc (oL<|oL<|fz<|qC K) s151 v11]) (aw (bL (aj (fun _=>by decide) aW) ag)) (Bj hq) ?_ ?_ ?_
      ·intro W135 N138 e136 hN139 hq;have hs140:=e136.g;have S:=S.ext e136;have E0:=E0.trans e136;have h18:=Bi e136.g h18;have h67:=Bi e136.g h67;refine pS (Er:=Er) (K:=K) E0 (jG (R:=(oL<|oL<|fz<|qC K)) (C:=fun bb=>[tc (oL<|oL<|fz<|qC K) bb v11]) (k:=0) S E0) (fc (bI (Dk<|aN h18) ag)<|aJ (gD<|dz (R:=(oL<|oL<|fz<|qC K)) (k:=0) S) ag) (sZ (R:=(fz<|qC K)))<|(Bj hq).imp fun y143 hq W144 hS145 E0 S=>?_;have S:Sep W0 W144 [tc (oL<|oL<|fz<|qC K) y143 v11]:=S;have hs140:=hs140.trans hS145;have h18:=Bi hS145 h18;have h67:=Bi hS145 h67;exact hN139 y143 W144 _ hs140 ⟨rfl,E0,S⟩ hq
      ·intro W135 N138 e136 hN139 hq;have hs146:=e136.g;have S:=S.ext e136;have E0:=E0.trans e136;have h18:=Bi e136.g h18;have h67:=Bi e136.g h67
       try dsimp only[aA]
       exact hN139 s128 W135 _ hs146 ⟨rfl,E0,S⟩ hq
      ·intro s147 W148 sg149 hS150 iv hq;obtain⟨rfl,E0,S⟩:=iv;have h18:=Bi hS150 h18;have h67:=Bi hS150 h67;refine bf (Er:=Er) (Iv:=fun(s182:(List<|List Ii))(W183:Wd)(g184:St)=>∃(v185:V),g184=[some Z0j,some<|.int Z03,some v185,some v17,some<|.int y22,some v66]/\Ext W0 W183/\Sep W0 W183 [tc (oL<|oL<|fz<|qC K) s182 v185]) (aw (bL (aj (fun _=>by decide) aW) ag)) (Bj hq) ?_ ?_ ?_
       ·intro W154 N157 e155 hN158 hq;have hs159:=e155.g;have S:=S.ext e155;have E0:=E0.trans e155;have h18:=Bi e155.g h18;have h67:=Bi e155.g h67;obtain⟨W160,hH161,E0,hS162,S,h163⟩:=S.frz (R:=(oL<|oL<|fz<|qC K)) (i:=0) E0 rfl;have S:Sep W0 W160 []:=S;rw[<-hH161];have hs159:=hs159.trans hS162;have h18:=Bi hS162 h18;have h67:=Bi hS162 h67;have S:Sep W0 W160 []:=Sep.nil;refine pD (Er:=Er) S E0 (mV (bU<|aN h163) fun W166 a164 v165 e167 h168 Q171 k172=>by
         refine gn ?_;exact⟨by simp[Keep,bR],((EVo.tr (vp (Gi (vB (Dk (aN h168)))) (Gi (iZ (Dk (aN h168)) kP (kQ ag))))):EVt Er _ [some v165] _ _ _) _ (.refl _) _ k172⟩) ((Bj hq).imp fun y173 hq v174 W175 e176 S=>?_)
        have E0:=E0.trans e176;have hs159:=hs159.trans e176.g;have h18:=Bi e176.g h18;have h67:=Bi e176.g h67;have S:Sep W0 W175 [tc (oL<|oL<|fz<|qC K) y173 v174]:=S;exact hN158 y173 W175 _ hs159 ⟨_,rfl,E0,S⟩ hq
       ·intro W154 N157 e155 hN158 hq;have hs177:=e155.g;have S:=S.ext e155;have E0:=E0.trans e155;have h18:=Bi e155.g h18;have h67:=Bi e155.g h67
        try dsimp only[aA]
        exact hN158 s147 W154 _ hs177 ⟨_,rfl,E0,S⟩ hq
       ·intro s178 W179 sg180 hS181 iv hq;obtain⟨v185,rfl,E0,S⟩:=iv;have h18:=Bi hS181 h18;have h67:=Bi hS181 h67;refine bf (Er:=Er) (Iv:=fun(s208:(List<|List Ii))(W209:Wd)(g210:St)=>g210=[some Z0j,some<|.int Z03,some v185,some v17,some<|.int y22,some v66]/\Ext W0 W209/\Sep W0 W209 [tc (oL<|oL<|fz<|qC K) s208 v185]) (ee (aw (bL (aj (fun _=>by decide) aW) ag))<|ee (aw<|bT (gD<|dz (R:=(oL<|oL<|fz<|qC K)) (k:=0) S) ag)<|aw<|bT (bZ<|i9<|i8 (dz (R:=(oL<|oL<|fz<|qC K)) (k:=0) S) aW) ag) (Bj hq) ?_ ?_ ?_
        ·intro W189 N192 e190 hN193 hq;have hs194:=e190.g;have S:=S.ext e190;have E0:=E0.trans e190;have h18:=Bi e190.g h18;have h67:=Bi e190.g h67;refine vC (Er:=Er) E0 (aN h67) (sY (jG (R:=(oL<|oL<|fz<|qC K)) (C:=fun bb=>[tc (oL<|oL<|fz<|qC K) bb v185]) (k:=0) S E0) aW) (fc (bI (Dk<|aN h18) ag)<|bZ<|i9<|i8 (dz (R:=(oL<|oL<|fz<|qC K)) (k:=0) S) aW)<|(Bj hq).imp fun y200 hq W201 hS202 E0 S=>?_;have S:Sep W0 W201 [tc (oL<|oL<|fz<|qC K) y200 v185]:=S;have hs194:=hs194.trans hS202;exact hN193 y200 W201 _ hs194 ⟨rfl,E0,S⟩ hq
        ·intro W189 N192 e190 hN193 hq;have hs203:=e190.g;have S:=S.ext e190;have E0:=E0.trans e190;have h18:=Bi e190.g h18;have h67:=Bi e190.g h67
         try dsimp only[aA]
         exact hN193 s178 W189 _ hs203 ⟨rfl,E0,S⟩ hq
        ·intro s204 W205 sg206 hS207 iv hq;obtain⟨rfl,E0,S⟩:=iv;exact vD (k:=0) S rfl fun F211 hF212 t213=>hq v185 W205 F211 E0 hF212 t213
theorem B0{f:Addr}{fd:C4}(F:Fun K "_law_shut" "_law_shut" (tp 45) f fd){gN:Cd->Pl->Int->Int->Ii->Res (List Ii)}(Z1f:Cal P w K mg base "_law_next" ["_law_card_here","_law_mark","_law_loose","_law_bound","_law_state"] (3) (gW (qA K) (qB K) isI isI (qC K) (ro<|qC K) gN))(h_all:mg "all"=none)(h_isinstance:mg "isinstance"=none)(h_len:mg "len"=none)(h_list:mg "list"=none)(h_tuple:mg "tuple"=none)(h_zip:mg "zip"=none):FnOk P w K mg base CX0 (4) f fd ["_law_card_here","_law_strip","_law_loose","_law_bound","_law_lists"] (gW (qA K) (qD K) isI isI (isL<|qE K) (rs isB)<|A2 gN):=by
 have SC:FnScope ["_law_card_here","_law_strip","_law_loose","_law_bound","_law_lists","_law_states","_law_mark","_law_later","_law_there","_law_state","_law_after"] ["_law_card_here","_law_strip","_law_loose","_law_bound","_law_lists"] (defScope<|tp 45):=by walk_at "F"
 refine F.ok SC (fun vs H Q E h=>?_)<|fun cdv A outer s H vs Q E hr h=>?_;·obtain⟨_,_,_,_,_,_,_,_,_,_,_,_,rfl,_⟩:=h;rfl
 ·obtain⟨W0,Z02,Z1d,Z0a,Z0b,Z0C,Z06,Z0m,_,_,Z0j,rfl,rfl,Z00,Z0k,Z1S,Z1T,Z0i,Er,hq⟩:=h;cases Z1S;cases Z1T
  refine⟨_,(af (aX (FK (gY (f6 (cE (ao (aY (K:=K) rfl) (by rfl) h_isinstance BN (a5 (pv 4) (a5 (cN (v:=.ty "list") (by rfl) h_list CD rfl) ae))))) (gY (aq my (ao (aL (K:=K) rfl) (by rfl) h_len BW<|a5 (pv 4) ae) aa<|ay _) (gP (aq gK (ao (aL (K:=K) rfl) (by rfl) h_len BW<|a5 (pv 4) ae) (ai bg (ao (aL (K:=K) rfl) (by rfl) h_len BW<|a5 (pv 1) ae) aa)<|ay _))))) (ah<|aB cM) az)
   (af (bS C5 rfl (bG (K:=K) rfl<|pv 4) (ff 5) (ah (aX (FK (gY (f6 (cE (ao (aY (K:=K) rfl) (by rfl) h_isinstance BN (a5 (pv 5) (a5 (cN (v:=.ty "list") (by rfl) h_list CD rfl) ae))))) (gP (f6 (cE (ao (iH (K:=K) rfl rfl) (by rfl) h_all FJ (a5 (eT (N:=["_law_state"]) (cap:=[none]) (iV rfl (by decide +kernel) rfl (by decide +kernel) (by rfl) (by rfl)) rfl (bG (K:=K) rfl<|pv 5) (fun _ _ _ _=>(bQ (i:=0) (show DA (["_law_state"]:List Str) by decide +kernel) rfl (by walk_at "L"))) (fun _ _ _ _=>du) (fun _ _ _ _=>(ao (aY (K:=K) rfl) (by rfl) h_isinstance BN (a5 (pv 0) (a5 (cN (v:=.ty "tuple") (by rfl) h_tuple Et rfl) ae))))) ae))))))) (ah<|aB cM) az)))
   (af (aX (FK (gY (aq (u6 hr.units0) (ar (aF (K:=K) rfl) (pv 4) (kC iy aa)<|fun _ _=>rfl) (cb ae)<|ay _) (gP (aq (l4 (K:=K) rfl<|iA hr) (bW<|a5 aa<|a5 aa ae) (ar (aF (K:=K) rfl) (pv 4) aa<|fun _ _=>rfl) (by with_unfolding_all rfl))))) (ah<|aB cM) az)
   (af (bS C5 rfl (vm (K:=K) rfl rfl h_zip<|a5 (pv 1)<|a5 (fj (hW (K:=K) rfl) (pv 4) gv<|fC<|kC iy aa)<|a5 (fj (hW (K:=K) rfl) (pv 4) (fC aa) gv) ae) (cw (K:=K) (n:=3) rfl rfl<|aE (ff 6)<|aE (ff 5)<|aE (ff 7) cq) (af (cP 8 nr)
   (af (bS C5 rfl (bG (K:=K) rfl<|pv 7) (ff 9)<|ah<|nt (iA hr) (pv 8) (pv 9) cM rfl)
   (ah (bS C5 rfl (bG (K:=K) rfl (pv 5)) (ff 9) (ah (bS C5 rfl (bG (K:=K) rfl (df Z1f (a5 (pv 0) (a5 (pv 6) (a5 (pv 2) (a5 (pv 3) (a5 (pv 9) ae))))))) (ff 10) (ah (aX (aq (r9 (P:=P) (w:=w) (K:=K) rfl rfl rfl (iA hr)) (pv 10) (pv 8) (by with_unfolding_all rfl)) (ah (aB cM)) az)))))))))
   (ah (aB cM)))))),?_⟩
  have E0:Ext W0 W0:=.refl W0;rw[show L2.start ["_law_card_here","_law_strip","_law_loose","_law_bound","_law_lists","_law_states","_law_mark","_law_later","_law_there","_law_state","_law_after"] [Z06,Z0m,.int Z0a,.int Z0b,Z0j]=[some Z06,some Z0m,some<|.int Z0a,some<|.int Z0b,some Z0j,none,none,none,none,none,none]from rfl];unfold A2 at hq;refine dN (Er:=Er) (jv (gV (ju (jF (j:=3) (by decide)<|oi (K:=K) (u:=fun(z:List (List Ii))=>Kw<|z.map fun(z:List Ii)=>Kw<|z.map fun(z:Ii)=>Jo [G7 z.1,G7 z.2]) (sW (u:=fun(z:List Ii)=>Kw<|z.map fun(z:Ii)=>Jo [G7 z.1,G7 z.2])<|sW (u:=fun(z:Ii)=>Jo [G7 z.1,G7 z.2])<|sX kU kU)<|aN Z0i)))<|jv (aw<|bT (bZ<|Dk<|aN Z0i) ag)<|aw<|bT (bZ<|Dk<|aN Z0i)<|aJ (bZ<|Dk<|aN Z0k) ag)<|(Bj hq).imp fun y1 hq W2 e3=>?_;have E0:=E0.trans e3;have Z00:=Bi e3.g Z00;have Z0k:=Bi e3.g Z0k;have Z0i:=Bi e3.g Z0i;by_cases hb200:y1=true
  ·rw[if_pos hb200]at hq ⊢;exact aT (Er:=Er) dU<|fun v4 W5 e6 h7=>hq v4 W5 (E0.trans e6) h7
  ·rw[if_neg hb200]at hq ⊢
   try dsimp only[aA]
   refine gz (Er:=Er) (f:=zt) (s0:=()) (Iv:=fun(s10:Unit)(W11:Wd)(g12:St)=>∃(d13:Option V),g12=[some Z06,some Z0m,some<|.int Z0a,some<|.int Z0b,some Z0j,d13,none,none,none,none,none]/\Ext W0 W11) (bU<|aN Z0i) (Bj hq) ?_ ?_ ?_
   ·intro W25 e26;have E0:=E0.trans e26;have Z00:=Bi e26.g Z00;have Z0k:=Bi e26.g Z0k;have Z0i:=Bi e26.g Z0i;exact⟨_,rfl,E0⟩
   ·intro Wb14 W15 W16 a8 v17 s9 sg18 P19 hW20 hB21 iv e22 h23 hrt24 hq;obtain⟨d13,rfl,E0⟩:=iv;have Z00:=Bi hW20 Z00;have Z0k:=Bi hW20 Z0k;have Z0i:=Bi hW20 Z0i;have E0:=E0.trans e22;have hB21:=hB21.trans e22.g;have Z00:=Bi e22.g Z00;have Z0k:=Bi e22.g Z0k;have Z0i:=Bi e22.g Z0i;refine gn (σ':=[some Z06,some Z0m,some<|.int Z0a,some<|.int Z0b,some Z0j,some v17,none,none,none,none,none]) ?_;unfold zt at hq;refine p8 (Er:=Er) (jv (gV (ju (jF (j:=3) (by decide)<|oi (K:=K) (u:=fun(z:List Ii)=>Kw<|z.map fun(z:Ii)=>Jo [G7 z.1,G7 z.2]) (sW (u:=fun(z:Ii)=>Jo [G7 z.1,G7 z.2])<|sX kU kU)<|aN h23))) (gV (ju (oh (Gi (eD (bU<|aN h23) fun W31 a29 v30 e32 h33 Q36 k37=>by
     refine gn ?_;exact⟨by simp[Keep,bR],((jF (j:=4) (by decide) (oi (K:=K) (sX kU kU) (aN h33))):EV Er _ [some v30] _ _ _) _ (.refl _) _ k37⟩)))))) ((Bj hq).imp fun y40 hq W41 e42=>?_)
    have E0:=E0.trans e42;have hB21:=hB21.trans e42.g;have Z00:=Bi e42.g Z00;have Z0k:=Bi e42.g Z0k;have Z0i:=Bi e42.g Z0i;have h23:=Bi e42.g h23;by_cases hb46:y40=true
    ·rw[if_pos hb46]at hq ⊢;exact aT (Er:=Er) dU<|fun v43 W44 e45 h46=>(hrt24 _ hq) v43 W44 (E0.trans e45) h46
    ·rw[if_neg hb46]at hq ⊢
     try dsimp only[aA]
     try dsimp only
     refine bY (W:=W41) () hB21 ?_ hq;exact⟨_,rfl,E0⟩
   ·intro s47 W48 sg49 hS50 iv hq;obtain⟨d13,rfl,E0⟩:=iv;have Z00:=Bi hS50 Z00;have Z0k:=Bi hS50 Z0k;have Z0i:=Bi hS50 Z0i;refine dN (Er:=Er) (jv (aw<|u7<|Dk<|bI (Dk<|aN Z0i)<|jt ag)<|aw<|jT (eB (K:=K) ag ag)<|Dk<|bI (Dk<|aN Z0i) ag)<|(Bj hq).imp fun y54 hq W55 e56=>?_;have E0:=E0.trans e56;have Z00:=Bi e56.g Z00;have Z0k:=Bi e56.g Z0k;have Z0i:=Bi e56.g Z0i;by_cases hb200:y54=true
    ·rw[if_pos hb200]at hq ⊢;exact aT (Er:=Er) dU<|fun v57 W58 e59 h60=>hq v57 W58 (E0.trans e59) h60
    ·rw[if_neg hb200]at hq ⊢
     try dsimp only[aA]
     refine gz (Er:=Er) (f:=(zv gN Z02 Z0a Z0b)) (s0:=()) (Iv:=fun(s63:Unit)(W64:Wd)(g65:St)=>∃(d66:Option V)(d67:Option V)(d68:Option V)(d69:Option V)(d70:Option V)(d71:Option V),g65=[some Z06,some Z0m,some<|.int Z0a,some<|.int Z0b,some Z0j,d70,d69,d71,d66,d67,d68]/\Ext W0 W64) (vt (fJ<|aN Z0k) (fJ<|DD<|iZ (Dk<|aN Z0i) kP<|kQ<|jt ag)<|fJ<|DD<|iZ (Dk<|aN Z0i) (kQ ag) kP) (Bj hq) ?_ ?_ ?_
     ·intro W83 e84;have E0:=E0.trans e84;have Z00:=Bi e84.g Z00;exact⟨_,_,_,_,_,_,rfl,E0⟩
     ·intro Wb72 W73 W74 a61 v75 s62 sg76 P77 hW78 hB79 iv e80 h81 hrt82 hq;obtain⟨d66,d67,d68,d69,d70,d71,rfl,E0⟩:=iv;have Z00:=Bi hW78 Z00;have E0:=E0.trans e80;have hB79:=hB79.trans e80.g;have Z00:=Bi e80.g Z00;refine sM h81 fun v91 v93 v95 h92 h94 h96=>?_;unfold zv at hq;refine kZ (Er:=Er) (nu (prog:=P) (w:=w) (K:=K) (R:=isB))<|fun p99 W97 e98 hp100 o101=>?_;have fr102:=none_of E0.h hp100;have E0:=E0.trans e98;have hB79:=hB79.trans e98.g;have Z00:=Bi e98.g Z00;have h92:=Bi e98.g h92;have h94:=Bi e98.g h94;have h96:=Bi e98.g h96;refine cR (Er:=Er) (f:=zu) (s0:=([]:List (Ii×Bool))) (Iv:=fun(s105:(List<|Ii×Bool))(W106:Wd)(g107:St)=>∃(d109:Option V),g107=[some Z06,some Z0m,some<|.int Z0a,some<|.int Z0b,some Z0j,some v93,some v91,some v95,some<|.ref p99,d109,d68]/\Ext W0 W106/\OwP P w K isB W106 p99 s105) (bU<|aN h96) (Bj hq) ?_ ?_ ?_
      ·intro W121 e122;have E0:=E0.trans e122;have hB79:=hB79.trans e122.g;have Z00:=Bi e122.g Z00;have h92:=Bi e122.g h92;have h94:=Bi e122.g h94;have h96:=Bi e122.g h96;have o101:=o101.mono e122;exact⟨_,rfl,E0,o101⟩
      ·intro Wb110 W111 W112 a103 v113 s104 sg114 P115 hW116 hB117 iv e118 h119 hq;obtain⟨d109,rfl,E0,o108⟩:=iv;have hB79:=hB79.trans hW116;have Z00:=Bi hW116 Z00;have h92:=Bi hW116 h92;have h94:=Bi hW116 h94;have h96:=Bi hW116 h96;have E0:=E0.trans e118;have hB79:=hB79.trans e118.g;have hB117:=hB117.trans e118.g;have Z00:=Bi e118.g Z00;have h92:=Bi e118.g h92;have h94:=Bi e118.g h94;have h96:=Bi e118.g h96;have o108:=o108.mono e118;refine gn (σ':=[some Z06,some Z0m,some<|.int Z0a,some<|.int Z0b,some Z0j,some v93,some v91,some v95,some<|.ref p99,some v113,d68]) ?_;unfold zu at hq;refine ny (Er:=Er) o108 dU (aN h119)<|(Bj hq).imp fun y128 hq W125 mu126 o127=>?_;have E0:=mu126.e _ E0 fr102;have hB79:=hB79.trans mu126.g;have hB117:=hB117.trans mu126.g;have Z00:=Bi mu126.g Z00;have h92:=Bi mu126.g h92;have h94:=Bi mu126.g h94;have h96:=Bi mu126.g h96;have h119:=Bi mu126.g h119
       try dsimp only
       refine bY (W:=W125) y128 hB117 ?_ hq;exact⟨_,rfl,E0,o127⟩
      ·intro s129 W130 sg131 hS132 iv hq;obtain⟨d109,rfl,E0,o108⟩:=iv;have hB79:=hB79.trans hS132;have Z00:=Bi hS132 Z00;have h92:=Bi hS132 h92;have h94:=Bi hS132 h94;have h96:=Bi hS132 h96;refine j5 (Er:=Er) (f:=(A1 gN Z02 Z0a Z0b a61 s129)) (s0:=()) (Iv:=fun(s135:Unit)(W136:Wd)(g137:St)=>∃(d138:Option V)(d139:Option V),g137=[some Z06,some Z0m,some<|.int Z0a,some<|.int Z0b,some Z0j,some v93,some v91,some v95,some<|.ref p99,d139,d138]/\Ext W0 W136/\OwP P w K isB W136 p99 s129) (bU<|aN h94) (Bj hq) ?_ ?_ ?_
       ·intro W152 e153;have E0:=E0.trans e153;have hB79:=hB79.trans e153.g;have Z00:=Bi e153.g Z00;have h92:=Bi e153.g h92;have h94:=Bi e153.g h94;have h96:=Bi e153.g h96;have o108:=o108.mono e153;exact⟨_,_,rfl,E0,o108⟩
       ·intro Wb141 W142 W143 a133 v144 s134 sg145 P146 hW147 hB148 iv e149 h150 hrt151 hq;obtain⟨d138,d139,rfl,E0,o140⟩:=iv;have hB79:=hB79.trans hW147;have Z00:=Bi hW147 Z00;have h92:=Bi hW147 h92;have h94:=Bi hW147 h94;have h96:=Bi hW147 h96;have E0:=E0.trans e149;have hB79:=hB79.trans e149.g;have hB148:=hB148.trans e149.g;have Z00:=Bi e149.g Z00;have h92:=Bi e149.g h92;have h94:=Bi e149.g h94;have h96:=Bi e149.g h96;have o140:=o140.mono e149;refine gn (σ':=[some Z06,some Z0m,some<|.int Z0a,some<|.int Z0b,some Z0j,some v93,some v91,some v95,some<|.ref p99,some v144,d138]) ?_;unfold A1 at hq;refine j5 (Er:=Er) (f:=(A0 s129)) (s0:=()) (Iv:=fun(s158:Unit)(W159:Wd)(g160:St)=>∃(d161:Option V),g160=[some Z06,some Z0m,some<|.int Z0a,some<|.int Z0b,some Z0j,some v93,some v91,some v95,some<|.ref p99,some v144,d161]/\Ext W0 W159/\OwP P w K isB W159 p99 s129) (bU<|DD<|iF (aN Z00) (aN h92) aW aW<|aN h150) (Bj hq) ?_ ?_ ?_
        ·intro W174 e175;have E0:=E0.trans e175;have hB79:=hB79.trans e175.g;have hB148:=hB148.trans e175.g;have Z00:=Bi e175.g Z00;have h92:=Bi e175.g h92;have h94:=Bi e175.g h94;have h96:=Bi e175.g h96;have o140:=o140.mono e175;have h150:=Bi e175.g h150;exact⟨_,rfl,E0,o140⟩
        ·intro Wb163 W164 W165 a156 v166 s157 sg167 P168 hW169 hB170 iv e171 h172 hrt173 hq;obtain⟨d161,rfl,E0,o162⟩:=iv;have hB79:=hB79.trans hW169;have hB148:=hB148.trans hW169;have Z00:=Bi hW169 Z00;have h92:=Bi hW169 h92;have h94:=Bi hW169 h94;have h96:=Bi hW169 h96;have h150:=Bi hW169 h150;have E0:=E0.trans e171;have hB79:=hB79.trans e171.g;have hB148:=hB148.trans e171.g;have hB170:=hB170.trans e171.g;have Z00:=Bi e171.g Z00;have h92:=Bi e171.g h92;have h94:=Bi e171.g h94;have h96:=Bi e171.g h96;have o162:=o162.mono e171;have h150:=Bi e171.g h150;refine gn (σ':=[some Z06,some Z0m,some<|.int Z0a,some<|.int Z0b,some Z0j,some v93,some v91,some v95,some<|.ref p99,some v144,some v166]) ?_;unfold A0 at hq;refine p8 (Er:=Er) (aw<|rf o162<|aN h172)<|fun W178 e179=>?_;have E0:=E0.trans e179;have hB79:=hB79.trans e179.g;have hB148:=hB148.trans e179.g;have hB170:=hB170.trans e179.g;have Z00:=Bi e179.g Z00;have h92:=Bi e179.g h92;have h94:=Bi e179.g h94;have h96:=Bi e179.g h96;have o162:=o162.mono e179;have h150:=Bi e179.g h150;have h172:=Bi e179.g h172;by_cases hb183:(!(look s129 a156).isSome)=true
         ·rw[if_pos hb183]at hq ⊢;exact aT (Er:=Er) dU<|fun v180 W181 e182 h183=>(hrt82 _<|hrt151 _<|hrt173 _ hq) v180 W181 (E0.trans e182) h183
         ·rw[if_neg hb183]at hq ⊢
          try dsimp only[aA]
          try dsimp only
          refine bY (W:=W178) () hB170 ?_ hq;exact⟨_,rfl,E0,o162⟩
        ·intro s185 W186 sg187 hS188 iv hq;obtain⟨d161,rfl,E0,o162⟩:=iv;have hB79:=hB79.trans hS188;have hB148:=hB148.trans hS188;have Z00:=Bi hS188 Z00;have h92:=Bi hS188 h92;have h94:=Bi hS188 h94;have h96:=Bi hS188 h96;have h150:=Bi hS188 h150
         try dsimp only
         refine bY (W:=W186) () hB148 ?_ hq;exact⟨_,_,rfl,E0,o162⟩
       ·intro s189 W190 sg191 hS192 iv hq;obtain⟨d138,d139,rfl,E0,o140⟩:=iv;have hB79:=hB79.trans hS192;have Z00:=Bi hS192 Z00;have h92:=Bi hS192 h92;have h94:=Bi hS192 h94;have h96:=Bi hS192 h96
        try dsimp only
        refine bY (W:=W190) () hB79 ?_ hq;exact⟨_,_,_,_,_,_,rfl,E0⟩
     ·intro s193 W194 sg195 hS196 iv hq;obtain⟨d66,d67,d68,d69,d70,d71,rfl,E0⟩:=iv;exact aT (Er:=Er) dU<|fun v197 W198 e199 h200=>hq v197 W198 (E0.trans e199) h200
theorem B6{f:Addr}{fd:C4}(F:Fun K "twisting" "twisting" (tp 6) f fd){Z1F:Addr}(Z3w:mg "STEPS"=some (.ref Z1F))(Z3x:DictK K w Z1F [(Ei<|Bu "f",.int<|1),(Ei<|Bu "b",.int<|-1),(Ei<|Bu "i",.int<|0)]):FnOk P w K mg base CX0 (1) f fd ["tablet","turn"] (bJ (qA K) isS (rs isI)<|A3):=by
 have SC:FnScope ["tablet","turn","step"] ["tablet","turn"] (defScope<|tp 6):=by walk_at "F"
 refine F.ok SC (fun vs H Q E h=>?_)<|fun cdv A outer s H vs Q E hr h=>?_;·obtain⟨_,_,_,_,_,_,rfl,_⟩:=h;rfl
 ·obtain⟨W0,tablet,turn,Z0o,_,rfl,rfl,Z08,Z28,Er,hq⟩:=h;cases Z28
  refine⟨_,(af (cP 2 (kN (K:=K) (w:=w) rfl rfl (eQ (v:=.ref _) (by rfl) Z3w rfl) (pv 1)<|fun _ _=>rfl))
   (ah (aB (gZ (aq bE (ar (aM (K:=K) rfl) (pv 0) aa (fun _ _=>rfl)) bq (ay _)) (pv 2) (kC iy (pv 2)))))),?_⟩
  have E0:Ext W0 W0:=.refl W0;unfold A3 at hq;refine au (Er:=Er) (qL Z3x (by decide +kernel) dY)<|(Bj hq).imp fun y3 hq v4 W1 e2 h5=>?_;cases h5;have E0:=E0.trans e2;have Z08:=Bi e2.g Z08;exact aT (Er:=Er) (p4 (aw (gb (aZ (f:=fun(b:Cd)=>b.1) lH<|aN Z08) (bt (x:=Bu "S") (l:=[83]) (gF _ _ (by decide +kernel))))) aW<|jt aW)<|Cn hq fun y6 hq v7 W8 e9 h10=>hq v7 W8 (E0.trans e9) h10
theorem B7{f:Addr}{fd:C4}(F:Fun K "state_behind" "state_behind" (tp 17) f fd){oE:Cd->Tx->Res Int}(Z1o:Cal P w K mg base "twisting" ["tablet","turn"] (1) (bJ (qA K) isS (rs isI) oE)):FnOk P w K mg base CX0 (2) f fd ["tablet","state","turn"] (fe (qA K) (qC K) isS (rs<|qC K)<|A4 oE):=by
 have SC:FnScope ["tablet","state","turn","twist","idle"] ["tablet","state","turn"] (defScope<|tp 17):=by walk_at "F"
 refine F.ok SC (fun vs H Q E h=>?_)<|fun cdv A outer s H vs Q E hr h=>?_;·obtain⟨_,_,_,_,_,_,_,_,rfl,_⟩:=h;rfl
 ·obtain⟨W0,tablet,state,turn,Z0o,Z20,_,rfl,rfl,Z08,Z1G,Z28,Er,hq⟩:=h;cases Z28;refine⟨_,(af (f9 (pv 1)<|cw (K:=K) (n:=2) rfl rfl<|aE (ff 3)<|aE (ff 4) cq)
   (ah (aB (bW (a5 (ai bg (pv 3) (df Z1o (a5 (pv 0) (a5 (pv 2) ae)))) (a5 (gZ (aq bE (pv 2) bq (ay _)) (ai bg (pv 4) aa) aa) ae)))))),?_⟩
  have E0:Ext W0 W0:=.refl W0;unfold A4 at hq;refine fq (Er:=Er) (aN Z1G)<|fun v1 W2 e3 h4=>?_;have E0:=E0.trans e3;have Z08:=Bi e3.g Z08;refine lJ h4 fun v5 v7 h6 h8=>?_;cases h6;cases h8;exact aT (Er:=Er) (eB (K:=K) (aJ aW<|aU (aN Z08) dY) (p4 (aw (gb dY (bt (x:=Bu "i") (l:=[105]) (gF _ _ (by decide +kernel))))) (aJ aW ag) ag))<|Cn hq fun y12 hq v13 W14 e15 h16=>hq v13 W14 (E0.trans e15) h16
theorem B8{f:Addr}{fd:C4}(F:Fun K "within" "within" (tp 18) f fd)(h_abs:mg "abs"=none):FnOk P w K mg base CX0 (1) f fd ["state","loose","bound"] (fe (qC K) isI isI (rs isB)<|A5):=by
 have SC:FnScope ["state","loose","bound","twist","idle"] ["state","loose","bound"] (defScope<|tp 18):=by walk_at "F"
 refine F.ok SC (fun vs H Q E h=>?_)<|fun cdv A outer s H vs Q E hr h=>?_;·obtain⟨_,_,_,_,_,_,_,_,rfl,_⟩:=h;rfl
 ·obtain⟨W0,state,loose,bound,Z20,_,_,rfl,rfl,Z1G,Z1H,Z1I,Er,hq⟩:=h;cases Z1H;cases Z1I;refine⟨_,(af (f9 (pv 0)<|cw (K:=K) (n:=2) rfl rfl<|aE (ff 3)<|aE (ff 4) cq)
   (ah (aB (iw (cV oQ (ao jj (by rfl) h_abs FI (a5 (pv 3) ae)) (pv 2) (ay _)) (iu (cV oQ (pv 4) (pv 1) (ay _))))))),?_⟩
  have E0:Ext W0 W0:=.refl W0;unfold A5 at hq;refine fq (Er:=Er) (aN Z1G)<|fun v1 W2 e3 h4=>?_;have E0:=E0.trans e3;refine lJ h4 fun v5 v7 h6 h8=>?_;cases h6;cases h8;exact aT (Er:=Er) (sI (bT (oa aW) aW)<|bT aW aW)<|Cn hq fun y9 hq v10 W11 e12 h13=>hq v10 W11 (E0.trans e12) h13
theorem B9{f:Addr}{fd:C4}(F:Fun K "twisted" "twisted" (tp 16) f fd){Z1J:Tok}(Z1p:mg "HOLES"=some (.int 4 Z1J)):FnOk P w K mg base CX0 (1) f fd ["tablet","twist"] (bJ (qA K) isI (rs<|qA K)<|A6):=by
 have SC:FnScope ["tablet","twist","lay","holes","stand"] ["tablet","twist"] (defScope<|tp 16):=by walk_at "F"
 refine F.ok SC (fun vs H Q E h=>?_)<|fun cdv A outer s H vs Q E hr h=>?_;·obtain⟨_,_,_,_,_,_,rfl,_⟩:=h;rfl
 ·obtain⟨W0,tablet,twist,Z0o,_,rfl,rfl,Z08,Z4y,Er,hq⟩:=h;cases Z4y;refine⟨_,(af (f9 (pv 0)<|cw (K:=K) (n:=3) rfl rfl<|aE (ff 2)<|aE (ff 3)<|aE (ff 4) cq)
   (ah (aB (bW (a5 (pv 2) (a5 (pv 3) (a5 (ai av (gZ (aq bE (pv 2) bq (ay _)) (ai bg (pv 4) (pv 1)) (ai dH (pv 4) (pv 1))) (eQ (v:=.int 4) (by rfl) Z1p ⟨_,rfl⟩)) ae))))))),?_⟩
  have E0:Ext W0 W0:=.refl W0;unfold A6 at hq;refine fq (Er:=Er) (aN Z08)<|fun v1 W2 e3 h4=>?_;have E0:=E0.trans e3;refine sM h4 fun v5 v7 v9 h6 h8 h10=>?_;cases h6;cases h8;cases h10;exact aT (Er:=Er) (d9 (K:=K) dY dY (aj (fun _=>by decide) (p4 (aw (gb dY (bt (x:=Bu "S") (l:=[83]) (gF _ _ (by decide +kernel))))) (aJ aW aW)<|aJ aW aW)))<|Cn hq fun y13 hq v14 W15 e16 h17=>hq v14 W15 (E0.trans e16) h17
theorem zw{f:Addr}{fd:C4}(F:Fun K "top" "top" (tp 4) f fd){Z1J:Tok}(Z1p:mg "HOLES"=some (.int 4 Z1J)):FnOk P w K mg base CX0 (1) f fd ["tablet"] (ei (qA K) (rs isS)<|pT):=by
 have SC:FnScope ["tablet","lay","holes","stand"] ["tablet"] (defScope<|tp 4):=by walk_at "F"
 refine F.ok SC (fun vs H Q E h=>?_)<|fun cdv A outer s H vs Q E hr h=>?_;·obtain⟨_,_,_,_,rfl,_⟩:=h;rfl
 ·obtain⟨W0,tablet,Z0o,rfl,rfl,Z08,Er,hq⟩:=h;refine⟨_,(af (f9 (pv 0)<|cw (K:=K) (n:=3) rfl rfl<|aE (ff 1)<|aE (ff 2)<|aE (ff 3) cq)
   (ah (aB (ar bN (pv 2) (ai av (pv 3) (eQ (v:=.int 4) (by rfl) Z1p ⟨_,rfl⟩)) (fun _ _=>rfl))))),?_⟩
  have E0:Ext W0 W0:=.refl W0;unfold pT at hq;refine fq (Er:=Er) (aN Z08)<|fun v1 W2 e3 h4=>?_;have E0:=E0.trans e3;refine sM h4 fun v5 v7 v9 h6 h8 h10=>?_;cases h6;cases h8;cases h10;exact aT (Er:=Er) (bO dY (aj (fun _=>by decide) aW))<|Cn hq fun y11 hq v12 W13 e14 h15=>hq v12 W13 (E0.trans e14) h15
theorem Ba{f:Addr}{fd:C4}(F:Fun K "bottom" "bottom" (tp 5) f fd){Z1J:Tok}(Z1p:mg "HOLES"=some (.int 4 Z1J)):FnOk P w K mg base CX0 (1) f fd ["tablet"] (ei (qA K) (rs isS)<|A7):=by
 have SC:FnScope ["tablet","lay","holes","stand"] ["tablet"] (defScope<|tp 5):=by walk_at "F"
 refine F.ok SC (fun vs H Q E h=>?_)<|fun cdv A outer s H vs Q E hr h=>?_;·obtain⟨_,_,_,_,rfl,_⟩:=h;rfl
 ·obtain⟨W0,tablet,Z0o,rfl,rfl,Z08,Er,hq⟩:=h;refine⟨_,(af (f9 (pv 0)<|cw (K:=K) (n:=3) rfl rfl<|aE (ff 1)<|aE (ff 2)<|aE (ff 3) cq)
   (ah (aB (ar bN (pv 2) (ai av (ai bg (pv 3) aa) (eQ (v:=.int 4) (by rfl) Z1p ⟨_,rfl⟩)) (fun _ _=>rfl))))),?_⟩
  have E0:Ext W0 W0:=.refl W0;unfold A7 at hq;refine fq (Er:=Er) (aN Z08)<|fun v1 W2 e3 h4=>?_;have E0:=E0.trans e3;refine sM h4 fun v5 v7 v9 h6 h8 h10=>?_;cases h6;cases h8;cases h10;exact aT (Er:=Er) (bO dY (aj (fun _=>by decide)<|aJ aW ag))<|Cn hq fun y11 hq v12 W13 e14 h15=>hq v12 W13 (E0.trans e14) h15
theorem Bb{f:Addr}{fd:C4}(F:Fun K "left_place" "left_place" (tp 9) f fd){iq:Cd->Res Tx}{wa:Cd->Res Tx}{oE:Cd->Tx->Res Int}(C_top:Cal P w K mg base "top" ["tablet"] (1) (ei (qA K) (rs isS) iq))(Z3b:Cal P w K mg base "bottom" ["tablet"] (1) (ei (qA K) (rs isS) wa))(Z1o:Cal P w K mg base "twisting" ["tablet","turn"] (1) (bJ (qA K) isS (rs isI) oE)){Z1x:Addr}(Z3c:mg "SLANTS"=some (.ref Z1x))(Z3d:DictK K w Z1x [(Eh<|1,.str<|Bu "s"),(Eh<|-1,.str<|Bu "z"),(Eh<|0,.str<|Bu "o")]):FnOk P w K mg base CX0 (2) f fd ["tablet","turn"] (bJ (qA K) isS (rs<|qB K)<|A8 iq wa oE):=by
 have SC:FnScope ["tablet","turn"] ["tablet","turn"] (defScope<|tp 9):=by walk_at "F"
 refine F.ok SC (fun vs H Q E h=>?_)<|fun cdv A outer s H vs Q E hr h=>?_;·obtain⟨_,_,_,_,_,_,rfl,_⟩:=h;rfl
 ·obtain⟨W0,tablet,turn,Z0o,_,rfl,rfl,Z08,Z28,Er,hq⟩:=h;cases Z28;refine⟨_,(ah (aB (bW (a5 (df C_top<|a5 (pv 0) ae) (a5 (df Z3b<|a5 (pv 0) ae) (a5 (kN (K:=K) (w:=w) rfl rfl (eQ (v:=.ref _) (by rfl) Z3c rfl) (df Z1o<|a5 (pv 0)<|a5 (pv 1) ae)<|fun _ _=>rfl) ae)))))),?_⟩;have E0:Ext W0 W0:=.refl W0;unfold A8 at hq;exact aT (Er:=Er) (d9 (K:=K) (d4<|aN Z08) (d4<|aN Z08) (qM Z3d (by decide +kernel)<|aU (aN Z08) dY))<|Cn hq fun y5 hq v6 W7 e8 h9=>hq v6 W7 (E0.trans e8) h9
theorem Bc{f:Addr}{fd:C4}(F:Fun K "suits" "suits" (tp 13) f fd){Z3R:Tok}(Z3S:mg "WORN"=some (.str (Bu "?") Z3R)):FnOk P w K mg base CX0 (1) f fd ["sign","left"] (bJ isS isS (rs isB)<|A9):=by
 have SC:FnScope ["sign","left"] ["sign","left"] (defScope<|tp 13):=by walk_at "F"
 refine F.ok SC (fun vs H Q E h=>?_)<|fun cdv A outer s H vs Q E hr h=>?_;·obtain⟨_,_,_,_,_,_,rfl,_⟩:=h;rfl
 ·obtain⟨W0,sign,left,_,_,rfl,rfl,Z4G,Z4H,Er,hq⟩:=h;cases Z4G;cases Z4H;refine⟨_,(ah (aB (yu (cV bE (pv 1) (eQ (v:=.str<|Bu "?") (by rfl) Z3S ⟨_,rfl⟩)<|ay _)<|iu<|cV bE (pv 1) (pv 0)<|ay _))),?_⟩;have E0:Ext W0 W0:=.refl W0;unfold A9 at hq;exact aT (Er:=Er) (yP (gb dY (bt (x:=Bu "?") (l:=[63]) (gF _ _ (by decide +kernel))))<|gb dY dY)<|Cn hq fun y1 hq v2 W3 e4 h5=>hq v2 W3 (E0.trans e4) h5
theorem Bd{f:Addr}{fd:C4}(F:Fun K "agrees" "agrees" (tp 12) f fd){uV:Tx->Tx->Res Bool}(Z3z:Cal P w K mg base "suits" ["sign","left"] (1) (bJ isS isS (rs isB) uV))(h_all:mg "all"=none)(h_zip:mg "zip"=none):FnOk P w K mg base CX0 (2) f fd ["place","mark"] (bJ (qB K) (qB K) (rs isB)<|Aa uV):=by
 have SC:FnScope ["place","mark"] ["place","mark"] (defScope<|tp 12):=by walk_at "F"
 refine F.ok SC (fun vs H Q E h=>?_)<|fun cdv A outer s H vs Q E hr h=>?_;·obtain⟨_,_,_,_,_,_,rfl,_⟩:=h;rfl
 ·obtain⟨W0,place,mark,Z43,Z1a,rfl,rfl,Z4A,Z0p,Er,hq⟩:=h;refine⟨_,(ah (aB (ao (iH (K:=K) rfl rfl) (by rfl) h_all FJ (a5 (eT (N:=["sign","left"]) (cap:=[none,none]) (iV rfl (by decide +kernel) rfl (by decide +kernel) (by rfl) (by rfl)) rfl (gw (K:=K) rfl rfl h_zip<|a5 (pv 0)<|a5 (pv 1) ae) (fun _ _ _ _=>(cw (K:=K) (n:=2) rfl rfl (aE (bQ (i:=0) (show DA (["sign","left"]:List Str) by decide +kernel) rfl (by walk_at "L")) (aE (bQ (i:=1) (show DA (["sign","left"]:List Str) by decide +kernel) rfl (by walk_at "L")) cq)))) (fun _ _ _ _=>du)<|fun _ _ _ _=>(df Z3z<|a5 (pv 0)<|a5 (pv 1) ae)) ae)))),?_⟩;have E0:Ext W0 W0:=.refl W0;rw[show L2.start ["place","mark"] [Z43,Z1a]=[some Z43,some Z1a]from rfl];unfold Aa at hq;exact aT (Er:=Er) (oh (Gi (eD (f:=fun(a1:Tx×Tx)=>uV a1.1 a1.2) (jz (j4<|aN Z4A)<|j4<|aN Z0p) fun W3 a1 v2 e4 h5 Q10 k11=>by
   refine lJ h5 fun v6 v8 h7 h9=>?_;cases h7;cases h9;exact⟨by simp[Keep,bR],((aU dY dY):EV Er _ [some (.str (sOf a1.1)),some (.str (sOf a1.2))] _ _ _) _ (.refl _) _ k11⟩))) (Cn hq fun y13 hq v14 W15 e16 h17=>hq v14 W15 (E0.trans e16) h17)
theorem Be{f:Addr}{fd:C4}(F:Fun K "leaves" "leaves" (tp 19) f fd){wc:Pl->Pl->Res Bool}{wb:Cd->Tx->Res Pl}{w9:Cd->Int->Res Cd}(Z3e:Cal P w K mg base "agrees" ["place","mark"] (2) (bJ (qB K) (qB K) (rs isB) wc))(Z29:Cal P w K mg base "left_place" ["tablet","turn"] (2) (bJ (qA K) isS (rs<|qB K) wb))(Z30:Cal P w K mg base "twisted" ["tablet","twist"] (1) (bJ (qA K) isI (rs<|qA K) w9)):FnOk P w K mg base CX0 (3) f fd ["tablet","state","turn","mark"] (mN (qA K) (qC K) isS (qB K) (rs isB)<|Ab wc wb w9):=by
 have SC:FnScope ["tablet","state","turn","mark"] ["tablet","state","turn","mark"] (defScope<|tp 19):=by walk_at "F"
 refine F.ok SC (fun vs H Q E h=>?_)<|fun cdv A outer s H vs Q E hr h=>?_;·obtain⟨_,_,_,_,_,_,_,_,_,_,rfl,_⟩:=h;rfl
 ·obtain⟨W0,tablet,state,turn,mark,Z0o,Z20,_,Z1a,rfl,rfl,Z08,Z1G,Z28,Z0p,Er,hq⟩:=h;cases Z28;refine⟨_,(ah<|aB<|df Z3e<|a5 (df Z29<|a5 (df Z30<|a5 (pv 0)<|a5 (ar (aM (K:=K) rfl) (pv 1) aa<|fun _ _=>rfl) ae)<|a5 (pv 2) ae)<|a5 (pv 3) ae),?_⟩;have E0:Ext W0 W0:=.refl W0;unfold Ab at hq;exact aT (Er:=Er) (aU (aU (aU (aN Z08)<|aZ (f:=fun(b:Ii)=>b.1) xF<|aN Z1G) dY)<|aN Z0p)<|Cn hq fun y3 hq v4 W5 e6 h7=>hq v4 W5 (E0.trans e6) h7
theorem Bf{f:Addr}{fd:C4}(F:Fun K "onward" "onward" (tp 20) f fd){uU:Cd->Ii->Tx->Res Ii}{ug:Ii->Int->Int->Res Bool}{uh:Cd->Ii->Tx->Pl->Res Bool}(Z1K:Cal P w K mg base "state_behind" ["tablet","state","turn"] (2) (fe (qA K) (qC K) isS (rs<|qC K) uU))(Z3f:Cal P w K mg base "within" ["state","loose","bound"] (1) (fe (qC K) isI isI (rs isB) ug))(Z3g:Cal P w K mg base "leaves" ["tablet","state","turn","mark"] (3) (mN (qA K) (qC K) isS (qB K) (rs isB) uh)){Z3A:Tok}(Z3B:mg "TURNS"=some (.str (Bu "fbi") Z3A)):FnOk P w K mg base CX0 (4) f fd ["tablet","mark","loose","bound","state"] (gW (qA K) (qB K) isI isI (qC K) (ro<|isT2 K isS<|qC K)<|Ac uU ug uh):=by
 have SC:FnScope ["tablet","mark","loose","bound","state","moves"] ["tablet","mark","loose","bound","state"] (defScope<|tp 20):=by walk_at "F"
 refine F.ok SC (fun vs H Q E h=>?_)<|fun cdv A outer s H vs Q E hr h=>?_;·obtain⟨_,_,_,_,_,_,_,_,_,_,_,_,rfl,_⟩:=h;rfl
 ·obtain⟨W0,tablet,mark,loose,bound,state,Z0o,Z1a,_,_,Z20,rfl,rfl,Z08,Z0p,Z1H,Z1I,Z1G,Er,hq⟩:=h;cases Z1H;cases Z1I
  refine⟨_,(af (fE (i:=5) SC.nd rfl (by walk_at "L") (N:=["turn","tablet","state"]) (cap:=[none,some 0,some 4]) (iV rfl (by decide +kernel) rfl (by decide +kernel) (by rfl) (by rfl)) rfl (jn (eQ (v:=.str<|Bu "fbi") (by rfl) Z3B ⟨_,rfl⟩)) (fun _ _ _ _=>(bQ (i:=0) (show DA (["turn","tablet","state"]:List Str) by decide +kernel) rfl (by walk_at "L"))) (fun _ _ _ _=>du)<|fun _ _ _ _=>(bW<|a5 (pv 0)<|a5 (df Z1K<|a5 (pv 1)<|a5 (pv 2)<|a5 (pv 0) ae) ae))
   (ah (aB (eT (N:=["turn","after","loose","bound","tablet","mark"]) (cap:=[none,none,some 2,some 3,some 0,some 1]) (iV rfl (by decide +kernel) rfl (by decide +kernel) (by rfl) (by rfl)) rfl (bG (K:=K) rfl (pv 5)) (fun _ _ _ _=>(cw (K:=K) (n:=2) rfl rfl (aE (bQ (i:=0) (show DA (["turn","after","loose","bound","tablet","mark"]:List Str) by decide +kernel) rfl (by walk_at "L")) (aE (bQ (i:=1) (show DA (["turn","after","loose","bound","tablet","mark"]:List Str) by decide +kernel) rfl (by walk_at "L")) cq)))) (fun _ _ _ _=>(vi (FK (dq (cE (df Z3f (a5 (pv 1) (a5 (pv 2) (a5 (pv 3) ae))))) (d5 (cE (df Z3g (a5 (pv 4) (a5 (pv 1) (a5 (pv 0) (a5 (pv 5) ae))))))))))) (fun _ _ _ _=>(bW (a5 (pv 0) (a5 (pv 1) ae)))))))),?_⟩
  have E0:Ext W0 W0:=.refl W0;rw[show L2.start ["tablet","mark","loose","bound","state","moves"] [Z0o,Z1a,.int loose,.int bound,Z20]=[some Z0o,some Z1a,some<|.int loose,some<|.int bound,some Z20,none]from rfl];unfold Ac at hq;refine au (Er:=Er) (DD (eD (f:=fun(a3:Tx)=>(uU tablet state a3).bind fun y12=>Bp (a3,y12)) (jy (bt (x:=Bu "fbi") (l:=[102,98,105]) (gF _ _ (by decide +kernel)))) fun W5 a3 v4 e6 h7 Q13 k14=>by
   have h8:=C0 (R:=sh (qA K)) e6 Z08;have h9:=C0 (R:=sh (qC K)) e6 Z1G;cases h7;refine gn ?_;exact⟨by simp[Keep,bR],((eB (K:=K) dY (jx (aN h8) (aN h9) dY)):EV Er _ [some (.str (sOf a3)),some Z0o,some Z20] _ _ _) _ (.refl _) _ k14⟩)) ((Bj hq).imp fun y15 hq v16 W1 e2 h17=>?_)
  have E0:=E0.trans e2;have Z08:=Bi e2.g Z08;have Z0p:=Bi e2.g Z0p;exact p7 (Er:=Er) (sL (f:=fun(a18:Tx×Ii)=>((ug a18.2 loose bound).bind fun y31=>if y31 then uh tablet a18.2 a18.1 mark else Bp false).bind fun y33=>if y33 then Bp (some (a18.1,a18.2))else Bp none) (bU<|aN h17) fun W20 a18 v19 e21 h22 Q29 k30=>by
   have h23:=C0 (R:=sh<|qA K) e21 Z08;have h24:=C0 (R:=sh<|qB K) e21 Z0p;refine lJ h22 fun v25 v27 h26 h28=>?_;cases h26;refine⟨by simp[Keep,bR],((ee (ju<|jx (aN h28) aW aW)<|ju<|sJ (aN h23) (aN h28) dY<|aN h24):TV Er _ [some (.str<|sOf a18.1),some v27,some<|.int loose,some<|.int bound,some Z0o,some Z1a] _ _) _ (.refl _) _ (Cn (P:=fun b32=>(if b32=true then Bp (some (a18.1,a18.2))else Bp none:Res (Option<|Tx×Ii)).OkE Er _) (Bj k30) fun b32 k36 W34 e35=>?_)⟩;cases b32 with
   |false=>exact k36 none _ e35 trivial
   |true=>
    rw[if_pos rfl];refine EV.go (Er:=Er) (σ:=[some (.str (sOf a18.1)),some v27,some (.int loose),some (.int bound),some Z0o,some Z1a]) (W1:=W34) e35 (eB (K:=K) dY (aN h28)) ?_;exact fun u39 W37 e38 h40=>k36 (some u39) _ (e35.trans e38) h40) (Cn hq fun y42 hq p43 W44 e45 hp46 o47=>hq p43 W44 (E0.trans e45) (none_of E0.h hp46) o47)
theorem Bg{f:Addr}{fd:C4}(F:Fun K "led_on" "led_on" (tp 23) f fd){rJ:Cd->Pl->Int->Int->Ii->Res (List<|Tx×Ii)}(Z3h:Cal P w K mg base "onward" ["tablet","mark","loose","bound","state"] (4) (gW (qA K) (qB K) isI isI (qC K) (ro<|isT2 K isS<|qC K) rJ))(h_set:mg "set"=none):FnOk P w K mg base CX0 (5) f fd ["tablet","mark","loose","bound","states","following"] (vR (qA K) (qB K) isI isI (qE K) (qE K) (rs isB)<|Af rJ):=by
 have SC:FnScope ["tablet","mark","loose","bound","states","following","told","state","turn","after"] ["tablet","mark","loose","bound","states","following"] (defScope<|tp 23):=by walk_at "F"
 refine F.ok SC (fun vs H Q E h=>?_)<|fun cdv A outer s H vs Q E hr h=>?_;·obtain⟨_,_,_,_,_,_,_,_,_,_,_,_,_,_,rfl,_⟩:=h;rfl
 ·obtain⟨W0,tablet,mark,loose,bound,states,following,Z0o,Z1a,_,_,Z3i,Z2r,rfl,rfl,Z08,Z0p,Z1H,Z1I,Z3j,Z42,Er,hq⟩:=h;cases Z1H;cases Z1I
  refine⟨_,(af (cP 6 (cC (rj (P:=P) (w:=w) (K:=K) rfl rfl rfl hr.hd<|xT hr) (by rfl) h_set KH<|a5 (pv 5) ae))
   (af (bS C5 rfl (bG (K:=K) rfl<|pv 4) (ff 7) (ah (bS C5 rfl (bG (K:=K) rfl<|df Z3h<|a5 (pv 0)<|a5 (pv 1)<|a5 (pv 2)<|a5 (pv 3)<|a5 (pv 7) ae) (cw (K:=K) (n:=2) rfl rfl<|aE (ff 8)<|aE (ff 9) cq) (ah (aX (aq (rk (P:=P) (w:=w) (K:=K) rfl rfl rfl<|iA hr) (pv 9) (pv 6) (by with_unfolding_all rfl)) (ah<|aB cM) az)))))
   (ah (aB cM)))),?_⟩
  have E0:Ext W0 W0:=.refl W0;unfold Af at hq;refine au (Er:=Er) (vQ (P:=P) (w:=w) (K:=K)<|Dk<|aN Z42)<|(Bj hq).imp fun y3 hq v4 W1 e2 h5=>?_;have E0:=E0.trans e2;have Z08:=Bi e2.g Z08;have Z0p:=Bi e2.g Z0p;have Z3j:=Bi e2.g Z3j;refine gz (Er:=Er) (f:=(Ae rJ tablet mark loose bound y3)) (s0:=()) (Iv:=fun(s8:Unit)(W9:Wd)(g10:St)=>∃(d11:Option V)(d12:Option V)(d13:Option V),g10=[some Z0o,some Z1a,some<|.int loose,some<|.int bound,some Z3i,some Z2r,some v4,d13,d11,d12]/\Ext W0 W9) (bU<|aN Z3j) (Bj hq) ?_ ?_ ?_
  ·intro W25 e26;have E0:=E0.trans e26;have Z08:=Bi e26.g Z08;have Z0p:=Bi e26.g Z0p;have h5:=Bi e26.g h5;exact⟨_,_,_,rfl,E0⟩
  ·intro Wb14 W15 W16 a6 v17 s7 sg18 P19 hW20 hB21 iv e22 h23 hrt24 hq;obtain⟨d11,d12,d13,rfl,E0⟩:=iv;have Z08:=Bi hW20 Z08;have Z0p:=Bi hW20 Z0p;have h5:=Bi hW20 h5;have E0:=E0.trans e22;have hB21:=hB21.trans e22.g;have Z08:=Bi e22.g Z08;have Z0p:=Bi e22.g Z0p;have h5:=Bi e22.g h5;refine gn (σ':=[some Z0o,some Z1a,some<|.int loose,some<|.int bound,some Z3i,some Z2r,some v4,some v17,d11,d12]) ?_;unfold Ae at hq;refine j5 (Er:=Er) (f:=(Ad y3)) (s0:=()) (Iv:=fun(s31:Unit)(W32:Wd)(g33:St)=>∃(d34:Option V)(d35:Option V),g33=[some Z0o,some Z1a,some<|.int loose,some<|.int bound,some Z3i,some Z2r,some v4,some v17,d34,d35]/\Ext W0 W32) (bU<|DD<|iF (aN Z08) (aN Z0p) aW aW<|aN h23) (Bj hq) ?_ ?_ ?_
   ·intro W47 e48;have E0:=E0.trans e48;have hB21:=hB21.trans e48.g;have Z08:=Bi e48.g Z08;have Z0p:=Bi e48.g Z0p;have h5:=Bi e48.g h5;have h23:=Bi e48.g h23;exact⟨_,_,rfl,E0⟩
   ·intro Wb36 W37 W38 a29 v39 s30 sg40 P41 hW42 hB43 iv e44 h45 hrt46 hq;obtain⟨d34,d35,rfl,E0⟩:=iv;have hB21:=hB21.trans hW42;have Z08:=Bi hW42 Z08;have Z0p:=Bi hW42 Z0p;have h5:=Bi hW42 h5;have h23:=Bi hW42 h23;have E0:=E0.trans e44;have hB21:=hB21.trans e44.g;have hB43:=hB43.trans e44.g;have Z08:=Bi e44.g Z08;have Z0p:=Bi e44.g Z0p;have h5:=Bi e44.g h5;have h23:=Bi e44.g h23;refine lJ h45 fun v53 v55 h54 h56=>?_;cases h54;unfold Ad at hq;refine p8 (Er:=Er) (aw<|oD (aN h56)<|aN h5)<|fun W57 e58=>?_;have E0:=E0.trans e58;have hB21:=hB21.trans e58.g;have hB43:=hB43.trans e58.g;have Z08:=Bi e58.g Z08;have Z0p:=Bi e58.g Z0p;have h5:=Bi e58.g h5;have h23:=Bi e58.g h23;have h56:=Bi e58.g h56;by_cases hb62:(!y3.contains a29.2)=true
    ·rw[if_pos hb62]at hq ⊢;exact aT (Er:=Er) dU<|fun v59 W60 e61 h62=>(hrt24 _<|hrt46 _ hq) v59 W60 (E0.trans e61) h62
    ·rw[if_neg hb62]at hq ⊢
     try dsimp only[aA]
     try dsimp only
     refine bY (W:=W57) () hB43 ?_ hq;exact⟨_,_,rfl,E0⟩
   ·intro s64 W65 sg66 hS67 iv hq;obtain⟨d34,d35,rfl,E0⟩:=iv;have hB21:=hB21.trans hS67;have Z08:=Bi hS67 Z08;have Z0p:=Bi hS67 Z0p;have h5:=Bi hS67 h5;have h23:=Bi hS67 h23
    try dsimp only
    refine bY (W:=W65) () hB21 ?_ hq;exact⟨_,_,_,rfl,E0⟩
  ·intro s68 W69 sg70 hS71 iv hq;obtain⟨d11,d12,d13,rfl,E0⟩:=iv;exact aT (Er:=Er) dU<|fun v72 W73 e74 h75=>hq v72 W73 (E0.trans e74) h75
theorem Bh{f:Addr}{fd:C4}(F:Fun K "holds" "holds" (tp 22) f fd){wd:Cd->Pl->Int->Int->(List Ii)->(List Ii)->Res Bool}(Z3k:Cal P w K mg base "led_on" ["tablet","mark","loose","bound","states","following"] (5) (vR (qA K) (qB K) isI isI (qE K) (qE K) (rs isB) wd))(h_all:mg "all"=none)(h_len:mg "len"=none)(h_range:mg "range"=none){Z21:Addr}(Z3C:mg "START"=some (.ref Z21))(Z3D:∀H,SqT K H Z21 [.int (0),.int<|0]):FnOk P w K mg base CX0 (6) f fd ["tablet","strip","loose","bound","lists"] (gW (qA K) (qD K) isI isI (isL<|qE K) (rs isB)<|Ag wd):=by
 have SC:FnScope ["tablet","strip","loose","bound","lists"] ["tablet","strip","loose","bound","lists"] (defScope<|tp 22):=by walk_at "F"
 refine F.ok SC (fun vs H Q E h=>?_)<|fun cdv A outer s H vs Q E hr h=>?_;·obtain⟨_,_,_,_,_,_,_,_,_,_,_,_,rfl,_⟩:=h;rfl
 ·obtain⟨W0,tablet,strip,loose,bound,lists,Z0o,Z3E,_,_,Z3F,rfl,rfl,Z08,Z22,Z1H,Z1I,Z1g,Er,hq⟩:=h;cases Z1H;cases Z1I
  refine⟨_,(af (aX (FK (gY (aq my (ao (aL (K:=K) rfl) (by rfl) h_len BW<|a5 (pv 4) ae) aa<|ay _) (gP (aq gK (ao (aL (K:=K) rfl) (by rfl) h_len BW<|a5 (pv 4) ae) (ai bg (ao (aL (K:=K) rfl) (by rfl) h_len BW<|a5 (pv 1) ae) aa)<|ay _)))) (ah<|aB cM) az)
   (af (aX (FK (gY (aq (u6 hr.units0) (ar (aF (K:=K) rfl) (pv 4) (kC iy aa)<|fun _ _=>rfl) (cb ae)<|ay _) (gP (aq (l4 (K:=K) rfl<|iA hr) (eQ (v:=.ref _) (by rfl) Z3C rfl) (ar (aF (K:=K) rfl) (pv 4) aa<|fun _ _=>rfl) (by with_unfolding_all rfl))))) (ah<|aB cM) az)
   (ah (aB (ao (iH (K:=K) rfl rfl) (by rfl) h_all FJ (a5 (eT (N:=["at","tablet","strip","loose","bound","lists"]) (cap:=[none,some 0,some 1,some 2,some 3,some 4]) (iV rfl (by decide +kernel) rfl (by decide +kernel) (by rfl) (by rfl)) rfl (gu rfl h_range (a5 (ai dH (ao (aL (K:=K) rfl) (by rfl) h_len BW (a5 (pv 4) ae)) aa) ae)) (fun _ _ _ _=>(bQ (i:=0) (show DA (["at","tablet","strip","loose","bound","lists"]:List Str) by decide +kernel) rfl (by walk_at "L"))) (fun _ _ _ _=>du) (fun _ _ _ _=>(df Z3k (a5 (pv 1) (a5 (ar (aF (K:=K) rfl) (pv 2) (pv 0) (fun _ _=>rfl)) (a5 (pv 3) (a5 (pv 4) (a5 (ar (aF (K:=K) rfl) (pv 5) (pv 0) (fun _ _=>rfl)) (a5 (ar (aF (K:=K) rfl) (pv 5) (ai bg (pv 0) aa) (fun _ _=>rfl)) ae))))))))) ae)))))),?_⟩
  have E0:Ext W0 W0:=.refl W0;rw[show L2.start ["tablet","strip","loose","bound","lists"] [Z0o,Z3E,.int loose,.int bound,Z3F]=[some Z0o,some Z3E,some<|.int loose,some<|.int bound,some Z3F]from rfl];unfold Ag at hq;refine dN (Er:=Er) (jv (aw<|bT (bZ<|Dk<|aN Z1g) ag)<|aw<|bT (bZ<|Dk<|aN Z1g)<|aJ (bZ<|Dk<|aN Z22) ag)<|(Bj hq).imp fun y1 hq W2 e3=>?_;have E0:=E0.trans e3;have Z08:=Bi e3.g Z08;have Z22:=Bi e3.g Z22;have Z1g:=Bi e3.g Z1g;by_cases hb39:y1=true
  ·rw[if_pos hb39]at hq ⊢;exact aT (Er:=Er) dU<|fun v4 W5 e6 h7=>hq v4 W5 (E0.trans e6) h7
  ·rw[if_neg hb39]at hq ⊢
   try dsimp only[aA]
   refine dN (Er:=Er) (jv (aw<|u7<|Dk<|bI (Dk<|aN Z1g)<|jt ag)<|aw<|jT (sT Z3D (gI _)<|gI _)<|Dk<|bI (Dk<|aN Z1g) ag)<|(Bj hq).imp fun y11 hq W12 e13=>?_;have E0:=E0.trans e13;have Z08:=Bi e13.g Z08;have Z22:=Bi e13.g Z22;have Z1g:=Bi e13.g Z1g;by_cases hb39:y11=true
   ·rw[if_pos hb39]at hq ⊢;exact aT (Er:=Er) dU<|fun v14 W15 e16 h17=>hq v14 W15 (E0.trans e16) h17
   ·rw[if_neg hb39]at hq ⊢
    try dsimp only[aA]
    exact aT (Er:=Er) (oh (Gi (eD (i7<|aJ (bZ<|Dk<|aN Z1g) ag) fun W20 a18 v19 e21 h22 Q31 k32=>by
     have h23:=C0 (R:=sh (qA K)) e21 Z08;have h24:=C0 (R:=sh (qD K)) e21 Z22;have h25:=C0 (R:=sh (isL (qE K))) e21 Z1g;cases h22;refine gn ?_;exact⟨by simp[Keep,bR],((ue (aN h23) (bI (Dk (aN h24)) aW) aW aW (bI (Dk (aN h25)) aW) (bI (Dk (aN h25)) (aJ aW ag))):EV Er _ [some (.int a18),some Z0o,some Z3E,some (.int loose),some (.int bound),some Z3F] _ _ _) _ (.refl _) _ k32⟩))) (Cn hq fun y35 hq v36 W37 e38 h39=>hq v36 W37 (E0.trans e38) h39)
theorem zx{f:Addr}{fd:C4}(F:Fun K "law" "law" (tp 48) f fd){uS:List Int->Int->Res (Cd×(List Pl)×Int)}{fP:List Int->Int->Res Int}{w6:Cd->(List Pl)->Int->Int->Res (List<|List Ii)}{nO:(List<|List Ii)->Int->Res (List<|List Ii)}{w8:Cd->(List Pl)->Int->Int->(List<|List Ii)->Res Bool}{ui:Cd->(List Pl)->Int->Int->(List<|List Ii)->Res Bool}(Z2s:Cal P w K mg base "_law_case" ["_law_script","_law_most"] (5) (bJ (isScr K) isI (rs<|isT3 K (qA K) (qD K) isI) uS))(Z0t:Cal P w K mg base "_law_at" ["_law_script","_law_k"] (1) (bJ (isScr K) isI (rs isI) fP))(Z2a:Cal P w K mg base "_law_reach" ["_law_card_here","_law_strip","_law_loose","_law_bound"] (4) (mN (qA K) (qD K) isI isI (ro<|qE K) w6))(Z2t:Cal P w K mg base "_law_bent" ["_law_lists","_law_cell"] (2) (bJ (isL<|qE K) isI (Ar<|oL<|oL<|fz<|qC K) nO))(Z2u:Cal P w K mg base "_law_shut" ["_law_card_here","_law_strip","_law_loose","_law_bound","_law_lists"] (4) (gW (qA K) (qD K) isI isI (isL<|qE K) (rs isB) w8))(Z0E:Cal P w K mg base "_law_same" ["_law_found","_law_due"] 26 (gC K 26))(Z2G:Cal P w K mg base "holds" ["tablet","strip","loose","bound","lists"] (6) (gW (qA K) (qD K) isI isI (isL<|qE K) (rs isB) ui))(h_len:mg "len"=none)(h_list:mg "list"=none)(h_max:mg "max"=none)(h_range:mg "range"=none):FnOk P w K mg base CX0 (27) f fd ["_law_script"] (ei (isScr K) (rs isB)<|pU uS fP w6 nO w8 ui):=by
 have SC:FnScope ["_law_script","_law_card_here","_law_strip","_law_loose","_law_bound","_law_made_for","_law_lists","_law_k","_law_hand","_law_due","_law_worn"] ["_law_script"] (defScope<|tp 48):=by walk_at "F"
 refine F.ok SC (fun vs H Q E h=>?_)<|fun cdv A outer s H vs Q E hr h=>?_;·obtain⟨_,_,_,_,rfl,_⟩:=h;rfl
 ·obtain⟨W0,Z0d,Z0v,rfl,rfl,Z01,Er,hq⟩:=h;refine⟨_,(af (f9 (df Z2s<|a5 (pv 0)<|a5 aa ae)<|cw (K:=K) (n:=3) rfl rfl<|aE (ff 1)<|aE (ff 2)<|aE (ff 3) cq)
   (af (cP 4<|ai av (df Z0t<|a5 (pv 0)<|a5 aa ae) aa)
   (af (aX (aq bE (ai av (ai aQ (df Z0t<|a5 (pv 0)<|a5 aa ae) aa) aa) aa<|ay _) (ah (cP 4 (ao (aL (K:=K) rfl) (by rfl) h_len BW<|a5 (pv 2) ae))) az)
   (af (cP 5<|pv 4)
   (af (aX (aq bE (ai av (ai aQ (df Z0t<|a5 (pv 0)<|a5 aa ae) aa) aa) aa<|ay _) (ah (cP 5 (ao (kE rfl) (by rfl) h_max HJ<|a5 aa<|a5 (ai bg (ai dH (pv 4) aa)<|ai av (ai aQ (df Z0t<|a5 (pv 0)<|a5 aa ae) aa) aa) ae))) az)
   (af (cP 6<|df Z2a<|a5 (pv 1)<|a5 (pv 2)<|a5 (pv 3)<|a5 (pv 5) ae)
   (af (bS C5 rfl (qh rfl h_range<|a5 aa<|a5 aa ae) (ff 7)<|ah<|cP 6<|df Z2t<|a5 (pv 6)<|a5 (ai eI (ai aQ (df Z0t<|a5 (pv 0)<|a5 (pv 7) ae) aa)<|ai av (df Z0t<|a5 (pv 0)<|a5 (pv 7) ae) aa) ae)
   (af (fE (i:=8) SC.nd rfl (by walk_at "L") (N:=["_law_states"]) (cap:=[none]) (iV rfl (by decide +kernel) rfl (by decide +kernel) (by rfl) (by rfl)) rfl (bG (K:=K) rfl<|pv 6) (fun _ _ _ _=>(bQ (i:=0) (show DA (["_law_states"]:List Str) by decide +kernel) rfl (by walk_at "L"))) (fun _ _ _ _=>du) (fun _ _ _ _=>(cC (cY (K:=K) rfl) (by rfl) h_list CD<|a5 (pv 0) ae)))
   (af (cP 9<|df Z2u<|a5 (pv 1)<|a5 (pv 2)<|a5 (pv 3)<|a5 (pv 4)<|a5 (pv 6) ae)
   (af (cP 10 (cC (cY (K:=K) rfl) (by rfl) h_list CD<|a5 (pv 2) ae))
   (af (aX (FK<|gY (f6<|cE<|df Z0E<|a5 (df Z2G<|a5 (pv 1)<|a5 (pv 10)<|a5 (pv 3)<|a5 (pv 4)<|a5 (pv 8) ae)<|a5 (pv 9) ae)<|gP<|f6<|cE<|df Z0E<|a5 (pv 8)<|a5 (pv 6) ae) (ah<|aB cM) az)
   (af (aX (f6<|cE<|df Z0E<|a5 (pv 10)<|a5 (pv 2) ae) (ah<|aB cM) az)
   (af (aX (f6 (cE (df Z0E (a5 (df Z2G (a5 (pv 1) (a5 (cC (cY (K:=K) rfl) (by rfl) h_list CD<|a5 (pv 2) ae)<|a5 (pv 3)<|a5 (pv 4)<|a5 (cb ae) ae)))<|a5 cM ae)))) (ah<|aB cM) az)
   (ah (aB (df Z0E (a5 (df Z2G (a5 (pv 1) (a5 (cC (cY (K:=K) rfl) (by rfl) h_list CD (a5 (pv 2) ae)) (a5 (pv 3) (a5 (pv 4) (a5 (cb (a5 (cb ae) ae)) ae)))))) (a5 cM ae)))))))))))))))))),?_⟩
  have E0:Ext W0 W0:=.refl W0;rw[show L2.start ["_law_script","_law_card_here","_law_strip","_law_loose","_law_bound","_law_made_for","_law_lists","_law_k","_law_hand","_law_due","_law_worn"] [Z0v]=[some Z0v,none,none,none,none,none,none,none,none,none,none]from rfl];unfold pU at hq;refine fq (Er:=Er) (aU (aN Z01) ag)<|(Bj hq).imp fun y1 hq v2 W3 e4 h5=>?_;have E0:=E0.trans e4;have Z01:=Bi e4.g Z01;refine sM h5 fun v6 v8 v10 h7 h9 h11=>?_;cases h11;refine au (Er:=Er) (aj (fun _=>by decide)<|aU (aN Z01) ag)<|(Bj hq).imp fun y15 hq v16 W12 e13 h17=>?_;cases h17;have E0:=E0.trans e13;have Z01:=Bi e13.g Z01;have h7:=Bi e13.g h7;have h9:=Bi e13.g h9;refine bf (Er:=Er) (Iv:=fun(s37:Int)(W38:Wd)(g39:St)=>g39=[some Z0v,some v6,some v8,some<|.int y1.2.2,some<|.int s37,none,none,none,none,none,none]/\Ext W0 W38) (aw (bL (aj (fun _=>by decide) (aj (fun _=>⟨by decide,by decide⟩)<|aU (aN Z01) ag)) ag)) (Bj hq) ?_ ?_ ?_
  ·intro W22 N25 e23 hN26 hq;have hs27:=e23.g;have E0:=E0.trans e23;have Z01:=Bi e23.g Z01;have h7:=Bi e23.g h7;have h9:=Bi e23.g h9;refine cg (Er:=Er) (bZ<|Dk<|aN h9)<|fun v30 W28 e29 h31=>?_;cases h31;have E0:=E0.trans e29;have hs27:=hs27.trans e29.g;have Z01:=Bi e29.g Z01;have h7:=Bi e29.g h7;have h9:=Bi e29.g h9;exact hN26 (y1.2.1.length:Int) W28 _ hs27 ⟨rfl,E0⟩ hq
  ·intro W22 N25 e23 hN26 hq;have hs32:=e23.g;have E0:=E0.trans e23;have Z01:=Bi e23.g Z01;have h7:=Bi e23.g h7;have h9:=Bi e23.g h9
   try dsimp only[aA]
   exact hN26 y15 W22 _ hs32 ⟨rfl,E0⟩ hq
  ·intro s33 W34 sg35 hS36 iv hq;obtain⟨rfl,E0⟩:=iv;have Z01:=Bi hS36 Z01;have h7:=Bi hS36 h7;have h9:=Bi hS36 h9;refine au (Er:=Er) aW<|fun v42 W40 e41 h43=>?_;cases h43;have E0:=E0.trans e41;have Z01:=Bi e41.g Z01;have h7:=Bi e41.g h7;have h9:=Bi e41.g h9;refine bf (Er:=Er) (Iv:=fun(s68:Int)(W69:Wd)(g70:St)=>g70=[some Z0v,some v6,some v8,some<|.int y1.2.2,some<|.int s33,some<|.int s68,none,none,none,none,none]/\Ext W0 W69) (aw (bL (aj (fun _=>by decide) (aj (fun _=>⟨by decide,by decide⟩)<|aU (aN Z01) ag)) ag)) (Bj hq) ?_ ?_ ?_
   ·intro W48 N51 e49 hN52 hq;have hs53:=e49.g;have E0:=E0.trans e49;have Z01:=Bi e49.g Z01;have h7:=Bi e49.g h7;have h9:=Bi e49.g h9;refine cg (Er:=Er) (pf ag (aJ (aJ aW ag) (aj (fun _=>by decide) (aj (fun _=>⟨by decide,by decide⟩)<|aU (aN Z01) ag))))<|(Bj hq).imp fun y60 hq v61 W54 e55 h62=>?_;cases h62;have E0:=E0.trans e55;have hs53:=hs53.trans e55.g;have Z01:=Bi e55.g Z01;have h7:=Bi e55.g h7;have h9:=Bi e55.g h9;exact hN52 y60 W54 _ hs53 ⟨rfl,E0⟩ hq
   ·intro W48 N51 e49 hN52 hq;have hs63:=e49.g;have E0:=E0.trans e49;have Z01:=Bi e49.g Z01;have h7:=Bi e49.g h7;have h9:=Bi e49.g h9
    try dsimp only[aA]
    exact hN52 s33 W48 _ hs63 ⟨rfl,E0⟩ hq
   ·intro s64 W65 sg66 hS67 iv hq;obtain⟨rfl,E0⟩:=iv;have Z01:=Bi hS67 Z01;have h7:=Bi hS67 h7;have h9:=Bi hS67 h9;refine au (Er:=Er) (DD<|qI (aN h7) (aN h9) aW aW)<|(Bj hq).imp fun y73 hq v74 W71 e72 h75=>?_;have E0:=E0.trans e72;have Z01:=Bi e72.g Z01;have h7:=Bi e72.g h7;have h9:=Bi e72.g h9;refine cR (Er:=Er) (f:=(dW fP nO Z0d)) (s0:=y73) (Iv:=fun(s78:(List<|List Ii))(W79:Wd)(g80:St)=>∃(v81:V)(d83:Option V),g80=[some Z0v,some v6,some v8,some<|.int y1.2.2,some<|.int s33,some<|.int s64,some v81,d83,none,none,none]/\Ext W0 W79/\(isL<|qE K) W79.G s78 v81) (qR ag ag) (Bj hq) ?_ ?_ ?_
    ·intro W95 e96;have E0:=E0.trans e96;have Z01:=Bi e96.g Z01;have h7:=Bi e96.g h7;have h9:=Bi e96.g h9;have h75:=Bi e96.g h75;exact⟨_,_,rfl,E0,h75⟩
    ·intro Wb84 W85 W86 a76 v87 s77 sg88 P89 hW90 hB91 iv e92 h93 hq;obtain⟨v81,d83,rfl,E0,h82⟩:=iv;have Z01:=Bi hW90 Z01;have h7:=Bi hW90 h7;have h9:=Bi hW90 h9;have E0:=E0.trans e92;have hB91:=hB91.trans e92.g;have Z01:=Bi e92.g Z01;have h7:=Bi e92.g h7;have h9:=Bi e92.g h9;have h82:=Bi e92.g h82;cases h93;refine gn (σ':=[some Z0v,some v6,some v8,some<|.int y1.2.2,some<|.int s33,some<|.int s64,some v81,some<|.int a76,none,none,none]) ?_;unfold dW at hq;refine cg (Er:=Er) (EVt.ev (qP (aN h82) (iD (aj (fun _=>⟨by decide,by decide⟩)<|aU (aN Z01) aW) (aj (fun _=>by decide)<|aU (aN Z01) aW))))<|(Bj hq).imp fun y106 hq v107 W99 e100 h108=>?_;have E0:=E0.trans e100;have hB91:=hB91.trans e100.g;have Z01:=Bi e100.g Z01;have h7:=Bi e100.g h7;have h9:=Bi e100.g h9
     try dsimp only
     refine bY (W:=W99) y106 hB91 ?_ hq;exact⟨_,_,rfl,E0,h108⟩
    ·intro s110 W111 sg112 hS113 iv hq;obtain⟨v81,d83,rfl,E0,h82⟩:=iv;have h7:=Bi hS113 h7;have h9:=Bi hS113 h9;refine au (Er:=Er) (DD (eD (bU<|aN h82) fun W118 a116 v117 e119 h120 Q123 k124=>by
      refine gn ?_;exact⟨by simp[Keep,bR],((DD (gc (Dk (aN h120)))):EV Er _ [some v117] _ _ _) _ (.refl _) _ k124⟩)) ((Bj hq).imp fun y125 hq v126 W114 e115 h127=>?_)
     have E0:=E0.trans e115;have h7:=Bi e115.g h7;have h9:=Bi e115.g h9;have h82:=Bi e115.g h82;refine au (Er:=Er) (i6 (aN h7) (aN h9) aW aW<|aN h82)<|(Bj hq).imp fun y130 hq v131 W128 e129 h132=>?_;cases h132;have E0:=E0.trans e129;have h7:=Bi e129.g h7;have h9:=Bi e129.g h9;have h82:=Bi e129.g h82;have h127:=Bi e129.g h127;refine au (Er:=Er) (DD<|gc<|Dk<|aN h9)<|fun v135 W133 e134 h136=>?_;have E0:=E0.trans e134;have h7:=Bi e134.g h7;have h9:=Bi e134.g h9;have h82:=Bi e134.g h82;have h127:=Bi e134.g h127;refine dN (Er:=Er) (jv (gV (ju (gd (by decide) (i6 (aN h7) (aN h136) aW aW<|aN h127) zF))) (gV (ju (gd (by decide) (aN h127)<|aN h82))))<|(Bj hq).imp fun y141 hq W142 e143=>?_;have E0:=E0.trans e143;have h7:=Bi e143.g h7;have h9:=Bi e143.g h9;have h82:=Bi e143.g h82;have h127:=Bi e143.g h127;have h136:=Bi e143.g h136;by_cases hb170:y141=true
     ·rw[if_pos hb170]at hq ⊢;exact aT (Er:=Er) dU<|fun v144 W145 e146 h147=>hq v144 W145 (E0.trans e146) h147
     ·rw[if_neg hb170]at hq ⊢
      try dsimp only[aA]
      refine dN (Er:=Er) (gV (ju (gd (by decide) (aN h136)<|aN h9)))<|(Bj hq).imp fun y149 hq W150 e151=>?_;have E0:=E0.trans e151;have h7:=Bi e151.g h7;have h9:=Bi e151.g h9;have h136:=Bi e151.g h136;by_cases hb170:y149=true
      ·rw[if_pos hb170]at hq ⊢;exact aT (Er:=Er) dU<|fun v152 W153 e154 h155=>hq v152 W153 (E0.trans e154) h155
      ·rw[if_neg hb170]at hq ⊢
       try dsimp only[aA]
       refine dN (Er:=Er) (gV (ju (gd (by decide) (i6 (aN h7) (DD<|gc<|Dk<|aN h9) aW aW<|DD<|eU (R:=(qE K))) dU)))<|(Bj hq).imp fun y158 hq W159 e160=>?_;have E0:=E0.trans e160;have h7:=Bi e160.g h7;have h9:=Bi e160.g h9;by_cases hb170:y158=true
       ·rw[if_pos hb170]at hq ⊢;exact aT (Er:=Er) dU<|fun v161 W162 e163 h164=>hq v161 W162 (E0.trans e163) h164
       ·rw[if_neg hb170]at hq ⊢
        try dsimp only[aA]
        exact aT (Er:=Er) (gd (by decide) (i6 (aN h7) (DD<|gc<|Dk<|aN h9) aW aW<|DD<|fI<|bj (DD<|eU (R:=(qC K)))<|fH (R:=(qE K))) dU)<|Cn hq fun y166 hq v167 W168 e169 h170=>hq v167 W168 (E0.trans e169) h170
end
end Wb
namespace Wb
open PySem L2
section
variable{P:BK}{w:C2}{K:Bo}{mg:Str->Option Bq}{base:Heap}
theorem we{f:Addr}{fd:C4}{ps:List Str}{k:Nat}:FnOk P w K mg base CX0 k f fd ps (gC K 0):=⟨fun _ _ _ _ h=>h.elim,fun _ _ _ _ _ _ _ _ _ _ _ _ _ h=>h.elim⟩
theorem kA{K:Bo}(a b:String)(r:Bool)(h:D6 [] (.type a) (.type b)=some r):D6 K (.type a) (.type b)=some r:=by first|exact h|(rw[<-h];rfl)
theorem gm{c:TT}{t rest:TS}{D:Ends}{σ:St}{H:Hp}(h:∀Q:Bool->Hp->Prop,Q false H->c σ H Q)(k:rest D σ H):fS (iR c t aA) rest D σ H:=h _ k
theorem nA{c:TT}{t rest:TS}{D:Ends}{σ:St}{H:Hp}(h:∀Q:Bool->Hp->Prop,Q true H->c σ H Q)(k:t {D with nx:=rest D} σ H):fS (iR c t aA) rest D σ H:=h _ k
local macro_rules | `(tactic|walk_at "S0")=>`(tactic|simp only[cA,bB,cX,bF,tC,dX,ak,aS,cn,aA,bK,aO,cu,br,cx,tB,fB,rU,eP,rI,cy,cj,aV,bu,fR,cF,fQ,cG,bA,cH,bD,fD,bw,aK,eO,fN,fM,fT,cI,cK,cf,cz,cJ,aI,aP,L2.start,CO,Fv,FQ,Gd,Dd,De,Gh,DN,Fi,GB,Ds,D5,GP,exists_eq_left',exists_eq_left,exists_and_left,exists_eq',exists_const,ET.injEq,Lq.injEq,G5.injEq,V.ref.injEq,V.ty.injEq,HA,and_true,true_and,reduceCtorEq,false_and,and_false,exists_false,or_false,false_or,decide_eq_true_eq,GQ,decide_eq_false_iff_not,if_true,if_false,Cg,ite_true,ite_false,FU,HW,Ik,Il,and_assoc])
local macro_rules | `(tactic|walk_at "S1")=>`(tactic|simp only[cA,fS,iR,bB,cX,bF,tC,dX,ak,aS,cn,aA,bK,aO,cu,br,cx,tB,fB,rU,eP,rI,cy,cj,aV,bu,fR,cF,fQ,cG,bA,cH,bD,fD,bw,aK,eO,fN,fM,fT,cI,cK,cf,cz,cJ,aI,aP,L2.start,CO,Fv,FQ,Gd,Dd,De,Gh,DN,Fi,GB,Ds,D5,GP,exists_eq_left',exists_eq_left,exists_and_left,exists_eq',exists_const,ET.injEq,Lq.injEq,G5.injEq,V.ref.injEq,V.ty.injEq,HA,and_true,true_and,reduceCtorEq,false_and,and_false,exists_false,or_false,false_or,decide_eq_true_eq,GQ,decide_eq_false_iff_not,if_true,if_false,Cg,ite_true,ite_false,FU,HW,Ik,Il,and_assoc])
theorem uk{f:Addr}{fd:C4}(F:Fun K "_law_same" "_law_same" (tp 47) f fd)(h_len:mg "len"=none)(h_isinstance:mg "isinstance"=none)(h_bool:mg "bool"=none)(h_int:mg "int"=none)(h_str:mg "str"=none)(h_list:mg "list"=none)(h_tuple:mg "tuple"=none)(h_zip:mg "zip"=none){n:Nat}
  (Z0E:Cal P w K mg base "_law_same" ["_law_found","_law_due"] n (gC K n)):FnOk P w K mg base CX0 (n+1) f fd ["_law_found","_law_due"] (gC K<|n+1):=by
 have SC:FnScope ["_law_found","_law_due","_law_one","_law_other"] ["_law_found","_law_due"] (defScope<|tp 47):=by walk_at "F"
 refine F.ok SC (fun vs H Q E h=>?_)<|fun cdv A outer s H vs Q E hr h=>?_;·obtain⟨v,u,rfl,_⟩:=h;rfl
 ·obtain⟨v,u,rfl,h⟩:=h;have hr:Room n _:=hr
  refine⟨_,(af (aX (FK<|gY (aq (op_isN.or jl) (pv 1) xh<|ay _)<|gY (aq (op_isN.or jl) (pv 1) cM<|ay _)<|gP<|aq (op_isN.or jl) (pv 1) cM<|ay _) (ah (aB (iw (cV bE (ao (aY (K:=K) rfl) (by rfl) h_isinstance BN (a5 (pv 0) (a5 (cN (v:=.ty "bool") (by rfl) h_bool FE rfl) ae))) (ao (aY (K:=K) rfl) (by rfl) h_isinstance BN (a5 (pv 1) (a5 (cN (v:=.ty "bool") (by rfl) h_bool FE rfl) ae)))<|ay _)<|iu<|cV bE (pv 0) (pv 1)<|ay _))) az)
   (af (aX (cE (ao (aY (K:=K) rfl) (by rfl) h_isinstance BN (a5 (pv 1) (a5 (cN (v:=.ty "int") (by rfl) h_int EE rfl) ae)))) (ah (aB (iw (ao (aY (K:=K) rfl) (by rfl) h_isinstance BN (a5 (pv 0) (a5 (cN (v:=.ty "int") (by rfl) h_int EE rfl) ae))) (iw (xi (ao (aY (K:=K) rfl) (by rfl) h_isinstance BN (a5 (pv 0) (a5 (cN (v:=.ty "bool") (by rfl) h_bool FE rfl) ae))))<|iu<|cV bE (pv 0) (pv 1)<|ay _)))) az)
   (af (aX (cE (ao (aY (K:=K) rfl) (by rfl) h_isinstance BN (a5 (pv 1) (a5 (cN (v:=.ty "str") (by rfl) h_str HL rfl) ae)))) (ah (aB (iw (ao (aY (K:=K) rfl) (by rfl) h_isinstance BN (a5 (pv 0) (a5 (cN (v:=.ty "str") (by rfl) h_str HL rfl) ae)))<|iu<|cV bE (pv 0) (pv 1)<|ay _))) az)
   (af (aX (FK (dq (cE (ao (aY (K:=K) rfl) (by rfl) h_isinstance BN (a5 (pv 1) (a5 (cN (v:=.ty "list") (by rfl) h_list CD rfl) ae)))) (d5 (f6 (cE (ao (aY (K:=K) rfl) (by rfl) h_isinstance BN (a5 (pv 0) (a5 (cN (v:=.ty "list") (by rfl) h_list CD rfl) ae)))))))) (ah<|aB cM) az)
   (af (aX (FK (dq (cE (ao (aY (K:=K) rfl) (by rfl) h_isinstance BN (a5 (pv 1) (a5 (cN (v:=.ty "tuple") (by rfl) h_tuple Et rfl) ae)))) (d5 (f6 (cE (ao (aY (K:=K) rfl) (by rfl) h_isinstance BN (a5 (pv 0) (a5 (cN (v:=.ty "tuple") (by rfl) h_tuple Et rfl) ae)))))))) (ah<|aB cM) az)
   (af (aX (aq rQ (ao (aL (K:=K) rfl) (by rfl) h_len BW<|a5 (pv 0) ae) (ao (aL (K:=K) rfl) (by rfl) h_len BW<|a5 (pv 1) ae)<|ay _) (ah<|aB cM) az)
   (af (bS C5 rfl (gw (K:=K) rfl rfl h_zip<|a5 (pv 0)<|a5 (pv 1) ae) (cw (K:=K) (n:=2) rfl rfl (aE (bQ (i:=2) SC.nd rfl (by walk_at "L")) (aE (bQ (i:=3) SC.nd rfl (by walk_at "L")) cq))) (ah (aX (f6 (cE (su Z0E hr (by rfl)<|a5 (pv 2)<|a5 (pv 3) ae))) (ah<|aB cM) az)))
   (ah (aB cM))))))))),?_⟩
  rcases h with⟨he,q⟩|⟨x,y,rfl,rfl,q⟩
  rotate_left
  ·refine gm (fun Q q=>?_)<|gm (fun Q q=>?_)<|nA (fun Q q=>?_) ?_;·walk_at "S0";exact q
   ·walk_at "S0";exact⟨_,.str _,_,kA "str" "int" false rfl,q⟩
   ·walk_at "S0";exact⟨_,.str _,_,kA "str" "str" true rfl,q⟩
   ·walk_at "S0";refine⟨_,.str _,_,kA "str" "str" true rfl,?_⟩;walk_at "S0";simpa using q
  have fl:∀v,L2.flat v=true->(∀H',Same H H'->Q (.bl true) H')->(v=.non\/(∃b,v=.bl b)\/(∃i,v=.int i)\/∃x,v=.str x):=fun v hv _=>by
   cases v with
   |non=>exact .inl rfl
   |bl b=>exact .inr<|.inl ⟨b,rfl⟩
   |int b=>exact .inr<|.inr<|.inl ⟨b,rfl⟩
   |str b=>exact .inr<|.inr<|.inr ⟨b,rfl⟩
   |_=>cases hv
  have he':(v=u/\L2.flat v=true)\/∃m p q xs ys,n=m+1/\v=.ref p/\u=.ref q/\((H p=some (.lst xs)/\H q=some (.lst ys))\/(SqT K H p xs/\SqT K H q ys))/\xs.length=ys.length/\∀(i:Nat)(x y:V),xs[i]? =some x->ys[i]? =some y->EqK K H m x y:=by
   cases n with
   |zero=>exact .inl he
   |succ m=>rcases he with z|⟨p,q,xs,ys,z⟩;exact .inl z;exact .inr ⟨m,p,q,xs,ys,rfl,z⟩
  rcases he' with⟨rfl,hf⟩|⟨m,p,q',xs,ys,hnm,rfl,rfl,hk,hl,hi⟩
  ·rcases fl v hf q with rfl | ⟨b,rfl⟩ | ⟨i,rfl⟩ | ⟨x,rfl⟩
   ·refine nA (fun Q q=>?_) ?_;·walk_at "S0";exact q
    ·walk_at "S0";refine⟨_,.non,_,kA "NoneType" "bool" false rfl,_,.non,_,kA "NoneType" "bool" false rfl,?_⟩;walk_at "S0";exact q H<|.refl H
   ·refine nA (fun Q q=>?_) ?_;·cases b<;>walk_at "S0"<;>exact q
    ·walk_at "S0";refine⟨_,.bl _,_,kA "bool" "bool" true rfl,_,.bl _,_,kA "bool" "bool" true rfl,?_⟩;walk_at "S0";exact q H<|.refl H
   ·refine gm (fun Q q=>?_)<|nA (fun Q q=>?_) ?_;·walk_at "S0";exact q
    ·walk_at "S0";exact⟨_,.int _,_,kA "int" "int" true rfl,q⟩
    ·walk_at "S0";refine⟨_,.int _,_,kA "int" "int" true rfl,?_⟩;walk_at "S0";refine⟨_,.int _,_,kA "int" "bool" false rfl,?_⟩;walk_at "S0";exact q H<|.refl H
   ·refine gm (fun Q q=>?_)<|gm (fun Q q=>?_)<|nA (fun Q q=>?_) ?_;·walk_at "S0";exact q
    ·walk_at "S0";exact⟨_,.str _,_,kA "str" "int" false rfl,q⟩
    ·walk_at "S0";exact⟨_,.str _,_,kA "str" "str" true rfl,q⟩
    ·walk_at "S0";refine⟨_,.str _,_,kA "str" "str" true rfl,?_⟩;walk_at "S0";exact q H<|.refl H
  ·subst hnm;obtain⟨T,tp1,tp2,tl,src1,src2,h1,h2,e1,e2⟩:∃(T:String)(tp1:TyOf K H (.ref p) (.type T))(tp2:TyOf K H (.ref q') (.type T))(tl:(T="list"/\SqL K H p xs/\SqL K H q' ys)\/(T="tuple"/\SqT K H p xs/\SqT K H q' ys))(src1 src2:Src),(∀H',Same H H'->src1.has K H' xs)/\(∀H',Same H H'->src2.has K H' ys)/\src1.val=.ref p/\src2.val=.ref q':=by
    rcases hk with⟨a,b⟩|⟨a,b⟩
    ·exact⟨"list",.lst a,.lst b,.inl ⟨rfl,DB a,DB b⟩,.lst p,.lst q',fun H' e=>DB<|e _ _ a,fun H' e=>DB<|e _ _ b,rfl,rfl⟩
    ·exact⟨"tuple",.tup a,.tup b,.inr ⟨rfl,a,b⟩,.tup p,.tup q',fun H' e=>DG e a,fun H' e=>DG e b,rfl,rfl⟩
   have hi0:D6 K (.type T) (.type "int")=some false:=by rcases tl with⟨rfl,_⟩|⟨rfl,_⟩;exact kA _ _ _ rfl;exact kA _ _ _ rfl
   have hs0:D6 K (.type T) (.type "str")=some false:=by rcases tl with⟨rfl,_⟩|⟨rfl,_⟩;exact kA _ _ _ rfl;exact kA _ _ _ rfl
   obtain⟨bl,hl0,hl1⟩:∃bl,D6 K (.type T) (.type "list")=some bl/\D6 K (.type T) (.type "tuple")=some (!bl):=by rcases tl with⟨rfl,_⟩|⟨rfl,_⟩;exact⟨true,kA _ _ _ rfl,kA _ _ _ rfl⟩;exact⟨false,kA _ _ _ rfl,kA _ _ _ rfl⟩
   have ln1:nR K (.ref p) H xs.length:=by rcases tl with⟨_,t1,_⟩|⟨_,t1,_⟩;exact .inl ⟨_,t1,rfl⟩;exact .inr ⟨_,t1,rfl⟩
   have ln2:nR K (.ref q') H ys.length:=by rcases tl with⟨_,_,t2⟩|⟨_,_,t2⟩;exact .inl ⟨_,t2,rfl⟩;exact .inr ⟨_,t2,rfl⟩
   refine gm (fun Q q=>?_)<|gm (fun Q q=>?_)<|gm (fun Q q=>?_)<|gm (fun Q q=>?_)<|gm (fun Q q=>?_)<|gm (fun Q q=>?_) ?_;·walk_at "S0";exact q
   ·walk_at "S0";exact⟨_,tp2,_,hi0,q⟩
   ·walk_at "S0";exact⟨_,tp2,_,hs0,q⟩
   ·walk_at "S0";refine⟨_,tp2,_,hl0,?_⟩;cases bl with
    |false=>exact q
    |true=>walk_at "S0";exact⟨_,tp1,_,hl0,q⟩
   ·walk_at "S0";refine⟨_,tp2,_,hl1,?_⟩;cases bl with
    |true=>exact q
    |false=>walk_at "S0";exact⟨_,tp1,_,hl1,q⟩
   ·walk_at "S0";refine⟨_,ln1,_,ln2,?_⟩;simp only[hl,cA,bB,cX,bF,tC,dX,ak,aS,cn,aA,bK,aO,cu,br,cx,tB,fB,rU,eP,rI,cy,cj,aV,bu,fR,cF,fQ,cG,bA,cH,bD,fD,bw,aK,eO,fN,fM,fT,cI,cK,cf,cz,cJ,aI,aP,L2.start,CO,Fv,FQ,Gd,Dd,De,Gh,DN,Fi,GB,Ds,D5,GP,exists_eq_left',exists_eq_left,exists_and_left,exists_eq',exists_const,ET.injEq,Lq.injEq,G5.injEq,V.ref.injEq,V.ty.injEq,HA,and_true,true_and,reduceCtorEq,false_and,and_false,exists_false,or_false,false_or,decide_eq_true_eq,GQ,decide_eq_false_iff_not,if_true,if_false,Cg,ite_true,ite_false,FU,HW,Ik,Il,and_assoc];exact q
   ·walk_at "S1";refine⟨_,rfl,_,rfl,src1,src2,xs,ys,by rw[e1,e2],h1 H<|.refl H,h2 H<|.refl H,vj (fun i σ H2=>Same H H2/\∃a b,σ=[some (.ref p),some<|.ref q',a,b]) ⟨.refl H,none,none,rfl⟩ (fun i σ H2⟨e,_⟩=>⟨h1 H2 e,h2 H2 e⟩) hl ?_ ?_⟩
    ·rintro i x y r σ H2 hx hy hr' ⟨e,a,b,rfl⟩;walk_at "S1";refine⟨_,JU aG,rfl,?_⟩;walk_at "S1";refine⟨x,y,rfl,.inl ⟨(hi i x y hx hy).same (e.trans<|dR hr'),fun H3 e3=>?_⟩⟩;walk_at "S1";exact e.trans<|(dR hr').trans e3
    ·rintro σ H2 ⟨e,a,b,rfl⟩;walk_at "S1";exact q H2 e
def pV(K:Bo):Sp:=fun vs H Q _=>∃(a:Addr)(ns:List Int),vs=[.ref a]/\SqL K H a (ns.map ET)/\ns.length<=63/\∀H',Q (.bl true) H'
end
end Wb
namespace Mi
theorem jV{s:List Int}(hs:s.length<=63)(k:Nat)(hk:k<=200):∃n,fP s (k:Int)=.ok n:=by
 unfold fP zG;by_cases h:(k:Int)<(s.length:Int)
 ·rw[if_pos (by simpa using h)];obtain⟨x,e,_⟩:=dO (xs:=s) (i:=(k:Int)) (by omega) h;exact⟨x,e⟩
 ·rw[if_neg (by simpa using h),jD (by omega) (by omega)];exact⟨_,rfl⟩
theorem xX(c b:Int)(hb:1<=b)(hb2:b<1073741824)(k:Nat)(s:Int×Int×List Int)(h1:0<=s.2.1)(hl:s.2.2.length<100000):∃s':Int×Int×List Int,yl c b (k:Int) s=.ok s'/\0<=s'.2.1/\∃v,0<=v/\v<b/\s'.2.2=s.2.2++[v]:=by
 unfold yl;have hm0:=Cf (s.1*48271+7919+(k:Int)) (show(2147483647:Int)≠0 by decide);have hm1:=BZ (s.1*48271+7919+(k:Int)) (show(0:Int)<2147483647 by decide);generalize (s.1*48271+7919+(k:Int))%2147483647=mx at*
 have other:∀z:Int,0<=z%b/\z%b<b:=fun z=>⟨Cf _ (by omega),BZ _ (by omega)⟩
 have A:∀z:Int,gH s.2.2 z=.ok (s.2.2++[z]):=fun z=>fK hl;have e2:((((iW mx mx).bind fun y63=>Bp<|y63%1000003).bind fun y64=>gG y64 b).bind fun y69=>gH s.2.2 y69)=.ok (s.2.2++[mx*mx%1000003%b]):=by
  rw[mR (by omega) (by omega)];simp only[Bl];rw[dw (by omega)];exact A _
 have e1:((gG s.2.1 b).bind fun y56=>gH s.2.2 y56)=.ok (s.2.2++[s.2.1%b]):=by rw[dw (by omega)];exact A _
 by_cases hf:(1000000000000000000:Int)<=eL c
 ·rw[decide_eq_true hf];by_cases hp:0<s.2.1
  ·rw[decide_eq_true hp];simp only[if_true,Bl,e1,mQ (show 0<b by omega) hb2];exact⟨_,rfl,Int.ediv_nonneg h1 (by omega),_,(other _).1,(other _).2,rfl⟩
  ·rw[decide_eq_false hp];simp only[if_true,Bl,Cg,if_false,e2];exact⟨_,rfl,h1,_,(other _).1,(other _).2,rfl⟩
 ·rw[decide_eq_false hf];simp only[Bl,Cg,if_false,e2];exact⟨_,rfl,h1,_,(other _).1,(other _).2,rfl⟩
theorem jW(c:Int)(n:Nat)(b:Int)(hn:n<=1000)(hb:1<=b)(hb2:b<1073741824):∃ns,gk c (n:Int) b=.ok ns/\ns.length=n/\∀x∈ns,0<=x/\x<b:=by
 unfold gk zH;rw[kT (by omega),Bl];obtain⟨s,e,h0,hl,hb⟩:=eM (f:=yl c b) (fun pre(s:Int×Int×List Int)=>0<=s.2.1/\s.2.2.length=pre.length/\∀x∈s.2.2,0<=x/\x<b) ((CZ n).map fun(i:Nat)=>(i:Int)) ((eL c)%2147483647,eL c,[]) ⟨vA c,rfl,by simp⟩ (by
  intro pre a post s e ⟨h0,hl,hb'⟩;have hlen:pre.length<n:=by have:=congrArg EK e;simp at this;omega
  obtain⟨k,rfl⟩:∃k:Nat,a=(k:Int):=by
   have:a∈(CZ n).map fun(i:Nat)=>(i:Int):=by rw[e];simp
   obtain⟨k,_,hk⟩:=C6.mp this;exact⟨k,hk.symm⟩
  obtain⟨s',e',h0',v,v0,v1,ev⟩:=xX c b hb hb2 k s h0 (by omega);refine⟨s',e',h0',by rw[ev];simp[hl],fun x hx=>?_⟩;rw[ev]at hx;rcases Ck.mp hx with z|z;·exact hb' x z
  ·rw[Dp.mp z];exact⟨v0,v1⟩)
 rw[e];exact⟨_,rfl,by rw[hl];simp,hb⟩
def bP(c:Nat):Prop:=c=102\/c=98\/c=105
def gp(t:Tx):Prop:=∀c∈t,bP c
structure Card(t:Cd):Prop where
 lay:t.1=[83]\/t.1=[90]
 four:t.2.1.length=4
 col:∀c∈t.2.1,97<=c/\c<=122
 low:0<=t.2.2
 high:t.2.2<4
theorem um(sz:Int)(ds:List Int)(hsz:1<=sz)(hd:ds.length=5)(a:Int)(t:Tx)(ht:t.length<1000):∃c,97<=c/\c<=122/\ym sz ds a t=.ok (t++[c]):=by
 unfold ym;obtain⟨x,e,_⟩:=dO (xs:=ds) (i:=4) (by decide) (by rw[hd];decide);rw[e];simp only[Bl,dw (show 0<sz by omega)];have h0:=Cf (x+a%sz*7) (show(26:Int)≠0 by decide);have h1:=BZ (x+a%sz*7) (show(0:Int)<26 by decide);generalize (x+a%sz*7)%26=r at h0 h1;obtain⟨c,e2,h2⟩:=gA (x:=([97,98,99,100,101,102,103,104,105,106,107,108,109,110,111,112,113,114,115,116,117,118,119,120,121,122]:Tx)) (i:=r) h0 (by simp;omega) (by decide);rw[e2];simp only[Bl,lN (show t.length+[c].length<=100000 by simp;omega)];have hc:c∈([97,98,99,100,101,102,103,104,105,106,107,108,109,110,111,112,113,114,115,116,117,118,119,120,121,122]:Tx):=BJ h2;have:∀c∈([97,98,99,100,101,102,103,104,105,106,107,108,109,110,111,112,113,114,115,116,117,118,119,120,121,122]:Tx),97<=c/\c<=122:=by decide
 exact⟨c,(this c hc).1,(this c hc).2,rfl⟩
theorem uo(c:Int):∃t,vS c=.ok t/\t.length=4/\∀x∈t,97<=x/\x<=122:=by
 unfold vS zI;have h0:=Cf c (show(5:Int)≠0 by decide);have h1:=BZ c (show(0:Int)<5 by decide);obtain⟨sz,e,h2⟩:=dO (xs:=[(1:Int),2,3,4,26]) (i:=c%5) h0 (by simp;omega);have hsz:1<=sz:=by
  have:∀x∈[(1:Int),2,3,4,26],1<=x:=by decide
  exact this sz<|BJ h2
 rw[e,Bl];obtain⟨ds,e2,hd,_⟩:=jW (c/5) 5 26 (by decide) (by decide) (by decide);rw[show gk (c/5) 5 26=Bp ds from e2,Bl,show cut ds none (some 4)=ds.take 4 from jE ds 4];obtain⟨t,e3,h3,h4⟩:=eM (f:=ym sz ds) (fun pre t=>t.length=pre.length/\∀x∈t,97<=x/\x<=122) (ds.take 4) [] ⟨rfl,by simp⟩ (by
  intro pre a post t e ⟨hl,hb⟩;have hlen:pre.length<5:=by have:=congrArg EK e;simp at this;omega
  obtain⟨c,c0,c1,ec⟩:=um sz ds hsz hd a t (by omega);refine⟨_,ec,by simp[hl],fun x hx=>?_⟩;rcases Ck.mp hx with z|z;·exact hb x z
  ·rw[Dp.mp z];exact⟨c0,c1⟩)
 rw[e3];exact⟨t,rfl,by rw[h3,DZ];omega,h4⟩
theorem pW(c:Int):∃t,uR c=.ok t/\Card t:=by
 unfold uR zJ;have h0:=Cf c (show(2:Int)≠0 by decide);have h1:=BZ c (show(0:Int)<2 by decide);obtain⟨y,e,h2⟩:=gA (x:=([83,90]:Tx)) (i:=c%2) h0 (by simp;omega) (by decide);obtain⟨t,e2,hl,hb⟩:=uo<|c/8;rw[e,Bl,e2,Bl];refine⟨_,rfl,?_,hl,hb,Cf _ (by decide),BZ _ (by decide)⟩;have:y=83\/y=90:=by simpa using BJ h2
 rcases this with rfl|rfl;·exact .inl rfl
 ·exact .inr rfl
theorem ur(d:Int)(h0:0<=d)(h1:d<3):∃c,fb ([102,98,105]:Tx) d=.ok [c]/\bP c:=by
 obtain⟨c,e,h⟩:=gA (x:=([102,98,105]:Tx)) (i:=d) h0 (by simp;omega) (by decide);refine⟨c,e,?_⟩;have:=BJ h;simpa [bP] using this
theorem uv(c:Int)(n:Nat)(hn:n<=1000):∃t,vT c (n:Int)=.ok t/\t.length=n/\gp t:=by
 unfold vT zK;by_cases h:c%7=3
 ·rw[if_pos (by simpa using h)];obtain⟨y,e,hy⟩:=ur (c/7%3) (Cf _ (by decide)) (BZ _ (by decide));rw[e,Bl,vz (by omega) (by omega)];refine⟨_,rfl,by simp,fun x hx=>?_⟩;rw[List.eq_of_mem_replicate hx];exact hy
 ·rw[if_neg (by simpa using h)];obtain⟨ds,e,hl,hb⟩:=jW (c/7) n 3 hn (by decide) (by decide);rw[e,Bl];have key:∃t:List Nat,dG ds (fun(a9:Int)=>fb ([102,98,105]:Tx) a9)=.ok (t.map fun c=>[c])/\t.length=n/\gp t:=by
   have:∀d∈ds,∃c:Nat,fb ([102,98,105]:Tx) d=.ok [c]/\bP c:=fun d hd=>ur d (hb d hd).1 (hb d hd).2;have hf:∀d∈ds,fb ([102,98,105]:Tx) d=.ok ((fun d=>[if d=0 then 102 else if d=1 then 98 else 105]) d):=fun d hd=>by
    have h1:=hb d hd;have:d=0\/d=1\/d=2:=by omega
    rcases this with rfl|rfl|rfl<;>rfl
   rw[cZ (by show ds.length<=100000;omega) hf];refine⟨ds.map fun d=>if d=0 then 102 else if d=1 then 98 else 105,by simp,by simp[hl],fun x hx=>?_⟩;obtain⟨d,_,rfl⟩:=C6.mp hx;unfold bP;split;·exact .inl rfl
   ·split;·exact .inr<|.inl rfl
    ·exact .inr<|.inr rfl
  obtain⟨t,e2,hl2,ht⟩:=key;rw[e2,Bl,mS (by rw[pA];omega),pA];exact⟨t,rfl,hl2,ht⟩
def go(c:Nat):Int:=if c=102 then 1 else if c=98 then -1 else 0
def tw(t:Cd)(c:Nat):Int:=if t.1=[83]then go c else -go c
def dE(t:Cd)(i:Int):Nat:=t.2.1[i.toNat]?.getD 0
def nB(i:Int):Nat:=if i=1 then 115 else if i= -1 then 122 else 111
def behind(t:Cd)(c:Nat):Cd:=(t.1,t.2.1,(t.2.2+go c)%4)
def place(t:Cd)(c:Nat):Pl:=([dE t t.2.2],[dE t ((t.2.2+2)%4)],[nB (tw t c)])
theorem zy(c:Nat): -1<=go c/\go c<=1:=by unfold go;split;omega;split<;>omega
theorem uw(t:Cd)(c:Nat): -1<=tw t c/\tw t c<=1:=by have:=zy c;unfold tw;split<;>omega
theorem Card.behind{t:Cd}(h:Card t)(c:Nat):Card (behind t c):=⟨h.lay,h.four,h.col,Cf _ (by decide),BZ _ (by decide)⟩
theorem x5{c:Nat}(h:bP c):nN [c]=.ok (go c):=by
 unfold nN zL;rcases h with rfl|rfl|rfl<;>rfl
theorem l8{t:Cd}{c:Nat}(h:bP c):je t [c]=.ok (behind t c):=by
 unfold je zM;rw[x5 h];rfl
theorem nE{t:Cd}{c:Nat}(h:bP c):iJ t [c]=.ok (tw t c):=by
 unfold iJ zN;rw[x5 h];by_cases z:t.1=[83]
 ·rw[if_pos (by simpa using z)];unfold tw;rw[if_pos z]
 ·rw[if_neg (by simpa using z)];unfold tw;rw[if_neg z];simp only[Bl];congr 1;omega
theorem dD{t:Cd}(h:Card t){i:Int}(h0:0<=i)(h1:i<4):fb t.2.1 i=.ok [dE t i]:=xG h0 (by rw[h.four];exact h1) (by rw[h.four];decide)
theorem fg(i:Int):0<=i%4/\i%4<4:=⟨Cf _ (by decide),BZ _ (by decide)⟩
theorem ux{i:Int}(h: -1<=i/\i<=1):fb ([122,111,115]:Tx) (i+1)=.ok [nB i]:=by
 have:i= -1\/i=0\/i=1:=by omega
 rcases this with rfl|rfl|rfl<;>rfl
def fL:Cd->Tx->List Pl
 |_,[]=>[]
 |t,c::r=>place (behind t c) c::fL (behind t c) r
def ends:Cd->Tx->Cd
 |t,[]=>t
 |t,c::r=>ends (behind t c) r
theorem oF(t:Cd)(x:Tx):(fL t x).length=x.length:=by
 induction x generalizing t with
 |nil=>rfl
 |cons c r ih=>simp[fL,ih]
theorem uy(x:Tx):∀(t:Cd)(c:Nat),ends t (x++[c])=behind (ends t x) c:=by
 induction x with
 |nil=>intro t c;rfl
 |cons d r ih=>intro t c;simp[ends,ih]
theorem Card.ends{t:Cd}(h:Card t)(x:Tx):Card (ends t x):=by
 induction x generalizing t with
 |nil=>exact h
 |cons c r ih=>exact ih<|h.behind c
theorem rm{t:Cd}(h:Card t){c:Nat}(hc:bP c){out:List Pl}(ho:out.length<100000):yn je iJ [c] (t,out)=.ok (behind t c,out++[place (behind t c) c]):=by
 unfold yn;have hb:=h.behind c;simp only[l8 hc,Bl,nE hc,ux<|uw _ _,dD hb hb.low hb.high,dD hb (fg _).1 (fg _).2];rw[fK ho];rfl
theorem rn{t:Cd}(h:Card t){x:Tx}(hx:gp x)(hl:x.length<=10000):vU t x=.ok (fL t x):=by
 unfold vU zO;have key:∀(x:Tx)(t:Cd)(out:List Pl),Card t->gp x->out.length+x.length<=10000->cO (yn je iJ) (cQ x) (t,out)=.ok (ends t x,out++fL t x):=by
  intro x
  induction x with
  |nil=>intro t out _ _ _;simp[cQ,cO,ends,fL]
  |cons c r ih=>
   intro t out h hx hl;simp only[De]at hl;show cO _ ([c]::cQ r) _=_;unfold cO;rw[rm h (hx c (by simp)) (by omega),Bl,ih _ _ (h.behind c) (fun d hd=>hx d (by simp[hd])) (by simp;omega)];simp[ends,fL]
 rw[key x t [] h hx (by simpa using hl)];simp
def isCol(c:Nat):Prop:=97<=c/\c<=122
def isSl(c:Nat):Prop:=c=115\/c=122\/c=111
structure Mark(m:Pl):Prop where
 a:∃c,m.1=[c]/\(isCol c\/c=63)
 b:∃c,m.2.1=[c]/\(isCol c\/c=63)
 s:∃c,m.2.2=[c]/\(isSl c\/c=63)
structure Whole(m:Pl):Prop where
 a:∃c,m.1=[c]/\isCol c
 b:∃c,m.2.1=[c]/\isCol c
 s:∃c,m.2.2=[c]/\isSl c
theorem Whole.mark{m:Pl}(h:Whole m):Mark m:=by
 obtain⟨⟨a,h1,h2⟩,⟨b,h3,h4⟩,⟨s,h5,h6⟩⟩:=h;exact⟨⟨a,h1,.inl h2⟩,⟨b,h3,.inl h4⟩,⟨s,h5,.inl h6⟩⟩
theorem nF{t:Cd}(h:Card t){i:Int}(h0:0<=i)(h1:i<4):isCol (dE t i):=by
 unfold dE;have:i.toNat<t.2.1.length:=by rw[h.four];omega
 simp only[Bn this,CY];exact h.col _<|DH this
theorem uz(i:Int):isSl (nB i):=by unfold nB isSl;split;exact .inl rfl;split;exact .inr<|.inl rfl;exact .inr<|.inr rfl
theorem nG{t:Cd}(h:Card t)(c:Nat):Whole (place t c):=⟨⟨_,rfl,nF h h.low h.high⟩,⟨_,rfl,nF h (fg _).1 (fg _).2⟩,⟨_,rfl,uz _⟩⟩
theorem m7{t:Cd}(h:Card t)(x:Tx):∀m∈fL t x,Whole m:=by
 induction x generalizing t with
 |nil=>intro m hm;simp[fL]at hm
 |cons c r ih=>
  intro m hm;rcases BE.mp hm with rfl|hm
  ·exact nG (h.behind c) c
  ·exact ih (h.behind c) m hm
theorem nH{c:Nat}(h:isCol c):∃j d,isCol d/\iX ([97,98,99,100,101,102,103,104,105,106,107,108,109,110,111,112,113,114,115,116,117,118,119,120,121,122,97]:Tx) [c]=.ok j/\fb ([97,98,99,100,101,102,103,104,105,106,107,108,109,110,111,112,113,114,115,116,117,118,119,120,121,122,97]:Tx) (j+1)=.ok [d]:=by
 have key:∀k:Fin 26,(match iX ([97,98,99,100,101,102,103,104,105,106,107,108,109,110,111,112,113,114,115,116,117,118,119,120,121,122,97]:Tx) [97+k.1]with| .ok j=>(match fb ([97,98,99,100,101,102,103,104,105,106,107,108,109,110,111,112,113,114,115,116,117,118,119,120,121,122,97]:Tx) (j+1)with| .ok [d]=>decide (97<=d/\d<=122)|_=>false)|_=>false)=true:=by decide
 obtain⟨k,rfl⟩:∃k:Fin 26,c=97+k.1:=⟨⟨c-97,by have:=h.1;have:=h.2;omega⟩,by have:=h.1;show c=97+(c-97);omega⟩
 have:=key k;split at this
 ·rename_i j e;split at this
  ·rename_i d e2;exact⟨j,d,by simpa [isCol] using this,e,e2⟩
  ·cases this
 ·cases this
theorem wg{c:Nat}(h:isSl c):∃j d,isSl d/\iX ([115,122,111]:Tx) [c]=.ok j/\fb ([122,111,115]:Tx) j=.ok [d]:=by
 rcases h with rfl|rfl|rfl;·exact⟨0,122,.inr<|.inl rfl,rfl,rfl⟩
 ·exact⟨1,111,.inr<|.inr rfl,rfl,rfl⟩
 ·exact⟨2,115,.inl rfl,rfl,rfl⟩
def wj(l:List Tx):Prop:=∃a b c,l=[[a],[b],[c]]/\isCol a/\isCol b/\isSl c
theorem uA(cell:Int){p:Pl}(hp:Whole p){d:Int}(h0:0<=d)(h1:d<64){out:List Pl}(ho:out.length<1000):(yp cell (p,d) out).Ok fun r=>∃m,Mark m/\r=out++[m]:=by
 unfold yp;obtain⟨⟨a,ea,ha⟩,⟨b,eb,hb⟩,⟨s,es,hs⟩⟩:=hp;simp only[ea,eb,es];refine fh (Cq (P:=fun d'=>0<=d'/\d'<64) (iO (fun _=>dn ⟨by omega,by omega⟩) fun _=>dn ⟨h0,h1⟩) fun d1 hd1=>?_);refine fh (Cq (P:=fun d'=>0<=d'/\d'<64) (iO (fun _=>dn ⟨by omega,by omega⟩) fun _=>dn hd1) fun d2 hd2=>?_);have hm0:=Cf d2 (show(3:Int)≠0 by decide);have hm1:=BZ d2 (show(0:Int)<3 by decide);have step1:((if(decide<|(56:Int)<=d2)then Bp (decide<|(d2%3)<(2:Int))else Bp false).bind fun y90=>(if y90 then(((((dF [[a],[b],[s]]<|d2%3).bind fun y101=>iX ([97,98,99,100,101,102,103,104,105,106,107,108,109,110,111,112,113,114,115,116,117,118,119,120,121,122,97]:Tx) y101).bind fun y102=>Bp<|y102+(1:Int)).bind fun y103=>fb ([97,98,99,100,101,102,103,104,105,106,107,108,109,110,111,112,113,114,115,116,117,118,119,120,121,122,97]:Tx) y103).bind fun y107=>iB [[a],[b],[s]] (d2%3) y107).bind fun y108=>Bp y108 else Bp [[a],[b],[s]]:Res (List Tx))).Ok wj:=by
  have dflt:wj [[a],[b],[s]]:=⟨a,b,s,rfl,ha,hb,hs⟩
  refine fh<|iO (fun _=>dn ?_) fun _=>dn dflt;refine iO (fun h2=>?_) fun _=>dn dflt;generalize d2%3=r at*
  have:r=0\/r=1:=by omega
  rcases this with rfl|rfl
  ·obtain⟨j,d,hd,e1,e2⟩:=nH ha;simp only[show dF [[a],[b],[s]] 0=Bp [a]from rfl,Bl,e1,e2,show iB [[a],[b],[s]] 0 [d]=Bp [[d],[b],[s]]from rfl];exact dn ⟨d,b,s,rfl,hd,hb,hs⟩
  ·obtain⟨j,d,hd,e1,e2⟩:=nH hb;simp only[show dF [[a],[b],[s]] 1=Bp [b]from rfl,Bl,e1,e2,show iB [[a],[b],[s]] 1 [d]=Bp [[a],[d],[s]]from rfl];exact dn ⟨a,d,s,rfl,ha,hd,hs⟩
 refine fh<|step1.imp fun l1 ht=>?_;obtain⟨a,b,s,rfl,ha,hb,hs⟩:=ht;have step2:((if(decide<|(56:Int)<=d2)then Bp (decide<|(d2%3)=(2:Int))else Bp false).bind fun y120=>(if y120 then((((dF [[a],[b],[s]] (2:Int)).bind fun y127=>iX ([115,122,111]:Tx) y127).bind fun y128=>fb ([122,111,115]:Tx) y128).bind fun y132=>iB [[a],[b],[s]] (2:Int) y132).bind fun y133=>Bp y133 else Bp [[a],[b],[s]]:Res (List Tx))).Ok wj:=by
  have dflt:wj [[a],[b],[s]]:=⟨a,b,s,rfl,ha,hb,hs⟩
  refine fh<|iO (fun _=>dn ?_) fun _=>dn dflt;refine iO (fun h2=>?_) fun _=>dn dflt;obtain⟨j,d,hd,e1,e2⟩:=wg hs;simp only[show dF [[a],[b],[s]] 2=Bp [s]from rfl,Bl,e1,e2,show iB [[a],[b],[s]] 2 [d]=Bp [[a],[b],[d]]from rfl];exact dn ⟨a,b,d,rfl,ha,hb,hd⟩
 refine fh<|step2.imp fun l2 ht=>?_;obtain⟨a,b,s,rfl,ha,hb,hs⟩:=ht;have cell1:∀(x:Nat)(k:Int),0<k->k<10->∃y,((((jr d2 k).bind fun y158=>Bp<|y158%2).bind fun y159=>Bp<|decide<|y159=(1:Int)).bind fun y160=>if y160 then Bp [x]else Bp ([63]:Tx))=.ok [y]/\(y=x\/y=63):=fun x k k0 k1=>by
  rw[mQ k0 (by omega)];simp only[Bl];by_cases h:d2/k%2=1;·rw[if_pos (by simpa using h)];exact⟨x,rfl,.inl rfl⟩
  ·rw[if_neg (by simpa using h)];exact⟨63,rfl,.inr rfl⟩
 obtain⟨x,ex,hx⟩:=cell1 a 1 (by decide) (by decide);obtain⟨y,ey,hy⟩:=cell1 b 2 (by decide) (by decide);obtain⟨z,ez,hz⟩:=cell1 s 4 (by decide) (by decide);have ec:dG ([[a],[b],[s]].zip [(1:Int),2,4]) (fun(a149:Tx×Int)=>(((jr d2 a149.2).bind fun y158=>Bp<|y158%2).bind fun y159=>Bp<|decide<|y159=(1:Int)).bind fun y160=>if y160 then Bp a149.1 else Bp ([63]:Tx))=.ok [[x],[y],[z]]:=by
  unfold dG;rw[bz (show([[a],[b],[s]].zip [(1:Int),2,4]).length<=cap from(by show 3<=100000;decide)),Bl];show hZ _ [([a],(1:Int)),([b],2),([s],4)]=_;simp only[hZ,ex,ey,ez,Bl]
 simp only[ec,Bl,xE,fK (show out.length<100000 by omega)];refine⟨_,⟨⟨x,rfl,?_⟩,⟨y,rfl,?_⟩,⟨z,rfl,?_⟩⟩,rfl⟩
 ·rcases hx with rfl | rfl;·exact .inl ha
  ·exact .inr rfl
 ·rcases hy with rfl | rfl;·exact .inl hb
  ·exact .inr rfl
 ·rcases hz with rfl | rfl;·exact .inl hs
  ·exact .inr rfl
def Marks(n:Nat)(l:List Pl):Prop:=l.length=n/\∀m∈l,Mark m
theorem jf{α β:Type}{xs:List α}{ys:List β}{p:α×β}(h:p∈xs.zip ys):p.1∈xs/\p.2∈ys:=⟨(E7 h).1,(E7 h).2⟩
theorem uB{ps:List Pl}(hp:∀p∈ps,Whole p)(hl:ps.length<=900)(cell:Int)(lies:Bool):(vW ps cell lies).Ok (Marks ps.length):=by
 unfold vW zQ;have e0:∃b:Int,((iW (8:Int) (if lies then(1:Int)else 0)).bind fun y9=>Bp<|(56:Int)+y9)=.ok b/\56<=b/\b<=64:=by
  cases lies;·exact⟨56,rfl,by decide,by decide⟩
  ·exact⟨64,rfl,by decide,by decide⟩
 obtain⟨b,eb,hb0,hb1⟩:=e0;rw[eb,Bl];obtain⟨ns,en,hn,hns⟩:=jW (cell/5) ps.length b (by omega) (by omega) (by omega);rw[en,Bl];obtain⟨r,er,hr⟩:=eM (f:=yp cell) (fun pre r=>Marks pre.length r) (ps.zip ns) [] ⟨rfl,by simp⟩ (by
  intro pre a post s e ⟨h1,h2⟩;have ha:a∈ps.zip ns:=by rw[e];simp
  have hlen:pre.length<900:=by have:=congrArg EK e;simp[E8,hn]at this;omega
  obtain⟨r,er,m,hm,rfl⟩:=(uA cell (hp _ (jf ha).1) (hns _ (jf ha).2).1 (by have:=(hns _ (jf ha).2).2;omega) (out:=s) (by omega)).ex;refine⟨_,er,by simp[h1],fun x hx=>?_⟩;rcases Ck.mp hx with z|z;·exact h2 x z
  ·rw[Dp.mp z];exact hm)
 rw[er];refine⟨by rw[hr.1,E8,hn];omega,hr.2⟩
theorem Marks.get{n:Nat}{l:List Pl}(h:Marks n l){i:Int}(h0:0<=i)(h1:i<n):∃m,dF l i=.ok m/\Mark m:=by
 obtain⟨m,e,g⟩:=dO (xs:=l) h0 (by rw[h.1];exact h1);exact⟨m,e,h.2 m<|BJ g⟩
theorem rp{p:Pl}(h:Mark p):Mark ([63],p.2.1,[63]):=⟨⟨63,rfl,.inr rfl⟩,h.b,⟨63,rfl,.inr rfl⟩⟩
theorem wk{p:Pl}(hp:Mark p){d k:Int}{out:List Pl}(ho:out.length<1000):(yo (p,d) (k,out)).Ok fun r=>∃m,Mark m/\r.2=out++[m]:=by
 unfold yo;refine fh<|Cq (P:=fun r:Int×Pl=>Mark r.2) (fh<|Cq (P:=fun _=>True) (iO (fun _=>dn trivial) fun _=>dn trivial) fun b _=>yW (fun _=>dn<|rp hp) fun _=>dn hp) fun r hr=>?_;rw[fK (show(k,out).2.length<100000 from(by show out.length<100000;omega))];exact⟨_,hr,rfl⟩
theorem xY(d:Int)(h0:0<=d)(h1:d<3):∃c,fb ([115,122,111]:Tx) d=.ok [c]/\isSl c:=by
 obtain⟨c,e,h⟩:=gA (x:=([115,122,111]:Tx)) (i:=d) h0 (by simp;omega) (by decide);exact⟨c,e,by simpa [isSl] using BJ h⟩
theorem wm{ps:List Pl}(hp:∀p∈ps,Whole p)(hl:ps.length<=900)(h1:1<=ps.length)(cell:Int):(vV ps cell).Ok (Marks ps.length):=by
 unfold vV zP;obtain⟨ns,en,hn,hns⟩:=jW (cell/3) ps.length 11 (by omega) (by decide) (by decide);rw[en,Bl];obtain⟨r,er,hr⟩:=eM (f:=yo) (fun pre(r:Int×List Pl)=>Marks pre.length r.2) (ps.zip ns) (0,[]) ⟨rfl,by simp⟩ (by
  intro pre a post s e ⟨h1,h2⟩;have ha:a∈ps.zip ns:=by rw[e];simp
  have hlen:pre.length<900:=by have:=congrArg EK e;simp[E8,hn]at this;omega
  obtain⟨k,out⟩:=s;obtain⟨r,er,m,hm,e2⟩:=(wk (hp _ (jf ha).1).mark (d:=a.2) (k:=k) (out:=out) (by have:out.length=pre.length:=h1;omega)).ex;refine⟨r,er,by rw[e2];simp;exact h1,fun x hx=>?_⟩;rw[e2]at hx;rcases Ck.mp hx with z|z;·exact h2 x z
  ·rw[Dp.mp z];exact hm)
 rw[er,Bl];have hr:Marks ps.length r.2:=⟨by rw[hr.1,E8,hn];omega,hr.2⟩
 refine fh<|Cq (P:=Marks ps.length) (iO (fun _=>?_) fun _=>dn hr) fun r h=>dn h;rw[dw (by omega),Bl];have b0:=Cf (cell/3) (show(ps.length:Int)≠0 by omega);have b1:=BZ (cell/3) (show(0:Int)<(ps.length:Int) by omega);generalize cell/3%(ps.length:Int)=i at b0 b1;obtain⟨m,em,hm⟩:=hr.get b0 (by omega);obtain⟨c,ec,hc⟩:=xY (cell/7%3) (Cf _ (by decide)) (BZ _ (by decide));simp only[em,Bl,ec,pq b0 (show i<r.2.length by rw[hr.1];exact b1)];refine⟨by simp[hr.1],fun x hx=>?_⟩;rcases F6 hx with z|z
 ·exact hr.2 x z
 ·rw[z];exact⟨hm.a,hm.b,⟨c,rfl,.inl hc⟩⟩
def pX(t:Cd):Cd:=(if t.1=[83]then [90]else [83],[dE t 0,dE t 3,dE t 2,dE t 1],(0-t.2.2)%4)
def oG(c:Nat):Nat:=if c=102 then 98 else if c=98 then 102 else c
def pY(t:Cd)(k:Int):Cd:=(t.1,[dE t ((0-k)%4),dE t<|(1-k)%4,dE t<|(2-k)%4,dE t<|(3-k)%4],(t.2.2+k)%4)
theorem nI{t:Cd}(h:Card t):vX t=.ok (pX t):=by
 unfold vX zR;have e1:((iX ([83,90]:Tx) t.1).bind fun y5=>fb ([90,83]:Tx) y5)=.ok (if t.1=[83]then [90]else [83]):=by
  rcases h.lay with e|e<;>rw[e]<;>rfl
 rw[e1];simp only[Bl,dD h (show(0:Int)<=0 by decide) (by decide),dD h (show(0:Int)<=3 by decide) (by decide),dD h (show(0:Int)<=2 by decide) (by decide),dD h (show(0:Int)<=1 by decide) (by decide)];rfl
theorem uC{t:Cd}(h:Card t){x:Tx}(e:∀c∈x,∃i:Int,0<=i/\i<4/\c=dE t i):∀c∈x,97<=c/\c<=122:=fun c hc=>by
 obtain⟨i,h0,h1,rfl⟩:=e c hc;unfold dE;have:i.toNat<t.2.1.length:=by rw[h.four];omega
 simp only[Bn this,CY];exact h.col _<|DH this
theorem Card.flip{t:Cd}(h:Card t):Card (pX t):=by
 refine⟨?_,rfl,uC h fun c hc=>?_,(fg _).1,(fg _).2⟩
 ·unfold pX;split;·exact .inr rfl
  ·exact .inl rfl
 ·have:c=dE t 0\/c=dE t 3\/c=dE t 2\/c=dE t 1:=by simpa [pX] using hc
  rcases this with rfl|rfl|rfl|rfl;·exact⟨0,by decide,by decide,rfl⟩
  ·exact⟨3,by decide,by decide,rfl⟩
  ·exact⟨2,by decide,by decide,rfl⟩
  ·exact⟨1,by decide,by decide,rfl⟩
theorem Card.roll{t:Cd}(h:Card t)(k:Int):Card (pY t k):=by
 refine⟨h.lay,rfl,uC h fun c hc=>?_,(fg _).1,(fg _).2⟩;have:c=dE t ((0-k)%4)\/c=dE t ((1-k)%4)\/c=dE t ((2-k)%4)\/c=dE t ((3-k)%4):=by simpa [pY] using hc
 rcases this with rfl|rfl|rfl|rfl<;>exact⟨_,(fg _).1,(fg _).2,rfl⟩
theorem wo{t:Cd}(h:Card t)(k:Int):vZ t k=.ok (pY t k):=by
 unfold vZ zT;rw[show fF (4:Int)=Bp [(0:Int),1,2,3]from rfl,Bl];rw[cZ (g:=fun i:Int=>[dE t ((i-k)%4)]) (by decide)<|fun i _=>dD h (fg _).1 (fg _).2];rfl
theorem uD{c:Nat}(h:bP c):bP (oG c):=by
 unfold oG;rcases h with rfl|rfl|rfl
 ·exact .inr<|.inl rfl
 ·exact .inl rfl
 ·exact .inr<|.inr rfl
theorem wq{x:Tx}(h:gp x)(hl:x.length<=10000):vY x=.ok (x.map oG):=by
 unfold vY zS;rw[cZ (g:=fun t:Tx=>[oG (t.headD 0)]) (by show(cQ x).length<=100000;simp[cQ];omega) (fun t ht=>by
  obtain⟨c,hc,rfl⟩:=gB ht;rcases h c hc with rfl|rfl|rfl<;>rfl),Bl]
 have e:((cQ x).map fun t:Tx=>[oG (t.headD 0)])=(x.map oG).map fun c=>[c]:=by simp[cQ]
 rw[e,mS (by rw[pA];simp;omega),pA]
theorem oH{x:Tx}(h:gp x):gp (x.map oG):=fun c hc=>by
 obtain⟨d,hd,rfl⟩:=C6.mp hc;exact uD<|h d hd
theorem pZ(i:Int)(l:List Int)(hl:l.length<1000):∃l',yq i l=.ok l'/\(∀x,x∈l'↔x∈l\/x=i)/\(l.Nodup->l'.Nodup)/\l'.length<=l.length+1:=by
 unfold yq;by_cases h:i∈l
 ·refine⟨l,?_,fun x=>⟨.inl,fun z=>z.elim id fun e=>e▸h⟩,id,by omega⟩;rw[if_neg (by simp[h])];rfl
 ·refine⟨l++ [i],?_,fun x=>by simp,fun hn=>?_,by simp⟩;·rw[if_pos (by simp[h]),fK (by omega)];rfl
  ·rw[J4];exact⟨hn,by simp,fun a ha b hb=>by simp at hb;subst hb;intro e;subst e;exact h ha⟩
def x6(t:Cd)(x:Tx)(i:Int):Prop:=∃k,0<k/\k<=x.length/\(i=(ends t<|x.take k).2.2\/i=((ends t<|x.take k).2.2+2)%4)
theorem wt{t:Cd}(h:Card t){x:Tx}(hx:gp x)(hl:x.length<=900):∃l,w4 t x=.ok l/\l.Pairwise (· <= ·)/\l.Nodup/\(∀i∈l,0<=i/\i<4)/\∀i,i∈l↔x6 t x i:=by
 unfold w4 zU;obtain⟨s,e,h1,h2,h3,h4⟩:=eM (f:=zq je) (fun pre(s:Cd×List Int)=>s.1=ends t (x.take pre.length)/\s.2.Nodup/\(∀i∈s.2,0<=i/\i<4)/\∀i,i∈s.2↔∃k,0<k/\k<=pre.length/\(i=(ends t<|x.take k).2.2\/i=((ends t<|x.take k).2.2+2)%4)) (cQ x) (t,[])
  ⟨by simp[ends],by simp,by simp,fun i=>⟨fun z=>by simp at z,fun⟨k,a,b,_⟩=>by simp at b;omega⟩⟩ (by
  intro pre a post s e ⟨h1,h2,h3,h4⟩;have ha:a∈cQ x:=by rw[e];simp
  obtain⟨c,hc,rfl⟩:=gB ha;have hlen:pre.length<x.length:=by have:=congrArg EK e;simp[cQ]at this;omega
  have hget:x[pre.length]? =some c:=by
   have:=congrArg (fun l=>l[pre.length]?) e;simp only[cQ,Bz,BI<|Bt _,Fz,Ds]at this;cases z:x[pre.length]? with
   |none=>rw[z]at this;cases this
   |some d=>rw[z]at this;simp at this;rw[this]
  have htake:x.take (pre.length+1)=x.take pre.length++[c]:=by
   rw[List.take_add_one,hget];rfl
  have small:s.2.length<=4:=by
   have hsub:s.2 ⊆ [(0:Int),1,2,3]:=fun i hi=>by
    have:=h3 i hi;have:i=0\/i=1\/i=2\/i=3:=by omega
    simpa using this
   exact(FT h2 hsub)
  unfold zq;rw[h1,l8<|hx c hc,Bl];have hB:Card (behind (ends t<|x.take pre.length) c):=(h.ends _).behind c;generalize hbe:behind (ends t<|x.take pre.length) c=B at hB ⊢;obtain⟨l1,e1,m1,n1,k1⟩:=pZ B.2.2 s.2 (by omega);obtain⟨l2,e2,m2,n2,k2⟩:=pZ ((B.2.2+2)%4) l1 (by omega);have el:cO yq [B.2.2,(B.2.2+2)%4] s.2=.ok l2:=by simp only[cO,e1,e2,Bl]
  rw[el];have hE:ends t (x.take<|pre.length+1)=B:=by rw[htake,uy,hbe]
  refine⟨(B,l2),rfl,by simp[hE],n2<|n1 h2,fun i hi=>?_,fun i=>?_⟩
  ·rcases (m2 i).mp hi with z | z
   ·rcases (m1 i).mp z with z | z;·exact h3 i z
    ·rw[z];exact⟨hB.low,hB.high⟩
   ·rw[z];exact fg _
  ·rw[m2,m1,h4];constructor
   ·rintro ((⟨k,a,b,z⟩ | z) | z);·exact⟨k,a,by simp;omega,z⟩
    ·exact⟨pre.length+1,by omega,by simp,.inl (by rw[hE];exact z)⟩
    ·exact⟨pre.length+1,by omega,by simp,.inr (by rw[hE];exact z)⟩
   ·rintro ⟨k,a,b,z⟩;simp at b;rcases Nat.lt_or_ge k (pre.length+1)with q|q;·exact .inl (.inl ⟨k,a,by omega,z⟩)
    ·have:k=pre.length+1:=by omega
     subst this;rw[hE]at z;rcases z with z|z
     ·exact .inl (.inr z)
     ·exact .inr z)
 rw[e,Bl];have hsub:s.2 ⊆ [(0:Int),1,2,3]:=fun i hi=>by
  have:=h3 i hi;have:i=0\/i=1\/i=2\/i=3:=by omega
  simpa using this
 have small:=(FT h2 hsub)
 simp only[De,Gh]at small;rw[sU (by omega)];have pm:=iN s.2;refine⟨_,rfl,kO _,pm.nodup_iff.mpr h2,fun i hi=>h3 i<|pm.mem_iff.mp hi,fun i=>?_⟩;rw[pm.mem_iff,h4];unfold x6;simp[cQ]
theorem xZ(d:Int)(h0:0<=d)(h1:d<26):∃c,fb ([97,98,99,100,101,102,103,104,105,106,107,108,109,110,111,112,113,114,115,116,117,118,119,120,121,122]:Tx) d=.ok [c]/\97<=c/\c<=122:=by
 obtain⟨c,e,h⟩:=gA (x:=([97,98,99,100,101,102,103,104,105,106,107,108,109,110,111,112,113,114,115,116,117,118,119,120,121,122]:Tx)) (i:=d) h0 (by simp;omega) (by decide);have:∀c∈([97,98,99,100,101,102,103,104,105,106,107,108,109,110,111,112,113,114,115,116,117,118,119,120,121,122]:Tx),97<=c/\c<=122:=by decide
 exact⟨c,e,this c<|BJ h⟩
def wu(t:Cd)(i:Nat)(c:Nat):Cd:=(t.1,t.2.1.set i c,t.2.2)
theorem Card.dye{t:Cd}(h:Card t)(i:Nat){c:Nat}(h0:97<=c)(h1:c<=122):Card (wu t i c):=⟨h.lay,by simp[wu,h.four],fun x hx=>by
 rcases F6 hx with z|z;·exact h.col x z
 ·rw[z];exact⟨h0,h1⟩,h.low,h.high⟩
theorem wx{x:Tx}{i c:Nat}(h:i<x.length):x.take i++[c]++x.drop (i+1)=x.set i c:=by
 rw[List.set_eq_take_append_cons_drop,if_pos h];simp
theorem yb{t:Cd}(h:Card t){i:Nat}(hi:i<4)(c:Nat):((((qG t.2.1 none<|some (i:Int)).bind fun y83=>kq y83 [c]).bind fun y84=>(qG t.2.1 (some<|(i:Int)+(1:Int)) none).bind fun y85=>kq y84 y85).bind fun y86=>Bp (t.1,y86,t.2.2))=.ok (wu t i c):=by
 have hl:t.2.1.length<=100000:=by rw[h.four];decide
 rw[pj hl,jE,Bl,lN (by simp;have:=h.four;omega),Bl,show(i:Int)+1=((i+1:Nat):Int)from rfl,pj hl,mU,Bl,lN (by simp;have:=h.four;omega),Bl,wx (by rw[h.four];exact hi)];rfl
theorem yc(cell:Int)(l:List Int){t:Cd}(h:Card t){i:Nat}(hi:i<4):∃t',yr cell l (i:Int) t=.ok t'/\Card t'/\(t'=t\/((i:Int)∉l/\∃c,t'=wu t i c)):=by
 unfold yr;by_cases z:(i:Int)∈l;·rw[if_neg (by simp[z])];exact⟨t,rfl,h,.inl rfl⟩
 ·rw[if_pos (by simp[z]),mR (by omega) (by omega)];simp only[Bl];obtain⟨c,e,h0,h1⟩:=xZ ((cell/16+5*(i:Int))%26) (Cf _ (by decide)) (BZ _ (by decide));rw[e];simp only[Bl];have:=yb h hi c;rw[this];exact⟨_,rfl,h.dye i h0 h1,.inr ⟨z,c,rfl⟩⟩
theorem yd{t:Cd}(h:Card t){x:Tx}(hx:gp x)(hl:x.length<=900)(cell:Int):(w5 t x cell).Ok fun r=>Card r.1/\gp r.2/\r.2.length=x.length:=by
 unfold w5 zV;refine fh<|Cq (P:=fun r:Cd×Tx=>Card r.1/\gp r.2/\r.2.length=x.length) (iO (fun _=>?_) fun _=>dn ⟨h,hx,rfl⟩) fun r⟨h1,h2,h3⟩=>?_
 ·rw[nI h,Bl,wq hx (by omega),Bl];exact⟨h.flip,oH hx,by simp⟩
 ·rw[wo h1,Bl];have hr:=h1.roll<|cell/2%4;generalize pY r.1 (cell/2%4)=R at hr ⊢;refine fh<|Cq (P:=Card) (iO (fun _=>?_) fun _=>dn hr) fun c hc=>dn ⟨hc,h2,h3⟩;obtain⟨l,el,_⟩:=wt hr h2 (by omega);rw[el,Bl,show fF (4:Int)=Bp ((CZ 4).map fun(i:Nat)=>(i:Int))from rfl,Bl];obtain⟨s,es,hs⟩:=eM (f:=yr cell l) (fun pre s=>Card s) ((CZ 4).map fun(i:Nat)=>(i:Int)) R hr (by
   intro pre a post s e hs;have ha:a∈(CZ 4).map fun(i:Nat)=>(i:Int):=by rw[e];simp
   obtain⟨i,hi,rfl⟩:=C6.mp ha;obtain⟨t',e',h',_⟩:=yc cell l hs (EI.mp hi);exact⟨t',e',h'⟩)
  rw[es];exact hs
theorem wy{s:List Int}(hs:s.length<=63)(most:Nat)(hm:most<=24):(uS s (most:Int)).Ok fun r=>Card r.1/\(∃n,n<=60/\Marks n r.2.1)/\0<=r.2.2/\r.2.2<4:=by
 unfold uS zW;obtain⟨c0,e0⟩:=jV hs 0 (by decide);obtain⟨c1,e1⟩:=jV hs 1 (by decide);obtain⟨c2,e2⟩:=jV hs 2 (by decide);obtain⟨c3,e3⟩:=jV hs 3 (by decide);obtain⟨c4,e4⟩:=jV hs 4 (by decide);obtain⟨t,et,ht⟩:=pW c0;rw[show fP s 0=.ok c0 from e0,show fP s 1=.ok c1 from e1,show fP s 2=.ok c2 from e2,show fP s 3=.ok c3 from e3,show fP s 4=.ok c4 from e4];simp only[Bl,et];rw[dw (by omega),Bl];have z0:=Cf c2 (show(most:Int)+1≠0 by omega);have z1:=BZ c2 (show(0:Int)<(most:Int)+1 by omega);refine fh (Cq (P:=fun d=>0<=d/\d<=60) (iO (fun _=>dn ⟨by omega,by omega⟩) fun _=>dn ⟨z0,by omega⟩) fun d1 hd1=>?_);refine fh (Cq (P:=fun d=>0<=d/\d<=60) (iO (fun _=>dn ⟨by omega,by omega⟩) fun _=>dn hd1) fun d2 hd2=>?_);obtain⟨n,rfl⟩:∃n:Nat,d2=(n:Int):=⟨d2.toNat,by omega⟩
 obtain⟨x,ex,hxl,hx⟩:=uv c1 n (by omega);rw[ex];simp only[Bl,rn ht hx (show x.length<=10000 by omega)];have hw:=m7 ht x;have hpl:=oF t x;refine fh<|Cq (P:=Marks n) (iO (fun z=>?_) fun _=>?_) fun l hl=>?_
 ·refine fh (Cq (wm hw (by omega) (by omega) c3) fun r hr=>dn ?_);rw[hpl,hxl]at hr;exact hr
 ·refine fh (Cq (uB hw (by omega) (c3/ 3) _) fun r hr=>dn ?_);rw[hpl,hxl]at hr;exact hr
 ·refine fh<|Cq (P:=Card) (iO (fun _=>?_) fun _=>dn ht) fun t1 h1=>?_;·exact fh (fh ((yd ht hx (by omega) _).imp fun r hr=>dn<|dn hr.1))
  ·refine fh<|Cq (P:=Card) (iO (fun _=>?_) fun _=>dn h1) fun t2 h2=>?_
   ·obtain⟨t',e',h'⟩:=pW<|c4/ 4/ 6;rw[e'];exact h'
   ·exact⟨h2,⟨n,by omega,hl⟩,(fg _).1,(fg _).2⟩
def standAt(t:Cd)(i:Int):Cd:=(t.1,t.2.1,(if t.1=[83]then t.2.2+i else t.2.2-i)%4)
def fits(p m:Pl):Bool:=(decide (m.1=[63])||decide (m.1=p.1))&&((decide (m.2.1=[63])||decide (m.2.1=p.2.1))&&(decide (m.2.2=[63])||decide (m.2.2=p.2.2)))
theorem Card.standAt{t:Cd}(h:Card t)(i:Int):Card (standAt t i):=⟨h.lay,h.four,h.col,(fg _).1,(fg _).2⟩
theorem ye{t:Cd}(h:Card t):iq t=.ok [dE t t.2.2]:=by
 unfold iq pT;rw[show t.2.2%4=t.2.2 from Int.emod_eq_of_lt h.low h.high,dD h h.low h.high]
theorem rq{t:Cd}(h:Card t):wa t=.ok [dE t ((t.2.2+2)%4)]:=by
 unfold wa A7;rw[dD h (fg _).1 (fg _).2]
theorem iQ{t:Cd}{c:Nat}(h:bP c):oE t [c]=.ok (tw t c):=by
 unfold oE A3;have e:getD ([([102],1),([98],(-1)),([105],0)]:List (Tx×Int)) [c]=.ok (go c):=by rcases h with rfl|rfl|rfl<;>rfl
 rw[e,Bl];by_cases z:t.1=[83]
 ·rw[if_pos (by simpa using z)];unfold tw;rw[if_pos z]
 ·rw[if_neg (by simpa using z)];unfold tw;rw[if_neg z]
theorem rA{i:Int}(h: -1<=i/\i<=1):getD ([(1,[115]),((-1),[122]),(0,[111])]:List (Int×Tx)) i=.ok [nB i]:=by
 have:i= -1\/i=0\/i=1:=by omega
 rcases this with rfl|rfl|rfl<;>rfl
theorem wz{t:Cd}(h:Card t){c:Nat}(hc:bP c):wb t [c]=.ok (place t c):=by
 unfold wb A8;simp only[ye h,rq h,iQ hc,Bl,rA<|uw t c];rfl
theorem oI(t:Cd)(i:Int):w9 t i=.ok (standAt t i):=by
 unfold w9 A6 standAt;by_cases z:t.1=[83]
 ·rw[if_pos (by simpa using z),if_pos z];rfl
 ·rw[if_neg (by simpa using z),if_neg z];rfl
theorem uE(a b:Tx):uV a b=.ok (decide (b=[63])||decide (b=a)):=by
 unfold uV A9;by_cases z:b=[63]
 ·rw[if_pos (by simpa using z),decide_eq_true z];rfl
 ·rw[if_neg (by simpa using z),decide_eq_false z];rfl
theorem rB(p m:Pl):wc p m=.ok (fits p m):=by
 unfold wc Aa;rw[cZ (g:=fun a1:Tx×Tx=>decide (a1.2=[63])||decide (a1.2=a1.1)) (by show 3<=100000;decide)<|fun x _=>uE x.1 x.2,Bl];congr 1;simp[fits]
theorem rC{t:Cd}(h:Card t)(s:Int×Int){c:Nat}(hc:bP c)(m:Pl):uh t s [c] m=.ok (fits (place (standAt t s.1) c) m):=by
 unfold uh Ab;simp only[oI,Bl,wz (h.standAt _) hc,rB]
def aD(t:Cd)(s:Int×Int)(c:Nat):Int×Int:=(s.1+tw t c,if c=105 then s.2+1 else 0)
theorem uF{t:Cd}(s:Int×Int){c:Nat}(hc:bP c):uU t s [c]=.ok (aD t s c):=by
 unfold uU A4 aD;simp only[iQ hc,Bl];by_cases z:c=105;·rw[if_pos (by simp[z]),if_pos z];rfl
 ·rw[if_neg (by simp[z]),if_neg z];rfl
def eY(s:Int×Int)(loose bound:Int):Bool:=decide (eL s.1<=bound)&&decide (s.2<=loose)
theorem rD(s:Int×Int)(loose bound:Int):ug s loose bound=.ok (eY s loose bound):=by
 unfold ug A5 eY;by_cases z:eL s.1<=bound;·rw[if_pos (by simpa using z),decide_eq_true z];rfl
 ·rw[if_neg (by simpa using z),decide_eq_false z];rfl
def gq(t:Cd)(loose bound:Int)(s:Int×Int)(c:Nat)(m:Pl):Bool:=eY (aD t s c) loose bound&&fits (place (standAt t (aD t s c).1) c) m
theorem absI_le{i b:Int}:eL i<=b↔ -b<=i/\i<=b:=by unfold eL;split<;>omega
def jZ(t:Cd)(mk:Pl)(loose bound:Int)(s:Int×Int):List Nat:=[102,98,105].filter fun c=>gq t loose bound s c mk
theorem mem_onw{t:Cd}{mk:Pl}{loose bound:Int}{s:Int×Int}{c:Nat}:c∈jZ t mk loose bound s↔bP c/\gq t loose bound s c mk=true:=by
 unfold jZ;rw[Hs];simp[bP]
theorem rE{t:Cd}(h:Card t)(mk:Pl)(loose bound:Int)(s:Int×Int):rJ t mk loose bound s=.ok ((jZ t mk loose bound s).map fun c=>([c],aD t s c)):=by
 unfold rJ Ac jZ;rw[cZ (g:=fun a:Tx=>(a,aD t s<|a.headD 0)) (by show 3<=100000;decide) (fun a ha=>by
  obtain⟨c,hc,rfl⟩:=gB ha;have ht:bP c:=by simpa [bP] using hc
  rw[uF s ht];rfl),Bl]
 rw[sV (g:=fun a:Tx×(Int×Int)=>if gq t loose bound s (a.1.headD 0) mk=true then some a else none) (by show 3<=100000;decide) (fun a ha=>by
  obtain⟨x,hx,rfl⟩:=C6.mp ha;obtain⟨c,hc,rfl⟩:=gB hx;have ht:bP c:=by simpa [bP] using hc
  show((ug (aD t s c) loose bound).bind fun y=>if y then uh t (aD t s c) [c] mk else Bp false).bind (fun y=>if y then Bp (some ([c],aD t s c))else Bp none)=_;rw[rD,Bl,rC h _ ht];show _=Bp (if gq t loose bound s c mk=true then some ([c],aD t s c)else none);unfold gq;cases eY (aD t s c) loose bound<;>cases fits (place (standAt t (aD t s c).1) c) mk<;>rfl)]
 show Bp (List.filterMap _ [([102],aD t s 102),([98],aD t s 98),([105],aD t s 105)])=_;cases h1:gq t loose bound s 102 mk<;>cases h2:gq t loose bound s 98 mk<;>cases h3:gq t loose bound s 105 mk<;>simp[h1,h2,h3]
theorem oJ:∀(n:Nat)(l:List Nat),l.Nodup->(∀x∈l,x<n)->l.length<=n
 |0,l,_,h=>by
  cases l with
  |nil=>simp
  |cons a l=>exact absurd (h a<|BR ..) (by omega)
 |n+1,l,nd,h=>by
  by_cases z:n∈l
  ·have:=oJ n (l.erase n) (nd.erase n) fun x hx=>by
    have h1:=h x<|FH hx;have h2:x≠n:=fun e=>by subst e;exact(F8 nd) hx
    omega
   rw[F9 z]at this;omega
  ·have:=oJ n l nd fun x hx=>by
    have h1:=h x hx;have h2:x≠n:=fun e=>z<|e▸hx;omega
   omega
theorem wA{α:Type}(pre:List α)(a:α):dF (pre++[a]) (-(1:Int))=.ok a:=by
 have e:oU (pre++[a]) (-1)=some a:=by
  unfold oU ixN;rw[if_neg (by decide),if_pos (by simp;omega)];show(pre++[a])[_]? =some a;have:(-1+((pre++[a]).length:Int)).toNat=pre.length:=by simp;omega
  rw[this];simp
 unfold dF;rw[e];rfl
def mj(p:Int×Int):Prop:= -61<=p.1/\p.1<=61/\0<=p.2/\p.2<=3
theorem q0{l:List (Int×Int)}(nd:l.Nodup)(h:∀p∈l,mj p):l.length<=492:=by
 have nd2:(l.map fun p=>((p.1+61)*4+p.2).toNat).Nodup:=by
  rw[Ce,DT];refine(Ce.mp nd).imp_of_mem fun{a b}ha hb hne e=>hne ?_;have h1:=h a ha;have h2:=h b hb;unfold mj at h1 h2;exact Gy (by omega) (by omega)
 have:=oJ 492 _ nd2 fun x hx=>by
  obtain⟨p,hp,rfl⟩:=C6.mp hx;have h1:=h p hp;unfold mj at h1;omega
 simpa using this
theorem q9{t:Cd}{mk:Pl}{loose bound:Int}(hl:loose<=3)(hb:bound<=61){s:Int×Int}(hs:mj s){c:Nat}(h:gq t loose bound s c mk=true):mj (aD t s c):=by
 unfold gq eY at h;simp only[Hb,decide_eq_true_eq]at h;have h1:=absI_le.mp h.1.1;have h2:=h.1.2;unfold mj at hs ⊢;refine⟨by omega,by omega,?_,by omega⟩;unfold aD;dsimp only;split<;>omega
def Nx(t:Cd)(mk:Pl)(loose bound:Int)(l:List (Int×Int))(p:Int×Int):Prop:=∃s∈l,∃c,bP c/\gq t loose bound s c mk=true/\p=aD t s c
theorem Nx.inb{t:Cd}{mk:Pl}{loose bound:Int}(hl:loose<=3)(hb:bound<=61){l:List (Int×Int)}(h:∀p∈l,mj p){p:Int×Int}(n:Nx t mk loose bound l p):mj p:=by
 obtain⟨s,hs,c,_,hm,rfl⟩:=n;exact q9 hl hb (h s hs) hm
theorem yf{t:Cd}{mk:Pl}{loose bound:Int}{p:Int×Int}:¬Nx t mk loose bound [] p:=fun⟨s,hs,_⟩=>by cases hs
theorem wB{t:Cd}{mk:Pl}{loose bound:Int}{l:List (Int×Int)}{a p:Int×Int}:Nx t mk loose bound (l++[a]) p↔Nx t mk loose bound l p\/∃c∈jZ t mk loose bound a,p=aD t a c:=by
 constructor
 ·rintro ⟨q,hq,c,hc,hm,rfl⟩;rcases Ck.mp hq with hq|hq;·exact .inl ⟨q,hq,c,hc,hm,rfl⟩
  ·have:q=a:=by simpa using hq
   subst this;exact .inr ⟨c,mem_onw.mpr ⟨hc,hm⟩,rfl⟩
 ·rintro (⟨q,hq,z⟩ | ⟨c,hc,rfl⟩);·exact⟨q,by simp[hq],z⟩
  ·exact⟨a,by simp,c,(mem_onw.mp hc).1,(mem_onw.mp hc).2,rfl⟩
def oK(ks:List (Int×Int))(k:Int×Int):List (Int×Int):=if k∈ks then ks else k::ks
theorem uG{ks:List (Int×Int)}{k p:Int×Int}:p∈oK ks k↔p∈ks\/p=k:=by
 unfold oK;split
 ·rename_i z;exact⟨.inl,fun h=>h.elim id fun e=>e▸z⟩
 ·rw[BE];exact⟨fun h=>h.symm,fun h=>h.symm⟩
theorem wC{ks:List (Int×Int)}(h:ks.Nodup)(k:Int×Int):(oK ks k).Nodup:=by
 unfold oK;split;·exact h
 ·rename_i z;exact DV.mpr ⟨z,h⟩
def uH(l ks:List (Int×Int)):List (Int×Int):=l.foldl oK ks
theorem jg:∀(l ks:List (Int×Int)),ks.Nodup->(uH l ks).Nodup/\∀p,p∈uH l ks↔p∈ks\/p∈l
 | [],ks,h=>⟨h,fun p=>by simp[uH]⟩
 |a::l,ks,h=>by
  have ih:=jg l (oK ks a)<|wC h a;refine⟨ih.1,fun p=>?_⟩;show p∈uH l (oK ks a)↔_;rw[ih.2,uG,BE,or_assoc]
def nP(t:Cd)(mk:Pl)(loose bound:Int)(l:List (Int×Int)):List (Int×Int):=eV<|uH (l.flatMap fun s=>(jZ t mk loose bound s).map (aD t s)) []
theorem nJ{t:Cd}{mk:Pl}{loose bound:Int}{l:List (Int×Int)}{p:Int×Int}:p∈(l.flatMap fun s=>(jZ t mk loose bound s).map (aD t s))↔Nx t mk loose bound l p:=by
 rw[List.mem_flatMap];constructor
 ·rintro ⟨s,hs,h⟩;obtain⟨c,hc,rfl⟩:=C6.mp h;exact⟨s,hs,c,(mem_onw.mp hc).1,(mem_onw.mp hc).2,rfl⟩
 ·rintro ⟨s,hs,c,h1,h2,rfl⟩;exact⟨s,hs,C6.mpr ⟨c,mem_onw.mpr ⟨h1,h2⟩,rfl⟩⟩
theorem mem_nxt{t:Cd}{mk:Pl}{loose bound:Int}{l:List (Int×Int)}{p:Int×Int}:p∈nP t mk loose bound l↔Nx t mk loose bound l p:=by
 unfold nP;rw[(dA _).mem_iff,(jg _ [] Ep).2,nJ];simp
theorem uI{t:Cd}{mk:Pl}{loose bound:Int}{l S:List (Int×Int)}(nd:S.Nodup)(h:∀p,p∈S↔Nx t mk loose bound l p):eV S=nP t mk loose bound l:=by
 refine jI ((dA S).trans ?_)<|jH S;have g:=jg (l.flatMap fun s=>(jZ t mk loose bound s).map (aD t s)) [] Ep;exact(List.perm_ext_iff_of_nodup nd g.1).mpr fun p=>by rw[h,g.2,nJ];simp
def eZ(t:Cd)(loose bound:Int):List Pl->List (Int×Int)->List (List<|Int×Int)
 | [],cur=>[cur]
 |m::r,cur=>match cur with
  | []=>[[]]
  |a::q=>(a::q)::eZ t loose bound r (nP t m loose bound (a::q))
theorem rF{t:Cd}{loose bound:Int}(l:List Pl):eZ t loose bound l []=[[]]:=by cases l<;>rfl
theorem zz:∀p∈[((0:Int),(0:Int))],mj p:=fun p hp=>by
 have:p=(0,0):=by simpa using hp
 subst this;exact⟨by decide,by decide,by decide,by decide⟩
theorem l9{t:Cd}{loose bound:Int}:∀(l:List Pl)(cur:List (Int×Int)),(eZ t loose bound l cur).length<=l.length+1
 | [],cur=>Bt _
 |m::r,[]=>by show 1<=_;omega
 |m::r,a::q=>by
  have:=l9 (t:=t) (loose:=loose) (bound:=bound) r<|nP t m loose bound (a::q);show(eZ t loose bound r<|nP t m loose bound (a::q)).length+1<=r.length+1+1;omega
theorem yg{t:Cd}{m:Pl}{loose bound:Int}{l:List (Int×Int)}:(nP t m loose bound l).Nodup:=(dA _).nodup_iff.mpr (jg _ [] Ep).1
theorem lb{t:Cd}{loose bound:Int}(hl:loose<=3)(hb:bound<=61):∀(l:List Pl)(cur:List (Int×Int)),cur.Nodup->(∀p∈cur,mj p)->∀L∈eZ t loose bound l cur,L.Nodup/\∀p∈L,mj p
 | [],cur,h1,h2,L,hL=>by
  have:L=cur:=by simpa [eZ] using hL
  rw[this];exact⟨h1,h2⟩
 |m::r,[],h1,h2,L,hL=>by
  have:L=[]:=by simpa [eZ] using hL
  rw[this];exact⟨h1,h2⟩
 |m::r,a::q,h1,h2,L,hL=>by
  rcases BE.mp (show L∈(a::q)::eZ t loose bound r (nP t m loose bound (a::q))from hL)with rfl|hL;·exact⟨h1,h2⟩
  ·exact lb hl hb r _ yg (fun p hp=>(mem_nxt.mp hp).inb hl hb h2) L hL
theorem nK{α:Type}{xs:List α}{a:α}(h:xs[xs.length-1]? =some a):dF xs (-(1:Int))=.ok a:=by
 have hl:xs.length-1<xs.length:=(Bv.mp h).1;have e:oU xs (-1)=some a:=by
  unfold oU ixN;rw[if_neg (by decide),if_pos (by omega)];show xs[_]? =some a;have:(-1+(xs.length:Int)).toNat=xs.length-1:=by omega
  rw[this];exact h
 unfold dF;rw[e];rfl
theorem ir{α:Type}{xs:List α}{i:Nat}{a:α}(h:xs[i]? =some a):dF xs (i:Int)=.ok a:=by
 unfold dF;rw[oV h];rfl
def Bx(a b:Nat)(L:List (List<|Int×Int)):Prop:=L.length<=a/\∀l∈L,l.length<=b
theorem Bx.up{a b:Nat}{L:List (List<|Int×Int)}(h:Bx a b L):Bx (a+1) (b+1) L:=⟨by have:=h.1;omega,fun l hl=>by have:=h.2 l hl;omega⟩
theorem Bx.set{a b:Nat}{L:List (List<|Int×Int)}(h:Bx a b L)(k:Nat){l:List (Int×Int)}(hl:l.length<=b+1):Bx (a+1) (b+1) (L.set k l):=⟨by rw[DX];have:=h.1;omega,fun x hx=>by
 rcases F6 hx with z|z;·have:=h.2 x z;omega
 ·rw[z];exact hl⟩
theorem qa{α:Type}(xs:List α)(k:Nat)(y:α):(L2.insAt xs k y).length<=xs.length+1:=by
 unfold L2.insAt;rw[CP,DZ,De,FO];omega
theorem qb{α:Type}{xs:List α}{i:Int}(h0:0<=i)(h1:i<xs.length)(hl:xs.length<=1000):rl xs i=.ok (xs.eraseIdx i.toNat):=by
 unfold rl ixN;rw[bz (show xs.length<=cap by show xs.length<=100000;omega),Bl,if_pos h0,if_pos h1];rfl
theorem qc{α:Type}{xs:List α}{i:Int}{y:α}(h0:0<=i)(h1:i<=xs.length)(hl:xs.length<=1000):uf xs i y=.ok (L2.insAt xs i.toNat y):=bz ⟨h0,h1,by show xs.length<100000;omega⟩
theorem m8{α β:Type}{xs:List β}{f:List β->α}{i:Int}(h0:0<=i)(h1:i<xs.length):∃b,xs[i.toNat]? =some b/\lP (xs,f) i=.ok (b,fun b'=>f<|xs.set i.toNat b'):=by
 have hl:i.toNat<xs.length:=by omega
 refine⟨xs[i.toNat],Bn hl,?_⟩;unfold lP;have e1:ixN xs.length i=some i.toNat:=by
  unfold ixN;rw[if_pos h0,if_pos h1]
 show(rG<|ixN xs.length i).bind _=_;rw[e1];show(rG xs[i.toNat]?).bind _=_;rw[Bn hl];rfl
theorem wD{L:List (List<|Int×Int)}{a b:Nat}(hB:Bx a b L)(h1:a<=900)(h2:b<=900)(cell:Int):(nO L cell).Ok (Bx (a+1)<|b+1):=by
 have hLa:L.length<=900:=by have:=hB.1;omega
 unfold nO zZ;obtain⟨ds,ed,dl,hd⟩:=jW (cell/7) 4 30030 (by decide) (by decide) (by decide);have dget:∀k:Nat,k<4->∃v,dF ds (k:Int)=.ok v/\0<=v:=fun k hk=>by
  obtain⟨v,e1,e2⟩:=dO (xs:=ds) (i:=(k:Int)) (by omega) (by rw[dl];omega);exact⟨v,e1,(hd v<|BJ e2).1⟩
 obtain⟨d0,e0,p0⟩:=dget 0 (by decide);obtain⟨d1,e1,p1⟩:=dget 1 (by decide);obtain⟨d2,e2,p2⟩:=dget 2 (by decide);obtain⟨d3,e3,p3⟩:=dget 3 (by decide);rw[cZ (f:=fun(a1:List (Int×Int))=>Bp a1) (g:=fun x=>x) (by show L.length<=100000;omega)<|fun _ _=>rfl,show(L.map fun x=>x)=L from KD L,Bl,show gk (cell/7) (4:Int) 30030=.ok ds from ed,Bl,show dF ds (0:Int)=.ok d0 from e0,show dF ds (1:Int)=.ok d1 from e1,show dF ds (2:Int)=.ok d2 from e2,show dF ds (3:Int)=.ok d3 from e3,Bl];obtain⟨at_,ea,a0,a1⟩:∃at_,gG d0 (if(L.length:Int)>(1:Int)then(L.length:Int)else(1:Int))=.ok at_/\0<=at_/\(0<L.length->at_<L.length):=by
  by_cases z:(L.length:Int)>1
  ·rw[if_pos z];exact⟨d0%(L.length:Int),dw (by omega),Cf _ (by omega),fun _=>BZ _ (by omega)⟩
  ·rw[if_neg z];exact⟨d0%1,dw (by omega),Cf _ (by omega),fun h=>by have:=BZ d0 (b:=1) (by omega);omega⟩
 rw[ea,Bl];refine fh<|Cq (P:=fun _=>True) trivial fun s0 _=>?_;refine fh<|Cq (P:=fun _=>True) ?_ fun st _=>?_
 ·simp only[Bl];refine iO (fun _=>?_) fun _=>trivial;have q1:d2%5=0\/d2%5=1\/d2%5=2\/d2%5=3\/d2%5=4:=by omega
  have q2:d3/6%4=0\/d3/6%4=1\/d3/6%4=2\/d3/6%4=3:=by omega
  generalize d2%5=u at q1;generalize d3/6%4=w at q2;rcases q1 with rfl|rfl|rfl|rfl|rfl<;>rcases q2 with rfl|rfl|rfl|rfl<;>exact trivial
 refine fh<|Cq (P:=fun s=>s=L\/(cell%7=1/\Bx (a+1) (b+1) s)) ?_ fun s1 hs1=>?_
 ·refine fh<|Cq (P:=fun y=>y=true->cell% 7=1/\0< L.length/\∃l,L[at_.toNat]? =some l/\0< l.length) ?_ fun y hy=>yW (fun z=>?_) fun _=>dn<|.inl rfl
  ·refine iO (fun c=>iO (fun z=>?_) fun _=>dn fun z=>by cases z) fun _=>dn fun z=>by cases z
   have hz:0<L.length:=by omega
   obtain⟨l,el,hl⟩:=dO (xs:=L) (i:=at_) a0 (by have:=a1 hz;omega);rw[el,Bl,Bl];exact dn fun q=>⟨c,hz,l,hl,by have:=of_decide_eq_true q;omega⟩
  ·obtain⟨c,hz,l,hl,hp⟩:=hy z;obtain⟨l',hl',en⟩:=m8 (xs:=L) (f:=fun b=>b) a0 (by have:=a1 hz;omega);have:l'=l:=by rw[hl]at hl';exact(C9 hl').symm
   subst this;have hll:=hB.2 l'<|BJ hl;obtain⟨l2,el,hl2⟩:=dO (xs:=L) (i:=at_) a0 (by have:=a1 hz;omega);have:l2=l':=by rw[hl]at hl2;exact(C9 hl2).symm
   subst this;have m0:0<=d1%(l2.length:Int):=Cf _ (by omega);have m1:d1%(l2.length:Int)<l2.length:=BZ _ (by omega);rw[show lP (L,fun(b:List (List Ii))=>b) at_=_ from en,Bl,Bl,el,Bl,Bl,dw (by omega),Bl,qb (xs:=l2) m0 m1 (by omega),Bl,Bl];exact dn (.inr ⟨c,hB.set _ (by rw[Dr];split<;>omega)⟩)
 refine fh<|Cq (P:=fun s=>s=L\/(cell%7<=2/\Bx (a+1) (b+1) s)) ?_ fun s2 hs2=>?_
 ·refine fh (Cq (P:=fun y=>y=true->cell% 7=2/\0< s1.length) ?_ fun y hy=>yW (fun z=>?_) fun _=>dn (hs1.imp id fun q=>⟨by omega,q.2⟩))
  ·exact iO (fun c=>dn fun q=>⟨c,by have:=of_decide_eq_true q;omega⟩) fun _=>dn fun z=>by cases z
  ·obtain⟨c,hz⟩:=hy z;have e:s1=L:=hs1.elim id fun q=>absurd q.1 (by omega);subst e;obtain⟨l',hl',en⟩:=m8 (xs:=s1) (f:=fun b=>b) a0 (by have:=a1 hz;omega);have hll:=hB.2 l'<|BJ hl';obtain⟨l2,el,hl2⟩:=dO (xs:=s1) (i:=at_) a0 (by have:=a1 hz;omega);have:l2=l':=by rw[hl']at hl2;exact(C9 hl2).symm
   subst this;have m0:0<=d1%((l2.length:Int)+1):=Cf _ (by omega);have m1:d1%((l2.length:Int)+1)<(l2.length:Int)+1:=BZ _ (by omega);rw[show lP (s1,fun(b:List (List Ii))=>b) at_=_ from en,Bl,Bl,el,Bl,Bl,Bl,dw (by omega),Bl,qc (xs:=l2) m0 (by omega) (by omega),Bl,Bl];exact dn (.inr ⟨by omega,hB.set _ (l:=L2.insAt l2 (d1%((l2.length:Int)+1)).toNat st) (by have:=qa l2 (d1%((l2.length:Int)+1)).toNat st;omega)⟩)
 refine fh<|Cq (P:=fun s=>s=L\/(cell%7<=3/\Bx (a+1) (b+1) s)) ?_ fun s3 hs3=>?_
 ·refine fh (Cq (P:=fun y=>y=true->cell% 7=3/\0< s2.length) ?_ fun y hy=>yW (fun z=>?_) fun _=>dn (hs2.imp id fun q=>⟨by omega,q.2⟩))
  ·exact iO (fun c=>dn fun q=>⟨c,by have:=of_decide_eq_true q;omega⟩) fun _=>dn fun z=>by cases z
  ·obtain⟨c,hz⟩:=hy z;have e:s2=L:=hs2.elim id fun q=>absurd q.1 (by omega);subst e;refine fh (Ax (a:=s2.eraseIdx at_.toNat) ?_ (dn (.inr ⟨by omega,?_,fun l hl=>?_⟩)))
   ·show(rl s2 at_).bind (fun b=>Bp b)=_;rw[qb a0 (a1 hz) (by omega),Bl]
   ·rw[Dr];have:=hB.1;split<;>omega
   ·have:=hB.2 l<|List.mem_of_mem_eraseIdx hl;omega
 refine fh (Cq (P:=fun s=>s=L\/(cell%7<=4/\Bx (a+1) (b+1) s)) (iO (fun c=>?_) fun _=>dn (hs3.imp id fun q=>⟨by omega,q.2⟩)) fun s4 hs4=>?_)
 ·have e:s3=L:=hs3.elim id fun q=>absurd q.1 (by omega);subst e;have m0:0<=d1%((s3.length:Int)+1):=Cf _ (by omega);have m1:d1%((s3.length:Int)+1)<(s3.length:Int)+1:=BZ _ (by omega);rw[Bl,dw (by omega),Bl];refine fh (Ax (a:=L2.insAt s3 (d1%((s3.length:Int)+1)).toNat []) ?_ (dn (.inr ⟨by omega,?_,fun l hl=>?_⟩)))
  ·show(uf s3 (d1% ((s3.length:Int)+1)) []).bind (fun b=>Bp b)=_;rw[qc m0 (by omega) (by omega),Bl]
  ·have:=qa s3 (d1%((s3.length:Int)+1)).toNat [];have:=hB.1;omega
  ·unfold L2.insAt at hl;rcases Ck.mp hl with q|q
   ·have:=hB.2 l<|List.mem_of_mem_take q;omega
   ·rcases BE.mp q with rfl | q;·simp
    ·have:=hB.2 l<|HX q;omega
 refine fh (Cq (P:=fun s=>s=L\/(cell%7<=5/\Bx (a+1) (b+1) s)) (iO (fun c=>?_) fun _=>dn (hs4.imp id fun q=>⟨by omega,q.2⟩)) fun s5 hs5=>?_)
 ·have e:s4=L:=hs4.elim id fun q=>absurd q.1 (by omega);subst e;have tk:∀x:List (Int×Int),cut x none (some (1:Int))=x.take 1:=fun x=>jE x 1;rw[cZ (g:=fun x:List (Int×Int)=>x.reverse++x.take 1) (by show s4.length<=100000;omega) (fun x hx=>by
   have:=hB.2 x hx;rw[tk,vv (by simp;omega)]),Bl]
  refine dn (.inr ⟨by omega,by rw[BS];have:=hB.1;omega,fun l hl=>?_⟩);obtain⟨x,hx,rfl⟩:=C6.mp hl;have:=hB.2 x hx;simp;omega
 refine fh<|Cq (P:=Bx (a+1)<|b+1) ?_ fun s6 hs6=>dn hs6;refine fh<|Cq (P:=fun y=>y=true->cell%7=6/\0<s5.length/\∃l,s5[at_.toNat]? =some l/\0<l.length) ?_ fun y hy=>yW (fun z=>?_) fun _=>dn<|hs5.elim (fun q=>q▸hB.up) fun q=>q.2
 ·refine iO (fun c=>iO (fun z=>?_) fun _=>dn fun z=>by cases z) fun _=>dn fun z=>by cases z
  have e:s5=L:=hs5.elim id fun q=>absurd q.1 (by omega);subst e;have hz:0<s5.length:=by omega
  obtain⟨l,el,hl⟩:=dO (xs:=s5) (i:=at_) a0 (by have:=a1 hz;omega);rw[el,Bl,Bl];exact dn fun q=>⟨c,hz,l,hl,by have:=of_decide_eq_true q;omega⟩
 ·obtain⟨c,hz,l,hl,hp⟩:=hy z;have e:s5=L:=hs5.elim id fun q=>absurd q.1 (by omega);subst e;obtain⟨l',hl',en⟩:=m8 (xs:=s5) (f:=fun b=>b) a0 (by have:=a1 hz;omega);have:l'=l:=by rw[hl]at hl';exact(C9 hl').symm
  subst this;have hll:=hB.2 l'<|BJ hl;obtain⟨l2,el,hl2⟩:=dO (xs:=s5) (i:=at_) a0 (by have:=a1 hz;omega);have:l2=l':=by rw[hl]at hl2;exact(C9 hl2).symm
  subst this;have m0:0<=d1%(l2.length:Int):=Cf _ (by omega);have m1:d1%(l2.length:Int)<l2.length:=BZ _ (by omega);rw[show lP (s5,fun(b:List (List Ii))=>b) at_=_ from en,Bl,Bl,el,Bl,Bl,dw (by omega),Bl,pq m0 m1,Bl,Bl];exact dn (hB.set _ (by rw[DX];omega))
theorem wF(p m:Pl)(b:Bool):cO uT ([p.1,p.2.1,p.2.2].zip [m.1,m.2.1,m.2.2]) b=.ok (b&&fits p m):=by
 have e:∀(a:Tx×Tx)(b:Bool),uT a b=.ok (b&&(decide (a.2=[63])||decide (a.2=a.1))):=fun a b=>by
  unfold uT;by_cases z:a.2=[63]
  ·simp[z]
  ·by_cases y:a.2=a.1;·simp[z,y]
   ·simp[z,y]
 show(uT (p.1,m.1) b).bind (fun s=>(uT (p.2.1,m.2.1) s).bind fun s=>(uT (p.2.2,m.2.2) s).bind fun s=>Bp s)=_;simp only[e,Bl];unfold fits;rw[JT,JT]
theorem m9{t:Cd}(h:Card t)(mk:Pl)(loose bound:Int)(s:Int×Int){c:Nat}(hc:bP c)(out:List (Int×Int))(ho:out.length<=1000):x4 iJ t mk loose bound s [c] out=.ok (if gq t loose bound s c mk=true then out++[aD t s c]else out):=by
 unfold x4;rw[nE hc,Bl,jD (by split<;>decide) (by split<;>decide),Bl];have e:(s.2+1)*(if decide (([c]:Tx)=[105])=true then(1:Int)else 0)=(aD t s c).2:=by
  unfold aD;by_cases z:c=105;·simp[z]
  ·simp[z]
 have eh:(if decide (t.1=([90]:Tx))=true then Bp ((t.2.2-(s.1+tw t c))%4)else Bp ((t.2.2+(s.1+tw t c))%4):Res Int)=.ok (standAt t (aD t s c).1).2.2:=by
  unfold standAt aD;dsimp only;rcases h.lay with z|z
  ·rw[z];rfl
  ·rw[z];rfl
 rw[e,eh,Bl];have hc2:=h.standAt (aD t s c).1;have ew:(if decide (eL (s.1+tw t c)<=bound)=true then Bp (decide<|(aD t s c).2<=loose)else Bp false:Res Bool)=.ok (eY (aD t s c) loose bound):=by
  unfold eY;show(if decide (eL (aD t s c).1<=bound)=true then _ else _)=_;cases decide (eL (aD t s c).1<=bound)<;>rfl
 rw[ew,Bl];rw[show fb t.2.1 (standAt t (aD t s c).1).2.2=.ok [dE (standAt t (aD t s c).1) (standAt t (aD t s c).1).2.2]from dD hc2 hc2.low hc2.high,Bl];rw[show fb t.2.1 (((standAt t (aD t s c).1).2.2+2)%4)=.ok [dE (standAt t (aD t s c).1) (((standAt t (aD t s c).1).2.2+2)%4)]from dD hc2 (fg _).1 (fg _).2,Bl];rw[ux<|uw t c,Bl,Bl,Bl,Bl];show((cO uT ([(place (standAt t (aD t s c).1) c).1,(place (standAt t (aD t s c).1) c).2.1,(place (standAt t (aD t s c).1) c).2.2].zip [mk.1,mk.2.1,mk.2.2])<|eY (aD t s c) loose bound).bind fun g=>(if g=true then(gH out<|aD t s c).bind fun y=>Bp y else Bp out:Res (List<|Int×Int)).bind fun s=>Bp s)=_;rw[wF,Bl];show((if gq t loose bound s c mk=true then(gH out<|aD t s c).bind fun y=>Bp y else Bp out:Res (List<|Int×Int)).bind fun s=>Bp s)=_;cases gq t loose bound s c mk with
 |false=>rfl
 |true=>rw[if_pos rfl,if_pos rfl,fK (by omega)];rfl
theorem qd{t:Cd}(h:Card t)(mk:Pl)(loose bound:Int)(s:Int×Int):gN t mk loose bound s=.ok ((jZ t mk loose bound s).map (aD t s)):=by
 unfold gN zX;show((x4 iJ t mk loose bound s [102] []).bind fun s1=>(x4 iJ t mk loose bound s [98] s1).bind fun s1=>(x4 iJ t mk loose bound s [105] s1).bind fun s1=>Bp s1).bind (fun s1=>Bp s1)=_;rw[m9 h mk loose bound s (.inl rfl) [] (by decide),Bl,m9 h mk loose bound s (.inr<|.inl rfl) _ (by split<;>simp),Bl,m9 h mk loose bound s (.inr<|.inr rfl) _ (by split<;>split<;>simp),Bl,Bl];unfold jZ;cases h1:gq t loose bound s 102 mk<;>cases h2:gq t loose bound s 98 mk<;>cases h3:gq t loose bound s 105 mk<;>simp[h1,h2,h3]
theorem uJ(kvs:List ((Int×Int)×Bool))(k:Int×Int):(gJ kvs k true).map (·.1)=if k∈kvs.map (·.1)then kvs.map (·.1)else kvs.map (·.1)++[k]:=by
 unfold gJ;by_cases z:k∈kvs.map (·.1)
 ·have:(kvs.any fun kv=>decide<|kv.1=k)=true:=by
   obtain⟨kv,h1,h2⟩:=C6.mp z;exact Ji.mpr ⟨kv,h1,by simpa using h2⟩
  rw[if_pos this,if_pos z,Gp];refine HY fun kv _=>?_;show(if kv.1=k then(kv.1,true)else kv).1=kv.1;split<;>rfl
 ·have:¬(kvs.any fun kv=>decide<|kv.1=k)=true:=fun y=>by
   obtain⟨kv,h1,h2⟩:=Ji.mp y;exact z (C6.mpr ⟨kv,h1,by simpa using h2⟩)
  rw[if_neg this,if_neg z];simp
def Ks(kvs:List ((Int×Int)×Bool))(P:Int×Int->Prop):Prop:=(kvs.map (·.1)).Nodup/\∀p,p∈kvs.map (·.1)↔P p
theorem Ks.put{kvs:List ((Int×Int)×Bool)}{P:Int×Int->Prop}(h:Ks kvs P)(k:Int×Int):Ks (gJ kvs k true) fun p=>P p\/p=k:=by
 unfold Ks;rw[uJ];by_cases z:k∈kvs.map (·.1)
 ·rw[if_pos z];exact⟨h.1,fun p=>by rw[h.2];exact⟨.inl,fun y=>y.elim id fun e=>by rw[e];exact(h.2 k).mp z⟩⟩
 ·rw[if_neg z];refine⟨J4.mpr ⟨h.1,by simp,fun a ha b hb e=>?_⟩,fun p=>by rw[Ck,h.2];simp⟩;have:b=k:=by simpa using hb
  subst this;subst e;exact z ha
theorem Ks.len{kvs:List ((Int×Int)×Bool)}{P:Int×Int->Prop}(h:Ks kvs P)(hb:∀p,P p->mj p):kvs.length<=492:=by
 have:=q0 h.1 fun p hp=>hb p<|(h.2 p).mp hp;simpa using this
theorem Ks.iff{kvs:List ((Int×Int)×Bool)}{P Q:Int×Int->Prop}(h:Ks kvs P)(e:∀p,P p↔Q p):Ks kvs Q:=⟨h.1,fun p=>(h.2 p).trans (e p)⟩
theorem nL:∀(ys:List (Int×Int))(kvs:List ((Int×Int)×Bool))(P:Int×Int->Prop),Ks kvs P->(∀p,P p->mj p)->(∀p∈ys,mj p)->∃kvs',cO xV ys kvs=.ok kvs'/\Ks kvs' fun p=>P p\/p∈ys
 | [],kvs,P,h,_,_=>⟨kvs,rfl,h.iff fun p=>by simp⟩
 |a::ys,kvs,P,h,hP,hy=>by
  have hl:=h.len hP;have e:xV a kvs=.ok (gJ kvs a true):=by
   unfold xV;rw[show iP kvs a true=.ok (gJ kvs a true)from bz (by omega)];rfl
  obtain⟨k',e',h'⟩:=nL ys (gJ kvs a true) _ (h.put a) (fun p hp=>hp.elim (hP p) fun e=>by rw[e];exact hy a<|BR ..) fun p hp=>hy p<|BP _ hp;refine⟨k',?_,h'.iff fun p=>by rw[BE,or_assoc]⟩;show(xV a kvs).bind _=_;rw[e,Bl];exact e'
theorem uK{t:Cd}(h:Card t)(mk:Pl){loose bound:Int}(hl:loose<=3)(hb:bound<=61){pre:List (List<|Int×Int)}(hp:pre.length<=1000){cur:List (Int×Int)}(hs:∀p∈cur,mj p):xW gN t loose bound mk (pre++[cur])=.ok (if nP t mk loose bound cur=[]then .rt (pre++[cur]++[nP t mk loose bound cur])else .nx (pre++[cur]++[nP t mk loose bound cur])):=by
 unfold xW;rw[wA,Bl];obtain⟨s,e,h1⟩:=eM (f:=zr gN t loose bound mk) (fun pre s=>Ks s<|Nx t mk loose bound pre) cur [] ⟨Ep,fun p=>⟨fun z=>(by cases z),fun z=>absurd z yf⟩⟩ (by
  intro pre a post s e h1;have ha:mj a:=hs a (by rw[e];simp);have hq:∀p∈pre,mj p:=fun p hp=>hs p (by rw[e];simp[hp]);unfold zr;rw[qd h mk loose bound _,Bl];obtain⟨s',e',h'⟩:=nL ((jZ t mk loose bound a).map (aD t a)) s _ h1 (fun p n=>n.inb hl hb hq) (fun p hp=>by
   obtain⟨c,hc,rfl⟩:=C6.mp hp;exact q9 hl hb ha (mem_onw.mp hc).2)
  rw[e',Bl];exact⟨s',rfl,h'.iff fun p=>by
   rw[wB,C6];exact or_congr JB ⟨fun⟨c,h1,h2⟩=>⟨c,h1,h2.symm⟩,fun⟨c,h1,h2⟩=>⟨c,h1,h2.symm⟩⟩⟩)
 have hlen:=h1.len fun p n=>n.inb hl hb hs;rw[show cO _ cur []=Bp s from e,Bl,show tQ (s.map (·.1))=.ok (eV (s.map (·.1)))from bz ⟨by rw[BS];omega,h1.1⟩,uI h1.1 h1.2,Bl,fK (by simp;omega),Bl];have el:(nP t mk loose bound cur).length=s.length:=by
  rw[<-uI h1.1 h1.2,(dA _).length_eq,BS]
 by_cases z:nP t mk loose bound cur=[]
 ·rw[if_pos z,if_pos (by rw[z]at el;simp at el;simp[<-el])]
 ·rw[if_neg z,if_neg (fun y=>z (by
   have:s.length=0:=by simpa using y
   exact Fn.mp (by omega)))]
theorem jX{t:Cd}(h:Card t){loose bound:Int}(hl:loose<=3)(hb:bound<=61):∀(strip:List Pl)(pre:List (List<|Int×Int))(cur:List (Int×Int)),cur≠[]->pre.length+strip.length<=1000->(∀p∈cur,mj p)->
  ∃r,fo (xW gN t loose bound) strip (pre++[cur])=.ok r/\(r=.nx (pre++eZ t loose bound strip cur)\/r=.rt (pre++eZ t loose bound strip cur))
 | [],pre,cur,_,_,_=>⟨_,rfl,.inl rfl⟩
 |m::strip,pre,[],hn,hp,hc=>absurd rfl hn
 |m::strip,pre,a::q,hn,hp,hc=>by
  simp only[De]at hp;show ∃r,(xW gN t loose bound m<|pre++[a::q]).bind _=.ok r/\_;rw[uK h m hl hb (by omega) hc,Bl];have e2:pre++eZ t loose bound (m::strip) (a::q)=pre++[a::q]++eZ t loose bound strip (nP t m loose bound (a::q)):=by
   rw[BU];rfl
  rw[e2];by_cases z:nP t m loose bound (a::q)=[]
  ·rw[if_pos z,z,rF];exact⟨_,rfl,.inr rfl⟩
  ·rw[if_neg z];exact jX h hl hb strip (pre++[a::q]) (nP t m loose bound (a::q)) z (by simp;omega) fun p hp=>(mem_nxt.mp hp).inb hl hb hc
theorem uL{t:Cd}(h:Card t){loose bound:Int}(hl:loose<=3)(hb:bound<=61)(strip:List Pl)(hs:strip.length<=1000):w6 t strip loose bound=.ok (eZ t loose bound strip [(0,0)]):=by
 unfold w6 zY;obtain⟨r,er,hr⟩:=jX h hl hb strip [] [(0,0)] (by simp) (by simpa using hs) zz;rw[show fo _ strip [[((0:Int),(0:Int))]]=Bp r from er,Bl];rcases hr with rfl|rfl<;>rfl
theorem uM{α:Type}(l:List α):cut l none (some<|-(1:Int))=l.dropLast:=by
 unfold cut sIx;dsimp only;rw[if_pos (by decide),Gv,KC,HM];congr 1;omega
theorem uN{α:Type}(l:List α):cut l (some (1:Int)) none=l.drop 1:=mU l 1
def lg(t:Cd)(loose bound:Int)(a:Pl×List (Int×Int)×List (Int×Int)):Bool:=a.2.1.all fun s=>(jZ t a.1 loose bound s).all fun c=>a.2.2.contains<|aD t s c
def lh(t:Cd)(loose bound:Int)(strip:List Pl)(L:List (List<|Int×Int)):Bool:=
 decide (2<=L.length)&&decide (L.length<=strip.length+1)&&decide (L[L.length-1]?.getD []=[])&&(L[0]?.getD []).contains (0,0)&&(strip.zip<|L.dropLast.zip<|L.drop 1).all (lg t loose bound)
theorem uO{kvs:List ((Int×Int)×Bool)}{k:Int×Int}:(look kvs k).isSome=true↔k∈kvs.map (·.1):=by
 unfold look;rw[J3,List.find?_isSome];simp
theorem wG{kvs:List ((Int×Int)×Bool)}{k:Int×Int}:(gJ kvs k true).length<=kvs.length+1:=by unfold gJ;split<;>simp
theorem qe:∀(ys:List (Int×Int))(kvs:List ((Int×Int)×Bool))(P:Int×Int->Prop),Ks kvs P->kvs.length+ys.length<=990->∃kvs',cO (fun(a:Int×Int)(s:List ((Int×Int)×Bool))=>(iP s a true).bind fun y=>Bp y) ys kvs=.ok kvs'/\Ks kvs' fun p=>P p\/p∈ys
 | [],kvs,P,h,_=>⟨kvs,rfl,h.iff fun p=>by simp⟩
 |a::ys,kvs,P,h,hl=>by
  simp only[De]at hl;have hp:=wG (kvs:=kvs) (k:=a);obtain⟨kvs',e,h'⟩:=qe ys (gJ kvs a true) _ (h.put a) (by omega);refine⟨kvs',?_,h'.iff fun p=>by rw[BE,or_assoc]⟩;show((iP kvs a true).bind fun y=>Bp y).bind _=_;rw[show iP kvs a true=.ok (gJ kvs a true)from bz (by omega),Bl,Bl];exact e
theorem wH:zu=fun(a:Int×Int)(s:List ((Int×Int)×Bool))=>(iP s a true).bind fun y=>Bp y:=by
 funext a s;unfold zu;rfl
theorem nM{α:Type}{f:α->Bool}:∀(xs:List α),(xs.findSome? fun a=>if f a=true then none else some false)=if xs.all f=true then none else some false
 | []=>rfl
 |a::xs=>by
  rw[I0,GU];cases h:f a;·simp
  ·simp[nM xs]
theorem fA{α:Type}{g:α->Unit->Res (Fl Bool Unit)}{f:α->Bool}(xs:List α)(h:∀a∈xs,g a ()=.ok (if f a=true then .nx ()else .rt false)):fo g xs ()=.ok (if xs.all f=true then .nx ()else .rt false):=by
 rw[qN (g:=fun a=>if f a=true then none else some false) xs fun a ha=>by rw[h a ha];cases f a<;>rfl,nM];cases xs.all f<;>rfl
theorem wI{t:Cd}(h:Card t)(loose bound:Int){a:Pl×List (Int×Int)×List (Int×Int)}(hl:a.2.2.length<=900):zv gN t loose bound a ()=.ok (if lg t loose bound a=true then .nx ()else .rt false):=by
 unfold zv;obtain⟨kvs,e,hk⟩:=qe a.2.2 [] (fun _=>False) ⟨Ep,fun p=>by simp⟩ (by simp;omega);rw[wH,e,Bl,fA (f:=fun s=>(jZ t a.1 loose bound s).all fun c=>a.2.2.contains<|aD t s c) a.2.1 fun s hs=>?_]
 ·show _=Bp (if(a.2.1.all fun s=>(jZ t a.1 loose bound s).all fun c=>a.2.2.contains<|aD t s c)=true then _ else _);rw[Bl];cases (a.2.1.all fun s=>(jZ t a.1 loose bound s).all fun c=>a.2.2.contains<|aD t s c)<;>rfl
 ·unfold A1;rw[qd h,Bl,fA (f:=fun p=>a.2.2.contains p) _ fun p hp=>?_]
  ·rw[KG,Bl];show(match (if((jZ t a.1 loose bound s).all fun c=>a.2.2.contains<|aD t s c)=true then(Fl.nx ():Fl Bool Unit)else .rt false)with| .nx _=>_| .rt r=>_| .bk _=>_)=_;cases ((jZ t a.1 loose bound s).all fun c=>a.2.2.contains<|aD t s c)<;>rfl
  ·unfold A0;have:(look kvs p).isSome=a.2.2.contains p:=by
    rw[CH,uO,hk.2 p,HI];simp
   rw[this];cases a.2.2.contains p<;>rfl
theorem uP{xs:List Dat}:fO 3 (.l xs)=true:=rfl
theorem wJ{l:List (Int×Int)}(hl:l.length<=900):zt l ()=.ok (.nx ()):=by
 unfold zt;rw[uP,show(!true)=false from rfl,if_neg (by decide),cZ (g:=fun _:Int×Int=>true) (f:=fun(a29:Int×Int)=>Bp<|fO 4<|Jo [G7 a29.1,G7 a29.2]) (by show l.length<=100000;omega)<|fun x _=>rfl,Bl,Bl,Bl];have:(l.map fun _:Int×Int=>true).all id=true:=by rw[EZ];intro x hx;obtain⟨_,_,rfl⟩:=C6.mp hx;rfl
 rw[this];rfl
theorem wK{t:Cd}(h:Card t)(strip:List Pl)(loose bound:Int){L:List (List<|Int×Int)}(hl:∀l∈L,l.length<=900):w8 t strip loose bound L=.ok (lh t loose bound strip L):=by
 unfold w8 A2;rw[uP,show(!true)=false from rfl,if_neg (by decide)];unfold lh;by_cases h2:2<=L.length
 ·rw[if_neg (by simp;omega),Bl,decide_eq_true h2,Eg];by_cases h3:L.length<=strip.length+1
  ·rw[if_neg (by simp;omega),decide_eq_true h3,Eg];rw[fA (f:=fun _=>true) L fun l hl'=>wJ<|hl l hl',Bl];rw[show(L.all fun _=>true)=true from by simp,if_pos rfl];dsimp only;have l1:L[L.length-1]? =some L[L.length-1]:=Bn (by omega);have l0:L[0]? =some L[0]:=Bn (by omega);rw[nK l1,Bl,Bl,l1,l0,CY,CY];by_cases h4:L[L.length-1]=[]
   ·rw[decide_eq_true h4,Eg,h4,show(!([]:List (Int×Int)).isEmpty)=false from rfl,if_neg (by decide),show dF L (0:Int)=.ok L[0]from ir (i:=0) l0,Bl,Bl];cases h5:L[0].contains (0,0)with
    |false=>rfl
    |true=>
     rw[show(!true)=false from rfl,if_neg (by decide),Eg,uM,uN,fA (f:=lg t loose bound) _ fun a ha=>?_,Bl];·cases (strip.zip<|L.dropLast.zip<|L.drop 1).all (lg t loose bound)<;>rfl
     ·have h6:=E7 (show(a.1,a.2)∈_ from ha);have h7:=E7 (show(a.2.1,a.2.2)∈_ from h6.2);exact wI h loose bound<|hl _<|HX h7.2
   ·rw[decide_eq_false h4,EJ,EJ];have:(!L[L.length-1].isEmpty)=true:=by
     cases q:L[L.length-1]with
     |nil=>exact absurd q h4
     |cons _ _=>rfl
    rw[this,if_pos rfl,Bl,if_pos rfl]
  ·rw[if_pos (by simp;omega),decide_eq_false h3];simp
 ·rw[if_pos (by simp;omega),Bl,if_pos rfl,decide_eq_false h2];simp
theorem yh{t:Cd}(h:Card t)(mk:Pl)(loose bound:Int)(xs ys:List (Int×Int))(hy:ys.length<=900):wd t mk loose bound xs ys=.ok (lg t loose bound (mk,xs,ys)):=by
 unfold wd Af;rw[bz (show ys.length<1000 by omega),Bl,fA (f:=fun s=>(jZ t mk loose bound s).all fun c=>ys.contains<|aD t s c) xs fun s hs=>?_,Bl]
 ·show _=Bp (xs.all fun s=>(jZ t mk loose bound s).all fun c=>ys.contains<|aD t s c);cases (xs.all fun s=>(jZ t mk loose bound s).all fun c=>ys.contains<|aD t s c)<;>rfl
 ·unfold Ae;rw[rE h,Bl,fA (f:=fun p:Tx×(Int×Int)=>ys.contains p.2) _ fun p hp=>?_,Bl]
  ·rw[KG];show(match (if((jZ t mk loose bound s).all fun c=>ys.contains<|aD t s c)=true then(Fl.nx ():Fl Bool Unit)else .rt false)with| .nx _=>_| .rt r=>_| .bk _=>_)=_;cases ((jZ t mk loose bound s).all fun c=>ys.contains<|aD t s c)<;>rfl
  ·unfold Ad;cases ys.contains p.2<;>rfl
theorem jY{t:Cd}(h:Card t)(strip:List Pl)(hs:strip.length<=1000)(loose bound:Int){L:List (List<|Int×Int)}(hl:∀l∈L,l.length<=900):ui t strip loose bound L=.ok (lh t loose bound strip L):=by
 unfold ui Ag lh;by_cases h2:2<=L.length
 ·rw[if_neg (by simp;omega),Bl,decide_eq_true h2,Eg];by_cases h3:L.length<=strip.length+1
  ·rw[if_neg (by simp;omega),decide_eq_true h3,Eg];have l1:L[L.length-1]? =some L[L.length-1]:=Bn (by omega);have l0:L[0]? =some L[0]:=Bn (by omega);rw[nK l1,Bl,Bl,l1,l0,CY,CY];by_cases h4:L[L.length-1]=[]
   ·rw[decide_eq_true h4,Eg,h4,show(!([]:List (Int×Int)).isEmpty)=false from rfl,if_neg (by decide),show dF L (0:Int)=.ok L[0]from ir (i:=0) l0,Bl,Bl];cases h5:L[0].contains (0,0)with
    |false=>rfl
    |true=>
     rw[show(!true)=false from rfl,if_neg (by decide),Eg,show(L.length:Int)-1=((L.length-1:Nat):Int) by omega,kT (by omega),Bl];have key:∀i:Nat,i<L.length-1->(strip.zip<|L.dropLast.zip<|L.drop 1)[i]? =some (strip.getD i default,L.getD i [],L.getD (i+1) []):=fun i hi=>by
      rw[Df];refine⟨by rw[BQ,Bn (show i<strip.length by omega)];rfl,?_⟩;rw[Df];constructor
      ·show L.dropLast[i]? =some (L.getD i []);rw[HM,Ca hi,BQ,Bn (show i<L.length by omega)];rfl
      ·show(L.drop 1)[i]? =some (L.getD (i+1) []);rw[CC,KA,BQ,Bn (show i+1<L.length by omega)];rfl
     rw[cZ (g:=fun a:Int=>lg t loose bound (strip.getD a.toNat default,L.getD a.toNat [],L.getD (a.toNat+1) [])) (by rw[BS,IX];show _<=100000;omega) (fun a ha=>by
      obtain⟨i,hi,rfl⟩:=C6.mp ha;have hi:i<L.length-1:=by simpa using hi
      rw[ir (i:=i) (Bn (show i<strip.length by omega)),Bl,ir (i:=i) (Bn (show i<L.length by omega)),Bl,show(i:Int)+1=((i+1:Nat):Int) by omega,ir (i:=i+1) (Bn (show i+1<L.length by omega)),Bl,yh h _ loose bound _ _ (hl _ (DH _))];congr 2;simp[BQ,Bn (show i<strip.length by omega),Bn (show i<L.length by omega),Bn (show i+1<L.length by omega)]),Bl]
     congr 1;rw[CH,EZ,EZ];constructor
     ·intro hall p hp;obtain⟨i,hi⟩:=EC.mp hp;have hlt:i<L.length-1:=by
       have:=(Bv.mp hi).1;simp at this;omega
      rw[key i hlt]at hi;cases hi;exact hall _ (C6.mpr ⟨(i:Int),C6.mpr ⟨i,by simpa using hlt,rfl⟩,rfl⟩)
     ·intro hall b hb;obtain⟨a,ha,rfl⟩:=C6.mp hb;obtain⟨i,hi,rfl⟩:=C6.mp ha;exact hall _ (BJ (key i (by simpa using hi)))
   ·rw[decide_eq_false h4,EJ,EJ];have:(!L[L.length-1].isEmpty)=true:=by
     cases q:L[L.length-1]with
     |nil=>exact absurd q h4
     |cons _ _=>rfl
    rw[this,if_pos rfl,Bl,if_pos rfl]
  ·rw[if_pos (by simp;omega),decide_eq_false h3];simp
 ·rw[if_pos (by simp;omega),Bl,if_pos rfl,decide_eq_false h2];simp
theorem yi(ns:List Int)(h:ns.length<=63):(uj ns).Ok (· =true):=by
 unfold uj pU;refine fh ((show(uS ns (12:Int)).Ok _ from wy h 12 (by decide)).imp fun y zz=>?_);obtain⟨hc,⟨n,hn,hm⟩,g0,g1⟩:=zz;have hl:y.2.1.length=n:=hm.1;obtain⟨c5,e5⟩:=jV h 5 (by decide);rw[show fP ns 5=.ok c5 from e5,Bl,Bl];refine fh<|Cq (P:=fun b=>0<=b/\b<=60) ?_ fun b hb=>?_
 ·simp only[Bl];exact iO (fun _=>dn ⟨by omega,by omega⟩) fun _=>dn ⟨by omega,by omega⟩
 refine fh<|Cq (P:=fun b=>b<=61) ?_ fun nb hnb=>?_
 ·simp only[Bl];exact iO (fun _=>dn (by split<;>omega)) fun _=>dn (by omega)
 rw[uL hc (show y.2.2<=3 by omega) hnb y.2.1 (by omega),Bl];have hB:Bx 61 492 (eZ y.1 y.2.2 nb y.2.1 [(0,0)]):=⟨by have:=l9 (t:=y.1) (loose:=y.2.2) (bound:=nb) y.2.1 [(0,0)];omega,fun l hl'=>by
  have:=lb (t:=y.1) (show y.2.2<=3 by omega) hnb y.2.1 [(0,0)] (by simp) zz l hl';exact q0 this.1 this.2⟩
 have er:lQ (6:Int) (9:Int)=.ok [6,7,8]:=rfl;have step:∀(k:Nat)(a b:Nat)(L:List (List<|Int×Int)),k<=200->a<=900->b<=900->Bx a b L->(dW fP nO ns (k:Int) L).Ok (Bx (a+1)<|b+1):=fun k a b L hk ha hb hL=>by
  unfold dW;obtain⟨c,ec⟩:=jV h k hk;rw[ec,Bl,Bl,Bl,Bl,jD (by omega) (by omega),Bl];exact fh<|(wD hL ha hb _).imp fun s hs=>dn hs
 rw[er,Bl];refine fh<|Cq (P:=Bx 64 495) ?_ fun S hS=>?_
 ·show((dW fP nO ns ((6:Nat):Int) _).bind _).Ok _;refine fh ((step 6 61 492 _ (by decide) (by decide) (by decide) hB).imp fun s1 h1=>?_);show((dW fP nO ns ((7:Nat):Int) _).bind _).Ok _;refine fh ((step 7 62 493 _ (by decide) (by decide) (by decide) h1).imp fun s2 h2=>?_);show((dW fP nO ns ((8:Nat):Int) _).bind _).Ok _;exact fh ((step 8 63 494 _ (by decide) (by decide) (by decide) h2).imp fun s3 h3=>dn h3)
 have hSl:S.length<=64:=hS.1;rw[cZ (f:=fun(a:List (Int×Int))=>Bp a) (g:=fun x=>x) (by show S.length<=100000;omega)<|fun _ _=>rfl,show(S.map fun x=>x)=S from KD S,Bl];have hall:∀l∈S,l.length<=900:=fun l hl'=>by have:=hS.2 l hl';omega
 rw[wK hc y.2.1 y.2.2 b hall,Bl,jY hc y.2.1 (by omega) y.2.2 b hall,Bl,lO rfl,lO rfl,Bl,Bl,show(!true)=false from rfl,if_neg (by decide),Bl,if_neg (by decide),lO rfl,Bl,Bl,show(!true)=false from rfl,if_neg (by decide)];rw[jY hc y.2.1 (by omega) y.2.2 b (L:=[]) (fun l hl'=>nomatch hl'),jY hc y.2.1 (by omega) y.2.2 b (L:=[[]]) (fun l hl'=>by rw[Dp.mp hl'];decide),Bl,Bl];rw[show lh y.1 y.2.2 b y.2.1 []=false from rfl,show lh y.1 y.2.2 b y.2.1 [[]]=false from rfl,lO rfl];rfl
end Mi
namespace PySem.W.Fast
def tw861502493610598483:=()
def tw17671300573169280190:=()
def tw7774113678449685934:=()
def tw1413555121281612218:=()
def tw8854275682344465072:=()
def tw9561226457009474297:=()
def tw9615563845995560447:=()
def tw7322748291113730364:=()
def tw5072417060200589145:=()
def tw15254633091992210921:=()
def tw16120054744476736488:=()
def tw5832305185047221409:=()
def tw8997383693586321770:=()
def tw1825952489489211193:=()
def tw8002303944043701648:=()
def tw9879335643197240621:=()
def tw5459702643516471331:=()
def tw17338325484393633139:=()
def tw9592521066531166775:=()
def tw3300257896294614128:=()
def tw13421457143807847188:=()
def tw1950803216711332702:=()
def tw4971374062829452455:=()
def tw9972681490609642005:=()
def tw6128106870883400570:=()
def tw140236481695663071:=()
def tw10619231889807973815:=()
def tw3215387988796971590:=()
def tw2750241611909316711:=()
def tw3382625519597670723:=()
def tw12592172766608505503:=()
def tw896239598344801917:=()
def tw17318462890700432884:=()
def tw15042883488752021643:=()
def tw11898673842065290130:=()
def tw13055953723892786844:=()
def tw13622603851894308203:=()
def tw14172470266813156586:=()
def tw4684226298888400098:=()
def tw6522051377940421278:=()
def tw2144661209622563809:=()
def tw2107523057676978006:=()
def tw7424060955962978353:=()
def tw16902440903046159558:=()
def tw2135409205425526673:=()
def tw14827714588952709054:=()
def tw3308634892276815127:=()
def tw11738243743197964597:=()
def tw17292613610259460706:=()
def tw17351735930882485243:=()
def tw16298917771340976007:=()
def tw12887044766017154078:=()
def tw10295913840692754127:=()
def tw11589282660436910429:=()
def tw4039707410889071942:=()
def tw8733291241859026926:=()
def tw15925456577456769635:=()
def tw12459912946257978736:=()
def tw4075453323654395381:=()
def tw15127105006835628225:=()
def tw17464319187374939960:=()
def tw2950685276103557050:=()
def tw8159993647027272844:=()
def tw15227483606004533461:=()
def tw8047209995159408440:=()
def tw2403389108928632939:=()
def tw13769103115541136327:=()
def tw3641951560692057861:=()
def tw13757698761724263525:=()
def tw14703100239697439463:=()
def tw447263597446747957:=()
def tw10294118229990073760:=()
def tw15402603294489630176:=()
def tw6822071536725586909:=()
def tw8912161614967838395:=()
def tw7476452910721959123:=()
def tw10016166984437732892:=()
def tw8480184845173159842:=()
def tw14760874974797668852:=()
def tw7164969610272591079:=()
end PySem.W.Fast
section
open PySem PySem.W PyProof.Rows
set_option maxHeartbeats 0 in
open_top hd for PySem.Challenge.rw_wornband_k39_searches_judged
end
namespace Wb
open PySem L2 Mi
theorem wL{K:Bo}:∀vs H Q E,pV K vs H Q E->ei (isScr K) (rs isB) uj vs H Q E:=fun vs H Q E⟨a,ns,h1,h2,h3,h4⟩=>
 ⟨⟨H,H,.refl _⟩,ns,.ref a,rfl,h1,⟨a,rfl,h2⟩,fun _=>False,Res.Ok.e ((yi ns h3).imp fun r hr u W' _ hu=>by cases hr;cases hu;exact h4 _)⟩
theorem fin_mk{l:FW}{w:C2}{K:Bo}{h:Heap}{mg:Str->Option Bq}{fa:Addr}{Z1v:Addr}{Z3T Z3U:Option Addr}{Z3V:Array (Option Bq)}{Z3W Z3X Z3Y Z3Z Z31 Z40:Bq}{f_law:Addr}{od_law an_law:Option Addr}{sl_law:Array (Option Bq)}{oc_law kV_law dc_law pm_law cd_law ct_law:Bq}{Z1J:Tok}{Z1x:Addr}{Z4v:Nat}{x_SLANTS0 y_SLANTS0 x_SLANTS1 y_SLANTS1 x_SLANTS2 y_SLANTS2:Tok}{Z21:Addr}{Z4C:Nat}{x_START0 x_START1:Tok}{Z1F:Addr}{Z4D:Nat}{x_STEPS0 y_STEPS0 x_STEPS1 y_STEPS1 x_STEPS2 y_STEPS2:Tok}{Z3A:Tok}{Z3R:Tok}(X:K.In h)(G:h.Ns mainGlobals mg)(hfa:mg "law"=some (.ref fa))
  (Z1R:Co K mainGlobals "_law_same"=some (some<|.ref Z1v))
  (Z2v:K.lookup Z1v=some ⟨Z3W,Z3T,.func<|DK "_law_same" "_law_same" (defArgs<|tp 47) (defBody<|tp 47) (defScope<|tp 47) .none Z3X Z3Y Z3Z Z3U Z31 Z40,Z3V⟩)
  (Z2w:EL K Z31 "_law_same"=true)
  (Z1w:Ek K (.ref Z1v)=true)
  (Z32:DI K "_law_at" (tp 29) ["_law_script","_law_k"])
  (Z2X:DI K "_law_row" (tp 25) ["_law_cell","_law_many","_law_base"])
  (Z2b:DI K "_law_holes" (tp 26) ["_law_cell"])
  (Z2x:DI K "_law_card" (tp 27) ["_law_cell"])
  (Z2c:DI K "_law_turns" (tp 28) ["_law_cell","_law_many"])
  (Z33:DI K "_law_go" (tp 31) ["_law_turn"])
  (Z1V:DI K "_law_behind" (tp 32) ["_law_card_here","_law_turn"])
  (Z2d:DI K "_law_twist" (tp 33) ["_law_card_here","_law_turn"])
  (Z1W:DI K "_law_places" (tp 34) ["_law_card_here","_law_turns_here"])
  (Z2y:DI K "_law_long" (tp 36) ["_law_places_here","_law_cell"])
  (Z2e:DI K "_law_marks" (tp 35) ["_law_places_here","_law_cell","_law_lies"])
  (Z1D:DI K "_law_turnover" (tp 37) ["_law_card_here"])
  (Z2z:DI K "_law_back" (tp 38) ["_law_turns_here"])
  (Z2A:DI K "_law_roll" (tp 39) ["_law_card_here","_law_many"])
  (Z2B:DI K "_law_seen" (tp 40) ["_law_card_here","_law_turns_here"])
  (Z2Y:DI K "_law_kin" (tp 41) ["_law_card_here","_law_turns_here","_law_cell"])
  (Z2C:DI K "_law_case" (tp 42) ["_law_script","_law_most"])
  (Z2D:DI K "_law_next" (tp 43) ["_law_card_here","_law_mark","_law_loose","_law_bound","_law_state"])
  (Z2f:DI K "_law_reach" (tp 44) ["_law_card_here","_law_strip","_law_loose","_law_bound"])
  (Z2E:DI K "_law_bent" (tp 46) ["_law_lists","_law_cell"])
  (Z2F:DI K "_law_shut" (tp 45) ["_law_card_here","_law_strip","_law_loose","_law_bound","_law_lists"])
  (Z2Z:DI K "twisting" (tp 6) ["tablet","turn"])
  (Z1L:DI K "state_behind" (tp 17) ["tablet","state","turn"])
  (Z3l:DI K "within" (tp 18) ["state","loose","bound"])
  (Z34:DI K "twisted" (tp 16) ["tablet","twist"])
  (d_top:DI K "top" (tp 4) ["tablet"])
  (Z3m:DI K "bottom" (tp 5) ["tablet"])
  (Z2g:DI K "left_place" (tp 9) ["tablet","turn"])
  (Z3G:DI K "suits" (tp 13) ["sign","left"])
  (Z3n:DI K "agrees" (tp 12) ["place","mark"])
  (Z3o:DI K "leaves" (tp 19) ["tablet","state","turn","mark"])
  (Z3p:DI K "onward" (tp 20) ["tablet","mark","loose","bound","state"])
  (Z3q:DI K "led_on" (tp 23) ["tablet","mark","loose","bound","states","following"])
  (Z3H:DI K "holds" (tp 22) ["tablet","strip","loose","bound","lists"])
  (a_law:Co K mainGlobals "law"=some (some<|.ref f_law))
  (l_law:K.lookup f_law=some ⟨oc_law,od_law,.func<|DK "law" "law" (defArgs<|tp 48) (defBody<|tp 48) (defScope<|tp 48) .none kV_law dc_law pm_law an_law cd_law ct_law,sl_law⟩)
  (c_law:EL K cd_law "law"=true)
  (k_law:Ek K (.ref f_law)=true)
  (z_abs:Co K mainGlobals "abs"=some none)
  (z_all:Co K mainGlobals "all"=some none)
  (z_bool:Co K mainGlobals "bool"=some none)
  (z_int:Co K mainGlobals "int"=some none)
  (z_isinstance:Co K mainGlobals "isinstance"=some none)
  (z_len:Co K mainGlobals "len"=some none)
  (z_list:Co K mainGlobals "list"=some none)
  (z_max:Co K mainGlobals "max"=some none)
  (z_range:Co K mainGlobals "range"=some none)
  (z_set:Co K mainGlobals "set"=some none)
  (z_sorted:Co K mainGlobals "sorted"=some none)
  (z_str:Co K mainGlobals "str"=some none)
  (z_tuple:Co K mainGlobals "tuple"=some none)
  (z_zip:Co K mainGlobals "zip"=some none)
  (Z3I:Co K mainGlobals "HOLES"=some (some<|.int 4 Z1J))
  (Z3r:Co K mainGlobals "SLANTS"=some (some<|.ref Z1x))
  (Z3s:K.lookup Z1x=some {cls:=.type "dict",data:=.dict #[⟨hashInt<|1,.int (1) x_SLANTS0,.str (Bu "s") y_SLANTS0⟩,⟨hashInt<|-1,.int (-1) x_SLANTS1,.str (Bu "z") y_SLANTS1⟩,⟨hashInt<|0,.int (0) x_SLANTS2,.str (Bu "o") y_SLANTS2⟩] Z4v})
  (Z3t:(Z1x==sysModules)=false)
  (Z3J:Co K mainGlobals "START"=some (some<|.ref Z21))
  (Z3K:K.lookup Z21=some {cls:=.type "tuple",data:=.seq #[.int (0) x_START0,.int (0) x_START1] Z4C})
  (Z3L:Co K mainGlobals "STEPS"=some (some<|.ref Z1F))
  (Z3M:K.lookup Z1F=some {cls:=.type "dict",data:=.dict #[⟨G4 w.params<|Bu "f",.str (Bu "f") x_STEPS0,.int (1) y_STEPS0⟩,⟨G4 w.params<|Bu "b",.str (Bu "b") x_STEPS1,.int (-1) y_STEPS1⟩,⟨G4 w.params<|Bu "i",.str (Bu "i") x_STEPS2,.int (0) y_STEPS2⟩] Z4D})
  (Z3N:(Z1F==sysModules)=false)
  (Z3O:Co K mainGlobals "TURNS"=some (some<|.str (Bu "fbi") Z3A))
  (Z41:Co K mainGlobals "WORN"=some (some<|.str (Bu "?") Z3R))
  :∃fd:C4,(∀(s:Bs)(v:Bq),IK s fd ⟨[v],[]⟩ [("_law_script",v)])/\∀base:Heap,K.In base->base.Ns mainGlobals mg->FnOk l.prog w K mg base CX0 27 fa fd ["_law_script"] (pV K):=by
 have e:=hfa.symm.trans<|DM X G a_law;cases e;have Z39:=lB (st:=tp 47) Z2v Z2w Z1w;have Z3a:=Z39.binds (ps:=["_law_found","_law_due"]) fun _ _ _ _ _ _ us hl=>match us,hl with| [_,_],_=>rfl
 have F_law:=lB (st:=tp 48) l_law c_law k_law;have b_law:=F_law.binds (ps:=["_law_script"]) fun _ _ _ _ _ _ us hl=>match us,hl with| [_],_=>rfl
 have h_abs:=Cu X G z_abs;have h_all:=Cu X G z_all;have h_bool:=Cu X G z_bool;have h_int:=Cu X G z_int;have h_isinstance:=Cu X G z_isinstance;have h_len:=Cu X G z_len;have h_list:=Cu X G z_list;have h_max:=Cu X G z_max;have h_range:=Cu X G z_range;have h_set:=Cu X G z_set;have h_sorted:=Cu X G z_sorted;have h_str:=Cu X G z_str;have h_tuple:=Cu X G z_tuple;have h_zip:=Cu X G z_zip;have Z1p:=DM X G Z3I;have Z3c:=DM X G Z3r;have Z3d:DictK K w Z1x [(Eh<|1,.str<|Bu "s"),(Eh<|-1,.str<|Bu "z"),(Eh<|0,.str<|Bu "o")]:=⟨by decide,Z3t,by decide +kernel,_,_,Z3s,(.cons ⟨gr _ _,rfl,⟨_,rfl⟩⟩<|.cons ⟨gr _ _,rfl,⟨_,rfl⟩⟩<|.cons ⟨gr _ _,rfl,⟨_,rfl⟩⟩ .nil)⟩
 have Z3C:=DM X G Z3J;have Z3D:∀H,SqT K H Z21 [.int (0),.int<|0]:=fun H=>.inr ⟨_,_,_,Z3K,⟨rfl,rfl⟩,rfl,(by show 2<=sizeLine;decide),(.cons ⟨_,rfl⟩<|.cons ⟨_,rfl⟩ .nil)⟩;have Z3w:=DM X G Z3L;have Z3x:DictK K w Z1F [(Ei<|Bu "f",.int<|1),(Ei<|Bu "b",.int<|-1),(Ei<|Bu "i",.int<|0)]:=⟨by decide,Z3N,by decide +kernel,_,_,Z3M,(.cons ⟨gs _ _,rfl,⟨_,rfl⟩⟩<|.cons ⟨gs _ _,rfl,⟨_,rfl⟩⟩<|.cons ⟨gs _ _,rfl,⟨_,rfl⟩⟩ .nil)⟩
 have Z3B:=DM X G Z3O;have Z3S:=DM X G Z41;refine⟨DK "law" "law" (defArgs<|tp 48) (defBody<|tp 48) (defScope<|tp 48) .none kV_law dc_law pm_law an_law cd_law ct_law,fun s v=>.of_eq rfl,fun base KB _=>?_⟩;have SA:∀n:Nat,Cal l.prog w K mg base "_law_same" ["_law_found","_law_due"] n (gC K n):=fun n=>by
  induction n with
  |zero=>exact⟨Z1v,_,we,DM X G Z1R,Z1w,Z3a⟩
  |succ n ih=>exact⟨Z1v,_,uk Z39 h_len h_isinstance h_bool h_int h_str h_list h_tuple h_zip ih,DM X G Z1R,Z1w,Z3a⟩
 have Z0E:=SA 26;have Z0t:Cal l.prog w K mg base _ _ _ (bJ _ _ _ fP):=Z32.cal X G fun F=>AD F h_len;have Z0r:Cal l.prog w K mg base _ _ _ (fe _ _ _ _ gk):=Z2X.cal X G fun F=>AE F h_abs h_range;have Z24:Cal l.prog w K mg base _ _ _ (ei _ _ vS):=Z2b.cal X G fun F=>AF F Z0r;have Z1Q:Cal l.prog w K mg base _ _ _ (ei _ _ uR):=Z2x.cal X G fun F=>AG F Z24;have Z26:Cal l.prog w K mg base _ _ _ (bJ _ _ _ vT):=Z2c.cal X G fun F=>AH F Z0r;have Z1j:Cal l.prog w K mg base _ _ _ (ei _ _ nN):=Z33.cal X G fun F=>AI F;have Z0P:Cal l.prog w K mg base _ _ _ (bJ _ _ _ je):=Z1V.cal X G fun F=>AJ F Z1j;have Z10:Cal l.prog w K mg base _ _ _ (bJ _ _ _ iJ):=Z2d.cal X G fun F=>AK F Z1j;have Z1U:Cal l.prog w K mg base _ _ _ (bJ _ _ _ vU):=Z1W.cal X G fun F=>AL F Z0P Z10;have Z2q:Cal l.prog w K mg base _ _ _ (bJ _ _ _ vV):=Z2y.cal X G fun F=>AM F Z0r h_len h_zip;have Z27:Cal l.prog w K mg base _ _ _ (fe _ _ _ _ vW):=Z2e.cal X G fun F=>AN F Z0r h_int h_len h_tuple h_zip;have Z1C:Cal l.prog w K mg base _ _ _ (ei _ _ vX):=Z1D.cal X G fun F=>AO F;have Z2n:Cal l.prog w K mg base _ _ _ (ei _ _ vY):=Z2z.cal X G fun F=>AQ F;have Z2o:Cal l.prog w K mg base _ _ _ (bJ _ _ _ vZ):=Z2A.cal X G fun F=>AR F h_range;have Z2p:Cal l.prog w K mg base _ _ _ (bJ _ _ _ w4):=Z2B.cal X G fun F=>AS F Z0P h_sorted;have Z2W:Cal l.prog w K mg base _ _ _ (fe _ _ _ _ w5):=Z2Y.cal X G fun F=>AU F Z1C Z2n Z2o Z2p h_range;have Z2s:Cal l.prog w K mg base _ _ _ (bJ _ _ _ uS):=Z2C.cal X G fun F=>AW F Z1Q Z0t Z26 Z1U Z2q Z27 Z2W;have Z1f:Cal l.prog w K mg base _ _ _ (gW _ _ _ _ _ _ gN):=Z2D.cal X G fun F=>AX F Z10 h_abs h_int h_zip;have Z2a:Cal l.prog w K mg base _ _ _ (mN _ _ _ _ _ w6):=Z2f.cal X G fun F=>AY F Z1f h_len h_list h_sorted;have Z2t:Cal l.prog w K mg base _ _ _ (bJ _ _ _ nO):=Z2E.cal X G fun F=>AZ F Z0r h_len h_list h_max;have Z2u:Cal l.prog w K mg base _ _ _ (gW _ _ _ _ _ _ w8):=Z2F.cal X G fun F=>B0 F Z1f h_all h_isinstance h_len h_list h_tuple h_zip;have Z1o:Cal l.prog w K mg base _ _ _ (bJ _ _ _ oE):=Z2Z.cal X G fun F=>B6 F Z3w Z3x;have Z1K:Cal l.prog w K mg base _ _ _ (fe _ _ _ _ uU):=Z1L.cal X G fun F=>B7 F Z1o;have Z3f:Cal l.prog w K mg base _ _ _ (fe _ _ _ _ ug):=Z3l.cal X G fun F=>B8 F h_abs;have Z30:Cal l.prog w K mg base _ _ _ (bJ _ _ _ w9):=Z34.cal X G fun F=>B9 F Z1p;have C_top:Cal l.prog w K mg base _ _ _ (ei _ _ iq):=d_top.cal X G fun F=>zw F Z1p;have Z3b:Cal l.prog w K mg base _ _ _ (ei _ _ wa):=Z3m.cal X G fun F=>Ba F Z1p;have Z29:Cal l.prog w K mg base _ _ _ (bJ _ _ _ wb):=Z2g.cal X G fun F=>Bb F C_top Z3b Z1o Z3c Z3d;have Z3z:Cal l.prog w K mg base _ _ _ (bJ _ _ _ uV):=Z3G.cal X G fun F=>Bc F Z3S;have Z3e:Cal l.prog w K mg base _ _ _ (bJ _ _ _ wc):=Z3n.cal X G fun F=>Bd F Z3z h_all h_zip;have Z3g:Cal l.prog w K mg base _ _ _ (mN _ _ _ _ _ uh):=Z3o.cal X G fun F=>Be F Z3e Z29 Z30;have Z3h:Cal l.prog w K mg base _ _ _ (gW _ _ _ _ _ _ rJ):=Z3p.cal X G fun F=>Bf F Z1K Z3f Z3g Z3B;have Z3k:Cal l.prog w K mg base _ _ _ (vR _ _ _ _ _ _ _ wd):=Z3q.cal X G fun F=>Bg F Z3h h_set;have Z2G:Cal l.prog w K mg base _ _ _ (gW _ _ _ _ _ _ ui):=Z3H.cal X G fun F=>Bh F Z3k h_all h_len h_range Z3C Z3D;exact FnOk.imp (zx F_law Z2s Z0t Z2a Z2t Z2u Z0E Z2G h_len h_list h_max h_range) wL
theorem walk{l:FW}{q:BK}{loose:List Str}{XP:(Str->Option Bq)->Heap->Prop}{YP:C2->Heap->Prop}{d:DefRec}{K:Le->Bo}(hn:l.most=some 63)(hdf:d.params.defaults=[])(hY:∀(w:C2)(h:Heap),YP w h->(K w.params).In h)
  (F:∀(w:C2)(mg:Str->Option Bq)(fa:Addr)(h:Heap),(K w.params).In h->h.Ns mainGlobals mg->mg d.name=some (.ref fa)->∃fd:C4,(∀(s:Bs)(u:Bq),IK s fd ⟨[u],[]⟩ [("_law_script",u)])/\∀base:Heap,(K w.params).In base->base.Ns mainGlobals mg->FnOk l.prog w (K w.params) mg base CX0 27 fa fd ["_law_script"] (pV<|K w.params)):
  JA q loose XP YP l.row.toRowW d [] (fun f vs=>JJ f vs):=
 L2.walk_of (n:=63) (k:=27) (x:="_law_script") (CX:=fun _=>CX0) (sp:=fun w=>pV<|K w.params) hn (by decide) hdf ⟨rfl,by decide,by decide⟩ hY F (fun _ _ a ns hl _ hS=>⟨a,ns,rfl,hS,hl,fun _=>rfl⟩) fun _ _ _ _ _ z=>z
end Wb
local macro_rules | `(tactic| walk_at "D") => `(tactic| (apply Wb.DI.mk; (case da => k_is); (case dl => k_is); (case dc => k_is); (case dk => k_is); exact fun _ _ _ _ _ _ _ => rfl))
open PySem PySem.W PyProof.Rows
set_option maxRecDepth 100000 in
set_option maxHeartbeats 0 in
theorem PySem.Challenge.cw_wornband_k39_searches_judged_holds : PySem.Challenge.rw_wornband_k39_searches_judged.Holds := by
 refine hd ?_
 k_fill
 refine Wb.walk (l:=Dj) rfl rfl (fun w h Y=>PySem.W.kIn_of Y) ?F
 case F=>
  intro w mg fa h KX G hmg
  refine' Wb.fin_mk KX G hmg ?Z1R ?Z2v ?Z2w ?Z1w ?Z32 ?Z2X ?Z2b ?Z2x ?Z2c ?Z33 ?Z1V ?Z2d ?Z1W ?Z2y ?Z2e ?Z1D ?Z2z ?Z2A ?Z2B ?Z2Y ?Z2C ?Z2D ?Z2f ?Z2E ?Z2F ?Z2Z ?Z1L ?Z3l ?Z34 ?d_top ?Z3m ?Z2g ?Z3G ?Z3n ?Z3o ?Z3p ?Z3q ?Z3H ?a_law ?l_law ?c_law ?k_law ?z_abs ?z_all ?z_bool ?z_int ?z_isinstance ?z_len ?z_list ?z_max ?z_range ?z_set ?z_sorted ?z_str ?z_tuple ?z_zip ?Z3I ?Z3r ?Z3s ?Z3t ?Z3J ?Z3K ?Z3L ?Z3M ?Z3N ?Z3O ?Z41
  (case Z1R=>k_is)
  (case Z2v=>k_is)
  (case Z2w=>k_is)
  (case Z1w=>k_is)
  (case Z32=>walk_at "D")
  (case Z2X=>walk_at "D")
  (case Z2b=>walk_at "D")
  (case Z2x=>walk_at "D")
  (case Z2c=>walk_at "D")
  (case Z33=>walk_at "D")
  (case Z1V=>walk_at "D")
  (case Z2d=>walk_at "D")
  (case Z1W=>walk_at "D")
  (case Z2y=>walk_at "D")
  (case Z2e=>walk_at "D")
  (case Z1D=>walk_at "D")
  (case Z2z=>walk_at "D")
  (case Z2A=>walk_at "D")
  (case Z2B=>walk_at "D")
  (case Z2Y=>walk_at "D")
  (case Z2C=>walk_at "D")
  (case Z2D=>walk_at "D")
  (case Z2f=>walk_at "D")
  (case Z2E=>walk_at "D")
  (case Z2F=>walk_at "D")
  (case Z2Z=>walk_at "D")
  (case Z1L=>walk_at "D")
  (case Z3l=>walk_at "D")
  (case Z34=>walk_at "D")
  (case d_top=>walk_at "D")
  (case Z3m=>walk_at "D")
  (case Z2g=>walk_at "D")
  (case Z3G=>walk_at "D")
  (case Z3n=>walk_at "D")
  (case Z3o=>walk_at "D")
  (case Z3p=>walk_at "D")
  (case Z3q=>walk_at "D")
  (case Z3H=>walk_at "D")
  (case a_law=>k_is)
  (case l_law=>k_is)
  (case c_law=>k_is)
  (case k_law=>k_is)
  (case z_abs=>k_is)
  (case z_all=>k_is)
  (case z_bool=>k_is)
  (case z_int=>k_is)
  (case z_isinstance=>k_is)
  (case z_len=>k_is)
  (case z_list=>k_is)
  (case z_max=>k_is)
  (case z_range=>k_is)
  (case z_set=>k_is)
  (case z_sorted=>k_is)
  (case z_str=>k_is)
  (case z_tuple=>k_is)
  (case z_zip=>k_is)
  (case Z3I=>k_is)
  (case Z3r=>k_is)
  (case Z3s=>k_is)
  (case Z3t=>rfl)
  (case Z3J=>k_is)
  (case Z3K=>k_is)
  (case Z3L=>k_is)
  (case Z3M=>k_is)
  (case Z3N=>rfl)
  (case Z3O=>k_is)
  (case Z41=>k_is)
