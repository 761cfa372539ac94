import PyProof.Rows.All
import Wide.All
import OpenK.AllK
import Wide.FinOn
import PyProof.EqAt
import PyProof.EqKinds
import PyProof.TupleCall
import KE.KDictSum
import KE.KRevIter
import KE.KRevSl
import KE.KDictLaws
import PyProof.StrLawsFirst
import KE.LcSums
import PyProof.EnumMake
import PyProof.TupleIter
import PyProof.StationsW
import PyProof.Rows.Own
import PyProof.NsDelKeeps
import PyProof.RulesAs
import PyProof.ExcAttrAll.ValueError
import KE.KIsAll
import PyProof.ExcBaseAll.ValueError
import PyProof.Rows.FStr
import PyProof.FString
import PyProof.Rows.StrNews
import PyProof.StrLawsTight
import PyProof.StrLawsChain
import PyProof.ExcInit
import PyProof.ExcClass3
import PyProof.InstStoreFacts
import PySem.SetTable
import PySem.SetOps
import PyProof.TupleKey
import PyProof.SetKind
import PyProof.IsRules
import KE.KSortTup
import PyProof.DictWalks
import PyProof.DictTruth
import PyProof.NeKinds
import PyProof.Rows.TupTab
import PyProof.Rows.SetFrom
import PyProof.SetRoads
import PyProof.AutoListH
import PyProof.DictItems
import KE.KEqDict
import PyProof.Rows.SortStr
import PyProof.Rows.StrLen
import PySem.Challenge.RW_wornband_k42_whole_settled_is_right
local macro_rules|`(⋯)=>`(by decide +kernel)
set_option hygiene false in
local macro_rules | `(tactic|walk_at "L")=>`(tactic|first | exact OG rfl | exact NF rfl)
set_option hygiene false in
local macro_rules | `(tactic|walk_at "F")=>`(tactic|exact⟨rfl,rfl,rfl,by decide +kernel,rfl,by decide +kernel,by decide +kernel⟩)
set_option hygiene false in
local macro_rules | `(tactic|walk_at "S0")=>`(tactic|simp only[df,bU,dO,bZ,tC,ff,ax,bc,cW,aF,cE,bt,cX,bL,d6,tB,gG,rU,gb,rI,d9,cM,bu,bK,gR,du,gX,dv,bT,dw,bX,gH,bR,aW,fS,dg,gV,gS,gT,dz,dB,cP,de,dA,aS,bq,L2.start,FQ,J5,JK,Jg,Hj,GG,K7,Hu,Kv,Kw,GN,Gq,JB,exists_eq_left',exists_eq_left,exists_and_left,exists_eq',exists_const,Im.injEq,PL.injEq,Jo.injEq,V.ref.injEq,V.ty.injEq,Lz,and_true,true_and,reduceCtorEq,false_and,and_false,exists_false,or_false,false_or,decide_eq_true_eq,KO,decide_eq_false_iff_not,if_true,if_false,Fv,ite_true,ite_false,Jb,M1,Mh,Mj,and_assoc])
set_option hygiene false in
local macro_rules | `(tactic|walk_at "S1")=>`(tactic|simp only[df,iR,k4,bU,dO,bZ,tC,ff,ax,bc,cW,aF,cE,bt,cX,bL,d6,tB,gG,rU,gb,rI,d9,cM,bu,bK,gR,du,gX,dv,bT,dw,bX,gH,bR,aW,fS,dg,gV,gS,gT,dz,dB,cP,de,dA,aS,bq,L2.start,FQ,J5,JK,Jg,Hj,GG,K7,Hu,Kv,Kw,GN,Gq,JB,exists_eq_left',exists_eq_left,exists_and_left,exists_eq',exists_const,Im.injEq,PL.injEq,Jo.injEq,V.ref.injEq,V.ty.injEq,Lz,and_true,true_and,reduceCtorEq,false_and,and_false,exists_false,or_false,false_or,decide_eq_true_eq,KO,decide_eq_false_iff_not,if_true,if_false,Fv,ite_true,ite_false,Jb,M1,Mh,Mj,and_assoc])
open Lean in
set_option compiler.extract_closed false in
set_option hygiene false in
local macro_rules|`($f $a*)=>match f.raw.isNatLit? with|none=>Macro.throwUnsupported|some n=>let g i:Term:=⟨a.raw.getD i default⟩;let x:=g 0;let y:=g 1;let z:=g 2;let u:=g 3;let v:=g 4;let w:=g 5;let s:=g 6;do let l<-`([$x=some $y,$x=true,a8 (pv $x) $y,ED $x a0,EV Er $x M W (sh $y) $z,(EE $x).imp $y,some<|.int $x,List<|$x×$y,$x->$y->Prop,⟨_,($x),$y⟩,ED $x a1,Res<|List $x,Ext W0 $x,(($x).bind $y).bind $z,Inv $x Z_ $y $z $u,a8 $x af,ai $x (pv $y) $z,au (Er:=Er) $x $y,az $x (pv $y) $z $u,ag<|aB $x,ao $x $y $z<|ar $u,wpAny (model $x $y) $z $u $v $w s,some<|.str<|aU $x,0 (s.heap.get? $x) $y,aw $x `z $y $z $u,aL (Er:=Er) $x $y,eval $x X.env,some<|.ref $x,hq $x $y (E0.trans $z) $u,itM t.mask $x $y,cnt $x `d $y $z $u,FnScope $x $y<|defScope $z,starEach $x X.env,F.ok $x (λvs H Q E h=>$y) λZ7 A outer s H vs Q E hr h=>$z,0 (h.get? $x) $y,aE (K:=K) $x,ma.bind λa=>$x,0 (h'.get? $x) $y,(($x).trans $y).trans $z,`P+$x,5 $x λa ka x W2 e2 hx=>$y,λW1 e1 Q k=>ha $x $y $z $u,tupleKeyHash knd $x,0 (X.env.cells.lookup $x) $y,SqT $x $y $z [.int k.1,.int k.2],5 $x λa ka v W2 e2 hv=>$y]);match l.raw[1].getSepArgs[n]? with|some r=>pure r|none=>Macro.throwUnsupported
open Lean in
set_option compiler.extract_closed false in
set_option hygiene false in
local macro_rules|`($x:quotedName)=>match x.raw[0].isNameLit? with|none=>Macro.throwUnsupported|some n=>do let l<-`([rfl,by omega,none,loose,bound,by simp,false,strip,xs.length,λ_ _=>`a,Rp Z,Int×Int,List Pl,qA K,X.prog,s.heap,.refl _,List Z,qC K,List Ii,List V,aI a0,Option Int,Res Bool,EK ?_,by rfl,7 Int Int,λ_=>`M,Res Int,e1.trans e2,.ref p,x.length,.inl `a,List Int,List Str,Res Tx,strip.length,e2.trans e3,by decide,.refl W0,vs.length,s.heap.objs.size,Option EM,⟨`M,`M⟩,Option Nat,mainGlobals,s1.heap.objs.size,"_law_card_here",by simpa using z,.ref `P,["_law_card_here","_law_turn"],["_law_card_here","_law_turns_here"],["tablet","strip","loose","bound"]]);match l.raw[1].getSepArgs[n.toString.toList.foldl (λa c=>a*52+(if c<'a' then c.toNat-38 else c.toNat-96)) 0-1]? with|some r=>pure r|none=>Macro.throwUnsupported

theorem Z1{c:Prop}{h:Decidable c}(n:¬c){Z:Sort u}{t e:Z}:ite c t e=e:=if_neg n
theorem Z0{c:Prop}{h:Decidable c}(n:c){Z:Sort u}{t e:Z}:ite c t e=t:=if_pos n
open And renaming intro->N0
open Array renaming getElem?_eq_getElem->Fz,getD_eq_getD_getElem?->FC,getElem?_toList->FG,length_toList->FL,getElem?_eq_some_iff->Hi,getD->HL,getElem?_eq_none->Iz,replicate->Lw,toArray_toList->LX,forIn_toList->Mz,toList_push->MP,toList_map->N2,toList->OF
open Bool renaming false_ne_true->F8,false_eq_true->Fv,eq_iff_iff->Ga,and_eq_true->Gp,true_and->Gw,and_eq_true_iff->Hw,not_true->Jb,false_and->Ki,not_eq_true'->KO,not_false->M1,and_assoc->M3,noConfusion->N9,or_eq_true->Nj
open Classical renaming byContradiction->GS,not_forall->JR,not_imp->KL,not_not->KR
open False renaming elim->Ir
open ForInStep renaming yield->HD
open Iff renaming rfl->M4
open Int renaming emod_lt_of_pos->Fb,emod_nonneg->Fm,toNat_natCast->Gv,le_refl->Iq,toNat_of_nonneg->Kc,le_trans->Lo,emod_eq_of_lt->MT,ediv_one->OK
open LawfulMonad renaming bind_assoc->NG
open List renaming getElem?_eq_getElem->EH,getElem?_eq_some_iff->ER,getElem?_map->ET,size_toArray->EW,length_map->EY,mem_cons->F0,mem_of_getElem?->F3,getD_eq_getElem?_getD->F4,getElem?_append_left->F7,getElem?_append_right->F9,mem_cons_self->Fc,mem_cons_of_mem->Fe,mem_map->Fo,not_mem_nil->Fp,mem_append_right->Fx,length_append->FJ,getElem?_eq_none_iff->FN,range->FP,map_cons->FQ,getElem?_zip_eq_some->FV,getElem?_eq_none->FW,mem_append->FX,all_eq_true->G1,getElem?_take_of_lt->G7,nodup_iff_pairwise_ne->Gb,Nodup->Gd,mem_iff_getElem->Gh,getElem?_cons_succ->Gq,drop_eq_getElem_cons->Gx,getElem?_drop->Gz,length_cons->GG,getElem?_cons_zero->GN,length_take->GP,getElem?_range->GW,ext_getElem?->GX,length_singleton->GZ,find?_cons->H0,mem_singleton->H9,length_drop->Ha,lookup_cons->Hb,length_eraseIdx->Hc,append_assoc->He,map_map->Hf,append_nil->Hj,length->Hk,length_set->Hl,replicate->Hu,length_eq_zero_iff->Hz,nodup_cons->HC,take_of_length_le->HF,drop_length->HJ,nodup_nil->HM,getElem?_reverse->HN,pairwise_iff_getElem->HR,getElem?_set->HV,filterMap_cons->Ib,of_mem_zip->IE,mem_iff_getElem?->IH,contains_iff_mem->IJ,pairwise_map->IQ,mem_range->IU,map_nil->J5,getElem_mem->J6,any_cons->J8,length_erase_of_mem->Ja,forIn_cons->Je,length_zip->Jf,nil_append->Jg,mem_filterMap->Jh,forIn_nil->Ju,drop_eq_nil_of_le->Jw,length_range->Jy,mem_of_mem_erase->JD,dropLast_eq_take->JF,zipIdx_cons->JG,cons_append->JK,mem_append_left->JM,eq_nil_of_length_eq_zero->JU,zipIdx_nil->K0,getElem?_eraseIdx_of_lt->K1,getElem?_eraseIdx_of_ge->K2,length_nil->K7,dropLast_concat_getLast->K8,map_congr_left->Ka,length_reverse->Kb,findSome?_cons->Kd,pairwise_cons->Kn,set_cons_zero->Kv,set_cons_succ->Kw,mem_or_eq_of_mem_set->KD,nodup_append->KQ,all_cons->KU,filterMap_cons_some->KZ,sum_cons->L4,pairwise_mergeSort->L7,any_eq_true->Lb,getElem?_set_self->Ld,pairwise_lt_range->Lm,mem_filter->Lq,foldl_cons->Lr,getElem?_zipWith->LC,take_append_drop->LD,length_filter_le->LM,getElem?_set_ne->LN,eraseIdx_set_eq->LY,mergeSort_perm->M7,lookup_append->Mw,zip_cons_cons->MB,reverse_cons->MN,perm_middle->N3,isEmpty_nil->N6,map_append->Nm,all_map->OM,map_id->P7,map->PQ
open List.Nodup renaming not_mem_erase->J9,length_le_of_subset->JL
open List.Pairwise renaming nil->IL,map->MS
open List.Perm renaming eq_of_pairwise->KW
open List.cons renaming injEq->Lz
open Nat renaming le_refl->EX,lt_of_lt_of_le->EZ,ne_of_lt->Fd,le_add_right->G9,lt_irrefl->Gu,le_trans->Gy,lt_succ_of_lt->HA,ne_of_gt->HU,lt_succ_self->Ig,le_of_lt->J3,sub_self->Jx,le_succ->JO,mod_lt->Km,add_sub_cancel->Kx,lt_trans->Lj,zero_add->Lk,div_div_eq_div_mul->Ll,add_comm->Ln,not_lt_zero->Lx,zero_le->LV,reduceAdd->Mh,reduceSub->Mj,lt_or_gt_of_ne->MA,div_eq_of_lt->N1,min_eq_left->Ni,strongRecOn->Nk,pow_succ->OI,lt_or_ge->OL
open Ne renaming symm->Hx
open Option renaming map_eq_some_iff->Fy,getD_some->GQ,isSome_iff_exists->HX,map_some->IF,ne_none_iff_exists'->IY,getD_none->L6,isSome->Mc,isSome_some->Mt
open Option.some renaming inj->Ft,injEq->JB
open Or renaming inr->NF,inl->OG
open Prod renaming ext->L8
open Prod.mk renaming injEq->OA
open PyProof.Rows renaming boot_isinstance->Fw,callWith_type1->G5,boot_list->GR,boot_abs->HP,boot_int->HQ,boot_max->IK,boot_sorted->Jc,boot_tuple->Jn,boot_bool->JC,boot_all->JE,AllBare->KH,subscriptTail_builtinR->Lf,boot_str->LL,listUpdate_at->Me,Subscript_->Mo,IntsAre->MI,callWith_builtin1->MY,seqEpoch_at->Nf,entry_list_sort->Nq,boot_range->Ny,size_push'->NI,slot_list_sort->NJ,args_list_sort->NK,sortedHeap_old->NL,sortedHeap_at->Oy,Call_->OB,len_upper->ON,boot_sum->OQ,boot_set->OR,tail_any->OY,TupTab->Pb
open PyProof.Rows.F renaming plain_set_update_loop->Il,entry_set_update_loop->La
open PySem renaming wpAny_bind->EF,wpAny_pure->EK,Value->EM,Shared->EN,Program->F6,boot_len->Ff,World->Fh,FuncData->Fi,wpAny_call_entry->Fu,sizeLine_eq->FE,Around->FR,wpAny_callSpecial?_slot->FU,wpAny_holding->FY,wpAny_seqItems->G0,wpAny_setField_rec->G2,wpAny_field->G4,SetTable->G6,wpAny_newObj_type->Gg,wpAny_mono->Gi,Spec->Gm,IsTupleKey->GI,wpAny_setState_of->GK,mem_of_lookup->GU,wpAny_isInstance->Ho,wpAny_onRaise->Hr,wpAny_typeNameOfWhole_keyiter->Hv,wpAny_truthy_bool->Hy,Builtin->HG,wpAny_standAt->HH,DictEntry->HI,wpAny_askSetting->HK,wpAny_passesOwn->HS,wpAny_comprehension_free->HY,wpAny_attempt->HZ,wpAny_typeNameOf_keyiter->I0,NameKind->Ie,wpAny_setField->Ih,isSubtype_stop->Ik,IsZip->Io,wpAny_letGo->Ip,Scope->ID,wpAny_isSame_ref_self->II,wpAny_pyIter_slot->IS,codeAny_mono->J4,wpAny_specialOf->Jd,wpAny_rule->Jj,IsPair->Jk,wpAny_pyIter_rangeiter->Jr,wpAny_pyIter_list->Js,wpAny_dictEntries->Jz,wpAny_pyIter_zip->JH,wpAny_updateSeq_pair->JQ,wpAny_execs_nil->JY,pushCells_keeps->JZ,wpAny_ite_split->K3,codeAny_builtin->K5,wpAny_setEntries_of->Ke,wpAny_Call_Name_kw->Kj,wpAny_fieldsOf->Kp,wpAny_pyHash_tuple->Kr,tupleKind_room_in1->Ku,wpAny_letOwnedTupleGo_zip->KA,slot_list_getitem->KI,wpAny_of_eq->KJ,wpAny_getItem_list_slice->KS,Comprehension->KY,wpAny_eqBool_int->L5,wpAny_forIn_list->L9,wpAny_pyNext_range_end->Le,Keyword->Lh,wpAny_Call_method_late->Li,Draws->Ls,signature?_of->Lu,codeAny_of_tree->Lv,wpAny_dictEpoch->Ly,builtinLookup_eq_fast->LF,wpAny_isOneOf_keyiter->LH,wpAny_loadName_local->LO,IsRangeIter->LP,sliceRange_one->LS,wpAny_newTuple->LW,isSubtype_type->LZ,codeAny_call_builtin->M0,wpAny_loadName_cell->M6,evalPart_none->M8,wpAny_handled->Mb,wpAny_newList->Mf,plainId_quiet->Mg,PlainAttrs->Ms,wpAny_pyIter_ascii->Mv,wpAny_assign_Name->MD,BindsTo->MH,seqIndex_neg->MJ,wpAny_pyIter_wide->ML,wpAny_pyIter_enum->MM,wpAny_storeSet_of->MQ,wpAny_execs_cons->MV,Result->MX,seqIndex_of->Nc,wpAny_throw->Nd,typeLookup_type->Nn,GenState->Nv,wpAny_Name->Nw,typeIs_str->NA,call_meets->NB,fitsIndex_both->NC,call->ND,entryFor_alias->NH,intBits_le_64->O9,call_list_seq->Oq,Within->OE,CellsOk->OH,Operator->OW,cLine->P6,putAt->P8,Params->Pp,Model->Py,Fin->PJ
open PySem.Around renaming under_plainId->JV
open PySem.Builtin.Dict renaming showsAll->LG,dictSlotNone->O0,pendingCount->O1
open PySem.Builtin.Dict_items renaming ownsTuple->K4
open PySem.Builtin.Frozenset renaming oneOther->Kq,addrOf->L1,withSetAsKey->N8,updateFrom->Nt,newClass->NO,sizeOf->Ox,slot0->OC
open PySem.Builtin.List renaming listLengthHint->Kg
open PySem.Builtin.Range renaming rangeFitsLong->Gj,rangeSize->Gn,rangeFields->KC
open PySem.Builtin.SmallTypes renaming nextOf->Fq,ownedTupleIsFree->FH,ownedTupleHandOut->GV,refuseKeywords->MC
open PySem.Builtin.Str renaming strSliceIndices->Hd,occurrences->Jm,tooLong->Pn
open PySem.Calls renaming call_function_entry->J7,Name_function_global->Kh,callWith_builtin->Lg,spliced_cons->Mn,spliced_nil->MG
open PySem.Challenge renaming rw_wornband_k42_whole_settled_is_right->GC,pw_wornband_k42_whole_settled_is_right->K6
open PySem.Data renaming cell->IG,fields->JN,seq->LU
open PySem.EqMixed renaming eq_bool_str->NT,eq_str_bool->NU,ne_bool_str->NY,ne_str_bool->NZ,eq_int_str->Oe,eq_str_int->Og,ne_int_str->Ol,ne_str_int->Oo
open PySem.EqNone renaming eq_none_none->NQ,eq_none_bool->NR,eq_bool_none->NS,ne_none_none->NV,ne_none_bool->NW,ne_bool_none->NX,eq_none_int->Oa,eq_none_str->Ob,eq_int_none->Od,eq_str_none->Of,ne_none_int->Oh,ne_none_str->Oi,ne_int_none->Oj,ne_str_none->Om
open PySem.F renaming slot_dict_keyiterator_next->Gf,slot_zip_next->GH,slot_tuple_iterator_next->Hg,plainAttrs_list->HB,slot_dict_keyiterator_iter->HE,args_zip_next_1->Ij,entry_zip_next->Iy,called_set->IA,args_tuple_iterator_next_1->Ji,entry_tuple_iterator_next->Jq,plainAttrs_str->Jv,slot_list_insert->JA,args_dict_keyiterator_next_1->JI,args_dict_keyiterator_iter_1->JJ,entry_dict_keyiterator_next->JS,entry_dict_keyiterator_iter->JT,slot_list_pop->K9,slot_set_contains->Kf,slot_dict_getitem->Kz,type_list_insert->L3,slot_list_append->LA,entry_zip_new->LB,slot_dict_len->LI,slot_range_reversed->LJ,type_list_pop->LK,called_zip->My,slot_dict_iter->N7,slot_set_iter->Np,plain_set_new->Nr
open PySem.Heap renaming get?_push_of_some->EI,get?_push_size->ES,lt_size->EU,SameBut->Fg,size_push->FO,get?_update_self->GY,get?_update_other->Iw,ExtBut->IX,get?_push_ne->KN,size_update->N5
open PySem.Heap.IsSliceOf renaming new->Mp
open PySem.Heap.Ns renaming new->P5
open PySem.Heap.SameBut renaming update->Gk
open PySem.IsRange renaming new->OX
open PySem.Moved renaming trans->P9
open PySem.NameKind renaming free->GF,cell->Ma
open PySem.Obj renaming mapSeq->Hn,putSet->Ko,mapFields->L0,data_mapFields->Mx
open PySem.PassesOwn renaming never->Fj
open PySem.PyData renaming keyHash->JW
open PySem.SeqAt renaming EqAt->Mq,notIn_listAt->Mr
open PySem.SeqAt.EqAt renaming int_int->Kk,int_str->Mk,str_int->Ml,same->Nh,none_bool->OZ,bool_none->P0,bool_bool->P4,none_int->Pc,none_str->Pd,bool_int->Pe,bool_str->Pf,int_none->Pg,int_bool->Ph,str_none->Pj,str_bool->Pk,str_str->Po,of_refs->Pw
open PySem.SeqAt.RcAt renaming lists_lengths->Oz,tuples->PC,lists->PK
open PySem.SeqAt.RcNeAt renaming lists_lengths->NM,lists->Pu
open PySem.SetTable renaming leap->FA,bits->FI,runEnd->FT,below->GA,turns->GB,insertAt->GJ,grown->IZ,sizeAbove->Jl,fresh->Kt,fill->Md,has->MO,slot->Ot,laid->Ou,fits->Ov
open PySem.SetTable.below renaming go->IM
open PySem.SetTable.layClean renaming free->Hh
open PySem.SetTable.probe renaming go->IP
open PySem.Str renaming ofString->EO,length->MK
open PySem.Txt renaming find->Kl,slice->MZ,upper->Ng,mul->Pz
open PySem.Value renaming none->FZ,ref->G8,type->HW,int->J2,bool->Mm,str->MU,scannable->Nl,isStrOf->O8,isInt->OS,float->OV
open PySem.W renaming Frag->EL,mg_none_of->FD,nsIn->FF,kia_one->GO,fnOf->Hq,mg_of->Hs,kitOne->Ht,keepIn->Ic,codeIn->IW,cellsFrom_some->Jt,OpenLaw->JP,methodObj->KG,instObj->Lp,lookIn->LQ,kitx_list->ME,kitx_dict->MF,plainGet->MW,WalkO->Nu,findIn->Nz,kas_rev->OJ
open PySem.W.WData renaming int->PH
open PySem.W.WShape renaming has->Pq
open PySem.pickOrder renaming go->MR
open Sum renaming inl->I9,inr->Ia
open Sum.inl renaming inj->OT
open Sum.inr renaming inj->OU
open True renaming intro->Iu
set_option Elab.async false
set_option linter.all false
set_option maxRecDepth 100000
namespace L2
open PySem PySem.Spec PyProof.Rows
abbrev Key:=Sum Int Str
def hW:Key->EM->Bool
 | .inl k,v=>OS k v
 | .inr x,v=>O8 x v
def ux(w:Fh):Key->Int
 | .inl k=>hashInt k
 | .inr x=>hashStr w x
theorem cw:∀{k:Key}{v:EM},1 (hW k v)->(∃i t,k=I9 i/\v=J2 i t)\/(∃x t,k=Ia x/\v=MU x t)
 | .inl i,v,h=>by
  obtain⟨t,e⟩:=Value.isInt_shape (k:=i) (v:=v) h;exact .inl ⟨i,t,`a,e⟩
 | .inr x,v,h=>by
  obtain⟨t,e⟩:=Value.isStrOf_shape (x:=x) (v:=v) h;exact .inr ⟨x,t,`a,e⟩
theorem iw(i:Int)(t:Tok):1 (hW (.inl i)<|.int i t):=by simp[hW,OS]
theorem iy(x:Str)(t:Tok):1 (hW (.inr x)<|.str x t):=by simp[hW,O8]
theorem zW(a b:Int):decide ((I9 a:Key)=I9 b)=(a==b):=by
 by_cases e:a=b;·subst e;simp
 ·have h:¬(I9 a:Key)=I9 b:=λq=>e (OT q);rw[decide_eq_false h];exact(beq_eq_false_iff_ne.mpr e).symm
theorem zX(a b:Str):decide ((Ia a:Key)=Ia b)=decide (a=b):=by
 by_cases e:a=b;·subst e;simp
 ·have h:¬(Ia a:Key)=Ia b:=λq=>e (OU q);rw[decide_eq_false h,decide_eq_false e]
theorem zY(a:Int)(b:Str):decide ((I9 a:Key)=Ia b)=false:=decide_eq_false (λq=>nomatch q)
theorem zZ(a:Str)(b:Int):decide ((Ia a:Key)=I9 b)=false:=decide_eq_false (λq=>nomatch q)
def mixKind(prog:F6)(w:Fh):PySem.KeyKind prog w Key where
 is:=hW
 hash:=ux w
 inj:=λv a b ha hb=>by
  rcases cw ha with⟨i,t,rfl,rfl⟩|⟨x,t,rfl,rfl⟩
  ·rcases cw hb with⟨j,u,rfl,e⟩ | ⟨y,u,rfl,e⟩
   ·injection e with e1 _;rw[e1]
   ·exact nomatch e
  ·rcases cw hb with⟨j,u,rfl,e⟩ | ⟨y,u,rfl,e⟩
   ·exact nomatch e
   ·injection e with e1 _;rw[e1]
 byValue:=λk v h=>by
  rcases cw h with⟨i,t,rfl,rfl⟩|⟨x,t,rfl,rfl⟩<;>rfl
 pyHash:=λhv h=>by
  rcases cw hv with⟨i,t,rfl,rfl⟩|⟨x,t,rfl,rfl⟩
  ·exact wpAny_pyHash_int h
  ·exact wpAny_pyHash_str h
 eqBool:=λhu hv h=>by
  rcases cw hu with⟨i,t,rfl,rfl⟩|⟨x,t,rfl,rfl⟩
  ·rcases cw hv with⟨j,u,rfl,rfl⟩ | ⟨y,u,rfl,rfl⟩
   ·rw[zW]at h;exact L5 h
   ·rw[zY]at h;exact Mk i t y u _ _ _ _ h
  ·rcases cw hv with⟨j,u,rfl,rfl⟩ | ⟨y,u,rfl,rfl⟩
   ·rw[zZ]at h;exact Ml x t j u _ _ _ _ h
   ·rw[zX]at h;exact wpAny_eqBool_str h
 «strs»:=λk x t v h=>by
  rcases cw h with⟨i,u,rfl,e⟩|⟨y,u,rfl,e⟩
  ·exact nomatch e
  ·injection e with e1 _;subst e1;cases v<;>rfl
theorem oC(prog:F6)(w:Fh)(i:Int)(t:Tok):1 ((mixKind prog w).is (.inl i)<|.int i t):=iw i t
theorem oD(prog:F6)(w:Fh)(x:Str)(t:Tok):1 ((mixKind prog w).is (.inr x)<|.str x t):=iy x t
inductive V where
 |non|bl (b:Bool)|int (i:Int)|str (x:Str)|byt (b:Array UInt8)|flt (b:UInt64)|ref (a:Addr)|ty (n:String)
 deriving DecidableEq
def RelV:8 V EM
 | .non,u=>u=FZ
 | .bl b,u=>u=Mm b
 | .int i,u=>∃t,u=J2 i t
 | .str x,u=>∃t,u=MU x t
 | .byt b,u=>∃t,u=Value.bytes b t
 | .flt b,u=>∃t,u=OV b t
 | .ref a,u=>u=G8 a
 | .ty n,u=>u=HW n
abbrev Vals:8 `u (List EM):=Paired RelV
theorem Vals.length{xs:`u}{us:List EM}(r:Vals xs us):`i=us.length:=Paired.length r
theorem Vals.get:∀{xs:List V}{us:List EM}{i:Nat}{x:V},Vals xs us->0 xs[i]? x->∃u,0 us[i]? u/\RelV x u
 |_,_,_,_,.nil,e=>by simp at e
 |_,_,0,_,.cons r _,e=>by simp at e;subst e;exact 9 `a r
 |_,_,i+1,x, .cons _ t,e=>by
  obtain⟨u,h1,h2⟩:=Vals.get (i:=i) (x:=x) t (by simpa using e);exact⟨u,by simpa using h1,h2⟩
theorem Vals.set{x:V}{u:EM}(r:RelV x u):∀{xs:List V}{us:List EM}(i:Nat),Vals xs us->Vals (xs.set i x) (us.set i u)
 |_,_,_,.nil=>.nil
 |_,_,0,.cons _ t=>.cons r t
 |_,_,i+1,.cons q t=>.cons q (Vals.set r i t)
theorem Vals.append:∀{xs ys:List V}{us ws:List EM},Vals xs us->Vals ys ws->Vals (xs++ys) (us++ws)
 |_,_,_,_,.nil,s=>s
 |_,_,_,_,.cons r t,s=>.cons r (Vals.append t s)
theorem Vals.take:∀{xs:List V}{us:List EM}(n:Nat),Vals xs us->Vals (xs.take n) (us.take n)
 |_,_,0,_=>.nil
 |_,_,_+1,.nil=>.nil
 |_,_,n+1,.cons r t=>.cons r (Vals.take n t)
theorem Vals.drop:∀{xs:List V}{us:List EM}(n:Nat),Vals xs us->Vals (xs.drop n) (us.drop n)
 |_,_,0,r=>r
 |_,_,_+1,.nil=>.nil
 |_,_,n+1,.cons _ t=>Vals.drop n t
def RelO:8 (Option V) `Q
 |some v,some u=>RelV v u
 |none,none=>True
 |_,_=>False
def KV{κ:Type}:8 (7 κ V) (7 κ EM):=Paired λ(p:κ×V)(q:κ×EM)=>p.1=q.1/\RelV p.2 q.2
def kV:Key->V
 | .inl i=>.int i
 | .inr x=>.str x
inductive HO where
 |lst (xs:`u)
 |tup (xs:`u)
 |dK (kvs:7 Key V)|dT (kvs:7 (List Key) V)
 |set (S:Int->Bool) (n:Nat)
 |ins (C dx:Addr) (fs:7 Str V)
 |own (x:Addr)
 |xd (fs:7 Str V)
 |met (f x:Addr)
 |rng (lo hi:Int)
 |frz (o:Obj) (u:HO)
 |tbl (ps:Array EM)
 |ext (φ:Heap->Prop)
abbrev Hp:=Addr->Option HO
def cT(H:Hp)(a:Addr)(o:HO):Hp:=λb=>if b=a then some o else H b
theorem aG{H:Hp}{a:Addr}{o:HO}:0 (cT H a o a) o:=by unfold cT;rw[Z0 `a]
theorem aJ{H:Hp}{a b:Addr}{o:HO}(h:b≠a):cT H a o b=H b:=by unfold cT;rw[Z1 h]
theorem cV{H:Hp}{a b:Addr}{o:HO}(h:0 (H a) o)(h':H b=`c):a≠b:=by
 intro e;subst e;rw[h]at h';cases h'
def IsTupD(h:Heap)(a:Addr)(items:Array EM):Prop:=∃o,34 a o/\(o.cls=.type "tuple"/\o.dict=`c)/\∃n,o.data=.seq items n
theorem IsTupD.tup{h:Heap}{a:Addr}{items:Array EM}(t:IsTupD h a items):IsTup h a items:=let ⟨o,e,c,n,d⟩:=t;⟨o,e,c.1,n,d⟩
theorem IsTupD.new(h:Heap)(items:Array EM):IsTupD (h.push {cls:=.type "tuple",data:=.seq items}) h.objs.size items:=⟨_,ES h `a,⟨`a,`a⟩,0,`a⟩
section
variable(P:F6)(w:Fh)
def ObjOk(H:Hp)(h:Heap)(a:Addr):HO->Prop
 | .lst xs=>xs.length<=sizeLine/\∃(its:List EM)(n:Nat),Vals xs its/\h.get? a=some {cls:=.type "list",data:=.seq its.toArray n}
 | .tup xs=>`i<=sizeLine/\∃its:List EM,Vals xs its/\IsTupD h a its.toArray
 | .dK kvs=>kvs.length<=sizeLine/\(a==sysModules)=`g/\∃vs,KV kvs vs/\h.DictOf (mixKind P w) a vs
 | .dT kvs=>kvs.length<=sizeLine/\(a==sysModules)=`g/\∃xs:List (List Key×Addr×EM),Paired (λ(p:List Key×V)(q:List Key×Addr×EM)=>p.1=q.1/\0 (H q.2.1) (.tup<|p.1.map kV)/\RelV p.2 q.2.2) kvs xs/\∃o es ep,34 a o/\o.ExactDict/\o.data=.dict es ep/\es.toList=xs.map (entryOfKey<|tupleKind<|mixKind P w)/\(xs.map (·.1)).Nodup
 | .set S n=>h.SetOf (intKind P w) a S n
 | .ins C dx fs=>0 (H dx) (.own a)/\fs.length<=1000/\dx≠a/\34 a (Lp C dx)/\∃mA,h.Ns1 dx mA/\(∀f,RelO (fs.lookup f)<|mA f)/\OE mA (fs.map (·.1))
 | .own _=>∃o,34 a o
 | .xd fs=>∃mA,h.Ns1 a mA/\∀f,RelO (fs.lookup f) (mA f)
 | .rng lo hi=>∃t u v,h.get? a=some {cls:=.type "range",data:=.fields #[.int lo t,.int hi u,.int 1 v]}
 | .frz o u=>34 a o/\ObjOk H h a u
 | .tbl ps=>h.get? a=some {cls:=.none,data:=.fields ps}
 | .met f x=>34 a (KG (.ref f)<|.ref x)
 | .ext φ=>φ h/\(∃o,34 a o)/\∀h1 h2:Heap,φ h1->(∀o,0 (h1.get? a) o->0 (h2.get? a) o)->φ h2
def HOk(H:Hp)(h:Heap):Prop:=∀a o,0 (H a) o->ObjOk P w H h a o
end
section
variable{P:F6}{w:Fh}{H H':Hp}{h h':Heap}{a:Addr}{o:HO}
theorem ObjOk.lt(x:ObjOk P w H h a o):a<h.objs.size:=by
 cases o with
 |lst xs=>obtain⟨_,_,_,_,e⟩:=x;exact EU e
 |tup xs=>obtain⟨_,_,_,p⟩:=x;exact p.tup.lt
 |dK kvs=>obtain⟨_,_,_,_,o,_,_,e,_⟩:=x;exact EU e
 |dT kvs=>obtain⟨_,_,_,_,o,_,_,e,_⟩:=x;exact EU e
 |set S n=>obtain⟨o,_,_,_,e,_⟩:=x;exact EU e
 |ins C dx fs=>obtain⟨_,_,_,e,_⟩:=x;exact EU e
 |own y=>obtain⟨_,e⟩:=x;exact EU e
 |xd fs=>obtain⟨_,⟨_,_,_,e,_⟩,_⟩:=x;exact EU e
 |rng lo hi=>obtain⟨_,_,_,e⟩:=x;exact EU e
 |frz ob u=>obtain⟨e,_⟩:=x;exact EU e
 |tbl ps=>exact EU (show 34 a _ from x)
 |met f y=>exact EU (show 34 a _ from x)
 |ext φ=>obtain⟨_,⟨_,e⟩,_⟩:=x;exact EU e
theorem Paired.mapP{Z β:Type}{F G:8 Z β}:∀{l₁:List Z}{l₂:List β},Paired F l₁ l₂->(∀a b,F a b->G a b)->Paired G l₁ l₂
 |_,_,.nil,_=>.nil
 |_,_,.cons r t,f=>.cons (f _ _ r) (Paired.mapP t f)
theorem ObjOk.stay(x:ObjOk P w H h a o)(k:∀b u,b=a\/0 (H b) (.own a)->34 b u->37 b u)
  (ho:∀b,0 (H b) (.own a)->0 (H' b) (.own a)) (ht:∀b xs,0 (H b) (.tup xs)->0 (H' b) (.tup xs)):ObjOk P w H' h' a o:=by
 induction o with
 |lst xs=>obtain⟨z,its,n,r,e⟩:=x;exact⟨z,its,n,r,k _ _ `G e⟩
 |tup xs=>obtain⟨z,its,r,ob,e,c⟩:=x;exact⟨z,its,r,ob,k _ _ `G e,c⟩
 |dK kvs=>obtain⟨z,y,vs,r,ob,es,ep,e,c⟩:=x;exact⟨z,y,vs,r,ob,es,ep,k _ _ `G e,c⟩
 |dT kvs=>
  obtain⟨z,y,xs,r,ob,es,ep,e,c⟩:=x;exact⟨z,y,xs,Paired.mapP r λp q z=>⟨z.1,ht _ _ z.2.1,z.2.2⟩,ob,es,ep,k _ _ `G e,c⟩
 |set S n=>obtain⟨ob,es,ep,t,e,c⟩:=x;exact⟨ob,es,ep,t,k _ _ `G e,c⟩
 |ins C dx fs=>
  obtain⟨d,z,ne,e,mA,⟨od,es,ep,e2,c⟩,r⟩:=x;exact⟨ho _ d,z,ne,k _ _ `G e,mA,⟨od,es,ep,k _ _ (.inr d) e2,c⟩,r⟩
 |own y=>obtain⟨ob,e⟩:=x;exact⟨ob,k _ _ `G e⟩
 |xd fs=>obtain⟨mA,⟨od,es,ep,e,c⟩,r⟩:=x;exact⟨mA,⟨od,es,ep,k _ _ `G e,c⟩,r⟩
 |rng lo hi=>obtain⟨t,u,v,e⟩:=x;exact⟨t,u,v,k _ _ `G e⟩
 |frz ob u ih=>obtain⟨e,q⟩:=x;exact⟨k _ _ `G e,ih q⟩
 |tbl ps=>
  have e:h.get? a=some {cls:=.none,data:=.fields ps}:=x;show h'.get? a=some {cls:=.none,data:=.fields ps};exact k a _ `G e
 |met f y=>
  have e:34 a (KG (.ref f)<|.ref y):=x;show 37 a (KG (.ref f)<|.ref y);exact k a _ `G e
 |ext φ=>obtain⟨p,⟨o,e⟩,st⟩:=x;exact⟨st _ _ p λo q=>k _ _ `G q,⟨o,k _ _ `G e⟩,st⟩
theorem HOk.lt(x:HOk P w H h)(e:0 (H a) o):a<h.objs.size:=(x a o e).lt
theorem HOk.fresh(x:HOk P w H h)(e:h.objs.size<=a):H a=`c:=by
 cases q:H a with
 |none=>rfl
 |some u=>exact absurd (EZ (x.lt q) e) (Gu _)
theorem HOk.kept(x:HOk P w H h)(k:∀b u,34 b u->37 b u):HOk P w H h':=λa o e=>(x a o e).stay (λb u _ q=>k b u q) (λ_ q=>q) λ_ _ q=>q
theorem HOk.laid(x:HOk P w H h)(k:∀b u,34 b u->37 b u)(hp:h.objs.size<=a)(new:ObjOk P w (cT H a o) h' a o):HOk P w (cT H a o) h':=λb u e=>by
 have hn:=x.fresh hp;by_cases hb:b=a;·subst hb;rw[aG]at e;cases e;exact new
 ·rw[aJ hb]at e;exact(x b u e).stay (λc v _ q=>k c v q) (λc q=>by rw[aJ (cV q hn)];exact q) λc xs q=>by rw[aJ (cV q hn)];exact q
end
def Rd(H:Hp)(a:Addr)(u:HO):Prop:=0 (H a) u\/∃o,0 (H a) (.frz o u)
theorem Rd.ok{P:F6}{w:Fh}{H:Hp}{h:Heap}{a:Addr}{u:HO}(r:Rd H a u)(x:HOk P w H h):ObjOk P w H h a u:=by
 rcases r with r|⟨o,r⟩
 ·exact x a u r
 ·obtain⟨_,q⟩:=x a _ r;exact q
def Bq:Option HO->Prop
 |some (.lst _)=>True
 |some (.dK _)=>True
 |some (.dT _)=>True
 |some (.set _ _)=>True
 |some (.ins _ _ _)=>True
 |some (.ext _)=>True
 |_=>False
section
variable{P:F6}{w:Fh}{H:Hp}{h h':Heap}{x e:Addr}{o':HO}
theorem HOk.write(ok:HOk P w H h)(mu:Bq (H x))(he:e=x\/0 (H e) (.own x))(k:∀b u,b≠e->34 b u->37 b u)(heo:∃u,37 e u)
  (new:ObjOk P w (cT H x o') h' x o'):HOk P w (cT H x o') h':=λb u q=>by
 have nown:∀c y,0 (H c) (.own y)->c≠x:=λc y r z=>by subst z;rw[r]at mu;exact mu
 have ntup:∀c xs,0 (H c) (.tup xs)->c≠x:=λc xs r z=>by subst z;rw[r]at mu;exact mu
 by_cases hb:b=x;·subst hb;rw[aG]at q;cases q;exact new
 ·rw[aJ hb]at q;by_cases hbe:b=e
  ·have q':0 (H b) (.own x):=by
    rcases he with z|z;·exact absurd (hbe.trans z) hb
    ·rw[hbe];exact z
   rw[q]at q';cases q';obtain⟨v,hv⟩:=heo;exact⟨v,by rw[hbe];exact hv⟩
  ·refine(ok b u q).stay (λc v hc r=>k c v ?_ r) (λc r=>by rw[aJ (nown c b r)];exact r) λc xs r=>by rw[aJ (ntup c xs r)];exact r
   rcases hc with rfl|hc;·exact hbe
   ·rintro rfl;rcases he with z|z;·exact nown c b hc z
    ·rw[hc]at z;cases z;exact hb `a
end
structure Un(fs ex:List Addr)(H H':Hp)(h h':Heap):Prop where
 keep:∀b o,34 b o->H b=`c->b∉fs->b∉ex->37 b o
 slot:∀b o,h.get? b=some o->H b=none->b∈fs->b∉ex->∃sl,h'.get? b=some {o with slots:=sl}
 free:∀b o,34 b o->H b=`c->b∉ex->H' b=`c
 there:∀b o,34 b o->b∉ex->∃o',37 b o'
 tups:∀b xs,0 (H b) (.tup xs)->0 (H' b) (.tup xs)
 frzs:∀b o u,0 (H b) (.frz o u)->0 (H' b) (.frz o u)
 tbls:∀b ps,0 (H b) (.tbl ps)->∃more,0 (H' b) (.tbl<|ps++more)
section
variable{fs fs' ex ex':List Addr}{H H1 H2:Hp}{h h1 h2 h':Heap}{a x e:Addr}{o:HO}
theorem Un.any(u:Un fs ex H H1 h h1){b:Addr}{ob:Obj}(q:34 b ob)(n:H b=`c)(hx:b∉ex):∃sl,h1.get? b=some {ob with slots:=sl}:=by
 by_cases hb:b∈fs;·exact u.slot b ob q n hb hx
 ·exact⟨ob.slots,u.keep b ob q n hb hx⟩
theorem Un.kept(k:∀b u,34 b u->37 b u):Un fs ex H H h h':=
 ⟨λb ob q _ _ _=>k b ob q,λb ob q _ _ _=>⟨ob.slots,k b ob q⟩,λ_ _ _ n _=>n,λb ob q _=>⟨ob,k b ob q⟩,λ_ _ q=>q,λ_ _ _ q=>q,λ_ ps q=>⟨#[],by rw[q];simp⟩⟩
theorem Un.refl:Un fs ex H H h h:=Un.kept λ_ _ q=>q
theorem Un.laid(k:∀b u,34 b u->37 b u)(hp:h.objs.size<=a)(hn:H a=`c):Un fs ex H (cT H a o) h h' where
 keep:=λb u q _ _ _=>k b u q
 slot:=λb u q _ _ _=>⟨u.slots,k b u q⟩
 free:=λb u q n _=>by rw[aJ (Fd<|EZ (EU q) hp)];exact n
 there:=λb u q _=>⟨u,k b u q⟩
 tups:=λb xs q=>by rw[aJ (cV q hn)];exact q
 frzs:=λb u xs q=>by rw[aJ (cV q hn)];exact q
 tbls:=λb ps q=>⟨#[],by rw[aJ (cV q hn),q];simp⟩
theorem Un.write(mu:Bq (H x))(he:e=x\/0 (H e) (.own x))(k:∀b u,b≠e->34 b u->37 b u)(heo:∃u,37 e u):Un fs ex H (cT H x o) h h':=by
 have hx:∀b,H b=`c->b≠x:=λb n z=>by subst z;rw[n]at mu;exact mu
 have hb:∀b,H b=`c->b≠e:=λb n z=>by
  subst z;rcases he with r|r
  ·exact hx b n r
  ·rw[n]at r;cases r
 have hm:∀b u,H b=some u->¬Bq (some u)->b≠x:=λb u q nm z=>by subst z;rw[q]at mu;exact nm mu
 refine⟨λb u q n _ _=>k b u (hb b n) q,λb u q n _ _=>⟨u.slots,k b u (hb b n) q⟩,λb u q n _=>by rw[aJ (hx b n)];exact n,λb u q _=>?_,
  λb xs q=>by rw[aJ (hm b _ q λz=>z)];exact q,λb u xs q=>by rw[aJ (hm b _ q λz=>z)];exact q,λb ps q=>⟨#[],by rw[aJ (hm b _ q λz=>z),q];simp⟩⟩
 by_cases hbe:b=e;·subst hbe;exact heo
 ·exact⟨u,k b u hbe q⟩
end
def iz(h:Heap)(H:Hp):List Addr:=(FP h.objs.size).filter λa=>(H a).isSome
def ng(h:Heap)(H:Hp):Heap:=PySem.W.hideAll h (iz h H)
theorem sI(h:Heap)(H:Hp):(ng h H).objs.size=h.objs.size:=PySem.W.hideAll_size _ _
theorem uy{h:Heap}{H:Hp}{b:Addr}{o:Obj}(e:34 b o)(n:H b=`c):0 ((ng h H).get? b) o:=
 PySem.W.hideAll_get _ e λhm=>by
  have q:1 (H b).isSome:=(Lq.mp hm).2;rw[n]at q;simp at q
theorem xG{h:Heap}{H:Hp}{b:Addr}{o:Obj}(e:0 ((ng h H).get? b) o):34 b o/\H b=`c:=by
 have e':34 b o:=PySem.W.of_hideAll (iz h H) e;refine⟨e',?_⟩;cases q:H b with
 |none=>rfl
 |some x=>
  have hm:b∈iz h H:=Lq.mpr ⟨IU.mpr<|EU e',by simp[q]⟩;have z:(ng h H).get? b=`c:=PySem.W.hideAll_none (iz h H) hm;rw[z]at e;cases e
structure Mod(K:EL)(mg:Str->`Q)(base:Heap):Prop where
 kin:K.In base
 glob:base.Ns `T mg
 blt:∃mb,base.Ns builtinsNs mb/\∀x:Str,x≠"__name__"->mb x=bootBuiltins x
 nolimit:base.NoLimit
structure Cx where
 prog:F6
 w:Fh
 K:EL
 mg:Str->`Q
 base:Heap
 A:FR
 N:`I
 s₀:EN
 H₀:Hp
 env:Env
 outer:List Env
 stack:List Env
 ex:List Addr
 fn:Str->Bool
 calm:Bool
 pn:7 Addr Obj
 xe:8 EM EN
def frs(l:List Env):List Addr:=l.filterMap (·.frame)
abbrev Cx.fs(X:Cx):List Addr:=frs X.outer
def Vis(sc:ID)(x:Str):Prop:=0 (sc.names.lookup x) .local\/0 (sc.names.lookup x) .cell\/0 (sc.names.lookup x) .free
def zx(sc:ID)(x:Str):Prop:=0 (sc.names.lookup x) .local\/0 (sc.names.lookup x) .cell
def Look(env:Env)(h:Heap)(m:Str->`Q)(x:Str)(u:EM):Prop:=
 0 (env.kindOf x) .local/\0 (m x) u\/(0 (env.kindOf x) .cell\/0 (env.kindOf x) .free)/\∃c,0 (env.cells.lookup x) c/\h.IsCell c (some u)
structure Cx.Ok(X:Cx):Prop where
 mod:Mod X.K X.mg X.base
 kind:X.env.scope.kind=.function
 glob:X.env.globals=`T
 blt:X.env.builtins=builtinsNs
 above:X.s₀.heap.objs.size<=X.env.locals
 inj:∀x y c,43 x c->43 y c->x=y
 has:∀x,0 (X.env.kindOf x) .cell\/0 (X.env.kindOf x) .free->∃c,43 x c
 cab:∀x c,1 (X.fn x)->43 x c->X.s₀.heap.objs.size<=c
 hd:1 X.calm->X.A.handled=`c
 frames:0 X.A.frames X.stack
 stk:X.stack=X.outer\/X.stack=X.env::X.outer/\0 X.env.frame X.env.locals
 exf:∀b∈X.ex,b≠X.env.locals/\∀x c,43 x c->c≠b
 bs:∀b o,0 (X.base.get? b) o->0 (X.s₀.heap.get? b) o/\X.H₀ b=`c
 bsz:X.base.objs.size<=X.s₀.heap.objs.size
 noex:∀b o,0 (X.base.get? b) o->b∉X.ex
 exfs:∀b∈X.ex,b∉X.fs
 funs:X.s₀.heap.FunFrames X.base X.outer
 frf:∀b∈X.fs,X.H₀ b=`c
structure Inv(X:Cx)(Z_:7 Addr Obj)(M:List (Option V))(H:Hp)(s:EN):Prop where
 ok:X.Ok
 os:s.os=X.s₀.os
 bare:KH s.gens
 base:Un X.fs X.ex X.H₀ H X.s₀.heap `p
 loc:∃m,s.heap.Ns X.env.locals m/\∀(i:Nat)(x:Str)(v:V),0 X.N[i]? x->0 M[i]? (some v)->Vis X.env.scope x->∃u,RelV v u/\Look X.env `p m x u
 cell:∀x c,43 x c->∃v,s.heap.IsCell c v
 free:H X.env.locals=`c
 freeC:∀x c,43 x c->H c=`c
 pin:∀p∈X.pn++Z_,23 p.1 p.2/\H p.1=`c/\p.1≠X.env.locals/\p.1∉X.fs/\∀v,p.2.data≠.cell v
 hok:HOk `o X.w H `p
 len:M.length=X.N.length
section
variable{X:Cx}{Z_:7 Addr Obj}{M:List (Option V)}{H H':Hp}{s:EN}{h':Heap}
theorem Cx.Ok.nofr(ok:X.Ok){b:Addr}{o:Obj}(e:0 (X.base.get? b) o):b∉X.fs:=λhb=>by
 have:=(ok.funs.mem hb).1;rw[e]at this;cases this
theorem Inv.bs(I:14 X M H s):∀b o,0 (X.base.get? b) o->23 b o/\H b=`c:=λb o e=>⟨I.base.keep b o (I.ok.bs b o e).1 (I.ok.bs b o e).2 (I.ok.nofr e)<|I.ok.noex b o e,I.base.free b o (I.ok.bs b o e).1 (I.ok.bs b o e).2<|I.ok.noex b o e⟩
theorem Inv.bk(I:14 X M H s):∀b o,0 (X.base.get? b) o->23 b o:=λb o e=>(I.bs b o e).1
theorem Inv.mod(I:14 X M H s):Mod X.K X.mg X.base:=I.ok.mod
theorem Inv.kIn(I:14 X M H s):X.K.In `p:=I.ok.mod.kin.keeps I.bk
theorem Inv.lt(I:14 X M H s):X.env.locals<`P:=let ⟨_,hn,_⟩:=I.loc;hn.lt
theorem Inv.sz(I:14 X M H s):X.s₀.heap.objs.size<=`P:=Gy I.ok.above (J3 I.lt)
theorem Inv.nofs(I:14 X M H s){a:Addr}(h:`P<=a):a∉X.fs:=λhb=>by
 obtain⟨_,o,ho,_⟩:=I.ok.funs.mem hb;exact absurd (EZ (EU ho)<|Gy I.sz h) (Gu _)
theorem Inv.cne(I:14 X M H s):∀x c,43 x c->c≠X.env.locals:=λx c e z=>by
 obtain⟨v,o,ho,hd⟩:=I.cell x c e;obtain⟨m,⟨o',es,ep,ho',hd',_⟩,_⟩:=I.loc;rw[z,ho']at ho;cases ho;rw[hd']at hd;cases hd
theorem Inv.funs(I:14 X M H s):s.heap.FunFrames X.base X.outer:=by
 have all:∀(l:List Env),(∀b∈frs l,b∈X.fs)->X.s₀.heap.FunFrames X.base l->s.heap.FunFrames X.base l:=by
  intro l
  induction l with
  |nil=>intro _ _;trivial
  |cons env r ih=>
   intro hs hl;obtain⟨hk,⟨L,o,hf,hn,ho,hd⟩,hr⟩:=hl;have hL:L∈X.fs:=hs L (by unfold frs;rw[Ib,hf];exact Fc);obtain⟨sl,e⟩:=I.base.slot L o ho (I.ok.frf L hL) hL λz=>I.ok.exfs L z hL;exact⟨hk,⟨L,_,hf,hn,e,hd⟩,ih (λb hb=>hs b (by unfold frs;rw[Ib,hf];exact Fe _ hb)) hr⟩
 exact all X.outer (λ_ hb=>hb) I.ok.funs
theorem Inv.stack(I:14 X M H s):s.heap.FunFrames X.base X.stack:=by
 rcases I.ok.stk with e|⟨e,hf⟩
 ·rw[e];exact I.funs
 ·rw[e];obtain⟨m,hn,_⟩:=I.loc;refine .cons (by rw[I.ok.kind];decide) hf hn ?_ I.funs;exact Heap.get?_none_of_le (Gy I.ok.bsz I.ok.above)
theorem Inv.stkSub(I:14 X M H s):∀b∈frs X.stack,b∈X.env.locals::X.fs:=λb hb=>by
 rcases I.ok.stk with e|⟨e,hf⟩
 ·rw[e]at hb;exact Fe _ hb
 ·rw[e]at hb;unfold frs at hb;rw[Ib,hf]at hb;exact hb
theorem Inv.stkFree(I:14 X M H s):∀b∈frs X.stack,H b=`c:=λb hb=>by
 rcases F0.mp (I.stkSub b hb)with e|hb;·rw[e];exact I.free
 ·obtain⟨_,o,ho,_⟩:=I.ok.funs.mem hb;exact I.base.free b o ho (I.ok.frf b hb) λz=>I.ok.exfs b z hb
theorem Inv.step{g':Array Nv}{t':Nat}{d':Drawn}{ch:List Addr}(I:14 X M H s)
  (hch:∀b∈ch,(b∈X.ex\/X.s₀.heap.objs.size<=b)/\b≠X.env.locals/\(∀x c,43 x c->c≠b)/\∀p∈X.pn++Z_,p.1≠b)
  (keep:∀b o,b≠X.env.locals->b∉X.fs->b∉ch->23 b o->H b=`c->37 b o)
  (slot:∀b o,b≠X.env.locals->b∈X.fs->b∉ch->s.heap.get? b=some o->H b=none->∃sl,h'.get? b=some {o with slots:=sl}) (free:∀b o,b∉ch->23 b o->H b=`c->H' b=`c)
  (there:∀b o,b∉ch->23 b o->∃o',37 b o')
  (tups:∀b xs,0 (H b) (.tup xs)->0 (H' b) (.tup xs)) (frzs:∀b o u,0 (H b) (.frz o u)->0 (H' b) (.frz o u)) (tbls:∀b ps,0 (H b) (.tbl ps)->∃more,0 (H' b) (.tbl<|ps++more))
  (ns:∀m,s.heap.Ns X.env.locals m->h'.Ns X.env.locals m) (hok:HOk `o X.w H' h') (hg:KH g'):
  Inv X Z_ M H' {s with heap:=h',gens:=g',drawn:=d',toks:=t'}:=by
 have neL:∀b o,0 (X.s₀.heap.get? b) o->b≠X.env.locals:=λb o e=>Fd (EZ (EU e) I.ok.above);have neC:∀b o,0 (X.s₀.heap.get? b) o->b∉X.ex->b∉ch:=λb o e hx hb=>by
  rcases (hch b hb).1 with z|z;·exact hx z
  ·exact absurd (EZ (EU e) z) (Gu _)
 have cellK:∀x c,43 x c->∀v,s.heap.IsCell c v->h'.IsCell c v:=λx c e v⟨o,ho,hd⟩=>by
  have nch:c∉ch:=λz=>(hch c z).2.2.1 x c e `a;by_cases hc:c∈X.fs
  ·obtain⟨sl,q⟩:=slot c o (I.cne x c e) hc nch ho (I.freeC x c e);exact 9 q hd
  ·exact⟨o,keep c o (I.cne x c e) hc nch ho<|I.freeC x c e,hd⟩
 refine⟨I.ok,I.os,hg,⟨λb o e n hb hx=>?_,λb o e n hb hx=>?_,λb o e n hx=>?_,λb o e hx=>?_,λb xs e=>tups b xs<|I.base.tups b xs e,λb o xs e=>frzs b o xs<|I.base.frzs b o xs e,λb ps e=>?_⟩,?_,λx c e=>?_,?_,λx c e=>?_,λp hp=>?_,hok,I.len⟩;·exact keep b o (neL b o e) hb (neC b o e hx) (I.base.keep b o e n hb hx) (I.base.free b o e n hx)
 ·obtain⟨sl,e1⟩:=I.base.slot b o e n hb hx;obtain⟨sl',e2⟩:=slot b _ (neL b o e) hb (neC b o e hx) e1 (I.base.free b o e n hx);exact⟨sl',e2⟩
 ·obtain⟨o',e1⟩:=I.base.there b o e hx;exact free b o' (neC b o e hx) e1 (I.base.free b o e n hx)
 ·obtain⟨o',e1⟩:=I.base.there b o e hx;exact there b o' (neC b o e hx) e1
 ·obtain⟨m1,e1⟩:=I.base.tbls b ps e;obtain⟨m2,e2⟩:=tbls b _ e1;exact⟨m1++m2,by rw[e2,Array.append_assoc]⟩
 ·obtain⟨m,hn,hl⟩:=I.loc;refine⟨m,ns m hn,λi x v e1 e2 e3=>?_⟩;obtain⟨u,r,l⟩:=hl i x v e1 e2 e3;refine⟨u,r,?_⟩;rcases l with l|⟨k,c,e,z⟩
  ·exact .inl l
  ·exact .inr ⟨k,c,e,cellK x c e _ z⟩
 ·obtain⟨v,z⟩:=I.cell x c e;exact⟨v,cellK x c e v z⟩
 ·obtain⟨m,⟨o,_,_,ho,_⟩,_⟩:=I.loc;exact free _ o (λz=>(hch _ z).2.1 `a) ho I.free
 ·obtain⟨v,o,ho,hd⟩:=I.cell x c e;exact free c o (λz=>(hch c z).2.2.1 x c e `a) ho (I.freeC x c e)
 ·obtain⟨e,n,ne,nf,d⟩:=I.pin p hp;have nch:p.1∉ch:=λz=>(hch p.1 z).2.2.2 p hp `a;exact⟨keep p.1 p.2 ne nf nch e n,free p.1 p.2 nch e n,ne,nf,d⟩
theorem Inv.un{t':Nat}(I:14 X M H s)(u:Un X.fs [] H H' `p h')(hok:HOk `o X.w H' h'):Inv X Z_ M H' {s with heap:=h',toks:=t'}:=by
 obtain⟨m,⟨o,es,ep,ho,r⟩,_⟩:=id I.loc;obtain⟨sl,hL⟩:=u.any ho I.free `f;exact I.step (g':=s.gens) (d':=s.drawn) (ch:=[]) (λ_ z=>nomatch z) (λb o _ hb _ e n=>u.keep b o e n hb `f) (λb o _ hb _ e n=>u.slot b o e n hb `f) (λb o _ e n=>u.free b o e n `f) (λb o _ e=>u.there b o e `f) u.tups u.frzs u.tbls (λm' hm=>by
  obtain⟨o',es',ep',ho',r'⟩:=hm;rw[ho]at ho';cases ho';exact⟨_,es',ep',hL,r'⟩) hok I.bare
theorem Inv.call{g':Array Nv}{t':Nat}{d':Drawn}{ch:List Addr}(I:14 X M H s)(u:Un (frs X.stack) ch H H' `p h')(hok:HOk `o X.w H' h')(hg:KH g')
  (hch:∀b∈ch,(b∈X.ex\/X.s₀.heap.objs.size<=b)/\b≠X.env.locals/\(∀x c,43 x c->c≠b)/\∀p∈X.pn++Z_,p.1≠b):
  Inv X Z_ M H' {s with heap:=h',gens:=g',drawn:=d',toks:=t'}:=by
 obtain⟨m,⟨o,es,ep,ho,r⟩,_⟩:=id I.loc;obtain⟨sl,hL⟩:=u.any ho I.free λz=>(hch _ z).2.1 `a;exact I.step (ch:=ch) hch (λb o hL hb hc e n=>u.keep b o e n (λz=>(F0.mp<|I.stkSub b z).elim hL hb) hc) (λb o _ _ hc e n=>u.any e n hc) (λb o hc e n=>u.free b o e n hc) (λb o hc e=>u.there b o e hc) u.tups u.frzs u.tbls (λm' hm=>by
  obtain⟨o',es',ep',ho',r'⟩:=hm;rw[ho]at ho';cases ho';exact⟨_,es',ep',hL,r'⟩) hok hg
theorem Inv.turned{t':Nat}{it:Addr}(I:14 X M H s)(k:∀b o,b≠it->23 b o->37 b o)(hn:H it=`c)(hL:it≠X.env.locals)
  (h1:it∈X.ex\/X.s₀.heap.objs.size<=it) (h2:∀x c,43 x c->c≠it) (h3:∀p∈X.pn++Z_,p.1≠it):Inv X Z_ M H {s with heap:=h',toks:=t'}:=by
 have nit:∀b u,0 (H b) u->b≠it:=λb u e z=>by rw[z,hn]at e;cases e
 refine I.step (g':=s.gens) (d':=s.drawn) (ch:=[it]) (λb hb=>?_) (λb o _ _ hc e _=>k b o (λz=>hc<|by simp[z]) e) (λb o _ _ hc e _=>⟨o.slots,k b o (λz=>hc<|by simp[z]) e⟩) (λ_ _ _ _ n=>n) (λb o hc e=>⟨o,k b o (λz=>hc<|by simp[z]) e⟩) (λ_ _ e=>e) (λ_ _ _ e=>e) (λb ps e=>⟨#[],by rw[e];simp⟩) (λm hm=>?_) (λb u e=>?_) I.bare
 ·have e:b=it:=by simpa using hb
  subst e;exact⟨h1,hL,h2,h3⟩
 ·obtain⟨o,es,ep,ho,r⟩:=hm;exact⟨o,es,ep,k _ o (Hx hL) ho,r⟩
 ·refine(I.hok b u e).stay (λc v hc q=>k c v ?_ q) (λ_ q=>q) λ_ _ q=>q;rcases hc with z|z
  ·rw[z];exact nit b u e
  ·exact nit c _ z
theorem Inv.tok(I:14 X M H s)(t:Nat):Inv X Z_ M H {s with toks:=t}:=I.un (h':=s.heap) (t':=t) Un.refl I.hok
theorem Inv.kept{t':Nat}(I:14 X M H s)(k:∀b u,23 b u->37 b u):Inv X Z_ M H {s with heap:=h',toks:=t'}:=I.un (Un.kept k) (I.hok.kept k)
theorem Inv.laid{a:Addr}{o:HO}{t':Nat}(I:14 X M H s)(k:∀b u,23 b u->37 b u)(hp:`P<=a)(new:ObjOk `o X.w (cT H a o) h' a o):
  Inv X Z_ M (cT H a o) {s with heap:=h',toks:=t'}:=I.un (Un.laid k hp<|I.hok.fresh hp) (I.hok.laid k hp new)
theorem Inv.write{x e:Addr}{o:HO}{t':Nat}(I:14 X M H s)(mu:Bq (H x))(he:e=x\/0 (H e) (.own x))(k:∀b u,b≠e->23 b u->37 b u)(heo:∃u,37 e u)
  (new:ObjOk `o X.w (cT H x o) h' x o):Inv X Z_ M (cT H x o) {s with heap:=h',toks:=t'}:=I.un (Un.write mu he k heo) (I.hok.write mu he k heo new)
theorem Inv.weak{σ':List (Option V)}(I:14 X M H s)(hl:σ'.length=M.length)(w:∀(i:Nat)v,0 σ'[i]? (some v)->0 M[i]? (some v)):14 X σ' H s:=
 ⟨I.ok,I.os,I.bare,I.base,let ⟨m,hn,hl'⟩:=I.loc;⟨m,hn,λi x v e1 e2 e3=>hl' i x v e1 (w i v e2) e3⟩,I.cell,I.free,I.freeC,I.pin,I.hok,hl.trans I.len⟩
theorem Inv.pins_of{pins':7 Addr Obj}(I:14 X M H s)(h:∀p∈pins',23 p.1 p.2/\H p.1=`c/\p.1≠X.env.locals/\p.1∉X.fs/\∀v,p.2.data≠.cell v):Inv X pins' M H s:=
 ⟨I.ok,I.os,I.bare,I.base,I.loc,I.cell,I.free,I.freeC,λp hp=>(FX.mp hp).elim (λz=>I.pin p<|JM _ z)<|h p,I.hok,I.len⟩
theorem oE{N:`I}(hN:N.Nodup){i j:Nat}{x:Str}(a:0 N[i]? x)(b:0 N[j]? x):i=j:=by
 obtain⟨h1,e1⟩:=ER.mp a;obtain⟨h2,e2⟩:=ER.mp b;exact(List.getElem_inj hN).mp (e1.trans e2.symm)
theorem mn{ZZ:Py}{A:FR}{E:8 EM EN}{i:Nat}{x:Str}{v:V}{u:EM}{Q:8 Unit EN}(I:14 X M H s)(hN:X.N.Nodup)(hi:0 X.N[i]? x)(hx:zx X.env.scope x)(r:RelV v u)
  (h:∀s',14 X (M.set i<|some v) H s'->(∃a,Fg a `p s'.heap/\(a=X.env.locals\/43 x a))->Q () s') (hf:1 (X.fn x)\/0 (X.env.scope.names.lookup x) .local:=by first|exact .inl rfl|exact .inr rfl|assumption):wpAny ZZ A (storeName X.env x u) Q E s:=by
 obtain⟨m,hn,hl⟩:=id I.loc;have hcls:(X.env.scope.kind==.class||X.env.scope.kind==.module&&X.env.locals !=X.env.globals)=`g:=by rw[I.ok.kind];rfl
 have hiσ:i<M.length:=by rw[I.len];exact(ER.mp hi).1
 have cne:=I.cne;have tracked:∀{a:Addr}{h':Heap},(∃o,23 a o/\H a=`c)->Fg a `p h'->HOk `o X.w H h':=λ{a h'}ha hs b ob e=>by
  obtain⟨_,_,hfree⟩:=ha;refine(I.hok b ob e).stay (λc w' hc q=>(hs.2 c ?_).trans q) (λ_ q=>q) λ_ _ q=>q;rintro rfl;rcases hc with rfl|hc
  ·rw[hfree]at e;cases e
  ·rw[hfree]at hc;cases hc
 rcases hx with hk|hk
 ·refine wpAny_storeName_local hk hn (λh' hn' hs=>?_) hcls;obtain⟨oL,_,_,hoL,_⟩:=id hn;refine h _ ⟨I.ok,I.os,I.bare,⟨λb o e n hb hx=>?_,λb o e n hb hx=>?_,I.base.free,λb o e hx=>?_,I.base.tups,I.base.frzs,I.base.tbls⟩,9 hn' λj y v' e1 e2 e3=>?_,λy c e=>?_,I.free,I.freeC,λp hp=>?_,tracked ⟨oL,hoL,I.free⟩ hs,by simpa using I.len⟩ (9 hs `G);·exact(hs.2 b<|Fd<|EZ (EU e) I.ok.above).trans (I.base.keep b o e n hb hx)
  ·obtain⟨sl,e1⟩:=I.base.slot b o e n hb hx;exact⟨sl,(hs.2 b<|Fd<|EZ (EU e) I.ok.above).trans e1⟩
  ·obtain⟨o',e1⟩:=I.base.there b o e hx;exact⟨o',(hs.2 b<|Fd<|EZ (EU e) I.ok.above).trans e1⟩
  ·by_cases hj:j=i
   ·subst hj;rw[hi]at e1;cases e1;rw[Ld hiσ]at e2;cases e2;exact⟨u,r,.inl ⟨hk,`f⟩⟩
   ·rw[LN (Hx hj)]at e2;obtain⟨u',r',q⟩:=hl j y v' e1 e2 e3;refine⟨u',r',?_⟩;rcases q with⟨k,e⟩|⟨k,c,e,z⟩
    ·refine .inl ⟨k,?_⟩;have:y≠x:=λe=>hj<|oE hN e1<|e▸hi;simp[this,e]
    ·exact .inr ⟨k,c,e,z.sameBut hs<|cne y c e⟩
  ·obtain⟨w',z⟩:=I.cell y c e;exact⟨w',z.sameBut hs<|cne y c e⟩
  ·obtain⟨e,n,ne,nf,d⟩:=I.pin p hp;exact⟨(hs.2 p.1 ne).trans e,n,ne,nf,d⟩
 ·have hfn:1 (X.fn x):=by
   rcases hf with z|z;·exact z
   ·rw[z]at hk;cases hk
  obtain⟨c,hc⟩:=I.ok.has x (.inl hk);obtain⟨w',z⟩:=I.cell x c hc;refine wpAny_storeName_cell I.ok.kind hk hc z λh' hc' hs=>?_;obtain⟨oc,hoc,hocd⟩:=id z;refine h {s with heap:=h'} ⟨I.ok,I.os,I.bare,⟨λb o e n hb hx=>?_,λb o e n hb hx=>?_,I.base.free,λb o e hx=>?_,I.base.tups,I.base.frzs,I.base.tbls⟩,⟨m,hn.sameBut hs<|Hx<|cne x c hc,λj y v' e1 e2 e3=>?_⟩,λy c' e=>?_,I.free,I.freeC,λp hp=>?_,tracked ⟨oc,hoc,I.freeC x c hc⟩ hs,by simpa using I.len⟩ ⟨c,hs,.inr hc⟩;·exact(hs.2 b<|Fd<|EZ (EU e)<|I.ok.cab x c hfn hc).trans (I.base.keep b o e n hb hx)
  ·obtain⟨sl,e1⟩:=I.base.slot b o e n hb hx;exact⟨sl,(hs.2 b<|Fd<|EZ (EU e)<|I.ok.cab x c hfn hc).trans e1⟩
  ·obtain⟨o',e1⟩:=I.base.there b o e hx;exact⟨o',(hs.2 b<|Fd<|EZ (EU e)<|I.ok.cab x c hfn hc).trans e1⟩
  ·by_cases hj:j=i
   ·subst hj;rw[hi]at e1;cases e1;rw[Ld hiσ]at e2;cases e2;exact⟨u,r,.inr ⟨.inl hk,c,hc,hc'⟩⟩
   ·rw[LN (Hx hj)]at e2;obtain⟨u',r',q⟩:=hl j y v' e1 e2 e3;refine⟨u',r',?_⟩;rcases q with q|⟨k,c',e,z'⟩
    ·exact .inl q
    ·refine .inr ⟨k,c',e,z'.sameBut hs ?_⟩;rintro rfl;exact hj<|oE hN e1<|I.ok.inj _ _ _ e hc▸hi
  ·by_cases hcc:c'=c;·subst hcc;exact⟨_,hc'⟩
   ·obtain⟨w2,z2⟩:=I.cell y c' e;exact⟨w2,z2.sameBut hs hcc⟩
  ·obtain⟨e,n,ne,nf,d⟩:=I.pin p hp;refine⟨(hs.2 p.1 ?_).trans e,n,ne,nf,d⟩;intro q;rw[q,hoc]at e;have q':oc=p.2:=Ft e;exact d w' (by rw[<-q'];exact hocd)
theorem kO{ZZ:Py}{A:FR}{E:8 EM EN}{i:Nat}{x:Str}{v:V}{u:EM}{Q:8 Unit EN}(I:14 X M H s)(hN:X.N.Nodup)(hi:0 X.N[i]? x)(hx:zx X.env.scope x)(r:RelV v u)
  (h:∀s',14 X (M.set i<|some v) H s'->Q () s') (hf:1 (X.fn x)\/0 (X.env.scope.names.lookup x) .local:=by first|exact .inl rfl|exact .inr rfl|assumption):wpAny ZZ A (storeName X.env x u) Q E s:=
 mn I hN hi hx r (λs' I' _=>h s' I') hf
theorem Inv.call'{s':EN}{ch:List Addr}(I:14 X M H s)(ho:s'.os=s.os)(u:Un (frs X.stack) ch H H' `p s'.heap)(hok:HOk `o X.w H' s'.heap)(hg:KH s'.gens)
  (hch:∀b∈ch,(b∈X.ex\/X.s₀.heap.objs.size<=b)/\b≠X.env.locals/\(∀x c,43 x c->c≠b)/\∀p∈X.pn++Z_,p.1≠b):14 X M H' s':=by
 obtain⟨h',g',d',t',o'⟩:=s';have e:o'=s.os:=ho;subst e;exact I.call (g':=g') (t':=t') (d':=d') u hok hg hch
end
abbrev XK:=EM->Option Addr->Hp->Prop
abbrev St:=List (Option V)
abbrev VK:=8 V Hp
abbrev TE:=St->Hp->VK->Prop
abbrev TT:=St->Hp->8 Bool Hp->Prop
abbrev TA:=St->Hp->8 `u Hp->Prop
structure Ends where
 nx:8 St Hp
 rt:VK
 bk:8 St Hp:=λ_ _=>False
 ct:8 St Hp:=λ_ _=>False
abbrev TS:=Ends->St->Hp->Prop
def EP(X:Cx)(Z_:7 Addr Obj)(M:St)(Q:VK)(u:EM)(s':EN):Prop:=∃v H',14 X M H' s'/\RelV v u/\Q v H'
def TP(X:Cx)(Z_:7 Addr Obj)(M:St)(Q:8 Bool Hp)(b:Bool)(s':EN):Prop:=∃H',14 X M H' s'/\Q b H'
def AP(X:Cx)(Z_:7 Addr Obj)(M:St)(Q:8 `u Hp)(us:List EM)(s':EN):Prop:=∃vs H',14 X M H' s'/\Vals vs us/\Q vs H'
def SP(X:Cx)(Z_:7 Addr Obj)(D:Ends)(f:Flow)(s':EN):Prop:=
 match f with
 | .next=>∃σ' H',14 X σ' H' s'/\D.nx σ' H'
 | .brk=>∃σ' H',14 X σ' H' s'/\D.bk σ' H'
 | .cont=>∃σ' H',14 X σ' H' s'/\D.ct σ' H'
 | .ret u=>∃v σ' H',14 X σ' H' s'/\RelV v u/\D.rt v H'
def PE(X:Cx)(e:Expr)(t:TE):Prop:=
 ∀(Z_:List (Addr×Obj))(s:EN)(M:St)(H:Hp)(Q:VK),14 X M H s->t M H Q->21 `o X.w X.A (26 e) (EP X Z_ M Q) X.xe
def PT(X:Cx)(e:Expr)(t:TT):Prop:=
 ∀(Z_:List (Addr×Obj))(s:EN)(M:St)(H:Hp)(Q:Bool->Hp->Prop),14 X M H s->t M H Q->21 `o X.w X.A (isTrue e X.env<|26 e) (TP X Z_ M Q) X.xe
def PW(X:Cx)(e:Expr)(t:TT):Prop:=
 ∀(whole:Sem EM)(Z_:List (Addr×Obj))(s:EN)(M:St)(H:Hp)(Q:Bool->Hp->Prop),14 X M H s->t M H Q->21 `o X.w X.A (isTrue e X.env whole) (TP X Z_ M Q) X.xe
theorem PW.pt{X:Cx}{e:Expr}{t:TT}(h:PW X e t):PT X e t:=h _
def PA(X:Cx)(es:List Expr)(t:TA):Prop:=
 ∀(Z9:Pos)(Z_:List (Addr×Obj))(s:EN)(M:St)(H:Hp)(Q:List V->Hp->Prop),14 X M H s->t M H Q->21 `o X.w X.A (spliced<|backTo Z9<|32 es) (AP X Z_ M Q) X.xe
def PS(X:Cx)(st:Stmt)(t:TS):Prop:=
 ∀(Z_:List (Addr×Obj))(s:EN)(M:St)(H:Hp)(D:Ends),14 X M H s->t D M H->21 `o X.w X.A (exec st X.env) (SP X Z_ D) X.xe
def PSs(X:Cx)(st:List Stmt)(t:TS):Prop:=
 ∀(Z_:List (Addr×Obj))(s:EN)(M:St)(H:Hp)(D:Ends),14 X M H s->t D M H->21 `o X.w X.A (execs st X.env) (SP X Z_ D) X.xe
theorem cx{Z:Type}{t:Sem Z}{Q Q':8 Z EN}{ZZ:Py}{A:FR}{E:8 EM EN}{s:EN}(h:wpAny ZZ A t Q E s)(hQ:∀a s,Q a s->Q' a s):wpAny ZZ A t Q' E s:=Gi h hQ λ_ _ x=>x
section
variable{X:Cx}
def bZ(i:Nat):TE:=λM H Q=>∃v,0 M[i]? (some v)/\Q v H
def tC(v:V):TE:=λ_ H Q=>Q v H
theorem A0{i:Nat}{x:Str}{Z9:Pos}(hN:0 X.N[i]? x)(hv:Vis X.env.scope x)(hd:(x==("__debug__" :Str))=`g:=by decide)(hcd:(x==("__classdict__" :Str))=`g:=by decide):PE X (.Name x Z9) (bZ i):=by
 intro Z_ s M H Q I h;obtain⟨v,e,h⟩:=h;obtain⟨m,hn,hl⟩:=I.loc;obtain⟨u,r,l⟩:=hl i x v hN e hv;have fin:EP X Z_ M Q u s:=⟨v,H,I,r,h⟩
 rcases l with⟨hk,hm⟩|⟨hk,c,hc,hcell⟩
 ·exact Nw (LO I.ok.kind hk hn hm fin) hd
 ·rcases hk with hk | hk;·exact Nw (M6 I.ok.kind hk hc hcell fin) hd
  ·exact Nw (wpAny_loadName_free I.ok.kind hk hc hcell fin hcd) hd
theorem aa{i j Z9}:PE X (.Constant (.int i) j Z9) (tC<|.int i):=λ_ _ _ H _ I h=>wpAny_Constant_int ⟨.int i,H,I.tok _,⟨_,`a⟩,h⟩
theorem dD{b j Z9}:PE X (.Constant (.bool b) j Z9) (tC<|.bl b):=λ_ _ _ H _ I h=>Constant_bool ⟨.bl b,H,I,`a,h⟩
theorem eO{j Z9}:PE X (.Constant .none j Z9) (tC .non):=λ_ _ _ H _ I h=>Constant_none ⟨.non,H,I,`a,h⟩
theorem aX{x j Z9}:PE X (.Constant (.str x) j Z9) (tC<|.str x):=λ_ _ _ H _ I h=>Calls.Constant_str ⟨.str x,H,I.tok _,⟨_,`a⟩,h⟩
def Gl(X:Cx)(x:Str):Prop:=0 (X.env.kindOf x) .globalImplicit
theorem rg{E:8 EM EN}{Z_:7 Addr Obj}{s:EN}{M:St}{H:Hp}{x:Str}{u:EM}{Z9:Pos}{Q:8 EM EN}(I:14 X M H s)(hg:Gl X x)(hm:0 (X.mg x) u)(h:Q u s)
  (hd:(x==("__debug__" :Str))=`g:=by decide):21 `o X.w X.A (26<|.Name x Z9) Q E:=
 Kh I.ok.kind hg (Calls.loadGlobal_global (by rw[I.ok.glob];exact I.mod.glob.keeps I.bk) hm h) hd
theorem gk{E:8 EM EN}{Z_:7 Addr Obj}{s:EN}{M:St}{H:Hp}{x:Str}{u:EM}{Z9:Pos}{Q:8 EM EN}(I:14 X M H s)(hg:Gl X x)(hm:X.mg x=`c)(hv:0 (bootBuiltins x) u)(h:Q u s)
  (hn:x≠"__name__":=by decide) (hd:(x==("__debug__" :Str))=`g:=by decide):21 `o X.w X.A (26<|.Name x Z9) Q E:=by
 obtain⟨mb,h1,h2⟩:=I.mod.blt;exact Kh I.ok.kind hg (Calls.loadGlobal_builtin (by rw[I.ok.glob];exact I.mod.glob.keeps I.bk) hm (by rw[I.ok.blt];exact h1.keeps I.bk) ((h2 x hn).trans hv) h) hd
theorem dE{x:Str}{v:V}{u:EM}{Z9:Pos}(hg:Gl X x)(hm:0 (X.mg x) u)(r:RelV v u)(hd:(x==("__debug__" :Str))=`g:=by decide):PE X (.Name x Z9) (tC v):=
 λ_ _ _ H _ I h=>rg I hg hm ⟨v,H,I,r,h⟩ hd
theorem eP{x:Str}{v:V}{u:EM}{Z9:Pos}(hg:Gl X x)(hm:X.mg x=`c)(hv:0 (bootBuiltins x) u)(r:RelV v u)(hn:x≠"__name__":=by decide)(hd:(x==("__debug__" :Str))=`g:=by decide):PE X (.Name x Z9) (tC v):=
 λ_ _ _ H _ I h=>gk I hg hm hv ⟨v,H,I,r,h⟩ hn hd
variable{a b:Expr}{ta tb:TE}{Z9:Pos}
def tB(t:TE):TT:=λM H Q=>t M H λx H1=>∃c,x=.bl c/\Q c H1
theorem dt{e:Expr}{t:TE}(h:PE X e t)(he:∀whole,isTrue e X.env whole=(do let v <-whole;standAt e.pos;holding [v] (truthy v)):=by intro _;rfl):PT X e (tB t):=by
 intro Z_ s M H Q I hw;refine isTrue_plain (cx (h Z_ s M H _ I hw) λv s1⟨x,H1,I1,r1,q1⟩=>?_) (he _);obtain⟨d,rfl,q⟩:=q1;cases r1;exact Hy ⟨H1,I1,q⟩
variable{tA tB':TT}{rest:List Expr}
def du(t u:TT):TT:=λM H Q=>t M H λc H1=>if 1 c then u M H1 Q else Q `g H1
def gX(t u:TT):TT:=λM H Q=>t M H λc H1=>if 1 c then Q true H1 else u M H1 Q
def dv(t:TT):TT:=λM H Q=>t M H λc H1=>Q (!c) H1
theorem cA(ha:PT X a tA):PW X (.BoolOp .And [a] Z9) tA:=by
 intro wh Z_ s M H Q I h;refine isTrue_and (cx (ha Z_ s M H Q I h) λc s1 e=>?_);cases c with
 |true=>exact isTrue_and_nil e
 |false=>exact e
theorem j0(ha:PT X a tA):PW X (.BoolOp .Or [a] Z9) tA:=by
 intro wh Z_ s M H Q I h;refine isTrue_or (cx (ha Z_ s M H Q I h) λc s1 e=>?_);cases c with
 |false=>exact isTrue_or_nil e
 |true=>exact e
theorem cF(ha:PT X a tA)(hb:PW X (.BoolOp .And (b::rest) Z9) tB'):PW X (.BoolOp .And (a::b::rest) Z9) (du tA tB'):=by
 intro wh Z_ s M H Q I h;refine isTrue_and (cx (ha Z_ s M H _ I h) λc s1 zz=>?_);obtain⟨H1,I1,q1⟩:=zz;cases c with
 |true=>exact hb wh Z_ s1 M H1 Q I1 q1
 |false=>exact⟨H1,I1,q1⟩
theorem jS(ha:PT X a tA)(hb:PW X (.BoolOp .Or (b::rest) Z9) tB'):PW X (.BoolOp .Or (a::b::rest) Z9) (gX tA tB'):=by
 intro wh Z_ s M H Q I h;refine isTrue_or (cx (ha Z_ s M H _ I h) λc s1 zz=>?_);obtain⟨H1,I1,q1⟩:=zz;cases c with
 |true=>exact⟨H1,I1,q1⟩
 |false=>exact hb wh Z_ s1 M H1 Q I1 q1
theorem j4(ha:PT X a tA):PT X (.UnaryOp .Not a Z9) (dv tA):=by
 intro Z_ s M H Q I h;exact isTrue_not (ha Z_ s M H (λc H1=>Q (!c) H1) I h)
def bT(ta tb:TE):TE:=λM H Q=>ta M H λx H1=>∃c,x=.bl c/\if 1 c then tb M H1 Q else Q (.bl `g) H1
def dw(ta tb:TE):TE:=λM H Q=>ta M H λx H1=>∃c,x=.bl c/\if 1 c then Q (.bl true) H1 else tb M H1 Q
def bX(ta:TE):TE:=λM H Q=>ta M H λx H1=>∃c,x=.bl c/\Q (.bl<|!c) H1
theorem gF{op}{t:TE}(h:PE X a t):PE X (.BoolOp op [a] Z9) t:=λZ_ s M H Q I hw=>BoolOp_one (h Z_ s M H Q I hw)
theorem gm(ha:PE X a ta)(hb:PE X (.BoolOp .And (b::rest) Z9) tb):PE X (.BoolOp .And (a::b::rest) Z9) (bT ta tb):=by
 intro Z_ s M H Q I h;refine BoolOp_and (cx (ha Z_ s M H _ I h) λv s1 zz=>?_);obtain⟨x,H1,I1,r1,q1⟩:=zz;obtain⟨c,rfl,q1⟩:=q1;cases r1;refine Hy ?_;cases c with
 |true=>exact hb Z_ s1 M H1 Q I1 q1
 |false=>exact⟨.bl `g,H1,I1,`a,q1⟩
theorem Br(ha:PE X a ta)(hb:PE X (.BoolOp .Or (b::rest) Z9) tb):PE X (.BoolOp .Or (a::b::rest) Z9) (dw ta tb):=by
 intro Z_ s M H Q I h;refine BoolOp_or (cx (ha Z_ s M H _ I h) λv s1 zz=>?_);obtain⟨x,H1,I1,r1,q1⟩:=zz;obtain⟨c,rfl,q1⟩:=q1;cases r1;refine Hy ?_;cases c with
 |false=>exact hb Z_ s1 M H1 Q I1 q1
 |true=>exact⟨.bl true,H1,I1,`a,q1⟩
theorem A1(ha:PE X a ta):PE X (.UnaryOp .Not a Z9) (bX ta):=by
 intro Z_ s M H Q I h;refine UnaryOp_ (cx (ha Z_ s M H _ I h) λv s1 zz=>?_);obtain⟨x,H1,I1,r1,q1⟩:=zz;obtain⟨c,rfl,q1⟩:=q1;cases r1;exact not_of (Hy ⟨.bl<|!c,H1,I1,rfl,q1⟩)
def gR(t:TT)(ta tb:TE):TE:=λM H Q=>t M H λc H1=>if 1 c then ta M H1 Q else tb M H1 Q
theorem gu{c:Expr}(hc:PT X c tA)(ha:PE X a ta)(hb:PE X b tb):PE X (.IfExp c a b Z9) (gR tA ta tb):=by
 intro Z_ s M H Q I h;refine wpAny_IfExp (cx (hc Z_ s M H _ I h) λd s1 zz=>?_);obtain⟨H1,I1,q1⟩:=zz;cases d with
 |true=>exact ha Z_ s1 M H1 Q I1 q1
 |false=>exact hb Z_ s1 M H1 Q I1 q1
end
def SqL(K:EL)(H:Hp)(a:Addr)(xs:`u):Prop:=
 Rd H a (.lst xs)\/∃(o:Obj)(its:Array EM)(n:Nat),0 (K.lookup a) o/\o.cls=.type "list"/\o.dict=`c/\o.data=.seq its n/\its.size<=sizeLine/\Vals xs its.toList
def SqT(K:EL)(H:Hp)(a:Addr)(xs:`u):Prop:=
 Rd H a (.tup xs)\/∃(o:Obj)(its:Array EM)(n:Nat),0 (K.lookup a) o/\(o.cls=.type "tuple"/\o.dict=`c)/\o.data=.seq its n/\its.size<=sizeLine/\Vals xs its.toList
def Dq:EM->Option V
 | .none=>some .non
 | .bool b=>some (.bl b)
 | .int i _=>6 i
 | .str x _=>some (.str x)
 | .bytes b _=>some (.byt b)
 | .float b _=>some (.flt b)
 | .ref a=>27 a
 | .type n=>some (.ty n)
 |_=>none
theorem RelV.abs{x:V}{u:EM}(r:RelV x u):0 (Dq u) x:=by
 cases x with
 |non=>cases r;rfl
 |bl _=>cases r;rfl
 |int _=>obtain⟨t,rfl⟩:=r;rfl
 |str _=>obtain⟨t,rfl⟩:=r;rfl
 |byt _=>obtain⟨t,rfl⟩:=r;rfl
 |flt _=>obtain⟨t,rfl⟩:=r;rfl
 |ref _=>cases r;rfl
 |ty _=>cases r;rfl
theorem RelV.inj{x y:V}{u:EM}(r:RelV x u)(q:RelV y u):x=y:=Ft (r.abs.symm.trans q.abs)
theorem Vals.inj:∀{xs ys:List V}{us:List EM},Vals xs us->Vals ys us->xs=ys
 |_,_,_,.nil,.nil=>rfl
 |_,_,_,.cons r t,.cons r' t'=>by rw[r.inj r',Vals.inj t t']
section
variable{X:Cx}{Z_:7 Addr Obj}{M:St}{H:Hp}{s:EN}{a:Addr}{xs ys:`u}
theorem SqL.of{K:EL}(h:0 (H a) (.lst xs)):SqL K H a xs:=.inl (.inl h)
theorem SqT.of{K:EL}(h:0 (H a) (.tup xs)):SqT K H a xs:=.inl (.inl h)
theorem Inv.list(I:14 X M H s)(h:SqL X.K H a xs):∃its:List EM,Vals xs its/\PlainL `p a its.toArray/\`i<=sizeLine:=by
 rcases h with h|⟨o,its,n,hk,hc,hd,hs,hz,r⟩
 ·obtain⟨z,its,n,r,e⟩:=h.ok I.hok;exact⟨its,r,⟨_,n,e,`a,`a,`a⟩,z⟩
 ·refine⟨its.toList,r,⟨o,n,I.kIn a o hk,hc,hd,by simpa using hs⟩,?_⟩;have e:=r.length;simp only[FL]at e;omega
theorem Inv.tuple(I:14 X M H s)(h:SqT X.K H a xs):∃its:List EM,Vals xs its/\IsTup `p a its.toArray/\`i<=sizeLine:=by
 rcases h with h|⟨o,its,n,hk,hc,hs,hz,r⟩
 ·obtain⟨z,its,r,p⟩:=h.ok I.hok;exact⟨its,r,p.tup,z⟩
 ·refine⟨its.toList,r,⟨o,I.kIn a o hk,hc.1,n,by simpa using hs⟩,?_⟩;have e:=r.length;simp only[FL]at e;omega
theorem Inv.list_inj(I:14 X M H s)(h:SqL X.K H a xs)(h':SqL X.K H a ys):xs=ys:=by
 obtain⟨its,r,⟨o,n,e,_,_,d⟩,_⟩:=I.list h;obtain⟨its',r',⟨o',n',e',_,_,d'⟩,_⟩:=I.list h';rw[e]at e';cases e';rw[d]at d';injection d' with d1 _;have:its=its':=by simpa using congrArg OF d1
 subst this;exact r.inj r'
theorem Inv.tuple_inj(I:14 X M H s)(h:SqT X.K H a xs)(h':SqT X.K H a ys):xs=ys:=by
 obtain⟨its,r,⟨o,e,_,n,d⟩,_⟩:=I.tuple h;obtain⟨its',r',⟨o',e',_,n',d'⟩,_⟩:=I.tuple h';rw[e]at e';cases e';rw[d]at d';injection d' with d1 _;have:its=its':=by simpa using congrArg OF d1
 subst this;exact r.inj r'
end
abbrev Cx.wish(X:Cx)(E:8 EM EN):Cx:={X with xe:=E}
abbrev Cx.nox(X:Cx):Cx:=X.wish λ_ _=>False
theorem Cx.Ok.wish{X:Cx}(ok:X.Ok)(E:8 EM EN):(X.wish E).Ok:=
 ⟨ok.mod,ok.kind,ok.glob,ok.blt,ok.above,ok.inj,ok.has,ok.cab,ok.hd,ok.frames,ok.stk,ok.exf,ok.bs,ok.bsz,ok.noex,ok.exfs,ok.funs,ok.frf⟩
theorem Cx.Ok.unwish{X:Cx}{E:8 EM EN}(ok:(X.wish E).Ok):X.Ok:=
 ⟨ok.mod,ok.kind,ok.glob,ok.blt,ok.above,ok.inj,ok.has,ok.cab,ok.hd,ok.frames,ok.stk,ok.exf,ok.bs,ok.bsz,ok.noex,ok.exfs,ok.funs,ok.frf⟩
section
variable{X:Cx}{Z_:7 Addr Obj}{M:St}{H:Hp}{s:EN}{E:8 EM EN}
theorem Inv.wish(I:14 X M H s)(E:8 EM EN):14 (X.wish E) M H s:=⟨I.ok.wish E,I.os,I.bare,I.base,I.loc,I.cell,I.free,I.freeC,I.pin,I.hok,I.len⟩
theorem Inv.unwish(I:14 (X.wish E) M H s):14 X M H s:=⟨I.ok.unwish,I.os,I.bare,I.base,I.loc,I.cell,I.free,I.freeC,I.pin,I.hok,I.len⟩
theorem SP.unwish{D:Ends}{f:Flow}{s':EN}(h:SP (X.wish E) Z_ D f s'):SP X Z_ D f s':=by
 cases f with
 |next=>obtain⟨σ',H',I,q⟩:=h;exact⟨σ',H',I.unwish,q⟩
 |brk=>obtain⟨σ',H',I,q⟩:=h;exact⟨σ',H',I.unwish,q⟩
 |cont=>obtain⟨σ',H',I,q⟩:=h;exact⟨σ',H',I.unwish,q⟩
 |ret u=>obtain⟨v,σ',H',I,r,q⟩:=h;exact⟨v,σ',H',I.unwish,r,q⟩
theorem PSs.nox{st:List Stmt}{t:TS}(h:PSs X.nox st t):PSs X st t:=λZ_ s M H D I hw=>Gi (h Z_ s M H D (I.wish _) hw) (λ_ _ q=>q.unwish) λ_ _ z=>Ir z
end
section
variable{X:Cx}{st:Stmt}{rest:List Stmt}{t u:TS}{e:Expr}{te:TE}{Z9:Pos}
def aF:TS:=λD M H=>D.nx M H
def iR(t u:TS):TS:=λD M H=>t {D with nx:=u D} M H
theorem aD:PSs X [] aF:=λ_ _ M H _ I h=>JY ⟨M,H,I,h⟩
theorem ae(h1:PS X st t)(h2:PSs X rest u):PSs X (st::rest) (iR t u):=by
 intro Z_ s M H D I h;refine MV (cx (h1 Z_ s M H {D with nx:=u D} I h) λf s1 q=>?_);cases f with
 |next=>
  obtain⟨σ',H',I',q⟩:=q;exact h2 Z_ s1 σ' H' D I' q
 |ret v=>exact q
 |brk=>exact q
 |cont=>exact q
theorem ag(h1:PS X st t):PSs X [st] t:=by
 intro Z_ s M H D I h;refine MV (cx (h1 Z_ s M H D I h) λf s1 q=>?_);cases f with
 |next=>exact JY q
 |ret v=>exact q
 |brk=>exact q
 |cont=>exact q
theorem Inv.quiet{Z_:7 Addr Obj}{M:St}{H:Hp}{s:EN}(I:14 X M H s):interactive X.env=`g:=by simp[interactive,I.ok.kind]
def bK(te:TE):TS:=λD M H=>te M H λ_ H1=>D.nx M H1
theorem dN(he:PE X e te)(hs:swapsWith e `c Z9.line X.env=pure `g:=by rfl):PS X (.Expr e Z9) (bK te):=by
 intro Z_ s M H D I h;exact wpAny_Expr_any (cx (he Z_ s M H _ I h) λv s1⟨x,H1,I1,r1,q1⟩=>⟨M,H1,I1,q1⟩) I.quiet hs
def cW(te:TE):TS:=λD M H=>te M H D.rt
theorem aB(he:PE X e te):PS X (.Return (some e) Z9) (cW te):=by
 intro Z_ s M H D I h;refine wpAny_Return_some (cx (he Z_ s M H _ I h) λv s1 zz=>?_);obtain⟨x,H1,I1,r1,q1⟩:=zz;exact⟨x,M,H1,I1,r1,q1⟩
def k4(c:TT)(t u:TS):TS:=λD M H=>c M H λb H1=>if 1 b then t D M H1 else u D M H1
theorem aT{c:Expr}{a b:List Stmt}{tc:TT}(hc:PT X c tc)(ha:PSs X a t)(hb:PSs X b u):PS X (.If c a b Z9) (k4 tc t u):=by
 intro Z_ s M H D I h;refine wpAny_If (cx (hc Z_ s M H _ I h) λd s1 zz=>?_);obtain⟨H1,I1,q1⟩:=zz;cases d with
 |true=>exact ha Z_ s1 M H1 D I1 q1
 |false=>exact hb Z_ s1 M H1 D I1 q1
def A2:TS:=λ_ _ _=>False
end
abbrev TG:=V->St->8 Hp (8 St Hp)
abbrev zy:=`u->St->8 Hp (8 St Hp)
def PG(X:Cx)(target:Expr)(t:TG):Prop:=
 ∀(Z_:List (Addr×Obj))(s:EN)(M:St)(H:Hp)(v:V)(u:EM)(Q:St->Hp->Prop),14 X M H s->RelV v u->t v M H Q->21 `o X.w X.A (assign target X.env u) (λ_ s'=>∃σ' H',14 X σ' H' s'/\Q σ' H') X.xe
def Bs(X:Cx)(ts:List Expr)(t:zy):Prop:=
 ∀(Z_:List (Addr×Obj))(s:EN)(M:St)(H:Hp)(vs:List V)(us:List EM)(Q:St->Hp->Prop),14 X M H s->Vals vs us->t vs M H Q->21 `o X.w X.A (assignInOrder ((assignEach ts X.env).map (·.2)) us) (λ_ s'=>∃σ' H',14 X σ' H' s'/\Q σ' H') X.xe
abbrev A3:=V->V->V->Hp->(Hp->Prop)->Prop
def Bt(X:Cx)(t:A3):Prop:=
 ∀(Z_:List (Addr×Obj))(s:EN)(M:St)(H:Hp)(o i v:V)(ov iv u:EM)(Q:Hp->Prop),14 X M H s->RelV o ov->RelV i iv->RelV v u->t o i v H Q->21 `o X.w X.A (setItem ov iv u) (λ_ s'=>∃H',14 X M H' s'/\Q H') X.xe
abbrev Bu:=V->V->8 Hp VK
def Cj(X:Cx)(op:OW)(t:Bu):Prop:=
 ∀(Z_:List (Addr×Obj))(s:EN)(M:St)(H:Hp)(x y:V)(v u:EM)(Q:VK),14 X M H s->RelV x v->RelV y u->t x y H Q->21 `o X.w X.A (inplaceOp op v u) (EP X Z_ M Q) X.xe
section
variable{X:Cx}{Z9:Pos}
def bt(i:Nat):TG:=λv M H Q=>Q (M.set i<|some v) H
theorem bG{i:Nat}{x:Str}(hN:X.N.Nodup)(hi:0 X.N[i]? x)(hx:zx X.env.scope x)(hf:1 (X.fn x)\/0 (X.env.scope.names.lookup x) .local:=by first|exact .inl rfl|exact .inr rfl|assumption):PG X (.Name x Z9) (bt i):=by
 intro Z_ s M H v u Q I r h;exact MD (kO I hN hi hx r (λs' I'=>⟨_,H,I',h⟩) hf)
def d6:zy:=λvs M H Q=>vs=[]/\Q M H
def bL(t:TG)(u:zy):zy:=λvs M H Q=>∃v r,vs=v::r/\t v M H λσ' H'=>u r σ' H' Q
theorem bM:Bs X [] d6:=by
 intro Z_ s M H vs us Q I r h;obtain⟨e,h⟩:=h;subst e;cases r;exact assignInOrder_nil ⟨M,H,I,h⟩
theorem aA{e:Expr}{es:List Expr}{t:TG}{u:zy}(h1:PG X e t)(h2:Bs X es u)
  (hs:(assignEach (e::es) X.env).map (·.2)=assign e X.env::(assignEach es X.env).map (·.2):=by rfl):Bs X (e::es) (bL t u):=by
 intro Z_ s M H vs us Q I r h;obtain⟨v,vr,e1,h⟩:=h;subst e1;cases r with
 |cons r rr=>
  rw[hs];refine assignInOrder_cons (cx (h1 Z_ s M H _ _ _ I r h) λ_ s1 zz=>?_);obtain⟨σ1,H1,I1,q1⟩:=zz;exact h2 Z_ s1 σ1 H1 _ _ Q I1 rr q1
def cX(K:EL)(n:Nat)(t:zy):TG:=λv M H Q=>∃a xs,v=.ref a/\SqT K H a xs/\`i=n/\t xs M H Q
theorem A4{es:List Expr}{k:Nat}{t:zy}{n:Nat}(hc:1 X.calm)(h:Bs X es t)
  (hn:(assignEach es X.env).length=n:=by rfl) (hst:(assignEach es X.env).findIdx? (·.1)=`c:=by rfl):PG X (.Tuple es k Z9) (cX X.K n t):=by
 intro Z_ s M H v u Q I r hw;obtain⟨a,xs,e1,hq,hl,hw⟩:=hw;subst e1;cases r;obtain⟨its,rv,ht,hz⟩:=I.tuple hq;refine assign_Tuple_tuple (I.ok.hd hc) ht (by simp[hn,<-hl,rv.length]) hst λh' hx=>?_;have I1:Inv X Z_ M H {s with heap:=h'}:=I.kept (t':=s.toks) λb o e=>hx b o (Fd<|EU e) e;exact h Z_ _ M H xs _ Q I1 (by simpa using rv) hw
def A5(to ti:TE)(t:A3):TG:=λv M H Q=>to M H λo H1=>ti M H1 λi H2=>t o i v H2 λH3=>Q M H3
theorem qf{o i:Expr}{to ti:TE}{t:A3}(ho:PE X o to)(hi:PE X i ti)(hs:Bt X t)
  (ha:∀v,assign (.Subscript o i Z9) X.env v=(do
   let ov <-holding [v] (26 o)
   let iv <-holding [v,ov] (26 i)
   standAt Z9
   holding [v,ov,iv] (setItem ov iv v)
   release [v,ov,iv] []):=by intro _;rfl):PG X (.Subscript o i Z9) (A5 to ti t):=by
 intro Z_ s M H v u Q I r h;rw[ha];refine EF (FY<|cx (ho Z_ s M H _ I h) λov s1 zz=>?_);obtain⟨x,H1,I1,r1,q1⟩:=zz;refine EF (FY<|cx (hi Z_ s1 M H1 _ I1 q1) λiv s2 zz=>?_);obtain⟨y,H2,I2,r2,q2⟩:=zz;refine EF (HH<|EF<|FY<|cx (hs Z_ s2 M H2 x y v ov iv u _ I2 r1 r2 r q2) λ_ s3 zz=>?_);obtain⟨H3,I3,q3⟩:=zz;exact wpAny_release ⟨M,H3,I3,q3⟩
def cE(te:TE)(g:TG):TS:=λD M H=>te M H λx H1=>g x M H1 D.nx
theorem eQ{tg e:Expr}{te:TE}{g:TG}(he:PE X e te)(hg:PG X tg g)(hs:swapsWithSole [tg] e Z9.line X.env=pure `g:=by rfl)(hw:swappedStores [tg] e X.env=pure `c:=by rfl)
  (h1:(assignEach [tg] X.env).map (·.2)=[assign tg X.env]:=by rfl):PS X (.Assign [tg] e Z9) (cE te g):=by
 intro Z_ s M H D I h;refine wpAny_Assign_stores (cx (he Z_ s M H _ I h) λv s1⟨x,H1,I1,r1,q1⟩=>?_) hs hw;rw[h1];exact cx (hg Z_ s1 M H1 x v _ I1 r1 q1) λ_ s2 q=>q
theorem A6{i:Nat}{x:Str}{e:Expr}{te:TE}{pos':Pos}(hN:X.N.Nodup)(hi:0 X.N[i]? x)(hx:zx X.env.scope x)(he:PE X e te)(hs:swapsWith e (some<|.Name x pos') Z9.line X.env=pure `g:=by rfl)(hf:1 (X.fn x)\/0 (X.env.scope.names.lookup x) .local:=by first|exact .inl rfl|exact .inr rfl|assumption):
  PS X (.Assign [.Name x pos'] e Z9) (cE te<|bt i):=by
 intro Z_ s M H D I h;refine wpAny_Assign_Name (cx (he Z_ s M H _ I h) λv s1⟨y,H1,I1,r1,q1⟩=>?_) hs;exact kO I1 hN hi hx r1 (λs2 I2=>⟨_,H1,I2,q1⟩) hf
def xH(i:Nat)(te:TE)(ti:Bu):TS:=λD M H=>∃x,0 M[i]? (some x)/\te M H λy H1=>ti x y H1 λz H2=>D.nx (M.set i<|some z) H2
theorem nh{i:Nat}{x:Str}{e:Expr}{te:TE}{op:OW}{ti:Bu}{pos':Pos}(hN:X.N.Nodup)(hi:0 X.N[i]? x)(hx:zx X.env.scope x)(he:PE X e te)(ho:Cj X op ti)(hf:1 (X.fn x)\/0 (X.env.scope.names.lookup x) .local:=by first|exact .inl rfl|exact .inr rfl|assumption):
  PS X (.AugAssign (.Name x pos') op e Z9) (xH i te ti):=by
 intro Z_ s M H D I h;obtain⟨v,e1,h⟩:=h;obtain⟨m,hn,hl⟩:=I.loc;have Bc:Vis X.env.scope x:=by rcases hx with k|k;exact .inl k;exact .inr (.inl k)
 obtain⟨u,r,l⟩:=hl i x v hi e1 Bc;refine wpAny_AugAssign_Name ?_;have go:21 `o X.w X.A (26 e) (λw s₂=>wpAny (model `o X.w) X.A (inplaceOp op u w) (λr s₃=>wpAny (model `o X.w) X.A (storeName X.env x r) (λ_=>SP X Z_ D .next) X.xe s₃) X.xe s₂) X.xe:=by
  refine cx (he Z_ s M H _ I h) λw s1 zz=>?_;obtain⟨y,H1,I1,r1,q1⟩:=zz;refine cx (ho Z_ s1 M H1 v y u w _ I1 r r1 q1) λz s2 zz=>?_;obtain⟨zv,H2,I2,r2,q2⟩:=zz;exact kO I2 hN hi hx r2 (λs3 I3=>⟨_,H2,I3,q2⟩) hf
 rcases l with⟨hk,hm⟩|⟨hk,c,hc,hcell⟩
 ·exact LO I.ok.kind hk hn hm go
 ·rcases hk with hk | hk;·exact M6 I.ok.kind hk hc hcell go
  ·rcases hx with k | k
   ·have:0 (X.env.scope.names.lookup x) .free:=hk;rw[k]at this;cases this
   ·have:0 (X.env.scope.names.lookup x) .free:=hk;rw[k]at this;cases this
def Ck(f:Int->Int->Int):Bu:=λx y H Q=>∃i j,x=.int i/\y=.int j/\Q (.int<|f i j) H
theorem uz:Cj X .Add (Ck λi j=>i+j):=by
 intro Z_ s M H x y v u Q I r1 r2 h;obtain⟨i,j,e1,e2,q⟩:=h;subst e1;subst e2;obtain⟨t,rfl⟩:=r1;obtain⟨t',rfl⟩:=r2;exact iadd_int ⟨.int _,H,I.tok _,⟨_,`a⟩,q⟩
theorem A7:Cj X .Sub (Ck λi j=>i-j):=by
 intro Z_ s M H x y v u Q I r1 r2 h;obtain⟨i,j,e1,e2,q⟩:=h;subst e1;subst e2;obtain⟨t,rfl⟩:=r1;obtain⟨t',rfl⟩:=r2;exact isub_int ⟨.int _,H,I.tok _,⟨_,`a⟩,q⟩
end
section
variable{X:Cx}{Z9:Pos}
def qg(c:TT)(tb:TS):TS:=λD M H=>∃W:Nat->St->Hp->Prop,(∃m,W m M H)/\∀m M H,W m M H->
 c M H λb H1=>if 1 b then ∃N:St->Hp->Prop,(∀σ' H',N σ' H'->∃m',m'<m/\W m' σ' H')/\tb {D with nx:=N,ct:=N,bk:=D.nx} M H1 else D.nx M H1
theorem oF{c:Expr}{body:List Stmt}{tc:TT}{tb:TS}(hp:PassesOwn (model `o X.w) X.A X.env X.xe)(hc:PT X c tc)(hb:PSs X body tb):PS X (.While c body [] Z9) (qg tc tb):=by
 intro Z_ s M H D I h;obtain⟨W,⟨m0,w0⟩,turn⟩:=h;refine wpAny_While (codeAny_whileLoop (λn s'=>∃σ' H',14 X σ' H' s'/\W n σ' H') ?_ m0 ⟨M,H,I,w0⟩);rintro n s1 ⟨σ1,H1,I1,w1⟩;refine HS hp (cx (hc Z_ s1 σ1 H1 _ I1<|turn n σ1 H1 w1) λb s2 zz=>?_);obtain⟨H2,I2,q2⟩:=zz;cases b with
 |true=>
  obtain⟨N,hN,q2⟩:=q2;rw[Z0 `a];refine HS hp (cx (hb Z_ s2 σ1 H2 _ I2 q2) λf s3 q3=>?_);cases f with
  |next=>
   obtain⟨σ3,H3,I3,n3⟩:=q3;obtain⟨m',hm,w3⟩:=hN σ3 H3 n3;exact⟨m',hm,σ3,H3,I3,w3⟩
  |cont=>
   obtain⟨σ3,H3,I3,n3⟩:=q3;obtain⟨m',hm,w3⟩:=hN σ3 H3 n3;exact⟨m',hm,σ3,H3,I3,w3⟩
  |brk=>exact q3
  |ret v=>exact q3
 |false=>
  rw[Z1 F8];exact JY ⟨σ1,H2,I2,q2⟩
end
structure It where
 go:8 Nat Hp
 yld:Nat->Hp->8 V Hp
 stop:8 Nat Hp
def FpOk(X:Cx)(Z_:7 Addr Obj)(H:Hp)(b:Addr):Prop:=
 H b=`c/\b≠X.env.locals/\b∉X.fs/\(b∈X.ex\/X.s₀.heap.objs.size<=b)/\(∀x c,43 x c->c≠b)/\∀p∈X.pn++Z_,p.1≠b
theorem Inv.fpOk{X:Cx}{Z_:7 Addr Obj}{M:St}{H H':Hp}{s:EN}{b:Addr}(I:14 X M H s)(hb:`P<=b)(hn:H' b=`c):FpOk X Z_ H' b:=by
 refine⟨hn,HU<|EZ I.lt hb,I.nofs hb,.inr<|Gy I.sz hb,λx c e z=>?_,λp hp z=>?_⟩
 ·obtain⟨v,q⟩:=I.cell x c e;exact absurd (EZ q.lt (by rw[z];exact hb)) (Gu _)
 ·exact absurd (EZ (EU (I.pin p hp).1) (by rw[z];exact hb)) (Gu _)
structure Turn(P:F6)(w:Fh)(K:EL)(tg:Expr)(J:It)(fp:List Addr)(it:Addr)(tn:8 Nat Heap):Prop where
 mem:it∈fp
 obj:∀i h,tn i h->∀b∈fp,∃o,34 b o/\∀v,o.data≠.cell v
 keep:∀i h h',tn i h->(∀b∈fp,∀o,34 b o->37 b o)->tn i h'
 item:∀(X:Cx),`o=P->X.w=w->X.K=K->1 X.calm->∀(i:Nat)(Z_:List (Addr×Obj))(s:EN)(M:St)(H:Hp)(E:EM->EN->Prop),14 X M H s->(∀b∈fp,FpOk X Z_ H b)->tn i `p->J.go i H->21 P w X.A (pyNext<|.ref it) (λr s1=>∃u,0 r u/\wpAny (model P w) X.A (letOwnedTupleGo tg (.ref it) u) (λ_ s2=>∃x H',14 X M H' s2/\RelV x u/\J.yld i H x H'/\tn (i+1) s2.heap/\∀b∈fp,H' b=`c) E s1) E
 done:∀(X:Cx),`o=P->X.w=w->X.K=K->1 X.calm->∀(i:Nat)(Z_:List (Addr×Obj))(s:EN)(M:St)(H:Hp)(E:EM->EN->Prop),14 X M H s->(∀b∈fp,FpOk X Z_ H b)->tn i `p->J.stop i H->21 P w X.A (pyNext<|.ref it) (λr s1=>r=`c/\14 X M H s1) E
 self:∀(A:FR)(i:Nat)(s:EN)(Q:EM->EN->Prop)(E:EM->EN->Prop),tn i `p->Q (.ref it) s->21 P w A (pyIter<|.ref it) Q E
abbrev TI:=St->Hp->8 It Hp->Prop
def Dr(X:Cx)(Z_:7 Addr Obj)(M:St)(tg:Expr)(R:8 It Hp)(itv:EM)(s2:EN):Prop:=
 ∃(it:Addr)(fp:List Addr)(tn:Nat->Heap->Prop)(J:It)(H':Hp),itv=.ref it/\14 X M H' s2/\Turn `o X.w X.K tg J fp it tn/\tn 0 s2.heap/\(∀b∈fp,FpOk X Z_ H' b)/\R J H'
def PI(X:Cx)(tg iter:Expr)(wi:TI):Prop:=
 ∀(Z_:List (Addr×Obj))(s:EN)(M:St)(H:Hp)(R:It->Hp->Prop),14 X M H s->wi M H R->21 `o X.w X.A (26 iter) (λv s1=>wpAny (model `o X.w) X.A (pyIter v) (Dr X Z_ M tg R) X.xe s1) X.xe
theorem oG{ZZ:Py}{A:FR}{E:8 EM EN}{s:EN}{tg:Expr}{it:Addr}{u:EM}{o:Obj}{n:String}{vs:Array EM}{Q:8 Unit EN}(ho:23 it o)(hc:o.cls=.type n)(hd:o.data=.fields vs)
    (hn:["enumerate","zip","dict_itemiterator","dict_reverseitemiterator","odict_iterator","itertools.zip_longest","itertools.pairwise"].contains n=`g) (hQ:Q () s):wpAny ZZ A (letOwnedTupleGo tg (.ref it) u) Q E s:=by
  unfold letOwnedTupleGo
  cases tg<;>first
    |exact EK hQ
    |(cases u<;>first
        |exact EK hQ
        | (refine EF (wpAny_load ho ?_)
           rw[hc,hd];show wpAny ZZ A (if 1 (["enumerate","zip","dict_itemiterator","dict_reverseitemiterator","odict_iterator","itertools.zip_longest","itertools.pairwise"].contains n&&vs[0]? ==some (rawInt _)) then _ else _) Q E s;rw[Z1 (by intro h;rw[hn,Ki]at h;cases h)];exact EK hQ))
def DA(K:EL)(a:Addr):It:=
 ⟨λi H=>∃xs x,SqL K H a xs/\0 xs[i]? x,λi H x H'=>H'=H/\∀xs,SqL K H a xs->0 xs[i]? x,λi H=>∃xs,SqL K H a xs/\`i<=i⟩
def Cm(lo:Int)(n:Nat):It:=⟨λi _=>i<n,λi H x H'=>H'=H/\x=.int (lo+i),λi _=>n<=i⟩
theorem sJ{P:F6}{w:Fh}{K:EL}{tg:Expr}(a it:Addr):Turn P w K tg (DA K a) [it] it (λi h=>h.IsListIter it a i) where
 mem:=`f
 obj:=λi h st b hb=>by
  have e:b=it:=by simpa using hb
  subst e;obtain⟨o,e,c,d⟩:=st;exact⟨o,e,λv z=>by rw[d]at z;cases z⟩
 keep:=λi h h' st k=>st.at λo e=>k it `f o e
 item:=by
  intro X hP hw hK hc i Z_ s M H E I hf st hg;subst hP hw hK;obtain⟨xs,x,hq,hx⟩:=hg;obtain⟨its,rv,p,hz⟩:=I.list hq;obtain⟨u,hu,ru⟩:=rv.get hx;obtain⟨f0,f1,f2,f3,f4,f5⟩:=hf it `f;refine wpAny_pyNext_list_item st p.isList (x:=u) (by simpa using hu) λh' st' sb=>?_;have I1:Inv X Z_ M H {s with heap:=h'}:=I.turned (t':=s.toks) (λb o hb e=>(sb.2 b hb).trans e) f0 f1 f3 f4 f5;obtain⟨o,e,c,d⟩:=id st';exact⟨u,`a,oG (s:={s with heap:=h'}) e c d ⋯ ⟨x,H,I1,ru,⟨`a,λys hy=>by rw[I.list_inj hy hq];exact hx⟩,st',λb hb=>(hf b hb).1⟩⟩
 done:=by
  intro X hP hw hK hc i Z_ s M H E I hf st hg;subst hP hw hK;obtain⟨xs,hq,hx⟩:=hg;obtain⟨its,rv,p,hz⟩:=I.list hq;obtain⟨f0,f1,f2,f3,f4,f5⟩:=hf it `f;have hl:=rv.length;exact wpAny_pyNext_list_end (I.ok.hd hc) st p.isList (by simp;omega) λh' eb=>⟨`a,I.turned (t':=s.toks) (λb o hb e=>eb b o hb e) f0 f1 f3 f4 f5⟩
 self:=λ_ _ _ _ _ st h=>wpAny_pyIter_listiter st h
theorem qh{P:F6}{w:Fh}{K:EL}{tg:Expr}(it:Addr)(lo:Int)(n:Nat):Turn P w K tg (Cm lo n) [it] it (λi h=>LP h it (lo+(i:Nat)*1) ((n:Int)-(i:Nat)) 1) where
 mem:=`f
 obj:=λi h st b hb=>by
  have e:b=it:=by simpa using hb
  subst e;exact 9 st λv z=>by
   have z':JN _=IG v:=z;cases z'
 keep:=λi h h' st k=>k it `f _ st
 item:=by
  intro X hP hw hK hc i Z_ s M H E I hf st hg;subst hP hw hK;obtain⟨f0,f1,f2,f3,f4,f5⟩:=hf it `f;have W:=Walks.range (prog:=X.prog) (w:=X.w) (I.ok.hd hc) it lo 1 n;refine W.item i s _ _ hg st λv h' tk hv st' kk=>?_;obtain⟨t,rfl⟩:=hv;have I1:Inv X Z_ M H {s with heap:=h',toks:=tk}:=I.turned (λb o hb e=>kk b o (by simpa using hb) e) f0 f1 f3 f4 f5;refine 9 `a (oG (s:={s with heap:=h',toks:=tk}) (n:="range_iterator") st' `a `a ⋯ ⟨.int<|lo+i,H,I1,⟨t,?_⟩,⟨`a,`a⟩,st',λb hb=>(hf b hb).1⟩);rw[Int.mul_one]
 done:=by
  intro X hP hw hK hc i Z_ s M H E I hf st hg;subst hP hw hK;obtain⟨f0,f1,f2,f3,f4,f5⟩:=hf it `f;exact Le (I.ok.hd hc) st (by have:n<=i:=hg;omega) λh' eb=>⟨`a,I.turned (t':=s.toks) (λb o hb e=>eb b o hb e) f0 f1 f3 f4 f5⟩
 self:=λ_ _ _ _ _ st h=>Jr st h
section
variable{X:Cx}{tg:Expr}
def uA(K:EL)(tl:TE):TI:=λM H R=>tl M H λx H1=>∃a,x=.ref a/\(∃xs,SqL K H1 a xs)/\R (DA K a) H1
theorem xI{l:Expr}{tl:TE}(hl:PE X l tl):PI X tg l (uA X.K tl):=by
 intro Z_ s M H R I h;refine cx (hl Z_ s M H _ I h) λv s1 zz=>?_;obtain⟨x,H1,I1,r1,q1⟩:=zz;obtain⟨a,e,⟨xs,hq⟩,q⟩:=q1;subst e;cases r1;obtain⟨its,rv,p,hz⟩:=I1.list hq;refine Js p.isList ?_;refine⟨`U,[s1.heap.objs.size],_,_,H1,`a,I1.kept (t':=s1.toks) λb o e=>EI _ e,sJ a _,⟨_,ES _ `a,`a,`a⟩,λb hb=>?_,q⟩;have e:b=`U:=by simpa using hb
 subst e;exact I1.fpOk (EX _) (I1.hok.fresh<|EX _)
theorem oH{Z_:7 Addr Obj}{M:St}{H:Hp}{s:EN}{R:8 It Hp}{E:8 EM EN}{lo hi:Int}{t u v:Tok}{tk:Nat}(I:14 X M H s)(h1: -(2^62)<=lo)(h2:lo<2^62)(h3: -(2^62)<=hi)(h4:hi<2^62)
  (q:R (Cm lo (hi-lo).toNat) H):wpAny (model `o X.w) X.A (pyIter `X) (Dr X Z_ M tg R) E {s with heap:=s.heap.push {cls:=.type "range",data:=.fields #[.int lo t,.int hi u,.int 1 v]},toks:=tk}:=by
 refine wpAny_pyIter_range (OX ..) (small_one h1 h2 h3 h4) ?_;have I1:Inv X Z_ M H {s with heap:=s.heap.push {cls:=.type "range",data:=.fields #[.int lo t,.int hi u,.int 1 v]},toks:=tk}:=I.kept λb o e=>EI _ e;refine⟨(s.heap.push {cls:=.type "range",data:=.fields #[.int lo t,.int hi u,.int 1 v]}).objs.size,[(s.heap.push {cls:=.type "range",data:=.fields #[.int lo t,.int hi u,.int 1 v]}).objs.size],_,_,H,`a,I1.kept (t':=tk) λb o e=>EI _ e,qh _ lo (hi-lo).toNat,?_,λb hb=>?_,q⟩
 ·have e1:lo+((0:Nat):Int)*1=lo:=`f
  have e2:(((hi-lo).toNat:Nat):Int)-((0:Nat):Int)=Gn lo hi 1:=by rw[rangeSize_one];split<;>omega
  show LP _ _ (lo+((0:Nat):Int)*1) ((((hi-lo).toNat:Nat):Int)-((0:Nat):Int)) 1;rw[e1,e2];exact ES _ `a
 ·have e:b=(s.heap.push {cls:=.type "range",data:=.fields #[.int lo t,.int hi u,.int 1 v]}).objs.size:=by simpa using hb
  subst e;exact I1.fpOk (EX _) (I1.hok.fresh<|EX _)
def zz(ta:TA):TI:=λM H R=>ta M H λvs H1=>∃j:Int,vs=[.int j]/\ -(2^62)<=j/\j<2^62/\R (Cm 0 j.toNat) H1
def zA(ta:TA):TI:=λM H R=>ta M H λvs H1=>∃i j:Int,vs=[.int i,.int j]/\(-(2^62)<=i/\i<2^62/\ -(2^62)<=j/\j<2^62)/\R (Cm i (j-i).toNat) H1
theorem fJ{a:Expr}{ta:TA}{p Z9:Pos}(hg:Gl X "range")(hm:X.mg "range"=`c)(ha:PA X [a] ta)(hs:32 [a]=[(false,26 a)]:=by rfl):PI X tg (.Call (.Name "range" p) [a] [] Z9) (zz ta):=by
 intro Z_ s M H R I h;refine OB (gk I hg hm Ny<|G5 (cx (ha Z9 Z_ s M H _ I h) λus s1⟨vs,H1,I1,r1,q1⟩=>?_) hs `a);obtain⟨j,e,q1,q2,q⟩:=q1;subst e;cases r1 with
 |cons r rr=>
  cases rr;obtain⟨t,rfl⟩:=r;exact call_range_1 (oH I1 `b `b q1 q2<|by simpa using q)
theorem sL{a b:Expr}{ta:TA}{p Z9:Pos}(hg:Gl X "range")(hm:X.mg "range"=`c)(ha:PA X [a,b] ta)(hs:32 [a,b]=[(false,26 a),(false,26 b)]:=by rfl)(hs2:32 [b]=[(false,26 b)]:=by rfl):
  PI X tg (.Call (.Name "range" p) [a,b] [] Z9) (zA ta):=by
 intro Z_ s M H R I h;refine OB (gk I hg hm Ny (G5 (cx (ha Z9 Z_ s M H _ I h) λus s1⟨vs,H1,I1,r1,q1⟩=>?_) (by rw[hs,hs2]) (by rw[hs2];rfl)));obtain⟨i,j,e,⟨q1,q2,q3,q4⟩,q⟩:=q1;subst e;cases r1 with
 |cons r rr=>
  cases rr with
  |cons r' rr=>
   cases rr;obtain⟨t,rfl⟩:=r;obtain⟨t',rfl⟩:=r';exact call_range_2 (oH I1 q1 q2 q3 q4 q)
def uB(wi:TI)(g:TG)(tb:TS):TS:=λD M H=>wi M H λJ H1=>∃W:Nat->Nat->St->Hp->Prop,(∃m,W 0 m M H1)/\∀i m M H,W i m M H->J.stop i H/\D.nx M H\/(J.go i H/\∃N:St->Hp->Prop,(∀σ' H',N σ' H'->∃m',m'<m/\W (i+1) m' σ' H')/\∀x H',J.yld i H x H'->g x M H' λσ2 H2=>tb {D with nx:=N,ct:=N,bk:=D.nx} σ2 H2)
def jD(fp:List Addr)(h:Heap):7 Addr Obj:=fp.filterMap λb=>(h.get? b).map λo=>(b,o)
theorem fP{fp:List Addr}{h:Heap}{b:Addr}{o:Obj}(hb:b∈fp)(e:34 b o):(b,o)∈jD fp h:=Jh.mpr ⟨b,hb,by rw[e];rfl⟩
theorem sM{fp:List Addr}{h:Heap}{p:Addr×Obj}(hp:p∈jD fp h):p.1∈fp/\34 p.1 p.2:=by
 obtain⟨b,hb,e⟩:=Jh.mp hp;cases q:h.get? b with
 |none=>rw[q]at e;cases e
 |some o=>
  rw[q]at e;have e':(b,o)=p:=Ft e;subst e';exact⟨hb,q⟩
theorem Inv.pinned{Z_:7 Addr Obj}{M:St}{H:Hp}{s:EN}{fp:List Addr}(I:14 X M H s)(hf:∀b∈fp,FpOk X Z_ H b)(ho:∀b∈fp,∃o,23 b o/\∀v,o.data≠.cell v):Inv X (Z_++jD fp `p) M H s:=
 I.pins_of λp hp=>(FX.mp hp).elim (λz=>I.pin p<|Fx _ z) λz=>by
  obtain⟨hb,e⟩:=sM z;obtain⟨f0,f1,f2,_⟩:=hf p.1 hb;obtain⟨o,e',d⟩:=ho p.1 hb;rw[e]at e';cases e';exact⟨e,f0,f1,f2,d⟩
theorem Inv.unpinned{Z_ pl:7 Addr Obj}{M:St}{H:Hp}{s:EN}(I:Inv X (Z_++pl) M H s):14 X M H s:=I.pins_of λp hp=>I.pin p (Fx _<|JM _ hp)
theorem bV{iter:Expr}{body:List Stmt}{wi:TI}{g:TG}{tb:TS}{Z9:Pos}(hp:PassesOwn (model `o X.w) X.A X.env X.xe)(hc:1 X.calm)(hi:PI X tg iter wi)(hg:PG X tg g)(hb:PSs X body tb)
  (hs:∀x,foldedSetIterable iter X.env x=pure x:=by intro _;rfl):PS X (.For tg iter body [] Z9) (uB wi g tb):=by
 intro Z_ s M H D I h;refine wpAny_For (cx (hi Z_ s M H _ I h) λv s1 h1=>cx h1 λitv s2 h2=>?_) hs;obtain⟨it,fp,tn,J,H2,e,I2,T,st2,f2,W,⟨m0,w0⟩,turn⟩:=h2;subst e;have stat:∀{H':Hp},(∀b∈fp,H' b=`c)->∀b∈fp,FpOk X Z_ H' b:=λhn b hb=>⟨hn b hb,(f2 b hb).2⟩
 refine codeAny_forLoop_any (λn s'=>∃i σ' H',14 X σ' H' s'/\tn i s'.heap/\(∀b∈fp,H' b=`c)/\W i n σ' H') ?_ m0 ⟨0,M,H2,I2,st2,λb hb=>(f2 b hb).1,w0⟩;rintro n s3 ⟨i,σ3,H3,I3,st3,fr3,w3⟩;rcases turn i n σ3 H3 w3 with⟨stop,qn⟩|⟨go,N,hN,step⟩
 ·refine HS hp (cx (T.done X `a `a `a hc i Z_ s3 σ3 H3 X.xe I3 (stat fr3) st3 stop) λr s4 zz=>?_);obtain⟨hr,I4⟩:=zz;subst hr;exact JY ⟨σ3,H3,I4,qn⟩
 ·refine HS hp (cx (T.item X `a `a `a hc i Z_ s3 σ3 H3 X.xe I3 (stat fr3) st3 go) λr s4 zz=>?_);obtain⟨u,hr,h4⟩:=zz;subst hr;refine HS hp (cx h4 λ_ s5 zz=>?_);obtain⟨x,H5,I5,r5,y5,st5,fr5⟩:=zz;have I5':=I5.pinned (stat fr5) (T.obj _ _ st5);refine HS hp (cx (hg _ s5 σ3 H5 x u _ I5' r5<|step x H5 y5) λ_ s6 zz=>?_);obtain⟨σ6,H6,I6,q6⟩:=zz;refine HS hp (cx (hb _ s6 σ6 H6 _ I6 q6) λf s7 q7=>?_);have again:∀{σ7:St}{H7:Hp},Inv X (Z_++jD fp s5.heap) σ7 H7 s7->N σ7 H7->∃m,m<n/\∃i σ' H',14 X σ' H' s7/\tn i s7.heap/\(∀b∈fp,H' b=`c)/\W i m σ' H':=λ{σ7 H7}I7 n7=>by
   obtain⟨m',hm,w7⟩:=hN σ7 H7 n7;refine⟨m',hm,i+1,σ7,H7,I7.unpinned,T.keep _ _ _ st5 λb hb o e=>(I7.pin (b,o)<|Fx _<|Fx _<|fP hb e).1,λb hb=>?_,w7⟩;obtain⟨o,e,d⟩:=T.obj _ _ st5 b hb;exact(I7.pin (b,o)<|Fx _<|Fx _<|fP hb e).2.1
  cases f with
  |next=>obtain⟨σ7,H7,I7,n7⟩:=q7;exact again I7 n7
  |cont=>obtain⟨σ7,H7,I7,n7⟩:=q7;exact again I7 n7
  |brk=>obtain⟨σ7,H7,I7,q7⟩:=q7;exact⟨σ7,H7,I7.unpinned,q7⟩
  |ret v=>obtain⟨x7,σ7,H7,I7,r7,q7⟩:=q7;exact⟨x7,σ7,H7,I7.unpinned,r7,q7⟩
end
abbrev R2:=V->V->8 Hp VK
def OpR(X:Cx)(f:EM->EM->Sem EM)(r:R2):Prop:=
 ∀(Z_:List (Addr×Obj))(s:EN)(M:St)(H:Hp)(x y:V)(v u:EM)(Q:VK),14 X M H s->RelV x v->RelV y u->r x y H Q->21 `o X.w X.A (f v u) (EP X Z_ M Q) X.xe
def Ds(X:Cx)(f:EM->Sem EM)(r:V->Hp->VK->Prop):Prop:=
 ∀(Z_:List (Addr×Obj))(s:EN)(M:St)(H:Hp)(x:V)(v:EM)(Q:VK),14 X M H s->RelV x v->r x H Q->21 `o X.w X.A (f v) (EP X Z_ M Q) X.xe
def ee(X:Cx)(f:EM)(r:`u->Hp->VK->Prop):Prop:=
 ∀(Z_:List (Addr×Obj))(s:EN)(M:St)(H:Hp)(xs:List V)(us:List EM)(Q:VK),14 X M H s->Vals xs us->r xs H Q->21 `o X.w X.A (call f us) (EP X Z_ M Q) X.xe
def dO(r:R2)(ta tb:TE):TE:=λM H Q=>ta M H λx H1=>tb M H1 λy H2=>r x y H2 Q
def gG(r:V->Hp->VK->Prop)(ta:TE):TE:=λM H Q=>ta M H λx H1=>r x H1 Q
def rI(C:8 Int Int)(g:Int->Int->V):R2:=λx y H Q=>∃i j,x=.int i/\y=.int j/\C i j/\Q (g i j) H
def gb(g:Int->Int->V):R2:=λx y H Q=>∃i j,x=.int i/\y=.int j/\Q (g i j) H
def rU(g:Int->V):V->Hp->VK->Prop:=λx H Q=>∃i,x=.int i/\Q (g i) H
section
variable{X:Cx}{a b c:Expr}{ta tb tc:TE}{Z9:Pos}
theorem A8(ha:PE X a ta)(hb:PE X b tb){Z_:7 Addr Obj}{s:EN}{M:St}{H:Hp}{R:V->V->Hp->Prop}(I:14 X M H s)
  (h:ta M H λx H1=>tb M H1 λy H2=>R x y H2) {Q:8 EM EN} {f:EM->EM->Sem EM}
  (hf:∀v u s2 x y H2,14 X M H2 s2->RelV x v->RelV y u->R x y H2->wpAny (model `o X.w) X.A (f v u) Q X.xe s2):
  21 `o X.w X.A (26 a) (λv s₁=>wpAny (model `o X.w) X.A (26 b) (λu s₂=>wpAny (model `o X.w) X.A (f v u) Q X.xe s₂) X.xe s₁) X.xe:=by
 refine cx (ha Z_ s M H _ I h) λv s1 zz=>?_;obtain⟨x,H1,I1,r1,q1⟩:=zz;refine cx (hb Z_ s1 M H1 _ I1 q1) λu s2 zz=>?_;obtain⟨y,H2,I2,r2,q2⟩:=zz;exact hf v u s2 x y H2 I2 r1 r2 q2
theorem ai{op:OW}{r:R2}(ho:OpR X (binaryOp op) r)(ha:PE X a ta)(hb:PE X b tb):PE X (.BinOp a op b Z9) (dO r ta tb):=by
 intro Z_ s M H Q I h;exact wpAny_BinOp (A8 ha hb I h λv u s2 x y H2 I2 rx ry q=>ho Z_ s2 M H2 x y v u Q I2 rx ry q)
theorem hX{op:UnaryOp}{r:V->Hp->VK->Prop}(ho:Ds X (unaryOp op) r)(ha:PE X a ta):PE X (.UnaryOp op a Z9) (gG r ta):=by
 intro Z_ s M H Q I h;refine UnaryOp_ (cx (ha Z_ s M H _ I h) λv s1 zz=>?_);obtain⟨x,H1,I1,r1,q1⟩:=zz;exact ho Z_ s1 M H1 x v Q I1 r1 q1
theorem Cn{f:EM->EM->Sem EM}{C:8 Int Int}{g:Int->Int->Int}
  (rule:∀(i j:Int)(t u:Tok)(s:EN)(Q:8 EM EN)(E:8 EM EN),C i j->Q (.int (g i j) s.toks) {s with toks:=s.toks+1}->wpAny (model `o X.w) X.A (f (.int i t)<|.int j u) Q E s):
  OpR X f (rI C λi j=>.int<|g i j):=by
 intro Z_ s M H x y v u Q I rx ry h;obtain⟨i,j,rfl,rfl,hc,q⟩:=h;obtain⟨t,rfl⟩:=rx;obtain⟨t',rfl⟩:=ry;exact rule i j t t' s _ _ hc ⟨.int<|g i j,H,I.tok _,⟨_,`a⟩,q⟩
theorem Bv{f:EM->EM->Sem EM}{g:Int->Int->Int}
  (rule:∀(i j:Int)(t u:Tok)(s:EN)(Q:8 EM EN)(E:8 EM EN),Q (.int (g i j) s.toks) {s with toks:=s.toks+1}->wpAny (model `o X.w) X.A (f (.int i t)<|.int j u) Q E s):
  OpR X f (gb λi j=>.int<|g i j):=by
 intro Z_ s M H x y v u Q I rx ry h;obtain⟨i,j,rfl,rfl,q⟩:=h;obtain⟨t,rfl⟩:=rx;obtain⟨t',rfl⟩:=ry;exact rule i j t t' s _ _ ⟨.int<|g i j,H,I.tok _,⟨_,`a⟩,q⟩
theorem xJ{f:EM->EM->Sem EM}{g:Int->Int->Bool}
  (rule:∀(i j:Int)(t u:Tok)(s:EN)(Q:EM->EN->Prop)(E:EM->EN->Prop),Q (.bool<|g i j) s->21 `o X.w X.A (f (.int i t)<|.int j u) Q E):
  OpR X f (gb λi j=>.bl<|g i j):=by
 intro Z_ s M H x y v u Q I rx ry h;obtain⟨i,j,rfl,rfl,q⟩:=h;obtain⟨t,rfl⟩:=rx;obtain⟨t',rfl⟩:=ry;exact rule i j t t' s _ _ ⟨.bl<|g i j,H,I,`a,q⟩
def Bw(i j:Int):Prop:=0<j/\j<1073741824
def By(i j:Int):Prop:=0<=j/\j<=1000000/\i.natAbs<2^64
def CMul(i j:Int):Prop:=(-(2^64)<i/\i<2^64)\/(-(2^64)<j/\j<2^64)
theorem CMul.ok{i j:Int}(h:CMul i j):IntMulOk i j:=by
 rcases h with⟨h1,h2⟩|⟨h1,h2⟩
 ·exact .of_left (O9 h1 h2)
 ·exact .of_right (O9 h1 h2)
theorem aZ:OpR X (binaryOp .Add) (gb λi j=>.int<|i+j):=Bv λ_ _ _ _ _ _ _ q=>add_int q
theorem dW:OpR X (binaryOp .Sub) (gb λi j=>.int<|i-j):=Bv λ_ _ _ _ _ _ _ q=>sub_int q
theorem fQ:OpR X (binaryOp .Mult) (rI CMul λi j=>.int<|i*j):=Cn λ_ _ _ _ _ _ _ hc q=>mul_int q hc.ok
theorem aV:OpR X (binaryOp .FloorDiv) (rI Bw λi j=>.int<|i/j):=Cn λi j _ _ _ _ _ hc q=>by
 have h1:(0:Int)<j:=hc.1;have h2:j<1073741824:=hc.2;exact floordiv_int `b (by rw[Int.fdiv_eq_ediv_of_nonneg i `b];exact q) (.inl<|PyProof.noPylong_small `b)
theorem ay:OpR X (binaryOp .Mod) (rI (λ_ j=>0<j) λi j=>.int<|i%j):=Cn λi j _ _ _ _ _ hc q=>by
 have h1:(0:Int)<j:=hc;exact mod_int' `b (by rw[Int.fmod_eq_emod_of_nonneg i `b];exact q)
theorem ni:OpR X (binaryOp .Pow) (rI By λi j=>.int<|i^j.toNat):=Cn λ_ _ _ _ _ _ _ hc q=>pow_int_small hc.1 hc.2.1 hc.2.2 q
theorem DK{f:EM->Sem EM}{g:Int->Int}
  (rule:∀(i:Int)(t:Tok)(s:EN)(Q:8 EM EN)(E:8 EM EN),Q (.int (g i) s.toks) {s with toks:=s.toks+1}->wpAny (model `o X.w) X.A (f<|.int i t) Q E s):
  Ds X f (rU λi=>.int<|g i):=by
 intro Z_ s M H x v Q I rx h;obtain⟨i,rfl,q⟩:=h;obtain⟨t,rfl⟩:=rx;exact rule i t s _ _ ⟨.int<|g i,H,I.tok _,⟨_,`a⟩,q⟩
theorem fR:Ds X (unaryOp .USub) (rU λi=>.int<|-i):=DK λ_ _ _ _ _ q=>neg_int q
end
def dz:V->V->Bool
 | .non,.non=>true| .non,.int _=>true| .int _,.non=>true| .non,.bl _=>true| .bl _,.non=>true| .non,.str _=>true| .str _,.non=>true
 | .int _,.int _=>true| .bl _,.bl _=>true| .str _,.str _=>true| .byt _,.byt _=>true
 | .int _,.str _=>true| .str _,.int _=>true| .bl _,.str _=>true| .str _,.bl _=>true
 |_,_=>false
def gS:R2:=λx y H Q=>1 (dz x y)/\Q (.bl<|decide<|x=y) H
def gT:R2:=λx y H Q=>1 (dz x y)/\Q (.bl<|!decide (x=y)) H
theorem rh{i j:Int}:decide (V.int i=V.int j)=(i==j):=by
 rw[Ga];simp
theorem uC{i j:Bool}:decide (V.bl i=V.bl j)=(i==j):=by
 rw[Ga];simp
theorem rj{i j:Str}:decide (V.str i=V.str j)=(i==j):=by
 rw[Ga];simp
theorem rk{i j:Array UInt8}:decide (V.byt i=V.byt j)=(i.toList==j.toList):=by
 rw[Ga];cases i;cases j;simp
section
variable{X:Cx}{a b c:Expr}{ta tb tc:TE}{Z9:Pos}
theorem bh{Z_:7 Addr Obj}{M:St}{H:Hp}{s:EN}{Q:VK}{k k':Bool}(I:14 X M H s)(q:Q (.bl k) H)(e:k=k'):EP X Z_ M Q (.bool k') s:=by
 subst e;exact⟨.bl k,H,I,`a,q⟩
theorem bz:OpR X (compareOp .Eq) gS:=by
 intro Z_ s M H x y v u Q I rx ry h;obtain⟨hs,q⟩:=h;cases x with
 |non=>
  cases rx;cases y with
  |non=>cases ry;exact NQ (bh I q `f)
  |bl j=>cases ry;exact NR (bh I q `f)
  |int j=>obtain⟨t',rfl⟩:=ry;exact Oa (bh I q `f)
  |str j=>obtain⟨t',rfl⟩:=ry;exact Ob (bh I q `f)
  |_=>exact absurd (show 1 `g from hs) F8
 |bl i=>
  cases rx;cases y with
  |non=>cases ry;exact NS (bh I q `f)
  |bl j=>cases ry;exact eq_bool (bh I q uC)
  |str j=>obtain⟨t',rfl⟩:=ry;exact NT (bh I q `f)
  |_=>exact absurd (show 1 `g from hs) F8
 |int i=>
  obtain⟨t,rfl⟩:=rx;cases y with
  |non=>cases ry;exact Od (bh I q `f)
  |int j=>obtain⟨t',rfl⟩:=ry;exact eq_int (bh I q rh)
  |str j=>obtain⟨t',rfl⟩:=ry;exact Oe (bh I q `f)
  |_=>exact absurd (show 1 `g from hs) F8
 |str i=>
  obtain⟨t,rfl⟩:=rx;cases y with
  |non=>cases ry;exact Of (bh I q `f)
  |bl j=>cases ry;exact NU (bh I q `f)
  |int j=>obtain⟨t',rfl⟩:=ry;exact Og (bh I q `f)
  |str j=>obtain⟨t',rfl⟩:=ry;exact eq_str (bh I q rj)
  |_=>exact absurd (show 1 `g from hs) F8
 |byt i=>
  obtain⟨t,rfl⟩:=rx;cases y with
  |byt j=>obtain⟨t',rfl⟩:=ry;exact PySem.W.eq_bytes (bh I q rk)
  |_=>exact absurd (show 1 `g from hs) F8
 |_=>cases y<;>exact absurd (show 1 `g from hs) F8
theorem je:OpR X (compareOp .NotEq) gT:=by
 intro Z_ s M H x y v u Q I rx ry h;obtain⟨hs,q⟩:=h;cases x with
 |non=>
  cases rx;cases y with
  |non=>cases ry;exact NV (bh I q `f)
  |bl j=>cases ry;exact NW (bh I q `f)
  |int j=>obtain⟨t',rfl⟩:=ry;exact Oh (bh I q `f)
  |str j=>obtain⟨t',rfl⟩:=ry;exact Oi (bh I q `f)
  |_=>exact absurd (show 1 `g from hs) F8
 |bl i=>
  cases rx;cases y with
  |non=>cases ry;exact NX (bh I q `f)
  |bl j=>cases ry;exact ne_bool (bh I q<|congrArg not uC)
  |str j=>obtain⟨t',rfl⟩:=ry;exact NY (bh I q `f)
  |_=>exact absurd (show 1 `g from hs) F8
 |int i=>
  obtain⟨t,rfl⟩:=rx;cases y with
  |non=>cases ry;exact Oj (bh I q `f)
  |int j=>obtain⟨t',rfl⟩:=ry;exact ne_int (bh I q<|congrArg not rh)
  |str j=>obtain⟨t',rfl⟩:=ry;exact Ol (bh I q `f)
  |_=>exact absurd (show 1 `g from hs) F8
 |str i=>
  obtain⟨t,rfl⟩:=rx;cases y with
  |non=>cases ry;exact Om (bh I q `f)
  |bl j=>cases ry;exact NZ (bh I q `f)
  |int j=>obtain⟨t',rfl⟩:=ry;exact Oo (bh I q `f)
  |str j=>obtain⟨t',rfl⟩:=ry;exact ne_str (bh I q<|congrArg not rj)
  |_=>exact absurd (show 1 `g from hs) F8
 |byt i=>
  obtain⟨t,rfl⟩:=rx;cases y with
  |byt j=>obtain⟨t',rfl⟩:=ry;exact PySem.W.ne_bytes (bh I q<|congrArg not rk)
  |_=>exact absurd (show 1 `g from hs) F8
 |_=>cases y<;>exact absurd (show 1 `g from hs) F8
theorem mq:OpR X (compareOp .Lt) (gb λi j=>.bl<|decide<|i<j):=xJ λ_ _ _ _ _ _ _ q=>lt_int q
theorem rl:OpR X (compareOp .LtE) (gb λi j=>.bl<|decide<|i<=j):=xJ λ_ _ _ _ _ _ _ q=>le_int q
theorem gU:OpR X (compareOp .Gt) (gb λi j=>.bl<|decide<|j<i):=xJ λ_ _ _ _ _ _ _ q=>gt_int q
theorem oI:OpR X (compareOp .GtE) (gb λi j=>.bl<|decide<|j<=i):=xJ λ_ _ _ _ _ _ _ q=>ge_int q
theorem sN:OpR X (compareOp .In) (λx y H Q=>∃i j,x=.str i/\y=.str j/\Q (.bl<|!(Jm j i 0 j.length 1).isEmpty) H):=by
 intro Z_ s M H x y v u Q I rx ry h;obtain⟨i,j,rfl,rfl,q⟩:=h;obtain⟨t,rfl⟩:=rx;obtain⟨t',rfl⟩:=ry;exact in_str (bh I q `a)
theorem op_isN:OpR X (compareOp .Is) (λx y H Q=>y=.non/\Q (.bl<|decide<|x=.non) H):=by
 intro Z_ s M H x y v u Q I rx ry h;obtain⟨rfl,q⟩:=h;cases ry;refine is_none_gen (bh I q ?_)
 cases x<;>first
  |(cases rx;rfl)
  |(obtain⟨t,rfl⟩:=rx;rfl)
theorem rm:OpR X (compareOp .IsNot) (λx y H Q=>y=.non/\Q (.bl<|!decide (x=.non)) H):=by
 intro Z_ s M H x y v u Q I rx ry h;obtain⟨rfl,q⟩:=h;cases ry;refine isnot_none_gen (bh I q ?_)
 cases x<;>first
  |(cases rx;rfl)
  |(obtain⟨t,rfl⟩:=rx;rfl)
theorem OpR.or{f:EM->EM->Sem EM}{r r':R2}(h:OpR X f r)(h':OpR X f r'):OpR X f (λx y H Q=>r x y H Q\/r' x y H Q):=by
 intro Z_ s M H x y v u Q I rx ry q;rcases q with q|q
 ·exact h Z_ s M H x y v u Q I rx ry q
 ·exact h' Z_ s M H x y v u Q I rx ry q
theorem ar(b:Expr){op:CmpOp}(h:op≠.In:=by decide)(h2:op≠.NotIn:=by decide):behindInMarks op b=`g:=by
 have e1:(op==CmpOp.In)=`g:=by cases op<;>first|rfl|exact absurd `a h
 have e2:(op==CmpOp.NotIn)=`g:=by cases op<;>first|rfl|exact absurd `a h2
 cases b<;>simp[behindInMarks,e1,e2]
theorem cB{op:CmpOp}{r:R2}(ho:OpR X (compareOp op) r)(ha:PE X a ta)(hb:PE X b tb)(hm:behindInMarks op b=`g):PE X (.Compare a [op] [b] Z9) (dO r ta tb):=by
 intro Z_ s M H Q I h;exact wpAny_Compare1 (A8 ha hb I h λv u s2 x y H2 I2 rx ry q=>ho Z_ s2 M H2 x y v u Q I2 rx ry q) hm
def bU(t:TE):TT:=λM H Q=>t M H λx H'=>∃k,x=.bl k/\Q k H'
theorem ao{op:CmpOp}{r:R2}(ho:OpR X (compareOp op) r)(ha:PE X a ta)(hb:PE X b tb)(hm:behindInMarks op b=`g):PT X (.Compare a [op] [b] Z9) (bU<|dO r ta tb):=by
 intro Z_ s M H Q I h;refine wpAny_isTrue_Compare1 (cx (ha Z_ s M H _ I h) λv s1⟨x,H1,I1,r1,q1⟩=>cx (hb Z_ s1 M H1 _ I1 q1) λu s2⟨y,H2,I2,r2,q2⟩=>cx (ho Z_ s2 M H2 x y v u _ I2 r1 r2 q2) λc s3⟨z,H3,I3,r3,k,e,q3⟩=>?_) hm
 subst e;cases r3;exact Hy ⟨H3,I3,q3⟩
theorem kP:(sizeLine:Nat)<2^63:=by rw[FE];decide
theorem aO:OpR X (binaryOp .Add) (λx y H Q=>∃i j,x=.str i/\y=.str j/\i.length+j.length<=sizeLine/\Q (.str<|i++j) H):=by
 intro Z_ s M H x y v u Q I rx ry h;obtain⟨i,j,rfl,rfl,hz,q⟩:=h;obtain⟨t,rfl⟩:=rx;obtain⟨t',rfl⟩:=ry;exact add_str (λt' tk=>⟨.str<|i++j,H,I.tok _,⟨_,`a⟩,q⟩) hz
theorem oJ:OpR X (inplaceOp .Add) (λx y H Q=>∃i j,x=.str i/\y=.str j/\i.length+j.length<=sizeLine/\Q (.str<|i++j) H):=by
 intro Z_ s M H x y v u Q I rx ry h;obtain⟨i,j,rfl,rfl,hz,q⟩:=h;obtain⟨t,rfl⟩:=rx;obtain⟨t',rfl⟩:=ry;exact iadd_str (λt' tk=>⟨.str<|i++j,H,I.tok _,⟨_,`a⟩,q⟩) hz
theorem ft{x:V}{us:List EM}(r:Vals [x] us):∃u,us=[u]/\RelV x u:=by
 cases r with
 |cons r1 r2=>cases r2;exact 9 `a r1
theorem mr{x y:V}{us:List EM}(r:Vals [x,y] us):∃u w',us=[u,w']/\RelV x u/\RelV y w':=by
 cases r with
 |cons r1 r2=>
  cases r2 with
  |cons r3 r4=>cases r4;exact⟨_,_,`a,r1,r3⟩
theorem hZ:ee X (.builtin "abs") (λxs H Q=>∃i,xs=[.int i]/\Q (.int (if i<0 then -i else i)) H):=by
 intro Z_ s M H xs us Q I r h;obtain⟨i,rfl,q⟩:=h;obtain⟨u,rfl,t,rfl⟩:=ft r;exact call_abs_int λu tk=>⟨.int (if i<0 then -i else i),H,I.tok _,⟨_,`a⟩,q⟩
theorem iA(hc:1 X.calm):ee X (.builtin "max") (λxs H Q=>∃i j,xs=[.int i,.int j]/\Q (.int (if j>i then j else i)) H):=by
 intro Z_ s M H xs us Q I r h;obtain⟨i,j,rfl,q⟩:=h;obtain⟨u,w',rfl,⟨t,rfl⟩,⟨t',rfl⟩⟩:=mr r;refine max_two_ints (I.ok.hd hc) λh' tk k=>⟨_,H,I.kept k,?_,q⟩
 by_cases hj:j>i;·rw[Z0 hj,Z0 hj];exact⟨_,`a⟩
 ·rw[Z1 hj,Z1 hj];exact⟨_,`a⟩
theorem jE:ee X (.type "int") (λxs H Q=>(∃i,xs=[.int i]/\Q (.int i) H)\/∃k,xs=[.bl k]/\Q (.int (if k then 1 else 0)) H):=by
 intro Z_ s M H xs us Q I r h;rcases h with⟨i,rfl,q⟩|⟨k,rfl,q⟩
 ·obtain⟨u,rfl,t,rfl⟩:=ft r;exact call_int_int ⟨.int i,H,I,⟨_,`a⟩,q⟩
 ·obtain⟨u,rfl,r1⟩:=ft r;cases r1;exact call_int_bool ⟨.int (if k then 1 else 0),H,I.tok _,⟨_,`a⟩,q⟩
def oK(K:EL)(x:V)(H:Hp)(n:Nat):Prop:=
 match x with
 | .str y=>y.length<=sizeLine/\n=y.length
 | .byt y=>y.size<=sizeLine/\n=y.size
 | .ref p=>(∃xs,SqL K H p xs/\n=`i)\/∃xs,SqT K H p xs/\n=`i
 |_=>False
theorem uD:ee X (.builtin "len") (λxs H Q=>∃x n,xs=[x]/\oK X.K x H n/\Q (.int n) H):=by
 intro Z_ s M H xs us Q I r h;obtain⟨x,n,rfl,e,q⟩:=h;obtain⟨u,rfl,rx⟩:=ft r;have hl:=kP;have hs:sizeLine=16777216:=FE;cases x with
 |str y=>
  obtain⟨t,rfl⟩:=rx;obtain⟨hy,e'⟩:y.length<=sizeLine/\n=y.length:=e;subst e';exact len_str `b ⟨.int _,H,I.tok _,⟨_,`a⟩,q⟩
 |byt y=>
  obtain⟨t,rfl⟩:=rx;obtain⟨hy,e'⟩:y.size<=sizeLine/\n=y.size:=e;subst e';exact PySem.W.len_bytes `b ⟨.int _,H,I.tok _,⟨_,`a⟩,q⟩
 |ref p=>
  cases rx;have e':(∃xs,SqL X.K H p xs/\n=`i)\/∃xs,SqT X.K H p xs/\n=`i:=e;rcases e' with⟨xs,hx,e'⟩|⟨xs,hx,e'⟩
  ·subst e';obtain⟨its,r',pl,hz⟩:=I.list hx;have hlen:=r'.length;exact Calls.call_len_list pl.isList (by simp only[EW];omega) ⟨.int `i,H,I.tok _,⟨_,by simp only[EW];rw[hlen]⟩,q⟩
  ·subst e';obtain⟨its,r',pl,hz⟩:=I.tuple hx;have hlen:=r'.length;exact len_tuple pl (by simp only[EW];omega) ⟨.int `i,H,I.tok _,⟨_,by simp only[EW];rw[hlen]⟩,q⟩
 |_=>exact(show False from e).elim
end
structure ObjM(h:Heap)(x dx C:Addr)(mA:Str->`Q):Prop where
 obj:34 x (Lp C dx)
 ns:h.Ns1 dx mA
 ne:dx≠x
theorem sO{h:Heap}{dx:Addr}{mA:Str->`Q}(n:h.Ns1 dx mA):∃od,34 dx od/\∀name,0 (LQ name od) (mA name):=by
 obtain⟨o,es,ep,ho,hd,hk,_,hm⟩:=n;refine⟨o,ho,λname=>?_⟩;have e:=hm name;unfold nsFind findBy at e;rw[<-Array.find?_toList]at e;unfold LQ;rw[hd];dsimp only;split
 ·rename_i y q;rw[q]at e;exact congrArg some e
 ·rename_i q;rw[q]at e;have a:es.toList.any (·.refKey)=`g:=by
   rw[List.any_eq_false];intro y hy;obtain⟨z,t,hkey⟩:=hk y (Array.mem_toList_iff.mp hy);simp[DictEntry.refKey,hkey]
  have a':¬es.toList.any (·.refKey)=true:=by rw[a];exact F8
  rw[Z1 a'];exact congrArg some e
theorem ObjM.look{h:Heap}{x dx C:Addr}{mA:Str->`Q}(I:ObjM h x dx C mA):∃od,PySem.W.InstAt h x (Lp C dx) C (some od)/\∀name,0 (LQ name od) (mA name):=
 let ⟨od,ho,hl⟩:=sO I.ns
 ⟨od,⟨I.obj,`a,`a,ho⟩,hl⟩
theorem RelO.some_of{v:V}{o:`Q}(r:RelO (some v) o):∃u,0 o u/\RelV v u:=by
 cases o with
 |none=>exact(show False from r).elim
 |some u=>exact⟨u,`a,r⟩
section
variable{P:F6}{w:Fh}{H H':Hp}{h h':Heap}{a C dx:Addr}{fs fs':7 Str V}
theorem xK(hok:HOk P w H h)(e:0 (H a) (.ins C dx fs)):∃mA,ObjM h a dx C mA/\(∀f,RelO (fs.lookup f)<|mA f)/\OE mA (fs.map (·.1))/\fs.length<=1000/\0 (H dx) (.own a):=by
 obtain⟨d,z,ne,ob,mA,n,r,q⟩:=(show ObjOk P w H h a (.ins C dx fs)from hok a _ e)
 exact⟨mA,⟨ob,n,ne⟩,r,q,z,d⟩
end
structure Cls(K:EL)(C:Addr):Prop where
 pg:1 (MW K C Str.empty)
 hd:1 (PySem.W.hasDictIn K C)
 po:1 (PySem.W.plainOver K C)
 sa:0 (Nz K (.ref C) "__setattr__") (some<|.builtin "object.__setattr__")
theorem Cls.get{K:EL}{C:Addr}(c:Cls K C)(f:Str):1 (MW K C f):=c.pg
section
variable{X:Cx}{Z_:7 Addr Obj}{M:St}{H:Hp}{s:EN}{A:FR}{E:8 EM EN}{Q:8 EM EN}{c:EM}{b:Bool}
inductive TyOf(K:EL)(H:Hp):V->EM->Prop where
 |non:TyOf K H .non (.type "NoneType")
 |bl (x:Bool):TyOf K H (.bl x) (.type "bool")
 |int (i:Int):TyOf K H (.int i) (.type "int")
 |str (x:Str):TyOf K H (.str x) (.type "str")
 |flt (x:UInt64):TyOf K H (.flt x) (.type "float")
 |lst {a:Addr} {xs:`u} (e:0 (H a) (.lst xs)):TyOf K H (.ref a) (.type "list")
 |frz {a:Addr} {o:Obj} {xs:`u} (e:0 (H a) (.frz o<|.lst xs)):TyOf K H (.ref a) (.type "list")
 |tup {a:Addr} {xs:`u} (e:SqT K H a xs):TyOf K H (.ref a) (.type "tuple")
 |dK {a:Addr} {kvs:7 Key V} (e:0 (H a) (.dK kvs)):TyOf K H (.ref a) (.type "dict")
 |dT {a:Addr} {kvs:7 (List Key) V} (e:0 (H a) (.dT kvs)):TyOf K H (.ref a) (.type "dict")
 | ins {a C dx:Addr} {fs:7 Str V} (e:0 (H a) (.ins C dx fs)) (cl:Cls K C) (ha:0 (Nz K (.ref C) "__class__") (some<|.builtin "object.__class__"))
   (hn:0 (PySem.W.specialIn K (.builtin "object.__class__") "__get__") (some<|.builtin "getset_descriptor.__get__")) (htk:0 (PySem.W.takesIn K<|.builtin "object.__class__") true)
   (hm:0 (PySem.W.mroIn K C<|.type "object") true):TyOf K H (.ref a) (.ref C)
theorem sP{x:V}{u t:EM}(I:14 X M H s)(rx:RelV x u)(ty:TyOf X.K H x t)(e:0 (Ht X.K t c) b)(h:∀tk,Q (.bool b) {s with toks:=tk}):
  21 `o X.w A (call (.builtin "isinstance") [u,c]) Q E:=by
 cases ty with
 |non=>cases (show u=FZ from rx);exact GO PySem.W.kitx_none I.kIn Iu e (λz=>nomatch z) h
 |bl y=>cases (show u=Mm y from rx);exact GO PySem.W.kitx_bool I.kIn Iu e (λz=>nomatch z) h
 |int i=>obtain⟨t,q⟩:=(show ∃t,u=J2 i t from rx);cases q;exact GO PySem.W.kitx_int I.kIn Iu e (λz=>nomatch z) h
 |str y=>obtain⟨t,q⟩:=(show ∃t,u=MU y t from rx);cases q;exact GO PySem.W.kitx_str I.kIn Iu e (λz=>nomatch z) h
 |flt y=>obtain⟨t,q⟩:=(show ∃t,u=OV y t from rx);cases q;exact GO PySem.W.kitx_float I.kIn Iu e (λz=>nomatch z) h
 | @lst a xs ea=>
  cases (show u=G8 a from rx);obtain⟨_,_,n,_,h1⟩:=(show ObjOk `o X.w H `p a (.lst xs)from I.hok a _ ea)
  exact GO ME I.kIn (9 h1 `a) e (λz=>nomatch z) h
 | @frz a ob xs ea=>
  cases (show u=G8 a from rx);obtain⟨_,_,_,n,_,h1⟩:=(show ObjOk `o X.w H `p a (.frz ob<|.lst xs)from I.hok a _ ea)
  exact GO ME I.kIn (9 h1 `a) e (λz=>nomatch z) h
 | @tup a xs ea=>
  cases (show u=G8 a from rx);obtain⟨_,_,p,_⟩:=I.tuple ea;obtain⟨o,h1,h2,_⟩:=p;exact GO PySem.W.kitx_tuple I.kIn ⟨o,h1,h2⟩ e (λz=>nomatch z) h
 | @dK a kvs ea=>
  cases (show u=G8 a from rx);obtain⟨_,_,vs,_,p⟩:=(show ObjOk `o X.w H `p a (.dK kvs)from I.hok a _ ea)
  obtain⟨o,es,ep,h1,h2,_⟩:=p;exact GO MF I.kIn ⟨o,h1,h2.1⟩ e (λz=>nomatch z) h
 | @dT a kvs ea=>
  cases (show u=G8 a from rx);obtain⟨_,_,xs,_,o,es,ep,h1,h2,_⟩:=(show ObjOk `o X.w H `p a (.dT kvs)from I.hok a _ ea)
  exact GO MF I.kIn ⟨o,h1,h2.1⟩ e (λz=>nomatch z) h
 | @ins a C dx fs ea cl ha hn htk hm=>
  cases (show u=G8 a from rx);obtain⟨mA,O,_⟩:=xK I.hok ea;obtain⟨od,J,_⟩:=O.look;exact GO (PySem.W.kitx_own (cl.get _) cl.hd ha hn htk hm) I.kIn J e (λz=>nomatch z) h
end
structure Room(k:Nat)(A:FR):Prop where
 hd:A.handled=`c
 dp:A.depth+3*k+5<recursionLimit
 un:A.units+16*k+200<cLine
theorem Room.mono{j k:Nat}{A:FR}(r:Room k A)(h:j<=k):Room j A:=⟨r.hd,by have:=r.dp;omega,by have:=r.un;omega⟩
theorem Room.deeper{k:Nat}{A:FR}(r:Room (k+1) A)(env:Env):Room k (A.deeper env):=
 ⟨r.hd,by have:=r.dp;show A.depth+1+3*k+5<_;omega,by have:=r.un;show A.units+3+16*k+200<_;omega⟩
theorem Room.depth{k:Nat}{A:FR}(r:Room k A):A.depth<recursionLimit:=by have:=r.dp;omega
theorem Room.units0{k:Nat}{A:FR}(r:Room k A):A.units<cLine:=by have:=r.un;omega
def bc:TA:=λ_ H Q=>Q [] H
def ax(ta:TE)(tr:TA):TA:=λM H Q=>ta M H λx H1=>tr M H1 λxs H2=>Q (x::xs) H2
section
variable{X:Cx}{e:Expr}{es:List Expr}{te:TE}{t:TA}{Z9:Pos}
theorem af:PA X [] bc:=λ_ _ _ _ H Q I h=>MG ⟨[],H,I,.nil,h⟩
theorem a8(ha:PE X e te)(hr:PA X es t)(hs:32 (e::es)=(false,26 e)::32 es:=by rfl):PA X (e::es) (ax te t):=by
 intro Z9 Z_ s M H Q I h;rw[hs];show wpAny _ _ (spliced<|(false,26 e)::backTo Z9 (32 es)) _ _ s;refine Mn (cx (ha Z_ s M H _ I h) λu s1 zz=>?_);obtain⟨x,H1,I1,r1,q1⟩:=zz;refine cx (hr Z9 Z_ s1 M H1 _ I1 q1) λus s2 zz=>?_;obtain⟨xs,H2,I2,r2,q2⟩:=zz;exact⟨x::xs,H2,I2,.cons r1 r2,q2⟩
def d9(t:TA):TE:=λM H Q=>t M H λxs H1=>`i<=sizeLine/\∀p,H1 p=`c->Q `E (cT H1 p<|.tup xs)
def cM(t:TA):TE:=λM H Q=>t M H λxs H1=>`i<=sizeLine/\∀p,H1 p=`c->Q `E (cT H1 p<|.lst xs)
theorem cn{x1}(h:PA X es t):PE X (.Tuple es x1 Z9) (d9 t):=by
 intro Z_ s M H Q I hq;refine wpAny_Tuple_spliced (cx (h Z9 Z_ s M H _ I hq) λus s1⟨xs,H1,I1,r,z,q⟩=>⟨by rw[<-r.length];exact z,?_⟩);have hf:H1 `U=`c:=I1.hok.fresh (EX _);refine⟨.ref `U,cT H1 `U<|.tup xs,I1.laid (t':=s1.toks) (λb u e=>EI _ e) (EX _) ?_,`a,q _ hf⟩;exact⟨z,us,r,⟨_,ES _ `a,⟨`a,`a⟩,_,`a⟩⟩
theorem bJ(h:PA X es t):PE X (.List es Z9) (cM t):=by
 intro Z_ s M H Q I hq;refine wpAny_List_spliced (cx (h Z9 Z_ s M H _ I hq) λus s1⟨xs,H1,I1,r,z,q⟩=>⟨by rw[<-r.length];exact z,?_⟩);have hf:H1 `U=`c:=I1.hok.fresh (EX _);refine⟨.ref `U,cT H1 `U<|.lst xs,I1.laid (t':=s1.toks) (λb u e=>EI _ e) (EX _) ?_,`a,q _ hf⟩;exact⟨z,us,0,r,ES _ `a⟩
end
abbrev Sp:=`u->Hp->8 VK XK
abbrev CXT:=List Env->Hp->EN->XK->8 EM EN
structure Env0(P:F6)(w:Fh)(K:EL)(mg:Str->`Q)(base:Heap)(A:FR)(outer:List Env)(s:EN)(H:Hp):Prop where
 frames:0 A.frames outer
 mod:Mod K mg base
 bs:∀b o,0 (base.get? b) o->23 b o/\H b=`c
 bsz:base.objs.size<=`P
 funs:s.heap.FunFrames base outer
 frf:∀b∈frs outer,H b=`c
 hok:HOk P w H `p
 bare:KH s.gens
def CE(outer:List Env)(P:F6)(w:Fh)(H:Hp)(s:EN)(Q:VK)(u:EM)(s':EN):Prop:=
 ∃v H',s'.os=s.os/\KH s'.gens/\Un (frs outer) [] H H' `p s'.heap/\HOk P w H' s'.heap/\RelV v u/\Q v H'
def CR(CX:CXT)(outer:List Env)(P:F6)(w:Fh)(H:Hp)(s:EN)(Q:VK)(E:XK)(r:MX)(s':EN):Prop:=
 match r with
 | .ok (.ret u)=>CE outer P w H s Q u s'
 | .ok _=>False
 | .error e=>CX outer H s E e s'
structure FnOk(P:F6)(w:Fh)(K:EL)(mg:Str->`Q)(base:Heap)(CX:CXT)(k:Nat)(f:Addr)(fd:Fi)(ps:`I)(sp:Sp):Prop where
 len:∀vs H Q E,sp vs H Q E->`O=ps.length
 run:∀(A:FR)(outer:List Env)(s:EN)(H:Hp)(args:Args)(us:List EM)(vs:List V)(Q:VK)(E:XK),Room k A->Env0 P w K mg base A outer s H->MH s fd args (ps.zip us)->Vals vs us->sp vs H Q E->codeAny (model P w) A (.call (.ref f) args) (CR CX outer P w H s Q E) s
theorem FnOk.imp{P:F6}{w:Fh}{K:EL}{mg:Str->`Q}{base:Heap}{CX:CXT}{k:Nat}{f:Addr}{fd:Fi}{ps:`I}{sp sp':Sp}(F:FnOk P w K mg base CX k f fd ps sp)
  (h:∀vs H Q E,sp' vs H Q E->sp vs H Q E):FnOk P w K mg base CX k f fd ps sp':=
 ⟨λvs H Q E q=>F.len vs H Q E<|h _ _ _ _ q,λA outer s H args us vs Q E hr he hb hv hs=>F.run A outer s H args us vs Q E hr he hb hv<|h _ _ _ _ hs⟩
section
variable{X:Cx}{Z_:7 Addr Obj}{M:St}{H:Hp}{s s':EN}
theorem Inv.env0(I:14 X M H s):Env0 `o X.w X.K X.mg X.base X.A X.stack s H:=
 ⟨I.ok.frames,I.ok.mod,I.bs,Gy I.ok.bsz I.sz,I.stack,I.stkFree,I.hok,I.bare⟩
theorem Inv.after{Q:VK}{u:EM}(I:14 X M H s)(h:CE X.stack `o X.w H s Q u s'):EP X Z_ M Q u s':=by
 obtain⟨v,H',os,bare,un,hok,r,q⟩:=h;obtain⟨hh,g,d,t,os'⟩:=s';obtain rfl:os'=s.os:=os;exact⟨v,H',I.call (h':=hh) (g':=g) (d':=d) (t':=t) (ch:=[]) un hok bare λb z=>absurd z `f,r,q⟩
end
def bu(sp:Sp)(dvs:`u)(E:XK)(t:TA):TE:=λM H Q=>t M H λvs H1=>sp (vs++dvs) H1 Q E
def Binds(K:EL)(fd:Fi)(ps:`I)(ds:List EM):Prop:=
 ∀(s:EN)(us:List EM),K.In `p->(us++ds).length=ps.length->MH s fd ⟨us,[]⟩ (ps.zip<|us++ds)
theorem Binds.all{K:EL}{fd:Fi}{ps:`I}(h:∀us:List EM,us.length=ps.length->bindArgs fd ⟨us,[]⟩=pure (ps.zip us)):Binds K fd ps []:=λs us _ hl=>by
 rw[Hj]at hl ⊢;exact .of_eq (h us hl)
def qi(CX:CXT)(X:Cx)(E:XK):Prop:=∀(Z_:List (Addr×Obj))(M:St)(H:Hp)(s:EN)(e:EM)(s':EN),14 X M H s->CX X.stack H s E e s'->X.xe e s'
section
variable{X:Cx}{CX:CXT}{k:Nat}{f C:Addr}{fd:Fi}{ps:`I}{sp:Sp}{dvs:`u}{ds:List EM}{E:XK}{x m:Str}{p Z9 Z5:Pos}{e o:Expr}{es:List Expr}{ta:TE}{t:TA}
theorem A9{Z_:7 Addr Obj}{M:St}{H:Hp}{s:EN}{Q:VK}{us:List EM}{vs:`u}(F:FnOk `o X.w X.K X.mg X.base CX k f fd ps sp)(hr:Room k X.A)(hb:Binds X.K fd ps ds)(hd:Vals dvs ds)(hx:qi CX X E)
  (I:14 X M H s) (r:Vals vs us) (h:sp (vs++dvs) H Q E):21 `o X.w X.A (call (.ref f) us) (EP X Z_ M Q) X.xe:=by
 have r2:Vals (vs++dvs) (us++ds):=r.append hd;have hl:(us++ds).length=ps.length:=by rw[<-r2.length];exact F.len _ _ _ _ h
 refine wpAny_call (J4 (F.run X.A X.stack s H ⟨us,[]⟩ (us++ds) (vs++dvs) Q E hr I.env0 (hb s us I.kIn hl) r2 h) λr s' hq=>?_);cases r with
 |error e=>exact hx Z_ M H s e s' I hq
 |ok fl=>
  cases fl with
  |ret u=>exact I.after hq
  |next=>exact Ir hq
  |brk=>exact Ir hq
  |cont=>exact Ir hq
theorem xM(F:FnOk `o X.w X.K X.mg X.base CX k f fd ps sp)(hr:Room k X.A)(hg:Gl X x)(hm:0 (X.mg x) (.ref f))(hk:1 (Ic X.K<|.ref f))(hb:Binds X.K fd ps ds)(hd:Vals dvs ds)(hx:qi CX X E)
  (ha:PA X (e::es) t) (hdb:(x==("__debug__" :Str))=`g:=by decide) (he:32 (e::es)=(false,26 e)::32 es:=by rfl) (hpl:(backTo Z9<|32 es).any (·.1)=`g:=by rfl):
  PE X (.Call (.Name x p) (e::es) [] Z9) (bu sp dvs E t):=by
 intro Z_ s M H Q I h;refine Kj (rg I hg hm ?_ hdb);refine PySem.W.callWith_K (h₀:=X.base) I.ok.mod.kin hk (cx (ha Z9 Z_ s M H _ I h) λus s1⟨vs,H1,I1,r,q⟩=>⟨I1.kIn,?_⟩) he hpl;exact A9 F hr hb hd hx I1 r q
end
structure FnScope(N P:`I)(sc:ID):Prop where
 kind:sc.kind=.function
 co:sc.isCoroutine=`g
 gen:sc.isGenerator=`g
 nd:N.Nodup
 pre:N.take P.length=P
 par:∀x∈P,0 (sc.names.lookup x) .local\/0 (sc.names.lookup x) .cell
 nofree:∀y∈sc.names,y.2≠.free
theorem mw{kindOf:Str->Option Ie}{x:Str}:∀{binds:List (Str×EM)}{m:Str->Option EM},(∀v,(x,v)∉binds)->bindL kindOf binds m x=m x
 | [],_,_=>rfl
 |(n,v)::r,m,h=>by
  unfold bindL;rw[mw λw hw=>h w (Fe _ hw)];split
  ·have:x≠n:=by rintro rfl;exact h v Fc
   simp[this]
  ·rfl
theorem my{kindOf:Str->Option Ie}{x:Str}:∀{binds:List (Str×EM)}{m:Str->Option EM},(∀v,(x,v)∉binds)->bindC kindOf binds m x=m x
 | [],_,_=>rfl
 |(n,v)::r,m,h=>by
  unfold bindC;rw[my λw hw=>h w (Fe _ hw)];split;·rfl
  ·have:x≠n:=by rintro rfl;exact h v Fc
   simp[this]
theorem mC{kindOf:Str->Option Ie}{x:Str}{v:EM}:∀{P:List Str}{vs:List EM}{i:Nat}{m:Str->Option EM},P.Nodup->0 P[i]? x->0 vs[i]? v->0 (kindOf x) .local->0 (bindL kindOf (P.zip vs) m x) v
 | [],_,_,_,_,h,_,_=>by simp at h
 |_::_,[],_,_,_,_,h,_=>by simp at h
 |p::P,w::vs,0,m,nd,h1,h2,hk=>by
  simp at h1 h2;subst h1;subst h2;show bindL kindOf ((p,w)::P.zip vs) m p=_;unfold bindL;rw[mw λv hv=>(HC.mp nd).1 (IE hv).1,Z0 hk];simp
 |p::P,w::vs,i+1,m,nd,h1,h2,hk=>by
  show bindL kindOf ((p,w)::P.zip vs) m x=_;unfold bindL;exact mC (i:=i) (HC.mp nd).2 (by simpa using h1) (by simpa using h2) hk
theorem mD{kindOf:Str->Option Ie}{x:Str}{v:EM}:∀{P:List Str}{vs:List EM}{i:Nat}{m:Str->Option EM},P.Nodup->0 P[i]? x->0 vs[i]? v->kindOf x≠some .local->0 (bindC kindOf (P.zip vs) m x) v
 | [],_,_,_,_,h,_,_=>by simp at h
 |_::_,[],_,_,_,_,h,_=>by simp at h
 |p::P,w::vs,0,m,nd,h1,h2,hk=>by
  simp at h1 h2;subst h1;subst h2;show bindC kindOf ((p,w)::P.zip vs) m p=_;unfold bindC;rw[my λv hv=>(HC.mp nd).1 (IE hv).1,Z1 hk];simp
 |p::P,w::vs,i+1,m,nd,h1,h2,hk=>by
  show bindC kindOf ((p,w)::P.zip vs) m x=_;unfold bindC;exact mD (i:=i) (HC.mp nd).2 (by simpa using h1) (by simpa using h2) hk
def start(N:`I)(vs:`u):St:=vs.map some++Hu (N.length-`O) `c
def sQ(CX:CXT)(P:F6)(w:Fh)(K:EL)(mg:Str->`Q)(base:Heap)(N:`I)(Z4:Str)(scope:ID)(f:Addr)(cd:EM)(A:FR)(outer:List Env)(s:EN)(H:Hp)(E:XK):Cx where
 prog:=P
 w:=w
 K:=K
 mg:=mg
 base:=base
 A:=A.deeper (envOfC Z4 scope `P f cd)
 N:=N
 s₀:=s
 H₀:=H
 env:=envOfC Z4 scope `P f cd
 outer:=outer
 stack:=envOfC Z4 scope `P f cd::outer
 ex:=[]
 calm:=true
 fn:=λ_=>true
 pn:=[]
 xe:=λe s'=>wpAny (model P w) (A.deeper<|envOfC Z4 scope `P f cd) (leaving (envOfC Z4 scope `P f cd) e) (λ_ s''=>CX outer H s E e s'') (λe' s''=>CX outer H s E e' s'') s'
theorem oM{sc:ID}{n:Nat}{x:Str}(h:0 (sc.names.lookup x) .cell):∃c,0 ((cellsFrom n sc.names []).lookup x) c:=by
 have q:=Jt sc.names n [] (.inl h);exact HX.mp q
theorem sR{CX:CXT}{P:F6}{w:Fh}{K:EL}{mg:Str->`Q}{base:Heap}{N ps:`I}{Z4:Str}{scope:ID}{f:Addr}{cd:EM}{A:FR}{outer:List Env}{s s1:EN}{H:Hp}{E:XK}{us:List EM}{vs:`u}
  (S:FnScope N ps scope) (hd:A.handled=`c) (e0:Env0 P w K mg base A outer s H) (hl:`O=ps.length) (r:Vals vs us)
  (x:InCallC s `P (bindL (envOfC Z4 scope `P f cd).kindOf (ps.zip us) λ_=>`c) (cellsFrom (39 1) scope.names []) (bindC (envOfC Z4 scope `P f cd).kindOf (ps.zip us) λ_=>`c) s1):
  Inv (sQ CX P w K mg base N Z4 scope f cd A outer s H E) [] (start N vs) H s1:=by
 have hpl:ps.length<=N.length:=by have:=congrArg Hk S.pre;rw[GP]at this;omega
 obtain⟨h1,tk,rfl,hk⟩:=x.done;have noA:∀b:Addr,b∉(sQ CX P w K mg base N Z4 scope f cd A outer s H E).ex:=λb z=>absurd (show b∈([]:List Addr)from z) `f;refine⟨⟨e0.mod,S.kind,`a,`a,EX _,λy z c h1 h2=>?_,λy hy=>?_,λy c _ h=>?_,λ_=>hd,Around.frames_deeper e0.frames,.inr ⟨`a,`a⟩,λb z=>absurd z<|noA b,e0.bs,e0.bsz,λb _ _=>noA b,λb z=>absurd z<|noA b,e0.funs,e0.frf⟩,`a,e0.bare,Un.kept hk,9 x.toInCall.ns λi y v h1 h2 h3=>?_,λy c h=>⟨_,x.cell y c h⟩,e0.hok.fresh<|EX _,λy c h=>?_,λp hp=>absurd (show p∈([]:7 Addr Obj)from hp) `f,e0.hok.kept hk,?_⟩
 ·exact name_of_addr x.apart (GU h1) (GU h2)
 ·have hy:0 (scope.names.lookup y) .cell\/0 (scope.names.lookup y) .free:=hy;rcases hy with hy|hy
  ·exact oM hy
  ·exact absurd `a (S.nofree _<|GU hy)
 ·exact J3 (x.above y c<|GU h)
 ·have hi:i<`O:=by
   unfold start at h2;by_cases hi:i<`O;·exact hi
   ·rw[F9 (by simpa using hi)]at h2;rw[List.getElem?_replicate]at h2;split at h2<;>cases h2
  have ha:0 vs[i]? v:=by
   unfold start at h2;rw[F7 (by simpa using hi),ET]at h2;cases e:vs[i]? with
   |none=>rw[e]at h2;cases h2
   |some a=>rw[e]at h2;cases h2;rfl
  obtain⟨u,hu,rv⟩:=r.get ha;have hp:0 ps[i]? y:=by
   rw[<-S.pre,G7 `b];exact h1
  have ndP:ps.Nodup:=by rw[<-S.pre];exact S.nd.sublist (List.take_sublist _ _)
  refine⟨u,rv,?_⟩;rcases S.par y (F3 hp)with k|k
  ·exact .inl ⟨k,mC ndP hp hu k⟩
  ·obtain⟨c,e⟩:=oM (n:=39 1) k;refine .inr ⟨.inl k,c,e,?_⟩;have q:=x.cell y c e;rw[mD ndP hp hu (by show scope.names.lookup y≠_;rw[k];decide)]at q;exact q
 ·exact e0.hok.fresh (J3<|x.above y c<|GU h)
 ·unfold start;show _=N.length;rw[FJ,EY,List.length_replicate];omega
theorem Bz{CX:CXT}{P:F6}{w:Fh}{K:EL}{mg:Str->`Q}{base:Heap}{k:Nat}{f:Addr}{name Z4:Str}{params:Arguments}{body:List Stmt}{scope:ID}{dV kV doc pm Z7 ct oc:EM}{an od:Option Addr}
  {osl:Array `Q} {N ps:`I} {sp:Sp} (lk:0 (K.lookup f) ⟨oc,od,.func<|Hq name Z4 params body scope dV kV doc pm an Z7 ct,osl⟩) (hcd:1 (IW K Z7 Z4)) (S:FnScope N ps scope)
  (len:∀vs H Q E,sp vs H Q E->`O=ps.length)
  (hbody:∀(A:FR) (outer:List Env) (s:EN) (H:Hp) (vs:`u) (Q:VK) (E:XK),Room k (A.deeper<|envOfC Z4 scope `P f Z7)->sp vs H Q E->
   ∃t,PSs (sQ CX P w K mg base N Z4 scope f Z7 A outer s H E) body t/\t {nx:=λ_ H'=>Q .non H',rt:=Q} (start N vs) H):
  FnOk P w K mg base CX (k+1) f (Hq name Z4 params body scope dV kV doc pm an Z7 ct) ps sp:=by
 refine⟨len,λA outer s H args us vs Q E hr e0 hb r hsp=>?_⟩;have hl:=len _ _ _ _ hsp;have KX:K.In `p:=e0.mod.kin.keeps λb o e=>(e0.bs b o e).1;have lim:s.heap.NoLimit:=e0.mod.nolimit.keeps λb o e=>(e0.bs b o e).1;have hkind:∀y∈ps.zip us,0 (scope.names.lookup y.1) .local\/0 (scope.names.lookup y.1) .cell/\1 ((cellsFrom (39 1) scope.names []).lookup y.1).isSome:=λ⟨n,v⟩hy=>by
  rcases S.par n (IE hy).1 with q|q;·exact .inl q
  ·exact .inr ⟨q,Jt _ _ _<|.inl q⟩
 refine codeAny_call_function hr.depth (KX _ _ lk) `a S.co S.gen `a (PySem.W.codeRec_of KX hcd) (hb _ _ _ _ ?_);refine wpAny_newFunctionEnv_cells S.kind hkind λenv he s1 x=>?_;subst he;refine⟨lim.keeps x.toInCall.keep,codeAny_func ?_⟩;obtain⟨t,ht,hq⟩:=hbody A outer s H vs Q E (hr.deeper _) hsp;have I:Inv (sQ CX P w K mg base N Z4 scope f Z7 A outer s H E) [] (start N vs) H s1:=sR S hr.hd e0 hl r x;refine Gi (ht [] s1 (start N vs) H _ I hq) (λfl s' hs=>?_) λe s' hs=>hs;have fin:∀{σ':St}{H':Hp}{v:V}{u:EM},Inv (sQ CX P w K mg base N Z4 scope f Z7 A outer s H E) [] σ' H' s'->RelV v u->Q v H'->CE outer P w H s Q u s':=
  λ{σ' H' v u}J rv q=>⟨v,H',J.os,J.bare,J.base,J.hok,rv,q⟩
 cases fl with
 |ret u=>
  obtain⟨v,σ',H',J,rv,q⟩:=hs;exact fin J rv q
 |next=>
  obtain⟨σ',H',J,q⟩:=hs;exact fin (v:=V.non) (u:=FZ) J `a q
 |brk=>
  obtain⟨_,_,_,q⟩:=hs;exact Ir q
 |cont=>
  obtain⟨_,_,_,q⟩:=hs;exact Ir q
section
variable{X:Cx}{x:Str}{p Z9:Pos}{e:Expr}{es:List Expr}{t:TA}{id T:String}{r:`u->Hp->VK->Prop}
def ff(r:`u->Hp->VK->Prop)(t:TA):TE:=λM H Q=>t M H λvs H1=>r vs H1 Q
theorem aw(hc:ee X (.builtin id) r)(hg:Gl X x)(hm:X.mg x=`c)(hv:0 (bootBuiltins x) (.builtin id))(ha:PA X (e::es) t)(hn:x≠"__name__":=by decide)(hdb:(x==("__debug__" :Str))=`g:=by decide)
  (he:32 (e::es)=(false,26 e)::32 es:=by rfl) (hpl:(backTo Z9<|32 es).any (·.1)=`g:=by rfl):PE X (.Call (.Name x p) (e::es) [] Z9) (ff r t):=by
 intro Z_ s M H Q I h;refine Kj (gk I hg hm hv ?_ hn hdb);exact MY (cx (ha Z9 Z_ s M H _ I h) λus s1⟨vs,H1,I1,r1,q1⟩=>hc Z_ s1 M H1 vs us Q I1 r1 q1) he hpl
theorem dn(hc:ee X (.type T) r)(hg:Gl X x)(hm:X.mg x=`c)(hv:0 (bootBuiltins x) (.type T))(ha:PA X (e::es) t)(hn:x≠"__name__":=by decide)(hdb:(x==("__debug__" :Str))=`g:=by decide)
  (he:32 (e::es)=(false,26 e)::32 es:=by rfl) (hpl:(backTo Z9<|32 es).any (·.1)=`g:=by rfl):PE X (.Call (.Name x p) (e::es) [] Z9) (ff r t):=by
 intro Z_ s M H Q I h;refine Kj (gk I hg hm hv ?_ hn hdb);exact G5 (cx (ha Z9 Z_ s M H _ I h) λus s1⟨vs,H1,I1,r1,q1⟩=>hc Z_ s1 M H1 vs us Q I1 r1 q1) he hpl
end
end L2
open L2.FnScope renaming nd->Px
open L2.PW renaming pt->IT
open L2.RelO renaming some_of->OO
open L2.SqL renaming of->GD
open L2.SqT renaming of->Na
open L2.V renaming int->Im,str->Jo,bl->PL
namespace HT
open PySem PyProof.Rows
section
variable{prog:F6}{w:Fh}{A:FR}{E:8 EM EN}{s:EN}
def sIx(n d:Nat):`w->Nat
 |none=>d
 |some v=>if v<0 then(v+(n:Int)).toNat else min v.toNat n
theorem sIx_le(n d:Nat)(hd:d<=n)(o:`w):sIx n d o<=n:=by
 cases o with
 |none=>exact hd
 |some v=>
  show(if v<0 then(v+(n:Int)).toNat else min v.toNat n)<=n;by_cases hv:v<0;·rw[Z0 hv];omega
  ·rw[Z1 hv];exact Nat.min_le_right _ _
end
end HT
namespace L2
open PySem PySem.Spec PyProof.Rows
abbrev TO:=St->Hp->8 `w Hp->Prop
def PO(X:Cx)(e:Option Expr)(t:TO):Prop:=
 ∀(Z_:List (Addr×Obj))(s:EN)(M:St)(H:Hp)(Q:Option Int->Hp->Prop),14 X M H s->t M H Q->21 `o X.w X.A (evalPart e X.env) (λu s'=>∃o H',14 X M H' s'/\IsPart u o/\Q o H') X.xe
def aW:TO:=λ_ H Q=>Q `c H
def bR(t:TE):TO:=λM H Q=>t M H λx H1=>∃i,x=.int i/\Q (some i) H1
theorem kQ{ns:`H}:∀{us:List EM},Vals (ns.map Im) us->MI us ns:=by
 induction ns with
 |nil=>intro us r;rw[J5]at r;cases r;exact .nil
 |cons n ns ih=>
  intro us r;rw[FQ]at r;cases r with
  |cons r1 r2=>
   obtain⟨t,e⟩:=r1;subst e;exact .cons n t (ih r2)
section
variable{X:Cx}{e:Expr}{te:TE}{lo hi:Option Expr}{tl th:TO}{Z9 p2:Pos}
theorem cj:PO X `c aW:=by
 intro Z_ s M H Q I h;rw[M8];exact EK ⟨`c,H,I,.none,h⟩
theorem bA(h:PE X e te):PO X (some e) (bR te):=by
 intro Z_ s M H Q I hw;rw[evalPart_some];refine cx (h Z_ s M H _ I hw) λu s1 zz=>?_;obtain⟨x,H1,I1,r1,q1⟩:=zz;obtain⟨i,rfl,q⟩:=q1;obtain⟨t,rfl⟩:=r1;exact⟨some i,H1,I1,.int i t,q⟩
def Co(X:Cx)(r:V->`w->`w->Hp->VK->Prop):Prop:=
 ∀(Z_:List (Addr×Obj))(s:EN)(M:St)(H:Hp)(x:V)(v vl vu:EM)(lo hi:Option Int)(sl:Addr)(Q:VK),14 X M H s->RelV x v->s.heap.IsSliceOf sl vl vu .none->IsPart vl lo->IsPart vu hi->r x lo hi H Q->∃T id,typeLookup (.type T) "__getitem__"=pure (some<|.builtin id)/\s.TypeIs v T/\21 `o X.w X.A (getItem v<|.ref sl) (EP X Z_ M Q) X.xe
def gH(r:V->`w->`w->Hp->VK->Prop)(te:TE)(tl th:TO):TE:=λM H Q=>te M H λx H1=>tl M H1 λl H2=>th M H2 λu H3=>r x l u H3 Q
theorem bC{r:V->`w->`w->Hp->VK->Prop}(hr:Co X r)(he:PE X e te)(hl:PO X lo tl)(hu:PO X hi th):PE X (.Subscript e (.Slice lo hi `c p2) Z9) (gH r te tl th):=by
 intro Z_ s M H Q I h;refine Mo (cx (he Z_ s M H _ I h) λv s1 zz=>?_);obtain⟨x,H1,I1,r1,q1⟩:=zz;refine wpAny_Slice (cx (hl Z_ s1 M H1 _ I1 q1) λvl s2 zz=>?_);obtain⟨l,H2,I2,pl,q2⟩:=zz;refine cx (hu Z_ s2 M H2 _ I2 q2) λvu s3 zz=>?_;obtain⟨u,H3,I3,pu,q3⟩:=zz;rw[M8];refine `y;have I4:Inv X Z_ M H3 {s3 with heap:=s3.heap.push {cls:=.type "slice",data:=.fields #[vl,vu,.none]}}:=I3.kept (t':=s3.toks) λb ob q=>EI _ q;obtain⟨T,id,hT,ht,hg⟩:=hr Z_ {s3 with heap:=s3.heap.push {cls:=.type "slice",data:=.fields #[vl,vu,.none]}} M H3 x v vl vu l u s3.heap.objs.size Q I4 r1 (Mp ..) pl pu q3;show wpAny (model `o X.w) X.A (subscriptTail e (.Slice lo hi `c p2) v<|.ref s3.heap.objs.size) (EP X Z_ M Q) X.xe {s3 with heap:=s3.heap.push {cls:=.type "slice",data:=.fields #[vl,vu,.none]}};exact OY (ops:=[.ref s3.heap.objs.size,v]) ht hT hg (by with_unfolding_all rfl)
def qj(xs:`u)(lo hi:`w):`u:=(xs.drop<|HT.sIx `i 0 lo).take (HT.sIx `i `i hi-HT.sIx `i 0 lo)
theorem oN(xs:`u)(lo hi:`w):(qj xs lo hi).length<=`i:=by
 unfold qj;rw[GP,Ha];omega
end
def ixN(n:Nat)(i:Int):`S:=if 0<=i then(if i<n then some i.toNat else none)else if -(n:Int)<=i then some (i+n).toNat else none
def atI{Z:Type}(xs:`r)(i:Int):Option Z:=(ixN `i i).bind λj=>xs[j]?
theorem ixN_seq{n:Nat}{i:Int}{j:Nat}(h:0 (ixN n i) j):seqIndex? i n=some j/\j<n/\ -(n:Int)<=i/\i<n:=by
 unfold ixN at h;by_cases h0:0<=i
 ·rw[Z0 h0]at h;by_cases h1:i<n
  ·rw[Z0 h1]at h;have e:i.toNat=j:=Ft h;exact⟨by rw[Nc h0 h1,e],`b,`b,h1⟩
  ·rw[Z1 h1]at h;cases h
 ·rw[Z1 h0]at h;by_cases h1: -(n:Int)<=i
  ·rw[Z0 h1]at h;have e:(i+n).toNat=j:=Ft h;exact⟨by rw[MJ (by omega) h1,e],`b,h1,`b⟩
  ·rw[Z1 h1]at h;cases h
theorem nj{Z:Type}{xs:`r}{i:Int}{v:Z}(h:0 (atI xs i) v):∃j,seqIndex? i xs.length=some j/\xs[j]? =some v/\j<xs.length/\ -(xs.length:Int)<=i/\i<xs.length:=by
 unfold atI at h;cases e:ixN xs.length i with
 |none=>rw[e]at h;cases h
 |some j=>
  rw[e]at h;obtain⟨h1,h2,h3,h4⟩:=ixN_seq e;exact⟨j,h1,h,h2,h3,h4⟩
def xN(b:Expr):Prop:=∀o i,subscripted b `g o i=operate [o,i] (getItem o i)
def Ba(X:Cx)(r:R2):Prop:=
 ∀(value slice:Expr)(Z_:List (Addr×Obj))(s:EN)(M:St)(H:Hp)(x y:V)(v u:EM)(Q:VK),14 X M H s->RelV x v->RelV y u->r x y H Q->subscripted slice `g v u=operate [v,u] (getItem v u)->21 `o X.w X.A (subscriptTail value slice v u) (EP X Z_ M Q) X.xe
def zB(X:Cx)(id:String)(r:V->`u->8 Hp VK):Prop:=
 ∀(Z_:List (Addr×Obj))(s:EN)(M:St)(H:Hp)(x:V)(xs:List V)(v:EM)(us:List EM)(Q:VK),14 X M H s->RelV x v->Vals xs us->r x xs H Q->21 `o X.w X.A (call (.builtin id)<|v::us) (EP X Z_ M Q) X.xe
section
variable{X:Cx}{a b:Expr}{ta tb:TE}{Z9:Pos}
theorem az{r:R2}(hr:Ba X r)(ha:PE X a ta)(hb:PE X b tb)(hs:xN b):PE X (.Subscript a b Z9) (dO r ta tb):=by
 intro Z_ s M H Q I h;exact Mo (A8 ha hb I h λv u s2 x y H2 I2 rx ry q=>hr a b Z_ s2 M H2 x y v u Q I2 rx ry q<|hs _ _)
def cP(K:EL):R2:=λx y H Q=>∃p xs i v,x=`E/\y=.int i/\SqL K H p xs/\0 (atI xs i) v/\Q v H
def de(K:EL):R2:=λx y H Q=>∃p xs i v,x=`E/\y=.int i/\SqT K H p xs/\0 (atI xs i) v/\Q v H
def dA:R2:=λx y H Q=>∃z i c,x=.str z/\y=.int i/\z.length<=sizeLine/\0 (atI z.cps.toList i) c/\Q (.str ⟨#[c]⟩) H
theorem xO:Ba X (cP X.K):=by
 intro value slice Z_ s M H x y v u Q I rx ry h hs;obtain⟨p,xs,i,z,rfl,rfl,hq,he,q⟩:=h;cases rx;obtain⟨t,rfl⟩:=ry;obtain⟨its,r,pl,hz⟩:=I.list hq;obtain⟨j,h1,h2,h3,h4,h5⟩:=nj he;obtain⟨w,ew,rw'⟩:=r.get h2;have hl:=r.length;have hn:=kP;have fin:EP X Z_ M Q w s:=⟨z,H,I,rw',q⟩
 by_cases h0:0<=i
 ·have hj:i.toNat=j:=by
   rw[Nc h0 h5]at h1;exact Ft h1
  exact item_listR pl.isList h0 `b (by rw[hj];simpa using ew) fin hs
 ·have hj:(i+(its.toArray.size:Int)).toNat=j:=by
   rw[MJ `b h4]at h1;rw[EW,<-hl];exact Ft h1
  exact Lf (x:=w) pl.isList.typeIs KI.lookup (wpAny_getItem_list_neg (Q:=λr s'=>r=w/\EP X Z_ M Q r s') pl.isList `b (by rw[EW]<;>omega) `b (by rw[hj];simpa using ew) ⟨`a,fin⟩) hs
theorem Aa:Ba X (de X.K):=by
 intro value slice Z_ s M H x y v u Q I rx ry h hs;obtain⟨p,xs,i,z,rfl,rfl,hq,he,q⟩:=h;cases rx;obtain⟨t,rfl⟩:=ry;obtain⟨its,r,pl,hz⟩:=I.tuple hq;obtain⟨j,h1,h2,h3,h4,h5⟩:=nj he;obtain⟨w,ew,rw'⟩:=r.get h2;have hl:=r.length;have hn:=kP;have fin:EP X Z_ M Q w s:=⟨z,H,I,rw',q⟩
 exact Lf (x:=w) pl.typeIs slot_tuple_getitem.lookup (getItem_tuple (j:=j) (Q:=λr s'=>r=w/\EP X Z_ M Q r s') pl `b `b (by rw[EW,<-hl];exact h1) (by simpa using ew) ⟨`a,fin⟩) hs
theorem cq:Ba X dA:=by
 intro value slice Z_ s M H x y v u Q I rx ry h hs;obtain⟨z,i,c,rfl,rfl,hz,he,q⟩:=h;obtain⟨t,rfl⟩:=rx;obtain⟨t',rfl⟩:=ry;obtain⟨j,h1,h2,h3,h4,h5⟩:=nj he;have hl:z.cps.toList.length=z.length:=by simp[MK]
 rw[hl]at h1 h4 h5;have hn:=kP;exact OY (NA s z t) slot_str_getitem.lookup (getItem_str (c:=c) (by
  have e1:decide (i< -(2^63:Int))=false:=decide_eq_false `b;have e2:decide (i≥2^63)=false:=decide_eq_false `b;rw[e1,e2,Bool.or_false]) (by rw[h1];simpa using h2) ⟨.str ⟨#[c]⟩,H,I.tok _,⟨_,`a⟩,q⟩) hs
theorem qk(its:List EM)(n j:Nat)(u:EM):Hn (·.setIfInBounds j u) {cls:=.type "list",data:=.seq its.toArray n}={cls:=.type "list",data:=.seq (its.set j u).toArray n}:=by
 simp[Hn]
theorem Inv.lst{Z_:7 Addr Obj}{M:St}{H:Hp}{s:EN}{p:Addr}{xs:`u}(I:14 X M H s)(h:0 (H p) (.lst xs)):
  ∃(its:List EM)(n:Nat),Vals xs its/\s.heap.get? p=some {cls:=.type "list",data:=.seq its.toArray n}/\xs.length<=sizeLine:=by
 obtain⟨z,its,n,r,e⟩:=I.hok p _ h;exact⟨its,n,r,e,z⟩
theorem Inv.lstUpd{Z_:7 Addr Obj}{M:St}{H:Hp}{s:EN}{p:Addr}{xs ys:`u}{its its':List EM}{n n':Nat}{f:Obj->Obj}(I:14 X M H s)(h:0 (H p) (.lst xs))
  (ho:s.heap.get? p=some {cls:=.type "list",data:=.seq its.toArray n}) (hf:f {cls:=.type "list",data:=.seq its.toArray n}={cls:=.type "list",data:=.seq its'.toArray n'}) (r:Vals ys its') (hz:ys.length<=sizeLine) (t:Nat):
  Inv X Z_ M (cT H p<|.lst ys) {s with heap:=s.heap.update p f,toks:=t}:=by
 have e:(s.heap.update p f).get? p=some {cls:=.type "list",data:=.seq its'.toArray n'}:=by
  rw[GY f ho (by rw[hf]<;>rfl),hf]
 refine I.write (x:=p) (e:=p) (by rw[h];trivial) `G (λb u hb q=>(Iw _ _<|Hx hb).trans q) ⟨_,e⟩ ?_;exact⟨hz,its',n',r,e⟩
def uE:V->V->V->Hp->(Hp->Prop)->Prop:=λo i v H Q=>∃p xs k j,o=`E/\i=.int k/\0 (H p) (.lst xs)/\0 (ixN `i k) j/\Q (cT H p<|.lst<|xs.set j v)
theorem kR:Bt X uE:=by
 intro Z_ s M H o i v ov iv u Q I ro ri rv h;obtain⟨p,xs,k,j,rfl,rfl,hp,hj,q⟩:=h;cases ro;obtain⟨t,rfl⟩:=ri;obtain⟨its,n,r,ho,hz⟩:=I.lst hp;obtain⟨h1,h2,h3,h4⟩:=ixN_seq hj;have hl:=r.length;have hn:=kP;have I':Inv X Z_ M (cT H p<|.lst<|xs.set j v) {s with heap:=s.heap.update p (Hn (·.setIfInBounds j u))}:=
  I.lstUpd hp ho (qk its n j u) (r.set rv j) (by rw[Hl];exact hz) s.toks
 by_cases h0:0<=k
 ·have hk:k.toNat=j:=by
   rw[Nc h0 h4]at h1;exact Ft h1
  exact PySem.W.ki_setAt ho h0 `b (by rw[EW,<-hl];exact h4) (by rw[hk];exact 9 I' q)
 ·have hk:(k+(its.toArray.size:Int)).toNat=j:=by
   rw[MJ `b h3]at h1;rw[EW,<-hl];exact Ft h1
  exact PySem.W.ki_setBack ho `b (by rw[EW,<-hl];exact h3) `b (by rw[hk];exact 9 I' q)
theorem nk(lo hi:`w)(n:Nat):(sliceBounds lo hi `c n).1=((HT.sIx n 0 lo:Nat):Int)/\(sliceBounds lo hi `c n).2.1=((HT.sIx n n hi:Nat):Int)/\(sliceBounds lo hi `c n).2.2=1:=by
 refine⟨?_,?_,`a⟩
 ·cases lo with
  |none=>simp[sliceBounds,HT.sIx]
  |some i=>
   simp only[sliceBounds,HT.sIx,L6,show(1:Int)>0 by decide,if_true];by_cases h:i<0;·simp only[h,if_true]<;>omega
   ·simp only[h,if_false]<;>omega
 ·cases hi with
  |none=>simp[sliceBounds,HT.sIx]
  |some i=>
   simp only[sliceBounds,HT.sIx,L6,show(1:Int)>0 by decide,if_true];by_cases h:i<0;·simp only[h,if_true]<;>omega
   ·simp only[h,if_false]<;>omega
theorem lU(its:List EM)(lo hi:`w):slicePick its.toArray lo hi `c=((its.drop<|HT.sIx its.length 0 lo).take<|HT.sIx its.length its.length hi-HT.sIx its.length 0 lo).toArray:=by
 obtain⟨h1,h2,h3⟩:=nk lo hi its.toArray.size;unfold slicePick;rw[h1,h2,h3];simp only[LS,pick_run,EW]<;>rfl
def df(K:EL):V->`w->`w->Hp->VK->Prop:=λx lo hi H Q=>∃a xs,x=.ref a/\SqL K H a xs/\∀p,H p=`c->Q `E (cT H p<|.lst<|qj xs lo hi)
theorem xP:Co X (df X.K):=by
 intro Z_ s M H x v vl vu lo hi sl Q I rx hs pl pu h;obtain⟨a,xs,rfl,hx,q⟩:=h;cases rx;obtain⟨its,r,ht,hz⟩:=I.list hx;have hlen:=r.length;refine⟨"list",_,KI.lookup,ht.isList.typeIs,?_⟩;refine KS ht.isList hs pl pu .none `f ?_ (by rw[EW]<;>omega);rw[lU,<-hlen];refine⟨`X,_,I.laid (t':=s.toks) (o:=.lst (qj xs lo hi)) (λb ob q=>EI _ q) (EX _) ?_,`a,q _<|I.hok.fresh<|EX _⟩;exact⟨Gy (oN xs lo hi) hz,_,0,(r.drop<|HT.sIx `i 0 lo).take<|HT.sIx `i `i hi-HT.sIx `i 0 lo,ES _ `a⟩
def flatV:V->Bool
 | .non=>true
 | .bl _=>true
 | .int _=>true
 | .str _=>true
 |_=>false
def eqV:V->V->Bool
 | .non,.non=>true
 | .bl a,.bl b=>a==b
 | .bl a,.int b=>(if a then 1 else 0)==b
 | .int a,.bl b=>a==(if b then 1 else 0)
 | .int a,.int b=>a==b
 | .str a,.str b=>a==b
 |_,_=>false
theorem Ab{A:FR}{s:EN}{y x:V}{u v:EM}(ry:RelV y u)(rx:RelV x v)(fy:1 (flatV y))(fx:1 (flatV x)):Mq A s u v (eqV y x):=by
 cases y with
 |non=>
  cases ry;cases x with
  |non=>cases rx;exact Nh _
  |bl b=>cases rx;exact OZ b
  |int b=>obtain⟨t,rfl⟩:=rx;exact Pc b t
  |str b=>obtain⟨t,rfl⟩:=rx;exact Pd b t
  |_=>exact absurd (show 1 `g from fx) F8
 |bl a=>
  cases ry;cases x with
  |non=>cases rx;exact P0 a
  |bl b=>cases rx;exact P4 a b
  |int b=>obtain⟨t,rfl⟩:=rx;exact Pe a b t
  |str b=>obtain⟨t,rfl⟩:=rx;exact Pf a b t
  |_=>exact absurd (show 1 `g from fx) F8
 |int a=>
  obtain⟨t',rfl⟩:=ry;cases x with
  |non=>cases rx;exact Pg a t'
  |bl b=>cases rx;exact Ph a t' b
  |int b=>obtain⟨t,rfl⟩:=rx;exact Kk a t' b t
  |str b=>obtain⟨t,rfl⟩:=rx;exact Mk a t' b t
  |_=>exact absurd (show 1 `g from fx) F8
 |str a=>
  obtain⟨t',rfl⟩:=ry;cases x with
  |non=>cases rx;exact Pj a t'
  |bl b=>cases rx;exact Pk a t' b
  |int b=>obtain⟨t,rfl⟩:=rx;exact Ml a t' b t
  |str b=>obtain⟨t,rfl⟩:=rx;exact Po a t' b t
  |_=>exact absurd (show 1 `g from fx) F8
 |_=>exact absurd (show 1 `g from fy) F8
def xQ(x:V)(u:EM):Bool:=match u with
 | .none=>eqV .non x
 | .bool b=>eqV (.bl b) x
 | .int i _=>eqV (.int i) x
 | .str z _=>eqV (.str z) x
 |_=>false
theorem uF{x y:V}{u:EM}(r:RelV y u)(f:1 (flatV y)):xQ x u=eqV y x:=by
 cases y with
 |non=>cases r;rfl
 |bl b=>cases r;rfl
 |int i=>obtain⟨t,rfl⟩:=r;rfl
 |str z=>obtain⟨t,rfl⟩:=r;rfl
 |_=>exact absurd (show 1 `g from f) F8
theorem nq{x:V}:∀{xs:List V}{us:List EM},Vals xs us->1 (xs.all flatV)->us.any (xQ x)=xs.any λy=>eqV y x
 |_,_,.nil,_=>rfl
 |y::xs,u::us, .cons r t,f=>by
  rw[KU,Gp]at f;rw[J8,J8,uF r f.1,nq t f.2]
theorem kS{A:FR}{s:EN}{x:V}{v:EM}(rx:RelV x v)(fx:1 (flatV x)):∀{xs:List V}{us:List EM},Vals xs us->1 (xs.all flatV)->∀u∈us,Mq A s u v (xQ x u)
 |_,_,.nil,_=>λu hu=>by cases hu
 |y::xs,u::us, .cons r t,f=>λu' hu=>by
  rw[KU,Gp]at f;rcases F0.mp hu with rfl|hu
  ·rw[uF r f.1];exact Ab r rx f.1 fx
  ·exact kS rx fx t f.2 u' hu
def Cp(x:V)(xs:`u):Bool:=xs.any λy=>eqV y x
def gV(K:EL)(neg:Bool):R2:=λx y H Q=>∃p xs,y=`E/\(SqL K H p xs\/SqT K H p xs)/\flatV x=true/\1 (xs.all flatV)/\Q (.bl (if neg then !Cp x xs else Cp x xs)) H
theorem nr:OpR X (compareOp .NotIn) (gV X.K true):=by
 intro Z_ s M H x y v u Q I rx ry h;obtain⟨p,xs,rfl,hq,fx,fs,q⟩:=h;cases ry;rcases hq with hq|hq
 ·obtain⟨its,r,pl,hz⟩:=I.list hq;refine Mr (xQ x) pl.isList (λw hw=>kS rx fx r fs w<|by simpa using hw) ⟨.bl _,H,I,`a,?_⟩;rw[show its.toArray.any (xQ x)=its.any (xQ x) by simp,nq r fs];exact q
 ·obtain⟨its,r,pl,hz⟩:=I.tuple hq;refine SeqAt.notIn_tupleAt (xQ x) pl (λw hw=>kS rx fx r fs w<|by simpa using hw) ⟨.bl _,H,I,`a,?_⟩;rw[show its.toArray.any (xQ x)=its.any (xQ x) by simp,nq r fs];exact q
theorem nt:ee X (.type "list") (λxs H Q=>∃p ys,xs=[.ref p]/\(SqL X.K H p ys\/SqT X.K H p ys)/\∀l,H l=`c->Q (.ref l) (cT H l<|.lst ys)):=by
 intro Z_ s M H xs us Q I r h;obtain⟨p,ys,rfl,hq,q⟩:=h;obtain⟨u,rfl,rx⟩:=ft r;cases rx;have fin:∀(its:List EM),Vals ys its->ys.length<=sizeLine->∀(h':Heap)(c':Nat),(∀b o',23 b o'->37 b o')->
   h'.get? s.heap.objs.size=some {cls:=.type "list",dict:=none,data:=.seq its.toArray c',slots:= #[]}->EP X Z_ M Q (`X) {s with heap:=h'}:=λits r' hz h' c' kp e=>⟨`X,_,I.laid (t':=s.toks) kp (EX _) (show ObjOk `o X.w _ h' _ (.lst ys)from⟨hz,its,c',r',e⟩),`a,q _<|I.hok.fresh<|EX _⟩
 rcases hq with hq|hq
 ·obtain⟨its,r',pl,hz⟩:=I.list hq;have hlen:=r'.length;obtain⟨o,ho,hc,n,hd⟩:=pl.isList;exact Oq p `G ho hc hd (λh' c' kp e=>fin its r' hz h' c' kp e) (by simp only[EW]<;>omega)
 ·obtain⟨its,r',pl,hz⟩:=I.tuple hq;have hlen:=r'.length;obtain⟨o,ho,hc,n,hd⟩:=pl;exact Oq p (.inr `a) ho hc hd (λh' c' kp e=>fin its r' hz h' c' kp e) (by simp only[EW]<;>omega)
theorem lV:ee X (.type "tuple") (λxs H Q=>∃p ys,xs=[.ref p]/\((SqL X.K H p ys/\∀l,H l=`c->Q (.ref l) (cT H l<|.tup ys))\/SqT X.K H p ys/\Q `E H)):=by
 intro Z_ s M H xs us Q I r h;obtain⟨p,ys,rfl,h⟩:=h;obtain⟨u,rfl,rx⟩:=ft r;cases rx;rcases h with⟨hq,q⟩|⟨hq,q⟩
 ·obtain⟨its,r',pl,hz⟩:=I.list hq;have hlen:=r'.length;refine call_tuple_list pl.isList (λh' kp=>?_) (by simp only[EW]<;>omega);have I1:Inv X Z_ M H {s with heap:=h'}:=I.kept (t':=s.toks) kp;have I2:Inv X Z_ M (cT H h'.objs.size<|.tup ys) {s with heap:=h'.push {cls:=.type "tuple",data:=.seq its.toArray}}:=
   I1.laid (t':=s.toks) (λb o e=>EI _ e) (EX _) (show ObjOk `o X.w _ _ _ (.tup ys)from⟨hz,its,r',IsTupD.new _ _⟩)
  exact⟨.ref h'.objs.size,_,I2,`a,q _<|I1.hok.fresh<|EX _⟩
 ·obtain⟨its,r',pl,hz⟩:=I.tuple hq;exact call_tuple_same pl ⟨`E,H,I,`a,q⟩
def Cq(K:EL)(T:String)(x:V)(H:Hp):Prop:=match x with
 | .str _=>T="str"
 | .int _=>T="int"
 | .ref p=>(T="list"/\∃xs,SqL K H p xs)\/(T="tuple"/\((∃o,0 (K.lookup p) o/\o.cls=.type "tuple"/\o.dict=`c)\/∃xs,SqT K H p xs))\/(T="dict"/\((∃kvs,0 (H p)<|.dK kvs)\/∃kvs,0 (H p) (.dT kvs)))\/T="set"/\∃S n,0 (H p) (.set S n)
 |_=>False
theorem uG{Z_:7 Addr Obj}{M:St}{H:Hp}{s:EN}{T:String}{x:V}{v:EM}(I:14 X M H s)(r:RelV x v)(ty:Cq X.K T x H):
  s.TypeIs v T/\∀a,v=.ref a->∃ob,23 a ob/\ob.dict=`c:=by
 cases x with
 |str z=>
  obtain⟨t,rfl⟩:=r;cases (show T="str" from ty);exact⟨NA s z t,λ_ e=>nomatch e⟩
 |int i=>
  obtain⟨t,rfl⟩:=r;cases (show T="int" from ty);exact⟨typeIs_int s i t,λ_ e=>nomatch e⟩
 |ref p=>
  cases r;rcases ty with⟨rfl,xs,hq⟩|⟨rfl,⟨o,hk,hc,hd⟩|⟨xs,hq⟩⟩|⟨rfl,hk⟩|⟨rfl,S,n,hk⟩
  ·obtain⟨its,_,pl,_⟩:=I.list hq;refine⟨pl.isList.typeIs,λa e=>?_⟩;cases e;obtain⟨o,n,e,c,hd,_⟩:=pl;exact⟨o,e,hd⟩
  ·refine⟨⟨o,I.kIn p o hk,hc⟩,λa e=>?_⟩;cases e;exact⟨o,I.kIn _ o hk,hd⟩
  ·obtain⟨o,e1,c1,d1⟩:∃o,23 p o/\o.cls=.type "tuple"/\o.dict=`c:=by
    rcases hq with hq|⟨o,its,n,hk,hc,_⟩
    ·obtain⟨_,_,_,o,e1,⟨c1,d1⟩,_⟩:=hq.ok I.hok;exact⟨o,e1,c1,d1⟩
    ·exact⟨o,I.kIn p o hk,hc.1,hc.2⟩
   refine⟨⟨o,e1,c1⟩,λa e=>?_⟩;cases e;exact⟨o,e1,d1⟩
  ·have z:∃o,23 p o/\o.ExactDict:=by
    rcases hk with⟨kvs,hk⟩|⟨kvs,hk⟩
    ·obtain⟨_,_,_,_,o,_,_,e,ex,_⟩:=I.hok p _ hk;exact⟨o,e,ex⟩
    ·obtain⟨_,_,_,_,o,_,_,e,ex,_⟩:=I.hok p _ hk;exact⟨o,e,ex⟩
   obtain⟨o,e,ex⟩:=z;refine⟨⟨o,e,ex.1⟩,λa e2=>?_⟩;cases e2;exact⟨o,e,ex.2.1⟩
  ·obtain⟨o,_,_,_,e,ex,_⟩:=I.hok p _ hk;refine⟨⟨o,e,ex.1⟩,λa e2=>?_⟩;cases e2;exact⟨o,e,ex.2.1⟩
 |_=>exact Ir ty
def dg(K:EL)(T:String)(r:V->`u->8 Hp VK)(to:TE):TE:=λM H Q=>to M H λx H1=>Cq K T x H1/\r x [] H1 Q
def fS(K:EL)(T:String)(r:V->`u->8 Hp VK)(to:TE)(t:TA):TE:=λM H Q=>to M H λx H1=>Cq K T x H1/\t M H1 λxs H2=>r x xs H2 Q
variable{o e:Expr}{es:List Expr}{to:TE}{t:TA}{name:Str}{Z5 Z6:Pos}{T id:String}{r:V->`u->8 Hp VK}
theorem Ac(pa:Ms T)(slot:Slot T name id)(hty:typeOf (.builtin id)=pure (.type "method_descriptor"))(hm:zB X id r)(ho:PE X o to)
  (hbase:attributeBase o name X.env (26 o)=26 o:=by rfl) (hline:1 (Z5.endLine==Z6.line):=by rfl):PE X (.Call (.Attribute o name Z5) [] [] Z6) (dg X.K T r to):=by
 intro Z_ s M H Q I h;refine wpAny_Call_method0_late hbase hline (cx (ho Z_ s M H _ I h) λv s1 zz=>?_);obtain⟨x,H1,I1,r1,ty,q1⟩:=zz;obtain⟨h1,h2⟩:=uG I1 r1 ty;exact⟨T,id,pa,slot,hty,h1,h2,Lg `a<|PySem.evalArgs_none<|hm Z_ s1 M H1 x [] v [] Q I1 r1 .nil q1⟩
theorem BA(pa:Ms T)(slot:Slot T name id)(hty:typeOf (.builtin id)=pure (.type "method_descriptor"))(hm:zB X id r)(ho:PE X o to)(ha:PA X (e::es) t)
  (hbase:attributeBase o name X.env (26 o)=26 o:=by rfl)
  (hfew:1 ((backTo Z6<|32<|e::es).all (λx=> !x.1) && (backToKw Z6<|keywordEach [] X.env).all (λx=>x.1.isSome)
   &&decide ((e::es).length+([]:List Lh).length+(if([]:List Lh).isEmpty then 0 else 1)<30)):=by rfl)
  (hline:1 (Z5.endLine==Z6.line):=by rfl) (hs:32 (e::es)=(false,26 e)::32 es:=by rfl) (hplain:(backTo Z6<|32 es).any (·.1)=`g:=by rfl):
  PE X (.Call (.Attribute o name Z5) (e::es) [] Z6) (fS X.K T r to t):=by
 intro Z_ s M H Q I h;refine Li hbase hfew hline `a (cx (ho Z_ s M H _ I h) λv s1 zz=>?_);obtain⟨x,H1,I1,r1,ty,q1⟩:=zz;obtain⟨h1,h2⟩:=uG I1 r1 ty;refine⟨T,id,pa,slot,hty,h1,h2,?_⟩;have hA:=ha Z6 Z_ s1 M H1 _ I1 q1;rw[hs]at hA ⊢;refine Lg (by show(`g||(backTo Z6<|32 es).any (·.1))=`g;rw[hplain]<;>rfl) (Calls.evalArgs_plain ?_);refine cx hA λus s2 zz=>?_;obtain⟨vs,H2,I2,r2,q2⟩:=zz;exact hm Z_ s2 M H2 x vs v us Q I2 r1 r2 q2
end
def Dt(X:Cx)(id:String)(r:V->`u->8 Hp VK):Prop:=
 ∀(Z_:List (Addr×Obj))(s:EN)(M:St)(H:Hp)(x:V)(xs:List V)(v:EM)(us:List EM)(Q:VK),14 X M H s->RelV x v->Vals xs us->r x xs H Q->21 `o X.w X.A (call (.builtin id)<|v::us) (EP X Z_ M Q) X.xe
theorem Vals.one:∀{x:V}{us:List EM},Vals [x] us->∃u,us=[u]/\RelV x u
 |_,_,.cons r .nil=>9 `a r
theorem Vals.eraseIdx:∀{xs:List V}{us:List EM}(i:Nat),Vals xs us->Vals (xs.eraseIdx i) (us.eraseIdx i)
 |_,_,_,.nil=>.nil
 |_,_,0,.cons _ t=>t
 |_,_,i+1,.cons r t=>.cons r (Vals.eraseIdx i t)
theorem mE{Z:Type}:∀(l:List Z)(i:Nat),(l.eraseIdx i).length<=l.length
 | [],_=>EX _
 |_::_,0=>JO _
 |_::r,i+1=>Nat.succ_le_succ (mE r i)
section
variable{X:Cx}{Z_:7 Addr Obj}{M:St}{H:Hp}{s:EN}{l b:Addr}{xs ys zs:`u}
theorem Inv.lset{its its':List EM}{n:Nat}{f:Array EM->Array EM}{t':Nat}(I:14 X M H s)(hH:0 (H l) (.lst xs))
  (e:s.heap.get? l=some {cls:=.type "list",data:=.seq its.toArray n}) (hf:f its.toArray=its'.toArray) (hv:Vals ys its') (hz:ys.length<=sizeLine):
  Inv X Z_ M (cT H l<|.lst ys) {s with heap:=s.heap.update l<|Hn f,toks:=t'}:=by
 have q:=PySem.IsL.update e f;rw[hf]at q;refine I.write (x:=l) (e:=l) (by rw[hH];exact trivial) `G (λb' u hb hu=>(Iw `p (Hn f)<|Hx hb).trans hu) ⟨_,q⟩ ?_;exact⟨hz,its',_,hv,q⟩
theorem Inv.lnew{its:List EM}{t':Nat}(I:14 X M H s)(hv:Vals ys its)(hz:ys.length<=sizeLine):
  Inv X Z_ M (cT H `P<|.lst ys) {s with heap:=s.heap.push {cls:=.type "list",data:=.seq its.toArray},toks:=t'}:=
 I.laid (λ_ _ q=>EI _ q) (EX _) ⟨hz,its,0,hv,ES _ `a⟩
theorem Inv.fresh(I:14 X M H s):H `P=`c:=I.hok.fresh (EX _)
theorem Inv.lstM(I:14 X M H s)(hH:0 (H l) (.lst xs)):xs.length<=sizeLine/\∃(its:List EM)(n:Nat),Vals xs its/\xs.length=its.length/\s.heap.get? l=some {cls:=.type "list",data:=.seq its.toArray n}:=by
 obtain⟨z,its,n,r,e⟩:=I.hok l _ hH;exact⟨z,its,n,r,r.length,e⟩
end
section
variable{X:Cx}
def aS:V->`u->8 Hp VK:=λx vs H Q=>∃l xs y,x=.ref l/\vs=[y]/\0 (H l) (.lst xs)/\`i<sizeLine/\Q .non (cT H l<|.lst<|xs++[y])
theorem sS:Dt X "list.append" aS:=by
 intro Z_ s M H x vs v us Q I rx rv h;obtain⟨l,xs,y,rfl,rfl,hH,hz,q⟩:=h;cases rx;obtain⟨u,rfl,ru⟩:=rv.one;obtain⟨z,its,n,r,hl,e⟩:=I.lstM hH;refine NB LA (9 e `a) F.entry_list_append (F.args_list_append_2 _ _) (PySem.list_append l its.toArray n u (by rw[EW];omega)) ⟨e,?_⟩;refine⟨.non,_,I.lset (its':=its++[u]) hH e `f (r.append<|.cons ru .nil) ?_,`a,q⟩;rw[FJ,GZ];omega
def uH:V->`u->8 Hp VK:=λx vs H Q=>∃l xs i k y,x=.ref l/\vs=[.int i]/\H l=some (.lst xs)/\ -(2^63)<=i/\i<2^63/\seqIndex? i xs.length=some k/\xs[k]? =some y/\Q y (cT H l<|.lst<|xs.eraseIdx k)
theorem oO:Dt X "list.pop" uH:=by
 intro Z_ s M H x vs v us Q I rx rv h;obtain⟨l,xs,i,k,y,rfl,rfl,hH,h1,h2,hk,hy,q⟩:=h;cases rx;obtain⟨u,rfl,ru⟩:=rv.one;obtain⟨t,rfl⟩:=ru;obtain⟨z,its,n,r,hl,e⟩:=I.lstM hH;obtain⟨w,hw,rw'⟩:=r.get hy;refine NB K9 (9 e `a) F.entry_list_pop (F.args_list_pop_2 _ _) (MeetsSeq.list_pop_at l its.toArray n i t k w (NC h1 h2) (by rw[EW,<-hl];exact hk) (by rw[<-FG];exact hw) (by rw[EW];omega)) ⟨e,?_⟩
 refine⟨y,_,I.lset (its':=its.eraseIdx k) hH e ?_ (r.eraseIdx k) ?_,rw',q⟩
 ·show its.toArray.eraseIdxIfInBounds k=(its.eraseIdx k).toArray;rw[List.eraseIdxIfInBounds_toArray]
 ·have:=mE xs k;omega
def dB:R2:=λx y H Q=>∃l b xs zs,x=.ref l/\y=.ref b/\0 (H l) (.lst xs)/\0 (H b) (.lst zs)/\`i+zs.length<=sizeLine/\∀p,H p=`c->Q `E (cT H p<|.lst<|xs++zs)
theorem ql:OpR X (binaryOp .Add) dB:=by
 intro Z_ s M H x y v u Q I rx ry h;obtain⟨l,b,xs,zs,rfl,rfl,hH,hB,hz,q⟩:=h;cases rx;cases ry;obtain⟨z,its,n,r,hl,e⟩:=I.lstM hH;obtain⟨z2,its2,n2,r2,hl2,e2⟩:=I.lstM hB;refine PySem.P.add_list e e2 ?_ (by rw[EW,EW];omega);have ea:its.toArray++its2.toArray=(its++its2).toArray:=`f
 rw[ea];exact⟨.ref _,_,I.lnew (t':=s.toks) (r.append r2) (by rw[FJ];omega),`a,q _ I.fresh⟩
end
section
variable{κ:Type}[DecidableEq κ]
def j5(kvs:7 κ V)(k:κ):Option V:=(kvs.find? λkv=>decide<|kv.1=k).map (·.2)
def qm(kvs:7 κ V)(k:κ)(v:V):7 κ V:=
 if 1 (kvs.any λkv=>decide<|kv.1=k) then kvs.map (λkv=>if kv.1=k then(kv.1,v)else kv)else kvs++[(k,v)]
theorem i4{p:κ×V}{r:7 κ V}{k:κ}(e:p.1=k):0 (j5 (p::r) k) p.2:=by simp[j5,H0,e]
theorem i5{p:κ×V}{r:7 κ V}{k:κ}(e:¬p.1=k):j5 (p::r) k=j5 r k:=by simp[j5,H0,e]
theorem oP(k:κ):∀kvs:List (κ×V),(kvs.any λkv=>decide<|kv.1=k)=(j5 kvs k).isSome
 | []=>rfl
 |p::r=>by
  rw[J8];by_cases e:p.1=k;·simp only[i4 e,decide_eq_true e,Bool.true_or,Mt]
  ·rw[i5 e,decide_eq_false e,Bool.false_or];exact oP k r
theorem RelO.isSome_eq{o:Option V}{u:`Q}(r:RelO o u):o.isSome=u.isSome:=by
 cases o with
 |none=>cases u with
  |none=>rfl
  |some _=>exact(show False from r).elim
 |some _=>cases u with
  |none=>exact(show False from r).elim
  |some _=>rfl
theorem KV.val{kvs:7 κ V}{vs:7 κ EM}(r:KV kvs vs)(k:κ):RelO (j5 kvs k) (valueAt vs k):=by
 unfold KV at r
 induction r with
 |nil=>exact Iu
 | @cons p q ps qs h t ih=>
  obtain⟨h1,h2⟩:=h;by_cases e:p.1=k
  ·have e':q.1=k:=h1.symm.trans e;have b:0 (valueAt (q::qs) k) q.2:=by simp[valueAt,H0,e']
   rw[i4 e,b];exact h2
  ·have e':¬q.1=k:=λz=>e (h1.trans z);have b:valueAt (q::qs) k=valueAt qs k:=by simp[valueAt,H0,e']
   rw[i5 e,b];exact ih
end
theorem zC{P:F6}{w:Fh}{k:Key}{u:EM}(r:RelV (kV k) u):1 ((mixKind P w).is k u):=by
 cases k with
 |inl i=>obtain⟨t,e⟩:=(show ∃t,u=J2 i t from r);subst e;exact oC P w i t
 |inr x=>obtain⟨t,e⟩:=(show ∃t,u=MU x t from r);subst e;exact oD P w x t
theorem mF{P:F6}{w:Fh}:∀{ks:List Key}{us:List EM},Vals (ks.map kV) us->ItemsAre (mixKind P w) ks us
 | [],_,r=>by rw[J5]at r;cases r;exact .nil
 |k::ks,_,r=>by
  rw[FQ]at r;cases r with
  |cons h t=>exact .cons (zC h) (mF t)
section
variable{X:Cx}{Z_:7 Addr Obj}{M:St}{H:Hp}{s:EN}{a:Addr}{y v:V}{u r:EM}{o:Option V}{A:FR}{E:8 EM EN}
theorem Inv.big(I:14 X M H s):sysModules<`P:=by
 have h:`T<`P:=(I.mod.glob.keeps I.bk).lt;exact Lj ⋯ h
theorem rn{h':Heap}{t':Nat}{ob:HO}(I:14 X M H s)(mu:Bq (H a))(hs:Fg a `p h')(he:∃q,37 a q)(new:ObjOk `o X.w (cT H a ob) h' a ob):
  Inv X Z_ M (cT H a ob) {s with heap:=h',toks:=t'}:=
 I.write (x:=a) (e:=a) mu `G (λb q hb z=>(hs.2 b hb).trans z) he new
end
def uI(i:Expr):Prop:=∀ov iv,subscripted i `g ov iv=operate [ov,iv] (getItem ov iv)
theorem rp{prog:F6}{w:Fh}{A:FR}{E:8 EM EN}{s:EN}{env:Env}{value slice:Expr}{Z9:Pos}{T id:String}{Q:8 EM EN}
  (hl:typeLookup (.type T) "__getitem__"=pure (some<|.builtin id)) (hs:uI slice)
  (h:21 prog w A (eval value env) (λo s₁=>wpAny (model prog w) A (eval slice env) (λi s₂=>s₂.TypeIs o T/\wpAny (model prog w) A (getItem o i) Q E s₂) E s₁) E):
  21 prog w A (eval (.Subscript value slice Z9) env) Q E:=by
 refine Mo (Gi h (λo s₁ h₁=>Gi h₁ (λi s₂ h₂=>?_) λ_ _ x=>x) λ_ _ x=>x);obtain⟨hT,h₂⟩:=h₂;unfold subscriptTail;refine EF ?_;rw[getitemInPython_of_ne hT.not_modules];refine EF (Jd hT hl ?_);have fin:wpAny (model prog w) A (subscripted slice `g o i) (λr s₃=>wpAny (model prog w) A (letTemporaryGo value o r>>=λ_=>pure r) Q E s₃) E s₂:=by
  rw[hs o i];exact wpAny_operating (Gi h₂ (λr s₃ h₃=>EF<|wpAny_letTemporaryGo<|EK h₃) λ_ _ x=>x)
 first
  |exact EK (EF fin)
  |exact EF (EK<|EF fin)
  |exact EF fin
end L2
namespace Att
open PySem PySem.W PySem.Calls PyProof.Rows
theorem k6{P:Pp}{h:Heap}:∀(ns:List Int)(vs:List EM),WellAll P h vs (ns.map PH)->MI vs ns:=by
 intro ns
 induction ns with
 |nil=>
  intro vs w;rw[J5]at w;cases w;exact .nil
 |cons n ns ih=>
  intro vs w;rw[FQ]at w;cases w with
  |cons a b=>
   cases a;exact .cons _ _ (ih _ b)
theorem sT{l:JP}{n:Nat}(hn:0 l.most n){P:Pp}{h:Heap}{args:List WData}{vals:List EM}
  (hpre:1 (l.row.toRowW.claim.pre args)) (hwl:WellAll P h vals args):
  ∃a vs ns,vals=[G8 a]/\args=[WData.list (ns.map PH)]/\h.get? a=some {cls:=.type "list",data:=.seq vs.toArray}/\MI vs ns/\ns.length<=n:=by
 have hsh:1 (WShape.hasAll [] args [.list .int]):=(pre_splitW hpre).1;have hc:l.pre.holds [] {args:=args}=true:=(pre_splitW hpre).2;obtain⟨d,r,rfl,h1,h2⟩:=hasAllW_cons hsh;obtain rfl:=hasAllW_nil h2;obtain⟨xs,rfl,h3⟩:=hasW_list h1;obtain⟨ns,rfl⟩:=items_int h3;have hlen:ns.length<=n:=by
  unfold OpenLaw.pre at hc;have h4:(WTm.not<|.lt (.lit<|.int (n:Int))<|.len<|.arg 0).holds [] {args:=[.list (ns.map .int)]}=true:=by
   have h4:=(holds_andW hc).1;rw[hn]at h4;exact h4
  have h5:=condW_of h4 (w_not<|w_lt w_lit<|w_len_list<|w_arg `a);rw[EY]at h5;refine Nat.le_of_not_lt λq=>?_;have q':(n:Int)<((ns.length:Nat):Int):=`b
  first
   |(rw[decide_eq_true q']at h5;exact absurd h5 ⋯)
   |(simp at h5;omega)
 cases hwl with
 |cons w1 w2=>
  cases w2;cases w1 with
  |list ho hall=>exact⟨_,_,ns,`a,`a,ho,k6 ns _ hall,hlen⟩
theorem sU(l:JP)(args:List WData):1 (l.row.toRowW.claim.post args (.bool true) args):=
 postW_of (r:=l.row.toRowW) (X:=true==true) (show Pq [] (.bool true) .bool=true by first|rfl|decide|simp[Pq,WShape.arms,WShape.armsAll]) (show(WTm.eq .res<|.lit<|.bool true).value [] {args:=args,res:=some (.bool true),after:=args}=some (.bool<|true==true)from w_eq_bool (w_res `a) w_lit) `a
theorem attach_call{l:JP}{n:Nat}{q:F6}{loose:`I}{XP:8 (Str->`Q) Heap}{YP:8 Fh Heap}{d:DefRec}
  (hn:0 l.most n) (hdf:d.params.defaults=[])
  (call:∀(w:Fh) (s₀ s₁:EN) (mg mb:Str->`Q) (fa:Addr) (o:Obj) (pm cd doc:EM) (a:Addr) (vs:List EM) (ns:`H),
   Ground q loose [] XP w s₀ mg mb s₁.heap->YP w s₁.heap->
   s₁.heap.get? fa=some o->o.data=.func (docDef d.name d.params d.body d.scope pm cd doc)->s₁.heap.CodeRec cd d.name->mg d.name=some (.ref fa)->
   s₁.heap.get? a=some {cls:=.type "list",data:=.seq vs.toArray}->MI vs ns->ns.length<=n->s₁.gens= #[]->
   codeAny (model l.prog w) callerA (.call (.ref fa) ⟨[.ref a],[]⟩) (λr s'=>r=.ok (.ret<|.bool true)/\OldK s₁.heap s'.heap/\s'.os=s₁.os/\KH s'.gens) s₁):
  Nu q `d XP YP l.row.toRowW d [] (λf vs=>ND f vs):=by
 intro w s₀ s₁ mg mb G Y fa o pm cd doc dV kV ho hd hcd hD hmg hg args vals as hpre hlay hrd hwl hlo;obtain rfl:dV=.none:=Dflts.none hD hdf;obtain rfl:kV=.none:=Dflts.noKw hD;obtain⟨a,vs,ns,rfl,rfl,hobj,hints,hlen⟩:=sT hn hpre hwl;refine enter_call (J4 (call w s₀ s₁ mg mb fa o pm cd doc a vs ns G Y ho (fd_plain hd) hcd hmg hobj hints hlen hg) λr s' hq=>?_);obtain⟨rfl,h2,h3,h4⟩:=hq;exact⟨.inl ⟨.bool true,.bool true,[],`a,λ_=>`a,.bool true,sU l _,λ_=>⟨IL,λ_ hm=>(nomatch hm)⟩⟩,h2,h3,h4⟩
end Att
namespace L2
open PySem PySem.Spec PyProof.Rows
theorem jF:∀{vs:List EM}{ns:List Int},MI vs ns->Vals (ns.map Im) vs
 |_,_,.nil=>.nil
 |_,_,.cons n t h=>.cons ⟨t,`a⟩ (jF h)
def Ad(H:Hp):Prop:=∀b,H b=`c\/∃o xs,0 (H b) (.frz o<|.lst xs)
theorem uJ{P:F6}{w:Fh}{K:EL}{mg mb:Str->`Q}{CX:CXT}{k:Nat}{fa a:Addr}{fd:Fi}{x:Str}{sp:Sp}{s₁:EN}{vs:List EM}{ns:`H}
  (KX:K.In s₁.heap) (hns:s₁.heap.Ns `T mg) (hb:s₁.heap.Ns builtinsNs mb) (hbb:∀x:Str,x≠"__name__"->mb x=bootBuiltins x) (hlim:s₁.heap.NoLimit) (hg:s₁.gens=#[])
  (ha:s₁.heap.get? a=some {cls:=.type "list",data:=.seq vs.toArray}) (hi:MI vs ns) (hl:ns.length<=sizeLine) (hr:Room k callerA)
  (F:∀base:Heap,K.In base->base.Ns `T mg->FnOk P w K mg base CX k fa fd [x] sp) (hbind:∀(s:EN)(u:EM),MH s fd ⟨[u],[]⟩ [(x,u)])
  (hsp:∀H:Hp,Ad H->SqL K H a (ns.map Im)->sp [.ref a] H (λv _=>v=.bl true) λ_ _ _=>False)
  (hCX:∀H e s',CX [] H s₁ (λ_ _ _=>False) e s'->False):
  codeAny (model P w) callerA (.call (.ref fa) ⟨[.ref a],[]⟩) (λr s'=>r=.ok (.ret<|.bool true)/\OldK s₁.heap s'.heap/\s'.os=s₁.os/\KH s'.gens) s₁:=by
 have rv:=jF hi;have lenV:=hi.length;have core:∀H:Hp,Ad H->SqL K H a (ns.map Im)->HOk P w H s₁.heap->(∀b,H b≠`c->b=a)->(H a≠`c->K.lookup a=`c)->codeAny (model P w) callerA (.call (.ref fa) ⟨[.ref a],[]⟩) (λr s'=>r=.ok (.ret<|.bool true)/\OldK s₁.heap s'.heap/\s'.os=s₁.os/\KH s'.gens) s₁:=by
  intro H hO hS hok hA hK;have base_of:∀{b:Addr}{o:Obj},0 (s₁.heap.get? b) o->H b=`c->0 ((ng s₁.heap H).get? b) o:=λe n=>uy e n;have noA:∀{b:Addr}{o:Obj}{es:Array HI}{ep:Nat},0 (s₁.heap.get? b) o->o.data=.dict es ep->H b=`c:=λ{b o es ep}e d=>by
   cases q:H b with
   |none=>rfl
   |some u=>
    have e':b=a:=hA b (by rw[q];simp);subst e';rw[ha]at e;cases e;have d':LU vs.toArray _=Data.dict es ep:=d;cases d'
  have nsK:∀{b:Addr}{m:Str->Option EM},s₁.heap.Ns b m->(ng s₁.heap H).Ns b m:=λ{b m}⟨o,es,ep,e,d,r⟩=>⟨o,es,ep,base_of e<|noA e d,d,r⟩
  have hKb:K.In (ng s₁.heap H):=λb o e=>base_of (KX b o e) (by
   cases q:H b with
   |none=>rfl
   |some u=>
    have e':b=a:=hA b (by rw[q];simp);subst e';rw[hK (by rw[q];simp)]at e;cases e)
  have hM:Mod K mg (ng s₁.heap H):=⟨hKb,nsK hns,⟨mb,nsK hb,hbb⟩,let ⟨mc,h1,h2⟩:=hlim;⟨mc,nsK h1,h2⟩⟩
  have e0:Env0 P w K mg (ng s₁.heap H) callerA [] s₁ H:=⟨rfl,hM,λb o e=>xG e,Nat.le_of_eq (sI _ _),trivial,λb hb=>absurd (show b∈([]:List Addr)from hb) `f,hok,.of_eq hg⟩
  refine J4 ((F _ hKb<|nsK hns).run callerA [] s₁ H ⟨[.ref a],[]⟩ [.ref a] [.ref a] _ _ hr e0 (hbind s₁<|.ref a) (.cons `a .nil)<|hsp H hO hS) λr s' h=>?_;cases r with
  |error e=>exact(hCX H e s' h).elim
  |ok fl=>
   cases fl with
   |next=>exact Ir h
   |brk=>exact Ir h
   |cont=>exact Ir h
   |ret u=>
    obtain⟨v,H',os,bare,un,hok',r',q⟩:=h;have q':v=.bl true:=q;subst q';obtain rfl:u=Mm true:=r';refine⟨`a,OldK.of_keep λb o e=>?_,os,bare⟩;cases q:H b with
    |none=>exact un.keep b o e q (by intro z;exact absurd (show b∈([]:List Addr)from z) `f) `f
    |some u=>
     rcases hO b with z|⟨ob,xs,z⟩
     ·rw[q]at z;cases z
     ·have z2:=un.frzs b ob _ z;obtain⟨e1,_⟩:=hok b _ z;obtain⟨e2,_⟩:=hok' b _ z2;rw[e]at e1;cases e1;exact e2
 cases hk:K.lookup a with
 |some o=>
  have e:=KX a o hk;rw[ha]at e;cases e;refine core (λ_=>`c) (λ_=>`G) (.inr ⟨_,vs.toArray,_,hk,rfl,rfl,rfl,by rw[EW,lenV];exact hl,by simpa using rv⟩) (λb u z=>by have z':0 (none:Option HO) u:=z;cases z') (λb z=>absurd `a z) λz=>absurd `a z
 |none=>
  refine core (λb=>if b=a then some (.frz {cls:=.type "list",data:=.seq vs.toArray}<|.lst<|ns.map Im)else none) (λb=>?_) (.inl<|.inr ⟨{cls:=.type "list",data:=.seq vs.toArray},Z0 `a⟩) (λb u z=>?_) (λb z=>?_) λ_=>hk
  ·by_cases hb:b=a;·exact .inr (9 _<|Z0 hb)
   ·exact .inl (Z1 hb)
  ·by_cases hb:b=a
   ·have z':=(Z0 hb).symm.trans z;cases z';subst hb;exact⟨ha,by rw[EY];exact hl,vs,_,rv,ha⟩
   ·have z':=(Z1 hb).symm.trans z;cases z'
  ·by_cases hb:b=a;·exact hb
   ·exact absurd (Z1 hb) z
theorem walk_of{l:JP}{n k:Nat}{q:F6}{loose:`I}{XP:8 (Str->`Q) Heap}{YP:8 Fh Heap}{d:DefRec}{K:Pp->EL}{CX:Fh->CXT}{sp:Fh->Sp}{x:Str}
  (hn:0 l.most n) (hn2:n<=sizeLine) (hdf:d.params.defaults=[]) (hr:Room k callerA)
  (hY:∀(w:Fh)(h:Heap),YP w h->(K w.params).In h)
  (F:∀(w:Fh) (mg:Str->Option EM) (fa:Addr) (h:Heap),(K w.params).In h->h.Ns `T mg->0 (mg d.name) (.ref fa)->∃fd:Fi,(∀(s:EN)(u:EM),MH s fd ⟨[u],[]⟩ [(x,u)])/\∀base:Heap,(K w.params).In base->base.Ns `T mg->FnOk l.prog w (K w.params) mg base (CX w) k fa fd [x] (sp w))
  (hsp:∀(w:Fh)(H:Hp)(a:Addr)(ns:List Int),ns.length<=n->Ad H->SqL (K w.params) H a (ns.map Im)->sp w [.ref a] H (λv _=>v=.bl true) λ_ _ _=>False)
  (hCX:∀(w:Fh)(H:Hp)(s:EN)(e:EM)(s':EN),CX w [] H s (λ_ _ _=>False) e s'->False):
  Nu q `d XP YP l.row.toRowW d [] (λf vs=>ND f vs):=by
 refine Att.attach_call hn hdf λw s₀ s₁ mg mb fa o pm cd doc a vs ns G Y ho hd hcd hmg hobj hints hlen hg=>?_;have KX:=hY w _ Y;obtain⟨fd,hb,hF⟩:=F w mg fa _ KX G.T.g hmg;exact uJ KX G.T.g G.T.b G.T.builtins G.T.nolimit hg hobj hints (Gy hlen hn2) hr hF hb (λH hO hS=>hsp w H a ns hlen hO hS) λH e s'=>hCX w H s₁ e s'
def defArgs(s:Stmt):Arguments:=match s with
 | .FunctionDef _ a _ _ _ _ _ _ _ _=>a
 |_=>{posonlyargs:=[],args:=[],vararg:=none,kwonlyargs:=[],kw_defaults:=[],kwarg:=none,defaults:=[]}
def defBody(s:Stmt):List Stmt:=match s with
 | .FunctionDef _ _ b _ _ _ _ _ _ _=>b
 |_=>[]
def defScope(s:Stmt):ID:=match s with
 | .FunctionDef _ _ _ _ _ _ sc _ _ _=>sc
 |_=>{kind:=.function,names:=[],isGenerator:=false,isCoroutine:=false}
abbrev CX0:CXT:=λ_ _ _ _ _ _=>False
abbrev E0:XK:=λ_ _ _=>False
theorem BB{X:Cx}:qi CX0 X E0:=λ_ _ _ _ _ _ _ h=>h.elim
structure Fun(K:EL)(x Z4:Str)(st:Stmt)(f:Addr)(fd:Fi):Prop where
 ex:∃(oc:EM)(od:Option Addr)(kV doc pm:EM)(an:Option Addr)(Z7 ct:EM)(osl:Array (Option EM)),fd=Hq x Z4 (defArgs st) (defBody st) (defScope st) .none kV doc pm an Z7 ct/\0 (K.lookup f) ⟨oc,od,.func fd,osl⟩/\1 (IW K Z7 Z4)
 kp:1 (Ic K<|.ref f)
section
variable{P:F6}{w:Fh}{K:EL}{mg:Str->`Q}{base:Heap}
theorem Fun.ok{x Z4:Str}{st:Stmt}{f:Addr}{fd:Fi}{N ps:`I}{k:Nat}{sp:Sp}(F:Fun K x Z4 st f fd)(S:31 N ps st)(len:∀vs H Q E,sp vs H Q E->`O=ps.length)
  (hbody:∀(Z7:EM) (A:FR) (outer:List Env) (s:EN) (H:Hp) (vs:`u) (Q:VK) (E:XK),Room k (A.deeper<|envOfC Z4 (defScope st) `P f Z7)->sp vs H Q E->
   ∃t,PSs (sQ CX0 P w K mg base N Z4 (defScope st) f Z7 A outer s H E).nox (defBody st) t/\t {nx:=λ_ H'=>Q .non H',rt:=Q} (start N vs) H):FnOk P w K mg base CX0 (k+1) f fd ps sp:=by
 obtain⟨oc,od,kV,doc,pm,an,Z7,ct,osl,rfl,lk,hcd⟩:=F.ex;refine Bz lk hcd S len λA outer s H vs Q E hr hsp=>?_;obtain⟨t,h,q⟩:=hbody Z7 A outer s H vs Q E hr hsp;exact⟨t,h.nox,q⟩
theorem Fun.binds{x Z4:Str}{st:Stmt}{f:Addr}{fd:Fi}{ps:`I}(F:Fun K x Z4 st f fd)
  (h:∀(kV doc pm:EM)(an:Option Addr)(Z7 ct:EM)(us:List EM),us.length=ps.length->bindArgs (Hq x Z4 (defArgs st) (defBody st) (defScope st) .none kV doc pm an Z7 ct) ⟨us,[]⟩=pure (ps.zip us)):Binds K fd ps []:=by
 obtain⟨oc,od,kV,doc,pm,an,Z7,ct,osl,rfl,lk,hcd⟩:=F.ex;exact .all (h kV doc pm an Z7 ct)
theorem nu{x Z4:Str}{st:Stmt}{f:Addr}{oc:EM}{od an:Option Addr}{osl:Array `Q}{kV doc pm Z7 ct:EM}(l:0 (K.lookup f) ⟨oc,od,.func<|Hq x Z4 (defArgs st) (defBody st) (defScope st) .none kV doc pm an Z7 ct,osl⟩)
  (c:1 (IW K Z7 Z4)) (k:1 (Ic K<|.ref f)):Fun K x Z4 st f (Hq x Z4 (defArgs st) (defBody st) (defScope st) .none kV doc pm an Z7 ct):=⟨⟨oc,od,kV,doc,pm,an,Z7,ct,osl,`a,l,c⟩,k⟩
end
section
variable{X:Cx}
theorem pv(i:Nat){x:Str}{Z9:Pos}(hN:0 X.N[i]? x:=by rfl)(hv:Vis X.env.scope x:=by first|exact OG rfl|exact NF (OG `a)|exact NF (NF `a))(hd:(x==("__debug__" :Str))=`g:=by decide)
  (hcd:(x==("__classdict__" :Str))=`g:=by decide):PE X (.Name x Z9) (bZ i):=A0 hN hv hd hcd
end
def Same(H H':Hp):Prop:=∀b o,0 (H b) o->0 (H' b) o
theorem Same.refl(H:Hp):Same H H:=λ_ _ h=>h
theorem Same.trans{H H1 H2:Hp}(a:Same H H1)(b:Same H1 H2):Same H H2:=λc o h=>b c o (a c o h)
theorem Same.seq{K:EL}{H H':Hp}{a:Addr}{xs:`u}(e:Same H H')(h:SqL K H a xs):SqL K H' a xs:=by
 rcases h with(h|⟨o,h⟩)|h;·exact .inl (.inl<|e _ _ h)
 ·exact .inl (.inr ⟨o,e _ _ h⟩)
 ·exact .inr h
end L2
set_option maxHeartbeats 4000000
namespace L2
open PySem PySem.Spec PyProof.Rows
abbrev aU(l:List Nat):Str:=⟨l.toArray⟩
theorem dP(l:List Nat):(aU l).length=l.length:=by simp[MK,aU]
theorem nv(l:List Nat):(aU l).cps.toList=l:=by simp[aU]
theorem kT(a b:List Nat):aU a++aU b=aU (a++b):=by
 apply PySem.Str.ext';rw[PySem.Str.cps_append];simp[aU]
theorem rq{a b:List Nat}(h:aU a=aU b):a=b:=by
 have:=congrArg (λx=>x.cps.toList) h;simpa [aU] using this
theorem uK(x:Str):x=aU x.cps.toList:=by cases x;simp[aU]
def DictK(K:EL)(w:Fh)(a:Addr)(kvs:7 Key V):Prop:=
 kvs.length<=1000/\(a==sysModules)=false/\(kvs.map (·.1)).Nodup/\∃(es:Array HI)(ep:Nat),K.lookup a=some {cls:=.type "dict",data:=.dict es ep}/\
  Paired (λ(p:Key×V)(e:HI)=>hW p.1 e.key=true/\e.hash=ux w p.1/\RelV p.2 e.val) kvs es.toList
theorem oQ{P:F6}{w:Fh}{kvs:7 Key V}{es:List HI}(r:Paired (λ(p:Key×V)(e:HI)=>hW p.1 e.key=true/\e.hash=ux w p.1/\RelV p.2 e.val) kvs es):
  ∀e∈es,∃k,1 (hW k e.key)/\e.hash=ux w k:=by
 induction r with
 |nil=>intro e h;cases h
 | @cons p e ps es h t ih=>
  intro e' h';rcases F0.mp h' with rfl|h'
  ·exact⟨p.1,h.1,h.2.1⟩
  ·exact ih e' h'
theorem ny{P:F6}{w:Fh}{kvs:7 Key V}{es:List HI}(r:Paired (λ(p:Key×V)(e:HI)=>hW p.1 e.key=true/\e.hash=ux w p.1/\RelV p.2 e.val) kvs es):
  ∃vs,KV kvs vs/\Pairs (mixKind P w) es vs/\vs.map (·.1)=kvs.map (·.1):=by
 induction r with
 |nil=>exact⟨[],.nil,.nil,`a⟩
 | @cons p e ps es h t ih=>
  obtain⟨vs,h1,h2,h3⟩:=ih;exact⟨(p.1,e.val)::vs,.cons ⟨`a,h.2.2⟩ h1,.cons h.1 `a h2,by simp[h3]⟩
theorem DictK.of{P:F6}{w:Fh}{K:EL}{a:Addr}{kvs:7 Key V}{h:Heap}(d:DictK K w a kvs)(x:K.In h):(a==sysModules)=`g/\∃vs,KV kvs vs/\h.DictOf (mixKind P w) a vs:=by
 obtain⟨hz,hs,nd,es,ep,lk,r⟩:=d;obtain⟨vs,h1,h2,h3⟩:=ny (P:=P) r;refine⟨hs,vs,h1,_,es,ep,x _ _ lk,⟨`a,`a,`a⟩,`a,λe he=>oQ (P:=P) r e<|by simpa using he,h2,by rw[h3];exact nd⟩
section
variable{X:Cx}{o i e:Expr}{Z9:Pos}{td ty:TE}
def bq(K:EL)(w:Fh)(td ty:TE):TE:=λM H Q=>td M H λx H1=>ty M H1 λy H2=>∃a kvs k v,x=.ref a/\DictK K w a kvs/\y=kV k/\0 (j5 kvs k) v/\Q v H2
theorem uL(ho:PE X o td)(hi:PE X i ty)(hs:uI i):PE X (.Subscript o i Z9) (bq X.K X.w td ty):=by
 intro Z_ s M H Q I h;refine rp Kz.lookup hs (cx (ho Z_ s M H _ I h) λu s1 zz=>?_);obtain⟨x,H1,I1,rx,q1⟩:=zz;refine cx (hi Z_ s1 M H1 _ I1 q1) λiv s2 zz=>?_;obtain⟨y,H2,I2,ry,a,kvs,k,v,ex,dk,ey,ev,q2⟩:=zz;subst ex ey;obtain rfl:u=G8 a:=rx;obtain⟨hd,vs,rel,dd⟩:=dk.of (P:=X.prog) I2.kIn;refine⟨dd.typeIs,?_⟩;obtain⟨w',hw,rw'⟩:=OO (v:=v) (o:=valueAt vs k) (by rw[<-ev];exact rel.val k);exact wpAny_getItem_of (zC ry) dd.mapOf hw ⟨v,H2,I2.tok _,rw',q2⟩
end
section
variable{X:Cx}
theorem kU:OpR X (compareOp .Is) (λx y H Q=>∃c,y=.bl c/\Q (.bl<|decide<|x=.bl c) H):=by
 intro Z_ s M H x y v u Q I rx ry h;obtain⟨c,rfl,q⟩:=h;cases ry;cases x with
 |bl b=>cases rx;exact is_bool (bh I q (by cases b<;>cases c<;>simp))
 |non=>cases rx;exact EK (bh I q `f)
 |int i=>obtain⟨t,rfl⟩:=rx;exact EK (bh I q `f)
 |str i=>obtain⟨t,rfl⟩:=rx;exact EK (bh I q `f)
 |byt i=>obtain⟨t,rfl⟩:=rx;exact EK (bh I q `f)
 |flt i=>obtain⟨t,rfl⟩:=rx;exact EK (bh I q `f)
 |ref a=>cases rx;exact EK (bh I q `f)
 |ty a=>cases rx;exact EK (bh I q `f)
theorem qo:OpR X (binaryOp .Mult) (λx y H Q=>∃c n,x=.str (aU [c])/\y=.int n/\0<=n/\n<=100000/\Q (.str<|aU<|Hu n.toNat c) H):=by
 intro Z_ s M H x y v u Q I rx ry h;obtain⟨c,n,rfl,rfl,h0,h1,q⟩:=h;obtain⟨t,rfl⟩:=rx;obtain⟨t',rfl⟩:=ry;have hl:(aU [c]).length=1:=dP [c];refine SB.mul ?_ λt' k=>?_
 ·refine⟨?_,λ_ _=>?_,λ_ _=>?_⟩
  ·have e1:decide (n< -(2^63:Int))=false:=decide_eq_false `b;have e2:decide (n≥2^63)=false:=decide_eq_false `b;rw[e1,e2];rfl
  ·rw[hl];have h2:1<=n:=`b
   have:(1:Int)<=(2^63-1)/n:=(Int.le_ediv_iff_mul_le `b).mpr `b;omega
  ·rw[hl];unfold Pn;have:=FE;simp;omega
 ·have e:Pz (aU [c]) n=aU (Hu n.toNat c):=by
   rw[uK (Pz (aU [c]) n)];show aU (Pz ⟨#[c]⟩ n).cps.toList=_;rw[mul_one_list]
  exact⟨.str _,H,I.tok _,⟨t',`a⟩,by rw[e];exact q⟩
end
section
variable{X:Cx}
def kg(l:List Nat)(lo hi:`w):List Nat:=(l.drop<|HT.sIx l.length 0 lo).take (HT.sIx l.length l.length hi-HT.sIx l.length 0 lo)
theorem kW(lo hi:`w)(n:Nat):Hd lo hi 1 n=sliceRange ((HT.sIx n 0 lo:Nat):Int) ((HT.sIx n n hi:Nat):Int) 1:=by
 unfold Hd;have e1:(match lo with|none=>(0:Int)|some i=>max 0 (min (if i<0 then i+(n:Int)else i) n))=((HT.sIx n 0 lo:Nat):Int):=by
  cases lo with
  |none=>simp[HT.sIx]
  |some i=>simp only[HT.sIx];by_cases h:i<0<;>simp only[h,if_true,if_false]<;>omega
 have e2:(match hi with|none=>(n:Int)|some i=>max 0 (min (if i<0 then i+(n:Int)else i) n))=((HT.sIx n n hi:Nat):Int):=by
  cases hi with
  |none=>simp[HT.sIx]
  |some i=>simp only[HT.sIx];by_cases h:i<0<;>simp only[h,if_true,if_false]<;>omega
 simp only[show(1:Int)>0 by decide,if_true];rw[<-e1,<-e2];cases lo<;>cases hi<;>rfl
theorem sV(l:List Nat)(lo hi:`w):MZ (aU l) lo hi=aU (kg l lo hi):=by
 have hn:(aU l).length=l.length:=dP l;have hk:(Hd lo hi 1 l.length).filterMap ((aU l).cps[·]?)=kg l lo hi:=by
  rw[kW,LS,pick_run];simp[kg]
 have hlen:(Hd lo hi 1 l.length).length=(kg l lo hi).length:=by
  rw[kW,LS];have h1:=HT.sIx_le l.length 0 (LV _) lo;have h2:=HT.sIx_le l.length l.length (EX _) hi;simp[kg];omega
 unfold MZ;rw[hn];split
 ·rename_i h;have h:(Hd lo hi 1 l.length).length=l.length:=by simpa using h
  have hl:=hlen.symm.trans h;have e:kg l lo hi=l:=by
   have h3:(kg l lo hi).length<=(l.drop<|HT.sIx l.length 0 lo).length:=by unfold kg;simp;omega
   have h4:HT.sIx l.length 0 lo=0\/l.length=0:=by
    rw[Ha]at h3;omega
   rcases h4 with h4|h4
   ·unfold kg at hl ⊢;rw[h4]at hl ⊢;rw[List.drop_zero]at hl ⊢;rw[GP]at hl;exact HF `b
   ·have:l=[]:=Hz.mp h4;subst this;simp[kg]
  rw[e]
 ·rw[hk]
theorem cJ:Co X (λx lo hi H Q=>∃l,x=.str (aU l)/\l.length<=sizeLine/\Q (.str<|aU<|kg l lo hi) H):=by
 intro Z_ s M H x v vl vu lo hi sl Q I rx hs pl pu h;obtain⟨l,rfl,hz,q⟩:=h;obtain⟨t,rfl⟩:=rx;obtain⟨a1,rfl,e1⟩:∃a:Option (Int×Tok),vl=partValue a/\a.map (·.1)=lo:=by
  cases pl with
  |none=>exact⟨`c,`a,`a⟩
  |int i t=>exact⟨some (i,t),`a,`a⟩
 obtain⟨a2,rfl,e2⟩:∃a:Option (Int×Tok),vu=partValue a/\a.map (·.1)=hi:=by
  cases pu with
  |none=>exact⟨`c,`a,`a⟩
  |int i t=>exact⟨some (i,t),`a,`a⟩
 have hle:(MZ (aU l) lo hi).length<=sizeLine:=Gy (Txt.slice_le _ _ _) (by rw[dP];exact hz);refine⟨"str",_,PySem.F.slot_str_getitem.lookup,NA _ _ _,wpAny_getItem_str_slice (l:=a1) (u:=a2) (st:=none) hs `a ?_⟩;subst e1 e2;refine post_val_or_str ⟨hle,λt' k=>⟨.str _,H,I.tok _,⟨t',`a⟩,?_⟩⟩;have:=sV l (a1.map (·.1)) (a2.map (·.1));unfold MZ at this;show Q (.str (if _ then _ else _)) H;exact this▸q
theorem uM(hc:1 X.calm):zB X "str.index" (λx xs H Q=>∃a b,x=.str a/\xs=[.str b]/\0<=Kl a b/\Q (.int<|Kl a b) H):=by
 intro Z_ s M H x xs v us Q I rx rs h;obtain⟨a,b,rfl,rfl,h0,q⟩:=h;obtain⟨t,rfl⟩:=rx;obtain⟨u,rfl,t',rfl⟩:=ft rs;refine index_or (I.ok.hd hc) (λe=>?_) λ_ _=>⟨.int _,H,I.tok _,⟨_,`a⟩,q⟩
 omega
theorem qp{ys:List (List Nat)}:∀{us:List EM},Vals (ys.map λy=>Jo<|aU y) us->StrsAre us (ys.map aU):=by
 induction ys with
 |nil=>intro us r;cases r;exact .nil
 |cons y ys ih=>
  intro us r;cases r with
  |cons r1 r2=>
   obtain⟨t,e⟩:=r1;subst e;exact .cons _ t (ih r2)
theorem qq(ys:List (List Nat)):Txt.join (aU []) (ys.map aU)=aU ys.flatten:=by
 have key:∀(r:List (List Nat))(Z8:List Nat),(r.map aU).foldl (λZ8 p=>Z8++(aU []).cps++p.cps) Z8.toArray=(Z8++r.flatten).toArray:=by
  intro r
  induction r with
  |nil=>intro Z8;simp
  |cons a r ih=>
   intro Z8;rw[FQ,Lr,List.flatten_cons,<-He,<-ih (Z8++a)];simp[aU]
 cases ys with
 |nil=>rfl
 |cons a r=>
  show Str.mk ((r.map aU).foldl (λZ8 p=>Z8++(aU []).cps++p.cps) a.toArray)=_;rw[key];rfl
theorem xR:zB X "str.join" (λx xs H Q=>∃(p:Addr)(ys:List (List Nat)),x=.str (aU [])/\xs=[.ref p]/\SqL X.K H p (ys.map λy=>Jo<|aU y)/\ys.flatten.length<=100000/\Q (.str<|aU ys.flatten) H):=by
 intro Z_ s M H x xs v us Q I rx rs h;obtain⟨p,ys,rfl,rfl,hp,hl,q⟩:=h;obtain⟨t,rfl⟩:=rx;obtain⟨u,rfl,r1⟩:=ft rs;cases r1;obtain⟨its,r,pl,hz⟩:=I.list hp;refine join_list pl.isList (by simpa using qp r) ?_ λt' k=>⟨.str _,H,I.tok _,⟨t',`a⟩,by rw[qq];exact q⟩
 have e:((ys.map aU).map (·.length)).sum=ys.flatten.length:=by
  rw[Hf,List.length_flatten];congr 1
  all_goals exact Ka λy _=>dP y
 have e2:(aU []).length=0:=dP [];rw[e,e2];omega
theorem oR:ee X (.builtin "isinstance") (λxs H Q=>∃x T t b,xs=[x,.ty T]/\TyOf X.K H x t/\0 (Ht X.K t<|.type T) b/\Q (.bl b) H):=by
 intro Z_ s M H xs us Q I r h;obtain⟨x,T,t,b,rfl,ty,e,q⟩:=h;obtain⟨u,w',rfl,rx,rT⟩:=mr r;obtain rfl:w'=.type T:=rT;exact sP I rx ty e λtk=>⟨.bl b,H,I.tok _,`a,q⟩
def DB(l:List Nat):It:=⟨λi _=>i<l.length,λi H x H'=>H'=H/\∃c,0 l[i]? c/\x=.str (aU [c]),λi _=>l.length<=i⟩
def BC(tl:TE):TI:=λM H R=>tl M H λx H1=>∃l,x=.str (aU l)/\R (DB l) H1
end
theorem uN{P:F6}{w:Fh}{K:EL}{tg:Expr}(l:List Nat)(it:Addr)(ty:String)(t:Tok)(hty:ty="str_ascii_iterator"\/ty="str_iterator")
  (W:∀A':FR,A'.handled=`c->Walks P w A' it [it] [it] l.length (SignAt<|aU l) (λi h=>h.IsStrIter it ty (aU l) t i)):
  Turn P w K tg (DB l) [it] it (λi h=>i<=l.length/\h.IsStrIter it ty (aU l) t i) where
 mem:=`f
 obj:=λi h st b hb=>by
  have e:b=it:=by simpa using hb
  subst e;obtain⟨_,o,e,c,d⟩:=st;exact⟨o,e,λv z=>by rw[d]at z;cases z⟩
 keep:=λi h h' st k=>⟨st.1,by obtain⟨o,e,r⟩:=st.2;exact⟨o,k it `f o e,r⟩⟩
 item:=by
  intro X hP hw hK hc i Z_ s M H E I hf st hg;subst hP hw hK;obtain⟨f0,f1,f2,f3,f4,f5⟩:=hf it `f;refine(W X.A<|I.ok.hd hc).item i s _ _ hg st.2 λv h' tk hv st' kk=>?_;obtain⟨c,u,hc',rfl⟩:=hv;have I1:Inv X Z_ M H {s with heap:=h',toks:=tk}:=I.turned (λb o hb e=>kk b o (by simpa using hb) e) f0 f1 f3 f4 f5;obtain⟨o,e,c1,d⟩:=id st';refine 9 `a (oG (s:={s with heap:=h',toks:=tk}) (n:=ty) e c1 d (by rcases hty with rfl|rfl<;>decide) ⟨.str<|aU [c],H,I1,⟨u,`a⟩,⟨`a,c,?_,`a⟩,⟨hg,st'⟩,λb hb=>(hf b hb).1⟩);simpa [aU] using hc'
 done:=by
  intro X hP hw hK hc i Z_ s M H E I hf st hg;subst hP hw hK;obtain⟨f0,f1,f2,f3,f4,f5⟩:=hf it `f;have e:i=l.length:=Nat.le_antisymm st.1 hg;subst e;exact(W X.A<|I.ok.hd hc).done s _ _ st.2 λh' tk kk=>⟨`a,I.turned (λb o hb e=>kk b o (by simpa using hb) e) f0 f1 f3 f4 f5⟩
 self:=λA i s Q E st h=>by
  rcases hty with rfl|rfl;·exact wpAny_pyIter_striter_ascii st.2 h
  ·exact wpAny_pyIter_striter_wide st.2 h
theorem i6{X:Cx}{tg l:Expr}{tl:TE}(hl:PE X l tl):PI X tg l (BC tl):=by
 intro Z_ s M H R I h;refine cx (hl Z_ s M H _ I h) λv s1 zz=>?_;obtain⟨x,H1,I1,r1,q1⟩:=zz;obtain⟨y,e,q⟩:=q1;subst e;obtain⟨t,rfl⟩:=r1;have hn:(aU y).cps.size=y.length:=by simp[aU]
 have fin:∀(ob:Obj)(ty:String),(ty="str_ascii_iterator"\/ty="str_iterator")->(∀A':FR,A'.handled=`c->Walks `o X.w A' `U [s1.heap.objs.size] [s1.heap.objs.size] y.length (SignAt<|aU y) (λi h=>h.IsStrIter `U ty (aU y) t i))->
   (s1.heap.push ob).IsStrIter s1.heap.objs.size ty (aU y) t 0->Dr X Z_ M tg R (.ref `U) {s1 with heap:=s1.heap.push ob}:=λob ty hty W st=>by
  refine⟨`U,[s1.heap.objs.size],_,_,H1,`a,I1.kept (t':=s1.toks) λb o e=>EI _ e,uN y _ ty t hty W,⟨LV _,st⟩,λb hb=>?_,q⟩;have e:b=`U:=by simpa using hb
  subst e;exact I1.fpOk (EX _) (I1.hok.fresh<|EX _)
 cases ha:(aU y).cps.all (· <128);·exact ML ha (fin _ "str_iterator" (.inr `a) (λA' hA=>hn▸Walks.strWide hA _ (aU y) t) ⟨_,ES _ `a,`a,`a⟩)
 ·exact Mv ha (fin _ "str_ascii_iterator" `G (λA' hA=>hn▸Walks.strAscii hA _ (aU y) t) ⟨_,ES _ `a,`a,`a⟩)
def cN(env:Env):7 Str Ie->7 Str Addr->7 Str Addr
 | [],Z8=>Z8
 |(n,k)::r,Z8=>cN env r (if 1 (k==.free) then(n,(env.cells.lookup n).getD 0)::Z8 else Z8)
theorem fg{scope:ID}{env:Env}(h:∀x∈scope.names,x.2=.free->∃c,0 (env.cells.lookup x.1) c):closureFor scope env=pure (cN env scope.names []):=by
 simp only[closureFor];have key:∀(names:List (Str×Ie))(Z8:List (Str×Addr)),(∀x∈names,x.2=.free->∃c,0 (env.cells.lookup x.1) c)->(forIn names Z8 λ(x:Str×Ie)(cs:7 Str Addr)=>if 1 (x.2==.free) then(do let a <-cellOf env x.1;pure (HD<|(x.1,a)::cs))else pure (HD cs))=(pure (cN env names Z8):Sem _):=by
  intro names
  induction names with
  |nil=>intro Z8 _;rfl
  |cons x r ih=>
   intro Z8 hx;obtain⟨n,k⟩:=x;rw[Je];have hr:∀y∈r,y.2=.free->∃c,0 (env.cells.lookup y.1) c:=λy hy=>hx y (Fe _ hy);unfold cN;by_cases hk:1 (k==GF)
   ·obtain⟨c,hc⟩:=hx (n,k) Fc (by simpa using hk);have hc:0 (env.cells.lookup n) c:=hc;simp only[hk,if_true];unfold cellOf;simp only[hc,GQ];exact ih _ hr
   ·simp only[hk,if_false];exact ih _ hr
 have:=key scope.names [] h;rw[this];rfl
theorem i7{env:Env}{x:Str}{c:Addr}:∀(names:List (Str×Ie))(Z8:List (Str×Addr)),(∀y∈names,y.2=.free->∃c,0 (env.cells.lookup y.1) c)->0 ((cN env names Z8).lookup x) c->(x,GF)∈names/\0 (env.cells.lookup x) c\/0 (Z8.lookup x) c
 | [],_,_,h=>.inr h
 |(n,k)::r,Z8,hx,h=>by
  unfold cN at h;rcases i7 r _ (λy hy=>hx y<|Fe _ hy) h with⟨q1,q2⟩|q
  ·exact .inl ⟨Fe _ q1,q2⟩
  ·by_cases hk:1 (k==GF)
   ·rw[Z0 hk]at q;have hk':k=.free:=by simpa using hk
    subst hk';rw[Hb]at q;cases hb:x==n with
    |true=>
     rw[hb]at q;have e:x=n:=beq_iff_eq.mp hb;subst e;obtain⟨c',hc⟩:=hx (x,.free) Fc `a;have hc:0 (env.cells.lookup x) c':=hc;rw[hc]at q;simp at q;subst q;exact .inl ⟨Fc,hc⟩
    |false=>rw[hb]at q;exact .inr q
   ·rw[Z1 hk]at q;exact .inr q
theorem jT{env:Env}{x:Str}{c:Addr}:∀(names:List (Str×Ie))(Z8:List (Str×Addr)),0 (Z8.lookup x) c->0 (env.cells.lookup x) c->0 ((cN env names Z8).lookup x) c
 | [],_,h,_=>h
 |(n,k)::r,Z8,h,he=>by
  unfold cN;refine jT r _ ?_ he;by_cases hk:1 (k==GF)
  ·rw[Z0 hk,Hb];cases hb:x==n with
   |true=>
    have e:x=n:=beq_iff_eq.mp hb;subst e;simp[he]
   |false=>exact h
  ·rw[Z1 hk];exact h
theorem jU{env:Env}{x:Str}{c:Addr}:∀(names:List (Str×Ie))(Z8:List (Str×Addr)),(x,GF)∈names->0 (env.cells.lookup x) c->0 ((cN env names Z8).lookup x) c
 |(n,k)::r,Z8,h,he=>by
  unfold cN;rcases F0.mp h with e|h
  ·cases e;exact jT r _ (by simp[he]) he
  ·exact jU r _ h he
theorem dq:∀(names:List (Str×Ie))(n:Nat)(Z8:List (Str×Addr)),cellsFrom n names Z8=cellsFrom n names []++Z8
 | [],_,_=>rfl
 |(x,k)::r,n,Z8=>by
  unfold cellsFrom;split;·rw[dq r _ ((x,n)::Z8),dq r _ [(x,n)],He];rfl
  ·exact dq r n Z8
theorem fC:∀(names:List (Str×Ie))(n:Nat){x:Str}{c:Addr},(x,c)∈cellsFrom n names []->(x,Ma)∈names
 | [],_,_,_,h=>by cases h
 |(y,k)::r,n,x,c,h=>by
  unfold cellsFrom at h;split at h
  ·rename_i hk;rw[dq]at h;rcases FX.mp h with h|h
   ·exact Fe _ (fC r _ h)
   ·have e:(x,c)=(y,n):=by simpa using h
    cases e;have hk':k=.cell:=by simpa using hk
    subst hk';exact Fc
  ·exact Fe _ (fC r _ h)
theorem kX{ZZ:Py}{A:FR}{E:8 EM EN}{s:EN}{scope:ID}{env:Env}{cl:7 Str Addr}{Q:8 Env EN}
  (hQ:Q (newEnv scope `P env.globals (cellsFrom (39 1) scope.names cl) env.qual `c .none (some env) builtinsNs) {s with heap:=pushCells (s.heap.push {cls:=.type "dict",data:=.dict #[]}) scope.names}):
  wpAny ZZ A (newFunctionEnv scope env.globals cl [] env.qual `c .none<|some env) Q E s:=by
 simp only[newFunctionEnv,Mt,if_true];refine EF (wpAny_alloc ?_);refine EF (wpAny_layCells _ (λname kind cells=>by cases hkc:kind==Ma<;>simp[hkc]) _ _ _ _ ?_);rw[show({s with heap:=s.heap.push {cls:=.type "dict",data:=.dict #[]}}:EN).heap.objs.size=39 1 from FO ..];simp only[Ju];exact EF (EK<|EK hQ)
section
variable{prog:F6}{w:Fh}{A:FR}{R:8 MX EN}{s:EN}
theorem nz{Z2 target iter:Expr}{ifs:List Expr}{scope:ID}{Z9:Pos}{it Z8:EM}{env:Env}(I:8 Nat EN)
  (turn:∀n s,I n s->21 prog w A (pyNext it) (λr s₁=>match r with
   |none=>R (.ok .next) s₁
   | some v=>wpAny (model prog w) A (letOwnedTupleGo target it v) (λ_ s₁'=>wpAny (model prog w) A (assign target env v) (λ_ s₂=>wpAny (model prog w) A (forIn ifs true λc r=>if 1 r then do let ok <-isTrue c env (eval c env);pure (HD ok)else pure (HD r)) (λok s₃=>
      if 1 ok then wpAny (model prog w) A (eval Z2 env) (λx s₄=>wpAny (model prog w) A (call (.builtin "list.append") [Z8,x]) (λ_ s₅=>∃m,m<n/\I m s₅) (λ_ _=>False) s₄) (λ_ _=>False) s₃
      else ∃m,m<n/\I m s₃) (λ_ _=>False) s₂) (λ_ _=>False) s₁') (λ_ _=>False) s₁) (λ_ _=>False))
  (n:Nat) (h:I n s):codeAny (model prog w) A (.compLoop (.ListComp Z2 [⟨target,iter,ifs,0⟩] scope Z9) 0 it Z8 env) R s:=by
 refine codeAny_loop `a I (λn s hI=>?_) n h;show wpAny _ A ((compTurn (.ListComp Z2 [⟨target,iter,ifs,0⟩] scope Z9) 0 it Z8 env).onRaise (λx=>do noteFrame x env;theTreesLotGoes x)) _ _ s;refine wpAny_noted ?_;rw[compTurn_list];refine EF (HH<|EF<|Gi (turn n s hI) (λr s₁ h₁=>?_) λ_ _ h'=>h'.elim);cases r with
 |none=>exact EK h₁
 |some v=>
  refine EF (Gi h₁ (λ_ s₁' h₁'=>?_) λ_ _ h'=>h'.elim);refine EF (Gi h₁' (λ_ s₂ h₂=>EF<|Gi h₂ (λok s₃ h₃=>?_) λ_ _ h'=>h'.elim) λ_ _ h'=>h'.elim);cases ok with
  |true=>
   rw[Z0 `a]at h₃;exact EF (EF<|Gi h₃ (λx s₄ h₄=>EF<|Gi h₄ (λ_ s₅ h₅=>EK<|EK ⟨`a,h₅⟩) λ_ _ h'=>h'.elim) λ_ _ h'=>h'.elim)
  |false=>
   rw[Z1 F8]at h₃;exact EK ⟨`a,h₃⟩
end
def uO(scope:ID)(x:Str):Bool:=scope.names.lookup x==some .local||scope.names.lookup x==some .cell
def aQ(X:Cx)(scope:ID)(N:`I)(s:EN)(H:Hp)(C:Addr)(fp:List Addr):Cx:=
 {X with N:=N,s₀:=s,H₀:=H,env:=compEnvC scope (cellsFrom (C+1) scope.names<|cN X.env scope.names []) C X.env,outer:=X.stack,ex:=fp,fn:=uO scope,pn:=[],xe:=λ_ _=>False}
def bH(cap:List `S)(M:St):St:=cap.map λo=>o.bind λj=>(M[j]?).bind id
structure CompScope(X:Cx)(scope:ID)(N:`I)(cap:List `S):Prop where
 kind:scope.kind=.function
 nd:N.Nodup
 len:cap.length=N.length
 uniq:(scope.names.map (·.1)).Nodup
 free:∀x∈scope.names,x.2=.free->0 (X.env.kindOf x.1) .cell\/0 (X.env.kindOf x.1) .free
 cap:∀(k:Nat)(x:Str)(j:Nat),0 N[k]? x->0 cap[k]? (some j)->0 X.N[j]? x/\(x,GF)∈scope.names
theorem dQ{Z:Type}:∀{l:List (Str×Z)}{x:Str}{k:Z},(l.map (·.1)).Nodup->(x,k)∈l->0 (l.lookup x) k
 |(y,j)::r,x,k,nd,h=>by
  obtain⟨n1,n2⟩:=HC.mp (show(y::r.map (·.1)).Nodup from nd);rw[Hb];rcases F0.mp h with e|h;·cases e;simp
  ·have:(x==y)=`g:=beq_eq_false_iff_ne.mpr λe=>n1<|e▸Fo.mpr ⟨(x,k),h,`a⟩;rw[this];exact dQ n2 h
theorem fT{env:Env}:∀{names:7 Str Ie}{x:Str},(names.map λ(p:Str×Ie)=>if 1 (p.2==GF&&env.scope.kind==.function&&env.kindOf p.1==some .cell) then(p.1,Ma)else(p.1,p.2)).lookup x=
  (names.lookup x).map λk=>if 1 (k==GF&&env.scope.kind==.function&&env.kindOf x==some .cell) then .cell else k
 | [],_=>rfl
 |(n,k)::r,x=>by
  rw[FQ];have ih:= @fT env r x;by_cases hx:x=n
  ·subst hx;by_cases hc:1 (k==GF&&env.scope.kind==.function&&env.kindOf x==some .cell);·simp only[hc,if_true,Hb,beq_self_eq_true,IF]
   ·rw[Z1 hc,Hb,Hb,beq_self_eq_true];simp only[IF];rw[Z1 hc]
  ·have hb:(x==n)=`g:=beq_eq_false_iff_ne.mpr hx;by_cases hc:1 (k==GF&&env.scope.kind==.function&&env.kindOf n==some .cell);·simp only[hc,if_true,Hb,hb];exact ih
   ·rw[Z1 hc,Hb,Hb,hb];exact ih
def uu(X:Cx)(ifs:List Expr)(t:TT):Prop:=
 ∀(Z_:List (Addr×Obj))(s:EN)(M:St)(H:Hp)(Q:Bool->Hp->Prop),14 X M H s->t M H Q->21 `o X.w X.A (forIn ifs true λc r=>if 1 r then do let ok <-isTrue c X.env (26 c);pure (HD ok)else pure (HD r)) (TP X Z_ M Q) X.xe
def xS:TT:=λ_ H Q=>Q true H
theorem cG{X:Cx}:uu X [] xS:=λ_ _ _ H _ I h=>wpAny_tests_nil ⟨H,I,h⟩
theorem xT{X:Cx}{c:Expr}{t:TT}(h:PT X c t):uu X [c] t:=λZ_ s M H Q I hq=>wpAny_tests_one (h Z_ s M H Q I hq)
def Keep:8 St St
 | [],_=>True
 |none::a,_::b=>Keep a b
 |some v::a,some u::b=>v=u/\Keep a b
 |_,_=>False
theorem Keep.get:∀{a b:St}{j:Nat}{v:V},Keep a b->0 a[j]? (some v)->0 b[j]? (some v)
 | [],_,_,_,_,h=>by simp at h
 |none::a,_::b,0,_,_,h=>by simp at h
 |none::a,_::b,j+1,v,k,h=>Keep.get (j:=j) (a:=a) (b:=b) k h
 |some w::a,some u::b,0,v,k,h=>by
  have e:w=u:=k.1;subst e;exact h
 |some w::a,some u::b,j+1,v,k,h=>Keep.get (j:=j) (a:=a) (b:=b) k.2 h
 |none::_,[],_,_,k,_=>k.elim
 |some _::_,[],_,_,k,_=>k.elim
 |some _::_,none::_,_,_,k,_=>k.elim
def BD(cap:List `S)(g:TG)(tf:TT)(te:TE)(M:St)(H1:Hp)(Q:VK)(J:It):Prop:=∃W:Nat->Nat->List V->Hp->Prop,(∃m,W 0 m [] H1)/\∀i m ys H,W i m ys H->ys.length<sizeLine/\((J.stop i H/\∀D,H D=`c->Q (.ref D) (cT H D<|.lst ys))\/(J.go i H/\∃N:List V->Hp->Prop,(∀ys' H',N ys' H'->∃m',m'<m/\W (i+1) m' ys' H')/\∀x H',J.yld i H x H'->g x (bH cap M) H' λσ2 H2=>Keep (bH cap M) σ2/\tf σ2 H2 λb H3=>if 1 b then te σ2 H3 λy H4=>N (ys++[y]) H4 else N ys H3))
def oS(cap:List `S)(wi:TI)(g:TG)(tf:TT)(te:TE):TE:=λM H Q=>wi M H λJ H1=>BD cap g tf te M H1 Q J
theorem eF{X:Cx}{scope:ID}{C:Addr}{x:Str}{c:Addr}(frc:∀x∈scope.names,x.2=.free->∃c,43 x.1 c)
  (h:0 ((cellsFrom (C+1) scope.names<|cN X.env scope.names []).lookup x) c):(x,c)∈cellsFrom (C+1) scope.names []\/(x,GF)∈scope.names/\43 x c:=by
 rw[dq,Mw]at h;cases e:(cellsFrom (C+1) scope.names []).lookup x with
 |some d=>
  rw[e]at h;have h:0 (some d) c:=h;cases h;exact .inl (GU e)
 |none=>
  rw[e]at h;have h:0 ((cN X.env scope.names []).lookup x) c:=h;rcases i7 _ _ frc h with q|q
  ·exact .inr q
  ·cases q
theorem oT{X:Cx}{scope:ID}{C:Addr}{x:Str}{c:Addr}(uq:(scope.names.map (·.1)).Nodup)(hx:(x,GF)∈scope.names)(hc:43 x c):
  0 ((cellsFrom (C+1) scope.names<|cN X.env scope.names []).lookup x) c:=by
 rw[dq,Mw];cases e:(cellsFrom (C+1) scope.names []).lookup x with
 |some d=>
  have h1:=dQ uq (fC _ _<|GU e);have h2:=dQ uq hx;rw[h1]at h2;cases h2
 |none=>exact jU _ _ hx hc
section
variable{X:Cx}{scope:ID}{N:`I}{cap:List `S}{Z_:7 Addr Obj}{M:St}{H:Hp}{s:EN}{C:Addr}{fp:List Addr}
theorem sW{h4:Heap}(S:CompScope X scope N cap)(I:14 X M H s)(hC:`P<=C)(ck:OH h4 (C+1) (cellsFrom (C+1) scope.names []))
  (hf:∀b∈fp,FpOk X Z_ H b) (hlt:∀b∈fp,b<C):(aQ X scope N s H C fp).Ok:=by
 have frc:∀x∈scope.names,x.2=.free->∃c,43 x.1 c:=λx hx hk=>I.ok.has x.1 (S.free x hx hk);have old:∀x c,43 x c->c<C:=λx c e=>by
  obtain⟨v,q⟩:=I.cell x c e;exact EZ q.lt hC
 have own:∀x c,(x,c)∈cellsFrom (C+1) scope.names []->C<c:=λx c e=>(ck.empty x c e).2;refine⟨I.ok.mod,S.kind,I.ok.glob,I.ok.blt,hC,λx y c h1 h2=>?_,λx hx=>?_,λx c hfn h=>?_,I.ok.hd,I.ok.frames,`G,λb hb=>⟨Fd<|hlt b hb,λx c h=>?_⟩,I.bs,Gy I.ok.bsz I.sz,λb o e hb=>?_,λb hb z=>?_,I.stack,I.stkFree⟩
 ·rcases eF frc h1 with a | ⟨a1,a2⟩ <;> rcases eF frc h2 with b | ⟨b1,b2⟩
  ·exact name_of_addr ck.apart a b
  ·exact absurd (Lj (own x c a)<|old y c b2) (Gu _)
  ·exact absurd (Lj (own y c b)<|old x c a2) (Gu _)
  ·exact I.ok.inj x y c a2 b2
 ·have hx:0 ((relabel scope X.env).names.lookup x) .cell\/0 ((relabel scope X.env).names.lookup x) .free:=hx;have e:(relabel scope X.env).names.lookup x=_:=fT (env:=X.env) (names:=scope.names) (x:=x);rw[e]at hx;cases q:scope.names.lookup x with
  |none=>rw[q]at hx;rcases hx with z|z<;>cases z
  |some k=>
   have hm:=GU q;by_cases hk:k=.free
   ·subst hk;obtain⟨c,hc⟩:=frc _ hm `a;exact⟨c,oT S.uniq hm hc⟩
   ·have hk':(k==GF)=`g:=by simpa using hk
    rw[q]at hx;simp only[IF,hk',Ki,Fv,if_false]at hx;have hkc:k=.cell:=by
     rcases hx with z|z;·exact Ft z
     ·exact absurd (Ft z) hk
    subst hkc;exact HX.mp (Jt scope.names (C+1) _<|.inl q)
 ·rcases eF frc h with a | ⟨a1,a2⟩
  ·exact Gy hC (J3<|own x c a)
  ·have q:=dQ S.uniq a1;have z:1 (uO scope x):=hfn;unfold uO at z;rw[q]at z;exact absurd z ⋯
 ·rcases eF frc h with a | ⟨a1,a2⟩
  ·exact HU (Lj (hlt b hb)<|own x c a)
  ·exact(hf b hb).2.2.2.2.1 x c a2
 ·rcases (hf b hb).2.2.2.1 with z | z;·exact I.ok.noex b o e z
  ·exact absurd (EZ (EZ (EU e) I.ok.bsz) z) (Gu _)
 ·rcases F0.mp (I.stkSub b z)with q | q;·exact(hf b hb).2.1 q
  ·exact(hf b hb).2.2.1 q
theorem kY{s4:EN}(S:CompScope X scope N cap)(I:14 X M H s)(hC:`P<=C)(ck:OH s4.heap (C+1) (cellsFrom (C+1) scope.names []))
  (hf:∀b∈fp,FpOk X Z_ H b) (hlt:∀b∈fp,b<C) (h4:∃h' tk,s4={s with heap:=h',toks:=tk}) (hn:s4.heap.Ns C λ_=>`c) (hk:∀b o,23 b o->0 (s4.heap.get? b) o):
  Inv (aQ X scope N s H C fp) [] (bH cap M) H s4:=by
 have frc:∀x∈scope.names,x.2=.free->∃c,43 x.1 c:=λx hx hk=>I.ok.has x.1 (S.free x hx hk);obtain⟨h',tk,rfl⟩:=h4;refine⟨sW S I hC ck hf hlt,`a,I.bare,Un.kept hk,9 hn λi x v e1 e2 e3=>?_,λx c h=>?_,I.hok.fresh hC,λx c h=>?_,λp hp=>absurd (show p∈([]:7 Addr Obj)from hp) `f,I.hok.kept hk,?_⟩
 ·have e1:0 N[i]? x:=e1;unfold bH at e2;rw[ET]at e2;cases q:cap[i]? with
  |none=>rw[q]at e2;cases e2
  |some o=>
   cases o with
   |none=>rw[q]at e2;cases e2
   |some j=>
    rw[q]at e2;obtain⟨hj,hm⟩:=S.cap i x j e1 q;have e2:0 (M[j]?.bind id) v:=Ft e2;have e2':0 M[j]? (some v):=by
     cases z:M[j]? with
     |none=>rw[z]at e2;cases e2
     |some o=>rw[z]at e2;exact congrArg some e2
    have kd:=S.free _ hm `a;obtain⟨m,_,hl⟩:=I.loc;obtain⟨u,r,lk⟩:=hl j x v hj e2' (by rcases kd with z|z;exact .inr (.inl z);exact .inr (.inr z));refine⟨u,r,.inr ?_⟩;rcases lk with⟨z,_⟩|⟨_,c,hc,hcell⟩
    ·rcases kd with q|q<;> ·rw[show X.env.kindOf x=_ from q]at z;cases z
    ·refine⟨?_,c,oT S.uniq hm hc,hcell.keeps hk⟩;have e:(relabel scope X.env).names.lookup x=_:=fT (env:=X.env) (names:=scope.names) (x:=x);rw[dQ S.uniq hm]at e;simp only[IF]at e;show 0 ((relabel scope X.env).names.lookup x) .cell\/0 ((relabel scope X.env).names.lookup x) .free;rw[e];split;·exact `G
     ·exact .inr `a
 ·rcases eF frc h with a | ⟨a1,a2⟩
  ·exact⟨_,(ck.empty x c a).1⟩
  ·obtain⟨v,q⟩:=I.cell x c a2;exact⟨v,q.keeps hk⟩
 ·rcases eF frc h with a | ⟨a1,a2⟩
  ·exact I.hok.fresh (Gy hC<|J3 (ck.empty x c a).2)
  ·exact I.freeC x c a2
 ·show(bH cap M).length=N.length;unfold bH;rw[EY,S.len]
end
abbrev j6(its:List EM)(k:Nat):Obj:={cls:=.type "list",data:=.seq its.toArray k}
section
variable{X:Cx}{scope:ID}{N:`I}{cap:List `S}{tg iter Z2:Expr}{ifs:List Expr}{Z9:Pos}{wi:TI}{g:TG}{tf:TT}{te:TE}
theorem mG(S:CompScope X scope N cap)(hc:1 X.calm)
  (hg:∀s H C fp,PG (aQ X scope N s H C fp) tg g) (hf:∀s H C fp,uu (aQ X scope N s H C fp) ifs tf) (he:∀s H C fp,PE (aQ X scope N s H C fp) Z2 te)
  {Z_:7 Addr Obj} {M:St} {H2:Hp} {s2:EN} {it:Addr} {fp:List Addr} {tn:8 Nat Heap} {J:It} {Qv:VK} {E:8 EM EN} {RR:EM->Addr->8 MX EN}
  (I2:14 X M H2 s2) (T:Turn `o X.w X.K tg J fp it tn) (st2:tn 0 s2.heap) (f2:∀b∈fp,FpOk X Z_ H2 b) {W:Nat->Nat->8 `u Hp} (w0:∃m,W 0 m [] H2)
  (turn:∀i m ys H,W i m ys H->ys.length<sizeLine/\((J.stop i H/\∀D,H D=`c->Qv (.ref D) (cT H D<|.lst ys))\/(J.go i H/\∃N:List V->Hp->Prop,(∀ys' H',N ys' H'->∃m',m'<m/\W (i+1) m' ys' H')/\∀x H',J.yld i H x H'->g x (bH cap M) H' λσ2 H2=>Keep (bH cap M) σ2/\tf σ2 H2 λb H3=>if 1 b then te σ2 H3 λy H4=>N (ys++[y]) H4 else N ys H3)))
  (fin:∀(D C:Addr) (σ':St) (H':Hp) (s':EN) (its:List EM) (k:Nat) (ys:List V),s2.heap.objs.size<=D->s2.heap.objs.size<=C->D≠C->Inv (aQ X scope N s2 H2 C fp) [(D,j6 its k)] σ' H' s'->Vals ys its->ys.length<=sizeLine->Qv (.ref D) (cT H' D<|.lst ys)->RR (.ref D) C (.ok .next) s'):
  wpAny (model `o X.w) X.A (newList []) (λZ8 s₃=>wpAny (model `o X.w) X.A (newFunctionEnv scope X.env.globals (cN X.env scope.names []) [] X.env.qual `c .none<|some X.env) (λcenv s₄=>codeAny (model `o X.w) X.A (.compStart (.ListComp Z2 [⟨tg,iter,ifs,0⟩] scope Z9) 0 (.ref it) Z8 {cenv with scope:=relabel scope X.env}) (RR Z8 cenv.locals) s₄) E s₃) E s2:=by
 refine Gg (kX ?_);generalize hD:s2.heap.objs.size=D;generalize hH3:s2.heap.push {cls:=.type "list",dict:=none,data:=.seq ([]:List EM).toArray}=h3;have hz3:h3.objs.size=D+1:=by rw[<-hH3,FO,hD]
 dsimp only;have eC:({s2 with heap:=h3}:EN).heap.objs.size=D+1:=hz3;rw[show h3.objs.size=D+1 from hz3];generalize hH4:pushCells (h3.push {cls:=.type "dict",data:=.dict #[]}) scope.names=h4;have hz3':(h3.push {cls:=.type "dict",data:=.dict #[]}).objs.size=D+1+1:=by rw[FO,hz3]
 have ck:OH h4 (D+1+1) (cellsFrom (D+1+1) scope.names []):=by
  have:=cellsFrom_ok scope.names (h3.push {cls:=.type "dict",data:=.dict #[]}) (D+1+1) [] ⟨λ_ _ hm=>(nomatch hm),IL⟩ (by rw[hz3'];exact EX _);rw[hz3',hH4]at this;exact this
 have a1:∀b o,0 (s2.heap.get? b) o->0 (h3.get? b) o:=λb o e=>by rw[<-hH3];exact EI _ e
 have a0:∀b o,0 (h3.get? b) o->0 (h4.get? b) o:=λb o e=>by rw[<-hH4];exact JZ _ _ b o (EI _ e)
 have hD4:0 (h4.get? D) (j6 [] 0):=a0 _ _ (by rw[<-hH3,<-hD];exact ES _ `a);have hn4:h4.Ns (D+1) λ_=>`c:=by
  rw[<-hH4,<-hz3];exact(P5 h3<|.type "dict").keeps (JZ _ _)
 have fpD:∀b∈fp,b<D:=λb hb=>by
  obtain⟨o,e,_⟩:=T.obj _ _ st2 b hb;rw[<-hD];exact EU e
 have hlt:∀b∈fp,b<D+1:=λb hb=>HA (fpD b hb);have hDC:s2.heap.objs.size<=D+1:=by rw[hD];exact JO _
 have hDs:s2.heap.objs.size<=D:=by rw[hD];exact EX _
 have IC:Inv (aQ X scope N s2 H2 (D+1) fp) [] (bH cap M) H2 {s2 with heap:=h4}:=
  kY S I2 hDC ck f2 hlt (9 _ `a) hn4 λb o e=>a0 b o (a1 b o e)
 have okC:=IC.ok;have nfs:∀{b:Addr},s2.heap.objs.size<=b->b∉frs X.stack:=λ{b}hb hm=>by
  obtain⟨_,o,ho,_⟩:=I2.stack.mem hm;exact absurd (EZ (EU ho) hb) (Gu _)
 have frc:∀x∈scope.names,x.2=.free->∃c,43 x.1 c:=λx hx hk=>I2.ok.has x.1 (S.free x hx hk);have cellsD:∀x c,0 ((aQ X scope N s2 H2 (D+1) fp).env.cells.lookup x) c->c≠D:=λx c e=>by
  rcases eF frc e with a|⟨_,a⟩
  ·have q:D+1+1<=c:=(ck.empty x c a).2;exact HU (EZ (EZ (Ig D)<|JO _) q)
  ·obtain⟨v,q⟩:=I2.cell x c a;have:=q.lt;rw[hD]at this;exact Fd this
 have fpO:∀{H':Hp}{its:List EM}{k:Nat},(∀b∈fp,H' b=`c)->∀b∈fp,FpOk (aQ X scope N s2 H2 (D+1) fp) [(D,j6 its k)] H' b:=λ{H' its k}hn b hb=>⟨hn b hb,Fd<|hlt b hb,okC.exfs b hb,.inl hb,(okC.exf b hb).2,λp hp=>by
   have e:p=(D,j6 its k):=by simpa [aQ] using hp
   subst e;exact HU (fpD b hb)⟩
 have pinD:∀{σ':St}{H':Hp}{s':EN}{its:List EM}{k:Nat},Inv (aQ X scope N s2 H2 (D+1) fp) [] σ' H' s'->0 (s'.heap.get? D) (j6 its k)->H' D=`c->Inv (aQ X scope N s2 H2 (D+1) fp) [(D,j6 its k)] σ' H' s':=λ{σ' H' s' its k}J e n=>
  J.pins_of λp hp=>by
   have e':p=(D,j6 its k):=by simpa using hp
   subst e';exact⟨e,n,Fd<|Ig _,nfs hDs,λv z=>by
    have z':LU its.toArray k=IG v:=z;cases z'⟩
 have loop:codeAny (model `o X.w) X.A (.compLoop (.ListComp Z2 [⟨tg,iter,ifs,0⟩] scope Z9) 0 (.ref it) (.ref D) (aQ X scope N s2 H2 (D+1) fp).env) (RR (.ref D)<|D+1) {s2 with heap:=h4}:=by
  obtain⟨m0,w0⟩:=w0;refine nz (λn s'=>∃i ys its k σ' H',Inv (aQ X scope N s2 H2 (D+1) fp) [(D,j6 its k)] σ' H' s'/\tn i s'.heap/\(∀b∈fp,H' b=`c)/\Vals ys its/\(∀(j:Nat)(v:V),0 (bH cap M)[j]? (some v)->0 σ'[j]? (some v))/\W i n ys H') ?_ m0 ⟨0,[],[],0,bH cap M,H2,pinD IC hD4<|I2.hok.fresh hDs,T.keep _ _ _ st2 λb hb o e=>a0 b o<|a1 b o e,λb hb=>(f2 b hb).1,.nil,λ_ _ e=>e,w0⟩
  rintro n s3 ⟨i,ys,its,k,σ3,H3,I3,st3,fr3,rv,kp,w3⟩;obtain⟨hyl,tr⟩:=turn i n ys H3 w3;have pin3:=I3.pin (D,j6 its k) (Fx _ Fc);rcases tr with⟨stop,qn⟩|⟨go,NN,hNN,step⟩
  ·refine cx (T.done (aQ X scope N s2 H2 (D+1) fp) `a `a `a hc i _ s3 σ3 H3 _ I3 (fpO fr3) st3 stop) λr s4 zz=>?_;obtain⟨hr,I4⟩:=zz;subst hr;exact fin D (D+1) σ3 H3 s4 its k ys hDs hDC (Fd<|Ig _) I4 rv (J3 hyl) (qn D pin3.2.1)
  ·have I3':Inv (aQ X scope N s2 H2 (D+1) fp) [(D,j6 its k)] (bH cap M) H3 s3:=I3.weak (by rw[I3.len,IC.len]) kp;refine cx (T.item (aQ X scope N s2 H2 (D+1) fp) `a `a `a hc i _ s3 _ H3 _ I3' (fpO fr3) st3 go) λr s4 zz=>?_;obtain⟨u,hr,h4⟩:=zz;subst hr;refine cx h4 λ_ s5 zz=>?_;obtain⟨x,H5,I5,r5,y5,st5,fr5⟩:=zz;have I5':=I5.pinned (fpO fr5) (T.obj _ _ st5);refine cx (hg _ _ _ _ _ s5 _ H5 x u _ I5' r5<|step x H5 y5) λ_ s6 zz=>?_;obtain⟨σ6,H6,I6,kp6,q6⟩:=zz;refine cx (hf _ _ _ _ _ s6 σ6 H6 _ I6 q6) λok s7 zz=>?_;obtain⟨H7,I7,q7⟩:=zz;have back:∀{s8:EN}{H8:Hp},Inv (aQ X scope N s2 H2 (D+1) fp) ([(D,j6 its k)]++jD fp s5.heap) σ6 H8 s8->tn (i+1) s8.heap/\(∀b∈fp,H8 b=`c)/\0 (s8.heap.get? D) (j6 its k)/\H8 D=`c:=λ{s8 H8}I8=>by
    have at_:∀b∈fp,∀o,0 (s5.heap.get? b) o->0 (s8.heap.get? b) o/\H8 b=`c:=λb hb o e=>by
     have z:=I8.pin (b,o) (Fx _<|Fx _<|fP hb e);exact⟨z.1,z.2.1⟩
    have pd:=I8.pin (D,j6 its k) (Fx _<|JM _ Fc);refine⟨T.keep _ _ _ st5 λb hb o e=>(at_ b hb o e).1,λb hb=>?_,pd.1,pd.2.1⟩;obtain⟨o,e,d⟩:=T.obj _ _ st5 b hb;exact(at_ b hb o e).2
   cases ok with
   |false=>
    rw[Z1 F8]at q7 ⊢;obtain⟨m',hm,w'⟩:=hNN _ _ q7;obtain⟨t7,f7,d7,n7⟩:=back I7;exact⟨m',hm,i+1,ys,its,k,σ6,H7,I7.unpinned,t7,f7,rv,λj v e=>Keep.get kp6 e,w'⟩
   |true=>
    rw[Z0 `a]at q7 ⊢;refine cx (he _ _ _ _ _ s7 σ6 H7 _ I7 q7) λy8 s8 zz=>?_;obtain⟨y,H8,I8,r8,q8⟩:=zz;obtain⟨m',hm,w'⟩:=hNN _ _ q8;obtain⟨t8,f8,d8,n8⟩:=back I8;refine append_at (D:=D) (its:=its.toArray) (n:=k) d8 (λh' hs' hD'=>?_) (by rw[EW,<-rv.length];exact J3 hyl);have J0:Inv (aQ X scope N s2 H2 (D+1) fp) [] σ6 H8 s8:=I8.pins_of λp hp=>by cases hp
    have J1:Inv (aQ X scope N s2 H2 (D+1) fp) [] σ6 H8 {s8 with heap:=h'}:=J0.turned (it:=D) (t':=s8.toks) (λb o hb e=>(hs'.2 b hb).trans e) n8 (Fd<|Ig _) (.inr hDs) cellsD λp hp=>by
     have:p∈([]:7 Addr Obj):=hp;cases this
    refine⟨m',hm,i+1,ys++[y],its++[y8],k+1,σ6,H8,pinD J1 (by simpa using hD') n8,T.keep _ _ _ t8 λb hb o e=>(hs'.2 b<|Fd<|fpD b hb).trans e,f8,rv.append<|.cons r8 .nil,λj v e=>Keep.get kp6 e,w'⟩
 exact codeAny_compStart_list loop (Gi (T.self _ 0 _ _ _ (T.keep _ _ _ st2 λb hb o e=>a0 b o<|a1 b o e) loop) (λ_ _ h=>h) λ_ _ h=>h)
end
section
variable{X:Cx}{scope:ID}{N:`I}{cap:List `S}{tg iter Z2:Expr}{ifs:List Expr}{Z9:Pos}{wi:TI}{g:TG}{tf:TT}{te:TE}
theorem oU{Z_:7 Addr Obj}{M σ':St}{H2 H':Hp}{s2 s':EN}{fp:List Addr}{D C:Addr}{its:List EM}{k:Nat}{ys:`u}{h':Heap}(I2:14 X M H2 s2)(f2:∀b∈fp,FpOk X Z_ H2 b)
  (hD:s2.heap.objs.size<=D) (hC:s2.heap.objs.size<=C) (hDC:D≠C) (I':Inv (aQ X scope N s2 H2 C fp) [(D,j6 its k)] σ' H' s') (rv:Vals ys its) (hl:ys.length<=sizeLine) (hs:Fg C s'.heap h'):
  Inv X Z_ M (cT H' D<|.lst ys) {s' with heap:=h'}:=by
 have pd:=I'.pin (D,j6 its k) (Fx _ Fc);have nD:H' D=`c:=pd.2.1;have nC:H' C=`c:=I'.free;have lt2:∀b o,0 (s2.heap.get? b) o->b≠D/\b≠C:=λb o e=>⟨Fd<|EZ (EU e) hD,Fd<|EZ (EU e) hC⟩
 have hk:∀b o,b≠C->0 (s'.heap.get? b) o->37 b o:=λb o hb e=>(hs.2 b hb).trans e;have B:Un (frs X.stack) fp H2 H' s2.heap s'.heap:=I'.base;have tr:∀b u,0 (H' b) u->b≠D/\b≠C:=λb u e=>⟨λz=>(by rw[z,nD]at e;cases e),λz=>(by rw[z,nC]at e;cases e)⟩
 refine I2.call' (ch:=fp) I'.os ⟨λb o e n hb hx=>?_,λb o e n hb hx=>?_,λb o e n hx=>?_,λb o e hx=>?_,λb xs e=>?_,λb o u e=>?_,λb ps e=>?_⟩ (λb u e=>?_) I'.bare λb hb=>⟨(f2 b hb).2.2.2.1,(f2 b hb).2.1,(f2 b hb).2.2.2.2.1,(f2 b hb).2.2.2.2.2⟩
 ·exact hk b o (lt2 b o e).2 (B.keep b o e n hb hx)
 ·obtain⟨sl,q⟩:=B.slot b o e n hb hx;exact⟨sl,hk b _ (lt2 b o e).2 q⟩
 ·rw[aJ (lt2 b o e).1];exact B.free b o e n hx
 ·obtain⟨o',q⟩:=B.there b o e hx;exact⟨o',hk b _ (lt2 b o e).2 q⟩
 ·rw[aJ (tr b _<|B.tups b xs e).1];exact B.tups b xs e
 ·rw[aJ (tr b _<|B.frzs b o u e).1];exact B.frzs b o u e
 ·obtain⟨more,q⟩:=B.tbls b ps e;exact⟨more,by rw[aJ (tr b _ q).1];exact q⟩
 ·by_cases hb:b=D
  ·subst hb;rw[aG]at e;cases e;exact⟨hl,its,k,rv,hk _ _ hDC pd.1⟩
  ·rw[aJ hb]at e;refine(I'.hok b u e).stay (λc w' hc q=>hk c w' ?_ q) (λc q=>by rw[aJ (tr c _ q).1];exact q) λc xs q=>by rw[aJ (tr c _ q).1];exact q
   rcases hc with z|z;·rw[z];exact(tr b u e).2
   ·exact(tr c _ z).2
theorem gJ(S:CompScope X scope N cap):∀x∈scope.names,x.2=.local->0 (scope.names.lookup x.1) .local:=λx hx hl=>dQ S.uniq (by rw[<-hl];exact hx)
theorem fh(S:CompScope X scope N cap)(hc:1 X.calm)(hi:PI X tg iter wi)
  (hg:∀s H C fp,PG (aQ X scope N s H C fp) tg g) (hf:∀s H C fp,uu (aQ X scope N s H C fp) ifs tf) (he:∀s H C fp,PE (aQ X scope N s H C fp) Z2 te)
  (hs:∀x,foldedSetIterable iter X.env x=pure x:=by intro _;rfl):PE X (.ListComp Z2 [⟨tg,iter,ifs,0⟩] scope Z9) (oS cap wi g tf te):=by
 intro Z_ s M H Q I h;rw[eval_ListComp];have frc:∀x∈scope.names,x.2=.free->∃c,43 x.1 c:=λx hx hk=>I.ok.has x.1 (S.free x hx hk);refine HY (use:=none) `a hs (fg frc) S.kind (gJ S) (cx (hi Z_ s M H _ I h) λv s1 h1=>cx h1 λitv s2 h2=>?_);obtain⟨it,fp,tn,J,H2,rfl,I2,T,st2,f2,W,w0,turn⟩:=h2;refine mG (RR:=λZ8 C=>compPost (model `o X.w) X.A X.xe `c (EP X Z_ M Q) Z8 C) S hc hg hf he I2 T st2 f2 w0 turn λD C σ' H' s' its k ys hD hC hDC I' rv hl q=>?_;obtain⟨m,hn,_⟩:=I'.loc;exact⟨m,hn,λh' hs'=>⟨.ref D,_,oU I2 f2 hD hC hDC I' rv hl hs',`a,q⟩⟩
end
section
variable{X:Cx}{scope:ID}{N:`I}{cap:List `S}{tg iter Z2:Expr}{ifs:List Expr}{Z9 spos py:Pos}{wi:TI}{g:TG}{tf:TT}{te:TE}{i:Nat}{y:Str}
theorem j7(hN:X.N.Nodup)(hi':0 X.N[i]? y)(hy:zx X.env.scope y)(S:CompScope X scope N cap)(hc:1 X.calm)(hi:PI X tg iter wi)
  (hg:∀s H C fp,PG (aQ X scope N s H C fp) tg g) (hf:∀s H C fp,uu (aQ X scope N s H C fp) ifs tf) (he:∀s H C fp,PE (aQ X scope N s H C fp) Z2 te)
  (hsw:swapsWith (.ListComp Z2 [⟨tg,iter,ifs,0⟩] scope Z9) (some<|.Name y py) spos.line X.env=pure true:=by rfl)
  (hs:∀x,foldedSetIterable iter X.env x=pure x:=by intro _;rfl) (hfn:1 (X.fn y)\/0 (X.env.scope.names.lookup y) .local:=by first|exact .inl rfl|exact .inr rfl|assumption):
  PS X (.Assign [.Name y py] (.ListComp Z2 [⟨tg,iter,ifs,0⟩] scope Z9) spos) (cE (oS cap wi g tf te)<|bt i):=by
 intro Z_ s M H D I h;rw[exec_Assign_Name_used _ _ _ _ hsw];refine EF (HH<|EF ?_);show wpAny _ X.A (do let _ <-comprehension (.ListComp Z2 [⟨tg,iter,ifs,0⟩] scope Z9) scope X.env _ (newList []) false (26 iter) (some<|assign (.Name y py) X.env)) _ _ s;have frc:∀x∈scope.names,x.2=.free->∃c,43 x.1 c:=λx hx hk=>I.ok.has x.1 (S.free x hx hk);refine EF (Gi (HY (use:=some (assign (.Name y py) X.env)) (Q:=λ_ s'=>SP X Z_ D .next s') `a hs (fg frc) S.kind (gJ S)<|cx (hi Z_ s M H _ I h) λv s1 h1=>cx h1 λitv s2 h2=>?_) (λ_ s' hq=>EK<|EK hq) λ_ _ e=>e);obtain⟨it,fp,tn,J,H2,rfl,I2,T,st2,f2,W,w0,turn⟩:=h2;refine mG (Qv:=λx H1=>bt i x M H1 D.nx) (RR:=λZ8 C=>compPost (model `o X.w) X.A X.xe (some<|assign (.Name y py) X.env) (λ_ s'=>SP X Z_ D .next s') Z8 C) S hc hg hf he I2 T st2 f2 w0 turn λd C σ' H' s' its k ys hD hC hDC I' rv hl q=>?_;obtain⟨m,hn,_⟩:=I'.loc;have I3:14 X M (cT H' d<|.lst ys) s':=oU (h':=s'.heap) I2 f2 hD hC hDC I' rv hl<|.refl ..;have nC:(cT H' d<|.lst ys) C=`c:=by rw[aJ (Hx hDC)];exact I'.free
 have cL:C≠X.env.locals:=λz=>absurd (EZ I2.lt hC) (by rw[z];exact Gu _);have cc:∀x c,43 x c->c≠C:=λx c e z=>by
  obtain⟨v,q⟩:=I2.cell x c e;exact absurd (EZ q.lt hC) (by rw[z];exact Gu _)
 show wpAny _ X.A (assign (.Name y py) X.env<|.ref d) _ _ _;refine MD (mn (v:=.ref d) I3 hN hi' hy `a (λs4 I4⟨a,sb,ha⟩=>?_) hfn);have aC:C≠a:=by
  rcases ha with z|z;·rw[z];exact cL
  ·exact Hx (cc _ _ z)
 refine⟨m,hn.sameBut sb aC,λh' hs'=>?_⟩;exact⟨_,_,I4.turned (it:=C) (t':=s4.toks) (λb o hb e=>(hs'.2 b hb).trans e) nC cL (.inr<|Gy I2.sz hC) cc (λp hp z=>absurd (EZ (EU (I2.pin p hp).1) hC) (by rw[z];exact Gu _)),q⟩
end
inductive Src where
 |lst (a:Addr)|tup (a:Addr)|str (l:List Nat)
def Src.has(K:EL)(H:Hp):8 Src `u
 | .lst a,xs=>SqL K H a xs
 | .tup a,xs=>SqT K H a xs
 | .str l,xs=>xs=l.map λc=>Jo (aU [c])
def Src.at(it:Addr)(i:Nat)(h:Heap):Src->Prop
 | .lst a=>h.IsListIter it a i
 | .tup a=>h.IsTupleIter it a i
 | .str l=>∃t,h.IsStrIter it "str_ascii_iterator" (aU l) t i\/h.IsStrIter it "str_iterator" (aU l) t i
def Src.val:Src->V
 | .lst a=>.ref a
 | .tup a=>.ref a
 | .str l=>.str (aU l)
section
variable{P:F6}{w:Fh}{A:FR}{E:8 EM EN}{s:EN}
theorem nA{j a:Addr}{k:Nat}{us:Array EM}{x:EM}{Q:8 EM EN}(g:s.heap.IsTupleIter j a k)(ga:s.heap.IsTuple a us)(gx:0 us[k]? x)
  (q:∀h',h'.IsTupleIter j a (k+1)->Fg j s.heap h'->Q x {s with heap:=h'}):21 P w A (Fq<|.ref j) Q E:=by
 obtain⟨ob,e1,e2,e3⟩:=id g;obtain⟨ot,f1,_,nn,f3⟩:=ga;unfold Fq;refine EF (FU (name:=EO "__next__") g.typeIs Hg<|Fu Hg g.typeIs Jq ?_<|Ji _);show 21 P w _ (field (.ref j) 0>>=_) _ _;refine EF (G4 e1 e3 (x:=.ref a) `a ?_);show 21 P w _ (if 1 (G8 a==FZ) then _ else _) _ _;rw[Z1 (show ¬(1<|G8 a==FZ)from F8)];show 21 P w _ (field (.ref j) 1>>=_) _ _;refine EF (G4 e1 e3 (x:=.int k 0) `a ?_);show 21 P w _ (seqItems? (.ref a)>>=_) _ _;refine EF (G0 f1 f3 ?_);simp only[Gv,gx];refine EF (Ih e1 e3 `f<|EK ⟨x,`a,EK (q _ ⟨_,GY _ e1<|Obj.isFreed_of_fields<|Mx e3 _,(Obj.cls_mapFields ..).trans e2,(by rw[Mx e3];simp[rawInt])⟩<|Gk ..)⟩)
theorem oV{j a:Addr}{k:Nat}{us:Array EM}{Q:8 EM EN}(hh:A.handled=`c)(g:s.heap.IsTupleIter j a k)(ga:s.heap.IsTuple a us)(gx:us[k]? =`c)
  (q:∀h' e,IX j s.heap h'->(∃o,37 e o/\o.cls=.type "StopIteration")->E (.ref e) {s with heap:=h'}):21 P w A (Fq<|.ref j) Q E:=by
 obtain⟨ob,e1,e2,e3⟩:=id g;obtain⟨ot,f1,_,nn,f3⟩:=ga;unfold Fq;refine EF (FU (name:=EO "__next__") g.typeIs Hg<|Fu Hg g.typeIs Jq ?_<|Ji _);show 21 P w _ (field (.ref j) 0>>=_) _ _;refine EF (G4 e1 e3 (x:=.ref a) `a ?_);show 21 P w _ (if 1 (G8 a==FZ) then _ else _) _ _;rw[Z1 (show ¬(1<|G8 a==FZ)from F8)];show 21 P w _ (field (.ref j) 1>>=_) _ _;refine EF (G4 e1 e3 (x:=.int k 0) `a ?_);show 21 P w _ (seqItems? (.ref a)>>=_) _ _;refine EF (G0 f1 f3 ?_);simp only[Gv,gx];refine EF (Jj<|EF<|Ih e1 e3 `f ?_);show wpAny (model P w) _ (newExc (.type "StopIteration") []>>=_) _ _ _;refine EF ?_;simp only[newExc,newTuple];refine EF (Gg (EF (m:=firstArgMember _ _)<|KJ (a:=FZ) (by first|rfl|(simp only[firstArgMember];rfl)) (Gg ?_ (by size_fits))) (by size_fits));simp only[raiseNew];refine EF (Mb ?_)
 first|rw[show A.in1.handled=`c from hh]|rw[hh]
 exact EF (EK<|Nd<|q _ _ (((Gk ..).extBut.push _).push _)<|9 (ES _ `a) `a)
theorem uP(hh:A.handled=`c)(j a:Addr)(ne:a≠j)(us:Array EM):Ls P w A j [j,a] us.size (λk v=>0 us[k]? v) (λk h=>h.IsTupleIter j a k/\h.IsTuple a us) where
 live:=λ_ _ st=>by obtain⟨⟨o,e,_⟩,_⟩:=st;exact⟨o,e⟩
 frame:=λ_ _ _ st hk=>⟨st.1.at λo e=>hk j `f o e,by obtain⟨o,e,r⟩:=st.2;exact⟨o,hk a `f o e,r⟩⟩
 item:=λk s Q E hk st q=>nA st.1 st.2 (x:=us[k]) (by simp[hk]) λh' g' sb=>q _ h' s.toks (by simp[hk]) ⟨g',by obtain⟨o,e,r⟩:=st.2;exact⟨o,(sb.2 a ne).trans e,r⟩⟩ sb
 done:=λs Q E st q=>oV hh st.1 st.2 `f q
theorem Src.draws{X:Cx}{Z_:7 Addr Obj}{M:St}{H:Hp}{s0:EN}{c:Src}{xs:`u}{it:Addr}{i:Nat}(hh:A.handled=`c)(I:14 X M H s0)(hs:c.has X.K H xs)(ht:c.at it i s0.heap)(hit:H it=`c):
  ∃(fp:List Addr)(Pt:Nat->EM->Prop)(St:Nat->Heap->Prop),Ls `o X.w A it fp `i Pt St/\St i s0.heap/\(∀k v,Pt k v->∃x,0 xs[k]? x/\RelV x v)/\(∀k h,St k h->c.at it k h)/\it∈fp/\∀b∈fp,b=it\/H b≠`c\/∃o,0 (X.base.get? b) o:=by
 cases c with
 |lst a=>
  obtain⟨its,rv,p,hz⟩:=I.list hs;have ne:a≠it:=λz=>by
   obtain⟨o,e,c1,_⟩:=(show s0.heap.IsListIter it a i from ht)
   obtain⟨o2,e2,c2,_⟩:=p.isList;rw[z,e]at e2;cases e2;rw[c1]at c2;exact absurd c2 ⋯
  have dr:=Draws.list (prog:=X.prog) (w:=X.w) hh it a ne its.toArray;rw[EW,<-rv.length]at dr;refine⟨_,_,_,dr,⟨ht,p.isList⟩,λk v e=>?_,λk h st=>st.1,`f,λb hb=>?_⟩
  ·have e:0 its[k]? v:=by simpa using e
   have hk:k<`i:=by rw[rv.length];exact(ER.mp e).1
   obtain⟨u,hu,ru⟩:=rv.get (i:=k) (x:=xs[k]) (by simp[hk]);rw[e]at hu;cases hu;exact 9 (by simp[hk]) ru
  ·rcases F0.mp hb with z | z;·exact .inl z
   ·have z:b=a:=`W
    subst z;rcases (show SqL X.K H b xs from hs)with(z|⟨o,z⟩)|⟨o,_,_,z,_⟩
    ·exact .inr (.inl (by rw[z];simp))
    ·exact .inr (.inl (by rw[z];simp))
    ·exact .inr (.inr ⟨_,I.mod.kin _ _ z⟩)
 |tup a=>
  obtain⟨its,rv,p,hz⟩:=I.tuple hs;have p:s0.heap.IsTuple a its.toArray:=p;have ne:a≠it:=λz=>by
   obtain⟨o,e,c1,_⟩:=(show s0.heap.IsTupleIter it a i from ht)
   obtain⟨o2,e2,c2,_⟩:=id p;rw[z,e]at e2;cases e2;rw[c1]at c2;exact absurd c2 ⋯
  have dr:=uP (P:=X.prog) (w:=X.w) hh it a ne its.toArray;rw[EW,<-rv.length]at dr;refine⟨_,_,_,dr,⟨ht,p⟩,λk v e=>?_,λk h st=>st.1,`f,λb hb=>?_⟩
  ·have e:0 its[k]? v:=by simpa using e
   have hk:k<`i:=by rw[rv.length];exact(ER.mp e).1
   obtain⟨u,hu,ru⟩:=rv.get (i:=k) (x:=xs[k]) (by simp[hk]);rw[e]at hu;cases hu;exact 9 (by simp[hk]) ru
  ·rcases F0.mp hb with z | z;·exact .inl z
   ·have z:b=a:=`W
    subst z;rcases (show SqT X.K H b xs from hs)with(z|⟨o,z⟩)|⟨o,_,_,z,_⟩
    ·exact .inr (.inl (by rw[z];simp))
    ·exact .inr (.inl (by rw[z];simp))
    ·exact .inr (.inr ⟨_,I.mod.kin _ _ z⟩)
 |str l=>
  have hs:xs=l.map λc=>Jo (aU [c]):=hs;obtain⟨t,ht⟩:=(show ∃t,s0.heap.IsStrIter it "str_ascii_iterator" (aU l) t i\/s0.heap.IsStrIter it "str_iterator" (aU l) t i from ht)
  have hn:(aU l).cps.size=`i:=by rw[hs];simp[aU]
  have sg:∀(k:Nat)(v:EM),(∃c u,0 (aU l).cps[k]? c/\v=.str ⟨#[c]⟩ u)->∃x,0 xs[k]? x/\RelV x v:=λk v⟨c,u,e,ev⟩=>by
   have e:0 l[k]? c:=by simpa [aU] using e
   exact⟨.str (aU [c]),by rw[hs];simp[e],⟨u,ev⟩⟩
  rcases ht with ht|ht;·exact⟨_,_,_,hn▸Draws.strAscii hh it (aU l) t,ht,sg,λk h st=>⟨t,.inl st⟩,`f,λb hb=>.inl (by simpa using hb)⟩
  ·exact⟨_,_,_,hn▸Draws.strWide hh it (aU l) t,ht,sg,λk h st=>⟨t,.inr st⟩,`f,λb hb=>.inl (by simpa using hb)⟩
end
def fU(v:EM)(h:Heap)(o:Obj):Prop:=∀(prog:F6)(w:Fh)(A:FR)(E:8 EM EN)(Q:8 EM EN)(s:EN),s.heap=h->Q (.ref h.objs.size) {s with heap:=h.push o}->wpAny (model prog w) A (pyIter v) Q E s
def BE(h:Heap)(o1 o2:Obj):Heap:=((h.push o1).push o2).push {cls:=.type "tuple",data:=.seq #[.ref h.objs.size,.ref (h.push o1).objs.size]}
def BF(h:Heap)(o1 o2:Obj):Heap:=(BE h o1 o2).push {cls:=.type "tuple",data:=.seq #[.none,.none]}
def Bb(h:Heap)(o1 o2:Obj):Heap:=(BF h o1 o2).push {cls:=.type "zip",data:=.fields #[.none,.bool `g,.bool `g,.ref ((h.push o1).push o2).objs.size,.ref (BE h o1 o2).objs.size]}
theorem nB(v1 v2:EM)(o1 o2:Obj):Meets (HG.«zip.__new__» ⟨[.type "zip",v1,v2],[]⟩) (λ_ R s=>fU v1 s.heap o1/\fU v2 (s.heap.push o1) o2/\R (.ok<|.ret<|.ref (BF `p o1 o2).objs.size) {s with heap:=Bb s.heap o1 o2}):=
 .of_wp λprog w A R s h=>by
  obtain⟨hp,g,d,tk,os⟩:=s;obtain⟨i1,i2,h⟩:=h;have hsub:=sub_zip;have j1:=λ(A:FR)(E:EM->EN->Prop)(Q:EM->EN->Prop)(q:Q _ _)=>i1 prog w A E Q ⟨hp,g,d,tk,os⟩ `a q;have j2:=λ(A:FR)(E:8 EM EN)(Q:8 EM EN)(q:Q _ _)=>i2 prog w A E Q ⟨hp.push o1,g,d,tk,os⟩ rfl q
  wp_walk using j1 _ _ _,j2 _ _ _
  exact 9 `a h
theorem sX{P:F6}{w:Fh}{A:FR}{E:8 EM EN}{s:EN}{v1 v2:EM}{o1 o2:Obj}{Q:8 EM EN}(i1:fU v1 `p o1)(i2:fU v2 (s.heap.push o1) o2)
  (f1:o1.isFreed=`g) (f2:o2.isFreed=`g)
  (q:∀h',Io h' (39 4) (39 2) (39 3) .none->Jk h' (39 2) (`X) (.ref<|39 1)->Jk h' (39 3) .none .none->
   h'.get? s.heap.objs.size=some o1->h'.get? (39 1)=some o2->(∀c o,23 c o->37 c o)->Q (.ref<|39 4) {s with heap:=h'}):
  21 P w A (call (.type "zip") [v1,v2]) Q E:=by
 refine callType_new My ⋯ (PySem.F.typeCall_zip_2 _ _) (PySem.F.newCall_zip_2 _ _) (λobj=>PySem.F.args_object_init_3 obj _ _) LB (nB v1 v2 o1 o2) ⟨i1,i2,?_⟩;have z1:(s.heap.push o1).objs.size=39 1:=FO ..;have z2:((s.heap.push o1).push o2).objs.size=39 2:=by rw[FO,z1]
 have z3:(BE `p o1 o2).objs.size=39 3:=by unfold BE;rw[FO,z2]
 have z4:(BF `p o1 o2).objs.size=39 4:=by unfold BF;rw[FO,z3]
 have g5:0 ((Bb `p o1 o2).get? (BF `p o1 o2).objs.size) _:=ES _ `a;have g4:0 ((Bb `p o1 o2).get? (BE `p o1 o2).objs.size) _:=EI _ (ES _ `a);have g3:0 ((Bb `p o1 o2).get? ((s.heap.push o1).push o2).objs.size) _:=EI _ (EI _<|ES _ `a);have g2:0 ((Bb `p o1 o2).get? (s.heap.push o1).objs.size) o2:=EI _ (EI _<|EI _<|ES _ f2);have g1:0 ((Bb `p o1 o2).get? `P) o1:=EI _ (EI _<|EI _<|EI _<|ES _ f1);show _/\_;rw[z2,z3,z4]at g5;rw[z1,z2]at g3;rw[z3]at g4;rw[z1]at g2;rw[z4];exact⟨9 g5 `a,q _ g5 g3 g4 g1 g2 λc o x=>EI _<|EI _<|EI _<|EI _<|EI _ x⟩
theorem Src.iter{X:Cx}{Z_:7 Addr Obj}{M:St}{H:Hp}{s:EN}{c:Src}{xs:`u}{v:EM}{h:Heap}(I:14 X M H s)(hs:c.has X.K H xs)(rv:RelV c.val v)(k:∀b o,23 b o->34 b o):
  ∃o,fU v h o/\o.isFreed=`g/\(∀h':Heap,37 h.objs.size o->c.at h.objs.size 0 h'):=by
 cases c with
 |lst a=>
  obtain⟨its,r,p,hz⟩:=I.list hs;cases (show v=.ref a from rv);obtain⟨o,e,r2⟩:=p.isList;refine⟨{cls:=.type "list_iterator",data:=.fields #[.ref a,.int 0 0]},λprog w A E Q s' e' q=>?_,rfl,λh' e'=>⟨_,e',`a,`a⟩⟩;subst e';exact Js ⟨o,k a o e,r2⟩ q
 |tup a=>
  obtain⟨its,r,p,hz⟩:=I.tuple hs;cases (show v=.ref a from rv);obtain⟨o,e,r2⟩:=p;refine⟨{cls:=.type "tuple_iterator",data:=.fields #[.ref a,.int 0 0]},λprog w A E Q s' e' q=>?_,rfl,λh' e'=>⟨_,e',`a,`a⟩⟩;subst e';exact wpAny_pyIter_tuple ⟨o,k a o e,r2⟩ q
 |str l=>
  obtain⟨t,rfl⟩:=(show ∃t,v=.str (aU l) t from rv)
  cases ha:(aU l).cps.all (· <128);·exact⟨{cls:=.type "str_iterator",data:=.fields #[.str (aU l) t,.int 0 0]},λprog w A E Q s' e' q=>by subst e';exact ML ha q,rfl,λh' e'=>⟨t,.inr ⟨_,e',`a,`a⟩⟩⟩
  ·exact⟨{cls:=.type "str_ascii_iterator",data:=.fields #[.str (aU l) t,.int 0 0]},λprog w A E Q s' e' q=>by subst e';exact Mv ha q,rfl,λh' e'=>⟨t,.inl ⟨_,e',`a,`a⟩⟩⟩
section
variable{P:F6}{w:Fh}{A:FR}{E:8 EM EN}{s:EN}{z TI TO i1 i2:Addr}{fp1 fp2:List Addr}{n1 n2 k:Nat}{P1 P2:8 Nat EM}{S1 S2:8 Nat Heap}{a b:EM}
structure ZApart(z TI TO i1 i2:Addr)(fp1 fp2:List Addr):Prop where
 c1:TI≠z
 c2:TO≠z
 c3:i1≠z
 c4:i2≠z
 c5:TI≠TO
 c6:TI≠i1
 c7:TI≠i2
 c8:TO≠i1
 c9:TO≠i2
 d1:z∉fp1/\TO∉fp1/\i2∉fp1
 d2:z∉fp2/\TO∉fp2/\i1∉fp2
theorem aH{n:Nat}{it:Addr}{fp:List Addr}{Pt:8 Nat EM}{S:8 Nat Heap}(D:Ls P w A it fp n Pt S){j:Nat}{h h':Heap}{c:Addr}(st:S j h)(sb:Fg c h h')(hc:c∉fp):S j h':=
 D.frame _ _ _ st λb hb o e=>(sb.2 b λq=>hc<|q▸hb).trans e
theorem sY{Q:8 `Q EN}(D1:Ls P w A.in1 i1 fp1 n1 P1 S1)(D2:Ls P w A.in1 i2 fp2 n2 P2 S2)(ZY:ZApart z TI TO i1 i2 fp1 fp2)(h1:k<n1)(h2:k<n2)(hz:Io `p z TI TO .none)
  (hI:Jk `p TI (.ref i1) (.ref i2)) (hO:Jk `p TO a b) (t1:S1 k `p) (t2:S2 k `p)
  (q:∀x y h' tk T,P1 k x->P2 k y->T=s.heap.objs.size->Io h' z TI TO (rawInt T)->Jk h' TO x y->S1 (k+1) h'->S2 (k+1) h'->Jk h' T x y->
   (∀c o,c≠z->c≠TO->c≠i1->c≠i2->23 c o->37 c o)->Q (27 T) {s with heap:=h',toks:=tk}):
  21 P w A (pyNext<|.ref z) Q E:=by
 have hT:s.TypeIs (.ref z) "zip":=9 hz `a
 unfold pyNext;refine EF (HZ<|FU (name:=EO "__next__") hT GH<|Fu GH hT Iy ?_<|Ij _);obtain⟨hp,gg,dd,tk0,os⟩:=s;show wpAny (model P w) _ (field (.ref z) 2>>=_) _ _ _;refine EF (G4 hz `a (x:=.bool `g) `a ?_);show wpAny (model P w) _ (field (.ref z) 3>>=_) _ _ _;refine EF (G4 hz `a (x:=.ref TI) `a<|EF<|G0 hI `a ?_);show wpAny (model P w) _ (FH (.ref z)>>=_) _ _ _;refine EF ?_;unfold FH;refine EF (G4 hz `a (x:=.none) `a `y);simp only[if_true];refine EF (Jj<|EF<|G4 hz `a (x:=.ref TO) `a<|EF<|G2 hz `f λg1 y1 b1=>?_);replace y1:Io g1 z TI TO .ellipsis:=y1;replace b1:Fg z hp g1:=b1;refine EF ?_;simp only[JG,K0,Je,Ju];refine EF (EF<|Hr ?_);show wpAny (model P w) _ (Fq (.ref i1)>>=_) _ _ _;refine EF (D1.item k _ _ _ h1 (aH D1 t1 b1 ZY.d1.1) λx g2 tk2 px u1 b2=>`y);replace b2:Fg i1 g1 g2:=b2;have O2:Jk g2 TO a b:=b2.extBut _ _ ZY.c8 (b1.extBut _ _ ZY.c2 hO);refine EF (G0 O2 `a<|EF<|JQ O2 λg3 O3 b3=>?_);replace O3:Jk g3 TO x b:=O3;replace b3:Fg TO g2 g3:=b3;refine EF (Ip<|EK<|EF<|EF<|Hr ?_);show wpAny (model P w) _ (Fq (.ref i2)>>=_) _ _ _;refine EF (D2.item k _ _ _ h2 (aH D2 (aH D2 (aH D2 t2 b1 ZY.d2.1) b2 ZY.d2.2.2) b3 ZY.d2.2.1) λy g4 tk4 py u2 b4=>`y);replace b4:Fg i2 g3 g4:=b4;have O4:Jk g4 TO x b:=b4.extBut _ _ ZY.c9 O3;refine EF (G0 O4 `a<|EF<|JQ O4 λg5 O5 b5=>?_);replace O5:Jk g5 TO x y:=O5;replace b5:Fg TO g4 g5:=b5;refine EF (Ip<|EK<|EK<|EF<|G0 O5 `a<|EF<|LW ?_);have sz:g5.objs.size=hp.objs.size:=by rw[b5.1,b4.1,b3.1,b2.1,b1.1]
 have y5:Io g5 z TI TO .ellipsis:=b5.extBut _ _ ZY.c2.symm (b4.extBut _ _ ZY.c4.symm<|b3.extBut _ _ ZY.c2.symm<|b2.extBut _ _ ZY.c3.symm y1);have k5:∀c o,c≠z->c≠TO->c≠i1->c≠i2->0 (hp.get? c) o->0 (g5.get? c) o:=λc o e1 e2 e3 e4 e=>b5.extBut _ _ e2 (b4.extBut _ _ e4<|b3.extBut _ _ e2<|b2.extBut _ _ e3<|b1.extBut _ _ e1 e);have v1:S1 (k+1) g5:=aH D1 (aH D1 (aH D1 u1 b3 ZY.d1.2.1) b4 ZY.d1.2.2) b5 ZY.d1.2.1;have v2:S2 (k+1) g5:=aH D2 u2 b5 ZY.d2.2.1;have lz:z<g5.objs.size:=EU y5;show wpAny (model P w) _ (GV (.ref z) (.ref g5.objs.size)>>=_) _ _ _;refine EF ?_;unfold GV;have y6:Io (g5.push {cls:=.type "tuple",data:=.seq #[x,y]}) z TI TO .ellipsis:=EI _ y5;refine EF (G2 y6 `f λg7 y7 b7=>?_);replace y7:Io g7 z TI TO (rawInt g5.objs.size):=y7;replace b7:Fg z (g5.push {cls:=.type "tuple",data:=.seq #[x,y]}) g7:=b7;refine G2 y7 `f λg8 y8 b8=>?_;replace y8:Io g8 z TI TO (rawInt g5.objs.size):=y8;replace b8:Fg z g7 g8:=b8;have up:∀c o,c≠z->0 (g5.get? c) o->0 (g8.get? c) o:=λc o e1 e=>b8.extBut _ _ e1 (b7.extBut _ _ e1<|EI _ e);have T8:Jk g8 g5.objs.size x y:=b8.extBut _ _ (HU lz) (b7.extBut _ _ (HU lz)<|ES _ `a);refine EK (9 `a<|EK<|q x y g8 _ g5.objs.size px py sz y8 (up _ _ ZY.c2 O5) (D1.frame _ _ _ v1 λb hb o e=>up b o (λq=>ZY.d1.1<|q▸hb) e) (D2.frame _ _ _ v2 λb hb o e=>up b o (λq=>ZY.d2.1<|q▸hb) e) T8 λc o e1 e2 e3 e4 e=>up c o e1<|k5 c o e1 e2 e3 e4 e)
theorem uQ{Q:8 `Q EN}(hh:A.handled=`c)(D1:Ls P w A.in1 i1 fp1 n1 P1 S1)(D2:Ls P w A.in1 i2 fp2 n2 P2 S2)(ZY:ZApart z TI TO i1 i2 fp1 fp2)(hk:k=n1\/k<n1/\k=n2)(hz:Io `p z TI TO .none)
  (hI:Jk `p TI (.ref i1) (.ref i2)) (hO:Jk `p TO a b) (t1:S1 k `p) (t2:S2 k `p)
  (q:∀h' tk,(∀c o,c≠z->c≠TO->c≠i1->c≠i2->23 c o->37 c o)->Q none {s with heap:=h',toks:=tk}):
  21 P w A (pyNext<|.ref z) Q E:=by
 have hT:s.TypeIs (.ref z) "zip":=9 hz `a
 unfold pyNext;refine EF (HZ<|FU (name:=EO "__next__") hT GH<|Fu GH hT Iy ?_<|Ij _);obtain⟨hp,gg,dd,tk0,os⟩:=s;show wpAny (model P w) _ (field (.ref z) 2>>=_) _ _ _;refine EF (G4 hz `a (x:=.bool `g) `a ?_);show wpAny (model P w) _ (field (.ref z) 3>>=_) _ _ _;refine EF (G4 hz `a (x:=.ref TI) `a<|EF<|G0 hI `a ?_);show wpAny (model P w) _ (FH (.ref z)>>=_) _ _ _;refine EF ?_;unfold FH;refine EF (G4 hz `a (x:=.none) `a `y);simp only[if_true];refine EF (Jj<|EF<|G4 hz `a (x:=.ref TO) `a<|EF<|G2 hz `f λg1 y1 b1=>?_);replace y1:Io g1 z TI TO .ellipsis:=y1;replace b1:Fg z hp g1:=b1;refine EF ?_;simp only[JG,K0,Je,Ju];refine EF (EF<|Hr ?_);show wpAny (model P w) _ (Fq (.ref i1)>>=_) _ _ _;rcases hk with hk|⟨hk1,hk2⟩
 ·subst hk;refine EF (D1.done _ _ _ (aH D1 t1 b1 ZY.d1.1) λg2 e b2 he=>?_);obtain⟨oe,hoe,hce⟩:=he;replace b2:IX i1 g1 g2:=b2;have y2:Io g2 z TI TO .ellipsis:=b2 _ _ ZY.c3.symm y1;have ez:e≠z:=λx=>by subst x;rw[y2]at hoe;cases hoe;simp at hce
  refine G2 y2 `f λg3 _ b3=>?_;exact EF (Ho (T:="StopIteration") (b:=true) ⟨oe,b3.extBut _ _ ez hoe,hce⟩ Ik<|EK<|q g3 _ λc o e1 _ e3 _ x=>b3.extBut _ _ e1<|b2 _ _ e3<|b1.extBut _ _ e1 x)
 ·subst hk2;refine EF (D1.item k _ _ _ hk1 (aH D1 t1 b1 ZY.d1.1) λx g2 tk2 px u1 b2=>`y);replace b2:Fg i1 g1 g2:=b2;have O2:Jk g2 TO a b:=b2.extBut _ _ ZY.c8 (b1.extBut _ _ ZY.c2 hO);refine EF (G0 O2 `a<|EF<|JQ O2 λg3 O3 b3=>?_);replace b3:Fg TO g2 g3:=b3;refine EF (Ip<|EK<|EF<|EF<|Hr ?_);show wpAny (model P w) _ (Fq (.ref i2)>>=_) _ _ _;refine EF (D2.done _ _ _ (aH D2 (aH D2 (aH D2 t2 b1 ZY.d2.1) b2 ZY.d2.2.2) b3 ZY.d2.2.1) λg4 e b4 he=>?_);obtain⟨oe,hoe,hce⟩:=he;replace b4:IX i2 g3 g4:=b4;have y4:Io g4 z TI TO .ellipsis:=b4 _ _ ZY.c4.symm (b3.extBut _ _ ZY.c2.symm<|b2.extBut _ _ ZY.c3.symm y1);have ez:e≠z:=λx=>by subst x;rw[y4]at hoe;cases hoe;simp at hce
  refine G2 y4 `f λg5 _ b5=>?_;exact EF (Ho (T:="StopIteration") (b:=true) ⟨oe,b5.extBut _ _ ez hoe,hce⟩ Ik<|EK<|q g5 _ λc o e1 e2 e3 e4 x=>b5.extBut _ _ e1<|b4 _ _ e4<|b3.extBut _ _ e2<|b2.extBut _ _ e3<|b1.extBut _ _ e1 x)
end
def BG(K:EL)(c1 c2:Src):It:=
  ⟨λi H=>∃xs ys x y,c1.has K H xs/\c2.has K H ys/\0 xs[i]? x/\0 ys[i]? y,λi H v H'=>∃p x y,H p=`c/\v=`E/\(∀xs,c1.has K H xs->0 xs[i]? x)/\(∀ys,c2.has K H ys->0 ys[i]? y)/\H'=cT H p (.tup [x,y]),λi H=>∃xs ys,c1.has K H xs/\c2.has K H ys/\(i=`i\/i<`i/\i=ys.length)⟩
theorem Src.inj{X:Cx}{Z_:7 Addr Obj}{M:St}{H:Hp}{s:EN}{c:Src}{xs ys:`u}(I:14 X M H s)(h1:c.has X.K H xs)(h2:c.has X.K H ys):xs=ys:=by
 cases c with
 |lst a=>exact I.list_inj h1 h2
 |tup a=>exact I.tuple_inj h1 h2
 |str l=>exact Eq.trans h1 (Eq.symm h2)
theorem Src.at_keep{c:Src}{it:Addr}{i:Nat}{h h':Heap}(st:c.at it i h)(k:∀o,34 it o->37 it o):c.at it i h':=by
 cases c with
 |lst a=>obtain⟨o,e,r⟩:=st;exact⟨o,k o e,r⟩
 |tup a=>obtain⟨o,e,r⟩:=st;exact⟨o,k o e,r⟩
 |str l=>
  obtain⟨t,st⟩:=st;rcases st with⟨o,e,r⟩|⟨o,e,r⟩
  ·exact⟨t,.inl ⟨o,k o e,r⟩⟩
  ·exact⟨t,.inr ⟨o,k o e,r⟩⟩
theorem Src.at_obj{c:Src}{it:Addr}{i:Nat}{h:Heap}(st:c.at it i h):∃o,34 it o/\∃vs,o.data=.fields vs:=by
 cases c with
 |lst a=>obtain⟨o,e,_,r⟩:=st;exact⟨o,e,_,r⟩
 |tup a=>obtain⟨o,e,_,r⟩:=st;exact⟨o,e,_,r⟩
 |str l=>
  obtain⟨t,st⟩:=st;rcases st with⟨o,e,_,r⟩|⟨o,e,_,r⟩
  ·exact⟨o,e,_,r⟩
  ·exact⟨o,e,_,r⟩
def DL(c1 c2:Src)(z TI TO i1 i2:Addr)(i:Nat)(h:Heap):Prop:=Io h z TI TO .none/\Jk h TI (.ref i1) (.ref i2)/\(∃a b,Jk h TO a b)/\c1.at i1 i h/\c2.at i2 i h
structure ZIds(z TI TO i1 i2:Addr):Prop where
 c1:TI≠z
 c2:TO≠z
 c3:i1≠z
 c4:i2≠z
 c5:TI≠TO
 c6:TI≠i1
 c7:TI≠i2
 c8:TO≠i1
 c9:TO≠i2
 c10:i1≠i2
theorem uR{X:Cx}{Z_:7 Addr Obj}{M:St}{H:Hp}{s:EN}{z TI TO i1 i2:Addr}{fp1 fp2:List Addr}(I:14 X M H s)(ZY:ZIds z TI TO i1 i2)(hf:∀b∈[z,TI,TO,i1,i2],FpOk X Z_ H b)
  (g1:∀b∈fp1,b=i1\/H b≠`c\/∃o,0 (X.base.get? b) o) (g2:∀b∈fp2,b=i2\/H b≠`c\/∃o,0 (X.base.get? b) o):ZApart z TI TO i1 i2 fp1 fp2:=by
 have no:∀b∈[z,TI,TO,i1,i2],¬(H b≠`c\/∃o,0 (X.base.get? b) o):=λb hb q=>by
  rcases q with q|⟨o,q⟩
  ·exact q (hf b hb).1
  ·rcases (hf b hb).2.2.2.1 with y | y;·exact I.ok.noex b o q y
   ·exact absurd (EZ (EZ (EU q) I.ok.bsz) y) (Gu _)
 refine⟨ZY.c1,ZY.c2,ZY.c3,ZY.c4,ZY.c5,ZY.c6,ZY.c7,ZY.c8,ZY.c9,⟨λm=>?_,λm=>?_,λm=>?_⟩,⟨λm=>?_,λm=>?_,λm=>?_⟩⟩;·exact(g1 _ m).elim (λe=>ZY.c3 e.symm) (no z `f)
 ·exact(g1 _ m).elim (λe=>ZY.c8 e) (no TO `f)
 ·exact(g1 _ m).elim (λe=>ZY.c10 e.symm) (no i2 `f)
 ·exact(g2 _ m).elim (λe=>ZY.c4 e.symm) (no z `f)
 ·exact(g2 _ m).elim (λe=>ZY.c9 e) (no TO `f)
 ·exact(g2 _ m).elim (λe=>ZY.c10 e) (no i1 `f)
theorem uS{P:F6}{w:Fh}{K:EL}{Z3:List Expr}{kk:Nat}{tp:Pos}(c1 c2:Src)(z TI TO i1 i2:Addr)(ZY:ZIds z TI TO i1 i2):
  Turn P w K (.Tuple Z3 kk tp) (BG K c1 c2) [z,TI,TO,i1,i2] z (DL c1 c2 z TI TO i1 i2) where
 mem:=`f
 obj:=λi h st b hb=>by
  obtain⟨hz,hI,⟨a,b',hO⟩,t1,t2⟩:=st;obtain⟨o1,e1,v1,d1⟩:=Src.at_obj t1;obtain⟨o2,e2,v2,d2⟩:=Src.at_obj t2;simp only[F0,Fp,or_false]at hb;rcases hb with rfl|rfl|rfl|rfl|rfl;·exact 9 hz λv q=>by cases (show JN _=IG v from q)
  ·exact 9 hI λv q=>by cases (show LU _ _=IG v from q)
  ·exact 9 hO λv q=>by cases (show LU _ _=IG v from q)
  ·exact 9 e1 λv q=>by rw[d1]at q;cases q
  ·exact 9 e2 λv q=>by rw[d2]at q;cases q
 keep:=λi h h' st k=>by
  obtain⟨hz,hI,⟨a,b',hO⟩,t1,t2⟩:=st;exact⟨k z `f _ hz,k TI `f _ hI,⟨a,b',k TO `f _ hO⟩,Src.at_keep t1<|k i1 `f,Src.at_keep t2<|k i2 `f⟩
 item:=by
  intro X hP hw hK hc i Z_ s M H E I hf st hg;subst hP hw hK;obtain⟨xs,ys,x,y,hx,hy,ex,ey⟩:=hg;obtain⟨hz,hI,⟨a,b',hO⟩,t1,t2⟩:=st;have hh:X.A.in1.handled=`c:=I.ok.hd hc;obtain⟨fp1,P1,S1,D1,u1,r1,a1,_,g1⟩:=Src.draws (A:=X.A.in1) hh I hx t1 (hf i1 `f).1;obtain⟨fp2,P2,S2,D2,u2,r2,a2,_,g2⟩:=Src.draws (A:=X.A.in1) hh I hy t2 (hf i2 `f).1;have ZA:=uR I ZY hf g1 g2;refine sY D1 D2 ZA (ER.mp ex).1 (ER.mp ey).1 hz hI hO u1 u2 λvx vy h' tk T px py hT hz' hO' w1 w2 hTp kp=>?_;obtain⟨x',ex',rx⟩:=r1 i vx px;obtain⟨y',ey',ry⟩:=r2 i vy py;rw[ex]at ex';cases ex';rw[ey]at ey';cases ey';have nT:H T=`c:=by rw[hT];exact I.hok.fresh (EX _)
  refine 9 `a (KA hz' λh2 hz2 sb=>?_);have lt:∀{c o},23 c o->c≠T:=λe=>by rw[hT];exact Fd (EU e)
  have up:∀c o,c≠z->37 c o->0 (h2.get? c) o:=λc o hc e=>(sb.2 c hc).trans e;have kp2:∀b o,b∉[z,TO,i1,i2]->23 b o->0 (h2.get? b) o:=λb o hb e=>by
   simp only[F0,Fp,or_false,not_or]at hb;exact up b o hb.1 (kp b o hb.1 hb.2.1 hb.2.2.1 hb.2.2.2 e)
  have ch:∀b∈[z,TO,i1,i2],b∈[z,TI,TO,i1,i2]:=λb hb=>by
   simp only[F0,Fp,or_false]at hb ⊢;rcases hb with h|h|h|h<;>simp[h]
  have iz:∀b u,0 (H b) u->b∉[z,TO,i1,i2]/\b≠T:=λb u e=>⟨λhb=>(by rw[(hf b<|ch b hb).1]at e;cases e),λq=>(by rw[q,nT]at e;cases e)⟩
  have I2:Inv X Z_ M (cT H T<|.tup [x,y]) {s with heap:=h2,gens:=s.gens,drawn:=s.drawn,toks:=tk}:=by
   refine I.step (g':=s.gens) (d':=s.drawn) (t':=tk) (ch:=[z,TO,i1,i2]) (λb hb=>⟨(hf b<|ch b hb).2.2.2.1,(hf b<|ch b hb).2.1,(hf b<|ch b hb).2.2.2.2.1,(hf b<|ch b hb).2.2.2.2.2⟩) (λb o _ _ hb e _=>kp2 b o hb e) (λb o _ _ hb e _=>⟨o.slots,kp2 b o hb e⟩) (λb o hb e n=>by rw[aJ (lt e)];exact n) (λb o hb e=>⟨o,kp2 b o hb e⟩) (λb xs e=>by rw[aJ (iz b _ e).2];exact e) (λb o u e=>by rw[aJ (iz b _ e).2];exact e) (λb ps e=>⟨#[],by rw[aJ (iz b _ e).2,e];simp⟩) (λm hm=>?_) (λb u e=>?_) I.bare
   ·obtain⟨o,es,ep,ho,r⟩:=hm;exact⟨o,es,ep,kp2 _ o (λhb=>(hf _<|ch _ hb).2.1 `a) ho,r⟩
   ·by_cases hb:b=T
    ·subst hb;rw[aG]at e;cases e;refine⟨(by show 2<=sizeLine;rw[FE];decide),[vx,vy],.cons rx<|.cons ry .nil,⟨_,up _ _ ?_ hTp,⟨`a,`a⟩,_,`a⟩⟩;exact λq=>lt hz q.symm
    ·rw[aJ hb]at e;refine(I.hok b u e).stay (λc v hc q=>kp2 c v ?_ q) (λc q=>by rw[aJ (iz c _ q).2];exact q) λc xs q=>by rw[aJ (iz c _ q).2];exact q
     rcases hc with q|q;·rw[q];exact(iz b u e).1
     ·exact(iz c _ q).1
  refine⟨.ref T,_,I2,`a,⟨T,x,y,nT,rfl,λxs' h=>by rw[Src.inj I h hx];exact ex,λys' h=>by rw[Src.inj I h hy];exact ey,rfl⟩,⟨hz2,up _ _ ZY.c1<|kp _ _ ZY.c1 ZY.c5 ZY.c6 ZY.c7 hI,9 _<|up _ _ ZY.c2 hO',Src.at_keep (a1 _ _ w1) λo e=>up _ o ZY.c3 e,Src.at_keep (a2 _ _ w2) λo e=>up _ o ZY.c4 e⟩,λb hb=>?_⟩;have hbT:b≠T:=by
   obtain⟨o,e⟩:∃o,23 b o:=by
    obtain⟨o1,e1,_⟩:=Src.at_obj t1;obtain⟨o2,e2,_⟩:=Src.at_obj t2;simp only[F0,Fp,or_false]at hb;rcases hb with rfl|rfl|rfl|rfl|rfl;·exact⟨_,hz⟩
    ·exact⟨_,hI⟩
    ·exact⟨_,hO⟩
    ·exact⟨_,e1⟩
    ·exact⟨_,e2⟩
   exact lt e
  rw[aJ hbT];exact(hf b hb).1
 done:=by
  intro X hP hw hK hc i Z_ s M H E I hf st hg;subst hP hw hK;obtain⟨xs,ys,hx,hy,hend⟩:=hg;obtain⟨hz,hI,⟨a,b',hO⟩,t1,t2⟩:=st;have hh:X.A.in1.handled=`c:=I.ok.hd hc;obtain⟨fp1,P1,S1,D1,u1,r1,a1,_,g1⟩:=Src.draws (A:=X.A.in1) hh I hx t1 (hf i1 `f).1;obtain⟨fp2,P2,S2,D2,u2,r2,a2,_,g2⟩:=Src.draws (A:=X.A.in1) hh I hy t2 (hf i2 `f).1;have ZA:=uR I ZY hf g1 g2;have ch:∀b∈[z,TO,i1,i2],b∈[z,TI,TO,i1,i2]:=λb hb=>by
   simp only[F0,Fp,or_false]at hb ⊢;rcases hb with h|h|h|h<;>simp[h]
  refine uQ hh D1 D2 ZA hend hz hI hO u1 u2 λh2 tk kp=>⟨`a,?_⟩
  have kp2:∀b o,b∉[z,TO,i1,i2]->23 b o->0 (h2.get? b) o:=λb o hb e=>by
   simp only[F0,Fp,or_false,not_or]at hb;exact kp b o hb.1 hb.2.1 hb.2.2.1 hb.2.2.2 e
  refine I.step (g':=s.gens) (d':=s.drawn) (t':=tk) (ch:=[z,TO,i1,i2]) (λb hb=>⟨(hf b<|ch b hb).2.2.2.1,(hf b<|ch b hb).2.1,(hf b<|ch b hb).2.2.2.2.1,(hf b<|ch b hb).2.2.2.2.2⟩) (λb o _ _ hb e _=>kp2 b o hb e) (λb o _ _ hb e _=>⟨o.slots,kp2 b o hb e⟩) (λb o hb e n=>n) (λb o hb e=>⟨o,kp2 b o hb e⟩) (λb xs e=>e) (λb o u e=>e) (λb ps e=>⟨#[],by rw[e];simp⟩) (λm hm=>?_) (λb u e=>?_) I.bare
  ·obtain⟨o,es,ep,ho,r⟩:=hm;exact⟨o,es,ep,kp2 _ o (λhb=>(hf _<|ch _ hb).2.1 `a) ho,r⟩
  ·have iz:∀b u,0 (H b) u->b∉[z,TO,i1,i2]:=λb u e hb=>by rw[(hf b<|ch b hb).1]at e;cases e
   refine(I.hok b u e).stay (λc v hc q=>kp2 c v ?_ q) (λc q=>q) λc xs q=>q;rcases hc with q|q
   ·rw[q];exact iz b u e
   ·exact iz c _ q
 self:=λ_ _ _ _ _ st h=>JH st.1 h
theorem jV(n a b:Nat)(h:a≠b): @Ne Nat (n+a) (n+b):=λe=>h (Nat.add_left_cancel e)
def Ae(K:EL)(t:TA):TI:=λM H R=>t M H λvs H1=>∃c1 c2 xs ys,vs=[c1.val,c2.val]/\c1.has K H1 xs/\c2.has K H1 ys/\R (BG K c1 c2) H1
theorem Af{X:Cx}{a b:Expr}{ta:TA}{p Z9 tp:Pos}{Z3:List Expr}{kk:Nat}(hg:Gl X "zip")(hm:X.mg "zip"=`c)(ha:PA X [a,b] ta)
  (hs:32 [a,b]=[(false,26 a),(false,26 b)]:=by rfl) (hs2:32 [b]=[(false,26 b)]:=by rfl):PI X (.Tuple Z3 kk tp) (.Call (.Name "zip" p) [a,b] [] Z9) (Ae X.K ta):=by
 intro Z_ s M H R I h;refine OB (gk I hg hm boot_zip (G5 (cx (ha Z9 Z_ s M H _ I h) λus s1⟨vs,H1,I1,r1,q1⟩=>?_) (by rw[hs,hs2]) (by rw[hs2];rfl)));obtain⟨c1,c2,xs,ys,e,h1,h2,q⟩:=q1;subst e;obtain⟨v1,v2,rfl,ra,rb⟩:=mr r1;obtain⟨o1,i1,f1,n1⟩:=Src.iter I1 h1 ra λ_ _ e=>e;obtain⟨o2,i2,f2,n2⟩:=Src.iter (h:=s1.heap.push o1) I1 h2 rb λ_ _ e=>EI _ e;have z1:(s1.heap.push o1).objs.size=`U+1:=FO ..;rw[z1]at n2;refine sX i1 i2 f1 f2 λh' hz hI hO e1 e2 kp=>?_;refine JH hz ?_;have zi:∀n:Nat,ZIds (n+4) (n+2) (n+3) n (n+1):=λn=>⟨jV n 2 4 ⋯,jV n 3 4 ⋯,jV n 0 4 ⋯,jV n 1 4 ⋯,jV n 2 3 ⋯,jV n 2 0 ⋯,jV n 2 1 ⋯,jV n 3 0 ⋯,jV n 3 1 ⋯,jV n 0 1 ⋯⟩
 refine⟨`U+4,[`U+4,`U+2,`U+3,s1.heap.objs.size,`U+1],_,_,H1,`a,I1.kept (t':=s1.toks) kp,uS c1 c2 _ _ _ _ _<|zi `U,⟨hz,hI,9 _ hO,n1 h' e1,n2 h' e2⟩,λb hb=>?_,q⟩;have hb':`U<=b:=by
  simp only[F0,Fp,or_false]at hb;rcases hb with z|z|z|z|z<;>rw[z]
  ·exact G9 _ 4
  ·exact G9 _ 2
  ·exact G9 _ 3
  ·exact EX _
  ·exact G9 _ 1
 exact I1.fpOk hb' (I1.hok.fresh hb')
theorem xU{K:EL}{c1 c2:Src}{xs ys:`u}{g:TG}{tb:TS}{D:Ends}{M:St}{H:Hp}(Pv:Nat->St->Hp->Prop)(h0:Pv 0 M H)(hl:∀i M H,Pv i M H->c1.has K H xs/\c2.has K H ys)(hn:`i=ys.length)
  (hs:∀i x y p M H,xs[i]? =some x->ys[i]? =some y->H p=none->Pv i M H->g (`E) M (cT H p<|.tup [x,y]) λσ2 H2=>tb {D with nx:=Pv<|i+1,ct:=Pv<|i+1,bk:=D.nx} σ2 H2) (hd:∀M H,Pv `i M H->D.nx M H):
  ∃W:Nat->Nat->St->Hp->Prop,(∃m,W 0 m M H)/\∀i m M H,W i m M H->(BG K c1 c2).stop i H/\D.nx M H\/((BG K c1 c2).go i H/\∃N:St->Hp->Prop,(∀σ' H',N σ' H'->∃m',m'<m/\W (i+1) m' σ' H')/\∀x H',(BG K c1 c2).yld i H x H'->g x M H' λσ2 H2=>tb {D with nx:=N,ct:=N,bk:=D.nx} σ2 H2):=by
 refine⟨λi m M H=>m=`i-i/\i<=`i/\Pv i M H,⟨`i,`f,LV _,h0⟩,?_⟩;rintro i m M H ⟨rfl,hi,p⟩;obtain⟨q1,q2⟩:=hl i M H p;by_cases hlt:i<`i
 ·refine .inr ⟨⟨xs,ys,xs[i],ys[i],q1,q2,by simp[hlt],by simp[<-hn,hlt]⟩,Pv<|i+1,λσ' H' p'=>⟨`i-(i+1),`b,`a,hlt,p'⟩,λv H' ⟨a,x,y,na,ev,ex,ey,eh⟩=>?_⟩;subst ev eh;exact hs i x y a M H (ex xs q1) (ey ys q2) na p
 ·have e:i=`i:=`b
  subst e;exact .inl ⟨⟨xs,ys,q1,q2,`G⟩,hd M H p⟩
structure Cal(P:F6)(w:Fh)(K:EL)(mg:Str->`Q)(base:Heap)(x:Str)(ps:`I)(k:Nat)(sp:Sp):Prop where
 ex:∃(f:Addr)(fd:Fi),FnOk P w K mg base CX0 k f fd ps sp/\0 (mg x) (.ref f)/\1 (Ic K<|.ref f)/\Binds K fd ps []
theorem uT{X:Cx}{x:Str}{ps:`I}{k:Nat}{sp:Sp}{p Z9:Pos}{e:Expr}{es:List Expr}{t:TA}(C:Cal `o X.w X.K X.mg X.base x ps k sp)(hr:Room k X.A)(hg:Gl X x)(ha:PA X (e::es) t)
  (hdb:(x==("__debug__" :Str))=`g:=by decide) (he:32 (e::es)=(false,26 e)::32 es:=by rfl) (hpl:(backTo Z9<|32 es).any (·.1)=`g:=by rfl):
  PE X (.Call (.Name x p) (e::es) [] Z9) (bu sp [] E0 t):=by
 obtain⟨f,fd,F,hm,hk,hb⟩:=C.ex;exact xM F hr hg hm hk hb .nil BB ha hdb he hpl
theorem i8{X:Cx}{scope:ID}{N:`I}{cap:List `S}(kind:scope.kind=.function)(nd:N.Nodup)(len:cap.length=N.length)(uniq:(scope.names.map (·.1)).Nodup)
  (fr:1 (scope.names.all λx=>x.2 !=.free||(X.env.kindOf x.1==some .cell||X.env.kindOf x.1==some .free)))
  (cp:1 ((N.zip cap).all λp=>match p.2 with|none=>true|some j=>X.N[j]? ==some p.1&&scope.names.contains (p.1,GF))):CompScope X scope N cap:=by
 refine⟨kind,nd,len,uniq,λx hx hk=>?_,λk x j h1 h2=>?_⟩
 ·have:=G1.mp fr x hx;rw[hk]at this;simpa using this
 ·have hm:(x,some j)∈N.zip cap:=by
   rw[IH];exact⟨k,by rw[FV];exact⟨h1,h2⟩⟩
  have:=G1.mp cp _ hm;simpa using this
def flat:V->Bool
 | .non=>true
 | .bl _=>true
 | .int _=>true
 | .str _=>true
 |_=>false
theorem dH{H:Hp}{p:Addr}{o:HO}(h:H p=`c):Same H (cT H p o):=λb u e=>by rw[aJ (cV e h)];exact e
theorem fG(x:String)(l:List Nat)(h:(EO x).cps.toList=l):EO x=aU l:=by rw[uK<|EO x,h]
section
variable{X:Cx}{K:EL}{w:Fh}
theorem aR(h:X.K=K):Ba X (de K):=h▸Aa
theorem aE(h:X.K=K):Ba X (cP K):=h▸xO
theorem aM(h:X.K=K):ee X (.builtin "len") (λxs H Q=>∃x n,xs=[x]/\oK K x H n/\Q (.int n) H):=h▸uD
theorem bP(h:X.K=K):ee X (.builtin "isinstance") (λxs H Q=>∃x T t b,xs=[x,.ty T]/\TyOf K H x t/\0 (Ht K t<|.type T) b/\Q (.bl b) H):=h▸oR
theorem uU(h:X.K=K):zB X "str.join" (λx xs H Q=>∃(p:Addr)(ys:List (List Nat)),x=.str (aU [])/\xs=[.ref p]/\SqL K H p (ys.map λy=>Jo<|aU y)/\ys.flatten.length<=100000/\Q (.str<|aU ys.flatten) H):=h▸xR
theorem oW(h:X.K=K):Co X (df K):=h▸xP
theorem mH(h:X.K=K)(hw:X.w=w){o i:Expr}{Z9:Pos}{td ty:TE}(ho:PE X o td)(hi:PE X i ty)(hs:uI i):PE X (.Subscript o i Z9) (bq K w td ty):=h▸hw▸uL ho hi hs
theorem bN(h:X.K=K){Z9:Pos}{es:List Expr}{k:Nat}{t:zy}{n:Nat}(hc:1 X.calm)(hg:Bs X es t)(hn:(assignEach es X.env).length=n:=by rfl)(hst:(assignEach es X.env).findIdx? (·.1)=`c:=by rfl):PG X (.Tuple es k Z9) (cX K n t):=h▸A4 hc hg hn hst
theorem bQ(h:X.K=K){tg l:Expr}{tl:TE}(hl:PE X l tl):PI X tg l (uA K tl):=h▸xI hl
theorem gK(h:X.K=K){a b:Expr}{ta:TA}{p Z9 tp:Pos}{Z3:List Expr}{kk:Nat}(hg:Gl X "zip")(hm:X.mg "zip"=`c)(ha:PA X [a,b] ta)
  (hs:32 [a,b]=[(false,26 a),(false,26 b)]:=by rfl) (hs2:32 [b]=[(false,26 b)]:=by rfl):PI X (.Tuple Z3 kk tp) (.Call (.Name "zip" p) [a,b] [] Z9) (Ae K ta):=h▸Af hg hm ha hs hs2
theorem j8(h:X.K=K){o e:Expr}{es:List Expr}{to:TE}{t:TA}{name:Str}{Z5 Z6:Pos}{T id:String}{r:V->`u->8 Hp VK}(pa:Ms T)(slot:Slot T name id)(hty:typeOf (.builtin id)=pure (.type "method_descriptor"))(hm:zB X id r)(ho:PE X o to)(ha:PA X (e::es) t)
  (hbase:attributeBase o name X.env (26 o)=26 o:=by rfl)
  (hfew:1 ((backTo Z6<|32<|e::es).all (λx=> !x.1)&&(backToKw Z6<|keywordEach [] X.env).all (λx=>x.1.isSome)&&decide ((e::es).length+([]:List Lh).length+(if([]:List Lh).isEmpty then 0 else 1)<30)):=by rfl)
  (hline:1 (Z5.endLine==Z6.line):=by rfl) (hs:32 (e::es)=(false,26 e)::32 es:=by rfl) (hplain:(backTo Z6<|32 es).any (·.1)=`g:=by rfl):
  PE X (.Call (.Attribute o name Z5) (e::es) [] Z6) (fS K T r to t):=h▸BA pa slot hty hm ho ha hbase hfew hline hs hplain
end
def DC(K:EL)(a:Addr):It:=
  ⟨λi H=>∃xs x,SqL K H a xs/\0 xs[i]? x,λi H v H'=>∃p x,H p=`c/\v=`E/\(∀xs,SqL K H a xs->0 xs[i]? x)/\H'=cT H p (.tup [.int i,x]),λi H=>∃xs,SqL K H a xs/\`i=i⟩
def DM(a e it:Addr)(i:Nat)(h:Heap):Prop:=(∃old,IsEnum h e it i old)/\h.IsListIter it a i
theorem sZ{P:F6}{w:Fh}{K:EL}{Z3:List Expr}{kk:Nat}{tp:Pos}(a e it:Addr)(ne:e≠it):Turn P w K (.Tuple Z3 kk tp) (DC K a) [e,it] e (DM a e it) where
 mem:=`f
 obj:=λi h st b hb=>by
  obtain⟨⟨old,he⟩,t1⟩:=st;obtain⟨o1,e1,v1,d1⟩:=Src.at_obj (c:=.lst a) t1;simp only[F0,Fp,or_false]at hb;rcases hb with rfl|rfl;·exact 9 he λv q=>by cases (show JN _=IG v from q)
  ·exact 9 e1 λv q=>by rw[d1]at q;cases q
 keep:=λi h h' st k=>by
  obtain⟨⟨old,he⟩,t1⟩:=st;exact⟨⟨old,k e `f _ he⟩,Src.at_keep (c:=.lst a) t1<|k it `f⟩
 item:=by
  intro X hP hw hK hc i Z_ s M H E I hf st hg;subst hP hw hK;obtain⟨xs,x,hx,ex⟩:=hg;obtain⟨⟨old,he⟩,t1⟩:=st;have hh:X.A.in1.handled=`c:=I.ok.hd hc;obtain⟨fp1,P1,S1,D1,u1,r1,a1,_,g1⟩:=Src.draws (A:=X.A.in1) (c:=.lst a) hh I hx t1 (hf it `f).1;have nof:e∉fp1:=λm=>by
   rcases g1 e m with q|q|⟨o,q⟩
   ·exact ne q
   ·exact q (hf e `f).1
   ·rcases (hf e (by simp)).2.2.2.1 with y | y;·exact I.ok.noex e o q y
    ·exact absurd (EZ (EZ (EU q) I.ok.bsz) y) (Gu _)
  refine wpAny_pyNext_enum_itemD D1 he u1 (ER.mp ex).1 ne nof λvx h' tk px ho w1 hTp hsz kp=>?_;obtain⟨x',ex',rx⟩:=r1 i vx px;rw[ex]at ex';cases ex';have nT:H `P=`c:=I.hok.fresh (EX _);refine 9 `a (wpAny_letOwnedTupleGo_enum ho λh2 he2 sb=>?_);have lt:∀{c o},23 c o->c≠`P:=λe=>Fd (EU e);have kp2:∀b o,b∉[e,it]->23 b o->0 (h2.get? b) o:=λb o hb q=>by
   simp only[F0,Fp,or_false,not_or]at hb;exact(sb.2 b hb.1).trans (kp b o hb.1 hb.2 q)
  have iz:∀b u,0 (H b) u->b∉[e,it]/\b≠`P:=λb u q=>⟨λhb=>(by rw[(hf b hb).1]at q;cases q),λz=>(by rw[z,nT]at q;cases q)⟩
  have I2:Inv X Z_ M (cT H `P<|.tup [.int i,x]) {s with heap:=h2,gens:=s.gens,drawn:=s.drawn,toks:=tk+1}:=by
   refine I.step (g':=s.gens) (d':=s.drawn) (t':=tk+1) (ch:=[e,it]) (λb hb=>⟨(hf b hb).2.2.2.1,(hf b hb).2.1,(hf b hb).2.2.2.2.1,(hf b hb).2.2.2.2.2⟩) (λb o _ _ hb q _=>kp2 b o hb q) (λb o _ _ hb q _=>⟨o.slots,kp2 b o hb q⟩) (λb o hb q n=>by rw[aJ (lt q)];exact n) (λb o hb q=>⟨o,kp2 b o hb q⟩) (λb xs q=>by rw[aJ (iz b _ q).2];exact q) (λb o u q=>by rw[aJ (iz b _ q).2];exact q) (λb ps q=>⟨#[],by rw[aJ (iz b _ q).2,q];simp⟩) (λm hm=>?_) (λb u q=>?_) I.bare
   ·obtain⟨o,es,ep,ho',r⟩:=hm;exact⟨o,es,ep,kp2 _ o (λhb=>(hf _ hb).2.1 `a) ho',r⟩
   ·by_cases hb:b=`P
    ·subst hb;rw[aG]at q;cases q;refine⟨(by show 2<=sizeLine;rw[FE];decide),[.int i tk,vx],.cons ⟨_,`a⟩<|.cons rx .nil,⟨_,(sb.2 _ ?_).trans hTp,⟨`a,`a⟩,_,`a⟩⟩;exact λz=>lt he z.symm
    ·rw[aJ hb]at q;refine(I.hok b u q).stay (λc v hc z=>kp2 c v ?_ z) (λc z=>by rw[aJ (iz c _ z).2];exact z) λc xs z=>by rw[aJ (iz c _ z).2];exact z
     rcases hc with z|z;·rw[z];exact(iz b u q).1
     ·exact(iz c _ z).1
  refine⟨`X,_,I2,`a,⟨_,x,nT,rfl,λxs' h=>by rw[I.list_inj h hx];exact ex,rfl⟩,⟨⟨_,by simpa using he2⟩,Src.at_keep (c:=.lst a) (a1 _ _ w1) λo q=>(sb.2 _<|Hx ne).trans q⟩,λb hb=>?_⟩;have hbT:b≠`P:=by
   obtain⟨o1,e1,_⟩:=Src.at_obj (c:=.lst a) t1;simp only[F0,Fp,or_false]at hb;rcases hb with rfl|rfl;·exact lt he
   ·exact lt e1
  rw[aJ hbT];exact(hf b hb).1
 done:=by
  intro X hP hw hK hc i Z_ s M H E I hf st hg;subst hP hw hK;obtain⟨xs,hx,hl⟩:=hg;obtain⟨⟨old,he⟩,t1⟩:=st;have hh:X.A.in1.handled=`c:=I.ok.hd hc;obtain⟨fp1,P1,S1,D1,u1,r1,a1,_,g1⟩:=Src.draws (A:=X.A.in1) (c:=.lst a) hh I hx t1 (hf it `f).1;subst hl;obtain⟨f0,f1,f2,f3,f4,f5⟩:=hf it `f;exact wpAny_pyNext_enum_endD D1 he u1 λh' hx'=>⟨`a,I.turned (t':=s.toks) (λb o hb q=>hx' b o hb q) f0 f1 f3 f4 f5⟩
 self:=λ_ _ _ _ _ st h=>by obtain⟨⟨old,he⟩,_⟩:=st;exact MM he h
def zD(K:EL)(t:TA):TI:=λM H R=>t M H λvs H1=>∃a xs,vs=[.ref a]/\SqL K H1 a xs/\R (DC K a) H1
theorem xV{X:Cx}{K:EL}(hK:X.K=K){b:Expr}{ta:TA}{p Z9 tp:Pos}{Z3:List Expr}{kk:Nat}(hg:Gl X "enumerate")(hm:X.mg "enumerate"=`c)(ha:PA X [b] ta)(hs:32 [b]=[(false,26 b)]:=by rfl):
  PI X (.Tuple Z3 kk tp) (.Call (.Name "enumerate" p) [b] [] Z9) (zD K ta):=by
 subst hK;intro Z_ s M H R I h;refine OB (gk I hg hm boot_enumerate<|G5 (cx (ha Z9 Z_ s M H _ I h) λus s1⟨vs,H1,I1,r1,q1⟩=>?_) hs `a);obtain⟨a,xs,e,h1,q⟩:=q1;subst e;obtain⟨v1,rfl,ra⟩:=ft r1;cases ra;obtain⟨its,rv,pl,hz⟩:=I1.list h1;refine call_enumerate_list pl.isList λh' he hi hsz kp=>?_;refine MM he ?_;refine⟨`U+1,[`U+1,s1.heap.objs.size],_,_,H1,`a,I1.kept (t':=s1.toks) kp,sZ a _ _<|jV `U 1 0 ⋯,⟨⟨_,he⟩,hi⟩,λb hb=>?_,q⟩;have hb':`U<=b:=by
  simp only[F0,Fp,or_false]at hb;rcases hb with z|z<;>rw[z]
  ·exact G9 _ 1
  ·exact EX _
 exact I1.fpOk hb' (I1.hok.fresh hb')
end L2
open L2.Src renaming at_keep->JX,at_obj->Ky,draws->Lc,iter->Pa,inj->PD
namespace Wb
open PySem L2
abbrev Rp(Z:Type):=Hp->Z->V->Prop
class Mono{Z:Type}(R:`k):Prop where
 mono:∀{H H':Hp}{m:Z}{v:V},Same H H'->R H m v->R H' m v
def LR{Z:Type}(R:`k)(H:Hp)(ms:`r)(vs:`u):Prop:=`O=ms.length/\∀(i:Nat)(v:V)(m:Z),0 vs[i]? v->0 ms[i]? m->R H m v
theorem LR.nil{Z:Type}{R:`k}{H:Hp}:LR R H [] []:=⟨`a,λi v m e=>by simp at e⟩
theorem LR.same{Z:Type}{R:`k}[Mono R]{H H':Hp}{ms:`r}{vs:`u}(h:LR R H ms vs)(e:Same H H'):LR R H' ms vs:=⟨h.1,λi v m a b=>Mono.mono e<|h.2 i v m a b⟩
theorem LR.snoc{Z:Type}{R:`k}{H:Hp}{ms:`r}{vs:`u}{m:Z}{v:V}(h:LR R H ms vs)(r:R H m v):LR R H (ms++[m]) (vs++[v]):=by
 refine⟨by simp[h.1],λi v' m' a b=>?_⟩;by_cases hi:i<`O
 ·rw[F7 hi]at a;rw[F7 (by rw[<-h.1];exact hi)]at b;exact h.2 i v' m' a b
 ·rw[F9 `b]at a;rw[F9 (by rw[<-h.1];omega)]at b;rw[<-h.1]at b;cases e:i-vs.length with
  |zero=>rw[e]at a b;simp at a b;subst a b;exact r
  |succ n=>rw[e]at a;simp at a
theorem LR.get{Z:Type}{R:`k}{H:Hp}{ms:`r}{vs:`u}{i:Nat}{m:Z}(h:LR R H ms vs)(e:0 ms[i]? m):∃v,0 vs[i]? v/\R H m v:=by
 have hi:i<`O:=by rw[h.1];exact(ER.mp e).1
 exact⟨vs[i],by simp[hi],h.2 i _ m (by simp[hi]) e⟩
def isL{Z:Type}(R:`k):Rp `r:=λH ms v=>∃p vs,v=`E/\0 (H p) (.lst vs)/\LR R H ms vs
instance zkeep1{Z:Type}{R:`k}[Mono R]:Mono (isL R):=⟨λe⟨p,vs,h1,h2,h3⟩=>⟨p,vs,h1,e _ _ h2,h3.same e⟩⟩
def isS:Rp (List Nat):=λ_ l v=>v=.str (aU l)
instance zkeep2:Mono isS:=⟨λ_ h=>h⟩
def isI:Rp Int:=λ_ l v=>v=.int l
instance zkeep4:Mono isI:=⟨λ_ h=>h⟩
theorem LR.str{H:Hp}{ms:List (List Nat)}{vs:`u}(h:LR isS H ms vs):vs=ms.map λl=>Jo (aU l):=by
 refine GX λi=>?_;rw[ET];cases e:ms[i]? with
 |none=>rw[FN]at e;rw[FN.mpr (by rw[h.1];exact e)];rfl
 |some m=>obtain⟨v,a,b⟩:=h.get e;rw[a];cases b;rfl
end Wb
open Wb.Mono renaming mono->ED
namespace L2
open PySem PySem.Spec PyProof.Rows
section
variable{X:Cx}{K:EL}{w:Fh}
theorem fj(h:X.K=K):ee X (.type "list") (λxs H Q=>∃p ys,xs=[.ref p]/\(SqL K H p ys\/SqT K H p ys)/\∀l,H l=`c->Q (.ref l) (cT H l<|.lst ys)):=h▸nt
theorem xW(h:X.K=K){o:Expr}{to:TE}{name:Str}{Z5 Z6:Pos}{T id:String}{r:V->`u->8 Hp VK}(pa:Ms T)(slot:Slot T name id)(hty:typeOf (.builtin id)=pure (.type "method_descriptor"))(hm:zB X id r)(ho:PE X o to)
  (hbase:attributeBase o name X.env (26 o)=26 o:=by rfl) (hline:1 (Z5.endLine==Z6.line):=by rfl):PE X (.Call (.Attribute o name Z5) [] [] Z6) (dg K T r to):=h▸Ac pa slot hty hm ho hbase hline
end
end L2
namespace Wb
open PySem L2
theorem LR.take{Z:Type}{R:`k}{H:Hp}{ms:`r}{vs:`u}(h:LR R H ms vs)(k:Nat):LR R H (ms.take k) (vs.take k):=by
 refine⟨by simp[h.1],λi v m a b=>?_⟩;rw[List.getElem?_take]at a b;split at a;·rw[Z0 (by assumption)]at b;exact h.2 i v m a b
 ·cases a
theorem LR.drop{Z:Type}{R:`k}{H:Hp}{ms:`r}{vs:`u}(h:LR R H ms vs)(k:Nat):LR R H (ms.drop k) (vs.drop k):=by
 refine⟨by simp[h.1],λi v m a b=>?_⟩;rw[Gz]at a b;exact h.2 _ v m a b
theorem none_of{H H':Hp}{p:Addr}(e:Same H H')(h:H' p=`c):H p=`c:=by
 cases z:H p with
 |none=>rfl
 |some x=>have:=e _ _ z;rw[h]at this;cases this
theorem t9{H H3:Hp}{p:Addr}{o:HO}(e:Same H H3)(h:H p=`c):Same H (cT H3 p o):=λa u z=>by
 rw[aJ (cV z h)];exact e _ _ z
end Wb
namespace L2
open PySem PySem.Spec PyProof.Rows
section
variable{X:Cx}{K:EL}{w:Fh}
theorem tj(hc:1 X.calm)(h:X.K=K):ee X (.builtin "sum") (λxs H Q=>∃(p:Addr)(ns:List Int),xs=[.ref p]/\SqL K H p (ns.map Im)/\Q (.int ns.sum) H):=by
 subst h;intro Z_ s M H xs us Q I r h;obtain⟨p,ns,rfl,hq,q⟩:=h;obtain⟨u,rfl,rx⟩:=ft r;cases rx;obtain⟨its,r',pl,hz⟩:=I.list hq;have hi:=kQ r';obtain⟨xs,hx⟩:=hi.allInts.items;have hl':s.heap.IsList p (intItems xs):=hx▸pl.isList;refine sum_intListG (I.ok.hd hc) hl' λh' tk t' hk=>?_;have e1:ns=xs.toList.map (·.1):=by
  rw[<-nums_intItems,<-hx];exact(show numsOf its.toArray.toList=ns from hi.numsOf).symm
 have e2:preSum (numAt xs) xs.size=ns.sum:=by
  rw[preSum_eq,HF `f,e1]
 rw[e2];exact⟨.int ns.sum,H,I.kept hk,⟨_,`a⟩,q⟩
end
theorem i9:∀(xs:List V)(us:List EM),us.length=`i->(∀(j:Nat)(x:V)(u:EM),0 xs[j]? x->0 us[j]? u->RelV x u)->Vals xs us
 | [],[],_,_=>.nil
 |x::xs,u::us,hl,h=>.cons (h 0 x u `a `a) (i9 xs us (by simpa using hl) λj x u a b=>h (j+1) x u (by simpa using a)<|by simpa using b)
 | [],_::_,hl,_=>by simp at hl
 |_::_,[],hl,_=>by simp at hl
theorem fK{Z β:Type}{F:8 Z β}:∀{l₁:List Z}{l₂:List β},Paired F l₁ l₂->∀{j:Nat}{b:β},0 l₂[j]? b->∃a,0 l₁[j]? a/\F a b
 |_,_,.nil,j,b,h=>by simp at h
 |_,_,.cons r rs,0,b,h=>by simp at h;subst h;exact 9 `a r
 |_,_,.cons r rs,j+1,b,h=>by simp at h;obtain⟨a,h1,h2⟩:=fK rs h;exact⟨a,by simpa using h1,h2⟩
section
variable{X:Cx}{K:EL}{w:Fh}
theorem nE(h:X.K=K):ee X (.builtin "sorted") (λxs H Q=>∃(p:Addr)(ns:List Int),xs=[.ref p]/\SqL K H p (ns.map Im)/\ns.length<64/\∀(q:Addr)(ns':List Int),H q=`c->ns'.Perm ns->ns'.Pairwise (· <= ·)->Q (.ref q) (cT H q<|.lst<|ns'.map Im)):=by
 subst h;intro Z_ s M H xs us Q I r h;obtain⟨p,ns,rfl,hq,a0,q⟩:=h;obtain⟨u,rfl,rx⟩:=ft r;cases rx;obtain⟨its,r',pl,hz⟩:=I.list hq;have hi:=kQ r';have hlen:=IntsAre.length hi;refine sorted_ints pl.isList hi `b λout ns' a1 a2 a3=>?_;obtain⟨e,he⟩:=sortedAll_at `p its out;have hl':=a2.length_eq;refine⟨.ref<|39 1,_,I.laid (t':=s.toks) (λ_ _=>sortedAll_old) (JO _) (show ObjOk `o X.w _ _ _ (.lst<|ns'.map Im)from⟨by rw[EY,FE];omega,out.toList,e,jF a1,by rw[LX];exact he⟩),`a,q _ ns' (I.hok.fresh<|JO _) a2 a3⟩
theorem iT(h:X.K=K):OpR X (compareOp .NotIn) (gV K true):=h▸nr
end
end L2
namespace L2
theorem fD{k:Nat}{A:FR}(r:Room k A):A.units+1<P6:=by have:=r.un;omega
end L2
namespace L2
open PySem PySem.Spec PyProof.Rows
def uV(K:EL)(te:TE)(tk:TO):TE:=λM H Q=>te M H λx H1=>tk M H1 λk H2=>∃a xs,x=.ref a/\0 k (-1)/\SqL K H2 a xs/\∀p,H2 p=`c->Q `E (cT H2 p<|.lst xs.reverse)
theorem uW{xs:`u}{us:List EM}(r:Vals xs us):Vals xs.reverse us.reverse:=by
 induction r with
 |nil=>exact .nil
 |cons h t ih=>rw[MN,MN];exact Paired.snoc ih h
theorem jW{X:Cx}{K:EL}(hK:X.K=K){e st:Expr}{te:TE}{tk:TO}{Z9 p2:Pos}(ops:Addr->Addr->List EM)(hs:∀a b:Addr,subscripted (.Slice `c `c (some st) p2) `g (.ref a) (.ref b)=operate (ops a b) (getItem (.ref a)<|.ref b))(he:PE X e te)(hk:PO X (some st) tk):PE X (.Subscript e (.Slice `c `c (some st) p2) Z9) (uV K te tk):=by
 subst hK;intro Z_ s M H Q I h;refine Mo (cx (he Z_ s M H _ I h) λv s1 zz=>?_);obtain⟨x,H1,I1,r1,q1⟩:=zz;refine wpAny_Slice ?_;rw[M8];refine `y;refine `y;refine cx (hk Z_ s1 M H1 _ I1 q1) λvk s3 zz=>?_;obtain⟨k,H3,I3,pk,q3⟩:=zz;obtain⟨a,xs,rfl,rfl,hx,q⟩:=q3;cases r1;have I4:Inv X Z_ M H3 {s3 with heap:=s3.heap.push {cls:=.type "slice",data:=.fields #[.none,.none,vk]}}:=I3.kept (t':=s3.toks) λb ob q=>EI _ q;obtain⟨its,r,ht,hz⟩:=I4.list hx;have hlen:=r.length;show wpAny (model `o X.w) X.A (subscriptTail e (.Slice `c `c (some st) p2) (.ref a)<|.ref s3.heap.objs.size) (EP X Z_ M Q) X.xe {s3 with heap:=s3.heap.push {cls:=.type "slice",data:=.fields #[.none,.none,vk]}};refine OY (ops:=ops a s3.heap.objs.size) ht.isList.typeIs KI.lookup ?_ (hs _ _);refine KS ht.isList (Mp ..) .none .none pk ⋯ ?_ (by rw[EW];omega);rw[PySem.W.krv_pick];refine⟨.ref _,_,I4.laid (t':=s3.toks) (o:=.lst xs.reverse) (λb ob q=>EI _ q) (EX _) ?_,`a,q _<|I4.hok.fresh<|EX _⟩;exact⟨by rw[Kb];exact hz,_,0,uW r,ES _ `a⟩
abbrev cK(h:Heap)(T:Addr)(a b c:EM):Prop:=h.get? T=some {cls:=.type "tuple",data:=.seq #[a,b,c]}
def BH(h:Heap)(o1 o2 o3:Obj):Heap:=(((h.push o1).push o2).push o3).push {cls:=.type "tuple",data:=.seq #[.ref h.objs.size,.ref (h.push o1).objs.size,.ref ((h.push o1).push o2).objs.size]}
def BI(h:Heap)(o1 o2 o3:Obj):Heap:=(BH h o1 o2 o3).push {cls:=.type "tuple",data:=.seq #[.none,.none,.none]}
def Ag(h:Heap)(o1 o2 o3:Obj):Heap:=(BI h o1 o2 o3).push {cls:=.type "zip",data:=.fields #[.none,.bool `g,.bool `g,.ref (((h.push o1).push o2).push o3).objs.size,.ref (BH h o1 o2 o3).objs.size]}
theorem lW(v1 v2 v3:EM)(o1 o2 o3:Obj):Meets (HG.«zip.__new__» ⟨[.type "zip",v1,v2,v3],[]⟩) (λ_ R s=>fU v1 s.heap o1/\fU v2 (s.heap.push o1) o2/\fU v3 ((s.heap.push o1).push o2) o3/\R (.ok<|.ret<|.ref (BI `p o1 o2 o3).objs.size) {s with heap:=Ag s.heap o1 o2 o3}):=
 .of_wp λprog w A R s h=>by
  obtain⟨hp,g,d,tk,os⟩:=s;obtain⟨i1,i2,i3,h⟩:=h;have hsub:=sub_zip;have j1:=λ(A:FR)(E:EM->EN->Prop)(Q:EM->EN->Prop)(q:Q _ _)=>i1 prog w A E Q ⟨hp,g,d,tk,os⟩ `a q;have j2:=λ(A:FR)(E:EM->EN->Prop)(Q:EM->EN->Prop)(q:Q _ _)=>i2 prog w A E Q ⟨hp.push o1,g,d,tk,os⟩ `a q;have j3:=λ(A:FR)(E:8 EM EN)(Q:8 EM EN)(q:Q _ _)=>i3 prog w A E Q ⟨(hp.push o1).push o2,g,d,tk,os⟩ rfl q
  wp_walk using j1 _ _ _,j2 _ _ _,j3 _ _ _
  exact 9 `a h
theorem kZ(a b c:EM):checkTypeCall "zip" ⟨[a,b,c],[]⟩=pure ():=by kernel_rfl
theorem lX(a b c:EM):checkBuiltinCall "zip.__new__" ⟨[.type "zip",a,b,c],[]⟩=pure ():=by kernel_rfl
theorem j9(a b c d:EM):argsOk "object.__init__" ⟨[a,b,c,d],[]⟩:=by
 unfold argsOk;rw[Lu (id:="object.__init__") (n:=['_','_','t','i','n','i','_','_']) (o:=['t','c','e','j','b','o']) (by kernel_rfl) PySem.F.owner_object];kernel_rfl
theorem tm{P:F6}{w:Fh}{A:FR}{E:8 EM EN}{s:EN}{v1 v2 v3:EM}{o1 o2 o3:Obj}{Q:8 EM EN}(i1:fU v1 `p o1)(i2:fU v2 (s.heap.push o1) o2)(i3:fU v3 ((s.heap.push o1).push o2) o3)
  (f1:o1.isFreed=`g) (f2:o2.isFreed=`g) (f3:o3.isFreed=`g)
  (q:∀h',Io h' (39 5) (39 3) (39 4) .none->cK h' (39 3) (`X) (.ref<|39 1) (.ref<|39 2)->cK h' (39 4) .none .none .none->
   h'.get? s.heap.objs.size=some o1->h'.get? (39 1)=some o2->h'.get? (39 2)=some o3->(∀c o,23 c o->37 c o)->Q (.ref<|39 5) {s with heap:=h'}):
  21 P w A (call (.type "zip") [v1,v2,v3]) Q E:=by
 refine callType_new My ⋯ (kZ _ _ _) (lX _ _ _) (λobj=>j9 obj _ _ _) LB (lW v1 v2 v3 o1 o2 o3) ⟨i1,i2,i3,?_⟩;have z1:(s.heap.push o1).objs.size=39 1:=FO ..;have z2:((s.heap.push o1).push o2).objs.size=39 2:=by rw[FO,z1]
 have z3:(((s.heap.push o1).push o2).push o3).objs.size=39 3:=by rw[FO,z2]
 have z4:(BH `p o1 o2 o3).objs.size=39 4:=by unfold BH;rw[FO,z3]
 have z5:(BI `p o1 o2 o3).objs.size=39 5:=by unfold BI;rw[FO,z4]
 have g6:0 ((Ag `p o1 o2 o3).get? (BI `p o1 o2 o3).objs.size) _:=ES _ `a;have g5:0 ((Ag `p o1 o2 o3).get? (BH `p o1 o2 o3).objs.size) _:=EI _ (ES _ `a);have g4:0 ((Ag `p o1 o2 o3).get? (((s.heap.push o1).push o2).push o3).objs.size) _:=EI _ (EI _<|ES _ `a);have g3:0 ((Ag `p o1 o2 o3).get? ((s.heap.push o1).push o2).objs.size) o3:=EI _ (EI _<|EI _<|ES _ f3);have g2:0 ((Ag `p o1 o2 o3).get? (s.heap.push o1).objs.size) o2:=EI _ (EI _<|EI _<|EI _<|ES _ f2);have g1:0 ((Ag `p o1 o2 o3).get? `P) o1:=EI _ (EI _<|EI _<|EI _<|EI _<|ES _ f1);show _/\_;rw[z3,z4,z5]at g6;rw[z1,z2,z3]at g4;rw[z4]at g5;rw[z2]at g3;rw[z1]at g2;rw[z5];exact⟨9 g6 `a,q _ g6 g4 g5 g1 g2 g3 λc o x=>EI _<|EI _<|EI _<|EI _<|EI _<|EI _ x⟩
section
variable{P:F6}{w:Fh}{A:FR}{E:8 EM EN}{s:EN}{z TI TO i1 i2 i3:Addr}{fp1 fp2 fp3:List Addr}{n1 n2 n3 k:Nat}{P1 P2 P3:8 Nat EM}{S1 S2 S3:8 Nat Heap}{a b c:EM}
theorem cf{T:Addr}{a b c x:EM}{k:Nat}{Q:8 Unit EN}(hT:cK `p T a b c)
  (h:∀h',h'.get? T=some {cls:=.type "tuple",data:=.seq ((#[a,b,c]:Array EM).setIfInBounds k x)}->Fg T s.heap h'->Q () {s with heap:=h'}):
  21 P w A (updateSeq T (·.setIfInBounds k x)) Q E:=by
 refine wpAny_updateSeq hT rfl<|h _ ?_<|Gk ..;rw[GY _ hT `a];simp[Hn]
structure ZApart3(z TI TO i1 i2 i3:Addr)(fp1 fp2 fp3:List Addr):Prop where
 c1:TI≠z
 c2:TO≠z
 c3:i1≠z
 c4:i2≠z
 c4':i3≠z
 c5:TI≠TO
 c6:TI≠i1
 c7:TI≠i2
 c7':TI≠i3
 c8:TO≠i1
 c9:TO≠i2
 c9':TO≠i3
 d1:z∉fp1/\TO∉fp1/\i2∉fp1/\i3∉fp1
 d2:z∉fp2/\TO∉fp2/\i1∉fp2/\i3∉fp2
 d3:z∉fp3/\TO∉fp3/\i1∉fp3/\i2∉fp3
theorem tq{Q:8 `Q EN}(D1:Ls P w A.in1 i1 fp1 n1 P1 S1)(D2:Ls P w A.in1 i2 fp2 n2 P2 S2)(D3:Ls P w A.in1 i3 fp3 n3 P3 S3)(ZY:ZApart3 z TI TO i1 i2 i3 fp1 fp2 fp3)(h1:k<n1)(h2:k<n2)(h3:k<n3)(hz:Io `p z TI TO .none)
  (hI:cK `p TI (.ref i1) (.ref i2) (.ref i3)) (hO:cK `p TO a b c) (t1:S1 k `p) (t2:S2 k `p) (t3:S3 k `p)
  (q:∀x y u h' tk T,P1 k x->P2 k y->P3 k u->T=s.heap.objs.size->Io h' z TI TO (rawInt T)->cK h' TO x y u->S1 (k+1) h'->S2 (k+1) h'->S3 (k+1) h'->cK h' T x y u->
   (∀c o,c≠z->c≠TO->c≠i1->c≠i2->c≠i3->23 c o->37 c o)->Q (27 T) {s with heap:=h',toks:=tk}):
  21 P w A (pyNext<|.ref z) Q E:=by
 have hT:s.TypeIs (.ref z) "zip":=9 hz `a
 unfold pyNext;refine EF (HZ<|FU (name:=EO "__next__") hT GH<|Fu GH hT Iy ?_<|Ij _);obtain⟨hp,gg,dd,tk0,os⟩:=s;show wpAny (model P w) _ (field (.ref z) 2>>=_) _ _ _;refine EF (G4 hz `a (x:=.bool `g) `a ?_);show wpAny (model P w) _ (field (.ref z) 3>>=_) _ _ _;refine EF (G4 hz `a (x:=.ref TI) `a<|EF<|G0 hI `a ?_);show wpAny (model P w) _ (FH (.ref z)>>=_) _ _ _;refine EF ?_;unfold FH;refine EF (G4 hz `a (x:=.none) `a `y);simp only[if_true];refine EF (Jj<|EF<|G4 hz `a (x:=.ref TO) `a<|EF<|G2 hz `f λg1 y1 b1=>?_);replace y1:Io g1 z TI TO .ellipsis:=y1;replace b1:Fg z hp g1:=b1;refine EF ?_;simp only[JG,K0,Je,Ju];refine EF (EF<|Hr ?_);show wpAny (model P w) _ (Fq (.ref i1)>>=_) _ _ _;refine EF (D1.item k _ _ _ h1 (aH D1 t1 b1 ZY.d1.1) λx g2 tk2 px u1 b2=>`y);replace b2:Fg i1 g1 g2:=b2;have O2:cK g2 TO a b c:=b2.extBut _ _ ZY.c8 (b1.extBut _ _ ZY.c2 hO);refine EF (G0 O2 `a<|EF<|cf O2 λg3 O3 b3=>?_);replace O3:cK g3 TO x b c:=O3;replace b3:Fg TO g2 g3:=b3;refine EF (Ip<|EK<|EF<|EF<|Hr ?_);show wpAny (model P w) _ (Fq (.ref i2)>>=_) _ _ _;refine EF (D2.item k _ _ _ h2 (aH D2 (aH D2 (aH D2 t2 b1 ZY.d2.1) b2 ZY.d2.2.2.1) b3 ZY.d2.2.1) λy g4 tk4 py u2 b4=>`y);replace b4:Fg i2 g3 g4:=b4;have O4:cK g4 TO x b c:=b4.extBut _ _ ZY.c9 O3;refine EF (G0 O4 `a<|EF<|cf O4 λg5 O5 b5=>?_);replace O5:cK g5 TO x y c:=O5;replace b5:Fg TO g4 g5:=b5;refine EF (Ip<|EK<|EF<|EF<|Hr ?_);show wpAny (model P w) _ (Fq (.ref i3)>>=_) _ _ _;refine EF (D3.item k _ _ _ h3 (aH D3 (aH D3 (aH D3 (aH D3 (aH D3 t3 b1 ZY.d3.1) b2 ZY.d3.2.2.1) b3 ZY.d3.2.1) b4 ZY.d3.2.2.2) b5 ZY.d3.2.1) λu g6 tk6 pu u3 b6=>`y);replace b6:Fg i3 g5 g6:=b6;have O6:cK g6 TO x y c:=b6.extBut _ _ ZY.c9' O5;refine EF (G0 O6 `a<|EF<|cf O6 λg7 O7 b7=>?_);replace O7:cK g7 TO x y u:=O7;replace b7:Fg TO g6 g7:=b7;refine EF (Ip<|EK<|EK<|EF<|G0 O7 `a<|EF<|LW ?_);have sz:g7.objs.size=hp.objs.size:=by rw[b7.1,b6.1,b5.1,b4.1,b3.1,b2.1,b1.1]
 have y7:Io g7 z TI TO .ellipsis:=b7.extBut _ _ ZY.c2.symm (b6.extBut _ _ ZY.c4'.symm<|b5.extBut _ _ ZY.c2.symm<|b4.extBut _ _ ZY.c4.symm<|b3.extBut _ _ ZY.c2.symm<|b2.extBut _ _ ZY.c3.symm y1);have k7:∀c o,c≠z->c≠TO->c≠i1->c≠i2->c≠i3->0 (hp.get? c) o->0 (g7.get? c) o:=λc o e1 e2 e3 e4 e5 e=>b7.extBut _ _ e2 (b6.extBut _ _ e5<|b5.extBut _ _ e2<|b4.extBut _ _ e4<|b3.extBut _ _ e2<|b2.extBut _ _ e3<|b1.extBut _ _ e1 e);have v1:S1 (k+1) g7:=aH D1 (aH D1 (aH D1 (aH D1 (aH D1 u1 b3 ZY.d1.2.1) b4 ZY.d1.2.2.1) b5 ZY.d1.2.1) b6 ZY.d1.2.2.2) b7 ZY.d1.2.1;have v2:S2 (k+1) g7:=aH D2 (aH D2 (aH D2 u2 b5 ZY.d2.2.1) b6 ZY.d2.2.2.2) b7 ZY.d2.2.1;have v3:S3 (k+1) g7:=aH D3 u3 b7 ZY.d3.2.1;have lz:z<g7.objs.size:=EU y7;show wpAny (model P w) _ (GV (.ref z) (.ref g7.objs.size)>>=_) _ _ _;refine EF ?_;unfold GV;have y8:Io (g7.push {cls:=.type "tuple",data:=.seq #[x,y,u]}) z TI TO .ellipsis:=EI _ y7;refine EF (G2 y8 `f λg9 y9 b9=>?_);replace y9:Io g9 z TI TO (rawInt g7.objs.size):=y9;replace b9:Fg z (g7.push {cls:=.type "tuple",data:=.seq #[x,y,u]}) g9:=b9;refine G2 y9 `f λa0 a2 a1=>?_;replace a2:Io a0 z TI TO (rawInt g7.objs.size):=a2;replace a1:Fg z g9 a0:=a1;have up:∀c o,c≠z->0 (g7.get? c) o->0 (a0.get? c) o:=λc o e1 e=>a1.extBut _ _ e1 (b9.extBut _ _ e1<|EI _ e);have T8:cK a0 g7.objs.size x y u:=a1.extBut _ _ (HU lz) (b9.extBut _ _ (HU lz)<|ES _ `a);refine EK (9 `a<|EK<|q x y u a0 _ g7.objs.size px py pu sz a2 (up _ _ ZY.c2 O7) (D1.frame _ _ _ v1 λb hb o e=>up b o (λq=>ZY.d1.1<|q▸hb) e) (D2.frame _ _ _ v2 λb hb o e=>up b o (λq=>ZY.d2.1<|q▸hb) e) (D3.frame _ _ _ v3 λb hb o e=>up b o (λq=>ZY.d3.1<|q▸hb) e) T8 λc o e1 e2 e3 e4 e5 e=>up c o e1<|k7 c o e1 e2 e3 e4 e5 e)
theorem uX{Q:8 `Q EN}(hh:A.handled=`c)(D1:Ls P w A.in1 i1 fp1 n1 P1 S1)(D2:Ls P w A.in1 i2 fp2 n2 P2 S2)(D3:Ls P w A.in1 i3 fp3 n3 P3 S3)(ZY:ZApart3 z TI TO i1 i2 i3 fp1 fp2 fp3)(hk:k=n1\/k<n1/\k=n2\/k<n1/\k<n2/\k=n3)(hz:Io `p z TI TO .none)
  (hI:cK `p TI (.ref i1) (.ref i2) (.ref i3)) (hO:cK `p TO a b c) (t1:S1 k `p) (t2:S2 k `p) (t3:S3 k `p)
  (q:∀h' tk,(∀c o,c≠z->c≠TO->c≠i1->c≠i2->c≠i3->23 c o->37 c o)->Q none {s with heap:=h',toks:=tk}):
  21 P w A (pyNext<|.ref z) Q E:=by
 have hT:s.TypeIs (.ref z) "zip":=9 hz `a
 unfold pyNext;refine EF (HZ<|FU (name:=EO "__next__") hT GH<|Fu GH hT Iy ?_<|Ij _);obtain⟨hp,gg,dd,tk0,os⟩:=s;show wpAny (model P w) _ (field (.ref z) 2>>=_) _ _ _;refine EF (G4 hz `a (x:=.bool `g) `a ?_);show wpAny (model P w) _ (field (.ref z) 3>>=_) _ _ _;refine EF (G4 hz `a (x:=.ref TI) `a<|EF<|G0 hI `a ?_);show wpAny (model P w) _ (FH (.ref z)>>=_) _ _ _;refine EF ?_;unfold FH;refine EF (G4 hz `a (x:=.none) `a `y);simp only[if_true];refine EF (Jj<|EF<|G4 hz `a (x:=.ref TO) `a<|EF<|G2 hz `f λg1 y1 b1=>?_);replace y1:Io g1 z TI TO .ellipsis:=y1;replace b1:Fg z hp g1:=b1;refine EF ?_;simp only[JG,K0,Je,Ju];refine EF (EF<|Hr ?_);show wpAny (model P w) _ (Fq (.ref i1)>>=_) _ _ _;rcases hk with hk|hk
 ·subst hk;refine EF (D1.done _ _ _ (aH D1 t1 b1 ZY.d1.1) λg2 e b2 he=>?_);obtain⟨oe,hoe,hce⟩:=he;replace b2:IX i1 g1 g2:=b2;have y2:Io g2 z TI TO .ellipsis:=b2 _ _ ZY.c3.symm y1;have ez:e≠z:=λx=>by subst x;rw[y2]at hoe;cases hoe;simp at hce
  refine G2 y2 `f λg3 _ b3=>?_;exact EF (Ho (T:="StopIteration") (b:=true) ⟨oe,b3.extBut _ _ ez hoe,hce⟩ Ik<|EK<|q g3 _ λc o e1 _ e3 _ _ x=>b3.extBut _ _ e1<|b2 _ _ e3<|b1.extBut _ _ e1 x)
 ·have hk1:k<n1:=by rcases hk with z | z <;> exact z.1
  refine EF (D1.item k _ _ _ hk1 (aH D1 t1 b1 ZY.d1.1) λx g2 tk2 px u1 b2=>`y);replace b2:Fg i1 g1 g2:=b2;have O2:cK g2 TO a b c:=b2.extBut _ _ ZY.c8 (b1.extBut _ _ ZY.c2 hO);refine EF (G0 O2 `a<|EF<|cf O2 λg3 O3 b3=>?_);replace b3:Fg TO g2 g3:=b3;replace O3:cK g3 TO x b c:=O3;refine EF (Ip<|EK<|EF<|EF<|Hr ?_);show wpAny (model P w) _ (Fq (.ref i2)>>=_) _ _ _;rcases hk with⟨_,hk2⟩|⟨_,hk2,hk3⟩
  ·subst hk2;refine EF (D2.done _ _ _ (aH D2 (aH D2 (aH D2 t2 b1 ZY.d2.1) b2 ZY.d2.2.2.1) b3 ZY.d2.2.1) λg4 e b4 he=>?_);obtain⟨oe,hoe,hce⟩:=he;replace b4:IX i2 g3 g4:=b4;have y4:Io g4 z TI TO .ellipsis:=b4 _ _ ZY.c4.symm (b3.extBut _ _ ZY.c2.symm<|b2.extBut _ _ ZY.c3.symm y1);have ez:e≠z:=λx=>by subst x;rw[y4]at hoe;cases hoe;simp at hce
   refine G2 y4 `f λg5 _ b5=>?_;exact EF (Ho (T:="StopIteration") (b:=true) ⟨oe,b5.extBut _ _ ez hoe,hce⟩ Ik<|EK<|q g5 _ λc o e1 e2 e3 e4 _ x=>b5.extBut _ _ e1<|b4 _ _ e4<|b3.extBut _ _ e2<|b2.extBut _ _ e3<|b1.extBut _ _ e1 x)
  ·subst hk3;refine EF (D2.item k _ _ _ hk2 (aH D2 (aH D2 (aH D2 t2 b1 ZY.d2.1) b2 ZY.d2.2.2.1) b3 ZY.d2.2.1) λy g4 tk4 py u2 b4=>`y);replace b4:Fg i2 g3 g4:=b4;have O4:cK g4 TO x b c:=b4.extBut _ _ ZY.c9 O3;refine EF (G0 O4 `a<|EF<|cf O4 λg5 O5 b5=>?_);replace b5:Fg TO g4 g5:=b5;refine EF (Ip<|EK<|EF<|EF<|Hr ?_);show wpAny (model P w) _ (Fq (.ref i3)>>=_) _ _ _;refine EF (D3.done _ _ _ (aH D3 (aH D3 (aH D3 (aH D3 (aH D3 t3 b1 ZY.d3.1) b2 ZY.d3.2.2.1) b3 ZY.d3.2.1) b4 ZY.d3.2.2.2) b5 ZY.d3.2.1) λg6 e b6 he=>?_);obtain⟨oe,hoe,hce⟩:=he;replace b6:IX i3 g5 g6:=b6;have y6:Io g6 z TI TO .ellipsis:=b6 _ _ ZY.c4'.symm (b5.extBut _ _ ZY.c2.symm<|b4.extBut _ _ ZY.c4.symm<|b3.extBut _ _ ZY.c2.symm<|b2.extBut _ _ ZY.c3.symm y1);have ez:e≠z:=λx=>by subst x;rw[y6]at hoe;cases hoe;simp at hce
   refine G2 y6 `f λg7 _ b7=>?_;exact EF (Ho (T:="StopIteration") (b:=true) ⟨oe,b7.extBut _ _ ez hoe,hce⟩ Ik<|EK<|q g7 _ λc o e1 e2 e3 e4 e5 x=>b7.extBut _ _ e1<|b6 _ _ e5<|b5.extBut _ _ e2<|b4.extBut _ _ e4<|b3.extBut _ _ e2<|b2.extBut _ _ e3<|b1.extBut _ _ e1 x)
end
def BJ(K:EL)(c1 c2 c3:Src):It:=
  ⟨λi H=>∃xs ys us x y u,c1.has K H xs/\c2.has K H ys/\c3.has K H us/\0 xs[i]? x/\0 ys[i]? y/\0 us[i]? u,λi H v H'=>∃p x y u,H p=`c/\v=`E/\(∀xs,c1.has K H xs->0 xs[i]? x)/\(∀ys,c2.has K H ys->0 ys[i]? y)/\(∀us,c3.has K H us->0 us[i]? u)/\H'=cT H p (.tup [x,y,u]),λi H=>∃xs ys us,c1.has K H xs/\c2.has K H ys/\c3.has K H us/\(i=`i\/i<`i/\i=ys.length\/i<`i/\i<ys.length/\i=us.length)⟩
def Du(c1 c2 c3:Src)(z TI TO i1 i2 i3:Addr)(i:Nat)(h:Heap):Prop:=Io h z TI TO .none/\cK h TI (.ref i1) (.ref i2) (.ref i3)/\(∃a b c,cK h TO a b c)/\c1.at i1 i h/\c2.at i2 i h/\c3.at i3 i h
structure ZIds3(z TI TO i1 i2 i3:Addr):Prop where
 c1:TI≠z
 c2:TO≠z
 c3:i1≠z
 c4:i2≠z
 c4':i3≠z
 c5:TI≠TO
 c6:TI≠i1
 c7:TI≠i2
 c7':TI≠i3
 c8:TO≠i1
 c9:TO≠i2
 c9':TO≠i3
 c10:i1≠i2
 c11:i1≠i3
 c12:i2≠i3
theorem rA{X:Cx}{Z_:7 Addr Obj}{M:St}{H:Hp}{s:EN}{z TI TO i1 i2 i3:Addr}{fp1 fp2 fp3:List Addr}(I:14 X M H s)(ZY:ZIds3 z TI TO i1 i2 i3)(hf:∀b∈[z,TI,TO,i1,i2,i3],FpOk X Z_ H b)
  (g1:∀b∈fp1,b=i1\/H b≠`c\/∃o,0 (X.base.get? b) o) (g2:∀b∈fp2,b=i2\/H b≠`c\/∃o,0 (X.base.get? b) o) (g3:∀b∈fp3,b=i3\/H b≠`c\/∃o,0 (X.base.get? b) o):ZApart3 z TI TO i1 i2 i3 fp1 fp2 fp3:=by
 have no:∀b∈[z,TI,TO,i1,i2,i3],¬(H b≠`c\/∃o,0 (X.base.get? b) o):=λb hb q=>by
  rcases q with q|⟨o,q⟩
  ·exact q (hf b hb).1
  ·rcases (hf b hb).2.2.2.1 with y | y;·exact I.ok.noex b o q y
   ·exact absurd (EZ (EZ (EU q) I.ok.bsz) y) (Gu _)
 refine⟨ZY.c1,ZY.c2,ZY.c3,ZY.c4,ZY.c4',ZY.c5,ZY.c6,ZY.c7,ZY.c7',ZY.c8,ZY.c9,ZY.c9',⟨λm=>?_,λm=>?_,λm=>?_,λm=>?_⟩,⟨λm=>?_,λm=>?_,λm=>?_,λm=>?_⟩,⟨λm=>?_,λm=>?_,λm=>?_,λm=>?_⟩⟩;·exact(g1 _ m).elim (λe=>ZY.c3 e.symm) (no z `f)
 ·exact(g1 _ m).elim (λe=>ZY.c8 e) (no TO `f)
 ·exact(g1 _ m).elim (λe=>ZY.c10 e.symm) (no i2 `f)
 ·exact(g1 _ m).elim (λe=>ZY.c11 e.symm) (no i3 `f)
 ·exact(g2 _ m).elim (λe=>ZY.c4 e.symm) (no z `f)
 ·exact(g2 _ m).elim (λe=>ZY.c9 e) (no TO `f)
 ·exact(g2 _ m).elim (λe=>ZY.c10 e) (no i1 `f)
 ·exact(g2 _ m).elim (λe=>ZY.c12 e.symm) (no i3 `f)
 ·exact(g3 _ m).elim (λe=>ZY.c4' e.symm) (no z `f)
 ·exact(g3 _ m).elim (λe=>ZY.c9' e) (no TO `f)
 ·exact(g3 _ m).elim (λe=>ZY.c11 e) (no i1 `f)
 ·exact(g3 _ m).elim (λe=>ZY.c12 e) (no i2 `f)
theorem tu{P:F6}{w:Fh}{K:EL}{Z3:List Expr}{kk:Nat}{tp:Pos}(c1 c2 c3:Src)(z TI TO i1 i2 i3:Addr)(ZY:ZIds3 z TI TO i1 i2 i3):
  Turn P w K (.Tuple Z3 kk tp) (BJ K c1 c2 c3) [z,TI,TO,i1,i2,i3] z (Du c1 c2 c3 z TI TO i1 i2 i3) where
 mem:=`f
 obj:=λi h st b hb=>by
  obtain⟨hz,hI,⟨a,b',c',hO⟩,t1,t2,t3⟩:=st;obtain⟨o1,e1,v1,d1⟩:=Ky t1;obtain⟨o2,e2,v2,d2⟩:=Ky t2;obtain⟨o3,e3,v3,d3⟩:=Ky t3;simp only[F0,Fp,or_false]at hb;rcases hb with rfl|rfl|rfl|rfl|rfl|rfl;·exact 9 hz λv q=>by cases (show JN _=IG v from q)
  ·exact 9 hI λv q=>by cases (show LU _ _=IG v from q)
  ·exact 9 hO λv q=>by cases (show LU _ _=IG v from q)
  ·exact 9 e1 λv q=>by rw[d1]at q;cases q
  ·exact 9 e2 λv q=>by rw[d2]at q;cases q
  ·exact 9 e3 λv q=>by rw[d3]at q;cases q
 keep:=λi h h' st k=>by
  obtain⟨hz,hI,⟨a,b',c',hO⟩,t1,t2,t3⟩:=st;exact⟨k z `f _ hz,k TI `f _ hI,⟨a,b',c',k TO `f _ hO⟩,JX t1<|k i1 `f,JX t2<|k i2 `f,JX t3<|k i3 `f⟩
 item:=by
  intro X hP hw hK hc i Z_ s M H E I hf st hg;subst hP hw hK;obtain⟨xs,ys,us,x,y,u,hx,hy,hu,ex,ey,eu⟩:=hg;obtain⟨hz,hI,⟨a,b',c',hO⟩,t1,t2,t3⟩:=st;have hh:X.A.in1.handled=`c:=I.ok.hd hc;obtain⟨fp1,P1,S1,D1,u1,r1,a1,_,g1⟩:=Lc (A:=X.A.in1) hh I hx t1 (hf i1 `f).1;obtain⟨fp2,P2,S2,D2,u2,r2,a2,_,g2⟩:=Lc (A:=X.A.in1) hh I hy t2 (hf i2 `f).1;obtain⟨fp3,P3,S3,D3,u3,r3,a3,_,g3⟩:=Lc (A:=X.A.in1) hh I hu t3 (hf i3 `f).1;have ZA:=rA I ZY hf g1 g2 g3;refine tq D1 D2 D3 ZA (ER.mp ex).1 (ER.mp ey).1 (ER.mp eu).1 hz hI hO u1 u2 u3 λvx vy vu h' tk T px py pu hT hz' hO' w1 w2 w3 hTp kp=>?_;obtain⟨x',ex',rx⟩:=r1 i vx px;obtain⟨y',ey',ry⟩:=r2 i vy py;obtain⟨u',eu',ru⟩:=r3 i vu pu;rw[ex]at ex';cases ex';rw[ey]at ey';cases ey';rw[eu]at eu';cases eu';have nT:H T=`c:=by rw[hT];exact I.hok.fresh (EX _)
  refine 9 `a (KA hz' λh2 hz2 sb=>?_);have lt:∀{c o},23 c o->c≠T:=λe=>by rw[hT];exact Fd (EU e)
  have up:∀c o,c≠z->37 c o->0 (h2.get? c) o:=λc o hc e=>(sb.2 c hc).trans e;have kp2:∀b o,b∉[z,TO,i1,i2,i3]->23 b o->0 (h2.get? b) o:=λb o hb e=>by
   simp only[F0,Fp,or_false,not_or]at hb;exact up b o hb.1 (kp b o hb.1 hb.2.1 hb.2.2.1 hb.2.2.2.1 hb.2.2.2.2 e)
  have ch:∀b∈[z,TO,i1,i2,i3],b∈[z,TI,TO,i1,i2,i3]:=λb hb=>by
   simp only[F0,Fp,or_false]at hb ⊢;rcases hb with h|h|h|h|h<;>simp[h]
  have iz:∀b u,0 (H b) u->b∉[z,TO,i1,i2,i3]/\b≠T:=λb u e=>⟨λhb=>(by rw[(hf b<|ch b hb).1]at e;cases e),λq=>(by rw[q,nT]at e;cases e)⟩
  have I2:Inv X Z_ M (cT H T<|.tup [x,y,u]) {s with heap:=h2,gens:=s.gens,drawn:=s.drawn,toks:=tk}:=by
   refine I.step (g':=s.gens) (d':=s.drawn) (t':=tk) (ch:=[z,TO,i1,i2,i3]) (λb hb=>⟨(hf b<|ch b hb).2.2.2.1,(hf b<|ch b hb).2.1,(hf b<|ch b hb).2.2.2.2.1,(hf b<|ch b hb).2.2.2.2.2⟩) (λb o _ _ hb e _=>kp2 b o hb e) (λb o _ _ hb e _=>⟨o.slots,kp2 b o hb e⟩) (λb o hb e n=>by rw[aJ (lt e)];exact n) (λb o hb e=>⟨o,kp2 b o hb e⟩) (λb xs e=>by rw[aJ (iz b _ e).2];exact e) (λb o u e=>by rw[aJ (iz b _ e).2];exact e) (λb ps e=>⟨#[],by rw[aJ (iz b _ e).2,e];simp⟩) (λm hm=>?_) (λb u e=>?_) I.bare
   ·obtain⟨o,es,ep,ho,r⟩:=hm;exact⟨o,es,ep,kp2 _ o (λhb=>(hf _<|ch _ hb).2.1 `a) ho,r⟩
   ·by_cases hb:b=T
    ·subst hb;rw[aG]at e;cases e;refine⟨(by show 3<=sizeLine;rw[FE];decide),[vx,vy,vu],.cons rx<|.cons ry<|.cons ru .nil,⟨_,up _ _ ?_ hTp,⟨`a,`a⟩,_,`a⟩⟩;exact λq=>lt hz q.symm
    ·rw[aJ hb]at e;refine(I.hok b u e).stay (λc v hc q=>kp2 c v ?_ q) (λc q=>by rw[aJ (iz c _ q).2];exact q) λc xs q=>by rw[aJ (iz c _ q).2];exact q
     rcases hc with q|q;·rw[q];exact(iz b u e).1
     ·exact(iz c _ q).1
  refine⟨.ref T,_,I2,`a,⟨T,x,y,u,nT,rfl,λxs' h=>by rw[PD I h hx];exact ex,λys' h=>by rw[PD I h hy];exact ey,λus' h=>by rw[PD I h hu];exact eu,rfl⟩,⟨hz2,up _ _ ZY.c1<|kp _ _ ZY.c1 ZY.c5 ZY.c6 ZY.c7 ZY.c7' hI,⟨_,_,_,up _ _ ZY.c2 hO'⟩,JX (a1 _ _ w1) λo e=>up _ o ZY.c3 e,JX (a2 _ _ w2) λo e=>up _ o ZY.c4 e,JX (a3 _ _ w3) λo e=>up _ o ZY.c4' e⟩,λb hb=>?_⟩;have hbT:b≠T:=by
   obtain⟨o,e⟩:∃o,23 b o:=by
    obtain⟨o1,e1,_⟩:=Ky t1;obtain⟨o2,e2,_⟩:=Ky t2;obtain⟨o3,e3,_⟩:=Ky t3;simp only[F0,Fp,or_false]at hb;rcases hb with rfl|rfl|rfl|rfl|rfl|rfl;·exact⟨_,hz⟩
    ·exact⟨_,hI⟩
    ·exact⟨_,hO⟩
    ·exact⟨_,e1⟩
    ·exact⟨_,e2⟩
    ·exact⟨_,e3⟩
   exact lt e
  rw[aJ hbT];exact(hf b hb).1
 done:=by
  intro X hP hw hK hc i Z_ s M H E I hf st hg;subst hP hw hK;obtain⟨xs,ys,us,hx,hy,hu,hend⟩:=hg;obtain⟨hz,hI,⟨a,b',c',hO⟩,t1,t2,t3⟩:=st;have hh:X.A.in1.handled=`c:=I.ok.hd hc;obtain⟨fp1,P1,S1,D1,u1,r1,a1,_,g1⟩:=Lc (A:=X.A.in1) hh I hx t1 (hf i1 `f).1;obtain⟨fp2,P2,S2,D2,u2,r2,a2,_,g2⟩:=Lc (A:=X.A.in1) hh I hy t2 (hf i2 `f).1;obtain⟨fp3,P3,S3,D3,u3,r3,a3,_,g3⟩:=Lc (A:=X.A.in1) hh I hu t3 (hf i3 `f).1;have ZA:=rA I ZY hf g1 g2 g3;have ch:∀b∈[z,TO,i1,i2,i3],b∈[z,TI,TO,i1,i2,i3]:=λb hb=>by
   simp only[F0,Fp,or_false]at hb ⊢;rcases hb with h|h|h|h|h<;>simp[h]
  refine uX hh D1 D2 D3 ZA hend hz hI hO u1 u2 u3 λh2 tk kp=>⟨`a,?_⟩
  have kp2:∀b o,b∉[z,TO,i1,i2,i3]->23 b o->0 (h2.get? b) o:=λb o hb e=>by
   simp only[F0,Fp,or_false,not_or]at hb;exact kp b o hb.1 hb.2.1 hb.2.2.1 hb.2.2.2.1 hb.2.2.2.2 e
  refine I.step (g':=s.gens) (d':=s.drawn) (t':=tk) (ch:=[z,TO,i1,i2,i3]) (λb hb=>⟨(hf b<|ch b hb).2.2.2.1,(hf b<|ch b hb).2.1,(hf b<|ch b hb).2.2.2.2.1,(hf b<|ch b hb).2.2.2.2.2⟩) (λb o _ _ hb e _=>kp2 b o hb e) (λb o _ _ hb e _=>⟨o.slots,kp2 b o hb e⟩) (λb o hb e n=>n) (λb o hb e=>⟨o,kp2 b o hb e⟩) (λb xs e=>e) (λb o u e=>e) (λb ps e=>⟨#[],by rw[e];simp⟩) (λm hm=>?_) (λb u e=>?_) I.bare
  ·obtain⟨o,es,ep,ho,r⟩:=hm;exact⟨o,es,ep,kp2 _ o (λhb=>(hf _<|ch _ hb).2.1 `a) ho,r⟩
  ·have iz:∀b u,0 (H b) u->b∉[z,TO,i1,i2,i3]:=λb u e hb=>by rw[(hf b<|ch b hb).1]at e;cases e
   refine(I.hok b u e).stay (λc v hc q=>kp2 c v ?_ q) (λc q=>q) λc xs q=>q;rcases hc with q|q
   ·rw[q];exact iz b u e
   ·exact iz c _ q
 self:=λ_ _ _ _ _ st h=>JH st.1 h
theorem BK{x y z:V}{us:List EM}(r:Vals [x,y,z] us):∃u v w',us=[u,v,w']/\RelV x u/\RelV y v/\RelV z w':=by
 cases r with
 |cons h1 r=>cases r with
  |cons h2 r=>cases r with
   |cons h3 r=>cases r;exact⟨_,_,_,`a,h1,h2,h3⟩
def zE(K:EL)(t:TA):TI:=λM H R=>t M H λvs H1=>∃c1 c2 c3 xs ys us,vs=[c1.val,c2.val,c3.val]/\c1.has K H1 xs/\c2.has K H1 ys/\c3.has K H1 us/\R (BJ K c1 c2 c3) H1
theorem xX{X:Cx}{K:EL}(hK:X.K=K){a b c:Expr}{ta:TA}{p Z9 tp:Pos}{Z3:List Expr}{kk:Nat}(hg:Gl X "zip")(hm:X.mg "zip"=`c)(ha:PA X [a,b,c] ta)
  (hs:32 [a,b,c]=[(false,26 a),(false,26 b),(false,26 c)]:=by rfl) (hs2:32 [b,c]=[(false,26 b),(false,26 c)]:=by rfl):PI X (.Tuple Z3 kk tp) (.Call (.Name "zip" p) [a,b,c] [] Z9) (zE K ta):=by
 subst hK;intro Z_ s M H R I h;refine OB (gk I hg hm boot_zip (G5 (cx (ha Z9 Z_ s M H _ I h) λus s1⟨vs,H1,I1,r1,q1⟩=>?_) (by rw[hs,hs2]) (by rw[hs2];rfl)));obtain⟨c1,c2,c3,xs,ys,zs,e,h1,h2,h3,q⟩:=q1;subst e;obtain⟨v1,v2,v3,rfl,ra,rb,rc⟩:=BK r1;obtain⟨o1,i1,f1,n1⟩:=Pa I1 h1 ra λ_ _ e=>e;obtain⟨o2,i2,f2,n2⟩:=Pa (h:=s1.heap.push o1) I1 h2 rb λ_ _ e=>EI _ e;obtain⟨o3,i3,f3,n3⟩:=Pa (h:=(s1.heap.push o1).push o2) I1 h3 rc λ_ _ e=>EI _ (EI _ e);have z1:(s1.heap.push o1).objs.size=`U+1:=FO ..;have z2:((s1.heap.push o1).push o2).objs.size=`U+2:=by rw[FO,z1]
 rw[z1]at n2;rw[z2]at n3;refine tm i1 i2 i3 f1 f2 f3 λh' hz hI hO e1 e2 e3 kp=>?_;refine JH hz ?_;have zi:∀n:Nat,ZIds3 (n+5) (n+3) (n+4) n (n+1) (n+2):=λn=>⟨jV n 3 5 ⋯,jV n 4 5 ⋯,jV n 0 5 ⋯,jV n 1 5 ⋯,jV n 2 5 ⋯,jV n 3 4 ⋯,jV n 3 0 ⋯,jV n 3 1 ⋯,jV n 3 2 ⋯,jV n 4 0 ⋯,jV n 4 1 ⋯,jV n 4 2 ⋯,jV n 0 1 ⋯,jV n 0 2 ⋯,jV n 1 2 ⋯⟩
 refine⟨`U+5,[`U+5,`U+3,`U+4,s1.heap.objs.size,`U+1,`U+2],_,_,H1,`a,I1.kept (t':=s1.toks) kp,tu c1 c2 c3 _ _ _ _ _ _<|zi `U,⟨hz,hI,⟨_,_,_,hO⟩,n1 h' e1,n2 h' e2,n3 h' e3⟩,λb hb=>?_,q⟩;have hb':`U<=b:=by
  simp only[F0,Fp,or_false]at hb;rcases hb with z|z|z|z|z|z<;>rw[z]
  ·exact G9 _ 5
  ·exact G9 _ 3
  ·exact G9 _ 4
  ·exact EX _
  ·exact G9 _ 1
  ·exact G9 _ 2
 exact I1.fpOk hb' (I1.hok.fresh hb')
end L2
namespace Mi
inductive Res(Z:Type) where
 |ok (a:Z)|err (j:Nat)|stuck
namespace Res
variable{Z β:Type}
def Ok(m:Res Z)(P:Z->Prop):Prop:=match m with| .ok a=>P a|_=>False
def bind(m:Res Z)(f:Z->Res β):Res β:=match m with| .ok a=>f a| .err j=>.err j| .stuck=>.stuck
theorem bind_ok{m:Res Z}{f:Z->Res β}{P:β->Prop}(h:m.Ok λa=>(f a).Ok P):(m.bind f).Ok P:=by cases m<;>exact h
theorem Ok.imp{m:Res Z}{P Q:Z->Prop}(h:m.Ok P)(k:∀a,P a->Q a):m.Ok Q:=by cases m<;>first|exact k _ h|exact h
theorem Ok.ex{m:Res Z}{P:Z->Prop}(h:m.Ok P):∃a,m=.ok a/\P a:=by
 cases m with
 |ok a=>exact⟨a,`a,h⟩
 |err j=>exact h.elim
 |stuck=>exact h.elim
def OkE(m:Res Z)(Er:Nat->Prop)(P:Z->Prop):Prop:=match m with| .ok a=>P a| .err j=>Er j| .stuck=>False
theorem okE_bind{m:Res Z}{f:Z->Res β}{Er:Nat->Prop}{P:β->Prop}(h:(m.bind f).OkE Er P):m.OkE Er λa=>(f a).OkE Er P:=by cases m<;>exact h
theorem OkE.imp{m:Res Z}{Er:Nat->Prop}{P Q:Z->Prop}(h:m.OkE Er P)(k:∀a,P a->Q a):m.OkE Er Q:=by cases m<;>first|exact k _ h|exact h
theorem Ok.e{m:Res Z}{Er:Nat->Prop}{P:Z->Prop}(h:m.Ok P):m.OkE Er P:=by
 cases m with
 |ok a=>exact h
 |err j=>exact h.elim
 |stuck=>exact h.elim
@[simp] theorem bind_ok'(a:Z)(f:Z->Res β):(Res.ok a).bind f=f a:=rfl
end Res
abbrev cap:Nat:=100000
def eR(b:Prop)[Decidable b]{Z:Type}(a:Z):Res Z:=if b then .ok a else .stuck
theorem bE{b:Prop}[Decidable b]{Z:Type}{a:Z}(h:b):eR b a=.ok a:=Z0 h
theorem ba{b:Prop}[Decidable b]{Z:Type}{a:Z}{Er:Nat->Prop}{P:Z->Prop}(h:(eR b a).OkE Er P):b/\P a:=by
 unfold eR at h;by_cases hb:b;·rw[Z0 hb]at h;exact⟨hb,h⟩
 ·rw[Z1 hb]at h;exact h.elim
def gW{Z:Type}:Option Z->Res Z
 |some a=>.ok a
 |none=>.stuck
theorem dR{Z:Type}{o:Option Z}{Er:Nat->Prop}{P:Z->Prop}(h:(gW o).OkE Er P):∃a,0 o a/\P a:=by
 cases o with
 |none=>exact h.elim
 |some a=>exact⟨a,`a,h⟩
abbrev Tx:=List Nat
def cy(i:Int):Int:=if i<0 then -i else i
def ko(i j:Int):`C:=eR ((-(2^64)<i/\i<2^64)\/(-(2^64)<j/\j<2^64)) (i*j)
def l4(i j:Int):`C:=eR (0<j/\j<1073741824)<|i/j
def gY(i j:Int):`C:=eR (0<j)<|i%j
def ixN(n:Nat)(i:Int):`S:=if 0<=i then(if i<n then some i.toNat else none)else if -(n:Int)<=i then some (i+n).toNat else none
def rB{Z:Type}(xs:`r)(i:Int):Option Z:=(ixN `i i).bind λj=>xs[j]?
theorem rC{Z:Type}{xs:`r}{j:Nat}{v:Z}(h:0 xs[j]? v):0 (rB xs (j:Int)) v:=by
 have hl:j<`i:=(ER.mp h).1;unfold rB ixN;rw[Z0 `b,Z0 `b,Gv];exact h
theorem uY{Z:Type}{xs:`r}{i:Int}(h0:0<=i)(h1:i<`i):∃h:i.toNat<xs.length,0 (rB xs i) xs[i.toNat]:=by
 have h2:i.toNat<`i:=`b
 refine⟨h2,?_⟩;have:=rC (xs:=xs) (j:=i.toNat) (v:=xs[i.toNat]) (by simp[h2]);rw[Kc h0]at this;exact this
def dG{Z:Type}(xs:`r)(i:Int):Res Z:=gW (rB xs i)
def gc(x:Tx)(i:Int):`J:=(eR (`F<=cap) x).bind λx=>(gW<|rB x i).bind λc=>.ok [c]
def cY(a b:Tx):`J:=eR (a.length+b.length<=cap) (a++b)
def tx{Z:Type}(a b:`r):11 Z:=eR (a.length+b.length<=cap) (a++b)
def gZ{Z:Type}(a:`r)(x:Z):11 Z:=eR (a.length<cap) (a++[x])
def Ah(a:Tx)(n:Int):`J:=match a with
 | [c]=>eR (0<=n/\n<=cap) (Hu n.toNat c)
 |_=>.stuck
def oX(x:Tx):`C:=eR (`F<=cap) (x.length:Int)
def sIx(n d:Nat):`w->Nat
 |none=>d
 |some v=>if v<0 then(v+(n:Int)).toNat else min v.toNat n
def cut{Z:Type}(l:`r)(lo hi:`w):`r:=(l.drop<|sIx l.length 0 lo).take (sIx l.length l.length hi-sIx l.length 0 lo)
def fu(x:Tx)(lo hi:`w):`J:=eR (`F<=cap) (cut x lo hi)
def kq{Z:Type}(xs:`r)(i:Int)(x:Z):11 Z:=(gW<|ixN `i i).bind λj=>.ok (xs.set j x)
def uZ(x:Tx)(c:Nat):`S:=x.findIdx? (· ==c)
def ku(x y:Tx):`C:=match y with
 | [c]=>(gW<|uZ x c).bind λj=>.ok (j:Int)
 |_=>.stuck
def oY(xs:List Tx):`J:=eR (xs.flatten.length<=cap) xs.flatten
def look{κ Z:Type}[DecidableEq κ](kvs:7 κ Z)(k:κ):Option Z:=(kvs.find? λp=>decide<|p.1=k).map (·.2)
def getD{κ Z:Type}[DecidableEq κ](kvs:7 κ Z)(k:κ):Res Z:=gW (look kvs k)
def jf{Z β:Type}(f:Z->Res β):`r->11 β
 | []=>.ok []
 |a::r=>(f a).bind λb=>(jf f r).bind λbs=>.ok (b::bs)
def eK{Z β:Type}(xs:`r)(f:Z->Res β):11 β:=(eR (`i<=cap) xs).bind λxs=>jf f xs
def jg{Z β:Type}(f:Z->Res (Option β)):`r->11 β
 | []=>.ok []
 |a::r=>(f a).bind λb=>(jg f r).bind λbs=>.ok (match b with|some b=>b::bs|none=>bs)
def rD{Z β:Type}(xs:`r)(f:Z->Res (Option β)):11 β:=(eR (`i<=cap) xs).bind λxs=>jg f xs
def bO{Z S:Type}(f:Z->S->Res S):`r->S->Res S
 | [],s=>.ok s
 |a::r,s=>(f a s).bind λs=>bO f r s
inductive Fl(γ S:Type) where
 |nx (s:S)|bk (s:S)|rt (r:γ)
def va{S γ:Type}(k:S->Res (Fl γ S)):Fl γ S->Res (Fl γ S)
 | .nx s=>k s
 | .bk s=>.ok (.nx s)
 | .rt x=>.ok (.rt x)
def eS{Z S γ:Type}(f:Z->S->Res (Fl γ S)):`r->S->Res (Fl γ S)
 | [],s=>.ok (.nx s)
 |a::r,s=>(f a s).bind (va<|eS f r)
def gp(n:Int):`H:=(FP n.toNat).map λ(i:Nat)=>(i:Int)
def fb(n:Int):11 Int:=eR (-(2^62)<=n/\n<2^62) (gp n)
def iU{Z:Type}(xs:`r):7 Int Z:=(FP `i).zipWith (λ(i:Nat)x=>((i:Int),x)) xs
def bF(x:Tx):List Tx:=x.map λc=>[c]
def jG(xs:`H):`H:=xs.mergeSort λa b=>decide<|a<=b
theorem jX(xs:`H):(jG xs).Perm xs:=M7 _ _
theorem mI(xs:`H):(jG xs).Pairwise (· <= ·):=by
 have:=L7 (le:=λa b:Int=>decide<|a<=b) (λa b c h1 h2=>by simp at *;omega) (λa b=>by simp;omega) xs;exact this.imp λh=>by simpa using h
theorem tD{xs ys:`H}(h:ys.Perm xs)(hs:ys.Pairwise (· <= ·)):ys=jG xs:=
 KW (le:=(· <= ·)) (λa b _ _ h1 h2=>`b) hs (mI xs) (h.trans (jX xs).symm)
def vb(xs:`H):11 Int:=eR (`i<64) (jG xs)
def DD(x y:Tx):`x:=match x with
 | [c]=>.ok (y.contains c)
 |_=>.stuck
def BL{Z:Type}[DecidableEq Z](a b:Z):`x:=if a=b then .ok true else .stuck
def Ai{Z:Type}:`r->Res (Z×Z×Z)
 | [a,b,c]=>.ok (a,b,c)
 |_=>.stuck
theorem rE{Z β:Type}{f:Z->Res β}{g:Z->β}:∀{xs:List Z},(∀x∈xs,f x=.ok (g x))->jf f xs=.ok (xs.map g)
 | [],_=>rfl
 |a::r,h=>by
  unfold jf;rw[h a<|Fc ..,Res.bind_ok',rE λx hx=>h x (Fe _ hx)];rfl
theorem dJ{Z β:Type}{f:Z->Res β}{g:Z->β}{xs:`r}(hl:`i<=cap)(h:∀x∈xs,f x=.ok (g x)):eK xs f=.ok (xs.map g):=by
 unfold eK;rw[bE hl,Res.bind_ok',rE h]
end Mi
open Mi.Res renaming okE_bind->EE,bind_ok'->EG,ok->EJ,stuck->Jp
open Mi.Res.Ok renaming imp->FK
open Mi.Res.OkE renaming imp->Fn
namespace Wb
open PySem L2 Mi
variable{Er:Nat->Prop}
structure Wd where
 G:Hp
 H:Hp
 ok:Same G H
structure Ext(W W':Wd):Prop where
 g:Same W.G W'.G
 h:Same W.H W'.H
 k:∀p,W.H p≠`c->W'.G p=W.G p
theorem Ext.refl(W:Wd):Ext W W:=⟨`q,`q,`j⟩
theorem Ext.trans{W W1 W2:Wd}(a:Ext W W1)(b:Ext W1 W2):Ext W W2:=⟨a.g.trans b.g,a.h.trans b.h,λp hp=>by
 obtain⟨o,ho⟩:=IY.mp hp;rw[b.k p (by rw[a.h p o ho];exact λz=>nomatch z),a.k p hp]⟩
theorem Same.upd2{G H:Hp}(h:Same G H)(p:Addr)(o:HO):Same (cT G p o) (cT H p o):=λa u e=>by
 by_cases z:a=p;·subst z;rw[aG]at e ⊢;exact e
 ·rw[aJ z]at e ⊢;exact h _ _ e
def Wd.new(W:Wd)(p:Addr)(o:HO):Wd:=⟨cT W.G p o,cT W.H p o,Same.upd2 W.ok p o⟩
theorem Wd.gnone(W:Wd){p:Addr}(h:W.H p=`c):W.G p=`c:=none_of W.ok h
theorem Ext.new{W:Wd}{p:Addr}(o:HO)(h:W.H p=`c):Ext W (W.new p o):=⟨dH (W.gnone h),dH h,λq hq=>aJ λz=>hq<|z▸h⟩
def Wd.mut(W:Wd)(p:Addr)(o:HO)(h:W.G p=`c):Wd:=⟨W.G,cT W.H p o,t9 W.ok h⟩
theorem Ext.own{W:Wd}{p:Addr}(o:HO)(h:W.H p=`c):Ext W (W.mut p o<|W.gnone h):=⟨`q,dH h,`j⟩
def Wd.frz(W:Wd)(p:Addr)(o:HO)(h:0 (W.H p) o):Wd:=⟨cT W.G p o,W.H,λa u e=>by
 by_cases z:a=p;·subst z;rw[aG]at e;cases e;exact h
 ·rw[aJ z]at e;exact W.ok _ _ e⟩
theorem Ext.mut{W0 W:Wd}{p:Addr}{o:HO}(e:12 W)(hp:W0.H p=`c)(h:W.G p=`c):12 (W.mut p o h):=
 ⟨e.g,λa u z=>by show cT W.H p o a=_;rw[aJ (cV z hp)];exact e.h _ _ z,e.k⟩
theorem Ext.frz{W0 W:Wd}{p:Addr}{o:HO}(e:12 W)(hp:W0.H p=`c)(h:0 (W.H p) o)(hg:W.G p=`c):12 (W.frz p o h):=
 ⟨e.g.trans<|dH hg,e.h,λq hq=>by show cT W.G p o q=_;rw[aJ (λz=>hq (by rw[z];exact hp))];exact e.k q hq⟩
abbrev Rw(Z:Type):=Wd->Z->V->Prop
class MonoW{Z:Type}(R:Rw Z):Prop where
 mono:∀{W W':Wd}{a:Z}{v:V},Ext W W'->R W a v->R W' a v
def sh{Z:Type}(R:`k):Rw Z:=λW a v=>R W.G a v
instance zkeep8{Z:Type}{R:`k}[Mono R]:MonoW (sh R):=⟨λe h=>ED (R:=R) e.g h⟩
def pk{Z:Type}(R:`k):Rw `r:=λW xs v=>∃p vs,v=`E/\0 (W.H p) (.lst vs)/\LR R W.G xs vs
instance zkeep9{Z:Type}{R:`k}[Mono R]:MonoW (pk R):=⟨λe⟨p,vs,a,b,c⟩=>⟨p,vs,a,e.h _ _ b,c.same e.g⟩⟩
theorem pk.of{Z:Type}{R:`k}{W:Wd}{xs:`r}{v:V}(h:isL R W.G xs v):pk R W xs v:=by
 obtain⟨p,vs,a,b,c⟩:=h;exact⟨p,vs,a,W.ok _ _ b,c⟩
structure Ow{Z:Type}(R:`k)(W:Wd)(p:Addr)(xs:`r):Prop where
 g:W.G p=`c
 h:∃vs,0 (W.H p) (.lst vs)/\LR R W.G xs vs
theorem Ow.mono{Z:Type}{R:`k}[Mono R]{W W':Wd}{p:Addr}{xs:`r}(o:Ow R W p xs)(e:Ext W W'):Ow R W' p xs:=by
 obtain⟨vs,a,b⟩:=o.h;exact⟨by rw[e.k p (by rw[a];exact λz=>nomatch z)];exact o.g,vs,e.h _ _ a,b.same e.g⟩
theorem Ow.pk{Z:Type}{R:`k}{W:Wd}{p:Addr}{xs:`r}(o:Ow R W p xs):pk R W xs `E:=by
 obtain⟨vs,a,b⟩:=o.h;exact⟨p,vs,`a,a,b⟩
theorem Ow.frz{Z:Type}{R:`k}[Mono R]{W0 W:Wd}{p:Addr}{xs:`r}(o:Ow R W p xs)(e:12 W)(hp:W0.H p=`c):
  ∃W',W'.H=W.H/\12 W'/\Same W.G W'.G/\isL R W'.G xs `E/\∀q,q≠p->W'.G q=W.G q:=by
 obtain⟨vs,a,b⟩:=o.h;exact⟨W.frz p _ a,`a,e.frz hp a o.g,dH o.g,⟨p,vs,`a,aG,b.same<|dH o.g⟩,λq hq=>aJ hq⟩
theorem Ow.keep{Z:Type}{R:`k}[Mono R]{W W':Wd}{q:Addr}{xs:`r}(o:Ow R W q xs)(hH:W'.H q=W.H q)(hs:Same W.G W'.G)(hg:W'.G q=W.G q):Ow R W' q xs:=by
 obtain⟨vs,a,b⟩:=o.h;exact⟨by rw[hg];exact o.g,vs,by rw[hH];exact a,b.same hs⟩
def EV(Er:Nat->Prop){Z:Type}(t:TE)(M:St)(W:Wd)(R:Rw Z)(m:Res Z):Prop:=∀W1,Ext W W1->∀Q:VK,(m.OkE Er λa=>∀v W2,Ext W1 W2->R W2 a v->Q v W2.H)->t M W1.H Q
def EVo(Er:Nat->Prop){Z:Type}(t:TE)(M:St)(W:Wd)(R:`k)(m:11 Z):Prop:=∀W1,Ext W W1->∀Q:VK,(m.OkE Er λxs=>∀p W2,Ext W1 W2->W1.H p=`c->Ow R W2 p xs->Q `E W2.H)->t M W1.H Q
def TV(Er:Nat->Prop)(t:TT)(M:St)(W:Wd)(m:`x):Prop:=∀W1,Ext W W1->∀Q:Bool->Hp->Prop,(m.OkE Er λb=>∀W2,Ext W1 W2->Q b W2.H)->t M W1.H Q
section
variable{Z β γ:Type}{t ta tb:TE}{M:St}{W W0 W':Wd}{K:EL}
theorem EV.imp{R R':Rw Z}{m:Res Z}(h:EV Er t M W R m)(f:∀W a v,R W a v->R' W a v):EV Er t M W R' m:=λW1 e1 Q k=>h W1 e1 Q (k.imp λa ka v W2 e2 r=>ka v W2 e2<|f _ _ _ r)
theorem EVo.ev{R:`k}[Mono R]{m:11 Z}(h:EVo Er t M W R m):4 t (isL R) m:=λW1 e1 Q k=>h W1 e1 Q (k.imp λxs kx p W2 e2 hp o=>by
 obtain⟨W3,hH,e3,_,r,_⟩:=o.frz e2 hp;rw[<-hH];exact kx `E W3 e3 r)
theorem EVo.pk{R:`k}[Mono R]{m:11 Z}(h:EVo Er t M W R m):EV Er t M W (pk R) m:=λW1 e1 Q k=>h W1 e1 Q (k.imp λxs kx p W2 e2 hp o=>kx `E W2 e2 o.pk)
theorem EV.pk{R:`k}{m:11 Z}(h:4 t (isL R) m):EV Er t M W (pk R) m:=h.imp λ_ _ _ r=>pk.of r
theorem ia{R:Rw Z}[MonoW R]{i:Nat}{v:V}{a:Z}(r:R W a v)(h:0 M[i]? (some v):=by rfl):EV Er (bZ i) M W R (.ok a):=λW1 e1 Q k=>⟨v,h,k v W1 `q<|MonoW.mono e1 r⟩
theorem gL{R:`k}[Mono R]{i:Nat}{p:Addr}{a:`r}(r:Ow R W p a)(h:0 M[i]? (27 p):=by rfl):EV Er (bZ i) M W (pk R) (.ok a):=ia r.pk h
def isB:Rp Bool:=λ_ b v=>v=.bl b
instance zkeep10:Mono isB:=⟨λ_ h=>h⟩
def isO(R:`k):Rp (Option Z):=λH o v=>match o with|none=>v=.non|some a=>R H a v/\v≠.non
instance zkeep12{R:`k}[Mono R]:Mono (isO R):=⟨λ{H H' m v}e h=>by
 cases m with
 |none=>exact h
 |some a=>exact⟨ED e h.1,h.2⟩⟩
theorem ah{i:Int}:4 (tC<|.int i) isI (.ok i):=λW1 _ Q k=>k _ W1 `q `a
theorem aY{x:Str}{l:Tx}(h:x=aU l):4 (tC<|.str x) isS (.ok l):=λW1 _ Q k=>k _ W1 `q (by rw[h];rfl)
theorem fv{b:Bool}:4 (tC<|.bl b) isB (.ok b):=λW1 _ Q k=>k _ W1 `q `a
theorem iB{R:`k}:4 (tC .non) (isO R) (.ok `c):=λW1 _ Q k=>k _ W1 `q `a
theorem qc{r:R2}{Ra:Rw Z}[MonoW Ra]{Rb:Rw β}{R:Rw γ}{ma:Res Z}{mb:Res β}{f:Z->β->Res γ}(ha:EV Er ta M W Ra ma)(hb:EV Er tb M W Rb mb)
  (h:∀W a b x y Q,Ra W a x->Rb W b y->((f a b).OkE Er λc=>∀v W2,Ext W W2->R W2 c v->Q v W2.H)->r x y W.H Q):EV Er (dO r ta tb) M W R (36<|mb.bind λb=>f a b):=λW1 e1 Q k=>by
 refine ha W1 e1 _ (40 k ?_);refine hb W2 `D _ (5 ka λb kb y W3 e3 hy=>?_);exact h W3 a b x y Q (MonoW.mono e3 hx) hy (kb.imp λc kc v W4 e4 hv=>kc v W4 ((`L).trans e4) hv)
theorem DN{r:V->Hp->VK->Prop}{Ra:Rw Z}{R:Rw γ}{ma:Res Z}{f:Z->Res γ}(ha:EV Er ta M W Ra ma)
  (h:∀W a x Q,Ra W a x->((f a).OkE Er λc=>∀v W2,Ext W W2->R W2 c v->Q v W2.H)->r x W.H Q):EV Er (gG r ta) M W R (ma.bind f):=λW1 e1 Q k=>by
 refine ha W1 e1 _ (40 k ?_);exact h W2 a x Q hx (ka.imp λc kc v W4 e4 hv=>kc v W4 (e2.trans e4) hv)
section
variable{ma mb:`C}
theorem aK{g:Int->Int->Int}(ha:4 ta isI ma)(hb:4 tb isI mb):4 (dO (gb λi j=>.int<|g i j) ta tb) isI (36<|mb.bind λb=>.ok<|g a b):=
 qc ha hb λW a b x y Q hx hy k=>by cases hx;cases hy;exact⟨a,b,`a,`a,k _ W `q `a⟩
theorem vc{C:8 Int Int}{g:Int->Int->Int}{f:Int->Int->`C}(hf:∀a b P,(f a b).OkE Er P->C a b/\P (g a b))(ha:4 ta isI ma)(hb:4 tb isI mb):
  4 (dO (rI C λi j=>.int<|g i j) ta tb) isI (36<|mb.bind λb=>f a b):=
 qc ha hb λW a b x y Q hx hy k=>by cases hx;cases hy;exact⟨a,b,`a,`a,(hf a b _ k).1,(hf a b _ k).2 _ W `q `a⟩
theorem jH(ha:4 ta isI ma)(hb:4 tb isI mb):4 (dO (rI CMul λi j=>.int<|i*j) ta tb) isI (36<|mb.bind λb=>ko a b):=vc (λa b P h=>by unfold ko at h;obtain⟨h1,h2⟩:=ba h;exact⟨h1,h2⟩) ha hb
theorem rF(ha:4 ta isI ma)(hb:4 tb isI mb):4 (dO (rI Bw λi j=>.int<|i/j) ta tb) isI (36<|mb.bind λb=>l4 a b):=vc (λa b P h=>by unfold l4 at h;obtain⟨h1,h2⟩:=ba h;exact⟨h1,h2⟩) ha hb
theorem fE(ha:4 ta isI ma)(hb:4 tb isI mb):4 (dO (rI (λ_ j=>0<j) λi j=>.int<|i%j) ta tb) isI (36<|mb.bind λb=>gY a b):=vc (λa b P h=>by unfold gY at h;obtain⟨h1,h2⟩:=ba h;exact⟨h1,h2⟩) ha hb
theorem ak{C:8 Int Int}{g:Int->Int->Int}{n:Int}(hn:∀a,C a n)(ha:4 ta isI ma):4 (dO (rI C λi j=>.int<|g i j) ta<|tC<|.int n) isI (36<|.ok<|g a n):=
 41 W1 e1 _ (40 k<|by cases hx;exact⟨a,n,`a,`a,hn a,ka _ W2 e2 `a⟩)
end
end
section
variable{Z β γ δ:Type}{t ta tb tc:TE}{M:St}{W W0 W':Wd}{K:EL}
theorem qr{n:Nat}(h:n<=cap):n<=sizeLine:=by rw[FE];unfold cap at h;omega
section
variable{ma mb:`C}
theorem gM(ha:4 ta isI ma):4 (gG (rU λi=>.int<|-i) ta) isI (ma.bind λa=>.ok<|-a):=
 DN ha λW a x Q hx k=>by cases hx;exact⟨a,`a,k _ W `q `a⟩
theorem bW{g:Int->Int->Bool}(ha:4 ta isI ma)(hb:4 tb isI mb):4 (dO (gb λi j=>.bl<|g i j) ta tb) isB (36<|mb.bind λb=>.ok<|g a b):=
 qc ha hb λW a b x y Q hx hy k=>by cases hx;cases hy;exact⟨a,b,`a,`a,k _ W `q `a⟩
end
theorem dI{a b:Int}:decide (Im a=Im b)=decide (a=b):=by rw[Ga];simp
theorem dS{a b:Tx}:decide (Jo (aU a)=Jo (aU b))=decide (a=b):=by
 rw[Ga,decide_eq_true_eq,decide_eq_true_eq];exact⟨λh=>rq<|Jo.inj h,λh=>by rw[h]⟩
theorem bD{ma mb:`C}(ha:4 ta isI ma)(hb:4 tb isI mb):4 (dO gS ta tb) isB (ma.bind λa=>mb.bind λb=>.ok<|decide<|a=b):=
 qc ha hb λW a b x y Q hx hy k=>by cases hx;cases hy;exact⟨`a,by rw[dI];exact k _ W `q `a⟩
theorem gN{ma mb:`J}(ha:4 ta isS ma)(hb:4 tb isS mb):4 (dO gS ta tb) isB (ma.bind λa=>mb.bind λb=>.ok<|decide<|a=b):=
 qc ha hb λW a b x y Q hx hy k=>by cases hx;cases hy;exact⟨`a,by rw[dS];exact k _ W `q `a⟩
theorem Aj{ma mb:`C}(ha:4 ta isI ma)(hb:4 tb isI mb):4 (dO gT ta tb) isB (ma.bind λa=>mb.bind λb=>.ok<|!decide (a=b)):=
 qc ha hb λW a b x y Q hx hy k=>by cases hx;cases hy;exact⟨`a,by rw[dI];exact k _ W `q `a⟩
theorem ja{ma mb:`J}(ha:4 ta isS ma)(hb:4 tb isS mb):4 (dO gT ta tb) isB (ma.bind λa=>mb.bind λb=>.ok<|!decide (a=b)):=
 qc ha hb λW a b x y Q hx hy k=>by cases hx;cases hy;exact⟨`a,by rw[dS];exact k _ W `q `a⟩
theorem l5{R:`k}{ma:Res (Option Z)}(ha:4 ta (isO R) ma):4 (dO (λx y H Q=>y=.non/\Q (.bl<|decide<|x=.non) H) ta<|tC .non) isB (36<|.ok a.isNone):=41 W1 e1 _ (40 k ⟨rfl,by
  have e:decide (x=V.non)=a.isNone:=by
   cases a with
   |none=>cases hx;rfl
   |some b=>rw[decide_eq_false hx.2];rfl
  rw[e];exact ka _ W2 e2 `a⟩)
theorem rG{R:`k}{ma:Res (Option Z)}(ha:4 ta (isO R) ma):4 (dO (λx y H Q=>y=.non/\Q (.bl<|!decide (x=.non)) H) ta<|tC .non) isB (36<|.ok a.isSome):=41 W1 e1 _ (40 k ⟨rfl,by
  have e:(!decide (x=V.non))=a.isSome:=by
   cases a with
   |none=>cases hx;rfl
   |some b=>rw[decide_eq_false hx.2];rfl
  rw[e];exact ka _ W2 e2 `a⟩)
theorem aq{m:`x}(h:4 t isB m):TV Er (bU t) M W m:=λW1 e1 Q k=>h W1 e1 _ (k.imp λb kb v W2 e2 hv=>⟨b,hv,kb W2 e2⟩)
theorem l6{m:`x}(h:4 t isB m):TV Er (tB t) M W m:=λW1 e1 Q k=>h W1 e1 _ (k.imp λb kb v W2 e2 hv=>⟨b,hv,kb W2 e2⟩)
theorem nG{t:TT}{m:`x}(h:TV Er t M W m):TV Er (dv t) M W (m.bind λb=>.ok<|!b):=λW1 e1 Q k=>h W1 e1 _ (5 k λb kb W2 e2=>kb W2 e2)
theorem cQ{t u:TT}{m n:`x}(h:TV Er t M W m)(g:TV Er u M W n):TV Er (du t u) M W (m.bind λb=>if b then n else .ok `g):=λW1 e1 Q k=>h W1 e1 _ (5 k λb kb W2 e2=>by
 cases b with
 |true=>exact g W2 `D _ (kb.imp λc kc W3 e3=>kc W3 `L)
 |false=>exact kb W2 e2)
theorem mJ{t u:TT}{m n:`x}(h:TV Er t M W m)(g:TV Er u M W n):TV Er (gX t u) M W (m.bind λb=>if b then .ok true else n):=λW1 e1 Q k=>h W1 e1 _ (5 k λb kb W2 e2=>by
 cases b with
 |true=>exact kb W2 e2
 |false=>exact g W2 `D _ (kb.imp λc kc W3 e3=>kc W3 `L))
theorem jI{m n:`x}(h:4 ta isB m)(g:4 tb isB n):4 (bT ta tb) isB (m.bind λb=>if b then n else .ok `g):=λW1 e1 Q k=>h W1 e1 _ (5 k λb kb v W2 e2 hv=>⟨b,hv,by
 cases b with
 |true=>exact g W2 `D _ (kb.imp λc kc v W3 e3 hv=>kc v W3 `L hv)
 |false=>exact kb _ W2 e2 `a⟩)
theorem BM{m n:`x}(h:4 ta isB m)(g:4 tb isB n):4 (dw ta tb) isB (m.bind λb=>if b then .ok true else n):=λW1 e1 Q k=>h W1 e1 _ (5 k λb kb v W2 e2 hv=>⟨b,hv,by
 cases b with
 |true=>exact kb _ W2 e2 `a
 |false=>exact g W2 `D _ (kb.imp λc kc v W3 e3 hv=>kc v W3 `L hv)⟩)
theorem oZ{R:Rw Z}{c:TT}{mc:`x}{m n:Res Z}(hc:TV Er c M W mc)(h:EV Er ta M W R m)(g:EV Er tb M W R n):EV Er (gR c ta tb) M W R (mc.bind λb=>if b then m else n):=λW1 e1 Q k=>hc W1 e1 _ (5 k λb kb W2 e2=>by
 cases b with
 |true=>exact h W2 `D _ (kb.imp λc kc v W3 e3 hv=>kc v W3 `L hv)
 |false=>exact g W2 `D _ (kb.imp λc kc v W3 e3 hv=>kc v W3 `L hv))
theorem bB{ma mb:`J}(ha:4 ta isS ma)(hb:4 tb isS mb):4 (dO (λx y H Q=>∃i j,x=.str i/\y=.str j/\i.length+j.length<=sizeLine/\Q (.str<|i++j) H) ta tb) isS (36<|mb.bind λb=>cY a b):=
 qc ha hb λW a b x y Q hx hy k=>by
  cases hx;cases hy;obtain⟨h1,h2⟩:=ba k;exact⟨_,_,rfl,rfl,by rw[dP,dP];exact qr h1,by rw[kT];exact h2 _ W `q `a⟩
theorem xY{ma:`J}{mb:`C}(ha:4 ta isS ma)(hb:4 tb isI mb):4 (dO (λx y H Q=>∃c n,x=.str (aU [c])/\y=.int n/\0<=n/\n<=100000/\Q (.str<|aU<|Hu n.toNat c) H) ta tb) isS (36<|mb.bind λb=>Ah a b):=
 qc ha hb λW a b x y Q hx hy k=>by
  cases hx;cases hy
  match a,k with
  | [c],k=>
   obtain⟨h1,h2⟩:=ba k;exact⟨c,b,`a,`a,h1.1,h1.2,h2 _ W `q `a⟩
theorem cu{ma:`J}{mb:`C}(ha:4 ta isS ma)(hb:4 tb isI mb):4 (dO dA ta tb) isS (36<|mb.bind λb=>gc a b):=
 qc ha hb λW a b x y Q hx hy k=>by
  cases hx;cases hy;obtain⟨h1,h2⟩:=ba (EE k);obtain⟨c,h3,h4⟩:=dR (EE h2);exact⟨_,b,c,rfl,rfl,by rw[dP];exact qr h1,by rw[nv];exact h3,h4 _ W `q `a⟩
theorem BN{R:Rw Z}{r:V->`w->`w->Hp->VK->Prop}{Ra:Rw β}[MonoW Ra]{ma:Res β}{tl th:TO}{ml mh:Res `w}{f:β->`w->`w->Res Z}(ha:EV Er ta M W Ra ma)
  (hl:∀W1,Ext W W1->∀Q:Option Int->Hp->Prop,(ml.OkE Er λo=>∀W2,Ext W1 W2->Q o W2.H)->tl M W1.H Q) (hh:∀W1,Ext W W1->∀Q:Option Int->Hp->Prop,(mh.OkE Er λo=>∀W2,Ext W1 W2->Q o W2.H)->th M W1.H Q)
  (h:∀W a x lo hi Q,Ra W a x->((f a lo hi).OkE Er λc=>∀v W2,Ext W W2->R W2 c v->Q v W2.H)->r x lo hi W.H Q):EV Er (gH r ta tl th) M W R (36<|ml.bind λlo=>mh.bind λhi=>f a lo hi):=41 W1 e1 _ (40 k<|hl W2 `D _<|5 ka λlo kl W3 e3=>hh W3 ((`D).trans e3) _<|5 kl λhi kh W4 e4=>h W4 a x lo hi Q (MonoW.mono (e3.trans e4) hx)<|kh.imp λc kc v W5 e5 hv=>kc v W5 (38 `L e4 e5) hv)
theorem eM:∀W1,Ext W W1->∀Q:Option Int->Hp->Prop,((EJ (none:`w)).OkE Er λo=>∀W2,Ext W1 W2->Q o W2.H)->aW M W1.H Q:=λW1 _ Q k=>k W1 `q
theorem cU{m:`C}(h:4 t isI m):∀W1,Ext W W1->∀Q:Option Int->Hp->Prop,((m.bind λi=>.ok<|some i).OkE Er λo=>∀W2,Ext W1 W2->Q o W2.H)->bR t M W1.H Q:=λW1 e1 Q k=>h W1 e1 _ (5 k λi ki v W2 e2 hv=>⟨i,hv,ki W2 e2⟩)
theorem cb{ma:`J}{tl th:TO}{ml mh:Res `w}(ha:4 ta isS ma)
  (hl:∀W1,Ext W W1->∀Q:Option Int->Hp->Prop,(ml.OkE Er λo=>∀W2,Ext W1 W2->Q o W2.H)->tl M W1.H Q) (hh:∀W1,Ext W W1->∀Q:Option Int->Hp->Prop,(mh.OkE Er λo=>∀W2,Ext W1 W2->Q o W2.H)->th M W1.H Q):
  4 (gH (λx lo hi H Q=>∃l,x=.str (aU l)/\l.length<=sizeLine/\Q (.str<|aU<|kg l lo hi) H) ta tl th) isS (36<|ml.bind λlo=>mh.bind λhi=>fu a lo hi):=
 BN ha hl hh λW a x lo hi Q hx k=>by
  cases hx;obtain⟨h1,h2⟩:=ba k;exact⟨a,`a,qr h1,h2 _ W `q `a⟩
theorem BO(x:Tx)(c j:Nat)(h:0 (uZ x c) j):Kl (aU x) (aU [c])=(j:Int):=by
 unfold uZ at h;rw[List.findIdx?_eq_some_iff_getElem]at h;obtain⟨hj,h1,h2⟩:=h;have hat:∀i,StrLaws.At (aU x) (aU [c]) (aU x).length i↔0 x[i]? c:=λi=>by
  have:=StrLaws.subAt_one (aU x) c i;rw[nv]at this;exact this
 unfold Kl;rcases StrLaws.occ_head (aU x) (aU [c]) 1 (EX _)with⟨_,hn⟩|⟨i,r,e,hi,hk⟩
 ·exact absurd ((hat j).mpr (by rw[EH hj];simpa using h1)) (hn j)
 ·rw[e];have e2:=(hat i).mp hi;obtain⟨hil,e3⟩:=ER.mp e2;have:i=j:=by
   rcases Nat.lt_trichotomy i j with z|z|z;·exact absurd e3 (by simpa using h2 i z)
   ·exact z
   ·exact absurd ((hat j).mpr (by rw[EH hj];simpa using h1)) (hk j z)
  rw[this]
theorem jh{ma mb:`J}{K:EL}(ha:4 ta isS ma)(hb:4 tb isS mb):4 (fS K "str" (λx xs H Q=>∃a b,x=.str a/\xs=[.str b]/\0<=Kl a b/\Q (.int<|Kl a b) H) ta<|ax tb bc) isI (36<|mb.bind λb=>ku a b):=41 W1 e1 _ (40 k<|by
  cases hx;refine⟨`a,hb W2 `D _<|5 ka λb kb y W3 e3 hy=>?_⟩;cases hy
  match b,kb with
  | [c],kb=>
   obtain⟨j,h1,h2⟩:=dR (EE kb);have e:=BO a c j h1;exact⟨_,_,rfl,rfl,by rw[e];omega,by rw[e];exact h2 _ W3 `L `a⟩)
theorem Ak{ma mb:`J}(ha:4 ta isS ma)(hb:4 tb isS mb):4 (dO (λx y H Q=>∃i j,x=.str i/\y=.str j/\Q (.bl<|!(Jm j i 0 j.length 1).isEmpty) H) ta tb) isB (36<|mb.bind λb=>DD a b):=
 qc ha hb λW a b x y Q hx hy k=>by
  cases hx;cases hy
  match a,k with
  | [c],k=>
   refine⟨_,_,`a,`a,?_⟩;have e:(!(Jm (aU b) (aU [c]) 0 (aU b).length 1).isEmpty)=b.contains c:=by
    have:=StrLaws.found_one (aU b) c;rw[nv]at this;rw[this,Ga];simp
   rw[e];exact k _ W `q `a
theorem Same.tup{H H':Hp}{a:Addr}{xs:`u}(e:Same H H')(h:SqT K H a xs):SqT K H' a xs:=by
 rcases h with(h|⟨o,h⟩)|h;·exact .inl (.inl<|e _ _ h)
 ·exact .inl (.inr ⟨o,e _ _ h⟩)
 ·exact .inr h
def isT2(K:EL)(R1:`k)(R2:Rp β):Rp (Z×β):=λH a v=>∃p x y,v=`E/\SqT K H p [x,y]/\R1 H a.1 x/\R2 H a.2 y
def isT3(K:EL)(R1:`k)(R2:Rp β)(R3:Rp γ):Rp (Z×β×γ):=λH a v=>∃p x y z,v=`E/\SqT K H p [x,y,z]/\R1 H a.1 x/\R2 H a.2.1 y/\R3 H a.2.2 z
instance zkeep14{R1:`k}{R2:Rp β}[Mono R1][Mono R2]:Mono (isT2 K R1 R2):=⟨λe⟨p,x,y,h0,h,h1,h2⟩=>⟨p,x,y,h0,Same.tup e h,ED e h1,ED e h2⟩⟩
instance zkeep15{R1:`k}{R2:Rp β}{R3:Rp γ}[Mono R1][Mono R2][Mono R3]:Mono (isT3 K R1 R2 R3):=⟨λe⟨p,x,y,z,h0,h,h1,h2,h3⟩=>⟨p,x,y,z,h0,Same.tup e h,ED e h1,ED e h2,ED e h3⟩⟩
theorem fk{R1:`k}{R2:Rp β}[Mono R1][Mono R2]{ma:Res Z}{mb:Res β}(ha:4 ta R1 ma)(hb:4 tb R2 mb):4 (d9<|ax ta<|ax tb bc) (isT2 K R1 R2) (36<|mb.bind λb=>.ok (a,b)):=41 W1 e1 _ (40 k<|hb W2 `D _<|5 ka λb kb y W3 e3 hy=>⟨(by show 2<=sizeLine;decide),λp hp=>kb `E (W3.new p<|.tup [x,y]) ((`L).trans<|.new _ hp) ⟨p,x,y,`a,Na aG,ED (Ext.new _ hp).g<|ED (R:=R1) e3.g hx,ED (R:=R2) (Ext.new _ hp).g hy⟩⟩)
theorem cZ{R1:`k}{R2:Rp β}{R3:Rp γ}[Mono R1][Mono R2][Mono R3]{ma:Res Z}{mb:Res β}{mc:Res γ}(ha:4 ta R1 ma)(hb:4 tb R2 mb)(hc:4 tc R3 mc):
  4 (d9<|ax ta<|ax tb<|ax tc bc) (isT3 K R1 R2 R3) (36<|mb.bind λb=>mc.bind λc=>.ok (a,b,c)):=41 W1 e1 _ (40 k<|hb W2 `D _<|5 ka λb kb y W3 e3 hy=>hc W3 ((`D).trans e3) _<|5 kb λc kc z W4 e4 hz=>⟨(by show 3<=sizeLine;decide),λp hp=>kc `E (W4.new p<|.tup [x,y,z]) (38 `L e4<|.new _ hp) ⟨p,x,y,z,`a,Na aG,ED (Ext.new _ hp).g<|ED (R:=R1) (e3.trans e4).g hx,ED (R:=R2) (Ext.new _ hp).g<|ED (R:=R2) e4.g hy,ED (R:=R3) (Ext.new _ hp).g hz⟩⟩)
theorem bj{R:`k}{Rt:Rp β}{m:Res β}{i:Int}{f:β->Z}(h:∀H b v,Rt H b v->∃p xs x,v=`E/\SqT K H p xs/\0 (L2.atI xs i) x/\R H (f b) x)(ha:4 ta Rt m):4 (dO (de K) ta<|tC<|.int i) R (m.bind λb=>.ok<|f b):=41 W1 e1 _ (5 k λb kb v W2 e2 hv=>by
  obtain⟨p,xs,x,h1,h2,h3,h4⟩:=h _ _ _ hv;exact⟨p,xs,i,x,h1,`a,Same.tup W2.ok h2,h3,kb _ W2 e2 h4⟩)
theorem Al{R1:`k}{R2:Rp β}:∀H b v,isT2 K R1 R2 H b v->∃p xs x,v=`E/\SqT K H p xs/\0 (L2.atI xs 0) x/\R1 H b.1 x:=λ_ _ _⟨p,x,y,h0,h,h1,h2⟩=>⟨p,_,x,h0,h,`a,h1⟩
theorem xZ{R1:`k}{R2:Rp β}:∀H b v,isT2 K R1 R2 H b v->∃p xs x,v=`E/\SqT K H p xs/\0 (L2.atI xs 1) x/\R2 H b.2 x:=λ_ _ _⟨p,x,y,h0,h,h1,h2⟩=>⟨p,_,y,h0,h,`a,h2⟩
theorem lY{R1:`k}{R2:Rp β}{R3:Rp γ}:∀H b v,isT3 K R1 R2 R3 H b v->∃p xs x,v=`E/\SqT K H p xs/\0 (L2.atI xs 0) x/\R1 H b.1 x:=λ_ _ _⟨p,x,y,z,h0,h,h1,h2,h3⟩=>⟨p,_,x,h0,h,`a,h1⟩
theorem kA{R1:`k}{R2:Rp β}{R3:Rp γ}:∀H b v,isT3 K R1 R2 R3 H b v->∃p xs x,v=`E/\SqT K H p xs/\0 (L2.atI xs 1) x/\R2 H b.2.1 x:=λ_ _ _⟨p,x,y,z,h0,h,h1,h2,h3⟩=>⟨p,_,y,h0,h,`a,h2⟩
theorem kB{R1:`k}{R2:Rp β}{R3:Rp γ}:∀H b v,isT3 K R1 R2 R3 H b v->∃p xs x,v=`E/\SqT K H p xs/\0 (L2.atI xs 2) x/\R3 H b.2.2 x:=λ_ _ _⟨p,x,y,z,h0,h,h1,h2,h3⟩=>⟨p,_,z,h0,h,`a,h3⟩
theorem rH{R:`k}{H:Hp}{as:`r}{xs:`u}(h:LR R H as xs){i:Int}{a:Z}(e:0 (rB as i) a):∃x,0 (L2.atI xs i) x/\R H a x:=by
 unfold rB at e;unfold L2.atI;rw[h.1];cases z:Mi.ixN as.length i with
 |none=>rw[z]at e;cases e
 |some j=>
  rw[z]at e;obtain⟨x,h1,h2⟩:=h.get (i:=j) e;exact⟨x,by show(L2.ixN as.length i).bind _=_;rw[show L2.ixN as.length i=Mi.ixN as.length i from rfl,z];exact h1,h2⟩
theorem LR.three{R:`k}{H:Hp}{a b c:Z}{x y z:V}(h1:R H a x)(h2:R H b y)(h3:R H c z):LR R H [a,b,c] [x,y,z]:=⟨rfl,λi v m e1 e2=>by
 match i,e1,e2 with
 |0,e1,e2=>cases e1;cases e2;exact h1
 |1,e1,e2=>cases e1;cases e2;exact h2
 |2,e1,e2=>cases e1;cases e2;exact h3⟩
theorem bw{R:`k}[Mono R]{ma:11 Z}{mb:`C}(ha:EV Er ta M W (pk R) ma)(hb:4 tb isI mb):4 (dO (cP K) ta tb) R (36<|mb.bind λb=>dG a b):=
 qc ha hb λW a b x y Q hx hy k=>by
  cases hy;obtain⟨p,vs,rfl,h,h1⟩:=hx;obtain⟨c,h4,h5⟩:=dR k;obtain⟨z,h6,h7⟩:=rH h1 h4;exact⟨p,_,b,z,`a,`a,GD h,h6,h5 _ W `q h7⟩
theorem gO{R:`k}:EVo Er (cM bc) M W R (.ok []):=λW1 e1 Q k=>⟨`M,λp hp=>k p (W1.mut p (.lst [])<|W1.gnone hp) (.own _ hp) hp ⟨W1.gnone hp,[],aG,.nil⟩⟩
def AV(Er:Nat->Prop)(t:TA)(M:St)(W:Wd)(R:`k)(n:Nat)(m:11 Z):Prop:=∀W1,Ext W W1->∀Q:List V->Hp->Prop,(m.OkE Er λas=>∀vs W2,Ext W1 W2->`O=n->LR R W2.G as vs->Q vs W2.H)->t M W1.H Q
theorem dX{R:`k}:AV Er bc M W R 0 (.ok []):=λW1 _ Q k=>k [] W1 `q `a .nil
theorem LR.cons{R:`k}{H:Hp}{a:Z}{v:V}{as:`r}{vs:`u}(h:R H a v)(r:LR R H as vs):LR R H (a::as) (v::vs):=⟨by simp[r.1],λi x m e1 e2=>by
 cases i with
 |zero=>cases e1;cases e2;exact h
 |succ j=>exact r.2 j x m e1 e2⟩
theorem aN{R:`k}[Mono R]{n:Nat}{ts:TA}{m:Res Z}{ms:11 Z}(h:4 t R m)(g:AV Er ts M W R n ms):AV Er (ax t ts) M W R (n+1) (m.bind λa=>ms.bind λas=>.ok<|a::as):=λW1 e1 Q k=>h W1 e1 _ (45 k<|g W2 `D _<|5 ka λas kas vs W3 e3 hn hvs=>kas (v::vs) W3 `L (by simp[hn])<|.cons (ED (R:=R) e3.g hv) hvs)
theorem dY{R:`k}[Mono R]{n:Nat}{ts:TA}{ms:11 Z}(g:AV Er ts M W R n ms)(hn:n<=cap:=by decide):EVo Er (cM ts) M W R ms:=λW1 e1 Q k=>g W1 e1 _ (k.imp λas ka vs W2 e2 hv hvs=>⟨by rw[hv];exact qr hn,λp hp=>ka p (W2.mut p (.lst vs)<|W2.gnone hp) (e2.trans<|.own _ hp) (none_of e2.h hp) ⟨W2.gnone hp,vs,aG,hvs⟩⟩)
theorem nH{R:`k}[Mono R]{ma mb:11 Z}(ha:EV Er ta M W (pk R) ma)(hb:EV Er tb M W (pk R) mb):EVo Er (dO dB ta tb) M W R (36<|mb.bind λb=>tx a b):=41 W1 e1 _ (40 k<|hb W2 `D _ (5 ka λb kb y W3 e3 hy=>by
  obtain⟨p,vs,rfl,h1,h2⟩:=MonoW.mono e3 hx;obtain⟨q,us,rfl,h3,h4⟩:=hy;obtain⟨h5,h6⟩:=ba kb;refine⟨p,q,vs,us,rfl,rfl,h1,h3,by rw[h2.1,h4.1];exact qr h5,λr hr=>h6 r (W3.mut r (.lst<|vs++us)<|W3.gnone hr) ((`L).trans<|.own _ hr) (none_of (`L).h hr) ⟨W3.gnone hr,_,aG,?_⟩⟩;exact⟨by rw[FJ,FJ,h2.1,h4.1],λi v m q1 q2=>by
   by_cases hi:i<`O
   ·rw[F7 hi]at q1;rw[F7 (by rw[<-h2.1];exact hi)]at q2;exact h2.2 i v m q1 q2
   ·rw[F9 `b]at q1;rw[F9 (by rw[<-h2.1];omega)]at q2;rw[<-h2.1]at q2;exact h4.2 _ v m q1 q2⟩))
theorem LR.cut{R:`k}{H:Hp}{as:`r}{vs:`u}(h:LR R H as vs)(lo hi:`w):LR R H (Mi.cut as lo hi) (qj vs lo hi):=by
 unfold Mi.cut qj;rw[h.1];exact(h.drop _).take _
theorem rJ{R:`k}[Mono R]{ma:11 Z}{tl th:TO}{ml mh:Res `w}(ha:EV Er ta M W (pk R) ma)
  (hl:∀W1,Ext W W1->∀Q:Option Int->Hp->Prop,(ml.OkE Er λo=>∀W2,Ext W1 W2->Q o W2.H)->tl M W1.H Q) (hh:∀W1,Ext W W1->∀Q:Option Int->Hp->Prop,(mh.OkE Er λo=>∀W2,Ext W1 W2->Q o W2.H)->th M W1.H Q):
  EVo Er (gH (df K) ta tl th) M W R (36<|ml.bind λlo=>mh.bind λhi=>.ok<|Mi.cut a lo hi):=41 W1 e1 _ (40 k<|hl W2 `D _<|5 ka λlo kl W3 e3=>hh W3 ((`D).trans e3) _ (5 kl λhi kh W4 e4=>by
  obtain⟨p,vs,rfl,h1,h2⟩:=MonoW.mono (e3.trans e4) hx;have e5:=(`L).trans e4;exact⟨p,vs,`a,GD h1,λr hr=>kh r (W4.mut r (.lst<|qj vs lo hi)<|W4.gnone hr) (e5.trans<|.own _ hr) (none_of e5.h hr) ⟨W4.gnone hr,_,aG,h2.cut lo hi⟩⟩))
theorem l7{ma:`C}(ha:4 ta isI ma):4 (ff (λxs H Q=>∃i,xs=[.int i]/\Q (.int (if i<0 then -i else i)) H)<|ax ta bc) isI (36<|.ok<|cy a):=41 W1 e1 _ (40 k<|by cases hx;exact⟨a,`a,ka _ W2 e2 `a⟩)
theorem cC{R:`k}{ma:11 Z}(ha:EV Er ta M W (pk R) ma):4 (ff (λxs H Q=>∃x n,xs=[x]/\oK K x H n/\Q (.int n) H)<|ax ta bc) isI (36<|.ok (a.length:Int)):=41 W1 e1 _ (40 k<|by
  obtain⟨p,vs,rfl,h1,h2⟩:=hx;exact⟨_,a.length,`a,.inl ⟨vs,GD h1,h2.1.symm⟩,ka _ W2 e2 `a⟩)
theorem iC{ma:`J}(ha:4 ta isS ma):4 (ff (λxs H Q=>∃x n,xs=[x]/\oK K x H n/\Q (.int n) H)<|ax ta bc) isI (36<|oX a):=41 W1 e1 _ (40 k<|by
  cases hx;obtain⟨h1,h2⟩:=ba ka;exact⟨_,a.length,`a,⟨by rw[dP];exact qr h1,by rw[dP]⟩,h2 _ W2 e2 `a⟩)
theorem nI{ma:11 Tx}{x:Str}(hx:x=aU [])(ha:EV Er ta M W (pk isS) ma):4 (fS K "str" (λx xs H Q=>∃(p:Addr)(ys:List (List Nat)),x=.str (aU [])/\xs=[.ref p]/\SqL K H p (ys.map λy=>Jo<|aU y)/\ys.flatten.length<=100000/\Q (.str<|aU ys.flatten) H) (tC<|.str x)<|ax ta bc) isS (36<|oY a):=λW1 e1 Q k=>⟨by show Cq K "str" (.str x) W1.H;rfl,ha W1 e1 _ (45 k<|by
  obtain⟨p,vs,rfl,h1,h2⟩:=hv;obtain⟨h3,h4⟩:=ba ka;exact⟨p,a,by rw[hx],`a,GD<|by rw[h1,h2.str],h3,h4 _ W2 e2 `a⟩)⟩
end
abbrev Rt(β:Type):=Wd->β->VK->Prop
def rs{β:Type}(R:Rp β):Rt β:=λW r Q=>∀u W',Ext W W'->R W'.G r u->Q u W'.H
def ro{β:Type}(R:Rp β):Rt (List β):=λW r Q=>∀p W',Ext W W'->W.H p=`c->Ow R W' p r->Q `E W'.H
section
variable{Z β γ δ ε ζ:Type}
def eH(R1:`k)(rt:Rt β)(m:Z->Res β):Sp:=λvs H Q _=>∃(W:Wd)(a:Z)(v:V),W.H=H/\vs=[v]/\R1 W.G a v/\∃Er:Nat->Prop,(m a).OkE Er λr=>rt W r Q
def bI(R1:`k)(R2:Rp γ)(rt:Rt β)(m:Z->γ->Res β):Sp:=λvs H Q _=>∃(W:Wd)(a:Z)(b:γ)(v u:V),W.H=H/\vs=[v,u]/\R1 W.G a v/\R2 W.G b u/\∃Er:Nat->Prop,(m a b).OkE Er λr=>rt W r Q
def ef(R1:`k)(R2:Rp γ)(R3:Rp δ)(rt:Rt β)(m:Z->γ->δ->Res β):Sp:=λvs H Q _=>∃(W:Wd)(a:Z)(b:γ)(c:δ)(v u w:V),W.H=H/\vs=[v,u,w]/\R1 W.G a v/\R2 W.G b u/\R3 W.G c w/\∃Er:Nat->Prop,(m a b c).OkE Er λr=>rt W r Q
def fH(R1:`k)(R2:Rp γ)(R3:Rp δ)(R4:Rp ε)(rt:Rt β)(m:Z->γ->δ->ε->Res β):Sp:=λvs H Q _=>∃(W:Wd)(a:Z)(b:γ)(c:δ)(d:ε)(v u w x:V),W.H=H/\vs=[v,u,w,x]/\R1 W.G a v/\R2 W.G b u/\R3 W.G c w/\R4 W.G d x/\∃Er:Nat->Prop,(m a b c d).OkE Er λr=>rt W r Q
def fw(R1:`k)(R2:Rp γ)(R3:Rp δ)(R4:Rp ε)(R5:Rp ζ)(rt:Rt β)(m:Z->γ->δ->ε->ζ->Res β):Sp:=λvs H Q _=>∃(W:Wd)(a:Z)(b:γ)(c:δ)(d:ε)(e:ζ)(v u w x y:V),W.H=H/\vs=[v,u,w,x,y]/\R1 W.G a v/\R2 W.G b u/\R3 W.G c w/\R4 W.G d x/\R5 W.G e y/\∃Er:Nat->Prop,(m a b c d e).OkE Er λr=>rt W r Q
variable{t t1 t2 t3 t4 t5:TE}{M:St}{W W0 W':Wd}{K:EL}
section
variable{R1:`k}{R2:Rp γ}{R3:Rp δ}{R4:Rp ε}{R5:Rp ζ}[Mono R1][Mono R2][Mono R3][Mono R4][Mono R5]{m1:Res Z}{m2:Res γ}{m3:Res δ}{m4:Res ε}{m5:Res ζ}{E:XK}
theorem dh{R:Rp β}{m:Z->Res β}(h1:4 t1 R1 m1):4 (bu (eH R1 (rs R) m) [] E<|ax t1 bc) R (m1.bind λa=>m a):=λW1 e1 Q k=>h1 W1 e1 _ (45 k ⟨W2,a,v,`a,`a,hv,Er,ka.imp λr kr u W' e hu=>kr u W' (e2.trans e) hu⟩)
theorem bo{R:Rp β}{m:Z->γ->Res β}(h1:4 t1 R1 m1)(h2:4 t2 R2 m2):4 (bu (bI R1 R2 (rs R) m) [] E<|ax t1<|ax t2 bc) R (m1.bind λa=>m2.bind λb=>m a b):=λW1 e1 Q k=>h1 W1 e1 _ (45 k<|h2 W2 `D _<|5 ka λb kb u W3 e3 hu=>⟨W3,a,b,v,u,`a,`a,MonoW.mono (R:=sh R1) e3 hv,hu,Er,kb.imp λr kr u W' e hu=>kr u W' ((`L).trans e) hu⟩)
theorem jJ{R:Rp β}{m:Z->γ->11 β}(h1:4 t1 R1 m1)(h2:4 t2 R2 m2):EVo Er (bu (bI R1 R2 (ro R) m) [] E<|ax t1<|ax t2 bc) M W R (m1.bind λa=>m2.bind λb=>m a b):=λW1 e1 Q k=>h1 W1 e1 _ (45 k<|h2 W2 `D _<|5 ka λb kb u W3 e3 hu=>⟨W3,a,b,v,u,`a,`a,MonoW.mono (R:=sh R1) e3 hv,hu,Er,kb.imp λr kr p W' e hp o=>kr p W' ((`L).trans e) (none_of (`L).h hp) o⟩)
theorem eB{R:Rp β}{m:Z->γ->δ->Res β}(h1:4 t1 R1 m1)(h2:4 t2 R2 m2)(h3:4 t3 R3 m3):4 (bu (ef R1 R2 R3 (rs R) m) [] E<|ax t1<|ax t2<|ax t3 bc) R (m1.bind λa=>m2.bind λb=>m3.bind λc=>m a b c):=λW1 e1 Q k=>h1 W1 e1 _ (45 k<|h2 W2 `D _<|5 ka λb kb u W3 e3 hu=>h3 W3 ((`D).trans e3) _<|5 kb λc kc w W4 e4 hw=>⟨W4,a,b,c,v,u,w,`a,`a,MonoW.mono (R:=sh R1) (e3.trans e4) hv,MonoW.mono (R:=sh R2) e4 hu,hw,Er,kc.imp λr kr u W' e hu=>kr u W' (38 `L e4 e) hu⟩)
theorem gv{R:Rp β}{m:Z->γ->δ->11 β}(h1:4 t1 R1 m1)(h2:4 t2 R2 m2)(h3:4 t3 R3 m3):EVo Er (bu (ef R1 R2 R3 (ro R) m) [] E<|ax t1<|ax t2<|ax t3 bc) M W R (m1.bind λa=>m2.bind λb=>m3.bind λc=>m a b c):=λW1 e1 Q k=>h1 W1 e1 _ (45 k<|h2 W2 `D _<|5 ka λb kb u W3 e3 hu=>h3 W3 ((`D).trans e3) _<|5 kb λc kc w W4 e4 hw=>⟨W4,a,b,c,v,u,w,`a,`a,MonoW.mono (R:=sh R1) (e3.trans e4) hv,MonoW.mono (R:=sh R2) e4 hu,hw,Er,kc.imp λr kr p W' e hp o=>kr p W' (38 `L e4 e) (none_of ((`L).trans e4).h hp) o⟩)
theorem ib{R:Rp β}{m:Z->γ->δ->ε->Res β}(h1:4 t1 R1 m1)(h2:4 t2 R2 m2)(h3:4 t3 R3 m3)(h4:4 t4 R4 m4):4 (bu (fH R1 R2 R3 R4 (rs R) m) [] E<|ax t1<|ax t2<|ax t3<|ax t4 bc) R (m1.bind λa=>m2.bind λb=>m3.bind λc=>m4.bind λd=>m a b c d):=λW1 e1 Q k=>h1 W1 e1 _ (45 k<|h2 W2 `D _<|5 ka λb kb u W3 e3 hu=>h3 W3 ((`D).trans e3) _<|5 kb λc kc w W4 e4 hw=>h4 W4 (38 `D e3 e4) _<|5 kc λd kd x W5 e5 hx=>⟨W5,a,b,c,d,v,u,w,x,`a,`a,MonoW.mono (R:=sh R1) ((e3.trans e4).trans e5) hv,MonoW.mono (R:=sh R2) (e4.trans e5) hu,MonoW.mono (R:=sh R3) e5 hw,hx,Er,kd.imp λr kr u W' e hu=>kr u W' (38 ((`L).trans e4) e5 e) hu⟩)
theorem mK{R:Rp β}{m:Z->γ->δ->ε->11 β}(h1:4 t1 R1 m1)(h2:4 t2 R2 m2)(h3:4 t3 R3 m3)(h4:4 t4 R4 m4):EVo Er (bu (fH R1 R2 R3 R4 (ro R) m) [] E<|ax t1<|ax t2<|ax t3<|ax t4 bc) M W R (m1.bind λa=>m2.bind λb=>m3.bind λc=>m4.bind λd=>m a b c d):=λW1 e1 Q k=>h1 W1 e1 _ (45 k<|h2 W2 `D _<|5 ka λb kb u W3 e3 hu=>h3 W3 ((`D).trans e3) _<|5 kb λc kc w W4 e4 hw=>h4 W4 (38 `D e3 e4) _<|5 kc λd kd x W5 e5 hx=>⟨W5,a,b,c,d,v,u,w,x,`a,`a,MonoW.mono (R:=sh R1) ((e3.trans e4).trans e5) hv,MonoW.mono (R:=sh R2) (e4.trans e5) hu,MonoW.mono (R:=sh R3) e5 hw,hx,Er,kd.imp λr kr p W' e hp o=>kr p W' (38 ((`L).trans e4) e5 e) (none_of (38 `L e4 e5).h hp) o⟩)
theorem ic{R:Rp β}{m:Z->γ->δ->ε->ζ->Res β}(h1:4 t1 R1 m1)(h2:4 t2 R2 m2)(h3:4 t3 R3 m3)(h4:4 t4 R4 m4)(h5:4 t5 R5 m5):4 (bu (fw R1 R2 R3 R4 R5 (rs R) m) [] E<|ax t1<|ax t2<|ax t3<|ax t4<|ax t5 bc) R (m1.bind λa=>m2.bind λb=>m3.bind λc=>m4.bind λd=>m5.bind λe=>m a b c d e):=λW1 e1 Q k=>h1 W1 e1 _ (45 k<|h2 W2 `D _<|5 ka λb kb u W3 e3 hu=>h3 W3 ((`D).trans e3) _<|5 kb λc kc w W4 e4 hw=>h4 W4 (38 `D e3 e4) _<|5 kc λd kd x W5 e5 hx=>h5 W5 (38 ((`D).trans e3) e4 e5) _<|5 kd λe ke y W6 e6 hy=>⟨W6,a,b,c,d,e,v,u,w,x,y,`a,`a,MonoW.mono (R:=sh R1) (38 (e3.trans e4) e5 e6) hv,MonoW.mono (R:=sh R2) ((e4.trans e5).trans e6) hu,MonoW.mono (R:=sh R3) (e5.trans e6) hw,MonoW.mono (R:=sh R4) e6 hx,hy,Er,ke.imp λr kr u W' e hu=>kr u W' (38 (38 `L e4 e5) e6 e) hu⟩)
theorem fL{R:Rp β}{m:Z->γ->δ->ε->ζ->11 β}(h1:4 t1 R1 m1)(h2:4 t2 R2 m2)(h3:4 t3 R3 m3)(h4:4 t4 R4 m4)(h5:4 t5 R5 m5):EVo Er (bu (fw R1 R2 R3 R4 R5 (ro R) m) [] E<|ax t1<|ax t2<|ax t3<|ax t4<|ax t5 bc) M W R (m1.bind λa=>m2.bind λb=>m3.bind λc=>m4.bind λd=>m5.bind λe=>m a b c d e):=λW1 e1 Q k=>h1 W1 e1 _ (45 k<|h2 W2 `D _<|5 ka λb kb u W3 e3 hu=>h3 W3 ((`D).trans e3) _<|5 kb λc kc w W4 e4 hw=>h4 W4 (38 `D e3 e4) _<|5 kc λd kd x W5 e5 hx=>h5 W5 (38 ((`D).trans e3) e4 e5) _<|5 kd λe ke y W6 e6 hy=>⟨W6,a,b,c,d,e,v,u,w,x,y,`a,`a,MonoW.mono (R:=sh R1) (38 (e3.trans e4) e5 e6) hv,MonoW.mono (R:=sh R2) ((e4.trans e5).trans e6) hu,MonoW.mono (R:=sh R3) (e5.trans e6) hw,MonoW.mono (R:=sh R4) e6 hx,hy,Er,ke.imp λr kr p W' e hp o=>kr p W' (38 (38 `L e4 e5) e6 e) (none_of (38 ((`L).trans e4) e5 e6).h hp) o⟩)
end
def Yl(J:It)(W:Wd)(R:`k)(xs:`r):Prop:=∀W1:Wd,Same W.G W1.G->(∀(i:Nat)(a:Z),0 xs[i]? a->J.go i W1.H/\∀x H',J.yld i W1.H x H'->∃W2:Wd,W2.H=H'/\Ext W1 W2/\R W2.G a x)/\J.stop `i W1.H
def IV(Er:Nat->Prop)(wi:TI)(M:St)(W:Wd)(R:`k)(m:11 Z):Prop:=∀W1,Ext W W1->∀P:It->Hp->Prop,(m.OkE Er λxs=>∀J W2,Ext W1 W2->Yl J W2 R xs->P J W2.H)->wi M W1.H P
theorem cv{R:`k}[Mono R]{m:11 Z}(h:4 t (isL R) m):IV Er (uA K t) M W R m:=λW1 e1 P k=>h W1 e1 _ (k.imp λxs kx v W2 e2 hv=>by
  obtain⟨p,vs,rfl,h1,h2⟩:=hv;refine⟨p,`a,⟨vs,GD<|W2.ok _ _ h1⟩,kx _ W2 e2 λW3 e3=>⟨λi a ha=>?_,vs,GD<|W3.ok _ _<|e3 _ _ h1,by rw[h2.1];exact EX _⟩⟩;obtain⟨x,hx,hr⟩:=h2.get ha;refine⟨⟨vs,x,GD<|W3.ok _ _<|e3 _ _ h1,hx⟩,λy H'⟨z1,z2⟩=>⟨W3,z1.symm,`q,?_⟩⟩;have:=z2 vs (GD<|W3.ok _ _<|e3 _ _ h1);rw[hx]at this;cases this;exact ED e3 hr)
theorem ie{m:`J}(h:4 t isS m):IV Er (BC t) M W isS (m.bind λx=>.ok<|bF x):=λW1 e1 P k=>h W1 e1 _ (5 k λx kx v W2 e2 hv=>by
  cases hv;refine⟨x,`a,kx _ W2 e2 λW3 e3=>⟨λi a ha=>?_,by show `F<=(bF x).length;simp[bF]⟩⟩;unfold bF at ha;rw[ET]at ha;cases hc:x[i]? with
  |none=>rw[hc]at ha;cases ha
  |some c=>
   rw[hc]at ha;cases ha;refine⟨(ER.mp hc).1,λy H'⟨z1,c',z2,z3⟩=>⟨W3,z1.symm,`q,?_⟩⟩;rw[hc]at z2;cases z2;exact z3)
theorem gw{m:`C}(h:4 t isI m):IV Er (zz<|ax t bc) M W isI (m.bind λn=>fb n):=λW1 e1 P k=>h W1 e1 _ (5 k λn kn v W2 e2 hv=>by
  cases hv;obtain⟨hb,kn⟩:=ba kn;refine⟨n,`a,hb.1,hb.2,kn _ W2 e2 λW3 e3=>⟨λi a ha=>?_,by show n.toNat<=(gp n).length;simp[gp]⟩⟩;unfold gp at ha;rw[ET]at ha;have hi:i<n.toNat:=by
   refine GS λz=>?_;rw[FN.mpr (by simp;omega)]at ha;cases ha
  rw[GW hi]at ha;cases ha;exact⟨hi,λy H'⟨z1,z2⟩=>⟨W3,z1.symm,`q,by rw[z2];show Im (0+(i:Int))=.int (i:Int);rw[Int.zero_add]⟩⟩)
def SrcR(K:EL)(W:Wd)(R:`k)(xs:`r)(v:V):Prop:=∃(c:Src)(vs:List V),v=c.val/\(∀W1:Wd,Same W.G W1.G->c.has K W1.H vs)/\LR R W.G xs vs
theorem SrcR.mono{R:`k}[Mono R]{xs:`r}{v:V}(h:SrcR K W R xs v)(e:Same W.G W'.G):SrcR K W' R xs v:=by
 obtain⟨c,vs,h1,h2,h3⟩:=h;exact⟨c,vs,h1,λW1 e1=>h2 W1<|e.trans e1,h3.same e⟩
def SV(Er:Nat->Prop)(t:TE)(M:St)(W:Wd)(K:EL)(R:`k)(m:11 Z):Prop:=EV Er t M W (λW xs v=>SrcR K W R xs v) m
theorem jb{R:`k}[Mono R]{m:11 Z}(h:4 t (isL R) m):SV Er t M W K R m:=h.imp λW xs v⟨p,vs,h0,h1,h2⟩=>⟨.lst p,vs,h0,λW1 e1=>GD<|W1.ok _ _<|e1 _ _ h1,h2⟩
theorem vd{H:Hp}(x:Tx):LR isS H (bF x) (x.map λc=>Jo<|aU [c]):=⟨by simp[bF],λi v m e1 e2=>by
 unfold bF at e2;rw[ET]at e1 e2;cases hc:x[i]? with
 |none=>rw[hc]at e1;cases e1
 |some c=>rw[hc]at e1 e2;cases e1;cases e2;rfl⟩
theorem ve{m:`J}(h:4 t isS m):SV Er t M W K isS (m.bind λx=>.ok<|bF x):=λW1 e1 Q k=>h W1 e1 _ (5 k λx kx v W2 e2 hv=>by cases hv;exact kx _ W2 e2 ⟨.str x,_,`a,`j,vd x⟩)
theorem iD{R:`k}{m:Res (Z×Z×Z)}(h:4 t (isT3 K R R R) m):SV Er t M W K R (m.bind λx=>.ok [x.1,x.2.1,x.2.2]):=λW1 e1 Q k=>h W1 e1 _ (5 k λx kx v W2 e2 hv=>by
  obtain⟨p,a,b,c,h0,h,h1,h2,h3⟩:=hv;exact kx _ W2 e2 ⟨.tup p,_,h0,λW3 e3=>Same.tup (e3.trans W3.ok) h,LR.three h1 h2 h3⟩)
theorem jK{R1:`k}{R2:Rp β}[Mono R1][Mono R2]{m1:11 Z}{m2:11 β}(h1:SV Er t1 M W K R1 m1)(h2:SV Er t2 M W K R2 m2):IV Er (Ae K<|ax t1<|ax t2 bc) M W (isT2 K R1 R2) (m1.bind λxs=>m2.bind λys=>.ok<|xs.zip ys):=λW1 e1 P k=>h1 W1 e1 _ (5 k λxs kx v W2 e2 hv=>h2 W2 `D _ (5 kx λys ky u W3 e3 hu=>by
  obtain⟨c1,vs,rfl,a1,b1⟩:=SrcR.mono hv e3.g;obtain⟨c2,us,rfl,a2,b2⟩:=hu;refine⟨c1,c2,vs,us,`a,a1 W3 `q,a2 W3 `q,ky _ W3 `L λW4 e4=>⟨λi ab hab=>?_,?_⟩⟩
  ·rw[FV]at hab;obtain⟨x,hx,rx⟩:=b1.get hab.1;obtain⟨y,hy,ry⟩:=b2.get hab.2;refine⟨⟨vs,us,x,y,a1 W4 e4,a2 W4 e4,hx,hy⟩,λz H'⟨p,x',y',hp,z0,z1,z2,z3⟩=>⟨W4.new p (.tup [x',y']),by rw[z3];rfl,.new _ hp,p,x',y',z0,Na aG,?_,?_⟩⟩
   ·have:=z1 vs (a1 W4 e4);rw[hx]at this;cases this;exact ED (e4.trans (Ext.new _ hp).g) rx
   ·have:=z2 us (a2 W4 e4);rw[hy]at this;cases this;exact ED (e4.trans (Ext.new _ hp).g) ry
  ·refine⟨vs,us,a1 W4 e4,a2 W4 e4,?_⟩;rw[Jf,b1.1,b2.1];omega))
theorem vf{xs:`r}{i:Nat}{p:Int×Z}(h:0 (iU xs)[i]? p):p.1=(i:Int)/\0 xs[i]? p.2:=by
 unfold iU at h;rw[LC]at h;cases h1:(FP xs.length)[i]? with
 |none=>rw[h1]at h;cases h
 |some j=>
  cases h2:xs[i]? with
  |none=>rw[h1,h2]at h;cases h
  |some x=>
   rw[h1,h2]at h;cases h;have hi:=(ER.mp h2).1;rw[GW hi]at h1;cases h1;exact⟨`a,`a⟩
theorem vg{xs:`r}:(iU xs).length=`i:=by simp[iU]
theorem y0{R:`k}[Mono R]{m:11 Z}(h:4 t (isL R) m):IV Er (zD K<|ax t bc) M W (isT2 K isI R) (m.bind λxs=>.ok<|iU xs):=λW1 e1 P k=>h W1 e1 _ (5 k λxs kx v W2 e2 hv=>by
  obtain⟨p,vs,rfl,h1,h2⟩:=hv;refine⟨p,vs,`a,GD<|W2.ok _ _ h1,kx _ W2 e2 λW3 e3=>⟨λi ab hab=>?_,vs,GD<|W3.ok _ _<|e3 _ _ h1,by rw[vg,h2.1]⟩⟩;obtain⟨hi,ha⟩:=vf hab;obtain⟨x,hx,rx⟩:=h2.get ha;refine⟨⟨vs,x,GD<|W3.ok _ _<|e3 _ _ h1,hx⟩,λz H'⟨q,x',hq,z0,z1,z2⟩=>⟨W3.new q (.tup [.int i,x']),by rw[z2];rfl,.new _ hq,q,_,x',z0,Na aG,by rw[hi];rfl,?_⟩⟩;have:=z1 vs (GD<|W3.ok _ _<|e3 _ _ h1);rw[hx]at this;cases this;exact ED (e3.trans (Ext.new _ hq).g) rx)
theorem mL{f:Z->Res β}{xs:`r}{i:Nat}{a:Z}(h:0 xs[i]? a):jf f (xs.drop i)=(f a).bind λb=>(jf f<|xs.drop<|i+1).bind λbs=>.ok (b::bs):=by
 obtain⟨hi,e⟩:=ER.mp h;rw[Gx hi,e];rfl
theorem qt{f:Z->Res (Option β)}{xs:`r}{i:Nat}{a:Z}(h:0 xs[i]? a):jg f (xs.drop i)=(f a).bind λb=>(jg f<|xs.drop<|i+1).bind λbs=>.ok (match b with|some b=>b::bs|none=>bs):=by
 obtain⟨hi,e⟩:=ER.mp h;rw[Gx hi,e];rfl
theorem fo{cap:List `S}{wi:TI}{g:TG}{te:TE}{R:`k}{R':Rp β}[Mono R']{m:11 Z}{f:Z->Res β}(hi:IV Er wi M W R m)
  (hb:∀(W1:Wd)(a:Z)(v:V),Ext W W1->R W1.G a v->∀Q:VK,((f a).OkE Er λb=>∀u W2,Ext W1 W2->R' W2.G b u->Q u W2.H)->g v (bH cap M) W1.H λσ2 H2=>Keep (bH cap M) σ2/\te σ2 H2 Q):
  EVo Er (oS cap wi g xS te) M W R' (m.bind λxs=>eK xs f):=λW1 e1 Q k=>by
 refine hi W1 e1 _ (5 k λxs kx J W2 e2 hy=>?_);obtain⟨hl,kx⟩:=ba (EE kx);refine⟨λi n ys H=>n=`i-i/\i<=`i/\ys.length<=i/\∃(W3:Wd)(bs:List β),W3.H=H/\Ext W2 W3/\LR R' W3.G bs ys/\(jf f<|xs.drop i).OkE Er (λr=>∀p W4,Ext W1 W4->W1.H p=`c->Ow R' W4 p (bs++r)->Q `E W4.H),⟨`i,`f,`f,`f,W2,[],`a,`q,.nil,?_⟩,?_⟩;·simpa using kx
 ·rintro i n ys H ⟨rfl,hi1,hyl,W3,bs,rfl,e3,lr,q⟩;refine⟨by rw[FE];unfold Mi.cap at hl;omega,?_⟩;by_cases hlt:i<`i
  ·obtain⟨a,ha⟩:∃a,0 xs[i]? a:=⟨xs[i],by simp[hlt]⟩
   obtain⟨h1,h2⟩:=(hy W3 e3.g).1 i a ha;refine .inr ⟨h1,λys' H'=>ys'.length<=i+1/\∃(W3:Wd)(bs:List β),W3.H=H'/\Ext W2 W3/\LR R' W3.G bs ys'/\(jf f<|xs.drop<|i+1).OkE Er (λr=>∀p W4,Ext W1 W4->W1.H p=`c->Ow R' W4 p (bs++r)->Q `E W4.H),λys' H'⟨z1,z2⟩=>⟨`i-(i+1),`b,`a,hlt,z1,z2⟩,λx H' hx=>?_⟩;obtain⟨W4,rfl,e4,rx⟩:=h2 x H' hx;rw[mL ha]at q;have:=hb W4 a x (e1.trans<|(`L).trans e4) rx (λy H4=>(ys++[y]).length<=i+1/\∃(W3:Wd)(bs:List β),W3.H=H4/\Ext W2 W3/\LR R' W3.G bs (ys++[y])/\(jf f<|xs.drop<|i+1).OkE Er (λr=>∀p W4,Ext W1 W4->W1.H p=`c->Ow R' W4 p (bs++r)->Q `E W4.H))
    (5 q λb kb u W5 e5 hu=>⟨by simp;exact hyl,W5,bs++[b],rfl,(e3.trans e4).trans e5,(lr.same (e4.trans e5).g).snoc hu,5 kb λr kr=>by rw[He];exact kr⟩)
   exact this
  ·have e:i=`i:=`b
   subst e;rw[HJ]at q;refine .inl ⟨(hy W3 e3.g).2,λD hD=>?_⟩;have a0:=`L;have:=q D (W3.mut D (.lst ys)<|W3.gnone hD) (a0.trans<|.own _ hD) (none_of a0.h hD) ⟨W3.gnone hD,ys,aG,by rw[Hj];exact lr⟩;exact this
theorem vh{cap:List `S}{wi:TI}{g:TG}{tf:TT}{te:TE}{R:`k}{R':Rp β}[Mono R']{m:11 Z}{f:Z->Res (Option β)}(hi:IV Er wi M W R m)
    (hb:∀(W1:Wd)(a:Z)(v:V),Ext W W1->R W1.G a v->∀Q:Option V->Hp->Prop,(f a).OkE Er (λb=>∀u W2,Ext W1 W2->(match b,u with|some b,some u=>R' W2.G b u|none,none=>True|_,_=>False)->Q u W2.H)->g v (bH cap M) W1.H λσ2 H2=>Keep (bH cap M) σ2/\tf σ2 H2 λb H3=>if 1 b then te σ2 H3 (λy H4=>Q (some y) H4)else Q `c H3):
    EVo Er (oS cap wi g tf te) M W R' (m.bind λxs=>rD xs f):=λW1 e1 Q k=>by
  refine hi W1 e1 _ (5 k λxs kx J W2 e2 hy=>?_);obtain⟨hl,kx⟩:=ba (EE kx);refine⟨λi n ys H=>n=`i-i/\i<=`i/\ys.length<=i/\∃(W3:Wd)(bs:List β),W3.H=H/\Ext W2 W3/\LR R' W3.G bs ys/\(jg f<|xs.drop i).OkE Er (λr=>∀p W4,Ext W1 W4->W1.H p=`c->Ow R' W4 p (bs++r)->Q `E W4.H),⟨`i,`f,`f,`f,W2,[],`a,`q,.nil,?_⟩,?_⟩;·simpa using kx
  · rintro i n ys H ⟨rfl,hi1,hyl,W3,bs,rfl,e3,lr,q⟩;refine⟨by rw[FE];unfold Mi.cap at hl;omega,?_⟩;by_cases hlt:i<`i
    · obtain⟨a,ha⟩:∃a,0 xs[i]? a:=⟨xs[i],by simp[hlt]⟩
      obtain⟨h1,h2⟩:=(hy W3 e3.g).1 i a ha;refine .inr ⟨h1,λys' H'=>ys'.length<=i+1/\∃(W3:Wd)(bs:List β),W3.H=H'/\Ext W2 W3/\LR R' W3.G bs ys'/\(jg f<|xs.drop<|i+1).OkE Er (λr=>∀p W4,Ext W1 W4->W1.H p=`c->Ow R' W4 p (bs++r)->Q `E W4.H),λys' H'⟨z1,z2⟩=>⟨`i-(i+1),`b,`a,hlt,z1,z2⟩,λx H' hx=>?_⟩;obtain⟨W4,rfl,e4,rx⟩:=h2 x H' hx;rw[qt ha]at q
      have:=hb W4 a x (e1.trans<|(`L).trans e4) rx (λy H4=>(match y with|some y=>ys++[y]|none=>ys).length<=i+1/\∃(W3:Wd)(bs:List β),W3.H=H4/\Ext W2 W3/\LR R' W3.G bs (match y with|some y=>ys++[y]|none=>ys)/\(jg f<|xs.drop<|i+1).OkE Er (λr=>∀p W4,Ext W1 W4->W1.H p=`c->Ow R' W4 p (bs++r)->Q `E W4.H)) (5 q λb kb u W5 e5 hu=>by
          match b,u,hu,kb with
          |some b,some u,hu,kb=>exact⟨by simp;exact hyl,W5,bs++[b],rfl,(e3.trans e4).trans e5,(lr.same (e4.trans e5).g).snoc hu,5 kb λr kr=>by rw[He];exact kr⟩
          |none,none,hu,kb=>exact⟨by show ys.length<=i+1;omega,W5,bs,rfl,(e3.trans e4).trans e5,lr.same (e4.trans e5).g,5 kb λr kr=>kr⟩)
      exact this
    · have e:i=`i:=`b
      subst e;rw[HJ]at q;refine .inl ⟨(hy W3 e3.g).2,λD hD=>?_⟩;have a0:=`L;have:=q D (W3.mut D (.lst ys)<|W3.gnone hD) (a0.trans<|.own _ hD) (none_of a0.h hD) ⟨W3.gnone hD,ys,aG,by rw[Hj];exact lr⟩;exact this
end
section
variable{Z β γ δ:Type}{t u:TS}{te ti:TE}{g:TG}{D:Ends}{M:St}{W W0 W':Wd}{K:EL}{i j k n:Nat}{P:8 St Hp}{H:Hp}{v:V}
theorem gn{σ':St}(h:P σ' H)(hσ:M.set i (some v)=σ':=by rfl):bt i v M H P:=by subst hσ;exact h
theorem jc{σ':V->V->St}{R1:`k}{R2:Rp β}{ab:Z×β}(h:isT2 K R1 R2 W.G ab v)(q:∀x y,R1 W.G ab.1 x->R2 W.G ab.2 y->P (σ' x y) W.H)(hσ:∀x y,(M.set i<|some x).set j (some y)=σ' x y:=by intro _ _;rfl):cX K 2 (bL (bt i)<|bL (bt j) d6) v M W.H P:=by
 obtain⟨p,x,y,h0,h,h1,h2⟩:=h;exact⟨p,_,h0,Same.tup W.ok h,`a,x,_,`a,y,_,`a,`a,by have:=q x y h1 h2;rw[<-hσ]at this;exact this⟩
theorem p5{σ':V->V->V->St}{R1:`k}{R2:Rp β}{R3:Rp γ}{ab:Z×β×γ}(h:isT3 K R1 R2 R3 W.G ab v)(q:∀x y z,R1 W.G ab.1 x->R2 W.G ab.2.1 y->R3 W.G ab.2.2 z->P (σ' x y z) W.H)(hσ:∀x y z,((M.set i<|some x).set j<|some y).set k (some z)=σ' x y z:=by intro _ _ _;rfl):cX K 3 (bL (bt i)<|bL (bt j)<|bL (bt k) d6) v M W.H P:=by
 obtain⟨p,x,y,z,h0,h,h1,h2,h3⟩:=h;exact⟨p,_,h0,Same.tup W.ok h,`a,x,_,`a,y,_,`a,z,_,`a,`a,by have:=q x y z h1 h2 h3;rw[<-hσ]at this;exact this⟩
theorem bg{t r:TS}{D:Ends}{M:St}{H:Hp}(h:t {D with nx:=r D} M H):iR t r D M H:=h
theorem au{kk k2 k3:8 St Hp}{k1:VK}{σ':V->St}{R:Rw Z}{m:Res Z}(h:EV Er te M W R m)(q:m.OkE Er λa=>∀v W',Ext W W'->R W' a v->kk (σ' v) W'.H)(hσ:∀v,M.set i (some v)=σ' v:=by intro _;rfl):cE te (bt i) ⟨kk,k1,k2,k3⟩ M W.H:=h W `q _ (q.imp λa k v W' e r=>by have:=k v W' e r;rw[<-hσ]at this;exact this)
theorem gd{kk k2 k3:8 St Hp}{k1:VK}{σ':Addr->St}{R:`k}{m:11 Z}(h:EVo Er te M W R m)(q:m.OkE Er λa=>∀p W',Ext W W'->W.H p=`c->Ow R W' p a->kk (σ' p) W'.H)(hσ:∀p,M.set i (27 p)=σ' p:=by intro _;rfl):cE te (bt i) ⟨kk,k1,k2,k3⟩ M W.H:=h W `q _ (q.imp λa k p W' e hp r=>by have:=k p W' e hp r;rw[<-hσ]at this;exact this)
theorem aL{R:Rw Z}{m:Res Z}(h:EV Er te M W R m)(q:m.OkE Er λa=>∀v W',Ext W W'->R W' a v->D.rt v W'.H):cW te D M W.H:=h W `q _ q
theorem kC{R:`k}{m:11 Z}(h:EVo Er te M W R m)(q:m.OkE Er λa=>∀p W',Ext W W'->W.H p=`c->Ow R W' p a->D.rt `E W'.H):cW te D M W.H:=h W `q _ q
theorem p6{c:TT}{m:`x}(h:TV Er c M W m)(q:m.OkE Er λb=>∀W',Ext W W'->if 1 b then t D M W'.H else u D M W'.H):k4 c t u D M W.H:=h W `q _ q
theorem ig{S:Type}{c:TT}{m:`x}{mA mB:Res S}{P:S->Prop}(Iv:S->Wd->St->Prop)(h:TV Er c M W m)(q:(m.bind λb=>if b then mA else mB).OkE Er P)
  (hA:∀W'(N:8 St Hp),Ext W W'->(∀s W1 σ1,Same W.G W1.G->Iv s W1 σ1->P s->N σ1 W1.H)->mA.OkE Er P->t {D with nx:=N} M W'.H)
  (hB:∀W'(N:8 St Hp),Ext W W'->(∀s W1 σ1,Same W.G W1.G->Iv s W1 σ1->P s->N σ1 W1.H)->mB.OkE Er P->u {D with nx:=N} M W'.H)
  (hd:∀s W1 σ1,Same W.G W1.G->Iv s W1 σ1->P s->D.nx σ1 W1.H):k4 c t u D M W.H:=h W `q _ (5 q λb kb W' e=>by
 cases b with
 |true=>exact hA W' D.nx e hd kb
 |false=>exact hB W' D.nx e hd kb)
theorem Ow.ne{R:`k}{p q:Addr}{ys:`r}(o:Ow R W q ys)(hp:W.H p=`c):q≠p:=by
 obtain⟨vs,a,b⟩:=o.h;exact cV a hp
structure Mu(W W':Wd)(p:Addr):Prop where
 g:Same W.G W'.G
 e:∀W0:Wd,12 W->W0.H p=`c->12 W'
 h:∀q,q≠p->W.H q≠`c->W'.H q=W.H q/\W'.G q=W.G q
theorem Mu.of{W1:Wd}{p:Addr}{o:HO}(e1:Ext W W1)(hg:W1.G p=`c):Mu W (W1.mut p o hg) p:=⟨e1.g,λW0 e0 hp=>(e0.trans e1).mut hp hg,λq hq hn=>by
 obtain⟨o',ho⟩:=IY.mp hn;exact⟨by show cT W1.H p o q=_;rw[aJ hq,e1.h _ _ ho,ho],e1.k q hn⟩⟩
theorem Mu.ow{R:`k}[Mono R]{p q:Addr}{ys:`r}(m:Mu W W' p)(hq:q≠p)(o:Ow R W q ys):Ow R W' q ys:=by
 obtain⟨vs,a,b⟩:=o.h;obtain⟨h1,h2⟩:=m.h q hq (by rw[a];exact λz=>nomatch z);exact⟨by rw[h2];exact o.g,vs,by rw[h1];exact a,b.same m.g⟩
theorem ij{kk k2 k3:8 St Hp}{k1:VK}{R:`k}[Mono R]{p:Addr}{xs:`r}{m:Res Z}(o:Ow R W p xs)(h:4 te R m)(q:(m.bind λa=>gZ xs a).OkE Er λys=>∀W',Mu W W' p->Ow R W' p ys->kk M W'.H)(hi:0 M[i]? (27 p):=by rfl):bK (fS K "list" aS (bZ i)<|ax te bc) ⟨kk,k1,k2,k3⟩ M W.H:=by
 obtain⟨vs,h1,h2⟩:=o.h;refine⟨`E,hi,.inl ⟨`a,vs,GD h1⟩,h W `q _<|45 q ?_⟩;obtain⟨h3,h4⟩:=ba ka;have hg:=(o.mono e2).g;refine⟨p,vs,v,rfl,rfl,e2.h _ _ h1,by rw[h2.1,FE];unfold Mi.cap at h3;omega,h4 (W2.mut p (.lst<|vs++[v]) hg) (.of e2 hg) ⟨hg,_,aG,(h2.same e2.g).snoc hv⟩⟩
theorem LR.set{R:`k}{H:Hp}{as:`r}{vs:`u}{a:Z}{v:V}(h:LR R H as vs)(r:R H a v)(j:Nat):LR R H (as.set j a) (vs.set j v):=⟨by simp[h.1],λi x m e1 e2=>by
 rw[HV]at e1 e2;by_cases z:j=i
 ·rw[Z0 z]at e1 e2;split at e1
  ·split at e2;·cases e1;cases e2;exact r
   ·cases e2
  ·cases e1
 ·rw[Z1 z]at e1 e2;exact h.2 i x m e1 e2⟩
theorem rK{R:`k}[Mono R]{p:Addr}{xs:`r}{m:Res Z}{mi:`C}(o:Ow R W p xs)(h:4 te R m)(hj:4 ti isI mi)(q:(m.bind λa=>mi.bind λj=>kq xs j a).OkE Er λys=>∀W',Mu W W' p->Ow R W' p ys->D.nx M W'.H)(hi:0 M[i]? (27 p):=by rfl):cE te (A5 (bZ i) ti uE) D M W.H:=by
 obtain⟨vs,h1,h2⟩:=o.h;refine h W `q _ (45 q ⟨`E,hi,hj W2 e2 _<|5 ka λj kj x W3 e3 hx=>?_⟩);cases hx;obtain⟨l,h3,h4⟩:=dR (EE kj);have e:=`L;have hg:=(o.mono e).g;exact⟨p,vs,j,l,rfl,rfl,e.h _ _ h1,by rw[h2.1];exact h3,h4 (W3.mut p (.lst<|vs.set l v) hg) (.of e hg) ⟨hg,_,aG,(h2.same e.g).set (ED (R:=R) e3.g hv) l⟩⟩
def qd{S:Type}(W:Wd)(Iv:S->Wd->St->Prop)(P:S->Prop):8 St Hp:=λσ' H'=>∃s' W',W'.H=H'/\Same W.G W'.G/\Iv s' W' σ'/\P s'
theorem mM{S:Type}{f:Z->S->Res S}{xs:`r}{i:Nat}{a:Z}{s:S}(h:0 xs[i]? a):bO f (xs.drop i) s=(f a s).bind λs=>bO f (xs.drop<|i+1) s:=by
 obtain⟨hi,e⟩:=ER.mp h;rw[Gx hi,e];rfl
theorem nJ{S:Type}{wi:TI}{tb:TS}{R:`k}{m:11 Z}{f:Z->S->Res S}{s0:S}{P:S->Prop}(Iv:S->Wd->St->Prop)(hi:IV Er wi M W R m)(q:(m.bind λxs=>bO f xs s0).OkE Er P)
  (h0:∀W1,Ext W W1->Iv s0 W1 M)
  (hs:∀Wb W1 W2 a v s σ1 P',Same W.G W1.G->Same Wb.G W1.G->Iv s W1 σ1->Ext W1 W2->R W2.G a v->(f a s).OkE Er P'->g v σ1 W2.H λσ2 H2=>tb {D with nx:=qd Wb Iv P',ct:=qd Wb Iv P',bk:=D.nx} σ2 H2)
  (hd:∀s W1 σ1,Same W.G W1.G->Iv s W1 σ1->P s->D.nx σ1 W1.H):uB wi g tb D M W.H:=by
 refine hi W `q _ (5 q λxs kx J W1 e1 hy=>?_);refine⟨λi n σ' H'=>n=`i-i/\i<=`i/\∃s' W',W'.H=H'/\Same W1.G W'.G/\Iv s' W' σ'/\(bO f (xs.drop i) s').OkE Er P,⟨`i,`f,`f,s0,W1,`a,`q,h0 W1 e1,by simpa using kx⟩,?_⟩;rintro i n σ1 H1 ⟨rfl,hi1,s,W2,rfl,e2,iv,k⟩;by_cases hlt:i<`i
 ·obtain⟨a,ha⟩:∃a,0 xs[i]? a:=⟨xs[i],by simp[hlt]⟩
  obtain⟨h1,h2⟩:=(hy W2 e2).1 i a ha;refine .inr ⟨h1,qd W1 Iv λs'=>(bO f (xs.drop<|i+1) s').OkE Er P,λσ' H'⟨s',W',z1,z2,z3,z4⟩=>⟨`i-(i+1),`b,`a,hlt,s',W',z1,z2,z3,z4⟩,λx H' hx=>?_⟩;obtain⟨W3,rfl,e3,rx⟩:=h2 x H' hx;rw[mM ha]at k;exact hs W1 W2 W3 a x s σ1 (λs'=>(bO f (xs.drop<|i+1) s').OkE Er P) (e1.g.trans e2) e2 iv e3 rx (EE k)
 ·have e:i=`i:=`b
  subst e;rw[HJ]at k;exact .inl ⟨(hy W2 e2).2,hd s W2 σ1 (e1.g.trans e2) iv k⟩
theorem tE{S:Type}{f:Z->S->Res (Fl γ S)}{xs:`r}{i:Nat}{a:Z}{s:S}(h:0 xs[i]? a):eS f (xs.drop i) s=(f a s).bind (va<|eS f<|xs.drop<|i+1):=by
 obtain⟨hi,e⟩:=ER.mp h;rw[Gx hi,e];rfl
theorem nK{S:Type}{wi:TI}{tb:TS}{R:`k}{m:11 Z}{f:Z->S->Res (Fl γ S)}{s0:S}{P:Fl γ S->Prop}(Iv:S->Wd->St->Prop)(hi:IV Er wi M W R m)(q:(m.bind λxs=>eS f xs s0).OkE Er P)
  (h0:∀W1,Ext W W1->Iv s0 W1 M)
  (hs:∀Wb W1 W2 a v s σ1 P',Same W.G W1.G->Same Wb.G W1.G->Iv s W1 σ1->Ext W1 W2->R W2.G a v->(∀r,P' (.rt r)->P (.rt r))->(f a s).OkE Er P'->g v σ1 W2.H λσ2 H2=>tb {D with nx:=qd Wb Iv λs'=>P'<|.nx s',ct:=qd Wb Iv λs'=>P'<|.nx s',bk:=D.nx} σ2 H2)
  (hd:∀s W1 σ1,Same W.G W1.G->Iv s W1 σ1->P (.nx s)->D.nx σ1 W1.H):uB wi g tb D M W.H:=by
 refine hi W `q _ (5 q λxs kx J W1 e1 hy=>?_);refine⟨λi n σ' H'=>n=`i-i/\i<=`i/\∃s' W',W'.H=H'/\Same W1.G W'.G/\Iv s' W' σ'/\(eS f (xs.drop i) s').OkE Er P,⟨`i,`f,`f,s0,W1,`a,`q,h0 W1 e1,by simpa using kx⟩,?_⟩;rintro i n σ1 H1 ⟨rfl,hi1,s,W2,rfl,e2,iv,k⟩;by_cases hlt:i<`i
 ·obtain⟨a,ha⟩:∃a,0 xs[i]? a:=⟨xs[i],by simp[hlt]⟩
  obtain⟨h1,h2⟩:=(hy W2 e2).1 i a ha;refine .inr ⟨h1,qd W1 Iv λs'=>(eS f (xs.drop<|i+1) s').OkE Er P,λσ' H'⟨s',W',z1,z2,z3,z4⟩=>⟨`i-(i+1),`b,`a,hlt,s',W',z1,z2,z3,z4⟩,λx H' hx=>?_⟩;obtain⟨W3,rfl,e3,rx⟩:=h2 x H' hx;rw[tE ha]at k;exact hs W1 W2 W3 a x s σ1 (λfl=>match fl with| .nx s'=>(eS f (xs.drop<|i+1) s').OkE Er P| .bk s'=>P (.nx s')| .rt r=>P<|.rt r) (e1.g.trans e2) e2 iv e3 rx (λr h=>h) (5 k λfl h=>by cases fl<;>exact h)
 ·have e:i=`i:=`b
  subst e;rw[HJ]at k;exact .inl ⟨(hy W2 e2).2,hd s W2 σ1 (e1.g.trans e2) iv k⟩
section
variable{r:TS}
theorem dM{R:Rw Z}{m:Res Z}(h:EV Er te M W R m)(q:m.OkE Er λa=>∀v W',Ext W W'->R W' a v->g v M W'.H (r D)):iR (cE te g) r D M W.H:=h W `q _ q
theorem cm{c:TT}{m:`x}(h:TV Er c M W m)(q:m.OkE Er λb=>∀W',Ext W W'->if 1 b then t {D with nx:=r D} M W'.H else u {D with nx:=r D} M W'.H):iR (k4 c t u) r D M W.H:=h W `q _ q
theorem br{S:Type}{c:TT}{m:`x}{mA mB:Res S}{P:S->Prop}(Iv:S->Wd->St->Prop)(h:TV Er c M W m)(q:(m.bind λb=>if b then mA else mB).OkE Er P)
  (hA:∀W'(N:8 St Hp),Ext W W'->(∀s W1 σ1,Same W.G W1.G->Iv s W1 σ1->P s->N σ1 W1.H)->mA.OkE Er P->t {D with nx:=N} M W'.H)
  (hB:∀W'(N:8 St Hp),Ext W W'->(∀s W1 σ1,Same W.G W1.G->Iv s W1 σ1->P s->N σ1 W1.H)->mB.OkE Er P->u {D with nx:=N} M W'.H)
  (hd:∀s W1 σ1,Same W.G W1.G->Iv s W1 σ1->P s->r D σ1 W1.H):iR (k4 c t u) r D M W.H:=ig (D:={D with nx:=r D}) Iv h q hA hB hd
theorem cz{S:Type}{wi:TI}{tb:TS}{R:`k}{m:11 Z}{f:Z->S->Res S}{s0:S}{P:S->Prop}(Iv:S->Wd->St->Prop)(hi:IV Er wi M W R m)(q:(m.bind λxs=>bO f xs s0).OkE Er P)
  (h0:∀W1,Ext W W1->Iv s0 W1 M)
  (hs:∀Wb W1 W2 a v s σ1 P',Same W.G W1.G->Same Wb.G W1.G->Iv s W1 σ1->Ext W1 W2->R W2.G a v->(f a s).OkE Er P'->g v σ1 W2.H λσ2 H2=>tb {D with nx:=qd Wb Iv P',ct:=qd Wb Iv P',bk:=r D} σ2 H2)
  (hd:∀s W1 σ1,Same W.G W1.G->Iv s W1 σ1->P s->r D σ1 W1.H):iR (uB wi g tb) r D M W.H:=nJ (D:={D with nx:=r D}) Iv hi q h0 hs hd
theorem fM{S:Type}{wi:TI}{tb:TS}{R:`k}{m:11 Z}{f:Z->S->Res (Fl γ S)}{s0:S}{P:Fl γ S->Prop}(Iv:S->Wd->St->Prop)(hi:IV Er wi M W R m)(q:(m.bind λxs=>eS f xs s0).OkE Er P)
  (h0:∀W1,Ext W W1->Iv s0 W1 M)
  (hs:∀Wb W1 W2 a v s σ1 P',Same W.G W1.G->Same Wb.G W1.G->Iv s W1 σ1->Ext W1 W2->R W2.G a v->(∀r,P' (.rt r)->P (.rt r))->(f a s).OkE Er P'->g v σ1 W2.H λσ2 H2=>tb {D with nx:=qd Wb Iv λs'=>P'<|.nx s',ct:=qd Wb Iv λs'=>P'<|.nx s',bk:=r D} σ2 H2)
  (hd:∀s W1 σ1,Same W.G W1.G->Iv s W1 σ1->P (.nx s)->r D σ1 W1.H):iR (uB wi g tb) r D M W.H:=nK (D:={D with nx:=r D}) Iv hi q h0 hs hd
end
theorem bS{S:Type}{Wb W:Wd}{Iv:S->Wd->St->Prop}{P:S->Prop}(s:S)(hs:Same Wb.G W.G)(iv:Iv s W M)(hq:P s):qd Wb Iv P M W.H:=⟨s,W,`a,hs,iv,hq⟩
end
end Wb
open Wb.EV renaming pk->Gr
open Wb.EVo renaming ev->Hm,pk->IB
open Wb.Ext renaming new->M5
open Wb.MonoW renaming mono->Ge
open Wb.Same renaming tup->GL
open Wb.SrcR renaming mono->PM
namespace L2
open PySem PySem.Spec PyProof.Rows
section
variable{X:Cx}{K:EL}{w:Fh}
theorem p7{ns:List Bool}:∀{us:List EM},Vals (ns.map PL) us->LSm.BoolsAre us ns:=by
 induction ns with
 |nil=>intro us r;cases r;exact .nil
 |cons b r ih=>intro us h;cases h with|cons h1 h2=>cases h1;exact .cons b (ih h2)
theorem jL(hc:1 X.calm)(hK:X.K=K):ee X (.builtin "all") (λxs H Q=>∃(p:Addr)(bs:List Bool),xs=[.ref p]/\SqL K H p (bs.map PL)/\Q (.bl<|bs.all id) H):=by
 subst hK;intro Z_ s M H xs us Q I r h;obtain⟨p,bs,rfl,hq,q⟩:=h;obtain⟨u,rfl,rx⟩:=ft r;cases rx;obtain⟨its,r',pl,hz⟩:=I.list hq;have hb:=p7 r';have hl:=pl.isList;have hlt:p<`P:=by obtain⟨_,e,_⟩:=hl;exact EU e
 refine call_all_walk (Js hl ?_);refine⟨`P,[s.heap.objs.size,p],[s.heap.objs.size],its.toArray.size,_,_,λi=>(bs[i]?).getD true,`a,Walks.list (A:=X.A.in1) (I.ok.hd hc) _ p (Fd hlt) its.toArray,⟨⟨_,ES _ `a,`a,`a⟩,hl.push _⟩,λi v s' Q' E' hP hQ=>?_,λh' tk hk=>?_⟩
 ·obtain⟨b,e,rfl⟩:=hb.get i v (by simpa using hP);simp only[e,GQ]at hQ;exact Hy hQ
 ·have e:((FP its.toArray.size).all λi=>(bs[i]?).getD true)=bs.all id:=by
   rw[EW,hb.length];exact LSm.range_all bs
  rw[e];exact⟨.bl _,H,I.kept<|LSm.kept_iter hk,`a,q⟩
end
end L2
namespace Wb
open PySem L2 Mi
variable{Er:Nat->Prop}
section
variable{Z β γ δ:Type}{t ta tb tc:TE}{M:St}{W W0 W':Wd}{K:EL}{w:Fh}
theorem kD{a n r:Int}(hc:0<=n/\n<=1000000/\a.natAbs<2^64)(hr:a^n.toNat=r):4 (dO (rI By λi j=>.int<|i^j.toNat) (tC<|.int a)<|tC<|.int n) isI (.ok r):=λW1 e1 Q k=>⟨a,n,`a,`a,hc,by show Q (.int<|a^n.toNat) W1.H;rw[hr];exact k _ W1 `q `a⟩
def isScr(K:EL):Rp `H:=λH ns v=>∃a,v=.ref a/\SqL K H a (ns.map Im)
instance zkeep17:Mono (isScr K):=⟨λe⟨a,h1,h2⟩=>⟨a,h1,e.seq h2⟩⟩
theorem mN{ma:11 Int}(ha:4 ta (isScr K) ma):4 (ff (λxs H Q=>∃x n,xs=[x]/\oK K x H n/\Q (.int n) H)<|ax ta bc) isI (36<|.ok (a.length:Int)):=41 W1 e1 _ (40 k<|by
  obtain⟨p,rfl,h1⟩:=hx;exact⟨_,a.length,`a,.inl<|9 (W2.ok.seq h1) `f,ka _ W2 e2 `a⟩)
theorem vi{ma:11 Int}{mb:`C}(ha:4 ta (isScr K) ma)(hb:4 tb isI mb):4 (dO (cP K) ta tb) isI (36<|mb.bind λb=>dG a b):=
 qc ha hb λW a b x y Q hx hy k=>by
  cases hy;obtain⟨p,rfl,h1⟩:=hx;obtain⟨c,h4,h5⟩:=dR k;have lr:LR isI W.G a (a.map Im):=⟨`f,λi v m e1 e2=>by rw[ET,e2]at e1;cases e1;rfl⟩
  obtain⟨z,h6,h7⟩:=rH lr h4;exact⟨p,_,b,z,`a,`a,W.ok.seq h1,h6,h5 _ W `q h7⟩
theorem nL{ma:`x}(ha:4 ta isB ma):4 (ff (λxs H Q=>(∃i,xs=[.int i]/\Q (.int i) H)\/∃k,xs=[.bl k]/\Q (.int (if k then 1 else 0)) H)<|ax ta bc) isI (36<|.ok (if a then(1:Int)else 0)):=41 W1 e1 _ (40 k<|by cases hx;exact .inr ⟨a,`a,ka _ W2 e2 `a⟩)
theorem l8{R:`k}{W1 W2:Wd}{xs:`r}{vs:`u}{Q:VK}(h:LR R W2.G xs vs)(e:Ext W1 W2)(k:∀p W2,Ext W1 W2->W1.H p=`c->Ow R W2 p xs->Q `E W2.H)(r:Addr)(hr:W2.H r=`c):Q (.ref r) (cT W2.H r<|.lst vs):=
 k r (W2.mut r (.lst vs)<|W2.gnone hr) (e.trans<|.own _ hr) (none_of e.h hr) ⟨W2.gnone hr,vs,aG,h⟩
theorem ji{R:`k}{ma:11 Z}(ha:EV Er ta M W (pk R) ma):EVo Er (ff (λxs H Q=>∃p ys,xs=[.ref p]/\(SqL K H p ys\/SqT K H p ys)/\∀l,H l=`c->Q (.ref l) (cT H l<|.lst ys))<|ax ta bc) M W R ma:=41 W1 e1 _ (k.imp λa ka x W2 e2 hx=>by
  obtain⟨p,vs,rfl,h1,h2⟩:=hx;exact⟨p,vs,`a,.inl<|GD h1,λl hl=>l8 h2 e2 ka l hl⟩)
theorem LR.ints{H:Hp}{ns:`H}{vs:`u}(h:LR isI H ns vs):vs=ns.map Im:=by
 refine GX λi=>?_;rw[ET];cases e:ns[i]? with
 |none=>rw[FN]at e;rw[FN.mpr (by rw[h.1];exact e)];rfl
 |some m=>obtain⟨v,a,b⟩:=h.get e;rw[a];cases b;rfl
theorem LR.bools{H:Hp}{ns:List Bool}{vs:`u}(h:LR isB H ns vs):vs=ns.map PL:=by
 refine GX λi=>?_;rw[ET];cases e:ns[i]? with
 |none=>rw[FN]at e;rw[FN.mpr (by rw[h.1];exact e)];rfl
 |some m=>obtain⟨v,a,b⟩:=h.get e;rw[a];cases b;rfl
theorem Am{ma:11 Int}(ha:EV Er ta M W (pk isI) ma):4 (ff (λxs H Q=>∃(p:Addr)(ns:List Int),xs=[.ref p]/\SqL K H p (ns.map Im)/\Q (.int ns.sum) H)<|ax ta bc) isI (36<|.ok a.sum):=41 W1 e1 _ (40 k<|by
  obtain⟨p,vs,rfl,h1,h2⟩:=hx;exact⟨p,a,`a,GD<|by rw[h1,h2.ints],ka _ W2 e2 `a⟩)
theorem qu{ma:11 Bool}(ha:EV Er ta M W (pk isB) ma):4 (ff (λxs H Q=>∃(p:Addr)(bs:List Bool),xs=[.ref p]/\SqL K H p (bs.map PL)/\Q (.bl<|bs.all id) H)<|ax ta bc) isB (36<|.ok<|a.all id):=41 W1 e1 _ (40 k<|by
  obtain⟨p,vs,rfl,h1,h2⟩:=hx;exact⟨p,a,`a,GD<|by rw[h1,h2.bools],ka _ W2 e2 `a⟩)
theorem kE{ma mb:`C}(ha:4 ta isI ma)(hb:4 tb isI mb):4 (ff (λxs H Q=>∃i j,xs=[.int i,.int j]/\Q (.int (if j>i then j else i)) H)<|ax ta<|ax tb bc) isI (36<|mb.bind λb=>.ok (if b>a then b else a)):=41 W1 e1 _ (40 k<|hb W2 `D _ (5 ka λb kb y W3 e3 hy=>by cases hx;cases hy;exact⟨a,b,`a,kb _ W3 `L `a⟩))
theorem vj{f:Z->V}{g:β->Key}[DecidableEq β](hg:∀a b,g a=g b->a=b)(kvs:7 β Z)(k:β):j5 (kvs.map λp=>(g p.1,f p.2)) (g k)=(look kvs k).map f:=by
 induction kvs with
 |nil=>rfl
 |cons p r ih=>
  unfold look at ih ⊢;rw[FQ];by_cases z:p.1=k;·rw[i4 (by rw[z]),List.find?_cons_of_pos `W];rfl
  ·rw[i5 λe=>z (hg _ _ e),ih,List.find?_cons_of_neg `W]
theorem rL{R:`k}{Rk:Rp β}[DecidableEq β]{d:Addr}{kv:7 Key V}{kvs:7 β Z}{f:Z->V}{g:β->Key}(hg:∀a b,g a=g b->a=b)(hf:∀H a,R H a (f a))(hk:∀H b v,Rk H b v->v=kV (g b))(D:DictK K w d kv)(e:kv=kvs.map λp=>(g p.1,f p.2)){m:Res β}(h:4 t Rk m):
  4 (bq K w (tC<|.ref d) t) R (m.bind λk=>getD kvs k):=λW1 e1 Q k=>h W1 e1 _ (5 k λb kb v W2 e2 hv=>by
  obtain⟨a,h1,h2⟩:=dR kb;refine⟨d,kv,g b,f a,`a,D,hk _ _ _ hv,?_,h2 _ W2 e2<|hf _ _⟩;rw[e,vj hg,h1];rfl)
theorem Dv:∀a b:Tx,(Ia (aU a):Key)=Ia (aU b)->a=b:=λa b e=>rq (OU e)
theorem Dw:∀a b:Int,(I9 a:Key)=I9 b->a=b:=λa b e=>OT e
theorem tF{d:Addr}{kv:7 Key V}{kvs:7 Tx Int}(D:DictK K w d kv)(e:kv=kvs.map λp=>(Ia (aU p.1),Im p.2)){m:`J}(h:4 t isS m):4 (bq K w (tC<|.ref d) t) isI (m.bind λk=>getD kvs k):=rL (R:=isI) (f:=Im) (g:=λa=>Ia (aU a)) Dv `j (λ_ _ _ h=>h) D e h
theorem tG{d:Addr}{kv:7 Key V}{kvs:7 Int Tx}(D:DictK K w d kv)(e:kv=kvs.map λp=>(I9 p.1,Jo (aU p.2))){m:`C}(h:4 t isI m):4 (bq K w (tC<|.ref d) t) isS (m.bind λk=>getD kvs k):=rL (R:=isS) (f:=λa=>Jo (aU a)) (g:=λa=>I9 a) Dw `j (λ_ _ _ h=>h) D e h
theorem l9{ma:`C}{mb:11 Int}(ha:4 ta isI ma)(hb:EV Er tb M W (pk isI) mb):4 (dO (gV K true) ta tb) isB (ma.bind λa=>mb.bind λb=>.ok<|!b.contains a):=
 qc ha hb λW a b x y Q hx hy k=>by
  cases hx;obtain⟨p,vs,rfl,h1,h2⟩:=hy;refine⟨p,vs,rfl,.inl (GD h1),rfl,by rw[h2.ints];simp[L2.flatV],?_⟩;have e:Cp (.int a) vs=b.contains a:=by
   rw[h2.ints];unfold Cp;rw[List.any_map,Ga];simp[L2.eqV]
   try exact⟨λ⟨x,h,e⟩=>by subst e;exact h,λh=>⟨a,h,`a⟩⟩
  rw[Z0 `a,e];exact k _ W `q `a
theorem vm{R:`k}[Mono R]{ma:11 Z}(ha:EV Er ta M W (pk R) ma):4 (ff (λxs H Q=>∃p ys,xs=[.ref p]/\((SqL K H p ys/\∀l,H l=`c->Q (.ref l) (cT H l<|.tup ys))\/SqT K H p ys/\Q `E H))<|ax ta bc) (isT3 K R R R) (36<|Ai a):=41 W1 e1 _ (40 k<|by
  obtain⟨p,vs,rfl,h1,h2⟩:=hx
  match a,ka,h2 with
  | [a,b,c],ka,h2=>
   match vs,h2.1,h2,h1 with
   | [x,y,z],_,h2,h1=>
    refine⟨p,_,`a,.inl ⟨GD h1,λl hl=>ka (.ref l) (W2.new l<|.tup [x,y,z]) (e2.trans<|.new _ hl) ⟨l,x,y,z,`a,Na aG,?_,?_,?_⟩⟩⟩;·exact ED (M5 _ hl).g (h2.2 0 x a `a `a)
    ·exact ED (M5 _ hl).g (h2.2 1 y b `a `a)
    ·exact ED (M5 _ hl).g (h2.2 2 z c `a `a))
def EqK(K:EL)(H:Hp):Nat->V->V->Prop
  |0,v,u=>v=u/\1 (flat v)
  |n+1,v,u=>v=u/\1 (flat v)\/∃p q xs ys,v=`E/\u=.ref q/\(0 (H p) (.lst xs)/\0 (H q) (.lst ys)\/SqT K H p xs/\SqT K H q ys)/\`i=ys.length/\∀(i:Nat)(x y:V),0 xs[i]? x->0 ys[i]? y->EqK K H n x y
theorem EqK.same{H H':Hp}(e:Same H H'):∀{n:Nat}{v u:V},EqK K H n v u->EqK K H' n v u
 |0,_,_,h=>h
 |n+1,_,_,h=>by
  rcases h with h|⟨p,q,xs,ys,h1,h2,h3,h4,h5⟩
  ·exact .inl h
  ·refine .inr ⟨p,q,xs,ys,h1,h2,?_,h4,λi x y e1 e2=>EqK.same e<|h5 i x y e1 e2⟩;rcases h3 with⟨a,b⟩|⟨a,b⟩
   ·exact .inl ⟨e _ _ a,e _ _ b⟩
   ·exact .inr ⟨GL e a,GL e b⟩
theorem EqK.flat{H:Hp}{n:Nat}{v:V}(h:1 (L2.flat v)):EqK K H n v v:=by cases n with|zero=>exact⟨rfl,h⟩|succ n=>exact .inl ⟨rfl,h⟩
class EqR(K:EL){Z:Type}(R:`k)(n:outParam Nat):Prop where
 eq:∀H a v u m,n<=m->R H a v->R H a u->EqK K H m v u
instance zkeep18:EqR K isI 0:=⟨λH a v u m _ h1 h2=>by cases h1;cases h2;exact .flat `a⟩
instance zkeep20:EqR K isB 0:=⟨λH a v u m _ h1 h2=>by cases h1;cases h2;exact .flat `a⟩
instance zkeep22{R:`k}{n:Nat}[EqR K R n]:EqR K (isO R) n:=⟨λH a v u m hm h1 h2=>by
 cases a with
 |none=>cases h1;cases h2;exact .flat `a
 |some a=>exact EqR.eq H a v u m hm h1.1 h2.1⟩
end
end Wb
namespace L2
open PySem PySem.Spec PyProof.Rows
section
variable{X:Cx}{K:EL}{w:Fh}{o e:Expr}{to:TE}{t:TA}{Z5 Z6:Pos}
def BP(K:EL):V->`u->8 Hp VK:=λx xs H Q=>∃(p:Addr)(ys:List (List Nat)),x=.str (aU [])/\xs=[.ref p]/\SqL K H p (ys.map λy=>Jo<|aU y)/\ys.flatten.length<=100000/\Q (.str<|aU ys.flatten) H
def BQ:V->`u->8 Hp VK:=λx xs H Q=>∃a b,x=.str a/\xs=[.str b]/\0<=Kl a b/\Q (.int<|Kl a b) H
abbrev Dx(X:Cx)(Z6:Pos)(e:Expr):Prop:=1 ((backTo Z6<|32 [e]).all (λx=> !x.1)&&(backToKw Z6<|keywordEach [] X.env).all (λx=>x.1.isSome)&&decide ([e].length+([]:List Lh).length+(if([]:List Lh).isEmpty then 0 else 1)<30))
theorem la(h:X.K=K):ee X (.type "tuple") (λxs H Q=>∃p ys,xs=[.ref p]/\((SqL K H p ys/\∀l,H l=`c->Q (.ref l) (cT H l<|.tup ys))\/SqT K H p ys/\Q `E H)):=h▸lV
theorem lb(h:X.K=K)(ho:PE X o to)(ha:PA X [e] t)(hbase:attributeBase o "join" X.env (26 o)=26 o:=by rfl)(hfew:Dx X Z6 e:=by rfl)(hline:1 (Z5.endLine==Z6.line):=by rfl)(hs:32 [e]=(false,26 e)::32 []:=by rfl)(hplain:(backTo Z6<|32 []).any (·.1)=`g:=by rfl):
  PE X (.Call (.Attribute o "join" Z5) [e] [] Z6) (fS K "str" (BP K) to t):=j8 (K:=K) h Jv PySem.F.slot_str_join PySem.F.type_str_join (uU (K:=K) h) ho ha hbase hfew hline hs hplain
theorem gy(h:X.K=K)(hc:1 X.calm)(ho:PE X o to)(ha:PA X [e] t)(hbase:attributeBase o "index" X.env (26 o)=26 o:=by rfl)(hfew:Dx X Z6 e:=by rfl)(hline:1 (Z5.endLine==Z6.line):=by rfl)(hs:32 [e]=(false,26 e)::32 []:=by rfl)(hplain:(backTo Z6<|32 []).any (·.1)=`g:=by rfl):
  PE X (.Call (.Attribute o "index" Z5) [e] [] Z6) (fS K "str" BQ to t):=j8 (K:=K) h Jv PySem.F.slot_str_index PySem.F.type_str_index (uM hc) ho ha hbase hfew hline hs hplain
theorem d5(h:X.K=K)(ho:PE X o to)(ha:PA X [e] t)(hbase:attributeBase o "append" X.env (26 o)=26 o:=by rfl)(hfew:Dx X Z6 e:=by rfl)(hline:1 (Z5.endLine==Z6.line):=by rfl)(hs:32 [e]=(false,26 e)::32 []:=by rfl)(hplain:(backTo Z6<|32 []).any (·.1)=`g:=by rfl):
  PE X (.Call (.Attribute o "append" Z5) [e] [] Z6) (fS K "list" aS to t):=j8 (K:=K) h HB LA PySem.F.type_list_append sS ho ha hbase hfew hline hs hplain
end
end L2
namespace Wb
open PySem L2 Mi
variable{Er:Nat->Prop}
section
variable{Z β γ δ:Type}{t t1 t2 t3 ta tb tc:TE}{M:St}{W W0 W':Wd}{K:EL}{w:Fh}
class NN{Z:Type}(R:`k):Prop where
 nn:∀H a v,R H a v->v≠.non
instance zkeep26:NN isI:=⟨λ_ _ _ h=>by cases h;exact λz=>nomatch z⟩
instance zkeep27:NN isS:=⟨λ_ _ _ h=>by cases h;exact λz=>nomatch z⟩
theorem eT{R:`k}[NN R]{m:Res Z}(h:4 t R m):4 t (isO R) (m.bind λa=>.ok<|some a):=λW1 e1 Q k=>h W1 e1 _ (45 k<|ka v W2 e2 ⟨hv,NN.nn _ _ _ hv⟩)
theorem dZ{R:`k}{m:Res (Option Z)}(h:4 t (isO R) m):4 t R (m.bind λa=>gW a):=λW1 e1 Q k=>h W1 e1 _ (45 k<|by
  obtain⟨b,rfl,hb⟩:=dR ka;exact hb v W2 e2 hv.1)
theorem vn{xs:`r}{ys:List β}{zs:List γ}{i:Nat}{p:Z×β×γ}(h:0 (xs.zip<|ys.zip zs)[i]? p):0 xs[i]? p.1/\0 ys[i]? p.2.1/\0 zs[i]? p.2.2:=by
 rw[FV]at h;obtain⟨h1,h2⟩:=h;rw[FV]at h2;exact⟨h1,h2.1,h2.2⟩
theorem ya{R1:`k}{R2:Rp β}{R3:Rp γ}[Mono R1][Mono R2][Mono R3]{m1:11 Z}{m2:11 β}{m3:11 γ}(h1:SV Er t1 M W K R1 m1)(h2:SV Er t2 M W K R2 m2)(h3:SV Er t3 M W K R3 m3):IV Er (zE K<|ax t1<|ax t2<|ax t3 bc) M W (isT3 K R1 R2 R3) (m1.bind λxs=>m2.bind λys=>m3.bind λzs=>.ok<|xs.zip<|ys.zip zs):=λW1 e1 P k=>h1 W1 e1 _ (5 k λxs kx v W2 e2 hv=>h2 W2 `D _<|5 kx λys ky u W3 e3 hu=>h3 W3 ((`D).trans e3) _ (5 ky λzs kz r W4 e4 hr=>by
  obtain⟨c1,vs,rfl,a1,b1⟩:=PM hv (e3.trans e4).g;obtain⟨c2,us,rfl,a2,b2⟩:=PM hu e4.g;obtain⟨c3,rs,rfl,a3,b3⟩:=hr;refine⟨c1,c2,c3,vs,us,rs,`a,a1 W4 `q,a2 W4 `q,a3 W4 `q,kz _ W4 ((`L).trans e4) λW5 e5=>⟨λi ab hab=>?_,?_⟩⟩
  ·obtain⟨q1,q2,q3⟩:=vn hab;obtain⟨x,hx,rx⟩:=b1.get q1;obtain⟨y,hy,ry⟩:=b2.get q2;obtain⟨z,hz,rz⟩:=b3.get q3;refine⟨⟨vs,us,rs,x,y,z,a1 W5 e5,a2 W5 e5,a3 W5 e5,hx,hy,hz⟩,λo H'⟨p,x',y',z',hp,z0,z1,z2,z3,z4⟩=>⟨W5.new p (.tup [x',y',z']),by rw[z4];rfl,.new _ hp,p,x',y',z',z0,Na aG,?_,?_,?_⟩⟩
   ·have:=z1 vs (a1 W5 e5);rw[hx]at this;cases this;exact ED (e5.trans (M5 _ hp).g) rx
   ·have:=z2 us (a2 W5 e5);rw[hy]at this;cases this;exact ED (e5.trans (M5 _ hp).g) ry
   ·have:=z3 rs (a3 W5 e5);rw[hz]at this;cases this;exact ED (e5.trans (M5 _ hp).g) rz
  ·refine⟨vs,us,rs,a1 W5 e5,a2 W5 e5,a3 W5 e5,?_⟩;rw[Jf,Jf,b1.1,b2.1,b3.1];omega))
theorem vo{ma:11 Int}(ha:EV Er ta M W (pk isI) ma):EVo Er (ff (λxs H Q=>∃(p:Addr)(ns:List Int),xs=[.ref p]/\SqL K H p (ns.map Im)/\ns.length<64/\∀(q:Addr)(ns':List Int),H q=`c->ns'.Perm ns->ns'.Pairwise (· <= ·)->Q (.ref q) (cT H q<|.lst<|ns'.map Im))<|ax ta bc) M W isI (36<|vb a):=41 W1 e1 _ (40 k<|by
  obtain⟨p,vs,rfl,h1,h2⟩:=hx;obtain⟨h3,h4⟩:=ba ka;refine⟨p,a,`a,GD<|by rw[h1,h2.ints],h3,λq ns' hq hp hs=>?_⟩;rw[tD hp hs];exact l8 (vs:=(jG a).map Im) ⟨`f,λi v m e1 e2=>by rw[ET,e2]at e1;cases e1;rfl⟩ e2 h4 q hq)
theorem gz{R1:`k}{R2:Rp β}{d:Addr}{x y:V}{a:Z}{b:β}(T:∀H,SqT K H d [x,y])(h1:∀H,R1 H a x)(h2:∀H,R2 H b y):4 (tC<|.ref d) (isT2 K R1 R2) (.ok (a,b)):=λW1 _ Q k=>k _ W1 `q ⟨d,x,y,`a,T _,h1 _,h2 _⟩
theorem gI(i:Int):∀H,isI H i (.int i):=λ_=>`a
end
end Wb
namespace Mi
theorem dU{a b:Int}(h:0<b):gY a b=.ok (a%b):=bE h
theorem p8{a b:Int}(h1:0<b)(h2:b<1073741824):l4 a b=.ok (a/b):=bE ⟨h1,h2⟩
theorem lg{a b:Int}(h1: -18446744073709551616<a)(h2:a<18446744073709551616):ko a b=.ok (a*b):=bE (.inl ⟨h1,h2⟩)
theorem p9{a b:Int}(h1: -18446744073709551616<b)(h2:b<18446744073709551616):ko a b=.ok (a*b):=bE (.inr ⟨h1,h2⟩)
theorem gf{Z:Type}{xs:`r}{x:Z}(h:`i<100000):gZ xs x=.ok (xs++[x]):=bE h
theorem cD{a b:Tx}(h:a.length+b.length<=100000):cY a b=.ok (a++b):=bE h
theorem nM{Z:Type}{a b:`r}(h:a.length+b.length<=100000):tx a b=.ok (a++b):=bE h
theorem iE{a:Tx}(h:a.length<=100000):oX a=.ok (a.length:Int):=bE h
theorem yb{c:Nat}{n:Int}(h0:0<=n)(h1:n<=100000):Ah [c] n=.ok (Hu n.toNat c):=bE ⟨h0,h1⟩
theorem gP{a:Tx}{lo hi:`w}(h:a.length<=100000):fu a lo hi=.ok (cut a lo hi):=bE h
theorem pf{xs:List Tx}(h:xs.flatten.length<=100000):oY xs=.ok xs.flatten:=bE h
theorem jM{n:Nat}(h:n<=100000):fb (n:Int)=.ok ((FP n).map λ(i:Nat)=>(i:Int)):=by
 unfold fb;rw[bE ⟨`b,`b⟩];simp[gp]
theorem fq{Z:Type}{xs:`r}{i:Int}(h0:0<=i)(h1:i<`i):∃x,dG xs i=.ok x/\0 xs[i.toNat]? x:=by
 obtain⟨h,e⟩:=uY h0 h1;exact⟨xs[i.toNat],by unfold dG;rw[e];rfl,by simp[h]⟩
theorem iF{x:Tx}{i:Int}(h0:0<=i)(h1:i<`F)(h2:`F<=100000):∃c,gc x i=.ok [c]/\0 x[i.toNat]? c:=by
 obtain⟨h,e⟩:=uY h0 h1;refine⟨x[i.toNat],?_,by simp[h]⟩;unfold gc;rw[bE h2];show(gW<|rB x i).bind _=_;rw[e];rfl
theorem An{x:Tx}{i:Int}(h0:0<=i)(h1:i<`F)(h2:`F<=100000):gc x i=.ok [x[i.toNat]?.getD 0]:=by
 obtain⟨c,e,h⟩:=iF h0 h1 h2;rw[e,h];rfl
theorem yc{Z:Type}{xs:`r}{i:Int}{x:Z}(h0:0<=i)(h1:i<`i):kq xs i x=.ok (xs.set i.toNat x):=by
 unfold kq ixN;rw[Z0 h0,Z0 h1];rfl
theorem vp{Z:Type}[DecidableEq Z]{a b:Z}(h:a=b):BL a b=.ok true:=Z0 h
theorem vq{xs:`H}(h:`i<64):vb xs=.ok (jG xs):=bE h
theorem di{Z S:Type}{f:Z->S->Res S}(I:8 `r S)(xs:`r)(s0:S)(h0:I [] s0)(step:∀pre a post s,xs=pre++a::post->I pre s->∃s',f a s=.ok s'/\I (pre++[a]) s'):
  ∃s,bO f xs s0=.ok s/\I xs s:=by
 have key:∀(post pre:List Z)(s:S),xs=pre++post->I pre s->∃s',bO f post s=.ok s'/\I xs s':=by
  intro post
  induction post with
  |nil=>intro pre s e h;rw[Hj]at e;subst e;exact⟨s,`a,h⟩
  |cons a r ih=>
   intro pre s e h;obtain⟨s1,e1,h1⟩:=step pre a r s e h;obtain⟨s2,e2,h2⟩:=ih (pre++[a]) s1 (by rw[e];simp) h1;exact⟨s2,by unfold bO;rw[e1];exact e2,h2⟩
 exact key xs [] s0 `a h0
theorem jN{Z γ:Type}{f:Z->Unit->Res (Fl γ Unit)}{g:Z->Option γ}(xs:`r)(step:∀a∈xs,f a ()=.ok (match g a with|some r=>.rt r|none=>.nx ())):eS f xs ()=.ok (match xs.findSome? g with|some r=>.rt r|none=>.nx ()):=by
 induction xs with
 |nil=>rfl
 |cons a r ih=>
  unfold eS;rw[step a<|Fc ..];cases h:g a with
  |some z=>simp[h,va]
  |none=>simp only[EG,va,Kd,h];exact ih λb hb=>step b (Fe _ hb)
theorem ph{Z β:Type}{f:Z->Res (Option β)}{g:Z->Option β}:∀{xs:List Z},(∀x∈xs,f x=.ok (g x))->jg f xs=.ok (xs.filterMap g)
 | [],_=>rfl
 |a::r,h=>by
  unfold jg;rw[h a<|Fc ..,EG,ph λx hx=>h x (Fe _ hx),EG,Ib];cases g a<;>rfl
theorem vt{Z β:Type}{f:Z->Res (Option β)}{g:Z->Option β}{xs:`r}(hl:`i<=100000)(h:∀x∈xs,f x=.ok (g x)):rD xs f=.ok (xs.filterMap g):=by
 unfold rD;rw[bE hl,EG,ph h]
theorem rM(l:List Nat):((l.map λc=>[c]):List Tx).flatten=l:=by induction l with|nil=>rfl|cons a r ih=>simp[ih]
theorem gA{Z:Type}(l:`r)(k:Nat):cut l `c (some (k:Int))=l.take k:=by
 unfold cut sIx;simp only[];rw[Z1 `b,Gv];simp[List.take_eq_take_iff]
theorem lh{Z:Type}(l:`r)(k:Nat):cut l (some (k:Int)) `c=l.drop k:=by
 unfold cut sIx;simp only[];rw[Z1 `b,Gv];by_cases h:k<=l.length;·rw[Ni h,HF `f]
 ·rw[Nat.min_eq_right `b,Jw `b,Jw `b];simp
theorem fc{x:Tx}{t:Tx}(h:t∈bF x):∃c∈x,t=[c]:=by
 unfold bF at h;obtain⟨c,hc,e⟩:=Fo.mp h;exact⟨c,hc,e.symm⟩
theorem yd(a:Int):0<=cy a:=by unfold cy;split<;>omega
section
variable{Z β:Type}{P:Z->Prop}{Q:β->Prop}
theorem fB{m:Res Z}{f:Z->Res β}(h:m.Ok λa=>(f a).Ok Q):(m.bind f).Ok Q:=Res.bind_ok h
theorem zF{b:Bool}{A B:Res Z}(h1:1 b->A.Ok P)(h2:b=`g->B.Ok P):(if 1 b then A else B).Ok P:=by
 cases b with
 |true=>exact h1 `a
 |false=>exact h2 `a
theorem iG{c:Prop}[Decidable c]{A B:Res Z}(h1:c->A.Ok P)(h2:¬c->B.Ok P):(if decide c=true then A else B).Ok P:=by
 by_cases h:c;·rw[decide_eq_true h];exact h1 h
 ·rw[decide_eq_false h];exact h2 h
theorem dC{a:Z}(h:P a):(EJ a).Ok P:=h
theorem BR{m:Res Z}{a:Z}(e:m=.ok a)(h:P a):m.Ok P:=by rw[e];exact h
end
theorem rN{Z:Type}(x:`r)(lo hi:`w):(cut x lo hi).length<=`F:=by
 unfold cut;rw[GP,Ha];omega
def jj{κ Z:Type}[DecidableEq κ](kvs:7 κ Z)(k:κ)(a:Z):7 κ Z:=
 if 1 (kvs.any λkv=>decide<|kv.1=k) then kvs.map (λkv=>if kv.1=k then(kv.1,a)else kv)else kvs++[(k,a)]
end Mi
namespace Wb
open PySem L2 Mi
variable{Er:Nat->Prop}
section
variable{Z β γ δ:Type}{t t1 t2 t3 t4 ta tb tc td:TE}{M:St}{W W0 W':Wd}{K:EL}{w:Fh}
def iH(K:EL):Nat->Sp
 |0=>λ_ _ _ _=>False
 |n+1=>λvs H Q _=>∃v u,vs=[v,u]/\((EqK K H n v u/\∀H',Same H H'->Q (.bl true) H')\/∃x y,v=.str x/\u=.str y/\Q (.bl<|decide<|Jo x=Jo y) H)
theorem pj[DecidableEq Z]{R:`k}[Mono R]{n N:Nat}[EqR K R n]{E:XK}{ma mb:Res Z}(hn:n<N)(ha:4 ta R ma)(hb:4 tb R mb):4 (bu (iH K N) [] E<|ax ta<|ax tb bc) isB (36<|mb.bind λb=>BL a b):=41 W1 e1 _ (40 k<|hb W2 `D _ (5 ka λb kb y W3 e3 hy=>by
  unfold BL at kb;by_cases z:a=b
  ·rw[Z0 z]at kb;subst z;cases N with
   |zero=>omega
   |succ N=>
    refine⟨x,y,`a,.inl ⟨EqR.eq W3.H a x y N `b (ED W3.ok<|ED (R:=R) e3.g hx)<|ED W3.ok hy,λH' hs=>?_⟩⟩;exact kb (.bl true) ⟨W3.G,H',W3.ok.trans hs⟩ ⟨e2.g.trans e3.g,(e2.h.trans e3.h).trans hs,λp hp=>(`L).k p hp⟩ `a
  ·rw[Z1 z]at kb;exact kb.elim))
theorem nN{D:Ends}{i:Nat}{te:TE}{a:Int}{m:`C}{f:Int->Int->Int}{σ':Int->St}(h:4 te isI m)(q:m.OkE Er λb=>∀W',Ext W W'->D.nx (σ'<|f a b) W'.H)(hi:0 M[i]? (6 a):=by rfl)(hσ:∀c,M.set i (6 c)=σ' c:=by intro _;rfl):xH i te (Ck f) D M W.H:=
 ⟨.int a,hi,h W `q _ (q.imp λb kb v W' e hv=>by cases hv;exact⟨a,b,`a,`a,by have:=kb W' e;rw[<-hσ]at this;exact this⟩)⟩
theorem tH{D:Ends}{r:TS}{i:Nat}{te:TE}{a:Int}{m:`C}{f:Int->Int->Int}{σ':Int->St}(h:4 te isI m)(q:m.OkE Er λb=>∀W',Ext W W'->r D (σ'<|f a b) W'.H)(hi:0 M[i]? (6 a):=by rfl)(hσ:∀c,M.set i (6 c)=σ' c:=by intro _;rfl):iR (xH i te<|Ck f) r D M W.H:=nN (D:={D with nx:=r D}) h q hi hσ
theorem EV.go{W1:Wd}{R:Rw Z}{m:Res Z}{Q:VK}(e:Ext W W1)(h:EV Er t M W R m)(k:m.OkE Er λa=>∀v W2,Ext W1 W2->R W2 a v->Q v W2.H):t M W1.H Q:=h W1 e Q k
theorem vz{X:Cx}{st:Stmt}:PS X st A2:=λ_ _ _ _ _ _ h=>h.elim
end
end Wb
namespace Mi
def fV{S:Type}(c:S->`x)(f:S->Res S):Nat->S->Res S
 |0,_=>.stuck
 |n+1,s=>(c s).bind λb=>if b then(f s).bind λs'=>fV c f n s' else .ok s
end Mi
namespace Wb
open PySem L2 Mi
section
variable{Er:Nat->Prop}{K:EL}{W0 W W':Wd}{p:Addr}{s:List Fr}{te:TE}{M:St}{D:Ends}{i a b:Nat}{r:TS}{E:XK}
theorem vA{S:Type}{tc:TT}{tb:TS}{c:S->`x}{f:S->Res S}{s0:S}{P:S->Prop}{n:Nat}(Iv:S->Wd->St->Prop)(q:(fV c f n s0).OkE Er P)(h0:Iv s0 W M)
  (hm:∀W1 W2 s σ1,Ext W1 W2->Iv s W1 σ1->Iv s W2 σ1)
  (hc:∀W1 s σ1,Same W.G W1.G->Iv s W1 σ1->TV Er tc σ1 W1 (c s))
  (hs:∀Wb W1 s σ1 P',Same W.G W1.G->Same Wb.G W1.G->Iv s W1 σ1->(f s).OkE Er P'->tb {D with nx:=qd Wb Iv P',ct:=qd Wb Iv P',bk:=D.nx} σ1 W1.H)
  (hd:∀s W1 σ1,Same W.G W1.G->Iv s W1 σ1->P s->D.nx σ1 W1.H):qg tc tb D M W.H:=by
 refine⟨λm σ' H'=>∃s' W',W'.H=H'/\Same W.G W'.G/\Iv s' W' σ'/\(fV c f m s').OkE Er P,⟨n,s0,W,`a,`q,h0,q⟩,?_⟩;rintro m σ1 H1 ⟨s,W1,rfl,e1,iv,k⟩;cases m with
 |zero=>exact k.elim
 |succ m=>
  refine hc W1 s σ1 e1 iv W1 `q _ (5 k λb kb W2 e2=>?_);cases b with
  |true=>
   refine⟨qd W Iv λs'=>(fV c f m s').OkE Er P,λσ' H'⟨s',W',z1,z2,z3,z4⟩=>⟨m,Ig _,s',W',z1,z2,z3,z4⟩,?_⟩;exact hs W W2 s σ1 _ (e1.trans e2.g) (e1.trans e2.g) (hm W1 W2 s σ1 e2 iv) (EE kb)
  |false=>exact hd s W2 σ1 (e1.trans e2.g) (hm W1 W2 s σ1 e2 iv) kb
section
variable{r:TS}
theorem lj{S:Type}{tc:TT}{tb:TS}{c:S->`x}{f:S->Res S}{s0:S}{P:S->Prop}{n:Nat}(Iv:S->Wd->St->Prop)(q:(fV c f n s0).OkE Er P)(h0:Iv s0 W M)
  (hm:∀W1 W2 s σ1,Ext W1 W2->Iv s W1 σ1->Iv s W2 σ1)
  (hc:∀W1 s σ1,Same W.G W1.G->Iv s W1 σ1->TV Er tc σ1 W1 (c s))
  (hs:∀Wb W1 s σ1 P',Same W.G W1.G->Same Wb.G W1.G->Iv s W1 σ1->(f s).OkE Er P'->tb {D with nx:=qd Wb Iv P',ct:=qd Wb Iv P',bk:=r D} σ1 W1.H)
  (hd:∀s W1 σ1,Same W.G W1.G->Iv s W1 σ1->P s->r D σ1 W1.H):iR (qg tc tb) r D M W.H:=vA (D:={D with nx:=r D}) Iv q h0 hm hc hs hd
end
end
section
variable{Er:Nat->Prop}{Z β:Type}{K:EL}{W W0:Wd}{p:Addr}{ta tb te:TE}{M:St}{D:Ends}{i:Nat}{r:TS}{base:Heap}
theorem LR.rev{R:`k}{H:Hp}{as:`r}{vs:`u}(h:LR R H as vs):LR R H as.reverse vs.reverse:=⟨by simp[h.1],λi v m q1 q2=>by
 have hi:i<`O:=by have:=(ER.mp q1).1;simpa using this
 rw[HN hi]at q1;rw[HN (by rw[<-h.1];exact hi),<-h.1]at q2;exact h.2 _ v m q1 q2⟩
theorem rO{R:`k}[Mono R]{ma:11 Z}(ha:EV Er ta M W (pk R) ma):EVo Er (uV K ta<|bR<|gG (rU λi=>.int<|-i)<|tC<|.int 1) M W R (36<|.ok a.reverse):=41 W1 e1 _ (40 k<|by
  obtain⟨p,vs,rfl,h1,h2⟩:=hx;refine⟨1,rfl, -1,rfl,p,vs,rfl,rfl,GD h1,λq hq=>ka q (W2.mut q (.lst vs.reverse)<|W2.gnone hq) (e2.trans<|.own _ hq) (none_of e2.h hq) ⟨W2.gnone hq,_,aG,LR.rev h2⟩⟩)
end
end Wb
namespace Mi
def nO{Z β:Type}(p:List β×(List β->Z))(j:Int):Res (β×(β->Z)):=(gW<|ixN p.1.length j).bind λk=>(gW p.1[k]?).bind λb=>.ok (b,λb'=>p.2 (p.1.set k b'))
def kF(i j:Int):`H:=(FP (j-i).toNat).map λ(n:Nat)=>i+(n:Int)
def nP(i j:Int):11 Int:=eR (-(2^62)<=i/\i<2^62/\ -(2^62)<=j/\j<2^62) (kF i j)
end Mi
namespace Wb
open PySem L2 Mi
abbrev FS:=Addr->Prop
abbrev Rf(Z:Type):=Wd->FS->8 Z V
theorem nn_of{H:Hp}{q:Addr}{o:HO}(h:0 (H q) o):H q≠`c:=by rw[h];exact λz=>nomatch z
structure MuF(F:FS)(W W':Wd):Prop where
 g:Same W.G W'.G
 h:∀q,¬F q->W.H q≠none->W'.H q=W.H q
 k:∀q,W.H q≠`c->W'.G q=W.G q
 n:∀q,W.H q≠`c->W'.H q≠`c
section
variable{Z β γ:Type}{K:EL}{W W' W0 W1 W2:Wd}{F F' F1:FS}
theorem Ext.keepH(e:Ext W W'){q:Addr}(hn:W.H q≠`c):W'.H q=W.H q:=by
 obtain⟨o,ho⟩:=IY.mp hn;rw[ho];exact e.h _ _ ho
theorem Ext.muF(e:Ext W W'):MuF F W W':=⟨e.g,λq _ hn=>e.keepH hn,e.k,λq hn=>by rw[e.keepH hn];exact hn⟩
theorem MuF.trans(m:MuF F W W1)(m':MuF F1 W1 W2)(hF:∀q,F1 q->F q\/W.H q=`c):MuF F W W2:=⟨m.g.trans m'.g,λq hq hn=>by
 have h1:=m.h q hq hn;have:¬F1 q:=λz=>(hF q z).elim hq hn;rw[m'.h q this (by rw[h1];exact hn),h1],λq hn=>by rw[m'.k q (m.n q hn),m.k q hn],λq hn=>m'.n q (m.n q hn)⟩
theorem MuF.of{p:Addr}{o:HO}(hF:F p)(hg:W.G p=`c):MuF F W (W.mut p o hg):=⟨`q,λq hq hn=>aJ λz=>hq<|z▸hF,`j,λq hn=>by
 show cT W.H p o q≠`c;by_cases z:q=p
 ·rw[z,aG];exact λz=>nomatch z
 ·rw[aJ z];exact hn⟩
class FrT(R:Rf Z):Prop where
 fr:∀{W W':Wd}{F:FS}{a:Z}{v:V},R W F a v->Same W.G W'.G->(∀q,F q->W'.H q=W.H q/\W'.G q=W.G q)->R W' F a v
 lv:∀{W:Wd}{F:FS}{a:Z}{v:V},R W F a v->∀q,F q->W.G q=`c/\W.H q≠`c
theorem FrT.ext{R:Rf Z}[FrT R]{a:Z}{v:V}(t:R W F a v)(e:Ext W W'):R W' F a v:=FrT.fr t e.g λq hq=>⟨e.keepH (FrT.lv t q hq).2,e.k q (FrT.lv t q hq).2⟩
theorem FrT.mu{R:Rf Z}[FrT R]{a:Z}{v:V}(t:R W F a v)(m:MuF F' W W')(dj:∀q,F q->F' q->False):R W' F a v:=FrT.fr t m.g λq hq=>⟨m.h q (dj q hq) (FrT.lv t q hq).2,m.k q (FrT.lv t q hq).2⟩
class FzT(R:Rf Z)(R':outParam `k):Prop where
 fz:∀{W W':Wd}{F:FS}{a:Z}{v:V},R W F a v->Same W.G W'.G->(∀q,F q->W'.G q=W.H q)->R' W'.G a v
def fz(R:`k):Rf Z:=λW F a v=>(∀q,¬F q)/\R W.G a v
instance zkeep44{R:`k}[Mono R]:FrT (fz R):=⟨λh s _=>⟨h.1,ED s h.2⟩,λh q hq=>absurd hq<|h.1 q⟩
instance zkeep45{R:`k}[Mono R]:FzT (fz R) R:=⟨λh s _=>ED s h.2⟩
structure TL(R:Rf Z)(W:Wd)(Fs:Nat->FS)(xs:`r)(vs:`u):Prop where
 len:`O=`i
 el:∀i x u,0 xs[i]? x->0 vs[i]? u->R W (Fs i) x u
 rng:∀i q,Fs i q->i<`i
 dj:∀i j q,Fs i q->Fs j q->i=j
def oL(R:Rf Z):Rf `r:=λW F xs v=>∃(p:Addr)(vs:List V)(Fs:Nat->FS),v=`E/\W.G p=`c/\0 (W.H p) (.lst vs)/\TL R W Fs xs vs/\(∀i,¬Fs i p)/\∀q,F q↔q=p\/∃i,Fs i q
theorem TL.at2{R:Rf Z}{Fs:Nat->FS}{xs:`r}{vs:`u}(t:TL R W Fs xs vs){i:Nat}{q:Addr}(h:Fs i q):∃x u,0 xs[i]? x/\0 vs[i]? u/\R W (Fs i) x u:=by
 have h1:=t.rng i q h;have h2:i<`O:=by rw[t.len];exact h1
 exact⟨xs[i],vs[i],by simp[h1],by simp[h2],t.el i _ _ (by simp[h1])<|by simp[h2]⟩
instance zkeep46{R:Rf Z}[FrT R]:FrT (oL R):=⟨λ⟨p,vs,Fs,e,g,h,t,np,hF⟩s k=>by
 have kp:=k p ((hF p).mpr `G);exact⟨p,vs,Fs,e,by rw[kp.2];exact g,by rw[kp.1];exact h,⟨t.len,λi x u a b=>FrT.fr (t.el i x u a b) s λq hq=>k q<|(hF q).mpr<|.inr ⟨i,hq⟩,t.rng,t.dj⟩,np,hF⟩,λ⟨p,vs,Fs,e,g,h,t,np,hF⟩q hq=>by
 rcases (hF q).mp hq with rfl|⟨i,hi⟩
 ·exact⟨g,nn_of h⟩
 ·obtain⟨x,u,_,_,r⟩:=t.at2 hi;exact FrT.lv r q hi⟩
instance zkeep47{R:Rf Z}{R':`k}[FzT R R']:FzT (oL R) (isL R'):=⟨λ⟨p,vs,Fs,e,g,h,t,np,hF⟩s k=>⟨p,vs,e,by rw[k p ((hF p).mpr `G)];exact h,t.len,λi u x a b=>FzT.fz (t.el i x u b a) s λq hq=>k q ((hF q).mpr<|.inr ⟨i,hq⟩)⟩⟩
structure TC where
 {Z:Type}
 R:Rf Z
 a:Z
 v:V
 i:FrT R
def tc(R:Rf Z)[FrT R](a:Z)(v:V):TC:=⟨R,a,v,inferInstance⟩
def noT:Rf Unit:=λ_ F _ _=>∀q,¬F q
instance zkeep48:FrT noT:=⟨λh _ _=>h,λh q hq=>absurd hq<|h q⟩
def DE:TC:=tc noT () .non
structure SepF(W0 W:Wd)(Fs:Nat->FS)(cs:List TC):Prop where
 el:∀(i:Nat)(c:TC),0 cs[i]? c->c.R W (Fs i) c.a c.v
 rng:∀i q,Fs i q->i<cs.length
 dj:∀i j q,Fs i q->Fs j q->i=j
 nw:∀i q,Fs i q->W0.H q=`c
def Sep(W0 W:Wd)(cs:List TC):Prop:=∃Fs,SepF W0 W Fs cs
variable{cs:List TC}
theorem Sep.nil:Sep W0 W []:=⟨λ_ _=>False,λ_ _ h=>by simp at h,λ_ _ h=>h.elim,λ_ _ _ h=>h.elim,λ_ _ h=>h.elim⟩
theorem SepF.lv{Fs:Nat->FS}(s:SepF W0 W Fs cs){i:Nat}{q:Addr}(h:Fs i q):W.G q=`c/\W.H q≠`c:=by
 have h1:=s.rng i q h;have:=s.el i cs[i] (by simp[h1]);exact @FrT.lv _ _ cs[i].i _ _ _ _ this q h
theorem Sep.ext(s:Sep W0 W cs)(e:Ext W W'):Sep W0 W' cs:=by
 obtain⟨Fs,s⟩:=s;exact⟨Fs,λi c h=> @FrT.ext _ _ _ _ _ c.i _ _ (s.el i c h) e,s.rng,s.dj,s.nw⟩
theorem SepF.put{Fs:Nat->FS}{R:Rf β}[FrT R]{b:β}{u:V}{i:Nat}(s:SepF W0 W Fs cs)(E:12 W)(m:MuF (Fs i) W W')(hF:∀q,F q->Fs i q\/W.H q=`c)(t:R W' F b u)(hi:i<cs.length):Sep W0 W' (cs.set i<|tc R b u):=by
 refine⟨λj=>if j=i then F else Fs j,λj c h=>?_,λj q h=>?_,λj k q h1 h2=>?_,λj q h=>?_⟩
 ·rw[HV]at h;by_cases z:i=j
  ·subst z;rw[Z0 `a,Z0 hi]at h;cases h;simp only[if_true];exact t
  ·rw[Z1 z]at h;simp only[Z1 (Hx z)];exact @FrT.mu _ _ _ _ _ _ c.i _ _ (s.el j c h) m λq a b=>z (s.dj j i q a b).symm
 ·rw[Hl];by_cases z:j=i;·rw[z];exact hi
  ·simp only[Z1 z]at h;exact s.rng j q h
 ·have key:∀j q,(if j=i then F else Fs j) q->j=i/\F q\/j≠i/\Fs j q:=λj q h=>by
   by_cases z:j=i;·exact .inl ⟨z,by simpa [Z0 z] using h⟩
   ·exact .inr ⟨z,by simpa [Z1 z] using h⟩
  rcases key j q h1 with⟨z1,a⟩|⟨z1,a⟩<;>rcases key k q h2 with⟨z2,b⟩|⟨z2,b⟩
  ·rw[z1,z2]
  ·exact((hF q a).elim (λy=>z2<|s.dj k i q b y) λy=>absurd y (s.lv b).2).elim
  ·exact((hF q b).elim (λy=>z1<|s.dj j i q a y) λy=>absurd y (s.lv a).2).elim
  ·exact s.dj j k q a b
 ·by_cases z:j=i
  ·simp only[Z0 z]at h;exact(hF q h).elim (s.nw i q) λy=>none_of E.h y
  ·simp only[Z1 z]at h;exact s.nw j q h
theorem Sep.add{R:Rf β}[FrT R]{b:β}{u:V}(s:Sep W0 W cs)(E:12 W)(e:Ext W W')(hF:∀q,F q->W.H q=`c)(t:R W' F b u):Sep W0 W' (cs++[tc R b u]):=by
 obtain⟨Fs,s⟩:=s;have hn:∀j q,j=cs.length->¬Fs j q:=λj q z h=>by have:=s.rng j q h;omega
 have key:∀j q,(if j=cs.length then F else Fs j) q->j=cs.length/\F q\/j<cs.length/\Fs j q:=λj q h=>by
  by_cases z:j=cs.length;·exact .inl ⟨z,by simpa [Z0 z] using h⟩
  ·have h':Fs j q:=by simpa [Z1 z] using h
   exact .inr ⟨s.rng j q h',h'⟩
 refine⟨λj=>if j=cs.length then F else Fs j,λj c h=>?_,λj q h=>?_,λj k q h1 h2=>?_,λj q h=>?_⟩
 ·by_cases z:j<cs.length
  ·rw[F7 z]at h;simp only[Z1 (Fd z)];exact @FrT.ext _ _ _ _ _ c.i _ _ (s.el j c h) e
  ·rw[F9 `b]at h;have:j-cs.length=0:=by
    refine GS λy=>?_;rw[FN.mpr (by simp;omega)]at h;cases h
   rw[this]at h;cases h;have z2:j=cs.length:=`b
   simp only[Z0 z2];exact t
 ·rw[FJ,GZ];rcases key j q h with⟨a,_⟩|⟨a,_⟩<;>omega
 ·rcases key j q h1 with⟨z1,a⟩ | ⟨z1,a⟩ <;> rcases key k q h2 with⟨z2,b⟩ | ⟨z2,b⟩
  ·omega
  ·exact absurd (hF q a) (s.lv b).2
  ·exact absurd (hF q b) (s.lv a).2
  ·exact s.dj j k q a b
 ·rcases key j q h with⟨_,a⟩ | ⟨_,a⟩
  ·exact none_of E.h (hF q a)
  ·exact s.nw j q a
theorem SepF.del{Fs:Nat->FS}(s:SepF W0 W Fs cs)(i:Nat):Sep W0 W (cs.eraseIdx i):=by
 by_cases hi:i<cs.length
 ·have key:∀j q,(if j<i then Fs j else Fs (j+1)) q->j<i/\Fs j q\/i<=j/\Fs (j+1) q:=λj q h=>by
   by_cases z:j<i;·exact .inl ⟨z,by simpa [Z0 z] using h⟩
   ·exact .inr ⟨`b,by simpa [Z1 z] using h⟩
  refine⟨λj=>if j<i then Fs j else Fs (j+1),λj c h=>?_,λj q h=>?_,λj k q h1 h2=>?_,λj q h=>?_⟩
  ·by_cases z:j<i
   ·rw[K1 z]at h;simp only[Z0 z];exact s.el j c h
   ·rw[K2 `b]at h;simp only[Z1 z];exact s.el (j+1) c h
  ·rw[Hc,Z0 hi];rcases key j q h with⟨a,b⟩|⟨a,b⟩
   ·omega
   ·have:=s.rng _ q b;omega
  ·rcases key j q h1 with⟨z1,a⟩|⟨z1,a⟩<;>rcases key k q h2 with⟨z2,b⟩|⟨z2,b⟩<;>have:=s.dj _ _ q a b<;>omega
  ·rcases key j q h with⟨_,a⟩|⟨_,a⟩<;>exact s.nw _ q a
 ·rw[List.eraseIdx_of_length_le `b];exact⟨Fs,s⟩
theorem SepF.move{Fs:Nat->FS}{R:Rf β}[FrT R]{b:β}{u:V}{i j:Nat}(s:SepF W0 W Fs cs)(E:12 W)(m:MuF (λq=>Fs i q\/Fs j q) W W')(hF:∀q,F q->Fs i q\/Fs j q\/W.H q=`c)(t:R W' F b u)(hi:i<cs.length)(hij:i≠j):Sep W0 W' ((cs.set i<|tc R b u).eraseIdx j):=by
 have key:∀k q,(if k=i then F else if k=j then λ_=>False else Fs k) q->k=i/\F q\/k≠i/\k≠j/\Fs k q:=λk q h=>by
  by_cases z:k=i;·exact .inl ⟨z,by simpa [Z0 z] using h⟩
  ·rw[Z1 z]at h;by_cases y:k=j;·simp[Z0 y]at h
   ·exact .inr ⟨z,y,by simpa [Z1 y] using h⟩
 have s2:SepF W0 W' (λk=>if k=i then F else if k=j then λ_=>False else Fs k) ((cs.set i<|tc R b u).set j DE):=by
  refine⟨λk c h=>?_,λk q h=>?_,λk l q h1 h2=>?_,λk q h=>?_⟩
  ·rw[HV]at h;by_cases y:j=k
   ·subst y;rw[Z0 `a]at h;split at h
    ·cases h;simp only[Z1 (Hx hij),if_true];exact λ_ z=>z
    ·cases h
   ·rw[Z1 y,HV]at h;by_cases z:i=k
    ·subst z;rw[Z0 `a,Z0 hi]at h;cases h;simp only[if_true];exact t
    ·rw[Z1 z]at h;simp only[Z1 (Hx z),Z1<|Hx y];exact @FrT.mu _ _ _ _ _ _ c.i _ _ (s.el k c h) m λq a b=>b.elim (λb=>z (s.dj k i q a b).symm) λb=>y (s.dj k j q a b).symm
  ·rw[Hl,Hl];rcases key k q h with⟨a,_⟩|⟨_,_,a⟩
   ·omega
   ·exact s.rng k q a
  ·rcases key k q h1 with⟨z1,a⟩ | ⟨z1,y1,a⟩ <;> rcases key l q h2 with⟨z2,b⟩ | ⟨z2,y2,b⟩
   ·omega
   ·exact((hF q a).elim (λy=>z2<|s.dj l i q b y) λy=>y.elim (λy=>y2<|s.dj l j q b y) λy=>absurd y (s.lv b).2).elim
   ·exact((hF q b).elim (λy=>z1<|s.dj k i q a y) λy=>y.elim (λy=>y1<|s.dj k j q a y) λy=>absurd y (s.lv a).2).elim
   ·exact s.dj k l q a b
  ·rcases key k q h with⟨_,a⟩ | ⟨_,_,a⟩
   ·exact(hF q a).elim (s.nw i q) λy=>y.elim (s.nw j q) λy=>none_of E.h y
   ·exact s.nw k q a
 have:=s2.del j;rw[LY]at this;exact this
open Classical in
theorem Sep.frz{R:Rf β}[FrT R]{R':Rp β}[FzT R R']{b:β}{u:V}{i:Nat}(s:Sep W0 W cs)(E:12 W)(hc:0 cs[i]? (tc R b u)):∃W',W'.H=W.H/\12 W'/\Same W.G W'.G/\Sep W0 W' (cs.eraseIdx i)/\R' W'.G b u:=by
 obtain⟨Fs,s⟩:=s;have hs:Same W.G λq=>if Fs i q then W.H q else W.G q:=λa o h=>by
  show(if Fs i a then _ else _)=_;rw[Z1 λz=>by have:=(s.lv z).1;rw[h]at this;cases this];exact h
 have ho:Same (λq=>if Fs i q then W.H q else W.G q) W.H:=λa o h=>by
  have h:0 (if Fs i a then W.H a else W.G a) o:=h;split at h;·exact h
  ·exact W.ok _ _ h
 let W':Wd:=9 W.H ho
 refine⟨W',`a,⟨E.g.trans hs,E.h,λq hq=>?_⟩,hs,?_,FzT.fz (R:=R) (s.el i _ hc) hs λq hq=>Z0 hq⟩
 ·show(if Fs i q then _ else _)=_;rw[Z1 λz=>hq (s.nw i q z)];exact E.k q hq
 ·have s2:SepF W0 W' (λk=>if k=i then λ_=>False else Fs k) (cs.set i DE):=by
   have key:∀k q,(if k=i then λ_=>False else Fs k) q->k≠i/\Fs k q:=λk q h=>by
    by_cases z:k=i;·simp[Z0 z]at h
    ·exact⟨z,by simpa [Z1 z] using h⟩
   refine⟨λk c h=>?_,λk q h=>?_,λk l q h1 h2=>s.dj k l q (key k q h1).2 (key l q h2).2,λk q h=>s.nw k q (key k q h).2⟩
   ·rw[HV]at h;by_cases z:i=k
    ·subst z;rw[Z0 `a]at h;split at h
     ·cases h;simp only[if_true];exact λ_ z=>z
     ·cases h
    ·rw[Z1 z]at h;simp only[Z1 (Hx z)];refine @FrT.fr _ _ c.i _ _ _ _ _ (s.el k c h) hs λq hq=>⟨`a,?_⟩
     show(if Fs i q then _ else _)=_;rw[Z1 λy=>z (s.dj i k q y hq)]
   ·rw[Hl];exact s.rng k q (key k q h).2
  have:=s2.del i;rw[LY]at this;exact this
end
section
variable{Er:Nat->Prop}{Z β γ δ ε ζ:Type}{K:EL}{W W' W0 W1 W2:Wd}{F F' F1:FS}{cs:List TC}{M:St}{t ta tb te ti tp t1 t2 t3 t4 t5:TE}{D:Ends}{i k:Nat}{r:TS}
def vw(R:Rf Z):Rw Z:=λW a v=>∃F,R W F a v
instance zkeep49{R:Rf Z}[FrT R]:MonoW (vw R):=⟨λe⟨F,t⟩=>⟨F,FrT.ext t e⟩⟩
theorem Sep.vw{R:Rf Z}[FrT R]{a:Z}{v:V}(s:Sep W0 W cs)(hc:0 cs[k]? (tc R a v)):vw R W a v:=by
 obtain⟨Fs,s⟩:=s;exact⟨Fs k,s.el k _ hc⟩
theorem eE{R:Rf Z}[FrT R]{a:Z}{v:V}(s:Sep W0 W cs)(hc:0 cs[k]? (tc R a v):=by rfl)(h:0 M[i]? (some v):=by rfl):EV Er (bZ i) M W (vw R) (.ok a):=ia (s.vw hc) h
theorem Ao{xs:`r}{j:Int}{a:Z}(h:0 (rB xs j) a):∃l,0 (Mi.ixN `i j) l/\0 xs[l]? a:=by
 unfold rB at h;cases z:Mi.ixN xs.length j with
 |none=>rw[z]at h;cases h
 |some l=>rw[z]at h;exact⟨l,`a,h⟩
theorem TL.ix{R:Rf Z}{Fs:Nat->FS}{xs:`r}{vs:`u}(t:TL R W Fs xs vs){j:Int}{l:Nat}{a:Z}(h1:0 (Mi.ixN `i j) l)(h2:0 xs[l]? a):∃x,0 vs[l]? x/\0 (L2.atI vs j) x/\R W (Fs l) a x:=by
 have hl:l<`O:=by rw[t.len];exact(ER.mp h2).1
 refine⟨vs[l],by simp[hl],?_,t.el l a _ h2<|by simp[hl]⟩;show(L2.ixN `O j).bind _=_;rw[t.len,show L2.ixN `i j=Mi.ixN `i j from rfl,h1];simp[hl]
theorem iI{R:Rf Z}[FrT R]{ma:11 Z}{mb:`C}(ha:EV Er ta M W (vw<|oL R) ma)(hb:4 tb isI mb):EV Er (dO (cP K) ta tb) M W (vw R) (36<|mb.bind λb=>dG a b):=
 qc ha hb λW a b x y Q hx hy k=>by
  cases hy;obtain⟨F,p,vs,Fs,rfl,g,h,t,np,hF⟩:=hx;obtain⟨c,h4,h5⟩:=dR k;obtain⟨l,h6,h7⟩:=Ao h4;obtain⟨z,h8,h9,a0⟩:=t.ix h6 h7;exact⟨p,_,b,z,`a,`a,GD h,h9,h5 _ W `q ⟨_,a0⟩⟩
theorem TL.lr{R:`k}{Fs:Nat->FS}{xs:`r}{vs:`u}(t:TL (fz R) W Fs xs vs):LR R W.G xs vs:=⟨t.len,λi v m a b=>(t.el i m v b a).2⟩
theorem TL.of{R:`k}{xs:`r}{vs:`u}(t:LR R W.G xs vs):TL (fz R) W (λ_ _=>False) xs vs:=⟨t.1,λi x u a b=>⟨λ_ z=>z,t.2 i u x b a⟩,λ_ _ z=>z.elim,λ_ _ _ z=>z.elim⟩
theorem iJ{R:`k}{m:11 Z}(h:EV Er t M W (vw<|oL<|fz R) m):EV Er t M W (pk R) m:=h.imp λ_ _ _⟨_,p,vs,Fs,e,g,h,t,_⟩=>⟨p,vs,e,h,t.lr⟩
theorem iK{R:Rf Z}{ma:11 Z}(ha:EV Er ta M W (vw<|oL R) ma):4 (ff (λxs H Q=>∃x n,xs=[x]/\oK K x H n/\Q (.int n) H)<|ax ta bc) isI (36<|.ok (a.length:Int)):=41 W1 e1 _ (40 k<|by
  obtain⟨F,p,vs,Fs,rfl,g,h,t,np,hF⟩:=hx;exact⟨_,a.length,`a,.inl ⟨vs,GD h,t.len.symm⟩,ka _ W2 e2 `a⟩)
def EVt(Er:Nat->Prop)(t:TE)(M:St)(W:Wd)(R:Rf Z)(m:Res Z):Prop:=∀W1,Ext W W1->∀Q:VK,(m.OkE Er λa=>∀v W2 F,Ext W1 W2->(∀q,F q->W1.H q=`c)->R W2 F a v->Q v W2.H)->t M W1.H Q
theorem oL.ofOw{R:`k}{p:Addr}{xs:`r}(o:Ow R W p xs):oL (fz R) W (· =p) xs `E:=by
 obtain⟨vs,h1,h2⟩:=o.h;exact⟨p,vs,λ_ _=>False,`a,o.g,h1,.of h2,λ_ z=>z,λq=>⟨.inl,λz=>z.elim id λ⟨_,z⟩=>z.elim⟩⟩
theorem EVo.tr{R:`k}{m:11 Z}(h:EVo Er t M W R m):EVt Er t M W (oL<|fz R) m:=λW1 e1 Q k=>h W1 e1 Q (k.imp λxs kx p W2 e2 hp o=>kx _ W2 _ e2 (λq hq=>by rw[hq];exact hp)<|oL.ofOw o)
def zG(R:Rf β):Rt β:=λW r Q=>∀u W' F,Ext W W'->(∀q,F q->W.H q=`c)->R W' F r u->Q u W'.H
section
variable{R1:`k}{R2:Rp γ}{R3:Rp δ}{R4:Rp ε}{R5:Rp ζ}[Mono R1][Mono R2][Mono R3][Mono R4][Mono R5]{m1:Res Z}{m2:Res γ}{m3:Res δ}{m4:Res ε}{m5:Res ζ}{E:XK}
theorem tI{R:Rf β}{m:Z->γ->Res β}(h1:4 t1 R1 m1)(h2:4 t2 R2 m2):EVt Er (bu (bI R1 R2 (zG R) m) [] E<|ax t1<|ax t2 bc) M W R (m1.bind λa=>m2.bind λb=>m a b):=λW1 e1 Q k=>h1 W1 e1 _ (45 k<|h2 W2 `D _<|5 ka λb kb u W3 e3 hu=>⟨W3,a,b,v,u,`a,`a,Ge (R:=sh R1) e3 hv,hu,Er,kb.imp λr kr u W' F e hF o=>kr u W' F ((`L).trans e) (λq hq=>none_of (`L).h<|hF q hq) o⟩)
theorem gB{R:Rf β}{m:Z->γ->δ->ε->Res β}(h1:4 t1 R1 m1)(h2:4 t2 R2 m2)(h3:4 t3 R3 m3)(h4:4 t4 R4 m4):EVt Er (bu (fH R1 R2 R3 R4 (zG R) m) [] E<|ax t1<|ax t2<|ax t3<|ax t4 bc) M W R (m1.bind λa=>m2.bind λb=>m3.bind λc=>m4.bind λd=>m a b c d):=λW1 e1 Q k=>h1 W1 e1 _ (45 k<|h2 W2 `D _<|5 ka λb kb u W3 e3 hu=>h3 W3 ((`D).trans e3) _<|5 kb λc kc w W4 e4 hw=>h4 W4 (38 `D e3 e4) _<|5 kc λd kd x W5 e5 hx=>⟨W5,a,b,c,d,v,u,w,x,`a,`a,Ge (R:=sh R1) ((e3.trans e4).trans e5) hv,Ge (R:=sh R2) (e4.trans e5) hu,Ge (R:=sh R3) e5 hw,hx,Er,kd.imp λr kr u W' F e hF o=>kr u W' F (38 ((`L).trans e4) e5 e) (λq hq=>none_of (38 `L e4 e5).h<|hF q hq) o⟩)
end
def Lens(W0:Wd)(C:Z->List TC)(R:Rf β):Rw (β×(β->Z)):=λW bp u=>∃F,R W F bp.1 u/\(∀q,F q->W0.H q=`c)/\∀W' F' b',MuF F W W'->(∀q,F' q->F q\/W.H q=`c)->R W' F' b' u->Sep W0 W' (C<|bp.2 b')
instance zkeep50{C:Z->List TC}{R:Rf β}[FrT R]:MonoW (Lens W0 C R):=⟨λe⟨F,t,n,p⟩=>⟨F,FrT.ext t e,n,λW' F' b' m hF t'=>p W' F' b' (e.muF.trans m λq hq=>.inl hq) (λq hq=>(hF q hq).imp id<|none_of e.h) t'⟩⟩
variable{C:Z->List TC}
theorem ll{R:Rf Z}[FrT R]{a:Z}{v:V}(s:Sep W0 W (C a))(E:12 W)(hc:0 (C a)[k]? (tc R a v):=by rfl)(hs:∀b,C b=(C a).set k (tc R b v):=by intro _;rfl)(h:0 M[i]? (some v):=by rfl):EV Er (bZ i) M W (Lens W0 C R) (.ok (a,λb=>b)):=by
 obtain⟨Fs,s⟩:=s;exact ia (R:=Lens W0 C R) ⟨Fs k,s.el k _ hc,s.nw k,λW' F' b' m hF t=>by rw[hs];exact s.put E m hF t (ER.mp hc).1⟩ h
theorem MuF.up(m:MuF F W W')(h:∀q,F q->F' q):MuF F' W W':=⟨m.g,λq hq hn=>m.h q (λz=>hq<|h q z) hn,m.k,m.n⟩
theorem vB{R:Rf β}[FrT R]{ma:Res (List β×(List β->Z))}{mb:`C}(ha:EV Er ta M W (Lens W0 C<|oL R) ma)(hb:4 tb isI mb):EV Er (dO (cP K) ta tb) M W (Lens W0 C R) (36<|mb.bind λb=>nO a b):=
 qc ha hb λW a b x y Q hx hy k=>by
  cases hy;obtain⟨F,⟨p,vs,Fs,rfl,g,h,t,np,hF⟩,n,pb⟩:=hx;obtain⟨l,h1,k⟩:=dR (EE k);obtain⟨c,h2,k⟩:=dR (EE k);obtain⟨z,h8,h9,a0⟩:=t.ix h1 h2;have hll:l<a.1.length:=(ER.mp h2).1;refine⟨p,_,b,z,`a,`a,GD h,h9,k _ W `q ⟨Fs l,a0,λq hq=>n q<|(hF q).mpr<|.inr ⟨l,hq⟩,λW' F' b' m hF' t'=>?_⟩⟩;have key:∀j q,(if j=l then F' else Fs j) q->j=l/\F' q\/j≠l/\Fs j q:=λj q h=>by
   by_cases z:j=l;·exact .inl ⟨z,by simpa [Z0 z] using h⟩
   ·exact .inr ⟨z,by simpa [Z1 z] using h⟩
  have lv:∀j q,Fs j q->W.H q≠`c:=λj q hq=>by
   obtain⟨x,u,_,_,r⟩:=t.at2 hq;exact(FrT.lv r q hq).2
  refine pb W' (λq=>q=p\/∃j,(if j=l then F' else Fs j) q) (a.1.set l b') (m.up λq hq=>(hF q).mpr<|.inr ⟨l,hq⟩) (λq hq=>?_) ⟨p,vs,λj=>if j=l then F' else Fs j,rfl,by rw[m.k p (nn_of h)];exact g,by rw[m.h p (np l) (nn_of h)];exact h,⟨by rw[Hl];exact t.len,λj x u e1 e2=>?_,λj q hq=>?_,λj j2 q q1 q2=>?_⟩,λj hj=>?_,λq=>M4⟩
  ·rcases hq with rfl | ⟨j,hj⟩
   ·exact .inl ((hF _).mpr `G)
   ·rcases key j q hj with⟨z1,z2⟩ | ⟨z1,z2⟩
    ·exact(hF' q z2).imp (λy=>(hF q).mpr<|.inr ⟨l,y⟩) id
    ·exact .inl ((hF q).mpr<|.inr ⟨j,z2⟩)
  ·rw[HV]at e1;by_cases z1:l=j
   ·subst z1;rw[Z0 `a,Z0 hll]at e1;cases e1;rw[h8]at e2;cases e2;simp only[if_true];exact t'
   ·rw[Z1 z1]at e1;simp only[Z1 (Hx z1)];exact FrT.mu (t.el j x u e1 e2) m λq y1 y2=>z1 (t.dj l j q y2 y1)
  ·rw[Hl];rcases key j q hq with⟨z1,z2⟩|⟨z1,z2⟩
   ·rw[z1];exact hll
   ·exact t.rng j q z2
  ·rcases key j q q1 with⟨z1,y1⟩ | ⟨z1,y1⟩ <;> rcases key j2 q q2 with⟨z2,y2⟩ | ⟨z2,y2⟩
   ·rw[z1,z2]
   ·exact((hF' q y1).elim (λy=>z2<|t.dj j2 l q y2 y) λy=>absurd y<|lv _ _ y2).elim
   ·exact((hF' q y2).elim (λy=>z1<|t.dj j l q y1 y) λy=>absurd y<|lv _ _ y1).elim
   ·exact t.dj j j2 q y1 y2
  ·rcases key j p hj with⟨z1,z2⟩ | ⟨z1,z2⟩
   ·exact(hF' p z2).elim (np l) λy=>absurd y (nn_of h)
   ·exact np j z2
theorem Lens.lf{R:Rp β}[Mono R]{bp:List β×(List β->Z)}{u:V}(E:12 W)(l:Lens W0 C (oL<|fz R) W bp u):∃p vs,u=`E/\0 (W.H p) (.lst vs)/\LR R W.G bp.1 vs/\∃hg:W.G p=none,∀vs' xs',LR R W.G xs' vs'->12 (W.mut p (.lst vs') hg)/\Sep W0 (W.mut p (.lst vs') hg) (C<|bp.2 xs'):=by
 obtain⟨F,⟨p,vs,Fs,rfl,g,h,t,np,hF⟩,n,pb⟩:=l;have hp:F p:=(hF p).mpr `G;refine⟨p,vs,`a,h,t.lr,g,λvs' xs' lr=>⟨E.mut (n p hp) g,pb _ (· =p) xs' (MuF.of hp g) (λq hq=>.inl (by rw[hq];exact hp)) ⟨p,vs',λ_ _=>False,`a,g,aG,.of lr,λ_ z=>z,λq=>⟨.inl,λz=>z.elim id λ⟨_,z⟩=>z.elim⟩⟩⟩⟩
theorem ye{R:Rp β}[Mono R]{mp:Res (List β×(List β->Z))}{m:Res β}{mi:`C}(E:12 W)(h:4 te R m)(hp:EV Er tp M W (Lens W0 C<|oL<|fz R) mp)(hj:4 ti isI mi)(q:(m.bind λx=>mp.bind λp=>mi.bind λj=>(kq p.1 j x).bind λb=>.ok<|p.2 b).OkE Er λa'=>∀W',Same W.G W'.G->12 W'->Sep W0 W' (C a')->D.nx M W'.H):
  cE te (A5 tp ti uE) D M W.H:=h W `q _ (5 q λx kx v W1 e1 hv=>hp W1 e1 _<|5 kx λp kp u W2 e2 l=>hj W2 `D _ (5 kp λj kj y W3 e3 hy=>by
 cases hy;obtain⟨p0,vs,rfl,hH,lr,hg,back⟩:=Lens.lf (38 (E.trans e1) e2 e3) (Ge e3 l);obtain⟨n,h3,h4⟩:=dR (EE<|EE kj);obtain⟨b1,b2⟩:=back (vs.set n v) (p.1.set n x) (lr.set (ED (R:=R) (`L).g hv) n);exact⟨p0,vs,j,n,rfl,rfl,hH,by rw[lr.1];exact h3,h4 (W3.mut p0 (.lst<|vs.set n v) hg) ((`D).trans e3).g b1 b2⟩))
theorem nQ{kk k2 k3:8 St Hp}{k1:VK}{R:Rf β}[FrT R]{m:Res β}{σ':V->St}(S:Sep W0 W cs)(E:12 W)(h:EVt Er te M W R m)(q:m.OkE Er λa=>∀v W',Ext W W'->Sep W0 W' (cs++[tc R a v])->kk (σ' v) W'.H)(hσ:∀v,M.set i (some v)=σ' v:=by intro _;rfl):cE te (bt i) ⟨kk,k1,k2,k3⟩ M W.H:=h W `q _ (q.imp λa k v W' F e hF t=>by have:=k v W' e (S.add E e hF t);rw[<-hσ]at this;exact this)
theorem nR{R:Rf β}[FrT R]{b:β}{v:V}(S:Sep W0 W cs)(hc:0 cs[k]? (tc R b v))(q:∀F,(∀q,F q->W0.H q=`c)->R W F b v->D.rt v W.H)(hi:0 M[i]? (some v):=by rfl):cW (bZ i) D M W.H:=by
 obtain⟨Fs,s⟩:=S;exact⟨v,hi,q (Fs k) (s.nw k)<|s.el k _ hc⟩
theorem vC{R:Rf β}[FrT R]{xs:List β}{b:β}{v u:V}{k l j:Nat}(S:Sep W0 W cs)(E:12 W)(hk:0 cs[k]? (tc (oL R) xs v))(hl:0 cs[l]? (tc R b u))(hkl:k≠l)(q:(gZ xs b).OkE Er λys=>∀W',Same W.G W'.G->12 W'->Sep W0 W' ((cs.set k<|tc (oL R) ys v).eraseIdx l)->D.nx M W'.H)(hi:0 M[i]? (some v):=by rfl)(hj:0 M[j]? (some u):=by rfl):
  bK (fS K "list" aS (bZ i)<|ax (bZ j) bc) D M W.H:=by
 obtain⟨Fs,s⟩:=S;obtain⟨p,vs,Gs,rfl,g,h,t,np,hF⟩:=(show oL R W (Fs k) xs v from s.el k _ hk)
 have tb:R W (Fs l) b u:=s.el l _ hl;obtain⟨h3,h4⟩:=ba q;have hp:Fs k p:=(hF p).mpr `G;have kk:k<cs.length:=(ER.mp hk).1;have lp:¬Fs l p:=λz=>hkl (s.dj k l p hp z);refine⟨_,hi,.inl ⟨`a,vs,GD h⟩,_,hj,p,vs,u,rfl,rfl,h,by rw[t.len,FE];unfold Mi.cap at h3;omega,h4 (W.mut p (.lst<|vs++[u]) g) `q (E.mut (s.nw k p hp) g) ?_⟩;have m1:MuF (· =p) W (W.mut p (.lst<|vs++[u]) g):=MuF.of (F:=(· =p)) `a g;have key:∀j q,(if j=`i then Fs l else Gs j) q->j=`i/\Fs l q\/j<`i/\Gs j q:=λj q h=>by
  by_cases z:j=`i;·exact .inl ⟨z,by simpa [Z0 z] using h⟩
  ·have h':Gs j q:=by simpa [Z1 z] using h
   exact .inr ⟨t.rng j q h',h'⟩
 refine s.move (F:=λq=>q=p\/∃j,(if j=`i then Fs l else Gs j) q) E (m1.up λq hq=>.inl (by rw[hq];exact hp)) (λq hq=>?_) ⟨p,vs++[u],λj=>if j=`i then Fs l else Gs j,rfl,g,aG,⟨by simp[t.len],λj x y e1 e2=>?_,λj q hq=>?_,λj j2 q q1 q2=>?_⟩,λj hj=>?_,λq=>M4⟩ kk hkl
 ·rcases hq with rfl | ⟨j,hj⟩
  ·exact .inl hp
  ·rcases key j q hj with⟨_,z⟩ | ⟨_,z⟩
   ·exact .inr (.inl z)
   ·exact .inl ((hF q).mpr<|.inr ⟨j,z⟩)
 ·by_cases z:j<`i
  ·rw[F7 z]at e1;rw[F7 (by rw[t.len];exact z)]at e2;simp only[Z1 (Fd z)];exact FrT.mu (t.el j x y e1 e2) m1 λq a b=>np j<|b▸a
  ·rw[F9 `b]at e1;rw[F9 (by rw[t.len];omega),t.len]at e2;have z2:j-`i=0:=by
    refine GS λy=>?_;rw[FN.mpr (by simp;omega)]at e1;cases e1
   rw[z2]at e1 e2;cases e1;cases e2;have z3:j=`i:=`b
   simp only[Z0 z3];exact FrT.mu tb m1 λq a b=>lp<|b▸a
 ·rw[FJ,GZ];rcases key j q hq with⟨a,_⟩|⟨a,_⟩<;>omega
 ·rcases key j q q1 with⟨z1,a⟩ | ⟨z1,a⟩ <;> rcases key j2 q q2 with⟨z2,b⟩ | ⟨z2,b⟩
  ·omega
  ·exact(hkl<|s.dj k l q ((hF q).mpr<|.inr ⟨_,b⟩) a).elim
  ·exact(hkl<|s.dj k l q ((hF q).mpr<|.inr ⟨_,a⟩) b).elim
  ·exact t.dj j j2 q a b
 ·rcases key j p hj with⟨_,z⟩ | ⟨_,z⟩
  ·exact lp z
  ·exact np j z
end
section
variable{Er:Nat->Prop}{Z β γ:Type}{K:EL}{W W' W0 W1 W2:Wd}{F F' F1:FS}{cs:List TC}{M:St}{t ta tb te ti tp:TE}{D:Ends}{i k:Nat}{r:TS}
theorem pq{R:Rf Z}:EVt Er (cM bc) M W (oL R) (.ok []):=λW1 e1 Q k=>⟨`M,λp hp=>k _ (W1.mut p (.lst [])<|W1.gnone hp) (· =p) (.own _ hp) (λq hq=>by rw[hq];exact hp) ⟨p,[],λ_ _=>False,`a,W1.gnone hp,aG,⟨rfl,λi x u h=>by simp at h,λ_ _ z=>z.elim,λ_ _ _ z=>z.elim⟩,λ_ z=>z,λq=>⟨.inl,λz=>z.elim id λ⟨_,z⟩=>z.elim⟩⟩⟩
theorem EVt.ev{R:Rf Z}[FrT R]{R':`k}[FzT R R']{m:Res Z}(h:EVt Er t M W R m):4 t R' m:=λW1 e1 Q k=>h W1 e1 Q (k.imp λa ka v W2 F e2 hF o=>by
 have s:Sep W1 W2 [tc R a v]:=Sep.add (cs:=[]) (Sep.nil (W0:=W1) (W:=W1)) `q e2 hF o;obtain⟨W3,hH,e3,_,_,r⟩:=Sep.frz (R:=R) (i:=0) s e2 `a;rw[<-hH];exact ka v W3 e3 r)
theorem tJ{m n:`C}(h:4 ta isI m)(g:4 tb isI n):IV Er (zA<|ax ta<|ax tb bc) M W isI (m.bind λi=>n.bind λj=>nP i j):=λW1 e1 P k=>h W1 e1 _ (45 k<|g W2 `D _ (5 ka λb kb u W3 e3 hu=>by
  cases hv;cases hu;obtain⟨hb,kn⟩:=ba kb;refine⟨a,b,`a,hb,kn _ W3 `L λW4 e4=>⟨λi x ha=>?_,by show(b-a).toNat<=(kF a b).length;simp[kF]⟩⟩;unfold kF at ha;rw[ET]at ha;have hi:i<(b-a).toNat:=by
   refine GS λz=>?_;rw[FN.mpr (by simp;omega)]at ha;cases ha
  rw[GW hi]at ha;cases ha;exact⟨hi,λy H'⟨z1,z2⟩=>⟨W4,z1.symm,`q,z2⟩⟩))
end
end Wb
open Wb.EVo renaming tr->PV
open Wb.EVt renaming ev->NP
open Wb.FrT renaming lv->Nb,ext->OP,mu->PU
open Wb.MuF renaming of->PR
open Wb.Sep renaming nil->PF
namespace L2
open PySem PySem.Spec PyProof.Rows
noncomputable def fA(tg iter:Expr)(ifs:List Expr)(body:Sem Unit)(it:EM)(env:Env)(c:Code):Sem Fin:=do
 standAt iter.pos
 match <-pyNext it with
 |none=>pure (.done .next)
 |some v=>
  letOwnedTupleGo tg it v
  assign tg env v
  let mut ok:=true
  for c in ifs do
   if ok then ok <-isTrue c env (eval c env)
  if ok then body
  again c
structure CompE(e:Expr):Prop where
 a:∀(A:FR)(d:Nat)(it Z8:EM)(env:Env),A.under (.compLoop e d it Z8 env)=A
 b:∀(A:FR)(d:Nat)(it Z8:EM)(env:Env),A.under (.compStart e d it Z8 env)=A
 c:∀(prog:F6)(w:Fh)(d:Nat)(it Z8:EM)(env:Env),(model prog w).den (.compLoop e d it Z8 env)=(compTurn e d it Z8 env).onRaise (λx=>do noteFrame x env;theTreesLotGoes x)
 d:∀(prog:F6)(w:Fh)(d:Nat)(it Z8:EM)(env:Env),(model prog w).den (.compStart e d it Z8 env)=(compStart e d it Z8 env).onRaise (λx=>do noteFrame x env;standAt theWindowsPlace)
theorem CompE.dict{k v:Expr}{gs:List KY}{sc:ID}{Z9:Pos}:CompE (.DictComp k v gs sc Z9):=⟨λ_ _ _ _ _=>`a,λ_ _ _ _ _=>`a,λ_ _ _ _ _ _=>`a,λ_ _ _ _ _ _=>`a⟩
theorem CompE.set{k:Expr}{gs:List KY}{sc:ID}{Z9:Pos}:CompE (.SetComp k gs sc Z9):=⟨λ_ _ _ _ _=>`a,λ_ _ _ _ _=>`a,λ_ _ _ _ _ _=>`a,λ_ _ _ _ _ _=>`a⟩
section
variable{prog:F6}{w:Fh}{A:FR}{R:8 MX EN}{s:EN}
theorem lZ{e:Expr}(ce:CompE e){d:Nat}{tg iter:Expr}{ifs:List Expr}{it Z8:EM}{env:Env}{body:Sem Unit}(ht:compTurn e d it Z8 env=fA tg iter ifs body it env (.compLoop e d it Z8 env))(I:8 Nat EN)
  (turn:∀n s,I n s->21 prog w A (pyNext it) (λr s₁=>match r with
   |none=>R (.ok .next) s₁
   | some v=>wpAny (model prog w) A (letOwnedTupleGo tg it v) (λ_ s₁'=>wpAny (model prog w) A (assign tg env v) (λ_ s₂=>wpAny (model prog w) A (forIn ifs true λc r=>if 1 r then do let ok <-isTrue c env (eval c env);pure (HD ok)else pure (HD r)) (λok s₃=>
      if 1 ok then wpAny (model prog w) A body (λ_ s₅=>∃m,m<n/\I m s₅) (λ_ _=>False) s₃
      else ∃m,m<n/\I m s₃) (λ_ _=>False) s₂) (λ_ _=>False) s₁') (λ_ _=>False) s₁) (λ_ _=>False))
  (n:Nat) (h:I n s):codeAny (model prog w) A (.compLoop e d it Z8 env) R s:=by
 refine codeAny_loop `a I (λn s hI=>?_) n h;rw[ce.a,ce.c];refine wpAny_noted ?_;rw[ht];unfold fA;refine EF (HH<|EF<|Gi (turn n s hI) (λr s₁ h₁=>?_) λ_ _ h'=>h'.elim);cases r with
 |none=>exact EK h₁
 |some v=>
  refine EF (Gi h₁ (λ_ s₁' h₁'=>?_) λ_ _ h'=>h'.elim);refine EF (Gi h₁' (λ_ s₂ h₂=>EF<|Gi h₂ (λok s₃ h₃=>?_) λ_ _ h'=>h'.elim) λ_ _ h'=>h'.elim);cases ok with
  |true=>
   rw[Z0 `a]at h₃;exact EF (Gi h₃ (λ_ s₄ h₄=>EK ⟨`a,h₄⟩) λ_ _ h'=>h'.elim)
  |false=>
   rw[Z1 F8]at h₃;exact EK ⟨`a,h₃⟩
theorem iV{e:Expr}(ce:CompE e){d:Nat}{g:KY}{it Z8:EM}{env:Env}(hg:0 (clausesOf e)[d]? g)(ha:g.is_async=0)
  (h0:codeAny (model prog w) A (.compLoop e d it Z8 env) R s)
  (h:21 prog w A (pyIter it) (λit' s'=>codeAny (model prog w) A (.compLoop e d it' Z8 env) R s') (notedBy (model prog w) A env λx s'=>R (.error x) s')):
  codeAny (model prog w) A (.compStart e d it Z8 env) R s:=by
 refine Lv ?_;rw[ce.b,ce.d];refine wpAny_notedAt ?_;unfold compStart;rw[hg];simp only[Option.elim_some,ha,bne_self_eq_false,Fv,if_false];refine EF (HK<|wpAny_ite ?_);split
 ·first
   |exact EF (EK<|EK<|N0 `a h0)
   |exact EK (N0 `a h0)
 ·first
   |exact EF<|Jj<|EF<|HH<|EF<|Gi h (λit' s' h'=>EK<|N0 rfl h') λ_ _ x=>x
   |(refine EF (Jj ?_);exact EF (HH<|EF<|Gi h (λit' s' h'=>EK<|N0 `a h') λ_ _ x=>x))
end
noncomputable def zH(kx vx:Expr)(env:Env)(Z8:EM):Sem Unit:=do
        let kv <-eval kx env
        let vv <-holding [kv] (eval vx env)
        match Z8 with
        | .ref d => do
          standAt {kx.pos with endLine:=vx.pos.endLine,endCol:=vx.pos.endCol}
          holding [kv,vv] (dictSet d kv vv)
        |_=>unsupported "internal:dictcomp"
noncomputable def yf(iter:Expr)(e:Expr)(d:Nat)(env:Env)(Z8:EM):Sem Unit:=do
        let x <-eval iter env
        standAt iter.pos
        let x <-foldedSetIterable iter env x
        let _ <-runOwn (.compStart e d (<-holding [x] (pyIter x)) Z8 env) env
abbrev TB:=Addr->St->8 Hp (Hp->Prop)
def PB(Y:Cx)(body:EM->Sem Unit)(tb:TB):Prop:=∀(D:Addr)(Z_:List (Addr×Obj))(s:EN)(M:St)(H:Hp)(N:Hp->Prop),14 Y M H s->tb D M H N->21 Y.prog Y.w Y.A (body<|.ref D) (λ_ s'=>∃σ' H',14 Y σ' H' s'/\(∀(j:Nat)(v:V),0 M[j]? (some v)->0 σ'[j]? (some v))/\N H') (λ_ _=>False)
def tK(g:TG)(tf:TT)(tb:TB)(D:Addr)(M:St)(H1:Hp)(N:Hp->Prop)(J:It):Prop:=∃W:Nat->Nat->Hp->Prop,(∃m,W 0 m H1)/\∀i m H,W i m H->J.stop i H/\N H\/(J.go i H/\∃ZZ:Hp->Prop,(∀H',ZZ H'->∃m',m'<m/\W (i+1) m' H')/\∀x H',J.yld i H x H'->g x M H' λσ2 H2=>Keep M σ2/\tf σ2 H2 λb H3=>if 1 b then tb D σ2 H3 ZZ else ZZ H3)
def Ap(wi:TI)(g:TG)(tf:TT)(tb:TB):TB:=λD M H N=>wi M H λJ H1=>tK g tf tb D M H1 N J
section
variable{Y:Cx}{tg iter Z2 kx vx:Expr}{ifs:List Expr}{g:TG}{tf:TT}{tb:TB}{body:EM->Sem Unit}{te tk tv:TE}{wi:TI}
theorem pz(hc:1 Y.calm)(hxe:Y.xe=λ_ _=>False)(hg:PG Y tg g)(hf:uu Y ifs tf)(hb:PB Y body tb){e:Expr}(ce:CompE e){d:Nat}{it:Addr}{fp:List Addr}{tn:8 Nat Heap}{J:It}(T:Turn Y.prog Y.w Y.K tg J fp it tn)
  {Z_:7 Addr Obj} {s:EN} {M:St} {H:Hp} {D:Addr} {N:Hp->Prop} {R:8 MX EN} (I:14 Y M H s) (st:tn 0 `p) (f:∀b∈fp,FpOk Y Z_ H b) (w:tK g tf tb D M H N J)
  (ht:compTurn e d (.ref it) (.ref D) Y.env=fA tg iter ifs (body<|.ref D) (.ref it) Y.env (.compLoop e d (.ref it) (.ref D) Y.env))
  (fin:∀σ' H' s',14 Y σ' H' s'->(∀(j:Nat)(v:V),0 M[j]? (some v)->0 σ'[j]? (some v))->N H'->R (.ok .next) s'):
  codeAny (model Y.prog Y.w) Y.A (.compLoop e d (.ref it) (.ref D) Y.env) R s:=by
 obtain⟨W,⟨m0,w0⟩,turn⟩:=w;have stat:∀{H':Hp},(∀b∈fp,H' b=`c)->∀b∈fp,FpOk Y Z_ H' b:=λhn b hb=>⟨hn b hb,(f b hb).2⟩
 refine lZ ce ht (λn s'=>∃i σ' H',14 Y σ' H' s'/\tn i s'.heap/\(∀b∈fp,H' b=`c)/\(∀(j:Nat)(v:V),0 M[j]? (some v)->0 σ'[j]? (some v))/\W i n H') ?_ m0 ⟨0,M,H,I,st,λb hb=>(f b hb).1,λ_ _ e=>e,w0⟩;rintro n s3 ⟨i,σ3,H3,I3,st3,fr3,kp,w3⟩;rcases turn i n H3 w3 with⟨stop,qn⟩|⟨go,ZZ,hM,step⟩
 ·refine cx (T.done Y `a `a `a hc i Z_ s3 σ3 H3 _ I3 (stat fr3) st3 stop) λr s4 zz=>?_;obtain⟨hr,I4⟩:=zz;subst hr;exact fin σ3 H3 s4 I4 kp qn
 ·have I3':14 Y M H3 s3:=I3.weak (by rw[I3.len,I.len]) kp;refine cx (T.item Y `a `a `a hc i Z_ s3 M H3 _ I3' (stat fr3) st3 go) λr s4 zz=>?_;obtain⟨u,hr,h4⟩:=zz;subst hr;refine cx h4 λ_ s5 zz=>?_;obtain⟨x,H5,I5,r5,y5,st5,fr5⟩:=zz;have I5':=I5.pinned (stat fr5) (T.obj _ _ st5);have hg':=hg _ s5 M H5 x u _ I5' r5 (step x H5 y5);rw[hxe]at hg';refine cx hg' λ_ s6 zz=>?_;obtain⟨σ6,H6,I6,kp6,q6⟩:=zz;have hf':=hf _ s6 σ6 H6 _ I6 q6;rw[hxe]at hf';refine cx hf' λok s7 zz=>?_;obtain⟨H7,I7,q7⟩:=zz;have again:∀{s8:EN}{σ7:St}{H7:Hp},Inv Y (Z_++jD fp s5.heap) σ7 H7 s8->(∀(j:Nat)(v:V),0 σ6[j]? (some v)->0 σ7[j]? (some v))->ZZ H7->∃m,m<n/\∃i σ' H',14 Y σ' H' s8/\tn i s8.heap/\(∀b∈fp,H' b=`c)/\(∀(j:Nat)(v:V),0 M[j]? (some v)->0 σ'[j]? (some v))/\W i m H':=λ{s8 σ7 H7}I7 k7 n7=>by
   obtain⟨m',hm,w7⟩:=hM H7 n7;refine⟨m',hm,i+1,σ7,H7,I7.unpinned,T.keep _ _ _ st5 λb hb o e=>(I7.pin (b,o)<|Fx _<|Fx _<|fP hb e).1,λb hb=>?_,λj v e=>k7 j v<|Keep.get kp6 e,w7⟩;obtain⟨o,e,d⟩:=T.obj _ _ st5 b hb;exact(I7.pin (b,o)<|Fx _<|Fx _<|fP hb e).2.1
  cases ok with
  |false=>
   rw[Z1 F8]at q7 ⊢;exact again I7 (λ_ _ e=>e) q7
  |true=>
   rw[Z0 `a]at q7 ⊢;refine cx (hb D _ s7 σ6 H7 _ I7 q7) λ_ s8 zz=>?_;obtain⟨σ8,H8,I8,k8,q8⟩:=zz;exact again I8 k8 q8
theorem Aq(hc:1 Y.calm)(hxe:Y.xe=λ_ _=>False)(hi:PI Y tg iter wi)(hg:PG Y tg g)(hf:uu Y ifs tf){body:Env->EM->Sem Unit}(hb:PB Y (body Y.env) tb){e:Expr}(ce:CompE e){d:Nat}(hcl:0 (clausesOf e)[d]? ⟨tg,iter,ifs,0⟩)
  (ht:∀env it Z8,compTurn e d it Z8 env=fA tg iter ifs (body env Z8) it env (.compLoop e d it Z8 env):=by intro _ _ _;rfl) (hs:∀x,foldedSetIterable iter Y.env x=pure x:=by intro _;rfl):
  PB Y (yf iter e d Y.env) (Ap wi g tf tb):=by
 intro D Z_ s M H N I h;have hi':=hi Z_ s M H _ I h;rw[hxe]at hi';refine EF (cx hi' λv s1 h1=>EF<|HH<|EF<|KJ (hs v)<|EF<|FY<|cx h1 λitv s2 h2=>?_);obtain⟨it,fp,tn,J,H2,rfl,I2,T,st2,f2,w⟩:=h2;have lp:codeAny (model Y.prog Y.w) Y.A (.compLoop e d (.ref it) (.ref D) Y.env) (λr s'=>match r with| .ok f=>(∃σ' H',Inv Y Z_ σ' H' s'/\(∀(j:Nat)(v:V),M[j]? =some (some v)->σ'[j]? =some (some v))/\N H')| .error x=>cameBackBy (model Y.prog Y.w) Y.A Y.env (λ_ _=>False) x s') s2:=
  pz hc hxe hg hf hb ce T I2 st2 f2 w (ht _ _ _) λσ' H' s' I' k' n'=>⟨σ',H',I',k',n'⟩
 refine EF (wpAny_runOwn<|iV ce hcl `a ?_ ?_)
 ·exact J4 lp λr s' h=>by
   cases r with
   |ok f=>exact EK h
   |error x=>exact h
 ·refine T.self _ 0 _ _ _ st2 (J4 lp λr s' h=>by
   cases r with
   |ok f=>exact EK h
   |error x=>exact h)
end
section
variable{X:Cx}{scope:ID}{N:`I}{cap:List `S}{tg iter:Expr}{ifs:List Expr}{Z9:Pos}{wi:TI}{g:TG}{tf:TT}{tb:TB}{body:Env->EM->Sem Unit}
theorem mO{Z_:7 Addr Obj}{M σ':St}{H2 H':Hp}{s2 s':EN}{fp:List Addr}{C:Addr}{h':Heap}(I2:14 X M H2 s2)(f2:∀b∈fp,FpOk X Z_ H2 b)
  (hC:s2.heap.objs.size<=C) (I':Inv (aQ X scope N s2 H2 C fp) [] σ' H' s') (hs:Fg C s'.heap h'):Inv X Z_ M H' {s' with heap:=h'}:=by
 have nC:H' C=`c:=I'.free;have lt2:∀b o,0 (s2.heap.get? b) o->b≠C:=λb o e=>Fd (EZ (EU e) hC);have hk:∀b o,b≠C->0 (s'.heap.get? b) o->37 b o:=λb o hb e=>(hs.2 b hb).trans e;have B:Un (frs X.stack) fp H2 H' s2.heap s'.heap:=I'.base;have tr:∀b u,0 (H' b) u->b≠C:=λb u e z=>by rw[z,nC]at e;cases e
 refine I2.call' (ch:=fp) I'.os ⟨λb o e n hb hx=>?_,λb o e n hb hx=>?_,λb o e n hx=>?_,λb o e hx=>?_,λb xs e=>?_,λb o u e=>?_,λb ps e=>?_⟩ (λb u e=>?_) I'.bare λb hb=>⟨(f2 b hb).2.2.2.1,(f2 b hb).2.1,(f2 b hb).2.2.2.2.1,(f2 b hb).2.2.2.2.2⟩
 ·exact hk b o (lt2 b o e) (B.keep b o e n hb hx)
 ·obtain⟨sl,q⟩:=B.slot b o e n hb hx;exact⟨sl,hk b _ (lt2 b o e) q⟩
 ·exact B.free b o e n hx
 ·obtain⟨o',q⟩:=B.there b o e hx;exact⟨o',hk b _ (lt2 b o e) q⟩
 ·exact B.tups b xs e
 ·exact B.frzs b o u e
 ·exact B.tbls b ps e
 ·refine(I'.hok b u e).stay (λc w' hc q=>hk c w' ?_ q) (λc q=>q) λc xs q=>q;rcases hc with z|z
  ·rw[z];exact tr b u e
  ·exact tr c _ z
theorem lq(S:CompScope X scope N cap)(hc:1 X.calm){e:Expr}(ce:CompE e)(hcl:0 (clausesOf e)[0]? ⟨tg,iter,ifs,0⟩)
    (hg:∀s H C fp,PG (aQ X scope N s H C fp) tg g) (hf:∀s H C fp,uu (aQ X scope N s H C fp) ifs tf) (hb:∀s H C fp,PB (aQ X scope N s H C fp) (body (aQ X scope N s H C fp).env) tb)
    (ht:∀env it Z8,compTurn e 0 it Z8 env=fA tg iter ifs (body env Z8) it env (.compLoop e 0 it Z8 env))
    {Z_:7 Addr Obj} {M:St} {H3:Hp} {s3:EN} {it D:Addr} {fp:List Addr} {tn:8 Nat Heap} {J:It} {Qv:Hp->Prop} {E:8 EM EN} {RR:Addr->MX->EN->Prop}
    (I3:14 X M H3 s3) (T:Turn `o X.w X.K tg J fp it tn) (st3:tn 0 s3.heap) (f3:∀b∈fp,FpOk X Z_ H3 b) (w:tK g tf tb D (bH cap M) H3 Qv J)
    (fin:∀(C:Addr)(σ':St)(H':Hp)(s':EN),s3.heap.objs.size<=C->Inv (aQ X scope N s3 H3 C fp) [] σ' H' s'->Qv H'->RR C (.ok .next) s'):
    wpAny (model `o X.w) X.A (newFunctionEnv scope X.env.globals (cN X.env scope.names []) [] X.env.qual `c .none<|some X.env) (λcenv s₄=>codeAny (model `o X.w) X.A (.compStart e 0 (.ref it) (.ref D) {cenv with scope:=relabel scope X.env}) (RR cenv.locals) s₄) E s3:=by
  refine kX ?_;generalize hC:s3.heap.objs.size=C;generalize hH4:pushCells (s3.heap.push {cls:=.type "dict",data:=.dict #[]}) scope.names=h4;have hz3':(s3.heap.push {cls:=.type "dict",data:=.dict #[]}).objs.size=C+1:=by rw[FO,hC]
  have ck:OH h4 (C+1) (cellsFrom (C+1) scope.names []):=by
    have:=cellsFrom_ok scope.names (s3.heap.push {cls:=.type "dict",data:=.dict #[]}) (C+1) [] ⟨λ_ _ hm=>(nomatch hm),IL⟩ (by rw[hz3'];exact EX _);rw[hz3',hH4]at this;exact this
  have a0:∀b o,0 (s3.heap.get? b) o->0 (h4.get? b) o:=λb o e=>by rw[<-hH4];exact JZ _ _ b o (EI _ e)
  have hn4:h4.Ns C λ_=>`c:=by
    rw[<-hH4,<-hC];exact(P5 s3.heap<|.type "dict").keeps (JZ _ _)
  have hlt:∀b∈fp,b<C:=λb hb=>by
    obtain⟨o,e,_⟩:=T.obj _ _ st3 b hb;rw[<-hC];exact EU e
  have hCs:s3.heap.objs.size<=C:=by rw[hC];exact EX _
  have IC:Inv (aQ X scope N s3 H3 C fp) [] (bH cap M) H3 {s3 with heap:=h4}:=
    kY S I3 hCs ck f3 hlt (9 _ `a) hn4 λb o e=>a0 b o e
  have okC:=IC.ok;have fO:∀b∈fp,FpOk (aQ X scope N s3 H3 C fp) [] H3 b:=λb hb=>⟨(f3 b hb).1,Fd<|hlt b hb,okC.exfs b hb,.inl hb,(okC.exf b hb).2,λp hp=>by
      have:p∈([]:7 Addr Obj):=hp;cases this⟩
  have st4:tn 0 h4:=T.keep _ _ _ st3 λb hb o e=>a0 b o e;have loop:codeAny (model `o X.w) X.A (.compLoop e 0 (.ref it) (.ref D) (aQ X scope N s3 H3 C fp).env) (RR C) {s3 with heap:=h4}:=
    pz (Y:=aQ X scope N s3 H3 C fp) hc `a (hg _ _ _ _) (hf _ _ _ _) (hb _ _ _ _) ce T IC st4 fO w (ht _ _ _) λσ' H' s' I' _ q=>fin C σ' H' s' hCs I' q
  exact iV ce hcl `a loop (T.self _ 0 _ _ _ st4 loop)
theorem tL{it Z8:EM}{env:Env}{e iter2:Expr}{d:Nat}{c:Code}:fA tg iter ifs (yf iter2 e d env Z8) it env c=(do
 standAt iter.pos
 match <-pyNext it with
 |none=>pure (.done .next)
 |some v=>
  letOwnedTupleGo tg it v
  assign tg env v
  let mut ok:=true
  for c in ifs do
   if ok then ok <-isTrue c env (eval c env)
  if ok then
    let x <-eval iter2 env
    standAt iter2.pos
    let x <-foldedSetIterable iter2 env x
    let _ <-runOwn (.compStart e d (<-holding [x] (pyIter x)) Z8 env) env
  again c):=by
 unfold fA yf;simp only[NG,pure_bind]
 all_goals rfl
variable{kx vx Z2 tg2 iter2 tg3 iter3:Expr}{ifs2 ifs3:List Expr}{wi2 wi3:TI}{g2 g3:TG}{tf2 tf3:TT}{te tk tv:TE}{mk:HO}
end
end L2
open L2.CompE renaming set->PN
namespace Wb
open PySem L2 Mi
section
variable{Er:Nat->Prop}{Z β γ S:Type}{K:EL}{W W' W0 Wb W1 W2:Wd}{M:St}{t ta tb te ti tk tv:TE}{i:Nat}{O:Wd->Addr->S->Prop}
theorem vD{t:TB}{D:Addr}{H:Hp}{ZZ:Hp->Prop}(h:t D M H ZZ):xS M H λb H3=>if 1 b then t D M H3 ZZ else ZZ H3:=by
 show(if 1 true then t D M H ZZ else ZZ H);rw[Z0 `a];exact h
def BV(Er:Nat->Prop)(t:TB)(M:St)(Wb W:Wd)(O:Wd->Addr->S->Prop)(D:Addr)(m:S->Res S):Prop:=∀W1 s(N:Hp->Prop),Ext W W1->O W1 D s->((m s).OkE Er λs'=>∀W',Same W1.G W'.G->Ext Wb W'->O W' D s'->N W'.H)->t D M W1.H N
theorem nU{R:`k}{J:It}{xs:`r}{g:TG}{tf:TT}{t:TB}{f:Z->S->Res S}{D:Addr}{N:Hp->Prop}{s0:S}(hy:Yl J W R xs)(h0:Ext W W1\/Same W.G W1.G)(eb:Ext Wb W1)(o:O W1 D s0)
  (hs:∀W2 a v s(ZZ:Hp->Prop),Same W.G W2.G->Ext Wb W2->O W2 D s->R W2.G a v->(f a s).OkE Er (λs'=>∀W',Same W2.G W'.G->Ext Wb W'->O W' D s'->ZZ W'.H)->g v M W2.H λσ2 H2=>Keep M σ2/\tf σ2 H2 λb H3=>if 1 b then t D σ2 H3 ZZ else ZZ H3)
  (mono:∀W W' s,Ext W W'->O W D s->O W' D s)
  (k:(bO f xs s0).OkE Er λs'=>∀W',Same W.G W'.G->Ext Wb W'->O W' D s'->N W'.H):tK g tf t D M W1.H N J:=by
 have hs1:Same W.G W1.G:=h0.elim (λe=>e.g) id;refine⟨λi n H=>n=`i-i/\i<=`i/\∃(W3:Wd)(s:S),W3.H=H/\Same W.G W3.G/\Ext Wb W3/\O W3 D s/\(bO f (xs.drop i) s).OkE Er λs'=>∀W',Same W.G W'.G->Ext Wb W'->O W' D s'->N W'.H,⟨`i,`f,`f,W1,s0,`a,hs1,eb,o,by simpa using k⟩,?_⟩;rintro i n H ⟨rfl,hi1,W3,s,rfl,e3,eb3,o3,q⟩;by_cases hlt:i<`i
 ·obtain⟨a,ha⟩:∃a,0 xs[i]? a:=⟨xs[i],by simp[hlt]⟩
  obtain⟨h1,h2⟩:=(hy W3 e3).1 i a ha;refine .inr ⟨h1,λH'=>∃(W3:Wd)(s:S),W3.H=H'/\Same W.G W3.G/\Ext Wb W3/\O W3 D s/\(bO f (xs.drop<|i+1) s).OkE Er λs'=>∀W',Same W.G W'.G->Ext Wb W'->O W' D s'->N W'.H,λH' z=>⟨`i-(i+1),`b,`a,hlt,z⟩,λx H' hx=>?_⟩;obtain⟨W4,rfl,e4,rx⟩:=h2 x H' hx;rw[mM ha]at q;exact hs W4 a x s _ (e3.trans e4.g) (eb3.trans e4) (mono _ _ _ e4 o3) rx (5 q λs' ks W' z1 z2 z3=>⟨W',s',`a,(e3.trans e4.g).trans z1,z2,z3,ks⟩)
 ·have e:i=`i:=`b
  subst e;rw[HJ]at q;exact .inl ⟨(hy W3 e3).2,q W3 e3 eb3 o3⟩
theorem Ar{R:`k}{wi:TI}{g:TG}{tf:TT}{t:TB}{mi:11 Z}{f:Z->S->Res S}{D:Addr}(eb:Ext Wb W)(hi:IV Er wi M W R mi)(mono:∀W W' s,Ext W W'->O W D s->O W' D s)
  (hs:∀W2 a v s(ZZ:Hp->Prop),Same W.G W2.G->Ext Wb W2->O W2 D s->R W2.G a v->(f a s).OkE Er (λs'=>∀W',Same W2.G W'.G->Ext Wb W'->O W' D s'->ZZ W'.H)->g v M W2.H λσ2 H2=>Keep M σ2/\tf σ2 H2 λb H3=>if 1 b then t D σ2 H3 ZZ else ZZ H3):
  BV Er (Ap wi g tf t) M Wb W O D (λs=>mi.bind λxs=>bO f xs s):=λW1 s N e1 o k=>hi W1 e1 _ (5 k λxs kx J W2 e2 hy=>nU (W:=W2) (Wb:=Wb) hy (.inl `q) ((eb.trans e1).trans e2) (mono _ _ _ e2 o) (λW3 a v s ZZ e3 eb3 o3 r k3=>hs W3 a v s ZZ ((`D).g.trans e3) eb3 o3 r k3) mono<|kx.imp λs' ks W' z1 z2 z3=>ks W' (e2.g.trans z1) z2 z3)
end
end Wb
namespace L2
open PySem PySem.Spec PySem.Calls PyProof.Rows
open PySem.W (findIn findObj mroIn looks_findIn looks_find looks_mroIn class_get KitX clsIn Frag InstAt lookIn)
def XO(a:Addr)(o:Obj):HO:=.ext λh=>34 a o
section
variable{P:F6}{w:Fh}{H:Hp}{h:Heap}{a d:Addr}{o:Obj}{fs:7 Str V}{mA:Str->`Q}
theorem XO.ok(e:34 a o):ObjOk P w H h a (XO a o):=⟨e,⟨_,e⟩,λ_ _ p k=>k _ p⟩
end
end L2
open L2.XO renaming ok->OD
namespace Wb
open PySem L2 Mi
section
variable{Er:Nat->Prop}{Z β:Type}{W W':Wd}{M:St}{K:EL}
theorem TL.snoc{R:Rf Z}[FrT R]{Fs:Nat->FS}{F:FS}{xs:`r}{vs:`u}{x:Z}{u:V}(t:TL R W Fs xs vs)(e:Ext W W')(r:R W' F x u)(hn:∀q,F q->W.H q=`c):TL R W' (λj=>if j=`i then F else Fs j) (xs++[x]) (vs++[u]):=by
 have key:∀j q,(if j=`i then F else Fs j) q->j=`i/\F q\/j<`i/\Fs j q:=λj q h=>by
  by_cases z:j=`i;·exact .inl ⟨z,by simpa [Z0 z] using h⟩
  ·have h':Fs j q:=by simpa [Z1 z] using h
   exact .inr ⟨t.rng j q h',h'⟩
 refine⟨by simp[t.len],λi y w h1 h2=>?_,λi q h=>?_,λi j q h1 h2=>?_⟩
 ·by_cases z:i<`i
  ·rw[F7 z]at h1;rw[F7 (by rw[t.len];exact z)]at h2;simp only[Z1 (Fd z)];exact OP (t.el i y w h1 h2) e
  ·rw[F9 `b]at h1;rw[F9 (by rw[t.len];omega),t.len]at h2;have z2:i-`i=0:=by
    refine GS λy=>?_;rw[FN.mpr (by simp;omega)]at h1;cases h1
   rw[z2]at h1 h2;cases h1;cases h2;simp only[Z0 (show i=xs.length by omega)];exact r
 ·rw[FJ,GZ];rcases key i q h with⟨a,_⟩|⟨a,_⟩<;>omega
 ·rcases key i q h1 with⟨z1,a⟩ | ⟨z1,a⟩ <;> rcases key j q h2 with⟨z2,b⟩ | ⟨z2,b⟩
  ·omega
  ·obtain⟨_,_,_,_,rr⟩:=t.at2 b;exact absurd (hn q a) (Nb rr q b).2
  ·obtain⟨_,_,_,_,rr⟩:=t.at2 a;exact absurd (hn q b) (Nb rr q a).2
  ·exact t.dj i j q a b
theorem TL.ext{R:Rf Z}[FrT R]{Fs:Nat->FS}{xs:`r}{vs:`u}(t:TL R W Fs xs vs)(e:Ext W W'):TL R W' Fs xs vs:=⟨t.len,λi x u a b=>OP (t.el i x u a b) e,t.rng,t.dj⟩
theorem pA{cap:List `S}{wi:TI}{g:TG}{te:TE}{R:`k}{R':Rf β}[FrT R']{m:11 Z}{f:Z->Res β}(hi:IV Er wi M W R m)
  (hb:∀(W1:Wd)(a:Z)(v:V),Ext W W1->R W1.G a v->∀Q:VK,((f a).OkE Er λb=>∀u W2 F,Ext W1 W2->(∀q,F q->W1.H q=`c)->R' W2 F b u->Q u W2.H)->g v (bH cap M) W1.H λσ2 H2=>Keep (bH cap M) σ2/\te σ2 H2 Q):
  EVt Er (oS cap wi g xS te) M W (oL R') (m.bind λxs=>eK xs f):=λW1 e1 Q k=>by
 refine hi W1 e1 _ (5 k λxs kx J W2 e2 hy=>?_);obtain⟨hl,kx⟩:=ba (EE kx);refine⟨λi n ys H=>n=`i-i/\i<=`i/\ys.length<=i/\∃(W3:Wd)(bs:List β)(Fs:Nat->FS),W3.H=H/\Ext W2 W3/\TL R' W3 Fs bs ys/\(∀i q,Fs i q->W2.H q=`c)/\(jf f<|xs.drop i).OkE Er (λr=>∀v W4 F,Ext W1 W4->(∀q,F q->W1.H q=`c)->oL R' W4 F (bs++r) v->Q v W4.H),⟨`i,`f,`f,`f,W2,[],λ_ _=>False,`a,`q,⟨rfl,λi x u h=>by simp at h,λ_ _ z=>z.elim,λ_ _ _ z=>z.elim⟩,λ_ _ z=>z.elim,?_⟩,?_⟩;·simpa using kx
 ·rintro i n ys H ⟨rfl,hi1,hyl,W3,bs,Fs,rfl,e3,lr,fr,q⟩;refine⟨by rw[FE];unfold Mi.cap at hl;omega,?_⟩;by_cases hlt:i<`i
  ·obtain⟨a,ha⟩:∃a,0 xs[i]? a:=⟨xs[i],by simp[hlt]⟩
   obtain⟨h1,h2⟩:=(hy W3 e3.g).1 i a ha;refine .inr ⟨h1,λys' H'=>ys'.length<=i+1/\∃(W3:Wd)(bs:List β)(Fs:Nat->FS),W3.H=H'/\Ext W2 W3/\TL R' W3 Fs bs ys'/\(∀i q,Fs i q->W2.H q=`c)/\(jf f<|xs.drop<|i+1).OkE Er (λr=>∀v W4 F,Ext W1 W4->(∀q,F q->W1.H q=`c)->oL R' W4 F (bs++r) v->Q v W4.H),λys' H'⟨z1,z2⟩=>⟨`i-(i+1),`b,`a,hlt,z1,z2⟩,λx H' hx=>?_⟩;obtain⟨W4,rfl,e4,rx⟩:=h2 x H' hx;rw[mL ha]at q;have:=hb W4 a x (e1.trans<|(`L).trans e4) rx (λy H4=>(ys++[y]).length<=i+1/\∃(W3:Wd)(bs:List β)(Fs:Nat->FS),W3.H=H4/\Ext W2 W3/\TL R' W3 Fs bs (ys++[y])/\(∀i q,Fs i q->W2.H q=`c)/\(jf f<|xs.drop<|i+1).OkE Er (λr=>∀v W4 F,Ext W1 W4->(∀q,F q->W1.H q=`c)->oL R' W4 F (bs++r) v->Q v W4.H))
    (5 q λb kb u W5 F5 e5 hF5 hu=>⟨by simp;exact hyl,W5,bs++[b],_,rfl,(e3.trans e4).trans e5,(lr.ext e4).snoc e5 hu hF5,λj q hq=>?_,5 kb λr kr=>by rw[He];exact kr⟩)
   ·exact this
   ·by_cases z:j=bs.length
    ·simp only[Z0 z]at hq;exact none_of (e3.trans e4).h (hF5 q hq)
    ·simp only[Z1 z]at hq;exact fr j q hq
  ·have e:i=`i:=`b
   subst e;rw[HJ]at q;refine .inl ⟨(hy W3 e3.g).2,λD hD=>?_⟩;have a0:=`L;refine q (.ref D) (W3.mut D (.lst ys)<|W3.gnone hD) (λq=>q=D\/∃i,Fs i q) (a0.trans<|.own _ hD) (λq hq=>?_) ⟨D,ys,Fs,rfl,W3.gnone hD,aG,by rw[Hj];exact lr.ext (.own _ hD),λi z=>?_,λq=>M4⟩
   ·rcases hq with z | ⟨i,z⟩
    ·rw[z];exact none_of a0.h hD
    ·exact none_of e2.h (fr i q z)
   ·obtain⟨_,_,_,_,rr⟩:=lr.at2 z;exact(Nb rr D z).2 hD
end
end Wb
namespace Mi
def As(a b:`l):Bool:=decide (a.1<b.1)||(decide (a.1=b.1)&&decide (a.2<=b.2))
theorem jk{a b:`l}:1 (As a b)↔a.1<b.1\/a.1=b.1/\a.2<=b.2:=by unfold As;simp
def eU(xs:`A):`A:=xs.mergeSort As
theorem eV(xs:`A):(eU xs).Perm xs:=M7 _ _
theorem lu(xs:`A):(eU xs).Pairwise (λa b=>1<|As a b):=
 L7 (le:=As) (λa b c h1 h2=>by rw[jk]at *;omega) (λa b=>by simp only[Nj,jk];omega) xs
theorem jd{xs ys:`A}(h:ys.Perm xs)(hs:ys.Pairwise (λa b=>1<|As a b)):ys=eU xs:=
 KW (le:=λa b=>1 (As a b)) (λa b _ _ h1 h2=>by rw[jk]at *;exact L8 `b `b) hs (lu xs) (h.trans (eV xs).symm)
def tM(ks:`A)(k:`l):Res `A:=eR (ks.length<1000) (if k∈ks then ks else k::ks)
def vE(ks:`A):Res `A:=eR (ks.length<=63) (eU ks)
end Mi
namespace Wb
open PySem
theorem lx{xs:Array Nat}{j:Nat}(up:∀a b,a<b->b<xs.size->xs.getD a 0<xs.getD b 0):∀(f lo hi:Nat),hi-lo<=f->lo<=hi->hi<=xs.size->(∀a,a<lo->xs.getD a 0<j)->(∀a,hi<=a->a<xs.size->j<=xs.getD a 0)->IM xs j f lo hi<=xs.size/\(∀a,a<IM xs j f lo hi->xs.getD a 0<j)/\(∀a,IM xs j f lo hi<=a->a<xs.size->j<=xs.getD a 0)
 |0,lo,hi,h,hl,hs,h1,h2=>by
  unfold IM;exact⟨`b,h1,λa ha=>h2 a `b⟩
 |f+1,lo,hi,h,hl,hs,h1,h2=>by
  unfold IM;by_cases z:lo<hi
  ·rw[Z0 z];have hm:(lo+hi)/2<hi:=`b
   have hm2:lo<=(lo+hi)/2:=`b
   have e:∀d d':Nat,xs.getD ((lo+hi)/2) d=xs.getD ((lo+hi)/2) d':=λd d'=>by
    simp[HL,show(lo+hi)/2<xs.size by omega]
   dsimp only;generalize hM:(lo+hi)/2=m at*
   by_cases y:xs.getD m j<j
   ·rw[Z0 y];refine lx up f (m+1) hi `b `b hs (λa ha=>?_) h2;by_cases q:a=m;·subst q;rw[e 0 j];exact y
    ·have:=up a m `b `b;rw[e 0 j]at this;omega
   ·rw[Z1 y];refine lx up f lo m `b hm2 `b h1 λa ha hb=>?_;by_cases q:a=m;·subst q;rw[e 0 j];omega
    ·have:=up m a `b hb;rw[e 0 j]at this;omega
  ·rw[Z1 z];exact⟨`b,h1,λa ha=>h2 a `b⟩
def Up(xs:Array Nat):Prop:=∀a b,a<b->b<xs.size->xs.getD a 0<xs.getD b 0
theorem jl{xs:Array Nat}(up:Up xs)(j:Nat):GA xs j<=xs.size/\(∀a,a<GA xs j->xs.getD a 0<j)/\(∀a,GA xs j<=a->a<xs.size->j<=xs.getD a 0):=by
 unfold GA;exact lx up xs.size 0 xs.size `b `b `b (λa ha=>`b) (λa ha hb=>`b)
abbrev Pr:=SetTable.Probe
def hU(mask:Nat)(p:Pr):Pr:=if p.more>0 then {p with j:=p.j+1,more:=p.more-1} else {p with j:=(FA mask p.i p.perturb).1,more:=FT mask (FA mask p.i p.perturb).1-(FA mask p.i p.perturb).1,i:=(FA mask p.i p.perturb).1,perturb:=(FA mask p.i p.perturb).2}
theorem ly(t:G6)(p:Pr):t.advance p=hU t.mask p:=by unfold SetTable.advance hU;rfl
def itM(mask:Nat):Nat->Pr->Pr
 |0,p=>p
 |n+1,p=>itM mask n (hU mask p)
theorem gh(mask:Nat):∀(a b:Nat)(p:Pr),itM mask (a+b) p=itM mask b (itM mask a p)
 |0,b,p=>by rw[Lk];rfl
 |a+1,b,p=>by rw[show a+1+b=(a+b)+1 by omega];exact gh mask a b (hU mask p)
theorem vF(mask n:Nat)(p:Pr):itM mask (n+1) p=hU mask (itM mask n p):=by rw[gh];rfl
def uv(mask i pt:Nat):Pr:={j:=i,more:=FT mask i-i,i,perturb:=pt,dummy:=none}
theorem kG(mask:Nat):∀(n:Nat)(p:Pr),p.more=n->p.dummy=`c->itM mask (n+1) p=uv mask (FA mask p.i p.perturb).1 (FA mask p.i p.perturb).2
 |0,p,h,hd=>by
  show hU mask p=_;unfold hU uv;rw[Z1 `b];cases p;simp at hd;subst hd;rfl
 |n+1,p,h,hd=>by
  show itM mask (n+1) (hU mask p)=_;have e:hU mask p={p with j:=p.j+1,more:=p.more-1}:=by unfold hU;rw[Z0 `b]
  rw[e];exact kG mask n _ (by show p.more-1=n;omega) hd
theorem rP(mask i:Nat):FT mask i-i<=9:=by unfold FT;split<;>omega
def oA(mask:Nat):Nat->Nat×Nat->Nat×Nat
 |0,x=>x
 |n+1,x=>oA mask n (FA mask x.1 x.2)
theorem vG(mask:Nat):∀(n i pt:Nat),∃k,k<=10*n/\itM mask k (uv mask i pt)=uv mask (oA mask n (i,pt)).1 (oA mask n (i,pt)).2
 |0,i,pt=>⟨0,`b,`a⟩
 |n+1,i,pt=>by
  obtain⟨k,hk,e⟩:=vG mask n (FA mask i pt).1 (FA mask i pt).2;have r:=kG mask _ (uv mask i pt) `a `a;have m:=rP mask i;refine⟨(uv mask i pt).more+1+k,?_,?_⟩
  ·have:(uv mask i pt).more<=9:=m;omega
  ·rw[gh,r];exact e
theorem rQ(mask:Nat):∀(a b:Nat)(x:Nat×Nat),oA mask (a+b) x=oA mask b (oA mask a x)
 |0,b,x=>by rw[Lk];rfl
 |a+1,b,x=>by rw[show a+1+b=(a+b)+1 by omega];exact rQ mask a b _
theorem vH(mask:Nat):∀(n:Nat)(x:Nat×Nat),(oA mask n x).2=x.2/32^n
 |0,x=>by simp[oA]
 |n+1,x=>by
  show(oA mask n<|FA mask x.1 x.2).2=_;rw[vH mask n];show x.2/32/32^n=_;rw[Ll,OI,Nat.mul_comm]
theorem Au(mask:Nat):∀(n:Nat)(x:Nat×Nat),x.1<=mask->(oA mask n x).1<=mask
 |0,x,h=>h
 |n+1,x,h=>Au mask n _ (by show(x.1*5+1+x.2/32)%(mask+1)<=mask;have:=Km (x.1*5+1+x.2/32) (show 0<mask+1 by omega);omega)
def xv(mask:Nat):Nat->Nat->Nat
 |0,i=>i
 |n+1,i=>xv mask n<|(i*5+1)%(mask+1)
theorem vI(mask:Nat):∀(n i:Nat),oA mask n (i,0)=(xv mask n i,0)
 |0,i=>rfl
 |n+1,i=>by
  show oA mask n (FA mask i 0)=_;rw[show FA mask i 0=((i*5+1)%(mask+1),0) by simp[FA],vI mask n];rfl
theorem kH(mask:Nat):∀(a b i:Nat),xv mask (a+b) i=xv mask b (xv mask a i)
 |0,b,i=>by rw[Lk];rfl
 |a+1,b,i=>by rw[show a+1+b=(a+b)+1 by omega];exact kH mask a b _
def isMask(m:Nat):Prop:=m=7\/m=31\/m=127\/m=511\/m=2047
def Bc(m:Nat):Nat->Nat->Nat->Nat
 |0,_,Z8=>Z8
 |n+1,i,Z8=>Bc m n ((i*5+1)%(m+1))<|Z8|||2^i
theorem rR(m:Nat):∀(n i Z8 e:Nat),1 ((Bc m n i Z8).testBit e)->1 (Z8.testBit e)\/∃k,k<n/\xv m k i=e
 |0,i,Z8,e,h=>.inl h
 |n+1,i,Z8,e,h=>by
  rcases rR m n _ _ e h with q|⟨k,hk,q⟩
  ·rw[Nat.testBit_or,Nj]at q;rcases q with q|q
   ·exact .inl q
   ·rw[Nat.testBit_two_pow,decide_eq_true_eq]at q;exact .inr ⟨0,`b,q⟩
  ·exact .inr ⟨k+1,`b,q⟩
theorem Dy{m:Nat}(h:isMask m):(∀e,e<m+1->∃k,k<m+1/\xv m k 0=e)/\xv m (m+1) 0=0:=by
 have key:∀m,Bc m (m+1) 0 0=2^(m+1)-1->∀e,e<m+1->∃k,k<m+1/\xv m k 0=e:=λm hv e he=>by
  have hb:1 ((Bc m (m+1) 0 0).testBit e):=by rw[hv,Nat.testBit_two_pow_sub_one];simpa using he
  rcases rR m _ _ _ e hb with q|q;·simp at q
  ·exact q
 rcases h with rfl|rfl|rfl|rfl|rfl;·exact⟨key 7 ⋯,by decide +kernel⟩
 ·exact⟨key 31 ⋯,by decide +kernel⟩
 ·exact⟨key 127 ⋯,by decide +kernel⟩
 ·exact⟨key 511 ⋯,by decide +kernel⟩
 ·exact⟨key 2047 ⋯,by decide +kernel⟩
theorem vJ{m:Nat}(h:isMask m){i e:Nat}(hi:i<=m)(he:e<=m):∃n,n<=m/\xv m n i=e:=by
 obtain⟨h1,h2⟩:=Dy h;obtain⟨a,ha,ea⟩:=h1 i `b;obtain⟨b,hb,eb⟩:=h1 e `b;by_cases z:a<=b
 ·refine⟨b-a,`b,?_⟩;rw[<-ea,<-kH,show a+(b-a)=b by omega,eb]
 ·refine⟨m+1-a+b,`b,?_⟩;rw[<-ea,<-kH,show a+(m+1-a+b)=(m+1)+b by omega,kH,h2,eb]
theorem BS{m:Nat}(h:isMask m){p:Pr}(hd:p.dummy=`c)(hm:p.more<=9)(hp:p.perturb<2^64){e:Nat}(he:e<=m):∃k,k<10*GB m/\(itM m k p).j=e:=by
 have r:=kG m p.more p `a hd;obtain⟨k1,hk1,e1⟩:=vG m 12 (FA m p.i p.perturb).1 (FA m p.i p.perturb).2;have z:(oA m 12 ((FA m p.i p.perturb).1,(FA m p.i p.perturb).2)).2=0:=by
  rw[vH];show p.perturb/32/32^12=0;rw[Ll];exact N1 `b
 have i0:(FA m p.i p.perturb).1<=m:=by
  show(p.i*5+1+p.perturb/32)%(m+1)<=m;have:=Km (p.i*5+1+p.perturb/32) (show 0<m+1 by omega);omega
 have i1:=Au m 12 ((FA m p.i p.perturb).1,(FA m p.i p.perturb).2) i0;rw[z]at e1;generalize (oA m 12 ((FA m p.i p.perturb).1,(FA m p.i p.perturb).2)).1=i at*
 obtain⟨n,hn,en⟩:=vJ h i1 he;obtain⟨k2,hk2,e2⟩:=vG m n i 0;rw[vI,en]at e2;refine⟨p.more+1+k1+k2,?_,?_⟩;·unfold GB;omega
 ·rw[gh,gh,r,e1,e2];rfl
def InP(xs:Array Nat)(j:Nat):Prop:=∃a,a<xs.size/\xs.getD a 0=j
theorem pB{xs:Array Nat}{a:Nat}(h:a<xs.size):0 xs[a]? (xs.getD a 0):=by simp[HL,h]
theorem ik{xs:Array Nat}(up:Up xs){a:Nat}(h:a<xs.size):GA xs (xs.getD a 0)=a:=by
 obtain⟨h0,h1,h2⟩:=jl up (xs.getD a 0);generalize GA xs (xs.getD a 0)=b at*
 by_cases z:a<b;·have:=h1 a z;omega
 ·by_cases y:b<a
  ·have:=up b a y h;have:=h2 b `b `b;omega
  ·omega
theorem tN{xs:Array Nat}(up:Up xs){j:Nat}(h:¬InP xs j):(xs[GA xs j]? ==some j)=`g:=by
 obtain⟨h0,h1,h2⟩:=jl up j;by_cases z:GA xs j<xs.size
 ·rw[pB z];rw[beq_eq_false_iff_ne];intro e;injection e with e;exact h (9 z e)
 ·rw[Iz `b];rfl
structure Tp(t:G6)(hs:`H):Prop where
 dm:t.dummies=#[]
 sz:t.place.size=hs.length
 up:Up t.place
 le:∀j,InP t.place j->j<=t.mask
 msk:isMask t.mask
 reach:∀i h,0 hs[i]? h->∃k,(29 k<|t.probeStart h).j=t.place.getD i 0/\∀k',k'<k->InP t.place (29 k'<|t.probeStart h).j
structure Tb(t:G6)(hs:`H):Prop extends Tp t hs where
 room:hs.length*5<t.mask*3
section
variable{t:G6}{hs:`H}
theorem Tb.live(T:Tb t hs){i:Nat}(h:i<t.place.size):t.slot (t.place.getD i 0)=.live i:=by
 unfold Ot;dsimp only;rw[ik T.up h,pB h];simp
theorem Tb.empty(T:Tb t hs){j:Nat}(h:¬InP t.place j):t.slot j=.empty:=by
 unfold Ot;dsimp only;rw[Z1 (by rw[tN T.up h];decide)];unfold MO;rw[T.dm];rfl
theorem pC(t:G6)(h:Int):(t.probeStart h).dummy=none/\(t.probeStart h).more<=9/\(t.probeStart h).perturb<2^64:=by
 refine⟨`a,rP _ _,?_⟩;show(h%(2^64:Int)).toNat<2^64;omega
theorem Av{xs:Array Nat}(up:Up xs){m:Nat}(h:xs.size<=m):∃j,j<=m/\¬InP xs j:=by
 have base:∀n,n<=xs.size->(∀j,j<n->InP xs j)->∀a,a<n->xs.getD a 0=a:=by
  intro n hn hin a
  induction a using Nk with
  |_ a ih=>
   intro ha;obtain⟨b,hb,eb⟩:=hin a ha;have lo:∀a,a<xs.size->a<=xs.getD a 0:=by
    intro a
    induction a with
    |zero=>intro _;omega
    |succ a ih=>intro h;have:=ih `b;have:=up a (a+1) `b h;omega
   have:=lo b hb;by_cases z:b=a;·rw[<-z];rw[z]at eb;rw[z];exact eb
   ·have:=ih b `b `b;omega
 by_cases hall:∀j,j<xs.size->InP xs j
 ·refine⟨xs.size,h,λ⟨a,ha,ea⟩=>?_⟩;have:=base xs.size `b hall a ha;omega
 ·have ⟨j,hj⟩:=JR.mp hall;have ⟨h1,h2⟩:=KL.mp hj;exact⟨j,`b,h2⟩
theorem Tb.gap(T:Tb t hs){p:Pr}(hp:p.dummy=none/\p.more<=9/\p.perturb<2^64):∃k,k<10*GB t.mask/\¬InP t.place (29 k p).j/\∀k',k'<k->InP t.place (29 k' p).j:=by
 obtain⟨e,he,hn⟩:=Av T.up (m:=t.mask) (by have:=T.sz;have:=T.room;omega);obtain⟨k,hk,ek⟩:=BS T.msk hp.1 hp.2.1 hp.2.2 he;rw[<-ek]at hn;clear ek
 induction k using Nk with
 |_ k ih=>
  by_cases z:∀k',k'<k->InP t.place (29 k' p).j;·exact⟨k,hk,hn,z⟩
  ·have ⟨k',h'⟩:=JR.mp z;have ⟨h1,h2⟩:=KL.mp h';exact ih k' h1 h2 `b
theorem Tb.go(T:Tb t hs){hashAt:Nat->Int}(hA:∀i h,0 hs[i]? h->hashAt i=h)(h:Int):∀(E fuel:Nat)(p:Pr),p.dummy=none->E<fuel->¬InP t.place (29 E p).j->(∀k',k'<E->InP t.place (29 k' p).j)->
  (∃k i,k<E/\i<hs.length/\t.place.getD i 0=(29 k p).j/\0 hs[i]? h/\0 (IP t hashAt h fuel p) (.candidate (29 k p).j i<|29 (k+1) p)/\∀k',k'<k->∀i,t.place.getD i 0=(29 k' p).j->i<hs.length->hs[i]?≠some h)\/
  (0 (IP t hashAt h fuel p) (.empty (29 E p).j `c)/\∀k',k'<E->∀i,t.place.getD i 0=(29 k' p).j->i<hs.length->hs[i]?≠some h)
 |0,fuel+1,p,hd,hf,hn,ha=>by
  refine .inr ⟨?_,λk' hk=>absurd hk `b⟩;unfold IP;rw[T.empty (j:=p.j) hn,hd];rfl
 |E+1,fuel+1,p,hd,hf,hn,ha=>by
  obtain⟨a,h1,h2⟩:=ha 0 `b;have h2':t.place.getD a 0=p.j:=h2;have one:∀i,t.place.getD i 0=p.j->i<hs.length->i=a:=λi hi hl=>by
   have hi':i<t.place.size:=by have:=T.sz;omega
   rw[<-ik T.up hi',hi,<-h2',ik T.up h1]
  unfold IP;rw[<-h2',T.live h1];dsimp only;have hl:a<hs.length:=by have:=T.sz;omega
  by_cases z:hashAt a=h
  ·refine .inl ⟨0,a,`b,hl,h2,?_,?_,λk' hk=>absurd hk `b⟩
   ·have e:=hA a hs[a] (EH hl);rw[EH hl,<-e,z]
   ·rw[Z0 `W,ly,h2'];rfl
  ·rw[Z1 `W,ly];have hne:∀i,t.place.getD i 0=p.j->i<hs.length->hs[i]?≠some h:=λi hi hl' e=>z (by rw[one i hi hl']at e;exact hA a h e);have hd':(hU t.mask p).dummy=`c:=by unfold hU;split<;>exact hd
   rcases Tb.go T hA h E fuel (hU t.mask p) hd' (by omega) hn (λk' hk=>ha (k'+1) (by omega))with⟨k,i,g1,g2,g3,g4,g5,g6⟩|⟨g1,g2⟩
   ·refine .inl ⟨k+1,i,`b,g2,g3,g4,g5,λk' hk=>?_⟩;cases k' with
    |zero=>exact hne
    |succ k'=>exact g6 k' `b
   ·refine .inr ⟨g1,λk' hk=>?_⟩;cases k' with
    |zero=>exact hne
    |succ k'=>exact g2 k' `b
theorem lA{Z:Type}(xs:Array Z)(p:Nat)(x:Z):(GJ xs p x).toList=xs.toList.take p++x::xs.toList.drop p:=by
 unfold GJ;simp[Array.toList_append,MP,HF]
theorem fW{Z:Type}(xs:Array Z){p:Nat}(h:p<=xs.size)(x:Z):(GJ xs p x).size=xs.size+1:=by
 rw[<-FL,lA];simp;omega
theorem yg{Z:Type}(xs:Array Z){p:Nat}(h:p<=xs.size)(x:Z)(a:Nat):(GJ xs p x)[a]? =if a<p then xs[a]? else if a=p then some x else xs[a-1]? :=by
 rw[<-FG,lA];by_cases z:a<p;·rw[Z0 z,F7 (by simp;omega),G7 z,FG]
 ·rw[Z1 z,F9 (by simp;omega)];have hl:(List.take p xs.toList).length=p:=by simp;omega
  rw[hl];by_cases y:a=p;·rw[Z0 y,y];simp
  ·rw[Z1 y,show a- p=(a-p-1)+1 by omega,Gq,Gz,FG];congr 1;omega
theorem jm(xs:Array Nat){p:Nat}(h:p<=xs.size)(x:Nat)(a:Nat):(GJ xs p x).getD a 0=if a<p then xs.getD a 0 else if a=p then x else xs.getD (a-1) 0:=by
 rw[FC,yg xs h];split;·rw[FC]
 ·split;·rfl
  ·rw[FC]
theorem rS{xs:Array Nat}{p:Nat}(h:p<=xs.size){x j:Nat}:InP (GJ xs p x) j↔j=x\/InP xs j:=by
 constructor
 ·rintro ⟨a,ha,e⟩;rw[fW xs h]at ha;rw[jm xs h]at e;by_cases z:a<p;·rw[Z0 z]at e;exact .inr ⟨a,`b,e⟩
  ·rw[Z1 z]at e;by_cases y:a=p;·rw[Z0 y]at e;exact .inl e.symm
   ·rw[Z1 y]at e;exact .inr ⟨a-1,`b,e⟩
 ·rintro (rfl | ⟨a,ha,e⟩);·exact⟨p,by rw[fW xs h];omega,by rw[jm xs h,Z1 (by omega),Z0 rfl]⟩
  ·by_cases z:a<p;·exact⟨a,by rw[fW xs h];omega,by rw[jm xs h,Z0 z,e]⟩
   ·exact⟨a+1,by rw[fW xs h];omega,by rw[jm xs h,Z1 `b,Z1 `b];exact e⟩
theorem Tb.put(T:Tb t hs){h:Int}{E:Nat}(hn:¬InP t.place (29 E<|t.probeStart h).j)(hj:(29 E<|t.probeStart h).j<=t.mask)(ha:∀k',k'<E->InP t.place (29 k'<|t.probeStart h).j):
  (t.put (29 E<|t.probeStart h).j).2<=hs.length/\(t.put (29 E<|t.probeStart h).j).1.mask=t.mask/\Tp (t.put (29 E<|t.probeStart h).j).1 (hs.take (t.put (29 E<|t.probeStart h).j).2++h::hs.drop (t.put (29 E<|t.probeStart h).j).2):=by
 obtain⟨b0,b1,b2⟩:=jl T.up (29 E<|t.probeStart h).j;generalize hJ:(itM t.mask E<|t.probeStart h).j=j at*
 have hp2:(t.put j).2=GA t.place j:=rfl;have hpl:(t.put j).1.place=GJ t.place (GA t.place j) j:=rfl;have hmk:(t.put j).1.mask=t.mask:=rfl;have hst:∀h,(t.put j).1.probeStart h=t.probeStart h:=λ_=>`a;have hsz:=T.sz;generalize GA t.place j=p at*
 rw[hp2];refine⟨`b,`a,?_,?_,?_,?_,T.msk,?_⟩
 ·show(if MO t.dummies j then _ else t.dummies)=#[];unfold MO;rw[T.dm];rfl
 ·rw[hpl,fW _ b0];simp;omega
 ·rw[hpl];intro a b hab hb;rw[fW _ b0]at hb;rw[jm _ b0,jm _ b0];have gt:∀a,p<=a->a<t.place.size->j<t.place.getD a 0:=λa h1 h2=>by
   have:=b2 a h1 h2;by_cases z:t.place.getD a 0=j;·exact absurd ⟨a,h2,z⟩ hn
   ·omega
  by_cases z1:a<p
  ·rw[Z0 z1];by_cases z2:b<p;·rw[Z0 z2];exact T.up a b hab `b
   ·rw[Z1 z2];by_cases z3:b=p;·rw[Z0 z3];exact b1 a z1
    ·rw[Z1 z3];have:=b1 a z1;have:=gt (b-1) `b `b;omega
  ·rw[Z1 z1,Z1 (show ¬b< p by omega),Z1 (show ¬b=p by omega)];by_cases z3:a=p;·rw[Z0 z3];exact gt (b-1) `b `b
   ·rw[Z1 z3];exact T.up (a-1) (b-1) `b `b
 ·intro q hq;rw[hpl,rS b0]at hq;rcases hq with rfl|hq
  ·exact hj
  ·exact T.le q hq
 ·intro i g hg;rw[hmk,hst,hpl];have mono:∀q,InP t.place q->InP (GJ t.place p j) q:=λq hq=>(rS b0).mpr (.inr hq);have hl:(hs.take p).length=p:=by simp;omega
  by_cases z1:i<p
  ·rw[F7 `b,G7 z1]at hg;obtain⟨k,ek,hk⟩:=T.reach i g hg;exact⟨k,by rw[ek,jm _ b0,Z0 z1],λk' h'=>mono _<|hk k' h'⟩
  ·rw[F9 `b,hl]at hg;by_cases z2:i=p
   ·rw[z2,Jx,GN]at hg;cases hg;exact⟨E,by rw[hJ,jm _ b0,Z1 z1,Z0 z2],λk' h'=>mono _<|ha k' h'⟩
   ·rw[show i- p=(i-p-1)+1 by omega,Gq,Gz]at hg;rw[show p+(i-p-1)=i-1 by omega]at hg;obtain⟨k,ek,hk⟩:=T.reach (i-1) g hg;exact⟨k,by rw[ek,jm _ b0,Z1 z1,Z1 z2],λk' h'=>mono _<|hk k' h'⟩
end
def Oc(ow:Array `S)(j:Nat):Prop:=1 (ow.getD j<|some 0).isSome
theorem nV(m i pt:Nat):∀k,k<=FT m i-i->itM m k (uv m i pt)={j:=i+k,more:=FT m i-i-k,i:=i,perturb:=pt,dummy:=none}
 |0,_=>rfl
 |k+1,h=>by
  rw[vF,nV m i pt k `b];unfold hU;rw[Z0 (by show FT m i-i-k>0;omega)];rfl
theorem tO(m i:Nat):i<=FT m i:=by unfold FT;split<;>omega
theorem rV{m:Nat}(ow:Array `S):∀(f i pt n:Nat),n<f->¬Oc ow (oA m n (i,pt)).1->
  ∃j E,Hh m ow f i pt=some j/\(itM m E<|uv m i pt).j=j/\¬Oc ow j/\∀k',k'<E->Oc ow (itM m k'<|uv m i pt).j
 |0,_,_,_,h,_=>absurd h `b
 |f+1,i,pt,n,h,hn=>by
  have hr:=tO m i;unfold Hh;cases hf:(FP<|FT m i+1-i).find? λk=>(ow.getD (i+k)<|some 0).isNone with
  |some k=>
   have hk:=IU.mp (List.mem_of_find?_eq_some hf);have hp:=List.find?_some hf;have hb:=(List.find?_range_eq_some.mp hf).2.2;refine⟨i+k,k,`a,by rw[nV m i pt k (by omega)],?_,λk' hk'=>?_⟩;·unfold Oc;simp at hp ⊢;exact hp
   ·rw[nV m i pt k' `b];have:=hb k' hk';unfold Oc;simpa using this
  |none=>
   have hall:=List.find?_eq_none.mp hf;have occ:∀k,k<=FT m i-i->Oc ow (i+k):=λk hk=>by
    have:=hall k (IU.mpr `b);unfold Oc;cases q:ow.getD (i+k) (some 0)with
    |none=>rw[q]at this;exact absurd `a this
    |some a=>rfl
   cases n with
   |zero=>exact absurd (occ 0 `b) hn
   |succ n=>
    obtain⟨j,E,e1,e2,e3,e4⟩:=rV ow f (FA m i pt).1 (FA m i pt).2 n `b hn;have r:=kG m (FT m i-i) (uv m i pt) `a `a;refine⟨j,FT m i-i+1+E,e1,?_,e3,λk' hk'=>?_⟩;·rw[gh,r];exact e2
    ·by_cases z:k'<=FT m i-i;·rw[nV m i pt k' z];exact occ k' z
     ·rw[show k'=(FT m i-i)+1+(k'-(FT m i-i+1)) by omega,gh,r];exact e4 _ `b
abbrev stM(m:Nat)(h:Int):Pr:=uv m (FI h%(m+1)) (FI h)
theorem yh(h:Int):FI h<2^64:=by show(h%(2^64:Int)).toNat<2^64;omega
theorem yi{m:Nat}(hm:isMask m)(ow:Array `S)(h:Int){e:Nat}(he:e<=m)(hn:¬Oc ow e):
  ∃j E,Hh m ow (GB m) (FI h%(m+1)) (FI h)=some j/\(itM m E<|stM m h).j=j/\¬Oc ow j/\∀k',k'<E->Oc ow (itM m k'<|stM m h).j:=by
 have i0:FI h%(m+1)<=m:=by have:=Km (FI h) (show 0<m+1 by omega);omega
 have z:(oA m 13 (FI h%(m+1),FI h)).2=0:=by
  rw[vH];exact N1 (by have:=yh h;show FI h<32^13;omega)
 have i1:=Au m 13 (FI h%(m+1),FI h) i0;obtain⟨n,hn',en⟩:=vJ hm i1 he;refine rV ow _ _ _ (13+n) (by unfold GB;omega) ?_;rw[rQ,show oA m 13 (FI h%(m+1),FI h)=((oA m 13 (FI h%(m+1),FI h)).1,0)from L8 `a z,vI,en];exact hn
structure Lay(m:Nat)(hs:`H)(ow:Array `S)(k:Nat):Prop where
 sz:ow.size=m+1
 cnt:ow.toList.countP Mc=k
 inj:∀(j j' i:Nat),0 ow[j]? (some i)->0 ow[j']? (some i)->j=j'
 lt:∀(j i:Nat),0 ow[j]? (some i)->i<k
 reach:∀(j i:Nat)(h:Int),0 ow[j]? (some i)->0 hs[i]? h->∃n,(itM m n<|stM m h).j=j/\∀n',n'<n->Oc ow (itM m n'<|stM m h).j
theorem jn{ow:Array `S}{j:Nat}(hj:j<ow.size):Oc ow j↔∃i,0 ow[j]? (some i):=by
 unfold Oc;simp[HL,hj];cases ow[j]<;>simp
theorem Lay.gap{m:Nat}{hs:`H}{ow:Array `S}{k:Nat}(L:Lay m hs ow k)(h:k<=m):∃e,e<=m/\¬Oc ow e:=by
 by_cases z:∀e,e<=m->Oc ow e
 ·exfalso;have:ow.toList.countP Mc=ow.toList.length:=List.countP_eq_length.mpr λa ha=>by
   obtain⟨j,hj,e⟩:=Gh.mp ha;have hj':j<ow.size:=by simpa using hj
   obtain⟨i,hi⟩:=(jn hj').mp (z j (by have:=L.sz;omega));rw[<-e];have:0 ow.toList[j] i:=by
    have q:0 ow.toList[j]? (some i):=by rw[FG];exact hi
    rw[EH hj]at q;injection q
   rw[this];rfl
  rw[L.cnt,FL,L.sz]at this;omega
 ·have ⟨e,he⟩:=JR.mp z;have ⟨h1,h2⟩:=KL.mp he;exact⟨e,h1,h2⟩
theorem BU{ow:Array `S}{j:Nat}(h:¬Oc ow j):j<ow.size:=by
 by_cases z:j<ow.size;·exact z
 ·exact absurd (by unfold Oc;simp[HL,z]) h
theorem Lay.step{m:Nat}(hm:isMask m){hs:`H}{ow:Array `S}{k:Nat}(L:Lay m hs ow k)(hk:k<=m){h:Int}(hh:0 hs[k]? h):
  ∃j,0 (Hh m ow (GB m) (FI h%(m+1))<|FI h) j/\Lay m hs (ow.setIfInBounds j<|some k) (k+1):=by
 obtain⟨e,he,hn⟩:=L.gap hk;obtain⟨j,E,e1,e2,e3,e4⟩:=yi hm ow h he hn;have hj:=BU e3;refine⟨j,e1,?_⟩;have none_j:0 ow[j]? `c:=by
  have:¬∃i,ow[j]? =some (some i):=λz=>e3 ((jn hj).mpr z);rw[Fz hj]at this ⊢;cases q:ow[j]with
  |none=>rfl
  |some i=>exact absurd ⟨i,by rw[q]⟩ this
 have at_:∀q,(ow.setIfInBounds j<|some k)[q]? =if q=j then some (some k)else ow[q]? :=λq=>by
  rw[Array.getElem?_setIfInBounds];by_cases z:j=q;·subst z;simp[hj]
  ·rw[Z1 z,Z1 (Hx z)]
 have oc:∀q,Oc ow q->Oc (ow.setIfInBounds j<|some k) q:=λq hq=>by
  by_cases hs':q<ow.size
  ·obtain⟨i,hi⟩:=(jn hs').mp hq;refine(jn (by simpa using hs')).mpr ?_;rw[at_];by_cases z:q=j;·exact⟨k,by rw[Z0 z]⟩
   ·exact⟨i,by rw[Z1 z];exact hi⟩
  ·unfold Oc;simp[HL,hs']
 refine⟨by simp[L.sz],?_,?_,?_,?_⟩
 ·have hj2:j<ow.toList.length:=by simpa using hj
  have q:ow.toList[j]=`c:=by
   have:=none_j;rw[<-FG,EH hj2]at this;injection this
  rw[Array.toList_setIfInBounds,List.countP_set hj2,q,L.cnt];simp
 ·intro a b i ha hb;rw[at_]at ha hb;by_cases z1:a=j
  ·rw[Z0 z1]at ha;injection ha with ha;injection ha with ha;by_cases z2:b=j;·rw[z1,z2]
   ·rw[Z1 z2]at hb;have:=L.lt b i hb;omega
  ·rw[Z1 z1]at ha;by_cases z2:b=j
   ·rw[Z0 z2]at hb;injection hb with hb;injection hb with hb;have:=L.lt a i ha;omega
   ·rw[Z1 z2]at hb;exact L.inj a b i ha hb
 ·intro a i ha;rw[at_]at ha;by_cases z1:a=j
  ·rw[Z0 z1]at ha;injection ha with ha;injection ha with ha;omega
  ·rw[Z1 z1]at ha;have:=L.lt a i ha;omega
 ·intro a i g ha hg;rw[at_]at ha;by_cases z1:a=j
  ·rw[Z0 z1]at ha;injection ha with ha;injection ha with ha;subst ha;rw[hh]at hg;cases hg;exact⟨E,by rw[z1];exact e2,λn' h'=>oc _ (e4 n' h')⟩
  ·rw[Z1 z1]at ha;obtain⟨n,q1,q2⟩:=L.reach a i g ha hg;exact⟨n,q1,λn' h'=>oc _<|q2 n' h'⟩
theorem tP(m:Nat)(hs:`H):Lay m hs (Lw (m+1) `c) 0:=by
 have no:∀(j i:Nat),0 (Lw (m+1) (none:`S))[j]? (some i)->False:=λj i h=>by
  rw[Array.getElem?_replicate]at h;split at h<;>simp at h
 refine⟨`f,?_,λj j' i h _=>(no j i h).elim,λj i h=>(no j i h).elim,λj i _ h _=>(no j i h).elim⟩;rw[Array.toList_replicate,List.countP_replicate];rfl
abbrev nW(m:Nat)(Z8:Option (Array `S×Nat))(h:Int):Option (Array `S×Nat):=do
 let (owner,k) <-Z8
 let j <-Hh m owner (GB m) (FI h%(m+1)) (FI h)
 pure (owner.setIfInBounds j (some k),k+1)
theorem pD{m:Nat}(hm:isMask m)(hs:`H):∀(r:List Int)(ow:Array (Option Nat))(k:Nat),Lay m hs ow k->hs.drop k=r->hs.length<=m->k<=hs.length->∃ow',0 (r.foldl (nW m)<|some (ow,k)) (ow',hs.length)/\Lay m hs ow' hs.length
 | [],ow,k,L,hd,hl,hk=>by
  have:k=hs.length:=by
   have:=congrArg Hk hd;simp at this;omega
  subst this;exact⟨ow,`a,L⟩
 |h::r,ow,k,L,hd,hl,hk=>by
  have hk2:k<hs.length:=by
   have:=congrArg Hk hd;simp at this;omega
  have hh:0 hs[k]? h:=by
   have:0 (hs.drop k)[0]? h:=by rw[hd];rfl
   rw[Gz]at this;exact this
  obtain⟨j,e,L'⟩:=L.step hm `b hh;have e':0 (nW m (some (ow,k)) h) (ow.setIfInBounds j (some k),k+1):=by
   show(Hh m ow (GB m) (FI h%(m+1))<|FI h).bind _=_;rw[e];rfl
  rw[Lr,e'];exact pD hm hs r _ _ L' (by rw[<-List.drop_drop,hd];rfl) hl `b
theorem pE{m:Nat}(hm:isMask m){hs:Array Int}(hl:hs.size<=m):∃ow,0 (SetTable.layClean m hs) ow/\Lay m hs.toList ow hs.size:=by
 obtain⟨ow,e,L⟩:=pD hm hs.toList hs.toList _ 0 (tP m hs.toList) `a (by simpa using hl) `f;refine⟨ow,?_,by simpa using L⟩;show Option.map (·.1) (hs.foldl (nW m)<|some (Lw (m+1) `c,0))=_;rw[<-Array.foldl_toList,e];rfl
abbrev eN(m:Nat)(ow:Array `S):7 Nat Nat:=(FP<|m+1).filterMap λj=>(ow.getD j `c).map (j, ·)
theorem gC{m:Nat}{ow:Array `S}(hs:ow.size=m+1){j i:Nat}:(j,i)∈eN m ow↔0 ow[j]? (some i):=by
 unfold eN;rw[Jh];constructor
 ·rintro ⟨q,hq,e⟩;rw[Fy]at e;obtain⟨a,e1,e2⟩:=e;injection e2 with e2 e3;subst e2;subst e3;have:=IU.mp hq;have hq':q<ow.size:=`b
  simp[HL,hq']at e1;rw[Fz hq',e1]
 ·intro h;have hj:j<ow.size:=(Hi.mp h).1;refine⟨j,IU.mpr `b,?_⟩;rw[FC,h];rfl
theorem nX{f:Nat->`S}:∀{l:List Nat},l.Pairwise (· < ·)->((l.filterMap λj=>(f j).map (j, ·)).map (·.1)).Pairwise (· < ·)
 | [],_=>`f
 |a::l,h=>by
  have ih:=nX (f:=f) (Kn.mp h).2;cases e:f a with
  |none=>simpa [e] using ih
  |some b=>
   rw[KZ (b:=(a,b)) (by rw[e];rfl),FQ];refine Kn.mpr ⟨λq hq=>?_,ih⟩;obtain⟨x,hx,rfl⟩:=Fo.mp hq;obtain⟨c,hc,e2⟩:=Jh.mp hx;rw[Fy]at e2;obtain⟨_,_,rfl⟩:=e2;exact(Kn.mp h).1 c hc
theorem vK{f:Nat->`S}:∀(l:List Nat),(l.filterMap λj=>(f j).map (j, ·)).length=(l.map f).countP Mc
 | []=>rfl
 |a::l=>by
  have ih:=vK (f:=f) l;cases e:f a with
  |none=>rw[List.filterMap_cons_none (by rw[e];rfl),ih];simp[e]
  |some b=>rw[KZ (b:=(a,b)) (by rw[e];rfl)];simp[e,ih]
theorem vL{m k:Nat}{hs:`H}{ow:Array `S}(L:Lay m hs ow k):(eN m ow).length=k:=by
 unfold eN;rw[vK (f:=λj=>ow.getD j `c),<-L.cnt];congr 1;refine List.ext_getElem (by simp[L.sz]) λi h1 h2=>?_;simp at h1 h2;simp[HL,h2]
theorem vM:∀(n:Nat)(l:List Nat),l.Nodup->(∀x∈l,x<n)->l.length<=n
 |0,l,_,h=>by
  cases l with
  |nil=>simp
  |cons a l=>exact absurd (h a<|Fc ..) `b
 |n+1,l,nd,h=>by
  by_cases z:n∈l
  ·have:=vM n (l.erase n) (nd.erase n) λx hx=>by
    have h1:=h x (JD hx);have h2:x≠n:=λe=>by subst e;exact(J9 nd) hx
    omega
   rw[Ja z]at this;omega
  ·have:=vM n l nd λx hx=>by
    have h1:=h x hx;have h2:x≠n:=λe=>z<|e▸hx;omega
   omega
theorem rW:∀(n:Nat)(l:List Nat),l.Nodup->(∀x∈l,x<n)->l.length=n->l.Perm (FP n)
 |0,l,_,_,h=>by rw[Hz.mp h];exact `q
 |n+1,l,nd,h,hl=>by
  have z:n∈l:=by
   by_cases z:n∈l;·exact z
   ·have:=vM n l nd λx hx=>by
     have h1:=h x hx;have h2:x≠n:=λe=>z<|e▸hx;omega
    omega
  have:=rW n (l.erase n) (nd.erase n) (λx hx=>by
    have h1:=h x (JD hx);have h2:x≠n:=λe=>by subst e;exact(J9 nd) hx
    omega) (by rw[Ja z];omega)
  rw[List.range_succ];exact(List.perm_cons_erase z).trans ((List.Perm.cons n this).trans (List.perm_append_singleton n _).symm)
theorem yj{l:List Nat}(h:l.Pairwise (· < ·)):Up l.toArray:=λa b hab hb=>by
 have hb':b<l.length:=by simpa using hb
 have:=HR.mp h a b `b hb' hab;simpa [HL,show a<l.length by omega,hb'] using this
theorem mP{m i:Nat}(h:i<=m):i+(FT m i-i)<=m:=by unfold FT;split<;>omega
theorem BW{m:Nat}{p:Pr}(h:p.j+p.more<=m):(hU m p).j+(hU m p).more<=m:=by
 unfold hU;split;·show p.j+1+(p.more-1)<=m;omega
 ·refine mP ?_;show(p.i*5+1+p.perturb/32)%(m+1)<=m;have:=Km (p.i*5+1+p.perturb/32) (show 0<m+1 by omega);omega
theorem BX{m:Nat}:∀(n:Nat){p:Pr},p.j+p.more<=m->(itM m n p).j+(itM m n p).more<=m
 |0,_,h=>h
 |n+1,_,h=>BX n (BW h)
theorem zI{m:Nat}{h:Int}(n:Nat):(itM m n<|stM m h).j<=m:=by
 have:=BX (m:=m) n (p:=stM m h) (mP (i:=FI h%(m+1)) (by have:=Km (FI h) (show 0<m+1 by omega);omega));omega
theorem yk{m:Nat}(hm:isMask m){hs:Array Int}(hl:hs.size<=m)(fi mo:Nat)(led plain:Bool):
  ∃t order,0 (Ou m fi mo led plain hs) (t,order)/\t.mask=m/\t.led=led/\t.plain=plain/\order.toList.Perm (FP hs.size)/\Tp t (order.toList.map λi=>hs.toList.getD i 0):=by
 obtain⟨ow,e,L⟩:=pE hm hl;refine⟨_,_,by unfold Ou;rw[e];rfl,rfl,rfl,rfl,?_,?_⟩
 ·show((eN m ow).map (·.2)).toArray.toList.Perm _;have len:=vL L;have inc:=nX (f:=λj=>ow.getD j `c) (Lm (n:=m+1));have nd1:((eN m ow).map (·.1)).Nodup:=inc.imp λh=>Fd h;refine rW hs.size _ ?_ (λx hx=>?_) (by simpa using len)
  ·show((eN m ow).map (·.2)).Nodup;rw[Gb,IQ];rw[Gb,IQ]at nd1;refine nd1.imp_of_mem λ{a b}ha hb hne e=>hne ?_;have h1:=(gC L.sz (j:=a.1) (i:=a.2)).mp ha;have h2:=(gC L.sz (j:=b.1) (i:=b.2)).mp hb;rw[<-e]at h2;exact L.inj _ _ _ h1 h2
  ·obtain⟨y,hy,rfl⟩:=Fo.mp (show x∈(eN m ow).map (·.2)from hx);exact L.lt _ _ ((gC L.sz (j:=y.1) (i:=y.2)).mp hy)
 ·have inc:=nX (f:=λj=>ow.getD j `c) (Lm (n:=m+1));have inp:∀j,InP ((eN m ow).map (·.1)).toArray j↔∃i,0 ow[j]? (some i):=λj=>by
   constructor
   ·rintro ⟨a,ha,e⟩;have ha':a<(eN m ow).length:=by simpa using ha
    have:((eN m ow)[a]).1=j:=by simpa [HL,ha'] using e
    have mem:=J6 ha';rw[<-this];exact⟨_,(gC L.sz (j:=(eN m ow)[a].1) (i:=(eN m ow)[a].2)).mp mem⟩
   ·rintro ⟨i,hi⟩;have mem:=(gC L.sz).mpr hi;obtain⟨a,ha,e⟩:=Gh.mp mem;exact⟨a,by simpa using ha,by simp[HL,ha,e]⟩
  have ocp:∀j,j<=m->Oc ow j->InP ((eN m ow).map (·.1)).toArray j:=λj hj h=>(inp j).mpr ((jn (by have:=L.sz;omega)).mp h);refine⟨`a,?_,yj inc,?_,hm,?_⟩
  ·show((eN m ow).map (·.1)).toArray.size=(PQ _ ((eN m ow).map (·.2)).toArray.toList).length;simp
  ·intro j hj;obtain⟨i,hi⟩:=(inp j).mp hj;have:=(Hi.mp hi).1;have:=L.sz;show j<=m;omega
  ·intro a h ha;have ha2:0 (((eN m ow)[a]?).map λy=>hs.toList.getD y.2 0) h:=by
    have:0 (((eN m ow).map (·.2)).map λi=>hs.toList.getD i 0)[a]? h:=ha;rw[Hf,ET]at this;exact this
   obtain⟨y,hy,e⟩:=Fy.mp ha2;have mem:=F3 hy;have at_:=(gC L.sz (j:=y.1) (i:=y.2)).mp mem;have lt:=L.lt _ _ at_;have hh:0 hs.toList[y.2]? h:=by
    have hlt:y.2<hs.toList.length:=by simpa using lt
    rw[F4,EH hlt]at e;rw[EH hlt];exact congrArg some e
   obtain⟨n,q1,q2⟩:=L.reach _ _ _ at_ hh;have hla:a<(eN m ow).length:=(ER.mp hy).1;refine⟨n,?_,λn' h'=>?_⟩
   ·show(itM m n<|stM m h).j=((eN m ow).map (·.1)).toArray.getD a 0;rw[q1,FC];simp only[List.getElem?_toArray,ET,hy];rfl
   ·refine ocp _ ?_ (q2 n' h');by_cases z:(itM m n'<|stM m h).j<=m;·exact z
    ·exfalso;exact z (zI n')
section
variable{prog:F6}{w:Fh}{K:Type}[DecidableEq K]{knd:KeyKind prog w K}{A:FR}{E:8 EM EN}{s:EN}
structure TupsOf(knd:KeyKind prog w K)(h:Heap)(es:7 Int EM)(ks:List (List K)):Prop where
 len:es.length=ks.length
 at_:∀(i:Nat)(e:Int×EM),0 es[i]? e->∃k b,0 ks[i]? k/\e.2=.ref b/\GI knd h k b/\e.1=42 k
theorem Tb.fits{t:G6}{es:Array (Int×EM)}(T:Tb t (es.toList.map (·.1))):1 (t.fits es.size):=by
 have h1:=T.sz;have h2:=T.room;have h3:=T.dm;simp at h1 h2;unfold Ov Md;rw[h3];simp;omega
theorem vN{m:Nat}(h:isMask m):(m%2==0)=`g:=by rcases h with rfl|rfl|rfl|rfl|rfl<;>rfl
theorem zJ{m:Nat}:∀(k:Nat){p:Pr},p.dummy=`c->(itM m k p).dummy=`c
 |0,_,h=>h
 |k+1,p,h=>zJ k (by unfold hU;split<;>exact h)
theorem lB{adding:Bool}{a x:Addr}{o:Obj}{es:Array (Int×EM)}{ep:Nat}{t:G6}{ks:List (List K)}{kx:List K}(hu:A.units<cLine)(ho:23 a o)(hd:o.data=.set es ep t)(T:Tb t (es.toList.map (·.1)))(hk:TupsOf knd `p es.toList ks)(hx:GI knd `p kx x)
  (seen:∀(l:List EM)(Q:Bool->EN->Prop),(∀y∈l,∃e∈es.toList,y=e.2)->Q `g s->21 prog w A (searchCouldBeSeen (.ref x) l) Q E) {Q:8 SetFound EN}:
  ∀(fuel G:Nat)(st:Option Pr),(st.getD<|t.probeStart<|42 kx).dummy=none->G<fuel->G<10*GB t.mask-> ¬InP t.place (29 G<|st.getD<|t.probeStart<|42 kx).j->(∀k',k'<G->InP t.place (29 k'<|st.getD<|t.probeStart<|42 kx).j)->
   ((∃k i,k<G/\t.place.getD i 0=(29 k<|st.getD<|t.probeStart<|42 kx).j/\0 ks[i]? kx)->∀r:Option Nat,r.isSome= !adding->Q (.there r) s)->
   ((∀k i,k<G->t.place.getD i 0=(29 k<|st.getD<|t.probeStart<|42 kx).j->i<es.size->ks[i]?≠some kx)->Q (.free (29 G<|st.getD<|t.probeStart<|42 kx).j `g) s)->
   wpAny (model prog w) A (setSearchFrom a (.ref x) (42 kx) adding fuel st) Q E s:=by
 intro fuel
 induction fuel with
 |zero=>intro G st _ h;exact absurd h `b
 |succ fuel ih=>
  intro G st hdm hG hGt hn ha h1 h2;unfold setSearchFrom;refine EF (GK ho hd T.fits ?_);dsimp only;rw[Z1 (by unfold SetTable.gaveWay;rw[vN T.msk];decide)];generalize hp:st.getD (t.probeStart<|tupleKeyHash knd kx)=p at*
  have hA:∀(i:Nat)(h:Int),0 (es.toList.map (·.1))[i]? h->(λ(i:Nat)=>(es[i]?.map λ(e:Int×EM)=>e.1).getD 0) i=h:=λi h hh=>by
   rw[ET,FG]at hh;show(es[i]?.map λ(e:Int×EM)=>e.1).getD 0=h;rw[hh];rfl
  have go:=T.go hA (42 kx) G (10*GB t.mask) p hdm hGt hn ha;have hpr:t.probe (λ(i:Nat)=>(es[i]?.map λ(e:Int×EM)=>e.1).getD 0) (42 kx) p=IP t (λ(i:Nat)=>(es[i]?.map λ(e:Int×EM)=>e.1).getD 0) (42 kx) (10*GB t.mask) p:=rfl;rw[<-hpr]at go;rcases go with⟨k,i,g1,g2,g3,g4,g5,g6⟩|⟨g1,g2⟩
  ·have e:∀f,(f=(λ(i:Nat)=>(es[i]?.map λ(e:Int×EM)=>e.1).getD 0))->0 (t.probe f (42 kx) p) (.candidate (29 k p).j i<|29 (k+1) p):=λf hf=>by rw[hf];exact g5
   have hi:i<es.size:=by simpa using g2
   obtain⟨ky,b,q1,q2,q3,q4⟩:=hk.at_ i es[i] (by rw[FG,Fz hi]);have hei:0 es[i]? (es[i].1,.ref b):=by rw[Fz hi,<-q2]
   have key_ne:∀k' i',k'<k->t.place.getD i' 0=(29 k' p).j->i'<es.size->ks[i']?≠some kx:=λk' i' hk' hi' hl hq=>by
    have hl':i'<es.toList.length:=by simpa using hl
    obtain⟨kz,c,z1,z2,z3,z4⟩:=hk.at_ i' es.toList[i'] (EH hl');rw[z1]at hq;cases hq;refine g6 k' hk' i' hi' (by simpa using hl) ?_;rw[ET,EH hl',<-z4];rfl
   have one:∀i',t.place.getD i' 0=(29 k p).j->i'<es.size->i'=i:=λi' hi' hl=>by
    have h1':i'<t.place.size:=by have:=T.sz;simp at this;omega
    have h2':i<t.place.size:=by have:=T.sz;simp at this;omega
    rw[<-ik T.up h1',hi',<-g3,ik T.up h2']
   have again:ky≠kx->21 prog w A (setSearchFrom a (.ref x) (42 kx) adding fuel<|some<|29 (k+1) p) Q E:=λhne=>by
    have ad:∀n,29 n (29 (k+1) p)=29 (k+1+n) p:=λn=>(gh t.mask (k+1) n p).symm;refine ih (G-(k+1)) (some<|29 (k+1) p) ?_ `b `b ?_ ?_ ?_ ?_;·exact zJ (k+1) hdm
    ·show ¬InP t.place (29 _<|29 (k+1) p).j;rw[ad,show k+1+(G-(k+1))=G by omega];exact hn
    ·intro k' hk';show InP t.place (29 _<|29 (k+1) p).j;rw[ad];exact ha _ `b
    ·rintro ⟨k',i',r1,r2,r3⟩ r hr;have r2':t.place.getD i' 0=(29 k'<|29 (k+1) p).j:=r2;rw[ad]at r2';exact h1 ⟨k+1+k',i',`b,r2',r3⟩ r hr
    ·intro r;show Q (.free (29 _<|29 (k+1) p).j `g) s;rw[ad,show k+1+(G-(k+1))=G by omega];refine h2 λk' i' z1 z2 z3=>?_;by_cases y1:k'<k;·exact key_ne k' i' y1 z2 z3
     ·by_cases y2:k'=k
      ·subst y2;rw[one i' z2 z3,q1];intro z;injection z with z;exact hne z
      ·refine r (k'-(k+1)) i' `b ?_ z3;show t.place.getD i' 0=(29 _<|29 (k+1) p).j;rw[ad,show k+1+(k'-(k+1))=k' by omega];exact z2
   have hlive:t.slot (29 k p).j=.live i:=by rw[<-g3];exact T.live (by have:=T.sz;simp at this;omega)
   have hmem:0 (t.sameMemory t.moves t.mask) true:=by unfold SetTable.sameMemory;simp
   rw[e]
   ·dsimp only;simp only[hei];by_cases hl:1 t.led
    ·rw[Z1 (by simp[hl])];refine EF (FY<|(tupleKind knd).eqBool hu q3 hx ?_);refine EF (GK ho hd T.fits ?_);dsimp only;by_cases hq:ky=kx
     ·rw[decide_eq_true hq];have hw:∃k i,k<G/\t.place.getD i 0=(29 k p).j/\0 ks[i]? kx:=⟨k,i,g1,g3,hq▸q1⟩
      cases adding with
      |true=>
       rw[Z0 ⋯];exact EK (h1 hw `c `a)
      |false=>
       rw[Z1 ⋯,hmem];dsimp only;rw[Z0 `a,hlive];dsimp only;rw[hei];dsimp only;refine EF (II ?_);refine EF `y;exact EK (h1 hw (some i) `a)
     ·rw[decide_eq_false hq,Z1 (by cases adding <;> decide),hmem];dsimp only;rw[Z0 `a,hlive];dsimp only;rw[hei];dsimp only;refine EF (II ?_);refine EF `y;exact again hq
    ·rw[Z0 (by simp[hl])];refine EF (seen _ _ (λy hy=>?_) ?_)
     ·obtain⟨z,hz,rfl⟩:=Fo.mp hy;exact⟨z,by simp at hz;simpa using hz.1,rfl⟩
     rw[Z1 ⋯];refine EF (FY<|(tupleKind knd).eqBool hu q3 hx ?_);refine EF (GK ho hd T.fits ?_);dsimp only;by_cases hq:ky=kx
     ·rw[decide_eq_true hq];have hw:∃k i,k<G/\t.place.getD i 0=(29 k p).j/\0 ks[i]? kx:=⟨k,i,g1,g3,hq▸q1⟩
      cases adding with
      |true=>
       rw[Z0 ⋯];exact EK (h1 hw `c `a)
      |false=>
       rw[Z1 ⋯,hmem];dsimp only;rw[Z0 `a,hlive];dsimp only;rw[hei];dsimp only;refine EF (II ?_);refine EF `y;exact EK (h1 hw (some i) `a)
     ·rw[decide_eq_false hq,Z1 (by cases adding <;> decide),hmem];dsimp only;rw[Z0 `a,hlive];dsimp only;rw[hei];dsimp only;refine EF (II ?_);refine EF `y;exact again hq
   ·rfl
  ·have e:∀f,(f=(λ(i:Nat)=>(es[i]?.map λ(e:Int×EM)=>e.1).getD 0))->0 (t.probe f (42 kx) p) (.empty (29 G p).j `c):=λf hf=>by rw[hf];exact g1
   rw[e]
   ·refine EK (h2 λk i hk' hi hl hq=>?_);have hl':i<es.toList.length:=by simpa using hl
    obtain⟨ky,b,q1,q2,q3,q4⟩:=hk.at_ i es.toList[i] (EH hl');rw[q1]at hq;cases hq;refine g2 k hk' i hi (by simpa using hl) ?_;rw[ET,EH hl',<-q4];rfl
   ·rfl
end
section
variable{prog:F6}{w:Fh}{K:Type}[DecidableEq K]{knd:KeyKind prog w K}{A:FR}{E:8 EM EN}{s:EN}
theorem tQ{n:Nat}{v:EM}(h:1 (carriedByValue v)):ofAClassStatement n v=pure `g:=by
 cases v<;>first|(cases n<;>rfl)|(exfalso;revert h;simp[carriedByValue])
theorem mQ{ks:List K}{a:Addr}{Q:8 Bool EN}(hk:GI knd `p ks a)(h:Q `g s):21 prog w A (ofAClassStatement 8<|.ref a) Q E:=by
 have hT:=hk.typeIs;obtain⟨o,items,n,ho,_,hd,hi⟩:=hk;unfold ofAClassStatement;refine EF (wpAny_typeOf hT ?_);dsimp only;rw[Z0 `z];refine EF `y;rw[Z1 ⋯];refine EF (G0 ho hd ?_);dsimp only;refine EF ?_;show wpAny _ _ (forIn items _ _) _ _ s;rw[<-Mz];refine L9 _ (λrest r s'=>r.1=`c/\s'=s/\∀v∈rest,1 (carriedByValue v)) _ ?_ ?_ _ _ ⟨`a,`a,hi.byValue⟩
 ·rintro v rest r s' ⟨hr,rfl,hall⟩;rw[tQ (hall v Fc)];refine EF `y;simp only[Fv,if_false];exact EK ⟨`a,`a,λu hu'=>hall u<|Fe _ hu'⟩
 ·rintro ⟨r1,r2⟩ s' ⟨hr,rfl,_⟩;simp only at hr;subst hr;exact EK h
theorem pF{kx:List K}{x:Addr}(hx:GI knd `p kx x):∀(l:List EM){Q:Bool->EN->Prop},(∀y∈l,∃k b,y=.ref b/\GI knd `p k b)->Q `g s->21 prog w A (searchCouldBeSeen (.ref x) l) Q E:=by
 intro l Q hl h;unfold searchCouldBeSeen;refine EF ?_;refine L9 _ (λrest r s'=>r.1=`c/\s'=s/\∀y∈rest,∃k b,y=.ref b/\GI knd `p k b) _ ?_ ?_ _ _ ⟨`a,`a,hl⟩
 ·rintro v rest r s' ⟨hr,rfl,hall⟩;obtain⟨k,b,rfl,hb⟩:=hall v Fc;dsimp only;by_cases z:x=b
  ·rw[Z0 (by simp[z])];exact EK ⟨`a,`a,λu hu'=>hall u<|Fe _ hu'⟩
  ·rw[Z1 (by simp[z,carriedByValue])];refine EF ((tupleKind knd).quiet hx ?_);simp only[Jb,Fv,if_false];refine EF ((tupleKind knd).quiet hb ?_);simp only[Jb,Fv,if_false];refine EF (mQ hx ?_);simp only[Fv,if_false];refine EF (mQ hb ?_);simp only[Fv,if_false];exact EK ⟨`a,`a,λu hu'=>hall u<|Fe _ hu'⟩
 ·rintro ⟨r1,r2⟩ s' ⟨hr,rfl,_⟩;simp only at hr;subst hr;exact EK h
end
section
variable{prog:F6}{w:Fh}{K:Type}[DecidableEq K]{knd:KeyKind prog w K}
theorem pG{h h':Heap}{a b:Addr}{o:Obj}{es:Array (Int×EM)}{ep:Nat}{t:G6}{k:List K}(hk:GI knd h k b)(ho:34 a o)(hd:o.data=.set es ep t)(hs:Fg a h h'):GI knd h' k b:=by
 obtain⟨ob,items,n,h1,h2,h3,h4⟩:=hk;have ne:b≠a:=λz=>by
  subst z;rw[ho]at h1;cases h1;rw[hd]at h3;cases h3
 exact⟨ob,items,n,(hs.2 b ne).trans h1,h2,h3,h4⟩
theorem TupsOf.keep{h h':Heap}{a:Addr}{o:Obj}{es:Array (Int×EM)}{ep:Nat}{t:G6}{l:7 Int EM}{ks:List (List K)}(T:TupsOf knd h l ks)(ho:34 a o)(hd:o.data=.set es ep t)(hs:Fg a h h'):TupsOf knd h' l ks:=
 ⟨T.len,λi e he=>let ⟨k,b,q1,q2,q3,q4⟩:=T.at_ i e he;⟨k,b,q1,q2,pG q3 ho hd hs,q4⟩⟩
end
section
variable{prog:F6}{w:Fh}{K:Type}[DecidableEq K]{knd:KeyKind prog w K}{A:FR}{E:8 EM EN}{s:EN}
theorem vO{ks:List K}{a:Addr}{Q:8 Bool EN}(hI:∀k∈ks,∀v,1 (knd.is k v)->∃i t,v=.int i t)(hk:GI knd `p ks a)(h:Q true s):21 prog w A (hashByValue 8<|.ref a) Q E:=by
 have hT:=hk.typeIs;obtain⟨o,items,n,ho,_,hd,hi⟩:=hk;unfold hashByValue;refine EF (Jd hT F.slot_tuple_hash.lookup ?_);show wpAny _ _ (seqItems? (.ref a)>>=_) _ _ s;refine EF (G0 ho hd ?_);dsimp only;refine EF ?_;show wpAny _ _ (forIn items _ _) _ _ s;rw[<-Mz];have hall:∀v∈items.toList,∃i t,v=.int i t:=by
  clear hd ho;generalize items.toList=l at hi
  induction hi with
  |nil=>intro v hv;cases hv
  |cons h1 _ ih=>
   intro v hv;rcases F0.mp hv with rfl|hv
   ·exact hI _ (Fc ..) _ h1
   ·exact ih (λk hk=>hI k<|Fe _ hk) v hv
 refine L9 _ (λrest r s'=>r.1=`c/\s'=s/\∀v∈rest,∃i t,v=J2 i t) _ ?_ ?_ _ _ ⟨`a,`a,hall⟩
 ·rintro v rest r s' ⟨hr,rfl,hall⟩;obtain⟨i,t,rfl⟩:=hall v Fc;show wpAny _ _ (hashByValue 7 (.int i t)>>=_) _ _ _;rw[show hashByValue 7 (.int i t)=pure true from rfl];refine EF `y;exact EK ⟨`a,`a,λu hu'=>hall u<|Fe _ hu'⟩
 ·rintro ⟨r1,r2⟩ s' ⟨hr,rfl,_⟩;simp only at hr;subst hr;exact EK h
structure SetT(knd:KeyKind prog w K)(h:Heap)(a:Addr)(led:Bool)(ks:List (List K))(o:Obj)(es:Array (Int×EM))(ep:Nat)(t:G6):Prop where
 at_:34 a o
 ex:o.ExactSet
 dat:o.data=.set es ep t
 tab:Tb t (es.toList.map (·.1))
 tup:TupsOf knd h es.toList ks
 nd:ks.Nodup
 led:t.led=led
 pl:1 t.plain
theorem Tp.fits{t:G6}{es:Array (Int×EM)}(T:Tp t (es.toList.map (·.1)))(h:es.size<=t.mask):1 (t.fits es.size):=by
 have h1:=T.sz;have h3:=T.dm;simp at h1;unfold Ov Md;rw[h3];simp;omega
theorem Tp.full{t:G6}{es:Array (Int×EM)}(T:Tp t (es.toList.map (·.1))):t.tooFull=decide (es.size*5≥t.mask*3):=by
 have h1:=T.sz;simp at h1;unfold SetTable.tooFull Md;rw[T.dm,h1];simp
theorem ym{es:Array (Int×EM)}{order:Array Nat}(h:order.toList.Perm (FP es.size)):(order.filterMap (es[·]?)).toList=order.toList.map λi=>es.toList.getD i (0,.none):=by
 rw[Array.toList_filterMap];have:∀i∈order.toList,i<es.size:=λi hi=>by have:=h.mem_iff.mp hi;simpa using this
 generalize order.toList=l at this;clear h
 induction l with
 |nil=>rfl
 |cons i l ih=>
  have hi:=this i<|Fc ..;rw[Ib,Fz hi,FQ,ih λj hj=>this j (Fe _ hj)];congr 1;rw[F4,EH (by simpa using hi)];rfl
theorem jO{Z:Type}(l:`r)(d:Z):((FP l.length).map λi=>l.getD i d)=l:=by
 apply GX;intro i;rw[ET];by_cases z:i<l.length
 ·rw[GW z,EH z];simp[F4,z]
 ·rw[FW `W,FW `W];rfl
theorem TupsOf.order{h:Heap}{es:7 Int EM}{ks:List (List K)}(U:TupsOf knd h es ks){l:List Nat}(hl:l.Perm (FP es.length)):TupsOf knd h (l.map λi=>es.getD i (0,.none)) (l.map λi=>ks.getD i []):=by
 refine⟨`f,λi e he=>?_⟩;rw[ET]at he;obtain⟨j,hj,e1⟩:=Fy.mp he;have hlt:j<es.length:=by have:=hl.mem_iff.mp (F3 hj);simpa using this
 obtain⟨k,b,q1,q2,q3,q4⟩:=U.at_ j es[j] (EH hlt);have e2:e=es[j]:=by rw[<-e1,F4,EH hlt];rfl
 subst e2;refine⟨k,b,?_,q2,q3,q4⟩;rw[ET,hj];simp[F4,q1]
theorem vP{a:Addr}{o:Obj}{es es1:Array (Int×EM)}{ep n:Nat}{t t1:G6}{led:Bool}{ks1:List (List K)}(ho:23 a o)(hex:o.ExactSet)(hd:o.data=.set es ep t)(T1:Tp t1 (es1.toList.map (·.1)))(U1:TupsOf knd `p es1.toList ks1)(nd1:ks1.Nodup)(hl:t1.led=led)(hpl:1 t1.plain)(hn:es1.size=n)(h0:0<n)(a0:n<=1000)(hr:(n-1)*5<t1.mask*3){Q:8 Bool EN}
  (h:∀h' ks' o' es' ep' t',Fg a s.heap h'->SetT knd h' a led ks' o' es' ep' t'->ks'.Perm ks1->es'.toList.Perm es1.toList->Q true {s with heap:=h'}):
  21 prog w A (do
    storeSet a es1 t1
    if 1 (!false&&t1.tooFull) then setRelay a (IZ n)
    pure true) Q E:=by
 have put:∀(s:EN)(o:Obj)es ep t(es':Array (Int×EM))(t':G6),s.heap.get? a=some o->o.data=.set es ep t->(s.heap.update a<|Ko es' t').get? a=some {o with data:=.set es' (ep+1) t'}:=λs o es ep t es' t' ho hd=>by
  have:=GY (Ko es' t') ho (by rw[putSet_of es' t' hd];rfl);rw[putSet_of es' t' hd]at this;exact this
 have big:1000<=sizeLine:=by rw[FE];omega
 have mk:=T1.msk;refine EF (MQ ho hd ?_ `b);have ho1:=put s o es ep t es1 t1 ho hd;have sb1:=Gk `p a (Ko es1 t1);have U2:=U1.keep ho hd sb1;rw[T1.full];by_cases z:es1.size*5≥t1.mask*3
 ·rw[decide_eq_true z,Z0 `z];unfold setRelay;refine EF (EF<|GK ho1 `a (T1.fits (by rcases mk with y|y|y|y|y<;>omega)) ?_);dsimp only;have hw:Jl (IZ n)<=2048/\isMask (Jl (IZ n)-1)/\n*5<(Jl (IZ n)-1)*3:=by
   rcases mk with y|y|y|y|y
   ·have:n=5:=`b
    subst this;exact⟨`M,.inr<|.inl ⋯,`M⟩
   ·have:n=19:=`b
    subst this;exact⟨`M,.inr<|.inr<|.inl ⋯,`M⟩
   ·have:n=77:=`b
    subst this;exact⟨`M,.inr<|.inr<|.inr<|.inl ⋯,`M⟩
   ·have:n=307:=`b
    subst this;exact⟨`M,.inr<|.inr<|.inr<|.inr ⋯,`M⟩
   ·omega
  rw[Z1 (by have:=hw.1;rw[FE];omega)];obtain⟨t2,order,e2,m2,l2,p2,pm,T2⟩:=yk hw.2.1 (hs:=es1.map (·.1)) (by simp;omega) t1.finger (t1.movedTo<|Jl (IZ n)-1) t1.led t1.plain;have er:0 (t1.relaid (es1.map (·.1))<|IZ n) (t2,order):=e2;have pm':order.toList.Perm (FP es1.size):=by simpa using pm
  have fm:=ym (es:=es1) pm';have fs:(order.filterMap (es1[·]?)).size=es1.size:=by
   rw[<-FL,fm,EY,pm'.length_eq,Jy]
  rw[er];have key:∀(f:Array (Int×EM)->Option (G6×Array Nat)->Sem (Array (Int×EM)×G6))(R:(Array (Int×EM)×G6)->EN->Prop)(s:EN),(∀es l,f es l=(do
     let some (t,order):=l|unsupported "internal:set-table-without-room"
     let es':=order.filterMap (es[·]?)
     if es'.size !=es.size then unsupported "internal:set-table-lost-an-element"
     pure (es',t)))->R (order.filterMap (es1[·]?),t2) s->21 prog w A (f es1<|some (t2,order)) R E:=λf R s hf hR=>by
   rw[hf];dsimp only;rw[Z1 (by rw[fs];simp)];exact EK hR
  refine EF (key _ _ _ `j ?_);dsimp only;refine MQ ho1 `a ?_ (by rw[fs];omega);have ho2:=put {s with heap:=s.heap.update a (Ko es1 t1)} _ _ _ _ (order.filterMap (es1[·]?)) t2 ho1 rfl;have sb2:=Gk (s.heap.update a<|Ko es1 t1) a (Ko (order.filterMap (es1[·]?)) t2);have U3:=U2.order (l:=order.toList) (by simpa using pm');rw[<-fm]at U3;have U4:=U3.keep ho1 `a sb2;have pk:(order.toList.map λi=>ks1.getD i []).Perm ks1:=by
   have:=pm'.map λi=>ks1.getD i [];have hl:es1.size=ks1.length:=by have:=U1.len;simpa using this
   rw[hl,jO]at this;exact this
  have pe:(order.filterMap (es1[·]?)).toList.Perm es1.toList:=by
   rw[fm];have:=pm'.map λi=>es1.toList.getD i (0,FZ);have hl:es1.size=es1.toList.length:=`f
   rw[hl,jO]at this;exact this
  refine EK (h _ _ _ _ _ _ (sb1.trans sb2) ⟨ho2,hex,rfl,⟨?_,?_⟩,U4,pk.nodup_iff.mpr nd1,by rw[l2];exact hl,by rw[p2];exact hpl⟩ pk pe)
  ·rw[fm,Hf];have:((λx:Int×EM=>x.1)∘λi=>es1.toList.getD i (0,.none))=λi=>(es1.map (·.1)).toList.getD i 0:=funext λi=>by
    simp only[Function.comp,F4,N2,ET];cases es1.toList[i]? <;>rfl
   rw[this];exact T2
  ·rw[EY,FL,fs,m2];have:=hw.2.2;omega
 ·rw[decide_eq_false z,Z1 ⋯];refine EK (h _ _ _ _ _ _ sb1 ⟨ho1,hex,`a,⟨T1,by simp;omega⟩,U2,nd1,hl,hpl⟩ `q `q)
theorem rX{a x:Addr}{o:Obj}{es:Array (Int×EM)}{ep:Nat}{t:G6}{led:Bool}{ks:List (List K)}{kx:List K}(hu:A.units<cLine)(S:SetT knd `p a led ks o es ep t)(hn:es.size<1000)(hx:GI knd `p kx x)(hI:∀k∈kx,∀v,1 (knd.is k v)->∃i t,v=.int i t)
  {Q:8 Bool EN} {fuel:Nat}
  (h1:kx∈ks->Q `g s) (h2:kx∉ks->∀h' ks' o' es' ep' t',Fg a s.heap h'->SetT knd h' a led ks' o' es' ep' t'->ks'.Perm (kx::ks)->es'.toList.Perm ((42 kx,.ref x)::es.toList)->Q true {s with heap:=h'}):
  21 prog w A (setAddHashedIn a (.ref x) (42 kx)<|fuel+1) Q E:=by
 unfold setAddHashedIn;refine EF (GK S.at_ S.dat S.tab.fits ?_);dsimp only;rw[Z1 (by unfold byScan;simp[Nl])];obtain⟨G,g1,g2,g3⟩:=S.tab.gap (pC t<|42 kx);have mem:∀i,i<es.size->0 ks[i]? kx->∃k,k<G/\t.place.getD i 0=(29 k<|t.probeStart<|42 kx).j:=λi hi z=>by
  have hi':i<es.toList.length:=by simpa using hi
  obtain⟨k,b,q1,q2,q3,q4⟩:=S.tup.at_ i es.toList[i] (EH hi');rw[q1]at z;cases z;obtain⟨n,r1,r2⟩:=S.tab.reach i (42 kx) (by rw[ET,EH hi',<-q4];rfl);refine⟨n,?_,r1.symm⟩;by_cases y:n<G;·exact y
  ·by_cases y2:n=G
   ·subst y2;refine absurd ?_ g2;rw[r1];exact⟨i,by have:=S.tab.sz;simp at this;omega,rfl⟩
   ·exact absurd (r2 G `b) g2
 refine EF ?_;unfold setSearch;have ht:t.mask<=2047:=by rcases S.tab.msk with z|z|z|z|z<;>omega
 refine lB (knd:=knd) hu S.at_ S.dat S.tab S.tup hx (λl Q hl h=>pF hx l (λy hy=>?_) h) 100000 G `c `a (by unfold GB at g1;omega) g1 g2 g3 ?_ ?_
 ·obtain⟨e,he,rfl⟩:=hl y hy;obtain⟨i,hi,rfl⟩:=Gh.mp he;obtain⟨k,b,q1,q2,q3,q4⟩:=S.tup.at_ i es.toList[i] (EH hi);exact⟨k,b,q2,q3⟩
 ·rintro ⟨k,i,_,_,hq⟩ r hr;exact EK (h1<|F3 hq)
 ·intro hall;have nin:kx∉ks:=λhm=>by
   obtain⟨i,hi,e⟩:=Gh.mp hm;have hi':i<es.size:=by have:=S.tup.len;simp at this;omega
   have hq:0 ks[i]? kx:=by rw[EH hi,e]
   obtain⟨k,q1,q2⟩:=mem i hi' hq;exact hall k i q1 q2 hi' hq
  refine EF (GK S.at_ S.dat S.tab.fits ?_);dsimp only;have jle:(29 G<|t.probeStart<|42 kx).j<=t.mask:=zI (m:=t.mask) (h:=42 kx) G;obtain⟨p1,p2,p3⟩:=S.tab.put g2 jle g3;have led1:(t.put (29 G<|t.probeStart<|42 kx).j).1.led=t.led:=rfl;simp only[L6];generalize hP:t.put (itM t.mask G<|t.probeStart<|tupleKeyHash knd kx).j=P at*
  obtain⟨t1,p⟩:=P;dsimp only at p1 p2 p3 led1;have hp:p<=es.size:=by simpa using p1
  have il:=lA es p (42 kx,G8 x);have T1:Tp t1 ((GJ es p (42 kx,G8 x)).toList.map (·.1)):=by
   rw[il,Nm,FQ,List.map_take,List.map_drop];exact p3
  have U1:TupsOf knd `p (GJ es p (42 kx,G8 x)).toList (ks.take p++kx::ks.drop p):=by
   have hlen:=S.tup.len;have hp2:p<=ks.length:=by simp at hlen;omega
   rw[il];refine⟨by simp[hlen],λi e he=>?_⟩;have l1:(es.toList.take p).length=p:=by simp;omega
   have l2:(ks.take p).length=p:=by simp;omega
   by_cases z:i<p
   ·rw[F7 `b,G7 z]at he;obtain⟨k,b,q⟩:=S.tup.at_ i e he;exact⟨k,b,by rw[F7 `b,G7 z];exact q.1,q.2⟩
   ·rw[F9 `b,l1]at he;rw[F9 `b,l2];by_cases y:i=p
    ·rw[y,Jx,GN]at he ⊢;cases he;exact⟨kx,x,`a,`a,hx,`a⟩
    ·rw[show i- p=(i-p-1)+1 by omega,Gq,Gz]at he ⊢;exact S.tup.at_ _ e he
  have pk:(ks.take p++kx::ks.drop p).Perm (kx::ks):=N3.trans (.cons kx<|by rw[LD]);have nd1:(ks.take p++kx::ks.drop p).Nodup:=pk.nodup_iff.mpr (HC.mpr ⟨nin,S.nd⟩);have room:=S.tab.room;have pl1:1 t1.plain:=by have:=S.pl;rw[<-this];have e:=congrArg (λz:G6×Nat=>z.1.plain) hP;exact e.symm
  rw[Z0 pl1];refine EF (vO hI hx ?_);exact vP S.at_ S.ex S.dat T1 U1 nd1 (led1.trans S.led) pl1 (fW es hp _) `b `b (by rw[p2];simpa using room) λh' ks' o' es' ep' t' a1 a2 a3 a4=>h2 nin h' ks' o' es' ep' t' a1 a2 (a3.trans pk) (a4.trans (by rw[il];exact N3.trans (.cons _<|by rw[LD])))
end
end Wb
namespace Wb
open PySem PySem.W PySem.Calls PyProof.Rows
theorem sl_next:Slot "set_iterator" "__next__" "set_iterator.__next__":=
 .of (owner:="set_iterator") (n:="__next__") (by rw[Nn,LF];kernel_rfl) ⋯ ⋯ ⋯ (by first|exact .inl ⋯|exact .inr ⋯) (by rw[LZ];kernel_rfl)
theorem rY:Slot "set_iterator" "__iter__" "set_iterator.__iter__":=
 .of (owner:="set_iterator") (n:="__iter__") (by rw[Nn,LF];kernel_rfl) ⋯ ⋯ ⋯ (by first|exact .inl ⋯|exact .inr ⋯) (by rw[LZ];kernel_rfl)
theorem rZ:entryFor table "set_iterator.__next__"=some HG.«set_iterator.__next__»:=entryFor_of_tree (by kernel_rfl)
theorem yo:entryFor table "set_iterator.__iter__"=some HG.«dict_keyiterator.__iter__»:=NH (id':="dict_keyiterator.__iter__") (by kernel_rfl) `a ⋯ (by kernel_rfl)
theorem Aw:entryFor table "set.__iter__"=some HG.«frozenset.__iter__»:=NH (id':="frozenset.__iter__") (by kernel_rfl) `a ⋯ (by kernel_rfl)
theorem sd:0 (Manifest.owners.lookup<|String.ofList ['r','o','t','a','r','e','t','i','_','t','e','s'].reverse) Manifest.sig_set_iterator:=by kernel_rfl
theorem se(a:EM):argsOk "set_iterator.__next__" ⟨[a],[]⟩:=by
 unfold argsOk;rw[Lu (id:="set_iterator.__next__") (n:=['_','_','t','x','e','n','_','_']) (o:=['r','o','t','a','r','e','t','i','_','t','e','s']) (by kernel_rfl) sd];kernel_rfl
theorem yp(a:EM):argsOk "set_iterator.__iter__" ⟨[a],[]⟩:=by
 unfold argsOk;rw[Lu (id:="set_iterator.__iter__") (n:=['_','_','r','e','t','i','_','_']) (o:=['r','o','t','a','r','e','t','i','_','t','e','s']) (by kernel_rfl) sd];kernel_rfl
theorem lC{Z:Type}:∀(l:List Z)(i:Nat)(h:i<l.length),(l[i]::l.eraseIdx i).Perm l
 |a::l,0,_=>`q
 |a::l,i+1,h=>by
  have h2:i<l.length:=by simpa using h
  exact(List.Perm.swap a l[i]<|l.eraseIdx i).trans (.cons a<|lC l i h2)
theorem mR{Z:Type}(next:Nat->Nat):∀(fuel k:Nat)(left:List Z)(out:Array Z),fuel=left.length->(MR next fuel k left out).toList.Perm (out.toList++left)
 |0,k,left,out,h=>by
  have:left=[]:=Hz.mp h.symm;subst this;unfold MR;simp
 |fuel+1,k,left,out,h=>by
  unfold MR;have hl:next k%left.length<left.length:=Km _ `b
  rw[EH hl];dsimp only;refine(mR next fuel (k+1) _ _ (by rw[Hc];simp[hl];omega)).trans ?_;rw[MP,He];refine List.Perm.append_left _ ?_;exact lC left _ hl
def f9(w:Fh)(a:Addr)(ep:Nat)(es:Array (Int×EM)):Array (Int×EM):=if 1 (w.params.followText "set-order") then pickOrder (w.params.setOrder a ep) es else es
theorem jo(w:Fh)(a:Addr)(ep:Nat)(es:Array (Int×EM)):(f9 w a ep es).toList.Perm es.toList:=by
 unfold f9;split
 ·have:=mR (w.params.setOrder a ep) es.size 0 es.toList #[] `f;simp only[Jg]at this;exact this
 ·exact `q
def cR(w:Fh)(t:G6)(i:Nat):Int:=if 1 (w.params.followText "set-order") then 0 else if i=0 then 0 else(t.place.getD (i-1) 0:Int)+1
theorem qv{w:Fh}{t:G6}{hs:`H}(T:Tp t hs)(hb:¬w.params.followText "set-order"=true){i:Nat}(hi:i<=t.place.size):GA t.place (cR w t i).toNat=i:=by
 obtain⟨b0,b1,b2⟩:=jl T.up (cR w t i).toNat;generalize hB:GA t.place (cR w t i).toNat=b at*
 have e:(cR w t i).toNat=if i=0 then 0 else t.place.getD (i-1) 0+1:=by
  unfold cR;rw[Z1 hb];split<;>omega
 rw[e]at b1 b2;by_cases z:i=0
 ·rw[Z0 z]at b1;by_cases y:b=0;·omega
  ·have:=b1 0 `b;omega
 ·rw[Z1 z]at b1 b2;by_cases y:b<i
  ·have:=b2 (i-1) `b `b;omega
  ·by_cases y2:i<b
   ·have h1:=b1 i y2;have h2:=T.up (i-1) i `b `b;omega
   ·omega
def lD(w:Fh)(a:Addr)(t:G6)(n ep i:Nat):Obj:={cls:=.type "set_iterator",dict:=none,data:=.fields #[.int (cR w t i) 0,.int i 0,.ref a,.int n 0,.int ep 0],slots:= #[]}
section
variable{prog:F6}{w:Fh}{A:FR}{E:8 EM EN}{s:EN}{a I:Addr}{o:Obj}{es:Array (Int×EM)}{ep:Nat}{t:G6}
theorem pH{i:Nat}{Q:8 (Option<|EM×Nat) EN}(ho:23 a o)(hd:o.data=.set es ep t)(T:Tp t (es.toList.map (·.1)))(hf:1 (t.fits es.size))(hl:t.led= !w.params.followText "set-order")(hp:1 t.plain)(hi:i<=es.size)
  (h:Q (((f9 w a ep es)[i]?).map λe=>(e.2,(cR w t<|i+1).toNat)) s):21 prog w A (setNext a (cR w t i).toNat i ep) Q E:=by
 have hsz:t.place.size=es.size:=by have:=T.sz;simpa using this
 unfold setNext;refine EF (GK ho hd hf ?_);dsimp only;unfold setsByText;refine EF (EF<|HK `y);show 21 prog w A (if 1 (w.params.followText "set-order") then _ else _) Q E;by_cases z:1 (w.params.followText "set-order")
 ·rw[Z0 z,Z1 `f];unfold setWalk;refine EF (EF<|GK ho hd hf ?_);dsimp only;unfold setsByText;refine EF (EF<|HK `y);show 21 prog w A (if 1 (w.params.followText "set-order") then _ else _) _ E;rw[Z0 z];refine EF (HK<|EK `y);unfold f9 cR at h;rw[Z0 z,Z0 z]at h;unfold cR;rw[Z0 z];exact h
 ·rw[Z1 z];refine K3 (λhab=>absurd hab (show ¬(1 (!t.plain&&decide (es.size>1))) by rw[hp];simp)) λ_=>?_;show wpAny _ _ ((if 1 (!t.led&& !es.isEmpty) then unsupported _ else pure ())>>=_) _ _ _;rw[Z1 (by rw[hl];simp[z])];refine EF `y;rw[qv T z `b];unfold f9 at h;rw[Z1 z]at h;by_cases y:i<es.size
  ·have y2:i<t.place.size:=`b
   rw[Fz y]at h ⊢;rw[Fz y2];have e:(cR w t<|i+1).toNat=t.place[i]+1:=by
    unfold cR;rw[Z1 z,Z1 `b,show i+1-1=i by omega];have:t.place.getD i 0=t.place[i]:=by simp[HL,y2]
    omega
   simp only[IF,e]at h;exact EK h
  ·rw[Iz `b]at h ⊢;exact EK h
end
section
variable{prog:F6}{w:Fh}{A:FR}{E:8 EM EN}{s:EN}{a I:Addr}{o:Obj}{es:Array (Int×EM)}{ep:Nat}{t:G6}
theorem lE{n i:Nat}(h:23 I (lD w a t n ep i)):s.TypeIs (.ref I) "set_iterator":=9 h `a
structure SetR(w:Fh)(o:Obj)(es:Array (Int×EM))(ep:Nat)(t:G6):Prop where
 ex:o.ExactSet
 dat:o.data=.set es ep t
 tab:Tb t (es.toList.map (·.1))
 led:t.led= !w.params.followText "set-order"
 pl:1 t.plain
theorem vQ{Q:8 EM EN}(R:SetR w o es ep t)(ho:23 a o)(h:Q (`X) {s with heap:=s.heap.push (lD w a t es.size ep 0)}):21 prog w A (pyIter<|.ref a) Q E:=by
 have hT:s.TypeIs (.ref a) "set":=⟨o,ho,R.ex.1⟩
 refine IS hT Np (Fu Np hT Aw ?_<|F.args_set_iter_1 _);unfold HG.«frozenset.__iter__»;refine EF (m:=OC _ _) `y;unfold Ox;refine EF (EF<|Ke ho R.dat R.tab.fits `y);unfold setDrawn;refine EF (EF<|GK ho R.dat R.tab.fits ?_);dsimp only;unfold setsByText;refine EF (EF<|HK<|EK `y);refine K3 (λhab=>absurd hab (show ¬(1 (!w.params.followText "set-order"&&(!t.plain&&decide (es.size>1)))) by rw[R.pl];simp)) λ_=>?_;refine EF `y;refine EF (wpAny_setEpoch_of ho R.dat R.tab.fits ?_);have e0:cR w t 0=0:=by unfold cR;split<;>rfl
 refine EF (Gg<|EK ⟨_,`a,"set_iterator",_,9 (ES _ `a) `a,sl_next.lookup,?_⟩);unfold lD at h;rw[e0]at h;exact h
theorem tR{i:Nat}{Q:8 `Q EN}(R:SetR w o es ep t)(ho:23 a o)(hne:a≠I)(hI:23 I (lD w a t es.size ep i)){e:Int×EM}(he:0 (f9 w a ep es)[i]? e)
  (h:∀h',h'.get? I=some (lD w a t es.size ep<|i+1)->Fg I s.heap h'->Q (some e.2) {s with heap:=h'}):21 prog w A (pyNext<|.ref I) Q E:=by
 have hsz:(f9 w a ep es).size=es.size:=by have:=(jo w a ep es).length_eq;simpa using this
 have hi:i<es.size:=by have:=(Hi.mp he).1;omega
 have hT:=lE hI;unfold pyNext;refine EF (HZ<|FU (name:=EO "__next__") hT sl_next<|Fu sl_next hT rZ ?_<|se _)
 unfold HG.«set_iterator.__next__»;refine EF (m:=slotArgs _ _ _) `y;refine EF (Kp hI `a ?_);dsimp only;refine EF (Ke ho R.dat R.tab.fits ?_);rw[Z1 `f];show wpAny _ _ (setNext a (cR w t i).toNat ((i:Int).toNat) ((ep:Int).toNat)>>=_) _ _ _;rw[Gv,Gv];refine EF (pH ho R.dat R.tab.toTp R.tab.fits R.led R.pl `b ?_);rw[he];dsimp only[IF];refine EF (Ih hI `a `f ?_);have hI1:=GY (L0 (·.setIfInBounds 0 (rawInt ((cR w t<|i+1).toNat:Int)))) hI `a;refine EF (Ih hI1 `a `f ?_);have hI2:=GY (L0 (·.setIfInBounds 1 (rawInt<|(i:Int)+1))) hI1 `a;refine EK (9 `a<|EK<|h _ (hI2.trans ?_)<|(Gk ..).trans (Gk ..));have e1:((cR w t<|i+1).toNat:Int)=cR w t (i+1):=by unfold cR;split<;>(try split)<;>omega
 rw[e1];rfl
theorem vR{Q:8 `Q EN}(hh:A.handled=`c)(R:SetR w o es ep t)(ho:23 a o)(hne:a≠I)(hI:23 I (lD w a t es.size ep es.size))
  (h:∀h',IX I s.heap h'->Q none {s with heap:=h'}):21 prog w A (pyNext<|.ref I) Q E:=by
 have hsz:(f9 w a ep es).size=es.size:=by have:=(jo w a ep es).length_eq;simpa using this
 have hT:=lE hI;unfold pyNext;refine EF (HZ<|FU (name:=EO "__next__") hT sl_next<|Fu sl_next hT rZ ?_<|se _)
 unfold HG.«set_iterator.__next__»;refine EF (m:=slotArgs _ _ _) `y;refine EF (Kp hI `a ?_);dsimp only;refine EF (Ke ho R.dat R.tab.fits ?_);rw[Z1 `f];show wpAny _ _ (setNext a (cR w t es.size).toNat ((es.size:Int).toNat) ((ep:Int).toNat)>>=_) _ _ _;rw[Gv,Gv];refine EF (pH ho R.dat R.tab.toTp R.tab.fits R.led R.pl `b ?_);rw[Iz `b];dsimp only[Option.map_none];refine EF (Ih hI `a `f ?_);show wpAny _ _ (newExc (.type "StopIteration") []>>=_) _ _ _;refine EF ?_;simp only[newExc,newTuple];refine EF (Gg ?_ (by size_fits));refine EF (m:=firstArgMember _ _) (KJ (a:=FZ) (by first|rfl|(simp only[firstArgMember];rfl)) ?_);refine Gg ?_ (by size_fits);simp only[raiseNew];refine EF (Mb ?_);rw[show A.in1.handled=`c from hh];refine EF (EK<|Nd ?_);refine EF (Ho (T:="StopIteration") (b:=true) (9 (ES _ `a) `a) Ik ?_);exact EK (h _<|((Gk ..).extBut.push _).push _)
theorem Walks.setOf(hh:A.handled=`c)(I a:Addr)(hne:a≠I)(R:SetR w o es ep t):
  Walks prog w A I [I,a] [I] es.size (λi v=>∃e,0 (f9 w a ep es)[i]? e/\v=e.2) (λi h=>34 I (lD w a t es.size ep i)/\34 a o) where
 sub:=λb hb=>by simp at hb;simp[hb]
 frame:=λ_ _ _ st hk=>⟨hk I `f _ st.1,hk a `f _ st.2⟩
 item:=λi s Q E hi st hQ=>by
  have hsz:(f9 w a ep es).size=es.size:=by have:=(jo w a ep es).length_eq;simpa using this
  have he:0 (f9 w a ep es)[i]? (f9 w a ep es)[i]:=Fz `b;refine tR R st.2 hne st.1 he λh' hI' hs'=>?_;exact hQ _ h' s.toks (9 he `a) ⟨hI',hs'.extBut a _ hne st.2⟩ λb o hb e=>hs'.extBut b o (λh=>hb<|by simp[h]) e
 done:=λs Q E st hQ=>vR hh R st.2 hne st.1 λh' he'=>hQ h' s.toks λb o hb e=>he' b o (λh=>hb<|by simp[h]) e
 self:=λi s Q E st hQ=>by
  refine IS (lE st.1) rY (Fu rY (lE st.1) yo ?_<|yp _);show wpAny _ _ (ret<|.ref I) _ _ s;exact EK ⟨_,`a,"set_iterator",_,lE st.1,sl_next.lookup,hQ⟩
theorem vS{Q:8 Bool EN}(hT:s.TypeIs (.ref a) "set")(h:Q `g s):21 prog w A (Kg<|.ref a) Q E:=by
 unfold Kg;refine EF (Jd hT F.slot_set_len.lookup ?_);generalize hid:("set.__len__" :String)=id0
 wp_delta
 rw[show 0 (splitId id0) ("set","__len__")from by subst hid;decide +kernel];subst hid;refine EF (Ho (T:="set") (b:=true) hT (by rw[LZ];kernel_rfl) ?_);refine K3 (λhab=>absurd hab ⋯) λ_=>?_;refine K3 (λ_=>?_) (λhab=>absurd ⋯ hab);refine EF (wpAny_typeOf hT ?_);exact EK h
theorem yq(R:SetR w o es ep t):KdlSrc prog w "set" a a es.size (λi v=>∃e,0 (f9 w a ep es)[i]? e/\v=e.2) (λh=>34 a o) where
 type:=λ_ hm=>⟨o,hm,R.ex.1⟩
 there:=λ_ hm=>⟨EU hm,EU hm⟩
 keep:=λ_ _ hm hk=>hk a `G o hm
 notList:=`M
 notTuple:=`M
 hint:=λ_ _ _ _ hm hq=>vS ⟨o,hm,R.ex.1⟩ hq
 iter:=λ_ _ hh hm=>⟨_,_,λ_ _ hq=>vQ R hm hq,Walks.setOf hh _ a (Fd<|EU hm) R,⟨ES _ `a,EI _ hm⟩⟩
end
def Good(n:Nat)(c:Nat->Nat->Bool){Z:Type}:8 (KasT Z) (Z->Prop)
 | .ret a,Q=>Q a
 | .ask i j k,Q=>i<n/\j<n/\Good n c (k<|c i j) Q
section
variable{n:Nat}{c:Nat->Nat->Bool}{Z β:Type}
theorem Good.bind{f:Z->KasT β}{Q:β->Prop}:∀(t:KasT Z),(Good n c t λa=>Good n c (f a) Q)->Good n c (t.bind f) Q
 | .ret _,h=>h
 | .ask i j k,h=>⟨h.1,h.2.1,Good.bind (k<|c i j) h.2.2⟩
theorem Good.imp{Q Q':Z->Prop}(hq:∀a,Q a->Q' a):∀(t:KasT Z),Good n c t Q->Good n c t Q'
 | .ret a,h=>hq a h
 | .ask i j k,h=>⟨h.1,h.2.1,Good.imp hq (k<|c i j) h.2.2⟩
theorem Good.wp{cmp:Nat->Nat->8 (8 Bool EN) EN}{s:EN}{Q:Z->Prop}(hc:∀i j(C:Bool->EN->Prop),i<n->j<n->C (c i j) s->cmp i j C s):∀(t:KasT Z),Good n c t Q->t.kasWp cmp (λa s'=>s'=s/\Q a) s
 | .ret a,h=>⟨`a,h⟩
 | .ask i j k,h=>hc i j _ h.1 h.2.1 (Good.wp hc (k<|c i j) h.2.2)
structure OrdC(n:Nat)(c:Nat->Nat->Bool):Prop where
 tr:∀i j k,i<n->j<n->k<n->1 (c i j)->1 (c j k)->1 (c i k)
 tot:∀i j,i<n->j<n->i≠j->c i j=`g->1 (c j i)
structure Pm(n:Nat)(p:Array Nat):Prop where
 pm:p.toList.Perm (FP n)
theorem Pm.sz{p:Array Nat}(h:Pm n p):p.size=n:=by have:=h.pm.length_eq;simpa using this
theorem jq{p:Array Nat}{a:Nat}(h:a<p.size):p.getD a 0=p.toList[a]'(by simpa using h):=by simp[HL,h]
theorem Pm.lt{p:Array Nat}(h:Pm n p){a:Nat}(ha:a<n):p.getD a 0<n:=by
 have hs:=h.sz;rw[jq `b];have:=h.pm.mem_iff.mp (J6 (l:=p.toList) (n:=a) (by simp;omega));simpa using this
theorem Pm.inj{p:Array Nat}(h:Pm n p){a b:Nat}(ha:a<n)(hb:b<n)(hab:a≠b):p.getD a 0≠p.getD b 0:=by
 have hs:=h.sz;rw[jq `b,jq `b];have nd:p.toList.Nodup:=h.pm.nodup_iff.mpr List.nodup_range;have pw:=HR.mp (Gb.mp nd);rcases MA hab with z|z
 ·exact pw a b _ _ z
 ·exact λe=>pw b a _ _ z e.symm
def yr(c:Nat->Nat->Bool)(p:Array Nat)(m:Nat):Prop:=∀a b,a<b->b<m->1 (c (p.getD a 0)<|p.getD b 0)
def DF(c:Nat->Nat->Bool)(p:Array Nat)(m:Nat):Prop:=∀a b,a<b->b<m->1 (c (p.getD b 0)<|p.getD a 0)
variable{p:Array Nat}
theorem qw(O:OrdC n c)(P:Pm n p):∀(f m:Nat),1<=m->m+f=n->yr c p m->Good n c (kas_asc p f m) λm'=>m<=m'/\m'<=n/\yr c p m'/\(m'=n\/m'<n/\1 (c (p.getD m' 0)<|p.getD (m'-1) 0))
 |0,m,h1,h2,u=>⟨EX _,`b,u,.inl `b⟩
 |f+1,m,h1,h2,u=>by
  refine⟨P.lt `b,P.lt `b,?_⟩;cases hc:c (p.getD m 0) (p.getD (m-1) 0)with
  |true=>exact⟨EX _,`b,u,.inr ⟨`b,hc⟩⟩
  |false=>
   have q:=O.tot _ _ (P.lt (a:=m) `b) (P.lt (a:=m-1) `b) (P.inj `b `b `b) hc;refine Good.imp (λm' h=>⟨`b,h.2⟩) _ (qw O P f (m+1) `b `b λa b hab hb=>?_);by_cases z:b<m;·exact u a b hab z
   ·have:b=m:=`b
    subst this;by_cases y:a=b-1;·rw[y];exact q
    ·exact O.tr _ _ _ (P.lt `b) (P.lt `b) (P.lt `b) (u a (b-1) `b `b) q
theorem sf(O:OrdC n c)(P:Pm n p):∀(f m:Nat),2<=m->m+f=n->DF c p m->Good n c (kas_desc f p m 0) λr=>r.1=p/\r.2.2=0/\2<=r.2.1/\r.2.1<=n/\DF c p r.2.1
 |0,m,h1,h2,u=>⟨rfl,rfl,h1,by show m<=n;omega,u⟩
 |f+1,m,h1,h2,u=>by
  refine⟨P.lt `b,P.lt `b,?_⟩;cases hc:c (p.getD m 0) (p.getD (m-1) 0)with
  |true=>
   refine sf O P f (m+1) `b `b λa b hab hb=>?_;by_cases z:b<m;·exact u a b hab z
   ·have:b=m:=`b
    subst this;by_cases y:a=b-1;·rw[y];exact hc
    ·exact O.tr _ _ _ (P.lt `b) (P.lt `b) (P.lt `b) hc (u a (b-1) `b `b)
  |false=>
   have q:=O.tot _ _ (P.lt (a:=m) `b) (P.lt (a:=m-1) `b) (P.inj `b `b `b) hc;refine⟨P.lt `b,P.lt `b,?_⟩;rw[q];exact⟨rfl,rfl,h1,by show m<=n;omega,u⟩
theorem Pm.of(P:Pm n p){q:Array Nat}(h:q.Perm p):Pm n q:=⟨(Array.perm_iff_toList_perm.mp h).trans P.pm⟩
theorem vT(P:Pm n p){m:Nat}(hm:m<=n)(k:Nat):(OJ p 0 m).getD k 0=if k<m then p.getD (m-1-k) 0 else p.getD k 0:=by
 have hs:=P.sz;unfold OJ;rw[FC,getElem?_mirror_all `b];by_cases z:k<m
 ·rw[Z0 ⟨`b,z⟩,Z0 z,FC];congr 2;omega
 ·rw[Z1 `b,Z1 z,FC]
theorem vU(O:OrdC n c)(P:Pm n p)(h1:1<=n):Good n c (kas_count n p) λr=>Pm n r.2/\1<=r.1/\r.1<=n/\yr c r.2 r.1:=by
 unfold kas_count;refine Good.bind _ (Good.imp (λm h=>?_) _<|qw O P (n-1) 1 `b `b λa b hab hb=>`b);obtain⟨q1,q2,q3,q4⟩:=h;by_cases z:m=n;·rw[Z0 (by simp[z])];exact⟨P,q1,q2,q3⟩
 ·rw[Z1 (by simp[z])];by_cases y:m>1
  ·rw[Z0 y];refine⟨P.lt `b,P.lt `b,?_⟩;rw[q3 0 (m-1) `b `b];exact⟨P,q1,q2,q3⟩
  ·rw[Z1 y];have:m=1:=`b
   subst this;have q5:1 (c (p.getD 1 0)<|p.getD 0 0):=by rcases q4 with q4|q4;exact absurd q4 z;exact q4.2
   unfold kas_descPart;refine Good.bind _ (Good.imp (λr h=>?_) _<|sf O P (n-(1+1)) 2 `b `b λa b hab hb=>?_)
   ·obtain⟨r,k,q⟩:=r;obtain⟨e1,e2,e3,e4,e5⟩:=h;dsimp only at e1 e2 e3 e4 e5 ⊢;subst e1 e2;rw[Z1 `b];unfold kas_tail3;have P2:Pm n (OJ r 0 k):=P.of (mirror_perm _ _ _ _);have U2:yr c (OJ r 0 k) k:=λa b hab hb=>by
     rw[vT P e4,vT P e4,Z0 `b,Z0 hb];exact e5 _ _ `b `b
    refine Good.bind _ (Good.imp (λm h=>?_) _<|qw O P2 (n-k) k `b `b U2);exact⟨P2,by show 1<=m;omega,h.2.1,h.2.2.1⟩
   ·have:a=0/\b=1:=`b
    rw[this.1,this.2];exact q5
theorem lF(O:OrdC n c)(P:Pm n p){k:Nat}(hk:k<n)(u:yr c p k):∀(f l r:Nat),l<=r->r<=k->r-l<=f->(∀a,a<l->1 (c (p.getD a 0)<|p.getD k 0))->(∀a,r<=a->a<k->1 (c (p.getD k 0)<|p.getD a 0))->Good n c (kas_place p k f l r) λl=>l<=k/\(∀a,a<l->1 (c (p.getD a 0)<|p.getD k 0))/\(∀a,l<=a->a<k->1 (c (p.getD k 0)<|p.getD a 0))
 |0,l,r,h1,h2,h3,lo,hi=>by
  have:l=r:=`b
  subst this;exact⟨h2,lo,hi⟩
 |f+1,l,r,h1,h2,h3,lo,hi=>by
  unfold kas_place;by_cases z:l≥r
  ·rw[Z0 z];have:l=r:=`b
   subst this;exact⟨h2,lo,hi⟩
  ·rw[Z1 z];refine⟨P.lt hk,P.lt `b,?_⟩;cases hc:c (p.getD k 0) (p.getD ((l+r)/2) 0)with
   |true=>
    refine lF O P hk u f l ((l+r)/2) `b `b `b lo λa h4 h5=>?_;by_cases y:a=(l+r)/2;·rw[y];exact hc
    ·exact O.tr _ _ _ (P.lt hk) (P.lt `b) (P.lt `b) hc (u _ _ `b h5)
   |false=>
    have q:=O.tot _ _ (P.lt hk) (P.lt (a:=(l+r)/2) `b) (P.inj hk `b `b) hc;refine lF O P hk u f ((l+r)/2+1) r `b `b `b (λa h4=>?_) hi;by_cases y:a=(l+r)/2;·rw[y];exact q
    ·exact O.tr _ _ _ (P.lt `b) (P.lt `b) (P.lt hk) (u _ _ `b `b) q
theorem vV(O:OrdC n c):∀(f k:Nat)(p:Array Nat),Pm n p->k+f=n->yr c p k->Good n c (kas_bin f p k) λp'=>Pm n p'/\yr c p' n
 |0,k,p,P,h,u=>⟨P,by rw[<-h];exact u⟩
 |f+1,k,p,P,h,u=>by
  refine Good.bind _ (Good.imp (λl hl=>?_) _<|lF O P `b u k 0 k `b `b `b (λa ha=>`b) λa h1 h2=>`b);obtain⟨l1,l2,l3⟩:=hl;have hs:=P.sz;have at_:∀x,(bubble p k<|k-l).getD x 0=if x=l then p.getD k 0 else if l<x/\x<=k then p.getD (x-1) 0 else p.getD x 0:=λx=>by
   rw[FC,getElem?_bubble `b _ `b,show k-(k-l)=l by omega];split;·rw[FC]
   ·split<;>rw[FC]
  refine vV O f (k+1) _ (P.of<|bubble_perm _ _ _) `b λa b hab hb=>?_;rw[at_,at_];by_cases z1:a=l
  ·rw[Z0 z1,Z1 `b,Z0 `b];exact l3 _ `b `b
  ·rw[Z1 z1];by_cases z2:b=l
   ·rw[Z0 z2,Z1 `b];exact l2 _ `b
   ·rw[Z1 z2];by_cases z3:l<a/\a<=k
    ·rw[Z0 z3,Z0 `b];exact u _ _ `b `b
    ·rw[Z1 z3];by_cases z4:l<b/\b<=k
     ·rw[Z0 z4];exact u _ _ `b `b
     ·rw[Z1 z4];exact u _ _ `b `b
theorem yt(O:OrdC n c)(h1:1<=n):Good n c (kas_sort n) λp=>Pm n p/\yr c p n:=by
 unfold kas_sort;refine Good.bind _ (Good.imp (λr h=>?_) _<|vU O (p:=List.toArray (FP n)) ⟨`q⟩ h1);obtain⟨q1,q2,q3,q4⟩:=h;by_cases z:r.1<n
 ·rw[Z0 z,show max r.1 1=r.1 by omega];exact vV O _ _ _ q1 `b q4
 ·rw[Z1 z];have:r.1=n:=`b
  exact⟨q1,by rw[<-this];exact q4⟩
end
def PairAt(h:Heap)(v:EM)(k:`l):Prop:=∃b o t1 t2 n,v=.ref b/\34 b o/\o.cls=.type "tuple"/\o.data=.seq #[.int k.1 t1,.int k.2 t2] n
def nY(a b:`l):Bool:=decide (a.1<b.1)||(decide (a.1=b.1)&&decide (a.2<b.2))
theorem jr{a b:`l}:1 (nY a b)↔a.1<b.1\/a.1=b.1/\a.2<b.2:=by unfold nY;simp
theorem Ax{a b c:`l}(h:1 (nY a b))(h':1 (nY b c)):1 (nY a c):=by rw[jr]at *;omega
theorem yu{a b:`l}(hn:a≠b)(h:nY a b=`g):1 (nY b a):=by
 have h2:¬nY a b=true:=by rw[h];decide
 rw[jr]at h2;rw[jr];by_cases z:a.1=b.1
 ·have:a.2≠b.2:=λe=>hn (L8 z e);omega
 ·omega
theorem yv(a:`l):nY a a=`g:=by unfold nY;simp
structure PairsAt(h:Heap)(vs:List EM)(ks:`A):Prop where
 len:`O=ks.length
 at_:∀(i:Nat)(v:EM),0 vs[i]? v->∃k,0 ks[i]? k/\PairAt h v k
theorem PairsAt.get{h:Heap}{vs:List EM}{ks:`A}(P:PairsAt h vs ks){i:Nat}(hi:i<`O):PairAt h (vs.getD i .none) (ks.getD i (0,0)):=by
 obtain⟨k,h1,h2⟩:=P.at_ i vs[i] (EH hi);rw[F4,F4,EH hi,h1];exact h2
theorem PairsAt.keep{h h':Heap}{vs:List EM}{ks:`A}(P:PairsAt h vs ks)(hk:∀b o,o.cls=.type "tuple"->34 b o->37 b o):PairsAt h' vs ks:=
 ⟨P.len,λi v e=>let ⟨k,q1,b,o,t1,t2,n,q2,q3,q4,q5⟩:=P.at_ i v e;⟨k,q1,b,o,t1,t2,n,q2,hk b o q4 q3,q4,q5⟩⟩
section
variable{prog:F6}{w:Fh}{A:FR}{E:8 EM EN}{s:EN}
theorem yw{x y:EM}{k l:`l}{Q:8 Bool EN}(hx:PairAt `p x k)(hy:PairAt `p y l)(h:Q (nY k l) s):21 prog w A (keyLt' (tuples' true) x y) Q E:=by
 obtain⟨bx,ox,t1,t2,n,rfl,hx,_,dx⟩:=hx;obtain⟨by_,oy,u1,u2,m,rfl,hy,_,dy⟩:=hy;refine kat_lt hx dx hy dy (kat_cons<|L5<|kat_go (λe=>kat_yes<|kat_cons<|L5<|kat_go (λe'=>kat_yes<|kat_nil ?_) λe'=>kat_no<|kat_one _ _<|lt_int ?_) λe=>kat_no<|oneLt_int ?_)
 ·have e1:k.1=l.1:=by simpa using e
  have e2:k.2=l.2:=by simpa using e'
  have:k=l:=L8 e1 e2;subst this;rw[yv]at h;simpa using h
 ·have e1:k.1=l.1:=by simpa using e
  show Q (decide<|k.2<l.2) s;unfold nY at h;simpa [e1] using h
 ·have e1:¬k.1=l.1:=by simpa using e
  unfold nY at h;simpa [e1] using h
theorem si{h:Heap}:∀{vs:List EM}{ks:List (Int×Int)},PairsAt h vs ks->∃fs,fs.length=`O/\KatTups h vs fs/\∀f∈fs,∃i t,f=J2 i t
 | [],ks,P=>⟨[],rfl,trivial,λf hf=>by cases hf⟩
 |v::vs,ks,P=>by
  obtain⟨k,q1,b,o,t1,t2,n,rfl,q3,q4,q5⟩:=P.at_ 0 v `a;obtain⟨fs,l1,l2,l3⟩:=si (h:=h) (vs:=vs) (ks:=ks.drop 1) ⟨by have:=P.len;simp at this ⊢;omega,λi v e=>by
   obtain⟨k,a1,a2⟩:=P.at_ (i+1) v (by simpa using e);exact⟨k,by rw[Gz,Ln];exact a1,a2⟩⟩
  refine⟨.int k.1 t1::fs,by simp[l1],.cons q3 q4 q5 `f l2,λf hf=>?_⟩;rcases F0.mp hf with rfl|hf
  ·exact 9 _ `a
  ·exact l3 f hf
theorem qx{a:Addr}{vs:List EM}{ks:`A}{n:Nat}{P:8 PJ EN}(ho:23 a (seqObj "list" vs.toArray n))(hp:PairsAt `p vs ks)(nd:ks.Nodup)(a0:`O<64)
  (h:∀p:List Nat,p.Perm (FP `O)->(p.map λi=>ks.getD i (0,0)).Pairwise (λx y=>1<|nY x y)->P (.done<|.ret .none) {s with heap:=sortedHeap s.heap a vs (p.map λi=>vs.getD i FZ).toArray}):
  21 prog w A (HG.«list.sort» ⟨[.ref a],[]⟩) P E:=by
 rw[list_sort_plain];have ha:a<`P:=EU ho;refine EF (listItems_at ho `a ?_);refine EF (Me ho `a ?_);obtain⟨e1,ho1⟩:∃e1,0 ((s.heap.update a<|Hn λ_=>#[]).get? a) (seqObj "list" #[] e1):=⟨_,get?_update_seq ho λ_=>#[]⟩
 refine EF (Nf ho1 `a ?_);refine EF (LW ?_);refine EF (Mf ?_);refine FY ?_;have ho6:0 ((((s.heap.update a<|Hn λ_=>#[]).push<|seqObj "tuple" vs.toArray 0).push<|seqObj "list" #[] 0).get? a) (seqObj "list" #[] e1):=by
  rw[KN _ _ _ (by rw[NI,N5];exact Fd (HA ha)),KN _ _ _ (by rw[N5];exact Fd ha)];exact ho1
 show wpAny (model prog w) A _ P E {s with heap:=((s.heap.update a<|Hn λ_=> #[]).push (seqObj "tuple" vs.toArray 0)).push (seqObj "list" #[] 0)};dsimp only;have hsz:vs.toArray.size=`O:=`f
 have hl:`O<=sizeLine:=by rw[FE];omega
 by_cases h2:vs.toArray.size<2
 ·rw[Z0 h2,Z0 h2];refine EF `y;rw[StateT.run_pure];refine EF `y;dsimp only;refine EF (Nf ho6 `a ?_);refine EF (Me ho6 `a ?_ (hsz2:=by rw[Array.size_map];show(pairsOf vs).size<=_;rw[pairsOf_size,FE];omega));simp only[bne_self_eq_false,Fv,if_false];have:=h (FP `O) `q (by
   have h3:`O=0\/`O=1:=by omega
   rcases h3 with h3|h3<;>rw[h3];·exact IL
   ·exact List.pairwise_singleton _ _)
  refine `y;have e:(arrOf<|SortSt.mk' general' (vs.toArray.zip vs.toArray) #[] 7 `c).map (·.2)=((FP `O).map λi=>vs.getD i FZ).toArray:=by
   rw[jO];show(vs.toArray.zip vs.toArray).map (·.2)=_;apply Array.toList_inj.mp;simp only[N2,Array.toList_zip,List.map_snd_zip,EX]
  rw[e];exact this
 ·rw[Z1 h2,Z1 h2];obtain⟨fs,l1,l2,l3⟩:=si (hp.keep (h':=((s.heap.update a<|Hn λ_=>#[]).push<|seqObj "tuple" vs.toArray 0).push (seqObj "list" #[] 0)) λb o hc e=>by
   have hb:b≠a:=λz=>by subst z;rw[ho]at e;cases e;exact absurd hc (by show ¬(HW "list"=HW "tuple");decide)
   exact EI _ (EI _<|(Iw _ _<|Hx hb).trans e))
  have hp2:=hp.keep (h':=((s.heap.update a<|Hn λ_=>#[]).push<|seqObj "tuple" vs.toArray 0).push (seqObj "list" #[] 0)) λb o hc e=>by
   have hb:b≠a:=λz=>by subst z;rw[ho]at e;cases e;exact absurd hc (by show ¬(HW "list"=HW "tuple");decide)
   exact EI _ (EI _<|(Iw _ _<|Hx hb).trans e)
  refine EF (kat_kind (T:=.type "int") l2 (by rw[l1];omega) (λv hv=>?_) ⋯ ?_)
  ·obtain⟨i,t,rfl⟩:=l3 v hv;exact .now
  rw[show 1 (HW "int" !=HW "tuple") from `M];have inj:∀i j,i<`O->j<`O->ks.getD i (0,0)=ks.getD j (0,0)->i=j:=λi j hi hj e=>by
   have lk:=hp.len;have pw:=HR.mp (Gb.mp nd);have ei:ks.getD i (0,0)=ks[i]'(`b):=by simp[F4,show i<ks.length by omega]
   have ej:ks.getD j (0,0)=ks[j]'(`b):=by simp[F4,show j<ks.length by omega]
   rw[ei,ej]at e;by_cases z:i=j;·exact z
   ·rcases MA z with z | z;·exact absurd e (pw i j _ _ z)
    ·exact absurd e.symm (pw j i _ _ z)
  have O:OrdC `O λi j=>nY (ks.getD i (0,0)) (ks.getD j (0,0)):=⟨λi j k _ _ _ x y=>Ax x y,λi j hi hj hij x=>yu (λe=>hij<|inj i j hi hj e) x⟩
  have run:=Good.wp (s:={s with heap:=((s.heap.update a<|Hn λ_=> #[]).push (seqObj "tuple" vs.toArray 0)).push (seqObj "list" #[] 0)}) (cmp:=kas_ask prog w A (tuples' true) vs) (λi j C hi hj hC=>yw (hp2.get hi) (hp2.get hj) hC) _ (yt O `b);refine EF (Gi (kat_run (Q:=λst' s'=>∃p:Array Nat,p.size=vs.length/\arrOf st'=p.map (kas_item<|vs.toArray.zip vs.toArray)/\failedOf st'=none/\s'={s with heap:=((s.heap.update a<|Hn λ_=> #[]).push (seqObj "tuple" vs.toArray 0)).push (seqObj "list" #[] 0)}/\Pm vs.length p/\yr (λi j=>nY (ks.getD i (0,0))<|ks.getD j (0,0)) p vs.length)
   rfl (`b) a0 (λp' st' s' a1 a2 a3 a4=>⟨p',a1,a2,a3,a4⟩) run) ?_ λ_ _ e=>e)
  rintro ⟨⟨⟩,st'⟩ s' ⟨p,hps,har,hf,rfl,P1,U1⟩;dsimp only;have hout:=kat_snds `a har;rw[hout];refine EF (Nf ho6 `a ?_);refine EF (Me ho6 `a ?_ (hsz2:=by rw[EW,EY,FL,hps];exact Nat.le_succ_of_le hl));rw[hf];simp only[bne_self_eq_false,Fv,if_false];refine EK (h p.toList P1.pm ?_);rw[IQ,HR];intro i j hi hj hij;have:=U1 i j hij (by simpa [hps] using hj)
  rwa [jq (by simpa using hi),jq (by simpa using hj)]at this
end
end Wb
namespace Wb
open PySem PySem.W PyProof.Rows
section
variable{prog:F6}{w:Fh}{A:FR}{E:8 EM EN}{s:EN}
theorem pI{a:Addr}{vs:List EM}{key:EM->`l}{n:Nat}{P:8 PJ EN}(ho:23 a (seqObj "list" vs.toArray n))(hp:∀v∈vs,PairAt `p v (key v))(nd:(vs.map key).Nodup)(hl:`O<=63)
  (h:∀out:List EM,out.Perm vs->(out.map key).Pairwise (λx y=>1<|nY x y)->P (.done<|.ret .none) {s with heap:=sortedHeap s.heap a vs out.toArray}):
  21 prog w A (HG.«list.sort» ⟨[.ref a],[]⟩) P E:=by
 refine qx (ks:=vs.map key) ho ⟨by rw[EY],λi v hv=>⟨key v,by rw[ET,hv];rfl,hp v (F3 hv)⟩⟩ nd `b λp pm pw=>h _ ?_ ?_
 ·have:=pm.map λi=>vs.getD i FZ;have e:((FP `O).map λi=>vs.getD i FZ)=vs:=by
   refine GX λi=>?_;rw[ET];by_cases z:i<`O
   ·rw[GW z,EH z];show some (vs.getD i FZ)=_;rw[F4,EH z];rfl
   ·rw[FW (by simp;omega),FW `b];rfl
  rw[e]at this;exact this
 ·rw[Hf];have e:p.map (key∘λi=>vs.getD i FZ)=p.map λi=>(vs.map key).getD i (0,0):=Ka λi hi=>by
   have z:i<`O:=by have:=pm.mem_iff.mp hi;simpa using this
   show key (vs.getD i FZ)=_;rw[F4,F4,ET,EH z];rfl
  rw[e];exact pw
end
end Wb
namespace Wb
open PySem PySem.W PySem.Calls PyProof.Rows
section
variable{prog:F6}{w:Fh}{K:Type}[DecidableEq K]{knd:KeyKind prog w K}{A:FR}{E:8 EM EN}{s:EN}
theorem tS{a x:Addr}{o:Obj}{es:Array (Int×EM)}{ep:Nat}{t:G6}{led:Bool}{ks:List (List K)}{kx:List K}(hu:A.units+1<cLine)(S:SetT knd `p a led ks o es ep t)(hn:es.size<1000)(hx:GI knd `p kx x)(hI:∀k∈kx,∀v,1 (knd.is k v)->∃i t,v=.int i t){Q:8 EM EN}
  (h1:kx∈ks->∀tk,Q .none {s with toks:=tk}) (h2:kx∉ks->∀tk h' ks' o' es' ep' t',Fg a s.heap h'->SetT knd h' a led ks' o' es' ep' t'->ks'.Perm (kx::ks)->es'.toList.Perm ((42 kx,.ref x)::es.toList)->Q .none {s with heap:=h',toks:=tk}):
  21 prog w A (call (.builtin "set.add") [.ref a,.ref x]) Q E:=by
 have hT:s.TypeIs (.ref a) "set":=⟨o,S.at_,S.ex.1⟩
 refine Fu F.slot_set_add hT F.entry_set_add ?_ (F.args_set_add_2 _ _);unfold HG.«set.add» Kq;simp only[N6,NG];unfold L1 setAdd;refine EF `y
 try dsimp only
 refine EF `y
 try dsimp only
 refine EF ?_;refine FY ?_;refine EF (Kr (show A.in1.units<cLine from hu) hx ?_);unfold setAddHashed;refine FY (rX (s:={s with toks:=s.toks+(kx.length+1)}) (show A.in1.units<cLine from hu) S hn hx hI (λhm=>?_) λhm h' ks' o' es' ep' t' a1 a2 a3 a4=>?_)
 ·show wpAny _ _ (ret FZ) _ _ _;exact EK (9 `a<|h1 hm _)
 ·show wpAny _ _ (ret FZ) _ _ _;exact EK (9 `a<|h2 hm _ h' ks' o' es' ep' t' a1 a2 a3 a4)
end
end Wb
namespace L2
open PySem PySem.Spec PyProof.Rows Wb
structure TupsH(prog:F6)(w:Fh)(K:EL)(H:Hp)(es:7 Int EM)(ks:`A):Prop where
 len:es.length=ks.length
 at_:∀(i:Nat)(e:Int×EM),0 es[i]? e->∃k b,0 ks[i]? k/\e.2=.ref b/\44 K H b/\e.1=tupleKeyHash (mixKind prog w) [.inl k.1,.inl k.2]
def SetH(prog:F6)(w:Fh)(K:EL)(H:Hp)(o:Obj)(ks:`A):Prop:=∃es ep t,SetR w o es ep t/\TupsH prog w K H es.toList ks/\ks.Nodup
def gE(k:`l):List Key:=[.inl k.1,.inl k.2]
theorem iL{a b:`l}(h:gE a=gE b):a=b:=by
 unfold gE at h;injection h with h1 h2;injection h2 with h2 _;injection h1 with h1;injection h2 with h2;exact L8 h1 h2
def qy:List Key->`l
 | [.inl a,.inl b]=>(a,b)
 |_=>(0,0)
theorem iM(k:`l):qy (gE k)=k:=rfl
noncomputable def zK(Z2:Expr)(env:Env)(Z8:EM):Sem Unit:=do
 let v <-eval Z2 env
 standAt Z2.pos
 let _ <-call (.builtin "set.add") [Z8,v]
def qz(prog:F6)(w:Fh)(K:EL)(te:TE):TB:=λD M H N=>te M H λy H'=>∃G o ks b k,Same G H'/\0 (H' D) (XO D o)/\SetH prog w K G o ks/\ks.length<1000/\y=.ref b/\44 K G b/\(k∈ks->N H')/\(k∉ks->∀o' ks',SetH prog w K G o' ks'->ks'.Perm (k::ks)->N (cT H' D<|XO D o'))
section
variable{Y X:Cx}{Z2:Expr}{te:TE}
theorem eW{Z_:7 Addr Obj}{M:St}{H:Hp}{s:EN}{b:Addr}{k:`l}(I:14 X M H s)(h:44 X.K H b):GI (mixKind `o X.w) `p (gE k) b:=by
 obtain⟨its,r,⟨o,h1,h2,n,h3⟩,_⟩:=I.tuple h;exact⟨o,its.toArray,n,h1,h2,h3,by simpa using mF (ks:=gE k) r⟩
theorem Ay{k:`l}:∀q∈gE k,∀v,1 ((mixKind `o X.w).is q v)->∃i t,v=.int i t:=λq hq v hv=>by
 have:q=.inl k.1\/q=.inl k.2:=by simpa [gE] using hq
 rcases cw (show hW q v=true from hv)with⟨i,t,e1,rfl⟩|⟨x,t,e1,rfl⟩
 ·exact⟨i,t,`a⟩
 ·rcases this with z|z<;>(rw[z]at e1;cases e1)
theorem Az(hxe:Y.xe=λ_ _=>False)(hu:Y.A.units+1<cLine)(he:PE Y Z2 te):PB Y (zK Z2 Y.env) (qz Y.prog Y.w Y.K te):=by
 intro D Z_ s M H N I h;have he':=he Z_ s M H _ I h;rw[hxe]at he';refine EF (cx he' λu s1 zz=>?_);obtain⟨y,H1,I1,r1,G,o,ks,b,k,eG,hD,hS,hl,ey,hb,h1,h2⟩:=zz;subst ey;obtain rfl:u=.ref b:=r1;refine EF (HH ?_);obtain⟨es,ep,t,R,T,nd⟩:=hS;have hDo:0 (s1.heap.get? D) o:=(I1.hok D _ hD).1;have hsz:es.size=ks.length:=by have:=T.len;simpa using this
 have U:TupsOf (mixKind Y.prog Y.w) s1.heap es.toList (ks.map gE):=⟨by rw[EY];exact T.len,λi e hi=>by
  obtain⟨k,b,q1,q2,q3,q4⟩:=T.at_ i e hi;exact⟨gE k,b,by rw[ET,q1];rfl,q2,eW I1 (GL eG q3),q4⟩⟩
 have S:SetT (mixKind Y.prog Y.w) s1.heap D (!Y.w.params.followText "set-order") (ks.map gE) o es ep t:=⟨hDo,R.ex,R.dat,R.tab,U,MS _ (λa b hab e=>hab<|iL e) nd,R.led,R.pl⟩
 refine EF (tS hu S `b (eW I1<|GL eG hb) Ay (λhm tk=>?_) λhm tk h' ks' o' es' ep' t' a1 a2 a3 a4=>?_)
 ·obtain⟨k',m1,m2⟩:=Fo.mp hm;cases iL m2;exact EK ⟨M,H1,I1.kept λ_ _ z=>z,λ_ _ e=>e,h1 m1⟩
 ·have nm:k∉ks:=λz=>hm (Fo.mpr ⟨k,z,`a⟩);have pk:(ks'.map qy).Perm (k::ks):=by
   have:=a3.map qy;rw[FQ,Hf,show(qy∘gE)=id from funext iM,P7,iM]at this;exact this
  have TH:TupsH Y.prog Y.w Y.K G es'.toList (ks'.map qy):=⟨by rw[EY];exact a2.tup.len,λi e hi=>by
   obtain⟨kk,b',q1,q2,q3,q4⟩:=a2.tup.at_ i e hi;have src:∃k0:Int×Int,SqT Y.K G b' [.int k0.1,.int k0.2]:=by
    rcases F0.mp (a4.mem_iff.mp<|F3 hi)with z|z;·rw[z]at q2;cases q2;exact⟨k,hb⟩
    ·obtain⟨j,hj,ej⟩:=Gh.mp z;obtain⟨k0,b0,r1,r2,r3,r4⟩:=T.at_ j e (by rw[EH hj,ej]);rw[r2]at q2;cases q2;exact⟨k0,r3⟩
   obtain⟨k0,hk0⟩:=src;have e0:kk=gE k0:=q3.inj (pG (eW I1<|GL eG hk0) hDo R.dat a1);subst e0;exact⟨k0,b',by rw[ET,q1];rfl,q2,hk0,q4⟩⟩
  refine EK ⟨M,_,?_,λ_ _ e=>e,h2 nm o' (ks'.map qy) ⟨es',ep',t',⟨a2.ex,a2.dat,a2.tab,a2.led,a2.pl⟩,TH,pk.nodup_iff.mpr<|HC.mpr ⟨nm,nd⟩⟩ pk⟩;exact I1.write (x:=D) (e:=D) (by rw[hD];exact Iu) `G (λb u hb' z=>(a1.2 b hb').trans z) ⟨o',a2.at_⟩ (OD a2.at_)
theorem lG{Z_:7 Addr Obj}{M:St}{H:Hp}{s:EN}{b:Addr}{k l:`l}(I:14 X M H s)(h:44 X.K H b)(h':SqT X.K H b [.int l.1,.int l.2]):k=l:=by
 have:=I.tuple_inj h h';injection this with e1 e2;injection e2 with e2 _;injection e1 with e1;injection e2 with e2;exact L8 e1 e2
open Classical in
noncomputable def eD(K:EL)(H:Hp)(e:Int×EM):`l:=if h:∃k:Int×Int,∃b,e.2=.ref b/\44 K H b then h.choose else(0,0)
theorem kI{Z_:7 Addr Obj}{M:St}{G H:Hp}{s:EN}{b:Addr}{k:`l}{e:Int×EM}(eG:Same G H)(I:14 X M H s)(h:44 X.K G b)(he:e.2=.ref b):eD X.K G e=k:=by
 have ex:∃k:Int×Int,∃b,e.2=.ref b/\44 X.K G b:=⟨k,b,he,h⟩
 unfold eD;rw[dif_pos ex];obtain⟨b',e1,e2⟩:=ex.choose_spec;rw[he]at e1;cases e1;exact lG I (GL eG e2) (GL eG h)
def AA:EM->V
 | .ref b=>.ref b
 |_=>.non
def vW(prog:F6)(w:Fh)(K:EL):`u->Hp->VK->Prop:=λxs H Q=>∃(G:Hp)(p:Addr)(o:Obj)(ks:List (Int×Int)),xs=[.ref p]/\Same G H/\0 (H p) (XO p o)/\SetH prog w K G o ks/\ks.length<=63/\∀(q:Addr)(us:List V)(ks':List (Int×Int)),H q=`c->ks'.Perm ks->(ks'.Pairwise λa b=>1<|nY a b)->us.length=ks'.length->(∀(i:Nat)(v:V)(k:Int×Int),0 us[i]? v->0 ks'[i]? k->∃b,v=.ref b/\44 K G b)->Q (.ref q) (cT H q<|.lst us)
theorem nZ(hc:1 X.calm):ee X (.builtin "sorted") (vW `o X.w X.K):=by
 intro Z_ s M H xs us Q I r h;obtain⟨G,p,o,ks,rfl,eG,hp,⟨es,ep,t,R,T,nd⟩,a0,q⟩:=h;obtain⟨u,rfl,rx⟩:=ft r;cases rx;have hpo:23 p o:=(I.hok p _ hp).1;have hsz:es.size=ks.length:=by have:=T.len;simpa using this
 have op:=jo X.w p ep es;have osz:(f9 X.w p ep es).size=es.size:=by have:=op.length_eq;simpa using this
 have ek:es.toList.map (eD X.K G)=ks:=by
  apply GX;intro i;rw[ET];by_cases z:i<es.toList.length
  ·obtain⟨k,b,q1,q2,q3,q4⟩:=T.at_ i es.toList[i] (EH z);rw[EH z,q1];exact congrArg some (kI eG I q3 q2)
  ·rw[FW `b,FW (by have:=T.len;omega)];rfl
 have mem:∀e∈(f9 X.w p ep es).toList,∃b,e.2=.ref b/\SqT X.K G b [.int (eD X.K G e).1,.int (eD X.K G e).2]:=λe he=>by
  obtain⟨j,hj,ej⟩:=Gh.mp (op.mem_iff.mp he);obtain⟨k0,b0,r1,r2,r3,r4⟩:=T.at_ j e (by rw[EH hj,ej]);exact⟨b0,r2,by rw[kI eG I r3 r2];exact r3⟩
 have kzp:((f9 X.w p ep es).toList.map<|eD X.K G).Perm ks:=by
  have:=op.map (eD X.K G);rw[ek]at this;exact this
 refine J7 kind_sorted plain_sorted entry_sorted (args_sorted1 _) ?_;unfold HG.«sorted»;refine EF (m:=checkCount "sorted" 1 1 _) `y;refine EF (PySem.W.kdu_collect (A:=X.A.in1) (yq (a:=p) R) (I.ok.hd hc) hpo (by rw[FE];omega) λh' tk Z8 hk hacc=>?_);have av:Z8.toList=(f9 X.w p ep es).toList.map (·.2):=by
  apply GX;intro i;rw[ET];by_cases z:i<Z8.size
  ·have z2:i<Z8.toList.length:=`W
   obtain⟨e,q1,q2⟩:=hacc.2 i Z8.toList[i] (by rw[<-FG];exact EH z2);rw[EH z2,FG,q1,q2];rfl
  ·have:=hacc.1;rw[FW (by simp;omega),FW (by simp;omega)];rfl
 have hal:Z8.toList.length=ks.length:=by rw[FL,hacc.1,hsz]
 have I':=I.kept (t':=tk) hk;refine EF (Mf ?_ (by rw[hal,FE];omega));have hoL:0 ((h'.push<|seqObj "list" Z8.toList.toArray 0).get? h'.objs.size) (seqObj "list" Z8.toList.toArray 0):=ES _ `a;have src:∀v∈Z8.toList,∃b,v=.ref b/\SqT X.K G b [.int (eD X.K G (0,v)).1,.int (eD X.K G (0,v)).2]:=λv hv=>by
  rw[av]at hv;obtain⟨e,he,rfl⟩:=Fo.mp hv;obtain⟨b,h2,h3⟩:=mem e he;exact⟨b,h2,by rw[show eD X.K G (0,e.2)=eD X.K G e from rfl];exact h3⟩
 have km:(Z8.toList.map λv=>eD X.K G (0,v))=(f9 X.w p ep es).toList.map (eD X.K G):=by rw[av,Hf];rfl
 refine EF (FY<|Fu NJ (9 hoL `a) Nq (pI (key:=λv=>eD X.K G (0,v)) hoL (λv hv=>?_) (by rw[km];exact kzp.nodup_iff.mpr nd) (by rw[hal];omega) λout op' pw=>9 `a ?_)<|NK _)
 ·obtain⟨b,rfl,h3⟩:=src v hv;obtain⟨its,rr,⟨ob,g1,g2,n,g3⟩,_⟩:=I'.tuple (GL eG h3);obtain⟨u1,u2,e1,⟨t1,e2⟩,t2,e3⟩:∃u1 u2,its=[u1,u2]/\RelV (.int (eD X.K G (0,.ref b)).1) u1/\RelV (.int (eD X.K G (0,.ref b)).2) u2:=by
   cases rr with
   |cons a b=>cases b with
    |cons c d=>cases d with
     |nil=>exact⟨_,_,`a,a,c⟩
  subst e1;rw[e2,e3]at g3;exact⟨b,ob,t1,t2,n,`a,EI _ g1,g2,g3⟩
 obtain⟨e,he⟩:=Oy (h:=h'.push (seqObj "list" Z8.toList.toArray 0)) (a:=h'.objs.size) (vs:=Z8.toList) (out:=out.toArray) (n:=0) hoL;have at_:∀v∈out,∃b,v=.ref b/\SqT X.K G b [.int (eD X.K G (0,v)).1,.int (eD X.K G (0,v)).2]:=λv hv=>src v (op'.mem_iff.mp hv);have pkz:(out.map λv=>eD X.K G (0,v)).Perm ks:=by
  have:=op'.map λv=>eD X.K G (0,v);rw[km]at this;exact this.trans kzp
 have ol:out.length=ks.length:=by rw[op'.length_eq];exact hal
 refine EK ⟨_,`a,.ref h'.objs.size,_,I'.laid (t':=tk) (λb o z=>?_) (EX _) (show ObjOk `o X.w _ _ _ (.lst<|out.map AA)from⟨by rw[EY,FE];omega,out,e,?_,he⟩),`a,q _ _ (out.map λv=>eD X.K G (0,v)) (I'.hok.fresh<|EX _) pkz pw (by rw[EY,EY]) λi v k h1 h2=>?_⟩
 ·show 0 ((sortedHeap _ _ _ _).get? b) o;rw[NL (Fd<|EU z) (by rw[NI];exact HA (EU z))];exact EI _ z
 ·refine i9 _ _ (by rw[EY]) λj x u hx hu=>?_;rw[ET,hu]at hx;cases hx;obtain⟨b,rfl,_⟩:=at_ u (F3 hu);rfl
 ·rw[ET]at h1 h2;obtain⟨u,hu,rfl⟩:=Fy.mp h1;rw[hu]at h2;cases h2;obtain⟨b,rfl,h4⟩:=at_ u (F3 hu);exact⟨b,`a,h4⟩
end
def set0(w:Fh):Obj:={cls:=.type "set",dict:=none,data:=.set #[] 0<|.fresh 0 0<|!w.params.followText "set-order",slots:= #[]}
theorem yx(prog:F6)(w:Fh)(K:EL)(H:Hp):SetH prog w K H (set0 w) []:=
 ⟨#[],0,.fresh 0 0<|!w.params.followText "set-order",⟨⟨`a,`a,`a⟩,`a,⟨⟨rfl,rfl,λa b _ hb=>by simp[Kt]at hb,λj⟨a,ha,_⟩=>by simp[Kt]at ha,`G,λi h e=>by simp at e⟩,by show 0*5<7*3;decide⟩,`a,`a⟩,⟨`a,λi e he=>by simp at he⟩,IL⟩
def qF(w:Fh)(cap:List `S)(wi:TI)(g:TG)(tf:TT)(tb:TB):TE:=λM H Q=>wi M H λJ H1=>∀D,H1 D=`c->tK g tf tb D (bH cap M) (cT H1 D<|XO D<|set0 w) (λH'=>Q (.ref D) H') J
section
variable{X:Cx}{scope:ID}{N:`I}{cap:List `S}{tg iter:Expr}{ifs:List Expr}{Z9:Pos}{wi:TI}{g:TG}{tf:TT}{tb:TB}{body:Env->EM->Sem Unit}
theorem vX(S:CompScope X scope N cap)(hc:1 X.calm){Z2:Expr}{gs:List KY}(hi:PI X tg iter wi)
  (hg:∀s H C fp,PG (aQ X scope N s H C fp) tg g) (hf:∀s H C fp,uu (aQ X scope N s H C fp) ifs tf) (hb:∀s H C fp,PB (aQ X scope N s H C fp) (body (aQ X scope N s H C fp).env) tb)
  (ht:∀env it Z8,compTurn (.SetComp Z2 (⟨tg,iter,ifs,0⟩::gs) scope Z9) 0 it Z8 env=fA tg iter ifs (body env Z8) it env (.compLoop (.SetComp Z2 (⟨tg,iter,ifs,0⟩::gs) scope Z9) 0 it Z8 env):=by intro _ _ _;rfl)
  (hs:∀x,foldedSetIterable iter X.env x=pure x:=by intro _;rfl):PE X (.SetComp Z2 (⟨tg,iter,ifs,0⟩::gs) scope Z9) (qF X.w cap wi g tf tb):=by
 intro Z_ s M H Q I h;rw[arm_eval_SetComp];have frc:∀x∈scope.names,x.2=.free->∃c,43 x.1 c:=λx hx hk=>I.ok.has x.1 (S.free x hx hk);refine HY (use:=none) `a hs (fg frc) S.kind (gJ S) (cx (hi Z_ s M H _ I h) λv s1 h1=>cx h1 λitv s2 h2=>?_);obtain⟨it,fp,tn,J,H2,rfl,I2,T,st2,f2,w⟩:=h2;unfold newSet setsByText;refine EF (EF<|HK `y);refine Gg ?_;have hz:H2 s2.heap.objs.size=`c:=I2.hok.fresh (EX _);have I3:Inv X Z_ M (cT H2 s2.heap.objs.size<|XO s2.heap.objs.size<|set0 X.w) {s2 with heap:=s2.heap.push (set0 X.w)}:=
  I2.laid (a:=s2.heap.objs.size) (t':=s2.toks) (λ_ _ q=>EI _ q) (EX _) (OD<|ES _ `a)
 have nD:∀b∈fp,b≠s2.heap.objs.size:=λb hb=>by
  obtain⟨o,e,_⟩:=T.obj _ _ st2 b hb;exact Fd (EU e)
 have f3:∀b∈fp,FpOk X Z_ (cT H2 s2.heap.objs.size<|XO s2.heap.objs.size<|set0 X.w) b:=λb hb=>⟨by rw[aJ (nD b hb)];exact(f2 b hb).1,(f2 b hb).2⟩
 refine lq (RR:=λC=>compPost (model `o X.w) X.A X.xe `c (EP X Z_ M Q) (.ref s2.heap.objs.size) C) S hc PN `a hg hf hb ht I3 T (T.keep _ _ _ st2 λb hb o e=>EI _ e) f3 (w _ hz) λC σ' H' s' hC I' q=>?_;obtain⟨m,hn,_⟩:=I'.loc;exact⟨m,hn,λh' hs'=>⟨.ref _,H',mO I3 f3 hC I' hs',`a,q⟩⟩
variable{kx vx Z2 tg2 iter2:Expr}{ifs2:List Expr}{wi2:TI}{g2:TG}{tf2:TT}{te:TE}
theorem tT(hu:X.A.units+1<cLine)(S:CompScope X scope N cap)(hc:1 X.calm)(hi:PI X tg iter wi)
  (hg:∀s H C fp,PG (aQ X scope N s H C fp) tg g) (hf:∀s H C fp,uu (aQ X scope N s H C fp) ifs tf)
  (hi2:∀s H C fp,PI (aQ X scope N s H C fp) tg2 iter2 wi2) (hg2:∀s H C fp,PG (aQ X scope N s H C fp) tg2 g2) (hf2:∀s H C fp,uu (aQ X scope N s H C fp) ifs2 tf2) (he:∀s H C fp,PE (aQ X scope N s H C fp) Z2 te)
  (hs:∀x,foldedSetIterable iter X.env x=pure x:=by intro _;rfl) (hs2:∀env x,foldedSetIterable iter2 env x=pure x:=by intro _ _;rfl):PE X (.SetComp Z2 [⟨tg,iter,ifs,0⟩,⟨tg2,iter2,ifs2,0⟩] scope Z9) (qF X.w cap wi g tf<|Ap wi2 g2 tf2<|qz `o X.w X.K te):=
 vX S hc hi hg hf (body:=yf iter2 (.SetComp Z2 [⟨tg,iter,ifs,0⟩,⟨tg2,iter2,ifs2,0⟩] scope Z9) 1) (λs H C fp=>Aq (Y:=aQ X scope N s H C fp) hc `a (hi2 s H C fp) (hg2 s H C fp) (hf2 s H C fp) (body:=zK Z2) (Az (Y:=aQ X scope N s H C fp) `a hu<|he s H C fp) PN `a (λ_ _ _=>`a)<|hs2 _) (λ_ _ _=>by rw[tL];rfl) hs
end
end L2
namespace Wb
open PySem L2 Mi
section
variable{Er:Nat->Prop}{Z:Type}{prog:F6}{w:Fh}{K:EL}{W W' W0 Wb W1 W2:Wd}{M:St}{te:TE}
structure OwS2(prog:F6)(w:Fh)(K:EL)(W:Wd)(p:Addr)(ks:`A):Prop where
 g:W.G p=`c
 h:∃o ks0,0 (W.H p) (XO p o)/\SetH prog w K W.G o ks0/\ks0.Perm ks
theorem tU{G G':Hp}{o:Obj}{ks:`A}(h:SetH prog w K G o ks)(e:Same G G'):SetH prog w K G' o ks:=
 let ⟨es,ep,t,R,T,nd⟩:=h
 ⟨es,ep,t,R,⟨T.len,λi x hx=>let ⟨k,b,q1,q2,q3,q4⟩:=T.at_ i x hx;⟨k,b,q1,q2,GL e q3,q4⟩⟩,nd⟩
theorem OwS2.mono{p:Addr}{ks:`A}(o:OwS2 prog w K W p ks)(e:Ext W W'):OwS2 prog w K W' p ks:=by
 obtain⟨x,k0,a,b,c⟩:=o.h;exact⟨by rw[e.k p (by rw[a];exact λz=>nomatch z)];exact o.g,x,k0,e.h _ _ a,tU b e.g,c⟩
theorem AB{me:Res `l}{D:Addr}(eb:Ext Wb W)(hD:Wb.H D=`c)(h:4 te (isT2 K isI isI) me):BV Er (qz prog w K te) M Wb W (OwS2 prog w K) D (λks=>me.bind λy=>tM ks y):=λW1 ks N e1 o k=>h W1 e1 _ (5 k λy ky v W2 e2 hv=>by
  obtain⟨h3,h4⟩:=ba ky;have o2:=o.mono e2;obtain⟨ob,ks0,q1,q2,q3⟩:=o2.h;obtain⟨p,x1,x2,rfl,t1,r1,r2⟩:=hv;cases r1;cases r2;refine⟨W2.G,ob,ks0,p,y,W2.ok,q1,q2,by rw[q3.length_eq];exact h3,rfl,t1,λhm=>?_,λhm o' ks' s' p'=>?_⟩
  ·rw[Z0 (q3.mem_iff.mp hm)]at h4;exact h4 W2 e2.g ((eb.trans e1).trans e2) o2
  ·rw[Z1 (λz=>hm<|q3.mem_iff.mpr z)]at h4;exact h4 (W2.mut D (XO D o') o2.g) e2.g (((eb.trans e1).trans e2).mut hD o2.g) ⟨o2.g,o',ks',aG,s',p'.trans<|.cons _ q3⟩)
theorem vY{R:`k}{cap:List `S}{wi:TI}{g:TG}{tf:TT}{t:TB}{mi:11 Z}{f:Z->`A->Res `A}(hi:IV Er wi M W R mi)
  (hs:∀Wb D W2 a v s(ZZ:Hp->Prop),Same W.G W2.G->Ext W Wb->Wb.H D=none->Ext Wb W2->OwS2 prog w K W2 D s->R W2.G a v->(f a s).OkE Er (λs'=>∀W',Same W2.G W'.G->Ext Wb W'->OwS2 prog w K W' D s'->ZZ W'.H)->g v (bH cap M) W2.H λσ2 H2=>Keep (bH cap M) σ2/\tf σ2 H2 λb H3=>if 1 b then t D σ2 H3 ZZ else ZZ H3):
  EVo Er (ff (vW prog w K)<|ax (qF w cap wi g tf t) bc) M W (isT2 K isI isI) ((mi.bind λxs=>bO f xs []).bind λks=>vE ks):=λW1 e1 Q k=>by
 refine hi W1 e1 _ (5 (EE k) λxs kx J W2 e2 hy D hD=>?_);refine nU (W:=W2) (W1:=W2.mut D (XO D<|set0 w) (W2.gnone hD)) (Wb:=W2) (O:=OwS2 prog w K) (s0:=[]) hy (.inr `q) (.own _ hD) ⟨W2.gnone hD,set0 w,[],aG,yx ..,`q⟩ (λW3 a v s ZZ e3 eb3 o3 r k3=>hs W2 D W3 a v s ZZ ((`D).g.trans e3) `D hD eb3 o3 r k3) (λ_ _ _ e o=>o.mono e) ?_;exact kx.imp λks kk W' z1 z2 z3=>by
  obtain⟨h3,h4⟩:=ba kk;obtain⟨o,ks0,q1,q2,q3⟩:=z3.h;refine⟨W'.G,D,o,ks0,rfl,W'.ok,q1,q2,by rw[q3.length_eq];exact h3,λq us ks1 hq p1 p2 l1 at_=>?_⟩;have e:ks1=eU ks:=jd (p1.trans q3) (p2.imp λ{a b}h=>by rw[jr]at h;rw[jk];omega);rw[<-e]at h4;exact l8 (W2:=W') (vs:=us) ⟨l1,λi v m e1 e2=>by
   obtain⟨b,rfl,hb⟩:=at_ i v m e1 e2;exact⟨b,_,_,`a,hb,`a,`a⟩⟩ (e2.trans z2) h4 q hq
end
end Wb
namespace L2
open PySem PySem.Spec PyProof.Rows Wb
def BY:R2:=λx y H Q=>∃p q xs,x=`E/\y=.ref q/\0 (H p) (.lst xs)/\0 (H q) (.lst [])/\Q (.bl xs.isEmpty) H
theorem o6{X:Cx}(hu:X.A.units<cLine):OpR X (compareOp .Eq) BY:=by
 intro Z_ s M H x y v u Q I rx ry h;obtain⟨p,q,xs,rfl,rfl,h1,h2,hq⟩:=h;cases rx;cases ry;obtain⟨i1,r1,t1,z1⟩:=I.list (GD (K:=X.K) h1);obtain⟨i2,r2,t2,z2⟩:=I.list (GD (K:=X.K) h2);have l1:=r1.length;have l2:=r2.length;have key:SeqAt.RcAt X.A s `E (.ref q) xs.isEmpty:=by
  cases xs with
  |nil=>
   have:=PK (A:=X.A) (s:=s) (e:=λ_=>true) t1.isList t2.isList (by rw[EW,EW,<-l1,<-l2]) hu (λj h1' h2'=>by
    have:j<i1.length:=by simpa using h1'
    rw[<-l1]at this;exact absurd this (Lx _))
   have e0:i1.toArray.size=0:=by rw[EW,<-l1];rfl
   rw[e0]at this;exact this
  |cons a r=>exact Oz t1.isList t2.isList (by simp at l1 l2 ⊢;omega) hu
 exact key _ _ _ _ ⟨.bl _,H,I,`a,hq⟩
end L2
namespace Wb
open PySem L2 Mi
section
variable{Er:Nat->Prop}{Z:Type}{W:Wd}{M:St}{ta:TE}
theorem o7{R:`k}{ma:11 Z}(ha:EV Er ta M W (pk R) ma):4 (dO BY ta<|cM bc) isB (36<|.ok a.isEmpty):=41 W1 e1 _ (40 k<|by
  obtain⟨p,vs,rfl,h1,h2⟩:=hx;refine⟨`M,λq hq=>⟨p,q,vs,`a,`a,?_,aG,?_⟩⟩;·rw[aJ (λz=>by rw[z]at h1;rw[hq]at h1;cases h1)];exact h1
  ·have:vs.isEmpty=a.isEmpty:=by
    have:=h2.1;cases vs<;>cases a<;>simp at this ⊢
   rw[this];exact ka (.bl a.isEmpty) (W2.mut q (.lst [])<|W2.gnone hq) (e2.trans<|.own _ hq) `a)
end
end Wb
namespace Mi
def iW{Z:Type}(kvs:7 `l Z)(k:`l)(a:Z):Res (7 `l Z):=eR (kvs.length<1000) (jj kvs k a)
def vZ(ks:`A):Res `A:=eR (ks.length<=63/\ks.Nodup) (eU ks)
end Mi
namespace Wb
open PySem PySem.W PySem.Calls PyProof.Rows
def mS(d:Addr)(n ep i:Nat):Obj:={cls:=.type "dict_keyiterator",dict:=none,data:=.fields #[.ref d,.int i 0,.int n 0,.int ep 0],slots:= #[]}
section
variable{prog:F6}{w:Fh}{A:FR}{E:8 EM EN}{s:EN}{d it:Addr}{o:Obj}{es:Array HI}{ep:Nat}
theorem mT{Q:8 EM EN}(hd:(d==sysModules)=`g)(ho:23 d o)(hx:o.ExactDict)(hdat:o.data=.dict es ep)(hQ:Q (`X) {s with heap:=s.heap.push (mS d es.size ep 0)}):21 prog w A (pyIter<|.ref d) Q E:=by
 have hT:s.TypeIs (.ref d) "dict":=⟨o,ho,hx.1⟩
 refine IS hT N7 (Fu N7 hT F.entry_dict_iter ?_<|F.args_dict_iter_1 _);unfold HG.«dict.__iter__»;refine EF ?_;unfold O0;refine EF (wpAny_notOrdered_dict hT ?_);show wpAny _ _ (pure<|G8 d) _ _ s;refine `y;show wpAny _ _ (LG d>>=_) _ _ s;unfold LG;rw[Z1 (by rw[hd];exact F8)];refine EF `y;refine EF (Jz ho hdat ?_);refine EF (Ly ho hdat ?_);refine EF (Gg<|EK ⟨_,`a,"dict_keyiterator",_,9 (ES _ `a) `a,Gf.lookup,?_⟩);exact hQ
theorem mU{i:Nat}{Q:8 `Q EN}(hit:23 it (mS d es.size ep i))(ho:23 d o)(hdat:o.data=.dict es ep)(hi:i<es.size)
  (hQ:∀h',h'.get? it=some (mS d es.size ep<|i+1)->Fg it s.heap h'->Q (some es[i].key) {s with heap:=h'}):21 prog w A (pyNext<|.ref it) Q E:=by
 have hT:s.TypeIs (.ref it) "dict_keyiterator":=9 hit `a
 unfold pyNext;refine EF (HZ<|FU (name:=EO "__next__") hT Gf<|Fu Gf hT JS ?_<|JI _)
 refine EF `y;refine EF ?_;refine EF ?_
 first|refine EF (Hv hT `y)|refine EF (I0 hT `y)
 refine EF (Kp hit `a ?_);have hown:K4 "dict_keyiterator"=`g:=`M
 simp only[hown,Fv,if_false];show wpAny _ _ (if 1 (G8 d==FZ) then _ else _) _ _ s;rw[Z1 (show ¬(1<|G8 d==FZ)from F8)];refine EF `y;refine EF (Jz ho hdat ?_);rw[Z1 `f];refine EF `y;refine EF (Ly ho hdat ?_);rw[Z1 `f];refine `y;simp only[show ¬((i:Int)<0)from by omega,if_false,Gv,Fz hi];refine EF ?_
 first|refine EF (Hv hT `y)|refine EF (I0 hT `y)
 refine EF (LH hT ?_);show wpAny _ _ (setField (.ref it) 1 (rawInt<|(i:Int)+1)>>=_) _ _ s;refine EF (Ih hit `a `f ?_);have hit':=GY (L0 (·.setIfInBounds 1 (rawInt<|(i:Int)+1))) hit `a;refine EF (FY ?_);refine EF (LH (s:={s with heap:=s.heap.update it (L0 (·.setIfInBounds 1 (rawInt<|(i:Int)+1)))}) (9 hit' `a) ?_);show wpAny _ _ (pure es[i].key) _ _ _;exact EK (EK ⟨_,rfl,EK<|hQ _ (hit'.trans `a)<|Gk ..⟩)
theorem pJ{Q:8 `Q EN}(hh:A.handled=`c)(hit:23 it (mS d es.size ep es.size))(ho:23 d o)(hdat:o.data=.dict es ep)
  (hQ:∀h',IX it s.heap h'->Q none {s with heap:=h'}):21 prog w A (pyNext<|.ref it) Q E:=by
 have hT:s.TypeIs (.ref it) "dict_keyiterator":=9 hit `a
 unfold pyNext;refine EF (HZ<|FU (name:=EO "__next__") hT Gf<|Fu Gf hT JS ?_<|JI _)
 refine EF `y;refine EF ?_;refine EF ?_
 first|refine EF (Hv hT `y)|refine EF (I0 hT `y)
 refine EF (Kp hit `a ?_);have hown:K4 "dict_keyiterator"=`g:=`M
 simp only[hown,Fv,if_false];show wpAny _ _ (if 1 (G8 d==FZ) then _ else _) _ _ s;rw[Z1 (show ¬(1<|G8 d==FZ)from F8)];refine EF `y;refine EF (Jz ho hdat ?_);rw[Z1 `f];refine EF `y;refine EF (Ly ho hdat ?_);rw[Z1 `f];refine `y;simp only[show ¬((es.size:Int)<0)from by omega,if_false,Gv,Iz<|EX es.size];refine EF ?_
 first|refine EF (Hv hT `y)|refine EF (I0 hT `y)
 show wpAny _ _ (setField (.ref it) 0 .none>>=_) _ _ s;refine EF (Ih hit `a `f ?_);show wpAny _ _ (newExc (.type "StopIteration") []>>=_) _ _ _;refine EF ?_;simp only[newExc,newTuple];refine EF (Gg ?_ (by size_fits));refine EF (m:=firstArgMember _ _) (KJ (a:=FZ) (by first|rfl|(simp only[firstArgMember];rfl)) ?_);refine Gg ?_ (by size_fits);simp only[raiseNew];refine EF (Mb ?_);rw[show A.in1.handled=`c from hh];refine EF (EK<|Nd ?_);refine EF (Ho (T:="StopIteration") (b:=true) (9 (ES _ `a) `a) Ik ?_);exact EK (hQ _<|((Gk ..).extBut.push _).push _)
theorem Walks.dictR(hh:A.handled=`c)(I d:Addr)(hne:d≠I)(hx:o.ExactDict)(hdat:o.data=.dict es ep):
  Walks prog w A I [I,d] [I] es.size (λi v=>∃e,0 es[i]? e/\v=e.key) (λi h=>34 I (mS d es.size ep i)/\34 d o) where
 sub:=λb hb=>by simp at hb;simp[hb]
 frame:=λ_ _ _ st hk=>⟨hk I `f _ st.1,hk d `f _ st.2⟩
 item:=λi s Q E hi st hQ=>by
  refine mU st.1 st.2 hdat hi λh' hI' hs'=>?_;exact hQ _ h' s.toks (9 (Fz hi) `a) ⟨hI',hs'.extBut d _ hne st.2⟩ λb o hb e=>hs'.extBut b o (λh=>hb<|by simp[h]) e
 done:=λs Q E st hQ=>pJ hh st.1 st.2 hdat λh' he'=>hQ h' s.toks λb o hb e=>he' b o (λh=>hb<|by simp[h]) e
 self:=λi s Q E st hQ=>by
  have hT:s.TypeIs (.ref I) "dict_keyiterator":=9 st.1 `a
  refine IS hT HE (Fu HE hT JT ?_<|JJ _);show wpAny _ _ (ret<|.ref I) _ _ s;exact EK ⟨_,`a,"dict_keyiterator",_,hT,Gf.lookup,hQ⟩
theorem w4(lo:(d==sysModules)=`g)(hx:o.ExactDict)(hdat:o.data=.dict es ep):KdlSrc prog w "dict" d d es.size (λi v=>∃e,0 es[i]? e/\v=e.key) (λh=>34 d o) where
 type:=λ_ hm=>⟨o,hm,hx.1⟩
 there:=λ_ hm=>⟨EU hm,EU hm⟩
 keep:=λ_ _ hm hk=>hk d `G o hm
 notList:=`M
 notTuple:=`M
 hint:=λ_ _ _ _ hm hq=>kdl_hint_dict ⟨o,hm,hx.1⟩ hq
 iter:=λ_ _ hh hm=>⟨_,_,λ_ _ hq=>mT lo hm hx hdat hq,Walks.dictR hh _ d (Fd<|EU hm) hx hdat,⟨ES _ `a,EI _ hm⟩⟩
end
end Wb
namespace L2
open PySem PySem.Spec PyProof.Rows Wb
def KP(K:EL)(G:Hp):8 (7 `l V) (7 (List Key)<|Addr×EM):=Paired λ(p:(Int×Int)×V)(q:List Key×Addr×EM)=>gE p.1=q.1/\SqT K G q.2.1 [.int p.1.1,.int p.1.2]/\RelV p.2 q.2.2
section
variable{K:EL}{G G':Hp}{kvs:7 `l V}{xs:7 (List Key) (Addr×EM)}
theorem KP.val(r:KP K G kvs xs)(k:`l):RelO (j5 kvs k) ((atKey xs<|gE k).map (·.2)):=by
 unfold KP at r
 induction r with
 |nil=>exact Iu
 | @cons p q ps qs h t ih=>
  obtain⟨h1,_,h2⟩:=h;by_cases e:p.1=k
  ·have e':q.1=gE k:=by rw[<-h1,e]
   have b:0 (atKey (q::qs)<|gE k) q.2:=by simp[atKey,H0,e']
   rw[i4 e,b];exact h2
  ·have e':¬q.1=gE k:=λz=>e (iL<|h1.trans z);have b:atKey (q::qs) (gE k)=atKey qs (gE k):=by simp[atKey,H0,e']
   rw[i5 e,b];exact ih
theorem KP.repl(r:KP K G kvs xs)(k:`l){y:V}{u:EM}(ry:RelV y u):KP K G (kvs.map λkv=>if kv.1=k then(kv.1,y)else kv) (xs.map<|P8 (gE k) u):=by
 unfold KP at r ⊢
 induction r with
 |nil=>exact .nil
 | @cons p q ps qs h t ih=>
  rw[FQ,FQ];refine .cons ?_ ih;obtain⟨h1,h2,h3⟩:=h;unfold P8;by_cases e:p.1=k;·rw[Z0 e,Z0 (by rw[<-h1,e])];exact⟨h1,h2,ry⟩
  ·rw[Z1 e,Z1 λz=>e (iL<|h1.trans z)];exact⟨h1,h2,h3⟩
theorem KP.put(r:KP K G kvs xs)(k:`l){b:Addr}{y:V}{u:EM}(hb:44 K G b)(ry:RelV y u):KP K G (qm kvs k y) (storedH xs (gE k) b u):=by
 have e:(kvs.any λkv=>decide<|kv.1=k)=(atKey xs<|gE k).isSome:=by rw[oP,(r.val k).isSome_eq,Option.isSome_map]
 unfold qm storedH;rw[e];by_cases q:1 (atKey xs<|gE k).isSome;·rw[Z0 q,Z0 q];exact r.repl k ry
 ·rw[Z1 q,Z1 q];exact Paired.snoc r ⟨`a,hb,ry⟩
theorem KP.same(r:KP K G kvs xs)(e:Same G G'):KP K G' kvs xs:=Paired.mapP r λ_ _ z=>⟨z.1,GL e z.2.1,z.2.2⟩
end
def DictP(prog:F6)(w:Fh)(K:EL)(G:Hp)(o:Obj)(kvs:7 `l V):Prop:=∃es ep xs,o.ExactDict/\o.data=.dict es ep/\es.toList=xs.map (entryOfKey<|tupleKind<|mixKind prog w)/\(xs.map (·.1)).Nodup/\KP K G kvs xs
def PDa(prog:F6)(w:Fh)(K:EL)(G H:Hp)(a:Addr)(kvs:7 `l V):Prop:=∃o,Same G H/\0 (H a) (XO a o)/\(a==sysModules)=`g/\DictP prog w K G o kvs/\kvs.length<=1000
def ip:Obj:={cls:=.type "dict",dict:=none,data:=.dict #[],slots:= #[]}
def w5:TE:=λ_ H Q=>∀p,H p=`c->(p==sysModules)=`g->Q `E (cT H p<|XO p ip)
def w6(prog:F6)(w:Fh)(K:EL)(td ty tv:TE):TS:=λD M H=>tv M H λv H1=>td M H1 λx H2=>ty M H2 λy H3=>∃G a kvs b k,x=.ref a/\PDa prog w K G H3 a kvs/\kvs.length<1000/\y=.ref b/\44 K G b/\∀o',DictP prog w K G o' (qm kvs k v)->D.nx M (cT H3 a<|XO a o')
def zL(prog:F6)(w:Fh)(K:EL):`u->Hp->VK->Prop:=λxs H Q=>∃G a kvs,xs=[.ref a]/\PDa prog w K G H a kvs/\Q (.int kvs.length) H
def w8(prog:F6)(w:Fh)(K:EL):`u->Hp->VK->Prop:=λxs H Q=>∃G a kvs,xs=[.ref a]/\PDa prog w K G H a kvs/\∀q us,H q=`c->us.length=kvs.length->(∀(i:Nat)(v:V)(p:(Int×Int)×V),0 us[i]? v->0 kvs[i]? p->∃b,v=.ref b/\SqT K G b [.int p.1.1,.int p.1.2])->Q (.ref q) (cT H q<|.lst us)
def w9(K:EL):`u->Hp->VK->Prop:=λxs H Q=>∃(G:Hp)(p:Addr)(us:List V)(ks:List (Int×Int)),xs=[.ref p]/\Same G H/\SqL K H p us/\us.length=ks.length/\(∀(i:Nat)(v:V)(k:Int×Int),0 us[i]? v->0 ks[i]? k->∃b,v=.ref b/\44 K G b)/\ks.Nodup/\ks.length<=63/\∀(q:Addr)(us':List V)(ks':List (Int×Int)),H q=`c->ks'.Perm ks->(ks'.Pairwise λa b=>1<|nY a b)->us'.length=ks'.length->(∀(i:Nat)(v:V)(k:Int×Int),0 us'[i]? v->0 ks'[i]? k->∃b,v=.ref b/\44 K G b)->Q (.ref q) (cT H q<|.lst us')
section
variable{X:Cx}{K:EL}{Z9 pos':Pos}{o i value:Expr}{td ty tv:TE}{Z_:7 Addr Obj}{M:St}{H:Hp}{s:EN}
theorem pK(prog:F6)(w:Fh)(K:EL)(G:Hp):DictP prog w K G ip []:=⟨#[],0,[],⟨`a,`a,`a⟩,`a,`a,HM,.nil⟩
theorem wa:PE X (.Dict [] [] Z9) w5:=λZ_ s M H Q I h=>wpAny_Dict_empty ⟨`X,_,I.laid (a:=s.heap.objs.size) (t':=s.toks) (λ_ _ q=>EI _ q) (EX _)<|OD (o:=ip)<|ES _ `a,`a,h _ (I.hok.fresh<|EX _)<|beq_eq_false_iff_ne.mpr<|Hx<|Fd I.big⟩
theorem PDa.h{G:Hp}{a:Addr}{kvs:7 `l V}(I:14 X M H s)(g:PDa `o X.w X.K G H a kvs):∃xs,KP X.K G kvs xs/\s.heap.DictOfH (tupleKind<|mixKind `o X.w) a xs/\`i<=1000:=by
 obtain⟨o,eG,ha,lo,⟨es,ep,xs,ex,dat,he,nd,r⟩,hl⟩:=g;have hl2:kvs.length=`i:=Paired.length r;refine⟨xs,r,⟨o,es,ep,(I.hok a _ ha).1,ex,dat,he,λx hx=>?_,nd⟩,`b⟩;obtain⟨j,hj⟩:=IH.mp hx;obtain⟨p,hp,h1,h2,h3⟩:=fK r hj;rw[<-h1];exact eW I (GL eG h2)
theorem wb(hu:X.A.units+1<cLine)(ho:PE X o td)(hi:PE X i ty)(hv:PE X value tv)(hs:swapsWith value (some<|.Subscript o i pos') Z9.line X.env=pure `g):
  PS X (.Assign [.Subscript o i pos'] value Z9) (w6 `o X.w X.K td ty tv):=by
 intro Z_ s M H D I h;refine wpAny_Assign_Subscript (cx (hv Z_ s M H _ I h) λr s1⟨v,H1,I1,rv,q1⟩=>cx (ho Z_ s1 M H1 _ I1 q1) λu s2⟨x,H2,I2,rx,q2⟩=>cx (hi Z_ s2 M H2 _ I2 q2) λiv s3⟨y,H3,I3,ry,G,a,kvs,b,k,ex,g,hl,ey,hb,q3⟩=>?_) hs;subst ex ey;obtain rfl:u=G8 a:=rx;obtain rfl:iv=G8 b:=ry;obtain⟨xs,rel,dd,hx⟩:=g.h I3;obtain⟨ob,eG,ha,lo,_,_⟩:=g;refine wpAny_setItem_heap (hsz:=by rw[FE];omega) (Ku hu) (eW I3<|GL eG hb) dd λh' dd' hs=>?_;obtain⟨o',es,ep,hq,h2,h3,h4,_,h5⟩:=dd';exact⟨M,_,rn I3 (by rw[ha];exact Iu) hs ⟨o',hq⟩<|OD hq,q3 o' ⟨es,ep,_,h2,h3,h4,h5,rel.put k hb rv⟩⟩
theorem tV:ee X (.builtin "len") (zL `o X.w X.K):=by
 intro Z_ s M H xs us Q I r h;obtain⟨G,a,kvs,rfl,g,q⟩:=h;obtain⟨u,rfl,rx⟩:=ft r;cases rx;obtain⟨ys,rel,⟨od,es,ep,hod,hx,hdat,he,hk,nd⟩,hl⟩:=g.h I;obtain⟨ob,eG,ha,lo,_,_⟩:=g;have hT:s.TypeIs (.ref a) "dict":=⟨od,hod,hx.1⟩
 have hsz:es.size=kvs.length:=by
  rw[<-FL,he,EY];exact(Paired.length rel).symm
 have hsz2:es.size<=1000:=by rw[<-FL,he,EY];exact hl
 refine J7 kind_len plain_len entry_len (args_len1 _) ?_;unfold HG.«len»;refine EF (m:=oneArg "len" _) `y;refine EF (m:=callSpecial? (.ref a) (EO "__len__")) (FU (name:=EO "__len__") hT LI<|Fu LI hT PySem.F.entry_dict_len ?_<|PySem.F.args_dict_len_1 _)
 show wpAny _ _ (dictSize a>>=_) _ _ s;unfold dictSize;refine EF (EF<|Jz hod hdat `y);show wpAny _ _ (O1 a>>=_) _ _ s;refine EF (wpAny_pendingCount_other lo ?_);rw[show((es.size:Int)+((0:Nat):Int))=(es.size:Int) by omega];unfold retInt;refine EF (wpAny_mkInt<|EK<|9 `a ?_);refine EF (FY `y);refine EF (Ip ?_);show wpAny _ _ (if((es.size:Nat):Int)<0 then _ else _) _ _ _;rw[Z1 `b];show wpAny _ _ (if((es.size:Nat):Int)≥2^63 then _ else _) _ _ _;rw[Z1 `b];rw[hsz];exact EF (wpAny_mkInt<|EK<|9 `a ⟨.int kvs.length,H,I.tok _,⟨_,`a⟩,q⟩)
theorem qG(hc:1 X.calm):ee X (.type "list") (w8 `o X.w X.K):=by
 intro Z_ s M H xs us Q I r h;obtain⟨G,a,kvs,rfl,g,q⟩:=h;obtain⟨u,rfl,rx⟩:=ft r;cases rx;obtain⟨ob,eG,ha,lo,⟨es,ep,ys,hx,hdat,he,nd,rel⟩,hl⟩:=g;have hod:23 a ob:=(I.hok a _ ha).1;have hsz:es.size=kvs.length:=by
  rw[<-FL,he,EY];exact(Paired.length rel).symm
 have src:∀(i:Nat)(e:HI)(p:(Int×Int)×V),0 es[i]? e->0 kvs[i]? p->∃b,e.key=.ref b/\SqT X.K G b [.int p.1.1,.int p.1.2]:=λi e p h1 h2=>by
  rw[<-FG,he,ET]at h1;obtain⟨y,h3,rfl⟩:=Fy.mp h1;obtain⟨p',h4,h5,h6,h7⟩:=fK rel h3;rw[h2]at h4;cases h4;exact⟨y.2.1,`a,h6⟩
 refine PySem.W.kdl_call (w4 lo hx hdat) (I.ok.hd hc) hod (by rw[FE];omega) λh' tk Z8 c' hk e hacc=>?_;refine⟨.ref _,_,I.laid (t':=tk) hk (EX _) (show ObjOk `o X.w _ h' _ (.lst<|Z8.toList.map AA)from⟨by rw[EY,FL,hacc.1,FE];omega,Z8.toList,c',?_,by rw[LX];exact e⟩),`a,q _ _ (I.hok.fresh<|EX _) (by rw[EY,FL,hacc.1,hsz]) λi v p h1 h2=>?_⟩
 ·refine i9 _ _ (by rw[EY]) λj x u hx hu=>?_;rw[ET,hu]at hx;cases hx;obtain⟨e,h1,rfl⟩:=hacc.2 j u (by rw[<-FG];exact hu);have hj:j<kvs.length:=by have:=(Hi.mp h1).1;omega
  obtain⟨b,h3,_⟩:=src j e _ h1 (EH hj);rw[h3];rfl
 ·rw[ET]at h1;obtain⟨u,hu,rfl⟩:=Fy.mp h1;obtain⟨e,h3,rfl⟩:=hacc.2 i u (by rw[<-FG];exact hu);obtain⟨b,h4,h5⟩:=src i e p h3 h2;exact⟨b,by rw[h4];rfl,h5⟩
theorem qH(h:X.K=K):ee X (.builtin "sorted") (w9 K):=by
 subst h;intro Z_ s M H xs us Q I r h;obtain⟨G,p,vs,ks,rfl,eG,hq,hl,rel,nd,hz,q⟩:=h;obtain⟨u,rfl,rx⟩:=ft r;cases rx;obtain⟨its,r',pl,_⟩:=I.list hq;have l1:=r'.length;have il:its.length=ks.length:=`b
 have at_:∀(j:Nat)(u:EM)(k:Int×Int),0 its[j]? u->0 ks[j]? k->∃b,u=.ref b/\44 X.K G b:=λj u k h1 h2=>by
  obtain⟨v,h3,h4⟩:=fK r' h1;obtain⟨b,rfl,h5⟩:=rel j v k h3 h2;exact⟨b,h4,h5⟩
 have km:(its.map λv=>eD X.K G (0,v))=ks:=by
  apply GX;intro j;rw[ET];by_cases z:j<its.length
  ·have z2:j<ks.length:=`b
   obtain⟨b,h1,h2⟩:=at_ j its[j] ks[j] (EH z) (EH z2);rw[EH z,EH z2];exact congrArg some (kI (e:=(0,its[j])) eG I h2 h1)
  ·rw[FW `b,FW `b];rfl
 have src:∀v∈its,∃b,v=.ref b/\SqT X.K G b [.int (eD X.K G (0,v)).1,.int (eD X.K G (0,v)).2]:=λv hv=>by
  obtain⟨j,hj,e⟩:=Gh.mp hv;have z2:j<ks.length:=`b
  obtain⟨b,h1,h2⟩:=at_ j v ks[j] (by rw[EH hj,e]) (EH z2);exact⟨b,h1,by rw[kI (e:=(0,v)) eG I h2 h1];exact h2⟩
 refine J7 kind_sorted plain_sorted entry_sorted (args_sorted1 _) ?_;unfold HG.«sorted»;refine EF (m:=checkCount "sorted" 1 1 _) `y;refine EF (collect_list pl.isList ?_ (by rw[FE];omega));refine EF (Mf ?_ (by rw[FE];omega));generalize hh1:(s.heap.push<|seqObj "list" #[] 0).update s.heap.objs.size (Hn (· ++its.toArray))=h1;have k1:∀b o,23 b o->0 (h1.get? b) o:=λb o q=>by
  have hlt:b<`P:=EU q;rw[<-hh1,Heap.get?_update_ne _ _ _ _ (Fd hlt),KN _ _ _ (Fd hlt)];exact q
 have I':=I.kept (t':=s.toks) k1;have hoL:0 ((h1.push<|seqObj "list" its.toArray 0).get? h1.objs.size) (seqObj "list" its.toArray 0):=ES _ `a;refine EF (FY<|Fu NJ (9 hoL `a) Nq (pI (key:=λv=>eD X.K G (0,v)) hoL (λv hv=>?_) (by rw[km];exact nd) (by rw[il];omega) λout op' pw=>9 `a ?_)<|NK _)
 ·obtain⟨b,rfl,h3⟩:=src v hv;obtain⟨jts,rr,⟨ob,g1,g2,n,g3⟩,_⟩:=I'.tuple (GL eG h3);obtain⟨u1,u2,e1,⟨t1,e2⟩,t2,e3⟩:∃u1 u2,jts=[u1,u2]/\RelV (.int (eD X.K G (0,.ref b)).1) u1/\RelV (.int (eD X.K G (0,.ref b)).2) u2:=by
   cases rr with
   |cons a b=>cases b with
    |cons c d=>cases d with
     |nil=>exact⟨_,_,`a,a,c⟩
  subst e1;rw[e2,e3]at g3;exact⟨b,ob,t1,t2,n,`a,EI _ g1,g2,g3⟩
 obtain⟨e,he⟩:=Oy (h:=h1.push (seqObj "list" its.toArray 0)) (a:=h1.objs.size) (vs:=its) (out:=out.toArray) (n:=0) hoL;have at2:∀v∈out,∃b,v=.ref b/\SqT X.K G b [.int (eD X.K G (0,v)).1,.int (eD X.K G (0,v)).2]:=λv hv=>src v (op'.mem_iff.mp hv);have pkz:(out.map λv=>eD X.K G (0,v)).Perm ks:=by
  have:=op'.map λv=>eD X.K G (0,v);rw[km]at this;exact this
 have ol:out.length=ks.length:=by rw[op'.length_eq];exact il
 refine EK ⟨_,`a,.ref h1.objs.size,_,I'.laid (t':=s.toks) (λb o z=>?_) (EX _) (show ObjOk `o X.w _ _ _ (.lst<|out.map AA)from⟨by rw[EY,FE];omega,out,e,?_,he⟩),`a,q _ _ (out.map λv=>eD X.K G (0,v)) (I'.hok.fresh<|EX _) pkz pw (by rw[EY,EY]) λi v k h1 h2=>?_⟩
 ·show 0 ((sortedHeap _ _ _ _).get? b) o;rw[NL (Fd<|EU z) (by rw[NI];exact HA (EU z))];exact EI _ z
 ·refine i9 _ _ (by rw[EY]) λj x u hx hu=>?_;rw[ET,hu]at hx;cases hx;obtain⟨b,rfl,_⟩:=at2 u (F3 hu);rfl
 ·rw[ET]at h1 h2;obtain⟨u,hu,rfl⟩:=Fy.mp h1;rw[hu]at h2;cases h2;obtain⟨b,rfl,h4⟩:=at2 u (F3 hu);exact⟨b,`a,h4⟩
end
end L2
namespace Wb
open PySem L2 Mi
section
variable{Er:Nat->Prop}{Z:Type}{prog:F6}{w:Fh}{K:EL}{W W' W0 W1 W2:Wd}{M:St}{te ti ta:TE}{R:`k}{i:Nat}{p:Addr}{D:Ends}{r:TS}
structure OwP(prog:F6)(w:Fh)(K:EL)(R:`k)(W:Wd)(p:Addr)(kvs:7 `l Z):Prop where
 g:W.G p=`c
 h:∃o vs,0 (W.H p) (XO p o)/\(p==sysModules)=`g/\DictP prog w K W.G o vs/\`O<=1000/\`O=kvs.length/\∀(i:Nat)(q:(Int×Int)×V)(x:(Int×Int)×Z),0 vs[i]? q->0 kvs[i]? x->q.1=x.1/\R W.G x.2 q.2
theorem dictP_same{G G':Hp}{o:Obj}{kvs:7 `l V}(h:DictP prog w K G o kvs)(e:Same G G'):DictP prog w K G' o kvs:=
 let ⟨es,ep,xs,a,b,c,d,r⟩:=h
 ⟨es,ep,xs,a,b,c,d,r.same e⟩
theorem OwP.mono[Mono R]{kvs:7 `l Z}(o:OwP prog w K R W p kvs)(e:Ext W W'):OwP prog w K R W' p kvs:=by
 obtain⟨x,vs,a,lo,b,hl,c,d⟩:=o.h;exact⟨by rw[e.k p (by rw[a];exact λz=>nomatch z)];exact o.g,x,vs,e.h _ _ a,lo,dictP_same b e.g,hl,c,λi q y h1 h2=>⟨(d i q y h1 h2).1,ED e.g (d i q y h1 h2).2⟩⟩
theorem OwP.keep[Mono R]{q:Addr}{kvs:7 `l Z}(o:OwP prog w K R W q kvs)(hH:W'.H q=W.H q)(hs:Same W.G W'.G)(hg:W'.G q=W.G q):OwP prog w K R W' q kvs:=by
 obtain⟨x,vs,a,lo,b,hl,c,d⟩:=o.h;exact⟨by rw[hg];exact o.g,x,vs,by rw[hH];exact a,lo,dictP_same b hs,hl,c,λi q y h1 h2=>⟨(d i q y h1 h2).1,ED hs (d i q y h1 h2).2⟩⟩
theorem Mu.owP[Mono R]{q:Addr}{kvs:7 `l Z}(m:Mu W W' p)(hq:q≠p)(o:OwP prog w K R W q kvs):OwP prog w K R W' q kvs:=by
 obtain⟨x,vs,a,_⟩:=o.h;obtain⟨h1,h2⟩:=m.h q hq (by rw[a];exact λz=>nomatch z);exact o.keep h1 m.g h2
theorem pL{H:Hp}{vs:7 `l V}{xs:7 `l Z}(hl:`O=`i)(h:∀(i:Nat)(q:(Int×Int)×V)(x:(Int×Int)×Z),0 vs[i]? q->0 xs[i]? x->q.1=x.1/\R H x.2 q.2){k:`l}{a:Z}{v:V}(hv:R H a v):
  (qm vs k v).length=(jj xs k a).length/\∀(i:Nat)(q:(Int×Int)×V)(x:(Int×Int)×Z),0 (qm vs k v)[i]? q->0 (jj xs k a)[i]? x->q.1=x.1/\R H x.2 q.2:=by
 have key:∀(vs:List ((Int×Int)×V))(xs:List ((Int×Int)×Z)),`O=`i->(∀(i:Nat)(q:(Int×Int)×V)(x:(Int×Int)×Z),0 vs[i]? q->0 xs[i]? x->q.1=x.1/\R H x.2 q.2)->(vs.any λp=>decide<|p.1=k)=(xs.any λp=>decide<|p.1=k):=by
  intro vs
  induction vs with
  |nil=>intro xs hl _;cases xs with|nil=>rfl|cons _ _=>cases hl
  |cons q vs ih=>
   intro xs hl h;cases xs with
   |nil=>cases hl
   |cons x xs=>rw[J8,J8,ih xs (by simpa using hl) λi q x h1 h2=>h (i+1) q x h1 h2,(h 0 q x `a `a).1]
 unfold qm jj;rw[key vs xs hl h];by_cases z:1 (xs.any λp=>decide<|p.1=k)
 ·rw[Z0 z,Z0 z];refine⟨by rw[EY,EY];exact hl,λi q x h1 h2=>?_⟩;rw[ET]at h1 h2;obtain⟨q',h3,rfl⟩:=Fy.mp h1;obtain⟨x',h4,rfl⟩:=Fy.mp h2;have:=h i q' x' h3 h4;by_cases y:x'.1=k;·rw[Z0 y,Z0 (this.1.trans y)];exact⟨this.1,hv⟩
  ·rw[Z1 y,Z1 λe=>y (this.1.symm.trans e)];exact this
 ·rw[Z1 z,Z1 z];refine⟨by simp[hl],λi q x h1 h2=>?_⟩;by_cases y:i<`O
  ·rw[F7 y]at h1;rw[F7 `b]at h2;exact h i q x h1 h2
  ·rw[F9 `b]at h1;rw[F9 `b,<-hl]at h2;cases e:i-vs.length with
   |zero=>rw[e]at h1 h2;cases h1;cases h2;exact⟨`a,hv⟩
   |succ n=>rw[e]at h1;simp at h1
theorem pM{kvs:7 `l Z}{k:`l}{a:Z}:(jj kvs k a).length<=kvs.length+1:=by unfold jj;split<;>simp
def EVp(prog:F6)(w:Fh)(K:EL)(Er:Nat->Prop)(t:TE)(M:St)(W:Wd)(R:`k)(m:Res (7 `l Z)):Prop:=∀W1,Ext W W1->∀Q:VK,(m.OkE Er λxs=>∀p W2,Ext W1 W2->W1.H p=`c->OwP prog w K R W2 p xs->Q `E W2.H)->t M W1.H Q
theorem wc:EVp prog w K Er w5 M W R (.ok []):=λW1 e1 Q k p hp lo=>k p (W1.mut p (XO p ip)<|W1.gnone hp) (.own _ hp) hp ⟨W1.gnone hp,ip,[],aG,lo,pK ..,`M,rfl,λi q x h=>by simp at h⟩
theorem yy{kk k2 k3:8 St Hp}{k1:VK}{σ':Addr->St}{m:Res (7 `l Z)}(h:EVp prog w K Er te M W R m)(q:m.OkE Er λa=>∀p W',Ext W W'->W.H p=`c->OwP prog w K R W' p a->kk (σ' p) W'.H)(hσ:∀p,M.set i (27 p)=σ' p:=by intro _;rfl):cE te (bt i) ⟨kk,k1,k2,k3⟩ M W.H:=
 h W `q _ (q.imp λa k p W' e hp o=>by show kk (M.set i<|27 p) W'.H;rw[hσ];exact k p W' e hp o)
theorem OwP.pd[Mono R]{kvs:7 `l Z}(o:OwP prog w K R W p kvs):∃vs,PDa prog w K W.G W.H p vs/\`O=kvs.length/\∀(i:Nat)(q:(Int×Int)×V)(x:(Int×Int)×Z),0 vs[i]? q->0 kvs[i]? x->q.1=x.1/\R W.G x.2 q.2:=by
 obtain⟨x,vs,a,lo,b,hl,c,d⟩:=o.h;exact⟨vs,⟨x,W.ok,a,lo,b,hl⟩,c,d⟩
theorem wd[Mono R]{xs:7 `l Z}{m:Res Z}{mk:Res `l}(o:OwP prog w K R W p xs)(h:4 te R m)(hj:4 ti (isT2 K isI isI) mk)
  (q:(m.bind λa=>mk.bind λk=>iW xs k a).OkE Er λys=>∀W',Mu W W' p->OwP prog w K R W' p ys->D.nx M W'.H) (hi:0 M[i]? (27 p):=by rfl):w6 prog w K (bZ i) ti te D M W.H:=by
 refine h W `q _ (45 q ⟨`E,hi,hj W2 e2 _<|5 ka λk kk x W3 e3 hx=>?_⟩);obtain⟨h3,h4⟩:=ba kk;have e:=`L;have o':=o.mono e;obtain⟨ob,vs,o1,lo,o2,hl,o3,o4⟩:=o'.h;obtain⟨b,x1,x2,rfl,t1,r1,r2⟩:=hx;cases r1;cases r2;obtain⟨p1,p2⟩:=pL o3 o4 (k:=k) (ED (R:=R) e3.g hv);refine⟨W3.G,p,vs,b,k,`a,⟨ob,W3.ok,o1,lo,o2,hl⟩,`b,`a,t1,λo2' d'=>?_⟩;exact h4 (W3.mut p (XO p o2') o'.g) (.of e o'.g) ⟨o'.g,o2',_,aG,lo,d',by have:=pM (kvs:=xs) (k:=k) (a:=a);omega,p1,p2⟩
theorem yz[Mono R]{xs:7 `l Z}(o:OwP prog w K R W p xs)(hi:0 M[i]? (27 p):=by rfl):4 (ff (zL prog w K)<|ax (bZ i) bc) isI (.ok (xs.length:Int)):=λW1 e1 Q k=>by
 obtain⟨vs,g,hl,_⟩:=(o.mono e1).pd;exact⟨`E,hi,W1.G,p,vs,`a,g,by rw[hl];exact k _ W1 `q `a⟩
theorem we[Mono R]{xs:7 `l Z}(o:OwP prog w K R W p xs)(hi:0 M[i]? (27 p):=by rfl):EVo Er (ff (w8 prog w K)<|ax (bZ i) bc) M W (isT2 K isI isI) (.ok<|xs.map (·.1)):=λW1 e1 Q k=>by
 obtain⟨vs,g,hl,rel⟩:=(o.mono e1).pd;refine⟨`E,hi,W1.G,p,vs,`a,g,λq us hq l1 at_=>?_⟩;refine l8 (W2:=W1) (vs:=us) ⟨by rw[EY,l1,hl],λi v m e1 e2=>?_⟩ `q k q hq;rw[ET]at e2;obtain⟨x,h1,rfl⟩:=Fy.mp e2;have hv:i<`O:=by have:=(ER.mp h1).1;omega
 obtain⟨b,rfl,hb⟩:=at_ i v vs[i] e1 (EH hv);have:=(rel i vs[i] x (EH hv) h1).1;rw[this]at hb;exact⟨b,_,_,`a,hb,`a,`a⟩
theorem wg{ma:Res `A}(ha:EV Er ta M W (pk<|isT2 K isI isI) ma):EVo Er (ff (w9 K)<|ax ta bc) M W (isT2 K isI isI) (36<|vZ a):=41 W1 e1 _ (40 k<|by
  obtain⟨p,vs,rfl,h1,h2⟩:=hx;obtain⟨⟨h3,nd⟩,h4⟩:=ba ka;refine⟨W2.G,p,vs,a,`a,W2.ok,GD h1,h2.1,λi v k e1 e2=>?_,nd,h3,λq us' ks' hq p1 p2 l1 at_=>?_⟩
  ·obtain⟨b,x1,x2,rfl,t1,r1,r2⟩:=h2.2 i v k e1 e2;cases r1;cases r2;exact⟨b,`a,t1⟩
  ·have e:ks'=eU a:=jd p1 (p2.imp λ{a b} h=>by rw[jr]at h;rw[jk];omega);rw[<-e]at h4;exact l8 (W2:=W2) (vs:=us') ⟨l1,λi v m e1 e2=>by
    obtain⟨b,rfl,hb⟩:=at_ i v m e1 e2;exact⟨b,_,_,`a,hb,`a,`a⟩⟩ e2 h4 q hq)
end
section
variable{Er:Nat->Prop}{Z β γ:Type}{K:EL}{W W0:Wd}{M:St}{t ta tb te:TE}{cs:List TC}{D:Ends}{r:TS}{i k:Nat}{F:FS}
theorem AD{R:Rf Z}{c:TT}{mc:`x}{m n:Res Z}(hc:TV Er c M W mc)(h:EVt Er ta M W R m)(g:EVt Er tb M W R n):EVt Er (gR c ta tb) M W R (mc.bind λb=>if b then m else n):=λW1 e1 Q k=>hc W1 e1 _ (5 k λb kb W2 e2=>by
 cases b with
 |true=>exact h W2 `D _ (kb.imp λc kc v W3 F e3 hF hv=>kc v W3 F `L (λq hq=>none_of e2.h<|hF q hq) hv)
 |false=>exact g W2 `D _ (kb.imp λc kc v W3 F e3 hF hv=>kc v W3 F `L (λq hq=>none_of e2.h<|hF q hq) hv))
theorem wj{R:Rf Z}[FrT R]{m:Res Z}(h:EVt Er t M W R m):EVt Er (cM<|ax t bc) M W (oL R) (m.bind λa=>.ok [a]):=λW1 e1 Q k=>h W1 e1 _ (5 k λa ka v W2 F e2 hF hv=>⟨qr (n:=1) ⋯,λp hp=>by
  have hl:=Nb hv;have np:¬F p:=λz=>(hl p z).2 hp;refine ka _ (W2.mut p (.lst [v])<|W2.gnone hp) (λq=>q=p\/F q) (e2.trans<|.own _ hp) (λq hq=>hq.elim (λz=>by rw[z];exact none_of e2.h hp)<|hF q) ⟨p,[v],λj=>if j=0 then F else λ_=>False,rfl,W2.gnone hp,aG,⟨`a,λj x u a b=>?_,λj q hq=>?_,λj l q h1 h2=>?_⟩,λj=>?_,λq=>⟨?_,?_⟩⟩
  ·cases j with
   |zero=>cases a;cases b;exact OP hv (.own _ hp)
   |succ j=>cases a
  ·cases j with
   |zero=>exact Nat.zero_lt_one
   |succ j=>exact(show False from by simpa using hq).elim
  ·cases j<;>cases l<;>simp at h1 h2 ⊢
  ·cases j with
   |zero=>exact np
   |succ j=>simp
  ·rintro (z | z);·exact .inl z
   ·exact .inr ⟨0,z⟩
  ·rintro (z | ⟨j,z⟩);·exact .inl z
   ·cases j with
    |zero=>exact .inr z
    |succ j=>exact(show False from `W).elim⟩)
class NoL(R:`k):Prop where
 no:∀{G G':Hp}{a:Z}{v:V},(∀q o,0 (G q) o->(∀vs,o≠.lst vs)->0 (G' q) o)->R G a v->R G' a v
instance zkeep63:NoL isI:=⟨λ_ h=>h⟩
theorem sqt_no{G G':Hp}(h:∀q o,0 (G q) o->(∀vs,o≠.lst vs)->0 (G' q) o){p:Addr}{us:`u}(s:SqT K G p us):SqT K G' p us:=by
 rcases s with(s|⟨o,s⟩)|s;·exact .inl (.inl (h _ _ s λ_ z=>nomatch z))
 ·exact .inl (.inr ⟨o,h _ _ s λ_ z=>nomatch z⟩)
 ·exact .inr s
instance zkeep66{R1:`k}{R2:Rp β}[NoL R1][NoL R2]:NoL (isT2 K R1 R2):=⟨λh⟨p,x,y,e,s,a,b⟩=>⟨p,x,y,e,sqt_no h s,NoL.no h a,NoL.no h b⟩⟩
theorem yA{R:`k}{xs:List `r}{v:V}(h:oL (oL<|fz R) W F xs v):∀q,F q->∃vs,0 (W.H q) (.lst vs):=by
 obtain⟨p,vs,Fs,rfl,g,hp,t,np,hF⟩:=h;intro q hq;rcases (hF q).mp hq with rfl|⟨i,hi⟩
 ·exact⟨_,hp⟩
 ·obtain⟨x,u,_,_,r⟩:=t.at2 hi;obtain⟨p',vs',Fs',rfl,g',hp',t',np',hF'⟩:=r;rcases (hF' q).mp hi with rfl|⟨j,hj⟩
  ·exact⟨_,hp'⟩
  ·obtain⟨y,w,_,_,r'⟩:=t'.at2 hj;exact absurd hj (r'.1 q)
open Classical in
theorem BZ{R:Rf β}[FrT R]{R':Rp β}[FzT R R']{b:β}{u:V}(t:R W F b u):∃Wf,Wf.H=W.H/\Same W.G Wf.G/\R' Wf.G b u/\∀W2,Ext Wf W2->∃W3,W3.H=W2.H/\Ext W W3/\∀q,¬F q->W3.G q=W2.G q:=by
 have lv:=λq=>Nb t q;have hs:Same W.G λq=>if F q then W.H q else W.G q:=λa o h=>by
  show(if F a then _ else _)=_;rw[Z1 λz=>by have:=(lv a z).1;rw[h]at this;cases this];exact h
 have ho:Same (λq=>if F q then W.H q else W.G q) W.H:=λa o h=>by
  have h:0 (if F a then W.H a else W.G a) o:=h;split at h;·exact h
  ·exact W.ok _ _ h
 let Wf:Wd:=9 W.H ho
 refine⟨Wf,`a,hs,FzT.fz t hs λq hq=>Z0 hq,λW2 e=>⟨⟨λq=>if F q then none else W2.G q,W2.H,λa o h=>?_⟩,`a,⟨λa o h=>?_,e.h,λq hq=>?_⟩,λq hq=>Z1 hq⟩⟩
 ·have h:0 (if F a then none else W2.G a) o:=h;split at h;·cases h
  ·exact W2.ok _ _ h
 ·show(if F a then none else W2.G a)=_;rw[Z1 λz=>by have:=(lv a z).1;rw[h]at this;cases this];exact e.g _ _ (hs _ _ h)
 ·show(if F q then none else W2.G q)=_;by_cases z:F q;·rw[Z0 z,(lv q z).1]
  ·rw[Z1 z,e.k q hq];exact Z1 z
theorem wm{R:Rp β}[Mono R][NoL R]{xs:List (List β)}{v:V}{m:11 β}(S:Sep W0 W cs)(E:12 W)(hk:0 cs[k]? (tc (oL<|oL<|fz R) xs v))(h:∀Wf,Same W.G Wf.G->isL (isL R) Wf.G xs v->EVo Er te M Wf R m)(q:(m.bind λb=>gZ xs b).OkE Er λys=>∀W',Same W.G W'.G->12 W'->Sep W0 W' (cs.set k<|tc (oL<|oL<|fz R) ys v)->D.nx M W'.H)(hi:0 M[i]? (some v):=by rfl):
  bK (fS K "list" aS (bZ i)<|ax te bc) D M W.H:=by
 have S':=S;obtain⟨Fs,s⟩:=S';have tr:oL (oL<|fz R) W (Fs k) xs v:=s.el k _ hk;have kk:k<cs.length:=(ER.mp hk).1;have lst:=yA tr;obtain⟨Wf,f1,f2,f3,f4⟩:=BZ tr;obtain⟨p0,vs0,_,rfl,g0,h0,_⟩:=id tr;refine⟨_,hi,.inl ⟨`a,vs0,GD h0⟩,?_⟩;have hh:=h Wf f2 f3 Wf `q;rw[f1]at hh;refine hh _ (5 q λb kb p W2 e2 hp o=>?_);obtain⟨W3,a1,a2,a3⟩:=f4 W2 e2;have nF:¬Fs k p:=λz=>(Nb tr p z).2 hp;have t3:oL (fz R) W3 (· =p) b `E:=by
  obtain⟨o1,us,o2,o3⟩:=o;refine oL.ofOw ⟨by rw[a3 p nF];exact o1,us,by rw[a1];exact o2,o3.1,λj x y e3 e4=>NoL.no (λz o hz hn=>?_) (o3.2 j x y e3 e4)⟩;rw[a3 z λhf=>?_];·exact hz
  ·obtain⟨ws,hw⟩:=lst z hf;have e5:=e2.keepH (q:=z) (by rw[f1,hw];exact λz=>nomatch z);rw[f1,hw,W2.ok _ _ hz]at e5;cases e5;exact hn _ `a
 have S3:=Sep.add (F:=(· =p)) S E a2 (λz hz=>by rw[hz];exact hp) t3;rw[<-a1];have:=vC (Er:=Er) (K:=K) (D:=⟨λ_ H=>D.nx M H,D.rt,D.bk,D.ct⟩) (M:=M++[27 p]) (i:=i) (j:=M.length) (k:=k) (l:=cs.length) (xs:=xs) (b:=b) (v:=.ref p0) (u:=`E) S3 (E.trans a2) (by rw[F7 kk];exact hk) `f (Fd kk) (kb.imp λys ky W' e1 e3 S4=>ky W' (a2.g.trans e1) e3 (by
  rw[List.set_append_left _ _ kk]at S4;rw[List.eraseIdx_append_of_length_le `f]at S4;simpa using S4)) (by rw[F7 (ER.mp hi).1];exact hi) `f
 obtain⟨v1,g1,_,v2,g2,g3⟩:=this;rw[F7 (ER.mp hi).1,hi]at g1;cases g1;rw[F9 (EX _),Jx]at g2;cases g2;exact g3
end
end Wb
namespace Mi
abbrev Cd:=Tx×Tx×Int
abbrev Pl:=Tx×Tx×Tx
abbrev Ii:=`l
def tW{κ Z:Type}[DecidableEq κ](kvs:7 κ Z)(k:κ)(z:Z):Z:=(look kvs k).getD z
def o8(n:Int):11 Int:=eR (-(2^61)<=n/\n<2^61) (gp n).reverse
end Mi
namespace L2
open PySem PySem.Spec PyProof.Rows Wb
def DG(a:Addr)(o:Obj)(es:Array HI):It:=⟨λi H=>0 (H a) (XO a o)/\i<es.size,λi H x H'=>H'=H/\∃e,0 es[i]? e/\RelV x e.key,λi H=>0 (H a) (XO a o)/\i=es.size⟩
theorem qI{P:F6}{w:Fh}{K:EL}{tg:Expr}{a it:Addr}{o:Obj}{es:Array HI}{ep:Nat}(hdat:o.data=.dict es ep)(hx:o.ExactDict)(hr:∀(i:Nat)(e:HI),0 es[i]? e->∃b,e.key=.ref b):Turn P w K tg (DG a o es) [it] it (λi h=>34 it<|mS a es.size ep i) where
 mem:=`f
 obj:=λi h st b hb=>by
  have e:b=it:=by simpa using hb
  subst e;exact 9 st λv z=>by
   have z':JN _=IG v:=z;cases z'
 keep:=λi h h' st k=>k it `f _ st
 item:=by
  intro X hP hw hK hc i Z_ s M H E I hf st hg;subst hP hw hK;obtain⟨ha,hi⟩:=hg;obtain⟨f0,f1,f2,f3,f4,f5⟩:=hf it `f;have ho:23 a o:=(I.hok a _ ha).1;refine mU st ho hdat hi λh' st' sb=>?_;have I1:Inv X Z_ M H {s with heap:=h'}:=I.turned (t':=s.toks) (λb o hb e=>(sb.2 b hb).trans e) f0 f1 f3 f4 f5;obtain⟨b,hb⟩:=hr i _ (Fz hi);exact 9 `a (oG (s:={s with heap:=h'}) (n:="dict_keyiterator") st' `a `a ⋯ ⟨.ref b,H,I1,by rw[hb];rfl,⟨`a,_,Fz hi,by rw[hb];rfl⟩,st',λb hb=>(hf b hb).1⟩)
 done:=by
  intro X hP hw hK hc i Z_ s M H E I hf st hg;subst hP hw hK;obtain⟨ha,hi⟩:=hg;subst hi;obtain⟨f0,f1,f2,f3,f4,f5⟩:=hf it `f;have ho:23 a o:=(I.hok a _ ha).1;exact pJ (I.ok.hd hc) st ho hdat λh' eb=>⟨`a,I.turned (t':=s.toks) (λb o hb e=>eb b o hb e) f0 f1 f3 f4 f5⟩
 self:=λA i s Q E st hQ=>by
  have hT:s.TypeIs (.ref it) "dict_keyiterator":=9 st `a
  refine IS hT HE (Fu HE hT JT ?_<|JJ _);show wpAny _ _ (ret<|.ref it) _ _ s;exact EK ⟨_,`a,"dict_keyiterator",_,hT,Gf.lookup,hQ⟩
def qJ(prog:F6)(w:Fh)(K:EL)(tl:TE):TI:=λM H R=>tl M H λx H1=>∃G a o kvs,x=.ref a/\Same G H1/\0 (H1 a) (XO a o)/\(a==sysModules)=`g/\DictP prog w K G o kvs/\∀es ep,o.data=.dict es ep->es.size=kvs.length->(∀(i:Nat)(e:HI)(p:(Int×Int)×V),0 es[i]? e->0 kvs[i]? p->∃b,e.key=.ref b/\SqT K G b [.int p.1.1,.int p.1.2])->R (DG a o es) H1
theorem DictP.ents{prog:F6}{w:Fh}{K:EL}{G:Hp}{o:Obj}{kvs:7 `l V}(h:DictP prog w K G o kvs):∃es ep,o.ExactDict/\o.data=.dict es ep/\es.size=kvs.length/\∀(i:Nat)(e:HI)(p:(Int×Int)×V),0 es[i]? e->0 kvs[i]? p->∃b,e.key=.ref b/\SqT K G b [.int p.1.1,.int p.1.2]:=by
 obtain⟨es,ep,ys,hx,hdat,he,nd,rel⟩:=h;refine⟨es,ep,hx,hdat,by rw[<-FL,he,EY];exact(Paired.length rel).symm,λi e p h1 h2=>?_⟩;rw[<-FG,he,ET]at h1;obtain⟨y,h3,rfl⟩:=Fy.mp h1;obtain⟨p',h4,h5,h6,h7⟩:=fK rel h3;rw[h2]at h4;cases h4;exact⟨y.2.1,`a,h6⟩
section
variable{X:Cx}{K:EL}{Z9 pos':Pos}{o i e tg l:Expr}{td ty tv tl tk:TE}{Z_:7 Addr Obj}{M:St}{H:Hp}{s:EN}
theorem wo(hl:PE X l tl):PI X tg l (qJ `o X.w X.K tl):=by
 intro Z_ s M H R I h;refine cx (hl Z_ s M H _ I h) λv s1 zz=>?_;obtain⟨x,H1,I1,r1,q1⟩:=zz;obtain⟨G,a,ob,kvs,e,eG,ha,lo,d,q⟩:=q1;subst e;cases r1;obtain⟨es,ep,hx,hdat,hs,at_⟩:=d.ents;have ho:0 (s1.heap.get? a) ob:=(I1.hok a _ ha).1;refine mT lo ho hx hdat ?_;refine⟨`U,[s1.heap.objs.size],_,_,H1,`a,I1.kept (t':=s1.toks) λb o e=>EI _ e,qI hdat hx λi e he=>?_,ES _ `a,λb hb=>?_,q es ep hdat hs at_⟩
 ·have hi:i<kvs.length:=by have:=(Hi.mp he).1;omega
  obtain⟨b,hb,_⟩:=at_ i e _ he (EH hi);exact⟨b,hb⟩
 ·have e:b=`U:=by simpa using hb
  subst e;exact I1.fpOk (EX _) (I1.hok.fresh<|EX _)
def wq(prog:F6)(w:Fh)(K:EL)(td ty:TE):TE:=λM H Q=>td M H λx H1=>ty M H1 λy H2=>∃G a kvs b k v,x=.ref a/\PDa prog w K G H2 a kvs/\y=.ref b/\44 K G b/\0 (j5 kvs k) v/\Q v H2
theorem yB(hu:X.A.units+1<cLine)(ho:PE X o td)(hi:PE X i ty)(hs:uI i):PE X (.Subscript o i Z9) (wq `o X.w X.K td ty):=by
 intro Z_ s M H Q I h;refine rp Kz.lookup hs (cx (ho Z_ s M H _ I h) λu s1 zz=>?_);obtain⟨x,H1,I1,rx,q1⟩:=zz;refine cx (hi Z_ s1 M H1 _ I1 q1) λiv s2 zz=>?_;obtain⟨y,H2,I2,ry,G,a,kvs,b,k,v,ex,g,ey,hb,ev,q2⟩:=zz;subst ex ey;obtain rfl:u=G8 a:=rx;obtain rfl:iv=G8 b:=ry;obtain⟨xs,rel,dd,hx⟩:=g.h I2;obtain⟨ob,eG,ha,lo,_,_⟩:=g;have hT:s2.TypeIs (.ref a) "dict":=by
  obtain⟨od,es,ep,h1,h2,_⟩:=id dd;exact⟨od,h1,h2.1⟩
 refine⟨hT,?_⟩;obtain⟨w',hw,rw'⟩:=OO (v:=v) (o:=(atKey xs<|gE k).map (·.2)) (by rw[<-ev];exact rel.val k);obtain⟨p,hp,rfl⟩:=Fy.mp hw;exact wpAny_getItem_heap (Ku hu) (eW I2<|GL eG hb) dd hp ⟨v,H2,I2.tok _,rw',q2⟩
def wt(prog:F6)(w:Fh)(K:EL)(td ty tv:TE):TE:=λM H Q=>td M H λx H1=>∃a,x=.ref a/\(ty M H1 λy H2=>tv M H2 λz H3=>∃G kvs b k,PDa prog w K G H3 a kvs/\y=.ref b/\44 K G b/\Q ((j5 kvs k).getD z) H3)/\∃o kvs G,Same G H1/\0 (H1 a) (XO a o)/\(a==sysModules)=`g/\DictP prog w K G o kvs
theorem tX{x:Option V}{y:`Q}{z:V}{u:EM}(r:RelO x y)(rz:RelV z u):RelV (x.getD z) (y.getD u):=by
 cases x<;>cases y;·exact rz
 ·exact r.elim
 ·exact r.elim
 ·exact r
theorem wu{Z5 Z6:Pos}{k d:Expr}(hu:X.A.units+1<cLine)(ho:PE X o td)(hk:PE X k tk)(hd:PE X d tv)
  (hbase:attributeBase o (EO "get") X.env (26 o)=26 o:=by rfl)
  (hfew:1 ((backTo Z6<|32 [k,d]).all (λx=> !x.1) && (backToKw Z6<|keywordEach [] X.env).all (λx=>x.1.isSome)
   &&decide (([k,d]:List Expr).length+([]:List Lh).length+(if([]:List Lh).isEmpty then 0 else 1)<30)):=by rfl)
  (hline:1 (Z5.endLine==Z6.line):=by rfl) (hs:32 [k,d]=[(false,26 k),(false,26 d)]:=by rfl):
  PE X (.Call (.Attribute o (EO "get") Z5) [k,d] [] Z6) (wt `o X.w X.K td tk tv):=by
 intro Z_ s M H Q I h;refine Li hbase hfew hline `a (cx (ho Z_ s M H _ I h) λv s1 zz=>?_);obtain⟨x,H1,I1,r1,a,e,q1,ob,kvs,G,eG,ha,lo,dp⟩:=zz;subst e;cases r1;obtain⟨es,ep,hx,hdat,_⟩:=dp.ents;have hob:0 (s1.heap.get? a) ob:=(I1.hok a _ ha).1;refine⟨"dict","dict.get",PySem.F.plainAttrs_dict,PySem.F.slot_dict_get,PySem.F.type_dict_get,⟨ob,hob,hx.1⟩,λb e2=>?_,?_⟩
 ·cases e2;exact⟨ob,hob,hx.2.1⟩
 ·rw[hs];refine wpAny_dict_get2_heap (knd:=tupleKind (mixKind `o X.w)) (Ku hu) lo (cx (hk Z_ s1 M H1 _ I1 q1) λu s2 zz=>?_);obtain⟨y,H2,I2,r2,q2⟩:=zz;refine cx (hd Z_ s2 M H2 _ I2 q2) λt s3 zz=>?_;obtain⟨z,H3,I3,r3,G3,kvs3,b,kk,g3,ey,hb,q3⟩:=zz;subst ey;obtain rfl:u=G8 b:=r2;obtain⟨xs,rel,dd,hz⟩:=g3.h I3;obtain⟨_,eG3,_⟩:=g3;exact⟨b,gE kk,xs,`a,eW I3<|GL eG3 hb,dd,_,H3,I3.tok _,tX (rel.val kk) r3,q3⟩
def wx(cap:List `S)(wi:TI)(g:TG)(tf:TT)(tb:TB):TE:=λM H Q=>wi M H λJ H1=>∀D,H1 D=`c->(D==sysModules)=`g->tK g tf tb D (bH cap M) (cT H1 D<|XO D ip) (λH'=>Q (.ref D) H') J
def qK(prog:F6)(w:Fh)(K:EL)(tk tv:TE):TB:=λD M H N=>tk M H λy H1=>tv M H1 λv H2=>∃G kvs b k,PDa prog w K G H2 D kvs/\kvs.length<1000/\y=.ref b/\44 K G b/\∀o',DictP prog w K G o' (qm kvs k v)->N (cT H2 D<|XO D o')
theorem wy{Y:Cx}{kx vx:Expr}(hxe:Y.xe=λ_ _=>False)(hu:Y.A.units+1<cLine)(hk:PE Y kx tk)(hv:PE Y vx tv):PB Y (zH kx vx Y.env) (qK Y.prog Y.w Y.K tk tv):=by
 intro D Z_ s M H N I h;have hk':=hk Z_ s M H _ I h;rw[hxe]at hk';refine EF (cx hk' λu s1 zz=>?_);obtain⟨x,H1,I1,r1,q1⟩:=zz;have hv':=hv Z_ s1 M H1 _ I1 q1;rw[hxe]at hv';refine EF (FY<|cx hv' λr s2 zz=>?_);obtain⟨y,H2,I2,r2,G,kvs,b,k,g,hl,ex,hb,q⟩:=zz;subst ex;obtain rfl:u=G8 b:=r1;obtain⟨xs,rel,dd,hx⟩:=g.h I2;obtain⟨ob,eG,ha,lo,_,_⟩:=g;refine EF (HH<|FY<|wpAny_dictSet_heap (hsz:=by rw[FE];omega) (show(tupleKind<|mixKind Y.prog Y.w).room Y.A from Nat.lt_of_succ_lt hu) (eW I2<|GL eG hb) dd λh' dd' hs=>?_);obtain⟨o',es,ep,hq,h2,h3,h4,_,h5⟩:=dd';exact⟨M,_,rn I2 (by rw[ha];exact Iu) hs ⟨o',hq⟩<|OD hq,λ_ _ e=>e,q o' ⟨es,ep,_,h2,h3,h4,h5,rel.put k hb r2⟩⟩
variable{scope:ID}{N:`I}{cap:List `S}{iter kx vx:Expr}{ifs:List Expr}{wi:TI}{g:TG}{tf:TT}{tb:TB}{body:Env->EM->Sem Unit}
theorem jP(hu:X.A.units+1<cLine)(S:CompScope X scope N cap)(hc:1 X.calm)(hi:PI X tg iter wi)
  (hg:∀s H C fp,PG (aQ X scope N s H C fp) tg g) (hf:∀s H C fp,uu (aQ X scope N s H C fp) ifs tf) (hk:∀s H C fp,PE (aQ X scope N s H C fp) kx tk) (hv:∀s H C fp,PE (aQ X scope N s H C fp) vx tv)
  (hs:∀x,foldedSetIterable iter X.env x=pure x:=by intro _;rfl):PE X (.DictComp kx vx [⟨tg,iter,ifs,0⟩] scope Z9) (wx cap wi g tf<|qK `o X.w X.K tk tv):=by
 intro Z_ s M H Q I h;rw[arm_eval_DictComp];have frc:∀x∈scope.names,x.2=.free->∃c,43 x.1 c:=λx hx hk=>I.ok.has x.1 (S.free x hx hk);refine HY (use:=none) `a hs (fg frc) S.kind (gJ S) (cx (hi Z_ s M H _ I h) λv s1 h1=>cx h1 λitv s2 h2=>?_);obtain⟨it,fp,tn,J,H2,rfl,I2,T,st2,f2,w⟩:=h2;refine Gg ?_;have hz:H2 s2.heap.objs.size=`c:=I2.hok.fresh (EX _);have I3:Inv X Z_ M (cT H2 s2.heap.objs.size<|XO s2.heap.objs.size ip) {s2 with heap:=s2.heap.push {cls:=.type "dict",dict:=none,data:=.dict #[]}}:=
  I2.laid (a:=s2.heap.objs.size) (t':=s2.toks) (λ_ _ q=>EI _ q) (EX _) (OD (o:=ip)<|ES _ `a)
 have nD:∀b∈fp,b≠s2.heap.objs.size:=λb hb=>by
  obtain⟨o,e,_⟩:=T.obj _ _ st2 b hb;exact Fd (EU e)
 have f3:∀b∈fp,FpOk X Z_ (cT H2 s2.heap.objs.size<|XO s2.heap.objs.size ip) b:=λb hb=>⟨by rw[aJ (nD b hb)];exact(f2 b hb).1,(f2 b hb).2⟩
 refine lq (RR:=λC=>compPost (model `o X.w) X.A X.xe `c (EP X Z_ M Q) (.ref s2.heap.objs.size) C) (body:=zH kx vx) S hc CompE.dict `a hg hf (λs H C fp=>wy (Y:=aQ X scope N s H C fp) `a hu (hk s H C fp)<|hv s H C fp) (λ_ _ _=>`a) I3 T (T.keep _ _ _ st2 λb hb o e=>EI _ e) f3 (w _ hz<|beq_eq_false_iff_ne.mpr<|Hx<|Fd I2.big) λC σ' H' s' hC I' q=>?_;obtain⟨m,hn,_⟩:=I'.loc;exact⟨m,hn,λh' hs'=>⟨.ref _,H',mO I3 f3 hC I' hs',`a,q⟩⟩
end
end L2
namespace Wb
open PySem L2 Mi
section
variable{Er:Nat->Prop}{Z β:Type}{prog:F6}{w:Fh}{K:EL}{W W' W0 Wb W1 W2:Wd}{M:St}{t te tk tv td ti ta:TE}{R:`k}{i:Nat}{p:Addr}{D:Ends}{r:TS}
def isPD(prog:F6)(w:Fh)(K:EL)(R:`k):Rp (7 `l Z):=λG kvs v=>∃p o vs,v=`E/\0 (G p) (XO p o)/\(p==sysModules)=`g/\DictP prog w K G o vs/\`O<=1000/\`O=kvs.length/\∀(i:Nat)(q:(Int×Int)×V)(x:(Int×Int)×Z),0 vs[i]? q->0 kvs[i]? x->q.1=x.1/\R G x.2 q.2
instance zkeep68[Mono R]:Mono (isPD prog w K R):=⟨λe⟨p,o,vs,h0,h1,h2,h3,h4,h5,h6⟩=>⟨p,o,vs,h0,e _ _ h1,h2,dictP_same h3 e,h4,h5,λi q x a b=>⟨(h6 i q x a b).1,ED e (h6 i q x a b).2⟩⟩⟩
theorem OwP.frz[Mono R]{kvs:7 `l Z}(o:OwP prog w K R W p kvs)(e:12 W)(hp:W0.H p=`c):
  ∃W',W'.H=W.H/\12 W'/\Same W.G W'.G/\isPD prog w K R W'.G kvs `E/\∀q,q≠p->W'.G q=W.G q:=by
 obtain⟨ob,vs,a,lo,b,hl,c,d⟩:=o.h;exact⟨W.frz p _ a,`a,e.frz hp a o.g,dH o.g,⟨p,ob,vs,`a,aG,lo,dictP_same b<|dH o.g,hl,c,λi q x h1 h2=>⟨(d i q x h1 h2).1,ED (dH o.g) (d i q x h1 h2).2⟩⟩,λq hq=>aJ hq⟩
theorem EVp.ev[Mono R]{m:Res (7 `l Z)}(h:EVp prog w K Er t M W R m):4 t (isPD prog w K R) m:=λW1 e1 Q k=>h W1 e1 Q (k.imp λxs kx p W2 e2 hp o=>by
 obtain⟨W3,hH,e3,_,r,_⟩:=o.frz e2 hp;rw[<-hH];exact kx `E W3 e3 r)
theorem lH[Mono R]{mk:Res `l}{mv:Res Z}{D:Addr}(eb:Ext Wb W)(hD:Wb.H D=`c)(h:4 tk (isT2 K isI isI) mk)(h':4 tv R mv):BV Er (qK prog w K tk tv) M Wb W (OwP prog w K R) D (λkvs=>mk.bind λk=>mv.bind λa=>iW kvs k a):=λW1 xs N e1 o k=>h W1 e1 _ (5 k λb kb x W2 e2 hx=>h' W2 `D _ (5 kb λa ka v W3 e3 hv=>by
  obtain⟨h3,h4⟩:=ba ka;have o':=o.mono `L;obtain⟨ob,vs,o1,lo,o2,hl,o3,o4⟩:=o'.h;obtain⟨p1,p2⟩:=pL o3 o4 (k:=b) hv;have e:=(`D).trans e3;obtain⟨q,x1,x2,rfl,t1,r1,r2⟩:=hx;cases r1;cases r2;refine⟨W3.G,vs,q,b,⟨ob,W3.ok,o1,lo,o2,hl⟩,`b,`a,GL e3.g t1,λo2' d'=>?_⟩;exact h4 (W3.mut D (XO D o2') o'.g) (`L).g ((eb.trans e).mut hD o'.g) ⟨o'.g,o2',_,aG,lo,d',by have:=pM (kvs:=xs) (k:=b) (a:=a);omega,p1,p2⟩))
theorem lI{R0:Rp β}[Mono R]{cap:List `S}{wi:TI}{g:TG}{tf:TT}{t:TB}{mi:11 β}{f:β->7 `l Z->Res (7 `l Z)}(hi:IV Er wi M W R0 mi)
  (hs:∀Wb D W2 a v s(ZZ:Hp->Prop),Same W.G W2.G->Ext W Wb->Wb.H D=none->Ext Wb W2->OwP prog w K R W2 D s->R0 W2.G a v->(f a s).OkE Er (λs'=>∀W',Same W2.G W'.G->Ext Wb W'->OwP prog w K R W' D s'->ZZ W'.H)->g v (bH cap M) W2.H λσ2 H2=>Keep (bH cap M) σ2/\tf σ2 H2 λb H3=>if 1 b then t D σ2 H3 ZZ else ZZ H3):
  EVp prog w K Er (wx cap wi g tf t) M W R (mi.bind λxs=>bO f xs []):=λW1 e1 Q k=>hi W1 e1 _ (5 k λxs kx J W2 e2 hy D hD lo=>by
  refine nU (W:=W2) (W1:=W2.mut D (XO D ip) (W2.gnone hD)) (Wb:=W2) (O:=OwP prog w K R) (s0:=[]) hy (.inr `q) (.own _ hD) ⟨W2.gnone hD,ip,[],aG,lo,pK ..,`M,rfl,λi q x h=>by simp at h⟩ (λW3 a v s ZZ e3 eb3 o3 r k3=>hs W2 D W3 a v s ZZ ((`D).g.trans e3) `D hD eb3 o3 r k3) (λ_ _ _ e o=>o.mono e) ?_;exact kx.imp λs' ks W' z1 z2 z3=>ks D W' (e2.trans z2) (none_of e2.h hD) z3)
theorem lJ{H:Hp}:∀(vs:List ((Int×Int)×V))(kvs:List ((Int×Int)×Z)),`O=kvs.length->(∀(i:Nat)(q:(Int×Int)×V)(x:(Int×Int)×Z),0 vs[i]? q->0 kvs[i]? x->q.1=x.1/\R H x.2 q.2)->∀k,(match look kvs k with|none=>j5 vs k=none|some a=>∃v,j5 vs k=some v/\R H a v)
 | [],[],_,_,k=>rfl
 | [],_::_,h,_,_=>by simp at h
 |_::_,[],h,_,_=>by simp at h
 |q::vs,x::kvs,hl,h,k=>by
  obtain⟨h1,h2⟩:=h 0 q x `a `a;have ih:=lJ vs kvs (by simpa using hl) (λi q x a b=>h (i+1) q x a b) k;by_cases e:x.1=k
  ·have a:0 (look (x::kvs) k) x.2:=by simp[look,H0,e]
   rw[a,i4 (h1.trans e)];exact⟨q.2,`a,h2⟩
  ·have a:look (x::kvs) k=look kvs k:=by simp[look,H0,e]
   rw[a,i5 λz=>e (h1.symm.trans z)];exact ih
theorem kJ[Mono R]{md:Res (7 `l Z)}{mk:Res `l}(hd:4 td (isPD prog w K R) md)(hk:4 tk (isT2 K isI isI) mk):4 (wq prog w K td tk) R (md.bind λd=>mk.bind λk=>getD d k):=λW1 e1 Q k=>hd W1 e1 _ (5 k λd kd x W2 e2 hx=>hk W2 `D _ (5 kd λb kb y W3 e3 hy=>by
  obtain⟨p,o,vs,rfl,h1,h2,h3,h4,h5,h6⟩:=ED (R:=isPD prog w K R) e3.g hx
  obtain⟨q,x1,x2,rfl,t1,r1,r2⟩:=hy;cases r1;cases r2;obtain⟨a,ha,ka⟩:=dR kb;have lr:=lJ vs d h5 h6 b;rw[ha]at lr;obtain⟨v,hv,rv⟩:=lr;exact⟨W3.G,p,vs,q,b,v,`a,⟨o,W3.ok,W3.ok _ _ h1,h2,h3,h4⟩,`a,t1,hv,ka v W3 `L rv⟩))
theorem wz[Mono R]{md:Res (7 `l Z)}{mk:Res `l}{mz:Res Z}(hd:4 td (isPD prog w K R) md)(hk:4 tk (isT2 K isI isI) mk)(hz:4 tv R mz):4 (wt prog w K td tk tv) R (md.bind λd=>mk.bind λk=>mz.bind λz=>.ok<|tW d k z):=λW1 e1 Q k=>hd W1 e1 _ (5 k λd kd x W2 e2 hx=>by
  obtain⟨p,o,vs,rfl,h1,h2,h3,h4,h5,h6⟩:=id hx;refine⟨p,`a,hk W2 `D _<|5 kd λb kb y W3 e3 hy=>hz W3 ((`D).trans e3) _<|5 kb λz kz u W4 e4 hu=>?_,o,vs,W2.G,⟨W2.ok,W2.ok _ _ h1,h2,h3⟩⟩;have a0:=e3.trans e4;obtain⟨q,x1,x2,rfl,t1,r1,r2⟩:=hy;cases r1;cases r2;have lr:=lJ vs d h5 (λi q x a b=>⟨(h6 i q x a b).1,ED (R:=R) a0.g (h6 i q x a b).2⟩) b;refine⟨W4.G,vs,q,b,⟨o,W4.ok,W4.ok _ _<|a0.g _ _ h1,h2,dictP_same h3 a0.g,h4⟩,`a,GL e4.g t1,?_⟩;have kz:∀v W',Ext W1 W'->sh R W' (tW d b z) v->Q v W'.H:=kz;refine kz _ W4 (e2.trans a0) ?_;unfold tW;cases ha:look d b with
  |none=>
   rw[ha]at lr;have lr:j5 vs b=`c:=lr;rw[lr];exact hu
  |some a=>
   rw[ha]at lr;obtain⟨v,hv,rv⟩:=lr;rw[hv];exact rv)
theorem wA[Mono R]{m:Res (7 `l Z)}(h:4 t (isPD prog w K R) m):IV Er (qJ prog w K t) M W (isT2 K isI isI) (m.bind λd=>.ok<|d.map (·.1)):=λW1 e1 P k=>h W1 e1 _ (5 k λd kd x W2 e2 hx=>by
  obtain⟨p,o,vs,rfl,h1,h2,h3,h4,h5,h6⟩:=hx;refine⟨W2.G,p,o,vs,`a,W2.ok,W2.ok _ _ h1,h2,h3,λes ep hdat hs at_=>kd _ W2 e2 λW3 e3=>⟨λi a ha=>?_,W3.ok _ _<|e3 _ _ h1,by rw[EY,hs,h5]⟩⟩;rw[ET]at ha;obtain⟨x,hx,rfl⟩:=Fy.mp ha;have hi:i<es.size:=by have:=(ER.mp hx).1;omega
  have hv:i<`O:=by omega
  refine⟨⟨W3.ok _ _<|e3 _ _ h1,hi⟩,λy H'⟨z1,e,he,ry⟩=>⟨W3,z1.symm,`q,?_⟩⟩;obtain⟨b,hb,hq⟩:=at_ i e _ he (EH hv);have:=(h6 i _ x (EH hv) hx).1;rw[this]at hq;rw[hb]at ry;have:y=.ref b:=by
   cases y<;>first|(cases ry;rfl)|(obtain⟨_,z⟩:=ry;cases z)|cases ry
  subst this;exact⟨b,_,_,`a,GL e3 hq,`a,`a⟩)
end
end Wb
open Wb.EVp renaming ev->PX
namespace L2
open PySem PySem.Spec PyProof.Rows Wb
theorem AE:isSubtype (HW "range_iterator") (HW "reversed")=pure `g:=`z
section
variable{prog:F6}{w:Fh}{A:FR}{E:8 EM EN}{s:EN}
theorem iS{r:Addr}{n:Int}{t u v:Tok}{Q:8 EM EN}(hr:IsRange `p r 0 n 1 t u v)(h0: -(2^61)<=n)(h1:n<2^61)
  (hQ:Q (`X) {s with heap:=s.heap.push {cls:=.type "range_iterator",data:=.fields #[rawInt (0+(Gn 0 n 1-1)*1),rawInt<|Gn 0 n 1,rawInt<|-1]}}):21 prog w A (call (.type "reversed") [.ref r]) Q E:=by
 have hT:s.TypeIs (.ref r) "range":=9 hr `a
 refine callType_other (U:="range_iterator") (Q₁:=λobj s1=>s1.TypeIs obj "range_iterator"/\Q obj s1) `a F.create_reversed (9 _ F.mro_reversed) F.made_reversed AE (F.typeCall_reversed_1 _) (M0 F.plain_reversed_new F.entry_reversed_new ?_) λobj s1 h=>h;rw[F.newCall_reversed_1];refine `y;unfold HG.«reversed.__new__»;rw[newClass_reversed];refine EF `y;show wpAny _ _ (MC "reversed" _ _>>=_) _ _ s;refine EF `y;refine EF (m:=checkCount "reversed" 1 1 _) `y;show wpAny _ _ (specialOf (.ref r) (EO "__reversed__")>>=_) _ _ s;refine EF (Jd hT LJ.lookup ?_);show wpAny _ _ (bindSpecial (.builtin "range.__reversed__") (.ref r)>>=_) _ _ s;have hb:bindSpecial (.builtin "range.__reversed__") (.ref r)=pure (.builtin "range.__reversed__",[.ref r]):=by
  unfold bindSpecial;rw[F.type_range_reversed];rfl
 rw[hb];refine EF `y;show wpAny _ _ (rule "reversed.__new__.own-method">>=_) _ _ s;refine EF (Jj ?_);show wpAny _ _ (call (.builtin "range.__reversed__") [.ref r]>>=_) _ _ s;refine EF (Fu LJ hT F.entry_range_reversed ?_<|F.args_range_reversed_1 _);unfold HG.«range.__reversed__»;refine EF (m:=selfOnly "range.__reversed__" _) `y;show wpAny _ _ (KC (.ref r)>>=_) _ _ s;refine EF ?_;unfold KC;refine EF (G4 hr `a (x:=.int 0 t) `a<|EF (m:=asInt? _) `y);refine EF (G4 hr `a (x:=.int n u) `a<|EF (m:=asInt? _) `y);refine EF (G4 hr `a (x:=.int 1 v) `a<|EF (m:=asInt? _) `y);refine `y;have hs:1 (Gj 0&&Gj n&&Gj 1&&Gj (-1)&&Gj (0-1)&&Gj (Gn 0 n 1)):=by
  have e:Gn 0 n 1=if 0<n then n else 0:=by
   unfold Gn;rw[Z0 ⋯];split;·rw[OK];omega
   ·rfl
  unfold Gj;rw[e];simp only[Gp,decide_eq_true_eq];refine⟨⟨⟨⟨⟨`M,`b,`b⟩,`M⟩,`M⟩,`M⟩,?_,?_⟩<;>split<;>omega
 dsimp only;rw[hs];show wpAny _ _ (newFields "range_iterator" _>>=_) _ _ s;unfold newFields;refine EF (Gg<|EK<|9 `a `y);exact⟨9 (ES _ `a) `a,hQ⟩
end
section
variable{X:Cx}{tg:Expr}
def C0(n:Nat):It:=⟨λi _=>i<n,λi H x H'=>H'=H/\x=.int ((n:Int)-1-i),λi _=>n<=i⟩
theorem pN{P:F6}{w:Fh}{K:EL}{tg:Expr}(it:Addr)(n:Nat):Turn P w K tg (C0 n) [it] it (λi h=>LP h it ((n:Int)-1+i*(-1)) ((n:Int)-i)<|-1) where
 mem:=`f
 obj:=λi h st b hb=>by
  have e:b=it:=by simpa using hb
  subst e;exact 9 st λv z=>by
   have z':JN _=IG v:=z;cases z'
 keep:=λi h h' st k=>k it `f _ st
 item:=by
  intro X hP hw hK hc i Z_ s M H E I hf st hg;subst hP hw hK;obtain⟨f0,f1,f2,f3,f4,f5⟩:=hf it `f;have W:=Walks.range (prog:=X.prog) (w:=X.w) (I.ok.hd hc) it ((n:Int)-1) (-1) n;refine W.item i s _ _ hg st λv h' tk hv st' kk=>?_;obtain⟨t,rfl⟩:=hv;have I1:Inv X Z_ M H {s with heap:=h',toks:=tk}:=I.turned (λb o hb e=>kk b o (by simpa using hb) e) f0 f1 f3 f4 f5;refine 9 `a (oG (s:={s with heap:=h',toks:=tk}) (n:="range_iterator") st' `a `a ⋯ ⟨.int<|(n:Int)-1-i,H,I1,⟨t,?_⟩,⟨`a,`a⟩,st',λb hb=>(hf b hb).1⟩);congr 1;omega
 done:=by
  intro X hP hw hK hc i Z_ s M H E I hf st hg;subst hP hw hK;obtain⟨f0,f1,f2,f3,f4,f5⟩:=hf it `f;exact Le (I.ok.hd hc) st (by have:n<=i:=hg;omega) λh' eb=>⟨`a,I.turned (t':=s.toks) (λb o hb e=>eb b o hb e) f0 f1 f3 f4 f5⟩
 self:=λ_ _ _ _ _ st h=>Jr st h
theorem js{P:F6}{w:Fh}{K:EL}{o i:Expr}{Z9:Pos}{td ty:TE}(hP:`o=P)(hw:X.w=w)(hK:X.K=K)(hu:X.A.units+1<cLine)(ho:PE X o td)(hi:PE X i ty)(hs:uI i):PE X (.Subscript o i Z9) (wq P w K td ty):=by
 subst hP hw hK;exact yB hu ho hi hs
theorem tY{P:F6}{w:Fh}{K:EL}{l:Expr}{tl:TE}(hP:`o=P)(hw:X.w=w)(hK:X.K=K)(hl:PE X l tl):PI X tg l (qJ P w K tl):=by
 subst hP hw hK;exact wo hl
def zM(ta:TA):TI:=λM H R=>ta M H λvs H1=>∃j:Int,vs=[.int j]/\ -(2^61)<=j/\j<2^61/\R (C0 j.toNat) H1
theorem qL(n:Int):Gn 0 n 1=(n.toNat:Int):=by
 unfold Gn;rw[Z0 ⋯];split;·rw[OK];omega
 ·omega
theorem tZ{a:Expr}{ta:TA}{p p2 Z9 pos2:Pos}(hg:Gl X "reversed")(hm:X.mg "reversed"=`c)(hg2:Gl X "range")(hm2:X.mg "range"=`c)(ha:PA X [a] ta)
  (hs0:32 [.Call (.Name "range" p2) [a] [] pos2]=[(false,26 (.Call (.Name "range" p2) [a] [] pos2))]:=by rfl)
  (hs:32 [a]=[(false,26 a)]:=by rfl):PI X tg (.Call (.Name "reversed" p) [.Call (.Name "range" p2) [a] [] pos2] [] Z9) (zM ta):=by
 intro Z_ s M H R I h;refine OB (gk I hg hm boot_reversed<|G5 ?_ hs0 `a);rw[hs0];show wpAny _ _ (spliced<|(false,26 (.Call (.Name "range" p2) [a] [] pos2))::[]) _ _ s;refine Mn ?_;refine OB (gk I hg2 hm2 Ny<|G5 (cx (ha pos2 Z_ s M H _ I h) λus s1⟨vs,H1,I1,r1,q1⟩=>?_) hs `a);obtain⟨j,e,q1,q2,q⟩:=q1;subst e;cases r1 with
 |cons r rr=>
  cases rr;obtain⟨t,rfl⟩:=r;refine call_range_1 (MG ?_);refine iS (OX ..) q1 q2 ?_;rw[qL];have st:∀h:Heap,LP (h.push {cls:=.type "range_iterator",data:=.fields #[rawInt (0+((j.toNat:Int)-1)*1),rawInt (j.toNat:Int),rawInt<|-1]}) h.objs.size ((j.toNat:Int)-1+((0:Nat):Int)*(-1)) ((j.toNat:Int)-((0:Nat):Int)) (-1):=λh=>by
   have e1:(j.toNat:Int)-1+((0:Nat):Int)*(-1)=0+((j.toNat:Int)-1)*1:=`b
   have e2:(j.toNat:Int)-((0:Nat):Int)=(j.toNat:Int):=`b
   rw[e1,e2];exact ES _ `a
  refine Jr (st _) ?_;refine⟨_,[_],_,_,H1,`a,I1.kept λb o e=>EI _<|EI _ e,pN _ j.toNat,st _,λb hb=>?_,q⟩;have e:=H9.mp hb;subst e;have hle:∀o:Obj,`U<=(s1.heap.push o).objs.size:=λo=>by rw[FO];exact JO _
  exact I1.fpOk (hle _) (I1.hok.fresh<|hle _)
end
end L2
namespace Wb
open PySem L2 Mi
section
variable{Er:Nat->Prop}{W:Wd}{M:St}{ta:TE}
theorem u0{m:`C}(h:4 ta isI m):IV Er (zM<|ax ta bc) M W isI (m.bind λi=>o8 i):=λW1 e1 P k=>h W1 e1 _ (5 k λi ki v W2 e2 hv=>by
  cases hv;obtain⟨⟨h1,h2⟩,h3⟩:=ba ki;refine⟨i,`a,h1,h2,h3 _ W2 e2 λW3 e3=>⟨λj a ha=>?_,?_⟩⟩
  ·unfold gp at ha;have hj:j<i.toNat:=by
    have:=(ER.mp ha).1;simpa using this
   rw[HN (by simpa using hj),EY,Jy,ET,GW `b]at ha;cases ha;refine⟨hj,λy H'⟨z1,z2⟩=>⟨W3,z1.symm,`q,?_⟩⟩;rw[z2];show Im _=Im ((i.toNat-1-j:Nat):Int);congr 1;omega
  ·show i.toNat<=(gp i).reverse.length;unfold gp;simp)
end
end Wb
namespace L2
open PySem PySem.Spec PyProof.Rows
def DH:Bu:=λx y H Q=>∃i j,x=.str i/\y=.str j/\i.length+j.length<=sizeLine/\Q (.str<|i++j) H
theorem yC{X:Cx}:Cj X .Add DH:=oJ
section
variable{X:Cx}
theorem eI(i:Nat){x:Str}{Z9:Pos}(hN:X.N.Nodup:=by exact Px (by assumption))(hi:0 X.N[i]? x:=by rfl)(hx:zx X.env.scope x:=by first|exact OG rfl|exact NF `a)(hf:1 (X.fn x)\/0 (X.env.scope.names.lookup x) .local:=by first|exact .inl rfl|exact .inr rfl|assumption):PG X (.Name x Z9) (bt i):=bG hN hi hx hf
theorem cg(i:Nat){x:Str}{e:Expr}{te:TE}{Z9 pos':Pos}(he:PE X e te)(hN:X.N.Nodup:=by exact Px (by assumption))(hi:0 X.N[i]? x:=by rfl)(hx:zx X.env.scope x:=by first|exact OG rfl|exact NF `a)(hs:swapsWith e (some<|.Name x pos') Z9.line X.env=pure `g:=by rfl)(hf:1 (X.fn x)\/0 (X.env.scope.names.lookup x) .local:=by first|exact .inl rfl|exact .inr rfl|assumption):PS X (.Assign [.Name x pos'] e Z9) (cE te<|bt i):=A6 hN hi hx he hs hf
theorem cO{x:Str}{ps:`I}{k:Nat}{sp:Sp}{p Z9:Pos}{e:Expr}{es:List Expr}{t:TA}(C:Cal `o X.w X.K X.mg X.base x ps k sp)(ha:PA X (e::es) t)(hr:Room k X.A:=by exact Room.mono (by assumption) ⋯)(hg:Gl X x:=by rfl)
  (hdb:(x==("__debug__" :Str))=`g:=by decide) (he:32 (e::es)=(false,26 e)::32 es:=by rfl) (hpl:(backTo Z9<|32 es).any (·.1)=`g:=by rfl):PE X (.Call (.Name x p) (e::es) [] Z9) (bu sp [] E0 t):=uT C hr hg ha hdb he hpl
end
end L2
namespace Wb
open PySem L2 Mi
section
variable{Er:Nat->Prop}{W:Wd}{M:St}{te:TE}{D:Ends}{r:TS}{i:Nat}
theorem yD{a:Tx}{m:`J}{σ':Tx->St}(h:4 te isS m)(q:(m.bind λb=>cY a b).OkE Er λc=>∀W',Ext W W'->D.nx (σ' c) W'.H)(hi:0 M[i]? (22 a):=by rfl)(hσ:∀c,M.set i (22 c)=σ' c:=by intro _;rfl):xH i te DH D M W.H:=
 ⟨.str<|aU a,hi,h W `q _ (5 q λb kb v W' e hv=>by
  cases hv;obtain⟨h3,h4⟩:=ba kb;refine⟨aU a,aU b,`a,`a,?_,?_⟩;·rw[dP,dP,FE];unfold Mi.cap at h3;omega
  ·have:=h4 W' e;rw[<-hσ,<-kT]at this;exact this)⟩
theorem aP{i:Nat}{a:Int}(h:0 M[i]? (6 a):=by rfl):4 (bZ i) isI (.ok a):=ia (R:=sh isI) (v:=.int a) `a h
theorem bY{i:Nat}{a:Tx}(h:0 M[i]? (22 a):=by rfl):4 (bZ i) isS (.ok a):=ia (R:=sh isS) (v:=.str (aU a)) `a h
theorem C1{i:Nat}{a:Bool}(h:0 M[i]? (some<|.bl a):=by rfl):4 (bZ i) isB (.ok a):=ia (R:=sh isB) (v:=.bl a) `a h
theorem aI{Z:Type}{R:`k}[Mono R]{i:Nat}{a:Z}{v:V}(r:R W.G a v)(h:0 M[i]? (some v):=by rfl):4 (bZ i) R (.ok a):=ia (R:=sh R) r h
end
abbrev qA(K:EL):=isT3 K isS isS isI
abbrev qB(K:EL):=isT3 K isS isS isS
abbrev qC(K:EL):=isT2 K isI isI
abbrev qD(K:EL):=isL (qB K)
abbrev qE(K:EL):=isL `s
def DI(K:EL)(x:Str)(st:Stmt)(ps:`I):Prop:=∃f fd,Fun K x x st f fd/\0 (FF K `T x) (27 f)/\Binds K fd ps []
section
variable{P:F6}{w:Fh}{K:EL}{mg:Str->`Q}{base h:Heap}{x:Str}{st:Stmt}{ps:`I}{n:Nat}{sp:Sp}{f:Addr}
def C2:`I->List EM->List EM
 | [],_=>[]
 |_::r,us=>us.headD .none::C2 r us.tail
theorem wB:∀(ps:List Str)(us:List EM),us.length=ps.length->C2 ps us=us
 | [],us,h=>(JU h).symm
 |_::r,[],h=>by cases h
 |_::r,a::us,h=>by
  show a::C2 r us=_;rw[wB r us (Nat.succ.inj h)]
theorem DI.mk{oc:EM}{od an:Option Addr}{osl:Array `Q}{kV doc pm Z7 ct:EM}(da:0 (FF K `T x) (27 f))(dl:0 (K.lookup f) ⟨oc,od,.func<|Hq x x (defArgs st) (defBody st) (defScope st) .none kV doc pm an Z7 ct,osl⟩)
  (dc:1 (IW K Z7 x)) (dk:1 (Ic K<|.ref f)) (db:∀(kV doc pm:EM)(an:Option Addr)(Z7 ct:EM)(us:List EM),bindArgs (Hq x x (defArgs st) (defBody st) (defScope st) .none kV doc pm an Z7 ct) ⟨C2 ps us,[]⟩=pure (ps.zip<|C2 ps us)):DI K x st ps:=
 ⟨f,_,nu dl dc dk,da,(nu dl dc dk).binds λkV doc pm an Z7 ct us hl=>by
  have:=db kV doc pm an Z7 ct us;rw[wB ps us hl]at this;exact this⟩
theorem DI.cal(d:DI K x st ps)(X:K.In h)(G:h.Ns `T mg)(r:∀{f fd},Fun K x x st f fd->FnOk P w K mg base CX0 n f fd ps sp):Cal P w K mg base x ps n sp:=by
 obtain⟨f,fd,F,a,b⟩:=d;exact⟨f,fd,r F,Hs X G a,F.kp,b⟩
end
end Wb
namespace L2
open PySem PySem.Spec PyProof.Rows Wb
def C3:R2:=λx y H Q=>∃p q xs,x=`E/\y=.ref q/\0 (H p) (.lst xs)/\0 (H q) (.lst [])/\Q (.bl<|!xs.isEmpty) H
theorem AF{X:Cx}(hu:X.A.units<cLine):OpR X (compareOp .NotEq) C3:=by
 intro Z_ s M H x y v u Q I rx ry h;obtain⟨p,q,xs,rfl,rfl,h1,h2,hq⟩:=h;cases rx;cases ry;obtain⟨i1,r1,t1,z1⟩:=I.list (GD (K:=X.K) h1);obtain⟨i2,r2,t2,z2⟩:=I.list (GD (K:=X.K) h2);have l1:=r1.length;have l2:=r2.length;have key:SeqAt.RcNeAt X.A s `E (.ref q) (!xs.isEmpty):=by
  cases xs with
  |nil=>
   have:=Pu (A:=X.A) (s:=s) (e:=λ_=>true) t1.isList t2.isList (by rw[EW,EW,<-l1,<-l2]) hu (λj h1' h2'=>by
    have:j<i1.length:=by simpa using h1'
    rw[<-l1]at this;exact absurd this (Lx _))
   have e0:i1.toArray.size=0:=by rw[EW,<-l1];rfl
   rw[e0]at this;exact this
  |cons a r=>exact NM t1.isList t2.isList (by simp at l1 l2 ⊢;omega) hu
 exact key _ _ _ _ ⟨.bl _,H,I,`a,hq⟩
def C4(K:EL)(neg:Bool):R2:=λx y H Q=>∃(a:Int×Int)(ps:List (Int×Int))(p:Addr)(vs:List V),y=`E/\isT2 K isI isI H a x/\SqL K H p vs/\LR (isT2 K isI isI) H ps vs/\Q (.bl (if neg then !ps.contains a else ps.contains a)) H
theorem C5{X:Cx}{Z_:7 Addr Obj}{M:St}{H:Hp}{s:EN}{a b:Addr}{k l:`l}(hu:X.A.units+1<cLine)(I:14 X M H s)(h:44 X.K H a)(h':SqT X.K H b [.int l.1,.int l.2]):Mq X.A.in1 s (.ref a) (.ref b) (decide<|k=l):=by
 by_cases e:a=b
 ·subst e;rw[decide_eq_true (lG I h h')];exact Nh _
 ·obtain⟨i1,r1,t1,z1⟩:=I.tuple h;obtain⟨i2,r2,t2,z2⟩:=I.tuple h';obtain⟨_,_,rfl,⟨t,rfl⟩,⟨u,rfl⟩⟩:=mr r1;obtain⟨_,_,rfl,⟨t',rfl⟩,⟨u',rfl⟩⟩:=mr r2;have key:=PC (A:=X.A.in1) (s:=s) (e:=λj=>if j=0 then k.1==l.1 else k.2==l.2) t1 t2 hu (λj h1 h2=>by
   have h1:j<2:=h1
   match j,h1 with
   |0,_=>exact Kk _ _ _ _
   |1,_=>exact Kk _ _ _ _)
  have:decide (k=l)=((FP<|min #[J2 k.1 t,.int k.2 u].size #[J2 l.1 t',.int l.2 u'].size).all (λj=>if j=0 then k.1==l.1 else k.2==l.2)&&#[J2 k.1 t,.int k.2 u].size==#[J2 l.1 t',.int l.2 u'].size):=by
   show decide (k=l)=(([0,1]:List Nat).all _&&(2:Nat)==2)
   simp only[KU,List.all_nil,if_true,Bool.and_true];rw[Ga];simp[Prod.ext_iff]
  rw[this];exact Pw e key
open Classical in
noncomputable def AG(K:EL)(H:Hp)(a:`l)(u:EM):Bool:=decide (∃b,u=.ref b/\SqT K H b [.int a.1,.int a.2])
open Classical in
theorem AH{X:Cx}{Z_:7 Addr Obj}{M:St}{H:Hp}{s:EN}{b:Addr}{a k:`l}(I:14 X M H s)(h:44 X.K H b):AG X.K H a (.ref b)=decide (k=a):=by
 unfold AG;rw[Ga,decide_eq_true_iff,decide_eq_true_iff];constructor
 ·rintro ⟨b',e,h'⟩;cases e;exact lG I h h'
 ·rintro rfl;exact⟨b,`a,h⟩
theorem sj{X:Cx}{Z_:7 Addr Obj}{M:St}{H:Hp}{s:EN}{q:Addr}{a:`l}(hu:X.A.units+1<cLine)(I:14 X M H s)(ha:SqT X.K H q [.int a.1,.int a.2]):∀{ps:List (Int×Int)}{vs:List V}{us:List EM},LR (isT2 X.K isI isI) H ps vs->Vals vs us->us.any (AG X.K H a)=ps.contains a/\∀u∈us,Mq X.A.in1 s u (.ref q) (AG X.K H a u)
 | [],vs,us,h,r=>by
  have:vs=[]:=JU h.1;subst this;cases r;exact⟨`a,λu hu=>by cases hu⟩
 |k::ps,[],us,h,r=>absurd h.1 `f
 |k::ps,v::vs,us,h,r=>by
  cases r with
  |cons r1 r2=>
   obtain⟨g1,g2⟩:=sj hu I ha (ps:=ps) ⟨by have:=h.1;simpa using this,λi x m e1 e2=>h.2 (i+1) x m (by simpa using e1) (by simpa using e2)⟩ r2;obtain⟨b,x1,x2,rfl,t1,q1,q2⟩:=h.2 0 v k `a `a;cases q1;cases q2;cases r1;have e:=AH (a:=a) I t1;refine⟨?_,λu hu'=>?_⟩
   ·rw[J8,g1,e,List.contains_cons];congr 1;rw[Ga,decide_eq_true_iff,beq_iff_eq];exact eq_comm
   ·rcases F0.mp hu' with rfl | hu';·rw[e];exact C5 hu I t1 ha
    ·exact g2 u hu'
theorem u4{X:Cx}{K:EL}(hK:X.K=K)(hu:X.A.units+1<cLine):OpR X (compareOp .NotIn) (C4 K true):=by
 subst hK;intro Z_ s M H x y v u Q I rx ry h;obtain⟨a,ps,p,vs,rfl,⟨q,x1,x2,rfl,t1,q1,q2⟩,hl,lr,hq⟩:=h;cases q1;cases q2;cases rx;cases ry;obtain⟨its,r,pl,hz⟩:=I.list hl;obtain⟨g1,g2⟩:=sj hu I t1 lr r;refine Mr (AG X.K H a) pl.isList (λw hw=>g2 w<|by simpa using hw) ⟨.bl _,H,I,`a,?_⟩;rw[show its.toArray.any (AG X.K H a)=its.any (AG X.K H a) by simp,g1];exact hq
end L2
namespace Wb
open PySem L2 Mi
section
variable{Er:Nat->Prop}{Z:Type}{P:F6}{w:Fh}{K:EL}{W:Wd}{M:St}{t ta tb:TE}{R:`k}
theorem AI{ma:11 Z}(ha:EV Er ta M W (pk R) ma):4 (dO C3 ta<|cM bc) isB (ma.bind λa=>.ok<|!a.isEmpty):=41 W1 e1 _ (40 k<|by
  obtain⟨p,vs,rfl,h1,h2⟩:=hx;refine⟨`M,λq hq=>⟨p,q,vs,`a,`a,?_,aG,?_⟩⟩;·rw[aJ (λz=>by rw[z]at h1;rw[hq]at h1;cases h1)];exact h1
  ·have:vs.isEmpty=a.isEmpty:=by
    have:=h2.1;cases vs<;>cases a<;>simp at this ⊢
   rw[this];exact ka (.bl (!a.isEmpty)) (W2.mut q (.lst [])<|W2.gnone hq) (e2.trans<|.own _ hq) `a)
theorem LR.up{ps:`r}{vs:`u}{H H':Hp}[Mono R](h:LR R H ps vs)(e:Same H H'):LR R H' ps vs:=⟨h.1,λi v m a b=>ED e<|h.2 i v m a b⟩
theorem qM{ma:Res `l}{mb:Res `A}(ha:4 ta (isT2 K isI isI) ma)(hb:EV Er tb M W (pk<|isT2 K isI isI) mb):4 (dO (C4 K true) ta tb) isB (ma.bind λa=>mb.bind λb=>.ok<|!b.contains a):=41 W1 e1 _ (40 k<|hb W2 `D _ (5 ka λb kb y W3 e3 hy=>by
  obtain⟨p,vs,rfl,h1,h2⟩:=hy;exact⟨a,b,p,vs,`a,ED W3.ok<|ED (R:=isT2 K isI isI) e3.g hx,GD h1,h2.up W3.ok,kb _ W3 `L `a⟩))
end
end Wb
namespace Wb
open PySem PySem.W PySem.Calls PyProof.Rows
section
variable{prog:F6}{w:Fh}{K:Type}[DecidableEq K]{knd:KeyKind prog w K}{A:FR}{E:8 EM EN}{s:EN}
theorem qN{a x:Addr}{o:Obj}{es:Array (Int×EM)}{ep:Nat}{t:G6}{led:Bool}{ks:List (List K)}{kx:List K}(hu:A.units<cLine)(S:SetT knd `p a led ks o es ep t)(hn:es.size<1000)(hx:GI knd `p kx x)(hI:∀k∈kx,∀v,1 (knd.is k v)->∃i t,v=.int i t){Q:8 Bool EN}
  (h1:kx∈ks->Q false {s with toks:=s.toks+(kx.length+1)}) (h2:kx∉ks->∀h' ks' o' es' ep' t',Fg a s.heap h'->SetT knd h' a led ks' o' es' ep' t'->ks'.Perm (kx::ks)->es'.toList.Perm ((42 kx,.ref x)::es.toList)->Q true {s with heap:=h',toks:=s.toks+(kx.length+1)}):
  21 prog w A (setAdd a<|.ref x) Q E:=by
 unfold setAdd;refine FY (EF<|Kr hu hx ?_);unfold setAddHashed;exact FY (rX (s:={s with toks:=s.toks+(kx.length+1)}) hu S hn hx hI (λhm=>h1 hm) λhm h' ks' o' es' ep' t' a1 a2 a3 a4=>h2 hm h' ks' o' es' ep' t' a1 a2 a3 a4)
end
section
variable{prog:F6}{w:Fh}{A:FR}{R:8 MX EN}{I:Addr}{fp wr:List Addr}{G:8 (Array Nv) (Array Nv)}{n:Nat}{P:8 Nat EM}{St:8 Nat EN}{K:Type}[DecidableEq K]{knd:KeyKind prog w K}
def wC(adr:Nat->Addr)(n:Nat)(es:Array (Int×EM)):Prop:=∀e∈es.toList,∃j,j<n/\e.2=.ref (adr j)
theorem lK{h h':Heap}{S:Addr}{led:Bool}{ks:List (List K)}{o:Obj}{es:Array (Int×EM)}{ep:Nat}{t:G6}{adr:Nat->Addr}(T:SetT knd h S led ks o es ep t)(F:wC adr n es)(hw:∀j,j<n->adr j∉wr)(hS:S∉wr)(hk:∀b ob,b∉wr->34 b ob->37 b ob):SetT knd h' S led ks o es ep t:=
 ⟨hk S _ hS T.at_,T.ex,T.dat,T.tab,⟨T.tup.len,λi e he=>by
  obtain⟨k,b,q1,q2,⟨ob,items,m,g1,g2,g3,g4⟩,q4⟩:=T.tup.at_ i e he;obtain⟨j,hj,ej⟩:=F e (F3 he);have:b=adr j:=by rw[q2]at ej;cases ej;rfl
  exact⟨k,b,q1,q2,⟨ob,items,m,hk b ob (by rw[this];exact hw j hj) g1,g2,g3,g4⟩,q4⟩⟩,T.nd,T.led,T.pl⟩
theorem u5(W:WalksS prog w A.in1 I fp wr G n P St)(S:Addr)(hSf:S∉fp)(led:Bool)(hu:A.in1.units<cLine)(val:Nat->List K)(adr:Nat->Addr)(hval:∀i v,P i v->v=.ref (adr i))(hI:∀i,∀k∈val i,∀v,1 (knd.is k v)->∃j t,v=.int j t)(hn:n<1000)(hw:∀i,i<n->adr i∉wr):
  ∀(k i:Nat)(s:EN)(ks:List (List K))(o:Obj)(es:Array (Int×EM))(ep:Nat)(t:G6),n-i=k->i<=n->St i s->SetT knd `p S led ks o es ep t->ks.length<=i->(∀q,q∈ks↔∃j,j<i/\val j=q)->(∀j,j<n->GI knd `p (val j) (adr j))->wC adr n es->(∀s' ks' o' es' ep' t',Moved (S::wr) G s s'->SetT knd s'.heap S led ks' o' es' ep' t'->(∀q,q∈ks'↔∃j,j<n/\val j=q)->wC adr n es'->R (.ok<|.ret .none) s')->codeAny (model prog w) A (.builtin "set.update.loop" ⟨[.ref S,.ref I],[]⟩) R s:=by
 have hSw:S∉wr:=λh=>hSf (W.sub _ h);have hsub:∀b∈wr,b∈S::wr:=λb hb=>Fe _ hb;intro k
 induction k with
 |zero=>
  intro i s ks o es ep t hk hi hst hS hl hm hkey hF hR;have hin:i=n:=`b
  subst hin;refine K5 La ?_;rw[JV Il _];show wpAny _ A.in1 (pyNext (.ref I)>>=_) _ _ s;refine EF (W.done s _ _ hst λs' hmv=>?_);show wpAny _ A.in1 (ret FZ) _ _ s';exact EK (hR s' ks o es ep t (hmv.mono hsub) (lK hS hF hw hSw hmv.heap) hm hF)
 |succ k ih=>
  intro i s ks o es ep t hk hi hst hS hl hm hkey hF hR;have hlt:i<n:=`b
  refine K5 La ?_;rw[JV Il _];show wpAny _ A.in1 (pyNext (.ref I)>>=_) _ _ s;refine EF (W.item i s _ _ hlt hst λv s' hP hst' hmv=>?_);obtain rfl:=hval i v hP;have hS':=lK hS hF hw hSw hmv.heap;have hkey':∀j,j<n->GI knd s'.heap (val j) (adr j):=λj hj=>by
   obtain⟨ob,items,m,g1,g2,g3,g4⟩:=hkey j hj;exact⟨ob,items,m,hmv.heap _ _ (hw j hj) g1,g2,g3,g4⟩
  have hsz:es.size=ks.length:=by have:=hS.tup.len;simpa using this
  show wpAny _ A.in1 (holding [G8 (adr i)] (setAdd S<|.ref<|adr i)>>=_) _ _ s';refine EF (FY<|qN hu hS' `b (hkey' i hlt) (hI i) (λhmem=>?_) λhmem h' ks' o' es' ep' t' a1 a2 a3 a4=>?_)
  ·refine EK ⟨Mg Il _,ih (i+1) _ ks o es ep t `b hlt (W.frame _ s' _ _ hst' (G9 ..) λb hb o e=>e) hS' `b (λq=>?_) hkey' hF λs'' ks' o' es' ep' t' hm'' b1 b2 b3=>?_⟩
   ·rw[hm];constructor;·rintro ⟨j,hj,e⟩;exact⟨j,`b,e⟩
    ·rintro ⟨j,hj,e⟩;by_cases z:j<i;·exact⟨j,z,e⟩
     ·have:j=i:=`b
      subst this;exact(hm q).mp (e▸hmem)
   ·exact hR s'' ks' o' es' ep' t' (P9 W.gtrans ((hmv.mono hsub).then_heap (G9 ..) λb o hb e=>e) hm'') b1 b2 b3
  ·have nS:∀j,j<n->adr j≠S:=λj hj z=>by
    obtain⟨ob,items,m,g1,g2,g3,g4⟩:=hkey' j hj;rw[z,hS'.at_]at g1;cases g1;rw[hS'.dat]at g3;cases g3
   refine EK ⟨Mg Il _,ih (i+1) _ ks' o' es' ep' t' `b hlt (W.frame _ s' _ _ hst' (G9 ..) λb hb o e=>?_) a2 (by have:=a3.length_eq;simp at this;omega) (λq=>?_) (λj hj=>?_) (λe he=>?_) λs'' ks'' o'' es'' ep'' t'' hm'' b1 b2 b3=>?_⟩;·rw[a1.2 b (λh:b=S=>hSf (by rw[<-h];exact hb))];exact e
   ·rw[a3.mem_iff,F0,hm];constructor
    ·rintro (rfl | ⟨j,hj,e⟩);·exact⟨i,`b,`a⟩
     ·exact⟨j,`b,e⟩
    ·rintro ⟨j,hj,e⟩;by_cases z:j<i;·exact .inr ⟨j,z,e⟩
     ·have:j=i:=`b
      subst this;exact .inl e.symm
   ·obtain⟨ob,items,m,g1,g2,g3,g4⟩:=hkey' j hj;exact⟨ob,items,m,(a1.2 _<|nS j hj).trans g1,g2,g3,g4⟩
   ·rcases F0.mp (a4.mem_iff.mp he)with rfl | he;·exact⟨i,hlt,`a⟩
    ·exact hF e he
   ·refine hR s'' ks'' o'' es'' ep'' t'' (P9 W.gtrans ((hmv.mono hsub).then_heap (G9 ..) λb o hb e=>?_) hm'') b1 b2 b3;rw[a1.2 b (λh:b=S=>hb (by rw[h];exact Fc))];exact e
end
section
variable{prog:F6}{w:Fh}{K:Type}[DecidableEq K]{knd:KeyKind prog w K}{A:FR}{E:8 EM EN}{s:EN}
theorem m7(a:EM){Q₁:8 EM EN}(h:Q₁ (`X) {s with heap:=s.heap.push (L2.set0 w)}):
  codeAny (model prog w) A (.call (.builtin "set.__new__") ⟨[.type "set",a],[]⟩) (wants Q₁ E) s:=by
 refine Lv ?_;show wpAny _ A.in1 (do checkBuiltinCall "set.__new__" ⟨[.type "set",a],[]⟩;again (.builtin "set.__new__" ⟨[.type "set",a],[]⟩)) _ _ s;refine EF (KJ (F.newCall_set_1 a)<|EK ⟨Mg Nr _,K5 F.entry_set_new ?_⟩);rw[JV Nr _];unfold HG.«set.__new__» NO;have hsub:=sub_set_self;obtain⟨hp,g,d,tk,os⟩:=s;dsimp only
 wp_walk
 refine HK `y;dsimp only;simp only[newObj];refine EF (wpAny_alloc `y);exact EK h
theorem C6{h:Heap}{S:Addr}(hS:34 S (L2.set0 w)):SetT knd h S (!w.params.followText "set-order") [] (L2.set0 w) #[] 0 (.fresh 0 0<|!w.params.followText "set-order"):=
 ⟨hS,⟨`a,`a,`a⟩,`a,⟨⟨rfl,rfl,λa b _ hb=>by simp[Kt]at hb,λj⟨a,ha,_⟩=>by simp[Kt]at ha,`G,λi h e=>by simp at e⟩,by show 0*5<7*3;decide⟩,⟨`a,λi e he=>by simp at he⟩,HM,`a,`a⟩
theorem u6{l:Addr}{items:Array EM}{val:Nat->List K}{adr:Nat->Addr}{Q:8 EM EN}(hh:A.handled=`c)(hu:A.units+3<cLine)(hl:s.heap.IsList l items)(hit:∀(i:Nat)(v:EM),0 items[i]? v->v=.ref (adr i))(hkey:∀j,j<items.size->GI knd `p (val j) (adr j))(hI:∀i,∀k∈val i,∀v,1 (knd.is k v)->∃j t,v=.int j t)(hb:items.size<1000)
  (h:∀h' tk ks o es ep t,SetT knd h' s.heap.objs.size (!w.params.followText "set-order") ks o es ep t->(∀q,q∈ks↔∃j,j<items.size/\val j=q)->wC adr items.size es->(∀b o,b<`P->23 b o->37 b o)->Q (`X) {s with heap:=h',toks:=tk}):
  21 prog w A (call (.type "set") [.ref l]) Q E:=by
 obtain⟨c,tl,hmro⟩:=IA.mro;have hmade:=IA.made;have hsub:=IA.sub;refine wpAny_call (Lv ?_);show wpAny _ _ (callAny (.type "set") _) _ _ _;refine EK ⟨Code.quiet_builtin _ ⋯,K5 F.entry_type_call ?_⟩;rw[Around.under_plain (weight_type_call_type "set" [.ref l] []) `a];have h1:=IA.notType;have h2:=IA.canCreate;have hct:=F.typeCall_set_1 (.ref l)
 repeat (any_goals (first|assumption|wp_step))
 refine J4 (m7 (.ref l) (E:=E) (Q₁:=λobj s₁=>obj=.ref s.heap.objs.size/\s₁={s with heap:=s.heap.push (L2.set0 w)}) ⟨`a,`a⟩) λr s₁ hr=>?_;cases r with
 |error e=>exact hr
 |ok fl=>
  cases fl with
  |ret obj=>
   obtain⟨rfl,rfl⟩:=hr;have hS:0 ((s.heap.push<|L2.set0 w).get? `P) (L2.set0 w):=ES _ `a;have hT:Shared.TypeIs {s with heap:=s.heap.push (L2.set0 w)} (`X) "set":=9 hS `a
   have hli:=IA.init.lookup;have hbi:=IA.init.bind `X
   repeat (any_goals (first|assumption|wp_step))
   refine J4 (M0 (R:=wants (λr s₂=>r=.none/\∃h' tk ks o es ep t,s₂={s with heap:=h',toks:=tk}/\SetT knd h' s.heap.objs.size (!w.params.followText "set-order") ks o es ep t/\(∀q,q∈ks↔∃j,j<items.size/\val j=q)/\wC adr items.size es/\
     (∀b o,b<`P->23 b o->37 b o)) E) IA.init.plain F.entry_set_init<|check_set_init_1 hT ?_) λr₂ s₂ hr₂=>?_
   ·obtain⟨ol,hol,hcl,nl,hdl⟩:=hl;obtain⟨ocls,odict,odata,oslots⟩:=ol;simp only at hcl hdl;subst hcl;subst hdl;have hol':(s.heap.push<|L2.set0 w).get? l=some {cls:=.type "list",dict:=odict,data:=.seq items nl,slots:=oslots}:=EI _ hol;have hsls:=F.sub_list_set;have hslf:=F.sub_list_frozenset;have hne:(HW "list"==HW "dict")=`g:=`M
    have hl1:(s.heap.push<|L2.set0 w).IsList l items:=⟨_,hol',`a,nl,`a⟩
    have hS2:(s.heap.push<|L2.set0 w).get? s.heap.objs.size=some {cls:=.type "set",dict:=none,data:=.set #[] 0 (.fresh 0 0<|!w.params.followText "set-order")}:=hS;unfold HG.«set.__init__» noKeywords Nt;generalize hPI:pyIter=PI
    wp_walk
    subst hPI;refine Js hl1 ?_;refine EF (wpAny_runValue ?_);have hlS:l<`P:=EU hol;have hh3:A.in1.in1.in1.handled=`c:=by simp[hh]
    have hneI:l≠(s.heap.push<|L2.set0 w).objs.size:=by
     rw[FO];exact Fd (HA hlS)
    have hSf:`P∉[(s.heap.push<|L2.set0 w).objs.size,l]:=by
     rw[FO];simp only[F0,H9,Fp,or_false,not_or];exact⟨Fd<|Ig _,HU hlS⟩
    have hlt:∀j,j<items.size->adr j<`P:=λj hj=>by
     obtain⟨ob,_,_,g1,_⟩:=hkey j hj;exact EU g1
    refine u5 (knd:=knd) ((Walks.list hh3 _ l hneI items).toS) s.heap.objs.size hSf (!w.params.followText "set-order") (show A.units+3<cLine from hu) val adr hit hI hb (λj hj=>?_) (items.size-0) 0 _ [] (L2.set0 w) #[] 0 _ (`b) (LV _)
     ⟨⟨_,ES _ `a,`a,`a⟩,hl1.push _⟩ (C6<|EI _ hS) (EX _) (λq=>Iff.intro (λz=>absurd z Fp) λz=>(by obtain⟨j,hj,_⟩:=z;exact absurd hj (Lx _))) (λj hj=>?_) (λe he=>by simp at he) ?hR
    case hR=>
     intro s' ks o es ep t hm hS' hq hF;obtain⟨h',g',d',tk',os'⟩:=s';have eg:g'=s.gens:=hm.gens;have ed:d'=s.drawn:=hm.drawn;have eo:os'=s.os:=hm.os;subst eg;subst ed;subst eo;show wpAny _ _ _ _ _ _;refine `y;show wpAny _ _ (ret FZ) _ _ _;refine EK ⟨`a,h',tk',ks,o,es,ep,t,`a,hS',hq,hF,λb o hb e=>?_⟩;have hb1:b≠`P:=Fd hb;have hb2:b≠(s.heap.push<|L2.set0 w).objs.size:=by
      rw[FO];exact Fd (HA hb)
     exact hm.heap b o (by simp only[F0,H9,Fp,or_false,not_or];exact⟨hb1,hb2⟩) (EI _<|EI _ e)
    ·simp only[F0,H9,Fp,or_false];rw[FO];exact Fd (HA<|hlt j hj)
    ·obtain⟨ob,its,m,g1,g2,g3,g4⟩:=hkey j hj;exact⟨ob,its,m,EI _<|EI _ g1,g2,g3,g4⟩
   ·cases r₂ with
    |error e=>exact hr₂
    |ok fl₂=>
     cases fl₂ with
     |ret r=>
      obtain⟨rfl,h',tk,ks,o,es,ep,t,rfl,hS',hq,hF,hk'⟩:=hr₂
      repeat (any_goals (first|assumption|wp_step))
      exact h _ _ _ _ _ _ _ hS' hq hF hk'
     |_=>exact hr₂.elim
  |_=>exact hr.elim
end
section
variable{prog:F6}{w:Fh}{K:Type}[DecidableEq K]{knd:KeyKind prog w K}{A:FR}{E:8 EM EN}{s:EN}
theorem wD{a x:Addr}{o:Obj}{es:Array (Int×EM)}{ep:Nat}{t:G6}{led:Bool}{ks:List (List K)}{kx:List K}(hu:A.units<cLine)(S:SetT knd `p a led ks o es ep t)(hx:GI knd `p kx x)(hI:∀k∈kx,∀v,1 (knd.is k v)->∃i t,v=.int i t){Q:8 `S EN}{fuel:Nat}
  (h:∀r:Option Nat,r.isSome=decide (kx∈ks)->Q r s):21 prog w A (setFindIn a (.ref x) (42 kx)<|fuel+1) Q E:=by
 unfold setFindIn;refine EF (GK S.at_ S.dat S.tab.fits ?_);dsimp only;rw[Z1 (by unfold byScan;simp[Nl])];obtain⟨G,g1,g2,g3⟩:=S.tab.gap (pC t<|42 kx);have mem:∀i,i<es.size->0 ks[i]? kx->∃k,k<G/\t.place.getD i 0=(29 k<|t.probeStart<|42 kx).j:=λi hi z=>by
  have hi':i<es.toList.length:=by simpa using hi
  obtain⟨k,b,q1,q2,q3,q4⟩:=S.tup.at_ i es.toList[i] (EH hi');rw[q1]at z;cases z;obtain⟨n,r1,r2⟩:=S.tab.reach i (42 kx) (by rw[ET,EH hi',<-q4];rfl);refine⟨n,?_,r1.symm⟩;by_cases y:n<G;·exact y
  ·by_cases y2:n=G
   ·subst y2;refine absurd ?_ g2;rw[r1];exact⟨i,by have:=S.tab.sz;simp at this;omega,rfl⟩
   ·exact absurd (r2 G `b) g2
 refine EF ?_;unfold setSearch;have ht:t.mask<=2047:=by rcases S.tab.msk with z|z|z|z|z<;>omega
 refine lB (knd:=knd) hu S.at_ S.dat S.tab S.tup hx (λl Q hl h=>pF hx l (λy hy=>?_) h) 100000 G `c `a (by unfold GB at g1;omega) g1 g2 g3 ?_ ?_
 ·obtain⟨e,he,rfl⟩:=hl y hy;obtain⟨i,hi,rfl⟩:=Gh.mp he;obtain⟨k,b,q1,q2,q3,q4⟩:=S.tup.at_ i es.toList[i] (EH hi);exact⟨k,b,q2,q3⟩
 ·rintro ⟨k,i,_,_,hq⟩ r hr;exact EK (h r (by rw[hr,decide_eq_true (F3 hq)];rfl))
 ·intro hall;have nin:kx∉ks:=λhm=>by
   obtain⟨i,hi,e⟩:=Gh.mp hm;have hi':i<es.size:=by have:=S.tup.len;simp at this;omega
   have hq:0 ks[i]? kx:=by rw[EH hi,e]
   obtain⟨k,q1,q2⟩:=mem i hi' hq;exact hall k i q1 q2 hi' hq
  exact EK (h `c (by rw[decide_eq_false nin];rfl))
theorem o9{a x:Addr}{o:Obj}{es:Array (Int×EM)}{ep:Nat}{t:G6}{led:Bool}{ks:List (List K)}{kx:List K}(hu:A.units+1<cLine)(S:SetT knd `p a led ks o es ep t)(hx:GI knd `p kx x)(hI:∀k∈kx,∀v,1 (knd.is k v)->∃i t,v=.int i t){Q:8 EM EN}
  (h:Q (.bool<|!decide (kx∈ks)) {s with toks:=s.toks+(kx.length+1)}):21 prog w A (compareOp .NotIn (.ref x)<|.ref a) Q E:=by
 have hT:s.TypeIs (.ref a) "set":=⟨o,S.at_,S.ex.1⟩
 show wpAny _ _ (do return .bool (!(<-contains (.ref a) (.ref x)))) Q E s;refine EF ?_;unfold contains
 try with_reducible refine FY ?_
 refine EF (Jd hT Kf.lookup ?_);show wpAny _ _ (if 1 (some (Value.builtin "set.__contains__")==some FZ) then _ else _) _ E s;rw[Z1 (by rw[beq_builtin_none];exact F8)];refine EF (wpAny_callSpecialUnlessNone?_slot (name:=EO "__contains__") hT Kf<|Fu Kf hT entry_set_contains ?_<|F.args_set_contains_2 _ _)
 unfold HG.«frozenset.__contains__» Kq;simp only[N6,NG];unfold L1 N8 setContains;refine EF `y
 try dsimp only
 refine EF `y
 try dsimp only
 refine EF (wpAny_tryCatch ?_);refine FY ?_;refine EF (Kr (show A.in1.units<cLine from hu) hx ?_);unfold setFind;refine EF (wD (s:={s with toks:=s.toks+(kx.length+1)}) (fuel:=99999) (show A.in1.units<cLine from hu) S hx hI λr hr=>?_);refine `y;show wpAny _ _ (ret<|Mm r.isSome) _ _ _;rw[hr];exact EK (9 `a<|Hy<|EK h)
end
end Wb
namespace L2
open PySem PySem.Spec PyProof.Rows Wb
def zN(prog:F6)(w:Fh)(K:EL):`u->Hp->VK->Prop:=λxs H Q=>∃(G:Hp)(p:Addr)(vs:List V)(ks:List (Int×Int)),xs=[.ref p]/\Same G H/\SqL K H p vs/\LR (isT2 K isI isI) G ks vs/\ks.length<1000/\∀q o ks',H q=`c->SetH prog w K G o ks'->(∀k,k∈ks'↔k∈ks)->Q (.ref q) (cT H q<|XO q o)
def wF:EM->Addr
 | .ref b=>b
 |_=>0
theorem u7{X:Cx}{P:F6}{w:Fh}{K:EL}(hP:`o=P)(hw:X.w=w)(hK:X.K=K)(hh:X.A.handled=`c)(hu:X.A.units+3<cLine):ee X (.type "set") (zN P w K):=by
 subst hP hw hK;intro Z_ s M H xs us Q I r h;obtain⟨G,p,vs,ks,rfl,eG,hq,lr,hz,q⟩:=h;obtain⟨u,rfl,rx⟩:=ft r;cases rx;obtain⟨its,r',pl,_⟩:=I.list hq;have l1:=r'.length;have l0:=lr.1;have at_:∀(j:Nat)(u:EM)(k:Int×Int),0 its[j]? u->0 ks[j]? k->∃b,u=.ref b/\44 X.K G b:=λj u k h1 h2=>by
  obtain⟨v,h3,h4⟩:=fK r' h1;obtain⟨b,x1,x2,rfl,t1,r1,r2⟩:=lr.2 j v k h3 h2;cases r1;cases r2;exact⟨b,h4,t1⟩
 have at2:∀j,j<its.length->∃k,0 ks[j]? k/\ks.getD j (0,0)=k/\0 its[j]? (.ref<|wF<|its.getD j .none)/\44 X.K G (wF<|its.getD j .none):=λj hj=>by
  have z2:j<ks.length:=`b
  obtain⟨b,h1,h2⟩:=at_ j its[j] ks[j] (EH hj) (EH z2);refine⟨ks[j],EH z2,by rw[F4,EH z2];rfl,?_,?_⟩;·rw[F4,EH hj,GQ,h1];rfl
  ·rw[F4,EH hj,GQ,h1];exact h2
 have hkey:∀j,j<its.toArray.size->GI (mixKind `o X.w) `p (gE<|ks.getD j (0,0)) (wF<|its.getD j .none):=λj hj=>by
  obtain⟨k,_,e,_,h4⟩:=at2 j (by simpa using hj);rw[e];exact eW I (GL eG h4)
 refine u6 (knd:=mixKind `o X.w) (val:=λj=>gE (ks.getD j (0,0))) (adr:=λj=>wF (its.getD j .none)) hh hu pl.isList (λi v hv=>?_) hkey (λi=>Ay) (by rw[EW];omega) λh' tk ks' o es ep t S hq2 hF hk=>?_
 ·have hv:0 its[i]? v:=by simpa using hv
  obtain⟨k,_,_,h3,_⟩:=at2 i (ER.mp hv).1;rw[hv]at h3;exact Ft h3
 ·have hk0:∀b ob,23 b ob->37 b ob:=λb ob z=>hk b ob (EU z) z;have form:∀kk∈ks',∃k,kk=gE k/\k∈ks:=λkk hkk=>by
   obtain⟨j,hj,e⟩:=(hq2 kk).mp hkk;obtain⟨k,h1,e2,_⟩:=at2 j (by simpa using hj);exact⟨k,by rw[<-e,<-e2],F3 h1⟩
  refine⟨`X,_,I.laid (a:=s.heap.objs.size) (t':=tk) hk0 (EX _)<|OD S.at_,`a,q _ o (ks'.map qy) (I.hok.fresh<|EX _) ⟨es,ep,t,⟨S.ex,S.dat,S.tab,S.led,S.pl⟩,⟨by rw[EY];exact S.tup.len,λi e he=>?_⟩,?_⟩ λk=>?_⟩
  ·obtain⟨kk,b,q1,q2,q3,q4⟩:=S.tup.at_ i e he;obtain⟨j,hj,ej⟩:=hF e (F3 he);obtain⟨k,_,e2,_,h4⟩:=at2 j (by simpa using hj);have eb:b=wF (its.getD j .none):=by rw[q2]at ej;cases ej;rfl
   have e0:kk=gE k:=q3.inj (by
    obtain⟨ob,items,m,g1,g2,g3,g4⟩:=hkey j hj;rw[e2]at g4;rw[eb];exact⟨ob,items,m,hk0 _ _ g1,g2,g3,g4⟩)
   subst e0;exact⟨k,b,by rw[ET,q1];rfl,q2,by rw[eb];exact h4,q4⟩
  ·rw[Gb,IQ];refine(Gb.mp S.nd).imp_of_mem λ{a b}ha hb hne e=>hne ?_;obtain⟨k1,rfl,_⟩:=form a ha;obtain⟨k2,rfl,_⟩:=form b hb;rw[iM,iM]at e;rw[e]
  ·rw[Fo];constructor
   ·rintro ⟨kk,hkk,rfl⟩;obtain⟨k,rfl,hm⟩:=form kk hkk;rw[iM];exact hm
   ·intro hm;obtain⟨j,hj,e⟩:=Gh.mp hm;refine⟨gE k,(hq2 _).mpr ⟨j,by rw[EW];omega,?_⟩,iM k⟩;show gE (ks.getD j (0,0))=gE k;rw[F4,EH hj,GQ,e]
def C7(prog:F6)(w:Fh)(K:EL):R2:=λx y H Q=>∃G a o ks b k,y=.ref a/\Same G H/\0 (H a) (XO a o)/\SetH prog w K G o ks/\x=.ref b/\44 K G b/\Q (.bl<|!decide (k∈ks)) H
theorem u9{X:Cx}{P:F6}{w:Fh}{K:EL}(hP:`o=P)(hw:X.w=w)(hK:X.K=K)(hu:X.A.units+1<cLine):OpR X (compareOp .NotIn) (C7 P w K):=by
 subst hP hw hK;intro Z_ s M H x y v u Q I rx ry h;obtain⟨G,a,o,ks,b,k,rfl,eG,ha,⟨es,ep,t,R,T,nd⟩,rfl,hb,hq⟩:=h;cases rx;cases ry;have hDo:23 a o:=(I.hok a _ ha).1;have U:TupsOf (mixKind `o X.w) `p es.toList (ks.map gE):=⟨by rw[EY];exact T.len,λi e hi=>by
  obtain⟨k,b,q1,q2,q3,q4⟩:=T.at_ i e hi;exact⟨gE k,b,by rw[ET,q1];rfl,q2,eW I (GL eG q3),q4⟩⟩
 have S:SetT (mixKind `o X.w) `p a (!X.w.params.followText "set-order") (ks.map gE) o es ep t:=⟨hDo,R.ex,R.dat,R.tab,U,MS _ (λa b hab e=>hab<|iL e) nd,R.led,R.pl⟩
 refine o9 hu S (eW I<|GL eG hb) Ay ⟨.bl _,H,I.tok _,`a,?_⟩;have e:∀inst:Decidable (gE k∈ks.map gE), @decide (gE k∈ks.map gE) inst=decide (k∈ks):=λinst=>by
  rw[Ga,decide_eq_true_iff,decide_eq_true_iff,Fo];exact⟨λ⟨k',h1,h2⟩=>iL h2▸h1,λh=>⟨k,h,`a⟩⟩
 rw[e];exact hq
end L2
namespace Wb
open PySem L2 Mi
theorem AJ{k:Nat}{A:FR}(r:Room k A):A.units+3<P6:=by have:=r.un;omega
section
variable{Er:Nat->Prop}{P:F6}{w:Fh}{K:EL}{W:Wd}{M:St}{ta tb:TE}
def isST(prog:F6)(w:Fh)(K:EL):Rp `A:=λG ks v=>∃p o ks',v=`E/\0 (G p) (XO p o)/\SetH prog w K G o ks'/\∀k,k∈ks'↔k∈ks
theorem setH_same{G G':Hp}{o:Obj}{ks:`A}(h:SetH P w K G o ks)(e:Same G G'):SetH P w K G' o ks:=by
 obtain⟨es,ep,t,R,T,nd⟩:=h;exact⟨es,ep,t,R,⟨T.len,λi x hx=>by
  obtain⟨k,b,q1,q2,q3,q4⟩:=T.at_ i x hx;exact⟨k,b,q1,q2,GL e q3,q4⟩⟩,nd⟩
instance zkeep71:Mono (isST P w K):=⟨λe⟨p,o,ks',h0,h1,h2,h3⟩=>⟨p,o,ks',h0,e _ _ h1,setH_same h2 e,h3⟩⟩
theorem yE{ma:Res `A}(ha:EV Er ta M W (pk<|isT2 K isI isI) ma):4 (ff (zN P w K)<|ax ta bc) (isST P w K) (36<|eR (a.length<1000) a):=41 W1 e1 _ (40 k<|by
  obtain⟨p,vs,rfl,h1,h2⟩:=hx;obtain⟨h3,h4⟩:=ba ka;exact⟨W2.G,p,vs,a,`a,W2.ok,GD h1,h2,h3,λq o ks' hq hs hm=>h4 (.ref q) (W2.new q<|XO q o) (e2.trans<|.new _ hq) ⟨q,o,ks',`a,aG,setH_same hs (M5 _ hq).g,hm⟩⟩)
theorem qO{ma:Res `l}{mb:Res `A}(ha:4 ta (isT2 K isI isI) ma)(hb:4 tb (isST P w K) mb):4 (dO (C7 P w K) ta tb) isB (ma.bind λa=>mb.bind λb=>.ok<|!b.contains a):=41 W1 e1 _ (40 k<|hb W2 `D _ (5 ka λb kb y W3 e3 hy=>by
  obtain⟨p,o,ks',rfl,h1,h2,h3⟩:=hy;obtain⟨q,x1,x2,rfl,t1,r1,r2⟩:=ED (R:=isT2 K isI isI) e3.g hx
  cases r1;cases r2;refine⟨W3.G,p,o,ks',q,a,`a,W3.ok,W3.ok _ _ h1,h2,`a,t1,?_⟩;have e:decide (a∈ks')=b.contains a:=by
   rw[Ga,decide_eq_true_iff,IJ,h3]
  rw[e];exact kb _ W3 `L `a))
end
section
variable{Er:Nat->Prop}{Z β γ δ ε ζ η:Type}{t1 t2 t3 t4 t5 t6:TE}{M:St}{W:Wd}{E:XK}{R1:`k}{R2:Rp γ}{R3:Rp δ}{R4:Rp ε}{R5:Rp ζ}{R6:Rp η}[Mono R1][Mono R2][Mono R3][Mono R4][Mono R5][Mono R6]{m1:Res Z}{m2:Res γ}{m3:Res δ}{m4:Res ε}{m5:Res ζ}{m6:Res η}
def yF(R1:`k)(R2:Rp γ)(R3:Rp δ)(R4:Rp ε)(R5:Rp ζ)(R6:Rp η)(rt:Rt β)(m:Z->γ->δ->ε->ζ->η->Res β):Sp:=λvs H Q _=>∃(W:Wd)(a:Z)(b:γ)(c:δ)(d:ε)(e:ζ)(f:η)(v u w x y z:V),W.H=H/\vs=[v,u,w,x,y,z]/\R1 W.G a v/\R2 W.G b u/\R3 W.G c w/\R4 W.G d x/\R5 W.G e y/\R6 W.G f z/\∃Er:Nat->Prop,(m a b c d e f).OkE Er λr=>rt W r Q
theorem wG{R:Rp β}{m:Z->γ->δ->ε->ζ->η->Res β}(h1:4 t1 R1 m1)(h2:4 t2 R2 m2)(h3:4 t3 R3 m3)(h4:4 t4 R4 m4)(h5:4 t5 R5 m5)(h6:4 t6 R6 m6):4 (bu (yF R1 R2 R3 R4 R5 R6 (rs R) m) [] E<|ax t1<|ax t2<|ax t3<|ax t4<|ax t5<|ax t6 bc) R (m1.bind λa=>m2.bind λb=>m3.bind λc=>m4.bind λd=>m5.bind λe=>m6.bind λf=>m a b c d e f):=λW1 e1 Q k=>h1 W1 e1 _ (45 k<|h2 W2 `D _<|5 ka λb kb u W3 e3 hu=>h3 W3 ((`D).trans e3) _<|5 kb λc kc w W4 e4 hw=>h4 W4 (38 `D e3 e4) _<|5 kc λd kd x W5 e5 hx=>h5 W5 (38 ((`D).trans e3) e4 e5) _<|5 kd λe ke y W6 e6 hy=>h6 W6 (38 (38 `D e3 e4) e5 e6) _<|5 ke λf kf z W7 e7 hz=>⟨W7,a,b,c,d,e,f,v,u,w,x,y,z,`a,`a,Ge (R:=sh R1) (38 ((e3.trans e4).trans e5) e6 e7) hv,Ge (R:=sh R2) (38 (e4.trans e5) e6 e7) hu,Ge (R:=sh R3) ((e5.trans e6).trans e7) hw,Ge (R:=sh R4) (e6.trans e7) hx,Ge (R:=sh R5) e7 hy,hz,Er,kf.imp λr kr u W' e hu=>kr u W' (38 (38 ((`L).trans e4) e5 e6) e7 e) hu⟩)
end
end Wb
namespace L2
def insAt{Z:Type}(xs:`r)(k:Nat)(y:Z):`r:=xs.take k++y::xs.drop k
end L2
namespace Mi
def ua{Z:Type}(xs:`r)(i:Int):11 Z:=(eR (`i<=cap) ()).bind λ_=>(gW<|ixN `i i).bind λk=>.ok (xs.eraseIdx k)
def wH{Z:Type}(xs:`r)(i:Int)(y:Z):11 Z:=eR (0<=i/\i<=`i/\`i<cap) (L2.insAt xs i.toNat y)
end Mi
namespace L2
open PySem PySem.Spec PyProof.Rows
theorem jt{Z:Type}{xs:`r}{k:Nat}{y:Z}(hk:k<=`i)(j:Nat):(insAt xs k y)[j]? =if j<k then xs[j]? else if j=k then some y else xs[j-1]? :=by
 unfold insAt;have hl:(xs.take k).length=k:=by rw[GP];omega
 by_cases z:j<k;·rw[Z0 z,F7 `b,G7 z]
 ·rw[Z1 z,F9 `b,hl];by_cases z2:j=k;·rw[Z0 z2,z2,Jx];rfl
  ·rw[Z1 z2,show j-k=(j-k-1)+1 by omega,Gq,Gz,show k+(j-k-1)=j-1 by omega]
theorem fN{Z:Type}{xs:`r}{k:Nat}{y:Z}(hk:k<=`i):(insAt xs k y).length=`i+1:=by
 unfold insAt;rw[FJ,GP,GG,Ha];omega
theorem zO{xs:`u}{us:List EM}{j:Nat}{x:V}{u:EM}(r:Vals xs us)(hx:0 xs[j]? x)(hu:0 us[j]? u):RelV x u:=by
 obtain⟨u',h1,h2⟩:=r.get hx;rw[hu]at h1;cases h1;exact h2
def sk:V->`u->8 Hp VK:=λx vs H Q=>∃l xs i y,x=.ref l/\vs=[.int i,y]/\0 (H l) (.lst xs)/\0<=i/\i<=`i/\`i<sizeLine/\Q .non (cT H l<|.lst<|insAt xs i.toNat y)
theorem mV{X:Cx}:Dt X "list.insert" sk:=by
 intro Z_ s M H x vs v us Q I rx rv h;obtain⟨l,xs,i,y,rfl,rfl,hH,h0,h1,hz,q⟩:=h;cases rx;obtain⟨_,w,rfl,⟨t,rfl⟩,rw'⟩:=mr rv;obtain⟨z,its,n,r,hl,e⟩:=I.lstM hH;have hb: -(2^63)<=i/\i<2^63:=by rw[FE]at hz;omega
 have hil:i.toNat<=its.length:=`b
 refine NB JA (9 e `a) F.entry_list_insert (F.args_list_insert_3 _ _ _) (AutoListH.list_insert_list_int_val_1 l its.toArray n i t w (by simpa using NC hb.1 hb.2) (by rw[EW];omega)) ⟨e,?_⟩;refine⟨.non,_,I.lset (its':=insAt its i.toNat w) hH e ?_ (i9 _ _ (by rw[fN hil,fN `b];omega) λj a b ha hb'=>?_) (by rw[fN `b];omega),`a,q⟩
 ·show(its.toArray.extract 0 (if i<0 then(i+((its.toArray.size:Nat):Int)).toNat else min i.toNat its.toArray.size)).push w++its.toArray.extract (if i<0 then(i+((its.toArray.size:Nat):Int)).toNat else min i.toNat its.toArray.size)=(insAt its i.toNat w).toArray;rw[Z1 `b,EW,Ni hil];unfold insAt;apply Array.ext';simp[Array.toList_extract,List.extract_eq_take_drop];exact HF `f
 ·rw[jt `b]at ha;rw[jt hil]at hb';by_cases z1:j<i.toNat
  ·rw[Z0 z1]at ha hb';exact zO r ha hb'
  ·rw[Z1 z1]at ha hb';by_cases z2:j=i.toNat
   ·rw[Z0 z2]at ha hb';cases ha;cases hb';exact rw'
   ·rw[Z1 z2]at ha hb';exact zO r ha hb'
end L2
namespace Wb
open PySem L2 Mi
section
variable{Er:Nat->Prop}{Z β:Type}{K:EL}{W W' W0:Wd}{M:St}{te ti tp:TE}{D:Ends}{r:TS}{C:Z->List TC}{R:Rf β}[FrT R]
theorem ixN_seq{n:Nat}{i:Int}{k:Nat}(h:0 (Mi.ixN n i) k):seqIndex? i n=some k/\k<n/\ -(n:Int)<=i/\i<n:=by
 unfold Mi.ixN at h;unfold seqIndex?;by_cases z:0<=i
 ·rw[Z0 z]at h;by_cases z2:i<n
  ·rw[Z0 z2]at h;cases h;have e:(if i<0 then i+(n:Int)else i)=i:=Z1 `b;dsimp only;rw[e,Z0 (by simp;omega)];exact⟨`a,`b,`b,`b⟩
  ·rw[Z1 z2]at h;cases h
 ·rw[Z1 z]at h;by_cases z2: -(n:Int)<=i
  ·rw[Z0 z2]at h;cases h;have e:(if i<0 then i+(n:Int)else i)=i+n:=Z0 `b;dsimp only;rw[e,Z0 (by simp;omega)];exact⟨`a,`b,`b,`b⟩
  ·rw[Z1 z2]at h;cases h
theorem TL.erase{Fs:Nat->FS}{xs:List β}{vs:`u}(t:TL R W Fs xs vs){k:Nat}(hk:k<`i)(h:∀j x u,0 xs[j]? x->0 vs[j]? u->R W (Fs j) x u->R W' (Fs j) x u):TL R W' (λj=>if j<k then Fs j else Fs (j+1)) (xs.eraseIdx k) (vs.eraseIdx k):=by
 have key:∀j q,(if j<k then Fs j else Fs (j+1)) q->j<k/\Fs j q\/k<=j/\Fs (j+1) q:=λj q h=>by
  by_cases z:j<k;·exact .inl ⟨z,by simpa [Z0 z] using h⟩
  ·exact .inr ⟨`b,by simpa [Z1 z] using h⟩
 refine⟨by rw[Hc,Hc,t.len],λj x u a b=>?_,λj q hq=>?_,λj j2 q q1 q2=>?_⟩
 ·by_cases z:j<k
  ·rw[K1 z]at a b;simp only[Z0 z];exact h j x u a b (t.el j x u a b)
  ·rw[K2 `b]at a b;simp only[Z1 z];exact h (j+1) x u a b (t.el (j+1) x u a b)
 ·rw[Hc,Z0 hk];rcases key j q hq with⟨a,b⟩|⟨a,b⟩
  ·omega
  ·have:=t.rng _ q b;omega
 ·rcases key j q q1 with⟨a,b⟩|⟨a,b⟩<;>rcases key j2 q q2 with⟨c,d⟩|⟨c,d⟩<;>have:=t.dj _ _ q b d<;>omega
theorem mW{mp:Res (List β×(List β->Z))}{mi:`C}(E:12 W)(hp:EV Er tp M W (Lens W0 C<|oL R) mp)(hi:4 ti isI mi)(q:(mp.bind λp=>mi.bind λj=>(ua p.1 j).bind λb=>.ok<|p.2 b).OkE Er λa'=>∀W',Same W.G W'.G->12 W'->Sep W0 W' (C a')->D.nx M W'.H):
  bK (fS K "list" uH tp<|ax ti bc) D M W.H:=hp W `q _ (5 q λp kp u W1 e1 l=>by
 obtain⟨p0,vs0,hl0⟩:∃p0 vs0,u=.ref p0/\0 (W1.H p0) (.lst vs0):=by
  obtain⟨F,⟨p0,vs,Fs,e,g,hl,_⟩,_⟩:=l;exact⟨p0,vs,e,hl⟩
 obtain⟨rfl,hl0⟩:=hl0;refine⟨.inl ⟨`a,vs0,GD hl0⟩,hi W1 e1 _<|5 kp λj kj v W2 e2 hv=>?_⟩;cases hv;obtain⟨F,⟨p1,vs,Fs,e,g,hl,t,np,hF⟩,n,up⟩:=(Ge e2 l:Lens W0 C (oL R) W2 p (.ref p0))
 cases e;obtain⟨hcap,kj⟩:=ba (EE<|EE kj);obtain⟨k,h3,h4⟩:=dR (EE kj);obtain⟨s1,s2,s3,s4⟩:=ixN_seq h3;have hvl:k<`O:=by rw[t.len];exact s2
 have hp0:F p0:=(hF p0).mpr `G;have hsz:`O<=100000:=by rw[t.len];exact hcap
 refine⟨p0,vs,j,k,vs[k],rfl,rfl,hl,by rw[<-t.len]at s3;omega,by rw[<-t.len]at s4;omega,by rw[t.len];exact s1,EH hvl,h4 (W2.mut p0 (.lst<|vs.eraseIdx k) g) (`D).g (((E.trans e1).trans e2).mut (n p0 hp0) g) (up _ (λq=>q=p0\/∃j,(if j<k then Fs j else Fs (j+1)) q) _ ((PR (F:=(· =p0)) `a g).up λq hq=>by rw[hq];exact hp0) (λq hq=>?_) ⟨p0,vs.eraseIdx k,_,rfl,g,aG,t.erase s2 λj x u _ _ r=>PU r (PR (F:=(· =p0)) `a g) λq a b=>np j<|b▸a,λj hj=>?_,λq=>M4⟩)⟩
 ·rcases hq with rfl | ⟨j,hj⟩
  ·exact .inl hp0
  ·split at hj;·exact .inl ((hF q).mpr<|.inr ⟨_,hj⟩)
   ·exact .inl ((hF q).mpr<|.inr ⟨_,hj⟩)
 ·split at hj;·exact np _ hj
  ·exact np _ hj)
theorem EV.tr{R':Rp β}{m:Res β}(h:4 te R' m):EVt Er te M W (fz R') m:=λW1 e1 Q k=>h W1 e1 Q (k.imp λa ka v W2 e2 hv=>ka v W2 (λ_=>False) e2 (λ_ z=>z.elim) ⟨λ_ z=>z,hv⟩)
theorem TL.ins{Fs:Nat->FS}{F2:FS}{xs:List β}{vs:`u}{x:β}{u:V}(t:TL R W Fs xs vs){k:Nat}(hk:k<=`i)(h:∀j x u,R W (Fs j) x u->R W' (Fs j) x u)(hx:R W' F2 x u)(dj:∀j q,Fs j q->F2 q->False):TL R W' (λj=>if j<k then Fs j else if j=k then F2 else Fs (j-1)) (insAt xs k x) (insAt vs k u):=by
 have hkv:k<=`O:=by rw[t.len];exact hk
 have key:∀j q,(if j<k then Fs j else if j=k then F2 else Fs (j-1)) q->j<k/\Fs j q\/j=k/\F2 q\/k<j/\Fs (j-1) q:=λj q h=>by
  by_cases z:j<k;·exact .inl ⟨z,by simpa [Z0 z] using h⟩
  ·rw[Z1 z]at h;by_cases z2:j=k;·exact .inr (.inl ⟨z2,by simpa [Z0 z2] using h⟩)
   ·exact .inr (.inr ⟨`b,by simpa [Z1 z2] using h⟩)
 refine⟨by rw[fN hk,fN hkv,t.len],λj y v a b=>?_,λj q hq=>?_,λj j2 q q1 q2=>?_⟩
 ·rw[jt hk]at a;rw[jt hkv]at b;by_cases z:j<k
  ·rw[Z0 z]at a b;simp only[Z0 z];exact h j y v (t.el j y v a b)
  ·rw[Z1 z]at a b;simp only[Z1 z];by_cases z2:j=k
   ·rw[Z0 z2]at a b;cases a;cases b;simp only[Z0 z2];exact hx
   ·rw[Z1 z2]at a b;simp only[Z1 z2];exact h _ y v (t.el _ y v a b)
 ·rw[fN hk];rcases key j q hq with⟨a,_⟩|⟨a,_⟩|⟨a,b⟩
  ·omega
  ·omega
  ·have:=t.rng _ q b;omega
 ·rcases key j q q1 with⟨a,b⟩ | ⟨a,b⟩ | ⟨a,b⟩ <;> rcases key j2 q q2 with⟨c,d⟩ | ⟨c,d⟩ | ⟨c,d⟩
  ·exact t.dj _ _ q b d
  ·exact(dj _ q b d).elim
  ·have:=t.dj _ _ q b d;omega
  ·exact(dj _ q d b).elim
  ·omega
  ·exact(dj _ q d b).elim
  ·have:=t.dj _ _ q b d;omega
  ·exact(dj _ q b d).elim
  ·have:=t.dj _ _ q b d;omega
theorem sm{mp:Res (List β×(List β->Z))}{mi:`C}{m:Res β}(E:12 W)(hp:EV Er tp M W (Lens W0 C<|oL R) mp)(hi:4 ti isI mi)(h:EVt Er te M W R m)(q:(mp.bind λp=>mi.bind λj=>m.bind λx=>(wH p.1 j x).bind λb=>.ok<|p.2 b).OkE Er λa'=>∀W',Same W.G W'.G->12 W'->Sep W0 W' (C a')->D.nx M W'.H):
  bK (fS K "list" sk tp<|ax ti<|ax te bc) D M W.H:=hp W `q _ (5 q λp kp u W1 e1 l=>by
 obtain⟨p0,vs0,hl0⟩:∃p0 vs0,u=.ref p0/\0 (W1.H p0) (.lst vs0):=by
  obtain⟨F,⟨p0,vs,Fs,e,g,hl,_⟩,_⟩:=l;exact⟨p0,vs,e,hl⟩
 obtain⟨rfl,hl0⟩:=hl0;refine⟨.inl ⟨`a,vs0,GD hl0⟩,hi W1 e1 _<|5 kp λj kj v W2 e2 hv=>h W2 `D _<|5 kj λx kx y W3 F2 e3 hF2 hy=>?_⟩;cases hv;obtain⟨F,⟨p1,vs,Fs,e,g,hl,t,np,hF⟩,n,up⟩:=(Ge e2 l:Lens W0 C (oL R) W2 p (.ref p0))
 cases e;obtain⟨⟨c1,c2,c3⟩,h4⟩:=ba (EE kx);have hl3:0 (W3.H p0) (.lst vs):=e3.h _ _ hl;have g3:W3.G p0=`c:=by rw[e3.k p0 (nn_of hl)];exact g
 have n2:¬F2 p0:=λz=>nn_of hl (hF2 p0 z);have m1:MuF (· =p0) W3 (W3.mut p0 (.lst<|insAt vs j.toNat y) g3):=PR (F:=(· =p0)) `a g3;have hp0:F p0:=(hF p0).mpr `G;have lv:∀j q,Fs j q->W2.H q≠`c:=λj q hq=>by
  obtain⟨_,_,_,_,r⟩:=t.at2 hq;exact(Nb r q hq).2
 have hvl:`O=p.1.length:=t.len;refine⟨p0,vs,j,y,rfl,rfl,hl3,c1,by rw[hvl];exact c2,by rw[hvl,FE];unfold Mi.cap at c3;omega,h4 (W3.mut p0 (.lst<|insAt vs j.toNat y) g3) ((`D).trans e3).g ((38 (E.trans e1) e2 e3).mut (n p0 hp0) g3) (up _ (λq=>q=p0\/∃i,(if i<j.toNat then Fs i else if i=j.toNat then F2 else Fs (i-1)) q) _ (e3.muF.trans (m1.up (F':=F) λq hq=>by rw[hq];exact hp0) λq hq=>.inl hq) (λq hq=>?_) ⟨p0,insAt vs j.toNat y,_,`a,g3,aG,t.ins `b (λi x u r=>PU (OP r e3) m1 λq a b=>np i<|b▸a) (PU hy m1 λq a b=>n2<|b▸a) λi q a b=>lv i q a<|hF2 q b,λi hi=>?_,λq=>M4⟩)⟩
 ·rcases hq with rfl | ⟨i,hi⟩
  ·exact .inl hp0
  ·split at hi;·exact .inl ((hF q).mpr<|.inr ⟨_,hi⟩)
   ·split at hi;·exact .inr (hF2 q hi)
    ·exact .inl ((hF q).mpr<|.inr ⟨_,hi⟩)
 ·split at hi;·exact np _ hi
  ·split at hi;·exact n2 hi
   ·exact np _ hi)
end
end Wb
namespace Mi
def Cr(x:Tx):`J:=eR (`F<=cap) (Ng ⟨x.toArray⟩).cps.toList
end Mi
namespace L2
open PySem PySem.Spec PyProof.Rows
variable{X:Cx}
theorem wI:zB X "str.upper" (λx xs H Q=>∃a,x=.str (aU a)/\xs=[]/\a.length<=100000/\Q (.str<|Ng<|aU a) H):=by
 intro Z_ s M H x xs v us Q I rx rs h;obtain⟨a,rfl,rfl,hl,q⟩:=h;obtain⟨t,rfl⟩:=rx;cases rs;exact SCL.upper (by rw[dP];omega) λ_=>⟨.str _,H,I.tok _,⟨_,`a⟩,q⟩
end L2
namespace Wb
open PySem L2 Mi
variable{Er:Nat->Prop}{ta:TE}{M:St}{W:Wd}{K:EL}
theorem AK{ma:`J}(ha:4 ta isS ma):4 (dg K "str" (λx xs H Q=>∃a,x=.str (aU a)/\xs=[]/\a.length<=100000/\Q (.str<|Ng<|aU a) H) ta) isS (36<|Cr a):=41 W1 e1 _ (40 k<|by
  cases hx;obtain⟨h1,h2⟩:=ba ka;refine⟨`a,a,`a,`a,h1,h2 _ W2 e2 ?_⟩;show Jo _=Jo _;simp[aU])
end Wb
namespace Mi
noncomputable section
@[irreducible]noncomputable def Cs(Z0n:`H)(l_k:Int):`C:=if(decide<|l_k<(Z0n.length:Int))then dG Z0n l_k else(ko (l_k*48271+(11:Int))<|(Z0n.length:Int)+(7:Int)).bind λy8=>EJ<|y8%1000003
def iq(Z0n:`H)(l_k:Int):`C:=Cs Z0n l_k
@[irreducible]noncomputable def Bd(Z03:Int)(Z1I:Int)(a19:Int)(s20:Int×Int×`H):Res (Int×Int×`H):=13 (if(decide<|(1000000000000000000:Int)<=cy Z03)then EJ (decide<|(0:Int)<s20.2.1)else EJ `g) (λy45=>(if y45 then 13 (gY s20.2.1 Z1I) (λy56=>gZ s20.2.2 y56) λy55=>(l4 s20.2.1 Z1I).bind λy59=>EJ (y59,y55)else(13 ((ko ((s20.1*48271+(7919:Int)+a19)%2147483647)<|(s20.1*48271+(7919:Int)+a19)%2147483647).bind λy63=>EJ<|y63%1000003) (λy64=>gY y64 Z1I) λy69=>gZ s20.2.2 y69).bind λy68=>EJ (s20.2.1,y68):Res (Int×`H))) λs70=>EJ (((s20.1*48271+(7919:Int)+a19)%2147483647),s70.1,s70.2)
@[irreducible]noncomputable def Ct(Z03:Int)(Z0r:Int)(Z1I:Int):11 Int:=13 (fb Z0r) (λy78=>bO (Bd Z03 Z1I) y78 (((cy Z03)%2147483647),cy Z03,([]:`H))) λs79=>EJ s79.2.2
def ju(Z03:Int)(Z0r:Int)(Z1I:Int):11 Int:=Ct Z03 Z0r Z1I
@[irreducible]noncomputable def Be(y3:Int)(y8:`H)(a15:Int)(s16:Tx):`J:=13 ((((dG y8 (4:Int)).bind λy39=>13 (gY a15 y3) (λy38=>EJ<|y38*7) λy40=>EJ<|y39+y40).bind λy41=>EJ<|y41%26).bind λy42=>gc ([97,98,99,100,101,102,103,104,105,106,107,108,109,110,111,112,113,114,115,116,117,118,119,120,121,122]:Tx) y42) (λy43=>cY s16 y43) λy44=>EJ y44
@[irreducible]noncomputable def Cu(ju:Int->Int->Int->11 Int)(Z03:Int):`J:=(dG [(1:Int),(2:Int),(3:Int),(4:Int),(26:Int)]<|Z03%5).bind λy3=>(ju (Z03/5) (5:Int) (26:Int)).bind λy8=>(bO (Be y3 y8) (cut y8 `c<|some (4:Int)) ([]:Tx)).bind λs47=>EJ s47
def yG(Z03:Int):`J:=Cu ju Z03
@[irreducible]noncomputable def Cv(yG:Int->`J)(Z03:Int):Res Cd:=(gc ([83,90]:Tx)<|Z03%2).bind λy1=>(yG<|Z03/8).bind λy2=>EJ (y1,y2,((Z03/2)%4))
def xw(Z03:Int):Res Cd:=Cv yG Z03
@[irreducible]noncomputable def Cw(ju:Int->Int->Int->11 Int)(Z03:Int)(Z0r:Int):`J:=if(decide<|(Z03%7)=(3:Int))then(gc ([102,98,105]:Tx)<|(Z03/7)%3).bind λy3=>Ah y3 Z0r else 13 (ju (Z03/7) Z0r (3:Int)) (λy18=>eK y18 λ(a9:Int)=>gc ([102,98,105]:Tx) a9) λy19=>oY y19
def yH(Z03:Int)(Z0r:Int):`J:=Cw ju Z03 Z0r
@[irreducible]noncomputable def Cy(Z1b:Tx):`C:=(ku ([98,105,102]:Tx) Z1b).bind λy1=>EJ (y1-(1:Int))
def qe(Z1b:Tx):`C:=Cy Z1b
@[irreducible]noncomputable def Cz(qe:Tx->`C)(Z02:Cd)(Z1b:Tx):Res Cd:=(((qe Z1b).bind λy1=>EJ<|Z02.2.2+y1).bind λy2=>EJ<|y2%4).bind λy3=>EJ (Z02.1,Z02.2.1,y3)
def kK(Z02:Cd)(Z1b:Tx):Res Cd:=Cz qe Z02 Z1b
@[irreducible]noncomputable def CA(qe:Tx->`C)(Z02:Cd)(Z1b:Tx):`C:=if(decide<|Z02.1=([83]:Tx))then qe Z1b else(qe Z1b).bind λy8=>EJ ((0:Int)-y8)
def fF(Z02:Cd)(Z1b:Tx):`C:=CA qe Z02 Z1b
@[irreducible]noncomputable def Bf(kK:Cd->Tx->Res Cd)(fF:Cd->Tx->`C)(a7:Tx)(s8:Cd×`m):Res (Cd×`m):=(kK s8.1 a7).bind λy34=>13 ((fF y34 a7).bind λy39=>EJ<|y39+(1:Int)) (λy40=>gc ([122,111,115]:Tx) y40) λy41=>13 ((gc y34.2.1 y34.2.2).bind λy44=>(gc y34.2.1<|(y34.2.2+(2:Int))%4).bind λy45=>EJ (y44,y45,y41)) (λy50=>gZ s8.2 y50) λy49=>EJ (y34,y49)
@[irreducible]noncomputable def CB(kK:Cd->Tx->Res Cd)(fF:Cd->Tx->`C)(Z02:Cd)(Z09:Tx):11 Pl:=(bO (Bf kK fF) (bF Z09) (Z02,([]:`m))).bind λs51=>EJ s51.2
def qP(Z02:Cd)(Z09:Tx):11 Pl:=CB kK fF Z02 Z09
@[irreducible]noncomputable def Bg(Z03:Int)(a14:Pl×Int)(s15:`m):11 Pl:=(if(decide<|(Z03%5)=(0:Int))then EJ ((a14.2/8)*8)else EJ a14.2:`C).bind λs56=>(if(decide<|(Z03%5)=(1:Int))then EJ ((s56/8)*8+(7:Int))else EJ s56:`C).bind λs75=>13 (if(decide<|(56:Int)<=s75)then EJ (decide<|(s75%3)<(2:Int))else EJ `g) (λy90=>(if y90 then 13 (13 ((dG [a14.1.1,a14.1.2.1,a14.1.2.2]<|s75%3).bind λy101=>ku ([97,98,99,100,101,102,103,104,105,106,107,108,109,110,111,112,113,114,115,116,117,118,119,120,121,122,97]:Tx) y101) (λy102=>EJ<|y102+(1:Int)) λy103=>gc ([97,98,99,100,101,102,103,104,105,106,107,108,109,110,111,112,113,114,115,116,117,118,119,120,121,122,97]:Tx) y103) (λy107=>kq [a14.1.1,a14.1.2.1,a14.1.2.2] (s75%3) y107) λy108=>EJ y108 else EJ [a14.1.1,a14.1.2.1,a14.1.2.2]:11 Tx)) λs110=>13 (if(decide<|(56:Int)<=s75)then EJ (decide<|(s75%3)=(2:Int))else EJ `g) (λy120=>(if y120 then 13 (13 (dG s110 (2:Int)) (λy127=>ku ([115,122,111]:Tx) y127) λy128=>gc ([122,111,115]:Tx) y128) (λy132=>kq s110 (2:Int) y132) λy133=>EJ y133 else EJ s110:11 Tx)) λs135=>13 ((eK (s135.zip [(1:Int),(2:Int),(4:Int)]) (λ(a149:Tx×Int)=>(((l4 s75 a149.2).bind λy158=>EJ<|y158%2).bind λy159=>EJ<|decide<|y159=(1:Int)).bind λy160=>if y160 then EJ a149.1 else EJ ([63]:Tx))).bind λy163=>Ai y163) (λy168=>gZ s15 y168) λy167=>EJ y167
@[irreducible]noncomputable def CC(ju:Int->Int->Int->11 Int)(Z1J:`m)(Z03:Int)(Z1W:Bool):11 Pl:=13 ((ko (8:Int) (if Z1W then(1:Int)else 0)).bind λy9=>EJ<|(56:Int)+y9) (λy10=>ju (Z03/5) (Z1J.length:Int) y10) λy11=>(bO (Bg Z03) (Z1J.zip y11) ([]:`m)).bind λs169=>EJ s169
def yI(Z1J:`m)(Z03:Int)(Z1W:Bool):11 Pl:=CC ju Z1J Z03 Z1W
@[irreducible]noncomputable def CD(Z02:Cd):Res Cd:=13 (ku ([83,90]:Tx) Z02.1) (λy5=>gc ([90,83]:Tx) y5) λy12=>13 (13 (gc Z02.2.1 (0:Int)) (λy6=>(gc Z02.2.1 (3:Int)).bind λy7=>cY y6 y7) λy8=>(gc Z02.2.1 (2:Int)).bind λy9=>cY y8 y9) (λy10=>(gc Z02.2.1 (1:Int)).bind λy11=>cY y10 y11) λy13=>EJ (y12,y13,(((0:Int)-Z02.2.2)%4))
def yJ(Z02:Cd):Res Cd:=CD Z02
@[irreducible]noncomputable def CF(Z09:Tx):`J:=(eK (bF Z09) λ(a1:Tx)=>(ku ([98,105,102]:Tx) a1).bind λy8=>gc ([102,105,98]:Tx) y8).bind λy11=>oY y11
def yK(Z09:Tx):`J:=CF Z09
@[irreducible]noncomputable def CG(Z02:Cd)(Z0r:Int):Res Cd:=13 ((fb (4:Int)).bind λy13=>eK y13<|λ(a3:Int)=>gc Z02.2.1<|(a3-Z0r)%4) (λy14=>oY y14) λy15=>EJ (Z02.1,y15,((Z02.2.2+Z0r)%4))
def yL(Z02:Cd)(Z0r:Int):Res Cd:=CG Z02 Z0r
@[irreducible]noncomputable def Bh(a37:Int)(s38:`H):11 Int:=(if(!s38.contains a37)then(gZ s38 a37).bind λy68=>EJ y68 else EJ s38:11 Int).bind λs70=>EJ s70
@[irreducible]noncomputable def C8(kK:Cd->Tx->Res Cd)(a7:Tx)(s8:Cd×`H):Res (Cd×`H):=(kK s8.1 a7).bind λy34=>(bO Bh [y34.2.2,((y34.2.2+(2:Int))%4)] s8.2).bind λs78=>EJ (y34,s78)
@[irreducible]noncomputable def CH(kK:Cd->Tx->Res Cd)(Z02:Cd)(Z09:Tx):11 Int:=(bO (C8 kK) (bF Z09) (Z02,([]:`H))).bind λs82=>vb s82.2
def yM(Z02:Cd)(Z09:Tx):11 Int:=CH kK Z02 Z09
@[irreducible]noncomputable def Bi(Z03:Int)(y40:`H)(a43:Int)(s44:Cd):Res Cd:=(if(!y40.contains a43)then 13 (((ko (5:Int) a43).bind λy75=>EJ<|(Z03/16)+y75).bind λy76=>EJ<|y76%26) (λy77=>gc ([97,98,99,100,101,102,103,104,105,106,107,108,109,110,111,112,113,114,115,116,117,118,119,120,121,122]:Tx) y77) λy78=>13 (13 (fu s44.2.1 `c<|some a43) (λy83=>cY y83 y78) λy84=>(fu s44.2.1 (some<|a43+(1:Int)) `c).bind λy85=>cY y84 y85) (λy86=>EJ (s44.1,y86,s44.2.2)) λy87=>EJ y87 else EJ s44:Res Cd).bind λs91=>EJ s91
@[irreducible]noncomputable def CI(yJ:Cd->Res Cd)(yK:Tx->`J)(yL:Cd->Int->Res Cd)(yM:Cd->Tx->11 Int)(Z02:Cd)(Z09:Tx)(Z03:Int):Res (Cd×Tx):=(if(decide<|(Z03%2)=(1:Int))then(yJ Z02).bind λy9=>(yK Z09).bind λy14=>EJ (y9,y14)else EJ (Z02,Z09):Res (Cd×Tx)).bind λs18=>(yL s18.1<|(Z03/2)%4).bind λy29=>(if(decide<|((Z03/8)%2)=(1:Int))then(yM y29 s18.2).bind λy40=>13 (fb (4:Int)) (λy101=>bO (Bi Z03 y40) y101 y29) λs102=>EJ s102 else EJ y29:Res Cd).bind λs107=>EJ (s107,s18.2)
def yN(Z02:Cd)(Z09:Tx)(Z03:Int):Res (Cd×Tx):=CI yJ yK yL yM Z02 Z09 Z03
@[irreducible]noncomputable def CJ(xw:Int->Res Cd)(iq:`H->Int->`C)(yH:Int->Int->`J)(yI:`m->Int->Bool->11 Pl)(qP:Cd->Tx->11 Pl)(yN:Cd->Tx->Int->Res (Cd×Tx))(Z0n:`H)(Z3M:Int):Res (Cd×`m×Int):=13 (iq Z0n (0:Int)) (λy3=>xw y3) λy4=>13 (iq Z0n (1:Int)) (λy10=>13 (iq Z0n (2:Int)) (λy9=>gY y9<|Z3M+(1:Int)) λy11=>yH y10 y11) λy12=>(iq Z0n (3:Int)).bind λy17=>((qP y4 y12).bind λy22=>yI y22 (y17/3)<|decide<|(y17%3)=(2:Int)).bind λy23=>((iq Z0n (4:Int)).bind λy28=>EJ<|y28/4).bind λy29=>(if(decide<|(y29%6)=(1:Int))then 13 (yN y4 y12<|y29/6) (λy40=>EJ y40.1) λy41=>EJ y41 else EJ y4:Res Cd).bind λs45=>(if(decide<|(y29%6)=(2:Int))then(xw<|y29/6).bind λy62=>EJ y62 else EJ s45:Res Cd).bind λs66=>((iq Z0n (4:Int)).bind λy75=>EJ<|y75%4).bind λy76=>EJ (s66,y23,y76)
def xx(Z0n:`H)(Z3M:Int):Res (Cd×`m×Int):=CJ xw iq yH yI qP yN Z0n Z3M
@[irreducible]noncomputable def Bj(a34:Tx)(s35:List Tx):11 Tx:=13 ((cY a34 ([102]:Tx)).bind λy62=>13 (cY a34 ([98]:Tx)) (λy60=>13 (cY a34 ([105]:Tx)) (λy59=>EJ<|y59::([]:List Tx)) λy61=>EJ<|y60::y61) λy63=>EJ<|y62::y63) (λy64=>tx s35 y64) λy65=>EJ y65
@[irreducible]noncomputable def Bk(a5:Int)(s6:List Tx):11 Tx:=(bO Bj s6 ([]:List Tx)).bind λs68=>EJ s68
@[irreducible]noncomputable def CK(Z0r:Int):11 Tx:=13 (fb Z0r) (λy76=>bO Bk y76 [([]:Tx)]) λs77=>EJ s77
def yO(Z0r:Int):11 Tx:=CK Z0r
@[irreducible]noncomputable def CL(a9:Tx)(s10:Unit):Res (Fl Bool Unit):=(if(!decide (a9=([102]:Tx)))then if(!decide (a9=([98]:Tx)))then EJ (!decide (a9=([105]:Tx)))else EJ `g else EJ `g).bind λy30=>if y30 then EJ (.rt `g)else EJ (.nx ())
@[irreducible]noncomputable def C9(a103:Tx×Tx)(s104:Unit):Res (Fl Bool Unit):=(if(!decide (a103.2=([63]:Tx)))then EJ (!decide (a103.2=a103.1))else EJ `g).bind λy131=>if y131 then EJ (.rt `g)else EJ (.nx ())
@[irreducible]noncomputable def Bl(fF:Cd->Tx->`C)(Z02:Cd)(Z0g:Int)(Z0h:Int)(a50:Tx×Pl×Pl)(s51:Ii):Res (Fl Bool Ii):=((fF Z02 a50.1).bind λy87=>EJ<|s51.1+y87).bind λy88=>(ko (s51.2+(1:Int)) (if(decide<|a50.1=([105]:Tx))then(1:Int)else 0)).bind λy93=>(if(decide<|Z0h<cy y88)then EJ true else EJ (decide<|Z0g<y93)).bind λy96=>if y96 then EJ (.rt `g)else(eS C9 ([a50.2.1.1,a50.2.1.2.1,a50.2.1.2.2].zip [a50.2.2.1,a50.2.2.2.1,a50.2.2.2.2]) ()).bind (λ| .nx s138=>(EJ<|.nx (y88,y93))| .rt r=>EJ (.rt r)| .bk _=>Jp)
@[irreducible]noncomputable def CM(qP:Cd->Tx->11 Pl)(fF:Cd->Tx->`C)(Z02:Cd)(Z1M:`m)(Z0g:Int)(Z0h:Int)(Z0v:Tx):`x:=((oX Z0v).bind λy1=>EJ<|!decide (y1=(Z1M.length:Int))).bind λy2=>if y2 then EJ `g else(eS CL (bF Z0v) ()).bind (λ| .nx s37=>(13 ((qP Z02 Z0v).bind λy49=>EJ<|(bF Z0v).zip<|y49.zip Z1M) (λy142=>eS (Bl fF Z02 Z0g Z0h) y142 ((0:Int),(0:Int))) (λ| .nx s143=>(EJ true)| .rt r=>EJ r| .bk _=>Jp))| .rt r=>EJ r| .bk _=>Jp)
def qQ(Z02:Cd)(Z1M:`m)(Z0g:Int)(Z0h:Int)(Z0v:Tx):`x:=CM qP fF Z02 Z1M Z0g Z0h Z0v
@[irreducible]noncomputable def zP(fF:Cd->Tx->`C)(Z02:Cd)(a9:Tx)(s10:Ii):Res Ii:=13 (fF Z02 a9) (λy32=>EJ<|s10.1+y32) λy33=>EJ (y33,(if cy y33>s10.2 then cy y33 else s10.2))
@[irreducible]noncomputable def CN(fF:Cd->Tx->`C)(Z02:Cd)(Z09:Tx):`C:=(bO (zP fF Z02) (bF Z09) ((0:Int),(0:Int))).bind λs40=>EJ s40.2
def qR(Z02:Cd)(Z09:Tx):`C:=CN fF Z02 Z09
@[irreducible]noncomputable def CO(state:Ii)(loose:Int)(bound:Int):`x:=if(decide<|cy state.1<=bound)then EJ (decide<|state.2<=loose)else EJ `g
def jv(state:Ii)(loose:Int)(bound:Int):`x:=CO state `d `e
@[irreducible]noncomputable def CP(tablet:Cd)(turn:Tx):`C:=(getD ([([102],1),([98],(-1)),([105],0)]:7 Tx Int) turn).bind λy3=>if(decide<|tablet.1=([83]:Tx))then EJ y3 else EJ (-y3)
def qS(tablet:Cd)(turn:Tx):`C:=CP tablet turn
@[irreducible]noncomputable def CQ(qS:Cd->Tx->`C)(tablet:Cd)(state:Ii)(turn:Tx):Res Ii:=13 (qS tablet turn) (λy9=>EJ<|state.1+y9) λy10=>(if(decide<|turn=([105]:Tx))then EJ (state.2+(1:Int))else EJ (0:Int)).bind λy11=>EJ (y10,y11)
def m8(tablet:Cd)(state:Ii)(turn:Tx):Res Ii:=CQ qS tablet state turn
@[irreducible]noncomputable def CS(tablet:Cd)(twist:Int):Res Cd:=((if(decide<|tablet.1=([83]:Tx))then EJ (tablet.2.2+twist)else EJ (tablet.2.2-twist)).bind λy11=>EJ<|y11%4).bind λy12=>EJ (tablet.1,tablet.2.1,y12)
def yP(tablet:Cd)(twist:Int):Res Cd:=CS tablet twist
@[irreducible]noncomputable def so(tablet:Cd):`J:=gc tablet.2.1<|tablet.2.2%4
def jw(tablet:Cd):`J:=so tablet
@[irreducible]noncomputable def CT(tablet:Cd):`J:=gc tablet.2.1<|(tablet.2.2+(2:Int))%4
def yQ(tablet:Cd):`J:=CT tablet
@[irreducible]noncomputable def CU(jw:Cd->`J)(yQ:Cd->`J)(qS:Cd->Tx->`C)(tablet:Cd)(turn:Tx):Res Pl:=(jw tablet).bind λy2=>(yQ tablet).bind λy3=>13 (qS tablet turn) (λy1=>getD ([(1,[115]),((-1),[122]),(0,[111])]:7 Int Tx) y1) λy4=>EJ (y2,y3,y4)
def yR(tablet:Cd)(turn:Tx):Res Pl:=CU jw yQ qS tablet turn
@[irreducible]noncomputable def CV(sign:Tx)(left:Tx):`x:=if(decide<|left=([63]:Tx))then EJ true else EJ (decide<|left=sign)
def xy(sign:Tx)(left:Tx):`x:=CV sign left
@[irreducible]noncomputable def CW(xy:Tx->Tx->`x)(place:Pl)(mark:Pl):`x:=(eK ([place.1,place.2.1,place.2.2].zip [mark.1,mark.2.1,mark.2.2]) λ(a1:Tx×Tx)=>xy a1.1 a1.2).bind λy12=>EJ (y12.all id)
def yS(place:Pl)(mark:Pl):`x:=CW xy place mark
@[irreducible]noncomputable def CY(yS:Pl->Pl->`x)(yR:Cd->Tx->Res Pl)(yP:Cd->Int->Res Cd)(tablet:Cd)(state:Ii)(turn:Tx)(mark:Pl):`x:=13 (yP tablet state.1) (λy1=>yR y1 turn) λy2=>yS y2 mark
def lT(tablet:Cd)(state:Ii)(turn:Tx)(mark:Pl):`x:=CY yS yR yP tablet state turn mark
@[irreducible]noncomputable def CZ(m8:Cd->Ii->Tx->Res Ii)(jv:Ii->Int->Int->`x)(lT:Cd->Ii->Tx->Pl->`x)(tablet:Cd)(mark:Pl)(loose:Int)(bound:Int)(state:Ii):Res (7 Tx Ii):=(eK (bF ([102,98,105]:Tx)) λ(a3:Tx)=>(m8 tablet state a3).bind λy12=>EJ (a3,y12)).bind λy15=>rD y15 (λ(a18:Tx×Ii)=>((jv a18.2 `d `e).bind λy31=>if y31 then lT tablet a18.2 a18.1 mark else EJ `g).bind λy33=>if y33 then EJ (some (a18.1,a18.2))else EJ `c)
def gq(tablet:Cd)(mark:Pl)(loose:Int)(bound:Int)(state:Ii):Res (7 Tx Ii):=CZ m8 jv lT tablet mark `d `e state
@[irreducible]noncomputable def D0(gq:Cd->Pl->Int->Int->Ii->Res (7 Tx Ii))(tablet:Cd)(mark:Pl)(loose:Int)(bound:Int)(states:`t):11 Ii:=(bO (λ(a6:Ii)(s8:List Ii)=>(gq tablet mark `d `e a6).bind λy36=>bO (λ(a20:Tx×Ii)(s22:List Ii)=>tM s22 a20.2) y36 s8) states ([]:`t)).bind λk37=>vE k37
def qT(tablet:Cd)(mark:Pl)(loose:Int)(bound:Int)(states:`t):11 Ii:=D0 gq tablet mark `d `e states
@[irreducible]noncomputable def zQ(qT:Cd->Pl->Int->Int->`t->11 Ii)(tablet:Cd)(loose:Int)(bound:Int)(a7:Pl)(s8:List `t):Res (Fl (List `t)<|List `t):=((dG s8<|-(1:Int)).bind λy28=>EJ y28.isEmpty).bind λy29=>if y29 then EJ (.rt s8)else 13 ((dG s8<|-(1:Int)).bind λy38=>qT tablet a7 `d `e y38) (λy39=>gZ s8 y39) λy40=>EJ (.nx y40)
@[irreducible]noncomputable def D4(jv:Ii->Int->Int->`x)(qT:Cd->Pl->Int->Int->`t->11 Ii)(tablet:Cd)(strip:`m)(loose:Int)(bound:Int):11 `t:=13 ((jv (0,0) `d `e).bind λy1=>if y1 then EJ [(0,0)]else EJ ([]:`t)) (λy2=>EJ [y2]) λy3=>(eS (zQ qT tablet `d `e) `h y3).bind (λ| .nx s43=>(EJ s43)| .rt r=>EJ r| .bk _=>Jp)
def jC(tablet:Cd)(strip:`m)(loose:Int)(bound:Int):11 `t:=D4 jv qT tablet `h `d `e
@[irreducible]noncomputable def Ca(jC:Cd->`m->Int->Int->11 `t)(tablet:Cd)(strip:`m)(loose:Int)(s15:Int):`x:=((jC tablet `h `d s15).bind λy27=>dG y27<|-(1:Int)).bind λy28=>EJ y28.isEmpty
@[irreducible]noncomputable def Cb(s15:Int):`C:=EJ (s15+(1:Int))
@[irreducible]noncomputable def D5(jC:Cd->`m->Int->Int->11 `t)(tablet:Cd)(strip:`m)(loose:Int):Res `w:=(((jC tablet `h `d (strip.length:Int)).bind λy1=>dG y1<|-(1:Int)).bind λy2=>EJ y2.isEmpty).bind λy3=>if y3 then EJ (none:`w)else(fV (Ca jC tablet `h `d) Cb cap (0:Int)).bind λs31=>EJ (some s31)
def xA(tablet:Cd)(strip:`m)(loose:Int):Res `w:=D5 jC tablet `h `d
@[irreducible]noncomputable def Bm(gq:Cd->Pl->Int->Int->Ii->Res (7 Tx Ii))(tablet:Cd)(strip:`m)(loose:Int)(bound:Int)(y3:List `t)(a31:Int)(s32:List (7 Ii Int)):11 (7 Ii Int):=(dG s32<|-(1:Int)).bind λy57=>13 (dG y3 a31) (λy82=>bO (λ(a67:Ii)(s69:List (Ii×(List<|Tx×Ii)))=>13 (dG `h a31) (λy80=>gq tablet y80 `d `e a67) λy81=>iW s69 a67 y81) y82 ([]:7 Ii (7 Tx Ii))) λy83=>13 (bO (λ(a91:Ii)(s93:List (Ii×Int))=>13 ((getD y83 a91).bind λy116=>eK y116 λ(a104:Tx×Ii)=>getD y57 a104.2) (λy117=>EJ y117.sum) λy118=>iW s93 a91 y118) (y83.map (·.1)) ([]:7 Ii Int)) (λy123=>gZ s32 y123) λy122=>EJ y122
@[irreducible]noncomputable def D6(jC:Cd->`m->Int->Int->11 `t)(gq:Cd->Pl->Int->Int->Ii->Res (7 Tx Ii))(tablet:Cd)(strip:`m)(loose:Int)(bound:Int):11 (7 Ii Int):=(jC tablet `h `d `e).bind λy3=>13 ((dG y3<|-(1:Int)).bind λy24=>bO (λ(a13:Ii)(s15:List (Ii×Int))=>iW s15 a13 (1:Int)) y24 ([]:7 Ii Int)) (λy25=>EJ [y25]) λy26=>13 (o8<|(y3.length:Int)-(1:Int)) (λy124=>bO (Bm gq tablet `h `d `e y3) y124 y26) λs125=>EJ s125.reverse
def yT(tablet:Cd)(strip:`m)(loose:Int)(bound:Int):11 (7 Ii Int):=D6 jC gq tablet `h `d `e
@[irreducible]noncomputable def Bn(moves:7 Tx Ii)(counts:7 Ii Int)(s6:Ii):`x:=(13 (dG moves s6.2) (λy18=>EJ y18.2) λy19=>getD counts y19).bind λy20=>EJ<|decide<|y20<=s6.1
@[irreducible]noncomputable def Bo(moves:7 Tx Ii)(counts:7 Ii Int)(s6:Ii):Res Ii:=13 ((dG moves s6.2).bind λy21=>EJ y21.2) (λy22=>getD counts y22) λy23=>EJ (s6.1-y23,s6.2+(1:Int))
@[irreducible]noncomputable def D7(moves:7 Tx Ii)(counts:7 Ii Int)(number:Int):Res (Tx×Ii×Int):=(fV (Bn moves counts) (Bo moves counts) cap (number,(0:Int))).bind λs28=>(dG moves s28.2).bind λy32=>EJ (y32.1,y32.2,s28.1)
def qU(moves:7 Tx Ii)(counts:7 Ii Int)(number:Int):Res (Tx×Ii×Int):=D7 moves counts number
@[irreducible]noncomputable def fX(qU:7 Tx Ii->7 Ii Int->Int->Res (Tx×Ii×Int))(gq:Cd->Pl->Int->Int->Ii->Res (7 Tx Ii))(tablet:Cd)(loose:Int)(bound:Int)(y3:List (7 Ii Int))(a19:Int×Pl)(s20:Ii×Int×Tx):Res (Ii×Int×Tx):=13 (gq tablet a19.2 `d `e s20.1) (λy50=>(dG y3<|a19.1+(1:Int)).bind λy51=>qU y50 y51 s20.2.1) λy52=>(cY s20.2.2 y52.1).bind λy65=>EJ (y52.2.1,y52.2.2,y65)
@[irreducible]noncomputable def sq(yT:Cd->`m->Int->Int->11 (7 Ii Int))(qU:7 Tx Ii->7 Ii Int->Int->Res (Tx×Ii×Int))(gq:Cd->Pl->Int->Int->Ii->Res (7 Tx Ii))(tablet:Cd)(strip:`m)(loose:Int)(bound:Int)(number:Int):`J:=(yT tablet `h `d `e).bind λy3=>(if(decide<|number<(0:Int))then EJ true else((dG y3 (0:Int)).bind λy6=>EJ<|tW y6 (0,0) (0:Int)).bind λy7=>EJ<|decide<|y7<=number).bind λy8=>if y8 then Jp else(bO (fX qU gq tablet `d `e y3) (iU `h) ((0,0),number,([]:Tx))).bind λs66=>EJ s66.2.2
def iX(tablet:Cd)(strip:`m)(loose:Int)(bound:Int)(number:Int):`J:=sq yT qU gq tablet `h `d `e number
@[irreducible]noncomputable def D8(xA:Cd->`m->Int->Res `w)(jC:Cd->`m->Int->Int->11 `t)(iX:Cd->`m->Int->Int->Int->`J)(tablet:Cd)(strip:`m)(loose:Int):Res (`w×Option Tx×List `t):=(xA tablet `h `d).bind λy3=>if y3.isNone then(jC tablet `h `d (strip.length:Int)).bind λy8=>EJ ((none:`w),(none:Option Tx),y8)else(((gW y3).bind λy16=>EJ<|decide<|(0:Int)<y16).bind λy19=>if y19 then 13 (gW y3) (λy17=>EJ<|y17-(1:Int)) λy18=>jC tablet `h `d y18 else EJ ([]:List `t)).bind λy20=>13 ((gW y3).bind λy23=>iX tablet `h `d y23 (0:Int)) (λy24=>EJ<|some y24) λy25=>EJ (y3,y25,y20)
def yU(tablet:Cd)(strip:`m)(loose:Int):Res (`w×Option Tx×List `t):=D8 xA jC iX tablet `h `d
@[irreducible]noncomputable def Dc(y3:`t)(a29:Tx×Ii)(s30:Unit):Res (Fl Bool Unit):=if(!y3.contains a29.2)then EJ (.rt `g)else EJ (.nx ())
@[irreducible]noncomputable def Dd(gq:Cd->Pl->Int->Int->Ii->Res (7 Tx Ii))(tablet:Cd)(mark:Pl)(loose:Int)(bound:Int)(y3:`t)(a6:Ii)(s7:Unit):Res (Fl Bool Unit):=13 (gq tablet mark `d `e a6) (λy63=>eS (Dc y3) y63 ()) (λ| .nx s64=>(EJ<|.nx ())| .rt r=>EJ (.rt r)| .bk _=>Jp)
@[irreducible]noncomputable def De(gq:Cd->Pl->Int->Int->Ii->Res (7 Tx Ii))(tablet:Cd)(mark:Pl)(loose:Int)(bound:Int)(states:`t)(following:`t):`x:=(eR (following.length<1000) following).bind λy3=>(eS (Dd gq tablet mark `d `e y3) states ()).bind (λ| .nx s68=>(EJ true)| .rt r=>EJ r| .bk _=>Jp)
def yV(tablet:Cd)(mark:Pl)(loose:Int)(bound:Int)(states:`t)(following:`t):`x:=De gq tablet mark `d `e states following
@[irreducible]noncomputable def Df(yV:Cd->Pl->Int->Int->`t->`t->`x)(tablet:Cd)(strip:`m)(loose:Int)(bound:Int)(lists:List `t):`x:=(if(decide<|(lists.length:Int)<(2:Int))then EJ true else EJ (decide<|((strip.length:Int)+(1:Int))<(lists.length:Int))).bind λy1=>if y1 then EJ `g else(((dG lists<|-(1:Int)).bind λy8=>EJ<|!y8.isEmpty).bind λy10=>if y10 then EJ true else(dG lists (0:Int)).bind λy9=>EJ<|!y9.contains (0,0)).bind λy11=>if y11 then EJ `g else 13 (fb<|(lists.length:Int)-(1:Int)) (λy33=>eK y33 λ(a18:Int)=>(dG `h a18).bind λy28=>(dG lists a18).bind λy29=>(dG lists<|a18+(1:Int)).bind λy30=>yV tablet y28 `d `e y29 y30) λy34=>EJ (y34.all id)
def uw(tablet:Cd)(strip:`m)(loose:Int)(bound:Int)(lists:List `t):`x:=Df yV tablet `h `d `e lists
@[irreducible]noncomputable def Dg(text:Tx)(width:Int):`x:=((oX text).bind λy1=>EJ<|decide<|y1=width).bind λy12=>if y12 then(eK (bF text) λ(a2:Tx)=>DD a2 ([102,98,105]:Tx)).bind λy11=>EJ (y11.all id)else EJ `g
def yW(text:Tx)(width:Int):`x:=Dg text width
@[irreducible]noncomputable def Bp(jv:Ii->Int->Int->`x)(m8:Cd->Ii->Tx->Res Ii)(lT:Cd->Ii->Tx->Pl->`x)(tablet:Cd)(loose:Int)(bound:Int)(a18:Tx×Pl)(s19:Ii×Bool):Res (Ii×Bool):=(m8 tablet s19.1 a18.1).bind λy50=>(if s19.2 then(jv y50 `d `e).bind λy55=>if y55 then lT tablet y50 a18.1 a18.2 else EJ `g else EJ `g).bind λy56=>EJ (y50,y56)
@[irreducible]noncomputable def Dh(yW:Tx->Int->`x)(jv:Ii->Int->Int->`x)(m8:Cd->Ii->Tx->Res Ii)(lT:Cd->Ii->Tx->Pl->`x)(tablet:Cd)(strip:`m)(loose:Int)(bound:Int)(text:Tx):`x:=((yW text (strip.length:Int)).bind λy1=>EJ<|!y1).bind λy2=>if y2 then EJ `g else(jv (0,0) `d `e).bind λy15=>(bO (Bp jv m8 lT tablet `d `e) ((bF text).zip `h) ((0,0),y15)).bind λs59=>EJ s59.2
def xB(tablet:Cd)(strip:`m)(loose:Int)(bound:Int)(text:Tx):`x:=Dh yW jv m8 lT tablet `h `d `e text
@[irreducible]noncomputable def AL(uw:Cd->`m->Int->Int->List `t->`x)(xB:Cd->`m->Int->Int->Tx->`x)(tablet:Cd)(strip:`m)(loose:Int)(triple:`w×Option Tx×List `t):`x:=if triple.1.isNone then if triple.2.1.isNone then uw tablet `h `d (strip.length:Int) triple.2.2 else EJ `g else(if triple.2.1.isNone then EJ true else((gW triple.1).bind λy18=>(gW triple.2.1).bind λy19=>xB tablet `h `d y18 y19).bind λy20=>EJ<|!y20).bind λy21=>if y21 then EJ `g else((gW triple.1).bind λy28=>EJ<|decide<|y28=(0:Int)).bind λy29=>if y29 then EJ triple.2.2.isEmpty else 13 (gW triple.1) (λy36=>EJ<|y36-(1:Int)) λy37=>uw tablet `h `d y37 triple.2.2
def m9(tablet:Cd)(strip:`m)(loose:Int)(triple:`w×Option Tx×List `t):`x:=AL uw xB tablet `h `d triple
@[irreducible]noncomputable def xC(a83:Tx×Tx)(s84:Bool):`x:=13 (if(!decide (a83.2=([63]:Tx)))then EJ (!decide (a83.2=a83.1))else EJ `g) (λy112=>(if y112 then EJ `g else EJ s84:`x)) λs124=>EJ s124
@[irreducible]noncomputable def zR(fF:Cd->Tx->`C)(Z02:Cd)(Z2t:Pl)(Z0g:Int)(Z0h:Int)(Z0M:Ii)(a7:Tx)(s8:`t):11 Ii:=(fF Z02 a7).bind λy38=>(ko (Z0M.2+(1:Int)) (if(decide<|a7=([105]:Tx))then(1:Int)else 0)).bind λy47=>(if(decide<|Z02.1=([90]:Tx))then EJ ((Z02.2.2-(Z0M.1+y38))%4)else EJ ((Z02.2.2+(Z0M.1+y38))%4):`C).bind λs65=>(if(decide<|cy (Z0M.1+y38)<=Z0h)then EJ (decide<|y47<=Z0g)else EJ `g).bind λy75=>13 (13 ((gc Z02.2.1 s65).bind λy78=>(gc Z02.2.1<|(s65+(2:Int))%4).bind λy79=>(gc ([122,111,115]:Tx)<|y38+(1:Int)).bind λy80=>EJ (y78,y79,y80)) (λy81=>EJ [y81.1,y81.2.1,y81.2.2]) λy82=>EJ<|y82.zip [Z2t.1,Z2t.2.1,Z2t.2.2]) (λy132=>bO xC y132 y75) λs133=>(if s133 then(gZ s8 (Z0M.1+y38,y47)).bind λy146=>EJ y146 else EJ s8:11 Ii).bind λs148=>EJ s148
@[irreducible]noncomputable def Di(fF:Cd->Tx->`C)(Z02:Cd)(Z2t:Pl)(Z0g:Int)(Z0h:Int)(Z0M:Ii):11 Ii:=(bO (zR fF Z02 Z2t Z0g Z0h Z0M) (bF ([102,98,105]:Tx)) ([]:`t)).bind λs156=>EJ s156
def oa(Z02:Cd)(Z2t:Pl)(Z0g:Int)(Z0h:Int)(Z0M:Ii):11 Ii:=Di fF Z02 Z2t Z0g Z0h Z0M
@[irreducible]noncomputable def AM(a63:Ii)(s64:7 Ii Bool):Res (7 Ii Bool):=(iW s64 a63 true).bind λy89=>EJ y89
@[irreducible]noncomputable def Cc(oa:Cd->Pl->Int->Int->Ii->11 Ii)(Z02:Cd)(Z0g:Int)(Z0h:Int)(a7:Pl)(a39:Ii)(s40:7 Ii Bool):Res (7 Ii Bool):=13 (oa Z02 a7 Z0g Z0h a39) (λy90=>bO AM y90 s40) λs91=>EJ s91
@[irreducible]noncomputable def AN(oa:Cd->Pl->Int->Int->Ii->11 Ii)(Z02:Cd)(Z0g:Int)(Z0h:Int)(a7:Pl)(s8:List `t):Res (Fl (List `t)<|List `t):=((dG s8<|-(1:Int)).bind λy95=>bO (Cc oa Z02 Z0g Z0h a7) y95 ([]:7 Ii Bool)).bind λs96=>((vZ<|s96.map (·.1)).bind λy104=>gZ s8 y104).bind λy103=>if(decide<|(s96.length:Int)=(0:Int))then EJ (.rt y103)else EJ (.nx y103)
@[irreducible]noncomputable def Dj(oa:Cd->Pl->Int->Int->Ii->11 Ii)(Z02:Cd)(Z1M:`m)(Z0g:Int)(Z0h:Int):11 `t:=(eS (AN oa Z02 Z0g Z0h) Z1M [[((0:Int),(0:Int))]]).bind (λ| .nx s107=>(EJ s107)| .rt r=>EJ r| .bk _=>Jp)
def yX(Z02:Cd)(Z1M:`m)(Z0g:Int)(Z0h:Int):11 `t:=Dj oa Z02 Z1M Z0g Z0h
@[irreducible]noncomputable def Dk(ju:Int->Int->Int->11 Int)(Z4w:List `t)(Z03:Int):11 `t:=(eK Z4w λ(a1:List Ii)=>EJ a1).bind λy10=>(ju (Z03/7) (4:Int) (30030:Int)).bind λy16=>13 (dG y16 (0:Int)) (λy21=>gY y21 (if(y10.length:Int)>(1:Int)then(y10.length:Int)else(1:Int))) λy22=>13 (((dG y16 (2:Int)).bind λy27=>EJ<|y27%11).bind λy28=>EJ<|y28-(5:Int)) (λy32=>13 (((dG y16 (2:Int)).bind λy29=>EJ<|y29/11).bind λy30=>EJ<|y30%6) (λy31=>EJ<|y31-(1:Int)) λy33=>EJ (y32,y33)) λy34=>13 (((dG y16 (3:Int)).bind λy37=>EJ<|y37%6).bind λy38=>EJ<|decide<|y38=(1:Int)) (λy39=>(if y39 then 13 (((dG y16 (2:Int)).bind λy48=>EJ<|y48%5).bind λy49=>dG [(100000000000000000000:Int),(0:Int)-(61:Int),(61:Int),(240:Int),(0:Int)-(100000000000000000000:Int)] y49) (λy53=>13 (((dG y16 (3:Int)).bind λy50=>EJ<|y50/6).bind λy51=>EJ<|y51%4) (λy52=>dG [(0:Int)-(1:Int),(7:Int),(100000000000000000000:Int),(3:Int)] y52) λy54=>EJ (y53,y54)) λy55=>EJ y55 else EJ y34:Res Ii)) λs59=>13 (if(decide<|(Z03%7)=(1:Int))then if(decide<|(0:Int)<(y10.length:Int))then 13 (dG y10 y22) (λy68=>EJ (y68.length:Int)) λy69=>EJ (decide<|(0:Int)<y69)else EJ `g else EJ `g) (λy70=>(if y70 then 13 (nO (y10,λ(b:List (List Ii))=>b) y22) (λy80=>13 (dG y16 (1:Int)) (λy78=>13 (dG y10 y22) (λy77=>EJ (y77.length:Int)) λy79=>gY y78 y79) λy81=>(ua y80.1 y81).bind λb=>EJ<|y80.2 b) λy82=>EJ y82 else EJ y10:11 `t)) λs86=>13 (if(decide<|(Z03%7)=(2:Int))then EJ (decide<|(0:Int)<(s86.length:Int))else EJ `g) (λy93=>(if y93 then 13 (nO (s86,λ(b:List (List Ii))=>b) y22) (λy104=>13 (dG y16 (1:Int)) (λy102=>13 ((dG s86 y22).bind λy100=>EJ (y100.length:Int)) (λy101=>EJ<|y101+(1:Int)) λy103=>gY y102 y103) λy105=>(wH y104.1 y105 s59).bind λb=>EJ<|y104.2 b) λy106=>EJ y106 else EJ s86:11 `t)) λs110=>13 (if(decide<|(Z03%7)=(3:Int))then EJ (decide<|(0:Int)<(s110.length:Int))else EJ `g) (λy117=>(if y117 then 13 (ua (s110,λ(b:List (List Ii))=>b).1 y22) (λb=>EJ<|(s110,λ(b:List (List Ii))=>b).2 b) λy124=>EJ y124 else EJ s110:11 `t)) λs128=>(if(decide<|(Z03%7)=(4:Int))then 13 ((dG y16 (1:Int)).bind λy141=>gY y141<|(s128.length:Int)+(1:Int)) (λy142=>(wH (s128,λ(b:List (List Ii))=>b).1 y142 ([]:`t)).bind λb=>EJ<|(s128,λ(b:List (List Ii))=>b).2 b) λy143=>EJ y143 else EJ s128:11 `t).bind λs147=>(if(decide<|(Z03%7)=(5:Int))then(eK s147 λ(a164:List Ii)=>tx a164.reverse<|cut a164 `c<|some (1:Int)).bind λy173=>EJ y173 else EJ s147:11 `t).bind λs178=>13 (if(decide<|(Z03%7)=(6:Int))then if(decide<|(0:Int)<(s178.length:Int))then 13 (dG s178 y22) (λy186=>EJ (y186.length:Int)) λy187=>EJ (decide<|(0:Int)<y187)else EJ `g else EJ `g) (λy188=>(if y188 then 13 (nO (s178,λ(b:List (List Ii))=>b) y22) (λy198=>13 (dG y16 (1:Int)) (λy196=>13 (dG s178 y22) (λy195=>EJ (y195.length:Int)) λy197=>gY y196 y197) λy199=>(kq y198.1 y199 s59).bind λb=>EJ<|y198.2 b) λy200=>EJ y200 else EJ s178:11 `t)) λs204=>EJ s204
def yY(Z4w:List `t)(Z03:Int):11 `t:=Dk ju Z4w Z03
@[irreducible]noncomputable def Dl(Z03:Int):`J:=(cY ([32,33,34,35,36,38,39,40,41,42,43,44,45,46,47,48,49,50,51,52,53,54,55,56,57,58,59,60,61,62,63,64,65,66,67,68,69,70,71,72,73,74,75,76,77,78,79,80,81,82,83,84,85,86,87,88,89,90,91,92,93,94,95,96]:Tx) ([97,98,99,100,101,102,103,104,105,106,107,108,109,110,111,112,113,114,115,116,117,118,119,120,121,122,123,124,125,126,10]:Tx)).bind λy7=>gc y7<|Z03%95
def yZ(Z03:Int):`J:=Dl Z03
@[irreducible]noncomputable def Dm(yZ:Int->`J)(Z0v:Tx)(Z03:Int):`J:=(13 (oX Z0v) (λy3=>EJ<|y3+(1:Int)) λy4=>gY (Z03/5) y4).bind λy5=>(yZ<|Z03/7).bind λy10=>if(decide<|(Z03%5)=(0:Int))then 13 (fu Z0v `c<|some y5) (λy15=>cY y15 y10) λy16=>(fu Z0v (some y5) `c).bind λy17=>cY y16 y17 else if(decide<|(Z03%5)=(1:Int))then(fu Z0v `c<|some y5).bind λy25=>(fu Z0v (some<|y5+(1:Int)) `c).bind λy26=>cY y25 y26 else if(decide<|(Z03%5)=(2:Int))then 13 (fu Z0v `c<|some y5) (λy34=>cY y34 y10) λy35=>(fu Z0v (some<|y5+(1:Int)) `c).bind λy36=>cY y35 y36 else if(decide<|(Z03%5)=(3:Int))then 13 (fu Z0v `c<|some y5) (λy44=>(fu Z0v (some y5)<|some<|y5+(1:Int)).bind λy45=>cY y44 y45) λy46=>(fu Z0v (some y5) `c).bind λy47=>cY y46 y47 else 13 (fu Z0v (some<|y5+(1:Int))<|some<|y5+(2:Int)) (λy55=>(fu Z0v (some y5)<|some<|y5+(1:Int)).bind λy56=>cY y55 y56) λy57=>13 (fu Z0v `c<|some y5) (λy60=>cY y60 y57) λy61=>(fu Z0v (some<|y5+(2:Int)) `c).bind λy62=>cY y61 y62
def xE(Z0v:Tx)(Z03:Int):`J:=Dm yZ Z0v Z03
@[irreducible]noncomputable def Dn(Z0t:Cd×Tx)(Z03:Int):Res (Cd×Tx):=13 ((oX Z0t.2).bind λy11=>EJ (if y11>(1:Int)then y11 else(1:Int))) (λy12=>gY (Z03/4) y12) λy13=>(gc ([102,98,105]:Tx)<|(Z03/7)%3).bind λy18=>(if(decide<|(Z03%4)=(1:Int))then 13 ((fu Z0t.2 `c<|some y13).bind λy29=>cY y29 y18) (λy30=>(fu Z0t.2 (some<|y13+(1:Int)) `c).bind λy31=>cY y30 y31) λy32=>EJ y32 else EJ Z0t.2:`J).bind λs36=>(if(decide<|(Z03%4)=(2:Int))then(gc ([97,98,99,100,101,102,103,104,105,106,107,108,109,110,111,112,113,114,115,116,117,118,119,120,121,122]:Tx)<|(Z03/16)%26).bind λy55=>13 (13 (fu Z0t.1.2.1 none<|some<|(Z03/4)%4) (λy60=>cY y60 y55) λy61=>(fu Z0t.1.2.1 (some<|((Z03/4)%4)+(1:Int)) `c).bind λy62=>cY y61 y62) (λy63=>EJ (Z0t.1.1,y63,Z0t.1.2.2)) λy64=>EJ y64 else EJ Z0t.1:Res Cd).bind λs68=>13 (if(decide<|(Z03%4)=(3:Int))then if(decide<|((Z03/4)%2)=(0:Int))then(oX s36).bind λy79=>EJ (decide<|y79<(240:Int))else EJ `g else EJ `g) (λy80=>(if y80 then(cY s36 y18).bind λy89=>EJ y89 else EJ s36:`J)) λs93=>13 (if(decide<|(Z03%4)=(3:Int))then EJ (decide<|((Z03/4)%2)=(1:Int))else EJ `g) (λy100=>(if y100 then 13 (13 ((oX s93).bind λy109=>EJ<|y109+(1:Int)) (λy110=>gY (Z03/8) y110) λy111=>EJ<|some y111) (λy112=>fu s93 `c y112) λy113=>EJ y113 else EJ s93:`J)) λs117=>EJ (s68,s117)
def xF(Z0t:Cd×Tx)(Z03:Int):Res (Cd×Tx):=Dn Z0t Z03
@[irreducible]noncomputable def Dp(yY:List `t->Int->11 `t)(xE:Tx->Int->`J)(xF:Cd×Tx->Int->Res (Cd×Tx))(Z02:Cd)(Z0z:`w×Option Tx×List `t)(Z03:Int)(Z4f:List `t):Res (`w×Option Tx×List `t):=(if(decide<|(Z03%6)=(1:Int))then(yY Z0z.2.2<|Z03/6).bind λy19=>EJ y19 else EJ Z0z.2.2:11 `t).bind λs23=>13 (if(decide<|(Z03%6)=(2:Int))then EJ Z0z.2.1.isSome else EJ `g) (λy32=>(if y32 then 13 ((gW Z0z.2.1).bind λy41=>Cr y41) (λy53=>13 ((gW Z0z.2.1).bind λy42=>cY y42 ([32]:Tx)) (λy51=>13 ((gW Z0z.2.1).bind λy43=>cY ([32]:Tx) y43) (λy49=>13 ((gW Z0z.2.1).bind λy44=>xE y44<|Z03/60) (λy47=>13 ((gW Z0z.2.1).bind λy45=>cY y45 ([10]:Tx)) (λy46=>EJ<|y46::([]:List Tx)) λy48=>EJ<|y47::y48) λy50=>EJ<|y49::y50) λy52=>EJ<|y51::y52) λy54=>EJ<|y53::y54) λy55=>13 (((13 (fb (5:Int)) (λy74=>eK y74 λ(a60:Int)=>(((gW Z0z.2.1).bind λy69=>EJ (Z02,y69)).bind λy70=>xF y70<|Z03/60).bind λy71=>EJ y71.2) λy75=>tx y55 y75).bind λy76=>dG y76<|(Z03/6)%10).bind λy77=>fu y77 `c<|some (60:Int)) (λy78=>EJ<|some y78) λy79=>EJ y79 else EJ Z0z.2.1:Res (Option Tx))) λs83=>13 (if(decide<|(Z03%6)=(3:Int))then EJ Z0z.1.isSome else EJ `g) (λy93=>(if y93 then 13 (((13 ((gW Z0z.1).bind λy102=>EJ<|y102-(1:Int)) (λy103=>EJ (if y103>(0:Int)then y103 else(0:Int))) λy106=>13 ((gW Z0z.1).bind λy104=>EJ<|y104+(1:Int)) (λy105=>EJ<|y105::([(0:Int),(60:Int)]:`H)) λy107=>EJ<|y106::y107).bind λy108=>dG y108<|(Z03/6)%4).bind λy109=>EJ<|y109%61) (λy110=>EJ<|some y110) λy111=>EJ y111 else EJ Z0z.1:Res `w)) λs115=>(if(decide<|(Z03%6)=(4:Int))then(dG [(none:`w),some (0:Int),some (1:Int),some (2:Int)]<|(Z03/6)%4).bind λy132=>(dG [(none:Option Tx),s83,some ([]:Tx)]<|(Z03/24)%3).bind λy137=>EJ (y132,y137)else EJ (s115,s83):Res (`w×Option Tx)).bind λs141=>(if(decide<|(Z03%6)=(5:Int))then EJ Z4f else EJ s23:11 `t).bind λs163=>EJ (s141.1,s141.2,s163)
def oB(Z02:Cd)(Z0z:`w×Option Tx×List `t)(Z03:Int)(Z4f:List `t):Res (`w×Option Tx×List `t):=Dp yY xE xF Z02 Z0z Z03 Z4f
@[irreducible]noncomputable def fY(qQ:Cd->`m->Int->Int->Tx->`x)(qR:Cd->Tx->`C)(y1:Cd×`m×Int)(a16:Tx)(s17:`w):Res `w:=13 (qQ y1.1 y1.2.1 y1.2.2 (y1.2.1.length:Int) a16) (λy40=>(if y40 then(qR y1.1 a16).bind λy49=>13 (if s17.isNone then EJ true else(gW s17).bind λy52=>EJ<|decide<|y49<y52) (λy53=>(if y53 then EJ (some y49)else EJ s17:Res `w)) λs65=>EJ s65 else EJ s17:Res `w)) λs75=>EJ s75
@[irreducible]noncomputable def eX(m9:Cd->`m->Int->`w×Option Tx×List `t->`x)(iq:`H->Int->`C)(oB:Cd->`w×Option Tx×List `t->Int->List `t->Res (`w×Option Tx×List `t))(Z0n:`H)(y1:Cd×`m×Int)(s86:`w)(y108:List `t)(a111:Int)(s112:`w×Option Tx×List `t):Res (Fl Bool<|`w×Option Tx×List `t):=(iq Z0n a111).bind λy137=>(if(decide<|(0:Int)<(y137%3))then(oB y1.1 s112 (y137/3) y108).bind λy148=>EJ y148 else EJ s112:Res (`w×Option Tx×List `t)).bind λs152=>((m9 y1.1 y1.2.1 y1.2.2 s152).bind λy162=>if y162 then(BL s152.1 s86).bind λy161=>EJ (!y161)else EJ `g).bind λy163=>if y163 then EJ (.rt `g)else EJ (.nx s152)
@[irreducible]noncomputable def sr(xx:`H->Int->Res (Cd×`m×Int))(yO:Int->11 Tx)(qQ:Cd->`m->Int->Int->Tx->`x)(qR:Cd->Tx->`C)(yU:Cd->`m->Int->Res (`w×Option Tx×List `t))(m9:Cd->`m->Int->`w×Option Tx×List `t->`x)(yX:Cd->`m->Int->Int->11 `t)(iq:`H->Int->`C)(oB:Cd->`w×Option Tx×List `t->Int->List `t->Res (`w×Option Tx×List `t))(Z0n:`H):`x:=(xx Z0n (4:Int)).bind λy1=>((yO (y1.2.1.length:Int)).bind λy85=>bO (fY qQ qR y1) y85 (none:`w)).bind λs86=>(yU y1.1 y1.2.1 y1.2.2).bind λy92=>(((m9 y1.1 y1.2.1 y1.2.2 y92).bind λy95=>BL y95 true).bind λy96=>EJ<|!y96).bind λy97=>if y97 then EJ `g else 13 ((iq Z0n (5:Int)).bind λy106=>EJ<|y106%6) (λy107=>yX y1.1 y1.2.1 y1.2.2 y107) λy108=>13 (nP (6:Int) (9:Int)) (λy170=>eS (eX m9 iq oB Z0n y1 s86 y108) y170 y92) (λ| .nx s171=>(EJ true)| .rt r=>EJ r| .bk _=>Jp)
def wJ(Z0n:`H):`x:=sr xx yO qQ qR yU m9 yX iq oB Z0n
end
end Mi
namespace Wb
open PySem L2 Mi
def tp(i:Nat):Stmt:=K6.main.body.getD i (.Pass ⟨0,0,0,0⟩)
end Wb
namespace Wb
open PySem L2 Mi
section
variable{P:F6}{w:Fh}{K:EL}{mg:Str->`Q}{base:Heap}
theorem DO{f:Addr}{fd:Fi}(F:Fun K "_law_at" "_law_at" (tp 42) f fd)(a1:mg "len"=`c):FnOk P w K mg base CX0 (1) f fd ["_law_script","_law_k"] (bI (isScr K) isI (rs isI) Cs):=by
 have SC:31 ["_law_script","_law_k"] ["_law_script","_law_k"] (tp 42):=by walk_at "F"
 refine 33 SC ?_ ?_;·obtain⟨_,_,_,_,_,_,rfl,_⟩:=h;rfl
 ·obtain⟨W0,a3,l_k,a9,_,rfl,rfl,a0,z_l_k,Er,hq⟩:=h;cases z_l_k
  refine 9 (ae (aT (20 mq (pv 1) (24 (aM (K:=K) `a) a1 Ff<|2 0 af) _) (19<|18 (35 `a) 0 (pv 1) `j) aD)<|19<|ai ay (ai fQ (ai aZ (16 fQ 1 aa) aa)<|ai aZ (24 (aM (K:=K) `a) a1 Ff<|2 0 af) aa) aa) ?_
  have E0:12 W0:=`N;unfold Cs at hq;refine cm (Er:=Er) (aq<|bW aP<|mN `v) λW1 e2=>?_;have E0:=E0.trans e2;have a0:=3 e2.g;by_cases a2:1 (decide<|l_k<(a3.length:Int))
  ·rw[Z0 a2]at hq ⊢;exact 25 (vi `v aP) (Fn hq λy3 hq v4 W5 e6 h7=>28 v4 W5 e6 h7)
  ·rw[Z1 a2]at hq ⊢
   try dsimp only[aF]
   exact 25 (ak `B<|jH (aK (ak (λ_=>.inr `R) aP) ah)<|aK (mN `v) ah) (Fn hq λy9 hq a4 a5 a6 a7=>28 a4 a5 a6 a7)
theorem DP{f:Addr}{fd:Fi}(F:Fun K "_law_row" "_law_row" (tp 38) f fd)(c8:mg "abs"=`c)(c9:mg "range"=`c):FnOk P w K mg base CX0 (1) f fd ["_law_cell","_law_many","_law_base"] (ef isI isI isI (ro isI) Ct):=by
 have SC:31 ["_law_cell","_law_many","_law_base","_law_now","_law_far","_law_mix","_law_out","_law_k"] ["_law_cell","_law_many","_law_base"] (tp 38):=by walk_at "F"
 refine 33 SC ?_ ?_;·obtain⟨_,_,_,_,_,_,_,_,rfl,_⟩:=h;rfl
 ·obtain⟨W0,a2,b1,a7,_,_,_,rfl,rfl,d0,d1,d2,Er,hq⟩:=h;cases d0;cases d1;cases d2
  refine 9 (ae (cg 3<|24 hZ c8 HP<|2 0 af)<|ae (cg 4<|cB oI (pv 3) (ai ni aa aa)<|ar _)<|ae (cg 5<|16 ay 3 aa)<|ae (cg 6<|bJ af)<|ae (bV Fj `a (fJ `a c9<|2 1 af) (eI 7)<|ae (cg 5<|ai ay (ai aZ (ai aZ (16 fQ 5 aa) aa)<|pv 7) aa)<|ag<|aT (IT<|cF (dt<|pv 4)<|cA<|20 gU (pv 3) aa _) (ae (dN<|d5 (K:=K) `a (pv 6)<|15<|16 ay 3<|pv 2)<|ag<|cg 3<|16 aV 3<|pv 2)<|ag<|dN<|d5 (K:=K) `a (pv 6)<|15<|ai ay (ai ay (16 fQ 5<|pv 5) aa)<|pv 2)<|19<|pv 6) ?_
  have E0:12 W0:=`N;unfold Ct at hq;refine bg (17 (l7 aP) λv3 W1 e2 h4=>?_)
  cases h4;have E0:=E0.trans e2;refine bg (17 (bW aP<|kD (r:=1000000000000000000) ⋯ ⋯) λv7 W5 e6 h8=>?_)
  cases h8;have E0:=E0.trans e6;refine bg (17 (ak `B aP) λf7 W9 d3 d4=>?_)
  cases d4;have E0:=E0.trans d3;refine bg (gd (Er:=Er) (gO (R:=isI)) λa4 f8 d6 d7 b2=>?_)
  have b3:=none_of E0.h d7;have E0:=E0.trans d6;refine cz (Er:=Er) (f:=Bd a2 a7) (s0:=(((cy a2)%2147483647),cy a2,([]:`H))) (Iv:=λ(b4:(Int×Int×(List Int)))(c3:Wd)(d8:St)=>∃(b5:Option V),d8=[6 a2,6 b1,6 a7,6 b4.2.1,some<|.bl<|decide<|(1000000000000000000:Int)<=cy a2,6 b4.1,27 a4,b5]/\12 c3/\Ow isI c3 a4 b4.2.2) (gw aP) (EE hq) ?_ ?_ ?_
  ·intro f9 c4;have E0:=E0.trans c4;have b2:=b2.mono c4;exact⟨_,`a,E0,b2⟩
  ·intro g0 g1 g2 a9 g3 a5 g4 g5 g6 a0 iv b6 d9 hq;obtain⟨b5,rfl,E0,a1⟩:=iv;have E0:=E0.trans b6;have a0:=a0.trans b6.g;have a1:=a1.mono b6;cases d9;refine gn (σ':=[6 a2,6 b1,6 a7,6 a5.2.1,some<|.bl<|decide<|(1000000000000000000:Int)<=cy a2,6 a5.1,27 a4,6 a9]) ?_;unfold Bd at hq;refine bg (17 (ak `B<|aK (aK (ak (λ_=>.inr `R) aP) ah) aP) λg7 g8 b7 e0=>?_)
   cases e0;have E0:=E0.trans b7;have a0:=a0.trans b7.g;have a1:=a1.mono b7;refine ig (Er:=Er) (Iv:=λ(c5:(Int×(List Int)))(c6:Wd)(e1:St)=>e1=[6 a2,6 b1,6 a7,6 c5.1,some<|.bl<|decide<|(1000000000000000000:Int)<=cy a2,some<|.int<|(a5.1*48271+(7919:Int)+a9)%2147483647,27 a4,6 a9]/\12 c6/\Ow isI c6 a4 c5.2) (cQ (l6 C1)<|aq<|bW aP ah) (EE hq) ?_ ?_ ?_
   ·intro e3 e4 a3 b8 hq;have a6:=a3.g;have E0:=E0.trans a3;have a0:=a0.trans a3.g;have a1:=a1.mono a3;refine bg (ij (Er:=Er) a1 (fE aP aP)<|5 hq λe5 hq g9 b9 c0=>?_)
    have E0:=b9.e _ E0 b3;have a0:=a0.trans b9.g;have a6:=a6.trans b9.g;refine 17 (rF aP aP) (5 hq λe7 hq h0 e8 b0 e9=>?_);cases e9;have E0:=E0.trans b0;have a0:=a0.trans b0.g;have a6:=a6.trans b0.g;have c0:=c0.mono b0;exact b8 (e7,e5) e8 _ a6 ⟨`a,E0,c0⟩ hq
   ·intro e3 e4 a3 b8 hq;have c1:=a3.g;have E0:=E0.trans a3;have a0:=a0.trans a3.g;have a1:=a1.mono a3;refine ij (Er:=Er) a1 (fE (ak `B<|jH aP aP) aP) (5 hq λf0 hq f1 c2 f2=>?_);have E0:=c2.e _ E0 b3;have a0:=a0.trans c2.g;have c1:=c1.trans c2.g;exact b8 (a5.2.1,f0) f1 _ c1 ⟨`a,E0,f2⟩ hq
   ·intro c7 f3 h1 f4 iv hq;obtain⟨rfl,E0,f5⟩:=iv;have a0:=a0.trans f4
    try dsimp only
    refine bS (W:=f3) (((a5.1*48271+(7919:Int)+a9)%2147483647),c7.1,c7.2) a0 ?_ hq;exact⟨_,`a,E0,f5⟩
  ·intro h2 f6 h3 h5 iv hq;obtain⟨b5,rfl,E0,a1⟩:=iv;exact⟨.ref a4,`a,hq a4 f6 E0 b3 a1⟩
theorem DQ{f:Addr}{fd:Fi}(F:Fun K "_law_holes" "_law_holes" (tp 39) f fd){ju:Int->Int->Int->11 Int}(a9:Cal P w K mg base "_law_row" ["_law_cell","_law_many","_law_base"] (1) (ef isI isI isI (ro isI) ju)):FnOk P w K mg base CX0 (2) f fd ["_law_cell"] (eH isI (rs isS)<|Cu ju):=by
 have SC:31 ["_law_cell","_law_size","_law_draws","_law_out","_law_d"] ["_law_cell"] (tp 39):=by walk_at "F"
 refine 33 SC ?_ ?_;·obtain⟨_,_,_,_,rfl,_⟩:=h;rfl
 ·obtain⟨W0,a5,_,rfl,rfl,b0,Er,hq⟩:=h;cases b0;refine 9 (ae (cg 1<|az (35 `a) (bJ<|a8 aa<|a8 aa<|a8 aa<|a8 aa<|15 aa) (16 ay 0 aa) `j)<|ae (cg 2<|cO a9<|a8 (16 aV 0 aa)<|a8 aa<|15 aa)<|ae (cg 3 aX)<|ae (bV Fj `a (bQ (K:=K) `a<|bC (oW (K:=K) `a) (pv 2) cj<|bA aa) (eI 4)<|ag<|cg 3<|16 aO 3<|az cq aX (ai ay (ai aZ (18 (35 `a) 2 aa `j)<|ai fQ (16 ay 4<|pv 1) aa) aa) `j)<|19<|pv 3) ?_
  have E0:12 W0:=`N;unfold Cu at hq;refine bg (17 (bw (IB<|dY<|aN ah<|aN ah<|aN ah<|aN ah<|aN ah<|dX (R:=isI))<|ak `B aP)<|5 hq λy3 hq v4 W1 e2 h5=>?_)
  cases h5;have E0:=E0.trans e2;refine bg (17 (Hm<|gv (ak (λ_=>`R) aP) ah ah)<|5 hq λy8 hq v9 W6 e7 a0=>?_)
  have E0:=E0.trans e7;refine bg (17 (aY (x:=EO "") (l:=[])<|fG _ _ ⋯) λc6 c7 a6 b1=>?_)
  cases b1;have E0:=E0.trans a6;have a0:=3 a6.g;refine cz (Er:=Er) (f:=Be y3 y8) (s0:=([]:Tx)) (Iv:=λ(b2:Tx)(b3:Wd)(b4:St)=>∃(a2:Option V),b4=[6 a5,6 y3,some v9,22 b2,a2]/\12 b3) (cv<|Hm<|rJ (Gr `v) eM<|cU ah) (EE hq) ?_ ?_ ?_
  ·intro c8 a7;have E0:=E0.trans a7;have a0:=3 a7.g;exact 9 `a E0
  ·intro c9 d0 d1 b5 d2 b6 d3 d4 b7 a1 iv a3 b8 hq;obtain⟨a2,rfl,E0⟩:=iv;have a0:=3 b7;have E0:=E0.trans a3;have a1:=a1.trans a3.g;have a0:=3 a3.g;cases b8;refine gn (σ':=[6 a5,6 y3,some v9,22 b6,6 b5]) ?_;unfold Be at hq;refine 17 (bB bY<|cu (aY (x:=EO "abcdefghijklmnopqrstuvwxyz") (l:=[97,98,99,100,101,102,103,104,105,106,107,108,109,110,111,112,113,114,115,116,117,118,119,120,121,122])<|fG _ _ ⋯)<|ak `B<|aK (bw (Gr `v) ah)<|ak (λ_=>.inr `R)<|fE aP aP) (5 hq λb9 hq d5 c0 a4 c1=>?_);cases c1;have E0:=E0.trans a4;have a1:=a1.trans a4.g;have a0:=3 a4.g
   try dsimp only
   refine bS (W:=c0) b9 a1 ?_ hq;exact 9 `a E0
  ·intro d6 d7 d8 d9 iv hq;obtain⟨a2,rfl,E0⟩:=iv;exact 25 bY λc2 c3 c4 c5=>28 c2 c3 c4 c5
theorem DR{f:Addr}{fd:Fi}(F:Fun K "_law_card" "_law_card" (tp 40) f fd){yG:Int->`J}(a0:Cal P w K mg base "_law_holes" ["_law_cell"] (2) (eH isI (rs isS) yG)):FnOk P w K mg base CX0 (3) f fd ["_law_cell"] (eH isI (rs `n)<|Cv yG):=by
 have SC:31 ["_law_cell"] ["_law_cell"] (tp 40):=by walk_at "F"
 refine 33 SC ?_ ?_;·obtain⟨_,_,_,_,rfl,_⟩:=h;rfl
 ·obtain⟨W0,a2,_,rfl,rfl,a1,Er,hq⟩:=h;cases a1;refine 9 (19<|cn<|a8 (az cq aX (16 ay 0 aa) `j)<|a8 (cO a0<|15<|16 aV 0 aa)<|15<|ai ay (16 aV 0 aa) aa) ?_;have E0:12 W0:=`N;unfold Cv at hq;exact 25 (cZ (K:=K) (cu (aY (x:=EO "SZ") (l:=[83,90])<|fG _ _ ⋯)<|ak `B aP) (dh<|ak (λ_=>`R) aP)<|ak `B<|ak (λ_=>`R) aP) (Fn hq λy3 hq v4 W5 e6 h7=>28 v4 W5 e6 h7)
theorem DS{f:Addr}{fd:Fi}(F:Fun K "_law_turns" "_law_turns" (tp 41) f fd){ju:Int->Int->Int->11 Int}(a3:Cal P w K mg base "_law_row" ["_law_cell","_law_many","_law_base"] (1) (ef isI isI isI (ro isI) ju)):FnOk P w K mg base CX0 (2) f fd ["_law_cell","_law_many"] (bI isI isI (rs isS)<|Cw ju):=by
 have SC:31 ["_law_cell","_law_many"] ["_law_cell","_law_many"] (tp 41):=by walk_at "F"
 refine 33 SC ?_ ?_;·obtain⟨_,_,_,_,_,_,rfl,_⟩:=h;rfl
 ·obtain⟨W0,a0,a1,_,_,rfl,rfl,a4,a5,Er,hq⟩:=h;cases a4;cases a5;refine 9 (ae (aT (20 bz (16 ay 0 aa) aa _) (19<|ai qo (az cq aX (ai ay (16 aV 0 aa) aa) `j)<|pv 1) aD)<|19<|lb (K:=K) `a aX<|15<|fh (N:=["_law_d"]) (cap:=[none]) (i8 `a ⋯ `a ⋯ `z `z) `a (bQ (K:=K) `a<|cO a3<|a8 (16 aV 0 aa)<|2 1<|15 aa) (λ_ _ _ _=>(bG (i:=0) (show Gd (["_law_d"]:`I) by decide +kernel) `a (by walk_at "L"))) (λ_ _ _ _=>cG) λ_ _ _ _=>az cq aX (pv 0) `j) ?_
  have E0:12 W0:=`N;rw[show L2.start ["_law_cell","_law_many"] [.int a0,.int a1]=[6 a0,6 a1]from rfl];unfold Cw at hq;refine cm (Er:=Er) (aq<|bD (ak `B aP) ah) λW1 e2=>?_;have E0:=E0.trans e2;by_cases a2:1 (decide<|(a0%7)=(3:Int))
  ·rw[Z0 a2]at hq ⊢;exact 25 (xY (cu (aY (x:=EO "fbi") (l:=[102,98,105])<|fG _ _ ⋯)<|ak `B<|ak (λ_=>`R) aP) aP) (Fn hq λy4 hq v5 W6 e7 h8=>28 v5 W6 e7 h8)
  ·rw[Z1 a2]at hq ⊢
   try dsimp only[aF]
   exact 25 (nI (fG _ _ ⋯)<|IB (fo (cv<|Hm<|gv (ak (λ_=>`R) aP) aP ah) λb4 a9 b5 b6 a6 b7 a7=>by
    cases a6;refine gn ?_;exact⟨by simp[Keep,bH],((cu (aY (x:=EO "fbi") (l:=[102,98,105])<|fG _ _ ⋯) aP):EV Er _ [6 a9] _ _ _) _ `q _ a7⟩)) (Fn hq λb8 hq b0 b1 b2 b3=>28 b0 b1 b2 b3)
theorem DT{f:Addr}{fd:Fi}(F:Fun K "_law_go" "_law_go" (tp 44) f fd):FnOk P w K mg base CX0 (1) f fd ["_law_turn"] (eH isS (rs isI) Cy):=by
 have SC:31 ["_law_turn"] ["_law_turn"] (tp 44):=by walk_at "F"
 refine 33 SC ?_ ?_;·obtain⟨_,_,_,_,rfl,_⟩:=h;rfl
 ·obtain⟨W0,a1,_,rfl,rfl,a0,Er,hq⟩:=h;cases a0;refine 9 (19<|ai dW (gy (K:=K) `a `a aX<|2 0 af) aa) ?_;have E0:12 W0:=`N;unfold Cy at hq;exact 25 (aK (jh (aY (x:=EO "bif") (l:=[98,105,102])<|fG _ _ ⋯) bY) ah) (Fn hq λy2 hq v3 W4 e5 h6=>28 v3 W4 e5 h6)
theorem DU{f:Addr}{fd:Fi}(F:Fun K "_law_behind" "_law_behind" (tp 45) f fd){qe:Tx->`C}(a1:Cal P w K mg base "_law_go" ["_law_turn"] (1) (eH isS (rs isI) qe)):FnOk P w K mg base CX0 (2) f fd `Y (bI `n isS (rs `n)<|Cz qe):=by
 have SC:31 `Y `Y (tp 45):=by walk_at "F"
 refine 33 SC ?_ ?_;·obtain⟨_,_,_,_,_,_,rfl,_⟩:=h;rfl
 ·obtain⟨W0,a3,a4,a5,_,rfl,rfl,a0,a2,Er,hq⟩:=h;cases a2;refine 9 (19<|cn<|a8 (18 (aR (K:=K) `a) 0 aa `j)<|a8 (18 (aR (K:=K) `a) 0 aa `j)<|15<|ai ay (ai aZ (18 (aR (K:=K) `a) 0 aa `j)<|cO a1<|2 1 af) aa) ?_;have E0:12 W0:=`N;unfold Cz at hq;exact 25 (cZ (K:=K) (bj (f:=λ(b:Cd)=>b.1) lY `v) (bj (f:=λ(b:Cd)=>b.2.1) kA `v)<|ak `B<|aK (bj (f:=λ(b:Cd)=>b.2.2) kB `v)<|dh bY) (Fn hq λy4 hq v5 W6 e7 h8=>28 v5 W6 e7 h8)
theorem DV{f:Addr}{fd:Fi}(F:Fun K "_law_twist" "_law_twist" (tp 46) f fd){qe:Tx->`C}(a1:Cal P w K mg base "_law_go" ["_law_turn"] (1) (eH isS (rs isI) qe)):FnOk P w K mg base CX0 (2) f fd `Y (bI `n isS (rs isI)<|CA qe):=by
 have SC:31 `Y `Y (tp 46):=by walk_at "F"
 refine 33 SC ?_ ?_;·obtain⟨_,_,_,_,_,_,rfl,_⟩:=h;rfl
 ·obtain⟨W0,a3,b0,b1,_,rfl,rfl,a0,a4,Er,hq⟩:=h;cases a4;refine 9 (ae (aT (20 bz (18 (aR (K:=K) `a) 0 aa `j) aX _) (19<|cO a1<|2 1 af) aD)<|19<|ai dW aa<|cO a1<|2 1 af) ?_
  have E0:12 W0:=`N;unfold CA at hq;refine cm (Er:=Er) (aq<|gN (bj (f:=λ(b:Cd)=>b.1) lY `v)<|aY (x:=EO "S") (l:=[83])<|fG _ _ ⋯) λW1 e2=>?_;have E0:=E0.trans e2;have a0:=3 e2.g;by_cases a2:1 (decide<|a3.1=([83]:Tx))
  ·rw[Z0 a2]at hq ⊢;exact 25 (dh bY) (Fn hq λy3 hq v4 W5 e6 h7=>28 v4 W5 e6 h7)
  ·rw[Z1 a2]at hq ⊢
   try dsimp only[aF]
   exact 25 (aK ah<|dh bY) (Fn hq λy9 hq a5 a6 a7 a9=>28 a5 a6 a7 a9)
theorem DW{f:Addr}{fd:Fi}(F:Fun K "_law_places" "_law_places" (tp 47) f fd){kK:Cd->Tx->Res Cd}{fF:Cd->Tx->`C}(b7:Cal P w K mg base "_law_behind" `Y (2) (bI `n isS (rs `n) kK))(b8:Cal P w K mg base "_law_twist" `Y (2) (bI `n isS (rs isI) fF)):FnOk P w K mg base CX0 (3) f fd `Z (bI `n isS (ro<|qB K)<|CB kK fF):=by
 have SC:31 [`V,"_law_turns_here","_law_out","_law_turn","_law_slant"] `Z (tp 47):=by walk_at "F"
 refine 33 SC ?_ ?_;·obtain⟨_,_,_,_,_,_,rfl,_⟩:=h;rfl
 ·obtain⟨W0,b9,b6,c9,_,rfl,rfl,a3,c0,Er,hq⟩:=h;cases c0;refine 9 (ae (cg 2<|bJ af)<|ae (bV Fj `a (i6<|pv 1) (eI 3)<|ae (cg 0<|cO b7<|2 0<|2 3 af)<|ae (cg 4<|az cq aX (ai aZ (cO b8<|2 0<|2 3 af) aa) `j)<|ag<|dN<|d5 (K:=K) `a (pv 2)<|15<|cn<|a8 (az cq (18 (aR (K:=K) `a) 0 aa `j) (18 (aR (K:=K) `a) 0 aa `j) `j)<|a8 (az cq (18 (aR (K:=K) `a) 0 aa `j) (ai ay (ai aZ (18 (aR (K:=K) `a) 0 aa `j) aa) aa) `j)<|2 4 af)<|19<|pv 2) ?_
  have E0:12 W0:=`N;unfold CB at hq;refine bg (gd (Er:=Er) (gO (R:=qB K)) λp3 W1 e2 hp4 o5=>?_)
  have fr6:=none_of E0.h hp4;have E0:=E0.trans e2;have a3:=ED e2.g a3;refine cz (Er:=Er) (f:=Bf kK fF) (s0:=(b9,([]:`m))) (Iv:=λ(s9:(Cd×(List Pl)))(b1:Wd)(c1:St)=>∃(a4:V)(a5:Option V)(b2:Option V),c1=[some a4,22 b6,27 p3,b2,a5]/\12 b1/\`n b1.G s9.1 a4/\Ow (qB K) b1 p3 s9.2) (ie bY) (EE hq) ?_ ?_ ?_
  ·intro d0 b3;have E0:=E0.trans b3;have a3:=ED b3.g a3;have o5:=o5.mono b3;exact⟨_,_,_,`a,E0,a3,o5⟩
  ·intro d1 d2 d3 a7 d4 s8 d6 d7 d8 a1 iv a6 c2 hq;obtain⟨a4,a5,b2,rfl,E0,a9,a2⟩:=iv;have E0:=E0.trans a6;have a1:=a1.trans a6.g;have a2:=a2.mono a6;have a9:=ED a6.g a9;cases c2;refine gn (σ':=[some a4,22 b6,27 p3,22 a7,a5]) ?_;unfold Bf at hq;refine bg (17 (bo (aI a9) bY)<|5 hq λc3 hq d9 e0 b4 a0=>?_)
   have E0:=E0.trans b4;have a1:=a1.trans b4.g;have a2:=a2.mono b4;refine bg (17 (cu (aY (x:=EO "zos") (l:=[122,111,115])<|fG _ _ ⋯)<|aK (bo `v bY) ah)<|5 hq λe1 hq e3 e4 b0 c4=>?_)
   cases c4;have E0:=E0.trans b0;have a1:=a1.trans b0.g;have a2:=a2.mono b0;have a0:=3 b0.g;refine ij (Er:=Er) a2 (cZ (K:=K) (cu (bj (f:=λ(b:Cd)=>b.2.1) kA `v)<|bj (f:=λ(b:Cd)=>b.2.2) kB `v) (cu (bj (f:=λ(b:Cd)=>b.2.1) kA `v)<|ak `B<|aK (bj (f:=λ(b:Cd)=>b.2.2) kB `v) ah) bY) (5 hq λc5 hq c6 b5 c7=>?_);have E0:=b5.e _ E0 fr6;have a1:=a1.trans b5.g;have a0:=3 b5.g
   try dsimp only
   refine bS (W:=c6) (c3,c5) a1 ?_ hq;exact⟨_,_,_,`a,E0,a0,c7⟩
  ·intro e5 c8 e6 e7 iv hq;obtain⟨a4,a5,b2,rfl,E0,a9,a2⟩:=iv;exact⟨.ref p3,`a,hq p3 c8 E0 fr6 a2⟩
theorem DX{f:Addr}{fd:Fi}(F:Fun K "_law_marks" "_law_marks" (tp 48) f fd){ju:Int->Int->Int->11 Int}(h1:Cal P w K mg base "_law_row" ["_law_cell","_law_many","_law_base"] (1) (ef isI isI isI (ro isI) ju))(h2:mg "int"=`c)(h3:mg "len"=`c)(h4:mg "tuple"=`c)(f4:mg "zip"=`c):FnOk P w K mg base CX0 (2) f fd ["_law_places_here","_law_cell","_law_lies"] (ef (qD K) isI isB (ro<|qB K)<|CC ju):=by
 have SC:31 ["_law_places_here","_law_cell","_law_lies","_law_out","_law_draws","_law_place","_law_d","_law_mark","_law_letters"] ["_law_places_here","_law_cell","_law_lies"] (tp 48):=by walk_at "F"
 refine 33 SC ?_ ?_;·obtain⟨_,_,_,_,_,_,_,_,rfl,_⟩:=h;rfl
 ·obtain⟨W0,m1,b0,b3,b4,_,_,rfl,rfl,b6,h5,h6,Er,hq⟩:=h;cases h5;cases h6;refine 9 (ae (cg 3<|bJ af)<|ae (cg 4<|cO h1<|a8 (16 aV 1 aa)<|a8 (24 (aM (K:=K) `a) h3 Ff<|2 0 af)<|15<|ai aZ aa<|ai fQ aa<|dn jE `z h2 HQ<|2 2 af)<|ae (bV Fj `a (gK (K:=K) `a `a f4<|2 0<|2 4 af) (bN (K:=K) (n:=2) `a `a<|aA (eI 5)<|aA (eI 6) bM)<|ae (aT (20 bz (16 ay 1 aa) aa _) (ag<|cg 6<|ai fQ (16 aV 6 aa) aa) aD)<|ae (aT (20 bz (16 ay 1 aa) aa _) (ag<|cg 6<|ai aZ (ai fQ (16 aV 6 aa) aa) aa) aD)<|ae (cg 7<|bJ<|a8 (18 (aR (K:=K) `a) 5 aa `j)<|a8 (18 (aR (K:=K) `a) 5 aa `j)<|15<|18 (aR (K:=K) `a) 5 aa `j)<|ae (aT (IT<|cF (20 oI (pv 6) aa _)<|cA<|20 mq (16 ay 6 aa) aa _) (ae (cg 8 aX)<|ag<|eQ (18 cq 8 (ai aZ (gy (K:=K) `a `a (pv 8)<|15<|18 (35 `a) 7 (16 ay 6 aa) `j) aa) `j)<|qf (pv 7) (16 ay 6 aa) kR) aD)<|ae (aT (IT<|cF (20 oI (pv 6) aa _)<|cA<|20 bz (16 ay 6 aa) aa _) (ag<|eQ (az cq aX (gy (K:=K) `a `a aX<|15<|18 (35 `a) 7 aa `j) `j)<|qf (pv 7) aa kR) aD)<|ag<|dN<|d5 (K:=K) `a (pv 3)<|15<|dn (la (K:=K) `a) `z h4 Jn<|15<|fh (N:=["_law_sign_here","_law_part","_law_d"]) (cap:=[none,none,some 6]) (i8 `a ⋯ `a ⋯ `z `z) `a (gK (K:=K) `a `a f4<|2 7<|15<|bJ<|a8 aa<|a8 aa<|15 aa) (λ_ _ _ _=>bN (K:=K) (n:=2) `a `a<|aA (bG (i:=0) (show Gd (["_law_sign_here","_law_part","_law_d"]:`I) by decide +kernel) `a (by walk_at "L"))<|aA (bG (i:=1) (show Gd (["_law_sign_here","_law_part","_law_d"]:`I) by decide +kernel) `a (by walk_at "L")) bM) (λ_ _ _ _=>cG) λ_ _ _ _=>gu (20 bz (ai ay (16 aV 2<|pv 1) aa) aa _) (pv 0) aX)<|19<|pv 3) ?_
  have E0:12 W0:=`N;rw[show L2.start ["_law_places_here","_law_cell","_law_lies","_law_out","_law_draws","_law_place","_law_d","_law_mark","_law_letters"] [b4,.int b0,.bl b3]=[some b4,6 b0,some (.bl b3),none,none,none,none,none,none]from rfl];unfold CC at hq;refine bg (gd (Er:=Er) (gO (R:=qB K)) λp3 W1 e2 hp4 o5=>?_)
  have fr6:=none_of E0.h hp4;have E0:=E0.trans e2;have b6:=ED e2.g b6;refine bg (17 (Hm<|gv (ak (λ_=>`R) aP) (cC<|Gr<|aI b6)<|aK ah<|jH ah<|nL C1)<|5 hq λm2 hq b8 W7 e8 h7=>?_)
  have E0:=E0.trans e8;have b6:=ED e8.g b6;have o5:=o5.mono e8;refine cz (Er:=Er) (f:=Bg b0) (s0:=([]:`m)) (Iv:=λ(h8:(List Pl))(f5:Wd)(h9:St)=>∃(d2:Option V)(b9:Option V)(c0:Option V)(d3:Option V),h9=[some b4,6 b0,some (.bl b3),27 p3,some b8,d3,d2,b9,c0]/\12 f5/\Ow (qB K) f5 p3 h8) (jK (jb<|aI b6)<|jb<|aI h7) (EE hq) ?_ ?_ ?_
  ·intro m3 f6;have E0:=E0.trans f6;have o5:=o5.mono f6;exact⟨_,_,_,_,`a,E0,o5⟩
  ·intro m4 m5 m6 c1 m7 c7 m8 m9 n0 a0 iv d4 i0 hq;obtain⟨d2,b9,c0,d3,rfl,E0,a5⟩:=iv;have E0:=E0.trans d4;have a0:=a0.trans d4.g;have a5:=a5.mono d4;refine jc i0 λc8 n1 a1 i1=>?_;cases i1;unfold Bg at hq;refine br (Er:=Er) (Iv:=λ(i2:Int)(f7:Wd)(i3:St)=>i3=[some b4,6 b0,some (.bl b3),27 p3,some b8,some c8,6 i2,b9,c0]/\12 f7/\Ow (qB K) f7 p3 c7) (aq<|bD (ak `B aP) ah) (EE hq) ?_ ?_ ?_
   ·intro f8 i4 a6 d6 hq;have d7:=a6.g;have E0:=E0.trans a6;have a0:=a0.trans a6.g;have a5:=a5.mono a6;have a1:=10 a6.g;refine 17 (ak (λ_=>.inr `R)<|ak (λ_=>`R) aP) λn2 i5 c2 i6=>?_;cases i6;have E0:=E0.trans c2;have a0:=a0.trans c2.g;have d7:=d7.trans c2.g;have a5:=a5.mono c2;have a1:=10 c2.g;exact d6 ((c1.2/8)*8) i5 _ d7 ⟨`a,E0,a5⟩ hq
   ·intro f8 i4 a6 d6 hq;have i7:=a6.g;have E0:=E0.trans a6;have a0:=a0.trans a6.g;have a5:=a5.mono a6;have a1:=10 a6.g
    try dsimp only[aF]
    exact d6 c1.2 f8 _ i7 ⟨`a,E0,a5⟩ hq
   ·intro f9 n3 n4 g0 iv hq;obtain⟨rfl,E0,b1⟩:=iv;have a0:=a0.trans g0;have a1:=10 g0;refine br (Er:=Er) (Iv:=λ(i9:Int)(g1:Wd)(j0:St)=>j0=[some b4,6 b0,some (.bl b3),27 p3,some b8,some c8,6 i9,b9,c0]/\12 g1/\Ow (qB K) g1 p3 c7) (aq<|bD (ak `B aP) ah) (EE hq) ?_ ?_ ?_
    ·intro g2 j1 a7 d8 hq;have d9:=a7.g;have E0:=E0.trans a7;have a0:=a0.trans a7.g;have b1:=b1.mono a7;have a1:=10 a7.g;refine 17 (aK (ak (λ_=>.inr `R)<|ak (λ_=>`R) aP) ah) λn5 j2 c3 j3=>?_;cases j3;have E0:=E0.trans c3;have a0:=a0.trans c3.g;have d9:=d9.trans c3.g;have b1:=b1.mono c3;have a1:=10 c3.g;exact d8 ((f9/8)*8+(7:Int)) j2 _ d9 ⟨`a,E0,b1⟩ hq
    ·intro g2 j1 a7 d8 hq;have j4:=a7.g;have E0:=E0.trans a7;have a0:=a0.trans a7.g;have b1:=b1.mono a7;have a1:=10 a7.g
     try dsimp only[aF]
     exact d8 f9 g2 _ j4 ⟨`a,E0,b1⟩ hq
    ·intro e0 n6 n7 g3 iv hq;obtain⟨rfl,E0,a2⟩:=iv;have a0:=a0.trans g3;have a1:=10 g3;refine bg (gd (Er:=Er) (dY<|aN (bj (f:=λ(b:Pl)=>b.1) lY<|aI a1)<|aN (bj (f:=λ(b:Pl)=>b.2.1) kA<|aI a1)<|aN (bj (f:=λ(b:Pl)=>b.2.2) kB<|aI a1)<|dX (R:=isS)) λc9 n8 d0 g4 a9=>?_)
     have e1:=a2.ne g4;have e3:=none_of E0.h g4;have E0:=E0.trans d0;have a0:=a0.trans d0.g;have a2:=a2.mono d0;have a1:=10 d0.g;refine br (Er:=Er) (Iv:=λ(j5:(List Tx))(e4:Wd)(j6:St)=>∃(e5:Option V),j6=[some b4,6 b0,some (.bl b3),27 p3,some b8,some c8,6 e0,27 c9,e5]/\12 e4/\Ow isS e4 c9 j5/\Ow (qB K) e4 p3 c7) (cQ (aq<|bW aP ah)<|aq<|bW (ak `B aP) ah) (EE hq) ?_ ?_ ?_
     ·intro g5 j7 a3 e6 hq;have c4:=a3.g;have E0:=E0.trans a3;have a0:=a0.trans a3.g;have a2:=a2.mono a3;have a1:=10 a3.g;have a9:=a9.mono a3;refine bg (17 (aY (x:=EO "abcdefghijklmnopqrstuvwxyza") (l:=[97,98,99,100,101,102,103,104,105,106,107,108,109,110,111,112,113,114,115,116,117,118,119,120,121,122,97])<|fG _ _ ⋯) λn9 o0 b7 j8=>?_)
      cases j8;have E0:=E0.trans b7;have a0:=a0.trans b7.g;have c4:=c4.trans b7.g;have a2:=a2.mono b7;have a1:=10 b7.g;have a9:=a9.mono b7;refine rK (Er:=Er) a9 (cu bY<|aK (jh bY<|bw (gL a9)<|ak `B aP) ah) (ak `B aP) (5 hq λj9 hq k0 c5 k1=>?_);have E0:=c5.e _ E0 e3;have a0:=a0.trans c5.g;have c4:=c4.trans c5.g;have a2:=c5.ow e1 a2;have a1:=10 c5.g;exact e6 j9 k0 _ c4 ⟨_,`a,E0,k1,a2⟩ hq
     ·intro g5 j7 a3 e6 hq;have k2:=a3.g;have E0:=E0.trans a3;have a0:=a0.trans a3.g;have a2:=a2.mono a3;have a1:=10 a3.g;have a9:=a9.mono a3
      try dsimp only[aF]
      exact e6 [c1.1.1,c1.1.2.1,c1.1.2.2] g5 _ k2 ⟨_,`a,E0,a9,a2⟩ hq
     ·intro k3 o1 o2 g6 iv hq;obtain⟨e5,rfl,E0,b5,b2⟩:=iv;have a0:=a0.trans g6;have a1:=10 g6;refine br (Er:=Er) (Iv:=λ(k4:(List Tx))(e7:Wd)(k5:St)=>k5=[some b4,6 b0,some (.bl b3),27 p3,some b8,some c8,6 e0,27 c9,e5]/\12 e7/\Ow isS e7 c9 k4/\Ow (qB K) e7 p3 c7) (cQ (aq<|bW aP ah)<|aq<|bD (ak `B aP) ah) (EE hq) ?_ ?_ ?_
      ·intro g7 k6 a4 e9 hq;have f0:=a4.g;have E0:=E0.trans a4;have a0:=a0.trans a4.g;have b2:=b2.mono a4;have a1:=10 a4.g;have b5:=b5.mono a4;refine rK (Er:=Er) b5 (cu (aY (x:=EO "zos") (l:=[122,111,115])<|fG _ _ ⋯)<|jh (aY (x:=EO "szo") (l:=[115,122,111])<|fG _ _ ⋯)<|bw (gL b5) ah) ah (5 hq λk7 hq k8 c6 k9=>?_);have E0:=c6.e _ E0 e3;have a0:=a0.trans c6.g;have f0:=f0.trans c6.g;have b2:=c6.ow e1 b2;have a1:=10 c6.g;exact e9 k7 k8 _ f0 ⟨`a,E0,k9,b2⟩ hq
      ·intro g7 k6 a4 e9 hq;have l0:=a4.g;have E0:=E0.trans a4;have a0:=a0.trans a4.g;have b2:=b2.mono a4;have a1:=10 a4.g;have b5:=b5.mono a4
       try dsimp only[aF]
       exact e9 k3 g7 _ l0 ⟨`a,E0,b5,b2⟩ hq
      ·intro o3 o4 o6 g8 iv hq;obtain⟨rfl,E0,l1,f1⟩:=iv;have a0:=a0.trans g8;have a1:=10 g8;obtain⟨o7,g9,E0,f2,f3,l2⟩:=l1.frz E0 e3;rw[<-g9];have a0:=a0.trans f2;have f1:=f1.keep (by rw[g9]) f2 (l2 _ e1);have a1:=10 f2;refine ij (Er:=Er) f1 (vm<|IB (fo (jK (jb<|aI f3)<|jb<|Hm<|dY<|aN ah<|aN ah<|aN ah<|dX (R:=isI)) λo8 h0 o9 p0 l3 p1 l4=>by
        refine jc l3 λp2 p4 l5 l6=>?_;cases l5;cases l6;exact⟨by simp[Keep,bH],((oZ (aq<|bD (ak `B<|rF aP aP) ah) bY<|aY (x:=EO "?") (l:=[63])<|fG _ _ ⋯):EV Er _ [22 h0.1,6 h0.2,6 e0] _ _ _) _ `q _ l4⟩)) (5 hq λl7 hq l8 d1 l9=>?_)
       have E0:=d1.e _ E0 fr6;have a0:=a0.trans d1.g;have a1:=10 d1.g;have f3:=ED d1.g f3
       try dsimp only
       refine bS (W:=l8) l7 a0 ?_ hq;exact⟨_,_,_,_,`a,E0,l9⟩
  ·intro p5 m0 p6 p7 iv hq;obtain⟨d2,b9,c0,d3,rfl,E0,a5⟩:=iv;exact⟨.ref p3,`a,hq p3 m0 E0 fr6 a5⟩
theorem DY{f:Addr}{fd:Fi}(F:Fun K "_law_turnover" "_law_turnover" (tp 49) f fd):FnOk P w K mg base CX0 (1) f fd ["_law_card_here"] (eH `n (rs `n) CD):=by
 have SC:31 ["_law_card_here","_law_holes_here"] ["_law_card_here"] (tp 49):=by walk_at "F"
 refine 33 SC ?_ ?_;·obtain⟨_,_,_,_,rfl,_⟩:=h;rfl
 ·obtain⟨W0,a5,a6,rfl,rfl,a0,Er,hq⟩:=h;refine 9 (ae (cg 1<|18 (aR (K:=K) `a) 0 aa `j)<|19<|cn<|a8 (az cq aX (gy (K:=K) `a `a aX<|15<|18 (aR (K:=K) `a) 0 aa `j) `j)<|a8 (ai aO (ai aO (ai aO (18 cq 1 aa `j)<|18 cq 1 aa `j)<|18 cq 1 aa `j)<|18 cq 1 aa `j)<|15<|ai ay (ai dW aa<|18 (aR (K:=K) `a) 0 aa `j) aa) ?_
  have E0:12 W0:=`N;unfold CD at hq;refine bg (17 (bj (f:=λ(b:Cd)=>b.2.1) kA `v) λv3 W1 e2 h4=>?_)
  cases h4;have E0:=E0.trans e2;have a0:=3 e2.g;exact 25 (cZ (K:=K) (cu (aY (x:=EO "ZS") (l:=[90,83])<|fG _ _ ⋯)<|jh (aY (x:=EO "SZ") (l:=[83,90])<|fG _ _ ⋯)<|bj (f:=λ(b:Cd)=>b.1) lY `v) (bB (bB (bB (cu bY ah)<|cu bY ah)<|cu bY ah)<|cu bY ah)<|ak `B<|aK ah<|bj (f:=λ(b:Cd)=>b.2.2) kB `v) (Fn hq λa7 hq a1 a2 a3 a4=>28 a1 a2 a3 a4)
theorem DZ{f:Addr}{fd:Fi}(F:Fun K "_law_back" "_law_back" (tp 50) f fd):FnOk P w K mg base CX0 (1) f fd ["_law_turns_here"] (eH isS (rs isS) CF):=by
 have SC:31 ["_law_turns_here"] ["_law_turns_here"] (tp 50):=by walk_at "F"
 refine 33 SC ?_ ?_;·obtain⟨_,_,_,_,rfl,_⟩:=h;rfl
 ·obtain⟨W0,a0,_,rfl,rfl,a2,Er,hq⟩:=h;cases a2;refine 9 (19<|lb (K:=K) `a aX<|15<|fh (N:=["_law_turn"]) (cap:=[none]) (i8 `a ⋯ `a ⋯ `z `z) `a (i6<|pv 0) (λ_ _ _ _=>(bG (i:=0) (show Gd (["_law_turn"]:`I) by decide +kernel) `a (by walk_at "L"))) (λ_ _ _ _=>cG) λ_ _ _ _=>az cq aX (gy (K:=K) `a `a aX<|2 0 af) `j) ?_;have E0:12 W0:=`N;rw[show L2.start ["_law_turns_here"] [.str (aU a0)]=[22 a0]from rfl];unfold CF at hq;exact 25 (nI (fG _ _ ⋯)<|IB (fo (ie bY) λW3 a1 v2 e4 h5 Q9 a3=>by
   cases h5;refine gn ?_;exact⟨by simp[Keep,bH],((cu (aY (x:=EO "fib") (l:=[102,105,98])<|fG _ _ ⋯)<|jh (aY (x:=EO "bif") (l:=[98,105,102])<|fG _ _ ⋯) bY):EV Er _ [22 a1] _ _ _) _ `q _ a3⟩)) (Fn hq λa9 hq a4 a5 a6 a7=>28 a4 a5 a6 a7)
theorem E1{f:Addr}{fd:Fi}(F:Fun K "_law_roll" "_law_roll" (tp 51) f fd)(a4:mg "range"=`c):FnOk P w K mg base CX0 (1) f fd ["_law_card_here","_law_many"] (bI `n isI (rs `n) CG):=by
 have SC:31 [`V,"_law_many","_law_holes_here"] ["_law_card_here","_law_many"] (tp 51):=by walk_at "F"
 refine 33 SC ?_ ?_;·obtain⟨_,_,_,_,_,_,rfl,_⟩:=h;rfl
 ·obtain⟨W0,b3,a1,a2,_,rfl,rfl,a0,a5,Er,hq⟩:=h;cases a5
  refine 9 (ae (cg 2<|lb (K:=K) `a aX<|15<|fh (N:=["_law_k",`V,"_law_many"]) (cap:=[none,some 0,some 1]) (i8 `a ⋯ `a ⋯ `z `z) `a (fJ `a a4<|15 aa) (λ_ _ _ _=>(bG (i:=0) (show Gd (["_law_k",`V,"_law_many"]:`I) by decide +kernel) `a (by walk_at "L"))) (λ_ _ _ _=>cG) λ_ _ _ _=>az cq (18 (aR (K:=K) `a) 1 aa `j) (ai ay (16 dW 0<|pv 2) aa) `j)<|19<|cn<|a8 (18 (aR (K:=K) `a) 0 aa `j)<|2 2<|15<|ai ay (ai aZ (18 (aR (K:=K) `a) 0 aa `j)<|pv 1) aa) ?_
  have E0:12 W0:=`N;rw[show L2.start [`V,"_law_many","_law_holes_here"] [a2,.int a1]=[some a2,6 a1,none]from rfl];unfold CG at hq;refine bg (17 (nI (fG _ _ ⋯)<|IB (fo (gw ah) λW5 a3 v4 e6 h7 b4 a6=>by
   have h8:=Ge (R:=sh `n) e6 a0;cases h7;refine gn ?_;exact⟨by simp[Keep,bH],((cu (bj (f:=λ(b:Cd)=>b.2.1) kA<|aI h8)<|ak `B<|aK aP aP):EV Er _ [6 a3,some a2,6 a1] _ _ _) _ `q _ a6⟩))<|5 hq λb5 hq b6 W1 e2 a7=>?_)
  cases a7;have E0:=E0.trans e2;have a0:=3 e2.g;exact 25 (cZ (K:=K) (bj (f:=λ(b:Cd)=>b.1) lY `v) bY<|ak `B<|aK (bj (f:=λ(b:Cd)=>b.2.2) kB `v) aP) λa9 b0 b1 b2=>28 a9 b0 b1 b2
theorem E2{f:Addr}{fd:Fi}(F:Fun K "_law_seen" "_law_seen" (tp 52) f fd){kK:Cd->Tx->Res Cd}(d2:Cal P w K mg base "_law_behind" `Y (2) (bI `n isS (rs `n) kK))(d3:mg "sorted"=`c):FnOk P w K mg base CX0 (3) f fd `Z (bI `n isS (ro isI)<|CH kK):=by
 have SC:31 [`V,"_law_turns_here","_law_out","_law_turn","_law_hole"] `Z (tp 52):=by walk_at "F"
 refine 33 SC ?_ ?_;·obtain⟨_,_,_,_,_,_,rfl,_⟩:=h;rfl
 ·obtain⟨W0,d4,a6,g2,_,rfl,rfl,a9,d6,Er,hq⟩:=h;cases d6;refine 9 (ae (cg 2<|bJ af)<|ae (bV Fj `a (i6<|pv 1) (eI 3)<|ae (cg 0<|cO d2<|2 0<|2 3 af)<|ag<|bV Fj `a (bQ (K:=K) `a<|bJ<|a8 (18 (aR (K:=K) `a) 0 aa `j)<|15<|ai ay (ai aZ (18 (aR (K:=K) `a) 0 aa `j) aa) aa) (eI 4)<|ag<|aT (ao (iT (K:=K) `a) (pv 4) (pv 2) (by with_unfolding_all rfl)) (ag<|dN<|d5 (K:=K) `a (pv 2)<|2 4 af) aD)<|19<|24 (nE (K:=K) `a) d3 Jc<|2 2 af) ?_
  have E0:12 W0:=`N;unfold CH at hq;refine bg (gd (Er:=Er) (gO (R:=isI)) λp3 W1 e2 hp4 o5=>?_)
  have fr6:=none_of E0.h hp4;have E0:=E0.trans e2;have a9:=ED e2.g a9;refine cz (Er:=Er) (f:=C8 kK) (s0:=(d4,([]:`H))) (Iv:=λ(s9:(Cd×(List Int)))(b7:Wd)(d7:St)=>∃(b0:V)(b3:Option V)(b8:Option V),d7=[some b0,22 a6,27 p3,b8,b3]/\12 b7/\`n b7.G s9.1 b0/\Ow isI b7 p3 s9.2) (ie bY) (EE hq) ?_ ?_ ?_
  ·intro g3 b9;have E0:=E0.trans b9;have a9:=ED b9.g a9;have o5:=o5.mono b9;exact⟨_,_,_,`a,E0,a9,o5⟩
  ·intro g4 g5 g6 a7 g7 s8 g8 g9 h0 a0 iv b4 d8 hq;obtain⟨b0,b3,b8,rfl,E0,b5,a5⟩:=iv;have E0:=E0.trans b4;have a0:=a0.trans b4.g;have a5:=a5.mono b4;have b5:=ED b4.g b5;cases d8;refine gn (σ':=[some b0,22 a6,27 p3,22 a7,b3]) ?_;unfold C8 at hq;refine bg (17 (bo (aI b5) bY)<|5 hq λd9 hq c0 h1 c1 a1=>?_)
   have E0:=E0.trans c1;have a0:=a0.trans c1.g;have a5:=a5.mono c1;refine nJ (Er:=Er) (f:=Bh) (s0:=s8.2) (Iv:=λ(e0:(List Int))(c6:Wd)(e1:St)=>∃(c2:Option V),e1=[some c0,22 a6,27 p3,22 a7,c2]/\12 c6/\Ow isI c6 p3 e0) (cv<|Hm<|dY<|aN (bj (f:=λ(b:Cd)=>b.2.2) kB<|aI a1)<|aN (ak `B<|aK (bj (f:=λ(b:Cd)=>b.2.2) kB<|aI a1) ah)<|dX (R:=isI)) (EE hq) ?_ ?_ ?_
   ·intro h2 b6;have E0:=E0.trans b6;have a0:=a0.trans b6.g;have a5:=a5.mono b6;have a1:=10 b6.g;exact⟨_,`a,E0,a5⟩
   ·intro h3 h4 h5 c7 h6 e3 h7 h8 c8 a3 iv b1 e4 hq;obtain⟨c2,rfl,E0,a4⟩:=iv;have a0:=a0.trans c8;have a1:=10 c8;have E0:=E0.trans b1;have a0:=a0.trans b1.g;have a3:=a3.trans b1.g;have a4:=a4.mono b1;have a1:=10 b1.g;cases e4;refine gn (σ':=[some c0,22 a6,27 p3,22 a7,6 c7]) ?_;unfold Bh at hq;refine ig (Er:=Er) (Iv:=λ(e5:(List Int))(c9:Wd)(e6:St)=>e6=[some c0,22 a6,27 p3,22 a7,6 c7]/\12 c9/\Ow isI c9 p3 e5) (aq<|l9 aP<|gL a4) (EE hq) ?_ ?_ ?_
    ·intro d0 e7 a2 c3 hq;have c4:=a2.g;have E0:=E0.trans a2;have a0:=a0.trans a2.g;have a3:=a3.trans a2.g;have a4:=a4.mono a2;have a1:=10 a2.g;refine ij (Er:=Er) a4 aP (5 hq λe8 hq e9 b2 f0=>?_);have E0:=b2.e _ E0 fr6;have a0:=a0.trans b2.g;have a3:=a3.trans b2.g;have c4:=c4.trans b2.g;have a1:=10 b2.g;exact c3 e8 e9 _ c4 ⟨`a,E0,f0⟩ hq
    ·intro d0 e7 a2 c3 hq;have f1:=a2.g;have E0:=E0.trans a2;have a0:=a0.trans a2.g;have a3:=a3.trans a2.g;have a4:=a4.mono a2;have a1:=10 a2.g
     try dsimp only[aF]
     exact c3 e3 d0 _ f1 ⟨`a,E0,a4⟩ hq
    ·intro f2 f3 h9 c5 iv hq;obtain⟨rfl,E0,f4⟩:=iv;have a0:=a0.trans c5;have a3:=a3.trans c5;have a1:=10 c5
     try dsimp only
     refine bS (W:=f3) f2 a3 ?_ hq;exact⟨_,`a,E0,f4⟩
   ·intro f5 f6 i0 d1 iv hq;obtain⟨c2,rfl,E0,a4⟩:=iv;have a0:=a0.trans d1;have a1:=10 d1
    try dsimp only
    refine bS (W:=f6) (d9,f5) a0 ?_ hq;exact⟨_,_,_,`a,E0,a1,a4⟩
  ·intro i1 i2 i3 i4 iv hq;obtain⟨b0,b3,b8,rfl,E0,b5,a5⟩:=iv;exact kC (Er:=Er) (vo<|gL a5) (Fn hq λi5 hq f7 f8 f9 g0 g1=>hq f7 f8 (E0.trans f9) (none_of E0.h g0) g1)
theorem E3{f:Addr}{fd:Fi}(F:Fun K "_law_kin" "_law_kin" (tp 53) f fd){yJ:Cd->Res Cd}{yK:Tx->`J}{yL:Cd->Int->Res Cd}{yM:Cd->Tx->11 Int}(e4:Cal P w K mg base "_law_turnover" ["_law_card_here"] (1) (eH `n (rs `n) yJ))(e5:Cal P w K mg base "_law_back" ["_law_turns_here"] (1) (eH isS (rs isS) yK))(e6:Cal P w K mg base "_law_roll" ["_law_card_here","_law_many"] (1) (bI `n isI (rs `n) yL))(e7:Cal P w K mg base "_law_seen" `Z (3) (bI `n isS (ro isI) yM))(e9:mg "range"=`c):FnOk P w K mg base CX0 (4) f fd [`V,"_law_turns_here","_law_cell"] (ef `n isS isI (rs<|isT2 K `n isS)<|CI yJ yK yL yM):=by
 have SC:31 [`V,"_law_turns_here","_law_cell","_law_known","_law_hole","_law_colour"] [`V,"_law_turns_here","_law_cell"] (tp 53):=by walk_at "F"
 refine 33 SC ?_ ?_;·obtain⟨_,_,_,_,_,_,_,_,rfl,_⟩:=h;rfl
 ·obtain⟨W0,f0,f1,a7,i9,_,_,rfl,rfl,a9,f2,f3,Er,hq⟩:=h;cases f2;cases f3;refine 9 (ae (aT (20 bz (16 ay 2 aa) aa _) (ae (cg 0<|cO e4<|2 0 af)<|ag<|cg 1<|cO e5<|2 1 af) aD)<|ae (cg 0<|cO e6<|2 0<|15<|ai ay (16 aV 2 aa) aa)<|ae (aT (20 bz (ai ay (16 aV 2 aa) aa) aa _) (ae (cg 3<|cO e7<|2 0<|2 1 af)<|ag<|bV Fj `a (fJ `a e9<|15 aa) (eI 4)<|ag<|aT (ao (iT (K:=K) `a) (pv 4) (pv 3) (by with_unfolding_all rfl)) (ae (cg 5<|az cq aX (ai ay (ai aZ (16 aV 2 aa)<|ai fQ aa<|pv 4) aa) `j)<|ag<|cg 0<|cn<|a8 (18 (aR (K:=K) `a) 0 aa `j)<|a8 (ai aO (ai aO (bC cJ (18 (aR (K:=K) `a) 0 aa `j) cj<|bA<|pv 4)<|pv 5)<|bC cJ (18 (aR (K:=K) `a) 0 aa `j) (bA<|16 aZ 4 aa) cj)<|15<|18 (aR (K:=K) `a) 0 aa `j) aD) aD)<|19<|cn<|2 0<|2 1 af) ?_
  have E0:12 W0:=`N;unfold CI at hq;refine br (Er:=Er) (Iv:=λ(c9:(Cd×Tx))(d0:Wd)(f4:St)=>∃(b8:V),f4=[some b8,22 c9.2,6 a7,none,none,none]/\12 d0/\`n d0.G c9.1 b8) (aq<|bD (ak `B aP) ah) (EE hq) ?_ ?_ ?_
  ·intro W1 N4 e2 hN5 hq;have hs6:=e2.g;have E0:=E0.trans e2;have a9:=ED e2.g a9;refine bg (17 (dh<|aI a9)<|5 hq λy9 hq j0 W7 e8 b9=>?_)
   have E0:=E0.trans e8;have hs6:=hs6.trans e8.g;refine 17 (dh bY) (5 hq λf5 hq j1 f6 c0 f7=>?_);cases f7;have E0:=E0.trans c0;have hs6:=hs6.trans c0.g;have b9:=ED c0.g b9;exact hN5 (y9,f5) f6 _ hs6 ⟨_,`a,E0,b9⟩ hq
  ·intro W1 N4 e2 hN5 hq;have f8:=e2.g;have E0:=E0.trans e2;have a9:=ED e2.g a9
   try dsimp only[aF]
   exact hN5 (f0,f1) W1 _ f8 ⟨_,`a,E0,a9⟩ hq
  ·intro b5 j2 j3 j4 iv hq;obtain⟨b8,rfl,E0,f9⟩:=iv;refine bg (17 (bo (aI f9)<|ak `B<|ak (λ_=>`R) aP)<|5 hq λd1 hq j5 j6 g0 a5=>?_)
   have E0:=E0.trans g0;refine br (Er:=Er) (Iv:=λ(g1:Cd)(d2:Wd)(g2:St)=>∃(c1:V)(d3:Option V)(d4:Option V)(d5:Option V),g2=[some c1,22 b5.2,6 a7,d3,d4,d5]/\12 d2/\`n d2.G g1 c1) (aq<|bD (ak `B<|ak (λ_=>`R) aP) ah) (EE hq) ?_ ?_ ?_
   ·intro d6 g3 a6 c2 hq;have a0:=a6.g;have E0:=E0.trans a6;have a5:=ED a6.g a5;refine bg (17 (Hm<|jJ (aI a5) bY)<|5 hq λg4 hq c3 j7 c4 a1=>?_)
    have E0:=E0.trans c4;have a0:=a0.trans c4.g;have a5:=ED c4.g a5;refine nJ (Er:=Er) (f:=Bi a7 g4) (s0:=d1) (Iv:=λ(g5:Cd)(d7:Wd)(g6:St)=>∃(b1:V)(b6:Option V)(c5:Option V),g6=[some b1,22 b5.2,6 a7,some c3,c5,b6]/\12 d7/\`n d7.G g5 b1) (gw ah) (EE hq) ?_ ?_ ?_
    ·intro j8 b7;have E0:=E0.trans b7;have a0:=a0.trans b7.g;have a5:=ED b7.g a5;have a1:=10 b7.g;exact⟨_,_,_,`a,E0,a5⟩
    ·intro j9 k0 k1 d8 k2 g7 k3 k4 d9 a3 iv b2 g8 hq;obtain⟨b1,b6,c5,rfl,E0,a2⟩:=iv;have a0:=a0.trans d9;have a1:=10 d9;have E0:=E0.trans b2;have a0:=a0.trans b2.g;have a3:=a3.trans b2.g;have a1:=10 b2.g;have a2:=ED b2.g a2;cases g8;refine gn (σ':=[some b1,22 b5.2,6 a7,some c3,6 d8,b6]) ?_;unfold Bi at hq;refine ig (Er:=Er) (Iv:=λ(g9:Cd)(e0:Wd)(h0:St)=>∃(c6:V)(e1:Option V),h0=[some c6,22 b5.2,6 a7,some c3,6 d8,e1]/\12 e0/\`n e0.G g9 c6) (aq<|l9 aP<|Gr<|aI a1) (EE hq) ?_ ?_ ?_
     ·intro e3 h1 a4 c7 hq;have b3:=a4.g;have E0:=E0.trans a4;have a0:=a0.trans a4.g;have a3:=a3.trans a4.g;have a1:=10 a4.g;have a2:=ED a4.g a2;refine bg (17 (cu (aY (x:=EO "abcdefghijklmnopqrstuvwxyz") (l:=[97,98,99,100,101,102,103,104,105,106,107,108,109,110,111,112,113,114,115,116,117,118,119,120,121,122])<|fG _ _ ⋯)<|ak `B<|aK (ak (λ_=>`R) aP)<|jH ah aP)<|5 hq λk5 hq k6 k7 b0 h2=>?_)
      cases h2;have E0:=E0.trans b0;have a0:=a0.trans b0.g;have a3:=a3.trans b0.g;have b3:=b3.trans b0.g;have a1:=10 b0.g;have a2:=ED b0.g a2;refine 17 (cZ (K:=K) (bj (f:=λ(b:Cd)=>b.1) lY<|aI a2) (bB (bB (cb (bj (f:=λ(b:Cd)=>b.2.1) kA<|aI a2) eM<|cU aP) bY)<|cb (bj (f:=λ(b:Cd)=>b.2.1) kA<|aI a2) (cU<|aK aP ah) eM)<|bj (f:=λ(b:Cd)=>b.2.2) kB<|aI a2) (5 hq λh3 hq k8 h4 b4 h5=>?_);have E0:=E0.trans b4;have a0:=a0.trans b4.g;have a3:=a3.trans b4.g;have b3:=b3.trans b4.g;have a1:=10 b4.g;exact c7 h3 h4 _ b3 ⟨_,_,`a,E0,h5⟩ hq
     ·intro e3 h1 a4 c7 hq;have h6:=a4.g;have E0:=E0.trans a4;have a0:=a0.trans a4.g;have a3:=a3.trans a4.g;have a1:=10 a4.g;have a2:=ED a4.g a2
      try dsimp only[aF]
      exact c7 g7 e3 _ h6 ⟨_,_,`a,E0,a2⟩ hq
     ·intro h7 h8 k9 c8 iv hq;obtain⟨c6,e1,rfl,E0,h9⟩:=iv;have a0:=a0.trans c8;have a3:=a3.trans c8;have a1:=10 c8
      try dsimp only
      refine bS (W:=h8) h7 a3 ?_ hq;exact⟨_,_,_,`a,E0,h9⟩
    ·intro i0 i1 l0 i2 iv hq;obtain⟨b1,b6,c5,rfl,E0,a2⟩:=iv;have a0:=a0.trans i2;exact c2 i0 i1 _ a0 ⟨_,_,_,_,`a,E0,a2⟩ hq
   ·intro d6 g3 a6 c2 hq;have i3:=a6.g;have E0:=E0.trans a6;have a5:=ED a6.g a5
    try dsimp only[aF]
    exact c2 d1 d6 _ i3 ⟨_,_,_,_,`a,E0,a5⟩ hq
   ·intro l1 l2 l3 l4 iv hq;obtain⟨c1,d3,d4,d5,rfl,E0,i4⟩:=iv;exact 25 (fk (K:=K) (aI i4) bY) λi5 i6 i7 i8=>28 i5 i6 i7 i8
theorem E4{f:Addr}{fd:Fi}(F:Fun K "_law_small" "_law_small" (tp 54) f fd){xw:Int->Res Cd}{iq:`H->Int->`C}{yH:Int->Int->`J}{yI:`m->Int->Bool->11 Pl}{qP:Cd->Tx->11 Pl}{yN:Cd->Tx->Int->Res (Cd×Tx)}(b8:Cal P w K mg base "_law_card" ["_law_cell"] (3) (eH isI (rs `n) xw))(a4:Cal P w K mg base "_law_at" ["_law_script","_law_k"] (1) (bI (isScr K) isI (rs isI) iq))(d1:Cal P w K mg base "_law_turns" ["_law_cell","_law_many"] (2) (bI isI isI (rs isS) yH))(d2:Cal P w K mg base "_law_marks" ["_law_places_here","_law_cell","_law_lies"] (2) (ef (qD K) isI isB (ro<|qB K) yI))(d3:Cal P w K mg base "_law_places" `Z (3) (bI `n isS (ro<|qB K) qP))(d4:Cal P w K mg base "_law_kin" [`V,"_law_turns_here","_law_cell"] (4) (ef `n isS isI (rs<|isT2 K `n isS) yN)):FnOk P w K mg base CX0 (5) f fd ["_law_script","_law_most"] (bI (isScr K) isI (rs<|isT3 K `n (qD K) isI)<|CJ xw iq yH yI qP yN):=by
 have SC:31 ["_law_script","_law_most",`V,"_law_turns_here","_law_cell","_law_strip","_law_side"] ["_law_script","_law_most"] (tp 54):=by walk_at "F"
 refine 33 SC ?_ ?_;·obtain⟨_,_,_,_,_,_,rfl,_⟩:=h;rfl
 ·obtain⟨W0,g1,b9,c0,_,rfl,rfl,a0,d5,Er,hq⟩:=h;cases d5;refine 9 (ae (cg 2<|cO b8<|15<|cO a4<|2 0<|15 aa)<|ae (cg 3<|cO d1<|a8 (cO a4<|2 0<|15 aa)<|15<|ai ay (cO a4<|2 0<|15 aa)<|16 aZ 1 aa)<|ae (cg 4<|cO a4<|2 0<|15 aa)<|ae (cg 5<|cO d2<|a8 (cO d3<|2 2<|2 3 af)<|a8 (16 aV 4 aa)<|15<|cB bz (16 ay 4 aa) aa<|ar _)<|ae (cg 6<|ai aV (cO a4<|2 0<|15 aa) aa)<|ae (aT (20 bz (16 ay 6 aa) aa _) (ag<|cg 2<|az (aR (K:=K) `a) (cO d4<|2 2<|2 3<|15<|16 aV 6 aa) aa `j) aD)<|ae (aT (20 bz (16 ay 6 aa) aa _) (ag<|cg 2<|cO b8<|15<|16 aV 6 aa) aD)<|19<|cn<|2 2<|2 5<|15<|ai ay (cO a4<|2 0<|15 aa) aa) ?_
  have E0:12 W0:=`N;unfold CJ at hq;refine bg (17 (dh<|bo `v ah)<|5 hq λy4 hq v5 W1 e2 h6=>?_)
  have E0:=E0.trans e2;have a0:=3 e2.g;refine bg (17 (bo (bo `v ah)<|fE (bo `v ah)<|aK aP ah)<|5 hq λc1 hq g2 W7 e8 d6=>?_)
  cases d6;have E0:=E0.trans e8;have a0:=3 e8.g;have h6:=ED e8.g h6;refine bg (17 (bo `v ah)<|5 hq λc2 hq g3 g4 b0 d7=>?_)
  cases d7;have E0:=E0.trans b0;have a0:=3 b0.g;have h6:=ED b0.g h6;refine bg (17 (Hm<|gv (Hm<|jJ (aI h6) bY) (ak (λ_=>`R) aP)<|bD (ak `B aP) ah)<|5 hq λg5 hq c3 g6 b1 a1=>?_)
  have E0:=E0.trans b1;have a0:=3 b1.g;have h6:=ED b1.g h6;refine bg (17 (ak (λ_=>`R)<|bo `v ah)<|5 hq λc4 hq g7 g8 a6 d8=>?_)
  cases d8;have E0:=E0.trans a6;have a0:=3 a6.g;have h6:=ED a6.g h6;have a1:=10 a6.g;refine br (Er:=Er) (Iv:=λ(d9:Cd)(c5:Wd)(e0:St)=>∃(b2:V),e0=[some c0,6 b9,some b2,22 c1,6 c2,some c3,6 c4]/\12 c5/\`n c5.G d9 b2) (aq<|bD (ak `B aP) ah) (EE hq) ?_ ?_ ?_
  ·intro c6 e1 a2 b3 hq;have b4:=a2.g;have E0:=E0.trans a2;have a0:=3 a2.g;have h6:=ED a2.g h6;have a1:=10 a2.g;refine 17 (bj (f:=λ(b:Cd×Tx)=>b.1) Al<|eB (aI h6) bY<|ak (λ_=>`R) aP) (5 hq λe3 hq g9 e4 a7 e5=>?_);have E0:=E0.trans a7;have b4:=b4.trans a7.g;have a0:=3 a7.g;have a1:=10 a7.g;exact b3 e3 e4 _ b4 ⟨_,`a,E0,e5⟩ hq
  ·intro c6 e1 a2 b3 hq;have e6:=a2.g;have E0:=E0.trans a2;have a0:=3 a2.g;have h6:=ED a2.g h6;have a1:=10 a2.g
   try dsimp only[aF]
   exact b3 y4 c6 _ e6 ⟨_,`a,E0,h6⟩ hq
  ·intro e7 h0 h1 c7 iv hq;obtain⟨b2,rfl,E0,a5⟩:=iv;have a0:=3 c7;have a1:=10 c7;refine br (Er:=Er) (Iv:=λ(e9:Cd)(c8:Wd)(f0:St)=>∃(b5:V),f0=[some c0,6 b9,some b5,22 c1,6 c2,some c3,6 c4]/\12 c8/\`n c8.G e9 b5) (aq<|bD (ak `B aP) ah) (EE hq) ?_ ?_ ?_
   ·intro c9 f1 a3 b6 hq;have b7:=a3.g;have E0:=E0.trans a3;have a0:=3 a3.g;have a1:=10 a3.g;have a5:=ED a3.g a5;refine 17 (dh<|ak (λ_=>`R) aP) (5 hq λf2 hq h2 f3 a9 f4=>?_);have E0:=E0.trans a9;have b7:=b7.trans a9.g;have a0:=3 a9.g;have a1:=10 a9.g;exact b6 f2 f3 _ b7 ⟨_,`a,E0,f4⟩ hq
   ·intro c9 f1 a3 b6 hq;have f5:=a3.g;have E0:=E0.trans a3;have a0:=3 a3.g;have a1:=10 a3.g;have a5:=ED a3.g a5
    try dsimp only[aF]
    exact b6 e7 c9 _ f5 ⟨_,`a,E0,a5⟩ hq
   ·intro h3 h4 h5 d0 iv hq;obtain⟨b5,rfl,E0,f6⟩:=iv;have a0:=3 d0;have a1:=10 d0;exact 25 (cZ (K:=K) (aI f6) (aI a1)<|ak `B<|bo `v ah) (Fn hq λh7 hq f7 f8 f9 g0=>28 f7 f8 f9 g0)
theorem E5{f:Addr}{fd:Fi}(F:Fun K "_law_all" "_law_all" (tp 57) f fd)(c4:mg "range"=`c):FnOk P w K mg base CX0 (1) f fd ["_law_many"] (eH isI (rs<|isL isS) CK):=by
 have SC:31 ["_law_many","_law_out","_law_k","_law_longer","_law_text"] ["_law_many"] (tp 57):=by walk_at "F"
 refine 33 SC ?_ ?_;·obtain⟨_,_,_,_,rfl,_⟩:=h;rfl
 ·obtain⟨W0,a9,_,rfl,rfl,c5,Er,hq⟩:=h;cases c5;refine 9 (ae (cg 1<|bJ<|15 aX)<|ae (bV Fj `a (fJ `a c4<|2 0 af) (eI 2)<|ae (cg 3<|bJ af)<|ae (bV Fj `a (bQ (K:=K) `a<|pv 1) (eI 4)<|ag<|cg 3<|16 ql 3<|bJ<|a8 (16 aO 4 aX)<|a8 (16 aO 4 aX)<|15<|16 aO 4 aX)<|ag<|cg 1<|pv 3)<|19<|pv 1) ?_
  have E0:12 W0:=`N;unfold CK at hq;refine bg (17 (Hm<|dY<|aN (aY (x:=EO "") (l:=[])<|fG _ _ ⋯)<|dX (R:=isS)) λv3 W1 e2 h4=>?_)
  have E0:=E0.trans e2;refine cz (Er:=Er) (f:=Bk) (s0:=[([]:Tx)]) (Iv:=λ(s7:(List Tx))(W8:Wd)(g9:St)=>∃(a2:V)(b0:Option V)(b1:Option V)(b4:Option V),g9=[6 a9,some a2,b4,b0,b1]/\12 W8/\(isL isS) W8.G s7 a2) (gw aP) (EE hq) ?_ ?_ ?_
  ·intro e1 c0;have E0:=E0.trans c0;have h4:=ED c0.g h4;exact⟨_,_,_,_,`a,E0,h4⟩
  ·intro e3 e4 e5 a5 e6 s6 e7 e8 e9 a0 iv b5 c6 hq;obtain⟨a2,b0,b1,b4,rfl,E0,a1⟩:=iv;have E0:=E0.trans b5;have a0:=a0.trans b5.g;have a1:=10 b5.g;cases c6;refine gn (σ':=[6 a9,some a2,6 a5,b0,b1]) ?_;unfold Bk at hq;refine bg (17 (Hm<|gO (R:=isS)) λf0 f1 b6 b7=>?_)
   have E0:=E0.trans b6;have a0:=a0.trans b6.g;have a1:=10 b6.g;refine cz (Er:=Er) (f:=Bj) (s0:=([]:List Tx)) (Iv:=λ(c7:(List Tx))(c1:Wd)(c8:St)=>∃(a4:V)(b8:Option V),c8=[6 a9,some a2,6 a5,some a4,b8]/\12 c1/\(isL isS) c1.G c7 a4) (cv<|aI a1) (EE hq) ?_ ?_ ?_
   ·intro f2 b2;have E0:=E0.trans b2;have a0:=a0.trans b2.g;have a1:=10 b2.g;have b7:=ED b2.g b7;exact⟨_,_,`a,E0,b7⟩
   ·intro f3 f4 f5 c9 f6 f7 f8 f9 c2 a6 iv a7 d0 hq;obtain⟨a4,b8,rfl,E0,a3⟩:=iv;have a0:=a0.trans c2;have a1:=10 c2;have E0:=E0.trans a7;have a0:=a0.trans a7.g;have a6:=a6.trans a7.g;have a1:=10 a7.g;have a3:=ED a7.g a3;cases d0;refine gn (σ':=[6 a9,some a2,6 a5,some a4,22 c9]) ?_;unfold Bj at hq;refine 17 (Hm<|nH (Gr<|aI a3)<|IB<|dY<|aN (bB bY<|aY (x:=EO "f") (l:=[102])<|fG _ _ ⋯)<|aN (bB bY<|aY (x:=EO "b") (l:=[98])<|fG _ _ ⋯)<|aN (bB bY<|aY (x:=EO "i") (l:=[105])<|fG _ _ ⋯)<|dX (R:=isS)) (5 hq λd1 hq g0 d2 b3 d3=>?_);have E0:=E0.trans b3;have a0:=a0.trans b3.g;have a6:=a6.trans b3.g;have a1:=10 b3.g
    try dsimp only
    refine bS (W:=d2) d1 a6 ?_ hq;exact⟨_,_,`a,E0,d3⟩
   ·intro d4 g1 g2 c3 iv hq;obtain⟨a4,b8,rfl,E0,a3⟩:=iv;have a0:=a0.trans c3;have a1:=10 c3;refine 17 (aI a3) λg3 d5 b9 d6=>?_;have E0:=E0.trans b9;have a0:=a0.trans b9.g;have a3:=ED b9.g a3
    try dsimp only
    refine bS (W:=d5) d4 a0 ?_ hq;exact⟨_,_,_,_,`a,E0,d6⟩
  ·intro g4 g5 g6 g7 iv hq;obtain⟨a2,b0,b1,b4,rfl,E0,a1⟩:=iv;exact 25 (aI a1) λd7 d8 d9 e0=>28 d7 d8 d9 e0
theorem E6{f:Addr}{fd:Fi}(F:Fun K "_law_does" "_law_does" (tp 55) f fd){qP:Cd->Tx->11 Pl}{fF:Cd->Tx->`C}(f0:Cal P w K mg base "_law_places" `Z (3) (bI `n isS (ro<|qB K) qP))(f1:Cal P w K mg base "_law_twist" `Y (2) (bI `n isS (rs isI) fF))(f2:mg "abs"=`c)(f3:mg "int"=`c)(d6:mg "len"=`c)(d7:mg "zip"=`c):FnOk P w K mg base CX0 (4) f fd [`V,"_law_strip","_law_loose","_law_bound","_law_text"] (fw `n (qD K) isI isI isS (rs isB)<|CM qP fF):=by
 have SC:31 [`V,"_law_strip","_law_loose","_law_bound","_law_text","_law_turn","_law_now","_law_idle","_law_place","_law_mark","_law_sign_here","_law_left"] [`V,"_law_strip","_law_loose","_law_bound","_law_text"] (tp 55):=by walk_at "F"
 refine 33 SC ?_ ?_;·obtain⟨_,_,_,_,_,_,_,_,_,_,_,_,rfl,_⟩:=h;rfl
 ·obtain⟨W0,f4,k3,a7,b0,b7,b8,b9,_,_,_,rfl,rfl,a0,a2,f5,f6,f7,Er,hq⟩:=h;cases f5;cases f6;cases f7
  refine 9 (ae (aT (20 je (24 (aM (K:=K) `a) d6 Ff<|2 4 af) (24 (aM (K:=K) `a) d6 Ff<|2 1 af) _) (19 dD) aD)<|ae (bV Fj `a (i6<|pv 4) (eI 5)<|ag<|aT (IT<|cF (20 je (pv 5) aX _)<|cF (20 je (pv 5) aX _)<|cA<|20 je (pv 5) aX _) (19 dD) aD)<|ae (cg 6 aa)<|ae (cg 7 aa)<|ae (bV Fj `a (xX (K:=K) `a `a d7<|2 4<|a8 (cO f0<|2 0<|2 4 af)<|2 1 af) (bN (K:=K) (n:=3) `a `a<|aA (eI 5)<|aA (eI 8)<|aA (eI 9) bM)<|ae (cg 6<|16 aZ 6<|cO f1<|2 0<|2 5 af)<|ae (cg 7<|ai fQ (16 aZ 7 aa)<|dn jE `z f3 HQ<|15<|cB bz (pv 5) aX<|ar _)<|ae (aT (IT<|jS (20 gU (24 hZ f2 HP<|2 6 af) (pv 3) _)<|j0<|20 gU (pv 7) (pv 2) _) (19 dD) aD)<|ag<|bV Fj `a (gK (K:=K) `a `a d7<|2 8<|2 9 af) (bN (K:=K) (n:=2) `a `a<|aA (eI 10)<|aA (eI 11) bM)<|ag<|aT (IT<|cF (20 je (pv 11) aX _)<|cA<|20 je (pv 11) (pv 10) _) (19 dD) aD)<|19 dD) ?_
  have E0:12 W0:=`N;unfold CM at hq;refine cm (Er:=Er) (aq<|Aj (iC bY)<|cC<|Gr<|aI a2) (5 hq λy2 hq W3 e4=>?_);have E0:=E0.trans e4;have a0:=3 e4.g;have a2:=ED e4.g a2;by_cases d8:1 y2
  ·rw[Z0 d8]at hq ⊢;exact 25 fv λv5 W6 e7 h8=>28 v5 W6 e7 h8
  ·rw[Z1 d8]at hq ⊢
   try dsimp only[aF]
   refine fM (Er:=Er) (f:=CL) (s0:=()) (Iv:=λ(k4:Unit)(f8:Wd)(f9:St)=>∃(c4:Option V),f9=[some b8,some b9,6 a7,6 b0,22 b7,c4,none,none,none,none,none,none]/\12 f8) (ie bY) (EE hq) ?_ ?_ ?_
   ·intro k5 c5;have E0:=E0.trans c5;have a0:=3 c5.g;have a2:=ED c5.g a2;exact 9 `a E0
   ·intro k6 k7 k8 a9 k9 l0 l1 l2 d9 b1 iv c0 g0 hrt25 hq;obtain⟨c4,rfl,E0⟩:=iv;have a0:=3 d9;have a2:=ED d9 a2;have E0:=E0.trans c0;have b1:=b1.trans c0.g;have a0:=3 c0.g;have a2:=ED c0.g a2;cases g0;refine gn (σ':=[some b8,some b9,6 a7,6 b0,22 b7,22 a9,none,none,none,none,none,none]) ?_;unfold CL at hq;refine p6 (Er:=Er) (cQ (aq<|ja bY<|aY (x:=EO "f") (l:=[102])<|fG _ _ ⋯)<|cQ (aq<|ja bY<|aY (x:=EO "b") (l:=[98])<|fG _ _ ⋯)<|aq<|ja bY<|aY (x:=EO "i") (l:=[105])<|fG _ _ ⋯) (5 hq λg1 hq g2 c1=>?_);have E0:=E0.trans c1;have b1:=b1.trans c1.g;have a0:=3 c1.g;have a2:=ED c1.g a2;by_cases e0:1 g1
    ·rw[Z0 e0]at hq ⊢;exact 25 fv λg3 g4 g5 g6=>(hrt25 _ hq) g3 g4 (E0.trans g5) g6
    ·rw[Z1 e0]at hq ⊢
     try dsimp only[aF]
     try dsimp only
     refine bS (W:=g2) () b1 ?_ hq;exact 9 `a E0
   ·intro l3 l4 l5 e1 iv hq;obtain⟨c4,rfl,E0⟩:=iv;have a0:=3 e1;have a2:=ED e1 a2;refine bg (17 ah λl6 l8 c6 g7=>?_)
    cases g7;have E0:=E0.trans c6;have a0:=3 c6.g;have a2:=ED c6.g a2;refine bg (17 ah λl9 m0 c7 g8=>?_)
    cases g8;have E0:=E0.trans c7;have a0:=3 c7.g;have a2:=ED c7.g a2;refine fM (Er:=Er) (f:=Bl fF f4 a7 b0) (s0:=((0:Int),(0:Int))) (Iv:=λ(e2:Ii)(g9:Wd)(h0:St)=>∃(c8:Option V)(c9:Option V)(d0:Option V)(d1:Option V)(d2:Option V),h0=[some b8,some b9,6 a7,6 b0,22 b7,d0,6 e2.1,6 e2.2,d1,d2,c8,c9]/\12 g9) (ya (ve bY) (jb<|Hm<|jJ `v bY)<|jb<|aI a2) (EE hq) ?_ ?_ ?_
    ·intro m1 e3;have E0:=E0.trans e3;have a0:=3 e3.g;exact⟨_,_,_,_,_,`a,E0⟩
    ·intro m2 m3 m4 h1 m5 m6 m7 m8 h2 a1 iv d3 h3 hrt70 hq;obtain⟨c8,c9,d0,d1,d2,rfl,E0⟩:=iv;have a0:=3 h2;have E0:=E0.trans d3;have a1:=a1.trans d3.g;have a0:=3 d3.g;refine p5 h3 λm9 h4 h5 h6 a3 a4=>?_;cases h6;unfold Bl at hq;refine bg (17 (aK aP<|bo `v bY)<|5 hq λe5 hq n0 n1 b2 h7=>?_)
     cases h7;have E0:=E0.trans b2;have a1:=a1.trans b2.g;have a0:=3 b2.g;have a3:=ED b2.g a3;have a4:=ED b2.g a4;refine bg (17 (jH (aK aP ah)<|nL<|gN bY<|aY (x:=EO "i") (l:=[105])<|fG _ _ ⋯)<|5 hq λe6 hq n2 n3 b3 h9=>?_)
     cases h9;have E0:=E0.trans b3;have a1:=a1.trans b3.g;have a0:=3 b3.g;have a3:=ED b3.g a3;have a4:=ED b3.g a4;refine cm (Er:=Er) (mJ (aq<|bW (l7 aP) aP)<|aq<|bW aP aP) (5 hq λi0 hq n4 b4=>?_);have E0:=E0.trans b4;have a1:=a1.trans b4.g;have a0:=3 b4.g;have a3:=ED b4.g a3;have a4:=ED b4.g a4;by_cases e8:1 i0
     ·rw[Z0 e8]at hq ⊢;exact 25 fv λi1 i2 i3 i4=>(hrt70 _ hq) i1 i2 (E0.trans i3) i4
     ·rw[Z1 e8]at hq ⊢
      try dsimp only[aF]
      refine nK (Er:=Er) (f:=C9) (s0:=()) (Iv:=λ(n5:Unit)(i5:Wd)(i7:St)=>∃(d4:Option V)(d5:Option V),i7=[some b8,some b9,6 a7,6 b0,22 b7,22 h1.1,6 e5,6 e6,some h4,some h5,d4,d5]/\12 i5) (jK (iD<|aI a3)<|iD<|aI a4) (EE hq) ?_ ?_ ?_
      ·intro n6 b5;have E0:=E0.trans b5;have a1:=a1.trans b5.g;have a0:=3 b5.g;have a3:=ED b5.g a3;have a4:=ED b5.g a4;exact⟨_,_,`a,E0⟩
      ·intro n7 n8 n9 o0 o1 o2 o3 o4 c2 b6 iv a5 i8 hrt120 hq;obtain⟨d4,d5,rfl,E0⟩:=iv;have a1:=a1.trans c2;have a0:=3 c2;have a3:=ED c2 a3;have a4:=ED c2 a4;have E0:=E0.trans a5;have a1:=a1.trans a5.g;have b6:=b6.trans a5.g;have a0:=3 a5.g;have a3:=ED a5.g a3;have a4:=ED a5.g a4;refine jc i8 λo5 o6 i9 j1=>?_;cases i9;cases j1;unfold C9 at hq;refine p6 (Er:=Er) (cQ (aq<|ja bY<|aY (x:=EO "?") (l:=[63])<|fG _ _ ⋯)<|aq<|ja bY bY) (5 hq λj2 hq j3 a6=>?_);have E0:=E0.trans a6;have a1:=a1.trans a6.g;have b6:=b6.trans a6.g;have a0:=3 a6.g;have a3:=ED a6.g a3;have a4:=ED a6.g a4;by_cases e9:1 j2
       ·rw[Z0 e9]at hq ⊢;exact 25 fv λj4 j5 j6 j7=>(hrt70 _<|hrt120 _ hq) j4 j5 (E0.trans j6) j7
       ·rw[Z1 e9]at hq ⊢
        try dsimp only[aF]
        try dsimp only
        refine bS (W:=j3) () b6 ?_ hq;exact⟨_,_,`a,E0⟩
      ·intro o7 j8 o8 c3 iv hq;obtain⟨d4,d5,rfl,E0⟩:=iv;have a1:=a1.trans c3;have a0:=3 c3;have a3:=ED c3 a3;have a4:=ED c3 a4
       try dsimp only
       refine bS (W:=j8) (e5,e6) a1 ?_ hq;exact⟨_,_,_,_,_,`a,E0⟩
    ·intro o9 p0 p1 p2 iv hq;obtain⟨c8,c9,d0,d1,d2,rfl,E0⟩:=iv;exact 25 fv λj9 k0 k1 k2=>28 j9 k0 k1 k2
theorem E7{f:Addr}{fd:Fi}(F:Fun K "_law_peak" "_law_peak" (tp 56) f fd){fF:Cd->Tx->`C}(b4:Cal P w K mg base "_law_twist" `Y (2) (bI `n isS (rs isI) fF))(b5:mg "abs"=`c)(b6:mg "max"=`c):FnOk P w K mg base CX0 (3) f fd `Z (bI `n isS (rs isI)<|CN fF):=by
 have SC:31 [`V,"_law_turns_here","_law_now","_law_far","_law_turn"] `Z (tp 56):=by walk_at "F"
 refine 33 SC ?_ ?_;·obtain⟨_,_,_,_,_,_,rfl,_⟩:=h;rfl
 ·obtain⟨W0,b7,b0,b1,_,rfl,rfl,a0,b8,Er,hq⟩:=h;cases b8;refine 9 (ae (cg 2 aa)<|ae (cg 3 aa)<|ae (bV Fj `a (i6<|pv 1) (eI 4)<|ae (cg 2<|16 aZ 2<|cO b4<|2 0<|2 4 af)<|ag<|cg 3<|24 (iA `a) b6 IK<|2 3<|15<|24 hZ b5 HP<|2 2 af)<|19<|pv 3) ?_
  have E0:12 W0:=`N;unfold CN at hq;refine bg (17 ah λv3 W1 e2 h4=>?_)
  cases h4;have E0:=E0.trans e2;have a0:=3 e2.g;refine bg (17 ah λv7 W5 e6 h8=>?_)
  cases h8;have E0:=E0.trans e6;have a0:=3 e6.g;refine cz (Er:=Er) (f:=zP fF b7) (s0:=((0:Int),(0:Int))) (Iv:=λ(b2:Ii)(b9:Wd)(c0:St)=>∃(a3:Option V),c0=[some b1,22 b0,6 b2.1,6 b2.2,a3]/\12 b9) (ie bY) (EE hq) ?_ ?_ ?_
  ·intro d0 b3;have E0:=E0.trans b3;have a0:=3 b3.g;exact 9 `a E0
  ·intro d1 d2 d3 a9 d4 a2 d5 d6 c1 a1 iv a4 c2 hq;obtain⟨a3,rfl,E0⟩:=iv;have a0:=3 c1;have E0:=E0.trans a4;have a1:=a1.trans a4.g;have a0:=3 a4.g;cases c2;refine gn (σ':=[some b1,22 b0,6 a2.1,6 a2.2,22 a9]) ?_;unfold zP at hq;refine bg (17 (aK aP<|bo `v bY)<|5 hq λa5 hq d7 d8 a6 c3=>?_)
   cases c3;have E0:=E0.trans a6;have a1:=a1.trans a6.g;have a0:=3 a6.g;refine 17 (kE aP<|l7 aP) λd9 c4 a7 c5=>?_;cases c5;have E0:=E0.trans a7;have a1:=a1.trans a7.g;have a0:=3 a7.g
   try dsimp only
   refine bS (W:=c4) (a5,(if cy a5>a2.2 then cy a5 else a2.2)) a1 ?_ hq;exact 9 `a E0
  ·intro e0 e1 e3 e4 iv hq;obtain⟨a3,rfl,E0⟩:=iv;exact 25 aP λc6 c7 c8 c9=>28 c6 c7 c8 c9
theorem E8{f:Addr}{fd:Fi}(F:Fun K "within" "within" (tp 22) f fd)(a0:mg "abs"=`c):FnOk P w K mg base CX0 (1) f fd ["state","loose","bound"] (ef `s isI isI (rs isB) CO):=by
 have SC:31 ["state","loose","bound","twist","idle"] ["state","loose","bound"] (tp 22):=by walk_at "F"
 refine 33 SC ?_ ?_;·obtain⟨_,_,_,_,_,_,_,_,rfl,_⟩:=h;rfl
 ·obtain⟨W0,state,loose,bound,a9,_,_,rfl,rfl,a1,a2,a3,Er,hq⟩:=h;cases a2;cases a3;refine 9 (ae (eQ (pv 0)<|bN (K:=K) (n:=2) `a `a<|aA (eI 3)<|aA (eI 4) bM)<|19<|gm (cB rl (24 hZ a0 HP<|2 3 af) (pv 2)<|ar _)<|gF<|cB rl (pv 4) (pv 1)<|ar _) ?_
  have E0:12 W0:=`N;unfold CO at hq;refine dM (Er:=Er) (aI a1) λv1 W2 e3 h4=>?_;have E0:=E0.trans e3;refine jc h4 λv5 v7 h6 h8=>?_;cases h6;cases h8;exact 25 (jI (bW (l7 aP) aP)<|bW aP aP) (Fn hq λy9 hq a4 a5 a6 a7=>28 a4 a5 a6 a7)
theorem E9{f:Addr}{fd:Fi}(F:Fun K "twisting" "twisting" (tp 9) f fd){a1:Addr}(a2:0 (mg "STEPS") (.ref a1))(a3:DictK K w a1 [(Ia (EO "f"),.int 1),(Ia (EO "b"),.int<|-1),(Ia (EO "i"),.int 0)]):FnOk P w K mg base CX0 (1) f fd ["tablet","turn"] (bI `n isS (rs isI) CP):=by
 have SC:31 ["tablet","turn","step"] ["tablet","turn"] (tp 9):=by walk_at "F"
 refine 33 SC ?_ ?_;·obtain⟨_,_,_,_,_,_,rfl,_⟩:=h;rfl
 ·obtain⟨W0,tablet,turn,a6,_,rfl,rfl,a0,a4,Er,hq⟩:=h;cases a4
  refine 9 (ae (cg 2<|mH (K:=K) (w:=w) `a `a (dE (v:=.ref _) `z a2 `a) (pv 1) `j)<|19<|gu (20 bz (18 (aR (K:=K) `a) 0 aa `j) aX _) (pv 2)<|hX fR<|pv 2) ?_
  have E0:12 W0:=`N;unfold CP at hq;refine bg (17 (tF a3 ⋯ bY)<|5 hq λy3 hq v4 W1 e2 h5=>?_)
  cases h5;have E0:=E0.trans e2;have a0:=3 e2.g;exact 25 (oZ (aq<|gN (bj (f:=λ(b:Cd)=>b.1) lY `v)<|aY (x:=EO "S") (l:=[83])<|fG _ _ ⋯) aP<|gM aP) (Fn hq λy6 hq v7 W8 e9 a5=>28 v7 W8 e9 a5)
theorem Ea{f:Addr}{fd:Fi}(F:Fun K "state_behind" "state_behind" (tp 21) f fd){qS:Cd->Tx->`C}(a1:Cal P w K mg base "twisting" ["tablet","turn"] (1) (bI `n isS (rs isI) qS)):FnOk P w K mg base CX0 (2) f fd ["tablet","state","turn"] (ef `n `s isS (rs `s)<|CQ qS):=by
 have SC:31 ["tablet","state","turn","twist","idle"] ["tablet","state","turn"] (tp 21):=by walk_at "F"
 refine 33 SC ?_ ?_;·obtain⟨_,_,_,_,_,_,_,_,rfl,_⟩:=h;rfl
 ·obtain⟨W0,tablet,state,turn,a9,b0,_,rfl,rfl,a0,a2,a3,Er,hq⟩:=h;cases a3;refine 9 (ae (eQ (pv 1)<|bN (K:=K) (n:=2) `a `a<|aA (eI 3)<|aA (eI 4) bM)<|19<|cn<|a8 (16 aZ 3<|cO a1<|2 0<|2 2 af)<|15<|gu (20 bz (pv 2) aX _) (16 aZ 4 aa) aa) ?_
  have E0:12 W0:=`N;unfold CQ at hq;refine dM (Er:=Er) (aI a2) λv1 W2 e3 h4=>?_;have E0:=E0.trans e3;have a0:=3 e3.g;refine jc h4 λv5 v7 h6 h8=>?_;cases h6;cases h8;exact 25 (fk (K:=K) (aK aP<|bo `v bY)<|oZ (aq<|gN bY<|aY (x:=EO "i") (l:=[105])<|fG _ _ ⋯) (aK aP ah) ah) (Fn hq λb1 hq a4 a5 a6 a7=>28 a4 a5 a6 a7)
theorem Eb{f:Addr}{fd:Fi}(F:Fun K "twisted" "twisted" (tp 20) f fd){a0:Tok}(a1:0 (mg "HOLES") (.int 4 a0)):FnOk P w K mg base CX0 (1) f fd ["tablet","twist"] (bI `n isI (rs `n) CS):=by
 have SC:31 ["tablet","twist","lay","holes","stand"] ["tablet","twist"] (tp 20):=by walk_at "F"
 refine 33 SC ?_ ?_;·obtain⟨_,_,_,_,_,_,rfl,_⟩:=h;rfl
 ·obtain⟨W0,tablet,twist,b0,_,rfl,rfl,a2,a3,Er,hq⟩:=h;cases a3;refine 9 (ae (eQ (pv 0)<|bN (K:=K) (n:=3) `a `a<|aA (eI 2)<|aA (eI 3)<|aA (eI 4) bM)<|19<|cn<|2 2<|2 3<|15<|ai ay (gu (20 bz (pv 2) aX _) (16 aZ 4<|pv 1)<|16 dW 4<|pv 1)<|dE (v:=.int 4) `z a1 ⟨_,`a⟩) ?_
  have E0:12 W0:=`N;unfold CS at hq;refine dM (Er:=Er) (aI a2) λv1 W2 e3 h4=>?_;have E0:=E0.trans e3;refine p5 h4 λv5 v7 v9 h6 h8 a4=>?_;cases h6;cases h8;cases a4;exact 25 (cZ (K:=K) bY bY<|ak `B<|oZ (aq<|gN bY<|aY (x:=EO "S") (l:=[83])<|fG _ _ ⋯) (aK aP aP)<|aK aP aP) (Fn hq λb1 hq a5 a6 a7 a9=>28 a5 a6 a7 a9)
theorem Ce{f:Addr}{fd:Fi}(F:Fun K "top" "top" (tp 7) f fd){a0:Tok}(a1:0 (mg "HOLES") (.int 4 a0)):FnOk P w K mg base CX0 (1) f fd ["tablet"] (eH `n (rs isS) so):=by
 have SC:31 ["tablet","lay","holes","stand"] ["tablet"] (tp 7):=by walk_at "F"
 refine 33 SC ?_ ?_;·obtain⟨_,_,_,_,rfl,_⟩:=h;rfl
 ·obtain⟨W0,tablet,a8,rfl,rfl,a2,Er,hq⟩:=h;refine 9 (ae (eQ (pv 0)<|bN (K:=K) (n:=3) `a `a<|aA (eI 1)<|aA (eI 2)<|aA (eI 3) bM)<|19<|18 cq 2 (16 ay 3<|dE (v:=.int 4) `z a1 ⟨_,`a⟩) `j) ?_
  have E0:12 W0:=`N;unfold so at hq;refine dM (Er:=Er) (aI a2) λv1 W2 e3 h4=>?_;have E0:=E0.trans e3;refine p5 h4 λv5 v7 v9 h6 h8 a3=>?_;cases h6;cases h8;cases a3;exact 25 (cu bY<|ak `B aP) (Fn hq λa9 hq a4 a5 a6 a7=>28 a4 a5 a6 a7)
theorem Ec{f:Addr}{fd:Fi}(F:Fun K "bottom" "bottom" (tp 8) f fd){a0:Tok}(a1:0 (mg "HOLES") (.int 4 a0)):FnOk P w K mg base CX0 (1) f fd ["tablet"] (eH `n (rs isS) CT):=by
 have SC:31 ["tablet","lay","holes","stand"] ["tablet"] (tp 8):=by walk_at "F"
 refine 33 SC ?_ ?_;·obtain⟨_,_,_,_,rfl,_⟩:=h;rfl
 ·obtain⟨W0,tablet,a8,rfl,rfl,a2,Er,hq⟩:=h;refine 9 (ae (eQ (pv 0)<|bN (K:=K) (n:=3) `a `a<|aA (eI 1)<|aA (eI 2)<|aA (eI 3) bM)<|19<|18 cq 2 (ai ay (16 aZ 3 aa)<|dE (v:=.int 4) `z a1 ⟨_,`a⟩) `j) ?_
  have E0:12 W0:=`N;unfold CT at hq;refine dM (Er:=Er) (aI a2) λv1 W2 e3 h4=>?_;have E0:=E0.trans e3;refine p5 h4 λv5 v7 v9 h6 h8 a3=>?_;cases h6;cases h8;cases a3;exact 25 (cu bY<|ak `B<|aK aP ah) (Fn hq λa9 hq a4 a5 a6 a7=>28 a4 a5 a6 a7)
theorem Ed{f:Addr}{fd:Fi}(F:Fun K "left_place" "left_place" (tp 13) f fd){jw:Cd->`J}{yQ:Cd->`J}{qS:Cd->Tx->`C}(C_top:Cal P w K mg base "top" ["tablet"] (1) (eH `n (rs isS) jw))(a2:Cal P w K mg base "bottom" ["tablet"] (1) (eH `n (rs isS) yQ))(a3:Cal P w K mg base "twisting" ["tablet","turn"] (1) (bI `n isS (rs isI) qS)){a1:Addr}(a4:0 (mg "SLANTS") (.ref a1))(a5:DictK K w a1 [(I9 1,.str (EO "s")),(I9<|-1,.str (EO "z")),(I9 0,.str (EO "o"))]):FnOk P w K mg base CX0 (2) f fd ["tablet","turn"] (bI `n isS (rs<|qB K)<|CU jw yQ qS):=by
 have SC:31 ["tablet","turn"] ["tablet","turn"] (tp 13):=by walk_at "F"
 refine 33 SC ?_ ?_;·obtain⟨_,_,_,_,_,_,rfl,_⟩:=h;rfl
 ·obtain⟨W0,tablet,turn,a7,_,rfl,rfl,a0,a6,Er,hq⟩:=h;cases a6;refine 9 (19<|cn<|a8 (cO C_top<|2 0 af)<|a8 (cO a2<|2 0 af)<|15<|mH (K:=K) (w:=w) `a `a (dE (v:=.ref _) `z a4 `a) (cO a3<|2 0<|2 1 af) `j) ?_;have E0:12 W0:=`N;unfold CU at hq;exact 25 (cZ (K:=K) (dh `v) (dh `v)<|tG a5 ⋯<|bo `v bY) (Fn hq λy5 hq v6 W7 e8 h9=>28 v6 W7 e8 h9)
theorem Ee{f:Addr}{fd:Fi}(F:Fun K "suits" "suits" (tp 17) f fd){a0:Tok}(a1:0 (mg "WORN") (.str (EO "?") a0)):FnOk P w K mg base CX0 (1) f fd ["sign","left"] (bI isS isS (rs isB) CV):=by
 have SC:31 ["sign","left"] ["sign","left"] (tp 17):=by walk_at "F"
 refine 33 SC ?_ ?_;·obtain⟨_,_,_,_,_,_,rfl,_⟩:=h;rfl
 ·obtain⟨W0,sign,left,_,_,rfl,rfl,a2,a3,Er,hq⟩:=h;cases a2;cases a3;refine 9 (19<|Br (cB bz (pv 1) (dE (v:=.str (EO "?")) `z a1 ⟨_,`a⟩)<|ar _)<|gF<|cB bz (pv 1) (pv 0)<|ar _) ?_;have E0:12 W0:=`N;unfold CV at hq;exact 25 (BM (gN bY<|aY (x:=EO "?") (l:=[63])<|fG _ _ ⋯)<|gN bY bY) (Fn hq λy1 hq v2 W3 e4 h5=>28 v2 W3 e4 h5)
theorem Ef{f:Addr}{fd:Fi}(F:Fun K "agrees" "agrees" (tp 16) f fd){xy:Tx->Tx->`x}(a3:Cal P w K mg base "suits" ["sign","left"] (1) (bI isS isS (rs isB) xy))(a4:mg "all"=`c)(a5:mg "zip"=`c):FnOk P w K mg base CX0 (2) f fd ["place","mark"] (bI (qB K) (qB K) (rs isB)<|CW xy):=by
 have SC:31 ["place","mark"] ["place","mark"] (tp 16):=by walk_at "F"
 refine 33 SC ?_ ?_;·obtain⟨_,_,_,_,_,_,rfl,_⟩:=h;rfl
 ·obtain⟨W0,place,mark,a0,a2,rfl,rfl,a6,a7,Er,hq⟩:=h;refine 9 (19<|24 (jL (K:=K) `a `a) a4 JE<|15<|fh (N:=["sign","left"]) (cap:=[none,none]) (i8 `a ⋯ `a ⋯ `z `z) `a (gK (K:=K) `a `a a5<|2 0<|2 1 af) (λ_ _ _ _=>bN (K:=K) (n:=2) `a `a<|aA (bG (i:=0) (show Gd (["sign","left"]:`I) by decide +kernel) `a (by walk_at "L"))<|aA (bG (i:=1) (show Gd (["sign","left"]:`I) by decide +kernel) `a (by walk_at "L")) bM) (λ_ _ _ _=>cG) λ_ _ _ _=>cO a3<|2 0<|2 1 af) ?_;have E0:12 W0:=`N;rw[show L2.start ["place","mark"] [a0,a2]=[some a0,some a2]from rfl];unfold CW at hq;exact 25 (qu<|IB (fo (f:=λ(a1:Tx×Tx)=>xy a1.1 a1.2) (jK (iD<|aI a6)<|iD<|aI a7) λW3 a1 v2 e4 h5 b4 a9=>by
   refine jc h5 λv6 v8 h7 h9=>?_;cases h7;cases h9;exact⟨by simp[Keep,bH],((bo bY bY):EV Er _ [22 a1.1,22 a1.2] _ _ _) _ `q _ a9⟩)) (Fn hq λb5 hq b0 b1 b2 b3=>28 b0 b1 b2 b3)
theorem Eg{f:Addr}{fd:Fi}(F:Fun K "leaves" "leaves" (tp 23) f fd){yS:Pl->Pl->`x}{yR:Cd->Tx->Res Pl}{yP:Cd->Int->Res Cd}(a0:Cal P w K mg base "agrees" ["place","mark"] (2) (bI (qB K) (qB K) (rs isB) yS))(a1:Cal P w K mg base "left_place" ["tablet","turn"] (2) (bI `n isS (rs<|qB K) yR))(a2:Cal P w K mg base "twisted" ["tablet","twist"] (1) (bI `n isI (rs `n) yP)):FnOk P w K mg base CX0 (3) f fd ["tablet","state","turn","mark"] (fH `n `s isS (qB K) (rs isB)<|CY yS yR yP):=by
 have SC:31 ["tablet","state","turn","mark"] ["tablet","state","turn","mark"] (tp 23):=by walk_at "F"
 refine 33 SC ?_ ?_;·obtain⟨_,_,_,_,_,_,_,_,_,_,rfl,_⟩:=h;rfl
 ·obtain⟨W0,tablet,state,turn,mark,a7,a9,_,b0,rfl,rfl,a3,a4,a5,a6,Er,hq⟩:=h;cases a5;refine 9 (19<|cO a0<|a8 (cO a1<|a8 (cO a2<|2 0<|15<|18 (aR (K:=K) `a) 1 aa `j)<|2 2 af)<|2 3 af) ?_;have E0:12 W0:=`N;unfold CY at hq;exact 25 (bo (bo (bo (aI a3)<|bj (f:=λ(b:Ii)=>b.1) Al<|aI a4) bY)<|aI a6) (Fn hq λy3 hq v4 W5 e6 h7=>28 v4 W5 e6 h7)
theorem Eh{f:Addr}{fd:Fi}(F:Fun K "onward" "onward" (tp 24) f fd){m8:Cd->Ii->Tx->Res Ii}{jv:Ii->Int->Int->`x}{lT:Cd->Ii->Tx->Pl->`x}(b4:Cal P w K mg base "state_behind" ["tablet","state","turn"] (2) (ef `n `s isS (rs `s) m8))(b5:Cal P w K mg base "within" ["state","loose","bound"] (1) (ef `s isI isI (rs isB) jv))(b6:Cal P w K mg base "leaves" ["tablet","state","turn","mark"] (3) (fH `n `s isS (qB K) (rs isB) lT)){b7:Tok}(b8:0 (mg "TURNS") (.str (EO "fbi") b7)):FnOk P w K mg base CX0 (4) f fd ["tablet","mark","loose","bound","state"] (fw `n (qB K) isI isI `s (ro<|isT2 K isS `s)<|CZ m8 jv lT):=by
 have SC:31 ["tablet","mark","loose","bound","state","moves"] ["tablet","mark","loose","bound","state"] (tp 24):=by walk_at "F"
 refine 33 SC ?_ ?_;·obtain⟨_,_,_,_,_,_,_,_,_,_,_,_,rfl,_⟩:=h;rfl
 ·obtain⟨W0,tablet,mark,loose,bound,state,a1,a2,_,_,a5,rfl,rfl,a4,a6,b9,c0,c1,Er,hq⟩:=h;cases b9;cases c0
  refine 9 (ae (j7 (i:=5) SC.nd `a (by walk_at "L") (N:=["turn","tablet","state"]) (cap:=[none,some 0,some 4]) (i8 `a ⋯ `a ⋯ `z `z) `a (i6<|dE (v:=.str (EO "fbi")) `z b8 ⟨_,`a⟩) (λ_ _ _ _=>(bG (i:=0) (show Gd (["turn","tablet","state"]:`I) by decide +kernel) `a (by walk_at "L"))) (λ_ _ _ _=>cG) λ_ _ _ _=>cn<|2 0<|15<|cO b4<|2 1<|2 2<|2 0 af)<|19<|fh (N:=["turn","after","loose","bound","tablet","mark"]) (cap:=[none,none,some 2,some 3,some 0,some 1]) (i8 `a ⋯ `a ⋯ `z `z) `a (bQ (K:=K) `a<|pv 5) (λ_ _ _ _=>bN (K:=K) (n:=2) `a `a<|aA (bG (i:=0) (show Gd (["turn","after","loose","bound","tablet","mark"]:`I) by decide +kernel) `a (by walk_at "L"))<|aA (bG (i:=1) (show Gd (["turn","after","loose","bound","tablet","mark"]:`I) by decide +kernel) `a (by walk_at "L")) bM) (λ_ _ _ _=>xT<|IT<|cF (dt<|cO b5<|2 1<|2 2<|2 3 af)<|cA<|dt<|cO b6<|2 4<|2 1<|2 0<|2 5 af) λ_ _ _ _=>cn<|2 0<|2 1 af) ?_
  have E0:12 W0:=`N;rw[show L2.start ["tablet","mark","loose","bound","state","moves"] [a1,a2,.int loose,.int bound,a5]=[some a1,some a2,6 `d,6 `e,some a5,none]from rfl];unfold CZ at hq;refine bg (17 (Hm (fo (f:=λ(a3:Tx)=>(m8 tablet state a3).bind λc2=>EJ (a3,c2)) (ie<|aY (x:=EO "fbi") (l:=[102,98,105])<|fG _ _ ⋯) λW5 a3 v4 e6 h7 e1 c3=>by
   have h8:=Ge (R:=sh `n) e6 a4;have h9:=Ge (R:=sh `s) e6 c1;cases h7;refine gn ?_;exact⟨by simp[Keep,bH],((fk (K:=K) bY<|eB (aI h8) (aI h9) bY):EV Er _ [22 a3,some a1,some a5] _ _ _) _ `q _ c3⟩))<|5 hq λe3 hq e4 W1 e2 c4=>?_)
  have E0:=E0.trans e2;have a4:=ED e2.g a4;have a6:=ED e2.g a6;exact kC (Er:=Er) (vh (f:=λ(a0:Tx×Ii)=>((jv a0.2 `d `e).bind λc5=>if c5 then lT tablet a0.2 a0.1 mark else EJ `g).bind λc6=>if c6 then EJ (some (a0.1,a0.2))else EJ `c) (cv<|aI c4) λe5 a0 e7 b1 c7 e8 c8=>by
   have c9:=Ge (R:=sh `n) b1 a4;have d0:=Ge (R:=sh (qB K)) b1 a6;refine jc c7 λe9 b2 d1 a7=>?_;cases d1;refine⟨by simp[Keep,bH],((cQ (l6<|eB (aI a7) aP aP)<|l6<|ib (aI c9) (aI a7) bY<|aI d0):TV Er _ [22 a0.1,some b2,6 `d,6 `e,some a1,some a2] _ _) _ `q _<|Fn (P:=λa9=>(if 1 a9 then EJ (some (a0.1,a0.2))else EJ none:Res (Option<|Tx×Ii)).OkE Er _) (EE c8) λa9 b3 d2 b0=>?_⟩;cases a9 with
   |false=>exact b3 none _ b0 trivial
   |true=>
    rw[Z0 `a];refine EV.go (Er:=Er) (M:=[22 a0.1,some b2,6 `d,6 `e,some a1,some a2]) (W1:=d2) b0 (fk (K:=K) bY<|aI a7) ?_;exact λd3 f0 d4 d5=>b3 (some d3) _ (b0.trans d4) d5) (Fn hq λf1 hq d6 d7 d8 d9 e0=>hq d6 d7 (E0.trans d8) (none_of E0.h d9) e0)
theorem Ei{f:Addr}{fd:Fi}(F:Fun K "states_behind" "states_behind" (tp 27) f fd){gq:Cd->Pl->Int->Int->Ii->Res (7 Tx Ii)}(b0:Cal P w K mg base "onward" ["tablet","mark","loose","bound","state"] (4) (fw `n (qB K) isI isI `s (ro<|isT2 K isS `s) gq))(b1:mg "sorted"=`c):FnOk P w K mg base CX0 (5) f fd ["tablet","mark","loose","bound","states"] (fw `n (qB K) isI isI (qE K) (ro `s)<|D0 gq):=by
 have SC:31 ["tablet","mark","loose","bound","states"] ["tablet","mark","loose","bound","states"] (tp 27):=by walk_at "F"
 refine 33 SC ?_ ?_;·obtain⟨_,_,_,_,_,_,_,_,_,_,_,_,rfl,_⟩:=h;rfl
 ·obtain⟨W0,tablet,mark,loose,bound,states,a0,a1,_,_,a3,rfl,rfl,b2,b3,b4,b5,b6,Er,hq⟩:=h;cases b4;cases b5;refine 9 (19<|24 (nZ `a) b1 Jc<|15<|tT (fD hr) (N:=["state","turn","after","tablet","mark","loose","bound"]) (cap:=[none,none,none,some 0,some 1,some 2,some 3]) (i8 `a ⋯ `a ⋯ `z `z) `a (bQ (K:=K) `a<|pv 4) (λ_ _ _ _=>(bG (i:=0) (show Gd (["state","turn","after","tablet","mark","loose","bound"]:`I) by decide +kernel) `a (by walk_at "L"))) (λ_ _ _ _=>cG) (λ_ _ _ _=>bQ (K:=K) `a<|cO b0<|2 3<|2 4<|2 5<|2 6<|2 0 af) (λ_ _ _ _=>bN (K:=K) (n:=2) `a `a<|aA (bG (i:=1) (show Gd (["state","turn","after","tablet","mark","loose","bound"]:`I) by decide +kernel) `a (by walk_at "L"))<|aA (bG (i:=2) (show Gd (["state","turn","after","tablet","mark","loose","bound"]:`I) by decide +kernel) `a (by walk_at "L")) bM) (λ_ _ _ _=>cG) λ_ _ _ _=>pv 2) ?_;have E0:12 W0:=`N;rw[show L2.start ["tablet","mark","loose","bound","states"] [a0,a1,.int loose,.int bound,a3]=[some a0,some a1,6 `d,6 `e,some a3]from rfl];unfold D0 at hq;exact kC (Er:=Er) (vY (cv<|aI b6) (λW1 D2 W5 a6 v7 s8 M9 a4 e3 h4 b7 b8 a5 b9=>by
   have a7:=ED a4 b2;have a9:=ED a4 b3;refine gn ?_;exact⟨by simp[Keep,bH],vD<|((Ar b7 (cv<|Hm<|fL (aI a7) (aI a9) aP aP<|aI a5) (λ_ _ _ e o=>o.mono e) (λd3 c0 d4 d5 d6 a2 c1 c2 c3 c4=>by
    have d7:=ED a2 a7;have d8:=ED a2 a9;have d9:=ED a2 a5;refine jc c3 λe0 c5 c6 c7=>?_;cases c6;exact⟨by simp[Keep,bH],vD<|((AB c1 h4<|aI c7):BV Er _ [some v7,22 c0.1,some c5,some a0,some a1,6 `d,6 `e] _ _ _ _ _) _ _ _ `q c2 c4⟩)):BV Er _ [some v7,none,none,some a0,some a1,6 `d,6 `e] _ _ _ _ _) _ _ _ `q b8 b9⟩)) (Fn hq λe1 hq c8 c9 d0 d1 d2=>hq c8 c9 (E0.trans d0) (none_of E0.h d1) d2)
theorem Ej{f:Addr}{fd:Fi}(F:Fun K "search" "search" (tp 26) f fd){jv:Ii->Int->Int->`x}{qT:Cd->Pl->Int->Int->`t->11 Ii}(c1:Cal P w K mg base "within" ["state","loose","bound"] (1) (ef `s isI isI (rs isB) jv))(c2:Cal P w K mg base "states_behind" ["tablet","mark","loose","bound","states"] (5) (fw `n (qB K) isI isI (qE K) (ro `s) qT)){b1:Addr}(b2:0 (mg "START") (.ref b1))(b3:∀H,SqT K H b1 [.int (0),.int 0]):FnOk P w K mg base CX0 (6) f fd `aa (fH `n (qD K) isI isI (zG<|oL<|oL<|fz `s)<|D4 jv qT):=by
 have SC:31 ["tablet","strip","loose","bound","lists","mark"] `aa (tp 26):=by walk_at "F"
 refine 33 SC ?_ ?_;·obtain⟨_,_,_,_,_,_,_,_,_,_,rfl,_⟩:=h;rfl
 ·obtain⟨W0,tablet,strip,loose,bound,b4,b5,_,_,rfl,rfl,a0,a5,c3,c4,Er,hq⟩:=h;cases c3;cases c4
  refine 9 (ae (cg 4<|bJ<|15<|gu (dt<|cO c1<|a8 (dE (v:=.ref _) `z b2 `a)<|2 2<|2 3 af) (bJ<|15<|dE (v:=.ref _) `z b2 `a)<|bJ af)<|ae (bV Fj `a (bQ (K:=K) `a<|pv 1) (eI 5)<|ae (aT (20 (o6 hr.units0) (18 (35 `a) 4 (hX fR aa) `j) (bJ af) _) (19<|pv 4) aD)<|ag<|dN<|d5 (K:=K) `a (pv 4)<|15<|cO c2<|2 0<|2 5<|2 2<|2 3<|15<|18 (35 `a) 4 (hX fR aa) `j)<|19<|pv 4) ?_
  have E0:12 W0:=`N;unfold D4 at hq;have S:Sep W0 W0 []:=PF;refine bg (nQ (Er:=Er) S E0 (wj<|AD (l6<|eB (gz b3 (gI _)<|gI _) aP aP) (PV<|dY<|aN (gz b3 (gI _)<|gI _)<|dX (R:=`s))<|pq (R:=fz `s))<|5 hq λy3 hq v4 W5 e6 S=>?_)
  have E0:=E0.trans e6;have a0:=3 e6.g;have a5:=ED e6.g a5;have S:Sep W0 W5 [tc (oL<|oL<|fz `s) y3 v4]:=S;refine fM (Er:=Er) (f:=zQ qT tablet `d `e) (s0:=y3) (Iv:=λ(s9:(List<|List Ii))(b6:Wd)(c5:St)=>∃(a6:Option V),c5=[some b4,some b5,6 `d,6 `e,some v4,a6]/\12 b6/\Sep W0 b6 [tc (oL<|oL<|fz `s) s9 v4]) (cv<|aI a5) (EE hq) ?_ ?_ ?_
  ·intro d9 a9;have S:=S.ext a9;have E0:=E0.trans a9;have a0:=3 a9.g;exact⟨_,`a,E0,S⟩
  ·intro e0 e1 e2 a7 c6 s8 e3 e4 c7 a1 iv a4 a2 hrt23 hq;obtain⟨a6,rfl,E0,S⟩:=iv;have a0:=3 c7;have S:=S.ext a4;have E0:=E0.trans a4;have a1:=a1.trans a4.g;have a0:=3 a4.g;refine gn (σ':=[some b4,some b5,6 `d,6 `e,some v4,some c6]) ?_;unfold zQ at hq;refine cm (Er:=Er) (aq<|o7<|iJ<|iI (eE (R:=oL (oL<|fz `s)) (k:=0) S)<|gM ah) (5 hq λc8 hq c9 a3=>?_);have S:=S.ext a3;have E0:=E0.trans a3;have a1:=a1.trans a3.g;have a0:=3 a3.g;have a2:=ED a3.g a2;by_cases b7:1 c8
   ·rw[Z0 b7]at hq ⊢;exact nR (k:=0) S `a λd0 d1 d2=>(hrt23 _ hq) v4 c9 d0 E0 d1 d2
   ·rw[Z1 b7]at hq ⊢
    try dsimp only[aF]
    refine wm (Er:=Er) (K:=K) (xs:=s8) (k:=0) (i:=4) S E0 `a (λe5 b8 d3=>(have a0:=ED (R:=`n) b8 a0;have a2:=ED (R:=qB K) b8 a2;(fL `v (aI a2) aP aP<|bw (Gr<|aI d3)<|gM ah))) (5 hq λb9 hq c0 b0 E0 S=>?_);have S:Sep W0 c0 [tc (oL<|oL<|fz `s) b9 v4]:=S;have a1:=a1.trans b0;have a0:=3 b0;have a2:=ED b0 a2
    try dsimp only
    refine bS (W:=c0) b9 a1 ?_ hq;exact⟨_,`a,E0,S⟩
  ·intro e7 d4 e8 e9 iv hq;obtain⟨a6,rfl,E0,S⟩:=iv;exact nR (k:=0) S `a λd6 d7 d8=>hq v4 d4 d6 E0 d7 d8
theorem Ek{f:Addr}{fd:Fi}(F:Fun K "least" "least" (tp 31) f fd){jC:Cd->`m->Int->Int->11 `t}(a7:Cal P w K mg base "search" `aa (6) (fH `n (qD K) isI isI (zG<|oL<|oL<|fz `s) jC))(b2:mg "len"=`c):FnOk P w K mg base CX0 (7) f fd ["tablet","strip","loose"] (ef `n (qD K) isI (rs<|isO isI)<|D5 jC):=by
 have SC:31 `aa ["tablet","strip","loose"] (tp 31):=by walk_at "F"
 refine 33 SC ?_ ?_;·obtain⟨_,_,_,_,_,_,_,_,rfl,_⟩:=h;rfl
 ·obtain⟨W0,tablet,strip,loose,b3,b4,_,rfl,rfl,a1,a0,b5,Er,hq⟩:=h;cases b5
  refine 9 (ae (aT (20 (o6 hr.units0) (az (35 `a) (cO a7<|2 0<|2 1<|2 2<|15<|24 (aM (K:=K) `a) b2 Ff<|2 1 af) (hX fR aa) `j) (bJ af) _) (19 eO) aD)<|ae (cg 3 aa)<|ae (oF Fj (20 (o6 hr.units0) (az (35 `a) (cO a7<|2 0<|2 1<|2 2<|2 3 af) (hX fR aa) `j) (bJ af) _)<|ag<|nh (i:=3) SC.nd `a (by walk_at "L") aa uz)<|19<|pv 3) ?_
  have E0:12 W0:=`N;unfold D5 at hq;refine cm (Er:=Er) (aq<|o7<|Gr<|bw (Gr<|NP<|gB (aI a1) `v aP<|cC<|Gr `v)<|gM ah) (5 hq λy3 hq W4 e5=>?_);have E0:=E0.trans e5;have a1:=10 e5.g;have a0:=3 e5.g;by_cases a9:1 y3
  ·rw[Z0 a9]at hq ⊢;exact 25 (iB (R:=isI)) λv6 W7 e8 h9=>28 v6 W7 e8 h9
  ·rw[Z1 a9]at hq ⊢
   try dsimp only[aF]
   refine bg (17 ah λc6 c7 a5 b6=>?_)
   cases b6;have E0:=E0.trans a5;have a1:=10 a5.g;have a0:=3 a5.g;refine lj (Er:=Er) (c:=Ca jC tablet `h `d) (f:=Cb) (s0:=(0:Int)) (n:=cap) (Iv:=λ(b7:Int)(b8:Wd)(b9:St)=>b9=[some b3,some b4,6 `d,6 b7]/\12 b8) (EE hq) ?_ ?_ ?_ ?_ ?_;·exact⟨`a,E0⟩
   ·intro b0 c8 a3 b1 c0 iv;obtain⟨rfl,E0⟩:=iv;have E0:=E0.trans c0;exact⟨`a,E0⟩
   ·intro b0 a3 b1 a2 iv;obtain⟨rfl,E0⟩:=iv;have a1:=10 a2;have a0:=3 a2;unfold Ca;exact aq (o7<|Gr<|bw (Gr<|NP<|gB (aI a1) `v aP aP)<|gM ah)
   ·intro c9 b0 a3 b1 d0 a2 a6 iv hq;obtain⟨rfl,E0⟩:=iv;have a1:=10 a2;have a0:=3 a2;unfold Cb at hq;refine nN (Er:=Er) (a:=a3) ah λc1 a4=>?_;have E0:=E0.trans a4;have a6:=a6.trans a4.g;have a1:=10 a4.g;have a0:=3 a4.g
    try dsimp only
    refine bS (W:=c1) (a3+(1:Int)) a6 ?_ hq;exact⟨`a,E0⟩
   ·intro d1 d2 d3 d4 iv hq;obtain⟨rfl,E0⟩:=iv;exact 25 (eT aP) λc2 c3 c4 c5=>28 c2 c3 c4 c5
theorem El{f:Addr}{fd:Fi}(F:Fun K "tails" "tails" (tp 28) f fd){jC:Cd->`m->Int->Int->11 `t}{gq:Cd->Pl->Int->Int->Ii->Res (7 Tx Ii)}(c9:Cal P w K mg base "search" `aa (6) (fH `n (qD K) isI isI (zG<|oL<|oL<|fz `s) jC))(d0:Cal P w K mg base "onward" ["tablet","mark","loose","bound","state"] (4) (fw `n (qB K) isI isI `s (ro<|isT2 K isS `s) gq))(d1:mg "len"=`c)(d2:mg "range"=`c)(d3:mg "reversed"=`c)(d4:mg "sum"=`c):FnOk P w K mg base CX0 (7) f fd `aa (fH `n (qD K) isI isI (ro<|isPD P w K isI)<|D6 jC gq):=by
 have SC:31 ["tablet","strip","loose","bound","lists","counts","at","ahead","moves"] `aa (tp 28):=by walk_at "F"
 refine 33 SC ?_ ?_;·obtain⟨_,_,_,_,_,_,_,_,_,_,rfl,_⟩:=h;rfl
 ·obtain⟨W0,tablet,strip,loose,bound,a9,b0,_,_,rfl,rfl,a0,a1,d6,d7,Er,hq⟩:=h;cases d6;cases d7;refine 9 (ae (cg 4<|cO c9<|2 0<|2 1<|2 2<|2 3 af)<|ae (cg 5<|bJ<|15<|jP (fD hr) (N:=["state"]) (cap:=[none]) (i8 `a ⋯ `a ⋯ `z `z) `a (bQ (K:=K) `a<|18 (35 `a) 4 (hX fR aa) `j) (λ_ _ _ _=>(bG (i:=0) (show Gd (["state"]:`I) by decide +kernel) `a (by walk_at "L"))) (λ_ _ _ _=>cG) (λ_ _ _ _=>pv 0) λ_ _ _ _=>aa)<|ae (bV Fj `a (tZ `a d3 `a d2<|15<|ai dW (24 (aM (K:=K) `a) d1 Ff<|2 4 af) aa) (eI 6)<|ae (cg 7<|18 (35 `a) 5 (hX fR aa) `j)<|ae (cg 8<|jP (fD hr) (N:=["state","tablet","strip","at","loose","bound"]) (cap:=[none,some 0,some 1,some 6,some 2,some 3]) (i8 `a ⋯ `a ⋯ `z `z) `a (bQ (K:=K) `a<|18 (35 `a) 4 (pv 6) `j) (λ_ _ _ _=>(bG (i:=0) (show Gd (["state","tablet","strip","at","loose","bound"]:`I) by decide +kernel) `a (by walk_at "L"))) (λ_ _ _ _=>cG) (λ_ _ _ _=>pv 0) λ_ _ _ _=>cO d0<|2 1<|a8 (18 (35 `a) 2 (pv 3) `j)<|2 4<|2 5<|2 0 af)<|ag<|dN<|d5 (K:=K) `a (pv 5)<|15<|jP (fD hr) (N:=["state","moves","ahead"]) (cap:=[none,some 8,some 7]) (i8 `a ⋯ `a ⋯ `z `z) `a (tY (P:=P) (w:=w) (K:=K) `a `a `a<|pv 8) (λ_ _ _ _=>(bG (i:=0) (show Gd (["state","moves","ahead"]:`I) by decide +kernel) `a (by walk_at "L"))) (λ_ _ _ _=>cG) (λ_ _ _ _=>pv 0) λ_ _ _ _=>24 (tj (K:=K) `a `a) d4 OQ<|15<|fh (N:=["turn","after","ahead"]) (cap:=[none,none,some 2]) (i8 `a ⋯ `a ⋯ `z `z) `a (bQ (K:=K) `a<|js (P:=P) (w:=w) (K:=K) `a `a `a (fD hr) (pv 1) (pv 0) `j) (λ_ _ _ _=>bN (K:=K) (n:=2) `a `a<|aA (bG (i:=0) (show Gd (["turn","after","ahead"]:`I) by decide +kernel) `a (by walk_at "L"))<|aA (bG (i:=1) (show Gd (["turn","after","ahead"]:`I) by decide +kernel) `a (by walk_at "L")) bM) (λ_ _ _ _=>cG) λ_ _ _ _=>js (P:=P) (w:=w) (K:=K) `a `a `a (fD hr) (pv 2) (pv 1) `j)<|19<|jW (K:=K) `a (λa b=>[.ref a,.ref b]) `j (pv 5)<|bA<|hX fR aa) ?_
  have E0:12 W0:=`N;rw[show L2.start ["tablet","strip","loose","bound","lists","counts","at","ahead","moves"] [a9,b0,.int loose,.int bound]=[some a9,some b0,6 `d,6 `e,none,none,none,none,none]from rfl];unfold D6 at hq;refine bg (17 (NP<|gB `v (aI a1) aP aP)<|5 hq λy3 hq v4 W1 e2 h5=>?_)
  have E0:=E0.trans e2;have a0:=3 e2.g;have a1:=10 e2.g;refine bg (gd (Er:=Er) (dY<|aN (PX (lI (R:=isI) (cv<|bw (Gr<|aI h5)<|gM ah) (λW8 D9 i6 i7 d8 i9 j0 j1 j2 d9 e0 e1 e3 e4=>by
   refine gn ?_;exact⟨by simp[Keep,bH],vD<|((lH e0 d9 (aI e3) ah):BV Er _ [some d8] _ _ _ _ _) _ _ _ `q e1 e4⟩)))<|dX (R:=isPD P w K isI))<|5 hq λe5 hq b6 W6 e7 e6 b7=>?_)
  have e8:=none_of E0.h e6;have E0:=E0.trans e7;have a0:=3 e7.g;have a1:=10 e7.g;have h5:=ED e7.g h5;refine cz (Er:=Er) (f:=Bm gq tablet `h `d `e y3) (s0:=e5) (Iv:=λ(e9:(List<|List<|Ii×Int))(c2:Wd)(f0:St)=>∃(b3:Option V)(b4:Option V)(b8:Option V),f0=[some a9,some b0,6 `d,6 `e,some v4,27 b6,b8,b3,b4]/\12 c2/\Ow (isPD P w K isI) c2 b6 e9) (u0<|aK (cC<|Gr<|aI h5) ah) (EE hq) ?_ ?_ ?_
  ·intro j3 b1;have E0:=E0.trans b1;have a0:=3 b1.g;have a1:=10 b1.g;have h5:=ED b1.g h5;have b7:=b7.mono b1;exact⟨_,_,_,`a,E0,b7⟩
  ·intro j4 j5 j6 b9 j7 j8 j9 k0 c0 a3 iv a6 f1 hq;obtain⟨b3,b4,b8,rfl,E0,a2⟩:=iv;have a0:=3 c0;have a1:=10 c0;have h5:=ED c0 h5;have E0:=E0.trans a6;have a3:=a3.trans a6.g;have a0:=3 a6.g;have a1:=10 a6.g;have h5:=ED a6.g h5;have a2:=a2.mono a6;cases f1;refine gn (σ':=[some a9,some b0,6 `d,6 `e,some v4,27 b6,6 b9,b3,b4]) ?_;unfold Bm at hq;refine bg (17 (bw (gL a2)<|gM ah)<|5 hq λk1 hq c3 k2 a7 b2=>?_)
   have E0:=E0.trans a7;have a3:=a3.trans a7.g;have a0:=3 a7.g;have a1:=10 a7.g;have h5:=ED a7.g h5;have a2:=a2.mono a7;refine bg (17 (PX (lI (R:=isL (isT2 K isS `s)) (f:=λ(c1:Ii)(c4:List (Ii×(List<|Tx×Ii)))=>13 (dG `h b9) (λf2=>gq tablet f2 `d `e c1) λf3=>iW c4 c1 f3) (cv<|bw (Gr<|aI h5) aP) (λk3 k4 k5 c1 f4 c4 k6 c5 k7 f5 f6 f7 c6 f8=>by
    have f9:=3 c5;have g0:=10 c5;refine gn ?_;exact⟨by simp[Keep,bH],vD<|((lH f6 f5 (aI c6)<|Hm<|fL (aI f9) (bw (Gr<|aI g0) aP) aP aP<|aI c6):BV Er _ [some f4,some a9,some b0,6 b9,6 `d,6 `e] _ _ _ _ _) _ _ _ `q f7 f8⟩)))<|5 hq λk8 hq g1 k9 a4 b5=>?_)
   have E0:=E0.trans a4;have a3:=a3.trans a4.g;have a0:=3 a4.g;have a1:=10 a4.g;have h5:=ED a4.g h5;have a2:=a2.mono a4;have b2:=ED a4.g b2;refine ij (Er:=Er) a2 (PX (lI (R:=isI) (wA<|aI b5) (λl0 l1 l2 l3 g2 l4 l5 c7 l6 g3 g4 g5 c8 g6=>by
    have g7:=ED c7 b5;have g8:=ED c7 b2;refine gn ?_;exact⟨by simp[Keep,bH],vD<|((lH g4 g3 (aI c8)<|Am<|IB (fo (cv<|kJ (aI g7)<|aI c8) λl7 g9 l8 h0 h1 l9 h2=>by
     have h3:=Ge (R:=sh (isPD P w K isI)) h0 g8;refine jc h1 λm0 h4 h6 h7=>?_;cases h6;exact⟨by simp[Keep,bH],((kJ (aI h3)<|aI h7):EV Er _ [22 g9.1,some h4,some c3] _ _ _) _ `q _ h2⟩)):BV Er _ [some g2,some g1,some c3] _ _ _ _ _) _ _ _ `q g5 g6⟩))) (5 hq λh8 hq h9 a5 i0=>?_)
   have E0:=a5.e _ E0 e8;have a3:=a3.trans a5.g;have a0:=3 a5.g;have a1:=10 a5.g;have h5:=ED a5.g h5;have b2:=ED a5.g b2;have b5:=ED a5.g b5
   try dsimp only
   refine bS (W:=h9) h8 a3 ?_ hq;exact⟨_,_,_,`a,E0,i0⟩
  ·intro m1 m2 m3 m4 iv hq;obtain⟨b3,b4,b8,rfl,E0,a2⟩:=iv;exact kC (Er:=Er) (rO<|gL a2) λi1 i2 i3 i4 i5=>hq i1 i2 (E0.trans i3) (none_of E0.h i4) i5
theorem Em{f:Addr}{fd:Fi}(F:Fun K "chosen" "chosen" (tp 30) f fd):FnOk P w K mg base CX0 (1) f fd ["moves","counts","number"] (ef (isL<|isT2 K isS `s) (isPD P w K isI) isI (rs<|isT3 K isS `s isI) D7):=by
 have SC:31 ["moves","counts","number","at","turn","state"] ["moves","counts","number"] (tp 30):=by walk_at "F"
 refine 33 SC ?_ ?_;·obtain⟨_,_,_,_,_,_,_,_,rfl,_⟩:=h;rfl
 ·obtain⟨W0,moves,counts,number,a9,b0,_,rfl,rfl,a0,a1,b1,Er,hq⟩:=h;cases b1;refine 9 (ae (cg 3 aa)<|ae (oF Fj (20 oI (pv 2) (js (P:=P) (w:=w) (K:=K) `a `a `a (fD hr) (pv 1) (az (aR (K:=K) `a) (18 (35 `a) 0 (pv 3) `j) aa `j) `j) _)<|ae (nh (i:=2) SC.nd `a (by walk_at "L") (js (P:=P) (w:=w) (K:=K) `a `a `a (fD hr) (pv 1) (az (aR (K:=K) `a) (18 (35 `a) 0 (pv 3) `j) aa `j) `j) A7)<|ag<|nh (i:=3) SC.nd `a (by walk_at "L") aa uz)<|ae (eQ (18 (35 `a) 0 (pv 3) `j)<|bN (K:=K) (n:=2) `a `a<|aA (eI 4)<|aA (eI 5) bM)<|19<|cn<|2 4<|2 5<|2 2 af) ?_
  have E0:12 W0:=`N;unfold D7 at hq;refine bg (17 ah λv3 W1 e2 h4=>?_)
  cases h4;have E0:=E0.trans e2;have a0:=3 e2.g;have a1:=10 e2.g;refine lj (Er:=Er) (c:=Bn moves counts) (f:=Bo moves counts) (s0:=(number,(0:Int))) (n:=cap) (Iv:=λ(s7:Ii)(W8:Wd)(g9:St)=>g9=[some a9,some b0,6 s7.1,6 s7.2,none,none]/\12 W8) (EE hq) ?_ ?_ ?_ ?_ ?_;·exact⟨`a,E0⟩
  ·intro a6 c4 s6 a7 b2 iv;obtain⟨rfl,E0⟩:=iv;have E0:=E0.trans b2;exact⟨`a,E0⟩
  ·intro a6 s6 a7 a2 iv;obtain⟨rfl,E0⟩:=iv;have a0:=3 a2;have a1:=10 a2;unfold Bn;exact aq (bW aP<|kJ (aI a1)<|bj (f:=λ(b:Tx×Ii)=>b.2) xZ<|bw (Gr `v) aP)
  ·intro c5 a6 s6 a7 c6 a2 a3 iv hq;obtain⟨rfl,E0⟩:=iv;have a0:=3 a2;have a1:=10 a2;unfold Bo at hq;refine tH (Er:=Er) (a:=s6.1) (kJ (aI a1)<|bj (f:=λ(b:Tx×Ii)=>b.2) xZ<|bw (Gr `v) aP) (5 hq λb3 hq c7 a4=>?_);have E0:=E0.trans a4;have a3:=a3.trans a4.g;have a0:=3 a4.g;have a1:=10 a4.g;refine nN (Er:=Er) (a:=s6.2) ah λb4 a5=>?_;have E0:=E0.trans a5;have a3:=a3.trans a5.g;have a0:=3 a5.g;have a1:=10 a5.g
   try dsimp only
   refine bS (W:=b4) (s6.1-b3,s6.2+(1:Int)) a3 ?_ hq;exact⟨`a,E0⟩
  ·intro c8 c9 d0 b5 iv hq;obtain⟨rfl,E0⟩:=iv;have a0:=3 b5;refine dM (Er:=Er) (bw (Gr `v) aP) (5 hq λd1 hq d2 d3 b6 b7=>?_);have E0:=E0.trans b6;refine jc b7 λd4 d5 b8 b9=>?_;cases b8;exact 25 (cZ (K:=K) bY (aI b9) aP) λc0 c1 c2 c3=>28 c0 c1 c2 c3
theorem Cf{f:Addr}{fd:Fi}(F:Fun K "way" "way" (tp 29) f fd){yT:Cd->`m->Int->Int->11 (7 Ii Int)}{qU:7 Tx Ii->7 Ii Int->Int->Res (Tx×Ii×Int)}{gq:Cd->Pl->Int->Int->Ii->Res (7 Tx Ii)}(c7:Cal P w K mg base "tails" `aa (7) (fH `n (qD K) isI isI (ro<|isPD P w K isI) yT))(c8:Cal P w K mg base "chosen" ["moves","counts","number"] (1) (ef (isL<|isT2 K isS `s) (isPD P w K isI) isI (rs<|isT3 K isS `s isI) qU))(c9:Cal P w K mg base "onward" ["tablet","mark","loose","bound","state"] (4) (fw `n (qB K) isI isI `s (ro<|isT2 K isS `s) gq))(d0:mg "enumerate"=`c){c0:Addr}(c1:0 (mg "START") (.ref c0))(c2:∀H,SqT K H c0 [.int (0),.int 0]):FnOk P w K mg base CX0 (8) f fd ["tablet","strip","loose","bound","number"] (fw `n (qD K) isI isI isI (rs isS)<|sq yT qU gq):=by
 have SC:31 ["tablet","strip","loose","bound","number","counts","column","state","at","mark","turn"] ["tablet","strip","loose","bound","number"] (tp 29):=by walk_at "F"
 refine 33 SC ?_ ?_;·obtain⟨_,_,_,_,_,_,_,_,_,_,_,_,rfl,_⟩:=h;rfl
 ·obtain⟨W0,tablet,strip,loose,bound,number,d1,d2,_,_,_,rfl,rfl,a0,a1,d3,d4,d5,Er,hq⟩:=h;cases d3;cases d4;cases d5;refine 9 (ae (cg 5<|cO c7<|2 0<|2 1<|2 2<|2 3 af)<|ae (aT (IT<|jS (20 mq (pv 4) aa _)<|j0<|20 oI (pv 4) (wu (fD hr) (18 (35 `a) 5 aa `j) (dE (v:=.ref _) `z c1 `a) aa) _) (ag vz) aD)<|ae (cg 6 aX)<|ae (cg 7<|dE (v:=.ref _) `z c1 `a)<|ae (bV Fj `a (xV (K:=K) `a `a d0<|2 1 af) (bN (K:=K) (n:=2) `a `a<|aA (eI 8)<|aA (eI 9) bM)<|ae (eQ (cO c8<|a8 (cO c9<|2 0<|2 9<|2 2<|2 3<|2 7 af)<|a8 (18 (35 `a) 5 (16 aZ 8 aa) `j)<|2 4 af)<|bN (K:=K) (n:=3) `a `a<|aA (eI 10)<|aA (eI 7)<|aA (eI 4) bM)<|ag<|nh (i:=6) SC.nd `a (by walk_at "L") (pv 10) yC)<|19<|pv 6) ?_
  have E0:12 W0:=`N;unfold sq at hq;refine bg (17 (Hm<|mK `v (aI a1) aP aP)<|5 hq λy3 hq v4 W1 e2 h5=>?_)
  have E0:=E0.trans e2;have a0:=3 e2.g;have a1:=10 e2.g;refine cm (Er:=Er) (mJ (aq<|bW aP ah)<|aq<|bW aP<|wz (bw (Gr<|aI h5) ah) (gz c2 (gI _)<|gI _) ah) (5 hq λy8 hq W9 a7=>?_);have E0:=E0.trans a7;have a0:=3 a7.g;have a1:=10 a7.g;have h5:=ED a7.g h5;by_cases c3:1 y8
  ·rw[Z0 c3]at hq ⊢;exact hq.elim
  ·rw[Z1 c3]at hq ⊢
   try dsimp only[aF]
   refine bg (17 (aY (x:=EO "") (l:=[])<|fG _ _ ⋯) λf1 f2 a9 d6=>?_)
   cases d6;have E0:=E0.trans a9;have a0:=3 a9.g;have a1:=10 a9.g;have h5:=ED a9.g h5;refine bg (17 (gz c2 (gI _)<|gI _) λf3 f4 b0 b4=>?_)
   have E0:=E0.trans b0;have a0:=3 b0.g;have a1:=10 b0.g;have h5:=ED b0.g h5;refine cz (Er:=Er) (f:=fX qU gq tablet `d `e y3) (s0:=((0,0),number,([]:Tx))) (Iv:=λ(b5:(Ii×Int×Tx))(c4:Wd)(d7:St)=>∃(b1:V)(b6:Option V)(b7:Option V)(b8:Option V),d7=[some d1,some d2,6 `d,6 `e,6 b5.2.1,some v4,22 b5.2.2,some b1,b7,b8,b6]/\12 c4/\`s c4.G b5.1 b1) (y0<|aI a1) (EE hq) ?_ ?_ ?_
   ·intro f5 b2;have E0:=E0.trans b2;have a0:=3 b2.g;have h5:=ED b2.g h5;have b4:=ED b2.g b4;exact⟨_,_,_,_,`a,E0,b4⟩
   ·intro f6 f7 f8 f9 g0 d8 g1 g2 c5 a2 iv a4 d9 hq;obtain⟨b1,b6,b7,b8,rfl,E0,b3⟩:=iv;have a0:=3 c5;have h5:=ED c5 h5;have E0:=E0.trans a4;have a2:=a2.trans a4.g;have a0:=3 a4.g;have h5:=ED a4.g h5;have b3:=ED a4.g b3;refine jc d9 λg3 g4 e0 a5=>?_;cases e0;unfold fX at hq;refine dM (Er:=Er) (eB (Hm<|fL `v (aI a5) aP aP<|aI b3) (bw (Gr<|aI h5)<|aK aP ah) aP) (5 hq λc6 hq g5 g6 a6 e1=>?_);have E0:=E0.trans a6;have a2:=a2.trans a6.g;have a0:=3 a6.g;have h5:=ED a6.g h5;have a5:=ED a6.g a5;refine p5 e1 λg7 g8 g9 e3 b9 e4=>?_;cases e3;cases e4;refine yD (Er:=Er) (a:=d8.2.2) bY (5 hq λe5 hq e6 a3=>?_);have E0:=E0.trans a3;have a2:=a2.trans a3.g;have a0:=3 a3.g;have h5:=ED a3.g h5;have a5:=ED a3.g a5;have b9:=ED a3.g b9
    try dsimp only
    refine bS (W:=e6) (c6.2.1,c6.2.2,e5) a2 ?_ hq;exact⟨_,_,_,_,`a,E0,b9⟩
   ·intro h0 h1 h2 h3 iv hq;obtain⟨b1,b6,b7,b8,rfl,E0,b3⟩:=iv;exact 25 bY λe7 e8 e9 f0=>28 e7 e8 e9 f0
theorem En{f:Addr}{fd:Fi}(F:Fun K "restore" "restore" (tp 32) f fd){xA:Cd->`m->Int->Res `w}{jC:Cd->`m->Int->Int->11 `t}{iX:Cd->`m->Int->Int->Int->`J}(a5:Cal P w K mg base "least" ["tablet","strip","loose"] (7) (ef `n (qD K) isI (rs<|isO isI) xA))(a3:Cal P w K mg base "search" `aa (6) (fH `n (qD K) isI isI (zG<|oL<|oL<|fz `s) jC))(C_way:Cal P w K mg base "way" ["tablet","strip","loose","bound","number"] (8) (fw `n (qD K) isI isI isI (rs isS) iX))(a6:mg "len"=`c):FnOk P w K mg base CX0 (9) f fd ["tablet","strip","loose"] (ef `n (qD K) isI (rs<|isT3 K (isO isI) (isO isS)<|isL<|qE K)<|D8 xA jC iX):=by
 have SC:31 ["tablet","strip","loose","bound","lists"] ["tablet","strip","loose"] (tp 32):=by walk_at "F"
 refine 33 SC ?_ ?_;·obtain⟨_,_,_,_,_,_,_,_,rfl,_⟩:=h;rfl
 ·obtain⟨W0,tablet,strip,loose,b8,b9,_,rfl,rfl,a1,a0,a7,Er,hq⟩:=h;cases a7;refine 9 (ae (cg 3<|cO a5<|2 0<|2 1<|2 2 af)<|ae (aT (20 op_isN (pv 3) eO _) (19<|cn<|a8 eO<|a8 eO<|15<|cO a3<|2 0<|2 1<|2 2<|15<|24 (aM (K:=K) `a) a6 Ff<|2 1 af) aD)<|ae (cg 4<|gu (20 gU (pv 3) aa _) (cO a3<|2 0<|2 1<|2 2<|15<|16 dW 3 aa)<|bJ af)<|19<|cn<|2 3<|a8 (cO C_way<|2 0<|2 1<|2 2<|2 3<|15 aa)<|2 4 af) ?_
  have E0:12 W0:=`N;unfold D8 at hq;refine bg (17 (eB (aI a1) `v aP)<|5 hq λy3 hq v4 W1 e2 h5=>?_)
  have E0:=E0.trans e2;have a1:=10 e2.g;have a0:=3 e2.g;refine cm (Er:=Er) (aq<|l5<|aI h5) λW6 e7=>?_;have E0:=E0.trans e7;have a1:=10 e7.g;have a0:=3 e7.g;have h5:=ED e7.g h5;by_cases a4:1 y3.isNone
  ·rw[Z0 a4]at hq ⊢;exact 25 (cZ (K:=K) (iB (R:=isI)) (iB (R:=isS))<|NP<|gB (aI a1) `v aP<|cC<|Gr `v) (Fn hq λy9 hq a9 b0 b1 b2=>28 a9 b0 b1 b2)
  ·rw[Z1 a4]at hq ⊢
   try dsimp only[aF]
   refine bg (17 (oZ (aq<|bW (dZ<|aI h5) ah) (NP<|gB (aI a1) `v aP<|aK (dZ<|aI h5) ah)<|Hm<|gO (R:=qE K))<|5 hq λc0 hq c1 c2 a2 b3=>?_)
   have E0:=E0.trans a2;have a1:=10 a2.g;have a0:=3 a2.g;have h5:=ED a2.g h5;exact 25 (cZ (K:=K) (aI h5) (eT<|ic (aI a1) `v aP (dZ<|aI h5) ah)<|aI b3) (Fn hq λc3 hq b4 b5 b6 b7=>28 b4 b5 b6 b7)
theorem Eo{f:Addr}{fd:Fi}(F:Fun K "led_on" "led_on" (tp 35) f fd){gq:Cd->Pl->Int->Int->Ii->Res (7 Tx Ii)}(c8:Cal P w K mg base "onward" ["tablet","mark","loose","bound","state"] (4) (fw `n (qB K) isI isI `s (ro<|isT2 K isS `s) gq))(c9:mg "set"=`c):FnOk P w K mg base CX0 (5) f fd ["tablet","mark","loose","bound","states","following"] (yF `n (qB K) isI isI (qE K) (qE K) (rs isB)<|De gq):=by
 have SC:31 ["tablet","mark","loose","bound","states","following","told","state","turn","after"] ["tablet","mark","loose","bound","states","following"] (tp 35):=by walk_at "F"
 refine 33 SC ?_ ?_;·obtain⟨_,_,_,_,_,_,_,_,_,_,_,_,_,_,rfl,_⟩:=h;rfl
 ·obtain⟨W0,tablet,mark,loose,bound,states,following,b6,b7,_,_,b8,b9,rfl,rfl,a0,a1,d0,d1,c0,d2,Er,hq⟩:=h;cases d0;cases d1
  refine 9 (ae (cg 6<|dn (u7 (P:=P) (w:=w) (K:=K) `a `a `a hr.hd<|AJ hr) `z c9 OR<|2 5 af)<|ae (bV Fj `a (bQ (K:=K) `a<|pv 4) (eI 7)<|ag<|bV Fj `a (bQ (K:=K) `a<|cO c8<|2 0<|2 1<|2 2<|2 3<|2 7 af) (bN (K:=K) (n:=2) `a `a<|aA (eI 8)<|aA (eI 9) bM)<|ag<|aT (ao (u9 (P:=P) (w:=w) (K:=K) `a `a `a<|fD hr) (pv 9) (pv 6) (by with_unfolding_all rfl)) (19 dD) aD)<|19 dD) ?_
  have E0:12 W0:=`N;unfold De at hq;refine bg (17 (yE (P:=P) (w:=w) (K:=K)<|Gr<|aI d2)<|5 hq λy3 hq v4 W1 e2 h5=>?_)
  have E0:=E0.trans e2;have a0:=3 e2.g;have a1:=10 e2.g;have c0:=ED e2.g c0;refine fM (Er:=Er) (f:=Dd gq tablet mark `d `e y3) (s0:=()) (Iv:=λ(s8:Unit)(W9:Wd)(d3:St)=>∃(b3:Option V)(b4:Option V)(c1:Option V),d3=[some b6,some b7,6 `d,6 `e,some b8,some b9,some v4,c1,b3,b4]/\12 W9) (cv<|aI c0) (EE hq) ?_ ?_ ?_
  ·intro f0 b5;have E0:=E0.trans b5;have a0:=3 b5.g;have a1:=10 b5.g;have h5:=ED b5.g h5;exact⟨_,_,_,`a,E0⟩
  ·intro f1 f2 f3 a6 c6 s7 f4 f5 c2 a2 iv a9 a3 hrt24 hq;obtain⟨b3,b4,c1,rfl,E0⟩:=iv;have a0:=3 c2;have a1:=10 c2;have h5:=ED c2 h5;have E0:=E0.trans a9;have a2:=a2.trans a9.g;have a0:=3 a9.g;have a1:=10 a9.g;have h5:=ED a9.g h5;refine gn (σ':=[some b6,some b7,6 `d,6 `e,some b8,some b9,some v4,some c6,b3,b4]) ?_;unfold Dd at hq;refine nK (Er:=Er) (f:=Dc y3) (s0:=()) (Iv:=λ(f6:Unit)(d4:Wd)(d5:St)=>∃(c3:Option V)(c4:Option V),d5=[some b6,some b7,6 `d,6 `e,some b8,some b9,some v4,some c6,c3,c4]/\12 d4) (cv<|Hm<|fL `v (aI a1) aP aP<|aI a3) (EE hq) ?_ ?_ ?_
   ·intro f7 a7;have E0:=E0.trans a7;have a2:=a2.trans a7.g;have a0:=3 a7.g;have a1:=10 a7.g;have h5:=ED a7.g h5;have a3:=ED a7.g a3;exact⟨_,_,`a,E0⟩
   ·intro f8 f9 g0 d6 g1 g2 g3 g4 b0 b1 iv a5 d7 hrt46 hq;obtain⟨c3,c4,rfl,E0⟩:=iv;have a2:=a2.trans b0;have a0:=3 b0;have a1:=10 b0;have h5:=ED b0 h5;have a3:=ED b0 a3;have E0:=E0.trans a5;have a2:=a2.trans a5.g;have b1:=b1.trans a5.g;have a0:=3 a5.g;have a1:=10 a5.g;have h5:=ED a5.g h5;have a3:=ED a5.g a3;refine jc d7 λg5 g6 d8 c5=>?_;cases d8;unfold Dc at hq;refine p6 (Er:=Er) (aq<|qO (aI c5)<|aI h5) λd9 a4=>?_;have E0:=E0.trans a4;have a2:=a2.trans a4.g;have b1:=b1.trans a4.g;have a0:=3 a4.g;have a1:=10 a4.g;have h5:=ED a4.g h5;have a3:=ED a4.g a3;have c5:=ED a4.g c5;by_cases c7:1 (!y3.contains d6.2)
    ·rw[Z0 c7]at hq ⊢;exact 25 fv λe0 e1 e3 e4=>(hrt24 _<|hrt46 _ hq) e0 e1 (E0.trans e3) e4
    ·rw[Z1 c7]at hq ⊢
     try dsimp only[aF]
     try dsimp only
     refine bS (W:=d9) () b1 ?_ hq;exact⟨_,_,`a,E0⟩
   ·intro g7 e5 g8 b2 iv hq;obtain⟨c3,c4,rfl,E0⟩:=iv;have a2:=a2.trans b2;have a0:=3 b2;have a1:=10 b2;have h5:=ED b2 h5;have a3:=ED b2 a3
    try dsimp only
    refine bS (W:=e5) () a2 ?_ hq;exact⟨_,_,_,`a,E0⟩
  ·intro g9 h0 h1 h2 iv hq;obtain⟨b3,b4,c1,rfl,E0⟩:=iv;exact 25 fv λe6 e7 e8 e9=>28 e6 e7 e8 e9
theorem Ep{f:Addr}{fd:Fi}(F:Fun K "holds" "holds" (tp 34) f fd){yV:Cd->Pl->Int->Int->`t->`t->`x}(b3:Cal P w K mg base "led_on" ["tablet","mark","loose","bound","states","following"] (5) (yF `n (qB K) isI isI (qE K) (qE K) (rs isB) yV))(b4:mg "all"=`c)(a4:mg "len"=`c)(b5:mg "range"=`c){b1:Addr}(b6:0 (mg "START") (.ref b1))(b7:∀H,SqT K H b1 [.int (0),.int 0]):FnOk P w K mg base CX0 (6) f fd ["tablet","strip","loose","bound","lists"] (fw `n (qD K) isI isI (isL<|qE K) (rs isB)<|Df yV):=by
 have SC:31 ["tablet","strip","loose","bound","lists"] ["tablet","strip","loose","bound","lists"] (tp 34):=by walk_at "F"
 refine 33 SC ?_ ?_;·obtain⟨_,_,_,_,_,_,_,_,_,_,_,_,rfl,_⟩:=h;rfl
 ·obtain⟨W0,tablet,strip,loose,bound,lists,a6,a7,_,_,a9,rfl,rfl,a2,a1,b8,b9,a0,Er,hq⟩:=h;cases b8;cases b9
  refine 9 (ae (aT (IT<|jS (20 mq (24 (aM (K:=K) `a) a4 Ff<|2 4 af) aa _)<|j0<|20 gU (24 (aM (K:=K) `a) a4 Ff<|2 4 af) (ai aZ (24 (aM (K:=K) `a) a4 Ff<|2 1 af) aa) _) (19 dD) aD)<|ae (aT (IT<|jS (20 (AF hr.units0) (18 (35 `a) 4 (hX fR aa) `j) (bJ af) _)<|j0 (ao (u4 (K:=K) `a<|fD hr) (dE (v:=.ref _) `z b6 `a) (18 (35 `a) 4 aa `j) (by with_unfolding_all rfl))) (19 dD) aD)<|19<|24 (jL (K:=K) `a `a) b4 JE<|15<|fh (N:=["at","tablet","strip","loose","bound","lists"]) (cap:=[none,some 0,some 1,some 2,some 3,some 4]) (i8 `a ⋯ `a ⋯ `z `z) `a (fJ `a b5<|15<|ai dW (24 (aM (K:=K) `a) a4 Ff<|2 4 af) aa) (λ_ _ _ _=>(bG (i:=0) (show Gd (["at","tablet","strip","loose","bound","lists"]:`I) by decide +kernel) `a (by walk_at "L"))) (λ_ _ _ _=>cG) λ_ _ _ _=>cO b3<|2 1<|a8 (18 (35 `a) 2 (pv 0) `j)<|2 3<|2 4<|a8 (18 (35 `a) 5 (pv 0) `j)<|15<|18 (35 `a) 5 (16 aZ 0 aa) `j) ?_
  have E0:12 W0:=`N;rw[show L2.start ["tablet","strip","loose","bound","lists"] [a6,a7,.int loose,.int bound,a9]=[some a6,some a7,6 `d,6 `e,some a9]from rfl];unfold Df at hq;refine cm (Er:=Er) (mJ (aq<|bW (cC<|Gr `v) ah)<|aq<|bW (cC<|Gr `v)<|aK (cC<|Gr<|aI a1) ah) (5 hq λy1 hq W2 e3=>?_);have E0:=E0.trans e3;have a2:=ED e3.g a2;have a1:=10 e3.g;have a0:=3 e3.g;by_cases a3:1 y1
  ·rw[Z0 a3]at hq ⊢;exact 25 fv λv4 W5 e6 h7=>28 v4 W5 e6 h7
  ·rw[Z1 a3]at hq ⊢
   try dsimp only[aF]
   refine cm (Er:=Er) (mJ (aq<|AI<|Gr<|bw (Gr `v)<|gM ah)<|aq<|qM (gz b7 (gI _)<|gI _)<|Gr<|bw (Gr `v) ah) (5 hq λc0 hq d4 a5=>?_);have E0:=E0.trans a5;have a2:=ED a5.g a2;have a1:=10 a5.g;have a0:=3 a5.g;by_cases a3:1 c0
   ·rw[Z0 a3]at hq ⊢;exact 25 fv λc1 c2 c3 c4=>28 c1 c2 c3 c4
   ·rw[Z1 a3]at hq ⊢
    try dsimp only[aF]
    exact 25 (qu<|IB (fo (gw<|aK (cC<|Gr `v) ah) λd5 c5 d6 b0 c6 d7 c7=>by
     have c8:=Ge (R:=sh `n) b0 a2;have c9:=Ge (R:=sh (qD K)) b0 a1;have b2:=Ge (R:=sh (isL<|qE K)) b0 a0;cases c6;refine gn ?_;exact⟨by simp[Keep,bH],((wG (aI c8) (bw (Gr<|aI c9) aP) aP aP (bw (Gr<|aI b2) aP)<|bw (Gr<|aI b2)<|aK aP ah):EV Er _ [6 c5,some a6,some a7,6 `d,6 `e,some a9] _ _ _) _ `q _ c7⟩)) (Fn hq λd8 hq d0 d1 d2 d3=>28 d0 d1 d2 d3)
theorem Es{f:Addr}{fd:Fi}(F:Fun K "is_row" "is_row" (tp 12) f fd)(a0:mg "all"=`c)(a1:mg "len"=`c){a3:Tok}(a4:0 (mg "TURNS") (.str (EO "fbi") a3)):FnOk P w K mg base CX0 (1) f fd ["text","width"] (bI isS isI (rs isB) Dg):=by
 have SC:31 ["text","width"] ["text","width"] (tp 12):=by walk_at "F"
 refine 33 SC ?_ ?_;·obtain⟨_,_,_,_,_,_,rfl,_⟩:=h;rfl
 ·obtain⟨W0,text,width,_,_,rfl,rfl,a5,a6,Er,hq⟩:=h;cases a5;cases a6;refine 9 (19<|gm (cB bz (24 (aM (K:=K) `a) a1 Ff<|2 0 af) (pv 1)<|ar _)<|gF<|24 (jL (K:=K) `a `a) a0 JE<|15 (fh (N:=["sign"]) (cap:=[none]) (i8 `a ⋯ `a ⋯ `z `z) `a (i6<|pv 0) (λ_ _ _ _=>(bG (i:=0) (show Gd (["sign"]:`I) by decide +kernel) `a (by walk_at "L"))) (λ_ _ _ _=>cG) (λ_ _ _ _=>(cB sN (pv 0) (dE (v:=.str (EO "fbi")) `z a4 ⟨_,`a⟩) (by with_unfolding_all rfl))))) ?_;have E0:12 W0:=`N;rw[show L2.start ["text","width"] [.str (aU text),.int width]=[22 text,6 width]from rfl];unfold Dg at hq;exact 25 (jI (bD (iC bY) aP)<|qu<|IB (fo (ie bY) λW4 a2 v3 e5 h6 Q9 a7=>by
   cases h6;refine gn ?_;exact⟨by simp[Keep,bH],((Ak bY<|aY (x:=EO "fbi") (l:=[102,98,105])<|fG _ _ ⋯):EV Er _ [22 a2] _ _ _) _ `q _ a7⟩)) (Fn hq λb3 hq a9 b0 b1 b2=>28 a9 b0 b1 b2)
theorem Et{f:Addr}{fd:Fi}(F:Fun K "does" "does" (tp 25) f fd){yW:Tx->Int->`x}{jv:Ii->Int->Int->`x}{m8:Cd->Ii->Tx->Res Ii}{lT:Cd->Ii->Tx->Pl->`x}(c2:Cal P w K mg base "is_row" ["text","width"] (1) (bI isS isI (rs isB) yW))(b7:Cal P w K mg base "within" ["state","loose","bound"] (1) (ef `s isI isI (rs isB) jv))(c3:Cal P w K mg base "state_behind" ["tablet","state","turn"] (2) (ef `n `s isS (rs `s) m8))(c4:Cal P w K mg base "leaves" ["tablet","state","turn","mark"] (3) (fH `n `s isS (qB K) (rs isB) lT))(c5:mg "len"=`c)(c6:mg "zip"=`c){b8:Addr}(c7:0 (mg "START") (.ref b8))(c8:∀H,SqT K H b8 [.int (0),.int 0]):FnOk P w K mg base CX0 (4) f fd ["tablet","strip","loose","bound","text"] (fw `n (qD K) isI isI isS (rs isB)<|Dh yW jv m8 lT):=by
 have SC:31 ["tablet","strip","loose","bound","text","state","kept","turn","mark"] ["tablet","strip","loose","bound","text"] (tp 25):=by walk_at "F"
 refine 33 SC ?_ ?_;·obtain⟨_,_,_,_,_,_,_,_,_,_,_,_,rfl,_⟩:=h;rfl
 ·obtain⟨W0,tablet,strip,loose,bound,text,c9,d0,_,_,_,rfl,rfl,a0,a1,d1,d2,d3,Er,hq⟩:=h;cases d1;cases d2;cases d3
  refine 9 (ae (aT (j4<|dt<|cO c2<|2 4<|15<|24 (aM (K:=K) `a) c5 Ff<|2 1 af) (19 dD) aD)<|ae (cg 5<|dE (v:=.ref _) `z c7 `a)<|ae (cg 6<|cO b7<|2 5<|2 2<|2 3 af)<|ae (bV Fj `a (gK (K:=K) `a `a c6<|2 4<|2 1 af) (bN (K:=K) (n:=2) `a `a<|aA (eI 7)<|aA (eI 8) bM)<|ae (cg 5<|cO c3<|2 0<|2 5<|2 7 af)<|ag<|cg 6<|gm (pv 6)<|gm (cO b7<|2 5<|2 2<|2 3 af)<|gF<|cO c4<|2 0<|2 5<|2 7<|2 8 af)<|19<|pv 6) ?_
  have E0:12 W0:=`N;unfold Dh at hq;refine cm (Er:=Er) (nG<|l6<|bo bY<|cC<|Gr<|aI a1) (5 hq λy2 hq W3 e4=>?_);have E0:=E0.trans e4;have a0:=3 e4.g;have a1:=10 e4.g;by_cases b9:1 y2
  ·rw[Z0 b9]at hq ⊢;exact 25 fv λv5 W6 e7 h8=>28 v5 W6 e7 h8
  ·rw[Z1 b9]at hq ⊢
   try dsimp only[aF]
   refine bg (17 (gz c8 (gI _)<|gI _) λf0 W9 b3 a3=>?_)
   have E0:=E0.trans b3;have a0:=3 b3.g;have a1:=10 b3.g;refine bg (17 (eB (aI a3) aP aP)<|5 hq λd4 hq f1 f2 a7 d5=>?_)
   cases d5;have E0:=E0.trans a7;have a0:=3 a7.g;have a1:=10 a7.g;have a3:=ED a7.g a3;refine cz (Er:=Er) (f:=Bp jv m8 lT tablet `d `e) (s0:=((0,0),d4)) (Iv:=λ(c0:(Ii×Bool))(c1:Wd)(d6:St)=>∃(a9:V)(b4:Option V)(b5:Option V),d6=[some c9,some d0,6 `d,6 `e,22 text,some a9,some (.bl c0.2),b4,b5]/\12 c1/\`s c1.G c0.1 a9) (jK (ve bY)<|jb<|aI a1) (EE hq) ?_ ?_ ?_
   ·intro f3 b6;have E0:=E0.trans b6;have a0:=3 b6.g;have a3:=ED b6.g a3;exact⟨_,_,_,`a,E0,a3⟩
   ·intro f4 f5 f6 f7 f8 f9 g0 g1 d7 a2 iv b0 d8 hq;obtain⟨a9,b4,b5,rfl,E0,b1⟩:=iv;have a0:=3 d7;have E0:=E0.trans b0;have a2:=a2.trans b0.g;have a0:=3 b0.g;have b1:=ED b0.g b1;refine jc d8 λg2 g3 d9 a4=>?_;cases d9;unfold Bp at hq;refine bg (17 (eB `v (aI b1) bY)<|5 hq λe0 hq g4 g5 b2 a5=>?_)
    have E0:=E0.trans b2;have a2:=a2.trans b2.g;have a0:=3 b2.g;have a4:=ED b2.g a4;refine 17 (jI C1<|jI (eB (aI a5) aP aP)<|ib `v (aI a5) bY<|aI a4) (5 hq λe1 hq g6 e2 a6 e3=>?_);cases e3;have E0:=E0.trans a6;have a2:=a2.trans a6.g;have a0:=3 a6.g;have a4:=ED a6.g a4;have a5:=ED a6.g a5
    try dsimp only
    refine bS (W:=e2) (e0,e1) a2 ?_ hq;exact⟨_,_,_,`a,E0,a5⟩
   ·intro g7 g8 g9 h0 iv hq;obtain⟨a9,b4,b5,rfl,E0,b1⟩:=iv;exact 25 C1 λe5 e6 e8 e9=>28 e5 e6 e8 e9
theorem Eu{f:Addr}{fd:Fi}(F:Fun K "settled" "settled" (tp 36) f fd){uw:Cd->`m->Int->Int->List `t->`x}{xB:Cd->`m->Int->Int->Tx->`x}(a7:Cal P w K mg base "holds" ["tablet","strip","loose","bound","lists"] (6) (fw `n (qD K) isI isI (isL<|qE K) (rs isB) uw))(a9:Cal P w K mg base "does" ["tablet","strip","loose","bound","text"] (4) (fw `n (qD K) isI isI isS (rs isB) xB))(b0:mg "len"=`c):FnOk P w K mg base CX0 (7) f fd ["tablet","strip","loose","triple"] (fH `n (qD K) isI (isT3 K (isO isI) (isO isS)<|isL<|qE K) (rs isB)<|AL uw xB):=by
 have SC:31 ["tablet","strip","loose","triple","bound","text","lists"] ["tablet","strip","loose","triple"] (tp 36):=by walk_at "F"
 refine 33 SC ?_ ?_;·obtain⟨_,_,_,_,_,_,_,_,_,_,rfl,_⟩:=h;rfl
 ·obtain⟨W0,tablet,strip,loose,triple,d1,d2,_,d3,rfl,rfl,a1,a0,b1,b2,Er,hq⟩:=h;cases b1;refine 9 (ae (eQ (pv 3)<|bN (K:=K) (n:=3) `a `a<|aA (eI 4)<|aA (eI 5)<|aA (eI 6) bM)<|ae (aT (20 op_isN (pv 4) eO _) (19<|gm (cB op_isN (pv 5) eO<|ar _)<|gF<|cO a7<|2 0<|2 1<|2 2<|a8 (24 (aM (K:=K) `a) b0 Ff<|2 1 af)<|2 6 af) aD)<|ae (aT (IT<|jS (20 op_isN (pv 5) eO _)<|j0<|j4<|dt<|cO a9<|2 0<|2 1<|2 2<|2 4<|2 5 af) (19 dD) aD)<|ae (aT (20 bz (pv 4) aa _) (19<|cB (o6 hr.units0) (pv 6) (bJ af)<|ar _) aD)<|19<|cO a7<|2 0<|2 1<|2 2<|a8 (16 dW 4 aa)<|2 6 af) ?_
  have E0:12 W0:=`N;unfold AL at hq;refine dM (Er:=Er) (aI b2) λv1 W2 e3 h4=>?_;have E0:=E0.trans e3;have a1:=10 e3.g;have a0:=3 e3.g;refine p5 h4 λv5 v7 v9 h6 h8 a2=>?_;refine cm (Er:=Er) (aq<|l5<|aI h6) λd4 a4=>?_;have E0:=E0.trans a4;have a1:=10 a4.g;have a0:=3 a4.g;have h6:=ED a4.g h6;have h8:=ED a4.g h8;have a2:=ED a4.g a2;by_cases a3:1 triple.1.isNone
  ·rw[Z0 a3]at hq ⊢;exact 25 (jI (l5<|aI h8)<|ic (aI a1) `v aP (cC<|Gr `v)<|aI a2) (Fn hq λd5 hq b3 b4 b5 b6=>28 b3 b4 b5 b6)
  ·rw[Z1 a3]at hq ⊢
   try dsimp only[aF]
   refine cm (Er:=Er) (mJ (aq<|l5<|aI h8)<|nG<|l6<|ic (aI a1) `v aP (dZ<|aI h6)<|dZ<|aI h8) (5 hq λb7 hq d6 a5=>?_);have E0:=E0.trans a5;have a1:=10 a5.g;have a0:=3 a5.g;have h6:=ED a5.g h6;have h8:=ED a5.g h8;have a2:=ED a5.g a2;by_cases a3:1 b7
   ·rw[Z0 a3]at hq ⊢;exact 25 fv λb8 b9 c0 c1=>28 b8 b9 c0 c1
   ·rw[Z1 a3]at hq ⊢
    try dsimp only[aF]
    refine cm (Er:=Er) (aq<|bD (dZ<|aI h6) ah) (5 hq λc2 hq d7 a6=>?_);have E0:=E0.trans a6;have a1:=10 a6.g;have a0:=3 a6.g;have h6:=ED a6.g h6;have a2:=ED a6.g a2;by_cases a3:1 c2
    ·rw[Z0 a3]at hq ⊢;exact 25 (o7<|Gr<|aI a2) λc3 c4 c5 c6=>28 c3 c4 c5 c6
    ·rw[Z1 a3]at hq ⊢
     try dsimp only[aF]
     exact 25 (ic (aI a1) `v aP (aK (dZ<|aI h6) ah)<|aI a2) (Fn hq λd8 hq c7 c8 c9 d0=>28 c7 c8 c9 d0)
theorem Ew{f:Addr}{fd:Fi}(F:Fun K "_law_next" "_law_next" (tp 58) f fd){fF:Cd->Tx->`C}(g8:Cal P w K mg base "_law_twist" `Y (2) (bI `n isS (rs isI) fF))(g9:mg "abs"=`c)(h0:mg "int"=`c)(h1:mg "zip"=`c):FnOk P w K mg base CX0 (3) f fd [`V,"_law_mark","_law_loose","_law_bound","_law_state"] (fw `n (qB K) isI isI `s (ro `s)<|Di fF):=by
 have SC:31 [`V,"_law_mark","_law_loose","_law_bound","_law_state","_law_out","_law_turn","_law_step","_law_now","_law_idle","_law_hole","_law_good","_law_sign_here","_law_left"] [`V,"_law_mark","_law_loose","_law_bound","_law_state"] (tp 58):=by walk_at "F"
 refine 33 SC ?_ ?_;·obtain⟨_,_,_,_,_,_,_,_,_,_,_,_,rfl,_⟩:=h;rfl
 ·obtain⟨W0,e9,h2,b4,b5,b6,b9,c0,_,_,c1,rfl,rfl,a0,a2,h3,h4,a1,Er,hq⟩:=h;cases h3;cases h4;refine 9 (ae (cg 5<|bJ af)<|ae (bV Fj `a (i6 aX) (eI 6)<|ae (cg 7<|cO g8<|2 0<|2 6 af)<|ae (cg 8<|ai aZ (18 (aR (K:=K) `a) 4 aa `j)<|pv 7)<|ae (cg 9<|ai fQ (ai aZ (18 (aR (K:=K) `a) 4 aa `j) aa)<|dn jE `z h0 HQ<|15<|cB bz (pv 6) aX<|ar _)<|ae (cg 10<|ai ay (ai aZ (18 (aR (K:=K) `a) 0 aa `j)<|pv 8) aa)<|ae (aT (20 bz (18 (aR (K:=K) `a) 0 aa `j) aX _) (ag<|cg 10<|ai ay (ai dW (18 (aR (K:=K) `a) 0 aa `j)<|pv 8) aa) aD)<|ae (cg 11<|gm (cB rl (24 hZ g9 HP<|2 8 af) (pv 3)<|ar _)<|gF<|cB rl (pv 9) (pv 2)<|ar _)<|ae (bV Fj `a (gK (K:=K) `a `a h1<|a8 (cn<|a8 (az cq (18 (aR (K:=K) `a) 0 aa `j) (pv 10) `j)<|a8 (az cq (18 (aR (K:=K) `a) 0 aa `j) (ai ay (16 aZ 10 aa) aa) `j)<|15<|az cq aX (16 aZ 7 aa) `j)<|2 1 af) (bN (K:=K) (n:=2) `a `a<|aA (eI 12)<|aA (eI 13) bM)<|ag<|aT (IT<|cF (20 je (pv 13) aX _)<|cA<|20 je (pv 13) (pv 12) _) (ag<|cg 11 dD) aD)<|ag<|aT (dt<|pv 11) (ag<|dN<|d5 (K:=K) `a (pv 5)<|15<|cn<|2 8<|2 9 af) aD)<|19<|pv 5) ?_
  have E0:12 W0:=`N;unfold Di at hq;refine bg (gd (Er:=Er) (gO (R:=`s)) λp3 W1 e2 hp4 o5=>?_)
  have fr6:=none_of E0.h hp4;have E0:=E0.trans e2;have a0:=3 e2.g;have a2:=ED e2.g a2;have a1:=10 e2.g;refine cz (Er:=Er) (f:=zR fF e9 h2 b4 b5 b6) (s0:=([]:`t)) (Iv:=λ(s9:(List Ii))(f9:Wd)(h5:St)=>∃(d7:Option V)(d8:Option V)(d9:Option V)(e0:Option V)(d0:Option V)(d1:Option V)(d2:Option V)(f0:Option V),h5=[some b9,some c0,6 b4,6 b5,some c1,27 p3,f0,d7,d8,d9,e0,d0,d1,d2]/\12 f9/\Ow `s f9 p3 s9) (ie<|aY (x:=EO "fbi") (l:=[102,98,105])<|fG _ _ ⋯) (EE hq) ?_ ?_ ?_
  ·intro l9 d3;have E0:=E0.trans d3;have a0:=3 d3.g;have a2:=ED d3.g a2;have a1:=10 d3.g;have o5:=o5.mono d3;exact⟨_,_,_,_,_,_,_,_,`a,E0,o5⟩
  ·intro m0 m1 m2 a7 m3 s8 m4 m5 f1 a3 iv c2 h6 hq;obtain⟨d7,d8,d9,e0,d0,d1,d2,f0,rfl,E0,a4⟩:=iv;have a0:=3 f1;have a2:=ED f1 a2;have a1:=10 f1;have E0:=E0.trans c2;have a3:=a3.trans c2.g;have a0:=3 c2.g;have a2:=ED c2.g a2;have a1:=10 c2.g;have a4:=a4.mono c2;cases h6;refine gn (σ':=[some b9,some c0,6 b4,6 b5,some c1,27 p3,22 a7,d7,d8,d9,e0,d0,d1,d2]) ?_;unfold zR at hq;refine bg (17 (bo `v bY)<|5 hq λb2 hq m6 m7 c3 h7=>?_)
   cases h7;have E0:=E0.trans c3;have a3:=a3.trans c3.g;have a0:=3 c3.g;have a2:=ED c3.g a2;have a1:=10 c3.g;have a4:=a4.mono c3;refine bg (17 (aK (bj (f:=λ(b:Ii)=>b.1) Al<|aI a1) aP) λm8 m9 c4 h8=>?_)
   cases h8;have E0:=E0.trans c4;have a3:=a3.trans c4.g;have a0:=3 c4.g;have a2:=ED c4.g a2;have a1:=10 c4.g;have a4:=a4.mono c4;refine bg (17 (jH (aK (bj (f:=λ(b:Ii)=>b.2) xZ<|aI a1) ah)<|nL<|gN bY<|aY (x:=EO "i") (l:=[105])<|fG _ _ ⋯)<|5 hq λe1 hq n0 n1 c5 h9=>?_)
   cases h9;have E0:=E0.trans c5;have a3:=a3.trans c5.g;have a0:=3 c5.g;have a2:=ED c5.g a2;have a1:=10 c5.g;have a4:=a4.mono c5;refine bg (17 (ak `B<|aK (bj (f:=λ(b:Cd)=>b.2.2) kB `v) aP) λn2 n3 c6 i0=>?_)
   cases i0;have E0:=E0.trans c6;have a3:=a3.trans c6.g;have a0:=3 c6.g;have a2:=ED c6.g a2;have a1:=10 c6.g;have a4:=a4.mono c6;refine br (Er:=Er) (Iv:=λ(i1:Int)(g0:Wd)(i2:St)=>i2=[some b9,some c0,6 b4,6 b5,some c1,27 p3,22 a7,6 b2,6 (b6.1+b2),6 e1,6 i1,d0,d1,d2]/\12 g0/\Ow `s g0 p3 s8) (aq<|gN (bj (f:=λ(b:Cd)=>b.1) lY `v)<|aY (x:=EO "Z") (l:=[90])<|fG _ _ ⋯) (EE hq) ?_ ?_ ?_
   ·intro g1 i3 a9 f2 hq;have f3:=a9.g;have E0:=E0.trans a9;have a3:=a3.trans a9.g;have a0:=3 a9.g;have a2:=ED a9.g a2;have a1:=10 a9.g;have a4:=a4.mono a9;refine 17 (ak `B<|aK (bj (f:=λ(b:Cd)=>b.2.2) kB `v) aP) λn4 i4 b7 i5=>?_;cases i5;have E0:=E0.trans b7;have a3:=a3.trans b7.g;have f3:=f3.trans b7.g;have a0:=3 b7.g;have a2:=ED b7.g a2;have a1:=10 b7.g;have a4:=a4.mono b7;exact f2 ((e9.2.2-(b6.1+b2))%4) i4 _ f3 ⟨`a,E0,a4⟩ hq
   ·intro g1 i3 a9 f2 hq;have i7:=a9.g;have E0:=E0.trans a9;have a3:=a3.trans a9.g;have a0:=3 a9.g;have a2:=ED a9.g a2;have a1:=10 a9.g;have a4:=a4.mono a9
    try dsimp only[aF]
    exact f2 ((e9.2.2+(b6.1+b2))%4) g1 _ i7 ⟨`a,E0,a4⟩ hq
   ·intro f4 n5 n6 e3 iv hq;obtain⟨rfl,E0,d4⟩:=iv;have a3:=a3.trans e3;have a0:=3 e3;have a2:=ED e3 a2;have a1:=10 e3;refine bg (17 (jI (bW (l7 aP) aP)<|bW aP aP)<|5 hq λi8 hq n7 n8 c7 i9=>?_)
    cases i9;have E0:=E0.trans c7;have a3:=a3.trans c7.g;have a0:=3 c7.g;have a2:=ED c7.g a2;have a1:=10 c7.g;have d4:=d4.mono c7;refine cz (Er:=Er) (f:=xC) (s0:=i8) (Iv:=λ(j0:Bool)(g2:Wd)(j1:St)=>∃(e4:Option V)(e5:Option V),j1=[some b9,some c0,6 b4,6 b5,some c1,27 p3,22 a7,6 b2,6 (b6.1+b2),6 e1,6 f4,some (.bl j0),e4,e5]/\12 g2/\Ow `s g2 p3 s8) (jK (iD<|cZ (K:=K) (cu (bj (f:=λ(b:Cd)=>b.2.1) kA `v) aP) (cu (bj (f:=λ(b:Cd)=>b.2.1) kA `v)<|ak `B<|aK aP ah)<|cu (aY (x:=EO "zos") (l:=[122,111,115])<|fG _ _ ⋯)<|aK aP ah)<|iD<|aI a2) (EE hq) ?_ ?_ ?_
    ·intro n9 c8;have E0:=E0.trans c8;have a3:=a3.trans c8.g;have a0:=3 c8.g;have a2:=ED c8.g a2;have a1:=10 c8.g;have d4:=d4.mono c8;exact⟨_,_,`a,E0,d4⟩
    ·intro o0 o1 o2 g3 o3 j2 o4 o6 e6 b1 iv b8 j3 hq;obtain⟨e4,e5,rfl,E0,a5⟩:=iv;have a3:=a3.trans e6;have a0:=3 e6;have a2:=ED e6 a2;have a1:=10 e6;have E0:=E0.trans b8;have a3:=a3.trans b8.g;have b1:=b1.trans b8.g;have a0:=3 b8.g;have a2:=ED b8.g a2;have a1:=10 b8.g;have a5:=a5.mono b8;refine jc j3 λo7 o8 j4 j5=>?_;cases j4;cases j5;unfold xC at hq;refine ig (Er:=Er) (Iv:=λ(j6:Bool)(g4:Wd)(j7:St)=>j7=[some b9,some c0,6 b4,6 b5,some c1,27 p3,22 a7,6 b2,6 (b6.1+b2),6 e1,6 f4,some (.bl j6),22 g3.1,22 g3.2]/\12 g4/\Ow `s g4 p3 s8) (cQ (aq<|ja bY<|aY (x:=EO "?") (l:=[63])<|fG _ _ ⋯)<|aq<|ja bY bY) (EE hq) ?_ ?_ ?_
     ·intro g5 j8 a6 f5 hq;have f6:=a6.g;have E0:=E0.trans a6;have a3:=a3.trans a6.g;have b1:=b1.trans a6.g;have a0:=3 a6.g;have a2:=ED a6.g a2;have a1:=10 a6.g;have a5:=a5.mono a6;refine 17 fv λo9 j9 b3 k0=>?_;cases k0;have E0:=E0.trans b3;have a3:=a3.trans b3.g;have b1:=b1.trans b3.g;have f6:=f6.trans b3.g;have a0:=3 b3.g;have a2:=ED b3.g a2;have a1:=10 b3.g;have a5:=a5.mono b3;exact f5 `g j9 _ f6 ⟨`a,E0,a5⟩ hq
     ·intro g5 j8 a6 f5 hq;have k1:=a6.g;have E0:=E0.trans a6;have a3:=a3.trans a6.g;have b1:=b1.trans a6.g;have a0:=3 a6.g;have a2:=ED a6.g a2;have a1:=10 a6.g;have a5:=a5.mono a6
      try dsimp only[aF]
      exact f5 j2 g5 _ k1 ⟨`a,E0,a5⟩ hq
     ·intro k2 k3 p0 d6 iv hq;obtain⟨rfl,E0,k4⟩:=iv;have a3:=a3.trans d6;have b1:=b1.trans d6;have a0:=3 d6;have a2:=ED d6 a2;have a1:=10 d6
      try dsimp only
      refine bS (W:=k3) k2 b1 ?_ hq;exact⟨_,_,`a,E0,k4⟩
    ·intro k5 p1 p2 e7 iv hq;obtain⟨e4,e5,rfl,E0,a5⟩:=iv;have a3:=a3.trans e7;have a0:=3 e7;have a2:=ED e7 a2;have a1:=10 e7;refine ig (Er:=Er) (Iv:=λ(k6:(List Ii))(g6:Wd)(k7:St)=>k7=[some b9,some c0,6 b4,6 b5,some c1,27 p3,22 a7,6 b2,6 (b6.1+b2),6 e1,6 f4,some (.bl k5),e4,e5]/\12 g6/\Ow `s g6 p3 k6) (l6 C1) (EE hq) ?_ ?_ ?_
     ·intro g7 k8 b0 f7 hq;have f8:=b0.g;have E0:=E0.trans b0;have a3:=a3.trans b0.g;have a0:=3 b0.g;have a2:=ED b0.g a2;have a1:=10 b0.g;have a5:=a5.mono b0;refine ij (Er:=Er) a5 (fk (K:=K) aP aP) (5 hq λk9 hq l0 c9 l1=>?_);have E0:=c9.e _ E0 fr6;have a3:=a3.trans c9.g;have f8:=f8.trans c9.g;have a0:=3 c9.g;have a2:=ED c9.g a2;have a1:=10 c9.g;exact f7 k9 l0 _ f8 ⟨`a,E0,l1⟩ hq
     ·intro g7 k8 b0 f7 hq;have l2:=b0.g;have E0:=E0.trans b0;have a3:=a3.trans b0.g;have a0:=3 b0.g;have a2:=ED b0.g a2;have a1:=10 b0.g;have a5:=a5.mono b0
      try dsimp only[aF]
      exact f7 s8 g7 _ l2 ⟨`a,E0,a5⟩ hq
     ·intro l3 l4 p4 e8 iv hq;obtain⟨rfl,E0,l5⟩:=iv;have a3:=a3.trans e8;have a0:=3 e8;have a2:=ED e8 a2;have a1:=10 e8
      try dsimp only
      refine bS (W:=l4) l3 a3 ?_ hq;exact⟨_,_,_,_,_,_,_,_,`a,E0,l5⟩
  ·intro p5 l8 p6 p7 iv hq;obtain⟨d7,d8,d9,e0,d0,d1,d2,f0,rfl,E0,a4⟩:=iv;exact⟨.ref p3,`a,hq p3 l8 E0 fr6 a4⟩
theorem Ex{f:Addr}{fd:Fi}(F:Fun K "_law_reach" "_law_reach" (tp 59) f fd){oa:Cd->Pl->Int->Int->Ii->11 Ii}(f5:Cal P w K mg base "_law_next" [`V,"_law_mark","_law_loose","_law_bound","_law_state"] (3) (fw `n (qB K) isI isI `s (ro `s) oa))(f6:mg "len"=`c)(f7:mg "list"=`c)(f8:mg "sorted"=`c):FnOk P w K mg base CX0 (4) f fd [`V,"_law_strip","_law_loose","_law_bound"] (fH `n (qD K) isI isI (ro<|qE K)<|Dj oa):=by
 have SC:31 [`V,"_law_strip","_law_loose","_law_bound","_law_out","_law_mark","_law_known","_law_state","_law_after"] [`V,"_law_strip","_law_loose","_law_bound"] (tp 59):=by walk_at "F"
 refine 33 SC ?_ ?_;·obtain⟨_,_,_,_,_,_,_,_,_,_,rfl,_⟩:=h;rfl
 ·obtain⟨W0,e9,h8,b1,b2,b7,b8,_,_,rfl,rfl,a0,d6,f9,g0,Er,hq⟩:=h;cases f9;cases g0;refine 9 (ae (cg 4<|bJ<|15<|bJ<|15<|cn<|a8 aa<|15 aa)<|ae (bV Fj `a (bQ (K:=K) `a<|pv 1) (eI 5)<|ae (cg 6 wa)<|ae (bV Fj `a (bQ (K:=K) `a<|18 (35 `a) 4 (hX fR aa) `j) (eI 7)<|ag<|bV Fj `a (bQ (K:=K) `a<|cO f5<|2 0<|2 5<|2 2<|2 3<|2 7 af) (eI 8)<|ag<|wb (fD hr) (pv 6) (pv 8) dD `a)<|ae (dN<|d5 (K:=K) `a (pv 4)<|15<|24 (qH (K:=K) `a) f8 Jc<|15<|dn (qG `a) `z f7 GR<|2 6 af)<|ag<|aT (20 bz (24 tV f6 Ff<|2 6 af) aa _) (19<|pv 4) aD)<|19<|pv 4) ?_
  have E0:12 W0:=`N;unfold Dj at hq;refine bg (gd (Er:=Er) (dY<|aN (Hm<|dY<|aN (fk (K:=K) ah ah)<|dX (R:=`s))<|dX (R:=qE K)) λp3 W1 e2 hp4 o5=>?_)
  have fr6:=none_of E0.h hp4;have E0:=E0.trans e2;have a0:=3 e2.g;have d6:=ED e2.g d6;refine fM (Er:=Er) (f:=AN oa e9 b1 b2) (s0:=[[((0:Int),(0:Int))]]) (Iv:=λ(s9:(List<|List Ii))(f0:Wd)(g1:St)=>∃(c9:Option V)(d0:Option V)(d1:Option V)(d7:Option V),g1=[some b7,some b8,6 b1,6 b2,27 p3,d7,c9,d0,d1]/\12 f0/\Ow (qE K) f0 p3 s9) (cv<|aI d6) (EE hq) ?_ ?_ ?_
  ·intro h9 d8;have E0:=E0.trans d8;have a0:=3 d8.g;have o5:=o5.mono d8;exact⟨_,_,_,_,`a,E0,o5⟩
  ·intro i0 i1 i2 a7 c2 s8 i3 i4 g2 a1 iv d2 a2 hrt27 hq;obtain⟨c9,d0,d1,d7,rfl,E0,a5⟩:=iv;have a0:=3 g2;have E0:=E0.trans d2;have a1:=a1.trans d2.g;have a0:=3 d2.g;have a5:=a5.mono d2;refine gn (σ':=[some b7,some b8,6 b1,6 b2,27 p3,some c2,c9,d0,d1]) ?_;unfold AN at hq;refine bg (yy (Er:=Er) (wc (prog:=P) (w:=w) (K:=K) (R:=isB)) λb9 i5 c3 f1 d9=>?_)
   have f2:=a5.ne f1;have g3:=none_of E0.h f1;have E0:=E0.trans c3;have a1:=a1.trans c3.g;have a0:=3 c3.g;have a5:=a5.mono c3;have a2:=ED c3.g a2;refine cz (Er:=Er) (f:=Cc oa e9 b1 b2 a7) (s0:=([]:7 Ii Bool)) (Iv:=λ(g4:(List<|Ii×Bool))(e0:Wd)(g5:St)=>∃(d3:Option V)(e1:Option V),g5=[some b7,some b8,6 b1,6 b2,27 p3,some c2,27 b9,e1,d3]/\12 e0/\OwP P w K isB e0 b9 g4/\Ow (qE K) e0 p3 s8) (cv<|bw (gL a5)<|gM ah) (EE hq) ?_ ?_ ?_
   ·intro i6 c0;have E0:=E0.trans c0;have a1:=a1.trans c0.g;have a0:=3 c0.g;have a5:=a5.mono c0;have a2:=ED c0.g a2;have d9:=d9.mono c0;exact⟨_,_,`a,E0,d9,a5⟩
   ·intro i7 i8 i9 j0 e3 g6 j1 j2 e4 a3 iv b4 a6 hq;obtain⟨d3,e1,rfl,E0,a4,b5⟩:=iv;have a1:=a1.trans e4;have a0:=3 e4;have a2:=ED e4 a2;have E0:=E0.trans b4;have a1:=a1.trans b4.g;have a3:=a3.trans b4.g;have a0:=3 b4.g;have b5:=b5.mono b4;have a2:=ED b4.g a2;have a4:=a4.mono b4;refine gn (σ':=[some b7,some b8,6 b1,6 b2,27 p3,some c2,27 b9,some e3,d3]) ?_;unfold Cc at hq;refine nJ (Er:=Er) (f:=AM) (s0:=g6) (Iv:=λ(g7:(List<|Ii×Bool))(e5:Wd)(g8:St)=>∃(e6:Option V),g8=[some b7,some b8,6 b1,6 b2,27 p3,some c2,27 b9,some e3,e6]/\12 e5/\OwP P w K isB e5 b9 g7/\Ow (qE K) e5 p3 s8) (cv<|Hm<|fL `v (aI a2) aP aP<|aI a6) (EE hq) ?_ ?_ ?_
    ·intro j3 b3;have E0:=E0.trans b3;have a1:=a1.trans b3.g;have a3:=a3.trans b3.g;have a0:=3 b3.g;have b5:=b5.mono b3;have a2:=ED b3.g a2;have a4:=a4.mono b3;have a6:=ED b3.g a6;exact⟨_,`a,E0,a4,b5⟩
    ·intro j4 j5 j6 j7 g9 j8 j9 k0 c4 c5 iv a9 e7 hq;obtain⟨e6,rfl,E0,c6,b6⟩:=iv;have a1:=a1.trans c4;have a3:=a3.trans c4;have a0:=3 c4;have a2:=ED c4 a2;have a6:=ED c4 a6;have E0:=E0.trans a9;have a1:=a1.trans a9.g;have a3:=a3.trans a9.g;have c5:=c5.trans a9.g;have a0:=3 a9.g;have b6:=b6.mono a9;have a2:=ED a9.g a2;have c6:=c6.mono a9;have a6:=ED a9.g a6;refine gn (σ':=[some b7,some b8,6 b1,6 b2,27 p3,some c2,27 b9,some e3,some g9]) ?_;unfold AM at hq;refine wd (Er:=Er) c6 fv (aI e7) (5 hq λh0 hq h1 b0 h2=>?_);have E0:=b0.e _ E0 g3;have a1:=a1.trans b0.g;have a3:=a3.trans b0.g;have c5:=c5.trans b0.g;have a0:=3 b0.g;have b6:=b0.ow f2 b6;have a2:=ED b0.g a2;have a6:=ED b0.g a6;have e7:=ED b0.g e7
     try dsimp only
     refine bS (W:=h1) h0 c5 ?_ hq;exact⟨_,`a,E0,h2,b6⟩
    ·intro h3 h4 k1 c7 iv hq;obtain⟨e6,rfl,E0,c6,b6⟩:=iv;have a1:=a1.trans c7;have a3:=a3.trans c7;have a0:=3 c7;have a2:=ED c7 a2;have a6:=ED c7 a6
     try dsimp only
     refine bS (W:=h4) h3 a3 ?_ hq;exact⟨_,_,`a,E0,c6,b6⟩
   ·intro h5 k2 k3 e8 iv hq;obtain⟨d3,e1,rfl,E0,a4,b5⟩:=iv;have a1:=a1.trans e8;have a0:=3 e8;have a2:=ED e8 a2;refine bg (ij (Er:=Er) b5 (Hm<|wg<|IB<|we a4)<|5 hq λh6 hq k4 c8 d4=>?_)
    have E0:=c8.e _ E0 fr6;have a1:=a1.trans c8.g;have a0:=3 c8.g;have a2:=ED c8.g a2;have a4:=c8.owP (Hx f2) a4;refine p6 (Er:=Er) (aq<|bD (yz a4) ah) λf3 c1=>?_;have E0:=E0.trans c1;have a1:=a1.trans c1.g;have a0:=3 c1.g;have a2:=ED c1.g a2;have a4:=a4.mono c1;have d4:=d4.mono c1;by_cases f4:1 (decide<|(h5.length:Int)=(0:Int))
    ·rw[Z0 f4]at hq ⊢;exact⟨.ref p3,`a,(hrt27 _ hq) p3 f3 E0 fr6 d4⟩
    ·rw[Z1 f4]at hq ⊢
     try dsimp only[aF]
     try dsimp only
     refine bS (W:=f3) h6 a1 ?_ hq;exact⟨_,_,_,_,`a,E0,d4⟩
  ·intro k5 h7 k6 k7 iv hq;obtain⟨c9,d0,d1,d7,rfl,E0,a5⟩:=iv;exact⟨.ref p3,`a,hq p3 h7 E0 fr6 a5⟩
theorem Ey{f:Addr}{fd:Fi}(F:Fun K "_law_bent" "_law_bent" (tp 60) f fd){ju:Int->Int->Int->11 Int}(i0:Cal P w K mg base "_law_row" ["_law_cell","_law_many","_law_base"] (1) (ef isI isI isI (ro isI) ju))(a4:mg "len"=`c)(i1:mg "list"=`c)(i2:mg "max"=`c):FnOk P w K mg base CX0 (2) f fd ["_law_lists","_law_cell"] (bI (isL<|qE K) isI (zG<|oL<|oL<|fz `s)<|Dk ju):=by
 have SC:31 ["_law_lists","_law_cell","_law_out","_law_draws","_law_at_here","_law_state"] ["_law_lists","_law_cell"] (tp 60):=by walk_at "F"
 refine 33 SC ?_ ?_;·obtain⟨_,_,_,_,_,_,rfl,_⟩:=h;rfl
 ·obtain⟨W0,o0,b3,b4,_,rfl,rfl,i3,i4,Er,hq⟩:=h;cases i4
  refine 9 (ae (j7 (i:=2) SC.nd `a (by walk_at "L") (N:=["_law_states"]) (cap:=[none]) (i8 `a ⋯ `a ⋯ `z `z) `a (bQ (K:=K) `a<|pv 0) (λ_ _ _ _=>(bG (i:=0) (show Gd (["_law_states"]:`I) by decide +kernel) `a (by walk_at "L"))) (λ_ _ _ _=>cG) λ_ _ _ _=>dn (fj (K:=K) `a) `z i1 GR<|2 0 af)<|ae (cg 3<|cO i0<|a8 (16 aV 1 aa)<|a8 aa<|15 aa)<|ae (cg 4<|ai ay (18 (35 `a) 3 aa `j)<|24 (iA `a) i2 IK<|a8 aa<|15<|24 (aM (K:=K) `a) a4 Ff<|2 2 af)<|ae (cg 5<|cn<|a8 (ai dW (ai ay (18 (35 `a) 3 aa `j) aa) aa)<|15<|ai dW (ai ay (ai aV (18 (35 `a) 3 aa `j) aa) aa) aa)<|ae (aT (20 bz (ai ay (18 (35 `a) 3 aa `j) aa) aa _) (ag<|cg 5<|cn<|a8 (az (35 `a) (bJ<|a8 (ai ni aa aa)<|a8 (ai dW aa aa)<|a8 aa<|a8 aa<|15<|ai dW aa<|ai ni aa aa) (ai ay (18 (35 `a) 3 aa `j) aa) `j)<|15<|az (35 `a) (bJ<|a8 (ai dW aa aa)<|a8 aa<|a8 (ai ni aa aa)<|15 aa) (ai ay (ai aV (18 (35 `a) 3 aa `j) aa) aa) `j) aD)<|ae (aT (IT<|cF (20 bz (16 ay 1 aa) aa _)<|cF (20 gU (24 (aM (K:=K) `a) a4 Ff<|2 2 af) aa _)<|cA<|20 gU (24 (aM (K:=K) `a) a4 Ff<|15<|18 (35 `a) 2 (pv 4) `j) aa _) (ag<|dN<|j8 (K:=K) `a HB K9 LK oO (18 (35 `a) 2 (pv 4) `j)<|15<|ai ay (18 (35 `a) 3 aa `j)<|24 (aM (K:=K) `a) a4 Ff<|15<|18 (35 `a) 2 (pv 4) `j) aD)<|ae (aT (IT<|cF (20 bz (16 ay 1 aa) aa _)<|cA<|20 gU (24 (aM (K:=K) `a) a4 Ff<|2 2 af) aa _) (ag<|dN<|j8 (K:=K) `a HB JA L3 mV (18 (35 `a) 2 (pv 4) `j)<|a8 (ai ay (18 (35 `a) 3 aa `j)<|ai aZ (24 (aM (K:=K) `a) a4 Ff<|15<|18 (35 `a) 2 (pv 4) `j) aa)<|2 5 af) aD)<|ae (aT (IT<|cF (20 bz (16 ay 1 aa) aa _)<|cA<|20 gU (24 (aM (K:=K) `a) a4 Ff<|2 2 af) aa _) (ag<|dN<|j8 (K:=K) `a HB K9 LK oO (pv 2)<|2 4 af) aD)<|ae (aT (20 bz (16 ay 1 aa) aa _) (ag<|dN<|j8 (K:=K) `a HB JA L3 mV (pv 2)<|a8 (ai ay (18 (35 `a) 3 aa `j)<|ai aZ (24 (aM (K:=K) `a) a4 Ff<|2 2 af) aa)<|15<|bJ af) aD)<|ae (aT (20 bz (16 ay 1 aa) aa _) (ag<|j7 (i:=2) SC.nd `a (by walk_at "L") (N:=["_law_states"]) (cap:=[none]) (i8 `a ⋯ `a ⋯ `z `z) `a (bQ (K:=K) `a<|pv 2) (λ_ _ _ _=>(bG (i:=0) (show Gd (["_law_states"]:`I) by decide +kernel) `a (by walk_at "L"))) (λ_ _ _ _=>cG) λ_ _ _ _=>ai ql (jW (K:=K) `a (λa b=>[.ref a,.ref b]) `j (pv 0)<|bA<|hX fR aa)<|bC (oW (K:=K) `a) (pv 0) cj<|bA aa) aD)<|ae (aT (IT<|cF (20 bz (16 ay 1 aa) aa _)<|cF (20 gU (24 (aM (K:=K) `a) a4 Ff<|2 2 af) aa _)<|cA<|20 gU (24 (aM (K:=K) `a) a4 Ff<|15<|18 (35 `a) 2 (pv 4) `j) aa _) (ag<|eQ (pv 5)<|qf (18 (35 `a) 2 (pv 4) `j) (ai ay (18 (35 `a) 3 aa `j)<|24 (aM (K:=K) `a) a4 Ff<|15<|18 (35 `a) 2 (pv 4) `j) kR) aD)<|19<|pv 2) ?_
  have E0:12 W0:=`N;rw[show L2.start ["_law_lists","_law_cell","_law_out","_law_draws","_law_at_here","_law_state"] [b4,.int b3]=[some b4,6 b3,none,none,none,none]from rfl];unfold Dk at hq;have S:Sep W0 W0 []:=PF;refine bg (nQ (Er:=Er) S E0 (pA (cv<|aI i3) λW3 a1 v2 e4 h5 Q8 k9=>by
   refine gn ?_;exact⟨by simp[Keep,bH],((PV<|ji<|Gr<|aI h5):EVt Er _ [some v2] _ _ _) _ `q _ k9⟩)<|5 hq λc3 hq a3 i5 i6 S=>?_)
  have E0:=E0.trans i6;have S:Sep W0 i5 [tc (oL<|oL<|fz `s) c3 a3]:=S;refine bg (17 (Hm<|gv (ak (λ_=>`R) aP) ah ah)<|5 hq λo1 hq b7 o2 e6 a0=>?_)
  have S:=S.ext e6;have E0:=E0.trans e6;refine bg (17 (fE (bw (Gr `v) ah)<|kE ah<|iK<|eE (R:=oL (oL<|fz `s)) (k:=0) S)<|5 hq λb8 hq o3 o4 c4 i7=>?_)
  cases i7;have S:=S.ext c4;have E0:=E0.trans c4;have a0:=3 c4.g;refine bg (17 (fk (K:=K) (aK (ak `B<|bw (Gr `v) ah) ah)<|aK (ak `B<|ak (λ_=>`R)<|bw (Gr `v) ah) ah)<|5 hq λi9 hq o5 o6 c5 b9=>?_)
  have S:=S.ext c5;have E0:=E0.trans c5;have a0:=3 c5.g;refine br (Er:=Er) (Iv:=λ(j0:Ii)(c6:Wd)(j1:St)=>∃(b5:V),j1=[some b4,6 b3,some a3,some b7,6 b8,some b5]/\12 c6/\`s c6.G j0 b5/\Sep W0 c6 [tc (oL<|oL<|fz `s) c3 a3]) (aq<|bD (ak `B<|bw (Gr `v) ah) ah) (EE hq) ?_ ?_ ?_
  ·intro e7 j2 a5 c7 hq;have c8:=a5.g;have S:=S.ext a5;have E0:=E0.trans a5;have a0:=3 a5.g;have b9:=ED a5.g b9;refine 17 (fk (K:=K) (bw (IB<|dY<|aN (kD (r:=100000000000000000000) ⋯ ⋯)<|aN (aK ah ah)<|aN ah<|aN ah<|aN (aK ah<|kD (r:=100000000000000000000) ⋯ ⋯)<|dX (R:=isI))<|ak `B<|bw (Gr `v) ah)<|bw (IB<|dY<|aN (aK ah ah)<|aN ah<|aN (kD (r:=100000000000000000000) ⋯ ⋯)<|aN ah<|dX (R:=isI))<|ak `B<|ak (λ_=>`R)<|bw (Gr `v) ah) (5 hq λj3 hq o7 j4 c1 j5=>?_);have S:=S.ext c1;have E0:=E0.trans c1;have c8:=c8.trans c1.g;have a0:=3 c1.g;exact c7 j3 j4 _ c8 ⟨_,`a,E0,j5,S⟩ hq
  ·intro e7 j2 a5 c7 hq;have j6:=a5.g;have S:=S.ext a5;have E0:=E0.trans a5;have a0:=3 a5.g;have b9:=ED a5.g b9
   try dsimp only[aF]
   exact c7 i9 e7 _ j6 ⟨_,`a,E0,b9,S⟩ hq
  ·intro o8 o9 p0 j9 iv hq;obtain⟨b5,rfl,E0,a2,S⟩:=iv;have a0:=3 j9;refine br (Er:=Er) (Iv:=λ(k0:(List<|List Ii))(e8:Wd)(k1:St)=>k1=[some b4,6 b3,some a3,some b7,6 b8,some b5]/\12 e8/\Sep W0 e8 [tc (oL<|oL<|fz `s) k0 a3]) (cQ (aq<|bD (ak `B aP) ah)<|cQ (aq<|bW (iK<|eE (R:=oL (oL<|fz `s)) (k:=0) S) ah)<|aq<|bW (cC<|iJ<|iI (eE (R:=oL (oL<|fz `s)) (k:=0) S) aP) ah) (EE hq) ?_ ?_ ?_
   ·intro e9 k2 a6 c9 hq;have d0:=a6.g;have S:=S.ext a6;have E0:=E0.trans a6;have a0:=3 a6.g;have a2:=ED a6.g a2;refine mW (Er:=Er) (K:=K) E0 (vB (ll (R:=oL (oL<|fz `s)) (C:=λbb=>[tc (oL<|oL<|fz `s) bb a3]) (k:=0) S E0) aP) (fE (bw (Gr `v) ah)<|cC<|iJ<|iI (eE (R:=oL (oL<|fz `s)) (k:=0) S) aP) (5 hq λf0 hq f1 d1 E0 S=>?_);have S:Sep W0 f1 [tc (oL<|oL<|fz `s) f0 a3]:=S;have d0:=d0.trans d1;have a0:=3 d1;have a2:=ED d1 a2;exact c9 f0 f1 _ d0 ⟨`a,E0,S⟩ hq
   ·intro e9 k2 a6 c9 hq;have k3:=a6.g;have S:=S.ext a6;have E0:=E0.trans a6;have a0:=3 a6.g;have a2:=ED a6.g a2
    try dsimp only[aF]
    exact c9 c3 e9 _ k3 ⟨`a,E0,S⟩ hq
   ·intro k4 p1 p2 f2 iv hq;obtain⟨rfl,E0,S⟩:=iv;have a0:=3 f2;have a2:=ED f2 a2;refine br (Er:=Er) (Iv:=λ(k5:(List<|List Ii))(f3:Wd)(k6:St)=>k6=[some b4,6 b3,some a3,some b7,6 b8,some b5]/\12 f3/\Sep W0 f3 [tc (oL<|oL<|fz `s) k5 a3]) (cQ (aq<|bD (ak `B aP) ah)<|aq<|bW (iK<|eE (R:=oL (oL<|fz `s)) (k:=0) S) ah) (EE hq) ?_ ?_ ?_
    ·intro f4 k7 a7 d2 hq;have d3:=a7.g;have S:=S.ext a7;have E0:=E0.trans a7;have a0:=3 a7.g;have a2:=ED a7.g a2;refine sm (Er:=Er) (K:=K) E0 (vB (ll (R:=oL (oL<|fz `s)) (C:=λbb=>[tc (oL<|oL<|fz `s) bb a3]) (k:=0) S E0) aP) (fE (bw (Gr `v) ah)<|aK (cC<|iJ<|iI (eE (R:=oL (oL<|fz `s)) (k:=0) S) aP) ah) (EV.tr<|aI a2) (5 hq λf5 hq f6 d4 E0 S=>?_);have S:Sep W0 f6 [tc (oL<|oL<|fz `s) f5 a3]:=S;have d3:=d3.trans d4;have a0:=3 d4;have a2:=ED d4 a2;exact d2 f5 f6 _ d3 ⟨`a,E0,S⟩ hq
    ·intro f4 k7 a7 d2 hq;have k8:=a7.g;have S:=S.ext a7;have E0:=E0.trans a7;have a0:=3 a7.g;have a2:=ED a7.g a2
     try dsimp only[aF]
     exact d2 k4 f4 _ k8 ⟨`a,E0,S⟩ hq
    ·intro l0 p3 p4 f7 iv hq;obtain⟨rfl,E0,S⟩:=iv;have a0:=3 f7;have a2:=ED f7 a2;refine br (Er:=Er) (Iv:=λ(l1:(List<|List Ii))(f8:Wd)(l2:St)=>l2=[some b4,6 b3,some a3,some b7,6 b8,some b5]/\12 f8/\Sep W0 f8 [tc (oL<|oL<|fz `s) l1 a3]) (cQ (aq<|bD (ak `B aP) ah)<|aq<|bW (iK<|eE (R:=oL (oL<|fz `s)) (k:=0) S) ah) (EE hq) ?_ ?_ ?_
     ·intro f9 l3 a9 d5 hq;have d6:=a9.g;have S:=S.ext a9;have E0:=E0.trans a9;have a0:=3 a9.g;have a2:=ED a9.g a2;refine mW (Er:=Er) (K:=K) E0 (ll (R:=oL (oL<|fz `s)) (C:=λbb=>[tc (oL<|oL<|fz `s) bb a3]) (k:=0) S E0) aP (5 hq λg0 hq g1 d7 E0 S=>?_);have S:Sep W0 g1 [tc (oL<|oL<|fz `s) g0 a3]:=S;have d6:=d6.trans d7;have a0:=3 d7;have a2:=ED d7 a2;exact d5 g0 g1 _ d6 ⟨`a,E0,S⟩ hq
     ·intro f9 l3 a9 d5 hq;have l4:=a9.g;have S:=S.ext a9;have E0:=E0.trans a9;have a0:=3 a9.g;have a2:=ED a9.g a2
      try dsimp only[aF]
      exact d5 l0 f9 _ l4 ⟨`a,E0,S⟩ hq
     ·intro l5 p5 p6 g2 iv hq;obtain⟨rfl,E0,S⟩:=iv;have a0:=3 g2;have a2:=ED g2 a2;refine br (Er:=Er) (Iv:=λ(l6:(List<|List Ii))(g3:Wd)(l7:St)=>l7=[some b4,6 b3,some a3,some b7,6 b8,some b5]/\12 g3/\Sep W0 g3 [tc (oL<|oL<|fz `s) l6 a3]) (aq<|bD (ak `B aP) ah) (EE hq) ?_ ?_ ?_
      ·intro g4 l8 b0 d8 hq;have d9:=b0.g;have S:=S.ext b0;have E0:=E0.trans b0;have a0:=3 b0.g;have a2:=ED b0.g a2;refine sm (Er:=Er) (K:=K) E0 (ll (R:=oL (oL<|fz `s)) (C:=λbb=>[tc (oL<|oL<|fz `s) bb a3]) (k:=0) S E0) (fE (bw (Gr `v) ah)<|aK (iK<|eE (R:=oL (oL<|fz `s)) (k:=0) S) ah) (pq (R:=fz `s)) (5 hq λg5 hq g6 e0 E0 S=>?_);have S:Sep W0 g6 [tc (oL<|oL<|fz `s) g5 a3]:=S;have d9:=d9.trans e0;have a0:=3 e0;have a2:=ED e0 a2;exact d8 g5 g6 _ d9 ⟨`a,E0,S⟩ hq
      ·intro g4 l8 b0 d8 hq;have l9:=b0.g;have S:=S.ext b0;have E0:=E0.trans b0;have a0:=3 b0.g;have a2:=ED b0.g a2
       try dsimp only[aF]
       exact d8 l5 g4 _ l9 ⟨`a,E0,S⟩ hq
      ·intro m0 p7 p8 g7 iv hq;obtain⟨rfl,E0,S⟩:=iv;have a0:=3 g7;have a2:=ED g7 a2;refine br (Er:=Er) (Iv:=λ(m1:(List<|List Ii))(g8:Wd)(m2:St)=>∃(b6:V),m2=[some b4,6 b3,some b6,some b7,6 b8,some b5]/\12 g8/\Sep W0 g8 [tc (oL<|oL<|fz `s) m1 b6]) (aq<|bD (ak `B aP) ah) (EE hq) ?_ ?_ ?_
       ·intro g9 m3 b1 e1 hq;have c0:=b1.g;have S:=S.ext b1;have E0:=E0.trans b1;have a0:=3 b1.g;have a2:=ED b1.g a2;obtain⟨h0,m4,E0,e2,S,m5⟩:=S.frz (R:=oL (oL<|fz `s)) (i:=0) E0 `a;have S:Sep W0 h0 []:=S;rw[<-m4];have c0:=c0.trans e2;have a0:=3 e2;have a2:=ED e2 a2;have S:Sep W0 h0 []:=PF;refine nQ (Er:=Er) S E0 (pA (cv<|aI m5) λp9 q0 m6 q1 h1 q2 m7=>by
         refine gn ?_;exact⟨by simp[Keep,bH],((PV<|nH (IB<|rO<|Gr<|aI h1)<|IB<|rJ (Gr<|aI h1) eM<|cU ah):EVt Er _ [some m6] _ _ _) _ `q _ m7⟩) (5 hq λh2 hq m8 h3 c2 S=>?_)
        have E0:=E0.trans c2;have c0:=c0.trans c2.g;have a0:=3 c2.g;have a2:=ED c2.g a2;have S:Sep W0 h3 [tc (oL<|oL<|fz `s) h2 m8]:=S;exact e1 h2 h3 _ c0 ⟨_,`a,E0,S⟩ hq
       ·intro g9 m3 b1 e1 hq;have m9:=b1.g;have S:=S.ext b1;have E0:=E0.trans b1;have a0:=3 b1.g;have a2:=ED b1.g a2
        try dsimp only[aF]
        exact e1 m0 g9 _ m9 ⟨_,`a,E0,S⟩ hq
       ·intro n0 q3 q4 h4 iv hq;obtain⟨b6,rfl,E0,S⟩:=iv;have a0:=3 h4;have a2:=ED h4 a2;refine br (Er:=Er) (Iv:=λ(n1:(List<|List Ii))(h6:Wd)(n2:St)=>n2=[some b4,6 b3,some b6,some b7,6 b8,some b5]/\12 h6/\Sep W0 h6 [tc (oL<|oL<|fz `s) n1 b6]) (cQ (aq<|bD (ak `B aP) ah)<|cQ (aq<|bW (iK<|eE (R:=oL (oL<|fz `s)) (k:=0) S) ah)<|aq<|bW (cC<|iJ<|iI (eE (R:=oL (oL<|fz `s)) (k:=0) S) aP) ah) (EE hq) ?_ ?_ ?_
        ·intro h7 n3 b2 e3 hq;have e5:=b2.g;have S:=S.ext b2;have E0:=E0.trans b2;have a0:=3 b2.g;have a2:=ED b2.g a2;refine ye (Er:=Er) E0 (aI a2) (vB (ll (R:=oL (oL<|fz `s)) (C:=λbb=>[tc (oL<|oL<|fz `s) bb b6]) (k:=0) S E0) aP) (fE (bw (Gr `v) ah)<|cC<|iJ<|iI (eE (R:=oL (oL<|fz `s)) (k:=0) S) aP) (5 hq λh8 hq h9 n4 E0 S=>?_);have S:Sep W0 h9 [tc (oL<|oL<|fz `s) h8 b6]:=S;have e5:=e5.trans n4;exact e3 h8 h9 _ e5 ⟨`a,E0,S⟩ hq
        ·intro h7 n3 b2 e3 hq;have n5:=b2.g;have S:=S.ext b2;have E0:=E0.trans b2;have a0:=3 b2.g;have a2:=ED b2.g a2
         try dsimp only[aF]
         exact e3 n0 h7 _ n5 ⟨`a,E0,S⟩ hq
        ·intro q5 n6 q6 q7 iv hq;obtain⟨rfl,E0,S⟩:=iv;exact nR (k:=0) S `a λn7 n8 n9=>hq b6 n6 n7 E0 n8 n9
theorem Ez{f:Addr}{fd:Fi}(F:Fun K "_law_sign" "_law_sign" (tp 62) f fd):FnOk P w K mg base CX0 (1) f fd ["_law_cell"] (eH isI (rs isS) Dl):=by
 have SC:31 ["_law_cell","_law_some"] ["_law_cell"] (tp 62):=by walk_at "F"
 refine 33 SC ?_ ?_;·obtain⟨_,_,_,_,rfl,_⟩:=h;rfl
 ·obtain⟨W0,a5,_,rfl,rfl,a0,Er,hq⟩:=h;cases a0;refine 9 (ae (cg 1 aX)<|ae (cg 1<|16 aO 1 aX)<|19<|18 cq 1 (16 ay 0 aa) `j) ?_
  have E0:12 W0:=`N;unfold Dl at hq;refine bg (au (Er := Er) (aY (x := EO " !\"#$&'()*+,-./0123456789:;<=>?@ABCDEFGHIJKLMNOPQRSTUVWXYZ[\\]^_`") (l := [32, 33, 34, 35, 36, 38, 39, 40, 41, 42, 43, 44, 45, 46, 47, 48, 49, 50, 51, 52, 53, 54, 55, 56, 57, 58, 59, 60, 61, 62, 63, 64, 65, 66, 67, 68, 69, 70, 71, 72, 73, 74, 75, 76, 77, 78, 79, 80, 81, 82, 83, 84, 85, 86, 87, 88, 89, 90, 91, 92, 93, 94, 95, 96])<|fG _ _ ⋯) (λv3 W1 e2 h4 => ?_))
  cases h4;have E0:=E0.trans e2;refine bg (17 (bB (ia (R:=sh isS) (a:=([32,33,34,35,36,38,39,40,41,42,43,44,45,46,47,48,49,50,51,52,53,54,55,56,57,58,59,60,61,62,63,64,65,66,67,68,69,70,71,72,73,74,75,76,77,78,79,80,81,82,83,84,85,86,87,88,89,90,91,92,93,94,95,96]:Tx)) (v:=.str (aU ([32,33,34,35,36,38,39,40,41,42,43,44,45,46,47,48,49,50,51,52,53,54,55,56,57,58,59,60,61,62,63,64,65,66,67,68,69,70,71,72,73,74,75,76,77,78,79,80,81,82,83,84,85,86,87,88,89,90,91,92,93,94,95,96]:Tx))) `a)<|aY (x:=EO "abcdefghijklmnopqrstuvwxyz{|}~\n") (l:=[97,98,99,100,101,102,103,104,105,106,107,108,109,110,111,112,113,114,115,116,117,118,119,120,121,122,123,124,125,126,10])<|fG _ _ ⋯)<|5 hq λy7 hq v8 W5 e6 h9=>?_)
  cases h9;have E0:=E0.trans e6;exact 25 (cu bY<|ak `B aP) (Fn hq λa6 hq a1 a2 a3 a4=>28 a1 a2 a3 a4)
theorem EA{f:Addr}{fd:Fi}(F:Fun K "_law_spoil" "_law_spoil" (tp 63) f fd){yZ:Int->`J}(a2:Cal P w K mg base "_law_sign" ["_law_cell"] (1) (eH isI (rs isS) yZ))(a3:mg "len"=`c):FnOk P w K mg base CX0 (2) f fd ["_law_text","_law_cell"] (bI isS isI (rs isS)<|Dm yZ):=by
 have SC:31 ["_law_text","_law_cell","_law_at_here","_law_sign_here","_law_twin"] ["_law_text","_law_cell"] (tp 63):=by walk_at "F"
 refine 33 SC ?_ ?_;·obtain⟨_,_,_,_,_,_,rfl,_⟩:=h;rfl
 ·obtain⟨W0,d4,a1,_,_,rfl,rfl,a4,a5,Er,hq⟩:=h;cases a4;cases a5
  refine 9 (ae (cg 2<|ai ay (16 aV 1 aa)<|ai aZ (24 (aM (K:=K) `a) a3 Ff<|2 0 af) aa)<|ae (cg 3<|cO a2<|15<|16 aV 1 aa)<|ae (aT (20 bz (16 ay 1 aa) aa _) (19<|ai aO (ai aO (bC cJ (pv 0) cj<|bA<|pv 2)<|pv 3)<|bC cJ (pv 0) (bA<|pv 2) cj) aD)<|ae (aT (20 bz (16 ay 1 aa) aa _) (19<|ai aO (bC cJ (pv 0) cj<|bA<|pv 2)<|bC cJ (pv 0) (bA<|16 aZ 2 aa) cj) aD)<|ae (aT (20 bz (16 ay 1 aa) aa _) (19<|ai aO (ai aO (bC cJ (pv 0) cj<|bA<|pv 2)<|pv 3)<|bC cJ (pv 0) (bA<|16 aZ 2 aa) cj) aD)<|ae (aT (20 bz (16 ay 1 aa) aa _) (19<|ai aO (ai aO (bC cJ (pv 0) cj<|bA<|pv 2)<|bC cJ (pv 0) (bA<|pv 2)<|bA<|16 aZ 2 aa)<|bC cJ (pv 0) (bA<|pv 2) cj) aD)<|ae (cg 4<|ai aO (bC cJ (pv 0) (bA<|16 aZ 2 aa)<|bA<|16 aZ 2 aa)<|bC cJ (pv 0) (bA<|pv 2)<|bA<|16 aZ 2 aa)<|19<|ai aO (ai aO (bC cJ (pv 0) cj<|bA<|pv 2)<|pv 4)<|bC cJ (pv 0) (bA<|16 aZ 2 aa) cj) ?_
  have E0:12 W0:=`N;unfold Dm at hq;refine bg (17 (fE (ak (λ_=>`R) aP)<|aK (iC bY) ah)<|5 hq λy5 hq v6 W1 e2 h7=>?_)
  cases h7;have E0:=E0.trans e2;refine bg (17 (dh<|ak (λ_=>`R) aP)<|5 hq λd5 hq d6 W8 e9 a6=>?_)
  cases a6;have E0:=E0.trans e9;refine cm (Er:=Er) (aq<|bD (ak `B aP) ah) λd7 a7=>?_;have E0:=E0.trans a7;by_cases a0:1 (decide<|(a1%5)=(0:Int))
  ·rw[Z0 a0]at hq ⊢;exact 25 (bB (bB (cb bY eM<|cU aP) bY)<|cb bY (cU aP) eM) (Fn hq λd8 hq a9 b0 b1 b2=>28 a9 b0 b1 b2)
  ·rw[Z1 a0]at hq ⊢
   try dsimp only[aF]
   refine cm (Er:=Er) (aq<|bD (ak `B aP) ah) λd9 b3=>?_;have E0:=E0.trans b3;by_cases a0:1 (decide<|(a1%5)=(1:Int))
   ·rw[Z0 a0]at hq ⊢;exact 25 (bB (cb bY eM<|cU aP)<|cb bY (cU<|aK aP ah) eM) (Fn hq λe0 hq b4 b5 b6 b7=>28 b4 b5 b6 b7)
   ·rw[Z1 a0]at hq ⊢
    try dsimp only[aF]
    refine cm (Er:=Er) (aq<|bD (ak `B aP) ah) λe1 b8=>?_;have E0:=E0.trans b8;by_cases a0:1 (decide<|(a1%5)=(2:Int))
    ·rw[Z0 a0]at hq ⊢;exact 25 (bB (bB (cb bY eM<|cU aP) bY)<|cb bY (cU<|aK aP ah) eM) (Fn hq λe3 hq b9 c0 c1 c2=>28 b9 c0 c1 c2)
    ·rw[Z1 a0]at hq ⊢
     try dsimp only[aF]
     refine cm (Er:=Er) (aq<|bD (ak `B aP) ah) λe4 c3=>?_;have E0:=E0.trans c3;by_cases a0:1 (decide<|(a1%5)=(3:Int))
     ·rw[Z0 a0]at hq ⊢;exact 25 (bB (bB (cb bY eM<|cU aP)<|cb bY (cU aP)<|cU<|aK aP ah)<|cb bY (cU aP) eM) (Fn hq λe5 hq c4 c5 c6 c7=>28 c4 c5 c6 c7)
     ·rw[Z1 a0]at hq ⊢
      try dsimp only[aF]
      refine bg (17 (bB (cb bY (cU<|aK aP ah)<|cU<|aK aP ah)<|cb bY (cU aP)<|cU<|aK aP ah)<|5 hq λe6 hq e7 e8 c8 c9=>?_)
      cases c9;have E0:=E0.trans c8;exact 25 (bB (bB (cb bY eM<|cU aP) bY)<|cb bY (cU<|aK aP ah) eM) (Fn hq λf0 hq d0 d1 d2 d3=>28 d0 d1 d2 d3)
theorem EB{f:Addr}{fd:Fi}(F:Fun K "_law_hurt" "_law_hurt" (tp 61) f fd)(b4:mg "len"=`c)(d7:mg "max"=`c):FnOk P w K mg base CX0 (1) f fd ["_law_strand_here","_law_cell"] (bI (isT2 K `n isS) isI (rs<|isT2 K `n isS) Dn):=by
 have SC:31 ["_law_strand_here","_law_cell",`V,"_law_turns_here","_law_at_here","_law_turn","_law_hole","_law_colour"] ["_law_strand_here","_law_cell"] (tp 61):=by walk_at "F"
 refine 33 SC ?_ ?_;·obtain⟨_,_,_,_,_,_,rfl,_⟩:=h;rfl
 ·obtain⟨W0,c7,a7,a9,_,rfl,rfl,d8,d9,Er,hq⟩:=h;cases d9;refine 9 (ae (eQ (pv 0)<|bN (K:=K) (n:=2) `a `a<|aA (eI 2)<|aA (eI 3) bM)<|ae (cg 4<|ai ay (16 aV 1 aa)<|24 (iA `a) d7 IK<|a8 aa<|15<|24 (aM (K:=K) `a) b4 Ff<|2 3 af)<|ae (cg 5<|az cq aX (ai ay (16 aV 1 aa) aa) `j)<|ae (aT (20 bz (16 ay 1 aa) aa _) (ag<|cg 3<|ai aO (ai aO (bC cJ (pv 3) cj<|bA<|pv 4)<|pv 5)<|bC cJ (pv 3) (bA<|16 aZ 4 aa) cj) aD)<|ae (aT (20 bz (16 ay 1 aa) aa _) (ae (cg 6<|ai ay (16 aV 1 aa) aa)<|ae (cg 7<|az cq aX (ai ay (16 aV 1 aa) aa) `j)<|ag<|cg 2<|cn<|a8 (18 (aR (K:=K) `a) 2 aa `j)<|a8 (ai aO (ai aO (bC cJ (18 (aR (K:=K) `a) 2 aa `j) cj<|bA<|pv 6)<|pv 7)<|bC cJ (18 (aR (K:=K) `a) 2 aa `j) (bA<|16 aZ 6 aa) cj)<|15<|18 (aR (K:=K) `a) 2 aa `j) aD)<|ae (aT (IT<|cF (20 bz (16 ay 1 aa) aa _)<|cF (20 bz (ai ay (16 aV 1 aa) aa) aa _)<|cA<|20 mq (24 (aM (K:=K) `a) b4 Ff<|2 3 af) aa _) (ag<|cg 3<|16 aO 3<|pv 5) aD)<|ae (aT (IT<|cF (20 bz (16 ay 1 aa) aa _)<|cA<|20 bz (ai ay (16 aV 1 aa) aa) aa _) (ag<|cg 3<|bC cJ (pv 3) cj<|bA<|ai ay (16 aV 1 aa)<|ai aZ (24 (aM (K:=K) `a) b4 Ff<|2 3 af) aa) aD)<|19<|cn<|2 2<|2 3 af) ?_
  have E0:12 W0:=`N;unfold Dn at hq;refine dM (Er:=Er) (aI d8) λv1 W2 e3 h4=>?_;have E0:=E0.trans e3;refine jc h4 λv5 v7 h6 h8=>?_;cases h8;refine bg (17 (fE (ak (λ_=>`R) aP)<|kE ah<|iC bY)<|5 hq λb0 hq i7 W9 c8 e0=>?_)
  cases e0;have E0:=E0.trans c8;have h6:=ED c8.g h6;refine bg (17 (cu (aY (x:=EO "fbi") (l:=[102,98,105])<|fG _ _ ⋯)<|ak `B<|ak (λ_=>`R) aP)<|5 hq λb1 hq i8 i9 c9 e1=>?_)
  cases e1;have E0:=E0.trans c9;have h6:=ED c9.g h6;refine br (Er:=Er) (Iv:=λ(e2:Tx)(e4:Wd)(e5:St)=>e5=[some a9,6 a7,some v5,22 e2,6 b0,22 b1,none,none]/\12 e4) (aq<|bD (ak `B aP) ah) (EE hq) ?_ ?_ ?_
  ·intro d0 e6 a1 b5 hq;have b6:=a1.g;have E0:=E0.trans a1;have h6:=ED a1.g h6;refine 17 (bB (bB (cb bY eM<|cU aP) bY)<|cb bY (cU<|aK aP ah) eM) (5 hq λe7 hq j0 e8 b7 e9=>?_);cases e9;have E0:=E0.trans b7;have b6:=b6.trans b7.g;have h6:=ED b7.g h6;exact b5 e7 e8 _ b6 ⟨`a,E0⟩ hq
  ·intro d0 e6 a1 b5 hq;have f0:=a1.g;have E0:=E0.trans a1;have h6:=ED a1.g h6
   try dsimp only[aF]
   exact b5 c7.2 d0 _ f0 ⟨`a,E0⟩ hq
  ·intro d1 j1 j2 f1 iv hq;obtain⟨rfl,E0⟩:=iv;have h6:=ED f1 h6;refine br (Er:=Er) (Iv:=λ(f2:Cd)(d2:Wd)(f3:St)=>∃(a6:V)(b2:Option V)(b3:Option V),f3=[some a9,6 a7,some a6,22 d1,6 b0,22 b1,b2,b3]/\12 d2/\`n d2.G f2 a6) (aq<|bD (ak `B aP) ah) (EE hq) ?_ ?_ ?_
   ·intro d3 f4 a2 b8 hq;have a3:=a2.g;have E0:=E0.trans a2;have h6:=ED a2.g h6;refine bg (17 (ak `B<|ak (λ_=>`R) aP) λj3 j4 b9 f5=>?_)
    cases f5;have E0:=E0.trans b9;have a3:=a3.trans b9.g;have h6:=ED b9.g h6;refine bg (17 (cu (aY (x:=EO "abcdefghijklmnopqrstuvwxyz") (l:=[97,98,99,100,101,102,103,104,105,106,107,108,109,110,111,112,113,114,115,116,117,118,119,120,121,122])<|fG _ _ ⋯)<|ak `B<|ak (λ_=>`R) aP)<|5 hq λj5 hq j6 j7 c0 f6=>?_)
    cases f6;have E0:=E0.trans c0;have a3:=a3.trans c0.g;have h6:=ED c0.g h6;refine 17 (cZ (K:=K) (bj (f:=λ(b:Cd)=>b.1) lY<|aI h6) (bB (bB (cb (bj (f:=λ(b:Cd)=>b.2.1) kA<|aI h6) eM<|cU aP) bY)<|cb (bj (f:=λ(b:Cd)=>b.2.1) kA<|aI h6) (cU<|aK aP ah) eM)<|bj (f:=λ(b:Cd)=>b.2.2) kB<|aI h6) (5 hq λf7 hq j8 f8 d4 f9=>?_);have E0:=E0.trans d4;have a3:=a3.trans d4.g;exact b8 f7 f8 _ a3 ⟨_,_,_,`a,E0,f9⟩ hq
   ·intro d3 f4 a2 b8 hq;have g0:=a2.g;have E0:=E0.trans a2;have h6:=ED a2.g h6
    try dsimp only[aF]
    exact b8 c7.1 d3 _ g0 ⟨_,_,_,`a,E0,h6⟩ hq
   ·intro j9 k0 k1 k2 iv hq;obtain⟨a6,b2,b3,rfl,E0,a0⟩:=iv;refine br (Er:=Er) (Iv:=λ(g1:Tx)(g2:Wd)(g3:St)=>g3=[some a9,6 a7,some a6,22 g1,6 b0,22 b1,b2,b3]/\12 g2) (cQ (aq<|bD (ak `B aP) ah)<|cQ (aq<|bD (ak `B<|ak (λ_=>`R) aP) ah)<|aq<|bW (iC bY) ah) (EE hq) ?_ ?_ ?_
    ·intro d5 g4 a4 c1 hq;have c2:=a4.g;have E0:=E0.trans a4;have a0:=3 a4.g;refine 17 (bB bY bY) (5 hq λg5 hq k3 g6 c3 g7=>?_);cases g7;have E0:=E0.trans c3;have c2:=c2.trans c3.g;have a0:=3 c3.g;exact c1 g5 g6 _ c2 ⟨`a,E0⟩ hq
    ·intro d5 g4 a4 c1 hq;have g8:=a4.g;have E0:=E0.trans a4;have a0:=3 a4.g
     try dsimp only[aF]
     exact c1 d1 d5 _ g8 ⟨`a,E0⟩ hq
    ·intro g9 k4 k5 h0 iv hq;obtain⟨rfl,E0⟩:=iv;have a0:=3 h0;refine br (Er:=Er) (Iv:=λ(h1:Tx)(h2:Wd)(h3:St)=>h3=[some a9,6 a7,some a6,22 h1,6 b0,22 b1,b2,b3]/\12 h2) (cQ (aq<|bD (ak `B aP) ah)<|aq<|bD (ak `B<|ak (λ_=>`R) aP) ah) (EE hq) ?_ ?_ ?_
     ·intro d6 h5 a5 c4 hq;have c5:=a5.g;have E0:=E0.trans a5;have a0:=3 a5.g;refine 17 (cb bY eM<|cU<|fE (ak (λ_=>`R) aP)<|aK (iC bY) ah) (5 hq λh7 hq k6 h9 c6 i0=>?_);cases i0;have E0:=E0.trans c6;have c5:=c5.trans c6.g;have a0:=3 c6.g;exact c4 h7 h9 _ c5 ⟨`a,E0⟩ hq
     ·intro d6 h5 a5 c4 hq;have i1:=a5.g;have E0:=E0.trans a5;have a0:=3 a5.g
      try dsimp only[aF]
      exact c4 g9 d6 _ i1 ⟨`a,E0⟩ hq
     ·intro k7 k8 k9 i2 iv hq;obtain⟨rfl,E0⟩:=iv;have a0:=3 i2;exact 25 (fk (K:=K) `v bY) λi3 i4 i5 i6=>28 i3 i4 i5 i6
theorem EC{f:Addr}{fd:Fi}(F:Fun K "_law_bend_triple" "_law_bend_triple" (tp 64) f fd){yY:List `t->Int->11 `t}{xE:Tx->Int->`J}{xF:Cd×Tx->Int->Res (Cd×Tx)}(g2:Cal P w K mg base "_law_bent" ["_law_lists","_law_cell"] (2) (bI (isL<|qE K) isI (zG<|oL<|oL<|fz `s) yY))(g3:Cal P w K mg base "_law_spoil" ["_law_text","_law_cell"] (2) (bI isS isI (rs isS) xE))(g4:Cal P w K mg base "_law_hurt" ["_law_strand_here","_law_cell"] (1) (bI (isT2 K `n isS) isI (rs<|isT2 K `n isS) xF))(g5:mg "max"=`c)(g6:mg "range"=`c):FnOk P w K mg base CX0 (3) f fd [`V,"_law_triple","_law_cell","_law_more"] (fH `n (isT3 K (isO isI) (isO isS)<|isL<|qE K) isI (isL<|qE K) (rs<|isT3 K (isO isI) (isO isS)<|isL<|qE K)<|Dp yY xE xF):=by
 have SC:31 [`V,"_law_triple","_law_cell","_law_more","_law_bound","_law_text","_law_lists","_law_more_text"] [`V,"_law_triple","_law_cell","_law_more"] (tp 64):=by walk_at "F"
 refine 33 SC ?_ ?_;·obtain⟨_,_,_,_,_,_,_,_,_,_,rfl,_⟩:=h;rfl
 ·obtain⟨W0,m2,d3,b2,g7,b3,b4,_,b5,rfl,rfl,a2,g8,g9,a0,Er,hq⟩:=h;cases g9;refine 9 (ae (eQ (pv 1)<|bN (K:=K) (n:=3) `a `a<|aA (eI 4)<|aA (eI 5)<|aA (eI 6) bM)<|ae (aT (20 bz (16 ay 2 aa) aa _) (ag<|cg 6<|cO g2<|2 6<|15<|16 aV 2 aa) aD)<|ae (aT (IT<|cF (20 bz (16 ay 2 aa) aa _)<|cA<|20 rm (pv 5) eO _) (ae (cg 7<|bJ<|a8 (xW (K:=K) `a Jv PySem.F.slot_str_upper PySem.F.type_str_upper wI<|pv 5)<|a8 (16 aO 5 aX)<|a8 (ai aO aX<|pv 5)<|a8 (cO g3<|2 5<|15<|16 aV 2 aa)<|15<|16 aO 5 aX)<|ag<|cg 5<|bC cJ (az (35 `a) (16 ql 7<|fh (N:=["_law_k",`V,"_law_text","_law_cell"]) (cap:=[none,some 0,some 5,some 2]) (i8 `a ⋯ `a ⋯ `z `z) `a (fJ `a g6<|15 aa) (λ_ _ _ _=>(bG (i:=0) (show Gd (["_law_k",`V,"_law_text","_law_cell"]:`I) by decide +kernel) `a (by walk_at "L"))) (λ_ _ _ _=>cG) λ_ _ _ _=>az (aR (K:=K) `a) (cO g4<|a8 (cn<|2 1<|2 2 af)<|15<|16 aV 3 aa) aa `j) (ai ay (16 aV 2 aa) aa) `j) cj<|bA aa) aD)<|ae (aT (IT<|cF (20 bz (16 ay 2 aa) aa _)<|cA<|20 rm (pv 4) eO _) (ag<|cg 4<|ai ay (az (35 `a) (bJ<|a8 (24 (iA `a) g5 IK<|a8 aa<|15<|16 dW 4 aa)<|a8 (16 aZ 4 aa)<|a8 aa<|15 aa) (ai ay (16 aV 2 aa) aa) `j) aa) aD)<|ae (aT (20 bz (16 ay 2 aa) aa _) (ae (cg 4<|az (35 `a) (bJ<|a8 eO<|a8 aa<|a8 aa<|15 aa) (ai ay (16 aV 2 aa) aa) `j)<|ag<|cg 5<|az (35 `a) (bJ<|a8 eO<|2 5<|15 aX) (ai ay (16 aV 2 aa) aa) `j) aD)<|ae (aT (20 bz (16 ay 2 aa) aa _) (ag<|cg 6<|pv 3) aD)<|19<|cn<|2 4<|2 5<|2 6 af) ?_
  have E0:12 W0:=`N;rw[show L2.start [`V,"_law_triple","_law_cell","_law_more","_law_bound","_law_text","_law_lists","_law_more_text"] [b3,b4,.int b2,b5]=[some b3,some b4,6 b2,some b5,none,none,none,none]from rfl];unfold Dp at hq;refine dM (Er:=Er) (aI g8) λv1 W2 e3 h4=>?_;have E0:=E0.trans e3;have a2:=ED e3.g a2;have a0:=3 e3.g;refine p5 h4 λv5 v7 v9 h6 h8 b7=>?_;refine br (Er:=Er) (Iv:=λ(h0:(List<|List Ii))(e9:Wd)(h1:St)=>∃(b8:V),h1=[some b3,some b4,6 b2,some b5,some v5,some v7,some b8,none]/\12 e9/\(isL<|qE K) e9.G h0 b8) (aq<|bD (ak `B aP) ah) (EE hq) ?_ ?_ ?_
  ·intro f0 h2 a4 d4 hq;have d5:=a4.g;have E0:=E0.trans a4;have a2:=ED a4.g a2;have a0:=3 a4.g;have h6:=ED a4.g h6;have h8:=ED a4.g h8;have b7:=ED a4.g b7;refine 17 (NP<|tI (aI b7)<|ak (λ_=>`R) aP) (5 hq λh3 hq m3 h5 b9 h7=>?_);have E0:=E0.trans b9;have d5:=d5.trans b9.g;have a2:=ED b9.g a2;have a0:=3 b9.g;have h6:=ED b9.g h6;have h8:=ED b9.g h8;exact d4 h3 h5 _ d5 ⟨_,`a,E0,h7⟩ hq
  ·intro f0 h2 a4 d4 hq;have h9:=a4.g;have E0:=E0.trans a4;have a2:=ED a4.g a2;have a0:=3 a4.g;have h6:=ED a4.g h6;have h8:=ED a4.g h8;have b7:=ED a4.g b7
   try dsimp only[aF]
   exact d4 d3.2.2 f0 _ h9 ⟨_,`a,E0,b7⟩ hq
  ·intro i0 m4 m5 c8 iv hq;obtain⟨b8,rfl,E0,a1⟩:=iv;have a2:=ED c8 a2;have a0:=3 c8;have h6:=ED c8 h6;have h8:=ED c8 h8;refine br (Er:=Er) (Iv:=λ(i1:(Option Tx))(f1:Wd)(i2:St)=>∃(c9:V)(c0:Option V),i2=[some b3,some b4,6 b2,some b5,some v5,some c9,some b8,c0]/\12 f1/\(isO isS) f1.G i1 c9) (cQ (aq<|bD (ak `B aP) ah)<|aq<|rG<|aI h8) (EE hq) ?_ ?_ ?_
   ·intro f2 i3 a5 d6 hq;have c1:=a5.g;have E0:=E0.trans a5;have a2:=ED a5.g a2;have a0:=3 a5.g;have h6:=ED a5.g h6;have h8:=ED a5.g h8;have a1:=10 a5.g;refine bg (17 (Hm<|dY<|aN (AK<|dZ<|aI h8)<|aN (bB (dZ<|aI h8)<|aY (x:=EO " ") (l:=[32])<|fG _ _ ⋯)<|aN (bB (aY (x:=EO " ") (l:=[32])<|fG _ _ ⋯)<|dZ<|aI h8)<|aN (bo (dZ<|aI h8)<|ak (λ_=>`R) aP)<|aN (bB (dZ<|aI h8)<|aY (x:=EO "\n") (l:=[10])<|fG _ _ ⋯)<|dX (R:=isS))<|5 hq λm6 hq m7 m8 b6 i4=>?_)
    have E0:=E0.trans b6;have c1:=c1.trans b6.g;have a2:=ED b6.g a2;have a0:=3 b6.g;have h6:=ED b6.g h6;have h8:=ED b6.g h8;have a1:=10 b6.g;refine 17 (eT<|cb (bw (IB<|nH (Gr<|aI i4)<|IB (fo (gw ah) λm9 i5 n0 f3 i6 n1 i7=>by
     have i9:=Ge (R:=sh `n) f3 a2;have j0:=Ge (R:=sh (isO isS)) f3 h8;cases i6;refine gn ?_;exact⟨by simp[Keep,bH],((bj (f:=λ(b:Cd×Tx)=>b.2) xZ<|bo (fk (K:=K) (aI i9)<|dZ<|aI j0)<|ak (λ_=>`R) aP):EV Er _ [6 i5,some b3,some v7,6 b2] _ _ _) _ `q _ i7⟩))<|ak `B<|ak (λ_=>`R) aP) eM<|cU ah) (5 hq λj1 hq n2 j2 c2 j3=>?_)
    have E0:=E0.trans c2;have c1:=c1.trans c2.g;have a0:=3 c2.g;have h6:=ED c2.g h6;have a1:=10 c2.g;exact d6 j1 j2 _ c1 ⟨_,_,`a,E0,j3⟩ hq
   ·intro f2 i3 a5 d6 hq;have j4:=a5.g;have E0:=E0.trans a5;have a2:=ED a5.g a2;have a0:=3 a5.g;have h6:=ED a5.g h6;have h8:=ED a5.g h8;have a1:=10 a5.g
    try dsimp only[aF]
    exact d6 d3.2.1 f2 _ j4 ⟨_,_,`a,E0,h8⟩ hq
   ·intro j5 n3 n4 d7 iv hq;obtain⟨c9,c0,rfl,E0,a3⟩:=iv;have a0:=3 d7;have h6:=ED d7 h6;have a1:=10 d7;refine br (Er:=Er) (Iv:=λ(j6:(Option Int))(f4:Wd)(j7:St)=>∃(d8:V),j7=[some b3,some b4,6 b2,some b5,some d8,some c9,some b8,c0]/\12 f4/\(isO isI) f4.G j6 d8) (cQ (aq<|bD (ak `B aP) ah)<|aq<|rG<|aI h6) (EE hq) ?_ ?_ ?_
    ·intro f5 j8 a6 d9 hq;have e0:=a6.g;have E0:=E0.trans a6;have a0:=3 a6.g;have h6:=ED a6.g h6;have a1:=10 a6.g;have a3:=ED a6.g a3;refine 17 (eT<|ak `B<|bw (IB<|dY<|aN (kE ah<|aK (dZ<|aI h6) ah)<|aN (aK (dZ<|aI h6) ah)<|aN ah<|aN ah<|dX (R:=isI))<|ak `B<|ak (λ_=>`R) aP) (5 hq λj9 hq n5 k0 c3 k1=>?_);have E0:=E0.trans c3;have e0:=e0.trans c3.g;have a0:=3 c3.g;have a1:=10 c3.g;have a3:=ED c3.g a3;exact d9 j9 k0 _ e0 ⟨_,`a,E0,k1⟩ hq
    ·intro f5 j8 a6 d9 hq;have k2:=a6.g;have E0:=E0.trans a6;have a0:=3 a6.g;have h6:=ED a6.g h6;have a1:=10 a6.g;have a3:=ED a6.g a3
     try dsimp only[aF]
     exact d9 d3.1 f5 _ k2 ⟨_,`a,E0,h6⟩ hq
    ·intro k3 n6 n7 e1 iv hq;obtain⟨d8,rfl,E0,c4⟩:=iv;have a0:=3 e1;have a1:=10 e1;have a3:=ED e1 a3;refine br (Er:=Er) (Iv:=λ(f6:((Option Int)×(Option Tx)))(e2:Wd)(k4:St)=>∃(d0:V)(d1:V),k4=[some b3,some b4,6 b2,some b5,some d0,some d1,some b8,c0]/\12 e2/\(isO isI) e2.G f6.1 d0/\(isO isS) e2.G f6.2 d1) (aq<|bD (ak `B aP) ah) (EE hq) ?_ ?_ ?_
     ·intro f7 k5 a7 e4 hq;have c5:=a7.g;have E0:=E0.trans a7;have a0:=3 a7.g;have a1:=10 a7.g;have a3:=ED a7.g a3;have c4:=ED a7.g c4;refine bg (17 (bw (IB<|dY<|aN (iB (R:=isI))<|aN (eT ah)<|aN (eT ah)<|aN (eT ah)<|dX (R:=isO isI))<|ak `B<|ak (λ_=>`R) aP)<|5 hq λk6 hq n8 n9 c6 e5=>?_)
      have E0:=E0.trans c6;have c5:=c5.trans c6.g;have a0:=3 c6.g;have a1:=10 c6.g;have a3:=ED c6.g a3;refine 17 (bw (IB<|dY<|aN (iB (R:=isS))<|aN (aI a3)<|aN (eT<|aY (x:=EO "") (l:=[])<|fG _ _ ⋯)<|dX (R:=isO isS))<|ak `B<|ak (λ_=>`R) aP) (5 hq λk7 hq o0 k8 c7 k9=>?_);have E0:=E0.trans c7;have c5:=c5.trans c7.g;have a0:=3 c7.g;have a1:=10 c7.g;have e5:=ED c7.g e5;exact e4 (k6,k7) k8 _ c5 ⟨_,_,`a,E0,e5,k9⟩ hq
     ·intro f7 k5 a7 e4 hq;have l0:=a7.g;have E0:=E0.trans a7;have a0:=3 a7.g;have a1:=10 a7.g;have a3:=ED a7.g a3;have c4:=ED a7.g c4
      try dsimp only[aF]
      exact e4 (k3,j5) f7 _ l0 ⟨_,_,`a,E0,c4,a3⟩ hq
     ·intro o1 o2 o3 f8 iv hq;obtain⟨d0,d1,rfl,E0,b0,b1⟩:=iv;have a0:=3 f8;have a1:=10 f8;refine br (Er:=Er) (Iv:=λ(l1:(List<|List Ii))(f9:Wd)(l2:St)=>∃(e6:V),l2=[some b3,some b4,6 b2,some b5,some d0,some d1,some e6,c0]/\12 f9/\(isL<|qE K) f9.G l1 e6) (aq<|bD (ak `B aP) ah) (EE hq) ?_ ?_ ?_
      ·intro g0 l3 a9 e7 hq;have e8:=a9.g;have E0:=E0.trans a9;have a0:=3 a9.g;have a1:=10 a9.g;have b0:=ED a9.g b0;have b1:=ED a9.g b1;refine 17 `v λo4 l4 d2 l5=>?_;have E0:=E0.trans d2;have e8:=e8.trans d2.g;have b0:=ED d2.g b0;have b1:=ED d2.g b1;exact e7 g7 l4 _ e8 ⟨_,`a,E0,l5⟩ hq
      ·intro g0 l3 a9 e7 hq;have l6:=a9.g;have E0:=E0.trans a9;have a0:=3 a9.g;have a1:=10 a9.g;have b0:=ED a9.g b0;have b1:=ED a9.g b1
       try dsimp only[aF]
       exact e7 i0 g0 _ l6 ⟨_,`a,E0,a1⟩ hq
      ·intro o5 o6 o7 g1 iv hq;obtain⟨e6,rfl,E0,l7⟩:=iv;have b0:=ED g1 b0;have b1:=ED g1 b1;exact 25 (cZ (K:=K) (aI b0) (aI b1)<|aI l7) λl8 l9 m0 m1=>28 l8 l9 m0 m1
theorem Cg{f:Addr}{fd:Fi}(F:Fun K "law" "law" (tp 66) f fd){xx:`H->Int->Res (Cd×`m×Int)}{yO:Int->11 Tx}{qQ:Cd->`m->Int->Int->Tx->`x}{qR:Cd->Tx->`C}{yU:Cd->`m->Int->Res (`w×Option Tx×List `t)}{m9:Cd->`m->Int->`w×Option Tx×List `t->`x}{yX:Cd->`m->Int->Int->11 `t}{iq:`H->Int->`C}{oB:Cd->`w×Option Tx×List `t->Int->List `t->Res (`w×Option Tx×List `t)}(h0:Cal P w K mg base "_law_small" ["_law_script","_law_most"] (5) (bI (isScr K) isI (rs<|isT3 K `n (qD K) isI) xx))(h1:Cal P w K mg base "_law_all" ["_law_many"] (1) (eH isI (rs<|isL isS) yO))(h2:Cal P w K mg base "_law_does" [`V,"_law_strip","_law_loose","_law_bound","_law_text"] (4) (fw `n (qD K) isI isI isS (rs isB) qQ))(h3:Cal P w K mg base "_law_peak" `Z (3) (bI `n isS (rs isI) qR))(h4:Cal P w K mg base "restore" ["tablet","strip","loose"] (9) (ef `n (qD K) isI (rs<|isT3 K (isO isI) (isO isS)<|isL<|qE K) yU))(f2:Cal P w K mg base "_law_same" ["_law_found","_law_due"] 26 (iH K 26))(f3:Cal P w K mg base "settled" ["tablet","strip","loose","triple"] (7) (fH `n (qD K) isI (isT3 K (isO isI) (isO isS)<|isL<|qE K) (rs isB) m9))(h6:Cal P w K mg base "_law_reach" [`V,"_law_strip","_law_loose","_law_bound"] (4) (fH `n (qD K) isI isI (ro<|qE K) yX))(f4:Cal P w K mg base "_law_at" ["_law_script","_law_k"] (1) (bI (isScr K) isI (rs isI) iq))(h8:Cal P w K mg base "_law_bend_triple" [`V,"_law_triple","_law_cell","_law_more"] (3) (fH `n (isT3 K (isO isI) (isO isS)<|isL<|qE K) isI (isL<|qE K) (rs<|isT3 K (isO isI) (isO isS)<|isL<|qE K) oB))(f5:mg "len"=`c)(d6:mg "list"=`c)(i0:mg "range"=`c):FnOk P w K mg base CX0 (27) f fd ["_law_script"] (eH (isScr K) (rs isB)<|sr xx yO qQ qR yU m9 yX iq oB):=by
 have SC:31 ["_law_script",`V,"_law_strip","_law_loose","_law_due","_law_text","_law_far","_law_triple","_law_more","_law_k","_law_cell"] ["_law_script"] (tp 66):=by walk_at "F"
 refine 33 SC ?_ ?_;·obtain⟨_,_,_,_,rfl,_⟩:=h;rfl
 ·obtain⟨W0,i1,b7,rfl,rfl,a0,Er,hq⟩:=h;refine 9 (ae (eQ (cO h0<|2 0<|15 aa)<|bN (K:=K) (n:=3) `a `a<|aA (eI 1)<|aA (eI 2)<|aA (eI 3) bM)<|ae (cg 4 eO)<|ae (bV Fj `a (bQ (K:=K) `a<|cO h1<|15<|24 (aM (K:=K) `a) f5 Ff<|2 2 af) (eI 5)<|ag<|aT (dt<|cO h2<|2 1<|2 2<|2 3<|a8 (24 (aM (K:=K) `a) f5 Ff<|2 2 af)<|2 5 af) (ae (cg 6<|cO h3<|2 1<|2 5 af)<|ag<|aT (IT<|jS (20 op_isN (pv 4) eO _)<|j0<|20 mq (pv 6) (pv 4) _) (ag<|cg 4<|pv 6) aD) aD)<|ae (cg 7<|cO h4<|2 1<|a8 (dn (fj (K:=K) `a) `z d6 GR<|2 2 af)<|2 3 af)<|ae (aT (j4<|dt<|cO f2<|a8 (cO f3<|2 1<|a8 (dn (fj (K:=K) `a) `z d6 GR<|2 2 af)<|2 3<|2 7 af)<|15 dD) (19 dD) aD)<|ae (cg 8<|cO h6<|2 1<|2 2<|2 3<|15<|ai ay (cO f4<|2 0<|15 aa) aa)<|ae (bV Fj `a (sL `a i0<|a8 aa<|15 aa) (eI 9)<|ae (cg 10<|cO f4<|2 0<|2 9 af)<|ae (aT (20 gU (16 ay 10 aa) aa _) (ag<|cg 7<|cO h8<|2 1<|2 7<|a8 (16 aV 10 aa)<|2 8 af) aD)<|ag<|aT (IT<|cF (dt<|cO f3<|2 1<|a8 (dn (fj (K:=K) `a) `z d6 GR<|2 2 af)<|2 3<|2 7 af)<|cA<|j4<|dt<|cO f2<|a8 (18 (aR (K:=K) `a) 7 aa `j)<|2 4 af) (19 dD) aD)<|19 dD) ?_
  have E0:12 W0:=`N;unfold sr at hq;refine dM (Er:=Er) (bo `v ah) (5 hq λy1 hq v2 W3 e4 h5=>?_);have E0:=E0.trans e4;have a0:=3 e4.g;refine p5 h5 λv6 v8 o0 h7 h9 i2=>?_;cases i2;refine bg (17 (iB (R:=isI)) λo1 o2 d3 d7=>?_)
  have E0:=E0.trans d3;have a0:=3 d3.g;have h7:=ED d3.g h7;have h9:=ED d3.g h9;refine cz (Er:=Er) (f:=fY qQ qR y1) (s0:=(none:`w)) (Iv:=λ(i3:(Option Int))(f6:Wd)(i4:St)=>∃(b1:V)(b8:Option V)(c2:Option V),i4=[some b7,some v6,some v8,6 y1.2.2,some b1,c2,b8,none,none,none,none]/\12 f6/\(isO isI) f6.G i3 b1) (cv<|dh<|cC<|Gr<|aI h9) (EE hq) ?_ ?_ ?_
  ·intro o3 c7;have E0:=E0.trans c7;have a0:=3 c7.g;have h7:=ED c7.g h7;have h9:=ED c7.g h9;have d7:=ED c7.g d7;exact⟨_,_,_,`a,E0,d7⟩
  ·intro o4 o5 o6 d8 o7 f7 o8 o9 d9 a2 iv c3 i5 hq;obtain⟨b1,b8,c2,rfl,E0,a1⟩:=iv;have a0:=3 d9;have h7:=ED d9 h7;have h9:=ED d9 h9;have E0:=E0.trans c3;have a2:=a2.trans c3.g;have a0:=3 c3.g;have h7:=ED c3.g h7;have h9:=ED c3.g h9;have a1:=10 c3.g;cases i5;refine gn (σ':=[some b7,some v6,some v8,6 y1.2.2,some b1,22 d8,b8,none,none,none,none]) ?_;unfold fY at hq;refine ig (Er:=Er) (Iv:=λ(i6:(Option Int))(f8:Wd)(i7:St)=>∃(e0:V)(f9:Option V),i7=[some b7,some v6,some v8,6 y1.2.2,some e0,22 d8,f9,none,none,none,none]/\12 f8/\(isO isI) f8.G i6 e0) (l6<|ic (aI h7) (aI h9) aP (cC<|Gr<|aI h9) bY) (EE hq) ?_ ?_ ?_
   ·intro g0 i8 a6 e1 hq;have a9:=a6.g;have E0:=E0.trans a6;have a2:=a2.trans a6.g;have a0:=3 a6.g;have h7:=ED a6.g h7;have h9:=ED a6.g h9;have a1:=10 a6.g;refine bg (17 (bo (aI h7) bY)<|5 hq λg1 hq p0 p1 b9 i9=>?_)
    cases i9;have E0:=E0.trans b9;have a2:=a2.trans b9.g;have a9:=a9.trans b9.g;have a0:=3 b9.g;have h7:=ED b9.g h7;have h9:=ED b9.g h9;have a1:=10 b9.g;refine ig (Er:=Er) (Iv:=λ(j1:(Option Int))(g2:Wd)(j2:St)=>∃(e2:V),j2=[some b7,some v6,some v8,6 y1.2.2,some e2,22 d8,6 g1,none,none,none,none]/\12 g2/\(isO isI) g2.G j1 e2) (mJ (aq<|l5<|aI a1)<|aq<|bW aP<|dZ<|aI a1) (EE hq) ?_ ?_ ?_
    ·intro g3 j3 a5 e3 hq;have e5:=a5.g;have E0:=E0.trans a5;have a2:=a2.trans a5.g;have a9:=a9.trans a5.g;have a0:=3 a5.g;have h7:=ED a5.g h7;have h9:=ED a5.g h9;have a1:=10 a5.g;refine 17 (eT aP) λp2 j5 c0 j6=>?_;have E0:=E0.trans c0;have a2:=a2.trans c0.g;have a9:=a9.trans c0.g;have e5:=e5.trans c0.g;have a0:=3 c0.g;have h7:=ED c0.g h7;have h9:=ED c0.g h9;exact e3 (some g1) j5 _ e5 ⟨_,`a,E0,j6⟩ hq
    ·intro g3 j3 a5 e3 hq;have j7:=a5.g;have E0:=E0.trans a5;have a2:=a2.trans a5.g;have a9:=a9.trans a5.g;have a0:=3 a5.g;have h7:=ED a5.g h7;have h9:=ED a5.g h9;have a1:=10 a5.g
     try dsimp only[aF]
     exact e3 f7 g3 _ j7 ⟨_,`a,E0,a1⟩ hq
    ·intro j8 j9 p3 c8 iv hq;obtain⟨e2,rfl,E0,k0⟩:=iv;have a2:=a2.trans c8;have a9:=a9.trans c8;have a0:=3 c8;have h7:=ED c8 h7;have h9:=ED c8 h9;exact e1 j8 j9 _ a9 ⟨_,_,`a,E0,k0⟩ hq
   ·intro g0 i8 a6 e1 hq;have k1:=a6.g;have E0:=E0.trans a6;have a2:=a2.trans a6.g;have a0:=3 a6.g;have h7:=ED a6.g h7;have h9:=ED a6.g h9;have a1:=10 a6.g
    try dsimp only[aF]
    exact e1 f7 g0 _ k1 ⟨_,_,`a,E0,a1⟩ hq
   ·intro k2 k3 p4 d4 iv hq;obtain⟨e0,f9,rfl,E0,k4⟩:=iv;have a2:=a2.trans d4;have a0:=3 d4;have h7:=ED d4 h7;have h9:=ED d4 h9
    try dsimp only
    refine bS (W:=k3) k2 a2 ?_ hq;exact⟨_,_,_,`a,E0,k4⟩
  ·intro k5 p7 p8 e6 iv hq;obtain⟨b1,b8,c2,rfl,E0,a1⟩:=iv;have a0:=3 e6;have h7:=ED e6 h7;have h9:=ED e6 h9;refine bg (17 (eB (aI h7) (Hm<|ji<|Gr<|aI h9) aP)<|5 hq λk6 hq p9 q0 c9 b2=>?_)
   have E0:=E0.trans c9;have a0:=3 c9.g;have h7:=ED c9.g h7;have h9:=ED c9.g h9;have a1:=10 c9.g;refine cm (Er:=Er) (nG<|l6<|pj ⋯ (ib (aI h7) (Hm<|ji<|Gr<|aI h9) aP<|aI b2) fv) (5 hq λk7 hq q1 c4=>?_);have E0:=E0.trans c4;have a0:=3 c4.g;have h7:=ED c4.g h7;have h9:=ED c4.g h9;have a1:=10 c4.g;have b2:=ED c4.g b2;by_cases g4:1 k7
   ·rw[Z0 g4]at hq ⊢;exact 25 fv λk8 k9 l0 l1=>28 k8 k9 l0 l1
   ·rw[Z1 g4]at hq ⊢
    try dsimp only[aF]
    refine bg (17 (Hm<|mK (aI h7) (aI h9) aP<|ak `B<|bo `v ah)<|5 hq λl2 hq e7 q2 c5 a3=>?_)
    have E0:=E0.trans c5;have a0:=3 c5.g;have h7:=ED c5.g h7;have h9:=ED c5.g h9;have a1:=10 c5.g;have b2:=ED c5.g b2;refine fM (Er:=Er) (f:=eX m9 iq oB i1 y1 k5 l2) (s0:=k6) (Iv:=λ(l3:((Option Int)×(Option Tx)×(List<|List Ii)))(g5:Wd)(l4:St)=>∃(d0:V)(d5:Option V)(e8:Option V),l4=[some b7,some v6,some v8,6 y1.2.2,some b1,c2,b8,some d0,some e7,e8,d5]/\12 g5/\(isT3 K (isO isI) (isO isS)<|isL<|qE K) g5.G l3 d0) (tJ ah ah) (EE hq) ?_ ?_ ?_
    ·intro q3 c1;have E0:=E0.trans c1;have a0:=3 c1.g;have h7:=ED c1.g h7;have h9:=ED c1.g h9;have a1:=10 c1.g;have b2:=ED c1.g b2;have a3:=ED c1.g a3;exact⟨_,_,_,`a,E0,b2⟩
    ·intro q4 q5 q6 g6 q7 l7 q8 q9 d1 a7 iv b3 l8 hrt130 hq;obtain⟨d0,d5,e8,rfl,E0,b0⟩:=iv;have a0:=3 d1;have h7:=ED d1 h7;have h9:=ED d1 h9;have a1:=10 d1;have a3:=ED d1 a3;have E0:=E0.trans b3;have a7:=a7.trans b3.g;have a0:=3 b3.g;have h7:=ED b3.g h7;have h9:=ED b3.g h9;have a1:=10 b3.g;have a3:=ED b3.g a3;have b0:=ED b3.g b0;cases l8;refine gn (σ':=[some b7,some v6,some v8,6 y1.2.2,some b1,c2,b8,some d0,some e7,6 g6,d5]) ?_;unfold eX at hq;refine bg (17 (bo `v aP)<|5 hq λl9 hq r0 r1 b4 m0=>?_)
     cases m0;have E0:=E0.trans b4;have a7:=a7.trans b4.g;have a0:=3 b4.g;have h7:=ED b4.g h7;have h9:=ED b4.g h9;have a1:=10 b4.g;have a3:=ED b4.g a3;have b0:=ED b4.g b0;refine br (Er:=Er) (Iv:=λ(m1:((Option Int)×(Option Tx)×(List<|List Ii)))(g7:Wd)(m2:St)=>∃(e9:V),m2=[some b7,some v6,some v8,6 y1.2.2,some b1,c2,b8,some e9,some e7,6 g6,6 l9]/\12 g7/\(isT3 K (isO isI) (isO isS)<|isL<|qE K) g7.G m1 e9) (aq<|bW (ak `B aP) ah) (EE hq) ?_ ?_ ?_
     ·intro g8 m3 a4 f0 hq;have f1:=a4.g;have E0:=E0.trans a4;have a7:=a7.trans a4.g;have a0:=3 a4.g;have h7:=ED a4.g h7;have h9:=ED a4.g h9;have a1:=10 a4.g;have a3:=ED a4.g a3;have b0:=ED a4.g b0;refine 17 (ib (aI h7) (aI b0) (ak (λ_=>`R) aP)<|aI a3) (5 hq λm4 hq r2 m5 b5 m6=>?_);have E0:=E0.trans b5;have a7:=a7.trans b5.g;have f1:=f1.trans b5.g;have a0:=3 b5.g;have h7:=ED b5.g h7;have h9:=ED b5.g h9;have a1:=10 b5.g;have a3:=ED b5.g a3;exact f0 m4 m5 _ f1 ⟨_,`a,E0,m6⟩ hq
     ·intro g8 m3 a4 f0 hq;have m7:=a4.g;have E0:=E0.trans a4;have a7:=a7.trans a4.g;have a0:=3 a4.g;have h7:=ED a4.g h7;have h9:=ED a4.g h9;have a1:=10 a4.g;have a3:=ED a4.g a3;have b0:=ED a4.g b0
      try dsimp only[aF]
      exact f0 l7 g8 _ m7 ⟨_,`a,E0,b0⟩ hq
     ·intro m8 r3 r4 c6 iv hq;obtain⟨e9,rfl,E0,d2⟩:=iv;have a7:=a7.trans c6;have a0:=3 c6;have h7:=ED c6 h7;have h9:=ED c6 h9;have a1:=10 c6;have a3:=ED c6 a3;refine p6 (Er:=Er) (cQ (l6<|ib (aI h7) (Hm<|ji<|Gr<|aI h9) aP<|aI d2)<|nG<|l6<|pj ⋯ (bj (f:=λ(b:(Option Int)×(Option Tx)×(List<|List Ii))=>b.1) lY<|aI d2)<|aI a1) (5 hq λn0 hq n1 b6=>?_);have E0:=E0.trans b6;have a7:=a7.trans b6.g;have a0:=3 b6.g;have h7:=ED b6.g h7;have h9:=ED b6.g h9;have a1:=10 b6.g;have a3:=ED b6.g a3;have d2:=ED b6.g d2;by_cases g9:1 n0
      ·rw[Z0 g9]at hq ⊢;exact 25 fv λn2 n3 n4 n5=>(hrt130 _ hq) n2 n3 (E0.trans n4) n5
      ·rw[Z1 g9]at hq ⊢
       try dsimp only[aF]
       try dsimp only
       refine bS (W:=n1) m8 a7 ?_ hq;exact⟨_,_,_,`a,E0,d2⟩
    ·intro r5 r6 r7 r8 iv hq;obtain⟨d0,d5,e8,rfl,E0,b0⟩:=iv;exact 25 fv λn6 n7 n8 n9=>28 n6 n7 n8 n9
end
end Wb
namespace Wb
open PySem L2
section
variable{P:F6}{w:Fh}{K:EL}{mg:Str->`Q}{base:Heap}
theorem z6{f:Addr}{fd:Fi}{ps:`I}{k:Nat}:FnOk P w K mg base CX0 k f fd ps (iH K 0):=⟨λ_ _ _ _ h=>h.elim,λ_ _ _ _ _ _ _ _ _ _ _ _ _ h=>h.elim⟩
theorem mf{K:EL}(a b:String)(r:Bool)(h:0 (Ht [] (.type a)<|.type b) r):0 (Ht K (.type a)<|.type b) r:=by first|exact h|(rw[<-h];rfl)
theorem ir{c:TT}{t rest:TS}{D:Ends}{M:St}{H:Hp}(h:∀Q:Bool->Hp->Prop,Q `g H->c M H Q)(k:rest D M H):iR (k4 c t aF) rest D M H:=h _ k
theorem pO{c:TT}{t rest:TS}{D:Ends}{M:St}{H:Hp}(h:∀Q:Bool->Hp->Prop,Q true H->c M H Q)(k:t {D with nx:=rest D} M H):iR (k4 c t aF) rest D M H:=h _ k
theorem wK{f:Addr}{fd:Fi}(F:Fun K "_law_same" "_law_same" (tp 65) f fd)(a2:mg "len"=`c)(a0:mg "isinstance"=`c)(a1:mg "bool"=`c)(a3:mg "int"=`c)(a4:mg "str"=`c)(a5:mg "list"=`c)(a6:mg "tuple"=`c)(a7:mg "zip"=`c){n:Nat}
  (a9:Cal P w K mg base "_law_same" ["_law_found","_law_due"] n (iH K n)):FnOk P w K mg base CX0 (n+1) f fd ["_law_found","_law_due"] (iH K<|n+1):=by
 have SC:31 ["_law_found","_law_due","_law_one","_law_other"] ["_law_found","_law_due"] (tp 65):=by walk_at "F"
 refine 33 SC ?_ ?_;·obtain⟨v,u,rfl,_⟩:=h;rfl
 ·obtain⟨v,u,rfl,h⟩:=h;have hr:Room n _:=hr
  refine 9 (ae (aT (IT<|jS (20 (op_isN.or kU) (pv 1) eO _)<|jS (20 (op_isN.or kU) (pv 1) dD _)<|j0<|20 (op_isN.or kU) (pv 1) dD _) (19<|gm (cB bz (24 (bP (K:=K) `a) a0 Fw<|2 0<|15<|eP (v:=.ty "bool") `z a1 JC `a) (24 (bP (K:=K) `a) a0 Fw<|2 1<|15<|eP (v:=.ty "bool") `z a1 JC `a)<|ar _)<|gF<|cB bz (pv 0) (pv 1)<|ar _) aD)<|ae (aT (dt<|24 (bP (K:=K) `a) a0 Fw<|2 1<|15<|eP (v:=.ty "int") `z a3 HQ `a) (19<|gm (24 (bP (K:=K) `a) a0 Fw<|2 0<|15<|eP (v:=.ty "int") `z a3 HQ `a)<|gm (A1<|24 (bP (K:=K) `a) a0 Fw<|2 0<|15<|eP (v:=.ty "bool") `z a1 JC `a)<|gF<|cB bz (pv 0) (pv 1)<|ar _) aD)<|ae (aT (dt<|24 (bP (K:=K) `a) a0 Fw<|2 1<|15<|eP (v:=.ty "str") `z a4 LL `a) (19<|gm (24 (bP (K:=K) `a) a0 Fw<|2 0<|15<|eP (v:=.ty "str") `z a4 LL `a)<|gF<|cB bz (pv 0) (pv 1)<|ar _) aD)<|ae (aT (IT<|cF (dt<|24 (bP (K:=K) `a) a0 Fw<|2 1<|15<|eP (v:=.ty "list") `z a5 GR `a)<|cA<|j4<|dt<|24 (bP (K:=K) `a) a0 Fw<|2 0<|15<|eP (v:=.ty "list") `z a5 GR `a) (19 dD) aD)<|ae (aT (IT<|cF (dt<|24 (bP (K:=K) `a) a0 Fw<|2 1<|15<|eP (v:=.ty "tuple") `z a6 Jn `a)<|cA<|j4<|dt<|24 (bP (K:=K) `a) a0 Fw<|2 0<|15<|eP (v:=.ty "tuple") `z a6 Jn `a) (19 dD) aD)<|ae (aT (20 je (24 (aM (K:=K) `a) a2 Ff<|2 0 af) (24 (aM (K:=K) `a) a2 Ff<|2 1 af) _) (19 dD) aD)<|ae (bV Fj `a (gK (K:=K) `a `a a7<|2 0<|2 1 af) (bN (K:=K) (n:=2) `a `a<|aA (bG (i:=2) SC.nd `a (by walk_at "L"))<|aA (bG (i:=3) SC.nd `a (by walk_at "L")) bM)<|ag<|aT (j4<|dt<|uT a9 hr `z<|2 2<|2 3 af) (19 dD) aD)<|19 dD) ?_
  rcases h with⟨he,q⟩|⟨x,y,rfl,rfl,q⟩
  rotate_left
  ·refine ir (λQ q=>?_) (ir (λQ q=>?_)<|pO (λQ q=>?_) ?_);·walk_at "S0";exact q
   ·walk_at "S0";exact⟨_,.str _,_,mf "str" "int" `g `a,q⟩
   ·walk_at "S0";exact⟨_,.str _,_,mf "str" "str" true `a,q⟩
   ·walk_at "S0";refine⟨_,.str _,_,mf "str" "str" true `a,?_⟩;walk_at "S0";simpa using q
  have fl:∀v,1 (L2.flat v)->(∀H',Same H H'->Q (.bl true) H')->v=.non\/(∃b,v=.bl b)\/(∃i,v=.int i)\/∃x,v=.str x:=λv hv _=>by
   cases v with
   |non=>exact `G
   |bl b=>exact .inr (.inl ⟨b,`a⟩)
   |int b=>exact .inr (.inr<|.inl ⟨b,`a⟩)
   |str b=>exact .inr (.inr<|.inr ⟨b,`a⟩)
   |_=>cases hv
  have he':v=u/\1 (L2.flat v)\/∃m p q xs ys,n=m+1/\v=`E/\u=.ref q/\(0 (H p) (.lst xs)/\0 (H q) (.lst ys)\/SqT K H p xs/\SqT K H q ys)/\`i=ys.length/\∀(i:Nat)(x y:V),0 xs[i]? x->0 ys[i]? y->EqK K H m x y:=by
   cases n with
   |zero=>exact .inl he
   |succ m=>rcases he with z|⟨p,q,xs,ys,z⟩;exact .inl z;exact .inr ⟨m,p,q,xs,ys,`a,z⟩
  rcases he' with⟨rfl,hf⟩|⟨m,p,q',xs,ys,hnm,rfl,rfl,hk,hl,hi⟩
  ·rcases fl v hf q with rfl | ⟨b,rfl⟩ | ⟨i,rfl⟩ | ⟨x,rfl⟩
   ·refine pO (λQ q=>?_) ?_;·walk_at "S0";exact q
    ·walk_at "S0";refine⟨_,.non,_,mf "NoneType" "bool" `g `a,_,.non,_,mf "NoneType" "bool" `g `a,?_⟩;walk_at "S0";exact q H (.refl H)
   ·refine pO (λQ q=>?_) ?_;·cases b<;>walk_at "S0"<;>exact q
    ·walk_at "S0";refine⟨_,.bl _,_,mf "bool" "bool" true `a,_,.bl _,_,mf "bool" "bool" true `a,?_⟩;walk_at "S0";exact q H (.refl H)
   ·refine ir (λQ q=>?_) (pO (λQ q=>?_) ?_);·walk_at "S0";exact q
    ·walk_at "S0";exact⟨_,.int _,_,mf "int" "int" true `a,q⟩
    ·walk_at "S0";refine⟨_,.int _,_,mf "int" "int" true `a,?_⟩;walk_at "S0";refine⟨_,.int _,_,mf "int" "bool" `g `a,?_⟩;walk_at "S0";exact q H (.refl H)
   ·refine ir (λQ q=>?_) (ir (λQ q=>?_)<|pO (λQ q=>?_) ?_);·walk_at "S0";exact q
    ·walk_at "S0";exact⟨_,.str _,_,mf "str" "int" `g `a,q⟩
    ·walk_at "S0";exact⟨_,.str _,_,mf "str" "str" true `a,q⟩
    ·walk_at "S0";refine⟨_,.str _,_,mf "str" "str" true `a,?_⟩;walk_at "S0";exact q H (.refl H)
  ·subst hnm;obtain⟨T,tp1,tp2,tl,src1,src2,h1,h2,e1,e2⟩:∃(T:String)(tp1:TyOf K H (.ref p) (.type T))(tp2:TyOf K H (.ref q') (.type T))(tl:(T="list"/\SqL K H p xs/\SqL K H q' ys)\/(T="tuple"/\SqT K H p xs/\SqT K H q' ys))(src1 src2:Src),(∀H',Same H H'->src1.has K H' xs)/\(∀H',Same H H'->src2.has K H' ys)/\src1.val=`E/\src2.val=.ref q':=by
    rcases hk with⟨a,b⟩|⟨a,b⟩
    ·exact⟨"list",.lst a,.lst b,.inl ⟨`a,GD a,GD b⟩,.lst p,.lst q',λH' e=>GD<|e _ _ a,λH' e=>GD<|e _ _ b,`a,`a⟩
    ·exact⟨"tuple",.tup a,.tup b,.inr ⟨`a,a,b⟩,.tup p,.tup q',λH' e=>GL e a,λH' e=>GL e b,`a,`a⟩
   have hi0:0 (Ht K (.type T)<|.type "int") `g:=by rcases tl with⟨rfl,_⟩|⟨rfl,_⟩;exact mf _ _ _ `a;exact mf _ _ _ `a
   have hs0:0 (Ht K (.type T)<|.type "str") `g:=by rcases tl with⟨rfl,_⟩|⟨rfl,_⟩;exact mf _ _ _ `a;exact mf _ _ _ `a
   obtain⟨bl,hl0,hl1⟩:∃bl,0 (Ht K (.type T)<|.type "list") bl/\0 (Ht K (.type T)<|.type "tuple") (!bl):=by rcases tl with⟨rfl,_⟩|⟨rfl,_⟩;exact⟨true,mf _ _ _ `a,mf _ _ _ `a⟩;exact⟨`g,mf _ _ _ `a,mf _ _ _ `a⟩
   have ln1:oK K `E H `i:=by rcases tl with⟨_,t1,_⟩|⟨_,t1,_⟩;exact .inl (9 t1 `a);exact .inr (9 t1 `a)
   have ln2:oK K (.ref q') H ys.length:=by rcases tl with⟨_,_,t2⟩|⟨_,_,t2⟩;exact .inl (9 t2 `a);exact .inr (9 t2 `a)
   refine ir (λQ q=>?_) (ir (λQ q=>?_)<|ir (λQ q=>?_)<|ir (λQ q=>?_)<|ir (λQ q=>?_)<|ir (λQ q=>?_) ?_);·walk_at "S0";exact q
   ·walk_at "S0";exact⟨_,tp2,_,hi0,q⟩
   ·walk_at "S0";exact⟨_,tp2,_,hs0,q⟩
   ·walk_at "S0";refine⟨_,tp2,_,hl0,?_⟩;cases bl with
    |false=>exact q
    |true=>walk_at "S0";exact⟨_,tp1,_,hl0,q⟩
   ·walk_at "S0";refine⟨_,tp2,_,hl1,?_⟩;cases bl with
    |true=>exact q
    |false=>walk_at "S0";exact⟨_,tp1,_,hl1,q⟩
   ·walk_at "S0";refine⟨_,ln1,_,ln2,?_⟩;simp only[hl,df,bU,dO,bZ,tC,ff,ax,bc,cW,aF,cE,bt,cX,bL,d6,tB,gG,rU,gb,rI,d9,cM,bu,bK,gR,du,gX,dv,bT,dw,bX,gH,bR,aW,fS,dg,gV,gS,gT,dz,dB,cP,de,dA,aS,bq,L2.start,FQ,J5,JK,Jg,Hj,GG,K7,Hu,Kv,Kw,GN,Gq,JB,exists_eq_left',exists_eq_left,exists_and_left,exists_eq',exists_const,Im.injEq,PL.injEq,Jo.injEq,V.ref.injEq,V.ty.injEq,Lz,and_true,true_and,reduceCtorEq,false_and,and_false,exists_false,or_false,false_or,decide_eq_true_eq,KO,decide_eq_false_iff_not,if_true,if_false,Fv,ite_true,ite_false,Jb,M1,Mh,Mj,and_assoc];exact q
   ·walk_at "S1";refine⟨_,`a,_,`a,src1,src2,xs,ys,by rw[e1,e2],h1 H<|.refl H,h2 H<|.refl H,xU (λi M H2=>Same H H2/\∃a b,M=[27 p,27 q',a,b]) ⟨.refl H,`c,`c,`a⟩ (λi M H2⟨e,_⟩=>⟨h1 H2 e,h2 H2 e⟩) hl ?_ ?_⟩
    ·rintro i x y r M H2 hx hy hr' ⟨e,a,b,rfl⟩;walk_at "S1";refine⟨_,Na aG,`a,?_⟩;walk_at "S1";refine⟨x,y,`a,.inl ⟨(hi i x y hx hy).same<|e.trans<|dH hr',λH3 e3=>?_⟩⟩;walk_at "S1";exact e.trans ((dH hr').trans e3)
    ·rintro M H2 ⟨e,a,b,rfl⟩;walk_at "S1";exact q H2 e
def su(K:EL):Sp:=λvs H Q _=>∃(a:Addr)(ns:List Int),vs=[.ref a]/\SqL K H a (ns.map Im)/\ns.length<=63/\∀H',Q (.bl true) H'
end
end Wb
namespace Mi
theorem lL{s:`H}(hs:s.length<=63)(k:Nat)(hk:k<=200):∃n,iq s (k:Int)=.ok n:=by
 unfold iq Cs;by_cases h:(k:Int)<(s.length:Int)
 ·rw[Z0 (by simpa using h)];obtain⟨x,e,_⟩:=fq (xs:=s) (i:=(k:Int)) `b h;exact⟨x,e⟩
 ·rw[Z1 (by simpa using h),p9 `b `b];exact⟨_,`a⟩
theorem AO(c b:Int)(hb:1<=b)(hb2:b<1073741824)(k:Nat)(s:Int×Int×`H)(h1:0<=s.2.1)(hl:s.2.2.length<100000):∃s':Int×Int×List Int,Bd c b (k:Int) s=.ok s'/\0<=s'.2.1/\∃v,0<=v/\v<b/\s'.2.2=s.2.2++[v]:=by
 unfold Bd;have hm0:=Fm (s.1*48271+7919+(k:Int)) (show(2147483647:Int)≠0 by decide);have hm1:=Fb (s.1*48271+7919+(k:Int)) (show(0:Int)<2147483647 by decide);generalize (s.1*48271+7919+(k:Int))%2147483647=mx at*
 have other:∀z:Int,0<=z%b/\z%b<b:=λz=>⟨Fm _ `b,Fb _ `b⟩
 have A:∀z:Int,gZ s.2.2 z=.ok (s.2.2++[z]):=λz=>gf hl;have e2:(13 ((ko mx mx).bind λa0=>EJ<|a0%1000003) (λa1=>gY a1 b) λa2=>gZ s.2.2 a2)=.ok (s.2.2++[mx*mx%1000003%b]):=by
  rw[lg `b `b];simp only[EG];rw[dU `b];exact A _
 have e1:((gY s.2.1 b).bind λa3=>gZ s.2.2 a3)=.ok (s.2.2++[s.2.1%b]):=by rw[dU `b];exact A _
 by_cases hf:(1000000000000000000:Int)<=cy c
 ·rw[decide_eq_true hf];by_cases hp:0<s.2.1
  ·rw[decide_eq_true hp];simp only[if_true,EG,e1,p8 (show 0<b by omega) hb2];exact⟨_,`a,Int.ediv_nonneg h1 `b,_,(other _).1,(other _).2,`a⟩
  ·rw[decide_eq_false hp];simp only[if_true,EG,Fv,if_false,e2];exact⟨_,`a,h1,_,(other _).1,(other _).2,`a⟩
 ·rw[decide_eq_false hf];simp only[EG,Fv,if_false,e2];exact⟨_,`a,h1,_,(other _).1,(other _).2,`a⟩
theorem og(c:Int)(n:Nat)(b:Int)(hn:n<=1000)(hb:1<=b)(hb2:b<1073741824):∃ns,ju c (n:Int) b=.ok ns/\ns.length=n/\∀x∈ns,0<=x/\x<b:=by
 unfold ju Ct;rw[jM `b,EG];obtain⟨s,e,h0,hl,hb⟩:=di (f:=Bd c b) (λpre(s:Int×Int×List Int)=>0<=s.2.1/\s.2.2.length=pre.length/\∀x∈s.2.2,0<=x/\x<b) ((FP n).map λ(i:Nat)=>(i:Int)) ((cy c)%2147483647,cy c,[]) ⟨yd c,`a,`f⟩ (by
  intro pre a post s e ⟨h0,hl,hb'⟩;have hlen:pre.length<n:=by have:=congrArg Hk e;simp at this;omega
  obtain⟨k,rfl⟩:∃k:Nat,a=(k:Int):=by
   have:a∈(FP n).map λ(i:Nat)=>(i:Int):=by rw[e];simp
   obtain⟨k,_,hk⟩:=Fo.mp this;exact⟨k,hk.symm⟩
  obtain⟨s',e',h0',v,v0,v1,ev⟩:=AO c b hb hb2 k s h0 `b;refine⟨s',e',h0',by rw[ev];simp[hl],λx hx=>?_⟩;rw[ev]at hx;rcases FX.mp hx with z|z;·exact hb' x z
  ·rw[H9.mp z];exact⟨v0,v1⟩)
 rw[e];exact⟨_,rfl,by rw[hl];simp,hb⟩
def isTurn(c:Nat):Prop:=c=102\/c=98\/c=105
instance zkeep89(c:Nat):Decidable (isTurn c):=by unfold isTurn;infer_instance
def cH(t:Tx):Prop:=∀c∈t,isTurn c
structure Card(t:Cd):Prop where
 lay:t.1=[83]\/t.1=[90]
 four:t.2.1.length=4
 col:∀c∈t.2.1,97<=c/\c<=122
 low:0<=t.2.2
 high:t.2.2<4
theorem wL(sz:Int)(ds:`H)(hsz:1<=sz)(hd:ds.length=5)(a:Int)(t:Tx)(ht:t.length<1000):∃c,97<=c/\c<=122/\Be sz ds a t=.ok (t++[c]):=by
 unfold Be;obtain⟨x,e,_⟩:=fq (xs:=ds) (i:=4) ⋯ (by rw[hd];decide);rw[e];simp only[EG,dU (show 0<sz by omega)];have h0:=Fm (x+a%sz*7) (show(26:Int)≠0 by decide);have h1:=Fb (x+a%sz*7) (show(0:Int)<26 by decide);generalize (x+a%sz*7)%26=r at h0 h1;obtain⟨c,e2,h2⟩:=iF (x:=([97,98,99,100,101,102,103,104,105,106,107,108,109,110,111,112,113,114,115,116,117,118,119,120,121,122]:Tx)) (i:=r) h0 (by simp;omega) ⋯;rw[e2];simp only[EG,cD (show t.length+[c].length<=100000 by simp;omega)];have hc:c∈([97,98,99,100,101,102,103,104,105,106,107,108,109,110,111,112,113,114,115,116,117,118,119,120,121,122]:Tx):=F3 h2;have:∀c∈([97,98,99,100,101,102,103,104,105,106,107,108,109,110,111,112,113,114,115,116,117,118,119,120,121,122]:Tx),97<=c/\c<=122:=`M
 exact⟨c,(this c hc).1,(this c hc).2,`a⟩
theorem wM(c:Int):∃t,yG c=.ok t/\t.length=4/\∀x∈t,97<=x/\x<=122:=by
 unfold yG Cu;have h0:=Fm c (show(5:Int)≠0 by decide);have h1:=Fb c (show(0:Int)<5 by decide);obtain⟨sz,e,h2⟩:=fq (xs:=[(1:Int),2,3,4,26]) (i:=c%5) h0 (by simp;omega);have hsz:1<=sz:=by
  have:∀x∈[(1:Int),2,3,4,26],1<=x:=`M
  exact this sz (F3 h2)
 rw[e,EG];obtain⟨ds,e2,hd,_⟩:=og (c/5) 5 26 ⋯ ⋯ ⋯;rw[show ju (c/5) 5 26=EJ ds from e2,EG,show cut ds `c (some 4)=ds.take 4 from gA ds 4];obtain⟨t,e3,h3,h4⟩:=di (f:=Be sz ds) (λpre t=>t.length=pre.length/\∀x∈t,97<=x/\x<=122) (ds.take 4) [] ⟨`a,`f⟩ (by
  intro pre a post t e ⟨hl,hb⟩;have hlen:pre.length<5:=by have:=congrArg Hk e;simp at this;omega
  obtain⟨c,c0,c1,ec⟩:=wL sz ds hsz hd a t `b;refine⟨_,ec,by simp[hl],λx hx=>?_⟩;rcases FX.mp hx with z|z;·exact hb x z
  ·rw[H9.mp z];exact⟨c0,c1⟩)
 rw[e3];exact⟨t,rfl,by rw[h3,GP];omega,h4⟩
theorem sv(c:Int):∃t,xw c=.ok t/\Card t:=by
 unfold xw Cv;have h0:=Fm c (show(2:Int)≠0 by decide);have h1:=Fb c (show(0:Int)<2 by decide);obtain⟨y,e,h2⟩:=iF (x:=([83,90]:Tx)) (i:=c%2) h0 (by simp;omega) ⋯;obtain⟨t,e2,hl,hb⟩:=wM<|c/8;rw[e,EG,e2,EG];refine⟨_,`a,?_,hl,hb,Fm _ ⋯,Fb _ ⋯⟩;have:y=83\/y=90:=by simpa using F3 h2
 rcases this with rfl|rfl;·exact `G
 ·exact .inr `a
theorem qV(d:Int)(h0:0<=d)(h1:d<3):∃c,gc ([102,98,105]:Tx) d=.ok [c]/\isTurn c:=by
 obtain⟨c,e,h⟩:=iF (x:=([102,98,105]:Tx)) (i:=d) h0 (by simp;omega) ⋯;refine⟨c,e,?_⟩;have:=F3 h;simpa [isTurn] using this
theorem wN(c:Int)(n:Nat)(hn:n<=1000):∃t,yH c (n:Int)=.ok t/\t.length=n/\cH t:=by
 unfold yH Cw;by_cases h:c%7=3
 ·rw[Z0 (by simpa using h)];obtain⟨y,e,hy⟩:=qV (c/7%3) (Fm _ ⋯) (Fb _ ⋯);rw[e,EG,yb `b `b];refine⟨_,`a,`f,λx hx=>?_⟩;rw[List.eq_of_mem_replicate hx];exact hy
 ·rw[Z1 (by simpa using h)];obtain⟨ds,e,hl,hb⟩:=og (c/7) n 3 hn ⋯ ⋯;rw[e,EG];have key:∃t:List Nat,(eK ds λ(a9:Int)=>gc ([102,98,105]:Tx) a9)=.ok (t.map λc=>[c])/\t.length=n/\cH t:=by
   have:∀d∈ds,∃c:Nat,gc ([102,98,105]:Tx) d=.ok [c]/\isTurn c:=λd hd=>qV d (hb d hd).1 (hb d hd).2;have hf:∀d∈ds,gc ([102,98,105]:Tx) d=.ok ((λd=>[if d=0 then 102 else if d=1 then 98 else 105]) d):=λd hd=>by
    have h1:=hb d hd;have:d=0\/d=1\/d=2:=`b
    rcases this with rfl|rfl|rfl<;>rfl
   rw[dJ (by show ds.length<=100000;omega) hf];refine⟨ds.map λd=>if d=0 then 102 else if d=1 then 98 else 105,`f,by simp[hl],λx hx=>?_⟩;obtain⟨d,_,rfl⟩:=Fo.mp hx;unfold isTurn;split;·exact `G
   ·split;·exact .inr `G
    ·exact .inr (.inr `a)
  obtain⟨t,e2,hl2,ht⟩:=key;rw[e2,EG,pf (by rw[rM];omega),rM];exact⟨t,`a,hl2,ht⟩
def go(c:Nat):Int:=if c=102 then 1 else if c=98 then -1 else 0
def tw(t:Cd)(c:Nat):Int:=if t.1=[83]then go c else -go c
def f6(t:Cd)(i:Int):Nat:=t.2.1[i.toNat]?.getD 0
def pP(i:Int):Nat:=if i=1 then 115 else if i= -1 then 122 else 111
def behind(t:Cd)(c:Nat):Cd:=(t.1,t.2.1,(t.2.2+go c)%4)
def place(t:Cd)(c:Nat):Pl:=([f6 t t.2.2],[f6 t ((t.2.2+2)%4)],[pP (tw t c)])
theorem Ci(c:Nat): -1<=go c/\go c<=1:=by unfold go;split;omega;split<;>omega
theorem wO(t:Cd)(c:Nat): -1<=tw t c/\tw t c<=1:=by have:=Ci c;unfold tw;split<;>omega
theorem Card.behind{t:Cd}(h:Card t)(c:Nat):Card (behind t c):=⟨h.lay,h.four,h.col,Fm _ ⋯,Fb _ ⋯⟩
theorem zS{c:Nat}(h:isTurn c):qe [c]=.ok (go c):=by
 unfold qe Cy;rcases h with rfl|rfl|rfl<;>rfl
theorem mX{t:Cd}{c:Nat}(h:isTurn c):kK t [c]=.ok (behind t c):=by
 unfold kK Cz;rw[zS h];rfl
theorem jx{t:Cd}{c:Nat}(h:isTurn c):fF t [c]=.ok (tw t c):=by
 unfold fF CA;rw[zS h];by_cases z:t.1=[83]
 ·rw[Z0 `W];unfold tw;rw[Z0 z]
 ·rw[Z1 `W];unfold tw;rw[Z1 z];simp only[EG];congr 1;omega
theorem eY{t:Cd}(h:Card t){i:Int}(h0:0<=i)(h1:i<4):gc t.2.1 i=.ok [f6 t i]:=An h0 (by rw[h.four];exact h1) (by rw[h.four];decide)
theorem gr(i:Int):0<=i%4/\i%4<4:=⟨Fm _ ⋯,Fb _ ⋯⟩
theorem wQ{i:Int}(h: -1<=i/\i<=1):gc ([122,111,115]:Tx) (i+1)=.ok [pP i]:=by
 have:i= -1\/i=0\/i=1:=`b
 rcases this with rfl|rfl|rfl<;>rfl
def fe:Cd->Tx->`m
 |_,[]=>[]
 |t,c::r=>place (behind t c) c::fe (behind t c) r
def ends:Cd->Tx->Cd
 |t,[]=>t
 |t,c::r=>ends (behind t c) r
theorem qW(t:Cd)(x:Tx):(fe t x).length=`F:=by
 induction x generalizing t with
 |nil=>rfl
 |cons c r ih=>simp[fe,ih]
theorem wR(x:Tx):∀(t:Cd)(c:Nat),ends t (x++[c])=behind (ends t x) c:=by
 induction x with
 |nil=>intro t c;rfl
 |cons d r ih=>intro t c;simp[ends,ih]
theorem Card.ends{t:Cd}(h:Card t)(x:Tx):Card (ends t x):=by
 induction x generalizing t with
 |nil=>exact h
 |cons c r ih=>exact ih (h.behind c)
theorem ub{t:Cd}(h:Card t){c:Nat}(hc:isTurn c){out:`m}(ho:out.length<100000):Bf kK fF [c] (t,out)=.ok (behind t c,out++[place (behind t c) c]):=by
 unfold Bf;have hb:=h.behind c;simp only[mX hc,EG,jx hc,wQ<|wO _ _,eY hb hb.low hb.high,eY hb (gr _).1 (gr _).2];rw[gf ho];rfl
theorem mY{t:Cd}(h:Card t){x:Tx}(hx:cH x)(hl:`F<=10000):qP t x=.ok (fe t x):=by
 unfold qP CB;have key:∀(x:Tx)(t:Cd)(out:List Pl),Card t->cH x->out.length+`F<=10000->bO (Bf kK fF) (bF x) (t,out)=.ok (ends t x,out++fe t x):=by
  intro x
  induction x with
  |nil=>intro t out _ _ _;simp[bF,bO,ends,fe]
  |cons c r ih=>
   intro t out h hx hl;simp only[GG]at hl;show bO _ ([c]::bF r) _=_;unfold bO;rw[ub h (hx c `f) `b,EG,ih _ _ (h.behind c) (λd hd=>hx d<|by simp[hd]) (by simp;omega)];simp[ends,fe]
 rw[key x t [] h hx (by simpa using hl)];simp
def isCol(c:Nat):Prop:=97<=c/\c<=122
def isSl(c:Nat):Prop:=c=115\/c=122\/c=111
structure Mark(m:Pl):Prop where
 a:∃c,m.1=[c]/\(isCol c\/c=63)
 b:∃c,m.2.1=[c]/\(isCol c\/c=63)
 s:∃c,m.2.2=[c]/\(isSl c\/c=63)
structure Whole(m:Pl):Prop where
 a:∃c,m.1=[c]/\isCol c
 b:∃c,m.2.1=[c]/\isCol c
 s:∃c,m.2.2=[c]/\isSl c
theorem pQ{t:Cd}(h:Card t){i:Int}(h0:0<=i)(h1:i<4):isCol (f6 t i):=by
 unfold f6;have:i.toNat<t.2.1.length:=by rw[h.four];omega
 simp only[EH this,GQ];exact h.col _ (J6 this)
theorem wU(i:Int):isSl (pP i):=by unfold pP isSl;split;exact `G;split;exact .inr `G;exact .inr (.inr `a)
theorem pR{t:Cd}(h:Card t)(c:Nat):Whole (place t c):=⟨9 `a<|pQ h h.low h.high,9 `a<|pQ h (gr _).1 (gr _).2,9 `a<|wU _⟩
theorem oh{t:Cd}(h:Card t)(x:Tx):∀m∈fe t x,Whole m:=by
 induction x generalizing t with
 |nil=>intro m hm;simp[fe]at hm
 |cons c r ih=>
  intro m hm;rcases F0.mp hm with rfl|hm
  ·exact pR (h.behind c) c
  ·exact ih (h.behind c) m hm
theorem pS{c:Nat}(h:isCol c):∃j d,isCol d/\ku ([97,98,99,100,101,102,103,104,105,106,107,108,109,110,111,112,113,114,115,116,117,118,119,120,121,122,97]:Tx) [c]=.ok j/\gc ([97,98,99,100,101,102,103,104,105,106,107,108,109,110,111,112,113,114,115,116,117,118,119,120,121,122,97]:Tx) (j+1)=.ok [d]:=by
 have key:∀k:Fin 26,1 (match ku ([97,98,99,100,101,102,103,104,105,106,107,108,109,110,111,112,113,114,115,116,117,118,119,120,121,122,97]:Tx) [97+k.1]with| .ok j=>(match gc ([97,98,99,100,101,102,103,104,105,106,107,108,109,110,111,112,113,114,115,116,117,118,119,120,121,122,97]:Tx) (j+1)with| .ok [d]=>decide (97<=d/\d<=122)|_=>false)|_=>false):=`M
 obtain⟨k,rfl⟩:∃k:Fin 26,c=97+k.1:=⟨⟨c-97,by have:=h.1;have:=h.2;omega⟩,by have:=h.1;show c=97+(c-97);omega⟩
 have:=key k;split at this
 ·rename_i j e;split at this
  ·rename_i d e2;exact⟨j,d,by simpa [isCol] using this,e,e2⟩
  ·cases this
 ·cases this
theorem z7{c:Nat}(h:isSl c):∃j d,isSl d/\ku ([115,122,111]:Tx) [c]=.ok j/\gc ([122,111,115]:Tx) j=.ok [d]:=by
 rcases h with rfl|rfl|rfl;·exact⟨0,122,.inr `G,`a,`a⟩
 ·exact⟨1,111,.inr<|.inr `a,`a,`a⟩
 ·exact⟨2,115,`G,`a,`a⟩
def z8(l:List Tx):Prop:=∃a b c,l=[[a],[b],[c]]/\isCol a/\isCol b/\isSl c
theorem wV(cell:Int){p:Pl}(hp:Whole p){d:Int}(h0:0<=d)(h1:d<64){out:`m}(ho:out.length<1000):(Bg cell (p,d) out).Ok λr=>∃m,Mark m/\r=out++[m]:=by
 unfold Bg;obtain⟨⟨a,ea,ha⟩,⟨b,eb,hb⟩,⟨s,es,hs⟩⟩:=hp;simp only[ea,eb,es];refine fB (FK (P:=λd'=>0<=d'/\d'<64) (iG (λ_=>dC ⟨`b,`b⟩) λ_=>dC ⟨h0,h1⟩) λd1 hd1=>?_);refine fB (FK (P:=λd'=>0<=d'/\d'<64) (iG (λ_=>dC ⟨`b,`b⟩) λ_=>dC hd1) λd2 hd2=>?_);have hm0:=Fm d2 (show(3:Int)≠0 by decide);have hm1:=Fb d2 (show(0:Int)<3 by decide);have step1:((if(decide<|(56:Int)<=d2)then EJ (decide<|(d2%3)<(2:Int))else EJ `g).bind λa4=>(if a4 then 13 (13 ((dG [[a],[b],[s]]<|d2%3).bind λa5=>ku ([97,98,99,100,101,102,103,104,105,106,107,108,109,110,111,112,113,114,115,116,117,118,119,120,121,122,97]:Tx) a5) (λa6=>EJ<|a6+(1:Int)) λa7=>gc ([97,98,99,100,101,102,103,104,105,106,107,108,109,110,111,112,113,114,115,116,117,118,119,120,121,122,97]:Tx) a7) (λa8=>kq [[a],[b],[s]] (d2%3) a8) λa9=>EJ a9 else EJ [[a],[b],[s]]:11 Tx)).Ok z8:=by
  have dflt:z8 [[a],[b],[s]]:=⟨a,b,s,`a,ha,hb,hs⟩
  refine fB (iG (λ_=>dC ?_) λ_=>dC dflt);refine iG (λh2=>?_) λ_=>dC dflt;generalize d2%3=r at*
  have:r=0\/r=1:=`b
  rcases this with rfl|rfl
  ·obtain⟨j,d,hd,e1,e2⟩:=pS ha;simp only[show dG [[a],[b],[s]] 0=EJ [a]from rfl,EG,e1,e2,show kq [[a],[b],[s]] 0 [d]=EJ [[d],[b],[s]]from rfl];exact dC ⟨d,b,s,`a,hd,hb,hs⟩
  ·obtain⟨j,d,hd,e1,e2⟩:=pS hb;simp only[show dG [[a],[b],[s]] 1=EJ [b]from rfl,EG,e1,e2,show kq [[a],[b],[s]] 1 [d]=EJ [[a],[d],[s]]from rfl];exact dC ⟨a,d,s,`a,ha,hd,hs⟩
 refine fB (step1.imp λl1 ht=>?_);obtain⟨a,b,s,rfl,ha,hb,hs⟩:=ht;have step2:((if(decide<|(56:Int)<=d2)then EJ (decide<|(d2%3)=(2:Int))else EJ `g).bind λb0=>(if b0 then 13 (13 (dG [[a],[b],[s]] (2:Int)) (λb1=>ku ([115,122,111]:Tx) b1) λb2=>gc ([122,111,115]:Tx) b2) (λb3=>kq [[a],[b],[s]] (2:Int) b3) λb4=>EJ b4 else EJ [[a],[b],[s]]:11 Tx)).Ok z8:=by
  have dflt:z8 [[a],[b],[s]]:=⟨a,b,s,`a,ha,hb,hs⟩
  refine fB (iG (λ_=>dC ?_) λ_=>dC dflt);refine iG (λh2=>?_) λ_=>dC dflt;obtain⟨j,d,hd,e1,e2⟩:=z7 hs;simp only[show dG [[a],[b],[s]] 2=EJ [s]from rfl,EG,e1,e2,show kq [[a],[b],[s]] 2 [d]=EJ [[a],[b],[d]]from rfl];exact dC ⟨a,b,d,`a,ha,hb,hd⟩
 refine fB (step2.imp λl2 ht=>?_);obtain⟨a,b,s,rfl,ha,hb,hs⟩:=ht;have cell1:∀(x:Nat)(k:Int),0<k->k<10->∃y,((((l4 d2 k).bind λa0=>EJ<|a0%2).bind λa1=>EJ<|decide<|a1=(1:Int)).bind λa2=>if a2 then EJ [x]else EJ ([63]:Tx))=.ok [y]/\(y=x\/y=63):=λx k k0 k1=>by
  rw[p8 k0 `b];simp only[EG];by_cases h:d2/k%2=1;·rw[Z0 (by simpa using h)];exact⟨x,`a,`G⟩
  ·rw[Z1 (by simpa using h)];exact⟨63,`a,.inr `a⟩
 obtain⟨x,ex,hx⟩:=cell1 a 1 ⋯ ⋯;obtain⟨y,ey,hy⟩:=cell1 b 2 ⋯ ⋯;obtain⟨z,ez,hz⟩:=cell1 s 4 ⋯ ⋯;have ec:eK ([[a],[b],[s]].zip [(1:Int),2,4]) (λ(a3:Tx×Int)=>(((l4 d2 a3.2).bind λa0=>EJ<|a0%2).bind λa1=>EJ<|decide<|a1=(1:Int)).bind λa2=>if a2 then EJ a3.1 else EJ ([63]:Tx))=.ok [[x],[y],[z]]:=by
  unfold eK;rw[bE (show([[a],[b],[s]].zip [(1:Int),2,4]).length<=cap from(by show 3<=100000;decide)),EG];show jf _ [([a],(1:Int)),([b],2),([s],4)]=_;simp only[jf,ex,ey,ez,EG]
 simp only[ec,EG,Ai,gf (show out.length<100000 by omega)];refine 9 ⟨⟨x,`a,?_⟩,⟨y,`a,?_⟩,⟨z,`a,?_⟩⟩ `a
 ·rcases hx with rfl | rfl;·exact .inl ha
  ·exact .inr `a
 ·rcases hy with rfl | rfl;·exact .inl hb
  ·exact .inr `a
 ·rcases hz with rfl | rfl;·exact .inl hs
  ·exact .inr `a
def wW(n:Nat)(l:`m):Prop:=l.length=n/\∀m∈l,Mark m
theorem oi{Z β:Type}{xs:`r}{ys:List β}{p:Z×β}(h:p∈xs.zip ys):p.1∈xs/\p.2∈ys:=⟨(IE h).1,(IE h).2⟩
theorem wX{ps:`m}(hp:∀p∈ps,Whole p)(hl:ps.length<=900)(cell:Int)(lies:Bool):(yI ps cell lies).Ok (wW ps.length):=by
 unfold yI CC;have e0:∃b:Int,((ko (8:Int) (if lies then(1:Int)else 0)).bind λy9=>EJ<|(56:Int)+y9)=.ok b/\56<=b/\b<=64:=by
  cases lies;·exact⟨56,`a,`M,`M⟩
  ·exact⟨64,`a,`M,`M⟩
 obtain⟨b,eb,hb0,hb1⟩:=e0;rw[eb,EG];obtain⟨ns,en,hn,hns⟩:=og (cell/5) ps.length b `b `b `b;rw[en,EG];obtain⟨r,er,hr⟩:=di (f:=Bg cell) (λpre r=>wW pre.length r) (ps.zip ns) [] ⟨`a,`f⟩ (by
  intro pre a post s e ⟨h1,h2⟩;have ha:a∈ps.zip ns:=by rw[e];simp
  have hlen:pre.length<900:=by have:=congrArg Hk e;simp[Jf,hn]at this;omega
  obtain⟨r,er,m,hm,rfl⟩:=(wV cell (hp _ (oi ha).1) (hns _ (oi ha).2).1 (by have:=(hns _ (oi ha).2).2;omega) (out:=s) `b).ex;refine⟨_,er,by simp[h1],λx hx=>?_⟩;rcases FX.mp hx with z|z;·exact h2 x z
  ·rw[H9.mp z];exact hm)
 rw[er];refine⟨by rw[hr.1,Jf,hn];omega,hr.2⟩
def sx(t:Cd):Cd:=(if t.1=[83]then [90]else [83],[f6 t 0,f6 t 3,f6 t 2,f6 t 1],(0-t.2.2)%4)
def qX(c:Nat):Nat:=if c=102 then 98 else if c=98 then 102 else c
def sy(t:Cd)(k:Int):Cd:=(t.1,[f6 t ((0-k)%4),f6 t<|(1-k)%4,f6 t<|(2-k)%4,f6 t<|(3-k)%4],(t.2.2+k)%4)
theorem pT{t:Cd}(h:Card t):yJ t=.ok (sx t):=by
 unfold yJ CD;have e1:((ku ([83,90]:Tx) t.1).bind λy5=>gc ([90,83]:Tx) y5)=.ok (if t.1=[83]then [90]else [83]):=by
  rcases h.lay with e|e<;>rw[e]<;>rfl
 rw[e1];simp only[EG,eY h (show(0:Int)<=0 by decide) ⋯,eY h (show(0:Int)<=3 by decide) ⋯,eY h (show(0:Int)<=2 by decide) ⋯,eY h (show(0:Int)<=1 by decide) ⋯];rfl
theorem wY{t:Cd}(h:Card t){x:Tx}(e:∀c∈x,∃i:Int,0<=i/\i<4/\c=f6 t i):∀c∈x,97<=c/\c<=122:=λc hc=>by
 obtain⟨i,h0,h1,rfl⟩:=e c hc;unfold f6;have:i.toNat<t.2.1.length:=by rw[h.four];omega
 simp only[EH this,GQ];exact h.col _ (J6 this)
theorem Card.flip{t:Cd}(h:Card t):Card (sx t):=by
 refine⟨?_,`a,wY h λc hc=>?_,(gr _).1,(gr _).2⟩
 ·unfold sx;split;·exact .inr `a
  ·exact `G
 ·have:c=f6 t 0\/c=f6 t 3\/c=f6 t 2\/c=f6 t 1:=by simpa [sx] using hc
  rcases this with rfl|rfl|rfl|rfl;·exact⟨0,`M,`M,`a⟩
  ·exact⟨3,`M,`M,`a⟩
  ·exact⟨2,`M,`M,`a⟩
  ·exact⟨1,`M,`M,`a⟩
theorem Card.roll{t:Cd}(h:Card t)(k:Int):Card (sy t k):=by
 refine⟨h.lay,`a,wY h λc hc=>?_,(gr _).1,(gr _).2⟩;have:c=f6 t ((0-k)%4)\/c=f6 t ((1-k)%4)\/c=f6 t ((2-k)%4)\/c=f6 t ((3-k)%4):=by simpa [sy] using hc
 rcases this with rfl|rfl|rfl|rfl<;>exact⟨_,(gr _).1,(gr _).2,rfl⟩
theorem z9{t:Cd}(h:Card t)(k:Int):yL t k=.ok (sy t k):=by
 unfold yL CG;rw[show fb (4:Int)=EJ [(0:Int),1,2,3]from rfl,EG];rw[dJ (g:=λi:Int=>[f6 t ((i-k)%4)]) ⋯ λi _=>eY h (gr _).1 (gr _).2];rfl
theorem wZ{c:Nat}(h:isTurn c):isTurn (qX c):=by
 unfold qX;rcases h with rfl|rfl|rfl
 ·exact .inr `G
 ·exact `G
 ·exact .inr (.inr `a)
theorem za{x:Tx}(h:cH x)(hl:`F<=10000):yK x=.ok (x.map qX):=by
 unfold yK CF;rw[dJ (g:=λt:Tx=>[qX (t.headD 0)]) (by show(bF x).length<=100000;simp[bF];omega) (λt ht=>by
  obtain⟨c,hc,rfl⟩:=fc ht;rcases h c hc with rfl|rfl|rfl<;>rfl),EG]
 have e:((bF x).map λt:Tx=>[qX (t.headD 0)])=(x.map qX).map λc=>[c]:=by simp[bF]
 rw[e,pf (by rw[rM];simp;omega),rM]
theorem qY{x:Tx}(h:cH x):cH (x.map qX):=λc hc=>by
 obtain⟨d,hd,rfl⟩:=Fo.mp hc;exact wZ (h d hd)
theorem sA(i:Int)(l:`H)(hl:l.length<1000):∃l',Bh i l=.ok l'/\(∀x,x∈l'↔x∈l\/x=i)/\(l.Nodup->l'.Nodup)/\l'.length<=l.length+1:=by
 unfold Bh;by_cases h:i∈l
 ·refine⟨l,?_,λx=>⟨.inl,λz=>z.elim id λe=>e▸h⟩,id,`b⟩;rw[Z1 (by simp[h])];rfl
 ·refine⟨l++[i],?_,λx=>`f,λhn=>?_,`f⟩;·rw[Z0 (by simp[h]),gf `b];rfl
  ·rw[KQ];exact⟨hn,`f,λa ha b hb=>by simp at hb;subst hb;intro e;subst e;exact h ha⟩
def zT(t:Cd)(x:Tx)(i:Int):Prop:=∃k,0<k/\k<=`F/\(i=(ends t<|x.take k).2.2\/i=((ends t<|x.take k).2.2+2)%4)
theorem zb{t:Cd}(h:Card t){x:Tx}(hx:cH x)(hl:`F<=900):∃l,yM t x=.ok l/\l.Pairwise (· <= ·)/\l.Nodup/\(∀i∈l,0<=i/\i<4)/\∀i,i∈l↔zT t x i:=by
 unfold yM CH;obtain⟨s,e,h1,h2,h3,h4⟩:=di (f:=C8 kK) (λpre(s:Cd×List Int)=>s.1=ends t (x.take pre.length)/\s.2.Nodup/\(∀i∈s.2,0<=i/\i<4)/\∀i,i∈s.2↔∃k,0<k/\k<=pre.length/\(i=(ends t<|x.take k).2.2\/i=((ends t<|x.take k).2.2+2)%4)) (bF x) (t,[]) ⟨by simp[ends],`f,`f,λi=>⟨λz=>by simp at z,λ⟨k,a,b,_⟩=>by simp at b;omega⟩⟩ (by
  intro pre a post s e ⟨h1,h2,h3,h4⟩;have ha:a∈bF x:=by rw[e];simp
  obtain⟨c,hc,rfl⟩:=fc ha;have hlen:pre.length<`F:=by have:=congrArg Hk e;simp[bF]at this;omega
  have hget:0 x[pre.length]? c:=by
   have:=congrArg (λl=>l[pre.length]?) e;simp only[bF,ET,F9<|EX _,Jx,GN]at this;cases z:x[pre.length]? with
   |none=>rw[z]at this;cases this
   |some d=>rw[z]at this;simp at this;rw[this]
  have htake:x.take (pre.length+1)=x.take pre.length++[c]:=by
   rw[List.take_add_one,hget];rfl
  have small:s.2.length<=4:=by
   have hsub:s.2 ⊆ [(0:Int),1,2,3]:=λi hi=>by
    have:=h3 i hi;have:i=0\/i=1\/i=2\/i=3:=by omega
    simpa using this
   exact JL h2 hsub
  unfold C8;rw[h1,mX (hx c hc),EG];have hB:Card (behind (ends t<|x.take pre.length) c):=(h.ends _).behind c;generalize hbe:behind (ends t<|x.take pre.length) c=B at hB ⊢;obtain⟨l1,e1,m1,n1,k1⟩:=sA B.2.2 s.2 `b;obtain⟨l2,e2,m2,n2,k2⟩:=sA ((B.2.2+2)%4) l1 `b;have el:bO Bh [B.2.2,(B.2.2+2)%4] s.2=.ok l2:=by simp only[bO,e1,e2,EG]
  rw[el];have hE:ends t (x.take<|pre.length+1)=B:=by rw[htake,wR,hbe]
  refine⟨(B,l2),`a,by simp[hE],n2<|n1 h2,λi hi=>?_,λi=>?_⟩
  ·rcases (m2 i).mp hi with z | z
   ·rcases (m1 i).mp z with z | z;·exact h3 i z
    ·rw[z];exact⟨hB.low,hB.high⟩
   ·rw[z];exact gr _
  ·rw[m2,m1,h4];constructor
   ·rintro ((⟨k,a,b,z⟩ | z) | z);·exact⟨k,a,by simp;omega,z⟩
    ·exact⟨pre.length+1,`b,`f,.inl (by rw[hE];exact z)⟩
    ·exact⟨pre.length+1,`b,`f,.inr (by rw[hE];exact z)⟩
   ·rintro ⟨k,a,b,z⟩;simp at b;rcases OL k (pre.length+1)with q|q;·exact .inl (.inl ⟨k,a,`b,z⟩)
    ·have:k=pre.length+1:=by omega
     subst this;rw[hE]at z;rcases z with z|z
     ·exact .inl (.inr z)
     ·exact .inr z)
 rw[e,EG];have hsub:s.2 ⊆ [(0:Int),1,2,3]:=λi hi=>by
  have:=h3 i hi;have:i=0\/i=1\/i=2\/i=3:=`b
  simpa using this
 have small:=JL h2 hsub
 simp only[GG,K7]at small;rw[vq `b];have pm:=jX s.2;refine⟨_,`a,mI _,pm.nodup_iff.mpr h2,λi hi=>h3 i<|pm.mem_iff.mp hi,λi=>?_⟩;rw[pm.mem_iff,h4];unfold zT;simp[bF]
theorem x4(d:Int)(h0:0<=d)(h1:d<26):∃c,gc ([97,98,99,100,101,102,103,104,105,106,107,108,109,110,111,112,113,114,115,116,117,118,119,120,121,122]:Tx) d=.ok [c]/\97<=c/\c<=122:=by
 obtain⟨c,e,h⟩:=iF (x:=([97,98,99,100,101,102,103,104,105,106,107,108,109,110,111,112,113,114,115,116,117,118,119,120,121,122]:Tx)) (i:=d) h0 (by simp;omega) ⋯;have:∀c∈([97,98,99,100,101,102,103,104,105,106,107,108,109,110,111,112,113,114,115,116,117,118,119,120,121,122]:Tx),97<=c/\c<=122:=`M
 exact⟨c,e,this c<|F3 h⟩
def zc(t:Cd)(i:Nat)(c:Nat):Cd:=(t.1,t.2.1.set i c,t.2.2)
theorem Card.dye{t:Cd}(h:Card t)(i:Nat){c:Nat}(h0:97<=c)(h1:c<=122):Card (zc t i c):=⟨h.lay,by simp[zc,h.four],λx hx=>by
 rcases KD hx with z|z;·exact h.col x z
 ·rw[z];exact⟨h0,h1⟩,h.low,h.high⟩
theorem zd{x:Tx}{i c:Nat}(h:i<`F):x.take i++[c]++x.drop (i+1)=x.set i c:=by
 rw[List.set_eq_take_append_cons_drop,Z0 h];simp
theorem x5{t:Cd}(h:Card t){i:Nat}(hi:i<4)(c:Nat):(13 ((fu t.2.1 `c<|some (i:Int)).bind λa0=>cY a0 [c]) (λa1=>(fu t.2.1 (some<|(i:Int)+(1:Int)) `c).bind λa2=>cY a1 a2) λa3=>EJ (t.1,a3,t.2.2))=.ok (zc t i c):=by
 have hl:t.2.1.length<=100000:=by rw[h.four];decide
 rw[gP hl,gA,EG,cD (by simp;have:=h.four;omega),EG,show(i:Int)+1=((i+1:Nat):Int)from rfl,gP hl,lh,EG,cD (by simp;have:=h.four;omega),EG,zd (by rw[h.four];exact hi)];rfl
theorem AQ(cell:Int)(l:`H){t:Cd}(h:Card t){i:Nat}(hi:i<4):∃t',Bi cell l (i:Int) t=.ok t'/\Card t'/\(t'=t\/(i:Int)∉l/\∃c,t'=zc t i c):=by
 unfold Bi;by_cases z:(i:Int)∈l;·rw[Z1 (by simp[z])];exact⟨t,`a,h,`G⟩
 ·rw[Z0 (by simp[z]),lg `b `b];simp only[EG];obtain⟨c,e,h0,h1⟩:=x4 ((cell/16+5*(i:Int))%26) (Fm _ ⋯) (Fb _ ⋯);rw[e];simp only[EG];have:=x5 h hi c;rw[this];exact⟨_,`a,h.dye i h0 h1,.inr ⟨z,c,`a⟩⟩
theorem AR{t:Cd}(h:Card t){x:Tx}(hx:cH x)(hl:`F<=900)(cell:Int):(yN t x cell).Ok λr=>Card r.1/\cH r.2/\r.2.length=`F:=by
 unfold yN CI;refine fB (FK (P:=λr:Cd×Tx=>Card r.1/\cH r.2/\r.2.length=`F) (iG (λ_=>?_) λ_=>dC ⟨h,hx,`a⟩) λr⟨h1,h2,h3⟩=>?_)
 ·rw[pT h,EG,za hx `b,EG];exact⟨h.flip,qY hx,`f⟩
 ·rw[z9 h1,EG];have hr:=h1.roll<|cell/2%4;generalize sy r.1 (cell/2%4)=R at hr ⊢;refine fB (FK (P:=Card) (iG (λ_=>?_) λ_=>dC hr) λc hc=>dC ⟨hc,h2,h3⟩);obtain⟨l,el,_⟩:=zb hr h2 `b;rw[el,EG,show fb (4:Int)=EJ ((FP 4).map λ(i:Nat)=>(i:Int))from rfl,EG];obtain⟨s,es,hs⟩:=di (f:=Bi cell l) (λpre s=>Card s) ((FP 4).map λ(i:Nat)=>(i:Int)) R hr (by
   intro pre a post s e hs;have ha:a∈(FP 4).map λ(i:Nat)=>(i:Int):=by rw[e];simp
   obtain⟨i,hi,rfl⟩:=Fo.mp ha;obtain⟨t',e',h',_⟩:=AQ cell l hs (IU.mp hi);exact⟨t',e',h'⟩)
  rw[es];exact hs
def standAt(t:Cd)(i:Int):Cd:=(t.1,t.2.1,(if t.1=[83]then t.2.2+i else t.2.2-i)%4)
def fits(p m:Pl):Bool:=(decide (m.1=[63])||decide (m.1=p.1))&&((decide (m.2.1=[63])||decide (m.2.1=p.2.1))&&(decide (m.2.2=[63])||decide (m.2.2=p.2.2)))
theorem Card.standAt{t:Cd}(h:Card t)(i:Int):Card (standAt t i):=⟨h.lay,h.four,h.col,(gr _).1,(gr _).2⟩
theorem AS{t:Cd}(h:Card t):jw t=.ok [f6 t t.2.2]:=by
 unfold jw so;rw[show t.2.2%4=t.2.2 from MT h.low h.high,eY h h.low h.high]
theorem uc{t:Cd}(h:Card t):yQ t=.ok [f6 t ((t.2.2+2)%4)]:=by
 unfold yQ CT;rw[eY h (gr _).1 (gr _).2]
theorem jY{t:Cd}{c:Nat}(h:isTurn c):qS t [c]=.ok (tw t c):=by
 unfold qS CP;have e:getD ([([102],1),([98],(-1)),([105],0)]:7 Tx Int) [c]=.ok (go c):=by rcases h with rfl|rfl|rfl<;>rfl
 rw[e,EG];by_cases z:t.1=[83]
 ·rw[Z0 `W];unfold tw;rw[Z0 z]
 ·rw[Z1 `W];unfold tw;rw[Z1 z]
theorem ud{i:Int}(h: -1<=i/\i<=1):getD ([(1,[115]),((-1),[122]),(0,[111])]:7 Int Tx) i=.ok [pP i]:=by
 have:i= -1\/i=0\/i=1:=`b
 rcases this with rfl|rfl|rfl<;>rfl
theorem ze{t:Cd}(h:Card t){c:Nat}(hc:isTurn c):yR t [c]=.ok (place t c):=by
 unfold yR CU;simp only[AS h,uc h,jY hc,EG,ud<|wO t c];rfl
theorem qZ(t:Cd)(i:Int):yP t i=.ok (standAt t i):=by
 unfold yP CS standAt;by_cases z:t.1=[83]
 ·rw[Z0 `W,Z0 z];rfl
 ·rw[Z1 `W,Z1 z];rfl
theorem x6(a b:Tx):xy a b=.ok (decide (b=[63])||decide (b=a)):=by
 unfold xy CV;by_cases z:b=[63]
 ·rw[Z0 `W,decide_eq_true z];rfl
 ·rw[Z1 `W,decide_eq_false z];rfl
theorem ue(p m:Pl):yS p m=.ok (fits p m):=by
 unfold yS CW;rw[dJ (g:=λa1:Tx×Tx=>decide (a1.2=[63])||decide (a1.2=a1.1)) (by show 3<=100000;decide) λx _=>x6 x.1 x.2,EG];congr 1;simp[fits]
theorem mZ{t:Cd}(h:Card t)(s:`l){c:Nat}(hc:isTurn c)(m:Pl):lT t s [c] m=.ok (fits (place (standAt t s.1) c) m):=by
 unfold lT CY;simp only[qZ,EG,ze (h.standAt _) hc,ue]
def aj(t:Cd)(s:`l)(c:Nat):`l:=(s.1+tw t c,if c=105 then s.2+1 else 0)
theorem pU{t:Cd}(s:`l){c:Nat}(hc:isTurn c):m8 t s [c]=.ok (aj t s c):=by
 unfold m8 CQ aj;simp only[jY hc,EG];by_cases z:c=105;·rw[Z0 (by simp[z]),Z0 z];rfl
 ·rw[Z1 (by simp[z]),Z1 z];rfl
def dF(s:`l)(loose bound:Int):Bool:=decide (cy s.1<=`e)&&decide (s.2<=`d)
theorem iN(s:`l)(loose bound:Int):jv s `d `e=.ok (dF s `d `e):=by
 unfold jv CO dF;by_cases z:cy s.1<=`e;·rw[Z0 `W,decide_eq_true z];rfl
 ·rw[Z1 `W,decide_eq_false z];rfl
def cI(t:Cd)(loose bound:Int)(s:`l)(c:Nat)(m:Pl):Bool:=dF (aj t s c) `d `e&&fits (place (standAt t (aj t s c).1) c) m
def cS(t:Cd)(loose bound:Int):`l->7 Nat Pl->Bool
 |_,[]=>true
 |s,(c,m)::r=>cI t `d `e s c m&&cS t `d `e (aj t s c) r
def iY(c:Nat):Bool:=decide<|isTurn c
theorem turnB_iff{c:Nat}:1 (iY c)↔isTurn c:=decide_eq_true_iff
def gD(x:Tx)(n:Nat):Bool:=decide (`F=n)&&x.all iY
theorem mj(c:Nat):([102,98,105]:Tx).contains c=iY c:=by
 rw[Ga,turnB_iff];simp[isTurn]
theorem uf{x:Tx}(hl:`F<=10000)(n:Nat):yW x (n:Int)=.ok (gD x n):=by
 unfold yW Dg gD;rw[iE `b];simp only[EG];by_cases z:`F=n
 ·rw[Z0 (by simp[z]),dJ (g:=λt:Tx=>iY (t.headD 0)) (by show(bF x).length<=100000;simp[bF];omega) (λt ht=>by
   obtain⟨c,hc,rfl⟩:=fc ht;show EJ _=_;rw[mj];rfl),EG,decide_eq_true z,Gw]
  congr 1;simp[bF,OM,Function.comp_def]
  try rfl
 ·rw[Z1 (by simp;omega),decide_eq_false z];rfl
theorem r0{x:Tx}{n:Nat}(h:1 (gD x n)):`F=n/\cH x:=by
 unfold gD at h;simp only[Gp,decide_eq_true_eq,G1]at h;exact⟨h.1,λc hc=>turnB_iff.mp<|h.2 c hc⟩
theorem ug{β:Type}(x:Tx)(l:List β):(bF x).zip l=(x.zip l).map λp=>([p.1],p.2):=by
 unfold bF;rw[List.zip_map_left];rfl
theorem n4{t:Cd}(h:Card t)(loose bound:Int):∀(l:List (Nat×Pl)),(∀p∈l,isTurn p.1)->∀(s:Int×Int)(b:Bool),∃s',bO (Bp jv m8 lT t `d `e) (l.map λp=>([p.1],p.2)) (s,b)=.ok (s',b&&cS t `d `e s l)
 | [],_,s,b=>⟨s,by simp[bO,cS]⟩
 |(c,m)::r,hl,s,b=>by
  have hc:=hl (c,m) `f;obtain⟨s',e⟩:=n4 h `d `e r (λp hp=>hl p<|by simp[hp]) (aj t s c) (b&&cI t `d `e s c m);refine⟨s',?_⟩;rw[FQ];unfold bO;have e1:Bp jv m8 lT t `d `e ([c],m) (s,b)=.ok (aj t s c,b&&cI t `d `e s c m):=by
   unfold Bp;simp only[pU s hc,EG,iN,mZ h _ hc];cases b with
   |false=>rfl
   |true=>
    simp only[if_true,Gw];unfold cI;cases z:dF (aj t s c) loose bound<;>rfl
  rw[e1,EG,e];simp[cS,M3]
theorem zf{t:Cd}(h:Card t)(strip:`m){loose bound:Int}(h0:0<=`d)(h1:0<=`e){x:Tx}(hl:`F<=10000):xB t `h `d `e x=.ok (gD x `K&&cS t `d `e (0,0) (x.zip `h)):=by
 unfold xB Dh;rw[uf hl];simp only[EG];cases z:gD x strip.length with
 |false=>rfl
 |true=>
  obtain⟨_,hx⟩:=r0 z;obtain⟨s',e⟩:=n4 h `d `e (x.zip `h) (λp hp=>hx _ (IE hp).1) (0,0) true;have w:1 (dF (0,0) `d `e):=by unfold dF cy;simp[h0,h1]
  simp only[Jb,Fv,if_false,iN,w,EG,ug,e,Gw]
theorem zg(p m:Pl):eS C9 ([p.1,p.2.1,p.2.2].zip [m.1,m.2.1,m.2.2]) ()=.ok (if fits p m then .nx ()else .rt `g):=by
 rw[jN (g:=λa:Tx×Tx=>if decide (a.2=[63])||decide (a.2=a.1)then none else some `g) _ (λa _=>by
  unfold C9;by_cases z:a.2=[63]
  ·simp[z]
  ·by_cases y:a.2=a.1;·simp[z,y]
   ·simp[z,y])]
 congr 1;unfold fits;simp only[MB,List.zip_nil_right,Kd,List.findSome?_nil];cases decide (m.1=[63])||decide (m.1=p.1)<;>cases decide (m.2.1=[63])||decide (m.2.1=p.2.1)<;>cases decide (m.2.2=[63])||decide (m.2.2=p.2.2)<;>rfl
theorem zh{t:Cd}(loose bound:Int)(s:`l)(hs: -1000000<s.2/\s.2<1000000){c:Nat}(hc:isTurn c)(m:Pl):Bl fF t `d `e ([c],place (standAt t (aj t s c).1) c,m) s=.ok (if cI t `d `e s c m then .nx (aj t s c)else .rt `g):=by
 unfold Bl;simp only[jx hc,EG,zg];rw[lg `b `b];simp only[EG];have e:(s.2+1)*(if decide (([c]:Tx)=[105])=true then(1:Int)else 0)=(aj t s c).2:=by
  unfold aj;by_cases z:c=105;·simp[z]
  ·simp[z]
 rw[e];have e1:s.1+tw t c=(aj t s c).1:=rfl;rw[e1];unfold cI dF;by_cases z:`e<cy (aj t s c).1
 ·have:¬cy (aj t s c).1<=bound:=`b
  simp[z,this]
 ·have:cy (aj t s c).1<=`e:=`b
  by_cases y:`d<(aj t s c).2
  ·have:¬(aj t s c).2<=loose:=`b
   simp[*]
  ·have:(aj t s c).2<=`d:=`b
   simp only[z,y,decide_false,Fv,if_false,EG,decide_eq_true ‹cy (aj t s c).1<=bound›,decide_eq_true ‹(aj t s c).2<=loose›,Bool.and_self,Gw];cases fits (place (standAt t (aj t s c).1) c) m<;>rfl
theorem oj(t:Cd)(i:Int)(c:Nat):behind (standAt t i) c=standAt t (i+tw t c):=by
 unfold behind standAt tw;split;·simp only[OA,true_and];omega
 ·simp only[OA,true_and];omega
theorem AU{t:Cd}(h:Card t):standAt t 0=t:=by
 unfold standAt;have:=h.low;have:=h.high;rw[Int.add_zero,Int.sub_zero,ite_self,MT h.low h.high]
theorem n5{t:Cd}(loose bound:Int):∀(x:Tx)(strip:List Pl),cH x->∀(s:Int×Int),0<=s.2->s.2+`F<100000->eS (Bl fF t `d `e) ((bF x).zip<|(fe (standAt t s.1) x).zip `h) s=.ok (if cS t `d `e s (x.zip `h)then .nx ((x.zip `h).foldl (λs p=>aj t s p.1) s)else .rt `g)
 | [],strip,_,s,_,_=>by simp[bF,eS,cS]
 |c::r,[],_,s,_,_=>by simp[bF,eS,cS]
 |c::r,m::ms,hx,s,h0,h1=>by
  have hc:=hx c `f;simp only[GG]at h1;have e:(bF<|c::r).zip ((fe (standAt t s.1)<|c::r).zip<|m::ms)=([c],place (standAt t (aj t s c).1) c,m)::(bF r).zip ((fe (standAt t (aj t s c).1) r).zip ms):=by
   simp only[fe,oj];rfl
  rw[e];unfold eS;rw[zh `d `e s ⟨`b,`b⟩ hc m,EG];have b2:(aj t s c).2=s.2+1\/(aj t s c).2=0:=by unfold aj;split<;>simp
  have ih:=n5 (t:=t) `d `e r ms (λd hd=>hx d<|by simp[hd]) (aj t s c) `b `b;simp only[MB,cS,Lr];cases z:cI t loose bound s c m with
  |false=>rfl
  |true=>simp only[if_true,va,ih,Gw]
theorem uh{t:Cd}(h:Card t)(strip:`m)(loose bound:Int){x:Tx}(hl:`F<=10000):qQ t `h `d `e x=.ok (gD x `K&&cS t `d `e (0,0) (x.zip `h)):=by
 unfold qQ CM;rw[iE `b];simp only[EG];by_cases z:`F=`K
 ·rw[Z1 (by simp[z])];rw[jN (g:=λt:Tx=>cond (iY<|t.headD 0) `c (some `g)) _ (λt ht=>by
   obtain⟨c,hc,rfl⟩:=fc ht;unfold CL;simp only[List.headD_cons];by_cases q:isTurn c;·rcases q with rfl|rfl|rfl<;>rfl
   ·rw[show iY c=`g from decide_eq_false q];have q1:c≠102:=λe=>q (.inl e);have q2:c≠98:=λe=>q (.inr<|.inl e);have q3:c≠105:=λe=>q (.inr<|.inr e);simp[q1,q2,q3]),EG]
  cases hf:(bF x).findSome? λt:Tx=>cond (iY<|t.headD 0) none (some false)with
  |some r=>
   obtain⟨t',ht',e⟩:=List.exists_of_findSome?_eq_some hf;obtain⟨c,hc,rfl⟩:=fc ht';have q:iY c=`g:=by
    cases z:iY c with
    |false=>rfl
    |true=>simp[z]at e
   have:r=`g:=by simpa [q] using e.symm
   subst this;have:gD x `K=`g:=by
    unfold gD;rw[Bool.and_eq_false_iff];right;rw[List.all_eq_false];exact⟨c,hc,by simp[q]⟩
   simp[this]
  |none=>
   rw[List.findSome?_eq_none_iff]at hf;have hx:cH x:=λc hc=>by
    have:=hf [c] (by unfold bF;exact Fo.mpr ⟨c,hc,`a⟩);refine GS λq=>?_;simp[show iY c=false from decide_eq_false q]at this
   have hr:1 (gD x `K):=by
    unfold gD;simp only[Gp,decide_eq_true_eq,G1];exact⟨z,λc hc=>turnB_iff.mpr<|hx c hc⟩
   simp only[mY h hx hl,EG];have w:=n5 (t:=t) `d `e x `h hx (0,0) ⋯ (by show(0:Int)+_<_;omega);rw[show standAt t ((0,0):`l).1=t from AU h]at w;rw[w,EG,hr,Gw];cases cS t loose bound (0,0) (x.zip strip)<;>rfl
 ·rw[Z0 (by simp;omega)];have:gD x `K=`g:=by unfold gD;simp[z]
  simp[this]
theorem zj(c:Int):∃k,yZ c=.ok [k]:=by
 unfold yZ Dl;rw[cD ⋯,EG];obtain⟨k,e,_⟩:=iF (x:=([32,33,34,35,36,38,39,40,41,42,43,44,45,46,47,48,49,50,51,52,53,54,55,56,57,58,59,60,61,62,63,64,65,66,67,68,69,70,71,72,73,74,75,76,77,78,79,80,81,82,83,84,85,86,87,88,89,90,91,92,93,94,95,96]:Tx)++([97,98,99,100,101,102,103,104,105,106,107,108,109,110,111,112,113,114,115,116,117,118,119,120,121,122,123,124,125,126,10]:Tx)) (i:=c%95) (Fm _ ⋯) (Int.lt_of_lt_of_le (Fb _ ⋯) ⋯) ⋯;exact⟨k,e⟩
theorem kL{a b c:Tx}{n:Nat}(h:a.length+b.length+c.length<=n)(hn:n<=100000):((cY a b).bind λy=>cY y c).Ok λy=>y.length<=n:=by
 rw[cD `b,EG,cD (by rw[FJ];omega)];show Hk _<=_;rw[FJ,FJ];exact h
theorem x8{x:Tx}(hl:`F<=10000)(c:Int):(xE x c).Ok λy=>y.length<=`F+2:=by
 unfold xE Dm;obtain⟨k,ek⟩:=zj<|c/7;have L:∀lo hi,(cut x lo hi).length<=`F:=λlo hi=>rN x lo hi;have hx:`F<=100000:=`b
 rw[iE hx];simp only[EG];rw[dU `b];simp only[EG,ek,gP hx];have b0:=Fm (c/5) (show(x.length:Int)+1≠0 by omega);have b1:=Fb (c/5) (show(0:Int)<(x.length:Int)+1 by omega);obtain⟨i,hi⟩:∃i:Nat,c/5%((x.length:Int)+1)=(i:Int):=⟨(c/5%((x.length:Int)+1)).toNat,`b⟩
 rw[hi]at b1 ⊢;have ei:i<=`F:=`b
 rw[show(i:Int)+1=((i+1:Nat):Int)from rfl,show(i:Int)+2=((i+2:Nat):Int)from rfl];simp only[gA,lh];have mid:∀a b:Nat,(cut x (some (a:Int))<|some (b:Int)).length<=b-a:=λa b=>by
  unfold cut sIx;simp only[GP,Ha];split<;>split<;>omega
 have m1:=mid i (i+1);have m2:=mid (i+1) (i+2);generalize cut x (some (i:Int)) (some ((i+1:Nat):Int))=u at*
 generalize cut x (some ((i+1:Nat):Int)) (some ((i+2:Nat):Int))=v at*
 clear b0 b1 hi L mid ek;have tk:(x.take i).length=i:=by rw[GP];omega
 have d0:(x.drop i).length=`F-i:=Ha ..;have d1:(x.drop<|i+1).length=`F-(i+1):=Ha ..;have d2:(x.drop<|i+2).length=`F-(i+2):=Ha ..;have n0:`F+2<=100000:=`b
 refine iG (λ_=>?_) λ_=>iG (λ_=>?_) λ_=>iG (λ_=>?_) λ_=>iG (λ_=>?_) λ_=>?_;·exact kL (by rw[tk,d0,GZ];omega) n0
 ·rw[cD (by rw[tk,d1];omega)];show Hk _<=_;rw[FJ,tk,d1];omega
 ·exact kL (by rw[tk,d1,GZ];omega) n0
 ·exact kL (by rw[tk,d0];omega) n0
 ·rw[cD `b,EG];exact kL (by rw[tk,d2,FJ];omega) n0
theorem x9{s:`H}(hs:s.length<=63)(most:Nat)(hm:most<=24):(xx s (most:Int)).Ok λr=>Card r.1/\(∃n,n<=most/\wW n r.2.1)/\0<=r.2.2/\r.2.2<4:=by
 unfold xx CJ;obtain⟨c0,e0⟩:=lL hs 0 ⋯;obtain⟨c1,e1⟩:=lL hs 1 ⋯;obtain⟨c2,e2⟩:=lL hs 2 ⋯;obtain⟨c3,e3⟩:=lL hs 3 ⋯;obtain⟨c4,e4⟩:=lL hs 4 ⋯;obtain⟨t,et,ht⟩:=sv c0;rw[show iq s 0=.ok c0 from e0,show iq s 1=.ok c1 from e1,show iq s 2=.ok c2 from e2,show iq s 3=.ok c3 from e3,show iq s 4=.ok c4 from e4];simp only[EG,et];rw[dU `b,EG];have z0:=Fm c2 (show(most:Int)+1≠0 by omega);have z1:=Fb c2 (show(0:Int)<(most:Int)+1 by omega);obtain⟨n,hn⟩:∃n:Nat,c2%((most:Int)+1)=(n:Int):=⟨(c2%((most:Int)+1)).toNat,`b⟩
 rw[hn]at z0 z1 ⊢;have hn':n<=most:=`b
 clear hn z0 z1;obtain⟨x,ex,hxl,hx⟩:=wN c1 n `b;rw[ex,EG,mY ht hx (show x.length<=10000 by omega),EG];have hw:=oh ht x;have hpl:=qW t x;refine fB (FK (wX hw `b (c3/3) _) λl hl=>?_);rw[hpl,hxl]at hl;refine fB (FK (P:=Card) (iG (λ_=>?_) λ_=>dC ht) λt1 h1=>?_);·exact fB (fB<|(AR ht hx `b _).imp λr hr=>dC<|dC hr.1)
 ·refine fB (FK (P:=Card) (iG (λ_=>?_) λ_=>dC h1) λt2 h2=>?_)
  ·obtain⟨t',e',h'⟩:=sv<|c4/ 4/ 6;rw[e'];exact h'
  ·exact⟨h2,⟨n,hn',hl⟩,(gr _).1,(gr _).2⟩
theorem AW{x:Tx}(hx:`F<=10){out:List Tx}(ho:out.length<=1000):Bj x out=.ok (out++[x++[102],x++[98],x++[105]]):=by
 unfold Bj;rw[cD (by simp;omega),cD (by simp;omega),cD (by simp;omega)];simp only[EG];rw[nM (by simp;omega)];rfl
def xa(n:Nat)(l:List Tx):Prop:=l.length=3^n/\∀x,x∈l↔`F=n/\cH x
theorem snoc_turns{x:Tx}{c:Nat}:cH (x++[c])↔cH x/\isTurn c:=by
 unfold cH;simp only[FX,H9];constructor
 ·exact λh=>⟨λd hd=>h d<|.inl hd,h c<|.inr `a⟩
 ·rintro ⟨h1,h2⟩ d (hd | rfl);·exact h1 d hd
  ·exact h2
theorem AX{n:Nat}(hn:n<4){l:List Tx}(h:xa n l)(a:Int):(Bk a l).Ok (xa<|n+1):=by
 unfold Bk;have p4:3^n<=27:=by have:=Nat.pow_le_pow_right (show 0<3 by decide) (show n<=3 by omega);simpa using this
 obtain⟨s,e,h1,h2⟩:=di (f:=Bj) (λpre s=>s.length=3*pre.length/\∀y,y∈s↔∃x∈pre,∃c,isTurn c/\y=x++[c]) l [] ⟨`a,λy=>`f⟩ (by
  intro pre x post s e ⟨h1,h2⟩;have hx:x∈l:=by rw[e];simp
  have hl:l.length=pre.length+1+post.length:=by rw[e];simp;omega
  have:=h.1;refine⟨_,AW (by have:=((h.2 x).mp hx).1;omega) `b,by simp;omega,λy=>?_⟩;rw[FX,h2];constructor
  ·rintro (⟨z,hz,c,hc,rfl⟩ | hy);·exact⟨z,by simp[hz],c,hc,`a⟩
   ·have:y=x++[102]\/y=x++[98]\/y=x++[105]:=by simpa using hy
    rcases this with rfl|rfl|rfl;·exact⟨x,`f,102,`G,`a⟩
    ·exact⟨x,`f,98,.inr `G,`a⟩
    ·exact⟨x,`f,105,.inr<|.inr `a,`a⟩
  ·rintro ⟨z,hz,c,hc,rfl⟩;rcases FX.mp hz with hz|hz;·exact .inl ⟨z,hz,c,hc,`a⟩
   ·have:z=x:=by simpa using hz
    subst this;right;rcases hc with rfl|rfl|rfl<;>simp)
 rw[e];refine⟨by rw[h1,h.1,OI];omega,λy=>?_⟩;rw[h2];constructor
 ·rintro ⟨x,hx,c,hc,rfl⟩;have:=(h.2 x).mp hx;exact⟨by simp[this.1],snoc_turns.mpr ⟨this.2,hc⟩⟩
 ·rintro ⟨hy,ht⟩;obtain⟨x,c,rfl⟩:∃x c,y=x++[c]:=⟨y.dropLast,y.getLast (by intro z;subst z;simp at hy),(K8 _).symm⟩
  have:=snoc_turns.mp ht;exact⟨x,(h.2 x).mpr ⟨by simpa using hy,this.1⟩,c,this.2,`a⟩
theorem AY{n:Nat}(hn:n<=4):(yO (n:Int)).Ok (xa n):=by
 unfold yO CK;rw[jM `b,EG];obtain⟨s,e,h1,h2⟩:=di (f:=Bk) (λpre s=>xa pre.length s/\True) ((FP n).map λ(i:Nat)=>(i:Int)) [[]] ⟨⟨rfl,λx=>by
  constructor
  ·intro hx;have:x=[]:=by simpa using hx
   subst this;exact⟨`a,λc hc=>by cases hc⟩
  ·rintro ⟨hx,_⟩;have:x=[]:=Hz.mp hx;subst this;simp⟩,trivial⟩ (by
  intro pre a post s e ⟨h1,_⟩;have:pre.length<n:=by have:=congrArg Hk e;simp at this;omega
  obtain⟨s',e',h'⟩:=(AX `b h1 a).ex;exact⟨s',e',by simpa using h',trivial⟩)
 rw[e];exact(by simpa using h1:xa n s)
def Bx(a b:Nat)(L:List `A):Prop:=L.length<=a/\∀l∈L,l.length<=b
theorem Bx.up{a b:Nat}{L:List `A}(h:Bx a b L):Bx (a+1) (b+1) L:=⟨by have:=h.1;omega,λl hl=>by have:=h.2 l hl;omega⟩
theorem Bx.set{a b:Nat}{L:List `A}(h:Bx a b L)(k:Nat){l:`A}(hl:l.length<=b+1):Bx (a+1) (b+1) (L.set k l):=⟨by rw[Hl];have:=h.1;omega,λx hx=>by
 rcases KD hx with z|z;·have:=h.2 x z;omega
 ·rw[z];exact hl⟩
theorem sC{Z:Type}(xs:`r)(k:Nat)(y:Z):(L2.insAt xs k y).length<=`i+1:=by
 unfold L2.insAt;rw[FJ,GP,GG,Ha];omega
theorem sD{Z:Type}{xs:`r}{i:Int}(h0:0<=i)(h1:i<`i)(hl:`i<=1000):ua xs i=.ok (xs.eraseIdx i.toNat):=by
 unfold ua ixN;rw[bE (show xs.length<=cap by show `i<=100000;omega),EG,Z0 h0,Z0 h1];rfl
theorem sE{Z:Type}{xs:`r}{i:Int}{y:Z}(h0:0<=i)(h1:i<=`i)(hl:`i<=1000):wH xs i y=.ok (L2.insAt xs i.toNat y):=bE ⟨h0,h1,by show `i<100000;omega⟩
theorem om{Z β:Type}{xs:List β}{f:List β->Z}{i:Int}(h0:0<=i)(h1:i<`i):∃b,0 xs[i.toNat]? b/\nO (xs,f) i=.ok (b,λb'=>f (xs.set i.toNat b')):=by
 have hl:i.toNat<`i:=`b
 refine⟨xs[i.toNat],EH hl,?_⟩;unfold nO;have e1:0 (ixN `i i) i.toNat:=by
  unfold ixN;rw[Z0 h0,Z0 h1]
 show(gW<|ixN `i i).bind _=_;rw[e1];show(gW xs[i.toNat]?).bind _=_;rw[EH hl];rfl
theorem zk{L:List `A}{a b:Nat}(hB:Bx a b L)(h1:a<=900)(h2:b<=900)(cell:Int):(yY L cell).Ok (Bx (a+1)<|b+1):=by
 have hLa:L.length<=900:=by have:=hB.1;omega
 unfold yY Dk;obtain⟨ds,ed,dl,hd⟩:=og (cell/7) 4 30030 ⋯ ⋯ ⋯;have dget:∀k:Nat,k<4->∃v,dG ds (k:Int)=.ok v/\0<=v:=λk hk=>by
  obtain⟨v,e1,e2⟩:=fq (xs:=ds) (i:=(k:Int)) `b (by rw[dl];omega);exact⟨v,e1,(hd v<|F3 e2).1⟩
 obtain⟨d0,e0,p0⟩:=dget 0 ⋯;obtain⟨d1,e1,p1⟩:=dget 1 ⋯;obtain⟨d2,e2,p2⟩:=dget 2 ⋯;obtain⟨d3,e3,p3⟩:=dget 3 ⋯;rw[dJ (f:=λ(a1:List (Int×Int))=>EJ a1) (g:=λx=>x) (by show L.length<=100000;omega) `j,show(L.map λx=>x)=L from List.map_id' L,EG,show ju (cell/7) (4:Int) 30030=.ok ds from ed,EG,show dG ds (0:Int)=.ok d0 from e0,show dG ds (1:Int)=.ok d1 from e1,show dG ds (2:Int)=.ok d2 from e2,show dG ds (3:Int)=.ok d3 from e3,EG];obtain⟨at_,ea,a0,a1⟩:∃at_,gY d0 (if(L.length:Int)>(1:Int)then(L.length:Int)else(1:Int))=.ok at_/\0<=at_/\(0<L.length->at_<L.length):=by
  by_cases z:(L.length:Int)>1
  ·rw[Z0 z];exact⟨d0%(L.length:Int),dU `b,Fm _ `b,λ_=>Fb _ `b⟩
  ·rw[Z1 z];exact⟨d0%1,dU `b,Fm _ `b,λh=>by have:=Fb d0 (b:=1) `b;omega⟩
 rw[ea,EG];refine fB<|FK (P:=λ_=>True) trivial λs0 _=>?_;refine fB (FK (P:=λ_=>True) ?_ λst _=>?_)
 ·simp only[EG];refine iG (λ_=>?_) λ_=>trivial;have q1:d2%5=0\/d2%5=1\/d2%5=2\/d2%5=3\/d2%5=4:=`b
  have q2:d3/6%4=0\/d3/6%4=1\/d3/6%4=2\/d3/6%4=3:=`b
  generalize d2%5=u at q1;generalize d3/6%4=w at q2;rcases q1 with rfl|rfl|rfl|rfl|rfl<;>rcases q2 with rfl|rfl|rfl|rfl<;>exact trivial
 refine fB (FK (P:=λs=>s=L\/(cell%7=1/\Bx (a+1) (b+1) s)) ?_ λs1 hs1=>?_)
 ·refine fB (FK (P:=λy=>y=true->cell% 7=1/\0< L.length/\∃l,0 L[at_.toNat]? l/\0<l.length) ?_ λy hy=>zF (λz=>?_) λ_=>dC `G)
  ·refine iG (λc=>iG (λz=>?_) λ_=>dC λz=>by cases z) λ_=>dC λz=>by cases z
   have hz:0<L.length:=`b
   obtain⟨l,el,hl⟩:=fq (xs:=L) (i:=at_) a0 (a1 hz);rw[el,EG,EG];exact dC λq=>⟨c,hz,l,hl,by have:=of_decide_eq_true q;omega⟩
  ·obtain⟨c,hz,l,hl,hp⟩:=hy z;obtain⟨l',hl',en⟩:=om (xs:=L) (f:=λb=>b) a0 (a1 hz);have:l'=l:=by rw[hl]at hl';exact(Ft hl').symm
   subst this;have hll:=hB.2 l' (F3 hl);obtain⟨l2,el,hl2⟩:=fq (xs:=L) (i:=at_) a0 (a1 hz);have:l2=l':=by rw[hl]at hl2;exact(Ft hl2).symm
   subst this;have m0:0<=d1%(l2.length:Int):=Fm _ `b;have m1:d1%(l2.length:Int)<l2.length:=Fb _ `b;rw[show nO (L,λ(b:List (List Ii))=>b) at_=_ from en,EG,EG,el,EG,EG,dU `b,EG,sD (xs:=l2) m0 m1 `b,EG,EG];exact dC (.inr ⟨c,hB.set _ (by rw[Hc];split<;>omega)⟩)
 refine fB (FK (P:=λs=>s=L\/(cell%7<=2/\Bx (a+1) (b+1) s)) ?_ λs2 hs2=>?_)
 ·refine fB (FK (P:=λy=>y=true->cell% 7=2/\0< s1.length) ?_ λy hy=>zF (λz=>?_) λ_=>dC<|hs1.imp id λq=>⟨by rw[q.1];decide,q.2⟩)
  ·exact iG (λc=>dC λq=>⟨c,by have:=of_decide_eq_true q;omega⟩) λ_=>dC λz=>by cases z
  ·obtain⟨c,hz⟩:=hy z;have e:s1=L:=hs1.elim id λq=>absurd q.1 (by rw[c];decide);subst e;obtain⟨l',hl',en⟩:=om (xs:=s1) (f:=λb=>b) a0 (a1 hz);have hll:=hB.2 l' (F3 hl');obtain⟨l2,el,hl2⟩:=fq (xs:=s1) (i:=at_) a0 (a1 hz);have:l2=l':=by rw[hl']at hl2;exact(Ft hl2).symm
   subst this;have m0:0<=d1%((l2.length:Int)+1):=Fm _ `b;have m1:d1%((l2.length:Int)+1)<(l2.length:Int)+1:=Fb _ `b;rw[show nO (s1,λ(b:List (List Ii))=>b) at_=_ from en,EG,EG,el,EG,EG,EG,dU `b,EG,sE (xs:=l2) m0 `b `b,EG,EG];exact dC (.inr ⟨by rw[c];decide,hB.set _ (l:=L2.insAt l2 (d1%((l2.length:Int)+1)).toNat st) (by have:=sC l2 (d1%((l2.length:Int)+1)).toNat st;omega)⟩)
 refine fB (FK (P:=λs=>s=L\/(cell%7<=3/\Bx (a+1) (b+1) s)) ?_ λs3 hs3=>?_)
 ·refine fB (FK (P:=λy=>y=true->cell% 7=3/\0< s2.length) ?_ λy hy=>zF (λz=>?_) λ_=>dC<|hs2.imp id λq=>⟨Lo q.1 ⋯,q.2⟩)
  ·exact iG (λc=>dC λq=>⟨c,by have:=of_decide_eq_true q;omega⟩) λ_=>dC λz=>by cases z
  ·obtain⟨c,hz⟩:=hy z;have e:s2=L:=hs2.elim id λq=>absurd q.1 (by rw[c];decide);subst e;refine fB (BR (a:=s2.eraseIdx at_.toNat) ?_<|dC<|.inr ⟨by rw[c];decide,?_,λl hl=>?_⟩)
   ·show((ua s2 at_).bind λb=>EJ b)=_;rw[sD a0 (a1 hz) `b,EG]
   ·rw[Hc];have:=hB.1;split<;>omega
   ·have:=hB.2 l (List.mem_of_mem_eraseIdx hl);omega
 refine fB (FK (P:=λs=>s=L\/(cell%7<=4/\Bx (a+1) (b+1) s)) (iG (λc=>?_) λ_=>dC<|hs3.imp id λq=>⟨Lo q.1 ⋯,q.2⟩) λs4 hs4=>?_)
 ·have e:s3=L:=hs3.elim id λq=>absurd q.1 (by rw[c];decide);subst e;have m0:0<=d1%((s3.length:Int)+1):=Fm _ `b;have m1:d1%((s3.length:Int)+1)<(s3.length:Int)+1:=Fb _ `b;rw[EG,dU `b,EG];refine fB (BR (a:=L2.insAt s3 (d1%((s3.length:Int)+1)).toNat []) ?_<|dC<|.inr ⟨by rw[c];decide,?_,λl hl=>?_⟩)
  ·show((wH s3 (d1% ((s3.length:Int)+1)) []).bind λb=>EJ b)=_;rw[sE m0 `b `b,EG]
  ·have:=sC s3 (d1%((s3.length:Int)+1)).toNat [];have:=hB.1;omega
  ·unfold L2.insAt at hl;rcases FX.mp hl with q|q
   ·have:=hB.2 l (List.mem_of_mem_take q);omega
   ·rcases F0.mp q with rfl | q;·simp
    ·have:=hB.2 l (List.mem_of_mem_drop q);omega
 refine fB (FK (P:=λs=>s=L\/(cell%7<=5/\Bx (a+1) (b+1) s)) (iG (λc=>?_) λ_=>dC<|hs4.imp id λq=>⟨Lo q.1 ⋯,q.2⟩) λs5 hs5=>?_)
 ·have e:s4=L:=hs4.elim id λq=>absurd q.1 (by rw[c];decide);subst e;have tk:∀x:List (Int×Int),cut x `c (some (1:Int))=x.take 1:=λx=>gA x 1;rw[dJ (g:=λx:List (Int×Int)=>x.reverse++x.take 1) (by show s4.length<=100000;omega) (λx hx=>by
   have:=hB.2 x hx;rw[tk,nM (by simp;omega)]),EG]
  refine dC (.inr ⟨by rw[c];decide,by rw[EY];have:=hB.1;omega,λl hl=>?_⟩);obtain⟨x,hx,rfl⟩:=Fo.mp hl;have:=hB.2 x hx;simp;omega
 refine fB (FK (P:=Bx (a+1) (b+1)) ?_ λs6 hs6=>dC hs6);refine fB (FK (P:=λy=>y=true->cell%7=6/\0<s5.length/\∃l,0 s5[at_.toNat]? l/\0<l.length) ?_ λy hy=>zF (λz=>?_) λ_=>dC<|hs5.elim (λq=>q▸hB.up) λq=>q.2)
 ·refine iG (λc=>iG (λz=>?_) λ_=>dC λz=>by cases z) λ_=>dC λz=>by cases z
  have e:s5=L:=hs5.elim id λq=>absurd q.1 (by rw[c];decide);subst e;have hz:0<s5.length:=`b
  obtain⟨l,el,hl⟩:=fq (xs:=s5) (i:=at_) a0 (a1 hz);rw[el,EG,EG];exact dC λq=>⟨c,hz,l,hl,by have:=of_decide_eq_true q;omega⟩
 ·obtain⟨c,hz,l,hl,hp⟩:=hy z;have e:s5=L:=hs5.elim id λq=>absurd q.1 (by rw[c];decide);subst e;obtain⟨l',hl',en⟩:=om (xs:=s5) (f:=λb=>b) a0 (a1 hz);have:l'=l:=by rw[hl]at hl';exact(Ft hl').symm
  subst this;have hll:=hB.2 l' (F3 hl);obtain⟨l2,el,hl2⟩:=fq (xs:=s5) (i:=at_) a0 (a1 hz);have:l2=l':=by rw[hl]at hl2;exact(Ft hl2).symm
  subst this;have m0:0<=d1%(l2.length:Int):=Fm _ `b;have m1:d1%(l2.length:Int)<l2.length:=Fb _ `b;rw[show nO (s5,λ(b:List (List Ii))=>b) at_=_ from en,EG,EG,el,EG,EG,dU `b,EG,yc m0 m1,EG,EG];exact dC (hB.set _ (by rw[Hl];omega))
theorem AZ{t:Cd}{c:Nat}(h:isTurn c): -1<=tw t c/\tw t c<=1:=by
 unfold tw go;rcases h with rfl|rfl|rfl<;>split<;>decide
def hV(t:Cd)(mk:Pl)(loose bound:Int)(s:`l):List Nat:=[102,98,105].filter λc=>cI t `d `e s c mk
theorem mem_onw{t:Cd}{mk:Pl}{loose bound:Int}{s:`l}{c:Nat}:c∈hV t mk `d `e s↔isTurn c/\1 (cI t `d `e s c mk):=by
 unfold hV;rw[Lq];simp[isTurn]
theorem iO{t:Cd}(h:Card t)(mk:Pl)(loose bound:Int)(s:`l):gq t mk `d `e s=.ok ((hV t mk `d `e s).map λc=>([c],aj t s c)):=by
 unfold gq CZ hV;rw[dJ (g:=λa:Tx=>(a,aj t s (a.headD 0))) (by show 3<=100000;decide) (λa ha=>by
  obtain⟨c,hc,rfl⟩:=fc ha;have ht:isTurn c:=by simpa [isTurn] using hc
  rw[pU s ht];rfl),EG]
 rw[vt (g:=λa:Tx×(Int×Int)=>if 1 (cI t `d `e s (a.1.headD 0) mk) then some a else none) (by show 3<=100000;decide) (λa ha=>by
  obtain⟨x,hx,rfl⟩:=Fo.mp ha;obtain⟨c,hc,rfl⟩:=fc hx;have ht:isTurn c:=by simpa [isTurn] using hc
  show((jv (aj t s c) `d `e).bind λy=>if y then lT t (aj t s c) [c] mk else EJ `g).bind (λy=>if y then EJ (some ([c],aj t s c))else EJ `c)=_;rw[iN,EG,mZ h _ ht];show _=EJ (if 1 (cI t `d `e s c mk) then some ([c],aj t s c)else none);unfold cI;cases dF (aj t s c) loose bound<;>cases fits (place (standAt t (aj t s c).1) c) mk<;>rfl)]
 show EJ (List.filterMap _ [([102],aj t s 102),([98],aj t s 98),([105],aj t s 105)])=_;cases h1:cI t loose bound s 102 mk<;>cases h2:cI t loose bound s 98 mk<;>cases h3:cI t loose bound s 105 mk<;>simp[h1,h2,h3]
theorem r6:∀(n:Nat)(l:List Nat),l.Nodup->(∀x∈l,x<n)->l.length<=n
 |0,l,_,h=>by
  cases l with
  |nil=>simp
  |cons a l=>exact absurd (h a<|Fc ..) `b
 |n+1,l,nd,h=>by
  by_cases z:n∈l
  ·have:=r6 n (l.erase n) (nd.erase n) λx hx=>by
    have h1:=h x (JD hx);have h2:x≠n:=λe=>by subst e;exact(J9 nd) hx
    omega
   rw[Ja z]at this;omega
  ·have:=r6 n l nd λx hx=>by
    have h1:=h x hx;have h2:x≠n:=λe=>z<|e▸hx;omega
   omega
theorem kM{Z:Type}(pre:`r)(a:Z):dG (pre++[a]) (-(1:Int))=.ok a:=by
 have e:0 (rB (pre++[a]) (-1)) a:=by
  unfold rB ixN;rw[Z1 ⋯,Z0 (by simp;omega)];show 0 (pre++[a])[_]? a;have:(-1+((pre++[a]).length:Int)).toNat=pre.length:=by simp;omega
  rw[this];simp
 unfold dG;rw[e];rfl
theorem zl(p m:Pl)(b:Bool):bO xC ([p.1,p.2.1,p.2.2].zip [m.1,m.2.1,m.2.2]) b=.ok (b&&fits p m):=by
 have e:∀(a:Tx×Tx)(b:Bool),xC a b=.ok (b&&(decide (a.2=[63])||decide (a.2=a.1))):=λa b=>by
  unfold xC;by_cases z:a.2=[63]
  ·simp[z]
  ·by_cases y:a.2=a.1;·simp[z,y]
   ·simp[z,y]
 show((xC (p.1,m.1) b).bind λs=>(xC (p.2.1,m.2.1) s).bind λs=>(xC (p.2.2,m.2.2) s).bind λs=>EJ s)=_;simp only[e,EG];unfold fits;rw[M3,M3]
theorem oo{t:Cd}(h:Card t)(mk:Pl)(loose bound:Int)(s:`l){c:Nat}(hc:isTurn c)(out:`A)(ho:out.length<=1000):zR fF t mk `d `e s [c] out=.ok (if 1 (cI t `d `e s c mk) then out++[aj t s c]else out):=by
 unfold zR;rw[jx hc,EG,p9 (by split<;>decide) (by split<;>decide),EG];have e:(s.2+1)*(if decide (([c]:Tx)=[105])=true then(1:Int)else 0)=(aj t s c).2:=by
  unfold aj;by_cases z:c=105;·simp[z]
  ·simp[z]
 have eh:(if decide (t.1=([90]:Tx))=true then EJ ((t.2.2-(s.1+tw t c))%4)else EJ ((t.2.2+(s.1+tw t c))%4):`C)=.ok (standAt t (aj t s c).1).2.2:=by
  unfold standAt aj;dsimp only;rcases h.lay with z|z
  ·rw[z];rfl
  ·rw[z];rfl
 rw[e,eh,EG];have hc2:=h.standAt (aj t s c).1;have ew:(if decide (cy (s.1+tw t c)<=`e)=true then EJ (decide<|(aj t s c).2<=loose)else EJ false:`x)=.ok (dF (aj t s c) `d `e):=by
  unfold dF;show(if decide (cy (aj t s c).1<=`e)=true then _ else _)=_;cases decide (cy (aj t s c).1<=bound)<;>rfl
 rw[ew,EG];rw[show gc t.2.1 (standAt t (aj t s c).1).2.2=.ok [f6 (standAt t (aj t s c).1) (standAt t (aj t s c).1).2.2]from eY hc2 hc2.low hc2.high,EG];rw[show gc t.2.1 (((standAt t (aj t s c).1).2.2+2)%4)=.ok [f6 (standAt t (aj t s c).1) (((standAt t (aj t s c).1).2.2+2)%4)]from eY hc2 (gr _).1 (gr _).2,EG];rw[wQ (wO t c),EG,EG,EG,EG];show((bO xC ([(place (standAt t (aj t s c).1) c).1,(place (standAt t (aj t s c).1) c).2.1,(place (standAt t (aj t s c).1) c).2.2].zip [mk.1,mk.2.1,mk.2.2])<|dF (aj t s c) `d `e).bind λg=>(if 1 g then(gZ out<|aj t s c).bind λy=>EJ y else EJ out:Res `A).bind λs=>EJ s)=_;rw[zl,EG];show((if 1 (cI t `d `e s c mk) then(gZ out<|aj t s c).bind λy=>EJ y else EJ out:Res `A).bind λs=>EJ s)=_;cases cI t loose bound s c mk with
 |false=>rfl
 |true=>rw[Z0 `a,Z0 `a,gf `b];rfl
theorem zm{t:Cd}(h:Card t)(mk:Pl)(loose bound:Int)(s:`l):oa t mk `d `e s=.ok ((hV t mk `d `e s).map<|aj t s):=by
 unfold oa Di;show(13 (zR fF t mk `d `e s [102] []) (λs1=>(zR fF t mk `d `e s [98] s1).bind λs1=>(zR fF t mk `d `e s [105] s1).bind λs1=>EJ s1) λs1=>EJ s1)=_;rw[oo h mk `d `e s `G [] ⋯,EG,oo h mk `d `e s (.inr `G) _ (by split<;>simp),EG,oo h mk `d `e s (.inr<|.inr `a) _ (by split<;>split<;>simp),EG,EG];unfold hV;cases h1:cI t loose bound s 102 mk<;>cases h2:cI t loose bound s 98 mk<;>cases h3:cI t loose bound s 105 mk<;>simp[h1,h2,h3]
def lM(k:Nat)(p:`l):Prop:= -(k:Int)<=p.1/\p.1<=k/\0<=p.2/\p.2<=k
theorem jy{k:Nat}(hk:k<=4){l:`A}(nd:l.Nodup)(h:∀p∈l,lM k p):l.length<=45:=by
 have nd2:(l.map λp=>((p.1+4)*5+p.2).toNat).Nodup:=by
  rw[Gb,IQ];refine(Gb.mp nd).imp_of_mem λ{a b}ha hb hne e=>hne ?_;have h1:=h a ha;have h2:=h b hb;unfold lM at h1 h2;exact L8 `b `b
 have:=r6 45 _ nd2 λx hx=>by
  obtain⟨p,hp,rfl⟩:=Fo.mp hx;have h1:=h p hp;unfold lM at h1;omega
 simpa using this
theorem oq{t:Cd}{k:Nat}{s:`l}(hs:lM k s){c:Nat}(hc:isTurn c):lM (k+1) (aj t s c):=by
 have h1:=AZ (t:=t) hc;unfold lM at hs ⊢;refine⟨?_,?_,?_,?_⟩;·show _<=s.1+tw t c;omega
 ·show s.1+tw t c<=_;omega
 ·show 0<=if c=105 then s.2+1 else 0;split<;>omega
 ·show(if c=105 then s.2+1 else 0)<=_;split<;>omega
def Nx(t:Cd)(mk:Pl)(loose bound:Int)(l:`A)(p:`l):Prop:=∃s∈l,∃c,isTurn c/\1 (cI t `d `e s c mk)/\p=aj t s c
theorem Nx.inb{t:Cd}{mk:Pl}{loose bound:Int}{k:Nat}{l:`A}(h:∀p∈l,lM k p){p:`l}(n:Nx t mk `d `e l p):lM (k+1) p:=by
 obtain⟨s,hs,c,hc,hm,rfl⟩:=n;exact oq (h s hs) hc
theorem xb{t:Cd}{mk:Pl}{loose bound:Int}{p:`l}:¬Nx t mk loose bound [] p:=λ⟨s,hs,_⟩=>by cases hs
theorem sF{t:Cd}{mk:Pl}{loose bound:Int}{l:`A}{a p:`l}:Nx t mk `d `e (l++[a]) p↔Nx t mk `d `e l p\/∃c∈hV t mk loose bound a,p=aj t a c:=by
 constructor
 ·rintro ⟨q,hq,c,hc,hm,rfl⟩;rcases FX.mp hq with hq|hq;·exact .inl ⟨q,hq,c,hc,hm,`a⟩
  ·have:q=a:=by simpa using hq
   subst this;exact .inr ⟨c,mem_onw.mpr ⟨hc,hm⟩,`a⟩
 ·rintro (⟨q,hq,z⟩ | ⟨c,hc,rfl⟩);·exact⟨q,by simp[hq],z⟩
  ·exact⟨a,`f,c,(mem_onw.mp hc).1,(mem_onw.mp hc).2,`a⟩
def ou(ks:`A)(k:`l):`A:=if k∈ks then ks else k::ks
theorem addP_mem{ks:`A}{k p:`l}:p∈ou ks k↔p∈ks\/p=k:=by
 unfold ou;split
 ·rename_i z;exact⟨.inl,λh=>h.elim id λe=>e▸z⟩
 ·rw[F0];exact⟨λh=>h.symm,λh=>h.symm⟩
theorem sG{ks:`A}(h:ks.Nodup)(k:`l):(ou ks k).Nodup:=by
 unfold ou;split;·exact h
 ·rename_i z;exact HC.mpr ⟨z,h⟩
def ui(l ks:`A):`A:=l.foldl ou ks
theorem jz:∀(l ks:List (Int×Int)),ks.Nodup->(ui l ks).Nodup/\∀p,p∈ui l ks↔p∈ks\/p∈l
 | [],ks,h=>⟨h,λp=>by simp[ui]⟩
 |a::l,ks,h=>by
  have ih:=jz l (ou ks a) (sG h a);refine⟨ih.1,λp=>?_⟩;show p∈ui l (ou ks a)↔_;rw[ih.2,addP_mem,F0,or_assoc]
def gQ(t:Cd)(mk:Pl)(loose bound:Int)(l:`A):`A:=eU (ui (l.flatMap λs=>(hV t mk `d `e s).map<|aj t s) [])
theorem pV{t:Cd}{mk:Pl}{loose bound:Int}{l:`A}{p:`l}:(p∈l.flatMap λs=>(hV t mk `d `e s).map (aj t s))↔Nx t mk `d `e l p:=by
 rw[List.mem_flatMap];constructor
 ·rintro ⟨s,hs,h⟩;obtain⟨c,hc,rfl⟩:=Fo.mp h;exact⟨s,hs,c,(mem_onw.mp hc).1,(mem_onw.mp hc).2,`a⟩
 ·rintro ⟨s,hs,c,h1,h2,rfl⟩;exact⟨s,hs,Fo.mpr ⟨c,mem_onw.mpr ⟨h1,h2⟩,`a⟩⟩
theorem mem_nxt{t:Cd}{mk:Pl}{loose bound:Int}{l:`A}{p:`l}:p∈gQ t mk `d `e l↔Nx t mk `d `e l p:=by
 unfold gQ;rw[(eV _).mem_iff,(jz _ [] HM).2,pV];simp
theorem r9{t:Cd}{mk:Pl}{loose bound:Int}{l S:`A}(nd:S.Nodup)(h:∀p,p∈S↔Nx t mk `d `e l p):eU S=gQ t mk `d `e l:=by
 refine jd ((eV S).trans ?_) (lu S);have g:=jz (l.flatMap λs=>(hV t mk `d `e s).map<|aj t s) [] HM;exact(List.perm_ext_iff_of_nodup nd g.1).mpr λp=>by rw[h,g.2,pV];simp
theorem xc{k:Nat}(hk:k<=4)(ys:7 Tx `l)(s0:`A)(nd:s0.Nodup)(h0:∀p∈s0,lM k p)(hy:∀a∈ys,lM k a.2):
  bO (λ(a:Tx×(Int×Int))(s:List (Int×Int))=>tM s a.2) ys s0=.ok (ui (ys.map (·.2)) s0):=by
 induction ys generalizing s0 with
 |nil=>rfl
 |cons a ys ih=>
  have hl:=jy hk nd h0;show(tM s0 a.2).bind _=_;rw[show tM s0 a.2=.ok (ou s0 a.2)from bE `b,EG];exact ih (ou s0 a.2) (sG nd _) (λp hp=>by
   rcases addP_mem.mp hp with z|z;·exact h0 p z
   ·rw[z];exact hy a (Fc ..)) λb hb=>hy b (Fe _ hb)
theorem xg{t:Cd}(h:Card t)(mk:Pl){loose bound:Int}{k:Nat}(hk:k<4){states:`A}(hs:∀p∈states,lM k p):qT t mk `d `e states=.ok (gQ t mk `d `e states):=by
 unfold qT D0;obtain⟨s,e,h1,h2⟩:=di (f:=λ(a:Int×Int)(s:List (Int×Int))=>(gq t mk `d `e a).bind λy=>bO (λ(a:Tx×(Int×Int))(s:List (Int×Int))=>tM s a.2) y s) (λpre s=>s.Nodup/\∀p,p∈s↔Nx t mk `d `e pre p) states [] ⟨HM,λp=>⟨λz=>(by cases z),λz=>absurd z xb⟩⟩ (by
  intro pre a post s e ⟨h1,h2⟩;have ha:lM k a:=hs a (by rw[e];simp);have hp:∀p∈pre,lM k p:=λp hp=>hs p (by rw[e];simp[hp]);rw[iO h,EG,xc (k:=k+1) `b _ s h1 (λp hq=>((h2 p).mp hq).inb hp) (λb hb'=>by
   obtain⟨c,hc,rfl⟩:=Fo.mp hb';exact oq ha (mem_onw.mp hc).1)]
  have g:=jz (((hV t mk `d `e a).map λc=>(([c]:Tx),aj t a c)).map (·.2)) s h1;refine⟨_,`a,g.1,λp=>?_⟩;rw[g.2,h2,sF,Hf,Fo];exact or_congr M4 ⟨λ⟨c,h1,h2⟩=>⟨c,h1,h2.symm⟩,λ⟨c,h1,h2⟩=>⟨c,h1,h2.symm⟩⟩)
 have hlen:=jy (k:=k+1) `b h1 λp hp=>((h2 p).mp hp).inb hs;rw[show bO _ states []=EJ s from e,EG,show vE s=.ok (eU s)from bE `b,r9 h1 h2]
def bf(t:Cd)(loose bound:Int):`m->`A->List `A
 | [],cur=>[cur]
 |m::r,cur=>match cur with
  | []=>[[]]
  |a::q=>(a::q)::bf t `d `e r (gQ t m `d `e<|a::q)
theorem uj{t:Cd}{loose bound:Int}(l:`m):bf t `d `e l []=[[]]:=by cases l<;>rfl
theorem gi{t:Cd}{loose bound:Int}(l:`m)(cur:`A):∃r,bf t `d `e l cur=cur::r:=by
 cases l with
 |nil=>exact⟨_,`a⟩
 |cons m l=>cases cur with
  |nil=>exact⟨_,`a⟩
  |cons a q=>exact⟨_,`a⟩
theorem jA{t:Cd}(h:Card t){loose bound:Int}:∀(strip:List Pl)(k:Nat)(pre:List (List<|Int×Int))(cur:List (Int×Int)),k+`K<=4->pre.length+`K<=1000->(∀p∈cur,lM k p)->∃r,eS (zQ qT t `d `e) `h (pre++[cur])=.ok r/\(r=.nx (pre++bf t `d `e `h cur)\/r=.rt (pre++bf t `d `e `h cur))
 | [],k,pre,cur,_,_,_=>9 `a `G
 |m::strip,k,pre,cur,hk,hp,hc=>by
  simp only[GG]at hp hk;show ∃r,(zQ qT t `d `e m<|pre++[cur]).bind _=.ok r/\_;cases cur with
  |nil=>
   refine⟨.rt<|pre++[[]],?_,.inr `a⟩;unfold zQ;rw[kM];rfl
  |cons a q=>
   have e1:zQ qT t `d `e m (pre++[a::q])=.ok (.nx<|pre++[a::q]++[gQ t m `d `e (a::q)]):=by
    unfold zQ;rw[kM,EG,EG,Z1 `f,EG,xg h m (show k<4 by omega) hc,EG,gf (by simp;omega)];rfl
   rw[e1,EG];obtain⟨r,er,hr⟩:=jA h `h (k+1) (pre++[a::q]) (gQ t m `d `e<|a::q) `b (by simp;omega) λp hp=>(mem_nxt.mp hp).inb hc;refine⟨r,er,?_⟩;have e2:pre++bf t `d `e (m::`h) (a::q)=pre++[a::q]++bf t `d `e `h (gQ t m `d `e<|a::q):=by
    rw[He];rfl
   rw[e2];exact hr
theorem xh:∀p∈[((0:Int),(0:Int))],lM 0 p:=λp hp=>by
 have:p=(0,0):=by simpa using hp
 subst this;exact⟨`M,`M,`M,`M⟩
theorem kN{t:Cd}(h:Card t){loose bound:Int}(h0:0<=`d)(h1:0<=`e)(hl:`d<=3)(hb:`e<=60)(strip:`m)(hs:`K<=4):jC t `h `d `e=.ok (bf t `d `e `h [(0,0)]):=by
 unfold jC D4;have w:1 (dF (0,0) `d `e):=by
  unfold dF cy;simp;omega
 rw[iN,w,EG,Z0 `a,EG,EG];obtain⟨r,er,hr⟩:=jA h `h 0 [] [(0,0)] `b (by simp;omega) xh;rw[show eS _ `h [[((0:Int),(0:Int))]]=EJ r from er,EG];rcases hr with rfl|rfl<;>rfl
theorem xi(kvs:7 `l Bool)(k:`l):(jj kvs k true).map (·.1)=if k∈kvs.map (·.1)then kvs.map (·.1)else kvs.map (·.1)++[k]:=by
 unfold jj;by_cases z:k∈kvs.map (·.1)
 ·have:1 (kvs.any λkv=>decide<|kv.1=k):=by
   obtain⟨kv,h1,h2⟩:=Fo.mp z;exact Lb.mpr ⟨kv,h1,by simpa using h2⟩
  rw[Z0 this,Z0 z,Hf];refine Ka λkv _=>?_;show(if kv.1=k then(kv.1,true)else kv).1=kv.1;split<;>rfl
 ·have:¬(kvs.any λkv=>decide<|kv.1=k)=true:=λy=>by
   obtain⟨kv,h1,h2⟩:=Lb.mp y;exact z (Fo.mpr ⟨kv,h1,by simpa using h2⟩)
  rw[Z1 this,Z1 z];simp
def Ks(kvs:7 `l Bool)(P:`l->Prop):Prop:=(kvs.map (·.1)).Nodup/\∀p,p∈kvs.map (·.1)↔P p
theorem Ks.put{kvs:7 `l Bool}{P:`l->Prop}(h:Ks kvs P)(k:`l):Ks (jj kvs k true) λp=>P p\/p=k:=by
 unfold Ks;rw[xi];by_cases z:k∈kvs.map (·.1)
 ·rw[Z0 z];exact⟨h.1,λp=>by rw[h.2];exact⟨.inl,λy=>y.elim id λe=>by rw[e];exact(h.2 k).mp z⟩⟩
 ·rw[Z1 z];refine⟨KQ.mpr ⟨h.1,`f,λa ha b hb e=>?_⟩,λp=>by rw[FX,h.2];simp⟩;have:b=k:=by simpa using hb
  subst this;subst e;exact z ha
theorem Ks.len{kvs:7 `l Bool}{P:`l->Prop}(h:Ks kvs P){k:Nat}(hk:k<=4)(hb:∀p,P p->lM k p):kvs.length<=45:=by
 have:=jy hk h.1 λp hp=>hb p ((h.2 p).mp hp);simpa using this
theorem Ks.iff{kvs:7 `l Bool}{P Q:`l->Prop}(h:Ks kvs P)(e:∀p,P p↔Q p):Ks kvs Q:=⟨h.1,λp=>(h.2 p).trans<|e p⟩
theorem pW{k:Nat}(hk:k<=4):∀(ys:List (Int×Int))(kvs:List ((Int×Int)×Bool))(P:Int×Int->Prop),Ks kvs P->(∀p,P p->lM k p)->(∀p∈ys,lM k p)->∃kvs',bO AM ys kvs=.ok kvs'/\Ks kvs' λp=>P p\/p∈ys
 | [],kvs,P,h,_,_=>⟨kvs,`a,h.iff λp=>`f⟩
 |a::ys,kvs,P,h,hP,hy=>by
  have hl:=h.len hk hP;have e:AM a kvs=.ok (jj kvs a true):=by
   unfold AM;rw[show iW kvs a true=.ok (jj kvs a true)from bE `b];rfl
  obtain⟨k',e',h'⟩:=pW hk ys (jj kvs a true) _ (h.put a) (λp hp=>hp.elim (hP p) λe=>by rw[e];exact hy a<|Fc ..) λp hp=>hy p (Fe _ hp);refine⟨k',?_,h'.iff λp=>by rw[F0,or_assoc]⟩;show(AM a kvs).bind _=_;rw[e,EG];exact e'
theorem xj{t:Cd}(h:Card t)(mk:Pl){loose bound:Int}{k:Nat}(hk:k<4){pre:List `A}(hp:pre.length<=1000){cur:`A}(hs:∀p∈cur,lM k p):AN oa t `d `e mk (pre++[cur])=.ok (if gQ t mk `d `e cur=[]then .rt (pre++[cur]++[gQ t mk loose bound cur])else .nx (pre++[cur]++[gQ t mk loose bound cur])):=by
 unfold AN;rw[kM,EG];obtain⟨s,e,h1⟩:=di (f:=Cc oa t `d `e mk) (λpre s=>Ks s<|Nx t mk `d `e pre) cur [] ⟨HM,λp=>⟨λz=>(by cases z),λz=>absurd z xb⟩⟩ (by
  intro pre a post s e h1;have ha:lM k a:=hs a (by rw[e];simp);have hq:∀p∈pre,lM k p:=λp hp=>hs p (by rw[e];simp[hp]);unfold Cc;rw[zm h mk `d `e _,EG];obtain⟨s',e',h'⟩:=pW (k:=k+1) `b ((hV t mk `d `e a).map<|aj t a) s _ h1 (λp n=>n.inb hq) (λp hp=>by
   obtain⟨c,hc,rfl⟩:=Fo.mp hp;exact oq ha (mem_onw.mp hc).1)
  rw[e',EG];exact⟨s',`a,h'.iff λp=>by
   rw[sF,Fo];exact or_congr M4 ⟨λ⟨c,h1,h2⟩=>⟨c,h1,h2.symm⟩,λ⟨c,h1,h2⟩=>⟨c,h1,h2.symm⟩⟩⟩)
 have hlen:=h1.len (k:=k+1) `b λp n=>n.inb hs;rw[show bO _ cur []=EJ s from e,EG,show vZ (s.map (·.1))=.ok (eU<|s.map (·.1))from bE ⟨by rw[EY];omega,h1.1⟩,r9 h1.1 h1.2,EG,gf (by simp;omega),EG];have el:(gQ t mk `d `e cur).length=s.length:=by
  rw[<-r9 h1.1 h1.2,(eV _).length_eq,EY]
 by_cases z:gQ t mk `d `e cur=[]
 ·rw[Z0 z,Z0 (by rw[z]at el;simp at el;simp[<-el])]
 ·rw[Z1 z,Z1 (λy=>z (by
   have:s.length=0:=by simpa using y
   exact Hz.mp `b))]
theorem lN{t:Cd}(h:Card t){loose bound:Int}:∀(strip:List Pl)(k:Nat)(pre:List (List<|Int×Int))(cur:List (Int×Int)),k+`K<=4->cur≠[]->pre.length+`K<=1000->(∀p∈cur,lM k p)->∃r,eS (AN oa t `d `e) `h (pre++[cur])=.ok r/\(r=.nx (pre++bf t `d `e `h cur)\/r=.rt (pre++bf t `d `e `h cur))
 | [],k,pre,cur,_,_,_,_=>9 `a `G
 |m::strip,k,pre,[],_,hn,hp,hc=>absurd `a hn
 |m::strip,k,pre,a::q,hk,hn,hp,hc=>by
  simp only[GG]at hp hk;show ∃r,(AN oa t `d `e m<|pre++[a::q]).bind _=.ok r/\_;rw[xj h m (show k<4 by omega) `b hc,EG];have e2:pre++bf t `d `e (m::`h) (a::q)=pre++[a::q]++bf t `d `e `h (gQ t m `d `e<|a::q):=by
   rw[He];rfl
  rw[e2];by_cases z:gQ t m `d `e (a::q)=[]
  ·rw[Z0 z,z,uj];exact 9 `a (.inr `a)
  ·rw[Z1 z];exact lN h `h (k+1) (pre++[a::q]) (gQ t m `d `e<|a::q) `b z (by simp;omega) λp hp=>(mem_nxt.mp hp).inb hc
theorem xk{t:Cd}(h:Card t){loose bound:Int}(hl:`d<=3)(hb:`e<=60)(strip:`m)(hs:`K<=4):yX t `h `d `e=.ok (bf t `d `e `h [(0,0)]):=by
 unfold yX Dj;obtain⟨r,er,hr⟩:=lN h `h 0 [] [(0,0)] `b `f (by simp;omega) xh;rw[show eS _ `h [[((0:Int),(0:Int))]]=EJ r from er,EG];rcases hr with rfl|rfl<;>rfl
def cnt(t:Cd)(loose bound:Int):`m->`l->Int
 | [],_=>1
 |m::r,s=>((hV t m `d `e s).map λc=>30 t `e r<|aj t s c).sum
def xl(b:Bool)(i:Int):Int:=if 1 b then i else 0
theorem n6{t:Cd}{loose bound:Int}{m:Pl}{r:`m}{s:`l}:30 t `e (m::r) s=xl (cI t `d `e s 102 m) (30 t `e r<|aj t s 102)+xl (cI t `d `e s 98 m) (30 t `e r<|aj t s 98)+xl (cI t `d `e s 105 m) (30 t `e r<|aj t s 105):=by
 show((hV t m `d `e s).map λc=>30 t `e r<|aj t s c).sum=_;unfold hV xl;cases h1:cI t loose bound s 102 m<;>cases h2:cI t loose bound s 98 m<;>cases h3:cI t loose bound s 105 m<;>simp[h1,h2,h3]<;>omega
theorem jQ{b:Bool}{i:Int}(h:0<=i):0<=xl b i:=by unfold xl;split<;>omega
theorem iu{t:Cd}{loose bound:Int}:∀(l:List Pl)(s:Int×Int),0<=30 t `e l s
 | [],_=>by show(0:Int)<=1;decide
 |m::r,s=>by
  rw[n6];have h1:=jQ (b:=cI t `d `e s 102 m) (iu (t:=t) (loose:=loose) (bound:=bound) r<|aj t s 102);have h2:=jQ (b:=cI t `d `e s 98 m) (iu (t:=t) (loose:=loose) (bound:=bound) r<|aj t s 98);have h3:=jQ (b:=cI t `d `e s 105 m) (iu (t:=t) (loose:=loose) (bound:=bound) r<|aj t s 105);omega
theorem cnt_pos{t:Cd}{loose bound:Int}{m:Pl}{r:`m}{s:`l}:30 t `e (m::r) s=0↔∀c,isTurn c->1 (cI t `d `e s c m)->30 t `e r (aj t s c)=0:=by
 rw[n6];have n1:=iu (t:=t) (loose:=loose) (bound:=bound) r (aj t s 102);have n2:=iu (t:=t) (loose:=loose) (bound:=bound) r (aj t s 98);have n3:=iu (t:=t) (loose:=loose) (bound:=bound) r (aj t s 105);have h1:=jQ (b:=cI t `d `e s 102 m) n1;have h2:=jQ (b:=cI t `d `e s 98 m) n2;have h3:=jQ (b:=cI t `d `e s 105 m) n3;constructor
 ·intro h c hc hm;rcases hc with rfl|rfl|rfl
  ·have:xl (cI t `d `e s 102 m) (30 t `e r<|aj t s 102)=0:=`b
   rw[hm]at this;exact this
  ·have:xl (cI t `d `e s 98 m) (30 t `e r<|aj t s 98)=0:=`b
   rw[hm]at this;exact this
  ·have:xl (cI t `d `e s 105 m) (30 t `e r<|aj t s 105)=0:=`b
   rw[hm]at this;exact this
 ·intro h;have key:∀c,isTurn c->xl (cI t `d `e s c m) (30 t `e r<|aj t s c)=0:=λc hc=>by
   unfold xl;split;·rename_i z;exact h c hc z
   ·rfl
  rw[key 102 `G,key 98 (.inr `G),key 105 (.inr<|.inr `a)];rfl
theorem lO{t:Cd}{loose bound:Int}(l:`m)(cur:`A):0<(bf t `d `e l cur).length:=by
 obtain⟨r,hr⟩:=gi (t:=t) (loose:=loose) (bound:=bound) l cur;rw[hr];simp
theorem iP{t:Cd}{loose bound:Int}:∀(l:List Pl)(cur:List (Int×Int)),(bf t `d `e l cur).length<=l.length+1
 | [],cur=>EX _
 |m::r,[]=>by show 1<=_;omega
 |m::r,a::q=>by
  have:=iP (t:=t) (loose:=loose) (bound:=bound) r (gQ t m `d `e<|a::q);show(bf t `d `e r<|gQ t m `d `e<|a::q).length+1<=r.length+1+1;omega
theorem jB{t:Cd}{loose bound:Int}:∀(l:List Pl)(cur:List (Int×Int))(i:Nat),i+1<(bf t `d `e l cur).length->∃m L,0 l[i]? m/\0 (bf t `d `e l cur)[i]? L/\0 (bf t `d `e l cur)[i+1]? (gQ t m `d `e L)
 | [],cur,i,h=>absurd h (by show ¬i+1<1;omega)
 |m::r,[],i,h=>absurd h (by show ¬i+1<1;omega)
 |m::r,a::q,0,h=>by
  obtain⟨z,hz⟩:=gi (t:=t) (loose:=loose) (bound:=bound) r (gQ t m `d `e<|a::q);refine⟨m,a::q,`a,`a,?_⟩;show(bf t `d `e r<|gQ t m `d `e<|a::q)[0]? =_;rw[hz];rfl
 |m::r,a::q,i+1,h=>by
  have h':i+1<(bf t `d `e r<|gQ t m `d `e<|a::q).length:=by
   have:i+1+1<(bf t `d `e r<|gQ t m `d `e<|a::q).length+1:=h;omega
  exact jB r (gQ t m `d `e<|a::q) i h'
theorem B0{t:Cd}{m:Pl}{loose bound:Int}{l:`A}:(gQ t m `d `e l).Nodup:=(eV _).nodup_iff.mpr (jz _ [] HM).1
theorem iQ{t:Cd}{loose bound:Int}:∀(l:List Pl)(k:Nat)(cur:List (Int×Int)),k+l.length<=4->cur.Nodup->(∀p∈cur,lM k p)->∀L∈bf t loose bound l cur,L.Nodup/\L.length<=45
 | [],k,cur,hk,h1,h2,L,hL=>by
  have:L=cur:=by simpa [bf] using hL
  subst this;exact⟨h1,jy `b h1 h2⟩
 |m::r,k,[],_,h1,h2,L,hL=>by
  have:L=[]:=by simpa [bf] using hL
  subst this;exact⟨HM,`f⟩
 |m::r,k,a::q,hk,h1,h2,L,hL=>by
  simp only[GG]at hk;rcases F0.mp (show L∈(a::q)::bf t loose bound r (gQ t m loose bound (a::q))from hL)with rfl|hL
  ·exact⟨h1,jy `b h1 h2⟩
  ·exact iQ r (k+1) _ `b B0 (λp hp=>(mem_nxt.mp hp).inb h2) L hL
theorem fZ{t:Cd}{loose bound:Int}:∀(l:List Pl)(cur:List (Int×Int)),∃L,0 (bf t `d `e l cur)[(bf t `d `e l cur).length-1]? L/\(L=[]\/(bf t `d `e l cur).length=l.length+1)/\(L=[]↔∀s∈cur,30 t `e l s=0)
 | [],cur=>⟨cur,rfl, .inr `a,by
  constructor
  ·intro h;rw[h];exact λs hs=>by cases hs
  ·intro h;cases cur with
   |nil=>rfl
   |cons a q=>exact absurd (h a (Fc ..)) (by show ¬(1:Int)=0;decide)⟩
 |m::r,[]=>⟨[],`a,`G,`f⟩
 |m::r,a::q=>by
  obtain⟨L,h1,h2,h3⟩:=fZ (t:=t) (loose:=loose) (bound:=bound) r (gQ t m `d `e<|a::q);have hp:=lO (t:=t) (loose:=loose) (bound:=bound) r (gQ t m `d `e<|a::q);refine⟨L,?_,?_,?_⟩
  ·show 0 ((a::q)::bf t `d `e r (gQ t m `d `e<|a::q))[(bf t `d `e r<|gQ t m `d `e<|a::q).length+1-1]? L;rw[Kx];have e:(bf t `d `e r<|gQ t m `d `e<|a::q).length=(bf t `d `e r<|gQ t m `d `e<|a::q).length-1+1:=`b
   rw[e,Gq];exact h1
  ·refine h2.imp id λh=>?_;show(bf t `d `e r<|gQ t m `d `e<|a::q).length+1=_;rw[h];rfl
  ·rw[h3];constructor
   ·intro h s hs;exact cnt_pos.mpr λc hc hm=>h _ (mem_nxt.mpr ⟨s,hs,c,hc,hm,`a⟩)
   ·intro h p hp;obtain⟨s,hs,c,hc,hm,rfl⟩:=mem_nxt.mp hp;exact cnt_pos.mp (h s hs) c hc hm
theorem lP{Z:Type}{xs:`r}{a:Z}(h:0 xs[`i-1]? a):dG xs (-(1:Int))=.ok a:=by
 have hl:`i-1<`i:=(ER.mp h).1;have e:0 (rB xs (-1)) a:=by
  unfold rB ixN;rw[Z1 ⋯,Z0 `b];show 0 xs[_]? a;have:(-1+(xs.length:Int)).toNat=`i-1:=`b
  rw[this];exact h
 unfold dG;rw[e];rfl
theorem eZ{Z:Type}{xs:`r}{i:Nat}{a:Z}(h:0 xs[i]? a):dG xs (i:Int)=.ok a:=by
 unfold dG;rw[rC h];rfl
theorem xm{Z:Type}{kvs:7 `l Z}{k:`l}{a:Z}(h:∀q∈kvs,q.1≠k):jj kvs k a=kvs++[(k,a)]:=by
 unfold jj;rw[Z1];intro z;obtain⟨q,h1,h2⟩:=Lb.mp z;exact h q h1 (by simpa using h2)
theorem oz{Z:Type}{f:`l->7 `l Z->Res (7 `l Z)}{g:`l->Z}{ks:`A}(nd:ks.Nodup)(hl:ks.length<=900)(h:∀k∈ks,∀s:List ((Int×Int)×Z),f k s=iW s k (g k)):bO f ks []=.ok (ks.map λk=>(k,g k)):=by
 obtain⟨s,e,h1⟩:=di (f:=f) (λpre s=>s=pre.map λk=>(k,g k)) ks [] `a (by
  intro pre a post s e h1;have hp:pre.length<=900:=by rw[e]at hl;simp at hl;omega
  rw[h a (by rw[e];simp),h1];refine 9 (bE (by rw[EY];omega)) ?_;rw[xm λq hq=>?_];·simp
  ·obtain⟨k,hk,rfl⟩:=Fo.mp hq;intro z;have z:k=a:=z;subst z;rw[e,KQ]at nd;exact nd.2.2 k hk k (Fc ..) `a)
 rw[e,h1]
theorem pX{Z:Type}{g:`l->Z}{k:`l}:∀{ks:List (Int×Int)},k∈ks->0 (look (ks.map λk=>(k,g k)) k) (g k)
 |a::ks,h=>by
  by_cases e:a=k;·subst e;simp[look,H0]
  ·have:k∈ks:=by
    rcases F0.mp h with z|z;·exact absurd z.symm e
    ·exact z
   have ih:=pX (g:=g) this;simp only[look,FQ,H0,decide_eq_false e]at ih ⊢;exact ih
theorem lQ{Z:Type}{g:`l->Z}{k:`l}{ks:`A}(h:k∈ks):getD (ks.map λk=>(k,g k)) k=.ok (g k):=by
 unfold getD;rw[pX h];rfl
def dc(t:Cd)(strip:`m)(loose bound:Int)(i:Nat):7 `l Int:=((bf t `d `e `h [(0,0)])[i]?.getD []).map λs=>(s,30 t `e (strip.drop i) s)
theorem xo{t:Cd}(h:Card t){strip:`m}(hs:`K<=4){loose bound:Int}(hl:`d<=3)(hb:`e<=60){i:Nat}{m:Pl}{L:`A}(h1:0 `h[i]? m)(h2:0 (bf t `d `e `h [(0,0)])[i]? L)(h3:0 (bf t `d `e `h [(0,0)])[i+1]? (gQ t m `d `e L))
  {pre:List (7 `l Int)} (hp:pre.length<=900):Bm gq t `h `d `e (bf t `d `e `h [(0,0)]) (i:Int) (pre++[dc t `h `d `e (i+1)])=.ok (pre++[dc t `h `d `e (i+1)]++[dc t strip loose bound i]):=by
 have all:=iQ (t:=t) (loose:=loose) (bound:=bound) `h 0 [(0,0)] `b `f xh L (F3 h2);have len:=all.2;have ed:dc t `h `d `e (i+1)=(gQ t m `d `e L).map λs=>(s,30 t `e (strip.drop<|i+1) s):=by unfold dc;rw[h3];rfl
 have ei:dc t `h `d `e i=L.map λs=>(s,30 t `e (strip.drop i) s):=by unfold dc;rw[h2];rfl
 have dr:strip.drop i=m::strip.drop (i+1):=by
  obtain⟨hi,e⟩:=ER.mp h1;rw[Gx hi,e]
 unfold Bm;rw[kM,EG,eZ h2,EG];rw[oz (g:=λs=>(hV t m `d `e s).map λc=>(([c]:Tx),aj t s c)) all.1 `b (λk hk s=>by
  rw[eZ h1,EG,iO h,EG]),EG,Hf]
 rw[show PQ ((λx:(Int×Int)×List (Tx×(Int×Int))=>x.1)∘λk=>(k,(hV t m `d `e k).map λc=>(([c]:Tx),aj t k c))) L=L from by
  rw[show((λx:(Int×Int)×List (Tx×(Int×Int))=>x.1)∘λk=>(k,(hV t m `d `e k).map λc=>(([c]:Tx),aj t k c)))=id from rfl,P7]]
 rw[oz (g:=λs=>30 t `e (strip.drop i) s) all.1 `b (λk hk s=>by
  rw[lQ hk,EG,dJ (g:=λa:Tx×(Int×Int)=>30 t `e (strip.drop<|i+1) a.2) (by rw[EY];unfold hV cap;refine Gy (LM _ _) ⋯) (λa ha=>by
   obtain⟨c,hc,rfl⟩:=Fo.mp ha;rw[ed];exact lQ (mem_nxt.mpr ⟨k,hk,c,(mem_onw.mp hc).1,(mem_onw.mp hc).2,`a⟩)),EG,EG,Hf]
  congr 1;rw[dr];rfl),EG,gf (by simp;omega),EG,ei]
theorem xp{t:Cd}(h:Card t){strip:`m}(hs:`K<=4){loose bound:Int}(h0:0<=`d)(hl:`d<=3)(hb0:0<=`e)(hb:`e<=60):∃D,yT t `h `d `e=.ok D/\D.length=(bf t `d `e `h [(0,0)]).length/\∀i,i<D.length->0 D[i]? (dc t `h `d `e i):=by
 unfold yT D6;rw[kN h h0 hb0 hl hb `h `b,EG];obtain⟨L,hL,hE,_⟩:=fZ (t:=t) (loose:=loose) (bound:=bound) `h [(0,0)];have hpos:=lO (t:=t) (loose:=loose) (bound:=bound) `h [(0,0)];have hlen:=iP (t:=t) (loose:=loose) (bound:=bound) `h [(0,0)];have all:=iQ (t:=t) (loose:=loose) (bound:=bound) `h 0 [(0,0)] `b `f xh L (F3 hL);have len:=all.2;obtain⟨k,hk⟩:∃k,(bf t `d `e `h [(0,0)]).length=k+1:=⟨_,(Nat.sub_add_cancel hpos).symm⟩
 rw[hk,Kx]at hL;have e1:bO (λ(a:Int×Int)(s:List ((Int×Int)×Int))=>iW s a (1:Int)) L []=.ok (dc t `h `d `e k):=by
  rw[oz (g:=λ_=>(1:Int)) all.1 `b λ_ _ _=>`a];unfold dc;rw[hL];show EJ (L.map _)=EJ (L.map _);rcases hE with rfl|hE
  ·rfl
  ·have:k=`K:=`b
   subst this;rw[HJ];rfl
 rw[lP (a:=L) (by rw[hk];exact hL),EG,e1,EG,EG];have er:o8 (((bf t `d `e `h [(0,0)]).length:Int)-1)=.ok ((FP k).map λ(i:Nat)=>(i:Int)).reverse:=by
  rw[hk];have e:((k+1:Nat):Int)-1=(k:Int):=`b
  rw[e];unfold o8 gp;rw[bE ⟨`b,`b⟩];rfl
 rw[er,EG];obtain⟨s,es,h1,h2⟩:=di (f:=Bm gq t `h `d `e (bf t `d `e `h [(0,0)])) (λpre s=>s.length=pre.length+1/\∀j,j<=pre.length->0 s[j]? (dc t `h `d `e<|k-j)) ((FP k).map λ(i:Nat)=>(i:Int)).reverse [dc t strip loose bound k] ⟨`a,λj hj=>by
  have:j=0:=Nat.le_zero.mp hj;subst this;rfl⟩ (by
  intro pre a post s e ⟨h1,h2⟩;have hlen2:pre.length<k:=by have:=congrArg Hk e;simp at this;omega
  have ha:a=((k-1-pre.length:Nat):Int):=by
   have:0 ((FP k).map λ(i:Nat)=>(i:Int)).reverse[pre.length]? a:=by rw[e];simp
   rw[HN (by simpa using hlen2),EY,Jy,ET,GW `b]at this;exact(Ft this).symm
  obtain⟨m,L',q1,q2,q3⟩:=jB (t:=t) (loose:=loose) (bound:=bound) `h [(0,0)] (k-1-pre.length) `b;have hs2:s=s.dropLast++[dc t `h `d `e (k-1-pre.length+1)]:=by
   have hne:s≠[]:=λz=>by rw[z]at h1;simp at h1
   have hl2:=h2 pre.length (EX _);have e3:k-1-pre.length+1=k-pre.length:=by omega
   rw[e3];have:s.getLast hne=dc t `h `d `e (k-pre.length):=by
    have h5:=List.getLast?_eq_getElem? (l:=s);rw[h1,Kx,hl2,List.getLast?_eq_some_getLast hne]at h5;exact Ft h5
   rw[<-this];exact(K8 hne).symm
  rw[ha,hs2,xo h hs hl hb q1 q2 q3 (by rw[List.length_dropLast];omega),<-hs2];refine⟨_,`a,by simp[h1],λj hj=>?_⟩;rw[FJ,GZ]at hj;by_cases z:j<=pre.length
  ·rw[F7 `b];exact h2 j z
  ·have ej:j=pre.length+1:=by omega
   subst ej;rw[F9 `b,h1,Jx];show 0 (some _) _;congr 2;omega)
 rw[es,EG];have hsl:s.length=k+1:=by simpa using h1
 refine⟨_,rfl,by rw[Kb,hk];exact hsl,λi hi=>?_⟩;rw[Kb]at hi;rw[HN hi,h2 _ (by simp;omega)];congr 2;omega
theorem zU{t:Cd}(h:Card t){strip:`m}(hs:`K<=4){loose bound:Int}(h0:0<=`d)(hl:`d<=3)(hb0:0<=`e)(hb:`e<=60):∃r L,jC t `h `d `e=.ok r/\dG r (-(1:Int))=.ok L/\(1 L.isEmpty↔30 t `e `h (0,0)=0):=by
 obtain⟨L,hL,_,hE⟩:=fZ (t:=t) (loose:=loose) (bound:=bound) `h [(0,0)];refine⟨_,L,kN h h0 hb0 hl hb `h `b,lP hL,?_⟩;rw[List.isEmpty_iff,hE];simp
theorem n9{c:Int->`x}{f:Int->`C}{P:Int->Prop}{N:Int}(hc:∀b,0<=b->b<=N->∃r,c b=.ok r/\(r=true↔¬P b))(hf:∀b,f b=.ok (b+1)):∀(m:Nat)(fuel:Nat)(b:Int),0<=b->m<fuel->(∃d,b<=d/\d<=b+m/\d<=N/\P d)->(fV c f fuel b).Ok λd=>b<=d/\P d/\∀e,b<=e->e<d->¬P e
 |m,0,b,_,h,_=>absurd h `b
 |m,fuel+1,b,h0,hm,⟨d,d1,d2,d4,d3⟩=>by
  obtain⟨r,er,hr⟩:=hc b h0 `b;unfold fV;rw[er,EG];cases r with
  |false=>exact⟨Iq _,KR.mp λz=>N9<|hr.mpr z,λe h1 h2=>absurd h1 `b⟩
  |true=>
   have np:=hr.mp `a;rw[Z0 `a,hf,EG];have hd:d≠b:=λz=>np<|z▸d3;cases m with
   |zero=>exact absurd d2 `b
   |succ m=>
    refine(n9 hc hf m fuel (b+1) `b `b ⟨d,`b,`b,d4,d3⟩).imp λx zz=>?_;obtain⟨h1,h2,h3⟩:=zz;refine⟨`b,h2,λe h4 h5=>?_⟩;by_cases z:e=b;·rw[z];exact np
    ·exact h3 e `b h5
theorem B1{t:Cd}(h:Card t){strip:`m}(hs:`K<=4){loose:Int}(h0:0<=`d)(hl:`d<=3):∃r,xA t `h `d=.ok r/\(r=`c/\30 t `K `h (0,0)=0\/∃d,0 r d/\0<=d/\d<=`K/\30 t d `h (0,0)≠0/\∀e,0<=e->e<d->30 t e `h (0,0)=0):=by
 unfold xA D5;obtain⟨r,L,e1,e2,e3⟩:=zU h hs h0 hl (show(0:Int)<=strip.length by omega) `b;rw[e1,EG,e2,EG,EG];by_cases z:30 t `K `h (0,0)=0
 ·rw[Z0 (e3.mpr z)];exact 9 `a (.inl ⟨`a,z⟩)
 ·rw[Z1 λy=>z (e3.mp y)];obtain⟨d,ed,d1,d2,d3⟩:=(n9 (N:=60) (c:=Ca jC t `h `d) (f:=Cb) (P:=λb=>30 t b `h (0,0)≠0) (λb hb0 hb1=>by
   obtain⟨r,L,e1,e2,e3⟩:=zU h hs h0 hl hb0 hb1;unfold Ca;rw[e1,EG,e2,EG];exact 9 `a (by rw[e3,KR])) (λb=>by unfold Cb;rfl) `K cap 0 ⋯ (by show `K<100000;omega) ⟨`K,`b,`b,`b,z⟩).ex
  rw[ed,EG];refine 9 `a (.inr ⟨d,`a,d1,?_,d2,λe h4 h5=>KR.mp<|d3 e h4 h5⟩);by_cases y:(d:Int)<=`K;·exact y
  ·exact absurd z (d3 `K `b `b)
def pY(t:Cd)(loose bound:Int)(a:Pl×`A×`A):Bool:=a.2.1.all λs=>(hV t a.1 `d `e s).all λc=>a.2.2.contains (aj t s c)
def iZ(t:Cd)(loose bound:Int)(strip:`m)(L:List `A):Bool:=
 decide (2<=L.length)&&decide (L.length<=`K+1)&&decide (L[L.length-1]?.getD []=[])&&(L[0]?.getD []).contains (0,0)&&(strip.zip<|L.dropLast.zip<|L.drop 1).all (pY t `d `e)
theorem pZ{Z:Type}{f:Z->Bool}:∀(xs:`r),(xs.findSome? λa=>if 1 (f a) then none else some `g)=if 1 (xs.all f) then none else some `g
 | []=>rfl
 |a::xs=>by
  rw[Kd,KU];cases h:f a;·simp
  ·simp[pZ xs]
theorem q9{Z:Type}{g:Z->Unit->Res (Fl Bool Unit)}{f:Z->Bool}(xs:`r)(h:∀a∈xs,g a ()=.ok (if 1 (f a) then .nx ()else .rt `g)):eS g xs ()=.ok (if 1 (xs.all f) then .nx ()else .rt `g):=by
 rw[jN (g:=λa=>if 1 (f a) then none else some `g) xs λa ha=>by rw[h a ha];cases f a<;>rfl,pZ];cases xs.all f<;>rfl
theorem lR{t:Cd}{loose bound:Int}{strip:`m}(h:30 t `e `h (0,0)=0):1 (iZ t `d `e `h<|bf t `d `e `h [(0,0)]):=by
 obtain⟨r,hr⟩:=gi (t:=t) (loose:=loose) (bound:=bound) `h [(0,0)];obtain⟨E,e1,_,e3⟩:=fZ (t:=t) (loose:=loose) (bound:=bound) `h [(0,0)];have hE:E=[]:=e3.mpr λs hs=>by
  have:s=(0,0):=by simpa using hs
  rw[this];exact h
 subst hE;have hlen:=iP (t:=t) (loose:=loose) (bound:=bound) `h [(0,0)];have h2:2<=(bf t `d `e `h [(0,0)]).length:=by
  cases strip with
  |nil=>exact absurd h (by show ¬(1:Int)=0;decide)
  |cons m q=>
   have:=lO (t:=t) (loose:=loose) (bound:=bound) q (gQ t m `d `e [(0,0)]);show 2<=(bf t `d `e q<|gQ t m `d `e [(0,0)]).length+1;omega
 unfold iZ;rw[decide_eq_true h2,decide_eq_true hlen,e1,hr];simp only[GQ,Gw,GN];rw[<-hr,show decide True=true from rfl,Gw,show 1 (([((0:Int),(0:Int))]:`A).contains (0,0)) from `M,Gw,G1];intro a ha;obtain⟨i,hi⟩:=IH.mp ha;obtain⟨z1,z2⟩:=FV.mp hi;obtain⟨z3,z4⟩:=FV.mp z2;rw[Gz]at z4;rw[JF]at z3;have hi1:1+i<(bf t `d `e `h [(0,0)]).length:=(ER.mp z4).1;rw[G7 `b]at z3;obtain⟨m,L,q1,q2,q3⟩:=jB (t:=t) (loose:=loose) (bound:=bound) `h [(0,0)] i `b;rw[q1]at z1;rw[q2]at z3;rw[Ln,q3]at z4;unfold pY;rw[<-Ft z1,<-Ft z3,<-Ft z4,G1];intro s hs;rw[G1];intro c hc;rw[IJ];exact mem_nxt.mpr ⟨s,hs,c,(mem_onw.mp hc).1,(mem_onw.mp hc).2,`a⟩
theorem B2{t:Cd}(h:Card t)(mk:Pl)(loose bound:Int)(xs ys:`A)(hy:ys.length<=900):yV t mk `d `e xs ys=.ok (pY t `d `e (mk,xs,ys)):=by
 unfold yV De;rw[bE (show ys.length<1000 by omega),EG,q9 (f:=λs=>(hV t mk `d `e s).all λc=>ys.contains (aj t s c)) xs λs hs=>?_,EG]
 ·show _=EJ (xs.all λs=>(hV t mk `d `e s).all λc=>ys.contains<|aj t s c);cases (xs.all λs=>(hV t mk loose bound s).all λc=>ys.contains<|aj t s c)<;>rfl
 ·unfold Dd;rw[iO h,EG,q9 (f:=λp:Tx×(Int×Int)=>ys.contains p.2) _ λp hp=>?_,EG]
  ·rw[OM];show(match (if 1 ((hV t mk `d `e s).all λc=>ys.contains<|aj t s c) then(Fl.nx ():Fl Bool Unit)else .rt `g)with| .nx _=>_| .rt r=>_| .bk _=>_)=_;cases ((hV t mk loose bound s).all λc=>ys.contains<|aj t s c)<;>rfl
  ·unfold Dc;cases ys.contains p.2<;>rfl
theorem qa{t:Cd}(h:Card t)(strip:`m)(hs:`K<=1000)(loose bound:Int){L:List `A}(hl:∀l∈L,l.length<=900):uw t `h `d `e L=.ok (iZ t `d `e `h L):=by
 unfold uw Df iZ;by_cases h2:2<=L.length
 ·rw[Z1 (by simp;omega),EG,decide_eq_true h2,Gw];by_cases h3:L.length<=`K+1
  ·rw[Z1 (by simp;omega),decide_eq_true h3,Gw];have l1:0 L[L.length-1]? L[L.length-1]:=EH `b;have l0:0 L[0]? L[0]:=EH `b;rw[lP l1,EG,EG,l1,l0,GQ,GQ];by_cases h4:L[L.length-1]=[]
   ·rw[decide_eq_true h4,Gw,h4,show(!([]:`A).isEmpty)=`g from rfl,Z1 ⋯,show dG L (0:Int)=.ok L[0]from eZ (i:=0) l0,EG,EG];cases h5:L[0].contains (0,0)with
    |false=>rfl
    |true=>
     rw[show(!true)=`g from rfl,Z1 ⋯,Gw,show(L.length:Int)-1=((L.length-1:Nat):Int) by omega,jM `b,EG];have key:∀i:Nat,i<L.length-1->0 (strip.zip<|L.dropLast.zip<|L.drop 1)[i]? (strip.getD i default,L.getD i [],L.getD (i+1) []):=λi hi=>by
      rw[FV];refine⟨by rw[F4,EH (show i<strip.length by omega)];rfl,?_⟩;rw[FV];constructor
      ·show 0 L.dropLast[i]? (L.getD i []);rw[JF,G7 hi,F4,EH (show i<L.length by omega)];rfl
      ·show 0 (L.drop 1)[i]? (L.getD (i+1) []);rw[Gz,Ln,F4,EH (show i+1<L.length by omega)];rfl
     rw[dJ (g:=λa:Int=>pY t `d `e (strip.getD a.toNat default,L.getD a.toNat [],L.getD (a.toNat+1) [])) (by rw[EY,Jy];show _<=100000;omega) (λa ha=>by
      obtain⟨i,hi,rfl⟩:=Fo.mp ha;have hi:i<L.length-1:=by simpa using hi
      rw[eZ (i:=i) (EH (show i<strip.length by omega)),EG,eZ (i:=i) (EH (show i<L.length by omega)),EG,show(i:Int)+1=((i+1:Nat):Int) by omega,eZ (i:=i+1) (EH (show i+1<L.length by omega)),EG,B2 h _ `d `e _ _ (hl _<|J6 _)];congr 2;simp[F4,EH (show i<strip.length by omega),EH (show i<L.length by omega),EH (show i+1<L.length by omega)]),EG]
     congr 1;rw[Ga,G1,G1];constructor
     ·intro hall p hp;obtain⟨i,hi⟩:=IH.mp hp;have hlt:i<L.length-1:=by
       have:=(ER.mp hi).1;simp at this;omega
      rw[key i hlt]at hi;cases hi;exact hall _ (Fo.mpr ⟨(i:Int),Fo.mpr ⟨i,by simpa using hlt,`a⟩,`a⟩)
     ·intro hall b hb;obtain⟨a,ha,rfl⟩:=Fo.mp hb;obtain⟨i,hi,rfl⟩:=Fo.mp ha;exact hall _ (F3<|key i<|by simpa using hi)
   ·rw[decide_eq_false h4,Ki,Ki];have:1 (!L[L.length-1].isEmpty):=by
     cases q:L[L.length-1]with
     |nil=>exact absurd q h4
     |cons _ _=>rfl
    rw[this,Z0 `a,EG,Z0 `a]
  ·rw[Z0 (by simp;omega),decide_eq_false h3];simp
 ·rw[Z0 (by simp;omega),EG,Z0 `a,decide_eq_false h2];simp
theorem nc{t:Cd}{loose bound:Int}{strip:`m}{L:List `A}(h:1 (iZ t `d `e `h L)):30 t `e `h (0,0)=0:=by
 unfold iZ at h;simp only[Gp,decide_eq_true_eq]at h;obtain⟨⟨⟨⟨h2,h3⟩,h4⟩,h5⟩,h6⟩:=h;rw[G1]at h6;have key:∀(n i:Nat),i+n+1=L.length->∀s∈L[i]?.getD [],30 t `e (strip.drop i) s=0:=by
  intro n
  induction n with
  |zero=>
   intro i hi s hs;rw[show i=L.length-1 by omega,h4]at hs;cases hs
  |succ n ih=>
   intro i hi s hs;have i1:i<`K:=`b
   have i2:i<L.length:=`b
   have i3:i+1<L.length:=`b
   rw[Gx i1];refine cnt_pos.mpr λc hc hm=>ih (i+1) `b _ ?_;have hz:0 (strip.zip<|L.dropLast.zip<|L.drop 1)[i]? (strip[i],L[i],L[i+1]):=by
    rw[FV];refine⟨EH i1,?_⟩;rw[FV];refine⟨?_,?_⟩;·rw[JF,G7 `b];exact EH i2
    ·rw[Gz,Ln];exact EH i3
   have st:=h6 _ (F3 hz);unfold pY at st;rw[G1]at st;rw[EH i2]at hs;have:=st s hs;rw[G1]at this;rw[EH i3];exact IJ.mp (this c<|mem_onw.mpr ⟨hc,hm⟩)
 have:=key (L.length-1) 0 `b (0,0) (IJ.mp h5);simpa using this
theorem jZ{moves:7 Tx `l}{counts:7 `l Int}{f:Tx×`l->Int}(hf:∀a∈moves,getD counts a.2=.ok (f a)):∀(post pre:List (Tx×(Int×Int)))(n:Int)(fuel:Nat),moves=pre++post->0<=n->n<(post.map f).sum->post.length<fuel->∃p a q n',post=p++a::q/\fV (Bn moves counts) (Bo moves counts) fuel (n,(pre.length:Int))=.ok (n',((pre.length+p.length:Nat):Int))/\n=(p.map f).sum+n'/\0<=n'/\n'<f a
 | [],pre,n,fuel,_,h0,h1,_=>absurd h1 (by simp;omega)
 |a::post,pre,n,0,_,_,_,h=>absurd h `b
 |a::post,pre,n,fuel+1,hm,h0,h1,hl=>by
  have ha:0 moves[pre.length]? a:=by rw[hm];simp
  have hf':=hf a (by rw[hm];simp);have e1:Bn moves counts (n,(pre.length:Int))=.ok (decide<|f a<=n):=by
   unfold Bn;rw[eZ ha,EG,EG,hf',EG]
  unfold fV;rw[e1,EG];by_cases z:f a<=n
  ·have e2:Bo moves counts (n,(pre.length:Int))=.ok (n-f a,(((pre++[a]).length:Nat):Int)):=by
    unfold Bo;rw[eZ ha,EG,EG,hf',EG];simp
   rw[Z0 (decide_eq_true z),e2,EG];rw[FQ,L4]at h1;obtain⟨p,b,q,n',g1,g2,g3,g4,g5⟩:=jZ hf post (pre++[a]) (n-f a) fuel (by rw[hm];simp) `b `b (by simp at hl;omega);refine⟨a::p,b,q,n',by rw[g1];rfl,?_,by rw[FQ,L4];omega,g4,g5⟩;rw[g2];congr 2;simp;omega
  ·rw[Z1 `W];exact⟨[],a,post,n,`a,`a,`f,h0,`b⟩
def IsWay(t:Cd)(loose bound:Int):`m->`l->8 Int Tx
 | [],_,n,x=>x=[]/\n=0
 |m::r,s,n,x=>∃p c q n' y,hV t m `d `e s=p++c::q/\x=c::y/\n=(p.map λc=>30 t `e r<|aj t s c).sum+n'/\0<=n'/\n'<30 t `e r (aj t s c)/\IsWay t `d `e r (aj t s c) n' y
theorem uk{t:Cd}{m:Pl}{loose bound:Int}{s:`l}{r:`m}{L:`A}(hL:∀c∈hV t m loose bound s,aj t s c∈L){n:Int}(h0:0<=n)(h1:n<30 t `e (m::r) s):
  ∃p c q n',hV t m `d `e s=p++c::q/\qU ((hV t m `d `e s).map λc=>([c],aj t s c)) (L.map λs=>(s,30 t `e r s)) n=.ok ([c],aj t s c,n')/\n=(p.map λc=>30 t `e r<|aj t s c).sum+n'/\0<=n'/\n'<30 t `e r (aj t s c):=by
 unfold qU D7;have hs:(((hV t m `d `e s).map λc=>(([c]:Tx),aj t s c)).map λa=>30 t `e r a.2)=(hV t m `d `e s).map λc=>30 t `e r (aj t s c):=by rw[Hf];rfl
 obtain⟨p,a,q,n',g1,g2,g3,g4,g5⟩:=jZ (moves:=(hV t m `d `e s).map λc=>(([c]:Tx),aj t s c)) (counts:=L.map λs=>(s,30 t `e r s)) (f:=λa=>30 t `e r a.2) (λa ha=>by
  obtain⟨c,hc,rfl⟩:=Fo.mp ha;exact lQ (hL c hc)) _ [] n cap `a h0 (by rw[hs];exact h1) (by rw[EY];unfold hV cap;exact Nat.lt_of_le_of_lt (LM _ _) ⋯)
 obtain⟨P,R,e1,e2,e3⟩:=List.map_eq_append_iff.mp g1;obtain⟨c,Q,e4,e5,e6⟩:=List.map_eq_cons_iff.mp e3;subst e2 e5;refine⟨P,c,Q,n',by rw[e1,e4],?_,?_,g4,g5⟩
 ·have e7:0 ((hV t m `d `e s).map λc=>(([c]:Tx),aj t s c))[(([]:7 Tx `l).length+(P.map λc=>(([c]:Tx),aj t s c)).length:Nat)]? ([c],aj t s c):=by
   rw[e1,e4];simp
  rw[show((0:Int))=(([]:7 Tx `l).length:Int)from rfl,g2,EG,eZ e7,EG]
 ·rw[g3,Hf];rfl
def eL{Z:Type}(i:Nat):`r->7 Int Z
 | []=>[]
 |a::r=>((i:Int),a)::eL (i+1) r
theorem xq{Z:Type}:∀(i:Nat)(xs:List Z),(eL i xs).length=`i
 |_,[]=>rfl
 |i,a::r=>by show(eL (i+1) r).length+1=r.length+1;rw[xq]
theorem zV{Z:Type}:∀(i:Nat)(xs:List Z)(j:Nat)(h:j<xs.length),0 (eL i xs)[j]? (((i+j:Nat):Int),xs[j])
 |i,a::r,0,_=>rfl
 |i,a::r,j+1,h=>by
  show(eL (i+1) r)[j]? =_;rw[zV (i+1) r j (by simpa using h)];show 0 (some (((i+1+j:Nat):Int),r[j]'(by simpa using h))) (((i+(j+1):Nat):Int),r[j]'(by simpa using h));rw[show i+1+j=i+(j+1) by omega]
theorem zo{Z:Type}(xs:`r):iU xs=eL 0 xs:=by
 refine GX λj=>?_;by_cases h:j<`i
 ·rw[zV 0 xs j h];unfold iU;rw[LC,GW h,EH h,Lk]
 ·rw[FW (show(iU xs).length<=j by simp[iU];omega),FW (by rw[xq];omega)]
theorem qb{t:Cd}(h:Card t){strip:`m}{loose bound:Int}(hw:(bf t `d `e `h [(0,0)]).length=`K+1){D:List (7 `l Int)}(hl:D.length=`K+1)(hD:∀i,i<D.length->0 D[i]? (dc t `h `d `e i)):∀(post:List Pl)(i:Nat)(s:Int×Int)(n:Int)(x:Tx),strip.drop i=post->i<=`K->s∈(bf t `d `e `h [(0,0)])[i]?.getD []->0<=n->n<30 t `e post s->`F+post.length<=1000->∃s' n' y,bO (fX qU gq t `d `e D) (eL i post) (s,n,x)=.ok (s',n',x++y)/\IsWay t `d `e post s n y
 | [],i,s,n,x,_,_,_,h0,h1,_=>⟨s,n,[],by rw [Hj];rfl,rfl,by
  have:n<1:=h1;omega⟩
 |m::r,i,s,n,x,hd,hi,hs,h0,h1,hx=>by
  have hi':i<`K:=by
   rcases OL i strip.length with z|z;·exact z
   ·rw[Jw z]at hd;cases hd
  rw[Gx hi']at hd;obtain⟨hd1,hd2⟩:=List.cons.inj hd;obtain⟨m',L,q1,q2,q3⟩:=jB (t:=t) (loose:=loose) (bound:=bound) `h [(0,0)] i `b;have hm:m'=m:=by rw[EH hi',hd1]at q1;exact(Ft q1).symm
  subst hm;rw[q2]at hs;have hs:s∈L:=hs;have hnx:∀c∈hV t m' loose bound s,aj t s c∈gQ t m' `d `e L:=λc hc=>mem_nxt.mpr ⟨s,hs,c,(mem_onw.mp hc).1,(mem_onw.mp hc).2,`a⟩;obtain⟨p,c,q,n',g1,g2,g3,g4,g5⟩:=uk (r:=r) hnx h0 h1;have e1:fX qU gq t `d `e D ((i:Int),m') (s,n,x)=.ok (aj t s c,n',x++[c]):=by
   unfold fX;dsimp only;rw[iO h,EG,show(i:Int)+1=((i+1:Nat):Int) by omega,eZ (hD (i+1) `b),EG];rw[show dc t strip loose bound (i+1)=(gQ t m' `d `e L).map λs=>(s,30 t `e r s) by unfold dc;rw[q3,hd2];rfl,g2,EG,cD (by simp at hx ⊢;omega),EG]
  show ∃s' n' y,(fX qU gq t `d `e D ((i:Int),m') (s,n,x)).bind _=_/\_;rw[e1,EG];obtain⟨s',n'',y,f1,f2⟩:=qb h hw hl hD r (i+1) (aj t s c) n' (x++[c]) hd2 `b (by rw[q3];exact hnx c (by rw[g1];simp)) g4 g5 (by simp at hx ⊢;omega);exact⟨s',n'',c::y,by rw[f1];simp,p,c,q,n',y,g1,rfl,g3,g4,g5,f2⟩
theorem rd{t:Cd}{loose bound:Int}{strip:`m}(h:30 t `e `h (0,0)≠0):(bf t `d `e `h [(0,0)]).length=`K+1:=by
 obtain⟨L,_,h2,h3⟩:=fZ (t:=t) (loose:=loose) (bound:=bound) `h [(0,0)];rcases h2 with z|z;·exact absurd (h3.mp z (0,0)<|Fc ..) h
 ·exact z
theorem B3{t:Cd}(h:Card t){strip:`m}(hs:`K<=4){loose bound:Int}(h0:0<=`d)(hl:`d<=3)(hb0:0<=`e)(hb:`e<=60){n:Int}(n0:0<=n)(n1:n<30 t `e `h (0,0)):∃x,iX t `h `d `e n=.ok x/\IsWay t `d `e `h (0,0) n x:=by
 unfold iX sq;obtain⟨D,e,h1,h2⟩:=xp h hs h0 hl hb0 hb;have hw:=rd (t:=t) (loose:=loose) (bound:=bound) (strip:=strip) `b;obtain⟨r,hr⟩:=gi (t:=t) (loose:=loose) (bound:=bound) `h [(0,0)];have ez:tW (dc t `h `d `e 0) ((0:Int),(0:Int)) (0:Int)=30 t `e `h (0,0):=by
  unfold dc tW;rw[hr];rfl
 rw[e,EG,Z1 (by simpa using n0),show dG D (0:Int)=.ok (dc t `h `d `e 0)from eZ (i:=0) (h2 0 `b),EG,EG,ez,EG,Z1 (by simp;omega)];obtain⟨s',n',y,f1,f2⟩:=qb h hw `b h2 `h 0 (0,0) n [] `a `b (by rw[hr];simp) n0 n1 (by simp;omega);rw[zo,f1,EG];exact⟨y,`a,f2⟩
theorem IsWay.does{t:Cd}{loose bound:Int}:∀{l:List Pl}{s:Int×Int}{n:Int}{x:Tx},IsWay t `d `e l s n x->`F=l.length/\cH x/\cS t `d `e s (x.zip l)=true/\0<=n/\n<30 t `e l s
 | [],s,n,x,h=>by
  obtain⟨e1,e2⟩:=h;subst e1 e2;exact⟨`a,(λc(hc:c∈[])=>nomatch hc),`a,Iq _,(by decide:(0:Int)<1)⟩
 |m::r,s,n,x,h=>by
  obtain⟨p,c,q,n',y,g1,g2,g3,g4,g5,g6⟩:=h;obtain⟨f1,f2,f3,f4,f5⟩:=g6.does;subst g2;have hc:c∈hV t m `d `e s:=by rw[g1];simp
  obtain⟨c1,c2⟩:=mem_onw.mp hc;have nn:∀l:List Nat,0<=(l.map λc=>30 t `e r<|aj t s c).sum:=λl=>by
   induction l with
   |nil=>exact Iq _
   |cons a l ih=>rw[FQ,L4];have:=iu (t:=t) (loose:=loose) (bound:=bound) r (aj t s a);omega
  refine⟨by simp[f1],λd hd=>?_,?_,?_,?_⟩
  ·rcases F0.mp hd with z | z;·rw[z];exact c1
   ·exact f2 d z
  ·show 1 (cI t `d `e s c m&&cS t `d `e (aj t s c) (y.zip r));rw[c2,f3];rfl
  ·have:=nn p;omega
  ·show n<((hV t m `d `e s).map λc=>30 t `e r<|aj t s c).sum;rw[g1,Nm,List.sum_append,FQ,L4];have:=nn q;omega
theorem gj{t:Cd}{loose bound:Int}:∀{l:List Pl}{s:Int×Int}{x:Tx},`F=l.length->cH x->1 (cS t `d `e s<|x.zip l)->30 t `e l s≠0
 | [],s,x,_,_,_=>by show(1:Int)≠0;decide
 |m::r,s,[],h,_,_=>by cases h
 |m::r,s,c::y,h,hT,hd=>by
  have hd:1 (cI t `d `e s c m&&cS t `d `e (aj t s c) (y.zip r)):=hd;rw[Gp]at hd;intro z;exact gj (by simpa using h) (λd hd=>hT d<|Fe _ hd) hd.2 (cnt_pos.mp z c (hT c<|Fc ..) hd.1)
def DJ(t:Cd)(loose:Int)(strip:`m)(r:`w)(v:`w×Option Tx×List `A):Prop:=
 r=`c/\30 t `K `h (0,0)=0/\v=(none,none,bf t `d `K `h [(0,0)])\/∃d x,0 r d/\0<=d/\d<=`K/\30 t d `h (0,0)≠0/\(∀e,0<=e->e<d->30 t e `h (0,0)=0)/\iX t `h `d d 0=.ok x/\IsWay t `d d `h (0,0) 0 x/\v=(some d,some x,if 0<d then bf t `d (d-1) `h [(0,0)]else [])
theorem rf{t:Cd}(h:Card t){strip:`m}(hs:`K<=4){loose:Int}(h0:0<=`d)(hl:`d<=3):∃r v,xA t `h `d=.ok r/\yU t `h `d=.ok v/\DJ t `d `h r v:=by
 obtain⟨r,er,hr⟩:=B1 h hs h0 hl;unfold yU D8;rw[er];rcases hr with⟨rfl,h1⟩|⟨d,rfl,d0,d1,d2,d3⟩
 ·rw[EG,Z0 (show 1 (none:`w).isNone from rfl),kN h h0 (show(0:Int)<=strip.length by omega) hl `b `h `b,EG];exact⟨`c,_,`a,`a,.inl ⟨`a,h1,`a⟩⟩
 ·have hp:0<30 t d `h (0,0):=by have:=iu (t:=t) (loose:=loose) (bound:=d) `h (0,0);omega
  obtain⟨x,ex,hx⟩:=B3 h hs h0 hl d0 `b (Iq 0) hp;refine⟨some d,(some d,some x,if 0<d then bf t `d (d-1) `h [(0,0)]else []),`a,?_,.inr ⟨d,x,`a,d0,d1,d2,d3,ex,hx,`a⟩⟩;rw[EG,Z1 (show ¬(some d).isNone=true from N9),show gW (some d)=EJ d from rfl,EG,EG,EG];by_cases z:0<d;·rw[Z0 (decide_eq_true z),Z0 z,EG,kN h h0 (show(0:Int)<=d-1 by omega) hl `b `h `b,EG,EG,ex,EG,EG]
  ·rw[Z1 `W,Z1 z,EG,EG,ex,EG,EG]
def fI(t:Cd):Int->Int->Tx->Int
 |_,best,[]=>best
 |now,best,c::r=>fI t (now+tw t c) (if cy (now+tw t c)>best then cy (now+tw t c)else best) r
theorem zp{t:Cd}{x:Tx}(hx:cH x):qR t x=.ok (fI t 0 0 x):=by
 unfold qR CN;have key:∀(x:Tx),cH x->∀now best,∃z,bO (zP fF t) (bF x) (now,best)=.ok (z,fI t now best x):=by
  intro x
  induction x with
  |nil=>intro _ now best;exact⟨now,`a⟩
  |cons c x ih=>
   intro hx now best;obtain⟨z,e⟩:=ih (λd hd=>hx d<|Fe _ hd) (now+tw t c) (if cy (now+tw t c)>best then cy (now+tw t c)else best);refine⟨z,?_⟩;show(zP fF t [c] (now,best)).bind _=_;unfold zP;rw[jx<|hx c<|Fc ..];simp only[EG];have e2:zP fF t=λa s=>13 (fF t a) (λy=>EJ<|s.1+y) λy=>EJ (y,(if cy y>s.2 then cy y else s.2)):=by funext a s;unfold zP;rfl
   rw[e2]at e;exact e
 obtain⟨z,e⟩:=key x hx 0 0;rw[e];rfl
def mm(t:Cd)(b:Int):8 Int Tx
 |_,[]=>True
 |now,c::r=>cy (now+tw t c)<=b/\mm t b (now+tw t c) r
theorem jR{t:Cd}{b:Int}:∀(x:Tx)(now best:Int),fI t now best x<=b↔best<=b/\mm t b now x
 | [],now,best=>by unfold fI mm;simp
 |c::r,now,best=>by
  unfold fI mm;rw[jR r];split<;>constructor<;>rintro ⟨h1,h2⟩;·exact⟨`b,h1,h2⟩
  ·exact⟨h2.1,h2.2⟩
  ·exact⟨h1,`b,h2⟩
  ·exact⟨h1,h2.2⟩
theorem eJ{t:Cd}{loose n b:Int}(hb:b<=n):∀(x:Tx)(l:List Pl)(s:Int×Int),`F=l.length->(1 (cS t `d b s<|x.zip l)↔1 (cS t `d n s<|x.zip l)/\mm t b s.1 x)
 | [],[],s,_=>by simp[cS,mm]
 | [],_::_,_,h=>by simp at h
 |_::_,[],_,h=>by simp at h
 |c::x,m::l,s,h=>by
  have ih:=eJ (t:=t) (loose:=loose) hb x l (aj t s c) (by simpa using h);show 1 (cI t `d b s c m&&cS t `d b (aj t s c) (x.zip l))↔(cI t `d n s c m&&cS t `d n (aj t s c) (x.zip l))=true/\cy (s.1+tw t c)<=b/\mm t b (s.1+tw t c) x;rw[Gp,Gp,ih];unfold cI dF;simp only[Gp,decide_eq_true_eq];show((cy (s.1+tw t c)<=b/\_)/\_)/\_↔_;constructor
  ·rintro ⟨⟨⟨h1,h2⟩,h3⟩,h4,h5⟩;exact⟨⟨⟨⟨Lo h1 hb,h2⟩,h3⟩,h4⟩,h1,h5⟩
  ·rintro ⟨⟨⟨⟨h1,h2⟩,h3⟩,h4⟩,h5,h6⟩;exact⟨⟨⟨h5,h2⟩,h3⟩,h4,h6⟩
theorem xr{t:Cd}:∀(x:Tx)(now best:Int),best<=fI t now best x
 | [],_,_=>Iq _
 |c::r,now,best=>by
  unfold fI;have:=xr (t:=t) r (now+tw t c) (if cy (now+tw t c)>best then cy (now+tw t c)else best);split at this<;>split<;>omega
def um(t:Cd)(loose:Int)(l:`m)(x:Tx):Prop:=1 (cS t `d l.length (0,0)<|x.zip l)
theorem uo{y:Cd×`m×Int}(hc:Card y.1){x:Tx}(hx:cH x)(hl:`F=y.2.1.length)(hl4:`F<=4)(s:`w):fY qQ qR y x s=.ok (if 1 (cS y.1 y.2.2 y.2.1.length (0,0)<|x.zip y.2.1) then(if 1 s.isNone\/fI y.1 0 0 x<s.getD 0 then some (fI y.1 0 0 x)else s)else s):=by
 unfold fY;rw[uh hc y.2.1 y.2.2 _ `b,zp hx];have e:1 (gD x y.2.1.length):=by
  unfold gD;rw[Gp,G1];exact⟨by simpa using hl,λc hc=>turnB_iff.mpr<|hx c hc⟩
 rw[e,Gw];simp only[EG];cases cS y.1 y.2.2 y.2.1.length (0,0) (x.zip y.2.1);·rfl
 ·cases s with
  |none=>rfl
  |some d=>
   show(13 ((EJ<|decide<|fI y.1 0 0 x<d).bind λa0=>(if a0 then EJ (some<|fI y.1 0 0 x)else EJ (some d):Res `w)) (λs=>EJ s) λs=>EJ s)=_;rw[Z0 `a];by_cases z:fI y.1 0 0 x<d;·rw[decide_eq_true z,Z0 (.inr z)];rfl
   ·rw[decide_eq_false z,Z1 `W];rfl
def Dz(t:Cd)(loose:Int)(l:`m)(A:List Tx)(s:`w):Prop:=(s=none/\∀x∈A,¬um t loose l x)\/∃x∈A,0 s (fI t 0 0 x)/\um t `d l x/\∀z∈A,um t `d l z->fI t 0 0 x<=fI t 0 0 z
theorem B4{y:Cd×`m×Int}(hc:Card y.1)(h4:y.2.1.length<=4){all:List Tx}(a2:∀x,x∈all↔`F=y.2.1.length/\cH x):∃s,bO (fY qQ qR y) all `c=.ok s/\Dz y.1 y.2.2 y.2.1 all s:=by
 exact di (f:=fY qQ qR y) (λpre s=>Dz y.1 y.2.2 y.2.1 pre s) all `c (.inl ⟨`a,λx hx=>by cases hx⟩) (by
  intro pre x post s e hs;have hx:=(a2 x).mp (by rw[e];simp);refine 9 (uo hc hx.2 hx.1 `b s) ?_;by_cases z:1 (cS y.1 y.2.2 y.2.1.length (0,0)<|x.zip y.2.1)
  ·rw[Z0 z];rcases hs with⟨rfl,h2⟩|⟨w,hw,rfl,h2,h3⟩
   ·rw[Z0 `G];refine .inr ⟨x,`f,`a,z,λv hv hd=>?_⟩;rcases FX.mp hv with hv|hv
    ·exact absurd hd (h2 v hv)
    ·have:v=x:=by simpa using hv
     subst this;exact Iq _
   ·by_cases q:fI y.1 0 0 x<fI y.1 0 0 w
    ·rw[Z0 (.inr q)];refine .inr ⟨x,`f,`a,z,λv hv hd=>?_⟩;rcases FX.mp hv with hv|hv
     ·have:=h3 v hv hd;omega
     ·have:v=x:=by simpa using hv
      subst this;exact Iq _
    ·rw[Z1 (by simpa using q)];refine .inr ⟨w,by simp[hw],`a,h2,λv hv hd=>?_⟩;rcases FX.mp hv with hv|hv
     ·exact h3 v hv hd
     ·have:v=x:=by simpa using hv
      subst this;omega
  ·rw[Z1 z];rcases hs with⟨rfl,h2⟩|⟨w,hw,rfl,h2,h3⟩
   ·refine .inl ⟨`a,λv hv=>?_⟩;rcases FX.mp hv with hv|hv
    ·exact h2 v hv
    ·have:v=x:=by simpa using hv
     subst this;exact z
   ·refine .inr ⟨w,by simp[hw],`a,h2,λv hv hd=>?_⟩;rcases FX.mp hv with hv|hv
    ·exact h3 v hv hd
    ·have:v=x:=by simpa using hv
     subst this;exact absurd hd z)
theorem xt{t:Cd}(h:Card t){x:Tx}(hl:`F<=900)(c:Int):(xF (t,x) c).Ok λr=>r.2.length<=`F+2:=by
 unfold xF Dn;have hx0:`F<=100000:=`b
 rw[iE hx0];simp only[EG];rw[dU (by split<;>omega),EG];obtain⟨k,ek,hk⟩:=qV (c/7%3) (Fm _ ⋯) (Fb _ ⋯);rw[ek,EG];have b0:0<=c/4%(if(x.length:Int)>1 then(x.length:Int)else 1):=Fm _ (by split<;>omega);have b1:c/4%(if(x.length:Int)>1 then(x.length:Int)else 1)<(if(x.length:Int)>1 then(x.length:Int)else 1):=Fb _ (by split<;>omega);obtain⟨i,hi⟩:∃i:Nat,c/4%(if(x.length:Int)>1 then(x.length:Int)else 1)=(i:Int):=⟨_,(Kc b0).symm⟩
 rw[hi]at b1 ⊢;have hi2:i<`F\/i=0/\`F=0:=by split at b1<;>omega
 refine fB (FK (P:=λy=>y.length<=`F+1) (iG (λ_=>?_) λ_=>dC `b) λy hy=>?_)
 ·rw[gP hx0,EG,gA,cD (by simp;omega),EG,show(i:Int)+1=((i+1:Nat):Int)from rfl,gP hx0,EG,lh,cD (by simp;omega),EG];show Hk _<=_;simp;omega
 ·refine fB (FK (P:=Card) (iG (λ_=>?_) λ_=>dC h) λt2 h2=>?_)
  ·obtain⟨q,eq,q0,q1⟩:=x4 (c/ 16% 26) (Fm _ ⋯) (Fb _ ⋯);rw[eq,EG];have c0:=Fm (c/4) (show(4:Int)≠0 by decide);have c1:=Fb (c/4) (show(0:Int)<4 by decide);obtain⟨j,hj⟩:∃j:Nat,c/4%4=(j:Int):=⟨_,(Kc c0).symm⟩
   rw[hj]at c1 ⊢;exact fB (BR (x5 h `b q)<|dC<|h.dye j q0 q1)
  ·have hy0:y.length<=100000:=`b
   refine fB (FK (P:=λz=>z.length<=`F+2) ?_ λz hz=>?_)
   ·refine fB (FK (P:=λ_=>True) (iG (λ_=>iG (λ_=>?_) λ_=>dC trivial) λ_=>dC trivial) λb _=>zF (λ_=>?_) λ_=>dC `b);·rw[iE hy0];exact trivial
    ·rw[cD (by simp;omega),EG];show Hk _<=_;simp;omega
   ·have hz0:z.length<=100000:=`b
    refine fB (FK (P:=λz=>z.length<=`F+2) ?_ λz hz=>dC hz);refine fB (FK (P:=λ_=>True) (iG (λ_=>dC trivial) λ_=>dC trivial) λb _=>zF (λ_=>?_) λ_=>dC hz);rw[iE hz0];simp only[EG];rw[dU `b];simp only[EG,gP hz0];exact Gy (rN _ _ _) hz
theorem B5{x:Tx}(h:`F<=1000):(Cr x).Ok λy=>y.length<=3000:=by
 refine BR (bE (show x.length<=100000 by omega)) ?_;have:=ON (⟨x.toArray⟩:PySem.Str);simp only[MK,EW]at this;simp only[FL];omega
theorem B6{t:Cd}{loose bound:Int}{strip:`m}{x:Tx}(h1:`F=`K)(h2:cH x)(h3:um t `d `h x)(hb:`e<=`K)(h4:fI t 0 0 x<=`e):30 t `e `h (0,0)≠0:=
 gj h1 h2 ((eJ hb x `h (0,0) h1).mpr ⟨h3,((jR x 0 0).mp h4).2⟩)
theorem B7{t:Cd}{c:Nat}(h:isTurn c)(n:Int):cy (n+tw t c)<=cy n+1:=by
 have:tw t c=1\/tw t c=0\/tw t c= -1:=by
  unfold tw;rcases h with rfl|rfl|rfl<;>split<;>decide
 unfold cy;split<;>split<;>omega
theorem lS{t:Cd}{b:Int}:∀(x:Tx)(now:Int),cH x->cy now+`F<=b->mm t b now x
 | [],_,_,_=>trivial
 |c::r,now,hx,hb=>by
  have h1:=B7 (t:=t) (hx c<|Fc ..) now;have h2:cy now+(r.length+1:Nat)<=b:=hb;exact⟨`b,lS r _ (λd hd=>hx d<|Fe _ hd) `b⟩
abbrev Tp:=`w×Option Tx×List `A
def zq(t:Cd)(loose:Int)(strip:`m):Tp->Bool
 |(none,x,L)=>x.isNone&&iZ t `d `K `h L
 |(some _,none,_)=>false
 |(some d,some x,L)=>gD x `K&&cS t `d d (0,0) (x.zip `h)&&(if d=0 then L.isEmpty else iZ t `d (d-1) `h L)
def B8(a b:Nat)(v:Tp):Prop:=(∀d,0 v.1 d->0<=d/\d<=60)/\(∀x,0 v.2.1 x->`F<=60)/\Bx a b v.2.2
theorem xu{t:Cd}(h:Card t){strip:`m}(hs:`K<=4){loose:Int}(h0:0<=`d){a b:Nat}(hb:b<=900):∀{v:Tp},B8 a b v->m9 t `h `d v=.ok (zq t `d `h v)
 |(none,none,L),hv=>by
  unfold m9 AL;show uw t `h `d (strip.length:Int) L=_;rw[qa h `h `b `d _ λl hl=>Gy (hv.2.2.2 l hl) hb];rfl
 |(none,some x,L),hv=>by unfold m9 AL;rfl
 |(some d,none,L),hv=>by unfold m9 AL;rfl
 |(some d,some x,L),hv=>by
  unfold m9 AL;have hx:=hv.2.1 x `a;have hd:=hv.1 d `a;show((xB t `h `d d x).bind λa0=>EJ<|!a0).bind (λa1=>if a1 then EJ `g else(EJ<|decide<|d=(0:Int)).bind λa2=>if a2 then EJ L.isEmpty else uw t `h `d (d-1) L)=_;rw[zf h `h h0 hd.1 `b,EG,EG,EG,qa h `h `b `d _ λl hl=>Gy (hv.2.2.2 l hl) hb];show _=EJ (gD x `K&&cS t `d d (0,0) (x.zip `h)&&(if d=0 then L.isEmpty else iZ t `d (d-1) `h L));cases (gD x strip.length&&cS t loose d (0,0) (x.zip strip));·rfl
  ·rw[Gw,show(!true)=`g from rfl,Z1 ⋯];by_cases z:d=0;·rw[Z0 `W,Z0 z]
   ·rw[Z1 `W,Z1 z]
theorem zr{t:Cd}{loose:Int}{strip:`m}{A:List Tx}(hA:∀x,x∈A↔`F=`K/\cH x){s:`w}(hs:Dz t `d `h A s):∀{v:Tp},(∀d,0 v.1 d->0<=d)->1 (zq t `d `h v)->v.1=s
 |(none,x,L),_,h=>by
  have h2:30 t `K `h (0,0)=0:=nc (Hw.mp h).2;rcases hs with⟨rfl,_⟩|⟨w,hw,rfl,h3,_⟩
  ·rfl
  ·obtain⟨q1,q2⟩:=(hA w).mp hw;exact absurd h2 (gj q1 q2 h3)
 |(some _,none,_),_,h=>by cases h
 |(some d,some x,L),hd,h=>by
  obtain⟨h1,h2⟩:=Hw.mp h;obtain⟨h3,h4⟩:=Hw.mp h1;have d0:=hd d `a;obtain⟨x1,x2⟩:`F=`K/\cH x:=by
   unfold gD at h3;obtain⟨z1,z2⟩:=Hw.mp h3;exact⟨by simpa using z1,λc hc=>turnB_iff.mp<|G1.mp z2 c hc⟩
  have al:mm t `K 0 x:=lS x 0 x2 (by rw[x1];show(0:Int)+_<=_;omega);have xd:mm t d 0 x:=((eJ (Iq d) x `h (0,0) x1).mp h4).2;have xf:fI t 0 0 x<=d:=(jR x 0 0).mpr ⟨d0,xd⟩;have xn:fI t 0 0 x<=`K:=(jR x 0 0).mpr ⟨`b,al⟩;have xD:um t `d `h x:=by
   by_cases z:d<=`K;·exact((eJ z x `h (0,0) x1).mp h4).1
   ·exact(eJ (show(strip.length:Int)<=d by omega) x `h (0,0) x1).mpr ⟨h4,al⟩
  have none1:∀y,y.length=`K->cH y->um t `d `h y->d<=fI t 0 0 y:=λy y1 y2 y3=>by
   have yn:=xr (t:=t) y 0 0;have yl:fI t 0 0 y<=`K:=(jR y 0 0).mpr ⟨`b,lS y 0 y2 (by rw[y1];show(0:Int)+_<=_;omega)⟩;by_cases z:d=0;·omega
   ·rw[Z1 z]at h2;refine Int.not_lt.mp λq=>?_;have hc:=nc h2;by_cases p:d-1<=`K;·exact B6 y1 y2 y3 p `b hc
    ·exact gj y1 y2 ((eJ (Iq _) y `h (0,0) y1).mpr ⟨(eJ (show(strip.length:Int)<=d-1 by omega) y `h (0,0) y1).mp y3|>.1,((jR y 0 0).mp (show fI t 0 0 y<=d-1 by omega)).2⟩) hc
  have e1:=none1 x x1 x2 xD;rcases hs with⟨rfl,hno⟩|⟨w,hw,rfl,h5,h6⟩
  ·exact absurd xD (hno x<|(hA x).mpr ⟨x1,x2⟩)
  ·obtain⟨w1,w2⟩:=(hA w).mp hw;have e2:=none1 w w1 w2 h5;have e3:=h6 x ((hA x).mpr ⟨x1,x2⟩) xD;show 0 (some d) _;congr 1;omega
theorem zt{t:Cd}{loose:Int}{strip:`m}{r:`w}{v:Tp}(h:DJ t `d `h r v):1 (zq t `d `h v):=by
 rcases h with⟨_,h1,rfl⟩|⟨d,x,_,d0,d1,_,h3,_,hw,rfl⟩
 ·show 1 (true&&iZ t `d `K `h (bf t `d `K `h [(0,0)]));rw[lR h1];rfl
 ·obtain⟨x1,x2,x3,_⟩:=hw.does;refine Hw.mpr ⟨Hw.mpr ⟨?_,x3⟩,?_⟩
  ·unfold gD;rw[Gp,decide_eq_true_iff,G1];exact⟨x1,λc hc=>turnB_iff.mpr<|x2 c hc⟩
  ·by_cases z:d=0;·rw[Z0 z,Z1 `b];rfl
   ·rw[Z1 z,Z0 `b];exact lR (h3 _ `b `b)
theorem sH{Z:Type}{xs:`r}{i:Int}{n:Nat}(h0:0<=i)(h1:i<n)(hn:`i=n):(dG xs i).Ok (· ∈xs):=by
 subst hn;obtain⟨x,e,q⟩:=fq h0 h1;exact BR e (F3 q)
theorem ur{t:Cd}(h:Card t){x:Tx}(hx:`F<=60)(c:Int):
  (13 ((gW<|some x).bind λa0=>Cr a0) (λa1=>13 ((gW<|some x).bind λa2=>cY a2 ([32]:Tx)) (λa3=>13 ((gW<|some x).bind λa4=>cY ([32]:Tx) a4) (λa5=>13 ((gW<|some x).bind λa6=>xE a6<|c/60) (λa7=>13 ((gW<|some x).bind λa8=>cY a8 ([10]:Tx)) (λa9=>EJ<|a9::([]:List Tx)) λb0=>EJ<|a7::b0) λb1=>EJ<|a5::b1) λb2=>EJ<|a3::b2) λb3=>EJ<|a1::b3) λb4=>13 (((13 (fb (5:Int)) (λb5=>eK b5 λ(c4:Int)=>(((gW<|some x).bind λb6=>EJ (t,b6)).bind λb7=>xF b7<|c/60).bind λb8=>EJ b8.2) λb9=>tx b4 b9).bind λc0=>dG c0<|(c/6)%10).bind λc1=>fu c1 `c<|some (60:Int)) (λc2=>EJ<|some c2) λc3=>EJ c3).Ok λo=>∀x,0 o x->`F<=60:=by
 obtain⟨u,eu,hu⟩:=(B5 (x:=x) `b).ex;obtain⟨p,ep,hp⟩:=(x8 (x:=x) (`b)<|c/60).ex;obtain⟨q,eq,hq⟩:=(xt h (x:=x) (`b)<|c/60).ex;rw[show gW (some x)=EJ x from rfl];simp only[EG];rw[eu,cD (by simp;omega),cD (by simp;omega),cD (by simp;omega),ep];simp only[EG];rw[show fb (5:Int)=.ok [0,1,2,3,4]from rfl,EG,dJ (g:=λ_:Int=>q.2) ⋯ (λa _=>by rw[eq,EG]),EG,nM `f,EG];refine fB (fB<|fB<|(sH (i:=c/6%10) (Fm _ ⋯) (show c/6%10<((10:Nat):Int) by have:=Fb (c/6) (show(0:Int)<10 by decide);omega) `z).imp λy hy=>?_);have hl:y.length<=3000:=by
  simp only[FQ,J5,JK,Jg,F0,Fp,or_false]at hy;rcases hy with rfl|rfl|rfl|rfl|rfl|rfl|rfl|rfl|rfl|rfl<;>first|exact hu|(simp;omega)|omega
 rw[gP `b,show(60:Int)=((60:Nat):Int)from rfl,gA];refine dC (dC<|dC λz hz=>?_);cases hz;simp;omega
theorem zu{t:Cd}(h:Card t){a b:Nat}(ha:a<=900)(hb:b<=900)(h5:5<=a)(a4:45<=b)(c:Int){more:List `A}(hm:Bx 5 45 more):∀{v:Tp},B8 a b v->(oB t v c more).Ok (B8 (a+1)<|b+1)
 |(d,x,L),⟨h1,h2,h3⟩=>by
  unfold oB Dp;dsimp only at h1 h2 h3 ⊢;refine fB (FK (P:=Bx (a+1) (b+1)) (iG (λ_=>fB<|(zk h3 ha hb _).imp λs hs=>dC hs) λ_=>dC ⟨by have:=h3.1;omega,λl hl=>by have:=h3.2 l hl;omega⟩) λa5 a1=>?_);refine fB (FK (P:=λ(o:Option Tx)=>∀x,0 o x->`F<=60) ?_ λa6 a0=>?_)
  ·refine fB (FK (P:=λy=>1 y->1 x.isSome) (iG (λ_=>dC λz=>z) λ_=>dC λz=>by cases z) λa2 hy=>zF (λz=>?_) λ_=>dC h2);obtain⟨w,rfl⟩:=HX.mp (hy z);exact ur h (h2 w `a) c
  ·refine fB (FK (P:=λ(o:Option Int)=>∀d,0 o d->0<=d/\d<=60) ?_ λa7 a3=>?_)
   ·refine fB (FK (P:=λy=>1 y->1 d.isSome) (iG (λ_=>dC λz=>z) λ_=>dC λz=>by cases z) λa2 hy=>zF (λz=>?_) λ_=>dC h1);obtain⟨w,rfl⟩:=HX.mp (hy z);rw[show gW (some w)=EJ w from rfl];simp only[EG];refine fB (fB<|fB<|(sH (i:=c/6%4) (Fm _ ⋯) (show c/6%4<((4:Nat):Int) by have:=Fb (c/6) (show(0:Int)<4 by decide);omega) `z).imp λy _=>dC<|dC<|dC λd hd=>?_);cases hd;have:=Fm y (show(61:Int)≠0 by decide);have:=Fb y (show(0:Int)<61 by decide);omega
   ·refine fB (FK (P:=λ(p:Option Int×Option Tx)=>(∀d,0 p.1 d->0<=d/\d<=60)/\∀x,0 p.2 x->`F<=60) (iG (λ_=>?_) λ_=>dC ⟨a3,a0⟩) λp hp=>?_)
    ·refine fB ((sH (i:=c/ 6% 4) (Fm _ ⋯) (show c/ 6% 4< ((4:Nat):Int) by have:=Fb (c/ 6) (show(0:Int)< 4 by decide);omega) `z).imp λy hy=>fB<|(sH (i:=c/ 24% 3) (Fm _ ⋯) (show c/ 24% 3< ((3:Nat):Int) by have:=Fb (c/ 24) (show(0:Int)< 3 by decide);omega) `z).imp λz hz=>dC ⟨λd hd=>?_,λw hw=>?_⟩)
     ·dsimp only at hd;subst hd;simp at hy;omega
     ·dsimp only at hw;subst hw;simp only[F0,Fp,or_false,reduceCtorEq,false_or,JB]at hz;rcases hz with hz|rfl
      ·exact a0 w hz.symm
      ·decide
    ·exact fB (FK (P:=Bx (a+1) (b+1)) (iG (λ_=>dC ⟨by have:=hm.1;omega,λl hl=>by have:=hm.2 l hl;omega⟩) λ_=>dC a1) λs hs=>dC ⟨hp.1,hp.2,hs⟩)
theorem B9(ns:`H)(h:ns.length<=63):(wJ ns).Ok (· =true):=by
 unfold wJ sr;refine fB ((show(xx ns (4:Int)).Ok _ from x9 h 4 ⋯).imp λy zz=>?_);obtain⟨hc,⟨n,hn,hm⟩,g0,g1⟩:=zz;have hl:y.2.1.length=n:=hm.1;have h4:y.2.1.length<=4:=`b
 obtain⟨A,eA,_,hA⟩:=(AY h4).ex;obtain⟨s,es,hs⟩:=B4 hc h4 hA;obtain⟨r,v,_,ev,hr⟩:=rf hc h4 g0 (show y.2.2<=3 by omega);have wk:∀b:Int,Bx 5 45 (bf y.1 y.2.2 b y.2.1 [(0,0)]):=λb=>⟨by have:=iP (t:=y.1) (loose:=y.2.2) (bound:=b) y.2.1 [(0,0)];omega,λl hl'=>(iQ (t:=y.1) (loose:=y.2.2) (bound:=b) y.2.1 0 [(0,0)] `b `f xh l hl').2⟩
 have hv:B8 5 45 v:=by
  rcases hr with⟨_,_,rfl⟩|⟨d,x,_,d0,d1,_,_,_,hw,rfl⟩
  ·exact⟨λd hd=>(by cases hd),λx hx=>(by cases hx),wk _⟩
  ·refine⟨λe he=>(by cases he;omega),λz hz=>(by cases hz;have:=hw.does.1;omega),?_⟩;dsimp only;split;·exact wk _
   ·exact⟨`f,λl hl=>by cases hl⟩
 rw[eA,EG,es,EG,ev,EG,xu hc h4 g0 ⋯ hv,zt hr,EG,vp `a,EG,EG,show(!true)=`g from rfl,Z1 ⋯];obtain⟨c5,e5⟩:=lL h 5 ⋯;rw[show iq ns 5=.ok c5 from e5,EG,EG,xk hc (show y.2.2<=3 by omega) (show c5%6<=60 by have:=Fb c5 (show(0:Int)<6 by decide);omega) y.2.1 h4,EG,show nP (6:Int) (9:Int)=.ok [6,7,8]from rfl,EG];have step:∀(k:Nat)(a b:Nat)(v:Tp),k<=200->a<=800->b<=800->5<=a->45<=b->B8 a b v->∃v',eX m9 iq oB ns y s (bf y.1 y.2.2 (c5%6) y.2.1 [(0,0)]) (k:Int) v=.ok (.nx v')/\B8 (a+1) (b+1) v':=λk a b v hk ha hb a5 b5 hv=>by
  unfold eX;obtain⟨c,ec⟩:=lL h k hk;obtain⟨v',e',hv'⟩:=(show((if(decide<|(0:Int)<(c%3))then(oB y.1 v (c/3)<|bf y.1 y.2.2 (c5%6) y.2.1 [(0,0)]).bind λa0=>EJ a0 else EJ v:Res Tp)).Ok (B8 (a+1)<|b+1)from iG (λ_=>fB<|(zu hc `b `b a5 b5 _ (wk _) hv).imp λz hz=>dC hz) λ_=>dC ⟨hv.1,hv.2.1,by have:=hv.2.2.1;omega,λl hl=>by have:=hv.2.2.2 l hl;omega⟩).ex;rw[ec,EG,e',EG,xu hc h4 g0 (show b+1<=900 by omega) hv',EG];refine⟨v',?_,hv'⟩;cases q:zq y.1 y.2.2 y.2.1 v' with
  |false=>rfl
  |true=>
   rw[Z0 `a,vp (zr hA hs (λd hd=>(hv'.1 d hd).1) q),EG,EG];rfl
 obtain⟨v1,q1,t1⟩:=step 6 5 45 v ⋯ ⋯ ⋯ ⋯ ⋯ hv;obtain⟨v2,q2,t2⟩:=step 7 6 46 v1 ⋯ ⋯ ⋯ ⋯ ⋯ t1;obtain⟨v3,q3,t3⟩:=step 8 7 47 v2 ⋯ ⋯ ⋯ ⋯ ⋯ t2;have:eS (eX m9 iq oB ns y s<|bf y.1 y.2.2 (c5%6) y.2.1 [(0,0)]) [6,7,8] v=.ok (.nx v3):=by
  show(eX m9 iq oB ns y s _ ((6:Nat):Int) v).bind _=_;rw[q1,EG];show(eX m9 iq oB ns y s _ ((7:Nat):Int) v1).bind _=_;rw[q2,EG];show(eX m9 iq oB ns y s _ ((8:Nat):Int) v2).bind _=_;rw[q3,EG];rfl
 rw[this,EG];exact dC `a
end Mi
namespace PySem.W.Fast
def tw861502493610598483:=()
def tw6174316262699260751:=()
def tw7774113678449685934:=()
def tw11009225556382593827:=()
def tw8247596551190957481:=()
def tw2868788209673775175:=()
def tw15413886005781298947:=()
def tw5858633384734287302:=()
def tw6162269159774324313:=()
def tw8535803893964050539:=()
def tw14963028359598502718:=()
def tw9689729476882780088:=()
def tw14611616552423853409:=()
def tw9331231397406362311:=()
def tw9867714693123648676:=()
def tw11373181179767321252:=()
def tw15235614512728720:=()
def tw726351398001015727:=()
def tw3778530596728393105:=()
def tw4666538515292985638:=()
def tw855453113358079251:=()
def tw14727194681476072466:=()
def tw17613222154834848340:=()
def tw10451966708060686976:=()
def tw14404928986312190071:=()
def tw12887044766017154078:=()
def tw6170744672141170255:=()
def tw16203965252921439515:=()
def tw10826640976665885199:=()
def tw13547939009206843870:=()
def tw12408111787983249662:=()
def tw9721000390032803332:=()
def tw11662115353561507501:=()
def tw1864683662541468164:=()
def tw384561282630992784:=()
def tw2694234056635809718:=()
def tw17518593693041627797:=()
def tw539538531456391632:=()
def tw3919386906821981792:=()
def tw17464319187374939960:=()
def tw15402603294489630176:=()
def tw8733291241859026926:=()
def tw140236481695663071:=()
def tw3215387988796971590:=()
def tw12269216009862288129:=()
def tw13437419889732721216:=()
def tw9582823730064241283:=()
def tw8374155422468719031:=()
def tw11024694936033576346:=()
def tw5002640475654186023:=()
def tw16723463757517087524:=()
def tw15795137049058576456:=()
def tw18418582437962087742:=()
def tw11429584451438056573:=()
def tw4436474186459923750:=()
def tw15227483606004533461:=()
def tw12297992134047619483:=()
def tw17318462890700432884:=()
def tw4635989785427082552:=()
def tw13757698761724263525:=()
def tw13953587524928339648:=()
def tw5622701340561072331:=()
def tw7164969610272591079:=()
def tw14564479935002850509:=()
def tw16120054744476736488:=()
def tw87601786513091389:=()
def tw2244103112122482387:=()
def tw10879749546641988924:=()
def tw1383625962624193546:=()
def tw14022695629967993375:=()
def tw14958820412457663293:=()
def tw11738243743197964597:=()
def tw6472337539984862722:=()
def tw2931988195819169919:=()
def tw12770481643036789091:=()
def tw4684226298888400098:=()
def tw15925456577456769635:=()
def tw4547051000311932777:=()
def tw15752536640612570366:=()
def tw12431713363859531893:=()
def tw6550704214607550460:=()
def tw2875624504187281209:=()
def tw14172470266813156586:=()
def tw5217270863462422736:=()
def tw12099505692703838030:=()
def tw10551173667578312727:=()
def tw1825952489489211193:=()
def tw11421057715548341654:=()
def tw447263597446747957:=()
def tw5362036446546632119:=()
def tw772564365185477556:=()
def tw615563214671542189:=()
def tw18157406047293677543:=()
def tw16955839230299176341:=()
def tw446995266069924076:=()
def tw16902440903046159558:=()
def tw8219003486749837733:=()
def tw12727641955093265886:=()
def tw14760874974797668852:=()
def tw12954591660760965231:=()
def tw17351735930882485243:=()
def tw3382625519597670723:=()
def tw14243238205550065757:=()
def tw2941924889016668590:=()
def tw2107523057676978006:=()
def tw6420159726195949164:=()
def tw10295913840692754127:=()
def tw5323657890516693427:=()
def tw2827255003249426055:=()
def tw1717767836212652739:=()
def tw13462424878891718212:=()
def tw17187875760726034783:=()
def tw1915925776726481438:=()
def tw15042883488752021643:=()
def tw13812277999558781770:=()
def tw4015202173357781934:=()
def tw17963105932079019327:=()
def tw5344687154915797982:=()
def tw1956775160557780875:=()
def tw17338325484393633139:=()
def tw11564986514327137767:=()
def tw3042748168174471775:=()
def tw2483420100392427323:=()
def tw10519837036962490867:=()
def tw18146532975450069615:=()
def tw11907897558876765624:=()
def tw3300454383303005205:=()
def tw10042083083395451092:=()
def tw17435391645217708394:=()
def tw1599053048872161195:=()
def tw12917704675397863716:=()
def tw866717566613908145:=()
def tw8760152093665844161:=()
def tw13861969467909019144:=()
def tw740290905518256060:=()
def tw16670775579421159206:=()
def tw14842496431369740429:=()
def tw17214186515701724070:=()
def tw3419001889969749887:=()
def tw8737599933303070863:=()
def tw13674586047789940208:=()
def tw6822071536725586909:=()
def tw2646887283097553488:=()
def tw12768989823518198380:=()
def tw16864618592142003386:=()
def tw3239113980409921550:=()
def tw3543459598558145280:=()
def tw9116068151291705539:=()
def tw11266997524610791606:=()
def tw6056707288978253535:=()
def tw12652081859355081885:=()
def tw18328257000508772394:=()
def tw2358075552688931204:=()
def tw14520296925931582552:=()
def tw16682895059504647277:=()
def tw8997383693586321770:=()
def tw5832305185047221409:=()
def tw896239598344801917:=()
def tw4039707410889071942:=()
def tw13622603851894308203:=()
def tw13055953723892786844:=()
def tw6105849179199505303:=()
def tw16654469307462801742:=()
def tw4971374062829452455:=()
def tw1142673529048489019:=()
def tw1708089923452030704:=()
def tw9972681490609642005:=()
def tw9806118890596472461:=()
def tw15539815450414544023:=()
def tw17760279517084355780:=()
def tw9387514328989991554:=()
def tw17590705303994421779:=()
def tw17334828202450815106:=()
def tw14537775516033599862:=()
def tw13855379610559885079:=()
def tw4859391219904099992:=()
def tw6798380500665416597:=()
def tw4309217394794523951:=()
def tw18367749455379333440:=()
def tw16728255500844073214:=()
def tw8297923619242306668:=()
def tw5072417060200589145:=()
def tw16279288168775177219:=()
def tw12843764043397292189:=()
def tw7322748291113730364:=()
def tw15173544498738437827:=()
def tw14935467056822913822:=()
def tw443766864951011646:=()
def tw2261719852989239553:=()
def tw2474200967059427378:=()
def tw6148498323302512570:=()
def tw3681537716864247207:=()
def tw2570914705882880060:=()
def tw16298917771340976007:=()
def tw3721919958574915784:=()
def tw16226643914720891334:=()
def tw8047209995159408440:=()
def tw4321966507151631593:=()
def tw3235425350174046738:=()
def tw16756451883985382160:=()
def tw16248296213531012650:=()
def tw14689541978594310382:=()
def tw14664691819916384248:=()
def tw8159993647027272844:=()
def tw11766667032028208565:=()
def tw4953865588907285216:=()
def tw12382822922155266910:=()
def tw13135312941875745310:=()
def tw7424060955962978353:=()
def tw7480016910919988345:=()
def tw2353497105660221152:=()
def tw2295934692909999376:=()
def tw2135409205425526673:=()
def tw5537553045615171315:=()
def tw2950685276103557050:=()
def tw16053306600634468012:=()
def tw14170518179582410385:=()
def tw3270257207059953099:=()
def tw2692750590507578028:=()
def tw10016166984437732892:=()
def tw5994696166404524948:=()
def tw14226173905949225808:=()
def tw6229817132586351632:=()
def tw11898673842065290130:=()
def tw938635154573522699:=()
def tw4699756791338806529:=()
def tw13444670453868202053:=()
def tw9461873434466728008:=()
def tw9592521066531166775:=()
def tw2259672571474061568:=()
def tw11401859456886640639:=()
def tw5438652380644606353:=()
def tw3985964047577975286:=()
def tw2403389108928632939:=()
def tw17062427158221528723:=()
def tw643336161829623379:=()
def tw10374632558016547081:=()
def tw8002303944043701648:=()
def tw14387916025512776202:=()
def tw10147050832486139651:=()
def tw6953138203311097117:=()
def tw5449601097390414333:=()
def tw14782755387869428366:=()
def tw7476452910721959123:=()
def tw2400638427578300857:=()
def tw4077048163395320219:=()
def tw6522051377940421278:=()
def tw18101783494082082527:=()
def tw5498123283257192965:=()
def tw10792498714594961201:=()
def tw9950792792127014553:=()
def tw9919008367099125623:=()
def tw9879335643197240621:=()
def tw9860861378791804195:=()
def tw9796564346219866840:=()
def tw9784134513789038367:=()
def tw9757595895972200118:=()
def tw9615563845995560447:=()
def tw9456574344343218679:=()
def tw9402243437249704421:=()
def tw8949853181751564097:=()
def tw8912161614967838395:=()
def tw8739830900816887780:=()
def tw8060666987683057360:=()
def tw7867829370405329436:=()
def tw7217548393331319763:=()
def tw7086961617601330827:=()
def tw7046044490832178742:=()
def tw6968137755033780318:=()
def tw6858818405166986180:=()
def tw6557801498797044033:=()
def tw6549852094080907030:=()
def tw6469784823511061222:=()
def tw6356304189028158447:=()
def tw6030501089693204938:=()
def tw5890639436620234070:=()
def tw5702276774652866934:=()
def tw547895379624588593:=()
def tw5459702643516471331:=()
def tw5101696844757716304:=()
def tw4906484309439969231:=()
def tw4804111812005502284:=()
def tw4734895289157585001:=()
def tw4493901809537577575:=()
def tw4323258101793500111:=()
def tw4171853373547519906:=()
def tw4096438862311573950:=()
def tw4075453323654395381:=()
def tw3953844824629472508:=()
def tw3671519592330383864:=()
def tw3641951560692057861:=()
def tw3475869608268796686:=()
def tw3374319085511977134:=()
def tw3308634892276815127:=()
def tw2789304352393801511:=()
def tw2595585439558603231:=()
def tw258204147387103276:=()
def tw2455152089536381482:=()
def tw2399617604181995578:=()
def tw2314633323536394700:=()
def tw2144661209622563809:=()
def tw2080317491765294665:=()
def tw1972164579936704799:=()
def tw1950803216711332702:=()
def tw1840220198017710270:=()
def tw17817366049700826239:=()
def tw17678831435119133177:=()
def tw17483705464198625004:=()
def tw17292613610259460706:=()
def tw1725486776273817318:=()
def tw16919654943277366748:=()
def tw16140922888777852060:=()
def tw16108870410212019532:=()
def tw15805137534098808535:=()
def tw15685335758407661847:=()
def tw15621415185263527259:=()
def tw15590096980072825465:=()
def tw15438627641174518403:=()
def tw15433366417846715934:=()
def tw15401437161963490237:=()
def tw1532491051758110099:=()
def tw15254633091992210921:=()
def tw14827714588952709054:=()
def tw14703100239697439463:=()
def tw1467881925912835984:=()
def tw14391293386007564604:=()
def tw140001813534094272:=()
def tw13956191218907399338:=()
def tw13810262117814702294:=()
def tw13421457143807847188:=()
def tw13034982811429478159:=()
def tw12960429369202013873:=()
def tw12903330217458380548:=()
def tw12772213712371865176:=()
def tw12459912946257978736:=()
def tw12147665669636231765:=()
def tw11962351593759143498:=()
def tw11692469974320434101:=()
def tw11161164713144168021:=()
def tw10910644110388302437:=()
def tw10876078143196172821:=()
def tw1070438729232803039:=()
def tw10510056951384868246:=()
def tw10294118229990073760:=()
def tw10258873121960336067:=()
def tw10159399881129095643:=()
def tw1000662321505670351:=()
end PySem.W.Fast
section
open PySem PySem.W PyProof.Rows
set_option maxHeartbeats 0 in
open_top hd for PySem.Challenge.rw_wornband_k42_whole_settled_is_right
end
namespace Wb
open PySem L2 Mi
theorem zw{K:EL}:∀vs H Q E,su K vs H Q E->eH (isScr K) (rs isB) wJ vs H Q E:=λvs H Q E⟨a,ns,h1,h2,h3,h4⟩=>⟨⟨H,H,`q⟩,ns,.ref a,`a,h1,⟨a,`a,h2⟩,λ_=>False,Res.Ok.e ((B9 ns h3).imp λr hr u W' _ hu=>by cases hr;cases hu;exact h4 _)⟩
theorem fin_mk{l:JP}{w:Fh}{K:EL}{h:Heap}{mg:Str->`Q}{fa:Addr}{a3:Addr}{d5 d6:Option Addr}{d7:Array `Q}{d8 d9 e0 e1 c2 e2:EM}{f_law:Addr}{od_law an_law:Option Addr}{sl_law:Array `Q}{oc_law kV_law dc_law pm_law cd_law ct_law:EM}{e3:Tok}{a5:Addr}{e4:Nat}{e5 e6 e7 e8 e9 f0:Tok}{b5:Addr}{f1:Nat}{f2 f3:Tok}{a6:Addr}{f4:Nat}{f5 f6 f7 f8 f9 g0:Tok}{g1:Tok}{g2:Tok}(X:K.In h)(G:h.Ns `T mg)(hfa:0 (mg "law") (.ref fa))
  (c3:0 (FF K `T "_law_same") (27 a3))
  (g3:0 (K.lookup a3) ⟨d8,d5,.func<|Hq "_law_same" "_law_same" (defArgs<|tp 65) (defBody<|tp 65) (defScope<|tp 65) .none d9 e0 e1 d6 c2 e2,d7⟩)
  (g4:1 (IW K c2 "_law_same"))
  (b6:1 (Ic K<|.ref a3))
  (g5:DI K "_law_at" (tp 42) ["_law_script","_law_k"])
  (g6:DI K "_law_row" (tp 38) ["_law_cell","_law_many","_law_base"])
  (g7:DI K "_law_holes" (tp 39) ["_law_cell"])
  (g8:DI K "_law_card" (tp 40) ["_law_cell"])
  (g9:DI K "_law_turns" (tp 41) ["_law_cell","_law_many"])
  (h0:DI K "_law_go" (tp 44) ["_law_turn"])
  (h1:DI K "_law_behind" (tp 45) `Y)
  (h2:DI K "_law_twist" (tp 46) `Y)
  (h3:DI K "_law_places" (tp 47) `Z)
  (h4:DI K "_law_marks" (tp 48) ["_law_places_here","_law_cell","_law_lies"])
  (h5:DI K "_law_turnover" (tp 49) ["_law_card_here"])
  (h6:DI K "_law_back" (tp 50) ["_law_turns_here"])
  (h7:DI K "_law_roll" (tp 51) ["_law_card_here","_law_many"])
  (h8:DI K "_law_seen" (tp 52) `Z)
  (h9:DI K "_law_kin" (tp 53) [`V,"_law_turns_here","_law_cell"])
  (i0:DI K "_law_small" (tp 54) ["_law_script","_law_most"])
  (i1:DI K "_law_all" (tp 57) ["_law_many"])
  (i2:DI K "_law_does" (tp 55) [`V,"_law_strip","_law_loose","_law_bound","_law_text"])
  (i3:DI K "_law_peak" (tp 56) `Z)
  (i4:DI K "within" (tp 22) ["state","loose","bound"])
  (i5:DI K "twisting" (tp 9) ["tablet","turn"])
  (i6:DI K "state_behind" (tp 21) ["tablet","state","turn"])
  (i7:DI K "twisted" (tp 20) ["tablet","twist"])
  (d_top:DI K "top" (tp 7) ["tablet"])
  (i8:DI K "bottom" (tp 8) ["tablet"])
  (i9:DI K "left_place" (tp 13) ["tablet","turn"])
  (j0:DI K "suits" (tp 17) ["sign","left"])
  (j1:DI K "agrees" (tp 16) ["place","mark"])
  (j2:DI K "leaves" (tp 23) ["tablet","state","turn","mark"])
  (j3:DI K "onward" (tp 24) ["tablet","mark","loose","bound","state"])
  (j4:DI K "states_behind" (tp 27) ["tablet","mark","loose","bound","states"])
  (j5:DI K "search" (tp 26) `aa)
  (j6:DI K "least" (tp 31) ["tablet","strip","loose"])
  (j7:DI K "tails" (tp 28) `aa)
  (j8:DI K "chosen" (tp 30) ["moves","counts","number"])
  (d_way:DI K "way" (tp 29) ["tablet","strip","loose","bound","number"])
  (j9:DI K "restore" (tp 32) ["tablet","strip","loose"])
  (k0:DI K "led_on" (tp 35) ["tablet","mark","loose","bound","states","following"])
  (k1:DI K "holds" (tp 34) ["tablet","strip","loose","bound","lists"])
  (k2:DI K "is_row" (tp 12) ["text","width"])
  (k3:DI K "does" (tp 25) ["tablet","strip","loose","bound","text"])
  (k4:DI K "settled" (tp 36) ["tablet","strip","loose","triple"])
  (k5:DI K "_law_next" (tp 58) [`V,"_law_mark","_law_loose","_law_bound","_law_state"])
  (k6:DI K "_law_reach" (tp 59) [`V,"_law_strip","_law_loose","_law_bound"])
  (k7:DI K "_law_bent" (tp 60) ["_law_lists","_law_cell"])
  (k8:DI K "_law_sign" (tp 62) ["_law_cell"])
  (k9:DI K "_law_spoil" (tp 63) ["_law_text","_law_cell"])
  (l0:DI K "_law_hurt" (tp 61) ["_law_strand_here","_law_cell"])
  (l1:DI K "_law_bend_triple" (tp 64) [`V,"_law_triple","_law_cell","_law_more"])
  (a_law:0 (FF K `T "law") (27 f_law))
  (l_law:0 (K.lookup f_law) ⟨oc_law,od_law,.func<|Hq "law" "law" (defArgs<|tp 66) (defBody<|tp 66) (defScope<|tp 66) .none kV_law dc_law pm_law an_law cd_law ct_law,sl_law⟩)
  (c_law:1 (IW K cd_law "law"))
  (k_law:1 (Ic K<|.ref f_law))
  (l2:0 (FF K `T "abs") `c)
  (l3:0 (FF K `T "all") `c)
  (l4:0 (FF K `T "bool") `c)
  (l5:0 (FF K `T "enumerate") `c)
  (l6:0 (FF K `T "int") `c)
  (l7:0 (FF K `T "isinstance") `c)
  (l8:0 (FF K `T "len") `c)
  (l9:0 (FF K `T "list") `c)
  (m0:0 (FF K `T "max") `c)
  (m1:0 (FF K `T "range") `c)
  (m2:0 (FF K `T "reversed") `c)
  (m3:0 (FF K `T "set") `c)
  (m4:0 (FF K `T "sorted") `c)
  (m5:0 (FF K `T "str") `c)
  (m6:0 (FF K `T "sum") `c)
  (m7:0 (FF K `T "tuple") `c)
  (n0:0 (FF K `T "zip") `c)
  (n1:0 (FF K `T "HOLES") (some<|.int 4 e3))
  (n2:0 (FF K `T "SLANTS") (27 a5))
  (n3:K.lookup a5=some {cls:=.type "dict",data:=.dict #[⟨hashInt 1,.int (1) e5,.str (EO "s") e6⟩,⟨hashInt<|-1,.int (-1) e7,.str (EO "z") e8⟩,⟨hashInt 0,.int (0) e9,.str (EO "o") f0⟩] e4})
  (n4:(a5==sysModules)=`g)
  (n5:0 (FF K `T "START") (27 b5))
  (n6:K.lookup b5=some {cls:=.type "tuple",data:=.seq #[.int (0) f2,.int (0) f3] f1})
  (n7:0 (FF K `T "STEPS") (27 a6))
  (n8:K.lookup a6=some {cls:=.type "dict",data:=.dict #[⟨JW w.params<|EO "f",.str (EO "f") f5,.int (1) f6⟩,⟨JW w.params<|EO "b",.str (EO "b") f7,.int (-1) f8⟩,⟨JW w.params<|EO "i",.str (EO "i") f9,.int (0) g0⟩] f4})
  (n9:(a6==sysModules)=`g)
  (o0:0 (FF K `T "TURNS") (some<|.str (EO "fbi") g1))
  (o1:0 (FF K `T "WORN") (some<|.str (EO "?") g2))
  :∃fd:Fi,(∀(s:EN)(v:EM),MH s fd ⟨[v],[]⟩ [("_law_script",v)])/\∀base:Heap,K.In base->base.Ns `T mg->FnOk l.prog w K mg base CX0 27 fa fd ["_law_script"] (su K):=by
 have e:=hfa.symm.trans (Hs X G a_law);cases e;have c4:=nu (st:=tp 65) g3 g4 b6;have c5:=c4.binds (ps:=["_law_found","_law_due"]) λ_ _ _ _ _ _ us hl=>match us,hl with| [_,_],_=>rfl
 have F_law:=nu (st:=tp 66) l_law c_law k_law;have b_law:=F_law.binds (ps:=["_law_script"]) λ_ _ _ _ _ _ us hl=>match us,hl with| [_],_=>rfl
 have a4:=FD X G l2;have b7:=FD X G l3;have o2:=FD X G l4;have o3:=FD X G l5;have a7:=FD X G l6;have o4:=FD X G l7;have a0:=FD X G l8;have a8:=FD X G l9;have a9:=FD X G m0;have a1:=FD X G m1;have o5:=FD X G m2;have o6:=FD X G m3;have b8:=FD X G m4;have o7:=FD X G m5;have o8:=FD X G m6;have c6:=FD X G m7;have a2:=FD X G n0;have b9:=Hs X G n1;have o9:=Hs X G n2;have p0:DictK K w a5 [(I9 1,.str (EO "s")),(I9<|-1,.str (EO "z")),(I9 0,.str (EO "o"))]:=⟨`M,n4,by decide +kernel,_,_,n3,.cons ⟨iw _ _,`a,⟨_,`a⟩⟩ (.cons ⟨iw _ _,`a,⟨_,`a⟩⟩<|.cons ⟨iw _ _,`a,⟨_,`a⟩⟩ .nil)⟩
 have b0:=Hs X G n5;have b1:∀H,SqT K H b5 [.int (0),.int 0]:=λH=>.inr ⟨_,_,_,n6,⟨`a,`a⟩,`a,(by show 2<=sizeLine;decide),.cons ⟨_,`a⟩<|.cons ⟨_,`a⟩ .nil⟩;have p1:=Hs X G n7;have p2:DictK K w a6 [(Ia (EO "f"),.int 1),(Ia (EO "b"),.int<|-1),(Ia (EO "i"),.int 0)]:=⟨`M,n9,by decide +kernel,_,_,n8,.cons ⟨iy _ _,`a,⟨_,`a⟩⟩ (.cons ⟨iy _ _,`a,⟨_,`a⟩⟩<|.cons ⟨iy _ _,`a,⟨_,`a⟩⟩ .nil)⟩
 have c7:=Hs X G o0;have p3:=Hs X G o1;refine⟨Hq "law" "law" (defArgs<|tp 66) (defBody<|tp 66) (defScope<|tp 66) .none kV_law dc_law pm_law an_law cd_law ct_law,λs v=>.of_eq `a,λbase KB _=>?_⟩;have SA:∀n:Nat,Cal l.prog w K mg base "_law_same" ["_law_found","_law_due"] n (iH K n):=λn=>by
  induction n with
  |zero=>exact⟨a3,_,z6,Hs X G c3,b6,c5⟩
  |succ n ih=>exact⟨a3,_,wK c4 a0 o4 o2 a7 o7 a8 c6 a2 ih,Hs X G c3,b6,c5⟩
 have p4:=SA 26;have c8:Cal l.prog w K mg base _ _ _ (bI _ _ _ iq):=g5.cal X G λF=>DO F a0;have b2:Cal l.prog w K mg base _ _ _ (ef _ _ _ _ ju):=g6.cal X G λF=>DP F a4 a1;have p5:Cal l.prog w K mg base _ _ _ (eH _ _ yG):=g7.cal X G λF=>DQ F b2;have p6:Cal l.prog w K mg base _ _ _ (eH _ _ xw):=g8.cal X G λF=>DR F p5;have p7:Cal l.prog w K mg base _ _ _ (bI _ _ _ yH):=g9.cal X G λF=>DS F b2;have c9:Cal l.prog w K mg base _ _ _ (eH _ _ qe):=h0.cal X G λF=>DT F;have d0:Cal l.prog w K mg base _ _ _ (bI _ _ _ kK):=h1.cal X G λF=>DU F c9;have b3:Cal l.prog w K mg base _ _ _ (bI _ _ _ fF):=h2.cal X G λF=>DV F c9;have d1:Cal l.prog w K mg base _ _ _ (bI _ _ _ qP):=h3.cal X G λF=>DW F d0 b3;have p8:Cal l.prog w K mg base _ _ _ (ef _ _ _ _ yI):=h4.cal X G λF=>DX F b2 a7 a0 c6 a2;have p9:Cal l.prog w K mg base _ _ _ (eH _ _ yJ):=h5.cal X G λF=>DY F;have q0:Cal l.prog w K mg base _ _ _ (eH _ _ yK):=h6.cal X G λF=>DZ F;have q1:Cal l.prog w K mg base _ _ _ (bI _ _ _ yL):=h7.cal X G λF=>E1 F a1;have q2:Cal l.prog w K mg base _ _ _ (bI _ _ _ yM):=h8.cal X G λF=>E2 F d0 b8;have q3:Cal l.prog w K mg base _ _ _ (ef _ _ _ _ yN):=h9.cal X G λF=>E3 F p9 q0 q1 q2 a1;have q4:Cal l.prog w K mg base _ _ _ (bI _ _ _ xx):=i0.cal X G λF=>E4 F p6 c8 p7 p8 d1 q3;have q5:Cal l.prog w K mg base _ _ _ (eH _ _ yO):=i1.cal X G λF=>E5 F a1;have q6:Cal l.prog w K mg base _ _ _ (fw _ _ _ _ _ _ qQ):=i2.cal X G λF=>E6 F d1 b3 a4 a7 a0 a2;have q7:Cal l.prog w K mg base _ _ _ (bI _ _ _ qR):=i3.cal X G λF=>E7 F b3 a4 a9;have c0:Cal l.prog w K mg base _ _ _ (ef _ _ _ _ jv):=i4.cal X G λF=>E8 F a4;have d2:Cal l.prog w K mg base _ _ _ (bI _ _ _ qS):=i5.cal X G λF=>E9 F p1 p2;have d3:Cal l.prog w K mg base _ _ _ (ef _ _ _ _ m8):=i6.cal X G λF=>Ea F d2;have q8:Cal l.prog w K mg base _ _ _ (bI _ _ _ yP):=i7.cal X G λF=>Eb F b9;have C_top:Cal l.prog w K mg base _ _ _ (eH _ _ jw):=d_top.cal X G λF=>Ce F b9;have q9:Cal l.prog w K mg base _ _ _ (eH _ _ yQ):=i8.cal X G λF=>Ec F b9;have r0:Cal l.prog w K mg base _ _ _ (bI _ _ _ yR):=i9.cal X G λF=>Ed F C_top q9 d2 o9 p0;have r1:Cal l.prog w K mg base _ _ _ (bI _ _ _ xy):=j0.cal X G λF=>Ee F p3;have r2:Cal l.prog w K mg base _ _ _ (bI _ _ _ yS):=j1.cal X G λF=>Ef F r1 b7 a2;have d4:Cal l.prog w K mg base _ _ _ (fH _ _ _ _ _ lT):=j2.cal X G λF=>Eg F r2 r0 q8;have b4:Cal l.prog w K mg base _ _ _ (fw _ _ _ _ _ _ gq):=j3.cal X G λF=>Eh F d3 c0 d4 c7;have r3:Cal l.prog w K mg base _ _ _ (fw _ _ _ _ _ _ qT):=j4.cal X G λF=>Ei F b4 b8;have c1:Cal l.prog w K mg base _ _ _ (fH _ _ _ _ _ jC):=j5.cal X G λF=>Ej F c0 r3 b0 b1;have r4:Cal l.prog w K mg base _ _ _ (ef _ _ _ _ xA):=j6.cal X G λF=>Ek F c1 a0;have r5:Cal l.prog w K mg base _ _ _ (fH _ _ _ _ _ yT):=j7.cal X G λF=>El F c1 b4 a0 a1 o5 o8;have r6:Cal l.prog w K mg base _ _ _ (ef _ _ _ _ qU):=j8.cal X G λF=>Em F;have C_way:Cal l.prog w K mg base _ _ _ (fw _ _ _ _ _ _ iX):=d_way.cal X G λF=>Cf F r5 r6 b4 o3 b0 b1;have r7:Cal l.prog w K mg base _ _ _ (ef _ _ _ _ yU):=j9.cal X G λF=>En F r4 c1 C_way a0;have r8:Cal l.prog w K mg base _ _ _ (yF _ _ _ _ _ _ _ yV):=k0.cal X G λF=>Eo F b4 o6;have r9:Cal l.prog w K mg base _ _ _ (fw _ _ _ _ _ _ uw):=k1.cal X G λF=>Ep F r8 b7 a0 a1 b0 b1;have s0:Cal l.prog w K mg base _ _ _ (bI _ _ _ yW):=k2.cal X G λF=>Es F b7 a0 c7;have s1:Cal l.prog w K mg base _ _ _ (fw _ _ _ _ _ _ xB):=k3.cal X G λF=>Et F s0 c0 d3 d4 a0 a2 b0 b1;have s2:Cal l.prog w K mg base _ _ _ (fH _ _ _ _ _ m9):=k4.cal X G λF=>Eu F r9 s1 a0;have s3:Cal l.prog w K mg base _ _ _ (fw _ _ _ _ _ _ oa):=k5.cal X G λF=>Ew F b3 a4 a7 a2;have s4:Cal l.prog w K mg base _ _ _ (fH _ _ _ _ _ yX):=k6.cal X G λF=>Ex F s3 a0 a8 b8;have s5:Cal l.prog w K mg base _ _ _ (bI _ _ _ yY):=k7.cal X G λF=>Ey F b2 a0 a8 a9;have s6:Cal l.prog w K mg base _ _ _ (eH _ _ yZ):=k8.cal X G λF=>Ez F;have s7:Cal l.prog w K mg base _ _ _ (bI _ _ _ xE):=k9.cal X G λF=>EA F s6 a0;have s8:Cal l.prog w K mg base _ _ _ (bI _ _ _ xF):=l0.cal X G λF=>EB F a0 a9;have s9:Cal l.prog w K mg base _ _ _ (fH _ _ _ _ _ oB):=l1.cal X G λF=>EC F s5 s7 s8 a9 a1;exact FnOk.imp (Cg F_law q4 q5 q6 q7 r7 p4 s2 s4 c8 s9 a0 a8 a1) zw
theorem walk{l:JP}{q:F6}{loose:`I}{XP:8 (Str->`Q) Heap}{YP:8 Fh Heap}{d:DefRec}{K:Pp->EL}(hn:0 l.most 63)(hdf:d.params.defaults=[])(hY:∀(w:Fh)(h:Heap),YP w h->(K w.params).In h)
  (F:∀(w:Fh)(mg:Str->Option EM)(fa:Addr)(h:Heap),(K w.params).In h->h.Ns `T mg->0 (mg d.name) (.ref fa)->∃fd:Fi,(∀(s:EN)(u:EM),MH s fd ⟨[u],[]⟩ [("_law_script",u)])/\∀base:Heap,(K w.params).In base->base.Ns `T mg->FnOk l.prog w (K w.params) mg base CX0 27 fa fd ["_law_script"] (su<|K w.params)):
  Nu q `d XP YP l.row.toRowW d [] (λf vs=>ND f vs):=
 L2.walk_of (n:=63) (k:=27) (x:="_law_script") (CX:=λ_=>CX0) (sp:=λw=>su (K w.params)) hn ⋯ hdf ⟨`a,`M,`M⟩ hY F (λ_ _ a ns hl _ hS=>⟨a,ns,`a,hS,hl,λ_=>`a⟩) λ_ _ _ _ _ z=>z
end Wb
local macro_rules | `(tactic| walk_at "D") => `(tactic| (apply Wb.DI.mk; (case da => k_is); (case dl => k_is); (case dc => k_is); (case dk => k_is); exact λ_ _ _ _ _ _ _ => rfl))
open PySem PySem.W PyProof.Rows
set_option maxRecDepth 100000 in
set_option maxHeartbeats 0 in
theorem PySem.Challenge.cw_wornband_k42_whole_settled_is_right_holds : PySem.Challenge.rw_wornband_k42_whole_settled_is_right.Holds := by
 refine hd ?_
 k_fill
 refine Wb.walk (l:=GC) rfl rfl (λw h Y=>PySem.W.kIn_of Y) ?F
 case F=>
  intro w mg fa h KX G hmg
  refine' Wb.fin_mk KX G hmg ?Z2K ?Z3z ?Z3A ?Z2i ?Z4k ?Z4a ?Z35 ?Z3B ?Z36 ?Z4l ?Z2N ?Z37 ?Z2O ?Z38 ?Z2w ?Z3C ?Z3D ?Z3E ?Z4b ?Z39 ?Z4c ?Z3F ?Z3G ?Z4J ?Z4d ?Z2F ?Z4m ?d_top ?Z4K ?Z3a ?Z59 ?Z4L ?Z4M ?Z4N ?Z2x ?Z4O ?Z5a ?Z5b ?Z4P ?d_way ?Z4n ?Z4Q ?Z5c ?Z4R ?Z5B ?Z4o ?Z3H ?Z3b ?Z3I ?Z3J ?Z3c ?Z3K ?Z21 ?a_law ?l_law ?c_law ?k_law ?Z5N ?Z5O ?Z5C ?Z3L ?Z5P ?Z3d ?Z5Q ?Z5D ?Z5R ?Z5d ?Z4e ?Z5S ?Z4S ?Z5T ?Z5U ?Z5e ?Z5V ?Z5f ?Z4T ?Z4U ?Z4V ?Z5g ?Z5h ?Z5i ?Z5j ?Z5k ?Z5l ?Z5E
  (case Z2K|Z3z|Z3A|Z2i=>k_is)
  (case Z4k|Z4a|Z35|Z3B|Z36|Z4l|Z2N|Z37|Z2O|Z38|Z2w|Z3C|Z3D|Z3E|Z4b|Z39|Z4c|Z3F|Z3G|Z4J|Z4d|Z2F|Z4m|d_top|Z4K|Z3a|Z59|Z4L|Z4M|Z4N|Z2x|Z4O|Z5a|Z5b|Z4P|d_way|Z4n|Z4Q|Z5c|Z4R|Z5B|Z4o|Z3H|Z3b|Z3I|Z3J|Z3c|Z3K|Z21=>walk_at "D")
  (case a_law|l_law|c_law|k_law|Z5N|Z5O|Z5C|Z3L|Z5P|Z3d|Z5Q|Z5D|Z5R|Z5d|Z4e|Z5S|Z4S|Z5T|Z5U|Z5e|Z5V|Z5f|Z4T|Z4U=>k_is)
  (case Z4V=>rfl)
  (case Z5g|Z5h|Z5i|Z5j=>k_is)
  (case Z5k=>rfl)
  (case Z5l|Z5E=>k_is)
