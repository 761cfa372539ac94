import PyProof.Rows.All
import Wide.All
import OpenK.AllK
import Wide.FinOn
import PyProof.EqAt
import PyProof.EqKinds
import PyProof.TupleCall
import KE.KDictSum
import KE.KRevIter
import KE.KRevSl
import KE.KDictLaws
import PyProof.StrLawsFirst
import KE.LcSums
import PyProof.EnumMake
import PyProof.TupleIter
import PyProof.StationsW
import PyProof.Rows.Own
import PyProof.NsDelKeeps
import PyProof.RulesAs
import PyProof.ExcAttrAll.ValueError
import KE.KIsAll
import PyProof.ExcBaseAll.ValueError
import PyProof.Rows.FStr
import PyProof.FString
import PyProof.Rows.StrNews
import PyProof.StrLawsTight
import PyProof.StrLawsChain
import PyProof.ExcInit
import PyProof.ExcClass3
import PyProof.InstStoreFacts
import PySem.SetTable
import PySem.SetOps
import PyProof.TupleKey
import PyProof.SetKind
import PyProof.IsRules
import KE.KSortTup
import PyProof.Rows.SortRun
import PyProof.Rows.SortShell
import PyProof.DictWalks
import PyProof.DictTruth
import PyProof.NeKinds
import PyProof.Rows.TupTab
import PyProof.Rows.SetFrom
import PyProof.SetRoads
import PyProof.AutoListH
import PyProof.DictItems
import PySem.Challenge.RW_wornband_k45_undo_and_redo
open Array renaming length_toList->Gr,getElem?_eq_some_iff->Hu,getElem?_eq_getElem->JQ,getElem?_toList->KJ,mem_toList_iff->KU,toList->Nb
open Bool renaming false_ne_true->F7,false_eq_true->Gk,eq_iff_iff->Gm,not_eq_true'->IX,false_and->KS,not_false->KZ,not_true->Lg,and_false->Mq,true_and->N8
open Classical renaming byContradiction->Gj
open False renaming elim->GA
open ForInStep renaming yield->HZ
open Iff renaming rfl->Jy
open Int renaming emod_lt_of_pos->FD,emod_nonneg->G1,toNat_natCast->GO,le_refl->Ma,le_trans->Ng
open List renaming getElem?_eq_some_iff->ER,mem_cons_self->EZ,size_toArray->F4,mem_cons_of_mem->F5,mem_cons->F9,replicate->Fg,mem_map->Fh,length_append->Fn,mem_append_right->Fq,length_map->Fz,Nodup->FC,append_nil->FG,getElem?_append_right->FI,mem_of_getElem?->FL,forall_mem_cons->FN,getElem?_append_left->FP,getElem?_eq_getElem->FQ,find?_cons_of_neg->FR,length_cons->FV,not_mem_nil->FY,map_cons->FZ,getElem?_map->G4,getElem?_eq_none_iff->G6,nodup_cons->G8,replicate_succ->Gu,mem_append_left->Gy,lookup->GB,length->GC,mem_append->GF,of_mem_zip->GG,mem_singleton->GU,lookup_cons->GW,flatten_cons->Ha,find?_cons_of_pos->Hd,append_assoc->Hj,length_set->Hm,getElem?_zip_eq_some->Hw,drop_eq_getElem_cons->Hx,getElem?_set->Hz,filterMap_cons->HF,length_take->HI,drop_length->HL,range->HP,getElem?_set_self->HQ,find?_cons->HX,length_nil->HY,length_singleton->Ia,getElem?_set_ne->Ik,length_drop->Io,map_congr_left->Ip,foldl_cons->Iw,nil_append->Iy,forIn_cons->Iz,length_zip->IA,mem_filterMap->IB,getElem?_cons_zero->II,getElem?_cons_succ->IJ,map_nil->IQ,take_of_length_le->IT,map_map->IU,forIn_nil->IW,length_replicate->IZ,zipIdx_cons->J9,all_eq_true->Jb,any_eq_true->Jd,any_cons->Je,zipIdx_nil->Js,mem_range->JA,set_cons_zero->JK,set_cons_succ->JL,ext_getElem?->JW,getElem_mem->Ke,cons_append->Kj,drop_eq_nil_of_le->Kv,length_pos_of_mem->Kw,mem_iff_getElem?->KN,dropLast_eq_take->KO,lookup_append->Lo,contains_cons->Lq,find?_eq_none->Ls,flatMap_cons->LQ,length_range->LS,mem_filter->Mb,foldl->Mp,drop_zero->Ms,nodup_nil->My,take->O9
open List.Pairwise renaming nil->JT
open List.cons renaming injEq->KA
open Nat renaming lt_of_lt_of_le->EY,le_refl->Fb,ne_of_lt->Fd,lt_irrefl->FO,le_trans->GH,lt_succ_self->GI,le_add_right->GX,ne_of_gt->H9,le_of_lt->Hy,zero_le->Jg,le_succ->Jh,lt_trans->Kr,reduceAdd->Lh,reduceSub->Li,lt_succ_of_lt->LM,le_of_eq->Nd
open Ne renaming symm->Gh
open Option renaming map_eq_some_iff->Hb,getD_some->HJ,ne_none_iff_exists'->Im,map_some->Jq,isSome_iff_exists->K8,bind_eq_some_iff->Kf,bind_some->Kg,isSome_some->Lm,isSome_map->LJ,getD_none->LZ
open Option.some renaming inj->Fy,injEq->K0
open Or renaming inr->IF,inl->IS
open PyProof.Rows renaming boot_isinstance->ET,boot_list->Ga,callWith_type1->Hr,boot_abs->Hv,boot_dict->HW,boot_int->Ib,boot_max->Ic,boot_bool->IY,boot_str->J6,AllBare->Jw,boot_tuple->Kk,subscriptTail_builtinR->Kp,boot_min->KR,slot_tupleiter_next->Ld,IntsAre->LF,callWith_builtin1->LY,Subscript_->Mm,isub_int->Nk,boot_all->Nl,boot_any->Nm,TupTab->ND,IsTup->NS
open PyProof.Rows.LSm renaming kept_iter->N4
open PySem renaming wpAny_bind->EE,Value->EI,Shared->EM,wpAny_pure->ES,FuncData->F8,Program->Ff,World->Fp,wpAny_field->Ft,Around->Fu,wpAny_seqItems->FT,wpAny_callSpecial?_slot->FX,wpAny_setField_rec->G0,boot_len->G2,wpAny_call_entry->G9,sizeLine_eq->Gi,wpAny_newObj_type->Gw,Spec->Gx,wpAny_mono->Gz,DictEntry->GJ,mem_of_lookup->GK,wpAny_holding->GP,wpAny_setField->GQ,wpAny_truthy_bool->GZ,wpAny_isInstance->Hf,wpAny_attempt->Hg,wpAny_onRaise->Hh,wpAny_typeNameOfWhole_keyiter->Hi,isSubtype_stop->Ht,wpAny_typeNameOf_keyiter->HE,NameKind->HH,Scope->HM,IsZip->HN,wpAny_Call_Name_kw->HR,wpAny_pyIter_list->Ih,wpAny_letGo->Il,wpAny_comprehension_free->Iq,wpAny_passesOwn->Iu,tupleKind_room_in1->IE,IsPair->IH,wpAny_rule->J8,wpAny_pyIter_zip->Ja,wpAny_updateSeq_pair->Jk,wpAny_execs_nil->Jo,pushCells_keeps->Jr,codeAny_mono->Jx,wpAny_newFunctionEnv_cells->JF,call_meets->JH,wpAny_letOwnedTupleGo_zip->JP,StrKeys->JX,wpAny_pyIter_slot->JY,wpAny_dictEntries->JZ,wpAny_standAt->K7,wpAny_Call_method0_late->Ka,wpAny_pyNext_list_item->Kn,wpAny_call->Ko,Keyword->Kq,codeAny_compStart_list->Kt,Draws->Ky,wpAny_dictEpoch->Kz,wpAny_isTrue_Compare1->KC,codeAny_call_function->KG,wpAny_isOneOf_keyiter->KQ,sliceRange_one->KY,BindsTo->L7,evalArgs_none->La,wpAny_isSubtype_exc->Lc,wpAny_handled->Lf,PlainAttrs->Ll,wpAny_pyIter_ascii->Ln,slot_listiter_next->Lr,Within->Lw,wpAny_assign_Name->Lx,seqIndex_neg->LG,slot_list_getitem->LH,call_meetsIn->LK,wpAny_pyIter_wide->LL,Builtin->LN,wpAny_loadPart_at->LP,wpAny_execs_cons->LW,wpAny_getItem_of->M0,seqIndex_of->M7,wpAny_of_eq->M8,wpAny_throw->M9,wpAny_specialOf->Me,Model->Mh,wpAny_Name->Mj,wpAny_loadPart->Ml,typeIs_str->Mn,typeIs_int->Mo,call->Mr,wpAny_newTuple->Mt,numAt_eq->Mv,wpAny_fieldsOf->Mx,intBits_le_64->MN,evalPart_none->N0,call_list_seq->N1,eval_ListComp->N2,nums_intItems->N3,Result->Nc,CellsOk->Nf,Operator->Nv,Params->NM,CmpOp->NT
open PySem.Around renaming frames_deeper->KW,under->LB
open PySem.Builtin.Dict renaming showsAll->KP,dictSlotNone->ML
open PySem.Builtin.Dict_items renaming ownsTuple->Jt
open PySem.Builtin.List renaming listTooLong->HD
open PySem.Builtin.Range renaming rangeSize->N9
open PySem.Builtin.SmallTypes renaming nextOf->Fm,ownedTupleIsFree->Fx,ownedTupleHandOut->GL
open PySem.Builtin.Str renaming occurrences->GV,strSliceIndices->GY,tooLong->NF
open PySem.Calls renaming callWith_builtin->HU,evalArgs_plain->Ji,Name_function_global->JB,spliced_cons->JE,spliced_nil->LD
open PySem.Challenge renaming rw_wornband_k45_undo_and_redo->GS,pw_wornband_k45_undo_and_redo->K9
open PySem.Code renaming isFrame->LC,frames->Nw
open PySem.Data renaming cell->I9,fields->JS,seq->Kd
open PySem.EntryCells renaming newEntry->Lb
open PySem.EqMixed renaming eq_bool_str->ME,eq_str_bool->MF,ne_bool_str->MJ,ne_str_bool->MK,eq_int_str->MR,eq_str_int->MT,ne_int_str->MX,ne_str_int->MZ
open PySem.EqNone renaming eq_none_none->MB,eq_none_bool->MC,eq_bool_none->MD,ne_none_none->MG,ne_none_bool->MH,ne_bool_none->MI,eq_none_int->MO,eq_none_str->MP,eq_int_none->MQ,eq_str_none->MS,ne_none_int->MU,ne_none_str->MV,ne_int_none->MW,ne_str_none->MY
open PySem.F renaming plainAttrs_list->Gg,slot_dict_keyiterator_next->Gp,slot_zip_next->Gv,slot_tuple_iterator_next->Hc,slot_list_pop->HB,args_zip_next_1->HK,entry_zip_next->HV,type_list_pop->Ie,args_tuple_iterator_next_1->IG,entry_tuple_iterator_next->IL,slot_list_clear->J4,slot_dict_get->J5,args_dict_keyiterator_next_1->Jc,entry_dict_keyiterator_next->Jl,slot_dict_itemiterator_iter->Jm,slot_dict_keyiterator_iter->Ju,excAttr_ValueError->JJ,slot_dict_getitem->JO,args_dict_get_3->Kb,plainAttrs_dict->Kc,slot_dict_items->Kh,type_list_clear->Ki,entry_dict_get->Ks,plainAttrs_str->Ku,slot_list_append->KH,slot_list_extend->KI,entry_zip_new->KL,called_zip->Lp,slot_dict_iter->M3,slot_int_rmul->Md
open PySem.Heap renaming get?_push_of_some->EJ,get?_push_size->EU,lt_size->F0,SameBut->Fj,size_push->FH,get?_update_other->FJ,get?_update_self->Gb,ExtBut->Hs,get?_none_of_le->Jf
open PySem.Heap.DictOf renaming new->Oc
open PySem.Heap.IsSliceOf renaming new->NK
open PySem.Heap.Ns renaming new->Nx
open PySem.Heap.SameBut renaming update->Hn
open PySem.Heap.SetOf renaming objOf->O8
open PySem.NameKind renaming free->Gq,cell->Le
open PySem.Obj renaming mapFields->G3,data_mapFields->GD,isFreed_of_fields->He,mapSeq->JG,cls_mapFields->JU
open PySem.PassesOwn renaming never->Gf
open PySem.PyData renaming keyHash->HA
open PySem.SeqAt.EqAt renaming int_str->NG,str_int->NH
open PySem.SeqAt.RcAt renaming lists_lengths->N7,lists->Oa
open PySem.Str renaming ofString->EL,empty->L6,length->NL
open PySem.StrLaws renaming found_one->LO
open PySem.Txt renaming find->JI,slice->M1,mul->NV
open PySem.Value renaming ref->F6,none->Fv,int->Jz,str->L5,bool->Lj,float->M6,isStrOf->MM,builtin->N6,isInt->Np,bytes->Nt,type->NI
open PySem.Value.ref renaming inj->N5
open PySem.W renaming Frag->EH,findIn->EO,nsIn->Fc,keepIn->Fi,mg_of->Fo,kitOne->Fw,fnOf->FA,mg_none_of->FE,codeIn->FF,isFn->Ge,kia_one->Gn,emptyDict->GN,instObj->Hl,plainGet->HG,cellsFrom_some->HS,hasDictIn->Ij,callWith_K->ID,InstAt->IM,plainOver->IP,OpenLaw->Jj,makesIn->Jp,plainGet_of->Jv,lookIn->JC,looks_findIn->JD,methodObj->JR,takerIn->Kx,methodCall_KW->KD,codeRec_of->Lk,specialIn->Ly,kitx_list->Lz,kitx_dict->LA,handedIn->LX,takesIn->Mc,kitMeta->Mf,WalkO->Mg,notCls->Mw
open PySem.W.Looks renaming here->NJ
open PySem.W.WData renaming int->O1
open PySem.W.WShape renaming has->NO
open PySem.Walks renaming list->NP
open PySem.Within renaming cons->NU
open Sum renaming inr->FU,inl->Hq
open Sum.inl renaming inj->Nq
open Sum.inr renaming inj->Nr
open True renaming intro->HC
set_option Elab.async false
set_option linter.all false
set_option maxRecDepth 100000
namespace L2
open PySem PySem.Spec PyProof.Rows
abbrev Key:=Sum Int Str
def gI:Key->EI->Bool
 | .inl k,v=>Np k v
 | .inr x,v=>MM x v
def tX(w:Fp):Key->Int
 | .inl k=>hashInt k
 | .inr x=>hashStr w x
theorem cu:∀{k:Key}{v:EI},gI k v=true->(∃i t,k=Hq i/\v=Jz i t)\/(∃x t,k=FU x/\v=L5 x t)
 | .inl i,v,h=>by
  obtain⟨t,e⟩:=Value.isInt_shape (k:=i) (v:=v) h;exact .inl ⟨i,t,rfl,e⟩
 | .inr x,v,h=>by
  obtain⟨t,e⟩:=Value.isStrOf_shape (x:=x) (v:=v) h;exact .inr ⟨x,t,rfl,e⟩
theorem i4(i:Int)(t:Tok):gI (.inl i) (.int i t)=true:=by simp[gI,Np]
theorem fm(x:Str)(t:Tok):gI (.inr x) (.str x t)=true:=by simp[gI,MM]
theorem zo(a b:Int):decide ((Hq a:Key)=Hq b)=(a==b):=by
 by_cases e:a=b;·subst e;simp
 ·have h:¬(Hq a:Key)=Hq b:=fun q=>e<|Nq q;rw[decide_eq_false h];exact(beq_eq_false_iff_ne.mpr e).symm
theorem zp(a b:Str):decide ((FU a:Key)=FU b)=decide (a=b):=by
 by_cases e:a=b;·subst e;simp
 ·have h:¬(FU a:Key)=FU b:=fun q=>e<|Nr q;rw[decide_eq_false h,decide_eq_false e]
theorem zq(a:Int)(b:Str):decide ((Hq a:Key)=FU b)=false:=decide_eq_false (fun q=>nomatch q)
theorem zr(a:Str)(b:Int):decide ((FU a:Key)=Hq b)=false:=decide_eq_false (fun q=>nomatch q)
def bK(prog:Ff)(w:Fp):PySem.KeyKind prog w Key where
 is:=gI
 hash:=tX w
 inj:=fun v a b ha hb=>by
  rcases cu ha with⟨i,t,rfl,rfl⟩|⟨x,t,rfl,rfl⟩
  ·rcases cu hb with⟨j,u,rfl,e⟩ | ⟨y,u,rfl,e⟩
   ·injection e with e1 _;rw[e1]
   ·exact nomatch e
  ·rcases cu hb with⟨j,u,rfl,e⟩ | ⟨y,u,rfl,e⟩
   ·exact nomatch e
   ·injection e with e1 _;rw[e1]
 byValue:=fun k v h=>by
  rcases cu h with⟨i,t,rfl,rfl⟩|⟨x,t,rfl,rfl⟩<;>rfl
 pyHash:=fun hv h=>by
  rcases cu hv with⟨i,t,rfl,rfl⟩|⟨x,t,rfl,rfl⟩
  ·exact wpAny_pyHash_int h
  ·exact wpAny_pyHash_str h
 eqBool:=fun hu hv h=>by
  rcases cu hu with⟨i,t,rfl,rfl⟩|⟨x,t,rfl,rfl⟩
  ·rcases cu hv with⟨j,u,rfl,rfl⟩ | ⟨y,u,rfl,rfl⟩
   ·rw[zo]at h;exact wpAny_eqBool_int h
   ·rw[zq]at h;exact NG i t y u _ _ _ _ h
  ·rcases cu hv with⟨j,u,rfl,rfl⟩ | ⟨y,u,rfl,rfl⟩
   ·rw[zr]at h;exact NH x t j u _ _ _ _ h
   ·rw[zp]at h;exact wpAny_eqBool_str h
 «strs»:=fun k x t v h=>by
  rcases cu h with⟨i,u,rfl,e⟩|⟨y,u,rfl,e⟩
  ·exact nomatch e
  ·injection e with e1 _;subst e1;cases v<;>rfl
theorem nM(prog:Ff)(w:Fp)(i:Int)(t:Tok):(bK prog w).is (.inl i) (.int i t)=true:=i4 i t
theorem nN(prog:Ff)(w:Fp)(x:Str)(t:Tok):(bK prog w).is (.inr x) (.str x t)=true:=fm x t
inductive V where
 |non|bl (b:Bool)|int (i:Int)|str (x:Str)|byt (b:Array UInt8)|flt (b:UInt64)|ref (a:Addr)|ty (n:String)
 deriving DecidableEq
def RelV:V->EI->Prop
 | .non,u=>u=Fv
 | .bl b,u=>u=Lj b
 | .int i,u=>∃t,u=Jz i t
 | .str x,u=>∃t,u=L5 x t
 | .byt b,u=>∃t,u=Nt b t
 | .flt b,u=>∃t,u=M6 b t
 | .ref a,u=>u=F6 a
 | .ty n,u=>u=NI n
abbrev Vals:List V->List EI->Prop:=Paired RelV
theorem Vals.length{xs:List V}{us:List EI}(r:Vals xs us):xs.length=us.length:=Paired.length r
theorem Vals.get:∀{xs:List V}{us:List EI}{i:Nat}{x:V},Vals xs us->xs[i]? =some x->∃u,us[i]? =some u/\RelV x u
 |_,_,_,_,.nil,e=>by simp at e
 |_,_,0,_,.cons r _,e=>by simp at e;subst e;exact⟨_,rfl,r⟩
 |_,_,i+1,x, .cons _ t,e=>by
  obtain⟨u,h1,h2⟩:=Vals.get (i:=i) (x:=x) t (by simpa using e);exact⟨u,by simpa using h1,h2⟩
theorem Vals.set{x:V}{u:EI}(r:RelV x u):∀{xs:List V}{us:List EI}(i:Nat),Vals xs us->Vals (xs.set i x) (us.set i u)
 |_,_,_,.nil=>.nil
 |_,_,0,.cons _ t=>.cons r t
 |_,_,i+1,.cons q t=>.cons q<|Vals.set r i t
theorem Vals.append:∀{xs ys:List V}{us ws:List EI},Vals xs us->Vals ys ws->Vals (xs++ys) (us++ws)
 |_,_,_,_,.nil,s=>s
 |_,_,_,_,.cons r t,s=>.cons r<|Vals.append t s
theorem Vals.take:∀{xs:List V}{us:List EI}(n:Nat),Vals xs us->Vals (xs.take n) (us.take n)
 |_,_,0,_=>.nil
 |_,_,_+1,.nil=>.nil
 |_,_,n+1,.cons r t=>.cons r<|Vals.take n t
theorem Vals.drop:∀{xs:List V}{us:List EI}(n:Nat),Vals xs us->Vals (xs.drop n) (us.drop n)
 |_,_,0,r=>r
 |_,_,_+1,.nil=>.nil
 |_,_,n+1,.cons _ t=>Vals.drop n t
def RelO:Option V->Option EI->Prop
 |some v,some u=>RelV v u
 |none,none=>True
 |_,_=>False
def KV{κ:Type}:List (κ×V)->List (κ×EI)->Prop:=Paired fun(p:κ×V)(q:κ×EI)=>p.1=q.1/\RelV p.2 q.2
def kV:Key->V
 | .inl i=>.int i
 | .inr x=>.str x
inductive HO where
 |lst (xs:List V)
 |tup (xs:List V)
 |dK (kvs:List (Key×V))|dT (kvs:List (List Key×V))
 |set (S:Int->Bool) (n:Nat)
 |ins (C dx:Addr) (fs:List (Str×V))
 |own (x:Addr)
 |xd (fs:List (Str×V))
 |met (f x:Addr)
 |rng (lo hi:Int)
 |frz (o:Obj) (u:HO)
 |tbl (ps:Array EI)
 |ext (φ:Heap->Prop)
abbrev Hp:=Addr->Option HO
def cy(H:Hp)(a:Addr)(o:HO):Hp:=fun b=>if b=a then some o else H b
theorem aq{H:Hp}{a:Addr}{o:HO}:cy H a o a=some o:=by unfold cy;rw[if_pos rfl]
theorem ao{H:Hp}{a b:Addr}{o:HO}(h:b≠a):cy H a o b=H b:=by unfold cy;rw[if_neg h]
theorem qo{H:Hp}{a:Addr}{o u:HO}:cy (cy H a o) a u=cy H a u:=by
 funext b;unfold cy;split<;>rfl
theorem AJ{H:Hp}{a b:Addr}{o u:HO}(h:H a=some o)(h':H b=some u)(d:o≠u):a≠b:=by
 intro e;subst e;rw[h]at h';exact d<|Fy h'
theorem cJ{H:Hp}{a b:Addr}{o:HO}(h:H a=some o)(h':H b=none):a≠b:=by
 intro e;subst e;rw[h]at h';cases h'
def IsTupD(h:Heap)(a:Addr)(items:Array EI):Prop:=∃o,h.get? a=some o/\(o.cls=.type "tuple"/\o.dict=none)/\∃n,o.data=.seq items n
theorem IsTupD.tup{h:Heap}{a:Addr}{items:Array EI}(t:IsTupD h a items):NS h a items:=let ⟨o,e,c,n,d⟩:=t;⟨o,e,c.1,n,d⟩
section
variable(P:Ff)(w:Fp)
def ObjOk(H:Hp)(h:Heap)(a:Addr):HO->Prop
 | .lst xs=>xs.length<=sizeLine/\∃(its:List EI)(n:Nat),Vals xs its/\h.get? a=some {cls:=.type "list",data:=.seq its.toArray n}
 | .tup xs=>xs.length<=sizeLine/\∃its:List EI,Vals xs its/\IsTupD h a its.toArray
 | .dK kvs=>kvs.length<=sizeLine/\(a==sysModules)=false/\∃vs,KV kvs vs/\h.DictOf (bK P w) a vs
 | .dT kvs=>kvs.length<=sizeLine/\(a == sysModules)=false/\∃xs:List (List Key×Addr×EI),
   Paired (fun(p:List Key×V)(q:List Key×Addr×EI)=>p.1=q.1/\H q.2.1=some (.tup<|p.1.map kV)/\RelV p.2 q.2.2) kvs xs/\
   ∃o es ep,h.get? a=some o/\o.ExactDict/\o.data=.dict es ep/\es.toList=xs.map (entryOfKey<|tupleKind<|bK P w)/\(xs.map (·.1)).Nodup
 | .set S n=>h.SetOf (intKind P w) a S n
 | .ins C dx fs=>H dx=some (.own a)/\fs.length<=1000/\dx≠a/\h.get? a=some (Hl C dx)/\
   ∃mA,h.Ns1 dx mA/\(∀f,RelO (fs.lookup f)<|mA f)/\Lw mA (fs.map (·.1))
 | .own _=>∃o,h.get? a=some o
 | .xd fs=>∃mA,h.Ns1 a mA/\∀f,RelO (fs.lookup f)<|mA f
 | .rng lo hi=>∃t u v,h.get? a=some {cls:=.type "range",data:=.fields #[.int lo t,.int hi u,.int 1 v]}
 | .frz o u=>h.get? a=some o/\ObjOk H h a u
 | .tbl ps=>h.get? a=some {cls:=.none,data:=.fields ps}
 | .met f x=>h.get? a=some (JR (.ref f)<|.ref x)
 | .ext φ=>φ h/\(∃o,h.get? a=some o)/\∀h1 h2:Heap,φ h1->(∀o,h1.get? a=some o->h2.get? a=some o)->φ h2
def HOk(H:Hp)(h:Heap):Prop:=∀a o,H a=some o->ObjOk P w H h a o
end
section
variable{P:Ff}{w:Fp}{H H':Hp}{h h':Heap}{a:Addr}{o:HO}
theorem ObjOk.lt(x:ObjOk P w H h a o):a<h.objs.size:=by
 cases o with
 |lst xs=>obtain⟨_,_,_,_,e⟩:=x;exact F0 e
 |tup xs=>obtain⟨_,_,_,p⟩:=x;exact p.tup.lt
 |dK kvs=>obtain⟨_,_,_,_,o,_,_,e,_⟩:=x;exact F0 e
 |dT kvs=>obtain⟨_,_,_,_,o,_,_,e,_⟩:=x;exact F0 e
 |set S n=>obtain⟨o,_,_,_,e,_⟩:=x;exact F0 e
 |ins C dx fs=>obtain⟨_,_,_,e,_⟩:=x;exact F0 e
 |own y=>obtain⟨_,e⟩:=x;exact F0 e
 |xd fs=>obtain⟨_,⟨_,_,_,e,_⟩,_⟩:=x;exact F0 e
 |rng lo hi=>obtain⟨_,_,_,e⟩:=x;exact F0 e
 |frz ob u=>obtain⟨e,_⟩:=x;exact F0 e
 |tbl ps=>exact F0 (show h.get? a=some _ from x)
 |met f y=>exact F0 (show h.get? a=some _ from x)
 |ext φ=>obtain⟨_,⟨_,e⟩,_⟩:=x;exact F0 e
theorem Paired.mapP{α β:Type}{F G:α->β->Prop}:∀{l₁:List α}{l₂:List β},Paired F l₁ l₂->(∀a b,F a b->G a b)->Paired G l₁ l₂
 |_,_,.nil,_=>.nil
 |_,_,.cons r t,f=>.cons (f _ _ r)<|Paired.mapP t f
theorem ObjOk.stay(x:ObjOk P w H h a o)(k:∀b u,(b=a\/H b=some (.own a))->h.get? b=some u->h'.get? b=some u)
  (ho:∀b,H b=some (.own a)->H' b=some (.own a)) (ht:∀b xs,H b=some (.tup xs)->H' b=some (.tup xs)):ObjOk P w H' h' a o:=by
 induction o with
 |lst xs=>obtain⟨z,its,n,r,e⟩:=x;exact⟨z,its,n,r,k _ _ (.inl rfl) e⟩
 |tup xs=>obtain⟨z,its,r,ob,e,c⟩:=x;exact⟨z,its,r,ob,k _ _ (.inl rfl) e,c⟩
 |dK kvs=>obtain⟨z,y,vs,r,ob,es,ep,e,c⟩:=x;exact⟨z,y,vs,r,ob,es,ep,k _ _ (.inl rfl) e,c⟩
 |dT kvs=>
  obtain⟨z,y,xs,r,ob,es,ep,e,c⟩:=x;exact⟨z,y,xs,Paired.mapP r fun p q z=>⟨z.1,ht _ _ z.2.1,z.2.2⟩,ob,es,ep,k _ _ (.inl rfl) e,c⟩
 |set S n=>obtain⟨ob,es,ep,t,e,c⟩:=x;exact⟨ob,es,ep,t,k _ _ (.inl rfl) e,c⟩
 |ins C dx fs=>
  obtain⟨d,z,ne,e,mA,⟨od,es,ep,e2,c⟩,r⟩:=x;exact⟨ho _ d,z,ne,k _ _ (.inl rfl) e,mA,⟨od,es,ep,k _ _ (.inr d) e2,c⟩,r⟩
 |own y=>obtain⟨ob,e⟩:=x;exact⟨ob,k _ _ (.inl rfl) e⟩
 |xd fs=>obtain⟨mA,⟨od,es,ep,e,c⟩,r⟩:=x;exact⟨mA,⟨od,es,ep,k _ _ (.inl rfl) e,c⟩,r⟩
 |rng lo hi=>obtain⟨t,u,v,e⟩:=x;exact⟨t,u,v,k _ _ (.inl rfl) e⟩
 |frz ob u ih=>obtain⟨e,q⟩:=x;exact⟨k _ _ (.inl rfl) e,ih q⟩
 |tbl ps=>
  have e:h.get? a=some {cls:=.none,data:=.fields ps}:=x;show h'.get? a=some {cls:=.none,data:=.fields ps};exact k a _ (.inl rfl) e
 |met f y=>
  have e:h.get? a=some (JR (.ref f)<|.ref y):=x;show h'.get? a=some (JR (.ref f)<|.ref y);exact k a _ (.inl rfl) e
 |ext φ=>obtain⟨p,⟨o,e⟩,st⟩:=x;exact⟨st _ _ p fun o q=>k _ _ (.inl rfl) q,⟨o,k _ _ (.inl rfl) e⟩,st⟩
theorem HOk.lt(x:HOk P w H h)(e:H a=some o):a<h.objs.size:=(x a o e).lt
theorem HOk.fresh(x:HOk P w H h)(e:h.objs.size<=a):H a=none:=by
 cases q:H a with
 |none=>rfl
 |some u=>exact absurd (EY (x.lt q) e)<|FO _
theorem HOk.kept(x:HOk P w H h)(k:∀b u,h.get? b=some u->h'.get? b=some u):HOk P w H h':=fun a o e=>
 (x a o e).stay (fun b u _ q=>k b u q) (fun _ q=>q) fun _ _ q=>q
theorem HOk.laid(x:HOk P w H h)(k:∀b u,h.get? b=some u->h'.get? b=some u)(hp:h.objs.size<=a)(new:ObjOk P w (cy H a o) h' a o):HOk P w (cy H a o) h':=fun b u e=>by
 have hn:=x.fresh hp;by_cases hb:b=a;·subst hb;rw[aq]at e;cases e;exact new
 ·rw[ao hb]at e;exact(x b u e).stay (fun c v _ q=>k c v q) (fun c q=>by rw[ao<|cJ q hn];exact q) fun c xs q=>by rw[ao<|cJ q hn];exact q
end
def Rd(H:Hp)(a:Addr)(u:HO):Prop:=H a=some u\/∃o,H a=some (.frz o u)
theorem Rd.ok{P:Ff}{w:Fp}{H:Hp}{h:Heap}{a:Addr}{u:HO}(r:Rd H a u)(x:HOk P w H h):ObjOk P w H h a u:=by
 rcases r with r|⟨o,r⟩
 ·exact x a u r
 ·obtain⟨_,q⟩:=x a _ r;exact q
def AK:Option HO->Prop
 |some (.lst _)=>True
 |some (.dK _)=>True
 |some (.dT _)=>True
 |some (.set _ _)=>True
 |some (.ins _ _ _)=>True
 |some (.ext _)=>True
 |_=>False
section
variable{P:Ff}{w:Fp}{H:Hp}{h h':Heap}{x e:Addr}{o':HO}
theorem HOk.write(ok:HOk P w H h)(mu:AK (H x))(he:e=x\/H e=some (.own x))(k:∀b u,b≠e->h.get? b=some u->h'.get? b=some u)(heo:∃u,h'.get? e=some u)
  (new:ObjOk P w (cy H x o') h' x o'):HOk P w (cy H x o') h':=fun b u q=>by
 have nown:∀c y,H c=some (.own y)->c≠x:=fun c y r z=>by subst z;rw[r]at mu;exact mu
 have ntup:∀c xs,H c=some (.tup xs)->c≠x:=fun c xs r z=>by subst z;rw[r]at mu;exact mu
 by_cases hb:b=x;·subst hb;rw[aq]at q;cases q;exact new
 ·rw[ao hb]at q;by_cases hbe:b=e
  ·have q':H b=some (.own x):=by
    rcases he with z|z;·exact absurd (hbe.trans z) hb
    ·rw[hbe];exact z
   rw[q]at q';cases q';obtain⟨v,hv⟩:=heo;exact⟨v,by rw[hbe];exact hv⟩
  ·refine(ok b u q).stay (fun c v hc r=>k c v ?_ r) (fun c r=>by rw[ao<|nown c b r];exact r) fun c xs r=>by rw[ao<|ntup c xs r];exact r
   rcases hc with rfl|hc;·exact hbe
   ·rintro rfl;rcases he with z|z;·exact nown c b hc z
    ·rw[hc]at z;cases z;exact hb rfl
end
structure Un(fs ex:List Addr)(H H':Hp)(h h':Heap):Prop where
 keep:∀b o,h.get? b=some o->H b=none->b∉fs->b∉ex->h'.get? b=some o
 slot:∀b o,h.get? b=some o->H b=none->b∈fs->b∉ex->∃sl,h'.get? b=some {o with slots:=sl}
 free:∀b o,h.get? b=some o->H b=none->b∉ex->H' b=none
 there:∀b o,h.get? b=some o->b∉ex->∃o',h'.get? b=some o'
 tups:∀b xs,H b=some (.tup xs)->H' b=some (.tup xs)
 frzs:∀b o u,H b=some (.frz o u)->H' b=some (.frz o u)
 tbls:∀b ps,H b=some (.tbl ps)->∃more,H' b=some (.tbl<|ps++more)
section
variable{fs fs' ex ex':List Addr}{H H1 H2:Hp}{h h1 h2 h':Heap}{a x e:Addr}{o:HO}
theorem Un.any(u:Un fs ex H H1 h h1){b:Addr}{ob:Obj}(q:h.get? b=some ob)(n:H b=none)(hx:b∉ex):∃sl,h1.get? b=some {ob with slots:=sl}:=by
 by_cases hb:b∈fs;·exact u.slot b ob q n hb hx
 ·exact⟨ob.slots,u.keep b ob q n hb hx⟩
theorem Un.kept(k:∀b u,h.get? b=some u->h'.get? b=some u):Un fs ex H H h h':=
 ⟨fun b ob q _ _ _=>k b ob q,fun b ob q _ _ _=>⟨ob.slots,k b ob q⟩,fun _ _ _ n _=>n,fun b ob q _=>⟨ob,k b ob q⟩,fun _ _ q=>q,fun _ _ _ q=>q,fun _ ps q=>⟨#[],by rw[q];simp⟩⟩
theorem Un.refl:Un fs ex H H h h:=Un.kept fun _ _ q=>q
theorem Un.laid(k:∀b u,h.get? b=some u->h'.get? b=some u)(hp:h.objs.size<=a)(hn:H a=none):Un fs ex H (cy H a o) h h' where
 keep:=fun b u q _ _ _=>k b u q
 slot:=fun b u q _ _ _=>⟨u.slots,k b u q⟩
 free:=fun b u q n _=>by rw[ao<|Fd<|EY (F0 q) hp];exact n
 there:=fun b u q _=>⟨u,k b u q⟩
 tups:=fun b xs q=>by rw[ao<|cJ q hn];exact q
 frzs:=fun b u xs q=>by rw[ao<|cJ q hn];exact q
 tbls:=fun b ps q=>⟨#[],by rw[ao<|cJ q hn,q];simp⟩
theorem Un.write(mu:AK (H x))(he:e=x\/H e=some (.own x))(k:∀b u,b≠e->h.get? b=some u->h'.get? b=some u)(heo:∃u,h'.get? e=some u):Un fs ex H (cy H x o) h h':=by
 have hx:∀b,H b=none->b≠x:=fun b n z=>by subst z;rw[n]at mu;exact mu
 have hb:∀b,H b=none->b≠e:=fun b n z=>by
  subst z;rcases he with r|r
  ·exact hx b n r
  ·rw[n]at r;cases r
 have hm:∀b u,H b=some u->¬AK (some u)->b≠x:=fun b u q nm z=>by subst z;rw[q]at mu;exact nm mu
 refine⟨fun b u q n _ _=>k b u (hb b n) q,fun b u q n _ _=>⟨u.slots,k b u (hb b n) q⟩,fun b u q n _=>by rw[ao<|hx b n];exact n,fun b u q _=>?_,
  fun b xs q=>by rw[ao (hm b _ q fun z=>z)];exact q,fun b u xs q=>by rw[ao (hm b _ q fun z=>z)];exact q,fun b ps q=>⟨#[],by rw[ao (hm b _ q fun z=>z),q];simp⟩⟩
 by_cases hbe:b=e;·subst hbe;exact heo
 ·exact⟨u,k b u hbe q⟩
end
def i5(h:Heap)(H:Hp):List Addr:=(HP h.objs.size).filter fun a=>(H a).isSome
def mW(h:Heap)(H:Hp):Heap:=PySem.W.hideAll h<|i5 h H
theorem rJ(h:Heap)(H:Hp):(mW h H).objs.size=h.objs.size:=PySem.W.hideAll_size _ _
theorem tY{h:Heap}{H:Hp}{b:Addr}{o:Obj}(e:h.get? b=some o)(n:H b=none):(mW h H).get? b=some o:=
 PySem.W.hideAll_get _ e fun hm=>by
  have q:(H b).isSome=true:=(Mb.mp hm).2;rw[n]at q;simp at q
theorem xf{h:Heap}{H:Hp}{b:Addr}{o:Obj}(e:(mW h H).get? b=some o):h.get? b=some o/\H b=none:=by
 have e':h.get? b=some o:=PySem.W.of_hideAll (i5 h H) e;refine⟨e',?_⟩;cases q:H b with
 |none=>rfl
 |some x=>
  have hm:b∈i5 h H:=Mb.mpr ⟨JA.mpr<|F0 e',by simp[q]⟩;have z:(mW h H).get? b=none:=PySem.W.hideAll_none (i5 h H) hm;rw[z]at e;cases e
structure Mod(K:EH)(mg:Str->Option EI)(base:Heap):Prop where
 kin:K.In base
 glob:base.Ns mainGlobals mg
 blt:∃mb,base.Ns builtinsNs mb/\∀x:Str,x≠"__name__"->mb x=bootBuiltins x
 nolimit:base.NoLimit
structure Cx where
 prog:Ff
 w:Fp
 K:EH
 mg:Str->Option EI
 base:Heap
 A:Fu
 N:List Str
 s₀:EM
 H₀:Hp
 env:Env
 outer:List Env
 stack:List Env
 ex:List Addr
 fn:Str->Bool
 calm:Bool
 pn:List (Addr×Obj)
 xe:EI->EM->Prop
def frs(l:List Env):List Addr:=l.filterMap (·.frame)
abbrev Cx.fs(X:Cx):List Addr:=frs X.outer
def Vis(sc:HM)(x:Str):Prop:=sc.names.lookup x=some .local\/sc.names.lookup x=some .cell\/sc.names.lookup x=some .free
def zt(sc:HM)(x:Str):Prop:=sc.names.lookup x=some .local\/sc.names.lookup x=some .cell
def Look(env:Env)(h:Heap)(m:Str->Option EI)(x:Str)(u:EI):Prop:=
 (env.kindOf x=some .local/\m x=some u)\/((env.kindOf x=some .cell\/env.kindOf x=some .free)/\∃c,env.cells.lookup x=some c/\h.IsCell c (some u))
structure Cx.Ok(X:Cx):Prop where
 mod:Mod X.K X.mg X.base
 kind:X.env.scope.kind=.function
 glob:X.env.globals=mainGlobals
 blt:X.env.builtins=builtinsNs
 above:X.s₀.heap.objs.size<=X.env.locals
 inj:∀x y c,X.env.cells.lookup x=some c->X.env.cells.lookup y=some c->x=y
 has:∀x,(X.env.kindOf x=some .cell\/X.env.kindOf x=some .free)->∃c,X.env.cells.lookup x=some c
 cab:∀x c,X.fn x=true->X.env.cells.lookup x=some c->X.s₀.heap.objs.size<=c
 hd:X.calm=true->X.A.handled=none
 frames:X.A.frames=some X.stack
 stk:X.stack=X.outer\/(X.stack=X.env::X.outer/\X.env.frame=some X.env.locals)
 exf:∀b∈X.ex,b≠X.env.locals/\∀x c,X.env.cells.lookup x=some c->c≠b
 bs:∀b o,X.base.get? b=some o->X.s₀.heap.get? b=some o/\X.H₀ b=none
 bsz:X.base.objs.size<=X.s₀.heap.objs.size
 noex:∀b o,X.base.get? b=some o->b∉X.ex
 exfs:∀b∈X.ex,b∉X.fs
 funs:X.s₀.heap.FunFrames X.base X.outer
 frf:∀b∈X.fs,X.H₀ b=none
structure Inv(X:Cx)(pins:List (Addr×Obj))(σ:List (Option V))(H:Hp)(s:EM):Prop where
 ok:X.Ok
 os:s.os=X.s₀.os
 bare:Jw s.gens
 base:Un X.fs X.ex X.H₀ H X.s₀.heap s.heap
 loc:∃m,s.heap.Ns X.env.locals m/\∀(i:Nat)(x:Str)(v:V),X.N[i]? =some x->σ[i]? =some (some v)->Vis X.env.scope x->∃u,RelV v u/\Look X.env s.heap m x u
 cell:∀x c,X.env.cells.lookup x=some c->∃v,s.heap.IsCell c v
 free:H X.env.locals=none
 freeC:∀x c,X.env.cells.lookup x=some c->H c=none
 pin:∀p∈X.pn++pins,s.heap.get? p.1=some p.2/\H p.1=none/\p.1≠X.env.locals/\p.1∉X.fs/\∀v,p.2.data≠.cell v
 hok:HOk X.prog X.w H s.heap
 len:σ.length=X.N.length
section
variable{X:Cx}{pins:List (Addr×Obj)}{σ:List (Option V)}{H H':Hp}{s:EM}{h':Heap}
theorem Cx.Ok.nofr(ok:X.Ok){b:Addr}{o:Obj}(e:X.base.get? b=some o):b∉X.fs:=fun hb=>by
 have:=(ok.funs.mem hb).1;rw[e]at this;cases this
theorem Inv.bs(I:Inv X pins σ H s):∀b o,X.base.get? b=some o->s.heap.get? b=some o/\H b=none:=fun b o e=>
 ⟨I.base.keep b o (I.ok.bs b o e).1 (I.ok.bs b o e).2 (I.ok.nofr e) (I.ok.noex b o e),I.base.free b o (I.ok.bs b o e).1 (I.ok.bs b o e).2 (I.ok.noex b o e)⟩
theorem Inv.bk(I:Inv X pins σ H s):∀b o,X.base.get? b=some o->s.heap.get? b=some o:=fun b o e=>(I.bs b o e).1
theorem Inv.mod(I:Inv X pins σ H s):Mod X.K X.mg X.base:=I.ok.mod
theorem Inv.kIn(I:Inv X pins σ H s):X.K.In s.heap:=I.ok.mod.kin.keeps I.bk
theorem Inv.lt(I:Inv X pins σ H s):X.env.locals<s.heap.objs.size:=let ⟨_,hn,_⟩:=I.loc;hn.lt
theorem Inv.sz(I:Inv X pins σ H s):X.s₀.heap.objs.size<=s.heap.objs.size:=GH I.ok.above<|Hy I.lt
theorem Inv.nofs(I:Inv X pins σ H s){a:Addr}(h:s.heap.objs.size<=a):a∉X.fs:=fun hb=>by
 obtain⟨_,o,ho,_⟩:=I.ok.funs.mem hb;exact absurd (EY (F0 ho)<|GH I.sz h)<|FO _
theorem Inv.cne(I:Inv X pins σ H s):∀x c,X.env.cells.lookup x=some c->c≠X.env.locals:=fun x c e z=>by
 obtain⟨v,o,ho,hd⟩:=I.cell x c e;obtain⟨m,⟨o',es,ep,ho',hd',_⟩,_⟩:=I.loc;rw[z,ho']at ho;cases ho;rw[hd']at hd;cases hd
theorem Inv.funs(I:Inv X pins σ H s):s.heap.FunFrames X.base X.outer:=by
 have all:∀(l:List Env),(∀b∈frs l,b∈X.fs)->X.s₀.heap.FunFrames X.base l->s.heap.FunFrames X.base l:=by
  intro l
  induction l with
  |nil=>intro _ _;trivial
  |cons env r ih=>
   intro hs hl;obtain⟨hk,⟨L,o,hf,hn,ho,hd⟩,hr⟩:=hl;have hL:L∈X.fs:=hs L (by unfold frs;rw[HF,hf];exact EZ);obtain⟨sl,e⟩:=I.base.slot L o ho (I.ok.frf L hL) hL fun z=>I.ok.exfs L z hL;exact⟨hk,⟨L,_,hf,hn,e,hd⟩,ih (fun b hb=>hs b (by unfold frs;rw[HF,hf];exact F5 _ hb)) hr⟩
 exact all X.outer (fun _ hb=>hb) I.ok.funs
theorem Inv.stack(I:Inv X pins σ H s):s.heap.FunFrames X.base X.stack:=by
 rcases I.ok.stk with e|⟨e,hf⟩
 ·rw[e];exact I.funs
 ·rw[e];obtain⟨m,hn,_⟩:=I.loc;refine .cons (by rw[I.ok.kind];decide) hf hn ?_ I.funs;exact Jf<|GH I.ok.bsz I.ok.above
theorem Inv.stkSub(I:Inv X pins σ H s):∀b∈frs X.stack,b∈X.env.locals::X.fs:=fun b hb=>by
 rcases I.ok.stk with e|⟨e,hf⟩
 ·rw[e]at hb;exact F5 _ hb
 ·rw[e]at hb;unfold frs at hb;rw[HF,hf]at hb;exact hb
theorem Inv.stkFree(I:Inv X pins σ H s):∀b∈frs X.stack,H b=none:=fun b hb=>by
 rcases F9.mp (I.stkSub b hb)with e|hb;·rw[e];exact I.free
 ·obtain⟨_,o,ho,_⟩:=I.ok.funs.mem hb;exact I.base.free b o ho (I.ok.frf b hb) fun z=>I.ok.exfs b z hb
theorem Inv.step{g':Array GenState}{t':Nat}{d':Drawn}{ch:List Addr}(I:Inv X pins σ H s)
  (hch:∀b∈ch,(b∈X.ex\/X.s₀.heap.objs.size<=b)/\b≠X.env.locals/\(∀x c,X.env.cells.lookup x=some c->c≠b)/\∀p∈X.pn++pins,p.1≠b)
  (keep:∀b o,b≠X.env.locals->b∉X.fs->b∉ch->s.heap.get? b=some o->H b=none->h'.get? b=some o)
  (slot:∀b o,b≠X.env.locals->b∈X.fs->b∉ch->s.heap.get? b=some o->H b=none->∃sl,h'.get? b=some {o with slots:=sl}) (free:∀b o,b∉ch->s.heap.get? b=some o->H b=none->H' b=none)
  (there:∀b o,b∉ch->s.heap.get? b=some o->∃o',h'.get? b=some o')
  (tups:∀b xs,H b=some (.tup xs)->H' b=some (.tup xs)) (frzs:∀b o u,H b=some (.frz o u)->H' b=some (.frz o u)) (tbls:∀b ps,H b=some (.tbl ps)->∃more,H' b=some (.tbl<|ps++more))
  (ns:∀m,s.heap.Ns X.env.locals m->h'.Ns X.env.locals m) (hok:HOk X.prog X.w H' h') (hg:Jw g'):
  Inv X pins σ H' {s with heap:=h',gens:=g',drawn:=d',toks:=t'}:=by
 have neL:∀b o,X.s₀.heap.get? b=some o->b≠X.env.locals:=fun b o e=>Fd<|EY (F0 e) I.ok.above;have neC:∀b o,X.s₀.heap.get? b=some o->b∉X.ex->b∉ch:=fun b o e hx hb=>by
  rcases (hch b hb).1 with z|z;·exact hx z
  ·exact absurd (EY (F0 e) z)<|FO _
 have cellK:∀x c,X.env.cells.lookup x=some c->∀v,s.heap.IsCell c v->h'.IsCell c v:=fun x c e v⟨o,ho,hd⟩=>by
  have nch:c∉ch:=fun z=>(hch c z).2.2.1 x c e rfl;by_cases hc:c∈X.fs
  ·obtain⟨sl,q⟩:=slot c o (I.cne x c e) hc nch ho<|I.freeC x c e;exact⟨_,q,hd⟩
  ·exact⟨o,keep c o (I.cne x c e) hc nch ho<|I.freeC x c e,hd⟩
 refine⟨I.ok,I.os,hg,⟨fun b o e n hb hx=>?_,fun b o e n hb hx=>?_,fun b o e n hx=>?_,fun b o e hx=>?_,fun b xs e=>tups b xs<|I.base.tups b xs e,fun b o xs e=>frzs b o xs<|I.base.frzs b o xs e,fun b ps e=>?_⟩,?_,fun x c e=>?_,?_,fun x c e=>?_,fun p hp=>?_,hok,I.len⟩;·exact keep b o (neL b o e) hb (neC b o e hx) (I.base.keep b o e n hb hx)<|I.base.free b o e n hx
 ·obtain⟨sl,e1⟩:=I.base.slot b o e n hb hx;obtain⟨sl',e2⟩:=slot b _ (neL b o e) hb (neC b o e hx) e1<|I.base.free b o e n hx;exact⟨sl',e2⟩
 ·obtain⟨o',e1⟩:=I.base.there b o e hx;exact free b o' (neC b o e hx) e1<|I.base.free b o e n hx
 ·obtain⟨o',e1⟩:=I.base.there b o e hx;exact there b o' (neC b o e hx) e1
 ·obtain⟨m1,e1⟩:=I.base.tbls b ps e;obtain⟨m2,e2⟩:=tbls b _ e1;exact⟨m1++m2,by rw[e2,Array.append_assoc]⟩
 ·obtain⟨m,hn,hl⟩:=I.loc;refine⟨m,ns m hn,fun i x v e1 e2 e3=>?_⟩;obtain⟨u,r,l⟩:=hl i x v e1 e2 e3;refine⟨u,r,?_⟩;rcases l with l|⟨k,c,e,z⟩
  ·exact .inl l
  ·exact .inr ⟨k,c,e,cellK x c e _ z⟩
 ·obtain⟨v,z⟩:=I.cell x c e;exact⟨v,cellK x c e v z⟩
 ·obtain⟨m,⟨o,_,_,ho,_⟩,_⟩:=I.loc;exact free _ o (fun z=>(hch _ z).2.1 rfl) ho I.free
 ·obtain⟨v,o,ho,hd⟩:=I.cell x c e;exact free c o (fun z=>(hch c z).2.2.1 x c e rfl) ho<|I.freeC x c e
 ·obtain⟨e,n,ne,nf,d⟩:=I.pin p hp;have nch:p.1∉ch:=fun z=>(hch p.1 z).2.2.2 p hp rfl;exact⟨keep p.1 p.2 ne nf nch e n,free p.1 p.2 nch e n,ne,nf,d⟩
theorem Inv.un{t':Nat}(I:Inv X pins σ H s)(u:Un X.fs [] H H' s.heap h')(hok:HOk X.prog X.w H' h'):Inv X pins σ H' {s with heap:=h',toks:=t'}:=by
 obtain⟨m,⟨o,es,ep,ho,r⟩,_⟩:=id I.loc;obtain⟨sl,hL⟩:=u.any ho I.free (by simp);exact I.step (g':=s.gens) (d':=s.drawn) (ch:=[]) (fun _ z=>nomatch z) (fun b o _ hb _ e n=>u.keep b o e n hb (by simp)) (fun b o _ hb _ e n=>u.slot b o e n hb (by simp)) (fun b o _ e n=>u.free b o e n (by simp)) (fun b o _ e=>u.there b o e (by simp)) u.tups u.frzs u.tbls (fun m' hm=>by
  obtain⟨o',es',ep',ho',r'⟩:=hm;rw[ho]at ho';cases ho';exact⟨_,es',ep',hL,r'⟩) hok I.bare
theorem Inv.call{g':Array GenState}{t':Nat}{d':Drawn}{ch:List Addr}(I:Inv X pins σ H s)(u:Un (frs X.stack) ch H H' s.heap h')(hok:HOk X.prog X.w H' h')(hg:Jw g')
  (hch:∀b∈ch,(b∈X.ex\/X.s₀.heap.objs.size<=b)/\b≠X.env.locals/\(∀x c,X.env.cells.lookup x=some c->c≠b)/\∀p∈X.pn++pins,p.1≠b):
  Inv X pins σ H' {s with heap:=h',gens:=g',drawn:=d',toks:=t'}:=by
 obtain⟨m,⟨o,es,ep,ho,r⟩,_⟩:=id I.loc;obtain⟨sl,hL⟩:=u.any ho I.free fun z=>(hch _ z).2.1 rfl;exact I.step (ch:=ch) hch (fun b o hL hb hc e n=>u.keep b o e n (fun z=>(F9.mp<|I.stkSub b z).elim hL hb) hc) (fun b o _ _ hc e n=>u.any e n hc) (fun b o hc e n=>u.free b o e n hc) (fun b o hc e=>u.there b o e hc) u.tups u.frzs u.tbls (fun m' hm=>by
  obtain⟨o',es',ep',ho',r'⟩:=hm;rw[ho]at ho';cases ho';exact⟨_,es',ep',hL,r'⟩) hok hg
theorem Inv.turned{t':Nat}{it:Addr}(I:Inv X pins σ H s)(k:∀b o,b≠it->s.heap.get? b=some o->h'.get? b=some o)(hn:H it=none)(hL:it≠X.env.locals)
  (h1:it∈X.ex\/X.s₀.heap.objs.size<=it) (h2:∀x c,X.env.cells.lookup x=some c->c≠it) (h3:∀p∈X.pn++pins,p.1≠it):Inv X pins σ H {s with heap:=h',toks:=t'}:=by
 have nit:∀b u,H b=some u->b≠it:=fun b u e z=>by rw[z,hn]at e;cases e
 refine I.step (g':=s.gens) (d':=s.drawn) (ch:=[it]) (fun b hb=>?_) (fun b o _ _ hc e _=>k b o (fun z=>hc (by simp[z])) e) (fun b o _ _ hc e _=>⟨o.slots,k b o (fun z=>hc (by simp[z])) e⟩) (fun _ _ _ _ n=>n)
  (fun b o hc e=>⟨o,k b o (fun z=>hc (by simp[z])) e⟩) (fun _ _ e=>e) (fun _ _ _ e=>e) (fun b ps e=>⟨#[],by rw[e];simp⟩) (fun m hm=>?_) (fun b u e=>?_) I.bare
 ·have e:b=it:=by simpa using hb
  subst e;exact⟨h1,hL,h2,h3⟩
 ·obtain⟨o,es,ep,ho,r⟩:=hm;exact⟨o,es,ep,k _ o (Gh hL) ho,r⟩
 ·refine(I.hok b u e).stay (fun c v hc q=>k c v ?_ q) (fun _ q=>q) fun _ _ q=>q;rcases hc with z|z
  ·rw[z];exact nit b u e
  ·exact nit c _ z
theorem Inv.tok(I:Inv X pins σ H s)(t:Nat):Inv X pins σ H {s with toks:=t}:=I.un (h':=s.heap) (t':=t) Un.refl I.hok
theorem Inv.kept{t':Nat}(I:Inv X pins σ H s)(k:∀b u,s.heap.get? b=some u->h'.get? b=some u):Inv X pins σ H {s with heap:=h',toks:=t'}:=I.un (Un.kept k)<|I.hok.kept k
theorem Inv.laid{a:Addr}{o:HO}{t':Nat}(I:Inv X pins σ H s)(k:∀b u,s.heap.get? b=some u->h'.get? b=some u)(hp:s.heap.objs.size<=a)(new:ObjOk X.prog X.w (cy H a o) h' a o):
  Inv X pins σ (cy H a o) {s with heap:=h',toks:=t'}:=I.un (Un.laid k hp<|I.hok.fresh hp)<|I.hok.laid k hp new
theorem Inv.write{x e:Addr}{o:HO}{t':Nat}(I:Inv X pins σ H s)(mu:AK (H x))(he:e=x\/H e=some (.own x))(k:∀b u,b≠e->s.heap.get? b=some u->h'.get? b=some u)(heo:∃u,h'.get? e=some u)
  (new:ObjOk X.prog X.w (cy H x o) h' x o):Inv X pins σ (cy H x o) {s with heap:=h',toks:=t'}:=I.un (Un.write mu he k heo)<|I.hok.write mu he k heo new
theorem Inv.weak{σ':List (Option V)}(I:Inv X pins σ H s)(hl:σ'.length=σ.length)(w:∀(i:Nat)v,σ'[i]? =some (some v)->σ[i]? =some (some v)):Inv X pins σ' H s:=
 ⟨I.ok,I.os,I.bare,I.base,let ⟨m,hn,hl'⟩:=I.loc;⟨m,hn,fun i x v e1 e2 e3=>hl' i x v e1 (w i v e2) e3⟩,I.cell,I.free,I.freeC,I.pin,I.hok,hl.trans I.len⟩
theorem Inv.pins_of{pins':List (Addr×Obj)}(I:Inv X pins σ H s)(h:∀p∈pins',s.heap.get? p.1=some p.2/\H p.1=none/\p.1≠X.env.locals/\p.1∉X.fs/\∀v,p.2.data≠.cell v):Inv X pins' σ H s:=
 ⟨I.ok,I.os,I.bare,I.base,I.loc,I.cell,I.free,I.freeC,fun p hp=>(GF.mp hp).elim (fun z=>I.pin p<|Gy _ z) (h p),I.hok,I.len⟩
theorem kq{N:List Str}(hN:N.Nodup){i j:Nat}{x:Str}(a:N[i]? =some x)(b:N[j]? =some x):i=j:=by
 obtain⟨h1,e1⟩:=ER.mp a;obtain⟨h2,e2⟩:=ER.mp b;exact(List.getElem_inj hN).mp (e1.trans e2.symm)
theorem lO{M:Mh}{A:Fu}{E:EI->EM->Prop}{i:Nat}{x:Str}{v:V}{u:EI}{Q:Unit->EM->Prop}(I:Inv X pins σ H s)(hN:X.N.Nodup)(hi:X.N[i]? =some x)(hx:zt X.env.scope x)(r:RelV v u)
  (h:∀s',Inv X pins (σ.set i<|some v) H s'->(∃a,Fj a s.heap s'.heap/\(a=X.env.locals\/X.env.cells.lookup x=some a))->Q () s') (hf:X.fn x=true\/X.env.scope.names.lookup x=some .local:=by first|exact .inl rfl|exact .inr rfl|assumption):wpAny M A (storeName X.env x u) Q E s:=by
 obtain⟨m,hn,hl⟩:=id I.loc;have hcls:(X.env.scope.kind== .class||(X.env.scope.kind== .module&&X.env.locals != X.env.globals))=false:=by rw[I.ok.kind];rfl
 have hiσ:i<σ.length:=by rw[I.len];exact(ER.mp hi).1
 have cne:=I.cne;have tracked:∀{a:Addr}{h':Heap},(∃o,s.heap.get? a=some o/\H a=none)->Fj a s.heap h'->HOk X.prog X.w H h':=fun{a h'}ha hs b ob e=>by
  obtain⟨_,_,hfree⟩:=ha;refine(I.hok b ob e).stay (fun c w' hc q=>(hs.2 c ?_).trans q) (fun _ q=>q) fun _ _ q=>q;rintro rfl;rcases hc with rfl|hc
  ·rw[hfree]at e;cases e
  ·rw[hfree]at hc;cases hc
 rcases hx with hk|hk
 ·refine wpAny_storeName_local hk hn (fun h' hn' hs=>?_) hcls;obtain⟨oL,_,_,hoL,_⟩:=id hn;refine h _ ⟨I.ok,I.os,I.bare,⟨fun b o e n hb hx=>?_,fun b o e n hb hx=>?_,I.base.free,fun b o e hx=>?_,I.base.tups,I.base.frzs,I.base.tbls⟩,⟨_,hn',fun j y v' e1 e2 e3=>?_⟩,fun y c e=>?_,I.free,I.freeC,fun p hp=>?_,tracked ⟨oL,hoL,I.free⟩ hs,by simpa using I.len⟩ ⟨_,hs,.inl rfl⟩;·exact(hs.2 b<|Fd<|EY (F0 e) I.ok.above).trans (I.base.keep b o e n hb hx)
  ·obtain⟨sl,e1⟩:=I.base.slot b o e n hb hx;exact⟨sl,(hs.2 b<|Fd<|EY (F0 e) I.ok.above).trans e1⟩
  ·obtain⟨o',e1⟩:=I.base.there b o e hx;exact⟨o',(hs.2 b<|Fd<|EY (F0 e) I.ok.above).trans e1⟩
  ·by_cases hj:j=i
   ·subst hj;rw[hi]at e1;cases e1;rw[HQ hiσ]at e2;cases e2;exact⟨u,r,.inl ⟨hk,by simp⟩⟩
   ·rw[Ik<|Gh hj]at e2;obtain⟨u',r',q⟩:=hl j y v' e1 e2 e3;refine⟨u',r',?_⟩;rcases q with⟨k,e⟩|⟨k,c,e,z⟩
    ·refine .inl ⟨k,?_⟩;have:y≠x:=fun e=>hj<|kq hN e1<|e▸hi;simp[this,e]
    ·exact .inr ⟨k,c,e,z.sameBut hs<|cne y c e⟩
  ·obtain⟨w',z⟩:=I.cell y c e;exact⟨w',z.sameBut hs<|cne y c e⟩
  ·obtain⟨e,n,ne,nf,d⟩:=I.pin p hp;exact⟨(hs.2 p.1 ne).trans e,n,ne,nf,d⟩
 ·have hfn:X.fn x=true:=by
   rcases hf with z|z;·exact z
   ·rw[z]at hk;cases hk
  obtain⟨c,hc⟩:=I.ok.has x<|.inl hk;obtain⟨w',z⟩:=I.cell x c hc;refine wpAny_storeName_cell I.ok.kind hk hc z<|fun h' hc' hs=>?_;obtain⟨oc,hoc,hocd⟩:=id z;refine h {s with heap:=h'} ⟨I.ok,I.os,I.bare,⟨fun b o e n hb hx=>?_,fun b o e n hb hx=>?_,I.base.free,fun b o e hx=>?_,I.base.tups,I.base.frzs,I.base.tbls⟩,⟨m,hn.sameBut hs<|Gh<|cne x c hc,fun j y v' e1 e2 e3=>?_⟩,fun y c' e=>?_,I.free,I.freeC,fun p hp=>?_,tracked ⟨oc,hoc,I.freeC x c hc⟩ hs,by simpa using I.len⟩ ⟨c,hs,.inr hc⟩;·exact(hs.2 b<|Fd<|EY (F0 e)<|I.ok.cab x c hfn hc).trans (I.base.keep b o e n hb hx)
  ·obtain⟨sl,e1⟩:=I.base.slot b o e n hb hx;exact⟨sl,(hs.2 b<|Fd<|EY (F0 e)<|I.ok.cab x c hfn hc).trans e1⟩
  ·obtain⟨o',e1⟩:=I.base.there b o e hx;exact⟨o',(hs.2 b<|Fd<|EY (F0 e)<|I.ok.cab x c hfn hc).trans e1⟩
  ·by_cases hj:j=i
   ·subst hj;rw[hi]at e1;cases e1;rw[HQ hiσ]at e2;cases e2;exact⟨u,r,.inr ⟨.inl hk,c,hc,hc'⟩⟩
   ·rw[Ik<|Gh hj]at e2;obtain⟨u',r',q⟩:=hl j y v' e1 e2 e3;refine⟨u',r',?_⟩;rcases q with q|⟨k,c',e,z'⟩
    ·exact .inl q
    ·refine .inr ⟨k,c',e,z'.sameBut hs ?_⟩;rintro rfl;exact hj<|kq hN e1<|I.ok.inj _ _ _ e hc▸hi
  ·by_cases hcc:c'=c;·subst hcc;exact⟨_,hc'⟩
   ·obtain⟨w2,z2⟩:=I.cell y c' e;exact⟨w2,z2.sameBut hs hcc⟩
  ·obtain⟨e,n,ne,nf,d⟩:=I.pin p hp;refine⟨(hs.2 p.1 ?_).trans e,n,ne,nf,d⟩;intro q;rw[q,hoc]at e;have q':oc=p.2:=Fy e;exact d w' (by rw[<-q'];exact hocd)
theorem ku{M:Mh}{A:Fu}{E:EI->EM->Prop}{i:Nat}{x:Str}{v:V}{u:EI}{Q:Unit->EM->Prop}(I:Inv X pins σ H s)(hN:X.N.Nodup)(hi:X.N[i]? =some x)(hx:zt X.env.scope x)(r:RelV v u)
  (h:∀s',Inv X pins (σ.set i<|some v) H s'->Q () s') (hf:X.fn x=true\/X.env.scope.names.lookup x=some .local:=by first|exact .inl rfl|exact .inr rfl|assumption):wpAny M A (storeName X.env x u) Q E s:=
 lO I hN hi hx r (fun s' I' _=>h s' I') hf
theorem Inv.call'{s':EM}{ch:List Addr}(I:Inv X pins σ H s)(ho:s'.os=s.os)(u:Un (frs X.stack) ch H H' s.heap s'.heap)(hok:HOk X.prog X.w H' s'.heap)(hg:Jw s'.gens)
  (hch:∀b∈ch,(b∈X.ex\/X.s₀.heap.objs.size<=b)/\b≠X.env.locals/\(∀x c,X.env.cells.lookup x=some c->c≠b)/\∀p∈X.pn++pins,p.1≠b):Inv X pins σ H' s':=by
 obtain⟨h',g',d',t',o'⟩:=s';have e:o'=s.os:=ho;subst e;exact I.call (g':=g') (t':=t') (d':=d') u hok hg hch
end
abbrev XK:=EI->Option Addr->Hp->Prop
abbrev St:=List<|Option V
abbrev VK:=V->Hp->Prop
abbrev TE:=St->Hp->VK->Prop
abbrev TT:=St->Hp->(Bool->Hp->Prop)->Prop
abbrev TA:=St->Hp->(List V->Hp->Prop)->Prop
structure Ends where
 nx:St->Hp->Prop
 rt:VK
 bk:St->Hp->Prop:=fun _ _=>False
 ct:St->Hp->Prop:=fun _ _=>False
abbrev TS:=Ends->St->Hp->Prop
def EP(X:Cx)(pins:List (Addr×Obj))(σ:St)(Q:VK)(u:EI)(s':EM):Prop:=∃v H',Inv X pins σ H' s'/\RelV v u/\Q v H'
def TP(X:Cx)(pins:List (Addr×Obj))(σ:St)(Q:Bool->Hp->Prop)(b:Bool)(s':EM):Prop:=∃H',Inv X pins σ H' s'/\Q b H'
def AP(X:Cx)(pins:List (Addr×Obj))(σ:St)(Q:List V->Hp->Prop)(us:List EI)(s':EM):Prop:=∃vs H',Inv X pins σ H' s'/\Vals vs us/\Q vs H'
def SP(X:Cx)(pins:List (Addr×Obj))(D:Ends)(f:Flow)(s':EM):Prop:=
 match f with
 | .next=>∃σ' H',Inv X pins σ' H' s'/\D.nx σ' H'
 | .brk=>∃σ' H',Inv X pins σ' H' s'/\D.bk σ' H'
 | .cont=>∃σ' H',Inv X pins σ' H' s'/\D.ct σ' H'
 | .ret u=>∃v σ' H',Inv X pins σ' H' s'/\RelV v u/\D.rt v H'
def PE(X:Cx)(e:Expr)(t:TE):Prop:=
 ∀(pins:List (Addr×Obj))(s:EM)(σ:St)(H:Hp)(Q:VK),Inv X pins σ H s->t σ H Q->wpAny (model X.prog X.w) X.A (eval e X.env) (EP X pins σ Q) X.xe s
def PT(X:Cx)(e:Expr)(t:TT):Prop:=
 ∀(pins:List (Addr×Obj))(s:EM)(σ:St)(H:Hp)(Q:Bool->Hp->Prop),Inv X pins σ H s->t σ H Q->wpAny (model X.prog X.w) X.A (isTrue e X.env<|eval e X.env) (TP X pins σ Q) X.xe s
def PW(X:Cx)(e:Expr)(t:TT):Prop:=
 ∀(whole:Sem EI)(pins:List (Addr×Obj))(s:EM)(σ:St)(H:Hp)(Q:Bool->Hp->Prop),Inv X pins σ H s->t σ H Q->wpAny (model X.prog X.w) X.A (isTrue e X.env whole) (TP X pins σ Q) X.xe s
theorem PW.pt{X:Cx}{e:Expr}{t:TT}(h:PW X e t):PT X e t:=h _
def PA(X:Cx)(es:List Expr)(t:TA):Prop:=
 ∀(pos:Pos)(pins:List (Addr×Obj))(s:EM)(σ:St)(H:Hp)(Q:List V->Hp->Prop),Inv X pins σ H s->t σ H Q->wpAny (model X.prog X.w) X.A (spliced<|backTo pos<|starEach es X.env) (AP X pins σ Q) X.xe s
def PS(X:Cx)(st:Stmt)(t:TS):Prop:=
 ∀(pins:List (Addr×Obj))(s:EM)(σ:St)(H:Hp)(D:Ends),Inv X pins σ H s->t D σ H->wpAny (model X.prog X.w) X.A (exec st X.env) (SP X pins D) X.xe s
def PSs(X:Cx)(st:List Stmt)(t:TS):Prop:=
 ∀(pins:List (Addr×Obj))(s:EM)(σ:St)(H:Hp)(D:Ends),Inv X pins σ H s->t D σ H->wpAny (model X.prog X.w) X.A (execs st X.env) (SP X pins D) X.xe s
theorem cb{α:Type}{t:Sem α}{Q Q':α->EM->Prop}{M:Mh}{A:Fu}{E:EI->EM->Prop}{s:EM}(h:wpAny M A t Q E s)(hQ:∀a s,Q a s->Q' a s):wpAny M A t Q' E s:=Gz h hQ fun _ _ x=>x
section
variable{X:Cx}
def bf(i:Nat):TE:=fun σ H Q=>∃v,σ[i]? =some (some v)/\Q v H
def tC(v:V):TE:=fun _ H Q=>Q v H
theorem zu{i:Nat}{x:Str}{pos:Pos}(hN:X.N[i]? =some x)(hv:Vis X.env.scope x)(hd:(x==("__debug__" :Str))=false:=by decide)(hcd:(x==("__classdict__" :Str))=false:=by decide):PE X (.Name x pos) (bf i):=by
 intro pins s σ H Q I h;obtain⟨v,e,h⟩:=h;obtain⟨m,hn,hl⟩:=I.loc;obtain⟨u,r,l⟩:=hl i x v hN e hv;have fin:EP X pins σ Q u s:=⟨v,H,I,r,h⟩
 rcases l with⟨hk,hm⟩|⟨hk,c,hc,hcell⟩
 ·exact Mj (wpAny_loadName_local I.ok.kind hk hn hm fin) hd
 ·rcases hk with hk | hk;·exact Mj (wpAny_loadName_cell I.ok.kind hk hc hcell fin) hd
  ·exact Mj (wpAny_loadName_free I.ok.kind hk hc hcell fin hcd) hd
theorem a6{i j pos}:PE X (.Constant (.int i) j pos) (tC<|.int i):=fun _ _ _ H _ I h=>wpAny_Constant_int ⟨.int i,H,I.tok _,⟨_,rfl⟩,h⟩
theorem fK{b j pos}:PE X (.Constant (.bool b) j pos) (tC<|.bl b):=fun _ _ _ H _ I h=>Constant_bool ⟨.bl b,H,I,rfl,h⟩
theorem ji{j pos}:PE X (.Constant .none j pos) (tC .non):=fun _ _ _ H _ I h=>Constant_none ⟨.non,H,I,rfl,h⟩
theorem ar{x j pos}:PE X (.Constant (.str x) j pos) (tC<|.str x):=fun _ _ _ H _ I h=>Calls.Constant_str ⟨.str x,H,I.tok _,⟨_,rfl⟩,h⟩
def Gl(X:Cx)(x:Str):Prop:=X.env.kindOf x=some .globalImplicit
theorem i6{E:EI->EM->Prop}{pins:List (Addr×Obj)}{s:EM}{σ:St}{H:Hp}{x:Str}{u:EI}{pos:Pos}{Q:EI->EM->Prop}(I:Inv X pins σ H s)(hg:Gl X x)(hm:X.mg x=some u)(h:Q u s)
  (hd:(x==("__debug__" :Str))=false:=by decide):wpAny (model X.prog X.w) X.A (eval (.Name x pos) X.env) Q E s:=
 JB I.ok.kind hg (Calls.loadGlobal_global (by rw[I.ok.glob];exact I.mod.glob.keeps I.bk) hm h) hd
theorem jj{E:EI->EM->Prop}{pins:List (Addr×Obj)}{s:EM}{σ:St}{H:Hp}{x:Str}{u:EI}{pos:Pos}{Q:EI->EM->Prop}(I:Inv X pins σ H s)(hg:Gl X x)(hm:X.mg x=none)(hv:bootBuiltins x=some u)(h:Q u s)
  (hn:x≠"__name__":=by decide) (hd:(x==("__debug__" :Str))=false:=by decide):wpAny (model X.prog X.w) X.A (eval (.Name x pos) X.env) Q E s:=by
 obtain⟨mb,h1,h2⟩:=I.mod.blt;exact JB I.ok.kind hg (Calls.loadGlobal_builtin (by rw[I.ok.glob];exact I.mod.glob.keeps I.bk) hm (by rw[I.ok.blt];exact h1.keeps I.bk) ((h2 x hn).trans hv) h) hd
theorem bL{x:Str}{v:V}{u:EI}{pos:Pos}(hg:Gl X x)(hm:X.mg x=some u)(r:RelV v u)(hd:(x==("__debug__" :Str))=false:=by decide):PE X (.Name x pos) (tC v):=
 fun _ _ _ H _ I h=>i6 I hg hm ⟨v,H,I,r,h⟩ hd
theorem dJ{x:Str}{v:V}{u:EI}{pos:Pos}(hg:Gl X x)(hm:X.mg x=none)(hv:bootBuiltins x=some u)(r:RelV v u)(hn:x≠"__name__":=by decide)(hd:(x==("__debug__" :Str))=false:=by decide):PE X (.Name x pos) (tC v):=
 fun _ _ _ H _ I h=>jj I hg hm hv ⟨v,H,I,r,h⟩ hn hd
variable{a b:Expr}{ta tb:TE}{pos:Pos}
def PC(X:Cx)(op:NT)(a b:Expr)(t:TE):Prop:=
 ∀(pins:List (Addr×Obj))(s:EM)(σ:St)(H:Hp)(Q:VK),Inv X pins σ H s->t σ H Q->
  wpAny (model X.prog X.w) X.A (eval a X.env) (fun v s₁=>wpAny (model X.prog X.w) X.A (eval b X.env) (fun u s₂=>wpAny (model X.prog X.w) X.A (compareOp op v u) (EP X pins σ Q) X.xe s₂) X.xe s₁) X.xe s
def tB(t:TE):TT:=fun σ H Q=>t σ H fun x H1=>∃c,x=.bl c/\Q c H1
theorem zv{op:NT}{t:TE}(h:PC X op a b t)(h1:behindInMarks op b=false:=by first|exact nobehind _ (by decide) (by decide)|rfl):PT X (.Compare a [op] [b] pos) (tB t):=by
 intro pins s σ H Q I hw;refine KC (cb (h pins s σ H _ I hw) fun v s1 h1=>cb h1 fun u s2 h2=>cb h2 fun c s3⟨x,H1,I1,r1,q1⟩=>?_) h1;obtain⟨d,rfl,q⟩:=q1;cases r1;exact GZ ⟨H1,I1,q⟩
theorem cK{e:Expr}{t:TE}(h:PE X e t)(he:∀whole,isTrue e X.env whole=(do let v <-whole;standAt e.pos;holding [v] (truthy v)):=by intro _;rfl):PT X e (tB t):=by
 intro pins s σ H Q I hw;refine isTrue_plain (cb (h pins s σ H _ I hw) fun v s1⟨x,H1,I1,r1,q1⟩=>?_)<|he _;obtain⟨d,rfl,q⟩:=q1;cases r1;exact GZ ⟨H1,I1,q⟩
variable{tA tB':TT}{rest:List Expr}
def dw(t u:TT):TT:=fun σ H Q=>t σ H fun c H1=>if c=true then u σ H1 Q else Q false H1
def gC(t u:TT):TT:=fun σ H Q=>t σ H fun c H1=>if c=true then Q true H1 else u σ H1 Q
def cZ(t:TT):TT:=fun σ H Q=>t σ H fun c H1=>Q (!c) H1
theorem jY(ha:PT X a tA):PW X (.BoolOp .And [a] pos) tA:=by
 intro wh pins s σ H Q I h;refine isTrue_and<|cb (ha pins s σ H Q I h) fun c s1 e=>?_;cases c with
 |true=>exact isTrue_and_nil e
 |false=>exact e
theorem jk(ha:PT X a tA):PW X (.BoolOp .Or [a] pos) tA:=by
 intro wh pins s σ H Q I h;refine isTrue_or<|cb (ha pins s σ H Q I h) fun c s1 e=>?_;cases c with
 |false=>exact isTrue_or_nil e
 |true=>exact e
theorem mX(ha:PT X a tA)(hb:PW X (.BoolOp .And (b::rest) pos) tB'):PW X (.BoolOp .And (a::b::rest) pos) (dw tA tB'):=by
 intro wh pins s σ H Q I h;refine isTrue_and<|cb (ha pins s σ H _ I h) fun c s1 zz=>?_;obtain⟨H1,I1,q1⟩:=zz;cases c with
 |true=>exact hb wh pins s1 σ H1 Q I1 q1
 |false=>exact⟨H1,I1,q1⟩
theorem kA(ha:PT X a tA)(hb:PW X (.BoolOp .Or (b::rest) pos) tB'):PW X (.BoolOp .Or (a::b::rest) pos) (gC tA tB'):=by
 intro wh pins s σ H Q I h;refine isTrue_or<|cb (ha pins s σ H _ I h) fun c s1 zz=>?_;obtain⟨H1,I1,q1⟩:=zz;cases c with
 |true=>exact⟨H1,I1,q1⟩
 |false=>exact hb wh pins s1 σ H1 Q I1 q1
theorem dZ(ha:PT X a tA):PT X (.UnaryOp .Not a pos) (cZ tA):=by
 intro pins s σ H Q I h;exact isTrue_not<|ha pins s σ H (fun c H1=>Q (!c) H1) I h
def bP(ta tb:TE):TE:=fun σ H Q=>ta σ H fun x H1=>∃c,x=.bl c/\if c=true then tb σ H1 Q else Q (.bl false) H1
def bQ(ta:TE):TE:=fun σ H Q=>ta σ H fun x H1=>∃c,x=.bl c/\Q (.bl<|!c) H1
theorem mY{op}{t:TE}(h:PE X a t):PE X (.BoolOp op [a] pos) t:=fun pins s σ H Q I hw=>BoolOp_one<|h pins s σ H Q I hw
theorem kC(ha:PE X a ta)(hb:PE X (.BoolOp .And (b::rest) pos) tb):PE X (.BoolOp .And (a::b::rest) pos) (bP ta tb):=by
 intro pins s σ H Q I h;refine BoolOp_and<|cb (ha pins s σ H _ I h) fun v s1 zz=>?_;obtain⟨x,H1,I1,r1,q1⟩:=zz;obtain⟨c,rfl,q1⟩:=q1;cases r1;refine GZ ?_;cases c with
 |true=>exact hb pins s1 σ H1 Q I1 q1
 |false=>exact⟨.bl false,H1,I1,rfl,q1⟩
theorem pe(ha:PE X a ta):PE X (.UnaryOp .Not a pos) (bQ ta):=by
 intro pins s σ H Q I h;refine UnaryOp_<|cb (ha pins s σ H _ I h) fun v s1 zz=>?_;obtain⟨x,H1,I1,r1,q1⟩:=zz;obtain⟨c,rfl,q1⟩:=q1;cases r1;exact not_of<|GZ ⟨.bl<|!c,H1,I1,rfl,q1⟩
def gD(t:TT)(ta tb:TE):TE:=fun σ H Q=>t σ H fun c H1=>if c=true then ta σ H1 Q else tb σ H1 Q
theorem kD{c:Expr}(hc:PT X c tA)(ha:PE X a ta)(hb:PE X b tb):PE X (.IfExp c a b pos) (gD tA ta tb):=by
 intro pins s σ H Q I h;refine wpAny_IfExp<|cb (hc pins s σ H _ I h) fun d s1 zz=>?_;obtain⟨H1,I1,q1⟩:=zz;cases d with
 |true=>exact ha pins s1 σ H1 Q I1 q1
 |false=>exact hb pins s1 σ H1 Q I1 q1
end
def SqL(K:EH)(H:Hp)(a:Addr)(xs:List V):Prop:=
 Rd H a (.lst xs)\/
  ∃(o:Obj)(its:Array EI)(n:Nat),K.lookup a=some o/\o.cls=.type "list"/\o.dict=none/\o.data=.seq its n/\its.size<=sizeLine/\Vals xs its.toList
def SqT(K:EH)(H:Hp)(a:Addr)(xs:List V):Prop:=
 Rd H a (.tup xs)\/
  ∃(o:Obj)(its:Array EI)(n:Nat),K.lookup a=some o/\(o.cls=.type "tuple"/\o.dict=none)/\o.data=.seq its n/\its.size<=sizeLine/\Vals xs its.toList
def CN:EI->Option V
 | .none=>some .non
 | .bool b=>some<|.bl b
 | .int i _=>some<|.int i
 | .str x _=>some<|.str x
 | .bytes b _=>some<|.byt b
 | .float b _=>some<|.flt b
 | .ref a=>some<|.ref a
 | .type n=>some<|.ty n
 |_=>none
theorem RelV.abs{x:V}{u:EI}(r:RelV x u):CN u=some x:=by
 cases x with
 |non=>cases r;rfl
 |bl _=>cases r;rfl
 |int _=>obtain⟨t,rfl⟩:=r;rfl
 |str _=>obtain⟨t,rfl⟩:=r;rfl
 |byt _=>obtain⟨t,rfl⟩:=r;rfl
 |flt _=>obtain⟨t,rfl⟩:=r;rfl
 |ref _=>cases r;rfl
 |ty _=>cases r;rfl
theorem RelV.inj{x y:V}{u:EI}(r:RelV x u)(q:RelV y u):x=y:=Fy<|r.abs.symm.trans q.abs
theorem Vals.inj:∀{xs ys:List V}{us:List EI},Vals xs us->Vals ys us->xs=ys
 |_,_,_,.nil,.nil=>rfl
 |_,_,_,.cons r t,.cons r' t'=>by rw[r.inj r',Vals.inj t t']
section
variable{X:Cx}{pins:List (Addr×Obj)}{σ:St}{H:Hp}{s:EM}{a:Addr}{xs ys:List V}
theorem SqL.of{K:EH}(h:H a=some (.lst xs)):SqL K H a xs:=.inl<|.inl h
theorem SqT.of{K:EH}(h:H a=some (.tup xs)):SqT K H a xs:=.inl<|.inl h
theorem Inv.list(I:Inv X pins σ H s)(h:SqL X.K H a xs):∃its:List EI,Vals xs its/\PlainL s.heap a its.toArray/\xs.length<=sizeLine:=by
 rcases h with h|⟨o,its,n,hk,hc,hd,hs,hz,r⟩
 ·obtain⟨z,its,n,r,e⟩:=h.ok I.hok;exact⟨its,r,⟨_,n,e,rfl,rfl,rfl⟩,z⟩
 ·refine⟨its.toList,r,⟨o,n,I.kIn a o hk,hc,hd,by simpa using hs⟩,?_⟩;have e:=r.length;simp only[Gr]at e;omega
theorem Inv.tuple(I:Inv X pins σ H s)(h:SqT X.K H a xs):∃its:List EI,Vals xs its/\NS s.heap a its.toArray/\xs.length<=sizeLine:=by
 rcases h with h|⟨o,its,n,hk,hc,hs,hz,r⟩
 ·obtain⟨z,its,r,p⟩:=h.ok I.hok;exact⟨its,r,p.tup,z⟩
 ·refine⟨its.toList,r,⟨o,I.kIn a o hk,hc.1,n,by simpa using hs⟩,?_⟩;have e:=r.length;simp only[Gr]at e;omega
theorem Inv.list_inj(I:Inv X pins σ H s)(h:SqL X.K H a xs)(h':SqL X.K H a ys):xs=ys:=by
 obtain⟨its,r,⟨o,n,e,_,_,d⟩,_⟩:=I.list h;obtain⟨its',r',⟨o',n',e',_,_,d'⟩,_⟩:=I.list h';rw[e]at e';cases e';rw[d]at d';injection d' with d1 _;have:its=its':=by simpa using congrArg Nb d1
 subst this;exact r.inj r'
theorem Inv.tuple_inj(I:Inv X pins σ H s)(h:SqT X.K H a xs)(h':SqT X.K H a ys):xs=ys:=by
 obtain⟨its,r,⟨o,e,_,n,d⟩,_⟩:=I.tuple h;obtain⟨its',r',⟨o',e',_,n',d'⟩,_⟩:=I.tuple h';rw[e]at e';cases e';rw[d]at d';injection d' with d1 _;have:its=its':=by simpa using congrArg Nb d1
 subst this;exact r.inj r'
end
abbrev Cx.wish(X:Cx)(E:EI->EM->Prop):Cx:={X with xe:=E}
abbrev Cx.nox(X:Cx):Cx:=X.wish fun _ _=>False
theorem Cx.Ok.wish{X:Cx}(ok:X.Ok)(E:EI->EM->Prop):(X.wish E).Ok:=
 ⟨ok.mod,ok.kind,ok.glob,ok.blt,ok.above,ok.inj,ok.has,ok.cab,ok.hd,ok.frames,ok.stk,ok.exf,ok.bs,ok.bsz,ok.noex,ok.exfs,ok.funs,ok.frf⟩
theorem Cx.Ok.unwish{X:Cx}{E:EI->EM->Prop}(ok:(X.wish E).Ok):X.Ok:=
 ⟨ok.mod,ok.kind,ok.glob,ok.blt,ok.above,ok.inj,ok.has,ok.cab,ok.hd,ok.frames,ok.stk,ok.exf,ok.bs,ok.bsz,ok.noex,ok.exfs,ok.funs,ok.frf⟩
section
variable{X:Cx}{pins:List (Addr×Obj)}{σ:St}{H:Hp}{s:EM}{E:EI->EM->Prop}
theorem Inv.wish(I:Inv X pins σ H s)(E:EI->EM->Prop):Inv (X.wish E) pins σ H s:=⟨I.ok.wish E,I.os,I.bare,I.base,I.loc,I.cell,I.free,I.freeC,I.pin,I.hok,I.len⟩
theorem Inv.unwish(I:Inv (X.wish E) pins σ H s):Inv X pins σ H s:=⟨I.ok.unwish,I.os,I.bare,I.base,I.loc,I.cell,I.free,I.freeC,I.pin,I.hok,I.len⟩
theorem SP.unwish{D:Ends}{f:Flow}{s':EM}(h:SP (X.wish E) pins D f s'):SP X pins D f s':=by
 cases f with
 |next=>obtain⟨σ',H',I,q⟩:=h;exact⟨σ',H',I.unwish,q⟩
 |brk=>obtain⟨σ',H',I,q⟩:=h;exact⟨σ',H',I.unwish,q⟩
 |cont=>obtain⟨σ',H',I,q⟩:=h;exact⟨σ',H',I.unwish,q⟩
 |ret u=>obtain⟨v,σ',H',I,r,q⟩:=h;exact⟨v,σ',H',I.unwish,r,q⟩
theorem PSs.nox{st:List Stmt}{t:TS}(h:PSs X.nox st t):PSs X st t:=fun pins s σ H D I hw=>
 Gz (h pins s σ H D (I.wish _) hw) (fun _ _ q=>q.unwish) fun _ _ z=>GA z
end
section
variable{X:Cx}{st:Stmt}{rest:List Stmt}{t u:TS}{e:Expr}{te:TE}{pos:Pos}
def aF:TS:=fun D σ H=>D.nx σ H
def dF(t u:TS):TS:=fun D σ H=>t {D with nx:=u D} σ H
theorem aD:PSs X [] aF:=fun _ _ σ H _ I h=>Jo ⟨σ,H,I,h⟩
theorem a8(h1:PS X st t)(h2:PSs X rest u):PSs X (st::rest) (dF t u):=by
 intro pins s σ H D I h;refine LW<|cb (h1 pins s σ H {D with nx:=u D} I h) fun f s1 q=>?_;cases f with
 |next=>
  obtain⟨σ',H',I',q⟩:=q;exact h2 pins s1 σ' H' D I' q
 |ret v=>exact q
 |brk=>exact q
 |cont=>exact q
theorem ae(h1:PS X st t):PSs X [st] t:=by
 intro pins s σ H D I h;refine LW<|cb (h1 pins s σ H D I h) fun f s1 q=>?_;cases f with
 |next=>exact Jo q
 |ret v=>exact q
 |brk=>exact q
 |cont=>exact q
theorem Inv.quiet{pins:List (Addr×Obj)}{σ:St}{H:Hp}{s:EM}(I:Inv X pins σ H s):interactive X.env=false:=by simp[interactive,I.ok.kind]
def bq(te:TE):TS:=fun D σ H=>te σ H fun _ H1=>D.nx σ H1
theorem d4(he:PE X e te)(hs:swapsWith e none pos.line X.env=pure false:=by rfl):PS X (.Expr e pos) (bq te):=by
 intro pins s σ H D I h;exact wpAny_Expr_any (cb (he pins s σ H _ I h) fun v s1⟨x,H1,I1,r1,q1⟩=>⟨σ,H1,I1,q1⟩) I.quiet hs
def cP(te:TE):TS:=fun D σ H=>te σ H D.rt
theorem aj(he:PE X e te):PS X (.Return (some e) pos) (cP te):=by
 intro pins s σ H D I h;refine wpAny_Return_some<|cb (he pins s σ H _ I h) fun v s1 zz=>?_;obtain⟨x,H1,I1,r1,q1⟩:=zz;exact⟨x,σ,H1,I1,r1,q1⟩
def iQ(c:TT)(t u:TS):TS:=fun D σ H=>c σ H fun b H1=>if b=true then t D σ H1 else u D σ H1
theorem bj{c:Expr}{a b:List Stmt}{tc:TT}(hc:PT X c tc)(ha:PSs X a t)(hb:PSs X b u):PS X (.If c a b pos) (iQ tc t u):=by
 intro pins s σ H D I h;refine wpAny_If<|cb (hc pins s σ H _ I h) fun d s1 zz=>?_;obtain⟨H1,I1,q1⟩:=zz;cases d with
 |true=>exact ha pins s1 σ H1 D I1 q1
 |false=>exact hb pins s1 σ H1 D I1 q1
end
abbrev TG:=V->St->Hp->(St->Hp->Prop)->Prop
abbrev xg:=List V->St->Hp->(St->Hp->Prop)->Prop
def PG(X:Cx)(target:Expr)(t:TG):Prop:=
 ∀(pins:List (Addr×Obj))(s:EM)(σ:St)(H:Hp)(v:V)(u:EI)(Q:St->Hp->Prop),Inv X pins σ H s->RelV v u->t v σ H Q->
  wpAny (model X.prog X.w) X.A (assign target X.env u) (fun _ s'=>∃σ' H',Inv X pins σ' H' s'/\Q σ' H') X.xe s
def Aw(X:Cx)(ts:List Expr)(t:xg):Prop:=
 ∀(pins:List (Addr×Obj))(s:EM)(σ:St)(H:Hp)(vs:List V)(us:List EI)(Q:St->Hp->Prop),Inv X pins σ H s->Vals vs us->t vs σ H Q->
  wpAny (model X.prog X.w) X.A (assignInOrder ((assignEach ts X.env).map (·.2)) us) (fun _ s'=>∃σ' H',Inv X pins σ' H' s'/\Q σ' H') X.xe s
abbrev zw:=V->V->V->Hp->(Hp->Prop)->Prop
def AL(X:Cx)(t:zw):Prop:=
 ∀(pins:List (Addr×Obj))(s:EM)(σ:St)(H:Hp)(o i v:V)(ov iv u:EI)(Q:Hp->Prop),Inv X pins σ H s->RelV o ov->RelV i iv->RelV v u->t o i v H Q->
  wpAny (model X.prog X.w) X.A (setItem ov iv u) (fun _ s'=>∃H',Inv X pins σ H' s'/\Q H') X.xe s
abbrev Dy:=V->V->Hp->VK->Prop
section
variable{X:Cx}{pos:Pos}
def aP(i:Nat):TG:=fun v σ H Q=>Q (σ.set i<|some v) H
theorem aW{i:Nat}{x:Str}(hN:X.N.Nodup)(hi:X.N[i]? =some x)(hx:zt X.env.scope x)(hf:X.fn x=true\/X.env.scope.names.lookup x=some .local:=by first|exact .inl rfl|exact .inr rfl|assumption):PG X (.Name x pos) (aP i):=by
 intro pins s σ H v u Q I r h;exact Lx<|ku I hN hi hx r (fun s' I'=>⟨_,H,I',h⟩) hf
def d5:xg:=fun vs σ H Q=>vs=[]/\Q σ H
def bD(t:TG)(u:xg):xg:=fun vs σ H Q=>∃v r,vs=v::r/\t v σ H fun σ' H'=>u r σ' H' Q
theorem cn:Aw X [] d5:=by
 intro pins s σ H vs us Q I r h;obtain⟨e,h⟩:=h;subst e;cases r;exact assignInOrder_nil ⟨σ,H,I,h⟩
theorem au{e:Expr}{es:List Expr}{t:TG}{u:xg}(h1:PG X e t)(h2:Aw X es u)
  (hs:(assignEach (e::es) X.env).map (·.2)=assign e X.env::(assignEach es X.env).map (·.2):=by rfl):Aw X (e::es) (bD t u):=by
 intro pins s σ H vs us Q I r h;obtain⟨v,vr,e1,h⟩:=h;subst e1;cases r with
 |cons r rr=>
  rw[hs];refine assignInOrder_cons<|cb (h1 pins s σ H _ _ _ I r h) fun _ s1 zz=>?_;obtain⟨σ1,H1,I1,q1⟩:=zz;exact h2 pins s1 σ1 H1 _ _ Q I1 rr q1
def cR(K:EH)(n:Nat)(t:xg):TG:=fun v σ H Q=>∃a xs,v=.ref a/\SqT K H a xs/\xs.length=n/\t xs σ H Q
theorem zx{es:List Expr}{k:Nat}{t:xg}{n:Nat}(hc:X.calm=true)(h:Aw X es t)
  (hn:(assignEach es X.env).length=n:=by rfl) (hst:(assignEach es X.env).findIdx? (·.1)=none:=by rfl):PG X (.Tuple es k pos) (cR X.K n t):=by
 intro pins s σ H v u Q I r hw;obtain⟨a,xs,e1,hq,hl,hw⟩:=hw;subst e1;cases r;obtain⟨its,rv,ht,hz⟩:=I.tuple hq;refine assign_Tuple_tuple (I.ok.hd hc) ht (by simp[hn,<-hl,rv.length]) hst fun h' hx=>?_;have I1:Inv X pins σ H {s with heap:=h'}:=I.kept (t':=s.toks) fun b o e=>hx b o (Fd<|F0 e) e;exact h pins _ σ H xs _ Q I1 (by simpa using rv) hw
def rK(to ti:TE)(t:zw):TG:=fun v σ H Q=>to σ H fun o H1=>ti σ H1 fun i H2=>t o i v H2 fun H3=>Q σ H3
theorem tZ{o i:Expr}{to ti:TE}{t:zw}(ho:PE X o to)(hi:PE X i ti)(hs:AL X t)
  (ha:∀v,assign (.Subscript o i pos) X.env v=(do
   let ov <-holding [v] (eval o X.env)
   let iv <-holding [v,ov] (eval i X.env)
   standAt pos
   holding [v,ov,iv] (setItem ov iv v)
   release [v,ov,iv] []):=by intro _;rfl):PG X (.Subscript o i pos) (rK to ti t):=by
 intro pins s σ H v u Q I r h;rw[ha];refine EE<|GP<|cb (ho pins s σ H _ I h) fun ov s1 zz=>?_;obtain⟨x,H1,I1,r1,q1⟩:=zz;refine EE<|GP<|cb (hi pins s1 σ H1 _ I1 q1) fun iv s2 zz=>?_;obtain⟨y,H2,I2,r2,q2⟩:=zz;refine EE<|K7<|EE<|GP<|cb (hs pins s2 σ H2 x y v ov iv u _ I2 r1 r2 r q2) fun _ s3 zz=>?_;obtain⟨H3,I3,q3⟩:=zz;exact wpAny_release ⟨σ,H3,I3,q3⟩
def bN(te:TE)(g:TG):TS:=fun D σ H=>te σ H fun x H1=>g x σ H1 D.nx
theorem gJ{tg e:Expr}{te:TE}{g:TG}(he:PE X e te)(hg:PG X tg g)(hs:swapsWithSole [tg] e pos.line X.env=pure false:=by rfl)(hw:swappedStores [tg] e X.env=pure none:=by rfl)
  (h1:(assignEach [tg] X.env).map (·.2)=[assign tg X.env]:=by rfl):PS X (.Assign [tg] e pos) (bN te g):=by
 intro pins s σ H D I h;refine wpAny_Assign_stores (cb (he pins s σ H _ I h) fun v s1⟨x,H1,I1,r1,q1⟩=>?_) hs hw;rw[h1];exact cb (hg pins s1 σ H1 x v _ I1 r1 q1) fun _ s2 q=>q
theorem gj{i:Nat}{x:Str}{e:Expr}{te:TE}{pos':Pos}(hN:X.N.Nodup)(hi:X.N[i]? =some x)(hx:zt X.env.scope x)(he:PE X e te)(hs:swapsWith e (some<|.Name x pos') pos.line X.env=pure false:=by rfl)(hf:X.fn x=true\/X.env.scope.names.lookup x=some .local:=by first|exact .inl rfl|exact .inr rfl|assumption):
  PS X (.Assign [.Name x pos'] e pos) (bN te<|aP i):=by
 intro pins s σ H D I h;refine wpAny_Assign_Name (cb (he pins s σ H _ I h) fun v s1⟨y,H1,I1,r1,q1⟩=>?_) hs;exact ku I1 hN hi hx r1 (fun s2 I2=>⟨_,H1,I2,q1⟩) hf
def Dh(f:Int->Int->Int):Dy:=fun x y H Q=>∃i j,x=.int i/\y=.int j/\Q (.int<|f i j) H
end
structure It where
 go:Nat->Hp->Prop
 yld:Nat->Hp->V->Hp->Prop
 stop:Nat->Hp->Prop
def FpOk(X:Cx)(pins:List (Addr×Obj))(H:Hp)(b:Addr):Prop:=
 H b=none/\b≠X.env.locals/\b∉X.fs/\(b∈X.ex\/X.s₀.heap.objs.size<=b)/\(∀x c,X.env.cells.lookup x=some c->c≠b)/\∀p∈X.pn++pins,p.1≠b
theorem Inv.fpOk{X:Cx}{pins:List (Addr×Obj)}{σ:St}{H H':Hp}{s:EM}{b:Addr}(I:Inv X pins σ H s)(hb:s.heap.objs.size<=b)(hn:H' b=none):FpOk X pins H' b:=by
 refine⟨hn,H9<|EY I.lt hb,I.nofs hb,.inr<|GH I.sz hb,fun x c e z=>?_,fun p hp z=>?_⟩
 ·obtain⟨v,q⟩:=I.cell x c e;exact absurd (EY q.lt (by rw[z];exact hb))<|FO _
 ·exact absurd (EY (F0 (I.pin p hp).1) (by rw[z];exact hb))<|FO _
structure Turn(P:Ff)(w:Fp)(K:EH)(tg:Expr)(J:It)(fp:List Addr)(it:Addr)(tn:Nat->Heap->Prop):Prop where
 mem:it∈fp
 obj:∀i h,tn i h->∀b∈fp,∃o,h.get? b=some o/\∀v,o.data≠.cell v
 keep:∀i h h',tn i h->(∀b∈fp,∀o,h.get? b=some o->h'.get? b=some o)->tn i h'
 item:∀(X:Cx),X.prog=P->X.w=w->X.K=K->X.calm=true->∀(i:Nat)(pins:List (Addr×Obj))(s:EM)(σ:St)(H:Hp)(E:EI->EM->Prop),Inv X pins σ H s->(∀b∈fp,FpOk X pins H b)->tn i s.heap->J.go i H->
  wpAny (model P w) X.A (pyNext<|.ref it) (fun r s1=>∃u,r=some u/\
   wpAny (model P w) X.A (letOwnedTupleGo tg (.ref it) u) (fun _ s2=>∃x H',Inv X pins σ H' s2/\RelV x u/\J.yld i H x H'/\tn (i+1) s2.heap/\∀b∈fp,H' b=none) E s1) E s
 done:∀(X:Cx),X.prog=P->X.w=w->X.K=K->X.calm=true->∀(i:Nat)(pins:List (Addr×Obj))(s:EM)(σ:St)(H:Hp)(E:EI->EM->Prop),Inv X pins σ H s->(∀b∈fp,FpOk X pins H b)->tn i s.heap->J.stop i H->
  wpAny (model P w) X.A (pyNext<|.ref it) (fun r s1=>r=none/\Inv X pins σ H s1) E s
 self:∀(A:Fu)(i:Nat)(s:EM)(Q:EI->EM->Prop)(E:EI->EM->Prop),tn i s.heap->Q (.ref it) s->wpAny (model P w) A (pyIter<|.ref it) Q E s
abbrev TI:=St->Hp->(It->Hp->Prop)->Prop
def CO(X:Cx)(pins:List (Addr×Obj))(σ:St)(tg:Expr)(R:It->Hp->Prop)(itv:EI)(s2:EM):Prop:=
 ∃(it:Addr)(fp:List Addr)(tn:Nat->Heap->Prop)(J:It)(H':Hp),itv=.ref it/\Inv X pins σ H' s2/\Turn X.prog X.w X.K tg J fp it tn/\tn 0 s2.heap/\(∀b∈fp,FpOk X pins H' b)/\R J H'
def PI(X:Cx)(tg iter:Expr)(wi:TI):Prop:=
 ∀(pins:List (Addr×Obj))(s:EM)(σ:St)(H:Hp)(R:It->Hp->Prop),Inv X pins σ H s->wi σ H R->
  wpAny (model X.prog X.w) X.A (eval iter X.env) (fun v s1=>wpAny (model X.prog X.w) X.A (pyIter v) (CO X pins σ tg R) X.xe s1) X.xe s
theorem nO{M:Mh}{A:Fu}{E:EI->EM->Prop}{s:EM}{tg:Expr}{it:Addr}{u:EI}{o:Obj}{n:String}{vs:Array EI}{Q:Unit->EM->Prop}(ho:s.heap.get? it=some o)(hc:o.cls=.type n)(hd:o.data=.fields vs)
    (hn:["enumerate","zip","dict_itemiterator","dict_reverseitemiterator","odict_iterator","itertools.zip_longest","itertools.pairwise"].contains n=false) (hQ:Q () s):wpAny M A (letOwnedTupleGo tg (.ref it) u) Q E s:=by
  unfold letOwnedTupleGo
  cases tg<;>first
    |exact ES hQ
    |(cases u<;>first
        |exact ES hQ
        | (refine EE (wpAny_load ho ?_)
           rw[hc,hd];show wpAny M A (if(["enumerate","zip","dict_itemiterator","dict_reverseitemiterator","odict_iterator","itertools.zip_longest","itertools.pairwise"].contains n&&vs[0]? ==some (rawInt _))=true then _ else _) Q E s;rw[if_neg (by intro h;rw[hn,KS]at h;cases h)];exact ES hQ))
def CP(K:EH)(a:Addr):It:=
 ⟨fun i H=>∃xs x,SqL K H a xs/\xs[i]? =some x,fun i H x H'=>H'=H/\∀xs,SqL K H a xs->xs[i]? =some x,fun i H=>∃xs,SqL K H a xs/\xs.length<=i⟩
def CQ(lo:Int)(n:Nat):It:=⟨fun i _=>i<n,fun i H x H'=>H'=H/\x=.int (lo+i),fun i _=>n<=i⟩
theorem i7{P:Ff}{w:Fp}{K:EH}{tg:Expr}(a it:Addr):Turn P w K tg (CP K a) [it] it (fun i h=>h.IsListIter it a i) where
 mem:=by simp
 obj:=fun i h st b hb=>by
  have e:b=it:=by simpa using hb
  subst e;obtain⟨o,e,c,d⟩:=st;exact⟨o,e,fun v z=>by rw[d]at z;cases z⟩
 keep:=fun i h h' st k=>st.at fun o e=>k it (by simp) o e
 item:=by
  intro X hP hw hK hc i pins s σ H E I hf st hg;subst hP hw hK;obtain⟨xs,x,hq,hx⟩:=hg;obtain⟨its,rv,p,hz⟩:=I.list hq;obtain⟨u,hu,ru⟩:=rv.get hx;obtain⟨f0,f1,f2,f3,f4,f5⟩:=hf it (by simp);refine Kn st p.isList (x:=u) (by simpa using hu) fun h' st' sb=>?_;have I1:Inv X pins σ H {s with heap:=h'}:=I.turned (t':=s.toks) (fun b o hb e=>(sb.2 b hb).trans e) f0 f1 f3 f4 f5;obtain⟨o,e,c,d⟩:=id st';exact⟨u,rfl,nO (s:={s with heap:=h'}) e c d (by decide) ⟨x,H,I1,ru,⟨rfl,fun ys hy=>by rw[I.list_inj hy hq];exact hx⟩,st',fun b hb=>(hf b hb).1⟩⟩
 done:=by
  intro X hP hw hK hc i pins s σ H E I hf st hg;subst hP hw hK;obtain⟨xs,hq,hx⟩:=hg;obtain⟨its,rv,p,hz⟩:=I.list hq;obtain⟨f0,f1,f2,f3,f4,f5⟩:=hf it (by simp);have hl:=rv.length;exact wpAny_pyNext_list_end (I.ok.hd hc) st p.isList (by simp;omega) fun h' eb=>⟨rfl,I.turned (t':=s.toks) (fun b o hb e=>eb b o hb e) f0 f1 f3 f4 f5⟩
 self:=fun _ _ _ _ _ st h=>wpAny_pyIter_listiter st h
theorem pf{P:Ff}{w:Fp}{K:EH}{tg:Expr}(it:Addr)(lo:Int)(n:Nat):Turn P w K tg (CQ lo n) [it] it (fun i h=>IsRangeIter h it (lo+(i:Nat)*1) ((n:Int)-(i:Nat)) 1) where
 mem:=by simp
 obj:=fun i h st b hb=>by
  have e:b=it:=by simpa using hb
  subst e;exact⟨_,st,fun v z=>by
   have z':JS _=I9 v:=z;cases z'⟩
 keep:=fun i h h' st k=>k it (by simp) _ st
 item:=by
  intro X hP hw hK hc i pins s σ H E I hf st hg;subst hP hw hK;obtain⟨f0,f1,f2,f3,f4,f5⟩:=hf it (by simp);have W:=Walks.range (prog:=X.prog) (w:=X.w) (I.ok.hd hc) it lo 1 n;refine W.item i s _ _ hg st fun v h' tk hv st' kk=>?_;obtain⟨t,rfl⟩:=hv;have I1:Inv X pins σ H {s with heap:=h',toks:=tk}:=I.turned (fun b o hb e=>kk b o (by simpa using hb) e) f0 f1 f3 f4 f5;refine⟨_,rfl,nO (s:={s with heap:=h',toks:=tk}) (n:="range_iterator") st' rfl rfl (by decide) ⟨.int<|lo+i,H,I1,⟨t,?_⟩,⟨rfl,rfl⟩,st',fun b hb=>(hf b hb).1⟩⟩;rw[Int.mul_one]
 done:=by
  intro X hP hw hK hc i pins s σ H E I hf st hg;subst hP hw hK;obtain⟨f0,f1,f2,f3,f4,f5⟩:=hf it (by simp);exact wpAny_pyNext_range_end (I.ok.hd hc) st (by have:n<=i:=hg;omega) fun h' eb=>⟨rfl,I.turned (t':=s.toks) (fun b o hb e=>eb b o hb e) f0 f1 f3 f4 f5⟩
 self:=fun _ _ _ _ _ st h=>wpAny_pyIter_rangeiter st h
section
variable{X:Cx}{tg:Expr}
def nP(K:EH)(tl:TE):TI:=fun σ H R=>tl σ H fun x H1=>∃a,x=.ref a/\(∃xs,SqL K H1 a xs)/\R (CP K a) H1
theorem xh{l:Expr}{tl:TE}(hl:PE X l tl):PI X tg l (nP X.K tl):=by
 intro pins s σ H R I h;refine cb (hl pins s σ H _ I h) fun v s1 zz=>?_;obtain⟨x,H1,I1,r1,q1⟩:=zz;obtain⟨a,e,⟨xs,hq⟩,q⟩:=q1;subst e;cases r1;obtain⟨its,rv,p,hz⟩:=I1.list hq;refine Ih p.isList ?_;refine⟨s1.heap.objs.size,[s1.heap.objs.size],_,_,H1,rfl,I1.kept (t':=s1.toks) fun b o e=>EJ _ e,i7 a _,⟨_,EU _ rfl,rfl,rfl⟩,fun b hb=>?_,q⟩;have e:b=s1.heap.objs.size:=by simpa using hb
 subst e;exact I1.fpOk (Fb _)<|I1.hok.fresh<|Fb _
theorem u6{pins:List (Addr×Obj)}{σ:St}{H:Hp}{s:EM}{R:It->Hp->Prop}{E:EI->EM->Prop}{lo hi:Int}{t u v:Tok}{tk:Nat}(I:Inv X pins σ H s)(h1: -(2^62)<=lo)(h2:lo<2^62)(h3: -(2^62)<=hi)(h4:hi<2^62)
  (q:R (CQ lo (hi-lo).toNat) H):wpAny (model X.prog X.w) X.A (pyIter<|.ref s.heap.objs.size) (CO X pins σ tg R) E {s with heap:=s.heap.push {cls:=.type "range",data:=.fields #[.int lo t,.int hi u,.int 1 v]},toks:=tk}:=by
 refine wpAny_pyIter_range (IsRange.new ..) (small_one h1 h2 h3 h4) ?_;have I1:Inv X pins σ H {s with heap:=s.heap.push {cls:=.type "range",data:=.fields #[.int lo t,.int hi u,.int 1 v]},toks:=tk}:=I.kept fun b o e=>EJ _ e;refine⟨(s.heap.push {cls:=.type "range",data:=.fields #[.int lo t,.int hi u,.int 1 v]}).objs.size,[(s.heap.push {cls:=.type "range",data:=.fields #[.int lo t,.int hi u,.int 1 v]}).objs.size],_,_,H,rfl,
  I1.kept (t':=tk) fun b o e=>EJ _ e,pf _ lo (hi-lo).toNat,?_,fun b hb=>?_,q⟩
 ·have e1:lo+((0:Nat):Int)*1=lo:=by simp
  have e2:(((hi-lo).toNat:Nat):Int)-((0:Nat):Int)=N9 lo hi 1:=by rw[rangeSize_one];split<;>omega
  show IsRangeIter _ _ (lo+((0:Nat):Int)*1) ((((hi-lo).toNat:Nat):Int)-((0:Nat):Int)) 1;rw[e1,e2];exact EU _ rfl
 ·have e:b=(s.heap.push {cls:=.type "range",data:=.fields #[.int lo t,.int hi u,.int 1 v]}).objs.size:=by simpa using hb
  subst e;exact I1.fpOk (Fb _)<|I1.hok.fresh<|Fb _
def u7(ta:TA):TI:=fun σ H R=>ta σ H fun vs H1=>∃j:Int,vs=[.int j]/\ -(2^62)<=j/\j<2^62/\R (CQ 0 j.toNat) H1
theorem i8{a:Expr}{ta:TA}{p pos:Pos}(hg:Gl X "range")(hm:X.mg "range"=none)(ha:PA X [a] ta)(hs:starEach [a] X.env=[(false,eval a X.env)]:=by rfl):PI X tg (.Call (.Name "range" p) [a] [] pos) (u7 ta):=by
 intro pins s σ H R I h;refine Call_<|jj I hg hm boot_range<|Hr (cb (ha pos pins s σ H _ I h) fun us s1⟨vs,H1,I1,r1,q1⟩=>?_) hs rfl;obtain⟨j,e,q1,q2,q⟩:=q1;subst e;cases r1 with
 |cons r rr=>
  cases rr;obtain⟨t,rfl⟩:=r;exact call_range_1 (u6 I1 (by omega) (by omega) q1 q2 (by simpa using q))
def u9(wi:TI)(g:TG)(tb:TS):TS:=fun D σ H=>wi σ H fun J H1=>∃W:Nat->Nat->St->Hp->Prop,(∃m,W 0 m σ H1)/\∀i m σ H,W i m σ H->
 (J.stop i H/\D.nx σ H)\/(J.go i H/\∃N:St->Hp->Prop,(∀σ' H',N σ' H'->∃m',m'<m/\W (i+1) m' σ' H')/\∀x H',J.yld i H x H'->g x σ H' fun σ2 H2=>tb {D with nx:=N,ct:=N,bk:=D.nx} σ2 H2)
def jl(fp:List Addr)(h:Heap):List (Addr×Obj):=fp.filterMap fun b=>(h.get? b).map fun o=>(b,o)
theorem gm{fp:List Addr}{h:Heap}{b:Addr}{o:Obj}(hb:b∈fp)(e:h.get? b=some o):(b,o)∈jl fp h:=IB.mpr ⟨b,hb,by rw[e];rfl⟩
theorem rL{fp:List Addr}{h:Heap}{p:Addr×Obj}(hp:p∈jl fp h):p.1∈fp/\h.get? p.1=some p.2:=by
 obtain⟨b,hb,e⟩:=IB.mp hp;cases q:h.get? b with
 |none=>rw[q]at e;cases e
 |some o=>
  rw[q]at e;have e':(b,o)=p:=Fy e;subst e';exact⟨hb,q⟩
theorem Inv.pinned{pins:List (Addr×Obj)}{σ:St}{H:Hp}{s:EM}{fp:List Addr}(I:Inv X pins σ H s)(hf:∀b∈fp,FpOk X pins H b)(ho:∀b∈fp,∃o,s.heap.get? b=some o/\∀v,o.data≠.cell v):Inv X (pins++jl fp s.heap) σ H s:=
 I.pins_of fun p hp=>(GF.mp hp).elim (fun z=>I.pin p<|Fq _ z) fun z=>by
  obtain⟨hb,e⟩:=rL z;obtain⟨f0,f1,f2,_⟩:=hf p.1 hb;obtain⟨o,e',d⟩:=ho p.1 hb;rw[e]at e';cases e';exact⟨e,f0,f1,f2,d⟩
theorem Inv.unpinned{pins pl:List (Addr×Obj)}{σ:St}{H:Hp}{s:EM}(I:Inv X (pins++pl) σ H s):Inv X pins σ H s:=I.pins_of fun p hp=>I.pin p<|Fq _<|Gy _ hp
theorem et{iter:Expr}{body:List Stmt}{wi:TI}{g:TG}{tb:TS}{pos:Pos}(hp:PassesOwn (model X.prog X.w) X.A X.env X.xe)(hc:X.calm=true)(hi:PI X tg iter wi)(hg:PG X tg g)(hb:PSs X body tb)
  (hs:∀x,foldedSetIterable iter X.env x=pure x:=by intro _;rfl):PS X (.For tg iter body [] pos) (u9 wi g tb):=by
 intro pins s σ H D I h;refine wpAny_For (cb (hi pins s σ H _ I h) fun v s1 h1=>cb h1 fun itv s2 h2=>?_) hs;obtain⟨it,fp,tn,J,H2,e,I2,T,st2,f2,W,⟨m0,w0⟩,turn⟩:=h2;subst e;have stat:∀{H':Hp},(∀b∈fp,H' b=none)->∀b∈fp,FpOk X pins H' b:=fun hn b hb=>⟨hn b hb,(f2 b hb).2⟩
 refine codeAny_forLoop_any (fun n s'=>∃i σ' H',Inv X pins σ' H' s'/\tn i s'.heap/\(∀b∈fp,H' b=none)/\W i n σ' H') ?_ m0 ⟨0,σ,H2,I2,st2,fun b hb=>(f2 b hb).1,w0⟩;rintro n s3 ⟨i,σ3,H3,I3,st3,fr3,w3⟩;rcases turn i n σ3 H3 w3 with⟨stop,qn⟩|⟨go,N,hN,step⟩
 ·refine Iu hp<|cb (T.done X rfl rfl rfl hc i pins s3 σ3 H3 X.xe I3 (stat fr3) st3 stop) fun r s4 zz=>?_;obtain⟨hr,I4⟩:=zz;subst hr;exact Jo ⟨σ3,H3,I4,qn⟩
 ·refine Iu hp<|cb (T.item X rfl rfl rfl hc i pins s3 σ3 H3 X.xe I3 (stat fr3) st3 go) fun r s4 zz=>?_;obtain⟨u,hr,h4⟩:=zz;subst hr;refine Iu hp<|cb h4 fun _ s5 zz=>?_;obtain⟨x,H5,I5,r5,y5,st5,fr5⟩:=zz;have I5':=I5.pinned (stat fr5)<|T.obj _ _ st5;refine Iu hp<|cb (hg _ s5 σ3 H5 x u _ I5' r5<|step x H5 y5) fun _ s6 zz=>?_;obtain⟨σ6,H6,I6,q6⟩:=zz;refine Iu hp<|cb (hb _ s6 σ6 H6 _ I6 q6) fun f s7 q7=>?_;have again:∀{σ7:St}{H7:Hp},Inv X (pins++jl fp s5.heap) σ7 H7 s7->N σ7 H7->∃m,m<n/\∃i σ' H',Inv X pins σ' H' s7/\tn i s7.heap/\(∀b∈fp,H' b=none)/\W i m σ' H':=fun{σ7 H7}I7 n7=>by
   obtain⟨m',hm,w7⟩:=hN σ7 H7 n7;refine⟨m',hm,i+1,σ7,H7,I7.unpinned,T.keep _ _ _ st5 fun b hb o e=>(I7.pin (b,o)<|Fq _<|Fq _<|gm hb e).1,fun b hb=>?_,w7⟩;obtain⟨o,e,d⟩:=T.obj _ _ st5 b hb;exact(I7.pin (b,o)<|Fq _<|Fq _<|gm hb e).2.1
  cases f with
  |next=>obtain⟨σ7,H7,I7,n7⟩:=q7;exact again I7 n7
  |cont=>obtain⟨σ7,H7,I7,n7⟩:=q7;exact again I7 n7
  |brk=>obtain⟨σ7,H7,I7,q7⟩:=q7;exact⟨σ7,H7,I7.unpinned,q7⟩
  |ret v=>obtain⟨x7,σ7,H7,I7,r7,q7⟩:=q7;exact⟨x7,σ7,H7,I7.unpinned,r7,q7⟩
end
abbrev R2:=V->V->Hp->VK->Prop
def OpR(X:Cx)(f:EI->EI->Sem EI)(r:R2):Prop:=
 ∀(pins:List (Addr×Obj))(s:EM)(σ:St)(H:Hp)(x y:V)(v u:EI)(Q:VK),Inv X pins σ H s->RelV x v->RelV y u->r x y H Q->
  wpAny (model X.prog X.w) X.A (f v u) (EP X pins σ Q) X.xe s
def CS(X:Cx)(f:EI->Sem EI)(r:V->Hp->VK->Prop):Prop:=
 ∀(pins:List (Addr×Obj))(s:EM)(σ:St)(H:Hp)(x:V)(v:EI)(Q:VK),Inv X pins σ H s->RelV x v->r x H Q->
  wpAny (model X.prog X.w) X.A (f v) (EP X pins σ Q) X.xe s
def eQ(X:Cx)(f:EI)(r:List V->Hp->VK->Prop):Prop:=
 ∀(pins:List (Addr×Obj))(s:EM)(σ:St)(H:Hp)(xs:List V)(us:List EI)(Q:VK),Inv X pins σ H s->Vals xs us->r xs H Q->
  wpAny (model X.prog X.w) X.A (call f us) (EP X pins σ Q) X.xe s
def CT(X:Cx)(r:V->Hp->(Bool->Hp->Prop)->Prop):Prop:=
 ∀(pins:List (Addr×Obj))(s:EM)(σ:St)(H:Hp)(x:V)(v:EI)(Q:Bool->Hp->Prop),Inv X pins σ H s->RelV x v->r x H Q->
  wpAny (model X.prog X.w) X.A (truthy v) (TP X pins σ Q) X.xe s
def dU(r:R2)(ta tb:TE):TE:=fun σ H Q=>ta σ H fun x H1=>tb σ H1 fun y H2=>r x y H2 Q
def gw(r:V->Hp->VK->Prop)(ta:TE):TE:=fun σ H Q=>ta σ H fun x H1=>r x H1 Q
def rI(C:Int->Int->Prop)(g:Int->Int->V):R2:=fun x y H Q=>∃i j,x=.int i/\y=.int j/\C i j/\Q (g i j) H
def fL(g:Int->Int->V):R2:=fun x y H Q=>∃i j,x=.int i/\y=.int j/\Q (g i j) H
def rU(g:Int->V):V->Hp->VK->Prop:=fun x H Q=>∃i,x=.int i/\Q (g i) H
section
variable{X:Cx}{a b c:Expr}{ta tb tc:TE}{pos:Pos}
theorem zy(ha:PE X a ta)(hb:PE X b tb){pins:List (Addr×Obj)}{s:EM}{σ:St}{H:Hp}{R:V->V->Hp->Prop}(I:Inv X pins σ H s)
  (h:ta σ H fun x H1=>tb σ H1 fun y H2=>R x y H2) {Q:EI->EM->Prop} {f:EI->EI->Sem EI}
  (hf:∀v u s2 x y H2,Inv X pins σ H2 s2->RelV x v->RelV y u->R x y H2->wpAny (model X.prog X.w) X.A (f v u) Q X.xe s2):
  wpAny (model X.prog X.w) X.A (eval a X.env) (fun v s₁=>wpAny (model X.prog X.w) X.A (eval b X.env) (fun u s₂=>wpAny (model X.prog X.w) X.A (f v u) Q X.xe s₂) X.xe s₁) X.xe s:=by
 refine cb (ha pins s σ H _ I h) fun v s1 zz=>?_;obtain⟨x,H1,I1,r1,q1⟩:=zz;refine cb (hb pins s1 σ H1 _ I1 q1) fun u s2 zz=>?_;obtain⟨y,H2,I2,r2,q2⟩:=zz;exact hf v u s2 x y H2 I2 r1 r2 q2
theorem ah{op:Nv}{r:R2}(ho:OpR X (binaryOp op) r)(ha:PE X a ta)(hb:PE X b tb):PE X (.BinOp a op b pos) (dU r ta tb):=by
 intro pins s σ H Q I h;exact wpAny_BinOp<|zy ha hb I h fun v u s2 x y H2 I2 rx ry q=>ho pins s2 σ H2 x y v u Q I2 rx ry q
theorem kE{op:UnaryOp}{r:V->Hp->VK->Prop}(ho:CS X (unaryOp op) r)(ha:PE X a ta):PE X (.UnaryOp op a pos) (gw r ta):=by
 intro pins s σ H Q I h;refine UnaryOp_<|cb (ha pins s σ H _ I h) fun v s1 zz=>?_;obtain⟨x,H1,I1,r1,q1⟩:=zz;exact ho pins s1 σ H1 x v Q I1 r1 q1
theorem C7{f:EI->EI->Sem EI}{C:Int->Int->Prop}{g:Int->Int->Int}
  (rule:∀(i j:Int)(t u:Tok)(s:EM)(Q:EI->EM->Prop)(E:EI->EM->Prop),C i j->Q (.int (g i j) s.toks) {s with toks:=s.toks+1}->wpAny (model X.prog X.w) X.A (f (.int i t)<|.int j u) Q E s):
  OpR X f (rI C fun i j=>.int<|g i j):=by
 intro pins s σ H x y v u Q I rx ry h;obtain⟨i,j,rfl,rfl,hc,q⟩:=h;obtain⟨t,rfl⟩:=rx;obtain⟨t',rfl⟩:=ry;exact rule i j t t' s _ _ hc ⟨.int<|g i j,H,I.tok _,⟨_,rfl⟩,q⟩
theorem AM{f:EI->EI->Sem EI}{g:Int->Int->Int}
  (rule:∀(i j:Int)(t u:Tok)(s:EM)(Q:EI->EM->Prop)(E:EI->EM->Prop),Q (.int (g i j) s.toks) {s with toks:=s.toks+1}->wpAny (model X.prog X.w) X.A (f (.int i t)<|.int j u) Q E s):
  OpR X f (fL fun i j=>.int<|g i j):=by
 intro pins s σ H x y v u Q I rx ry h;obtain⟨i,j,rfl,rfl,q⟩:=h;obtain⟨t,rfl⟩:=rx;obtain⟨t',rfl⟩:=ry;exact rule i j t t' s _ _ ⟨.int<|g i j,H,I.tok _,⟨_,rfl⟩,q⟩
theorem zz{f:EI->EI->Sem EI}{g:Int->Int->Bool}
  (rule:∀(i j:Int)(t u:Tok)(s:EM)(Q:EI->EM->Prop)(E:EI->EM->Prop),Q (.bool<|g i j) s->wpAny (model X.prog X.w) X.A (f (.int i t)<|.int j u) Q E s):
  OpR X f (fL fun i j=>.bl<|g i j):=by
 intro pins s σ H x y v u Q I rx ry h;obtain⟨i,j,rfl,rfl,q⟩:=h;obtain⟨t,rfl⟩:=rx;obtain⟨t',rfl⟩:=ry;exact rule i j t t' s _ _ ⟨.bl<|g i j,H,I,rfl,q⟩
def AN(i j:Int):Prop:=0<j/\j<1073741824
def AO(i j:Int):Prop:=0<=j/\j<=1000000/\i.natAbs<2^64
def CMul(i j:Int):Prop:=(-(2^64)<i/\i<2^64)\/(-(2^64)<j/\j<2^64)
theorem CMul.ok{i j:Int}(h:CMul i j):IntMulOk i j:=by
 rcases h with⟨h1,h2⟩|⟨h1,h2⟩
 ·exact .of_left<|MN h1 h2
 ·exact .of_right<|MN h1 h2
theorem bW:OpR X (binaryOp .Add) (fL fun i j=>.int<|i+j):=AM fun _ _ _ _ _ _ _ q=>add_int q
theorem gK:OpR X (binaryOp .Sub) (fL fun i j=>.int<|i-j):=AM fun _ _ _ _ _ _ _ q=>sub_int q
theorem jm:OpR X (binaryOp .Mult) (rI CMul fun i j=>.int<|i*j):=C7 fun _ _ _ _ _ _ _ hc q=>mul_int q hc.ok
theorem cz:OpR X (binaryOp .FloorDiv) (rI AN fun i j=>.int<|i/j):=C7 fun i j _ _ _ _ _ hc q=>by
 have h1:(0:Int)<j:=hc.1;have h2:j<1073741824:=hc.2;exact floordiv_int (by omega) (by rw[Int.fdiv_eq_ediv_of_nonneg i (by omega)];exact q) (.inl (PyProof.noPylong_small (by omega)))
theorem aV:OpR X (binaryOp .Mod) (rI (fun _ j=>0<j) fun i j=>.int<|i%j):=C7 fun i j _ _ _ _ _ hc q=>by
 have h1:(0:Int)<j:=hc;exact mod_int' (by omega) (by rw[Int.fmod_eq_emod_of_nonneg i (by omega)];exact q)
theorem ua:OpR X (binaryOp .Pow) (rI AO fun i j=>.int<|i^j.toNat):=C7 fun _ _ _ _ _ _ _ hc q=>pow_int_small hc.1 hc.2.1 hc.2.2 q
theorem Dz{f:EI->Sem EI}{g:Int->Int}
  (rule:∀(i:Int)(t:Tok)(s:EM)(Q:EI->EM->Prop)(E:EI->EM->Prop),Q (.int (g i) s.toks) {s with toks:=s.toks+1}->wpAny (model X.prog X.w) X.A (f<|.int i t) Q E s):
  CS X f (rU fun i=>.int<|g i):=by
 intro pins s σ H x v Q I rx h;obtain⟨i,rfl,q⟩:=h;obtain⟨t,rfl⟩:=rx;exact rule i t s _ _ ⟨.int<|g i,H,I.tok _,⟨_,rfl⟩,q⟩
theorem iG:CS X (unaryOp .USub) (rU fun i=>.int<|-i):=Dz fun _ _ _ _ _ q=>neg_int q
end
def dy:V->V->Bool
 | .non,.non=>true| .non,.int _=>true| .int _,.non=>true| .non,.bl _=>true| .bl _,.non=>true| .non,.str _=>true| .str _,.non=>true
 | .int _,.int _=>true| .bl _,.bl _=>true| .str _,.str _=>true| .byt _,.byt _=>true
 | .int _,.str _=>true| .str _,.int _=>true| .bl _,.str _=>true| .str _,.bl _=>true
 |_,_=>false
def gy:R2:=fun x y H Q=>dy x y=true/\Q (.bl<|decide<|x=y) H
def gE:R2:=fun x y H Q=>dy x y=true/\Q (.bl<|!decide (x=y)) H
theorem qp{i j:Int}:decide (V.int i=V.int j)=(i==j):=by
 rw[Gm];simp
theorem ub{i j:Bool}:decide (V.bl i=V.bl j)=(i==j):=by
 rw[Gm];simp
theorem qq{i j:Str}:decide (V.str i=V.str j)=(i==j):=by
 rw[Gm];simp
theorem qr{i j:Array UInt8}:decide (V.byt i=V.byt j)=(i.toList==j.toList):=by
 rw[Gm];cases i;cases j;simp
section
variable{X:Cx}{a b c:Expr}{ta tb tc:TE}{pos:Pos}
theorem aZ{pins:List (Addr×Obj)}{σ:St}{H:Hp}{s:EM}{Q:VK}{k k':Bool}(I:Inv X pins σ H s)(q:Q (.bl k) H)(e:k=k'):EP X pins σ Q (.bool k') s:=by
 subst e;exact⟨.bl k,H,I,rfl,q⟩
theorem cv:OpR X (compareOp .Eq) gy:=by
 intro pins s σ H x y v u Q I rx ry h;obtain⟨hs,q⟩:=h;cases x with
 |non=>
  cases rx;cases y with
  |non=>cases ry;exact MB (aZ I q (by simp))
  |bl j=>cases ry;exact MC (aZ I q (by simp))
  |int j=>obtain⟨t',rfl⟩:=ry;exact MO (aZ I q (by simp))
  |str j=>obtain⟨t',rfl⟩:=ry;exact MP (aZ I q (by simp))
  |_=>exact absurd (show false=true from hs) F7
 |bl i=>
  cases rx;cases y with
  |non=>cases ry;exact MD (aZ I q (by simp))
  |bl j=>cases ry;exact eq_bool<|aZ I q ub
  |str j=>obtain⟨t',rfl⟩:=ry;exact ME (aZ I q (by simp))
  |_=>exact absurd (show false=true from hs) F7
 |int i=>
  obtain⟨t,rfl⟩:=rx;cases y with
  |non=>cases ry;exact MQ (aZ I q (by simp))
  |int j=>obtain⟨t',rfl⟩:=ry;exact eq_int<|aZ I q qp
  |str j=>obtain⟨t',rfl⟩:=ry;exact MR (aZ I q (by simp))
  |_=>exact absurd (show false=true from hs) F7
 |str i=>
  obtain⟨t,rfl⟩:=rx;cases y with
  |non=>cases ry;exact MS (aZ I q (by simp))
  |bl j=>cases ry;exact MF (aZ I q (by simp))
  |int j=>obtain⟨t',rfl⟩:=ry;exact MT (aZ I q (by simp))
  |str j=>obtain⟨t',rfl⟩:=ry;exact eq_str<|aZ I q qq
  |_=>exact absurd (show false=true from hs) F7
 |byt i=>
  obtain⟨t,rfl⟩:=rx;cases y with
  |byt j=>obtain⟨t',rfl⟩:=ry;exact PySem.W.eq_bytes<|aZ I q qr
  |_=>exact absurd (show false=true from hs) F7
 |_=>cases y<;>exact absurd (show false=true from hs) F7
theorem yY:OpR X (compareOp .NotEq) gE:=by
 intro pins s σ H x y v u Q I rx ry h;obtain⟨hs,q⟩:=h;cases x with
 |non=>
  cases rx;cases y with
  |non=>cases ry;exact MG (aZ I q (by simp))
  |bl j=>cases ry;exact MH (aZ I q (by simp))
  |int j=>obtain⟨t',rfl⟩:=ry;exact MU (aZ I q (by simp))
  |str j=>obtain⟨t',rfl⟩:=ry;exact MV (aZ I q (by simp))
  |_=>exact absurd (show false=true from hs) F7
 |bl i=>
  cases rx;cases y with
  |non=>cases ry;exact MI (aZ I q (by simp))
  |bl j=>cases ry;exact ne_bool<|aZ I q<|congrArg not ub
  |str j=>obtain⟨t',rfl⟩:=ry;exact MJ (aZ I q (by simp))
  |_=>exact absurd (show false=true from hs) F7
 |int i=>
  obtain⟨t,rfl⟩:=rx;cases y with
  |non=>cases ry;exact MW (aZ I q (by simp))
  |int j=>obtain⟨t',rfl⟩:=ry;exact ne_int<|aZ I q<|congrArg not qp
  |str j=>obtain⟨t',rfl⟩:=ry;exact MX (aZ I q (by simp))
  |_=>exact absurd (show false=true from hs) F7
 |str i=>
  obtain⟨t,rfl⟩:=rx;cases y with
  |non=>cases ry;exact MY (aZ I q (by simp))
  |bl j=>cases ry;exact MK (aZ I q (by simp))
  |int j=>obtain⟨t',rfl⟩:=ry;exact MZ (aZ I q (by simp))
  |str j=>obtain⟨t',rfl⟩:=ry;exact ne_str<|aZ I q<|congrArg not qq
  |_=>exact absurd (show false=true from hs) F7
 |byt i=>
  obtain⟨t,rfl⟩:=rx;cases y with
  |byt j=>obtain⟨t',rfl⟩:=ry;exact PySem.W.ne_bytes<|aZ I q<|congrArg not qr
  |_=>exact absurd (show false=true from hs) F7
 |_=>cases y<;>exact absurd (show false=true from hs) F7
theorem lP:OpR X (compareOp .Lt) (fL fun i j=>.bl<|decide<|i<j):=zz fun _ _ _ _ _ _ _ q=>lt_int q
theorem nQ:OpR X (compareOp .Gt) (fL fun i j=>.bl<|decide<|j<i):=zz fun _ _ _ _ _ _ _ q=>gt_int q
theorem uc:OpR X (compareOp .GtE) (fL fun i j=>.bl<|decide<|j<=i):=zz fun _ _ _ _ _ _ _ q=>ge_int q
theorem rM:OpR X (compareOp .In) (fun x y H Q=>∃i j,x=.str i/\y=.str j/\Q (.bl<|!(GV j i 0 j.length 1).isEmpty) H):=by
 intro pins s σ H x y v u Q I rx ry h;obtain⟨i,j,rfl,rfl,q⟩:=h;obtain⟨t,rfl⟩:=rx;obtain⟨t',rfl⟩:=ry;exact in_str<|aZ I q rfl
theorem op_isN:OpR X (compareOp .Is) (fun x y H Q=>y=.non/\Q (.bl<|decide<|x=.non) H):=by
 intro pins s σ H x y v u Q I rx ry h;obtain⟨rfl,q⟩:=h;cases ry;refine is_none_gen<|aZ I q ?_
 cases x<;>first
  |(cases rx;rfl)
  |(obtain⟨t,rfl⟩:=rx;rfl)
theorem xi:OpR X (compareOp .IsNot) (fun x y H Q=>y=.non/\Q (.bl<|!decide (x=.non)) H):=by
 intro pins s σ H x y v u Q I rx ry h;obtain⟨rfl,q⟩:=h;cases ry;refine isnot_none_gen<|aZ I q ?_
 cases x<;>first
  |(cases rx;rfl)
  |(obtain⟨t,rfl⟩:=rx;rfl)
theorem mZ:OpR X (compareOp .NotIn) (fun x y H Q=>∃i j,x=.str i/\y=.str j/\Q (.bl<|!(!(GV j i 0 j.length 1).isEmpty)) H):=by
 intro pins s σ H x y v u Q I rx ry h;obtain⟨i,j,rfl,rfl,q⟩:=h;obtain⟨t,rfl⟩:=rx;obtain⟨t',rfl⟩:=ry;exact notIn_str<|aZ I q rfl
theorem OpR.or{f:EI->EI->Sem EI}{r r':R2}(h:OpR X f r)(h':OpR X f r'):OpR X f (fun x y H Q=>r x y H Q\/r' x y H Q):=by
 intro pins s σ H x y v u Q I rx ry q;rcases q with q|q
 ·exact h pins s σ H x y v u Q I rx ry q
 ·exact h' pins s σ H x y v u Q I rx ry q
theorem aJ(b:Expr){op:NT}(h:op≠.In:=by decide)(h2:op≠.NotIn:=by decide):behindInMarks op b=false:=by
 have e1:(op==CmpOp.In)=false:=by cases op<;>first|rfl|exact absurd rfl h
 have e2:(op==CmpOp.NotIn)=false:=by cases op<;>first|rfl|exact absurd rfl h2
 cases b<;>simp[behindInMarks,e1,e2]
theorem eA{op:NT}{r:R2}(ho:OpR X (compareOp op) r)(ha:PE X a ta)(hb:PE X b tb)(hm:behindInMarks op b=false):PE X (.Compare a [op] [b] pos) (dU r ta tb):=by
 intro pins s σ H Q I h;exact wpAny_Compare1 (zy ha hb I h fun v u s2 x y H2 I2 rx ry q=>ho pins s2 σ H2 x y v u Q I2 rx ry q) hm
def bR(t:TE):TT:=fun σ H Q=>t σ H fun x H'=>∃k,x=.bl k/\Q k H'
theorem aI{op:NT}{r:R2}(ho:OpR X (compareOp op) r)(ha:PE X a ta)(hb:PE X b tb)(hm:behindInMarks op b=false):PT X (.Compare a [op] [b] pos) (bR<|dU r ta tb):=by
 intro pins s σ H Q I h;refine KC (cb (ha pins s σ H _ I h) fun v s1⟨x,H1,I1,r1,q1⟩=>cb (hb pins s1 σ H1 _ I1 q1) fun u s2⟨y,H2,I2,r2,q2⟩=>
  cb (ho pins s2 σ H2 x y v u _ I2 r1 r2 q2) fun c s3⟨z,H3,I3,r3,k,e,q3⟩=>?_) hm
 subst e;cases r3;exact GZ ⟨H3,I3,q3⟩
def zA(K:EH)(x:V)(H:Hp)(k:Bool):Prop:=
 match x with
 | .non=>k=false
 | .bl b=>k=b
 | .int i=>k=(i != 0)
 | .str y=>y.length<=sizeLine/\k=((y.length:Int) != 0)
 | .byt y=>y.size<=sizeLine/\k=((y.size:Int) != 0)
 | .ref p=>(∃xs,SqL K H p xs/\k= !xs.isEmpty)\/(∃xs,SqT K H p xs/\k= !xs.isEmpty)\/∃kvs,H p=some (.dK kvs)/\k= !kvs.isEmpty
 |_=>False
theorem ph{κ:Type}{kvs:List (κ×V)}{vs:List (κ×EI)}(r:KV kvs vs):(!vs.isEmpty)= !kvs.isEmpty:=by
 cases r<;>rfl
theorem kF{xs:List V}{its:List EI}(r:Vals xs its):(!its.toArray.isEmpty)= !xs.isEmpty:=by
 cases r<;>simp
theorem jn:(sizeLine:Nat)<2^63:=by rw[Gi];decide
theorem zB:CT X (fun x H Q=>∃k,zA X.K x H k/\Q k H):=by
 intro pins s σ H x v Q I rx h;obtain⟨k,e,q⟩:=h;have hl:=jn;have hs:sizeLine=16777216:=Gi;cases x with
 |non=>
  cases rx;have e':k=false:=e;subst e';exact truthy_none ⟨H,I,q⟩
 |bl b=>
  cases rx;have e':k=b:=e;subst e';exact GZ ⟨H,I,q⟩
 |int i=>
  obtain⟨t,rfl⟩:=rx;have e':k=(i != 0):=e;subst e';exact PySem.P.truthy_int ⟨H,I,q⟩
 |str y=>
  obtain⟨t,rfl⟩:=rx;obtain⟨hy,e'⟩:y.length<=sizeLine/\k=((y.length:Int) != 0):=e;subst e';exact PySem.P.truthy_str (by omega) ⟨H,I.tok _,q⟩
 |byt y=>
  obtain⟨t,rfl⟩:=rx;obtain⟨hy,e'⟩:y.size<=sizeLine/\k=((y.size:Int) != 0):=e;subst e';exact PySem.W.truthy_bytes (by omega) ⟨H,I.tok _,q⟩
 |ref p=>
  cases rx;have e':(∃xs,SqL X.K H p xs/\k= !xs.isEmpty)\/(∃xs,SqT X.K H p xs/\k= !xs.isEmpty)\/∃kvs,H p=some (.dK kvs)/\k= !kvs.isEmpty:=e;rcases e' with⟨xs,hx,e'⟩|⟨xs,hx,e'⟩|⟨kvs,hx,e'⟩
  ·subst e';obtain⟨its,r,pl,hz⟩:=I.list hx;have hlen:=r.length;exact wpAny_truthy_list pl.isList (by simp only[F4];omega) ⟨H,I.tok _,by rw[kF r];exact q⟩
  ·subst e';obtain⟨its,r,pl,hz⟩:=I.tuple hx;have hlen:=r.length;exact truthy_tuple pl (by simp only[F4];omega) ⟨H,I.tok _,by rw[kF r];exact q⟩
  ·subst e';obtain⟨hz,hS,vs,r,m⟩:kvs.length<=sizeLine/\(p==sysModules)=false/\∃vs,KV kvs vs/\s.heap.DictOf (bK X.prog X.w) p vs:=I.hok p _ hx;have hlen:kvs.length=vs.length:=Paired.length r;exact wpAny_truthy_dict hS m (by omega) ⟨H,I.tok _,by rw[ph r];exact q⟩
 |_=>exact(show False from e).elim
theorem ud(ha:PE X a ta)(he:∀whole,isTrue a X.env whole=(do let v <-whole;standAt a.pos;holding [v] (truthy v))):
  PT X a (fun σ H Q=>ta σ H fun x H'=>∃k,zA X.K x H' k/\Q k H'):=by
 intro pins s σ H Q I h;exact isTrue_plain (cb (ha pins s σ H _ I h) fun v s1⟨x,H1,I1,r1,q1⟩=>zB pins s1 σ H1 x v Q I1 r1 q1)<|he _
theorem bu:OpR X (binaryOp .Add) (fun x y H Q=>∃i j,x=.str i/\y=.str j/\i.length+j.length<=sizeLine/\Q (.str<|i++j) H):=by
 intro pins s σ H x y v u Q I rx ry h;obtain⟨i,j,rfl,rfl,hz,q⟩:=h;obtain⟨t,rfl⟩:=rx;obtain⟨t',rfl⟩:=ry;exact add_str (fun t' tk=>⟨.str<|i++j,H,I.tok _,⟨_,rfl⟩,q⟩) hz
theorem gL{x:V}{us:List EI}(r:Vals [x] us):∃u,us=[u]/\RelV x u:=by
 cases r with
 |cons r1 r2=>cases r2;exact⟨_,rfl,r1⟩
theorem nR{x y:V}{us:List EI}(r:Vals [x,y] us):∃u w',us=[u,w']/\RelV x u/\RelV y w':=by
 cases r with
 |cons r1 r2=>
  cases r2 with
  |cons r3 r4=>cases r4;exact⟨_,_,rfl,r1,r3⟩
theorem gM:eQ X (.builtin "abs") (fun xs H Q=>∃i,xs=[.int i]/\Q (.int (if i<0 then -i else i)) H):=by
 intro pins s σ H xs us Q I r h;obtain⟨i,rfl,q⟩:=h;obtain⟨u,rfl,t,rfl⟩:=gL r;exact call_abs_int fun u tk=>⟨.int (if i<0 then -i else i),H,I.tok _,⟨_,rfl⟩,q⟩
theorem jo(hc:X.calm=true):eQ X (.builtin "max") (fun xs H Q=>∃i j,xs=[.int i,.int j]/\Q (.int (if j>i then j else i)) H):=by
 intro pins s σ H xs us Q I r h;obtain⟨i,j,rfl,q⟩:=h;obtain⟨u,w',rfl,⟨t,rfl⟩,⟨t',rfl⟩⟩:=nR r;refine max_two_ints (I.ok.hd hc) fun h' tk k=>⟨_,H,I.kept k,?_,q⟩
 by_cases hj:j>i;·rw[if_pos hj,if_pos hj];exact⟨_,rfl⟩
 ·rw[if_neg hj,if_neg hj];exact⟨_,rfl⟩
theorem rN(hc:X.calm=true):eQ X (.builtin "min") (fun xs H Q=>∃i j,xs=[.int i,.int j]/\Q (.int (if j<i then j else i)) H):=by
 intro pins s σ H xs us Q I r h;obtain⟨i,j,rfl,q⟩:=h;obtain⟨u,w',rfl,⟨t,rfl⟩,⟨t',rfl⟩⟩:=nR r;refine min_two_ints (I.ok.hd hc) fun h' tk k=>⟨_,H,I.kept k,?_,q⟩
 by_cases hj:j<i;·rw[if_pos hj,if_pos hj];exact⟨_,rfl⟩
 ·rw[if_neg hj,if_neg hj];exact⟨_,rfl⟩
theorem lQ:eQ X (.type "int") (fun xs H Q=>(∃i,xs=[.int i]/\Q (.int i) H)\/∃k,xs=[.bl k]/\Q (.int (if k then 1 else 0)) H):=by
 intro pins s σ H xs us Q I r h;rcases h with⟨i,rfl,q⟩|⟨k,rfl,q⟩
 ·obtain⟨u,rfl,t,rfl⟩:=gL r;exact call_int_int ⟨.int i,H,I,⟨_,rfl⟩,q⟩
 ·obtain⟨u,rfl,r1⟩:=gL r;cases r1;exact call_int_bool ⟨.int (if k then 1 else 0),H,I.tok _,⟨_,rfl⟩,q⟩
def nS(K:EH)(x:V)(H:Hp)(n:Nat):Prop:=
 match x with
 | .str y=>y.length<=sizeLine/\n=y.length
 | .byt y=>y.size<=sizeLine/\n=y.size
 | .ref p=>(∃xs,SqL K H p xs/\n=xs.length)\/∃xs,SqT K H p xs/\n=xs.length
 |_=>False
theorem ue:eQ X (.builtin "len") (fun xs H Q=>∃x n,xs=[x]/\nS X.K x H n/\Q (.int n) H):=by
 intro pins s σ H xs us Q I r h;obtain⟨x,n,rfl,e,q⟩:=h;obtain⟨u,rfl,rx⟩:=gL r;have hl:=jn;have hs:sizeLine=16777216:=Gi;cases x with
 |str y=>
  obtain⟨t,rfl⟩:=rx;obtain⟨hy,e'⟩:y.length<=sizeLine/\n=y.length:=e;subst e';exact len_str (by omega) ⟨.int _,H,I.tok _,⟨_,rfl⟩,q⟩
 |byt y=>
  obtain⟨t,rfl⟩:=rx;obtain⟨hy,e'⟩:y.size<=sizeLine/\n=y.size:=e;subst e';exact PySem.W.len_bytes (by omega) ⟨.int _,H,I.tok _,⟨_,rfl⟩,q⟩
 |ref p=>
  cases rx;have e':(∃xs,SqL X.K H p xs/\n=xs.length)\/∃xs,SqT X.K H p xs/\n=xs.length:=e;rcases e' with⟨xs,hx,e'⟩|⟨xs,hx,e'⟩
  ·subst e';obtain⟨its,r',pl,hz⟩:=I.list hx;have hlen:=r'.length;exact Calls.call_len_list pl.isList (by simp only[F4];omega) ⟨.int xs.length,H,I.tok _,⟨_,by simp only[F4];rw[hlen]⟩,q⟩
  ·subst e';obtain⟨its,r',pl,hz⟩:=I.tuple hx;have hlen:=r'.length;exact len_tuple pl (by simp only[F4];omega) ⟨.int xs.length,H,I.tok _,⟨_,by simp only[F4];rw[hlen]⟩,q⟩
 |_=>exact(show False from e).elim
end
structure ObjM(h:Heap)(x dx C:Addr)(mA:Str->Option EI):Prop where
 obj:h.get? x=some (Hl C dx)
 ns:h.Ns1 dx mA
 ne:dx≠x
theorem rO{h:Heap}{dx:Addr}{mA:Str->Option EI}(n:h.Ns1 dx mA):∃od,h.get? dx=some od/\∀name,JC name od=some (mA name):=by
 obtain⟨o,es,ep,ho,hd,hk,_,hm⟩:=n;refine⟨o,ho,fun name=>?_⟩;have e:=hm name;unfold nsFind findBy at e;rw[<-Array.find?_toList]at e;unfold JC;rw[hd];dsimp only;split
 ·rename_i y q;rw[q]at e;exact congrArg some e
 ·rename_i q;rw[q]at e;have a:es.toList.any (·.refKey)=false:=by
   rw[List.any_eq_false];intro y hy;obtain⟨z,t,hkey⟩:=hk y<|KU.mp hy;simp[DictEntry.refKey,hkey]
  have a':¬es.toList.any (·.refKey)=true:=by rw[a];exact F7
  rw[if_neg a'];exact congrArg some e
theorem ObjM.look{h:Heap}{x dx C:Addr}{mA:Str->Option EI}(I:ObjM h x dx C mA):∃od,IM h x (Hl C dx) C (some od)/\∀name,JC name od=some (mA name):=
 let ⟨od,ho,hl⟩:=rO I.ns
 ⟨od,⟨I.obj,rfl,rfl,ho⟩,hl⟩
section
variable{prog:Ff}{w:Fp}{A:Fu}{E:EI->EM->Prop}{s:EM}{K:EH}{x dx C f:Addr}{mA:Str->Option EI}{name:Str}{v:EI}
theorem xj{expr:Bool}{Q:EI->EM->Prop}(X:K.In s.heap)(I:ObjM s.heap x dx C mA)(hg:HG K C name=true)(hh:Ij K C=true)
  (ha:EO K (.ref C) name=some none) (hv:mA name=some v) (hv':LX v=true) (h:Q v {s with toks:=s.toks+1}):
  wpAny (model prog w) A (getAttr (.ref x) name expr) Q E s:=by
 obtain⟨od,J,hl⟩:=I.look;exact PySem.W.get_value X J (Jv hg).1 (PySem.W.findObj_own hh ha rfl (by rw[hl,hv])) hv' h
theorem uf{pl:Sem Bool}{Q:EI×List EI->EM->Prop}(X:K.In s.heap)(I:ObjM s.heap x dx C mA)(hg:HG K C name=true)
  (hf:EO K (.ref C) name=some (some<|.ref f)) (ht:Ge K (.ref f)=true) (hv:mA name=none) (h:Q (.ref f,[.ref x]) s):
  wpAny (model prog w) A (getMethod (.ref x) name pl) Q E s:=by
 obtain⟨od,J,hl⟩:=I.look;exact PySem.W.method_fn X J (Jv hg).1 (Jv hg).2 hf (beq_iff_eq.mp ht) (by show(JC name od).map (·.isSome)=some false;rw[hl,hv];rfl) h
theorem xl{ns:List Str}{Q:Unit->EM->Prop}(X:K.In s.heap)(I:ObjM s.heap x dx C mA)
  (hs:EO K (.ref C) "__setattr__"=some (some<|.builtin "object.__setattr__")) (hp:IP K C=true) (ht:Kx K C name=some none) (hh:Ij K C=true)
  (hw:Lw mA ns) (hsz:ns.length<=sizeLine)
  (h:∀h',ObjM h' x dx C (fun y=>if y=name then some v else mA y)->Fj dx s.heap h'->Q () {s with heap:=h',toks:=s.toks+2}):
  wpAny (model prog w) A (setAttr (.ref x) name v) Q E s:=by
 obtain⟨od,J,hl⟩:=I.look;refine PySem.W.set_plain X J hs<|PySem.W.osa_open (s:={s with toks:=s.toks+1}) (r:=none) X J hp ht fun b=>?_;obtain⟨cd,hc,hd'⟩:=PySem.W.any_some hh;have hx:s.heap.get? x=some ⟨.ref C,some dx,.plain, #[]⟩:=I.obj;refine EE<|ES<|EE<|EE<|Ml hx<|EE<|NJ (s:={s with toks:=s.toks+1}) (PySem.W.looks_clsIn X hc) ?_;rw[hd'];refine ES (a:=some dx)<|EE<|ES<|EE ?_;refine wpAny_nsSet1 (s:={s with toks:=s.toks+1}) I.ns fun h' hn2 hs2=>?_;obtain⟨oD,esD,epD,hoD,hdD,hcD⟩:=hn2.count<|NU name v hw;refine EE (wpAny_lookBehind hoD (by rw[hdD];exact pastItsLine_dict (GH hcD (by rw[FV];omega))) ?_);exact ES<|h _ ⟨(hs2.2 _<|Gh I.ne).trans I.obj,hn2,I.ne⟩ hs2
theorem ug{R:Nc->EM->Prop}{vs:List EI}{kw:List (Str×EI)}(X:K.In s.heap)(hm:Jp K C=true)
  (hi:EO K (.ref C) "__init__"=some (some<|.ref f)) (hf:PySem.W.typeIn K (.ref f)=some (.type "function"))
  (h:codeAny (model prog w) (A.under<|.builtin "type.__call__" ⟨.ref C::vs,kw⟩) (.call (.ref f) ⟨.ref (s.heap.objs.size+1)::vs,kw⟩) (PySem.W.InitBack (s.heap.objs.size+1) R)
   {s with heap:=(s.heap.push GN).push (Hl C s.heap.objs.size)}):
  codeAny (model prog w) A (.call (.ref C) ⟨vs,kw⟩) R s:=by
 obtain⟨hh,g,d,t,os⟩:=s;exact PySem.W.make_core (PySem.W.makes_of X hm) (JD X hi) (fun self=>PySem.W.bind_fn X self hf) (.inl rfl) h
end
def eE(f:Str)(v:V):List (Str×V)->List (Str×V)
 | []=>[(f,v)]
 |(g,x)::r=>if g=f then(g,v)::r else(g,x)::eE f v r
theorem jF(f g:Str)(v:V):∀fs:List (Str×V),(eE f v fs).lookup g=if g=f then some v else fs.lookup g
 | []=>by
  show GB g [(f,v)]=_;by_cases h:g=f
  ·have hb:(g == f)=true:=beq_iff_eq.mpr h;simp only[GB,hb,if_pos h]
  ·have hb:(g == f)=false:=beq_eq_false_iff_ne.mpr h;simp only[GB,hb,if_neg h]
 |(k,x)::r=>by
  have ih:=jF f g v r;rw[show eE f v ((k,x)::r)=(if k=f then(k,v)::r else(k,x)::eE f v r)from rfl];by_cases hk:k=f
  ·rw[if_pos hk];by_cases h:g=k
   ·have hb:(g == k)=true:=beq_iff_eq.mpr h;simp only[GB,hb,if_pos<|h.trans hk]
   ·have hb:(g == k)=false:=beq_eq_false_iff_ne.mpr h;simp only[GB,hb,if_neg (fun e:g=f=>h<|e.trans hk.symm)]
  ·rw[if_neg hk];by_cases h:g=k
   ·have hb:(g == k)=true:=beq_iff_eq.mpr h;simp only[GB,hb,if_neg (fun e:g=f=>hk<|h.symm.trans e)]
   ·have hb:(g == k)=false:=beq_eq_false_iff_ne.mpr h;simp only[GB,hb];exact ih
theorem jq(f:Str)(v:V):∀fs:List (Str×V),f∈(eE f v fs).map (·.1)/\∀g,g∈fs.map (·.1)->g∈(eE f v fs).map (·.1)
 | []=>⟨by simp[eE],fun g h=>by simp at h⟩
 |(k,x)::r=>by
  obtain⟨i1,i2⟩:=jq f v r;rw[show eE f v ((k,x)::r)=(if k=f then(k,v)::r else(k,x)::eE f v r)from rfl];by_cases hk:k=f
  ·rw[if_pos hk];subst hk;exact⟨by simp,fun g h=>by simpa using h⟩
  ·rw[if_neg hk];refine⟨?_,fun g h=>?_⟩
   ·rw[FZ];exact F5 _ i1
   ·rw[FZ]at h ⊢;rcases F9.mp h with e|e
    ·exact F9.mpr<|.inl e
    ·exact F5 _<|i2 g e
theorem jG(f:Str)(v:V):∀fs:List (Str×V),(eE f v fs).length<=fs.length+1
 | []=>by simp[eE]
 |(k,x)::r=>by
  have ih:=jG f v r;rw[show eE f v ((k,x)::r)=(if k=f then(k,v)::r else(k,x)::eE f v r)from rfl];by_cases hk:k=f;·rw[if_pos hk,FV,FV];omega
  ·rw[if_neg hk,FV,FV];omega
theorem RelO.some_of{v:V}{o:Option EI}(r:RelO (some v) o):∃u,o=some u/\RelV v u:=by
 cases o with
 |none=>exact(show False from r).elim
 |some u=>exact⟨u,rfl,r⟩
theorem RelO.none_of{o:Option EI}(r:RelO none o):o=none:=by
 cases o with
 |none=>rfl
 |some u=>exact(show False from r).elim
theorem rP{v:V}{u:EI}(r:RelV v u):LX u=true:=by
 cases v with
 |non=>cases (show u=Fv from r);rfl
 |bl b=>cases (show u=Lj b from r);rfl
 |int i=>obtain⟨t,e⟩:=(show ∃t,u=Jz i t from r);cases e;rfl
 |str x=>obtain⟨t,e⟩:=(show ∃t,u=L5 x t from r);cases e;rfl
 |byt b=>obtain⟨t,e⟩:=(show ∃t,u=Nt b t from r);cases e;rfl
 |flt b=>obtain⟨t,e⟩:=(show ∃t,u=M6 b t from r);cases e;rfl
 |ref a=>cases (show u=F6 a from r);rfl
 |ty n=>cases (show u=NI n from r);rfl
section
variable{P:Ff}{w:Fp}{H H':Hp}{h h':Heap}{a C dx:Addr}{fs fs':List (Str×V)}
theorem jZ(hok:HOk P w H h)(e:H a=some (.ins C dx fs)):∃mA,ObjM h a dx C mA/\(∀f,RelO (fs.lookup f)<|mA f)/\Lw mA (fs.map (·.1))/\fs.length<=1000/\H dx=some (.own a):=by
 obtain⟨d,z,ne,ob,mA,n,r,q⟩:=(show ObjOk P w H h a (.ins C dx fs)from hok a _ e)
 exact⟨mA,⟨ob,n,ne⟩,r,q,z,d⟩
end
structure Cls(K:EH)(C:Addr):Prop where
 pg:HG K C L6=true
 hd:Ij K C=true
 po:IP K C=true
 sa:EO K (.ref C) "__setattr__"=some (some<|.builtin "object.__setattr__")
theorem Cls.get{K:EH}{C:Addr}(c:Cls K C)(f:Str):HG K C f=true:=c.pg
def NoAttr(K:EH)(C:Addr)(f:Str):Prop:=EO K (.ref C) f=some none
theorem NoAttr.taker{K:EH}{C:Addr}{f:Str}(n:NoAttr K C f):Kx K C f=some none:=by
 unfold Kx;rw[show EO K (.ref C) f=some none from n];rfl
structure Meth(K:EH)(C:Addr)(m:Str)(f:Addr):Prop where
 at_:EO K (.ref C) m=some (some<|.ref f)
 fn:Ge K (.ref f)=true
 kp:Fi K (.ref f)=true
section
variable{X:Cx}{pins:List (Addr×Obj)}{σ:St}{H:Hp}{s:EM}{a C dx:Addr}{fs:List (Str×V)}{f:Str}{v:V}{A:Fu}{E:EI->EM->Prop}
theorem pj{b:Bool}{Q:EI->EM->Prop}(I:Inv X pins σ H s)(e:H a=some (.ins C dx fs))(c:Cls X.K C)(n:NoAttr X.K C f)(l:fs.lookup f=some v)
  (h:∀u s',Inv X pins σ H s'->RelV v u->Q u s'):wpAny (model X.prog X.w) A (getAttr (.ref a) f b) Q E s:=by
 obtain⟨mA,O,r,_,_,_⟩:=jZ I.hok e;obtain⟨u,hu,ru⟩:=RelO.some_of (v:=v) (o:=mA f) (by rw[<-l];exact r f);exact xj I.kIn O (c.get f) c.hd n hu (rP ru)<|h u _ (I.tok _) ru
theorem kG{m:Str}{g:Addr}{pl:Sem Bool}{Q:EI×List EI->EM->Prop}(I:Inv X pins σ H s)(e:H a=some (.ins C dx fs))(c:Cls X.K C)(k:Meth X.K C m g)(l:fs.lookup m=none)
  (h:Q (.ref g,[.ref a]) s):wpAny (model X.prog X.w) A (getMethod (.ref a) m pl) Q E s:=by
 obtain⟨mA,O,r,_,_,_⟩:=jZ I.hok e;have hn:mA m=none:=RelO.none_of (by rw[<-l];exact r m);exact uf I.kIn O (c.get m) k.at_ k.fn hn h
theorem pq{y:V}{u:EI}{Q:Unit->EM->Prop}(I:Inv X pins σ H s)(e:H a=some (.ins C dx fs))(c:Cls X.K C)(n:NoAttr X.K C f)(hl:fs.length<1000)(ry:RelV y u)
  (h:∀s',Inv X pins σ (cy H a<|.ins C dx<|eE f y fs) s'->Q () s'):wpAny (model X.prog X.w) A (setAttr (.ref a) f u) Q E s:=by
 obtain⟨mA,O,r,wi,_,ho⟩:=jZ I.hok e;have hz:(fs.map (·.1)).length<=sizeLine:=by rw[Fz,Gi];omega
 refine xl I.kIn O c.sa c.po n.taker c.hd wi hz fun h' O' sb=>h _ ?_;have hd:∃o,h'.get? dx=some o:=let ⟨o,_,_,e',_⟩:=O'.ns;⟨o,e'⟩;refine I.write (x:=a) (e:=dx) (by rw[e];exact HC) (.inr ho) (fun b q hb z=>(sb.2 b hb).trans z) hd ?_;refine⟨by rw[ao O.ne];exact ho,?_,O.ne,O'.obj,_,O'.ns,fun g=>?_,fun g hg=>?_⟩;·have:=jG f y fs;omega
 ·show RelO ((eE f y fs).lookup g) (if g=f then some u else mA g);rw[jF];by_cases q:g=f;·rw[if_pos q,if_pos q];exact ry
  ·rw[if_neg q,if_neg q];exact r g
 ·by_cases q:g=f;·rw[q];exact(jq f y fs).1
  ·refine(jq f y fs).2 g (wi g fun z=>hg ?_);show(if g=f then some u else mA g)=none;rw[if_neg q];exact z
theorem Inv.made(I:Inv X pins σ H s):Inv X pins σ (cy (cy H s.heap.objs.size<|.own<|s.heap.objs.size+1) (s.heap.objs.size+1)<|.ins C s.heap.objs.size [])
  {s with heap:=(s.heap.push GN).push (Hl C s.heap.objs.size)}:=by
 have e1:(s.heap.push GN).get? s.heap.objs.size=some GN:=EU s.heap rfl;have e2:((s.heap.push GN).push (Hl C s.heap.objs.size)).get? (s.heap.objs.size+1)=some (Hl C s.heap.objs.size):=by
  have:=EU (s.heap.push GN) (o:=Hl C s.heap.objs.size) rfl
  rwa [FH]at this
 have e3:(s.heap.push GN).Ns s.heap.objs.size (fun _=>none):=⟨GN, #[],_,e1,rfl,(fun e he=>absurd he (by simp)),fun _=>rfl⟩
 have I1:=I.laid (a:=s.heap.objs.size) (o:=.own<|s.heap.objs.size+1) (h':=s.heap.push GN) (t':=s.toks) (fun b u q=>EJ _ q) (Fb _) ⟨_,e1⟩;refine I1.laid (a:=s.heap.objs.size+1) (o:=.ins C s.heap.objs.size []) (t':=s.toks) (fun b u q=>EJ _ q) (Nd<|FH _ _) ?_;have ne:s.heap.objs.size≠s.heap.objs.size+1:=Fd<|GI _;refine⟨by rw[ao ne,aq],Jg _,ne,e2,fun _=>none,(Heap.Ns1.of_empty e3).at fun o q=>EJ _ q,fun _=>HC,fun y hy=>absurd rfl hy⟩
theorem xm{prog:Ff}{w:Fp}{env:Env}{e:Expr}{f:Str}{pos:Pos}{s:EM}{Q:EI->EM->Prop}(hb:attributeBase e f env (eval e env)=eval e env)
  (h:wpAny (model prog w) A (eval e env) (fun o s₁=>wpAny (model prog w) A (getAttr o f true) Q E s₁) E s):wpAny (model prog w) A (eval (.Attribute e f pos) env) Q E s:=
 Attribute_any_ h (by rw[arm_eval_Attribute,hb])
end
def uh(K:EH)(ta:TE)(f:Str):TE:=fun σ H Q=>ta σ H fun x H1=>∃a C dx fs v,x=.ref a/\H1 a=some (.ins C dx fs)/\Cls K C/\NoAttr K C f/\fs.lookup f=some v/\Q v H1
def xo(K:EH)(ta tv:TE)(f:Str):TS:=fun D σ H=>tv σ H fun y H1=>ta σ H1 fun x H2=>∃a C dx fs,x=.ref a/\H2 a=some (.ins C dx fs)/\Cls K C/\NoAttr K C f/\fs.length<1000/\
 D.nx σ (cy H2 a<|.ins C dx<|eE f y fs)
def zC(X:Cx)(op:Nv)(rd:V->V->Hp->VK->Prop):Prop:=
 ∀(pins:List (Addr×Obj))(s:EM)(σ:St)(H:Hp)(x y:V)(u v:EI)(Q:VK),Inv X pins σ H s->RelV x u->RelV y v->rd x y H Q->wpAny (model X.prog X.w) X.A (inplaceOp op u v) (EP X pins σ Q) X.xe s
section
variable{X:Cx}{o e value:Expr}{f:Str}{pos pos' tpos:Pos}{ta tv:TE}
theorem zD(he:PE X e ta)(hb:attributeBase e f X.env (eval e X.env)=eval e X.env):PE X (.Attribute e f pos) (uh X.K ta f):=by
 intro pins s σ H Q I h;refine xm hb<|cb (he pins s σ H _ I h) fun u s1 zz=>?_;obtain⟨x,H1,I1,rx,a,C,dx,fs,v,ex,ea,c,n,l,q⟩:=zz;subst ex;obtain rfl:u=F6 a:=rx;exact pj I1 ea c n l fun u' s2 I2 ru=>⟨v,H1,I2,ru,q⟩
theorem fq(ha:PE X o ta)(hv:PE X value tv)(hs:swapsWith value (some<|.Attribute o f pos') pos.line X.env=pure false):PS X (.Assign [.Attribute o f pos'] value pos) (xo X.K ta tv f):=by
 intro pins s σ H D I h;refine plainObj_wpAny_Assign_Attribute (cb (hv pins s σ H _ I h) fun u s1⟨y,H1,I1,ry,q⟩=>cb (ha pins s1 σ H1 _ I1 q) fun ov s2⟨x,H2,I2,rx,a,C,dx,fs,ex,ea,c,n,l,q2⟩=>?_) hs;subst ex;obtain rfl:ov=F6 a:=rx;exact pq I2 ea c n l ry fun s3 I3=>⟨σ,_,I3,q2⟩
def CU:V->V->Hp->VK->Prop:=fun x y H Q=>∃i j,x=.int i/\y=.int j/\Q (.int<|i-j) H
theorem zE:zC X .Sub CU:=by
 rintro pins s σ H x y u v Q I rx ry ⟨i,j,rfl,rfl,q⟩;obtain⟨t,rfl⟩:=(show ∃t,u=Jz i t from rx)
 obtain⟨t',rfl⟩:=(show ∃t',v=Jz j t' from ry)
 exact Nk ⟨.int<|i-j,H,I.tok _,⟨_,rfl⟩,q⟩
end
section
variable{X:Cx}{pins:List (Addr×Obj)}{σ:St}{H:Hp}{s:EM}{A:Fu}{E:EI->EM->Prop}{Q:EI->EM->Prop}{c:EI}{b:Bool}
inductive TyOf(K:EH)(H:Hp):V->EI->Prop where
 |non:TyOf K H .non (.type "NoneType")
 |bl (x:Bool):TyOf K H (.bl x) (.type "bool")
 |int (i:Int):TyOf K H (.int i) (.type "int")
 |str (x:Str):TyOf K H (.str x) (.type "str")
 |flt (x:UInt64):TyOf K H (.flt x) (.type "float")
 |lst {a:Addr} {xs:List V} (e:H a=some (.lst xs)):TyOf K H (.ref a) (.type "list")
 |frz {a:Addr} {o:Obj} {xs:List V} (e:H a=some (.frz o<|.lst xs)):TyOf K H (.ref a) (.type "list")
 |tup {a:Addr} {xs:List V} (e:SqT K H a xs):TyOf K H (.ref a) (.type "tuple")
 |dK {a:Addr} {kvs:List (Key×V)} (e:H a=some (.dK kvs)):TyOf K H (.ref a) (.type "dict")
 |dT {a:Addr} {kvs:List (List Key×V)} (e:H a=some (.dT kvs)):TyOf K H (.ref a) (.type "dict")
 | ins {a C dx:Addr} {fs:List (Str×V)} (e:H a=some (.ins C dx fs)) (cl:Cls K C) (ha:EO K (.ref C) "__class__" =some (some<|.builtin "object.__class__"))
   (hn:Ly K (.builtin "object.__class__") "__get__"=some (some<|.builtin "getset_descriptor.__get__")) (htk:Mc K (.builtin "object.__class__")=some true)
   (hm:PySem.W.mroIn K C (.type "object")=some true):TyOf K H (.ref a) (.ref C)
theorem rQ{x:V}{u t:EI}(I:Inv X pins σ H s)(rx:RelV x u)(ty:TyOf X.K H x t)(e:Fw X.K t c=some b)(h:∀tk,Q (.bool b) {s with toks:=tk}):
  wpAny (model X.prog X.w) A (call (.builtin "isinstance") [u,c]) Q E s:=by
 cases ty with
 |non=>cases (show u=Fv from rx);exact Gn PySem.W.kitx_none I.kIn HC e (fun z=>nomatch z) h
 |bl y=>cases (show u=Lj y from rx);exact Gn PySem.W.kitx_bool I.kIn HC e (fun z=>nomatch z) h
 |int i=>obtain⟨t,q⟩:=(show ∃t,u=Jz i t from rx);cases q;exact Gn PySem.W.kitx_int I.kIn HC e (fun z=>nomatch z) h
 |str y=>obtain⟨t,q⟩:=(show ∃t,u=L5 y t from rx);cases q;exact Gn PySem.W.kitx_str I.kIn HC e (fun z=>nomatch z) h
 |flt y=>obtain⟨t,q⟩:=(show ∃t,u=M6 y t from rx);cases q;exact Gn PySem.W.kitx_float I.kIn HC e (fun z=>nomatch z) h
 | @lst a xs ea=>
  cases (show u=F6 a from rx);obtain⟨_,_,n,_,h1⟩:=(show ObjOk X.prog X.w H s.heap a (.lst xs)from I.hok a _ ea)
  exact Gn Lz I.kIn ⟨_,h1,rfl⟩ e (fun z=>nomatch z) h
 | @frz a ob xs ea=>
  cases (show u=F6 a from rx);obtain⟨_,_,_,n,_,h1⟩:=(show ObjOk X.prog X.w H s.heap a (.frz ob<|.lst xs)from I.hok a _ ea)
  exact Gn Lz I.kIn ⟨_,h1,rfl⟩ e (fun z=>nomatch z) h
 | @tup a xs ea=>
  cases (show u=F6 a from rx);obtain⟨_,_,p,_⟩:=I.tuple ea;obtain⟨o,h1,h2,_⟩:=p;exact Gn PySem.W.kitx_tuple I.kIn ⟨o,h1,h2⟩ e (fun z=>nomatch z) h
 | @dK a kvs ea=>
  cases (show u=F6 a from rx);obtain⟨_,_,vs,_,p⟩:=(show ObjOk X.prog X.w H s.heap a (.dK kvs)from I.hok a _ ea)
  obtain⟨o,es,ep,h1,h2,_⟩:=p;exact Gn LA I.kIn ⟨o,h1,h2.1⟩ e (fun z=>nomatch z) h
 | @dT a kvs ea=>
  cases (show u=F6 a from rx);obtain⟨_,_,xs,_,o,es,ep,h1,h2,_⟩:=(show ObjOk X.prog X.w H s.heap a (.dT kvs)from I.hok a _ ea)
  exact Gn LA I.kIn ⟨o,h1,h2.1⟩ e (fun z=>nomatch z) h
 | @ins a C dx fs ea cl ha hn htk hm=>
  cases (show u=F6 a from rx);obtain⟨mA,O,_⟩:=jZ I.hok ea;obtain⟨od,J,_⟩:=O.look;exact Gn (PySem.W.kitx_own (cl.get _) cl.hd ha hn htk hm) I.kIn J e (fun z=>nomatch z) h
end
structure Room(k:Nat)(A:Fu):Prop where
 hd:A.handled=none
 dp:A.depth+3*k+5<recursionLimit
 un:A.units+16*k+200<cLine
theorem Room.mono{j k:Nat}{A:Fu}(r:Room k A)(h:j<=k):Room j A:=⟨r.hd,by have:=r.dp;omega,by have:=r.un;omega⟩
theorem Room.deeper{k:Nat}{A:Fu}(r:Room (k+1) A)(env:Env):Room k (A.deeper env):=
 ⟨r.hd,by have:=r.dp;show A.depth+1+3*k+5<_;omega,by have:=r.un;show A.units+3+16*k+200<_;omega⟩
theorem pw{A:Fu}{C:Addr}{us:List EI}{kw:List (Str×EI)}:(A.under<|.builtin "type.__call__" ⟨.ref C::us,kw⟩).depth=A.depth+1:=by
 first|rfl|simp[LB,Code.weight,Code.isCreation,Code.isGuard,Code.isCaller,Nw,LC,guardIds]
theorem pz{A:Fu}{C:Addr}{us:List EI}{kw:List (Str×EI)}:(A.under<|.builtin "type.__call__" ⟨.ref C::us,kw⟩).units=A.units+1:=by
 first|rfl|simp[LB,Code.cUnits,Nw,LC]
theorem Room.make{k:Nat}{A:Fu}(r:Room (k+1) A)(C:Addr)(us:List EI)(kw:List (Str×EI)):Room k (A.under<|.builtin "type.__call__" ⟨.ref C::us,kw⟩):=
 ⟨r.hd,by have:=r.dp;rw[pw];omega,by have:=r.un;rw[pz];omega⟩
theorem Room.depth{k:Nat}{A:Fu}(r:Room k A):A.depth<recursionLimit:=by have:=r.dp;omega
theorem Room.units0{k:Nat}{A:Fu}(r:Room k A):A.units<cLine:=by have:=r.un;omega
def aO:TA:=fun _ H Q=>Q [] H
def ai(ta:TE)(tr:TA):TA:=fun σ H Q=>ta σ H fun x H1=>tr σ H1 fun xs H2=>Q (x::xs) H2
section
variable{X:Cx}{e:Expr}{es:List Expr}{te:TE}{t:TA}{pos:Pos}
theorem a5:PA X [] aO:=fun _ _ _ _ H Q I h=>LD ⟨[],H,I,.nil,h⟩
theorem a4(ha:PE X e te)(hr:PA X es t)(hs:starEach (e::es) X.env=(false,eval e X.env)::starEach es X.env:=by rfl):PA X (e::es) (ai te t):=by
 intro pos pins s σ H Q I h;rw[hs];show wpAny _ _ (spliced ((false,eval e X.env)::backTo pos (starEach es X.env))) _ _ s;refine JE<|cb (ha pins s σ H _ I h) fun u s1 zz=>?_;obtain⟨x,H1,I1,r1,q1⟩:=zz;refine cb (hr pos pins s1 σ H1 _ I1 q1) fun us s2 zz=>?_;obtain⟨xs,H2,I2,r2,q2⟩:=zz;exact⟨x::xs,H2,I2,.cons r1 r2,q2⟩
def cS(t:TA):TE:=fun σ H Q=>t σ H fun xs H1=>xs.length<=sizeLine/\∀p,H1 p=none->Q (.ref p) (cy H1 p<|.tup xs)
def cX(t:TA):TE:=fun σ H Q=>t σ H fun xs H1=>xs.length<=sizeLine/\∀p,H1 p=none->Q (.ref p) (cy H1 p<|.lst xs)
theorem aS{x1}(h:PA X es t):PE X (.Tuple es x1 pos) (cS t):=by
 intro pins s σ H Q I hq;refine wpAny_Tuple_spliced (cb (h pos pins s σ H _ I hq) fun us s1⟨xs,H1,I1,r,z,q⟩=>⟨by rw[<-r.length];exact z,?_⟩);have hf:H1 s1.heap.objs.size=none:=I1.hok.fresh<|Fb _;refine⟨.ref s1.heap.objs.size,cy H1 s1.heap.objs.size<|.tup xs,I1.laid (t':=s1.toks) (fun b u e=>EJ _ e) (Fb _) ?_,rfl,q _ hf⟩;exact⟨z,us,r,⟨_,EU _ rfl,⟨rfl,rfl⟩,_,rfl⟩⟩
theorem bX(h:PA X es t):PE X (.List es pos) (cX t):=by
 intro pins s σ H Q I hq;refine wpAny_List_spliced (cb (h pos pins s σ H _ I hq) fun us s1⟨xs,H1,I1,r,z,q⟩=>⟨by rw[<-r.length];exact z,?_⟩);have hf:H1 s1.heap.objs.size=none:=I1.hok.fresh<|Fb _;refine⟨.ref s1.heap.objs.size,cy H1 s1.heap.objs.size<|.lst xs,I1.laid (t':=s1.toks) (fun b u e=>EJ _ e) (Fb _) ?_,rfl,q _ hf⟩;exact⟨z,us,0,r,EU _ rfl⟩
end
abbrev Sp:=List V->Hp->VK->XK->Prop
abbrev CXT:=List Env->Hp->EM->XK->EI->EM->Prop
structure Env0(P:Ff)(w:Fp)(K:EH)(mg:Str->Option EI)(base:Heap)(A:Fu)(outer:List Env)(s:EM)(H:Hp):Prop where
 frames:A.frames=some outer
 mod:Mod K mg base
 bs:∀b o,base.get? b=some o->s.heap.get? b=some o/\H b=none
 bsz:base.objs.size<=s.heap.objs.size
 funs:s.heap.FunFrames base outer
 frf:∀b∈frs outer,H b=none
 hok:HOk P w H s.heap
 bare:Jw s.gens
def CE(outer:List Env)(P:Ff)(w:Fp)(H:Hp)(s:EM)(Q:VK)(u:EI)(s':EM):Prop:=
 ∃v H',s'.os=s.os/\Jw s'.gens/\Un (frs outer) [] H H' s.heap s'.heap/\HOk P w H' s'.heap/\RelV v u/\Q v H'
def CR(CX:CXT)(outer:List Env)(P:Ff)(w:Fp)(H:Hp)(s:EM)(Q:VK)(E:XK)(r:Nc)(s':EM):Prop:=
 match r with
 | .ok (.ret u)=>CE outer P w H s Q u s'
 | .ok _=>False
 | .error e=>CX outer H s E e s'
structure FnOk(P:Ff)(w:Fp)(K:EH)(mg:Str->Option EI)(base:Heap)(CX:CXT)(k:Nat)(f:Addr)(fd:F8)(ps:List Str)(sp:Sp):Prop where
 len:∀vs H Q E,sp vs H Q E->vs.length=ps.length
 run:∀(A:Fu)(outer:List Env)(s:EM)(H:Hp)(args:Args)(us:List EI)(vs:List V)(Q:VK)(E:XK),Room k A->Env0 P w K mg base A outer s H->L7 s fd args (ps.zip us)->Vals vs us->sp vs H Q E->
  codeAny (model P w) A (.call (.ref f) args) (CR CX outer P w H s Q E) s
theorem FnOk.imp{P:Ff}{w:Fp}{K:EH}{mg:Str->Option EI}{base:Heap}{CX:CXT}{k:Nat}{f:Addr}{fd:F8}{ps:List Str}{sp sp':Sp}(F:FnOk P w K mg base CX k f fd ps sp)
  (h:∀vs H Q E,sp' vs H Q E->sp vs H Q E):FnOk P w K mg base CX k f fd ps sp':=
 ⟨fun vs H Q E q=>F.len vs H Q E<|h _ _ _ _ q,fun A outer s H args us vs Q E hr he hb hv hs=>F.run A outer s H args us vs Q E hr he hb hv<|h _ _ _ _ hs⟩
theorem Env0.make{P:Ff}{w:Fp}{K:EH}{mg:Str->Option EI}{base:Heap}{A:Fu}{outer:List Env}{s:EM}{H:Hp}(e:Env0 P w K mg base A outer s H)(C:Addr)(us:List EI)(kw:List (Str×EI)):
  Env0 P w K mg base (A.under<|.builtin "type.__call__" ⟨.ref C::us,kw⟩) outer s H:=⟨by first|exact e.frames|(simpa [LB,Code.envs,LC,pushEnvs] using e.frames),e.mod,e.bs,e.bsz,e.funs,e.frf,e.hok,e.bare⟩
section
variable{X:Cx}{pins:List (Addr×Obj)}{σ:St}{H:Hp}{s s':EM}
theorem Inv.env0(I:Inv X pins σ H s):Env0 X.prog X.w X.K X.mg X.base X.A X.stack s H:=
 ⟨I.ok.frames,I.ok.mod,I.bs,GH I.ok.bsz I.sz,I.stack,I.stkFree,I.hok,I.bare⟩
theorem Inv.after{Q:VK}{u:EI}(I:Inv X pins σ H s)(h:CE X.stack X.prog X.w H s Q u s'):EP X pins σ Q u s':=by
 obtain⟨v,H',os,bare,un,hok,r,q⟩:=h;obtain⟨hh,g,d,t,os'⟩:=s';obtain rfl:os'=s.os:=os;exact⟨v,H',I.call (h':=hh) (g':=g) (d':=d) (t':=t) (ch:=[]) un hok bare (fun b z=>absurd z (by simp)),r,q⟩
end
def aR(sp:Sp)(dvs:List V)(E:XK)(t:TA):TE:=fun σ H Q=>t σ H fun vs H1=>sp (vs++dvs) H1 Q E
def fY(C:Addr)(m:Str)(sp:Sp)(dvs:List V)(E:XK)(ta:TE)(t:TA):TE:=fun σ H Q=>ta σ H fun x H1=>∃a dx fs,x=.ref a/\H1 a=some (.ins C dx fs)/\fs.lookup m=none/\
 t σ H1 fun vs H2=>sp (x::(vs++dvs)) H2 Q E
def qt(C:Addr)(sp:Sp)(dvs:List V)(E:XK)(t:TA):TE:=fun σ H Q=>t σ H fun vs H1=>∀x dx,H1 x=none->H1 dx=none->dx≠x->
 sp (.ref x::(vs++dvs)) (cy (cy H1 dx<|.own x) x<|.ins C dx []) (fun v H2=>v=.non/\Q (.ref x) H2) E
def Binds(K:EH)(fd:F8)(ps:List Str)(ds:List EI):Prop:=
 ∀(s:EM)(us:List EI),K.In s.heap->(us++ds).length=ps.length->L7 s fd ⟨us,[]⟩ (ps.zip<|us++ds)
theorem Binds.all{K:EH}{fd:F8}{ps:List Str}(h:∀us:List EI,us.length=ps.length->bindArgs fd ⟨us,[]⟩=pure (ps.zip us)):Binds K fd ps []:=fun s us _ hl=>by
 rw[FG]at hl ⊢;exact .of_eq<|h us hl
def fg(CX:CXT)(X:Cx)(E:XK):Prop:=∀(pins:List (Addr×Obj))(σ:St)(H:Hp)(s:EM)(e:EI)(s':EM),Inv X pins σ H s->CX X.stack H s E e s'->X.xe e s'
section
variable{X:Cx}{CX:CXT}{k:Nat}{f C:Addr}{fd:F8}{ps:List Str}{sp:Sp}{dvs:List V}{ds:List EI}{E:XK}{x m:Str}{p pos apos:Pos}{e o:Expr}{es:List Expr}{ta:TE}{t:TA}
theorem pA{pins:List (Addr×Obj)}{σ:St}{H:Hp}{s:EM}{Q:VK}{us:List EI}{vs:List V}(F:FnOk X.prog X.w X.K X.mg X.base CX k f fd ps sp)(hr:Room k X.A)(hb:Binds X.K fd ps ds)(hd:Vals dvs ds)(hx:fg CX X E)
  (I:Inv X pins σ H s) (r:Vals vs us) (h:sp (vs++dvs) H Q E):wpAny (model X.prog X.w) X.A (call (.ref f) us) (EP X pins σ Q) X.xe s:=by
 have r2:Vals (vs++dvs) (us++ds):=r.append hd;have hl:(us++ds).length=ps.length:=by rw[<-r2.length];exact F.len _ _ _ _ h
 refine Ko<|Jx (F.run X.A X.stack s H ⟨us,[]⟩ (us++ds) (vs++dvs) Q E hr I.env0 (hb s us I.kIn hl) r2 h) fun r s' hq=>?_;cases r with
 |error e=>exact hx pins σ H s e s' I hq
 |ok fl=>
  cases fl with
  |ret u=>exact I.after hq
  |next=>exact GA hq
  |brk=>exact GA hq
  |cont=>exact GA hq
theorem qu(F:FnOk X.prog X.w X.K X.mg X.base CX k f fd ps sp)(hr:Room k X.A)(hg:Gl X x)(hm:X.mg x=some (.ref f))(hk:Fi X.K (.ref f)=true)(hb:Binds X.K fd ps ds)(hd:Vals dvs ds)(hx:fg CX X E)
  (ha:PA X (e::es) t) (hdb:(x==("__debug__" :Str))=false:=by decide) (he:starEach (e::es) X.env=(false,eval e X.env)::starEach es X.env:=by rfl) (hpl:(backTo pos<|starEach es X.env).any (·.1)=false:=by rfl):
  PE X (.Call (.Name x p) (e::es) [] pos) (aR sp dvs E t):=by
 intro pins s σ H Q I h;refine HR<|i6 I hg hm ?_ hdb;refine ID (h₀:=X.base) I.ok.mod.kin hk (cb (ha pos pins s σ H _ I h) fun us s1⟨vs,H1,I1,r,q⟩=>⟨I1.kIn,?_⟩) he hpl;exact pA F hr hb hd hx I1 r q
theorem qv{pl:Sem Bool}(he:PE X o ta)(c:Cls X.K C)(hm:Meth X.K C m f)(F:FnOk X.prog X.w X.K X.mg X.base CX k f fd ps sp)(hr:Room k X.A)(hb:Binds X.K fd ps ds)(hd:Vals dvs ds)(hx:fg CX X E)(ha:PA X (e::es) t)
  (hst:starEach (e::es) X.env=(false,eval e X.env)::starEach es X.env:=by rfl) (hpl:(backTo pos<|starEach es X.env).any (·.1)=false:=by rfl)
  (ht:eval (.Call (.Attribute o m apos) (e::es) [] pos) X.env=(do
   let ov <-eval o X.env
   standAt apos.atName
   let (f,first) <-holding [ov] (getMethod ov m pl)
   callWith pos f first (backTo pos (starEach (e::es) X.env)) (backToKw pos (keywordEach [] X.env))):=by rfl):
  PE X (.Call (.Attribute o m apos) (e::es) [] pos) (fY C m sp dvs E ta t):=by
 intro pins s σ H Q I h;refine KD (pl:=pl) (cb (he pins s σ H _ I h) fun u s1⟨x,H1,I1,rx,a,dx,fs,ex,ea,l,q⟩=>?_) ht;subst ex;obtain rfl:u=F6 a:=rx;refine kG I1 ea c hm l ?_;refine ID (first:=[.ref a]) (h₀:=X.base) I.ok.mod.kin hm.kp (cb (ha pos pins s1 σ H1 _ I1 q) fun us s2⟨vs,H2,I2,r,q2⟩=>⟨I2.kIn,?_⟩) hst hpl;exact pA (us:=.ref a::us) (vs:=.ref a::vs) F hr hb hd hx I2 (.cons rfl r) q2
theorem nU{pl:Sem Bool}(he:PE X o ta)(c:Cls X.K C)(hm:Meth X.K C m f)(F:FnOk X.prog X.w X.K X.mg X.base CX k f fd ps sp)(hr:Room k X.A)(hb:Binds X.K fd ps ds)(hd:Vals dvs ds)(hx:fg CX X E)
  (ht:eval (.Call (.Attribute o m apos) [] [] pos) X.env=(do
   let ov <-eval o X.env
   standAt apos.atName
   let (f,first) <-holding [ov] (getMethod ov m pl)
   callWith pos f first (backTo pos (starEach [] X.env)) (backToKw pos (keywordEach [] X.env))):=by rfl):
  PE X (.Call (.Attribute o m apos) [] [] pos) (fY C m sp dvs E ta aO):=by
 intro pins s σ H Q I h;refine KD (pl:=pl) (cb (he pins s σ H _ I h) fun u s1⟨x,H1,I1,rx,a,dx,fs,ex,ea,l,q⟩=>?_) ht;subst ex;obtain rfl:u=F6 a:=rx;refine kG I1 ea c hm l ?_;exact PySem.W.callWith_K0 (first:=[.ref a]) I1.kIn hm.kp<|pA (us:=[.ref a]) (vs:=[.ref a]) F hr hb hd hx I1 (.cons rfl .nil) q
structure Mk(K:EH)(C f:Addr):Prop where
 makes:Jp K C=true
 init:EO K (.ref C) "__init__"=some (some<|.ref f)
 fn:Ge K (.ref f)=true
 kp:Fi K (.ref C)=true
theorem ui{pins:List (Addr×Obj)}{σ:St}{H:Hp}{s:EM}{Q:VK}{us:List EI}{vs:List V}(M:Mk X.K C f)(F:FnOk X.prog X.w X.K X.mg X.base CX k f fd ps sp)(hr:Room (k+1) X.A)(hb:Binds X.K fd ps ds)(hd:Vals dvs ds)
  (hx:fg CX X E) (I:Inv X pins σ H s) (r:Vals vs us)
  (h:∀x dx,H x=none->H dx=none->dx≠x->sp (.ref x::(vs++dvs)) (cy (cy H dx<|.own x) x<|.ins C dx []) (fun v H2=>v=.non/\Q (.ref x) H2) E):
  wpAny (model X.prog X.w) X.A (call (.ref C) us) (EP X pins σ Q) X.xe s:=by
 have hq:=h (s.heap.objs.size+1) s.heap.objs.size (I.hok.fresh<|Jh _) (I.hok.fresh<|Fb _)<|Fd<|GI _;have I2:=Inv.made (C:=C) I;have r2:Vals (V.ref (s.heap.objs.size+1)::(vs++dvs)) (F6 (s.heap.objs.size+1)::(us++ds)):=.cons rfl<|r.append hd;have hl:(F6 (s.heap.objs.size+1)::us++ds).length=ps.length:=by
  have e:=r2.length;rw[F.len _ _ _ _ hq]at e;exact e.symm
 refine Ko (ug (f:=f) I.kIn M.makes M.init (beq_iff_eq.mp M.fn) (Jx (F.run _ X.stack _ _ ⟨F6 (s.heap.objs.size+1)::us,[]⟩ (F6 (s.heap.objs.size+1)::(us++ds)) _ _ E (hr.make C us [])
  (I2.env0.make C us []) (hb _ (F6 (s.heap.objs.size+1)::us) I2.kIn hl) r2 hq) fun r s' hq'=>?_))
 cases r with
 |error e=>exact hx pins σ _ _ e s' I2 hq'
 |ok fl=>
  cases fl with
  |ret u=>
   obtain⟨v,H',I3,rv,ev,q3⟩:=I2.after hq';subst ev;exact⟨rv,⟨V.ref<|s.heap.objs.size+1,H',I3,rfl,q3⟩⟩
  |next=>exact GA hq'
  |brk=>exact GA hq'
  |cont=>exact GA hq'
theorem xp(M:Mk X.K C f)(F:FnOk X.prog X.w X.K X.mg X.base CX k f fd ps sp)(hr:Room (k+1) X.A)(hg:Gl X x)(hm:X.mg x=some (.ref C))(hb:Binds X.K fd ps ds)(hd:Vals dvs ds)(hx:fg CX X E)
  (ha:PA X (e::es) t) (hdb:(x==("__debug__" :Str))=false:=by decide) (he:starEach (e::es) X.env=(false,eval e X.env)::starEach es X.env:=by rfl) (hpl:(backTo pos<|starEach es X.env).any (·.1)=false:=by rfl):
  PE X (.Call (.Name x p) (e::es) [] pos) (qt C sp dvs E t):=by
 intro pins s σ H Q I h;refine HR<|i6 I hg hm ?_ hdb;refine ID (h₀:=X.base) I.ok.mod.kin M.kp (cb (ha pos pins s σ H _ I h) fun us s1⟨vs,H1,I1,r,q⟩=>⟨I1.kIn,?_⟩) he hpl;exact ui M F hr hb hd hx I1 r q
end
structure FnScope(N P:List Str)(sc:HM):Prop where
 kind:sc.kind=.function
 co:sc.isCoroutine=false
 gen:sc.isGenerator=false
 nd:N.Nodup
 pre:N.take P.length=P
 par:∀x∈P,sc.names.lookup x=some .local\/sc.names.lookup x=some .cell
 nofree:∀y∈sc.names,y.2≠.free
theorem lS{kindOf:Str->Option HH}{x:Str}:∀{binds:List (Str×EI)}{m:Str->Option EI},(∀v,(x,v)∉binds)->bindL kindOf binds m x=m x
 | [],_,_=>rfl
 |(n,v)::r,m,h=>by
  unfold bindL;rw[lS fun w hw=>h w<|F5 _ hw];split
  ·have:x≠n:=by rintro rfl;exact h v EZ
   simp[this]
  ·rfl
theorem lT{kindOf:Str->Option HH}{x:Str}:∀{binds:List (Str×EI)}{m:Str->Option EI},(∀v,(x,v)∉binds)->bindC kindOf binds m x=m x
 | [],_,_=>rfl
 |(n,v)::r,m,h=>by
  unfold bindC;rw[lT fun w hw=>h w<|F5 _ hw];split;·rfl
  ·have:x≠n:=by rintro rfl;exact h v EZ
   simp[this]
theorem lU{kindOf:Str->Option HH}{x:Str}{v:EI}:∀{P:List Str}{vs:List EI}{i:Nat}{m:Str->Option EI},P.Nodup->P[i]? =some x->vs[i]? =some v->kindOf x=some .local->
  bindL kindOf (P.zip vs) m x=some v
 | [],_,_,_,_,h,_,_=>by simp at h
 |_::_,[],_,_,_,_,h,_=>by simp at h
 |p::P,w::vs,0,m,nd,h1,h2,hk=>by
  simp at h1 h2;subst h1;subst h2;show bindL kindOf ((p,w)::P.zip vs) m p=_;unfold bindL;rw[lS fun v hv=>(G8.mp nd).1 (GG hv).1,if_pos hk];simp
 |p::P,w::vs,i+1,m,nd,h1,h2,hk=>by
  show bindL kindOf ((p,w)::P.zip vs) m x=_;unfold bindL;exact lU (i:=i) (G8.mp nd).2 (by simpa using h1) (by simpa using h2) hk
theorem lV{kindOf:Str->Option HH}{x:Str}{v:EI}:∀{P:List Str}{vs:List EI}{i:Nat}{m:Str->Option EI},P.Nodup->P[i]? =some x->vs[i]? =some v->kindOf x≠some .local->
  bindC kindOf (P.zip vs) m x=some v
 | [],_,_,_,_,h,_,_=>by simp at h
 |_::_,[],_,_,_,_,h,_=>by simp at h
 |p::P,w::vs,0,m,nd,h1,h2,hk=>by
  simp at h1 h2;subst h1;subst h2;show bindC kindOf ((p,w)::P.zip vs) m p=_;unfold bindC;rw[lT fun v hv=>(G8.mp nd).1 (GG hv).1,if_neg hk];simp
 |p::P,w::vs,i+1,m,nd,h1,h2,hk=>by
  show bindC kindOf ((p,w)::P.zip vs) m x=_;unfold bindC;exact lV (i:=i) (G8.mp nd).2 (by simpa using h1) (by simpa using h2) hk
def start(N:List Str)(vs:List V):St:=vs.map some++Fg (N.length-vs.length) none
def kH(CX:CXT)(P:Ff)(w:Fp)(K:EH)(mg:Str->Option EI)(base:Heap)(N:List Str)(qual:Str)(scope:HM)(f:Addr)(cd:EI)(A:Fu)(outer:List Env)(s:EM)(H:Hp)(E:XK):Cx where
 prog:=P
 w:=w
 K:=K
 mg:=mg
 base:=base
 A:=A.deeper<|envOfC qual scope s.heap.objs.size f cd
 N:=N
 s₀:=s
 H₀:=H
 env:=envOfC qual scope s.heap.objs.size f cd
 outer:=outer
 stack:=envOfC qual scope s.heap.objs.size f cd::outer
 ex:=[]
 calm:=true
 fn:=fun _=>true
 pn:=[]
 xe:=fun e s'=>wpAny (model P w) (A.deeper<|envOfC qual scope s.heap.objs.size f cd) (leaving (envOfC qual scope s.heap.objs.size f cd) e) (fun _ s''=>CX outer H s E e s'') (fun e' s''=>CX outer H s E e' s'') s'
theorem nV{sc:HM}{n:Nat}{x:Str}(h:sc.names.lookup x=some .cell):∃c,(cellsFrom n sc.names []).lookup x=some c:=by
 have q:=HS sc.names n []<|.inl h;exact K8.mp q
theorem lW{CX:CXT}{P:Ff}{w:Fp}{K:EH}{mg:Str->Option EI}{base:Heap}{N ps:List Str}{qual:Str}{scope:HM}{f:Addr}{cd:EI}{A:Fu}{outer:List Env}{s s1:EM}{H:Hp}{E:XK}{us:List EI}{vs:List V}
  (S:FnScope N ps scope) (hd:A.handled=none) (e0:Env0 P w K mg base A outer s H) (hl:vs.length=ps.length) (r:Vals vs us)
  (x:InCallC s s.heap.objs.size (bindL (envOfC qual scope s.heap.objs.size f cd).kindOf (ps.zip us) fun _=>none) (cellsFrom (s.heap.objs.size+1) scope.names []) (bindC (envOfC qual scope s.heap.objs.size f cd).kindOf (ps.zip us) fun _=>none) s1):
  Inv (kH CX P w K mg base N qual scope f cd A outer s H E) [] (start N vs) H s1:=by
 have hpl:ps.length<=N.length:=by have:=congrArg GC S.pre;rw[HI]at this;omega
 obtain⟨h1,tk,rfl,hk⟩:=x.done;have noA:∀b:Addr,b∉(kH CX P w K mg base N qual scope f cd A outer s H E).ex:=fun b z=>absurd (show b∈([]:List Addr)from z) (by simp);refine⟨⟨e0.mod,S.kind,rfl,rfl,Fb _,fun y z c h1 h2=>?_,fun y hy=>?_,fun y c _ h=>?_,fun _=>hd,KW e0.frames,.inr ⟨rfl,rfl⟩,fun b z=>absurd z<|noA b,e0.bs,e0.bsz,fun b _ _=>noA b,fun b z=>absurd z<|noA b,e0.funs,e0.frf⟩,
  rfl,e0.bare,Un.kept hk,⟨_,x.toInCall.ns,fun i y v h1 h2 h3=>?_⟩,fun y c h=>⟨_,x.cell y c h⟩,e0.hok.fresh (Fb _),fun y c h=>?_,fun p hp=>absurd (show p∈([]:List (Addr×Obj))from hp) (by simp),e0.hok.kept hk,?_⟩
 ·exact name_of_addr x.apart (GK h1)<|GK h2
 ·have hy:scope.names.lookup y=some .cell\/scope.names.lookup y=some .free:=hy;rcases hy with hy|hy
  ·exact nV hy
  ·exact absurd rfl<|S.nofree _<|GK hy
 ·exact Hy<|x.above y c<|GK h
 ·have hi:i<vs.length:=by
   unfold start at h2;by_cases hi:i<vs.length;·exact hi
   ·rw[FI (by simpa using hi)]at h2;rw[List.getElem?_replicate]at h2;split at h2<;>cases h2
  have ha:vs[i]? =some v:=by
   unfold start at h2;rw[FP (by simpa using hi),G4]at h2;cases e:vs[i]? with
   |none=>rw[e]at h2;cases h2
   |some a=>rw[e]at h2;cases h2;rfl
  obtain⟨u,hu,rv⟩:=r.get ha;have hp:ps[i]? =some y:=by
   rw[<-S.pre,List.getElem?_take_of_lt (by omega)];exact h1
  have ndP:ps.Nodup:=by rw[<-S.pre];exact S.nd.sublist<|List.take_sublist _ _
  refine⟨u,rv,?_⟩;rcases S.par y (FL hp)with k|k
  ·exact .inl ⟨k,lU ndP hp hu k⟩
  ·obtain⟨c,e⟩:=nV (n:=s.heap.objs.size+1) k;refine .inr ⟨.inl k,c,e,?_⟩;have q:=x.cell y c e;rw[lV ndP hp hu (by show scope.names.lookup y≠_;rw[k];decide)]at q;exact q
 ·exact e0.hok.fresh<|Hy<|x.above y c<|GK h
 ·unfold start;show _=N.length;rw[Fn,Fz,IZ];omega
theorem yZ{CX:CXT}{P:Ff}{w:Fp}{K:EH}{mg:Str->Option EI}{base:Heap}{k:Nat}{f:Addr}{name qual:Str}{params:Arguments}{body:List Stmt}{scope:HM}{dV kV doc pm cdv ct oc:EI}{an od:Option Addr}
  {osl:Array (Option EI)} {N ps:List Str} {sp:Sp} (lk:K.lookup f=some ⟨oc,od,.func<|FA name qual params body scope dV kV doc pm an cdv ct,osl⟩) (hcd:FF K cdv qual=true) (S:FnScope N ps scope)
  (len:∀vs H Q E,sp vs H Q E->vs.length=ps.length)
  (hbody:∀(A:Fu) (outer:List Env) (s:EM) (H:Hp) (vs:List V) (Q:VK) (E:XK),Room k (A.deeper<|envOfC qual scope s.heap.objs.size f cdv)->sp vs H Q E->
   ∃t,PSs (kH CX P w K mg base N qual scope f cdv A outer s H E) body t/\t {nx:=fun _ H'=>Q .non H',rt:=Q} (start N vs) H):
  FnOk P w K mg base CX (k+1) f (FA name qual params body scope dV kV doc pm an cdv ct) ps sp:=by
 refine⟨len,fun A outer s H args us vs Q E hr e0 hb r hsp=>?_⟩;have hl:=len _ _ _ _ hsp;have KX:K.In s.heap:=e0.mod.kin.keeps fun b o e=>(e0.bs b o e).1;have lim:s.heap.NoLimit:=e0.mod.nolimit.keeps fun b o e=>(e0.bs b o e).1;have hkind:∀y∈ps.zip us,scope.names.lookup y.1=some .local\/(scope.names.lookup y.1=some .cell/\((cellsFrom (s.heap.objs.size+1) scope.names []).lookup y.1).isSome=true):=fun⟨n,v⟩hy=>by
  rcases S.par n (GG hy).1 with q|q;·exact .inl q
  ·exact .inr ⟨q,HS _ _ _<|.inl q⟩
 refine KG hr.depth (KX _ _ lk) rfl S.co S.gen rfl (Lk KX hcd)<|hb _ _ _ _ ?_;refine JF S.kind hkind fun env he s1 x=>?_;subst he;refine⟨lim.keeps x.toInCall.keep,codeAny_func ?_⟩;obtain⟨t,ht,hq⟩:=hbody A outer s H vs Q E (hr.deeper _) hsp;have I:Inv (kH CX P w K mg base N qual scope f cdv A outer s H E) [] (start N vs) H s1:=lW S hr.hd e0 hl r x;refine Gz (ht [] s1 (start N vs) H _ I hq) (fun fl s' hs=>?_) fun e s' hs=>hs;have fin:∀{σ':St}{H':Hp}{v:V}{u:EI},Inv (kH CX P w K mg base N qual scope f cdv A outer s H E) [] σ' H' s'->RelV v u->Q v H'->CE outer P w H s Q u s':=
  fun{σ' H' v u}J rv q=>⟨v,H',J.os,J.bare,J.base,J.hok,rv,q⟩
 cases fl with
 |ret u=>
  obtain⟨v,σ',H',J,rv,q⟩:=hs;exact fin J rv q
 |next=>
  obtain⟨σ',H',J,q⟩:=hs;exact fin (v:=V.non) (u:=Fv) J rfl q
 |brk=>
  obtain⟨_,_,_,q⟩:=hs;exact GA q
 |cont=>
  obtain⟨_,_,_,q⟩:=hs;exact GA q
section
variable{X:Cx}{x:Str}{p pos:Pos}{e:Expr}{es:List Expr}{t:TA}{id T:String}{r:List V->Hp->VK->Prop}
def fb(r:List V->Hp->VK->Prop)(t:TA):TE:=fun σ H Q=>t σ H fun vs H1=>r vs H1 Q
theorem ak(hc:eQ X (.builtin id) r)(hg:Gl X x)(hm:X.mg x=none)(hv:bootBuiltins x=some (.builtin id))(ha:PA X (e::es) t)(hn:x≠"__name__":=by decide)(hdb:(x==("__debug__" :Str))=false:=by decide)
  (he:starEach (e::es) X.env=(false,eval e X.env)::starEach es X.env:=by rfl) (hpl:(backTo pos<|starEach es X.env).any (·.1)=false:=by rfl):PE X (.Call (.Name x p) (e::es) [] pos) (fb r t):=by
 intro pins s σ H Q I h;refine HR<|jj I hg hm hv ?_ hn hdb;exact LY (cb (ha pos pins s σ H _ I h) fun us s1⟨vs,H1,I1,r1,q1⟩=>hc pins s1 σ H1 vs us Q I1 r1 q1) he hpl
theorem cw(hc:eQ X (.type T) r)(hg:Gl X x)(hm:X.mg x=none)(hv:bootBuiltins x=some (.type T))(ha:PA X (e::es) t)(hn:x≠"__name__":=by decide)(hdb:(x==("__debug__" :Str))=false:=by decide)
  (he:starEach (e::es) X.env=(false,eval e X.env)::starEach es X.env:=by rfl) (hpl:(backTo pos<|starEach es X.env).any (·.1)=false:=by rfl):PE X (.Call (.Name x p) (e::es) [] pos) (fb r t):=by
 intro pins s σ H Q I h;refine HR<|jj I hg hm hv ?_ hn hdb;exact Hr (cb (ha pos pins s σ H _ I h) fun us s1⟨vs,H1,I1,r1,q1⟩=>hc pins s1 σ H1 vs us Q I1 r1 q1) he hpl
end
end L2
open L2.FnScope renaming nd->NR
open L2.PW renaming pt->LU
open L2.RelO renaming some_of->LV
open L2.SqL renaming of->GR
open L2.SqT renaming of->M4
open L2.V renaming int->Ir,str->IK,bl->Ny
namespace HT
open PySem PyProof.Rows
section
variable{prog:Ff}{w:Fp}{A:Fu}{E:EI->EM->Prop}{s:EM}
def sIx(n d:Nat):Option Int->Nat
 |none=>d
 |some v=>if v<0 then(v+(n:Int)).toNat else min v.toNat n
theorem sIx_le(n d:Nat)(hd:d<=n)(o:Option Int):sIx n d o<=n:=by
 cases o with
 |none=>exact hd
 |some v=>
  show(if v<0 then(v+(n:Int)).toNat else min v.toNat n)<=n;by_cases hv:v<0;·rw[if_pos hv];omega
  ·rw[if_neg hv];exact Nat.min_le_right _ _
end
end HT
namespace L2
open PySem PySem.Spec PyProof.Rows
abbrev TO:=St->Hp->(Option Int->Hp->Prop)->Prop
def PO(X:Cx)(e:Option Expr)(t:TO):Prop:=
 ∀(pins:List (Addr×Obj))(s:EM)(σ:St)(H:Hp)(Q:Option Int->Hp->Prop),Inv X pins σ H s->t σ H Q->
  wpAny (model X.prog X.w) X.A (evalPart e X.env) (fun u s'=>∃o H',Inv X pins σ H' s'/\IsPart u o/\Q o H') X.xe s
def aQ:TO:=fun _ H Q=>Q none H
def bS(t:TE):TO:=fun σ H Q=>t σ H fun x H1=>∃i,x=.int i/\Q (some i) H1
theorem kI{ns:List Int}:∀{us:List EI},Vals (ns.map Ir) us->LF us ns:=by
 induction ns with
 |nil=>intro us r;rw[IQ]at r;cases r;exact .nil
 |cons n ns ih=>
  intro us r;rw[FZ]at r;cases r with
  |cons r1 r2=>
   obtain⟨t,e⟩:=r1;subst e;exact .cons n t<|ih r2
section
variable{X:Cx}{e:Expr}{te:TE}{lo hi:Option Expr}{tl th:TO}{pos p2:Pos}
theorem dC:PO X none aQ:=by
 intro pins s σ H Q I h;rw[N0];exact ES ⟨none,H,I,.none,h⟩
theorem cf(h:PE X e te):PO X (some e) (bS te):=by
 intro pins s σ H Q I hw;rw[evalPart_some];refine cb (h pins s σ H _ I hw) fun u s1 zz=>?_;obtain⟨x,H1,I1,r1,q1⟩:=zz;obtain⟨i,rfl,q⟩:=q1;obtain⟨t,rfl⟩:=r1;exact⟨some i,H1,I1,.int i t,q⟩
def C8(X:Cx)(r:V->Option Int->Option Int->Hp->VK->Prop):Prop:=
 ∀(pins:List (Addr×Obj))(s:EM)(σ:St)(H:Hp)(x:V)(v vl vu:EI)(lo hi:Option Int)(sl:Addr)(Q:VK),Inv X pins σ H s->RelV x v->s.heap.IsSliceOf sl vl vu .none->IsPart vl lo->IsPart vu hi->r x lo hi H Q->
  ∃T id,typeLookup (.type T) "__getitem__"=pure (some<|.builtin id)/\s.TypeIs v T/\wpAny (model X.prog X.w) X.A (getItem v<|.ref sl) (EP X pins σ Q) X.xe s
def gq(r:V->Option Int->Option Int->Hp->VK->Prop)(te:TE)(tl th:TO):TE:=fun σ H Q=>te σ H fun x H1=>tl σ H1 fun l H2=>th σ H2 fun u H3=>r x l u H3 Q
theorem bY{r:V->Option Int->Option Int->Hp->VK->Prop}(hr:C8 X r)(he:PE X e te)(hl:PO X lo tl)(hu:PO X hi th):PE X (.Subscript e (.Slice lo hi none p2) pos) (gq r te tl th):=by
 intro pins s σ H Q I h;refine Mm<|cb (he pins s σ H _ I h) fun v s1 zz=>?_;obtain⟨x,H1,I1,r1,q1⟩:=zz;refine wpAny_Slice<|cb (hl pins s1 σ H1 _ I1 q1) fun vl s2 zz=>?_;obtain⟨l,H2,I2,pl,q2⟩:=zz;refine cb (hu pins s2 σ H2 _ I2 q2) fun vu s3 zz=>?_;obtain⟨u,H3,I3,pu,q3⟩:=zz;rw[N0];refine ES ?_;have I4:Inv X pins σ H3 {s3 with heap:=s3.heap.push {cls:=.type "slice",data:=.fields #[vl,vu,.none]}}:=I3.kept (t':=s3.toks) fun b ob q=>EJ _ q;obtain⟨T,id,hT,ht,hg⟩:=hr pins {s3 with heap:=s3.heap.push {cls:=.type "slice",data:=.fields #[vl,vu,.none]}} σ H3 x v vl vu l u s3.heap.objs.size Q I4 r1 (NK ..) pl pu q3;show wpAny (model X.prog X.w) X.A (subscriptTail e (.Slice lo hi none p2) v<|.ref s3.heap.objs.size) (EP X pins σ Q) X.xe {s3 with heap:=s3.heap.push {cls:=.type "slice",data:=.fields #[vl,vu,.none]}};exact tail_any (ops:=[.ref s3.heap.objs.size,v]) ht hT hg (by with_unfolding_all rfl)
def pC(xs:List V)(lo hi:Option Int):List V:=(xs.drop<|HT.sIx xs.length 0 lo).take (HT.sIx xs.length xs.length hi-HT.sIx xs.length 0 lo)
theorem nW(xs:List V)(lo hi:Option Int):(pC xs lo hi).length<=xs.length:=by
 unfold pC;rw[HI,Io];omega
end
def ixN(n:Nat)(i:Int):Option Nat:=if 0<=i then(if i<n then some i.toNat else none)else if -(n:Int)<=i then some (i+n).toNat else none
def atI{α:Type}(xs:List α)(i:Int):Option α:=(ixN xs.length i).bind fun j=>xs[j]?
theorem qw{n:Nat}{i:Int}{j:Nat}(h:ixN n i=some j):seqIndex? i n=some j/\j<n/\ -(n:Int)<=i/\i<n:=by
 unfold ixN at h;by_cases h0:0<=i
 ·rw[if_pos h0]at h;by_cases h1:i<n
  ·rw[if_pos h1]at h;have e:i.toNat=j:=Fy h;exact⟨by rw[M7 h0 h1,e],by omega,by omega,h1⟩
  ·rw[if_neg h1]at h;cases h
 ·rw[if_neg h0]at h;by_cases h1: -(n:Int)<=i
  ·rw[if_pos h1]at h;have e:(i+n).toNat=j:=Fy h;exact⟨by rw[LG (by omega) h1,e],by omega,h1,by omega⟩
  ·rw[if_neg h1]at h;cases h
theorem n0{α:Type}{xs:List α}{i:Int}{v:α}(h:atI xs i=some v):∃j,seqIndex? i xs.length=some j/\xs[j]? =some v/\j<xs.length/\ -(xs.length:Int)<=i/\i<xs.length:=by
 unfold atI at h;cases e:ixN xs.length i with
 |none=>rw[e]at h;cases h
 |some j=>
  rw[e]at h;obtain⟨h1,h2,h3,h4⟩:=qw e;exact⟨j,h1,h,h2,h3,h4⟩
def xq(b:Expr):Prop:=∀o i,subscripted b false o i=operate [o,i] (getItem o i)
def Ax(X:Cx)(r:R2):Prop:=
 ∀(value slice:Expr)(pins:List (Addr×Obj))(s:EM)(σ:St)(H:Hp)(x y:V)(v u:EI)(Q:VK),Inv X pins σ H s->RelV x v->RelV y u->r x y H Q->
  subscripted slice false v u=operate [v,u] (getItem v u)->wpAny (model X.prog X.w) X.A (subscriptTail value slice v u) (EP X pins σ Q) X.xe s
def zF(X:Cx)(id:String)(r:V->List V->Hp->VK->Prop):Prop:=
 ∀(pins:List (Addr×Obj))(s:EM)(σ:St)(H:Hp)(x:V)(xs:List V)(v:EI)(us:List EI)(Q:VK),Inv X pins σ H s->RelV x v->Vals xs us->r x xs H Q->
  wpAny (model X.prog X.w) X.A (call (.builtin id) (v::us)) (EP X pins σ Q) X.xe s
section
variable{X:Cx}{a b:Expr}{ta tb:TE}{pos:Pos}
theorem av{r:R2}(hr:Ax X r)(ha:PE X a ta)(hb:PE X b tb)(hs:xq b):PE X (.Subscript a b pos) (dU r ta tb):=by
 intro pins s σ H Q I h;exact Mm<|zy ha hb I h fun v u s2 x y H2 I2 rx ry q=>hr a b pins s2 σ H2 x y v u Q I2 rx ry q<|hs _ _
def cY(K:EH):R2:=fun x y H Q=>∃p xs i v,x=.ref p/\y=.int i/\SqL K H p xs/\atI xs i=some v/\Q v H
def d6(K:EH):R2:=fun x y H Q=>∃p xs i v,x=.ref p/\y=.int i/\SqT K H p xs/\atI xs i=some v/\Q v H
def dz:R2:=fun x y H Q=>∃z i c,x=.str z/\y=.int i/\z.length<=sizeLine/\atI z.cps.toList i=some c/\Q (.str ⟨#[c]⟩) H
theorem xr:Ax X (cY X.K):=by
 intro value slice pins s σ H x y v u Q I rx ry h hs;obtain⟨p,xs,i,z,rfl,rfl,hq,he,q⟩:=h;cases rx;obtain⟨t,rfl⟩:=ry;obtain⟨its,r,pl,hz⟩:=I.list hq;obtain⟨j,h1,h2,h3,h4,h5⟩:=n0 he;obtain⟨w,ew,rw'⟩:=r.get h2;have hl:=r.length;have hn:=jn;have fin:EP X pins σ Q w s:=⟨z,H,I,rw',q⟩
 by_cases h0:0<=i
 ·have hj:i.toNat=j:=by
   rw[M7 h0 h5]at h1;exact Fy h1
  exact item_listR pl.isList h0 (by omega) (by rw[hj];simpa using ew) fin hs
 ·have hj:(i+(its.toArray.size:Int)).toNat=j:=by
   rw[LG (by omega) h4]at h1;rw[F4,<-hl];exact Fy h1
  exact Kp (x:=w) pl.isList.typeIs LH.lookup
   (wpAny_getItem_list_neg (Q:=fun r s'=>r=w/\EP X pins σ Q r s') pl.isList (by omega) (by rw[F4]<;>omega) (by omega) (by rw[hj];simpa using ew) ⟨rfl,fin⟩) hs
theorem zG:Ax X (d6 X.K):=by
 intro value slice pins s σ H x y v u Q I rx ry h hs;obtain⟨p,xs,i,z,rfl,rfl,hq,he,q⟩:=h;cases rx;obtain⟨t,rfl⟩:=ry;obtain⟨its,r,pl,hz⟩:=I.tuple hq;obtain⟨j,h1,h2,h3,h4,h5⟩:=n0 he;obtain⟨w,ew,rw'⟩:=r.get h2;have hl:=r.length;have hn:=jn;have fin:EP X pins σ Q w s:=⟨z,H,I,rw',q⟩
 exact Kp (x:=w) pl.typeIs slot_tuple_getitem.lookup
  (getItem_tuple (j:=j) (Q:=fun r s'=>r=w/\EP X pins σ Q r s') pl (by omega) (by omega) (by rw[F4,<-hl];exact h1) (by simpa using ew) ⟨rfl,fin⟩) hs
theorem cT:Ax X dz:=by
 intro value slice pins s σ H x y v u Q I rx ry h hs;obtain⟨z,i,c,rfl,rfl,hz,he,q⟩:=h;obtain⟨t,rfl⟩:=rx;obtain⟨t',rfl⟩:=ry;obtain⟨j,h1,h2,h3,h4,h5⟩:=n0 he;have hl:z.cps.toList.length=z.length:=by simp[NL]
 rw[hl]at h1 h4 h5;have hn:=jn;exact tail_any (Mn s z t) slot_str_getitem.lookup (getItem_str (c:=c) (by
  have e1:decide (i< -(2^63:Int))=false:=decide_eq_false (by omega);have e2:decide (i≥2^63)=false:=decide_eq_false (by omega);rw[e1,e2,Bool.or_false]) (by rw[h1];simpa using h2) ⟨.str ⟨#[c]⟩,H,I.tok _,⟨_,rfl⟩,q⟩) hs
theorem pD(its:List EI)(n j:Nat)(u:EI):JG (·.setIfInBounds j u) {cls:=.type "list",data:=.seq its.toArray n}={cls:=.type "list",data:=.seq (its.set j u).toArray n}:=by
 simp[JG]
theorem Inv.lst{pins:List (Addr×Obj)}{σ:St}{H:Hp}{s:EM}{p:Addr}{xs:List V}(I:Inv X pins σ H s)(h:H p=some (.lst xs)):
  ∃(its:List EI)(n:Nat),Vals xs its/\s.heap.get? p=some {cls:=.type "list",data:=.seq its.toArray n}/\xs.length<=sizeLine:=by
 obtain⟨z,its,n,r,e⟩:=I.hok p _ h;exact⟨its,n,r,e,z⟩
theorem Inv.lstUpd{pins:List (Addr×Obj)}{σ:St}{H:Hp}{s:EM}{p:Addr}{xs ys:List V}{its its':List EI}{n n':Nat}{f:Obj->Obj}(I:Inv X pins σ H s)(h:H p=some (.lst xs))
  (ho:s.heap.get? p=some {cls:=.type "list",data:=.seq its.toArray n}) (hf:f {cls:=.type "list",data:=.seq its.toArray n}={cls:=.type "list",data:=.seq its'.toArray n'}) (r:Vals ys its') (hz:ys.length<=sizeLine) (t:Nat):
  Inv X pins σ (cy H p<|.lst ys) {s with heap:=s.heap.update p f,toks:=t}:=by
 have e:(s.heap.update p f).get? p=some {cls:=.type "list",data:=.seq its'.toArray n'}:=by
  rw[Gb f ho (by rw[hf]<;>rfl),hf]
 refine I.write (x:=p) (e:=p) (by rw[h];trivial) (.inl rfl) (fun b u hb q=>(FJ _ _<|Gh hb).trans q) ⟨_,e⟩ ?_;exact⟨hz,its',n',r,e⟩
def lX:V->V->V->Hp->(Hp->Prop)->Prop:=fun o i v H Q=>∃p xs k j,o=.ref p/\i=.int k/\H p=some (.lst xs)/\ixN xs.length k=some j/\Q (cy H p<|.lst<|xs.set j v)
theorem nX:AL X lX:=by
 intro pins s σ H o i v ov iv u Q I ro ri rv h;obtain⟨p,xs,k,j,rfl,rfl,hp,hj,q⟩:=h;cases ro;obtain⟨t,rfl⟩:=ri;obtain⟨its,n,r,ho,hz⟩:=I.lst hp;obtain⟨h1,h2,h3,h4⟩:=qw hj;have hl:=r.length;have hn:=jn;have I':Inv X pins σ (cy H p<|.lst<|xs.set j v) {s with heap:=s.heap.update p (JG (·.setIfInBounds j u))}:=
  I.lstUpd hp ho (pD its n j u) (r.set rv j) (by rw[Hm];exact hz) s.toks
 by_cases h0:0<=k
 ·have hk:k.toNat=j:=by
   rw[M7 h0 h4]at h1;exact Fy h1
  exact PySem.W.ki_setAt ho h0 (by omega) (by rw[F4,<-hl];exact h4) (by rw[hk];exact⟨_,I',q⟩)
 ·have hk:(k+(its.toArray.size:Int)).toNat=j:=by
   rw[LG (by omega) h3]at h1;rw[F4,<-hl];exact Fy h1
  exact PySem.W.ki_setBack ho (by omega) (by rw[F4,<-hl];exact h3) (by omega) (by rw[hk];exact⟨_,I',q⟩)
theorem n5(lo hi:Option Int)(n:Nat):(sliceBounds lo hi none n).1=((HT.sIx n 0 lo:Nat):Int)/\(sliceBounds lo hi none n).2.1=((HT.sIx n n hi:Nat):Int)/\(sliceBounds lo hi none n).2.2=1:=by
 refine⟨?_,?_,rfl⟩
 ·cases lo with
  |none=>simp[sliceBounds,HT.sIx]
  |some i=>
   simp only[sliceBounds,HT.sIx,LZ,show(1:Int)>0 by decide,if_true];by_cases h:i<0;·simp only[h,if_true]<;>omega
   ·simp only[h,if_false]<;>omega
 ·cases hi with
  |none=>simp[sliceBounds,HT.sIx]
  |some i=>
   simp only[sliceBounds,HT.sIx,LZ,show(1:Int)>0 by decide,if_true];by_cases h:i<0;·simp only[h,if_true]<;>omega
   ·simp only[h,if_false]<;>omega
theorem lB(its:List EI)(lo hi:Option Int):slicePick its.toArray lo hi none=((its.drop<|HT.sIx its.length 0 lo).take (HT.sIx its.length its.length hi-HT.sIx its.length 0 lo)).toArray:=by
 obtain⟨h1,h2,h3⟩:=n5 lo hi its.toArray.size;unfold slicePick;rw[h1,h2,h3];simp only[KY,pick_run,F4]<;>rfl
def dn(K:EH):V->Option Int->Option Int->Hp->VK->Prop:=fun x lo hi H Q=>∃a xs,x=.ref a/\SqL K H a xs/\∀p,H p=none->Q (.ref p) (cy H p<|.lst<|pC xs lo hi)
theorem xt:C8 X (dn X.K):=by
 intro pins s σ H x v vl vu lo hi sl Q I rx hs pl pu h;obtain⟨a,xs,rfl,hx,q⟩:=h;cases rx;obtain⟨its,r,ht,hz⟩:=I.list hx;have hlen:=r.length;refine⟨"list",_,LH.lookup,ht.isList.typeIs,?_⟩;refine wpAny_getItem_list_slice ht.isList hs pl pu .none (by simp) ?_ (by rw[F4]<;>omega);rw[lB,<-hlen];refine⟨.ref s.heap.objs.size,_,I.laid (t':=s.toks) (o:=.lst<|pC xs lo hi) (fun b ob q=>EJ _ q) (Fb _) ?_,rfl,q _<|I.hok.fresh<|Fb _⟩;exact⟨GH (nW xs lo hi) hz,_,0,(r.drop<|HT.sIx xs.length 0 lo).take (HT.sIx xs.length xs.length hi-HT.sIx xs.length 0 lo),EU _ rfl⟩
theorem n6:eQ X (.type "list") (fun xs H Q=>∃p ys,xs=[.ref p]/\(SqL X.K H p ys\/SqT X.K H p ys)/\∀l,H l=none->Q (.ref l) (cy H l<|.lst ys)):=by
 intro pins s σ H xs us Q I r h;obtain⟨p,ys,rfl,hq,q⟩:=h;obtain⟨u,rfl,rx⟩:=gL r;cases rx;have fin:∀(its:List EI),Vals ys its->ys.length<=sizeLine->∀(h':Heap)(c':Nat),(∀b o',s.heap.get? b=some o'->h'.get? b=some o')->
   h'.get? s.heap.objs.size=some {cls:=.type "list",dict:=none,data:=.seq its.toArray c',slots:= #[]}->EP X pins σ Q (.ref s.heap.objs.size) {s with heap:=h'}:=fun its r' hz h' c' kp e=>
  ⟨.ref s.heap.objs.size,_,I.laid (t':=s.toks) kp (Fb _) (show ObjOk X.prog X.w _ h' _ (.lst ys)from⟨hz,its,c',r',e⟩),rfl,q _<|I.hok.fresh<|Fb _⟩
 rcases hq with hq|hq
 ·obtain⟨its,r',pl,hz⟩:=I.list hq;have hlen:=r'.length;obtain⟨o,ho,hc,n,hd⟩:=pl.isList;exact N1 p (.inl rfl) ho hc hd (fun h' c' kp e=>fin its r' hz h' c' kp e) (by simp only[F4]<;>omega)
 ·obtain⟨its,r',pl,hz⟩:=I.tuple hq;have hlen:=r'.length;obtain⟨o,ho,hc,n,hd⟩:=pl;exact N1 p (.inr rfl) ho hc hd (fun h' c' kp e=>fin its r' hz h' c' kp e) (by simp only[F4]<;>omega)
def C9(K:EH)(T:String)(x:V)(H:Hp):Prop:=match x with
 | .str _=>T="str"
 | .int _=>T="int"
 | .ref p=>(T="list" /\∃xs,SqL K H p xs)\/(T="tuple" /\((∃o,K.lookup p=some o/\o.cls=.type "tuple" /\o.dict=none)\/∃xs,SqT K H p xs))\/
   (T="dict"/\((∃kvs,H p=some (.dK kvs))\/∃kvs,H p=some (.dT kvs)))\/(T="set"/\∃S n,H p=some (.set S n))
 |_=>False
theorem uj{pins:List (Addr×Obj)}{σ:St}{H:Hp}{s:EM}{T:String}{x:V}{v:EI}(I:Inv X pins σ H s)(r:RelV x v)(ty:C9 X.K T x H):
  s.TypeIs v T/\∀a,v=.ref a->∃ob,s.heap.get? a=some ob/\ob.dict=none:=by
 cases x with
 |str z=>
  obtain⟨t,rfl⟩:=r;cases (show T="str" from ty);exact⟨Mn s z t,fun _ e=>nomatch e⟩
 |int i=>
  obtain⟨t,rfl⟩:=r;cases (show T="int" from ty);exact⟨Mo s i t,fun _ e=>nomatch e⟩
 |ref p=>
  cases r;rcases ty with⟨rfl,xs,hq⟩|⟨rfl,⟨o,hk,hc,hd⟩|⟨xs,hq⟩⟩|⟨rfl,hk⟩|⟨rfl,S,n,hk⟩
  ·obtain⟨its,_,pl,_⟩:=I.list hq;refine⟨pl.isList.typeIs,fun a e=>?_⟩;cases e;obtain⟨o,n,e,c,hd,_⟩:=pl;exact⟨o,e,hd⟩
  ·refine⟨⟨o,I.kIn p o hk,hc⟩,fun a e=>?_⟩;cases e;exact⟨o,I.kIn _ o hk,hd⟩
  ·obtain⟨o,e1,c1,d1⟩:∃o,s.heap.get? p=some o/\o.cls=.type "tuple"/\o.dict=none:=by
    rcases hq with hq|⟨o,its,n,hk,hc,_⟩
    ·obtain⟨_,_,_,o,e1,⟨c1,d1⟩,_⟩:=hq.ok I.hok;exact⟨o,e1,c1,d1⟩
    ·exact⟨o,I.kIn p o hk,hc.1,hc.2⟩
   refine⟨⟨o,e1,c1⟩,fun a e=>?_⟩;cases e;exact⟨o,e1,d1⟩
  ·have z:∃o,s.heap.get? p=some o/\o.ExactDict:=by
    rcases hk with⟨kvs,hk⟩|⟨kvs,hk⟩
    ·obtain⟨_,_,_,_,o,_,_,e,ex,_⟩:=I.hok p _ hk;exact⟨o,e,ex⟩
    ·obtain⟨_,_,_,_,o,_,_,e,ex,_⟩:=I.hok p _ hk;exact⟨o,e,ex⟩
   obtain⟨o,e,ex⟩:=z;refine⟨⟨o,e,ex.1⟩,fun a e2=>?_⟩;cases e2;exact⟨o,e,ex.2.1⟩
  ·obtain⟨o,_,_,_,e,ex,_⟩:=I.hok p _ hk;refine⟨⟨o,e,ex.1⟩,fun a e2=>?_⟩;cases e2;exact⟨o,e,ex.2.1⟩
 |_=>exact GA ty
def cM(K:EH)(T:String)(r:V->List V->Hp->VK->Prop)(to:TE):TE:=fun σ H Q=>to σ H fun x H1=>C9 K T x H1/\r x [] H1 Q
def ff(K:EH)(T:String)(r:V->List V->Hp->VK->Prop)(to:TE)(t:TA):TE:=fun σ H Q=>to σ H fun x H1=>C9 K T x H1/\t σ H1 fun xs H2=>r x xs H2 Q
variable{o e:Expr}{es:List Expr}{to:TE}{t:TA}{name:Str}{apos cpos:Pos}{T id:String}{r:V->List V->Hp->VK->Prop}
theorem zH(pa:Ll T)(slot:Slot T name id)(hty:typeOf (.builtin id)=pure (.type "method_descriptor"))(hm:zF X id r)(ho:PE X o to)
  (hbase:attributeBase o name X.env (eval o X.env)=eval o X.env:=by rfl) (hline:(apos.endLine==cpos.line)=true:=by rfl):PE X (.Call (.Attribute o name apos) [] [] cpos) (cM X.K T r to):=by
 intro pins s σ H Q I h;refine Ka hbase hline<|cb (ho pins s σ H _ I h) fun v s1 zz=>?_;obtain⟨x,H1,I1,r1,ty,q1⟩:=zz;obtain⟨h1,h2⟩:=uj I1 r1 ty;exact⟨T,id,pa,slot,hty,h1,h2,HU rfl<|La<|hm pins s1 σ H1 x [] v [] Q I1 r1 .nil q1⟩
theorem AQ(pa:Ll T)(slot:Slot T name id)(hty:typeOf (.builtin id)=pure (.type "method_descriptor"))(hm:zF X id r)(ho:PE X o to)(ha:PA X (e::es) t)
  (hbase:attributeBase o name X.env (eval o X.env)=eval o X.env:=by rfl)
  (hfew:((backTo cpos<|starEach (e::es) X.env).all (fun x=> !x.1) && (backToKw cpos<|keywordEach [] X.env).all (fun x=>x.1.isSome)
   &&decide ((e::es).length+([]:List Kq).length+(if([]:List Kq).isEmpty then 0 else 1)<30))=true:=by rfl)
  (hline:(apos.endLine==cpos.line)=true:=by rfl) (hs:starEach (e::es) X.env=(false,eval e X.env)::starEach es X.env:=by rfl) (hplain:(backTo cpos<|starEach es X.env).any (·.1)=false:=by rfl):
  PE X (.Call (.Attribute o name apos) (e::es) [] cpos) (ff X.K T r to t):=by
 intro pins s σ H Q I h;refine wpAny_Call_method_late hbase hfew hline rfl<|cb (ho pins s σ H _ I h) fun v s1 zz=>?_;obtain⟨x,H1,I1,r1,ty,q1⟩:=zz;obtain⟨h1,h2⟩:=uj I1 r1 ty;refine⟨T,id,pa,slot,hty,h1,h2,?_⟩;have hA:=ha cpos pins s1 σ H1 _ I1 q1;rw[hs]at hA ⊢;refine HU (by show(false||(backTo cpos<|starEach es X.env).any (·.1))=false;rw[hplain]<;>rfl)<|Ji ?_;refine cb hA fun us s2 zz=>?_;obtain⟨vs,H2,I2,r2,q2⟩:=zz;exact hm pins s2 σ H2 x vs v us Q I2 r1 r2 q2
end
def Ca(X:Cx)(id:String)(r:V->List V->Hp->VK->Prop):Prop:=
 ∀(pins:List (Addr×Obj))(s:EM)(σ:St)(H:Hp)(x:V)(xs:List V)(v:EI)(us:List EI)(Q:VK),Inv X pins σ H s->RelV x v->Vals xs us->r x xs H Q->
  wpAny (model X.prog X.w) X.A (call (.builtin id) (v::us)) (EP X pins σ Q) X.xe s
theorem Vals.one:∀{x:V}{us:List EI},Vals [x] us->∃u,us=[u]/\RelV x u
 |_,_,.cons r .nil=>⟨_,rfl,r⟩
theorem Vals.zero:∀{us:List EI},Vals [] us->us=[]
 |_,.nil=>rfl
theorem Vals.dropLast{xs:List V}{us:List EI}(h:Vals xs us):Vals xs.dropLast us.dropLast:=by
 induction h with
 |nil=>exact .nil
 |cons r t ih=>
  cases t with
  |nil=>exact .nil
  |cons q t'=>exact .cons r ih
theorem Vals.rep{xs:List V}{us:List EI}(h:Vals xs us):∀k:Nat,Vals (Fg k xs).flatten (Fg k us).flatten
 |0=>.nil
 |k+1=>by
  rw[Gu,Gu,Ha,Ha];exact Vals.append h<|Vals.rep h k
theorem pE{α:Type}(l:List α):l.eraseIdx (l.length-1)=l.dropLast:=by
 induction l with
 |nil=>rfl
 |cons a r ih=>
  cases r with
  |nil=>rfl
  |cons b r=>
   have e:(a::b::r).length-1=((b::r).length-1)+1:=by
    have h1:(a::b::r).length=r.length+2:=rfl;have h2:(b::r).length=r.length+1:=rfl;omega
   rw[e,List.eraseIdx_cons_succ,ih]
   all_goals rfl
theorem lY(its:List EI):∀(k:Nat)(acc:List EI),
  Mp (fun x1 x2=>x1++x2) acc.toArray (Fg k its.toArray)=(acc++(Fg k its).flatten).toArray
 |0,acc=>by simp
 |k+1,acc=>by
  have e:acc.toArray++its.toArray=(acc++its).toArray:=by simp
  have e2:(acc++its)++(Fg k its).flatten=acc++(Fg (k+1) its).flatten:=by
   rw[Gu,Ha,Hj]
  rw[<-e2,<-lY its k (acc++its),<-e,Gu,Iw]
section
variable{X:Cx}{pins:List (Addr×Obj)}{σ:St}{H:Hp}{s:EM}{l b:Addr}{xs ys zs:List V}
theorem Inv.lset{its its':List EI}{n:Nat}{f:Array EI->Array EI}{t':Nat}(I:Inv X pins σ H s)(hH:H l=some (.lst xs))
  (e:s.heap.get? l=some {cls:=.type "list",data:=.seq its.toArray n}) (hf:f its.toArray=its'.toArray) (hv:Vals ys its') (hz:ys.length<=sizeLine):
  Inv X pins σ (cy H l<|.lst ys) {s with heap:=s.heap.update l<|JG f,toks:=t'}:=by
 have q:=PySem.IsL.update e f;rw[hf]at q;refine I.write (x:=l) (e:=l) (by rw[hH];exact trivial) (.inl rfl) (fun b' u hb hu=>(FJ s.heap (JG f)<|Gh hb).trans hu) ⟨_,q⟩ ?_;exact⟨hz,its',_,hv,q⟩
theorem Inv.lnew{its:List EI}{t':Nat}(I:Inv X pins σ H s)(hv:Vals ys its)(hz:ys.length<=sizeLine):
  Inv X pins σ (cy H s.heap.objs.size<|.lst ys) {s with heap:=s.heap.push {cls:=.type "list",data:=.seq its.toArray},toks:=t'}:=
 I.laid (fun _ _ q=>EJ _ q) (Fb _) ⟨hz,its,0,hv,EU _ rfl⟩
theorem Inv.fresh(I:Inv X pins σ H s):H s.heap.objs.size=none:=I.hok.fresh<|Fb _
theorem Inv.lstM(I:Inv X pins σ H s)(hH:H l=some (.lst xs)):xs.length<=sizeLine/\∃(its:List EI)(n:Nat),Vals xs its/\xs.length=its.length/\s.heap.get? l=some {cls:=.type "list",data:=.seq its.toArray n}:=by
 obtain⟨z,its,n,r,e⟩:=I.hok l _ hH;exact⟨z,its,n,r,r.length,e⟩
theorem nY{n:Nat}(h:n<=sizeLine):HD n=false:=by
 unfold HD;exact decide_eq_false (by omega)
end
section
variable{X:Cx}
def aH:V->List V->Hp->VK->Prop:=fun x vs H Q=>∃l xs y,x=.ref l/\vs=[y]/\H l=some (.lst xs)/\xs.length<sizeLine/\Q .non (cy H l<|.lst<|xs++[y])
theorem rR:Ca X "list.append" aH:=by
 intro pins s σ H x vs v us Q I rx rv h;obtain⟨l,xs,y,rfl,rfl,hH,hz,q⟩:=h;cases rx;obtain⟨u,rfl,ru⟩:=rv.one;obtain⟨z,its,n,r,hl,e⟩:=I.lstM hH;refine JH KH ⟨_,e,rfl⟩ F.entry_list_append (F.args_list_append_2 _ _) (PySem.list_append l its.toArray n u (by rw[F4];omega)) ⟨e,?_⟩;refine⟨.non,_,I.lset (its':=its++[u]) hH e (by simp) (r.append<|.cons ru .nil) ?_,rfl,q⟩;rw[Fn,Ia];omega
def n9:V->List V->Hp->VK->Prop:=fun x vs H Q=>∃l b xs zs,x=.ref l/\vs=[.ref b]/\H l=some (.lst xs)/\H b=some (.lst zs)/\xs.length+zs.length<=sizeLine/\Q .non (cy H l<|.lst<|xs++zs)
theorem rS:Ca X "list.extend" n9:=by
 intro pins s σ H x vs v us Q I rx rv h;obtain⟨l,b,xs,zs,rfl,rfl,hH,hB,hz,q⟩:=h;cases rx;obtain⟨u,rfl,ru⟩:=rv.one;cases ru;obtain⟨z,its,n,r,hl,e⟩:=I.lstM hH;obtain⟨z2,its2,n2,r2,hl2,e2⟩:=I.lstM hB;have hsz:its.toArray.size+its2.toArray.size<=sizeLine:=by rw[F4,F4];omega
 have hlong:¬(!its.toArray.isEmpty&&HD (its.toArray.size+its2.toArray.size))=true:=by
  rw[nY hsz,Mq];exact F7
 refine JH KI ⟨_,e,rfl⟩ F.entry_list_extend (F.args_list_extend_2 _ _)
  (AutoSeq1.list_extend_list_list_0 l its.toArray n b its2.toArray n2 hlong (by rw[F4];omega) (by omega)) ⟨e,e2,?_⟩
 refine⟨.non,_,I.lset (its':=its++its2) hH e (by simp) (r.append r2) ?_,rfl,q⟩;rw[Fn];omega
def uk:V->List V->Hp->VK->Prop:=fun x vs H Q=>∃l xs y,x=.ref l/\vs=[]/\H l=some (.lst xs)/\xs[xs.length-1]? =some y/\Q y (cy H l<|.lst xs.dropLast)
theorem ng:Ca X "list.pop" uk:=by
 intro pins s σ H x vs v us Q I rx rv h;obtain⟨l,xs,y,rfl,rfl,hH,hy,q⟩:=h;cases rx;have hus:=rv.zero;subst hus;obtain⟨z,its,n,r,hl,e⟩:=I.lstM hH;obtain⟨u,hu,ru⟩:=r.get hy;have hy':its.toArray[its.toArray.size-1]? =some u:=by
  show its.toArray[its.length-1]? =some u;rw[<-KJ,<-hl];exact hu
 refine JH HB ⟨_,e,rfl⟩ F.entry_list_pop (F.args_list_pop_1 _) (MeetsSeq.list_pop_last l its.toArray n u hy' (by rw[F4];omega)) ⟨e,?_⟩;refine⟨y,_,I.lset (its':=its.dropLast) hH e ?_ r.dropLast ?_,ru,q⟩
 ·show its.toArray.eraseIdxIfInBounds (its.toArray.size- 1)=its.dropLast.toArray;rw[F4,List.eraseIdxIfInBounds_toArray,pE]
 ·rw[List.length_dropLast];omega
def br:V->List V->Hp->VK->Prop:=fun x vs H Q=>∃l xs,x=.ref l/\vs=[]/\H l=some (.lst xs)/\Q .non (cy H l<|.lst [])
theorem nZ:Ca X "list.clear" br:=by
 intro pins s σ H x vs v us Q I rx rv h;obtain⟨l,xs,rfl,rfl,hH,q⟩:=h;cases rx;have hus:=rv.zero;subst hus;obtain⟨z,its,n,r,hl,e⟩:=I.lstM hH;refine JH J4 ⟨_,e,rfl⟩ F.entry_list_clear (F.args_list_clear_1 _) (AutoSeq1.list_clear_list_0 l its.toArray n (by rw[F4];omega)) ⟨e,?_⟩;exact⟨.non,_,I.lset (its':=[]) (ys:=[]) hH e rfl .nil<|Jg _,rfl,q⟩
def dA:R2:=fun x y H Q=>∃l b xs zs,x=.ref l/\y=.ref b/\H l=some (.lst xs)/\H b=some (.lst zs)/\xs.length+zs.length<=sizeLine/\∀p,H p=none->Q (.ref p) (cy H p<|.lst<|xs++zs)
theorem gN:OpR X (binaryOp .Add) dA:=by
 intro pins s σ H x y v u Q I rx ry h;obtain⟨l,b,xs,zs,rfl,rfl,hH,hB,hz,q⟩:=h;cases rx;cases ry;obtain⟨z,its,n,r,hl,e⟩:=I.lstM hH;obtain⟨z2,its2,n2,r2,hl2,e2⟩:=I.lstM hB;refine PySem.P.add_list e e2 ?_ (by rw[F4,F4];omega);have ea:its.toArray++its2.toArray=(its++its2).toArray:=by simp
 rw[ea];exact⟨.ref _,_,I.lnew (t':=s.toks) (r.append r2) (by rw[Fn];omega),rfl,q _ I.fresh⟩
def AR:R2:=fun x y H Q=>∃l k xs,x=.ref l/\y=.int k/\H l=some (.lst xs)/\ -(2^63)<=k/\k<2^63/\xs.length*k.toNat<=sizeLine/\
 ∀p,H p=none->Q (.ref p) (cy H p<|.lst (Fg k.toNat xs).flatten)
theorem xu{α:Type}(xs:List α)(k:Nat):(Fg k xs).flatten.length=k*xs.length:=by
 induction k with
 |zero=>simp
 |succ k ih=>rw[Gu,Ha,Fn,ih,Nat.succ_mul,Nat.add_comm]
theorem um:OpR X (binaryOp .Mult) AR:=by
 intro pins s σ H x y v u Q I rx ry h;obtain⟨l,k,xs,rfl,rfl,hH,h1,h2,hz,q⟩:=h;cases rx;obtain⟨t,rfl⟩:=ry;obtain⟨z,its,n,r,hl,e⟩:=I.lstM hH;have hlen:its.toArray.size*k.toNat<=sizeLine:=by rw[F4,<-hl];exact hz
 have hcap:¬its.toArray.size*k.toNat>(2^63-1)/8:=by
  have:(sizeLine:Nat)<=(2^63-1)/8:=by decide
  omega
 have hfit:¬(!Builtin.List.listFitsIndex k)=true:=by
  rw[fitsIndex_both h1 h2];exact F7
 have hlong:¬HD (its.toArray.size*k.toNat)=true:=by
  rw[nY hlen];exact F7
 have hnew:Mp (fun x1 x2=>x1++x2) #[] (Fg (if its.toArray.isEmpty=true then 0 else k.toNat) its.toArray)=(Fg k.toNat its).flatten.toArray:=by
  have f0:∀m:Nat,Mp (fun x1 x2=>x1++x2) #[] (Fg m its.toArray)=(Fg m its).flatten.toArray:=fun m=>by
   have:=lY its m [];rw[Iy]at this;exact this
  rw[f0];cases its with
  |nil=>simp
  |cons a r'=>rw[if_neg (by simp)]
 refine wpAny_binaryOp_repeat_ref (T:="list") (U:="int") (by decide) ⟨_,e,rfl⟩ (fun s'=>Mo s' k t) noFill_list_mul F.fills_int_mul Md repeat_list F.slot_int_index.lookup
  (JH Md (Mo s k t) F.entry_int_rmul (F.args_int_rmul_2 _ _) (int___rmul___int_list k t l its.toArray n)
   ⟨e,rfl,⟨_,e,rfl⟩,JH F.slot_list_mul ⟨_,e,rfl⟩ F.entry_list_mul (F.args_list_mul_2 _ _) (AutoListH.list___mul___list_int_3 l its.toArray n k t hfit hcap hlong) ⟨e,?_⟩⟩)
 rw[hnew];exact⟨.ref _,_,I.lnew (t':=s.toks) (r.rep k.toNat) (by rw[xu,Nat.mul_comm];exact hz),rfl,q _ I.fresh⟩
end
section
variable{κ:Type}[DecidableEq κ]
def fH(kvs:List (κ×V))(k:κ):Option V:=(kvs.find? fun kv=>decide<|kv.1=k).map (·.2)
def iA(kvs:List (κ×V))(k:κ)(v:V):List (κ×V):=
 if(kvs.any fun kv=>decide<|kv.1=k)=true then kvs.map (fun kv=>if kv.1=k then(kv.1,v)else kv)else kvs++[(k,v)]
theorem gO{p:κ×V}{r:List (κ×V)}{k:κ}(e:p.1=k):fH (p::r) k=some p.2:=by simp[fH,HX,e]
theorem gP{p:κ×V}{r:List (κ×V)}{k:κ}(e:¬p.1=k):fH (p::r) k=fH r k:=by simp[fH,HX,e]
theorem o4(k:κ):∀kvs:List (κ×V),(kvs.any fun kv=>decide<|kv.1=k)=(fH kvs k).isSome
 | []=>rfl
 |p::r=>by
  rw[Je];by_cases e:p.1=k;·simp only[gO e,decide_eq_true e,Bool.true_or,Lm]
  ·rw[gP e,decide_eq_false e,Bool.false_or];exact o4 k r
theorem jH(kvs:List (κ×V))(k:κ)(v:V):(iA kvs k v).length<=kvs.length+1:=by
 unfold iA;split;·rw[Fz];omega
 ·rw[Fn,FV,HY];omega
theorem RelO.isSome_eq{o:Option V}{u:Option EI}(r:RelO o u):o.isSome=u.isSome:=by
 cases o with
 |none=>cases u with
  |none=>rfl
  |some _=>exact(show False from r).elim
 |some _=>cases u with
  |none=>exact(show False from r).elim
  |some _=>rfl
theorem RelO.getD{o:Option V}{u:Option EI}{d:V}{d':EI}(r:RelO o u)(rd:RelV d d'):RelV (o.getD d) (u.getD d'):=by
 cases o with
 |none=>cases u with
  |none=>exact rd
  |some _=>exact(show False from r).elim
 |some _=>cases u with
  |none=>exact(show False from r).elim
  |some _=>exact r
theorem KV.val{kvs:List (κ×V)}{vs:List (κ×EI)}(r:KV kvs vs)(k:κ):RelO (fH kvs k) (valueAt vs k):=by
 unfold KV at r
 induction r with
 |nil=>exact HC
 | @cons p q ps qs h t ih=>
  obtain⟨h1,h2⟩:=h;by_cases e:p.1=k
  ·have e':q.1=k:=h1.symm.trans e;have b:valueAt (q::qs) k=some q.2:=by simp[valueAt,HX,e']
   rw[gO e,b];exact h2
  ·have e':¬q.1=k:=fun z=>e<|h1.trans z;have b:valueAt (q::qs) k=valueAt qs k:=by simp[valueAt,HX,e']
   rw[gP e,b];exact ih
theorem KV.any{kvs:List (κ×V)}{vs:List (κ×EI)}(r:KV kvs vs)(k:κ):(kvs.any fun kv=>decide<|kv.1=k)=vs.any fun kv=>decide (kv.1=k):=by
 unfold KV at r
 induction r with
 |nil=>rfl
 |cons h t ih=>rw[Je,Je,ih,h.1]
theorem KV.repl{kvs:List (κ×V)}{vs:List (κ×EI)}(r:KV kvs vs)(k:κ){y:V}{u:EI}(ry:RelV y u):
  KV (kvs.map fun kv=>if kv.1=k then(kv.1,y)else kv) (vs.map fun kv=>if kv.1=k then(kv.1,u)else kv):=by
 unfold KV at r ⊢
 induction r with
 |nil=>exact .nil
 | @cons p q ps qs h t ih=>
  rw[FZ,FZ];refine .cons ?_ ih;obtain⟨h1,h2⟩:=h;by_cases e:p.1=k;·rw[if_pos e,if_pos<|h1.symm.trans e];exact⟨h1,ry⟩
  ·rw[if_neg e,if_neg<|fun z=>e<|h1.trans z];exact⟨h1,h2⟩
theorem KV.put{kvs:List (κ×V)}{vs:List (κ×EI)}(r:KV kvs vs)(k:κ){y:V}{u:EI}(ry:RelV y u):KV (iA kvs k y) (stored vs k u):=by
 unfold iA stored;rw[r.any k];by_cases e:(vs.any fun kv=>decide<|kv.1=k)=true;·rw[if_pos e,if_pos e];exact r.repl k ry
 ·rw[if_neg e,if_neg e];exact Paired.snoc r ⟨rfl,ry⟩
theorem KV.length{kvs:List (κ×V)}{vs:List (κ×EI)}(r:KV kvs vs):kvs.length=vs.length:=Paired.length r
end
theorem lZ{P:Ff}{w:Fp}{k:Key}{u:EI}(r:RelV (kV k) u):(bK P w).is k u=true:=by
 cases k with
 |inl i=>obtain⟨t,e⟩:=(show ∃t,u=Jz i t from r);subst e;exact nM P w i t
 |inr x=>obtain⟨t,e⟩:=(show ∃t,u=L5 x t from r);subst e;exact nN P w x t
theorem m7{P:Ff}{w:Fp}:∀{ks:List Key}{us:List EI},Vals (ks.map kV) us->ItemsAre (bK P w) ks us
 | [],_,r=>by rw[IQ]at r;cases r;exact .nil
 |k::ks,_,r=>by
  rw[FZ]at r;cases r with
  |cons h t=>exact .cons (lZ h)<|m7 t
abbrev KT(H:Hp):List (List Key×V)->List (List Key×Addr×EI)->Prop:=Paired fun p q=>p.1=q.1/\H q.2.1=some (.tup<|p.1.map kV)/\RelV p.2 q.2.2
theorem KT.val{H:Hp}{kvs:List (List Key×V)}{xs:List (List Key×Addr×EI)}(r:KT H kvs xs)(k:List Key):RelO (fH kvs k) ((atKey xs k).map (·.2)):=by
 induction r with
 |nil=>exact HC
 | @cons p q ps qs h t ih=>
  obtain⟨h1,_,h2⟩:=h;by_cases e:p.1=k
  ·have e':q.1=k:=h1.symm.trans e;have b:atKey (q::qs) k=some q.2:=by simp[atKey,HX,e']
   rw[gO e,b];exact h2
  ·have e':¬q.1=k:=fun z=>e<|h1.trans z;have b:atKey (q::qs) k=atKey qs k:=by simp[atKey,HX,e']
   rw[gP e,b];exact ih
theorem KT.repl{H:Hp}{kvs:List (List Key×V)}{xs:List (List Key×Addr×EI)}(r:KT H kvs xs)(k:List Key){y:V}{u:EI}(ry:RelV y u):
  KT H (kvs.map fun kv=>if kv.1=k then(kv.1,y)else kv) (xs.map<|putAt k u):=by
 induction r with
 |nil=>exact .nil
 | @cons p q ps qs h t ih=>
  rw[FZ,FZ];refine .cons ?_ ih;obtain⟨h1,h2,h3⟩:=h;unfold putAt;by_cases e:p.1=k;·rw[if_pos e,if_pos<|h1.symm.trans e];exact⟨h1,h2,ry⟩
  ·rw[if_neg e,if_neg<|fun z=>e<|h1.trans z];exact⟨h1,h2,h3⟩
theorem KT.put{H:Hp}{kvs:List (List Key×V)}{xs:List (List Key×Addr×EI)}(r:KT H kvs xs)(k:List Key){b:Addr}{y:V}{u:EI}(hb:H b=some (.tup<|k.map kV))(ry:RelV y u):
  KT H (iA kvs k y) (storedH xs k b u):=by
 have e:(kvs.any fun kv=>decide<|kv.1=k)=(atKey xs k).isSome:=by
  rw[o4,(r.val k).isSome_eq,LJ]
 unfold iA storedH;rw[e];by_cases q:(atKey xs k).isSome=true;·rw[if_pos q,if_pos q];exact r.repl k ry
 ·rw[if_neg q,if_neg q];exact Paired.snoc r ⟨rfl,hb,ry⟩
theorem KT.keeps{H H':Hp}{kvs:List (List Key×V)}{xs:List (List Key×Addr×EI)}(r:KT H kvs xs)(ht:∀b ys,H b=some (.tup ys)->H' b=some (.tup ys)):KT H' kvs xs:=
 Paired.mapP r fun _ _ z=>⟨z.1,ht _ _ z.2.1,z.2.2⟩
section
variable{P:Ff}{w:Fp}{H:Hp}{h:Heap}{a:Addr}
theorem z6{u:HO}(ok:HOk P w H h)(e:Rd H a u):ObjOk P w H h a u:=e.ok ok
theorem kJ{kvs:List (Key×V)}(ok:HOk P w H h)(e:Rd H a (.dK kvs)):kvs.length<=sizeLine/\(a==sysModules)=false/\∃vs,KV kvs vs/\h.DictOf (bK P w) a vs:=
 show ObjOk P w H h a (.dK kvs)from z6 ok e
theorem AS{kvs:List (Key×V)}(ok:HOk P w H h)(e:H a=some (.dK kvs)):kvs.length<=sizeLine/\(a==sysModules)=false/\∃vs,KV kvs vs/\h.DictOf (bK P w) a vs:=kJ ok<|.inl e
theorem kK{ks:List Key}(ok:HOk P w H h)(e:H a=some (.tup<|ks.map kV)):(tupleKind<|bK P w).is h ks a:=by
 obtain⟨_,its,r,o,h1,⟨h2,_⟩,n,h3⟩:=(show ObjOk P w H h a (.tup<|ks.map kV)from ok a _ e)
 exact⟨o,its.toArray,n,h1,h2,h3,by simpa using m7 r⟩
theorem m8{kvs:List (List Key×V)}(ok:HOk P w H h)(e:Rd H a (.dT kvs)):kvs.length<=sizeLine/\(a==sysModules)=false/\
  ∃xs,KT H kvs xs/\h.DictOfH (tupleKind<|bK P w) a xs:=by
 obtain⟨z,y,xs,r,o,es,ep,h1,h2,h3,h4,h5⟩:=(show ObjOk P w H h a (.dT kvs)from z6 ok e)
 refine⟨z,y,xs,r,o,es,ep,h1,h2,h3,h4,fun x hx=>?_,h5⟩;have all:∀{l:List (List Key×V)}{m:List (List Key×Addr×EI)},KT H l m->∀x∈m,(tupleKind<|bK P w).is h x.1 x.2.1:=by
  intro l m q
  induction q with
  |nil=>intro x hx;exact nomatch hx
  | @cons p q ps qs hq t ih=>
   intro x hx;rcases F9.mp hx with e|hx
   ·subst e;exact kK ok (by rw[<-hq.1];exact hq.2.1)
   ·exact ih x hx
 exact all r x hx
theorem AU{kvs:List (List Key×V)}(ok:HOk P w H h)(e:H a=some (.dT kvs)):kvs.length<=sizeLine/\(a==sysModules)=false/\
  ∃xs,KT H kvs xs/\h.DictOfH (tupleKind<|bK P w) a xs:=m8 ok<|.inl e
end
def DGet(H:Hp)(a:Addr)(y:V)(r:Option V):Prop:=
 (∃kvs k,Rd H a (.dK kvs)/\y=kV k/\r=fH kvs k)\/∃kvs k b,Rd H a (.dT kvs)/\y=.ref b/\H b=some (.tup<|k.map kV)/\r=fH kvs k
def DPut(H:Hp)(a:Addr)(y v:V)(H':Hp):Prop:=
 (∃kvs k,H a=some (.dK kvs)/\y=kV k/\kvs.length<sizeLine/\H'=cy H a (.dK<|iA kvs k v))\/
 ∃kvs k b,H a=some (.dT kvs)/\y=.ref b/\H b=some (.tup<|k.map kV)/\kvs.length<sizeLine/\H'=cy H a (.dT<|iA kvs k v)
theorem DGet.k{H:Hp}{a:Addr}{kvs:List (Key×V)}{k:Key}(e:H a=some (.dK kvs)):DGet H a (kV k) (fH kvs k):=.inl ⟨kvs,k,.inl e,rfl,rfl⟩
theorem DPut.k{H:Hp}{a:Addr}{kvs:List (Key×V)}{k:Key}{v:V}(e:H a=some (.dK kvs))(hl:kvs.length<sizeLine):DPut H a (kV k) v (cy H a<|.dK<|iA kvs k v):=.inl ⟨kvs,k,e,rfl,hl,rfl⟩
section
variable{X:Cx}{pins:List (Addr×Obj)}{σ:St}{H:Hp}{s:EM}{a:Addr}{y v:V}{u r:EI}{o:Option V}{A:Fu}{E:EI->EM->Prop}
theorem Inv.big(I:Inv X pins σ H s):sysModules<s.heap.objs.size:=by
 have h:mainGlobals<s.heap.objs.size:=(I.mod.glob.keeps I.bk).lt;exact Kr (by decide) h
theorem m9{Q:EI->EM->Prop}(hu:A.units+1<cLine)(I:Inv X pins σ H s)(g:DGet H a y (some v))(ry:RelV y u)(h:∀w' s',Inv X pins σ H s'->RelV v w'->Q w' s'):
  wpAny (model X.prog X.w) A (getItem (.ref a) u) Q E s:=by
 rcases g with⟨kvs,k,e,ey,l⟩|⟨kvs,k,b,e,ey,eb,l⟩
 ·subst ey;obtain⟨z,hd,vs,rel,dd⟩:=kJ I.hok e;obtain⟨w',hw,rw'⟩:=LV (v:=v) (o:=valueAt vs k) (by rw[l];exact rel.val k);exact M0 (lZ ry) dd.mapOf hw<|h w' _ (I.tok _) rw'
 ·subst ey;cases (show u=F6 b from ry);obtain⟨z,hd,xs,rel,dd⟩:=m8 I.hok e;obtain⟨w',hw,rw'⟩:=LV (v:=v) (o:=(atKey xs k).map (·.2)) (by rw[l];exact rel.val k);obtain⟨p,hp,hp2⟩:=Hb.mp hw;refine wpAny_getItem_heap (IE hu) (kK I.hok eb) dd hp ?_;rw[hp2];exact h w' _ (I.tok _) rw'
theorem xv{Q:EI->EM->Prop}(hu:A.units+1<cLine)(I:Inv X pins σ H s)(g:DGet H a y o)(ry:RelV y u)(h:∀s',Inv X pins σ H s'->Q (.bool<|!o.isSome) s'):
  wpAny (model X.prog X.w) A (compareOp .NotIn u<|.ref a) Q E s:=by
 rcases g with⟨kvs,k,e,ey,l⟩|⟨kvs,k,b,e,ey,eb,l⟩
 ·subst ey;obtain⟨z,hd,vs,rel,dd⟩:=kJ I.hok e;refine wpAny_notIn_of (lZ ry) hd dd.mapOf ?_;rw[<-(rel.val k).isSome_eq,<-l];exact h _<|I.tok _
 ·subst ey;cases (show u=F6 b from ry);obtain⟨z,hd,xs,rel,dd⟩:=m8 I.hok e;refine wpAny_notIn_heap (IE hu) (kK I.hok eb) hd dd ?_;have q:=(rel.val k).isSome_eq;rw[LJ]at q;rw[<-q,<-l];exact h _<|I.tok _
theorem qx{h':Heap}{t':Nat}{ob:HO}(I:Inv X pins σ H s)(mu:AK (H a))(hs:Fj a s.heap h')(he:∃q,h'.get? a=some q)(new:ObjOk X.prog X.w (cy H a ob) h' a ob):
  Inv X pins σ (cy H a ob) {s with heap:=h',toks:=t'}:=
 I.write (x:=a) (e:=a) mu (.inl rfl) (fun b q hb z=>(hs.2 b hb).trans z) he new
theorem uo{P:Ff}{w:Fp}{H':Hp}{h':Heap}{kvs:List (Key×V)}{vs:List (Key×EI)}(z:kvs.length<=sizeLine)(hd:(a==sysModules)=false)(rel:KV kvs vs)(dd:h'.DictOf (bK P w) a vs):
  ObjOk P w H' h' a (.dK kvs):=⟨z,hd,vs,rel,dd⟩
theorem me{H':Hp}{Q:Unit->EM->Prop}(hu:A.units+1<cLine)(I:Inv X pins σ H s)(g:DPut H a y v H')(ry:RelV y u)(rv:RelV v r)(h:∀s',Inv X pins σ H' s'->Q () s'):
  wpAny (model X.prog X.w) A (setItem (.ref a) u r) Q E s:=by
 rcases g with⟨kvs,k,e,ey,l,eH⟩|⟨kvs,k,b,e,ey,eb,l,eH⟩
 ·subst ey eH;obtain⟨z,hd,vs,rel,dd⟩:=AS I.hok e;have hz:vs.length<=sizeLine:=by rw[<-rel.length];exact z
  have hl:(iA kvs k v).length<=sizeLine:=by have:=jH kvs k v;omega
  refine wpAny_setItem_pairs (hsz:=hz) (lZ ry) dd fun h' dd' hs=>h _ ?_;have he:∃q,h'.get? a=some q:=let ⟨q,_,_,hq,_⟩:=dd';⟨q,hq⟩;exact qx I (by rw[e];exact HC) hs he<|uo hl hd (rel.put k rv) dd'
 ·subst ey eH;cases (show u=F6 b from ry);obtain⟨z,hd,xs,rel,dd⟩:=AU I.hok e;have hz:xs.length<=sizeLine:=by rw[<-Paired.length rel];exact z
  have hl:(iA kvs k v).length<=sizeLine:=by have:=jH kvs k v;omega
  refine wpAny_setItem_heap (hsz:=hz) (IE hu) (kK I.hok eb) dd fun h' dd' hs=>h _ ?_;obtain⟨q,es,ep,hq,h2,h3,h4,_,h5⟩:=dd';refine qx I (by rw[e];exact HC) hs ⟨q,hq⟩ ⟨hl,hd,_,(rel.put k eb rv).keeps fun c ys ec=>?_,q,es,ep,hq,h2,h3,h4,h5⟩;rw[ao (AJ ec e (fun z=>nomatch z))];exact ec
end
def xw(i:Expr):Prop:=∀ov iv,subscripted i false ov iv=operate [ov,iv] (getItem ov iv)
theorem qy{prog:Ff}{w:Fp}{A:Fu}{E:EI->EM->Prop}{s:EM}{env:Env}{value slice:Expr}{pos:Pos}{T id:String}{Q:EI->EM->Prop}
  (hl:typeLookup (.type T) "__getitem__"=pure (some<|.builtin id)) (hs:xw slice)
  (h:wpAny (model prog w) A (eval value env) (fun o s₁=>wpAny (model prog w) A (eval slice env) (fun i s₂=>s₂.TypeIs o T/\wpAny (model prog w) A (getItem o i) Q E s₂) E s₁) E s):
  wpAny (model prog w) A (eval (.Subscript value slice pos) env) Q E s:=by
 refine Mm<|Gz h (fun o s₁ h₁=>Gz h₁ (fun i s₂ h₂=>?_) fun _ _ x=>x) fun _ _ x=>x;obtain⟨hT,h₂⟩:=h₂;unfold subscriptTail;refine EE ?_;rw[getitemInPython_of_ne hT.not_modules];refine EE<|Me hT hl ?_;have fin:wpAny (model prog w) A (subscripted slice false o i) (fun r s₃=>wpAny (model prog w) A (letTemporaryGo value o r>>=fun _=>pure r) Q E s₃) E s₂:=by
  rw[hs o i];exact wpAny_operating<|Gz h₂ (fun r s₃ h₃=>EE<|wpAny_letTemporaryGo<|ES h₃) fun _ _ x=>x
 first
  |exact ES<|EE fin
  |exact EE<|ES<|EE fin
  |exact EE fin
theorem o6{X:Cx}{pins:List (Addr×Obj)}{σ:St}{H:Hp}{s:EM}{a:Addr}{y:V}{o:Option V}(I:Inv X pins σ H s)(g:DGet H a y o):s.TypeIs (.ref a) "dict":=by
 rcases g with⟨kvs,k,e,_,_⟩|⟨kvs,k,b,e,_,_,_⟩
 ·obtain⟨_,_,vs,_,dd⟩:=kJ I.hok e;exact dd.typeIs
 ·obtain⟨_,_,xs,_,dd⟩:=m8 I.hok e;exact dd.typeIs
def z7(td ty:TE):TE:=fun σ H Q=>td σ H fun x H1=>ty σ H1 fun y H2=>∃a v,x=.ref a/\DGet H2 a y (some v)/\Q v H2
def qz(ty td:TE):TE:=fun σ H Q=>ty σ H fun y H1=>td σ H1 fun x H2=>∃a o,x=.ref a/\DGet H2 a y o/\Q (.bl<|!o.isSome) H2
def bO(td ty tv:TE):TS:=fun D σ H=>tv σ H fun v H1=>td σ H1 fun x H2=>ty σ H2 fun y H3=>∃a H4,x=.ref a/\DPut H3 a y v H4/\D.nx σ H4
def z8(td ty tv:TE)(rd:V->V->Hp->VK->Prop):TS:=fun D σ H=>td σ H fun x H1=>ty σ H1 fun y H2=>∃a v,x=.ref a/\DGet H2 a y (some v)/\
 tv σ H2 fun y2 H3=>rd v y2 H3 fun z H4=>∃H5,DPut H4 a y z H5/\D.nx σ H5
section
variable{X:Cx}{o i e value:Expr}{pos pos' tpos:Pos}{td ty tv:TE}
theorem xx(hu:X.A.units+1<cLine)(ho:PE X o td)(hi:PE X i ty)(hs:xw i):PE X (.Subscript o i pos) (z7 td ty):=by
 intro pins s σ H Q I h;refine qy JO.lookup hs<|cb (ho pins s σ H _ I h) fun u s1 zz=>?_;obtain⟨x,H1,I1,rx,q1⟩:=zz;refine cb (hi pins s1 σ H1 _ I1 q1) fun iv s2 zz=>?_;obtain⟨y,H2,I2,ry,a,v,ex,g,q2⟩:=zz;subst ex;obtain rfl:u=F6 a:=rx;exact⟨o6 I2 g,m9 hu I2 g ry fun w' s3 I3 rw'=>⟨v,H2,I3,rw',q2⟩⟩
theorem rV(hu:X.A.units+1<cLine)(hi:PE X i ty)(ho:PE X o td):PC X .NotIn i o (qz ty td):=by
 intro pins s σ H Q I h;refine cb (hi pins s σ H _ I h) fun iv s1 zz=>?_;obtain⟨y,H1,I1,ry,q1⟩:=zz;refine cb (ho pins s1 σ H1 _ I1 q1) fun u s2 zz=>?_;obtain⟨x,H2,I2,rx,a,ov,ex,g,q2⟩:=zz;subst ex;obtain rfl:u=F6 a:=rx;exact xv hu I2 g ry fun s3 I3=>⟨.bl<|!ov.isSome,H2,I3,rfl,q2⟩
theorem iR(hu:X.A.units+1<cLine)(ho:PE X o td)(hi:PE X i ty)(hv:PE X value tv)(hs:swapsWith value (some<|.Subscript o i pos') pos.line X.env=pure false):
  PS X (.Assign [.Subscript o i pos'] value pos) (bO td ty tv):=by
 intro pins s σ H D I h;refine wpAny_Assign_Subscript (cb (hv pins s σ H _ I h) fun r s1⟨v,H1,I1,rv,q1⟩=>cb (ho pins s1 σ H1 _ I1 q1) fun u s2⟨x,H2,I2,rx,q2⟩=>cb (hi pins s2 σ H2 _ I2 q2) fun iv s3⟨y,H3,I3,ry,a,H4,ex,g,q3⟩=>?_) hs;subst ex;obtain rfl:u=F6 a:=rx;exact me hu I3 g ry rv fun s4 I4=>⟨σ,H4,I4,q3⟩
theorem xy{op:Nv}{rd:V->V->Hp->VK->Prop}(hu:X.A.units+1<cLine)(ho:PE X o td)(hi:PE X i ty)(hv:PE X value tv)(hop:zC X op rd)
  (ha:∀ov iv new,augStore i ov iv new=(do holding [new,ov,iv] (setItem ov iv new);release [new,ov,iv] [];pure .next)):PS X (.AugAssign (.Subscript o i tpos) op value pos) (z8 td ty tv rd):=by
 intro pins s σ H D I h;refine wpAny_AugAssign_SubscriptAny (cb (ho pins s σ H _ I h) fun u s1⟨x,H1,I1,rx,q1⟩=>cb (hi pins s1 σ H1 _ I1 q1) fun iv s2⟨y,H2,I2,ry,a,v,ex,g,q2⟩=>?_) ha;subst ex;obtain rfl:u=F6 a:=rx;refine m9 hu I2 g ry fun w' s3 I3 rw'=>cb (hv pins s3 σ H2 _ I3 q2) fun w2 s4 zz=>?_;obtain⟨y2,H3,I4,ry2,q3⟩:=zz;refine cb (hop pins s4 σ H3 v y2 w' w2 _ I4 rw' ry2 q3) fun w3 s5 zz=>?_;obtain⟨z,H4,I5,rz,H5,g5,q4⟩:=zz;exact me hu I5 g5 ry rz fun s6 I6=>⟨σ,H5,I6,q4⟩
end
theorem ur{P:Ff}{w:Fp}{H:Hp}(h:Heap)(hb:sysModules<h.objs.size):ObjOk P w H (h.push {cls:=.type "dict",data:=.dict #[]}) h.objs.size (.dK []):=
 ⟨Jg _,beq_eq_false_iff_ne.mpr<|Gh<|Fd hb,[],.nil,Oc h⟩
def bw:TE:=fun _ H Q=>∀p,H p=none->Q (.ref p) (cy H p<|.dK [])
section
variable{X:Cx}{pos:Pos}
theorem o8:PE X (.Dict [] [] pos) bw:=fun pins s σ H Q I h=>
 wpAny_Dict_empty ⟨.ref s.heap.objs.size,_,I.laid (a:=s.heap.objs.size) (o:=.dK []) (t':=s.toks) (fun _ _ q=>EJ _ q) (Fb _)<|ur s.heap I.big,rfl,h _<|I.hok.fresh<|Fb _⟩
end
structure M2(X:Cx)(o:Expr)(m:Str)(apos:Pos)(e f:Expr)(cpos:Pos):Prop where
 base:attributeBase o m X.env (eval o X.env)=eval o X.env
 few:((backTo cpos<|starEach [e,f] X.env).all (fun x=> !x.1)&&(backToKw cpos<|keywordEach [] X.env).all (fun x=>x.1.isSome)
  &&decide (([e,f]:List Expr).length+([]:List Kq).length+(if([]:List Kq).isEmpty then 0 else 1)<30))=true
 line:(apos.endLine==cpos.line)=true
 trees:backTo cpos (starEach [e,f] X.env)=[(false,eval e X.env),(false,eval f X.env)]
def Di(H:Hp)(a:Addr):Prop:=(∃kvs,Rd H a<|.dK kvs)\/∃kvs,Rd H a<|.dT kvs
theorem uu{X:Cx}{pins:List (Addr×Obj)}{σ:St}{H:Hp}{s:EM}{a:Addr}(I:Inv X pins σ H s)(d:Di H a):
  s.TypeIs (.ref a) "dict"/\(∀b,F6 a=.ref b->∃ob,s.heap.get? b=some ob/\ob.dict=none)/\(a==sysModules)=false:=by
 rcases d with⟨kvs,e⟩|⟨kvs,e⟩
 ·obtain⟨_,hd,vs,_,dd⟩:=kJ I.hok e;refine⟨dd.typeIs,fun b q=>?_,hd⟩;cases q;obtain⟨ob,_,_,h1,h2,_⟩:=dd;exact⟨ob,h1,h2.2.1⟩
 ·obtain⟨_,hd,xs,_,dd⟩:=m8 I.hok e;refine⟨dd.typeIs,fun b q=>?_,hd⟩;cases q;obtain⟨ob,_,_,h1,h2,_⟩:=dd;exact⟨ob,h1,h2.2.1⟩
section
variable{X:Cx}{pins:List (Addr×Obj)}{σ:St}{H:Hp}{s:EM}{a:Addr}{y d:V}{u r:EI}{o:Option V}{A:Fu}{E:EI->EM->Prop}
theorem zI{Q:EI->EM->Prop}(hu:A.units+1<cLine)(I:Inv X pins σ H s)(g:DGet H a y o)(ry:RelV y u)(rd:RelV d r)(h:∀w' s',Inv X pins σ H s'->RelV (o.getD d) w'->Q w' s'):
  wpAny (model X.prog X.w) A (call (.builtin "dict.get") [.ref a,u,r]) Q E s:=by
 rcases g with⟨kvs,k,e,ey,l⟩|⟨kvs,k,b,e,ey,eb,l⟩
 ·subst ey;obtain⟨z,hd,vs,rel,dd⟩:=kJ I.hok e;refine LK J5 dd.typeIs Ks (Kb _ _ _) (meets_dict_get_default (bK X.prog X.w) a (lZ ry) hd r) ⟨_,dd.mapOf,h _ _ (I.tok _) ?_⟩;rw[l];exact(rel.val k).getD rd
 ·subst ey;cases (show u=F6 b from ry);obtain⟨z,hd,xs,rel,dd⟩:=m8 I.hok e;refine LK J5 dd.typeIs Ks (Kb _ _ _) (meetsH_dict_get_default (tupleKind<|bK X.prog X.w) a b hd r) ⟨IE hu,k,xs,kK I.hok eb,dd,h _ _ (I.tok _) ?_⟩;rw[l];exact(rel.val k).getD rd
end
def uv(td ty tx:TE):TE:=fun σ H Q=>td σ H fun x H1=>∃a,x=.ref a/\Di H1 a/\ty σ H1 fun y H2=>tx σ H2 fun z H3=>∃o,DGet H3 a y o/\Q (o.getD z) H3
section
variable{X:Cx}{o e f:Expr}{apos cpos:Pos}{td ty tx:TE}
theorem gQ(hu:X.A.units+1<cLine)(ho:PE X o td)(he:PE X e ty)(hf:PE X f tx)(m:M2 X o "get" apos e f cpos):PE X (.Call (.Attribute o "get" apos) [e,f] [] cpos) (uv td ty tx):=by
 intro pins s σ H Q I h;refine wpAny_Call_method m.base m.few m.line Kc J5 PySem.F.type_dict_get<|cb (ho pins s σ H _ I h) fun u s1 zz=>?_;obtain⟨x,H1,I1,rx,a,ex,d,q1⟩:=zz;subst ex;obtain rfl:u=F6 a:=rx;obtain⟨t1,t2,_⟩:=uu I1 d;refine⟨t1,t2,?_⟩;rw[m.trees];refine HU rfl (Ji (JE (cb (he pins s1 σ H1 _ I1 q1) fun iv s2⟨y,H2,I2,ry,q2⟩=>
  JE (cb (hf pins s2 σ H2 _ I2 q2) fun fv s3⟨z,H3,I3,rz,ov,g,q3⟩=>LD ?_))))
 exact zI hu I3 g ry rz fun w' s4 I4 rw'=>⟨_,H3,I4,rw',q3⟩
end
section
variable{X:Cx}{pins:List (Addr×Obj)}{σ:St}{H:Hp}{s:EM}{a:Addr}{kvs:List (Key×V)}{A:Fu}{E:EI->EM->Prop}
theorem uw{Q:EI->EM->Prop}(I:Inv X pins σ H s)(e:Rd H a (.dK kvs))(h:∀p s',H p=none->Inv X pins σ (cy H p<|.dK kvs) s'->Q (.ref p) s'):wpAny (model X.prog X.w) A (call (.type "dict") [.ref a]) Q E s:=by
 obtain⟨z,hd,vs,rel,dd⟩:=kJ I.hok e;refine kt_call_dict hd dd (by rw[<-rel.length];exact z) fun h' dd' hs=>?_;refine h _ _ (I.hok.fresh<|Fb _)<|I.laid (a:=s.heap.objs.size) (o:=.dK kvs) (t':=s.toks) (fun b q hq=>?_) (Fb _)<|uo z (beq_eq_false_iff_ne.mpr<|Gh<|Fd I.big) rel dd';exact(hs.2 b<|Fd<|F0 hq).trans (EJ _ hq)
end
end L2
namespace Att
open PySem PySem.W PySem.Calls PyProof.Rows
theorem jS{P:NM}{h:Heap}:∀(ns:List Int)(vs:List EI),WellAll P h vs (ns.map O1)->LF vs ns:=by
 intro ns
 induction ns with
 |nil=>
  intro vs w;rw[IQ]at w;cases w;exact .nil
 |cons n ns ih=>
  intro vs w;rw[FZ]at w;cases w with
  |cons a b=>
   cases a;exact .cons _ _<|ih _ b
theorem rW{l:Jj}{n:Nat}(hn:l.most=some n){P:NM}{h:Heap}{args:List WData}{vals:List EI}
  (hpre:l.row.toRowW.claim.pre args=true) (hwl:WellAll P h vals args):
  ∃a vs ns,vals=[F6 a]/\args=[WData.list (ns.map O1)]/\h.get? a=some {cls:=.type "list",data:=.seq vs.toArray}/\LF vs ns/\ns.length<=n:=by
 have hsh:WShape.hasAll [] args [.list .int]=true:=(pre_splitW hpre).1;have hc:l.pre.holds [] {args:=args}=true:=(pre_splitW hpre).2;obtain⟨d,r,rfl,h1,h2⟩:=hasAllW_cons hsh;obtain rfl:=hasAllW_nil h2;obtain⟨xs,rfl,h3⟩:=hasW_list h1;obtain⟨ns,rfl⟩:=items_int h3;have hlen:ns.length<=n:=by
  unfold OpenLaw.pre at hc;have h4:(WTm.not<|.lt (.lit<|.int (n:Int))<|.len<|.arg 0).holds [] {args:=[.list (ns.map .int)]}=true:=by
   have h4:=(holds_andW hc).1;rw[hn]at h4;exact h4
  have h5:=condW_of h4<|w_not<|w_lt w_lit<|w_len_list<|w_arg rfl;rw[Fz]at h5;refine Nat.le_of_not_lt fun q=>?_;have q':(n:Int)<((ns.length:Nat):Int):=by omega
  first
   |(rw[decide_eq_true q']at h5;exact absurd h5 (by decide))
   |(simp at h5;omega)
 cases hwl with
 |cons w1 w2=>
  cases w2;cases w1 with
  |list ho hall=>exact⟨_,_,ns,rfl,rfl,ho,jS ns _ hall,hlen⟩
theorem rX(l:Jj)(args:List WData):l.row.toRowW.claim.post args (.bool true) args=true:=
 postW_of (r:=l.row.toRowW) (X:=(true==true))
  (show NO [] (.bool true) .bool=true by first|rfl|decide|simp[NO,WShape.arms,WShape.armsAll])
  (show(WTm.eq .res<|.lit<|.bool true).value [] {args:=args,res:=some<|.bool true,after:=args}=some (.bool<|true==true)from w_eq_bool (w_res rfl) w_lit) rfl
theorem attach_call{l:Jj}{n:Nat}{q:Ff}{loose:List Str}{XP:(Str->Option EI)->Heap->Prop}{YP:Fp->Heap->Prop}{d:DefRec}
  (hn:l.most=some n) (hdf:d.params.defaults=[])
  (call:∀(w:Fp) (s₀ s₁:EM) (mg mb:Str->Option EI) (fa:Addr) (o:Obj) (pm cd doc:EI) (a:Addr) (vs:List EI) (ns:List Int),
   Ground q loose [] XP w s₀ mg mb s₁.heap->YP w s₁.heap->
   s₁.heap.get? fa=some o->o.data=.func (docDef d.name d.params d.body d.scope pm cd doc)->s₁.heap.CodeRec cd d.name->mg d.name=some (.ref fa)->
   s₁.heap.get? a=some {cls:=.type "list",data:=.seq vs.toArray}->LF vs ns->ns.length<=n->s₁.gens= #[]->
   codeAny (model l.prog w) callerA (.call (.ref fa) ⟨[.ref a],[]⟩) (fun r s'=>r=.ok (.ret (.bool true))/\OldK s₁.heap s'.heap/\s'.os=s₁.os/\Jw s'.gens) s₁):
  Mg q loose XP YP l.row.toRowW d [] (fun f vs=>Mr f vs):=by
 intro w s₀ s₁ mg mb G Y fa o pm cd doc dV kV ho hd hcd hD hmg hg args vals as hpre hlay hrd hwl hlo;obtain rfl:dV=.none:=Dflts.none hD hdf;obtain rfl:kV=.none:=Dflts.noKw hD;obtain⟨a,vs,ns,rfl,rfl,hobj,hints,hlen⟩:=rW hn hpre hwl;refine enter_call<|Jx (call w s₀ s₁ mg mb fa o pm cd doc a vs ns G Y ho (fd_plain hd) hcd hmg hobj hints hlen hg) fun r s' hq=>?_;obtain⟨rfl,h2,h3,h4⟩:=hq;exact⟨.inl ⟨.bool true,.bool true,[],rfl,fun _=>rfl,.bool true,rX l _,fun _=>⟨JT,fun _ hm=>(nomatch hm)⟩⟩,h2,h3,h4⟩
end Att
namespace L2
open PySem PySem.Spec PyProof.Rows
theorem mj:∀{vs:List EI}{ns:List Int},LF vs ns->Vals (ns.map Ir) vs
 |_,_,.nil=>.nil
 |_,_,.cons n t h=>.cons ⟨t,rfl⟩<|mj h
def zJ(H:Hp):Prop:=∀b,H b=none\/∃o xs,H b=some (.frz o<|.lst xs)
theorem ux{P:Ff}{w:Fp}{K:EH}{mg mb:Str->Option EI}{CX:CXT}{k:Nat}{fa a:Addr}{fd:F8}{x:Str}{sp:Sp}{s₁:EM}{vs:List EI}{ns:List Int}
  (KX:K.In s₁.heap) (hns:s₁.heap.Ns mainGlobals mg) (hb:s₁.heap.Ns builtinsNs mb) (hbb:∀x:Str,x≠"__name__"->mb x=bootBuiltins x) (hlim:s₁.heap.NoLimit) (hg:s₁.gens= #[])
  (ha:s₁.heap.get? a=some {cls:=.type "list",data:=.seq vs.toArray}) (hi:LF vs ns) (hl:ns.length<=sizeLine) (hr:Room k callerA)
  (F:∀base:Heap,K.In base->base.Ns mainGlobals mg->FnOk P w K mg base CX k fa fd [x] sp) (hbind:∀(s:EM)(u:EI),L7 s fd ⟨[u],[]⟩ [(x,u)])
  (hsp:∀H:Hp,zJ H->SqL K H a (ns.map Ir)->sp [.ref a] H (fun v _=>v=.bl true) fun _ _ _=>False)
  (hCX:∀H e s',CX [] H s₁ (fun _ _ _=>False) e s'->False):
  codeAny (model P w) callerA (.call (.ref fa) ⟨[.ref a],[]⟩) (fun r s'=>r=.ok (.ret<|.bool true)/\OldK s₁.heap s'.heap/\s'.os=s₁.os/\Jw s'.gens) s₁:=by
 have rv:=mj hi;have lenV:=hi.length;have core:∀H:Hp,zJ H->SqL K H a (ns.map Ir)->HOk P w H s₁.heap->(∀b,H b≠none->b=a)->(H a≠none->K.lookup a=none)->
   codeAny (model P w) callerA (.call (.ref fa) ⟨[.ref a],[]⟩) (fun r s'=>r=.ok (.ret<|.bool true)/\OldK s₁.heap s'.heap/\s'.os=s₁.os/\Jw s'.gens) s₁:=by
  intro H hO hS hok hA hK;have base_of:∀{b:Addr}{o:Obj},s₁.heap.get? b=some o->H b=none->(mW s₁.heap H).get? b=some o:=fun e n=>tY e n;have noA:∀{b:Addr}{o:Obj}{es:Array GJ}{ep:Nat},s₁.heap.get? b=some o->o.data=.dict es ep->H b=none:=fun{b o es ep}e d=>by
   cases q:H b with
   |none=>rfl
   |some u=>
    have e':b=a:=hA b (by rw[q];simp);subst e';rw[ha]at e;cases e;have d':Kd vs.toArray _=Data.dict es ep:=d;cases d'
  have nsK:∀{b:Addr}{m:Str->Option EI},s₁.heap.Ns b m->(mW s₁.heap H).Ns b m:=fun{b m}⟨o,es,ep,e,d,r⟩=>⟨o,es,ep,base_of e<|noA e d,d,r⟩
  have hKb:K.In (mW s₁.heap H):=fun b o e=>base_of (KX b o e) (by
   cases q:H b with
   |none=>rfl
   |some u=>
    have e':b=a:=hA b (by rw[q];simp);subst e';rw[hK (by rw[q];simp)]at e;cases e)
  have hM:Mod K mg (mW s₁.heap H):=⟨hKb,nsK hns,⟨mb,nsK hb,hbb⟩,let ⟨mc,h1,h2⟩:=hlim;⟨mc,nsK h1,h2⟩⟩
  have e0:Env0 P w K mg (mW s₁.heap H) callerA [] s₁ H:=⟨rfl,hM,fun b o e=>xf e,Nd<|rJ _ _,trivial,fun b hb=>absurd (show b∈([]:List Addr)from hb) (by simp),hok,.of_eq hg⟩
  refine Jx ((F _ hKb<|nsK hns).run callerA [] s₁ H ⟨[.ref a],[]⟩ [.ref a] [.ref a] _ _ hr e0 (hbind s₁<|.ref a) (.cons rfl .nil) (hsp H hO hS)) fun r s' h=>?_;cases r with
  |error e=>exact(hCX H e s' h).elim
  |ok fl=>
   cases fl with
   |next=>exact GA h
   |brk=>exact GA h
   |cont=>exact GA h
   |ret u=>
    obtain⟨v,H',os,bare,un,hok',r',q⟩:=h;have q':v=.bl true:=q;subst q';obtain rfl:u=Lj true:=r';refine⟨rfl,OldK.of_keep fun b o e=>?_,os,bare⟩;cases q:H b with
    |none=>exact un.keep b o e q (by intro z;exact absurd (show b∈([]:List Addr)from z) (by simp)) (by simp)
    |some u=>
     rcases hO b with z|⟨ob,xs,z⟩
     ·rw[q]at z;cases z
     ·have z2:=un.frzs b ob _ z;obtain⟨e1,_⟩:=hok b _ z;obtain⟨e2,_⟩:=hok' b _ z2;rw[e]at e1;cases e1;exact e2
 cases hk:K.lookup a with
 |some o=>
  have e:=KX a o hk;rw[ha]at e;cases e;refine core (fun _=>none) (fun _=>.inl rfl) (.inr ⟨_,vs.toArray,_,hk,rfl,rfl,rfl,by rw[F4,lenV];exact hl,by simpa using rv⟩) (fun b u z=>by have z':(none:Option HO)=some u:=z;cases z') (fun b z=>absurd rfl z) fun z=>absurd rfl z
 |none=>
  refine core (fun b=>if b=a then some (.frz {cls:=.type "list",data:=.seq vs.toArray}<|.lst<|ns.map Ir)else none) (fun b=>?_) (.inl<|.inr ⟨{cls:=.type "list",data:=.seq vs.toArray},if_pos rfl⟩) (fun b u z=>?_) (fun b z=>?_) fun _=>hk
  ·by_cases hb:b=a;·exact .inr ⟨_,_,if_pos hb⟩
   ·exact .inl<|if_neg hb
  ·by_cases hb:b=a
   ·have z':=(if_pos hb).symm.trans z;cases z';subst hb;exact⟨ha,by rw[Fz];exact hl,vs,_,rv,ha⟩
   ·have z':=(if_neg hb).symm.trans z;cases z'
  ·by_cases hb:b=a;·exact hb
   ·exact absurd (if_neg hb) z
theorem walk_of{l:Jj}{n k:Nat}{q:Ff}{loose:List Str}{XP:(Str->Option EI)->Heap->Prop}{YP:Fp->Heap->Prop}{d:DefRec}{K:NM->EH}{CX:Fp->CXT}{sp:Fp->Sp}{x:Str}
  (hn:l.most=some n) (hn2:n<=sizeLine) (hdf:d.params.defaults=[]) (hr:Room k callerA)
  (hY:∀(w:Fp)(h:Heap),YP w h->(K w.params).In h)
  (F:∀(w:Fp) (mg:Str->Option EI) (fa:Addr) (h:Heap),(K w.params).In h->h.Ns mainGlobals mg->mg d.name=some (.ref fa)->
   ∃fd:F8,(∀(s:EM)(u:EI),L7 s fd ⟨[u],[]⟩ [(x,u)])/\
    ∀base:Heap,(K w.params).In base->base.Ns mainGlobals mg->FnOk l.prog w (K w.params) mg base (CX w) k fa fd [x] (sp w))
  (hsp:∀(w:Fp)(H:Hp)(a:Addr)(ns:List Int),ns.length<=n->zJ H->SqL (K w.params) H a (ns.map Ir)->sp w [.ref a] H (fun v _=>v=.bl true) fun _ _ _=>False)
  (hCX:∀(w:Fp)(H:Hp)(s:EM)(e:EI)(s':EM),CX w [] H s (fun _ _ _=>False) e s'->False):
  Mg q loose XP YP l.row.toRowW d [] (fun f vs=>Mr f vs):=by
 refine Att.attach_call hn hdf fun w s₀ s₁ mg mb fa o pm cd doc a vs ns G Y ho hd hcd hmg hobj hints hlen hg=>?_;have KX:=hY w _ Y;obtain⟨fd,hb,hF⟩:=F w mg fa _ KX G.T.g hmg;exact ux KX G.T.g G.T.b G.T.builtins G.T.nolimit hg hobj hints (GH hlen hn2) hr hF hb (fun H hO hS=>hsp w H a ns hlen hO hS) fun H e s'=>hCX w H s₁ e s'
def defArgs(s:Stmt):Arguments:=match s with
 | .FunctionDef _ a _ _ _ _ _ _ _ _=>a
 |_=>{posonlyargs:=[],args:=[],vararg:=none,kwonlyargs:=[],kw_defaults:=[],kwarg:=none,defaults:=[]}
def defBody(s:Stmt):List Stmt:=match s with
 | .FunctionDef _ _ b _ _ _ _ _ _ _=>b
 |_=>[]
def defScope(s:Stmt):HM:=match s with
 | .FunctionDef _ _ _ _ _ _ sc _ _ _=>sc
 |_=>{kind:=.function,names:=[],isGenerator:=false,isCoroutine:=false}
abbrev CX0:CXT:=fun _ _ _ _ _ _=>False
abbrev E0:XK:=fun _ _ _=>False
theorem qC{X:Cx}:fg CX0 X E0:=fun _ _ _ _ _ _ _ h=>h.elim
structure Fun(K:EH)(x qual:Str)(st:Stmt)(f:Addr)(fd:F8):Prop where
 ex:∃(oc:EI)(od:Option Addr)(kV doc pm:EI)(an:Option Addr)(cdv ct:EI)(osl:Array (Option EI)),
  fd=FA x qual (defArgs st) (defBody st) (defScope st) .none kV doc pm an cdv ct/\K.lookup f=some ⟨oc,od,.func fd,osl⟩/\FF K cdv qual=true
 kp:Fi K (.ref f)=true
section
variable{P:Ff}{w:Fp}{K:EH}{mg:Str->Option EI}{base:Heap}
theorem Fun.ok{x qual:Str}{st:Stmt}{f:Addr}{fd:F8}{N ps:List Str}{k:Nat}{sp:Sp}(F:Fun K x qual st f fd)(S:FnScope N ps (defScope st))(len:∀vs H Q E,sp vs H Q E->vs.length=ps.length)
  (hbody:∀(cdv:EI) (A:Fu) (outer:List Env) (s:EM) (H:Hp) (vs:List V) (Q:VK) (E:XK),Room k (A.deeper<|envOfC qual (defScope st) s.heap.objs.size f cdv)->sp vs H Q E->
   ∃t,PSs (kH CX0 P w K mg base N qual (defScope st) f cdv A outer s H E).nox (defBody st) t/\t {nx:=fun _ H'=>Q .non H',rt:=Q} (start N vs) H):FnOk P w K mg base CX0 (k+1) f fd ps sp:=by
 obtain⟨oc,od,kV,doc,pm,an,cdv,ct,osl,rfl,lk,hcd⟩:=F.ex;refine yZ lk hcd S len fun A outer s H vs Q E hr hsp=>?_;obtain⟨t,h,q⟩:=hbody cdv A outer s H vs Q E hr hsp;exact⟨t,h.nox,q⟩
theorem Fun.binds{x qual:Str}{st:Stmt}{f:Addr}{fd:F8}{ps:List Str}(F:Fun K x qual st f fd)
  (h:∀(kV doc pm:EI)(an:Option Addr)(cdv ct:EI)(us:List EI),us.length=ps.length->bindArgs (FA x qual (defArgs st) (defBody st) (defScope st) .none kV doc pm an cdv ct) ⟨us,[]⟩=pure (ps.zip us)):Binds K fd ps []:=by
 obtain⟨oc,od,kV,doc,pm,an,cdv,ct,osl,rfl,lk,hcd⟩:=F.ex;exact .all<|h kV doc pm an cdv ct
theorem d9{x qual:Str}{st:Stmt}{f:Addr}{oc:EI}{od an:Option Addr}{osl:Array (Option EI)}{kV doc pm cdv ct:EI}(l:K.lookup f=some ⟨oc,od,.func<|FA x qual (defArgs st) (defBody st) (defScope st) .none kV doc pm an cdv ct,osl⟩)
  (c:FF K cdv qual=true) (k:Fi K (.ref f)=true):Fun K x qual st f (FA x qual (defArgs st) (defBody st) (defScope st) .none kV doc pm an cdv ct):=⟨⟨oc,od,kV,doc,pm,an,cdv,ct,osl,rfl,l,c⟩,k⟩
end
section
variable{X:Cx}
theorem pv(i:Nat){x:Str}{pos:Pos}(hN:X.N[i]? =some x:=by rfl)(hv:Vis X.env.scope x:=by first|exact IS rfl|exact IF (IS rfl)|exact IF<|IF rfl)(hd:(x==("__debug__" :Str))=false:=by decide)
  (hcd:(x==("__classdict__" :Str))=false:=by decide):PE X (.Name x pos) (bf i):=zu hN hv hd hcd
end
def Same(H H':Hp):Prop:=∀b o,H b=some o->H' b=some o
theorem Same.refl(H:Hp):Same H H:=fun _ _ h=>h
theorem Same.trans{H H1 H2:Hp}(a:Same H H1)(b:Same H1 H2):Same H H2:=fun c o h=>b c o<|a c o h
theorem Same.seq{K:EH}{H H':Hp}{a:Addr}{xs:List V}(e:Same H H')(h:SqL K H a xs):SqL K H' a xs:=by
 rcases h with(h|⟨o,h⟩)|h;·exact .inl<|.inl<|e _ _ h
 ·exact .inl<|.inr ⟨o,e _ _ h⟩
 ·exact .inr h
end L2
set_option maxHeartbeats 4000000
namespace L2
open PySem PySem.Spec PyProof.Rows
abbrev sOf(l:List Nat):Str:=⟨l.toArray⟩
theorem df(l:List Nat):(sOf l).length=l.length:=by simp[NL,sOf]
theorem k4(l:List Nat):(sOf l).cps.toList=l:=by simp[sOf]
theorem gr(a b:List Nat):sOf a++sOf b=sOf (a++b):=by
 apply PySem.Str.ext';rw[PySem.Str.cps_append];simp[sOf]
theorem qE{a b:List Nat}(h:sOf a=sOf b):a=b:=by
 have:=congrArg (fun x=>x.cps.toList) h;simpa [sOf] using this
theorem uy(x:Str):x=sOf x.cps.toList:=by cases x;simp[sOf]
def DictK(K:EH)(w:Fp)(a:Addr)(kvs:List (Key×V)):Prop:=
 kvs.length<=1000/\(a==sysModules)=false/\(kvs.map (·.1)).Nodup/\∃(es:Array GJ)(ep:Nat),K.lookup a=some {cls:=.type "dict",data:=.dict es ep}/\
  Paired (fun(p:Key×V)(e:GJ)=>gI p.1 e.key=true/\e.hash=tX w p.1/\RelV p.2 e.val) kvs es.toList
theorem o9{P:Ff}{w:Fp}{kvs:List (Key×V)}{es:List GJ}(r:Paired (fun(p:Key×V)(e:GJ)=>gI p.1 e.key=true/\e.hash=tX w p.1/\RelV p.2 e.val) kvs es):
  ∀e∈es,∃k,gI k e.key=true/\e.hash=tX w k:=by
 induction r with
 |nil=>intro e h;cases h
 | @cons p e ps es h t ih=>
  intro e' h';rcases F9.mp h' with rfl|h'
  ·exact⟨p.1,h.1,h.2.1⟩
  ·exact ih e' h'
theorem nh{P:Ff}{w:Fp}{kvs:List (Key×V)}{es:List GJ}(r:Paired (fun(p:Key×V)(e:GJ)=>gI p.1 e.key=true/\e.hash=tX w p.1/\RelV p.2 e.val) kvs es):
  ∃vs,KV kvs vs/\Pairs (bK P w) es vs/\vs.map (·.1)=kvs.map (·.1):=by
 induction r with
 |nil=>exact⟨[],.nil,.nil,rfl⟩
 | @cons p e ps es h t ih=>
  obtain⟨vs,h1,h2,h3⟩:=ih;exact⟨(p.1,e.val)::vs,.cons ⟨rfl,h.2.2⟩ h1,.cons h.1 rfl h2,by simp[h3]⟩
theorem DictK.of{P:Ff}{w:Fp}{K:EH}{a:Addr}{kvs:List (Key×V)}{h:Heap}(d:DictK K w a kvs)(x:K.In h):(a==sysModules)=false/\∃vs,KV kvs vs/\h.DictOf (bK P w) a vs:=by
 obtain⟨hz,hs,nd,es,ep,lk,r⟩:=d;obtain⟨vs,h1,h2,h3⟩:=nh (P:=P) r;refine⟨hs,vs,h1,_,es,ep,x _ _ lk,⟨rfl,rfl,rfl⟩,rfl,fun e he=>o9 (P:=P) r e (by simpa using he),h2,by rw[h3];exact nd⟩
section
variable{X:Cx}{o i e:Expr}{pos:Pos}{td ty:TE}
def ba(K:EH)(w:Fp)(td ty:TE):TE:=fun σ H Q=>td σ H fun x H1=>ty σ H1 fun y H2=>∃a kvs k v,x=.ref a/\DictK K w a kvs/\y=kV k/\fH kvs k=some v/\Q v H2
theorem uz(ho:PE X o td)(hi:PE X i ty)(hs:xw i):PE X (.Subscript o i pos) (ba X.K X.w td ty):=by
 intro pins s σ H Q I h;refine qy JO.lookup hs<|cb (ho pins s σ H _ I h) fun u s1 zz=>?_;obtain⟨x,H1,I1,rx,q1⟩:=zz;refine cb (hi pins s1 σ H1 _ I1 q1) fun iv s2 zz=>?_;obtain⟨y,H2,I2,ry,a,kvs,k,v,ex,dk,ey,ev,q2⟩:=zz;subst ex ey;obtain rfl:u=F6 a:=rx;obtain⟨hd,vs,rel,dd⟩:=dk.of (P:=X.prog) I2.kIn;refine⟨dd.typeIs,?_⟩;obtain⟨w',hw,rw'⟩:=LV (v:=v) (o:=valueAt vs k) (by rw[<-ev];exact rel.val k);exact M0 (lZ ry) dd.mapOf hw ⟨v,H2,I2.tok _,rw',q2⟩
end
section
variable{X:Cx}
theorem kL:OpR X (compareOp .Is) (fun x y H Q=>∃c,y=.bl c/\Q (.bl<|decide<|x=.bl c) H):=by
 intro pins s σ H x y v u Q I rx ry h;obtain⟨c,rfl,q⟩:=h;cases ry;cases x with
 |bl b=>cases rx;exact is_bool (aZ I q (by cases b<;>cases c<;>simp))
 |non=>cases rx;exact ES (aZ I q (by simp))
 |int i=>obtain⟨t,rfl⟩:=rx;exact ES (aZ I q (by simp))
 |str i=>obtain⟨t,rfl⟩:=rx;exact ES (aZ I q (by simp))
 |byt i=>obtain⟨t,rfl⟩:=rx;exact ES (aZ I q (by simp))
 |flt i=>obtain⟨t,rfl⟩:=rx;exact ES (aZ I q (by simp))
 |ref a=>cases rx;exact ES (aZ I q (by simp))
 |ty a=>cases rx;exact ES (aZ I q (by simp))
theorem kM:OpR X (binaryOp .Mult) (fun x y H Q=>∃c n,x=.str (sOf [c])/\y=.int n/\0<=n/\n<=100000/\Q (.str<|sOf<|Fg n.toNat c) H):=by
 intro pins s σ H x y v u Q I rx ry h;obtain⟨c,n,rfl,rfl,h0,h1,q⟩:=h;obtain⟨t,rfl⟩:=rx;obtain⟨t',rfl⟩:=ry;have hl:(sOf [c]).length=1:=df [c];refine SB.mul ?_ fun t' k=>?_
 ·refine⟨?_,fun _ _=>?_,fun _ _=>?_⟩
  ·have e1:decide (n< -(2^63:Int))=false:=decide_eq_false (by omega);have e2:decide (n≥2^63)=false:=decide_eq_false (by omega);rw[e1,e2];rfl
  ·rw[hl];have h2:1<=n:=by omega
   have:(1:Int)<=(2^63-1)/n:=(Int.le_ediv_iff_mul_le (by omega)).mpr (by omega);omega
  ·rw[hl];unfold NF;have:=Gi;simp;omega
 ·have e:NV (sOf [c]) n=sOf (Fg n.toNat c):=by
   rw[uy<|NV (sOf [c]) n];show sOf ((NV ⟨#[c]⟩ n).cps.toList)=_;rw[mul_one_list]
  exact⟨.str _,H,I.tok _,⟨t',rfl⟩,by rw[e];exact q⟩
end
section
variable{X:Cx}
def jT(l:List Nat)(lo hi:Option Int):List Nat:=(l.drop<|HT.sIx l.length 0 lo).take (HT.sIx l.length l.length hi-HT.sIx l.length 0 lo)
theorem kN(lo hi:Option Int)(n:Nat):GY lo hi 1 n=sliceRange ((HT.sIx n 0 lo:Nat):Int) ((HT.sIx n n hi:Nat):Int) 1:=by
 unfold GY;have e1:(match lo with|none=>(0:Int)|some i=>max 0 (min (if i<0 then i+(n:Int)else i) n))=((HT.sIx n 0 lo:Nat):Int):=by
  cases lo with
  |none=>simp[HT.sIx]
  |some i=>simp only[HT.sIx];by_cases h:i<0<;>simp only[h,if_true,if_false]<;>omega
 have e2:(match hi with|none=>(n:Int)|some i=>max 0 (min (if i<0 then i+(n:Int)else i) n))=((HT.sIx n n hi:Nat):Int):=by
  cases hi with
  |none=>simp[HT.sIx]
  |some i=>simp only[HT.sIx];by_cases h:i<0<;>simp only[h,if_true,if_false]<;>omega
 simp only[show(1:Int)>0 by decide,if_true];rw[<-e1,<-e2];cases lo<;>cases hi<;>rfl
theorem rY(l:List Nat)(lo hi:Option Int):M1 (sOf l) lo hi=sOf (jT l lo hi):=by
 have hn:(sOf l).length=l.length:=df l;have hk:(GY lo hi 1 l.length).filterMap ((sOf l).cps[·]?)=jT l lo hi:=by
  rw[kN,KY,pick_run];simp[jT]
 have hlen:(GY lo hi 1 l.length).length=(jT l lo hi).length:=by
  rw[kN,KY];have h1:=HT.sIx_le l.length 0 (Jg _) lo;have h2:=HT.sIx_le l.length l.length (Fb _) hi;simp[jT];omega
 unfold M1;rw[hn];split
 ·rename_i h;have h:(GY lo hi 1 l.length).length=l.length:=by simpa using h
  have hl:=hlen.symm.trans h;have e:jT l lo hi=l:=by
   have h3:(jT l lo hi).length<=(l.drop<|HT.sIx l.length 0 lo).length:=by unfold jT;simp;omega
   have h4:HT.sIx l.length 0 lo=0\/l.length=0:=by
    rw[Io]at h3;omega
   rcases h4 with h4|h4
   ·unfold jT at hl ⊢;rw[h4]at hl ⊢;rw[Ms]at hl ⊢;rw[HI]at hl;exact IT (by omega)
   ·have:l=[]:=List.length_eq_zero_iff.mp h4;subst this;simp[jT]
  rw[e]
 ·rw[hk]
theorem eF:C8 X (fun x lo hi H Q=>∃l,x=.str (sOf l)/\l.length<=sizeLine/\Q (.str<|sOf<|jT l lo hi) H):=by
 intro pins s σ H x v vl vu lo hi sl Q I rx hs pl pu h;obtain⟨l,rfl,hz,q⟩:=h;obtain⟨t,rfl⟩:=rx;obtain⟨a1,rfl,e1⟩:∃a:Option (Int×Tok),vl=partValue a/\a.map (·.1)=lo:=by
  cases pl with
  |none=>exact⟨none,rfl,rfl⟩
  |int i t=>exact⟨some (i,t),rfl,rfl⟩
 obtain⟨a2,rfl,e2⟩:∃a:Option (Int×Tok),vu=partValue a/\a.map (·.1)=hi:=by
  cases pu with
  |none=>exact⟨none,rfl,rfl⟩
  |int i t=>exact⟨some (i,t),rfl,rfl⟩
 have hle:(M1 (sOf l) lo hi).length<=sizeLine:=GH (Txt.slice_le _ _ _) (by rw[df];exact hz);refine⟨"str",_,PySem.F.slot_str_getitem.lookup,Mn _ _ _,wpAny_getItem_str_slice (l:=a1) (u:=a2) (st:=none) hs rfl ?_⟩;subst e1 e2;refine post_val_or_str ⟨hle,fun t' k=>⟨.str _,H,I.tok _,⟨t',rfl⟩,?_⟩⟩;have:=rY l (a1.map (·.1)) (a2.map (·.1));unfold M1 at this;show Q (.str (if _ then _ else _)) H;exact this▸q
theorem uA(hc:X.calm=true):zF X "str.index" (fun x xs H Q=>∃a b,x=.str a/\xs=[.str b]/\0<=JI a b/\Q (.int<|JI a b) H):=by
 intro pins s σ H x xs v us Q I rx rs h;obtain⟨a,b,rfl,rfl,h0,q⟩:=h;obtain⟨t,rfl⟩:=rx;obtain⟨u,rfl,t',rfl⟩:=gL rs;refine index_or (I.ok.hd hc) (fun e=>?_) fun _ _=>⟨.int _,H,I.tok _,⟨_,rfl⟩,q⟩
 omega
theorem pF{ys:List (List Nat)}:∀{us:List EI},Vals (ys.map fun y=>IK<|sOf y) us->StrsAre us (ys.map sOf):=by
 induction ys with
 |nil=>intro us r;cases r;exact .nil
 |cons y ys ih=>
  intro us r;cases r with
  |cons r1 r2=>
   obtain⟨t,e⟩:=r1;subst e;exact .cons _ t<|ih r2
theorem pG(ys:List (List Nat)):Txt.join (sOf []) (ys.map sOf)=sOf ys.flatten:=by
 have key:∀(r:List (List Nat))(acc:List Nat),(r.map sOf).foldl (fun acc p=>acc++(sOf []).cps++p.cps) acc.toArray=(acc++r.flatten).toArray:=by
  intro r
  induction r with
  |nil=>intro acc;simp
  |cons a r ih=>
   intro acc;rw[FZ,Iw,Ha,<-Hj,<-ih (acc++a)];simp[sOf]
 cases ys with
 |nil=>rfl
 |cons a r=>
  show Str.mk (((r.map sOf)).foldl (fun acc p=>acc++(sOf []).cps++p.cps) a.toArray)=_;rw[key];rfl
theorem xA:zF X "str.join" (fun x xs H Q=>∃(p:Addr)(ys:List (List Nat)),x=.str (sOf [])/\xs=[.ref p]/\SqL X.K H p (ys.map fun y=>IK<|sOf y)/\ys.flatten.length<=100000/\Q (.str<|sOf ys.flatten) H):=by
 intro pins s σ H x xs v us Q I rx rs h;obtain⟨p,ys,rfl,rfl,hp,hl,q⟩:=h;obtain⟨t,rfl⟩:=rx;obtain⟨u,rfl,r1⟩:=gL rs;cases r1;obtain⟨its,r,pl,hz⟩:=I.list hp;refine join_list pl.isList (by simpa using pF r) ?_ fun t' k=>⟨.str _,H,I.tok _,⟨t',rfl⟩,by rw[pG];exact q⟩
 have e:((ys.map sOf).map (·.length)).sum=ys.flatten.length:=by
  rw[IU,List.length_flatten];congr 1
  all_goals exact Ip fun y _=>df y
 have e2:(sOf []).length=0:=df [];rw[e,e2];omega
theorem og:eQ X (.builtin "isinstance") (fun xs H Q=>∃x T t b,xs=[x,.ty T]/\TyOf X.K H x t/\Fw X.K t (.type T)=some b/\Q (.bl b) H):=by
 intro pins s σ H xs us Q I r h;obtain⟨x,T,t,b,rfl,ty,e,q⟩:=h;obtain⟨u,w',rfl,rx,rT⟩:=nR r;obtain rfl:w'=.type T:=rT;exact rQ I rx ty e fun tk=>⟨.bl b,H,I.tok _,rfl,q⟩
def Dj(l:List Nat):It:=⟨fun i _=>i<l.length,fun i H x H'=>H'=H/\∃c,l[i]? =some c/\x=.str (sOf [c]),fun i _=>l.length<=i⟩
def AW(tl:TE):TI:=fun σ H R=>tl σ H fun x H1=>∃l,x=.str (sOf l)/\R (Dj l) H1
end
theorem uB{P:Ff}{w:Fp}{K:EH}{tg:Expr}(l:List Nat)(it:Addr)(ty:String)(t:Tok)(hty:ty="str_ascii_iterator"\/ty="str_iterator")
  (W:∀A':Fu,A'.handled=none->Walks P w A' it [it] [it] l.length (SignAt<|sOf l) (fun i h=>h.IsStrIter it ty (sOf l) t i)):
  Turn P w K tg (Dj l) [it] it (fun i h=>i<=l.length/\h.IsStrIter it ty (sOf l) t i) where
 mem:=by simp
 obj:=fun i h st b hb=>by
  have e:b=it:=by simpa using hb
  subst e;obtain⟨_,o,e,c,d⟩:=st;exact⟨o,e,fun v z=>by rw[d]at z;cases z⟩
 keep:=fun i h h' st k=>⟨st.1,by obtain⟨o,e,r⟩:=st.2;exact⟨o,k it (by simp) o e,r⟩⟩
 item:=by
  intro X hP hw hK hc i pins s σ H E I hf st hg;subst hP hw hK;obtain⟨f0,f1,f2,f3,f4,f5⟩:=hf it (by simp);refine(W X.A<|I.ok.hd hc).item i s _ _ hg st.2 fun v h' tk hv st' kk=>?_;obtain⟨c,u,hc',rfl⟩:=hv;have I1:Inv X pins σ H {s with heap:=h',toks:=tk}:=I.turned (fun b o hb e=>kk b o (by simpa using hb) e) f0 f1 f3 f4 f5;obtain⟨o,e,c1,d⟩:=id st';refine⟨_,rfl,nO (s:={s with heap:=h',toks:=tk}) (n:=ty) e c1 d (by rcases hty with rfl|rfl<;>decide) ⟨.str<|sOf [c],H,I1,⟨u,rfl⟩,⟨rfl,c,?_,rfl⟩,⟨hg,st'⟩,fun b hb=>(hf b hb).1⟩⟩;simpa [sOf] using hc'
 done:=by
  intro X hP hw hK hc i pins s σ H E I hf st hg;subst hP hw hK;obtain⟨f0,f1,f2,f3,f4,f5⟩:=hf it (by simp);have e:i=l.length:=Nat.le_antisymm st.1 hg;subst e;exact(W X.A<|I.ok.hd hc).done s _ _ st.2 fun h' tk kk=>⟨rfl,I.turned (fun b o hb e=>kk b o (by simpa using hb) e) f0 f1 f3 f4 f5⟩
 self:=fun A i s Q E st h=>by
  rcases hty with rfl|rfl;·exact wpAny_pyIter_striter_ascii st.2 h
  ·exact wpAny_pyIter_striter_wide st.2 h
theorem jr{X:Cx}{tg l:Expr}{tl:TE}(hl:PE X l tl):PI X tg l (AW tl):=by
 intro pins s σ H R I h;refine cb (hl pins s σ H _ I h) fun v s1 zz=>?_;obtain⟨x,H1,I1,r1,q1⟩:=zz;obtain⟨y,e,q⟩:=q1;subst e;obtain⟨t,rfl⟩:=r1;have hn:(sOf y).cps.size=y.length:=by simp[sOf]
 have fin:∀(ob:Obj)(ty:String),(ty="str_ascii_iterator"\/ty="str_iterator")->(∀A':Fu,A'.handled=none->Walks X.prog X.w A' s1.heap.objs.size [s1.heap.objs.size] [s1.heap.objs.size] y.length (SignAt<|sOf y) (fun i h=>h.IsStrIter s1.heap.objs.size ty (sOf y) t i))->
   (s1.heap.push ob).IsStrIter s1.heap.objs.size ty (sOf y) t 0->CO X pins σ tg R (.ref s1.heap.objs.size) {s1 with heap:=s1.heap.push ob}:=fun ob ty hty W st=>by
  refine⟨s1.heap.objs.size,[s1.heap.objs.size],_,_,H1,rfl,I1.kept (t':=s1.toks) fun b o e=>EJ _ e,uB y _ ty t hty W,⟨Jg _,st⟩,fun b hb=>?_,q⟩;have e:b=s1.heap.objs.size:=by simpa using hb
  subst e;exact I1.fpOk (Fb _)<|I1.hok.fresh<|Fb _
 cases ha:(sOf y).cps.all (· <128);·exact LL ha<|fin _ "str_iterator" (.inr rfl) (fun A' hA=>hn▸Walks.strWide hA _ (sOf y) t) ⟨_,EU _ rfl,rfl,rfl⟩
 ·exact Ln ha<|fin _ "str_ascii_iterator" (.inl rfl) (fun A' hA=>hn▸Walks.strAscii hA _ (sOf y) t) ⟨_,EU _ rfl,rfl,rfl⟩
def cQ(env:Env):List (Str×HH)->List (Str×Addr)->List (Str×Addr)
 | [],acc=>acc
 |(n,k)::r,acc=>cQ env r (if(k== .free)=true then(n,(env.cells.lookup n).getD 0)::acc else acc)
theorem fV{scope:HM}{env:Env}(h:∀x∈scope.names,x.2=.free->∃c,env.cells.lookup x.1=some c):closureFor scope env=pure (cQ env scope.names []):=by
 simp only[closureFor];have key:∀(names:List (Str×HH))(acc:List (Str×Addr)),(∀x∈names,x.2=.free->∃c,env.cells.lookup x.1=some c)->
   (forIn names acc fun(x:Str×HH)(cs:List (Str×Addr))=>if(x.2== .free)=true then(do let a <-cellOf env x.1;pure (HZ ((x.1,a)::cs)))else pure (HZ cs))=(pure (cQ env names acc):Sem _):=by
  intro names
  induction names with
  |nil=>intro acc _;rfl
  |cons x r ih=>
   intro acc hx;obtain⟨n,k⟩:=x;rw[Iz];have hr:∀y∈r,y.2=.free->∃c,env.cells.lookup y.1=some c:=fun y hy=>hx y<|F5 _ hy;unfold cQ;by_cases hk:(k==Gq)=true
   ·obtain⟨c,hc⟩:=hx (n,k) EZ (by simpa using hk);have hc:env.cells.lookup n=some c:=hc;simp only[hk,if_true];unfold cellOf;simp only[hc,HJ];exact ih _ hr
   ·simp only[hk,if_false];exact ih _ hr
 have:=key scope.names [] h;rw[this];rfl
theorem gR{env:Env}{x:Str}{c:Addr}:∀(names:List (Str×HH))(acc:List (Str×Addr)),(∀y∈names,y.2=.free->∃c,env.cells.lookup y.1=some c)->(cQ env names acc).lookup x=some c->
  ((x,Gq)∈names/\env.cells.lookup x=some c)\/acc.lookup x=some c
 | [],_,_,h=>.inr h
 |(n,k)::r,acc,hx,h=>by
  unfold cQ at h;rcases gR r _ (fun y hy=>hx y<|F5 _ hy) h with⟨q1,q2⟩|q
  ·exact .inl ⟨F5 _ q1,q2⟩
  ·by_cases hk:(k == Gq)=true
   ·rw[if_pos hk]at q;have hk':k=.free:=by simpa using hk
    subst hk';rw[GW]at q;cases hb:x==n with
    |true=>
     rw[hb]at q;have e:x=n:=beq_iff_eq.mp hb;subst e;obtain⟨c',hc⟩:=hx (x,.free) EZ rfl;have hc:env.cells.lookup x=some c':=hc;rw[hc]at q;simp at q;subst q;exact .inl ⟨EZ,hc⟩
    |false=>rw[hb]at q;exact .inr q
   ·rw[if_neg hk]at q;exact .inr q
theorem jI{env:Env}{x:Str}{c:Addr}:∀(names:List (Str×HH))(acc:List (Str×Addr)),acc.lookup x=some c->env.cells.lookup x=some c->(cQ env names acc).lookup x=some c
 | [],_,h,_=>h
 |(n,k)::r,acc,h,he=>by
  unfold cQ;refine jI r _ ?_ he;by_cases hk:(k==Gq)=true
  ·rw[if_pos hk,GW];cases hb:x==n with
   |true=>
    have e:x=n:=beq_iff_eq.mp hb;subst e;simp[he]
   |false=>exact h
  ·rw[if_neg hk];exact h
theorem jJ{env:Env}{x:Str}{c:Addr}:∀(names:List (Str×HH))(acc:List (Str×Addr)),(x,Gq)∈names->env.cells.lookup x=some c->(cQ env names acc).lookup x=some c
 |(n,k)::r,acc,h,he=>by
  unfold cQ;rcases F9.mp h with e|h
  ·cases e;exact jI r _ (by simp[he]) he
  ·exact jJ r _ h he
theorem du:∀(names:List (Str×HH))(n:Nat)(acc:List (Str×Addr)),cellsFrom n names acc=cellsFrom n names []++acc
 | [],_,_=>rfl
 |(x,k)::r,n,acc=>by
  unfold cellsFrom;split;·rw[du r _ ((x,n)::acc),du r _ [(x,n)],Hj];rfl
  ·exact du r n acc
theorem fh:∀(names:List (Str×HH))(n:Nat){x:Str}{c:Addr},(x,c)∈cellsFrom n names []->(x,Le)∈names
 | [],_,_,_,h=>by cases h
 |(y,k)::r,n,x,c,h=>by
  unfold cellsFrom at h;split at h
  ·rename_i hk;rw[du]at h;rcases GF.mp h with h|h
   ·exact F5 _<|fh r _ h
   ·have e:(x,c)=(y,n):=by simpa using h
    cases e;have hk':k=.cell:=by simpa using hk
    subst hk';exact EZ
  ·exact F5 _<|fh r _ h
theorem kO{M:Mh}{A:Fu}{E:EI->EM->Prop}{s:EM}{scope:HM}{env:Env}{cl:List (Str×Addr)}{Q:Env->EM->Prop}
  (hQ:Q (newEnv scope s.heap.objs.size env.globals (cellsFrom (s.heap.objs.size+1) scope.names cl) env.qual none .none (some env) builtinsNs) {s with heap:=pushCells (s.heap.push {cls:=.type "dict",data:=.dict #[]}) scope.names}):
  wpAny M A (newFunctionEnv scope env.globals cl [] env.qual none .none<|some env) Q E s:=by
 simp only[newFunctionEnv,Lm,if_true];refine EE<|wpAny_alloc ?_;refine EE (wpAny_layCells _ (fun name kind cells=>by cases hkc:kind==Le<;>simp[hkc]) _ _ _ _ ?_);rw[show({s with heap:=s.heap.push {cls:=.type "dict",data:=.dict #[]}}:EM).heap.objs.size=s.heap.objs.size+1 from FH ..];simp only[IW];exact EE<|ES<|ES hQ
section
variable{prog:Ff}{w:Fp}{A:Fu}{R:Nc->EM->Prop}{s:EM}
theorem iS{elt target iter:Expr}{ifs:List Expr}{scope:HM}{pos:Pos}{it acc:EI}{env:Env}(I:Nat->EM->Prop)
  (turn:∀n s,I n s->wpAny (model prog w) A (pyNext it) (fun r s₁=>match r with
   |none=>R (.ok .next) s₁
   | some v=>wpAny (model prog w) A (letOwnedTupleGo target it v) (fun _ s₁'=>wpAny (model prog w) A (assign target env v) (fun _ s₂=>
     wpAny (model prog w) A (forIn ifs true fun c r=>if r=true then do let ok <-isTrue c env (eval c env);pure (HZ ok)else pure (HZ r)) (fun ok s₃=>
      if ok=true then wpAny (model prog w) A (eval elt env) (fun x s₄=>
       wpAny (model prog w) A (call (.builtin "list.append") [acc,x]) (fun _ s₅=>∃m,m<n/\I m s₅) (fun _ _=>False) s₄) (fun _ _=>False) s₃
      else ∃m,m<n/\I m s₃) (fun _ _=>False) s₂) (fun _ _=>False) s₁') (fun _ _=>False) s₁) (fun _ _=>False) s)
  (n:Nat) (h:I n s):codeAny (model prog w) A (.compLoop (.ListComp elt [⟨target,iter,ifs,0⟩] scope pos) 0 it acc env) R s:=by
 refine codeAny_loop rfl I (fun n s hI=>?_) n h;show wpAny _ A ((compTurn (.ListComp elt [⟨target,iter,ifs,0⟩] scope pos) 0 it acc env).onRaise (fun x=>do noteFrame x env;theTreesLotGoes x)) _ _ s;refine wpAny_noted ?_;rw[compTurn_list];refine EE<|K7<|EE<|Gz (turn n s hI) (fun r s₁ h₁=>?_) fun _ _ h'=>h'.elim;cases r with
 |none=>exact ES h₁
 |some v=>
  refine EE<|Gz h₁ (fun _ s₁' h₁'=>?_) fun _ _ h'=>h'.elim;refine EE<|Gz h₁' (fun _ s₂ h₂=>EE<|Gz h₂ (fun ok s₃ h₃=>?_) fun _ _ h'=>h'.elim) fun _ _ h'=>h'.elim;cases ok with
  |true=>
   rw[if_pos rfl]at h₃;exact EE<|EE<|Gz h₃ (fun x s₄ h₄=>EE<|Gz h₄ (fun _ s₅ h₅=>ES<|ES ⟨rfl,h₅⟩) fun _ _ h'=>h'.elim) fun _ _ h'=>h'.elim
  |false=>
   rw[if_neg F7]at h₃;exact ES ⟨rfl,h₃⟩
end
def uC(scope:HM)(x:Str):Bool:=scope.names.lookup x==some .local||scope.names.lookup x==some .cell
def aM(X:Cx)(scope:HM)(N:List Str)(s:EM)(H:Hp)(C:Addr)(fp:List Addr):Cx:=
 {X with N:=N,s₀:=s,H₀:=H,env:=compEnvC scope (cellsFrom (C+1) scope.names<|cQ X.env scope.names []) C X.env,outer:=X.stack,ex:=fp,fn:=uC scope,pn:=[],xe:=fun _ _=>False}
def bz(cap:List (Option Nat))(σ:St):St:=cap.map fun o=>o.bind fun j=>(σ[j]?).bind id
structure CompScope(X:Cx)(scope:HM)(N:List Str)(cap:List (Option Nat)):Prop where
 kind:scope.kind=.function
 nd:N.Nodup
 len:cap.length=N.length
 uniq:(scope.names.map (·.1)).Nodup
 free:∀x∈scope.names,x.2=.free->(X.env.kindOf x.1=some .cell\/X.env.kindOf x.1=some .free)
 cap:∀(k:Nat)(x:Str)(j:Nat),N[k]? =some x->cap[k]? =some (some j)->X.N[j]? =some x/\(x,Gq)∈scope.names
theorem dM{α:Type}:∀{l:List (Str×α)}{x:Str}{k:α},(l.map (·.1)).Nodup->(x,k)∈l->l.lookup x=some k
 |(y,j)::r,x,k,nd,h=>by
  obtain⟨n1,n2⟩:=G8.mp (show(y::r.map (·.1)).Nodup from nd);rw[GW];rcases F9.mp h with e|h;·cases e;simp
  ·have:(x == y)=false:=beq_eq_false_iff_ne.mpr fun e=>n1<|e▸Fh.mpr ⟨(x,k),h,rfl⟩;rw[this];exact dM n2 h
theorem ft{env:Env}:∀{names:List (Str×HH)}{x:Str},(names.map fun(p:Str×HH)=>if(p.2==Gq&&env.scope.kind== .function&&env.kindOf p.1==some .cell)=true then(p.1,Le)else(p.1,p.2)).lookup x=
  (names.lookup x).map fun k=>if(k==Gq&&env.scope.kind== .function&&env.kindOf x==some .cell)=true then .cell else k
 | [],_=>rfl
 |(n,k)::r,x=>by
  rw[FZ];have ih:= @ft env r x;by_cases hx:x=n
  ·subst hx;by_cases hc:(k==Gq&&env.scope.kind== .function&&env.kindOf x==some .cell)=true;·simp only[hc,if_true,GW,beq_self_eq_true,Jq]
   ·rw[if_neg hc,GW,GW,beq_self_eq_true];simp only[Jq];rw[if_neg hc]
  ·have hb:(x == n)=false:=beq_eq_false_iff_ne.mpr hx;by_cases hc:(k==Gq&&env.scope.kind== .function&&env.kindOf n==some .cell)=true;·simp only[hc,if_true,GW,hb];exact ih
   ·rw[if_neg hc,GW,GW,hb];exact ih
def zK(X:Cx)(ifs:List Expr)(t:TT):Prop:=
 ∀(pins:List (Addr×Obj))(s:EM)(σ:St)(H:Hp)(Q:Bool->Hp->Prop),Inv X pins σ H s->t σ H Q->
  wpAny (model X.prog X.w) X.A (forIn ifs true fun c r=>if r=true then do let ok <-isTrue c X.env (eval c X.env);pure (HZ ok)else pure (HZ r)) (TP X pins σ Q) X.xe s
def zL:TT:=fun _ H Q=>Q true H
theorem cA{X:Cx}:zK X [] zL:=fun _ _ _ H _ I h=>wpAny_tests_nil ⟨H,I,h⟩
theorem k6{X:Cx}{c:Expr}{t:TT}(h:PT X c t):zK X [c] t:=fun pins s σ H Q I hq=>wpAny_tests_one<|h pins s σ H Q I hq
def Keep:St->St->Prop
 | [],_=>True
 |none::a,_::b=>Keep a b
 |some v::a,some u::b=>v=u/\Keep a b
 |_,_=>False
theorem Keep.get:∀{a b:St}{j:Nat}{v:V},Keep a b->a[j]? =some (some v)->b[j]? =some (some v)
 | [],_,_,_,_,h=>by simp at h
 |none::a,_::b,0,_,_,h=>by simp at h
 |none::a,_::b,j+1,v,k,h=>Keep.get (j:=j) (a:=a) (b:=b) k h
 |some w::a,some u::b,0,v,k,h=>by
  have e:w=u:=k.1;subst e;exact h
 |some w::a,some u::b,j+1,v,k,h=>Keep.get (j:=j) (a:=a) (b:=b) k.2 h
 |none::_,[],_,_,k,_=>k.elim
 |some _::_,[],_,_,k,_=>k.elim
 |some _::_,none::_,_,_,k,_=>k.elim
def AX(cap:List (Option Nat))(g:TG)(tf:TT)(te:TE)(σ:St)(H1:Hp)(Q:VK)(J:It):Prop:=∃W:Nat->Nat->List V->Hp->Prop,(∃m,W 0 m [] H1)/\∀i m ys H,W i m ys H->ys.length<sizeLine/\
  ((J.stop i H/\∀D,H D=none->Q (.ref D) (cy H D<|.lst ys))\/
   (J.go i H/\∃N:List V->Hp->Prop,(∀ys' H',N ys' H'->∃m',m'<m/\W (i+1) m' ys' H')/\∀x H',J.yld i H x H'->g x (bz cap σ) H' fun σ2 H2=>Keep (bz cap σ) σ2/\tf σ2 H2 fun b H3=>if b=true then te σ2 H3 fun y H4=>N (ys++[y]) H4 else N ys H3))
def kP(cap:List (Option Nat))(wi:TI)(g:TG)(tf:TT)(te:TE):TE:=fun σ H Q=>wi σ H fun J H1=>AX cap g tf te σ H1 Q J
theorem dG{X:Cx}{scope:HM}{C:Addr}{x:Str}{c:Addr}(frc:∀x∈scope.names,x.2=.free->∃c,X.env.cells.lookup x.1=some c)
  (h:(cellsFrom (C+1) scope.names<|cQ X.env scope.names []).lookup x=some c):(x,c)∈cellsFrom (C+1) scope.names []\/((x,Gq)∈scope.names/\X.env.cells.lookup x=some c):=by
 rw[du,Lo]at h;cases e:(cellsFrom (C+1) scope.names []).lookup x with
 |some d=>
  rw[e]at h;have h:some d=some c:=h;cases h;exact .inl<|GK e
 |none=>
  rw[e]at h;have h:(cQ X.env scope.names []).lookup x=some c:=h;rcases gR _ _ frc h with q|q
  ·exact .inr q
  ·cases q
theorem oh{X:Cx}{scope:HM}{C:Addr}{x:Str}{c:Addr}(uq:(scope.names.map (·.1)).Nodup)(hx:(x,Gq)∈scope.names)(hc:X.env.cells.lookup x=some c):
  (cellsFrom (C+1) scope.names<|cQ X.env scope.names []).lookup x=some c:=by
 rw[du,Lo];cases e:(cellsFrom (C+1) scope.names []).lookup x with
 |some d=>
  have h1:=dM uq<|fh _ _<|GK e;have h2:=dM uq hx;rw[h1]at h2;cases h2
 |none=>exact jJ _ _ hx hc
section
variable{X:Cx}{scope:HM}{N:List Str}{cap:List (Option Nat)}{pins:List (Addr×Obj)}{σ:St}{H:Hp}{s:EM}{C:Addr}{fp:List Addr}
theorem rZ{h4:Heap}(S:CompScope X scope N cap)(I:Inv X pins σ H s)(hC:s.heap.objs.size<=C)(ck:Nf h4 (C+1) (cellsFrom (C+1) scope.names []))
  (hf:∀b∈fp,FpOk X pins H b) (hlt:∀b∈fp,b<C):(aM X scope N s H C fp).Ok:=by
 have frc:∀x∈scope.names,x.2=.free->∃c,X.env.cells.lookup x.1=some c:=fun x hx hk=>I.ok.has x.1<|S.free x hx hk;have old:∀x c,X.env.cells.lookup x=some c->c<C:=fun x c e=>by
  obtain⟨v,q⟩:=I.cell x c e;exact EY q.lt hC
 have own:∀x c,(x,c)∈cellsFrom (C+1) scope.names []->C<c:=fun x c e=>(ck.empty x c e).2;refine⟨I.ok.mod,S.kind,I.ok.glob,I.ok.blt,hC,fun x y c h1 h2=>?_,fun x hx=>?_,fun x c hfn h=>?_,I.ok.hd,I.ok.frames,.inl rfl,fun b hb=>⟨Fd<|hlt b hb,fun x c h=>?_⟩,I.bs,GH I.ok.bsz I.sz,fun b o e hb=>?_,fun b hb z=>?_,I.stack,I.stkFree⟩
 ·rcases dG frc h1 with a | ⟨a1,a2⟩ <;> rcases dG frc h2 with b | ⟨b1,b2⟩
  ·exact name_of_addr ck.apart a b
  ·exact absurd (Kr (own x c a)<|old y c b2)<|FO _
  ·exact absurd (Kr (own y c b)<|old x c a2)<|FO _
  ·exact I.ok.inj x y c a2 b2
 ·have hx:(relabel scope X.env).names.lookup x=some .cell\/(relabel scope X.env).names.lookup x=some .free:=hx;have e:(relabel scope X.env).names.lookup x=_:=ft (env:=X.env) (names:=scope.names) (x:=x);rw[e]at hx;cases q:scope.names.lookup x with
  |none=>rw[q]at hx;rcases hx with z|z<;>cases z
  |some k=>
   have hm:=GK q;by_cases hk:k=.free
   ·subst hk;obtain⟨c,hc⟩:=frc _ hm rfl;exact⟨c,oh S.uniq hm hc⟩
   ·have hk':(k == Gq)=false:=by simpa using hk
    rw[q]at hx;simp only[Jq,hk',KS,Gk,if_false]at hx;have hkc:k=.cell:=by
     rcases hx with z|z;·exact Fy z
     ·exact absurd (Fy z) hk
    subst hkc;exact K8.mp<|HS scope.names (C+1) _<|.inl q
 ·rcases dG frc h with a | ⟨a1,a2⟩
  ·exact GH hC<|Hy<|own x c a
  ·have q:=dM S.uniq a1;have z:uC scope x=true:=hfn;unfold uC at z;rw[q]at z;exact absurd z (by decide)
 ·rcases dG frc h with a | ⟨a1,a2⟩
  ·exact H9<|Kr (hlt b hb)<|own x c a
  ·exact(hf b hb).2.2.2.2.1 x c a2
 ·rcases (hf b hb).2.2.2.1 with z | z;·exact I.ok.noex b o e z
  ·exact absurd (EY (EY (F0 e) I.ok.bsz) z)<|FO _
 ·rcases F9.mp (I.stkSub b z)with q | q;·exact(hf b hb).2.1 q
  ·exact(hf b hb).2.2.1 q
theorem kQ{s4:EM}(S:CompScope X scope N cap)(I:Inv X pins σ H s)(hC:s.heap.objs.size<=C)(ck:Nf s4.heap (C+1) (cellsFrom (C+1) scope.names []))
  (hf:∀b∈fp,FpOk X pins H b) (hlt:∀b∈fp,b<C) (h4:∃h' tk,s4={s with heap:=h',toks:=tk}) (hn:s4.heap.Ns C fun _=>none) (hk:∀b o,s.heap.get? b=some o->s4.heap.get? b=some o):
  Inv (aM X scope N s H C fp) [] (bz cap σ) H s4:=by
 have frc:∀x∈scope.names,x.2=.free->∃c,X.env.cells.lookup x.1=some c:=fun x hx hk=>I.ok.has x.1<|S.free x hx hk;obtain⟨h',tk,rfl⟩:=h4;refine⟨rZ S I hC ck hf hlt,rfl,I.bare,Un.kept hk,⟨_,hn,fun i x v e1 e2 e3=>?_⟩,fun x c h=>?_,I.hok.fresh hC,fun x c h=>?_,fun p hp=>absurd (show p∈([]:List (Addr×Obj))from hp) (by simp),I.hok.kept hk,?_⟩
 ·have e1:N[i]? =some x:=e1;unfold bz at e2;rw[G4]at e2;cases q:cap[i]? with
  |none=>rw[q]at e2;cases e2
  |some o=>
   cases o with
   |none=>rw[q]at e2;cases e2
   |some j=>
    rw[q]at e2;obtain⟨hj,hm⟩:=S.cap i x j e1 q;have e2:σ[j]?.bind id=some v:=Fy e2;have e2':σ[j]? =some (some v):=by
     cases z:σ[j]? with
     |none=>rw[z]at e2;cases e2
     |some o=>rw[z]at e2;exact congrArg some e2
    have kd:=S.free _ hm rfl;obtain⟨m,_,hl⟩:=I.loc;obtain⟨u,r,lk⟩:=hl j x v hj e2' (by rcases kd with z|z;exact .inr<|.inl z;exact .inr<|.inr z);refine⟨u,r,.inr ?_⟩;rcases lk with⟨z,_⟩|⟨_,c,hc,hcell⟩
    ·rcases kd with q|q<;> ·rw[show X.env.kindOf x=_ from q]at z;cases z
    ·refine⟨?_,c,oh S.uniq hm hc,hcell.keeps hk⟩;have e:(relabel scope X.env).names.lookup x=_:=ft (env:=X.env) (names:=scope.names) (x:=x);rw[dM S.uniq hm]at e;simp only[Jq]at e;show(relabel scope X.env).names.lookup x=some .cell\/(relabel scope X.env).names.lookup x=some .free;rw[e];split;·exact .inl rfl
     ·exact .inr rfl
 ·rcases dG frc h with a | ⟨a1,a2⟩
  ·exact⟨_,(ck.empty x c a).1⟩
  ·obtain⟨v,q⟩:=I.cell x c a2;exact⟨v,q.keeps hk⟩
 ·rcases dG frc h with a | ⟨a1,a2⟩
  ·exact I.hok.fresh<|GH hC<|Hy (ck.empty x c a).2
  ·exact I.freeC x c a2
 ·show(bz cap σ).length=N.length;unfold bz;rw[Fz,S.len]
end
abbrev eP(its:List EI)(k:Nat):Obj:={cls:=.type "list",data:=.seq its.toArray k}
section
variable{X:Cx}{scope:HM}{N:List Str}{cap:List (Option Nat)}{tg iter elt:Expr}{ifs:List Expr}{pos:Pos}{wi:TI}{g:TG}{tf:TT}{te:TE}
theorem mn(S:CompScope X scope N cap)(hc:X.calm=true)
  (hg:∀s H C fp,PG (aM X scope N s H C fp) tg g) (hf:∀s H C fp,zK (aM X scope N s H C fp) ifs tf) (he:∀s H C fp,PE (aM X scope N s H C fp) elt te)
  {pins:List (Addr×Obj)} {σ:St} {H2:Hp} {s2:EM} {it:Addr} {fp:List Addr} {tn:Nat->Heap->Prop} {J:It} {Qv:VK} {E:EI->EM->Prop} {RR:EI->Addr->Nc->EM->Prop}
  (I2:Inv X pins σ H2 s2) (T:Turn X.prog X.w X.K tg J fp it tn) (st2:tn 0 s2.heap) (f2:∀b∈fp,FpOk X pins H2 b) {W:Nat->Nat->List V->Hp->Prop} (w0:∃m,W 0 m [] H2)
  (turn:∀i m ys H,W i m ys H->ys.length< sizeLine/\((J.stop i H/\∀D,H D=none->Qv (.ref D) (cy H D<|.lst ys))\/
   (J.go i H/\∃N:List V->Hp->Prop,(∀ys' H',N ys' H'->∃m',m'<m/\W (i+1) m' ys' H')/\∀x H',J.yld i H x H'->g x (bz cap σ) H' fun σ2 H2=>Keep (bz cap σ) σ2/\tf σ2 H2 fun b H3=>if b=true then te σ2 H3 fun y H4=>N (ys++[y]) H4 else N ys H3)))
  (fin:∀(D C:Addr) (σ':St) (H':Hp) (s':EM) (its:List EI) (k:Nat) (ys:List V),s2.heap.objs.size<=D->s2.heap.objs.size<=C->D≠C->Inv (aM X scope N s2 H2 C fp) [(D,eP its k)] σ' H' s'->Vals ys its->ys.length<=sizeLine->
   Qv (.ref D) (cy H' D (.lst ys))->RR (.ref D) C (.ok .next) s'):
  wpAny (model X.prog X.w) X.A (newList []) (fun acc s₃=>wpAny (model X.prog X.w) X.A (newFunctionEnv scope X.env.globals (cQ X.env scope.names []) [] X.env.qual none .none<|some X.env) (fun cenv s₄=>
   codeAny (model X.prog X.w) X.A (.compStart (.ListComp elt [⟨tg,iter,ifs,0⟩] scope pos) 0 (.ref it) acc {cenv with scope:=relabel scope X.env}) (RR acc cenv.locals) s₄) E s₃) E s2:=by
 refine Gw<|kO ?_;generalize hD:s2.heap.objs.size=D;generalize hH3:s2.heap.push {cls:=.type "list",dict:=none,data:=.seq ([]:List EI).toArray}=h3;have hz3:h3.objs.size=D+1:=by rw[<-hH3,FH,hD]
 dsimp only;have eC:({s2 with heap:=h3}:EM).heap.objs.size=D+1:=hz3;rw[show h3.objs.size=D+1 from hz3];generalize hH4:pushCells (h3.push {cls:=.type "dict",data:=.dict #[]}) scope.names=h4;have hz3':(h3.push {cls:=.type "dict",data:=.dict #[]}).objs.size=D+1+1:=by rw[FH,hz3]
 have ck:Nf h4 (D+1+1) (cellsFrom (D+1+1) scope.names []):=by
  have:=cellsFrom_ok scope.names (h3.push {cls:=.type "dict",data:=.dict #[]}) (D+1+1) [] ⟨fun _ _ hm=>(nomatch hm),JT⟩ (by rw[hz3'];exact Fb _);rw[hz3',hH4]at this;exact this
 have k23:∀b o,s2.heap.get? b=some o->h3.get? b=some o:=fun b o e=>by rw[<-hH3];exact EJ _ e
 have k34:∀b o,h3.get? b=some o->h4.get? b=some o:=fun b o e=>by rw[<-hH4];exact Jr _ _ b o<|EJ _ e
 have hD4:h4.get? D=some (eP [] 0):=k34 _ _ (by rw[<-hH3,<-hD];exact EU _ rfl);have hn4:h4.Ns (D+1) fun _=>none:=by
  rw[<-hH4,<-hz3];exact(Nx h3<|.type "dict").keeps (Jr _ _)
 have fpD:∀b∈fp,b<D:=fun b hb=>by
  obtain⟨o,e,_⟩:=T.obj _ _ st2 b hb;rw[<-hD];exact F0 e
 have hlt:∀b∈fp,b<D+1:=fun b hb=>LM<|fpD b hb;have hDC:s2.heap.objs.size<=D+1:=by rw[hD];exact Jh _
 have hDs:s2.heap.objs.size<=D:=by rw[hD];exact Fb _
 have IC:Inv (aM X scope N s2 H2 (D+1) fp) [] (bz cap σ) H2 {s2 with heap:=h4}:=
  kQ S I2 hDC ck f2 hlt ⟨_,_,rfl⟩ hn4 fun b o e=>k34 b o<|k23 b o e
 have okC:=IC.ok;have nfs:∀{b:Addr},s2.heap.objs.size<=b->b∉frs X.stack:=fun{b}hb hm=>by
  obtain⟨_,o,ho,_⟩:=I2.stack.mem hm;exact absurd (EY (F0 ho) hb)<|FO _
 have frc:∀x∈scope.names,x.2=.free->∃c,X.env.cells.lookup x.1=some c:=fun x hx hk=>I2.ok.has x.1<|S.free x hx hk;have cellsD:∀x c,(aM X scope N s2 H2 (D+1) fp).env.cells.lookup x=some c->c≠D:=fun x c e=>by
  rcases dG frc e with a|⟨_,a⟩
  ·have q:D+1+1<=c:=(ck.empty x c a).2;exact H9<|EY (EY (GI D)<|Jh _) q
  ·obtain⟨v,q⟩:=I2.cell x c a;have:=q.lt;rw[hD]at this;exact Fd this
 have fpO:∀{H':Hp}{its:List EI}{k:Nat},(∀b∈fp,H' b=none)->∀b∈fp,FpOk (aM X scope N s2 H2 (D+1) fp) [(D,eP its k)] H' b:=fun{H' its k}hn b hb=>
  ⟨hn b hb,Fd<|hlt b hb,okC.exfs b hb,.inl hb,(okC.exf b hb).2,fun p hp=>by
   have e:p=(D,eP its k):=by simpa [aM] using hp
   subst e;exact H9 (fpD b hb)⟩
 have pinD:∀{σ':St}{H':Hp}{s':EM}{its:List EI}{k:Nat},Inv (aM X scope N s2 H2 (D+1) fp) [] σ' H' s'->s'.heap.get? D=some (eP its k)->H' D=none->Inv (aM X scope N s2 H2 (D+1) fp) [(D,eP its k)] σ' H' s':=fun{σ' H' s' its k}J e n=>
  J.pins_of fun p hp=>by
   have e':p=(D,eP its k):=by simpa using hp
   subst e';exact⟨e,n,Fd<|GI _,nfs hDs,fun v z=>by
    have z':Kd its.toArray k=I9 v:=z;cases z'⟩
 have loop:codeAny (model X.prog X.w) X.A (.compLoop (.ListComp elt [⟨tg,iter,ifs,0⟩] scope pos) 0 (.ref it) (.ref D) (aM X scope N s2 H2 (D+1) fp).env) (RR (.ref D)<|D+1) {s2 with heap:=h4}:=by
  obtain⟨m0,w0⟩:=w0;refine iS (fun n s'=>∃i ys its k σ' H',Inv (aM X scope N s2 H2 (D+1) fp) [(D,eP its k)] σ' H' s'/\tn i s'.heap/\(∀b∈fp,H' b=none)/\Vals ys its/\(∀(j:Nat)(v:V),(bz cap σ)[j]? =some (some v)->σ'[j]? =some (some v))/\W i n ys H') ?_ m0
   ⟨0,[],[],0,bz cap σ,H2,pinD IC hD4<|I2.hok.fresh hDs,T.keep _ _ _ st2 fun b hb o e=>k34 b o<|k23 b o e,fun b hb=>(f2 b hb).1,.nil,fun _ _ e=>e,w0⟩
  rintro n s3 ⟨i,ys,its,k,σ3,H3,I3,st3,fr3,rv,kp,w3⟩;obtain⟨hyl,tr⟩:=turn i n ys H3 w3;have pin3:=I3.pin (D,eP its k)<|Fq _ EZ;rcases tr with⟨stop,qn⟩|⟨go,NN,hNN,step⟩
  ·refine cb (T.done (aM X scope N s2 H2 (D+1) fp) rfl rfl rfl hc i _ s3 σ3 H3 _ I3 (fpO fr3) st3 stop) fun r s4 zz=>?_;obtain⟨hr,I4⟩:=zz;subst hr;exact fin D (D+1) σ3 H3 s4 its k ys hDs hDC (Fd<|GI _) I4 rv (Hy hyl)<|qn D pin3.2.1
  ·have I3':Inv (aM X scope N s2 H2 (D+1) fp) [(D,eP its k)] (bz cap σ) H3 s3:=I3.weak (by rw[I3.len,IC.len]) kp;refine cb (T.item (aM X scope N s2 H2 (D+1) fp) rfl rfl rfl hc i _ s3 _ H3 _ I3' (fpO fr3) st3 go) fun r s4 zz=>?_;obtain⟨u,hr,h4⟩:=zz;subst hr;refine cb h4 fun _ s5 zz=>?_;obtain⟨x,H5,I5,r5,y5,st5,fr5⟩:=zz;have I5':=I5.pinned (fpO fr5)<|T.obj _ _ st5;refine cb (hg _ _ _ _ _ s5 _ H5 x u _ I5' r5<|step x H5 y5) fun _ s6 zz=>?_;obtain⟨σ6,H6,I6,kp6,q6⟩:=zz;refine cb (hf _ _ _ _ _ s6 σ6 H6 _ I6 q6) fun ok s7 zz=>?_;obtain⟨H7,I7,q7⟩:=zz;have back:∀{s8:EM}{H8:Hp},Inv (aM X scope N s2 H2 (D+1) fp) ([(D,eP its k)]++jl fp s5.heap) σ6 H8 s8->tn (i+1) s8.heap/\(∀b∈fp,H8 b=none)/\s8.heap.get? D=some (eP its k)/\H8 D=none:=fun{s8 H8}I8=>by
    have at_:∀b∈fp,∀o,s5.heap.get? b=some o->s8.heap.get? b=some o/\H8 b=none:=fun b hb o e=>by
     have z:=I8.pin (b,o)<|Fq _<|Fq _<|gm hb e;exact⟨z.1,z.2.1⟩
    have pd:=I8.pin (D,eP its k)<|Fq _<|Gy _ EZ;refine⟨T.keep _ _ _ st5 fun b hb o e=>(at_ b hb o e).1,fun b hb=>?_,pd.1,pd.2.1⟩;obtain⟨o,e,d⟩:=T.obj _ _ st5 b hb;exact(at_ b hb o e).2
   cases ok with
   |false=>
    rw[if_neg F7]at q7 ⊢;obtain⟨m',hm,w'⟩:=hNN _ _ q7;obtain⟨t7,f7,d7,n7⟩:=back I7;exact⟨m',hm,i+1,ys,its,k,σ6,H7,I7.unpinned,t7,f7,rv,fun j v e=>Keep.get kp6 e,w'⟩
   |true=>
    rw[if_pos rfl]at q7 ⊢;refine cb (he _ _ _ _ _ s7 σ6 H7 _ I7 q7) fun y8 s8 zz=>?_;obtain⟨y,H8,I8,r8,q8⟩:=zz;obtain⟨m',hm,w'⟩:=hNN _ _ q8;obtain⟨t8,f8,d8,n8⟩:=back I8;refine append_at (D:=D) (its:=its.toArray) (n:=k) d8 (fun h' hs' hD'=>?_) (by rw[F4,<-rv.length];exact Hy hyl);have J0:Inv (aM X scope N s2 H2 (D+1) fp) [] σ6 H8 s8:=I8.pins_of fun p hp=>by cases hp
    have J1:Inv (aM X scope N s2 H2 (D+1) fp) [] σ6 H8 {s8 with heap:=h'}:=J0.turned (it:=D) (t':=s8.toks) (fun b o hb e=>(hs'.2 b hb).trans e) n8 (Fd<|GI _) (.inr hDs) cellsD fun p hp=>by
     have:p∈([]:List (Addr×Obj)):=hp;cases this
    refine⟨m',hm,i+1,ys++[y],its++[y8],k+1,σ6,H8,pinD J1 (by simpa using hD') n8,T.keep _ _ _ t8 fun b hb o e=>(hs'.2 b<|Fd<|fpD b hb).trans e,f8,rv.append<|.cons r8 .nil,fun j v e=>Keep.get kp6 e,w'⟩
 exact Kt loop<|Gz (T.self _ 0 _ _ _ (T.keep _ _ _ st2 fun b hb o e=>k34 b o<|k23 b o e) loop) (fun _ _ h=>h) fun _ _ h=>h
end
section
variable{X:Cx}{scope:HM}{N:List Str}{cap:List (Option Nat)}{tg iter elt:Expr}{ifs:List Expr}{pos:Pos}{wi:TI}{g:TG}{tf:TT}{te:TE}
theorem kT{pins:List (Addr×Obj)}{σ σ':St}{H2 H':Hp}{s2 s':EM}{fp:List Addr}{D C:Addr}{its:List EI}{k:Nat}{ys:List V}{h':Heap}(I2:Inv X pins σ H2 s2)(f2:∀b∈fp,FpOk X pins H2 b)
  (hD:s2.heap.objs.size<=D) (hC:s2.heap.objs.size<=C) (hDC:D≠C) (I':Inv (aM X scope N s2 H2 C fp) [(D,eP its k)] σ' H' s') (rv:Vals ys its) (hl:ys.length<=sizeLine) (hs:Fj C s'.heap h'):
  Inv X pins σ (cy H' D<|.lst ys) {s' with heap:=h'}:=by
 have pd:=I'.pin (D,eP its k)<|Fq _ EZ;have nD:H' D=none:=pd.2.1;have nC:H' C=none:=I'.free;have lt2:∀b o,s2.heap.get? b=some o->b≠D/\b≠C:=fun b o e=>⟨Fd<|EY (F0 e) hD,Fd<|EY (F0 e) hC⟩
 have hk:∀b o,b≠C->s'.heap.get? b=some o->h'.get? b=some o:=fun b o hb e=>(hs.2 b hb).trans e;have B:Un (frs X.stack) fp H2 H' s2.heap s'.heap:=I'.base;have tr:∀b u,H' b=some u->b≠D/\b≠C:=fun b u e=>⟨fun z=>(by rw[z,nD]at e;cases e),fun z=>(by rw[z,nC]at e;cases e)⟩
 refine I2.call' (ch:=fp) I'.os ⟨fun b o e n hb hx=>?_,fun b o e n hb hx=>?_,fun b o e n hx=>?_,fun b o e hx=>?_,fun b xs e=>?_,fun b o u e=>?_,fun b ps e=>?_⟩ (fun b u e=>?_) I'.bare fun b hb=>⟨(f2 b hb).2.2.2.1,(f2 b hb).2.1,(f2 b hb).2.2.2.2.1,(f2 b hb).2.2.2.2.2⟩
 ·exact hk b o (lt2 b o e).2 (B.keep b o e n hb hx)
 ·obtain⟨sl,q⟩:=B.slot b o e n hb hx;exact⟨sl,hk b _ (lt2 b o e).2 q⟩
 ·rw[ao (lt2 b o e).1];exact B.free b o e n hx
 ·obtain⟨o',q⟩:=B.there b o e hx;exact⟨o',hk b _ (lt2 b o e).2 q⟩
 ·rw[ao (tr b _<|B.tups b xs e).1];exact B.tups b xs e
 ·rw[ao (tr b _<|B.frzs b o u e).1];exact B.frzs b o u e
 ·obtain⟨more,q⟩:=B.tbls b ps e;exact⟨more,by rw[ao (tr b _ q).1];exact q⟩
 ·by_cases hb:b=D
  ·subst hb;rw[aq]at e;cases e;exact⟨hl,its,k,rv,hk _ _ hDC pd.1⟩
  ·rw[ao hb]at e;refine(I'.hok b u e).stay (fun c w' hc q=>hk c w' ?_ q) (fun c q=>by rw[ao (tr c _ q).1];exact q) fun c xs q=>by rw[ao (tr c _ q).1];exact q
   rcases hc with z|z;·rw[z];exact(tr b u e).2
   ·exact(tr c _ z).2
theorem iH(S:CompScope X scope N cap):∀x∈scope.names,x.2=.local->scope.names.lookup x.1=some .local:=fun x hx hl=>dM S.uniq (by rw[<-hl];exact hx)
theorem dg(S:CompScope X scope N cap)(hc:X.calm=true)(hi:PI X tg iter wi)
  (hg:∀s H C fp,PG (aM X scope N s H C fp) tg g) (hf:∀s H C fp,zK (aM X scope N s H C fp) ifs tf) (he:∀s H C fp,PE (aM X scope N s H C fp) elt te)
  (hs:∀x,foldedSetIterable iter X.env x=pure x:=by intro _;rfl):PE X (.ListComp elt [⟨tg,iter,ifs,0⟩] scope pos) (kP cap wi g tf te):=by
 intro pins s σ H Q I h;rw[N2];have frc:∀x∈scope.names,x.2=.free->∃c,X.env.cells.lookup x.1=some c:=fun x hx hk=>I.ok.has x.1<|S.free x hx hk;refine Iq (use:=none) rfl hs (fV frc) S.kind (iH S)<|cb (hi pins s σ H _ I h) fun v s1 h1=>cb h1 fun itv s2 h2=>?_;obtain⟨it,fp,tn,J,H2,rfl,I2,T,st2,f2,W,w0,turn⟩:=h2;refine mn (RR:=fun acc C=>compPost (model X.prog X.w) X.A X.xe none (EP X pins σ Q) acc C) S hc hg hf he I2 T st2 f2 w0 turn fun D C σ' H' s' its k ys hD hC hDC I' rv hl q=>?_;obtain⟨m,hn,_⟩:=I'.loc;exact⟨m,hn,fun h' hs'=>⟨.ref D,_,kT I2 f2 hD hC hDC I' rv hl hs',rfl,q⟩⟩
end
section
variable{X:Cx}{scope:HM}{N:List Str}{cap:List (Option Nat)}{tg iter elt:Expr}{ifs:List Expr}{pos spos py:Pos}{wi:TI}{g:TG}{tf:TT}{te:TE}{i:Nat}{y:Str}
theorem eS(hN:X.N.Nodup)(hi':X.N[i]? =some y)(hy:zt X.env.scope y)(S:CompScope X scope N cap)(hc:X.calm=true)(hi:PI X tg iter wi)
  (hg:∀s H C fp,PG (aM X scope N s H C fp) tg g) (hf:∀s H C fp,zK (aM X scope N s H C fp) ifs tf) (he:∀s H C fp,PE (aM X scope N s H C fp) elt te)
  (hsw:swapsWith (.ListComp elt [⟨tg,iter,ifs,0⟩] scope pos) (some<|.Name y py) spos.line X.env=pure true:=by rfl)
  (hs:∀x,foldedSetIterable iter X.env x=pure x:=by intro _;rfl) (hfn:X.fn y=true\/X.env.scope.names.lookup y=some .local:=by first|exact .inl rfl|exact .inr rfl|assumption):
  PS X (.Assign [.Name y py] (.ListComp elt [⟨tg,iter,ifs,0⟩] scope pos) spos) (bN (kP cap wi g tf te)<|aP i):=by
 intro pins s σ H D I h;rw[exec_Assign_Name_used _ _ _ _ hsw];refine EE<|K7<|EE ?_;show wpAny _ X.A (do let _ <-comprehension (.ListComp elt [⟨tg,iter,ifs,0⟩] scope pos) scope X.env _ (newList []) false (eval iter X.env) (some<|assign (.Name y py) X.env)) _ _ s;have frc:∀x∈scope.names,x.2=.free->∃c,X.env.cells.lookup x.1=some c:=fun x hx hk=>I.ok.has x.1<|S.free x hx hk;refine EE<|Gz (Iq (use:=some<|assign (.Name y py) X.env) (Q:=fun _ s'=>SP X pins D .next s') rfl hs (fV frc) S.kind (iH S)<|cb (hi pins s σ H _ I h) fun v s1 h1=>cb h1 fun itv s2 h2=>?_) (fun _ s' hq=>ES<|ES hq) fun _ _ e=>e;obtain⟨it,fp,tn,J,H2,rfl,I2,T,st2,f2,W,w0,turn⟩:=h2;refine mn (Qv:=fun x H1=>aP i x σ H1 D.nx) (RR:=fun acc C=>compPost (model X.prog X.w) X.A X.xe (some<|assign (.Name y py) X.env) (fun _ s'=>SP X pins D .next s') acc C) S hc hg hf he I2 T st2 f2 w0 turn fun d C σ' H' s' its k ys hD hC hDC I' rv hl q=>?_;obtain⟨m,hn,_⟩:=I'.loc;have I3:Inv X pins σ (cy H' d<|.lst ys) s':=kT (h':=s'.heap) I2 f2 hD hC hDC I' rv hl<|.refl ..;have nC:(cy H' d<|.lst ys) C=none:=by rw[ao<|Gh hDC];exact I'.free
 have cL:C≠X.env.locals:=fun z=>absurd (EY I2.lt hC) (by rw[z];exact FO _);have cc:∀x c,X.env.cells.lookup x=some c->c≠C:=fun x c e z=>by
  obtain⟨v,q⟩:=I2.cell x c e;exact absurd (EY q.lt hC) (by rw[z];exact FO _)
 show wpAny _ X.A (assign (.Name y py) X.env<|.ref d) _ _ _;refine Lx<|lO (v:=.ref d) I3 hN hi' hy rfl (fun s4 I4⟨a,sb,ha⟩=>?_) hfn;have aC:C≠a:=by
  rcases ha with z|z;·rw[z];exact cL
  ·exact Gh<|cc _ _ z
 refine⟨m,hn.sameBut sb aC,fun h' hs'=>?_⟩;exact⟨_,_,I4.turned (it:=C) (t':=s4.toks) (fun b o hb e=>(hs'.2 b hb).trans e) nC cL (.inr<|GH I2.sz hC) cc (fun p hp z=>absurd (EY (F0 (I2.pin p hp).1) hC) (by rw[z];exact FO _)),q⟩
end
inductive Src where
 |lst (a:Addr)|tup (a:Addr)|str (l:List Nat)
def Src.has(K:EH)(H:Hp):Src->List V->Prop
 | .lst a,xs=>SqL K H a xs
 | .tup a,xs=>SqT K H a xs
 | .str l,xs=>xs=l.map fun c=>IK<|sOf [c]
def Src.at(it:Addr)(i:Nat)(h:Heap):Src->Prop
 | .lst a=>h.IsListIter it a i
 | .tup a=>h.IsTupleIter it a i
 | .str l=>∃t,h.IsStrIter it "str_ascii_iterator" (sOf l) t i\/h.IsStrIter it "str_iterator" (sOf l) t i
def Src.val:Src->V
 | .lst a=>.ref a
 | .tup a=>.ref a
 | .str l=>.str<|sOf l
section
variable{P:Ff}{w:Fp}{A:Fu}{E:EI->EM->Prop}{s:EM}
theorem nj{j a:Addr}{k:Nat}{us:Array EI}{x:EI}{Q:EI->EM->Prop}(g:s.heap.IsTupleIter j a k)(ga:s.heap.IsTuple a us)(gx:us[k]? =some x)
  (q:∀h',h'.IsTupleIter j a (k+1)->Fj j s.heap h'->Q x {s with heap:=h'}):wpAny (model P w) A (Fm<|.ref j) Q E s:=by
 obtain⟨ob,e1,e2,e3⟩:=id g;obtain⟨ot,f1,_,nn,f3⟩:=ga;unfold Fm;refine EE<|FX (name:=EL "__next__") g.typeIs Hc<|G9 Hc g.typeIs IL ?_<|IG _;show wpAny (model P w) _ (field (.ref j) 0>>=_) _ _ s;refine EE<|Ft e1 e3 (x:=.ref a) rfl ?_;show wpAny (model P w) _ (if(F6 a==Fv)=true then _ else _) _ _ s;rw[if_neg (show ¬((F6 a==Fv)=true)from F7)];show wpAny (model P w) _ (field (.ref j) 1>>=_) _ _ s;refine EE<|Ft e1 e3 (x:=.int k 0) rfl ?_;show wpAny (model P w) _ (seqItems? (.ref a)>>=_) _ _ s;refine EE<|FT f1 f3 ?_;simp only[GO,gx];refine EE (GQ e1 e3 (by simp) (ES ⟨x,rfl,ES (q _ ⟨_,Gb _ e1<|He<|GD e3 _,(JU ..).trans e2,(by rw[GD e3];simp[rawInt])⟩<|Hn ..)⟩))
theorem oi{j a:Addr}{k:Nat}{us:Array EI}{Q:EI->EM->Prop}(hh:A.handled=none)(g:s.heap.IsTupleIter j a k)(ga:s.heap.IsTuple a us)(gx:us[k]? =none)
  (q:∀h' e,Hs j s.heap h'->(∃o,h'.get? e=some o/\o.cls=.type "StopIteration")->E (.ref e) {s with heap:=h'}):wpAny (model P w) A (Fm<|.ref j) Q E s:=by
 obtain⟨ob,e1,e2,e3⟩:=id g;obtain⟨ot,f1,_,nn,f3⟩:=ga;unfold Fm;refine EE<|FX (name:=EL "__next__") g.typeIs Hc<|G9 Hc g.typeIs IL ?_<|IG _;show wpAny (model P w) _ (field (.ref j) 0>>=_) _ _ s;refine EE<|Ft e1 e3 (x:=.ref a) rfl ?_;show wpAny (model P w) _ (if(F6 a==Fv)=true then _ else _) _ _ s;rw[if_neg (show ¬((F6 a==Fv)=true)from F7)];show wpAny (model P w) _ (field (.ref j) 1>>=_) _ _ s;refine EE<|Ft e1 e3 (x:=.int k 0) rfl ?_;show wpAny (model P w) _ (seqItems? (.ref a)>>=_) _ _ s;refine EE<|FT f1 f3 ?_;simp only[GO,gx];refine EE (J8 (EE (GQ e1 e3 (by simp) ?_)));show wpAny (model P w) _ (newExc (.type "StopIteration") []>>=_) _ _ _;refine EE ?_;simp only[newExc,newTuple];refine EE (Gw (EE (m:=firstArgMember _ _) (M8 (a:=Fv) (by first|rfl|(simp only[firstArgMember];rfl)) (Gw ?_ (by size_fits)))) (by size_fits));simp only[raiseNew];refine EE<|Lf ?_
 first|rw[show A.in1.handled=none from hh]|rw[hh]
 exact EE<|ES<|M9<|q _ _ (((Hn ..).extBut.push _).push _) ⟨_,EU _ rfl,rfl⟩
theorem uD(hh:A.handled=none)(j a:Addr)(ne:a≠j)(us:Array EI):Ky P w A j [j,a] us.size (fun k v=>us[k]? =some v) (fun k h=>h.IsTupleIter j a k/\h.IsTuple a us) where
 live:=fun _ _ st=>by obtain⟨⟨o,e,_⟩,_⟩:=st;exact⟨o,e⟩
 frame:=fun _ _ _ st hk=>⟨st.1.at fun o e=>hk j (by simp) o e,by obtain⟨o,e,r⟩:=st.2;exact⟨o,hk a (by simp) o e,r⟩⟩
 item:=fun k s Q E hk st q=>nj st.1 st.2 (x:=us[k]) (by simp[hk]) fun h' g' sb=>q _ h' s.toks (by simp[hk]) ⟨g',by obtain⟨o,e,r⟩:=st.2;exact⟨o,(sb.2 a ne).trans e,r⟩⟩ sb
 done:=fun s Q E st q=>oi hh st.1 st.2 (by simp) q
theorem Src.draws{X:Cx}{pins:List (Addr×Obj)}{σ:St}{H:Hp}{s0:EM}{c:Src}{xs:List V}{it:Addr}{i:Nat}(hh:A.handled=none)(I:Inv X pins σ H s0)(hs:c.has X.K H xs)(ht:c.at it i s0.heap)(hit:H it=none):
  ∃(fp:List Addr)(Pt:Nat->EI->Prop)(St:Nat->Heap->Prop),Ky X.prog X.w A it fp xs.length Pt St/\St i s0.heap/\(∀k v,Pt k v-> ∃x,xs[k]? =some x/\RelV x v)/\(∀k h,St k h->c.at it k h)/\it∈fp/\
   ∀b∈fp,b=it\/H b≠none\/∃o,X.base.get? b=some o:=by
 cases c with
 |lst a=>
  obtain⟨its,rv,p,hz⟩:=I.list hs;have ne:a≠it:=fun z=>by
   obtain⟨o,e,c1,_⟩:=(show s0.heap.IsListIter it a i from ht)
   obtain⟨o2,e2,c2,_⟩:=p.isList;rw[z,e]at e2;cases e2;rw[c1]at c2;exact absurd c2 (by decide)
  have dr:=Draws.list (prog:=X.prog) (w:=X.w) hh it a ne its.toArray;rw[F4,<-rv.length]at dr;refine⟨_,_,_,dr,⟨ht,p.isList⟩,fun k v e=>?_,fun k h st=>st.1,by simp,fun b hb=>?_⟩
  ·have e:its[k]? =some v:=by simpa using e
   have hk:k<xs.length:=by rw[rv.length];exact(ER.mp e).1
   obtain⟨u,hu,ru⟩:=rv.get (i:=k) (x:=xs[k]) (by simp[hk]);rw[e]at hu;cases hu;exact⟨_,by simp[hk],ru⟩
  ·rcases F9.mp hb with z | z;·exact .inl z
   ·have z:b=a:=by simpa using z
    subst z;rcases (show SqL X.K H b xs from hs)with(z|⟨o,z⟩)|⟨o,_,_,z,_⟩
    ·exact .inr (.inl (by rw[z];simp))
    ·exact .inr (.inl (by rw[z];simp))
    ·exact .inr<|.inr ⟨_,I.mod.kin _ _ z⟩
 |tup a=>
  obtain⟨its,rv,p,hz⟩:=I.tuple hs;have p:s0.heap.IsTuple a its.toArray:=p;have ne:a≠it:=fun z=>by
   obtain⟨o,e,c1,_⟩:=(show s0.heap.IsTupleIter it a i from ht)
   obtain⟨o2,e2,c2,_⟩:=id p;rw[z,e]at e2;cases e2;rw[c1]at c2;exact absurd c2 (by decide)
  have dr:=uD (P:=X.prog) (w:=X.w) hh it a ne its.toArray;rw[F4,<-rv.length]at dr;refine⟨_,_,_,dr,⟨ht,p⟩,fun k v e=>?_,fun k h st=>st.1,by simp,fun b hb=>?_⟩
  ·have e:its[k]? =some v:=by simpa using e
   have hk:k<xs.length:=by rw[rv.length];exact(ER.mp e).1
   obtain⟨u,hu,ru⟩:=rv.get (i:=k) (x:=xs[k]) (by simp[hk]);rw[e]at hu;cases hu;exact⟨_,by simp[hk],ru⟩
  ·rcases F9.mp hb with z | z;·exact .inl z
   ·have z:b=a:=by simpa using z
    subst z;rcases (show SqT X.K H b xs from hs)with(z|⟨o,z⟩)|⟨o,_,_,z,_⟩
    ·exact .inr (.inl (by rw[z];simp))
    ·exact .inr (.inl (by rw[z];simp))
    ·exact .inr<|.inr ⟨_,I.mod.kin _ _ z⟩
 |str l=>
  have hs:xs=l.map fun c=>IK (sOf [c]):=hs;obtain⟨t,ht⟩:=(show ∃t,s0.heap.IsStrIter it "str_ascii_iterator" (sOf l) t i\/s0.heap.IsStrIter it "str_iterator" (sOf l) t i from ht)
  have hn:(sOf l).cps.size=xs.length:=by rw[hs];simp[sOf]
  have sg:∀(k:Nat)(v:EI),(∃c u,(sOf l).cps[k]? =some c/\v=.str ⟨#[c]⟩ u)->∃x,xs[k]? =some x/\RelV x v:=fun k v⟨c,u,e,ev⟩=>by
   have e:l[k]? =some c:=by simpa [sOf] using e
   exact⟨.str<|sOf [c],by rw[hs];simp[e],⟨u,ev⟩⟩
  rcases ht with ht|ht;·exact⟨_,_,_,hn▸Draws.strAscii hh it (sOf l) t,ht,sg,fun k h st=>⟨t,.inl st⟩,by simp,fun b hb=>.inl (by simpa using hb)⟩
  ·exact⟨_,_,_,hn▸Draws.strWide hh it (sOf l) t,ht,sg,fun k h st=>⟨t,.inr st⟩,by simp,fun b hb=>.inl (by simpa using hb)⟩
end
def fu(v:EI)(h:Heap)(o:Obj):Prop:=∀(prog:Ff)(w:Fp)(A:Fu)(E:EI->EM->Prop)(Q:EI->EM->Prop)(s:EM),s.heap=h->Q (.ref h.objs.size) {s with heap:=h.push o}->wpAny (model prog w) A (pyIter v) Q E s
def AY(h:Heap)(o1 o2:Obj):Heap:=((h.push o1).push o2).push {cls:=.type "tuple",data:=.seq #[.ref h.objs.size,.ref (h.push o1).objs.size]}
def AZ(h:Heap)(o1 o2:Obj):Heap:=(AY h o1 o2).push {cls:=.type "tuple",data:=.seq #[.none,.none]}
def Ay(h:Heap)(o1 o2:Obj):Heap:=(AZ h o1 o2).push {cls:=.type "zip",data:=.fields #[.none,.bool false,.bool false,.ref ((h.push o1).push o2).objs.size,.ref (AY h o1 o2).objs.size]}
theorem nq(v1 v2:EI)(o1 o2:Obj):Meets (LN.«zip.__new__» ⟨[.type "zip",v1,v2],[]⟩) (fun _ R s=>fu v1 s.heap o1/\fu v2 (s.heap.push o1) o2/\R (.ok<|.ret<|.ref (AZ s.heap o1 o2).objs.size) {s with heap:=Ay s.heap o1 o2}):=
 .of_wp fun prog w A R s h=>by
  obtain⟨hp,g,d,tk,os⟩:=s;obtain⟨i1,i2,h⟩:=h;have hsub:=sub_zip;have j1:=fun(A:Fu)(E:EI->EM->Prop)(Q:EI->EM->Prop)(q:Q _ _)=>i1 prog w A E Q ⟨hp,g,d,tk,os⟩ rfl q;have j2:=fun(A:Fu)(E:EI->EM->Prop)(Q:EI->EM->Prop)(q:Q _ _)=>i2 prog w A E Q ⟨hp.push o1,g,d,tk,os⟩ rfl q
  wp_walk using j1 _ _ _,j2 _ _ _
  exact⟨_,rfl,h⟩
theorem sd{P:Ff}{w:Fp}{A:Fu}{E:EI->EM->Prop}{s:EM}{v1 v2:EI}{o1 o2:Obj}{Q:EI->EM->Prop}(i1:fu v1 s.heap o1)(i2:fu v2 (s.heap.push o1) o2)
  (f1:o1.isFreed=false) (f2:o2.isFreed=false)
  (q:∀h',HN h' (s.heap.objs.size+4) (s.heap.objs.size+2) (s.heap.objs.size+3) .none->IH h' (s.heap.objs.size+2) (.ref s.heap.objs.size) (.ref<|s.heap.objs.size+1)->IH h' (s.heap.objs.size+3) .none .none->
   h'.get? s.heap.objs.size=some o1->h'.get? (s.heap.objs.size+1)=some o2->(∀c o,s.heap.get? c=some o->h'.get? c=some o)->Q (.ref (s.heap.objs.size+4)) {s with heap:=h'}):
  wpAny (model P w) A (call (.type "zip") [v1,v2]) Q E s:=by
 refine callType_new Lp (by decide) (PySem.F.typeCall_zip_2 _ _) (PySem.F.newCall_zip_2 _ _) (fun obj=>PySem.F.args_object_init_3 obj _ _) KL (nq v1 v2 o1 o2) ⟨i1,i2,?_⟩;have z1:(s.heap.push o1).objs.size=s.heap.objs.size+1:=FH ..;have z2:((s.heap.push o1).push o2).objs.size=s.heap.objs.size+2:=by rw[FH,z1]
 have z3:(AY s.heap o1 o2).objs.size=s.heap.objs.size+3:=by unfold AY;rw[FH,z2]
 have z4:(AZ s.heap o1 o2).objs.size=s.heap.objs.size+4:=by unfold AZ;rw[FH,z3]
 have g5:(Ay s.heap o1 o2).get? (AZ s.heap o1 o2).objs.size=some _:=EU _ rfl;have g4:(Ay s.heap o1 o2).get? (AY s.heap o1 o2).objs.size=some _:=EJ _<|EU _ rfl;have g3:(Ay s.heap o1 o2).get? ((s.heap.push o1).push o2).objs.size=some _:=EJ _<|EJ _<|EU _ rfl;have g2:(Ay s.heap o1 o2).get? (s.heap.push o1).objs.size=some o2:=EJ _<|EJ _<|EJ _<|EU _ f2;have g1:(Ay s.heap o1 o2).get? s.heap.objs.size=some o1:=EJ _<|EJ _<|EJ _<|EJ _<|EU _ f1;show _/\_;rw[z2,z3,z4]at g5;rw[z1,z2]at g3;rw[z3]at g4;rw[z1]at g2;rw[z4];exact⟨⟨_,g5,rfl⟩,q _ g5 g3 g4 g1 g2 fun c o x=>EJ _<|EJ _<|EJ _<|EJ _<|EJ _ x⟩
theorem Src.iter{X:Cx}{pins:List (Addr×Obj)}{σ:St}{H:Hp}{s:EM}{c:Src}{xs:List V}{v:EI}{h:Heap}(I:Inv X pins σ H s)(hs:c.has X.K H xs)(rv:RelV c.val v)(k:∀b o,s.heap.get? b=some o->h.get? b=some o):
  ∃o,fu v h o/\o.isFreed=false/\(∀h':Heap,h'.get? h.objs.size=some o->c.at h.objs.size 0 h'):=by
 cases c with
 |lst a=>
  obtain⟨its,r,p,hz⟩:=I.list hs;cases (show v=.ref a from rv);obtain⟨o,e,r2⟩:=p.isList;refine⟨{cls:=.type "list_iterator",data:=.fields #[.ref a,.int 0 0]},fun prog w A E Q s' e' q=>?_,rfl,fun h' e'=>⟨_,e',rfl,rfl⟩⟩;subst e';exact Ih ⟨o,k a o e,r2⟩ q
 |tup a=>
  obtain⟨its,r,p,hz⟩:=I.tuple hs;cases (show v=.ref a from rv);obtain⟨o,e,r2⟩:=p;refine⟨{cls:=.type "tuple_iterator",data:=.fields #[.ref a,.int 0 0]},fun prog w A E Q s' e' q=>?_,rfl,fun h' e'=>⟨_,e',rfl,rfl⟩⟩;subst e';exact wpAny_pyIter_tuple ⟨o,k a o e,r2⟩ q
 |str l=>
  obtain⟨t,rfl⟩:=(show ∃t,v=.str (sOf l) t from rv)
  cases ha:(sOf l).cps.all (· <128);·exact⟨{cls:=.type "str_iterator",data:=.fields #[.str (sOf l) t,.int 0 0]},fun prog w A E Q s' e' q=>by subst e';exact LL ha q,rfl,fun h' e'=>⟨t,.inr ⟨_,e',rfl,rfl⟩⟩⟩
  ·exact⟨{cls:=.type "str_ascii_iterator",data:=.fields #[.str (sOf l) t,.int 0 0]},fun prog w A E Q s' e' q=>by subst e';exact Ln ha q,rfl,fun h' e'=>⟨t,.inl ⟨_,e',rfl,rfl⟩⟩⟩
section
variable{P:Ff}{w:Fp}{A:Fu}{E:EI->EM->Prop}{s:EM}{z TI TO i1 i2:Addr}{fp1 fp2:List Addr}{n1 n2 k:Nat}{P1 P2:Nat->EI->Prop}{S1 S2:Nat->Heap->Prop}{a b:EI}
structure ZApart(z TI TO i1 i2:Addr)(fp1 fp2:List Addr):Prop where
 c1:TI≠z
 c2:TO≠z
 c3:i1≠z
 c4:i2≠z
 c5:TI≠TO
 c6:TI≠i1
 c7:TI≠i2
 c8:TO≠i1
 c9:TO≠i2
 d1:z∉fp1/\TO∉fp1/\i2∉fp1
 d2:z∉fp2/\TO∉fp2/\i1∉fp2
theorem ay{n:Nat}{it:Addr}{fp:List Addr}{Pt:Nat->EI->Prop}{S:Nat->Heap->Prop}(D:Ky P w A it fp n Pt S){j:Nat}{h h':Heap}{c:Addr}(st:S j h)(sb:Fj c h h')(hc:c∉fp):S j h':=
 D.frame _ _ _ st fun b hb o e=>(sb.2 b fun q=>hc<|q▸hb).trans e
theorem se{Q:Option EI->EM->Prop}(D1:Ky P w A.in1 i1 fp1 n1 P1 S1)(D2:Ky P w A.in1 i2 fp2 n2 P2 S2)(Z:ZApart z TI TO i1 i2 fp1 fp2)(h1:k<n1)(h2:k<n2)(hz:HN s.heap z TI TO .none)
  (hI:IH s.heap TI (.ref i1) (.ref i2)) (hO:IH s.heap TO a b) (t1:S1 k s.heap) (t2:S2 k s.heap)
  (q:∀x y h' tk T,P1 k x->P2 k y->T=s.heap.objs.size->HN h' z TI TO (rawInt T)->IH h' TO x y->S1 (k+1) h'->S2 (k+1) h'->IH h' T x y->
   (∀c o,c≠z->c≠TO->c≠i1->c≠i2->s.heap.get? c=some o->h'.get? c=some o)->Q (some (.ref T)) {s with heap:=h',toks:=tk}):
  wpAny (model P w) A (pyNext<|.ref z) Q E s:=by
 have hT:s.TypeIs (.ref z) "zip":=⟨_,hz,rfl⟩
 unfold pyNext;refine EE<|Hg<|FX (name:=EL "__next__") hT Gv<|G9 Gv hT HV ?_<|HK _;obtain⟨hp,gg,dd,tk0,os⟩:=s;show wpAny (model P w) _ (field (.ref z) 2>>=_) _ _ _;refine EE<|Ft hz rfl (x:=.bool false) rfl ?_;show wpAny (model P w) _ (field (.ref z) 3>>=_) _ _ _;refine EE<|Ft hz rfl (x:=.ref TI) rfl<|EE<|FT hI rfl ?_;show wpAny (model P w) _ (Fx (.ref z)>>=_) _ _ _;refine EE ?_;unfold Fx;refine EE<|Ft hz rfl (x:=.none) rfl<|ES ?_;simp only[if_true];refine EE (J8 (EE (Ft hz rfl (x:=.ref TO) rfl (EE (G0 hz (by simp) fun g1 y1 b1=>?_)))));replace y1:HN g1 z TI TO .ellipsis:=y1;replace b1:Fj z hp g1:=b1;refine EE ?_;simp only[J9,Js,Iz,IW];refine EE<|EE<|Hh ?_;show wpAny (model P w) _ (Fm (.ref i1)>>=_) _ _ _;refine EE<|D1.item k _ _ _ h1 (ay D1 t1 b1 Z.d1.1) fun x g2 tk2 px u1 b2=>ES ?_;replace b2:Fj i1 g1 g2:=b2;have O2:IH g2 TO a b:=b2.extBut _ _ Z.c8<|b1.extBut _ _ Z.c2 hO;refine EE<|FT O2 rfl<|EE<|Jk O2 fun g3 O3 b3=>?_;replace O3:IH g3 TO x b:=O3;replace b3:Fj TO g2 g3:=b3;refine EE<|Il<|ES<|EE<|EE<|Hh ?_;show wpAny (model P w) _ (Fm (.ref i2)>>=_) _ _ _;refine EE<|D2.item k _ _ _ h2 (ay D2 (ay D2 (ay D2 t2 b1 Z.d2.1) b2 Z.d2.2.2) b3 Z.d2.2.1) fun y g4 tk4 py u2 b4=>ES ?_;replace b4:Fj i2 g3 g4:=b4;have O4:IH g4 TO x b:=b4.extBut _ _ Z.c9 O3;refine EE<|FT O4 rfl<|EE<|Jk O4 fun g5 O5 b5=>?_;replace O5:IH g5 TO x y:=O5;replace b5:Fj TO g4 g5:=b5;refine EE<|Il<|ES<|ES<|EE<|FT O5 rfl<|EE<|Mt ?_;have sz:g5.objs.size=hp.objs.size:=by rw[b5.1,b4.1,b3.1,b2.1,b1.1]
 have y5:HN g5 z TI TO .ellipsis:=b5.extBut _ _ Z.c2.symm<|b4.extBut _ _ Z.c4.symm<|b3.extBut _ _ Z.c2.symm<|b2.extBut _ _ Z.c3.symm y1;have k5:∀c o,c≠z->c≠TO->c≠i1->c≠i2->hp.get? c=some o->g5.get? c=some o:=fun c o e1 e2 e3 e4 e=>b5.extBut _ _ e2<|b4.extBut _ _ e4<|b3.extBut _ _ e2<|b2.extBut _ _ e3<|b1.extBut _ _ e1 e;have v1:S1 (k+1) g5:=ay D1 (ay D1 (ay D1 u1 b3 Z.d1.2.1) b4 Z.d1.2.2) b5 Z.d1.2.1;have v2:S2 (k+1) g5:=ay D2 u2 b5 Z.d2.2.1;have lz:z<g5.objs.size:=F0 y5;show wpAny (model P w) _ (GL (.ref z) (.ref g5.objs.size)>>=_) _ _ _;refine EE ?_;unfold GL;have y6:HN (g5.push {cls:=.type "tuple",data:=.seq #[x,y]}) z TI TO .ellipsis:=EJ _ y5;refine EE (G0 y6 (by simp) fun g7 y7 b7=>?_);replace y7:HN g7 z TI TO (rawInt g5.objs.size):=y7;replace b7:Fj z (g5.push {cls:=.type "tuple",data:=.seq #[x,y]}) g7:=b7;refine G0 y7 (by simp) fun g8 y8 b8=>?_;replace y8:HN g8 z TI TO (rawInt g5.objs.size):=y8;replace b8:Fj z g7 g8:=b8;have up:∀c o,c≠z->g5.get? c=some o->g8.get? c=some o:=fun c o e1 e=>b8.extBut _ _ e1<|b7.extBut _ _ e1<|EJ _ e;have T8:IH g8 g5.objs.size x y:=b8.extBut _ _ (H9 lz)<|b7.extBut _ _ (H9 lz)<|EU _ rfl;refine ES ⟨_,rfl,ES<|q x y g8 _ g5.objs.size px py sz y8 (up _ _ Z.c2 O5) (D1.frame _ _ _ v1 fun b hb o e=>up b o (fun q=>Z.d1.1<|q▸hb) e) (D2.frame _ _ _ v2 fun b hb o e=>up b o (fun q=>Z.d2.1<|q▸hb) e) T8 fun c o e1 e2 e3 e4 e=>up c o e1<|k5 c o e1 e2 e3 e4 e⟩
theorem uE{Q:Option EI->EM->Prop}(hh:A.handled=none)(D1:Ky P w A.in1 i1 fp1 n1 P1 S1)(D2:Ky P w A.in1 i2 fp2 n2 P2 S2)(Z:ZApart z TI TO i1 i2 fp1 fp2)(hk:k=n1\/(k<n1/\k=n2))(hz:HN s.heap z TI TO .none)
  (hI:IH s.heap TI (.ref i1) (.ref i2)) (hO:IH s.heap TO a b) (t1:S1 k s.heap) (t2:S2 k s.heap)
  (q:∀h' tk,(∀c o,c≠z->c≠TO->c≠i1->c≠i2->s.heap.get? c=some o->h'.get? c=some o)->Q none {s with heap:=h',toks:=tk}):
  wpAny (model P w) A (pyNext<|.ref z) Q E s:=by
 have hT:s.TypeIs (.ref z) "zip":=⟨_,hz,rfl⟩
 unfold pyNext;refine EE<|Hg<|FX (name:=EL "__next__") hT Gv<|G9 Gv hT HV ?_<|HK _;obtain⟨hp,gg,dd,tk0,os⟩:=s;show wpAny (model P w) _ (field (.ref z) 2>>=_) _ _ _;refine EE<|Ft hz rfl (x:=.bool false) rfl ?_;show wpAny (model P w) _ (field (.ref z) 3>>=_) _ _ _;refine EE<|Ft hz rfl (x:=.ref TI) rfl<|EE<|FT hI rfl ?_;show wpAny (model P w) _ (Fx (.ref z)>>=_) _ _ _;refine EE ?_;unfold Fx;refine EE<|Ft hz rfl (x:=.none) rfl<|ES ?_;simp only[if_true];refine EE (J8 (EE (Ft hz rfl (x:=.ref TO) rfl (EE (G0 hz (by simp) fun g1 y1 b1=>?_)))));replace y1:HN g1 z TI TO .ellipsis:=y1;replace b1:Fj z hp g1:=b1;refine EE ?_;simp only[J9,Js,Iz,IW];refine EE<|EE<|Hh ?_;show wpAny (model P w) _ (Fm (.ref i1)>>=_) _ _ _;rcases hk with hk|⟨hk1,hk2⟩
 ·subst hk;refine EE<|D1.done _ _ _ (ay D1 t1 b1 Z.d1.1) fun g2 e b2 he=>?_;obtain⟨oe,hoe,hce⟩:=he;replace b2:Hs i1 g1 g2:=b2;have y2:HN g2 z TI TO .ellipsis:=b2 _ _ Z.c3.symm y1;have ez:e≠z:=fun x=>by subst x;rw[y2]at hoe;cases hoe;simp at hce
  refine G0 y2 (by simp) fun g3 _ b3=>?_;exact EE<|Hf (T:="StopIteration") (b:=true) ⟨oe,b3.extBut _ _ ez hoe,hce⟩ Ht<|ES<|q g3 _ fun c o e1 _ e3 _ x=>b3.extBut _ _ e1<|b2 _ _ e3<|b1.extBut _ _ e1 x
 ·subst hk2;refine EE<|D1.item k _ _ _ hk1 (ay D1 t1 b1 Z.d1.1) fun x g2 tk2 px u1 b2=>ES ?_;replace b2:Fj i1 g1 g2:=b2;have O2:IH g2 TO a b:=b2.extBut _ _ Z.c8<|b1.extBut _ _ Z.c2 hO;refine EE<|FT O2 rfl<|EE<|Jk O2 fun g3 O3 b3=>?_;replace b3:Fj TO g2 g3:=b3;refine EE<|Il<|ES<|EE<|EE<|Hh ?_;show wpAny (model P w) _ (Fm (.ref i2)>>=_) _ _ _;refine EE<|D2.done _ _ _ (ay D2 (ay D2 (ay D2 t2 b1 Z.d2.1) b2 Z.d2.2.2) b3 Z.d2.2.1) fun g4 e b4 he=>?_;obtain⟨oe,hoe,hce⟩:=he;replace b4:Hs i2 g3 g4:=b4;have y4:HN g4 z TI TO .ellipsis:=b4 _ _ Z.c4.symm<|b3.extBut _ _ Z.c2.symm<|b2.extBut _ _ Z.c3.symm y1;have ez:e≠z:=fun x=>by subst x;rw[y4]at hoe;cases hoe;simp at hce
  refine G0 y4 (by simp) fun g5 _ b5=>?_;exact EE<|Hf (T:="StopIteration") (b:=true) ⟨oe,b5.extBut _ _ ez hoe,hce⟩ Ht<|ES<|q g5 _ fun c o e1 e2 e3 e4 x=>b5.extBut _ _ e1<|b4 _ _ e4<|b3.extBut _ _ e2<|b2.extBut _ _ e3<|b1.extBut _ _ e1 x
end
def B1(K:EH)(c1 c2:Src):It:=
  ⟨fun i H=>∃xs ys x y,c1.has K H xs/\c2.has K H ys/\xs[i]? =some x/\ys[i]? =some y,
   fun i H v H'=>∃p x y,H p=none/\v=.ref p/\(∀xs,c1.has K H xs->xs[i]? =some x)/\(∀ys,c2.has K H ys->ys[i]? =some y)/\H'=cy H p (.tup [x,y]),
   fun i H=>∃xs ys,c1.has K H xs/\c2.has K H ys/\(i=xs.length\/(i<xs.length/\i=ys.length))⟩
theorem Src.inj{X:Cx}{pins:List (Addr×Obj)}{σ:St}{H:Hp}{s:EM}{c:Src}{xs ys:List V}(I:Inv X pins σ H s)(h1:c.has X.K H xs)(h2:c.has X.K H ys):xs=ys:=by
 cases c with
 |lst a=>exact I.list_inj h1 h2
 |tup a=>exact I.tuple_inj h1 h2
 |str l=>exact Eq.trans h1<|Eq.symm h2
theorem Src.at_keep{c:Src}{it:Addr}{i:Nat}{h h':Heap}(st:c.at it i h)(k:∀o,h.get? it=some o->h'.get? it=some o):c.at it i h':=by
 cases c with
 |lst a=>obtain⟨o,e,r⟩:=st;exact⟨o,k o e,r⟩
 |tup a=>obtain⟨o,e,r⟩:=st;exact⟨o,k o e,r⟩
 |str l=>
  obtain⟨t,st⟩:=st;rcases st with⟨o,e,r⟩|⟨o,e,r⟩
  ·exact⟨t,.inl ⟨o,k o e,r⟩⟩
  ·exact⟨t,.inr ⟨o,k o e,r⟩⟩
theorem Src.at_obj{c:Src}{it:Addr}{i:Nat}{h:Heap}(st:c.at it i h):∃o,h.get? it=some o/\∃vs,o.data=.fields vs:=by
 cases c with
 |lst a=>obtain⟨o,e,_,r⟩:=st;exact⟨o,e,_,r⟩
 |tup a=>obtain⟨o,e,_,r⟩:=st;exact⟨o,e,_,r⟩
 |str l=>
  obtain⟨t,st⟩:=st;rcases st with⟨o,e,_,r⟩|⟨o,e,_,r⟩
  ·exact⟨o,e,_,r⟩
  ·exact⟨o,e,_,r⟩
def DA(c1 c2:Src)(z TI TO i1 i2:Addr)(i:Nat)(h:Heap):Prop:=HN h z TI TO .none/\IH h TI (.ref i1) (.ref i2)/\(∃a b,IH h TO a b)/\c1.at i1 i h/\c2.at i2 i h
structure ZIds(z TI TO i1 i2:Addr):Prop where
 c1:TI≠z
 c2:TO≠z
 c3:i1≠z
 c4:i2≠z
 c5:TI≠TO
 c6:TI≠i1
 c7:TI≠i2
 c8:TO≠i1
 c9:TO≠i2
 c10:i1≠i2
theorem uF{X:Cx}{pins:List (Addr×Obj)}{σ:St}{H:Hp}{s:EM}{z TI TO i1 i2:Addr}{fp1 fp2:List Addr}(I:Inv X pins σ H s)(Z:ZIds z TI TO i1 i2)(hf:∀b∈[z,TI,TO,i1,i2],FpOk X pins H b)
  (g1:∀b∈fp1,b=i1\/H b≠none\/∃o,X.base.get? b=some o) (g2:∀b∈fp2,b=i2\/H b≠none\/∃o,X.base.get? b=some o):ZApart z TI TO i1 i2 fp1 fp2:=by
 have no:∀b∈[z,TI,TO,i1,i2],¬(H b≠none\/∃o,X.base.get? b=some o):=fun b hb q=>by
  rcases q with q|⟨o,q⟩
  ·exact q (hf b hb).1
  ·rcases (hf b hb).2.2.2.1 with y | y;·exact I.ok.noex b o q y
   ·exact absurd (EY (EY (F0 q) I.ok.bsz) y)<|FO _
 refine⟨Z.c1,Z.c2,Z.c3,Z.c4,Z.c5,Z.c6,Z.c7,Z.c8,Z.c9,⟨fun m=>?_,fun m=>?_,fun m=>?_⟩,⟨fun m=>?_,fun m=>?_,fun m=>?_⟩⟩;·exact(g1 _ m).elim (fun e=>Z.c3 e.symm) (no z (by simp))
 ·exact(g1 _ m).elim (fun e=>Z.c8 e) (no TO (by simp))
 ·exact(g1 _ m).elim (fun e=>Z.c10 e.symm) (no i2 (by simp))
 ·exact(g2 _ m).elim (fun e=>Z.c4 e.symm) (no z (by simp))
 ·exact(g2 _ m).elim (fun e=>Z.c9 e) (no TO (by simp))
 ·exact(g2 _ m).elim (fun e=>Z.c10 e) (no i1 (by simp))
theorem uG{P:Ff}{w:Fp}{K:EH}{elts:List Expr}{kk:Nat}{tp:Pos}(c1 c2:Src)(z TI TO i1 i2:Addr)(Z:ZIds z TI TO i1 i2):
  Turn P w K (.Tuple elts kk tp) (B1 K c1 c2) [z,TI,TO,i1,i2] z (DA c1 c2 z TI TO i1 i2) where
 mem:=by simp
 obj:=fun i h st b hb=>by
  obtain⟨hz,hI,⟨a,b',hO⟩,t1,t2⟩:=st;obtain⟨o1,e1,v1,d1⟩:=Src.at_obj t1;obtain⟨o2,e2,v2,d2⟩:=Src.at_obj t2;simp only[F9,FY,or_false]at hb;rcases hb with rfl|rfl|rfl|rfl|rfl;·exact⟨_,hz,fun v q=>by cases (show JS _=I9 v from q)⟩
  ·exact⟨_,hI,fun v q=>by cases (show Kd _ _=I9 v from q)⟩
  ·exact⟨_,hO,fun v q=>by cases (show Kd _ _=I9 v from q)⟩
  ·exact⟨_,e1,fun v q=>by rw[d1]at q;cases q⟩
  ·exact⟨_,e2,fun v q=>by rw[d2]at q;cases q⟩
 keep:=fun i h h' st k=>by
  obtain⟨hz,hI,⟨a,b',hO⟩,t1,t2⟩:=st;exact⟨k z (by simp) _ hz,k TI (by simp) _ hI,⟨a,b',k TO (by simp) _ hO⟩,Src.at_keep t1 (k i1 (by simp)),Src.at_keep t2 (k i2 (by simp))⟩
 item:=by
  intro X hP hw hK hc i pins s σ H E I hf st hg;subst hP hw hK;obtain⟨xs,ys,x,y,hx,hy,ex,ey⟩:=hg;obtain⟨hz,hI,⟨a,b',hO⟩,t1,t2⟩:=st;have hh:X.A.in1.handled=none:=I.ok.hd hc;obtain⟨fp1,P1,S1,D1,u1,r1,a1,_,g1⟩:=Src.draws (A:=X.A.in1) hh I hx t1 (hf i1 (by simp)).1;obtain⟨fp2,P2,S2,D2,u2,r2,a2,_,g2⟩:=Src.draws (A:=X.A.in1) hh I hy t2 (hf i2 (by simp)).1;have ZA:=uF I Z hf g1 g2;refine se D1 D2 ZA (ER.mp ex).1 (ER.mp ey).1 hz hI hO u1 u2 fun vx vy h' tk T px py hT hz' hO' w1 w2 hTp kp=>?_;obtain⟨x',ex',rx⟩:=r1 i vx px;obtain⟨y',ey',ry⟩:=r2 i vy py;rw[ex]at ex';cases ex';rw[ey]at ey';cases ey';have nT:H T=none:=by rw[hT];exact I.hok.fresh<|Fb _
  refine⟨_,rfl,JP hz' fun h2 hz2 sb=>?_⟩;have lt:∀{c o},s.heap.get? c=some o->c≠T:=fun e=>by rw[hT];exact Fd<|F0 e
  have up:∀c o,c≠z->h'.get? c=some o->h2.get? c=some o:=fun c o hc e=>(sb.2 c hc).trans e;have kp2:∀b o,b∉[z,TO,i1,i2]->s.heap.get? b=some o->h2.get? b=some o:=fun b o hb e=>by
   simp only[F9,FY,or_false,not_or]at hb;exact up b o hb.1<|kp b o hb.1 hb.2.1 hb.2.2.1 hb.2.2.2 e
  have ch:∀b∈[z,TO,i1,i2],b∈[z,TI,TO,i1,i2]:=fun b hb=>by
   simp only[F9,FY,or_false]at hb ⊢;rcases hb with h|h|h|h<;>simp[h]
  have i5:∀b u,H b=some u->b∉[z,TO,i1,i2]/\b≠T:=fun b u e=>⟨fun hb=>(by rw[(hf b<|ch b hb).1]at e;cases e),fun q=>(by rw[q,nT]at e;cases e)⟩
  have I2:Inv X pins σ (cy H T<|.tup [x,y]) {s with heap:=h2,gens:=s.gens,drawn:=s.drawn,toks:=tk}:=by
   refine I.step (g':=s.gens) (d':=s.drawn) (t':=tk) (ch:=[z,TO,i1,i2]) (fun b hb=>⟨(hf b<|ch b hb).2.2.2.1,(hf b<|ch b hb).2.1,(hf b<|ch b hb).2.2.2.2.1,(hf b<|ch b hb).2.2.2.2.2⟩) (fun b o _ _ hb e _=>kp2 b o hb e) (fun b o _ _ hb e _=>⟨o.slots,kp2 b o hb e⟩)
    (fun b o hb e n=>by rw[ao<|lt e];exact n) (fun b o hb e=>⟨o,kp2 b o hb e⟩) (fun b xs e=>by rw[ao (i5 b _ e).2];exact e) (fun b o u e=>by rw[ao (i5 b _ e).2];exact e) (fun b ps e=>⟨#[],by rw[ao (i5 b _ e).2,e];simp⟩) (fun m hm=>?_) (fun b u e=>?_) I.bare
   ·obtain⟨o,es,ep,ho,r⟩:=hm;exact⟨o,es,ep,kp2 _ o (fun hb=>(hf _<|ch _ hb).2.1 rfl) ho,r⟩
   ·by_cases hb:b=T
    ·subst hb;rw[aq]at e;cases e;refine⟨(by show 2<=sizeLine;rw[Gi];decide),[vx,vy],.cons rx<|.cons ry .nil,⟨_,up _ _ ?_ hTp,⟨rfl,rfl⟩,_,rfl⟩⟩;exact fun q=>lt hz q.symm
    ·rw[ao hb]at e;refine(I.hok b u e).stay (fun c v hc q=>kp2 c v ?_ q) (fun c q=>by rw[ao (i5 c _ q).2];exact q) fun c xs q=>by rw[ao (i5 c _ q).2];exact q
     rcases hc with q|q;·rw[q];exact(i5 b u e).1
     ·exact(i5 c _ q).1
  refine⟨.ref T,_,I2,rfl,⟨T,x,y,nT,rfl,fun xs' h=>by rw[Src.inj I h hx];exact ex,fun ys' h=>by rw[Src.inj I h hy];exact ey,rfl⟩,⟨hz2,up _ _ Z.c1<|kp _ _ Z.c1 Z.c5 Z.c6 Z.c7 hI,⟨_,_,up _ _ Z.c2 hO'⟩,Src.at_keep (a1 _ _ w1) fun o e=>up _ o Z.c3 e,Src.at_keep (a2 _ _ w2) fun o e=>up _ o Z.c4 e⟩,fun b hb=>?_⟩;have hbT:b≠T:=by
   obtain⟨o,e⟩:∃o,s.heap.get? b=some o:=by
    obtain⟨o1,e1,_⟩:=Src.at_obj t1;obtain⟨o2,e2,_⟩:=Src.at_obj t2;simp only[F9,FY,or_false]at hb;rcases hb with rfl|rfl|rfl|rfl|rfl;·exact⟨_,hz⟩
    ·exact⟨_,hI⟩
    ·exact⟨_,hO⟩
    ·exact⟨_,e1⟩
    ·exact⟨_,e2⟩
   exact lt e
  rw[ao hbT];exact(hf b hb).1
 done:=by
  intro X hP hw hK hc i pins s σ H E I hf st hg;subst hP hw hK;obtain⟨xs,ys,hx,hy,hend⟩:=hg;obtain⟨hz,hI,⟨a,b',hO⟩,t1,t2⟩:=st;have hh:X.A.in1.handled=none:=I.ok.hd hc;obtain⟨fp1,P1,S1,D1,u1,r1,a1,_,g1⟩:=Src.draws (A:=X.A.in1) hh I hx t1 (hf i1 (by simp)).1;obtain⟨fp2,P2,S2,D2,u2,r2,a2,_,g2⟩:=Src.draws (A:=X.A.in1) hh I hy t2 (hf i2 (by simp)).1;have ZA:=uF I Z hf g1 g2;have ch:∀b∈[z,TO,i1,i2],b∈[z,TI,TO,i1,i2]:=fun b hb=>by
   simp only[F9,FY,or_false]at hb ⊢;rcases hb with h|h|h|h<;>simp[h]
  refine uE hh D1 D2 ZA hend hz hI hO u1 u2 fun h2 tk kp=>⟨rfl,?_⟩
  have kp2:∀b o,b∉[z,TO,i1,i2]->s.heap.get? b=some o->h2.get? b=some o:=fun b o hb e=>by
   simp only[F9,FY,or_false,not_or]at hb;exact kp b o hb.1 hb.2.1 hb.2.2.1 hb.2.2.2 e
  refine I.step (g':=s.gens) (d':=s.drawn) (t':=tk) (ch:=[z,TO,i1,i2]) (fun b hb=>⟨(hf b<|ch b hb).2.2.2.1,(hf b<|ch b hb).2.1,(hf b<|ch b hb).2.2.2.2.1,(hf b<|ch b hb).2.2.2.2.2⟩) (fun b o _ _ hb e _=>kp2 b o hb e) (fun b o _ _ hb e _=>⟨o.slots,kp2 b o hb e⟩)
   (fun b o hb e n=>n) (fun b o hb e=>⟨o,kp2 b o hb e⟩) (fun b xs e=>e) (fun b o u e=>e) (fun b ps e=>⟨#[],by rw[e];simp⟩) (fun m hm=>?_) (fun b u e=>?_) I.bare
  ·obtain⟨o,es,ep,ho,r⟩:=hm;exact⟨o,es,ep,kp2 _ o (fun hb=>(hf _<|ch _ hb).2.1 rfl) ho,r⟩
  ·have i5:∀b u,H b=some u->b∉[z,TO,i1,i2]:=fun b u e hb=>by rw[(hf b<|ch b hb).1]at e;cases e
   refine(I.hok b u e).stay (fun c v hc q=>kp2 c v ?_ q) (fun c q=>q) fun c xs q=>q;rcases hc with q|q
   ·rw[q];exact i5 b u e
   ·exact i5 c _ q
 self:=fun _ _ _ _ _ st h=>Ja st.1 h
theorem jU(n a b:Nat)(h:a≠b): @Ne Nat (n+a) (n+b):=fun e=>h<|Nat.add_left_cancel e
def zM(K:EH)(t:TA):TI:=fun σ H R=>t σ H fun vs H1=>∃c1 c2 xs ys,vs=[c1.val,c2.val]/\c1.has K H1 xs/\c2.has K H1 ys/\R (B1 K c1 c2) H1
theorem zN{X:Cx}{a b:Expr}{ta:TA}{p pos tp:Pos}{elts:List Expr}{kk:Nat}(hg:Gl X "zip")(hm:X.mg "zip"=none)(ha:PA X [a,b] ta)
  (hs:starEach [a,b] X.env=[(false,eval a X.env),(false,eval b X.env)]:=by rfl) (hs2:starEach [b] X.env=[(false,eval b X.env)]:=by rfl):PI X (.Tuple elts kk tp) (.Call (.Name "zip" p) [a,b] [] pos) (zM X.K ta):=by
 intro pins s σ H R I h;refine Call_ (jj I hg hm boot_zip (Hr (cb (ha pos pins s σ H _ I h) fun us s1⟨vs,H1,I1,r1,q1⟩=>?_) (by rw[hs,hs2]) (by rw[hs2];rfl)));obtain⟨c1,c2,xs,ys,e,h1,h2,q⟩:=q1;subst e;obtain⟨v1,v2,rfl,ra,rb⟩:=nR r1;obtain⟨o1,i1,f1,n1⟩:=Src.iter I1 h1 ra fun _ _ e=>e;obtain⟨o2,i2,f2,n2⟩:=Src.iter (h:=s1.heap.push o1) I1 h2 rb fun _ _ e=>EJ _ e;have z1:(s1.heap.push o1).objs.size=s1.heap.objs.size+1:=FH ..;rw[z1]at n2;refine sd i1 i2 f1 f2 fun h' hz hI hO e1 e2 kp=>?_;refine Ja hz ?_;have zi:∀n:Nat,ZIds (n+4) (n+2) (n+3) n (n+1):=fun n=>⟨(jU n 2 4 (by decide)),(jU n 3 4 (by decide)),(jU n 0 4 (by decide)),(jU n 1 4 (by decide)),(jU n 2 3 (by decide)),(jU n 2 0 (by decide)),(jU n 2 1 (by decide)),(jU n 3 0 (by decide)),(jU n 3 1 (by decide)),(jU n 0 1 (by decide))⟩
 refine⟨s1.heap.objs.size+4,[s1.heap.objs.size+4,s1.heap.objs.size+2,s1.heap.objs.size+3,s1.heap.objs.size,s1.heap.objs.size+1],_,_,H1,rfl,I1.kept (t':=s1.toks) kp,uG c1 c2 _ _ _ _ _<|zi s1.heap.objs.size,⟨hz,hI,⟨_,_,hO⟩,n1 h' e1,n2 h' e2⟩,fun b hb=>?_,q⟩;have hb':s1.heap.objs.size<=b:=by
  simp only[F9,FY,or_false]at hb;rcases hb with z|z|z|z|z<;>rw[z]
  ·exact GX _ 4
  ·exact GX _ 2
  ·exact GX _ 3
  ·exact Fb _
  ·exact GX _ 1
 exact I1.fpOk hb'<|I1.hok.fresh hb'
theorem xB{K:EH}{c1 c2:Src}{xs ys:List V}{g:TG}{tb:TS}{D:Ends}{σ:St}{H:Hp}(Pv:Nat->St->Hp->Prop)(h0:Pv 0 σ H)(hl:∀i σ H,Pv i σ H->c1.has K H xs/\c2.has K H ys)(hn:xs.length=ys.length)
  (hs:∀i x y p σ H,xs[i]? =some x->ys[i]? =some y->H p=none->Pv i σ H->g (.ref p) σ (cy H p<|.tup [x,y]) fun σ2 H2=>tb {D with nx:=Pv<|i+1,ct:=Pv<|i+1,bk:=D.nx} σ2 H2) (hd:∀σ H,Pv xs.length σ H->D.nx σ H):
  ∃W:Nat->Nat->St->Hp->Prop,(∃m,W 0 m σ H)/\ ∀i m σ H,W i m σ H->
   ((B1 K c1 c2).stop i H/\D.nx σ H)\/((B1 K c1 c2).go i H/\∃N:St->Hp->Prop,(∀σ' H',N σ' H'->∃m',m'<m/\W (i+1) m' σ' H')/\∀x H',(B1 K c1 c2).yld i H x H'->g x σ H' fun σ2 H2=>tb {D with nx:=N,ct:=N,bk:=D.nx} σ2 H2):=by
 refine⟨fun i m σ H=>m=xs.length-i/\i<=xs.length/\Pv i σ H,⟨xs.length,by simp,Jg _,h0⟩,?_⟩;rintro i m σ H ⟨rfl,hi,p⟩;obtain⟨q1,q2⟩:=hl i σ H p;by_cases hlt:i<xs.length
 ·refine .inr ⟨⟨xs,ys,xs[i],ys[i],q1,q2,by simp[hlt],by simp[<-hn,hlt]⟩,Pv<|i+1,fun σ' H' p'=>⟨xs.length- (i+1),by omega,rfl,hlt,p'⟩,fun v H' ⟨a,x,y,na,ev,ex,ey,eh⟩=>?_⟩;subst ev eh;exact hs i x y a σ H (ex xs q1) (ey ys q2) na p
 ·have e:i=xs.length:=by omega
  subst e;exact .inl ⟨⟨xs,ys,q1,q2,.inl rfl⟩,hd σ H p⟩
structure Cal(P:Ff)(w:Fp)(K:EH)(mg:Str->Option EI)(base:Heap)(x:Str)(ps:List Str)(k:Nat)(sp:Sp):Prop where
 ex:∃(f:Addr)(fd:F8),FnOk P w K mg base CX0 k f fd ps sp/\mg x=some (.ref f)/\Fi K (.ref f)=true/\Binds K fd ps []
theorem uH{X:Cx}{x:Str}{ps:List Str}{k:Nat}{sp:Sp}{p pos:Pos}{e:Expr}{es:List Expr}{t:TA}(C:Cal X.prog X.w X.K X.mg X.base x ps k sp)(hr:Room k X.A)(hg:Gl X x)(ha:PA X (e::es) t)
  (hdb:(x==("__debug__" :Str))=false:=by decide) (he:starEach (e::es) X.env=(false,eval e X.env)::starEach es X.env:=by rfl) (hpl:(backTo pos<|starEach es X.env).any (·.1)=false:=by rfl):
  PE X (.Call (.Name x p) (e::es) [] pos) (aR sp [] E0 t):=by
 obtain⟨f,fd,F,hm,hk,hb⟩:=C.ex;exact qu F hr hg hm hk hb .nil qC ha hdb he hpl
theorem fI{X:Cx}{scope:HM}{N:List Str}{cap:List (Option Nat)}(kind:scope.kind=.function)(nd:N.Nodup)(len:cap.length=N.length)(uniq:(scope.names.map (·.1)).Nodup)
  (fr:(scope.names.all fun x=>x.2 != .free||(X.env.kindOf x.1==some .cell||X.env.kindOf x.1==some .free))=true)
  (cp:((N.zip cap).all fun p=>match p.2 with|none=>true|some j=>X.N[j]? ==some p.1&&scope.names.contains (p.1,Gq))=true):CompScope X scope N cap:=by
 refine⟨kind,nd,len,uniq,fun x hx hk=>?_,fun k x j h1 h2=>?_⟩
 ·have:=Jb.mp fr x hx;rw[hk]at this;simpa using this
 ·have hm:(x,some j)∈N.zip cap:=by
   rw[KN];exact⟨k,by rw[Hw];exact⟨h1,h2⟩⟩
  have:=Jb.mp cp _ hm;simpa using this
def flat:V->Bool
 | .non=>true
 | .bl _=>true
 | .int _=>true
 | .str _=>true
 |_=>false
theorem dW{H:Hp}{p:Addr}{o:HO}(h:H p=none):Same H (cy H p o):=fun b u e=>by rw[ao<|cJ e h];exact e
theorem dD(x:String)(l:List Nat)(h:(EL x).cps.toList=l):EL x=sOf l:=by rw[uy<|EL x,h]
section
variable{X:Cx}{K:EH}{w:Fp}
theorem az(h:X.K=K):Ax X (d6 K):=h▸zG
theorem bG(h:X.K=K):Ax X (cY K):=h▸xr
theorem bJ(h:X.K=K):eQ X (.builtin "len") (fun xs H Q=>∃x n,xs=[x]/\nS K x H n/\Q (.int n) H):=h▸ue
theorem bH(h:X.K=K):eQ X (.builtin "isinstance") (fun xs H Q=>∃x T t b,xs=[x,.ty T]/\TyOf K H x t/\Fw K t (.type T)=some b/\Q (.bl b) H):=h▸og
theorem uI(h:X.K=K):zF X "str.join" (fun x xs H Q=>∃(p:Addr)(ys:List (List Nat)),x=.str (sOf [])/\xs=[.ref p]/\SqL K H p (ys.map fun y=>IK<|sOf y)/\ys.flatten.length<=100000/\Q (.str<|sOf ys.flatten) H):=h▸xA
theorem kU(h:X.K=K):C8 X (dn K):=h▸xt
theorem i9(h:X.K=K)(hw:X.w=w){o i:Expr}{pos:Pos}{td ty:TE}(ho:PE X o td)(hi:PE X i ty)(hs:xw i):PE X (.Subscript o i pos) (ba K w td ty):=h▸hw▸uz ho hi hs
theorem cB(h:X.K=K){pos:Pos}{es:List Expr}{k:Nat}{t:xg}{n:Nat}(hc:X.calm=true)(hg:Aw X es t)(hn:(assignEach es X.env).length=n:=by rfl)(hst:(assignEach es X.env).findIdx? (·.1)=none:=by rfl):PG X (.Tuple es k pos) (cR K n t):=h▸zx hc hg hn hst
theorem dq(h:X.K=K){tg l:Expr}{tl:TE}(hl:PE X l tl):PI X tg l (nP K tl):=h▸xh hl
theorem fi(h:X.K=K){a b:Expr}{ta:TA}{p pos tp:Pos}{elts:List Expr}{kk:Nat}(hg:Gl X "zip")(hm:X.mg "zip"=none)(ha:PA X [a,b] ta)
  (hs:starEach [a,b] X.env=[(false,eval a X.env),(false,eval b X.env)]:=by rfl) (hs2:starEach [b] X.env=[(false,eval b X.env)]:=by rfl):PI X (.Tuple elts kk tp) (.Call (.Name "zip" p) [a,b] [] pos) (zM K ta):=h▸zN hg hm ha hs hs2
theorem nr(h:X.K=K){o e:Expr}{es:List Expr}{to:TE}{t:TA}{name:Str}{apos cpos:Pos}{T id:String}{r:V->List V->Hp->VK->Prop}(pa:Ll T)(slot:Slot T name id)(hty:typeOf (.builtin id)=pure (.type "method_descriptor"))(hm:zF X id r)(ho:PE X o to)(ha:PA X (e::es) t)
  (hbase:attributeBase o name X.env (eval o X.env)=eval o X.env:=by rfl)
  (hfew:((backTo cpos<|starEach (e::es) X.env).all (fun x=> !x.1)&&(backToKw cpos<|keywordEach [] X.env).all (fun x=>x.1.isSome)&&decide ((e::es).length+([]:List Kq).length+(if([]:List Kq).isEmpty then 0 else 1)<30))=true:=by rfl)
  (hline:(apos.endLine==cpos.line)=true:=by rfl) (hs:starEach (e::es) X.env=(false,eval e X.env)::starEach es X.env:=by rfl) (hplain:(backTo cpos<|starEach es X.env).any (·.1)=false:=by rfl):
  PE X (.Call (.Attribute o name apos) (e::es) [] cpos) (ff K T r to t):=h▸AQ pa slot hty hm ho ha hbase hfew hline hs hplain
end
end L2
open L2.Keep renaming get->Od
open L2.Src renaming at_keep->Jn,at_obj->JM,draws->Kl,iter->Nz,inj->NX
namespace Wb
open PySem L2
abbrev Rp(α:Type):=Hp->α->V->Prop
class Mono{α:Type}(R:Rp α):Prop where
 mono:∀{H H':Hp}{m:α}{v:V},Same H H'->R H m v->R H' m v
def LR{α:Type}(R:Rp α)(H:Hp)(ms:List α)(vs:List V):Prop:=vs.length=ms.length/\∀(i:Nat)(v:V)(m:α),vs[i]? =some v->ms[i]? =some m->R H m v
theorem LR.nil{α:Type}{R:Rp α}{H:Hp}:LR R H [] []:=⟨rfl,fun i v m e=>by simp at e⟩
theorem LR.same{α:Type}{R:Rp α}[Mono R]{H H':Hp}{ms:List α}{vs:List V}(h:LR R H ms vs)(e:Same H H'):LR R H' ms vs:=⟨h.1,fun i v m a b=>Mono.mono e<|h.2 i v m a b⟩
theorem LR.snoc{α:Type}{R:Rp α}{H:Hp}{ms:List α}{vs:List V}{m:α}{v:V}(h:LR R H ms vs)(r:R H m v):LR R H (ms++[m]) (vs++[v]):=by
 refine⟨by simp[h.1],fun i v' m' a b=>?_⟩;by_cases hi:i<vs.length
 ·rw[FP hi]at a;rw[FP (by rw[<-h.1];exact hi)]at b;exact h.2 i v' m' a b
 ·rw[FI (by omega)]at a;rw[FI (by rw[<-h.1];omega)]at b;rw[<-h.1]at b;cases e:i-vs.length with
  |zero=>rw[e]at a b;simp at a b;subst a b;exact r
  |succ n=>rw[e]at a;simp at a
theorem LR.get{α:Type}{R:Rp α}{H:Hp}{ms:List α}{vs:List V}{i:Nat}{m:α}(h:LR R H ms vs)(e:ms[i]? =some m):∃v,vs[i]? =some v/\R H m v:=by
 have hi:i<vs.length:=by rw[h.1];exact(ER.mp e).1
 exact⟨vs[i],by simp[hi],h.2 i _ m (by simp[hi]) e⟩
theorem LR.got{α:Type}{R:Rp α}{H:Hp}{ms:List α}{vs:List V}{i:Nat}{v:V}(h:LR R H ms vs)(e:vs[i]? =some v):∃m,ms[i]? =some m/\R H m v:=by
 have hi:i<ms.length:=by rw[<-h.1];exact(ER.mp e).1
 exact⟨ms[i],by simp[hi],h.2 i v _ e (by simp[hi])⟩
def isL{α:Type}(R:Rp α):Rp (List α):=fun H ms v=>∃p vs,v=.ref p/\H p=some (.lst vs)/\LR R H ms vs
instance zkeep1{α:Type}{R:Rp α}[Mono R]:Mono (isL R):=⟨fun e⟨p,vs,h1,h2,h3⟩=>⟨p,vs,h1,e _ _ h2,h3.same e⟩⟩
def isS:Rp (List Nat):=fun _ l v=>v=.str (sOf l)
instance zkeep2:Mono isS:=⟨fun _ h=>h⟩
def isI:Rp Int:=fun _ l v=>v=.int l
instance zkeep4:Mono isI:=⟨fun _ h=>h⟩
theorem LR.str{H:Hp}{ms:List (List Nat)}{vs:List V}(h:LR isS H ms vs):vs=ms.map fun l=>IK (sOf l):=by
 refine JW fun i=>?_;rw[G4];cases e:ms[i]? with
 |none=>rw[G6]at e;rw[G6.mpr (by rw[h.1];exact e)];rfl
 |some m=>obtain⟨v,a,b⟩:=h.get e;rw[a];cases b;rfl
end Wb
open Wb.Mono renaming mono->EG
namespace L2
open PySem PySem.Spec PyProof.Rows
section
variable{X:Cx}{K:EH}{w:Fp}
theorem cN(h:X.K=K):eQ X (.type "list") (fun xs H Q=>∃p ys,xs=[.ref p]/\(SqL K H p ys\/SqT K H p ys)/\∀l,H l=none->Q (.ref l) (cy H l<|.lst ys)):=h▸n6
theorem ia(h:X.K=K){o:Expr}{to:TE}{name:Str}{apos cpos:Pos}{T id:String}{r:V->List V->Hp->VK->Prop}(pa:Ll T)(slot:Slot T name id)(hty:typeOf (.builtin id)=pure (.type "method_descriptor"))(hm:zF X id r)(ho:PE X o to)
  (hbase:attributeBase o name X.env (eval o X.env)=eval o X.env:=by rfl) (hline:(apos.endLine==cpos.line)=true:=by rfl):PE X (.Call (.Attribute o name apos) [] [] cpos) (cM K T r to):=h▸zH pa slot hty hm ho hbase hline
end
end L2
namespace Wb
open PySem L2
theorem LR.take{α:Type}{R:Rp α}{H:Hp}{ms:List α}{vs:List V}(h:LR R H ms vs)(k:Nat):LR R H (ms.take k) (vs.take k):=by
 refine⟨by simp[h.1],fun i v m a b=>?_⟩;rw[List.getElem?_take]at a b;split at a;·rw[if_pos (by assumption)]at b;exact h.2 i v m a b
 ·cases a
theorem LR.drop{α:Type}{R:Rp α}{H:Hp}{ms:List α}{vs:List V}(h:LR R H ms vs)(k:Nat):LR R H (ms.drop k) (vs.drop k):=by
 refine⟨by simp[h.1],fun i v m a b=>?_⟩;rw[List.getElem?_drop]at a b;exact h.2 _ v m a b
theorem none_of{H H':Hp}{p:Addr}(e:Same H H')(h:H' p=none):H p=none:=by
 cases z:H p with
 |none=>rfl
 |some x=>have:=e _ _ z;rw[h]at this;cases this
theorem sf{H H3:Hp}{p:Addr}{o:HO}(e:Same H H3)(h:H p=none):Same H (cy H3 p o):=fun a u z=>by
 rw[ao<|cJ z h];exact e _ _ z
end Wb
namespace L2
open PySem PySem.Spec PyProof.Rows
section
variable{X:Cx}{K:EH}{w:Fp}
theorem si(hc:X.calm=true)(h:X.K=K):eQ X (.builtin "max") (fun xs H Q=>∃(p:Addr)(ns:List Int),xs=[.ref p]/\SqL K H p (ns.map Ir)/\0<ns.length/\∀M,M∈ns->(∀a∈ns,a<=M)->Q (.int M) H):=by
 subst h;intro pins s σ H xs us Q I r h;obtain⟨p,ns,rfl,hq,hne,q⟩:=h;obtain⟨u,rfl,rx⟩:=gL r;cases rx;obtain⟨its,r',pl,hz⟩:=I.list hq;have hi:=kI r';obtain⟨xs,e⟩:=hi.allInts.items;have hns:ns=xs.toList.map (·.1):=by
  rw[<-hi.numsOf,<-N3,<-e]
 have hsz:0<xs.size:=by
  have h3:=hne;rw[hns,Fz,Gr]at h3;exact h3
 have hl:s.heap.IsList p (intItems xs):=e▸pl.isList;refine max_intList (I.ok.hd hc) hl hsz fun v h' tk hv hk=>?_;obtain⟨t,rfl⟩:=intItems_at hv;obtain⟨h1,h2⟩:=argBest_gt (numAt xs)<|xs.size-1;refine⟨.int _,H,I.kept hk,⟨_,rfl⟩,q _ ?_ fun a ha=>?_⟩;·rw[hns,Mv];exact getD_mem (by rw[Fz,Gr];omega)
 ·rw[hns]at ha;obtain⟨j,hj,rfl⟩:=mem_getD ha;rw[Fz,Gr]at hj;rw[<-Mv];exact h2 j (by omega)
end
theorem js{α β:Type}{F:α->β->Prop}:∀{l₁:List α}{l₂:List β},Paired F l₁ l₂->∀{j:Nat}{b:β},l₂[j]? =some b->∃a,l₁[j]? =some a/\F a b
 |_,_,.nil,j,b,h=>by simp at h
 |_,_,.cons r rs,0,b,h=>by simp at h;subst h;exact⟨_,rfl,r⟩
 |_,_,.cons r rs,j+1,b,h=>by simp at h;obtain⟨a,h1,h2⟩:=js rs h;exact⟨a,by simpa using h1,h2⟩
end L2
namespace L2
theorem eU{k:Nat}{A:Fu}(r:Room k A):A.units+1<PySem.cLine:=by have:=r.un;omega
end L2
namespace L2
open PySem PySem.Spec PyProof.Rows
abbrev cO(h:Heap)(T:Addr)(a b c:EI):Prop:=h.get? T=some {cls:=.type "tuple",data:=.seq #[a,b,c]}
def B2(h:Heap)(o1 o2 o3:Obj):Heap:=(((h.push o1).push o2).push o3).push {cls:=.type "tuple",data:=.seq #[.ref h.objs.size,.ref (h.push o1).objs.size,.ref ((h.push o1).push o2).objs.size]}
def B3(h:Heap)(o1 o2 o3:Obj):Heap:=(B2 h o1 o2 o3).push {cls:=.type "tuple",data:=.seq #[.none,.none,.none]}
def zO(h:Heap)(o1 o2 o3:Obj):Heap:=(B3 h o1 o2 o3).push {cls:=.type "zip",data:=.fields #[.none,.bool false,.bool false,.ref (((h.push o1).push o2).push o3).objs.size,.ref (B2 h o1 o2 o3).objs.size]}
theorem lC(v1 v2 v3:EI)(o1 o2 o3:Obj):Meets (LN.«zip.__new__» ⟨[.type "zip",v1,v2,v3],[]⟩) (fun _ R s=>fu v1 s.heap o1/\fu v2 (s.heap.push o1) o2/\fu v3 ((s.heap.push o1).push o2) o3/\R (.ok<|.ret<|.ref (B3 s.heap o1 o2 o3).objs.size) {s with heap:=zO s.heap o1 o2 o3}):=
 .of_wp fun prog w A R s h=>by
  obtain⟨hp,g,d,tk,os⟩:=s;obtain⟨i1,i2,i3,h⟩:=h;have hsub:=sub_zip;have j1:=fun(A:Fu)(E:EI->EM->Prop)(Q:EI->EM->Prop)(q:Q _ _)=>i1 prog w A E Q ⟨hp,g,d,tk,os⟩ rfl q;have j2:=fun(A:Fu)(E:EI->EM->Prop)(Q:EI->EM->Prop)(q:Q _ _)=>i2 prog w A E Q ⟨hp.push o1,g,d,tk,os⟩ rfl q;have j3:=fun(A:Fu)(E:EI->EM->Prop)(Q:EI->EM->Prop)(q:Q _ _)=>i3 prog w A E Q ⟨(hp.push o1).push o2,g,d,tk,os⟩ rfl q
  wp_walk using j1 _ _ _,j2 _ _ _,j3 _ _ _
  exact⟨_,rfl,h⟩
theorem kW(a b c:EI):checkTypeCall "zip" ⟨[a,b,c],[]⟩=pure ():=by kernel_rfl
theorem lD(a b c:EI):checkBuiltinCall "zip.__new__" ⟨[.type "zip",a,b,c],[]⟩=pure ():=by kernel_rfl
theorem iI(a b c d:EI):argsOk "object.__init__" ⟨[a,b,c,d],[]⟩:=by
 unfold argsOk;rw[PySem.signature?_of (id:="object.__init__") (n:=['_','_','t','i','n','i','_','_']) (o:=['t','c','e','j','b','o']) (by kernel_rfl) PySem.F.owner_object];kernel_rfl
theorem sj{P:Ff}{w:Fp}{A:Fu}{E:EI->EM->Prop}{s:EM}{v1 v2 v3:EI}{o1 o2 o3:Obj}{Q:EI->EM->Prop}(i1:fu v1 s.heap o1)(i2:fu v2 (s.heap.push o1) o2)(i3:fu v3 ((s.heap.push o1).push o2) o3)
  (f1:o1.isFreed=false) (f2:o2.isFreed=false) (f3:o3.isFreed=false)
  (q:∀h',HN h' (s.heap.objs.size+5) (s.heap.objs.size+3) (s.heap.objs.size+4) .none->cO h' (s.heap.objs.size+3) (.ref s.heap.objs.size) (.ref<|s.heap.objs.size+1) (.ref<|s.heap.objs.size+2)->cO h' (s.heap.objs.size+4) .none .none .none->
   h'.get? s.heap.objs.size=some o1->h'.get? (s.heap.objs.size+1)=some o2->h'.get? (s.heap.objs.size+2)=some o3->(∀c o,s.heap.get? c=some o->h'.get? c=some o)->Q (.ref (s.heap.objs.size+5)) {s with heap:=h'}):
  wpAny (model P w) A (call (.type "zip") [v1,v2,v3]) Q E s:=by
 refine callType_new Lp (by decide) (kW _ _ _) (lD _ _ _) (fun obj=>iI obj _ _ _) KL (lC v1 v2 v3 o1 o2 o3) ⟨i1,i2,i3,?_⟩;have z1:(s.heap.push o1).objs.size=s.heap.objs.size+1:=FH ..;have z2:((s.heap.push o1).push o2).objs.size=s.heap.objs.size+2:=by rw[FH,z1]
 have z3:(((s.heap.push o1).push o2).push o3).objs.size=s.heap.objs.size+3:=by rw[FH,z2]
 have z4:(B2 s.heap o1 o2 o3).objs.size=s.heap.objs.size+4:=by unfold B2;rw[FH,z3]
 have z5:(B3 s.heap o1 o2 o3).objs.size=s.heap.objs.size+5:=by unfold B3;rw[FH,z4]
 have g6:(zO s.heap o1 o2 o3).get? (B3 s.heap o1 o2 o3).objs.size=some _:=EU _ rfl;have g5:(zO s.heap o1 o2 o3).get? (B2 s.heap o1 o2 o3).objs.size=some _:=EJ _<|EU _ rfl;have g4:(zO s.heap o1 o2 o3).get? (((s.heap.push o1).push o2).push o3).objs.size=some _:=EJ _<|EJ _<|EU _ rfl;have g3:(zO s.heap o1 o2 o3).get? ((s.heap.push o1).push o2).objs.size=some o3:=EJ _<|EJ _<|EJ _<|EU _ f3;have g2:(zO s.heap o1 o2 o3).get? (s.heap.push o1).objs.size=some o2:=EJ _<|EJ _<|EJ _<|EJ _<|EU _ f2;have g1:(zO s.heap o1 o2 o3).get? s.heap.objs.size=some o1:=EJ _<|EJ _<|EJ _<|EJ _<|EJ _<|EU _ f1;show _/\_;rw[z3,z4,z5]at g6;rw[z1,z2,z3]at g4;rw[z4]at g5;rw[z2]at g3;rw[z1]at g2;rw[z5];exact⟨⟨_,g6,rfl⟩,q _ g6 g4 g5 g1 g2 g3 fun c o x=>EJ _<|EJ _<|EJ _<|EJ _<|EJ _<|EJ _ x⟩
section
variable{P:Ff}{w:Fp}{A:Fu}{E:EI->EM->Prop}{s:EM}{z TI TO i1 i2 i3:Addr}{fp1 fp2 fp3:List Addr}{n1 n2 n3 k:Nat}{P1 P2 P3:Nat->EI->Prop}{S1 S2 S3:Nat->Heap->Prop}{a b c:EI}
theorem bZ{T:Addr}{a b c x:EI}{k:Nat}{Q:Unit->EM->Prop}(hT:cO s.heap T a b c)
  (h:∀h',h'.get? T=some {cls:=.type "tuple",data:=.seq ((#[a,b,c]:Array EI).setIfInBounds k x)}->Fj T s.heap h'->Q () {s with heap:=h'}):
  wpAny (model P w) A (updateSeq T (·.setIfInBounds k x)) Q E s:=by
 refine wpAny_updateSeq hT rfl<|h _ ?_<|Hn ..;rw[Gb _ hT rfl];simp[JG]
structure ZApart3(z TI TO i1 i2 i3:Addr)(fp1 fp2 fp3:List Addr):Prop where
 c1:TI≠z
 c2:TO≠z
 c3:i1≠z
 c4:i2≠z
 c4':i3≠z
 c5:TI≠TO
 c6:TI≠i1
 c7:TI≠i2
 c7':TI≠i3
 c8:TO≠i1
 c9:TO≠i2
 c9':TO≠i3
 d1:z∉fp1/\TO∉fp1/\i2∉fp1/\i3∉fp1
 d2:z∉fp2/\TO∉fp2/\i1∉fp2/\i3∉fp2
 d3:z∉fp3/\TO∉fp3/\i1∉fp3/\i2∉fp3
theorem sk{Q:Option EI->EM->Prop}(D1:Ky P w A.in1 i1 fp1 n1 P1 S1)(D2:Ky P w A.in1 i2 fp2 n2 P2 S2)(D3:Ky P w A.in1 i3 fp3 n3 P3 S3)(Z:ZApart3 z TI TO i1 i2 i3 fp1 fp2 fp3)(h1:k<n1)(h2:k<n2)(h3:k<n3)(hz:HN s.heap z TI TO .none)
  (hI:cO s.heap TI (.ref i1) (.ref i2) (.ref i3)) (hO:cO s.heap TO a b c) (t1:S1 k s.heap) (t2:S2 k s.heap) (t3:S3 k s.heap)
  (q:∀x y u h' tk T,P1 k x->P2 k y->P3 k u->T=s.heap.objs.size->HN h' z TI TO (rawInt T)->cO h' TO x y u->S1 (k+1) h'->S2 (k+1) h'->S3 (k+1) h'->cO h' T x y u->
   (∀c o,c≠z->c≠TO->c≠i1->c≠i2->c≠i3->s.heap.get? c=some o->h'.get? c=some o)->Q (some (.ref T)) {s with heap:=h',toks:=tk}):
  wpAny (model P w) A (pyNext<|.ref z) Q E s:=by
 have hT:s.TypeIs (.ref z) "zip":=⟨_,hz,rfl⟩
 unfold pyNext;refine EE<|Hg<|FX (name:=EL "__next__") hT Gv<|G9 Gv hT HV ?_<|HK _;obtain⟨hp,gg,dd,tk0,os⟩:=s;show wpAny (model P w) _ (field (.ref z) 2>>=_) _ _ _;refine EE<|Ft hz rfl (x:=.bool false) rfl ?_;show wpAny (model P w) _ (field (.ref z) 3>>=_) _ _ _;refine EE<|Ft hz rfl (x:=.ref TI) rfl<|EE<|FT hI rfl ?_;show wpAny (model P w) _ (Fx (.ref z)>>=_) _ _ _;refine EE ?_;unfold Fx;refine EE<|Ft hz rfl (x:=.none) rfl<|ES ?_;simp only[if_true];refine EE (J8 (EE (Ft hz rfl (x:=.ref TO) rfl (EE (G0 hz (by simp) fun g1 y1 b1=>?_)))));replace y1:HN g1 z TI TO .ellipsis:=y1;replace b1:Fj z hp g1:=b1;refine EE ?_;simp only[J9,Js,Iz,IW];refine EE<|EE<|Hh ?_;show wpAny (model P w) _ (Fm (.ref i1)>>=_) _ _ _;refine EE<|D1.item k _ _ _ h1 (ay D1 t1 b1 Z.d1.1) fun x g2 tk2 px u1 b2=>ES ?_;replace b2:Fj i1 g1 g2:=b2;have O2:cO g2 TO a b c:=b2.extBut _ _ Z.c8<|b1.extBut _ _ Z.c2 hO;refine EE<|FT O2 rfl<|EE<|bZ O2 fun g3 O3 b3=>?_;replace O3:cO g3 TO x b c:=O3;replace b3:Fj TO g2 g3:=b3;refine EE<|Il<|ES<|EE<|EE<|Hh ?_;show wpAny (model P w) _ (Fm (.ref i2)>>=_) _ _ _;refine EE<|D2.item k _ _ _ h2 (ay D2 (ay D2 (ay D2 t2 b1 Z.d2.1) b2 Z.d2.2.2.1) b3 Z.d2.2.1) fun y g4 tk4 py u2 b4=>ES ?_;replace b4:Fj i2 g3 g4:=b4;have O4:cO g4 TO x b c:=b4.extBut _ _ Z.c9 O3;refine EE<|FT O4 rfl<|EE<|bZ O4 fun g5 O5 b5=>?_;replace O5:cO g5 TO x y c:=O5;replace b5:Fj TO g4 g5:=b5;refine EE<|Il<|ES<|EE<|EE<|Hh ?_;show wpAny (model P w) _ (Fm (.ref i3)>>=_) _ _ _;refine EE<|D3.item k _ _ _ h3 (ay D3 (ay D3 (ay D3 (ay D3 (ay D3 t3 b1 Z.d3.1) b2 Z.d3.2.2.1) b3 Z.d3.2.1) b4 Z.d3.2.2.2) b5 Z.d3.2.1) fun u g6 tk6 pu u3 b6=>ES ?_;replace b6:Fj i3 g5 g6:=b6;have O6:cO g6 TO x y c:=b6.extBut _ _ Z.c9' O5;refine EE<|FT O6 rfl<|EE<|bZ O6 fun g7 O7 b7=>?_;replace O7:cO g7 TO x y u:=O7;replace b7:Fj TO g6 g7:=b7;refine EE<|Il<|ES<|ES<|EE<|FT O7 rfl<|EE<|Mt ?_;have sz:g7.objs.size=hp.objs.size:=by rw[b7.1,b6.1,b5.1,b4.1,b3.1,b2.1,b1.1]
 have y7:HN g7 z TI TO .ellipsis:=b7.extBut _ _ Z.c2.symm<|b6.extBut _ _ Z.c4'.symm<|b5.extBut _ _ Z.c2.symm<|b4.extBut _ _ Z.c4.symm<|b3.extBut _ _ Z.c2.symm<|b2.extBut _ _ Z.c3.symm y1;have k7:∀c o,c≠z->c≠TO->c≠i1->c≠i2->c≠i3->hp.get? c=some o->g7.get? c=some o:=fun c o e1 e2 e3 e4 e5 e=>b7.extBut _ _ e2<|b6.extBut _ _ e5<|b5.extBut _ _ e2<|b4.extBut _ _ e4<|b3.extBut _ _ e2<|b2.extBut _ _ e3<|b1.extBut _ _ e1 e;have v1:S1 (k+1) g7:=ay D1 (ay D1 (ay D1 (ay D1 (ay D1 u1 b3 Z.d1.2.1) b4 Z.d1.2.2.1) b5 Z.d1.2.1) b6 Z.d1.2.2.2) b7 Z.d1.2.1;have v2:S2 (k+1) g7:=ay D2 (ay D2 (ay D2 u2 b5 Z.d2.2.1) b6 Z.d2.2.2.2) b7 Z.d2.2.1;have v3:S3 (k+1) g7:=ay D3 u3 b7 Z.d3.2.1;have lz:z<g7.objs.size:=F0 y7;show wpAny (model P w) _ (GL (.ref z) (.ref g7.objs.size)>>=_) _ _ _;refine EE ?_;unfold GL;have y8:HN (g7.push {cls:=.type "tuple",data:=.seq #[x,y,u]}) z TI TO .ellipsis:=EJ _ y7;refine EE (G0 y8 (by simp) fun g9 y9 b9=>?_);replace y9:HN g9 z TI TO (rawInt g7.objs.size):=y9;replace b9:Fj z (g7.push {cls:=.type "tuple",data:=.seq #[x,y,u]}) g9:=b9;refine G0 y9 (by simp) fun g10 y10 b10=>?_;replace y10:HN g10 z TI TO (rawInt g7.objs.size):=y10;replace b10:Fj z g9 g10:=b10;have up:∀c o,c≠z->g7.get? c=some o->g10.get? c=some o:=fun c o e1 e=>b10.extBut _ _ e1<|b9.extBut _ _ e1<|EJ _ e;have T8:cO g10 g7.objs.size x y u:=b10.extBut _ _ (H9 lz)<|b9.extBut _ _ (H9 lz)<|EU _ rfl;refine ES ⟨_,rfl,ES<|q x y u g10 _ g7.objs.size px py pu sz y10 (up _ _ Z.c2 O7) (D1.frame _ _ _ v1 fun b hb o e=>up b o (fun q=>Z.d1.1<|q▸hb) e) (D2.frame _ _ _ v2 fun b hb o e=>up b o (fun q=>Z.d2.1<|q▸hb) e) (D3.frame _ _ _ v3 fun b hb o e=>up b o (fun q=>Z.d3.1<|q▸hb) e) T8 fun c o e1 e2 e3 e4 e5 e=>up c o e1<|k7 c o e1 e2 e3 e4 e5 e⟩
theorem uJ{Q:Option EI->EM->Prop}(hh:A.handled=none)(D1:Ky P w A.in1 i1 fp1 n1 P1 S1)(D2:Ky P w A.in1 i2 fp2 n2 P2 S2)(D3:Ky P w A.in1 i3 fp3 n3 P3 S3)(Z:ZApart3 z TI TO i1 i2 i3 fp1 fp2 fp3)(hk:k=n1\/(k<n1/\k=n2)\/(k<n1/\k<n2/\k=n3))(hz:HN s.heap z TI TO .none)
  (hI:cO s.heap TI (.ref i1) (.ref i2) (.ref i3)) (hO:cO s.heap TO a b c) (t1:S1 k s.heap) (t2:S2 k s.heap) (t3:S3 k s.heap)
  (q:∀h' tk,(∀c o,c≠z->c≠TO->c≠i1->c≠i2->c≠i3->s.heap.get? c=some o->h'.get? c=some o)->Q none {s with heap:=h',toks:=tk}):
  wpAny (model P w) A (pyNext<|.ref z) Q E s:=by
 have hT:s.TypeIs (.ref z) "zip":=⟨_,hz,rfl⟩
 unfold pyNext;refine EE<|Hg<|FX (name:=EL "__next__") hT Gv<|G9 Gv hT HV ?_<|HK _;obtain⟨hp,gg,dd,tk0,os⟩:=s;show wpAny (model P w) _ (field (.ref z) 2>>=_) _ _ _;refine EE<|Ft hz rfl (x:=.bool false) rfl ?_;show wpAny (model P w) _ (field (.ref z) 3>>=_) _ _ _;refine EE<|Ft hz rfl (x:=.ref TI) rfl<|EE<|FT hI rfl ?_;show wpAny (model P w) _ (Fx (.ref z)>>=_) _ _ _;refine EE ?_;unfold Fx;refine EE<|Ft hz rfl (x:=.none) rfl<|ES ?_;simp only[if_true];refine EE (J8 (EE (Ft hz rfl (x:=.ref TO) rfl (EE (G0 hz (by simp) fun g1 y1 b1=>?_)))));replace y1:HN g1 z TI TO .ellipsis:=y1;replace b1:Fj z hp g1:=b1;refine EE ?_;simp only[J9,Js,Iz,IW];refine EE<|EE<|Hh ?_;show wpAny (model P w) _ (Fm (.ref i1)>>=_) _ _ _;rcases hk with hk|hk
 ·subst hk;refine EE<|D1.done _ _ _ (ay D1 t1 b1 Z.d1.1) fun g2 e b2 he=>?_;obtain⟨oe,hoe,hce⟩:=he;replace b2:Hs i1 g1 g2:=b2;have y2:HN g2 z TI TO .ellipsis:=b2 _ _ Z.c3.symm y1;have ez:e≠z:=fun x=>by subst x;rw[y2]at hoe;cases hoe;simp at hce
  refine G0 y2 (by simp) fun g3 _ b3=>?_;exact EE<|Hf (T:="StopIteration") (b:=true) ⟨oe,b3.extBut _ _ ez hoe,hce⟩ Ht<|ES<|q g3 _ fun c o e1 _ e3 _ _ x=>b3.extBut _ _ e1<|b2 _ _ e3<|b1.extBut _ _ e1 x
 ·have hk1:k< n1:=by rcases hk with z | z <;> exact z.1
  refine EE<|D1.item k _ _ _ hk1 (ay D1 t1 b1 Z.d1.1) fun x g2 tk2 px u1 b2=>ES ?_;replace b2:Fj i1 g1 g2:=b2;have O2:cO g2 TO a b c:=b2.extBut _ _ Z.c8<|b1.extBut _ _ Z.c2 hO;refine EE<|FT O2 rfl<|EE<|bZ O2 fun g3 O3 b3=>?_;replace b3:Fj TO g2 g3:=b3;replace O3:cO g3 TO x b c:=O3;refine EE<|Il<|ES<|EE<|EE<|Hh ?_;show wpAny (model P w) _ (Fm (.ref i2)>>=_) _ _ _;rcases hk with⟨_,hk2⟩|⟨_,hk2,hk3⟩
  ·subst hk2;refine EE<|D2.done _ _ _ (ay D2 (ay D2 (ay D2 t2 b1 Z.d2.1) b2 Z.d2.2.2.1) b3 Z.d2.2.1) fun g4 e b4 he=>?_;obtain⟨oe,hoe,hce⟩:=he;replace b4:Hs i2 g3 g4:=b4;have y4:HN g4 z TI TO .ellipsis:=b4 _ _ Z.c4.symm<|b3.extBut _ _ Z.c2.symm<|b2.extBut _ _ Z.c3.symm y1;have ez:e≠z:=fun x=>by subst x;rw[y4]at hoe;cases hoe;simp at hce
   refine G0 y4 (by simp) fun g5 _ b5=>?_;exact EE<|Hf (T:="StopIteration") (b:=true) ⟨oe,b5.extBut _ _ ez hoe,hce⟩ Ht<|ES<|q g5 _ fun c o e1 e2 e3 e4 _ x=>b5.extBut _ _ e1<|b4 _ _ e4<|b3.extBut _ _ e2<|b2.extBut _ _ e3<|b1.extBut _ _ e1 x
  ·subst hk3;refine EE<|D2.item k _ _ _ hk2 (ay D2 (ay D2 (ay D2 t2 b1 Z.d2.1) b2 Z.d2.2.2.1) b3 Z.d2.2.1) fun y g4 tk4 py u2 b4=>ES ?_;replace b4:Fj i2 g3 g4:=b4;have O4:cO g4 TO x b c:=b4.extBut _ _ Z.c9 O3;refine EE<|FT O4 rfl<|EE<|bZ O4 fun g5 O5 b5=>?_;replace b5:Fj TO g4 g5:=b5;refine EE<|Il<|ES<|EE<|EE<|Hh ?_;show wpAny (model P w) _ (Fm (.ref i3)>>=_) _ _ _;refine EE<|D3.done _ _ _ (ay D3 (ay D3 (ay D3 (ay D3 (ay D3 t3 b1 Z.d3.1) b2 Z.d3.2.2.1) b3 Z.d3.2.1) b4 Z.d3.2.2.2) b5 Z.d3.2.1) fun g6 e b6 he=>?_;obtain⟨oe,hoe,hce⟩:=he;replace b6:Hs i3 g5 g6:=b6;have y6:HN g6 z TI TO .ellipsis:=b6 _ _ Z.c4'.symm<|b5.extBut _ _ Z.c2.symm<|b4.extBut _ _ Z.c4.symm<|b3.extBut _ _ Z.c2.symm<|b2.extBut _ _ Z.c3.symm y1;have ez:e≠z:=fun x=>by subst x;rw[y6]at hoe;cases hoe;simp at hce
   refine G0 y6 (by simp) fun g7 _ b7=>?_;exact EE<|Hf (T:="StopIteration") (b:=true) ⟨oe,b7.extBut _ _ ez hoe,hce⟩ Ht<|ES<|q g7 _ fun c o e1 e2 e3 e4 e5 x=>b7.extBut _ _ e1<|b6 _ _ e5<|b5.extBut _ _ e2<|b4.extBut _ _ e4<|b3.extBut _ _ e2<|b2.extBut _ _ e3<|b1.extBut _ _ e1 x
end
def B4(K:EH)(c1 c2 c3:Src):It:=
  ⟨fun i H=>∃xs ys us x y u,c1.has K H xs/\c2.has K H ys/\c3.has K H us/\xs[i]? =some x/\ys[i]? =some y/\us[i]? =some u,
   fun i H v H'=>∃p x y u,H p=none/\v=.ref p/\(∀xs,c1.has K H xs->xs[i]? =some x)/\(∀ys,c2.has K H ys->ys[i]? =some y)/\(∀us,c3.has K H us->us[i]? =some u)/\H'=cy H p (.tup [x,y,u]),
   fun i H=>∃xs ys us,c1.has K H xs/\c2.has K H ys/\c3.has K H us/\(i=xs.length\/(i<xs.length/\i=ys.length)\/(i<xs.length/\i<ys.length/\i=us.length))⟩
def CV(c1 c2 c3:Src)(z TI TO i1 i2 i3:Addr)(i:Nat)(h:Heap):Prop:=HN h z TI TO .none/\cO h TI (.ref i1) (.ref i2) (.ref i3)/\(∃a b c,cO h TO a b c)/\c1.at i1 i h/\c2.at i2 i h/\c3.at i3 i h
structure ZIds3(z TI TO i1 i2 i3:Addr):Prop where
 c1:TI≠z
 c2:TO≠z
 c3:i1≠z
 c4:i2≠z
 c4':i3≠z
 c5:TI≠TO
 c6:TI≠i1
 c7:TI≠i2
 c7':TI≠i3
 c8:TO≠i1
 c9:TO≠i2
 c9':TO≠i3
 c10:i1≠i2
 c11:i1≠i3
 c12:i2≠i3
theorem qF{X:Cx}{pins:List (Addr×Obj)}{σ:St}{H:Hp}{s:EM}{z TI TO i1 i2 i3:Addr}{fp1 fp2 fp3:List Addr}(I:Inv X pins σ H s)(Z:ZIds3 z TI TO i1 i2 i3)(hf:∀b∈[z,TI,TO,i1,i2,i3],FpOk X pins H b)
  (g1:∀b∈fp1,b=i1\/H b≠none\/∃o,X.base.get? b=some o) (g2:∀b∈fp2,b=i2\/H b≠none\/∃o,X.base.get? b=some o) (g3:∀b∈fp3,b=i3\/H b≠none\/∃o,X.base.get? b=some o):ZApart3 z TI TO i1 i2 i3 fp1 fp2 fp3:=by
 have no:∀b∈[z,TI,TO,i1,i2,i3],¬(H b≠none\/∃o,X.base.get? b=some o):=fun b hb q=>by
  rcases q with q|⟨o,q⟩
  ·exact q (hf b hb).1
  ·rcases (hf b hb).2.2.2.1 with y | y;·exact I.ok.noex b o q y
   ·exact absurd (EY (EY (F0 q) I.ok.bsz) y)<|FO _
 refine⟨Z.c1,Z.c2,Z.c3,Z.c4,Z.c4',Z.c5,Z.c6,Z.c7,Z.c7',Z.c8,Z.c9,Z.c9',⟨fun m=>?_,fun m=>?_,fun m=>?_,fun m=>?_⟩,⟨fun m=>?_,fun m=>?_,fun m=>?_,fun m=>?_⟩,⟨fun m=>?_,fun m=>?_,fun m=>?_,fun m=>?_⟩⟩;·exact(g1 _ m).elim (fun e=>Z.c3 e.symm) (no z (by simp))
 ·exact(g1 _ m).elim (fun e=>Z.c8 e) (no TO (by simp))
 ·exact(g1 _ m).elim (fun e=>Z.c10 e.symm) (no i2 (by simp))
 ·exact(g1 _ m).elim (fun e=>Z.c11 e.symm) (no i3 (by simp))
 ·exact(g2 _ m).elim (fun e=>Z.c4 e.symm) (no z (by simp))
 ·exact(g2 _ m).elim (fun e=>Z.c9 e) (no TO (by simp))
 ·exact(g2 _ m).elim (fun e=>Z.c10 e) (no i1 (by simp))
 ·exact(g2 _ m).elim (fun e=>Z.c12 e.symm) (no i3 (by simp))
 ·exact(g3 _ m).elim (fun e=>Z.c4' e.symm) (no z (by simp))
 ·exact(g3 _ m).elim (fun e=>Z.c9' e) (no TO (by simp))
 ·exact(g3 _ m).elim (fun e=>Z.c11 e) (no i1 (by simp))
 ·exact(g3 _ m).elim (fun e=>Z.c12 e) (no i2 (by simp))
theorem so{P:Ff}{w:Fp}{K:EH}{elts:List Expr}{kk:Nat}{tp:Pos}(c1 c2 c3:Src)(z TI TO i1 i2 i3:Addr)(Z:ZIds3 z TI TO i1 i2 i3):
  Turn P w K (.Tuple elts kk tp) (B4 K c1 c2 c3) [z,TI,TO,i1,i2,i3] z (CV c1 c2 c3 z TI TO i1 i2 i3) where
 mem:=by simp
 obj:=fun i h st b hb=>by
  obtain⟨hz,hI,⟨a,b',c',hO⟩,t1,t2,t3⟩:=st;obtain⟨o1,e1,v1,d1⟩:=JM t1;obtain⟨o2,e2,v2,d2⟩:=JM t2;obtain⟨o3,e3,v3,d3⟩:=JM t3;simp only[F9,FY,or_false]at hb;rcases hb with rfl|rfl|rfl|rfl|rfl|rfl;·exact⟨_,hz,fun v q=>by cases (show JS _=I9 v from q)⟩
  ·exact⟨_,hI,fun v q=>by cases (show Kd _ _=I9 v from q)⟩
  ·exact⟨_,hO,fun v q=>by cases (show Kd _ _=I9 v from q)⟩
  ·exact⟨_,e1,fun v q=>by rw[d1]at q;cases q⟩
  ·exact⟨_,e2,fun v q=>by rw[d2]at q;cases q⟩
  ·exact⟨_,e3,fun v q=>by rw[d3]at q;cases q⟩
 keep:=fun i h h' st k=>by
  obtain⟨hz,hI,⟨a,b',c',hO⟩,t1,t2,t3⟩:=st;exact⟨k z (by simp) _ hz,k TI (by simp) _ hI,⟨a,b',c',k TO (by simp) _ hO⟩,Jn t1 (k i1 (by simp)),Jn t2 (k i2 (by simp)),Jn t3 (k i3 (by simp))⟩
 item:=by
  intro X hP hw hK hc i pins s σ H E I hf st hg;subst hP hw hK;obtain⟨xs,ys,us,x,y,u,hx,hy,hu,ex,ey,eu⟩:=hg;obtain⟨hz,hI,⟨a,b',c',hO⟩,t1,t2,t3⟩:=st;have hh:X.A.in1.handled=none:=I.ok.hd hc;obtain⟨fp1,P1,S1,D1,u1,r1,a1,_,g1⟩:=Kl (A:=X.A.in1) hh I hx t1 (hf i1 (by simp)).1;obtain⟨fp2,P2,S2,D2,u2,r2,a2,_,g2⟩:=Kl (A:=X.A.in1) hh I hy t2 (hf i2 (by simp)).1;obtain⟨fp3,P3,S3,D3,u3,r3,a3,_,g3⟩:=Kl (A:=X.A.in1) hh I hu t3 (hf i3 (by simp)).1;have ZA:=qF I Z hf g1 g2 g3;refine sk D1 D2 D3 ZA (ER.mp ex).1 (ER.mp ey).1 (ER.mp eu).1 hz hI hO u1 u2 u3 fun vx vy vu h' tk T px py pu hT hz' hO' w1 w2 w3 hTp kp=>?_;obtain⟨x',ex',rx⟩:=r1 i vx px;obtain⟨y',ey',ry⟩:=r2 i vy py;obtain⟨u',eu',ru⟩:=r3 i vu pu;rw[ex]at ex';cases ex';rw[ey]at ey';cases ey';rw[eu]at eu';cases eu';have nT:H T=none:=by rw[hT];exact I.hok.fresh<|Fb _
  refine⟨_,rfl,JP hz' fun h2 hz2 sb=>?_⟩;have lt:∀{c o},s.heap.get? c=some o->c≠T:=fun e=>by rw[hT];exact Fd<|F0 e
  have up:∀c o,c≠z->h'.get? c=some o->h2.get? c=some o:=fun c o hc e=>(sb.2 c hc).trans e;have kp2:∀b o,b∉[z,TO,i1,i2,i3]->s.heap.get? b=some o->h2.get? b=some o:=fun b o hb e=>by
   simp only[F9,FY,or_false,not_or]at hb;exact up b o hb.1<|kp b o hb.1 hb.2.1 hb.2.2.1 hb.2.2.2.1 hb.2.2.2.2 e
  have ch:∀b∈[z,TO,i1,i2,i3],b∈[z,TI,TO,i1,i2,i3]:=fun b hb=>by
   simp only[F9,FY,or_false]at hb ⊢;rcases hb with h|h|h|h|h<;>simp[h]
  have i5:∀b u,H b=some u->b∉[z,TO,i1,i2,i3]/\b≠T:=fun b u e=>⟨fun hb=>(by rw[(hf b<|ch b hb).1]at e;cases e),fun q=>(by rw[q,nT]at e;cases e)⟩
  have I2:Inv X pins σ (cy H T<|.tup [x,y,u]) {s with heap:=h2,gens:=s.gens,drawn:=s.drawn,toks:=tk}:=by
   refine I.step (g':=s.gens) (d':=s.drawn) (t':=tk) (ch:=[z,TO,i1,i2,i3]) (fun b hb=>⟨(hf b<|ch b hb).2.2.2.1,(hf b<|ch b hb).2.1,(hf b<|ch b hb).2.2.2.2.1,(hf b<|ch b hb).2.2.2.2.2⟩) (fun b o _ _ hb e _=>kp2 b o hb e) (fun b o _ _ hb e _=>⟨o.slots,kp2 b o hb e⟩)
    (fun b o hb e n=>by rw[ao<|lt e];exact n) (fun b o hb e=>⟨o,kp2 b o hb e⟩) (fun b xs e=>by rw[ao (i5 b _ e).2];exact e) (fun b o u e=>by rw[ao (i5 b _ e).2];exact e) (fun b ps e=>⟨#[],by rw[ao (i5 b _ e).2,e];simp⟩) (fun m hm=>?_) (fun b u e=>?_) I.bare
   ·obtain⟨o,es,ep,ho,r⟩:=hm;exact⟨o,es,ep,kp2 _ o (fun hb=>(hf _<|ch _ hb).2.1 rfl) ho,r⟩
   ·by_cases hb:b=T
    ·subst hb;rw[aq]at e;cases e;refine⟨(by show 3<=sizeLine;rw[Gi];decide),[vx,vy,vu],.cons rx<|.cons ry<|.cons ru .nil,⟨_,up _ _ ?_ hTp,⟨rfl,rfl⟩,_,rfl⟩⟩;exact fun q=>lt hz q.symm
    ·rw[ao hb]at e;refine(I.hok b u e).stay (fun c v hc q=>kp2 c v ?_ q) (fun c q=>by rw[ao (i5 c _ q).2];exact q) fun c xs q=>by rw[ao (i5 c _ q).2];exact q
     rcases hc with q|q;·rw[q];exact(i5 b u e).1
     ·exact(i5 c _ q).1
  refine⟨.ref T,_,I2,rfl,⟨T,x,y,u,nT,rfl,fun xs' h=>by rw[NX I h hx];exact ex,fun ys' h=>by rw[NX I h hy];exact ey,fun us' h=>by rw[NX I h hu];exact eu,rfl⟩,⟨hz2,up _ _ Z.c1<|kp _ _ Z.c1 Z.c5 Z.c6 Z.c7 Z.c7' hI,⟨_,_,_,up _ _ Z.c2 hO'⟩,Jn (a1 _ _ w1) fun o e=>up _ o Z.c3 e,Jn (a2 _ _ w2) fun o e=>up _ o Z.c4 e,Jn (a3 _ _ w3) fun o e=>up _ o Z.c4' e⟩,fun b hb=>?_⟩;have hbT:b≠T:=by
   obtain⟨o,e⟩:∃o,s.heap.get? b=some o:=by
    obtain⟨o1,e1,_⟩:=JM t1;obtain⟨o2,e2,_⟩:=JM t2;obtain⟨o3,e3,_⟩:=JM t3;simp only[F9,FY,or_false]at hb;rcases hb with rfl|rfl|rfl|rfl|rfl|rfl;·exact⟨_,hz⟩
    ·exact⟨_,hI⟩
    ·exact⟨_,hO⟩
    ·exact⟨_,e1⟩
    ·exact⟨_,e2⟩
    ·exact⟨_,e3⟩
   exact lt e
  rw[ao hbT];exact(hf b hb).1
 done:=by
  intro X hP hw hK hc i pins s σ H E I hf st hg;subst hP hw hK;obtain⟨xs,ys,us,hx,hy,hu,hend⟩:=hg;obtain⟨hz,hI,⟨a,b',c',hO⟩,t1,t2,t3⟩:=st;have hh:X.A.in1.handled=none:=I.ok.hd hc;obtain⟨fp1,P1,S1,D1,u1,r1,a1,_,g1⟩:=Kl (A:=X.A.in1) hh I hx t1 (hf i1 (by simp)).1;obtain⟨fp2,P2,S2,D2,u2,r2,a2,_,g2⟩:=Kl (A:=X.A.in1) hh I hy t2 (hf i2 (by simp)).1;obtain⟨fp3,P3,S3,D3,u3,r3,a3,_,g3⟩:=Kl (A:=X.A.in1) hh I hu t3 (hf i3 (by simp)).1;have ZA:=qF I Z hf g1 g2 g3;have ch:∀b∈[z,TO,i1,i2,i3],b∈[z,TI,TO,i1,i2,i3]:=fun b hb=>by
   simp only[F9,FY,or_false]at hb ⊢;rcases hb with h|h|h|h|h<;>simp[h]
  refine uJ hh D1 D2 D3 ZA hend hz hI hO u1 u2 u3 fun h2 tk kp=>⟨rfl,?_⟩
  have kp2:∀b o,b∉[z,TO,i1,i2,i3]->s.heap.get? b=some o->h2.get? b=some o:=fun b o hb e=>by
   simp only[F9,FY,or_false,not_or]at hb;exact kp b o hb.1 hb.2.1 hb.2.2.1 hb.2.2.2.1 hb.2.2.2.2 e
  refine I.step (g':=s.gens) (d':=s.drawn) (t':=tk) (ch:=[z,TO,i1,i2,i3]) (fun b hb=>⟨(hf b<|ch b hb).2.2.2.1,(hf b<|ch b hb).2.1,(hf b<|ch b hb).2.2.2.2.1,(hf b<|ch b hb).2.2.2.2.2⟩) (fun b o _ _ hb e _=>kp2 b o hb e) (fun b o _ _ hb e _=>⟨o.slots,kp2 b o hb e⟩)
   (fun b o hb e n=>n) (fun b o hb e=>⟨o,kp2 b o hb e⟩) (fun b xs e=>e) (fun b o u e=>e) (fun b ps e=>⟨#[],by rw[e];simp⟩) (fun m hm=>?_) (fun b u e=>?_) I.bare
  ·obtain⟨o,es,ep,ho,r⟩:=hm;exact⟨o,es,ep,kp2 _ o (fun hb=>(hf _<|ch _ hb).2.1 rfl) ho,r⟩
  ·have i5:∀b u,H b=some u->b∉[z,TO,i1,i2,i3]:=fun b u e hb=>by rw[(hf b<|ch b hb).1]at e;cases e
   refine(I.hok b u e).stay (fun c v hc q=>kp2 c v ?_ q) (fun c q=>q) fun c xs q=>q;rcases hc with q|q
   ·rw[q];exact i5 b u e
   ·exact i5 c _ q
 self:=fun _ _ _ _ _ st h=>Ja st.1 h
theorem B5{x y z:V}{us:List EI}(r:Vals [x,y,z] us):∃u v w',us=[u,v,w']/\RelV x u/\RelV y v/\RelV z w':=by
 cases r with
 |cons h1 r=>cases r with
  |cons h2 r=>cases r with
   |cons h3 r=>cases r;exact⟨_,_,_,rfl,h1,h2,h3⟩
def z9(K:EH)(t:TA):TI:=fun σ H R=>t σ H fun vs H1=>∃c1 c2 c3 xs ys us,vs=[c1.val,c2.val,c3.val]/\c1.has K H1 xs/\c2.has K H1 ys/\c3.has K H1 us/\R (B4 K c1 c2 c3) H1
theorem qG{X:Cx}{K:EH}(hK:X.K=K){a b c:Expr}{ta:TA}{p pos tp:Pos}{elts:List Expr}{kk:Nat}(hg:Gl X "zip")(hm:X.mg "zip"=none)(ha:PA X [a,b,c] ta)
  (hs:starEach [a,b,c] X.env=[(false,eval a X.env),(false,eval b X.env),(false,eval c X.env)]:=by rfl) (hs2:starEach [b,c] X.env=[(false,eval b X.env),(false,eval c X.env)]:=by rfl):PI X (.Tuple elts kk tp) (.Call (.Name "zip" p) [a,b,c] [] pos) (z9 K ta):=by
 subst hK;intro pins s σ H R I h;refine Call_ (jj I hg hm boot_zip (Hr (cb (ha pos pins s σ H _ I h) fun us s1⟨vs,H1,I1,r1,q1⟩=>?_) (by rw[hs,hs2]) (by rw[hs2];rfl)));obtain⟨c1,c2,c3,xs,ys,zs,e,h1,h2,h3,q⟩:=q1;subst e;obtain⟨v1,v2,v3,rfl,ra,rb,rc⟩:=B5 r1;obtain⟨o1,i1,f1,n1⟩:=Nz I1 h1 ra fun _ _ e=>e;obtain⟨o2,i2,f2,n2⟩:=Nz (h:=s1.heap.push o1) I1 h2 rb fun _ _ e=>EJ _ e;obtain⟨o3,i3,f3,n3⟩:=Nz (h:=(s1.heap.push o1).push o2) I1 h3 rc fun _ _ e=>EJ _<|EJ _ e;have z1:(s1.heap.push o1).objs.size=s1.heap.objs.size+1:=FH ..;have z2:((s1.heap.push o1).push o2).objs.size=s1.heap.objs.size+2:=by rw[FH,z1]
 rw[z1]at n2;rw[z2]at n3;refine sj i1 i2 i3 f1 f2 f3 fun h' hz hI hO e1 e2 e3 kp=>?_;refine Ja hz ?_;have zi:∀n:Nat,ZIds3 (n+5) (n+3) (n+4) n (n+1) (n+2):=fun n=>⟨(jU n 3 5 (by decide)),(jU n 4 5 (by decide)),(jU n 0 5 (by decide)),(jU n 1 5 (by decide)),(jU n 2 5 (by decide)),(jU n 3 4 (by decide)),(jU n 3 0 (by decide)),(jU n 3 1 (by decide)),(jU n 3 2 (by decide)),(jU n 4 0 (by decide)),(jU n 4 1 (by decide)),(jU n 4 2 (by decide)),(jU n 0 1 (by decide)),(jU n 0 2 (by decide)),(jU n 1 2 (by decide))⟩
 refine⟨s1.heap.objs.size+5,[s1.heap.objs.size+5,s1.heap.objs.size+3,s1.heap.objs.size+4,s1.heap.objs.size,s1.heap.objs.size+1,s1.heap.objs.size+2],_,_,H1,rfl,I1.kept (t':=s1.toks) kp,so c1 c2 c3 _ _ _ _ _ _<|zi s1.heap.objs.size,⟨hz,hI,⟨_,_,_,hO⟩,n1 h' e1,n2 h' e2,n3 h' e3⟩,fun b hb=>?_,q⟩;have hb':s1.heap.objs.size<=b:=by
  simp only[F9,FY,or_false]at hb;rcases hb with z|z|z|z|z|z<;>rw[z]
  ·exact GX _ 5
  ·exact GX _ 3
  ·exact GX _ 4
  ·exact Fb _
  ·exact GX _ 1
  ·exact GX _ 2
 exact I1.fpOk hb'<|I1.hok.fresh hb'
end L2
namespace Mi
inductive Res(α:Type) where
 |ok (a:α)|err (j:Nat)|stuck
namespace Res
variable{α β:Type}
def Ok(m:Res α)(P:α->Prop):Prop:=match m with| .ok a=>P a|_=>False
def bind(m:Res α)(f:α->Res β):Res β:=match m with| .ok a=>f a| .err j=>.err j| .stuck=>.stuck
theorem bind_ok{m:Res α}{f:α->Res β}{P:β->Prop}(h:m.Ok fun a=>(f a).Ok P):(m.bind f).Ok P:=by cases m<;>exact h
theorem Ok.imp{m:Res α}{P Q:α->Prop}(h:m.Ok P)(k:∀a,P a->Q a):m.Ok Q:=by cases m<;>first|exact k _ h|exact h
theorem Ok.ex{m:Res α}{P:α->Prop}(h:m.Ok P):∃a,m=.ok a/\P a:=by
 cases m with
 |ok a=>exact⟨a,rfl,h⟩
 |err j=>exact h.elim
 |stuck=>exact h.elim
def OkE(m:Res α)(Er:Nat->Prop)(P:α->Prop):Prop:=match m with| .ok a=>P a| .err j=>Er j| .stuck=>False
theorem okE_bind{m:Res α}{f:α->Res β}{Er:Nat->Prop}{P:β->Prop}(h:(m.bind f).OkE Er P):m.OkE Er fun a=>(f a).OkE Er P:=by cases m<;>exact h
theorem bind_okE{m:Res α}{f:α->Res β}{Er:Nat->Prop}{P:β->Prop}(h:m.OkE Er fun a=>(f a).OkE Er P):(m.bind f).OkE Er P:=by cases m<;>exact h
theorem OkE.imp{m:Res α}{Er:Nat->Prop}{P Q:α->Prop}(h:m.OkE Er P)(k:∀a,P a->Q a):m.OkE Er Q:=by cases m<;>first|exact k _ h|exact h
theorem Ok.e{m:Res α}{Er:Nat->Prop}{P:α->Prop}(h:m.Ok P):m.OkE Er P:=by
 cases m with
 |ok a=>exact h
 |err j=>exact h.elim
 |stuck=>exact h.elim
def tryR(m:Res α):Res (α ⊕ Nat):=match m with| .ok a=>.ok (.inl a)| .err j=>.ok (.inr j)| .stuck=>.stuck
theorem tryR_OkE{m:Res α}{Er:Nat->Prop}{P:α ⊕ Nat->Prop}(h:(tryR m).OkE Er P):m.OkE (fun j=>P<|.inr j) fun a=>P (.inl a):=by cases m<;>exact h
@[simp] theorem bind_ok'(a:α)(f:α->Res β):(Res.ok a).bind f=f a:=rfl
end Res
abbrev cap:Nat:=100000
def fc(b:Prop)[Decidable b]{α:Type}(a:α):Res α:=if b then .ok a else .stuck
theorem bA{b:Prop}[Decidable b]{α:Type}{a:α}(h:b):fc b a=.ok a:=if_pos h
theorem aU{b:Prop}[Decidable b]{α:Type}{a:α}{Er:Nat->Prop}{P:α->Prop}(h:(fc b a).OkE Er P):b/\P a:=by
 unfold fc at h;by_cases hb:b;·rw[if_pos hb]at h;exact⟨hb,h⟩
 ·rw[if_neg hb]at h;exact h.elim
def fM{α:Type}:Option α->Res α
 |some a=>.ok a
 |none=>.stuck
theorem dN{α:Type}{o:Option α}{Er:Nat->Prop}{P:α->Prop}(h:(fM o).OkE Er P):∃a,o=some a/\P a:=by
 cases o with
 |none=>exact h.elim
 |some a=>exact⟨a,rfl,h⟩
abbrev Tx:=List Nat
def dX(i:Int):Int:=if i<0 then -i else i
def oj(i j:Int):Res Int:=fc ((-(2^64)<i/\i<2^64)\/(-(2^64)<j/\j<2^64))<|i*j
def qH(i j:Int):Res Int:=fc (0<j/\j<1073741824)<|i/j
def lE(i j:Int):Res Int:=fc (0<j)<|i%j
def ixN(n:Nat)(i:Int):Option Nat:=if 0<=i then(if i<n then some i.toNat else none)else if -(n:Int)<=i then some (i+n).toNat else none
def sq{α:Type}(xs:List α)(i:Int):Option α:=(ixN xs.length i).bind fun j=>xs[j]?
theorem xC{α:Type}{xs:List α}{j:Nat}{v:α}(h:xs[j]? =some v):sq xs (j:Int)=some v:=by
 have hl:j<xs.length:=(ER.mp h).1;unfold sq ixN;rw[if_pos (by omega),if_pos (by omega),GO];exact h
theorem uK{α:Type}{xs:List α}{i:Int}(h0:0<=i)(h1:i<xs.length):∃h:i.toNat<xs.length,sq xs i=some xs[i.toNat]:=by
 have h2:i.toNat<xs.length:=by omega
 refine⟨h2,?_⟩;have:=xC (xs:=xs) (j:=i.toNat) (v:=xs[i.toNat]) (by simp[h2]);rw[Int.toNat_of_nonneg h0]at this;exact this
def gz{α:Type}(xs:List α)(i:Int):Res α:=fM<|sq xs i
def iJ(x:Tx)(i:Int):Res Tx:=(fc (x.length<=cap) x).bind fun x=>(fM<|sq x i).bind fun c=>.ok [c]
def ee(a b:Tx):Res Tx:=fc (a.length+b.length<=cap)<|a++b
def zP{α:Type}(a b:List α):Res (List α):=fc (a.length+b.length<=cap)<|a++b
def en{α:Type}(a:List α)(x:α):Res (List α):=fc (a.length<cap)<|a++[x]
def xD(a:Tx)(n:Int):Res Tx:=match a with
 | [c]=>fc (0<=n/\n<=cap)<|Fg n.toNat c
 |_=>.stuck
def sr(x:Tx):Res Int:=fc (x.length<=cap) (x.length:Int)
def sIx(n d:Nat):Option Int->Nat
 |none=>d
 |some v=>if v<0 then(v+(n:Int)).toNat else min v.toNat n
def cut{α:Type}(l:List α)(lo hi:Option Int):List α:=(l.drop<|sIx l.length 0 lo).take (sIx l.length l.length hi-sIx l.length 0 lo)
def iC(x:Tx)(lo hi:Option Int):Res Tx:=fc (x.length<=cap)<|cut x lo hi
def jV{α:Type}(xs:List α)(i:Int)(x:α):Res (List α):=(fM<|ixN xs.length i).bind fun j=>.ok<|xs.set j x
def uL(x:Tx)(c:Nat):Option Nat:=x.findIdx? (· ==c)
def xE(x y:Tx):Res Int:=match y with
 | [c]=>(fM<|uL x c).bind fun j=>.ok (j:Int)
 |_=>.stuck
def uM(xs:List Tx):Res Tx:=fc (xs.flatten.length<=cap) xs.flatten
def look{κ α:Type}[DecidableEq κ](kvs:List (κ×α))(k:κ):Option α:=(kvs.find? fun p=>decide<|p.1=k).map (·.2)
def getD{κ α:Type}[DecidableEq κ](kvs:List (κ×α))(k:κ):Res α:=fM<|look kvs k
def jt{α β:Type}(f:α->Res β):List α->Res (List β)
 | []=>.ok []
 |a::r=>(f a).bind fun b=>(jt f r).bind fun bs=>.ok (b::bs)
def bI{α β:Type}(xs:List α)(f:α->Res β):Res (List β):=(fc (xs.length<=cap) xs).bind fun xs=>jt f xs
def gA{α β:Type}(f:α->Res (Option β)):List α->Res (List β)
 | []=>.ok []
 |a::r=>(f a).bind fun b=>(gA f r).bind fun bs=>.ok (match b with|some b=>b::bs|none=>bs)
def iE{α β:Type}(xs:List α)(f:α->Res (Option β)):Res (List β):=(fc (xs.length<=cap) xs).bind fun xs=>gA f xs
def cj{α S:Type}(f:α->S->Res S):List α->S->Res S
 | [],s=>.ok s
 |a::r,s=>(f a s).bind fun s=>cj f r s
inductive Fl(γ S:Type) where
 |nx (s:S)|bk (s:S)|rt (r:γ)
def B6{S γ:Type}(k:S->Res (Fl γ S)):Fl γ S->Res (Fl γ S)
 | .nx s=>k s
 | .bk s=>.ok<|.nx s
 | .rt x=>.ok<|.rt x
def iD{α S γ:Type}(f:α->S->Res (Fl γ S)):List α->S->Res (Fl γ S)
 | [],s=>.ok<|.nx s
 |a::r,s=>(f a s).bind (B6<|iD f r)
def fW(n:Int):List Int:=(HP n.toNat).map fun(i:Nat)=>(i:Int)
def gS(n:Int):Res (List Int):=fc (-(2^62)<=n/\n<2^62)<|fW n
def bo(x:Tx):List Tx:=x.map fun c=>[c]
def B7(x y:Tx):Res Bool:=match x with
 | [c]=>.ok<|y.contains c
 |_=>.stuck
def xF(l:List Int):Res Int:=fc (0<l.length) (l.foldl (fun a b=>if b>a then b else a)<|l.headD 0)
def za{α:Type}[DecidableEq α](a b:α):Res Bool:=if a=b then .ok true else .stuck
theorem qI{α β:Type}{f:α->Res β}{g:α->β}:∀{xs:List α},(∀x∈xs,f x=.ok (g x))->jt f xs=.ok (xs.map g)
 | [],_=>rfl
 |a::r,h=>by
  unfold jt;rw[h a<|EZ ..,Res.bind_ok',qI fun x hx=>h x<|F5 _ hx];rfl
theorem cF{α β:Type}{f:α->Res β}{g:α->β}{xs:List α}(hl:xs.length<=cap)(h:∀x∈xs,f x=.ok (g x)):bI xs f=.ok (xs.map g):=by
 unfold bI;rw[bA hl,Res.bind_ok',qI h]
def iT{α:Type}(xs:List α):Res (List Int):=(fc (xs.length<=cap) xs).bind fun xs=>.ok<|fW (xs.length:Int)
theorem kX{α:Type}{xs:List α}(h:xs.length<=cap):iT xs=.ok (fW (xs.length:Int)):=by unfold iT fc;rw[if_pos h];rfl
end Mi
open Mi.Res renaming okE_bind->ED,bind_ok'->EF,ok->EK,tryR->JN,err->L8,stuck->Na,bind_okE->Nh,bind->NC
open Mi.Res.Ok renaming imp->MA
open Mi.Res.OkE renaming imp->Fe
namespace Wb
open PySem L2 Mi
variable{Er:Nat->Prop}
structure Wd where
 G:Hp
 H:Hp
 ok:Same G H
structure Ext(W W':Wd):Prop where
 g:Same W.G W'.G
 h:Same W.H W'.H
 k:∀p,W.H p≠none->W'.G p=W.G p
theorem Ext.refl(W:Wd):Ext W W:=⟨.refl _,.refl _,fun _ _=>rfl⟩
theorem Ext.trans{W W1 W2:Wd}(a:Ext W W1)(b:Ext W1 W2):Ext W W2:=⟨a.g.trans b.g,a.h.trans b.h,fun p hp=>by
 obtain⟨o,ho⟩:=Im.mp hp;rw[b.k p (by rw[a.h p o ho];exact fun z=>nomatch z),a.k p hp]⟩
theorem Same.upd2{G H:Hp}(h:Same G H)(p:Addr)(o:HO):Same (cy G p o) (cy H p o):=fun a u e=>by
 by_cases z:a=p;·subst z;rw[aq]at e ⊢;exact e
 ·rw[ao z]at e ⊢;exact h _ _ e
def Wd.new(W:Wd)(p:Addr)(o:HO):Wd:=⟨cy W.G p o,cy W.H p o,Same.upd2 W.ok p o⟩
theorem Wd.gnone(W:Wd){p:Addr}(h:W.H p=none):W.G p=none:=none_of W.ok h
theorem Ext.new{W:Wd}{p:Addr}(o:HO)(h:W.H p=none):Ext W (W.new p o):=⟨dW<|W.gnone h,dW h,fun q hq=>ao fun z=>hq<|z▸h⟩
def Wd.mut(W:Wd)(p:Addr)(o:HO)(h:W.G p=none):Wd:=⟨W.G,cy W.H p o,sf W.ok h⟩
theorem Ext.own{W:Wd}{p:Addr}(o:HO)(h:W.H p=none):Ext W (W.mut p o<|W.gnone h):=⟨.refl _,dW h,fun _ _=>rfl⟩
def Wd.frz(W:Wd)(p:Addr)(o:HO)(h:W.H p=some o):Wd:=⟨cy W.G p o,W.H,fun a u e=>by
 by_cases z:a=p;·subst z;rw[aq]at e;cases e;exact h
 ·rw[ao z]at e;exact W.ok _ _ e⟩
theorem Ext.mut{W0 W:Wd}{p:Addr}{o:HO}(e:Ext W0 W)(hp:W0.H p=none)(h:W.G p=none):Ext W0 (W.mut p o h):=
 ⟨e.g,fun a u z=>by show cy W.H p o a=_;rw[ao<|cJ z hp];exact e.h _ _ z,e.k⟩
theorem Ext.frz{W0 W:Wd}{p:Addr}{o:HO}(e:Ext W0 W)(hp:W0.H p=none)(h:W.H p=some o)(hg:W.G p=none):Ext W0 (W.frz p o h):=
 ⟨e.g.trans<|dW hg,e.h,fun q hq=>by show cy W.G p o q=_;rw[ao (fun z=>hq (by rw[z];exact hp))];exact e.k q hq⟩
abbrev Rw(α:Type):=Wd->α->V->Prop
class MonoW{α:Type}(R:Rw α):Prop where
 mono:∀{W W':Wd}{a:α}{v:V},Ext W W'->R W a v->R W' a v
def sh{α:Type}(R:Rp α):Rw α:=fun W a v=>R W.G a v
instance zkeep8{α:Type}{R:Rp α}[Mono R]:MonoW (sh R):=⟨fun e h=>EG (R:=R) e.g h⟩
def pk{α:Type}(R:Rp α):Rw (List α):=fun W xs v=>∃p vs,v=.ref p/\W.H p=some (.lst vs)/\LR R W.G xs vs
instance zkeep9{α:Type}{R:Rp α}[Mono R]:MonoW (pk R):=⟨fun e⟨p,vs,a,b,c⟩=>⟨p,vs,a,e.h _ _ b,c.same e.g⟩⟩
theorem pk.of{α:Type}{R:Rp α}{W:Wd}{xs:List α}{v:V}(h:isL R W.G xs v):pk R W xs v:=by
 obtain⟨p,vs,a,b,c⟩:=h;exact⟨p,vs,a,W.ok _ _ b,c⟩
structure Ow{α:Type}(R:Rp α)(W:Wd)(p:Addr)(xs:List α):Prop where
 g:W.G p=none
 h:∃vs,W.H p=some (.lst vs)/\LR R W.G xs vs
theorem Ow.mono{α:Type}{R:Rp α}[Mono R]{W W':Wd}{p:Addr}{xs:List α}(o:Ow R W p xs)(e:Ext W W'):Ow R W' p xs:=by
 obtain⟨vs,a,b⟩:=o.h;exact⟨by rw[e.k p (by rw[a];exact fun z=>nomatch z)];exact o.g,vs,e.h _ _ a,b.same e.g⟩
theorem Ow.pk{α:Type}{R:Rp α}{W:Wd}{p:Addr}{xs:List α}(o:Ow R W p xs):pk R W xs (.ref p):=by
 obtain⟨vs,a,b⟩:=o.h;exact⟨p,vs,rfl,a,b⟩
theorem Ow.frz{α:Type}{R:Rp α}[Mono R]{W0 W:Wd}{p:Addr}{xs:List α}(o:Ow R W p xs)(e:Ext W0 W)(hp:W0.H p=none):
  ∃W',W'.H=W.H/\Ext W0 W'/\Same W.G W'.G/\isL R W'.G xs (.ref p)/\∀q,q≠p->W'.G q=W.G q:=by
 obtain⟨vs,a,b⟩:=o.h;exact⟨W.frz p _ a,rfl,e.frz hp a o.g,dW o.g,⟨p,vs,rfl,aq,b.same<|dW o.g⟩,fun q hq=>ao hq⟩
def EV(Er:Nat->Prop){α:Type}(t:TE)(σ:St)(W:Wd)(R:Rw α)(m:Res α):Prop:=∀W1,Ext W W1->∀Q:VK,m.OkE Er (fun a=>∀v W2,Ext W1 W2->R W2 a v->Q v W2.H)->t σ W1.H Q
def EVo(Er:Nat->Prop){α:Type}(t:TE)(σ:St)(W:Wd)(R:Rp α)(m:Res (List α)):Prop:=∀W1,Ext W W1->∀Q:VK,m.OkE Er (fun xs=>∀p W2,Ext W1 W2->W1.H p=none->Ow R W2 p xs->Q (.ref p) W2.H)->t σ W1.H Q
def TV(Er:Nat->Prop)(t:TT)(σ:St)(W:Wd)(m:Res Bool):Prop:=∀W1,Ext W W1->∀Q:Bool->Hp->Prop,m.OkE Er (fun b=>∀W2,Ext W1 W2->Q b W2.H)->t σ W1.H Q
section
variable{α β γ:Type}{t ta tb:TE}{σ:St}{W W0 W':Wd}{K:EH}
theorem EV.imp{R R':Rw α}{m:Res α}(h:EV Er t σ W R m)(f:∀W a v,R W a v->R' W a v):EV Er t σ W R' m:=fun W1 e1 Q k=>h W1 e1 Q<|k.imp fun a ka v W2 e2 r=>ka v W2 e2<|f _ _ _ r
theorem EVo.ev{R:Rp α}[Mono R]{m:Res (List α)}(h:EVo Er t σ W R m):EV Er t σ W (sh<|isL R) m:=fun W1 e1 Q k=>h W1 e1 Q (k.imp fun xs kx p W2 e2 hp o=>by
 obtain⟨W3,hH,e3,_,r,_⟩:=o.frz e2 hp;rw[<-hH];exact kx (.ref p) W3 e3 r)
theorem EVo.pk{R:Rp α}[Mono R]{m:Res (List α)}(h:EVo Er t σ W R m):EV Er t σ W (pk R) m:=fun W1 e1 Q k=>h W1 e1 Q<|k.imp fun xs kx p W2 e2 hp o=>kx (.ref p) W2 e2 o.pk
theorem EV.pk{R:Rp α}{m:Res (List α)}(h:EV Er t σ W (sh<|isL R) m):EV Er t σ W (pk R) m:=h.imp fun _ _ _ r=>pk.of r
theorem bB{R:Rw α}[MonoW R]{i:Nat}{v:V}{a:α}(r:R W a v)(h:σ[i]? =some (some v):=by rfl):EV Er (bf i) σ W R (.ok a):=fun W1 e1 Q k=>⟨v,h,k v W1 (.refl _)<|MonoW.mono e1 r⟩
theorem xG{R:Rp α}[Mono R]{i:Nat}{p:Addr}{a:List α}(r:Ow R W p a)(h:σ[i]? =some (some<|.ref p):=by rfl):EV Er (bf i) σ W (pk R) (.ok a):=bB r.pk h
def isB:Rp Bool:=fun _ b v=>v=.bl b
instance zkeep10:Mono isB:=⟨fun _ h=>h⟩
def isN:Rp Unit:=fun _ _ v=>v=.non
instance zkeep11:Mono isN:=⟨fun _ h=>h⟩
def isO(R:Rp α):Rp (Option α):=fun H o v=>match o with|none=>v=.non|some a=>R H a v/\v≠.non
instance zkeep12{R:Rp α}[Mono R]:Mono (isO R):=⟨fun{H H' m v}e h=>by
 cases m with
 |none=>exact h
 |some a=>exact⟨EG e h.1,h.2⟩⟩
theorem ag{i:Int}:EV Er (tC<|.int i) σ W (sh isI) (.ok i):=fun W1 _ Q k=>k _ W1 (.refl _) rfl
theorem aw{x:Str}{l:Tx}(h:x=sOf l):EV Er (tC<|.str x) σ W (sh isS) (.ok l):=fun W1 _ Q k=>k _ W1 (.refl _) (by rw[h];rfl)
theorem kY{b:Bool}:EV Er (tC<|.bl b) σ W (sh isB) (.ok b):=fun W1 _ Q k=>k _ W1 (.refl _) rfl
theorem zQ:EV Er (tC .non) σ W (sh isN) (.ok ()):=fun W1 _ Q k=>k _ W1 (.refl _) rfl
theorem nt{R:Rp α}:EV Er (tC .non) σ W (sh<|isO R) (.ok none):=fun W1 _ Q k=>k _ W1 (.refl _) rfl
theorem pH{r:R2}{Ra:Rw α}[MonoW Ra]{Rb:Rw β}{R:Rw γ}{ma:Res α}{mb:Res β}{f:α->β->Res γ}(ha:EV Er ta σ W Ra ma)(hb:EV Er tb σ W Rb mb)
  (h:∀W a b x y Q,Ra W a x->Rb W b y->(f a b).OkE Er (fun c=>∀v W2,Ext W W2->R W2 c v->Q v W2.H)->r x y W.H Q):EV Er (dU r ta tb) σ W R (ma.bind fun a=>mb.bind fun b=>f a b):=fun W1 e1 Q k=>by
 refine ha W1 e1 _<|(ED k).imp fun a ka x W2 e2 hx=>?_;refine hb W2 (e1.trans e2) _<|(ED ka).imp fun b kb y W3 e3 hy=>?_;exact h W3 a b x y Q (MonoW.mono e3 hx) hy<|kb.imp fun c kc v W4 e4 hv=>kc v W4 ((e2.trans e3).trans e4) hv
theorem DB{r:V->Hp->VK->Prop}{Ra:Rw α}{R:Rw γ}{ma:Res α}{f:α->Res γ}(ha:EV Er ta σ W Ra ma)
  (h:∀W a x Q,Ra W a x->(f a).OkE Er (fun c=>∀v W2,Ext W W2->R W2 c v->Q v W2.H)->r x W.H Q):EV Er (gw r ta) σ W R (ma.bind f):=fun W1 e1 Q k=>by
 refine ha W1 e1 _<|(ED k).imp fun a ka x W2 e2 hx=>?_;exact h W2 a x Q hx<|ka.imp fun c kc v W4 e4 hv=>kc v W4 (e2.trans e4) hv
section
variable{ma mb:Res Int}
theorem bC{g:Int->Int->Int}(ha:EV Er ta σ W (sh isI) ma)(hb:EV Er tb σ W (sh isI) mb):EV Er (dU (fL fun i j=>.int<|g i j) ta tb) σ W (sh isI) (ma.bind fun a=>mb.bind fun b=>.ok<|g a b):=
 pH ha hb fun W a b x y Q hx hy k=>by cases hx;cases hy;exact⟨a,b,rfl,rfl,k _ W (.refl _) rfl⟩
theorem uN{C:Int->Int->Prop}{g:Int->Int->Int}{f:Int->Int->Res Int}(hf:∀a b P,(f a b).OkE Er P->C a b/\P (g a b))(ha:EV Er ta σ W (sh isI) ma)(hb:EV Er tb σ W (sh isI) mb):
  EV Er (dU (rI C fun i j=>.int<|g i j) ta tb) σ W (sh isI) (ma.bind fun a=>mb.bind fun b=>f a b):=
 pH ha hb fun W a b x y Q hx hy k=>by cases hx;cases hy;exact⟨a,b,rfl,rfl,(hf a b _ k).1,(hf a b _ k).2 _ W (.refl _) rfl⟩
theorem pI(ha:EV Er ta σ W (sh isI) ma)(hb:EV Er tb σ W (sh isI) mb):EV Er (dU (rI CMul fun i j=>.int<|i*j) ta tb) σ W (sh isI) (ma.bind fun a=>mb.bind fun b=>oj a b):=uN (fun a b P h=>by unfold oj at h;obtain⟨h1,h2⟩:=aU h;exact⟨h1,h2⟩) ha hb
theorem xH(ha:EV Er ta σ W (sh isI) ma)(hb:EV Er tb σ W (sh isI) mb):EV Er (dU (rI AN fun i j=>.int<|i/j) ta tb) σ W (sh isI) (ma.bind fun a=>mb.bind fun b=>qH a b):=uN (fun a b P h=>by unfold qH at h;obtain⟨h1,h2⟩:=aU h;exact⟨h1,h2⟩) ha hb
theorem kZ(ha:EV Er ta σ W (sh isI) ma)(hb:EV Er tb σ W (sh isI) mb):EV Er (dU (rI (fun _ j=>0<j) fun i j=>.int<|i%j) ta tb) σ W (sh isI) (ma.bind fun a=>mb.bind fun b=>lE a b):=uN (fun a b P h=>by unfold lE at h;obtain⟨h1,h2⟩:=aU h;exact⟨h1,h2⟩) ha hb
theorem aE{C:Int->Int->Prop}{g:Int->Int->Int}{n:Int}(hn:∀a,C a n)(ha:EV Er ta σ W (sh isI) ma):EV Er (dU (rI C fun i j=>.int<|g i j) ta<|tC<|.int n) σ W (sh isI) (ma.bind fun a=>.ok<|g a n):=
 fun W1 e1 Q k=>ha W1 e1 _ ((ED k).imp fun a ka x W2 e2 hx=>by cases hx;exact⟨a,n,rfl,rfl,hn a,ka _ W2 e2 rfl⟩)
end
end
section
variable{α β γ δ:Type}{t ta tb tc:TE}{σ:St}{W W0 W':Wd}{K:EH}
theorem ju{n:Nat}(h:n<=cap):n<=sizeLine:=by rw[Gi];unfold cap at h;omega
section
variable{ma mb:Res Int}
theorem iK(ha:EV Er ta σ W (sh isI) ma):EV Er (gw (rU fun i=>.int<|-i) ta) σ W (sh isI) (ma.bind fun a=>.ok<|-a):=
 DB ha fun W a x Q hx k=>by cases hx;exact⟨a,rfl,k _ W (.refl _) rfl⟩
theorem eG{g:Int->Int->Bool}(ha:EV Er ta σ W (sh isI) ma)(hb:EV Er tb σ W (sh isI) mb):EV Er (dU (fL fun i j=>.bl<|g i j) ta tb) σ W (sh isB) (ma.bind fun a=>mb.bind fun b=>.ok<|g a b):=
 pH ha hb fun W a b x y Q hx hy k=>by cases hx;cases hy;exact⟨a,b,rfl,rfl,k _ W (.refl _) rfl⟩
end
theorem dI{a b:Int}:decide (Ir a=Ir b)=decide (a=b):=by rw[Gm];simp
theorem dS{a b:Tx}:decide (IK (sOf a)=IK (sOf b))=decide (a=b):=by
 rw[Gm,decide_eq_true_eq,decide_eq_true_eq];exact⟨fun h=>qE<|IK.inj h,fun h=>by rw[h]⟩
theorem dH{ma mb:Res Int}(ha:EV Er ta σ W (sh isI) ma)(hb:EV Er tb σ W (sh isI) mb):EV Er (dU gy ta tb) σ W (sh isB) (ma.bind fun a=>mb.bind fun b=>.ok<|decide<|a=b):=
 pH ha hb fun W a b x y Q hx hy k=>by cases hx;cases hy;exact⟨rfl,by rw[dI];exact k _ W (.refl _) rfl⟩
theorem fw{ma mb:Res Tx}(ha:EV Er ta σ W (sh isS) ma)(hb:EV Er tb σ W (sh isS) mb):EV Er (dU gy ta tb) σ W (sh isB) (ma.bind fun a=>mb.bind fun b=>.ok<|decide<|a=b):=
 pH ha hb fun W a b x y Q hx hy k=>by cases hx;cases hy;exact⟨rfl,by rw[dS];exact k _ W (.refl _) rfl⟩
theorem zR{ma mb:Res Int}(ha:EV Er ta σ W (sh isI) ma)(hb:EV Er tb σ W (sh isI) mb):EV Er (dU gE ta tb) σ W (sh isB) (ma.bind fun a=>mb.bind fun b=>.ok<|!decide (a=b)):=
 pH ha hb fun W a b x y Q hx hy k=>by cases hx;cases hy;exact⟨rfl,by rw[dI];exact k _ W (.refl _) rfl⟩
theorem xI{R:Rp α}{ma:Res (Option α)}(ha:EV Er ta σ W (sh<|isO R) ma):EV Er (dU (fun x y H Q=>y=.non/\Q (.bl<|!decide (x=.non)) H) ta<|tC .non) σ W (sh isB) (ma.bind fun a=>.ok a.isSome):=fun W1 e1 Q k=>
 ha W1 e1 _ ((ED k).imp fun a ka x W2 e2 hx=>⟨rfl,by
  have e:(!decide (x=V.non))=a.isSome:=by
   cases a with
   |none=>cases hx;rfl
   |some b=>rw[decide_eq_false hx.2];rfl
  rw[e];exact ka _ W2 e2 rfl⟩)
theorem aK{m:Res Bool}(h:EV Er t σ W (sh isB) m):TV Er (bR t) σ W m:=fun W1 e1 Q k=>h W1 e1 _<|k.imp fun b kb v W2 e2 hv=>⟨b,hv,kb W2 e2⟩
theorem jv{m:Res Bool}(h:EV Er t σ W (sh isB) m):TV Er (tB t) σ W m:=fun W1 e1 Q k=>h W1 e1 _<|k.imp fun b kb v W2 e2 hv=>⟨b,hv,kb W2 e2⟩
theorem fx{t:TT}{m:Res Bool}(h:TV Er t σ W m):TV Er (cZ t) σ W (m.bind fun b=>.ok<|!b):=fun W1 e1 Q k=>h W1 e1 _<|(ED k).imp fun b kb W2 e2=>kb W2 e2
theorem uO{t u:TT}{m n:Res Bool}(h:TV Er t σ W m)(g:TV Er u σ W n):TV Er (dw t u) σ W (m.bind fun b=>if b then n else .ok false):=fun W1 e1 Q k=>h W1 e1 _ ((ED k).imp fun b kb W2 e2=>by
 cases b with
 |true=>exact g W2 (e1.trans e2) _ (kb.imp fun c kc W3 e3=>kc W3<|e2.trans e3)
 |false=>exact kb W2 e2)
theorem om{t u:TT}{m n:Res Bool}(h:TV Er t σ W m)(g:TV Er u σ W n):TV Er (gC t u) σ W (m.bind fun b=>if b then .ok true else n):=fun W1 e1 Q k=>h W1 e1 _ ((ED k).imp fun b kb W2 e2=>by
 cases b with
 |true=>exact kb W2 e2
 |false=>exact g W2 (e1.trans e2) _ (kb.imp fun c kc W3 e3=>kc W3 (e2.trans e3)))
theorem zS{m n:Res Bool}(h:EV Er ta σ W (sh isB) m)(g:EV Er tb σ W (sh isB) n):EV Er (bP ta tb) σ W (sh isB) (m.bind fun b=>if b then n else .ok false):=fun W1 e1 Q k=>h W1 e1 _ ((ED k).imp fun b kb v W2 e2 hv=>⟨b,hv,by
 cases b with
 |true=>exact g W2 (e1.trans e2) _ (kb.imp fun c kc v W3 e3 hv=>kc v W3 (e2.trans e3) hv)
 |false=>exact kb _ W2 e2 rfl⟩)
theorem uP{m:Res Bool}(h:EV Er ta σ W (sh isB) m):EV Er (bQ ta) σ W (sh isB) (m.bind fun b=>.ok<|!b):=fun W1 e1 Q k=>h W1 e1 _<|(ED k).imp fun b kb v W2 e2 hv=>⟨b,hv,kb _ W2 e2 rfl⟩
theorem uQ{R:Rw α}{c:TT}{mc:Res Bool}{m n:Res α}(hc:TV Er c σ W mc)(h:EV Er ta σ W R m)(g:EV Er tb σ W R n):EV Er (gD c ta tb) σ W R (mc.bind fun b=>if b then m else n):=fun W1 e1 Q k=>hc W1 e1 _ ((ED k).imp fun b kb W2 e2=>by
 cases b with
 |true=>exact h W2 (e1.trans e2) _ (kb.imp fun c kc v W3 e3 hv=>kc v W3 (e2.trans e3) hv)
 |false=>exact g W2 (e1.trans e2) _ (kb.imp fun c kc v W3 e3 hv=>kc v W3 (e2.trans e3) hv))
theorem cC{ma mb:Res Tx}(ha:EV Er ta σ W (sh isS) ma)(hb:EV Er tb σ W (sh isS) mb):EV Er (dU (fun x y H Q=>∃i j,x=.str i/\y=.str j/\i.length+j.length<=sizeLine/\Q (.str<|i++j) H) ta tb) σ W (sh isS) (ma.bind fun a=>mb.bind fun b=>ee a b):=
 pH ha hb fun W a b x y Q hx hy k=>by
  cases hx;cases hy;obtain⟨h1,h2⟩:=aU k;exact⟨_,_,rfl,rfl,by rw[df,df];exact ju h1,by rw[gr];exact h2 _ W (.refl _) rfl⟩
theorem qJ{ma:Res Tx}{mb:Res Int}(ha:EV Er ta σ W (sh isS) ma)(hb:EV Er tb σ W (sh isI) mb):EV Er (dU (fun x y H Q=>∃c n,x=.str (sOf [c])/\y=.int n/\0<=n/\n<=100000/\Q (.str<|sOf<|Fg n.toNat c) H) ta tb) σ W (sh isS) (ma.bind fun a=>mb.bind fun b=>xD a b):=
 pH ha hb fun W a b x y Q hx hy k=>by
  cases hx;cases hy
  match a,k with
  | [c],k=>
   obtain⟨h1,h2⟩:=aU k;exact⟨c,b,rfl,rfl,h1.1,h1.2,h2 _ W (.refl _) rfl⟩
theorem cU{ma:Res Tx}{mb:Res Int}(ha:EV Er ta σ W (sh isS) ma)(hb:EV Er tb σ W (sh isI) mb):EV Er (dU dz ta tb) σ W (sh isS) (ma.bind fun a=>mb.bind fun b=>iJ a b):=
 pH ha hb fun W a b x y Q hx hy k=>by
  cases hx;cases hy;obtain⟨h1,h2⟩:=aU<|ED k;obtain⟨c,h3,h4⟩:=dN<|ED h2;exact⟨_,b,c,rfl,rfl,by rw[df];exact ju h1,by rw[k4];exact h3,h4 _ W (.refl _) rfl⟩
theorem B8{R:Rw α}{r:V->Option Int->Option Int->Hp->VK->Prop}{Ra:Rw β}[MonoW Ra]{ma:Res β}{tl th:TO}{ml mh:Res (Option Int)}{f:β->Option Int->Option Int->Res α}(ha:EV Er ta σ W Ra ma)
  (hl:∀W1,Ext W W1->∀Q:Option Int->Hp->Prop,ml.OkE Er (fun o=>∀W2,Ext W1 W2->Q o W2.H)->tl σ W1.H Q) (hh:∀W1,Ext W W1->∀Q:Option Int->Hp->Prop,mh.OkE Er (fun o=>∀W2,Ext W1 W2->Q o W2.H)->th σ W1.H Q)
  (h:∀W a x lo hi Q,Ra W a x->(f a lo hi).OkE Er (fun c=>∀v W2,Ext W W2->R W2 c v->Q v W2.H)->r x lo hi W.H Q):EV Er (gq r ta tl th) σ W R (ma.bind fun a=>ml.bind fun lo=>mh.bind fun hi=>f a lo hi):=fun W1 e1 Q k=>
 ha W1 e1 _ ((ED k).imp fun a ka x W2 e2 hx=>hl W2 (e1.trans e2) _ ((ED ka).imp fun lo kl W3 e3=>hh W3 ((e1.trans e2).trans e3) _ ((ED kl).imp fun hi kh W4 e4=>
  h W4 a x lo hi Q (MonoW.mono (e3.trans e4) hx) (kh.imp fun c kc v W5 e5 hv=>kc v W5 (((e2.trans e3).trans e4).trans e5) hv))))
theorem fN:∀W1,Ext W W1->∀Q:Option Int->Hp->Prop,(EK (none:Option Int)).OkE Er (fun o=>∀W2,Ext W1 W2->Q o W2.H)->aQ σ W1.H Q:=fun W1 _ Q k=>k W1<|.refl _
theorem eg{m:Res Int}(h:EV Er t σ W (sh isI) m):∀W1,Ext W W1->∀Q:Option Int->Hp->Prop,(m.bind fun i=>.ok<|some i).OkE Er (fun o=>∀W2,Ext W1 W2->Q o W2.H)->bS t σ W1.H Q:=fun W1 e1 Q k=>
 h W1 e1 _ ((ED k).imp fun i ki v W2 e2 hv=>⟨i,hv,ki W2 e2⟩)
theorem dE{ma:Res Tx}{tl th:TO}{ml mh:Res (Option Int)}(ha:EV Er ta σ W (sh isS) ma)
  (hl:∀W1,Ext W W1->∀Q:Option Int->Hp->Prop,ml.OkE Er (fun o=>∀W2,Ext W1 W2->Q o W2.H)->tl σ W1.H Q) (hh:∀W1,Ext W W1->∀Q:Option Int->Hp->Prop,mh.OkE Er (fun o=>∀W2,Ext W1 W2->Q o W2.H)->th σ W1.H Q):
  EV Er (gq (fun x lo hi H Q=>∃l,x=.str (sOf l)/\l.length<=sizeLine/\Q (.str<|sOf<|jT l lo hi) H) ta tl th) σ W (sh isS) (ma.bind fun a=>ml.bind fun lo=>mh.bind fun hi=>iC a lo hi):=
 B8 ha hl hh fun W a x lo hi Q hx k=>by
  cases hx;obtain⟨h1,h2⟩:=aU k;exact⟨a,rfl,ju h1,h2 _ W (.refl _) rfl⟩
theorem B9(x:Tx)(c j:Nat)(h:uL x c=some j):JI (sOf x) (sOf [c])=(j:Int):=by
 unfold uL at h;rw[List.findIdx?_eq_some_iff_getElem]at h;obtain⟨hj,h1,h2⟩:=h;have hat:∀i,StrLaws.At (sOf x) (sOf [c]) (sOf x).length i↔x[i]? =some c:=fun i=>by
  have:=StrLaws.subAt_one (sOf x) c i;rw[k4]at this;exact this
 unfold JI;rcases StrLaws.occ_head (sOf x) (sOf [c]) 1 (Fb _)with⟨_,hn⟩|⟨i,r,e,hi,hk⟩
 ·exact absurd ((hat j).mpr (by rw[FQ hj];simpa using h1))<|hn j
 ·rw[e];have e2:=(hat i).mp hi;obtain⟨hil,e3⟩:=ER.mp e2;have:i=j:=by
   rcases Nat.lt_trichotomy i j with z|z|z;·exact absurd e3 (by simpa using h2 i z)
   ·exact z
   ·exact absurd ((hat j).mpr (by rw[FQ hj];simpa using h1))<|hk j z
  rw[this]
theorem qK{ma mb:Res Tx}{K:EH}(ha:EV Er ta σ W (sh isS) ma)(hb:EV Er tb σ W (sh isS) mb):EV Er (ff K "str" (fun x xs H Q=>∃a b,x=.str a/\xs=[.str b]/\0<=JI a b/\Q (.int<|JI a b) H) ta<|ai tb aO) σ W (sh isI) (ma.bind fun a=>mb.bind fun b=>xE a b):=fun W1 e1 Q k=>
 ha W1 e1 _ ((ED k).imp fun a ka x W2 e2 hx=>by
  cases hx;refine⟨rfl,hb W2 (e1.trans e2) _<|(ED ka).imp fun b kb y W3 e3 hy=>?_⟩;cases hy
  match b,kb with
  | [c],kb=>
   obtain⟨j,h1,h2⟩:=dN (ED kb);have e:=B9 a c j h1;exact⟨_,_,rfl,rfl,by rw[e];omega,by rw[e];exact h2 _ W3 (e2.trans e3) rfl⟩)
theorem zT{ma mb:Res Tx}(ha:EV Er ta σ W (sh isS) ma)(hb:EV Er tb σ W (sh isS) mb):EV Er (dU (fun x y H Q=>∃i j,x=.str i/\y=.str j/\Q (.bl<|!(GV j i 0 j.length 1).isEmpty) H) ta tb) σ W (sh isB) (ma.bind fun a=>mb.bind fun b=>B7 a b):=
 pH ha hb fun W a b x y Q hx hy k=>by
  cases hx;cases hy
  match a,k with
  | [c],k=>
   refine⟨_,_,rfl,rfl,?_⟩;have e:(!(GV (sOf b) (sOf [c]) 0 (sOf b).length 1).isEmpty)=b.contains c:=by
    have:=LO (sOf b) c;rw[k4]at this;rw[this,Gm];simp
   rw[e];exact k _ W (.refl _) rfl
theorem su{ma mb:Res Tx}(ha:EV Er ta σ W (sh isS) ma)(hb:EV Er tb σ W (sh isS) mb):EV Er (dU (fun x y H Q=>∃i j,x=.str i/\y=.str j/\Q (.bl<|!(!(GV j i 0 j.length 1).isEmpty)) H) ta tb) σ W (sh isB) (ma.bind fun a=>mb.bind fun b=>(B7 a b).bind fun c=>.ok<|!c):=
 pH ha hb fun W a b x y Q hx hy k=>by
  cases hx;cases hy
  match a,k with
  | [c],k=>
   refine⟨_,_,rfl,rfl,?_⟩;have e:(!(GV (sOf b) (sOf [c]) 0 (sOf b).length 1).isEmpty)=b.contains c:=by
    have:=LO (sOf b) c;rw[k4]at this;rw[this,Gm];simp
   rw[e];exact k _ W (.refl _) rfl
theorem Same.tup{H H':Hp}{a:Addr}{xs:List V}(e:Same H H')(h:SqT K H a xs):SqT K H' a xs:=by
 rcases h with(h|⟨o,h⟩)|h;·exact .inl<|.inl<|e _ _ h
 ·exact .inl<|.inr ⟨o,e _ _ h⟩
 ·exact .inr h
def isT2(K:EH)(R1:Rp α)(R2:Rp β):Rp (α×β):=fun H a v=>∃p x y,v=.ref p/\SqT K H p [x,y]/\R1 H a.1 x/\R2 H a.2 y
def isT3(K:EH)(R1:Rp α)(R2:Rp β)(R3:Rp γ):Rp (α×β×γ):=fun H a v=>∃p x y z,v=.ref p/\SqT K H p [x,y,z]/\R1 H a.1 x/\R2 H a.2.1 y/\R3 H a.2.2 z
def isT4(K:EH)(R1:Rp α)(R2:Rp β)(R3:Rp γ)(R4:Rp δ):Rp (α×β×γ×δ):=fun H a v=>∃p x y z u,v=.ref p/\SqT K H p [x,y,z,u]/\R1 H a.1 x/\R2 H a.2.1 y/\R3 H a.2.2.1 z/\R4 H a.2.2.2 u
instance zkeep14{R1:Rp α}{R2:Rp β}[Mono R1][Mono R2]:Mono (isT2 K R1 R2):=⟨fun e⟨p,x,y,h0,h,h1,h2⟩=>⟨p,x,y,h0,Same.tup e h,EG e h1,EG e h2⟩⟩
instance zkeep15{R1:Rp α}{R2:Rp β}{R3:Rp γ}[Mono R1][Mono R2][Mono R3]:Mono (isT3 K R1 R2 R3):=⟨fun e⟨p,x,y,z,h0,h,h1,h2,h3⟩=>⟨p,x,y,z,h0,Same.tup e h,EG e h1,EG e h2,EG e h3⟩⟩
instance zkeep16{R1:Rp α}{R2:Rp β}{R3:Rp γ}{R4:Rp δ}[Mono R1][Mono R2][Mono R3][Mono R4]:Mono (isT4 K R1 R2 R3 R4):=⟨fun e⟨p,x,y,z,u,h0,h,h1,h2,h3,h4⟩=>⟨p,x,y,z,u,h0,Same.tup e h,EG e h1,EG e h2,EG e h3,EG e h4⟩⟩
theorem aX{R1:Rp α}{R2:Rp β}[Mono R1][Mono R2]{ma:Res α}{mb:Res β}(ha:EV Er ta σ W (sh R1) ma)(hb:EV Er tb σ W (sh R2) mb):EV Er (cS<|ai ta<|ai tb aO) σ W (sh<|isT2 K R1 R2) (ma.bind fun a=>mb.bind fun b=>.ok (a,b)):=fun W1 e1 Q k=>
 ha W1 e1 _ ((ED k).imp fun a ka x W2 e2 hx=>hb W2 (e1.trans e2) _ ((ED ka).imp fun b kb y W3 e3 hy=>⟨(by show 2<=sizeLine;decide),fun p hp=>
  kb (.ref p) (W3.new p (.tup [x,y])) ((e2.trans e3).trans (.new _ hp)) ⟨p,x,y,rfl,M4 aq,EG (Ext.new _ hp).g (EG (R:=R1) e3.g hx),EG (R:=R2) (Ext.new _ hp).g hy⟩⟩))
theorem fO{R1:Rp α}{R2:Rp β}{R3:Rp γ}[Mono R1][Mono R2][Mono R3]{ma:Res α}{mb:Res β}{mc:Res γ}(ha:EV Er ta σ W (sh R1) ma)(hb:EV Er tb σ W (sh R2) mb)(hc:EV Er tc σ W (sh R3) mc):
  EV Er (cS<|ai ta<|ai tb<|ai tc aO) σ W (sh<|isT3 K R1 R2 R3) (ma.bind fun a=>mb.bind fun b=>mc.bind fun c=>.ok (a,b,c)):=fun W1 e1 Q k=>
 ha W1 e1 _ ((ED k).imp fun a ka x W2 e2 hx=>hb W2 (e1.trans e2) _ ((ED ka).imp fun b kb y W3 e3 hy=>hc W3 ((e1.trans e2).trans e3) _ ((ED kb).imp fun c kc z W4 e4 hz=>⟨(by show 3<=sizeLine;decide),fun p hp=>
  kc (.ref p) (W4.new p (.tup [x,y,z])) (((e2.trans e3).trans e4).trans (.new _ hp)) ⟨p,x,y,z,rfl,M4 aq,EG (Ext.new _ hp).g (EG (R:=R1) (e3.trans e4).g hx),EG (R:=R2) (Ext.new _ hp).g (EG (R:=R2) e4.g hy),EG (R:=R3) (Ext.new _ hp).g hz⟩⟩)))
theorem bx{R:Rp α}{Rt:Rp β}{m:Res β}{i:Int}{f:β->α}(h:∀H b v,Rt H b v->∃p xs x,v=.ref p/\SqT K H p xs/\L2.atI xs i=some x/\R H (f b) x)(ha:EV Er ta σ W (sh Rt) m):EV Er (dU (d6 K) ta<|tC<|.int i) σ W (sh R) (m.bind fun b=>.ok<|f b):=fun W1 e1 Q k=>
 ha W1 e1 _ ((ED k).imp fun b kb v W2 e2 hv=>by
  obtain⟨p,xs,x,h1,h2,h3,h4⟩:=h _ _ _ hv;exact⟨p,xs,i,x,h1,rfl,Same.tup W2.ok h2,h3,kb _ W2 e2 h4⟩)
theorem xJ{R1:Rp α}{R2:Rp β}:∀H b v,isT2 K R1 R2 H b v->∃p xs x,v=.ref p/\SqT K H p xs/\L2.atI xs 0=some x/\R1 H b.1 x:=fun _ _ _⟨p,x,y,h0,h,h1,h2⟩=>⟨p,_,x,h0,h,rfl,h1⟩
theorem sv{R1:Rp α}{R2:Rp β}:∀H b v,isT2 K R1 R2 H b v->∃p xs x,v=.ref p/\SqT K H p xs/\L2.atI xs 1=some x/\R2 H b.2 x:=fun _ _ _⟨p,x,y,h0,h,h1,h2⟩=>⟨p,_,y,h0,h,rfl,h2⟩
theorem xK{R1:Rp α}{R2:Rp β}{R3:Rp γ}:∀H b v,isT3 K R1 R2 R3 H b v->∃p xs x,v=.ref p/\SqT K H p xs/\L2.atI xs 0=some x/\R1 H b.1 x:=fun _ _ _⟨p,x,y,z,h0,h,h1,h2,h3⟩=>⟨p,_,x,h0,h,rfl,h1⟩
theorem pJ{R1:Rp α}{R2:Rp β}{R3:Rp γ}:∀H b v,isT3 K R1 R2 R3 H b v->∃p xs x,v=.ref p/\SqT K H p xs/\L2.atI xs 1=some x/\R2 H b.2.1 x:=fun _ _ _⟨p,x,y,z,h0,h,h1,h2,h3⟩=>⟨p,_,y,h0,h,rfl,h2⟩
theorem xM{R1:Rp α}{R2:Rp β}{R3:Rp γ}:∀H b v,isT3 K R1 R2 R3 H b v->∃p xs x,v=.ref p/\SqT K H p xs/\L2.atI xs 2=some x/\R3 H b.2.2 x:=fun _ _ _⟨p,x,y,z,h0,h,h1,h2,h3⟩=>⟨p,_,z,h0,h,rfl,h3⟩
theorem nu{R:Rp α}{H:Hp}{as:List α}{xs:List V}(h:LR R H as xs){i:Int}{a:α}(e:sq as i=some a):∃x,L2.atI xs i=some x/\R H a x:=by
 unfold sq at e;unfold L2.atI;rw[h.1];cases z:Mi.ixN as.length i with
 |none=>rw[z]at e;cases e
 |some j=>
  rw[z]at e;obtain⟨x,h1,h2⟩:=h.get (i:=j) e;exact⟨x,by show(L2.ixN as.length i).bind _=_;rw[show L2.ixN as.length i=Mi.ixN as.length i from rfl,z];exact h1,h2⟩
theorem eV{R:Rp α}[Mono R]{ma:Res (List α)}{mb:Res Int}(ha:EV Er ta σ W (pk R) ma)(hb:EV Er tb σ W (sh isI) mb):EV Er (dU (cY K) ta tb) σ W (sh R) (ma.bind fun a=>mb.bind fun b=>gz a b):=
 pH ha hb fun W a b x y Q hx hy k=>by
  cases hy;obtain⟨p,vs,rfl,h,h1⟩:=hx;obtain⟨c,h4,h5⟩:=dN k;obtain⟨z,h6,h7⟩:=nu h1 h4;exact⟨p,_,b,z,rfl,rfl,GR h,h6,h5 _ W (.refl _) h7⟩
theorem qL{R:Rp α}:EVo Er (cX aO) σ W R (.ok []):=fun W1 e1 Q k=>⟨by decide,fun p hp=>k p (W1.mut p (.lst [])<|W1.gnone hp) (.own _ hp) hp ⟨W1.gnone hp,[],aq,.nil⟩⟩
def AV(Er:Nat->Prop)(t:TA)(σ:St)(W:Wd)(R:Rp α)(n:Nat)(m:Res (List α)):Prop:=∀W1,Ext W W1->∀Q:List V->Hp->Prop,m.OkE Er (fun as=>∀vs W2,Ext W1 W2->vs.length=n->LR R W2.G as vs->Q vs W2.H)->t σ W1.H Q
theorem dh{R:Rp α}:AV Er aO σ W R 0 (.ok []):=fun W1 _ Q k=>k [] W1 (.refl _) rfl .nil
theorem LR.cons{R:Rp α}{H:Hp}{a:α}{v:V}{as:List α}{vs:List V}(h:R H a v)(r:LR R H as vs):LR R H (a::as) (v::vs):=⟨by simp[r.1],fun i x m e1 e2=>by
 cases i with
 |zero=>cases e1;cases e2;exact h
 |succ j=>exact r.2 j x m e1 e2⟩
theorem bc{R:Rp α}[Mono R]{n:Nat}{ts:TA}{m:Res α}{ms:Res (List α)}(h:EV Er t σ W (sh R) m)(g:AV Er ts σ W R n ms):AV Er (ai t ts) σ W R (n+1) (m.bind fun a=>ms.bind fun as=>.ok (a::as)):=fun W1 e1 Q k=>
 h W1 e1 _ ((ED k).imp fun a ka v W2 e2 hv=>g W2 (e1.trans e2) _ ((ED ka).imp fun as kas vs W3 e3 hn hvs=>kas (v::vs) W3 (e2.trans e3) (by simp[hn])<|.cons (EG (R:=R) e3.g hv) hvs))
theorem di{R:Rp α}[Mono R]{n:Nat}{ts:TA}{ms:Res (List α)}(g:AV Er ts σ W R n ms)(hn:n<=cap:=by decide):EVo Er (cX ts) σ W R ms:=fun W1 e1 Q k=>
 g W1 e1 _ (k.imp fun as ka vs W2 e2 hv hvs=>⟨by rw[hv];exact ju hn,fun p hp=>ka p (W2.mut p (.lst vs)<|W2.gnone hp) (e2.trans<|.own _ hp) (none_of e2.h hp) ⟨W2.gnone hp,vs,aq,hvs⟩⟩)
theorem fP{R:Rp α}[Mono R]{ma mb:Res (List α)}(ha:EV Er ta σ W (pk R) ma)(hb:EV Er tb σ W (pk R) mb):EVo Er (dU dA ta tb) σ W R (ma.bind fun a=>mb.bind fun b=>zP a b):=fun W1 e1 Q k=>
 ha W1 e1 _ ((ED k).imp fun a ka x W2 e2 hx=>hb W2 (e1.trans e2) _ ((ED ka).imp fun b kb y W3 e3 hy=>by
  obtain⟨p,vs,rfl,h1,h2⟩:=MonoW.mono e3 hx;obtain⟨q,us,rfl,h3,h4⟩:=hy;obtain⟨h5,h6⟩:=aU kb;refine⟨p,q,vs,us,rfl,rfl,h1,h3,by rw[h2.1,h4.1];exact ju h5,fun r hr=>h6 r (W3.mut r (.lst<|vs++us)<|W3.gnone hr) ((e2.trans e3).trans (.own _ hr)) (none_of (e2.trans e3).h hr) ⟨W3.gnone hr,_,aq,?_⟩⟩;exact⟨by rw[Fn,Fn,h2.1,h4.1],fun i v m q1 q2=>by
   by_cases hi:i<vs.length
   ·rw[FP hi]at q1;rw[FP (by rw[<-h2.1];exact hi)]at q2;exact h2.2 i v m q1 q2
   ·rw[FI (by omega)]at q1;rw[FI (by rw[<-h2.1];omega)]at q2;rw[<-h2.1]at q2;exact h4.2 _ v m q1 q2⟩))
theorem LR.cut{R:Rp α}{H:Hp}{as:List α}{vs:List V}(h:LR R H as vs)(lo hi:Option Int):LR R H (Mi.cut as lo hi) (pC vs lo hi):=by
 unfold Mi.cut pC;rw[h.1];exact(h.drop _).take _
theorem nv{R:Rp α}[Mono R]{ma:Res (List α)}{tl th:TO}{ml mh:Res (Option Int)}(ha:EV Er ta σ W (pk R) ma)
  (hl:∀W1,Ext W W1->∀Q:Option Int->Hp->Prop,ml.OkE Er (fun o=>∀W2,Ext W1 W2->Q o W2.H)->tl σ W1.H Q) (hh:∀W1,Ext W W1->∀Q:Option Int->Hp->Prop,mh.OkE Er (fun o=>∀W2,Ext W1 W2->Q o W2.H)->th σ W1.H Q):
  EVo Er (gq (dn K) ta tl th) σ W R (ma.bind fun a=>ml.bind fun lo=>mh.bind fun hi=>.ok<|Mi.cut a lo hi):=fun W1 e1 Q k=>
 ha W1 e1 _ ((ED k).imp fun a ka x W2 e2 hx=>hl W2 (e1.trans e2) _ ((ED ka).imp fun lo kl W3 e3=>hh W3 ((e1.trans e2).trans e3) _ ((ED kl).imp fun hi kh W4 e4=>by
  obtain⟨p,vs,rfl,h1,h2⟩:=MonoW.mono (e3.trans e4) hx;have e5:=(e2.trans e3).trans e4;exact⟨p,vs,rfl,GR h1,fun r hr=>kh r (W4.mut r (.lst (pC vs lo hi)) (W4.gnone hr)) (e5.trans (.own _ hr)) (none_of e5.h hr) ⟨W4.gnone hr,_,aq,h2.cut lo hi⟩⟩)))
theorem l0{ma:Res Int}(ha:EV Er ta σ W (sh isI) ma):EV Er (fb (fun xs H Q=>∃i,xs=[.int i]/\Q (.int (if i<0 then -i else i)) H)<|ai ta aO) σ W (sh isI) (ma.bind fun a=>.ok<|dX a):=fun W1 e1 Q k=>
 ha W1 e1 _ ((ED k).imp fun a ka x W2 e2 hx=>by cases hx;exact⟨a,rfl,ka _ W2 e2 rfl⟩)
theorem eY{R:Rp α}{ma:Res (List α)}(ha:EV Er ta σ W (pk R) ma):EV Er (fb (fun xs H Q=>∃x n,xs=[x]/\nS K x H n/\Q (.int n) H)<|ai ta aO) σ W (sh isI) (ma.bind fun a=>.ok (a.length:Int)):=fun W1 e1 Q k=>
 ha W1 e1 _ ((ED k).imp fun a ka x W2 e2 hx=>by
  obtain⟨p,vs,rfl,h1,h2⟩:=hx;exact⟨_,a.length,rfl,.inl ⟨vs,GR h1,h2.1.symm⟩,ka _ W2 e2 rfl⟩)
theorem ny{ma:Res Tx}(ha:EV Er ta σ W (sh isS) ma):EV Er (fb (fun xs H Q=>∃x n,xs=[x]/\nS K x H n/\Q (.int n) H)<|ai ta aO) σ W (sh isI) (ma.bind fun a=>sr a):=fun W1 e1 Q k=>
 ha W1 e1 _ ((ED k).imp fun a ka x W2 e2 hx=>by
  cases hx;obtain⟨h1,h2⟩:=aU ka;exact⟨_,a.length,rfl,⟨by rw[df];exact ju h1,by rw[df]⟩,h2 _ W2 e2 rfl⟩)
theorem xN{ma:Res (List Tx)}{x:Str}(hx:x=sOf [])(ha:EV Er ta σ W (pk isS) ma):EV Er (ff K "str" (fun x xs H Q=>∃(p:Addr)(ys:List (List Nat)),x=.str (sOf [])/\xs=[.ref p]/\SqL K H p (ys.map fun y=>IK<|sOf y)/\ys.flatten.length<=100000/\Q (.str<|sOf ys.flatten) H) (tC<|.str x)<|ai ta aO) σ W (sh isS) (ma.bind fun a=>uM a):=fun W1 e1 Q k=>
 ⟨by show C9 K "str" (.str x) W1.H;rfl,ha W1 e1 _ ((ED k).imp fun a ka v W2 e2 hv=>by
  obtain⟨p,vs,rfl,h1,h2⟩:=hv;obtain⟨h3,h4⟩:=aU ka;exact⟨p,a,by rw[hx],rfl,GR (by rw[h1,h2.str]),h3,h4 _ W2 e2 rfl⟩)⟩
end
abbrev Rt(β:Type):=Wd->β->VK->Prop
def rs{β:Type}(R:Rp β):Rt β:=fun W r Q=>∀u W',Ext W W'->R W'.G r u->Q u W'.H
def ro{β:Type}(R:Rp β):Rt (List β):=fun W r Q=>∀p W',Ext W W'->W.H p=none->Ow R W' p r->Q (.ref p) W'.H
section
variable{α β γ δ ε ζ:Type}
def dO(R1:Rp α)(rt:Rt β)(m:α->Res β):Sp:=fun vs H Q _=>∃(W:Wd)(a:α)(v:V),W.H=H/\vs=[v]/\R1 W.G a v/\∃Er:Nat->Prop,(m a).OkE Er fun r=>rt W r Q
def bU(R1:Rp α)(R2:Rp γ)(rt:Rt β)(m:α->γ->Res β):Sp:=fun vs H Q _=>∃(W:Wd)(a:α)(b:γ)(v u:V),W.H=H/\vs=[v,u]/\R1 W.G a v/\R2 W.G b u/\∃Er:Nat->Prop,(m a b).OkE Er fun r=>rt W r Q
def jw(R1:Rp α)(R2:Rp γ)(R3:Rp δ)(rt:Rt β)(m:α->γ->δ->Res β):Sp:=fun vs H Q _=>∃(W:Wd)(a:α)(b:γ)(c:δ)(v u w:V),W.H=H/\vs=[v,u,w]/\R1 W.G a v/\R2 W.G b u/\R3 W.G c w/\∃Er:Nat->Prop,(m a b c).OkE Er fun r=>rt W r Q
variable{t t1 t2 t3 t4 t5:TE}{σ:St}{W W0 W':Wd}{K:EH}
section
variable{R1:Rp α}{R2:Rp γ}{R3:Rp δ}{R4:Rp ε}{R5:Rp ζ}[Mono R1][Mono R2][Mono R3][Mono R4][Mono R5]{m1:Res α}{m2:Res γ}{m3:Res δ}{m4:Res ε}{m5:Res ζ}{E:XK}
theorem dt{R:Rp β}{m:α->Res β}(h1:EV Er t1 σ W (sh R1) m1):EV Er (aR (dO R1 (rs R) m) [] E<|ai t1 aO) σ W (sh R) (m1.bind fun a=>m a):=fun W1 e1 Q k=>
 h1 W1 e1 _ ((ED k).imp fun a ka v W2 e2 hv=>⟨W2,a,v,rfl,rfl,hv,Er,ka.imp fun r kr u W' e hu=>kr u W' (e2.trans e) hu⟩)
theorem bE{R:Rp β}{m:α->γ->Res β}(h1:EV Er t1 σ W (sh R1) m1)(h2:EV Er t2 σ W (sh R2) m2):EV Er (aR (bU R1 R2 (rs R) m) [] E<|ai t1<|ai t2 aO) σ W (sh R) (m1.bind fun a=>m2.bind fun b=>m a b):=fun W1 e1 Q k=>
 h1 W1 e1 _ ((ED k).imp fun a ka v W2 e2 hv=>h2 W2 (e1.trans e2) _<|(ED ka).imp fun b kb u W3 e3 hu=>⟨W3,a,b,v,u,rfl,rfl,MonoW.mono (R:=sh R1) e3 hv,hu,Er,kb.imp fun r kr u W' e hu=>kr u W' ((e2.trans e3).trans e) hu⟩)
theorem mq{R:Rp β}{m:α->γ->Res (List β)}(h1:EV Er t1 σ W (sh R1) m1)(h2:EV Er t2 σ W (sh R2) m2):EVo Er (aR (bU R1 R2 (ro R) m) [] E<|ai t1<|ai t2 aO) σ W R (m1.bind fun a=>m2.bind fun b=>m a b):=fun W1 e1 Q k=>
 h1 W1 e1 _ ((ED k).imp fun a ka v W2 e2 hv=>h2 W2 (e1.trans e2) _<|(ED ka).imp fun b kb u W3 e3 hu=>⟨W3,a,b,v,u,rfl,rfl,MonoW.mono (R:=sh R1) e3 hv,hu,Er,kb.imp fun r kr p W' e hp o=>kr p W' ((e2.trans e3).trans e) (none_of (e2.trans e3).h hp) o⟩)
theorem uR{R:Rp β}{m:α->γ->δ->Res β}(h1:EV Er t1 σ W (sh R1) m1)(h2:EV Er t2 σ W (sh R2) m2)(h3:EV Er t3 σ W (sh R3) m3):EV Er (aR (jw R1 R2 R3 (rs R) m) [] E<|ai t1<|ai t2<|ai t3 aO) σ W (sh R) (m1.bind fun a=>m2.bind fun b=>m3.bind fun c=>m a b c):=fun W1 e1 Q k=>
 h1 W1 e1 _ ((ED k).imp fun a ka v W2 e2 hv=>h2 W2 (e1.trans e2) _ ((ED ka).imp fun b kb u W3 e3 hu=>h3 W3 ((e1.trans e2).trans e3) _ ((ED kb).imp fun c kc w W4 e4 hw=>
  ⟨W4,a,b,c,v,u,w,rfl,rfl,MonoW.mono (R:=sh R1) (e3.trans e4) hv,MonoW.mono (R:=sh R2) e4 hu,hw,Er,kc.imp fun r kr u W' e hu=>kr u W' (((e2.trans e3).trans e4).trans e) hu⟩)))
theorem fZ{R:Rp β}{m:α->γ->δ->Res (List β)}(h1:EV Er t1 σ W (sh R1) m1)(h2:EV Er t2 σ W (sh R2) m2)(h3:EV Er t3 σ W (sh R3) m3):EVo Er (aR (jw R1 R2 R3 (ro R) m) [] E<|ai t1<|ai t2<|ai t3 aO) σ W R (m1.bind fun a=>m2.bind fun b=>m3.bind fun c=>m a b c):=fun W1 e1 Q k=>
 h1 W1 e1 _ ((ED k).imp fun a ka v W2 e2 hv=>h2 W2 (e1.trans e2) _ ((ED ka).imp fun b kb u W3 e3 hu=>h3 W3 ((e1.trans e2).trans e3) _ ((ED kb).imp fun c kc w W4 e4 hw=>
  ⟨W4,a,b,c,v,u,w,rfl,rfl,MonoW.mono (R:=sh R1) (e3.trans e4) hv,MonoW.mono (R:=sh R2) e4 hu,hw,Er,kc.imp fun r kr p W' e hp o=>kr p W' (((e2.trans e3).trans e4).trans e) (none_of ((e2.trans e3).trans e4).h hp) o⟩)))
end
def Yl(J:It)(W:Wd)(R:Rp α)(xs:List α):Prop:=∀W1:Wd,Same W.G W1.G->(∀(i:Nat)(a:α),xs[i]? =some a->J.go i W1.H/\∀x H',J.yld i W1.H x H'->∃W2:Wd,W2.H=H'/\Ext W1 W2/\R W2.G a x)/\J.stop xs.length W1.H
def IV(Er:Nat->Prop)(wi:TI)(σ:St)(W:Wd)(R:Rp α)(m:Res (List α)):Prop:=∀W1,Ext W W1->∀P:It->Hp->Prop,m.OkE Er (fun xs=>∀J W2,Ext W1 W2->Yl J W2 R xs->P J W2.H)->wi σ W1.H P
theorem eZ{R:Rp α}[Mono R]{m:Res (List α)}(h:EV Er t σ W (sh<|isL R) m):IV Er (nP K t) σ W R m:=fun W1 e1 P k=>
 h W1 e1 _ (k.imp fun xs kx v W2 e2 hv=>by
  obtain⟨p,vs,rfl,h1,h2⟩:=hv;refine⟨p,rfl,⟨vs,GR (W2.ok _ _ h1)⟩,kx _ W2 e2 fun W3 e3=>⟨fun i a ha=>?_,vs,GR (W3.ok _ _ (e3 _ _ h1)),by rw[h2.1];exact Fb _⟩⟩;obtain⟨x,hx,hr⟩:=h2.get ha;refine⟨⟨vs,x,GR (W3.ok _ _ (e3 _ _ h1)),hx⟩,fun y H'⟨z1,z2⟩=>⟨W3,z1.symm,.refl _,?_⟩⟩;have:=z2 vs (GR (W3.ok _ _ (e3 _ _ h1)));rw[hx]at this;cases this;exact EG e3 hr)
theorem jx{m:Res Tx}(h:EV Er t σ W (sh isS) m):IV Er (AW t) σ W isS (m.bind fun x=>.ok<|bo x):=fun W1 e1 P k=>
 h W1 e1 _ ((ED k).imp fun x kx v W2 e2 hv=>by
  cases hv;refine⟨x,rfl,kx _ W2 e2 fun W3 e3=>⟨fun i a ha=>?_,by show x.length<=(bo x).length;simp[bo]⟩⟩;unfold bo at ha;rw[G4]at ha;cases hc:x[i]? with
  |none=>rw[hc]at ha;cases ha
  |some c=>
   rw[hc]at ha;cases ha;refine⟨(ER.mp hc).1,fun y H'⟨z1,c',z2,z3⟩=>⟨W3,z1.symm,.refl _,?_⟩⟩;rw[hc]at z2;cases z2;exact z3)
theorem iU{m:Res Int}(h:EV Er t σ W (sh isI) m):IV Er (u7<|ai t aO) σ W isI (m.bind fun n=>gS n):=fun W1 e1 P k=>
 h W1 e1 _ ((ED k).imp fun n kn v W2 e2 hv=>by
  cases hv;obtain⟨hb,kn⟩:=aU kn;refine⟨n,rfl,hb.1,hb.2,kn _ W2 e2 fun W3 e3=>⟨fun i a ha=>?_,by show n.toNat<=(fW n).length;simp[fW]⟩⟩;unfold fW at ha;rw[G4]at ha;have hi:i<n.toNat:=by
   refine Gj fun z=>?_;rw[G6.mpr (by simp;omega)]at ha;cases ha
  rw[List.getElem?_range hi]at ha;cases ha;exact⟨hi,fun y H'⟨z1,z2⟩=>⟨W3,z1.symm,.refl _,by rw[z2];show Ir (0+(i:Int))=.int (i:Int);rw[Int.zero_add]⟩⟩)
def SrcR(K:EH)(W:Wd)(R:Rp α)(xs:List α)(v:V):Prop:=∃(c:Src)(vs:List V),v=c.val/\(∀W1:Wd,Same W.G W1.G->c.has K W1.H vs)/\LR R W.G xs vs
theorem SrcR.mono{R:Rp α}[Mono R]{xs:List α}{v:V}(h:SrcR K W R xs v)(e:Same W.G W'.G):SrcR K W' R xs v:=by
 obtain⟨c,vs,h1,h2,h3⟩:=h;exact⟨c,vs,h1,fun W1 e1=>h2 W1<|e.trans e1,h3.same e⟩
def SV(Er:Nat->Prop)(t:TE)(σ:St)(W:Wd)(K:EH)(R:Rp α)(m:Res (List α)):Prop:=EV Er t σ W (fun W xs v=>SrcR K W R xs v) m
theorem eI{R:Rp α}[Mono R]{m:Res (List α)}(h:EV Er t σ W (sh<|isL R) m):SV Er t σ W K R m:=h.imp fun W xs v⟨p,vs,h0,h1,h2⟩=>⟨.lst p,vs,h0,fun W1 e1=>GR<|W1.ok _ _<|e1 _ _ h1,h2⟩
theorem uS{H:Hp}(x:Tx):LR isS H (bo x) (x.map fun c=>IK<|sOf [c]):=⟨by simp[bo],fun i v m e1 e2=>by
 unfold bo at e2;rw[G4]at e1 e2;cases hc:x[i]? with
 |none=>rw[hc]at e1;cases e1
 |some c=>rw[hc]at e1 e2;cases e1;cases e2;rfl⟩
theorem gU{m:Res Tx}(h:EV Er t σ W (sh isS) m):SV Er t σ W K isS (m.bind fun x=>.ok<|bo x):=fun W1 e1 Q k=>
 h W1 e1 _ ((ED k).imp fun x kx v W2 e2 hv=>by cases hv;exact kx _ W2 e2 ⟨.str x,_,rfl,fun _ _=>rfl,uS x⟩)
theorem gV{R1:Rp α}{R2:Rp β}[Mono R1][Mono R2]{m1:Res (List α)}{m2:Res (List β)}(h1:SV Er t1 σ W K R1 m1)(h2:SV Er t2 σ W K R2 m2):IV Er (zM K<|ai t1<|ai t2 aO) σ W (isT2 K R1 R2) (m1.bind fun xs=>m2.bind fun ys=>.ok<|xs.zip ys):=fun W1 e1 P k=>
 h1 W1 e1 _ ((ED k).imp fun xs kx v W2 e2 hv=>h2 W2 (e1.trans e2) _ ((ED kx).imp fun ys ky u W3 e3 hu=>by
  obtain⟨c1,vs,rfl,a1,b1⟩:=SrcR.mono hv e3.g;obtain⟨c2,us,rfl,a2,b2⟩:=hu;refine⟨c1,c2,vs,us,rfl,a1 W3<|.refl _,a2 W3<|.refl _,ky _ W3 (e2.trans e3) fun W4 e4=>⟨fun i ab hab=>?_,?_⟩⟩
  ·rw[Hw]at hab;obtain⟨x,hx,rx⟩:=b1.get hab.1;obtain⟨y,hy,ry⟩:=b2.get hab.2;refine⟨⟨vs,us,x,y,a1 W4 e4,a2 W4 e4,hx,hy⟩,fun z H'⟨p,x',y',hp,z0,z1,z2,z3⟩=>⟨W4.new p<|.tup [x',y'],by rw[z3];rfl,.new _ hp,p,x',y',z0,M4 aq,?_,?_⟩⟩
   ·have:=z1 vs<|a1 W4 e4;rw[hx]at this;cases this;exact EG (e4.trans (Ext.new _ hp).g) rx
   ·have:=z2 us<|a2 W4 e4;rw[hy]at this;cases this;exact EG (e4.trans (Ext.new _ hp).g) ry
  ·refine⟨vs,us,a1 W4 e4,a2 W4 e4,?_⟩;rw[IA,b1.1,b2.1];omega))
theorem mr{f:α->Res β}{xs:List α}{i:Nat}{a:α}(h:xs[i]? =some a):jt f (xs.drop i)=(f a).bind fun b=>(jt f<|xs.drop<|i+1).bind fun bs=>.ok (b::bs):=by
 obtain⟨hi,e⟩:=ER.mp h;rw[Hx hi,e];rfl
theorem l6{f:α->Res (Option β)}{xs:List α}{i:Nat}{a:α}(h:xs[i]? =some a):gA f (xs.drop i)=(f a).bind fun b=>(gA f<|xs.drop<|i+1).bind fun bs=>.ok (match b with|some b=>b::bs|none=>bs):=by
 obtain⟨hi,e⟩:=ER.mp h;rw[Hx hi,e];rfl
theorem cG{cap:List (Option Nat)}{wi:TI}{g:TG}{te:TE}{R:Rp α}{R':Rp β}[Mono R']{m:Res (List α)}{f:α->Res β}(hi:IV Er wi σ W R m)
  (hb:∀(W1:Wd)(a:α)(v:V),Ext W W1->R W1.G a v->∀Q:VK,(f a).OkE Er (fun b=>∀u W2,Ext W1 W2->R' W2.G b u->Q u W2.H)->g v (bz cap σ) W1.H fun σ2 H2=>Keep (bz cap σ) σ2/\te σ2 H2 Q):
  EVo Er (kP cap wi g zL te) σ W R' (m.bind fun xs=>bI xs f):=fun W1 e1 Q k=>by
 refine hi W1 e1 _<|(ED k).imp fun xs kx J W2 e2 hy=>?_;obtain⟨hl,kx⟩:=aU<|ED kx;refine⟨fun i n ys H=>n=xs.length-i/\i<=xs.length/\ys.length<=i/\∃(W3:Wd)(bs:List β),W3.H=H/\Ext W2 W3/\LR R' W3.G bs ys/\(jt f<|xs.drop i).OkE Er (fun r=>∀p W4,Ext W1 W4->W1.H p=none->Ow R' W4 p (bs++r)->Q (.ref p) W4.H),⟨xs.length,by simp,by simp,by simp,W2,[],rfl,.refl _,.nil,?_⟩,?_⟩;·simpa using kx
 ·rintro i n ys H ⟨rfl,hi1,hyl,W3,bs,rfl,e3,lr,q⟩;refine⟨by rw[Gi];unfold Mi.cap at hl;omega,?_⟩;by_cases hlt:i<xs.length
  ·obtain⟨a,ha⟩:∃a,xs[i]? =some a:=⟨xs[i],by simp[hlt]⟩
   obtain⟨h1,h2⟩:=(hy W3 e3.g).1 i a ha;refine .inr ⟨h1,fun ys' H'=>ys'.length<=i+1/\∃(W3:Wd)(bs:List β),W3.H=H'/\Ext W2 W3/\LR R' W3.G bs ys'/\(jt f<|xs.drop<|i+1).OkE Er (fun r=>∀p W4,Ext W1 W4->W1.H p=none->Ow R' W4 p (bs++r)->Q (.ref p) W4.H),fun ys' H'⟨z1,z2⟩=>⟨xs.length-(i+1),by omega,rfl,hlt,z1,z2⟩,fun x H' hx=>?_⟩;obtain⟨W4,rfl,e4,rx⟩:=h2 x H' hx;rw[mr ha]at q;have:=hb W4 a x (e1.trans<|(e2.trans e3).trans e4) rx (fun y H4=>(ys++[y]).length<=i+1/\∃(W3:Wd)(bs:List β),W3.H=H4/\Ext W2 W3/\LR R' W3.G bs (ys++[y])/\(jt f<|xs.drop<|i+1).OkE Er (fun r=>∀p W4,Ext W1 W4->W1.H p=none->Ow R' W4 p (bs++r)->Q (.ref p) W4.H))
    ((ED q).imp fun b kb u W5 e5 hu=>⟨by simp;exact hyl,W5,bs++[b],rfl,(e3.trans e4).trans e5,(lr.same (e4.trans e5).g).snoc hu,(ED kb).imp fun r kr=>by rw[Hj];exact kr⟩)
   exact this
  ·have e:i=xs.length:=by omega
   subst e;rw[HL]at q;refine .inl ⟨(hy W3 e3.g).2,fun D hD=>?_⟩;have e13:=e2.trans e3;have:=q D (W3.mut D (.lst ys)<|W3.gnone hD) (e13.trans<|.own _ hD) (none_of e13.h hD) ⟨W3.gnone hD,ys,aq,by rw[FG];exact lr⟩;exact this
theorem oo{cap:List (Option Nat)}{wi:TI}{g:TG}{tf:TT}{te:TE}{R:Rp α}{R':Rp β}[Mono R']{m:Res (List α)}{f:α->Res (Option β)}(hi:IV Er wi σ W R m)
    (hb:∀(W1:Wd)(a:α)(v:V),Ext W W1->R W1.G a v->∀Q:Option V->Hp->Prop,(f a).OkE Er (fun b=>∀u W2,Ext W1 W2->(match b,u with|some b,some u=>R' W2.G b u|none,none=>True|_,_=>False)->Q u W2.H)->g v (bz cap σ) W1.H fun σ2 H2=>Keep (bz cap σ) σ2/\tf σ2 H2 fun b H3=>if b=true then te σ2 H3 (fun y H4=>Q (some y) H4)else Q none H3):
    EVo Er (kP cap wi g tf te) σ W R' (m.bind fun xs=>iE xs f):=fun W1 e1 Q k=>by
  refine hi W1 e1 _<|(ED k).imp fun xs kx J W2 e2 hy=>?_;obtain⟨hl,kx⟩:=aU<|ED kx;refine⟨fun i n ys H=>n=xs.length-i/\i<=xs.length/\ys.length<=i/\∃(W3:Wd)(bs:List β),W3.H=H/\Ext W2 W3/\LR R' W3.G bs ys/\(gA f<|xs.drop i).OkE Er (fun r=>∀p W4,Ext W1 W4->W1.H p=none->Ow R' W4 p (bs++r)->Q (.ref p) W4.H),⟨xs.length,by simp,by simp,by simp,W2,[],rfl,.refl _,.nil,?_⟩,?_⟩;·simpa using kx
  · rintro i n ys H ⟨rfl,hi1,hyl,W3,bs,rfl,e3,lr,q⟩;refine⟨by rw[Gi];unfold Mi.cap at hl;omega,?_⟩;by_cases hlt:i<xs.length
    · obtain⟨a,ha⟩:∃a,xs[i]? =some a:=⟨xs[i],by simp[hlt]⟩
      obtain⟨h1,h2⟩:=(hy W3 e3.g).1 i a ha;refine .inr ⟨h1,fun ys' H'=>ys'.length<=i+1/\∃(W3:Wd)(bs:List β),W3.H=H'/\Ext W2 W3/\LR R' W3.G bs ys'/\(gA f<|xs.drop<|i+1).OkE Er (fun r=>∀p W4,Ext W1 W4->W1.H p=none->Ow R' W4 p (bs++r)->Q (.ref p) W4.H),fun ys' H'⟨z1,z2⟩=>⟨xs.length-(i+1),by omega,rfl,hlt,z1,z2⟩,fun x H' hx=>?_⟩;obtain⟨W4,rfl,e4,rx⟩:=h2 x H' hx;rw[l6 ha]at q
      have:=hb W4 a x (e1.trans<|(e2.trans e3).trans e4) rx (fun y H4=>(match y with|some y=>ys++[y]|none=>ys).length<=i+1/\∃(W3:Wd)(bs:List β),W3.H=H4/\Ext W2 W3/\LR R' W3.G bs (match y with|some y=>ys++[y]|none=>ys)/\(gA f<|xs.drop<|i+1).OkE Er (fun r=>∀p W4,Ext W1 W4->W1.H p=none->Ow R' W4 p (bs++r)->Q (.ref p) W4.H))
        ((ED q).imp fun b kb u W5 e5 hu=>by
          match b,u,hu,kb with
          |some b,some u,hu,kb=>exact⟨by simp;exact hyl,W5,bs++[b],rfl,(e3.trans e4).trans e5,(lr.same (e4.trans e5).g).snoc hu,(ED kb).imp fun r kr=>by rw[Hj];exact kr⟩
          |none,none,hu,kb=>exact⟨by show ys.length<=i+1;omega,W5,bs,rfl,(e3.trans e4).trans e5,lr.same (e4.trans e5).g,(ED kb).imp fun r kr=>kr⟩)
      exact this
    · have e:i=xs.length:=by omega
      subst e;rw[HL]at q;refine .inl ⟨(hy W3 e3.g).2,fun D hD=>?_⟩;have e13:=e2.trans e3;have:=q D (W3.mut D (.lst ys)<|W3.gnone hD) (e13.trans<|.own _ hD) (none_of e13.h hD) ⟨W3.gnone hD,ys,aq,by rw[FG];exact lr⟩;exact this
end
section
variable{α β γ δ:Type}{t u:TS}{te ti:TE}{g:TG}{D:Ends}{σ:St}{W W0 W':Wd}{K:EH}{i j k n:Nat}{P:St->Hp->Prop}{H:Hp}{v:V}
theorem gn{σ':St}(h:P σ' H)(hσ:σ.set i (some v)=σ':=by rfl):aP i v σ H P:=by subst hσ;exact h
theorem lF{σ':V->V->St}{R1:Rp α}{R2:Rp β}{ab:α×β}(h:isT2 K R1 R2 W.G ab v)(q:∀x y,R1 W.G ab.1 x->R2 W.G ab.2 y->P (σ' x y) W.H)(hσ:∀x y,(σ.set i<|some x).set j (some y)=σ' x y:=by intro _ _;rfl):cR K 2 (bD (aP i)<|bD (aP j) d5) v σ W.H P:=by
 obtain⟨p,x,y,h0,h,h1,h2⟩:=h;exact⟨p,_,h0,Same.tup W.ok h,rfl,x,_,rfl,y,_,rfl,rfl,by have:=q x y h1 h2;rw[<-hσ]at this;exact this⟩
theorem pK{σ':V->V->V->St}{R1:Rp α}{R2:Rp β}{R3:Rp γ}{ab:α×β×γ}(h:isT3 K R1 R2 R3 W.G ab v)(q:∀x y z,R1 W.G ab.1 x->R2 W.G ab.2.1 y->R3 W.G ab.2.2 z->P (σ' x y z) W.H)(hσ:∀x y z,((σ.set i<|some x).set j (some y)).set k (some z)=σ' x y z:=by intro _ _ _;rfl):cR K 3 (bD (aP i)<|bD (aP j)<|bD (aP k) d5) v σ W.H P:=by
 obtain⟨p,x,y,z,h0,h,h1,h2,h3⟩:=h;exact⟨p,_,h0,Same.tup W.ok h,rfl,x,_,rfl,y,_,rfl,z,_,rfl,rfl,by have:=q x y z h1 h2 h3;rw[<-hσ]at this;exact this⟩
theorem CY{σ':V->V->V->V->St}{R1:Rp α}{R2:Rp β}{R3:Rp γ}{R4:Rp δ}{ab:α×β×γ×δ}(h:isT4 K R1 R2 R3 R4 W.G ab v)(q:∀x y z w,R1 W.G ab.1 x->R2 W.G ab.2.1 y->R3 W.G ab.2.2.1 z->R4 W.G ab.2.2.2 w->P (σ' x y z w) W.H)(hσ:∀x y z w,(((σ.set i<|some x).set j (some y)).set k (some z)).set n (some w)=σ' x y z w:=by intro _ _ _ _;rfl):cR K 4 (bD (aP i)<|bD (aP j)<|bD (aP k)<|bD (aP n) d5) v σ W.H P:=by
 obtain⟨p,x,y,z,w,h0,h,h1,h2,h3,h4⟩:=h;exact⟨p,_,h0,Same.tup W.ok h,rfl,x,_,rfl,y,_,rfl,z,_,rfl,w,_,rfl,rfl,by have:=q x y z w h1 h2 h3 h4;rw[<-hσ]at this;exact this⟩
theorem l7{σ':V->St}{R:Rw α}{m:Res α}(h:EV Er te σ W R m)(q:m.OkE Er fun a=>∀v W',Ext W W'->R W' a v->D.nx (σ' v) W'.H)(hσ:∀v,σ.set i (some v)=σ' v:=by intro _;rfl):bN te (aP i) D σ W.H:=h W (.refl _) _ (q.imp fun a k v W' e r=>by have:=k v W' e r;rw[<-hσ]at this;exact this)
theorem xO{σ':Addr->St}{R:Rp α}{m:Res (List α)}(h:EVo Er te σ W R m)(q:m.OkE Er fun a=>∀p W',Ext W W'->W.H p=none->Ow R W' p a->D.nx (σ' p) W'.H)(hσ:∀p,σ.set i (some<|.ref p)=σ' p:=by intro _;rfl):bN te (aP i) D σ W.H:=h W (.refl _) _ (q.imp fun a k p W' e hp r=>by have:=k p W' e hp r;rw[<-hσ]at this;exact this)
theorem aG{R:Rw α}{m:Res α}(h:EV Er te σ W R m)(q:m.OkE Er fun a=>∀v W',Ext W W'->R W' a v->D.rt v W'.H):cP te D σ W.H:=h W (.refl _) _ q
theorem ib{R:Rp α}{m:Res (List α)}(h:EVo Er te σ W R m)(q:m.OkE Er fun a=>∀p W',Ext W W'->W.H p=none->Ow R W' p a->D.rt (.ref p) W'.H):cP te D σ W.H:=h W (.refl _) _ q
theorem mv{c:TT}{m:Res Bool}(h:TV Er c σ W m)(q:m.OkE Er fun b=>∀W',Ext W W'->if b=true then t D σ W'.H else u D σ W'.H):iQ c t u D σ W.H:=h W (.refl _) _ q
theorem pL{S:Type}{c:TT}{m:Res Bool}{mA mB:Res S}{P:S->Prop}(Iv:S->Wd->St->Prop)(h:TV Er c σ W m)(q:(m.bind fun b=>if b then mA else mB).OkE Er P)
  (hA:∀W'(N:St->Hp->Prop),Ext W W'->(∀s W1 σ1,Same W.G W1.G->Iv s W1 σ1->P s->N σ1 W1.H)->mA.OkE Er P->t {D with nx:=N} σ W'.H)
  (hB:∀W'(N:St->Hp->Prop),Ext W W'->(∀s W1 σ1,Same W.G W1.G->Iv s W1 σ1->P s->N σ1 W1.H)->mB.OkE Er P->u {D with nx:=N} σ W'.H)
  (hd:∀s W1 σ1,Same W.G W1.G->Iv s W1 σ1->P s->D.nx σ1 W1.H):iQ c t u D σ W.H:=h W (.refl _) _ ((ED q).imp fun b kb W' e=>by
 cases b with
 |true=>exact hA W' D.nx e hd kb
 |false=>exact hB W' D.nx e hd kb)
structure Mu(W W':Wd)(p:Addr):Prop where
 g:Same W.G W'.G
 e:∀W0:Wd,Ext W0 W->W0.H p=none->Ext W0 W'
 h:∀q,q≠p->W.H q≠none->W'.H q=W.H q/\W'.G q=W.G q
theorem Mu.of{W1:Wd}{p:Addr}{o:HO}(e1:Ext W W1)(hg:W1.G p=none):Mu W (W1.mut p o hg) p:=⟨e1.g,fun W0 e0 hp=>(e0.trans e1).mut hp hg,fun q hq hn=>by
 obtain⟨o',ho⟩:=Im.mp hn;exact⟨by show cy W1.H p o q=_;rw[ao hq,e1.h _ _ ho,ho],e1.k q hn⟩⟩
theorem pM{R:Rp α}[Mono R]{p:Addr}{xs:List α}{m:Res α}(o:Ow R W p xs)(h:EV Er te σ W (sh R) m)(q:(m.bind fun a=>en xs a).OkE Er fun ys=>∀W',Mu W W' p->Ow R W' p ys->D.nx σ W'.H)(hi:σ[i]? =some (some<|.ref p):=by rfl):bq (ff K "list" aH (bf i)<|ai te aO) D σ W.H:=by
 obtain⟨vs,h1,h2⟩:=o.h;refine⟨.ref p,hi,.inl ⟨rfl,vs,GR h1⟩,h W (.refl _) _<|(ED q).imp fun a ka v W2 e2 hv=>?_⟩;obtain⟨h3,h4⟩:=aU ka;have hg:=(o.mono e2).g;refine⟨p,vs,v,rfl,rfl,e2.h _ _ h1,by rw[h2.1,Gi];unfold Mi.cap at h3;omega,h4 (W2.mut p (.lst<|vs++[v]) hg) (.of e2 hg) ⟨hg,_,aq,(h2.same e2.g).snoc hv⟩⟩
theorem LR.set{R:Rp α}{H:Hp}{as:List α}{vs:List V}{a:α}{v:V}(h:LR R H as vs)(r:R H a v)(j:Nat):LR R H (as.set j a) (vs.set j v):=⟨by simp[h.1],fun i x m e1 e2=>by
 rw[Hz]at e1 e2;by_cases z:j=i
 ·rw[if_pos z]at e1 e2;split at e1
  ·split at e2;·cases e1;cases e2;exact r
   ·cases e2
  ·cases e1
 ·rw[if_neg z]at e1 e2;exact h.2 i x m e1 e2⟩
theorem xP{R:Rp α}[Mono R]{p:Addr}{xs:List α}{m:Res α}{mi:Res Int}(o:Ow R W p xs)(h:EV Er te σ W (sh R) m)(hj:EV Er ti σ W (sh isI) mi)(q:(m.bind fun a=>mi.bind fun j=>jV xs j a).OkE Er fun ys=>∀W',Mu W W' p->Ow R W' p ys->D.nx σ W'.H)(hi:σ[i]? =some (some<|.ref p):=by rfl):bN te (rK (bf i) ti lX) D σ W.H:=by
 obtain⟨vs,h1,h2⟩:=o.h;refine h W (.refl _) _<|(ED q).imp fun a ka v W2 e2 hv=>⟨.ref p,hi,hj W2 e2 _<|(ED ka).imp fun j kj x W3 e3 hx=>?_⟩;cases hx;obtain⟨l,h3,h4⟩:=dN<|ED kj;have e:=e2.trans e3;have hg:=(o.mono e).g;exact⟨p,vs,j,l,rfl,rfl,e.h _ _ h1,by rw[h2.1];exact h3,h4 (W3.mut p (.lst<|vs.set l v) hg) (.of e hg) ⟨hg,_,aq,(h2.same e.g).set (EG (R:=R) e3.g hv) l⟩⟩
def uT{S:Type}(W:Wd)(Iv:S->Wd->St->Prop)(P:S->Prop):St->Hp->Prop:=fun σ' H'=>∃s' W',W'.H=H'/\Same W.G W'.G/\Iv s' W' σ'/\P s'
theorem sx{S:Type}{f:α->S->Res S}{xs:List α}{i:Nat}{a:α}{s:S}(h:xs[i]? =some a):cj f (xs.drop i) s=(f a s).bind fun s=>cj f (xs.drop<|i+1) s:=by
 obtain⟨hi,e⟩:=ER.mp h;rw[Hx hi,e];rfl
theorem nz{S:Type}{wi:TI}{tb:TS}{R:Rp α}{m:Res (List α)}{f:α->S->Res S}{s0:S}{P:S->Prop}(Iv:S->Wd->St->Prop)(hi:IV Er wi σ W R m)(q:(m.bind fun xs=>cj f xs s0).OkE Er P)
  (h0:∀W1,Ext W W1->Iv s0 W1 σ)
  (hs:∀Wb W1 W2 a v s σ1 P',Same W.G W1.G->Same Wb.G W1.G->Iv s W1 σ1->Ext W1 W2->R W2.G a v->(f a s).OkE Er P'->g v σ1 W2.H fun σ2 H2=>tb {D with nx:=uT Wb Iv P',ct:=uT Wb Iv P',bk:=D.nx} σ2 H2)
  (hd:∀s W1 σ1,Same W.G W1.G->Iv s W1 σ1->P s->D.nx σ1 W1.H):u9 wi g tb D σ W.H:=by
 refine hi W (.refl _) _<|(ED q).imp fun xs kx J W1 e1 hy=>?_;refine⟨fun i n σ' H'=>n=xs.length-i/\i<=xs.length/\∃s' W',W'.H=H'/\Same W1.G W'.G/\Iv s' W' σ'/\(cj f (xs.drop i) s').OkE Er P,⟨xs.length,by simp,by simp,s0,W1,rfl,.refl _,h0 W1 e1,by simpa using kx⟩,?_⟩;rintro i n σ1 H1 ⟨rfl,hi1,s,W2,rfl,e2,iv,k⟩;by_cases hlt:i<xs.length
 ·obtain⟨a,ha⟩:∃a,xs[i]? =some a:=⟨xs[i],by simp[hlt]⟩
  obtain⟨h1,h2⟩:=(hy W2 e2).1 i a ha;refine .inr ⟨h1,uT W1 Iv fun s'=>(cj f (xs.drop<|i+1) s').OkE Er P,fun σ' H'⟨s',W',z1,z2,z3,z4⟩=>⟨xs.length-(i+1),by omega,rfl,hlt,s',W',z1,z2,z3,z4⟩,fun x H' hx=>?_⟩;obtain⟨W3,rfl,e3,rx⟩:=h2 x H' hx;rw[sx ha]at k;exact hs W1 W2 W3 a x s σ1 (fun s'=>(cj f (xs.drop<|i+1) s').OkE Er P) (e1.g.trans e2) e2 iv e3 rx<|ED k
 ·have e:i=xs.length:=by omega
  subst e;rw[HL]at k;exact .inl ⟨(hy W2 e2).2,hd s W2 σ1 (e1.g.trans e2) iv k⟩
theorem sy{S:Type}{f:α->S->Res (Fl γ S)}{xs:List α}{i:Nat}{a:α}{s:S}(h:xs[i]? =some a):iD f (xs.drop i) s=(f a s).bind (B6<|iD f<|xs.drop<|i+1):=by
 obtain⟨hi,e⟩:=ER.mp h;rw[Hx hi,e];rfl
theorem xQ{S:Type}{wi:TI}{tb:TS}{R:Rp α}{m:Res (List α)}{f:α->S->Res (Fl γ S)}{s0:S}{P:Fl γ S->Prop}(Iv:S->Wd->St->Prop)(hi:IV Er wi σ W R m)(q:(m.bind fun xs=>iD f xs s0).OkE Er P)
  (h0:∀W1,Ext W W1->Iv s0 W1 σ)
  (hs:∀Wb W1 W2 a v s σ1 P',Same W.G W1.G->Same Wb.G W1.G->Iv s W1 σ1->Ext W1 W2->R W2.G a v->(∀r,P' (.rt r)->P (.rt r))->(f a s).OkE Er P'->g v σ1 W2.H fun σ2 H2=>tb {D with nx:=uT Wb Iv fun s'=>P'<|.nx s',ct:=uT Wb Iv fun s'=>P'<|.nx s',bk:=D.nx} σ2 H2)
  (hd:∀s W1 σ1,Same W.G W1.G->Iv s W1 σ1->P (.nx s)->D.nx σ1 W1.H):u9 wi g tb D σ W.H:=by
 refine hi W (.refl _) _<|(ED q).imp fun xs kx J W1 e1 hy=>?_;refine⟨fun i n σ' H'=>n=xs.length-i/\i<=xs.length/\∃s' W',W'.H=H'/\Same W1.G W'.G/\Iv s' W' σ'/\(iD f (xs.drop i) s').OkE Er P,⟨xs.length,by simp,by simp,s0,W1,rfl,.refl _,h0 W1 e1,by simpa using kx⟩,?_⟩;rintro i n σ1 H1 ⟨rfl,hi1,s,W2,rfl,e2,iv,k⟩;by_cases hlt:i<xs.length
 ·obtain⟨a,ha⟩:∃a,xs[i]? =some a:=⟨xs[i],by simp[hlt]⟩
  obtain⟨h1,h2⟩:=(hy W2 e2).1 i a ha;refine .inr ⟨h1,uT W1 Iv fun s'=>(iD f (xs.drop<|i+1) s').OkE Er P,fun σ' H'⟨s',W',z1,z2,z3,z4⟩=>⟨xs.length-(i+1),by omega,rfl,hlt,s',W',z1,z2,z3,z4⟩,fun x H' hx=>?_⟩;obtain⟨W3,rfl,e3,rx⟩:=h2 x H' hx;rw[sy ha]at k;exact hs W1 W2 W3 a x s σ1 (fun fl=>match fl with| .nx s'=>(iD f (xs.drop<|i+1) s').OkE Er P| .bk s'=>P (.nx s')| .rt r=>P<|.rt r) (e1.g.trans e2) e2 iv e3 rx (fun r h=>h) ((ED k).imp fun fl h=>by cases fl<;>exact h)
 ·have e:i=xs.length:=by omega
  subst e;rw[HL]at k;exact .inl ⟨(hy W2 e2).2,hd s W2 σ1 (e1.g.trans e2) iv k⟩
section
variable{r:TS}
theorem aA{σ':V->St}{R:Rw α}{m:Res α}(h:EV Er te σ W R m)(q:m.OkE Er fun a=>∀v W',Ext W W'->R W' a v->r D (σ' v) W'.H)(hσ:∀v,σ.set i (some v)=σ' v:=by intro _;rfl):dF (bN te<|aP i) r D σ W.H:=l7 (D:={D with nx:=r D}) h q hσ
theorem jy{σ':Addr->St}{R:Rp α}{m:Res (List α)}(h:EVo Er te σ W R m)(q:m.OkE Er fun a=>∀p W',Ext W W'->W.H p=none->Ow R W' p a->r D (σ' p) W'.H)(hσ:∀p,σ.set i (some<|.ref p)=σ' p:=by intro _;rfl):dF (bN te<|aP i) r D σ W.H:=xO (D:={D with nx:=r D}) h q hσ
theorem gb{R:Rw α}{m:Res α}(h:EV Er te σ W R m)(q:m.OkE Er fun a=>∀v W',Ext W W'->R W' a v->g v σ W'.H (r D)):dF (bN te g) r D σ W.H:=h W (.refl _) _ q
theorem sA{R:Rw α}{m:Res α}(h:EV Er te σ W R m)(q:m.OkE Er fun a=>∀v W',Ext W W'->R W' a v->r D σ W'.H):dF (bq te) r D σ W.H:=h W (.refl _) _ q
theorem bt{c:TT}{m:Res Bool}(h:TV Er c σ W m)(q:m.OkE Er fun b=>∀W',Ext W W'->if b=true then t {D with nx:=r D} σ W'.H else u {D with nx:=r D} σ W'.H):dF (iQ c t u) r D σ W.H:=h W (.refl _) _ q
theorem l8{S:Type}{c:TT}{m:Res Bool}{mA mB:Res S}{P:S->Prop}(Iv:S->Wd->St->Prop)(h:TV Er c σ W m)(q:(m.bind fun b=>if b then mA else mB).OkE Er P)
  (hA:∀W'(N:St->Hp->Prop),Ext W W'->(∀s W1 σ1,Same W.G W1.G->Iv s W1 σ1->P s->N σ1 W1.H)->mA.OkE Er P->t {D with nx:=N} σ W'.H)
  (hB:∀W'(N:St->Hp->Prop),Ext W W'->(∀s W1 σ1,Same W.G W1.G->Iv s W1 σ1->P s->N σ1 W1.H)->mB.OkE Er P->u {D with nx:=N} σ W'.H)
  (hd:∀s W1 σ1,Same W.G W1.G->Iv s W1 σ1->P s->r D σ1 W1.H):dF (iQ c t u) r D σ W.H:=pL (D:={D with nx:=r D}) Iv h q hA hB hd
theorem uU{R:Rp α}[Mono R]{p:Addr}{xs:List α}{m:Res α}(o:Ow R W p xs)(h:EV Er te σ W (sh R) m)(q:(m.bind fun a=>en xs a).OkE Er fun ys=>∀W',Mu W W' p->Ow R W' p ys->r D σ W'.H)(hi:σ[i]? =some (some<|.ref p):=by rfl):dF (bq<|ff K "list" aH (bf i)<|ai te aO) r D σ W.H:=pM (D:={D with nx:=r D}) o h q hi
theorem sC{R:Rp α}[Mono R]{p:Addr}{xs:List α}{m:Res α}{mi:Res Int}(o:Ow R W p xs)(h:EV Er te σ W (sh R) m)(hj:EV Er ti σ W (sh isI) mi)(q:(m.bind fun a=>mi.bind fun j=>jV xs j a).OkE Er fun ys=>∀W',Mu W W' p->Ow R W' p ys->r D σ W'.H)(hi:σ[i]? =some (some<|.ref p):=by rfl):dF (bN te<|rK (bf i) ti lX) r D σ W.H:=xP (D:={D with nx:=r D}) o h hj q hi
theorem fy{S:Type}{wi:TI}{tb:TS}{R:Rp α}{m:Res (List α)}{f:α->S->Res S}{s0:S}{P:S->Prop}(Iv:S->Wd->St->Prop)(hi:IV Er wi σ W R m)(q:(m.bind fun xs=>cj f xs s0).OkE Er P)
  (h0:∀W1,Ext W W1->Iv s0 W1 σ)
  (hs:∀Wb W1 W2 a v s σ1 P',Same W.G W1.G->Same Wb.G W1.G->Iv s W1 σ1->Ext W1 W2->R W2.G a v->(f a s).OkE Er P'->g v σ1 W2.H fun σ2 H2=>tb {D with nx:=uT Wb Iv P',ct:=uT Wb Iv P',bk:=r D} σ2 H2)
  (hd:∀s W1 σ1,Same W.G W1.G->Iv s W1 σ1->P s->r D σ1 W1.H):dF (u9 wi g tb) r D σ W.H:=nz (D:={D with nx:=r D}) Iv hi q h0 hs hd
theorem jz{S:Type}{wi:TI}{tb:TS}{R:Rp α}{m:Res (List α)}{f:α->S->Res (Fl γ S)}{s0:S}{P:Fl γ S->Prop}(Iv:S->Wd->St->Prop)(hi:IV Er wi σ W R m)(q:(m.bind fun xs=>iD f xs s0).OkE Er P)
  (h0:∀W1,Ext W W1->Iv s0 W1 σ)
  (hs:∀Wb W1 W2 a v s σ1 P',Same W.G W1.G->Same Wb.G W1.G->Iv s W1 σ1->Ext W1 W2->R W2.G a v->(∀r,P' (.rt r)->P (.rt r))->(f a s).OkE Er P'->g v σ1 W2.H fun σ2 H2=>tb {D with nx:=uT Wb Iv fun s'=>P'<|.nx s',ct:=uT Wb Iv fun s'=>P'<|.nx s',bk:=r D} σ2 H2)
  (hd:∀s W1 σ1,Same W.G W1.G->Iv s W1 σ1->P (.nx s)->r D σ1 W1.H):dF (u9 wi g tb) r D σ W.H:=xQ (D:={D with nx:=r D}) Iv hi q h0 hs hd
end
theorem eJ{S:Type}{Wb W:Wd}{Iv:S->Wd->St->Prop}{P:S->Prop}(s:S)(hs:Same Wb.G W.G)(iv:Iv s W σ)(hq:P s):uT Wb Iv P σ W.H:=⟨s,W,rfl,hs,iv,hq⟩
end
end Wb
open Wb.EV renaming pk->Hk
open Wb.EVo renaming ev->G7,pk->Ig
open Wb.Ext renaming new->K1,own->NY
open Wb.MonoW renaming mono->FK
open Wb.Same renaming tup->Km
open Wb.SrcR renaming mono->Ob
namespace L2
open PySem PySem.Spec PyProof.Rows
section
variable{X:Cx}{K:EH}{w:Fp}
theorem jK{ns:List Bool}:∀{us:List EI},Vals (ns.map Ny) us->LSm.BoolsAre us ns:=by
 induction ns with
 |nil=>intro us r;cases r;exact .nil
 |cons b r ih=>intro us h;cases h with|cons h1 h2=>cases h1;exact .cons b<|ih h2
theorem sD(hc:X.calm=true)(hK:X.K=K):eQ X (.builtin "all") (fun xs H Q=>∃(p:Addr)(bs:List Bool),xs=[.ref p]/\SqL K H p (bs.map Ny)/\Q (.bl<|bs.all id) H):=by
 subst hK;intro pins s σ H xs us Q I r h;obtain⟨p,bs,rfl,hq,q⟩:=h;obtain⟨u,rfl,rx⟩:=gL r;cases rx;obtain⟨its,r',pl,hz⟩:=I.list hq;have hb:=jK r';have hl:=pl.isList;have hlt:p<s.heap.objs.size:=by obtain⟨_,e,_⟩:=hl;exact F0 e
 refine call_all_walk<|Ih hl ?_;refine⟨s.heap.objs.size,[s.heap.objs.size,p],[s.heap.objs.size],its.toArray.size,_,_,fun i=>(bs[i]?).getD true,rfl,NP (A:=X.A.in1) (I.ok.hd hc) _ p (Fd hlt) its.toArray,
  ⟨⟨_,EU _ rfl,rfl,rfl⟩,hl.push _⟩,fun i v s' Q' E' hP hQ=>?_,fun h' tk hk=>?_⟩
 ·obtain⟨b,e,rfl⟩:=hb.get i v (by simpa using hP);simp only[e,HJ]at hQ;exact GZ hQ
 ·have e:((HP its.toArray.size).all fun i=>(bs[i]?).getD true)=bs.all id:=by
   rw[F4,hb.length];exact LSm.range_all bs
  rw[e];exact⟨.bl _,H,I.kept<|N4 hk,rfl,q⟩
theorem sE(hc:X.calm=true)(hK:X.K=K):eQ X (.builtin "any") (fun xs H Q=>∃(p:Addr)(bs:List Bool),xs=[.ref p]/\SqL K H p (bs.map Ny)/\Q (.bl<|bs.any id) H):=by
 subst hK;intro pins s σ H xs us Q I r h;obtain⟨p,bs,rfl,hq,q⟩:=h;obtain⟨u,rfl,rx⟩:=gL r;cases rx;obtain⟨its,r',pl,hz⟩:=I.list hq;have hb:=jK r';have hl:=pl.isList;have hlt:p<s.heap.objs.size:=by obtain⟨_,e,_⟩:=hl;exact F0 e
 refine call_any_walk<|Ih hl ?_;refine⟨s.heap.objs.size,[s.heap.objs.size,p],[s.heap.objs.size],its.toArray.size,_,_,fun i=>(bs[i]?).getD false,rfl,NP (A:=X.A.in1) (I.ok.hd hc) _ p (Fd hlt) its.toArray,
  ⟨⟨_,EU _ rfl,rfl,rfl⟩,hl.push _⟩,fun i v s' Q' E' hP hQ=>?_,fun h' tk hk=>?_⟩
 ·obtain⟨b,e,rfl⟩:=hb.get i v (by simpa using hP);simp only[e,HJ]at hQ;exact GZ hQ
 ·have e:((HP its.toArray.size).any fun i=>(bs[i]?).getD false)=bs.any id:=by
   rw[F4,hb.length];exact LSm.range_any bs
  rw[e];exact⟨.bl _,H,I.kept<|N4 hk,rfl,q⟩
end
end L2
namespace Wb
open PySem L2 Mi
variable{Er:Nat->Prop}
section
variable{α β γ δ:Type}{t ta tb tc:TE}{σ:St}{W W0 W':Wd}{K:EH}{w:Fp}
theorem qM{a n r:Int}(hc:0<=n/\n<=1000000/\a.natAbs<2^64)(hr:a^n.toNat=r):EV Er (dU (rI AO fun i j=>.int<|i^j.toNat) (tC<|.int a)<|tC<|.int n) σ W (sh isI) (.ok r):=fun W1 e1 Q k=>⟨a,n,rfl,rfl,hc,by show Q (.int<|a^n.toNat) W1.H;rw[hr];exact k _ W1 (.refl _) rfl⟩
def isScr(K:EH):Rp (List Int):=fun H ns v=>∃a,v=.ref a/\SqL K H a (ns.map Ir)
instance zkeep17:Mono (isScr K):=⟨fun e⟨a,h1,h2⟩=>⟨a,h1,e.seq h2⟩⟩
theorem mw{ma:Res (List Int)}(ha:EV Er ta σ W (sh<|isScr K) ma):EV Er (fb (fun xs H Q=>∃x n,xs=[x]/\nS K x H n/\Q (.int n) H)<|ai ta aO) σ W (sh isI) (ma.bind fun a=>.ok (a.length:Int)):=fun W1 e1 Q k=>
 ha W1 e1 _ ((ED k).imp fun a ka x W2 e2 hx=>by
  obtain⟨p,rfl,h1⟩:=hx;exact⟨_,a.length,rfl,.inl ⟨_,W2.ok.seq h1,by simp⟩,ka _ W2 e2 rfl⟩)
theorem uV{ma:Res (List Int)}{mb:Res Int}(ha:EV Er ta σ W (sh<|isScr K) ma)(hb:EV Er tb σ W (sh isI) mb):EV Er (dU (cY K) ta tb) σ W (sh isI) (ma.bind fun a=>mb.bind fun b=>gz a b):=
 pH ha hb fun W a b x y Q hx hy k=>by
  cases hy;obtain⟨p,rfl,h1⟩:=hx;obtain⟨c,h4,h5⟩:=dN k;have lr:LR isI W.G a (a.map Ir):=⟨by simp,fun i v m e1 e2=>by rw[G4,e2]at e1;cases e1;rfl⟩
  obtain⟨z,h6,h7⟩:=nu lr h4;exact⟨p,_,b,z,rfl,rfl,W.ok.seq h1,h6,h5 _ W (.refl _) h7⟩
theorem qN{ma:Res Bool}(ha:EV Er ta σ W (sh isB) ma):EV Er (fb (fun xs H Q=>(∃i,xs=[.int i]/\Q (.int i) H)\/∃k,xs=[.bl k]/\Q (.int (if k then 1 else 0)) H)<|ai ta aO) σ W (sh isI) (ma.bind fun a=>.ok (if a then(1:Int)else 0)):=fun W1 e1 Q k=>
 ha W1 e1 _ ((ED k).imp fun a ka x W2 e2 hx=>by cases hx;exact .inr ⟨a,rfl,ka _ W2 e2 rfl⟩)
theorem zU{R:Rp α}{W1 W2:Wd}{xs:List α}{vs:List V}{Q:VK}(h:LR R W2.G xs vs)(e:Ext W1 W2)(k:∀p W2,Ext W1 W2->W1.H p=none->Ow R W2 p xs->Q (.ref p) W2.H)(r:Addr)(hr:W2.H r=none):Q (.ref r) (cy W2.H r<|.lst vs):=
 k r (W2.mut r (.lst vs)<|W2.gnone hr) (e.trans<|.own _ hr) (none_of e.h hr) ⟨W2.gnone hr,vs,aq,h⟩
theorem fA{R:Rp α}{ma:Res (List α)}(ha:EV Er ta σ W (pk R) ma):EVo Er (fb (fun xs H Q=>∃p ys,xs=[.ref p]/\(SqL K H p ys\/SqT K H p ys)/\∀l,H l=none->Q (.ref l) (cy H l<|.lst ys))<|ai ta aO) σ W R ma:=fun W1 e1 Q k=>
 ha W1 e1 _ (k.imp fun a ka x W2 e2 hx=>by
  obtain⟨p,vs,rfl,h1,h2⟩:=hx;exact⟨p,vs,rfl,.inl (GR h1),fun l hl=>zU h2 e2 ka l hl⟩)
theorem LR.ints{H:Hp}{ns:List Int}{vs:List V}(h:LR isI H ns vs):vs=ns.map Ir:=by
 refine JW fun i=>?_;rw[G4];cases e:ns[i]? with
 |none=>rw[G6]at e;rw[G6.mpr (by rw[h.1];exact e)];rfl
 |some m=>obtain⟨v,a,b⟩:=h.get e;rw[a];cases b;rfl
theorem LR.bools{H:Hp}{ns:List Bool}{vs:List V}(h:LR isB H ns vs):vs=ns.map Ny:=by
 refine JW fun i=>?_;rw[G4];cases e:ns[i]? with
 |none=>rw[G6]at e;rw[G6.mpr (by rw[h.1];exact e)];rfl
 |some m=>obtain⟨v,a,b⟩:=h.get e;rw[a];cases b;rfl
theorem zV{ma:Res (List Bool)}(ha:EV Er ta σ W (pk isB) ma):EV Er (fb (fun xs H Q=>∃(p:Addr)(bs:List Bool),xs=[.ref p]/\SqL K H p (bs.map Ny)/\Q (.bl<|bs.all id) H)<|ai ta aO) σ W (sh isB) (ma.bind fun a=>.ok<|a.all id):=fun W1 e1 Q k=>
 ha W1 e1 _ ((ED k).imp fun a ka x W2 e2 hx=>by
  obtain⟨p,vs,rfl,h1,h2⟩:=hx;exact⟨p,a,rfl,GR (by rw[h1,h2.bools]),ka _ W2 e2 rfl⟩)
theorem zW{ma:Res (List Bool)}(ha:EV Er ta σ W (pk isB) ma):EV Er (fb (fun xs H Q=>∃(p:Addr)(bs:List Bool),xs=[.ref p]/\SqL K H p (bs.map Ny)/\Q (.bl<|bs.any id) H)<|ai ta aO) σ W (sh isB) (ma.bind fun a=>.ok<|a.any id):=fun W1 e1 Q k=>
 ha W1 e1 _ ((ED k).imp fun a ka x W2 e2 hx=>by
  obtain⟨p,vs,rfl,h1,h2⟩:=hx;exact⟨p,a,rfl,GR (by rw[h1,h2.bools]),ka _ W2 e2 rfl⟩)
theorem nA{ma mb:Res Int}(ha:EV Er ta σ W (sh isI) ma)(hb:EV Er tb σ W (sh isI) mb):EV Er (fb (fun xs H Q=>∃i j,xs=[.int i,.int j]/\Q (.int (if j>i then j else i)) H)<|ai ta<|ai tb aO) σ W (sh isI) (ma.bind fun a=>mb.bind fun b=>.ok (if b>a then b else a)):=fun W1 e1 Q k=>
 ha W1 e1 _ ((ED k).imp fun a ka x W2 e2 hx=>hb W2 (e1.trans e2) _ ((ED ka).imp fun b kb y W3 e3 hy=>by cases hx;cases hy;exact⟨a,b,rfl,kb _ W3 (e2.trans e3) rfl⟩))
theorem xR{ma mb:Res Int}(ha:EV Er ta σ W (sh isI) ma)(hb:EV Er tb σ W (sh isI) mb):EV Er (fb (fun xs H Q=>∃i j,xs=[.int i,.int j]/\Q (.int (if j<i then j else i)) H)<|ai ta<|ai tb aO) σ W (sh isI) (ma.bind fun a=>mb.bind fun b=>.ok (if b<a then b else a)):=fun W1 e1 Q k=>
 ha W1 e1 _ ((ED k).imp fun a ka x W2 e2 hx=>hb W2 (e1.trans e2) _ ((ED ka).imp fun b kb y W3 e3 hy=>by cases hx;cases hy;exact⟨a,b,rfl,kb _ W3 (e2.trans e3) rfl⟩))
theorem sF(l:List Int):∀a:Int,(∀x∈l,x<=l.foldl (fun a b=>if b>a then b else a) a)/\a<=l.foldl (fun a b=>if b>a then b else a) a/\(l.foldl (fun a b=>if b>a then b else a) a=a\/l.foldl (fun a b=>if b>a then b else a) a∈l):=by
 induction l with
 |nil=>intro a;simp
 |cons x r ih=>
  intro a;obtain⟨h1,h2,h3⟩:=ih (if x>a then x else a);simp only[Iw];refine⟨fun y hy=>?_,?_,?_⟩
  ·rcases F9.mp hy with rfl | hy;·refine Ng ?_ h2;split<;>omega
   ·exact h1 y hy
  ·refine Ng ?_ h2;split<;>omega
  ·rcases h3 with h3 | h3
   ·rw[h3];split;·exact .inr<|EZ ..
    ·exact .inl rfl
   ·exact .inr<|F5 _ h3
theorem zX{ma:Res (List Int)}(ha:EV Er ta σ W (pk isI) ma):EV Er (fb (fun xs H Q=>∃(p:Addr)(ns:List Int),xs=[.ref p]/\SqL K H p (ns.map Ir)/\0<ns.length/\∀M,M∈ns->(∀a∈ns,a<=M)->Q (.int M) H)<|ai ta aO) σ W (sh isI) (ma.bind fun a=>xF a):=fun W1 e1 Q k=>
 ha W1 e1 _ ((ED k).imp fun a ka x W2 e2 hx=>by
  obtain⟨p,vs,rfl,h1,h2⟩:=hx;obtain⟨h3,h4⟩:=aU ka;refine⟨p,a,rfl,GR (by rw[h1,h2.ints]),h3,fun M hM hb=>?_⟩;have e:M=a.foldl (fun a b=>if b>a then b else a) (a.headD 0):=by
   obtain⟨q1,q2,q3⟩:=sF a<|a.headD 0;have m1:=q1 M hM;have m2:a.foldl (fun a b=>if b>a then b else a) (a.headD 0)∈a:=by
    rcases q3 with q3|q3
    ·rw[q3];cases a with
     |nil=>cases hM
     |cons x r=>exact EZ ..
    ·exact q3
   have:=hb _ m2;omega
  rw[e];exact h4 _ W2 e2 rfl)
theorem uW{f:α->V}{g:β->Key}[DecidableEq β](hg:∀a b,g a=g b->a=b)(kvs:List (β×α))(k:β):fH (kvs.map fun p=>(g p.1,f p.2)) (g k)=(look kvs k).map f:=by
 induction kvs with
 |nil=>rfl
 |cons p r ih=>
  unfold look at ih ⊢;rw[FZ];by_cases z:p.1=k;·rw[gO (by rw[z]),Hd (by simpa using z)];rfl
  ·rw[gP<|fun e=>z<|hg _ _ e,ih,FR (by simpa using z)]
theorem nE{R:Rp α}{Rk:Rp β}[DecidableEq β]{d:Addr}{kv:List (Key×V)}{kvs:List (β×α)}{f:α->V}{g:β->Key}(hg:∀a b,g a=g b->a=b)(hf:∀H a,R H a<|f a)(hk:∀H b v,Rk H b v->v=kV (g b))(D:DictK K w d kv)(e:kv=kvs.map fun p=>(g p.1,f p.2)){m:Res β}(h:EV Er t σ W (sh Rk) m):
  EV Er (ba K w (tC<|.ref d) t) σ W (sh R) (m.bind fun k=>getD kvs k):=fun W1 e1 Q k=>
 h W1 e1 _ ((ED k).imp fun b kb v W2 e2 hv=>by
  obtain⟨a,h1,h2⟩:=dN kb;refine⟨d,kv,g b,f a,rfl,D,hk _ _ _ hv,?_,h2 _ W2 e2 (hf _ _)⟩;rw[e,uW hg,h1];rfl)
theorem iL:∀a b:Tx,(FU (sOf a):Key)=FU (sOf b)->a=b:=fun a b e=>qE<|Nr e
theorem CZ:∀a b:Int,(Hq a:Key)=Hq b->a=b:=fun a b e=>Nq e
theorem my{d:Addr}{kv:List (Key×V)}{kvs:List (Tx×Int)}(D:DictK K w d kv)(e:kv=kvs.map fun p=>(FU<|sOf p.1,Ir p.2)){m:Res Tx}(h:EV Er t σ W (sh isS) m):EV Er (ba K w (tC<|.ref d) t) σ W (sh isI) (m.bind fun k=>getD kvs k):=nE (R:=isI) (f:=Ir) (g:=fun a=>FU<|sOf a) iL (fun _ _=>rfl) (fun _ _ _ h=>h) D e h
theorem sG{d:Addr}{kv:List (Key×V)}{kvs:List (Tx×Tx)}(D:DictK K w d kv)(e:kv=kvs.map fun p=>(FU<|sOf p.1,IK<|sOf p.2)){m:Res Tx}(h:EV Er t σ W (sh isS) m):EV Er (ba K w (tC<|.ref d) t) σ W (sh isS) (m.bind fun k=>getD kvs k):=nE (R:=isS) (f:=fun a=>IK<|sOf a) (g:=fun a=>FU<|sOf a) iL (fun _ _=>rfl) (fun _ _ _ h=>h) D e h
theorem sH{d:Addr}{kv:List (Key×V)}{kvs:List (Int×Tx)}(D:DictK K w d kv)(e:kv=kvs.map fun p=>(Hq p.1,IK<|sOf p.2)){m:Res Int}(h:EV Er t σ W (sh isI) m):EV Er (ba K w (tC<|.ref d) t) σ W (sh isS) (m.bind fun k=>getD kvs k):=nE (R:=isS) (f:=fun a=>IK<|sOf a) (g:=fun a=>Hq a) CZ (fun _ _=>rfl) (fun _ _ _ h=>h) D e h
def EqK(K:EH)(H:Hp):Nat->V->V->Prop
  |0,v,u=>v=u/\flat v=true
  |n+1,v,u=>(v=u/\flat v=true)\/ ∃p q xs ys,v= .ref p/\u= .ref q/\((H p=some (.lst xs)/\H q=some (.lst ys))\/(SqT K H p xs/\SqT K H q ys))/\xs.length=ys.length/\
      ∀(i:Nat)(x y:V),xs[i]? =some x->ys[i]? =some y->EqK K H n x y
theorem EqK.same{H H':Hp}(e:Same H H'):∀{n:Nat}{v u:V},EqK K H n v u->EqK K H' n v u
 |0,_,_,h=>h
 |n+1,_,_,h=>by
  rcases h with h|⟨p,q,xs,ys,h1,h2,h3,h4,h5⟩
  ·exact .inl h
  ·refine .inr ⟨p,q,xs,ys,h1,h2,?_,h4,fun i x y e1 e2=>EqK.same e<|h5 i x y e1 e2⟩;rcases h3 with⟨a,b⟩|⟨a,b⟩
   ·exact .inl ⟨e _ _ a,e _ _ b⟩
   ·exact .inr ⟨Km e a,Km e b⟩
theorem EqK.flat{H:Hp}{n:Nat}{v:V}(h:L2.flat v=true):EqK K H n v v:=by cases n with|zero=>exact⟨rfl,h⟩|succ n=>exact .inl ⟨rfl,h⟩
class EqR(K:EH){α:Type}(R:Rp α)(n:outParam Nat):Prop where
 eq:∀H a v u m,n<=m->R H a v->R H a u->EqK K H m v u
instance zkeep18:EqR K isI 0:=⟨fun H a v u m _ h1 h2=>by cases h1;cases h2;exact .flat rfl⟩
instance zkeep19:EqR K isS 0:=⟨fun H a v u m _ h1 h2=>by cases h1;cases h2;exact .flat rfl⟩
instance zkeep23{R:Rp α}{n:Nat}[EqR K R n]:EqR K (isL R) (n+1):=⟨fun H a v u m hm⟨p,vs,h1,h2,h3⟩⟨q,us,g1,g2,g3⟩=>by
 cases m with
 |zero=>omega
 |succ m=>
  refine .inr ⟨p,q,vs,us,h1,g1,.inl ⟨h2,g2⟩,by rw[h3.1,g3.1],fun i x y e1 e2=>?_⟩;obtain⟨b,hb,rb⟩:=h3.got e1;exact EqR.eq H b x y m (by omega) rb (g3.2 i y b e2 hb)⟩
instance zkeep25{R1:Rp α}{R2:Rp β}{R3:Rp γ}{n k l:Nat}[EqR K R1 n][EqR K R2 k][EqR K R3 l]:EqR K (isT3 K R1 R2 R3) (max n (max k l)+1):=⟨fun H a v u m hm⟨p,x,y,z,h0,h,h1,h2,h3⟩⟨q,x',y',z',g0,g,g1,g2,g3⟩=>by
 cases m with
 |zero=>omega
 |succ m=>
  refine .inr ⟨p,q,_,_,h0,g0,.inr ⟨h,g⟩,rfl,fun i w w' e1 e2=>?_⟩
  match i,e1,e2 with
  |0,e1,e2=>cases e1;cases e2;exact EqR.eq H _ _ _ m (by omega) h1 g1
  |1,e1,e2=>cases e1;cases e2;exact EqR.eq H _ _ _ m (by omega) h2 g2
  |2,e1,e2=>cases e1;cases e2;exact EqR.eq H _ _ _ m (by omega) h3 g3⟩
end
end Wb
namespace L2
open PySem PySem.Spec PyProof.Rows
section
variable{X:Cx}{K:EH}{w:Fp}{o e:Expr}{to:TE}{t:TA}{apos cpos:Pos}
def Ba(K:EH):V->List V->Hp->VK->Prop:=fun x xs H Q=>∃(p:Addr)(ys:List (List Nat)),x=.str (sOf [])/\xs=[.ref p]/\SqL K H p (ys.map fun y=>IK<|sOf y)/\ys.flatten.length<=100000/\Q (.str<|sOf ys.flatten) H
def Bb:V->List V->Hp->VK->Prop:=fun x xs H Q=>∃a b,x=.str a/\xs=[.str b]/\0<=JI a b/\Q (.int<|JI a b) H
abbrev D0(X:Cx)(cpos:Pos)(e:Expr):Prop:=((backTo cpos<|starEach [e] X.env).all (fun x=> !x.1)&&(backToKw cpos<|keywordEach [] X.env).all (fun x=>x.1.isSome)&&decide ([e].length+([]:List Kq).length+(if([]:List Kq).isEmpty then 0 else 1)<30))=true
theorem uX(h:X.K=K)(ho:PE X o to)(ha:PA X [e] t)(hbase:attributeBase o "join" X.env (eval o X.env)=eval o X.env:=by rfl)(hfew:D0 X cpos e:=by rfl)(hline:(apos.endLine==cpos.line)=true:=by rfl)(hs:starEach [e] X.env=(false,eval e X.env)::starEach [] X.env:=by rfl)(hplain:(backTo cpos<|starEach [] X.env).any (·.1)=false:=by rfl):
  PE X (.Call (.Attribute o "join" apos) [e] [] cpos) (ff K "str" (Ba K) to t):=nr (K:=K) h Ku PySem.F.slot_str_join PySem.F.type_str_join (uI (K:=K) h) ho ha hbase hfew hline hs hplain
theorem mC(h:X.K=K)(hc:X.calm=true)(ho:PE X o to)(ha:PA X [e] t)(hbase:attributeBase o "index" X.env (eval o X.env)=eval o X.env:=by rfl)(hfew:D0 X cpos e:=by rfl)(hline:(apos.endLine==cpos.line)=true:=by rfl)(hs:starEach [e] X.env=(false,eval e X.env)::starEach [] X.env:=by rfl)(hplain:(backTo cpos<|starEach [] X.env).any (·.1)=false:=by rfl):
  PE X (.Call (.Attribute o "index" apos) [e] [] cpos) (ff K "str" Bb to t):=nr (K:=K) h Ku PySem.F.slot_str_index PySem.F.type_str_index (uA hc) ho ha hbase hfew hline hs hplain
theorem dm(h:X.K=K)(ho:PE X o to)(ha:PA X [e] t)(hbase:attributeBase o "append" X.env (eval o X.env)=eval o X.env:=by rfl)(hfew:D0 X cpos e:=by rfl)(hline:(apos.endLine==cpos.line)=true:=by rfl)(hs:starEach [e] X.env=(false,eval e X.env)::starEach [] X.env:=by rfl)(hplain:(backTo cpos<|starEach [] X.env).any (·.1)=false:=by rfl):
  PE X (.Call (.Attribute o "append" apos) [e] [] cpos) (ff K "list" aH to t):=nr (K:=K) h Gg KH PySem.F.type_list_append rR ho ha hbase hfew hline hs hplain
end
end L2
namespace Wb
open PySem L2 Mi
variable{Er:Nat->Prop}
section
variable{α β γ δ:Type}{t t1 t2 t3 ta tb tc:TE}{σ:St}{W W0 W':Wd}{K:EH}{w:Fp}
class NN{α:Type}(R:Rp α):Prop where
 nn:∀H a v,R H a v->v≠.non
instance zkeep29{R:Rp α}:NN (isL R):=⟨fun _ _ _⟨p,vs,h,_⟩=>by rw[h];exact fun z=>nomatch z⟩
theorem uY{R:Rp α}[NN R]{m:Res α}(h:EV Er t σ W (sh R) m):EV Er t σ W (sh<|isO R) (m.bind fun a=>.ok<|some a):=fun W1 e1 Q k=>
 h W1 e1 _ ((ED k).imp fun a ka v W2 e2 hv=>ka v W2 e2 ⟨hv,NN.nn _ _ _ hv⟩)
theorem uZ{R:Rp α}{m:Res (Option α)}(h:EV Er t σ W (sh<|isO R) m):EV Er t σ W (sh R) (m.bind fun a=>fM a):=fun W1 e1 Q k=>
 h W1 e1 _ ((ED k).imp fun a ka v W2 e2 hv=>by
  obtain⟨b,rfl,hb⟩:=dN ka;exact hb v W2 e2 hv.1)
theorem va{xs:List α}{ys:List β}{zs:List γ}{i:Nat}{p:α×β×γ}(h:(xs.zip<|ys.zip zs)[i]? =some p):xs[i]? =some p.1/\ys[i]? =some p.2.1/\zs[i]? =some p.2.2:=by
 rw[Hw]at h;obtain⟨h1,h2⟩:=h;rw[Hw]at h2;exact⟨h1,h2.1,h2.2⟩
theorem qO{R1:Rp α}{R2:Rp β}{R3:Rp γ}[Mono R1][Mono R2][Mono R3]{m1:Res (List α)}{m2:Res (List β)}{m3:Res (List γ)}(h1:SV Er t1 σ W K R1 m1)(h2:SV Er t2 σ W K R2 m2)(h3:SV Er t3 σ W K R3 m3):IV Er (z9 K<|ai t1<|ai t2<|ai t3 aO) σ W (isT3 K R1 R2 R3) (m1.bind fun xs=>m2.bind fun ys=>m3.bind fun zs=>.ok<|xs.zip<|ys.zip zs):=fun W1 e1 P k=>
 h1 W1 e1 _ ((ED k).imp fun xs kx v W2 e2 hv=>h2 W2 (e1.trans e2) _ ((ED kx).imp fun ys ky u W3 e3 hu=>h3 W3 ((e1.trans e2).trans e3) _ ((ED ky).imp fun zs kz r W4 e4 hr=>by
  obtain⟨c1,vs,rfl,a1,b1⟩:=Ob hv (e3.trans e4).g;obtain⟨c2,us,rfl,a2,b2⟩:=Ob hu e4.g;obtain⟨c3,rs,rfl,a3,b3⟩:=hr;refine⟨c1,c2,c3,vs,us,rs,rfl,a1 W4<|.refl _,a2 W4<|.refl _,a3 W4<|.refl _,kz _ W4 ((e2.trans e3).trans e4) fun W5 e5=>⟨fun i ab hab=>?_,?_⟩⟩
  ·obtain⟨q1,q2,q3⟩:=va hab;obtain⟨x,hx,rx⟩:=b1.get q1;obtain⟨y,hy,ry⟩:=b2.get q2;obtain⟨z,hz,rz⟩:=b3.get q3;refine⟨⟨vs,us,rs,x,y,z,a1 W5 e5,a2 W5 e5,a3 W5 e5,hx,hy,hz⟩,fun o H'⟨p,x',y',z',hp,z0,z1,z2,z3,z4⟩=>⟨W5.new p<|.tup [x',y',z'],by rw[z4];rfl,.new _ hp,p,x',y',z',z0,M4 aq,?_,?_,?_⟩⟩
   ·have:=z1 vs<|a1 W5 e5;rw[hx]at this;cases this;exact EG (e5.trans (K1 _ hp).g) rx
   ·have:=z2 us<|a2 W5 e5;rw[hy]at this;cases this;exact EG (e5.trans (K1 _ hp).g) ry
   ·have:=z3 rs<|a3 W5 e5;rw[hz]at this;cases this;exact EG (e5.trans (K1 _ hp).g) rz
  ·refine⟨vs,us,rs,a1 W5 e5,a2 W5 e5,a3 W5 e5,?_⟩;rw[IA,IA,b1.1,b2.1,b3.1];omega)))
end
end Wb
namespace Mi
theorem iV{a b:Int}(h:0<b):lE a b=.ok (a%b):=bA h
theorem vb{a b:Int}(h1:0<b)(h2:b<1073741824):qH a b=.ok (a/b):=bA ⟨h1,h2⟩
theorem oq{a b:Int}(h1: -18446744073709551616<a)(h2:a<18446744073709551616):oj a b=.ok (a*b):=bA<|.inl ⟨h1,h2⟩
theorem vc{a b:Int}(h1: -18446744073709551616<b)(h2:b<18446744073709551616):oj a b=.ok (a*b):=bA<|.inr ⟨h1,h2⟩
theorem fQ{α:Type}{xs:List α}{x:α}(h:xs.length<100000):en xs x=.ok (xs++[x]):=bA h
theorem cH{a b:Tx}(h:a.length+b.length<=100000):ee a b=.ok (a++b):=bA h
theorem xS{α:Type}{a b:List α}(h:a.length+b.length<=100000):zP a b=.ok (a++b):=bA h
theorem nG{a:Tx}(h:a.length<=100000):sr a=.ok (a.length:Int):=bA h
theorem qP{c:Nat}{n:Int}(h0:0<=n)(h1:n<=100000):xD [c] n=.ok (Fg n.toNat c):=bA ⟨h0,h1⟩
theorem qQ{a:Tx}{lo hi:Option Int}(h:a.length<=100000):iC a lo hi=.ok (cut a lo hi):=bA h
theorem vd{xs:List Tx}(h:xs.flatten.length<=100000):uM xs=.ok xs.flatten:=bA h
theorem jA{n:Nat}(h:n<=100000):gS (n:Int)=.ok ((HP n).map fun(i:Nat)=>(i:Int)):=by
 unfold gS;rw[bA ⟨by omega,by omega⟩];simp[fW]
theorem f6{α:Type}{xs:List α}{i:Int}(h0:0<=i)(h1:i<xs.length):∃x,gz xs i=.ok x/\xs[i.toNat]? =some x:=by
 obtain⟨h,e⟩:=uK h0 h1;exact⟨xs[i.toNat],by unfold gz;rw[e];rfl,by simp[h]⟩
theorem iW{x:Tx}{i:Int}(h0:0<=i)(h1:i<x.length)(h2:x.length<=100000):∃c,iJ x i=.ok [c]/\x[i.toNat]? =some c:=by
 obtain⟨h,e⟩:=uK h0 h1;refine⟨x[i.toNat],?_,by simp[h]⟩;unfold iJ;rw[bA h2];show(fM<|sq x i).bind _=_;rw[e];rfl
theorem zY{x:Tx}{i:Int}(h0:0<=i)(h1:i<x.length)(h2:x.length<=100000):iJ x i=.ok [x[i.toNat]?.getD 0]:=by
 obtain⟨c,e,h⟩:=iW h0 h1 h2;rw[e,h];rfl
theorem xT{α:Type}{xs:List α}{i:Int}{x:α}(h0:0<=i)(h1:i<xs.length):jV xs i x=.ok (xs.set i.toNat x):=by
 unfold jV ixN;rw[if_pos h0,if_pos h1];rfl
theorem l9{α:Type}[DecidableEq α]{a b:α}(h:a=b):za a b=.ok true:=if_pos h
theorem gW{α S:Type}{f:α->S->Res S}(I:List α->S->Prop)(xs:List α)(s0:S)(h0:I [] s0)(step:∀pre a post s,xs=pre++a::post->I pre s->∃s',f a s=.ok s'/\I (pre++[a]) s'):
  ∃s,cj f xs s0=.ok s/\I xs s:=by
 have key:∀(post pre:List α)(s:S),xs=pre++post->I pre s->∃s',cj f post s=.ok s'/\I xs s':=by
  intro post
  induction post with
  |nil=>intro pre s e h;rw[FG]at e;subst e;exact⟨s,rfl,h⟩
  |cons a r ih=>
   intro pre s e h;obtain⟨s1,e1,h1⟩:=step pre a r s e h;obtain⟨s2,e2,h2⟩:=ih (pre++[a]) s1 (by rw[e];simp) h1;exact⟨s2,by unfold cj;rw[e1];exact e2,h2⟩
 exact key xs [] s0 rfl h0
theorem ou{α S γ:Type}{f:α->S->Res (Fl γ S)}(I:List α->S->Prop)(xs:List α)(s0:S)(h0:I [] s0)(step:∀pre a post s,xs=pre++a::post->I pre s->∃s',f a s=.ok (.nx s')/\I (pre++[a]) s'):
  ∃s,iD f xs s0=.ok (.nx s)/\I xs s:=by
 have key:∀(post pre:List α)(s:S),xs=pre++post->I pre s->∃s',iD f post s=.ok (.nx s')/\I xs s':=by
  intro post
  induction post with
  |nil=>intro pre s e h;rw[FG]at e;subst e;exact⟨s,rfl,h⟩
  |cons a r ih=>
   intro pre s e h;obtain⟨s1,e1,h1⟩:=step pre a r s e h;obtain⟨s2,e2,h2⟩:=ih (pre++[a]) s1 (by rw[e];simp) h1;exact⟨s2,by unfold iD;rw[e1];exact e2,h2⟩
 exact key xs [] s0 rfl h0
theorem ow{α β:Type}{f:α->Res (Option β)}{g:α->Option β}:∀{xs:List α},(∀x∈xs,f x=.ok (g x))->gA f xs=.ok (xs.filterMap g)
 | [],_=>rfl
 |a::r,h=>by
  unfold gA;rw[h a<|EZ ..,EF,ow fun x hx=>h x<|F5 _ hx,EF,HF];cases g a<;>rfl
theorem la{α β:Type}{f:α->Res (Option β)}{g:α->Option β}{xs:List α}(hl:xs.length<=100000)(h:∀x∈xs,f x=.ok (g x)):iE xs f=.ok (xs.filterMap g):=by
 unfold iE;rw[bA hl,EF,ow h]
theorem ve{α β:Type}{f:α->Res β}{P:α->β->Prop}{xs:List α}(hl:xs.length<=100000)(h:∀x∈xs,∃y,f x=.ok y/\P x y):∃ys,bI xs f=.ok ys/\ys.length=xs.length/\∀(i:Nat)x y,xs[i]? =some x->ys[i]? =some y->P x y:=by
 unfold bI;rw[bA hl,EF];clear hl
 induction xs with
 |nil=>exact⟨[],rfl,rfl,fun i x y e=>by simp at e⟩
 |cons a r ih=>
  obtain⟨b,e,hb⟩:=h a<|EZ ..;obtain⟨bs,e2,hl2,h2⟩:=ih fun x hx=>h x<|F5 _ hx;refine⟨b::bs,by unfold jt;rw[e,EF,e2];rfl,by simp[hl2],fun i x y e3 e4=>?_⟩;cases i with
  |zero=>cases e3;cases e4;exact hb
  |succ j=>exact h2 j x y e3 e4
theorem zb(l:List Nat):((l.map fun c=>[c]):List Tx).flatten=l:=by induction l with|nil=>rfl|cons a r ih=>simp[ih]
theorem oy{α:Type}(l:List α)(k:Nat):cut l none (some (k:Int))=l.take k:=by
 unfold cut sIx;simp only[];rw[if_neg (by omega),GO];simp[List.take_eq_take_iff]
theorem oz{α:Type}(l:List α)(k:Nat):cut l (some (k:Int)) none=l.drop k:=by
 unfold cut sIx;simp only[];rw[if_neg (by omega),GO];by_cases h:k<=l.length;·rw[Nat.min_eq_left h,IT (by simp)]
 ·rw[Nat.min_eq_right (by omega),Kv (by omega),Kv (by omega)];simp
theorem ic{x:Tx}{t:Tx}(h:t∈bo x):∃c∈x,t=[c]:=by
 unfold bo at h;obtain⟨c,hc,e⟩:=Fh.mp h;exact⟨c,hc,e.symm⟩
theorem xU(a:Int):0<=dX a:=by unfold dX;split<;>omega
section
variable{α β:Type}{P:α->Prop}{Q:β->Prop}
theorem tU{m:Res α}{f:α->Res β}(h:m.Ok fun a=>(f a).Ok Q):(m.bind f).Ok Q:=Res.bind_ok h
theorem D4{b:Bool}{A B:Res α}(h1:b=true->A.Ok P)(h2:b=false->B.Ok P):(if b=true then A else B).Ok P:=by
 cases b with
 |true=>exact h1 rfl
 |false=>exact h2 rfl
theorem vf{c:Prop}[Decidable c]{A B:Res α}(h1:c->A.Ok P)(h2:¬c->B.Ok P):(if decide c=true then A else B).Ok P:=by
 by_cases h:c;·rw[decide_eq_true h];exact h1 h
 ·rw[decide_eq_false h];exact h2 h
theorem okR{a:α}(h:P a):(EK a).Ok P:=h
end
theorem qR{α:Type}(x:List α)(lo hi:Option Int):(cut x lo hi).length<=x.length:=by
 unfold cut;rw[HI,Io];omega
end Mi
namespace Wb
open PySem L2 Mi
variable{Er:Nat->Prop}
section
variable{α β γ:Type}{K:EH}{σ:L2.St}{W:Wd}
theorem pN{n:Nat}(h:n<=cap):gS (n:Int)=.ok (fW (n:Int)):=by
 unfold gS;exact bA (by unfold cap at h;omega)
theorem pO{ta:TE}{R:Rp α}{m:Res (List α)}(h:EV Er ta σ W (pk R) m):IV Er (u7<|ai (fb (fun xs H Q=>∃x n,xs=[x]/\nS K x H n/\Q (.int n) H)<|ai ta aO) aO) σ W isI (m.bind fun xs=>iT xs):=fun W1 e1 P k=>
  iU (eY (K:=K) h) W1 e1 P (Nh (Nh ((ED k).imp fun xs kx=>by
      have hc:xs.length<=cap:=by
        unfold iT at kx;exact(aU<|ED kx).1
      rw[kX hc]at kx;rw[show ∀(Q:Int->Prop)(n:Int),(EK n).OkE Er Q=Q n from fun _ _=>rfl,pN hc];exact kx)))
end
end Wb
namespace Mi
inductive Dat where
 |n|b (x:Bool)|i (x:Int)|s (x:Tx)|t (xs:List Dat)|l (xs:List Dat)
noncomputable instance zkeep38:DecidableEq Dat:=fun _ _=>Classical.propDecidable _
def Dat.le:Nat->Dat->Prop
 |0,d=>match d with| .t _=>False| .l _=>False|_=>True
 |k+1,d=>match d with| .t xs=>∀x∈xs,Dat.le k x| .l xs=>∀x∈xs,Dat.le k x|_=>True
open Classical in
noncomputable def vg(a b:Dat):Res Bool:=if a=b/\a.le 24 then .ok true else .stuck
theorem vh{a b:Dat}(h:a=b)(hl:a.le 24):vg a b=.ok true:=if_pos ⟨h,hl⟩
def jW(d:Dat)(i:Int):Res Dat:=match d with| .t xs=>fM (sq xs i)|_=>.stuck
def zZ:Dat->Option Int| .i x=>some x|_=>none
def pP:Dat->Option Tx| .s x=>some x|_=>none
def A0{α:Type}(f:α->Dat)(o:Option α):Dat:=match o with|none=>.n|some a=>f a
def eW{κ α:Type}[DecidableEq κ](kvs:List (κ×α))(k:κ)(a:α):List (κ×α):=
 if(kvs.any fun kv=>decide<|kv.1=k)=true then kvs.map (fun kv=>if kv.1=k then(kv.1,a)else kv)else kvs++[(k,a)]
def fX{κ α:Type}[DecidableEq κ](kvs:List (κ×α))(k:κ)(a:α):Res (List<|κ×α):=fc (kvs.length<cap)<|eW kvs k a
theorem DC{α:Type}{a:α}{Er:Nat->Prop}{P:α->Prop}(h:P a):(EK a).OkE Er P:=h
end Mi
open Mi.Dat renaming s->G5,t->Ho,l->J7,le->Lu,n->Mz,i->NA
namespace Wb
open PySem L2 Mi
variable{Er:Nat->Prop}
inductive isU(K:EH)(H:Hp):Dat->V->Prop where
 |n:isU K H .n .non
 |b {x:Bool}:isU K H (.b x) (.bl x)
 |i {x:Int}:isU K H (.i x) (.int x)
 |s {x:Tx}:isU K H (.s x) (.str<|sOf x)
 |t {p:Addr} {xs:List Dat} {vs:List V} (h:SqT K H p vs) (hl:vs.length=xs.length) (r:∀(j:Nat)x v,xs[j]? =some x->vs[j]? =some v->isU K H x v):isU K H (.t xs) (.ref p)
 |l {p:Addr} {xs:List Dat} {vs:List V} (h:H p=some (.lst vs)) (hl:vs.length=xs.length) (r:∀(j:Nat)x v,xs[j]? =some x->vs[j]? =some v->isU K H x v):isU K H (.l xs) (.ref p)
section
variable{α β γ δ:Type}{t t1 t2 t3 t4 ta tb tc td:TE}{σ:St}{W W0 W':Wd}{K:EH}{w:Fp}
theorem isU.same{H H':Hp}{d:Dat}{v:V}(e:Same H H')(h:isU K H d v):isU K H' d v:=by
 induction h with
 |n=>exact .n
 |b=>exact .b
 |i=>exact .i
 |s=>exact .s
 |t h hl r ih=>exact .t (Km e h) hl ih
 |l h hl r ih=>exact .l (e _ _ h) hl ih
instance zkeep39:Mono (isU K):=⟨fun e h=>isU.same e h⟩
theorem isU.eqk{H:Hp}:∀(n:Nat)(d:Dat)(v u:V),d.le n->isU K H d v->isU K H d u->EqK K H n v u:=by
 intro n
 induction n with
 |zero=>
  intro d v u hd h1 h2;cases h1 with
  |n=>cases h2;exact .flat rfl
  |b=>cases h2;exact .flat rfl
  |i=>cases h2;exact .flat rfl
  |s=>cases h2;exact .flat rfl
  |t h hl r=>exact hd.elim
  |l h hl r=>exact hd.elim
 |succ n ih=>
  intro d v u hd h1 h2;cases h1 with
  |n=>cases h2;exact .flat rfl
  |b=>cases h2;exact .flat rfl
  |i=>cases h2;exact .flat rfl
  |s=>cases h2;exact .flat rfl
  | @t p xs vs h hl r=>
   cases h2 with
   | @t q _ us h' hl' r'=>
    refine .inr ⟨p,q,vs,us,rfl,rfl,.inr ⟨h,h'⟩,by rw[hl,hl'],fun i x y e1 e2=>?_⟩;have hi:i<xs.length:=by rw[<-hl];exact(ER.mp e1).1
    have e3:xs[i]? =some xs[i]:=FQ hi;exact ih xs[i] x y (hd _<|Ke hi) (r i _ x e3 e1) (r' i _ y e3 e2)
  | @l p xs vs h hl r=>
   cases h2 with
   | @l q _ us h' hl' r'=>
    refine .inr ⟨p,q,vs,us,rfl,rfl,.inl ⟨h,h'⟩,by rw[hl,hl'],fun i x y e1 e2=>?_⟩;have hi:i<xs.length:=by rw[<-hl];exact(ER.mp e1).1
    have e3:xs[i]? =some xs[i]:=FQ hi;exact ih xs[i] x y (hd _<|Ke hi) (r i _ x e3 e1) (r' i _ y e3 e2)
def oA(K:EH)(R:Rp α)(u:α->Dat):Prop:=∀H a v,R H a v->isU K H (u a) v
theorem oE:oA K isI .i:=fun _ _ _ h=>by cases h;exact .i
theorem cD:oA K isS .s:=fun _ _ _ h=>by cases h;exact .s
theorem vi:oA K isN (fun _=>.n):=fun _ _ _ h=>by cases h;exact .n
theorem lb:oA K (isU K) id:=fun _ _ _ h=>h
theorem Bc{R:Rp α}{u:α->Dat}(h:oA K R u):oA K (isO R) (fun o=>A0 u o):=fun H o v r=>by
 cases o with
 |none=>cases r;exact .n
 |some a=>exact h _ _ _ r.1
theorem iX{R:Rp α}{u:α->Dat}(h:oA K R u):oA K (isL R) (fun xs=>.l<|xs.map u):=fun H xs v⟨p,vs,h0,h1,h2⟩=>by
 subst h0;refine .l h1 (by rw[Fz,h2.1]) fun j x v e1 e2=>?_;rw[G4]at e1;obtain⟨a,ha,rfl⟩:=Hb.mp e1;exact h _ _ _<|h2.2 j v a e2 ha
theorem fe{R1:Rp α}{R2:Rp β}{u1:α->Dat}{u2:β->Dat}(h1:oA K R1 u1)(h2:oA K R2 u2):oA K (isT2 K R1 R2) (fun x=>.t [u1 x.1,u2 x.2]):=fun H a v⟨p,x,y,h0,h,r1,r2⟩=>by
 subst h0;refine .t h rfl fun j d v e1 e2=>?_
 match j,e1,e2 with
 |0,e1,e2=>cases e1;cases e2;exact h1 _ _ _ r1
 |1,e1,e2=>cases e1;cases e2;exact h2 _ _ _ r2
theorem zc{R1:Rp α}{R2:Rp β}{R3:Rp γ}{u1:α->Dat}{u2:β->Dat}{u3:γ->Dat}(h1:oA K R1 u1)(h2:oA K R2 u2)(h3:oA K R3 u3):oA K (isT3 K R1 R2 R3) (fun x=>.t [u1 x.1,u2 x.2.1,u3 x.2.2]):=fun H a v⟨p,x,y,z,h0,h,r1,r2,r3⟩=>by
 subst h0;refine .t h rfl fun j d v e1 e2=>?_
 match j,e1,e2 with
 |0,e1,e2=>cases e1;cases e2;exact h1 _ _ _ r1
 |1,e1,e2=>cases e1;cases e2;exact h2 _ _ _ r2
 |2,e1,e2=>cases e1;cases e2;exact h3 _ _ _ r3
theorem cV{R:Rp α}{u:α->Dat}{m:Res α}(h:oA K R u)(e:EV Er t σ W (sh R) m):EV Er t σ W (sh<|isU K) (m.bind fun a=>.ok<|u a):=fun W1 e1 Q k=>
 e W1 e1 _ ((ED k).imp fun a ka v W2 e2 hv=>ka v W2 e2<|h _ _ _ hv)
def D5(K:EH)(R:Rp α)(f:Dat->Option α):Prop:=∀H d v a,isU K H d v->f d=some a->R H a v
theorem oF:D5 K isI zZ:=fun _ _ _ _ h e=>by cases h<;>cases e;rfl
theorem gX:D5 K isS pP:=fun _ _ _ _ h e=>by cases h<;>cases e;rfl
theorem dP{R:Rp α}{f:Dat->Option α}{m:Res Dat}(h:D5 K R f)(e:EV Er t σ W (sh<|isU K) m):EV Er t σ W (sh R) (m.bind fun d=>fM<|f d):=fun W1 e1 Q k=>
 e W1 e1 _ ((ED k).imp fun d kd v W2 e2 hv=>by
  obtain⟨a,h1,h2⟩:=dN kd;exact h2 v W2 e2 (h _ _ _ _ hv h1))
theorem dQ{ma:Res Dat}{mb:Res Int}(ha:EV Er ta σ W (sh<|isU K) ma)(hb:EV Er tb σ W (sh isI) mb):EV Er (dU (d6 K) ta tb) σ W (sh<|isU K) (ma.bind fun a=>mb.bind fun b=>jW a b):=
 pH ha hb fun W a b x y Q hx hy k=>by
  cases hy;unfold jW at k;cases hx with
  | @t p xs vs h hl r=>
   obtain⟨c,h4,h5⟩:=dN k;obtain⟨z,h6,h7⟩:=nu (R:=isU K) (H:=W.G) (as:=xs) (xs:=vs) ⟨hl,fun i v m e1 e2=>r i m v e2 e1⟩ h4;exact⟨p,_,b,z,rfl,rfl,Km W.ok h,h6,h5 _ W (.refl _) h7⟩
  |_=>exact k.elim
theorem Bd{K:EH}(a b:String)(r:Bool)(h:Fw [] (.type a) (.type b)=some r):Fw K (.type a) (.type b)=some r:=by first|exact h|(rw[<-h];rfl)
def f9(K:EH):Nat->Sp
 |0=>fun _ _ _ _=>False
 |n+1=>fun vs H Q _=>∃v u,vs=[v,u]/\((EqK K H n v u/\∀H',Same H H'->Q (.bl true) H')\/∃x y,v=.str x/\u=.str y/\Q (.bl<|decide<|IK x=IK y) H)
theorem gY[DecidableEq α]{R:Rp α}[Mono R]{n N:Nat}[EqR K R n]{E:XK}{ma mb:Res α}(hn:n<N)(ha:EV Er ta σ W (sh R) ma)(hb:EV Er tb σ W (sh R) mb):EV Er (aR (f9 K N) [] E<|ai ta<|ai tb aO) σ W (sh isB) (ma.bind fun a=>mb.bind fun b=>za a b):=fun W1 e1 Q k=>
 ha W1 e1 _ ((ED k).imp fun a ka x W2 e2 hx=>hb W2 (e1.trans e2) _ ((ED ka).imp fun b kb y W3 e3 hy=>by
  unfold za at kb;by_cases z:a=b
  ·rw[if_pos z]at kb;subst z;cases N with
   |zero=>omega
   |succ N=>
    refine⟨x,y,rfl,.inl ⟨EqR.eq W3.H a x y N (by omega) (EG W3.ok<|EG (R:=R) e3.g hx)<|EG W3.ok hy,fun H' hs=>?_⟩⟩;exact kb (.bl true) ⟨W3.G,H',W3.ok.trans hs⟩ ⟨e2.g.trans e3.g,(e2.h.trans e3.h).trans hs,fun p hp=>(e2.trans e3).k p hp⟩ rfl
  ·rw[if_neg z]at kb;exact kb.elim))
theorem oG{N:Nat}{E:XK}{ma mb:Res Dat}(hn:24<N)(ha:EV Er ta σ W (sh<|isU K) ma)(hb:EV Er tb σ W (sh<|isU K) mb):EV Er (aR (f9 K N) [] E<|ai ta<|ai tb aO) σ W (sh isB) (ma.bind fun a=>mb.bind fun b=>vg a b):=fun W1 e1 Q k=>
  ha W1 e1 _ ((ED k).imp fun a ka x W2 e2 hx=>hb W2 (e1.trans e2) _ ((ED ka).imp fun b kb y W3 e3 hy=>by
    unfold vg at kb;by_cases z:a=b/\a.le 24
    · rw[if_pos z]at kb;obtain⟨z,hz⟩:=z;subst z;cases N with
      |zero=>omega
      | succ N =>
        have up:∀(m n:Nat)(d:Dat),n<=m->d.le n->d.le m:=by
          intro m
          induction m with
          | zero => intro n d h1 h2; have : n = 0 := by omega
                    subst this;exact h2
          | succ m ih =>
            intro n d h1 h2;cases n with
            | zero => cases d with
              |t xs=>exact h2.elim
              |l xs=>exact h2.elim
              |_=>trivial
            | succ n => cases d with
              |t xs=>exact fun x hx=>ih n x (by omega) (h2 x hx)
              |l xs=>exact fun x hx=>ih n x (by omega) (h2 x hx)
              |_=>trivial
        refine⟨x,y,rfl,.inl ⟨isU.eqk N a x y (up N 24 a (by omega) hz) (isU.same W3.ok<|isU.same e3.g hx)<|isU.same W3.ok hy,fun H' hs=>?_⟩⟩;exact kb (.bl true) ⟨W3.G,H',W3.ok.trans hs⟩ ⟨e2.g.trans e3.g,(e2.h.trans e3.h).trans hs,fun p hp=>(e2.trans e3).k p hp⟩ rfl
    ·rw[if_neg z]at kb;exact kb.elim))
theorem nH{R1:Rp α}{R2:Rp β}{R3:Rp γ}{R4:Rp δ}[Mono R1][Mono R2][Mono R3][Mono R4]{ma:Res α}{mb:Res β}{mc:Res γ}{md:Res δ}(ha:EV Er ta σ W (sh R1) ma)(hb:EV Er tb σ W (sh R2) mb)(hc:EV Er tc σ W (sh R3) mc)(hd:EV Er td σ W (sh R4) md):
  EV Er (cS<|ai ta<|ai tb<|ai tc<|ai td aO) σ W (sh<|isT4 K R1 R2 R3 R4) (ma.bind fun a=>mb.bind fun b=>mc.bind fun c=>md.bind fun d=>.ok (a,b,c,d)):=fun W1 e1 Q k=>
 ha W1 e1 _ ((ED k).imp fun a ka x W2 e2 hx=>hb W2 (e1.trans e2) _ ((ED ka).imp fun b kb y W3 e3 hy=>hc W3 ((e1.trans e2).trans e3) _ ((ED kb).imp fun c kc z W4 e4 hz=>hd W4 (((e1.trans e2).trans e3).trans e4) _ ((ED kc).imp fun d kd u W5 e5 hu=>⟨(by show 4<=sizeLine;decide),fun p hp=>
  kd (.ref p) (W5.new p (.tup [x,y,z,u])) ((((e2.trans e3).trans e4).trans e5).trans (.new _ hp)) ⟨p,x,y,z,u,rfl,M4 aq,EG (K1 _ hp).g (EG (R:=R1) ((e3.trans e4).trans e5).g hx),EG (R:=R2) (K1 _ hp).g (EG (R:=R2) (e4.trans e5).g hy),EG (R:=R3) (K1 _ hp).g (EG (R:=R3) e5.g hz),EG (R:=R4) (K1 _ hp).g hu⟩⟩))))
theorem sI{R1:Rp α}{R2:Rp β}{R3:Rp γ}{R4:Rp δ}:∀H b v,isT4 K R1 R2 R3 R4 H b v->∃p xs x,v=.ref p/\SqT K H p xs/\L2.atI xs 0=some x/\R1 H b.1 x:=fun _ _ _⟨p,x,y,z,u,h0,h,h1,h2,h3,h4⟩=>⟨p,_,x,h0,h,rfl,h1⟩
theorem Be{R1:Rp α}{R2:Rp β}{R3:Rp γ}{R4:Rp δ}:∀H b v,isT4 K R1 R2 R3 R4 H b v->∃p xs x,v=.ref p/\SqT K H p xs/\L2.atI xs 1=some x/\R2 H b.2.1 x:=fun _ _ _⟨p,x,y,z,u,h0,h,h1,h2,h3,h4⟩=>⟨p,_,y,h0,h,rfl,h2⟩
theorem Bf{R1:Rp α}{R2:Rp β}{R3:Rp γ}{R4:Rp δ}:∀H b v,isT4 K R1 R2 R3 R4 H b v->∃p xs x,v=.ref p/\SqT K H p xs/\L2.atI xs 2=some x/\R3 H b.2.2.1 x:=fun _ _ _⟨p,x,y,z,u,h0,h,h1,h2,h3,h4⟩=>⟨p,_,z,h0,h,rfl,h3⟩
theorem Bg{R1:Rp α}{R2:Rp β}{R3:Rp γ}{R4:Rp δ}:∀H b v,isT4 K R1 R2 R3 R4 H b v->∃p xs x,v=.ref p/\SqT K H p xs/\L2.atI xs 3=some x/\R4 H b.2.2.2 x:=fun _ _ _⟨p,x,y,z,u,h0,h,h1,h2,h3,h4⟩=>⟨p,_,u,h0,h,rfl,h4⟩
structure OwD(gk:β->Key)(R:Rp α)(W:Wd)(p:Addr)(xs:List (β×α)):Prop where
 g:W.G p=none
 h:∃kv,W.H p=some (.dK kv)/\kv.length=xs.length/\∀(i:Nat)(q:Key×V)(x:β×α),kv[i]? =some q->xs[i]? =some x->q.1=gk x.1/\R W.G x.2 q.2
section
variable{g:β->Key}{R:Rp α}
theorem OwD.mono[Mono R]{p:Addr}{xs:List (β×α)}(o:OwD g R W p xs)(e:Ext W W'):OwD g R W' p xs:=by
 obtain⟨kv,a,b,c⟩:=o.h;exact⟨by rw[e.k p (by rw[a];exact fun z=>nomatch z)];exact o.g,kv,e.h _ _ a,b,fun i q x h1 h2=>⟨(c i q x h1 h2).1,EG e.g (c i q x h1 h2).2⟩⟩
theorem gc[DecidableEq β](hg:∀a b,g a=g b->a=b){H:Hp}:∀(kv:List (Key×V))(xs:List (β×α)),kv.length=xs.length->(∀(i:Nat)(q:Key×V)(x:β×α),kv[i]? =some q->xs[i]? =some x->q.1=g x.1/\R H x.2 q.2)->∀k,match look xs k with|none=>fH kv (g k)=none|some a=>∃v,fH kv (g k)=some v/\R H a v
 | [],[],_,_,k=>rfl
 |q::kv,x::xs,hl,h,k=>by
  have h0:=h 0 q x rfl rfl;have ih:=gc hg kv xs (by simpa using hl) (fun i q x h1 h2=>h (i+1) q x h1 h2) k;by_cases e:x.1=k
  ·have e1:look (x::xs) k=some x.2:=by unfold look;rw[Hd (by simpa using e)];rfl
   rw[e1];exact⟨q.2,gO (by rw[h0.1,e]),h0.2⟩
  ·have e1:look (x::xs) k=look xs k:=by unfold look;rw[FR (by simpa using e)]
   rw[e1];have e2:fH (q::kv) (g k)=fH kv (g k):=gP (fun z=>e (hg _ _ (by rw[<-h0.1];exact z)));rw[e2];exact ih
def EVd(Er:Nat->Prop)(t:TE)(σ:St)(W:Wd)(g:β->Key)(R:Rp α)(m:Res (List<|β×α)):Prop:=∀W1,Ext W W1->∀Q:VK,m.OkE Er (fun xs=>∀p W2,Ext W1 W2->W1.H p=none->OwD g R W2 p xs->Q (.ref p) W2.H)->t σ W1.H Q
theorem qS:EVd Er bw σ W g R (.ok []):=fun W1 e1 Q k p hp=>k p (W1.mut p (.dK [])<|W1.gnone hp) (.own _ hp) hp ⟨W1.gnone hp,[],aq,rfl,fun i q x h=>by simp at h⟩
theorem sJ[DecidableEq β][Mono R]{Rk:Rp β}{i:Nat}{p:Addr}{xs:List (β×α)}{mk:Res β}(hg:∀a b,g a=g b->a=b)(hk:∀H b v,Rk H b v->v=kV (g b))(o:OwD g R W p xs)(h:EV Er t σ W (sh Rk) mk)(hi:σ[i]? =some (some<|.ref p):=by rfl):
  EV Er (qz t<|bf i) σ W (sh isB) (mk.bind fun k=>.ok<|!(look xs k).isSome):=fun W1 e1 Q k=>h W1 e1 _ ((ED k).imp fun b kb v W2 e2 hv=>⟨.ref p,hi,by
  obtain⟨kv,o1,o2,o3⟩:=(o.mono<|e1.trans e2).h;have hl:=gc hg kv xs o2 o3 b;refine⟨p,fH kv<|g b,rfl,by rw[hk _ _ _ hv];exact DGet.k o1,?_⟩;have:(fH kv<|g b).isSome=(look xs b).isSome:=by
   cases z:look xs b with
   |none=>rw[z]at hl;have hl:fH kv (g b)=none:=hl;rw[hl];rfl
   |some a=>rw[z]at hl;obtain⟨u,hu,_⟩:=hl;rw[hu];rfl
  rw[this];exact kb _ W2 e2 rfl⟩)
theorem qT[DecidableEq β](hg:∀a b,g a=g b->a=b){H:Hp}{kv:List (Key×V)}{xs:List (β×α)}(hl:kv.length=xs.length)(h:∀(i:Nat)(q:Key×V)(x:β×α),kv[i]? =some q->xs[i]? =some x->q.1=g x.1/\R H x.2 q.2){k:β}{a:α}{v:V}(r:R H a v):
  (iA kv (g k) v).length=(eW xs k a).length/\∀(i:Nat)(q:Key×V)(x:β×α),(iA kv (g k) v)[i]? =some q->(eW xs k a)[i]? =some x->q.1=g x.1/\R H x.2 q.2:=by
 have hany:(kv.any fun p=>decide<|p.1=g k)=(xs.any fun p=>decide<|p.1=k):=by
  have key:∀(kv:List (Key×V))(xs:List (β×α)),kv.length=xs.length->(∀(i:Nat)(q:Key×V)(x:β×α),kv[i]? =some q->xs[i]? =some x->q.1=g x.1/\R H x.2 q.2)->(kv.any fun p=>decide<|p.1=g k)=(xs.any fun p=>decide<|p.1=k):=by
   intro kv
   induction kv with
   |nil=>intro xs hl _;cases xs with|nil=>rfl|cons _ _=>cases hl
   |cons q kv ih=>
    intro xs hl h;cases xs with
    |nil=>cases hl
    |cons x xs=>
     rw[Je,Je,ih xs (by simpa using hl) fun i q x h1 h2=>h (i+1) q x h1 h2];congr 1;rw[(h 0 q x rfl rfl).1,Gm];simp only[decide_eq_true_eq];exact⟨hg _ _,fun e=>by rw[e]⟩
  exact key kv xs hl h
 unfold iA eW;rw[hany];by_cases c:(xs.any fun p=>decide<|p.1=k)=true
 ·rw[if_pos c,if_pos c];refine⟨by simp[hl],fun i q x h1 h2=>?_⟩;rw[G4]at h1 h2;obtain⟨q0,hq0,rfl⟩:=Hb.mp h1;obtain⟨x0,hx0,rfl⟩:=Hb.mp h2;obtain⟨h3,h4⟩:=h i q0 x0 hq0 hx0;by_cases z:x0.1=k;·rw[if_pos z,if_pos (by rw[h3,z])];exact⟨h3,r⟩
  ·rw[if_neg z,if_neg (fun e=>z (hg _ _ (by rw[<-h3];exact e)))];exact⟨h3,h4⟩
 ·rw[if_neg c,if_neg c];refine⟨by simp[hl],fun i q x h1 h2=>?_⟩;by_cases hi:i<kv.length
  ·rw[FP hi]at h1;rw[FP (by rw[<-hl];exact hi)]at h2;exact h i q x h1 h2
  ·rw[FI (by omega)]at h1;rw[FI (by rw[<-hl];omega),<-hl]at h2
   match i-kv.length,h1,h2 with
   |0,h1,h2=>cases h1;cases h2;exact⟨rfl,r⟩
end
section
variable{g:β->Key}{R:Rp α}{D:Ends}{r:TS}{te ti:TE}{i:Nat}
theorem xV{σ':Addr->St}{m:Res (List<|β×α)}(h:EVd Er te σ W g R m)(q:m.OkE Er fun a=>∀p W',Ext W W'->W.H p=none->OwD g R W' p a->D.nx (σ' p) W'.H)(hσ:∀p,σ.set i (some<|.ref p)=σ' p:=by intro _;rfl):bN te (aP i) D σ W.H:=h W (.refl _) _ (q.imp fun a k p W' e hp r=>by have:=k p W' e hp r;rw[<-hσ]at this;exact this)
theorem ig{σ':Addr->St}{m:Res (List<|β×α)}(h:EVd Er te σ W g R m)(q:m.OkE Er fun a=>∀p W',Ext W W'->W.H p=none->OwD g R W' p a->r D (σ' p) W'.H)(hσ:∀p,σ.set i (some<|.ref p)=σ' p:=by intro _;rfl):dF (bN te<|aP i) r D σ W.H:=xV (D:={D with nx:=r D}) h q hσ
theorem iY[DecidableEq β][Mono R]{Rk:Rp β}{p:Addr}{xs:List (β×α)}{m:Res α}{mk:Res β}(hg:∀a b,g a=g b->a=b)(hk:∀H b v,Rk H b v->v=kV (g b))(o:OwD g R W p xs)(h:EV Er te σ W (sh R) m)(hj:EV Er ti σ W (sh Rk) mk)
  (q:(m.bind fun a=>mk.bind fun k=>fX xs k a).OkE Er fun ys=>∀W',Mu W W' p->OwD g R W' p ys->D.nx σ W'.H) (hi:σ[i]? =some (some<|.ref p):=by rfl):bO (bf i) ti te D σ W.H:=by
 refine h W (.refl _) _<|(ED q).imp fun a ka v W2 e2 hv=>⟨.ref p,hi,hj W2 e2 _<|(ED ka).imp fun k kk x W3 e3 hx=>?_⟩;obtain⟨h3,h4⟩:=aU kk;have e:=e2.trans e3;have o':=o.mono e;obtain⟨kv,o1,o2,o3⟩:=o'.h;obtain⟨p1,p2⟩:=qT hg o2 o3 (k:=k)<|EG (R:=R) e3.g hv;refine⟨p,_,rfl,by rw[hk _ _ _ hx];exact DPut.k o1 (by rw[o2,Gi];unfold Mi.cap at h3;omega),?_⟩;exact h4 (W3.mut p (.dK<|iA kv (g k) v) o'.g) (.of e o'.g) ⟨o'.g,_,aq,p1,p2⟩
theorem sL[DecidableEq β][Mono R]{Rk:Rp β}{p:Addr}{xs:List (β×α)}{m:Res α}{mk:Res β}(hg:∀a b,g a=g b->a=b)(hk:∀H b v,Rk H b v->v=kV (g b))(o:OwD g R W p xs)(h:EV Er te σ W (sh R) m)(hj:EV Er ti σ W (sh Rk) mk)
  (q:(m.bind fun a=>mk.bind fun k=>fX xs k a).OkE Er fun ys=>∀W',Mu W W' p->OwD g R W' p ys->r D σ W'.H) (hi:σ[i]? =some (some<|.ref p):=by rfl):dF (bO (bf i) ti te) r D σ W.H:=iY (D:={D with nx:=r D}) hg hk o h hj q hi
end
theorem kS:∀(H:Hp)(b:Tx)(v:V),isS H b v->v=kV (FU<|sOf b):=fun _ _ _ h=>h
theorem EV.go{W1:Wd}{R:Rw α}{m:Res α}{Q:VK}(e:Ext W W1)(h:EV Er t σ W R m)(k:m.OkE Er fun a=>∀v W2,Ext W1 W2->R W2 a v->Q v W2.H):t σ W1.H Q:=h W1 e Q k
end
end Wb
namespace Mi
def kindN:List Tx:=[[66,97,100,84,97,98,108,101,116],[66,97,100,82,111,119],[66,97,100,84,101,120,116],[66,97,100,77,97,114,107],[84,111,111,76,111,110,103],[84,111,111,84,105,103,104,116],[83,112,111,111,108,68,114,121],[78,111,84,97,98,108,101,116],[78,111,116,104,105,110,103,76,101,102,116],[85,110,108,105,107,101],[83,101,101,110,84,104,114,101,97,100],[78,111,83,117,99,104,87,97,121],[66,97,114,114,101,100]]
def lG(s:Tx)(j:Nat):Dat:=.t [.s s,.l [.s (kindN.getD j [])]]
def sM(i:Int):Tx:=(toString i).toList.map Char.toNat
def A1(i:Int):Res Tx:=fc (i.natAbs.log2<1920)<|sM i
def vj(x:Tx):Res Tx:=fc (x.length<=cap) x
end Mi
namespace L2
open PySem PySem.Spec PyProof.Rows
def XV(x:Addr):Option Addr->EI
 |none=>.ref x
 |some d=>.int (Int.ofNat d) 0
theorem sN{f:Array EI->Array EI}{o:Obj}:(G3 f o).dict=o.dict:=by
 unfold G3;split<;>rfl
structure Fly(h:Heap)(H:Hp)(lim:Heap)(e C:Addr)(od:Option Addr):Prop where
 he:H e=none
 hl:lim.get? e=none
 ob:∃(oe:Obj)(vs:Array EI),h.get? e=some oe/\(oe.cls=.ref C/\oe.dict=od)/\oe.data=.fields vs/\vs[2]? =some .none/\
  (vs[1]? =some .none\/∃(T:Addr)(oT:Obj)(ts:Array EI),vs[1]? =some (.ref T)/\T≠e/\H T=none/\lim.get? T=none/\h.get? T=some oT/\oT.data=.fields ts/\ts[3]? =some .none)
structure Gone(fs:List Addr)(H:Hp)(lim:Heap)(e:Addr)(h h':Heap):Prop where
 keep:∀b o,h.get? b=some o->b∉fs->b≠e->(H b≠none\/lim.get? b≠none)->h'.get? b=some o
 slot:∀b o,h.get? b=some o->b∈fs->∃sl,h'.get? b=some {o with slots:=sl}
 there:∀b o,h.get? b=some o->∃o',h'.get? b=some o'
theorem Gone.trans{fs:List Addr}{H:Hp}{lim:Heap}{e:Addr}{h h1 h2:Heap}(a:Gone fs H lim e h h1)(b:Gone fs H lim e h1 h2):Gone fs H lim e h h2:=
 ⟨fun c o q n m k=>b.keep c o (a.keep c o q n m k) n m k,fun c o q n=>by
  obtain⟨sl,z⟩:=a.slot c o q n;obtain⟨sl',z'⟩:=b.slot c _ z n;exact⟨sl',z'⟩,fun c o q=>by
  obtain⟨o',z⟩:=a.there c o q;exact b.there c o' z⟩
section
variable{M:Mh}{A:Fu}{E:EI->EM->Prop}{s:EM}{base lim:Heap}{H:Hp}{env:Env}{outer:List Env}{L e C:Addr}{od:Option Addr}
abbrev Cb(head:EI)(L:Addr)(pl:List EI):Obj:={cls:=.type "traceback",dict:=none,data:=.fields ([head,.ref L,.none,rawInt L,.none]++(if pl.isEmpty then Fg 6 Fv else pl)).toArray}
theorem qU{head:EI}{hn:Bool}{oe:Obj}{vs:Array EI}{Q:Unit->EM->Prop}(hfr:A.frames=some (env::outer))(hfn:s.heap.FunFrames base (env::outer))(hf:env.frame=some L)
  (he:s.heap.get? e=some oe) (hd:oe.data=.fields vs) (hc:oe.cls=.ref C/\oe.dict=od) (h2:vs[2]? =some .none) (hH:H e=none) (hlm:lim.get? e=none)
  (hfree:∀b,s.heap.objs.size<=b->H b=none/\lim.get? b=none)
  (h:∀h',Gone (frs (env::outer)) H lim e s.heap h'->Fly h' H lim e C od->Q () {s with heap:=h'}):
  wpAny M A (do let a <-frameOf env;let pl <-entryPlaceOf L hn;let b <-Lb head a .none (rawInt L) .none pl;setField (.ref e) 1 b) (fun _ s'=>wpAny M A (setFlight (.ref e) none) Q E s') E s:=by
 have hsz:1<vs.size:=by have:=(Hu.mp h2).1;omega
 have nfr:e∉(env::outer).filterMap (·.frame):=fun hm=>by
  obtain⟨_,o,ho,hnf⟩:=hfn.mem hm;rw[he]at ho;exact hnf vs (by rw[<-Fy ho];exact hd)
 refine EE<|wpAny_frameOf_fun hfr hfn hf fun h1 hs1=>?_;refine EE<|wpAny_entryPlaceOf fun pl hpl=>?_;unfold Lb newFields;refine EE<|Gw ?_<|hpl.sizeOk5 _ _ _ _ _;have g1:h1.get? e=some oe:=(hs1.2.1 e nfr).trans he;have g2:(h1.push<|Cb head L pl).get? e=some oe:=EJ _ g1;refine GQ g2 hd hsz ?_;have ne:h1.objs.size≠e:=H9<|F0 g1;have d3:=GD hd (·.setIfInBounds 1 (F6 h1.objs.size));have g3:=Gb (G3 (·.setIfInBounds 1 (F6 h1.objs.size))) g2<|He d3;have gT:=(FJ (h1.push<|Cb head L pl) (G3 (·.setIfInBounds 1 (F6 h1.objs.size)))<|Gh ne).trans (EU h1 rfl);unfold setFlight;refine EE (Ft g3 d3 (x:=.ref h1.objs.size) (by simp[hsz]) ?_);rw[if_pos (show(F6 h1.objs.size != Fv)=true from by simp)];refine GQ gT rfl (by simp only[F4,Fn,FV,HY]<;>omega) ?_;have keep1:∀b o,b≠e->h1.get? b=some o->(((h1.push<|Cb head L pl).update e (G3 (·.setIfInBounds 1 (F6 h1.objs.size)))).update h1.objs.size (G3 (·.setIfInBounds 3 ((none:Option Addr).elim Fv fun f=>rawInt f)))).get? b=some o:=fun b o hb hq=>by
  rw[FJ _ _<|H9<|F0 hq,FJ _ _<|Gh hb];exact EJ _ hq
 have ge:(((h1.push<|Cb head L pl).update e (G3 (·.setIfInBounds 1 (F6 h1.objs.size)))).update h1.objs.size (G3 (·.setIfInBounds 3 ((none:Option Addr).elim Fv fun f=>rawInt f)))).get? e=some (G3 (·.setIfInBounds 1 (F6 h1.objs.size)) oe):=by
  rw[FJ _ _ ne];exact g3
 have big:s.heap.objs.size<=h1.objs.size:=hs1.1▸Fb _;refine h _ ⟨fun b o q n m _=>keep1 b o m<|(hs1.2.1 b n).trans q,fun b o q n=>?_,fun b o q=>?_⟩ ⟨hH,hlm,_,_,ge,⟨by rw[JU];exact hc.1,by rw[sN];exact hc.2⟩,d3,by rw[Array.getElem?_setIfInBounds_ne (by decide)];exact h2,.inr ⟨h1.objs.size,_,_,by simp[hsz],ne,(hfree _ big).1,(hfree _ big).2,Gb _ gT<|He<|GD rfl _,GD rfl _,?_⟩⟩
 ·obtain⟨sl,z⟩:=hs1.2.2 b o q;exact⟨sl,keep1 b _ (fun y=>nfr<|y▸n) z⟩
 ·by_cases y:b=e;·rw[y];exact⟨_,ge⟩
  ·obtain⟨sl,z⟩:=hs1.2.2 b o q;exact⟨_,keep1 b _ y z⟩
 ·first|(simp;done)|(rcases hpl with rfl|⟨_,_,_,_,_,_,_,rfl⟩<;>simp)
theorem qV{Q:Unit->EM->Prop}(hfr:A.frames=some (env::outer))(hfn:s.heap.FunFrames base (env::outer))(hf:env.frame=some L)(x:Fly s.heap H lim e C od)
  (hfree:∀b,s.heap.objs.size<=b->H b=none/\lim.get? b=none)
  (h:∀h',Gone (frs (env::outer)) H lim e s.heap h'->Fly h' H lim e C od->Q () {s with heap:=h'}):wpAny M A (noteFrame (.ref e) env) (fun _ s'=>wpAny M A (setFlight (.ref e) none) Q E s') E s:=by
 obtain⟨hH,hlm,oe,vs,he,hc,hd,h2,h1⟩:=x;unfold noteFrame;simp only[hf];rcases h1 with h1|⟨T,oT,ts,h1,hTe,hT0,hTl,hT,hdT,h3⟩
 ·refine EE<|Ft he hd h1 ?_;rw[if_neg (by decide)];exact qU hfr hfn hf he hd hc h2 hH hlm hfree h
 ·refine EE<|Ft he hd h1 ?_;rw[if_pos (show(F6 T != Fv)=true from by simp)];refine EE<|Ft hT hdT h3 ?_;rw[if_neg (show ¬((Fv==rawInt L)=true)from by simp[rawInt])];refine EE<|GQ hT hdT (Hu.mp h3).1 ?_;have other:∀b,b≠T->(s.heap.update T (G3 (·.setIfInBounds 3 Fv))).get? b=s.heap.get? b:=fun b hb=>FJ _ _<|Gh hb;have nT:∀b o,s.heap.get? b=some o->(∀vs,o.data≠.fields vs)->b≠T:=fun b o q hn z=>by
   rw[z,hT]at q;exact hn ts (by rw[<-Fy q];exact hdT)
  have g0:Gone (frs (env::outer)) H lim e s.heap (s.heap.update T (G3 (·.setIfInBounds 3 Fv))):=⟨fun b o q n m k=>(other b fun z=>by
    rw[z,hT0,hTl]at k;rcases k with k|k<;>exact k rfl).trans q,fun b o q n=>⟨o.slots,(other b (by
    obtain⟨_,o',ho,hnf⟩:=hfn.mem n;exact nT b o' ho hnf)).trans q⟩,fun b o q=>by
    by_cases z:b=T;·rw[z];exact⟨_,Gb _ hT<|He<|GD hdT _⟩
    ·exact⟨o,(other b z).trans q⟩⟩
  have sz:(s.heap.update T (G3 (·.setIfInBounds 3 Fv))).objs.size=s.heap.objs.size:=Heap.size_update ..;refine qU (s:={s with heap:=s.heap.update T (G3 (·.setIfInBounds 3 Fv))}) hfr (hfn.of_keeps fun b o q hn=>⟨o,(other b<|nT b o q hn).trans q,rfl⟩) hf ((other e<|Gh hTe).trans he) hd hc h2 hH hlm (fun b hb=>hfree b (by rw[<-sz];exact hb)) fun h' g1 f1=>h h' (g0.trans g1) f1
theorem sO{Q:Unit->EM->Prop}(hfr:A.frames=some (env::outer))(hfn:s.heap.FunFrames base (env::outer))(hf:env.frame=some L)(x:Fly s.heap H lim e C od)
  (hfree:∀b,s.heap.objs.size<=b->H b=none/\lim.get? b=none)
  (h:∀h',Gone (frs (env::outer)) H lim e s.heap h'->Fly h' H lim e C od->Q () {s with heap:=h'}):wpAny M A (leaving env<|.ref e) Q E s:=by
 unfold leaving;exact EE<|qV hfr hfn hf x hfree h
theorem vk{Q:Unit->EM->Prop}(hfn:s.heap.FunFrames base (env::outer))(x:Fly s.heap H lim e C od)
  (h:∀h',Gone (frs (env::outer)) H lim e s.heap h'->Fly h' H lim e C od->Q () {s with heap:=h'}):wpAny M A (setFlight (.ref e) none) Q E s:=by
 obtain⟨hH,hlm,oe,vs,he,hc,hd,h2,h1⟩:=x;unfold setFlight;rcases h1 with h1|⟨T,oT,ts,h1,hTe,hT0,hTl,hT,hdT,h3⟩
 ·refine EE<|Ft he hd h1 ?_;rw[if_neg (by decide)];exact ES<|h s.heap ⟨fun b o q _ _ _=>q,fun b o q _=>⟨o.slots,q⟩,fun b o q=>⟨o,q⟩⟩ ⟨hH,hlm,oe,vs,he,hc,hd,h2,.inl h1⟩
 ·refine EE<|Ft he hd h1 ?_;rw[if_pos (show(F6 T != Fv)=true from by simp)];refine GQ hT hdT (Hu.mp h3).1 ?_;have other:∀b,b≠T->(s.heap.update T (G3 (·.setIfInBounds 3 ((none:Option Addr).elim Fv fun f=>rawInt f)))).get? b=s.heap.get? b:=fun b hb=>FJ _ _<|Gh hb;have gT:=Gb (G3 (·.setIfInBounds 3 ((none:Option Addr).elim Fv fun f=>rawInt f))) hT<|He<|GD hdT _;refine h _ ⟨fun b o q n m k=>(other b fun z=>by
    rw[z,hT0,hTl]at k;rcases k with k|k<;>exact k rfl).trans q,fun b o q n=>⟨o.slots,(other b (by
    obtain⟨_,o',ho,hnf⟩:=hfn.mem n;intro z;rw[z,hT]at ho;exact hnf ts (by rw[<-Fy ho];exact hdT))).trans q⟩,fun b o q=>by
    by_cases z:b=T;·rw[z];exact⟨_,gT⟩
    ·exact⟨o,(other b z).trans q⟩⟩ ⟨hH,hlm,oe,vs,(other e (Gh hTe)).trans he,hc,hd,h2,.inr ⟨T,_,_,h1,hTe,hT0,hTl,gT,GD hdT _,?_⟩⟩
  have:=(Hu.mp h3).1;simp[this]
end
def CXR(P:Ff)(w:Fp):CXT:=fun outer H s E e s'=>∃(x C:Addr)(H':Hp)(od:Option Addr),e=.ref x/\Fly s'.heap H' s.heap x C od/\s'.os=s.os/\Jw s'.gens/\Un (frs outer) [] H H' s.heap s'.heap/\HOk P w H' s'.heap/\E (XV x od) (some C) H'
theorem Fly.lim{h l1 l2:Heap}{H:Hp}{e C:Addr}{od:Option Addr}(f:Fly h H l1 e C od)(k:∀b,l1.get? b=none->l2.get? b=none):Fly h H l2 e C od:=by
 obtain⟨a,b,oe,vs,h1,h2,h3,h4,h5⟩:=f;refine⟨a,k _ b,oe,vs,h1,h2,h3,h4,h5.imp id fun⟨T,oT,ts,q1,q2,q3,q4,q5⟩=>⟨T,oT,ts,q1,q2,q3,k _ q4,q5⟩⟩
section
variable{P:Ff}{w:Fp}{K:EH}{mg:Str->Option EI}{base:Heap}{N:List Str}{qual:Str}{scope:HM}{f:Addr}{cd:EI}{A:Fu}{outer:List Env}{s0 s:EM}{H0 H:Hp}{E:XK}{pins:List (Addr×Obj)}{σ:St}{e C:Addr}{od:Option Addr}
abbrev qW(P:Ff)(w:Fp)(K:EH)(mg:Str->Option EI)(base:Heap)(N:List Str)(qual:Str)(scope:HM)(f:Addr)(cd:EI)(A:Fu)(outer:List Env)(s0:EM)(H0:Hp)(E:XK):Cx:=kH (CXR P w) P w K mg base N qual scope f cd A outer s0 H0 E
theorem zd(I:Inv (qW P w K mg base N qual scope f cd A outer s0 H0 E) pins σ H s)(x:Fly s.heap H s0.heap e C od)(q:E (XV e od) (some C) H):(qW P w K mg base N qual scope f cd A outer s0 H0 E).xe (.ref e) s:=by
 have hsz:s0.heap.objs.size<=s.heap.objs.size:=I.sz;have hfree:∀b,s.heap.objs.size<=b->H b=none/\s0.heap.get? b=none:=fun b hb=>⟨I.hok.fresh hb,Jf<|GH hsz hb⟩
 refine sO (base:=base) (env:=envOfC qual scope s0.heap.objs.size f cd) (outer:=outer) (L:=s0.heap.objs.size) (H:=H) (lim:=s0.heap) I.ok.frames I.stack rfl x hfree fun h' g fl=>?_;have stk:∀b,b∈frs (envOfC qual scope s0.heap.objs.size f cd::outer)->H b=none:=I.stkFree;have low:∀b o,s0.heap.get? b=some o->b∉frs outer->b∉frs (envOfC qual scope s0.heap.objs.size f cd::outer):=fun b o q n m=>by
  have:b=s0.heap.objs.size\/b∈frs outer:=F9.mp (show b∈s0.heap.objs.size::frs outer from m);rcases this with z|z
  ·have:=F0 q;rw[z]at this;exact FO _ this
  ·exact n z
 have sub:∀b,b∈frs outer->b∈frs (envOfC qual scope s0.heap.objs.size f cd::outer):=fun b m=>by
  show b∈s0.heap.objs.size::frs outer;exact F5 _ m
 have ne0:∀b o,s0.heap.get? b=some o->b≠e:=fun b o q z=>by rw[z,x.hl]at q;cases q
 have U:=I.base;refine⟨e,C,H,od,rfl,fl,I.os,I.bare,⟨fun b o q1 n hb hx=>g.keep b o (U.keep b o q1 n hb hx) (low b o q1 hb) (ne0 b o q1) (.inr (by rw[q1];exact fun z=>nomatch z)),fun b o q1 n hb hx=>?_,U.free,fun b o q1 hx=>?_,U.tups,U.frzs,U.tbls⟩,fun b u hb=>?_,q⟩
 ·obtain⟨sl,z⟩:=U.slot b o q1 n hb hx;obtain⟨sl',z'⟩:=g.slot b _ z<|sub b hb;exact⟨sl',z'⟩
 ·obtain⟨o',z⟩:=U.there b o q1 hx;exact g.there b o' z
 ·refine(I.hok b u hb).stay (fun c v hc q1=>?_) (fun _ q1=>q1) fun _ _ q1=>q1;have hn:H c≠none:=by
   rcases hc with z|z
   ·rw[z,hb];exact fun z=>nomatch z
   ·rw[z];exact fun z=>nomatch z
  exact g.keep c v q1 (fun m=>hn<|stk c m) (fun z=>hn (by rw[z];exact x.he))<|.inl hn
theorem qX:fg (CXR P w) (qW P w K mg base N qual scope f cd A outer s0 H0 E) E:=fun pins σ H s e s' I⟨x,C,H',od,he,fl,os,bare,un,hok,q⟩=>by
 subst he;have I':=I.call' os un hok bare fun b z=>absurd z (by simp);refine zd I' (fl.lim fun b hb=>?_) q;cases z:s0.heap.get? b with
 |none=>rfl
 |some o=>
  obtain⟨o',z'⟩:=I.base.there b o z (by simp[kH]);rw[hb]at z';cases z'
end
theorem ObjOk.ex{P:Ff}{w:Fp}{H:Hp}{h:Heap}{a:Addr}:∀{o:HO},ObjOk P w H h a o->∃ob,h.get? a=some ob:=by
 intro o
 induction o with
 |lst xs=>intro x;obtain⟨_,its,n,r,e⟩:=x;exact⟨_,e⟩
 |tup xs=>intro x;obtain⟨_,its,r,ob,e,c⟩:=x;exact⟨_,e⟩
 |dK kvs=>intro x;obtain⟨_,_,vs,r,ob,es,ep,e,c⟩:=x;exact⟨_,e⟩
 |dT kvs=>intro x;obtain⟨_,_,xs,r,ob,es,ep,e,c⟩:=x;exact⟨_,e⟩
 |set S n=>intro x;obtain⟨o,e,_⟩:=O8 x;exact⟨_,e⟩
 |ins C dx fs=>intro x;obtain⟨_,_,_,e,_⟩:=x;exact⟨_,e⟩
 |own y=>intro x;exact x
 |xd fs=>intro x;obtain⟨mA,hn,_⟩:=x;obtain⟨o,es,ep,e,_⟩:=hn;exact⟨_,e⟩
 |rng lo hi=>intro x;obtain⟨t,u,v,e⟩:=x;exact⟨_,e⟩
 |frz o u=>intro x;exact⟨_,x.1⟩
 |tbl ps=>intro x;exact⟨_,x⟩
 |met f y=>intro x;exact⟨_,x⟩
 |ext φ=>intro x;exact x.2.1
def Ecl(h:Heap)(C:Addr):Prop:=∃nm q N bs bm hdct sn sub ab col dd k0 k1 k2 k3 k5 newId mN B initId bmB,h.get? C=some (excClassObj nm q C N bs bm hdct sn sub ab col dd k0 k1 k2 k3 k5 newId)/\h.Ns N mN/\mN "__init__"=none/\OwnTail h bmB bm/\ExcBaseFacts B newId initId bmB
def vm(E:XK)(C:Addr)(t:TA):TS:=fun _ σ H=>t σ H fun vs H1=>vs.length<=sizeLine/\∀x,H1 x=none->E (.ref x) (some C) H1
section
variable{P:Ff}{w:Fp}{K:EH}{mg:Str->Option EI}{base:Heap}{N:List Str}{qual:Str}{scope:HM}{f:Addr}{cd:EI}{A:Fu}{outer:List Env}{s0:EM}{H0:Hp}{E:XK}{C:Addr}
theorem gf{x:Str}{np cpos pos:Pos}{e:Expr}{es:List Expr}{t:TA}(cl:Ecl base C)(hg:Gl (qW P w K mg base N qual scope f cd A outer s0 H0 E) x)(hm:mg x=some (.ref C))(ha:PA (qW P w K mg base N qual scope f cd A outer s0 H0 E) (e::es) t)
  (hdb:(x==("__debug__" :Str))=false:=by decide) (he:starEach (e::es) (qW P w K mg base N qual scope f cd A outer s0 H0 E).env=(false,eval e (qW P w K mg base N qual scope f cd A outer s0 H0 E).env)::starEach es (qW P w K mg base N qual scope f cd A outer s0 H0 E).env:=by rfl) (hpl:(backTo cpos<|starEach es (qW P w K mg base N qual scope f cd A outer s0 H0 E).env).any (·.1)=false:=by rfl):
  PS (qW P w K mg base N qual scope f cd A outer s0 H0 E) (.Raise (some<|.Call (.Name x np) (e::es) [] cpos) none pos) (vm E C t):=by
 intro pins s σ H D I h;obtain⟨nm,q,Nn,bs,bm,hdct,sn,sub,ab,col,dd,k0,k1,k2,k3,k5,newId,mN,B,initId,bmB,hC,hN,hni,T,F⟩:=cl;refine wpAny_Raise_call_subT (C:=C) (nm:=nm) (q:=q) (N:=Nn) (bs:=bs) (bm:=bm) (hdct:=hdct) (sn:=sn) (sub:=sub) (ab:=ab) (col:=col) (dd:=dd) (k0:=k0) (k1:=k1) (k2:=k2) (k3:=k3) (k5:=k5) F (mN:=mN) (T.hasType F.hasBase) (I.ok.hd rfl) (by rw[he];show(false||(backTo cpos<|starEach es _).any (·.1))=false;rw[hpl];rfl) hni<|i6 I hg hm ⟨rfl,?_⟩ hdb;rw[he];refine Ji ?_;show wpAny _ _ (spliced<|backTo cpos ((false,eval e (qW P w K mg base N qual scope f cd A outer s0 H0 E).env)::starEach es (qW P w K mg base N qual scope f cd A outer s0 H0 E).env)) _ _ _;rw[<-he];refine cb (ha cpos pins s σ H _ I h) fun us s1⟨vs,H1,I1,r,hz,q1⟩=>⟨rfl,by rw[<-r.length];exact hz,I1.bk _ _ hC,hN.keeps I1.bk,T.keeps I1.bk,fun h' y hy=>?_⟩
 obtain⟨t0,h1,h2,h3⟩:=hy.there;have I2:Inv (qW P w K mg base N qual scope f cd A outer s0 H0 E) pins σ H1 {s1 with heap:=h'}:=I1.kept (t':=s1.toks) hy.keeps;have n1:H1 y=none:=by
  cases z:H1 y with
  |none=>rfl
  |some o=>obtain⟨ob,hb⟩:=(I1.hok y o z).ex;rw[hy.new]at hb;cases hb
 have n2:s0.heap.get? y=none:=by
  cases z:s0.heap.get? y with
  |none=>rfl
  |some o=>obtain⟨ob,hb⟩:=I1.base.there y o z (by simp[kH]);rw[hy.new]at hb;cases hb
 exact zd (od:=none) I2 ⟨n1,n2,_,_,h1,⟨rfl,rfl⟩,rfl,rfl,.inl rfl⟩<|q1 y n1
end
def Xcl(h:Heap)(C:Addr)(bm:List EI):Prop:=∃nm q N bs hdct sn sub ab col dd k0 k1 k2 k3 k5 newId,h.get? C=some (excClassObj nm q C N bs bm hdct sn sub ab col dd k0 k1 k2 k3 k5 newId)/\bm.contains (.type "BaseException")=true
theorem Xcl.keeps{h h':Heap}{C:Addr}{bm:List EI}(x:Xcl h C bm)(k:∀b o,h.get? b=some o->h'.get? b=some o):Xcl h' C bm:=by
 obtain⟨nm,q,N,bs,hdct,sn,sub,ab,col,dd,k0,k1,k2,k3,k5,newId,e,hb⟩:=x;exact⟨nm,q,N,bs,hdct,sn,sub,ab,col,dd,k0,k1,k2,k3,k5,newId,k _ _ e,hb⟩
section
variable{M:Mh}{A:Fu}{E:EI->EM->Prop}
theorem lH{s:EM}{e C D:Addr}{bmC bmD:List EI}{oe:Obj}{Q:Bool->EM->Prop}(hC:Xcl s.heap C bmC)(hD:Xcl s.heap D bmD)(he:s.heap.get? e=some oe)(hcls:oe.cls=.ref C)(hq:Q ((F6 C::bmC).contains (.ref D)) s):wpAny M A (excMatches (.ref e)<|.ref D) Q E s:=by
 obtain⟨h,g,d,t,os⟩:=s;obtain⟨nm,q,N,bs,hdct,sn,sub,ab,col,dd,k0,k1,k2,k3,k5,newId,hC,hbase⟩:=hC;obtain⟨nm',q',N',bs',hdct',sn',sub',ab',col',dd',k0',k1',k2',k3',k5',newId',hD,hbase'⟩:=hD;have hcB:(F6 D::bmD).contains (.type "BaseException")=true:=by rw[Lq,hbase',Bool.or_true]
 have f:=tc_notTuple;generalize hb:(F6 C::bmC).contains (.ref D)=b at hq;unfold excMatches
 repeat (first|(with_reducible refine LP he ?_;rw[hcls])|with_reducible refine LP hD ?_|(with_reducible refine Lc hD ?_;rw[hcB])|(with_reducible refine Lc hC ?_;rw[hb])|wp_step)
 first|exact hq|(cases b<;>(wp_walk;exact hq))
end
structure Big(X:Cx)(pins:List (Addr×Obj))(lim:Heap):Prop where
 old:∀b o,X.s₀.heap.get? b=some o->b∉X.ex->lim.get? b≠none
 loc:lim.get? X.env.locals≠none
 cell:∀x c,X.env.cells.lookup x=some c->lim.get? c≠none
 pin:∀p∈X.pn++pins,lim.get? p.1≠none
def Own(X:Cx):Prop:=X.stack=X.env::X.outer/\X.env.frame=some X.env.locals
section
variable{X:Cx}{pins:List (Addr×Obj)}{σ:St}{H:Hp}{s:EM}{lim h':Heap}{e C:Addr}{od:Option Addr}{oe:Obj}
theorem Own.frs(o:Own X):frs X.stack=X.env.locals::X.fs:=by
 rw[o.1];unfold L2.frs;rw[HF,o.2];rfl
theorem Inv.bigX(I:Inv X pins σ H s):Big X pins s.heap:=by
 refine⟨fun b o q n=>?_,?_,fun x c q=>?_,fun p hp=>?_⟩
 ·obtain⟨o',z⟩:=I.base.there b o q n;rw[z];exact fun z=>nomatch z
 ·obtain⟨m,⟨o,es,ep,ho,_⟩,_⟩:=I.loc;rw[ho];exact fun z=>nomatch z
 ·obtain⟨v,o,ho,_⟩:=I.cell x c q;rw[ho];exact fun z=>nomatch z
 ·rw[(I.pin p hp).1];exact fun z=>nomatch z
theorem Inv.gone(I:Inv X pins σ H s)(w:Own X)(x:Fly s.heap H lim e C od)(B:Big X pins lim)(g:Gone (frs X.stack) H lim e s.heap h'):Inv X pins σ H {s with heap:=h'}:=by
 have hf:=w.frs;have ne:∀b,lim.get? b≠none->b≠e:=fun b hb z=>hb (by rw[z];exact x.hl);have low:∀b o,X.s₀.heap.get? b=some o->b∉X.fs->b∉frs X.stack:=fun b o q n m=>by
  rw[hf]at m;rcases F9.mp m with z|z
  ·have:=F0 q;rw[z]at this;exact absurd (EY this I.ok.above)<|FO _
  ·exact n z
 have cellK:∀y c,X.env.cells.lookup y=some c->∀v,s.heap.IsCell c v->h'.IsCell c v:=fun y c q v⟨o,ho,hd⟩=>by
  by_cases m:c∈frs X.stack
  ·obtain⟨sl,z⟩:=g.slot c o ho m;exact⟨_,z,hd⟩
  ·exact⟨o,g.keep c o ho m (ne c<|B.cell y c q)<|.inr<|B.cell y c q,hd⟩
 refine⟨I.ok,I.os,I.bare,⟨fun b o q n hb hx=>?_,fun b o q n hb hx=>?_,I.base.free,fun b o q hx=>?_,I.base.tups,I.base.frzs,I.base.tbls⟩,?_,fun y c q=>?_,I.free,I.freeC,fun p hp=>?_,fun b u hb=>?_,I.len⟩;·exact g.keep b o (I.base.keep b o q n hb hx) (low b o q hb) (ne b<|B.old b o q hx)<|.inr<|B.old b o q hx
 ·obtain⟨sl,z⟩:=I.base.slot b o q n hb hx;obtain⟨sl',z'⟩:=g.slot b _ z (by rw[hf];exact F5 _ hb);exact⟨sl',z'⟩
 ·obtain⟨o',z⟩:=I.base.there b o q hx;exact g.there b o' z
 ·obtain⟨m,⟨o,es,ep,ho,hd,hk,hm⟩,hl⟩:=I.loc;obtain⟨sl,z⟩:=g.slot _ o ho (by rw[hf];exact EZ ..);refine⟨m,⟨_,es,ep,z,hd,hk,hm⟩,fun i y v q1 q2 q3=>?_⟩;obtain⟨u,r,l⟩:=hl i y v q1 q2 q3;refine⟨u,r,?_⟩;rcases l with l|⟨k,c,q,z⟩
  ·exact .inl l
  ·exact .inr ⟨k,c,q,cellK y c q _ z⟩
 ·obtain⟨v,z⟩:=I.cell y c q;exact⟨v,cellK y c q v z⟩
 ·obtain⟨q,n,nl,nf,d⟩:=I.pin p hp;exact⟨g.keep p.1 p.2 q (fun m=>by
   rw[hf]at m;rcases F9.mp m with z|z
   ·exact nl z
   ·exact nf z) (ne _ (B.pin p hp)) (.inr (B.pin p hp)),n,nl,nf,d⟩
 ·refine(I.hok b u hb).stay (fun c v hc q1=>?_) (fun _ q1=>q1) fun _ _ q1=>q1;have hn:H c≠none:=by
   rcases hc with z|z
   ·rw[z,hb];exact fun z=>nomatch z
   ·rw[z];exact fun z=>nomatch z
  exact g.keep c v q1 (fun m=>hn<|I.stkFree c m) (fun z=>hn (by rw[z];exact x.he))<|.inl hn
abbrev Cx.held(X:Cx)(e:Addr)(oe:Obj):Cx:={X with A:=X.A.mark<|some<|.ref e,calm:=false,pn:=(e,oe)::X.pn,xe:=fun _ _=>False}
theorem Inv.held(I:Inv X pins σ H s)(q:s.heap.get? e=some oe)(n:H e=none)(nl:e≠X.env.locals)(nf:e∉X.fs)(d:∀v,oe.data≠.cell v):Inv (X.held e oe) pins σ H s:=
 ⟨⟨I.ok.mod,I.ok.kind,I.ok.glob,I.ok.blt,I.ok.above,I.ok.inj,I.ok.has,I.ok.cab,fun z=>(nomatch z),I.ok.frames,I.ok.stk,I.ok.exf,I.ok.bs,I.ok.bsz,I.ok.noex,I.ok.exfs,I.ok.funs,I.ok.frf⟩,I.os,I.bare,I.base,I.loc,I.cell,I.free,I.freeC,fun p hp=>by
  rcases F9.mp hp with z|z;·subst z;exact⟨q,n,nl,nf,d⟩
  ·exact I.pin p z,I.hok,I.len⟩
theorem Inv.unheld(ok:X.Ok)(I:Inv (X.held e oe) pins σ H s):Inv X pins σ H s:=⟨ok,I.os,I.bare,I.base,I.loc,I.cell,I.free,I.freeC,fun p hp=>I.pin p<|F5 _ hp,I.hok,I.len⟩
abbrev Cx.pinsX(X:Cx)(ps:List (Addr×Obj)):Cx:={X with pn:=X.pn++ps}
theorem Inv.pinnedX(I:Inv X pins σ H s):Inv (X.pinsX pins) [] σ H s:=⟨⟨I.ok.mod,I.ok.kind,I.ok.glob,I.ok.blt,I.ok.above,I.ok.inj,I.ok.has,I.ok.cab,I.ok.hd,I.ok.frames,I.ok.stk,I.ok.exf,I.ok.bs,I.ok.bsz,I.ok.noex,I.ok.exfs,I.ok.funs,I.ok.frf⟩,I.os,I.bare,I.base,I.loc,I.cell,I.free,I.freeC,fun p hp=>I.pin p (by simpa using hp),I.hok,I.len⟩
theorem Inv.unpinnedX{pins':List (Addr×Obj)}(ok:X.Ok)(I:Inv (X.pinsX pins) pins' σ H s):Inv X pins σ H s:=⟨ok,I.os,I.bare,I.base,I.loc,I.cell,I.free,I.freeC,fun p hp=>I.pin p<|Gy _ hp,I.hok,I.len⟩
def vn(X:Cx)(E:XK)(v:EI)(s:EM):Prop:=∃(pins:List (Addr×Obj))(σ:St)(H:Hp)(x C:Addr)(lim:Heap)(od:Option Addr),v=.ref x/\Inv X pins σ H s/\Fly s.heap H lim x C od/\Big X pins lim/\(∀b,s.heap.objs.size<=b->lim.get? b=none)/\E (XV x od) (some C) H
theorem qY{E:XK}:fg (CXR X.prog X.w) (X.wish<|vn X E) E:=fun pins σ H s v s' I⟨x,C,H',od,hv,fl,os,bare,un,hok,q⟩=>by
 subst hv;have I0:Inv X pins σ H s:=I.unwish;have I':Inv X pins σ H' s':=I0.call' os un hok bare fun b z=>absurd z (by simp);refine⟨pins,σ,H',x,C,s.heap,od,rfl,I',fl,I0.bigX,fun b hb=>?_,q⟩;cases z:s.heap.get? b with
 |none=>rfl
 |some o=>
  obtain⟨o',z'⟩:=un.there b o z (by simp);exact absurd (EY (F0 z') hb)<|FO _
end
section
variable{X:Cx}{pins:List (Addr×Obj)}{σ:St}{H:Hp}{s:EM}{lim h':Heap}{e C:Addr}{oe:Obj}{M:Mh}{A:Fu}{E:EI->EM->Prop}
theorem k8{i:Nat}{x:Str}{pos:Pos}{Q:Unit->EM->Prop}(I:Inv X pins σ H s)(hN:X.N.Nodup)(hi:X.N[i]? =some x)(hk:X.env.scope.names.lookup x=some .local)
  (h:∀s',Inv X pins (σ.set i none) H s'->Q () s'):wpAny M A (do bindName X.env x .none;unbindBehindTheSuite X.env x pos) Q E s:=by
 obtain⟨m,hn,hl⟩:=id I.loc;have hcls:(X.env.scope.kind== .class||(X.env.scope.kind== .module&&X.env.locals != X.env.globals))=false:=by rw[I.ok.kind];rfl
 have hiσ:i<σ.length:=by rw[I.len];exact(ER.mp hi).1
 have cne:=I.cne;obtain⟨oL,_,_,hoL,_⟩:=id hn;refine wpAny_nameGoes_keeps hk hn hcls fun h' v hn' hs=>?_;have tracked:HOk X.prog X.w H h':=fun b ob q=>by
  refine(I.hok b ob q).stay (fun c w' hc q'=>(hs.2 c ?_).trans q') (fun _ q=>q) fun _ _ q=>q;rintro rfl;rcases hc with rfl|hc
  ·rw[I.free]at q;cases q
  ·rw[I.free]at hc;cases hc
 refine h _ ⟨I.ok,I.os,I.bare,⟨fun b o q n hb hx=>?_,fun b o q n hb hx=>?_,I.base.free,fun b o q hx=>?_,I.base.tups,I.base.frzs,I.base.tbls⟩,⟨_,hn',fun j y v' e1 e2 e3=>?_⟩,fun y c q=>?_,I.free,I.freeC,fun p hp=>?_,tracked,by simpa using I.len⟩;·exact(hs.2 b<|Fd<|EY (F0 q) I.ok.above).trans (I.base.keep b o q n hb hx)
 ·obtain⟨sl,q1⟩:=I.base.slot b o q n hb hx;exact⟨sl,(hs.2 b<|Fd<|EY (F0 q) I.ok.above).trans q1⟩
 ·obtain⟨o',q1⟩:=I.base.there b o q hx;exact⟨o',(hs.2 b<|Fd<|EY (F0 q) I.ok.above).trans q1⟩
 ·by_cases hj:j=i
  ·subst hj;rw[HQ hiσ]at e2;cases e2
  ·rw[Ik<|Gh hj]at e2;obtain⟨u',r',q⟩:=hl j y v' e1 e2 e3;refine⟨u',r',?_⟩;rcases q with⟨k,q⟩|⟨k,c,q,z⟩
   ·refine .inl ⟨k,?_⟩;have:y≠x:=fun z=>hj<|kq hN e1<|z▸hi;simp[this,q]
   ·exact .inr ⟨k,c,q,z.sameBut hs<|cne y c q⟩
 ·obtain⟨w',z⟩:=I.cell y c q;exact⟨w',z.sameBut hs<|cne y c q⟩
 ·obtain⟨q,n,ne,nf,d⟩:=I.pin p hp;exact⟨(hs.2 p.1 ne).trans q,n,ne,nf,d⟩
end
def Held(oe:Obj)(C:Addr)(od:Option Addr):Prop:=(oe.cls=.ref C/\oe.dict=od)/\∃vs:Array EI,oe.data=.fields vs/\vs[2]? =some .none
def Bh(E:XK)(i:Nat)(tb:TS)(ts:Addr->Addr->Option Addr->Obj->TS):TS:=fun D σ H=>tb D σ H/\∀(x C:Addr)(od:Option Addr)(oe:Obj)(σ':St)(H':Hp),E (XV x od) (some C) H'->H' x=none->Held oe C od->σ'.length=σ.length->ts x C od oe {nx:=fun σ'' H''=>D.nx (σ''.set i none) H'',rt:=D.rt,bk:=fun σ'' H''=>D.bk (σ''.set i none) H'',ct:=fun σ'' H''=>D.ct (σ''.set i none) H''} (σ'.set i<|some<|.ref x) H'
section
variable{X:Cx}{E:XK}{D:Addr}{bmD:List EI}{body suite:List Stmt}{b₀:Stmt}{xn n:Str}{i:Nat}{np pos pos':Pos}{tb:TS}{ts:Addr->Addr->Option Addr->Obj->TS}
theorem A2(w:Own X)(hb:∀ps,PSs ((X.pinsX ps).wish (vn (X.pinsX ps) E)) body tb)(hg:Gl X xn)(hm:X.mg xn=some (.ref D))(hD:Xcl X.base D bmD)
  (hcl:∀v C H,E v (some C) H->∃bmC,Xcl X.base C bmC/\(F6 C::bmC).contains (.ref D)=true)
  (hN:X.N.Nodup) (hi:X.N[i]? =some n) (hk:X.env.scope.names.lookup n=some .local) (hsu:∀x C od oe,Held oe C od->PSs (X.held x oe) (b₀::suite) (ts x C od oe))
  (hdb:(xn==("__debug__" :Str))=false:=by decide):
  PS X (.Try body [.ExceptHandler (some<|.Name xn np) (some n) (b₀::suite) pos] [] [] pos') (Bh E i tb ts):=by
 intro pins s σ H Dn I h;refine wpAny_Try_except<|Gz (hb pins [] s σ H Dn (I.pinnedX.wish _) h.1) (fun f s1 q=>?_) fun v s1 q=>?_
 ·cases f with
  |next=>
   obtain⟨σ1,H1,J,z⟩:=q;exact Jo ⟨σ1,H1,J.unwish.unpinnedX I.ok,z⟩
  |brk=>obtain⟨σ1,H1,J,z⟩:=q;exact⟨σ1,H1,J.unwish.unpinnedX I.ok,z⟩
  |cont=>obtain⟨σ1,H1,J,z⟩:=q;exact⟨σ1,H1,J.unwish.unpinnedX I.ok,z⟩
  |ret u=>obtain⟨v,σ1,H1,J,r,z⟩:=q;exact⟨v,σ1,H1,J.unwish.unpinnedX I.ok,r,z⟩
 ·obtain⟨pins1,σ1,H1,x,C,lim,od,rfl,J0,fl,B0,hsz,hE⟩:=q;have J:Inv X pins σ1 H1 s1:=J0.unpinnedX I.ok;have B:Big X pins lim:=⟨B0.old,B0.loc,B0.cell,fun p hp=>B0.pin p<|Gy _ hp⟩
  have hfr:X.A.frames=some (X.env::X.outer):=w.1▸I.ok.frames;refine qV (base:=X.base) (H:=H1) (lim:=lim) (C:=C) hfr (w.1▸J.stack) w.2 fl (fun b hb=>⟨J.hok.fresh hb,hsz b hb⟩) fun h2 g2 fl2=>?_;have J2:Inv X pins σ1 H1 {s1 with heap:=h2}:=J.gone w fl B (by rw[w.1];exact g2);obtain⟨bmC,hC,hup⟩:=hcl _ _ _ hE;have nl:x≠X.env.locals:=fun z=>B.loc (by rw[<-z];exact fl.hl);have nf:x∉X.fs:=fun z=>by
   obtain⟨_,o,ho,_⟩:=I.ok.funs.mem z;exact B.old x o ho (fun y=>I.ok.exfs x y z) fl.hl
  have held:∀{s':EM},Inv X pins σ1 H1 s'->Fly s'.heap H1 lim x C od->∃oe,Held oe C od/\s'.heap.get? x=some oe/\Inv (X.held x oe) pins σ1 H1 s':=fun{s'}J' f'=>by
   obtain⟨_,_,oe,vs,h1,h2,h3,h4,_⟩:=id f';exact⟨oe,⟨h2,vs,h3,h4⟩,h1,J'.held h1 f'.he nl nf fun v z=>by rw[h3]at z;cases z⟩
  obtain⟨oe2,hh2,ge2,K2⟩:=held J2 fl2;refine wpAny_handleBy_cons (codeAny_handlers_test ?_) (by intro q;cases q);refine i6 K2 hg hm ?_ hdb;refine lH (C:=C) (D:=D) (bmC:=bmC) (bmD:=bmD) (hC.keeps J2.bk) (hD.keeps J2.bk) ge2 hh2.1.1 ?_;rw[hup];refine codeAny_handlers_suite_as ?_;refine vk (base:=X.base) (env:=X.env) (outer:=X.outer) (H:=H1) (lim:=lim) (C:=C) (w.1▸J2.stack) fl2 fun h3 g3 fl3=>?_;have J3:Inv X pins σ1 H1 {s1 with heap:=h3}:=J2.gone w fl2 B (by rw[w.1];exact g3);obtain⟨oe,hh,ge,K3⟩:=held J3 fl3;refine ku (X:=X.held x oe) (i:=i) (v:=.ref x) K3 hN hi (.inl hk) rfl (fun s4 K4=>?_)<|.inr hk;refine Gz (hsu x C od oe hh pins s4 _ H1 _ K4 (h.2 x C od oe σ1 H1 hE fl.he hh (by rw[J.len,I.len]))) (fun f s5 q=>?_) fun _ _ z=>z.elim;show wpAny _ _ (do bindName X.env n .none;unbindBehindTheSuite X.env n pos) _ _ _;cases f with
  |next=>obtain⟨σ5,H5,K5,z⟩:=q;exact k8 (K5.unheld I.ok) hN hi hk fun s6 K6=>⟨_,H5,K6,z⟩
  |brk=>obtain⟨σ5,H5,K5,z⟩:=q;exact k8 (K5.unheld I.ok) hN hi hk fun s6 K6=>⟨_,H5,K6,z⟩
  |cont=>obtain⟨σ5,H5,K5,z⟩:=q;exact k8 (K5.unheld I.ok) hN hi hk fun s6 K6=>⟨_,H5,K6,z⟩
  |ret u=>obtain⟨v,σ5,H5,K5,r,z⟩:=q;exact k8 (K5.unheld I.ok) hN hi hk fun s6 K6=>⟨v,_,H5,K6,r,z⟩
end
theorem lI:plainId "proto.unchain"=true:=by decide +kernel
theorem lJ:entryFor table "proto.unchain"=some LN.«proto.unchain»:=entryFor_of_fast (by kernel_rfl)
def Hdl(A:Fu)(h:Heap):Prop:=∃(x C:Addr)(od:Option Addr)(oe:Obj),A.handled=some (.ref x)/\h.get? x=some oe/\Held oe C od
theorem Hdl.keeps{A:Fu}{h h':Heap}(x:Hdl A h)(k:∀b o C,h.get? b=some o->o.cls=.ref C->h'.get? b=some o):Hdl A h':=by
 obtain⟨a,C,od,oe,h1,h2,h3⟩:=x;exact⟨a,C,od,oe,h1,k a oe C h2 h3.1.1,h3⟩
section
variable{prog:Ff}{w:Fp}{A:Fu}{E:EI->EM->Prop}{s:EM}
theorem lK{α:Type}{a:Addr}{oa:Obj}{vs:Array EI}{T:String}{Q:α->EM->Prop}(hh:Hdl A s.heap)(ha:s.heap.get? a=some oa)(hc:oa.cls=.type T)(hd:oa.data=.fields vs)(h2:2<vs.size)
  (h:∀h',h'.get? a=some (G3 (·.setIfInBounds 2 (A.handled.getD .none)) oa)->Fj a s.heap h'->E (.ref a) {s with heap:=h'}):wpAny (model prog w) A (raiseNew (.ref a):Sem α) Q E s:=by
 obtain⟨x,C,od,oe,e1,e2,⟨e3,_⟩,us,e4,e5⟩:=hh;have ne:x≠a:=fun z=>by
  rw[z,ha]at e2;rw[Fy e2,e3]at hc;cases hc
 unfold raiseNew;refine EE<|Lf ?_;rw[e1];show wpAny _ _ (if(F6 x != F6 a)=true then _ else _) _ _ _;rw[if_pos<|bne_iff_ne.mpr fun z=>ne<|N5 z];refine EE<|GP<|wpAny_runValue<|codeAny_builtin lJ ?_;rw[Around.under_plainId lI _];unfold LN.«proto.unchain»;refine EE<|Ft e2 e4 e5 ?_;rw[if_pos (by decide)];refine EE<|ES ?_;refine ES ?_;refine EE<|GQ ha hd h2<|M9 ?_;refine h _ ?_<|Hn ..;rw[e1];exact Gb _ ha<|He<|GD hd _
theorem mD{α:Type}{Q:α->EM->Prop}(hh:Hdl A s.heap)
  (h:∀a h',({s with heap:=h'}:EM).TypeIs (.ref a) "StopIteration"->s.heap.get? a=none->(∀b o,s.heap.get? b=some o->h'.get? b=some o)->E (.ref a) {s with heap:=h'}):
  wpAny (model prog w) A (do let e <-newExc (.type "StopIteration") [];raiseNew e:Sem α) Q E s:=by
 refine EE ?_;simp only[newExc,newTuple];refine EE (Gw ?_ (by size_fits));refine EE (m:=firstArgMember _ _) (M8 (a:=Fv) (by first|rfl|(simp only[firstArgMember];rfl)) ?_);refine Gw ?_ (by size_fits);generalize hg:s.heap.push _=h1;have k1:∀b o,s.heap.get? b=some o->h1.get? b=some o:=fun b o q=>by rw[<-hg];exact EJ _ q
 have z1:s.heap.objs.size<=h1.objs.size:=by rw[<-hg,FH];exact Jh _
 refine lK (T:="StopIteration") (hh.keeps fun b o C q _=>EJ _<|k1 b o q) (EU _ rfl) rfl rfl (by simp[ownMembersOf]) fun h' e1 hs=>?_;refine h _ _ ⟨_,e1,by rw[JU]⟩ (Jf z1) fun b o q=>(hs.2 b fun z=>?_).trans (EJ _<|k1 b o q);exact absurd (F0<|k1 b o q) (by rw[z];exact FO _)
theorem lL{it l:Addr}{i:Nat}{items:Array EI}{Q:Option EI->EM->Prop}(hh:Hdl A s.heap)(hit:s.heap.IsListIter it l i)(hl:s.heap.IsList l items)(hx:items[i]? =none)
  (hQ:∀h',Hs it s.heap h'->Q none {s with heap:=h'}):wpAny (model prog w) A (pyNext<|.ref it) Q E s:=by
 obtain⟨o,ho,hc,hd⟩:=id hit;obtain⟨ol,hol,_,nl,hdl⟩:=hl;unfold pyNext;refine EE<|Hg<|FX (name:=EL "__next__") hit.typeIs Lr<|G9 Lr hit.typeIs entry_listiter_next ?_<|args_listiter_next _;show wpAny _ _ (field (.ref it) 0>>=_) _ _ s;refine EE<|Ft ho hd (x:=.ref l) rfl ?_;show wpAny _ _ (if(F6 l==Fv)=true then _ else _) _ _ s;rw[if_neg (show ¬((F6 l==Fv)=true)from F7)];show wpAny _ _ (field (.ref it) 1>>=_) _ _ s;refine EE<|Ft ho hd (x:=.int i 0) rfl ?_;show wpAny _ _ (seqItems? (.ref l)>>=_) _ _ s;refine EE<|FT hol hdl ?_;simp only[GO,hx];refine EE (J8 (EE (GQ ho hd (by simp) ?_)));refine mD (A:=A.in1) ?_ fun a h' tp nw hk=>?_
 ·exact Hdl.keeps (A:=A.in1) hh fun b ob C q z=>(FJ _ _ fun y=>by
   rw[<-y,ho]at q;rw[<-Fy q,hc]at z;cases z).trans q
 ·refine EE<|Hf (T:="StopIteration") (b:=true) tp Ht ?_;exact ES<|hQ _ fun b ob hb q=>hk b ob<|(FJ _ _<|Gh hb).trans q
theorem lg{it l:Addr}{i:Nat}{items:Array EI}{Q:Option EI->EM->Prop}(hh:Hdl A s.heap)(hit:IsTupIter s.heap it l i)(hl:NS s.heap l items)(hx:items[i]? =none)
  (hQ:∀h',Hs it s.heap h'->Q none {s with heap:=h'}):wpAny (model prog w) A (pyNext<|.ref it) Q E s:=by
 obtain⟨o,ho,hc,hd⟩:=id hit;obtain⟨ol,hol,_,nl,hdl⟩:=hl;unfold pyNext;refine EE<|Hg<|FX (name:=EL "__next__") hit.typeIs Ld<|G9 Ld hit.typeIs entry_tupleiter_next ?_<|args_tupleiter_next _;show wpAny _ _ (field (.ref it) 0>>=_) _ _ s;refine EE<|Ft ho hd (x:=.ref l) rfl ?_;show wpAny _ _ (if(F6 l==Fv)=true then _ else _) _ _ s;rw[if_neg (show ¬((F6 l==Fv)=true)from F7)];show wpAny _ _ (field (.ref it) 1>>=_) _ _ s;refine EE<|Ft ho hd (x:=.int i 0) rfl ?_;show wpAny _ _ (seqItems? (.ref l)>>=_) _ _ s;refine EE<|FT hol hdl ?_;simp only[GO,hx];refine EE (J8 (EE (GQ ho hd (by simp) ?_)));refine mD (A:=A.in1) ?_ fun a h' tp nw hk=>?_
 ·exact Hdl.keeps (A:=A.in1) hh fun b ob C q z=>(FJ _ _ fun y=>by
   rw[<-y,ho]at q;rw[<-Fy q,hc]at z;cases z).trans q
 ·refine EE<|Hf (T:="StopIteration") (b:=true) tp Ht ?_;exact ES<|hQ _ fun b ob hb q=>hk b ob<|(FJ _ _<|Gh hb).trans q
theorem oH{t:Addr}{items:Array EI}{Q:List EI->EM->Prop}(hh:Hdl A s.heap)(ht:NS s.heap t items)
  (hQ:∀h',Hs s.heap.objs.size s.heap h'->Q items.toList {s with heap:=h'}):wpAny (model prog w) A (unpackItems (.ref t) items.size none) Q E s:=by
 have hlt:t≠s.heap.objs.size:=by obtain⟨o,ho,_⟩:=ht;exact Fd<|F0 ho
 unfold unpackItems;refine EE ?_;unfold notIterableAtAll;refine EE<|Me ht.typeIs slot_tuple_iter.lookup<|ES ?_;simp only[Gk,if_false];refine EE<|GP<|iter_tuple ht ?_;refine EE (GP (draw_tuple hlt items.size 0 _ _ ⟨_,EU _ rfl,rfl,rfl⟩ (ht.push _) (by omega) fun h1 hit1 hs1=>?_));rw[show O9 items.size (List.drop 0 items.toList)=items.toList by rw[Ms];exact IT (by simp),if_neg (by simp)];have kp:∀b o,s.heap.get? b=some o->h1.get? b=some o:=fun b o q=>(hs1.2 b<|Fd<|F0 q).trans (EJ _ q);refine EE (GP (lg (hh.keeps fun b o C q _=>kp b o q) hit1 ((ht.push _).extBut hs1.extBut hlt) (by simp) fun h2 he2=>?_));simp only[Option.isSome_none,Gk,if_false];exact ES<|hQ h2 fun b o hb q=>he2 b o hb<|kp b o q
theorem iZ{env:Env}{elts:List Expr}{x1}{pos:Pos}{t:Addr}{items:Array EI}{Q:Unit->EM->Prop}(hh:Hdl A s.heap)(ht:NS s.heap t items)
  (hn:(assignEach elts env).length=items.size) (hstar:(assignEach elts env).findIdx? (·.1)=none)
  (h:∀h',Hs s.heap.objs.size s.heap h'->wpAny (model prog w) A (assignInOrder ((assignEach elts env).map (·.2)) items.toList) Q E {s with heap:=h'}):
  wpAny (model prog w) A (assign (.Tuple elts x1 pos) env<|.ref t) Q E s:=by
 rw[assign_Tuple];refine EE<|K7 ?_;unfold unpack;rw[hn,hstar];exact EE<|GP<|oH hh ht h
end
def HdX(X:Cx):Prop:=∃(x C:Addr)(od:Option Addr)(oe:Obj),X.A.handled=some (.ref x)/\Held oe C od/\X.s₀.heap.get? x=some oe/\X.H₀ x=none/\x∉X.fs/\x∉X.ex
section
variable{X:Cx}{pins:List (Addr×Obj)}{σ:St}{H:Hp}{s:EM}
theorem Inv.hdl(I:Inv X pins σ H s)(x:HdX X):Hdl X.A s.heap:=by
 obtain⟨a,C,od,oe,h1,h2,h3,h4,h5,h6⟩:=x;exact⟨a,C,od,oe,h1,I.base.keep a oe h3 h4 h5 h6,h2⟩
theorem HdX.comp{scope:HM}{N:List Str}{C:Addr}{fp:List Addr}(x:HdX X)(I:Inv X pins σ H s)(f:∀b∈fp,FpOk X pins H b):HdX (aM X scope N s H C fp):=by
 obtain⟨a,C',od,oe,h1,h2,h3,h4,h5,h6⟩:=x;refine⟨a,C',od,oe,h1,h2,I.base.keep a oe h3 h4 h5 h6,I.base.free a oe h3 h4 h6,fun m=>?_,fun m=>?_⟩
 ·rcases F9.mp (I.stkSub a m)with z | z
  ·have:=F0 h3;rw[z]at this;exact absurd (EY this I.ok.above)<|FO _
  ·exact h5 z
 ·rcases (f a m).2.2.2.1 with z | z;·exact h6 z
  ·exact absurd (EY (F0 h3) z)<|FO _
end
structure TurnH(P:Ff)(w:Fp)(K:EH)(A:Fu)(tg:Expr)(J:It)(fp:List Addr)(it:Addr)(tn:Nat->Heap->Prop):Prop where
 obj:∀i h,tn i h->∀b∈fp,∃o,h.get? b=some o/\∀v,o.data≠.cell v
 keep:∀i h h',tn i h->(∀b∈fp,∀o,h.get? b=some o->h'.get? b=some o)->tn i h'
 item:∀(X:Cx),X.prog=P->X.w=w->X.K=K->X.A=A->HdX X->∀(i:Nat)(pins:List (Addr×Obj))(s:EM)(σ:St)(H:Hp)(E:EI->EM->Prop),Inv X pins σ H s->(∀b∈fp,FpOk X pins H b)->tn i s.heap->J.go i H->
  wpAny (model P w) X.A (pyNext<|.ref it) (fun r s1=>∃u,r=some u/\
   wpAny (model P w) X.A (letOwnedTupleGo tg (.ref it) u) (fun _ s2=>∃x H',Inv X pins σ H' s2/\RelV x u/\J.yld i H x H'/\tn (i+1) s2.heap/\∀b∈fp,H' b=none) E s1) E s
 done:∀(X:Cx),X.prog=P->X.w=w->X.K=K->X.A=A->HdX X->∀(i:Nat)(pins:List (Addr×Obj))(s:EM)(σ:St)(H:Hp)(E:EI->EM->Prop),Inv X pins σ H s->(∀b∈fp,FpOk X pins H b)->tn i s.heap->J.stop i H->
  wpAny (model P w) X.A (pyNext<|.ref it) (fun r s1=>r=none/\Inv X pins σ H s1) E s
 self:∀(A:Fu)(i:Nat)(s:EM)(Q:EI->EM->Prop)(E:EI->EM->Prop),tn i s.heap->Q (.ref it) s->wpAny (model P w) A (pyIter<|.ref it) Q E s
theorem pQ{P:Ff}{w:Fp}{K:EH}{A:Fu}{tg:Expr}(a it:Addr):TurnH P w K A tg (CP K a) [it] it (fun i h=>h.IsListIter it a i) where
 obj:=(i7 (P:=P) (w:=w) (K:=K) (tg:=tg) a it).obj
 keep:=(i7 (P:=P) (w:=w) (K:=K) (tg:=tg) a it).keep
 self:=(i7 (P:=P) (w:=w) (K:=K) (tg:=tg) a it).self
 item:=by
  intro X hP hw hK hA hx i pins s σ H E I hf st hg;subst hP hw hK hA;obtain⟨xs,x,hq,hx⟩:=hg;obtain⟨its,rv,p,hz⟩:=I.list hq;obtain⟨u,hu,ru⟩:=rv.get hx;obtain⟨f0,f1,f2,f3,f4,f5⟩:=hf it (by simp);refine Kn st p.isList (x:=u) (by simpa using hu) fun h' st' sb=>?_;have I1:Inv X pins σ H {s with heap:=h'}:=I.turned (t':=s.toks) (fun b o hb e=>(sb.2 b hb).trans e) f0 f1 f3 f4 f5;obtain⟨o,e,c,d⟩:=id st';exact⟨u,rfl,nO (s:={s with heap:=h'}) e c d (by decide) ⟨x,H,I1,ru,⟨rfl,fun ys hy=>by rw[I.list_inj hy hq];exact hx⟩,st',fun b hb=>(hf b hb).1⟩⟩
 done:=by
  intro X hP hw hK hA hx i pins s σ H E I hf st hg;subst hP hw hK hA;obtain⟨xs,hq,hl'⟩:=hg;obtain⟨its,rv,p,hz⟩:=I.list hq;obtain⟨f0,f1,f2,f3,f4,f5⟩:=hf it (by simp);have hl:=rv.length;exact lL (I.hdl hx) st p.isList (by simp;omega) fun h' eb=>⟨rfl,I.turned (t':=s.toks) (fun b o hb e=>eb b o hb e) f0 f1 f3 f4 f5⟩
def Dk(X:Cx)(tg iter:Expr)(wi:TI):Prop:=
 ∀(pins:List (Addr×Obj))(s:EM)(σ:St)(H:Hp)(R:It->Hp->Prop),Inv X pins σ H s->wi σ H R->
  wpAny (model X.prog X.w) X.A (eval iter X.env) (fun v s1=>wpAny (model X.prog X.w) X.A (pyIter v) (fun itv s2=>∃(it:Addr)(fp:List Addr)(tn:Nat->Heap->Prop)(J:It)(H':Hp),itv=.ref it/\Inv X pins σ H' s2/\TurnH X.prog X.w X.K X.A tg J fp it tn/\tn 0 s2.heap/\(∀b∈fp,FpOk X pins H' b)/\R J H') X.xe s1) X.xe s
section
variable{X:Cx}{tg:Expr}{K:EH}
theorem vo{l:Expr}{tl:TE}(hK:X.K=K)(hl:PE X l tl):Dk X tg l (nP K tl):=by
 subst hK;intro pins s σ H R I h;refine cb (hl pins s σ H _ I h) fun v s1 zz=>?_;obtain⟨x,H1,I1,r1,q1⟩:=zz;obtain⟨a,e,⟨xs,hq⟩,q⟩:=q1;subst e;cases r1;obtain⟨its,rv,p,hz⟩:=I1.list hq;refine Ih p.isList ?_;refine⟨s1.heap.objs.size,[s1.heap.objs.size],_,_,H1,rfl,I1.kept (t':=s1.toks) fun b o e=>EJ _ e,pQ a _,⟨_,EU _ rfl,rfl,rfl⟩,fun b hb=>?_,q⟩;have e:b=s1.heap.objs.size:=by simpa using hb
 subst e;exact I1.fpOk (Fb _)<|I1.hok.fresh<|Fb _
theorem xW{pos:Pos}{es:List Expr}{k:Nat}{t:xg}{n:Nat}(hK:X.K=K)(hx:HdX X)(h:Aw X es t)
  (hn:(assignEach es X.env).length=n:=by rfl) (hst:(assignEach es X.env).findIdx? (·.1)=none:=by rfl):PG X (.Tuple es k pos) (cR K n t):=by
 subst hK;intro pins s σ H v u Q I r hw;obtain⟨a,xs,e1,hq,hl,hw⟩:=hw;subst e1;cases r;obtain⟨its,rv,ht,hz⟩:=I.tuple hq;refine iZ (I.hdl hx) ht (by simp[hn,<-hl,rv.length]) hst fun h' hx=>?_;have I1:Inv X pins σ H {s with heap:=h'}:=I.kept (t':=s.toks) fun b o e=>hx b o (Fd<|F0 e) e;exact h pins _ σ H xs _ Q I1 (by simpa using rv) hw
end
section
variable{X:Cx}{scope:HM}{N:List Str}{cap:List (Option Nat)}{tg iter elt:Expr}{ifs:List Expr}{pos:Pos}{wi:TI}{g:TG}{tf:TT}{te:TE}
theorem pR(S:CompScope X scope N cap)(hx:HdX X)
  (hg:∀s H C fp,HdX (aM X scope N s H C fp)->PG (aM X scope N s H C fp) tg g) (hf:∀s H C fp,zK (aM X scope N s H C fp) ifs tf) (he:∀s H C fp,PE (aM X scope N s H C fp) elt te)
  {pins:List (Addr×Obj)} {σ:St} {H2:Hp} {s2:EM} {it:Addr} {fp:List Addr} {tn:Nat->Heap->Prop} {J:It} {Qv:VK} {E:EI->EM->Prop} {RR:EI->Addr->Nc->EM->Prop}
  (I2:Inv X pins σ H2 s2) (T:TurnH X.prog X.w X.K X.A tg J fp it tn) (st2:tn 0 s2.heap) (f2:∀b∈fp,FpOk X pins H2 b) {W:Nat->Nat->List V->Hp->Prop} (w0:∃m,W 0 m [] H2)
  (turn:∀i m ys H,W i m ys H->ys.length< sizeLine/\((J.stop i H/\∀D,H D=none->Qv (.ref D) (cy H D<|.lst ys))\/
   (J.go i H/\∃N:List V->Hp->Prop,(∀ys' H',N ys' H'->∃m',m'<m/\W (i+1) m' ys' H')/\∀x H',J.yld i H x H'->g x (bz cap σ) H' fun σ2 H2=>Keep (bz cap σ) σ2/\tf σ2 H2 fun b H3=>if b=true then te σ2 H3 fun y H4=>N (ys++[y]) H4 else N ys H3)))
  (fin:∀(D C:Addr) (σ':St) (H':Hp) (s':EM) (its:List EI) (k:Nat) (ys:List V),s2.heap.objs.size<=D->s2.heap.objs.size<=C->D≠C->Inv (aM X scope N s2 H2 C fp) [(D,eP its k)] σ' H' s'->Vals ys its->ys.length<=sizeLine->
   Qv (.ref D) (cy H' D (.lst ys))->RR (.ref D) C (.ok .next) s'):
  wpAny (model X.prog X.w) X.A (newList []) (fun acc s₃=>wpAny (model X.prog X.w) X.A (newFunctionEnv scope X.env.globals (cQ X.env scope.names []) [] X.env.qual none .none<|some X.env) (fun cenv s₄=>
   codeAny (model X.prog X.w) X.A (.compStart (.ListComp elt [⟨tg,iter,ifs,0⟩] scope pos) 0 (.ref it) acc {cenv with scope:=relabel scope X.env}) (RR acc cenv.locals) s₄) E s₃) E s2:=by
 have frz:HdX X:=hx;refine Gw<|kO ?_;generalize hD:s2.heap.objs.size=D;generalize hH3:s2.heap.push {cls:=.type "list",dict:=none,data:=.seq ([]:List EI).toArray}=h3;have hz3:h3.objs.size=D+1:=by rw[<-hH3,FH,hD]
 dsimp only;have eC:({s2 with heap:=h3}:EM).heap.objs.size=D+1:=hz3;rw[show h3.objs.size=D+1 from hz3];generalize hH4:pushCells (h3.push {cls:=.type "dict",data:=.dict #[]}) scope.names=h4;have hz3':(h3.push {cls:=.type "dict",data:=.dict #[]}).objs.size=D+1+1:=by rw[FH,hz3]
 have ck:Nf h4 (D+1+1) (cellsFrom (D+1+1) scope.names []):=by
  have:=cellsFrom_ok scope.names (h3.push {cls:=.type "dict",data:=.dict #[]}) (D+1+1) [] ⟨fun _ _ hm=>(nomatch hm),JT⟩ (by rw[hz3'];exact Fb _);rw[hz3',hH4]at this;exact this
 have k23:∀b o,s2.heap.get? b=some o->h3.get? b=some o:=fun b o e=>by rw[<-hH3];exact EJ _ e
 have k34:∀b o,h3.get? b=some o->h4.get? b=some o:=fun b o e=>by rw[<-hH4];exact Jr _ _ b o<|EJ _ e
 have hD4:h4.get? D=some (eP [] 0):=k34 _ _ (by rw[<-hH3,<-hD];exact EU _ rfl);have hn4:h4.Ns (D+1) fun _=>none:=by
  rw[<-hH4,<-hz3];exact(Nx h3<|.type "dict").keeps (Jr _ _)
 have fpD:∀b∈fp,b<D:=fun b hb=>by
  obtain⟨o,e,_⟩:=T.obj _ _ st2 b hb;rw[<-hD];exact F0 e
 have hlt:∀b∈fp,b<D+1:=fun b hb=>LM<|fpD b hb;have hDC:s2.heap.objs.size<=D+1:=by rw[hD];exact Jh _
 have hDs:s2.heap.objs.size<=D:=by rw[hD];exact Fb _
 have IC:Inv (aM X scope N s2 H2 (D+1) fp) [] (bz cap σ) H2 {s2 with heap:=h4}:=
  kQ S I2 hDC ck f2 hlt ⟨_,_,rfl⟩ hn4 fun b o e=>k34 b o<|k23 b o e
 have okC:=IC.ok;have nfs:∀{b:Addr},s2.heap.objs.size<=b->b∉frs X.stack:=fun{b}hb hm=>by
  obtain⟨_,o,ho,_⟩:=I2.stack.mem hm;exact absurd (EY (F0 ho) hb)<|FO _
 have frc:∀x∈scope.names,x.2=.free->∃c,X.env.cells.lookup x.1=some c:=fun x hx hk=>I2.ok.has x.1<|S.free x hx hk;have cellsD:∀x c,(aM X scope N s2 H2 (D+1) fp).env.cells.lookup x=some c->c≠D:=fun x c e=>by
  rcases dG frc e with a|⟨_,a⟩
  ·have q:D+1+1<=c:=(ck.empty x c a).2;exact H9<|EY (EY (GI D)<|Jh _) q
  ·obtain⟨v,q⟩:=I2.cell x c a;have:=q.lt;rw[hD]at this;exact Fd this
 have fpO:∀{H':Hp}{its:List EI}{k:Nat},(∀b∈fp,H' b=none)->∀b∈fp,FpOk (aM X scope N s2 H2 (D+1) fp) [(D,eP its k)] H' b:=fun{H' its k}hn b hb=>
  ⟨hn b hb,Fd<|hlt b hb,okC.exfs b hb,.inl hb,(okC.exf b hb).2,fun p hp=>by
   have e:p=(D,eP its k):=by simpa [aM] using hp
   subst e;exact H9 (fpD b hb)⟩
 have pinD:∀{σ':St}{H':Hp}{s':EM}{its:List EI}{k:Nat},Inv (aM X scope N s2 H2 (D+1) fp) [] σ' H' s'->s'.heap.get? D=some (eP its k)->H' D=none->Inv (aM X scope N s2 H2 (D+1) fp) [(D,eP its k)] σ' H' s':=fun{σ' H' s' its k}J e n=>
  J.pins_of fun p hp=>by
   have e':p=(D,eP its k):=by simpa using hp
   subst e';exact⟨e,n,Fd<|GI _,nfs hDs,fun v z=>by
    have z':Kd its.toArray k=I9 v:=z;cases z'⟩
 have loop:codeAny (model X.prog X.w) X.A (.compLoop (.ListComp elt [⟨tg,iter,ifs,0⟩] scope pos) 0 (.ref it) (.ref D) (aM X scope N s2 H2 (D+1) fp).env) (RR (.ref D)<|D+1) {s2 with heap:=h4}:=by
  obtain⟨m0,w0⟩:=w0;refine iS (fun n s'=>∃i ys its k σ' H',Inv (aM X scope N s2 H2 (D+1) fp) [(D,eP its k)] σ' H' s'/\tn i s'.heap/\(∀b∈fp,H' b=none)/\Vals ys its/\(∀(j:Nat)(v:V),(bz cap σ)[j]? =some (some v)->σ'[j]? =some (some v))/\W i n ys H') ?_ m0
   ⟨0,[],[],0,bz cap σ,H2,pinD IC hD4<|I2.hok.fresh hDs,T.keep _ _ _ st2 fun b hb o e=>k34 b o<|k23 b o e,fun b hb=>(f2 b hb).1,.nil,fun _ _ e=>e,w0⟩
  rintro n s3 ⟨i,ys,its,k,σ3,H3,I3,st3,fr3,rv,kp,w3⟩;obtain⟨hyl,tr⟩:=turn i n ys H3 w3;have pin3:=I3.pin (D,eP its k)<|Fq _ EZ;rcases tr with⟨stop,qn⟩|⟨go,NN,hNN,step⟩
  ·refine cb (T.done (aM X scope N s2 H2 (D+1) fp) rfl rfl rfl rfl (hx.comp I2 f2) i _ s3 σ3 H3 _ I3 (fpO fr3) st3 stop) fun r s4 zz=>?_;obtain⟨hr,I4⟩:=zz;subst hr;exact fin D (D+1) σ3 H3 s4 its k ys hDs hDC (Fd<|GI _) I4 rv (Hy hyl)<|qn D pin3.2.1
  ·have I3':Inv (aM X scope N s2 H2 (D+1) fp) [(D,eP its k)] (bz cap σ) H3 s3:=I3.weak (by rw[I3.len,IC.len]) kp;refine cb (T.item (aM X scope N s2 H2 (D+1) fp) rfl rfl rfl rfl (hx.comp I2 f2) i _ s3 _ H3 _ I3' (fpO fr3) st3 go) fun r s4 zz=>?_;obtain⟨u,hr,h4⟩:=zz;subst hr;refine cb h4 fun _ s5 zz=>?_;obtain⟨x,H5,I5,r5,y5,st5,fr5⟩:=zz;have I5':=I5.pinned (fpO fr5)<|T.obj _ _ st5;refine cb (hg _ _ _ _ (hx.comp I2 f2) _ s5 _ H5 x u _ I5' r5<|step x H5 y5) fun _ s6 zz=>?_;obtain⟨σ6,H6,I6,kp6,q6⟩:=zz;refine cb (hf _ _ _ _ _ s6 σ6 H6 _ I6 q6) fun ok s7 zz=>?_;obtain⟨H7,I7,q7⟩:=zz;have back:∀{s8:EM}{H8:Hp},Inv (aM X scope N s2 H2 (D+1) fp) ([(D,eP its k)]++jl fp s5.heap) σ6 H8 s8->tn (i+1) s8.heap/\(∀b∈fp,H8 b=none)/\s8.heap.get? D=some (eP its k)/\H8 D=none:=fun{s8 H8}I8=>by
    have at_:∀b∈fp,∀o,s5.heap.get? b=some o->s8.heap.get? b=some o/\H8 b=none:=fun b hb o e=>by
     have z:=I8.pin (b,o)<|Fq _<|Fq _<|gm hb e;exact⟨z.1,z.2.1⟩
    have pd:=I8.pin (D,eP its k)<|Fq _<|Gy _ EZ;refine⟨T.keep _ _ _ st5 fun b hb o e=>(at_ b hb o e).1,fun b hb=>?_,pd.1,pd.2.1⟩;obtain⟨o,e,d⟩:=T.obj _ _ st5 b hb;exact(at_ b hb o e).2
   cases ok with
   |false=>
    rw[if_neg F7]at q7 ⊢;obtain⟨m',hm,w'⟩:=hNN _ _ q7;obtain⟨t7,f7,d7,n7⟩:=back I7;exact⟨m',hm,i+1,ys,its,k,σ6,H7,I7.unpinned,t7,f7,rv,fun j v e=>Od kp6 e,w'⟩
   |true=>
    rw[if_pos rfl]at q7 ⊢;refine cb (he _ _ _ _ _ s7 σ6 H7 _ I7 q7) fun y8 s8 zz=>?_;obtain⟨y,H8,I8,r8,q8⟩:=zz;obtain⟨m',hm,w'⟩:=hNN _ _ q8;obtain⟨t8,f8,d8,n8⟩:=back I8;refine append_at (D:=D) (its:=its.toArray) (n:=k) d8 (fun h' hs' hD'=>?_) (by rw[F4,<-rv.length];exact Hy hyl);have J0:Inv (aM X scope N s2 H2 (D+1) fp) [] σ6 H8 s8:=I8.pins_of fun p hp=>by cases hp
    have J1:Inv (aM X scope N s2 H2 (D+1) fp) [] σ6 H8 {s8 with heap:=h'}:=J0.turned (it:=D) (t':=s8.toks) (fun b o hb e=>(hs'.2 b hb).trans e) n8 (Fd<|GI _) (.inr hDs) cellsD fun p hp=>by
     have:p∈([]:List (Addr×Obj)):=hp;cases this
    refine⟨m',hm,i+1,ys++[y],its++[y8],k+1,σ6,H8,pinD J1 (by simpa using hD') n8,T.keep _ _ _ t8 fun b hb o e=>(hs'.2 b<|Fd<|fpD b hb).trans e,f8,rv.append<|.cons r8 .nil,fun j v e=>Od kp6 e,w'⟩
 exact Kt loop<|Gz (T.self _ 0 _ _ _ (T.keep _ _ _ st2 fun b hb o e=>k34 b o<|k23 b o e) loop) (fun _ _ h=>h) fun _ _ h=>h
theorem vp(S:CompScope X scope N cap)(hx:HdX X)(hi:Dk X tg iter wi)
  (hg:∀s H C fp,HdX (aM X scope N s H C fp)->PG (aM X scope N s H C fp) tg g) (hf:∀s H C fp,zK (aM X scope N s H C fp) ifs tf) (he:∀s H C fp,PE (aM X scope N s H C fp) elt te)
  (hs:∀x,foldedSetIterable iter X.env x=pure x:=by intro _;rfl):PE X (.ListComp elt [⟨tg,iter,ifs,0⟩] scope pos) (kP cap wi g tf te):=by
 intro pins s σ H Q I h;rw[N2];have frc:∀x∈scope.names,x.2=.free->∃c,X.env.cells.lookup x.1=some c:=fun x hx hk=>I.ok.has x.1<|S.free x hx hk;refine Iq (use:=none) rfl hs (fV frc) S.kind (iH S)<|cb (hi pins s σ H _ I h) fun v s1 h1=>cb h1 fun itv s2 h2=>?_;obtain⟨it,fp,tn,J,H2,rfl,I2,T,st2,f2,W,w0,turn⟩:=h2;refine pR (RR:=fun acc C=>compPost (model X.prog X.w) X.A X.xe none (EP X pins σ Q) acc C) S hx hg hf he I2 T st2 f2 w0 turn fun D C σ' H' s' its k ys hD hC hDC I' rv hl q=>?_;obtain⟨m,hn,_⟩:=I'.loc;exact⟨m,hn,fun h' hs'=>⟨.ref D,_,kT I2 f2 hD hC hDC I' rv hl hs',rfl,q⟩⟩
end
end L2
namespace L2
open PySem PySem.Spec PySem.Calls PyProof.Rows
open PySem.W (findIn findObj mroIn looks_findIn looks_find looks_mroIn class_get KitX clsIn Frag)
structure XK1(K:Frag)(C:Addr):Prop where
 ga:findIn K (.ref C) "__getattribute__"=some (some<|.builtin "BaseException.__getattribute__")
 gt:findIn K (.ref C) "__getattr__"=some none
 cl:∀od,findObj K C od "__class__"=some (.bind (.builtin "getset_descriptor.__get__")<|.builtin "object.__class__")
 ob:mroIn K C (.type "object")=some true
 be:mroIn K C (.type "BaseException")=some true
section
variable{prog:Ff}{w:Fp}{A:Fu}{E:EI->EM->Prop}{s:EM}{K:Frag}{x C:Addr}{ox:Obj}{od:Option Obj}
theorem sP{Q:Option EI->EM->Prop}(Z:XK1 K C)(X:K.In s.heap)(I:IM s.heap x ox C od)(h:Q (some<|.ref C) {s with toks:=s.toks+1}):wpAny (model prog w) A (getAttr? (.ref x) "__class__") Q E s:=by
 obtain⟨hh,g,d,t,os⟩:=s;have L0:=I.type (M:=model prog w);have L1:=JD (M:=model prog w) X Z.ga;have L2:=JD (M:=model prog w) X Z.gt;have L3:=looks_find (M:=model prog w) X I<|Z.cl od;have L4:=looks_mroIn (M:=model prog w) X Z.be;unfold getAttr? getAttrBy? getAttrBy;refine EE<|wpAny_mkText<|EE<|Hg<|GP<|EE<|L0.at<|EE<|L1.at ?_;dsimp only;rw[show(N6 "BaseException.__getattribute__"==N6 "object.__getattribute__")=false from by decide +kernel,Mq,if_neg (by decide)];unfold getAttrByItsOwn hookBefore;rw[if_pos (show onTheHeap (F6 C)=true from rfl)];refine EE<|L2.at ?_;refine EE<|Hg<|GP ?_;unfold callGetattribute;rw[if_neg (by simp)];unfold boundAndCalled;rw[JJ.ga.bind];have LI:PySem.W.Looks (model prog w) hh (isInstance (.ref x)<|.type "BaseException") true:=L0.andThen L4;have chk:∀{A':Fu}{E':EI->EM->Prop}{Q':Unit->EM->Prop}{tk:Nat},Q' () ⟨hh,g,d,tk,os⟩->wpAny (model prog w) A' (checkBuiltinCall "BaseException.__getattribute__" ⟨[.ref x,.str "__class__" t],[]⟩) Q' E' ⟨hh,g,d,tk,os⟩:=fun{A' E' Q' tk}hq=>by
  have hk:builtinKind "BaseException.__getattribute__"=some .slot:=by decide +kernel
  have hsplit:splitId "BaseException.__getattribute__"=some ("BaseException","__getattribute__"):=by decide +kernel
  have ha:=F.args_bexc_ga (.ref x)<|.str "__class__" t;simp only[checkBuiltinCall,hk,hsplit];refine EE<|LI.at ?_
  repeat wp_step
  exact hq
 refine EE<|ES<|Ko<|codeAny_call_builtin JJ.ga.plain F.entry_bexc_ga<|chk ?_;refine EE (m:=slotArgs _ _ _)<|ES ?_;refine EE<|ES<|EE<|L0.at<|EE<|L3.at ?_;show wpAny _ _ (holding [.builtin "object.__class__"] (call (.builtin "getset_descriptor.__get__") [.builtin "object.__class__",.ref x,.ref C])>>=ret) _ _ _;refine EE<|GP<|Ko<|class_get (s:=⟨hh,g,d,t+1,os⟩) (ox:=ox) (od:=od) X I Z.ob<|ES ?_;exact PySem.W.handed_on rfl<|ES h
theorem vq(Z:XK1 K C):KitX K (.ref x) (.ref C) (fun h=>IM h x ox C od) where
 ty:=fun _ _ _ I=>I.type
 it:=fun _ _ X _=>by
  obtain⟨cd,a,_⟩:=Kf.mp Z.ob;unfold clsIn at a;split at a
  ·rename_i c' d' cd' sl' ho;intro A' Q' E' s' k q;unfold isType loadHead;exact EE<|Ml (k _ _<|X _ _ ho)<|ES q
  ·cases a
 ne:=fun h tp dd its n sl X htp=>by
  obtain⟨cd,a,_⟩:=Kf.mp Z.ob;refine Bool.eq_false_iff.mpr fun q=>?_;have e:C=tp:=N5<|beq_iff_eq.mp q;subst e;unfold clsIn at a;split at a
  ·rename_i c' d' cd' sl' ho;have z:=(X _ _ ho).symm.trans htp;cases z
  ·cases a
 ca:=fun X I k=>sP Z X I k
theorem pS{c:EI}{b:Bool}{Q:EI->EM->Prop}(Z:XK1 K C)(X:K.In s.heap)(I:IM s.heap x ox C od)(e:Fw K (.ref C) c=some b)(h:∀tk,Q (.bool b) {s with toks:=tk}):
  wpAny (model prog w) A (call (.builtin "isinstance") [.ref x,c]) Q E s:=Gn (vq Z) X I e (fun z=>by cases z) h
end
end L2
namespace L2
open PySem PySem.Spec PySem.Calls PyProof.Rows
def HdE(X:Cx)(x C:Addr):Prop:=∃(oe:Obj)(od:Option Addr),(∀d,od=some d->∃o u,X.H₀ d=some (.frz o u))/\X.A.handled=some (.ref x)/\Held oe C od/\X.s₀.heap.get? x=some oe/\X.H₀ x=none/\x∉X.fs/\x∉X.ex
theorem HdE.hdx{X:Cx}{x C:Addr}(h:HdE X x C):HdX X:=let ⟨oe,od,_,z⟩:=h;⟨x,C,od,oe,z⟩
theorem Inv.inst{X:Cx}{pins:List (Addr×Obj)}{σ:St}{H:Hp}{s:EM}{x C:Addr}(I:Inv X pins σ H s)(h:HdE X x C):∃ox od,IM s.heap x ox C od:=by
 obtain⟨oe,od,hf,h1,⟨⟨h2,h2'⟩,vs,h7,h8⟩,h3,h4,h5,h6⟩:=h;have nc:Mw oe=true:=by unfold Mw;rw[h7]
 have hk:=I.base.keep x oe h3 h4 h5 h6;cases od with
 |none=>exact⟨oe,none,hk,h2,nc,by rw[h2'];trivial⟩
 |some d=>
  obtain⟨o,u,z⟩:=hf d rfl;have:=I.hok d _<|I.base.frzs d o u z;exact⟨oe,some o,hk,h2,nc,by rw[h2'];exact this.1⟩
def kv:V->Option EI
 | .ref D=>some<|.ref D
 | .ty T=>some<|.type T
 |_=>none
section
variable{X:Cx}{K:EH}{x C:Addr}
theorem bh(hK:X.K=K)(h:HdE X x C)(Z:XK1 K C):eQ X (.builtin "isinstance") (fun xs H Q=>∃v c b,xs=[.ref x,v]/\kv v=some c/\Fw K (.ref C) c=some b/\Q (.bl b) H):=by
 subst hK;intro pins s σ H xs us Q I r q;obtain⟨v,c,b,rfl,hv,e,q⟩:=q;obtain⟨u,w',rfl,rx,rv⟩:=nR r;obtain rfl:u=.ref x:=rx;have hw:w'=c:=by
  unfold kv at hv;split at hv;·cases hv;exact rv
  ·cases hv;exact rv
  ·cases hv
 subst hw;obtain⟨ox,od,J⟩:=I.inst h;exact pS Z I.kIn J e fun tk=>⟨.bl b,H,I.tok _,rfl,q⟩
end
structure RoomH(k:Nat)(A:Fu):Prop where
 dp:A.depth+3*k+5<recursionLimit
 un:A.units+16*k+200<cLine
theorem Room.h{k:Nat}{A:Fu}(r:Room k A)(v:Option EI):RoomH k (A.mark v):=⟨r.dp,r.un⟩
abbrev Bi(P:Ff)(w:Fp)(K:EH)(mg:Str->Option EI)(base:Heap)(N:List Str)(qual:Str)(scope:HM)(f:Addr)(cd:EI)(A:Fu)(outer:List Env)(s0:EM)(H0:Hp)(E:XK):Cx:={kH CX0 P w K mg base N qual scope f cd A outer s0 H0 E with calm:=false,xe:=fun _ _=>False}
structure FnOkH(P:Ff)(w:Fp)(K:EH)(mg:Str->Option EI)(base:Heap)(k:Nat)(f:Addr)(fd:F8)(ps:List Str)(sp:Addr->Addr->Sp):Prop where
 len:∀x C vs H Q E,sp x C vs H Q E->vs.length=ps.length
 run:∀(x C:Addr)(od:Option Addr)(oe:Obj)(A:Fu)(outer:List Env)(s:EM)(H:Hp)(args:Args)(us:List EI)(vs:List V)(Q:VK)(E:XK),RoomH k A->A.handled=some (.ref x)->Held oe C od->(∀d,od=some d->∃o u,H d=some (.frz o u))->s.heap.get? x=some oe->H x=none->x∉frs outer->
  Env0 P w K mg base A outer s H->L7 s fd args (ps.zip us)->Vals vs us->sp x C vs H Q E->codeAny (model P w) A (.call (.ref f) args) (CR CX0 outer P w H s Q E) s
section
variable{P:Ff}{w:Fp}{K:EH}{mg:Str->Option EI}{base:Heap}
theorem Fun.okH{x0 qual:Str}{st:Stmt}{f:Addr}{fd:F8}{N ps:List Str}{k:Nat}{sp:Addr->Addr->Sp}(F:Fun K x0 qual st f fd)(S:FnScope N ps (defScope st))(len:∀x C vs H Q E,sp x C vs H Q E->vs.length=ps.length)
  (hbody:∀(x C:Addr) (cdv:EI) (A:Fu) (outer:List Env) (s:EM) (H:Hp) (vs:List V) (Q:VK) (E:XK),HdE (Bi P w K mg base N qual (defScope st) f cdv A outer s H E) x C->RoomH k (A.deeper<|envOfC qual (defScope st) s.heap.objs.size f cdv)->sp x C vs H Q E->
   ∃t,PSs (Bi P w K mg base N qual (defScope st) f cdv A outer s H E) (defBody st) t/\t {nx:=fun _ H'=>Q .non H',rt:=Q} (start N vs) H):FnOkH P w K mg base (k+1) f fd ps sp:=by
 obtain⟨oc,od,kV,doc,pm,an,cdv,ct,osl,rfl,lk,hcd⟩:=F.ex;refine⟨len,fun x C od oe A outer s H args us vs Q E hr hA hh hfz hx hHx hxo e0 hb r hsp=>?_⟩;have hl:=len _ _ _ _ _ _ hsp;have KX:K.In s.heap:=e0.mod.kin.keeps fun b o e=>(e0.bs b o e).1;have lim:s.heap.NoLimit:=e0.mod.nolimit.keeps fun b o e=>(e0.bs b o e).1;have hkind:∀y∈ps.zip us,(defScope st).names.lookup y.1=some .local\/((defScope st).names.lookup y.1=some .cell/\((cellsFrom (s.heap.objs.size+1) (defScope st).names []).lookup y.1).isSome=true):=fun⟨n,v⟩hy=>by
  rcases S.par n (GG hy).1 with q|q;·exact .inl q
  ·exact .inr ⟨q,HS _ _ _<|.inl q⟩
 refine KG (by have:=hr.dp;omega) (KX _ _ lk) rfl S.co S.gen rfl (Lk KX hcd)<|hb _ _ _ _ ?_;refine JF S.kind hkind fun env he s1 z=>?_;subst he;refine⟨lim.keeps z.toInCall.keep,codeAny_func ?_⟩;have hE:HdE (Bi P w K mg base N qual (defScope st) f cdv A outer s H E) x C:=⟨oe,od,hfz,hA,hh,hx,hHx,hxo,fun m=>absurd (show x∈([]:List Addr)from m) (by simp)⟩
 obtain⟨t,ht,hq⟩:=hbody x C cdv A outer s H vs Q E hE ⟨by have:=hr.dp;show A.depth+1+3*k+5<_;omega,by have:=hr.un;show A.units+3+16*k+200<_;omega⟩ hsp;have e0':Env0 P w K mg base {A with handled:=none} outer s H:=⟨e0.frames,e0.mod,e0.bs,e0.bsz,e0.funs,e0.frf,e0.hok,e0.bare⟩
 have I0:Inv (kH CX0 P w K mg base N qual (defScope st) f cdv {A with handled:=none} outer s H E) [] (start N vs) H s1:=lW S rfl e0' hl r z;have I:Inv (Bi P w K mg base N qual (defScope st) f cdv A outer s H E) [] (start N vs) H s1:=
  ⟨⟨I0.ok.mod,I0.ok.kind,I0.ok.glob,I0.ok.blt,I0.ok.above,I0.ok.inj,I0.ok.has,I0.ok.cab,fun z=>(nomatch z),KW e0.frames,I0.ok.stk,I0.ok.exf,I0.ok.bs,I0.ok.bsz,I0.ok.noex,I0.ok.exfs,I0.ok.funs,I0.ok.frf⟩,I0.os,I0.bare,I0.base,I0.loc,I0.cell,I0.free,I0.freeC,I0.pin,I0.hok,I0.len⟩
 refine Gz (ht [] s1 (start N vs) H _ I hq) (fun fl s' hs=>?_) fun e s' hs=>hs.elim;have fin:∀{σ':St}{H':Hp}{v:V}{u:EI},Inv (Bi P w K mg base N qual (defScope st) f cdv A outer s H E) [] σ' H' s'->RelV v u->Q v H'->CE outer P w H s Q u s':=
  fun{σ' H' v u}J rv q=>⟨v,H',J.os,J.bare,J.base,J.hok,rv,q⟩
 cases fl with
 |ret u=>obtain⟨v,σ',H',J,rv,q⟩:=hs;exact fin J rv q
 |next=>obtain⟨σ',H',J,q⟩:=hs;exact fin (v:=V.non) (u:=Fv) J rfl q
 |brk=>obtain⟨_,_,_,q⟩:=hs;exact GA q
 |cont=>obtain⟨_,_,_,q⟩:=hs;exact GA q
end
def Az(od:Option Addr)(sp:Sp):Sp:=fun vs H Q E=>(∀d,od=some d->∃o u,H d=some (.frz o u))/\sp vs H Q E
section
variable{X:Cx}{k:Nat}{f x C:Addr}{od:Option Addr}{oe:Obj}{fd:F8}{ps:List Str}{sp:Addr->Addr->Sp}{xn:Str}{p pos:Pos}{e:Expr}{es:List Expr}{t:TA}
theorem vt(F:FnOkH X.prog X.w X.K X.mg X.base k f fd ps sp)(hr:RoomH k X.A)(hA:X.A.handled=some (.ref x))(hh:Held oe C od)(hp:(x,oe)∈X.pn)(hg:Gl X xn)(hm:X.mg xn=some (.ref f))(hk:Fi X.K (.ref f)=true)(hb:Binds X.K fd ps [])
  (ha:PA X (e::es) t) (hdb:(xn==("__debug__" :Str))=false:=by decide) (he:starEach (e::es) X.env=(false,eval e X.env)::starEach es X.env:=by rfl) (hpl:(backTo pos<|starEach es X.env).any (·.1)=false:=by rfl):
  PE X (.Call (.Name xn p) (e::es) [] pos) (aR (Az od<|sp x C) [] E0 t):=by
 intro pins s σ H Q I h;refine HR<|i6 I hg hm ?_ hdb;refine ID (h₀:=X.base) I.ok.mod.kin hk (cb (ha pos pins s σ H _ I h) fun us s1⟨vs,H1,I1,r,q⟩=>⟨I1.kIn,?_⟩) he hpl;obtain⟨g1,g2,g3,g4,_⟩:=I1.pin (x,oe)<|Gy _ hp;have hfr:x∉frs X.stack:=fun m=>by
  rcases F9.mp (I1.stkSub x m)with z|z;·exact g3 z
  ·exact g4 z
 have q:Az od (sp x C) (vs++[]) H1 Q E0:=q;rw[FG]at q;obtain⟨hfz,q⟩:=q;rw[Iy];have hl:us.length=ps.length:=by rw[<-r.length];exact F.len _ _ _ _ _ _ q
 refine Ko (Jx (F.run x C od oe X.A X.stack s1 H1 ⟨us,[]⟩ us vs Q E0 hr hA hh hfz g1 g2 hfr I1.env0 (by have:=hb s1 us I1.kIn (by simpa using hl);simpa using this) r q) fun r s' hq=>?_);cases r with
 |error e=>exact hq.elim
 |ok fl=>
  cases fl with
  |ret u=>exact I1.after hq
  |next=>exact GA hq
  |brk=>exact GA hq
  |cont=>exact GA hq
end
end L2
namespace L2
open PySem PySem.Spec PySem.Calls PyProof.Rows Mi
section
variable{P:Ff}{w:Fp}{K:EH}{mg:Str->Option EI}{base:Heap}
theorem Fun.okR{x qual:Str}{st:Stmt}{f:Addr}{fd:F8}{N ps:List Str}{k:Nat}{sp:Sp}(F:Fun K x qual st f fd)(S:FnScope N ps (defScope st))(len:∀vs H Q E,sp vs H Q E->vs.length=ps.length)
  (hbody:∀(cdv:EI) (A:Fu) (outer:List Env) (s:EM) (H:Hp) (vs:List V) (Q:VK) (E:XK),Room k (A.deeper<|envOfC qual (defScope st) s.heap.objs.size f cdv)->sp vs H Q E->
   ∃t,PSs (qW P w K mg base N qual (defScope st) f cdv A outer s H E) (defBody st) t/\t {nx:=fun _ H'=>Q .non H',rt:=Q} (start N vs) H):FnOk P w K mg base (CXR P w) (k+1) f fd ps sp:=by
 obtain⟨oc,od,kV,doc,pm,an,cdv,ct,osl,rfl,lk,hcd⟩:=F.ex;exact yZ lk hcd S len fun A outer s H vs Q E hr hsp=>hbody cdv A outer s H vs Q E hr hsp
end
end L2
namespace Wb
open PySem L2 Mi
def Esc(Er:Nat->Prop)(cs:List Addr)(E:XK)(W:Wd):Prop:=∀j,Er j->∀x W',Ext W W'->W'.H x=none->E (.ref x) cs[j]? W'.H
theorem Esc.mono{Er:Nat->Prop}{cs:List Addr}{E:XK}{W W':Wd}(h:Esc Er cs E W)(e:Ext W W'):Esc Er cs E W':=fun j hj x W1 e1 hx=>h j hj x W1 (e.trans e1) hx
section
variable{Er:Nat->Prop}{α β γ δ ε ζ η:Type}
def lM(R1:Rp α)(R2:Rp γ)(cs:List Addr)(rt:Rt β)(m:α->γ->Res β):Sp:=fun vs H Q E=>∃(W:Wd)(a:α)(b:γ)(v u:V),W.H=H/\vs=[v,u]/\R1 W.G a v/\R2 W.G b u/\∃Er:Nat->Prop,Esc Er cs E W/\(m a b).OkE Er fun r=>rt W r Q
def xX(R1:Rp α)(R2:Rp γ)(R3:Rp δ)(cs:List Addr)(rt:Rt β)(m:α->γ->δ->Res β):Sp:=fun vs H Q E=>∃(W:Wd)(a:α)(b:γ)(c:δ)(v u w:V),W.H=H/\vs=[v,u,w]/\R1 W.G a v/\R2 W.G b u/\R3 W.G c w/\∃Er:Nat->Prop,Esc Er cs E W/\(m a b c).OkE Er fun r=>rt W r Q
variable{t1 t2 t3 t4 t5 t6:TE}{σ:St}{W W0 W':Wd}{cs:List Addr}{E:XK}{R1:Rp α}{R2:Rp γ}{R3:Rp δ}{R4:Rp ε}{R5:Rp ζ}{R6:Rp η}[Mono R1][Mono R2][Mono R3][Mono R4][Mono R5][Mono R6]{m1:Res α}{m2:Res γ}{m3:Res δ}{m4:Res ε}{m5:Res ζ}{m6:Res η}
theorem jB{R:Rp β}{m:α->γ->Res β}(hE:Esc Er cs E W)(h1:EV Er t1 σ W (sh R1) m1)(h2:EV Er t2 σ W (sh R2) m2):EV Er (aR (lM R1 R2 cs (rs R) m) [] E<|ai t1<|ai t2 aO) σ W (sh R) (m1.bind fun a=>m2.bind fun b=>m a b):=fun W1 e1 Q k=>
 h1 W1 e1 _ ((ED k).imp fun a0 ka v0 W2 e2 r1=>h2 W2 (e1.trans e2) _<|(ED ka).imp fun b0 kb u0 W3 e3 r2=>⟨W3,a0,b0,v0,u0,rfl,rfl,FK (R:=sh R1) e3 r1,r2,Er,hE.mono<|(e1.trans e2).trans e3,kb.imp fun r kr u W' e hu=>kr u W' ((e2.trans e3).trans e) hu⟩)
theorem sQ{R:Rp β}{m:α->γ->δ->Res β}(hE:Esc Er cs E W)(h1:EV Er t1 σ W (sh R1) m1)(h2:EV Er t2 σ W (sh R2) m2)(h3:EV Er t3 σ W (sh R3) m3):EV Er (aR (xX R1 R2 R3 cs (rs R) m) [] E<|ai t1<|ai t2<|ai t3 aO) σ W (sh R) (m1.bind fun a=>m2.bind fun b=>m3.bind fun c=>m a b c):=fun W1 e1 Q k=>
 h1 W1 e1 _ ((ED k).imp fun a0 ka v0 W2 e2 r1=>h2 W2 (e1.trans e2) _<|(ED ka).imp fun b0 kb u0 W3 e3 r2=>h3 W3 ((e1.trans e2).trans e3) _<|(ED kb).imp fun c0 kc w0 W4 e4 r3=>⟨W4,a0,b0,c0,v0,u0,w0,rfl,rfl,FK (R:=sh R1) (e3.trans e4) r1,FK (R:=sh R2) e4 r2,r3,Er,hE.mono<|((e1.trans e2).trans e3).trans e4,kc.imp fun r kr u W' e hu=>kr u W' (((e2.trans e3).trans e4).trans e) hu⟩)
end
theorem gh{α:Type}{Er:Nat->Prop}{cs:List Addr}{E:XK}{C:Addr}{te:TE}{R:Rw α}{m:Res α}{D:Ends}{σ:St}{W:Wd}{j:Nat}{β:Type}{P:β->Prop}(hE:Esc Er cs E W)(hc:cs[j]? =some C)(h:EV Er te σ W R m)(q:(m.bind fun _=>(L8 j:Res β)).OkE Er P):vm E C (ai te aO) D σ W.H:=
 h W (.refl _) _ ((ED q).imp fun a(ka:Er j)v W2 e2 hv=>⟨show 1<=sizeLine by decide,fun x hx=>by rw[<-hc];exact hE j ka x W2 e2 hx⟩)
structure CalR(P:Ff)(w:Fp)(K:EH)(mg:Str->Option EI)(base:Heap)(x:Str)(ps:List Str)(k:Nat)(sp:Sp):Prop where
 ex:∃(f:Addr)(fd:F8),FnOk P w K mg base (CXR P w) k f fd ps sp/\mg x=some (.ref f)/\Fi K (.ref f)=true/\Binds K fd ps []
theorem ke{X:Cx}{x:Str}{ps:List Str}{k:Nat}{sp:Sp}{E:XK}{p pos:Pos}{e:Expr}{es:List Expr}{t:TA}(C:CalR X.prog X.w X.K X.mg X.base x ps k sp)(hx:fg (CXR X.prog X.w) X E)(hr:Room k X.A)(hg:Gl X x)(ha:PA X (e::es) t)
  (hdb:(x==("__debug__" :Str))=false:=by decide) (he:starEach (e::es) X.env=(false,eval e X.env)::starEach es X.env:=by rfl) (hpl:(backTo pos<|starEach es X.env).any (·.1)=false:=by rfl):
  PE X (.Call (.Name x p) (e::es) [] pos) (aR sp [] E t):=by
 obtain⟨f,fd,F,hm,hk,hb⟩:=C.ex;exact qu F hr hg hm hk hb .nil hx ha hdb he hpl
structure CalH(P:Ff)(w:Fp)(K:EH)(mg:Str->Option EI)(base:Heap)(x:Str)(ps:List Str)(k:Nat)(sp:Addr->Addr->Sp):Prop where
 ex:∃(f:Addr)(fd:F8),FnOkH P w K mg base k f fd ps sp/\mg x=some (.ref f)/\Fi K (.ref f)=true/\Binds K fd ps []
theorem xY{X:Cx}{xn:Str}{ps:List Str}{k:Nat}{sp:Addr->Addr->Sp}{x C:Addr}{od:Option Addr}{oe:Obj}{p pos:Pos}{e:Expr}{es:List Expr}{t:TA}(F:CalH X.prog X.w X.K X.mg X.base xn ps k sp)(hh:Held oe C od)(hr:RoomH k X.A)(hA:X.A.handled=some (.ref x))(hp:(x,oe)∈X.pn)(hg:Gl X xn)(ha:PA X (e::es) t)
  (hdb:(xn==("__debug__" :Str))=false:=by decide) (he:starEach (e::es) X.env=(false,eval e X.env)::starEach es X.env:=by rfl) (hpl:(backTo pos<|starEach es X.env).any (·.1)=false:=by rfl):
  PE X (.Call (.Name xn p) (e::es) [] pos) (aR (Az od<|sp x C) [] E0 t):=by
 obtain⟨f,fd,F,hm,hk,hb⟩:=F.ex;exact vt F hr hA hh hp hg hm hk hb ha hdb he hpl
def ij(K:EH)(cs:List Addr)(aB:Addr)(x C:Addr):Sp:=fun vs H Q _=>∃(W:Wd)(j:Nat),W.H=H/\vs=[.ref x]/\XK1 K C/\j<13/\(∀i a,cs[i]? =some a->Fw K (.ref C) (.ref a)=some (decide<|i=j))/\Fw K (.ref C) (.ref aB)=some true/\Fw K (.ref C) (.type "ValueError")=some true/\∀p W',Ext W W'->W.H p=none->Ow isS W' p [kindN.getD j []]->Q (.ref p) W'.H
structure Kin(K:EH)(base:Heap)(cs:List Addr)(aB:Addr):Prop where
 len:cs.length=13
 top:∃bm,Xcl base aB bm
 one:∀(j:Nat)(C:Addr),cs[j]? =some C->XK1 K C/\(∀(i:Nat)(a:Addr),cs[i]? =some a->Fw K (.ref C) (.ref a)=some (decide<|i=j))/\Fw K (.ref C) (.ref aB)=some true/\Fw K (.ref C) (.type "ValueError")=some true/\∃bm,Xcl base C bm/\(F6 C::bm).contains (.ref aB)=true
def EX(K:EH)(cs:List Addr)(s:Tx)(W0:Wd)(Q:VK):XK:=fun v C H'=>(∃x,v=.ref x)/\∃(j:Nat)(W':Wd),C=cs[j]? /\W'.H=H'/\Ext W0 W'/\rs (isU K) W0 (lG s j) Q
section
variable{K:EH}{base:Heap}{cs:List Addr}{aB:Addr}{W0 W:Wd}{Q:VK}{s:Tx}{ie:Nat}{σ:St}{D:Ends}
theorem EX.cl(Z:Kin K base cs aB):∀v C H,EX K cs s W0 Q v (some C) H->∃bmC,Xcl base C bmC/\(F6 C::bmC).contains (.ref aB)=true:=fun v C H⟨_,j,W',h,_⟩=>(Z.one j C h.symm).2.2.2.2
theorem vv(Z:Kin K base cs aB){x C:Addr}{od:Option Addr}{H':Hp}{σ':St}{xs:Str}(hs:xs=sOf s)(hD:D.rt=Q)(h:EX K cs s W0 Q (XV x od) (some C) H')(hi:ie<σ'.length):
  cP (cS<|ai (tC<|.str xs)<|ai (aR (Az od<|ij K cs aB x C) [] E0<|ai (bf ie) aO) aO) D (σ'.set ie<|some<|.ref x) H':=by
 obtain⟨⟨x',hx'⟩,j,W',hj,rfl,e,q⟩:=h;have ho:od=none:=by cases od with|none=>rfl|some d=>cases hx'
 obtain⟨z1,z2,z3,z4,_⟩:=Z.one j C hj.symm;have hj':j<13:=by rw[<-Z.len];exact(ER.mp hj.symm).1
 have hk:EVo (fun _=>False) (aR (Az od<|ij K cs aB x C) [] E0<|ai (bf ie) aO) (σ'.set ie<|some<|.ref x) W' isS (.ok [kindN.getD j []]):=fun W1 e1 Q1 k=>
  ⟨.ref x,by rw[HQ hi],(fun d z=>by rw[ho]at z;cases z),W1,j,rfl,rfl,z1,hj',z2,z3,z4,fun p W2 e2 hp o=>k p W2 e2 hp o⟩
 refine aG (R:=sh<|isU K) (m:=.ok<|lG s j) (cV (K:=K) (fe cD<|iX cD)<|aX (K:=K) (aw (x:=xs) (l:=s) hs)<|G7 hk)<|fun v W2 e2 hv=>?_;rw[hD];exact q v W2 (e.trans e2) hv
end
section
variable{α β γ δ:Type}{K:EH}{base:Heap}{cs:List Addr}{aB:Addr}{W0 W:Wd}{Q:VK}{s:Tx}{ie i:Nat}{σ:St}{D:Ends}{t1 t2 t3:TE}{R1:Rp α}{R2:Rp γ}{R3:Rp δ}{R:Rp β}[Mono R1][Mono R2][Mono R3]{m1:Res α}{m2:Res γ}{m3:Res δ}{rest:TS}{σ':V->St}{xs:Str}
abbrev A3(K:EH)(cs:List Addr)(aB:Addr)(ie:Nat)(xs:Str):Addr->Addr->Option Addr->Obj->TS:=fun x C od _=>cP<|cS<|ai (tC<|.str xs)<|ai (aR (Az od<|ij K cs aB x C) [] E0<|ai (bf ie) aO) aO
end
end Wb
namespace Wb
open PySem L2 Mi
open PySem.W (findIn findObj mroIn kitOne kitCls clsIn typeIn subIn specialIn takesIn Frag)
def vE:List EI:=[.type "ValueError",.type "Exception",.type "BaseException",.type "object"]
def XcK(K:Frag)(C N:Addr)(bm:List EI):Prop:=∃nm q bs hdct sn sub ab col dd k0 k1 k2 k3 k5,K.lookup C=some (excClassObj nm q C N bs bm hdct sn sub ab col dd k0 k1 k2 k3 k5 "ValueError.__new__")
structure Cx1(K:Frag)(aB C:Addr):Prop where
 at_:∃N,XcK K C N (.ref aB::vE)
 ga:findIn K (.ref C) "__getattribute__"=some (some<|.builtin "BaseException.__getattribute__")
 gt:findIn K (.ref C) "__getattr__"=some none
 cl:findIn K (.ref C) "__class__"=some (some<|.builtin "object.__class__")
section
variable{K:Frag}{base:Heap}{C D N:Addr}{bm bm':List EI}
theorem XcK.cls(x:XcK K C N bm):∃cd,clsIn K C=some cd/\cd.mro=.ref C::bm/\typeIn K (.ref C)=some (.type "type"):=by
 obtain⟨nm,q,bs,hdct,sn,sub,ab,col,dd,k0,k1,k2,k3,k5,e⟩:=x;refine⟨{name:=nm,bases:=bs,mro:=.ref C::bm,ns:=N,qualname:=q,hasDict:=hdct,slotNames:=sn,subclasses:=sub,abstract:=ab,collection:=col,hasDel:=false},?_,rfl,?_⟩;·unfold clsIn;rw[e]
 ·show Option.map (fun x=>x.cls) (GB C K)=_;rw[e];rfl
theorem XcK.xcl(x:XcK K C N bm)(X:K.In base)(hb:bm.contains (.type "BaseException")=true):Xcl base C bm:=by
 obtain⟨nm,q,bs,hdct,sn,sub,ab,col,dd,k0,k1,k2,k3,k5,e⟩:=x;exact⟨nm,q,N,bs,hdct,sn,sub,ab,col,dd,k0,k1,k2,k3,k5,_,X _ _ e,hb⟩
theorem XcK.mro(x:XcK K C N bm)(v:EI):mroIn K C v=some ((F6 C::bm).contains v):=by
 obtain⟨cd,h1,h2,_⟩:=x.cls;unfold mroIn;rw[h1,Kg,h2];rfl
theorem XcK.kit{N':Addr}(x:XcK K C N bm)(y:XcK K D N' bm'):kitOne K (.ref C) (.ref D)=some ((F6 C::bm).contains (.ref D)):=by
 obtain⟨cd,h1,h2,h3⟩:=y.cls;unfold kitOne;by_cases e:(F6 C==F6 D)=true
 ·rw[if_pos e];rw[beq_iff_eq.mp e,Lq];simp
 ·rw[if_neg e];show(if((clsIn K D).isSome&&typeIn K (.ref D)==some (.type "type"))=true then subIn K (.ref C) (.ref D)else none)=_;rw[h1,h3,if_pos (by simp)];exact x.mro _
theorem XcK.kitT{T:String}(x:XcK K C N bm)(hT:Mf T=true):kitOne K (.ref C) (.type T)=some ((F6 C::bm).contains (.type T)):=by
 unfold kitOne;rw[if_neg (by intro z;cases beq_iff_eq.mp z)];show(if Mf T=true then subIn K (.ref C) (.type T)else none)=_;rw[if_pos hT];exact x.mro _
end
theorem Cx1.xk{K:Frag}{aB C:Addr}(x:Cx1 K aB C)(hn:specialIn K (.builtin "object.__class__") "__get__"=some (some<|.builtin "getset_descriptor.__get__"))(ht:takesIn K (.builtin "object.__class__")=some true):XK1 K C:=by
 obtain⟨N,h⟩:=x.at_;refine⟨x.ga,x.gt,?_,?_,?_⟩
 ·intro od;obtain⟨cd,h1,h2,h3⟩:=h.cls;unfold findObj;rw[h1,Kg,x.cl,Kg];simp[hn,ht]
 ·rw[h.mro];simp[vE]
 ·rw[h.mro];simp[vE]
theorem mE{α:Type}:∀{l:List α},l.Nodup->∀{i j:Nat}{x:α},l[i]? =some x->l[j]? =some x->i=j
 | [],_,i,j,x,a,_=>by simp at a
 |y::r,nd,0,0,x,a,b=>rfl
 |y::r,nd,0,j+1,x,a,b=>by
  simp at a b;subst a;exact absurd (FL b) (G8.mp nd).1
 |y::r,nd,i+1,0,x,a,b=>by
  simp at a b;subst b;exact absurd (FL a) (G8.mp nd).1
 |y::r,nd,i+1,j+1,x,a,b=>by
  simp at a b;rw[mE (G8.mp nd).2 a b]
theorem Kin.of{K:Frag}{base:Heap}{cs:List Addr}{aB NB:Addr}(X:K.In base)(hn:specialIn K (.builtin "object.__class__") "__get__"=some (some<|.builtin "getset_descriptor.__get__"))(ht:takesIn K (.builtin "object.__class__")=some true)
  (len:cs.length=13) (nd:(aB::cs).Nodup) (top:XcK K aB NB vE) (all:∀C∈cs,Cx1 K aB C):Kin K base cs aB:=by
 have one:∀(j:Nat)(C:Addr),cs[j]? =some C->C∈cs:=fun j C h=>FL h;refine⟨len,⟨vE,top.xcl X (by decide)⟩,fun j C h=>?_⟩;have hC:=all C<|one j C h;obtain⟨N,hx⟩:=hC.at_;refine⟨hC.xk hn ht,fun i a hi=>?_,?_,?_,.ref aB::vE,hx.xcl X (by simp[vE]),by simp⟩
 ·have ha:=all a<|one i a hi;obtain⟨N',hy⟩:=ha.at_;rw[hx.kit hy];have nB:a≠aB:=fun z=>(G8.mp nd).1 (z▸one i a hi);have nd':=(G8.mp nd).2;have key:(a=C)↔i=j:=by
   constructor
   ·intro z;subst z;obtain⟨l1,e1⟩:=ER.mp hi;obtain⟨l2,e2⟩:=ER.mp h;exact mE nd' hi h
   ·intro z;subst z;rw[hi]at h;exact Fy h
  by_cases z:i=j
  ·have:=key.mpr z;subst this;simp[z]
  ·have:¬a=C:=fun y=>z<|key.mp y;simp[z,this,nB,vE]
 ·rw[hx.kit top];simp
 ·rw[hx.kitT (by decide +kernel)];simp[vE]
theorem Ecl.of{K:Frag}{base:Heap}{aB C N NB:Addr}{o oB:Obj}{es eB:Array GJ}{ep pB:Nat}(X:K.In base)(h:XcK K C N (.ref aB::vE))(hB:XcK K aB NB vE)(n:K.lookup N=some o)(d:o.data=.dict es ep)(k:JX es)(i:nsFind es "__init__"=none)
  (nB:K.lookup NB=some oB) (dB:oB.data=.dict eB pB) (kB:JX eB) (iB:nsFind eB "__init__"=none):Ecl base C:=by
 obtain⟨nm,q,bs,hdct,sn,sub,ab,col,dd,k0,k1,k2,k3,k5,e⟩:=h;obtain⟨nm',q',bs',hdct',sn',sub',ab',col',dd',k0',k1',k2',k3',k5',e'⟩:=hB;exact⟨nm,q,N,bs,.ref aB::vE,hdct,sn,sub,ab,col,dd,k0,k1,k2,k3,k5,_,fun x=>nsFind es x,"ValueError",_,vE,X _ _ e,⟨o,es,ep,X _ _ n,d,k,fun _=>rfl⟩,i,.own (X _ _ e') ⟨oB,eB,pB,X _ _ nB,dB,kB,fun _=>rfl⟩ iB .base,PySem.F.excBase_ValueError⟩
def vz:EI->Bool
 | .str _ _=>true
 |_=>false
theorem strKeys_of{es:Array GJ}(h:(es.toList.all fun e=>vz e.key)=true):JX es:=fun e he=>by
 have:=Jb.mp h e<|KU.mpr he;unfold vz at this;split at this;·rename_i n t q;exact⟨n,t,q⟩
 ·cases this
end Wb
open Wb.Ecl renaming of->Ni
namespace L2
open PySem PySem.Spec PyProof.Rows
abbrev TJ:=Str->St->Hp->(Str->Hp->Prop)->Prop
def PJ(X:Cx)(es:List Expr)(t:TJ):Prop:=∀(acc:Str)(pins:List (Addr×Obj))(s:EM)(σ:St)(H:Hp)(Q:Str->Hp->Prop),Inv X pins σ H s->t acc σ H Q->
 Joins (model X.prog X.w) X.A X.xe (evalEach es X.env) acc (fun out s1=>∃H1,Inv X pins σ H1 s1/\Q out H1) s
def Bj:TJ:=fun acc _ H Q=>Q acc H
def Bk(x:Str)(t:TJ):TJ:=fun acc σ H Q=>(acc++x).length<=sizeLine/\t (acc++x) σ H Q
def A4(te:TE)(t:TJ):TJ:=fun acc σ H Q=>te σ H fun v H1=>∃y:Str,((v=.str y/\y.length<=sizeLine)\/∃i:Int,v=.int i/\i.natAbs.log2<1920/\y=EL (toString i))/\(acc++y).length<=sizeLine/\t (acc++y) σ H1 Q
def ze(t:TJ):TE:=fun σ H Q=>t L6 σ H fun out H1=>out.length<=sizeLine/\Q (.str out) H1
section
variable{X:Cx}{e:Expr}{es:List Expr}{te:TE}{t:TJ}{pos:Pos}
theorem vA:PJ X [] Bj:=fun acc pins s σ H Q I h=>⟨H,I,h⟩
theorem pT{x:Str}{k}(ht:PJ X es t):PJ X (.Constant (.str x) k pos::es) (Bk x t):=fun acc pins s σ H Q I h=>by
 have:=(ar (X:=X) (pos:=pos) (j:=k) (x:=x)) pins s σ H (fun v H1=>v=.str x/\H1=H) I ⟨rfl,rfl⟩;refine cb this fun v s1 zz=>?_;obtain⟨u,H1,I1,r,e1,e2⟩:=zz;rw[e1]at r;rw[e2]at I1;obtain⟨tk,rfl⟩:=r;exact⟨x,_,rfl,h.1,ht _ pins s1 σ H Q I1 h.2⟩
theorem vB(he:PE X e te)(ht:PJ X es t):PJ X (.FormattedValue e (-1) none pos::es) (A4 te t):=fun acc pins s σ H Q I h=>by
 show wpAny _ _ (eval (.FormattedValue e (-1) none pos) X.env) _ _ _;refine wpAny_FormattedValue_plain<|cb (he pins s σ H _ I h) fun v s1 zz=>?_;obtain⟨u,H1,I1,r,y,hy,hl,q⟩:=zz;rcases hy with⟨rfl,hz⟩|⟨i,rfl,hz,rfl⟩
 ·obtain⟨tk,rfl⟩:=r;refine wpAny_formatField_str ?_ ?_ hz;·exact⟨y,_,rfl,hl,ht _ pins _ σ H1 Q I1 q⟩
  ·exact⟨y,_,rfl,hl,ht _ pins _ σ H1 Q (I1.tok _) q⟩
 ·obtain⟨tk,rfl⟩:=r;refine wpAny_formatField_int hz ?_;exact⟨_,_,rfl,hl,ht _ pins _ σ H1 Q (I1.tok _) q⟩
theorem mF{e1 e2:Expr}(ht:PJ X (e1::e2::es) t):PE X (.JoinedStr (e1::e2::es) pos) (ze t):=fun pins s σ H Q I h=>by
 refine wpAny_JoinedStr ?_;have mono:∀(es:List (Sem EI))(acc:Str)(P P':Str->EM->Prop)(s:EM),(∀o s,P o s->P' o s)->Joins (model X.prog X.w) X.A X.xe es acc P s->Joins (model X.prog X.w) X.A X.xe es acc P' s:=by
  intro es
  induction es with
  |nil=>intro acc P P' s k h;exact k _ _ h
  |cons a r ih=>intro acc P P' s k h;exact cb h fun v s1⟨y,t,e,l,q⟩=>⟨y,t,e,l,ih _ _ _ _ k q⟩
 refine mono _ _ _ _ _ (fun o s1⟨H1,I1,hz,q⟩=>⟨hz,.str o,H1,I1.tok _,⟨_,rfl⟩,q⟩)<|ht L6 pins s σ H _ I h
end
end L2
namespace Wb
open PySem L2 Mi
theorem xZ(i:Int):EL (toString i)=sOf (sM i):=by rw[Str.ofString_eq_toList];rfl
def JV(Er:Nat->Prop)(t:TJ)(σ:St)(W:Wd)(f:Tx->Res Tx):Prop:=∀W1,Ext W W1->∀(acc:Tx)(Q:Str->Hp->Prop),(f acc).OkE Er (fun out=>∀W2,Ext W1 W2->Q (sOf out) W2.H)->t (sOf acc) σ W1.H Q
section
variable{Er:Nat->Prop}{te:TE}{t:TJ}{σ:St}{W:Wd}{f:Tx->Res Tx}
theorem vC:JV Er Bj σ W fun acc=>.ok acc:=fun W1 _ acc Q k=>k W1<|.refl _
theorem pU{x:Str}{l:Tx}(hx:x=sOf l)(h:JV Er t σ W f):JV Er (Bk x t) σ W fun acc=>(ee acc l).bind f:=fun W1 e1 acc Q k=>by
 obtain⟨h1,h2⟩:=aU<|ED k;subst hx;refine⟨?_,?_⟩<;>rw[gr];·rw[df,Fn];exact ju h1
 ·exact h W1 e1 _ Q h2
theorem y0{m:Res Tx}(he:EV Er te σ W (sh isS) m)(h:JV Er t σ W f):JV Er (A4 te t) σ W fun acc=>m.bind fun y=>(ee acc y).bind f:=fun W1 e1 acc Q k=>
 he W1 e1 _ ((ED k).imp fun y ky v W2 e2 hv=>by
  cases hv;obtain⟨h1,h2⟩:=aU<|ED ky;refine⟨sOf y,.inl ⟨rfl,by rw[df];exact ju (by omega)⟩,?_,?_⟩<;>rw[gr];·rw[df,Fn];exact ju h1
  ·exact h W2 (e1.trans e2) _ Q (h2.imp fun out ko W3 e3=>ko W3 (e2.trans e3)))
theorem ya{m:Res Int}(he:EV Er te σ W (sh isI) m)(h:JV Er t σ W f):JV Er (A4 te t) σ W fun acc=>m.bind fun i=>(A1 i).bind fun y=>(ee acc y).bind f:=fun W1 e1 acc Q k=>
 he W1 e1 _ ((ED k).imp fun i ki v W2 e2 hv=>by
  cases hv;obtain⟨h0,ky⟩:=aU<|ED ki;obtain⟨h1,h2⟩:=aU<|ED ky;refine⟨EL<|toString i,.inr ⟨i,rfl,h0,rfl⟩,?_,?_⟩<;>rw[xZ,gr];·rw[df,Fn];exact ju h1
  ·exact h W2 (e1.trans e2) _ Q (h2.imp fun out ko W3 e3=>ko W3 (e2.trans e3)))
theorem mG(h:JV Er t σ W f):EV Er (ze t) σ W (sh isS) ((f []).bind vj):=fun W1 e1 Q k=>
 h W1 e1 [] _ ((ED k).imp fun out ko W2 e2=>by
  obtain⟨h1,h2⟩:=aU ko;exact⟨by rw[df];exact ju h1,h2 _ W2 e2 rfl⟩)
end
end Wb
namespace Mi
def vD{α:Type}(xs:List α)(k:Int):Res (List α):=fc (-100000<=k/\k<=100000/\xs.length*k.toNat<=cap) (Fg k.toNat xs).flatten
def yb{α:Type}(a b:List α):Res (List α):=fc (a.length+b.length<=cap)<|a++b
end Mi
namespace Wb
open PySem L2 Mi
section
variable{Er:Nat->Prop}{α β:Type}{K:EH}{W W0:Wd}{p:Addr}{ta tb te:TE}{σ:St}{D:Ends}{i:Nat}{r:TS}{base:Heap}
theorem LR.app{R:Rp α}{H:Hp}{as bs:List α}{vs us:List V}(h2:LR R H as vs)(h4:LR R H bs us):LR R H (as++bs) (vs++us):=⟨by rw[Fn,Fn,h2.1,h4.1],fun i v m q1 q2=>by
 by_cases hi:i<vs.length
 ·rw[FP hi]at q1;rw[FP (by rw[<-h2.1];exact hi)]at q2;exact h2.2 i v m q1 q2
 ·rw[FI (by omega)]at q1;rw[FI (by rw[<-h2.1];omega)]at q2;rw[<-h2.1]at q2;exact h4.2 _ v m q1 q2⟩
theorem LR.rep{R:Rp α}{H:Hp}{as:List α}{vs:List V}(h:LR R H as vs):∀k:Nat,LR R H (Fg k as).flatten (Fg k vs).flatten
 |0=>⟨rfl,fun i v m q1 q2=>by simp at q1⟩
 |k+1=>by
  rw[Gu,Gu,Ha,Ha];exact LR.app h<|LR.rep h k
theorem qZ{R:Rp α}[Mono R]{ma:Res (List α)}{mb:Res Int}(ha:EV Er ta σ W (pk R) ma)(hb:EV Er tb σ W (sh isI) mb):EVo Er (dU AR ta tb) σ W R (ma.bind fun a=>mb.bind fun b=>vD a b):=fun W1 e1 Q k=>
 ha W1 e1 _ ((ED k).imp fun a ka x W2 e2 hx=>hb W2 (e1.trans e2) _ ((ED ka).imp fun b kb y W3 e3 hy=>by
  cases hy;obtain⟨p,vs,rfl,h1,h2⟩:=FK e3 hx;obtain⟨⟨h5,h6,h7⟩,h8⟩:=aU kb;refine⟨p,b,vs,rfl,rfl,h1,by omega,by omega,by rw[h2.1];exact ju h7,fun r hr=>h8 r (W3.mut r (.lst (Fg b.toNat vs).flatten) (W3.gnone hr)) ((e2.trans e3).trans (.own _ hr)) (none_of (e2.trans e3).h hr) ⟨W3.gnone hr,_,aq,LR.rep h2 _⟩⟩))
end
end Wb
namespace Mi
def j0{α:Type}(xs:List α):Res (α×List α):=match xs[xs.length-1]? with|some a=>.ok (a,xs.dropLast)|none=>.stuck
end Mi
namespace Wb
open PySem L2 Mi
abbrev FS:=Addr->Prop
abbrev Rf(α:Type):=Wd->FS->α->V->Prop
theorem nn_of{H:Hp}{q:Addr}{o:HO}(h:H q=some o):H q≠none:=by rw[h];exact fun z=>nomatch z
structure MuF(F:FS)(W W':Wd):Prop where
 g:Same W.G W'.G
 h:∀q,¬F q->W.H q≠none->W'.H q=W.H q
 k:∀q,W.H q≠none->W'.G q=W.G q
 n:∀q,W.H q≠none->W'.H q≠none
section
variable{α β γ:Type}{K:EH}{W W' W0 W1 W2:Wd}{F F' F1:FS}
theorem Ext.keepH(e:Ext W W'){q:Addr}(hn:W.H q≠none):W'.H q=W.H q:=by
 obtain⟨o,ho⟩:=Im.mp hn;rw[ho];exact e.h _ _ ho
theorem Ext.muF(e:Ext W W'):MuF F W W':=⟨e.g,fun q _ hn=>e.keepH hn,e.k,fun q hn=>by rw[e.keepH hn];exact hn⟩
theorem MuF.trans(m:MuF F W W1)(m':MuF F1 W1 W2)(hF:∀q,F1 q->F q\/W.H q=none):MuF F W W2:=⟨m.g.trans m'.g,fun q hq hn=>by
 have h1:=m.h q hq hn;have:¬F1 q:=fun z=>(hF q z).elim hq hn;rw[m'.h q this (by rw[h1];exact hn),h1],fun q hn=>by rw[m'.k q (m.n q hn),m.k q hn],fun q hn=>m'.n q (m.n q hn)⟩
theorem MuF.of{p:Addr}{o:HO}(hF:F p)(hg:W.G p=none):MuF F W (W.mut p o hg):=⟨.refl _,fun q hq hn=>ao fun z=>hq<|z▸hF,fun _ _=>rfl,fun q hn=>by
 show cy W.H p o q≠none;by_cases z:q=p
 ·rw[z,aq];exact fun z=>nomatch z
 ·rw[ao z];exact hn⟩
class FrT(R:Rf α):Prop where
 fr:∀{W W':Wd}{F:FS}{a:α}{v:V},R W F a v->Same W.G W'.G->(∀q,F q->W'.H q=W.H q/\W'.G q=W.G q)->R W' F a v
 lv:∀{W:Wd}{F:FS}{a:α}{v:V},R W F a v->∀q,F q->W.G q=none/\W.H q≠none
theorem FrT.ext{R:Rf α}[FrT R]{a:α}{v:V}(t:R W F a v)(e:Ext W W'):R W' F a v:=FrT.fr t e.g fun q hq=>⟨e.keepH (FrT.lv t q hq).2,e.k q (FrT.lv t q hq).2⟩
theorem FrT.mu{R:Rf α}[FrT R]{a:α}{v:V}(t:R W F a v)(m:MuF F' W W')(dj:∀q,F q->F' q->False):R W' F a v:=FrT.fr t m.g fun q hq=>⟨m.h q (dj q hq) (FrT.lv t q hq).2,m.k q (FrT.lv t q hq).2⟩
class FzT(R:Rf α)(R':outParam (Rp α)):Prop where
 fz:∀{W W':Wd}{F:FS}{a:α}{v:V},R W F a v->Same W.G W'.G->(∀q,F q->W'.G q=W.H q)->R' W'.G a v
def fz(R:Rp α):Rf α:=fun W F a v=>(∀q,¬F q)/\R W.G a v
instance zkeep44{R:Rp α}[Mono R]:FrT (fz R):=⟨fun h s _=>⟨h.1,EG s h.2⟩,fun h q hq=>absurd hq<|h.1 q⟩
instance zkeep45{R:Rp α}[Mono R]:FzT (fz R) R:=⟨fun h s _=>EG s h.2⟩
structure TL(R:Rf α)(W:Wd)(Fs:Nat->FS)(xs:List α)(vs:List V):Prop where
 len:vs.length=xs.length
 el:∀i x u,xs[i]? =some x->vs[i]? =some u->R W (Fs i) x u
 rng:∀i q,Fs i q->i<xs.length
 dj:∀i j q,Fs i q->Fs j q->i=j
def oL(R:Rf α):Rf (List α):=fun W F xs v=>∃(p:Addr)(vs:List V)(Fs:Nat->FS),v=.ref p/\W.G p=none/\W.H p=some (.lst vs)/\TL R W Fs xs vs/\(∀i,¬Fs i p)/\∀q,F q↔q=p\/∃i,Fs i q
theorem TL.at2{R:Rf α}{Fs:Nat->FS}{xs:List α}{vs:List V}(t:TL R W Fs xs vs){i:Nat}{q:Addr}(h:Fs i q):∃x u,xs[i]? =some x/\vs[i]? =some u/\R W (Fs i) x u:=by
 have h1:=t.rng i q h;have h2:i<vs.length:=by rw[t.len];exact h1
 exact⟨xs[i],vs[i],by simp[h1],by simp[h2],t.el i _ _ (by simp[h1]) (by simp[h2])⟩
instance zkeep46{R:Rf α}[FrT R]:FrT (oL R):=⟨fun⟨p,vs,Fs,e,g,h,t,np,hF⟩s k=>by
 have kp:=k p<|(hF p).mpr (.inl rfl);exact⟨p,vs,Fs,e,by rw[kp.2];exact g,by rw[kp.1];exact h,⟨t.len,fun i x u a b=>FrT.fr (t.el i x u a b) s<|fun q hq=>k q<|(hF q).mpr (.inr ⟨i,hq⟩),t.rng,t.dj⟩,np,hF⟩,fun⟨p,vs,Fs,e,g,h,t,np,hF⟩q hq=>by
 rcases (hF q).mp hq with rfl|⟨i,hi⟩
 ·exact⟨g,nn_of h⟩
 ·obtain⟨x,u,_,_,r⟩:=t.at2 hi;exact FrT.lv r q hi⟩
instance zkeep47{R:Rf α}{R':Rp α}[FzT R R']:FzT (oL R) (isL R'):=⟨fun⟨p,vs,Fs,e,g,h,t,np,hF⟩s k=>⟨p,vs,e,by rw[k p<|(hF p).mpr (.inl rfl)];exact h,t.len,fun i u x a b=>FzT.fz (t.el i x u b a) s fun q hq=>k q<|(hF q).mpr (.inr ⟨i,hq⟩)⟩⟩
structure TC where
 {α:Type}
 R:Rf α
 a:α
 v:V
 i:FrT R
def tc(R:Rf α)[FrT R](a:α)(v:V):TC:=⟨R,a,v,inferInstance⟩
def noT:Rf Unit:=fun _ F _ _=>∀q,¬F q
instance zkeep48:FrT noT:=⟨fun h _ _=>h,fun h q hq=>absurd hq<|h q⟩
def DD:TC:=tc noT () .non
structure SepF(W0 W:Wd)(Fs:Nat->FS)(cs:List TC):Prop where
 el:∀(i:Nat)(c:TC),cs[i]? =some c->c.R W (Fs i) c.a c.v
 rng:∀i q,Fs i q->i<cs.length
 dj:∀i j q,Fs i q->Fs j q->i=j
 nw:∀i q,Fs i q->W0.H q=none
def Sep(W0 W:Wd)(cs:List TC):Prop:=∃Fs,SepF W0 W Fs cs
variable{cs:List TC}
theorem Sep.nil:Sep W0 W []:=⟨fun _ _=>False,fun _ _ h=>by simp at h,fun _ _ h=>h.elim,fun _ _ _ h=>h.elim,fun _ _ h=>h.elim⟩
theorem SepF.lv{Fs:Nat->FS}(s:SepF W0 W Fs cs){i:Nat}{q:Addr}(h:Fs i q):W.G q=none/\W.H q≠none:=by
 have h1:=s.rng i q h;have:=s.el i cs[i] (by simp[h1]);exact @FrT.lv _ _ cs[i].i _ _ _ _ this q h
theorem Sep.ext(s:Sep W0 W cs)(e:Ext W W'):Sep W0 W' cs:=by
 obtain⟨Fs,s⟩:=s;exact⟨Fs,fun i c h=> @FrT.ext _ _ _ _ _ c.i _ _ (s.el i c h) e,s.rng,s.dj,s.nw⟩
theorem SepF.put{Fs:Nat->FS}{R:Rf β}[FrT R]{b:β}{u:V}{i:Nat}(s:SepF W0 W Fs cs)(E:Ext W0 W)(m:MuF (Fs i) W W')(hF:∀q,F q->Fs i q\/W.H q=none)(t:R W' F b u)(hi:i<cs.length):Sep W0 W' (cs.set i<|tc R b u):=by
 refine⟨fun j=>if j=i then F else Fs j,fun j c h=>?_,fun j q h=>?_,fun j k q h1 h2=>?_,fun j q h=>?_⟩
 ·rw[Hz]at h;by_cases z:i=j
  ·subst z;rw[if_pos rfl,if_pos hi]at h;cases h;simp only[if_true];exact t
  ·rw[if_neg z]at h;simp only[if_neg (Gh z)];exact @FrT.mu _ _ _ _ _ _ c.i _ _ (s.el j c h) m fun q a b=>z (s.dj j i q a b).symm
 ·rw[Hm];by_cases z:j=i;·rw[z];exact hi
  ·simp only[if_neg z]at h;exact s.rng j q h
 ·have key:∀j q,(if j=i then F else Fs j) q->(j=i/\F q)\/(j≠i/\Fs j q):=fun j q h=>by
   by_cases z:j=i;·exact .inl ⟨z,by simpa [if_pos z] using h⟩
   ·exact .inr ⟨z,by simpa [if_neg z] using h⟩
  rcases key j q h1 with⟨z1,a⟩|⟨z1,a⟩<;>rcases key k q h2 with⟨z2,b⟩|⟨z2,b⟩
  ·rw[z1,z2]
  ·exact((hF q a).elim (fun y=>z2<|s.dj k i q b y) fun y=>absurd y (s.lv b).2).elim
  ·exact((hF q b).elim (fun y=>z1<|s.dj j i q a y) fun y=>absurd y (s.lv a).2).elim
  ·exact s.dj j k q a b
 ·by_cases z:j=i
  ·simp only[if_pos z]at h;exact(hF q h).elim (s.nw i q) fun y=>none_of E.h y
  ·simp only[if_neg z]at h;exact s.nw j q h
theorem Sep.add{R:Rf β}[FrT R]{b:β}{u:V}(s:Sep W0 W cs)(E:Ext W0 W)(e:Ext W W')(hF:∀q,F q->W.H q=none)(t:R W' F b u):Sep W0 W' (cs++[tc R b u]):=by
 obtain⟨Fs,s⟩:=s;have hn:∀j q,j=cs.length->¬Fs j q:=fun j q z h=>by have:=s.rng j q h;omega
 have key:∀j q,(if j=cs.length then F else Fs j) q->(j=cs.length/\F q)\/(j<cs.length/\Fs j q):=fun j q h=>by
  by_cases z:j=cs.length;·exact .inl ⟨z,by simpa [if_pos z] using h⟩
  ·have h':Fs j q:=by simpa [if_neg z] using h
   exact .inr ⟨s.rng j q h',h'⟩
 refine⟨fun j=>if j=cs.length then F else Fs j,fun j c h=>?_,fun j q h=>?_,fun j k q h1 h2=>?_,fun j q h=>?_⟩
 ·by_cases z:j< cs.length
  ·rw[FP z]at h;simp only[if_neg (Fd z)];exact @FrT.ext _ _ _ _ _ c.i _ _ (s.el j c h) e
  ·rw[FI (by omega)]at h;have:j-cs.length=0:=by
    refine Gj fun y=>?_;rw[G6.mpr (by simp;omega)]at h;cases h
   rw[this]at h;cases h;have z2:j=cs.length:=by omega
   simp only[if_pos z2];exact t
 ·rw[Fn,Ia];rcases key j q h with⟨a,_⟩|⟨a,_⟩<;>omega
 ·rcases key j q h1 with⟨z1,a⟩ | ⟨z1,a⟩ <;> rcases key k q h2 with⟨z2,b⟩ | ⟨z2,b⟩
  ·omega
  ·exact absurd (hF q a) (s.lv b).2
  ·exact absurd (hF q b) (s.lv a).2
  ·exact s.dj j k q a b
 ·rcases key j q h with⟨_,a⟩ | ⟨_,a⟩
  ·exact none_of E.h<|hF q a
  ·exact s.nw j q a
theorem SepF.del{Fs:Nat->FS}(s:SepF W0 W Fs cs)(i:Nat):Sep W0 W (cs.eraseIdx i):=by
 by_cases hi:i<cs.length
 ·have key:∀j q,(if j<i then Fs j else Fs (j+1)) q->(j<i/\Fs j q)\/(i<=j/\Fs (j+1) q):=fun j q h=>by
   by_cases z:j<i;·exact .inl ⟨z,by simpa [if_pos z] using h⟩
   ·exact .inr ⟨by omega,by simpa [if_neg z] using h⟩
  refine⟨fun j=>if j<i then Fs j else Fs (j+1),fun j c h=>?_,fun j q h=>?_,fun j k q h1 h2=>?_,fun j q h=>?_⟩
  ·by_cases z:j< i
   ·rw[List.getElem?_eraseIdx_of_lt z]at h;simp only[if_pos z];exact s.el j c h
   ·rw[List.getElem?_eraseIdx_of_ge (by omega)]at h;simp only[if_neg z];exact s.el (j+1) c h
  ·rw[List.length_eraseIdx,if_pos hi];rcases key j q h with⟨a,b⟩|⟨a,b⟩
   ·omega
   ·have:=s.rng _ q b;omega
  ·rcases key j q h1 with⟨z1,a⟩|⟨z1,a⟩<;>rcases key k q h2 with⟨z2,b⟩|⟨z2,b⟩<;>have:=s.dj _ _ q a b<;>omega
  ·rcases key j q h with⟨_,a⟩|⟨_,a⟩<;>exact s.nw _ q a
 ·rw[List.eraseIdx_of_length_le (by omega)];exact⟨Fs,s⟩
open Classical in
theorem Sep.frz{R:Rf β}[FrT R]{R':Rp β}[FzT R R']{b:β}{u:V}{i:Nat}(s:Sep W0 W cs)(E:Ext W0 W)(hc:cs[i]? =some (tc R b u)):∃W',W'.H=W.H/\Ext W0 W'/\Same W.G W'.G/\Sep W0 W' (cs.eraseIdx i)/\R' W'.G b u:=by
 obtain⟨Fs,s⟩:=s;have hs:Same W.G fun q=>if Fs i q then W.H q else W.G q:=fun a o h=>by
  show(if Fs i a then _ else _)=_;rw[if_neg fun z=>by have:=(s.lv z).1;rw[h]at this;cases this];exact h
 have ho:Same (fun q=>if Fs i q then W.H q else W.G q) W.H:=fun a o h=>by
  have h:(if Fs i a then W.H a else W.G a)=some o:=h;split at h;·exact h
  ·exact W.ok _ _ h
 let W':Wd:=⟨_,W.H,ho⟩
 refine⟨W',rfl,⟨E.g.trans hs,E.h,fun q hq=>?_⟩,hs,?_,FzT.fz (R:=R) (s.el i _ hc) hs fun q hq=>if_pos hq⟩
 ·show(if Fs i q then _ else _)=_;rw[if_neg fun z=>hq<|s.nw i q z];exact E.k q hq
 ·have s2:SepF W0 W' (fun k=>if k=i then(fun _=>False)else Fs k) (cs.set i DD):=by
   have key:∀k q,(if k=i then(fun _=>False)else Fs k) q->k≠i/\Fs k q:=fun k q h=>by
    by_cases z:k=i;·simp[if_pos z]at h
    ·exact⟨z,by simpa [if_neg z] using h⟩
   refine⟨fun k c h=>?_,fun k q h=>?_,fun k l q h1 h2=>s.dj k l q (key k q h1).2 (key l q h2).2,fun k q h=>s.nw k q (key k q h).2⟩
   ·rw[Hz]at h;by_cases z:i=k
    ·subst z;rw[if_pos rfl]at h;split at h
     ·cases h;simp only[if_true];exact fun _ z=>z
     ·cases h
    ·rw[if_neg z]at h;simp only[if_neg (Gh z)];refine @FrT.fr _ _ c.i _ _ _ _ _ (s.el k c h) hs fun q hq=>⟨rfl,?_⟩
     show(if Fs i q then _ else _)=_;rw[if_neg fun y=>z<|s.dj i k q y hq]
   ·rw[Hm];exact s.rng k q (key k q h).2
  have:=s2.del i;rw[List.eraseIdx_set_eq]at this;exact this
end
section
variable{Er:Nat->Prop}{α β γ δ ε ζ:Type}{K:EH}{W W' W0 W1 W2:Wd}{F F' F1:FS}{cs:List TC}{σ:St}{t ta tb te ti tp t1 t2 t3 t4 t5:TE}{D:Ends}{i k:Nat}{r:TS}
def vw(R:Rf α):Rw α:=fun W a v=>∃F,R W F a v
instance zkeep49{R:Rf α}[FrT R]:MonoW (vw R):=⟨fun e⟨F,t⟩=>⟨F,FrT.ext t e⟩⟩
theorem Sep.vw{R:Rf α}[FrT R]{a:α}{v:V}(s:Sep W0 W cs)(hc:cs[k]? =some (tc R a v)):vw R W a v:=by
 obtain⟨Fs,s⟩:=s;exact⟨Fs k,s.el k _ hc⟩
theorem cq{R:Rf α}[FrT R]{a:α}{v:V}(s:Sep W0 W cs)(hc:cs[k]? =some (tc R a v):=by rfl)(h:σ[i]? =some (some v):=by rfl):EV Er (bf i) σ W (vw R) (.ok a):=bB (s.vw hc) h
theorem A5{xs:List α}{j:Int}{a:α}(h:sq xs j=some a):∃l,Mi.ixN xs.length j=some l/\xs[l]? =some a:=by
 unfold sq at h;cases z:Mi.ixN xs.length j with
 |none=>rw[z]at h;cases h
 |some l=>rw[z]at h;exact⟨l,rfl,h⟩
theorem TL.ix{R:Rf α}{Fs:Nat->FS}{xs:List α}{vs:List V}(t:TL R W Fs xs vs){j:Int}{l:Nat}{a:α}(h1:Mi.ixN xs.length j=some l)(h2:xs[l]? =some a):∃x,vs[l]? =some x/\L2.atI vs j=some x/\R W (Fs l) a x:=by
 have hl:l<vs.length:=by rw[t.len];exact(ER.mp h2).1
 refine⟨vs[l],by simp[hl],?_,t.el l a _ h2 (by simp[hl])⟩;show(L2.ixN vs.length j).bind _=_;rw[t.len,show L2.ixN xs.length j=Mi.ixN xs.length j from rfl,h1];simp[hl]
theorem gs{R:Rf α}[FrT R]{ma:Res (List α)}{mb:Res Int}(ha:EV Er ta σ W (vw<|oL R) ma)(hb:EV Er tb σ W (sh isI) mb):EV Er (dU (cY K) ta tb) σ W (vw R) (ma.bind fun a=>mb.bind fun b=>gz a b):=
 pH ha hb fun W a b x y Q hx hy k=>by
  cases hy;obtain⟨F,p,vs,Fs,rfl,g,h,t,np,hF⟩:=hx;obtain⟨c,h4,h5⟩:=dN k;obtain⟨l,h6,h7⟩:=A5 h4;obtain⟨z,h8,h9,h10⟩:=t.ix h6 h7;exact⟨p,_,b,z,rfl,rfl,GR h,h9,h5 _ W (.refl _) ⟨_,h10⟩⟩
theorem fj{R:Rp α}{m:Res α}(h:EV Er t σ W (vw<|fz R) m):EV Er t σ W (sh R) m:=h.imp fun _ _ _⟨_,r⟩=>r.2
theorem TL.lr{R:Rp α}{Fs:Nat->FS}{xs:List α}{vs:List V}(t:TL (fz R) W Fs xs vs):LR R W.G xs vs:=⟨t.len,fun i v m a b=>(t.el i m v b a).2⟩
theorem TL.of{R:Rp α}{xs:List α}{vs:List V}(t:LR R W.G xs vs):TL (fz R) W (fun _ _=>False) xs vs:=⟨t.1,fun i x u a b=>⟨fun _ z=>z,t.2 i u x b a⟩,fun _ _ z=>z.elim,fun _ _ _ z=>z.elim⟩
theorem eK{R:Rp α}{m:Res (List α)}(h:EV Er t σ W (vw<|oL<|fz R) m):EV Er t σ W (pk R) m:=h.imp fun _ _ _⟨_,p,vs,Fs,e,g,h,t,_⟩=>⟨p,vs,e,h,t.lr⟩
def yc(Er:Nat->Prop)(t:TE)(σ:St)(W:Wd)(R:Rf α)(m:Res α):Prop:=∀W1,Ext W W1->∀Q:VK,m.OkE Er (fun a=>∀v W2 F,Ext W1 W2->(∀q,F q->W1.H q=none)->R W2 F a v->Q v W2.H)->t σ W1.H Q
theorem oL.ofOw{R:Rp α}{p:Addr}{xs:List α}(o:Ow R W p xs):oL (fz R) W (· =p) xs (.ref p):=by
 obtain⟨vs,h1,h2⟩:=o.h;exact⟨p,vs,fun _ _=>False,rfl,o.g,h1,.of h2,fun _ z=>z,fun q=>⟨.inl,fun z=>z.elim id fun⟨_,z⟩=>z.elim⟩⟩
theorem EVo.tr{R:Rp α}{m:Res (List α)}(h:EVo Er t σ W R m):yc Er t σ W (oL<|fz R) m:=fun W1 e1 Q k=>h W1 e1 Q (k.imp fun xs kx p W2 e2 hp o=>kx _ W2 _ e2 (fun q hq=>by rw[hq];exact hp)<|oL.ofOw o)
def Lens(W0:Wd)(C:α->List TC)(R:Rf β):Rw (β×(β->α)):=fun W bp u=>∃F,R W F bp.1 u/\(∀q,F q->W0.H q=none)/\∀W' F' b',MuF F W W'->(∀q,F' q->F q\/W.H q=none)->R W' F' b' u->Sep W0 W' (C<|bp.2 b')
instance zkeep50{C:α->List TC}{R:Rf β}[FrT R]:MonoW (Lens W0 C R):=⟨fun e⟨F,t,n,p⟩=>⟨F,FrT.ext t e,n,fun W' F' b' m hF t'=>p W' F' b' (e.muF.trans m fun q hq=>.inl hq) (fun q hq=>(hF q hq).imp id (none_of e.h)) t'⟩⟩
variable{C:α->List TC}
theorem gu{R:Rf α}[FrT R]{a:α}{v:V}(s:Sep W0 W (C a))(E:Ext W0 W)(hc:(C a)[k]? =some (tc R a v):=by rfl)(hs:∀b,C b=(C a).set k (tc R b v):=by intro _;rfl)(h:σ[i]? =some (some v):=by rfl):EV Er (bf i) σ W (Lens W0 C R) (.ok (a,fun b=>b)):=by
 obtain⟨Fs,s⟩:=s;exact bB (R:=Lens W0 C R) ⟨Fs k,s.el k _ hc,s.nw k,fun W' F' b' m hF t=>by rw[hs];exact s.put E m hF t (ER.mp hc).1⟩ h
theorem MuF.up(m:MuF F W W')(h:∀q,F q->F' q):MuF F' W W':=⟨m.g,fun q hq hn=>m.h q (fun z=>hq<|h q z) hn,m.k,m.n⟩
theorem Lens.lf{R:Rp β}[Mono R]{bp:List β×(List β->α)}{u:V}(E:Ext W0 W)(l:Lens W0 C (oL<|fz R) W bp u):∃p vs,u=.ref p/\W.H p=some (.lst vs)/\LR R W.G bp.1 vs/\∃hg:W.G p=none,∀vs' xs',LR R W.G xs' vs'->Ext W0 (W.mut p (.lst vs') hg)/\Sep W0 (W.mut p (.lst vs') hg) (C<|bp.2 xs'):=by
 obtain⟨F,⟨p,vs,Fs,rfl,g,h,t,np,hF⟩,n,pb⟩:=l;have hp:F p:=(hF p).mpr (.inl rfl);refine⟨p,vs,rfl,h,t.lr,g,fun vs' xs' lr=>⟨E.mut (n p hp) g,pb _ (· =p) xs' (MuF.of hp g) (fun q hq=>.inl (by rw[hq];exact hp)) ⟨p,vs',fun _ _=>False,rfl,g,aq,.of lr,fun _ z=>z,fun q=>⟨.inl,fun z=>z.elim id fun⟨_,z⟩=>z.elim⟩⟩⟩⟩
theorem LR.dropLast{R:Rp β}{H:Hp}{xs:List β}{vs:List V}(h:LR R H xs vs):LR R H xs.dropLast vs.dropLast:=by
 rw[KO,KO,h.1];exact h.take _
theorem r0{R:Rp β}[Mono R]{mp:Res (List β×(List β->α))}{m:Res β}(E:Ext W0 W)(hp:EV Er tp σ W (Lens W0 C<|oL<|fz R) mp)(h:EV Er te σ W (sh R) m)(q:(mp.bind fun p=>m.bind fun x=>(en p.1 x).bind fun b=>.ok<|p.2 b).OkE Er fun a'=>∀W',Same W.G W'.G->Ext W0 W'->Sep W0 W' (C a')->D.nx σ W'.H):
  bq (ff K "list" aH tp<|ai te aO) D σ W.H:=hp W (.refl _) _ ((ED q).imp fun p kp u W1 e1 l=>by
 obtain⟨p0,vs0,rfl,hH0,_,_⟩:=Lens.lf (E.trans e1) l;refine⟨.inl ⟨rfl,vs0,GR hH0⟩,h W1 e1 _ ((ED kp).imp fun x kx v W2 e2 hv=>?_)⟩;obtain⟨p1,vs,ep,hH,lr,hg,back⟩:=Lens.lf ((E.trans e1).trans e2) (FK e2 l);cases ep;obtain⟨h3,h4⟩:=aU (ED kx);obtain⟨b1,b2⟩:=back (vs++[v]) (p.1++[x]) (lr.snoc hv);exact⟨p0,vs,v,rfl,rfl,hH,by rw[lr.1,Gi];unfold Mi.cap at h3;omega,h4 (W2.mut p0 (.lst (vs++[v])) hg) (e1.trans e2).g b1 b2⟩)
theorem mH{R:Rp β}[Mono R]{mp:Res (List β×(List β->α))}{m:Res β}(E:Ext W0 W)(hp:EV Er tp σ W (Lens W0 C<|oL<|fz R) mp)(h:EV Er te σ W (sh R) m)(q:(mp.bind fun p=>m.bind fun x=>(en p.1 x).bind fun b=>.ok<|p.2 b).OkE Er fun a'=>∀W',Same W.G W'.G->Ext W0 W'->Sep W0 W' (C a')->r D σ W'.H):
  dF (bq<|ff K "list" aH tp<|ai te aO) r D σ W.H:=r0 (D:={D with nx:=r D}) E hp h q
theorem yd{R:Rp β}[Mono R]{mp:Res (List β×(List β->α))}(E:Ext W0 W)(hp:EV Er tp σ W (Lens W0 C<|oL<|fz R) mp)(q:(mp.bind fun p=>.ok<|p.2 []).OkE Er fun a'=>∀W',Same W.G W'.G->Ext W0 W'->Sep W0 W' (C a')->D.nx σ W'.H):
  bq (cM K "list" br tp) D σ W.H:=hp W (.refl _) _ ((ED q).imp fun p kp u W1 e1 l=>by
 obtain⟨p0,vs,rfl,hH,lr,hg,back⟩:=Lens.lf (E.trans e1) l;obtain⟨b1,b2⟩:=back [] [] .nil;exact⟨.inl ⟨rfl,vs,GR hH⟩,p0,vs,rfl,rfl,hH,kp (W1.mut p0 (.lst []) hg) e1.g b1 b2⟩)
theorem mI{R:Rp β}[Mono R]{mp:Res (List β×(List β->α))}(E:Ext W0 W)(hp:EV Er tp σ W (Lens W0 C<|oL<|fz R) mp)(q:(mp.bind fun p=>.ok<|p.2 []).OkE Er fun a'=>∀W',Same W.G W'.G->Ext W0 W'->Sep W0 W' (C a')->r D σ W'.H):
  dF (bq<|cM K "list" br tp) r D σ W.H:=yd (D:={D with nx:=r D}) E hp q
theorem ye{R:Rp β}[Mono R]{mp:Res (List β×(List β->α))}{m:Res β}{mi:Res Int}(E:Ext W0 W)(h:EV Er te σ W (sh R) m)(hp:EV Er tp σ W (Lens W0 C<|oL<|fz R) mp)(hj:EV Er ti σ W (sh isI) mi)(q:(m.bind fun x=>mp.bind fun p=>mi.bind fun j=>(jV p.1 j x).bind fun b=>.ok<|p.2 b).OkE Er fun a'=>∀W',Same W.G W'.G->Ext W0 W'->Sep W0 W' (C a')->D.nx σ W'.H):
  bN te (rK tp ti lX) D σ W.H:=h W (.refl _) _ ((ED q).imp fun x kx v W1 e1 hv=>hp W1 e1 _ ((ED kx).imp fun p kp u W2 e2 l=>hj W2 (e1.trans e2) _ ((ED kp).imp fun j kj y W3 e3 hy=>by
 cases hy;obtain⟨p0,vs,rfl,hH,lr,hg,back⟩:=Lens.lf (((E.trans e1).trans e2).trans e3) (FK e3 l);obtain⟨n,h3,h4⟩:=dN (ED (ED kj));obtain⟨b1,b2⟩:=back (vs.set n v) (p.1.set n x) (lr.set (EG (R:=R) (e2.trans e3).g hv) n);exact⟨p0,vs,j,n,rfl,rfl,hH,by rw[lr.1];exact h3,h4 (W3.mut p0 (.lst (vs.set n v)) hg) ((e1.trans e2).trans e3).g b1 b2⟩)))
theorem yf{R:Rf β}[FrT R]{m:Res β}{σ':V->St}(S:Sep W0 W cs)(E:Ext W0 W)(h:yc Er te σ W R m)(q:m.OkE Er fun a=>∀v W',Ext W W'->Sep W0 W' (cs++[tc R a v])->D.nx (σ' v) W'.H)(hσ:∀v,σ.set i (some v)=σ' v:=by intro _;rfl):bN te (aP i) D σ W.H:=h W (.refl _) _ (q.imp fun a k v W' F e hF t=>by have:=k v W' e<|S.add E e hF t;rw[<-hσ]at this;exact this)
theorem ik{R:Rf β}[FrT R]{m:Res β}{σ':V->St}(S:Sep W0 W cs)(E:Ext W0 W)(h:yc Er te σ W R m)(q:m.OkE Er fun a=>∀v W',Ext W W'->Sep W0 W' (cs++[tc R a v])->r D (σ' v) W'.H)(hσ:∀v,σ.set i (some v)=σ' v:=by intro _;rfl):dF (bN te<|aP i) r D σ W.H:=yf (D:={D with nx:=r D}) S E h q hσ
end
section
variable{Er:Nat->Prop}{α β γ:Type}{K:EH}{W W' W0 W1 W2:Wd}{F F' F1:FS}{cs:List TC}{σ:St}{t ta tb te ti tp:TE}{D:Ends}{i k:Nat}{r:TS}
theorem j4{R:Rf α}:yc Er (cX aO) σ W (oL R) (.ok []):=fun W1 e1 Q k=>⟨by decide,fun p hp=>k _ (W1.mut p (.lst [])<|W1.gnone hp) (· =p) (.own _ hp) (fun q hq=>by rw[hq];exact hp) ⟨p,[],fun _ _=>False,rfl,W1.gnone hp,aq,⟨rfl,fun i x u h=>by simp at h,fun _ _ z=>z.elim,fun _ _ _ z=>z.elim⟩,fun _ z=>z,fun q=>⟨.inl,fun z=>z.elim id fun⟨_,z⟩=>z.elim⟩⟩⟩
theorem vF{P:α->Prop}{m:Res α}(h:m.OkE Er P):(m.bind fun b=>.ok b).OkE Er P:=by cases m<;>exact h
theorem yg{C:List β->List TC}{R:Rp β}[Mono R]{xs:List β}{v:V}{m:Res β}(S:Sep W0 W (C xs))(E:Ext W0 W)(h:EV Er te σ W (sh R) m)(q:(m.bind fun x=>en xs x).OkE Er fun a'=>∀W',Same W.G W'.G->Ext W0 W'->Sep W0 W' (C a')->D.nx σ W'.H)(hc:(C xs)[k]? =some (tc (oL<|fz R) xs v):=by rfl)(hs:∀b,C b=(C xs).set k (tc (oL<|fz R) b v):=by intro _;rfl)(hi:σ[i]? =some (some v):=by rfl):
  bq (ff K "list" aH (bf i)<|ai te aO) D σ W.H:=r0 E (gu S E hc hs hi) h (by
 show(m.bind fun x=>(en xs x).bind fun b=>.ok b).OkE Er _;cases m with
 |ok x=>exact vF q
 |err j=>exact q
 |stuck=>exact q)
theorem mJ{C:List β->List TC}{R:Rp β}[Mono R]{xs:List β}{v:V}{m:Res β}(S:Sep W0 W (C xs))(E:Ext W0 W)(h:EV Er te σ W (sh R) m)(q:(m.bind fun x=>en xs x).OkE Er fun a'=>∀W',Same W.G W'.G->Ext W0 W'->Sep W0 W' (C a')->r D σ W'.H)(hc:(C xs)[k]? =some (tc (oL<|fz R) xs v):=by rfl)(hs:∀b,C b=(C xs).set k (tc (oL<|fz R) b v):=by intro _;rfl)(hi:σ[i]? =some (some v):=by rfl):
  dF (bq<|ff K "list" aH (bf i)<|ai te aO) r D σ W.H:=yg (k:=k) (D:={D with nx:=r D}) S E h q hc hs hi
theorem yh{C:List β->List TC}{R:Rp β}[Mono R]{xs:List β}{v:V}{m:Res β}{mi:Res Int}(S:Sep W0 W (C xs))(E:Ext W0 W)(h:EV Er te σ W (sh R) m)(hj:EV Er ti σ W (sh isI) mi)(q:(m.bind fun x=>mi.bind fun j=>jV xs j x).OkE Er fun a'=>∀W',Same W.G W'.G->Ext W0 W'->Sep W0 W' (C a')->D.nx σ W'.H)(hc:(C xs)[k]? =some (tc (oL<|fz R) xs v):=by rfl)(hs:∀b,C b=(C xs).set k (tc (oL<|fz R) b v):=by intro _;rfl)(hi:σ[i]? =some (some v):=by rfl):
  bN te (rK (bf i) ti lX) D σ W.H:=ye E h (gu S E hc hs hi) hj (by
 show(m.bind fun x=>mi.bind fun j=>(jV xs j x).bind fun b=>.ok b).OkE Er _;cases m with
 |ok x=>
  cases mi with
  |ok y=>exact vF q
  |err j=>exact q
  |stuck=>exact q
 |err j=>exact q
 |stuck=>exact q)
theorem sR{C:List β->List TC}{R:Rp β}[Mono R]{xs:List β}{v:V}{m:Res β}{mi:Res Int}(S:Sep W0 W (C xs))(E:Ext W0 W)(h:EV Er te σ W (sh R) m)(hj:EV Er ti σ W (sh isI) mi)(q:(m.bind fun x=>mi.bind fun j=>jV xs j x).OkE Er fun a'=>∀W',Same W.G W'.G->Ext W0 W'->Sep W0 W' (C a')->r D σ W'.H)(hc:(C xs)[k]? =some (tc (oL<|fz R) xs v):=by rfl)(hs:∀b,C b=(C xs).set k (tc (oL<|fz R) b v):=by intro _;rfl)(hi:σ[i]? =some (some v):=by rfl):
  dF (bN te<|rK (bf i) ti lX) r D σ W.H:=yh (k:=k) (D:={D with nx:=r D}) S E h hj q hc hs hi
end
section
variable{α β γ ρ τ:Type}
abbrev Ra(α:Type):=Hp->α->List V->Prop
def aN:Ra Unit:=fun _ _ us=>us=[]
def aC(R:Rp α)(RA:Ra β):Ra (α×β):=fun G a us=>∃v r,us=v::r/\R G a.1 v/\RA G a.2 r
class MonoA(RA:Ra α):Prop where
 mono:∀{G G':Hp}{a:α}{us:List V},Same G G'->RA G a us->RA G' a us
instance zkeep61{R:Rp α}{RA:Ra β}[Mono R][MonoA RA]:MonoA (aC R RA):=⟨fun e⟨v,r,h1,h2,h3⟩=>⟨v,r,h1,EG e h2,MonoA.mono e h3⟩⟩
def r6(R:Rf τ)(RA:Ra α)(cs:List Addr)(RR:Rp ρ)(m:τ->α->Res (τ×ρ)):Sp:=fun vs H Q E=>∃(W0 W:Wd)(F:FS)(x:τ)(v:V)(a:α)(us:List V),W.H=H/\vs=v::us/\Ext W0 W/\(∀q,F q->W0.H q=none)/\R W F x v/\RA W.G a us/\∃Er:Nat->Prop,Esc Er cs E W/\(m x a).OkE Er fun r=>∀u W' F',Ext W0 W'->Same W.G W'.G->(∀q,F' q->W0.H q=none)->R W' F' r.1 v->RR W'.G r.2 u->Q u W'.H
open Classical in
noncomputable def vG(H:Hp)(F:FS):Hp:=fun q=>if F q then none else H q
theorem yi{H:Hp}{F:FS}{q:Addr}(h:F q):vG H F q=none:=by unfold vG;rw[if_pos h]
theorem oJ{H:Hp}{F:FS}{q:Addr}(h:¬F q):vG H F q=H q:=by unfold vG;rw[if_neg h]
noncomputable def Wd.sub(W:Wd)(F:FS)(h:∀q,F q->W.G q=none):Wd:=⟨W.G,vG W.H F,fun a o e=>by
 rw[oJ (fun z=>by rw[h a z]at e;cases e)];exact W.ok _ _ e⟩
theorem Wd.sub_in{W:Wd}{F:FS}{h:∀q,F q->W.G q=none}{q:Addr}(hq:F q):(W.sub F h).H q=none:=yi hq
theorem Wd.sub_out{W:Wd}{F:FS}{h:∀q,F q->W.G q=none}{q:Addr}(hq:¬F q):(W.sub F h).H q=W.H q:=oJ hq
theorem Wd.sub_ext{W:Wd}{F:FS}{h:∀q,F q->W.G q=none}:Ext (W.sub F h) W:=⟨.refl _,fun a u z=>by
 by_cases y:F a;·rw[Wd.sub_in y]at z;cases z
 ·rw[Wd.sub_out y]at z;exact z,fun _ _=>rfl⟩
variable{W0 W:Wd}{cs:List TC}
theorem Sep.call{R:Rf β}[FrT R]{b:β}{v:V}{k:Nat}(s:Sep W0 W cs)(E:Ext W0 W)(hc:cs[k]? =some (tc R b v)):
  ∃W1 F,Ext W1 W/\R W F b v/\(∀q,F q->W1.H q=none)/\∀W' F' b',Ext W1 W'->(∀q,F' q->W1.H q=none)->R W' F' b' v->Ext W0 W'/\Sep W0 W' (cs.set k<|tc R b' v):=by
 obtain⟨Fs,s⟩:=s;have t:R W (Fs k) b v:=s.el k _ hc;have lv:=fun q hq=>FrT.lv t q hq;have hi:k<cs.length:=(ER.mp hc).1;have nF:∀p,W0.H p≠none->¬Fs k p:=fun p hp z=>hp<|s.nw k p z;have E1:Ext W0 (W.sub (Fs k) fun q hq=>(lv q hq).1):=⟨E.g,fun a u z=>by rw[Wd.sub_out<|nF a<|nn_of z];exact E.h _ _ z,fun p hp=>E.k p hp⟩
 refine⟨W.sub (Fs k) fun q hq=>(lv q hq).1,Fs k,Wd.sub_ext,t,fun q hq=>Wd.sub_in hq,fun W' F' b' e hF' t'=>⟨E1.trans e,?_⟩⟩;have out:∀q,F' q->Fs k q\/W.H q=none:=fun q hq=>by
  by_cases z:Fs k q;·exact .inl z
  ·exact .inr (by rw[<-Wd.sub_out (h:=fun q hq=>(lv q hq).1) z];exact hF' q hq)
 refine⟨fun j=>if j=k then F' else Fs j,fun j c h=>?_,fun j q h=>?_,fun j l q h1 h2=>?_,fun j q h=>?_⟩
 ·rw[Hz]at h;by_cases z:k=j
  ·subst z;rw[if_pos rfl,if_pos hi]at h;cases h;simp only[if_true];exact t'
  ·rw[if_neg z]at h;simp only[if_neg (Gh z)];refine @FrT.fr _ _ c.i _ _ _ _ _ (s.el j c h) e.g fun q hq=>?_;have nk:¬Fs k q:=fun y=>z<|s.dj k j q y hq;have hn:(W.sub (Fs k) fun q hq=>(lv q hq).1).H q≠none:=by rw[Wd.sub_out nk];exact(s.lv hq).2
   exact⟨by rw[e.keepH hn,Wd.sub_out nk],e.k q hn⟩
 ·rw[Hm];by_cases z:j=k;·rw[z];exact hi
  ·simp only[if_neg z]at h;exact s.rng j q h
 ·have key:∀j q,(if j=k then F' else Fs j) q->(j=k/\F' q)\/(j≠k/\Fs j q):=fun j q h=>by
   by_cases z:j=k;·exact .inl ⟨z,by simpa [if_pos z] using h⟩
   ·exact .inr ⟨z,by simpa [if_neg z] using h⟩
  rcases key j q h1 with⟨z1,a⟩|⟨z1,a⟩<;>rcases key l q h2 with⟨z2,b⟩|⟨z2,b⟩
  ·rw[z1,z2]
  ·exact((out q a).elim (fun y=>z2<|s.dj l k q b y) fun y=>absurd y (s.lv b).2).elim
  ·exact((out q b).elim (fun y=>z1<|s.dj j k q a y) fun y=>absurd y (s.lv a).2).elim
  ·exact s.dj j l q a b
 ·by_cases z:j=k
  ·simp only[if_pos z]at h;exact(out q h).elim (s.nw k q) fun y=>none_of E.h y
  ·simp only[if_neg z]at h;exact s.nw j q h
end
structure CalM(P:Ff)(w:Fp)(K:EH)(mg:Str->Option EI)(base:Heap)(CX:CXT)(C:Addr)(m:Str)(ps:List Str)(k:Nat)(sp:Sp):Prop where
 ex:∃(f:Addr)(fd:F8),FnOk P w K mg base CX k f fd ps sp/\Meth K C m f/\Cls K C/\Binds K fd ps []
section
variable{X:Cx}{CX:CXT}{C:Addr}{m:Str}{ps:List Str}{k:Nat}{sp:Sp}{E:XK}{pos apos:Pos}{o e:Expr}{es:List Expr}{ta:TE}{t:TA}
theorem j5{pl:Sem Bool}(h:CalM X.prog X.w X.K X.mg X.base CX0 C m ps k sp)(hr:Room k X.A)(he:PE X o ta)(ha:PA X (e::es) t)
  (hst:starEach (e::es) X.env=(false,eval e X.env)::starEach es X.env:=by rfl) (hpl:(backTo pos<|starEach es X.env).any (·.1)=false:=by rfl)
  (ht:eval (.Call (.Attribute o m apos) (e::es) [] pos) X.env=(do
   let ov <-eval o X.env
   standAt apos.atName
   let (f,first) <-holding [ov] (getMethod ov m pl)
   callWith pos f first (backTo pos (starEach (e::es) X.env)) (backToKw pos (keywordEach [] X.env))):=by rfl):
  PE X (.Call (.Attribute o m apos) (e::es) [] pos) (fY C m sp [] E0 ta t):=by
 obtain⟨f,fd,F,M,c,b⟩:=h.ex;exact qv he c M F hr b .nil qC ha hst hpl ht
theorem eL{pl:Sem Bool}(h:CalM X.prog X.w X.K X.mg X.base CX0 C m ps k sp)(hr:Room k X.A)(he:PE X o ta)
  (ht:eval (.Call (.Attribute o m apos) [] [] pos) X.env=(do
   let ov <-eval o X.env
   standAt apos.atName
   let (f,first) <-holding [ov] (getMethod ov m pl)
   callWith pos f first (backTo pos (starEach [] X.env)) (backToKw pos (keywordEach [] X.env))):=by rfl):
  PE X (.Call (.Attribute o m apos) [] [] pos) (fY C m sp [] E0 ta aO):=by
 obtain⟨f,fd,F,M,c,b⟩:=h.ex;exact nU he c M F hr b .nil qC ht
theorem oK{pl:Sem Bool}(h:CalM X.prog X.w X.K X.mg X.base (CXR X.prog X.w) C m ps k sp)(hx:fg (CXR X.prog X.w) X E)(hr:Room k X.A)(he:PE X o ta)(ha:PA X (e::es) t)
  (hst:starEach (e::es) X.env=(false,eval e X.env)::starEach es X.env:=by rfl) (hpl:(backTo pos<|starEach es X.env).any (·.1)=false:=by rfl)
  (ht:eval (.Call (.Attribute o m apos) (e::es) [] pos) X.env=(do
   let ov <-eval o X.env
   standAt apos.atName
   let (f,first) <-holding [ov] (getMethod ov m pl)
   callWith pos f first (backTo pos (starEach (e::es) X.env)) (backToKw pos (keywordEach [] X.env))):=by rfl):
  PE X (.Call (.Attribute o m apos) (e::es) [] pos) (fY C m sp [] E ta t):=by
 obtain⟨f,fd,F,M,c,b⟩:=h.ex;exact qv he c M F hr b .nil hx ha hst hpl ht
end
section
variable{Er:Nat->Prop}{α β γ ρ τ:Type}{W W0 W':Wd}{σ:St}{K:EH}{cs:List TC}
theorem Sep.one{R:Rf τ}[FrT R]{F:FS}{x:τ}{v:V}(t:R W F x v)(h:∀q,F q->W0.H q=none):Sep W0 W [tc R x v]:=by
 have key:∀(i:Nat)q,(if i=0 then F else fun _=>False) q->i=0/\F q:=fun i q h=>by
  by_cases z:i=0;·exact⟨z,by simpa [if_pos z] using h⟩
  ·simp[if_neg z]at h
 refine⟨fun i=>if i=0 then F else fun _=>False,fun i c hc=>?_,fun i q hq=>?_,fun i j q h1 h2=>?_,fun i q hq=>h q (key i q hq).2⟩
 ·match i,hc with
  |0,hc=>cases hc;exact t
 ·rw[(key i q hq).1];exact Nat.one_pos
 ·rw[(key i q h1).1,(key j q h2).1]
def pV(Er:Nat->Prop)(t:TA)(σ:St)(W:Wd)(RA:Ra α)(m:Res α):Prop:=∀W1,Ext W W1->∀Q:List V->Hp->Prop,m.OkE Er (fun a=>∀us W2,Ext W1 W2->RA W2.G a us->Q us W2.H)->t σ W1.H Q
theorem fR:pV Er aO σ W aN (.ok ()):=fun W1 _ Q k=>k [] W1 (.refl _) rfl
theorem bF{R:Rp α}{RA:Ra β}[Mono R]{te:TE}{t:TA}{m:Res α}{ma:Res β}(h:EV Er te σ W (sh R) m)(ht:pV Er t σ W RA ma):pV Er (ai te t) σ W (aC R RA) (m.bind fun a=>ma.bind fun b=>.ok (a,b)):=fun W1 e1 Q k=>
 h W1 e1 _ ((ED k).imp fun a ka v W2 e2 hv=>ht W2 (e1.trans e2) _<|(ED ka).imp fun b kb us W3 e3 hu=>kb (v::us) W3 (e2.trans e3) ⟨v,us,rfl,EG e3.g hv,hu⟩)
class HasM(R:Rf τ)(C:outParam Addr)(m:Str):Prop where
 at_:∀{W:Wd}{F:FS}{x:τ}{v:V},R W F x v->∃a dx fs,v=.ref a/\W.H a=some (.ins C dx fs)/\fs.lookup m=none
theorem Bl{R:Rf τ}[FrT R]{RA:Ra α}{RR:Rp ρ}{C:Addr}{m:Str}{k i:Nat}{x:τ}{v:V}{t:TA}{ma:Res α}{mf:τ->α->Res (τ×ρ)}{csx:List Addr}{E:XK}{Q:VK}(hm:HasM R C m)(S:Sep W0 W cs)(E0:Ext W0 W)(hc:cs[k]? =some (tc R x v))(hi:σ[i]? =some (some v))(ha:pV Er t σ W RA ma)(hE:Esc Er csx E W)
  (q:(ma.bind fun a=>mf x a).OkE Er fun r=>∀u W',Ext W0 W'->Same W.G W'.G->Sep W0 W' (cs.set k<|tc R r.1 v)->RR W'.G r.2 u->Q u W'.H):fY C m (r6 R RA csx RR mf) [] E (bf i) t σ W.H Q:=by
 obtain⟨Fs,s⟩:=id S;obtain⟨a,dx,fs,e,h1,h2⟩:=hm.at_<|s.el k _ hc;refine⟨v,hi,a,dx,fs,e,h1,h2,ha W (.refl _) _<|(ED q).imp fun b kb us W2 e2 hu=>?_⟩;obtain⟨W1,F,x1,t1,n1,up⟩:=(S.ext e2).call (E0.trans e2) hc;refine⟨W1,W2,F,x,v,b,us,rfl,by rw[FG],x1,n1,t1,hu,Er,hE.mono e2,kb.imp fun r kr u W' F' e' hs hF' t' hr=>?_⟩;obtain⟨z1,z2⟩:=up W' F' r.1 e' hF' t';exact kr u W' z1 (e2.g.trans hs) z2 hr
end
section
variable{Er:Nat->Prop}{α ρ τ:Type}{W W0 Wi:Wd}{σ:St}{cs:List TC}{D:Ends}{r:TS}{R:Rf τ}[FrT R]{RR:Rp ρ}{x:τ}{v:V}{k i j:Nat}{Q:VK}
abbrev EndO(W0 Wi:Wd)(R:Rf τ)(RR:Rp ρ)(v:V)(Q:VK):τ×ρ->Prop:=fun r=>∀u W' F',Ext W0 W'->Same Wi.G W'.G->(∀q,F' q->W0.H q=none)->R W' F' r.1 v->RR W'.G r.2 u->Q u W'.H
theorem EndO.of{r:τ×ρ}{u:V}(S:Sep W0 W cs)(hc:cs[k]? =some (tc R r.1 v))(E:Ext W0 W)(hS:Same Wi.G W.G)(hr:RR W.G r.2 u)(q:EndO W0 Wi R RR v Q r):Q u W.H:=by
 obtain⟨Fs,s⟩:=S;exact q u W (Fs k) E hS (s.nw k) (s.el k _ hc) hr
theorem il{te:TE}{m:Res ρ}(S:Sep W0 W cs)(hc:cs[k]? =some (tc R x v))(E:Ext W0 W)(hS:Same Wi.G W.G)(h:EV Er te σ W (sh RR) m)(q:(m.bind fun r=>.ok (x,r)).OkE Er (EndO W0 Wi R RR v D.rt)):cP te D σ W.H:=
 h W (.refl _) _ ((ED q).imp fun a ka u W2 e2 hu=>EndO.of (S.ext e2) hc (E.trans e2) (hS.trans e2.g) hu ka)
variable{RA:Ra α}{C:Addr}{m:Str}{t:TA}{ma:Res α}{mf:τ->α->Res (τ×ρ)}{csx:List Addr}{E:XK}
end
section
variable{τ ρ:Type}{K:EH}{base:Heap}{cs:List Addr}{aB:Addr}{W0 W Wi:Wd}{Q:VK}{s:Tx}{ie k:Nat}{σ:St}{D:Ends}{rest tb:TS}{σ':V->St}{xs:Str}{cl:List TC}{R:Rf τ}[FrT R]{RR:Rp ρ}{x:τ}{v:V}
def Bm(K:EH)(W0 W Wi:Wd)(cl:List TC)(k:Nat)(R:Rf τ)[FrT R](RR:Rp ρ)(x:τ)(v:V)(Q:VK)(s:Tx)(D:Ends)(rest:TS)(σ':V->St):(τ×ρ) ⊕ Nat->Prop
 | .inl r=>∀u W',Ext W0 W'->Same W.G W'.G->Sep W0 W' (cl.set k<|tc R r.1 v)->RR W'.G r.2 u->rest D (σ' u) W'.H
 | .inr j=>EndO W0 Wi R (isU K) v Q (x,lG s j)
theorem yj{Er:Nat->Prop}{m:Res (τ×ρ)}(S:Sep W0 W cl)(E0:Ext W0 W)(hS:Same Wi.G W.G)(hc:cl[k]? =some (tc R x v))(Z:Kin K base cs aB)(hs:xs=sOf s)(hD:D.rt=Q)
  (h:∀Er',Esc Er' cs (EX K cs s W Q) W->∀D':Ends,m.OkE Er' (fun r=>∀u W',Ext W0 W'->Same W.G W'.G->Sep W0 W' (cl.set k<|tc R r.1 v)->RR W'.G r.2 u->D'.nx (σ' u) W'.H)->tb D' σ W.H)
  (q:(JN m).OkE Er (Bm K W0 W Wi cl k R RR x v Q s D rest σ')) (hi:ie<σ.length:=by first|decide|simp):
  dF (Bh (EX K cs s W Q) ie tb<|A3 K cs aB ie xs) rest D σ W.H:=by
 refine⟨h (fun j=>EndO W0 Wi R (isU K) v Q (x,lG s j)) (fun j hj y W' e hy=>⟨⟨y,rfl⟩,j,W',rfl,rfl,e,fun u W2 e2 hu=>EndO.of (r:=(x,lG s j)) (S.ext e2) hc (E0.trans e2) (hS.trans e2.g) hu hj⟩) {D with nx:=rest D}<|Res.tryR_OkE q,fun y C od oe σ1 H1 hE hx hh hl=>vv Z hs hD hE (by rw[hl];exact hi)⟩
end
structure CalI(P:Ff)(w:Fp)(K:EH)(mg:Str->Option EI)(base:Heap)(x:Str)(C:Addr)(ps:List Str)(k:Nat)(sp:Sp):Prop where
 ex:∃(f:Addr)(fd:F8),Mk K C f/\FnOk P w K mg base CX0 k f fd ps sp/\mg x=some (.ref C)/\Binds K fd ps []
theorem kf{X:Cx}{x:Str}{C:Addr}{ps:List Str}{k:Nat}{sp:Sp}{p pos:Pos}{e:Expr}{es:List Expr}{t:TA}(U:CalI X.prog X.w X.K X.mg X.base x C ps k sp)(hr:Room (k+1) X.A)(hg:Gl X x)(ha:PA X (e::es) t)
  (hdb:(x==("__debug__" :Str))=false:=by decide) (he:starEach (e::es) X.env=(false,eval e X.env)::starEach es X.env:=by rfl) (hpl:(backTo pos<|starEach es X.env).any (·.1)=false:=by rfl):
  PE X (.Call (.Name x p) (e::es) [] pos) (qt C sp [] E0 t):=by
 obtain⟨f,fd,M,F,hm,hb⟩:=U.ex;exact xp M F hr hg hm hb .nil qC ha hdb he hpl
section
variable{Er:Nat->Prop}{α ρ τ:Type}{W W0 Wi:Wd}{σ:St}{cs:List TC}{K:EH}
def sS(R:Rf τ)(RA:Ra α)(RR:Rp ρ)(m:τ->α->Res (τ×ρ)):Sp:=fun vs H Q _=>∃(W0 W:Wd)(F:FS)(x:τ)(v:V)(a:α)(us:List V),W.H=H/\vs=v::us/\Ext W0 W/\(∀q,F q->W0.H q=none)/\R W F x v/\RA W.G a us/\∃Er:Nat->Prop,(m x a).OkE Er fun r=>∀u W' F',Ext W0 W'->Same W.G W'.G->(∀q,F' q->W0.H q=none)->R W' F' r.1 v->RR W'.G r.2 u->Q u W'.H
theorem Bn{R:Rf τ}[FrT R]{RA:Ra α}{RR:Rp ρ}{k i:Nat}{x:τ}{v:V}{t:TA}{ma:Res α}{mf:τ->α->Res (τ×ρ)}{E:XK}{Q:VK}(S:Sep W0 W cs)(E0:Ext W0 W)(hc:cs[k]? =some (tc R x v))(hi:σ[i]? =some (some v))(ha:pV Er t σ W RA ma)
  (q:(ma.bind fun a=>mf x a).OkE Er fun r=>∀u W',Ext W0 W'->Same W.G W'.G->Sep W0 W' (cs.set k<|tc R r.1 v)->RR W'.G r.2 u->Q u W'.H):aR (sS R RA RR mf) [] E (ai (bf i) t) σ W.H Q:=by
 refine⟨v,hi,ha W (.refl _) _<|(ED q).imp fun b kb us W2 e2 hu=>?_⟩;obtain⟨W1,F,x1,t1,n1,up⟩:=(S.ext e2).call (E0.trans e2) hc;refine⟨W1,W2,F,x,v,b,us,rfl,by simp,x1,n1,t1,hu,Er,kb.imp fun r kr u W' F' e' hs hF' t' hr=>?_⟩;obtain⟨z1,z2⟩:=up W' F' r.1 e' hF' t';exact kr u W' z1 (e2.g.trans hs) z2 hr
end
section
variable{Er:Nat->Prop}{α τ:Type}{W W0:Wd}{σ:St}{cs:List TC}{K:EH}{R:Rf τ}[FrT R]{RA:Ra α}{k i N:Nat}{x:τ}{v:V}{t:TA}{ma:Res α}{mf:τ->α->Res (τ×Dat)}{mb:Res Dat}{E E':XK}{te:TE}{D:Ends}{ts us r:TS}
theorem sT(hn:24<N)(S:Sep W0 W cs)(E0:Ext W0 W)(hc:cs[k]? =some (tc R x v))(hi:σ[i]? =some (some v))(ha:pV Er t σ W RA ma)(hb:∀W',Same W.G W'.G->EV Er te σ W' (sh<|isU K) mb)
  (q:(ma.bind fun a=>(mf x a).bind fun y=>mb.bind fun b=>(vg y.2 b).bind fun c=>.ok (y.1,c)).OkE Er fun y=>∀W',Ext W0 W'->Same W.G W'.G->Sep W0 W' (cs.set k<|tc R y.1 v)->if y.2=true then us D σ W'.H else ts D σ W'.H):
  iQ (cZ<|tB<|aR (f9 K N) [] E<|ai (aR (sS R RA (isU K) mf) [] E'<|ai (bf i) t)<|ai te aO) ts us D σ W.H:=by
 refine Bn (ma:=ma) (mf:=mf) S E0 hc hi ha ?_;revert q;clear ha;cases ma with
 |err j=>exact fun h=>h
 |stuck=>exact fun h=>h
 |ok a=>
  intro q;have ka:((mf x a).bind fun y=>mb.bind fun b=>(vg y.2 b).bind fun c=>.ok (y.1,c)).OkE Er _:=q;show(mf x a).OkE Er _;refine(ED ka).imp fun y ky u W' e' hs S' hu=>?_;have hC:EV Er (tC u) σ W' (sh<|isU K) (.ok y.2):=fun W1 e1 Q k=>k u W1 (.refl _)<|EG e1.g hu;have:=oG (K:=K) (E:=E) hn hC (hb W' hs) W' (.refl _) (fun z H=>∃c,z=.bl c/\if(!c)=true then ts D σ H else us D σ H) (by
   show(mb.bind fun b=>vg y.2 b).OkE Er _;revert ky;cases mb with
   |ok b=>
    show((vg y.2 b).bind fun c=>EK (y.1,c)).OkE Er _->(vg y.2 b).OkE Er _;intro ky;refine(ED ky).imp fun c kc w W2 e2 hw=>⟨c,hw,?_⟩
    have z:=kc W2 (e'.trans e2) (hs.trans e2.g)<|S'.ext e2;cases c with
    |true=>exact z
    |false=>exact z
   |err j=>exact fun h=>h
   |stuck=>exact fun h=>h)
  exact this
theorem oM(hn:24<N)(S:Sep W0 W cs)(E0:Ext W0 W)(hc:cs[k]? =some (tc R x v))(hi:σ[i]? =some (some v))(ha:pV Er t σ W RA ma)(hb:∀W',Same W.G W'.G->EV Er te σ W' (sh<|isU K) mb)
  (q:(ma.bind fun a=>(mf x a).bind fun y=>mb.bind fun b=>(vg y.2 b).bind fun c=>.ok (y.1,c)).OkE Er fun y=>∀W',Ext W0 W'->Same W.G W'.G->Sep W0 W' (cs.set k<|tc R y.1 v)->if y.2=true then us {D with nx:=r D} σ W'.H else ts {D with nx:=r D} σ W'.H):
  dF (iQ (cZ<|tB<|aR (f9 K N) [] E<|ai (aR (sS R RA (isU K) mf) [] E'<|ai (bf i) t)<|ai te aO) ts us) r D σ W.H:=sT (D:={D with nx:=r D}) hn S E0 hc hi ha hb q
end
end Wb
open Wb.EndO renaming of->O0
open Wb.FrT renaming fr->Nj,lv->Oe
open Wb.Lens renaming lf->NZ
open Wb.MuF renaming of->NQ
open Wb.Sep renaming one->L9
open Wb.Wd renaming sub_out->Lv
namespace L2
open PySem PySem.Spec PyProof.Rows Wb
def Bo:R2:=fun x y H Q=>∃p q xs,x=.ref p/\y=.ref q/\H p=some (.lst xs)/\H q=some (.lst [])/\Q (.bl xs.isEmpty) H
theorem A6{X:Cx}(hu:X.A.units<cLine):OpR X (compareOp .Eq) Bo:=by
 intro pins s σ H x y v u Q I rx ry h;obtain⟨p,q,xs,rfl,rfl,h1,h2,hq⟩:=h;cases rx;cases ry;obtain⟨i1,r1,t1,z1⟩:=I.list<|GR (K:=X.K) h1;obtain⟨i2,r2,t2,z2⟩:=I.list<|GR (K:=X.K) h2;have l1:=r1.length;have l2:=r2.length;have key:SeqAt.RcAt X.A s (.ref p) (.ref q) xs.isEmpty:=by
  cases xs with
  |nil=>
   have:=Oa (A:=X.A) (s:=s) (e:=fun _=>true) t1.isList t2.isList (by rw[F4,F4,<-l1,<-l2]) hu (fun j h1' h2'=>by
    have:j<i1.length:=by simpa using h1'
    rw[<-l1]at this;exact absurd this (Nat.not_lt_zero _))
   have e0:i1.toArray.size=0:=by rw[F4,<-l1];rfl
   rw[e0]at this;exact this
  |cons a r=>exact N7 t1.isList t2.isList (by simp at l1 l2 ⊢;omega) hu
 exact key _ _ _ _ ⟨.bl _,H,I,rfl,hq⟩
end L2
namespace Wb
open PySem L2 Mi
section
variable{Er:Nat->Prop}{α:Type}{W:Wd}{σ:St}{ta:TE}
theorem A7{R:Rp α}{ma:Res (List α)}(ha:EV Er ta σ W (pk R) ma):EV Er (dU Bo ta<|cX aO) σ W (sh isB) (ma.bind fun a=>.ok a.isEmpty):=fun W1 e1 Q k=>
 ha W1 e1 _ ((ED k).imp fun a ka x W2 e2 hx=>by
  obtain⟨p,vs,rfl,h1,h2⟩:=hx;refine⟨by decide,fun q hq=>⟨p,q,vs,rfl,rfl,?_,aq,?_⟩⟩;·rw[ao (fun z=>by rw[z]at h1;rw[hq]at h1;cases h1)];exact h1
  ·have:vs.isEmpty=a.isEmpty:=by
    have:=h2.1;cases vs<;>cases a<;>simp at this ⊢
   rw[this];exact ka (.bl a.isEmpty) (W2.mut q (.lst []) (W2.gnone hq)) (e2.trans (.own _ hq)) rfl)
end
end Wb
namespace Wb
open PySem PySem.W PySem.Calls PyProof.Rows
def oN(d:Addr)(n ep i:Nat):Obj:={cls:=.type "dict_keyiterator",dict:=none,data:=.fields #[.ref d,.int i 0,.int n 0,.int ep 0],slots:= #[]}
section
variable{prog:Ff}{w:Fp}{A:Fu}{E:EI->EM->Prop}{s:EM}{d it:Addr}{o:Obj}{es:Array GJ}{ep:Nat}
theorem sU{Q:EI->EM->Prop}(hd:(d==sysModules)=false)(ho:s.heap.get? d=some o)(hx:o.ExactDict)(hdat:o.data=.dict es ep)(hQ:Q (.ref s.heap.objs.size) {s with heap:=s.heap.push (oN d es.size ep 0)}):wpAny (model prog w) A (pyIter<|.ref d) Q E s:=by
 have hT:s.TypeIs (.ref d) "dict":=⟨o,ho,hx.1⟩
 refine JY hT M3<|G9 M3 hT F.entry_dict_iter ?_<|F.args_dict_iter_1 _;unfold LN.«dict.__iter__»;refine EE ?_;unfold ML;refine EE<|wpAny_notOrdered_dict hT ?_;show wpAny _ _ (pure<|F6 d) _ _ s;refine ES ?_;show wpAny _ _ (KP d>>=_) _ _ s;unfold KP;rw[if_neg (by rw[hd];exact F7)];refine EE<|ES ?_;refine EE<|JZ ho hdat ?_;refine EE<|Kz ho hdat ?_;refine EE<|Gw<|ES ⟨_,rfl,"dict_keyiterator",_,⟨_,EU _ rfl,rfl⟩,Gp.lookup,?_⟩;exact hQ
theorem sV{i:Nat}{Q:Option EI->EM->Prop}(hit:s.heap.get? it=some (oN d es.size ep i))(ho:s.heap.get? d=some o)(hdat:o.data=.dict es ep)(hi:i<es.size)
  (hQ:∀h',h'.get? it=some (oN d es.size ep<|i+1)->Fj it s.heap h'->Q (some es[i].key) {s with heap:=h'}):wpAny (model prog w) A (pyNext<|.ref it) Q E s:=by
 have hT:s.TypeIs (.ref it) "dict_keyiterator":=⟨_,hit,rfl⟩
 unfold pyNext;refine EE (Hg (FX (name:=EL "__next__") hT Gp
  (G9 Gp hT Jl ?_ (Jc _))))
 refine EE<|ES ?_;refine EE ?_;refine EE ?_
 first|refine EE (Hi hT<|ES ?_)|refine EE<|HE hT<|ES ?_
 refine EE<|Mx hit rfl ?_;have hown:Jt "dict_keyiterator"=false:=by decide
 simp only[hown,Gk,if_false];show wpAny _ _ (if(F6 d==Fv)=true then _ else _) _ _ s;rw[if_neg (show ¬((F6 d==Fv)=true)from F7)];refine EE<|ES ?_;refine EE<|JZ ho hdat ?_;rw[if_neg (by simp)];refine EE<|ES ?_;refine EE<|Kz ho hdat ?_;rw[if_neg (by simp)];refine ES ?_;simp only[show ¬((i:Int)<0)from by omega,if_false,GO,JQ hi];refine EE ?_
 first|refine EE (Hi hT<|ES ?_)|refine EE<|HE hT<|ES ?_
 refine EE<|KQ hT ?_;show wpAny _ _ (setField (.ref it) 1 (rawInt<|(i:Int)+1)>>=_) _ _ s;refine EE (GQ hit rfl (by simp) ?_);have hit':=Gb (G3 (·.setIfInBounds 1 (rawInt<|(i:Int)+1))) hit rfl;refine EE<|GP ?_;refine EE (KQ (s:={s with heap:=s.heap.update it (G3 (·.setIfInBounds 1 (rawInt<|(i:Int)+1)))}) ⟨_,hit',rfl⟩ ?_);show wpAny _ _ (pure es[i].key) _ _ _;exact ES<|ES ⟨_,rfl,ES<|hQ _ (hit'.trans rfl)<|Hn ..⟩
theorem vH{Q:Option EI->EM->Prop}(hh:A.handled=none)(hit:s.heap.get? it=some (oN d es.size ep es.size))(ho:s.heap.get? d=some o)(hdat:o.data=.dict es ep)
  (hQ:∀h',Hs it s.heap h'->Q none {s with heap:=h'}):wpAny (model prog w) A (pyNext<|.ref it) Q E s:=by
 have hT:s.TypeIs (.ref it) "dict_keyiterator":=⟨_,hit,rfl⟩
 unfold pyNext;refine EE (Hg (FX (name:=EL "__next__") hT Gp
  (G9 Gp hT Jl ?_ (Jc _))))
 refine EE<|ES ?_;refine EE ?_;refine EE ?_
 first|refine EE (Hi hT<|ES ?_)|refine EE<|HE hT<|ES ?_
 refine EE<|Mx hit rfl ?_;have hown:Jt "dict_keyiterator"=false:=by decide
 simp only[hown,Gk,if_false];show wpAny _ _ (if(F6 d==Fv)=true then _ else _) _ _ s;rw[if_neg (show ¬((F6 d==Fv)=true)from F7)];refine EE<|ES ?_;refine EE<|JZ ho hdat ?_;rw[if_neg (by simp)];refine EE<|ES ?_;refine EE<|Kz ho hdat ?_;rw[if_neg (by simp)];refine ES ?_;simp only[show ¬((es.size:Int)<0)from by omega,if_false,GO,Array.getElem?_eq_none<|Fb es.size];refine EE ?_
 first|refine EE (Hi hT<|ES ?_)|refine EE<|HE hT<|ES ?_
 show wpAny _ _ (setField (.ref it) 0 .none>>=_) _ _ s;refine EE (GQ hit rfl (by simp) ?_);show wpAny _ _ (newExc (.type "StopIteration") []>>=_) _ _ _;refine EE ?_;simp only[newExc,newTuple];refine EE (Gw ?_ (by size_fits));refine EE (m:=firstArgMember _ _) (M8 (a:=Fv) (by first|rfl|(simp only[firstArgMember];rfl)) ?_);refine Gw ?_ (by size_fits);simp only[raiseNew];refine EE<|Lf ?_;rw[show A.in1.handled=none from hh];refine EE<|ES<|M9 ?_;refine EE<|Hf (T:="StopIteration") (b:=true) ⟨_,EU _ rfl,rfl⟩ Ht ?_;exact ES<|hQ _<|((Hn ..).extBut.push _).push _
end
end Wb
namespace Mi
abbrev Cd:=Tx×Tx×Int
abbrev Pl:=Tx×Tx×Tx
abbrev Ii:=Int×Int
def bT{κ α:Type}[DecidableEq κ](kvs:List (κ×α))(k:κ)(z:α):α:=(look kvs k).getD z
end Mi
namespace L2
open PySem PySem.Spec PyProof.Rows
section
variable{X:Cx}
theorem gG(i:Nat){x:Str}{pos:Pos}(hN:X.N.Nodup:=by exact NR (by assumption))(hi:X.N[i]? =some x:=by rfl)(hx:zt X.env.scope x:=by first|exact IS rfl|exact IF rfl)(hf:X.fn x=true\/X.env.scope.names.lookup x=some .local:=by first|exact .inl rfl|exact .inr rfl|assumption):PG X (.Name x pos) (aP i):=aW hN hi hx hf
theorem fk(i:Nat){x:Str}{e:Expr}{te:TE}{pos pos':Pos}(he:PE X e te)(hN:X.N.Nodup:=by exact NR (by assumption))(hi:X.N[i]? =some x:=by rfl)(hx:zt X.env.scope x:=by first|exact IS rfl|exact IF rfl)(hs:swapsWith e (some<|.Name x pos') pos.line X.env=pure false:=by rfl)(hf:X.fn x=true\/X.env.scope.names.lookup x=some .local:=by first|exact .inl rfl|exact .inr rfl|assumption):PS X (.Assign [.Name x pos'] e pos) (bN te<|aP i):=gj hN hi hx he hs hf
theorem eX{x:Str}{ps:List Str}{k:Nat}{sp:Sp}{p pos:Pos}{e:Expr}{es:List Expr}{t:TA}(C:Cal X.prog X.w X.K X.mg X.base x ps k sp)(ha:PA X (e::es) t)(hr:Room k X.A:=by exact Room.mono (by assumption) (by decide))(hg:Gl X x:=by rfl)
  (hdb:(x==("__debug__" :Str))=false:=by decide) (he:starEach (e::es) X.env=(false,eval e X.env)::starEach es X.env:=by rfl) (hpl:(backTo pos<|starEach es X.env).any (·.1)=false:=by rfl):PE X (.Call (.Name x p) (e::es) [] pos) (aR sp [] E0 t):=uH C hr hg ha hdb he hpl
end
end L2
namespace Wb
open PySem L2 Mi
section
variable{Er:Nat->Prop}{W:Wd}{σ:St}{te:TE}{D:Ends}{r:TS}{i:Nat}
theorem bM{i:Nat}{a:Int}(h:σ[i]? =some (some<|.int a):=by rfl):EV Er (bf i) σ W (sh isI) (.ok a):=bB (R:=sh isI) (v:=.int a) rfl h
theorem cW{i:Nat}{a:Tx}(h:σ[i]? =some (some<|.str<|sOf a):=by rfl):EV Er (bf i) σ W (sh isS) (.ok a):=bB (R:=sh isS) (v:=.str<|sOf a) rfl h
theorem Dl{i:Nat}{a:Bool}(h:σ[i]? =some (some<|.bl a):=by rfl):EV Er (bf i) σ W (sh isB) (.ok a):=bB (R:=sh isB) (v:=.bl a) rfl h
theorem bg{α:Type}{R:Rp α}[Mono R]{i:Nat}{a:α}{v:V}(r:R W.G a v)(h:σ[i]? =some (some v):=by rfl):EV Er (bf i) σ W (sh R) (.ok a):=bB (R:=sh R) r h
end
abbrev qA(K:EH):=isT3 K isS isS isI
abbrev qB(K:EH):=isT3 K isS isS isS
abbrev qD(K:EH):=isL<|qB K
def DI(K:EH)(x:Str)(st:Stmt)(ps:List Str):Prop:=∃f fd,Fun K x x st f fd/\Fc K mainGlobals x=some (some<|.ref f)/\Binds K fd ps []
section
variable{P:Ff}{w:Fp}{K:EH}{mg:Str->Option EI}{base h:Heap}{x:Str}{st:Stmt}{ps:List Str}{n:Nat}{sp:Sp}{f:Addr}
def Bp:List Str->List EI->List EI
 | [],_=>[]
 |_::r,us=>us.headD .none::Bp r us.tail
theorem vI:∀(ps:List Str)(us:List EI),us.length=ps.length->Bp ps us=us
 | [],us,h=>(List.eq_nil_of_length_eq_zero h).symm
 |_::r,[],h=>by cases h
 |_::r,a::us,h=>by
  show a::Bp r us=_;rw[vI r us<|Nat.succ.inj h]
theorem DI.mk{oc:EI}{od an:Option Addr}{osl:Array (Option EI)}{kV doc pm cdv ct:EI}(da:Fc K mainGlobals x=some (some<|.ref f))(dl:K.lookup f=some ⟨oc,od,.func<|FA x x (defArgs st) (defBody st) (defScope st) .none kV doc pm an cdv ct,osl⟩)
  (dc:FF K cdv x=true) (dk:Fi K (.ref f)=true) (db:∀(kV doc pm:EI)(an:Option Addr)(cdv ct:EI)(us:List EI),bindArgs (FA x x (defArgs st) (defBody st) (defScope st) .none kV doc pm an cdv ct) ⟨Bp ps us,[]⟩=pure (ps.zip<|Bp ps us)):DI K x st ps:=
 ⟨f,_,d9 dl dc dk,da,(d9 dl dc dk).binds fun kV doc pm an cdv ct us hl=>by
  have:=db kV doc pm an cdv ct us;rw[vI ps us hl]at this;exact this⟩
theorem DI.cal(d:DI K x st ps)(X:K.In h)(G:h.Ns mainGlobals mg)(r:∀{f fd},Fun K x x st f fd->FnOk P w K mg base CX0 n f fd ps sp):Cal P w K mg base x ps n sp:=by
 obtain⟨f,fd,F,a,b⟩:=d;exact⟨f,fd,r F,Fo X G a,F.kp,b⟩
theorem DI.calR(d:DI K x st ps)(X:K.In h)(G:h.Ns mainGlobals mg)(r:∀{f fd},Fun K x x st f fd->FnOk P w K mg base (CXR P w) n f fd ps sp):CalR P w K mg base x ps n sp:=by
 obtain⟨f,fd,F,a,b⟩:=d;exact⟨f,fd,r F,Fo X G a,F.kp,b⟩
end
end Wb
namespace L2
open PySem PySem.Spec PyProof.Rows Wb
section
variable{X:Cx}{pins:List (Addr×Obj)}{σ:St}{H:Hp}{s:EM}{a:Addr}{kvs:List (Key×V)}
theorem Inv.frzD{o:Obj}(I:Inv X pins σ H s)(e:H a=some (.dK kvs))(ho:s.heap.get? a=some o):Inv X pins σ (cy H a<|.frz o<|.dK kvs) s:=by
 have ne:∀b u,H b=some u->(∀l,u≠.dK l)->b≠a:=fun b u q n z=>by subst z;rw[e]at q;cases q;exact n _ rfl
 have na:∀b,H b=none->b≠a:=fun b n z=>by subst z;rw[e]at n;cases n
 refine I.un (t':=s.toks) (h':=s.heap) ⟨fun b o q _ _ _=>q,fun b o q _ _ _=>⟨o.slots,q⟩,fun b o _ n _=>by rw[ao<|na b n];exact n,fun b o q _=>⟨o,q⟩,fun b xs q=>by rw[ao (ne b _ q fun _ z=>nomatch z)];exact q,fun b o u q=>by rw[ao (ne b _ q fun _ z=>nomatch z)];exact q,fun b ps q=>⟨#[],by rw[ao (ne b _ q fun _ z=>nomatch z),q];simp⟩⟩ ?_;exact I.hok.write (by rw[e];trivial) (.inl rfl) (fun b u _ q=>q) ⟨o,ho⟩ ⟨ho,I.hok a _ e⟩
theorem Inv.objD(I:Inv X pins σ H s)(e:H a=some (.dK kvs)):∃o,s.heap.get? a=some o:=by
 obtain⟨_,_,vs,_,o,_,_,ho,_⟩:=I.hok a _ e;exact⟨o,ho⟩
end
def D6(i:Nat)(t:TS):TS:=fun D σ H=>∃a kvs,σ[i]? =some (some<|.ref a)/\H a=some (.dK kvs)/\∀o,t D σ<|cy H a<|.frz o<|.dK kvs
theorem r9{X:Cx}{st:Stmt}{t:TS}{i:Nat}(h:PS X st t):PS X st (D6 i t):=fun pins s σ H D I⟨a,kvs,_,e,q⟩=>by
 obtain⟨o,ho⟩:=I.objD e;exact h pins s σ _ D (I.frzD e ho)<|q o
def Bq(t:TE):TE:=fun σ H Q=>t σ H fun v H1=>∃a kvs,v=.ref a/\H1 a=some (.dK kvs)/\∀o,Q v<|cy H1 a<|.frz o<|.dK kvs
theorem vJ{X:Cx}{e:Expr}{t:TE}(h:PE X e t):PE X e (Bq t):=fun pins s σ H Q I q=>cb (h pins s σ H _ I q) fun u s1⟨x,H1,I1,r1,a,kvs,ex,ea,q1⟩=>by
 obtain⟨o,ho⟩:=I1.objD ea;exact⟨x,_,I1.frzD ea ho,r1,q1 o⟩
theorem ip{X:Cx}:eQ X (.type "dict") (fun xs H Q=>∃a kvs,xs=[.ref a]/\Rd H a (.dK kvs)/\∀p,H p=none->Q (.ref p) (cy H p<|.dK kvs)):=by
 intro pins s σ H xs us Q I r ⟨a,kvs,e,ea,q⟩;subst e;cases r with
 |cons r1 r2=>
  cases r2;cases (show _=F6 a from r1);exact uw I ea fun p s' hp I'=>⟨.ref p,_,I',rfl,q p hp⟩
def Dm(a:Addr)(o:Obj)(kvs:List (Key×V)):It:=⟨fun i H=>H a=some (.frz o<|.dK kvs)/\i<kvs.length,fun i H x H'=>H'=H/\∃kv,kvs[i]? =some kv/\x=kV kv.1,fun i H=>H a=some (.frz o<|.dK kvs)/\i=kvs.length⟩
theorem lh{P:Ff}{w:Fp}{h:Heap}{H:Hp}{a:Addr}{o:Obj}{kvs:List (Key×V)}(ok:HOk P w H h)(e:H a=some (.frz o<|.dK kvs)):h.get? a=some o/\kvs.length<=sizeLine/\(a==sysModules)=false/\∃vs es ep,KV kvs vs/\o.ExactDict/\o.data=.dict es ep/\KeysOf (bK P w) es/\Pairs (bK P w) es.toList vs/\(vs.map (·.1)).Nodup:=by
 obtain⟨ho,z,lo,vs,rel,o',es,ep,ho',hx,hd,hk,hp,hn⟩:=ok a _ e;rw[ho]at ho';cases ho';exact⟨ho,z,lo,vs,es,ep,rel,hx,hd,hk,hp,hn⟩
theorem zf{P:Ff}{w:Fp}{k:Key}{u:EI}(h:(bK P w).is k u=true):RelV (kV k) u:=by
 rcases cu (show gI k u=true from h)with⟨i,t,rfl,rfl⟩|⟨x,t,rfl,rfl⟩
 ·exact⟨t,rfl⟩
 ·exact⟨t,rfl⟩
theorem vK{P:Ff}{w:Fp}{es:List GJ}{vs:List (Key×EI)}{kvs:List (Key×V)}(hp:Pairs (bK P w) es vs)(rel:KV kvs vs){i:Nat}{e:GJ}(h:es[i]? =some e):∃kv,kvs[i]? =some kv/\RelV (kV kv.1) e.key/\RelV kv.2 e.val:=by
 have hi:i<vs.length:=by have:=(ER.mp h).1;rw[<-hp.length];exact this
 obtain⟨p,h1,h2,h3⟩:=js rel<|FQ hi;obtain⟨h4,h5⟩:=hp.get? h<|FQ hi;exact⟨p,h1,by rw[h2];exact zf h4,by rw[h5];exact h3⟩
theorem pW{P:Ff}{w:Fp}{K:EH}{tg:Expr}{a it:Addr}{o:Obj}{es:Array GJ}{ep:Nat}{kvs:List (Key×V)}(hdat:o.data=.dict es ep)(hs:es.size=kvs.length):Turn P w K tg (Dm a o kvs) [it] it (fun i h=>h.get? it=some (oN a es.size ep i)) where
 mem:=by simp
 obj:=fun i h st b hb=>by
  have e:b=it:=by simpa using hb
  subst e;exact⟨_,st,fun v z=>by
   have z':JS _=I9 v:=z;cases z'⟩
 keep:=fun i h h' st k=>k it (by simp) _ st
 item:=by
  intro X hP hw hK hc i pins s σ H E I hf st hg;subst hP hw hK;obtain⟨ha,hi⟩:=hg;obtain⟨f0,f1,f2,f3,f4,f5⟩:=hf it (by simp);obtain⟨ho,z,lo,vs,es',ep',rel,hx,hd',hk,hp,hn⟩:=lh I.hok ha;rw[hdat]at hd';cases hd';have hi':i<es.size:=by omega
  refine sV st ho hdat hi' fun h' st' sb=>?_;have I1:Inv X pins σ H {s with heap:=h'}:=I.turned (t':=s.toks) (fun b o hb e=>(sb.2 b hb).trans e) f0 f1 f3 f4 f5;obtain⟨kv,h1,h2,_⟩:=vK hp rel (i:=i) (e:=es[i]) (by rw[KJ,JQ hi']);exact⟨_,rfl,nO (s:={s with heap:=h'}) (n:="dict_keyiterator") st' rfl rfl (by decide) ⟨kV kv.1,H,I1,h2,⟨rfl,kv,h1,rfl⟩,st',fun b hb=>(hf b hb).1⟩⟩
 done:=by
  intro X hP hw hK hc i pins s σ H E I hf st hg;subst hP hw hK;obtain⟨ha,hi⟩:=hg;obtain rfl:i=es.size:=by omega
  obtain⟨f0,f1,f2,f3,f4,f5⟩:=hf it (by simp);obtain⟨ho,_⟩:=lh I.hok ha;exact vH (I.ok.hd hc) st ho hdat fun h' eb=>⟨rfl,I.turned (t':=s.toks) (fun b o hb e=>eb b o hb e) f0 f1 f3 f4 f5⟩
 self:=fun A i s Q E st hQ=>by
  have hT:s.TypeIs (.ref it) "dict_keyiterator":=⟨_,st,rfl⟩
  refine JY hT Ju<|G9 Ju hT F.entry_dict_keyiterator_iter ?_<|F.args_dict_keyiterator_iter_1 _;show wpAny _ _ (ret<|.ref it) _ _ s;exact ES ⟨_,rfl,"dict_keyiterator",_,hT,Gp.lookup,hQ⟩
def vL(tl:TE):TI:=fun σ H R=>tl σ H fun x H1=>∃a o kvs,x=.ref a/\H1 a=some (.frz o<|.dK kvs)/\R (Dm a o kvs) H1
section
variable{X:Cx}{pos apos:Pos}{tg l:Expr}{tl:TE}
theorem vM(hl:PE X l tl):PI X tg l (vL tl):=by
 intro pins s σ H R I h;refine cb (hl pins s σ H _ I h) fun v s1 zz=>?_;obtain⟨x,H1,I1,r1,q1⟩:=zz;obtain⟨a,ob,kvs,e,ha,q⟩:=q1;subst e;cases r1;obtain⟨ho,z,lo,vs,es,ep,rel,hx,hdat,hk,hp,hn⟩:=lh I1.hok ha;have hs:es.size=kvs.length:=by have:=hp.length;rw[<-Gr,this];exact(Paired.length rel).symm
 refine sU lo ho hx hdat ?_;refine⟨s1.heap.objs.size,[s1.heap.objs.size],_,_,H1,rfl,I1.kept (t':=s1.toks) fun b o e=>EJ _ e,pW hdat hs,EU _ rfl,fun b hb=>?_,q⟩;have e:b=s1.heap.objs.size:=by simpa using hb
 subst e;exact I1.fpOk (Fb _)<|I1.hok.fresh<|Fb _
end
def Dp(a:Addr)(o:Obj)(kvs:List (Key×V)):It:=⟨fun i H=>H a=some (.frz o<|.dK kvs)/\i<kvs.length,fun i H x H'=>∃T kv,H T=none/\x=.ref T/\kvs[i]? =some kv/\H'=cy H T (.tup [kV kv.1,kv.2]),fun i H=>H a=some (.frz o<|.dK kvs)/\i=kvs.length⟩
theorem jC{P:Ff}{w:Fp}{h:Heap}{H:Hp}{a:Addr}{o:Obj}{kvs:List (Key×V)}(ok:HOk P w H h)(e:H a=some (.frz o<|.dK kvs)):∃es ep,o.data=.dict es ep/\∃vs,KV kvs vs/\h.DictAt (bK P w) a vs ep:=by
 obtain⟨ho,z,lo,vs,es,ep,rel,hx,hd,hk,hp,hn⟩:=lh ok e;exact⟨es,ep,hd,vs,rel,o,es,ho,hx,hd,hk,hp,hn⟩
theorem pX{P:Ff}{w:Fp}{K:EH}{elts:List Expr}{kk:Nat}{tp:Pos}{a it:Addr}{o:Obj}{es:Array GJ}{ep:Nat}{kvs:List (Key×V)}(hdat:o.data=.dict es ep):Turn P w K (.Tuple elts kk tp) (Dp a o kvs) [it] it (fun i h=>∃ok ov,IsItemIter h it a i kvs.length ep ok ov) where
 mem:=by simp
 obj:=fun i h st b hb=>by
  obtain⟨ok,ov,st⟩:=st;have e:b=it:=by simpa using hb
  subst e;exact⟨_,st,fun v z=>by
   have z':JS _=I9 v:=z;cases z'⟩
 keep:=fun i h h'⟨ok,ov,st⟩k=>⟨ok,ov,k it (by simp) _ st⟩
 item:=by
  intro X hP hw hK hc i pins s σ H E I hf st hg;subst hP hw hK;obtain⟨ha,hi⟩:=hg;obtain⟨ok,ov,st⟩:=st;obtain⟨es',ep',hd',vs,rel,dat⟩:=jC I.hok ha;rw[hdat]at hd';cases hd';have hl:kvs.length=vs.length:=Paired.length rel;have hiv:i<vs.length:=by omega
  obtain⟨kv,h1,h2,h3⟩:=js rel<|FQ hiv;have lt:∀{c o},s.heap.get? c=some o->c≠s.heap.objs.size:=fun e=>Fd<|F0 e;have nT:H s.heap.objs.size=none:=I.hok.fresh<|Fb _;have ni:it≠s.heap.objs.size:=lt st;refine wpAny_pyNext_items_item (by rw[<-hl];exact st) dat (k:=vs[i].1) (v:=vs[i].2) (FQ hiv) fun key h' hkey ho hT hsz hk=>?_;refine⟨_,rfl,wpAny_letOwnedTupleGo_items ho fun h2' he2 sb=>?_⟩;have kp2:∀b o,b∉[it]->s.heap.get? b=some o->h2'.get? b=some o:=fun b o hb q=>by
   have hb:b≠it:=fun z=>hb (by simp[z]);exact(sb.2 b hb).trans (hk b o hb q)
  have i5:∀b u,H b=some u->b∉[it]/\b≠s.heap.objs.size:=fun b u q=>⟨fun hb=>(by rw[(hf b hb).1]at q;cases q),fun z=>(by rw[z,nT]at q;cases q)⟩
  have I2:Inv X pins σ (cy H s.heap.objs.size<|.tup [kV kv.1,kv.2]) {s with heap:=h2',gens:=s.gens,drawn:=s.drawn,toks:=s.toks}:=by
   refine I.step (g':=s.gens) (d':=s.drawn) (t':=s.toks) (ch:=[it]) (fun b hb=>⟨(hf b hb).2.2.2.1,(hf b hb).2.1,(hf b hb).2.2.2.2.1,(hf b hb).2.2.2.2.2⟩) (fun b o _ _ hb q _=>kp2 b o hb q) (fun b o _ _ hb q _=>⟨o.slots,kp2 b o hb q⟩)
    (fun b o hb q n=>by rw[ao<|lt q];exact n) (fun b o hb q=>⟨o,kp2 b o hb q⟩) (fun b xs q=>by rw[ao (i5 b _ q).2];exact q) (fun b o u q=>by rw[ao (i5 b _ q).2];exact q) (fun b ps q=>⟨#[],by rw[ao (i5 b _ q).2,q];simp⟩) (fun m hm=>?_) (fun b u q=>?_) I.bare
   ·obtain⟨o,es,ep,ho',r⟩:=hm;exact⟨o,es,ep,kp2 _ o (fun hb=>(hf _ hb).2.1 rfl) ho',r⟩
   ·by_cases hb:b=s.heap.objs.size
    ·subst hb;rw[aq]at q;cases q;exact⟨(by show 2<=sizeLine;rw[Gi];decide),[key,vs[i].2],.cons (by rw[h2];exact zf hkey)<|.cons h3 .nil,⟨_,(sb.2 _<|Gh ni).trans hT,⟨rfl,rfl⟩,_,rfl⟩⟩
    ·rw[ao hb]at q;refine(I.hok b u q).stay (fun c v hc z=>kp2 c v ?_ z) (fun c z=>by rw[ao (i5 c _ z).2];exact z) fun c xs z=>by rw[ao (i5 c _ z).2];exact z
     rcases hc with z|z;·rw[z];exact(i5 b u q).1
     ·exact(i5 c _ z).1
  refine⟨.ref s.heap.objs.size,_,I2,rfl,⟨_,kv,nT,rfl,h1,rfl⟩,⟨_,_,by rw[hl];exact he2⟩,fun b hb=>?_⟩;have e:b=it:=by simpa using hb
  subst e;rw[ao ni];exact(hf b hb).1
 done:=by
  intro X hP hw hK hc i pins s σ H E I hf st hg;subst hP hw hK;obtain⟨ha,hi⟩:=hg;obtain⟨ok,ov,st⟩:=st;obtain⟨es',ep',hd',vs,rel,dat⟩:=jC I.hok ha;rw[hdat]at hd';cases hd';have hl:kvs.length=vs.length:=Paired.length rel;obtain⟨f0,f1,f2,f3,f4,f5⟩:=hf it (by simp);exact wpAny_pyNext_items_end (I.ok.hd hc) (by rw[<-hl];exact st) dat (by simp;omega) fun h' eb=>⟨rfl,I.turned (t':=s.toks) (fun b o hb e=>eb b o hb e) f0 f1 f3 f4 f5⟩
 self:=fun A i s Q E st hQ=>by
  obtain⟨ok,ov,st⟩:=st;have hT:s.TypeIs (.ref it) "dict_itemiterator":=⟨_,st,rfl⟩
  refine JY hT Jm (G9 Jm hT (entryFor_alias (id':="dict_keyiterator.__iter__") (by kernel_rfl) rfl (by decide +kernel) (by kernel_rfl):entryFor table "dict_itemiterator.__iter__"=some LN.«dict_keyiterator.__iter__») ?_<|F.args_dict_itemiterator_iter_1 _);show wpAny _ _ (ret<|.ref it) _ _ s;exact ES ⟨_,rfl,"dict_itemiterator",_,hT,F.slot_dict_itemiterator_next.lookup,hQ⟩
def vN(tl:TE):TI:=fun σ H R=>tl σ H fun x H1=>∃a o kvs,x=.ref a/\H1 a=some (.frz o<|.dK kvs)/\R (Dp a o kvs) H1
section
variable{X:Cx}{cpos apos tp:Pos}{elts:List Expr}{kk:Nat}{l:Expr}{tl:TE}
theorem vO(hl:PE X l tl)(hbase:attributeBase l "items" X.env (eval l X.env)=eval l X.env:=by rfl)(hline:(apos.endLine==cpos.line)=true:=by rfl):PI X (.Tuple elts kk tp) (.Call (.Attribute l "items" apos) [] [] cpos) (vN tl):=by
 intro pins s σ H R I h;refine Ka hbase hline<|cb (hl pins s σ H _ I h) fun v s1 zz=>?_;obtain⟨x,H1,I1,r1,q1⟩:=zz;obtain⟨a,ob,kvs,e,ha,q⟩:=q1;subst e;obtain rfl:v=F6 a:=r1;obtain⟨t1,t2,_⟩:=uu I1<|.inl ⟨kvs,.inr ⟨ob,ha⟩⟩;obtain⟨ho,z,lo,_⟩:=lh I1.hok ha;obtain⟨es,ep,hdat,vs,rel,dat⟩:=jC I1.hok ha;have hlen:kvs.length=vs.length:=Paired.length rel;refine⟨"dict","dict.items",Kc,Kh,PySem.F.type_dict_items,t1,fun b hb=>by cases hb;exact t2 _ rfl,HU rfl<|La ?_⟩;refine LK Kh dat.dictOf.typeIs PySem.F.entry_dict_items (PySem.F.args_dict_items_1 _) (meets_dict_items (bK X.prog X.w) a lo) ⟨⟨vs,dat.dictOf⟩,?_⟩;have dat2:=dat.push {cls:=.type "dict_items",data:=.fields #[.ref a]};refine wpAny_pyIter_items (s:={s1 with heap:=s1.heap.push {cls:=.type "dict_items",data:=.fields #[.ref a]}}) ⟨_,EU _ rfl,rfl,rfl⟩ dat2 ?_;have I2:Inv X pins σ H1 {s1 with heap:=s1.heap.push {cls:=.type "dict_items",data:=.fields #[.ref a]}}:=I1.kept (t':=s1.toks) fun b o e=>EJ _ e;refine⟨_,[(s1.heap.push {cls:=.type "dict_items",data:=.fields #[.ref a]}).objs.size],_,_,H1,rfl,I2.kept (t':=s1.toks) fun b o e=>EJ _ e,pX (kvs:=kvs) hdat,⟨.none,.none,?_⟩,fun b hb=>?_,q⟩;·rw[hlen];exact EU _ rfl
 ·have e:b=(s1.heap.push {cls:=.type "dict_items",data:=.fields #[.ref a]}).objs.size:=by simpa using hb
  subst e;exact I2.fpOk (Fb _)<|I2.hok.fresh<|Fb _
end
end L2
namespace Wb
open PySem L2 Mi
section
variable{Er:Nat->Prop}{α β:Type}{t ta tb tc te ti:TE}{σ:St}{W W0 W':Wd}{K:EH}{D:Ends}{i:Nat}{r ts:TS}
def DR(g:β->Key)(R:Rp α)(G:Hp)(xs:List (β×α))(kv:List (Key×V)):Prop:=kv.length=xs.length/\∀(i:Nat)(q:Key×V)(x:β×α),kv[i]? =some q->xs[i]? =some x->q.1=g x.1/\R G x.2 q.2
def isDk(g:β->Key)(R:Rp α):Rp (List<|β×α):=fun G xs v=>∃p o kv,v=.ref p/\G p=some (.frz o<|.dK kv)/\DR g R G xs kv
def pkD(g:β->Key)(R:Rp α):Rw (List<|β×α):=fun W xs v=>∃p kv,v=.ref p/\Rd W.H p (.dK kv)/\DR g R W.G xs kv
variable{g:β->Key}{R:Rp α}[Mono R]
theorem DR.same{G G':Hp}{xs:List (β×α)}{kv:List (Key×V)}(h:DR g R G xs kv)(e:Same G G'):DR g R G' xs kv:=⟨h.1,fun i q x a b=>⟨(h.2 i q x a b).1,EG e (h.2 i q x a b).2⟩⟩
instance zkeep72:Mono (isDk g R):=⟨fun e⟨p,o,kv,h1,h2,h3⟩=>⟨p,o,kv,h1,e _ _ h2,h3.same e⟩⟩
theorem Rd.same{H H':Hp}{p:Addr}{u:HO}(h:Rd H p u)(e:Same H H'):Rd H' p u:=by
 rcases h with h|⟨o,h⟩
 ·exact .inl<|e _ _ h
 ·exact .inr ⟨o,e _ _ h⟩
instance zkeep73:MonoW (pkD g R):=⟨fun e⟨p,kv,h1,h2,h3⟩=>⟨p,kv,h1,Rd.same h2 e.h,h3.same e.g⟩⟩
theorem pkD.of{xs:List (β×α)}{v:V}(h:isDk g R W.G xs v):pkD g R W xs v:=by
 obtain⟨p,o,kv,a,b,c⟩:=h;exact⟨p,kv,a,.inr ⟨o,W.ok _ _ b⟩,c⟩
theorem EV.pkD{m:Res (List<|β×α)}(h:EV Er t σ W (sh<|isDk g R) m):EV Er t σ W (pkD g R) m:=h.imp fun _ _ _ r=>pkD.of r
theorem OwD.pkD{p:Addr}{xs:List (β×α)}(o:OwD g R W p xs):pkD g R W xs (.ref p):=by
 obtain⟨kv,a,b⟩:=o.h;exact⟨p,kv,rfl,.inl a,b⟩
theorem nI{p:Addr}{xs:List (β×α)}(o:OwD g R W p xs)(h:σ[i]? =some (some<|.ref p):=by rfl):EV Er (bf i) σ W (Wb.pkD g R) (.ok xs):=bB o.pkD h
theorem vP[DecidableEq β]{Rk:Rp β}{ma:Res (List<|β×α)}{mk:Res β}(hg:∀a b,g a=g b->a=b)(hk:∀H b v,Rk H b v->v=kV (g b))(ha:EV Er ta σ W (Wb.pkD g R) ma)(h:EV Er tb σ W (sh Rk) mk):
  EV Er (z7 ta tb) σ W (sh R) (ma.bind fun d=>mk.bind fun k=>getD d k):=fun W1 e1 Q k=>ha W1 e1 _ ((ED k).imp fun xs kx x W2 e2 hx=>h W2 (e1.trans e2) _ ((ED kx).imp fun b kb v W3 e3 hv=>by
  obtain⟨a,h1,h2⟩:=dN kb;obtain⟨p,kv,rfl,o1,o2,o3⟩:=FK e3 hx;have hl:=gc hg kv xs o2 o3 b;rw[h1]at hl;obtain⟨u,hu,ru⟩:=hl;refine⟨p,u,rfl,?_,h2 u W3 (e2.trans e3) ru⟩;rw[hk _ _ _ hv,<-hu];exact .inl ⟨kv,g b,o1,rfl,rfl⟩))
theorem gZ[DecidableEq β]{Rk:Rp β}{ma:Res (List<|β×α)}{mk:Res β}{mz:Res α}(hg:∀a b,g a=g b->a=b)(hk:∀H b v,Rk H b v->v=kV (g b))(ha:EV Er ta σ W (Wb.pkD g R) ma)(h:EV Er tb σ W (sh Rk) mk)(hz:EV Er tc σ W (sh R) mz):
  EV Er (uv ta tb tc) σ W (sh R) (ma.bind fun d=>mk.bind fun k=>mz.bind fun z=>.ok<|bT d k z):=fun W1 e1 Q k=>ha W1 e1 _ ((ED k).imp fun xs kx x W2 e2 hx=>by
  obtain⟨p,kv,rfl,o1,o⟩:=id hx;refine⟨p,rfl,.inl ⟨kv,o1⟩,h W2 (e1.trans e2) _<|(ED kx).imp fun b kb v W3 e3 hv=>hz W3 ((e1.trans e2).trans e3) _<|(ED kb).imp fun z kz u W4 e4 hu=>?_⟩;have o':=o.same (e3.trans e4).g;have hl:=gc hg kv xs o'.1 o'.2 b;refine⟨fH kv<|g b,by rw[hk _ _ _ hv];exact .inl ⟨kv,g b,Rd.same o1 (e3.trans e4).h,rfl,rfl⟩,?_⟩;have kz:∀v W',Ext W1 W'->sh R W' (bT xs b z) v->Q v W'.H:=kz;refine kz _ W4 ((e2.trans e3).trans e4) ?_;unfold bT;cases q:look xs b with
  |none=>
   rw[q]at hl;have hl:fH kv (g b)=none:=hl;rw[hl];exact hu
  |some a=>
   rw[q]at hl;obtain⟨v',h1,h2⟩:=hl;rw[h1];exact h2)
theorem j6{ma:Res (List<|β×α)}(ha:EV Er ta σ W (Wb.pkD g R) ma):EVd Er (fb (fun xs H Q=>∃a kvs,xs=[.ref a]/\Rd H a (.dK kvs)/\∀p,H p=none->Q (.ref p) (cy H p<|.dK kvs))<|ai ta aO) σ W g R ma:=fun W1 e1 Q k=>
 ha W1 e1 _ (k.imp fun xs kx x W2 e2 hx=>by
  obtain⟨p,kv,rfl,o1,o⟩:=hx;exact⟨p,kv,rfl,o1,fun q hq=>kx q (W2.mut q (.dK kv) (W2.gnone hq)) (e2.trans (.own _ hq)) (none_of e2.h hq) ⟨W2.gnone hq,kv,aq,o⟩⟩)
theorem EVd.ev{m:Res (List<|β×α)}(h:EVd Er t σ W g R m):EV Er (Bq t) σ W (sh<|isDk g R) m:=fun W1 e1 Q k=>h W1 e1 _ (k.imp fun xs kx p W2 e2 hp o=>by
 obtain⟨kv,o1,o2⟩:=o.h;refine⟨p,kv,rfl,o1,fun ob=>?_⟩
 let W3:Wd:=W2.new p (.frz ob<|.dK kv)
 have g23:Same W2.G W3.G:=dW o.g;have e3:Ext W1 W3:=⟨e2.g.trans g23,fun a u z=>by
  show cy W2.H p _ a=_;rw[ao<|cJ z hp];exact e2.h _ _ z,fun q hq=>by
  show cy W2.G p _ q=_;rw[ao (fun z=>hq (by rw[z];exact hp))];exact e2.k q hq⟩
 exact kx (.ref p) W3 e3 ⟨p,ob,kv,rfl,aq,DR.same (R:=R) o2 g23⟩)
theorem rf{p:Addr}{xs:List (β×α)}(o:OwD g R W p xs)(E:Ext W0 W)(fr:W0.H p=none)(q:∀W',Ext W0 W'->Same W.G W'.G->isDk g R W'.G xs (.ref p)->(∀b,b≠p->W'.H b=W.H b/\W'.G b=W.G b)->ts D σ W'.H)(hi:σ[i]? =some (some<|.ref p):=by rfl):D6 i ts D σ W.H:=by
 obtain⟨kv,o1,o2⟩:=o.h;refine⟨p,kv,hi,o1,fun ob=>?_⟩
 let W3:Wd:=W.new p<|.frz ob<|.dK kv
 have g23:Same W.G W3.G:=dW o.g;exact q W3 ⟨E.g.trans g23,fun a u z=>by
  show cy W.H p _ a=_;rw[ao<|cJ z fr];exact E.h _ _ z,fun q hq=>by
  show cy W.G p _ q=_;rw[ao (fun z=>hq (by rw[z];exact fr))];exact E.k q hq⟩ g23 ⟨p,ob,kv,rfl,aq,DR.same (R:=R) o2 g23⟩ fun b hb=>⟨ao hb,ao hb⟩
theorem yk{p:Addr}{xs:List (β×α)}(o:OwD g R W p xs)(E:Ext W0 W)(fr:W0.H p=none)(q:∀W',Ext W0 W'->Same W.G W'.G->isDk g R W'.G xs (.ref p)->(∀b,b≠p->W'.H b=W.H b/\W'.G b=W.G b)->dF ts r D σ W'.H)(hi:σ[i]? =some (some<|.ref p):=by rfl):dF (D6 i ts) r D σ W.H:=rf (D:={D with nx:=r D}) o E fr q hi
theorem yl{g:β->Key}[DecidableEq β]{Rk:Rp β}{p:Addr}{xs:List (β×Int)}{m:Res Int}{mk:Res β}{f:Int->Int->Int}(hg:∀a b,g a=g b->a=b)(hk:∀H b v,Rk H b v->v=kV (g b))(o:OwD g isI W p xs)(hj:EV Er ti σ W (sh Rk) mk)(h:EV Er te σ W (sh isI) m)
  (q:(mk.bind fun k=>(getD xs k).bind fun a=>m.bind fun b=>fX xs k<|f a b).OkE Er fun ys=>∀W',Mu W W' p->OwD g isI W' p ys->D.nx σ W'.H) (hi:σ[i]? =some (some<|.ref p):=by rfl):z8 (bf i) ti te (Dh f) D σ W.H:=by
 refine⟨.ref p,hi,hj W (.refl _) _<|(ED q).imp fun k kk x W2 e2 hx=>?_⟩;obtain⟨a,h1,h2⟩:=dN<|ED kk;obtain⟨kv,o1,o2,o3⟩:=(o.mono e2).h;have hl:=gc hg kv xs o2 o3 k;rw[h1]at hl;obtain⟨u,hu,ru⟩:=hl;cases ru;refine⟨p,_,rfl,by rw[hk _ _ _ hx,<-hu];exact DGet.k o1,h W2 e2 _<|(ED h2).imp fun b kb y W3 e3 hy=>?_⟩;cases hy;obtain⟨h3,h4⟩:=aU kb;have e:=e2.trans e3;have o':=o.mono e;obtain⟨kv,o1,o2,o3⟩:=o'.h;obtain⟨p1,p2⟩:=qT hg o2 o3 (k:=k) (v:=.int<|f a b) (R:=isI) (a:=f a b) (H:=W3.G) rfl;refine⟨a,b,rfl,rfl,_,by rw[hk _ _ _ hx];exact DPut.k o1 (by rw[o2,Gi];unfold Mi.cap at h3;omega),?_⟩;exact h4 (W3.mut p (.dK<|iA kv (g k)<|.int<|f a b) o'.g) (.of e o'.g) ⟨o'.g,_,aq,p1,p2⟩
theorem vQ{Rk:Rp β}{m:Res (List<|β×α)}(hk:∀H b,Rk H b<|kV<|g b)(h:EV Er t σ W (sh<|isDk g R) m):IV Er (vL t) σ W Rk (m.bind fun d=>.ok (d.map (·.1))):=fun W1 e1 P k=>
 h W1 e1 _ ((ED k).imp fun d kd x W2 e2 hx=>by
  obtain⟨p,o,kv,rfl,h1,h2,h3⟩:=hx;refine⟨p,o,kv,rfl,W2.ok _ _ h1,kd _ W2 e2 fun W3 e3=>⟨fun i a ha=>?_,W3.ok _ _<|e3 _ _ h1,by rw[Fz,h2]⟩⟩;rw[G4]at ha;obtain⟨x,hx,rfl⟩:=Hb.mp ha;have hi:i<kv.length:=by have:=(ER.mp hx).1;omega
  refine⟨⟨W3.ok _ _ (e3 _ _ h1),hi⟩,fun y H'⟨z1,q,hq,ry⟩=>⟨W3,z1.symm,.refl _,?_⟩⟩;rw[ry,(h3 i q x hq hx).1];exact hk _ _)
theorem vR{Rk:Rp β}[Mono Rk]{m:Res (List<|β×α)}(hk:∀H b,Rk H b<|kV<|g b)(h:EV Er t σ W (sh<|isDk g R) m):IV Er (vN t) σ W (isT2 K Rk R) m:=fun W1 e1 P k=>
 h W1 e1 _ (k.imp fun d kd x W2 e2 hx=>by
  obtain⟨p,o,kv,rfl,h1,h2,h3⟩:=hx;refine⟨p,o,kv,rfl,W2.ok _ _ h1,kd _ W2 e2 fun W3 e3=>⟨fun i a ha=>?_,W3.ok _ _<|e3 _ _ h1,h2.symm⟩⟩;have hi:i<kv.length:=by have:=(ER.mp ha).1;omega
  refine⟨⟨W3.ok _ _<|e3 _ _ h1,hi⟩,fun y H'⟨T,q,hT,ry,hq,z⟩=>⟨W3.new T<|.tup [kV q.1,q.2],by rw[z];rfl,.new _ hT,T,_,_,ry,M4 aq,?_,?_⟩⟩;·rw[(h3 i q a hq ha).1];exact hk _ _
  ·exact EG (K1 _ hT).g (EG e3 (h3 i q a hq ha).2))
theorem Dq:∀(H:Hp)(b:Tx),isS H b (kV<|FU<|sOf b):=fun _ _=>rfl
end
section
variable{α β γ δ:Type}
abbrev Rfl(α:Type):=Hp->α->List (Str×V)->Prop
def f1(f:Str)(R:Rp α):Rfl α:=fun G a fs=>∃v,fs=[(f,v)]/\R G a v
def fC(f:Str)(R:Rp α)(RF:Rfl β):Rfl (α×β):=fun G a fs=>∃v r,fs=(f,v)::r/\R G a.1 v/\RF G a.2 r
class MonoF(RF:Rfl α):Prop where
 mono:∀{G G':Hp}{a:α}{fs:List (Str×V)},Same G G'->RF G a fs->RF G' a fs
instance zkeep74{f:Str}{R:Rp α}[Mono R]:MonoF (f1 f R):=⟨fun e⟨v,h1,h2⟩=>⟨v,h1,EG e h2⟩⟩
instance zkeep75{f:Str}{R:Rp α}{RF:Rfl β}[Mono R][MonoF RF]:MonoF (fC f R RF):=⟨fun e⟨v,r,h1,h2,h3⟩=>⟨v,r,h1,EG e h2,MonoF.mono e h3⟩⟩
def isOb(C:Addr)(RF:Rfl α):Rp α:=fun G x v=>∃a dx fs,v=.ref a/\G a=some (.ins C dx fs)/\RF G x fs
instance zkeep76{C:Addr}{RF:Rfl α}[MonoF RF]:Mono (isOb C RF):=⟨fun e⟨a,dx,fs,h1,h2,h3⟩=>⟨a,dx,fs,h1,e _ _ h2,MonoF.mono e h3⟩⟩
def vS(RF:Rfl α)(f:Str)(R:Rp γ)(pr:α->γ):Prop:=∀G a fs,RF G a fs->∃v,fs.lookup f=some v/\R G (pr a) v
theorem D7{f:Str}{R:Rp α}:vS (f1 f R) f R fun a=>a:=fun G a fs⟨v,h1,h2⟩=>⟨v,by rw[h1];simp[GB],h2⟩
theorem vT{f:Str}{R:Rp α}{RF:Rfl β}:vS (fC f R RF) f R fun a=>a.1:=fun G a fs⟨v,r,h1,h2,h3⟩=>⟨v,by rw[h1];simp[GB],h2⟩
theorem iM{f f':Str}{R:Rp γ}{R':Rp α}{RF:Rfl β}{pr:β->γ}(h:vS RF f R pr)(ne:(f==f')=false:=by decide):vS (fC f' R' RF) f R fun a=>pr a.2:=fun G a fs⟨v,r,h1,h2,h3⟩=>by
 obtain⟨u,h4,h5⟩:=h G a.2 r h3;exact⟨u,by rw[h1];simp only[GB,ne];exact h4,h5⟩
variable{Er:Nat->Prop}{t te:TE}{σ:St}{W W0 W' W1 W2:Wd}{K:EH}{Cl:Addr}{f m:Str}
theorem cE{RF:Rfl α}{R:Rp γ}{pr:α->γ}{mm:Res α}(c:Cls K Cl)(n:NoAttr K Cl f)(l:vS RF f R pr)(h:EV Er t σ W (sh<|isOb Cl RF) mm):EV Er (uh K t f) σ W (sh R) (mm.bind fun a=>.ok<|pr a):=fun W1 e1 Q k=>
 h W1 e1 _ ((ED k).imp fun x kx v W2 e2⟨a,dx,fs,e,ha,r⟩=>by
  obtain⟨u,h1,h2⟩:=l _ _ _ r;exact⟨a,Cl,dx,fs,u,e,W2.ok _ _ ha,c,n,h1,kx u W2 e2 h2⟩)
abbrev Rfo(α:Type):=Wd->FS->α->List (Str×V)->Prop
def o1(f:Str)(R:Rf α):Rfo α:=fun W F a fs=>∃v,fs=[(f,v)]/\R W F a v
def oC(f:Str)(R:Rf α)(RF:Rfo β):Rfo (α×β):=fun W F a fs=>∃v r F1 F2,fs=(f,v)::r/\R W F1 a.1 v/\RF W F2 a.2 r/\(∀q,F1 q->F2 q->False)/\∀q,F q↔F1 q\/F2 q
class FrO(RF:Rfo α):Prop where
 fr:∀{W W':Wd}{F:FS}{a:α}{fs:List (Str×V)},RF W F a fs->Same W.G W'.G->(∀q,F q->W'.H q=W.H q/\W'.G q=W.G q)->RF W' F a fs
 lv:∀{W:Wd}{F:FS}{a:α}{fs:List (Str×V)},RF W F a fs->∀q,F q->W.G q=none/\W.H q≠none
instance zkeep77{f:Str}{R:Rf α}[FrT R]:FrO (o1 f R):=⟨fun⟨v,h1,h2⟩s k=>⟨v,h1,Nj h2 s k⟩,fun⟨v,h1,h2⟩=>Oe h2⟩
instance zkeep78{f:Str}{R:Rf α}{RF:Rfo β}[FrT R][FrO RF]:FrO (oC f R RF):=⟨fun⟨v,r,F1,F2,h1,h2,h3,h4,h5⟩s k=>⟨v,r,F1,F2,h1,Nj h2 s fun q hq=>k q<|(h5 q).mpr (.inl hq),FrO.fr h3 s fun q hq=>k q<|(h5 q).mpr (.inr hq),h4,h5⟩,fun⟨v,r,F1,F2,h1,h2,h3,h4,h5⟩q hq=>((h5 q).mp hq).elim (Oe h2 q) (FrO.lv h3 q)⟩
theorem FrO.mu{RF:Rfo α}[FrO RF]{F F':FS}{a:α}{fs:List (Str×V)}(t:RF W F a fs)(m:MuF F' W W')(dj:∀q,F q->F' q->False):RF W' F a fs:=FrO.fr t m.g fun q hq=>⟨m.h q (dj q hq) (FrO.lv t q hq).2,m.k q (FrO.lv t q hq).2⟩
def oOb(C:Addr)(RF:Rfo α):Rf α:=fun W F x v=>∃(a dx:Addr)(fs:List (Str×V))(F1:FS),v=.ref a/\W.G a=none/\W.G dx=none/\W.H a=some (.ins C dx fs)/\W.H dx=some (.own a)/\RF W F1 x fs/\¬F1 a/\¬F1 dx/\∀q,F q↔(q=a\/q=dx)\/F1 q
instance zkeep79{C:Addr}{RF:Rfo α}[FrO RF]:FrT (oOb C RF):=⟨fun⟨a,dx,u,F1,e,ga,gd,ha,hd,t,n1,n2,hF⟩s k=>by
 have ka:=k a<|(hF a).mpr (.inl<|.inl rfl);have kd:=k dx<|(hF dx).mpr (.inl<|.inr rfl);exact⟨a,dx,u,F1,e,by rw[ka.2];exact ga,by rw[kd.2];exact gd,by rw[ka.1];exact ha,by rw[kd.1];exact hd,FrO.fr t s fun q hq=>k q<|(hF q).mpr (.inr hq),n1,n2,hF⟩,fun⟨a,dx,u,F1,e,ga,gd,ha,hd,t,n1,n2,hF⟩q hq=>by
 rcases (hF q).mp hq with(rfl|rfl)|h;·exact⟨ga,nn_of ha⟩
 ·exact⟨gd,nn_of hd⟩
 ·exact FrO.lv t q h⟩
def Dr(RF:Rfo α)(f:Str)(R:Rf γ)(pr:α->γ):Prop:=∀W F a fs,RF W F a fs->∃v F',fs.lookup f=some v/\R W F' (pr a) v
theorem fS{RF:Rfo α}{R:Rf γ}{pr:α->γ}{mm:Res α}(c:Cls K Cl)(n:NoAttr K Cl f)(l:Dr RF f R pr)(h:EV Er t σ W (vw<|oOb Cl RF) mm):EV Er (uh K t f) σ W (vw R) (mm.bind fun a=>.ok<|pr a):=fun W1 e1 Q k=>
 h W1 e1 _ ((ED k).imp fun x kx v W2 e2⟨F,a,dx,fs,F1,e,ga,gd,ha,hd,t,_⟩=>by
  obtain⟨u,F',h1,h2⟩:=l _ _ _ _ t;exact⟨a,Cl,dx,fs,u,e,ha,c,n,h1,kx u W2 e2 ⟨F',h2⟩⟩)
def FLn(RF:Rfo α)(f:Str)(R:Rf γ)(pr:α->γ)(st:α->γ->α):Prop:=∀W F a fs,RF W F a fs->∃v F1,fs.lookup f=some v/\R W F1 (pr a) v/\(∀q,F1 q->F q)/\∀W' F1' b,MuF F1 W W'->(∀q,F1' q->F1 q\/W.H q=none)->R W' F1' b v->∃F',RF W' F' (st a b) fs/\∀q,F' q->F q\/W.H q=none
theorem FLn.at_{RF:Rfo α}{R:Rf γ}{pr:α->γ}{st:α->γ->α}(l:FLn RF f R pr st):Dr RF f R pr:=fun W F a fs h=>by
 obtain⟨v,F1,h1,h2,_⟩:=l W F a fs h;exact⟨v,F1,h1,h2⟩
theorem D8{R:Rf α}:FLn (o1 f R) f R (fun a=>a) (fun _ b=>b):=fun W F a fs⟨v,h1,h2⟩=>⟨v,F,by rw[h1];simp[GB],h2,fun q h=>h,fun W' F1' b m hF t=>⟨F1',⟨v,h1,t⟩,hF⟩⟩
theorem A8{R:Rf α}{RF:Rfo β}[FrT R][FrO RF]:FLn (oC f R RF) f R (fun a=>a.1) (fun a b=>(b,a.2)):=fun W F a fs⟨v,r,F1,F2,h1,h2,h3,h4,h5⟩=>⟨v,F1,by rw[h1];simp[GB],h2,fun q h=>(h5 q).mpr (.inl h),fun W' F1' b m hF t=>⟨fun q=>F1' q\/F2 q,⟨v,r,F1',F2,h1,t,FrO.mu h3 m fun q a b=>h4 q b a,fun q a b=>(hF q a).elim (fun z=>h4 q z b) fun z=>(FrO.lv h3 q b).2 z,fun q=>Jy⟩,fun q hq=>hq.elim (fun z=>(hF q z).imp (fun y=>(h5 q).mpr (.inl y)) id) fun z=>.inl<|(h5 q).mpr (.inr z)⟩⟩
theorem sW{f':Str}{R:Rf γ}{R':Rf α}{RF:Rfo β}{pr:β->γ}{st:β->γ->β}[FrT R'][FrO RF](l:FLn RF f R pr st)(ne:(f==f')=false:=by decide):FLn (oC f' R' RF) f R (fun a=>pr a.2) (fun a b=>(a.1,st a.2 b)):=fun W F a fs⟨v,r,F1,F2,h1,h2,h3,h4,h5⟩=>by
 obtain⟨u,F3,h6,h7,h8,h9⟩:=l W F2 a.2 r h3;refine⟨u,F3,by rw[h1];simp only[GB,ne];exact h6,h7,fun q h=>(h5 q).mpr (.inr<|h8 q h),fun W' F3' b m hF t=>?_⟩;obtain⟨F2',t1,t2⟩:=h9 W' F3' b m hF t;exact⟨fun q=>F1 q\/F2' q,⟨v,r,F1,F2',h1,FrT.mu h2 m fun q a b=>h4 q a<|h8 q b,t1,fun q a b=>(t2 q b).elim (fun z=>h4 q a z) fun z=>(Oe h2 q a).2 z,fun q=>Jy⟩,fun q hq=>hq.elim (fun z=>.inl<|(h5 q).mpr (.inl z)) fun z=>(t2 q z).imp (fun y=>(h5 q).mpr (.inr y)) id⟩
theorem j8{RF:Rfo β}[FrO RF]{R:Rf γ}{pr:β->γ}{st:β->γ->β}{C:α->List TC}{mm:Res (β×(β->α))}(c:Cls K Cl)(n:NoAttr K Cl f)(l:FLn RF f R pr st)(h:EV Er t σ W (Lens W0 C<|oOb Cl RF) mm):EV Er (uh K t f) σ W (Lens W0 C R) (mm.bind fun x=>.ok (pr x.1,fun b=>x.2<|st x.1 b)):=fun W1 e1 Q k=>
 h W1 e1 _ ((ED k).imp fun x kx v W2 e2⟨F,⟨a,dx,fs,F1,e,ga,gd,ha,hd,t,n1,n2,hF⟩,hn,up⟩=>by
  obtain⟨u,F2,h1,h2,h3,h4⟩:=l _ _ _ _ t;refine⟨a,Cl,dx,fs,u,e,ha,c,n,h1,kx u W2 e2 ⟨F2,h2,fun q hq=>hn q<|(hF q).mpr (.inr<|h3 q hq),fun W' F' b' mu hF' t'=>?_⟩⟩;obtain⟨F3,t3,h5⟩:=h4 W' F' b' mu hF' t';refine up W' (fun q=>(q=a\/q=dx)\/F3 q) _ (mu.up fun q hq=>(hF q).mpr (.inr<|h3 q hq)) (fun q hq=>?_) ⟨a,dx,fs,F3,e,by rw[mu.k a<|nn_of ha];exact ga,by rw[mu.k dx<|nn_of hd];exact gd,by rw[mu.h a (fun z=>n1<|h3 a z)<|nn_of ha];exact ha,by rw[mu.h dx (fun z=>n2<|h3 dx z)<|nn_of hd];exact hd,t3,fun z=>?_,fun z=>?_,fun q=>Jy⟩
  ·rcases hq with z | z;·exact .inl ((hF q).mpr (.inl z))
   ·exact(h5 q z).imp (fun y=>(hF q).mpr (.inr y)) id
  ·exact(h5 a z).elim n1 (nn_of ha)
  ·exact(h5 dx z).elim n2 (nn_of hd))
def Br(RF:Rfo α)(f:Str)(R:Rf γ)(st:α->γ->α):Prop:=∀W W' F a fs,RF W F a fs->Same W.G W'.G->(∀q,F q->W'.H q=W.H q/\W'.G q=W.G q)->∀F1 b u,R W' F1 b u->(∀q,F1 q->F q->False)->∃F',RF W' F' (st a b) (eE f u fs)/\∀q,F' q->F q\/F1 q
end
section
variable{Er:Nat->Prop}{α β γ δ ρ τ:Type}{t ta te tp:TE}{σ:St}{W W0 W' W1 W2 Wi:Wd}{K:EH}{Cl:Addr}{f m:Str}{cs:List TC}{D:Ends}{i j k l:Nat}{r:TS}{F:FS}
def Bs(K:EH)(ta:TE):TT:=fun σ H Q=>ta σ H fun x H'=>∃k,zA K x H' k/\Q k H'
theorem iq{X:Cx}{a:Expr}(hK:X.K=K)(ha:PE X a ta)(he:∀whole,isTrue a X.env whole=(do let v <-whole;standAt a.pos;holding [v] (truthy v)):=by intro _;rfl):PT X a (Bs K ta):=by
 subst hK;exact ud ha he
theorem kg{R:Rp α}{m:Res (List α)}(h:EV Er ta σ W (pk R) m):TV Er (Bs K ta) σ W (m.bind fun a=>.ok<|!a.isEmpty):=fun W1 e1 Q q=>
 h W1 e1 _ ((ED q).imp fun a ka v W2 e2 hv=>by
  obtain⟨p,vs,rfl,h1,h2⟩:=hv;refine⟨!a.isEmpty,.inl ⟨vs,GR h1,?_⟩,ka W2 e2⟩;have:=h2.1;cases a<;>cases vs<;>first|rfl|cases this)
theorem D9{R:Rf α}:Br (o1 f R) f R fun _ b=>b:=fun W W' F a fs⟨v,h1,h2⟩s k F1 b u t dj=>⟨F1,⟨u,by rw[h1];show(if f=f then _ else _)=_;rw[if_pos rfl],t⟩,fun q hq=>.inr hq⟩
theorem A9{f':Str}{R:Rf γ}{R':Rf α}{RF:Rfo β}{st:β->γ->β}[FrT R'](l:Br RF f R st)(ne:f'≠f:=by decide):Br (oC f' R' RF) f R fun a b=>(a.1,st a.2 b):=fun W W' F a fs⟨v,r,F1,F2,h1,h2,h3,h4,h5⟩s k F3 b u t dj=>by
 obtain⟨F',t1,t2⟩:=l W W' F2 a.2 r h3 s (fun q hq=>k q<|(h5 q).mpr (.inr hq)) F3 b u t fun q x y=>dj q x<|(h5 q).mpr (.inr y);refine⟨fun q=>F1 q\/F' q,⟨v,eE f u r,F1,F',by rw[h1];show(if f'=f then _ else _)=_;rw[if_neg ne],Nj h2 s fun q hq=>k q<|(h5 q).mpr (.inl hq),t1,fun q x y=>(t2 q y).elim (h4 q x) fun z=>dj q z<|(h5 q).mpr (.inl x),fun q=>Jy⟩,fun q hq=>hq.elim (fun z=>.inl<|(h5 q).mpr (.inl z)) fun z=>(t2 q z).imp (fun y=>(h5 q).mpr (.inr y)) id⟩
def Bt(RF:Rfo α):Prop:=∀W F a fs,RF W F a fs->fs.length<1000
theorem sX{RF:Rfo τ}[FrO RF]{R:Rf γ}[FrT R]{st:τ->γ->τ}{x:τ}{v:V}{mm:Res γ}(c:Cls K Cl)(n:NoAttr K Cl f)(hl:Bt RF)(l:Br RF f R st)(S:Sep W0 W cs)(E:Ext W0 W)(hc:cs[k]? =some (tc (oOb Cl RF) x v))(h:yc Er te σ W R mm)(q:mm.OkE Er fun b=>∀W',Same W.G W'.G->Ext W0 W'->Sep W0 W' (cs.set k<|tc (oOb Cl RF) (st x b) v)->D.nx σ W'.H)(hi:σ[i]? =some (some v):=by rfl):xo K (bf i) te f D σ W.H:=
 h W (.refl _) _ (q.imp fun b kb u W2 F1 e2 hF1 t1=>by
  obtain⟨Fs,s⟩:=S;obtain⟨a,dx,fs,F2,e,ga,gd,ha,hd,t,n1,n2,hF⟩:=(show oOb Cl RF W2 (Fs k) x v from FrT.ext (s.el k _ hc) e2)
  subst e;have kk:k<cs.length:=(ER.mp hc).1;have hFa:Fs k a:=(hF a).mpr (.inl<|.inl rfl);have hFd:Fs k dx:=(hF dx).mpr (.inl<|.inr rfl);have dj1:∀q,F1 q->Fs k q->False:=fun q h1 h2=>(s.lv h2).2 (hF1 q h1);have mu:MuF (Fs k) W (W2.mut a (.ins Cl dx<|eE f u fs) ga):=(e2.muF (F:=Fs k)).trans (NQ (F:=Fs k) hFa ga) fun q hq=>.inl hq;obtain⟨F',t3,h3⟩:=l W2 (W2.mut a (.ins Cl dx<|eE f u fs) ga) F2 x fs t (.refl _) (fun q hq=>⟨ao fun z=>n1<|z▸hq,rfl⟩) F1 b u (Nj t1 (.refl _) fun q hq=>⟨ao fun z=>dj1 q hq<|z▸hFa,rfl⟩) fun q h1 h2=>dj1 q h1<|(hF q).mpr (.inr h2);have nda:dx≠a:=fun z=>by rw[z,ha]at hd;cases hd
  refine⟨.ref a,hi,a,Cl,dx,fs,rfl,ha,c,n,hl _ _ _ _ t,kb (W2.mut a (.ins Cl dx<|eE f u fs) ga) e2.g ((E.trans e2).mut (s.nw k a hFa) ga) ?_⟩;refine s.put (F:=fun q=>(q=a\/q=dx)\/F' q) E mu (fun q hq=>?_) ⟨a,dx,eE f u fs,F',rfl,ga,gd,aq,(ao nda).trans hd,t3,fun z=>?_,fun z=>?_,fun q=>Jy⟩ kk
  ·rcases hq with(rfl | rfl) | hq;·exact .inl hFa
   ·exact .inl hFd
   ·exact(h3 q hq).imp (fun y=>(hF q).mpr (.inr y)) (hF1 q)
  ·exact(h3 a z).elim n1 fun y=>dj1 a y hFa
  ·exact(h3 dx z).elim n2 fun y=>dj1 dx y hFd)
variable{C:α->List TC}
theorem sY{R:Rp β}[Mono R]{mp:Res (List β×(List β->α))}{σ':V->St}(E:Ext W0 W)(hp:EV Er tp σ W (Lens W0 C<|oL<|fz R) mp)(q:(mp.bind fun p=>(j0 p.1).bind fun b=>.ok (p.2 b.2,b.1)).OkE Er fun a'=>∀v W',Same W.G W'.G->Ext W0 W'->Sep W0 W' (C a'.1)->R W'.G a'.2 v->D.nx (σ' v) W'.H)(hσ:∀v,σ.set j (some v)=σ' v:=by intro _;rfl):
  bN (cM K "list" uk tp) (aP j) D σ W.H:=hp W (.refl _) _ ((ED q).imp fun p kp u W1 e1 l=>by
 obtain⟨p0,vs,rfl,hH,lr,hg,back⟩:=NZ (E.trans e1) l;unfold j0 at kp;cases hz:p.1[p.1.length-1]? with
 |none=>rw[hz]at kp;exact(kp:False).elim
 |some x=>
  rw[hz]at kp;obtain⟨y,hy,ry⟩:=lr.get hz;obtain⟨b1,b2⟩:=back vs.dropLast p.1.dropLast lr.dropLast;have:=kp y (W1.mut p0 (.lst vs.dropLast) hg) e1.g b1 b2 ry;rw[<-hσ]at this;exact⟨.inl ⟨rfl,vs,GR hH⟩,p0,vs,y,rfl,rfl,hH,by rw[lr.1];exact hy,this⟩)
theorem jL{R:Rp β}[Mono R]{mp:Res (List β×(List β->α))}{σ':V->St}(E:Ext W0 W)(hp:EV Er tp σ W (Lens W0 C<|oL<|fz R) mp)(q:(mp.bind fun p=>(j0 p.1).bind fun b=>.ok (p.2 b.2,b.1)).OkE Er fun a'=>∀v W',Same W.G W'.G->Ext W0 W'->Sep W0 W' (C a'.1)->R W'.G a'.2 v->r D (σ' v) W'.H)(hσ:∀v,σ.set j (some v)=σ' v:=by intro _;rfl):
  dF (bN (cM K "list" uk tp)<|aP j) r D σ W.H:=sY (D:={D with nx:=r D}) E hp q hσ
theorem ym{R:Rp β}[Mono R]{mp:Res (List β×(List β->α))}{m:Res (List β)}(E:Ext W0 W)(hp:EV Er tp σ W (Lens W0 C<|oL<|fz R) mp)(h:EV Er te σ W (pk R) m)(q:(mp.bind fun p=>m.bind fun x=>(yb p.1 x).bind fun b=>.ok<|p.2 b).OkE Er fun a'=>∀W',Same W.G W'.G->Ext W0 W'->Sep W0 W' (C a')->D.nx σ W'.H):
  bq (ff K "list" n9 tp<|ai te aO) D σ W.H:=hp W (.refl _) _ ((ED q).imp fun p kp u W1 e1 l=>by
 obtain⟨p0,vs0,rfl,hH0,_,_⟩:=NZ (E.trans e1) l;refine⟨.inl ⟨rfl,vs0,GR hH0⟩,h W1 e1 _ ((ED kp).imp fun x kx v W2 e2 hv=>?_)⟩;obtain⟨p1,vs,ep,hH,lr,hg,back⟩:=NZ ((E.trans e1).trans e2) (FK e2 l);cases ep;obtain⟨h3,h4⟩:=aU (ED kx);obtain⟨b,us,rfl,g1,g2⟩:=hv;obtain⟨b1,b2⟩:=back (vs++us) (p.1++x) (LR.app lr g2);exact⟨p0,b,vs,us,rfl,rfl,hH,g1,by rw[lr.1,g2.1];exact ju h3,h4 (W2.mut p0 (.lst (vs++us)) hg) (e1.trans e2).g b1 b2⟩)
theorem sZ{R:Rp β}[Mono R]{mp:Res (List β×(List β->α))}{m:Res (List β)}(E:Ext W0 W)(hp:EV Er tp σ W (Lens W0 C<|oL<|fz R) mp)(h:EV Er te σ W (pk R) m)(q:(mp.bind fun p=>m.bind fun x=>(yb p.1 x).bind fun b=>.ok<|p.2 b).OkE Er fun a'=>∀W',Same W.G W'.G->Ext W0 W'->Sep W0 W' (C a')->r D σ W'.H):
  dF (bq<|ff K "list" n9 tp<|ai te aO) r D σ W.H:=ym (D:={D with nx:=r D}) E hp h q
theorem oL.lf{R:Rp β}[Mono R]{xs:List β}{v:V}(t:oL (fz R) W F xs v):∃p vs,v=.ref p/\W.H p=some (.lst vs)/\LR R W.G xs vs/\F p/\W.G p=none/\∀W' vs' xs',W'.G p=none->W'.H p=some (.lst vs')->LR R W'.G xs' vs'->oL (fz R) W' (· =p) xs' v:=by
 obtain⟨p,vs,Fs,rfl,g,h,t,np,hF⟩:=t;exact⟨p,vs,rfl,h,t.lr,(hF p).mpr (.inl rfl),g,fun W' vs' xs' g' h' lr=>⟨p,vs',fun _ _=>False,rfl,g',h',.of lr,fun _ z=>z,fun q=>⟨.inl,fun z=>z.elim id fun⟨_,z⟩=>z.elim⟩⟩⟩
theorem t9{R:Rp β}[Mono R]{xs ys:List β}{v u:V}(S:Sep W0 W cs)(E:Ext W0 W)(hk:cs[k]? =some (tc (oL<|fz R) xs v))(hl:cs[l]? =some (tc (oL<|fz R) ys u))(hkl:k≠l)(q:((j0 ys).bind fun b=>(en xs b.1).bind fun c=>.ok (c,b.2)).OkE Er fun z=>∀W',Same W.G W'.G->Ext W0 W'->Sep W0 W' ((cs.set l<|tc (oL<|fz R) z.2 u).set k (tc (oL<|fz R) z.1 v))->D.nx σ W'.H)(hi:σ[i]? =some (some v):=by rfl)(hj:σ[j]? =some (some u):=by rfl):
  bq (ff K "list" aH (bf i)<|ai (cM K "list" uk<|bf j) aO) D σ W.H:=by
 obtain⟨Fs,s⟩:=S;obtain⟨p,vs,rfl,h1,lr1,F1,g1,up1⟩:=oL.lf (show oL (fz R) W (Fs k) xs v from s.el k _ hk);obtain⟨p',us,rfl,h2,lr2,F2,g2,up2⟩:=oL.lf (show oL (fz R) W (Fs l) ys u from s.el l _ hl);have ne:p≠p':=fun z=>hkl<|s.dj k l p F1<|z▸F2;have kk:k<cs.length:=(ER.mp hk).1;have kl:l<cs.length:=(ER.mp hl).1;unfold j0 at q;cases hz:ys[ys.length-1]? with
 |none=>rw[hz]at q;exact(q:False).elim
 |some x=>
  rw[hz]at q;obtain⟨y,hy,ry⟩:=lr2.get hz;obtain⟨h3,h4⟩:=aU (ED (show((en xs x).bind _).OkE Er _ from q));have e1:Ext W0 (W.mut p' (.lst us.dropLast) g2):=E.mut (s.nw l p' F2) g2;have S1:=s.put (F:=(· =p')) E (NQ (F:=Fs l) F2 g2) (fun q hq=>.inl (by rw[hq];exact F2)) (up2 (W.mut p' (.lst us.dropLast) g2) us.dropLast ys.dropLast g2 aq lr2.dropLast) kl;have hp1:(W.mut p' (.lst us.dropLast) g2).H p=some (.lst vs):=(ao ne).trans h1;refine⟨_,hi,.inl ⟨rfl,vs,GR h1⟩,_,hj,.inl ⟨rfl,us,GR h2⟩,p',us,y,rfl,rfl,h2,by rw[lr2.1];exact hy,p,vs,y,rfl,rfl,hp1,by rw[lr1.1,Gi];unfold Mi.cap at h3;omega,h4 ((W.mut p' (.lst us.dropLast) g2).mut p (.lst<|vs++[y]) g1) (.refl _) (e1.mut (s.nw k p F1) g1) ?_⟩;obtain⟨Fs2,s2⟩:=S1;have hk2:(cs.set l<|tc (oL<|fz R) ys.dropLast<|.ref p')[k]? =some (tc (oL<|fz R) xs<|.ref p):=by rw[Ik<|Gh hkl];exact hk
  obtain⟨p2,vs2,e2,h5,lr3,F3,g3,up3⟩:=oL.lf (show oL (fz R) _ (Fs2 k) xs (.ref p)from s2.el k _ hk2);cases e2;exact s2.put (F:=(· =p)) e1 (NQ (W:=W.mut p' (.lst us.dropLast) g2) (F:=Fs2 k) F3 g1) (fun q hq=>.inl (by rw[hq];exact F3)) (up3 _ (vs++[y]) (xs++[x]) g1 aq<|lr1.snoc ry) (by rw[Hm];exact kk)
theorem jM{R:Rp β}[Mono R]{xs ys:List β}{v u:V}(S:Sep W0 W cs)(E:Ext W0 W)(hk:cs[k]? =some (tc (oL<|fz R) xs v))(hl:cs[l]? =some (tc (oL<|fz R) ys u))(hkl:k≠l)(q:((j0 ys).bind fun b=>(en xs b.1).bind fun c=>.ok (c,b.2)).OkE Er fun z=>∀W',Same W.G W'.G->Ext W0 W'->Sep W0 W' ((cs.set l<|tc (oL<|fz R) z.2 u).set k (tc (oL<|fz R) z.1 v))->r D σ W'.H)(hi:σ[i]? =some (some v):=by rfl)(hj:σ[j]? =some (some u):=by rfl):
  dF (bq<|ff K "list" aH (bf i)<|ai (cM K "list" uk<|bf j) aO) r D σ W.H:=t9 (D:={D with nx:=r D}) S E hk hl hkl q hi hj
end
section
variable{Er:Nat->Prop}{α β γ δ ε ζ ρ τ υ:Type}{ta te tp:TE}{t:TA}{σ:St}{W W0 W' W1 W2 Wi:Wd}{K:EH}{Cl:Addr}{f m:Str}{cs:List TC}{D:Ends}{i j k l:Nat}{r:TS}{F:FS}{E:XK}
abbrev Raw(α:Type):=Wd->α->List V->Prop
def wN:Raw Unit:=fun _ _ us=>us=[]
def wC(R:Rw α)(RA:Raw β):Raw (α×β):=fun W a us=>∃v r,us=v::r/\R W a.1 v/\RA W a.2 r
class MonoR(RA:Raw α):Prop where
 mono:∀{W W':Wd}{a:α}{us:List V},Ext W W'->RA W a us->RA W' a us
instance zkeep80:MonoR wN:=⟨fun _ h=>h⟩
instance zkeep81{R:Rw α}{RA:Raw β}[MonoW R][MonoR RA]:MonoR (wC R RA):=⟨fun e⟨v,r,h1,h2,h3⟩=>⟨v,r,h1,FK e h2,MonoR.mono e h3⟩⟩
def zg(Er:Nat->Prop)(t:TA)(σ:St)(W:Wd)(RA:Raw α)(m:Res α):Prop:=∀W1,Ext W W1->∀Q:List V->Hp->Prop,m.OkE Er (fun a=>∀us W2,Ext W1 W2->RA W2 a us->Q us W2.H)->t σ W1.H Q
theorem cI:zg Er aO σ W wN (.ok ()):=fun W1 _ Q k=>k [] W1 (.refl _) rfl
theorem cm{R:Rw α}{RA:Raw β}[MonoW R]{m:Res α}{ma:Res β}(h:EV Er te σ W R m)(ht:zg Er t σ W RA ma):zg Er (ai te t) σ W (wC R RA) (m.bind fun a=>ma.bind fun b=>.ok (a,b)):=fun W1 e1 Q k=>
 h W1 e1 _ ((ED k).imp fun a ka v W2 e2 hv=>ht W2 (e1.trans e2) _<|(ED ka).imp fun b kb us W3 e3 hu=>kb (v::us) W3 (e2.trans e3) ⟨v,us,rfl,FK e3 hv,hu⟩)
def gH(RA:Raw α)(rt:Rt ρ)(m:α->Res ρ):Sp:=fun vs H Q _=>∃(W:Wd)(a:α),W.H=H/\RA W a vs/\∃Er:Nat->Prop,(m a).OkE Er fun r=>rt W r Q
section
variable{RA:Raw α}{ma:Res α}
theorem oO{R:Rp ρ}{mf:α->Res ρ}(h:zg Er t σ W RA ma):EV Er (aR (gH RA (rs R) mf) [] E t) σ W (sh R) (ma.bind fun a=>mf a):=fun W1 e1 Q q=>
 h W1 e1 _ ((ED q).imp fun a ka us W2 e2 hu=>⟨W2,a,rfl,by rw[FG];exact hu,Er,ka.imp fun r kr u W' e hv=>kr u W' (e2.trans e) hv⟩)
theorem mK{R:Rp ρ}{mf:α->Res (List ρ)}(h:zg Er t σ W RA ma):EVo Er (aR (gH RA (ro R) mf) [] E t) σ W R (ma.bind fun a=>mf a):=fun W1 e1 Q q=>
 h W1 e1 _ ((ED q).imp fun a ka us W2 e2 hu=>⟨W2,a,rfl,by rw[FG];exact hu,Er,ka.imp fun r kr p W' e hp o=>kr p W' (e2.trans e) (none_of e2.h hp) o⟩)
end
def AA(RF:Rfo α)(m:Str):Prop:=∀W F a fs,RF W F a fs->fs.lookup m=none
theorem gF{R:Rf α}(h:(m==f)=false:=by decide):AA (o1 f R) m:=fun W F a fs⟨v,h1,_⟩=>by rw[h1];simp only[GB,h]
theorem bV{R:Rf α}{RF:Rfo β}(g:AA RF m)(h:(m==f)=false:=by decide):AA (oC f R RF) m:=fun W F a fs⟨v,r,F1,F2,h1,h2,h3,_⟩=>by rw[h1];simp only[GB,h];exact g _ _ _ _ h3
theorem mL{RF:Rfo τ}{C:Addr}(h:AA RF m):HasM (oOb C RF) C m:=⟨fun⟨a,dx,u,F1,e,_,_,ha,_,t,_⟩=>⟨a,dx,_,e,ha,h _ _ _ _ t⟩⟩
section
variable{RF:Rfo τ}[FrO RF]{RA:Raw α}[MonoR RA]{ma:Res α}{mo:Res τ}
theorem j9{R:Rp ρ}{mf:τ×α->Res ρ}(hm:AA RF m)(h:EV Er ta σ W (vw<|oOb Cl RF) mo)(ht:zg Er t σ W RA ma):EV Er (fY Cl m (gH (wC (vw<|oOb Cl RF) RA) (rs R) mf) [] E ta t) σ W (sh R) (mo.bind fun x=>ma.bind fun a=>mf (x,a)):=fun W1 e1 Q q=>
 h W1 e1 _ ((ED q).imp fun x kx v W2 e2 hv=>by
  obtain⟨F,a,dx,fs,F1,e,_,_,ha,_,t1,_⟩:=id hv;refine⟨a,dx,fs,e,ha,hm _ _ _ _ t1,ht W2 (e1.trans e2) _ ((ED kx).imp fun y ky us W3 e3 hu=>⟨W3,(x,y),rfl,⟨v,us,by rw[FG],FK e3 hv,hu⟩,Er,ky.imp fun r kr u W' e hw=>kr u W' ((e2.trans e3).trans e) hw⟩)⟩)
theorem pY{R:Rp ρ}{mf:τ×α->Res (List ρ)}(hm:AA RF m)(h:EV Er ta σ W (vw<|oOb Cl RF) mo)(ht:zg Er t σ W RA ma):EVo Er (fY Cl m (gH (wC (vw<|oOb Cl RF) RA) (ro R) mf) [] E ta t) σ W R (mo.bind fun x=>ma.bind fun a=>mf (x,a)):=fun W1 e1 Q q=>
 h W1 e1 _ ((ED q).imp fun x kx v W2 e2 hv=>by
  obtain⟨F,a,dx,fs,F1,e,_,_,ha,_,t1,_⟩:=id hv;refine⟨a,dx,fs,e,ha,hm _ _ _ _ t1,ht W2 (e1.trans e2) _ ((ED kx).imp fun y ky us W3 e3 hu=>⟨W3,(x,y),rfl,⟨v,us,by rw[FG],FK e3 hv,hu⟩,Er,ky.imp fun r kr p W' e hp o=>kr p W' ((e2.trans e3).trans e) (none_of (e2.trans e3).h hp) o⟩)⟩)
end
section
variable{R:Rf τ}[FrT R]{RA:Ra α}{RR:Rp ρ}{x:τ}{v:V}{ma:Res α}{mf:τ->α->Res (τ×ρ)}{Q:VK}
theorem Aa(hm:HasM R Cl m)(S:Sep W0 W cs)(E0:Ext W0 W)(hc:cs[k]? =some (tc R x v))(hi:σ[i]? =some (some v))(ha:pV Er t σ W RA ma)
  (q:(ma.bind fun a=>mf x a).OkE Er fun r=>∀u W',Ext W0 W'->Same W.G W'.G->Sep W0 W' (cs.set k<|tc R r.1 v)->RR W'.G r.2 u->Q u W'.H):fY Cl m (sS R RA RR mf) [] E (bf i) t σ W.H Q:=by
 obtain⟨Fs,s⟩:=id S;obtain⟨a,dx,fs,e,h1,h2⟩:=hm.at_<|s.el k _ hc;refine⟨v,hi,a,dx,fs,e,h1,h2,ha W (.refl _) _<|(ED q).imp fun b kb us W2 e2 hu=>?_⟩;obtain⟨W1,F,x1,t1,n1,up⟩:=(S.ext e2).call (E0.trans e2) hc;refine⟨W1,W2,F,x,v,b,us,rfl,by rw[FG],x1,n1,t1,hu,Er,kb.imp fun r kr u W' F' e' hs hF' t' hr=>?_⟩;obtain⟨z1,z2⟩:=up W' F' r.1 e' hF' t';exact kr u W' z1 (e2.g.trans hs) z2 hr
theorem oP(hm:HasM R Cl m)(S:Sep W0 W cs)(E0:Ext W0 W)(hc:cs[k]? =some (tc R x v))(hi:σ[i]? =some (some v))(ha:pV Er t σ W RA ma)
  (q:(ma.bind fun a=>mf x a).OkE Er fun r=>∀W',Same W.G W'.G->Ext W0 W'->Sep W0 W' (cs.set k<|tc R r.1 v)->D.nx σ W'.H):bq (fY Cl m (sS R RA RR mf) [] E (bf i) t) D σ W.H:=
 Aa (Q:=fun _ H=>D.nx σ H) hm S E0 hc hi ha (q.imp fun r kr u W' e hs S' _=>kr W' hs e S')
theorem pZ{r2:TS}(hm:HasM R Cl m)(S:Sep W0 W cs)(E0:Ext W0 W)(hc:cs[k]? =some (tc R x v))(hi:σ[i]? =some (some v))(ha:pV Er t σ W RA ma)
  (q:(ma.bind fun a=>mf x a).OkE Er fun r=>∀W',Same W.G W'.G->Ext W0 W'->Sep W0 W' (cs.set k<|tc R r.1 v)->r2 D σ W'.H):dF (bq<|fY Cl m (sS R RA RR mf) [] E (bf i) t) r2 D σ W.H:=
 oP (D:={D with nx:=r2 D}) hm S E0 hc hi ha q
end
end
section
variable{Er:Nat->Prop}{α β γ δ ε ζ ρ τ υ:Type}{ta te tp:TE}{t:TA}{σ:St}{W W0 W' W1 W2 Wi:Wd}{K:EH}{Cl:Addr}{f m:Str}{cs:List TC}{D:Ends}{i j k l:Nat}{r:TS}{F:FS}{E:XK}
def rg(C:Addr)(RF:Rfo τ)(RA:Raw α)(m:α->Res τ):Sp:=fun vs H Q _=>∃(W0 W:Wd)(a dx:Addr)(x:α)(us:List V),W.H=H/\vs=.ref a::us/\Ext W0 W/\W0.H a=none/\W0.H dx=none/\dx≠a/\W.G a=none/\W.G dx=none/\W.H a=some (.ins C dx [])/\W.H dx=some (.own a)/\RA W0 x us/\∃Er:Nat->Prop,(m x).OkE Er fun b=>∀W' F,Ext W0 W'->(∀q,F q->W0.H q=none)->oOb C RF W' F b (.ref a)->Q .non W'.H
theorem vU{RF:Rfo τ}{RA:Raw α}{ma:Res α}{mf:α->Res τ}(h:zg Er t σ W RA ma):yc Er (qt Cl (rg Cl RF RA mf) [] E t) σ W (oOb Cl RF) (ma.bind fun a=>mf a):=fun W1 e1 Q q=>
 h W1 e1 _ ((ED q).imp fun a ka us W3 e3 hu=>by
  intro p dx hp hd ne;have gd:=W3.gnone hd;have gp:=W3.gnone hp
  let W4:Wd:=(W3.mut dx (.own p) gd).mut p (.ins Cl dx []) gp
  have n4:(W3.mut dx (.own p) gd).H p=none:=by show cy W3.H dx _ p=none;rw[ao<|Gh ne];exact hp
  have E4:Ext W3 W4:=(NY _ hd).trans (NY (W:=W3.mut dx (.own p) gd) _ n4);have hp4:W4.H p=some (.ins Cl dx []):=aq;have hd4:W4.H dx=some (.own p):=by show cy (cy W3.H dx _) p _ dx=_;rw[ao ne,aq]
  exact⟨W3,W4,p,dx,a,us,rfl,by rw[FG],E4,hp,hd,ne,gp,gd,hp4,hd4,hu,Er,ka.imp fun b kb W5 F e5 hF t=>⟨rfl,kb (.ref p) W5 F (e3.trans e5) (fun q hq=>none_of e3.h (hF q hq)) t⟩⟩)
def oRaw(C a dx:Addr)(fs:List (Str×V)):Rf Unit:=fun W F _ v=>v=.ref a/\W.G a=none/\W.G dx=none/\W.H a=some (.ins C dx fs)/\W.H dx=some (.own a)/\dx≠a/\∀q,F q↔q=a\/q=dx
instance zkeep82{C a dx:Addr}{fs:List (Str×V)}:FrT (oRaw C a dx fs):=⟨fun⟨e,ga,gd,ha,hd,ne,hF⟩s k=>by
 have ka:=k a<|(hF a).mpr (.inl rfl);have kd:=k dx<|(hF dx).mpr (.inr rfl);exact⟨e,by rw[ka.2];exact ga,by rw[kd.2];exact gd,by rw[ka.1];exact ha,by rw[kd.1];exact hd,ne,hF⟩,fun⟨e,ga,gd,ha,hd,ne,hF⟩q hq=>by
 rcases (hF q).mp hq with rfl|rfl;·exact⟨ga,nn_of ha⟩
 ·exact⟨gd,nn_of hd⟩⟩
theorem vV{a dx:Addr}{fs:List (Str×V)}{R:Rf γ}[FrT R]{mm:Res γ}(c:Cls K Cl)(n:NoAttr K Cl f)(hl:fs.length<1000)(S:Sep W0 W (tc (oRaw Cl a dx fs) () (.ref a)::cs))(E0:Ext W0 W)(h:yc Er te σ W R mm)(q:mm.OkE Er fun b=>∀u W',Ext W0 W'->Same W.G W'.G->Sep W0 W' (tc (oRaw Cl a dx<|eE f u fs) () (.ref a)::(cs++[tc R b u]))->D.nx σ W'.H)(hi:σ[i]? =some (some<|.ref a):=by rfl):xo K (bf i) te f D σ W.H:=
 h W (.refl _) _ (q.imp fun b kb u W2 F1 e2 hF1 t1=>by
  have S2:=S.add E0 e2 hF1 t1;obtain⟨Fs,s⟩:=S2;obtain⟨_,ga,gd,ha,hd,ne,hF⟩:=(show oRaw Cl a dx fs W2 (Fs 0) () (.ref a)from s.el 0 _ rfl)
  have hFa:Fs 0 a:=(hF a).mpr (.inl rfl);have E2:=E0.trans e2;refine⟨.ref a,hi,a,Cl,dx,fs,rfl,ha,c,n,hl,kb u (W2.mut a (.ins Cl dx (eE f u fs)) ga) (E2.mut (s.nw 0 a hFa) ga) e2.g ?_⟩;exact s.put (i:=0) (F:=Fs 0) E2 (NQ (F:=Fs 0) hFa ga) (fun q hq=>.inl hq) (show oRaw Cl a dx (eE f u fs) _ (Fs 0) () (.ref a)from⟨rfl,ga,gd,aq,(ao ne).trans hd,ne,hF⟩) (by simp))
theorem lj{a dx:Addr}{fs:List (Str×V)}{R:Rf γ}[FrT R]{mm:Res γ}(c:Cls K Cl)(n:NoAttr K Cl f)(hl:fs.length<1000)(S:Sep W0 W (tc (oRaw Cl a dx fs) () (.ref a)::cs))(E0:Ext W0 W)(h:yc Er te σ W R mm)(q:mm.OkE Er fun b=>∀u W',Ext W0 W'->Same W.G W'.G->Sep W0 W' (tc (oRaw Cl a dx<|eE f u fs) () (.ref a)::(cs++[tc R b u]))->r D σ W'.H)(hi:σ[i]? =some (some<|.ref a):=by rfl):dF (xo K (bf i) te f) r D σ W.H:=vV (D:={D with nx:=r D}) c n hl S E0 h q hi
theorem Dc{a dx:Addr}{f1 f2 f3 f4:Str}{R1:Rf α}{R2:Rf β}{R3:Rf γ}{R4:Rf δ}[FrT R1][FrT R2][FrT R3][FrT R4]{x1:α}{x2:β}{x3:γ}{x4:δ}{u1 u2 u3 u4:V}(S:Sep W0 W [tc (oRaw Cl a dx [(f1,u1),(f2,u2),(f3,u3),(f4,u4)]) () (.ref a),tc R1 x1 u1,tc R2 x2 u2,tc R3 x3 u3,tc R4 x4 u4]):∃F,(∀q,F q->W0.H q=none)/\oOb Cl (oC f1 R1<|oC f2 R2<|oC f3 R3<|o1 f4 R4) W F (x1,x2,x3,x4) (.ref a):=by
 obtain⟨Fs,s⟩:=S;obtain⟨_,ga,gd,ha,hd,ne,hF⟩:=(show oRaw Cl a dx _ W (Fs 0) () (.ref a)from s.el 0 _ rfl)
 have hFa:Fs 0 a:=(hF a).mpr (.inl rfl);have hFd:Fs 0 dx:=(hF dx).mpr (.inr rfl);have d0:∀(j:Nat)q,Fs 0 q->Fs (j+1) q->False:=fun j q h1 h2=>by have:=s.dj 0 (j+1) q h1 h2;omega
 have dj:∀(i j:Nat)q,i≠j->Fs i q->Fs j q->False:=fun i j q h h1 h2=>h<|s.dj i j q h1 h2;refine⟨fun q=>(q=a\/q=dx)\/(Fs 1 q\/(Fs 2 q\/(Fs 3 q\/Fs 4 q))),fun q hq=>?_,a,dx,_,fun q=>Fs 1 q\/(Fs 2 q\/(Fs 3 q\/Fs 4 q)),rfl,ga,gd,ha,hd,⟨u1,_,Fs 1,fun q=>Fs 2 q\/(Fs 3 q\/Fs 4 q),rfl,s.el 1 _ rfl,⟨u2,_,Fs 2,fun q=>Fs 3 q\/Fs 4 q,rfl,s.el 2 _ rfl,⟨u3,_,Fs 3,Fs 4,rfl,s.el 3 _ rfl,⟨u4,rfl,s.el 4 _ rfl⟩,fun q=>dj 3 4 q (by decide),fun q=>Jy⟩,fun q h1 h2=>h2.elim (dj 2 3 q (by decide) h1) (dj 2 4 q (by decide) h1),fun q=>Jy⟩,fun q h1 h2=>h2.elim (dj 1 2 q (by decide) h1) fun h=>h.elim (dj 1 3 q (by decide) h1) (dj 1 4 q (by decide) h1),fun q=>Jy⟩,fun z=>?_,fun z=>?_,fun q=>Jy⟩
 ·rcases hq with(rfl | rfl) | h | h | h | h;·exact s.nw 0 _ hFa
  ·exact s.nw 0 _ hFd
  ·exact s.nw 1 _ h
  ·exact s.nw 2 _ h
  ·exact s.nw 3 _ h
  ·exact s.nw 4 _ h
 ·exact z.elim (d0 0 a hFa) fun z=>z.elim (d0 1 a hFa) fun z=>z.elim (d0 2 a hFa)<|d0 3 a hFa
 ·exact z.elim (d0 0 dx hFd) fun z=>z.elim (d0 1 dx hFd) fun z=>z.elim (d0 2 dx hFd)<|d0 3 dx hFd
theorem EV.trf{R:Rp α}{m:Res α}[Mono R](h:EV Er te σ W (sh R) m):yc Er te σ W (fz R) m:=fun W1 e1 Q q=>h W1 e1 Q<|q.imp fun a ka v W2 e2 hv=>ka v W2 (fun _=>False) e2 (fun q hq=>hq.elim) ⟨fun _ z=>z,hv⟩
def aL(R:Rp α):Ra α:=fun G a us=>∃v,us=[v]/\R G a v
instance zkeep83{R:Rp α}[Mono R]:MonoA (aL R):=⟨fun e⟨v,h1,h2⟩=>⟨v,h1,EG e h2⟩⟩
theorem ll{R:Rp α}{m:Res α}(h:EV Er te σ W (sh R) m):pV Er (ai te aO) σ W (aL R) m:=fun W1 e1 Q q=>h W1 e1 _<|q.imp fun a ka v W2 e2 hv=>ka [v] W2 e2 ⟨v,rfl,hv⟩
def tj(C:Addr)(ns:List Str):Sp:=fun vs H Q _=>∃(a dx:Addr)(us:List V),vs=.ref a::us/\us.length=ns.length/\H a=some (.ins C dx [])/\Q .non (cy H a<|.ins C dx<|ns.zip us)
def Cc(RA:Ra α)(RF:Rfl α)(ns:List Str):Prop:=∀G a us,RA G a us->us.length=ns.length/\RF G a (ns.zip us)
theorem Ab{R:Rp α}:Cc (aL R) (f1 f R) [f]:=fun G a us⟨v,h1,h2⟩=>by subst h1;exact⟨rfl,v,rfl,h2⟩
theorem iN{R:Rp α}{RA:Ra β}{RF:Rfl β}{ns:List Str}(h:Cc RA RF ns):Cc (aC R RA) (fC f R RF) (f::ns):=fun G a us⟨v,r,h1,h2,h3⟩=>by
 subst h1;obtain⟨h4,h5⟩:=h G a.2 r h3;exact⟨by simp[h4],v,_,rfl,h2,h5⟩
theorem lp{RA:Ra α}[MonoA RA]{RF:Rfl α}[MonoF RF]{ns:List Str}{ma:Res α}(l:Cc RA RF ns)(h:pV Er t σ W RA ma):EV Er (qt Cl (tj Cl ns) [] E t) σ W (sh<|isOb Cl RF) ma:=fun W1 e1 Q q=>
 h W1 e1 _ (q.imp fun a ka us W3 e3 hu=>by
  intro p dx hp hd ne;have gd:=W3.gnone hd;have gp:=W3.gnone hp;obtain⟨h4,h5⟩:=l _ _ _ hu;refine⟨p,dx,us,by rw[FG],h4,aq,rfl,?_⟩;rw[qo]
  let W4:Wd:=(W3.mut dx (.own p) gd)
  have n4:W4.H p=none:=by show cy W3.H dx _ p=none;rw[ao<|Gh ne];exact hp
  have E4:Ext W3 W4:=NY _ hd;have E5:Ext W4 (W4.new p (.ins Cl dx (ns.zip us))):=K1 _ n4;exact ka (.ref p) (W4.new p (.ins Cl dx (ns.zip us))) ((e3.trans E4).trans E5) ⟨p,dx,_,rfl,aq,MonoF.mono (E4.trans E5).g h5⟩)
end
section
variable{Er:Nat->Prop}{α β γ δ ε ρ τ υ:Type}{ta te tp:TE}{t:TA}{σ:St}{W W0 W' W1 W2 Wi:Wd}{K:EH}{Cl:Addr}{f m:Str}{cs:List TC}{D:Ends}{i j k l:Nat}{r:TS}{F:FS}{E:XK}
def isEi(R1:Rp α)(R2:Rp β):Rp (α ⊕ β):=fun G x v=>match x with| .inl a=>R1 G a v| .inr b=>R2 G b v
instance zkeep84{R1:Rp α}{R2:Rp β}[Mono R1][Mono R2]:Mono (isEi R1 R2):=⟨fun{G G' x v}e h=>by
 cases x with
 |inl a=>exact EG (R:=R1) e h
 |inr b=>exact EG (R:=R2) e h⟩
theorem q9{R1:Rp α}{R2:Rp β}{m:Res α}(h:EV Er te σ W (sh R1) m):EV Er te σ W (sh<|isEi R1 R2) (m.bind fun a=>.ok<|.inl a):=fun W1 e1 Q q=>h W1 e1 Q<|(ED q).imp fun a ka v W2 e2 hv=>ka v W2 e2 hv
theorem Ac{R1:Rp α}{R2:Rp β}{m:Res β}(h:EV Er te σ W (sh R2) m):EV Er te σ W (sh<|isEi R1 R2) (m.bind fun a=>.ok<|.inr a):=fun W1 e1 Q q=>h W1 e1 Q<|(ED q).imp fun a ka v W2 e2 hv=>ka v W2 e2 hv
theorem Ad{R1:Rp α}{R2:Rp β}{m:Res (α ⊕ β)}(h:EV Er te σ W (sh<|isEi R1 R2) m):EV Er te σ W (sh R1) (m.bind fun a=>fM a.getLeft?):=fun W1 e1 Q q=>h W1 e1 Q ((ED q).imp fun a ka v W2 e2 hv=>by
 cases a with
 |inl a=>exact ka v W2 e2 hv
 |inr b=>exact(ka:False).elim)
theorem vW{R1:Rp α}{R2:Rp β}{m:Res (α ⊕ β)}(h:EV Er te σ W (sh<|isEi R1 R2) m):EV Er te σ W (sh R2) (m.bind fun a=>fM a.getRight?):=fun W1 e1 Q q=>h W1 e1 Q ((ED q).imp fun a ka v W2 e2 hv=>by
 cases a with
 |inr a=>exact ka v W2 e2 hv
 |inl b=>exact(ka:False).elim)
def vX(K:EH)(R:Rp α):Prop:=∀G a v,R G a v->∃p xs,v=.ref p/\SqT K G p xs
theorem Ae{R1:Rp α}{R2:Rp β}{R3:Rp γ}{R4:Rp δ}:vX K (isT4 K R1 R2 R3 R4):=fun G a v⟨p,x,y,z,u,h0,h,_⟩=>⟨p,_,h0,h⟩
theorem vY{R2:Rp β}{m:Res (Tx ⊕ β)}(hT:vX K R2)(h:EV Er ta σ W (sh<|isEi isS R2) m):EV Er (fb (fun xs H Q=>∃x T t b,xs=[x,.ty T]/\TyOf K H x t/\Fw K t (.type T)=some b/\Q (.bl b) H)<|ai ta<|ai (tC<|.ty "str") aO) σ W (sh isB) (m.bind fun a=>.ok a.isLeft):=fun W1 e1 Q q=>
 h W1 e1 _ ((ED q).imp fun a ka x W2 e2 hx=>by
  cases a with
  |inl a=>
   cases (show x=.str (sOf a)from hx);exact⟨_,_,_,true,rfl,.str _,Bd _ _ _ rfl,ka _ W2 e2 rfl⟩
  |inr b=>
   obtain⟨p,xs,rfl,hq⟩:=hT _ _ _ (show R2 W2.G b x from hx);refine⟨_,_,_,false,rfl,?_,Bd "tuple" _ _ rfl,ka _ W2 e2 rfl⟩;exact .tup (Km W2.ok hq))
open Classical in
theorem Sep.call2{R1:Rf α}[FrT R1]{R2:Rf β}[FrT R2]{x1:α}{x2:β}{v1 v2:V}(s:Sep W0 W cs)(E:Ext W0 W)(h1:cs[k]? =some (tc R1 x1 v1))(h2:cs[l]? =some (tc R2 x2 v2))(hkl:k≠l):
  ∃W1,Ext W1 W/\Sep W1 W [tc R1 x1 v1,tc R2 x2 v2]/\∀W' b1 b2,Ext W1 W'->Sep W1 W' [tc R1 b1 v1,tc R2 b2 v2]->Ext W0 W'/\Sep W0 W' ((cs.set k<|tc R1 b1 v1).set l (tc R2 b2 v2)):=by
 obtain⟨Fs,s⟩:=s;have lv:∀q,(Fs k q\/Fs l q)->W.G q=none:=fun q hq=>hq.elim (fun z=>(s.lv z).1) fun z=>(s.lv z).1;have k1:k<cs.length:=(ER.mp h1).1;have k2:l<cs.length:=(ER.mp h2).1;have nF:∀p,W0.H p≠none->¬(Fs k p\/Fs l p):=fun p hp z=>z.elim (fun z=>hp<|s.nw k p z) fun z=>hp<|s.nw l p z
 let W1:Wd:=W.sub (fun q=>Fs k q\/Fs l q) lv
 have E1:Ext W0 W1:=⟨E.g,fun a u z=>by
  show(W.sub _ lv).H a=_;rw[Lv (nF a (nn_of z))];exact E.h _ _ z,fun p hp=>E.k p hp⟩
 have key:∀(j:Nat)q,(if j=0 then Fs k else if j=1 then Fs l else fun _=>False) q->(j=0/\Fs k q)\/(j=1/\Fs l q):=fun j q h=>by
  by_cases z:j=0;·exact .inl ⟨z,by simpa [if_pos z] using h⟩
  ·rw[if_neg z]at h;by_cases y:j=1;·exact .inr ⟨y,by simpa [if_pos y] using h⟩
   ·simp[if_neg y]at h
 refine⟨W1,Wd.sub_ext,⟨fun j=>if j=0 then Fs k else if j=1 then Fs l else fun _=>False,fun j c hc=>?_,fun j q hq=>?_,fun a b q ha hb=>?_,fun j q hq=>?_⟩,fun W' b1 b2 e S'=>⟨E1.trans e,?_⟩⟩
 ·match j,hc with
  |0,hc=>cases hc;exact s.el k _ h1
  |1,hc=>cases hc;exact s.el l _ h2
 ·rcases key j q hq with⟨z,_⟩|⟨z,_⟩<;>simp[z]
 ·rcases key a q ha with⟨z1,y1⟩ | ⟨z1,y1⟩ <;> rcases key b q hb with⟨z2,y2⟩ | ⟨z2,y2⟩
  ·omega
  ·exact(hkl<|s.dj k l q y1 y2).elim
  ·exact(hkl<|s.dj k l q y2 y1).elim
  ·omega
 ·exact Wd.sub_in ((key j q hq).imp (·.2) (·.2))
 ·obtain⟨Gs,g⟩:=S';have out:∀j q,Gs j q->(Fs k q\/Fs l q)\/W.H q=none:=fun j q hq=>by
   by_cases z:Fs k q\/Fs l q;·exact .inl z
   ·exact .inr (by rw[<-Lv (h:=lv) z];exact g.nw j q hq)
  have keep:∀j q,j≠k->j≠l->Fs j q->¬(Fs k q\/Fs l q):=fun j q n1 n2 h z=>z.elim (fun z=>n1<|s.dj j k q h z) fun z=>n2<|s.dj j l q h z;have key2:∀(j:Nat)q,(if j=k then Gs 0 else if j=l then Gs 1 else Fs j) q->(j=k/\Gs 0 q)\/(j=l/\j≠k/\Gs 1 q)\/(j≠k/\j≠l/\Fs j q):=fun j q h=>by
   by_cases z:j=k;·exact .inl ⟨z,by simpa [if_pos z] using h⟩
   ·rw[if_neg z]at h;by_cases y:j=l;·exact .inr (.inl ⟨y,z,by simpa [if_pos y] using h⟩)
    ·exact .inr (.inr ⟨z,y,by simpa [if_neg y] using h⟩)
  refine⟨fun j=>if j=k then Gs 0 else if j=l then Gs 1 else Fs j,fun j c hc=>?_,fun j q hq=>?_,fun a b q ha hb=>?_,fun j q hq=>?_⟩
  ·rw[Hz]at hc;by_cases y:l=j
   ·subst y;rw[if_pos rfl,Hm,if_pos k2]at hc;cases hc;simp only[if_neg (Gh hkl),if_true];exact g.el 1 _ rfl
   ·rw[if_neg y,Hz]at hc;by_cases z:k=j
    ·subst z;rw[if_pos rfl,if_pos k1]at hc;cases hc;simp only[if_true];exact g.el 0 _ rfl
    ·rw[if_neg z]at hc;simp only[if_neg (Gh z),if_neg<|Gh y];refine @Nj _ _ c.i _ _ _ _ _ (s.el j c hc) e.g fun q hq=>?_;have nk:=keep j q (Gh z) (Gh y) hq;have hn:(W.sub (fun q=>Fs k q\/Fs l q) lv).H q≠none:=by rw[Lv nk];exact(s.lv hq).2
     exact⟨by rw[e.keepH hn];show(W.sub _ lv).H q=_;rw[Lv nk],e.k q hn⟩
  ·rw[Hm,Hm];rcases key2 j q hq with⟨z,_⟩|⟨z,_,_⟩|⟨_,_,z⟩
   ·omega
   ·omega
   ·exact s.rng j q z
  ·rcases key2 a q ha with⟨z1,y1⟩ | ⟨z1,w1,y1⟩ | ⟨z1,w1,y1⟩ <;> rcases key2 b q hb with⟨z2,y2⟩ | ⟨z2,w2,y2⟩ | ⟨z2,w2,y2⟩
   ·omega
   ·have:=g.dj 0 1 q y1 y2;omega
   ·exact((out 0 q y1).elim (keep b q z2 w2 y2) fun y=>(s.lv y2).2 y).elim
   ·have:=g.dj 1 0 q y1 y2;omega
   ·omega
   ·exact((out 1 q y1).elim (keep b q z2 w2 y2) fun y=>(s.lv y2).2 y).elim
   ·exact((out 0 q y2).elim (keep a q z1 w1 y1) fun y=>(s.lv y1).2 y).elim
   ·exact((out 1 q y2).elim (keep a q z1 w1 y1) fun y=>(s.lv y1).2 y).elim
   ·exact s.dj a b q y1 y2
  ·rcases key2 j q hq with⟨_,z⟩ | ⟨_,_,z⟩ | ⟨_,_,z⟩
   ·exact none_of E1.h<|g.nw 0 q z
   ·exact none_of E1.h<|g.nw 1 q z
   ·exact s.nw j q z
def Bu(R1:Rf τ)[FrT R1](R2:Rf υ)[FrT R2](RA:Ra α)(RR:Rp ρ)(m:τ->υ->α->Res ((τ×υ)×ρ)):Sp:=fun vs H Q _=>∃(W0 W:Wd)(x1:τ)(x2:υ)(v1 v2:V)(a:α)(us:List V),W.H=H/\vs=v1::v2::us/\Ext W0 W/\Sep W0 W [tc R1 x1 v1,tc R2 x2 v2]/\RA W.G a us/\∃Er:Nat->Prop,(m x1 x2 a).OkE Er fun r=>∀u W',Ext W0 W'->Same W.G W'.G->Sep W0 W' [tc R1 r.1.1 v1,tc R2 r.1.2 v2]->RR W'.G r.2 u->Q u W'.H
theorem yn{R1:Rf τ}[FrT R1]{R2:Rf υ}[FrT R2]{RA:Ra α}{RR:Rp ρ}{x1:τ}{x2:υ}{v1 v2:V}{ma:Res α}{mf:τ->υ->α->Res ((τ×υ)×ρ)}{i1 i2:Nat}{σ':V->St}(S:Sep W0 W cs)(E0:Ext W0 W)(h1:cs[k]? =some (tc R1 x1 v1))(h2:cs[l]? =some (tc R2 x2 v2))(hkl:k≠l)(hi1:σ[i1]? =some (some v1))(hi2:σ[i2]? =some (some v2))(ha:pV Er t σ W RA ma)
  (q:(ma.bind fun a=>mf x1 x2 a).OkE Er fun r=>∀u W',Ext W0 W'->Same W.G W'.G->Sep W0 W' ((cs.set k<|tc R1 r.1.1 v1).set l (tc R2 r.1.2 v2))->RR W'.G r.2 u->D.nx (σ' u) W'.H) (hσ:∀u,σ.set j (some u)=σ' u:=by intro _;rfl):bN (aR (Bu R1 R2 RA RR mf) [] E<|ai (bf i1)<|ai (bf i2) t) (aP j) D σ W.H:=by
 refine⟨v1,hi1,v2,hi2,ha W (.refl _) _<|(ED q).imp fun b kb us W2 e2 hu=>?_⟩;obtain⟨W1,z1,z2,up⟩:=(S.ext e2).call2 (E0.trans e2) h1 h2 hkl;refine⟨W1,W2,x1,x2,v1,v2,b,us,rfl,by simp,z1,z2,hu,Er,kb.imp fun r kr u W' e' hs S' hr=>?_⟩;obtain⟨y1,y2⟩:=up W' r.1.1 r.1.2 e' S';have:=kr u W' y1 (e2.g.trans hs) y2 hr;rw[<-hσ]at this;exact this
theorem tm{r2:TS}{R1:Rf τ}[FrT R1]{R2:Rf υ}[FrT R2]{RA:Ra α}{RR:Rp ρ}{x1:τ}{x2:υ}{v1 v2:V}{ma:Res α}{mf:τ->υ->α->Res ((τ×υ)×ρ)}{i1 i2:Nat}{σ':V->St}(S:Sep W0 W cs)(E0:Ext W0 W)(h1:cs[k]? =some (tc R1 x1 v1))(h2:cs[l]? =some (tc R2 x2 v2))(hkl:k≠l)(hi1:σ[i1]? =some (some v1))(hi2:σ[i2]? =some (some v2))(ha:pV Er t σ W RA ma)
  (q:(ma.bind fun a=>mf x1 x2 a).OkE Er fun r=>∀u W',Ext W0 W'->Same W.G W'.G->Sep W0 W' ((cs.set k<|tc R1 r.1.1 v1).set l (tc R2 r.1.2 v2))->RR W'.G r.2 u->r2 D (σ' u) W'.H) (hσ:∀u,σ.set j (some u)=σ' u:=by intro _;rfl):dF (bN (aR (Bu R1 R2 RA RR mf) [] E<|ai (bf i1)<|ai (bf i2) t)<|aP j) r2 D σ W.H:=yn (D:={D with nx:=r2 D}) S E0 h1 h2 hkl hi1 hi2 ha q hσ
abbrev Bv(W0 Wi:Wd)(R1:Rf τ)[FrT R1](R2:Rf υ)[FrT R2](RR:Rp ρ)(v1 v2:V)(Q:VK):(τ×υ)×ρ->Prop:=fun r=>∀u W',Ext W0 W'->Same Wi.G W'.G->Sep W0 W' [tc R1 r.1.1 v1,tc R2 r.1.2 v2]->RR W'.G r.2 u->Q u W'.H
theorem fT{R1:Rf τ}[FrT R1]{R2:Rf υ}[FrT R2]{RR:Rp ρ}{x1:τ}{x2:υ}{v1 v2:V}{mm:Res ρ}(S:Sep W0 W [tc R1 x1 v1,tc R2 x2 v2])(E:Ext W0 W)(hS:Same Wi.G W.G)(h:EV Er te σ W (sh RR) mm)(q:(mm.bind fun r=>.ok ((x1,x2),r)).OkE Er (Bv W0 Wi R1 R2 RR v1 v2 D.rt)):cP te D σ W.H:=
 h W (.refl _) _ ((ED q).imp fun a ka u W2 e2 hu=>ka u W2 (E.trans e2) (hS.trans e2.g) (S.ext e2) hu)
end
end Wb
open Wb.EV renaming pkD->M5
namespace Mi
def tu(l:List Int):Int:=l.foldl (fun a b=>if b<a then b else a)<|l.headD 0
def vZ(l:List Int):Res Int:=fc (0<l.length)<|tu l
theorem jD:∀(l:List Int)(z:Int),(∀a∈l,l.foldl (fun a b=>if b<a then b else a) z<=a)/\l.foldl (fun a b=>if b<a then b else a) z<=z/\(l.foldl (fun a b=>if b<a then b else a) z=z\/l.foldl (fun a b=>if b<a then b else a) z∈l)
 | [],z=>⟨fun a h=>(nomatch h),Ma _,.inl rfl⟩
 |b::l,z=>by
  obtain⟨h1,h2,h3⟩:=jD l (if b<z then b else z);simp only[Iw];have hb:(if b<z then b else z)<=b/\(if b<z then b else z)<=z:=by split<;>omega
  refine⟨fun a ha=>?_,by omega,?_⟩
  ·rcases F9.mp ha with rfl | ha;·omega
   ·exact h1 a ha
  ·rcases h3 with h3 | h3
   ·rw[h3];by_cases c:b<z;·rw[if_pos c];exact .inr<|EZ ..
    ·rw[if_neg c];exact .inl rfl
   ·exact .inr<|F5 _ h3
theorem rh{l:List Int}{a:Int}(h:a∈l):tu l<=a:=(jD l _).1 a h
theorem oQ{l:List Int}(h:0<l.length):tu l∈l:=by
 rcases (jD l<|l.headD 0).2.2 with e|e
 ·unfold tu;rw[e];cases l with
  |nil=>cases h
  |cons x r=>exact EZ ..
 ·exact e
end Mi
namespace L2
open PySem PySem.Spec PyProof.Rows
theorem yo{X:Cx}:zC X .Sub (Dh fun i j=>i-j):=zE
theorem tD{X:Cx}{K:EH}(hc:X.calm=true)(h:X.K=K):eQ X (.builtin "min") (fun xs H Q=>∃(p:Addr)(ns:List Int),xs=[.ref p]/\SqL K H p (ns.map Ir)/\0<ns.length/\∀M,M∈ns->(∀a∈ns,M<=a)->Q (.int M) H):=by
 subst h;intro pins s σ H xs us Q I r h;obtain⟨p,ns,rfl,hq,hne,q⟩:=h;obtain⟨u,rfl,rx⟩:=gL r;cases rx;obtain⟨its,r',pl,hz⟩:=I.list hq;have hi:=kI r';obtain⟨xs,e⟩:=hi.allInts.items;have hns:ns=xs.toList.map (·.1):=by
  rw[<-hi.numsOf,<-N3,<-e]
 have hsz:0<xs.size:=by
  have h3:=hne;rw[hns,Fz,Gr]at h3;exact h3
 have hl:s.heap.IsList p (intItems xs):=e▸pl.isList;refine min_intList (I.ok.hd hc) hl hsz fun v h' tk hv hk=>?_;obtain⟨t,rfl⟩:=intItems_at hv;obtain⟨h1,h2⟩:=argBest_lt (numAt xs)<|xs.size-1;refine⟨.int _,H,I.kept hk,⟨_,rfl⟩,q _ ?_ fun a ha=>?_⟩;·rw[hns,Mv];exact getD_mem (by rw[Fz,Gr];omega)
 ·rw[hns]at ha;obtain⟨j,hj,rfl⟩:=mem_getD ha;rw[Fz,Gr]at hj;rw[<-Mv];exact h2 j (by omega)
end L2
namespace Wb
open PySem L2 Mi
theorem Af{Er:Nat->Prop}{ta:TE}{σ:St}{W:Wd}{K:EH}{ma:Res (List Int)}(ha:EV Er ta σ W (pk isI) ma):EV Er (fb (fun xs H Q=>∃(p:Addr)(ns:List Int),xs=[.ref p]/\SqL K H p (ns.map Ir)/\0<ns.length/\∀M,M∈ns->(∀a∈ns,M<=a)->Q (.int M) H)<|ai ta aO) σ W (sh isI) (ma.bind fun a=>vZ a):=fun W1 e1 Q k=>
 ha W1 e1 _ ((ED k).imp fun a ka x W2 e2 hx=>by
  obtain⟨p,vs,rfl,h1,h2⟩:=hx;obtain⟨h3,h4⟩:=aU ka;refine⟨p,a,rfl,GR (by rw[h1,h2.ints]),h3,fun M hM hb=>?_⟩;have e:M=tu a:=Int.le_antisymm (hb _ (oQ h3)) (rh hM);rw[e];exact h4 _ W2 e2 rfl)
section
variable{Er:Nat->Prop}{α β γ ρ τ:Type}{t:TA}{σ:St}{W W0 W' Wi:Wd}{K:EH}{Cl:Addr}{f m:Str}{cs:List TC}{D:Ends}{i j k:Nat}{E:XK}
def FLe(RF:Rfo α)(n:Nat):Prop:=∀W F a fs,RF W F a fs->fs.length=n
theorem Dd{R:Rf α}:FLe (o1 f R) 1:=fun W F a fs⟨v,h,_⟩=>by rw[h];rfl
theorem Ag{R:Rf α}{RF:Rfo β}{n:Nat}(g:FLe RF n):FLe (oC f R RF) (n+1):=fun W F a fs⟨v,r,F1,F2,h1,h2,h3,_⟩=>by rw[h1,FV,g _ _ _ _ h3]
theorem FLe.lt{RF:Rfo α}{n:Nat}(g:FLe RF n)(h:n<1000:=by decide):Bt RF:=fun W F a fs z=>by rw[g _ _ _ _ z];exact h
theorem ir{g:Str}{v x:V}{r:List (Str×V)}(h:g≠f):eE f v ((g,x)::r)=(g,x)::eE f v r:=if_neg h
theorem ja{v:V}:eE f v []=[(f,v)]:=rfl
theorem jb{R:Rf τ}[FrT R]{RR:Rp ρ}{u:ρ->Dat}{RA:Ra α}{x:τ}{v:V}{ma:Res α}{mf:τ->α->Res (τ×ρ)}{csx:List Addr}{σ':V->St}(hu:oA K RR u)(hm:HasM R Cl m)(S:Sep W0 W cs)(E0:Ext W0 W)(hc:cs[k]? =some (tc R x v))(hi:σ[i]? =some (some v))(ha:pV Er t σ W RA ma)(hE:Esc Er csx E W)(q:(ma.bind fun a=>(mf x a).bind fun r=>.ok (r.1,u r.2)).OkE Er fun r=>∀w W',Ext W0 W'->Same W.G W'.G->Sep W0 W' (cs.set k<|tc R r.1 v)->isU K W'.G r.2 w->D.nx (σ' w) W'.H)(hσ:∀u,σ.set j (some u)=σ' u:=by intro _;rfl):bN (fY Cl m (r6 R RA csx RR mf) [] E (bf i) t) (aP j) D σ W.H:=
 Bl (Q:=fun u H=>D.nx (σ.set j<|some u) H) hm S E0 hc hi ha hE (by
  cases ma with
  |ok a=>
   show(mf x a).OkE Er _;have q:((mf x a).bind fun r=>EK (r.1,u r.2)).OkE Er _:=q;refine(ED q).imp fun r kr w W' e' hs S' hr=>?_;have:=kr w W' e' hs S'<|hu _ _ _ hr;rw[<-hσ]at this;exact this
  |err j=>exact q
  |stuck=>exact q)
end
section
variable{X:Cx}{C:Addr}{m:Str}{ps:List Str}{k:Nat}{sp:Sp}{E:XK}{pos apos:Pos}{o:Expr}{ta:TE}
theorem mM{pl:Sem Bool}(h:CalM X.prog X.w X.K X.mg X.base (CXR X.prog X.w) C m ps k sp)(hx:fg (CXR X.prog X.w) X E)(hr:Room k X.A)(he:PE X o ta)
  (ht:eval (.Call (.Attribute o m apos) [] [] pos) X.env=(do
   let ov <-eval o X.env
   standAt apos.atName
   let (f,first) <-holding [ov] (getMethod ov m pl)
   callWith pos f first (backTo pos (starEach [] X.env)) (backToKw pos (keywordEach [] X.env))):=by rfl):
  PE X (.Call (.Attribute o m apos) [] [] pos) (fY C m sp [] E ta aO):=by
 obtain⟨f,fd,F,M,c,b⟩:=h.ex;exact nU he c M F hr b .nil hx ht
end
theorem aY{X:Cx}{K:EH}{e:Expr}{f:Str}{pos:Pos}{ta:TE}(h:X.K=K)(he:PE X e ta)(hb:attributeBase e f X.env (eval e X.env)=eval e X.env):PE X (.Attribute e f pos) (uh K ta f):=h▸zD he hb
section
variable{Er:Nat->Prop}{α β:Type}{t:TE}{σ:St}{W:Wd}{K:EH}
def DE(J:It)(W:Wd)(R:Rp α)(xs:List α):Prop:=∀W1:Wd,Ext W W1->(∀(i:Nat)(a:α),xs[i]? =some a->J.go i W1.H/\∀x H',J.yld i W1.H x H'->∃W2:Wd,W2.H=H'/\Ext W1 W2/\R W2.G a x)/\J.stop xs.length W1.H
def De(Er:Nat->Prop)(wi:TI)(σ:St)(W:Wd)(R:Rp α)(m:Res (List α)):Prop:=∀W1,Ext W W1->∀P:It->Hp->Prop,m.OkE Er (fun xs=>∀J W2,Ext W1 W2->DE J W2 R xs->P J W2.H)->wi σ W1.H P
theorem lq{R:Rp α}[Mono R]{m:Res (List α)}(h:EV Er t σ W (pk R) m):De Er (nP K t) σ W R m:=fun W1 e1 P k=>
 h W1 e1 _ (k.imp fun xs kx v W2 e2 hv=>by
  obtain⟨p,vs,rfl,h1,h2⟩:=hv;refine⟨p,rfl,⟨vs,GR h1⟩,kx _ W2 e2 fun W3 e3=>⟨fun i a ha=>?_,vs,GR (e3.h _ _ h1),by rw[h2.1];exact Fb _⟩⟩;obtain⟨x,hx,hr⟩:=h2.get ha;refine⟨⟨vs,x,GR (e3.h _ _ h1),hx⟩,fun y H'⟨z1,z2⟩=>⟨W3,z1.symm,.refl _,?_⟩⟩;have:=z2 vs (GR (e3.h _ _ h1));rw[hx]at this;cases this;exact EG e3.g hr)
theorem w4{cap:List (Option Nat)}{wi:TI}{g:TG}{te:TE}{R:Rp α}{R':Rp β}[Mono R']{m:Res (List α)}{f:α->Res β}(hi:De Er wi σ W R m)
  (hb:∀(W1:Wd)(a:α)(v:V),Ext W W1->R W1.G a v->∀Q:VK,(f a).OkE Er (fun b=>∀u W2,Ext W1 W2->R' W2.G b u->Q u W2.H)->g v (bz cap σ) W1.H fun σ2 H2=>Keep (bz cap σ) σ2/\te σ2 H2 Q):
  EVo Er (kP cap wi g zL te) σ W R' (m.bind fun xs=>bI xs f):=fun W1 e1 Q k=>by
 refine hi W1 e1 _<|(ED k).imp fun xs kx J W2 e2 hy=>?_;obtain⟨hl,kx⟩:=aU<|ED kx;refine⟨fun i n ys H=>n=xs.length-i/\i<=xs.length/\ys.length<=i/\∃(W3:Wd)(bs:List β),W3.H=H/\Ext W2 W3/\LR R' W3.G bs ys/\(jt f<|xs.drop i).OkE Er (fun r=>∀p W4,Ext W1 W4->W1.H p=none->Ow R' W4 p (bs++r)->Q (.ref p) W4.H),⟨xs.length,by simp,by simp,by simp,W2,[],rfl,.refl _,.nil,?_⟩,?_⟩;·simpa using kx
 ·rintro i n ys H ⟨rfl,hi1,hyl,W3,bs,rfl,e3,lr,q⟩;refine⟨by rw[Gi];unfold Mi.cap at hl;omega,?_⟩;by_cases hlt:i<xs.length
  ·obtain⟨a,ha⟩:∃a,xs[i]? =some a:=⟨xs[i],by simp[hlt]⟩
   obtain⟨h1,h2⟩:=(hy W3 e3).1 i a ha;refine .inr ⟨h1,fun ys' H'=>ys'.length<=i+1/\∃(W3:Wd)(bs:List β),W3.H=H'/\Ext W2 W3/\LR R' W3.G bs ys'/\(jt f<|xs.drop<|i+1).OkE Er (fun r=>∀p W4,Ext W1 W4->W1.H p=none->Ow R' W4 p (bs++r)->Q (.ref p) W4.H),fun ys' H'⟨z1,z2⟩=>⟨xs.length-(i+1),by omega,rfl,hlt,z1,z2⟩,fun x H' hx=>?_⟩;obtain⟨W4,rfl,e4,rx⟩:=h2 x H' hx;rw[mr ha]at q;have:=hb W4 a x (e1.trans<|(e2.trans e3).trans e4) rx (fun y H4=>(ys++[y]).length<=i+1/\∃(W3:Wd)(bs:List β),W3.H=H4/\Ext W2 W3/\LR R' W3.G bs (ys++[y])/\(jt f<|xs.drop<|i+1).OkE Er (fun r=>∀p W4,Ext W1 W4->W1.H p=none->Ow R' W4 p (bs++r)->Q (.ref p) W4.H))
    ((ED q).imp fun b kb u W5 e5 hu=>⟨by simp;exact hyl,W5,bs++[b],rfl,(e3.trans e4).trans e5,(lr.same (e4.trans e5).g).snoc hu,(ED kb).imp fun r kr=>by rw[Hj];exact kr⟩)
   exact this
  ·have e:i=xs.length:=by omega
   subst e;rw[HL]at q;refine .inl ⟨(hy W3 e3).2,fun D hD=>?_⟩;have e13:=e2.trans e3;have:=q D (W3.mut D (.lst ys)<|W3.gnone hD) (e13.trans<|.own _ hD) (none_of e13.h hD) ⟨W3.gnone hD,ys,aq,by rw[FG];exact lr⟩;exact this
theorem mO{cap:List (Option Nat)}{wi:TI}{g:TG}{tf:TT}{te:TE}{R:Rp α}{R':Rp β}[Mono R']{m:Res (List α)}{f:α->Res (Option β)}(hi:De Er wi σ W R m)
    (hb:∀(W1:Wd)(a:α)(v:V),Ext W W1->R W1.G a v->∀Q:Option V->Hp->Prop,(f a).OkE Er (fun b=>∀u W2,Ext W1 W2->(match b,u with|some b,some u=>R' W2.G b u|none,none=>True|_,_=>False)->Q u W2.H)->g v (bz cap σ) W1.H fun σ2 H2=>Keep (bz cap σ) σ2/\tf σ2 H2 fun b H3=>if b=true then te σ2 H3 (fun y H4=>Q (some y) H4)else Q none H3):
    EVo Er (kP cap wi g tf te) σ W R' (m.bind fun xs=>iE xs f):=fun W1 e1 Q k=>by
  refine hi W1 e1 _<|(ED k).imp fun xs kx J W2 e2 hy=>?_;obtain⟨hl,kx⟩:=aU<|ED kx;refine⟨fun i n ys H=>n=xs.length-i/\i<=xs.length/\ys.length<=i/\∃(W3:Wd)(bs:List β),W3.H=H/\Ext W2 W3/\LR R' W3.G bs ys/\(gA f<|xs.drop i).OkE Er (fun r=>∀p W4,Ext W1 W4->W1.H p=none->Ow R' W4 p (bs++r)->Q (.ref p) W4.H),⟨xs.length,by simp,by simp,by simp,W2,[],rfl,.refl _,.nil,?_⟩,?_⟩;·simpa using kx
  · rintro i n ys H ⟨rfl,hi1,hyl,W3,bs,rfl,e3,lr,q⟩;refine⟨by rw[Gi];unfold Mi.cap at hl;omega,?_⟩;by_cases hlt:i<xs.length
    · obtain⟨a,ha⟩:∃a,xs[i]? =some a:=⟨xs[i],by simp[hlt]⟩
      obtain⟨h1,h2⟩:=(hy W3 e3).1 i a ha;refine .inr ⟨h1,fun ys' H'=>ys'.length<=i+1/\∃(W3:Wd)(bs:List β),W3.H=H'/\Ext W2 W3/\LR R' W3.G bs ys'/\(gA f<|xs.drop<|i+1).OkE Er (fun r=>∀p W4,Ext W1 W4->W1.H p=none->Ow R' W4 p (bs++r)->Q (.ref p) W4.H),fun ys' H'⟨z1,z2⟩=>⟨xs.length-(i+1),by omega,rfl,hlt,z1,z2⟩,fun x H' hx=>?_⟩;obtain⟨W4,rfl,e4,rx⟩:=h2 x H' hx;rw[l6 ha]at q
      have:=hb W4 a x (e1.trans<|(e2.trans e3).trans e4) rx (fun y H4=>(match y with|some y=>ys++[y]|none=>ys).length<=i+1/\∃(W3:Wd)(bs:List β),W3.H=H4/\Ext W2 W3/\LR R' W3.G bs (match y with|some y=>ys++[y]|none=>ys)/\(gA f<|xs.drop<|i+1).OkE Er (fun r=>∀p W4,Ext W1 W4->W1.H p=none->Ow R' W4 p (bs++r)->Q (.ref p) W4.H))
        ((ED q).imp fun b kb u W5 e5 hu=>by
          match b,u,hu,kb with
          |some b,some u,hu,kb=>exact⟨by simp;exact hyl,W5,bs++[b],rfl,(e3.trans e4).trans e5,(lr.same (e4.trans e5).g).snoc hu,(ED kb).imp fun r kr=>by rw[Hj];exact kr⟩
          |none,none,hu,kb=>exact⟨by show ys.length<=i+1;omega,W5,bs,rfl,(e3.trans e4).trans e5,lr.same (e4.trans e5).g,(ED kb).imp fun r kr=>kr⟩)
      exact this
    · have e:i=xs.length:=by omega
      subst e;rw[HL]at q;refine .inl ⟨(hy W3 e3).2,fun D hD=>?_⟩;have e13:=e2.trans e3;have:=q D (W3.mut D (.lst ys)<|W3.gnone hD) (e13.trans<|.own _ hD) (none_of e13.h hD) ⟨W3.gnone hD,ys,aq,by rw[FG];exact lr⟩;exact this
end
end Wb
namespace Mi
noncomputable section
abbrev dv:Type:=List<|Tx×Int
abbrev eM:=Dat×(List Cd)×(List Int)×(List Int)×dv×(Option<|List Pl)
abbrev Z02:=Int×eM×(List eM)×(List eM)
@[irreducible]noncomputable def Ce(Z0u:List Int)(l_k:Int):Res Int:=if(decide<|l_k<(Z0u.length:Int))then gz Z0u l_k else(oj ((l_k*48271)+(11:Int))<|(Z0u.length:Int)+(7:Int)).bind fun y8=>EK<|y8%1000003
def iu(Z0u:List Int)(l_k:Int):Res Int:=Ce Z0u l_k
@[irreducible]noncomputable def AB(Z04:Int)(Z2k:Int)(a19:Int)(s20:(Int×Int×(List Int))):Res (Int×Int×(List Int)):=((if(decide<|(1000000000000000000:Int)<=dX Z04)then EK (decide<|(0:Int)<s20.2.1)else EK false).bind fun y45=>(if y45 then((lE s20.2.1 Z2k).bind fun y56=>en s20.2.2 y56).bind fun y55=>(qH s20.2.1 Z2k).bind fun y59=>EK (y59,y55)else((((oj ((((s20.1*48271)+(7919:Int))+a19)%2147483647)<|(((s20.1*48271)+(7919:Int))+a19)%2147483647).bind fun y63=>EK<|y63%1000003).bind fun y64=>lE y64 Z2k).bind fun y69=>en s20.2.2 y69).bind fun y68=>EK (s20.2.1,y68):Res (Int×(List Int)))).bind fun s70=>EK (((((s20.1*48271)+(7919:Int))+a19)%2147483647),s70.1,s70.2)
@[irreducible]noncomputable def Cf(Z04:Int)(Z1M:Int)(Z2k:Int):Res (List Int):=((gS Z1M).bind fun y78=>cj (AB Z04 Z2k) y78 (((dX Z04)%2147483647),dX Z04,([]:List Int))).bind fun s79=>EK s79.2.2
def lu(Z04:Int)(Z1M:Int)(Z2k:Int):Res (List Int):=Cf Z04 Z1M Z2k
@[irreducible]noncomputable def AD(y3:Int)(y8:List Int)(a15:Int)(s16:Tx):Res Tx:=(((((gz y8 (4:Int)).bind fun y39=>((lE a15 y3).bind fun y38=>EK<|y38*7).bind fun y40=>EK<|y39+y40).bind fun y41=>EK<|y41%26).bind fun y42=>iJ ([97,98,99,100,101,102,103,104,105,106,107,108,109,110,111,112,113,114,115,116,117,118,119,120,121,122]:Tx) y42).bind fun y43=>ee s16 y43).bind fun y44=>EK y44
@[irreducible]noncomputable def Cg(lu:Int->Int->Int->Res (List Int))(Z04:Int):Res Tx:=(gz [(1:Int),(2:Int),(3:Int),(4:Int),(26:Int)]<|Z04%5).bind fun y3=>(lu (Z04/5) (5:Int) (26:Int)).bind fun y8=>(cj (AD y3 y8) (cut y8 none<|some (4:Int)) ([]:Tx)).bind fun s47=>EK s47
def yp(Z04:Int):Res Tx:=Cg lu Z04
@[irreducible]noncomputable def Ci(yp:Int->Res Tx)(Z04:Int):Res Cd:=(iJ ([83,90]:Tx)<|Z04%2).bind fun y1=>(yp<|Z04/8).bind fun y2=>EK (y1,y2,((Z04/2)%4))
def wX(Z04:Int):Res Cd:=Ci yp Z04
@[irreducible]noncomputable def Cj(wX:Int->Res Cd)(iu:List Int->Int->Res Int)(Z0u:List Int)(Z2u:Int)(Z18:Int):Res (List Cd):=(gS Z18).bind fun y12=>bI y12<|fun(a1:Int)=>(iu Z0u<|Z2u+a1).bind fun y9=>wX y9
def tV(Z0u:List Int)(Z2u:Int)(Z18:Int):Res (List Cd):=Cj wX iu Z0u Z2u Z18
@[irreducible]noncomputable def Ck(Z04:Int):Res Int:=if(decide<|(Z04%3)=(0:Int))then EK ((999999999:Int)-((Z04/3)%2))else EK ((Z04/3)%9)
def yq(Z04:Int):Res Int:=Ck Z04
@[irreducible]noncomputable def AE(Z04:Int)(y9:List Int)(a40:Tx)(s41:(Int×dv)):Res (Int×dv):=(((gz y9 s41.1).bind fun y65=>EK<|y65%23).bind fun y66=>EK<|decide<|y66=(5:Int)).bind fun y67=>((if(!(look s41.2 a40).isSome)then EK (!y67)else EK false).bind fun y70=>(if y70 then((gz y9 s41.1).bind fun y80=>fX s41.2 a40 y80).bind fun y81=>(if(decide<|(Z04%3)=(0:Int))then(fX y81 a40 (999999999:Int)).bind fun y91=>EK y91 else EK y81:Res dv).bind fun s93=>EK s93 else EK s41.2:Res dv)).bind fun s102=>EK ((s41.1+(1:Int)),s102)
@[irreducible]noncomputable def AF(Z04:Int)(y9:List Int)(a16:Cd)(s17:(Int×dv)):Res (Int×dv):=(cj (AE Z04 y9) (bo a16.2.1) (s17.1,s17.2)).bind fun s114=>EK (s114.1,s114.2)
@[irreducible]noncomputable def Cm(lu:Int->Int->Int->Res (List Int))(Z1d:List Cd)(Z04:Int):Res dv:=(lu (Z04/3) (40:Int) (997:Int)).bind fun y9=>(cj (AF Z04 y9) Z1d ((0:Int),([]:List (Tx×Int)))).bind fun s118=>((((gz y9 (39:Int)).bind fun y122=>EK<|y122%2).bind fun y123=>EK<|decide<|y123=(1:Int)).bind fun y124=>(if y124 then(((gz y9 (38:Int)).bind fun y134=>((((gz y9 (38:Int)).bind fun y131=>EK<|y131%3).bind fun y132=>EK<|decide<|(0:Int)<y132).bind fun y133=>EK (if y133 then(1:Int)else 0)).bind fun y135=>oj y134 y135).bind fun y139=>fX s118.2 ([113]:Tx) y139).bind fun y140=>EK y140 else EK s118.2:Res dv)).bind fun s142=>EK s142
def yr(Z1d:List Cd)(Z04:Int):Res dv:=Cm lu Z1d Z04
@[irreducible]noncomputable def Cn(iu:List Int->Int->Res Int)(tV:List Int->Int->Int->Res (List Cd))(yq:Int->Res Int)(yr:(List Cd)->Int->Res dv)(Z0u:List Int):Res ((List Cd)×Int×dv):=(((iu Z0u (0:Int)).bind fun y3=>EK<|y3%8).bind fun y4=>EK<|(1:Int)+y4).bind fun y5=>((tV Z0u (1:Int) (if(6:Int)<y5 then(6:Int)else y5)).bind fun y10=>(tV Z0u (60:Int) (if(y5-(6:Int))>(0:Int)then(y5-(6:Int))else(0:Int))).bind fun y11=>zP y10 y11).bind fun y12=>((iu Z0u (7:Int)).bind fun y15=>yq y15).bind fun y17=>((iu Z0u (8:Int)).bind fun y16=>yr y12 y16).bind fun y18=>EK (y12,y17,y18)
def yt(Z0u:List Int):Res ((List Cd)×Int×dv):=Cn iu tV yq yr Z0u
@[irreducible]noncomputable def Co(draft:List Cd)(spools:List (Tx×Int)):Res eM:=(((vD [(0:Int)] (draft.length:Int)).bind fun y2=>((vD [(0:Int)] (draft.length:Int)).bind fun y1=>EK (y1,(spools,(none:Option (List Pl))))).bind fun y3=>EK (y2,y3)).bind fun y4=>EK (draft,y4)).bind fun y5=>EK (Mz,y5)
def yu(draft:List Cd)(spools:List (Tx×Int)):Res eM:=Co draft spools
@[irreducible]noncomputable def Bw(yu:(List Cd)->dv->Res eM)(draft:List Cd)(most:Int)(spools:List (Tx×Int)):Res Z02:=(yu draft spools).bind fun y7=>EK (most,y7,([]:List eM),([]:List eM))
def yv(draft:List Cd)(most:Int)(spools:List (Tx×Int)):Res Z02:=Bw yu draft most spools
abbrev dR:Type:=(List Cd)×(List Int)×(List Int)×dv
@[irreducible]noncomputable def Cp(Z1d:List Cd)(Z3a:List (Tx×Int)):Res dR:=(bI Z1d<|fun(a1:Cd)=>EK (0:Int)).bind fun y19=>(bI Z1d<|fun(a10:Cd)=>EK (0:Int)).bind fun y20=>EK (Z1d,y19,y20,Z3a)
def yw(Z1d:List Cd)(Z3a:List (Tx×Int)):Res dR:=Cp Z1d Z3a
@[irreducible]noncomputable def Cq(Z04:Int):Res Tx:=(ee ([32,33,34,35,36,38,39,40,41,42,43,44,45,46,47,48,49,50,51,52,53,54,55,56,57,58,59,60,61,62,63,64,65,66,67,68,69,70,71,72,73,74,75,76,77,78,79,80,81,82,83,84,85,86,87,88,89,90,91,92,93,94,95,96]:Tx) ([97,98,99,100,101,102,103,104,105,106,107,108,109,110,111,112,113,114,115,116,117,118,119,120,121,122,123,124,125,126,10]:Tx)).bind fun y7=>iJ y7<|Z04%95
def yx(Z04:Int):Res Tx:=Cq Z04
@[irreducible]noncomputable def Cr(yx:Int->Res Tx)(Z1F:Tx)(Z04:Int):Res Tx:=(((sr Z1F).bind fun y3=>EK<|y3+(1:Int)).bind fun y4=>lE (Z04/5) y4).bind fun y5=>(yx<|Z04/7).bind fun y10=>if(decide<|(Z04%5)=(0:Int))then((iC Z1F none<|some y5).bind fun y15=>ee y15 y10).bind fun y16=>(iC Z1F (some y5) none).bind fun y17=>ee y16 y17 else if(decide<|(Z04%5)=(1:Int))then(iC Z1F none<|some y5).bind fun y25=>(iC Z1F (some<|y5+(1:Int)) none).bind fun y26=>ee y25 y26 else if(decide<|(Z04%5)=(2:Int))then((iC Z1F none<|some y5).bind fun y34=>ee y34 y10).bind fun y35=>(iC Z1F (some<|y5+(1:Int)) none).bind fun y36=>ee y35 y36 else if(decide<|(Z04%5)=(3:Int))then((iC Z1F none<|some y5).bind fun y44=>(iC Z1F (some y5)<|some<|y5+(1:Int)).bind fun y45=>ee y44 y45).bind fun y46=>(iC Z1F (some y5) none).bind fun y47=>ee y46 y47 else((iC Z1F (some<|y5+(1:Int))<|some<|y5+(2:Int)).bind fun y55=>(iC Z1F (some y5)<|some<|y5+(1:Int)).bind fun y56=>ee y55 y56).bind fun y57=>((iC Z1F none<|some y5).bind fun y60=>ee y60 y57).bind fun y61=>(iC Z1F (some<|y5+(2:Int)) none).bind fun y62=>ee y61 y62
def yy(Z1F:Tx)(Z04:Int):Res Tx:=Cr yx Z1F Z04
@[irreducible]noncomputable def Cs(lu:Int->Int->Int->Res (List Int))(Z04:Int)(Z1M:Int):Res Tx:=if(decide<|(Z04%7)=(3:Int))then(iJ ([102,98,105]:Tx)<|(Z04/7)%3).bind fun y3=>xD y3 Z1M else((lu (Z04/7) Z1M (3:Int)).bind fun y18=>bI y18<|fun(a9:Int)=>iJ ([102,98,105]:Tx) a9).bind fun y19=>uM y19
def yz(Z04:Int)(Z1M:Int):Res Tx:=Cs lu Z04 Z1M
@[irreducible]noncomputable def Ct(yy:Tx->Int->Res Tx)(yz:Int->Int->Res Tx)(Z04:Int)(Z18:Int):Res Tx:=if(decide<|(Z04%9)=(8:Int))then(iC ([102,98,105,98,102,98,105,102]:Tx) none<|some Z18).bind fun y3=>yy y3 (Z04/9)else if(decide<|(Z04%9)=(7:Int))then(iJ ([102,98,105]:Tx)<|(Z04/9)%3).bind fun y11=>xD y11 Z18 else yz (Z04/9) Z18
def yA(Z04:Int)(Z18:Int):Res Tx:=Ct yy yz Z04 Z18
@[irreducible]noncomputable def Cu(yA:Int->Int->Res Tx)(Z04:Int)(Z18:Int):Res Dat:=if(decide<|(Z04%7)<(3:Int))then((yA (Z04/7) Z18).bind fun y3=>EK (([114,111,119]:Tx),y3)).bind fun y4=>EK (Ho [G5 y4.1,G5 y4.2])else if(decide<|(Z04%7)=(3:Int))then(lE (Z04/7) Z18).bind fun y14=>(if(decide<|((Z04/7)%11)=(4:Int))then(gz [Z18,((0:Int)-(1:Int)),(100000000000000000000:Int)]<|(Z04/77)%3).bind fun y25=>EK y25 else EK y14:Res Int).bind fun s29=>EK (Ho [G5 (([102,108,105,112]:Tx),s29).1,NA (([102,108,105,112]:Tx),s29).2])else if(decide<|(Z04%7)=(6:Int))then EK (Ho [G5 (([114,101,100,111]:Tx),(0:Int)).1,NA (([114,101,100,111]:Tx),(0:Int)).2])else EK (Ho [G5 (([117,110,100,111]:Tx),(0:Int)).1,NA (([117,110,100,111]:Tx),(0:Int)).2])
def tE(Z04:Int)(Z18:Int):Res Dat:=Cu yA Z04 Z18
@[irreducible]noncomputable def Cv(Z0v:Cd):Res Cd:=((xE ([83,90]:Tx) Z0v.1).bind fun y5=>iJ ([90,83]:Tx) y5).bind fun y12=>((((iJ Z0v.2.1 (0:Int)).bind fun y6=>(iJ Z0v.2.1 (3:Int)).bind fun y7=>ee y6 y7).bind fun y8=>(iJ Z0v.2.1 (2:Int)).bind fun y9=>ee y8 y9).bind fun y10=>(iJ Z0v.2.1 (1:Int)).bind fun y11=>ee y10 y11).bind fun y13=>EK (y12,y13,(((0:Int)-Z0v.2.2)%4))
def w5(Z0v:Cd):Res Cd:=Cv Z0v
@[irreducible]noncomputable def Cw(Z1N:Tx):Res Int:=(xE ([98,105,102]:Tx) Z1N).bind fun y1=>EK<|y1-(1:Int)
def p9(Z1N:Tx):Res Int:=Cw Z1N
@[irreducible]noncomputable def Cy(p9:Tx->Res Int)(Z0v:Cd)(Z1N:Tx):Res Int:=if(decide<|Z0v.1=([83]:Tx))then p9 Z1N else(p9 Z1N).bind fun y8=>EK<|(0:Int)-y8
def mP(Z0v:Cd)(Z1N:Tx):Res Int:=Cy p9 Z0v Z1N
@[irreducible]noncomputable def Cz(p9:Tx->Res Int)(Z0v:Cd)(Z1N:Tx):Res Cd:=(((p9 Z1N).bind fun y1=>EK<|Z0v.2.2+y1).bind fun y2=>EK<|y2%4).bind fun y3=>EK (Z0v.1,Z0v.2.1,y3)
def wY(Z0v:Cd)(Z1N:Tx):Res Cd:=Cz p9 Z0v Z1N
@[irreducible]noncomputable def Bx(a86:Cd×Tx)(a116:Tx)(s117:dv):Res dv:=(fX s117 a116 ((bT s117 a116 (0:Int)-(2:Int))+(if(decide<|a86.2=([105]:Tx))then(1:Int)else 0))).bind fun y141=>EK y141
@[irreducible]noncomputable def AG(a86:Cd×Tx)(s87:dv):Res dv:=(cj (Bx a86) (bo a86.1.2.1) s87).bind fun s142=>EK s142
@[irreducible]noncomputable def CA(mP:Cd->Tx->Res Int)(wY:Cd->Tx->Res Cd)(Z0A:(List Cd)×(List Int)×(List Int)×dv)(Z0B:Tx)(Z0O:Int):Res (Tx ⊕ dR):=(((sr Z0B).bind fun y13=>EK<|!decide (y13=(Z0A.1.length:Int))).bind fun y35=>if y35 then EK true else((iE (bo Z0B) (fun(a14:Tx)=>((B7 a14 ([102,98,105]:Tx)).bind fun c=>EK<|!c).bind fun y24=>if y24 then EK (some a14)else EK none)).bind fun y33=>EK (y33.length:Int)).bind fun y34=>EK<|decide<|(0:Int)<y34).bind fun y36=>if y36 then EK (Hq ([66,97,100,82,111,119]:Tx):Tx ⊕ dR)else(bI (Z0A.2.1.zip<|Z0A.1.zip<|bo Z0B)<|fun(a45:Int×Cd×Tx)=>(mP a45.2.1 a45.2.2).bind fun y56=>EK<|a45.1+y56).bind fun y59=>(((bI y59<|fun(a62:Int)=>EK<|dX a62).bind fun y71=>xF y71).bind fun y72=>EK<|decide<|Z0O<y72).bind fun y73=>if y73 then EK (Hq ([84,111,111,84,105,103,104,116]:Tx):Tx ⊕ dR)else(cj AG (Z0A.1.zip<|bo Z0B) Z0A.2.2.2).bind fun s146=>(((bI (s146.map (·.1))<|fun(a154:Tx)=>getD s146 a154).bind fun y164=>vZ y164).bind fun y165=>EK<|decide<|y165<(0:Int)).bind fun y166=>if y166 then EK (Hq ([83,112,111,111,108,68,114,121]:Tx):Tx ⊕ dR)else(bI (Z0A.2.2.1.zip y59) (fun(a175:Ii)=>EK (if dX a175.2>a175.1 then dX a175.2 else a175.1))).bind fun y186=>((bI (Z0A.1.zip<|bo Z0B)<|fun(a189:Cd×Tx)=>wY a189.1 a189.2).bind fun y200=>EK (y200,y59,y186,s146)).bind fun y201=>EK (FU y201:Tx ⊕ dR)
def rj(Z0A:(List Cd)×(List Int)×(List Int)×dv)(Z0B:Tx)(Z0O:Int):Res (Tx ⊕ dR):=CA mP wY Z0A Z0B Z0O
@[irreducible]noncomputable def By(mP:Cd->Tx->Res Int)(a7:Cd×Tx)(s8:(List Pl)):Res (List Pl):=(((mP a7.1 a7.2).bind fun y39=>EK<|y39+(1:Int)).bind fun y40=>iJ ([122,111,115]:Tx) y40).bind fun y41=>(((iJ a7.1.2.1 a7.1.2.2).bind fun y44=>(iJ a7.1.2.1<|(a7.1.2.2+(2:Int))%4).bind fun y45=>EK (y44,y45,y41)).bind fun y50=>en s8 y50).bind fun y49=>EK y49
@[irreducible]noncomputable def CB(mP:Cd->Tx->Res Int)(Z8H:List Cd)(Z0B:Tx):Res (List Pl):=(cj (By mP) (Z8H.zip<|bo Z0B) ([]:List Pl)).bind fun s51=>EK s51
def lN(Z8H:List Cd)(Z0B:Tx):Res (List Pl):=CB mP Z8H Z0B
@[irreducible]noncomputable def zh(w5:Cd->Res Cd)(rj:dR->Tx->Int->Res (Tx ⊕ dR))(lN:(List Cd)->Tx->Res (List Pl))(Z0D:List (dR×Dat))(Z0K:List (dR×Dat))(Z0q:Dat)(Z0O:Int):Res (((List<|dR×Dat)×(List<|dR×Dat))×Dat):=((gz Z0D<|-(1:Int)).bind fun y3=>EK y3.1).bind fun y4=>(((jW Z0q (0:Int)).bind fun y7=>fM<|pP y7).bind fun y8=>EK<|decide<|y8=([117,110,100,111]:Tx)).bind fun y9=>if y9 then if(decide<|(Z0D.length:Int)=(1:Int))then EK ((Z0D,Z0K),(fun(z:Tx×(List Tx))=>Ho [G5 z.1,J7<|z.2.map fun(z:Tx)=>G5 z]) (([114,101,102,117,115,101,100]:Tx),[([78,111,116,104,105,110,103,76,101,102,116]:Tx)]))else((j0 Z0D).bind fun b=>(en Z0K b.1).bind fun c=>EK (c,b.2)).bind fun y14=>((((gz y14.1<|-(1:Int)).bind fun y17=>EK y17.2).bind fun y18=>EK (([116,111,108,100]:Tx),y18)).bind fun y19=>EK<|Ho [G5 y19.1,y19.2]).bind fun y20=>EK ((y14.2,y14.1),y20)else(((jW Z0q (0:Int)).bind fun y21=>fM<|pP y21).bind fun y22=>EK<|decide<|y22=([114,101,100,111]:Tx)).bind fun y23=>if y23 then if Z0K.isEmpty then EK ((Z0D,Z0K),(fun(z:Tx×(List Tx))=>Ho [G5 z.1,J7<|z.2.map fun(z:Tx)=>G5 z]) (([114,101,102,117,115,101,100]:Tx),[([78,111,116,104,105,110,103,76,101,102,116]:Tx)]))else((j0 Z0K).bind fun b=>(en Z0D b.1).bind fun c=>EK (c,b.2)).bind fun y28=>((((gz y28.1<|-(1:Int)).bind fun y31=>EK y31.2).bind fun y32=>EK (([116,111,108,100]:Tx),y32)).bind fun y33=>EK<|Ho [G5 y33.1,y33.2]).bind fun y34=>EK ((y28.1,y28.2),y34)else(((jW Z0q (0:Int)).bind fun y35=>fM<|pP y35).bind fun y36=>EK<|decide<|y36=([102,108,105,112]:Tx)).bind fun y37=>if y37 then((((jW Z0q (1:Int)).bind fun y40=>fM<|zZ y40).bind fun y41=>EK<|decide<|y41<(0:Int)).bind fun y44=>if y44 then EK true else((jW Z0q (1:Int)).bind fun y42=>fM<|zZ y42).bind fun y43=>EK<|decide<|(y4.1.length:Int)<=y43).bind fun y45=>if y45 then EK ((Z0D,Z0K),(fun(z:Tx×(List Tx))=>Ho [G5 z.1,J7<|z.2.map fun(z:Tx)=>G5 z]) (([114,101,102,117,115,101,100]:Tx),[([78,111,84,97,98,108,101,116]:Tx)]))else(((((jW Z0q (1:Int)).bind fun y51=>fM<|zZ y51).bind fun y52=>gz y4.1 y52).bind fun y53=>w5 y53).bind fun y55=>((jW Z0q (1:Int)).bind fun y54=>fM<|zZ y54).bind fun y56=>jV y4.1 y56 y55).bind fun y57=>(en Z0D ((y57,y4.2.1,y4.2.2.1,y4.2.2.2),Z0q)).bind fun y64=>(EK<|(Z0K,fun(b:List (dR×Dat))=>b).2 []).bind fun y67=>EK ((y64,y67),(fun(z:Tx×(Option Unit))=>Ho [G5 z.1,A0 (fun(z:Unit)=>Mz) z.2]) (([116,111,108,100]:Tx),none))else(((jW Z0q (1:Int)).bind fun y72=>fM<|pP y72).bind fun y73=>rj y4 y73 Z0O).bind fun y74=>if(y74).isLeft then((((fM (y74).getLeft?).bind fun y79=>EK [y79]).bind fun y80=>EK (([114,101,102,117,115,101,100]:Tx),y80)).bind fun y81=>EK<|(fun(z:Tx×(List Tx))=>Ho [G5 z.1,J7<|z.2.map fun(z:Tx)=>G5 z]) y81).bind fun y82=>EK ((Z0D,Z0K),y82)else(((fM (y74).getRight?).bind fun y83=>EK (y83,Z0q)).bind fun y84=>en Z0D y84).bind fun y85=>(EK<|(Z0K,fun(b:List (dR×Dat))=>b).2 []).bind fun y88=>(((((fM (y74).getRight?).bind fun y91=>EK y91.1).bind fun y93=>((jW Z0q (1:Int)).bind fun y92=>fM<|pP y92).bind fun y94=>lN y93 y94).bind fun y95=>EK (([116,111,108,100]:Tx),y95)).bind fun y96=>EK<|(fun(z:Tx×(List Pl))=>Ho [G5 z.1,J7<|z.2.map fun(z:Pl)=>Ho [G5 z.1,G5 z.2.1,G5 z.2.2]]) y96).bind fun y97=>EK ((y85,y88),y97)
def mQ(Z0D:List (dR×Dat))(Z0K:List (dR×Dat))(Z0q:Dat)(Z0O:Int):Res (((List<|dR×Dat)×(List<|dR×Dat))×Dat):=zh w5 rj lN Z0D Z0K Z0q Z0O
@[irreducible]noncomputable def Bz(self:Z02):Res eM:=if(!self.2.2.1.isEmpty)then gz self.2.2.1 (-(1:Int))else EK self.2.1
def fJ(self:Z02):Res eM:=Bz self
@[irreducible]noncomputable def CC(text:Tx)(width:Int):Res Bool:=((sr text).bind fun y1=>EK<|decide<|y1=width).bind fun y12=>if y12 then(bI (bo text)<|fun(a2:Tx)=>B7 a2 ([102,98,105]:Tx)).bind fun y11=>EK (y11.all id)else EK false
def wZ(text:Tx)(width:Int):Res Bool:=CC text width
@[irreducible]noncomputable def CD(tablet:Cd)(turn:Tx):Res Int:=(getD ([([102],1),([98],(-1)),([105],0)]:List (Tx×Int)) turn).bind fun y3=>if(decide<|tablet.1=([83]:Tx))then EK y3 else EK (-y3)
def oR(tablet:Cd)(turn:Tx):Res Int:=CD tablet turn
@[irreducible]noncomputable def BA(a7:Cd×Tx)(a37:Tx)(s38:dv):Res dv:=(((if(decide<|a7.2=([105]:Tx))then EK (1:Int)else EK (2:Int)).bind fun y59=>EK<|bT s38 a37 (0:Int)+y59).bind fun y63=>fX s38 a37 y63).bind fun y64=>EK y64
@[irreducible]noncomputable def BB(a7:Cd×Tx)(s8:dv):Res dv:=(cj (BA a7) (bo a7.1.2.1) s8).bind fun s65=>EK s65
@[irreducible]noncomputable def CF(draft:List Cd)(row:Tx):Res dv:=(cj BB (draft.zip<|bo row) ([]:List (Tx×Int))).bind fun s69=>EK s69
def w6(draft:List Cd)(row:Tx):Res dv:=CF draft row
@[irreducible]noncomputable def tF(a7:Tx×Int)(s8:dv):Res dv:=if(decide<|bT s8 a7.1 (0:Int)<a7.2)then(((ee ([]:Tx) [116,104,101,32,115,112,111,111,108,32,111,102,32]).bind fun y38=>(ee y38 a7.1).bind fun y39=>(ee y39 [32,102,97,108,108,115,32,115,104,111,114,116]).bind fun y41=>EK y41).bind vj).bind fun y42=>L8 6 else((getD s8 a7.1).bind fun a47=>fX s8 a7.1<|a47-a7.2).bind fun y46=>EK y46
@[irreducible]noncomputable def CG(spools:List (Tx×Int))(lengths:List (Tx×Int)):Res dv:=(cj tF lengths spools).bind fun s48=>EK s48
def x5(spools:List (Tx×Int))(lengths:List (Tx×Int)):Res dv:=CG spools lengths
@[irreducible]noncomputable def CH(tablet:Cd)(turn:Tx):Res Cd:=(((getD ([([102],1),([98],(-1)),([105],0)]:List (Tx×Int)) turn).bind fun y11=>EK<|tablet.2.2+y11).bind fun y12=>EK<|y12%4).bind fun y13=>EK (tablet.1,tablet.2.1,y13)
def w8(tablet:Cd)(turn:Tx):Res Cd:=CH tablet turn
@[irreducible]noncomputable def rk(tablet:Cd):Res Tx:=iJ tablet.2.1<|tablet.2.2%4
def jc(tablet:Cd):Res Tx:=rk tablet
@[irreducible]noncomputable def CI(tablet:Cd):Res Tx:=iJ tablet.2.1<|(tablet.2.2+(2:Int))%4
def yB(tablet:Cd):Res Tx:=CI tablet
@[irreducible]noncomputable def CJ(jc:Cd->Res Tx)(yB:Cd->Res Tx)(oR:Cd->Tx->Res Int)(tablet:Cd)(turn:Tx):Res Pl:=(jc tablet).bind fun y2=>(yB tablet).bind fun y3=>((oR tablet turn).bind fun y1=>getD ([(1,[115]),((-1),[122]),(0,[111])]:List (Int×Tx)) y1).bind fun y4=>EK (y2,y3,y4)
def x6(tablet:Cd)(turn:Tx):Res Pl:=CJ jc yB oR tablet turn
@[irreducible]noncomputable def CK(wZ:Tx->Int->Res Bool)(oR:Cd->Tx->Res Int)(x5:dv->dv->Res dv)(w6:(List Cd)->Tx->Res dv)(w8:Cd->Tx->Res Cd)(x6:Cd->Tx->Res Pl)(stage:eM)(row:Tx)(most:Int):Res eM:=((wZ row (stage.2.1.length:Int)).bind fun y1=>EK<|!y1).bind fun y2=>if y2 then L8 1 else(bI (stage.2.2.1.zip<|stage.2.1.zip<|bo row)<|fun(a7:Int×Cd×Tx)=>(oR a7.2.1 a7.2.2).bind fun y18=>EK<|a7.1+y18).bind fun y21=>((bI y21<|fun(a24:Int)=>EK<|decide<|most<dX a24).bind fun y33=>EK<|y33.any id).bind fun y34=>if y34 then L8 5 else((w6 stage.2.1 row).bind fun y39=>x5 stage.2.2.2.2.1 y39).bind fun y40=>(bI (stage.2.2.2.1.zip y21) (fun(a45:Ii)=>EK (if dX a45.2>a45.1 then dX a45.2 else a45.1))).bind fun y56=>(bI (stage.2.1.zip<|bo row)<|fun(a61:Cd×Tx)=>w8 a61.1 a61.2).bind fun y72=>(bI (y72.zip<|bo row)<|fun(a77:Cd×Tx)=>x6 a77.1 a77.2).bind fun y88=>EK (Ho [G5 (([114,111,119]:Tx),row).1,G5 (([114,111,119]:Tx),row).2],(y72,(y21,(y56,(y40,some y88)))))
def rl(stage:eM)(row:Tx)(most:Int):Res eM:=CK wZ oR x5 w6 w8 x6 stage row most
@[irreducible]noncomputable def BC(self:Z02)(stages:List eM):Res (Z02×Unit):=if(!stages.isEmpty)then((yb self.2.2.1 stages).bind fun b=>EK<|(self.1,self.2.1,b,self.2.2.2)).bind fun y3=>EK ((y3.1,y3.2.1,y3.2.2.1,([]:List eM)),())else EK (self,())
def nJ(self:Z02)(stages:List eM):Res (Z02×Unit):=BC self stages
@[irreducible]noncomputable def BD(rl:eM->Tx->Int->Res eM)(fJ:Z02->Res eM)(nJ:Z02->(List eM)->Res (Z02×Unit))(self:Z02)(row:Tx):Res (Z02×(List Pl)):=((fJ self).bind fun y3=>rl y3 row self.1).bind fun y4=>(nJ self [y4]).bind fun y9=>(fM y4.2.2.2.2.2).bind fun y10=>EK (y9.1,y10)
def w9(self:Z02)(row:Tx):Res (Z02×(List Pl)):=BD rl fJ nJ self row
@[irreducible]noncomputable def BE(draft:List Cd)(k:Int):Res Unit:=(if(decide<|k<(0:Int))then EK true else EK (decide<|(draft.length:Int)<=k)).bind fun y1=>if y1 then(((ee ([]:Tx) [116,104,101,114,101,32,105,115,32,110,111,32,116,97,98,108,101,116,32]).bind fun y4=>(A1 k).bind fun y6=>(ee y4 y6).bind fun y5=>EK y5).bind vj).bind fun y7=>L8 7 else EK ()
def wa(draft:List Cd)(k:Int):Res Unit:=BE draft k
@[irreducible]noncomputable def CL(tablet:Cd):Res Cd:=((((iJ tablet.2.1 (0:Int)).bind fun y13=>(iJ tablet.2.1 (3:Int)).bind fun y14=>ee y13 y14).bind fun y15=>(iJ tablet.2.1 (2:Int)).bind fun y16=>ee y15 y16).bind fun y17=>(iJ tablet.2.1 (1:Int)).bind fun y18=>ee y17 y18).bind fun y19=>(getD ([([83],[90]),([90],[83])]:List (Tx×Tx)) tablet.1).bind fun y22=>EK (y22,y19,(((4:Int)-tablet.2.2)%4))
def yC(tablet:Cd):Res Cd:=CL tablet
@[irreducible]noncomputable def CM(wa:(List Cd)->Int->Res Unit)(yC:Cd->Res Cd)(stage:eM)(k:Int):Res eM:=(wa stage.2.1 k).bind fun y1=>(((gz stage.2.1 k).bind fun y12=>yC y12).bind fun y16=>jV stage.2.1 k y16).bind fun y17=>EK (Ho [G5 (([102,108,105,112]:Tx),k).1,NA (([102,108,105,112]:Tx),k).2],(y17,(stage.2.2.1,(stage.2.2.2.1,(stage.2.2.2.2.1,(none:Option (List Pl)))))))
def tW(stage:eM)(k:Int):Res eM:=CM wa yC stage k
@[irreducible]noncomputable def BF(nJ:Z02->(List eM)->Res (Z02×Unit))(tW:eM->Int->Res eM)(fJ:Z02->Res eM)(self:Z02)(k:Int):Res (Z02×Unit):=(((((fJ self).bind fun y1=>tW y1 k).bind fun y2=>EK [y2]).bind fun y6=>EK (y6,())).bind fun a7=>nJ self a7.1).bind fun y5=>EK (y5.1,())
def wb(self:Z02)(k:Int):Res (Z02×Unit):=BF nJ tW fJ self k
@[irreducible]noncomputable def BG(self:Z02):Res (Z02×Dat):=if(!(!self.2.2.1.isEmpty))then L8 8 else((j0 self.2.2.1).bind fun b=>EK ((self.1,self.2.1,b.2,self.2.2.2),b.1)).bind fun y3=>((en y3.1.2.2.2 y3.2).bind fun b=>EK<|(y3.1.1,y3.1.2.1,y3.1.2.2.1,b)).bind fun y8=>EK (y8,y3.2.1)
def x8(self:Z02):Res (Z02×Dat):=BG self
@[irreducible]noncomputable def BH(self:Z02):Res (Z02×Dat):=if(!(!self.2.2.2.isEmpty))then L8 8 else((j0 self.2.2.2).bind fun b=>EK ((self.1,self.2.1,self.2.2.1,b.2),b.1)).bind fun y3=>((en y3.1.2.2.1 y3.2).bind fun b=>EK<|(y3.1.1,y3.1.2.1,b,y3.1.2.2.2)).bind fun y8=>EK (y8,y3.2.1)
def x9(self:Z02):Res (Z02×Dat):=BH self
@[irreducible]noncomputable def zj(w9:Z02->Tx->Res (Z02×(List Pl)))(wb:Z02->Int->Res (Z02×Unit))(x8:Z02->Res (Z02×Dat))(x9:Z02->Res (Z02×Dat))(Z0Y:Z02)(Z0q:Dat):Res (Z02×Dat):=(JN ((((jW Z0q (0:Int)).bind fun y9=>fM<|pP y9).bind fun y10=>EK<|decide<|y10=([114,111,119]:Tx)).bind fun y11=>(if y11 then(((jW Z0q (1:Int)).bind fun y16=>fM<|pP y16).bind fun y18=>EK (y18,())).bind fun a19=>(w9 Z0Y a19.1).bind fun r17=>EK (r17.1,(fun(z:List Pl)=>J7<|z.map fun(z:Pl)=>Ho [G5 z.1,G5 z.2.1,G5 z.2.2]) r17.2)else(((jW Z0q (0:Int)).bind fun y20=>fM<|pP y20).bind fun y21=>EK<|decide<|y21=([102,108,105,112]:Tx)).bind fun y22=>(if y22 then(((jW Z0q (1:Int)).bind fun y27=>fM<|zZ y27).bind fun y29=>EK (y29,())).bind fun a30=>(wb Z0Y a30.1).bind fun r28=>EK (r28.1,Mz)else(((jW Z0q (0:Int)).bind fun y31=>fM<|pP y31).bind fun y32=>EK<|decide<|y32=([117,110,100,111]:Tx)).bind fun y33=>(if y33 then(x8 Z0Y).bind fun r38=>EK (r38.1,r38.2)else(x9 Z0Y).bind fun r39=>EK (r39.1,r39.2):Res (Z02×Dat)):Res (Z02×Dat)):Res (Z02×Dat)))).bind fun r5=>match r5 with| .inr j7=>EK (Z0Y,lG [114,101,102,117,115,101,100] j7)| .inl y6=>EK (y6.1,Ho [G5 (([116,111,108,100]:Tx),y6.2).1,(([116,111,108,100]:Tx),y6.2).2])
def mR(Z0Y:Z02)(Z0q:Dat):Res (Z02×Dat):=zj w9 wb x8 x9 Z0Y Z0q
@[irreducible]noncomputable def BI(lN:(List Cd)->Tx->Res (List Pl))(Z0D:List (dR×Dat)):Res (List<|List Pl):=iE Z0D (fun(a1:dR×Dat)=>(((jW a1.2 (0:Int)).bind fun y12=>fM<|pP y12).bind fun y13=>EK<|decide<|y13=([114,111,119]:Tx)).bind fun y16=>if y16 then(((jW a1.2 (1:Int)).bind fun y8=>fM<|pP y8).bind fun y9=>lN a1.1.1 y9).bind fun y15=>EK (some y15)else EK none)
def qa(Z0D:List (dR×Dat)):Res (List<|List Pl):=BI lN Z0D
@[irreducible]noncomputable def BJ(fJ:Z02->Res eM)(self:Z02):Res (List Cd):=(fJ self).bind fun y1=>EK y1.2.1
def xa(self:Z02):Res (List Cd):=BJ fJ self
@[irreducible]noncomputable def BK(self:Z02):Res (List<|List Pl):=iE self.2.2.1 (fun(a1:eM)=>if a1.2.2.2.2.2.isSome then(fM a1.2.2.2.2.2).bind fun y11=>EK (some y11)else EK none)
def xb(self:Z02):Res (List<|List Pl):=BK self
@[irreducible]noncomputable def BL(self:Z02):Res (List Dat):=bI self.2.2.1<|fun(a1:eM)=>EK a1.1
def xc(self:Z02):Res (List Dat):=BL self
@[irreducible]noncomputable def BM(fJ:Z02->Res eM)(self:Z02)(k:Int):Res Int:=((fJ self).bind fun y1=>EK y1.2.2.1).bind fun y2=>gz y2 k
def rm(self:Z02)(k:Int):Res Int:=BM fJ self k
@[irreducible]noncomputable def BN(fJ:Z02->Res eM)(self:Z02)(k:Int):Res Int:=((fJ self).bind fun y1=>EK y1.2.2.2.1).bind fun y2=>gz y2 k
def rn(self:Z02)(k:Int):Res Int:=BN fJ self k
@[irreducible]noncomputable def BO(fJ:Z02->Res eM)(self:Z02)(colour:Tx):Res Int:=((fJ self).bind fun y1=>EK y1.2.2.2.2.1).bind fun y2=>EK<|bT y2 colour (0:Int)
def qb(self:Z02)(colour:Tx):Res Int:=BO fJ self colour
@[irreducible]noncomputable def BP(rm:Z02->Int->Res Int)(rn:Z02->Int->Res Int)(Z0Y:Z02)(Z0A:(List Cd)×(List Int)×(List Int)×dv)(a23:Int)(s24:Unit):Res (Fl Bool Unit):=((((rm Z0Y a23).bind fun y44=>(gz Z0A.2.1 a23).bind fun y45=>za y44 y45).bind fun y46=>EK<|!y46).bind fun y50=>if y50 then EK true else((rn Z0Y a23).bind fun y47=>(gz Z0A.2.2.1 a23).bind fun y48=>za y47 y48).bind fun y49=>EK<|!y49).bind fun y51=>if y51 then EK (.rt false)else EK (.nx ())
@[irreducible]noncomputable def AH(qb:Z02->Tx->Res Int)(Z0Y:Z02)(Z0A:(List Cd)×(List Int)×(List Int)×dv)(a63:Tx)(s64:Unit):Res (Fl Bool Unit):=(((qb Z0Y a63).bind fun y84=>za y84<|bT Z0A.2.2.2 a63 (0:Int)).bind fun y85=>EK<|!y85).bind fun y86=>if y86 then EK (.rt false)else EK (.nx ())
@[irreducible]noncomputable def BQ(xa:Z02->Res (List Cd))(xb:Z02->Res (List<|List Pl))(xc:Z02->Res (List Dat))(rm:Z02->Int->Res Int)(rn:Z02->Int->Res Int)(qb:Z02->Tx->Res Int)(Z0Y:Z02)(Z0A:(List Cd)×(List Int)×(List Int)×dv)(Z78:List (List Pl))(Z79:List Dat):Res Bool:=((((xa Z0Y).bind fun y1=>za y1 Z0A.1).bind fun y2=>EK<|!y2).bind fun y5=>if y5 then EK true else((xb Z0Y).bind fun y3=>za y3 Z78).bind fun y4=>EK<|!y4).bind fun y6=>if y6 then EK false else((((xc Z0Y).bind fun y13=>EK<|(fun(z:List Dat)=>J7<|z.map fun(z:Dat)=>z) y13).bind fun y14=>vg y14<|(fun(z:List Dat)=>J7<|z.map fun(z:Dat)=>z) Z79).bind fun y15=>EK<|!y15).bind fun y16=>if y16 then EK false else((iT Z0A.1).bind fun y58=>iD (BP rm rn Z0Y Z0A) y58 ()).bind (fun | .nx s59=>((iD (AH qb Z0Y Z0A) (bo ([97,98,99,100,101,102,103,104,105,106,107,108,109,110,111,112,113,114,115,116,117,118,119,120,121,122]:Tx)) ()).bind (fun | .nx s93=>(EK true)| .rt r=>EK r| .bk _=>Na))| .rt r=>EK r| .bk _=>Na)
def qc(Z0Y:Z02)(Z0A:(List Cd)×(List Int)×(List Int)×dv)(Z78:List (List Pl))(Z79:List Dat):Res Bool:=BQ xa xb xc rm rn qb Z0Y Z0A Z78 Z79
@[irreducible]noncomputable def hG(iu:List Int->Int->Res Int)(tE:Int->Int->Res Dat)(mQ:(List<|dR×Dat)->(List<|dR×Dat)->Dat->Int->Res (((List<|dR×Dat)×(List<|dR×Dat))×Dat))(mR:Z02->Dat->Res (Z02×Dat))(qc:Z02->dR->(List<|List Pl)->(List Dat)->Res Bool)(qa:(List<|dR×Dat)->Res (List<|List Pl))(Z0u:List Int)(y1:(List Cd)×Int×dv)(a27:Int)(s28:(Z02×(List<|dR×Dat)×(List<|dR×Dat))):Res (Fl Bool<|Z02×(List<|dR×Dat)×(List<|dR×Dat)):=((iu Z0u<|(10:Int)+a27).bind fun y52=>tE y52 (y1.1.length:Int)).bind fun y53=>(mQ s28.2.1 s28.2.2 y53 y1.2.1).bind fun y56=>(((EK y53).bind fun a=>(EK ()).bind fun b=>EK (a,b)).bind fun a=>(mR s28.1 a.1).bind fun y=>(EK y56.2).bind fun b=>(vg y.2 b).bind fun c=>EK (y.1,c)).bind fun y64=>if y64.2 then if(decide<|(a27%4)=(1:Int))then((((((gz y56.1.1<|-(1:Int)).bind fun y70=>EK y70.1).bind fun y83=>((qa y56.1.1).bind fun y81=>((bI (cut y56.1.1 (some (1:Int)) none)<|fun(a71:dR×Dat)=>EK a71.2).bind fun y80=>EK (y80,())).bind fun y82=>EK (y81,y82)).bind fun y84=>EK (y83,y84)).bind fun y85=>EK (y64.1,y85)).bind fun a86=>qc a86.1 a86.2.1 a86.2.2.1 a86.2.2.2.1).bind fun y87=>EK<|!y87).bind fun y88=>if y88 then EK (.rt false)else EK (.nx (y64.1,y56.1.1,y56.1.2))else EK (.nx (y64.1,y56.1.1,y56.1.2))else EK (.rt false)
@[irreducible]noncomputable def rp(yt:List Int->Res ((List Cd)×Int×dv))(yv:(List Cd)->Int->dv->Res Z02)(yw:(List Cd)->dv->Res dR)(iu:List Int->Int->Res Int)(tE:Int->Int->Res Dat)(mQ:(List<|dR×Dat)->(List<|dR×Dat)->Dat->Int->Res (((List<|dR×Dat)×(List<|dR×Dat))×Dat))(mR:Z02->Dat->Res (Z02×Dat))(qc:Z02->dR->(List<|List Pl)->(List Dat)->Res Bool)(qa:(List<|dR×Dat)->Res (List<|List Pl))(Z0u:List Int):Res Bool:=(yt Z0u).bind fun y1=>(yv y1.1 y1.2.1 y1.2.2).bind fun y12=>(((yw y1.1 y1.2.2).bind fun y16=>EK (y16,Ho [G5 (([98,101,103,105,110]:Tx),(0:Int)).1,NA (([98,101,103,105,110]:Tx),(0:Int)).2])).bind fun y17=>EK [y17]).bind fun y18=>((((iu Z0u (9:Int)).bind fun y25=>EK<|y25%51).bind fun y26=>gS y26).bind fun y99=>iD (hG iu tE mQ mR qc qa Z0u y1) y99 (y12,y18,([]:List (dR×Dat)))).bind (fun | .nx s100=>(((((gz s100.2.1<|-(1:Int)).bind fun y104=>EK y104.1).bind fun y117=>((qa s100.2.1).bind fun y115=>((bI (cut s100.2.1 (some (1:Int)) none)<|fun(a105:dR×Dat)=>EK a105.2).bind fun y114=>EK (y114,())).bind fun y116=>EK (y115,y116)).bind fun y118=>EK (y117,y118)).bind fun y119=>EK (s100.1,y119)).bind fun a120=>qc a120.1 a120.2.1 a120.2.2.1 a120.2.2.2.1)| .rt r=>EK r| .bk _=>Na)
def wc(Z0u:List Int):Res Bool:=rp yt yv yw iu tE mQ mR qc qa Z0u
end
end Mi
namespace Wb
open PySem L2 Mi
def tp(i:Nat):Stmt:=K9.main.body.getD i<|.Pass ⟨0,0,0,0⟩
def tq(i j:Nat):Stmt:=match tp i with
 | .ClassDef _ _ _ b _ _ _ _ _ _ _=>b.getD j<|.Pass ⟨0,0,0,0⟩
 |s=>s
abbrev jg:=isDk (fun(a:Tx)=>FU<|sOf a) isI
abbrev iO(K:EH)(Z00:Addr):Rfl eM:=(fC "deed" (isU K)<|fC "standing" (isL<|isT3 K isS isS isI)<|fC "reached" (isL isI)<|fC "highest" (isL isI)<|fC "lengths" jg<|f1 "pick"<|isO<|isL<|isT3 K isS isS isS)
abbrev aT(K:EH)(Z00:Addr):Rp eM:=isOb Z00<|iO K Z00
theorem hJ{K:EH}{Z00:Addr}:vS (iO K Z00) "deed" (isU K) (fun a=>a.1):=vT
theorem cg{K:EH}{Z00:Addr}:vS (iO K Z00) "standing" (isL<|isT3 K isS isS isI) (fun a=>a.2.1):=(iM vT)
theorem fB{K:EH}{Z00:Addr}:vS (iO K Z00) "reached" (isL isI) (fun a=>a.2.2.1):=(iM<|iM vT)
theorem fD{K:EH}{Z00:Addr}:vS (iO K Z00) "highest" (isL isI) (fun a=>a.2.2.2.1):=(iM<|iM<|iM vT)
theorem fE{K:EH}{Z00:Addr}:vS (iO K Z00) "lengths" jg (fun a=>a.2.2.2.2.1):=(iM<|iM<|iM<|iM vT)
theorem hR{K:EH}{Z00:Addr}:vS (iO K Z00) "pick" (isO<|isL<|isT3 K isS isS isS) (fun a=>a.2.2.2.2.2):=(iM<|iM<|iM<|iM<|iM D7)
abbrev eN(K:EH)(Z00:Addr):Rfo Z02:=(oC "most" (fz isI)<|oC "start" (fz<|aT K Z00)<|oC "course" (oL<|fz<|aT K Z00)<|o1 "undone"<|oL<|fz<|aT K Z00)
abbrev af(K:EH)(Z00:Addr)(Z01:Addr):Rf Z02:=oOb Z01<|eN K Z00
theorem ZbG{K:EH}{Z00:Addr}:FLn (eN K Z00) "most" (fz isI) (fun a=>a.1) (fun a b=>(b,a.2.1,a.2.2.1,a.2.2.2)):=A8
theorem ZaG{K:EH}{Z00:Addr}:FLn (eN K Z00) "start" (fz<|aT K Z00) (fun a=>a.2.1) (fun a b=>(a.1,b,a.2.2.1,a.2.2.2)):=(sW A8)
theorem Z1t{K:EH}{Z00:Addr}:FLn (eN K Z00) "course" (oL<|fz<|aT K Z00) (fun a=>a.2.2.1) (fun a b=>(a.1,a.2.1,b,a.2.2.2)):=(sW<|sW A8)
theorem Z3O{K:EH}{Z00:Addr}:FLn (eN K Z00) "undone" (oL<|fz<|aT K Z00) (fun a=>a.2.2.2) (fun a b=>(a.1,a.2.1,a.2.2.1,b)):=(sW<|sW<|sW D8)
theorem lx{K:EH}{Z00:Addr}:Br (eN K Z00) "undone" (oL<|fz<|aT K Z00) (fun a b=>(a.1,a.2.1,a.2.2.1,b)):=(A9<|A9<|A9 D9)
theorem le_loom{K:EH}{Z00:Addr}:FLe (eN K Z00) 4:=(Ag<|Ag<|Ag Dd)
theorem jX:bootBuiltins "ValueError"=some (.type "ValueError"):=by decide +kernel
section
variable{P:Ff}{w:Fp}{K:EH}{mg:Str->Option EI}{base:Heap}
def fF(j n:Nat):List (Tx×Bool):=O9 n [([66,97,100,84,97,98,108,101,116],decide<|0=j),([66,97,100,82,111,119],decide<|1=j),([66,97,100,84,101,120,116],decide<|2=j),([66,97,100,77,97,114,107],decide<|3=j),([84,111,111,76,111,110,103],decide<|4=j),([84,111,111,84,105,103,104,116],decide<|5=j),([83,112,111,111,108,68,114,121],decide<|6=j),([78,111,84,97,98,108,101,116],decide<|7=j),([78,111,116,104,105,110,103,76,101,102,116],decide<|8=j),([85,110,108,105,107,101],decide<|9=j),([83,101,101,110,84,104,114,101,97,100],decide<|10=j),([78,111,83,117,99,104,87,97,121],decide<|11=j),([66,97,114,114,101,100],decide<|12=j),([110,111,32,66,97,110,100,69,114,114,111,114],false),([110,111,32,86,97,108,117,101,69,114,114,111,114],false)]
theorem ef{Er:Nat->Prop}{K:EH}{x C:Addr}{σ:St}{W:Wd}{v:V}{c:EI}{b:Bool}(h0:σ[0]? =some (some<|.ref x))(hv:kv v=some c)(hk:Fw K (.ref C) c=some b):
  EV Er (fb (fun xs H Q=>∃v c b,xs=[.ref x,v]/\kv v=some c/\Fw K (.ref C) c=some b/\Q (.bl b) H)<|ai (bf 0)<|ai (tC v) aO) σ W (sh isB) (.ok b):=fun W1 e1 Q k=>
 ⟨.ref x,h0,v,c,b,rfl,hv,hk,k (.bl b) W1 (.refl _) rfl⟩
def yD(a:Tx×Bool):Res (Option Tx):=if a.2 then EK (some a.1)else EK none
theorem qd:∀j,j<13->iE (fF j 15) yD=.ok [kindN.getD j []]:=by
 intro j hj
 match j,hj with
 |0,_=>rfl
 |1,_=>rfl
 |2,_=>rfl
 |3,_=>rfl
 |4,_=>rfl
 |5,_=>rfl
 |6,_=>rfl
 |7,_=>rfl
 |8,_=>rfl
 |9,_=>rfl
 |10,_=>rfl
 |11,_=>rfl
 |12,_=>rfl
theorem wd{f:Addr}{fd:F8}(F:Fun K "_law_kinds" "_law_kinds" (tp 62) f fd)(Z0n:mg "isinstance"=none)(Z4N:mg "ValueError"=none){Z06 Z0i Z0d Z0e Z0f Z08 Z09 Z0a Z03 Z0l Z05 Z07 Z0m Z0c:Addr}(Z60:mg "BadTablet"=some (.ref Z06))(Z3P:mg "BadRow"=some (.ref Z0i))(Z7W:mg "BadText"=some (.ref Z0d))(Z7X:mg "BadMark"=some (.ref Z0e))(Z7Y:mg "TooLong"=some (.ref Z0f))(Z2I:mg "TooTight"=some (.ref Z08))(Z2J:mg "SpoolDry"=some (.ref Z09))(Z2K:mg "NoTablet"=some (.ref Z0a))(Z1o:mg "NothingLeft"=some (.ref Z03))(Z94:mg "Unlike"=some (.ref Z0l))(Z4O:mg "SeenThread"=some (.ref Z05))(Z61:mg "NoSuchWay"=some (.ref Z07))(Z95:mg "Barred"=some (.ref Z0m))(Z2o:mg "BandError"=some (.ref Z0c)):
  FnOkH P w K mg base 1 f fd ["_law_e"] (ij K [Z06,Z0i,Z0d,Z0e,Z0f,Z08,Z09,Z0a,Z03,Z0l,Z05,Z07,Z0m] Z0c):=by
 have SC:FnScope ["_law_e","_law_known"] ["_law_e"] (defScope<|tp 62):=⟨rfl,rfl,rfl,by decide +kernel,rfl,by decide +kernel,by decide +kernel⟩
 refine Fun.okH F SC (fun x C vs H Q E h=>?_)<|fun x C cdv A outer s H vs Q E hE hr h=>?_;·obtain⟨_,_,_,rfl,_⟩:=h;rfl
 ·obtain⟨W0,j,rfl,rfl,hZ,hj,hc,hB,hV,hq⟩:=h
  refine⟨_,(a8 (gj (i:=1) SC.nd rfl (by first|exact IS rfl|exact IF rfl) (bX (a4 (aS (a4 ar (a4 (ak (bh (K:=K) rfl hE hZ) (by rfl) Z0n ET (a4 (pv 0) (a4 (bL (v:=.ref Z06) (by rfl) Z60 rfl) a5))) a5))) (a4 (aS (a4 ar (a4 (ak (bh (K:=K) rfl hE hZ) (by rfl) Z0n ET (a4 (pv 0) (a4 (bL (v:=.ref Z0i) (by rfl) Z3P rfl) a5))) a5))) a5))))
   (a8 (gj (i:=1) SC.nd rfl (by first|exact IS rfl|exact IF rfl) (ah gN (pv 1) (bX (a4 (aS (a4 ar (a4 (ak (bh (K:=K) rfl hE hZ) (by rfl) Z0n ET (a4 (pv 0) (a4 (bL (v:=.ref Z0d) (by rfl) Z7W rfl) a5))) a5))) (a4 (aS (a4 ar (a4 (ak (bh (K:=K) rfl hE hZ) (by rfl) Z0n ET (a4 (pv 0) (a4 (bL (v:=.ref Z0e) (by rfl) Z7X rfl) a5))) a5))) a5)))))
   (a8 (gj (i:=1) SC.nd rfl (by first|exact IS rfl|exact IF rfl) (ah gN (pv 1) (bX (a4 (aS (a4 ar (a4 (ak (bh (K:=K) rfl hE hZ) (by rfl) Z0n ET (a4 (pv 0) (a4 (bL (v:=.ref Z0f) (by rfl) Z7Y rfl) a5))) a5))) (a4 (aS (a4 ar (a4 (ak (bh (K:=K) rfl hE hZ) (by rfl) Z0n ET (a4 (pv 0) (a4 (bL (v:=.ref Z08) (by rfl) Z2I rfl) a5))) a5))) a5)))))
   (a8 (gj (i:=1) SC.nd rfl (by first|exact IS rfl|exact IF rfl) (ah gN (pv 1) (bX (a4 (aS (a4 ar (a4 (ak (bh (K:=K) rfl hE hZ) (by rfl) Z0n ET (a4 (pv 0) (a4 (bL (v:=.ref Z09) (by rfl) Z2J rfl) a5))) a5))) (a4 (aS (a4 ar (a4 (ak (bh (K:=K) rfl hE hZ) (by rfl) Z0n ET (a4 (pv 0) (a4 (bL (v:=.ref Z0a) (by rfl) Z2K rfl) a5))) a5))) a5)))))
   (a8 (gj (i:=1) SC.nd rfl (by first|exact IS rfl|exact IF rfl) (ah gN (pv 1) (bX (a4 (aS (a4 ar (a4 (ak (bh (K:=K) rfl hE hZ) (by rfl) Z0n ET (a4 (pv 0) (a4 (bL (v:=.ref Z03) (by rfl) Z1o rfl) a5))) a5))) (a4 (aS (a4 ar (a4 (ak (bh (K:=K) rfl hE hZ) (by rfl) Z0n ET (a4 (pv 0) (a4 (bL (v:=.ref Z0l) (by rfl) Z94 rfl) a5))) a5))) a5)))))
   (a8 (gj (i:=1) SC.nd rfl (by first|exact IS rfl|exact IF rfl) (ah gN (pv 1) (bX (a4 (aS (a4 ar (a4 (ak (bh (K:=K) rfl hE hZ) (by rfl) Z0n ET (a4 (pv 0) (a4 (bL (v:=.ref Z05) (by rfl) Z4O rfl) a5))) a5))) (a4 (aS (a4 ar (a4 (ak (bh (K:=K) rfl hE hZ) (by rfl) Z0n ET (a4 (pv 0) (a4 (bL (v:=.ref Z07) (by rfl) Z61 rfl) a5))) a5))) a5)))))
   (a8 (gj (i:=1) SC.nd rfl (by first|exact IS rfl|exact IF rfl) (ah gN (pv 1) (bX (a4 (aS (a4 ar (a4 (ak (bh (K:=K) rfl hE hZ) (by rfl) Z0n ET (a4 (pv 0) (a4 (bL (v:=.ref Z0m) (by rfl) Z95 rfl) a5))) a5))) (a4 (aS (a4 ar (a4 (pe (ak (bh (K:=K) rfl hE hZ) (by rfl) Z0n ET (a4 (pv 0) (a4 (bL (v:=.ref Z0c) (by rfl) Z2o rfl) a5)))) a5))) a5)))))
   (a8 (gj (i:=1) SC.nd rfl (by first|exact IS rfl|exact IF rfl) (ah gN (pv 1) (bX (a4 (aS (a4 ar (a4 (pe (ak (bh (K:=K) rfl hE hZ) (by rfl) Z0n ET (a4 (pv 0) (a4 (dJ (v:=.ty "ValueError") (by rfl) Z4N jX rfl) a5)))) a5))) a5))))
   (ae (aj (vp (N:=["_law_name","_law_so"]) (cap:=[none,none]) (fI rfl (by decide +kernel) rfl (by decide +kernel) (by rfl) (by rfl)) hE.hdx (vo (K:=K) rfl (pv 1)) (fun _ _ _ _ hx=>(xW (K:=K) (n:=2) rfl hx (au (aW (i:=0) (show FC (["_law_name","_law_so"]:List Str) by decide +kernel) rfl (by first|exact IS rfl|exact IF rfl)) (au (aW (i:=1) (show FC (["_law_name","_law_so"]:List Str) by decide +kernel) rfl (by first|exact IS rfl|exact IF rfl)) cn)))) (fun _ _ _ _=>(k6 (cK (pv 1)))) (fun _ _ _ _=>(pv 0))))))))))))),?_⟩
  have E0:Ext W0 W0:=.refl W0;rw[show L2.start ["_law_e","_law_known"] [.ref x]=[some (.ref x),none]from rfl];refine aA (Er:=fun _=>False) (i:=1) (R:=sh<|isL<|isT2 K isS isB) (m:=.ok<|fF j 2) (σ':=fun v=>[some (.ref x),some v]) (G7 (di (bc (aX (K:=K) (aw (x:=EL "BadTablet") (l:=[66,97,100,84,97,98,108,101,116]) (dD _ _ (by decide +kernel)))<|ef (K:=K) (C:=C) (v:=.ref Z06) (c:=.ref Z06) (b:=decide<|0=j) rfl rfl<|hc 0 _ rfl) (bc (aX (K:=K) (aw (x:=EL "BadRow") (l:=[66,97,100,82,111,119]) (dD _ _ (by decide +kernel)))<|ef (K:=K) (C:=C) (v:=.ref Z0i) (c:=.ref Z0i) (b:=decide<|1=j) rfl rfl<|hc 1 _ rfl)<|dh (R:=isT2 K isS isB)))))<|fun v0 W1 e0 h0=>?_;have E0:=E0.trans e0;refine aA (Er:=fun _=>False) (i:=1) (R:=sh<|isL<|isT2 K isS isB) (m:=.ok<|fF j 4) (σ':=fun v=>[some (.ref x),some v]) (G7 (fP (Hk<|bB (R:=sh<|isL<|isT2 K isS isB) h0) (Ig (di (bc (aX (K:=K) (aw (x:=EL "BadText") (l:=[66,97,100,84,101,120,116]) (dD _ _ (by decide +kernel)))<|ef (K:=K) (C:=C) (v:=.ref Z0d) (c:=.ref Z0d) (b:=decide<|2=j) rfl rfl<|hc 2 _ rfl) (bc (aX (K:=K) (aw (x:=EL "BadMark") (l:=[66,97,100,77,97,114,107]) (dD _ _ (by decide +kernel)))<|ef (K:=K) (C:=C) (v:=.ref Z0e) (c:=.ref Z0e) (b:=decide<|3=j) rfl rfl<|hc 3 _ rfl)<|dh (R:=isT2 K isS isB)))))))<|fun v1 W2 e1 h1=>?_;have E0:=E0.trans e1;refine aA (Er:=fun _=>False) (i:=1) (R:=sh<|isL<|isT2 K isS isB) (m:=.ok<|fF j 6) (σ':=fun v=>[some (.ref x),some v]) (G7 (fP (Hk<|bB (R:=sh<|isL<|isT2 K isS isB) h1) (Ig (di (bc (aX (K:=K) (aw (x:=EL "TooLong") (l:=[84,111,111,76,111,110,103]) (dD _ _ (by decide +kernel)))<|ef (K:=K) (C:=C) (v:=.ref Z0f) (c:=.ref Z0f) (b:=decide<|4=j) rfl rfl<|hc 4 _ rfl) (bc (aX (K:=K) (aw (x:=EL "TooTight") (l:=[84,111,111,84,105,103,104,116]) (dD _ _ (by decide +kernel)))<|ef (K:=K) (C:=C) (v:=.ref Z08) (c:=.ref Z08) (b:=decide<|5=j) rfl rfl<|hc 5 _ rfl)<|dh (R:=isT2 K isS isB)))))))<|fun v2 W3 e2 h2=>?_;have E0:=E0.trans e2;refine aA (Er:=fun _=>False) (i:=1) (R:=sh<|isL<|isT2 K isS isB) (m:=.ok<|fF j 8) (σ':=fun v=>[some (.ref x),some v]) (G7 (fP (Hk<|bB (R:=sh<|isL<|isT2 K isS isB) h2) (Ig (di (bc (aX (K:=K) (aw (x:=EL "SpoolDry") (l:=[83,112,111,111,108,68,114,121]) (dD _ _ (by decide +kernel)))<|ef (K:=K) (C:=C) (v:=.ref Z09) (c:=.ref Z09) (b:=decide<|6=j) rfl rfl<|hc 6 _ rfl) (bc (aX (K:=K) (aw (x:=EL "NoTablet") (l:=[78,111,84,97,98,108,101,116]) (dD _ _ (by decide +kernel)))<|ef (K:=K) (C:=C) (v:=.ref Z0a) (c:=.ref Z0a) (b:=decide<|7=j) rfl rfl<|hc 7 _ rfl)<|dh (R:=isT2 K isS isB)))))))<|fun v3 W4 e3 h3=>?_;have E0:=E0.trans e3;refine aA (Er:=fun _=>False) (i:=1) (R:=sh<|isL<|isT2 K isS isB) (m:=.ok<|fF j 10) (σ':=fun v=>[some (.ref x),some v]) (G7 (fP (Hk<|bB (R:=sh<|isL<|isT2 K isS isB) h3) (Ig (di (bc (aX (K:=K) (aw (x:=EL "NothingLeft") (l:=[78,111,116,104,105,110,103,76,101,102,116]) (dD _ _ (by decide +kernel)))<|ef (K:=K) (C:=C) (v:=.ref Z03) (c:=.ref Z03) (b:=decide<|8=j) rfl rfl<|hc 8 _ rfl) (bc (aX (K:=K) (aw (x:=EL "Unlike") (l:=[85,110,108,105,107,101]) (dD _ _ (by decide +kernel)))<|ef (K:=K) (C:=C) (v:=.ref Z0l) (c:=.ref Z0l) (b:=decide<|9=j) rfl rfl<|hc 9 _ rfl)<|dh (R:=isT2 K isS isB)))))))<|fun v4 W5 e4 h4=>?_;have E0:=E0.trans e4;refine aA (Er:=fun _=>False) (i:=1) (R:=sh<|isL<|isT2 K isS isB) (m:=.ok<|fF j 12) (σ':=fun v=>[some (.ref x),some v]) (G7 (fP (Hk<|bB (R:=sh<|isL<|isT2 K isS isB) h4) (Ig (di (bc (aX (K:=K) (aw (x:=EL "SeenThread") (l:=[83,101,101,110,84,104,114,101,97,100]) (dD _ _ (by decide +kernel)))<|ef (K:=K) (C:=C) (v:=.ref Z05) (c:=.ref Z05) (b:=decide<|10=j) rfl rfl<|hc 10 _ rfl) (bc (aX (K:=K) (aw (x:=EL "NoSuchWay") (l:=[78,111,83,117,99,104,87,97,121]) (dD _ _ (by decide +kernel)))<|ef (K:=K) (C:=C) (v:=.ref Z07) (c:=.ref Z07) (b:=decide<|11=j) rfl rfl<|hc 11 _ rfl)<|dh (R:=isT2 K isS isB)))))))<|fun v5 W6 e5 h5=>?_;have E0:=E0.trans e5;refine aA (Er:=fun _=>False) (i:=1) (R:=sh<|isL<|isT2 K isS isB) (m:=.ok<|fF j 14) (σ':=fun v=>[some (.ref x),some v]) (G7 (fP (Hk<|bB (R:=sh<|isL<|isT2 K isS isB) h5) (Ig (di (bc (aX (K:=K) (aw (x:=EL "Barred") (l:=[66,97,114,114,101,100]) (dD _ _ (by decide +kernel)))<|ef (K:=K) (C:=C) (v:=.ref Z0m) (c:=.ref Z0m) (b:=decide<|12=j) rfl rfl<|hc 12 _ rfl) (bc (aX (K:=K) (aw (x:=EL "no BandError") (l:=[110,111,32,66,97,110,100,69,114,114,111,114]) (dD _ _ (by decide +kernel)))<|uP<|ef (K:=K) (C:=C) (v:=.ref Z0c) (c:=.ref Z0c) (b:=true) rfl rfl hB)<|dh (R:=isT2 K isS isB)))))))<|fun v6 W7 e6 h6=>?_;have E0:=E0.trans e6;refine aA (Er:=fun _=>False) (i:=1) (R:=sh<|isL<|isT2 K isS isB) (m:=.ok<|fF j 15) (σ':=fun v=>[some (.ref x),some v]) (G7 (fP (Hk<|bB (R:=sh<|isL<|isT2 K isS isB) h6) (Ig (di (bc (aX (K:=K) (aw (x:=EL "no ValueError") (l:=[110,111,32,86,97,108,117,101,69,114,114,111,114]) (dD _ _ (by decide +kernel)))<|uP<|ef (K:=K) (C:=C) (v:=.ty "ValueError") (c:=.type "ValueError") (b:=true) rfl rfl hV)<|dh (R:=isT2 K isS isB))))))<|fun v7 W8 e7 h7=>?_;have E0:=E0.trans e7;refine ib (Er:=fun _=>False) (m:=.ok [kindN.getD j []]) (qd j hj▸(oo (R:=isT2 K isS isB) (R':=isS) (m:=.ok<|fF j 15) (f:=yD) (eZ<|bB (R:=sh<|isL<|isT2 K isS isB) h7) fun W3 a1 v2 e4 h5 Q12 k13=>?_:EVo (fun _=>False) _ _ _ isS ((EK<|fF j 15).bind fun xs=>iE xs yD)))<|fun p W e hp o=>hq p W (E0.trans e) (none_of E0.h hp) o;refine lF h5 fun v6 v8 h7 h9=>?_;cases h7;cases h9;refine⟨by simp[Keep,bz],((jv<|bB (R:=sh isB) (a:=a1.2) (v:=.bl a1.2) rfl):TV (fun _=>False) _ [some (.str<|sOf a1.1),some<|.bl a1.2] _ _) _ (.refl _) _ ?_⟩;intro W15 e16;unfold yD at k13;cases hb:a1.2 with
  |false=>rw[hb]at k13;exact k13 none _ e16 trivial
  |true=>
   rw[hb]at k13;rw[if_pos rfl];exact((bB (R:=sh isS) (a:=a1.1) (v:=.str<|sOf a1.1) rfl):EV (fun _=>False) _ [some (.str<|sOf a1.1),some<|.bl true] _ _ _) W15 (.refl _) _ (fun u W18 e19 h21=>k13 (some u) _ (e16.trans e19) h21)
end
end Wb
local macro_rules | `(tactic|walk_at "L")=>`(tactic|first | exact IS rfl | exact IF rfl)
local macro_rules | `(tactic|walk_at "F")=>`(tactic|exact⟨rfl,rfl,rfl,by decide +kernel,rfl,by decide +kernel,by decide +kernel⟩)
namespace Wb
open PySem L2 Mi
section
variable{P:Ff}{w:Fp}{K:EH}{mg:Str->Option EI}{base:Heap}
theorem DF{f:Addr}{fd:F8}(F:Fun K "_law_at" "_law_at" (tp 43) f fd)(Z0C:mg "len"=none):FnOk P w K mg base CX0 (1) f fd ["_law_script","_law_k"] (bU (isScr K) isI (rs isI)<|Ce):=by
 have SC:FnScope ["_law_script","_law_k"] ["_law_script","_law_k"] (defScope<|tp 43):=by walk_at "F"
 refine F.ok SC (fun vs H Q E h=>?_)<|fun cdv A outer s H vs Q E hr h=>?_;·obtain⟨_,_,_,_,_,_,rfl,_⟩:=h;rfl
 ·obtain⟨W0,Z0u,l_k,Z1D,_,rfl,rfl,Z0h,z_l_k,Er,hq⟩:=h;cases z_l_k
  refine⟨_,(a8 (bj (aI lP (pv 1) (ak (bJ (K:=K) rfl) (by rfl) Z0C G2<|a4 (pv 0) a5)<|aJ _) (ae<|aj<|av (bG (K:=K) rfl) (pv 0) (pv 1)<|fun _ _=>rfl) aD)
   (ae (aj (ah aV (ah jm (ah bW (ah jm (pv 1) a6) a6) (ah bW (ak (bJ (K:=K) rfl) (by rfl) Z0C G2 (a4 (pv 0) a5)) a6)) a6)))),?_⟩
  have E0:Ext W0 W0:=.refl W0;unfold Ce at hq;refine bt (Er:=Er) (aK<|eG bM<|mw<|bg Z0h)<|fun W1 e2=>?_;have E0:=E0.trans e2;have Z0h:=EG e2.g Z0h;by_cases hb13:(decide<|l_k<(Z0u.length:Int))=true
  ·rw[if_pos hb13]at hq ⊢;exact aG (Er:=Er) (uV (bg Z0h) bM)<|Fe hq fun y3 hq v4 W5 e6 h7=>hq v4 W5 (E0.trans e6) h7
  ·rw[if_neg hb13]at hq ⊢
   try dsimp only[aF]
   exact aG (Er:=Er) (aE (fun _=>by decide) (pI (bC (aE (fun _=>.inr ⟨by decide,by decide⟩) bM) ag)<|bC (mw<|bg Z0h) ag))<|Fe hq fun y9 hq v10 W11 e12 h13=>hq v10 W11 (E0.trans e12) h13
theorem DG{f:Addr}{fd:F8}(F:Fun K "_law_row" "_law_row" (tp 40) f fd)(Z3t:mg "abs"=none)(Z1W:mg "range"=none):FnOk P w K mg base CX0 (1) f fd ["_law_cell","_law_many","_law_base"] (jw isI isI isI (ro isI)<|Cf):=by
 have SC:FnScope ["_law_cell","_law_many","_law_base","_law_now","_law_far","_law_mix","_law_out","_law_k"] ["_law_cell","_law_many","_law_base"] (defScope<|tp 40):=by walk_at "F"
 refine F.ok SC (fun vs H Q E h=>?_)<|fun cdv A outer s H vs Q E hr h=>?_;·obtain⟨_,_,_,_,_,_,_,_,rfl,_⟩:=h;rfl
 ·obtain⟨W0,Z04,Z1M,Z2k,_,_,_,rfl,rfl,Z15,Z96,ZgY,Er,hq⟩:=h;cases Z15;cases Z96;cases ZgY
  refine⟨_,(a8 (fk 3 (ak gM (by rfl) Z3t Hv<|a4 (pv 0) a5))
   (a8 (fk 4<|eA uc (pv 3) (ah ua a6 a6)<|aJ _)
   (a8 (fk 5<|ah aV (pv 3) a6)
   (a8 (fk 6<|bX a5)
   (a8 (et Gf rfl (i8 rfl Z1W<|a4 (pv 1) a5) (gG 7) (a8 (fk 5<|ah aV (ah bW (ah bW (ah jm (pv 5) a6) a6)<|pv 7) a6)
   (ae (bj (LU<|mX (cK<|pv 4)<|jY<|aI nQ (pv 3) a6<|aJ _) (a8 (d4<|dm (K:=K) rfl (pv 6)<|a4 (ah aV (pv 3)<|pv 2) a5)
   (ae (fk 3 (ah cz (pv 3) (pv 2))))) (ae (d4 (dm (K:=K) rfl (pv 6) (a4 (ah aV (ah aV (ah jm (pv 5) (pv 5)) a6) (pv 2)) a5))))))))
   (ae (aj (pv 6)))))))),?_⟩
  have E0:Ext W0 W0:=.refl W0;unfold Cf at hq;refine aA (Er:=Er) (l0 bM)<|fun v3 W1 e2 h4=>?_;cases h4;have E0:=E0.trans e2;refine aA (Er:=Er) (eG bM (qM (r:=1000000000000000000) (by decide) (by decide)))<|fun v7 W5 e6 h8=>?_;cases h8;have E0:=E0.trans e6;refine aA (Er:=Er) (aE (fun _=>by decide) bM)<|fun v11 W9 e10 h12=>?_;cases h12;have E0:=E0.trans e10;refine jy (Er:=Er) (qL (R:=isI))<|fun p15 W13 e14 hp16 o17=>?_;have fr18:=none_of E0.h hp16;have E0:=E0.trans e14;refine fy (Er:=Er) (f:=(AB Z04 Z2k)) (s0:=(((dX Z04)%2147483647),dX Z04,([]:List Int))) (Iv:=fun(s21:(Int×Int×(List Int)))(W22:Wd)(g23:St)=>∃(d25:Option V),g23=[some (.int Z04),some<|.int Z1M,some<|.int Z2k,some<|.int s21.2.1,some<|.bl<|decide<|(1000000000000000000:Int)<=dX Z04,some<|.int s21.1,some<|.ref p15,d25]/\Ext W0 W22/\Ow isI W22 p15 s21.2.2) (iU bM) (ED hq) ?_ ?_ ?_
  ·intro W37 e38;have E0:=E0.trans e38;have o17:=o17.mono e38;exact⟨_,rfl,E0,o17⟩
  ·intro Wb26 W27 W28 a19 v29 s20 sg30 P31 hW32 hB33 iv e34 h35 hq;obtain⟨d25,rfl,E0,o24⟩:=iv;have E0:=E0.trans e34;have hB33:=hB33.trans e34.g;have o24:=o24.mono e34;cases h35;refine gn (σ':=[some (.int Z04),some<|.int Z1M,some<|.int Z2k,some<|.int s20.2.1,some<|.bl<|decide<|(1000000000000000000:Int)<=dX Z04,some<|.int s20.1,some<|.ref p15,some<|.int a19]) ?_;unfold AB at hq;refine aA (Er:=Er) (aE (fun _=>by decide) (bC (bC (aE (fun _=>.inr ⟨by decide,by decide⟩) bM) ag) bM))<|fun v43 W41 e42 h44=>?_;cases h44;have E0:=E0.trans e42;have hB33:=hB33.trans e42.g;have o24:=o24.mono e42;refine pL (Er:=Er) (Iv:=fun(s74:(Int×(List Int)))(W75:Wd)(g76:St)=>g76=[some (.int Z04),some<|.int Z1M,some<|.int Z2k,some<|.int s74.1,some<|.bl<|decide<|(1000000000000000000:Int)<=dX Z04,some<|.int<|(((s20.1*48271)+(7919:Int))+a19)%2147483647,some<|.ref p15,some<|.int a19]/\Ext W0 W75/\Ow isI W75 p15 s74.2) (uO (jv Dl)<|aK<|eG bM ag) (ED hq) ?_ ?_ ?_
   ·intro W46 N49 e47 hN50 hq;have hs51:=e47.g;have E0:=E0.trans e47;have hB33:=hB33.trans e47.g;have o24:=o24.mono e47;refine uU (Er:=Er) o24 (kZ bM bM)<|(ED hq).imp fun y55 hq W52 mu53 o54=>?_;have E0:=mu53.e _ E0 fr18;have hB33:=hB33.trans mu53.g;have hs51:=hs51.trans mu53.g;refine l7 (Er:=Er) (xH bM bM)<|(ED hq).imp fun y59 hq v60 W57 e58 h61=>?_;cases h61;have E0:=E0.trans e58;have hB33:=hB33.trans e58.g;have hs51:=hs51.trans e58.g;have o54:=o54.mono e58;exact hN50 (y59,y55) W57 _ hs51 ⟨rfl,E0,o54⟩ hq
   ·intro W46 N49 e47 hN50 hq;have hs62:=e47.g;have E0:=E0.trans e47;have hB33:=hB33.trans e47.g;have o24:=o24.mono e47;refine pM (Er:=Er) o24 (kZ (aE (fun _=>by decide)<|pI bM bM) bM)<|(ED hq).imp fun y68 hq W65 mu66 o67=>?_;have E0:=mu66.e _ E0 fr18;have hB33:=hB33.trans mu66.g;have hs62:=hs62.trans mu66.g;exact hN50 (s20.2.1,y68) W65 _ hs62 ⟨rfl,E0,o67⟩ hq
   ·intro s70 W71 sg72 hS73 iv hq;obtain⟨rfl,E0,o77⟩:=iv;have hB33:=hB33.trans hS73
    try dsimp only
    refine eJ (W:=W71) (((((s20.1*48271)+(7919:Int))+a19)%2147483647),s70.1,s70.2) hB33 ?_ hq;exact⟨_,rfl,E0,o77⟩
  ·intro s79 W80 sg81 hS82 iv hq;obtain⟨d25,rfl,E0,o24⟩:=iv;exact⟨.ref p15,rfl,hq p15 W80 E0 fr18 o24⟩
theorem DH{f:Addr}{fd:F8}(F:Fun K "_law_holes" "_law_holes" (tp 41) f fd){lu:Int->Int->Int->Res (List Int)}(Z1K:Cal P w K mg base "_law_row" ["_law_cell","_law_many","_law_base"] (1) (jw isI isI isI (ro isI) lu)):FnOk P w K mg base CX0 (2) f fd ["_law_cell"] (dO isI (rs isS)<|Cg lu):=by
 have SC:FnScope ["_law_cell","_law_size","_law_draws","_law_out","_law_d"] ["_law_cell"] (defScope<|tp 41):=by walk_at "F"
 refine F.ok SC (fun vs H Q E h=>?_)<|fun cdv A outer s H vs Q E hr h=>?_;·obtain⟨_,_,_,_,rfl,_⟩:=h;rfl
 ·obtain⟨W0,Z04,_,rfl,rfl,Z15,Er,hq⟩:=h;cases Z15;refine⟨_,(a8 (fk 1<|av (bG (K:=K) rfl) (bX<|a4 a6<|a4 a6<|a4 a6<|a4 a6<|a4 a6 a5) (ah aV (pv 0) a6)<|fun _ _=>rfl)
   (a8 (fk 2<|eX Z1K<|a4 (ah cz (pv 0) a6)<|a4 a6<|a4 a6 a5)
   (a8 (fk 3 ar)
   (a8 (et Gf rfl (dq (K:=K) rfl<|bY (kU (K:=K) rfl) (pv 2) dC<|cf a6) (gG 4)<|ae<|fk 3<|ah bu (pv 3)<|av cT ar (ah aV (ah bW (av (bG (K:=K) rfl) (pv 2) a6<|fun _ _=>rfl)<|ah jm (ah aV (pv 4)<|pv 1) a6) a6)<|fun _ _=>rfl)
   (ae (aj (pv 3))))))),?_⟩
  have E0:Ext W0 W0:=.refl W0;unfold Cg at hq;refine aA (Er:=Er) (eV (Ig<|di<|bc ag<|bc ag<|bc ag<|bc ag<|bc ag<|dh (R:=isI)) (aE (fun _=>by decide) bM))<|(ED hq).imp fun y3 hq v4 W1 e2 h5=>?_;cases h5;have E0:=E0.trans e2;refine aA (Er:=Er) (G7 (fZ (aE (fun _=>⟨by decide,by decide⟩) bM) ag ag))<|(ED hq).imp fun y8 hq v9 W6 e7 h10=>?_;have E0:=E0.trans e7;refine aA (Er:=Er) (aw (x:=EL "") (l:=[]) (dD _ _ (by decide +kernel)))<|fun v13 W11 e12 h14=>?_;cases h14;have E0:=E0.trans e12;have h10:=EG e12.g h10;refine fy (Er:=Er) (f:=(AD y3 y8)) (s0:=([]:Tx)) (Iv:=fun(s17:Tx)(W18:Wd)(g19:St)=>∃(d20:Option V),g19=[some (.int Z04),some<|.int y3,some v9,some<|.str<|sOf s17,d20]/\Ext W0 W18) (eZ<|G7<|nv (Hk<|bg h10) fN<|eg ag) (ED hq) ?_ ?_ ?_
  ·intro W32 e33;have E0:=E0.trans e33;have h10:=EG e33.g h10;exact⟨_,rfl,E0⟩
  ·intro Wb21 W22 W23 a15 v24 s16 sg25 P26 hW27 hB28 iv e29 h30 hq;obtain⟨d20,rfl,E0⟩:=iv;have h10:=EG hW27 h10;have E0:=E0.trans e29;have hB28:=hB28.trans e29.g;have h10:=EG e29.g h10;cases h30;refine gn (σ':=[some (.int Z04),some<|.int y3,some v9,some<|.str<|sOf s16,some<|.int a15]) ?_;unfold AD at hq;refine l7 (Er:=Er) (cC cW (cU (aw (x:=EL "abcdefghijklmnopqrstuvwxyz") (l:=[97,98,99,100,101,102,103,104,105,106,107,108,109,110,111,112,113,114,115,116,117,118,119,120,121,122]) (dD _ _ (by decide +kernel))) (aE (fun _=>by decide) (bC (eV (Hk<|bg h10) ag) (aE (fun _=>.inr ⟨by decide,by decide⟩)<|kZ bM bM)))))<|(ED hq).imp fun y44 hq v45 W36 e37 h46=>?_;cases h46;have E0:=E0.trans e37;have hB28:=hB28.trans e37.g;have h10:=EG e37.g h10
   try dsimp only
   refine eJ (W:=W36) y44 hB28 ?_ hq;exact⟨_,rfl,E0⟩
  ·intro s47 W48 sg49 hS50 iv hq;obtain⟨d20,rfl,E0⟩:=iv;exact aG (Er:=Er) cW<|fun v51 W52 e53 h54=>hq v51 W52 (E0.trans e53) h54
theorem DJ{f:Addr}{fd:F8}(F:Fun K "_law_card" "_law_card" (tp 42) f fd){yp:Int->Res Tx}(Z4P:Cal P w K mg base "_law_holes" ["_law_cell"] (2) (dO isI (rs isS) yp)):FnOk P w K mg base CX0 (3) f fd ["_law_cell"] (dO isI (rs<|qA K)<|Ci yp):=by
 have SC:FnScope ["_law_cell"] ["_law_cell"] (defScope<|tp 42):=by walk_at "F"
 refine F.ok SC (fun vs H Q E h=>?_)<|fun cdv A outer s H vs Q E hr h=>?_;·obtain⟨_,_,_,_,rfl,_⟩:=h;rfl
 ·obtain⟨W0,Z04,_,rfl,rfl,Z15,Er,hq⟩:=h;cases Z15;refine⟨_,(ae<|aj<|aS<|a4 (av cT ar (ah aV (pv 0) a6)<|fun _ _=>rfl)<|a4 (eX Z4P<|a4 (ah cz (pv 0) a6) a5)<|a4 (ah aV (ah cz (pv 0) a6) a6) a5),?_⟩;have E0:Ext W0 W0:=.refl W0;unfold Ci at hq;exact aG (Er:=Er) (fO (K:=K) (cU (aw (x:=EL "SZ") (l:=[83,90]) (dD _ _ (by decide +kernel))) (aE (fun _=>by decide) bM)) (dt (aE (fun _=>⟨by decide,by decide⟩) bM)) (aE (fun _=>by decide) (aE (fun _=>⟨by decide,by decide⟩) bM)))<|Fe hq fun y3 hq v4 W5 e6 h7=>hq v4 W5 (E0.trans e6) h7
theorem DK{f:Addr}{fd:F8}(F:Fun K "_law_draft" "_law_draft" (tp 44) f fd){wX:Int->Res Cd}{iu:List Int->Int->Res Int}(Z62:Cal P w K mg base "_law_card" ["_law_cell"] (3) (dO isI (rs<|qA K) wX))(Z1z:Cal P w K mg base "_law_at" ["_law_script","_law_k"] (1) (bU (isScr K) isI (rs isI) iu))(Z1W:mg "range"=none):FnOk P w K mg base CX0 (4) f fd ["_law_script","_law_at_here","_law_width"] (jw (isScr K) isI isI (ro<|qA K)<|Cj wX iu):=by
 have SC:FnScope ["_law_script","_law_at_here","_law_width"] ["_law_script","_law_at_here","_law_width"] (defScope<|tp 44):=by walk_at "F"
 refine F.ok SC (fun vs H Q E h=>?_)<|fun cdv A outer s H vs Q E hr h=>?_;·obtain⟨_,_,_,_,_,_,_,_,rfl,_⟩:=h;rfl
 ·obtain⟨W0,Z0u,Z2u,Z18,Z1D,_,_,rfl,rfl,Z0h,ZdG,Z4m,Er,hq⟩:=h;cases ZdG;cases Z4m;refine⟨_,(ae (aj (dg (N:=["_law_k","_law_script","_law_at_here"]) (cap:=[none,some 0,some 1]) (fI rfl (by decide +kernel) rfl (by decide +kernel) (by rfl) (by rfl)) rfl (i8 rfl Z1W<|a4 (pv 2) a5) (fun _ _ _ _=>(aW (i:=0) (show FC (["_law_k","_law_script","_law_at_here"]:List Str) by decide +kernel) rfl (by walk_at "L"))) (fun _ _ _ _=>cA)<|fun _ _ _ _=>(eX Z62<|a4 (eX Z1z<|a4 (pv 1)<|a4 (ah bW (pv 2)<|pv 0) a5) a5)))),?_⟩;have E0:Ext W0 W0:=.refl W0;rw[show L2.start ["_law_script","_law_at_here","_law_width"] [Z1D,.int Z2u,.int Z18]=[some Z1D,some<|.int Z2u,some<|.int Z18]from rfl];unfold Cj at hq;exact ib (Er:=Er) (cG (iU bM) fun W3 a1 v2 e4 h5 Q10 k11=>by
   have h6:=FK (R:=sh (isScr K)) e4 Z0h;cases h5;refine gn ?_;exact⟨by simp[Keep,bz],((dt (bE (bg h6) (bC bM bM))):EV Er _ [some (.int a1),some Z1D,some (.int Z2u)] _ _ _) _ (.refl _) _ k11⟩) (Fe hq fun y13 hq p14 W15 e16 hp17 o18=>hq p14 W15 (E0.trans e16) (none_of E0.h hp17) o18)
theorem DL{f:Addr}{fd:F8}(F:Fun K "_law_most" "_law_most" (tp 46) f fd):FnOk P w K mg base CX0 (1) f fd ["_law_cell"] (dO isI (rs isI)<|Ck):=by
 have SC:FnScope ["_law_cell"] ["_law_cell"] (defScope<|tp 46):=by walk_at "F"
 refine F.ok SC (fun vs H Q E h=>?_)<|fun cdv A outer s H vs Q E hr h=>?_;·obtain⟨_,_,_,_,rfl,_⟩:=h;rfl
 ·obtain⟨W0,Z04,_,rfl,rfl,Z15,Er,hq⟩:=h;cases Z15;refine⟨_,(a8 (bj (aI cv (ah aV (pv 0) a6) a6<|aJ _) (ae<|aj<|ah gK a6<|ah aV (ah cz (pv 0) a6) a6) aD)
   (ae (aj (ah aV (ah cz (pv 0) a6) a6)))),?_⟩
  have E0:Ext W0 W0:=.refl W0;unfold Ck at hq;refine bt (Er:=Er) (aK (dH (aE (fun _=>by decide) bM) ag))<|fun W1 e2=>?_;have E0:=E0.trans e2;by_cases hb10:(decide<|(Z04%3)=(0:Int))=true
  ·rw[if_pos hb10]at hq ⊢;exact aG (Er:=Er) (bC ag (aE (fun _=>by decide) (aE (fun _=>⟨by decide,by decide⟩) bM)))<|fun v3 W4 e5 h6=>hq v3 W4 (E0.trans e5) h6
  ·rw[if_neg hb10]at hq ⊢
   try dsimp only[aF]
   exact aG (Er:=Er) (aE (fun _=>by decide) (aE (fun _=>⟨by decide,by decide⟩) bM))<|fun v7 W8 e9 h10=>hq v7 W8 (E0.trans e9) h10
theorem DM{f:Addr}{fd:F8}(F:Fun K "_law_spools" "_law_spools" (tp 45) f fd){lu:Int->Int->Int->Res (List Int)}(Z1K:Cal P w K mg base "_law_row" ["_law_cell","_law_many","_law_base"] (1) (jw isI isI isI (ro isI) lu))(Z4c:mg "int"=none):FnOk P w K mg base CX0 (2) f fd ["_law_draft_here","_law_cell"] (bU (isL<|qA K) isI (rs jg)<|Cm lu):=by
 have SC:FnScope ["_law_draft_here","_law_cell","_law_out","_law_draws","_law_k","_law_card_here","_law_colour","_law_left_out"] ["_law_draft_here","_law_cell"] (defScope<|tp 45):=by walk_at "F"
 refine F.ok SC (fun vs H Q E h=>?_)<|fun cdv A outer s H vs Q E hr h=>?_;·obtain⟨_,_,_,_,_,_,rfl,_⟩:=h;rfl
 ·obtain⟨W0,Z1d,Z04,Z1a,_,rfl,rfl,Z12,Z15,Er,hq⟩:=h;cases Z15;refine⟨_,(a8 (fk 2 o8)
   (a8 (fk 3<|eX Z1K<|a4 (ah cz (pv 1) a6)<|a4 a6<|a4 a6 a5)
   (a8 (fk 4 a6)
   (a8 (et Gf rfl (dq (K:=K) rfl<|pv 0) (gG 5) (ae (et Gf rfl (jr<|av (az (K:=K) rfl) (pv 5) a6<|fun _ _=>rfl) (gG 6) (a8 (fk 7<|eA cv (ah aV (av (bG (K:=K) rfl) (pv 3) (pv 4)<|fun _ _=>rfl) a6) a6<|aJ _)
   (a8 (bj (LU (mX (zv (rV (eU hr) (pv 6)<|pv 2) (by with_unfolding_all rfl))<|jY<|dZ<|cK<|pv 7)) (a8 (iR (eU hr) (pv 2) (pv 6) (av (bG (K:=K) rfl) (pv 3) (pv 4)<|fun _ _=>rfl) rfl)
   (ae (bj (aI cv (ah aV (pv 1) a6) a6 (aJ _)) (ae (iR (eU hr) (pv 2) (pv 6) a6 rfl)) aD))) aD)
   (ae (fk 4 (ah bW (pv 4) a6))))))))
   (a8 (bj (aI cv (ah aV (av (bG (K:=K) rfl) (pv 3) a6<|fun _ _=>rfl) a6) a6<|aJ _) (ae (iR (eU hr) (pv 2) ar (ah jm (av (bG (K:=K) rfl) (pv 3) a6<|fun _ _=>rfl) (cw lQ (by rfl) Z4c Ib<|a4 (eA nQ (ah aV (av (bG (K:=K) rfl) (pv 3) a6<|fun _ _=>rfl) a6) a6<|aJ _) a5)) rfl)) aD)
   (ae (r9 (i:=2) (aj (pv 2))))))))),?_⟩
  have E0:Ext W0 W0:=.refl W0;unfold Cm at hq;refine ig (Er:=Er) (qS (g:=(fun(a:Tx)=>FU<|sOf a)) (R:=isI))<|fun p3 W1 e2 hp4 o5=>?_;have fr6:=none_of E0.h hp4;have E0:=E0.trans e2;have Z12:=EG e2.g Z12;refine aA (Er:=Er) (G7 (fZ (aE (fun _=>⟨by decide,by decide⟩) bM) ag ag))<|(ED hq).imp fun y9 hq v10 W7 e8 h11=>?_;have E0:=E0.trans e8;have Z12:=EG e8.g Z12;have o5:=o5.mono e8;refine aA (Er:=Er) ag<|fun v14 W12 e13 h15=>?_;cases h15;have E0:=E0.trans e13;have Z12:=EG e13.g Z12;have o5:=o5.mono e13;have h11:=EG e13.g h11;refine fy (Er:=Er) (f:=(AF Z04 y9)) (s0:=((0:Int),([]:List (Tx×Int)))) (Iv:=fun(s18:(Int×dv))(W19:Wd)(g20:St)=>∃(d22:Option V)(d23:Option V)(d24:Option V),g20=[some Z1a,some<|.int Z04,some<|.ref p3,some v10,some<|.int s18.1,d24,d22,d23]/\Ext W0 W19/\OwD (fun(a:Tx)=>FU<|sOf a) isI W19 p3 s18.2) (eZ<|bg Z12) (ED hq) ?_ ?_ ?_
  ·intro W36 e37;have E0:=E0.trans e37;have o5:=o5.mono e37;have h11:=EG e37.g h11;exact⟨_,_,_,rfl,E0,o5⟩
  ·intro Wb25 W26 W27 a16 v28 s17 sg29 P30 hW31 hB32 iv e33 h34 hq;obtain⟨d22,d23,d24,rfl,E0,o21⟩:=iv;have h11:=EG hW31 h11;have E0:=E0.trans e33;have hB32:=hB32.trans e33.g;have o21:=o21.mono e33;have h11:=EG e33.g h11;refine gn (σ':=[some Z1a,some<|.int Z04,some<|.ref p3,some v10,some<|.int s17.1,some v28,d22,d23]) ?_;unfold AF at hq;refine nz (Er:=Er) (f:=(AE Z04 y9)) (s0:=(s17.1,s17.2)) (Iv:=fun(s42:(Int×dv))(W43:Wd)(g44:St)=>∃(d46:Option V)(d47:Option V),g44=[some Z1a,some<|.int Z04,some<|.ref p3,some v10,some<|.int s42.1,some v28,d47,d46]/\Ext W0 W43/\OwD (fun(a:Tx)=>FU<|sOf a) isI W43 p3 s42.2) (jx<|bx (f:=fun(b:Cd)=>b.2.1) pJ<|bg h34) (ED hq) ?_ ?_ ?_
   ·intro W59 e60;have E0:=E0.trans e60;have hB32:=hB32.trans e60.g;have o21:=o21.mono e60;have h11:=EG e60.g h11;have h34:=EG e60.g h34;exact⟨_,_,rfl,E0,o21⟩
   ·intro Wb48 W49 W50 a40 v51 s41 sg52 P53 hW54 hB55 iv e56 h57 hq;obtain⟨d46,d47,rfl,E0,o45⟩:=iv;have hB32:=hB32.trans hW54;have h11:=EG hW54 h11;have h34:=EG hW54 h34;have E0:=E0.trans e56;have hB32:=hB32.trans e56.g;have hB55:=hB55.trans e56.g;have o45:=o45.mono e56;have h11:=EG e56.g h11;have h34:=EG e56.g h34;cases h57;refine gn (σ':=[some Z1a,some<|.int Z04,some<|.ref p3,some v10,some<|.int s41.1,some v28,some<|.str<|sOf a40,d46]) ?_;unfold AE at hq;refine aA (Er:=Er) (dH (aE (fun _=>by decide)<|eV (Hk<|bg h11) bM) ag)<|(ED hq).imp fun y67 hq v68 W63 e64 h69=>?_;cases h69;have E0:=E0.trans e64;have hB32:=hB32.trans e64.g;have hB55:=hB55.trans e64.g;have o45:=o45.mono e64;have h11:=EG e64.g h11;have h34:=EG e64.g h34;refine l8 (Er:=Er) (Iv:=fun(s106:dv)(W107:Wd)(g108:St)=>g108=[some Z1a,some<|.int Z04,some<|.ref p3,some v10,some<|.int s41.1,some v28,some<|.str<|sOf a40,some<|.bl y67]/\Ext W0 W107/\OwD (fun(a:Tx)=>FU<|sOf a) isI W107 p3 s106) (uO (aK<|sJ iL kS o45 cW)<|fx<|jv Dl) (ED hq) ?_ ?_ ?_
    ·intro W71 N74 e72 hN75 hq;have hs76:=e72.g;have E0:=E0.trans e72;have hB32:=hB32.trans e72.g;have hB55:=hB55.trans e72.g;have o45:=o45.mono e72;have h11:=EG e72.g h11;have h34:=EG e72.g h34;refine sL (Er:=Er) iL kS o45 (eV (Hk<|bg h11) bM) cW<|(ED hq).imp fun y81 hq W77 mu78 o79=>?_;have E0:=mu78.e _ E0 fr6;have hB32:=hB32.trans mu78.g;have hB55:=hB55.trans mu78.g;have hs76:=hs76.trans mu78.g;have h11:=EG mu78.g h11;have h34:=EG mu78.g h34;refine pL (Er:=Er) (Iv:=fun(s97:dv)(W98:Wd)(g99:St)=>g99=[some Z1a,some<|.int Z04,some<|.ref p3,some v10,some<|.int s41.1,some v28,some<|.str<|sOf a40,some<|.bl y67]/\Ext W0 W98/\OwD (fun(a:Tx)=>FU<|sOf a) isI W98 p3 s97) (aK (dH (aE (fun _=>by decide) bM) ag)) (ED hq) ?_ ?_ ?_
     ·intro W82 N85 e83 hN86 hq;have hs87:=e83.g;have E0:=E0.trans e83;have hB32:=hB32.trans e83.g;have hB55:=hB55.trans e83.g;have hs76:=hs76.trans e83.g;have h11:=EG e83.g h11;have h34:=EG e83.g h34;have o79:=o79.mono e83;refine iY (Er:=Er) iL kS o79 ag cW<|(ED hq).imp fun y91 hq W88 mu89 o90=>?_;have E0:=mu89.e _ E0 fr6;have hB32:=hB32.trans mu89.g;have hB55:=hB55.trans mu89.g;have hs76:=hs76.trans mu89.g;have hs87:=hs87.trans mu89.g;have h11:=EG mu89.g h11;have h34:=EG mu89.g h34;exact hN86 y91 W88 _ hs87 ⟨rfl,E0,o90⟩ hq
     ·intro W82 N85 e83 hN86 hq;have hs92:=e83.g;have E0:=E0.trans e83;have hB32:=hB32.trans e83.g;have hB55:=hB55.trans e83.g;have hs76:=hs76.trans e83.g;have h11:=EG e83.g h11;have h34:=EG e83.g h34;have o79:=o79.mono e83
      try dsimp only[aF]
      exact hN86 y81 W82 _ hs92 ⟨rfl,E0,o79⟩ hq
     ·intro s93 W94 sg95 hS96 iv hq;obtain⟨rfl,E0,o100⟩:=iv;have hB32:=hB32.trans hS96;have hB55:=hB55.trans hS96;have hs76:=hs76.trans hS96;have h11:=EG hS96 h11;have h34:=EG hS96 h34;exact hN75 s93 W94 _ hs76 ⟨rfl,E0,o100⟩ hq
    ·intro W71 N74 e72 hN75 hq;have hs101:=e72.g;have E0:=E0.trans e72;have hB32:=hB32.trans e72.g;have hB55:=hB55.trans e72.g;have o45:=o45.mono e72;have h11:=EG e72.g h11;have h34:=EG e72.g h34
     try dsimp only[aF]
     exact hN75 s41.2 W71 _ hs101 ⟨rfl,E0,o45⟩ hq
    ·intro s102 W103 sg104 hS105 iv hq;obtain⟨rfl,E0,o109⟩:=iv;have hB32:=hB32.trans hS105;have hB55:=hB55.trans hS105;have h11:=EG hS105 h11;have h34:=EG hS105 h34;refine l7 (Er:=Er) (bC bM ag)<|fun v112 W110 e111 h113=>?_;cases h113;have E0:=E0.trans e111;have hB32:=hB32.trans e111.g;have hB55:=hB55.trans e111.g;have o109:=o109.mono e111;have h11:=EG e111.g h11;have h34:=EG e111.g h34
     try dsimp only
     refine eJ (W:=W110) ((s41.1+(1:Int)),s102) hB55 ?_ hq;exact⟨_,_,rfl,E0,o109⟩
   ·intro s114 W115 sg116 hS117 iv hq;obtain⟨d46,d47,rfl,E0,o45⟩:=iv;have hB32:=hB32.trans hS117;have h11:=EG hS117 h11;have h34:=EG hS117 h34
    try dsimp only
    refine eJ (W:=W115) (s114.1,s114.2) hB32 ?_ hq;exact⟨_,_,_,rfl,E0,o45⟩
  ·intro s118 W119 sg120 hS121 iv hq;obtain⟨d22,d23,d24,rfl,E0,o21⟩:=iv;have h11:=EG hS121 h11;refine l8 (Er:=Er) (Iv:=fun(s146:dv)(W147:Wd)(g148:St)=>g148=[some Z1a,some<|.int Z04,some<|.ref p3,some v10,some<|.int s118.1,d24,d22,d23]/\Ext W0 W147/\OwD (fun(a:Tx)=>FU<|sOf a) isI W147 p3 s146) (aK (dH (aE (fun _=>by decide)<|eV (Hk<|bg h11) ag) ag)) (ED hq) ?_ ?_ ?_
   ·intro W125 N128 e126 hN129 hq;have hs130:=e126.g;have E0:=E0.trans e126;have o21:=o21.mono e126;have h11:=EG e126.g h11;refine iY (Er:=Er) iL kS o21 (pI (eV (Hk<|bg h11) ag) (qN (eG (aE (fun _=>by decide)<|eV (Hk<|bg h11) ag) ag))) (aw (x:=EL "q") (l:=[113]) (dD _ _ (by decide +kernel)))<|(ED hq).imp fun y140 hq W136 mu137 o138=>?_;have E0:=mu137.e _ E0 fr6;have hs130:=hs130.trans mu137.g;exact hN129 y140 W136 _ hs130 ⟨rfl,E0,o138⟩ hq
   ·intro W125 N128 e126 hN129 hq;have hs141:=e126.g;have E0:=E0.trans e126;have o21:=o21.mono e126;have h11:=EG e126.g h11
    try dsimp only[aF]
    exact hN129 s118.2 W125 _ hs141 ⟨rfl,E0,o21⟩ hq
   ·intro s142 W143 sg144 hS145 iv hq;obtain⟨rfl,E0,o149⟩:=iv;refine rf o149 E0 fr6 fun W150 E0 hS151 h153 hk152=>?_;exact aG (Er:=Er) (bg h153)<|fun v154 W155 e156 h157=>hq v154 W155 (E0.trans e156) h157
theorem DN{f:Addr}{fd:F8}(F:Fun K "_law_loom_parts" "_law_loom_parts" (tp 48) f fd){iu:List Int->Int->Res Int}{tV:List Int->Int->Int->Res (List Cd)}{yq:Int->Res Int}{yr:(List Cd)->Int->Res dv}(Z1z:Cal P w K mg base "_law_at" ["_law_script","_law_k"] (1) (bU (isScr K) isI (rs isI) iu))(Z3u:Cal P w K mg base "_law_draft" ["_law_script","_law_at_here","_law_width"] (4) (jw (isScr K) isI isI (ro<|qA K) tV))(Z63:Cal P w K mg base "_law_most" ["_law_cell"] (1) (dO isI (rs isI) yq))(Z4n:Cal P w K mg base "_law_spools" ["_law_draft_here","_law_cell"] (2) (bU (isL<|qA K) isI (rs jg) yr))(Z4d:mg "max"=none)(Z8J:mg "min"=none):FnOk P w K mg base CX0 (5) f fd ["_law_script"] (dO (isScr K) (rs<|isT3 K (isL<|qA K) isI jg)<|Cn iu tV yq yr):=by
 have SC:FnScope ["_law_script","_law_width","_law_draft_here"] ["_law_script"] (defScope<|tp 48):=by walk_at "F"
 refine F.ok SC (fun vs H Q E h=>?_)<|fun cdv A outer s H vs Q E hr h=>?_;·obtain⟨_,_,_,_,rfl,_⟩:=h;rfl
 ·obtain⟨W0,Z0u,Z1D,rfl,rfl,Z0h,Er,hq⟩:=h;refine⟨_,(a8 (fk 1<|ah bW a6<|ah aV (eX Z1z<|a4 (pv 0)<|a4 a6 a5) a6)
   (a8 (fk 2 (ah gN (eX Z3u (a4 (pv 0) (a4 a6 (a4 (ak (rN rfl) (by rfl) Z8J KR<|a4 (pv 1)<|a4 a6 a5) a5)))) (eX Z3u (a4 (pv 0) (a4 a6 (a4 (ak (jo rfl) (by rfl) Z4d Ic<|a4 a6<|a4 (ah gK (pv 1) a6) a5) a5))))))
   (ae (aj (aS (a4 (pv 2) (a4 (eX Z63 (a4 (eX Z1z (a4 (pv 0) (a4 a6 a5))) a5)) (a4 (eX Z4n (a4 (pv 2) (a4 (eX Z1z (a4 (pv 0) (a4 a6 a5))) a5))) a5)))))))),?_⟩
  have E0:Ext W0 W0:=.refl W0;unfold Cn at hq;refine aA (Er:=Er) (bC ag (aE (fun _=>by decide)<|bE (bg Z0h) ag))<|(ED hq).imp fun y5 hq v6 W1 e2 h7=>?_;cases h7;have E0:=E0.trans e2;have Z0h:=EG e2.g Z0h;refine aA (Er:=Er) (G7<|fP (Ig<|fZ (bg Z0h) ag<|xR bM ag)<|Ig<|fZ (bg Z0h) ag<|nA ag<|bC bM ag)<|(ED hq).imp fun y12 hq v13 W8 e9 h14=>?_;have E0:=E0.trans e9;have Z0h:=EG e9.g Z0h;exact aG (Er:=Er) (fO (K:=K) (bg h14) (dt<|bE (bg Z0h) ag)<|bE (bg h14)<|bE (bg Z0h) ag)<|Fe hq fun y19 hq v20 W21 e22 h23=>hq v20 W21 (E0.trans e22) h23
theorem DO{f:Addr}{fd:F8}{Z00:Addr}(F:Fun K "__init__" "Stage.__init__" (tq 31 0) f fd)(Z0k:Cls K Z00)(Z16:NoAttr K Z00 "deed")(Z0t:NoAttr K Z00 "standing")(Z0H:NoAttr K Z00 "reached")(Z0I:NoAttr K Z00 "highest")(Z0J:NoAttr K Z00 "lengths")(Z1m:NoAttr K Z00 "pick"):FnOk P w K mg base CX0 (1) f fd ["self","deed","standing","reached","highest","lengths","pick"] (tj Z00 ["deed","standing","reached","highest","lengths","pick"]):=by
 have SC:FnScope ["self","deed","standing","reached","highest","lengths","pick"] ["self","deed","standing","reached","highest","lengths","pick"] (defScope<|tq 31 0):=by walk_at "F"
 refine F.ok SC (fun vs H Q E h=>?_)<|fun cdv A outer s H vs Q E hr h=>?_;·obtain⟨_,_,us,rfl,hl,_⟩:=h;rw[FV,hl];rfl
 ·obtain⟨aa,dx,us,rfl,hl,ha,hq⟩:=h
  match us,hl,hq with
  | [u0,u1,u2,u3,u4,u5],_,hq=>
   refine⟨_,(a8 (fq (pv 0) (pv 1) rfl)
   (a8 (fq (pv 0) (pv 2) rfl)
   (a8 (fq (pv 0) (pv 3) rfl)
   (a8 (fq (pv 0) (pv 4) rfl)
   (a8 (fq (pv 0) (pv 5) rfl)
   (ae (fq (pv 0) (pv 6) rfl))))))),?_⟩
   refine⟨u0,rfl,.ref aa,rfl,aa,Z00,dx,_,rfl,ha,Z0k,Z16,(by show 0<1000;decide),⟨u1,rfl,.ref aa,rfl,aa,Z00,dx,_,rfl,aq,Z0k,Z0t,(by show 1<1000;decide),⟨u2,rfl,.ref aa,rfl,aa,Z00,dx,_,rfl,aq,Z0k,Z0H,(by show 2<1000;decide),⟨u3,rfl,.ref aa,rfl,aa,Z00,dx,_,rfl,aq,Z0k,Z0I,(by show 3<1000;decide),⟨u4,rfl,.ref aa,rfl,aa,Z00,dx,_,rfl,aq,Z0k,Z0J,(by show 4<1000;decide),⟨u5,rfl,.ref aa,rfl,aa,Z00,dx,_,rfl,aq,Z0k,Z1m,(by show 5<1000;decide),?_⟩⟩⟩⟩⟩⟩;show Q .non _
   repeat rw[qo]
   exact hq
theorem DP{f:Addr}{fd:F8}(F:Fun K "first_stage" "first_stage" (tp 32) f fd){Z00:Addr}(Z2L:CalI P w K mg base "Stage" Z00 ["self","deed","standing","reached","highest","lengths","pick"] (1) (tj Z00 ["deed","standing","reached","highest","lengths","pick"]))(Z0k:Cls K Z00)(Z2m:mg "dict"=none)(Z0C:mg "len"=none)(Z17:mg "list"=none):FnOk P w K mg base CX0 (3) f fd ["draft","spools"] (bU (isL<|qA K) jg (rs<|aT K Z00)<|Co):=by
 have SC:FnScope ["draft","spools"] ["draft","spools"] (defScope<|tp 32):=by walk_at "F"
 refine F.ok SC (fun vs H Q E h=>?_)<|fun cdv A outer s H vs Q E hr h=>?_;·obtain⟨_,_,_,_,_,_,rfl,_⟩:=h;rfl
 ·obtain⟨W0,draft,spools,Z3Q,Z7j,rfl,rfl,Z0P,Z1g,Er,hq⟩:=h;refine⟨_,(ae (aj (kf Z2L (hr.mono (by decide)) (by rfl) (a4 ji (a4 (cw (cN (K:=K) rfl) (by rfl) Z17 Ga<|a4 (pv 0) a5) (a4 (ah um (bX<|a4 a6 a5) (ak (bJ (K:=K) rfl) (by rfl) Z0C G2<|a4 (pv 0) a5)) (a4 (ah um (bX<|a4 a6 a5) (ak (bJ (K:=K) rfl) (by rfl) Z0C G2<|a4 (pv 0) a5)) (a4 (vJ (cw ip (by rfl) Z2m HW<|a4 (pv 1) a5))<|a4 ji a5)))))))),?_⟩;have E0:Ext W0 W0:=.refl W0;unfold Co at hq;exact aG (Er:=Er) (lp (iN<|iN<|iN<|iN<|iN Ab)<|bF (cV (K:=K) vi zQ)<|bF (G7<|fA<|Hk<|bg Z0P)<|bF (G7<|qZ (Ig<|di<|bc ag<|dh (R:=isI))<|eY<|Hk<|bg Z0P)<|bF (G7<|qZ (Ig<|di<|bc ag<|dh (R:=isI))<|eY<|Hk<|bg Z0P)<|bF (EVd.ev<|j6<|M5<|bg Z1g)<|ll<|nt (R:=(qD K)))<|Fe hq fun y6 hq v7 W8 e9 h10=>hq v7 W8 (E0.trans e9) h10
theorem DQ{f:Addr}{fd:F8}(F:Fun K "__init__" "Loom.__init__" (tq 38 0) f fd){yu:(List Cd)->dv->Res eM}{Z00 Z01:Addr}(Z4o:Cal P w K mg base "first_stage" ["draft","spools"] (3) (bU (isL<|qA K) jg (rs<|aT K Z00) yu))(Z0j:Cls K Z01)(Z0p:NoAttr K Z01 "course")(Z2p:NoAttr K Z01 "most")(Z2d:NoAttr K Z01 "start")(Z0Q:NoAttr K Z01 "undone"):FnOk P w K mg base CX0 (4) f fd ["self","draft","most","spools"] (rg Z01 (eN K Z00) (wC (sh<|isL<|qA K)<|wC (sh isI)<|wC (sh jg) wN)<|fun a=>Bw yu a.1 a.2.1 a.2.2.1):=by
 have SC:FnScope ["self","draft","most","spools"] ["self","draft","most","spools"] (defScope<|tq 38 0):=by walk_at "F"
 refine F.ok SC (fun vs H Q E h=>?_)<|fun cdv A outer s H vs Q E hr h=>?_;·obtain⟨_,_,_,_,_,us,_,rfl,_,_,_,_,_,_,_,_,ra,_⟩:=h;obtain⟨_,us,rfl,_,ra⟩:=ra;obtain⟨_,us,rfl,_,ra⟩:=ra;obtain⟨_,us,rfl,_,ra⟩:=ra;cases ra;rfl
 ·obtain⟨W0,W,aa,dx,ax,us,rfl,rfl,E0,n1,n2,nd,ga,gd,ha,hd,ra,Er,hq⟩:=h;obtain⟨draft,most,spools,_⟩:=ax;obtain⟨Z3Q,us,rfl,Z0P,ra⟩:=ra;replace Z0P:(sh<|isL<|qA K) W0 draft Z3Q:=Z0P;obtain⟨Zhs,us,rfl,ZbH,ra⟩:=ra;replace ZbH:(sh isI) W0 most Zhs:=ZbH;obtain⟨Z7j,us,rfl,Z1g,ra⟩:=ra;replace Z1g:(sh jg) W0 spools Z7j:=Z1g;cases ra;have Z0P:=EG E0.g Z0P;cases ZbH;have Z1g:=EG E0.g Z1g;replace hq:(Bw yu draft most spools).OkE Er (fun b=>∀W' F,Ext W0 W'->(∀q,F q->W0.H q=none)->oOb Z01 (eN K Z00) W' F b (.ref aa)->Q .non W'.H):=hq;refine⟨_,(a8 (fq (pv 0) (pv 2) rfl)
   (a8 (fq (pv 0) (eX Z4o<|a4 (pv 1)<|a4 (pv 3) a5) rfl)
   (a8 (fq (pv 0) (bX a5) rfl)
   (ae (fq (pv 0) (bX a5) rfl))))),?_⟩
  have S:Sep W0 W [tc (oRaw Z01 aa dx []) () (.ref aa)]:=L9 (R:=oRaw Z01 aa dx []) (F:=fun q=>q=aa\/q=dx) ⟨rfl,ga,gd,ha,hd,nd,fun q=>Jy⟩ (fun q hq=>hq.elim (fun z=>by rw[z];exact n1) fun z=>by rw[z];exact n2);unfold Bw at hq;refine lj (Er:=Er) Z0j Z2p (by show 0<1000;decide) S E0 (EV.trf bM)<|fun u1 W2 E0 hS3 S=>?_;rw[ja]at S;have S:Sep W0 W2 [tc (oRaw Z01 aa dx [("most",u1)]) () (.ref aa),tc (fz isI) most u1]:=S;have Z0P:=EG hS3 Z0P;have Z1g:=EG hS3 Z1g;refine lj (Er:=Er) Z0j Z2d (by show 1<1000;decide) S E0 (EV.trf<|bE (bg Z0P)<|bg Z1g)<|(ED hq).imp fun y7 hq u4 W5 E0 hS6 S=>?_;rw[ir (by decide),ja]at S;have S:Sep W0 W5 [tc (oRaw Z01 aa dx [("most",u1),("start",u4)]) () (.ref aa),tc (fz isI) most u1,tc (fz<|aT K Z00) y7 u4]:=S;have Z0P:=EG hS6 Z0P;have Z1g:=EG hS6 Z1g;refine lj (Er:=Er) Z0j Z0p (by show 2<1000;decide) S E0 (j4 (R:=(fz<|aT K Z00)))<|fun u8 W9 E0 hS10 S=>?_;rw[ir (by decide),ir (by decide),ja]at S;have S:Sep W0 W9 [tc (oRaw Z01 aa dx [("most",u1),("start",u4),("course",u8)]) () (.ref aa),tc (fz isI) most u1,tc (fz<|aT K Z00) y7 u4,tc (oL<|fz<|aT K Z00) ([]:List eM) u8]:=S;have Z0P:=EG hS10 Z0P;have Z1g:=EG hS10 Z1g;refine vV (Er:=Er) Z0j Z0Q (by show 3<1000;decide) S E0 (j4 (R:=(fz<|aT K Z00)))<|fun u11 W12 E0 hS13 S=>?_;rw[ir (by decide),ir (by decide),ir (by decide),ja]at S;have S:Sep W0 W12 [tc (oRaw Z01 aa dx [("most",u1),("start",u4),("course",u8),("undone",u11)]) () (.ref aa),tc (fz isI) most u1,tc (fz<|aT K Z00) y7 u4,tc (oL<|fz<|aT K Z00) ([]:List eM) u8,tc (oL<|fz<|aT K Z00) ([]:List eM) u11]:=S;have Z0P:=EG hS13 Z0P;have Z1g:=EG hS13 Z1g;obtain⟨F,hF,t⟩:=Dc S;exact hq _ F E0 hF t
abbrev jh(K:EH):=isT4 K (isL<|qA K) (isL isI) (isL isI) jg
theorem DS{f:Addr}{fd:F8}(F:Fun K "_law_begin" "_law_begin" (tp 47) f fd)(Z2m:mg "dict"=none)(Z17:mg "list"=none):FnOk P w K mg base CX0 (1) f fd ["_law_draft_here","_law_spools_here"] (bU (isL<|qA K) jg (rs<|jh K)<|Cp):=by
 have SC:FnScope ["_law_draft_here","_law_spools_here"] ["_law_draft_here","_law_spools_here"] (defScope<|tp 47):=by walk_at "F"
 refine F.ok SC (fun vs H Q E h=>?_)<|fun cdv A outer s H vs Q E hr h=>?_;·obtain⟨_,_,_,_,_,_,rfl,_⟩:=h;rfl
 ·obtain⟨W0,Z1d,Z3a,Z1a,Z5X,rfl,rfl,Z12,Z9L,Er,hq⟩:=h;refine⟨_,(ae (aj (aS (a4 (cw (cN (K:=K) rfl) (by rfl) Z17 Ga<|a4 (pv 0) a5) (a4 (dg (N:=["_law_card_here"]) (cap:=[none]) (fI rfl (by decide +kernel) rfl (by decide +kernel) (by rfl) (by rfl)) rfl (dq (K:=K) rfl<|pv 0) (fun _ _ _ _=>(aW (i:=0) (show FC (["_law_card_here"]:List Str) by decide +kernel) rfl (by walk_at "L"))) (fun _ _ _ _=>cA)<|fun _ _ _ _=>a6) (a4 (dg (N:=["_law_card_here"]) (cap:=[none]) (fI rfl (by decide +kernel) rfl (by decide +kernel) (by rfl) (by rfl)) rfl (dq (K:=K) rfl<|pv 0) (fun _ _ _ _=>(aW (i:=0) (show FC (["_law_card_here"]:List Str) by decide +kernel) rfl (by walk_at "L"))) (fun _ _ _ _=>cA)<|fun _ _ _ _=>a6) (a4 (vJ (cw ip (by rfl) Z2m HW<|a4 (pv 1) a5)) a5))))))),?_⟩;have E0:Ext W0 W0:=.refl W0;rw[show L2.start ["_law_draft_here","_law_spools_here"] [Z1a,Z5X]=[some Z1a,some Z5X]from rfl];unfold Cp at hq;exact aG (Er:=Er) (nH (K:=K) (G7<|fA<|Hk<|bg Z12) (G7 (cG (eZ<|bg Z12) fun W3 a1 v2 e4 h5 Q8 k9=>by
   refine gn ?_;exact⟨by simp[Keep,bz],(ag:EV Er _ [some v2] _ _ _) _ (.refl _) _ k9⟩)) (G7 (cG (eZ (bg Z12)) fun W12 a10 v11 e13 h14 Q17 k18=>by
   refine gn ?_;exact⟨by simp[Keep,bz],(ag:EV Er _ [some v11] _ _ _) _ (.refl _) _ k18⟩)) (EVd.ev (j6 (M5 (bg Z9L))))) (Fe hq fun y21 hq v22 W23 e24 h25=>hq v22 W23 (E0.trans e24) h25)
theorem DT{f:Addr}{fd:F8}(F:Fun K "_law_sign" "_law_sign" (tp 50) f fd):FnOk P w K mg base CX0 (1) f fd ["_law_cell"] (dO isI (rs isS)<|Cq):=by
 have SC:FnScope ["_law_cell","_law_some"] ["_law_cell"] (defScope<|tp 50):=by walk_at "F"
 refine F.ok SC (fun vs H Q E h=>?_)<|fun cdv A outer s H vs Q E hr h=>?_;·obtain⟨_,_,_,_,rfl,_⟩:=h;rfl
 ·obtain⟨W0,Z04,_,rfl,rfl,Z15,Er,hq⟩:=h;cases Z15;refine⟨_,(a8 (fk 1 ar)
   (a8 (fk 1<|ah bu (pv 1) ar)
   (ae (aj (av cT (pv 1) (ah aV (pv 0) a6) (fun _ _=>rfl)))))),?_⟩
  have E0:Ext W0 W0:=.refl W0;unfold Cq at hq;refine aA (Er := Er) (aw (x := EL " !\"#$&'()*+,-./0123456789:;<=>?@ABCDEFGHIJKLMNOPQRSTUVWXYZ[\\]^_`") (l := [32, 33, 34, 35, 36, 38, 39, 40, 41, 42, 43, 44, 45, 46, 47, 48, 49, 50, 51, 52, 53, 54, 55, 56, 57, 58, 59, 60, 61, 62, 63, 64, 65, 66, 67, 68, 69, 70, 71, 72, 73, 74, 75, 76, 77, 78, 79, 80, 81, 82, 83, 84, 85, 86, 87, 88, 89, 90, 91, 92, 93, 94, 95, 96]) (dD _ _ (by decide +kernel))) (fun v3 W1 e2 h4 => ?_);cases h4;have E0:=E0.trans e2;refine aA (Er:=Er) (cC (bB (R:=sh isS) (a:=([32,33,34,35,36,38,39,40,41,42,43,44,45,46,47,48,49,50,51,52,53,54,55,56,57,58,59,60,61,62,63,64,65,66,67,68,69,70,71,72,73,74,75,76,77,78,79,80,81,82,83,84,85,86,87,88,89,90,91,92,93,94,95,96]:Tx)) (v:=.str (sOf ([32,33,34,35,36,38,39,40,41,42,43,44,45,46,47,48,49,50,51,52,53,54,55,56,57,58,59,60,61,62,63,64,65,66,67,68,69,70,71,72,73,74,75,76,77,78,79,80,81,82,83,84,85,86,87,88,89,90,91,92,93,94,95,96]:Tx))) rfl) (aw (x:=EL "abcdefghijklmnopqrstuvwxyz{|}~\n") (l:=[97,98,99,100,101,102,103,104,105,106,107,108,109,110,111,112,113,114,115,116,117,118,119,120,121,122,123,124,125,126,10]) (dD _ _ (by decide +kernel)))) ((ED hq).imp fun y7 hq v8 W5 e6 h9=>?_);cases h9;have E0:=E0.trans e6;exact aG (Er:=Er) (cU cW (aE (fun _=>by decide) bM)) (Fe hq fun y10 hq v11 W12 e13 h14=>hq v11 W12 (E0.trans e13) h14)
theorem DU{f:Addr}{fd:F8}(F:Fun K "_law_spoil" "_law_spoil" (tp 51) f fd){yx:Int->Res Tx}(Z64:Cal P w K mg base "_law_sign" ["_law_cell"] (1) (dO isI (rs isS) yx))(Z0C:mg "len"=none):FnOk P w K mg base CX0 (2) f fd ["_law_text","_law_cell"] (bU isS isI (rs isS)<|Cr yx):=by
 have SC:FnScope ["_law_text","_law_cell","_law_at_here","_law_sign_here","_law_twin"] ["_law_text","_law_cell"] (defScope<|tp 51):=by walk_at "F"
 refine F.ok SC (fun vs H Q E h=>?_)<|fun cdv A outer s H vs Q E hr h=>?_;·obtain⟨_,_,_,_,_,_,rfl,_⟩:=h;rfl
 ·obtain⟨W0,Z1F,Z04,_,_,rfl,rfl,Zh2,Z15,Er,hq⟩:=h;cases Zh2;cases Z15
  refine⟨_,(a8 (fk 2 (ah aV (ah cz (pv 1) a6) (ah bW (ak (bJ (K:=K) rfl) (by rfl) Z0C G2<|a4 (pv 0) a5) a6)))
   (a8 (fk 3<|eX Z64<|a4 (ah cz (pv 1) a6) a5)
   (a8 (bj (aI cv (ah aV (pv 1) a6) a6<|aJ _) (ae<|aj<|ah bu (ah bu (bY eF (pv 0) dC<|cf<|pv 2)<|pv 3)<|bY eF (pv 0) (cf<|pv 2) dC) aD)
   (a8 (bj (aI cv (ah aV (pv 1) a6) a6<|aJ _) (ae<|aj<|ah bu (bY eF (pv 0) dC<|cf<|pv 2)<|bY eF (pv 0) (cf<|ah bW (pv 2) a6) dC) aD)
   (a8 (bj (aI cv (ah aV (pv 1) a6) a6<|aJ _) (ae<|aj<|ah bu (ah bu (bY eF (pv 0) dC<|cf<|pv 2)<|pv 3)<|bY eF (pv 0) (cf<|ah bW (pv 2) a6) dC) aD)
   (a8 (bj (aI cv (ah aV (pv 1) a6) a6<|aJ _) (ae<|aj<|ah bu (ah bu (bY eF (pv 0) dC<|cf<|pv 2)<|bY eF (pv 0) (cf<|pv 2)<|cf<|ah bW (pv 2) a6)<|bY eF (pv 0) (cf<|pv 2) dC) aD)
   (a8 (fk 4<|ah bu (bY eF (pv 0) (cf<|ah bW (pv 2) a6)<|cf<|ah bW (pv 2) a6)<|bY eF (pv 0) (cf<|pv 2)<|cf<|ah bW (pv 2) a6)
   (ae (aj (ah bu (ah bu (bY eF (pv 0) dC (cf (pv 2))) (pv 4)) (bY eF (pv 0) (cf (ah bW (pv 2) a6)) dC))))))))))),?_⟩
  have E0:Ext W0 W0:=.refl W0;unfold Cr at hq;refine aA (Er:=Er) (kZ (aE (fun _=>⟨by decide,by decide⟩) bM)<|bC (ny cW) ag)<|(ED hq).imp fun y5 hq v6 W1 e2 h7=>?_;cases h7;have E0:=E0.trans e2;refine aA (Er:=Er) (dt (aE (fun _=>⟨by decide,by decide⟩) bM))<|(ED hq).imp fun y10 hq v11 W8 e9 h12=>?_;cases h12;have E0:=E0.trans e9;refine bt (Er:=Er) (aK (dH (aE (fun _=>by decide) bM) ag))<|fun W13 e14=>?_;have E0:=E0.trans e14;by_cases hb67:(decide<|(Z04%5)=(0:Int))=true
  ·rw[if_pos hb67]at hq ⊢;exact aG (Er:=Er) (cC (cC (dE cW fN<|eg bM) cW)<|dE cW (eg bM) fN)<|Fe hq fun y18 hq v19 W20 e21 h22=>hq v19 W20 (E0.trans e21) h22
  ·rw[if_neg hb67]at hq ⊢
   try dsimp only[aF]
   refine bt (Er:=Er) (aK (dH (aE (fun _=>by decide) bM) ag))<|fun W23 e24=>?_;have E0:=E0.trans e24;by_cases hb67:(decide<|(Z04%5)=(1:Int))=true
   ·rw[if_pos hb67]at hq ⊢;exact aG (Er:=Er) (cC (dE cW fN<|eg bM)<|dE cW (eg<|bC bM ag) fN)<|Fe hq fun y27 hq v28 W29 e30 h31=>hq v28 W29 (E0.trans e30) h31
   ·rw[if_neg hb67]at hq ⊢
    try dsimp only[aF]
    refine bt (Er:=Er) (aK (dH (aE (fun _=>by decide) bM) ag))<|fun W32 e33=>?_;have E0:=E0.trans e33;by_cases hb67:(decide<|(Z04%5)=(2:Int))=true
    ·rw[if_pos hb67]at hq ⊢;exact aG (Er:=Er) (cC (cC (dE cW fN<|eg bM) cW)<|dE cW (eg<|bC bM ag) fN)<|Fe hq fun y37 hq v38 W39 e40 h41=>hq v38 W39 (E0.trans e40) h41
    ·rw[if_neg hb67]at hq ⊢
     try dsimp only[aF]
     refine bt (Er:=Er) (aK (dH (aE (fun _=>by decide) bM) ag))<|fun W42 e43=>?_;have E0:=E0.trans e43;by_cases hb67:(decide<|(Z04%5)=(3:Int))=true
     ·rw[if_pos hb67]at hq ⊢;exact aG (Er:=Er) (cC (cC (dE cW fN<|eg bM)<|dE cW (eg bM)<|eg<|bC bM ag)<|dE cW (eg bM) fN)<|Fe hq fun y48 hq v49 W50 e51 h52=>hq v49 W50 (E0.trans e51) h52
     ·rw[if_neg hb67]at hq ⊢
      try dsimp only[aF]
      refine aA (Er:=Er) (cC (dE cW (eg<|bC bM ag)<|eg<|bC bM ag)<|dE cW (eg bM)<|eg<|bC bM ag)<|(ED hq).imp fun y57 hq v58 W53 e54 h59=>?_;cases h59;have E0:=E0.trans e54;exact aG (Er:=Er) (cC (cC (dE cW fN<|eg bM) cW)<|dE cW (eg<|bC bM ag) fN)<|Fe hq fun y63 hq v64 W65 e66 h67=>hq v64 W65 (E0.trans e66) h67
theorem DV{f:Addr}{fd:F8}(F:Fun K "_law_turns" "_law_turns" (tp 49) f fd){lu:Int->Int->Int->Res (List Int)}(Z1K:Cal P w K mg base "_law_row" ["_law_cell","_law_many","_law_base"] (1) (jw isI isI isI (ro isI) lu)):FnOk P w K mg base CX0 (2) f fd ["_law_cell","_law_many"] (bU isI isI (rs isS)<|Cs lu):=by
 have SC:FnScope ["_law_cell","_law_many"] ["_law_cell","_law_many"] (defScope<|tp 49):=by walk_at "F"
 refine F.ok SC (fun vs H Q E h=>?_)<|fun cdv A outer s H vs Q E hr h=>?_;·obtain⟨_,_,_,_,_,_,rfl,_⟩:=h;rfl
 ·obtain⟨W0,Z04,Z1M,_,_,rfl,rfl,Z15,Z96,Er,hq⟩:=h;cases Z15;cases Z96;refine⟨_,(a8 (bj (aI cv (ah aV (pv 0) a6) a6<|aJ _) (ae<|aj<|ah kM (av cT ar (ah aV (ah cz (pv 0) a6) a6)<|fun _ _=>rfl)<|pv 1) aD)
   (ae (aj (uX (K:=K) rfl ar (a4 (dg (N:=["_law_d"]) (cap:=[none]) (fI rfl (by decide +kernel) rfl (by decide +kernel) (by rfl) (by rfl)) rfl (dq (K:=K) rfl (eX Z1K (a4 (ah cz (pv 0) a6) (a4 (pv 1) (a4 a6 a5))))) (fun _ _ _ _=>(aW (i:=0) (show FC (["_law_d"]:List Str) by decide +kernel) rfl (by walk_at "L"))) (fun _ _ _ _=>cA) (fun _ _ _ _=>(av cT ar (pv 0) (fun _ _=>rfl)))) a5))))),?_⟩
  have E0:Ext W0 W0:=.refl W0;rw[show L2.start ["_law_cell","_law_many"] [.int Z04,.int Z1M]=[some (.int Z04),some<|.int Z1M]from rfl];unfold Cs at hq;refine bt (Er:=Er) (aK (dH (aE (fun _=>by decide) bM) ag))<|fun W1 e2=>?_;have E0:=E0.trans e2;by_cases hb24:(decide<|(Z04%7)=(3:Int))=true
  ·rw[if_pos hb24]at hq ⊢;exact aG (Er:=Er) (qJ (cU (aw (x:=EL "fbi") (l:=[102,98,105]) (dD _ _ (by decide +kernel))) (aE (fun _=>by decide) (aE (fun _=>⟨by decide,by decide⟩) bM))) bM)<|Fe hq fun y4 hq v5 W6 e7 h8=>hq v5 W6 (E0.trans e7) h8
  ·rw[if_neg hb24]at hq ⊢
   try dsimp only[aF]
   exact aG (Er:=Er) (xN (dD _ _ (by decide +kernel)) (Ig (cG (eZ (G7 (fZ (aE (fun _=>⟨by decide,by decide⟩) bM) bM ag))) fun W11 a9 v10 e12 h13 Q16 k17=>by
    cases h13;refine gn ?_;exact⟨by simp[Keep,bz],((cU (aw (x:=EL "fbi") (l:=[102,98,105]) (dD _ _ (by decide +kernel))) bM):EV Er _ [some (.int a9)] _ _ _) _ (.refl _) _ k17⟩))) (Fe hq fun y20 hq v21 W22 e23 h24=>hq v21 W22 (E0.trans e23) h24)
theorem DW{f:Addr}{fd:F8}(F:Fun K "_law_rowtext" "_law_rowtext" (tp 52) f fd){yy:Tx->Int->Res Tx}{yz:Int->Int->Res Tx}(Z4Q:Cal P w K mg base "_law_spoil" ["_law_text","_law_cell"] (2) (bU isS isI (rs isS) yy))(Z4R:Cal P w K mg base "_law_turns" ["_law_cell","_law_many"] (2) (bU isI isI (rs isS) yz)):FnOk P w K mg base CX0 (3) f fd ["_law_cell","_law_width"] (bU isI isI (rs isS)<|Ct yy yz):=by
 have SC:FnScope ["_law_cell","_law_width"] ["_law_cell","_law_width"] (defScope<|tp 52):=by walk_at "F"
 refine F.ok SC (fun vs H Q E h=>?_)<|fun cdv A outer s H vs Q E hr h=>?_;·obtain⟨_,_,_,_,_,_,rfl,_⟩:=h;rfl
 ·obtain⟨W0,Z04,Z18,_,_,rfl,rfl,Z15,Z4m,Er,hq⟩:=h;cases Z15;cases Z4m;refine⟨_,(a8 (bj (aI cv (ah aV (pv 0) a6) a6<|aJ _) (ae<|aj<|eX Z4Q<|a4 (bY eF ar dC<|cf<|pv 1)<|a4 (ah cz (pv 0) a6) a5) aD)
   (a8 (bj (aI cv (ah aV (pv 0) a6) a6<|aJ _) (ae<|aj<|ah kM (av cT ar (ah aV (ah cz (pv 0) a6) a6)<|fun _ _=>rfl)<|pv 1) aD)
   (ae (aj (eX Z4R (a4 (ah cz (pv 0) a6) (a4 (pv 1) a5))))))),?_⟩
  have E0:Ext W0 W0:=.refl W0;unfold Ct at hq;refine bt (Er:=Er) (aK (dH (aE (fun _=>by decide) bM) ag))<|fun W1 e2=>?_;have E0:=E0.trans e2;by_cases hb21:(decide<|(Z04%9)=(8:Int))=true
  ·rw[if_pos hb21]at hq ⊢;exact aG (Er:=Er) (bE (dE (aw (x:=EL "fbibfbif") (l:=[102,98,105,98,102,98,105,102]) (dD _ _ (by decide +kernel))) fN<|eg bM) (aE (fun _=>⟨by decide,by decide⟩) bM))<|Fe hq fun y4 hq v5 W6 e7 h8=>hq v5 W6 (E0.trans e7) h8
  ·rw[if_neg hb21]at hq ⊢
   try dsimp only[aF]
   refine bt (Er:=Er) (aK (dH (aE (fun _=>by decide) bM) ag))<|fun W9 e10=>?_;have E0:=E0.trans e10;by_cases hb21:(decide<|(Z04%9)=(7:Int))=true
   ·rw[if_pos hb21]at hq ⊢;exact aG (Er:=Er) (qJ (cU (aw (x:=EL "fbi") (l:=[102,98,105]) (dD _ _ (by decide +kernel))) (aE (fun _=>by decide) (aE (fun _=>⟨by decide,by decide⟩) bM))) bM)<|Fe hq fun y12 hq v13 W14 e15 h16=>hq v13 W14 (E0.trans e15) h16
   ·rw[if_neg hb21]at hq ⊢
    try dsimp only[aF]
    exact aG (Er:=Er) (bE (aE (fun _=>⟨by decide,by decide⟩) bM) bM)<|Fe hq fun y17 hq v18 W19 e20 h21=>hq v18 W19 (E0.trans e20) h21
theorem DX{f:Addr}{fd:F8}(F:Fun K "_law_deed" "_law_deed" (tp 54) f fd){yA:Int->Int->Res Tx}(Z3R:Cal P w K mg base "_law_rowtext" ["_law_cell","_law_width"] (3) (bU isI isI (rs isS) yA)):FnOk P w K mg base CX0 (4) f fd ["_law_cell","_law_width"] (bU isI isI (rs<|isU K)<|Cu yA):=by
 have SC:FnScope ["_law_cell","_law_width","_law_at_here"] ["_law_cell","_law_width"] (defScope<|tp 54):=by walk_at "F"
 refine F.ok SC (fun vs H Q E h=>?_)<|fun cdv A outer s H vs Q E hr h=>?_;·obtain⟨_,_,_,_,_,_,rfl,_⟩:=h;rfl
 ·obtain⟨W0,Z04,Z18,_,_,rfl,rfl,Z15,Z4m,Er,hq⟩:=h;cases Z15;cases Z4m;refine⟨_,(a8 (bj (aI lP (ah aV (pv 0) a6) a6<|aJ _) (ae<|aj<|aS<|a4 ar<|a4 (eX Z3R<|a4 (ah cz (pv 0) a6)<|a4 (pv 1) a5) a5) aD)
   (a8 (bj (aI cv (ah aV (pv 0) a6) a6<|aJ _) (a8 (fk 2<|ah aV (ah cz (pv 0) a6)<|pv 1)
   (a8 (bj (aI cv (ah aV (ah cz (pv 0) a6) a6) a6<|aJ _) (ae<|fk 2<|av (bG (K:=K) rfl) (bX<|a4 (pv 1)<|a4 (ah gK a6 a6)<|a4 (ah ua a6 a6) a5) (ah aV (ah cz (pv 0) a6) a6)<|fun _ _=>rfl) aD)
   (ae (aj (aS (a4 ar (a4 (pv 2) a5))))))) aD)
   (a8 (bj (aI cv (ah aV (pv 0) a6) a6<|aJ _) (ae<|aj<|aS<|a4 ar<|a4 a6 a5) aD)
   (ae (aj (aS (a4 ar (a4 a6 a5)))))))),?_⟩
  have E0:Ext W0 W0:=.refl W0;unfold Cu at hq;refine bt (Er:=Er) (aK (eG (aE (fun _=>by decide) bM) ag))<|fun W1 e2=>?_;have E0:=E0.trans e2;by_cases hb49:(decide<|(Z04%7)<(3:Int))=true
  ·rw[if_pos hb49]at hq ⊢;exact aG (Er:=Er) (cV (K:=K) (fe cD cD) (aX (K:=K) (aw (x:=EL "row") (l:=[114,111,119]) (dD _ _ (by decide +kernel))) (bE (aE (fun _=>⟨by decide,by decide⟩) bM) bM)))<|Fe hq fun y5 hq v6 W7 e8 h9=>hq v6 W7 (E0.trans e8) h9
  ·rw[if_neg hb49]at hq ⊢
   try dsimp only[aF]
   refine bt (Er:=Er) (aK (dH (aE (fun _=>by decide) bM) ag))<|fun W10 e11=>?_;have E0:=E0.trans e11;by_cases hb49:(decide<|(Z04%7)=(3:Int))=true
   ·rw[if_pos hb49]at hq ⊢;refine aA (Er:=Er) (kZ (aE (fun _=>⟨by decide,by decide⟩) bM) bM)<|(ED hq).imp fun y14 hq v15 W12 e13 h16=>?_;cases h16;have E0:=E0.trans e13;refine l8 (Er:=Er) (Iv:=fun(s33:Int)(W34:Wd)(g35:St)=>g35=[some (.int Z04),some<|.int Z18,some<|.int s33]/\Ext W0 W34) (aK (dH (aE (fun _=>by decide) (aE (fun _=>⟨by decide,by decide⟩) bM)) ag)) (ED hq) ?_ ?_ ?_
    ·intro W17 N20 e18 hN21 hq;have hs22:=e18.g;have E0:=E0.trans e18;refine l7 (Er:=Er) (eV (Ig (di (bc bM (bc (bC ag ag) (bc (qM (r:=100000000000000000000) (by decide) (by decide))<|dh (R:=isI)))))) (aE (fun _=>by decide) (aE (fun _=>⟨by decide,by decide⟩) bM)))<|(ED hq).imp fun y25 hq v26 W23 e24 h27=>?_;cases h27;have E0:=E0.trans e24;have hs22:=hs22.trans e24.g;exact hN21 y25 W23 _ hs22 ⟨rfl,E0⟩ hq
    ·intro W17 N20 e18 hN21 hq;have hs28:=e18.g;have E0:=E0.trans e18
     try dsimp only[aF]
     exact hN21 y14 W17 _ hs28 ⟨rfl,E0⟩ hq
    ·intro s29 W30 sg31 hS32 iv hq;obtain⟨rfl,E0⟩:=iv;exact aG (Er:=Er) (cV (K:=K) (fe cD oE) (aX (K:=K) (aw (x:=EL "flip") (l:=[102,108,105,112]) (dD _ _ (by decide +kernel))) bM))<|fun v36 W37 e38 h39=>hq v36 W37 (E0.trans e38) h39
   ·rw[if_neg hb49]at hq ⊢
    try dsimp only[aF]
    refine bt (Er:=Er) (aK (dH (aE (fun _=>by decide) bM) ag))<|fun W40 e41=>?_;have E0:=E0.trans e41;by_cases hb49:(decide<|(Z04%7)=(6:Int))=true
    ·rw[if_pos hb49]at hq ⊢;exact aG (Er:=Er) (cV (K:=K) (fe cD oE) (aX (K:=K) (aw (x:=EL "redo") (l:=[114,101,100,111]) (dD _ _ (by decide +kernel))) ag))<|fun v42 W43 e44 h45=>hq v42 W43 (E0.trans e44) h45
    ·rw[if_neg hb49]at hq ⊢
     try dsimp only[aF]
     exact aG (Er:=Er) (cV (K:=K) (fe cD oE) (aX (K:=K) (aw (x:=EL "undo") (l:=[117,110,100,111]) (dD _ _ (by decide +kernel))) ag))<|fun v46 W47 e48 h49=>hq v46 W47 (E0.trans e48) h49
theorem DY{f:Addr}{fd:F8}(F:Fun K "_law_turnover" "_law_turnover" (tp 53) f fd):FnOk P w K mg base CX0 (1) f fd ["_law_card_here"] (dO (qA K) (rs<|qA K)<|Cv):=by
 have SC:FnScope ["_law_card_here","_law_holes_here"] ["_law_card_here"] (defScope<|tp 53):=by walk_at "F"
 refine F.ok SC (fun vs H Q E h=>?_)<|fun cdv A outer s H vs Q E hr h=>?_;·obtain⟨_,_,_,_,rfl,_⟩:=h;rfl
 ·obtain⟨W0,Z0v,Z7P,rfl,rfl,Z0R,Er,hq⟩:=h;refine⟨_,(a8 (fk 1<|av (az (K:=K) rfl) (pv 0) a6<|fun _ _=>rfl)
   (ae (aj (aS (a4 (av cT ar (mC (K:=K) rfl rfl ar (a4 (av (az (K:=K) rfl) (pv 0) a6 (fun _ _=>rfl)) a5)) (fun _ _=>rfl)) (a4 (ah bu (ah bu (ah bu (av cT (pv 1) a6 (fun _ _=>rfl)) (av cT (pv 1) a6 (fun _ _=>rfl))) (av cT (pv 1) a6 (fun _ _=>rfl))) (av cT (pv 1) a6 (fun _ _=>rfl))) (a4 (ah aV (ah gK a6 (av (az (K:=K) rfl) (pv 0) a6 (fun _ _=>rfl))) a6) a5))))))),?_⟩
  have E0:Ext W0 W0:=.refl W0;unfold Cv at hq;refine aA (Er:=Er) (bx (f:=fun(b:Cd)=>b.2.1) pJ<|bg Z0R)<|fun v3 W1 e2 h4=>?_;cases h4;have E0:=E0.trans e2;have Z0R:=EG e2.g Z0R;exact aG (Er:=Er) (fO (K:=K) (cU (aw (x:=EL "ZS") (l:=[90,83]) (dD _ _ (by decide +kernel))) (qK (aw (x:=EL "SZ") (l:=[83,90]) (dD _ _ (by decide +kernel)))<|bx (f:=fun(b:Cd)=>b.1) xK<|bg Z0R)) (cC (cC (cC (cU cW ag)<|cU cW ag)<|cU cW ag)<|cU cW ag) (aE (fun _=>by decide)<|bC ag<|bx (f:=fun(b:Cd)=>b.2.2) xM<|bg Z0R))<|Fe hq fun y14 hq v15 W16 e17 h18=>hq v15 W16 (E0.trans e17) h18
theorem DZ{f:Addr}{fd:F8}(F:Fun K "_law_go" "_law_go" (tp 55) f fd):FnOk P w K mg base CX0 (1) f fd ["_law_turn"] (dO isS (rs isI)<|Cw):=by
 have SC:FnScope ["_law_turn"] ["_law_turn"] (defScope<|tp 55):=by walk_at "F"
 refine F.ok SC (fun vs H Q E h=>?_)<|fun cdv A outer s H vs Q E hr h=>?_;·obtain⟨_,_,_,_,rfl,_⟩:=h;rfl
 ·obtain⟨W0,Z1N,_,rfl,rfl,Z4S,Er,hq⟩:=h;cases Z4S;refine⟨_,(ae<|aj<|ah gK (mC (K:=K) rfl rfl ar<|a4 (pv 0) a5) a6),?_⟩;have E0:Ext W0 W0:=.refl W0;unfold Cw at hq;exact aG (Er:=Er) (bC (qK (aw (x:=EL "bif") (l:=[98,105,102]) (dD _ _ (by decide +kernel))) cW) ag)<|Fe hq fun y2 hq v3 W4 e5 h6=>hq v3 W4 (E0.trans e5) h6
theorem E3{f:Addr}{fd:F8}(F:Fun K "_law_twist" "_law_twist" (tp 57) f fd){p9:Tx->Res Int}(Z2A:Cal P w K mg base "_law_go" ["_law_turn"] (1) (dO isS (rs isI) p9)):FnOk P w K mg base CX0 (2) f fd ["_law_card_here","_law_turn"] (bU (qA K) isS (rs isI)<|Cy p9):=by
 have SC:FnScope ["_law_card_here","_law_turn"] ["_law_card_here","_law_turn"] (defScope<|tp 57):=by walk_at "F"
 refine F.ok SC (fun vs H Q E h=>?_)<|fun cdv A outer s H vs Q E hr h=>?_;·obtain⟨_,_,_,_,_,_,rfl,_⟩:=h;rfl
 ·obtain⟨W0,Z0v,Z1N,Z7P,_,rfl,rfl,Z0R,Z4S,Er,hq⟩:=h;cases Z4S;refine⟨_,(a8 (bj (aI cv (av (az (K:=K) rfl) (pv 0) a6<|fun _ _=>rfl) ar<|aJ _) (ae<|aj<|eX Z2A<|a4 (pv 1) a5) aD)
   (ae (aj (ah gK a6 (eX Z2A (a4 (pv 1) a5)))))),?_⟩
  have E0:Ext W0 W0:=.refl W0;unfold Cy at hq;refine bt (Er:=Er) (aK (fw (bx (f:=fun(b:Cd)=>b.1) xK<|bg Z0R) (aw (x:=EL "S") (l:=[83]) (dD _ _ (by decide +kernel)))))<|fun W1 e2=>?_;have E0:=E0.trans e2;have Z0R:=EG e2.g Z0R;by_cases hb13:(decide<|Z0v.1=([83]:Tx))=true
  ·rw[if_pos hb13]at hq ⊢;exact aG (Er:=Er) (dt cW)<|Fe hq fun y3 hq v4 W5 e6 h7=>hq v4 W5 (E0.trans e6) h7
  ·rw[if_neg hb13]at hq ⊢
   try dsimp only[aF]
   exact aG (Er:=Er) (bC ag<|dt cW)<|Fe hq fun y9 hq v10 W11 e12 h13=>hq v10 W11 (E0.trans e12) h13
theorem E6{f:Addr}{fd:F8}(F:Fun K "_law_behind" "_law_behind" (tp 56) f fd){p9:Tx->Res Int}(Z2A:Cal P w K mg base "_law_go" ["_law_turn"] (1) (dO isS (rs isI) p9)):FnOk P w K mg base CX0 (2) f fd ["_law_card_here","_law_turn"] (bU (qA K) isS (rs<|qA K)<|Cz p9):=by
 have SC:FnScope ["_law_card_here","_law_turn"] ["_law_card_here","_law_turn"] (defScope<|tp 56):=by walk_at "F"
 refine F.ok SC (fun vs H Q E h=>?_)<|fun cdv A outer s H vs Q E hr h=>?_;·obtain⟨_,_,_,_,_,_,rfl,_⟩:=h;rfl
 ·obtain⟨W0,Z0v,Z1N,Z7P,_,rfl,rfl,Z0R,Z4S,Er,hq⟩:=h;cases Z4S;refine⟨_,(ae<|aj<|aS<|a4 (av (az (K:=K) rfl) (pv 0) a6<|fun _ _=>rfl)<|a4 (av (az (K:=K) rfl) (pv 0) a6<|fun _ _=>rfl)<|a4 (ah aV (ah bW (av (az (K:=K) rfl) (pv 0) a6<|fun _ _=>rfl)<|eX Z2A<|a4 (pv 1) a5) a6) a5),?_⟩;have E0:Ext W0 W0:=.refl W0;unfold Cz at hq;exact aG (Er:=Er) (fO (K:=K) (bx (f:=fun(b:Cd)=>b.1) xK<|bg Z0R) (bx (f:=fun(b:Cd)=>b.2.1) pJ<|bg Z0R) (aE (fun _=>by decide)<|bC (bx (f:=fun(b:Cd)=>b.2.2) xM<|bg Z0R)<|dt cW))<|Fe hq fun y4 hq v5 W6 e7 h8=>hq v5 W6 (E0.trans e7) h8
theorem E7{f:Addr}{fd:F8}(F:Fun K "_law_after" "_law_after" (tp 58) f fd){mP:Cd->Tx->Res Int}{wY:Cd->Tx->Res Cd}(Z2e:Cal P w K mg base "_law_twist" ["_law_card_here","_law_turn"] (2) (bU (qA K) isS (rs isI) mP))(Z4p:Cal P w K mg base "_law_behind" ["_law_card_here","_law_turn"] (2) (bU (qA K) isS (rs<|qA K) wY))(Z3t:mg "abs"=none)(Z2m:mg "dict"=none)(Z4c:mg "int"=none)(Z0C:mg "len"=none)(Z4d:mg "max"=none)(Z8J:mg "min"=none)(Z1E:mg "zip"=none):FnOk P w K mg base CX0 (3) f fd ["_law_state","_law_row_here","_law_most_here"] (jw (jh K) isS isI (rs<|isEi isS<|jh K)<|CA mP wY):=by
 have SC:FnScope ["_law_state","_law_row_here","_law_most_here","_law_cards","_law_now","_law_far","_law_left","_law_card_here","_law_turn","_law_colour"] ["_law_state","_law_row_here","_law_most_here"] (defScope<|tp 58):=by walk_at "F"
 refine F.ok SC (fun vs H Q E h=>?_)<|fun cdv A outer s H vs Q E hr h=>?_;·obtain⟨_,_,_,_,_,_,_,_,rfl,_⟩:=h;rfl
 ·obtain⟨W0,Z0A,Z0B,Z0O,Z1H,_,_,rfl,rfl,Z0r,Z4T,Z2n,Er,hq⟩:=h;cases Z4T;cases Z2n;refine⟨_,(a8 (gJ (pv 0)<|cB (K:=K) (n:=4) rfl rfl<|au (gG 3)<|au (gG 4)<|au (gG 5)<|au (gG 6) cn)
   (a8 (bj (LU (kA (aI yY (ak (bJ (K:=K) rfl) (by rfl) Z0C G2<|a4 (pv 1) a5) (ak (bJ (K:=K) rfl) (by rfl) Z0C G2<|a4 (pv 3) a5)<|aJ _) (jk (aI nQ (ak (bJ (K:=K) rfl) (by rfl) Z0C G2 (a4 (dg (N:=["_law_turn"]) (cap:=[none]) (fI rfl (by decide +kernel) rfl (by decide +kernel) (by rfl) (by rfl)) rfl (jr<|pv 1) (fun _ _ _ _=>(aW (i:=0) (show FC (["_law_turn"]:List Str) by decide +kernel) rfl (by walk_at "L"))) (fun _ _ _ _=>(k6 (aI mZ (pv 0) ar (by with_unfolding_all rfl))))<|fun _ _ _ _=>(pv 0)) a5)) a6<|aJ _)))) (ae<|aj ar) aD)
   (a8 (eS (i:=4) SC.nd rfl (by walk_at "L") (N:=["_law_one","_law_card_here","_law_turn"]) (cap:=[none,none,none]) (fI rfl (by decide +kernel) rfl (by decide +kernel) (by rfl) (by rfl)) rfl (qG (K:=K) rfl rfl Z1E<|a4 (pv 4)<|a4 (pv 3)<|a4 (pv 1) a5) (fun _ _ _ _=>(cB (K:=K) (n:=3) rfl rfl (au (aW (i:=0) (show FC (["_law_one","_law_card_here","_law_turn"]:List Str) by decide +kernel) rfl (by walk_at "L")) (au (aW (i:=1) (show FC (["_law_one","_law_card_here","_law_turn"]:List Str) by decide +kernel) rfl (by walk_at "L")) (au (aW (i:=2) (show FC (["_law_one","_law_card_here","_law_turn"]:List Str) by decide +kernel) rfl (by walk_at "L")) cn))))) (fun _ _ _ _=>cA)<|fun _ _ _ _=>(ah bW (pv 0)<|eX Z2e<|a4 (pv 1)<|a4 (pv 2) a5))
   (a8 (bj (aI nQ (ak (si (K:=K) rfl rfl) (by rfl) Z4d Ic (a4 (dg (N:=["_law_one"]) (cap:=[none]) (fI rfl (by decide +kernel) rfl (by decide +kernel) (by rfl) (by rfl)) rfl (dq (K:=K) rfl<|pv 4) (fun _ _ _ _=>(aW (i:=0) (show FC (["_law_one"]:List Str) by decide +kernel) rfl (by walk_at "L"))) (fun _ _ _ _=>cA) (fun _ _ _ _=>(ak gM (by rfl) Z3t Hv<|a4 (pv 0) a5))) a5)) (pv 2)<|aJ _) (ae<|aj ar) aD)
   (a8 (fk 6 (cw ip (by rfl) Z2m HW<|a4 (pv 6) a5))
   (a8 (et Gf rfl (fi (K:=K) rfl rfl Z1E<|a4 (pv 3)<|a4 (pv 1) a5) (cB (K:=K) (n:=2) rfl rfl<|au (gG 7)<|au (gG 8) cn) (ae (et Gf rfl (jr<|av (az (K:=K) rfl) (pv 7) a6<|fun _ _=>rfl) (gG 9) (ae (iR (eU hr) (pv 6) (pv 9) (ah bW (ah gK (gQ (eU hr) (pv 6) (pv 9) a6 ⟨rfl,rfl,rfl,rfl⟩) a6) (cw lQ (by rfl) Z4c Ib<|a4 (eA cv (pv 8) ar<|aJ _) a5)) rfl)))))
   (a8 (r9 (i:=6) (bj (aI lP (ak (tD (K:=K) rfl rfl) (by rfl) Z8J KR (a4 (dg (N:=["_law_colour","_law_left"]) (cap:=[none,some 6]) (fI rfl (by decide +kernel) rfl (by decide +kernel) (by rfl) (by rfl)) rfl (vM<|pv 6) (fun _ _ _ _=>(aW (i:=0) (show FC (["_law_colour","_law_left"]:List Str) by decide +kernel) rfl (by walk_at "L"))) (fun _ _ _ _=>cA)<|fun _ _ _ _=>(xx (eU hr) (pv 1) (pv 0)<|fun _ _=>rfl)) a5)) a6<|aJ _) (ae<|aj ar) aD))
   (a8 (eS (i:=5) SC.nd rfl (by walk_at "L") (N:=["_law_one","_law_other"]) (cap:=[none,none]) (fI rfl (by decide +kernel) rfl (by decide +kernel) (by rfl) (by rfl)) rfl (fi (K:=K) rfl rfl Z1E<|a4 (pv 5)<|a4 (pv 4) a5) (fun _ _ _ _=>(cB (K:=K) (n:=2) rfl rfl (au (aW (i:=0) (show FC (["_law_one","_law_other"]:List Str) by decide +kernel) rfl (by walk_at "L")) (au (aW (i:=1) (show FC (["_law_one","_law_other"]:List Str) by decide +kernel) rfl (by walk_at "L")) cn)))) (fun _ _ _ _=>cA) (fun _ _ _ _=>(ak (jo rfl) (by rfl) Z4d Ic (a4 (pv 0) (a4 (ak gM (by rfl) Z3t Hv<|a4 (pv 1) a5) a5)))))
   (ae (aj (aS (a4 (dg (N:=["_law_card_here","_law_turn"]) (cap:=[none,none]) (fI rfl (by decide +kernel) rfl (by decide +kernel) (by rfl) (by rfl)) rfl (fi (K:=K) rfl rfl Z1E (a4 (pv 3) (a4 (pv 1) a5))) (fun _ _ _ _=>(cB (K:=K) (n:=2) rfl rfl (au (aW (i:=0) (show FC (["_law_card_here","_law_turn"]:List Str) by decide +kernel) rfl (by walk_at "L")) (au (aW (i:=1) (show FC (["_law_card_here","_law_turn"]:List Str) by decide +kernel) rfl (by walk_at "L")) cn)))) (fun _ _ _ _=>cA) (fun _ _ _ _=>(eX Z4p (a4 (pv 0) (a4 (pv 1) a5))))) (a4 (pv 4) (a4 (pv 5) (a4 (pv 6) a5))))))))))))))),?_⟩
  have E0:Ext W0 W0:=.refl W0;rw[show L2.start ["_law_state","_law_row_here","_law_most_here","_law_cards","_law_now","_law_far","_law_left","_law_card_here","_law_turn","_law_colour"] [Z1H,.str<|sOf Z0B,.int Z0O]=[some Z1H,some<|.str<|sOf Z0B,some<|.int Z0O,none,none,none,none,none,none,none]from rfl];unfold CA at hq;refine gb (Er:=Er) (bg Z0r)<|fun v1 W2 e3 h4=>?_;have E0:=E0.trans e3;refine CY h4 fun v5 v7 v9 v11 h6 h8 h10 h12=>?_;refine bt (Er:=Er) (om (aK<|zR (ny cW)<|eY<|Hk<|bg h6) (aK (eG (eY (Ig (oo (jx cW) fun W16 a14 v15 e17 h18 Q21 k22=>by
   cases h18;refine gn ?_;refine⟨by simp[Keep,bz],((aK (su cW (aw (x:=EL "fbi") (l:=[102,98,105]) (dD _ _ (by decide +kernel))))):TV Er _ [some (.str<|sOf a14)] _ _) _ (.refl _) _ (Fe (P:=fun b23=>(if b23=true then EK (some a14)else EK none:Res (Option Tx)).OkE Er _) (ED k22) fun b23 k27 W25 e26=>?_)⟩;cases b23 with
   |false=>exact k27 none _ e26 trivial
   |true=>
    rw[if_pos rfl];refine EV.go (Er:=Er) (σ:=[some (.str (sOf a14))]) (W1:=W25) e26 cW ?_;exact fun u30 W28 e29 h31=>k27 (some u30) _ (e26.trans e29) h31))) ag))) ((ED hq).imp fun y36 hq W37 e38=>?_)
  have E0:=E0.trans e38;have h6:=EG e38.g h6;have h8:=EG e38.g h8;have h10:=EG e38.g h10;have h12:=EG e38.g h12;by_cases hb206:y36=true
  ·rw[if_pos hb206]at hq ⊢;exact aG (Er:=Er) (q9 (R1:=isS) (R2:=(jh K)) (aw (x:=EL "BadRow") (l:=[66,97,100,82,111,119]) (dD _ _ (by decide +kernel))))<|fun v39 W40 e41 h42=>hq v39 W40 (E0.trans e41) h42
  ·rw[if_neg hb206]at hq ⊢
   try dsimp only[aF]
   refine aA (Er:=Er) (G7 (cG (qO (eI<|bg h8) (eI<|bg h6)<|gU cW) fun W47 a45 v46 e48 h49 Q57 k58=>by
    refine pK h49 fun v50 v52 v54 h51 h53 h55=>?_;cases h51;cases h55;exact⟨by simp[Keep,bz],((bC bM (bE (bg h53) cW)):EV Er _ [some (.int a45.1),some v52,some (.str (sOf a45.2.2))] _ _ _) _ (.refl _) _ k58⟩)) ((ED hq).imp fun y59 hq v60 W43 e44 h61=>?_)
   have E0:=E0.trans e44;have h6:=EG e44.g h6;have h10:=EG e44.g h10;have h12:=EG e44.g h12;refine bt (Er:=Er) (aK (eG (zX (Ig (cG (eZ<|bg h61) fun W64 a62 v63 e65 h66 Q69 k70=>by
    cases h66;refine gn ?_;exact⟨by simp[Keep,bz],((l0 bM):EV Er _ [some (.int a62)] _ _ _) _ (.refl _) _ k70⟩))) bM)) ((ED hq).imp fun y73 hq W74 e75=>?_)
   have E0:=E0.trans e75;have h6:=EG e75.g h6;have h10:=EG e75.g h10;have h12:=EG e75.g h12;have h61:=EG e75.g h61;by_cases hb206:y73=true
   ·rw[if_pos hb206]at hq ⊢;exact aG (Er:=Er) (q9 (R1:=isS) (R2:=(jh K)) (aw (x:=EL "TooTight") (l:=[84,111,111,84,105,103,104,116]) (dD _ _ (by decide +kernel))))<|fun v76 W77 e78 h79=>hq v76 W77 (E0.trans e78) h79
   ·rw[if_neg hb206]at hq ⊢
    try dsimp only[aF]
    refine ig (Er:=Er) (j6<|M5<|bg h12)<|fun p82 W80 e81 hp83 o84=>?_;have fr85:=none_of E0.h hp83;have E0:=E0.trans e81;have h6:=EG e81.g h6;have h10:=EG e81.g h10;have h61:=EG e81.g h61;refine fy (Er:=Er) (f:=AG) (s0:=Z0A.2.2.2) (Iv:=fun(s88:dv)(W89:Wd)(g90:St)=>∃(d92:Option V)(d93:Option V)(d94:Option V),g90=[some Z1H,some<|.str<|sOf Z0B,some<|.int Z0O,some v5,some v60,some v9,some<|.ref p82,d93,d94,d92]/\Ext W0 W89/\OwD (fun(a:Tx)=>FU<|sOf a) isI W89 p82 s88) (gV (eI<|bg h6)<|gU cW) (ED hq) ?_ ?_ ?_
    ·intro W106 e107;have E0:=E0.trans e107;have h6:=EG e107.g h6;have h10:=EG e107.g h10;have h61:=EG e107.g h61;have o84:=o84.mono e107;exact⟨_,_,_,rfl,E0,o84⟩
    ·intro Wb95 W96 W97 a86 v98 s87 sg99 P100 hW101 hB102 iv e103 h104 hq;obtain⟨d92,d93,d94,rfl,E0,o91⟩:=iv;have h6:=EG hW101 h6;have h10:=EG hW101 h10;have h61:=EG hW101 h61;have E0:=E0.trans e103;have hB102:=hB102.trans e103.g;have h6:=EG e103.g h6;have h10:=EG e103.g h10;have h61:=EG e103.g h61;have o91:=o91.mono e103;refine lF h104 fun v112 v114 h113 h115=>?_;cases h115;unfold AG at hq;refine nz (Er:=Er) (f:=(Bx a86)) (s0:=s87) (Iv:=fun(s118:dv)(W119:Wd)(g120:St)=>∃(d122:Option V),g120=[some Z1H,some<|.str<|sOf Z0B,some<|.int Z0O,some v5,some v60,some v9,some<|.ref p82,some v112,some<|.str<|sOf a86.2,d122]/\Ext W0 W119/\OwD (fun(a:Tx)=>FU<|sOf a) isI W119 p82 s118) (jx<|bx (f:=fun(b:Cd)=>b.2.1) pJ<|bg h113) (ED hq) ?_ ?_ ?_
     ·intro W134 e135;have E0:=E0.trans e135;have hB102:=hB102.trans e135.g;have h6:=EG e135.g h6;have h10:=EG e135.g h10;have h61:=EG e135.g h61;have o91:=o91.mono e135;have h113:=EG e135.g h113;exact⟨_,rfl,E0,o91⟩
     ·intro Wb123 W124 W125 a116 v126 s117 sg127 P128 hW129 hB130 iv e131 h132 hq;obtain⟨d122,rfl,E0,o121⟩:=iv;have hB102:=hB102.trans hW129;have h6:=EG hW129 h6;have h10:=EG hW129 h10;have h61:=EG hW129 h61;have h113:=EG hW129 h113;have E0:=E0.trans e131;have hB102:=hB102.trans e131.g;have hB130:=hB130.trans e131.g;have h6:=EG e131.g h6;have h10:=EG e131.g h10;have h61:=EG e131.g h61;have o121:=o121.mono e131;have h113:=EG e131.g h113;cases h132;refine gn (σ':=[some Z1H,some<|.str<|sOf Z0B,some<|.int Z0O,some v5,some v60,some v9,some<|.ref p82,some v112,some<|.str<|sOf a86.2,some<|.str<|sOf a116]) ?_;unfold Bx at hq;refine iY (Er:=Er) iL kS o121 (bC (bC (gZ iL kS (nI o121) cW ag) ag) (qN (fw cW (aw (x:=EL "i") (l:=[105]) (dD _ _ (by decide +kernel)))))) cW<|(ED hq).imp fun y141 hq W138 mu139 o140=>?_;have E0:=mu139.e _ E0 fr85;have hB102:=hB102.trans mu139.g;have hB130:=hB130.trans mu139.g;have h6:=EG mu139.g h6;have h10:=EG mu139.g h10;have h61:=EG mu139.g h61;have h113:=EG mu139.g h113
      try dsimp only
      refine eJ (W:=W138) y141 hB130 ?_ hq;exact⟨_,rfl,E0,o140⟩
     ·intro s142 W143 sg144 hS145 iv hq;obtain⟨d122,rfl,E0,o121⟩:=iv;have hB102:=hB102.trans hS145;have h6:=EG hS145 h6;have h10:=EG hS145 h10;have h61:=EG hS145 h61;have h113:=EG hS145 h113
      try dsimp only
      refine eJ (W:=W143) s142 hB102 ?_ hq;exact⟨_,_,_,rfl,E0,o121⟩
    ·intro s146 W147 sg148 hS149 iv hq;obtain⟨d92,d93,d94,rfl,E0,o91⟩:=iv;have h6:=EG hS149 h6;have h10:=EG hS149 h10;have h61:=EG hS149 h61;refine yk o91 E0 fr85 fun W150 E0 hS151 h153 hk152=>?_;have h6:=EG hS151 h6;have h10:=EG hS151 h10;have h61:=EG hS151 h61;refine bt (Er:=Er) (aK (eG (Af (K:=K) (Ig (cG (vQ Dq<|bg h153) fun W156 a154 v155 e157 h158 Q162 k163=>by
      have h159:=FK (R:=sh jg) e157 h153;cases h158;refine gn ?_;exact⟨by simp[Keep,bz],((vP iL kS (M5 (bg h159)) cW):EV Er _ [some (.str (sOf a154)),some (.ref p82)] _ _ _) _ (.refl _) _ k163⟩))) ag)) ((ED hq).imp fun y166 hq W167 e168=>?_)
     have E0:=E0.trans e168;have h6:=EG e168.g h6;have h10:=EG e168.g h10;have h61:=EG e168.g h61;have h153:=EG e168.g h153;by_cases hb206:y166=true
     ·rw[if_pos hb206]at hq ⊢;exact aG (Er:=Er) (q9 (R1:=isS) (R2:=(jh K)) (aw (x:=EL "SpoolDry") (l:=[83,112,111,111,108,68,114,121]) (dD _ _ (by decide +kernel))))<|fun v169 W170 e171 h172=>hq v169 W170 (E0.trans e171) h172
     ·rw[if_neg hb206]at hq ⊢
      try dsimp only[aF]
      refine aA (Er:=Er) (G7 (cG (gV (eI<|bg h10)<|eI<|bg h61) fun W177 a175 v176 e178 h179 Q184 k185=>by
       refine lF h179 fun v180 v182 h181 h183=>?_;cases h181;cases h183;exact⟨by simp[Keep,bz],((nA bM (l0 bM)):EV Er _ [some (.int a175.1),some (.int a175.2)] _ _ _) _ (.refl _) _ k185⟩)) ((ED hq).imp fun y186 hq v187 W173 e174 h188=>?_)
      have E0:=E0.trans e174;have h6:=EG e174.g h6;have h61:=EG e174.g h61;have h153:=EG e174.g h153;exact aG (Er:=Er) (Ac (R1:=isS) (R2:=(jh K)) (nH (K:=K) (G7 (cG (gV (eI<|bg h6)<|gU cW) fun W191 a189 v190 e192 h193 Q198 k199=>by
       refine lF h193 fun v194 v196 h195 h197=>?_;cases h197;exact⟨by simp[Keep,bz],((bE (bg h195) cW):EV Er _ [some v194,some (.str (sOf a189.2))] _ _ _) _ (.refl _) _ k199⟩)) (bg h61) (bg h188) (bg h153))) (Fe hq fun y202 hq v203 W204 e205 h206=>hq v203 W204 (E0.trans e205) h206)
theorem E8{f:Addr}{fd:F8}(F:Fun K "_law_pick" "_law_pick" (tp 59) f fd){mP:Cd->Tx->Res Int}(Z2e:Cal P w K mg base "_law_twist" ["_law_card_here","_law_turn"] (2) (bU (qA K) isS (rs isI) mP))(Z1E:mg "zip"=none):FnOk P w K mg base CX0 (3) f fd ["_law_cards","_law_row_here"] (bU (isL<|qA K) isS (ro<|qB K)<|CB mP):=by
 have SC:FnScope ["_law_cards","_law_row_here","_law_out","_law_card_here","_law_turn","_law_slant"] ["_law_cards","_law_row_here"] (defScope<|tp 59):=by walk_at "F"
 refine F.ok SC (fun vs H Q E h=>?_)<|fun cdv A outer s H vs Q E hr h=>?_;·obtain⟨_,_,_,_,_,_,rfl,_⟩:=h;rfl
 ·obtain⟨W0,Z8H,Z0B,Zg2,_,rfl,rfl,Z7Z,Z4T,Er,hq⟩:=h;cases Z4T;refine⟨_,(a8 (fk 2<|bX a5)
   (a8 (et Gf rfl (fi (K:=K) rfl rfl Z1E<|a4 (pv 0)<|a4 (pv 1) a5) (cB (K:=K) (n:=2) rfl rfl<|au (gG 3)<|au (gG 4) cn) (a8 (fk 5<|av cT ar (ah bW (eX Z2e<|a4 (pv 3)<|a4 (pv 4) a5) a6)<|fun _ _=>rfl)
   (ae (d4 (dm (K:=K) rfl (pv 2) (a4 (aS (a4 (av cT (av (az (K:=K) rfl) (pv 3) a6 (fun _ _=>rfl)) (av (az (K:=K) rfl) (pv 3) a6 (fun _ _=>rfl)) (fun _ _=>rfl)) (a4 (av cT (av (az (K:=K) rfl) (pv 3) a6 (fun _ _=>rfl)) (ah aV (ah bW (av (az (K:=K) rfl) (pv 3) a6 (fun _ _=>rfl)) a6) a6) (fun _ _=>rfl)) (a4 (pv 5) a5)))) a5))))))
   (ae (aj (pv 2))))),?_⟩
  have E0:Ext W0 W0:=.refl W0;unfold CB at hq;refine jy (Er:=Er) (qL (R:=(qB K)))<|fun p3 W1 e2 hp4 o5=>?_;have fr6:=none_of E0.h hp4;have E0:=E0.trans e2;have Z7Z:=EG e2.g Z7Z;refine fy (Er:=Er) (f:=(By mP)) (s0:=([]:List Pl)) (Iv:=fun(s9:(List Pl))(W10:Wd)(g11:St)=>∃(d13:Option V)(d14:Option V)(d15:Option V),g11=[some Zg2,some<|.str<|sOf Z0B,some<|.ref p3,d14,d15,d13]/\Ext W0 W10/\Ow (qB K) W10 p3 s9) (gV (eI<|bg Z7Z)<|gU cW) (ED hq) ?_ ?_ ?_
  ·intro W27 e28;have E0:=E0.trans e28;have o5:=o5.mono e28;exact⟨_,_,_,rfl,E0,o5⟩
  ·intro Wb16 W17 W18 a7 v19 s8 sg20 P21 hW22 hB23 iv e24 h25 hq;obtain⟨d13,d14,d15,rfl,E0,o12⟩:=iv;have E0:=E0.trans e24;have hB23:=hB23.trans e24.g;have o12:=o12.mono e24;refine lF h25 fun v33 v35 h34 h36=>?_;cases h36;unfold By at hq;refine aA (Er:=Er) (cU (aw (x:=EL "zos") (l:=[122,111,115]) (dD _ _ (by decide +kernel)))<|bC (bE (bg h34) cW) ag)<|(ED hq).imp fun y41 hq v42 W37 e38 h43=>?_;cases h43;have E0:=E0.trans e38;have hB23:=hB23.trans e38.g;have o12:=o12.mono e38;have h34:=EG e38.g h34;refine pM (Er:=Er) o12 (fO (K:=K) (cU (bx (f:=fun(b:Cd)=>b.2.1) pJ<|bg h34)<|bx (f:=fun(b:Cd)=>b.2.2) xM<|bg h34) (cU (bx (f:=fun(b:Cd)=>b.2.1) pJ<|bg h34) (aE (fun _=>by decide)<|bC (bx (f:=fun(b:Cd)=>b.2.2) xM<|bg h34) ag)) cW)<|(ED hq).imp fun y49 hq W46 mu47 o48=>?_;have E0:=mu47.e _ E0 fr6;have hB23:=hB23.trans mu47.g;have h34:=EG mu47.g h34
   try dsimp only
   refine eJ (W:=W46) y49 hB23 ?_ hq;exact⟨_,_,_,rfl,E0,o48⟩
  ·intro s51 W52 sg53 hS54 iv hq;obtain⟨d13,d14,d15,rfl,E0,o12⟩:=iv;exact⟨.ref p3,rfl,hq p3 W52 E0 fr6 o12⟩
abbrev eo(K:EH):=fz<|isT2 K (jh K)<|isU K
theorem E9{f:Addr}{fd:F8}(F:Fun K "_law_do" "_law_do" (tp 60) f fd){w5:Cd->Res Cd}{rj:dR->Tx->Int->Res (Tx ⊕ dR)}{lN:(List Cd)->Tx->Res (List Pl)}(Z3v:Cal P w K mg base "_law_turnover" ["_law_card_here"] (1) (dO (qA K) (rs<|qA K) w5))(Z4U:Cal P w K mg base "_law_after" ["_law_state","_law_row_here","_law_most_here"] (3) (jw (jh K) isS isI (rs<|isEi isS<|jh K) rj))(Z2q:Cal P w K mg base "_law_pick" ["_law_cards","_law_row_here"] (3) (bU (isL<|qA K) isS (ro<|qB K) lN))(Z0n:mg "isinstance"=none)(Z0C:mg "len"=none)(Z17:mg "list"=none)(Z7k:mg "str"=none):FnOk P w K mg base CX0 (4) f fd ["_law_stack","_law_undone","_law_deed_here","_law_most_here"] (Bu (oL<|eo K) (oL<|eo K) (aC (isU K)<|aC isI aN) (isU K)<|fun x y a=>zh w5 rj lN x y a.1 a.2.1):=by
 have SC:FnScope ["_law_stack","_law_undone","_law_deed_here","_law_most_here","_law_state","_law_cards","_law_later"] ["_law_stack","_law_undone","_law_deed_here","_law_most_here"] (defScope<|tp 60):=by walk_at "F"
 refine F.ok SC (fun vs H Q E h=>?_)<|fun cdv A outer s H vs Q E hr h=>?_;·obtain⟨_,_,_,_,_,_,_,us,_,rfl,_,_,ra,_⟩:=h;obtain⟨_,us,rfl,_,ra⟩:=ra;obtain⟨_,us,rfl,_,ra⟩:=ra;cases ra;rfl
 ·obtain⟨W0,W,Z0D,Z0K,Z0N,Z0Z,aa,us,rfl,rfl,E0,S,ra,Er,hq⟩:=h;obtain⟨Z0q,Z0O,_⟩:=aa;obtain⟨Z1p,us,rfl,Z0b,ra⟩:=ra;replace Z0b:(isU K) W.G Z0q Z1p:=Z0b;obtain⟨ZaI,us,rfl,Z2n,ra⟩:=ra;replace Z2n:isI W.G Z0O ZaI:=Z2n;cases ra;replace hq:(zh w5 rj lN Z0D Z0K Z0q Z0O).OkE Er (Bv W0 W (oL<|eo K) (oL<|eo K) (isU K) Z0N Z0Z Q):=hq;cases Z2n;refine⟨_,(a8 (fk 4<|av (az (K:=K) rfl) (av (bG (K:=K) rfl) (pv 0) (kE iG a6)<|fun _ _=>rfl) a6<|fun _ _=>rfl)
   (a8 (bj (aI cv (av (az (K:=K) rfl) (pv 2) a6<|fun _ _=>rfl) ar<|aJ _) (a8 (bj (aI cv (ak (bJ (K:=K) rfl) (by rfl) Z0C G2<|a4 (pv 0) a5) a6<|aJ _) (ae<|aj<|aS<|a4 ar<|a4 (bX<|a4 ar a5) a5) aD)
   (a8 (d4<|dm (K:=K) rfl (pv 1)<|a4 (ia (K:=K) rfl Gg HB Ie ng<|pv 0) a5)
   (ae (aj (aS (a4 ar (a4 (av (az (K:=K) rfl) (av (bG (K:=K) rfl) (pv 1) (kE iG a6) (fun _ _=>rfl)) a6 (fun _ _=>rfl)) a5))))))) aD)
   (a8 (bj (aI cv (av (az (K:=K) rfl) (pv 2) a6<|fun _ _=>rfl) ar<|aJ _) (a8 (bj (aI (A6 hr.units0) (pv 1) (bX a5)<|aJ _) (ae<|aj<|aS<|a4 ar<|a4 (bX<|a4 ar a5) a5) aD)
   (a8 (d4<|dm (K:=K) rfl (pv 0)<|a4 (ia (K:=K) rfl Gg HB Ie ng<|pv 1) a5)
   (ae (aj (aS (a4 ar (a4 (av (az (K:=K) rfl) (av (bG (K:=K) rfl) (pv 0) (kE iG a6) (fun _ _=>rfl)) a6 (fun _ _=>rfl)) a5))))))) aD)
   (a8 (bj (aI cv (av (az (K:=K) rfl) (pv 2) a6<|fun _ _=>rfl) ar<|aJ _) (a8 (bj (LU (kA (aI lP (av (az (K:=K) rfl) (pv 2) a6<|fun _ _=>rfl) a6<|aJ _) (jk (aI uc (av (az (K:=K) rfl) (pv 2) a6<|fun _ _=>rfl) (ak (bJ (K:=K) rfl) (by rfl) Z0C G2<|a4 (av (az (K:=K) rfl) (pv 4) a6<|fun _ _=>rfl) a5)<|aJ _)))) (ae<|aj<|aS<|a4 ar<|a4 (bX<|a4 ar a5) a5) aD)
   (a8 (fk 5 (cw (cN (K:=K) rfl) (by rfl) Z17 Ga<|a4 (av (az (K:=K) rfl) (pv 4) a6<|fun _ _=>rfl) a5))
   (a8 (gJ (eX Z3v<|a4 (av (bG (K:=K) rfl) (pv 5) (av (az (K:=K) rfl) (pv 2) a6<|fun _ _=>rfl)<|fun _ _=>rfl) a5)<|tZ (pv 5) (av (az (K:=K) rfl) (pv 2) a6<|fun _ _=>rfl) nX)
   (a8 (d4<|dm (K:=K) rfl (pv 0)<|a4 (aS<|a4 (aS<|a4 (pv 5)<|a4 (av (az (K:=K) rfl) (pv 4) a6<|fun _ _=>rfl)<|a4 (av (az (K:=K) rfl) (pv 4) a6<|fun _ _=>rfl)<|a4 (av (az (K:=K) rfl) (pv 4) a6<|fun _ _=>rfl) a5)<|a4 (pv 2) a5) a5)
   (a8 (d4<|ia (K:=K) rfl Gg J4 Ki nZ<|pv 1)
   (ae (aj (aS (a4 ar (a4 ji a5)))))))))) aD)
   (a8 (fk 6<|eX Z4U<|a4 (pv 4)<|a4 (av (az (K:=K) rfl) (pv 2) a6<|fun _ _=>rfl)<|a4 (pv 3) a5)
   (a8 (bj (cK (ak (bH (K:=K) rfl) (by rfl) Z0n ET (a4 (pv 6) (a4 (dJ (v:=.ty "str") (by rfl) Z7k J6 rfl) a5)))) (ae<|aj<|aS<|a4 ar<|a4 (bX<|a4 (pv 6) a5) a5) aD)
   (a8 (d4<|dm (K:=K) rfl (pv 0)<|a4 (aS<|a4 (pv 6)<|a4 (pv 2) a5) a5)
   (a8 (d4<|ia (K:=K) rfl Gg J4 Ki nZ<|pv 1)
   (ae (aj (aS (a4 ar (a4 (eX Z2q (a4 (av (az (K:=K) rfl) (pv 6) a6 (fun _ _=>rfl)) (a4 (av (az (K:=K) rfl) (pv 2) a6 (fun _ _=>rfl)) a5))) a5))))))))))))),?_⟩
  have hS0:Same W.G W.G:=.refl _;have S:Sep W0 W [tc (oL<|eo K) Z0D Z0N,tc (oL<|eo K) Z0K Z0Z]:=S;unfold zh at hq;refine aA (Er:=Er) (bx (f:=fun(b:dR×Dat)=>b.1) xJ<|fj<|gs (cq (R:=(oL<|eo K)) (k:=0) S)<|iK ag)<|(ED hq).imp fun y4 hq v5 W1 e2 h6=>?_;have S:=S.ext e2;have E0:=E0.trans e2;have hS0:=hS0.trans e2.g;have Z0b:=EG e2.g Z0b;refine bt (Er:=Er) (aK (fw (dP (K:=K) gX<|dQ (bg Z0b) ag) (aw (x:=EL "undo") (l:=[117,110,100,111]) (dD _ _ (by decide +kernel)))))<|(ED hq).imp fun y9 hq W10 e11=>?_;have S:=S.ext e11;have E0:=E0.trans e11;have hS0:=hS0.trans e11.g;have Z0b:=EG e11.g Z0b;have h6:=EG e11.g h6;by_cases hb97:y9=true
  ·rw[if_pos hb97]at hq ⊢;refine bt (Er:=Er) (aK<|dH (eY<|eK<|cq (R:=(oL<|eo K)) (k:=0) S) ag)<|fun W12 e13=>?_;have S:=S.ext e13;have E0:=E0.trans e13;have hS0:=hS0.trans e13.g;by_cases hb20:(decide<|(Z0D.length:Int)=(1:Int))=true
   ·rw[if_pos hb20]at hq ⊢;exact fT (Er:=Er) S E0 hS0 (cV (K:=K) (u:=fun(z:Tx×(List Tx))=>Ho [G5 z.1,J7<|z.2.map fun(z:Tx)=>G5 z]) (fe cD<|iX (u:=fun(z:Tx)=>G5 z) cD) (aX (K:=K) (aw (x:=EL "refused") (l:=[114,101,102,117,115,101,100]) (dD _ _ (by decide +kernel))) (G7 (di (bc (aw (x:=EL "NothingLeft") (l:=[78,111,116,104,105,110,103,76,101,102,116]) (dD _ _ (by decide +kernel)))<|dh (R:=isS)))))) hq
   ·rw[if_neg hb20]at hq ⊢
    try dsimp only[aF]
    refine jM (Er:=Er) (K:=K) (k:=1) (l:=0) (i:=1) (j:=0) S E0 rfl rfl (by decide)<|(ED hq).imp fun y14 hq W15 hS16 E0 S=>?_;have S:Sep W0 W15 [tc (oL<|eo K) y14.2 Z0N,tc (oL<|eo K) y14.1 Z0Z]:=S;have hS0:=hS0.trans hS16;exact fT (Er:=Er) S E0 hS0 (cV (K:=K) (fe cD lb) (aX (K:=K) (aw (x:=EL "told") (l:=[116,111,108,100]) (dD _ _ (by decide +kernel)))<|bx (f:=fun(b:dR×Dat)=>b.2) sv<|fj<|gs (cq (R:=(oL<|eo K)) (k:=1) S)<|iK ag)) hq
  ·rw[if_neg hb97]at hq ⊢
   try dsimp only[aF]
   refine bt (Er:=Er) (aK (fw (dP (K:=K) gX<|dQ (bg Z0b) ag) (aw (x:=EL "redo") (l:=[114,101,100,111]) (dD _ _ (by decide +kernel)))))<|(ED hq).imp fun y23 hq W24 e25=>?_;have S:=S.ext e25;have E0:=E0.trans e25;have hS0:=hS0.trans e25.g;have Z0b:=EG e25.g Z0b;have h6:=EG e25.g h6;by_cases hb97:y23=true
   ·rw[if_pos hb97]at hq ⊢;refine bt (Er:=Er) (aK<|A7<|eK<|cq (R:=(oL<|eo K)) (k:=1) S)<|fun W26 e27=>?_;have S:=S.ext e27;have E0:=E0.trans e27;have hS0:=hS0.trans e27.g;by_cases hb34:Z0K.isEmpty=true
    ·rw[if_pos hb34]at hq ⊢;exact fT (Er:=Er) S E0 hS0 (cV (K:=K) (u:=fun(z:Tx×(List Tx))=>Ho [G5 z.1,J7<|z.2.map fun(z:Tx)=>G5 z]) (fe cD<|iX (u:=fun(z:Tx)=>G5 z) cD) (aX (K:=K) (aw (x:=EL "refused") (l:=[114,101,102,117,115,101,100]) (dD _ _ (by decide +kernel))) (G7 (di (bc (aw (x:=EL "NothingLeft") (l:=[78,111,116,104,105,110,103,76,101,102,116]) (dD _ _ (by decide +kernel)))<|dh (R:=isS)))))) hq
    ·rw[if_neg hb34]at hq ⊢
     try dsimp only[aF]
     refine jM (Er:=Er) (K:=K) (k:=0) (l:=1) (i:=0) (j:=1) S E0 rfl rfl (by decide)<|(ED hq).imp fun y28 hq W29 hS30 E0 S=>?_;have S:Sep W0 W29 [tc (oL<|eo K) y28.1 Z0N,tc (oL<|eo K) y28.2 Z0Z]:=S;have hS0:=hS0.trans hS30;exact fT (Er:=Er) S E0 hS0 (cV (K:=K) (fe cD lb) (aX (K:=K) (aw (x:=EL "told") (l:=[116,111,108,100]) (dD _ _ (by decide +kernel)))<|bx (f:=fun(b:dR×Dat)=>b.2) sv<|fj<|gs (cq (R:=(oL<|eo K)) (k:=0) S)<|iK ag)) hq
   ·rw[if_neg hb97]at hq ⊢
    try dsimp only[aF]
    refine bt (Er:=Er) (aK (fw (dP (K:=K) gX<|dQ (bg Z0b) ag) (aw (x:=EL "flip") (l:=[102,108,105,112]) (dD _ _ (by decide +kernel)))))<|(ED hq).imp fun y37 hq W38 e39=>?_;have S:=S.ext e39;have E0:=E0.trans e39;have hS0:=hS0.trans e39.g;have Z0b:=EG e39.g Z0b;have h6:=EG e39.g h6;by_cases hb97:y37=true
    ·rw[if_pos hb97]at hq ⊢;refine bt (Er:=Er) (om (aK<|eG (dP (K:=K) oF<|dQ (bg Z0b) ag) ag)<|aK<|eG (dP (K:=K) oF<|dQ (bg Z0b) ag)<|eY<|Hk<|bx (f:=fun(b:(List Cd)×(List Int)×(List Int)×dv)=>b.1) sI<|bg h6)<|(ED hq).imp fun y45 hq W46 e47=>?_;have S:=S.ext e47;have E0:=E0.trans e47;have hS0:=hS0.trans e47.g;have Z0b:=EG e47.g Z0b;have h6:=EG e47.g h6;by_cases hb69:y45=true
     ·rw[if_pos hb69]at hq ⊢;exact fT (Er:=Er) S E0 hS0 (cV (K:=K) (u:=fun(z:Tx×(List Tx))=>Ho [G5 z.1,J7<|z.2.map fun(z:Tx)=>G5 z]) (fe cD<|iX (u:=fun(z:Tx)=>G5 z) cD) (aX (K:=K) (aw (x:=EL "refused") (l:=[114,101,102,117,115,101,100]) (dD _ _ (by decide +kernel))) (G7 (di (bc (aw (x:=EL "NoTablet") (l:=[78,111,84,97,98,108,101,116]) (dD _ _ (by decide +kernel)))<|dh (R:=isS)))))) hq
     ·rw[if_neg hb69]at hq ⊢
      try dsimp only[aF]
      refine ik (Er:=Er) S E0 (EVo.tr<|fA<|Hk<|bx (f:=fun(b:(List Cd)×(List Int)×(List Int)×dv)=>b.1) sI<|bg h6)<|fun v48 W49 e50 S=>?_;have E0:=E0.trans e50;have hS0:=hS0.trans e50.g;have Z0b:=EG e50.g Z0b;have h6:=EG e50.g h6;have S:Sep W0 W49 [tc (oL<|eo K) Z0D Z0N,tc (oL<|eo K) Z0K Z0Z,tc (oL<|fz<|qA K) y4.1 v48]:=S;refine sR (Er:=Er) (C:=fun bb=>[tc (oL<|eo K) Z0D Z0N,tc (oL<|eo K) Z0K Z0Z,tc (oL<|fz<|qA K) bb v48]) (k:=2) (i:=5) S E0 (dt<|fj<|gs (cq (R:=(oL<|fz<|qA K)) (k:=2) S)<|dP (K:=K) oF<|dQ (bg Z0b) ag) (dP (K:=K) oF<|dQ (bg Z0b) ag)<|(ED hq).imp fun y57 hq W58 hS59 E0 S=>?_;have S:Sep W0 W58 [tc (oL<|eo K) Z0D Z0N,tc (oL<|eo K) Z0K Z0Z,tc (oL<|fz<|qA K) y57 v48]:=S;have hS0:=hS0.trans hS59;have Z0b:=EG hS59 Z0b;have h6:=EG hS59 h6;obtain⟨W60,hH61,E0,hS62,S,h63⟩:=Sep.frz (R:=(oL<|fz<|qA K)) (i:=2) S E0 rfl;rw[<-hH61];have S:Sep W0 W60 [tc (oL<|eo K) Z0D Z0N,tc (oL<|eo K) Z0K Z0Z]:=S;have hS0:=hS0.trans hS62;have Z0b:=EG hS62 Z0b;have h6:=EG hS62 h6;refine mJ (Er:=Er) (K:=K) (C:=fun bb=>[tc (oL<|eo K) bb Z0N,tc (oL<|eo K) Z0K Z0Z]) (k:=0) (i:=0) S E0 (aX (K:=K) (nH (K:=K) (bg h63) (bx (f:=fun(b:(List Cd)×(List Int)×(List Int)×dv)=>b.2.1) Be<|bg h6) (bx (f:=fun(b:(List Cd)×(List Int)×(List Int)×dv)=>b.2.2.1) Bf<|bg h6)<|bx (f:=fun(b:(List Cd)×(List Int)×(List Int)×dv)=>b.2.2.2) Bg<|bg h6)<|bg Z0b)<|(ED hq).imp fun y64 hq W65 hS66 E0 S=>?_;have S:Sep W0 W65 [tc (oL<|eo K) y64 Z0N,tc (oL<|eo K) Z0K Z0Z]:=S;have hS0:=hS0.trans hS66;refine mI (Er:=Er) (K:=K) E0 (gu (R:=(oL<|eo K)) (C:=fun bb=>[tc (oL<|eo K) y64 Z0N,tc (oL<|eo K) bb Z0Z]) (k:=1) S E0)<|(ED hq).imp fun y67 hq W68 hS69 E0 S=>?_;have S:Sep W0 W68 [tc (oL<|eo K) y64 Z0N,tc (oL<|eo K) y67 Z0Z]:=S;have hS0:=hS0.trans hS69;exact fT (Er:=Er) S E0 hS0 (cV (K:=K) (u:=fun(z:Tx×(Option Unit))=>Ho [G5 z.1,A0 (fun(z:Unit)=>Mz) z.2]) (fe cD<|Bc vi) (aX (K:=K) (aw (x:=EL "told") (l:=[116,111,108,100]) (dD _ _ (by decide +kernel))) nt)) hq
    ·rw[if_neg hb97]at hq ⊢
     try dsimp only[aF]
     refine aA (Er:=Er) (uR (bg h6) (dP (K:=K) gX<|dQ (bg Z0b) ag) bM)<|(ED hq).imp fun y74 hq v75 W70 e71 h76=>?_;have S:=S.ext e71;have E0:=E0.trans e71;have hS0:=hS0.trans e71.g;have Z0b:=EG e71.g Z0b;refine bt (Er:=Er) (jv<|vY (K:=K) Ae<|bg h76)<|fun W77 e78=>?_;have S:=S.ext e78;have E0:=E0.trans e78;have hS0:=hS0.trans e78.g;have Z0b:=EG e78.g Z0b;have h76:=EG e78.g h76;by_cases hb97:((y74).isLeft)=true
     ·rw[if_pos hb97]at hq ⊢;exact fT (Er:=Er) S E0 hS0 (cV (K:=K) (u:=fun(z:Tx×(List Tx))=>Ho [G5 z.1,J7<|z.2.map fun(z:Tx)=>G5 z]) (fe cD<|iX (u:=fun(z:Tx)=>G5 z) cD) (aX (K:=K) (aw (x:=EL "refused") (l:=[114,101,102,117,115,101,100]) (dD _ _ (by decide +kernel)))<|G7<|di<|bc (Ad (R1:=isS) (R2:=(jh K))<|bg h76)<|dh (R:=isS))) hq
     ·rw[if_neg hb97]at hq ⊢
      try dsimp only[aF]
      refine mJ (Er:=Er) (K:=K) (C:=fun bb=>[tc (oL<|eo K) bb Z0N,tc (oL<|eo K) Z0K Z0Z]) (k:=0) (i:=0) S E0 (aX (K:=K) (vW (R1:=isS) (R2:=(jh K))<|bg h76)<|bg Z0b)<|(ED hq).imp fun y85 hq W86 hS87 E0 S=>?_;have S:Sep W0 W86 [tc (oL<|eo K) y85 Z0N,tc (oL<|eo K) Z0K Z0Z]:=S;have hS0:=hS0.trans hS87;have Z0b:=EG hS87 Z0b;have h76:=EG hS87 h76;refine mI (Er:=Er) (K:=K) E0 (gu (R:=(oL<|eo K)) (C:=fun bb=>[tc (oL<|eo K) y85 Z0N,tc (oL<|eo K) bb Z0Z]) (k:=1) S E0)<|(ED hq).imp fun y88 hq W89 hS90 E0 S=>?_;have S:Sep W0 W89 [tc (oL<|eo K) y85 Z0N,tc (oL<|eo K) y88 Z0Z]:=S;have hS0:=hS0.trans hS90;have Z0b:=EG hS90 Z0b;have h76:=EG hS90 h76;exact fT (Er:=Er) S E0 hS0 (cV (K:=K) (u:=fun(z:Tx×(List Pl))=>Ho [G5 z.1,J7<|z.2.map fun(z:Pl)=>Ho [G5 z.1,G5 z.2.1,G5 z.2.2]]) (fe cD<|iX (u:=fun(z:Pl)=>Ho [G5 z.1,G5 z.2.1,G5 z.2.2])<|zc cD cD cD) (aX (K:=K) (aw (x:=EL "told") (l:=[116,111,108,100]) (dD _ _ (by decide +kernel)))<|G7<|mq (bx (f:=fun(b:(List Cd)×(List Int)×(List Int)×dv)=>b.1) sI<|vW (R1:=isS) (R2:=(jh K))<|bg h76)<|dP (K:=K) gX<|dQ (bg Z0b) ag)) hq
theorem Ea{f:Addr}{fd:F8}(F:Fun K "now" "Loom.now" (tq 38 1) f fd){Z00 Z01:Addr}(Z0j:Cls K Z01)(Z0p:NoAttr K Z01 "course")(Z2d:NoAttr K Z01 "start"):FnOk P w K mg base CX0 (1) f fd ["self"] (gH (wC (vw<|af K Z00 Z01) wN) (rs<|aT K Z00)<|fun a=>Bz a.1):=by
 have SC:FnScope ["self"] ["self"] (defScope<|tq 38 1):=by walk_at "F"
 refine F.ok SC (fun vs H Q E h=>?_)<|fun cdv A outer s H vs Q E hr h=>?_;·obtain⟨_,_,_,ra,_⟩:=h;obtain⟨_,us,rfl,_,ra⟩:=ra;cases ra;rfl
 ·obtain⟨W0,aa,rfl,ra,Er,hq⟩:=h;obtain⟨self,_⟩:=aa;obtain⟨Z0s,us,rfl,Z0U,ra⟩:=ra;replace Z0U:(vw<|af K Z00 Z01) W0 self Z0s:=Z0U;cases ra;replace hq:(Bz self).OkE Er (fun r=>(rs<|aT K Z00) W0 r Q):=hq;refine⟨_,(ae<|aj<|kD (iq (K:=K) rfl<|aY (K:=K) rfl (pv 0) rfl) (av (bG (K:=K) rfl) (aY (K:=K) rfl (pv 0) rfl) (kE iG a6)<|fun _ _=>rfl)<|aY (K:=K) rfl (pv 0) rfl),?_⟩;have E0:Ext W0 W0:=.refl W0;unfold Bz at hq;exact aG (Er:=Er) (uQ (kg (K:=K)<|eK<|fS Z0j Z0p Z1t.at_<|bB (R:=(vw<|af K Z00 Z01))<|FK E0 Z0U) (fj<|gs (fS Z0j Z0p Z1t.at_<|bB (R:=(vw<|af K Z00 Z01))<|FK E0 Z0U)<|iK ag)<|fj<|fS Z0j Z2d ZaG.at_<|bB (R:=(vw<|af K Z00 Z01))<|FK E0 Z0U)<|Fe hq fun y1 hq v2 W3 e4 h5=>hq v2 W3 (E0.trans e4) h5
theorem Eb{f:Addr}{fd:F8}(F:Fun K "is_row" "is_row" (tp 28) f fd)(Zf1:mg "all"=none)(Z0C:mg "len"=none){Za1:Tok}(Za2:mg "TURNS"=some (.str (EL "fbi") Za1)):FnOk P w K mg base CX0 (1) f fd ["text","width"] (bU isS isI (rs isB)<|CC):=by
 have SC:FnScope ["text","width"] ["text","width"] (defScope<|tp 28):=by walk_at "F"
 refine F.ok SC (fun vs H Q E h=>?_)<|fun cdv A outer s H vs Q E hr h=>?_;·obtain⟨_,_,_,_,_,_,rfl,_⟩:=h;rfl
 ·obtain⟨W0,text,width,_,_,rfl,rfl,Zhv,Zho,Er,hq⟩:=h;cases Zhv;cases Zho;refine⟨_,(ae (aj (kC (eA cv (ak (bJ (K:=K) rfl) (by rfl) Z0C G2<|a4 (pv 0) a5) (pv 1)<|aJ _) (mY (ak (sD (K:=K) rfl rfl) (by rfl) Zf1 Nl (a4 (dg (N:=["sign"]) (cap:=[none]) (fI rfl (by decide +kernel) rfl (by decide +kernel) (by rfl) (by rfl)) rfl (jr<|pv 0) (fun _ _ _ _=>(aW (i:=0) (show FC (["sign"]:List Str) by decide +kernel) rfl (by walk_at "L"))) (fun _ _ _ _=>cA) (fun _ _ _ _=>(eA rM (pv 0) (bL (v:=.str<|EL "fbi") (by rfl) Za2 ⟨_,rfl⟩) (by with_unfolding_all rfl)))) a5)))))),?_⟩;have E0:Ext W0 W0:=.refl W0;rw[show L2.start ["text","width"] [.str (sOf text),.int width]=[some (.str<|sOf text),some<|.int width]from rfl];unfold CC at hq;exact aG (Er:=Er) (zS (dH (ny cW) bM) (zV (Ig (cG (jx cW) fun W4 a2 v3 e5 h6 Q9 k10=>by
   cases h6;refine gn ?_;exact⟨by simp[Keep,bz],((zT cW (aw (x:=EL "fbi") (l:=[102,98,105]) (dD _ _ (by decide +kernel)))):EV Er _ [some (.str (sOf a2))] _ _ _) _ (.refl _) _ k10⟩)))) (Fe hq fun y13 hq v14 W15 e16 h17=>hq v14 W15 (E0.trans e16) h17)
theorem Ec{f:Addr}{fd:F8}(F:Fun K "twisting" "twisting" (tp 23) f fd){Z2r:Addr}(Z4L:mg "STEPS"=some (.ref Z2r))(Z4M:DictK K w Z2r [(FU<|EL "f",.int<|1),(FU<|EL "b",.int<|-1),(FU<|EL "i",.int<|0)]):FnOk P w K mg base CX0 (1) f fd ["tablet","turn"] (bU (qA K) isS (rs isI)<|CD):=by
 have SC:FnScope ["tablet","turn","step"] ["tablet","turn"] (defScope<|tp 23):=by walk_at "F"
 refine F.ok SC (fun vs H Q E h=>?_)<|fun cdv A outer s H vs Q E hr h=>?_;·obtain⟨_,_,_,_,_,_,rfl,_⟩:=h;rfl
 ·obtain⟨W0,tablet,turn,Z4V,_,rfl,rfl,Z1q,Z80,Er,hq⟩:=h;cases Z80
  refine⟨_,(a8 (fk 2 (i9 (K:=K) (w:=w) rfl rfl (bL (v:=.ref _) (by rfl) Z4L rfl) (pv 1)<|fun _ _=>rfl))
   (ae (aj (kD (aI cv (av (az (K:=K) rfl) (pv 0) a6 (fun _ _=>rfl)) ar (aJ _)) (pv 2) (kE iG (pv 2)))))),?_⟩
  have E0:Ext W0 W0:=.refl W0;unfold CD at hq;refine aA (Er:=Er) (my Z4M (by decide +kernel) cW)<|(ED hq).imp fun y3 hq v4 W1 e2 h5=>?_;cases h5;have E0:=E0.trans e2;have Z1q:=EG e2.g Z1q;exact aG (Er:=Er) (uQ (aK (fw (bx (f:=fun(b:Cd)=>b.1) xK<|bg Z1q) (aw (x:=EL "S") (l:=[83]) (dD _ _ (by decide +kernel))))) bM<|iK bM)<|Fe hq fun y6 hq v7 W8 e9 h10=>hq v7 W8 (E0.trans e9) h10
theorem Ed{f:Addr}{fd:F8}(F:Fun K "taken" "taken" (tp 36) f fd)(Z1E:mg "zip"=none):FnOk P w K mg base CX0 (1) f fd ["draft","row"] (bU (isL<|qA K) isS (rs jg)<|CF):=by
 have SC:FnScope ["draft","row","lengths","tablet","turn","colour"] ["draft","row"] (defScope<|tp 36):=by walk_at "F"
 refine F.ok SC (fun vs H Q E h=>?_)<|fun cdv A outer s H vs Q E hr h=>?_;·obtain⟨_,_,_,_,_,_,rfl,_⟩:=h;rfl
 ·obtain⟨W0,draft,row,Z3Q,_,rfl,rfl,Z0P,z_row,Er,hq⟩:=h;cases z_row;refine⟨_,(a8 (fk 2 o8)
   (a8 (et Gf rfl (fi (K:=K) rfl rfl Z1E<|a4 (pv 0)<|a4 (pv 1) a5) (cB (K:=K) (n:=2) rfl rfl<|au (gG 3)<|au (gG 4) cn)<|ae<|et Gf rfl (jr<|av (az (K:=K) rfl) (pv 3) a6<|fun _ _=>rfl) (gG 5)<|ae<|iR (eU hr) (pv 2) (pv 5) (ah bW (gQ (eU hr) (pv 2) (pv 5) a6 ⟨rfl,rfl,rfl,rfl⟩)<|kD (aI cv (pv 4) ar<|aJ _) a6 a6) rfl)
   (ae (r9 (i:=2) (aj (pv 2)))))),?_⟩
  have E0:Ext W0 W0:=.refl W0;unfold CF at hq;refine ig (Er:=Er) (qS (g:=(fun(a:Tx)=>FU<|sOf a)) (R:=isI))<|fun p3 W1 e2 hp4 o5=>?_;have fr6:=none_of E0.h hp4;have E0:=E0.trans e2;have Z0P:=EG e2.g Z0P;refine fy (Er:=Er) (f:=BB) (s0:=([]:List (Tx×Int))) (Iv:=fun(s9:dv)(W10:Wd)(g11:St)=>∃(d13:Option V)(d14:Option V)(d15:Option V),g11=[some Z3Q,some<|.str<|sOf row,some<|.ref p3,d14,d15,d13]/\Ext W0 W10/\OwD (fun(a:Tx)=>FU<|sOf a) isI W10 p3 s9) (gV (eI<|bg Z0P)<|gU cW) (ED hq) ?_ ?_ ?_
  ·intro W27 e28;have E0:=E0.trans e28;have o5:=o5.mono e28;exact⟨_,_,_,rfl,E0,o5⟩
  ·intro Wb16 W17 W18 a7 v19 s8 sg20 P21 hW22 hB23 iv e24 h25 hq;obtain⟨d13,d14,d15,rfl,E0,o12⟩:=iv;have E0:=E0.trans e24;have hB23:=hB23.trans e24.g;have o12:=o12.mono e24;refine lF h25 fun v33 v35 h34 h36=>?_;cases h36;unfold BB at hq;refine nz (Er:=Er) (f:=(BA a7)) (s0:=s8) (Iv:=fun(s39:dv)(W40:Wd)(g41:St)=>∃(d43:Option V),g41=[some Z3Q,some<|.str<|sOf row,some<|.ref p3,some v33,some<|.str<|sOf a7.2,d43]/\Ext W0 W40/\OwD (fun(a:Tx)=>FU<|sOf a) isI W40 p3 s39) (jx<|bx (f:=fun(b:Cd)=>b.2.1) pJ<|bg h34) (ED hq) ?_ ?_ ?_
   ·intro W55 e56;have E0:=E0.trans e56;have hB23:=hB23.trans e56.g;have o12:=o12.mono e56;have h34:=EG e56.g h34;exact⟨_,rfl,E0,o12⟩
   ·intro Wb44 W45 W46 a37 v47 s38 sg48 P49 hW50 hB51 iv e52 h53 hq;obtain⟨d43,rfl,E0,o42⟩:=iv;have hB23:=hB23.trans hW50;have h34:=EG hW50 h34;have E0:=E0.trans e52;have hB23:=hB23.trans e52.g;have hB51:=hB51.trans e52.g;have o42:=o42.mono e52;have h34:=EG e52.g h34;cases h53;refine gn (σ':=[some Z3Q,some<|.str<|sOf row,some<|.ref p3,some v33,some<|.str<|sOf a7.2,some<|.str<|sOf a37]) ?_;unfold BA at hq;refine iY (Er:=Er) iL kS o42 (bC (gZ iL kS (nI o42) cW ag) (uQ (aK (fw cW (aw (x:=EL "i") (l:=[105]) (dD _ _ (by decide +kernel))))) ag ag)) cW<|(ED hq).imp fun y64 hq W60 mu61 o62=>?_;have E0:=mu61.e _ E0 fr6;have hB23:=hB23.trans mu61.g;have hB51:=hB51.trans mu61.g;have h34:=EG mu61.g h34
    try dsimp only
    refine eJ (W:=W60) y64 hB51 ?_ hq;exact⟨_,rfl,E0,o62⟩
   ·intro s65 W66 sg67 hS68 iv hq;obtain⟨d43,rfl,E0,o42⟩:=iv;have hB23:=hB23.trans hS68;have h34:=EG hS68 h34
    try dsimp only
    refine eJ (W:=W66) s65 hB23 ?_ hq;exact⟨_,_,_,rfl,E0,o42⟩
  ·intro s69 W70 sg71 hS72 iv hq;obtain⟨d13,d14,d15,rfl,E0,o12⟩:=iv;refine rf o12 E0 fr6 fun W73 E0 hS74 h76 hk75=>?_;exact aG (Er:=Er) (bg h76)<|fun v77 W78 e79 h80=>hq v77 W78 (E0.trans e79) h80
theorem Ee{f:Addr}{fd:F8}(F:Fun K "drawn_off" "drawn_off" (tp 37) f fd){Z06 Z0i Z0d Z0e Z0f Z08 Z09 Z0a Z03 Z0l Z05 Z07 Z0m:Addr}(Z2m:mg "dict"=none)(Z2J:mg "SpoolDry"=some (.ref Z09))(Z7l:Ecl base Z09):FnOk P w K mg base (CXR P w) (1) f fd ["spools","lengths"] (lM jg jg [Z06,Z0i,Z0d,Z0e,Z0f,Z08,Z09,Z0a,Z03,Z0l,Z05,Z07,Z0m] (rs jg)<|CG):=by
 have SC:FnScope ["spools","lengths","left","colour","length"] ["spools","lengths"] (defScope<|tp 37):=by walk_at "F"
 refine F.okR SC (fun vs H Q E h=>?_)<|fun cdv A outer s H vs Q E hr h=>?_;·obtain⟨_,_,_,_,_,_,rfl,_⟩:=h;rfl
 ·obtain⟨W0,spools,lengths,Z7j,Zg3,rfl,rfl,Z1g,Z81,Er,hEr,hq⟩:=h
  refine⟨_,(a8 (fk 2 (cw ip (by rfl) Z2m HW<|a4 (pv 0) a5))
   (a8 (et PassesOwn.leaving rfl (vO<|pv 1) (cB (K:=K) (n:=2) rfl rfl<|au (gG 3)<|au (gG 4) cn) (a8 (bj (aI lP (gQ (eU hr) (pv 2) (pv 3) a6 ⟨rfl,rfl,rfl,rfl⟩) (pv 4)<|aJ _) (ae (gf Z7l (by rfl) Z2J<|a4 (mF<|pT<|vB (pv 3)<|pT vA) a5)) aD)
   (ae (xy (eU hr) (pv 2) (pv 3) (pv 4) yo (fun _ _ _=>rfl)))))
   (ae (r9 (i:=2) (aj (pv 2)))))),?_⟩
  have E0:Ext W0 W0:=.refl W0;unfold CG at hq;refine ig (Er:=Er) (j6<|M5<|bg Z1g)<|fun p3 W1 e2 hp4 o5=>?_;have fr6:=none_of E0.h hp4;have E0:=E0.trans e2;have Z81:=EG e2.g Z81;refine fy (Er:=Er) (f:=tF) (s0:=spools) (Iv:=fun(s9:dv)(W10:Wd)(g11:St)=>∃(d13:Option V)(d14:Option V),g11=[some Z7j,some Zg3,some<|.ref p3,d13,d14]/\Ext W0 W10/\OwD (fun(a:Tx)=>FU<|sOf a) isI W10 p3 s9) (vR (K:=K) Dq<|bg Z81) (ED hq) ?_ ?_ ?_
  ·intro W26 e27;have E0:=E0.trans e27;have o5:=o5.mono e27;exact⟨_,_,rfl,E0,o5⟩
  ·intro Wb15 W16 W17 a7 v18 s8 sg19 P20 hW21 hB22 iv e23 h24 hq;obtain⟨d13,d14,rfl,E0,o12⟩:=iv;have E0:=E0.trans e23;have hB22:=hB22.trans e23.g;have o12:=o12.mono e23;refine lF h24 fun v32 v34 h33 h35=>?_;cases h33;cases h35;unfold tF at hq;refine bt (Er:=Er) (aK<|eG (gZ iL kS (nI o12) cW ag) bM)<|fun W36 e37=>?_;have E0:=E0.trans e37;have hB22:=hB22.trans e37.g;have o12:=o12.mono e37;by_cases hb47:(decide<|bT s8 a7.1 (0:Int)<a7.2)=true
   ·rw[if_pos hb47]at hq ⊢;exact gh (Er:=Er) (j:=6) (hEr.mono E0) rfl (mG (pU (x:=EL "the spool of ") (l:=[116,104,101,32,115,112,111,111,108,32,111,102,32]) (dD _ _ (by decide +kernel)) (y0 cW (pU (x:=EL " falls short") (l:=[32,102,97,108,108,115,32,115,104,111,114,116]) (dD _ _ (by decide +kernel)) vC)))) hq
   ·rw[if_neg hb47]at hq ⊢
    try dsimp only[aF]
    refine yl (Er:=Er) (f:=fun i j=>i-j) iL kS o12 cW bM<|(ED hq).imp fun y46 hq W43 mu44 o45=>?_;have E0:=mu44.e _ E0 fr6;have hB22:=hB22.trans mu44.g
    try dsimp only
    refine eJ (W:=W43) y46 hB22 ?_ hq;exact⟨_,_,rfl,E0,o45⟩
  ·intro s48 W49 sg50 hS51 iv hq;obtain⟨d13,d14,rfl,E0,o12⟩:=iv;refine rf o12 E0 fr6 fun W52 E0 hS53 h55 hk54=>?_;exact aG (Er:=Er) (bg h55)<|fun v56 W57 e58 h59=>hq v56 W57 (E0.trans e58) h59
theorem Ef{f:Addr}{fd:F8}(F:Fun K "turned" "turned" (tp 24) f fd){Z2M:Tok}(Z1L:mg "HOLES"=some (.int 4 Z2M)){Z2r:Addr}(Z4L:mg "STEPS"=some (.ref Z2r))(Z4M:DictK K w Z2r [(FU<|EL "f",.int<|1),(FU<|EL "b",.int<|-1),(FU<|EL "i",.int<|0)]):FnOk P w K mg base CX0 (1) f fd ["tablet","turn"] (bU (qA K) isS (rs<|qA K)<|CH):=by
 have SC:FnScope ["tablet","turn","lay","holes","stand"] ["tablet","turn"] (defScope<|tp 24):=by walk_at "F"
 refine F.ok SC (fun vs H Q E h=>?_)<|fun cdv A outer s H vs Q E hr h=>?_;·obtain⟨_,_,_,_,_,_,rfl,_⟩:=h;rfl
 ·obtain⟨W0,tablet,turn,Z4V,_,rfl,rfl,Z1q,Z80,Er,hq⟩:=h;cases Z80;refine⟨_,(a8 (gJ (pv 0)<|cB (K:=K) (n:=3) rfl rfl<|au (gG 2)<|au (gG 3)<|au (gG 4) cn)
   (ae (aj (aS (a4 (pv 2) (a4 (pv 3) (a4 (ah aV (ah bW (pv 4) (i9 (K:=K) (w:=w) rfl rfl (bL (v:=.ref _) (by rfl) Z4L rfl) (pv 1) (fun _ _=>rfl))) (bL (v:=.int 4) (by rfl) Z1L ⟨_,rfl⟩)) a5))))))),?_⟩
  have E0:Ext W0 W0:=.refl W0;unfold CH at hq;refine gb (Er:=Er) (bg Z1q)<|fun v1 W2 e3 h4=>?_;have E0:=E0.trans e3;refine pK h4 fun v5 v7 v9 h6 h8 h10=>?_;cases h6;cases h8;cases h10;exact aG (Er:=Er) (fO (K:=K) cW cW (aE (fun _=>by decide) (bC bM (my Z4M (by decide +kernel) cW))))<|Fe hq fun y14 hq v15 W16 e17 h18=>hq v15 W16 (E0.trans e17) h18
theorem BR{f:Addr}{fd:F8}(F:Fun K "top" "top" (tp 21) f fd){Z2M:Tok}(Z1L:mg "HOLES"=some (.int 4 Z2M)):FnOk P w K mg base CX0 (1) f fd ["tablet"] (dO (qA K) (rs isS)<|rk):=by
 have SC:FnScope ["tablet","lay","holes","stand"] ["tablet"] (defScope<|tp 21):=by walk_at "F"
 refine F.ok SC (fun vs H Q E h=>?_)<|fun cdv A outer s H vs Q E hr h=>?_;·obtain⟨_,_,_,_,rfl,_⟩:=h;rfl
 ·obtain⟨W0,tablet,Z4V,rfl,rfl,Z1q,Er,hq⟩:=h;refine⟨_,(a8 (gJ (pv 0)<|cB (K:=K) (n:=3) rfl rfl<|au (gG 1)<|au (gG 2)<|au (gG 3) cn)
   (ae (aj (av cT (pv 2) (ah aV (pv 3) (bL (v:=.int 4) (by rfl) Z1L ⟨_,rfl⟩)) (fun _ _=>rfl))))),?_⟩
  have E0:Ext W0 W0:=.refl W0;unfold rk at hq;refine gb (Er:=Er) (bg Z1q)<|fun v1 W2 e3 h4=>?_;have E0:=E0.trans e3;refine pK h4 fun v5 v7 v9 h6 h8 h10=>?_;cases h6;cases h8;cases h10;exact aG (Er:=Er) (cU cW (aE (fun _=>by decide) bM))<|Fe hq fun y11 hq v12 W13 e14 h15=>hq v12 W13 (E0.trans e14) h15
theorem Eg{f:Addr}{fd:F8}(F:Fun K "bottom" "bottom" (tp 22) f fd){Z2M:Tok}(Z1L:mg "HOLES"=some (.int 4 Z2M)):FnOk P w K mg base CX0 (1) f fd ["tablet"] (dO (qA K) (rs isS)<|CI):=by
 have SC:FnScope ["tablet","lay","holes","stand"] ["tablet"] (defScope<|tp 22):=by walk_at "F"
 refine F.ok SC (fun vs H Q E h=>?_)<|fun cdv A outer s H vs Q E hr h=>?_;·obtain⟨_,_,_,_,rfl,_⟩:=h;rfl
 ·obtain⟨W0,tablet,Z4V,rfl,rfl,Z1q,Er,hq⟩:=h;refine⟨_,(a8 (gJ (pv 0)<|cB (K:=K) (n:=3) rfl rfl<|au (gG 1)<|au (gG 2)<|au (gG 3) cn)
   (ae (aj (av cT (pv 2) (ah aV (ah bW (pv 3) a6) (bL (v:=.int 4) (by rfl) Z1L ⟨_,rfl⟩)) (fun _ _=>rfl))))),?_⟩
  have E0:Ext W0 W0:=.refl W0;unfold CI at hq;refine gb (Er:=Er) (bg Z1q)<|fun v1 W2 e3 h4=>?_;have E0:=E0.trans e3;refine pK h4 fun v5 v7 v9 h6 h8 h10=>?_;cases h6;cases h8;cases h10;exact aG (Er:=Er) (cU cW (aE (fun _=>by decide)<|bC bM ag))<|Fe hq fun y11 hq v12 W13 e14 h15=>hq v12 W13 (E0.trans e14) h15
theorem Eh{f:Addr}{fd:F8}(F:Fun K "left_place" "left_place" (tp 29) f fd){jc:Cd->Res Tx}{yB:Cd->Res Tx}{oR:Cd->Tx->Res Int}(C_top:Cal P w K mg base "top" ["tablet"] (1) (dO (qA K) (rs isS) jc))(Z98:Cal P w K mg base "bottom" ["tablet"] (1) (dO (qA K) (rs isS) yB))(Z2N:Cal P w K mg base "twisting" ["tablet","turn"] (1) (bU (qA K) isS (rs isI) oR)){Z3d:Addr}(Z99:mg "SLANTS"=some (.ref Z3d))(Z9a:DictK K w Z3d [(Hq<|1,.str<|EL "s"),(Hq<|-1,.str<|EL "z"),(Hq<|0,.str<|EL "o")]):FnOk P w K mg base CX0 (2) f fd ["tablet","turn"] (bU (qA K) isS (rs<|qB K)<|CJ jc yB oR):=by
 have SC:FnScope ["tablet","turn"] ["tablet","turn"] (defScope<|tp 29):=by walk_at "F"
 refine F.ok SC (fun vs H Q E h=>?_)<|fun cdv A outer s H vs Q E hr h=>?_;·obtain⟨_,_,_,_,_,_,rfl,_⟩:=h;rfl
 ·obtain⟨W0,tablet,turn,Z4V,_,rfl,rfl,Z1q,Z80,Er,hq⟩:=h;cases Z80;refine⟨_,(ae (aj (aS (a4 (eX C_top<|a4 (pv 0) a5) (a4 (eX Z98<|a4 (pv 0) a5) (a4 (i9 (K:=K) (w:=w) rfl rfl (bL (v:=.ref _) (by rfl) Z99 rfl) (eX Z2N<|a4 (pv 0)<|a4 (pv 1) a5)<|fun _ _=>rfl) a5)))))),?_⟩;have E0:Ext W0 W0:=.refl W0;unfold CJ at hq;exact aG (Er:=Er) (fO (K:=K) (dt<|bg Z1q) (dt<|bg Z1q) (sH Z9a (by decide +kernel)<|bE (bg Z1q) cW))<|Fe hq fun y5 hq v6 W7 e8 h9=>hq v6 W7 (E0.trans e8) h9
theorem Ei{f:Addr}{fd:F8}(F:Fun K "woven_stage" "woven_stage" (tp 33) f fd){wZ:Tx->Int->Res Bool}{oR:Cd->Tx->Res Int}{x5:dv->dv->Res dv}{w6:(List Cd)->Tx->Res dv}{w8:Cd->Tx->Res Cd}{x6:Cd->Tx->Res Pl}{Z06 Z0i Z0d Z0e Z0f Z08 Z09 Z0a Z03 Z0l Z05 Z07 Z0m:Addr}{Z00:Addr}(Z9b:Cal P w K mg base "is_row" ["text","width"] (1) (bU isS isI (rs isB) wZ))(Z2N:Cal P w K mg base "twisting" ["tablet","turn"] (1) (bU (qA K) isS (rs isI) oR))(Z65:CalR P w K mg base "drawn_off" ["spools","lengths"] (1) (lM jg jg [Z06,Z0i,Z0d,Z0e,Z0f,Z08,Z09,Z0a,Z03,Z0l,Z05,Z07,Z0m] (rs jg) x5))(Za3:Cal P w K mg base "taken" ["draft","row"] (1) (bU (isL<|qA K) isS (rs jg) w6))(Z9c:Cal P w K mg base "turned" ["tablet","turn"] (1) (bU (qA K) isS (rs<|qA K) w8))(Z4W:Cal P w K mg base "left_place" ["tablet","turn"] (2) (bU (qA K) isS (rs<|qB K) x6))(Z2L:CalI P w K mg base "Stage" Z00 ["self","deed","standing","reached","highest","lengths","pick"] (1) (tj Z00 ["deed","standing","reached","highest","lengths","pick"]))(Z0k:Cls K Z00)(Z0I:NoAttr K Z00 "highest")(Z0J:NoAttr K Z00 "lengths")(Z0H:NoAttr K Z00 "reached")(Z0t:NoAttr K Z00 "standing")(Z3t:mg "abs"=none)(Zf3:mg "any"=none)(Z0C:mg "len"=none)(Z4d:mg "max"=none)(Z1E:mg "zip"=none)(Z3P:mg "BadRow"=some (.ref Z0i))(Z9d:Ecl base Z0i)(Z2I:mg "TooTight"=some (.ref Z08))(Z7m:Ecl base Z08):FnOk P w K mg base (CXR P w) (3) f fd ["stage","row","most"] (xX (aT K Z00) isS isI [Z06,Z0i,Z0d,Z0e,Z0f,Z08,Z09,Z0a,Z03,Z0l,Z05,Z07,Z0m] (rs<|aT K Z00)<|CK wZ oR x5 w6 w8 x6):=by
 have SC:FnScope ["stage","row","most","reached","lengths","highest","standing","pick"] ["stage","row","most"] (defScope<|tp 33):=by walk_at "F"
 refine F.okR SC (fun vs H Q E h=>?_)<|fun cdv A outer s H vs Q E hr h=>?_;·obtain⟨_,_,_,_,_,_,_,_,rfl,_⟩:=h;rfl
 ·obtain⟨W0,stage,row,most,Za4,_,_,rfl,rfl,Z0y,z_row,Zhw,Er,hEr,hq⟩:=h;cases z_row;cases Zhw
  refine⟨_,(a8 (bj (dZ (cK (eX Z9b (a4 (pv 1) (a4 (ak (bJ (K:=K) rfl) (by rfl) Z0C G2<|a4 (aY (K:=K) rfl (pv 0) rfl) a5) a5))))) (ae (gf Z9d (by rfl) Z3P<|a4 ar a5)) aD)
   (a8 (eS (i:=3) SC.nd rfl (by walk_at "L") (N:=["twist","tablet","turn"]) (cap:=[none,none,none]) (fI rfl (by decide +kernel) rfl (by decide +kernel) (by rfl) (by rfl)) rfl (qG (K:=K) rfl rfl Z1E<|a4 (aY (K:=K) rfl (pv 0) rfl)<|a4 (aY (K:=K) rfl (pv 0) rfl)<|a4 (pv 1) a5) (fun _ _ _ _=>(cB (K:=K) (n:=3) rfl rfl (au (aW (i:=0) (show FC (["twist","tablet","turn"]:List Str) by decide +kernel) rfl (by walk_at "L")) (au (aW (i:=1) (show FC (["twist","tablet","turn"]:List Str) by decide +kernel) rfl (by walk_at "L")) (au (aW (i:=2) (show FC (["twist","tablet","turn"]:List Str) by decide +kernel) rfl (by walk_at "L")) cn))))) (fun _ _ _ _=>cA)<|fun _ _ _ _=>(ah bW (pv 0)<|eX Z2N<|a4 (pv 1)<|a4 (pv 2) a5))
   (a8 (bj (cK (ak (sE (K:=K) rfl rfl) (by rfl) Zf3 Nm (a4 (dg (N:=["twist","most"]) (cap:=[none,some 2]) (fI rfl (by decide +kernel) rfl (by decide +kernel) (by rfl) (by rfl)) rfl (dq (K:=K) rfl<|pv 3) (fun _ _ _ _=>(aW (i:=0) (show FC (["twist","most"]:List Str) by decide +kernel) rfl (by walk_at "L"))) (fun _ _ _ _=>cA) (fun _ _ _ _=>(eA nQ (ak gM (by rfl) Z3t Hv<|a4 (pv 0) a5) (pv 1)<|aJ _))) a5))) (ae (gf Z7m (by rfl) Z2I<|a4 ar a5)) aD)
   (a8 (fk 4 (ke Z65 qX (hr.mono (by decide)) (by rfl)<|a4 (aY (K:=K) rfl (pv 0) rfl)<|a4 (eX Za3<|a4 (aY (K:=K) rfl (pv 0) rfl)<|a4 (pv 1) a5) a5))
   (a8 (eS (i:=5) SC.nd rfl (by walk_at "L") (N:=["peak","twist"]) (cap:=[none,none]) (fI rfl (by decide +kernel) rfl (by decide +kernel) (by rfl) (by rfl)) rfl (fi (K:=K) rfl rfl Z1E<|a4 (aY (K:=K) rfl (pv 0) rfl)<|a4 (pv 3) a5) (fun _ _ _ _=>(cB (K:=K) (n:=2) rfl rfl (au (aW (i:=0) (show FC (["peak","twist"]:List Str) by decide +kernel) rfl (by walk_at "L")) (au (aW (i:=1) (show FC (["peak","twist"]:List Str) by decide +kernel) rfl (by walk_at "L")) cn)))) (fun _ _ _ _=>cA) (fun _ _ _ _=>(ak (jo rfl) (by rfl) Z4d Ic (a4 (pv 0) (a4 (ak gM (by rfl) Z3t Hv<|a4 (pv 1) a5) a5)))))
   (a8 (eS (i:=6) SC.nd rfl (by walk_at "L") (N:=["tablet","turn"]) (cap:=[none,none]) (fI rfl (by decide +kernel) rfl (by decide +kernel) (by rfl) (by rfl)) rfl (fi (K:=K) rfl rfl Z1E<|a4 (aY (K:=K) rfl (pv 0) rfl)<|a4 (pv 1) a5) (fun _ _ _ _=>(cB (K:=K) (n:=2) rfl rfl (au (aW (i:=0) (show FC (["tablet","turn"]:List Str) by decide +kernel) rfl (by walk_at "L")) (au (aW (i:=1) (show FC (["tablet","turn"]:List Str) by decide +kernel) rfl (by walk_at "L")) cn)))) (fun _ _ _ _=>cA)<|fun _ _ _ _=>(eX Z9c<|a4 (pv 0)<|a4 (pv 1) a5))
   (a8 (eS (i:=7) SC.nd rfl (by walk_at "L") (N:=["tablet","turn"]) (cap:=[none,none]) (fI rfl (by decide +kernel) rfl (by decide +kernel) (by rfl) (by rfl)) rfl (fi (K:=K) rfl rfl Z1E<|a4 (pv 6)<|a4 (pv 1) a5) (fun _ _ _ _=>(cB (K:=K) (n:=2) rfl rfl (au (aW (i:=0) (show FC (["tablet","turn"]:List Str) by decide +kernel) rfl (by walk_at "L")) (au (aW (i:=1) (show FC (["tablet","turn"]:List Str) by decide +kernel) rfl (by walk_at "L")) cn)))) (fun _ _ _ _=>cA)<|fun _ _ _ _=>(eX Z4W<|a4 (pv 0)<|a4 (pv 1) a5))
   (ae (aj (kf Z2L (hr.mono (by decide)) (by rfl) (a4 (aS (a4 ar (a4 (pv 1) a5))) (a4 (pv 6) (a4 (pv 3) (a4 (pv 5) (a4 (pv 4) (a4 (pv 7) a5)))))))))))))))),?_⟩
  have E0:Ext W0 W0:=.refl W0;rw[show L2.start ["stage","row","most","reached","lengths","highest","standing","pick"] [Za4,.str<|sOf row,.int most]=[some Za4,some<|.str<|sOf row,some<|.int most,none,none,none,none,none]from rfl];unfold CK at hq;refine bt (Er:=Er) (fx<|jv<|bE cW<|eY<|Hk<|cE Z0k Z0t cg<|bg Z0y)<|(ED hq).imp fun y2 hq W3 e4=>?_;have E0:=E0.trans e4;have Z0y:=EG e4.g Z0y;by_cases hb94:y2=true
  ·rw[if_pos hb94]at hq ⊢;exact gh (Er:=Er) (j:=1) (hEr.mono E0) rfl (aw (x:=EL "a row has one turn for each tablet") (l:=[97,32,114,111,119,32,104,97,115,32,111,110,101,32,116,117,114,110,32,102,111,114,32,101,97,99,104,32,116,97,98,108,101,116]) (dD _ _ (by decide +kernel))) hq
  ·rw[if_neg hb94]at hq ⊢
   try dsimp only[aF]
   refine aA (Er:=Er) (G7 (cG (qO (eI<|cE Z0k Z0H fB<|bg Z0y) (eI<|cE Z0k Z0t cg<|bg Z0y)<|gU cW) fun W9 a7 v8 e10 h11 Q19 k20=>by
    refine pK h11 fun v12 v14 v16 h13 h15 h17=>?_;cases h13;cases h17;exact⟨by simp[Keep,bz],((bC bM (bE (bg h15) cW)):EV Er _ [some (.int a7.1),some v14,some (.str (sOf a7.2.2))] _ _ _) _ (.refl _) _ k20⟩)) ((ED hq).imp fun y21 hq v22 W5 e6 h23=>?_)
   have E0:=E0.trans e6;have Z0y:=EG e6.g Z0y;refine bt (Er:=Er) (jv (zW (Ig (cG (eZ<|bg h23) fun W26 a24 v25 e27 h28 Q31 k32=>by
    cases h28;refine gn ?_;exact⟨by simp[Keep,bz],((eG (l0 bM) bM):EV Er _ [some (.int a24),some (.int most)] _ _ _) _ (.refl _) _ k32⟩)))) ((ED hq).imp fun y34 hq W35 e36=>?_)
   have E0:=E0.trans e36;have Z0y:=EG e36.g Z0y;have h23:=EG e36.g h23;by_cases hb94:y34=true
   ·rw[if_pos hb94]at hq ⊢;exact gh (Er:=Er) (j:=5) (hEr.mono E0) rfl (aw (x:=EL "a tablet would be twisted too far") (l:=[97,32,116,97,98,108,101,116,32,119,111,117,108,100,32,98,101,32,116,119,105,115,116,101,100,32,116,111,111,32,102,97,114]) (dD _ _ (by decide +kernel))) hq
   ·rw[if_neg hb94]at hq ⊢
    try dsimp only[aF]
    refine aA (Er:=Er) (jB (hEr.mono E0) (cE Z0k Z0J fE<|bg Z0y)<|bE (cE Z0k Z0t cg<|bg Z0y) cW)<|(ED hq).imp fun y40 hq v41 W37 e38 h42=>?_;have E0:=E0.trans e38;have Z0y:=EG e38.g Z0y;have h23:=EG e38.g h23;refine aA (Er:=Er) (G7 (cG (gV (eI<|cE Z0k Z0I fD<|bg Z0y)<|eI<|bg h23) fun W47 a45 v46 e48 h49 Q54 k55=>by
     refine lF h49 fun v50 v52 h51 h53=>?_;cases h51;cases h53;exact⟨by simp[Keep,bz],((nA bM (l0 bM)):EV Er _ [some (.int a45.1),some (.int a45.2)] _ _ _) _ (.refl _) _ k55⟩)) ((ED hq).imp fun y56 hq v57 W43 e44 h58=>?_)
    have E0:=E0.trans e44;have Z0y:=EG e44.g Z0y;have h23:=EG e44.g h23;have h42:=EG e44.g h42;refine aA (Er:=Er) (G7 (cG (gV (eI<|cE Z0k Z0t cg<|bg Z0y)<|gU cW) fun W63 a61 v62 e64 h65 Q70 k71=>by
     refine lF h65 fun v66 v68 h67 h69=>?_;cases h69;exact⟨by simp[Keep,bz],((bE (bg h67) cW):EV Er _ [some v66,some (.str (sOf a61.2))] _ _ _) _ (.refl _) _ k71⟩)) ((ED hq).imp fun y72 hq v73 W59 e60 h74=>?_)
    have E0:=E0.trans e60;have h23:=EG e60.g h23;have h42:=EG e60.g h42;have h58:=EG e60.g h58;refine aA (Er:=Er) (G7 (cG (gV (eI<|bg h74)<|gU cW) fun W79 a77 v78 e80 h81 Q86 k87=>by
     refine lF h81 fun v82 v84 h83 h85=>?_;cases h85;exact⟨by simp[Keep,bz],((bE (bg h83) cW):EV Er _ [some v82,some (.str (sOf a77.2))] _ _ _) _ (.refl _) _ k87⟩)) ((ED hq).imp fun y88 hq v89 W75 e76 h90=>?_)
    have E0:=E0.trans e76;have h23:=EG e76.g h23;have h42:=EG e76.g h42;have h58:=EG e76.g h58;have h74:=EG e76.g h74;exact aG (Er:=Er) (lp (iN<|iN<|iN<|iN<|iN Ab) (bF (cV (K:=K) (fe cD cD) (aX (K:=K) (aw (x:=EL "row") (l:=[114,111,119]) (dD _ _ (by decide +kernel))) cW))<|bF (bg h74)<|bF (bg h23)<|bF (bg h58)<|bF (bg h42)<|ll<|uY<|bg h90))<|fun v91 W92 e93 h94=>hq v91 W92 (E0.trans e93) h94
theorem Ej{f:Addr}{fd:F8}(F:Fun K "go_on" "Loom.go_on" (tq 38 2) f fd){Z00 Z01:Addr}(Z0j:Cls K Z01)(Z0p:NoAttr K Z01 "course")(Z0Q:NoAttr K Z01 "undone"):FnOk P w K mg base CX0 (1) f fd ["self","stages"] (sS (af K Z00 Z01) (aC (isL<|aT K Z00) aN) isN<|fun st a=>BC st a.1):=by
 have SC:FnScope ["self","stages"] ["self","stages"] (defScope<|tq 38 2):=by walk_at "F"
 refine F.ok SC (fun vs H Q E h=>?_)<|fun cdv A outer s H vs Q E hr h=>?_;·obtain⟨_,_,_,_,_,_,us,_,rfl,_,_,_,ra,_⟩:=h;obtain⟨_,us,rfl,_,ra⟩:=ra;cases ra;rfl
 ·obtain⟨W0,W,F,self,Z0s,aa,us,rfl,rfl,E0,nF,Z3w,ra,Er,hq⟩:=h;obtain⟨stages,_⟩:=aa;obtain⟨Zh8,us,rfl,Z3S,ra⟩:=ra;replace Z3S:(isL<|aT K Z00) W.G stages Zh8:=Z3S;cases ra;replace hq:(BC self stages).OkE Er (EndO W0 W (af K Z00 Z01) isN Z0s Q):=hq;refine⟨_,(ae (bj (iq (K:=K) rfl<|pv 1) (a8 (d4<|nr (K:=K) rfl Gg KI PySem.F.type_list_extend rS (aY (K:=K) rfl (pv 0) rfl)<|a4 (pv 1) a5)
   (ae (fq (pv 0) (bX a5) rfl))) aD)),?_⟩
  have hS0:Same W.G W.G:=.refl _;have EW:Ext W W:=.refl _;have S:Sep W0 W [tc (af K Z00 Z01) self Z0s]:=L9 Z3w nF;unfold BC at hq;refine mv (Er:=Er) (kg (K:=K)<|Hk<|bg Z3S)<|fun W1 e2=>?_;have S:=S.ext e2;have E0:=E0.trans e2;have EW:=EW.trans e2;have hS0:=hS0.trans e2.g;have Z3S:=EG e2.g Z3S;by_cases hb7:(!stages.isEmpty)=true
  ·rw[if_pos hb7]at hq ⊢;refine sZ (Er:=Er) (K:=K) E0 (j8 Z0j Z0p Z1t<|gu (R:=(af K Z00 Z01)) (C:=fun bb=>[tc (af K Z00 Z01) bb Z0s]) (k:=0) S E0) (Hk<|bg Z3S)<|(ED hq).imp fun y3 hq W4 hS5 E0 S=>?_;have S:Sep W0 W4 [tc (af K Z00 Z01) y3 Z0s]:=S;have hS0:=hS0.trans hS5;refine sX (Er:=Er) (k:=0) Z0j Z0Q (le_loom.lt) lx S E0 rfl (j4 (R:=(fz<|aT K Z00)))<|fun W6 hS7 E0 S=>?_;have S:Sep W0 W6 [tc (af K Z00 Z01) (y3.1,y3.2.1,y3.2.2.1,([]:List eM)) Z0s]:=S;have hS0:=hS0.trans hS7;exact O0 (k:=0) S rfl E0 hS0 rfl hq
  ·rw[if_neg hb7]at hq ⊢
   try dsimp only[aF]
   exact O0 (k:=0) S rfl E0 hS0 rfl hq
theorem Ek{f:Addr}{fd:F8}(F:Fun K "weave" "Loom.weave" (tq 38 3) f fd){rl:eM->Tx->Int->Res eM}{fJ:Z02->Res eM}{nJ:Z02->(List eM)->Res (Z02×Unit)}{Z06 Z0i Z0d Z0e Z0f Z08 Z09 Z0a Z03 Z0l Z05 Z07 Z0m:Addr}{Z00 Z01:Addr}(Z4q:CalR P w K mg base "woven_stage" ["stage","row","most"] (3) (xX (aT K Z00) isS isI [Z06,Z0i,Z0d,Z0e,Z0f,Z08,Z09,Z0a,Z03,Z0l,Z05,Z07,Z0m] (rs<|aT K Z00) rl))(Z0L:CalM P w K mg base CX0 Z01 "now" ["self"] (1) (gH (wC (vw<|af K Z00 Z01) wN) (rs<|aT K Z00)<|fun a=>fJ a.1))(Z2f:CalM P w K mg base CX0 Z01 "go_on" ["self","stages"] (1) (sS (af K Z00 Z01) (aC (isL<|aT K Z00) aN) isN<|fun st a=>nJ st a.1))(Z0j:Cls K Z01)(Z0k:Cls K Z00)(Z2p:NoAttr K Z01 "most")(Z1m:NoAttr K Z00 "pick")(Z17:mg "list"=none):FnOk P w K mg base (CXR P w) (4) f fd ["self","row"] (r6 (af K Z00 Z01) (aC isS aN) [Z06,Z0i,Z0d,Z0e,Z0f,Z08,Z09,Z0a,Z03,Z0l,Z05,Z07,Z0m] (qD K)<|fun st a=>BD rl fJ nJ st a.1):=by
 have SC:FnScope ["self","row","stage"] ["self","row"] (defScope<|tq 38 3):=by walk_at "F"
 refine F.okR SC (fun vs H Q E h=>?_)<|fun cdv A outer s H vs Q E hr h=>?_;·obtain⟨_,_,_,_,_,_,us,_,rfl,_,_,_,ra,_⟩:=h;obtain⟨_,us,rfl,_,ra⟩:=ra;cases ra;rfl
 ·obtain⟨W0,W,F,self,Z0s,aa,us,rfl,rfl,E0,nF,Z3w,ra,Er,hEr,hq⟩:=h;obtain⟨row,_⟩:=aa;obtain⟨v_row,us,rfl,z_row,ra⟩:=ra;replace z_row:isS W.G row v_row:=z_row;cases ra;replace hq:(BD rl fJ nJ self row).OkE Er (EndO W0 W (af K Z00 Z01) (qD K) Z0s Q):=hq;cases z_row
  refine⟨_,(a8 (fk 2 (ke Z4q qX (hr.mono (by decide)) (by rfl) (a4 (eL Z0L (hr.mono (by decide))<|pv 0)<|a4 (pv 1)<|a4 (aY (K:=K) rfl (pv 0) rfl) a5)))
   (a8 (d4 (j5 Z2f (hr.mono (by decide)) (pv 0)<|a4 (bX<|a4 (pv 2) a5) a5))
   (ae (aj (cw (cN (K:=K) rfl) (by rfl) Z17 Ga (a4 (aY (K:=K) rfl (pv 2) rfl) a5)))))),?_⟩
  have hS0:Same W.G W.G:=.refl _;have EW:Ext W W:=.refl _;have S:Sep W0 W [tc (af K Z00 Z01) self Z0s]:=L9 Z3w nF;unfold BD at hq;refine aA (Er:=Er) (sQ (hEr.mono EW) (j9 (bV<|bV<|bV gF) (cq (R:=(af K Z00 Z01)) (k:=0) S) cI) cW<|fj<|fS Z0j Z2p ZbG.at_<|cq (R:=(af K Z00 Z01)) (k:=0) S)<|(ED hq).imp fun y4 hq v5 W1 e2 h6=>?_;have S:=S.ext e2;have E0:=E0.trans e2;have EW:=EW.trans e2;have hS0:=hS0.trans e2.g;refine pZ (Er:=Er) (k:=0) (mL<|bV<|bV<|bV gF) S E0 rfl rfl (bF (G7<|di<|bc (bg h6)<|dh (R:=(aT K Z00))) fR)<|(ED hq).imp fun y9 hq W7 hS8 E0 S=>?_;have S:Sep W0 W7 [tc (af K Z00 Z01) y9.1 Z0s]:=S;have hS0:=hS0.trans hS8;have h6:=EG hS8 h6;exact il (Er:=Er) (k:=0) S rfl E0 hS0 (G7<|fA<|Hk<|uZ<|cE Z0k Z1m hR<|bg h6) hq
theorem El{f:Addr}{fd:F8}(F:Fun K "check_tablet" "check_tablet" (tp 35) f fd){Z06 Z0i Z0d Z0e Z0f Z08 Z09 Z0a Z03 Z0l Z05 Z07 Z0m:Addr}(Z0C:mg "len"=none)(Z2K:mg "NoTablet"=some (.ref Z0a))(Z7n:Ecl base Z0a):FnOk P w K mg base (CXR P w) (1) f fd ["draft","k"] (lM (isL<|qA K) isI [Z06,Z0i,Z0d,Z0e,Z0f,Z08,Z09,Z0a,Z03,Z0l,Z05,Z07,Z0m] (rs isN)<|BE):=by
 have SC:FnScope ["draft","k"] ["draft","k"] (defScope<|tp 35):=by walk_at "F"
 refine F.okR SC (fun vs H Q E h=>?_)<|fun cdv A outer s H vs Q E hr h=>?_;·obtain⟨_,_,_,_,_,_,rfl,_⟩:=h;rfl
 ·obtain⟨W0,draft,k,Z3Q,_,rfl,rfl,Z0P,z_k,Er,hEr,hq⟩:=h;cases z_k;refine⟨_,(ae (bj (LU (kA (aI lP (pv 1) a6<|aJ _) (jk (aI uc (pv 1) (ak (bJ (K:=K) rfl) (by rfl) Z0C G2<|a4 (pv 0) a5)<|aJ _)))) (ae (gf Z7n (by rfl) Z2K<|a4 (mF<|pT<|vB (pv 1) vA) a5)) aD)),?_⟩;have E0:Ext W0 W0:=.refl W0;unfold BE at hq;refine mv (Er:=Er) (om (aK<|eG bM ag)<|aK<|eG bM<|eY<|Hk<|bg Z0P)<|(ED hq).imp fun y1 hq W2 e3=>?_;have E0:=E0.trans e3;have Z0P:=EG e3.g Z0P;by_cases hb7:y1=true
  ·rw[if_pos hb7]at hq ⊢;exact gh (Er:=Er) (j:=7) (hEr.mono E0) rfl (mG (pU (x:=EL "there is no tablet ") (l:=[116,104,101,114,101,32,105,115,32,110,111,32,116,97,98,108,101,116,32]) (dD _ _ (by decide +kernel))<|ya bM vC)) hq
  ·rw[if_neg hb7]at hq ⊢
   try dsimp only[aF]
   exact hq .non W2 E0 rfl
theorem Em{f:Addr}{fd:F8}(F:Fun K "flipped" "flipped" (tp 25) f fd){Z2M:Tok}(Z1L:mg "HOLES"=some (.int 4 Z2M)){Z1P:Addr}(Z4X:mg "OTHER_LAYS"=some (.ref Z1P))(Z4Y:DictK K w Z1P [(FU<|EL "S",.str<|EL "Z"),(FU<|EL "Z",.str<|EL "S")]):FnOk P w K mg base CX0 (1) f fd ["tablet"] (dO (qA K) (rs<|qA K)<|CL):=by
 have SC:FnScope ["tablet","lay","holes","stand","mirrored"] ["tablet"] (defScope<|tp 25):=by walk_at "F"
 refine F.ok SC (fun vs H Q E h=>?_)<|fun cdv A outer s H vs Q E hr h=>?_;·obtain⟨_,_,_,_,rfl,_⟩:=h;rfl
 ·obtain⟨W0,tablet,Z4V,rfl,rfl,Z1q,Er,hq⟩:=h;refine⟨_,(a8 (gJ (pv 0)<|cB (K:=K) (n:=3) rfl rfl<|au (gG 1)<|au (gG 2)<|au (gG 3) cn)
   (a8 (fk 4<|ah bu (ah bu (ah bu (av cT (pv 2) a6<|fun _ _=>rfl)<|av cT (pv 2) a6<|fun _ _=>rfl)<|av cT (pv 2) a6<|fun _ _=>rfl)<|av cT (pv 2) a6<|fun _ _=>rfl)
   (ae (aj (aS (a4 (i9 (K:=K) (w:=w) rfl rfl (bL (v:=.ref _) (by rfl) Z4X rfl) (pv 1) (fun _ _=>rfl)) (a4 (pv 4) (a4 (ah aV (ah gK (bL (v:=.int 4) (by rfl) Z1L ⟨_,rfl⟩) (pv 3)) (bL (v:=.int 4) (by rfl) Z1L ⟨_,rfl⟩)) a5)))))))),?_⟩
  have E0:Ext W0 W0:=.refl W0;unfold CL at hq;refine gb (Er:=Er) (bg Z1q)<|fun v1 W2 e3 h4=>?_;have E0:=E0.trans e3;refine pK h4 fun v5 v7 v9 h6 h8 h10=>?_;cases h6;cases h8;cases h10;refine aA (Er:=Er) (cC (cC (cC (cU cW ag)<|cU cW ag)<|cU cW ag)<|cU cW ag)<|(ED hq).imp fun y19 hq v20 W11 e12 h21=>?_;cases h21;have E0:=E0.trans e12;exact aG (Er:=Er) (fO (K:=K) (sG Z4Y (by decide +kernel) cW) cW (aE (fun _=>by decide)<|bC ag bM))<|Fe hq fun y23 hq v24 W25 e26 h27=>hq v24 W25 (E0.trans e26) h27
theorem En{f:Addr}{fd:F8}(F:Fun K "flipped_stage" "flipped_stage" (tp 34) f fd){wa:(List Cd)->Int->Res Unit}{yC:Cd->Res Cd}{Z06 Z0i Z0d Z0e Z0f Z08 Z09 Z0a Z03 Z0l Z05 Z07 Z0m:Addr}{Z00:Addr}(Z3T:CalR P w K mg base "check_tablet" ["draft","k"] (1) (lM (isL<|qA K) isI [Z06,Z0i,Z0d,Z0e,Z0f,Z08,Z09,Z0a,Z03,Z0l,Z05,Z07,Z0m] (rs isN) wa))(Z82:Cal P w K mg base "flipped" ["tablet"] (1) (dO (qA K) (rs<|qA K) yC))(Z2L:CalI P w K mg base "Stage" Z00 ["self","deed","standing","reached","highest","lengths","pick"] (1) (tj Z00 ["deed","standing","reached","highest","lengths","pick"]))(Z0k:Cls K Z00)(Z0I:NoAttr K Z00 "highest")(Z0J:NoAttr K Z00 "lengths")(Z0H:NoAttr K Z00 "reached")(Z0t:NoAttr K Z00 "standing")(Z17:mg "list"=none):FnOk P w K mg base (CXR P w) (3) f fd ["stage","k"] (lM (aT K Z00) isI [Z06,Z0i,Z0d,Z0e,Z0f,Z08,Z09,Z0a,Z03,Z0l,Z05,Z07,Z0m] (rs<|aT K Z00)<|CM wa yC):=by
 have SC:FnScope ["stage","k","standing"] ["stage","k"] (defScope<|tp 34):=by walk_at "F"
 refine F.okR SC (fun vs H Q E h=>?_)<|fun cdv A outer s H vs Q E hr h=>?_;·obtain⟨_,_,_,_,_,_,rfl,_⟩:=h;rfl
 ·obtain⟨W0,stage,k,Za4,_,rfl,rfl,Z0y,z_k,Er,hEr,hq⟩:=h;cases z_k
  refine⟨_,(a8 (d4 (ke Z3T qX (hr.mono (by decide)) (by rfl)<|a4 (aY (K:=K) rfl (pv 0) rfl)<|a4 (pv 1) a5))
   (a8 (fk 2 (cw (cN (K:=K) rfl) (by rfl) Z17 Ga<|a4 (aY (K:=K) rfl (pv 0) rfl) a5))
   (a8 (gJ (eX Z82<|a4 (av (bG (K:=K) rfl) (pv 2) (pv 1)<|fun _ _=>rfl) a5)<|tZ (pv 2) (pv 1) nX)
   (ae (aj (kf Z2L (hr.mono (by decide)) (by rfl) (a4 (aS (a4 ar (a4 (pv 1) a5))) (a4 (pv 2) (a4 (aY (K:=K) rfl (pv 0) rfl) (a4 (aY (K:=K) rfl (pv 0) rfl) (a4 (aY (K:=K) rfl (pv 0) rfl) (a4 ji a5)))))))))))),?_⟩
  have E0:Ext W0 W0:=.refl W0;unfold CM at hq;refine sA (Er:=Er) (jB (hEr.mono E0) (cE Z0k Z0t cg<|bg Z0y) bM)<|(ED hq).imp fun y1 hq v2 W3 e4 h5=>?_;have E0:=E0.trans e4;have Z0y:=EG e4.g Z0y;refine jy (Er:=Er) (fA<|Hk<|cE Z0k Z0t cg<|bg Z0y)<|fun p8 W6 e7 hp9 o10=>?_;have fr11:=none_of E0.h hp9;have E0:=E0.trans e7;have Z0y:=EG e7.g Z0y;refine sC (Er:=Er) o10 (dt<|eV (xG o10) bM) bM<|(ED hq).imp fun y17 hq W13 mu14 o15=>?_;have E0:=mu14.e _ E0 fr11;have Z0y:=EG mu14.g Z0y;obtain⟨W18,hH19,E0,hS20,h22,hk21⟩:=o15.frz E0 fr11;rw[<-hH19];have Z0y:=EG hS20 Z0y;exact aG (Er:=Er) (lp (iN<|iN<|iN<|iN<|iN Ab) (bF (cV (K:=K) (fe cD oE) (aX (K:=K) (aw (x:=EL "flip") (l:=[102,108,105,112]) (dD _ _ (by decide +kernel))) bM))<|bF (bg h22)<|bF (cE Z0k Z0H fB<|bg Z0y)<|bF (cE Z0k Z0I fD<|bg Z0y)<|bF (cE Z0k Z0J fE<|bg Z0y)<|ll<|nt (R:=(qD K))))<|fun v23 W24 e25 h26=>hq v23 W24 (E0.trans e25) h26
theorem Eo{f:Addr}{fd:F8}(F:Fun K "flip" "Loom.flip" (tq 38 4) f fd){nJ:Z02->(List eM)->Res (Z02×Unit)}{tW:eM->Int->Res eM}{fJ:Z02->Res eM}{Z06 Z0i Z0d Z0e Z0f Z08 Z09 Z0a Z03 Z0l Z05 Z07 Z0m:Addr}{Z00 Z01:Addr}(Z2f:CalM P w K mg base CX0 Z01 "go_on" ["self","stages"] (1) (sS (af K Z00 Z01) (aC (isL<|aT K Z00) aN) isN<|fun st a=>nJ st a.1))(Z3x:CalR P w K mg base "flipped_stage" ["stage","k"] (3) (lM (aT K Z00) isI [Z06,Z0i,Z0d,Z0e,Z0f,Z08,Z09,Z0a,Z03,Z0l,Z05,Z07,Z0m] (rs<|aT K Z00) tW))(Z0L:CalM P w K mg base CX0 Z01 "now" ["self"] (1) (gH (wC (vw<|af K Z00 Z01) wN) (rs<|aT K Z00)<|fun a=>fJ a.1))(Z0j:Cls K Z01):FnOk P w K mg base (CXR P w) (4) f fd ["self","k"] (r6 (af K Z00 Z01) (aC isI aN) [Z06,Z0i,Z0d,Z0e,Z0f,Z08,Z09,Z0a,Z03,Z0l,Z05,Z07,Z0m] isN<|fun st a=>BF nJ tW fJ st a.1):=by
 have SC:FnScope ["self","k"] ["self","k"] (defScope<|tq 38 4):=by walk_at "F"
 refine F.okR SC (fun vs H Q E h=>?_)<|fun cdv A outer s H vs Q E hr h=>?_;·obtain⟨_,_,_,_,_,_,us,_,rfl,_,_,_,ra,_⟩:=h;obtain⟨_,us,rfl,_,ra⟩:=ra;cases ra;rfl
 ·obtain⟨W0,W,F,self,Z0s,aa,us,rfl,rfl,E0,nF,Z3w,ra,Er,hEr,hq⟩:=h;obtain⟨k,_⟩:=aa;obtain⟨v_k,us,rfl,z_k,ra⟩:=ra;replace z_k:isI W.G k v_k:=z_k;cases ra;replace hq:(BF nJ tW fJ self k).OkE Er (EndO W0 W (af K Z00 Z01) isN Z0s Q):=hq;cases z_k;refine⟨_,(ae (d4 (j5 Z2f (hr.mono (by decide)) (pv 0) (a4 (bX (a4 (ke Z3x qX (hr.mono (by decide)) (by rfl) (a4 (eL Z0L (hr.mono (by decide))<|pv 0)<|a4 (pv 1) a5)) a5)) a5)))),?_⟩;have hS0:Same W.G W.G:=.refl _;have EW:Ext W W:=.refl _;have S:Sep W0 W [tc (af K Z00 Z01) self Z0s]:=L9 Z3w nF;unfold BF at hq;refine oP (Er:=Er) (k:=0) (mL<|bV<|bV<|bV gF) S E0 rfl rfl (bF (G7<|di<|bc (jB (hEr.mono EW) (j9 (bV<|bV<|bV gF) (cq (R:=(af K Z00 Z01)) (k:=0) S) cI) bM)<|dh (R:=(aT K Z00))) fR)<|(ED hq).imp fun y5 hq W3 hS4 E0 S=>?_;have S:Sep W0 W3 [tc (af K Z00 Z01) y5.1 Z0s]:=S;have hS0:=hS0.trans hS4;exact O0 (k:=0) S rfl E0 hS0 rfl hq
theorem Ep{f:Addr}{fd:F8}(F:Fun K "undo" "Loom.undo" (tq 38 6) f fd){Z06 Z0i Z0d Z0e Z0f Z08 Z09 Z0a Z03 Z0l Z05 Z07 Z0m:Addr}{Z00 Z01:Addr}(Z0j:Cls K Z01)(Z0k:Cls K Z00)(Z0p:NoAttr K Z01 "course")(Z0Q:NoAttr K Z01 "undone")(Z16:NoAttr K Z00 "deed")(Z1o:mg "NothingLeft"=some (.ref Z03))(Z1X:Ecl base Z03):FnOk P w K mg base (CXR P w) (1) f fd ["self"] (r6 (af K Z00 Z01) aN [Z06,Z0i,Z0d,Z0e,Z0f,Z08,Z09,Z0a,Z03,Z0l,Z05,Z07,Z0m] (isU K)<|fun st a=>BG st):=by
 have SC:FnScope ["self","stage"] ["self"] (defScope<|tq 38 6):=by walk_at "F"
 refine F.okR SC (fun vs H Q E h=>?_)<|fun cdv A outer s H vs Q E hr h=>?_;·obtain⟨_,_,_,_,_,_,us,_,rfl,_,_,_,ra,_⟩:=h;cases ra;rfl
 ·obtain⟨W0,W,F,self,Z0s,aa,us,rfl,rfl,E0,nF,Z3w,ra,Er,hEr,hq⟩:=h;cases ra;replace hq:(BG self).OkE Er (EndO W0 W (af K Z00 Z01) (isU K) Z0s Q):=hq
  refine⟨_,(a8 (bj (dZ<|iq (K:=K) rfl<|aY (K:=K) rfl (pv 0) rfl) (ae (gf Z1X (by rfl) Z1o<|a4 ar a5)) aD)
   (a8 (fk 1<|ia (K:=K) rfl Gg HB Ie ng<|aY (K:=K) rfl (pv 0) rfl)
   (a8 (d4<|dm (K:=K) rfl (aY (K:=K) rfl (pv 0) rfl)<|a4 (pv 1) a5)
   (ae (aj (aY (K:=K) rfl (pv 1) rfl)))))),?_⟩
  have hS0:Same W.G W.G:=.refl _;have EW:Ext W W:=.refl _;have S:Sep W0 W [tc (af K Z00 Z01) self Z0s]:=L9 Z3w nF;unfold BG at hq;refine bt (Er:=Er) (fx<|kg (K:=K)<|eK<|fS Z0j Z0p Z1t.at_<|cq (R:=(af K Z00 Z01)) (k:=0) S)<|fun W1 e2=>?_;have S:=S.ext e2;have E0:=E0.trans e2;have EW:=EW.trans e2;have hS0:=hS0.trans e2.g;by_cases hb10:(!(!self.2.2.1.isEmpty))=true
  ·rw[if_pos hb10]at hq ⊢;exact gh (Er:=Er) (j:=8) (hEr.mono EW) rfl (aw (x:=EL "there is nothing to undo") (l:=[116,104,101,114,101,32,105,115,32,110,111,116,104,105,110,103,32,116,111,32,117,110,100,111]) (dD _ _ (by decide +kernel))) hq
  ·rw[if_neg hb10]at hq ⊢
   try dsimp only[aF]
   refine jL (Er:=Er) (K:=K) (j:=1) E0 (j8 Z0j Z0p Z1t<|gu (R:=(af K Z00 Z01)) (C:=fun bb=>[tc (af K Z00 Z01) bb Z0s]) (k:=0) S E0)<|(ED hq).imp fun y3 hq v4 W5 hS6 E0 S h7=>?_;have S:Sep W0 W5 [tc (af K Z00 Z01) y3.1 Z0s]:=S;have hS0:=hS0.trans hS6;refine mH (Er:=Er) (K:=K) E0 (j8 Z0j Z0Q Z3O<|gu (R:=(af K Z00 Z01)) (C:=fun bb=>[tc (af K Z00 Z01) bb Z0s]) (k:=0) S E0) (bg h7)<|(ED hq).imp fun y8 hq W9 hS10 E0 S=>?_;have S:Sep W0 W9 [tc (af K Z00 Z01) y8 Z0s]:=S;have hS0:=hS0.trans hS10;have h7:=EG hS10 h7;exact il (Er:=Er) (k:=0) S rfl E0 hS0 (cE Z0k Z16 hJ<|bg h7) hq
theorem Es{f:Addr}{fd:F8}(F:Fun K "redo" "Loom.redo" (tq 38 7) f fd){Z06 Z0i Z0d Z0e Z0f Z08 Z09 Z0a Z03 Z0l Z05 Z07 Z0m:Addr}{Z00 Z01:Addr}(Z0j:Cls K Z01)(Z0k:Cls K Z00)(Z0p:NoAttr K Z01 "course")(Z0Q:NoAttr K Z01 "undone")(Z16:NoAttr K Z00 "deed")(Z1o:mg "NothingLeft"=some (.ref Z03))(Z1X:Ecl base Z03):FnOk P w K mg base (CXR P w) (1) f fd ["self"] (r6 (af K Z00 Z01) aN [Z06,Z0i,Z0d,Z0e,Z0f,Z08,Z09,Z0a,Z03,Z0l,Z05,Z07,Z0m] (isU K)<|fun st a=>BH st):=by
 have SC:FnScope ["self","stage"] ["self"] (defScope<|tq 38 7):=by walk_at "F"
 refine F.okR SC (fun vs H Q E h=>?_)<|fun cdv A outer s H vs Q E hr h=>?_;·obtain⟨_,_,_,_,_,_,us,_,rfl,_,_,_,ra,_⟩:=h;cases ra;rfl
 ·obtain⟨W0,W,F,self,Z0s,aa,us,rfl,rfl,E0,nF,Z3w,ra,Er,hEr,hq⟩:=h;cases ra;replace hq:(BH self).OkE Er (EndO W0 W (af K Z00 Z01) (isU K) Z0s Q):=hq
  refine⟨_,(a8 (bj (dZ<|iq (K:=K) rfl<|aY (K:=K) rfl (pv 0) rfl) (ae (gf Z1X (by rfl) Z1o<|a4 ar a5)) aD)
   (a8 (fk 1<|ia (K:=K) rfl Gg HB Ie ng<|aY (K:=K) rfl (pv 0) rfl)
   (a8 (d4<|dm (K:=K) rfl (aY (K:=K) rfl (pv 0) rfl)<|a4 (pv 1) a5)
   (ae (aj (aY (K:=K) rfl (pv 1) rfl)))))),?_⟩
  have hS0:Same W.G W.G:=.refl _;have EW:Ext W W:=.refl _;have S:Sep W0 W [tc (af K Z00 Z01) self Z0s]:=L9 Z3w nF;unfold BH at hq;refine bt (Er:=Er) (fx<|kg (K:=K)<|eK<|fS Z0j Z0Q Z3O.at_<|cq (R:=(af K Z00 Z01)) (k:=0) S)<|fun W1 e2=>?_;have S:=S.ext e2;have E0:=E0.trans e2;have EW:=EW.trans e2;have hS0:=hS0.trans e2.g;by_cases hb10:(!(!self.2.2.2.isEmpty))=true
  ·rw[if_pos hb10]at hq ⊢;exact gh (Er:=Er) (j:=8) (hEr.mono EW) rfl (aw (x:=EL "there is nothing to redo") (l:=[116,104,101,114,101,32,105,115,32,110,111,116,104,105,110,103,32,116,111,32,114,101,100,111]) (dD _ _ (by decide +kernel))) hq
  ·rw[if_neg hb10]at hq ⊢
   try dsimp only[aF]
   refine jL (Er:=Er) (K:=K) (j:=1) E0 (j8 Z0j Z0Q Z3O<|gu (R:=(af K Z00 Z01)) (C:=fun bb=>[tc (af K Z00 Z01) bb Z0s]) (k:=0) S E0)<|(ED hq).imp fun y3 hq v4 W5 hS6 E0 S h7=>?_;have S:Sep W0 W5 [tc (af K Z00 Z01) y3.1 Z0s]:=S;have hS0:=hS0.trans hS6;refine mH (Er:=Er) (K:=K) E0 (j8 Z0j Z0p Z1t<|gu (R:=(af K Z00 Z01)) (C:=fun bb=>[tc (af K Z00 Z01) bb Z0s]) (k:=0) S E0) (bg h7)<|(ED hq).imp fun y8 hq W9 hS10 E0 S=>?_;have S:Sep W0 W9 [tc (af K Z00 Z01) y8 Z0s]:=S;have hS0:=hS0.trans hS10;have h7:=EG hS10 h7;exact il (Er:=Er) (k:=0) S rfl E0 hS0 (cE Z0k Z16 hJ<|bg h7) hq
theorem Et{f:Addr}{fd:F8}(F:Fun K "_law_try_deed" "_law_try_deed" (tp 63) f fd){w9:Z02->Tx->Res (Z02×(List Pl))}{wb:Z02->Int->Res (Z02×Unit)}{x8:Z02->Res (Z02×Dat)}{x9:Z02->Res (Z02×Dat)}{Z06 Z0i Z0d Z0e Z0f Z08 Z09 Z0a Z03 Z0l Z05 Z07 Z0m Z0c:Addr}{Z00 Z01:Addr}(Z4Z:CalM P w K mg base (CXR P w) Z01 "weave" ["self","row"] (4) (r6 (af K Z00 Z01) (aC isS aN) [Z06,Z0i,Z0d,Z0e,Z0f,Z08,Z09,Z0a,Z03,Z0l,Z05,Z07,Z0m] (qD K)<|fun st a=>w9 st a.1))(Z66:CalM P w K mg base (CXR P w) Z01 "flip" ["self","k"] (4) (r6 (af K Z00 Z01) (aC isI aN) [Z06,Z0i,Z0d,Z0e,Z0f,Z08,Z09,Z0a,Z03,Z0l,Z05,Z07,Z0m] isN<|fun st a=>wb st a.1))(Z67:CalM P w K mg base (CXR P w) Z01 "undo" ["self"] (1) (r6 (af K Z00 Z01) aN [Z06,Z0i,Z0d,Z0e,Z0f,Z08,Z09,Z0a,Z03,Z0l,Z05,Z07,Z0m] (isU K)<|fun st a=>x8 st))(Z68:CalM P w K mg base (CXR P w) Z01 "redo" ["self"] (1) (r6 (af K Z00 Z01) aN [Z06,Z0i,Z0d,Z0e,Z0f,Z08,Z09,Z0a,Z03,Z0l,Z05,Z07,Z0m] (isU K)<|fun st a=>x9 st))(Z0j:Cls K Z01)(Z:Kin K base [Z06,Z0i,Z0d,Z0e,Z0f,Z08,Z09,Z0a,Z03,Z0l,Z05,Z07,Z0m] Z0c)(Z2o:mg "BandError"=some (.ref Z0c))(Z50:CalH P w K mg base "_law_kinds" ["_law_e"] 1 (ij K [Z06,Z0i,Z0d,Z0e,Z0f,Z08,Z09,Z0a,Z03,Z0l,Z05,Z07,Z0m] Z0c)):FnOk P w K mg base CX0 (5) f fd ["_law_loom","_law_deed_here"] (sS (af K Z00 Z01) (aC (isU K) aN) (isU K)<|fun st a=>zj w9 wb x8 x9 st a.1):=by
 have SC:FnScope ["_law_loom","_law_deed_here","_law_found","_law_e"] ["_law_loom","_law_deed_here"] (defScope<|tp 63):=by walk_at "F"
 obtain⟨bmB,XB⟩:=Z.top;refine F.ok SC (fun vs H Q E h=>?_)<|fun cdv A outer s H vs Q E hr h=>?_;·obtain⟨_,_,_,_,_,_,us,_,rfl,_,_,_,ra,_⟩:=h;obtain⟨_,us,rfl,_,ra⟩:=ra;cases ra;rfl
 ·obtain⟨W0,W,F,Z0Y,Z1r,aa,us,rfl,rfl,E0,nF,Zh9,ra,Er,hq⟩:=h;obtain⟨Z0q,_⟩:=aa;obtain⟨Z1p,us,rfl,Z0b,ra⟩:=ra;replace Z0b:(isU K) W.G Z0q Z1p:=Z0b;cases ra;replace hq:(zj w9 wb x8 x9 Z0Y Z0q).OkE Er (EndO W0 W (af K Z00 Z01) (isU K) Z1r Q):=hq
  refine⟨_,(a8 (A2 (i:=3) (E:=EX K [Z06,Z0i,Z0d,Z0e,Z0f,Z08,Z09,Z0a,Z03,Z0l,Z05,Z07,Z0m] [114,101,102,117,115,101,100] W Q) ⟨rfl,rfl⟩ (fun _=>(ae (bj (aI cv (av (az (K:=K) rfl) (pv 1) a6<|fun _ _=>rfl) ar<|aJ _) (ae (fk 2 (oK Z4Z qY (hr.mono (by decide)) (pv 0)<|a4 (av (az (K:=K) rfl) (pv 1) a6<|fun _ _=>rfl) a5))) (ae (bj (aI cv (av (az (K:=K) rfl) (pv 1) a6<|fun _ _=>rfl) ar<|aJ _) (ae (fk 2 (oK Z66 qY (hr.mono (by decide)) (pv 0)<|a4 (av (az (K:=K) rfl) (pv 1) a6<|fun _ _=>rfl) a5))) (ae (bj (aI cv (av (az (K:=K) rfl) (pv 1) a6<|fun _ _=>rfl) ar<|aJ _) (ae (fk 2 (mM Z67 qY (hr.mono (by decide))<|pv 0))) (ae (fk 2 (mM Z68 qY (hr.mono (by decide))<|pv 0)))))))))) (by rfl) Z2o XB (EX.cl Z) SC.nd rfl rfl (fun x C od oe hh=>(ae (aj (aS (a4 ar (a4 (xY Z50 hh ((hr.mono (by decide)).h _) rfl (EZ ..) (by rfl)<|a4 (pv 3) a5) a5)))))))
   (ae (aj (aS (a4 ar (a4 (pv 2) a5)))))),?_⟩
  have hS0:Same W.G W.G:=.refl _;have EW:Ext W W:=.refl _;have S:Sep W0 W [tc (af K Z00 Z01) Z0Y Z1r]:=L9 Zh9 nF;rw[show L2.start ["_law_loom","_law_deed_here","_law_found","_law_e"] [Z1r,Z1p]=[some Z1r,some Z1p,none,none]from rfl];unfold zj at hq;refine yj (Er:=Er) (K:=K) (base:=base) (RR:=(isU K)) (k:=0) (s:=[114,101,102,117,115,101,100]) (σ':=fun v1=>[some Z1r,some Z1p,some v1,none]) S E0 hS0 rfl Z (dD _ _ (by decide +kernel)) rfl (fun Er hE8 D hq=>?_)<|(ED hq).imp fun r5 hq=>?_
  ·have eT:Ext W W:=.refl _;refine((aK (fw (dP (K:=K) gX<|dQ (bg Z0b) ag) (aw (x:=EL "row") (l:=[114,111,119]) (dD _ _ (by decide +kernel))))):TV Er _ [some Z1r,some Z1p,none,none] W _) W (.refl _) _ ((ED hq).imp fun b12 hq W14 e13=>?_);have S:=S.ext e13;have E0:=E0.trans e13;have eT:=eT.trans e13;have hE8:=hE8.mono e13;have h15:=EG e13.g Z0b;cases b12 with
   |true=>
    rw[if_pos rfl]at hq ⊢;exact jb (Er:=Er) (K:=K) (k:=0) (j:=2) (u:=fun(z:List Pl)=>J7<|z.map fun(z:Pl)=>Ho [G5 z.1,G5 z.2.1,G5 z.2.2]) (iX (u:=fun(z:Pl)=>Ho [G5 z.1,G5 z.2.1,G5 z.2.2])<|zc cD cD cD) (mL<|bV<|bV<|bV gF) S E0 rfl rfl (bF (dP (K:=K) gX<|dQ (bg h15) ag) fR) hE8<|hq.imp fun r kr u W' e hs S' hr=>kr u W' e (eT.g.trans hs) S' hr
   |false=>
    rw[if_neg F7]at hq ⊢;refine((aK (fw (dP (K:=K) gX<|dQ (bg h15) ag) (aw (x:=EL "flip") (l:=[102,108,105,112]) (dD _ _ (by decide +kernel))))):TV Er _ [some Z1r,some Z1p,none,none] W14 _) W14 (.refl _) _ ((ED hq).imp fun b23 hq W25 e24=>?_);have S:=S.ext e24;have E0:=E0.trans e24;have eT:=eT.trans e24;have hE8:=hE8.mono e24;have h26:=EG e24.g h15;cases b23 with
    |true=>
     rw[if_pos rfl]at hq ⊢;exact jb (Er:=Er) (K:=K) (k:=0) (j:=2) (u:=fun(z:Unit)=>Mz) vi (mL<|bV<|bV<|bV gF) S E0 rfl rfl (bF (dP (K:=K) oF<|dQ (bg h26) ag) fR) hE8<|hq.imp fun r kr u W' e hs S' hr=>kr u W' e (eT.g.trans hs) S' hr
    |false=>
     rw[if_neg F7]at hq ⊢;refine((aK (fw (dP (K:=K) gX<|dQ (bg h26) ag) (aw (x:=EL "undo") (l:=[117,110,100,111]) (dD _ _ (by decide +kernel))))):TV Er _ [some Z1r,some Z1p,none,none] W25 _) W25 (.refl _) _ ((ED hq).imp fun b34 hq W36 e35=>?_);have S:=S.ext e35;have E0:=E0.trans e35;have eT:=eT.trans e35;have hE8:=hE8.mono e35;have h37:=EG e35.g h26;cases b34 with
     |true=>
      rw[if_pos rfl]at hq ⊢;exact jb (Er:=Er) (K:=K) (k:=0) (j:=2) (u:=fun(z:Dat)=>z) lb (mL<|bV<|bV<|bV gF) S E0 rfl rfl fR hE8<|hq.imp fun r kr u W' e hs S' hr=>kr u W' e (eT.g.trans hs) S' hr
     |false=>
      rw[if_neg F7]at hq ⊢;exact jb (Er:=Er) (K:=K) (k:=0) (j:=2) (u:=fun(z:Dat)=>z) lb (mL<|bV<|bV<|bV gF) S E0 rfl rfl fR hE8<|hq.imp fun r kr u W' e hs S' hr=>kr u W' e (eT.g.trans hs) S' hr
  ·cases r5 with
   |inr j7=>exact hq
   |inl y6=>
    intro v1 W2 E0 hS3 S h4;dsimp only at hq;have S:Sep W0 W2 [tc (af K Z00 Z01) y6.1 Z1r]:=S;have hS0:=hS0.trans hS3;exact il (Er:=Er) (k:=0) S rfl E0 hS0 (cV (K:=K) (fe cD lb) (aX (K:=K) (aw (x:=EL "told") (l:=[116,111,108,100]) (dD _ _ (by decide +kernel)))<|bg h4)) hq
theorem Eu{f:Addr}{fd:F8}(F:Fun K "_law_rows_of" "_law_rows_of" (tp 61) f fd){lN:(List Cd)->Tx->Res (List Pl)}(Z2q:Cal P w K mg base "_law_pick" ["_law_cards","_law_row_here"] (3) (bU (isL<|qA K) isS (ro<|qB K) lN)):FnOk P w K mg base CX0 (4) f fd ["_law_stack"] (gH (wC (pk<|isT2 K (jh K)<|isU K) wN) (ro<|qD K)<|fun a=>BI lN a.1):=by
 have SC:FnScope ["_law_stack"] ["_law_stack"] (defScope<|tp 61):=by walk_at "F"
 refine F.ok SC (fun vs H Q E h=>?_)<|fun cdv A outer s H vs Q E hr h=>?_;·obtain⟨_,_,_,ra,_⟩:=h;obtain⟨_,us,rfl,_,ra⟩:=ra;cases ra;rfl
 ·obtain⟨W0,aa,rfl,ra,Er,hq⟩:=h;obtain⟨Z0D,_⟩:=aa;obtain⟨Z0N,us,rfl,Z83,ra⟩:=ra;replace Z83:(pk<|isT2 K (jh K)<|isU K) W0 Z0D Z0N:=Z83;cases ra;replace hq:(BI lN Z0D).OkE Er (fun r=>(ro<|qD K) W0 r Q):=hq;refine⟨_,(ae (aj (dg (N:=["_law_one"]) (cap:=[none]) (fI rfl (by decide +kernel) rfl (by decide +kernel) (by rfl) (by rfl)) rfl (dq (K:=K) rfl<|pv 0) (fun _ _ _ _=>(aW (i:=0) (show FC (["_law_one"]:List Str) by decide +kernel) rfl (by walk_at "L"))) (fun _ _ _ _=>(k6<|aI cv (av (az (K:=K) rfl) (av (az (K:=K) rfl) (pv 0) a6<|fun _ _=>rfl) a6<|fun _ _=>rfl) ar<|aJ _))<|fun _ _ _ _=>(eX Z2q<|a4 (av (az (K:=K) rfl) (av (az (K:=K) rfl) (pv 0) a6<|fun _ _=>rfl) a6<|fun _ _=>rfl)<|a4 (av (az (K:=K) rfl) (av (az (K:=K) rfl) (pv 0) a6<|fun _ _=>rfl) a6<|fun _ _=>rfl) a5)))),?_⟩;have E0:Ext W0 W0:=.refl W0;rw[show L2.start ["_law_stack"] [Z0N]=[some Z0N]from rfl];unfold BI at hq;exact ib (Er:=Er) (mO (lq (K:=K)<|bB (R:=(pk<|isT2 K (jh K)<|isU K))<|FK E0 Z83) fun W3 a1 v2 e4 h5 Q10 k11=>by
   refine gn ?_;refine⟨by simp[Keep,bz],((aK (fw (dP (K:=K) gX<|dQ (bx (f:=fun(b:dR×Dat)=>b.2) sv<|bg h5) ag) (aw (x:=EL "row") (l:=[114,111,119]) (dD _ _ (by decide +kernel))))):TV Er _ [some v2] _ _) _ (.refl _) _ (Fe (P:=fun b14=>(if b14=true then((((jW a1.2 (1:Int)).bind fun y8=>fM<|pP y8).bind fun y9=>lN a1.1.1 y9).bind fun y15=>EK<|some y15)else EK none:Res (Option<|List Pl)).OkE Er _) (ED k11) fun b14 k19 W17 e18=>?_)⟩;cases b14 with
   |false=>exact k19 none _ e18 trivial
   |true=>
    rw[if_pos rfl];refine EV.go (Er:=Er) (σ:=[some v2]) (W1:=W17) e18 (G7 (mq (bx (f:=fun(b:(List Cd)×(List Int)×(List Int)×dv)=>b.1) sI (bx (f:=fun(b:dR×Dat)=>b.1) xJ (bg h5))) (dP (K:=K) gX (dQ (bx (f:=fun(b:dR×Dat)=>b.2) sv (bg h5)) ag)))) ?_;exact(ED (show(NC _ _).OkE Er _ from k19)).imp fun x24 k25 u22 W20 e21 h23=>k25 (some u22) _ (e18.trans e21) h23) (Fe hq fun y26 hq p27 W28 e29 hp30 o31=>hq p27 W28 (E0.trans e29) (none_of E0.h hp30) o31)
theorem Ew{f:Addr}{fd:F8}(F:Fun K "tablets" "Loom.tablets" (tq 38 8) f fd){fJ:Z02->Res eM}{Z00 Z01:Addr}(Z0L:CalM P w K mg base CX0 Z01 "now" ["self"] (1) (gH (wC (vw<|af K Z00 Z01) wN) (rs<|aT K Z00)<|fun a=>fJ a.1))(Z0j:Cls K Z01)(Z0k:Cls K Z00)(Z0t:NoAttr K Z00 "standing")(Z17:mg "list"=none):FnOk P w K mg base CX0 (2) f fd ["self"] (gH (wC (vw<|af K Z00 Z01) wN) (ro<|qA K)<|fun a=>BJ fJ a.1):=by
 have SC:FnScope ["self"] ["self"] (defScope<|tq 38 8):=by walk_at "F"
 refine F.ok SC (fun vs H Q E h=>?_)<|fun cdv A outer s H vs Q E hr h=>?_;·obtain⟨_,_,_,ra,_⟩:=h;obtain⟨_,us,rfl,_,ra⟩:=ra;cases ra;rfl
 ·obtain⟨W0,aa,rfl,ra,Er,hq⟩:=h;obtain⟨self,_⟩:=aa;obtain⟨Z0s,us,rfl,Z0U,ra⟩:=ra;replace Z0U:(vw<|af K Z00 Z01) W0 self Z0s:=Z0U;cases ra;replace hq:(BJ fJ self).OkE Er (fun r=>(ro<|qA K) W0 r Q):=hq;refine⟨_,(ae (aj (cw (cN (K:=K) rfl) (by rfl) Z17 Ga (a4 (aY (K:=K) rfl (eL Z0L (hr.mono (by decide))<|pv 0) rfl) a5)))),?_⟩;have E0:Ext W0 W0:=.refl W0;unfold BJ at hq;exact ib (Er:=Er) (fA<|Hk<|cE Z0k Z0t cg<|j9 (bV<|bV<|bV gF) (bB (R:=(vw<|af K Z00 Z01))<|FK E0 Z0U) cI)<|Fe hq fun y2 hq p3 W4 e5 hp6 o7=>hq p3 W4 (E0.trans e5) (none_of E0.h hp6) o7
theorem Ex{f:Addr}{fd:F8}(F:Fun K "band" "Loom.band" (tq 38 9) f fd){Z00 Z01:Addr}(Z0j:Cls K Z01)(Z0k:Cls K Z00)(Z0p:NoAttr K Z01 "course")(Z1m:NoAttr K Z00 "pick")(Z17:mg "list"=none):FnOk P w K mg base CX0 (1) f fd ["self"] (gH (wC (vw<|af K Z00 Z01) wN) (ro<|qD K)<|fun a=>BK a.1):=by
 have SC:FnScope ["self"] ["self"] (defScope<|tq 38 9):=by walk_at "F"
 refine F.ok SC (fun vs H Q E h=>?_)<|fun cdv A outer s H vs Q E hr h=>?_;·obtain⟨_,_,_,ra,_⟩:=h;obtain⟨_,us,rfl,_,ra⟩:=ra;cases ra;rfl
 ·obtain⟨W0,aa,rfl,ra,Er,hq⟩:=h;obtain⟨self,_⟩:=aa;obtain⟨Z0s,us,rfl,Z0U,ra⟩:=ra;replace Z0U:(vw<|af K Z00 Z01) W0 self Z0s:=Z0U;cases ra;replace hq:(BK self).OkE Er (fun r=>(ro<|qD K) W0 r Q):=hq;refine⟨_,(ae (aj (dg (N:=["stage"]) (cap:=[none]) (fI rfl (by decide +kernel) rfl (by decide +kernel) (by rfl) (by rfl)) rfl (dq (K:=K) rfl<|aY (K:=K) rfl (pv 0) rfl) (fun _ _ _ _=>(aW (i:=0) (show FC (["stage"]:List Str) by decide +kernel) rfl (by walk_at "L"))) (fun _ _ _ _=>(k6<|aI xi (aY (K:=K) rfl (pv 0) rfl) ji<|aJ _)) (fun _ _ _ _=>(cw (cN (K:=K) rfl) (by rfl) Z17 Ga<|a4 (aY (K:=K) rfl (pv 0) rfl) a5))))),?_⟩;have E0:Ext W0 W0:=.refl W0;rw[show L2.start ["self"] [Z0s]=[some Z0s]from rfl];unfold BK at hq;exact ib (Er:=Er) (mO (lq (K:=K)<|eK<|fS Z0j Z0p Z1t.at_<|bB (R:=(vw<|af K Z00 Z01))<|FK E0 Z0U) fun W3 a1 v2 e4 h5 Q8 k9=>by
   refine gn ?_;refine⟨by simp[Keep,bz],((aK<|xI<|cE Z0k Z1m hR<|bg h5):TV Er _ [some v2] _ _) _ (.refl _) _ (Fe (P:=fun b10=>(if b10=true then((fM a1.2.2.2.2.2).bind fun y11=>EK<|some y11)else EK none:Res (Option<|List Pl)).OkE Er _) (DC k9) fun b10 k14 W12 e13=>?_)⟩;cases b10 with
   |false=>exact k14 none _ e13 trivial
   |true=>
    rw[if_pos rfl];refine EV.go (Er:=Er) (σ:=[some v2]) (W1:=W12) e13 (G7 (fA (Hk (uZ (cE Z0k Z1m hR (bg h5)))))) ?_;exact(ED (show(NC _ _).OkE Er _ from k14)).imp fun x19 k20 u17 W15 e16 h18=>k20 (some u17) _ (e13.trans e16) h18) (Fe hq fun y21 hq p22 W23 e24 hp25 o26=>hq p22 W23 (E0.trans e24) (none_of E0.h hp25) o26)
theorem Ey{f:Addr}{fd:F8}(F:Fun K "deeds" "Loom.deeds" (tq 38 10) f fd){Z00 Z01:Addr}(Z0j:Cls K Z01)(Z0k:Cls K Z00)(Z0p:NoAttr K Z01 "course")(Z16:NoAttr K Z00 "deed"):FnOk P w K mg base CX0 (1) f fd ["self"] (gH (wC (vw<|af K Z00 Z01) wN) (ro<|isU K)<|fun a=>BL a.1):=by
 have SC:FnScope ["self"] ["self"] (defScope<|tq 38 10):=by walk_at "F"
 refine F.ok SC (fun vs H Q E h=>?_)<|fun cdv A outer s H vs Q E hr h=>?_;·obtain⟨_,_,_,ra,_⟩:=h;obtain⟨_,us,rfl,_,ra⟩:=ra;cases ra;rfl
 ·obtain⟨W0,aa,rfl,ra,Er,hq⟩:=h;obtain⟨self,_⟩:=aa;obtain⟨Z0s,us,rfl,Z0U,ra⟩:=ra;replace Z0U:(vw<|af K Z00 Z01) W0 self Z0s:=Z0U;cases ra;replace hq:(BL self).OkE Er (fun r=>(ro<|isU K) W0 r Q):=hq;refine⟨_,(ae (aj (dg (N:=["stage"]) (cap:=[none]) (fI rfl (by decide +kernel) rfl (by decide +kernel) (by rfl) (by rfl)) rfl (dq (K:=K) rfl<|aY (K:=K) rfl (pv 0) rfl) (fun _ _ _ _=>(aW (i:=0) (show FC (["stage"]:List Str) by decide +kernel) rfl (by walk_at "L"))) (fun _ _ _ _=>cA)<|fun _ _ _ _=>(aY (K:=K) rfl (pv 0) rfl)))),?_⟩;have E0:Ext W0 W0:=.refl W0;rw[show L2.start ["self"] [Z0s]=[some Z0s]from rfl];unfold BL at hq;exact ib (Er:=Er) (w4 (lq (K:=K)<|eK<|fS Z0j Z0p Z1t.at_<|bB (R:=(vw<|af K Z00 Z01))<|FK E0 Z0U) fun W3 a1 v2 e4 h5 Q8 k9=>by
   refine gn ?_;exact⟨by simp[Keep,bz],((cE Z0k Z16 hJ (bg h5)):EV Er _ [some v2] _ _ _) _ (.refl _) _ k9⟩) (Fe hq fun y10 hq p11 W12 e13 hp14 o15=>hq p11 W12 (E0.trans e13) (none_of E0.h hp14) o15)
theorem Ez{f:Addr}{fd:F8}(F:Fun K "twist" "Loom.twist" (tq 38 11) f fd){fJ:Z02->Res eM}{Z00 Z01:Addr}(Z0L:CalM P w K mg base CX0 Z01 "now" ["self"] (1) (gH (wC (vw<|af K Z00 Z01) wN) (rs<|aT K Z00)<|fun a=>fJ a.1))(Z0j:Cls K Z01)(Z0k:Cls K Z00)(Z0H:NoAttr K Z00 "reached"):FnOk P w K mg base CX0 (2) f fd ["self","k"] (gH (wC (vw<|af K Z00 Z01)<|wC (sh isI) wN) (rs isI)<|fun a=>BM fJ a.1 a.2.1):=by
 have SC:FnScope ["self","k"] ["self","k"] (defScope<|tq 38 11):=by walk_at "F"
 refine F.ok SC (fun vs H Q E h=>?_)<|fun cdv A outer s H vs Q E hr h=>?_;·obtain⟨_,_,_,ra,_⟩:=h;obtain⟨_,us,rfl,_,ra⟩:=ra;obtain⟨_,us,rfl,_,ra⟩:=ra;cases ra;rfl
 ·obtain⟨W0,aa,rfl,ra,Er,hq⟩:=h;obtain⟨self,k,_⟩:=aa;obtain⟨Z0s,us,rfl,Z0U,ra⟩:=ra;replace Z0U:(vw<|af K Z00 Z01) W0 self Z0s:=Z0U;obtain⟨v_k,us,rfl,z_k,ra⟩:=ra;replace z_k:(sh isI) W0 k v_k:=z_k;cases ra;replace hq:(BM fJ self k).OkE Er (fun r=>(rs isI) W0 r Q):=hq;cases z_k;refine⟨_,(ae (aj (av (bG (K:=K) rfl) (aY (K:=K) rfl (eL Z0L (hr.mono (by decide))<|pv 0) rfl) (pv 1)<|fun _ _=>rfl))),?_⟩;have E0:Ext W0 W0:=.refl W0;unfold BM at hq;exact aG (Er:=Er) (eV (Hk<|cE Z0k Z0H fB<|j9 (bV<|bV<|bV gF) (bB (R:=(vw<|af K Z00 Z01))<|FK E0 Z0U) cI) bM)<|Fe hq fun y3 hq v4 W5 e6 h7=>hq v4 W5 (E0.trans e6) h7
theorem EA{f:Addr}{fd:F8}(F:Fun K "peak" "Loom.peak" (tq 38 12) f fd){fJ:Z02->Res eM}{Z00 Z01:Addr}(Z0L:CalM P w K mg base CX0 Z01 "now" ["self"] (1) (gH (wC (vw<|af K Z00 Z01) wN) (rs<|aT K Z00)<|fun a=>fJ a.1))(Z0j:Cls K Z01)(Z0k:Cls K Z00)(Z0I:NoAttr K Z00 "highest"):FnOk P w K mg base CX0 (2) f fd ["self","k"] (gH (wC (vw<|af K Z00 Z01)<|wC (sh isI) wN) (rs isI)<|fun a=>BN fJ a.1 a.2.1):=by
 have SC:FnScope ["self","k"] ["self","k"] (defScope<|tq 38 12):=by walk_at "F"
 refine F.ok SC (fun vs H Q E h=>?_)<|fun cdv A outer s H vs Q E hr h=>?_;·obtain⟨_,_,_,ra,_⟩:=h;obtain⟨_,us,rfl,_,ra⟩:=ra;obtain⟨_,us,rfl,_,ra⟩:=ra;cases ra;rfl
 ·obtain⟨W0,aa,rfl,ra,Er,hq⟩:=h;obtain⟨self,k,_⟩:=aa;obtain⟨Z0s,us,rfl,Z0U,ra⟩:=ra;replace Z0U:(vw<|af K Z00 Z01) W0 self Z0s:=Z0U;obtain⟨v_k,us,rfl,z_k,ra⟩:=ra;replace z_k:(sh isI) W0 k v_k:=z_k;cases ra;replace hq:(BN fJ self k).OkE Er (fun r=>(rs isI) W0 r Q):=hq;cases z_k;refine⟨_,(ae (aj (av (bG (K:=K) rfl) (aY (K:=K) rfl (eL Z0L (hr.mono (by decide))<|pv 0) rfl) (pv 1)<|fun _ _=>rfl))),?_⟩;have E0:Ext W0 W0:=.refl W0;unfold BN at hq;exact aG (Er:=Er) (eV (Hk<|cE Z0k Z0I fD<|j9 (bV<|bV<|bV gF) (bB (R:=(vw<|af K Z00 Z01))<|FK E0 Z0U) cI) bM)<|Fe hq fun y3 hq v4 W5 e6 h7=>hq v4 W5 (E0.trans e6) h7
theorem EB{f:Addr}{fd:F8}(F:Fun K "rest" "Loom.rest" (tq 38 13) f fd){fJ:Z02->Res eM}{Z00 Z01:Addr}(Z0L:CalM P w K mg base CX0 Z01 "now" ["self"] (1) (gH (wC (vw<|af K Z00 Z01) wN) (rs<|aT K Z00)<|fun a=>fJ a.1))(Z0j:Cls K Z01)(Z0k:Cls K Z00)(Z0J:NoAttr K Z00 "lengths"):FnOk P w K mg base CX0 (2) f fd ["self","colour"] (gH (wC (vw<|af K Z00 Z01)<|wC (sh isS) wN) (rs isI)<|fun a=>BO fJ a.1 a.2.1):=by
 have SC:FnScope ["self","colour"] ["self","colour"] (defScope<|tq 38 13):=by walk_at "F"
 refine F.ok SC (fun vs H Q E h=>?_)<|fun cdv A outer s H vs Q E hr h=>?_;·obtain⟨_,_,_,ra,_⟩:=h;obtain⟨_,us,rfl,_,ra⟩:=ra;obtain⟨_,us,rfl,_,ra⟩:=ra;cases ra;rfl
 ·obtain⟨W0,aa,rfl,ra,Er,hq⟩:=h;obtain⟨self,colour,_⟩:=aa;obtain⟨Z0s,us,rfl,Z0U,ra⟩:=ra;replace Z0U:(vw<|af K Z00 Z01) W0 self Z0s:=Z0U;obtain⟨Zha,us,rfl,Z9e,ra⟩:=ra;replace Z9e:(sh isS) W0 colour Zha:=Z9e;cases ra;replace hq:(BO fJ self colour).OkE Er (fun r=>(rs isI) W0 r Q):=hq;cases Z9e;refine⟨_,(ae (aj (gQ (eU hr) (aY (K:=K) rfl (eL Z0L (hr.mono (by decide))<|pv 0) rfl) (pv 1) a6 ⟨rfl,rfl,rfl,rfl⟩))),?_⟩;have E0:Ext W0 W0:=.refl W0;unfold BO at hq;exact aG (Er:=Er) (gZ iL kS (M5<|cE Z0k Z0J fE<|j9 (bV<|bV<|bV gF) (bB (R:=(vw<|af K Z00 Z01))<|FK E0 Z0U) cI) cW ag)<|Fe hq fun y3 hq v4 W5 e6 h7=>hq v4 W5 (E0.trans e6) h7
theorem EC{f:Addr}{fd:F8}(F:Fun K "_law_stands" "_law_stands" (tp 65) f fd){xa:Z02->Res (List Cd)}{xb:Z02->Res (List<|List Pl)}{xc:Z02->Res (List Dat)}{rm:Z02->Int->Res Int}{rn:Z02->Int->Res Int}{qb:Z02->Tx->Res Int}{Z00 Z01:Addr}(Z1b:Cal P w K mg base "_law_same" ["_law_found","_law_due"] 26 (f9 K 26))(Z3U:CalM P w K mg base CX0 Z01 "tablets" ["self"] (2) (gH (wC (vw<|af K Z00 Z01) wN) (ro<|qA K)<|fun a=>xa a.1))(Z69:CalM P w K mg base CX0 Z01 "band" ["self"] (1) (gH (wC (vw<|af K Z00 Z01) wN) (ro<|qD K)<|fun a=>xb a.1))(Z51:CalM P w K mg base CX0 Z01 "deeds" ["self"] (1) (gH (wC (vw<|af K Z00 Z01) wN) (ro<|isU K)<|fun a=>xc a.1))(Z52:CalM P w K mg base CX0 Z01 "twist" ["self","k"] (2) (gH (wC (vw<|af K Z00 Z01)<|wC (sh isI) wN) (rs isI)<|fun a=>rm a.1 a.2.1))(Z6a:CalM P w K mg base CX0 Z01 "peak" ["self","k"] (2) (gH (wC (vw<|af K Z00 Z01)<|wC (sh isI) wN) (rs isI)<|fun a=>rn a.1 a.2.1))(Z6b:CalM P w K mg base CX0 Z01 "rest" ["self","colour"] (2) (gH (wC (vw<|af K Z00 Z01)<|wC (sh isS) wN) (rs isI)<|fun a=>qb a.1 a.2.1))(Z0j:Cls K Z01)(Z0C:mg "len"=none)(Z1W:mg "range"=none):FnOk P w K mg base CX0 (27) f fd ["_law_loom","_law_state","_law_band","_law_done"] (gH (wC (vw<|af K Z00 Z01)<|wC (sh<|jh K)<|wC (sh<|isL<|qD K)<|wC (sh<|isL<|isU K) wN) (rs isB)<|fun a=>BQ xa xb xc rm rn qb a.1 a.2.1 a.2.2.1 a.2.2.2.1):=by
 have SC:FnScope ["_law_loom","_law_state","_law_band","_law_done","_law_k","_law_colour"] ["_law_loom","_law_state","_law_band","_law_done"] (defScope<|tp 65):=by walk_at "F"
 refine F.ok SC (fun vs H Q E h=>?_)<|fun cdv A outer s H vs Q E hr h=>?_;·obtain⟨_,_,_,ra,_⟩:=h;obtain⟨_,us,rfl,_,ra⟩:=ra;obtain⟨_,us,rfl,_,ra⟩:=ra;obtain⟨_,us,rfl,_,ra⟩:=ra;obtain⟨_,us,rfl,_,ra⟩:=ra;cases ra;rfl
 ·obtain⟨W0,aa,rfl,ra,Er,hq⟩:=h;obtain⟨Z0Y,Z0A,Z78,Z79,_⟩:=aa;obtain⟨Z1r,us,rfl,Z2B,ra⟩:=ra;replace Z2B:(vw<|af K Z00 Z01) W0 Z0Y Z1r:=Z2B;obtain⟨Z1H,us,rfl,Z0r,ra⟩:=ra;replace Z0r:(sh<|jh K) W0 Z0A Z1H:=Z0r;obtain⟨Z53,us,rfl,Z54,ra⟩:=ra;replace Z54:(sh<|isL<|qD K) W0 Z78 Z53:=Z54;obtain⟨Z55,us,rfl,Z3e,ra⟩:=ra;replace Z3e:(sh<|isL<|isU K) W0 Z79 Z55:=Z3e;cases ra;replace hq:(BQ xa xb xc rm rn qb Z0Y Z0A Z78 Z79).OkE Er (fun r=>(rs isB) W0 r Q):=hq
  refine⟨_,(a8 (bj (LU (kA (dZ (cK (eX Z1b (a4 (eL Z3U (hr.mono (by decide))<|pv 0)<|a4 (av (az (K:=K) rfl) (pv 1) a6<|fun _ _=>rfl) a5)))) (jk (dZ (cK (eX Z1b (a4 (eL Z69 (hr.mono (by decide))<|pv 0)<|a4 (pv 2) a5))))))) (ae<|aj fK) aD)
   (a8 (bj (dZ (cK (eX Z1b (a4 (eL Z51 (hr.mono (by decide))<|pv 0)<|a4 (pv 3) a5)))) (ae<|aj fK) aD)
   (a8 (et Gf rfl (i8 rfl Z1W (a4 (ak (bJ (K:=K) rfl) (by rfl) Z0C G2<|a4 (av (az (K:=K) rfl) (pv 1) a6<|fun _ _=>rfl) a5) a5)) (gG 4) (ae (bj (LU (kA (dZ (cK (eX Z1b (a4 (j5 Z52 (hr.mono (by decide)) (pv 0)<|a4 (pv 4) a5)<|a4 (av (bG (K:=K) rfl) (av (az (K:=K) rfl) (pv 1) a6<|fun _ _=>rfl) (pv 4)<|fun _ _=>rfl) a5)))) (jk (dZ (cK (eX Z1b (a4 (j5 Z6a (hr.mono (by decide)) (pv 0)<|a4 (pv 4) a5)<|a4 (av (bG (K:=K) rfl) (av (az (K:=K) rfl) (pv 1) a6<|fun _ _=>rfl) (pv 4)<|fun _ _=>rfl) a5))))))) (ae<|aj fK) aD)))
   (a8 (et Gf rfl (jr ar) (gG 5) (ae (bj (dZ (cK (eX Z1b (a4 (j5 Z6b (hr.mono (by decide)) (pv 0)<|a4 (pv 5) a5)<|a4 (gQ (eU hr) (av (az (K:=K) rfl) (pv 1) a6<|fun _ _=>rfl) (pv 5) a6 ⟨rfl,rfl,rfl,rfl⟩) a5)))) (ae<|aj fK) aD)))
   (ae (aj fK)))))),?_⟩
  have E0:Ext W0 W0:=.refl W0;unfold BQ at hq;refine bt (Er:=Er) (om (fx (jv (gY (by decide) (G7<|pY (bV<|bV<|bV gF) (bB (R:=(vw<|af K Z00 Z01))<|FK E0 Z2B) cI)<|bx (f:=fun(b:(List Cd)×(List Int)×(List Int)×dv)=>b.1) sI<|bg Z0r))) (fx (jv (gY (by decide) (G7<|pY (bV<|bV<|bV gF) (bB (R:=(vw<|af K Z00 Z01))<|FK E0 Z2B) cI)<|bg Z54))))<|(ED hq).imp fun y6 hq W7 e8=>?_;have E0:=E0.trans e8;have Z0r:=EG e8.g Z0r;have Z54:=EG e8.g Z54;have Z3e:=EG e8.g Z3e;by_cases hb100:y6=true
  ·rw[if_pos hb100]at hq ⊢;exact aG (Er:=Er) kY<|fun v9 W10 e11 h12=>hq v9 W10 (E0.trans e11) h12
  ·rw[if_neg hb100]at hq ⊢
   try dsimp only[aF]
   refine bt (Er:=Er) (fx (jv (oG (by decide) (cV (K:=K) (u:=fun(z:List Dat)=>J7<|z.map fun(z:Dat)=>z) (iX (u:=fun(z:Dat)=>z) lb)<|G7<|pY (bV<|bV<|bV gF) (bB (R:=(vw<|af K Z00 Z01))<|FK E0 Z2B) cI)<|cV (K:=K) (u:=fun(z:List Dat)=>J7<|z.map fun(z:Dat)=>z) (iX (u:=fun(z:Dat)=>z) lb)<|bg Z3e)))<|(ED hq).imp fun y16 hq W17 e18=>?_;have E0:=E0.trans e18;have Z0r:=EG e18.g Z0r;have Z3e:=EG e18.g Z3e;by_cases hb100:y16=true
   ·rw[if_pos hb100]at hq ⊢;exact aG (Er:=Er) kY<|fun v19 W20 e21 h22=>hq v19 W20 (E0.trans e21) h22
   ·rw[if_neg hb100]at hq ⊢
    try dsimp only[aF]
    refine jz (Er:=Er) (f:=(BP rm rn Z0Y Z0A)) (s0:=()) (Iv:=fun(s25:Unit)(W26:Wd)(g27:St)=>∃(d28:Option V),g27=[some Z1r,some Z1H,some Z53,some Z55,d28,none]/\Ext W0 W26) (pO<|Hk<|bx (f:=fun(b:(List Cd)×(List Int)×(List Int)×dv)=>b.1) sI<|bg Z0r) (ED hq) ?_ ?_ ?_
    ·intro W40 e41;have E0:=E0.trans e41;have Z0r:=EG e41.g Z0r;exact⟨_,rfl,E0⟩
    ·intro Wb29 W30 W31 a23 v32 s24 sg33 P34 hW35 hB36 iv e37 h38 hrt39 hq;obtain⟨d28,rfl,E0⟩:=iv;have Z0r:=EG hW35 Z0r;have E0:=E0.trans e37;have hB36:=hB36.trans e37.g;have Z0r:=EG e37.g Z0r;cases h38;refine gn (σ':=[some Z1r,some Z1H,some Z53,some Z55,some<|.int a23,none]) ?_;unfold BP at hq;refine mv (Er:=Er) (om (fx (jv (gY (by decide) (j9 (bV<|bV<|bV gF) (bB (R:=(vw<|af K Z00 Z01))<|FK E0 Z2B)<|cm (R:=(sh isI)) bM cI)<|eV (Hk<|bx (f:=fun(b:(List Cd)×(List Int)×(List Int)×dv)=>b.2.1) Be<|bg Z0r) bM))) (fx (jv (gY (by decide) (j9 (bV<|bV<|bV gF) (bB (R:=(vw<|af K Z00 Z01))<|FK E0 Z2B)<|cm (R:=(sh isI)) bM cI)<|eV (Hk<|bx (f:=fun(b:(List Cd)×(List Int)×(List Int)×dv)=>b.2.2.1) Bf<|bg Z0r) bM))))<|(ED hq).imp fun y51 hq W52 e53=>?_;have E0:=E0.trans e53;have hB36:=hB36.trans e53.g;have Z0r:=EG e53.g Z0r;by_cases hb57:y51=true
     ·rw[if_pos hb57]at hq ⊢;exact aG (Er:=Er) kY<|fun v54 W55 e56 h57=>(hrt39 _ hq) v54 W55 (E0.trans e56) h57
     ·rw[if_neg hb57]at hq ⊢
      try dsimp only[aF]
      try dsimp only
      refine eJ (W:=W52) () hB36 ?_ hq;exact⟨_,rfl,E0⟩
    ·intro s59 W60 sg61 hS62 iv hq;obtain⟨d28,rfl,E0⟩:=iv;have Z0r:=EG hS62 Z0r;refine jz (Er:=Er) (f:=(AH qb Z0Y Z0A)) (s0:=()) (Iv:=fun(s65:Unit)(W66:Wd)(g67:St)=>∃(d68:Option V),g67=[some Z1r,some Z1H,some Z53,some Z55,d28,d68]/\Ext W0 W66) (jx (aw (x:=EL "abcdefghijklmnopqrstuvwxyz") (l:=[97,98,99,100,101,102,103,104,105,106,107,108,109,110,111,112,113,114,115,116,117,118,119,120,121,122]) (dD _ _ (by decide +kernel)))) (ED hq) ?_ ?_ ?_
     ·intro W80 e81;have E0:=E0.trans e81;have Z0r:=EG e81.g Z0r;exact⟨_,rfl,E0⟩
     ·intro Wb69 W70 W71 a63 v72 s64 sg73 P74 hW75 hB76 iv e77 h78 hrt79 hq;obtain⟨d68,rfl,E0⟩:=iv;have Z0r:=EG hW75 Z0r;have E0:=E0.trans e77;have hB76:=hB76.trans e77.g;have Z0r:=EG e77.g Z0r;cases h78;refine gn (σ':=[some Z1r,some Z1H,some Z53,some Z55,d28,some<|.str<|sOf a63]) ?_;unfold AH at hq;refine mv (Er:=Er) (fx (jv (gY (by decide) (j9 (bV<|bV<|bV gF) (bB (R:=(vw<|af K Z00 Z01))<|FK E0 Z2B)<|cm (R:=(sh isS)) cW cI)<|gZ iL kS (M5<|bx (f:=fun(b:(List Cd)×(List Int)×(List Int)×dv)=>b.2.2.2) Bg<|bg Z0r) cW ag)))<|(ED hq).imp fun y86 hq W87 e88=>?_;have E0:=E0.trans e88;have hB76:=hB76.trans e88.g;have Z0r:=EG e88.g Z0r;by_cases hb92:y86=true
      ·rw[if_pos hb92]at hq ⊢;exact aG (Er:=Er) kY<|fun v89 W90 e91 h92=>(hrt79 _ hq) v89 W90 (E0.trans e91) h92
      ·rw[if_neg hb92]at hq ⊢
       try dsimp only[aF]
       try dsimp only
       refine eJ (W:=W87) () hB76 ?_ hq;exact⟨_,rfl,E0⟩
     ·intro s93 W94 sg95 hS96 iv hq;obtain⟨d68,rfl,E0⟩:=iv;exact aG (Er:=Er) kY<|fun v97 W98 e99 h100=>hq v97 W98 (E0.trans e99) h100
theorem BS{f:Addr}{fd:F8}(F:Fun K "law" "law" (tp 66) f fd){yt:List Int->Res ((List Cd)×Int×dv)}{yv:(List Cd)->Int->dv->Res Z02}{yw:(List Cd)->dv->Res dR}{iu:List Int->Int->Res Int}{tE:Int->Int->Res Dat}{mQ:(List<|dR×Dat)->(List<|dR×Dat)->Dat->Int->Res (((List<|dR×Dat)×(List<|dR×Dat))×Dat)}{mR:Z02->Dat->Res (Z02×Dat)}{qc:Z02->dR->(List<|List Pl)->(List Dat)->Res Bool}{qa:(List<|dR×Dat)->Res (List<|List Pl)}{Z00 Z01:Addr}(Z2Q:Cal P w K mg base "_law_loom_parts" ["_law_script"] (5) (dO (isScr K) (rs<|isT3 K (isL<|qA K) isI jg) yt))(ZbP:CalI P w K mg base "Loom" Z01 ["self","draft","most","spools"] (4) (rg Z01 (eN K Z00) (wC (sh<|isL<|qA K)<|wC (sh isI)<|wC (sh jg) wN)<|fun a=>yv a.1 a.2.1 a.2.2.1))(Z56:Cal P w K mg base "_law_begin" ["_law_draft_here","_law_spools_here"] (1) (bU (isL<|qA K) jg (rs<|jh K) yw))(Z1z:Cal P w K mg base "_law_at" ["_law_script","_law_k"] (1) (bU (isScr K) isI (rs isI) iu))(Z6c:Cal P w K mg base "_law_deed" ["_law_cell","_law_width"] (4) (bU isI isI (rs<|isU K) tE))(Z84:Cal P w K mg base "_law_do" ["_law_stack","_law_undone","_law_deed_here","_law_most_here"] (4) (Bu (oL<|eo K) (oL<|eo K) (aC (isU K)<|aC isI aN) (isU K)<|fun x y a=>mQ x y a.1 a.2.1))(Z1b:Cal P w K mg base "_law_same" ["_law_found","_law_due"] 26 (f9 K 26))(Z3y:Cal P w K mg base "_law_try_deed" ["_law_loom","_law_deed_here"] (5) (sS (af K Z00 Z01) (aC (isU K) aN) (isU K)<|fun st a=>mR st a.1))(Z3c:Cal P w K mg base "_law_stands" ["_law_loom","_law_state","_law_band","_law_done"] (27) (gH (wC (vw<|af K Z00 Z01)<|wC (sh<|jh K)<|wC (sh<|isL<|qD K)<|wC (sh<|isL<|isU K) wN) (rs isB)<|fun a=>qc a.1 a.2.1 a.2.2.1 a.2.2.2.1))(Z2O:Cal P w K mg base "_law_rows_of" ["_law_stack"] (4) (gH (wC (pk<|isT2 K (jh K)<|isU K) wN) (ro<|qD K)<|fun a=>qa a.1))(Z0j:Cls K Z01)(Z0C:mg "len"=none)(Z1W:mg "range"=none):FnOk P w K mg base CX0 (28) f fd ["_law_script"] (dO (isScr K) (rs isB)<|rp yt yv yw iu tE mQ mR qc qa):=by
 have SC:FnScope ["_law_script","_law_draft_here","_law_most_here","_law_spools_here","_law_loom","_law_stack","_law_undone","_law_k","_law_deed_here","_law_due"] ["_law_script"] (defScope<|tp 66):=by walk_at "F"
 refine F.ok SC (fun vs H Q E h=>?_)<|fun cdv A outer s H vs Q E hr h=>?_;·obtain⟨_,_,_,_,rfl,_⟩:=h;rfl
 ·obtain⟨W0,Z0u,Z1D,rfl,rfl,Z0h,Er,hq⟩:=h;refine⟨_,(a8 (gJ (eX Z2Q<|a4 (pv 0) a5)<|cB (K:=K) (n:=3) rfl rfl<|au (gG 1)<|au (gG 2)<|au (gG 3) cn)
   (a8 (fk 4 (kf ZbP (hr.mono (by decide)) (by rfl)<|a4 (pv 1)<|a4 (pv 2)<|a4 (pv 3) a5))
   (a8 (fk 5<|bX<|a4 (aS<|a4 (eX Z56<|a4 (pv 1)<|a4 (pv 3) a5)<|a4 (aS<|a4 ar<|a4 a6 a5) a5) a5)
   (a8 (fk 6<|bX a5)
   (a8 (et Gf rfl (i8 rfl Z1W<|a4 (ah aV (eX Z1z<|a4 (pv 0)<|a4 a6 a5) a6) a5) (gG 7) (a8 (fk 8 (eX Z6c (a4 (eX Z1z<|a4 (pv 0)<|a4 (ah bW a6<|pv 7) a5) (a4 (ak (bJ (K:=K) rfl) (by rfl) Z0C G2<|a4 (pv 1) a5) a5))))
   (a8 (fk 9<|eX Z84<|a4 (pv 5)<|a4 (pv 6)<|a4 (pv 8)<|a4 (pv 2) a5)
   (a8 (bj (dZ<|cK<|eX Z1b<|a4 (eX Z3y<|a4 (pv 4)<|a4 (pv 8) a5)<|a4 (pv 9) a5) (ae<|aj fK) aD)
   (ae (bj (aI cv (ah aV (pv 7) a6) a6 (aJ _)) (ae (bj (dZ (cK (eX Z3c (a4 (pv 4) (a4 (av (az (K:=K) rfl) (av (bG (K:=K) rfl) (pv 5) (kE iG a6) (fun _ _=>rfl)) a6 (fun _ _=>rfl)) (a4 (eX Z2O (a4 (pv 5) a5)) (a4 (dg (N:=["_law_one"]) (cap:=[none]) (fI rfl (by decide +kernel) rfl (by decide +kernel) (by rfl) (by rfl)) rfl (dq (K:=K) rfl (bY (kU (K:=K) rfl) (pv 5) (cf a6) dC)) (fun _ _ _ _=>(aW (i:=0) (show FC (["_law_one"]:List Str) by decide +kernel) rfl (by walk_at "L"))) (fun _ _ _ _=>cA) (fun _ _ _ _=>(av (az (K:=K) rfl) (pv 0) a6 (fun _ _=>rfl)))) a5))))))) (ae (aj fK)) aD)) aD))))))
   (ae (aj (eX Z3c (a4 (pv 4) (a4 (av (az (K:=K) rfl) (av (bG (K:=K) rfl) (pv 5) (kE iG a6) (fun _ _=>rfl)) a6 (fun _ _=>rfl)) (a4 (eX Z2O (a4 (pv 5) a5)) (a4 (dg (N:=["_law_one"]) (cap:=[none]) (fI rfl (by decide +kernel) rfl (by decide +kernel) (by rfl) (by rfl)) rfl (dq (K:=K) rfl (bY (kU (K:=K) rfl) (pv 5) (cf a6) dC)) (fun _ _ _ _=>(aW (i:=0) (show FC (["_law_one"]:List Str) by decide +kernel) rfl (by walk_at "L"))) (fun _ _ _ _=>cA) (fun _ _ _ _=>(av (az (K:=K) rfl) (pv 0) a6 (fun _ _=>rfl)))) a5)))))))))))),?_⟩
  have E0:Ext W0 W0:=.refl W0;rw[show L2.start ["_law_script","_law_draft_here","_law_most_here","_law_spools_here","_law_loom","_law_stack","_law_undone","_law_k","_law_deed_here","_law_due"] [Z1D]=[some Z1D,none,none,none,none,none,none,none,none,none]from rfl];unfold rp at hq;refine gb (Er:=Er) (dt<|bg Z0h)<|(ED hq).imp fun y1 hq v2 W3 e4 h5=>?_;have E0:=E0.trans e4;have Z0h:=EG e4.g Z0h;refine pK h5 fun v6 v8 v10 h7 h9 h11=>?_;cases h9;have S:Sep W0 W3 []:=Sep.nil;refine ik (Er:=Er) S E0 (vU<|cm (R:=(sh<|isL<|qA K)) (bg h7)<|cm (R:=(sh isI)) bM<|cm (R:=(sh jg)) (bg h11) cI)<|(ED hq).imp fun y12 hq v13 W14 e15 S=>?_;have E0:=E0.trans e15;have Z0h:=EG e15.g Z0h;have h7:=EG e15.g h7;have h11:=EG e15.g h11;have S:Sep W0 W14 [tc (af K Z00 Z01) y12 v13]:=S;refine ik (Er:=Er) S E0 (EVo.tr (di (bc (aX (K:=K) (bE (bg h7)<|bg h11) (cV (K:=K) (fe cD oE) (aX (K:=K) (aw (x:=EL "begin") (l:=[98,101,103,105,110]) (dD _ _ (by decide +kernel))) ag)))<|dh (R:=(isT2 K (jh K)<|isU K)))))<|(ED hq).imp fun y18 hq v19 W20 e21 S=>?_;have E0:=E0.trans e21;have Z0h:=EG e21.g Z0h;have h7:=EG e21.g h7;have S:Sep W0 W20 [tc (af K Z00 Z01) y12 v13,tc (oL<|eo K) y18 v19]:=S;refine ik (Er:=Er) S E0 (j4 (R:=(eo K)))<|fun v22 W23 e24 S=>?_;have E0:=E0.trans e24;have Z0h:=EG e24.g Z0h;have h7:=EG e24.g h7;have S:Sep W0 W23 [tc (af K Z00 Z01) y12 v13,tc (oL<|eo K) y18 v19,tc (oL<|eo K) ([]:List (dR×Dat)) v22]:=S;refine jz (Er:=Er) (f:=(hG iu tE mQ mR qc qa Z0u y1)) (s0:=(y12,y18,([]:List (dR×Dat)))) (Iv:=fun(s29:(Z02×(List<|dR×Dat)×(List<|dR×Dat)))(W30:Wd)(g31:St)=>∃(d32:Option V)(d33:Option V)(d34:Option V),g31=[some Z1D,some v6,some<|.int y1.2.1,some v10,some v13,some v19,some v22,d34,d32,d33]/\Ext W0 W30/\Sep W0 W30 [tc (af K Z00 Z01) s29.1 v13,tc (oL<|eo K) s29.2.1 v19,tc (oL<|eo K) s29.2.2 v22]) (iU (aE (fun _=>by decide)<|bE (bg Z0h) ag)) (ED hq) ?_ ?_ ?_
  ·intro W46 e47;have S:=S.ext e47;have E0:=E0.trans e47;have Z0h:=EG e47.g Z0h;have h7:=EG e47.g h7;exact⟨_,_,_,rfl,E0,S⟩
  ·intro Wb35 W36 W37 a27 v38 s28 sg39 P40 hW41 hB42 iv e43 h44 hrt45 hq;obtain⟨d32,d33,d34,rfl,E0,S⟩:=iv;have Z0h:=EG hW41 Z0h;have h7:=EG hW41 h7;have S:=S.ext e43;have E0:=E0.trans e43;have hB42:=hB42.trans e43.g;have Z0h:=EG e43.g Z0h;have h7:=EG e43.g h7;cases h44;refine gn (σ':=[some Z1D,some v6,some<|.int y1.2.1,some v10,some v13,some v19,some v22,some<|.int a27,d32,d33]) ?_;unfold hG at hq;refine aA (Er:=Er) (bE (bE (bg Z0h)<|bC ag bM)<|eY<|Hk<|bg h7)<|(ED hq).imp fun y53 hq v54 W50 e51 h55=>?_;have S:=S.ext e51;have E0:=E0.trans e51;have hB42:=hB42.trans e51.g;have Z0h:=EG e51.g Z0h;have h7:=EG e51.g h7;refine tm (Er:=Er) (k:=1) (l:=2) (i1:=5) (i2:=6) (j:=9) S E0 rfl rfl (by decide) rfl rfl (bF (bg h55)<|bF bM fR)<|(ED hq).imp fun y56 hq v57 W58 E0 hS59 S h60=>?_;have S:Sep W0 W58 [tc (af K Z00 Z01) s28.1 v13,tc (oL<|eo K) y56.1.1 v19,tc (oL<|eo K) y56.1.2 v22]:=S;have hB42:=hB42.trans hS59;have Z0h:=EG hS59 Z0h;have h7:=EG hS59 h7;have h55:=EG hS59 h55;refine oM (Er:=Er) (K:=K) (k:=0) (by decide) S E0 rfl rfl (bF (bg h55) fR) (fun W61 hS62=>(have h63:=EG (R:=(isU K)) hS62 h60;(bg h63)))<|(ED hq).imp fun y64 hq W65 E0 hS66 S=>?_;have S:Sep W0 W65 [tc (af K Z00 Z01) y64.1 v13,tc (oL<|eo K) y56.1.1 v19,tc (oL<|eo K) y56.1.2 v22]:=S;have hB42:=hB42.trans hS66;have Z0h:=EG hS66 Z0h;have h7:=EG hS66 h7;have h55:=EG hS66 h55;have h60:=EG hS66 h60;by_cases hb67:y64.2=true
   ·rw[if_pos hb67]at hq ⊢
    try dsimp only[aF]
    refine mv (Er:=Er) (aK (dH (aE (fun _=>by decide) bM) ag))<|fun W68 e69=>?_;have S:=S.ext e69;have E0:=E0.trans e69;have hB42:=hB42.trans e69.g;have Z0h:=EG e69.g Z0h;have h7:=EG e69.g h7;have h55:=EG e69.g h55;have h60:=EG e69.g h60;by_cases hb94:(decide<|(a27%4)=(1:Int))=true
    ·rw[if_pos hb94]at hq ⊢;refine mv (Er:=Er) (fx (jv (oO (cm (R:=(vw<|af K Z00 Z01)) (cq (R:=(af K Z00 Z01)) (k:=0) S) (cm (R:=(sh<|jh K)) (bx (f:=fun(b:dR×Dat)=>b.1) xJ<|fj<|gs (cq (R:=(oL<|eo K)) (k:=1) S)<|iK ag) (cm (R:=(sh<|isL<|qD K)) (G7<|mK<|cm (R:=(pk<|isT2 K (jh K)<|isU K)) (eK<|cq (R:=(oL<|eo K)) (k:=1) S) cI) (cm (R:=(sh<|isL<|isU K)) (G7 (cG (eZ<|G7<|nv (eK<|cq (R:=(oL<|eo K)) (k:=1) S) (eg ag) fN) fun W73 a71 v72 e74 h75 Q78 k79=>by
      refine gn ?_;exact⟨by simp[Keep,bz],((bx (f:=fun(b:dR×Dat)=>b.2) sv (bg h75)):EV Er _ [some v72] _ _ _) _ (.refl _) _ k79⟩)) cI))))))) ((ED hq).imp fun y88 hq W89 e90=>?_)
     have S:=S.ext e90;have E0:=E0.trans e90;have hB42:=hB42.trans e90.g;have Z0h:=EG e90.g Z0h;have h7:=EG e90.g h7;have h55:=EG e90.g h55;have h60:=EG e90.g h60;by_cases hb94:y88=true
     ·rw[if_pos hb94]at hq ⊢;exact aG (Er:=Er) kY<|fun v91 W92 e93 h94=>(hrt45 _ hq) v91 W92 (E0.trans e93) h94
     ·rw[if_neg hb94]at hq ⊢
      try dsimp only[aF]
      try dsimp only
      refine eJ (W:=W89) (y64.1,y56.1.1,y56.1.2) hB42 ?_ hq;exact⟨_,_,_,rfl,E0,S⟩
    ·rw[if_neg hb94]at hq ⊢
     try dsimp only[aF]
     try dsimp only
     refine eJ (W:=W68) (y64.1,y56.1.1,y56.1.2) hB42 ?_ hq;exact⟨_,_,_,rfl,E0,S⟩
   ·rw[if_neg hb67]at hq ⊢;exact aG (Er:=Er) kY<|fun v95 W96 e97 h98=>(hrt45 _ hq) v95 W96 (E0.trans e97) h98
  ·intro s100 W101 sg102 hS103 iv hq;obtain⟨d32,d33,d34,rfl,E0,S⟩:=iv;exact aG (Er:=Er) (oO (cm (R:=(vw<|af K Z00 Z01)) (cq (R:=(af K Z00 Z01)) (k:=0) S) (cm (R:=(sh<|jh K)) (bx (f:=fun(b:dR×Dat)=>b.1) xJ<|fj<|gs (cq (R:=(oL<|eo K)) (k:=1) S)<|iK ag) (cm (R:=(sh<|isL<|qD K)) (G7<|mK<|cm (R:=(pk<|isT2 K (jh K)<|isU K)) (eK<|cq (R:=(oL<|eo K)) (k:=1) S) cI) (cm (R:=(sh<|isL<|isU K)) (G7 (cG (eZ<|G7<|nv (eK<|cq (R:=(oL<|eo K)) (k:=1) S) (eg ag) fN) fun W107 a105 v106 e108 h109 Q112 k113=>by
    refine gn ?_;exact⟨by simp[Keep,bz],((bx (f:=fun(b:dR×Dat)=>b.2) sv (bg h109)):EV Er _ [some v106] _ _ _) _ (.refl _) _ k113⟩)) cI))))) (Fe hq fun y121 hq v122 W123 e124 h125=>hq v122 W123 (E0.trans e124) h125)
end
end Wb
namespace Wb
open PySem L2
section
variable{P:Ff}{w:Fp}{K:EH}{mg:Str->Option EI}{base:Heap}
theorem yE{f:Addr}{fd:F8}{ps:List Str}{k:Nat}:FnOk P w K mg base CX0 k f fd ps (f9 K 0):=⟨fun _ _ _ _ h=>h.elim,fun _ _ _ _ _ _ _ _ _ _ _ _ _ h=>h.elim⟩
theorem kit{K:EH}(a b:String)(r:Bool)(h:Fw [] (.type a) (.type b)=some r):Fw K (.type a) (.type b)=some r:=by first|exact h|(rw[<-h];rfl)
theorem hU{c:TT}{t rest:TS}{D:Ends}{σ:St}{H:Hp}(h:∀Q:Bool->Hp->Prop,Q false H->c σ H Q)(k:rest D σ H):dF (iQ c t aF) rest D σ H:=h _ k
theorem oS{c:TT}{t rest:TS}{D:Ends}{σ:St}{H:Hp}(h:∀Q:Bool->Hp->Prop,Q true H->c σ H Q)(k:t {D with nx:=rest D} σ H):dF (iQ c t aF) rest D σ H:=h _ k
local macro_rules | `(tactic|walk_at "S0")=>`(tactic|simp only[dn,bR,dU,bf,tC,fb,ai,aO,cP,aF,bN,aP,cR,bD,d5,tB,gw,rU,fL,rI,cS,cX,aR,bq,gD,dw,gC,cZ,bP,bQ,gq,bS,aQ,ff,cM,br,bO,bw,gy,gE,dy,dA,cY,d6,dz,aH,ba,L2.start,FZ,IQ,Kj,Iy,FG,FV,HY,Fg,JK,JL,II,IJ,K0,exists_eq_left',exists_eq_left,exists_and_left,exists_eq',exists_const,Ir.injEq,Ny.injEq,IK.injEq,V.ref.injEq,V.ty.injEq,KA,and_true,true_and,reduceCtorEq,false_and,and_false,exists_false,or_false,false_or,decide_eq_true_eq,IX,decide_eq_false_iff_not,if_true,if_false,Gk,ite_true,ite_false,Lg,KZ,Lh,Li,and_assoc])
local macro_rules | `(tactic|walk_at "S1")=>`(tactic|simp only[dn,dF,iQ,bR,dU,bf,tC,fb,ai,aO,cP,aF,bN,aP,cR,bD,d5,tB,gw,rU,fL,rI,cS,cX,aR,bq,gD,dw,gC,cZ,bP,bQ,gq,bS,aQ,ff,cM,br,bO,bw,gy,gE,dy,dA,cY,d6,dz,aH,ba,L2.start,FZ,IQ,Kj,Iy,FG,FV,HY,Fg,JK,JL,II,IJ,K0,exists_eq_left',exists_eq_left,exists_and_left,exists_eq',exists_const,Ir.injEq,Ny.injEq,IK.injEq,V.ref.injEq,V.ty.injEq,KA,and_true,true_and,reduceCtorEq,false_and,and_false,exists_false,or_false,false_or,decide_eq_true_eq,IX,decide_eq_false_iff_not,if_true,if_false,Gk,ite_true,ite_false,Lg,KZ,Lh,Li,and_assoc])
theorem we{f:Addr}{fd:F8}(F:Fun K "_law_same" "_law_same" (tp 64) f fd)(Z0C:mg "len"=none)(Z0n:mg "isinstance"=none)(Z85:mg "bool"=none)(Z4c:mg "int"=none)(Z7k:mg "str"=none)(Z17:mg "list"=none)(Z8K:mg "tuple"=none)(Z1E:mg "zip"=none){n:Nat}
  (Z1b:Cal P w K mg base "_law_same" ["_law_found","_law_due"] n (f9 K n)):FnOk P w K mg base CX0 (n+1) f fd ["_law_found","_law_due"] (f9 K<|n+1):=by
 have SC:FnScope ["_law_found","_law_due","_law_one","_law_other"] ["_law_found","_law_due"] (defScope<|tp 64):=by walk_at "F"
 refine F.ok SC (fun vs H Q E h=>?_)<|fun cdv A outer s H vs Q E hr h=>?_;·obtain⟨v,u,rfl,_⟩:=h;rfl
 ·obtain⟨v,u,rfl,h⟩:=h;have hr:Room n _:=hr
  refine⟨_,(a8 (bj (LU<|kA (aI (op_isN.or kL) (pv 1) ji<|aJ _)<|kA (aI (op_isN.or kL) (pv 1) fK<|aJ _)<|jk<|aI (op_isN.or kL) (pv 1) fK<|aJ _) (ae (aj (kC (eA cv (ak (bH (K:=K) rfl) (by rfl) Z0n ET (a4 (pv 0) (a4 (dJ (v:=.ty "bool") (by rfl) Z85 IY rfl) a5))) (ak (bH (K:=K) rfl) (by rfl) Z0n ET (a4 (pv 1) (a4 (dJ (v:=.ty "bool") (by rfl) Z85 IY rfl) a5)))<|aJ _)<|mY<|eA cv (pv 0) (pv 1)<|aJ _))) aD)
   (a8 (bj (cK (ak (bH (K:=K) rfl) (by rfl) Z0n ET (a4 (pv 1) (a4 (dJ (v:=.ty "int") (by rfl) Z4c Ib rfl) a5)))) (ae (aj (kC (ak (bH (K:=K) rfl) (by rfl) Z0n ET (a4 (pv 0) (a4 (dJ (v:=.ty "int") (by rfl) Z4c Ib rfl) a5))) (kC (pe (ak (bH (K:=K) rfl) (by rfl) Z0n ET (a4 (pv 0) (a4 (dJ (v:=.ty "bool") (by rfl) Z85 IY rfl) a5))))<|mY<|eA cv (pv 0) (pv 1)<|aJ _)))) aD)
   (a8 (bj (cK (ak (bH (K:=K) rfl) (by rfl) Z0n ET (a4 (pv 1) (a4 (dJ (v:=.ty "str") (by rfl) Z7k J6 rfl) a5)))) (ae (aj (kC (ak (bH (K:=K) rfl) (by rfl) Z0n ET (a4 (pv 0) (a4 (dJ (v:=.ty "str") (by rfl) Z7k J6 rfl) a5)))<|mY<|eA cv (pv 0) (pv 1)<|aJ _))) aD)
   (a8 (bj (LU (mX (cK (ak (bH (K:=K) rfl) (by rfl) Z0n ET (a4 (pv 1) (a4 (dJ (v:=.ty "list") (by rfl) Z17 Ga rfl) a5)))) (jY (dZ (cK (ak (bH (K:=K) rfl) (by rfl) Z0n ET (a4 (pv 0) (a4 (dJ (v:=.ty "list") (by rfl) Z17 Ga rfl) a5)))))))) (ae<|aj fK) aD)
   (a8 (bj (LU (mX (cK (ak (bH (K:=K) rfl) (by rfl) Z0n ET (a4 (pv 1) (a4 (dJ (v:=.ty "tuple") (by rfl) Z8K Kk rfl) a5)))) (jY (dZ (cK (ak (bH (K:=K) rfl) (by rfl) Z0n ET (a4 (pv 0) (a4 (dJ (v:=.ty "tuple") (by rfl) Z8K Kk rfl) a5)))))))) (ae<|aj fK) aD)
   (a8 (bj (aI yY (ak (bJ (K:=K) rfl) (by rfl) Z0C G2<|a4 (pv 0) a5) (ak (bJ (K:=K) rfl) (by rfl) Z0C G2<|a4 (pv 1) a5)<|aJ _) (ae<|aj fK) aD)
   (a8 (et Gf rfl (fi (K:=K) rfl rfl Z1E<|a4 (pv 0)<|a4 (pv 1) a5) (cB (K:=K) (n:=2) rfl rfl (au (aW (i:=2) SC.nd rfl (by walk_at "L")) (au (aW (i:=3) SC.nd rfl (by walk_at "L")) cn))) (ae (bj (dZ (cK (uH Z1b hr (by rfl)<|a4 (pv 2)<|a4 (pv 3) a5))) (ae<|aj fK) aD)))
   (ae (aj fK))))))))),?_⟩
  rcases h with⟨he,q⟩|⟨x,y,rfl,rfl,q⟩
  rotate_left
  ·refine hU (fun Q q=>?_)<|hU (fun Q q=>?_)<|oS (fun Q q=>?_) ?_;·walk_at "S0";exact q
   ·walk_at "S0";exact⟨_,.str _,_,kit "str" "int" false rfl,q⟩
   ·walk_at "S0";exact⟨_,.str _,_,kit "str" "str" true rfl,q⟩
   ·walk_at "S0";refine⟨_,.str _,_,kit "str" "str" true rfl,?_⟩;walk_at "S0";simpa using q
  have fl:∀v,L2.flat v=true->(∀H',Same H H'->Q (.bl true) H')->(v=.non\/(∃b,v=.bl b)\/(∃i,v=.int i)\/∃x,v=.str x):=fun v hv _=>by
   cases v with
   |non=>exact .inl rfl
   |bl b=>exact .inr<|.inl ⟨b,rfl⟩
   |int b=>exact .inr<|.inr<|.inl ⟨b,rfl⟩
   |str b=>exact .inr<|.inr<|.inr ⟨b,rfl⟩
   |_=>cases hv
  have he':(v=u/\L2.flat v=true)\/∃m p q xs ys,n=m+1/\v=.ref p/\u=.ref q/\((H p=some (.lst xs)/\H q=some (.lst ys))\/(SqT K H p xs/\SqT K H q ys))/\xs.length=ys.length/\∀(i:Nat)(x y:V),xs[i]? =some x->ys[i]? =some y->EqK K H m x y:=by
   cases n with
   |zero=>exact .inl he
   |succ m=>rcases he with z|⟨p,q,xs,ys,z⟩;exact .inl z;exact .inr ⟨m,p,q,xs,ys,rfl,z⟩
  rcases he' with⟨rfl,hf⟩|⟨m,p,q',xs,ys,hnm,rfl,rfl,hk,hl,hi⟩
  ·rcases fl v hf q with rfl | ⟨b,rfl⟩ | ⟨i,rfl⟩ | ⟨x,rfl⟩
   ·refine oS (fun Q q=>?_) ?_;·walk_at "S0";exact q
    ·walk_at "S0";refine⟨_,.non,_,kit "NoneType" "bool" false rfl,_,.non,_,kit "NoneType" "bool" false rfl,?_⟩;walk_at "S0";exact q H<|.refl H
   ·refine oS (fun Q q=>?_) ?_;·cases b<;>walk_at "S0"<;>exact q
    ·walk_at "S0";refine⟨_,.bl _,_,kit "bool" "bool" true rfl,_,.bl _,_,kit "bool" "bool" true rfl,?_⟩;walk_at "S0";exact q H<|.refl H
   ·refine hU (fun Q q=>?_)<|oS (fun Q q=>?_) ?_;·walk_at "S0";exact q
    ·walk_at "S0";exact⟨_,.int _,_,kit "int" "int" true rfl,q⟩
    ·walk_at "S0";refine⟨_,.int _,_,kit "int" "int" true rfl,?_⟩;walk_at "S0";refine⟨_,.int _,_,kit "int" "bool" false rfl,?_⟩;walk_at "S0";exact q H<|.refl H
   ·refine hU (fun Q q=>?_)<|hU (fun Q q=>?_)<|oS (fun Q q=>?_) ?_;·walk_at "S0";exact q
    ·walk_at "S0";exact⟨_,.str _,_,kit "str" "int" false rfl,q⟩
    ·walk_at "S0";exact⟨_,.str _,_,kit "str" "str" true rfl,q⟩
    ·walk_at "S0";refine⟨_,.str _,_,kit "str" "str" true rfl,?_⟩;walk_at "S0";exact q H<|.refl H
  ·subst hnm;obtain⟨T,tp1,tp2,tl,src1,src2,h1,h2,e1,e2⟩:∃(T:String)(tp1:TyOf K H (.ref p) (.type T))(tp2:TyOf K H (.ref q') (.type T))(tl:(T="list"/\SqL K H p xs/\SqL K H q' ys)\/(T="tuple"/\SqT K H p xs/\SqT K H q' ys))(src1 src2:Src),(∀H',Same H H'->src1.has K H' xs)/\(∀H',Same H H'->src2.has K H' ys)/\src1.val=.ref p/\src2.val=.ref q':=by
    rcases hk with⟨a,b⟩|⟨a,b⟩
    ·exact⟨"list",.lst a,.lst b,.inl ⟨rfl,GR a,GR b⟩,.lst p,.lst q',fun H' e=>GR<|e _ _ a,fun H' e=>GR<|e _ _ b,rfl,rfl⟩
    ·exact⟨"tuple",.tup a,.tup b,.inr ⟨rfl,a,b⟩,.tup p,.tup q',fun H' e=>Km e a,fun H' e=>Km e b,rfl,rfl⟩
   have hi0:Fw K (.type T) (.type "int")=some false:=by rcases tl with⟨rfl,_⟩|⟨rfl,_⟩;exact kit _ _ _ rfl;exact kit _ _ _ rfl
   have hs0:Fw K (.type T) (.type "str")=some false:=by rcases tl with⟨rfl,_⟩|⟨rfl,_⟩;exact kit _ _ _ rfl;exact kit _ _ _ rfl
   obtain⟨bl,hl0,hl1⟩:∃bl,Fw K (.type T) (.type "list")=some bl/\Fw K (.type T) (.type "tuple")=some (!bl):=by rcases tl with⟨rfl,_⟩|⟨rfl,_⟩;exact⟨true,kit _ _ _ rfl,kit _ _ _ rfl⟩;exact⟨false,kit _ _ _ rfl,kit _ _ _ rfl⟩
   have ln1:nS K (.ref p) H xs.length:=by rcases tl with⟨_,t1,_⟩|⟨_,t1,_⟩;exact .inl ⟨_,t1,rfl⟩;exact .inr ⟨_,t1,rfl⟩
   have ln2:nS K (.ref q') H ys.length:=by rcases tl with⟨_,_,t2⟩|⟨_,_,t2⟩;exact .inl ⟨_,t2,rfl⟩;exact .inr ⟨_,t2,rfl⟩
   refine hU (fun Q q=>?_)<|hU (fun Q q=>?_)<|hU (fun Q q=>?_)<|hU (fun Q q=>?_)<|hU (fun Q q=>?_)<|hU (fun Q q=>?_) ?_;·walk_at "S0";exact q
   ·walk_at "S0";exact⟨_,tp2,_,hi0,q⟩
   ·walk_at "S0";exact⟨_,tp2,_,hs0,q⟩
   ·walk_at "S0";refine⟨_,tp2,_,hl0,?_⟩;cases bl with
    |false=>exact q
    |true=>walk_at "S0";exact⟨_,tp1,_,hl0,q⟩
   ·walk_at "S0";refine⟨_,tp2,_,hl1,?_⟩;cases bl with
    |true=>exact q
    |false=>walk_at "S0";exact⟨_,tp1,_,hl1,q⟩
   ·walk_at "S0";refine⟨_,ln1,_,ln2,?_⟩;simp only[hl,dn,bR,dU,bf,tC,fb,ai,aO,cP,aF,bN,aP,cR,bD,d5,tB,gw,rU,fL,rI,cS,cX,aR,bq,gD,dw,gC,cZ,bP,bQ,gq,bS,aQ,ff,cM,br,bO,bw,gy,gE,dy,dA,cY,d6,dz,aH,ba,L2.start,FZ,IQ,Kj,Iy,FG,FV,HY,Fg,JK,JL,II,IJ,K0,exists_eq_left',exists_eq_left,exists_and_left,exists_eq',exists_const,Ir.injEq,Ny.injEq,IK.injEq,V.ref.injEq,V.ty.injEq,KA,and_true,true_and,reduceCtorEq,false_and,and_false,exists_false,or_false,false_or,decide_eq_true_eq,IX,decide_eq_false_iff_not,if_true,if_false,Gk,ite_true,ite_false,Lg,KZ,Lh,Li,and_assoc];exact q
   ·walk_at "S1";refine⟨_,rfl,_,rfl,src1,src2,xs,ys,by rw[e1,e2],h1 H<|.refl H,h2 H<|.refl H,xB (fun i σ H2=>Same H H2/\∃a b,σ=[some (.ref p),some<|.ref q',a,b]) ⟨.refl H,none,none,rfl⟩ (fun i σ H2⟨e,_⟩=>⟨h1 H2 e,h2 H2 e⟩) hl ?_ ?_⟩
    ·rintro i x y r σ H2 hx hy hr' ⟨e,a,b,rfl⟩;walk_at "S1";refine⟨_,M4 aq,rfl,?_⟩;walk_at "S1";refine⟨x,y,rfl,.inl ⟨(hi i x y hx hy).same (e.trans<|dW hr'),fun H3 e3=>?_⟩⟩;walk_at "S1";exact e.trans<|(dW hr').trans e3
    ·rintro σ H2 ⟨e,a,b,rfl⟩;walk_at "S1";exact q H2 e
def rq(K:EH):Sp:=fun vs H Q _=>∃(a:Addr)(ns:List Int),vs=[.ref a]/\SqL K H a (ns.map Ir)/\ns.length<=63/\∀H',Q (.bl true) H'
end
end Wb
namespace Mi
theorem mS{s:List Int}(hs:s.length<=63)(k:Nat)(hk:k<=200):∃n,iu s (k:Int)=.ok n:=by
 unfold iu Ce;by_cases h:(k:Int)<(s.length:Int)
 ·rw[if_pos (by simpa using h)];obtain⟨x,e,_⟩:=f6 (xs:=s) (i:=(k:Int)) (by omega) h;exact⟨x,e⟩
 ·rw[if_neg (by simpa using h),vc (by omega) (by omega)];exact⟨_,rfl⟩
theorem Ah(c b:Int)(hb:1<=b)(hb2:b<1073741824)(k:Nat)(s:Int×Int×List Int)(h1:0<=s.2.1)(hl:s.2.2.length<100000):∃s':Int×Int×List Int,AB c b (k:Int) s=.ok s'/\0<=s'.2.1/\∃v,0<=v/\v<b/\s'.2.2=s.2.2++[v]:=by
 unfold AB;have hm0:=G1 (s.1*48271+7919+(k:Int)) (show(2147483647:Int)≠0 by decide);have hm1:=FD (s.1*48271+7919+(k:Int)) (show(0:Int)<2147483647 by decide);generalize (s.1*48271+7919+(k:Int))%2147483647=mx at*
 have other:∀z:Int,0<=z%b/\z%b<b:=fun z=>⟨G1 _ (by omega),FD _ (by omega)⟩
 have A:∀z:Int,en s.2.2 z=.ok (s.2.2++[z]):=fun z=>fQ hl;have e2:((((oj mx mx).bind fun y63=>EK<|y63%1000003).bind fun y64=>lE y64 b).bind fun y69=>en s.2.2 y69)=.ok (s.2.2++[mx*mx%1000003%b]):=by
  rw[oq (by omega) (by omega)];simp only[EF];rw[iV (by omega)];exact A _
 have e1:((lE s.2.1 b).bind fun y56=>en s.2.2 y56)=.ok (s.2.2++[s.2.1%b]):=by rw[iV (by omega)];exact A _
 by_cases hf:(1000000000000000000:Int)<=dX c
 ·rw[decide_eq_true hf];by_cases hp:0<s.2.1
  ·rw[decide_eq_true hp];simp only[if_true,EF,e1,vb (show 0<b by omega) hb2];exact⟨_,rfl,Int.ediv_nonneg h1 (by omega),_,(other _).1,(other _).2,rfl⟩
  ·rw[decide_eq_false hp];simp only[if_true,EF,Gk,if_false,e2];exact⟨_,rfl,h1,_,(other _).1,(other _).2,rfl⟩
 ·rw[decide_eq_false hf];simp only[EF,Gk,if_false,e2];exact⟨_,rfl,h1,_,(other _).1,(other _).2,rfl⟩
theorem qe(c:Int)(n:Nat)(b:Int)(hn:n<=1000)(hb:1<=b)(hb2:b<1073741824):∃ns,lu c (n:Int) b=.ok ns/\ns.length=n/\∀x∈ns,0<=x/\x<b:=by
 unfold lu Cf;rw[jA (by omega),EF];obtain⟨s,e,h0,hl,hb⟩:=gW (f:=AB c b) (fun pre(s:Int×Int×List Int)=>0<=s.2.1/\s.2.2.length=pre.length/\∀x∈s.2.2,0<=x/\x<b) ((HP n).map fun(i:Nat)=>(i:Int)) ((dX c)%2147483647,dX c,[]) ⟨xU c,rfl,by simp⟩ (by
  intro pre a post s e ⟨h0,hl,hb'⟩;have hlen:pre.length<n:=by have:=congrArg GC e;simp at this;omega
  obtain⟨k,rfl⟩:∃k:Nat,a=(k:Int):=by
   have:a∈(HP n).map fun(i:Nat)=>(i:Int):=by rw[e];simp
   obtain⟨k,_,hk⟩:=Fh.mp this;exact⟨k,hk.symm⟩
  obtain⟨s',e',h0',v,v0,v1,ev⟩:=Ah c b hb hb2 k s h0 (by omega);refine⟨s',e',h0',by rw[ev];simp[hl],fun x hx=>?_⟩;rw[ev]at hx;rcases GF.mp hx with z|z;·exact hb' x z
  ·rw[GU.mp z];exact⟨v0,v1⟩)
 rw[e];exact⟨_,rfl,by rw[hl];simp,hb⟩
def isTurn(c:Nat):Prop:=c=102\/c=98\/c=105
instance zkeep85(c:Nat):Decidable (isTurn c):=by unfold isTurn;infer_instance
def Turns(t:Tx):Prop:=∀c∈t,isTurn c
structure Card(t:Cd):Prop where
 lay:t.1=[83]\/t.1=[90]
 four:t.2.1.length=4
 col:∀c∈t.2.1,97<=c/\c<=122
 low:0<=t.2.2
 high:t.2.2<4
abbrev Sp:=List<|Tx×Int
def ky(d:Sp):List Tx:=d.map (·.1)
theorem wg(d:Sp)(k k':Tx)(a:Int):look (eW d k a) k'=if k'=k then some a else look d k':=by
 unfold eW;by_cases h:(d.any fun p=>decide<|p.1=k)=true
 ·rw[if_pos h]
  induction d with
  |nil=>cases h
  |cons p d ih=>
   rw[FZ];by_cases e:p.1=k
   ·rw[if_pos e];by_cases e2:k'=k;·rw[if_pos e2];unfold look;rw[Hd (by simp[e,e2])];rfl
    ·rw[if_neg e2];have n1:¬p.1=k':=fun z=>e2<|z.symm.trans e;unfold look;rw[FR (by simpa using n1),FR (by simpa using n1)];by_cases h2:(d.any fun p=>decide<|p.1=k)=true
     ·have:=ih h2;rw[if_neg e2]at this;exact this
     ·have:(d.map fun kv=>if kv.1=k then(kv.1,a)else kv)=d:=by
       rw[Ip (g:=id),List.map_id];intro q hq;rw[if_neg fun z=>h2 (Jd.mpr ⟨q,hq,by simpa using z⟩)];rfl
      rw[this]
   ·rw[if_neg e];have h2:(d.any fun p=>decide<|p.1=k)=true:=by simpa [e] using h
    have:=ih h2;unfold look at this ⊢;by_cases e3:p.1=k';·rw[Hd (by simpa using e3),Hd (by simpa using e3),if_neg fun z=>e<|e3.trans z]
    ·rw[FR (by simpa using e3),FR (by simpa using e3)];exact this
 ·rw[if_neg h];unfold look;rw[List.find?_append];by_cases e2:k'=k
  ·subst e2;have:d.find? (fun p=>decide<|p.1=k')=none:=Ls.mpr fun p hp z=>h<|Jd.mpr ⟨p,hp,z⟩;rw[this,if_pos rfl];simp
  ·rw[if_neg e2];cases q:d.find? (fun p=>decide<|p.1=k')with
   |some x=>rfl
   |none=>
    rw[Option.none_or,FR (by simpa using fun z=>e2 z.symm)];rfl
theorem wj(d:Sp)(k:Tx):(d.any fun p=>decide<|p.1=k)=true↔k∈ky d:=by
 unfold ky;rw[Jd,Fh];simp
theorem ly(d:Sp)(k:Tx)(a:Int):ky (eW d k a)=if k∈ky d then ky d else ky d++[k]:=by
 unfold eW;by_cases h:k∈ky d
 ·rw[if_pos<|(wj d k).mpr h,if_pos h];unfold ky;rw[IU];refine Ip fun p _=>?_;show(if p.1=k then(p.1,a)else p).1=p.1;split<;>rfl
 ·rw[if_neg fun z=>h<|(wj d k).mp z,if_neg h];unfold ky;simp
theorem look_mem{d:Sp}{k:Tx}:k∈ky d↔∃v,look d k=some v:=by
 unfold look;constructor
 ·intro h;obtain⟨p,h1,h2⟩:=Fh.mp h;cases q:d.find? (fun p=>decide<|p.1=k)with
  |some x=>exact⟨x.2,rfl⟩
  |none=>exact absurd (Ls.mp q p h1) (by simpa using h2)
 ·rintro ⟨v,h⟩;obtain⟨p,h1,h2⟩:=Hb.mp h;exact Fh.mpr ⟨p,List.mem_of_find?_eq_some h1,by simpa using List.find?_some h1⟩
theorem yF{d:Sp}(nd:(ky d).Nodup){p:Tx×Int}(h:p∈d):look d p.1=some p.2:=by
 induction d with
 |nil=>cases h
 |cons q d ih=>
  have nd':q.1∉ky d/\(ky d).Nodup:=G8.mp nd;unfold look;rcases F9.mp h with rfl|h
  ·rw[Hd (by simp)];rfl
  ·have:¬q.1=p.1:=fun z=>nd'.1<|z▸Fh.mpr ⟨p,h,rfl⟩;rw[FR (by simpa using this)];exact ih nd'.2 h
theorem jd(d:Sp)(k k':Tx)(a:Int):bT (eW d k a) k' 0=if k'=k then a else bT d k' 0:=by
 unfold bT;rw[wg];split<;>rfl
theorem gi{d:Sp}{k:Tx}(h:k∉ky d):bT d k 0=0:=by
 unfold bT;cases q:look d k with
 |none=>rfl
 |some v=>exact absurd (look_mem.mpr ⟨v,q⟩) h
theorem fU{d:Sp}(nd:(ky d).Nodup){p:Tx×Int}(h:p∈d):bT d p.1 0=p.2:=by
 unfold bT;rw[yF nd h];rfl
theorem wk:∀{d e:Sp},(ky d).Nodup->ky d=ky e->(∀k,bT d k 0=bT e k 0)->d=e
 | [],[],_,_,_=>rfl
 | [],_::_,_,h,_=>by cases h
 |_::_,[],_,h,_=>by cases h
 |p::d,q::e,nd,h,g=>by
  have nd':p.1∉ky d/\(ky d).Nodup:=G8.mp nd;have h1:p.1=q.1/\ky d=ky e:=by
   unfold ky at h ⊢;simpa using h
  have nde:(ky (q::e)).Nodup:=h▸nd;have a1:=fU nd<|EZ (a:=p) (l:=d);have a2:=fU nde<|EZ (a:=q) (l:=e);have ep:p=q:=by
   refine Prod.ext h1.1 ?_;rw[<-a1,<-a2,g p.1,h1.1]
  subst ep;rw[wk nd'.2 h1.2 fun k=>?_];have:=g k;unfold bT look at this ⊢;by_cases z:p.1=k
  ·have o1:k∉ky d:=z▸nd'.1;have o2:k∉ky e:=h1.2▸o1;exact(gi o1).trans (gi o2).symm
  ·rw[FR (by simpa using z),FR (by simpa using z)]at this;exact this
theorem km(d:Sp)(k:Tx)(a:Int):(eW d k a).length<=d.length+1:=by unfold eW;split<;>simp
theorem wm{d:Sp}(nd:(ky d).Nodup)(k:Tx)(a:Int):(ky<|eW d k a).Nodup:=by
 rw[ly];split;·exact nd
 ·rename_i h;refine List.nodup_append.mpr ⟨nd,by simp,fun x hx y hy e=>?_⟩;have:y=k:=by simpa using hy
  subst this;subst e;exact h hx
def je(L:Sp)(k:Tx):Int:=(L.map fun p=>if p.1=k then p.2 else 0).sum
theorem fo(p:Tx×Int)(L:Sp)(k:Tx):je (p::L) k=(if p.1=k then p.2 else 0)+je L k:=by unfold je;simp
theorem yG{L:Sp}(h:∀p∈L,0<=p.2)(k:Tx):0<=je L k:=by
 induction L with
 |nil=>exact Ma _
 |cons p L ih=>
  rw[fo];have h1:=h p<|EZ ..;have h2:=ih fun q hq=>h q<|F5 _ hq;split<;>omega
theorem wo{L:Sp}(h:∀p∈L,0<p.2){k:Tx}(hk:k∈ky L):0<je L k:=by
 induction L with
 |nil=>cases hk
 |cons p L ih=>
  rw[fo];have h1:=h p<|EZ ..;have h2:=yG (L:=L) (fun q hq=>by have:=h q<|F5 _ hq;omega) k;by_cases z:p.1=k;·rw[if_pos z];omega
  ·have:k∈ky L:=by
    rcases F9.mp hk with e|e;·exact absurd e.symm z
    ·exact e
   have:=ih (fun q hq=>h q<|F5 _ hq) this;rw[if_neg z];omega
theorem wq(L:Sp)(k:Tx):je (L.map fun p=>(p.1, -p.2)) k= -je L k:=by
 induction L with
 |nil=>rfl
 |cons p L ih=>rw[FZ,fo,fo,ih];split<;>omega
theorem wt{L:Sp}{k:Tx}(h:k∉ky L):je L k=0:=by
 induction L with
 |nil=>rfl
 |cons p L ih=>
  have h':p.1≠k/\k∉ky L:=⟨fun z=>h<|z▸EZ ..,fun z=>h<|F5 _ z⟩
  rw[fo,if_neg h'.1,ih h'.2];rfl
def tG(p:Tx×Int)(s:Sp):Res Sp:=fX s p.1<|bT s p.1 0+p.2
theorem qf:∀(L s:Sp),(ky s).Nodup->s.length+L.length<1000->∃r,cj tG L s=.ok r/\(ky r).Nodup/\(∀k,bT r k 0=bT s k 0+je L k)/\(∀k,k∈ky r↔k∈ky s\/k∈ky L)/\r.length<=s.length+L.length/\((∀p∈L,p.1∈ky s)->ky r=ky s)
 | [],s,nd,hl=>⟨s,rfl,nd,fun k=>by unfold je;simp,fun k=>by unfold ky;simp,by simp,fun _=>rfl⟩
 |p::L,s,nd,hl=>by
  simp only[FV]at hl;have hp:=km s p.1<|bT s p.1 0+p.2;obtain⟨r,e,h1,h2,h3,h4,h5⟩:=qf L (eW s p.1<|bT s p.1 0+p.2) (wm nd _ _) (by omega);refine⟨r,?_,h1,fun k=>?_,fun k=>?_,by simp only[FV];omega,fun h=>?_⟩
  ·show(tG p s).bind _=_;rw[show tG p s=.ok (eW s p.1<|bT s p.1 0+p.2)from bA (by show s.length<100000;omega),EF];exact e
  ·rw[h2,jd,fo];by_cases z:k=p.1;·subst z;rw[if_pos rfl,if_pos rfl];omega
   ·rw[if_neg z,if_neg<|Gh z];omega
  ·rw[h3,ly];have:k∈ky (p::L)↔k=p.1\/k∈ky L:=F9;rw[this];split
   ·rename_i z;constructor
    ·rintro (h | h);·exact .inl h
     ·exact .inr<|.inr h
    ·rintro (h | rfl | h);·exact .inl h
     ·exact .inl z
     ·exact .inr h
   ·rw[GF,GU,or_assoc]
  ·have hin:p.1∈ky s:=h p<|EZ ..;have e2:ky (eW s p.1<|bT s p.1 0+p.2)=ky s:=by rw[ly,if_pos hin]
   rw[h5 fun q hq=>by rw[e2];exact h q<|F5 _ hq,e2]
theorem oU{α S:Type}{f:α->S->Res S}:∀(l r:List α)(s:S),cj f (l++r) s=(cj f l s).bind (cj f r)
 | [],r,s=>rfl
 |a::l,r,s=>by
  show(f a s).bind _=((f a s).bind _).bind _;cases f a s with
  |ok b=>exact oU l r b
  |err j=>rfl
  |stuck=>rfl
theorem jE{α β S:Type}{f:β->S->Res S}{g:α->List β}:∀(l:List α)(s:S),cj f (l.flatMap g) s=cj (fun a s=>cj f (g a) s) l s
 | [],s=>rfl
 |a::l,s=>by
  rw[LQ,oU];show _=(cj f (g a) s).bind _;congr 1;funext b;exact jE l b
theorem fG{α S:Type}{f g:α->S->Res S}:∀(l:List α)(s:S),(∀a∈l,∀s,f a s=g a s)->cj f l s=cj g l s
 | [],s,_=>rfl
 |a::l,s,h=>by
  show(f a s).bind _=(g a s).bind _;rw[h a<|EZ ..];congr 1;funext b;exact fG l b fun x hx=>h x<|F5 _ hx
theorem eO{α β S:Type}{f:β->S->Res S}{g:α->β}:∀(l:List α)(s:S),cj f (l.map g) s=cj (fun a s=>f (g a) s) l s
 | [],s=>rfl
 |a::l,s=>by
  show(f (g a) s).bind _=(f (g a) s).bind _;congr 1;funext b;exact eO l b
theorem oV:∀(T s:Sp),(ky T).Nodup->(ky s).Nodup->s.length<1000->(∀p∈T,0<p.2/\p.1.length<=100)->(∀p∈T,p.2<=bT s p.1 0)->∃r,cj tF T s=.ok r/\ky r=ky s/\∀k,bT r k 0=bT s k 0-bT T k 0
 | [],s,_,_,_,_,_=>⟨s,rfl,rfl,fun k=>by show _=_-0;omega⟩
 |p::T,s,ndT,nds,hl,hp,hg=>by
  have nd':p.1∉ky T/\(ky T).Nodup:=G8.mp ndT;have h1:=hg p<|EZ ..;have h2:=(hp p<|EZ ..).1;have hin:p.1∈ky s:=Gj fun z=>by rw[gi z]at h1;omega
  obtain⟨v,hv⟩:=look_mem.mp hin;have gv:bT s p.1 0=v:=by unfold bT;rw[hv];rfl
  have e1:tF p s=.ok (eW s p.1<|v-p.2):=by
   unfold tF;rw[if_neg (by simpa using h1),show getD s p.1=.ok v from by unfold getD;rw[hv];rfl,EF,show fX s p.1 (v-p.2)=.ok _ from bA (by show s.length<100000;omega)];rfl
  have ek:ky (eW s p.1<|v-p.2)=ky s:=by rw[ly,if_pos hin]
  have ne:∀q∈T,q.1≠p.1:=fun q hq z=>nd'.1<|z▸Fh.mpr ⟨q,hq,rfl⟩;have el:(eW s p.1<|v-p.2).length=s.length:=by
   have:=congrArg GC ek;unfold ky at this;simpa using this
  obtain⟨r,e,k1,k2⟩:=oV T (eW s p.1<|v-p.2) nd'.2 (by rw[ek];exact nds) (by omega) (fun q hq=>hp q<|F5 _ hq) (fun q hq=>by rw[jd,if_neg<|ne q hq];exact hg q<|F5 _ hq);refine⟨r,?_,k1.trans ek,fun k=>?_⟩
  ·show(tF p s).bind _=_;rw[e1,EF];exact e
  ·rw[k2,jd];by_cases z:k=p.1
   ·subst z;rw[if_pos rfl,gi nd'.1,gv,fU ndT<|EZ ..];omega
   ·have:bT (p::T) k 0=bT T k 0:=by
     unfold bT look;rw[FR (by simpa using fun y=>z y.symm)]
    rw[if_neg z,this]
theorem mT:∀(T s:Sp),(ky T).Nodup->(ky s).Nodup->s.length<1000->(∀p∈T,0<p.2/\p.1.length<=100)->(∃p∈T,bT s p.1 0<p.2)->cj tF T s=.err 6
 | [],s,_,_,_,_,h=>by obtain⟨p,hp,_⟩:=h;cases hp
 |p::T,s,ndT,nds,hl,hp,hg=>by
  have nd':p.1∉ky T/\(ky T).Nodup:=G8.mp ndT;have h2:=(hp p<|EZ ..).1;have h3:=(hp p<|EZ ..).2;by_cases c:bT s p.1 0<p.2
  ·show(tF p s).bind _=_;unfold tF;rw[if_pos (by simpa using c),cH (by simp),EF,cH (by simp;omega),EF,cH (by simp;omega),EF,EF];rw[show vj _=EK _ from bA (by unfold cap;simp;omega),EF];rfl
  ·have h1:p.2<=bT s p.1 0:=by omega
   have hin:p.1∈ky s:=Gj fun z=>by rw[gi z]at h1;omega
   obtain⟨v,hv⟩:=look_mem.mp hin;have e1:tF p s=.ok (eW s p.1<|v-p.2):=by
    unfold tF;rw[if_neg (by simpa using h1),show getD s p.1=.ok v from by unfold getD;rw[hv];rfl,EF,show fX s p.1 (v-p.2)=.ok _ from bA (by show s.length<100000;omega)];rfl
   have ek:ky (eW s p.1<|v-p.2)=ky s:=by rw[ly,if_pos hin]
   have ne:∀q∈T,q.1≠p.1:=fun q hq z=>nd'.1<|z▸Fh.mpr ⟨q,hq,rfl⟩;have el:(eW s p.1<|v-p.2).length=s.length:=by
    have:=congrArg GC ek;unfold ky at this;simpa using this
   show(tF p s).bind _=_;rw[e1,EF];refine mT T _ nd'.2 (by rw[ek];exact nds) (by omega) (fun q hq=>hp q<|F5 _ hq) ?_;obtain⟨q,hq,hlt⟩:=hg;rcases F9.mp hq with rfl|hq
   ·exact absurd hlt c
   ·exact⟨q,hq,by rw[jd,if_neg<|ne q hq];exact hlt⟩
def go(c:Nat):Int:=if c=102 then 1 else if c=98 then -1 else 0
def tw(t:Cd)(c:Nat):Int:=if t.1=[83]then go c else -go c
def iP(t:Cd)(i:Int):Nat:=t.2.1[i.toNat]?.getD 0
def wu(i:Int):Nat:=if i=1 then 115 else if i= -1 then 122 else 111
def behind(t:Cd)(c:Nat):Cd:=(t.1,t.2.1,(t.2.2+go c)%4)
def oW(t:Cd)(c:Nat):Pl:=([iP t t.2.2],[iP t ((t.2.2+2)%4)],[wu (tw t c)])
theorem BU(c:Nat): -1<=go c/\go c<=1:=by unfold go;split;omega;split<;>omega
theorem zk(t:Cd)(c:Nat): -1<=tw t c/\tw t c<=1:=by have:=BU c;unfold tw;split<;>omega
theorem Card.behind{t:Cd}(h:Card t)(c:Nat):Card (behind t c):=⟨h.lay,h.four,h.col,G1 _ (by decide),FD _ (by decide)⟩
theorem zl{c:Nat}(h:isTurn c):p9 [c]=.ok (go c):=by
 unfold p9 Cw;rcases h with rfl|rfl|rfl<;>rfl
theorem tH{t:Cd}{c:Nat}(h:isTurn c):wY t [c]=.ok (behind t c):=by
 unfold wY Cz;rw[zl h];rfl
theorem oX{t:Cd}{c:Nat}(h:isTurn c):mP t [c]=.ok (tw t c):=by
 unfold mP Cy;rw[zl h];by_cases z:t.1=[83]
 ·rw[if_pos (by simpa using z)];unfold tw;rw[if_pos z]
 ·rw[if_neg (by simpa using z)];unfold tw;rw[if_neg z];simp only[EF];congr 1;omega
theorem dY{t:Cd}(h:Card t){i:Int}(h0:0<=i)(h1:i<4):iJ t.2.1 i=.ok [iP t i]:=zY h0 (by rw[h.four];exact h1) (by rw[h.four];decide)
theorem tI(i:Int):0<=i%4/\i%4<4:=⟨G1 _ (by decide),FD _ (by decide)⟩
theorem Ai{i:Int}(h: -1<=i/\i<=1):iJ ([122,111,115]:Tx) (i+1)=.ok [wu i]:=by
 have:i= -1\/i=0\/i=1:=by omega
 rcases this with rfl|rfl|rfl<;>rfl
theorem Aj{t:Cd}(h:Card t):jc t=.ok [iP t t.2.2]:=by
 unfold jc rk;rw[show t.2.2%4=t.2.2 from Int.emod_eq_of_lt h.low h.high,dY h h.low h.high]
theorem tJ{t:Cd}(h:Card t):yB t=.ok [iP t ((t.2.2+2)%4)]:=by
 unfold yB CI;rw[dY h (tI _).1 (tI _).2]
theorem jN{t:Cd}{c:Nat}(h:isTurn c):oR t [c]=.ok (tw t c):=by
 unfold oR CD;have e:getD ([([102],1),([98],(-1)),([105],0)]:List (Tx×Int)) [c]=.ok (go c):=by rcases h with rfl|rfl|rfl<;>rfl
 rw[e,EF];by_cases z:t.1=[83]
 ·rw[if_pos (by simpa using z)];unfold tw;rw[if_pos z]
 ·rw[if_neg (by simpa using z)];unfold tw;rw[if_neg z]
theorem tK{i:Int}(h: -1<=i/\i<=1):getD ([(1,[115]),((-1),[122]),(0,[111])]:List (Int×Tx)) i=.ok [wu i]:=by
 have:i= -1\/i=0\/i=1:=by omega
 rcases this with rfl|rfl|rfl<;>rfl
theorem yH{t:Cd}(h:Card t){c:Nat}(hc:isTurn c):x6 t [c]=.ok (oW t c):=by
 unfold x6 CJ;simp only[Aj h,tJ h,jN hc,EF,tK<|zk t c];rfl
def hW(c:Nat):Bool:=decide<|isTurn c
theorem turnB_iff{c:Nat}:hW c=true↔isTurn c:=decide_eq_true_iff
def oY(x:Tx)(n:Nat):Bool:=decide (x.length=n)&&x.all hW
theorem iF(c:Nat):([102,98,105]:Tx).contains c=hW c:=by
 rw[Gm,turnB_iff];simp[isTurn]
theorem tL{x:Tx}(hl:x.length<=10000)(n:Nat):wZ x (n:Int)=.ok (oY x n):=by
 unfold wZ CC oY;rw[nG (by omega)];simp only[EF];by_cases z:x.length=n
 ·rw[if_pos (by simp[z]),cF (g:=fun t:Tx=>hW<|t.headD 0) (by show(bo x).length<=100000;simp[bo];omega) (fun t ht=>by
   obtain⟨c,hc,rfl⟩:=ic ht;show EK _=_;rw[iF];rfl),EF,decide_eq_true z,N8]
  congr 1;simp[bo,List.all_map,Function.comp_def]
  try rfl
 ·rw[if_neg (by simp;omega),decide_eq_false z];rfl
theorem qg{x:Tx}{n:Nat}(h:oY x n=true):x.length=n/\Turns x:=by
 unfold oY at h;simp only[Bool.and_eq_true,decide_eq_true_eq,Jb]at h;exact⟨h.1,fun c hc=>turnB_iff.mp<|h.2 c hc⟩
theorem four{x:Tx}(h:x.length=4):∃a b c d,x=[a,b,c,d]:=by
 match x,h with
 | [a,b,c,d],_=>exact⟨a,b,c,d,rfl⟩
def jO(t:Cd):Cd:=(if t.1=[83]then [90]else [83],[iP t 0,iP t 3,iP t 2,iP t 1],(0-t.2.2)%4)
theorem oZ{t:Cd}(h:Card t):w5 t=.ok (jO t):=by
 unfold w5 Cv;have e1:((xE ([83,90]:Tx) t.1).bind fun y5=>iJ ([90,83]:Tx) y5)=.ok (if t.1=[83]then [90]else [83]):=by
  rcases h.lay with e|e<;>rw[e]<;>rfl
 rw[e1];simp only[EF,dY h (show(0:Int)<=0 by decide) (by decide),dY h (show(0:Int)<=3 by decide) (by decide),dY h (show(0:Int)<=2 by decide) (by decide),dY h (show(0:Int)<=1 by decide) (by decide)];rfl
theorem Ak{t:Cd}(h:Card t){x:Tx}(e:∀c∈x,∃i:Int,0<=i/\i<4/\c=iP t i):∀c∈x,97<=c/\c<=122:=fun c hc=>by
 obtain⟨i,h0,h1,rfl⟩:=e c hc;unfold iP;have:i.toNat<t.2.1.length:=by rw[h.four];omega
 simp only[FQ this,HJ];exact h.col _<|Ke this
theorem Card.flip{t:Cd}(h:Card t):Card (jO t):=by
 refine⟨?_,rfl,Ak h fun c hc=>?_,(tI _).1,(tI _).2⟩
 ·unfold jO;split;·exact .inr rfl
  ·exact .inl rfl
 ·have:c=iP t 0\/c=iP t 3\/c=iP t 2\/c=iP t 1:=by simpa [jO] using hc
  rcases this with rfl|rfl|rfl|rfl;·exact⟨0,by decide,by decide,rfl⟩
  ·exact⟨3,by decide,by decide,rfl⟩
  ·exact⟨2,by decide,by decide,rfl⟩
  ·exact⟨1,by decide,by decide,rfl⟩
theorem Ds(a b:Dat):jW (.t [a,b]) 0=.ok a:=rfl
theorem Dt(a b:Dat):jW (.t [a,b]) 1=.ok b:=rfl
theorem Du(a b c:Dat):jW (.t [a,b,c]) 0=.ok a:=rfl
theorem Dv(a b c:Dat):jW (.t [a,b,c]) 1=.ok b:=rfl
theorem Dw(a b c:Dat):jW (.t [a,b,c]) 2=.ok c:=rfl
theorem Dx(a:Dat):jW (.t [a]) 0=.ok a:=rfl
theorem oI(x:Int):fM (zZ<|.i x)=.ok x:=rfl
theorem oT(x:Tx):fM (pP<|.s x)=.ok x:=rfl
theorem wx(sz:Int)(ds:List Int)(hsz:1<=sz)(hd:ds.length=5)(a:Int)(t:Tx)(ht:t.length<1000):∃c,97<=c/\c<=122/\AD sz ds a t=.ok (t++[c]):=by
 unfold AD;obtain⟨x,e,_⟩:=f6 (xs:=ds) (i:=4) (by decide) (by rw[hd];decide);rw[e];simp only[EF,iV (show 0<sz by omega)];have h0:=G1 (x+a%sz*7) (show(26:Int)≠0 by decide);have h1:=FD (x+a%sz*7) (show(0:Int)<26 by decide);generalize (x+a%sz*7)%26=r at h0 h1;obtain⟨c,e2,h2⟩:=iW (x:=([97,98,99,100,101,102,103,104,105,106,107,108,109,110,111,112,113,114,115,116,117,118,119,120,121,122]:Tx)) (i:=r) h0 (by simp;omega) (by decide);rw[e2];simp only[EF,cH (show t.length+[c].length<=100000 by simp;omega)];have hc:c∈([97,98,99,100,101,102,103,104,105,106,107,108,109,110,111,112,113,114,115,116,117,118,119,120,121,122]:Tx):=FL h2;have:∀c∈([97,98,99,100,101,102,103,104,105,106,107,108,109,110,111,112,113,114,115,116,117,118,119,120,121,122]:Tx),97<=c/\c<=122:=by decide
 exact⟨c,(this c hc).1,(this c hc).2,rfl⟩
theorem wy(c:Int):∃t,yp c=.ok t/\t.length=4/\∀x∈t,97<=x/\x<=122:=by
 unfold yp Cg;have h0:=G1 c (show(5:Int)≠0 by decide);have h1:=FD c (show(0:Int)<5 by decide);obtain⟨sz,e,h2⟩:=f6 (xs:=[(1:Int),2,3,4,26]) (i:=c%5) h0 (by simp;omega);have hsz:1<=sz:=by
  have:∀x∈[(1:Int),2,3,4,26],1<=x:=by decide
  exact this sz<|FL h2
 rw[e,EF];obtain⟨ds,e2,hd,_⟩:=qe (c/5) 5 26 (by decide) (by decide) (by decide);rw[show lu (c/5) 5 26=EK ds from e2,EF,show cut ds none (some 4)=ds.take 4 from oy ds 4];obtain⟨t,e3,h3,h4⟩:=gW (f:=AD sz ds) (fun pre t=>t.length=pre.length/\∀x∈t,97<=x/\x<=122) (ds.take 4) [] ⟨rfl,by simp⟩ (by
  intro pre a post t e ⟨hl,hb⟩;have hlen:pre.length<5:=by have:=congrArg GC e;simp at this;omega
  obtain⟨c,c0,c1,ec⟩:=wx sz ds hsz hd a t (by omega);refine⟨_,ec,by simp[hl],fun x hx=>?_⟩;rcases GF.mp hx with z|z;·exact hb x z
  ·rw[GU.mp z];exact⟨c0,c1⟩)
 rw[e3];exact⟨t,rfl,by rw[h3,HI];omega,h4⟩
theorem yI(c:Int):∃t,wX c=.ok t/\Card t:=by
 unfold wX Ci;have h0:=G1 c (show(2:Int)≠0 by decide);have h1:=FD c (show(0:Int)<2 by decide);obtain⟨y,e,h2⟩:=iW (x:=([83,90]:Tx)) (i:=c%2) h0 (by simp;omega) (by decide);obtain⟨t,e2,hl,hb⟩:=wy<|c/8;rw[e,EF,e2,EF];refine⟨_,rfl,?_,hl,hb,G1 _ (by decide),FD _ (by decide)⟩;have:y=83\/y=90:=by simpa using FL h2
 rcases this with rfl|rfl;·exact .inl rfl
 ·exact .inr rfl
theorem qh(d:Int)(h0:0<=d)(h1:d<3):∃c,iJ ([102,98,105]:Tx) d=.ok [c]/\isTurn c:=by
 obtain⟨c,e,h⟩:=iW (x:=([102,98,105]:Tx)) (i:=d) h0 (by simp;omega) (by decide);refine⟨c,e,?_⟩;have:=FL h;simpa [isTurn] using this
theorem wz(c:Int)(n:Nat)(hn:n<=1000):∃t,yz c (n:Int)=.ok t/\t.length=n/\Turns t:=by
 unfold yz Cs;by_cases h:c%7=3
 ·rw[if_pos (by simpa using h)];obtain⟨y,e,hy⟩:=qh (c/7%3) (G1 _ (by decide)) (FD _ (by decide));rw[e,EF,qP (by omega) (by omega)];refine⟨_,rfl,by simp,fun x hx=>?_⟩;rw[List.eq_of_mem_replicate hx];exact hy
 ·rw[if_neg (by simpa using h)];obtain⟨ds,e,hl,hb⟩:=qe (c/7) n 3 hn (by decide) (by decide);rw[e,EF];have key:∃t:List Nat,bI ds (fun(a9:Int)=>iJ ([102,98,105]:Tx) a9)=.ok (t.map fun c=>[c])/\t.length=n/\Turns t:=by
   have:∀d∈ds,∃c:Nat,iJ ([102,98,105]:Tx) d=.ok [c]/\isTurn c:=fun d hd=>qh d (hb d hd).1 (hb d hd).2;have hf:∀d∈ds,iJ ([102,98,105]:Tx) d=.ok ((fun d=>[if d=0 then 102 else if d=1 then 98 else 105]) d):=fun d hd=>by
    have h1:=hb d hd;have:d=0\/d=1\/d=2:=by omega
    rcases this with rfl|rfl|rfl<;>rfl
   rw[cF (by show ds.length<=100000;omega) hf];refine⟨ds.map fun d=>if d=0 then 102 else if d=1 then 98 else 105,by simp,by simp[hl],fun x hx=>?_⟩;obtain⟨d,_,rfl⟩:=Fh.mp hx;unfold isTurn;split;·exact .inl rfl
   ·split;·exact .inr<|.inl rfl
    ·exact .inr<|.inr rfl
  obtain⟨t,e2,hl2,ht⟩:=key;rw[e2,EF,vd (by rw[zb];omega),zb];exact⟨t,rfl,hl2,ht⟩
theorem BV{c:Nat}(h:isTurn c):getD ([([102],1),([98],(-1)),([105],0)]:List (Tx×Int)) [c]=.ok (go c):=by rcases h with rfl|rfl|rfl<;>rfl
theorem tM{t:Cd}{c:Nat}(hc:isTurn c):w8 t [c]=.ok (behind t c):=by
 unfold w8 CH;rw[BV hc];rfl
theorem qi{t:Cd}(h:Card t):yC t=.ok (jO t):=by
 unfold yC CL;have c2:∀a b:Nat,ee [a] [b]=.ok [a,b]:=fun a b=>rfl;have c3:∀a b c:Nat,ee [a,b] [c]=.ok [a,b,c]:=fun a b c=>rfl;have c4:∀a b c d:Nat,ee [a,b,c] [d]=.ok [a,b,c,d]:=fun a b c d=>rfl;have hl:getD ([([83],[90]),([90],[83])]:List (Tx×Tx)) t.1=.ok (if t.1=[83]then [90]else [83]):=by rcases h.lay with e|e<;>rw[e]<;>rfl
 simp only[dY h (show(0:Int)<=0 by decide) (by decide),dY h (show(0:Int)<=3 by decide) (by decide),dY h (show(0:Int)<=2 by decide) (by decide),dY h (show(0:Int)<=1 by decide) (by decide),EF,c2,c3,c4,hl];unfold jO;have:(4-t.2.2)%4=(0-t.2.2)%4:=by omega
 rw[this]
abbrev STT:=List Cd×List Int×List Int×List (Tx×Int)
theorem iw{α:Type}(l:List α)(x:Tx):l.zip (bo x)=(l.zip x).map fun p=>(p.1,[p.2]):=by
 unfold bo;rw[List.zip_map_right];rfl
def tN(c:Nat):Int:=if c=105 then 1 else 2
theorem yJ(c:Nat):0<tN c:=by unfold tN;split<;>omega
def lA(cards:List Cd)(x:Tx):List (Tx×Int):=(cards.zip x).flatMap fun p=>p.1.2.1.map fun h=>([h],tN p.2)
theorem rA{cards:List Cd}{x:Tx}:∀p∈lA cards x,0<p.2/\p.1.length<=100:=fun p hp=>by
 obtain⟨q,_,hq⟩:=List.mem_flatMap.mp hp;obtain⟨h,_,rfl⟩:=Fh.mp hq;exact⟨yJ _,by simp⟩
theorem yK{cards:List Cd}(hc:∀t∈cards,Card t)(x:Tx):(lA cards x).length<=4*cards.length:=by
 unfold lA;rw[List.length_flatMap];have:∀(l:List (Cd×Nat)),(∀p∈l,Card p.1)->(l.map fun p=>(p.1.2.1.map fun h=>(([h]:Tx),tN p.2)).length).sum=4*l.length:=by
  intro l
  induction l with
  |nil=>intro _;rfl
  |cons p l ih=>
   intro h;rw[FZ,List.sum_cons,ih fun q hq=>h q<|F5 _ hq,Fz,(h p<|EZ ..).four];simp;omega
 rw[this _ fun p hp=>hc p.1 (GG hp).1];simp[IA];omega
theorem wA(cards:List Cd)(x:Tx):w6 cards x=cj tG (lA cards x) []:=by
 unfold w6 CF lA;rw[iw,eO,jE];have:(cj (fun(a:Cd×Nat)s=>BB (a.1,[a.2]) s) (cards.zip x) [])=cj (fun(a:Cd×Nat)s=>cj tG (a.1.2.1.map fun h=>(([h]:Tx),tN a.2)) s) (cards.zip x) []:=by
  refine fG _ _ fun a _ s=>?_;unfold BB bo;rw[eO,eO];have:cj (fun(c:Nat)s=>BA (a.1,[a.2]) [c] s) a.1.2.1 s=cj (fun(c:Nat)s=>tG ([c],tN a.2) s) a.1.2.1 s:=by
   refine fG _ _ fun c _ s=>?_;unfold BA tG tN;by_cases z:a.2=105
   ·rw[if_pos (by simp[z]),EF,EF,if_pos z];show(fX s [c]<|bT s [c] 0+1).bind (fun y64=>EK y64)=_;cases fX s [c] (bT s [c] 0+1)<;>rfl
   ·rw[if_neg (by simp[z]),EF,EF,if_neg z];show(fX s [c]<|bT s [c] 0+2).bind (fun y64=>EK y64)=_;cases fX s [c] (bT s [c] 0+2)<;>rfl
  rw[this];cases cj (fun(c:Nat)s=>tG ([c],tN a.2) s) a.1.2.1 s<;>rfl
 rw[this];cases cj (fun(a:Cd×Nat)s=>cj tG (a.1.2.1.map fun h=>(([h]:Tx),tN a.2)) s) (cards.zip x) []<;>rfl
theorem yL(cards:List Cd)(x:Tx)(s:Sp):cj AG (cards.zip<|bo x) s=cj tG ((lA cards x).map fun p=>(p.1, -p.2)) s:=by
 unfold lA;rw[iw,eO,eO,jE];refine fG _ _ fun a _ s=>?_;unfold AG bo;rw[eO,eO];have:cj (fun(c:Nat)s=>Bx (a.1,[a.2]) [c] s) a.1.2.1 s=cj (fun(c:Nat)s=>tG ([c], -tN a.2) s) a.1.2.1 s:=by
  refine fG _ _ fun c _ s=>?_;unfold Bx tG tN;have:bT s [c] 0-2+(if decide (([a.2]:Tx)=[105])=true then(1:Int)else 0)=bT s [c] 0+ -(if a.2=105 then(1:Int)else 2):=by
   by_cases z:a.2=105;·rw[if_pos (by simp[z]),if_pos z];omega
   ·rw[if_neg (by simp[z]),if_neg z];omega
  show(fX s [c] (bT s [c] 0-2+(if decide (([a.2]:Tx)=[105])=true then(1:Int)else 0))).bind (fun y=>EK y)=_;rw[this];cases fX s [c] (bT s [c] 0+ -(if a.2=105 then(1:Int)else 2))<;>rfl
 rw[this];cases cj (fun(c:Nat)s=>tG ([c], -tN a.2) s) a.1.2.1 s<;>rfl
structure StOk(w:Nat)(s:STT):Prop where
 len:s.1.length=w
 card:∀t∈s.1,Card t
 now:s.2.1.length=w
 far:s.2.2.1.length=w
 nd:(ky s.2.2.2).Nodup
 nn:∀p∈s.2.2.2,0<=p.2
 sm:s.2.2.2.length<=100
def jP(cards:List Cd)(x:Tx):List Pl:=(cards.zip x).map fun p=>oW p.1 p.2
theorem rB{cards:List Cd}(hc:∀t∈cards,Card t){x:Tx}(hx:Turns x)(hl:cards.length<=1000):lN cards x=.ok (jP cards x):=by
 unfold lN CB jP;rw[iw,eO];obtain⟨s,e,hs⟩:=gW (f:=fun(a:Cd×Nat)s=>By mP (a.1,[a.2]) s) (fun pre s=>s=pre.map fun p:Cd×Nat=>oW p.1 p.2) (cards.zip x) [] rfl (by
  intro pre a post s e hs;have ha:a∈cards.zip x:=by rw[e];simp
  have h1:=hc _ (GG ha).1;have h2:=hx _ (GG ha).2;have hlen:s.length<100000:=by
   rw[hs,Fz];have:=congrArg GC e;simp[IA]at this;omega
  refine⟨s++[oW a.1 a.2],?_,by rw[hs];simp⟩;unfold By;dsimp only;rw[oX h2,EF,EF,Ai (zk a.1 a.2),EF,dY h1 h1.low h1.high,EF,dY h1 (tI _).1 (tI _).2,EF,EF,fQ hlen,EF];rfl)
 rw[e,hs];rfl
theorem yM{l:List Int}(h:l≠[]):∃m,xF l=.ok m/\m∈l/\∀y∈l,y<=m:=by
 have key:∀(l:List Int)(z:Int),(∀a∈l,a<=l.foldl (fun a b=>if b>a then b else a) z)/\z<=l.foldl (fun a b=>if b>a then b else a) z/\(l.foldl (fun a b=>if b>a then b else a) z=z\/l.foldl (fun a b=>if b>a then b else a) z∈l):=by
  intro l
  induction l with
  |nil=>intro z;exact⟨fun a h=>(nomatch h),Ma _,.inl rfl⟩
  |cons b l ih=>
   intro z;obtain⟨h1,h2,h3⟩:=ih (if b>z then b else z);simp only[Iw];have hb:b<=(if b>z then b else z)/\z<=(if b>z then b else z):=by split<;>omega
   refine⟨fun a ha=>?_,by omega,?_⟩
   ·rcases F9.mp ha with rfl | ha;·omega
    ·exact h1 a ha
   ·rcases h3 with h3 | h3
    ·rw[h3];by_cases c:b>z;·rw[if_pos c];exact .inr<|EZ ..
     ·rw[if_neg c];exact .inl rfl
    ·exact .inr<|F5 _ h3
 cases l with
 |nil=>exact absurd rfl h
 |cons b l=>
  obtain⟨h1,h2,h3⟩:=key (b::l) b;refine⟨_,bA (by simp),?_,h1⟩;rcases h3 with h3|h3
  ·show(b::l).foldl _ b∈_;rw[h3];exact EZ ..
  ·exact h3
def NW(s:STT)(x:Tx):List Int:=(s.2.1.zip<|s.1.zip<|bo x).map fun a=>a.1+tw a.2.1 (a.2.2.headD 0)
def CW(s:STT)(x:Tx):List Cd:=(s.1.zip<|bo x).map fun a=>behind a.1<|a.2.headD 0
def FW(s:STT)(x:Tx):List Int:=(s.2.2.1.zip<|NW s x).map fun a=>if dX a.2>a.1 then dX a.2 else a.1
theorem hX{α:Type}{l:List α}{x:Tx}(hx:Turns x){a:α×Tx}(h:a∈l.zip (bo x)):a.1∈l/\∃c,isTurn c/\a.2=[c]:=by
 have:=GG h;obtain⟨c,hc,e⟩:=ic this.2;exact⟨this.1,c,hx c hc,e⟩
theorem ej(x:Tx):(bo x).length=x.length:=by unfold bo;simp
section
variable{w:Nat}{s:STT}{x:Tx}
theorem wB(h:StOk w s)(hl:x.length=w):(NW s x).length=w:=by unfold NW;simp[ej,h.len,h.now,hl]
theorem wD(h:StOk w s)(hl:x.length=w):(CW s x).length=w:=by unfold CW;simp[ej,h.len,hl]
theorem Al(h:StOk w s)(hl:x.length=w):(FW s x).length=w:=by unfold FW;simp[wB h hl,h.far]
theorem rC(h:StOk w s):∀t∈CW s x,Card t:=fun t ht=>by
 obtain⟨a,ha,rfl⟩:=Fh.mp ht;exact(h.card _ (GG ha).1).behind _
theorem Am(h:StOk w s)(hw:w<=100)(hx:Turns x)(hl:x.length=w):bI (s.2.1.zip<|s.1.zip<|bo x) (fun(a:Int×Cd×Tx)=>(mP a.2.1 a.2.2).bind fun y56=>EK<|a.1+y56)=.ok (NW s x):=by
 unfold NW;refine cF (by simp[ej,h.len,h.now];show _<=100000;omega) fun a ha=>?_;obtain⟨_,c,hc,e⟩:=hX hx (GG ha).2;rw[e,oX hc];rfl
theorem An(h:StOk w s)(hw:w<=100)(hx:Turns x)(hl:x.length=w):bI (s.2.1.zip<|s.1.zip<|bo x) (fun(a:Int×Cd×Tx)=>(oR a.2.1 a.2.2).bind fun y56=>EK<|a.1+y56)=.ok (NW s x):=by
 unfold NW;refine cF (by simp[ej,h.len,h.now];show _<=100000;omega) fun a ha=>?_;obtain⟨_,c,hc,e⟩:=hX hx (GG ha).2;rw[e,jN hc];rfl
theorem Ao(h:StOk w s)(hw:w<=100)(hx:Turns x)(hl:x.length=w):bI (s.1.zip<|bo x) (fun(a:Cd×Tx)=>wY a.1 a.2)=.ok (CW s x):=by
 unfold CW;refine cF (by simp[ej,h.len];show _<=100000;omega) fun a ha=>?_;obtain⟨_,c,hc,e⟩:=hX hx ha;rw[e,tH hc];rfl
theorem Ap(h:StOk w s)(hw:w<=100)(hx:Turns x)(hl:x.length=w):bI (s.1.zip<|bo x) (fun(a:Cd×Tx)=>w8 a.1 a.2)=.ok (CW s x):=by
 unfold CW;refine cF (by simp[ej,h.len];show _<=100000;omega) fun a ha=>?_;obtain⟨_,c,hc,e⟩:=hX hx ha;rw[e,tM hc];rfl
theorem zm(h:StOk w s)(hw:w<=100)(hl:x.length=w):bI (s.2.2.1.zip<|NW s x) (fun(a:Int×Int)=>EK (if dX a.2>a.1 then dX a.2 else a.1))=.ok (FW s x):=cF (by simp[h.far];show _<=100000;omega) fun a _=>rfl
theorem BW(h:StOk w s)(hw:w<=100)(hx:Turns x)(hl:x.length=w):bI ((CW s x).zip (bo x)) (fun(a:Cd×Tx)=>x6 a.1 a.2)=.ok (jP (CW s x) x):=by
 have:jP (CW s x) x=((CW s x).zip (bo x)).map fun a=>oW a.1 (a.2.headD 0):=by
  unfold jP;rw[iw,IU];rfl
 rw[this];refine cF (by simp[ej,wD h hl];show _<=100000;omega) fun a ha=>?_;obtain⟨h1,c,hc,e⟩:=hX hx ha;rw[e,yH (rC h _ h1) hc];rfl
theorem Aq(h:StOk w s)(hw:w<=100)(hl:x.length<=1000):(((sr x).bind fun y13=>EK<|!decide (y13=(s.1.length:Int))).bind fun y35=>if y35 then EK true else((iE (bo x) (fun(a14:Tx)=>((B7 a14 ([102,98,105]:Tx)).bind fun c=>EK<|!c).bind fun y24=>if y24 then EK (some a14)else EK none)).bind fun y33=>EK (y33.length:Int)).bind fun y34=>EK<|decide<|(0:Int)<y34)=EK (!oY x w):=by
 rw[nG (by omega),EF,EF,h.len];unfold oY;by_cases z:x.length=w
 ·rw[if_neg (by simp[z]),decide_eq_true z,N8];rw[la (g:=fun t=>if hW (t.headD 0)=true then none else some t) (by rw[ej];omega) (fun t ht=>by
   obtain⟨c,hc,rfl⟩:=ic ht;show((EK (([102,98,105]:Tx).contains c)).bind fun c=>EK (!c)).bind _=_;rw[iF,EF,EF];show(if(!hW c)=true then EK (some [c])else EK none)=EK (if hW c=true then none else some [c]);cases hW c<;>rfl),EF,EF]
  congr 1;rw[Gm,decide_eq_true_iff,IX,List.all_eq_false];constructor
  ·intro hp;have hne:((bo x).filterMap fun t=>if hW (t.headD 0)=true then none else some t)≠[]:=fun q=>by rw[q]at hp;exact absurd hp (by decide)
   obtain⟨t,ht⟩:=List.exists_mem_of_ne_nil _ hne;obtain⟨u,hu,e⟩:=IB.mp ht;obtain⟨c,hc,rfl⟩:=ic hu;refine⟨c,hc,fun q=>?_⟩;rw[if_pos (show hW ([c].headD 0)=true from q)]at e;cases e
  ·rintro ⟨c,hc,hn⟩;have:[c]∈((bo x).filterMap fun t=>if hW (t.headD 0)=true then none else some t):=IB.mpr ⟨[c],Fh.mpr ⟨c,hc,rfl⟩,if_neg hn⟩;have:=Kw this;omega
 ·rw[if_pos (by simp[z];omega),decide_eq_false z,KS];rfl
theorem wF(hn:1<=(NW s x).length)(hw:(NW s x).length<=100)(most:Int):∃b,(((bI (NW s x)<|fun(a62:Int)=>EK<|dX a62).bind fun y71=>xF y71).bind fun y72=>EK<|decide<|most<y72)=.ok b/\((bI (NW s x)<|fun(a24:Int)=>EK<|decide<|most<dX a24).bind fun y33=>EK<|y33.any id)=.ok b:=by
 have hl:(NW s x).length<=100000:=by omega
 rw[cF (g:=fun a=>dX a) hl<|fun _ _=>rfl,cF (g:=fun a=>decide<|most<dX a) hl<|fun _ _=>rfl,EF,EF];obtain⟨m,e,h1,h2⟩:=yM (l:=(NW s x).map fun a=>dX a) (fun z=>by have:=congrArg GC z;simp at this;rw[this]at hn;simp at hn);rw[e,EF];refine⟨_,rfl,?_⟩;congr 1;rw[Gm,decide_eq_true_iff,Jd];constructor
 ·rintro ⟨b,hb,hb2⟩;obtain⟨a,ha,rfl⟩:=Fh.mp hb;have:=h2 _<|Fh.mpr ⟨a,ha,rfl⟩;have:most<dX a:=of_decide_eq_true hb2;omega
 ·intro hm;obtain⟨a,ha,e⟩:=Fh.mp h1;exact⟨_,Fh.mpr ⟨a,ha,rfl⟩,decide_eq_true (by rw[e];exact hm)⟩
theorem wG(h:StOk w s)(hw0:1<=w)(hw:w<=100)(hl:x.length=w):∃T R:Sp,w6 s.1 x=.ok T/\cj AG (s.1.zip<|bo x) s.2.2.2=.ok R/\
    ((((bI (R.map (·.1))<|fun(a154:Tx)=>getD R a154).bind fun y164=>vZ y164).bind fun y165=>EK<|decide<|y165< (0:Int))=.ok true/\x5 s.2.2.2 T=.err 6\/
     (((bI (R.map (·.1)) (fun(a154:Tx)=>getD R a154)).bind fun y164=>vZ y164).bind fun y165=>EK (decide (y165<(0:Int))))=.ok false/\x5 s.2.2.2 T=.ok R/\(ky R).Nodup/\(∀p∈R,0<=p.2)/\R.length<=100):=by
  have hL:=yK h.card x;rw[h.len]at hL;obtain⟨T,eT,t1,t2,t3,t4,_⟩:=qf (lA s.1 x) [] My (by simp;omega);obtain⟨R,eR,r1,r2,r3,r4,r5⟩:=qf ((lA s.1 x).map fun p=>(p.1, -p.2)) s.2.2.2 h.nd (by have:=h.sm;simp;omega);have kyn:ky ((lA s.1 x).map fun p=>(p.1, -p.2))=ky (lA s.1 x):=by unfold ky;rw[IU];rfl
  have tz:∀p∈T,p.2=je (lA s.1 x) p.1:=fun p hp=>by
    have:=fU t1 hp;rw[t2]at this;have g0:bT ([]:Sp) p.1 0=0:=rfl;omega
  have tk:∀k,k∈ky T↔k∈ky (lA s.1 x):=fun k=>by rw[t3];simp[ky]
  have klen:∀k∈ky (lA s.1 x),k.length<=100:=fun k hk=>by
    obtain⟨p,hp,rfl⟩:=Fh.mp hk;exact(rA p hp).2
  have tp:∀p∈T,0<p.2/\p.1.length<=100:=fun p hp=>by
    have hk:p.1∈ky (lA s.1 x):=(tk _).mp (Fh.mpr ⟨p,hp,rfl⟩);exact⟨by rw[tz p hp];exact wo (fun q hq=>(rA q hq).1) hk,klen _ hk⟩
  have rz:∀k,bT R k 0=bT s.2.2.2 k 0-je (lA s.1 x) k:=fun k=>by rw[r2,wq];omega
  have vs:bI (R.map (·.1)) (fun(a154:Tx)=>getD R a154)=.ok (R.map (·.2)):=by
    have e1:bI (R.map (·.1)) (fun(a154:Tx)=>getD R a154)=.ok ((R.map (·.1)).map fun k=>bT R k 0):=cF (by have:=h.sm;simp at r4 ⊢;show _<=100000;omega) fun k hk=>by
      obtain⟨v,hv⟩:=look_mem.mp (show k∈ky R from hk);unfold getD bT;rw[hv];rfl
    rw[e1,IU];congr 1;exact Ip fun p hp=>fU r1 hp
  have hc:∃k,k∈ky (lA s.1 x):=by
    obtain⟨t,ts,e1⟩:∃t ts,s.1=t::ts:=by
      cases q:s.1 with
      |nil=>have:=h.len;rw[q]at this;simp at this;omega
      |cons t ts=>exact⟨t,ts,rfl⟩
    obtain⟨c,cx,e2⟩:∃c cx,x=c::cx:=by
      cases q:x with
      |nil=>rw[q]at hl;simp at hl;omega
      |cons t ts=>exact⟨t,ts,rfl⟩
    have f4:=(h.card t (by rw[e1];simp)).four;obtain⟨a,b,c',d,e3⟩:=four f4;refine⟨[a],Fh.mpr ⟨([a],tN c),?_,rfl⟩⟩;unfold lA;rw[e1,e2,List.zip_cons_cons,LQ];refine Gy _ ?_;rw[e3];simp
  have hRn:0<(R.map (·.2)).length:=by
    obtain⟨k,hk⟩:=hc;have:k∈ky R:=(r3 k).mpr (.inr (by rw[kyn];exact hk));unfold ky at this;have:=Kw this;simpa using this
  rw[wA,yL];refine⟨T,R,eT,eR,?_⟩;rw[vs,EF,show vZ (R.map (·.2))=.ok (tu (R.map (·.2)))from bA hRn,EF];have sm:=h.sm;unfold x5 CG;by_cases good:∀p∈T,p.2<=bT s.2.2.2 p.1 0
  · right;obtain⟨D,eD,d1,d2⟩:=oV T s.2.2.2 t1 h.nd (by omega) tp good;have inS:∀k∈ky (lA s.1 x),je (lA s.1 x) k<=bT s.2.2.2 k 0/\k∈ky s.2.2.2:=fun k hk=>by
      obtain⟨p,hp,rfl⟩:=Fh.mp<|(tk k).mpr hk;have g1:=good p hp;have g2:=(tp p hp).1;refine⟨by rw[<-tz p hp];exact g1,Gj fun z=>?_⟩;rw[gi z]at g1;omega
    have kR:ky R=ky s.2.2.2:=r5 fun p hp=>by
      obtain⟨q,hq,rfl⟩:=Fh.mp hp;exact(inS q.1<|Fh.mpr ⟨q,hq,rfl⟩).2
    have eq:D=R:=wk (by rw[d1];exact h.nd) (d1.trans kR.symm) fun k=>by
      rw[d2,rz];have:bT T k 0=je (lA s.1 x) k:=by rw[t2];show 0+_=_;omega
      rw[this]
    have nn:∀p∈R,0<=p.2:=fun p hp=>by
      have g1:=fU r1 hp;rw[rz]at g1;have kp:p.1∈ky s.2.2.2:=by rw[<-kR];exact Fh.mpr ⟨p,hp,rfl⟩
      obtain⟨q,hq,eq⟩:=Fh.mp kp;have g2:=fU h.nd hq;have g3:=h.nn q hq;have eq:q.1=p.1:=eq;rw[eq]at g2;by_cases z:p.1∈ky (lA s.1 x)
      · have:=(inS _ z).1;omega
      · rw[wt z]at g1;omega
    have lR:R.length=s.2.2.2.length:=by
      have:=congrArg GC kR;unfold ky at this;simpa using this
    refine⟨?_,by rw[eD,EF,eq],by rw[kR];exact h.nd,nn,by omega⟩;congr 1;rw[decide_eq_false_iff_not];obtain⟨p,hp,e⟩:=Fh.mp<|oQ hRn;have:=nn p hp;omega
  · left;have bad:∃p∈T,bT s.2.2.2 p.1 0<p.2:=by
      refine Gj fun z=>good fun p hp=>?_;refine Gj fun y=>z ⟨p,hp,by omega⟩
    refine⟨?_,by rw[mT T s.2.2.2 t1 h.nd (by omega) tp bad];rfl⟩;obtain⟨p,hp,hlt⟩:=bad;congr 1;rw[decide_eq_true_iff];have hk:p.1∈ky (lA s.1 x):=(tk _).mp (Fh.mpr ⟨p,hp,rfl⟩);have:p.1∈ky R:=(r3 p.1).mpr (.inr (by rw[kyn];exact hk));obtain⟨q,hq,e⟩:=Fh.mp this;have e:q.1=p.1:=e;have g1:=fU r1 hq;rw[rz,e,<-tz p hp]at g1;have:=rh (Fh.mpr ⟨q,hq,rfl⟩:q.2∈R.map (·.2));omega
end
abbrev BX:Tx:=[114,111,119]
abbrev BY:Tx:=[102,108,105,112]
def rowD(x:Tx):Dat:=.t [.s BX,.s x]
def flipD(k:Int):Dat:=.t [.s BY,.i k]
abbrev BZ:Tx:=[66,97,100,82,111,119]
abbrev wH:Tx:=[84,111,111,84,105,103,104,116]
abbrev C0:Tx:=[83,112,111,111,108,68,114,121]
def stg(s:STT)(d:Dat)(p:Option (List Pl)):eM:=(d,s.1,s.2.1,s.2.2.1,s.2.2.2,p)
theorem wI{w:Nat}(hw0:1<=w)(hw:w<=100){s:STT}(h:StOk w s){x:Tx}(hx:x.length<=1000)(most:Int)(d:Dat)(p:Option (List Pl)):
  (rj s x most=.ok (.inl BZ)/\rl (stg s d p) x most=.err 1)\/(rj s x most=.ok (.inl wH)/\rl (stg s d p) x most=.err 5)\/(rj s x most=.ok (.inl C0)/\rl (stg s d p) x most=.err 6)\/
  ∃s',rj s x most=.ok (.inr s')/\rl (stg s d p) x most=.ok (stg s' (rowD x)<|some<|jP s'.1 x)/\StOk w s'/\Turns x:=by
 unfold rj CA rl CK;rw[Aq h hw hx];have er:wZ x ((stg s d p).2.1.length:Int)=.ok (oY x w):=by rw[show(stg s d p).2.1.length=w from h.len];exact tL (by omega) w
 rw[er,EF,EF,EF];cases hr:oY x w with
 |false=>exact .inl ⟨rfl,rfl⟩
 |true=>
  obtain⟨hl,ht⟩:=qg hr;rw[show(!true)=false from rfl,if_neg (by decide),if_neg (by decide),Am h hw ht hl,EF];rw[show bI ((stg s d p).2.2.1.zip ((stg s d p).2.1.zip (bo x))) (fun(a7:Int×Cd×Tx)=>(oR a7.2.1 a7.2.2).bind fun y18=>EK<|a7.1+y18)=EK (NW s x)from An h hw ht hl,EF];have nl:=wB h hl;obtain⟨b,e1,e2⟩:=wF (s:=s) (x:=x) (by omega) (by omega) most;rw[e1,e2,EF,EF];cases b with
  |true=>exact .inr<|.inl ⟨rfl,rfl⟩
  |false=>
   rw[if_neg (by decide),if_neg (by decide)];obtain⟨T,R,eT,eR,hTR⟩:=wG h hw0 hw hl;rw[eR,EF,show w6 (stg s d p).2.1 x=EK T from eT,EF,show(stg s d p).2.2.2.2.1=s.2.2.2 from rfl];rcases hTR with⟨g1,g2⟩|⟨g1,g2,g3,g4,g5⟩
   ·rw[g1,g2,EF];exact .inr<|.inr<|.inl ⟨rfl,rfl⟩
   ·rw[g1,g2,EF,if_neg (by decide),zm h hw hl,EF,Ao h hw ht hl,EF,EF,EF];refine .inr<|.inr<|.inr ⟨(CW s x,NW s x,FW s x,R),rfl,?_,⟨wD h hl,rC h,nl,Al h hl,g3,g4,g5⟩,ht⟩;rw[show bI ((stg s d p).2.2.2.1.zip (NW s x)) (fun(a45:Int×Int)=>EK (if dX a45.2>a45.1 then dX a45.2 else a45.1))=EK (FW s x)from zm h hw hl,EF,show bI ((stg s d p).2.1.zip (bo x)) (fun(a61:Cd×Tx)=>w8 a61.1 a61.2)=EK (CW s x)from Ap h hw ht hl,EF,BW h hw ht hl,EF];rfl
def Nu(i:Int):Prop:=(-100<=i/\i<100)\/i=100000000000000000000
theorem tO:∀n:Nat,n<200->(sM<|(n:Int)-100).length<=30/\((n:Int)-100).natAbs.log2<1920:=by decide +kernel
theorem yN:(sM 100000000000000000000).length<=30/\(100000000000000000000:Int).natAbs.log2<1920:=by decide +kernel
theorem Nu.num{i:Int}(h:Nu i):(sM i).length<=30/\i.natAbs.log2<1920:=by
 rcases h with⟨h0,h1⟩|rfl
 ·have:=tO (i+100).toNat (by omega);rw[show(((i+100).toNat:Nat):Int)-100=i by omega]at this;exact this
 ·exact yN
def jQ(s:STT)(k:Int):STT:=(s.1.set k.toNat<|jO<|s.1[k.toNat]?.getD ([],[],0),s.2.1,s.2.2.1,s.2.2.2)
theorem p4{w:Nat}{s:STT}(h:StOk w s)(k:Int)(h0:0<=k)(h1:k<w):StOk w (jQ s k)/\∃t,Card t/\gz s.1 k=.ok t/\jV s.1 k (jO t)=.ok (jQ s k).1:=by
 have hk:k<s.1.length:=by rw[h.len];exact h1
 obtain⟨t,e1,e2⟩:=f6 h0 hk;have hc:=h.card t<|FL e2;refine⟨⟨by unfold jQ;simp[h.len],fun u hu=>?_,h.now,h.far,h.nd,h.nn,h.sm⟩,t,hc,e1,?_⟩
 ·unfold jQ at hu;rcases List.mem_or_eq_of_mem_set hu with z|z
  ·exact h.card u z
  ·rw[z,e2,HJ];exact hc.flip
 ·rw[xT h0 hk];unfold jQ;rw[e2,HJ]
theorem wJ{w:Nat}{s:STT}(h:StOk w s){k:Int}(n:Nu k)(hk:k<0\/(w:Int)<=k):wa s.1 k=.err 7:=by
 have hn:=n.num;unfold wa BE;have:(if decide (k<0)=true then EK true else EK (decide<|(s.1.length:Int)<=k))=EK true:=by
  by_cases z:k<0;·rw[if_pos (by simpa using z)]
  ·rw[if_neg (by simpa using z),h.len,decide_eq_true (by omega)]
 rw[this,EF,if_pos rfl,cH (by simp),EF,show A1 k=.ok (sM k)from bA hn.2,EF,cH (by simp;omega),EF,EF,show vj _=EK _ from bA (by unfold cap;simp;omega),EF]
theorem wK{w:Nat}{s:STT}(h:StOk w s){k:Int}(h0:0<=k)(h1:k<w):wa s.1 k=.ok ():=by
 unfold wa BE;rw[if_neg (by simp;omega),EF,if_neg (by rw[h.len];simp;omega)]
theorem yO{w:Nat}{s:STT}(h:StOk w s){k:Int}(n:Nu k)(d:Dat)(p:Option (List Pl)):((k<0\/(w:Int)<=k)/\tW (stg s d p) k=.err 7)\/((0<=k/\k<w)/\tW (stg s d p) k=.ok (stg (jQ s k) (flipD k) none)):=by
 unfold tW CM;rw[show(stg s d p).2.1=s.1 from rfl];by_cases z:k<0\/(w:Int)<=k;·left;exact⟨z,by rw[wJ h n z];rfl⟩
 ·right;have hk:0<=k/\k<w:=by omega
  refine⟨hk,?_⟩;obtain⟨_,t,hc,e1,e2⟩:=p4 h k hk.1 hk.2;rw[wK h hk.1 hk.2,EF,e1,EF,qi hc,EF,e2,EF];rfl
abbrev EN:=STT×Dat
abbrev C1:Tx:=[117,110,100,111]
abbrev C2:Tx:=[114,101,100,111]
abbrev tP:Tx:=[114,101,102,117,115,101,100]
abbrev p5:Tx:=[116,111,108,100]
def beginD:Dat:=.t [.s [98,101,103,105,110],.i 0]
def rD:Dat:=.t [.s C1,.i 0]
def rE:Dat:=.t [.s C2,.i 0]
def Df(p:Pl):Dat:=.t [.s p.1,.s p.2.1,.s p.2.2]
def yP(l:List Pl):Dat:=.l<|l.map Df
def gB(d:Dat):Dat:=.t [.s p5,d]
def i0(n:Tx):Dat:=.t [.s tP,.l [.s n]]
abbrev rF:Tx:=[78,111,116,104,105,110,103,76,101,102,116]
abbrev C3:Tx:=[78,111,84,97,98,108,101,116]
def C4:Dat->Option Tx
 | .t [.s t,.s x]=>if t=BX then some x else none
 |_=>none
def C5(e:EN):Option (List Pl):=(C4 e.2).map (jP e.1.1)
def sgOf(e:EN):eM:=stg e.1 e.2<|C5 e
structure IsE(w:Nat)(e:EN):Prop where
 st:StOk w e.1
 de:(∃x,e.2=rowD x/\Turns x)\/∃k,e.2=flipD k
structure Sim(w:Nat)(most:Int)(n:Nat)(L:Z02)(st und:List EN):Prop where
 ex:∃s0 tl,st=(s0,beginD)::tl/\StOk w s0/\(∀e∈tl,IsE w e)/\L=(most,stg s0 .n none,tl.map sgOf,und.map sgOf)/\tl.length+und.length<=n
 un:∀e∈und,IsE w e
theorem IsE.le{w:Nat}{e:EN}(h:IsE w e):e.2.le 20:=by
 rcases h.de with⟨x,e1,_⟩|⟨k,e1⟩
 ·rw[e1];unfold rowD;simp[Lu]
 ·rw[e1];unfold flipD;simp[Lu]
theorem jR:∀(n:Nat)(d:Dat),d.le n->d.le (n+1)
 |0,d,h=>by
  cases d with
  |t xs=>exact h.elim
  |l xs=>exact h.elim
  |_=>trivial
 |n+1,d,h=>by
  cases d with
  |t xs=>exact fun x hx=>jR n x<|h x hx
  |l xs=>exact fun x hx=>jR n x<|h x hx
  |_=>trivial
theorem nK{d:Dat}(h:d.le 20):(gB d).le 24:=by
 have h1:=jR 22 d<|jR 21 d<|jR 20 d h;unfold gB;show ∀x∈[G5 p5,d],Lu 23 x;intro x hx;rcases F9.mp hx with rfl|hx
 ·trivial
 ·rw[GU.mp hx];exact h1
theorem Ar(l:List Pl):(yP l).le 20:=by
 unfold yP;show ∀x∈l.map Df,Lu 19 x;intro x hx;obtain⟨p,_,rfl⟩:=Fh.mp hx;unfold Df;simp[Lu]
theorem mU{α:Type}(a:α)(l:List α):∃b,gz (a::l) (-(1:Int))=.ok b/\(a::l)[l.length]? =some b/\(l=[]->b=a)/\(l≠[]->l[l.length-1]? =some b):=by
 have hb:(a::l)[l.length]? =some (a::l)[l.length]:=FQ (by simp);refine⟨_,?_,hb,fun z=>by subst z;rfl,fun z=>?_⟩
 ·unfold gz sq;have:ixN (a::l).length (-(1:Int))=some l.length:=by
   unfold ixN;rw[if_neg (by decide),if_pos (by simp;omega)];congr 1;simp;omega
  rw[this];show fM ((a::l)[l.length]?)=_;rw[hb];rfl
 ·cases l with
  |nil=>exact absurd rfl z
  |cons c l=>simp
theorem jf{w:Nat}{most:Int}{n:Nat}{L:Z02}{st und:List EN}(S:Sim w most n L st und):∃s d d' p,gz st (-(1:Int))=.ok (s,d')/\fJ L=.ok (stg s d p)/\StOk w s:=by
 obtain⟨s0,tl,rfl,h0,h1,rfl,_⟩:=S.ex;obtain⟨b,e1,e2,e3,e4⟩:=mU (s0,beginD) tl;unfold fJ Bz;cases tl with
 |nil=>
  have:b=(s0,beginD):=e3 rfl;subst this;exact⟨s0,.n,beginD,none,e1,rfl,h0⟩
 |cons e tl=>
  have hb:=e4 (by simp);have he:=h1 b<|FL hb;refine⟨b.1,b.2,b.2,C5 b,e1,?_,he.st⟩;rw[if_pos (by rfl)];obtain⟨c,f1,f2,_,_⟩:=mU (sgOf e)<|tl.map sgOf;show gz (sgOf e::tl.map sgOf) (-(1:Int))=_;rw[f1];have:(sgOf e::tl.map sgOf)[(tl.map sgOf).length]? =some (sgOf b):=by
   rw[<-FZ,G4,Fz];have:(e::tl)[tl.length]? =some b:=by simpa using hb
   rw[this];rfl
  rw[this]at f2;cases f2;rfl
theorem p6{L:Z02}{g:eM}(h:L.2.2.1.length<=1000):nJ L [g]=.ok ((L.1,L.2.1,L.2.2.1++[g],[]),()):=by
 unfold nJ BC;rw[if_pos (show(![g].isEmpty)=true from rfl),show yb L.2.2.1 [g]=.ok (L.2.2.1++[g])from bA (by show _<=100000;simp;omega),EF,EF]
theorem iy(n:Tx):(i0 n).le 24:=by unfold i0;simp[Lu]
theorem Sim.app{w:Nat}{most:Int}{n:Nat}{L:Z02}{st und:List EN}(S:Sim w most n L st und){e:EN}(h:IsE w e):Sim w most (n+1) (L.1,L.2.1,L.2.2.1++[sgOf e],[]) (st++[e]) []:=by
 obtain⟨s0,tl,rfl,h0,h1,rfl,h2⟩:=S.ex;refine⟨⟨s0,tl++[e],rfl,h0,fun x hx=>?_,by simp,by simp;omega⟩,fun _ z=>(nomatch z)⟩;rcases GF.mp hx with z|z;·exact h1 x z
 ·rw[GU.mp z];exact h
theorem Sim.up{w:Nat}{most:Int}{n:Nat}{L:Z02}{st und:List EN}(S:Sim w most n L st und):Sim w most (n+1) L st und:=by
 obtain⟨s0,tl,a,b,c,d,e⟩:=S.ex;exact⟨⟨s0,tl,a,b,c,d,by omega⟩,S.un⟩
theorem Sim.len{w:Nat}{most:Int}{n:Nat}{L:Z02}{st und:List EN}(S:Sim w most n L st und):L.1=most/\L.2.2.1.length<=n/\L.2.2.2.length<=n/\st.length<=n+1/\und.length<=n:=by
 obtain⟨s0,tl,rfl,b,c,rfl,e⟩:=S.ex;simp;omega
abbrev nL(w:Nat)(most:Int)(n:Nat)(L:Z02)(st und:List EN)(d:Dat):Prop:=∃L' st' und' r,mQ st und d most=.ok ((st',und'),r)/\mR L d=.ok (L',r)/\Sim w most (n+1) L' st' und'/\r.le 24
section
variable{w:Nat}{most:Int}{n:Nat}{L:Z02}{st und:List EN}
theorem yQ(hw0:1<=w)(hw:w<=100)(hn:n<=900)(S:Sim w most n L st und){x:Tx}(hx:x.length<=1000):nL w most n L st und (rowD x):=by
 obtain⟨s,d,d',p,e1,e2,hs⟩:=jf S;obtain⟨l1,l2,l3,l4,l5⟩:=S.len;have hdo:mQ st und (rowD x) most=(rj s x most).bind fun y74=>if(y74).isLeft then((((fM (y74).getLeft?).bind fun y79=>EK [y79]).bind fun y80=>EK ((tP:Tx),y80)).bind fun y81=>EK<|(fun(z:Tx×(List Tx))=>Ho [G5 z.1,J7<|z.2.map fun(z:Tx)=>G5 z]) y81).bind fun y82=>EK ((st,und),y82)else(((fM (y74).getRight?).bind fun y83=>EK (y83,rowD x)).bind fun y84=>en st y84).bind fun y85=>(EK ([]:List EN)).bind fun y88=>(((((fM (y74).getRight?).bind fun y91=>EK y91.1).bind fun y93=>((EK<|G5 x).bind fun y92=>fM<|pP y92).bind fun y94=>lN y93 y94).bind fun y95=>EK ((p5:Tx),y95)).bind fun y96=>EK<|(fun(z:Tx×(List Pl))=>Ho [G5 z.1,J7<|z.2.map fun(z:Pl)=>Ho [G5 z.1,G5 z.2.1,G5 z.2.2]]) y96).bind fun y97=>EK ((y85,y88),y97):=by
  unfold mQ zh;rw[e1,EF,EF];rfl
 have htr:mR L (rowD x)=(JN<|(w9 L x).bind fun r=>EK (r.1,yP r.2)).bind fun r5=>match r5 with| .inr j7=>EK (L,lG tP j7)| .inl y6=>EK (y6.1,gB y6.2):=by
  unfold mR zj;rfl
 have hwv:w9 L x=(rl (stg s d p) x most).bind fun y4=>(nJ L [y4]).bind fun y9=>(fM y4.2.2.2.2.2).bind fun y10=>EK (y9.1,y10):=by
  unfold w9 BD;rw[e2,EF,l1]
 unfold nL;rw[hdo,htr,hwv];rcases wI hw0 hw hs hx most d p with⟨a1,a2⟩|⟨a1,a2⟩|⟨a1,a2⟩|⟨s',a1,a2,hs',ht⟩
 ·rw[a1,a2];exact⟨L,st,und,i0 BZ,rfl,rfl,S.up,iy _⟩
 ·rw[a1,a2];exact⟨L,st,und,i0 wH,rfl,rfl,S.up,iy _⟩
 ·rw[a1,a2];exact⟨L,st,und,i0 C0,rfl,rfl,S.up,iy _⟩
 ·rw[a1,a2];have hE:IsE w (s',rowD x):=⟨hs',.inl ⟨x,rfl,ht⟩⟩
  refine⟨_,st++[(s',rowD x)],[],gB<|yP<|jP s'.1 x,?_,?_,S.app hE,?_⟩
  ·show(en st (s',rowD x)).bind _=_;rw[fQ (by omega),EF,EF];show((((lN s'.1 x).bind _).bind _).bind _)=_;rw[rB hs'.card ht (by rw[hs'.len];omega)];rfl
  ·rw[EF,p6 (by omega)];rfl
  ·exact nK<|Ar _
theorem wL(hn:n<=900)(S:Sim w most n L st und){k:Int}(hk:Nu k):nL w most n L st und (flipD k):=by
 obtain⟨s,d,d',p,e1,e2,hs⟩:=jf S;obtain⟨l1,l2,l3,l4,l5⟩:=S.len;have hdo:mQ st und (flipD k) most=((EK<|decide<|k<(0:Int)).bind fun y44=>if y44 then EK true else EK (decide<|(s.1.length:Int)<=k)).bind fun y45=>if y45 then EK ((st,und),i0 C3)else(((gz s.1 k).bind fun y53=>w5 y53).bind fun y55=>jV s.1 k y55).bind fun y57=>(en st ((y57,s.2.1,s.2.2.1,s.2.2.2),flipD k)).bind fun y64=>(EK ([]:List EN)).bind fun y67=>EK ((y64,y67),gB .n):=by
  unfold mQ zh;rw[e1,EF,EF];rfl
 have htr:mR L (flipD k)=(JN<|(wb L k).bind fun r=>EK (r.1,Mz)).bind fun r5=>match r5 with| .inr j7=>EK (L,lG tP j7)| .inl y6=>EK (y6.1,gB y6.2):=by
  unfold mR zj;rfl
 have hfl:wb L k=((((tW (stg s d p) k).bind fun y2=>EK [y2]).bind fun y6=>EK (y6,())).bind fun a7=>nJ L a7.1).bind fun y5=>EK (y5.1,()):=by
  unfold wb BF;rw[e2,EF]
 unfold nL;rw[hdo,htr,hfl];rcases yO hs hk d p with⟨z,a⟩|⟨z,a⟩
 ·rw[a];have:((EK<|decide<|k<(0:Int)).bind fun y44=>if y44 then EK true else EK (decide<|(s.1.length:Int)<=k))=EK true:=by
   rw[EF,hs.len];by_cases y:k<0;·rw[if_pos (by simpa using y)]
   ·rw[if_neg (by simpa using y),decide_eq_true (by omega)]
  rw[this,EF,if_pos rfl];exact⟨L,st,und,i0 C3,rfl,rfl,S.up,iy _⟩
 ·rw[a];obtain⟨hf,t,hc,f1,f2⟩:=p4 hs k z.1 z.2;have:((EK<|decide<|k<(0:Int)).bind fun y44=>if y44 then EK true else EK (decide<|(s.1.length:Int)<=k))=EK false:=by
   rw[EF,if_neg (by simp;omega),hs.len,decide_eq_false (by omega)]
  have hE:IsE w (jQ s k,flipD k):=⟨hf,.inr ⟨k,rfl⟩⟩
  refine⟨_,st++[(jQ s k,flipD k)],[],gB .n,?_,?_,S.app hE,by unfold gB;simp[Lu]⟩
  ·rw[this,EF,if_neg (by decide),f1,EF,oZ hc,EF,f2,EF,fQ (by omega)];rfl
  ·rw[EF,EF,EF,p6 (by omega)];rfl
theorem iz{α:Type}(l:List α)(a:α):j0 (l++[a])=.ok (a,l):=by
 unfold j0;have:(l++[a])[(l++[a]).length-1]? =some a:=by simp
 rw[this,List.dropLast_concat]
theorem rG{α:Type}{l:List α}(h:l≠[]):∃i a,l=i++[a]:=⟨l.dropLast,l.getLast h,(List.dropLast_concat_getLast h).symm⟩
theorem mV{α:Type}(l:List α)(a:α):gz (l++[a]) (-(1:Int))=.ok a:=by
 unfold gz sq;have:ixN (l++[a]).length (-(1:Int))=some l.length:=by
  unfold ixN;rw[if_neg (by decide),if_pos (by simp;omega)];congr 1;simp;omega
 rw[this];simp[fM]
theorem wM(hn:n<=900)(S:Sim w most n L st und):nL w most n L st und rD:=by
 obtain⟨s,d,d',p,e1,e2,hs⟩:=jf S;obtain⟨l1,l2,l3,l4,l5⟩:=S.len;have hdo:mQ st und rD most=if(decide<|(st.length:Int)=(1:Int))then EK ((st,und),i0 rF)else((j0 st).bind fun b=>(en und b.1).bind fun c=>EK (c,b.2)).bind fun y14=>((((gz y14.1<|-(1:Int)).bind fun y17=>EK y17.2).bind fun y18=>EK ((p5:Tx),y18)).bind fun y19=>EK<|Ho [G5 y19.1,y19.2]).bind fun y20=>EK ((y14.2,y14.1),y20):=by
  unfold mQ zh;rw[e1,EF,EF];rfl
 have htr:mR L rD=(JN<|(x8 L).bind fun r=>EK (r.1,r.2)).bind fun r5=>match r5 with| .inr j7=>EK (L,lG tP j7)| .inl y6=>EK (y6.1,gB y6.2):=by
  unfold mR zj;rfl
 unfold nL;rw[hdo,htr];unfold x8 BG;obtain⟨s0,tl,rfl,h0,h1,rfl,h2⟩:=id S.ex;by_cases z:tl=[]
 ·subst z;rw[if_pos (by simp),if_pos (by rfl)];exact⟨_,_,und,i0 rF,rfl,rfl,S.up,iy _⟩
 ·obtain⟨i,a,rfl⟩:=rG z;have ha:=h1 a (by simp);rw[if_neg (by simp;omega),if_neg (by simp)];simp only[Fn,Ia]at h2;refine⟨(most,stg s0 .n none,i.map sgOf,und.map sgOf++[sgOf a]),(s0,beginD)::i,und++[a],gB a.2,?_,?_,⟨⟨s0,i,rfl,h0,fun e he=>h1 e (by simp[he]),by simp,by simp;omega⟩,fun e he=>?_⟩,nK ha.le⟩
  ·rw[show(s0,beginD)::(i++ [a])=((s0,beginD)::i)++ [a]from rfl,iz,EF,fQ (by omega),EF,EF,mV];rfl
  ·rw[show((most,stg s0 Mz none,(i++ [a]).map sgOf,und.map sgOf):Z02).2.2.1=i.map sgOf++ [sgOf a]from by simp,iz,EF,EF];show(JN<|(((en (und.map sgOf)<|sgOf a).bind _).bind _).bind _).bind _=_;rw[fQ (by simp;omega)];rfl
  ·rcases GF.mp he with y | y;·exact S.un e y
   ·rw[GU.mp y];exact ha
theorem wO(hn:n<=900)(S:Sim w most n L st und):nL w most n L st und rE:=by
 obtain⟨s,d,d',p,e1,e2,hs⟩:=jf S;obtain⟨l1,l2,l3,l4,l5⟩:=S.len;have hdo:mQ st und rE most=if und.isEmpty then EK ((st,und),i0 rF)else((j0 und).bind fun b=>(en st b.1).bind fun c=>EK (c,b.2)).bind fun y28=>((((gz y28.1<|-(1:Int)).bind fun y31=>EK y31.2).bind fun y32=>EK ((p5:Tx),y32)).bind fun y33=>EK<|Ho [G5 y33.1,y33.2]).bind fun y34=>EK ((y28.1,y28.2),y34):=by
  unfold mQ zh;rw[e1,EF,EF];rfl
 have htr:mR L rE=(JN<|(x9 L).bind fun r=>EK (r.1,r.2)).bind fun r5=>match r5 with| .inr j7=>EK (L,lG tP j7)| .inl y6=>EK (y6.1,gB y6.2):=by
  unfold mR zj;rfl
 unfold nL;rw[hdo,htr];unfold x9 BH;obtain⟨s0,tl,rfl,h0,h1,rfl,h2⟩:=id S.ex;by_cases z:und=[]
 ·subst z;rw[if_pos (by rfl),if_pos (by rfl)];exact⟨_,_,[],i0 rF,rfl,rfl,S.up,iy _⟩
 ·obtain⟨i,a,rfl⟩:=rG z;have ha:=S.un a (by simp);rw[if_neg (by simp),if_neg (by simp)];simp only[Fn,Ia]at h2 l5;refine⟨(most,stg s0 .n none,tl.map sgOf++[sgOf a],i.map sgOf),(s0,beginD)::(tl++[a]),i,gB a.2,?_,?_,⟨⟨s0,tl++[a],rfl,h0,fun e he=>?_,by simp,by simp;omega⟩,fun e he=>S.un e (by simp[he])⟩,nK ha.le⟩
  ·rw[iz,EF,fQ (by simp at l4 ⊢;omega),EF,EF,show((s0,beginD)::tl)++ [a]=((s0,beginD)::tl)++ [a]from rfl,mV];rfl
  ·rw[show((most,stg s0 Mz none,tl.map sgOf,(i++ [a]).map sgOf):Z02).2.2.2=i.map sgOf++ [sgOf a]from by simp,iz,EF,EF];show(JN<|(((en (tl.map sgOf)<|sgOf a).bind _).bind _).bind _).bind _=_;rw[fQ (by simp;omega)];rfl
  ·rcases GF.mp he with y | y;·exact h1 e y
   ·rw[GU.mp y];exact ha
end
theorem qj{n:Nat}{i:Int}(h:i∈fW (n:Int)):0<=i/\i<n:=by
 unfold fW at h;obtain⟨k,hk,rfl⟩:=Fh.mp h;have:=JA.mp hk;omega
theorem rH{α γ:Type}{f:α->Unit->Res (Fl γ Unit)}(xs:List α)(h:∀a∈xs,f a ()=.ok (.nx ())):iD f xs ()=.ok (.nx ()):=by
 obtain⟨s,e,_⟩:=ou (f:=f) (fun _ _=>True) xs () trivial fun pre a post s e _=>⟨(),h a (by rw[e];simp),trivial⟩
 exact e
section
variable{w:Nat}{most:Int}{n:Nat}{L:Z02}{st und:List EN}
theorem qk(hw:w<=100)(hn:n<=900)(S:Sim w most n L st und):qa st=.ok (st.filterMap C5):=by
 obtain⟨_,_,_,l4,_⟩:=S.len;obtain⟨s0,tl,rfl,h0,h1,_,h2⟩:=id S.ex;unfold qa BI;refine la (by omega) fun e he=>?_;rcases F9.mp he with rfl|he
 ·rfl
 ·obtain⟨s,d⟩:=e;obtain⟨hs,hd⟩:=h1 _ he;rcases hd with⟨x,e1,ht⟩|⟨k,e1⟩
  ·have e1:d=rowD x:=e1;subst e1;show((lN s.1 x).bind fun y15=>EK<|some y15)=_;rw[rB hs.card ht (by rw[hs.len];omega)];rfl
  ·have e1:d=flipD k:=e1;subst e1;rfl
theorem yR(hn:n<=900)(S:Sim w most n L st und):xb L=.ok (st.filterMap C5):=by
 obtain⟨_,l2,_,l4,_⟩:=S.len;obtain⟨s0,tl,rfl,h0,h1,rfl,h2⟩:=id S.ex;unfold xb BK;rw[la (g:=fun a:eM=>a.2.2.2.2.2) (by omega) (fun a _=>by
  cases q:a.2.2.2.2.2 with
  |none=>rfl
  |some v=>rfl)]
 show EK ((tl.map sgOf).filterMap _)=_;rw[List.filterMap_map];rfl
theorem wQ(hn:n<=900)(S:Sim w most n L st und):xc L=.ok ((st.drop 1).map (·.2)):=by
 obtain⟨_,l2,_,l4,_⟩:=S.len;obtain⟨s0,tl,rfl,h0,h1,rfl,h2⟩:=id S.ex;unfold xc BL;rw[cF (g:=fun a:eM=>a.1) (by show _<=100000;omega)<|fun a _=>rfl];show EK ((tl.map sgOf).map _)=_;rw[IU];rfl
theorem tQ(hw:w<=100)(hn:n<=900)(S:Sim w most n L st und):∃s d',gz st (-(1:Int))=.ok (s,d')/\qc L s (st.filterMap C5) ((st.drop 1).map (·.2))=.ok true:=by
 obtain⟨s,d,d',p,e1,e2,hs⟩:=jf S;refine⟨s,d',e1,?_⟩;unfold qc BQ;have a1:xa L=.ok s.1:=by unfold xa BJ;rw[e2];rfl
 rw[a1,EF,l9 rfl,EF,EF,yR hn S,EF,l9 rfl,EF,if_neg (by decide),EF,if_neg (by decide),wQ hn S,EF,EF];have hle:(J7 (((st.drop 1).map (·.2)).map fun(z:Dat)=>z)).le 24:=by
  show ∀x∈((st.drop 1).map (·.2)).map fun(z:Dat)=>z,Lu 23 x;intro x hx;rw[List.map_id']at hx;obtain⟨e,he,rfl⟩:=Fh.mp hx;obtain⟨s0,tl,rfl,h0,h1,rfl,h2⟩:=id S.ex;exact jR 22 _<|jR 21 _<|jR 20 _ (h1 e he).le
 rw[vh rfl hle,EF,EF,if_neg (by decide),kX (by rw[hs.len];show _<=100000;omega),EF];rw[rH (f:=BP rm rn L s) _ (fun a ha=>by
  obtain⟨g0,g1⟩:=qj ha;rw[hs.len]at g1;unfold BP;obtain⟨v,ev,_⟩:=f6 (xs:=s.2.1) g0 (by rw[hs.now];exact g1);obtain⟨u,eu,_⟩:=f6 (xs:=s.2.2.1) g0 (by rw[hs.far];exact g1);have t1:rm L a=.ok v:=by unfold rm BM;rw[e2];exact ev
  have t2:rn L a=.ok u:=by unfold rn BN;rw[e2];exact eu
  rw[t1,t2,ev,eu,EF,EF,l9 rfl,EF,EF,if_neg (by decide),EF,EF,l9 rfl];rfl),EF]
 show((iD (AH qb L s) _ ()).bind _)=_;rw[rH (f:=AH qb L s) _ (fun a ha=>by
  unfold AH;have t1:qb L a=.ok (bT s.2.2.2 a 0):=by unfold qb BO;rw[e2];rfl
  rw[t1,EF,l9 rfl];rfl)]
 rfl
end
def Gd(d:Sp):Prop:=(ky d).Nodup/\∀p∈d,0<=p.2
theorem yS{d:Sp}{k:Tx}{v:Int}{p:Tx×Int}(h:p∈eW d k v):p∈d\/p.2=v:=by
 unfold eW at h;split at h
 ·obtain⟨q,hq,e⟩:=Fh.mp h;by_cases z:q.1=k;·rw[if_pos z]at e;right;rw[<-e]
  ·rw[if_neg z]at e;left;rw[<-e];exact hq
 ·rcases GF.mp h with z | z;·exact .inl z
  ·right;rw[GU.mp z]
theorem Gd.put{d:Sp}(h:Gd d)(k:Tx){v:Int}(hv:0<=v):Gd (eW d k v):=⟨wm h.1 k v,fun p hp=>by
 rcases yS hp with z|z;·exact h.2 p z
 ·rw[z];exact hv⟩
def AI(i:Nat)(s:Int×Sp):Prop:=s.1=i/\Gd s.2/\s.2.length<=2*i
theorem ql{d:Sp}{k:Tx}{a:Int}(h:d.length<100000):fX d k a=.ok (eW d k a):=bA h
theorem tR{c:Int}{ds:List Int}(hd:ds.length=40)(hv:∀x∈ds,0<=x/\x<997){i:Nat}(hi:i<40){s:Int×Sp}(h:AI i s)(a:Tx):(AE c ds a s).Ok (AI<|i+1):=by
 obtain⟨h1,h2,h3⟩:=h;unfold AE;obtain⟨v,ev,hm⟩:=f6 (xs:=ds) (i:=s.1) (by omega) (by rw[hd];omega);have hv0:=(hv v<|FL hm).1;rw[ev,EF,EF,EF];have p1:=km s.2 a v;have p2:=km (eW s.2 a v) a 999999999;refine tU (MA (P:=fun d:Sp=>Gd d/\d.length<=2*(i+1)) (tU ?_) fun d hd=>okR ⟨by show s.1+1=_;omega,hd.1,hd.2⟩);have key:∀b:Bool,(if b=true then((EK v).bind fun y80=>fX s.2 a y80).bind fun y81=>(if(decide<|(c%3)=(0:Int))=true then(fX y81 a (999999999:Int)).bind fun y91=>EK y91 else EK y81:Res dv).bind fun s93=>EK s93 else EK s.2:Res dv).Ok fun d:Sp=>Gd d/\d.length<=2*(i+1):=fun b=>by
  refine D4 (fun _=>?_) fun _=>okR ⟨h2,by omega⟩;rw[EF,ql (by omega),EF];refine tU (vf (fun _=>?_) fun _=>okR (okR ⟨h2.put a hv0,by omega⟩));rw[ql (by omega),EF];exact okR (okR ⟨(h2.put a hv0).put a (by decide),by omega⟩)
 exact D4 (fun _=>okR<|key _) fun _=>okR<|key _
theorem tS{c:Int}{ds:List Int}(hd:ds.length=40)(hv:∀x∈ds,0<=x/\x<997){t:Cd}(ht:Card t){i:Nat}(hi:i+4<=40){s:Int×Sp}(h:AI i s):(AF c ds t s).Ok (AI<|i+4):=by
 unfold AF;have hl:(bo t.2.1).length=4:=by unfold bo;rw[Fz];exact ht.four
 obtain⟨s',e,hs⟩:=gW (f:=AE c ds) (fun pre(s:Int×Sp)=>AI (i+pre.length) s) (bo t.2.1) (s.1,s.2) h (by
  intro pre a post s e hs;have:pre.length<4:=by have:=congrArg GC e;rw[hl]at this;simp at this;omega
  obtain⟨s2,e2,h2⟩:=(tR (c:=c) hd hv (by omega) hs a).ex;exact⟨s2,e2,by rw[Fn];exact h2⟩)
 rw[e,EF];rw[hl]at hs;exact okR hs
theorem tT{l:List Cd}(hl:l.length<=8)(hc:∀t∈l,Card t)(c:Int):(yr l c).Ok fun d=>Gd d/\d.length<=100:=by
 unfold yr Cm;obtain⟨ds,e,hd,hv⟩:=qe (c/3) 40 997 (by decide) (by decide) (by decide);rw[show lu (c/3) 40 997=EK ds from e,EF];obtain⟨s,es,h1,h2,h3⟩:=gW (f:=AF c ds) (fun pre(s:Int×Sp)=>AI (4*pre.length) s) l (0,[]) ⟨rfl,⟨My,fun _ z=>(nomatch z)⟩,Fb _⟩ (by
  intro pre a post s e hs;have:pre.length<8:=by have:=congrArg GC e;simp at this;omega
  obtain⟨s2,e2,h2⟩:=(tS (c:=c) hd hv (hc a (by rw[e];simp)) (by omega) hs).ex;exact⟨s2,e2,by rw[Fn];exact h2⟩)
 rw[es,EF];obtain⟨v,ev,_⟩:=f6 (xs:=ds) (i:=39) (by decide) (by rw[hd];decide);obtain⟨u,eu,hm⟩:=f6 (xs:=ds) (i:=38) (by decide) (by rw[hd];decide);have hu:=hv u<|FL hm;rw[ev,eu,EF,EF,EF,EF,EF,EF,EF,EF];refine tU (D4 (fun _=>?_) fun _=>okR (okR ⟨h2,by omega⟩));rw[oq (by omega) (by omega),EF,ql (by omega),EF];have p:=km s.2 [113] (u*(if decide (0<u%3)=true then 1 else 0));exact okR (okR ⟨h2.put _ (Int.mul_nonneg hu.1 (by split<;>decide)),by omega⟩)
theorem p7{s:List Int}(hs:s.length<=63)(k n:Nat)(h:k+n<=200):(tV s (k:Int) (n:Int)).Ok fun l=>l.length=n/\∀t∈l,Card t:=by
 unfold tV Cj;rw[jA (by omega),EF];obtain⟨ys,e,hl,hp⟩:=ve (f:=fun(a1:Int)=>(iu s<|(k:Int)+a1).bind fun y9=>wX y9) (P:=fun _ t=>Card t) (xs:=(HP n).map fun(i:Nat)=>(i:Int)) (by simp;omega) (fun x hx=>by
  obtain⟨i,hi,rfl⟩:=Fh.mp hx;have:=JA.mp hi;obtain⟨c,ec⟩:=mS hs (k+i) (by omega);rw[show(k:Int)+(i:Int)=((k+i:Nat):Int)from rfl,ec,EF];exact yI c)
 rw[e];simp only[Fz,LS]at hl;refine okR ⟨hl,fun t ht=>?_⟩;obtain⟨i,hi⟩:=KN.mp ht;have:i<n:=by
  have:=(ER.mp hi).1;omega
 exact hp i (i:Int) t (by simp[this]) hi
theorem wR{s:List Int}(hs:s.length<=63):(yt s).Ok fun r=>1<=r.1.length/\r.1.length<=8/\(∀t∈r.1,Card t)/\Gd r.2.2/\r.2.2.length<=100:=by
 unfold yt Cn;obtain⟨c0,e0⟩:=mS hs 0 (by decide);obtain⟨c7,e7⟩:=mS hs 7 (by decide);obtain⟨c8,e8⟩:=mS hs 8 (by decide);rw[show iu s 0=.ok c0 from e0,show iu s 7=.ok c7 from e7,show iu s 8=.ok c8 from e8,EF,EF,EF];have z0:=G1 c0 (show(8:Int)≠0 by decide);have z1:=FD c0 (show(0:Int)<8 by decide);obtain⟨a,b,ea,eb,hab⟩:∃a b:Nat,(if(6:Int)<1+c0%8 then(6:Int)else 1+c0%8)=a/\(if(1+c0%8-(6:Int))>(0:Int)then(1+c0%8-(6:Int))else(0:Int))=b/\1<=a+b/\a+b<=8:=
  ⟨(if(6:Int)<1+c0%8 then(6:Int)else 1+c0%8).toNat,(if(1+c0%8-(6:Int))>(0:Int)then(1+c0%8-(6:Int))else(0:Int)).toNat,by split<;>omega,by split<;>omega,by split<;>split<;>omega⟩
 rw[ea,eb];refine tU<|MA (P:=fun l:List Cd=>l.length=a+b/\∀t∈l,Card t) ?_ fun l hl=>?_
 ·refine tU ((show(tV s (1:Int) (a:Int)).Ok _ from p7 hs 1 a (by omega)).imp fun x hx=>?_);refine tU ((show(tV s (60:Int) (b:Int)).Ok _ from p7 hs 60 b (by omega)).imp fun y hy=>?_);rw[xS (by omega)];refine okR ⟨by simp[hx.1,hy.1],fun t ht=>?_⟩;rcases GF.mp ht with z|z
  ·exact hx.2 t z
  ·exact hy.2 t z
 ·rw[EF];have:∃m,yq c7=.ok m:=by
   unfold yq Ck;split;·exact⟨_,rfl⟩
   ·exact⟨_,rfl⟩
  obtain⟨m,em⟩:=this;rw[em,EF,EF];exact tU ((tT (by omega) hl.2 c8).imp fun d hd=>okR ⟨by show 1<=l.length;omega,by show l.length<=8;omega,hl.2,hd.1,hd.2⟩)
theorem yT(c:Int):∃k,yx c=.ok [k]:=by
 unfold yx Cq;rw[cH (by decide),EF];obtain⟨k,e,_⟩:=iW (x:=(([32,33,34,35,36,38,39,40,41,42,43,44,45,46,47,48,49,50,51,52,53,54,55,56,57,58,59,60,61,62,63,64,65,66,67,68,69,70,71,72,73,74,75,76,77,78,79,80,81,82,83,84,85,86,87,88,89,90,91,92,93,94,95,96]:Tx)++([97,98,99,100,101,102,103,104,105,106,107,108,109,110,111,112,113,114,115,116,117,118,119,120,121,122,123,124,125,126,10]:Tx))) (i:=c%95) (G1 _ (by decide)) (Int.lt_of_lt_of_le (FD _ (by decide)) (by decide)) (by decide);exact⟨k,e⟩
theorem wU{x:Tx}(hl:x.length<=10000)(c:Int):(yy x c).Ok fun y=>y.length<=x.length+2:=by
 unfold yy Cr;obtain⟨k,ek⟩:=yT<|c/7;have L:∀lo hi,(cut x lo hi).length<=x.length:=fun lo hi=>qR x lo hi;have hx:x.length<=100000:=by omega
 rw[nG hx];simp only[EF];rw[iV (by omega)];simp only[EF,ek,qQ hx];have b0:=G1 (c/5) (show(x.length:Int)+1≠0 by omega);have b1:=FD (c/5) (show(0:Int)<(x.length:Int)+1 by omega);obtain⟨i,hi⟩:∃i:Nat,c/5%((x.length:Int)+1)=(i:Int):=⟨(c/5%((x.length:Int)+1)).toNat,by omega⟩
 rw[hi]at b1 ⊢;have ei:i<=x.length:=by omega
 rw[show(i:Int)+1=((i+1:Nat):Int)from rfl,show(i:Int)+2=((i+2:Nat):Int)from rfl];simp only[oy,oz];have mid:∀a b:Nat,(cut x (some (a:Int))<|some (b:Int)).length<=b-a:=fun a b=>by
  unfold cut sIx;simp only[HI,Io];split<;>split<;>omega
 have m1:=mid i<|i+1;have m2:=mid (i+1)<|i+2;generalize cut x (some (i:Int)) (some ((i+1:Nat):Int))=u at*
 generalize cut x (some ((i+1:Nat):Int)) (some ((i+2:Nat):Int))=v at*
 refine vf (fun _=>?_) fun _=>vf (fun _=>?_) fun _=>vf (fun _=>?_) fun _=>vf (fun _=>?_) fun _=>?_;·rw[cH (by simp;omega),EF,cH (by simp;omega)];show GC _<=_;simp;omega
 ·rw[cH (by simp;omega)];show GC _<=_;simp;omega
 ·rw[cH (by simp;omega),EF,cH (by simp;omega)];show GC _<=_;simp;omega
 ·rw[cH (by simp;omega),EF,cH (by simp;omega)];show GC _<=_;simp;omega
 ·rw[cH (by omega),EF,cH (by simp;omega),EF,cH (by simp;omega)];show GC _<=_;simp;omega
theorem qm(c:Int){w:Nat}(hw:w<=8):(yA c (w:Int)).Ok fun x=>x.length<=1000:=by
 unfold yA Ct;refine vf (fun _=>?_) fun _=>vf (fun _=>?_) fun _=>?_
 ·rw[qQ (by simp),EF];have h:=qR ([102,98,105,98,102,98,105,102]:Tx) none<|some (w:Int);simp only[FV,HY]at h;exact(wU (by omega) _).imp fun x hx=>by omega
 ·obtain⟨y,e,hy⟩:=qh (c/ 9% 3) (G1 _ (by decide)) (FD _ (by decide));rw[e,EF,qP (by omega) (by omega)];exact okR (by simp;omega)
 ·obtain⟨t,e,hl,_⟩:=wz (c/ 9) w (by omega);rw[e];exact okR (by omega)
def C6(d:Dat):Prop:=(∃x,d=rowD x/\x.length<=1000)\/(∃k,d=flipD k/\Nu k)\/d=rD\/d=rE
theorem yU(c:Int){w:Nat}(h0:1<=w)(hw:w<=8):(tE c (w:Int)).Ok C6:=by
 unfold tE Cu;refine vf (fun _=>?_) fun _=>vf (fun _=>?_) fun _=>vf (fun _=>?_) fun _=>?_;·exact tU<|tU<|(qm (c/7) hw).imp fun x hx=>okR<|okR<|.inl ⟨x,rfl,hx⟩
 ·rw[iV (by omega),EF];have b0:=G1 (c/7) (show(w:Int)≠0 by omega);have b1:=FD (c/7) (show(0:Int)<w by omega);refine tU (MA (P:=Nu) (vf (fun _=>?_) fun _=>okR (.inl (by omega))) fun k hk=>okR<|.inr<|.inl ⟨k,rfl,hk⟩);have z0:=G1 (c/77) (show(3:Int)≠0 by decide);have z1:=FD (c/77) (show(0:Int)<3 by decide);obtain⟨v,ev,hm⟩:=f6 (xs:=[(w:Int),((0:Int)-(1:Int)),(100000000000000000000:Int)]) (i:=c/77%3) z0 (by simp;omega);rw[ev,EF];have:=FL hm;simp only[F9,FY,or_false]at this;refine okR ?_;rcases this with z|z|z
  ·exact .inl (by omega)
  ·exact .inl (by omega)
  ·exact .inr z
 ·exact okR<|.inr<|.inr<|.inr rfl
 ·exact okR<|.inr<|.inr<|.inl rfl
theorem yV{w:Nat}{most:Int}{n:Nat}{L:Z02}{st und:List EN}(hw0:1<=w)(hw:w<=8)(hn:n<=900)(S:Sim w most n L st und){d:Dat}(h:C6 d):nL w most n L st und d:=by
 rcases h with⟨x,rfl,hx⟩|⟨k,rfl,hk⟩|rfl|rfl;·exact yQ hw0 (by omega) hn S hx
 ·exact wL hn S hk
 ·exact wM hn S
 ·exact wO hn S
theorem As{w:Nat}(h:w<=100):vD [(0:Int)] (w:Int)=.ok (Fg w 0):=by
 have:∀n:Nat,(Fg n [(0:Int)]).flatten=Fg n 0:=by
  intro n
  induction n with
  |zero=>rfl
  |succ n ih=>rw[Gu,Ha,ih,Gu];rfl
 rw[show vD [(0:Int)] (w:Int)=.ok (Fg (w:Int).toNat [(0:Int)]).flatten from bA ⟨by omega,by omega,by show 1*_<=100000;omega⟩,this];rfl
def Au(dr:List Cd)(sp:Sp):STT:=(dr,Fg dr.length 0,Fg dr.length 0,sp)
theorem yW{dr:List Cd}(h:dr.length<=8)(most:Int)(sp:Sp):yv dr most sp=.ok (most,stg (Au dr sp) .n none,[],[]):=by
 unfold yv Bw yu Co;rw[As (by omega)];rfl
theorem wV{dr:List Cd}(h:dr.length<=8)(sp:Sp):yw dr sp=.ok (Au dr sp):=by
 unfold yw Cp;rw[cF (g:=fun _=>(0:Int)) (by show _<=100000;omega)<|fun _ _=>rfl,EF,EF,List.map_const'];rfl
theorem Dg{dr:List Cd}(most:Int){sp:Sp}(hc:∀t∈dr,Card t)(hg:Gd sp)(hl:sp.length<=100):Sim dr.length most 0 (most,stg (Au dr sp) .n none,[],[]) [(Au dr sp,beginD)] []:=
 ⟨⟨Au dr sp,[],rfl,⟨rfl,hc,IZ,IZ,hg.1,hg.2,hl⟩,fun _ z=>(nomatch z),rfl,Fb _⟩,fun _ z=>(nomatch z)⟩
theorem wW{w:Nat}{most:Int}{n:Nat}{L:Z02}{st und:List EN}(hw:w<=100)(hn:n<=900)(S:Sim w most n L st und):
  (((((gz st<|-(1:Int)).bind fun y70=>EK y70.1).bind fun y83=>((qa st).bind fun y81=>((bI (cut st (some (1:Int)) none)<|fun(a71:EN)=>EK a71.2).bind fun y80=>EK (y80,())).bind fun y82=>EK (y81,y82)).bind fun y84=>EK (y83,y84)).bind fun y85=>EK (L,y85)).bind fun a86=>qc a86.1 a86.2.1 a86.2.2.1 a86.2.2.2.1)=EK true:=by
 obtain⟨s,d',e1,e2⟩:=tQ hw hn S;obtain⟨_,_,_,l4,_⟩:=S.len;have ec:bI (cut st (some (1:Int)) none) (fun(a71:EN)=>EK a71.2)=.ok ((st.drop 1).map (·.2)):=by
  rw[show cut st (some (1:Int)) none=st.drop 1 from oz st 1];exact cF (by show(st.drop 1).length<=100000;rw[Io];omega) fun _ _=>rfl
 rw[e1,EF,EF,qk hw hn S,EF,ec];exact e2
theorem Av(ns:List Int)(h:ns.length<=63):(wc ns).Ok (· =true):=by
 unfold wc rp;refine tU<|(wR h).imp fun y zz=>?_;obtain⟨h1,h8,hc,hg,hl⟩:=zz;rw[yW h8,EF,wV h8,EF,EF,EF];obtain⟨c9,e9⟩:=mS h 9 (by decide);rw[show iu ns 9=.ok c9 from e9,EF,EF];have z0:=G1 c9 (show(51:Int)≠0 by decide);have z1:=FD c9 (show(0:Int)<51 by decide);obtain⟨m,hm⟩:∃m:Nat,c9%51=(m:Int):=⟨(c9%51).toNat,by omega⟩
 rw[hm]at z0 z1 ⊢;rw[jA (by omega),EF];obtain⟨s,es,hs⟩:=ou (f:=hG iu tE mQ mR qc qa ns y) (fun pre(s:Z02×List EN×List EN)=>Sim y.1.length y.2.1 pre.length s.1 s.2.1 s.2.2) ((HP m).map fun(i:Nat)=>(i:Int)) ((y.2.1,stg (Au y.1 y.2.2) .n none,[],[]),[(Au y.1 y.2.2,beginD)],[]) (Dg y.2.1 hc hg hl) (by
  intro pre a post s e S;have hlen:pre.length<m:=by have:=congrArg GC e;simp at this;omega
  obtain⟨k,hk,rfl⟩:∃k:Nat,k<m/\a=(k:Int):=by
   have:a∈(HP m).map fun(i:Nat)=>(i:Int):=by rw[e];simp
   obtain⟨k,hk,e⟩:=Fh.mp this;exact⟨k,JA.mp hk,e.symm⟩
  unfold hG;obtain⟨c,ec⟩:=mS h (10+k) (by omega);obtain⟨d,ed,hd⟩:=(yU c h1 h8).ex;rw[show iu ns ((10:Int)+(k:Int))=.ok c from ec,EF,ed,EF];obtain⟨L',st',und',r,f1,f2,S',hr⟩:=yV h1 h8 (by omega) S hd;refine⟨(L',st',und'),?_,by rw[Fn];exact S'⟩;rw[f1,EF,EF,EF,EF,f2,EF,EF,vh rfl hr,EF,EF,if_pos rfl];by_cases z:(k:Int)%4=1
  ·rw[if_pos<|decide_eq_true z,wW (by omega) (by omega) S'];rfl
  ·rw[if_neg (by simpa using z)])
 rw[Fz,LS]at hs;rw[show Ho [G5 (([98,101,103,105,110]:Tx),(0:Int)).1,NA (([98,101,103,105,110]:Tx),(0:Int)).2]=beginD from rfl,es,EF];show(NC _ _).Ok _;rw[wW (by omega) (by omega) hs];exact rfl
end Mi
namespace PySem.W.Fast
def tw861502493610598483:=()
def tw1494911240963828222:=()
def tw7774113678449685934:=()
def tw5486008376365147428:=()
def tw12063395154255005496:=()
def tw15997187109081770382:=()
def tw18070617111639710692:=()
def tw2856214414015684678:=()
def tw11448787374727584239:=()
def tw12709975386306396992:=()
def tw329941283463616030:=()
def tw8487232258386954649:=()
def tw5407970635648715744:=()
def tw9381626543082597023:=()
def tw10161179621583223854:=()
def tw5233118043267047457:=()
def tw17137270108147033825:=()
def tw11525993766095887173:=()
def tw12550775161083096063:=()
def tw18425444933858846725:=()
def tw2480015634913765671:=()
def tw4545961482378311905:=()
def tw4026147355466621588:=()
def tw12738610918357793766:=()
def tw11898465464335795678:=()
def tw6056707288978253535:=()
def tw2399617604181995578:=()
def tw14154597600763967237:=()
def tw14808909156504927330:=()
def tw17829434514381053950:=()
def tw16086907953836968628:=()
def tw7592715696027808041:=()
def tw11095110211248682772:=()
def tw16746677531222629524:=()
def tw7050804516273991350:=()
def tw15771247859494662083:=()
def tw5634867526602368427:=()
def tw2595585439558603231:=()
def tw6008232320854092231:=()
def tw3374319085511977134:=()
def tw13053770412826190925:=()
def tw14061609134260724683:=()
def tw13034982811429478159:=()
def tw14553807712399142462:=()
def tw2479909634843643777:=()
def tw3592811809046731828:=()
def tw12020253756985099128:=()
def tw9320515035125037321:=()
def tw16159750380562633221:=()
def tw8919978131948313185:=()
def tw8278001386518606062:=()
def tw8115137120850386438:=()
def tw12468840222048715292:=()
def tw1840220198017710270:=()
def tw4860023922305330110:=()
def tw7155359931933253843:=()
def tw17592209452093105858:=()
def tw6084841979344569690:=()
def tw9003107776662980439:=()
def tw10326336056695345397:=()
def tw12145756527313086355:=()
def tw6162269159774324313:=()
def tw5037459499596335280:=()
def tw4290864757253303354:=()
def tw740290905518256060:=()
def tw6124413428159637790:=()
def tw15279809834360698895:=()
def tw1599053048872161195:=()
def tw16822532161544500889:=()
def tw8535803893964050539:=()
def tw14520296925931582552:=()
def tw9433028549170029634:=()
def tw14939612678797562433:=()
def tw15401437161963490237:=()
def tw13813618637161013713:=()
def tw3671519592330383864:=()
def tw6327569006664949090:=()
def tw15565715512253457277:=()
def tw9689729476882780088:=()
def tw3507769193172341495:=()
end PySem.W.Fast
section
open PySem PySem.W PyProof.Rows
set_option maxHeartbeats 0 in
open_top hd for PySem.Challenge.rw_wornband_k45_undo_and_redo
end
namespace Wb
open PySem L2 Mi
theorem yX{K:EH}:∀vs H Q E,rq K vs H Q E->dO (isScr K) (rs isB) wc vs H Q E:=fun vs H Q E⟨a,ns,h1,h2,h3,h4⟩=>
 ⟨⟨H,H,.refl _⟩,ns,.ref a,rfl,h1,⟨a,rfl,h2⟩,fun _=>False,Res.Ok.e ((Av ns h3).imp fun r hr u W' _ hu=>by cases hr;cases hu;exact h4 _)⟩
local macro_rules | `(tactic|walk_at "B1")=>`(tactic|exact fun _ _ _ _ _ _ us hl=>match us,hl with | [_],_=>rfl)
local macro_rules | `(tactic|walk_at "B2")=>`(tactic|exact fun _ _ _ _ _ _ us hl=>match us,hl with | [_,_],_=>rfl)
local macro_rules | `(tactic|walk_at "B4")=>`(tactic|exact fun _ _ _ _ _ _ us hl=>match us,hl with | [_,_,_,_],_=>rfl)
local macro_rules | `(tactic|walk_at "B7")=>`(tactic|exact fun _ _ _ _ _ _ us hl=>match us,hl with | [_,_,_,_,_,_,_],_=>rfl)
theorem fin_mk{l:Jj}{w:Fp}{K:EH}{h:Heap}{mg:Str->Option EI}{fa:Addr}{Z00:Addr}{Z01:Addr}{Z31:Addr}{ZbQ ZbR:Option Addr}{ZbS:Array (Option EI)}{ZbT ZbU ZbV ZbW Z86 ZbX:EI}{Z1Q:Addr}{Z8L Z8M:Option Addr}{Z8N:Array (Option EI)}{Z8O Z8P Z8Q Z8R Z4G Z8S:EI}{Z24:Addr}{Z9f Z9g:Option Addr}{Z9h:Array (Option EI)}{Z9i Z9j Z9k Z9l Z57 Z9m:EI}{Z3z:Addr}{ZdQ ZdR:Option Addr}{ZdS:Array (Option EI)}{ZdT ZdU ZdV ZdW Z8T ZdX:EI}{Z2C:Addr}{ZaK ZaL:Option Addr}{ZaM:Array (Option EI)}{ZaN ZaO ZaP ZaQ Z7Q ZaR:EI}{Z2D:Addr}{ZaS ZaT:Option Addr}{ZaU:Array (Option EI)}{ZaV ZaW ZaX ZaY Z7R ZaZ:EI}{Z32:Addr}{ZbY ZbZ:Option Addr}{Zc0:Array (Option EI)}{Zc1 Zc2 Zc3 Zc4 Z87 Zc5:EI}{Z33:Addr}{Zc6 Zc7:Option Addr}{Zc8:Array (Option EI)}{Zc9 Zca Zcb Zcc Z88 Zcd:EI}{Z34:Addr}{Zce Zcf:Option Addr}{Zcg:Array (Option EI)}{Zch Zci Zcj Zck Z89 Zcl:EI}{Z2g:Addr}{Z9N Z9O:Option Addr}{Z9P:Array (Option EI)}{Z9Q Z9R Z9S Z9T Z5Y Z9U:EI}{Z35:Addr}{Zcm Zcn:Option Addr}{Zco:Array (Option EI)}{Zcp Zcq Zcr Zcs Z8a Zct:EI}{Z2E:Addr}{Zb0 Zb1:Option Addr}{Zb2:Array (Option EI)}{Zb3 Zb4 Zb5 Zb6 Z7S Zb7:EI}{Z2F:Addr}{Zb8 Zb9:Option Addr}{Zba:Array (Option EI)}{Zbb Zbc Zbd Zbe Z7T Zbf:EI}{Z36:Addr}{Zcu Zcv:Option Addr}{Zcw:Array (Option EI)}{Zcx Zcy Zcz ZcA Z8b ZcB:EI}{Z37:Addr}{ZcC ZcD:Option Addr}{ZcE:Array (Option EI)}{ZcF ZcG ZcH ZcI Z8c ZcJ:EI}{f_law:Addr}{od_law an_law:Option Addr}{sl_law:Array (Option EI)}{oc_law kV_law dc_law pm_law cd_law ct_law:EI}{Z3A:Addr}{Zbg Zbh:Option Addr}{Zbi:Array (Option EI)}{Zbj Zbk Zbl Zbm Z7U Zbn:EI}{Z2M:Tok}{Z1P:Addr}{ZcK:Nat}{Zbo Zbp Zbq Zbr:Tok}{Z3d:Addr}{Zhb:Nat}{Zg5 Zg6 Zg7 Zg8 Zg9 Zga:Tok}{Z2r:Addr}{Zhq:Nat}{Zhc Zhd Zhe Zhf Zhg Zhh:Tok}{Za1:Tok}{Z0c Z6d:Addr}{ZcL ZdY:Str}{ZcM ZcN:List EI}{ZcO ZcP:Bool}{ZcQ:List Str}{ZcR:Option Bool}{ZcS:Option Addr}{ZcT ZcU ZcV ZcW ZcX:Option EI}{ZcY:EI}{ZcZ:Option Addr}{Z58:Array GJ}{Zd0:Nat}{Zd1:Array (Option EI)}{Z06 Z8U:Addr}{Zd2 ZdZ:Str}{Zd3 Zd4:List EI}{Zd5 Zd6:Bool}{Zd7:List Str}{Zd8:Option Bool}{Zd9:Option Addr}{Zda Zdb Zdc Zdd Zde:Option EI}{Z0i Z9n:Addr}{Zgb Zhi:Str}{Zgc Zgd:List EI}{Zge Zgf:Bool}{Zgg:List Str}{Zgh:Option Bool}{Zgi:Option Addr}{Zgj Zgk Zgl Zgm Zgn:Option EI}{Zgo:EI}{Zgp:Option Addr}{Z8d:Array GJ}{Zgq:Nat}{Zgr:Array (Option EI)}{Z0d ZaD:Addr}{Zf5 Zgs:Str}{Zf6 Zf7:List EI}{Zf8 Zf9:Bool}{Zfa:List Str}{Zfb:Option Bool}{Zfc:Option Addr}{Zfd Zfe Zff Zfg Zfh:Option EI}{Z0e ZaE:Addr}{Zfi Zgt:Str}{Zfj Zfk:List EI}{Zfl Zfm:Bool}{Zfn:List Str}{Zfo:Option Bool}{Zfp:Option Addr}{Zfq Zfr Zfs Zft Zfu:Option EI}{Z0f ZaF:Addr}{Zfv Zgu:Str}{Zfw Zfx:List EI}{Zfy Zfz:Bool}{ZfA:List Str}{ZfB:Option Bool}{ZfC:Option Addr}{ZfD ZfE ZfF ZfG ZfH:Option EI}{Z08 Z7o:Addr}{Ze0 ZfI:Str}{Ze1 Ze2:List EI}{Ze3 Ze4:Bool}{Ze5:List Str}{Ze6:Option Bool}{Ze7:Option Addr}{Ze8 Ze9 Zea Zeb Zec:Option EI}{Zed:EI}{Zee:Option Addr}{Z6e:Array GJ}{Zef:Nat}{Zeg:Array (Option EI)}{Z09 Z7p:Addr}{Zeh ZfJ:Str}{Zei Zej:List EI}{Zek Zel:Bool}{Zem:List Str}{Zen:Option Bool}{Zeo:Option Addr}{Zep Zeq Zer Zes Zet:Option EI}{Zeu:EI}{Zev:Option Addr}{Z6f:Array GJ}{Zew:Nat}{Zex:Array (Option EI)}{Z0a Z7q:Addr}{Zey ZfK:Str}{Zez ZeA:List EI}{ZeB ZeC:Bool}{ZeD:List Str}{ZeE:Option Bool}{ZeF:Option Addr}{ZeG ZeH ZeI ZeJ ZeK:Option EI}{ZeL:EI}{ZeM:Option Addr}{Z6g:Array GJ}{ZeN:Nat}{ZeO:Array (Option EI)}{Z03 Z4r:Addr}{Za7 Zbs:Str}{Za8 Za9:List EI}{Zaa Zab:Bool}{Zac:List Str}{Zad:Option Bool}{Zae:Option Addr}{Zaf Zag Zah Zai Zaj:Option EI}{Zak:EI}{Zal:Option Addr}{Z3V:Array GJ}{Zam:Nat}{Zan:Array (Option EI)}{Z0l Zdf:Addr}{Zgv Zhj:Str}{Zgw Zgx:List EI}{Zgy Zgz:Bool}{ZgA:List Str}{ZgB:Option Bool}{ZgC:Option Addr}{ZgD ZgE ZgF ZgG ZgH:Option EI}{Z05 Z8e:Addr}{Zbt Zdg:Str}{Zbu Zbv:List EI}{Zbw Zbx:Bool}{Zby:List Str}{Zbz:Option Bool}{ZbA:Option Addr}{ZbB ZbC ZbD ZbE ZbF:Option EI}{Z07 Z8V:Addr}{Zdh ZeP:Str}{Zdi Zdj:List EI}{Zdk Zdl:Bool}{Zdm:List Str}{Zdn:Option Bool}{Zdo:Option Addr}{Zdp Zdq Zdr Zds Zdt:Option EI}{Z0m Zdu:Addr}{ZgI Zhk:Str}{ZgJ ZgK:List EI}{ZgL ZgM:Bool}{ZgN:List Str}{ZgO:Option Bool}{ZgP:Option Addr}{ZgQ ZgR ZgS ZgT ZgU:Option EI}(X:K.In h)(G:h.Ns mainGlobals mg)(hfa:mg "law"=some (.ref fa))
  (Zao:Fc K mainGlobals "Stage"=some (some<|.ref Z00)) (Z9o:HG K Z00 L6=true) (Z8f:Ij K Z00=true) (Z9p:IP K Z00=true) (Z9q:EO K (.ref Z00) "__setattr__"=some (some<|.builtin "object.__setattr__")) (Z9r:Jp K Z00=true) (Z9s:Fi K (.ref Z00)=true)
  (Z4s:EO K (.ref Z00) "deed"=some none)
  (Z2R:EO K (.ref Z00) "standing"=some none)
  (Z3f:EO K (.ref Z00) "reached"=some none)
  (Z3g:EO K (.ref Z00) "highest"=some none)
  (Z3h:EO K (.ref Z00) "lengths"=some none)
  (Z4t:EO K (.ref Z00) "pick"=some none)
  (Zdv:Fc K mainGlobals "Loom"=some (some<|.ref Z01)) (Zap:HG K Z01 L6=true) (Z9t:Ij K Z01=true) (Zaq:IP K Z01=true) (Zar:EO K (.ref Z01) "__setattr__"=some (some<|.builtin "object.__setattr__")) (Zas:Jp K Z01=true) (Zat:Fi K (.ref Z01)=true)
  (Z59:EO K (.ref Z01) "most"=some none)
  (Z4u:EO K (.ref Z01) "start"=some none)
  (Z3W:EO K (.ref Z01) "course"=some none)
  (Z3X:EO K (.ref Z01) "undone"=some none)
  (Z4e:Fc K mainGlobals "_law_same"=some (some<|.ref Z31))
  (Z6h:K.lookup Z31=some ⟨ZbT,ZbQ,.func<|FA "_law_same" "_law_same" (defArgs<|tp 64) (defBody<|tp 64) (defScope<|tp 64) .none ZbU ZbV ZbW ZbR Z86 ZbX,ZbS⟩)
  (Z6i:FF K Z86 "_law_same"=true)
  (Z38:Fi K (.ref Z31)=true)
  (Z8g:DI K "_law_at" (tp 43) ["_law_script","_law_k"])
  (Z7r:DI K "_law_row" (tp 40) ["_law_cell","_law_many","_law_base"])
  (Z5a:DI K "_law_holes" (tp 41) ["_law_cell"])
  (Z6j:DI K "_law_card" (tp 42) ["_law_cell"])
  (Z5b:DI K "_law_draft" (tp 44) ["_law_script","_law_at_here","_law_width"])
  (Z6k:DI K "_law_most" (tp 46) ["_law_cell"])
  (Z4v:DI K "_law_spools" (tp 45) ["_law_draft_here","_law_cell"])
  (Z2S:DI K "_law_loom_parts" (tp 48) ["_law_script"])
  (Z3i:EO K (.ref Z00) "__init__"=some (some<|.ref Z1Q)) (Z3j:Ge K (.ref Z1Q)=true)
  (Z3k:K.lookup Z1Q=some ⟨Z8O,Z8L,.func<|FA "__init__" "Stage.__init__" (defArgs<|tq 31 0) (defBody<|tq 31 0) (defScope<|tq 31 0) .none Z8P Z8Q Z8R Z8M Z4G Z8S,Z8N⟩)
  (Z3l:FF K Z4G "Stage.__init__"=true)
  (Z3m:Fi K (.ref Z1Q)=true)
  (Z4w:DI K "first_stage" (tp 32) ["draft","spools"])
  (Z3B:EO K (.ref Z01) "__init__"=some (some<|.ref Z24)) (Z3C:Ge K (.ref Z24)=true)
  (Z3D:K.lookup Z24=some ⟨Z9i,Z9f,.func<|FA "__init__" "Loom.__init__" (defArgs<|tq 38 0) (defBody<|tq 38 0) (defScope<|tq 38 0) .none Z9j Z9k Z9l Z9g Z57 Z9m,Z9h⟩)
  (Z3E:FF K Z57 "Loom.__init__"=true)
  (Z3F:Fi K (.ref Z24)=true)
  (Z5c:DI K "_law_begin" (tp 47) ["_law_draft_here","_law_spools_here"])
  (Z6l:DI K "_law_sign" (tp 50) ["_law_cell"])
  (Z5d:DI K "_law_spoil" (tp 51) ["_law_text","_law_cell"])
  (Z5e:DI K "_law_turns" (tp 49) ["_law_cell","_law_many"])
  (Z3Y:DI K "_law_rowtext" (tp 52) ["_law_cell","_law_width"])
  (Z6m:DI K "_law_deed" (tp 54) ["_law_cell","_law_width"])
  (Z3G:DI K "_law_turnover" (tp 53) ["_law_card_here"])
  (Z8h:DI K "_law_go" (tp 55) ["_law_turn"])
  (Z5f:DI K "_law_twist" (tp 57) ["_law_card_here","_law_turn"])
  (Z4x:DI K "_law_behind" (tp 56) ["_law_card_here","_law_turn"])
  (Z5g:DI K "_law_after" (tp 58) ["_law_state","_law_row_here","_law_most_here"])
  (Z6n:DI K "_law_pick" (tp 59) ["_law_cards","_law_row_here"])
  (Z8i:DI K "_law_do" (tp 60) ["_law_stack","_law_undone","_law_deed_here","_law_most_here"])
  (Z7s:EO K (.ref Z01) "now"=some (some<|.ref Z3z)) (Z7t:Ge K (.ref Z3z)=true)
  (Z7u:K.lookup Z3z=some ⟨ZdT,ZdQ,.func<|FA "now" "Loom.now" (defArgs<|tq 38 1) (defBody<|tq 38 1) (defScope<|tq 38 1) .none ZdU ZdV ZdW ZdR Z8T ZdX,ZdS⟩)
  (Z7v:FF K Z8T "Loom.now"=true)
  (Z4K:Fi K (.ref Z3z)=true)
  (Z9u:DI K "is_row" (tp 28) ["text","width"])
  (Z7w:DI K "twisting" (tp 23) ["tablet","turn"])
  (Zau:DI K "taken" (tp 36) ["draft","row"])
  (Z6o:DI K "drawn_off" (tp 37) ["spools","lengths"])
  (Z9v:DI K "turned" (tp 24) ["tablet","turn"])
  (d_top:DI K "top" (tp 21) ["tablet"])
  (Z9w:DI K "bottom" (tp 22) ["tablet"])
  (Z5h:DI K "left_place" (tp 29) ["tablet","turn"])
  (Z4y:DI K "woven_stage" (tp 33) ["stage","row","most"])
  (Z5i:EO K (.ref Z01) "go_on"=some (some<|.ref Z2C)) (Z5j:Ge K (.ref Z2C)=true)
  (Z5k:K.lookup Z2C=some ⟨ZaN,ZaK,.func<|FA "go_on" "Loom.go_on" (defArgs<|tq 38 2) (defBody<|tq 38 2) (defScope<|tq 38 2) .none ZaO ZaP ZaQ ZaL Z7Q ZaR,ZaM⟩)
  (Z5l:FF K Z7Q "Loom.go_on"=true)
  (Z3H:Fi K (.ref Z2C)=true)
  (Z5m:EO K (.ref Z01) "weave"=some (some<|.ref Z2D)) (Z5n:Ge K (.ref Z2D)=true)
  (Z5o:K.lookup Z2D=some ⟨ZaV,ZaS,.func<|FA "weave" "Loom.weave" (defArgs<|tq 38 3) (defBody<|tq 38 3) (defScope<|tq 38 3) .none ZaW ZaX ZaY ZaT Z7R ZaZ,ZaU⟩)
  (Z5p:FF K Z7R "Loom.weave"=true)
  (Z3I:Fi K (.ref Z2D)=true)
  (Z3Z:DI K "check_tablet" (tp 35) ["draft","k"])
  (Z8j:DI K "flipped" (tp 25) ["tablet"])
  (Z3J:DI K "flipped_stage" (tp 34) ["stage","k"])
  (Z6p:EO K (.ref Z01) "flip"=some (some<|.ref Z32)) (Z6q:Ge K (.ref Z32)=true)
  (Z6r:K.lookup Z32=some ⟨Zc1,ZbY,.func<|FA "flip" "Loom.flip" (defArgs<|tq 38 4) (defBody<|tq 38 4) (defScope<|tq 38 4) .none Zc2 Zc3 Zc4 ZbZ Z87 Zc5,Zc0⟩)
  (Z6s:FF K Z87 "Loom.flip"=true)
  (Z4f:Fi K (.ref Z32)=true)
  (Z6t:EO K (.ref Z01) "undo"=some (some<|.ref Z33)) (Z6u:Ge K (.ref Z33)=true)
  (Z6v:K.lookup Z33=some ⟨Zc9,Zc6,.func<|FA "undo" "Loom.undo" (defArgs<|tq 38 6) (defBody<|tq 38 6) (defScope<|tq 38 6) .none Zca Zcb Zcc Zc7 Z88 Zcd,Zc8⟩)
  (Z6w:FF K Z88 "Loom.undo"=true)
  (Z4g:Fi K (.ref Z33)=true)
  (Z6x:EO K (.ref Z01) "redo"=some (some<|.ref Z34)) (Z6y:Ge K (.ref Z34)=true)
  (Z6z:K.lookup Z34=some ⟨Zch,Zce,.func<|FA "redo" "Loom.redo" (defArgs<|tq 38 7) (defBody<|tq 38 7) (defScope<|tq 38 7) .none Zci Zcj Zck Zcf Z89 Zcl,Zcg⟩)
  (Z6A:FF K Z89 "Loom.redo"=true)
  (Z4h:Fi K (.ref Z34)=true)
  (Z3K:DI K "_law_try_deed" (tp 63) ["_law_loom","_law_deed_here"])
  (Z40:DI K "_law_rows_of" (tp 61) ["_law_stack"])
  (Z41:EO K (.ref Z01) "tablets"=some (some<|.ref Z2g)) (Z42:Ge K (.ref Z2g)=true)
  (Z43:K.lookup Z2g=some ⟨Z9Q,Z9N,.func<|FA "tablets" "Loom.tablets" (defArgs<|tq 38 8) (defBody<|tq 38 8) (defScope<|tq 38 8) .none Z9R Z9S Z9T Z9O Z5Y Z9U,Z9P⟩)
  (Z44:FF K Z5Y "Loom.tablets"=true)
  (Z2P:Fi K (.ref Z2g)=true)
  (Z6B:EO K (.ref Z01) "band"=some (some<|.ref Z35)) (Z6C:Ge K (.ref Z35)=true)
  (Z6D:K.lookup Z35=some ⟨Zcp,Zcm,.func<|FA "band" "Loom.band" (defArgs<|tq 38 9) (defBody<|tq 38 9) (defScope<|tq 38 9) .none Zcq Zcr Zcs Zcn Z8a Zct,Zco⟩)
  (Z6E:FF K Z8a "Loom.band"=true)
  (Z4i:Fi K (.ref Z35)=true)
  (Z5q:EO K (.ref Z01) "deeds"=some (some<|.ref Z2E)) (Z5r:Ge K (.ref Z2E)=true)
  (Z5s:K.lookup Z2E=some ⟨Zb3,Zb0,.func<|FA "deeds" "Loom.deeds" (defArgs<|tq 38 10) (defBody<|tq 38 10) (defScope<|tq 38 10) .none Zb4 Zb5 Zb6 Zb1 Z7S Zb7,Zb2⟩)
  (Z5t:FF K Z7S "Loom.deeds"=true)
  (Z3L:Fi K (.ref Z2E)=true)
  (Z5u:EO K (.ref Z01) "twist"=some (some<|.ref Z2F)) (Z5v:Ge K (.ref Z2F)=true)
  (Z5w:K.lookup Z2F=some ⟨Zbb,Zb8,.func<|FA "twist" "Loom.twist" (defArgs<|tq 38 11) (defBody<|tq 38 11) (defScope<|tq 38 11) .none Zbc Zbd Zbe Zb9 Z7T Zbf,Zba⟩)
  (Z5x:FF K Z7T "Loom.twist"=true)
  (Z3M:Fi K (.ref Z2F)=true)
  (Z6F:EO K (.ref Z01) "peak"=some (some<|.ref Z36)) (Z6G:Ge K (.ref Z36)=true)
  (Z6H:K.lookup Z36=some ⟨Zcx,Zcu,.func<|FA "peak" "Loom.peak" (defArgs<|tq 38 12) (defBody<|tq 38 12) (defScope<|tq 38 12) .none Zcy Zcz ZcA Zcv Z8b ZcB,Zcw⟩)
  (Z6I:FF K Z8b "Loom.peak"=true)
  (Z4j:Fi K (.ref Z36)=true)
  (Z6J:EO K (.ref Z01) "rest"=some (some<|.ref Z37)) (Z6K:Ge K (.ref Z37)=true)
  (Z6L:K.lookup Z37=some ⟨ZcF,ZcC,.func<|FA "rest" "Loom.rest" (defArgs<|tq 38 13) (defBody<|tq 38 13) (defScope<|tq 38 13) .none ZcG ZcH ZcI ZcD Z8c ZcJ,ZcE⟩)
  (Z6M:FF K Z8c "Loom.rest"=true)
  (Z4k:Fi K (.ref Z37)=true)
  (Z4z:DI K "_law_stands" (tp 65) ["_law_loom","_law_state","_law_band","_law_done"])
  (a_law:Fc K mainGlobals "law"=some (some<|.ref f_law))
  (l_law:K.lookup f_law=some ⟨oc_law,od_law,.func<|FA "law" "law" (defArgs<|tp 66) (defBody<|tp 66) (defScope<|tp 66) .none kV_law dc_law pm_law an_law cd_law ct_law,sl_law⟩)
  (c_law:FF K cd_law "law"=true)
  (k_law:Fi K (.ref f_law)=true)
  (Z5y:Fc K mainGlobals "_law_kinds"=some (some<|.ref Z3A))
  (Z5z:K.lookup Z3A=some ⟨Zbj,Zbg,.func<|FA "_law_kinds" "_law_kinds" (defArgs<|tp 62) (defBody<|tp 62) (defScope<|tp 62) .none Zbk Zbl Zbm Zbh Z7U Zbn,Zbi⟩)
  (Z5A:FF K Z7U "_law_kinds"=true)
  (Z3N:Fi K (.ref Z3A)=true)
  (Z5B:Fc K mainGlobals "ValueError"=some none)
  (ZfL:Fc K mainGlobals "abs"=some none)
  (ZfM:Fc K mainGlobals "all"=some none)
  (ZfN:Fc K mainGlobals "any"=some none)
  (Zdw:Fc K mainGlobals "bool"=some none)
  (Zdx:Fc K mainGlobals "dict"=some none)
  (ZfO:Fc K mainGlobals "int"=some none)
  (Z5C:Fc K mainGlobals "isinstance"=some none)
  (ZfP:Fc K mainGlobals "len"=some none)
  (Zdy:Fc K mainGlobals "list"=some none)
  (ZfQ:Fc K mainGlobals "max"=some none)
  (ZfR:Fc K mainGlobals "min"=some none)
  (Zav:Fc K mainGlobals "range"=some none)
  (ZfS:Fc K mainGlobals "str"=some none)
  (Zaw:Fc K mainGlobals "tuple"=some none)
  (ZfT:Fc K mainGlobals "zip"=some none)
  (Zax:Fc K mainGlobals "HOLES"=some (some<|.int 4 Z2M))
  (Z5D:Fc K mainGlobals "OTHER_LAYS"=some (some<|.ref Z1P))
  (Z5E:K.lookup Z1P=some {cls:=.type "dict",data:=.dict #[⟨HA w.params<|EL "S",.str (EL "S") Zbo,.str (EL "Z") Zbp⟩,⟨HA w.params<|EL "Z",.str (EL "Z") Zbq,.str (EL "S") Zbr⟩] ZcK})
  (Z5F:(Z1P==sysModules)=false)
  (Z9x:Fc K mainGlobals "SLANTS"=some (some<|.ref Z3d))
  (Z9y:K.lookup Z3d=some {cls:=.type "dict",data:=.dict #[⟨hashInt<|1,.int (1) Zg5,.str (EL "s") Zg6⟩,⟨hashInt<|-1,.int (-1) Zg7,.str (EL "z") Zg8⟩,⟨hashInt<|0,.int (0) Zg9,.str (EL "o") Zga⟩] Zhb})
  (Z9z:(Z3d==sysModules)=false)
  (Zay:Fc K mainGlobals "STEPS"=some (some<|.ref Z2r))
  (Zaz:K.lookup Z2r=some {cls:=.type "dict",data:=.dict #[⟨HA w.params<|EL "f",.str (EL "f") Zhc,.int (1) Zhd⟩,⟨HA w.params<|EL "b",.str (EL "b") Zhe,.int (-1) Zhf⟩,⟨HA w.params<|EL "i",.str (EL "i") Zhg,.int (0) Zhh⟩] Zhq})
  (ZaA:(Z2r==sysModules)=false)
  (ZaB:Fc K mainGlobals "TURNS"=some (some<|.str (EL "fbi") Za1))
  (Z6N:Fc K mainGlobals "BandError"=some (some<|.ref Z0c))
  (Z6O:K.lookup Z0c=some (excClassObj ZcL ZdY Z0c Z6d ZcM [.type "ValueError",.type "Exception",.type "BaseException",.type "object"] ZcO ZcQ ZcN ZcP ZcR ZcS ZcT ZcU ZcV ZcW ZcX "ValueError.__new__"))
  (Z27:K.lookup Z6d=some ⟨ZcY,ZcZ,.dict Z58 Zd0,Zd1⟩) (Z1R:JX Z58) (Z1S:nsFind Z58 "__init__"=none)
  (Z6P:Fc K mainGlobals "BadTablet"=some (some<|.ref Z06))
  (Z6Q:K.lookup Z06=some (excClassObj Zd2 ZdZ Z06 Z8U Zd3 [.ref Z0c,.type "ValueError",.type "Exception",.type "BaseException",.type "object"] Zd5 Zd7 Zd4 Zd6 Zd8 Zd9 Zda Zdb Zdc Zdd Zde "ValueError.__new__"))
  (Z5G:EO K (.ref Z06) "__getattribute__"=some (some<|.builtin "BaseException.__getattribute__")) (Z5H:EO K (.ref Z06) "__getattr__"=some none) (Z5I:EO K (.ref Z06) "__class__"=some (some<|.builtin "object.__class__"))
  (Z9A:Fc K mainGlobals "BadRow"=some (some<|.ref Z0i))
  (Z9B:K.lookup Z0i=some (excClassObj Zgb Zhi Z0i Z9n Zgc [.ref Z0c,.type "ValueError",.type "Exception",.type "BaseException",.type "object"] Zge Zgg Zgd Zgf Zgh Zgi Zgj Zgk Zgl Zgm Zgn "ValueError.__new__"))
  (Z8k:EO K (.ref Z0i) "__getattribute__"=some (some<|.builtin "BaseException.__getattribute__")) (Z8l:EO K (.ref Z0i) "__getattr__"=some none) (Z8m:EO K (.ref Z0i) "__class__"=some (some<|.builtin "object.__class__"))
  (Z9C:K.lookup Z9n=some ⟨Zgo,Zgp,.dict Z8d Zgq,Zgr⟩) (Z8n:JX Z8d) (Z8o:nsFind Z8d "__init__"=none)
  (Z8p:Fc K mainGlobals "BadText"=some (some<|.ref Z0d))
  (Z8q:K.lookup Z0d=some (excClassObj Zf5 Zgs Z0d ZaD Zf6 [.ref Z0c,.type "ValueError",.type "Exception",.type "BaseException",.type "object"] Zf8 Zfa Zf7 Zf9 Zfb Zfc Zfd Zfe Zff Zfg Zfh "ValueError.__new__"))
  (Z7x:EO K (.ref Z0d) "__getattribute__"=some (some<|.builtin "BaseException.__getattribute__")) (Z7y:EO K (.ref Z0d) "__getattr__"=some none) (Z7z:EO K (.ref Z0d) "__class__"=some (some<|.builtin "object.__class__"))
  (Z8r:Fc K mainGlobals "BadMark"=some (some<|.ref Z0e))
  (Z8s:K.lookup Z0e=some (excClassObj Zfi Zgt Z0e ZaE Zfj [.ref Z0c,.type "ValueError",.type "Exception",.type "BaseException",.type "object"] Zfl Zfn Zfk Zfm Zfo Zfp Zfq Zfr Zfs Zft Zfu "ValueError.__new__"))
  (Z7A:EO K (.ref Z0e) "__getattribute__"=some (some<|.builtin "BaseException.__getattribute__")) (Z7B:EO K (.ref Z0e) "__getattr__"=some none) (Z7C:EO K (.ref Z0e) "__class__"=some (some<|.builtin "object.__class__"))
  (Z8t:Fc K mainGlobals "TooLong"=some (some<|.ref Z0f))
  (Z8u:K.lookup Z0f=some (excClassObj Zfv Zgu Z0f ZaF Zfw [.ref Z0c,.type "ValueError",.type "Exception",.type "BaseException",.type "object"] Zfy ZfA Zfx Zfz ZfB ZfC ZfD ZfE ZfF ZfG ZfH "ValueError.__new__"))
  (Z7D:EO K (.ref Z0f) "__getattribute__"=some (some<|.builtin "BaseException.__getattribute__")) (Z7E:EO K (.ref Z0f) "__getattr__"=some none) (Z7F:EO K (.ref Z0f) "__class__"=some (some<|.builtin "object.__class__"))
  (Z7G:Fc K mainGlobals "TooTight"=some (some<|.ref Z08))
  (Z7H:K.lookup Z08=some (excClassObj Ze0 ZfI Z08 Z7o Ze1 [.ref Z0c,.type "ValueError",.type "Exception",.type "BaseException",.type "object"] Ze3 Ze5 Ze2 Ze4 Ze6 Ze7 Ze8 Ze9 Zea Zeb Zec "ValueError.__new__"))
  (Z6R:EO K (.ref Z08) "__getattribute__"=some (some<|.builtin "BaseException.__getattribute__")) (Z6S:EO K (.ref Z08) "__getattr__"=some none) (Z6T:EO K (.ref Z08) "__class__"=some (some<|.builtin "object.__class__"))
  (Z7I:K.lookup Z7o=some ⟨Zed,Zee,.dict Z6e Zef,Zeg⟩) (Z6U:JX Z6e) (Z6V:nsFind Z6e "__init__"=none)
  (Z7J:Fc K mainGlobals "SpoolDry"=some (some<|.ref Z09))
  (Z7K:K.lookup Z09=some (excClassObj Zeh ZfJ Z09 Z7p Zei [.ref Z0c,.type "ValueError",.type "Exception",.type "BaseException",.type "object"] Zek Zem Zej Zel Zen Zeo Zep Zeq Zer Zes Zet "ValueError.__new__"))
  (Z6W:EO K (.ref Z09) "__getattribute__"=some (some<|.builtin "BaseException.__getattribute__")) (Z6X:EO K (.ref Z09) "__getattr__"=some none) (Z6Y:EO K (.ref Z09) "__class__"=some (some<|.builtin "object.__class__"))
  (Z7L:K.lookup Z7p=some ⟨Zeu,Zev,.dict Z6f Zew,Zex⟩) (Z6Z:JX Z6f) (Z70:nsFind Z6f "__init__"=none)
  (Z7M:Fc K mainGlobals "NoTablet"=some (some<|.ref Z0a))
  (Z7N:K.lookup Z0a=some (excClassObj Zey ZfK Z0a Z7q Zez [.ref Z0c,.type "ValueError",.type "Exception",.type "BaseException",.type "object"] ZeB ZeD ZeA ZeC ZeE ZeF ZeG ZeH ZeI ZeJ ZeK "ValueError.__new__"))
  (Z71:EO K (.ref Z0a) "__getattribute__"=some (some<|.builtin "BaseException.__getattribute__")) (Z72:EO K (.ref Z0a) "__getattr__"=some none) (Z73:EO K (.ref Z0a) "__class__"=some (some<|.builtin "object.__class__"))
  (Z7O:K.lookup Z7q=some ⟨ZeL,ZeM,.dict Z6g ZeN,ZeO⟩) (Z74:JX Z6g) (Z75:nsFind Z6g "__init__"=none)
  (Z4A:Fc K mainGlobals "NothingLeft"=some (some<|.ref Z03))
  (Z4B:K.lookup Z03=some (excClassObj Za7 Zbs Z03 Z4r Za8 [.ref Z0c,.type "ValueError",.type "Exception",.type "BaseException",.type "object"] Zaa Zac Za9 Zab Zad Zae Zaf Zag Zah Zai Zaj "ValueError.__new__"))
  (Z45:EO K (.ref Z03) "__getattribute__"=some (some<|.builtin "BaseException.__getattribute__")) (Z46:EO K (.ref Z03) "__getattr__"=some none) (Z47:EO K (.ref Z03) "__class__"=some (some<|.builtin "object.__class__"))
  (Z4C:K.lookup Z4r=some ⟨Zak,Zal,.dict Z3V Zam,Zan⟩) (Z48:JX Z3V) (Z49:nsFind Z3V "__init__"=none)
  (Z9D:Fc K mainGlobals "Unlike"=some (some<|.ref Z0l))
  (Z9E:K.lookup Z0l=some (excClassObj Zgv Zhj Z0l Zdf Zgw [.ref Z0c,.type "ValueError",.type "Exception",.type "BaseException",.type "object"] Zgy ZgA Zgx Zgz ZgB ZgC ZgD ZgE ZgF ZgG ZgH "ValueError.__new__"))
  (Z8v:EO K (.ref Z0l) "__getattribute__"=some (some<|.builtin "BaseException.__getattribute__")) (Z8w:EO K (.ref Z0l) "__getattr__"=some none) (Z8x:EO K (.ref Z0l) "__class__"=some (some<|.builtin "object.__class__"))
  (Z5J:Fc K mainGlobals "SeenThread"=some (some<|.ref Z05))
  (Z5K:K.lookup Z05=some (excClassObj Zbt Zdg Z05 Z8e Zbu [.ref Z0c,.type "ValueError",.type "Exception",.type "BaseException",.type "object"] Zbw Zby Zbv Zbx Zbz ZbA ZbB ZbC ZbD ZbE ZbF "ValueError.__new__"))
  (Z4D:EO K (.ref Z05) "__getattribute__"=some (some<|.builtin "BaseException.__getattribute__")) (Z4E:EO K (.ref Z05) "__getattr__"=some none) (Z4F:EO K (.ref Z05) "__class__"=some (some<|.builtin "object.__class__"))
  (Z76:Fc K mainGlobals "NoSuchWay"=some (some<|.ref Z07))
  (Z77:K.lookup Z07=some (excClassObj Zdh ZeP Z07 Z8V Zdi [.ref Z0c,.type "ValueError",.type "Exception",.type "BaseException",.type "object"] Zdk Zdm Zdj Zdl Zdn Zdo Zdp Zdq Zdr Zds Zdt "ValueError.__new__"))
  (Z5L:EO K (.ref Z07) "__getattribute__"=some (some<|.builtin "BaseException.__getattribute__")) (Z5M:EO K (.ref Z07) "__getattr__"=some none) (Z5N:EO K (.ref Z07) "__class__"=some (some<|.builtin "object.__class__"))
  (Z9F:Fc K mainGlobals "Barred"=some (some<|.ref Z0m))
  (Z9G:K.lookup Z0m=some (excClassObj ZgI Zhk Z0m Zdu ZgJ [.ref Z0c,.type "ValueError",.type "Exception",.type "BaseException",.type "object"] ZgL ZgN ZgK ZgM ZgO ZgP ZgQ ZgR ZgS ZgT ZgU "ValueError.__new__"))
  (Z8y:EO K (.ref Z0m) "__getattribute__"=some (some<|.builtin "BaseException.__getattribute__")) (Z8z:EO K (.ref Z0m) "__getattr__"=some none) (Z8A:EO K (.ref Z0m) "__class__"=some (some<|.builtin "object.__class__"))
  (hn1:Ly K (.builtin "object.__class__") "__get__"=some (some<|.builtin "getset_descriptor.__get__")) (ht1:Mc K (.builtin "object.__class__")=some true) (nd1:(Z0c::[Z06,Z0i,Z0d,Z0e,Z0f,Z08,Z09,Z0a,Z03,Z0l,Z05,Z07,Z0m]).Nodup)
  :∃fd:F8,(∀(s:EM)(v:EI),L7 s fd ⟨[v],[]⟩ [("_law_script",v)])/\∀base:Heap,K.In base->base.Ns mainGlobals mg->FnOk l.prog w K mg base CX0 28 fa fd ["_law_script"] (rq K):=by
 have e:=hfa.symm.trans<|Fo X G a_law;cases e;have Z8W:=d9 (st:=tp 64) Z6h Z6i Z38;have Z8X:=Z8W.binds (ps:=["_law_found","_law_due"]) (by walk_at "B2");have Z5O:=d9 (st:=tq 31 0) Z3k Z3l Z3m;have Z9H:=Z5O.binds (ps:=["self","deed","standing","reached","highest","lengths","pick"]) (by walk_at "B7");have Z5Z:=d9 (st:=tq 38 0) Z3D Z3E Z3F;have Z9V:=Z5Z.binds (ps:=["self","draft","most","spools"]) (by walk_at "B4");have Z9W:=d9 (st:=tq 38 1) Z7u Z7v Z4K;have ZfU:=Z9W.binds (ps:=["self"]) (by walk_at "B1");have Z8B:=d9 (st:=tq 38 2) Z5k Z5l Z3H;have Zdz:=Z8B.binds (ps:=["self","stages"]) (by walk_at "B2");have Z8C:=d9 (st:=tq 38 3) Z5o Z5p Z3I;have ZdA:=Z8C.binds (ps:=["self","row"]) (by walk_at "B2");have Z8Y:=d9 (st:=tq 38 4) Z6r Z6s Z4f;have ZeQ:=Z8Y.binds (ps:=["self","k"]) (by walk_at "B2");have Z8Z:=d9 (st:=tq 38 6) Z6v Z6w Z4g;have ZeR:=Z8Z.binds (ps:=["self"]) (by walk_at "B1");have Z90:=d9 (st:=tq 38 7) Z6z Z6A Z4h;have ZeS:=Z90.binds (ps:=["self"]) (by walk_at "B1");have Z7a:=d9 (st:=tq 38 8) Z43 Z44 Z2P;have ZaC:=Z7a.binds (ps:=["self"]) (by walk_at "B1");have Z91:=d9 (st:=tq 38 9) Z6D Z6E Z4i;have ZeT:=Z91.binds (ps:=["self"]) (by walk_at "B1");have Z8D:=d9 (st:=tq 38 10) Z5s Z5t Z3L;have ZdB:=Z8D.binds (ps:=["self"]) (by walk_at "B1");have Z8E:=d9 (st:=tq 38 11) Z5w Z5x Z3M;have ZdC:=Z8E.binds (ps:=["self","k"]) (by walk_at "B2");have Z92:=d9 (st:=tq 38 12) Z6H Z6I Z4j;have ZeU:=Z92.binds (ps:=["self","k"]) (by walk_at "B2");have Z93:=d9 (st:=tq 38 13) Z6L Z6M Z4k;have ZeV:=Z93.binds (ps:=["self","colour"]) (by walk_at "B2");have F_law:=d9 (st:=tp 66) l_law c_law k_law;have b_law:=F_law.binds (ps:=["_law_script"]) (by walk_at "B1");have Z8F:=d9 (st:=tp 62) Z5z Z5A Z3N;have ZdD:=Z8F.binds (ps:=["_law_e"]) (by walk_at "B1");have Z0k:Cls K Z00:=⟨Z9o,Z8f,Z9p,Z9q⟩
 have Z16:NoAttr K Z00 "deed":=Z4s;have Z0t:NoAttr K Z00 "standing":=Z2R;have Z0H:NoAttr K Z00 "reached":=Z3f;have Z0I:NoAttr K Z00 "highest":=Z3g;have Z0J:NoAttr K Z00 "lengths":=Z3h;have Z1m:NoAttr K Z00 "pick":=Z4t;have Z0j:Cls K Z01:=⟨Zap,Z9t,Zaq,Zar⟩
 have Z2p:NoAttr K Z01 "most":=Z59;have Z2d:NoAttr K Z01 "start":=Z4u;have Z0p:NoAttr K Z01 "course":=Z3W;have Z0Q:NoAttr K Z01 "undone":=Z3X;have Z4N:=FE X G Z5B;have Z3t:=FE X G ZfL;have Zf1:=FE X G ZfM;have Zf3:=FE X G ZfN;have Z85:=FE X G Zdw;have Z2m:=FE X G Zdx;have Z4c:=FE X G ZfO;have Z0n:=FE X G Z5C;have Z0C:=FE X G ZfP;have Z17:=FE X G Zdy;have Z4d:=FE X G ZfQ;have Z8J:=FE X G ZfR;have Z1W:=FE X G Zav;have Z7k:=FE X G ZfS;have Z8K:=FE X G Zaw;have Z1E:=FE X G ZfT;have Z1L:=Fo X G Zax;have Z4X:=Fo X G Z5D;have Z4Y:DictK K w Z1P [(FU<|EL "S",.str<|EL "Z"),(FU<|EL "Z",.str<|EL "S")]:=⟨by decide,Z5F,by decide +kernel,_,_,Z5E,(.cons ⟨fm _ _,rfl,⟨_,rfl⟩⟩<|.cons ⟨fm _ _,rfl,⟨_,rfl⟩⟩ .nil)⟩
 have Z99:=Fo X G Z9x;have Z9a:DictK K w Z3d [(Hq<|1,.str<|EL "s"),(Hq<|-1,.str<|EL "z"),(Hq<|0,.str<|EL "o")]:=⟨by decide,Z9z,by decide +kernel,_,_,Z9y,(.cons ⟨i4 _ _,rfl,⟨_,rfl⟩⟩<|.cons ⟨i4 _ _,rfl,⟨_,rfl⟩⟩<|.cons ⟨i4 _ _,rfl,⟨_,rfl⟩⟩ .nil)⟩
 have Z4L:=Fo X G Zay;have Z4M:DictK K w Z2r [(FU<|EL "f",.int<|1),(FU<|EL "b",.int<|-1),(FU<|EL "i",.int<|0)]:=⟨by decide,ZaA,by decide +kernel,_,_,Zaz,(.cons ⟨fm _ _,rfl,⟨_,rfl⟩⟩<|.cons ⟨fm _ _,rfl,⟨_,rfl⟩⟩<|.cons ⟨fm _ _,rfl,⟨_,rfl⟩⟩ .nil)⟩
 have Za2:=Fo X G ZaB;refine⟨FA "law" "law" (defArgs<|tp 66) (defBody<|tp 66) (defScope<|tp 66) .none kV_law dc_law pm_law an_law cd_law ct_law,fun s v=>.of_eq rfl,fun base KB _=>?_⟩;have Z2o:=Fo X G Z6N;have Z2s:XcK K Z0c Z6d vE:=⟨_,_,_,_,_,_,_,_,_,_,_,_,_,_,Z6O⟩
 have Z60:=Fo X G Z6P;have ZeW:XcK K Z06 Z8U (.ref Z0c::vE):=⟨_,_,_,_,_,_,_,_,_,_,_,_,_,_,Z6Q⟩
 have Z3P:=Fo X G Z9A;have ZdE:XcK K Z0i Z9n (.ref Z0c::vE):=⟨_,_,_,_,_,_,_,_,_,_,_,_,_,_,Z9B⟩
 have Z7W:=Fo X G Z8p;have ZgV:XcK K Z0d ZaD (.ref Z0c::vE):=⟨_,_,_,_,_,_,_,_,_,_,_,_,_,_,Z8q⟩
 have Z7X:=Fo X G Z8r;have ZgW:XcK K Z0e ZaE (.ref Z0c::vE):=⟨_,_,_,_,_,_,_,_,_,_,_,_,_,_,Z8s⟩
 have Z7Y:=Fo X G Z8t;have ZgX:XcK K Z0f ZaF (.ref Z0c::vE):=⟨_,_,_,_,_,_,_,_,_,_,_,_,_,_,Z8u⟩
 have Z2I:=Fo X G Z7G;have Z9X:XcK K Z08 Z7o (.ref Z0c::vE):=⟨_,_,_,_,_,_,_,_,_,_,_,_,_,_,Z7H⟩
 have Z2J:=Fo X G Z7J;have Z9Y:XcK K Z09 Z7p (.ref Z0c::vE):=⟨_,_,_,_,_,_,_,_,_,_,_,_,_,_,Z7K⟩
 have Z2K:=Fo X G Z7M;have Z9Z:XcK K Z0a Z7q (.ref Z0c::vE):=⟨_,_,_,_,_,_,_,_,_,_,_,_,_,_,Z7N⟩
 have Z1o:=Fo X G Z4A;have Z7V:XcK K Z03 Z4r (.ref Z0c::vE):=⟨_,_,_,_,_,_,_,_,_,_,_,_,_,_,Z4B⟩
 have Z94:=Fo X G Z9D;have Zhl:XcK K Z0l Zdf (.ref Z0c::vE):=⟨_,_,_,_,_,_,_,_,_,_,_,_,_,_,Z9E⟩
 have Z4O:=Fo X G Z5J;have ZdF:XcK K Z05 Z8e (.ref Z0c::vE):=⟨_,_,_,_,_,_,_,_,_,_,_,_,_,_,Z5K⟩
 have Z61:=Fo X G Z76;have ZeX:XcK K Z07 Z8V (.ref Z0c::vE):=⟨_,_,_,_,_,_,_,_,_,_,_,_,_,_,Z77⟩
 have Z95:=Fo X G Z9F;have Zhm:XcK K Z0m Zdu (.ref Z0c::vE):=⟨_,_,_,_,_,_,_,_,_,_,_,_,_,_,Z9G⟩
 have Z:Kin K base [Z06,Z0i,Z0d,Z0e,Z0f,Z08,Z09,Z0a,Z03,Z0l,Z05,Z07,Z0m] Z0c:=Kin.of KB hn1 ht1 rfl nd1 Z2s (FN.mpr ⟨⟨⟨_,ZeW⟩,Z5G,Z5H,Z5I⟩,FN.mpr ⟨⟨⟨_,ZdE⟩,Z8k,Z8l,Z8m⟩,FN.mpr ⟨⟨⟨_,ZgV⟩,Z7x,Z7y,Z7z⟩,FN.mpr ⟨⟨⟨_,ZgW⟩,Z7A,Z7B,Z7C⟩,FN.mpr ⟨⟨⟨_,ZgX⟩,Z7D,Z7E,Z7F⟩,FN.mpr ⟨⟨⟨_,Z9X⟩,Z6R,Z6S,Z6T⟩,FN.mpr ⟨⟨⟨_,Z9Y⟩,Z6W,Z6X,Z6Y⟩,FN.mpr ⟨⟨⟨_,Z9Z⟩,Z71,Z72,Z73⟩,FN.mpr ⟨⟨⟨_,Z7V⟩,Z45,Z46,Z47⟩,FN.mpr ⟨⟨⟨_,Zhl⟩,Z8v,Z8w,Z8x⟩,FN.mpr ⟨⟨⟨_,ZdF⟩,Z4D,Z4E,Z4F⟩,FN.mpr ⟨⟨⟨_,ZeX⟩,Z5L,Z5M,Z5N⟩,FN.mpr ⟨⟨⟨_,Zhm⟩,Z8y,Z8z,Z8A⟩,fun _ h=>nomatch h⟩⟩⟩⟩⟩⟩⟩⟩⟩⟩⟩⟩⟩);have Z9d:Ecl base Z0i:=Ni KB ZdE Z2s Z9C rfl Z8n Z8o Z27 rfl Z1R Z1S;have Z7n:Ecl base Z0a:=Ni KB Z9Z Z2s Z7O rfl Z74 Z75 Z27 rfl Z1R Z1S;have Z1X:Ecl base Z03:=Ni KB Z7V Z2s Z4C rfl Z48 Z49 Z27 rfl Z1R Z1S;have Z7l:Ecl base Z09:=Ni KB Z9Y Z2s Z7L rfl Z6Z Z70 Z27 rfl Z1R Z1S;have Z7m:Ecl base Z08:=Ni KB Z9X Z2s Z7I rfl Z6U Z6V Z27 rfl Z1R Z1S;have Z50:CalH l.prog w K mg base "_law_kinds" ["_law_e"] 1 (ij K [Z06,Z0i,Z0d,Z0e,Z0f,Z08,Z09,Z0a,Z03,Z0l,Z05,Z07,Z0m] Z0c):=⟨Z3A,_,wd Z8F Z0n Z4N Z60 Z3P Z7W Z7X Z7Y Z2I Z2J Z2K Z1o Z94 Z4O Z61 Z95 Z2o,Fo X G Z5y,Z3N,ZdD⟩
 have SA:∀n:Nat,Cal l.prog w K mg base "_law_same" ["_law_found","_law_due"] n (f9 K n):=fun n=>by
  induction n with
  |zero=>exact⟨Z31,_,yE,Fo X G Z4e,Z38,Z8X⟩
  |succ n ih=>exact⟨Z31,_,we Z8W Z0C Z0n Z85 Z4c Z7k Z17 Z8K Z1E ih,Fo X G Z4e,Z38,Z8X⟩
 have Z1b:=SA 26;have Z1z:Cal l.prog w K mg base _ _ _ (bU _ _ _ iu):=Z8g.cal X G fun F=>DF F Z0C;have Z1K:Cal l.prog w K mg base _ _ _ (jw _ _ _ _ lu):=Z7r.cal X G fun F=>DG F Z3t Z1W;have Z4P:Cal l.prog w K mg base _ _ _ (dO _ _ yp):=Z5a.cal X G fun F=>DH F Z1K;have Z62:Cal l.prog w K mg base _ _ _ (dO _ _ wX):=Z6j.cal X G fun F=>DJ F Z4P;have Z3u:Cal l.prog w K mg base _ _ _ (jw _ _ _ _ tV):=Z5b.cal X G fun F=>DK F Z62 Z1z Z1W;have Z63:Cal l.prog w K mg base _ _ _ (dO _ _ yq):=Z6k.cal X G fun F=>DL F;have Z4n:Cal l.prog w K mg base _ _ _ (bU _ _ _ yr):=Z4v.cal X G fun F=>DM F Z1K Z4c;have Z2Q:Cal l.prog w K mg base _ _ _ (dO _ _ yt):=Z2S.cal X G fun F=>DN F Z1z Z3u Z63 Z4n Z4d Z8J;have Z2L:CalI l.prog w K mg base "Stage" Z00 ["self","deed","standing","reached","highest","lengths","pick"] (1) (tj Z00 ["deed","standing","reached","highest","lengths","pick"]):=⟨⟨Z1Q,_,⟨Z9r,Z3i,Z3j,Z9s⟩,DO Z5O Z0k Z16 Z0t Z0H Z0I Z0J Z1m,Fo X G Zao,Z9H⟩⟩
 have Z4o:Cal l.prog w K mg base _ _ _ (bU _ _ _ yu):=Z4w.cal X G fun F=>DP F Z2L Z0k Z2m Z0C Z17;have ZbP:CalI l.prog w K mg base "Loom" Z01 ["self","draft","most","spools"] (4) (rg Z01 (eN K Z00) (wC (sh<|isL<|qA K)<|wC (sh isI)<|wC (sh jg) wN)<|fun a=>yv a.1 a.2.1 a.2.2.1):=⟨⟨Z24,_,⟨Zas,Z3B,Z3C,Zat⟩,DQ Z5Z Z4o Z0j Z0p Z2p Z2d Z0Q,Fo X G Zdv,Z9V⟩⟩
 have Z56:Cal l.prog w K mg base _ _ _ (bU _ _ _ yw):=Z5c.cal X G fun F=>DS F Z2m Z17;have Z64:Cal l.prog w K mg base _ _ _ (dO _ _ yx):=Z6l.cal X G fun F=>DT F;have Z4Q:Cal l.prog w K mg base _ _ _ (bU _ _ _ yy):=Z5d.cal X G fun F=>DU F Z64 Z0C;have Z4R:Cal l.prog w K mg base _ _ _ (bU _ _ _ yz):=Z5e.cal X G fun F=>DV F Z1K;have Z3R:Cal l.prog w K mg base _ _ _ (bU _ _ _ yA):=Z3Y.cal X G fun F=>DW F Z4Q Z4R;have Z6c:Cal l.prog w K mg base _ _ _ (bU _ _ _ tE):=Z6m.cal X G fun F=>DX F Z3R;have Z3v:Cal l.prog w K mg base _ _ _ (dO _ _ w5):=Z3G.cal X G fun F=>DY F;have Z2A:Cal l.prog w K mg base _ _ _ (dO _ _ p9):=Z8h.cal X G fun F=>DZ F;have Z2e:Cal l.prog w K mg base _ _ _ (bU _ _ _ mP):=Z5f.cal X G fun F=>E3 F Z2A;have Z4p:Cal l.prog w K mg base _ _ _ (bU _ _ _ wY):=Z4x.cal X G fun F=>E6 F Z2A;have Z4U:Cal l.prog w K mg base _ _ _ (jw _ _ _ _ rj):=Z5g.cal X G fun F=>E7 F Z2e Z4p Z3t Z2m Z4c Z0C Z4d Z8J Z1E;have Z2q:Cal l.prog w K mg base _ _ _ (bU _ _ _ lN):=Z6n.cal X G fun F=>E8 F Z2e Z1E;have Z84:Cal l.prog w K mg base _ _ _ (Bu (oL<|eo K) (oL<|eo K) (aC (isU K)<|aC isI aN) (isU K)<|fun x y a=>mQ x y a.1 a.2.1):=Z8i.cal X G fun F=>E9 F Z3v Z4U Z2q Z0n Z0C Z17 Z7k;have Z0L:CalM l.prog w K mg base CX0 Z01 "now" ["self"] (1) (gH (wC (vw<|af K Z00 Z01) wN) (rs<|aT K Z00)<|fun a=>fJ a.1):=⟨⟨Z3z,_,Ea Z9W Z0j Z0p Z2d,⟨Z7s,Z7t,Z4K⟩,Z0j,ZfU⟩⟩
 have Z9b:Cal l.prog w K mg base _ _ _ (bU _ _ _ wZ):=Z9u.cal X G fun F=>Eb F Zf1 Z0C Za2;have Z2N:Cal l.prog w K mg base _ _ _ (bU _ _ _ oR):=Z7w.cal X G fun F=>Ec F Z4L Z4M;have Za3:Cal l.prog w K mg base _ _ _ (bU _ _ _ w6):=Zau.cal X G fun F=>Ed F Z1E;have Z65:CalR l.prog w K mg base _ _ _ (lM jg jg [Z06,Z0i,Z0d,Z0e,Z0f,Z08,Z09,Z0a,Z03,Z0l,Z05,Z07,Z0m] (rs jg) x5):=Z6o.calR X G fun F=>Ee F Z2m Z2J Z7l;have Z9c:Cal l.prog w K mg base _ _ _ (bU _ _ _ w8):=Z9v.cal X G fun F=>Ef F Z1L Z4L Z4M;have C_top:Cal l.prog w K mg base _ _ _ (dO _ _ jc):=d_top.cal X G fun F=>BR F Z1L;have Z98:Cal l.prog w K mg base _ _ _ (dO _ _ yB):=Z9w.cal X G fun F=>Eg F Z1L;have Z4W:Cal l.prog w K mg base _ _ _ (bU _ _ _ x6):=Z5h.cal X G fun F=>Eh F C_top Z98 Z2N Z99 Z9a;have Z4q:CalR l.prog w K mg base _ _ _ (xX (aT K Z00) isS isI [Z06,Z0i,Z0d,Z0e,Z0f,Z08,Z09,Z0a,Z03,Z0l,Z05,Z07,Z0m] (rs<|aT K Z00) rl):=Z4y.calR X G fun F=>Ei F Z9b Z2N Z65 Za3 Z9c Z4W Z2L Z0k Z0I Z0J Z0H Z0t Z3t Zf3 Z0C Z4d Z1E Z3P Z9d Z2I Z7m;have Z2f:CalM l.prog w K mg base CX0 Z01 "go_on" ["self","stages"] (1) (sS (af K Z00 Z01) (aC (isL<|aT K Z00) aN) isN<|fun st a=>nJ st a.1):=⟨⟨Z2C,_,Ej Z8B Z0j Z0p Z0Q,⟨Z5i,Z5j,Z3H⟩,Z0j,Zdz⟩⟩
 have Z4Z:CalM l.prog w K mg base (CXR l.prog w) Z01 "weave" ["self","row"] (4) (r6 (af K Z00 Z01) (aC isS aN) [Z06,Z0i,Z0d,Z0e,Z0f,Z08,Z09,Z0a,Z03,Z0l,Z05,Z07,Z0m] (qD K)<|fun st a=>w9 st a.1):=⟨⟨Z2D,_,Ek Z8C Z4q Z0L Z2f Z0j Z0k Z2p Z1m Z17,⟨Z5m,Z5n,Z3I⟩,Z0j,ZdA⟩⟩
 have Z3T:CalR l.prog w K mg base _ _ _ (lM (isL<|qA K) isI [Z06,Z0i,Z0d,Z0e,Z0f,Z08,Z09,Z0a,Z03,Z0l,Z05,Z07,Z0m] (rs isN) wa):=Z3Z.calR X G fun F=>El F Z0C Z2K Z7n;have Z82:Cal l.prog w K mg base _ _ _ (dO _ _ yC):=Z8j.cal X G fun F=>Em F Z1L Z4X Z4Y;have Z3x:CalR l.prog w K mg base _ _ _ (lM (aT K Z00) isI [Z06,Z0i,Z0d,Z0e,Z0f,Z08,Z09,Z0a,Z03,Z0l,Z05,Z07,Z0m] (rs<|aT K Z00) tW):=Z3J.calR X G fun F=>En F Z3T Z82 Z2L Z0k Z0I Z0J Z0H Z0t Z17;have Z66:CalM l.prog w K mg base (CXR l.prog w) Z01 "flip" ["self","k"] (4) (r6 (af K Z00 Z01) (aC isI aN) [Z06,Z0i,Z0d,Z0e,Z0f,Z08,Z09,Z0a,Z03,Z0l,Z05,Z07,Z0m] isN<|fun st a=>wb st a.1):=⟨⟨Z32,_,Eo Z8Y Z2f Z3x Z0L Z0j,⟨Z6p,Z6q,Z4f⟩,Z0j,ZeQ⟩⟩
 have Z67:CalM l.prog w K mg base (CXR l.prog w) Z01 "undo" ["self"] (1) (r6 (af K Z00 Z01) aN [Z06,Z0i,Z0d,Z0e,Z0f,Z08,Z09,Z0a,Z03,Z0l,Z05,Z07,Z0m] (isU K)<|fun st a=>x8 st):=⟨⟨Z33,_,Ep Z8Z Z0j Z0k Z0p Z0Q Z16 Z1o Z1X,⟨Z6t,Z6u,Z4g⟩,Z0j,ZeR⟩⟩
 have Z68:CalM l.prog w K mg base (CXR l.prog w) Z01 "redo" ["self"] (1) (r6 (af K Z00 Z01) aN [Z06,Z0i,Z0d,Z0e,Z0f,Z08,Z09,Z0a,Z03,Z0l,Z05,Z07,Z0m] (isU K)<|fun st a=>x9 st):=⟨⟨Z34,_,Es Z90 Z0j Z0k Z0p Z0Q Z16 Z1o Z1X,⟨Z6x,Z6y,Z4h⟩,Z0j,ZeS⟩⟩
 have Z3y:Cal l.prog w K mg base _ _ _ (sS (af K Z00 Z01) (aC (isU K) aN) (isU K)<|fun st a=>mR st a.1):=Z3K.cal X G fun F=>Et F Z4Z Z66 Z67 Z68 Z0j Z Z2o Z50;have Z2O:Cal l.prog w K mg base _ _ _ (gH (wC (pk<|isT2 K (jh K)<|isU K) wN) (ro<|qD K)<|fun a=>qa a.1):=Z40.cal X G fun F=>Eu F Z2q;have Z3U:CalM l.prog w K mg base CX0 Z01 "tablets" ["self"] (2) (gH (wC (vw<|af K Z00 Z01) wN) (ro<|qA K)<|fun a=>xa a.1):=⟨⟨Z2g,_,Ew Z7a Z0L Z0j Z0k Z0t Z17,⟨Z41,Z42,Z2P⟩,Z0j,ZaC⟩⟩
 have Z69:CalM l.prog w K mg base CX0 Z01 "band" ["self"] (1) (gH (wC (vw<|af K Z00 Z01) wN) (ro<|qD K)<|fun a=>xb a.1):=⟨⟨Z35,_,Ex Z91 Z0j Z0k Z0p Z1m Z17,⟨Z6B,Z6C,Z4i⟩,Z0j,ZeT⟩⟩
 have Z51:CalM l.prog w K mg base CX0 Z01 "deeds" ["self"] (1) (gH (wC (vw<|af K Z00 Z01) wN) (ro<|isU K)<|fun a=>xc a.1):=⟨⟨Z2E,_,Ey Z8D Z0j Z0k Z0p Z16,⟨Z5q,Z5r,Z3L⟩,Z0j,ZdB⟩⟩
 have Z52:CalM l.prog w K mg base CX0 Z01 "twist" ["self","k"] (2) (gH (wC (vw<|af K Z00 Z01)<|wC (sh isI) wN) (rs isI)<|fun a=>rm a.1 a.2.1):=⟨⟨Z2F,_,Ez Z8E Z0L Z0j Z0k Z0H,⟨Z5u,Z5v,Z3M⟩,Z0j,ZdC⟩⟩
 have Z6a:CalM l.prog w K mg base CX0 Z01 "peak" ["self","k"] (2) (gH (wC (vw<|af K Z00 Z01)<|wC (sh isI) wN) (rs isI)<|fun a=>rn a.1 a.2.1):=⟨⟨Z36,_,EA Z92 Z0L Z0j Z0k Z0I,⟨Z6F,Z6G,Z4j⟩,Z0j,ZeU⟩⟩
 have Z6b:CalM l.prog w K mg base CX0 Z01 "rest" ["self","colour"] (2) (gH (wC (vw<|af K Z00 Z01)<|wC (sh isS) wN) (rs isI)<|fun a=>qb a.1 a.2.1):=⟨⟨Z37,_,EB Z93 Z0L Z0j Z0k Z0J,⟨Z6J,Z6K,Z4k⟩,Z0j,ZeV⟩⟩
 have Z3c:Cal l.prog w K mg base _ _ _ (gH (wC (vw<|af K Z00 Z01)<|wC (sh<|jh K)<|wC (sh<|isL<|qD K)<|wC (sh<|isL<|isU K) wN) (rs isB)<|fun a=>qc a.1 a.2.1 a.2.2.1 a.2.2.2.1):=Z4z.cal X G fun F=>EC F Z1b Z3U Z69 Z51 Z52 Z6a Z6b Z0j Z0C Z1W;exact FnOk.imp (BS F_law Z2Q ZbP Z56 Z1z Z6c Z84 Z1b Z3y Z3c Z2O Z0j Z0C Z1W) yX
theorem walk{l:Jj}{q:Ff}{loose:List Str}{XP:(Str->Option EI)->Heap->Prop}{YP:Fp->Heap->Prop}{d:DefRec}{K:NM->EH}(hn:l.most=some 63)(hdf:d.params.defaults=[])(hY:∀(w:Fp)(h:Heap),YP w h->(K w.params).In h)
  (F:∀(w:Fp)(mg:Str->Option EI)(fa:Addr)(h:Heap),(K w.params).In h->h.Ns mainGlobals mg->mg d.name=some (.ref fa)->∃fd:F8,(∀(s:EM)(u:EI),L7 s fd ⟨[u],[]⟩ [("_law_script",u)])/\∀base:Heap,(K w.params).In base->base.Ns mainGlobals mg->FnOk l.prog w (K w.params) mg base CX0 28 fa fd ["_law_script"] (rq<|K w.params)):
  Mg q loose XP YP l.row.toRowW d [] (fun f vs=>Mr f vs):=
 L2.walk_of (n:=63) (k:=28) (x:="_law_script") (CX:=fun _=>CX0) (sp:=fun w=>rq<|K w.params) hn (by decide) hdf ⟨rfl,by decide,by decide⟩ hY F (fun _ _ a ns hl _ hS=>⟨a,ns,rfl,hS,hl,fun _=>rfl⟩) fun _ _ _ _ _ z=>z
end Wb
local macro_rules | `(tactic| walk_at "D") => `(tactic| (apply Wb.DI.mk; (case da => k_is); (case dl => k_is); (case dc => k_is); (case dk => k_is); exact fun _ _ _ _ _ _ _ => rfl))
open PySem PySem.W PyProof.Rows
set_option maxRecDepth 100000 in
set_option maxHeartbeats 0 in
theorem PySem.Challenge.cw_wornband_k45_undo_and_redo_holds : PySem.Challenge.rw_wornband_k45_undo_and_redo.Holds := by
 refine hd ?_
 k_fill
 refine Wb.walk (l:=GS) rfl rfl (fun w h Y=>PySem.W.kIn_of Y) ?F
 case F=>
  intro w mg fa h KX G hmg
  refine' Wb.fin_mk KX G hmg ?Zao ?Z9o ?Z8f ?Z9p ?Z9q ?Z9r ?Z9s ?Z4s ?Z2R ?Z3f ?Z3g ?Z3h ?Z4t ?Zdv ?Zap ?Z9t ?Zaq ?Zar ?Zas ?Zat ?Z59 ?Z4u ?Z3W ?Z3X ?Z4e ?Z6h ?Z6i ?Z38 ?Z8g ?Z7r ?Z5a ?Z6j ?Z5b ?Z6k ?Z4v ?Z2S ?Z3i ?Z3j ?Z3k ?Z3l ?Z3m ?Z4w ?Z3B ?Z3C ?Z3D ?Z3E ?Z3F ?Z5c ?Z6l ?Z5d ?Z5e ?Z3Y ?Z6m ?Z3G ?Z8h ?Z5f ?Z4x ?Z5g ?Z6n ?Z8i ?Z7s ?Z7t ?Z7u ?Z7v ?Z4K ?Z9u ?Z7w ?Zau ?Z6o ?Z9v ?d_top ?Z9w ?Z5h ?Z4y ?Z5i ?Z5j ?Z5k ?Z5l ?Z3H ?Z5m ?Z5n ?Z5o ?Z5p ?Z3I ?Z3Z ?Z8j ?Z3J ?Z6p ?Z6q ?Z6r ?Z6s ?Z4f ?Z6t ?Z6u ?Z6v ?Z6w ?Z4g ?Z6x ?Z6y ?Z6z ?Z6A ?Z4h ?Z3K ?Z40 ?Z41 ?Z42 ?Z43 ?Z44 ?Z2P ?Z6B ?Z6C ?Z6D ?Z6E ?Z4i ?Z5q ?Z5r ?Z5s ?Z5t ?Z3L ?Z5u ?Z5v ?Z5w ?Z5x ?Z3M ?Z6F ?Z6G ?Z6H ?Z6I ?Z4j ?Z6J ?Z6K ?Z6L ?Z6M ?Z4k ?Z4z ?a_law ?l_law ?c_law ?k_law ?Z5y ?Z5z ?Z5A ?Z3N ?Z5B ?ZfL ?ZfM ?ZfN ?Zdw ?Zdx ?ZfO ?Z5C ?ZfP ?Zdy ?ZfQ ?ZfR ?Zav ?ZfS ?Zaw ?ZfT ?Zax ?Z5D ?Z5E ?Z5F ?Z9x ?Z9y ?Z9z ?Zay ?Zaz ?ZaA ?ZaB ?Z6N ?Z6O ?Z27 ?Z1R ?Z1S ?Z6P ?Z6Q ?Z5G ?Z5H ?Z5I ?Z9A ?Z9B ?Z8k ?Z8l ?Z8m ?Z9C ?Z8n ?Z8o ?Z8p ?Z8q ?Z7x ?Z7y ?Z7z ?Z8r ?Z8s ?Z7A ?Z7B ?Z7C ?Z8t ?Z8u ?Z7D ?Z7E ?Z7F ?Z7G ?Z7H ?Z6R ?Z6S ?Z6T ?Z7I ?Z6U ?Z6V ?Z7J ?Z7K ?Z6W ?Z6X ?Z6Y ?Z7L ?Z6Z ?Z70 ?Z7M ?Z7N ?Z71 ?Z72 ?Z73 ?Z7O ?Z74 ?Z75 ?Z4A ?Z4B ?Z45 ?Z46 ?Z47 ?Z4C ?Z48 ?Z49 ?Z9D ?Z9E ?Z8v ?Z8w ?Z8x ?Z5J ?Z5K ?Z4D ?Z4E ?Z4F ?Z76 ?Z77 ?Z5L ?Z5M ?Z5N ?Z9F ?Z9G ?Z8y ?Z8z ?Z8A ?hn1 ?ht1 ?nd1
  (case Zao|Z9o|Z8f|Z9p|Z9q|Z9r|Z9s|Z4s|Z2R|Z3f|Z3g|Z3h|Z4t|Zdv|Zap|Z9t|Zaq|Zar|Zas|Zat|Z59|Z4u|Z3W|Z3X|Z4e|Z6h|Z6i|Z38=>k_is)
  (case Z8g|Z7r|Z5a|Z6j|Z5b|Z6k|Z4v|Z2S=>walk_at "D")
  (case Z3i|Z3j|Z3k|Z3l|Z3m=>k_is)
  (case Z4w=>walk_at "D")
  (case Z3B|Z3C|Z3D|Z3E|Z3F=>k_is)
  (case Z5c|Z6l|Z5d|Z5e|Z3Y|Z6m|Z3G|Z8h|Z5f|Z4x|Z5g|Z6n|Z8i=>walk_at "D")
  (case Z7s|Z7t|Z7u|Z7v|Z4K=>k_is)
  (case Z9u|Z7w|Zau|Z6o|Z9v|d_top|Z9w|Z5h|Z4y=>walk_at "D")
  (case Z5i|Z5j|Z5k|Z5l|Z3H|Z5m|Z5n|Z5o|Z5p|Z3I=>k_is)
  (case Z3Z|Z8j|Z3J=>walk_at "D")
  (case Z6p|Z6q|Z6r|Z6s|Z4f|Z6t|Z6u|Z6v|Z6w|Z4g|Z6x|Z6y|Z6z|Z6A|Z4h=>k_is)
  (case Z3K|Z40=>walk_at "D")
  (case Z41|Z42|Z43|Z44|Z2P|Z6B|Z6C|Z6D|Z6E|Z4i|Z5q|Z5r|Z5s|Z5t|Z3L|Z5u|Z5v|Z5w|Z5x|Z3M|Z6F|Z6G|Z6H|Z6I|Z4j|Z6J|Z6K|Z6L|Z6M|Z4k=>k_is)
  (case Z4z=>walk_at "D")
  (case a_law|l_law|c_law|k_law|Z5y|Z5z|Z5A|Z3N|Z5B|ZfL|ZfM|ZfN|Zdw|Zdx|ZfO|Z5C|ZfP|Zdy|ZfQ|ZfR|Zav|ZfS|Zaw|ZfT|Zax|Z5D|Z5E=>k_is)
  (case Z5F=>rfl)
  (case Z9x|Z9y=>k_is)
  (case Z9z=>rfl)
  (case Zay|Zaz=>k_is)
  (case ZaA=>rfl)
  (case ZaB|Z6N|Z6O|Z27=>k_is)
  (case Z1R=>exact Wb.strKeys_of rfl)
  (case Z1S=>first|rfl|kernel_rfl)
  (case Z6P|Z6Q|Z5G|Z5H|Z5I|Z9A|Z9B|Z8k|Z8l|Z8m|Z9C=>k_is)
  (case Z8n=>exact Wb.strKeys_of rfl)
  (case Z8o=>first|rfl|kernel_rfl)
  (case Z8p|Z8q|Z7x|Z7y|Z7z|Z8r|Z8s|Z7A|Z7B|Z7C|Z8t|Z8u|Z7D|Z7E|Z7F|Z7G|Z7H|Z6R|Z6S|Z6T|Z7I=>k_is)
  (case Z6U=>exact Wb.strKeys_of rfl)
  (case Z6V=>first|rfl|kernel_rfl)
  (case Z7J|Z7K|Z6W|Z6X|Z6Y|Z7L=>k_is)
  (case Z6Z=>exact Wb.strKeys_of rfl)
  (case Z70=>first|rfl|kernel_rfl)
  (case Z7M|Z7N|Z71|Z72|Z73|Z7O=>k_is)
  (case Z74=>exact Wb.strKeys_of rfl)
  (case Z75=>first|rfl|kernel_rfl)
  (case Z4A|Z4B|Z45|Z46|Z47|Z4C=>k_is)
  (case Z48=>exact Wb.strKeys_of rfl)
  (case Z49=>first|rfl|kernel_rfl)
  (case Z9D|Z9E|Z8v|Z8w|Z8x|Z5J|Z5K|Z4D|Z4E|Z4F|Z76|Z77|Z5L|Z5M|Z5N|Z9F|Z9G|Z8y|Z8z|Z8A|hn1|ht1=>k_is)
  (case nd1=>decide)
