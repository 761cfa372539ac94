import PyProof.Rows.All
import Wide.All
import OpenK.AllK
import Wide.FinOn
import PyProof.EqAt
import PyProof.EqKinds
import PyProof.TupleCall
import KE.KDictSum
import KE.KRevIter
import KE.KRevSl
import KE.KDictLaws
import PyProof.StrLawsFirst
import KE.LcSums
import PyProof.EnumMake
import PyProof.TupleIter
import PyProof.StationsW
import PyProof.Rows.Own
import PyProof.NsDelKeeps
import PyProof.RulesAs
import PyProof.ExcAttrAll.ValueError
import KE.KIsAll
import PyProof.ExcBaseAll.ValueError
import PyProof.Rows.FStr
import PyProof.FString
import PyProof.Rows.StrNews
import PyProof.StrLawsTight
import PyProof.StrLawsChain
import PyProof.ExcInit
import PyProof.ExcClass3
import PyProof.InstStoreFacts
import PySem.SetTable
import PySem.SetOps
import PyProof.TupleKey
import PyProof.SetKind
import PyProof.IsRules
import KE.KSortTup
import PyProof.Rows.SortRun
import PyProof.Rows.SortShell
import PyProof.DictWalks
import PyProof.DictTruth
import PyProof.NeKinds
import PyProof.Rows.TupTab
import PyProof.Rows.SetFrom
import PyProof.SetRoads
import PyProof.AutoListH
import PyProof.DictItems
import KE.KEqDict
import PySem.Challenge.RW_wornband_k43_rows_on_the_loom
open Array renaming length_toList->Ek,getElem?_eq_some_iff->Ft,getElem?_eq_getElem->HL,mem_toList_iff->IY,toList->Lk
open Bool renaming false_ne_true->Dd,false_eq_true->Ed,eq_iff_iff->Ef,not_eq_true'->GL,false_and->IX,not_false->J5,not_true->Jh,and_false->Kq,true_and->Lh
open Classical renaming byContradiction->Eb
open False renaming elim->Ew
open ForInStep renaming yield->FZ
open Iff renaming rfl->Gm
open Int renaming emod_lt_of_pos->DS,emod_nonneg->E9,toNat_natCast->EL,le_refl->K9,le_trans->Lo
open List renaming getElem?_eq_some_iff->CP,mem_cons_self->D0,mem_cons_of_mem->D4,mem_cons->D7,size_toArray->D9,replicate->Dh,mem_map->Di,getElem?_eq_getElem->Dj,length_map->Dq,getElem?_append_right->Dt,length_append->Du,mem_append_right->Dw,getElem?_append_left->Dz,getElem?_eq_none_iff->DA,find?_cons_of_neg->DH,append_nil->DK,forall_mem_cons->DL,Nodup->DM,map_cons->DO,getElem?_map->DQ,length_cons->DW,mem_of_getElem?->DZ,not_mem_nil->E6,nodup_cons->E7,replicate_succ->Em,mem_append_left->Et,length->Ex,of_mem_zip->Ez,find?_cons_of_pos->EE,lookup->EK,lookup_cons->ES,flatten_cons->F0,length_set->F5,append_assoc->Fd,mem_append->Ff,mem_singleton->Fu,getElem?_zip_eq_some->Fx,drop_eq_getElem_cons->Fy,getElem?_set->FA,filterMap_cons->FF,length_take->FI,drop_length->FK,range->FQ,getElem?_set_self->FR,find?_cons->FX,length_nil->FY,eraseIdx_set_eq->G6,getD_eq_getElem?_getD->G7,map_nil->G8,length_drop->G9,map_congr_left->Gb,foldl_cons->Gg,nil_append->Gh,forIn_cons->Gi,length_zip->Gk,mem_filterMap->Gn,getElem?_cons_zero->GA,getElem?_cons_succ->GB,take_of_length_le->GH,map_map->GI,forIn_nil->GJ,ext_getElem?->GK,length_replicate->GO,zipIdx_cons->GW,all_eq_true->GY,any_eq_true->H9,any_cons->Ha,getElem?_set_ne->Hc,zipIdx_nil->Hq,mem_range->Hy,set_cons_zero->HG,set_cons_succ->HH,mem_of_find?_eq_some->HM,cons_append->Ij,drop_eq_nil_of_le->IB,length_pos_of_mem->ID,length_singleton->IP,mem_iff_getElem?->IT,lookup_append->Jp,contains_cons->Jr,find?_eq_none->Jt,flatMap_cons->JO,length_range->JP,getElem_mem->JZ,mem_filter->Ka,find?_some->Kf,foldl->Ko,drop_zero->Ks,nodup_nil->Kx,take->Mb
open List.Pairwise renaming nil->HR
open List.cons renaming injEq->IH
open Nat renaming lt_of_lt_of_le->CZ,le_refl->D8,ne_of_lt->Dc,lt_irrefl->DN,le_trans->EA,lt_succ_self->EC,le_add_right->ET,ne_of_gt->EZ,le_of_lt->Fz,zero_le->Gx,le_succ->Hd,lt_trans->Iu,reduceAdd->Ji,reduceSub->Jj,lt_succ_of_lt->JJ,sub_self->JN,le_of_eq->Lm
open Ne renaming symm->Ec
open Option renaming map_eq_some_iff->ED,ne_none_iff_exists'->G5,getD_some->Ga,map_some->Gj,isSome_iff_exists->HY,getD_none->HZ,bind_eq_some_iff->Ic,bind_some->Ie,isSome_some->Jn,isSome_map->JH
open Option.some renaming inj->DJ,injEq->HW
open Or renaming inr->Gr,inl->GG
open Prod renaming ext->Me
open PyProof.Rows renaming boot_isinstance->CV,boot_list->Ee,callWith_type1->Fi,boot_dict->Fm,boot_abs->Fw,boot_int->G1,boot_bool->GN,boot_max->GR,boot_str->GS,AllBare->Hv,boot_tuple->Ik,subscriptTail_builtinR->Ip,slot_tupleiter_next->Jd,IntsAre->JF,callWith_builtin1->JW,Subscript_->Kl,isub_int->Lu,boot_min->Lv,boot_all->Lw,boot_any->Lx,TupTab->LK,IsTup->M1
open PyProof.Rows.LSm renaming kept_iter->Le
open PySem renaming wpAny_bind->CI,Value->CN,Shared->CO,wpAny_pure->CU,FuncData->Df,Program->Dg,World->Dr,wpAny_field->Dx,Around->Dy,wpAny_seqItems->DV,wpAny_callSpecial?_slot->DX,wpAny_setField_rec->DY,wpAny_call_entry->E8,boot_len->Ei,sizeLine_eq->El,wpAny_newObj_type->Ep,Spec->Es,wpAny_mono->Eu,mem_of_lookup->EH,wpAny_setField->EM,DictEntry->ER,wpAny_truthy_bool->EY,wpAny_isInstance->F8,wpAny_attempt->F9,wpAny_onRaise->Fb,wpAny_typeNameOfWhole_keyiter->Fc,wpAny_holding->Fo,isSubtype_stop->Fq,wpAny_typeNameOf_keyiter->FE,NameKind->FH,Scope->FO,IsZip->FP,wpAny_Call_Name_kw->FT,wpAny_pyIter_list->G2,wpAny_letGo->G4,wpAny_comprehension_free->Ge,wpAny_passesOwn->Gf,tupleKind_room_in1->Gq,IsPair->Gv,wpAny_Call_method0_late->Gy,wpAny_rule->GV,wpAny_pyIter_zip->GX,wpAny_updateSeq_pair->Hg,wpAny_execs_nil->Hm,pushCells_keeps->Ho,evalArgs_none->Hu,codeAny_mono->Hw,wpAny_newFunctionEnv_cells->HD,wpAny_letOwnedTupleGo_zip->HK,wpAny_pyIter_slot->HU,wpAny_dictEntries->HV,wpAny_pyNext_list_item->Im,wpAny_call->Io,Keyword->Iq,call_meets->Ir,call_meetsIn->Iw,codeAny_compStart_list->Iz,Draws->IF,wpAny_dictEpoch->IG,wpAny_isTrue_Compare1->IJ,codeAny_call_function->IL,wpAny_isOneOf_keyiter->IW,sliceRange_one->J4,BindsTo->J9,StrKeys->Ja,wpAny_isSubtype_exc->Jc,wpAny_standAt->Jf,wpAny_handled->Jg,PlainAttrs->Jm,wpAny_pyIter_ascii->Jo,slot_listiter_next->Js,Within->Jx,wpAny_assign_Name->Jy,slot_list_getitem->JG,wpAny_pyIter_wide->JI,Builtin->JK,wpAny_loadPart_at->JM,wpAny_execs_cons->JT,wpAny_getItem_of->JX,wpAny_of_eq->K7,wpAny_throw->K8,wpAny_specialOf->Kd,Model->Ki,wpAny_Name->Kj,wpAny_loadPart->Kk,typeIs_str->Km,typeIs_int->Kn,call->Kr,wpAny_newTuple->Kt,numAt_eq->Ku,wpAny_fieldsOf->Kw,intBits_le_64->KP,evalPart_none->La,call_list_seq->Lb,eval_ListComp->Lc,nums_intItems->Ld,Result->Ll,CellsOk->Ln,Operator->LC,Params->LV,CmpOp->M3
open PySem.Around renaming frames_deeper->IZ,under->JC
open PySem.Builtin.Dict renaming showsAll->IU,dictSlotNone->KN
open PySem.Builtin.Dict_items renaming ownsTuple->Hr
open PySem.Builtin.List renaming listTooLong->FD
open PySem.Builtin.Range renaming rangeSize->Li
open PySem.Builtin.SmallTypes renaming nextOf->Dm,ownedTupleIsFree->DE,ownedTupleHandOut->EI
open PySem.Builtin.Str renaming occurrences->EO,strSliceIndices->EU,tooLong->LL
open PySem.Calls renaming callWith_builtin->Fj,evalArgs_plain->He,Name_function_global->Hz,spliced_cons->HC,spliced_nil->JE
open PySem.Challenge renaming rw_wornband_k43_rows_on_the_loom->EG,pw_wornband_k43_rows_on_the_loom->HN
open PySem.Code renaming isFrame->JD,frames->LD
open PySem.Data renaming cell->G0,fields->HQ,seq->Ib
open PySem.EntryCells renaming newEntry->Jb
open PySem.EqMixed renaming eq_bool_str->KC,eq_str_bool->KD,ne_bool_str->KJ,ne_str_bool->KL,eq_int_str->KU,eq_str_int->KY,ne_int_str->L7,ne_str_int->L9
open PySem.EqNone renaming eq_none_none->Ky,eq_none_bool->Kz,eq_bool_none->KA,ne_none_none->KG,ne_none_bool->KH,ne_bool_none->KI,eq_none_int->KQ,eq_none_str->KR,eq_int_none->KS,eq_str_none->KW,ne_none_int->KZ,ne_none_str->L5,ne_int_none->L6,ne_str_none->L8
open PySem.F renaming slot_dict_keyiterator_next->Eh,slot_zip_next->Eo,slot_tuple_iterator_next->F4,args_zip_next_1->FJ,plainAttrs_list->FL,entry_zip_next->FV,args_tuple_iterator_next_1->Gu,plainAttrs_dict->Gz,entry_tuple_iterator_next->GC,slot_list_clear->GP,slot_dict_get->GQ,args_dict_keyiterator_next_1->GZ,entry_dict_keyiterator_next->Hh,slot_dict_itemiterator_iter->Hi,slot_dict_keyiterator_iter->Hs,excAttr_ValueError->HF,slot_dict_getitem->HJ,slot_dict_clear->I9,args_dict_get_3->Ia,slot_dict_items->Ig,type_list_clear->Ih,entry_dict_get->Iy,plainAttrs_str->IA,slot_list_append->IM,slot_list_extend->IQ,entry_zip_new->IS,called_zip->Jq,slot_dict_iter->K0,slot_int_rmul->Kc
open PySem.Heap renaming get?_push_of_some->CM,get?_push_size->CY,lt_size->D5,SameBut->Dl,size_push->DG,get?_update_other->DT,get?_update_self->En,ExtBut->Fn,get?_none_of_le->Hb
open PySem.Heap.DictOf renaming new->Md
open PySem.Heap.IsSliceOf renaming new->LS
open PySem.Heap.Ns renaming new->LF
open PySem.Heap.SameBut renaming update->Fg
open PySem.Heap.SetOf renaming objOf->Ma
open PySem.NameKind renaming free->Ej,cell->Je
open PySem.Obj renaming mapFields->E3,data_mapFields->Ey,isFreed_of_fields->F7,cls_mapFields->HS,mapSeq->Kp
open PySem.PassesOwn renaming never->Ea
open PySem.PyData renaming keyHash->Hj
open PySem.SeqAt.EqAt renaming int_str->LN,str_int->LO,int_int->LY
open PySem.Str renaming ofString->CS,empty->J8,length->LU
open PySem.StrLaws renaming found_one->JL
open PySem.Txt renaming find->HE,slice->JY,mul->M5
open PySem.Value renaming ref->D6,none->DC,int->Hx,str->J7,bool->Jk,float->K1,isStrOf->KO,builtin->Lg,isInt->Ly,bytes->LB,type->LP
open PySem.Value.ref renaming inj->Lf
open PySem.W renaming Frag->CL,findIn->CQ,nsIn->De,keepIn->Dp,mg_of->Dv,kitOne->DD,mg_none_of->DF,fnOf->DP,codeIn->DU,kia_one->Eg,isFn->EB,emptyDict->EJ,instObj->Fe,plainGet->FG,cellsFrom_some->FU,hasDictIn->G3,callWith_K->Gp,InstAt->GD,plainOver->GF,OpenLaw->Hf,makesIn->Hn,plainGet_of->Ht,lookIn->HA,looks_findIn->HB,methodObj->HP,takerIn->IE,methodCall_KW->IK,codeRec_of->Jl,specialIn->Jz,kitx_list->JA,kitx_dict->JB,handedIn->JU,takesIn->Kb,kitMeta->Ke,KeqHits->Kg,WalkO->Kh,notCls->Kv
open PySem.W.KeqHits renaming hit->LM
open PySem.W.Looks renaming here->LQ
open PySem.W.WData renaming int->M9
open PySem.W.WShape renaming has->LW
open PySem.Walks renaming list->LX
open PySem.Within renaming cons->M4
open Sum renaming inr->Ds,inl->Fh
open Sum.inl renaming inj->Lz
open Sum.inr renaming inj->LA
open True renaming intro->Fp
set_option Elab.async false
set_option linter.all false
set_option maxRecDepth 100000
namespace L2
open PySem PySem.Spec PyProof.Rows
abbrev Key:=Sum Int Str
def fS:Key->CN->Bool
 | .inl k,v=>Ly k v
 | .inr x,v=>KO x v
def rG(w:Dr):Key->Int
 | .inl k=>hashInt k
 | .inr x=>hashStr w x
theorem bV:∀{k:Key}{v:CN},fS k v=true->(∃i t,k=Fh i/\v=Hx i t)\/(∃x t,k=Ds x/\v=J7 x t)
 | .inl i,v,h=>by
  obtain⟨t,e⟩:=Value.isInt_shape (k:=i) (v:=v) h;exact .inl ⟨i,t,rfl,e⟩
 | .inr x,v,h=>by
  obtain⟨t,e⟩:=Value.isStrOf_shape (x:=x) (v:=v) h;exact .inr ⟨x,t,rfl,e⟩
theorem gC(i:Int)(t:Tok):fS (.inl i) (.int i t)=true:=by simp[fS,Ly]
theorem gD(x:Str)(t:Tok):fS (.inr x) (.str x t)=true:=by simp[fS,KO]
theorem xN(a b:Int):decide ((Fh a:Key)=Fh b)=(a==b):=by
 by_cases e:a=b;·subst e;simp
 ·have h:¬(Fh a:Key)=Fh b:=fun q=>e<|Lz q;rw[decide_eq_false h];exact(beq_eq_false_iff_ne.mpr e).symm
theorem xO(a b:Str):decide ((Ds a:Key)=Ds b)=decide (a=b):=by
 by_cases e:a=b;·subst e;simp
 ·have h:¬(Ds a:Key)=Ds b:=fun q=>e<|LA q;rw[decide_eq_false h,decide_eq_false e]
theorem xP(a:Int)(b:Str):decide ((Fh a:Key)=Ds b)=false:=decide_eq_false (fun q=>nomatch q)
theorem xQ(a:Str)(b:Int):decide ((Ds a:Key)=Fh b)=false:=decide_eq_false (fun q=>nomatch q)
def bf(prog:Dg)(w:Dr):PySem.KeyKind prog w Key where
 is:=fS
 hash:=rG w
 inj:=fun v a b ha hb=>by
  rcases bV ha with⟨i,t,rfl,rfl⟩|⟨x,t,rfl,rfl⟩
  ·rcases bV hb with⟨j,u,rfl,e⟩ | ⟨y,u,rfl,e⟩
   ·injection e with e1 _;rw[e1]
   ·exact nomatch e
  ·rcases bV hb with⟨j,u,rfl,e⟩ | ⟨y,u,rfl,e⟩
   ·exact nomatch e
   ·injection e with e1 _;rw[e1]
 byValue:=fun k v h=>by
  rcases bV h with⟨i,t,rfl,rfl⟩|⟨x,t,rfl,rfl⟩<;>rfl
 pyHash:=fun hv h=>by
  rcases bV hv with⟨i,t,rfl,rfl⟩|⟨x,t,rfl,rfl⟩
  ·exact wpAny_pyHash_int h
  ·exact wpAny_pyHash_str h
 eqBool:=fun hu hv h=>by
  rcases bV hu with⟨i,t,rfl,rfl⟩|⟨x,t,rfl,rfl⟩
  ·rcases bV hv with⟨j,u,rfl,rfl⟩ | ⟨y,u,rfl,rfl⟩
   ·rw[xN]at h;exact wpAny_eqBool_int h
   ·rw[xP]at h;exact LN i t y u _ _ _ _ h
  ·rcases bV hv with⟨j,u,rfl,rfl⟩ | ⟨y,u,rfl,rfl⟩
   ·rw[xQ]at h;exact LO x t j u _ _ _ _ h
   ·rw[xO]at h;exact wpAny_eqBool_str h
 «strs»:=fun k x t v h=>by
  rcases bV h with⟨i,u,rfl,e⟩|⟨y,u,rfl,e⟩
  ·exact nomatch e
  ·injection e with e1 _;subst e1;cases v<;>rfl
theorem m8(prog:Dg)(w:Dr)(i:Int)(t:Tok):(bf prog w).is (.inl i) (.int i t)=true:=gC i t
theorem m9(prog:Dg)(w:Dr)(x:Str)(t:Tok):(bf prog w).is (.inr x) (.str x t)=true:=gD x t
inductive V where
 |non|bl (b:Bool)|int (i:Int)|str (x:Str)|byt (b:Array UInt8)|flt (b:UInt64)|ref (a:Addr)|ty (n:String)
 deriving DecidableEq
def RelV:V->CN->Prop
 | .non,u=>u=DC
 | .bl b,u=>u=Jk b
 | .int i,u=>∃t,u=Hx i t
 | .str x,u=>∃t,u=J7 x t
 | .byt b,u=>∃t,u=LB b t
 | .flt b,u=>∃t,u=K1 b t
 | .ref a,u=>u=D6 a
 | .ty n,u=>u=LP n
abbrev Vals:List V->List CN->Prop:=Paired RelV
theorem Vals.length{xs:List V}{us:List CN}(r:Vals xs us):xs.length=us.length:=Paired.length r
theorem Vals.get:∀{xs:List V}{us:List CN}{i:Nat}{x:V},Vals xs us->xs[i]? =some x->∃u,us[i]? =some u/\RelV x u
 |_,_,_,_,.nil,e=>by simp at e
 |_,_,0,_,.cons r _,e=>by simp at e;subst e;exact⟨_,rfl,r⟩
 |_,_,i+1,x, .cons _ t,e=>by
  obtain⟨u,h1,h2⟩:=Vals.get (i:=i) (x:=x) t (by simpa using e);exact⟨u,by simpa using h1,h2⟩
theorem Vals.append:∀{xs ys:List V}{us ws:List CN},Vals xs us->Vals ys ws->Vals (xs++ys) (us++ws)
 |_,_,_,_,.nil,s=>s
 |_,_,_,_,.cons r t,s=>.cons r<|Vals.append t s
theorem Vals.take:∀{xs:List V}{us:List CN}(n:Nat),Vals xs us->Vals (xs.take n) (us.take n)
 |_,_,0,_=>.nil
 |_,_,_+1,.nil=>.nil
 |_,_,n+1,.cons r t=>.cons r<|Vals.take n t
theorem Vals.drop:∀{xs:List V}{us:List CN}(n:Nat),Vals xs us->Vals (xs.drop n) (us.drop n)
 |_,_,0,r=>r
 |_,_,_+1,.nil=>.nil
 |_,_,n+1,.cons _ t=>Vals.drop n t
def RelO:Option V->Option CN->Prop
 |some v,some u=>RelV v u
 |none,none=>True
 |_,_=>False
def KV{κ:Type}:List (κ×V)->List (κ×CN)->Prop:=Paired fun(p:κ×V)(q:κ×CN)=>p.1=q.1/\RelV p.2 q.2
def kV:Key->V
 | .inl i=>.int i
 | .inr x=>.str x
inductive HO where
 |lst (xs:List V)
 |tup (xs:List V)
 |dK (kvs:List (Key×V))|dT (kvs:List (List Key×V))
 |set (S:Int->Bool) (n:Nat)
 |ins (C dx:Addr) (fs:List (Str×V))
 |own (x:Addr)
 |xd (fs:List (Str×V))
 |met (f x:Addr)
 |rng (lo hi:Int)
 |frz (o:Obj) (u:HO)
 |tbl (ps:Array CN)
 |ext (φ:Heap->Prop)
abbrev Hp:=Addr->Option HO
def cg(H:Hp)(a:Addr)(o:HO):Hp:=fun b=>if b=a then some o else H b
theorem ak{H:Hp}{a:Addr}{o:HO}:cg H a o a=some o:=by unfold cg;rw[if_pos rfl]
theorem ai{H:Hp}{a b:Addr}{o:HO}(h:b≠a):cg H a o b=H b:=by unfold cg;rw[if_neg h]
theorem oK{H:Hp}{a:Addr}{o u:HO}:cg (cg H a o) a u=cg H a u:=by
 funext b;unfold cg;split<;>rfl
theorem zA{H:Hp}{a b:Addr}{o u:HO}(h:H a=some o)(h':H b=some u)(d:o≠u):a≠b:=by
 intro e;subst e;rw[h]at h';exact d<|DJ h'
theorem cm{H:Hp}{a b:Addr}{o:HO}(h:H a=some o)(h':H b=none):a≠b:=by
 intro e;subst e;rw[h]at h';cases h'
def IsTupD(h:Heap)(a:Addr)(items:Array CN):Prop:=∃o,h.get? a=some o/\(o.cls=.type "tuple"/\o.dict=none)/\∃n,o.data=.seq items n
theorem IsTupD.tup{h:Heap}{a:Addr}{items:Array CN}(t:IsTupD h a items):M1 h a items:=let ⟨o,e,c,n,d⟩:=t;⟨o,e,c.1,n,d⟩
section
variable(P:Dg)(w:Dr)
def ObjOk(H:Hp)(h:Heap)(a:Addr):HO->Prop
 | .lst xs=>xs.length<=sizeLine/\∃(its:List CN)(n:Nat),Vals xs its/\h.get? a=some {cls:=.type "list",data:=.seq its.toArray n}
 | .tup xs=>xs.length<=sizeLine/\∃its:List CN,Vals xs its/\IsTupD h a its.toArray
 | .dK kvs=>kvs.length<=sizeLine/\(a==sysModules)=false/\∃vs,KV kvs vs/\h.DictOf (bf P w) a vs
 | .dT kvs=>kvs.length<=sizeLine/\(a == sysModules)=false/\∃xs:List (List Key×Addr×CN),
   Paired (fun(p:List Key×V)(q:List Key×Addr×CN)=>p.1=q.1/\H q.2.1=some (.tup<|p.1.map kV)/\RelV p.2 q.2.2) kvs xs/\
   ∃o es ep,h.get? a=some o/\o.ExactDict/\o.data=.dict es ep/\es.toList=xs.map (entryOfKey<|tupleKind<|bf P w)/\(xs.map (·.1)).Nodup
 | .set S n=>h.SetOf (intKind P w) a S n
 | .ins C dx fs=>H dx=some (.own a)/\fs.length<=1000/\dx≠a/\h.get? a=some (Fe C dx)/\
   ∃mA,h.Ns1 dx mA/\(∀f,RelO (fs.lookup f)<|mA f)/\Jx mA (fs.map (·.1))
 | .own _=>∃o,h.get? a=some o
 | .xd fs=>∃mA,h.Ns1 a mA/\∀f,RelO (fs.lookup f)<|mA f
 | .rng lo hi=>∃t u v,h.get? a=some {cls:=.type "range",data:=.fields #[.int lo t,.int hi u,.int 1 v]}
 | .frz o u=>h.get? a=some o/\ObjOk H h a u
 | .tbl ps=>h.get? a=some {cls:=.none,data:=.fields ps}
 | .met f x=>h.get? a=some (HP (.ref f)<|.ref x)
 | .ext φ=>φ h/\(∃o,h.get? a=some o)/\∀h1 h2:Heap,φ h1->(∀o,h1.get? a=some o->h2.get? a=some o)->φ h2
def HOk(H:Hp)(h:Heap):Prop:=∀a o,H a=some o->ObjOk P w H h a o
end
section
variable{P:Dg}{w:Dr}{H H':Hp}{h h':Heap}{a:Addr}{o:HO}
theorem ObjOk.lt(x:ObjOk P w H h a o):a<h.objs.size:=by
 cases o with
 |lst xs=>obtain⟨_,_,_,_,e⟩:=x;exact D5 e
 |tup xs=>obtain⟨_,_,_,p⟩:=x;exact p.tup.lt
 |dK kvs=>obtain⟨_,_,_,_,o,_,_,e,_⟩:=x;exact D5 e
 |dT kvs=>obtain⟨_,_,_,_,o,_,_,e,_⟩:=x;exact D5 e
 |set S n=>obtain⟨o,_,_,_,e,_⟩:=x;exact D5 e
 |ins C dx fs=>obtain⟨_,_,_,e,_⟩:=x;exact D5 e
 |own y=>obtain⟨_,e⟩:=x;exact D5 e
 |xd fs=>obtain⟨_,⟨_,_,_,e,_⟩,_⟩:=x;exact D5 e
 |rng lo hi=>obtain⟨_,_,_,e⟩:=x;exact D5 e
 |frz ob u=>obtain⟨e,_⟩:=x;exact D5 e
 |tbl ps=>exact D5 (show h.get? a=some _ from x)
 |met f y=>exact D5 (show h.get? a=some _ from x)
 |ext φ=>obtain⟨_,⟨_,e⟩,_⟩:=x;exact D5 e
theorem Paired.mapP{α β:Type}{F G:α->β->Prop}:∀{l₁:List α}{l₂:List β},Paired F l₁ l₂->(∀a b,F a b->G a b)->Paired G l₁ l₂
 |_,_,.nil,_=>.nil
 |_,_,.cons r t,f=>.cons (f _ _ r)<|Paired.mapP t f
theorem ObjOk.stay(x:ObjOk P w H h a o)(k:∀b u,(b=a\/H b=some (.own a))->h.get? b=some u->h'.get? b=some u)
  (ho:∀b,H b=some (.own a)->H' b=some (.own a)) (ht:∀b xs,H b=some (.tup xs)->H' b=some (.tup xs)):ObjOk P w H' h' a o:=by
 induction o with
 |lst xs=>obtain⟨z,its,n,r,e⟩:=x;exact⟨z,its,n,r,k _ _ (.inl rfl) e⟩
 |tup xs=>obtain⟨z,its,r,ob,e,c⟩:=x;exact⟨z,its,r,ob,k _ _ (.inl rfl) e,c⟩
 |dK kvs=>obtain⟨z,y,vs,r,ob,es,ep,e,c⟩:=x;exact⟨z,y,vs,r,ob,es,ep,k _ _ (.inl rfl) e,c⟩
 |dT kvs=>
  obtain⟨z,y,xs,r,ob,es,ep,e,c⟩:=x;exact⟨z,y,xs,Paired.mapP r fun p q z=>⟨z.1,ht _ _ z.2.1,z.2.2⟩,ob,es,ep,k _ _ (.inl rfl) e,c⟩
 |set S n=>obtain⟨ob,es,ep,t,e,c⟩:=x;exact⟨ob,es,ep,t,k _ _ (.inl rfl) e,c⟩
 |ins C dx fs=>
  obtain⟨d,z,ne,e,mA,⟨od,es,ep,e2,c⟩,r⟩:=x;exact⟨ho _ d,z,ne,k _ _ (.inl rfl) e,mA,⟨od,es,ep,k _ _ (.inr d) e2,c⟩,r⟩
 |own y=>obtain⟨ob,e⟩:=x;exact⟨ob,k _ _ (.inl rfl) e⟩
 |xd fs=>obtain⟨mA,⟨od,es,ep,e,c⟩,r⟩:=x;exact⟨mA,⟨od,es,ep,k _ _ (.inl rfl) e,c⟩,r⟩
 |rng lo hi=>obtain⟨t,u,v,e⟩:=x;exact⟨t,u,v,k _ _ (.inl rfl) e⟩
 |frz ob u ih=>obtain⟨e,q⟩:=x;exact⟨k _ _ (.inl rfl) e,ih q⟩
 |tbl ps=>
  have e:h.get? a=some {cls:=.none,data:=.fields ps}:=x;show h'.get? a=some {cls:=.none,data:=.fields ps};exact k a _ (.inl rfl) e
 |met f y=>
  have e:h.get? a=some (HP (.ref f)<|.ref y):=x;show h'.get? a=some (HP (.ref f)<|.ref y);exact k a _ (.inl rfl) e
 |ext φ=>obtain⟨p,⟨o,e⟩,st⟩:=x;exact⟨st _ _ p fun o q=>k _ _ (.inl rfl) q,⟨o,k _ _ (.inl rfl) e⟩,st⟩
theorem HOk.lt(x:HOk P w H h)(e:H a=some o):a<h.objs.size:=(x a o e).lt
theorem HOk.fresh(x:HOk P w H h)(e:h.objs.size<=a):H a=none:=by
 cases q:H a with
 |none=>rfl
 |some u=>exact absurd (CZ (x.lt q) e)<|DN _
theorem HOk.kept(x:HOk P w H h)(k:∀b u,h.get? b=some u->h'.get? b=some u):HOk P w H h':=fun a o e=>
 (x a o e).stay (fun b u _ q=>k b u q) (fun _ q=>q) fun _ _ q=>q
theorem HOk.laid(x:HOk P w H h)(k:∀b u,h.get? b=some u->h'.get? b=some u)(hp:h.objs.size<=a)(new:ObjOk P w (cg H a o) h' a o):HOk P w (cg H a o) h':=fun b u e=>by
 have hn:=x.fresh hp;by_cases hb:b=a;·subst hb;rw[ak]at e;cases e;exact new
 ·rw[ai hb]at e;exact(x b u e).stay (fun c v _ q=>k c v q) (fun c q=>by rw[ai<|cm q hn];exact q) fun c xs q=>by rw[ai<|cm q hn];exact q
end
def Rd(H:Hp)(a:Addr)(u:HO):Prop:=H a=some u\/∃o,H a=some (.frz o u)
theorem Rd.ok{P:Dg}{w:Dr}{H:Hp}{h:Heap}{a:Addr}{u:HO}(r:Rd H a u)(x:HOk P w H h):ObjOk P w H h a u:=by
 rcases r with r|⟨o,r⟩
 ·exact x a u r
 ·obtain⟨_,q⟩:=x a _ r;exact q
def zB:Option HO->Prop
 |some (.lst _)=>True
 |some (.dK _)=>True
 |some (.dT _)=>True
 |some (.set _ _)=>True
 |some (.ins _ _ _)=>True
 |some (.ext _)=>True
 |_=>False
section
variable{P:Dg}{w:Dr}{H:Hp}{h h':Heap}{x e:Addr}{o':HO}
theorem HOk.write(ok:HOk P w H h)(mu:zB (H x))(he:e=x\/H e=some (.own x))(k:∀b u,b≠e->h.get? b=some u->h'.get? b=some u)(heo:∃u,h'.get? e=some u)
  (new:ObjOk P w (cg H x o') h' x o'):HOk P w (cg H x o') h':=fun b u q=>by
 have nown:∀c y,H c=some (.own y)->c≠x:=fun c y r z=>by subst z;rw[r]at mu;exact mu
 have ntup:∀c xs,H c=some (.tup xs)->c≠x:=fun c xs r z=>by subst z;rw[r]at mu;exact mu
 by_cases hb:b=x;·subst hb;rw[ak]at q;cases q;exact new
 ·rw[ai hb]at q;by_cases hbe:b=e
  ·have q':H b=some (.own x):=by
    rcases he with z|z;·exact absurd (hbe.trans z) hb
    ·rw[hbe];exact z
   rw[q]at q';cases q';obtain⟨v,hv⟩:=heo;exact⟨v,by rw[hbe];exact hv⟩
  ·refine(ok b u q).stay (fun c v hc r=>k c v ?_ r) (fun c r=>by rw[ai<|nown c b r];exact r) fun c xs r=>by rw[ai<|ntup c xs r];exact r
   rcases hc with rfl|hc;·exact hbe
   ·rintro rfl;rcases he with z|z;·exact nown c b hc z
    ·rw[hc]at z;cases z;exact hb rfl
end
structure Un(fs ex:List Addr)(H H':Hp)(h h':Heap):Prop where
 keep:∀b o,h.get? b=some o->H b=none->b∉fs->b∉ex->h'.get? b=some o
 slot:∀b o,h.get? b=some o->H b=none->b∈fs->b∉ex->∃sl,h'.get? b=some {o with slots:=sl}
 free:∀b o,h.get? b=some o->H b=none->b∉ex->H' b=none
 there:∀b o,h.get? b=some o->b∉ex->∃o',h'.get? b=some o'
 tups:∀b xs,H b=some (.tup xs)->H' b=some (.tup xs)
 frzs:∀b o u,H b=some (.frz o u)->H' b=some (.frz o u)
 tbls:∀b ps,H b=some (.tbl ps)->∃more,H' b=some (.tbl<|ps++more)
section
variable{fs fs' ex ex':List Addr}{H H1 H2:Hp}{h h1 h2 h':Heap}{a x e:Addr}{o:HO}
theorem Un.any(u:Un fs ex H H1 h h1){b:Addr}{ob:Obj}(q:h.get? b=some ob)(n:H b=none)(hx:b∉ex):∃sl,h1.get? b=some {ob with slots:=sl}:=by
 by_cases hb:b∈fs;·exact u.slot b ob q n hb hx
 ·exact⟨ob.slots,u.keep b ob q n hb hx⟩
theorem Un.kept(k:∀b u,h.get? b=some u->h'.get? b=some u):Un fs ex H H h h':=
 ⟨fun b ob q _ _ _=>k b ob q,fun b ob q _ _ _=>⟨ob.slots,k b ob q⟩,fun _ _ _ n _=>n,fun b ob q _=>⟨ob,k b ob q⟩,fun _ _ q=>q,fun _ _ _ q=>q,fun _ ps q=>⟨#[],by rw[q];simp⟩⟩
theorem Un.refl:Un fs ex H H h h:=Un.kept fun _ _ q=>q
theorem Un.laid(k:∀b u,h.get? b=some u->h'.get? b=some u)(hp:h.objs.size<=a)(hn:H a=none):Un fs ex H (cg H a o) h h' where
 keep:=fun b u q _ _ _=>k b u q
 slot:=fun b u q _ _ _=>⟨u.slots,k b u q⟩
 free:=fun b u q n _=>by rw[ai<|Dc<|CZ (D5 q) hp];exact n
 there:=fun b u q _=>⟨u,k b u q⟩
 tups:=fun b xs q=>by rw[ai<|cm q hn];exact q
 frzs:=fun b u xs q=>by rw[ai<|cm q hn];exact q
 tbls:=fun b ps q=>⟨#[],by rw[ai<|cm q hn,q];simp⟩
theorem Un.write(mu:zB (H x))(he:e=x\/H e=some (.own x))(k:∀b u,b≠e->h.get? b=some u->h'.get? b=some u)(heo:∃u,h'.get? e=some u):Un fs ex H (cg H x o) h h':=by
 have hx:∀b,H b=none->b≠x:=fun b n z=>by subst z;rw[n]at mu;exact mu
 have hb:∀b,H b=none->b≠e:=fun b n z=>by
  subst z;rcases he with r|r
  ·exact hx b n r
  ·rw[n]at r;cases r
 have hm:∀b u,H b=some u->¬zB (some u)->b≠x:=fun b u q nm z=>by subst z;rw[q]at mu;exact nm mu
 refine⟨fun b u q n _ _=>k b u (hb b n) q,fun b u q n _ _=>⟨u.slots,k b u (hb b n) q⟩,fun b u q n _=>by rw[ai<|hx b n];exact n,fun b u q _=>?_,
  fun b xs q=>by rw[ai (hm b _ q fun z=>z)];exact q,fun b u xs q=>by rw[ai (hm b _ q fun z=>z)];exact q,fun b ps q=>⟨#[],by rw[ai (hm b _ q fun z=>z),q];simp⟩⟩
 by_cases hbe:b=e;·subst hbe;exact heo
 ·exact⟨u,k b u hbe q⟩
end
def gE(h:Heap)(H:Hp):List Addr:=(FQ h.objs.size).filter fun a=>(H a).isSome
def lp(h:Heap)(H:Hp):Heap:=PySem.W.hideAll h<|gE h H
theorem qa(h:Heap)(H:Hp):(lp h H).objs.size=h.objs.size:=PySem.W.hideAll_size _ _
theorem rH{h:Heap}{H:Hp}{b:Addr}{o:Obj}(e:h.get? b=some o)(n:H b=none):(lp h H).get? b=some o:=
 PySem.W.hideAll_get _ e fun hm=>by
  have q:(H b).isSome=true:=(Ka.mp hm).2;rw[n]at q;simp at q
theorem vp{h:Heap}{H:Hp}{b:Addr}{o:Obj}(e:(lp h H).get? b=some o):h.get? b=some o/\H b=none:=by
 have e':h.get? b=some o:=PySem.W.of_hideAll (gE h H) e;refine⟨e',?_⟩;cases q:H b with
 |none=>rfl
 |some x=>
  have hm:b∈gE h H:=Ka.mpr ⟨Hy.mpr<|D5 e',by simp[q]⟩;have z:(lp h H).get? b=none:=PySem.W.hideAll_none (gE h H) hm;rw[z]at e;cases e
structure Mod(K:CL)(mg:Str->Option CN)(base:Heap):Prop where
 kin:K.In base
 glob:base.Ns mainGlobals mg
 blt:∃mb,base.Ns builtinsNs mb/\∀x:Str,x≠"__name__"->mb x=bootBuiltins x
 nolimit:base.NoLimit
structure Cx where
 prog:Dg
 w:Dr
 K:CL
 mg:Str->Option CN
 base:Heap
 A:Dy
 N:List Str
 s₀:CO
 H₀:Hp
 env:Env
 outer:List Env
 stack:List Env
 ex:List Addr
 fn:Str->Bool
 calm:Bool
 pn:List (Addr×Obj)
 xe:CN->CO->Prop
def frs(l:List Env):List Addr:=l.filterMap (·.frame)
abbrev Cx.fs(X:Cx):List Addr:=frs X.outer
def Vis(sc:FO)(x:Str):Prop:=sc.names.lookup x=some .local\/sc.names.lookup x=some .cell\/sc.names.lookup x=some .free
def xR(sc:FO)(x:Str):Prop:=sc.names.lookup x=some .local\/sc.names.lookup x=some .cell
def Look(env:Env)(h:Heap)(m:Str->Option CN)(x:Str)(u:CN):Prop:=
 (env.kindOf x=some .local/\m x=some u)\/((env.kindOf x=some .cell\/env.kindOf x=some .free)/\∃c,env.cells.lookup x=some c/\h.IsCell c (some u))
structure Cx.Ok(X:Cx):Prop where
 mod:Mod X.K X.mg X.base
 kind:X.env.scope.kind=.function
 glob:X.env.globals=mainGlobals
 blt:X.env.builtins=builtinsNs
 above:X.s₀.heap.objs.size<=X.env.locals
 inj:∀x y c,X.env.cells.lookup x=some c->X.env.cells.lookup y=some c->x=y
 has:∀x,(X.env.kindOf x=some .cell\/X.env.kindOf x=some .free)->∃c,X.env.cells.lookup x=some c
 cab:∀x c,X.fn x=true->X.env.cells.lookup x=some c->X.s₀.heap.objs.size<=c
 hd:X.calm=true->X.A.handled=none
 frames:X.A.frames=some X.stack
 stk:X.stack=X.outer\/(X.stack=X.env::X.outer/\X.env.frame=some X.env.locals)
 exf:∀b∈X.ex,b≠X.env.locals/\∀x c,X.env.cells.lookup x=some c->c≠b
 bs:∀b o,X.base.get? b=some o->X.s₀.heap.get? b=some o/\X.H₀ b=none
 bsz:X.base.objs.size<=X.s₀.heap.objs.size
 noex:∀b o,X.base.get? b=some o->b∉X.ex
 exfs:∀b∈X.ex,b∉X.fs
 funs:X.s₀.heap.FunFrames X.base X.outer
 frf:∀b∈X.fs,X.H₀ b=none
structure Inv(X:Cx)(pins:List (Addr×Obj))(σ:List (Option V))(H:Hp)(s:CO):Prop where
 ok:X.Ok
 os:s.os=X.s₀.os
 bare:Hv s.gens
 base:Un X.fs X.ex X.H₀ H X.s₀.heap s.heap
 loc:∃m,s.heap.Ns X.env.locals m/\∀(i:Nat)(x:Str)(v:V),X.N[i]? =some x->σ[i]? =some (some v)->Vis X.env.scope x->∃u,RelV v u/\Look X.env s.heap m x u
 cell:∀x c,X.env.cells.lookup x=some c->∃v,s.heap.IsCell c v
 free:H X.env.locals=none
 freeC:∀x c,X.env.cells.lookup x=some c->H c=none
 pin:∀p∈X.pn++pins,s.heap.get? p.1=some p.2/\H p.1=none/\p.1≠X.env.locals/\p.1∉X.fs/\∀v,p.2.data≠.cell v
 hok:HOk X.prog X.w H s.heap
 len:σ.length=X.N.length
section
variable{X:Cx}{pins:List (Addr×Obj)}{σ:List (Option V)}{H H':Hp}{s:CO}{h':Heap}
theorem Cx.Ok.nofr(ok:X.Ok){b:Addr}{o:Obj}(e:X.base.get? b=some o):b∉X.fs:=fun hb=>by
 have:=(ok.funs.mem hb).1;rw[e]at this;cases this
theorem Inv.bs(I:Inv X pins σ H s):∀b o,X.base.get? b=some o->s.heap.get? b=some o/\H b=none:=fun b o e=>
 ⟨I.base.keep b o (I.ok.bs b o e).1 (I.ok.bs b o e).2 (I.ok.nofr e) (I.ok.noex b o e),I.base.free b o (I.ok.bs b o e).1 (I.ok.bs b o e).2 (I.ok.noex b o e)⟩
theorem Inv.bk(I:Inv X pins σ H s):∀b o,X.base.get? b=some o->s.heap.get? b=some o:=fun b o e=>(I.bs b o e).1
theorem Inv.mod(I:Inv X pins σ H s):Mod X.K X.mg X.base:=I.ok.mod
theorem Inv.kIn(I:Inv X pins σ H s):X.K.In s.heap:=I.ok.mod.kin.keeps I.bk
theorem Inv.lt(I:Inv X pins σ H s):X.env.locals<s.heap.objs.size:=let ⟨_,hn,_⟩:=I.loc;hn.lt
theorem Inv.sz(I:Inv X pins σ H s):X.s₀.heap.objs.size<=s.heap.objs.size:=EA I.ok.above<|Fz I.lt
theorem Inv.nofs(I:Inv X pins σ H s){a:Addr}(h:s.heap.objs.size<=a):a∉X.fs:=fun hb=>by
 obtain⟨_,o,ho,_⟩:=I.ok.funs.mem hb;exact absurd (CZ (D5 ho)<|EA I.sz h)<|DN _
theorem Inv.cne(I:Inv X pins σ H s):∀x c,X.env.cells.lookup x=some c->c≠X.env.locals:=fun x c e z=>by
 obtain⟨v,o,ho,hd⟩:=I.cell x c e;obtain⟨m,⟨o',es,ep,ho',hd',_⟩,_⟩:=I.loc;rw[z,ho']at ho;cases ho;rw[hd']at hd;cases hd
theorem Inv.funs(I:Inv X pins σ H s):s.heap.FunFrames X.base X.outer:=by
 have all:∀(l:List Env),(∀b∈frs l,b∈X.fs)->X.s₀.heap.FunFrames X.base l->s.heap.FunFrames X.base l:=by
  intro l
  induction l with
  |nil=>intro _ _;trivial
  |cons env r ih=>
   intro hs hl;obtain⟨hk,⟨L,o,hf,hn,ho,hd⟩,hr⟩:=hl;have hL:L∈X.fs:=hs L (by unfold frs;rw[FF,hf];exact D0);obtain⟨sl,e⟩:=I.base.slot L o ho (I.ok.frf L hL) hL fun z=>I.ok.exfs L z hL;exact⟨hk,⟨L,_,hf,hn,e,hd⟩,ih (fun b hb=>hs b (by unfold frs;rw[FF,hf];exact D4 _ hb)) hr⟩
 exact all X.outer (fun _ hb=>hb) I.ok.funs
theorem Inv.stack(I:Inv X pins σ H s):s.heap.FunFrames X.base X.stack:=by
 rcases I.ok.stk with e|⟨e,hf⟩
 ·rw[e];exact I.funs
 ·rw[e];obtain⟨m,hn,_⟩:=I.loc;refine .cons (by rw[I.ok.kind];decide) hf hn ?_ I.funs;exact Hb<|EA I.ok.bsz I.ok.above
theorem Inv.stkSub(I:Inv X pins σ H s):∀b∈frs X.stack,b∈X.env.locals::X.fs:=fun b hb=>by
 rcases I.ok.stk with e|⟨e,hf⟩
 ·rw[e]at hb;exact D4 _ hb
 ·rw[e]at hb;unfold frs at hb;rw[FF,hf]at hb;exact hb
theorem Inv.stkFree(I:Inv X pins σ H s):∀b∈frs X.stack,H b=none:=fun b hb=>by
 rcases D7.mp (I.stkSub b hb)with e|hb;·rw[e];exact I.free
 ·obtain⟨_,o,ho,_⟩:=I.ok.funs.mem hb;exact I.base.free b o ho (I.ok.frf b hb) fun z=>I.ok.exfs b z hb
theorem Inv.step{g':Array GenState}{t':Nat}{d':Drawn}{ch:List Addr}(I:Inv X pins σ H s)
  (hch:∀b∈ch,(b∈X.ex\/X.s₀.heap.objs.size<=b)/\b≠X.env.locals/\(∀x c,X.env.cells.lookup x=some c->c≠b)/\∀p∈X.pn++pins,p.1≠b)
  (keep:∀b o,b≠X.env.locals->b∉X.fs->b∉ch->s.heap.get? b=some o->H b=none->h'.get? b=some o)
  (slot:∀b o,b≠X.env.locals->b∈X.fs->b∉ch->s.heap.get? b=some o->H b=none->∃sl,h'.get? b=some {o with slots:=sl}) (free:∀b o,b∉ch->s.heap.get? b=some o->H b=none->H' b=none)
  (there:∀b o,b∉ch->s.heap.get? b=some o->∃o',h'.get? b=some o')
  (tups:∀b xs,H b=some (.tup xs)->H' b=some (.tup xs)) (frzs:∀b o u,H b=some (.frz o u)->H' b=some (.frz o u)) (tbls:∀b ps,H b=some (.tbl ps)->∃more,H' b=some (.tbl<|ps++more))
  (ns:∀m,s.heap.Ns X.env.locals m->h'.Ns X.env.locals m) (hok:HOk X.prog X.w H' h') (hg:Hv g'):
  Inv X pins σ H' {s with heap:=h',gens:=g',drawn:=d',toks:=t'}:=by
 have neL:∀b o,X.s₀.heap.get? b=some o->b≠X.env.locals:=fun b o e=>Dc<|CZ (D5 e) I.ok.above;have neC:∀b o,X.s₀.heap.get? b=some o->b∉X.ex->b∉ch:=fun b o e hx hb=>by
  rcases (hch b hb).1 with z|z;·exact hx z
  ·exact absurd (CZ (D5 e) z)<|DN _
 have cellK:∀x c,X.env.cells.lookup x=some c->∀v,s.heap.IsCell c v->h'.IsCell c v:=fun x c e v⟨o,ho,hd⟩=>by
  have nch:c∉ch:=fun z=>(hch c z).2.2.1 x c e rfl;by_cases hc:c∈X.fs
  ·obtain⟨sl,q⟩:=slot c o (I.cne x c e) hc nch ho<|I.freeC x c e;exact⟨_,q,hd⟩
  ·exact⟨o,keep c o (I.cne x c e) hc nch ho<|I.freeC x c e,hd⟩
 refine⟨I.ok,I.os,hg,⟨fun b o e n hb hx=>?_,fun b o e n hb hx=>?_,fun b o e n hx=>?_,fun b o e hx=>?_,fun b xs e=>tups b xs<|I.base.tups b xs e,fun b o xs e=>frzs b o xs<|I.base.frzs b o xs e,fun b ps e=>?_⟩,?_,fun x c e=>?_,?_,fun x c e=>?_,fun p hp=>?_,hok,I.len⟩;·exact keep b o (neL b o e) hb (neC b o e hx) (I.base.keep b o e n hb hx)<|I.base.free b o e n hx
 ·obtain⟨sl,e1⟩:=I.base.slot b o e n hb hx;obtain⟨sl',e2⟩:=slot b _ (neL b o e) hb (neC b o e hx) e1<|I.base.free b o e n hx;exact⟨sl',e2⟩
 ·obtain⟨o',e1⟩:=I.base.there b o e hx;exact free b o' (neC b o e hx) e1<|I.base.free b o e n hx
 ·obtain⟨o',e1⟩:=I.base.there b o e hx;exact there b o' (neC b o e hx) e1
 ·obtain⟨m1,e1⟩:=I.base.tbls b ps e;obtain⟨m2,e2⟩:=tbls b _ e1;exact⟨m1++m2,by rw[e2,Array.append_assoc]⟩
 ·obtain⟨m,hn,hl⟩:=I.loc;refine⟨m,ns m hn,fun i x v e1 e2 e3=>?_⟩;obtain⟨u,r,l⟩:=hl i x v e1 e2 e3;refine⟨u,r,?_⟩;rcases l with l|⟨k,c,e,z⟩
  ·exact .inl l
  ·exact .inr ⟨k,c,e,cellK x c e _ z⟩
 ·obtain⟨v,z⟩:=I.cell x c e;exact⟨v,cellK x c e v z⟩
 ·obtain⟨m,⟨o,_,_,ho,_⟩,_⟩:=I.loc;exact free _ o (fun z=>(hch _ z).2.1 rfl) ho I.free
 ·obtain⟨v,o,ho,hd⟩:=I.cell x c e;exact free c o (fun z=>(hch c z).2.2.1 x c e rfl) ho<|I.freeC x c e
 ·obtain⟨e,n,ne,nf,d⟩:=I.pin p hp;have nch:p.1∉ch:=fun z=>(hch p.1 z).2.2.2 p hp rfl;exact⟨keep p.1 p.2 ne nf nch e n,free p.1 p.2 nch e n,ne,nf,d⟩
theorem Inv.un{t':Nat}(I:Inv X pins σ H s)(u:Un X.fs [] H H' s.heap h')(hok:HOk X.prog X.w H' h'):Inv X pins σ H' {s with heap:=h',toks:=t'}:=by
 obtain⟨m,⟨o,es,ep,ho,r⟩,_⟩:=id I.loc;obtain⟨sl,hL⟩:=u.any ho I.free (by simp);exact I.step (g':=s.gens) (d':=s.drawn) (ch:=[]) (fun _ z=>nomatch z) (fun b o _ hb _ e n=>u.keep b o e n hb (by simp)) (fun b o _ hb _ e n=>u.slot b o e n hb (by simp)) (fun b o _ e n=>u.free b o e n (by simp)) (fun b o _ e=>u.there b o e (by simp)) u.tups u.frzs u.tbls (fun m' hm=>by
  obtain⟨o',es',ep',ho',r'⟩:=hm;rw[ho]at ho';cases ho';exact⟨_,es',ep',hL,r'⟩) hok I.bare
theorem Inv.call{g':Array GenState}{t':Nat}{d':Drawn}{ch:List Addr}(I:Inv X pins σ H s)(u:Un (frs X.stack) ch H H' s.heap h')(hok:HOk X.prog X.w H' h')(hg:Hv g')
  (hch:∀b∈ch,(b∈X.ex\/X.s₀.heap.objs.size<=b)/\b≠X.env.locals/\(∀x c,X.env.cells.lookup x=some c->c≠b)/\∀p∈X.pn++pins,p.1≠b):
  Inv X pins σ H' {s with heap:=h',gens:=g',drawn:=d',toks:=t'}:=by
 obtain⟨m,⟨o,es,ep,ho,r⟩,_⟩:=id I.loc;obtain⟨sl,hL⟩:=u.any ho I.free fun z=>(hch _ z).2.1 rfl;exact I.step (ch:=ch) hch (fun b o hL hb hc e n=>u.keep b o e n (fun z=>(D7.mp<|I.stkSub b z).elim hL hb) hc) (fun b o _ _ hc e n=>u.any e n hc) (fun b o hc e n=>u.free b o e n hc) (fun b o hc e=>u.there b o e hc) u.tups u.frzs u.tbls (fun m' hm=>by
  obtain⟨o',es',ep',ho',r'⟩:=hm;rw[ho]at ho';cases ho';exact⟨_,es',ep',hL,r'⟩) hok hg
theorem Inv.turned{t':Nat}{it:Addr}(I:Inv X pins σ H s)(k:∀b o,b≠it->s.heap.get? b=some o->h'.get? b=some o)(hn:H it=none)(hL:it≠X.env.locals)
  (h1:it∈X.ex\/X.s₀.heap.objs.size<=it) (h2:∀x c,X.env.cells.lookup x=some c->c≠it) (h3:∀p∈X.pn++pins,p.1≠it):Inv X pins σ H {s with heap:=h',toks:=t'}:=by
 have nit:∀b u,H b=some u->b≠it:=fun b u e z=>by rw[z,hn]at e;cases e
 refine I.step (g':=s.gens) (d':=s.drawn) (ch:=[it]) (fun b hb=>?_) (fun b o _ _ hc e _=>k b o (fun z=>hc (by simp[z])) e) (fun b o _ _ hc e _=>⟨o.slots,k b o (fun z=>hc (by simp[z])) e⟩) (fun _ _ _ _ n=>n)
  (fun b o hc e=>⟨o,k b o (fun z=>hc (by simp[z])) e⟩) (fun _ _ e=>e) (fun _ _ _ e=>e) (fun b ps e=>⟨#[],by rw[e];simp⟩) (fun m hm=>?_) (fun b u e=>?_) I.bare
 ·have e:b=it:=by simpa using hb
  subst e;exact⟨h1,hL,h2,h3⟩
 ·obtain⟨o,es,ep,ho,r⟩:=hm;exact⟨o,es,ep,k _ o (Ec hL) ho,r⟩
 ·refine(I.hok b u e).stay (fun c v hc q=>k c v ?_ q) (fun _ q=>q) fun _ _ q=>q;rcases hc with z|z
  ·rw[z];exact nit b u e
  ·exact nit c _ z
theorem Inv.tok(I:Inv X pins σ H s)(t:Nat):Inv X pins σ H {s with toks:=t}:=I.un (h':=s.heap) (t':=t) Un.refl I.hok
theorem Inv.kept{t':Nat}(I:Inv X pins σ H s)(k:∀b u,s.heap.get? b=some u->h'.get? b=some u):Inv X pins σ H {s with heap:=h',toks:=t'}:=I.un (Un.kept k)<|I.hok.kept k
theorem Inv.laid{a:Addr}{o:HO}{t':Nat}(I:Inv X pins σ H s)(k:∀b u,s.heap.get? b=some u->h'.get? b=some u)(hp:s.heap.objs.size<=a)(new:ObjOk X.prog X.w (cg H a o) h' a o):
  Inv X pins σ (cg H a o) {s with heap:=h',toks:=t'}:=I.un (Un.laid k hp<|I.hok.fresh hp)<|I.hok.laid k hp new
theorem Inv.write{x e:Addr}{o:HO}{t':Nat}(I:Inv X pins σ H s)(mu:zB (H x))(he:e=x\/H e=some (.own x))(k:∀b u,b≠e->s.heap.get? b=some u->h'.get? b=some u)(heo:∃u,h'.get? e=some u)
  (new:ObjOk X.prog X.w (cg H x o) h' x o):Inv X pins σ (cg H x o) {s with heap:=h',toks:=t'}:=I.un (Un.write mu he k heo)<|I.hok.write mu he k heo new
theorem Inv.weak{σ':List (Option V)}(I:Inv X pins σ H s)(hl:σ'.length=σ.length)(w:∀(i:Nat)v,σ'[i]? =some (some v)->σ[i]? =some (some v)):Inv X pins σ' H s:=
 ⟨I.ok,I.os,I.bare,I.base,let ⟨m,hn,hl'⟩:=I.loc;⟨m,hn,fun i x v e1 e2 e3=>hl' i x v e1 (w i v e2) e3⟩,I.cell,I.free,I.freeC,I.pin,I.hok,hl.trans I.len⟩
theorem Inv.pins_of{pins':List (Addr×Obj)}(I:Inv X pins σ H s)(h:∀p∈pins',s.heap.get? p.1=some p.2/\H p.1=none/\p.1≠X.env.locals/\p.1∉X.fs/\∀v,p.2.data≠.cell v):Inv X pins' σ H s:=
 ⟨I.ok,I.os,I.bare,I.base,I.loc,I.cell,I.free,I.freeC,fun p hp=>(Ff.mp hp).elim (fun z=>I.pin p<|Et _ z) (h p),I.hok,I.len⟩
theorem jn{N:List Str}(hN:N.Nodup){i j:Nat}{x:Str}(a:N[i]? =some x)(b:N[j]? =some x):i=j:=by
 obtain⟨h1,e1⟩:=CP.mp a;obtain⟨h2,e2⟩:=CP.mp b;exact(List.getElem_inj hN).mp (e1.trans e2.symm)
theorem kA{M:Ki}{A:Dy}{E:CN->CO->Prop}{i:Nat}{x:Str}{v:V}{u:CN}{Q:Unit->CO->Prop}(I:Inv X pins σ H s)(hN:X.N.Nodup)(hi:X.N[i]? =some x)(hx:xR X.env.scope x)(r:RelV v u)
  (h:∀s',Inv X pins (σ.set i<|some v) H s'->(∃a,Dl a s.heap s'.heap/\(a=X.env.locals\/X.env.cells.lookup x=some a))->Q () s') (hf:X.fn x=true\/X.env.scope.names.lookup x=some .local:=by first|exact .inl rfl|exact .inr rfl|assumption):wpAny M A (storeName X.env x u) Q E s:=by
 obtain⟨m,hn,hl⟩:=id I.loc;have hcls:(X.env.scope.kind== .class||(X.env.scope.kind== .module&&X.env.locals != X.env.globals))=false:=by rw[I.ok.kind];rfl
 have hiσ:i<σ.length:=by rw[I.len];exact(CP.mp hi).1
 have cne:=I.cne;have tracked:∀{a:Addr}{h':Heap},(∃o,s.heap.get? a=some o/\H a=none)->Dl a s.heap h'->HOk X.prog X.w H h':=fun{a h'}ha hs b ob e=>by
  obtain⟨_,_,hfree⟩:=ha;refine(I.hok b ob e).stay (fun c w' hc q=>(hs.2 c ?_).trans q) (fun _ q=>q) fun _ _ q=>q;rintro rfl;rcases hc with rfl|hc
  ·rw[hfree]at e;cases e
  ·rw[hfree]at hc;cases hc
 rcases hx with hk|hk
 ·refine wpAny_storeName_local hk hn (fun h' hn' hs=>?_) hcls;obtain⟨oL,_,_,hoL,_⟩:=id hn;refine h _ ⟨I.ok,I.os,I.bare,⟨fun b o e n hb hx=>?_,fun b o e n hb hx=>?_,I.base.free,fun b o e hx=>?_,I.base.tups,I.base.frzs,I.base.tbls⟩,⟨_,hn',fun j y v' e1 e2 e3=>?_⟩,fun y c e=>?_,I.free,I.freeC,fun p hp=>?_,tracked ⟨oL,hoL,I.free⟩ hs,by simpa using I.len⟩ ⟨_,hs,.inl rfl⟩;·exact(hs.2 b<|Dc<|CZ (D5 e) I.ok.above).trans (I.base.keep b o e n hb hx)
  ·obtain⟨sl,e1⟩:=I.base.slot b o e n hb hx;exact⟨sl,(hs.2 b<|Dc<|CZ (D5 e) I.ok.above).trans e1⟩
  ·obtain⟨o',e1⟩:=I.base.there b o e hx;exact⟨o',(hs.2 b<|Dc<|CZ (D5 e) I.ok.above).trans e1⟩
  ·by_cases hj:j=i
   ·subst hj;rw[hi]at e1;cases e1;rw[FR hiσ]at e2;cases e2;exact⟨u,r,.inl ⟨hk,by simp⟩⟩
   ·rw[Hc<|Ec hj]at e2;obtain⟨u',r',q⟩:=hl j y v' e1 e2 e3;refine⟨u',r',?_⟩;rcases q with⟨k,e⟩|⟨k,c,e,z⟩
    ·refine .inl ⟨k,?_⟩;have:y≠x:=fun e=>hj<|jn hN e1<|e▸hi;simp[this,e]
    ·exact .inr ⟨k,c,e,z.sameBut hs<|cne y c e⟩
  ·obtain⟨w',z⟩:=I.cell y c e;exact⟨w',z.sameBut hs<|cne y c e⟩
  ·obtain⟨e,n,ne,nf,d⟩:=I.pin p hp;exact⟨(hs.2 p.1 ne).trans e,n,ne,nf,d⟩
 ·have hfn:X.fn x=true:=by
   rcases hf with z|z;·exact z
   ·rw[z]at hk;cases hk
  obtain⟨c,hc⟩:=I.ok.has x<|.inl hk;obtain⟨w',z⟩:=I.cell x c hc;refine wpAny_storeName_cell I.ok.kind hk hc z<|fun h' hc' hs=>?_;obtain⟨oc,hoc,hocd⟩:=id z;refine h {s with heap:=h'} ⟨I.ok,I.os,I.bare,⟨fun b o e n hb hx=>?_,fun b o e n hb hx=>?_,I.base.free,fun b o e hx=>?_,I.base.tups,I.base.frzs,I.base.tbls⟩,⟨m,hn.sameBut hs<|Ec<|cne x c hc,fun j y v' e1 e2 e3=>?_⟩,fun y c' e=>?_,I.free,I.freeC,fun p hp=>?_,tracked ⟨oc,hoc,I.freeC x c hc⟩ hs,by simpa using I.len⟩ ⟨c,hs,.inr hc⟩;·exact(hs.2 b<|Dc<|CZ (D5 e)<|I.ok.cab x c hfn hc).trans (I.base.keep b o e n hb hx)
  ·obtain⟨sl,e1⟩:=I.base.slot b o e n hb hx;exact⟨sl,(hs.2 b<|Dc<|CZ (D5 e)<|I.ok.cab x c hfn hc).trans e1⟩
  ·obtain⟨o',e1⟩:=I.base.there b o e hx;exact⟨o',(hs.2 b<|Dc<|CZ (D5 e)<|I.ok.cab x c hfn hc).trans e1⟩
  ·by_cases hj:j=i
   ·subst hj;rw[hi]at e1;cases e1;rw[FR hiσ]at e2;cases e2;exact⟨u,r,.inr ⟨.inl hk,c,hc,hc'⟩⟩
   ·rw[Hc<|Ec hj]at e2;obtain⟨u',r',q⟩:=hl j y v' e1 e2 e3;refine⟨u',r',?_⟩;rcases q with q|⟨k,c',e,z'⟩
    ·exact .inl q
    ·refine .inr ⟨k,c',e,z'.sameBut hs ?_⟩;rintro rfl;exact hj<|jn hN e1<|I.ok.inj _ _ _ e hc▸hi
  ·by_cases hcc:c'=c;·subst hcc;exact⟨_,hc'⟩
   ·obtain⟨w2,z2⟩:=I.cell y c' e;exact⟨w2,z2.sameBut hs hcc⟩
  ·obtain⟨e,n,ne,nf,d⟩:=I.pin p hp;refine⟨(hs.2 p.1 ?_).trans e,n,ne,nf,d⟩;intro q;rw[q,hoc]at e;have q':oc=p.2:=DJ e;exact d w' (by rw[<-q'];exact hocd)
theorem jo{M:Ki}{A:Dy}{E:CN->CO->Prop}{i:Nat}{x:Str}{v:V}{u:CN}{Q:Unit->CO->Prop}(I:Inv X pins σ H s)(hN:X.N.Nodup)(hi:X.N[i]? =some x)(hx:xR X.env.scope x)(r:RelV v u)
  (h:∀s',Inv X pins (σ.set i<|some v) H s'->Q () s') (hf:X.fn x=true\/X.env.scope.names.lookup x=some .local:=by first|exact .inl rfl|exact .inr rfl|assumption):wpAny M A (storeName X.env x u) Q E s:=
 kA I hN hi hx r (fun s' I' _=>h s' I') hf
theorem Inv.call'{s':CO}{ch:List Addr}(I:Inv X pins σ H s)(ho:s'.os=s.os)(u:Un (frs X.stack) ch H H' s.heap s'.heap)(hok:HOk X.prog X.w H' s'.heap)(hg:Hv s'.gens)
  (hch:∀b∈ch,(b∈X.ex\/X.s₀.heap.objs.size<=b)/\b≠X.env.locals/\(∀x c,X.env.cells.lookup x=some c->c≠b)/\∀p∈X.pn++pins,p.1≠b):Inv X pins σ H' s':=by
 obtain⟨h',g',d',t',o'⟩:=s';have e:o'=s.os:=ho;subst e;exact I.call (g':=g') (t':=t') (d':=d') u hok hg hch
end
abbrev XK:=CN->Option Addr->Hp->Prop
abbrev St:=List<|Option V
abbrev VK:=V->Hp->Prop
abbrev TE:=St->Hp->VK->Prop
abbrev TT:=St->Hp->(Bool->Hp->Prop)->Prop
abbrev TA:=St->Hp->(List V->Hp->Prop)->Prop
structure Ends where
 nx:St->Hp->Prop
 rt:VK
 bk:St->Hp->Prop:=fun _ _=>False
 ct:St->Hp->Prop:=fun _ _=>False
abbrev TS:=Ends->St->Hp->Prop
def EP(X:Cx)(pins:List (Addr×Obj))(σ:St)(Q:VK)(u:CN)(s':CO):Prop:=∃v H',Inv X pins σ H' s'/\RelV v u/\Q v H'
def TP(X:Cx)(pins:List (Addr×Obj))(σ:St)(Q:Bool->Hp->Prop)(b:Bool)(s':CO):Prop:=∃H',Inv X pins σ H' s'/\Q b H'
def AP(X:Cx)(pins:List (Addr×Obj))(σ:St)(Q:List V->Hp->Prop)(us:List CN)(s':CO):Prop:=∃vs H',Inv X pins σ H' s'/\Vals vs us/\Q vs H'
def SP(X:Cx)(pins:List (Addr×Obj))(D:Ends)(f:Flow)(s':CO):Prop:=
 match f with
 | .next=>∃σ' H',Inv X pins σ' H' s'/\D.nx σ' H'
 | .brk=>∃σ' H',Inv X pins σ' H' s'/\D.bk σ' H'
 | .cont=>∃σ' H',Inv X pins σ' H' s'/\D.ct σ' H'
 | .ret u=>∃v σ' H',Inv X pins σ' H' s'/\RelV v u/\D.rt v H'
def PE(X:Cx)(e:Expr)(t:TE):Prop:=
 ∀(pins:List (Addr×Obj))(s:CO)(σ:St)(H:Hp)(Q:VK),Inv X pins σ H s->t σ H Q->wpAny (model X.prog X.w) X.A (eval e X.env) (EP X pins σ Q) X.xe s
def PT(X:Cx)(e:Expr)(t:TT):Prop:=
 ∀(pins:List (Addr×Obj))(s:CO)(σ:St)(H:Hp)(Q:Bool->Hp->Prop),Inv X pins σ H s->t σ H Q->wpAny (model X.prog X.w) X.A (isTrue e X.env<|eval e X.env) (TP X pins σ Q) X.xe s
def PW(X:Cx)(e:Expr)(t:TT):Prop:=
 ∀(whole:Sem CN)(pins:List (Addr×Obj))(s:CO)(σ:St)(H:Hp)(Q:Bool->Hp->Prop),Inv X pins σ H s->t σ H Q->wpAny (model X.prog X.w) X.A (isTrue e X.env whole) (TP X pins σ Q) X.xe s
theorem PW.pt{X:Cx}{e:Expr}{t:TT}(h:PW X e t):PT X e t:=h _
def PA(X:Cx)(es:List Expr)(t:TA):Prop:=
 ∀(pos:Pos)(pins:List (Addr×Obj))(s:CO)(σ:St)(H:Hp)(Q:List V->Hp->Prop),Inv X pins σ H s->t σ H Q->wpAny (model X.prog X.w) X.A (spliced<|backTo pos<|starEach es X.env) (AP X pins σ Q) X.xe s
def PS(X:Cx)(st:Stmt)(t:TS):Prop:=
 ∀(pins:List (Addr×Obj))(s:CO)(σ:St)(H:Hp)(D:Ends),Inv X pins σ H s->t D σ H->wpAny (model X.prog X.w) X.A (exec st X.env) (SP X pins D) X.xe s
def PSs(X:Cx)(st:List Stmt)(t:TS):Prop:=
 ∀(pins:List (Addr×Obj))(s:CO)(σ:St)(H:Hp)(D:Ends),Inv X pins σ H s->t D σ H->wpAny (model X.prog X.w) X.A (execs st X.env) (SP X pins D) X.xe s
theorem bO{α:Type}{t:Sem α}{Q Q':α->CO->Prop}{M:Ki}{A:Dy}{E:CN->CO->Prop}{s:CO}(h:wpAny M A t Q E s)(hQ:∀a s,Q a s->Q' a s):wpAny M A t Q' E s:=Eu h hQ fun _ _ x=>x
section
variable{X:Cx}
def ba(i:Nat):TE:=fun σ H Q=>∃v,σ[i]? =some (some v)/\Q v H
def tC(v:V):TE:=fun _ H Q=>Q v H
theorem xS{i:Nat}{x:Str}{pos:Pos}(hN:X.N[i]? =some x)(hv:Vis X.env.scope x)(hd:(x==("__debug__" :Str))=false:=by decide)(hcd:(x==("__classdict__" :Str))=false:=by decide):PE X (.Name x pos) (ba i):=by
 intro pins s σ H Q I h;obtain⟨v,e,h⟩:=h;obtain⟨m,hn,hl⟩:=I.loc;obtain⟨u,r,l⟩:=hl i x v hN e hv;have fin:EP X pins σ Q u s:=⟨v,H,I,r,h⟩
 rcases l with⟨hk,hm⟩|⟨hk,c,hc,hcell⟩
 ·exact Kj (wpAny_loadName_local I.ok.kind hk hn hm fin) hd
 ·rcases hk with hk | hk;·exact Kj (wpAny_loadName_cell I.ok.kind hk hc hcell fin) hd
  ·exact Kj (wpAny_loadName_free I.ok.kind hk hc hcell fin hcd) hd
theorem a8{i j pos}:PE X (.Constant (.int i) j pos) (tC<|.int i):=fun _ _ _ H _ I h=>wpAny_Constant_int ⟨.int i,H,I.tok _,⟨_,rfl⟩,h⟩
theorem eE{b j pos}:PE X (.Constant (.bool b) j pos) (tC<|.bl b):=fun _ _ _ H _ I h=>Constant_bool ⟨.bl b,H,I,rfl,h⟩
theorem lq{j pos}:PE X (.Constant .none j pos) (tC .non):=fun _ _ _ H _ I h=>Constant_none ⟨.non,H,I,rfl,h⟩
theorem aG{x j pos}:PE X (.Constant (.str x) j pos) (tC<|.str x):=fun _ _ _ H _ I h=>Calls.Constant_str ⟨.str x,H,I.tok _,⟨_,rfl⟩,h⟩
def Gl(X:Cx)(x:Str):Prop:=X.env.kindOf x=some .globalImplicit
theorem gF{E:CN->CO->Prop}{pins:List (Addr×Obj)}{s:CO}{σ:St}{H:Hp}{x:Str}{u:CN}{pos:Pos}{Q:CN->CO->Prop}(I:Inv X pins σ H s)(hg:Gl X x)(hm:X.mg x=some u)(h:Q u s)
  (hd:(x==("__debug__" :Str))=false:=by decide):wpAny (model X.prog X.w) X.A (eval (.Name x pos) X.env) Q E s:=
 Hz I.ok.kind hg (Calls.loadGlobal_global (by rw[I.ok.glob];exact I.mod.glob.keeps I.bk) hm h) hd
theorem iz{E:CN->CO->Prop}{pins:List (Addr×Obj)}{s:CO}{σ:St}{H:Hp}{x:Str}{u:CN}{pos:Pos}{Q:CN->CO->Prop}(I:Inv X pins σ H s)(hg:Gl X x)(hm:X.mg x=none)(hv:bootBuiltins x=some u)(h:Q u s)
  (hn:x≠"__name__":=by decide) (hd:(x==("__debug__" :Str))=false:=by decide):wpAny (model X.prog X.w) X.A (eval (.Name x pos) X.env) Q E s:=by
 obtain⟨mb,h1,h2⟩:=I.mod.blt;exact Hz I.ok.kind hg (Calls.loadGlobal_builtin (by rw[I.ok.glob];exact I.mod.glob.keeps I.bk) hm (by rw[I.ok.blt];exact h1.keeps I.bk) ((h2 x hn).trans hv) h) hd
theorem bK{x:Str}{v:V}{u:CN}{pos:Pos}(hg:Gl X x)(hm:X.mg x=some u)(r:RelV v u)(hd:(x==("__debug__" :Str))=false:=by decide):PE X (.Name x pos) (tC v):=
 fun _ _ _ H _ I h=>gF I hg hm ⟨v,H,I,r,h⟩ hd
theorem d9{x:Str}{v:V}{u:CN}{pos:Pos}(hg:Gl X x)(hm:X.mg x=none)(hv:bootBuiltins x=some u)(r:RelV v u)(hn:x≠"__name__":=by decide)(hd:(x==("__debug__" :Str))=false:=by decide):PE X (.Name x pos) (tC v):=
 fun _ _ _ H _ I h=>iz I hg hm hv ⟨v,H,I,r,h⟩ hn hd
variable{a b:Expr}{ta tb:TE}{pos:Pos}
def PC(X:Cx)(op:M3)(a b:Expr)(t:TE):Prop:=
 ∀(pins:List (Addr×Obj))(s:CO)(σ:St)(H:Hp)(Q:VK),Inv X pins σ H s->t σ H Q->
  wpAny (model X.prog X.w) X.A (eval a X.env) (fun v s₁=>wpAny (model X.prog X.w) X.A (eval b X.env) (fun u s₂=>wpAny (model X.prog X.w) X.A (compareOp op v u) (EP X pins σ Q) X.xe s₂) X.xe s₁) X.xe s
def tB(t:TE):TT:=fun σ H Q=>t σ H fun x H1=>∃c,x=.bl c/\Q c H1
theorem xT{op:M3}{t:TE}(h:PC X op a b t)(h1:behindInMarks op b=false:=by first|exact nobehind _ (by decide) (by decide)|rfl):PT X (.Compare a [op] [b] pos) (tB t):=by
 intro pins s σ H Q I hw;refine IJ (bO (h pins s σ H _ I hw) fun v s1 h1=>bO h1 fun u s2 h2=>bO h2 fun c s3⟨x,H1,I1,r1,q1⟩=>?_) h1;obtain⟨d,rfl,q⟩:=q1;cases r1;exact EY ⟨H1,I1,q⟩
theorem bY{e:Expr}{t:TE}(h:PE X e t)(he:∀whole,isTrue e X.env whole=(do let v <-whole;standAt e.pos;holding [v] (truthy v)):=by intro _;rfl):PT X e (tB t):=by
 intro pins s σ H Q I hw;refine isTrue_plain (bO (h pins s σ H _ I hw) fun v s1⟨x,H1,I1,r1,q1⟩=>?_)<|he _;obtain⟨d,rfl,q⟩:=q1;cases r1;exact EY ⟨H1,I1,q⟩
variable{tA tB':TT}{rest:List Expr}
def cU(t u:TT):TT:=fun σ H Q=>t σ H fun c H1=>if c=true then u σ H1 Q else Q false H1
def fP(t u:TT):TT:=fun σ H Q=>t σ H fun c H1=>if c=true then Q true H1 else u σ H1 Q
def cV(t:TT):TT:=fun σ H Q=>t σ H fun c H1=>Q (!c) H1
theorem hX(ha:PT X a tA):PW X (.BoolOp .And [a] pos) tA:=by
 intro wh pins s σ H Q I h;refine isTrue_and<|bO (ha pins s σ H Q I h) fun c s1 e=>?_;cases c with
 |true=>exact isTrue_and_nil e
 |false=>exact e
theorem jq(ha:PT X a tA):PW X (.BoolOp .Or [a] pos) tA:=by
 intro wh pins s σ H Q I h;refine isTrue_or<|bO (ha pins s σ H Q I h) fun c s1 e=>?_;cases c with
 |false=>exact isTrue_or_nil e
 |true=>exact e
theorem jr(ha:PT X a tA)(hb:PW X (.BoolOp .And (b::rest) pos) tB'):PW X (.BoolOp .And (a::b::rest) pos) (cU tA tB'):=by
 intro wh pins s σ H Q I h;refine isTrue_and<|bO (ha pins s σ H _ I h) fun c s1 zz=>?_;obtain⟨H1,I1,q1⟩:=zz;cases c with
 |true=>exact hb wh pins s1 σ H1 Q I1 q1
 |false=>exact⟨H1,I1,q1⟩
theorem kC(ha:PT X a tA)(hb:PW X (.BoolOp .Or (b::rest) pos) tB'):PW X (.BoolOp .Or (a::b::rest) pos) (fP tA tB'):=by
 intro wh pins s σ H Q I h;refine isTrue_or<|bO (ha pins s σ H _ I h) fun c s1 zz=>?_;obtain⟨H1,I1,q1⟩:=zz;cases c with
 |true=>exact⟨H1,I1,q1⟩
 |false=>exact hb wh pins s1 σ H1 Q I1 q1
theorem dw(ha:PT X a tA):PT X (.UnaryOp .Not a pos) (cV tA):=by
 intro pins s σ H Q I h;exact isTrue_not<|ha pins s σ H (fun c H1=>Q (!c) H1) I h
def bE(ta tb:TE):TE:=fun σ H Q=>ta σ H fun x H1=>∃c,x=.bl c/\if c=true then tb σ H1 Q else Q (.bl false) H1
def bF(ta:TE):TE:=fun σ H Q=>ta σ H fun x H1=>∃c,x=.bl c/\Q (.bl<|!c) H1
theorem lu{op}{t:TE}(h:PE X a t):PE X (.BoolOp op [a] pos) t:=fun pins s σ H Q I hw=>BoolOp_one<|h pins s σ H Q I hw
theorem js(ha:PE X a ta)(hb:PE X (.BoolOp .And (b::rest) pos) tb):PE X (.BoolOp .And (a::b::rest) pos) (bE ta tb):=by
 intro pins s σ H Q I h;refine BoolOp_and<|bO (ha pins s σ H _ I h) fun v s1 zz=>?_;obtain⟨x,H1,I1,r1,q1⟩:=zz;obtain⟨c,rfl,q1⟩:=q1;cases r1;refine EY ?_;cases c with
 |true=>exact hb pins s1 σ H1 Q I1 q1
 |false=>exact⟨.bl false,H1,I1,rfl,q1⟩
theorem ny(ha:PE X a ta):PE X (.UnaryOp .Not a pos) (bF ta):=by
 intro pins s σ H Q I h;refine UnaryOp_<|bO (ha pins s σ H _ I h) fun v s1 zz=>?_;obtain⟨x,H1,I1,r1,q1⟩:=zz;obtain⟨c,rfl,q1⟩:=q1;cases r1;exact not_of<|EY ⟨.bl<|!c,H1,I1,rfl,q1⟩
def fQ(t:TT)(ta tb:TE):TE:=fun σ H Q=>t σ H fun c H1=>if c=true then ta σ H1 Q else tb σ H1 Q
theorem jt{c:Expr}(hc:PT X c tA)(ha:PE X a ta)(hb:PE X b tb):PE X (.IfExp c a b pos) (fQ tA ta tb):=by
 intro pins s σ H Q I h;refine wpAny_IfExp<|bO (hc pins s σ H _ I h) fun d s1 zz=>?_;obtain⟨H1,I1,q1⟩:=zz;cases d with
 |true=>exact ha pins s1 σ H1 Q I1 q1
 |false=>exact hb pins s1 σ H1 Q I1 q1
end
def SqL(K:CL)(H:Hp)(a:Addr)(xs:List V):Prop:=
 Rd H a (.lst xs)\/
  ∃(o:Obj)(its:Array CN)(n:Nat),K.lookup a=some o/\o.cls=.type "list"/\o.dict=none/\o.data=.seq its n/\its.size<=sizeLine/\Vals xs its.toList
def SqT(K:CL)(H:Hp)(a:Addr)(xs:List V):Prop:=
 Rd H a (.tup xs)\/
  ∃(o:Obj)(its:Array CN)(n:Nat),K.lookup a=some o/\(o.cls=.type "tuple"/\o.dict=none)/\o.data=.seq its n/\its.size<=sizeLine/\Vals xs its.toList
def Bk:CN->Option V
 | .none=>some .non
 | .bool b=>some<|.bl b
 | .int i _=>some<|.int i
 | .str x _=>some<|.str x
 | .bytes b _=>some<|.byt b
 | .float b _=>some<|.flt b
 | .ref a=>some<|.ref a
 | .type n=>some<|.ty n
 |_=>none
theorem RelV.abs{x:V}{u:CN}(r:RelV x u):Bk u=some x:=by
 cases x with
 |non=>cases r;rfl
 |bl _=>cases r;rfl
 |int _=>obtain⟨t,rfl⟩:=r;rfl
 |str _=>obtain⟨t,rfl⟩:=r;rfl
 |byt _=>obtain⟨t,rfl⟩:=r;rfl
 |flt _=>obtain⟨t,rfl⟩:=r;rfl
 |ref _=>cases r;rfl
 |ty _=>cases r;rfl
theorem RelV.inj{x y:V}{u:CN}(r:RelV x u)(q:RelV y u):x=y:=DJ<|r.abs.symm.trans q.abs
theorem Vals.inj:∀{xs ys:List V}{us:List CN},Vals xs us->Vals ys us->xs=ys
 |_,_,_,.nil,.nil=>rfl
 |_,_,_,.cons r t,.cons r' t'=>by rw[r.inj r',Vals.inj t t']
section
variable{X:Cx}{pins:List (Addr×Obj)}{σ:St}{H:Hp}{s:CO}{a:Addr}{xs ys:List V}
theorem SqL.of{K:CL}(h:H a=some (.lst xs)):SqL K H a xs:=.inl<|.inl h
theorem SqT.of{K:CL}(h:H a=some (.tup xs)):SqT K H a xs:=.inl<|.inl h
theorem Inv.list(I:Inv X pins σ H s)(h:SqL X.K H a xs):∃its:List CN,Vals xs its/\PlainL s.heap a its.toArray/\xs.length<=sizeLine:=by
 rcases h with h|⟨o,its,n,hk,hc,hd,hs,hz,r⟩
 ·obtain⟨z,its,n,r,e⟩:=h.ok I.hok;exact⟨its,r,⟨_,n,e,rfl,rfl,rfl⟩,z⟩
 ·refine⟨its.toList,r,⟨o,n,I.kIn a o hk,hc,hd,by simpa using hs⟩,?_⟩;have e:=r.length;simp only[Ek]at e;omega
theorem Inv.tuple(I:Inv X pins σ H s)(h:SqT X.K H a xs):∃its:List CN,Vals xs its/\M1 s.heap a its.toArray/\xs.length<=sizeLine:=by
 rcases h with h|⟨o,its,n,hk,hc,hs,hz,r⟩
 ·obtain⟨z,its,r,p⟩:=h.ok I.hok;exact⟨its,r,p.tup,z⟩
 ·refine⟨its.toList,r,⟨o,I.kIn a o hk,hc.1,n,by simpa using hs⟩,?_⟩;have e:=r.length;simp only[Ek]at e;omega
theorem Inv.list_inj(I:Inv X pins σ H s)(h:SqL X.K H a xs)(h':SqL X.K H a ys):xs=ys:=by
 obtain⟨its,r,⟨o,n,e,_,_,d⟩,_⟩:=I.list h;obtain⟨its',r',⟨o',n',e',_,_,d'⟩,_⟩:=I.list h';rw[e]at e';cases e';rw[d]at d';injection d' with d1 _;have:its=its':=by simpa using congrArg Lk d1
 subst this;exact r.inj r'
theorem Inv.tuple_inj(I:Inv X pins σ H s)(h:SqT X.K H a xs)(h':SqT X.K H a ys):xs=ys:=by
 obtain⟨its,r,⟨o,e,_,n,d⟩,_⟩:=I.tuple h;obtain⟨its',r',⟨o',e',_,n',d'⟩,_⟩:=I.tuple h';rw[e]at e';cases e';rw[d]at d';injection d' with d1 _;have:its=its':=by simpa using congrArg Lk d1
 subst this;exact r.inj r'
end
abbrev Cx.wish(X:Cx)(E:CN->CO->Prop):Cx:={X with xe:=E}
abbrev Cx.nox(X:Cx):Cx:=X.wish fun _ _=>False
theorem Cx.Ok.wish{X:Cx}(ok:X.Ok)(E:CN->CO->Prop):(X.wish E).Ok:=
 ⟨ok.mod,ok.kind,ok.glob,ok.blt,ok.above,ok.inj,ok.has,ok.cab,ok.hd,ok.frames,ok.stk,ok.exf,ok.bs,ok.bsz,ok.noex,ok.exfs,ok.funs,ok.frf⟩
theorem Cx.Ok.unwish{X:Cx}{E:CN->CO->Prop}(ok:(X.wish E).Ok):X.Ok:=
 ⟨ok.mod,ok.kind,ok.glob,ok.blt,ok.above,ok.inj,ok.has,ok.cab,ok.hd,ok.frames,ok.stk,ok.exf,ok.bs,ok.bsz,ok.noex,ok.exfs,ok.funs,ok.frf⟩
section
variable{X:Cx}{pins:List (Addr×Obj)}{σ:St}{H:Hp}{s:CO}{E:CN->CO->Prop}
theorem Inv.wish(I:Inv X pins σ H s)(E:CN->CO->Prop):Inv (X.wish E) pins σ H s:=⟨I.ok.wish E,I.os,I.bare,I.base,I.loc,I.cell,I.free,I.freeC,I.pin,I.hok,I.len⟩
theorem Inv.unwish(I:Inv (X.wish E) pins σ H s):Inv X pins σ H s:=⟨I.ok.unwish,I.os,I.bare,I.base,I.loc,I.cell,I.free,I.freeC,I.pin,I.hok,I.len⟩
theorem SP.unwish{D:Ends}{f:Flow}{s':CO}(h:SP (X.wish E) pins D f s'):SP X pins D f s':=by
 cases f with
 |next=>obtain⟨σ',H',I,q⟩:=h;exact⟨σ',H',I.unwish,q⟩
 |brk=>obtain⟨σ',H',I,q⟩:=h;exact⟨σ',H',I.unwish,q⟩
 |cont=>obtain⟨σ',H',I,q⟩:=h;exact⟨σ',H',I.unwish,q⟩
 |ret u=>obtain⟨v,σ',H',I,r,q⟩:=h;exact⟨v,σ',H',I.unwish,r,q⟩
theorem PSs.nox{st:List Stmt}{t:TS}(h:PSs X.nox st t):PSs X st t:=fun pins s σ H D I hw=>
 Eu (h pins s σ H D (I.wish _) hw) (fun _ _ q=>q.unwish) fun _ _ z=>Ew z
end
section
variable{X:Cx}{st:Stmt}{rest:List Stmt}{t u:TS}{e:Expr}{te:TE}{pos:Pos}
def aA:TS:=fun D σ H=>D.nx σ H
def dC(t u:TS):TS:=fun D σ H=>t {D with nx:=u D} σ H
theorem aI:PSs X [] aA:=fun _ _ σ H _ I h=>Hm ⟨σ,H,I,h⟩
theorem a6(h1:PS X st t)(h2:PSs X rest u):PSs X (st::rest) (dC t u):=by
 intro pins s σ H D I h;refine JT<|bO (h1 pins s σ H {D with nx:=u D} I h) fun f s1 q=>?_;cases f with
 |next=>
  obtain⟨σ',H',I',q⟩:=q;exact h2 pins s1 σ' H' D I' q
 |ret v=>exact q
 |brk=>exact q
 |cont=>exact q
theorem af(h1:PS X st t):PSs X [st] t:=by
 intro pins s σ H D I h;refine JT<|bO (h1 pins s σ H D I h) fun f s1 q=>?_;cases f with
 |next=>exact Hm q
 |ret v=>exact q
 |brk=>exact q
 |cont=>exact q
theorem Inv.quiet{pins:List (Addr×Obj)}{σ:St}{H:Hp}{s:CO}(I:Inv X pins σ H s):interactive X.env=false:=by simp[interactive,I.ok.kind]
def aV(te:TE):TS:=fun D σ H=>te σ H fun _ H1=>D.nx σ H1
theorem ef(he:PE X e te)(hs:swapsWith e none pos.line X.env=pure false:=by rfl):PS X (.Expr e pos) (aV te):=by
 intro pins s σ H D I h;exact wpAny_Expr_any (bO (he pins s σ H _ I h) fun v s1⟨x,H1,I1,r1,q1⟩=>⟨σ,H1,I1,q1⟩) I.quiet hs
def cq(te:TE):TS:=fun D σ H=>te σ H D.rt
theorem aq(he:PE X e te):PS X (.Return (some e) pos) (cq te):=by
 intro pins s σ H D I h;refine wpAny_Return_some<|bO (he pins s σ H _ I h) fun v s1 zz=>?_;obtain⟨x,H1,I1,r1,q1⟩:=zz;exact⟨x,σ,H1,I1,r1,q1⟩
def j5(c:TT)(t u:TS):TS:=fun D σ H=>c σ H fun b H1=>if b=true then t D σ H1 else u D σ H1
theorem bG{c:Expr}{a b:List Stmt}{tc:TT}(hc:PT X c tc)(ha:PSs X a t)(hb:PSs X b u):PS X (.If c a b pos) (j5 tc t u):=by
 intro pins s σ H D I h;refine wpAny_If<|bO (hc pins s σ H _ I h) fun d s1 zz=>?_;obtain⟨H1,I1,q1⟩:=zz;cases d with
 |true=>exact ha pins s1 σ H1 D I1 q1
 |false=>exact hb pins s1 σ H1 D I1 q1
end
abbrev TG:=V->St->Hp->(St->Hp->Prop)->Prop
abbrev vq:=List V->St->Hp->(St->Hp->Prop)->Prop
def PG(X:Cx)(target:Expr)(t:TG):Prop:=
 ∀(pins:List (Addr×Obj))(s:CO)(σ:St)(H:Hp)(v:V)(u:CN)(Q:St->Hp->Prop),Inv X pins σ H s->RelV v u->t v σ H Q->
  wpAny (model X.prog X.w) X.A (assign target X.env u) (fun _ s'=>∃σ' H',Inv X pins σ' H' s'/\Q σ' H') X.xe s
def zg(X:Cx)(ts:List Expr)(t:vq):Prop:=
 ∀(pins:List (Addr×Obj))(s:CO)(σ:St)(H:Hp)(vs:List V)(us:List CN)(Q:St->Hp->Prop),Inv X pins σ H s->Vals vs us->t vs σ H Q->
  wpAny (model X.prog X.w) X.A (assignInOrder ((assignEach ts X.env).map (·.2)) us) (fun _ s'=>∃σ' H',Inv X pins σ' H' s'/\Q σ' H') X.xe s
abbrev BS:=V->V->Hp->VK->Prop
section
variable{X:Cx}{pos:Pos}
def aF(i:Nat):TG:=fun v σ H Q=>Q (σ.set i<|some v) H
theorem aP{i:Nat}{x:Str}(hN:X.N.Nodup)(hi:X.N[i]? =some x)(hx:xR X.env.scope x)(hf:X.fn x=true\/X.env.scope.names.lookup x=some .local:=by first|exact .inl rfl|exact .inr rfl|assumption):PG X (.Name x pos) (aF i):=by
 intro pins s σ H v u Q I r h;exact Jy<|jo I hN hi hx r (fun s' I'=>⟨_,H,I',h⟩) hf
def cI:vq:=fun vs σ H Q=>vs=[]/\Q σ H
def bg(t:TG)(u:vq):vq:=fun vs σ H Q=>∃v r,vs=v::r/\t v σ H fun σ' H'=>u r σ' H' Q
theorem cj:zg X [] cI:=by
 intro pins s σ H vs us Q I r h;obtain⟨e,h⟩:=h;subst e;cases r;exact assignInOrder_nil ⟨σ,H,I,h⟩
theorem au{e:Expr}{es:List Expr}{t:TG}{u:vq}(h1:PG X e t)(h2:zg X es u)
  (hs:(assignEach (e::es) X.env).map (·.2)=assign e X.env::(assignEach es X.env).map (·.2):=by rfl):zg X (e::es) (bg t u):=by
 intro pins s σ H vs us Q I r h;obtain⟨v,vr,e1,h⟩:=h;subst e1;cases r with
 |cons r rr=>
  rw[hs];refine assignInOrder_cons<|bO (h1 pins s σ H _ _ _ I r h) fun _ s1 zz=>?_;obtain⟨σ1,H1,I1,q1⟩:=zz;exact h2 pins s1 σ1 H1 _ _ Q I1 rr q1
def cA(K:CL)(n:Nat)(t:vq):TG:=fun v σ H Q=>∃a xs,v=.ref a/\SqT K H a xs/\xs.length=n/\t xs σ H Q
theorem xU{es:List Expr}{k:Nat}{t:vq}{n:Nat}(hc:X.calm=true)(h:zg X es t)
  (hn:(assignEach es X.env).length=n:=by rfl) (hst:(assignEach es X.env).findIdx? (·.1)=none:=by rfl):PG X (.Tuple es k pos) (cA X.K n t):=by
 intro pins s σ H v u Q I r hw;obtain⟨a,xs,e1,hq,hl,hw⟩:=hw;subst e1;cases r;obtain⟨its,rv,ht,hz⟩:=I.tuple hq;refine assign_Tuple_tuple (I.ok.hd hc) ht (by simp[hn,<-hl,rv.length]) hst fun h' hx=>?_;have I1:Inv X pins σ H {s with heap:=h'}:=I.kept (t':=s.toks) fun b o e=>hx b o (Dc<|D5 e) e;exact h pins _ σ H xs _ Q I1 (by simpa using rv) hw
def bS(te:TE)(g:TG):TS:=fun D σ H=>te σ H fun x H1=>g x σ H1 D.nx
theorem lx{tg e:Expr}{te:TE}{g:TG}(he:PE X e te)(hg:PG X tg g)(hs:swapsWithSole [tg] e pos.line X.env=pure false:=by rfl)(hw:swappedStores [tg] e X.env=pure none:=by rfl)
  (h1:(assignEach [tg] X.env).map (·.2)=[assign tg X.env]:=by rfl):PS X (.Assign [tg] e pos) (bS te g):=by
 intro pins s σ H D I h;refine wpAny_Assign_stores (bO (he pins s σ H _ I h) fun v s1⟨x,H1,I1,r1,q1⟩=>?_) hs hw;rw[h1];exact bO (hg pins s1 σ H1 x v _ I1 r1 q1) fun _ s2 q=>q
theorem fB{i:Nat}{x:Str}{e:Expr}{te:TE}{pos':Pos}(hN:X.N.Nodup)(hi:X.N[i]? =some x)(hx:xR X.env.scope x)(he:PE X e te)(hs:swapsWith e (some<|.Name x pos') pos.line X.env=pure false:=by rfl)(hf:X.fn x=true\/X.env.scope.names.lookup x=some .local:=by first|exact .inl rfl|exact .inr rfl|assumption):
  PS X (.Assign [.Name x pos'] e pos) (bS te<|aF i):=by
 intro pins s σ H D I h;refine wpAny_Assign_Name (bO (he pins s σ H _ I h) fun v s1⟨y,H1,I1,r1,q1⟩=>?_) hs;exact jo I1 hN hi hx r1 (fun s2 I2=>⟨_,H1,I2,q1⟩) hf
def BJ(f:Int->Int->Int):BS:=fun x y H Q=>∃i j,x=.int i/\y=.int j/\Q (.int<|f i j) H
end
structure It where
 go:Nat->Hp->Prop
 yld:Nat->Hp->V->Hp->Prop
 stop:Nat->Hp->Prop
def FpOk(X:Cx)(pins:List (Addr×Obj))(H:Hp)(b:Addr):Prop:=
 H b=none/\b≠X.env.locals/\b∉X.fs/\(b∈X.ex\/X.s₀.heap.objs.size<=b)/\(∀x c,X.env.cells.lookup x=some c->c≠b)/\∀p∈X.pn++pins,p.1≠b
theorem Inv.fpOk{X:Cx}{pins:List (Addr×Obj)}{σ:St}{H H':Hp}{s:CO}{b:Addr}(I:Inv X pins σ H s)(hb:s.heap.objs.size<=b)(hn:H' b=none):FpOk X pins H' b:=by
 refine⟨hn,EZ<|CZ I.lt hb,I.nofs hb,.inr<|EA I.sz hb,fun x c e z=>?_,fun p hp z=>?_⟩
 ·obtain⟨v,q⟩:=I.cell x c e;exact absurd (CZ q.lt (by rw[z];exact hb))<|DN _
 ·exact absurd (CZ (D5 (I.pin p hp).1) (by rw[z];exact hb))<|DN _
structure Turn(P:Dg)(w:Dr)(K:CL)(tg:Expr)(J:It)(fp:List Addr)(it:Addr)(tn:Nat->Heap->Prop):Prop where
 mem:it∈fp
 obj:∀i h,tn i h->∀b∈fp,∃o,h.get? b=some o/\∀v,o.data≠.cell v
 keep:∀i h h',tn i h->(∀b∈fp,∀o,h.get? b=some o->h'.get? b=some o)->tn i h'
 item:∀(X:Cx),X.prog=P->X.w=w->X.K=K->X.calm=true->∀(i:Nat)(pins:List (Addr×Obj))(s:CO)(σ:St)(H:Hp)(E:CN->CO->Prop),Inv X pins σ H s->(∀b∈fp,FpOk X pins H b)->tn i s.heap->J.go i H->
  wpAny (model P w) X.A (pyNext<|.ref it) (fun r s1=>∃u,r=some u/\
   wpAny (model P w) X.A (letOwnedTupleGo tg (.ref it) u) (fun _ s2=>∃x H',Inv X pins σ H' s2/\RelV x u/\J.yld i H x H'/\tn (i+1) s2.heap/\∀b∈fp,H' b=none) E s1) E s
 done:∀(X:Cx),X.prog=P->X.w=w->X.K=K->X.calm=true->∀(i:Nat)(pins:List (Addr×Obj))(s:CO)(σ:St)(H:Hp)(E:CN->CO->Prop),Inv X pins σ H s->(∀b∈fp,FpOk X pins H b)->tn i s.heap->J.stop i H->
  wpAny (model P w) X.A (pyNext<|.ref it) (fun r s1=>r=none/\Inv X pins σ H s1) E s
 self:∀(A:Dy)(i:Nat)(s:CO)(Q:CN->CO->Prop)(E:CN->CO->Prop),tn i s.heap->Q (.ref it) s->wpAny (model P w) A (pyIter<|.ref it) Q E s
abbrev TI:=St->Hp->(It->Hp->Prop)->Prop
def Bl(X:Cx)(pins:List (Addr×Obj))(σ:St)(tg:Expr)(R:It->Hp->Prop)(itv:CN)(s2:CO):Prop:=
 ∃(it:Addr)(fp:List Addr)(tn:Nat->Heap->Prop)(J:It)(H':Hp),itv=.ref it/\Inv X pins σ H' s2/\Turn X.prog X.w X.K tg J fp it tn/\tn 0 s2.heap/\(∀b∈fp,FpOk X pins H' b)/\R J H'
def PI(X:Cx)(tg iter:Expr)(wi:TI):Prop:=
 ∀(pins:List (Addr×Obj))(s:CO)(σ:St)(H:Hp)(R:It->Hp->Prop),Inv X pins σ H s->wi σ H R->
  wpAny (model X.prog X.w) X.A (eval iter X.env) (fun v s1=>wpAny (model X.prog X.w) X.A (pyIter v) (Bl X pins σ tg R) X.xe s1) X.xe s
theorem me{M:Ki}{A:Dy}{E:CN->CO->Prop}{s:CO}{tg:Expr}{it:Addr}{u:CN}{o:Obj}{n:String}{vs:Array CN}{Q:Unit->CO->Prop}(ho:s.heap.get? it=some o)(hc:o.cls=.type n)(hd:o.data=.fields vs)
    (hn:["enumerate","zip","dict_itemiterator","dict_reverseitemiterator","odict_iterator","itertools.zip_longest","itertools.pairwise"].contains n=false) (hQ:Q () s):wpAny M A (letOwnedTupleGo tg (.ref it) u) Q E s:=by
  unfold letOwnedTupleGo
  cases tg<;>first
    |exact CU hQ
    |(cases u<;>first
        |exact CU hQ
        | (refine CI (wpAny_load ho ?_)
           rw[hc,hd];show wpAny M A (if(["enumerate","zip","dict_itemiterator","dict_reverseitemiterator","odict_iterator","itertools.zip_longest","itertools.pairwise"].contains n&&vs[0]? ==some (rawInt _))=true then _ else _) Q E s;rw[if_neg (by intro h;rw[hn,IX]at h;cases h)];exact CU hQ))
def Bm(K:CL)(a:Addr):It:=
 ⟨fun i H=>∃xs x,SqL K H a xs/\xs[i]? =some x,fun i H x H'=>H'=H/\∀xs,SqL K H a xs->xs[i]? =some x,fun i H=>∃xs,SqL K H a xs/\xs.length<=i⟩
def Bn(lo:Int)(n:Nat):It:=⟨fun i _=>i<n,fun i H x H'=>H'=H/\x=.int (lo+i),fun i _=>n<=i⟩
theorem gG{P:Dg}{w:Dr}{K:CL}{tg:Expr}(a it:Addr):Turn P w K tg (Bm K a) [it] it (fun i h=>h.IsListIter it a i) where
 mem:=by simp
 obj:=fun i h st b hb=>by
  have e:b=it:=by simpa using hb
  subst e;obtain⟨o,e,c,d⟩:=st;exact⟨o,e,fun v z=>by rw[d]at z;cases z⟩
 keep:=fun i h h' st k=>st.at fun o e=>k it (by simp) o e
 item:=by
  intro X hP hw hK hc i pins s σ H E I hf st hg;subst hP hw hK;obtain⟨xs,x,hq,hx⟩:=hg;obtain⟨its,rv,p,hz⟩:=I.list hq;obtain⟨u,hu,ru⟩:=rv.get hx;obtain⟨f0,f1,f2,f3,f4,f5⟩:=hf it (by simp);refine Im st p.isList (x:=u) (by simpa using hu) fun h' st' sb=>?_;have I1:Inv X pins σ H {s with heap:=h'}:=I.turned (t':=s.toks) (fun b o hb e=>(sb.2 b hb).trans e) f0 f1 f3 f4 f5;obtain⟨o,e,c,d⟩:=id st';exact⟨u,rfl,me (s:={s with heap:=h'}) e c d (by decide) ⟨x,H,I1,ru,⟨rfl,fun ys hy=>by rw[I.list_inj hy hq];exact hx⟩,st',fun b hb=>(hf b hb).1⟩⟩
 done:=by
  intro X hP hw hK hc i pins s σ H E I hf st hg;subst hP hw hK;obtain⟨xs,hq,hx⟩:=hg;obtain⟨its,rv,p,hz⟩:=I.list hq;obtain⟨f0,f1,f2,f3,f4,f5⟩:=hf it (by simp);have hl:=rv.length;exact wpAny_pyNext_list_end (I.ok.hd hc) st p.isList (by simp;omega) fun h' eb=>⟨rfl,I.turned (t':=s.toks) (fun b o hb e=>eb b o hb e) f0 f1 f3 f4 f5⟩
 self:=fun _ _ _ _ _ st h=>wpAny_pyIter_listiter st h
theorem nz{P:Dg}{w:Dr}{K:CL}{tg:Expr}(it:Addr)(lo:Int)(n:Nat):Turn P w K tg (Bn lo n) [it] it (fun i h=>IsRangeIter h it (lo+(i:Nat)*1) ((n:Int)-(i:Nat)) 1) where
 mem:=by simp
 obj:=fun i h st b hb=>by
  have e:b=it:=by simpa using hb
  subst e;exact⟨_,st,fun v z=>by
   have z':HQ _=G0 v:=z;cases z'⟩
 keep:=fun i h h' st k=>k it (by simp) _ st
 item:=by
  intro X hP hw hK hc i pins s σ H E I hf st hg;subst hP hw hK;obtain⟨f0,f1,f2,f3,f4,f5⟩:=hf it (by simp);have W:=Walks.range (prog:=X.prog) (w:=X.w) (I.ok.hd hc) it lo 1 n;refine W.item i s _ _ hg st fun v h' tk hv st' kk=>?_;obtain⟨t,rfl⟩:=hv;have I1:Inv X pins σ H {s with heap:=h',toks:=tk}:=I.turned (fun b o hb e=>kk b o (by simpa using hb) e) f0 f1 f3 f4 f5;refine⟨_,rfl,me (s:={s with heap:=h',toks:=tk}) (n:="range_iterator") st' rfl rfl (by decide) ⟨.int<|lo+i,H,I1,⟨t,?_⟩,⟨rfl,rfl⟩,st',fun b hb=>(hf b hb).1⟩⟩;rw[Int.mul_one]
 done:=by
  intro X hP hw hK hc i pins s σ H E I hf st hg;subst hP hw hK;obtain⟨f0,f1,f2,f3,f4,f5⟩:=hf it (by simp);exact wpAny_pyNext_range_end (I.ok.hd hc) st (by have:n<=i:=hg;omega) fun h' eb=>⟨rfl,I.turned (t':=s.toks) (fun b o hb e=>eb b o hb e) f0 f1 f3 f4 f5⟩
 self:=fun _ _ _ _ _ st h=>wpAny_pyIter_rangeiter st h
section
variable{X:Cx}{tg:Expr}
def mi(K:CL)(tl:TE):TI:=fun σ H R=>tl σ H fun x H1=>∃a,x=.ref a/\(∃xs,SqL K H1 a xs)/\R (Bm K a) H1
theorem vt{l:Expr}{tl:TE}(hl:PE X l tl):PI X tg l (mi X.K tl):=by
 intro pins s σ H R I h;refine bO (hl pins s σ H _ I h) fun v s1 zz=>?_;obtain⟨x,H1,I1,r1,q1⟩:=zz;obtain⟨a,e,⟨xs,hq⟩,q⟩:=q1;subst e;cases r1;obtain⟨its,rv,p,hz⟩:=I1.list hq;refine G2 p.isList ?_;refine⟨s1.heap.objs.size,[s1.heap.objs.size],_,_,H1,rfl,I1.kept (t':=s1.toks) fun b o e=>CM _ e,gG a _,⟨_,CY _ rfl,rfl,rfl⟩,fun b hb=>?_,q⟩;have e:b=s1.heap.objs.size:=by simpa using hb
 subst e;exact I1.fpOk (D8 _)<|I1.hok.fresh<|D8 _
theorem rJ{pins:List (Addr×Obj)}{σ:St}{H:Hp}{s:CO}{R:It->Hp->Prop}{E:CN->CO->Prop}{lo hi:Int}{t u v:Tok}{tk:Nat}(I:Inv X pins σ H s)(h1: -(2^62)<=lo)(h2:lo<2^62)(h3: -(2^62)<=hi)(h4:hi<2^62)
  (q:R (Bn lo (hi-lo).toNat) H):wpAny (model X.prog X.w) X.A (pyIter<|.ref s.heap.objs.size) (Bl X pins σ tg R) E {s with heap:=s.heap.push {cls:=.type "range",data:=.fields #[.int lo t,.int hi u,.int 1 v]},toks:=tk}:=by
 refine wpAny_pyIter_range (IsRange.new ..) (small_one h1 h2 h3 h4) ?_;have I1:Inv X pins σ H {s with heap:=s.heap.push {cls:=.type "range",data:=.fields #[.int lo t,.int hi u,.int 1 v]},toks:=tk}:=I.kept fun b o e=>CM _ e;refine⟨(s.heap.push {cls:=.type "range",data:=.fields #[.int lo t,.int hi u,.int 1 v]}).objs.size,[(s.heap.push {cls:=.type "range",data:=.fields #[.int lo t,.int hi u,.int 1 v]}).objs.size],_,_,H,rfl,
  I1.kept (t':=tk) fun b o e=>CM _ e,nz _ lo (hi-lo).toNat,?_,fun b hb=>?_,q⟩
 ·have e1:lo+((0:Nat):Int)*1=lo:=by simp
  have e2:(((hi-lo).toNat:Nat):Int)-((0:Nat):Int)=Li lo hi 1:=by rw[rangeSize_one];split<;>omega
  show IsRangeIter _ _ (lo+((0:Nat):Int)*1) ((((hi-lo).toNat:Nat):Int)-((0:Nat):Int)) 1;rw[e1,e2];exact CY _ rfl
 ·have e:b=(s.heap.push {cls:=.type "range",data:=.fields #[.int lo t,.int hi u,.int 1 v]}).objs.size:=by simpa using hb
  subst e;exact I1.fpOk (D8 _)<|I1.hok.fresh<|D8 _
def rK(ta:TA):TI:=fun σ H R=>ta σ H fun vs H1=>∃j:Int,vs=[.int j]/\ -(2^62)<=j/\j<2^62/\R (Bn 0 j.toNat) H1
theorem gH{a:Expr}{ta:TA}{p pos:Pos}(hg:Gl X "range")(hm:X.mg "range"=none)(ha:PA X [a] ta)(hs:starEach [a] X.env=[(false,eval a X.env)]:=by rfl):PI X tg (.Call (.Name "range" p) [a] [] pos) (rK ta):=by
 intro pins s σ H R I h;refine Call_<|iz I hg hm boot_range<|Fi (bO (ha pos pins s σ H _ I h) fun us s1⟨vs,H1,I1,r1,q1⟩=>?_) hs rfl;obtain⟨j,e,q1,q2,q⟩:=q1;subst e;cases r1 with
 |cons r rr=>
  cases rr;obtain⟨t,rfl⟩:=r;exact call_range_1 (rJ I1 (by omega) (by omega) q1 q2 (by simpa using q))
def rL(wi:TI)(g:TG)(tb:TS):TS:=fun D σ H=>wi σ H fun J H1=>∃W:Nat->Nat->St->Hp->Prop,(∃m,W 0 m σ H1)/\∀i m σ H,W i m σ H->
 (J.stop i H/\D.nx σ H)\/(J.go i H/\∃N:St->Hp->Prop,(∀σ' H',N σ' H'->∃m',m'<m/\W (i+1) m' σ' H')/\∀x H',J.yld i H x H'->g x σ H' fun σ2 H2=>tb {D with nx:=N,ct:=N,bk:=D.nx} σ2 H2)
def iA(fp:List Addr)(h:Heap):List (Addr×Obj):=fp.filterMap fun b=>(h.get? b).map fun o=>(b,o)
theorem fD{fp:List Addr}{h:Heap}{b:Addr}{o:Obj}(hb:b∈fp)(e:h.get? b=some o):(b,o)∈iA fp h:=Gn.mpr ⟨b,hb,by rw[e];rfl⟩
theorem qb{fp:List Addr}{h:Heap}{p:Addr×Obj}(hp:p∈iA fp h):p.1∈fp/\h.get? p.1=some p.2:=by
 obtain⟨b,hb,e⟩:=Gn.mp hp;cases q:h.get? b with
 |none=>rw[q]at e;cases e
 |some o=>
  rw[q]at e;have e':(b,o)=p:=DJ e;subst e';exact⟨hb,q⟩
theorem Inv.pinned{pins:List (Addr×Obj)}{σ:St}{H:Hp}{s:CO}{fp:List Addr}(I:Inv X pins σ H s)(hf:∀b∈fp,FpOk X pins H b)(ho:∀b∈fp,∃o,s.heap.get? b=some o/\∀v,o.data≠.cell v):Inv X (pins++iA fp s.heap) σ H s:=
 I.pins_of fun p hp=>(Ff.mp hp).elim (fun z=>I.pin p<|Dw _ z) fun z=>by
  obtain⟨hb,e⟩:=qb z;obtain⟨f0,f1,f2,_⟩:=hf p.1 hb;obtain⟨o,e',d⟩:=ho p.1 hb;rw[e]at e';cases e';exact⟨e,f0,f1,f2,d⟩
theorem Inv.unpinned{pins pl:List (Addr×Obj)}{σ:St}{H:Hp}{s:CO}(I:Inv X (pins++pl) σ H s):Inv X pins σ H s:=I.pins_of fun p hp=>I.pin p<|Dw _<|Et _ hp
theorem dD{iter:Expr}{body:List Stmt}{wi:TI}{g:TG}{tb:TS}{pos:Pos}(hp:PassesOwn (model X.prog X.w) X.A X.env X.xe)(hc:X.calm=true)(hi:PI X tg iter wi)(hg:PG X tg g)(hb:PSs X body tb)
  (hs:∀x,foldedSetIterable iter X.env x=pure x:=by intro _;rfl):PS X (.For tg iter body [] pos) (rL wi g tb):=by
 intro pins s σ H D I h;refine wpAny_For (bO (hi pins s σ H _ I h) fun v s1 h1=>bO h1 fun itv s2 h2=>?_) hs;obtain⟨it,fp,tn,J,H2,e,I2,T,st2,f2,W,⟨m0,w0⟩,turn⟩:=h2;subst e;have stat:∀{H':Hp},(∀b∈fp,H' b=none)->∀b∈fp,FpOk X pins H' b:=fun hn b hb=>⟨hn b hb,(f2 b hb).2⟩
 refine codeAny_forLoop_any (fun n s'=>∃i σ' H',Inv X pins σ' H' s'/\tn i s'.heap/\(∀b∈fp,H' b=none)/\W i n σ' H') ?_ m0 ⟨0,σ,H2,I2,st2,fun b hb=>(f2 b hb).1,w0⟩;rintro n s3 ⟨i,σ3,H3,I3,st3,fr3,w3⟩;rcases turn i n σ3 H3 w3 with⟨stop,qn⟩|⟨go,N,hN,step⟩
 ·refine Gf hp<|bO (T.done X rfl rfl rfl hc i pins s3 σ3 H3 X.xe I3 (stat fr3) st3 stop) fun r s4 zz=>?_;obtain⟨hr,I4⟩:=zz;subst hr;exact Hm ⟨σ3,H3,I4,qn⟩
 ·refine Gf hp<|bO (T.item X rfl rfl rfl hc i pins s3 σ3 H3 X.xe I3 (stat fr3) st3 go) fun r s4 zz=>?_;obtain⟨u,hr,h4⟩:=zz;subst hr;refine Gf hp<|bO h4 fun _ s5 zz=>?_;obtain⟨x,H5,I5,r5,y5,st5,fr5⟩:=zz;have I5':=I5.pinned (stat fr5)<|T.obj _ _ st5;refine Gf hp<|bO (hg _ s5 σ3 H5 x u _ I5' r5<|step x H5 y5) fun _ s6 zz=>?_;obtain⟨σ6,H6,I6,q6⟩:=zz;refine Gf hp<|bO (hb _ s6 σ6 H6 _ I6 q6) fun f s7 q7=>?_;have again:∀{σ7:St}{H7:Hp},Inv X (pins++iA fp s5.heap) σ7 H7 s7->N σ7 H7->∃m,m<n/\∃i σ' H',Inv X pins σ' H' s7/\tn i s7.heap/\(∀b∈fp,H' b=none)/\W i m σ' H':=fun{σ7 H7}I7 n7=>by
   obtain⟨m',hm,w7⟩:=hN σ7 H7 n7;refine⟨m',hm,i+1,σ7,H7,I7.unpinned,T.keep _ _ _ st5 fun b hb o e=>(I7.pin (b,o)<|Dw _<|Dw _<|fD hb e).1,fun b hb=>?_,w7⟩;obtain⟨o,e,d⟩:=T.obj _ _ st5 b hb;exact(I7.pin (b,o)<|Dw _<|Dw _<|fD hb e).2.1
  cases f with
  |next=>obtain⟨σ7,H7,I7,n7⟩:=q7;exact again I7 n7
  |cont=>obtain⟨σ7,H7,I7,n7⟩:=q7;exact again I7 n7
  |brk=>obtain⟨σ7,H7,I7,q7⟩:=q7;exact⟨σ7,H7,I7.unpinned,q7⟩
  |ret v=>obtain⟨x7,σ7,H7,I7,r7,q7⟩:=q7;exact⟨x7,σ7,H7,I7.unpinned,r7,q7⟩
end
abbrev R2:=V->V->Hp->VK->Prop
def OpR(X:Cx)(f:CN->CN->Sem CN)(r:R2):Prop:=
 ∀(pins:List (Addr×Obj))(s:CO)(σ:St)(H:Hp)(x y:V)(v u:CN)(Q:VK),Inv X pins σ H s->RelV x v->RelV y u->r x y H Q->
  wpAny (model X.prog X.w) X.A (f v u) (EP X pins σ Q) X.xe s
def Bo(X:Cx)(f:CN->Sem CN)(r:V->Hp->VK->Prop):Prop:=
 ∀(pins:List (Addr×Obj))(s:CO)(σ:St)(H:Hp)(x:V)(v:CN)(Q:VK),Inv X pins σ H s->RelV x v->r x H Q->
  wpAny (model X.prog X.w) X.A (f v) (EP X pins σ Q) X.xe s
def ej(X:Cx)(f:CN)(r:List V->Hp->VK->Prop):Prop:=
 ∀(pins:List (Addr×Obj))(s:CO)(σ:St)(H:Hp)(xs:List V)(us:List CN)(Q:VK),Inv X pins σ H s->Vals xs us->r xs H Q->
  wpAny (model X.prog X.w) X.A (call f us) (EP X pins σ Q) X.xe s
def Bp(X:Cx)(r:V->Hp->(Bool->Hp->Prop)->Prop):Prop:=
 ∀(pins:List (Addr×Obj))(s:CO)(σ:St)(H:Hp)(x:V)(v:CN)(Q:Bool->Hp->Prop),Inv X pins σ H s->RelV x v->r x H Q->
  wpAny (model X.prog X.w) X.A (truthy v) (TP X pins σ Q) X.xe s
def dh(r:R2)(ta tb:TE):TE:=fun σ H Q=>ta σ H fun x H1=>tb σ H1 fun y H2=>r x y H2 Q
def fJ(r:V->Hp->VK->Prop)(ta:TE):TE:=fun σ H Q=>ta σ H fun x H1=>r x H1 Q
def rI(C:Int->Int->Prop)(g:Int->Int->V):R2:=fun x y H Q=>∃i j,x=.int i/\y=.int j/\C i j/\Q (g i j) H
def fc(g:Int->Int->V):R2:=fun x y H Q=>∃i j,x=.int i/\y=.int j/\Q (g i j) H
def rU(g:Int->V):V->Hp->VK->Prop:=fun x H Q=>∃i,x=.int i/\Q (g i) H
section
variable{X:Cx}{a b c:Expr}{ta tb tc:TE}{pos:Pos}
theorem xV(ha:PE X a ta)(hb:PE X b tb){pins:List (Addr×Obj)}{s:CO}{σ:St}{H:Hp}{R:V->V->Hp->Prop}(I:Inv X pins σ H s)
  (h:ta σ H fun x H1=>tb σ H1 fun y H2=>R x y H2) {Q:CN->CO->Prop} {f:CN->CN->Sem CN}
  (hf:∀v u s2 x y H2,Inv X pins σ H2 s2->RelV x v->RelV y u->R x y H2->wpAny (model X.prog X.w) X.A (f v u) Q X.xe s2):
  wpAny (model X.prog X.w) X.A (eval a X.env) (fun v s₁=>wpAny (model X.prog X.w) X.A (eval b X.env) (fun u s₂=>wpAny (model X.prog X.w) X.A (f v u) Q X.xe s₂) X.xe s₁) X.xe s:=by
 refine bO (ha pins s σ H _ I h) fun v s1 zz=>?_;obtain⟨x,H1,I1,r1,q1⟩:=zz;refine bO (hb pins s1 σ H1 _ I1 q1) fun u s2 zz=>?_;obtain⟨y,H2,I2,r2,q2⟩:=zz;exact hf v u s2 x y H2 I2 r1 r2 q2
theorem ah{op:LC}{r:R2}(ho:OpR X (binaryOp op) r)(ha:PE X a ta)(hb:PE X b tb):PE X (.BinOp a op b pos) (dh r ta tb):=by
 intro pins s σ H Q I h;exact wpAny_BinOp<|xV ha hb I h fun v u s2 x y H2 I2 rx ry q=>ho pins s2 σ H2 x y v u Q I2 rx ry q
theorem xq{op:UnaryOp}{r:V->Hp->VK->Prop}(ho:Bo X (unaryOp op) r)(ha:PE X a ta):PE X (.UnaryOp op a pos) (fJ r ta):=by
 intro pins s σ H Q I h;refine UnaryOp_<|bO (ha pins s σ H _ I h) fun v s1 zz=>?_;obtain⟨x,H1,I1,r1,q1⟩:=zz;exact ho pins s1 σ H1 x v Q I1 r1 q1
theorem AM{f:CN->CN->Sem CN}{C:Int->Int->Prop}{g:Int->Int->Int}
  (rule:∀(i j:Int)(t u:Tok)(s:CO)(Q:CN->CO->Prop)(E:CN->CO->Prop),C i j->Q (.int (g i j) s.toks) {s with toks:=s.toks+1}->wpAny (model X.prog X.w) X.A (f (.int i t)<|.int j u) Q E s):
  OpR X f (rI C fun i j=>.int<|g i j):=by
 intro pins s σ H x y v u Q I rx ry h;obtain⟨i,j,rfl,rfl,hc,q⟩:=h;obtain⟨t,rfl⟩:=rx;obtain⟨t',rfl⟩:=ry;exact rule i j t t' s _ _ hc ⟨.int<|g i j,H,I.tok _,⟨_,rfl⟩,q⟩
theorem zC{f:CN->CN->Sem CN}{g:Int->Int->Int}
  (rule:∀(i j:Int)(t u:Tok)(s:CO)(Q:CN->CO->Prop)(E:CN->CO->Prop),Q (.int (g i j) s.toks) {s with toks:=s.toks+1}->wpAny (model X.prog X.w) X.A (f (.int i t)<|.int j u) Q E s):
  OpR X f (fc fun i j=>.int<|g i j):=by
 intro pins s σ H x y v u Q I rx ry h;obtain⟨i,j,rfl,rfl,q⟩:=h;obtain⟨t,rfl⟩:=rx;obtain⟨t',rfl⟩:=ry;exact rule i j t t' s _ _ ⟨.int<|g i j,H,I.tok _,⟨_,rfl⟩,q⟩
theorem xW{f:CN->CN->Sem CN}{g:Int->Int->Bool}
  (rule:∀(i j:Int)(t u:Tok)(s:CO)(Q:CN->CO->Prop)(E:CN->CO->Prop),Q (.bool<|g i j) s->wpAny (model X.prog X.w) X.A (f (.int i t)<|.int j u) Q E s):
  OpR X f (fc fun i j=>.bl<|g i j):=by
 intro pins s σ H x y v u Q I rx ry h;obtain⟨i,j,rfl,rfl,q⟩:=h;obtain⟨t,rfl⟩:=rx;obtain⟨t',rfl⟩:=ry;exact rule i j t t' s _ _ ⟨.bl<|g i j,H,I,rfl,q⟩
def zD(i j:Int):Prop:=0<j/\j<1073741824
def zE(i j:Int):Prop:=0<=j/\j<=1000000/\i.natAbs<2^64
def CMul(i j:Int):Prop:=(-(2^64)<i/\i<2^64)\/(-(2^64)<j/\j<2^64)
theorem CMul.ok{i j:Int}(h:CMul i j):IntMulOk i j:=by
 rcases h with⟨h1,h2⟩|⟨h1,h2⟩
 ·exact .of_left<|KP h1 h2
 ·exact .of_right<|KP h1 h2
theorem bM:OpR X (binaryOp .Add) (fc fun i j=>.int<|i+j):=zC fun _ _ _ _ _ _ _ q=>add_int q
theorem ly:OpR X (binaryOp .Sub) (fc fun i j=>.int<|i-j):=zC fun _ _ _ _ _ _ _ q=>sub_int q
theorem iC:OpR X (binaryOp .Mult) (rI CMul fun i j=>.int<|i*j):=AM fun _ _ _ _ _ _ _ hc q=>mul_int q hc.ok
theorem cZ:OpR X (binaryOp .FloorDiv) (rI zD fun i j=>.int<|i/j):=AM fun i j _ _ _ _ _ hc q=>by
 have h1:(0:Int)<j:=hc.1;have h2:j<1073741824:=hc.2;exact floordiv_int (by omega) (by rw[Int.fdiv_eq_ediv_of_nonneg i (by omega)];exact q) (.inl (PyProof.noPylong_small (by omega)))
theorem aX:OpR X (binaryOp .Mod) (rI (fun _ j=>0<j) fun i j=>.int<|i%j):=AM fun i j _ _ _ _ _ hc q=>by
 have h1:(0:Int)<j:=hc;exact mod_int' (by omega) (by rw[Int.fmod_eq_emod_of_nonneg i (by omega)];exact q)
theorem xX:OpR X (binaryOp .Pow) (rI zE fun i j=>.int<|i^j.toNat):=AM fun _ _ _ _ _ _ _ hc q=>pow_int_small hc.1 hc.2.1 hc.2.2 q
theorem BU{f:CN->Sem CN}{g:Int->Int}
  (rule:∀(i:Int)(t:Tok)(s:CO)(Q:CN->CO->Prop)(E:CN->CO->Prop),Q (.int (g i) s.toks) {s with toks:=s.toks+1}->wpAny (model X.prog X.w) X.A (f<|.int i t) Q E s):
  Bo X f (rU fun i=>.int<|g i):=by
 intro pins s σ H x v Q I rx h;obtain⟨i,rfl,q⟩:=h;obtain⟨t,rfl⟩:=rx;exact rule i t s _ _ ⟨.int<|g i,H,I.tok _,⟨_,rfl⟩,q⟩
theorem rM:Bo X (unaryOp .USub) (rU fun i=>.int<|-i):=BU fun _ _ _ _ _ q=>neg_int q
end
def cW:V->V->Bool
 | .non,.non=>true| .non,.int _=>true| .int _,.non=>true| .non,.bl _=>true| .bl _,.non=>true| .non,.str _=>true| .str _,.non=>true
 | .int _,.int _=>true| .bl _,.bl _=>true| .str _,.str _=>true| .byt _,.byt _=>true
 | .int _,.str _=>true| .str _,.int _=>true| .bl _,.str _=>true| .str _,.bl _=>true
 |_,_=>false
def fK:R2:=fun x y H Q=>cW x y=true/\Q (.bl<|decide<|x=y) H
def fR:R2:=fun x y H Q=>cW x y=true/\Q (.bl<|!decide (x=y)) H
theorem oM{i j:Int}:decide (V.int i=V.int j)=(i==j):=by
 rw[Ef];simp
theorem rN{i j:Bool}:decide (V.bl i=V.bl j)=(i==j):=by
 rw[Ef];simp
theorem oN{i j:Str}:decide (V.str i=V.str j)=(i==j):=by
 rw[Ef];simp
theorem oO{i j:Array UInt8}:decide (V.byt i=V.byt j)=(i.toList==j.toList):=by
 rw[Ef];cases i;cases j;simp
section
variable{X:Cx}{a b c:Expr}{ta tb tc:TE}{pos:Pos}
theorem aO{pins:List (Addr×Obj)}{σ:St}{H:Hp}{s:CO}{Q:VK}{k k':Bool}(I:Inv X pins σ H s)(q:Q (.bl k) H)(e:k=k'):EP X pins σ Q (.bool k') s:=by
 subst e;exact⟨.bl k,H,I,rfl,q⟩
theorem dm:OpR X (compareOp .Eq) fK:=by
 intro pins s σ H x y v u Q I rx ry h;obtain⟨hs,q⟩:=h;cases x with
 |non=>
  cases rx;cases y with
  |non=>cases ry;exact Ky (aO I q (by simp))
  |bl j=>cases ry;exact Kz (aO I q (by simp))
  |int j=>obtain⟨t',rfl⟩:=ry;exact KQ (aO I q (by simp))
  |str j=>obtain⟨t',rfl⟩:=ry;exact KR (aO I q (by simp))
  |_=>exact absurd (show false=true from hs) Dd
 |bl i=>
  cases rx;cases y with
  |non=>cases ry;exact KA (aO I q (by simp))
  |bl j=>cases ry;exact eq_bool<|aO I q rN
  |str j=>obtain⟨t',rfl⟩:=ry;exact KC (aO I q (by simp))
  |_=>exact absurd (show false=true from hs) Dd
 |int i=>
  obtain⟨t,rfl⟩:=rx;cases y with
  |non=>cases ry;exact KS (aO I q (by simp))
  |int j=>obtain⟨t',rfl⟩:=ry;exact eq_int<|aO I q oM
  |str j=>obtain⟨t',rfl⟩:=ry;exact KU (aO I q (by simp))
  |_=>exact absurd (show false=true from hs) Dd
 |str i=>
  obtain⟨t,rfl⟩:=rx;cases y with
  |non=>cases ry;exact KW (aO I q (by simp))
  |bl j=>cases ry;exact KD (aO I q (by simp))
  |int j=>obtain⟨t',rfl⟩:=ry;exact KY (aO I q (by simp))
  |str j=>obtain⟨t',rfl⟩:=ry;exact eq_str<|aO I q oN
  |_=>exact absurd (show false=true from hs) Dd
 |byt i=>
  obtain⟨t,rfl⟩:=rx;cases y with
  |byt j=>obtain⟨t',rfl⟩:=ry;exact PySem.W.eq_bytes<|aO I q oO
  |_=>exact absurd (show false=true from hs) Dd
 |_=>cases y<;>exact absurd (show false=true from hs) Dd
theorem xr:OpR X (compareOp .NotEq) fR:=by
 intro pins s σ H x y v u Q I rx ry h;obtain⟨hs,q⟩:=h;cases x with
 |non=>
  cases rx;cases y with
  |non=>cases ry;exact KG (aO I q (by simp))
  |bl j=>cases ry;exact KH (aO I q (by simp))
  |int j=>obtain⟨t',rfl⟩:=ry;exact KZ (aO I q (by simp))
  |str j=>obtain⟨t',rfl⟩:=ry;exact L5 (aO I q (by simp))
  |_=>exact absurd (show false=true from hs) Dd
 |bl i=>
  cases rx;cases y with
  |non=>cases ry;exact KI (aO I q (by simp))
  |bl j=>cases ry;exact ne_bool<|aO I q<|congrArg not rN
  |str j=>obtain⟨t',rfl⟩:=ry;exact KJ (aO I q (by simp))
  |_=>exact absurd (show false=true from hs) Dd
 |int i=>
  obtain⟨t,rfl⟩:=rx;cases y with
  |non=>cases ry;exact L6 (aO I q (by simp))
  |int j=>obtain⟨t',rfl⟩:=ry;exact ne_int<|aO I q<|congrArg not oM
  |str j=>obtain⟨t',rfl⟩:=ry;exact L7 (aO I q (by simp))
  |_=>exact absurd (show false=true from hs) Dd
 |str i=>
  obtain⟨t,rfl⟩:=rx;cases y with
  |non=>cases ry;exact L8 (aO I q (by simp))
  |bl j=>cases ry;exact KL (aO I q (by simp))
  |int j=>obtain⟨t',rfl⟩:=ry;exact L9 (aO I q (by simp))
  |str j=>obtain⟨t',rfl⟩:=ry;exact ne_str<|aO I q<|congrArg not oN
  |_=>exact absurd (show false=true from hs) Dd
 |byt i=>
  obtain⟨t,rfl⟩:=rx;cases y with
  |byt j=>obtain⟨t',rfl⟩:=ry;exact PySem.W.ne_bytes<|aO I q<|congrArg not oO
  |_=>exact absurd (show false=true from hs) Dd
 |_=>cases y<;>exact absurd (show false=true from hs) Dd
theorem rO:OpR X (compareOp .Lt) (fc fun i j=>.bl<|decide<|i<j):=xW fun _ _ _ _ _ _ _ q=>lt_int q
theorem mj:OpR X (compareOp .Gt) (fc fun i j=>.bl<|decide<|j<i):=xW fun _ _ _ _ _ _ _ q=>gt_int q
theorem zF:OpR X (compareOp .GtE) (fc fun i j=>.bl<|decide<|j<=i):=xW fun _ _ _ _ _ _ _ q=>ge_int q
theorem qc:OpR X (compareOp .In) (fun x y H Q=>∃i j,x=.str i/\y=.str j/\Q (.bl<|!(EO j i 0 j.length 1).isEmpty) H):=by
 intro pins s σ H x y v u Q I rx ry h;obtain⟨i,j,rfl,rfl,q⟩:=h;obtain⟨t,rfl⟩:=rx;obtain⟨t',rfl⟩:=ry;exact in_str<|aO I q rfl
theorem op_isN:OpR X (compareOp .Is) (fun x y H Q=>y=.non/\Q (.bl<|decide<|x=.non) H):=by
 intro pins s σ H x y v u Q I rx ry h;obtain⟨rfl,q⟩:=h;cases ry;refine is_none_gen<|aO I q ?_
 cases x<;>first
  |(cases rx;rfl)
  |(obtain⟨t,rfl⟩:=rx;rfl)
theorem vv:OpR X (compareOp .IsNot) (fun x y H Q=>y=.non/\Q (.bl<|!decide (x=.non)) H):=by
 intro pins s σ H x y v u Q I rx ry h;obtain⟨rfl,q⟩:=h;cases ry;refine isnot_none_gen<|aO I q ?_
 cases x<;>first
  |(cases rx;rfl)
  |(obtain⟨t,rfl⟩:=rx;rfl)
theorem lA:OpR X (compareOp .NotIn) (fun x y H Q=>∃i j,x=.str i/\y=.str j/\Q (.bl<|!(!(EO j i 0 j.length 1).isEmpty)) H):=by
 intro pins s σ H x y v u Q I rx ry h;obtain⟨i,j,rfl,rfl,q⟩:=h;obtain⟨t,rfl⟩:=rx;obtain⟨t',rfl⟩:=ry;exact notIn_str<|aO I q rfl
theorem OpR.or{f:CN->CN->Sem CN}{r r':R2}(h:OpR X f r)(h':OpR X f r'):OpR X f (fun x y H Q=>r x y H Q\/r' x y H Q):=by
 intro pins s σ H x y v u Q I rx ry q;rcases q with q|q
 ·exact h pins s σ H x y v u Q I rx ry q
 ·exact h' pins s σ H x y v u Q I rx ry q
theorem aY(b:Expr){op:M3}(h:op≠.In:=by decide)(h2:op≠.NotIn:=by decide):behindInMarks op b=false:=by
 have e1:(op==CmpOp.In)=false:=by cases op<;>first|rfl|exact absurd rfl h
 have e2:(op==CmpOp.NotIn)=false:=by cases op<;>first|rfl|exact absurd rfl h2
 cases b<;>simp[behindInMarks,e1,e2]
theorem dE{op:M3}{r:R2}(ho:OpR X (compareOp op) r)(ha:PE X a ta)(hb:PE X b tb)(hm:behindInMarks op b=false):PE X (.Compare a [op] [b] pos) (dh r ta tb):=by
 intro pins s σ H Q I h;exact wpAny_Compare1 (xV ha hb I h fun v u s2 x y H2 I2 rx ry q=>ho pins s2 σ H2 x y v u Q I2 rx ry q) hm
def bH(t:TE):TT:=fun σ H Q=>t σ H fun x H'=>∃k,x=.bl k/\Q k H'
theorem bc{op:M3}{r:R2}(ho:OpR X (compareOp op) r)(ha:PE X a ta)(hb:PE X b tb)(hm:behindInMarks op b=false):PT X (.Compare a [op] [b] pos) (bH<|dh r ta tb):=by
 intro pins s σ H Q I h;refine IJ (bO (ha pins s σ H _ I h) fun v s1⟨x,H1,I1,r1,q1⟩=>bO (hb pins s1 σ H1 _ I1 q1) fun u s2⟨y,H2,I2,r2,q2⟩=>
  bO (ho pins s2 σ H2 x y v u _ I2 r1 r2 q2) fun c s3⟨z,H3,I3,r3,k,e,q3⟩=>?_) hm
 subst e;cases r3;exact EY ⟨H3,I3,q3⟩
def xY(K:CL)(x:V)(H:Hp)(k:Bool):Prop:=
 match x with
 | .non=>k=false
 | .bl b=>k=b
 | .int i=>k=(i != 0)
 | .str y=>y.length<=sizeLine/\k=((y.length:Int) != 0)
 | .byt y=>y.size<=sizeLine/\k=((y.size:Int) != 0)
 | .ref p=>(∃xs,SqL K H p xs/\k= !xs.isEmpty)\/(∃xs,SqT K H p xs/\k= !xs.isEmpty)\/∃kvs,H p=some (.dK kvs)/\k= !kvs.isEmpty
 |_=>False
theorem nA{κ:Type}{kvs:List (κ×V)}{vs:List (κ×CN)}(r:KV kvs vs):(!vs.isEmpty)= !kvs.isEmpty:=by
 cases r<;>rfl
theorem ju{xs:List V}{its:List CN}(r:Vals xs its):(!its.toArray.isEmpty)= !xs.isEmpty:=by
 cases r<;>simp
theorem jv:(sizeLine:Nat)<2^63:=by rw[El];decide
theorem xZ:Bp X (fun x H Q=>∃k,xY X.K x H k/\Q k H):=by
 intro pins s σ H x v Q I rx h;obtain⟨k,e,q⟩:=h;have hl:=jv;have hs:sizeLine=16777216:=El;cases x with
 |non=>
  cases rx;have e':k=false:=e;subst e';exact truthy_none ⟨H,I,q⟩
 |bl b=>
  cases rx;have e':k=b:=e;subst e';exact EY ⟨H,I,q⟩
 |int i=>
  obtain⟨t,rfl⟩:=rx;have e':k=(i != 0):=e;subst e';exact PySem.P.truthy_int ⟨H,I,q⟩
 |str y=>
  obtain⟨t,rfl⟩:=rx;obtain⟨hy,e'⟩:y.length<=sizeLine/\k=((y.length:Int) != 0):=e;subst e';exact PySem.P.truthy_str (by omega) ⟨H,I.tok _,q⟩
 |byt y=>
  obtain⟨t,rfl⟩:=rx;obtain⟨hy,e'⟩:y.size<=sizeLine/\k=((y.size:Int) != 0):=e;subst e';exact PySem.W.truthy_bytes (by omega) ⟨H,I.tok _,q⟩
 |ref p=>
  cases rx;have e':(∃xs,SqL X.K H p xs/\k= !xs.isEmpty)\/(∃xs,SqT X.K H p xs/\k= !xs.isEmpty)\/∃kvs,H p=some (.dK kvs)/\k= !kvs.isEmpty:=e;rcases e' with⟨xs,hx,e'⟩|⟨xs,hx,e'⟩|⟨kvs,hx,e'⟩
  ·subst e';obtain⟨its,r,pl,hz⟩:=I.list hx;have hlen:=r.length;exact wpAny_truthy_list pl.isList (by simp only[D9];omega) ⟨H,I.tok _,by rw[ju r];exact q⟩
  ·subst e';obtain⟨its,r,pl,hz⟩:=I.tuple hx;have hlen:=r.length;exact truthy_tuple pl (by simp only[D9];omega) ⟨H,I.tok _,by rw[ju r];exact q⟩
  ·subst e';obtain⟨hz,hS,vs,r,m⟩:kvs.length<=sizeLine/\(p==sysModules)=false/\∃vs,KV kvs vs/\s.heap.DictOf (bf X.prog X.w) p vs:=I.hok p _ hx;have hlen:kvs.length=vs.length:=Paired.length r;exact wpAny_truthy_dict hS m (by omega) ⟨H,I.tok _,by rw[nA r];exact q⟩
 |_=>exact(show False from e).elim
theorem rP(ha:PE X a ta)(he:∀whole,isTrue a X.env whole=(do let v <-whole;standAt a.pos;holding [v] (truthy v))):
  PT X a (fun σ H Q=>ta σ H fun x H'=>∃k,xY X.K x H' k/\Q k H'):=by
 intro pins s σ H Q I h;exact isTrue_plain (bO (ha pins s σ H _ I h) fun v s1⟨x,H1,I1,r1,q1⟩=>xZ pins s1 σ H1 x v Q I1 r1 q1)<|he _
theorem bT:OpR X (binaryOp .Add) (fun x y H Q=>∃i j,x=.str i/\y=.str j/\i.length+j.length<=sizeLine/\Q (.str<|i++j) H):=by
 intro pins s σ H x y v u Q I rx ry h;obtain⟨i,j,rfl,rfl,hz,q⟩:=h;obtain⟨t,rfl⟩:=rx;obtain⟨t',rfl⟩:=ry;exact add_str (fun t' tk=>⟨.str<|i++j,H,I.tok _,⟨_,rfl⟩,q⟩) hz
theorem fT{x:V}{us:List CN}(r:Vals [x] us):∃u,us=[u]/\RelV x u:=by
 cases r with
 |cons r1 r2=>cases r2;exact⟨_,rfl,r1⟩
theorem oP{x y:V}{us:List CN}(r:Vals [x,y] us):∃u w',us=[u,w']/\RelV x u/\RelV y w':=by
 cases r with
 |cons r1 r2=>
  cases r2 with
  |cons r3 r4=>cases r4;exact⟨_,_,rfl,r1,r3⟩
theorem fU:ej X (.builtin "abs") (fun xs H Q=>∃i,xs=[.int i]/\Q (.int (if i<0 then -i else i)) H):=by
 intro pins s σ H xs us Q I r h;obtain⟨i,rfl,q⟩:=h;obtain⟨u,rfl,t,rfl⟩:=fT r;exact call_abs_int fun u tk=>⟨.int (if i<0 then -i else i),H,I.tok _,⟨_,rfl⟩,q⟩
theorem kD(hc:X.calm=true):ej X (.builtin "max") (fun xs H Q=>∃i j,xs=[.int i,.int j]/\Q (.int (if j>i then j else i)) H):=by
 intro pins s σ H xs us Q I r h;obtain⟨i,j,rfl,q⟩:=h;obtain⟨u,w',rfl,⟨t,rfl⟩,⟨t',rfl⟩⟩:=oP r;refine max_two_ints (I.ok.hd hc) fun h' tk k=>⟨_,H,I.kept k,?_,q⟩
 by_cases hj:j>i;·rw[if_pos hj,if_pos hj];exact⟨_,rfl⟩
 ·rw[if_neg hj,if_neg hj];exact⟨_,rfl⟩
theorem kE:ej X (.type "int") (fun xs H Q=>(∃i,xs=[.int i]/\Q (.int i) H)\/∃k,xs=[.bl k]/\Q (.int (if k then 1 else 0)) H):=by
 intro pins s σ H xs us Q I r h;rcases h with⟨i,rfl,q⟩|⟨k,rfl,q⟩
 ·obtain⟨u,rfl,t,rfl⟩:=fT r;exact call_int_int ⟨.int i,H,I,⟨_,rfl⟩,q⟩
 ·obtain⟨u,rfl,r1⟩:=fT r;cases r1;exact call_int_bool ⟨.int (if k then 1 else 0),H,I.tok _,⟨_,rfl⟩,q⟩
def mn(K:CL)(x:V)(H:Hp)(n:Nat):Prop:=
 match x with
 | .str y=>y.length<=sizeLine/\n=y.length
 | .byt y=>y.size<=sizeLine/\n=y.size
 | .ref p=>(∃xs,SqL K H p xs/\n=xs.length)\/∃xs,SqT K H p xs/\n=xs.length
 |_=>False
theorem rQ:ej X (.builtin "len") (fun xs H Q=>∃x n,xs=[x]/\mn X.K x H n/\Q (.int n) H):=by
 intro pins s σ H xs us Q I r h;obtain⟨x,n,rfl,e,q⟩:=h;obtain⟨u,rfl,rx⟩:=fT r;have hl:=jv;have hs:sizeLine=16777216:=El;cases x with
 |str y=>
  obtain⟨t,rfl⟩:=rx;obtain⟨hy,e'⟩:y.length<=sizeLine/\n=y.length:=e;subst e';exact len_str (by omega) ⟨.int _,H,I.tok _,⟨_,rfl⟩,q⟩
 |byt y=>
  obtain⟨t,rfl⟩:=rx;obtain⟨hy,e'⟩:y.size<=sizeLine/\n=y.size:=e;subst e';exact PySem.W.len_bytes (by omega) ⟨.int _,H,I.tok _,⟨_,rfl⟩,q⟩
 |ref p=>
  cases rx;have e':(∃xs,SqL X.K H p xs/\n=xs.length)\/∃xs,SqT X.K H p xs/\n=xs.length:=e;rcases e' with⟨xs,hx,e'⟩|⟨xs,hx,e'⟩
  ·subst e';obtain⟨its,r',pl,hz⟩:=I.list hx;have hlen:=r'.length;exact Calls.call_len_list pl.isList (by simp only[D9];omega) ⟨.int xs.length,H,I.tok _,⟨_,by simp only[D9];rw[hlen]⟩,q⟩
  ·subst e';obtain⟨its,r',pl,hz⟩:=I.tuple hx;have hlen:=r'.length;exact len_tuple pl (by simp only[D9];omega) ⟨.int xs.length,H,I.tok _,⟨_,by simp only[D9];rw[hlen]⟩,q⟩
 |_=>exact(show False from e).elim
end
structure ObjM(h:Heap)(x dx C:Addr)(mA:Str->Option CN):Prop where
 obj:h.get? x=some (Fe C dx)
 ns:h.Ns1 dx mA
 ne:dx≠x
theorem qd{h:Heap}{dx:Addr}{mA:Str->Option CN}(n:h.Ns1 dx mA):∃od,h.get? dx=some od/\∀name,HA name od=some (mA name):=by
 obtain⟨o,es,ep,ho,hd,hk,_,hm⟩:=n;refine⟨o,ho,fun name=>?_⟩;have e:=hm name;unfold nsFind findBy at e;rw[<-Array.find?_toList]at e;unfold HA;rw[hd];dsimp only;split
 ·rename_i y q;rw[q]at e;exact congrArg some e
 ·rename_i q;rw[q]at e;have a:es.toList.any (·.refKey)=false:=by
   rw[List.any_eq_false];intro y hy;obtain⟨z,t,hkey⟩:=hk y<|IY.mp hy;simp[DictEntry.refKey,hkey]
  have a':¬es.toList.any (·.refKey)=true:=by rw[a];exact Dd
  rw[if_neg a'];exact congrArg some e
theorem ObjM.look{h:Heap}{x dx C:Addr}{mA:Str->Option CN}(I:ObjM h x dx C mA):∃od,GD h x (Fe C dx) C (some od)/\∀name,HA name od=some (mA name):=
 let ⟨od,ho,hl⟩:=qd I.ns
 ⟨od,⟨I.obj,rfl,rfl,ho⟩,hl⟩
section
variable{prog:Dg}{w:Dr}{A:Dy}{E:CN->CO->Prop}{s:CO}{K:CL}{x dx C f:Addr}{mA:Str->Option CN}{name:Str}{v:CN}
theorem vz{expr:Bool}{Q:CN->CO->Prop}(X:K.In s.heap)(I:ObjM s.heap x dx C mA)(hg:FG K C name=true)(hh:G3 K C=true)
  (ha:CQ K (.ref C) name=some none) (hv:mA name=some v) (hv':JU v=true) (h:Q v {s with toks:=s.toks+1}):
  wpAny (model prog w) A (getAttr (.ref x) name expr) Q E s:=by
 obtain⟨od,J,hl⟩:=I.look;exact PySem.W.get_value X J (Ht hg).1 (PySem.W.findObj_own hh ha rfl (by rw[hl,hv])) hv' h
theorem rR{pl:Sem Bool}{Q:CN×List CN->CO->Prop}(X:K.In s.heap)(I:ObjM s.heap x dx C mA)(hg:FG K C name=true)
  (hf:CQ K (.ref C) name=some (some<|.ref f)) (ht:EB K (.ref f)=true) (hv:mA name=none) (h:Q (.ref f,[.ref x]) s):
  wpAny (model prog w) A (getMethod (.ref x) name pl) Q E s:=by
 obtain⟨od,J,hl⟩:=I.look;exact PySem.W.method_fn X J (Ht hg).1 (Ht hg).2 hf (beq_iff_eq.mp ht) (by show(HA name od).map (·.isSome)=some false;rw[hl,hv];rfl) h
theorem vA{ns:List Str}{Q:Unit->CO->Prop}(X:K.In s.heap)(I:ObjM s.heap x dx C mA)
  (hs:CQ K (.ref C) "__setattr__"=some (some<|.builtin "object.__setattr__")) (hp:GF K C=true) (ht:IE K C name=some none) (hh:G3 K C=true)
  (hw:Jx mA ns) (hsz:ns.length<=sizeLine)
  (h:∀h',ObjM h' x dx C (fun y=>if y=name then some v else mA y)->Dl dx s.heap h'->Q () {s with heap:=h',toks:=s.toks+2}):
  wpAny (model prog w) A (setAttr (.ref x) name v) Q E s:=by
 obtain⟨od,J,hl⟩:=I.look;refine PySem.W.set_plain X J hs<|PySem.W.osa_open (s:={s with toks:=s.toks+1}) (r:=none) X J hp ht fun b=>?_;obtain⟨cd,hc,hd'⟩:=PySem.W.any_some hh;have hx:s.heap.get? x=some ⟨.ref C,some dx,.plain, #[]⟩:=I.obj;refine CI<|CU<|CI<|CI<|Kk hx<|CI<|LQ (s:={s with toks:=s.toks+1}) (PySem.W.looks_clsIn X hc) ?_;rw[hd'];refine CU (a:=some dx)<|CI<|CU<|CI ?_;refine wpAny_nsSet1 (s:={s with toks:=s.toks+1}) I.ns fun h' hn2 hs2=>?_;obtain⟨oD,esD,epD,hoD,hdD,hcD⟩:=hn2.count<|M4 name v hw;refine CI (wpAny_lookBehind hoD (by rw[hdD];exact pastItsLine_dict (EA hcD (by rw[DW];omega))) ?_);exact CU<|h _ ⟨(hs2.2 _<|Ec I.ne).trans I.obj,hn2,I.ne⟩ hs2
theorem rS{R:Ll->CO->Prop}{vs:List CN}{kw:List (Str×CN)}(X:K.In s.heap)(hm:Hn K C=true)
  (hi:CQ K (.ref C) "__init__"=some (some<|.ref f)) (hf:PySem.W.typeIn K (.ref f)=some (.type "function"))
  (h:codeAny (model prog w) (A.under<|.builtin "type.__call__" ⟨.ref C::vs,kw⟩) (.call (.ref f) ⟨.ref (s.heap.objs.size+1)::vs,kw⟩) (PySem.W.InitBack (s.heap.objs.size+1) R)
   {s with heap:=(s.heap.push EJ).push (Fe C s.heap.objs.size)}):
  codeAny (model prog w) A (.call (.ref C) ⟨vs,kw⟩) R s:=by
 obtain⟨hh,g,d,t,os⟩:=s;exact PySem.W.make_core (PySem.W.makes_of X hm) (HB X hi) (fun self=>PySem.W.bind_fn X self hf) (.inl rfl) h
end
def dF(f:Str)(v:V):List (Str×V)->List (Str×V)
 | []=>[(f,v)]
 |(g,x)::r=>if g=f then(g,v)::r else(g,x)::dF f v r
theorem iR(f g:Str)(v:V):∀fs:List (Str×V),(dF f v fs).lookup g=if g=f then some v else fs.lookup g
 | []=>by
  show EK g [(f,v)]=_;by_cases h:g=f
  ·have hb:(g == f)=true:=beq_iff_eq.mpr h;simp only[EK,hb,if_pos h]
  ·have hb:(g == f)=false:=beq_eq_false_iff_ne.mpr h;simp only[EK,hb,if_neg h]
 |(k,x)::r=>by
  have ih:=iR f g v r;rw[show dF f v ((k,x)::r)=(if k=f then(k,v)::r else(k,x)::dF f v r)from rfl];by_cases hk:k=f
  ·rw[if_pos hk];by_cases h:g=k
   ·have hb:(g == k)=true:=beq_iff_eq.mpr h;simp only[EK,hb,if_pos<|h.trans hk]
   ·have hb:(g == k)=false:=beq_eq_false_iff_ne.mpr h;simp only[EK,hb,if_neg (fun e:g=f=>h<|e.trans hk.symm)]
  ·rw[if_neg hk];by_cases h:g=k
   ·have hb:(g == k)=true:=beq_iff_eq.mpr h;simp only[EK,hb,if_neg (fun e:g=f=>hk<|h.symm.trans e)]
   ·have hb:(g == k)=false:=beq_eq_false_iff_ne.mpr h;simp only[EK,hb];exact ih
theorem iD(f:Str)(v:V):∀fs:List (Str×V),f∈(dF f v fs).map (·.1)/\∀g,g∈fs.map (·.1)->g∈(dF f v fs).map (·.1)
 | []=>⟨by simp[dF],fun g h=>by simp at h⟩
 |(k,x)::r=>by
  obtain⟨i1,i2⟩:=iD f v r;rw[show dF f v ((k,x)::r)=(if k=f then(k,v)::r else(k,x)::dF f v r)from rfl];by_cases hk:k=f
  ·rw[if_pos hk];subst hk;exact⟨by simp,fun g h=>by simpa using h⟩
  ·rw[if_neg hk];refine⟨?_,fun g h=>?_⟩
   ·rw[DO];exact D4 _ i1
   ·rw[DO]at h ⊢;rcases D7.mp h with e|e
    ·exact D7.mpr<|.inl e
    ·exact D4 _<|i2 g e
theorem iS(f:Str)(v:V):∀fs:List (Str×V),(dF f v fs).length<=fs.length+1
 | []=>by simp[dF]
 |(k,x)::r=>by
  have ih:=iS f v r;rw[show dF f v ((k,x)::r)=(if k=f then(k,v)::r else(k,x)::dF f v r)from rfl];by_cases hk:k=f;·rw[if_pos hk,DW,DW];omega
  ·rw[if_neg hk,DW,DW];omega
theorem RelO.some_of{v:V}{o:Option CN}(r:RelO (some v) o):∃u,o=some u/\RelV v u:=by
 cases o with
 |none=>exact(show False from r).elim
 |some u=>exact⟨u,rfl,r⟩
theorem RelO.none_of{o:Option CN}(r:RelO none o):o=none:=by
 cases o with
 |none=>rfl
 |some u=>exact(show False from r).elim
theorem qe{v:V}{u:CN}(r:RelV v u):JU u=true:=by
 cases v with
 |non=>cases (show u=DC from r);rfl
 |bl b=>cases (show u=Jk b from r);rfl
 |int i=>obtain⟨t,e⟩:=(show ∃t,u=Hx i t from r);cases e;rfl
 |str x=>obtain⟨t,e⟩:=(show ∃t,u=J7 x t from r);cases e;rfl
 |byt b=>obtain⟨t,e⟩:=(show ∃t,u=LB b t from r);cases e;rfl
 |flt b=>obtain⟨t,e⟩:=(show ∃t,u=K1 b t from r);cases e;rfl
 |ref a=>cases (show u=D6 a from r);rfl
 |ty n=>cases (show u=LP n from r);rfl
section
variable{P:Dg}{w:Dr}{H H':Hp}{h h':Heap}{a C dx:Addr}{fs fs':List (Str×V)}
theorem je(hok:HOk P w H h)(e:H a=some (.ins C dx fs)):∃mA,ObjM h a dx C mA/\(∀f,RelO (fs.lookup f)<|mA f)/\Jx mA (fs.map (·.1))/\fs.length<=1000/\H dx=some (.own a):=by
 obtain⟨d,z,ne,ob,mA,n,r,q⟩:=(show ObjOk P w H h a (.ins C dx fs)from hok a _ e)
 exact⟨mA,⟨ob,n,ne⟩,r,q,z,d⟩
end
structure Cls(K:CL)(C:Addr):Prop where
 pg:FG K C J8=true
 hd:G3 K C=true
 po:GF K C=true
 sa:CQ K (.ref C) "__setattr__"=some (some<|.builtin "object.__setattr__")
theorem Cls.get{K:CL}{C:Addr}(c:Cls K C)(f:Str):FG K C f=true:=c.pg
def NoAttr(K:CL)(C:Addr)(f:Str):Prop:=CQ K (.ref C) f=some none
theorem NoAttr.taker{K:CL}{C:Addr}{f:Str}(n:NoAttr K C f):IE K C f=some none:=by
 unfold IE;rw[show CQ K (.ref C) f=some none from n];rfl
structure Meth(K:CL)(C:Addr)(m:Str)(f:Addr):Prop where
 at_:CQ K (.ref C) m=some (some<|.ref f)
 fn:EB K (.ref f)=true
 kp:Dp K (.ref f)=true
section
variable{X:Cx}{pins:List (Addr×Obj)}{σ:St}{H:Hp}{s:CO}{a C dx:Addr}{fs:List (Str×V)}{f:Str}{v:V}{A:Dy}{E:CN->CO->Prop}
theorem nE{b:Bool}{Q:CN->CO->Prop}(I:Inv X pins σ H s)(e:H a=some (.ins C dx fs))(c:Cls X.K C)(n:NoAttr X.K C f)(l:fs.lookup f=some v)
  (h:∀u s',Inv X pins σ H s'->RelV v u->Q u s'):wpAny (model X.prog X.w) A (getAttr (.ref a) f b) Q E s:=by
 obtain⟨mA,O,r,_,_,_⟩:=je I.hok e;obtain⟨u,hu,ru⟩:=RelO.some_of (v:=v) (o:=mA f) (by rw[<-l];exact r f);exact vz I.kIn O (c.get f) c.hd n hu (qe ru)<|h u _ (I.tok _) ru
theorem jw{m:Str}{g:Addr}{pl:Sem Bool}{Q:CN×List CN->CO->Prop}(I:Inv X pins σ H s)(e:H a=some (.ins C dx fs))(c:Cls X.K C)(k:Meth X.K C m g)(l:fs.lookup m=none)
  (h:Q (.ref g,[.ref a]) s):wpAny (model X.prog X.w) A (getMethod (.ref a) m pl) Q E s:=by
 obtain⟨mA,O,r,_,_,_⟩:=je I.hok e;have hn:mA m=none:=RelO.none_of (by rw[<-l];exact r m);exact rR I.kIn O (c.get m) k.at_ k.fn hn h
theorem nG{y:V}{u:CN}{Q:Unit->CO->Prop}(I:Inv X pins σ H s)(e:H a=some (.ins C dx fs))(c:Cls X.K C)(n:NoAttr X.K C f)(hl:fs.length<1000)(ry:RelV y u)
  (h:∀s',Inv X pins σ (cg H a<|.ins C dx<|dF f y fs) s'->Q () s'):wpAny (model X.prog X.w) A (setAttr (.ref a) f u) Q E s:=by
 obtain⟨mA,O,r,wi,_,ho⟩:=je I.hok e;have hz:(fs.map (·.1)).length<=sizeLine:=by rw[Dq,El];omega
 refine vA I.kIn O c.sa c.po n.taker c.hd wi hz fun h' O' sb=>h _ ?_;have hd:∃o,h'.get? dx=some o:=let ⟨o,_,_,e',_⟩:=O'.ns;⟨o,e'⟩;refine I.write (x:=a) (e:=dx) (by rw[e];exact Fp) (.inr ho) (fun b q hb z=>(sb.2 b hb).trans z) hd ?_;refine⟨by rw[ai O.ne];exact ho,?_,O.ne,O'.obj,_,O'.ns,fun g=>?_,fun g hg=>?_⟩;·have:=iS f y fs;omega
 ·show RelO ((dF f y fs).lookup g) (if g=f then some u else mA g);rw[iR];by_cases q:g=f;·rw[if_pos q,if_pos q];exact ry
  ·rw[if_neg q,if_neg q];exact r g
 ·by_cases q:g=f;·rw[q];exact(iD f y fs).1
  ·refine(iD f y fs).2 g (wi g fun z=>hg ?_);show(if g=f then some u else mA g)=none;rw[if_neg q];exact z
theorem Inv.made(I:Inv X pins σ H s):Inv X pins σ (cg (cg H s.heap.objs.size<|.own<|s.heap.objs.size+1) (s.heap.objs.size+1)<|.ins C s.heap.objs.size [])
  {s with heap:=(s.heap.push EJ).push (Fe C s.heap.objs.size)}:=by
 have e1:(s.heap.push EJ).get? s.heap.objs.size=some EJ:=CY s.heap rfl;have e2:((s.heap.push EJ).push (Fe C s.heap.objs.size)).get? (s.heap.objs.size+1)=some (Fe C s.heap.objs.size):=by
  have:=CY (s.heap.push EJ) (o:=Fe C s.heap.objs.size) rfl
  rwa [DG]at this
 have e3:(s.heap.push EJ).Ns s.heap.objs.size (fun _=>none):=⟨EJ, #[],_,e1,rfl,(fun e he=>absurd he (by simp)),fun _=>rfl⟩
 have I1:=I.laid (a:=s.heap.objs.size) (o:=.own<|s.heap.objs.size+1) (h':=s.heap.push EJ) (t':=s.toks) (fun b u q=>CM _ q) (D8 _) ⟨_,e1⟩;refine I1.laid (a:=s.heap.objs.size+1) (o:=.ins C s.heap.objs.size []) (t':=s.toks) (fun b u q=>CM _ q) (Lm<|DG _ _) ?_;have ne:s.heap.objs.size≠s.heap.objs.size+1:=Dc<|EC _;refine⟨by rw[ai ne,ak],Gx _,ne,e2,fun _=>none,(Heap.Ns1.of_empty e3).at fun o q=>CM _ q,fun _=>Fp,fun y hy=>absurd rfl hy⟩
theorem vB{prog:Dg}{w:Dr}{env:Env}{e:Expr}{f:Str}{pos:Pos}{s:CO}{Q:CN->CO->Prop}(hb:attributeBase e f env (eval e env)=eval e env)
  (h:wpAny (model prog w) A (eval e env) (fun o s₁=>wpAny (model prog w) A (getAttr o f true) Q E s₁) E s):wpAny (model prog w) A (eval (.Attribute e f pos) env) Q E s:=
 Attribute_any_ h (by rw[arm_eval_Attribute,hb])
end
def rV(K:CL)(ta:TE)(f:Str):TE:=fun σ H Q=>ta σ H fun x H1=>∃a C dx fs v,x=.ref a/\H1 a=some (.ins C dx fs)/\Cls K C/\NoAttr K C f/\fs.lookup f=some v/\Q v H1
def vC(K:CL)(ta tv:TE)(f:Str):TS:=fun D σ H=>tv σ H fun y H1=>ta σ H1 fun x H2=>∃a C dx fs,x=.ref a/\H2 a=some (.ins C dx fs)/\Cls K C/\NoAttr K C f/\fs.length<1000/\
 D.nx σ (cg H2 a<|.ins C dx<|dF f y fs)
def ya(X:Cx)(op:LC)(rd:V->V->Hp->VK->Prop):Prop:=
 ∀(pins:List (Addr×Obj))(s:CO)(σ:St)(H:Hp)(x y:V)(u v:CN)(Q:VK),Inv X pins σ H s->RelV x u->RelV y v->rd x y H Q->wpAny (model X.prog X.w) X.A (inplaceOp op u v) (EP X pins σ Q) X.xe s
section
variable{X:Cx}{o e value:Expr}{f:Str}{pos pos' tpos:Pos}{ta tv:TE}
theorem yb(he:PE X e ta)(hb:attributeBase e f X.env (eval e X.env)=eval e X.env):PE X (.Attribute e f pos) (rV X.K ta f):=by
 intro pins s σ H Q I h;refine vB hb<|bO (he pins s σ H _ I h) fun u s1 zz=>?_;obtain⟨x,H1,I1,rx,a,C,dx,fs,v,ex,ea,c,n,l,q⟩:=zz;subst ex;obtain rfl:u=D6 a:=rx;exact nE I1 ea c n l fun u' s2 I2 ru=>⟨v,H1,I2,ru,q⟩
theorem eN(ha:PE X o ta)(hv:PE X value tv)(hs:swapsWith value (some<|.Attribute o f pos') pos.line X.env=pure false):PS X (.Assign [.Attribute o f pos'] value pos) (vC X.K ta tv f):=by
 intro pins s σ H D I h;refine plainObj_wpAny_Assign_Attribute (bO (hv pins s σ H _ I h) fun u s1⟨y,H1,I1,ry,q⟩=>bO (ha pins s1 σ H1 _ I1 q) fun ov s2⟨x,H2,I2,rx,a,C,dx,fs,ex,ea,c,n,l,q2⟩=>?_) hs;subst ex;obtain rfl:ov=D6 a:=rx;exact nG I2 ea c n l ry fun s3 I3=>⟨σ,_,I3,q2⟩
def Bq:V->V->Hp->VK->Prop:=fun x y H Q=>∃i j,x=.int i/\y=.int j/\Q (.int<|i-j) H
theorem yc:ya X .Sub Bq:=by
 rintro pins s σ H x y u v Q I rx ry ⟨i,j,rfl,rfl,q⟩;obtain⟨t,rfl⟩:=(show ∃t,u=Hx i t from rx)
 obtain⟨t',rfl⟩:=(show ∃t',v=Hx j t' from ry)
 exact Lu ⟨.int<|i-j,H,I.tok _,⟨_,rfl⟩,q⟩
end
section
variable{X:Cx}{pins:List (Addr×Obj)}{σ:St}{H:Hp}{s:CO}{A:Dy}{E:CN->CO->Prop}{Q:CN->CO->Prop}{c:CN}{b:Bool}
inductive TyOf(K:CL)(H:Hp):V->CN->Prop where
 |non:TyOf K H .non (.type "NoneType")
 |bl (x:Bool):TyOf K H (.bl x) (.type "bool")
 |int (i:Int):TyOf K H (.int i) (.type "int")
 |str (x:Str):TyOf K H (.str x) (.type "str")
 |flt (x:UInt64):TyOf K H (.flt x) (.type "float")
 |lst {a:Addr} {xs:List V} (e:H a=some (.lst xs)):TyOf K H (.ref a) (.type "list")
 |frz {a:Addr} {o:Obj} {xs:List V} (e:H a=some (.frz o<|.lst xs)):TyOf K H (.ref a) (.type "list")
 |tup {a:Addr} {xs:List V} (e:SqT K H a xs):TyOf K H (.ref a) (.type "tuple")
 |dK {a:Addr} {kvs:List (Key×V)} (e:H a=some (.dK kvs)):TyOf K H (.ref a) (.type "dict")
 |dT {a:Addr} {kvs:List (List Key×V)} (e:H a=some (.dT kvs)):TyOf K H (.ref a) (.type "dict")
 | ins {a C dx:Addr} {fs:List (Str×V)} (e:H a=some (.ins C dx fs)) (cl:Cls K C) (ha:CQ K (.ref C) "__class__" =some (some<|.builtin "object.__class__"))
   (hn:Jz K (.builtin "object.__class__") "__get__"=some (some<|.builtin "getset_descriptor.__get__")) (htk:Kb K (.builtin "object.__class__")=some true)
   (hm:PySem.W.mroIn K C (.type "object")=some true):TyOf K H (.ref a) (.ref C)
theorem qf{x:V}{u t:CN}(I:Inv X pins σ H s)(rx:RelV x u)(ty:TyOf X.K H x t)(e:DD X.K t c=some b)(h:∀tk,Q (.bool b) {s with toks:=tk}):
  wpAny (model X.prog X.w) A (call (.builtin "isinstance") [u,c]) Q E s:=by
 cases ty with
 |non=>cases (show u=DC from rx);exact Eg PySem.W.kitx_none I.kIn Fp e (fun z=>nomatch z) h
 |bl y=>cases (show u=Jk y from rx);exact Eg PySem.W.kitx_bool I.kIn Fp e (fun z=>nomatch z) h
 |int i=>obtain⟨t,q⟩:=(show ∃t,u=Hx i t from rx);cases q;exact Eg PySem.W.kitx_int I.kIn Fp e (fun z=>nomatch z) h
 |str y=>obtain⟨t,q⟩:=(show ∃t,u=J7 y t from rx);cases q;exact Eg PySem.W.kitx_str I.kIn Fp e (fun z=>nomatch z) h
 |flt y=>obtain⟨t,q⟩:=(show ∃t,u=K1 y t from rx);cases q;exact Eg PySem.W.kitx_float I.kIn Fp e (fun z=>nomatch z) h
 | @lst a xs ea=>
  cases (show u=D6 a from rx);obtain⟨_,_,n,_,h1⟩:=(show ObjOk X.prog X.w H s.heap a (.lst xs)from I.hok a _ ea)
  exact Eg JA I.kIn ⟨_,h1,rfl⟩ e (fun z=>nomatch z) h
 | @frz a ob xs ea=>
  cases (show u=D6 a from rx);obtain⟨_,_,_,n,_,h1⟩:=(show ObjOk X.prog X.w H s.heap a (.frz ob<|.lst xs)from I.hok a _ ea)
  exact Eg JA I.kIn ⟨_,h1,rfl⟩ e (fun z=>nomatch z) h
 | @tup a xs ea=>
  cases (show u=D6 a from rx);obtain⟨_,_,p,_⟩:=I.tuple ea;obtain⟨o,h1,h2,_⟩:=p;exact Eg PySem.W.kitx_tuple I.kIn ⟨o,h1,h2⟩ e (fun z=>nomatch z) h
 | @dK a kvs ea=>
  cases (show u=D6 a from rx);obtain⟨_,_,vs,_,p⟩:=(show ObjOk X.prog X.w H s.heap a (.dK kvs)from I.hok a _ ea)
  obtain⟨o,es,ep,h1,h2,_⟩:=p;exact Eg JB I.kIn ⟨o,h1,h2.1⟩ e (fun z=>nomatch z) h
 | @dT a kvs ea=>
  cases (show u=D6 a from rx);obtain⟨_,_,xs,_,o,es,ep,h1,h2,_⟩:=(show ObjOk X.prog X.w H s.heap a (.dT kvs)from I.hok a _ ea)
  exact Eg JB I.kIn ⟨o,h1,h2.1⟩ e (fun z=>nomatch z) h
 | @ins a C dx fs ea cl ha hn htk hm=>
  cases (show u=D6 a from rx);obtain⟨mA,O,_⟩:=je I.hok ea;obtain⟨od,J,_⟩:=O.look;exact Eg (PySem.W.kitx_own (cl.get _) cl.hd ha hn htk hm) I.kIn J e (fun z=>nomatch z) h
end
structure Room(k:Nat)(A:Dy):Prop where
 hd:A.handled=none
 dp:A.depth+3*k+5<recursionLimit
 un:A.units+16*k+200<cLine
theorem Room.mono{j k:Nat}{A:Dy}(r:Room k A)(h:j<=k):Room j A:=⟨r.hd,by have:=r.dp;omega,by have:=r.un;omega⟩
theorem Room.deeper{k:Nat}{A:Dy}(r:Room (k+1) A)(env:Env):Room k (A.deeper env):=
 ⟨r.hd,by have:=r.dp;show A.depth+1+3*k+5<_;omega,by have:=r.un;show A.units+3+16*k+200<_;omega⟩
theorem nH{A:Dy}{C:Addr}{us:List CN}{kw:List (Str×CN)}:(A.under<|.builtin "type.__call__" ⟨.ref C::us,kw⟩).depth=A.depth+1:=by
 first|rfl|simp[JC,Code.weight,Code.isCreation,Code.isGuard,Code.isCaller,LD,JD,guardIds]
theorem nI{A:Dy}{C:Addr}{us:List CN}{kw:List (Str×CN)}:(A.under<|.builtin "type.__call__" ⟨.ref C::us,kw⟩).units=A.units+1:=by
 first|rfl|simp[JC,Code.cUnits,LD,JD]
theorem Room.make{k:Nat}{A:Dy}(r:Room (k+1) A)(C:Addr)(us:List CN)(kw:List (Str×CN)):Room k (A.under<|.builtin "type.__call__" ⟨.ref C::us,kw⟩):=
 ⟨r.hd,by have:=r.dp;rw[nH];omega,by have:=r.un;rw[nI];omega⟩
theorem Room.depth{k:Nat}{A:Dy}(r:Room k A):A.depth<recursionLimit:=by have:=r.dp;omega
theorem Room.units0{k:Nat}{A:Dy}(r:Room k A):A.units<cLine:=by have:=r.un;omega
def aH:TA:=fun _ H Q=>Q [] H
def ag(ta:TE)(tr:TA):TA:=fun σ H Q=>ta σ H fun x H1=>tr σ H1 fun xs H2=>Q (x::xs) H2
section
variable{X:Cx}{e:Expr}{es:List Expr}{te:TE}{t:TA}{pos:Pos}
theorem a5:PA X [] aH:=fun _ _ _ _ H Q I h=>JE ⟨[],H,I,.nil,h⟩
theorem a4(ha:PE X e te)(hr:PA X es t)(hs:starEach (e::es) X.env=(false,eval e X.env)::starEach es X.env:=by rfl):PA X (e::es) (ag te t):=by
 intro pos pins s σ H Q I h;rw[hs];show wpAny _ _ (spliced ((false,eval e X.env)::backTo pos (starEach es X.env))) _ _ s;refine HC<|bO (ha pins s σ H _ I h) fun u s1 zz=>?_;obtain⟨x,H1,I1,r1,q1⟩:=zz;refine bO (hr pos pins s1 σ H1 _ I1 q1) fun us s2 zz=>?_;obtain⟨xs,H2,I2,r2,q2⟩:=zz;exact⟨x::xs,H2,I2,.cons r1 r2,q2⟩
def cu(t:TA):TE:=fun σ H Q=>t σ H fun xs H1=>xs.length<=sizeLine/\∀p,H1 p=none->Q (.ref p) (cg H1 p<|.tup xs)
def cJ(t:TA):TE:=fun σ H Q=>t σ H fun xs H1=>xs.length<=sizeLine/\∀p,H1 p=none->Q (.ref p) (cg H1 p<|.lst xs)
theorem bC{x1}(h:PA X es t):PE X (.Tuple es x1 pos) (cu t):=by
 intro pins s σ H Q I hq;refine wpAny_Tuple_spliced (bO (h pos pins s σ H _ I hq) fun us s1⟨xs,H1,I1,r,z,q⟩=>⟨by rw[<-r.length];exact z,?_⟩);have hf:H1 s1.heap.objs.size=none:=I1.hok.fresh<|D8 _;refine⟨.ref s1.heap.objs.size,cg H1 s1.heap.objs.size<|.tup xs,I1.laid (t':=s1.toks) (fun b u e=>CM _ e) (D8 _) ?_,rfl,q _ hf⟩;exact⟨z,us,r,⟨_,CY _ rfl,⟨rfl,rfl⟩,_,rfl⟩⟩
theorem cB(h:PA X es t):PE X (.List es pos) (cJ t):=by
 intro pins s σ H Q I hq;refine wpAny_List_spliced (bO (h pos pins s σ H _ I hq) fun us s1⟨xs,H1,I1,r,z,q⟩=>⟨by rw[<-r.length];exact z,?_⟩);have hf:H1 s1.heap.objs.size=none:=I1.hok.fresh<|D8 _;refine⟨.ref s1.heap.objs.size,cg H1 s1.heap.objs.size<|.lst xs,I1.laid (t':=s1.toks) (fun b u e=>CM _ e) (D8 _) ?_,rfl,q _ hf⟩;exact⟨z,us,0,r,CY _ rfl⟩
end
abbrev Sp:=List V->Hp->VK->XK->Prop
abbrev CXT:=List Env->Hp->CO->XK->CN->CO->Prop
structure Env0(P:Dg)(w:Dr)(K:CL)(mg:Str->Option CN)(base:Heap)(A:Dy)(outer:List Env)(s:CO)(H:Hp):Prop where
 frames:A.frames=some outer
 mod:Mod K mg base
 bs:∀b o,base.get? b=some o->s.heap.get? b=some o/\H b=none
 bsz:base.objs.size<=s.heap.objs.size
 funs:s.heap.FunFrames base outer
 frf:∀b∈frs outer,H b=none
 hok:HOk P w H s.heap
 bare:Hv s.gens
def CE(outer:List Env)(P:Dg)(w:Dr)(H:Hp)(s:CO)(Q:VK)(u:CN)(s':CO):Prop:=
 ∃v H',s'.os=s.os/\Hv s'.gens/\Un (frs outer) [] H H' s.heap s'.heap/\HOk P w H' s'.heap/\RelV v u/\Q v H'
def CR(CX:CXT)(outer:List Env)(P:Dg)(w:Dr)(H:Hp)(s:CO)(Q:VK)(E:XK)(r:Ll)(s':CO):Prop:=
 match r with
 | .ok (.ret u)=>CE outer P w H s Q u s'
 | .ok _=>False
 | .error e=>CX outer H s E e s'
structure FnOk(P:Dg)(w:Dr)(K:CL)(mg:Str->Option CN)(base:Heap)(CX:CXT)(k:Nat)(f:Addr)(fd:Df)(ps:List Str)(sp:Sp):Prop where
 len:∀vs H Q E,sp vs H Q E->vs.length=ps.length
 run:∀(A:Dy)(outer:List Env)(s:CO)(H:Hp)(args:Args)(us:List CN)(vs:List V)(Q:VK)(E:XK),Room k A->Env0 P w K mg base A outer s H->J9 s fd args (ps.zip us)->Vals vs us->sp vs H Q E->
  codeAny (model P w) A (.call (.ref f) args) (CR CX outer P w H s Q E) s
theorem FnOk.imp{P:Dg}{w:Dr}{K:CL}{mg:Str->Option CN}{base:Heap}{CX:CXT}{k:Nat}{f:Addr}{fd:Df}{ps:List Str}{sp sp':Sp}(F:FnOk P w K mg base CX k f fd ps sp)
  (h:∀vs H Q E,sp' vs H Q E->sp vs H Q E):FnOk P w K mg base CX k f fd ps sp':=
 ⟨fun vs H Q E q=>F.len vs H Q E<|h _ _ _ _ q,fun A outer s H args us vs Q E hr he hb hv hs=>F.run A outer s H args us vs Q E hr he hb hv<|h _ _ _ _ hs⟩
theorem Env0.make{P:Dg}{w:Dr}{K:CL}{mg:Str->Option CN}{base:Heap}{A:Dy}{outer:List Env}{s:CO}{H:Hp}(e:Env0 P w K mg base A outer s H)(C:Addr)(us:List CN)(kw:List (Str×CN)):
  Env0 P w K mg base (A.under<|.builtin "type.__call__" ⟨.ref C::us,kw⟩) outer s H:=⟨by first|exact e.frames|(simpa [JC,Code.envs,JD,pushEnvs] using e.frames),e.mod,e.bs,e.bsz,e.funs,e.frf,e.hok,e.bare⟩
section
variable{X:Cx}{pins:List (Addr×Obj)}{σ:St}{H:Hp}{s s':CO}
theorem Inv.env0(I:Inv X pins σ H s):Env0 X.prog X.w X.K X.mg X.base X.A X.stack s H:=
 ⟨I.ok.frames,I.ok.mod,I.bs,EA I.ok.bsz I.sz,I.stack,I.stkFree,I.hok,I.bare⟩
theorem Inv.after{Q:VK}{u:CN}(I:Inv X pins σ H s)(h:CE X.stack X.prog X.w H s Q u s'):EP X pins σ Q u s':=by
 obtain⟨v,H',os,bare,un,hok,r,q⟩:=h;obtain⟨hh,g,d,t,os'⟩:=s';obtain rfl:os'=s.os:=os;exact⟨v,H',I.call (h':=hh) (g':=g) (d':=d) (t':=t) (ch:=[]) un hok bare (fun b z=>absurd z (by simp)),r,q⟩
end
def aK(sp:Sp)(dvs:List V)(E:XK)(t:TA):TE:=fun σ H Q=>t σ H fun vs H1=>sp (vs++dvs) H1 Q E
def fL(C:Addr)(m:Str)(sp:Sp)(dvs:List V)(E:XK)(ta:TE)(t:TA):TE:=fun σ H Q=>ta σ H fun x H1=>∃a dx fs,x=.ref a/\H1 a=some (.ins C dx fs)/\fs.lookup m=none/\
 t σ H1 fun vs H2=>sp (x::(vs++dvs)) H2 Q E
def oQ(C:Addr)(sp:Sp)(dvs:List V)(E:XK)(t:TA):TE:=fun σ H Q=>t σ H fun vs H1=>∀x dx,H1 x=none->H1 dx=none->dx≠x->
 sp (.ref x::(vs++dvs)) (cg (cg H1 dx<|.own x) x<|.ins C dx []) (fun v H2=>v=.non/\Q (.ref x) H2) E
def Binds(K:CL)(fd:Df)(ps:List Str)(ds:List CN):Prop:=
 ∀(s:CO)(us:List CN),K.In s.heap->(us++ds).length=ps.length->J9 s fd ⟨us,[]⟩ (ps.zip<|us++ds)
theorem Binds.all{K:CL}{fd:Df}{ps:List Str}(h:∀us:List CN,us.length=ps.length->bindArgs fd ⟨us,[]⟩=pure (ps.zip us)):Binds K fd ps []:=fun s us _ hl=>by
 rw[DK]at hl ⊢;exact .of_eq<|h us hl
def eO(CX:CXT)(X:Cx)(E:XK):Prop:=∀(pins:List (Addr×Obj))(σ:St)(H:Hp)(s:CO)(e:CN)(s':CO),Inv X pins σ H s->CX X.stack H s E e s'->X.xe e s'
section
variable{X:Cx}{CX:CXT}{k:Nat}{f C:Addr}{fd:Df}{ps:List Str}{sp:Sp}{dvs:List V}{ds:List CN}{E:XK}{x m:Str}{p pos apos:Pos}{e o:Expr}{es:List Expr}{ta:TE}{t:TA}
theorem nJ{pins:List (Addr×Obj)}{σ:St}{H:Hp}{s:CO}{Q:VK}{us:List CN}{vs:List V}(F:FnOk X.prog X.w X.K X.mg X.base CX k f fd ps sp)(hr:Room k X.A)(hb:Binds X.K fd ps ds)(hd:Vals dvs ds)(hx:eO CX X E)
  (I:Inv X pins σ H s) (r:Vals vs us) (h:sp (vs++dvs) H Q E):wpAny (model X.prog X.w) X.A (call (.ref f) us) (EP X pins σ Q) X.xe s:=by
 have r2:Vals (vs++dvs) (us++ds):=r.append hd;have hl:(us++ds).length=ps.length:=by rw[<-r2.length];exact F.len _ _ _ _ h
 refine Io<|Hw (F.run X.A X.stack s H ⟨us,[]⟩ (us++ds) (vs++dvs) Q E hr I.env0 (hb s us I.kIn hl) r2 h) fun r s' hq=>?_;cases r with
 |error e=>exact hx pins σ H s e s' I hq
 |ok fl=>
  cases fl with
  |ret u=>exact I.after hq
  |next=>exact Ew hq
  |brk=>exact Ew hq
  |cont=>exact Ew hq
theorem oR(F:FnOk X.prog X.w X.K X.mg X.base CX k f fd ps sp)(hr:Room k X.A)(hg:Gl X x)(hm:X.mg x=some (.ref f))(hk:Dp X.K (.ref f)=true)(hb:Binds X.K fd ps ds)(hd:Vals dvs ds)(hx:eO CX X E)
  (ha:PA X (e::es) t) (hdb:(x==("__debug__" :Str))=false:=by decide) (he:starEach (e::es) X.env=(false,eval e X.env)::starEach es X.env:=by rfl) (hpl:(backTo pos<|starEach es X.env).any (·.1)=false:=by rfl):
  PE X (.Call (.Name x p) (e::es) [] pos) (aK sp dvs E t):=by
 intro pins s σ H Q I h;refine FT<|gF I hg hm ?_ hdb;refine Gp (h₀:=X.base) I.ok.mod.kin hk (bO (ha pos pins s σ H _ I h) fun us s1⟨vs,H1,I1,r,q⟩=>⟨I1.kIn,?_⟩) he hpl;exact nJ F hr hb hd hx I1 r q
theorem oS{pl:Sem Bool}(he:PE X o ta)(c:Cls X.K C)(hm:Meth X.K C m f)(F:FnOk X.prog X.w X.K X.mg X.base CX k f fd ps sp)(hr:Room k X.A)(hb:Binds X.K fd ps ds)(hd:Vals dvs ds)(hx:eO CX X E)(ha:PA X (e::es) t)
  (hst:starEach (e::es) X.env=(false,eval e X.env)::starEach es X.env:=by rfl) (hpl:(backTo pos<|starEach es X.env).any (·.1)=false:=by rfl)
  (ht:eval (.Call (.Attribute o m apos) (e::es) [] pos) X.env=(do
   let ov <-eval o X.env
   standAt apos.atName
   let (f,first) <-holding [ov] (getMethod ov m pl)
   callWith pos f first (backTo pos (starEach (e::es) X.env)) (backToKw pos (keywordEach [] X.env))):=by rfl):
  PE X (.Call (.Attribute o m apos) (e::es) [] pos) (fL C m sp dvs E ta t):=by
 intro pins s σ H Q I h;refine IK (pl:=pl) (bO (he pins s σ H _ I h) fun u s1⟨x,H1,I1,rx,a,dx,fs,ex,ea,l,q⟩=>?_) ht;subst ex;obtain rfl:u=D6 a:=rx;refine jw I1 ea c hm l ?_;refine Gp (first:=[.ref a]) (h₀:=X.base) I.ok.mod.kin hm.kp (bO (ha pos pins s1 σ H1 _ I1 q) fun us s2⟨vs,H2,I2,r,q2⟩=>⟨I2.kIn,?_⟩) hst hpl;exact nJ (us:=.ref a::us) (vs:=.ref a::vs) F hr hb hd hx I2 (.cons rfl r) q2
theorem rW{pl:Sem Bool}(he:PE X o ta)(c:Cls X.K C)(hm:Meth X.K C m f)(F:FnOk X.prog X.w X.K X.mg X.base CX k f fd ps sp)(hr:Room k X.A)(hb:Binds X.K fd ps ds)(hd:Vals dvs ds)(hx:eO CX X E)
  (ht:eval (.Call (.Attribute o m apos) [] [] pos) X.env=(do
   let ov <-eval o X.env
   standAt apos.atName
   let (f,first) <-holding [ov] (getMethod ov m pl)
   callWith pos f first (backTo pos (starEach [] X.env)) (backToKw pos (keywordEach [] X.env))):=by rfl):
  PE X (.Call (.Attribute o m apos) [] [] pos) (fL C m sp dvs E ta aH):=by
 intro pins s σ H Q I h;refine IK (pl:=pl) (bO (he pins s σ H _ I h) fun u s1⟨x,H1,I1,rx,a,dx,fs,ex,ea,l,q⟩=>?_) ht;subst ex;obtain rfl:u=D6 a:=rx;refine jw I1 ea c hm l ?_;exact PySem.W.callWith_K0 (first:=[.ref a]) I1.kIn hm.kp<|nJ (us:=[.ref a]) (vs:=[.ref a]) F hr hb hd hx I1 (.cons rfl .nil) q
structure Mk(K:CL)(C f:Addr):Prop where
 makes:Hn K C=true
 init:CQ K (.ref C) "__init__"=some (some<|.ref f)
 fn:EB K (.ref f)=true
 kp:Dp K (.ref C)=true
theorem rX{pins:List (Addr×Obj)}{σ:St}{H:Hp}{s:CO}{Q:VK}{us:List CN}{vs:List V}(M:Mk X.K C f)(F:FnOk X.prog X.w X.K X.mg X.base CX k f fd ps sp)(hr:Room (k+1) X.A)(hb:Binds X.K fd ps ds)(hd:Vals dvs ds)
  (hx:eO CX X E) (I:Inv X pins σ H s) (r:Vals vs us)
  (h:∀x dx,H x=none->H dx=none->dx≠x->sp (.ref x::(vs++dvs)) (cg (cg H dx<|.own x) x<|.ins C dx []) (fun v H2=>v=.non/\Q (.ref x) H2) E):
  wpAny (model X.prog X.w) X.A (call (.ref C) us) (EP X pins σ Q) X.xe s:=by
 have hq:=h (s.heap.objs.size+1) s.heap.objs.size (I.hok.fresh<|Hd _) (I.hok.fresh<|D8 _)<|Dc<|EC _;have I2:=Inv.made (C:=C) I;have r2:Vals (V.ref (s.heap.objs.size+1)::(vs++dvs)) (D6 (s.heap.objs.size+1)::(us++ds)):=.cons rfl<|r.append hd;have hl:(D6 (s.heap.objs.size+1)::us++ds).length=ps.length:=by
  have e:=r2.length;rw[F.len _ _ _ _ hq]at e;exact e.symm
 refine Io (rS (f:=f) I.kIn M.makes M.init (beq_iff_eq.mp M.fn) (Hw (F.run _ X.stack _ _ ⟨D6 (s.heap.objs.size+1)::us,[]⟩ (D6 (s.heap.objs.size+1)::(us++ds)) _ _ E (hr.make C us [])
  (I2.env0.make C us []) (hb _ (D6 (s.heap.objs.size+1)::us) I2.kIn hl) r2 hq) fun r s' hq'=>?_))
 cases r with
 |error e=>exact hx pins σ _ _ e s' I2 hq'
 |ok fl=>
  cases fl with
  |ret u=>
   obtain⟨v,H',I3,rv,ev,q3⟩:=I2.after hq';subst ev;exact⟨rv,⟨V.ref<|s.heap.objs.size+1,H',I3,rfl,q3⟩⟩
  |next=>exact Ew hq'
  |brk=>exact Ew hq'
  |cont=>exact Ew hq'
theorem vD(M:Mk X.K C f)(F:FnOk X.prog X.w X.K X.mg X.base CX k f fd ps sp)(hr:Room (k+1) X.A)(hg:Gl X x)(hm:X.mg x=some (.ref C))(hb:Binds X.K fd ps ds)(hd:Vals dvs ds)(hx:eO CX X E)
  (ha:PA X (e::es) t) (hdb:(x==("__debug__" :Str))=false:=by decide) (he:starEach (e::es) X.env=(false,eval e X.env)::starEach es X.env:=by rfl) (hpl:(backTo pos<|starEach es X.env).any (·.1)=false:=by rfl):
  PE X (.Call (.Name x p) (e::es) [] pos) (oQ C sp dvs E t):=by
 intro pins s σ H Q I h;refine FT<|gF I hg hm ?_ hdb;refine Gp (h₀:=X.base) I.ok.mod.kin M.kp (bO (ha pos pins s σ H _ I h) fun us s1⟨vs,H1,I1,r,q⟩=>⟨I1.kIn,?_⟩) he hpl;exact rX M F hr hb hd hx I1 r q
end
structure FnScope(N P:List Str)(sc:FO):Prop where
 kind:sc.kind=.function
 co:sc.isCoroutine=false
 gen:sc.isGenerator=false
 nd:N.Nodup
 pre:N.take P.length=P
 par:∀x∈P,sc.names.lookup x=some .local\/sc.names.lookup x=some .cell
 nofree:∀y∈sc.names,y.2≠.free
theorem kF{kindOf:Str->Option FH}{x:Str}:∀{binds:List (Str×CN)}{m:Str->Option CN},(∀v,(x,v)∉binds)->bindL kindOf binds m x=m x
 | [],_,_=>rfl
 |(n,v)::r,m,h=>by
  unfold bindL;rw[kF fun w hw=>h w<|D4 _ hw];split
  ·have:x≠n:=by rintro rfl;exact h v D0
   simp[this]
  ·rfl
theorem kG{kindOf:Str->Option FH}{x:Str}:∀{binds:List (Str×CN)}{m:Str->Option CN},(∀v,(x,v)∉binds)->bindC kindOf binds m x=m x
 | [],_,_=>rfl
 |(n,v)::r,m,h=>by
  unfold bindC;rw[kG fun w hw=>h w<|D4 _ hw];split;·rfl
  ·have:x≠n:=by rintro rfl;exact h v D0
   simp[this]
theorem kH{kindOf:Str->Option FH}{x:Str}{v:CN}:∀{P:List Str}{vs:List CN}{i:Nat}{m:Str->Option CN},P.Nodup->P[i]? =some x->vs[i]? =some v->kindOf x=some .local->
  bindL kindOf (P.zip vs) m x=some v
 | [],_,_,_,_,h,_,_=>by simp at h
 |_::_,[],_,_,_,_,h,_=>by simp at h
 |p::P,w::vs,0,m,nd,h1,h2,hk=>by
  simp at h1 h2;subst h1;subst h2;show bindL kindOf ((p,w)::P.zip vs) m p=_;unfold bindL;rw[kF fun v hv=>(E7.mp nd).1 (Ez hv).1,if_pos hk];simp
 |p::P,w::vs,i+1,m,nd,h1,h2,hk=>by
  show bindL kindOf ((p,w)::P.zip vs) m x=_;unfold bindL;exact kH (i:=i) (E7.mp nd).2 (by simpa using h1) (by simpa using h2) hk
theorem kI{kindOf:Str->Option FH}{x:Str}{v:CN}:∀{P:List Str}{vs:List CN}{i:Nat}{m:Str->Option CN},P.Nodup->P[i]? =some x->vs[i]? =some v->kindOf x≠some .local->
  bindC kindOf (P.zip vs) m x=some v
 | [],_,_,_,_,h,_,_=>by simp at h
 |_::_,[],_,_,_,_,h,_=>by simp at h
 |p::P,w::vs,0,m,nd,h1,h2,hk=>by
  simp at h1 h2;subst h1;subst h2;show bindC kindOf ((p,w)::P.zip vs) m p=_;unfold bindC;rw[kG fun v hv=>(E7.mp nd).1 (Ez hv).1,if_neg hk];simp
 |p::P,w::vs,i+1,m,nd,h1,h2,hk=>by
  show bindC kindOf ((p,w)::P.zip vs) m x=_;unfold bindC;exact kI (i:=i) (E7.mp nd).2 (by simpa using h1) (by simpa using h2) hk
def start(N:List Str)(vs:List V):St:=vs.map some++Dh (N.length-vs.length) none
def jx(CX:CXT)(P:Dg)(w:Dr)(K:CL)(mg:Str->Option CN)(base:Heap)(N:List Str)(qual:Str)(scope:FO)(f:Addr)(cd:CN)(A:Dy)(outer:List Env)(s:CO)(H:Hp)(E:XK):Cx where
 prog:=P
 w:=w
 K:=K
 mg:=mg
 base:=base
 A:=A.deeper<|envOfC qual scope s.heap.objs.size f cd
 N:=N
 s₀:=s
 H₀:=H
 env:=envOfC qual scope s.heap.objs.size f cd
 outer:=outer
 stack:=envOfC qual scope s.heap.objs.size f cd::outer
 ex:=[]
 calm:=true
 fn:=fun _=>true
 pn:=[]
 xe:=fun e s'=>wpAny (model P w) (A.deeper<|envOfC qual scope s.heap.objs.size f cd) (leaving (envOfC qual scope s.heap.objs.size f cd) e) (fun _ s''=>CX outer H s E e s'') (fun e' s''=>CX outer H s E e' s'') s'
theorem mq{sc:FO}{n:Nat}{x:Str}(h:sc.names.lookup x=some .cell):∃c,(cellsFrom n sc.names []).lookup x=some c:=by
 have q:=FU sc.names n []<|.inl h;exact HY.mp q
theorem kJ{CX:CXT}{P:Dg}{w:Dr}{K:CL}{mg:Str->Option CN}{base:Heap}{N ps:List Str}{qual:Str}{scope:FO}{f:Addr}{cd:CN}{A:Dy}{outer:List Env}{s s1:CO}{H:Hp}{E:XK}{us:List CN}{vs:List V}
  (S:FnScope N ps scope) (hd:A.handled=none) (e0:Env0 P w K mg base A outer s H) (hl:vs.length=ps.length) (r:Vals vs us)
  (x:InCallC s s.heap.objs.size (bindL (envOfC qual scope s.heap.objs.size f cd).kindOf (ps.zip us) fun _=>none) (cellsFrom (s.heap.objs.size+1) scope.names []) (bindC (envOfC qual scope s.heap.objs.size f cd).kindOf (ps.zip us) fun _=>none) s1):
  Inv (jx CX P w K mg base N qual scope f cd A outer s H E) [] (start N vs) H s1:=by
 have hpl:ps.length<=N.length:=by have:=congrArg Ex S.pre;rw[FI]at this;omega
 obtain⟨h1,tk,rfl,hk⟩:=x.done;have noA:∀b:Addr,b∉(jx CX P w K mg base N qual scope f cd A outer s H E).ex:=fun b z=>absurd (show b∈([]:List Addr)from z) (by simp);refine⟨⟨e0.mod,S.kind,rfl,rfl,D8 _,fun y z c h1 h2=>?_,fun y hy=>?_,fun y c _ h=>?_,fun _=>hd,IZ e0.frames,.inr ⟨rfl,rfl⟩,fun b z=>absurd z<|noA b,e0.bs,e0.bsz,fun b _ _=>noA b,fun b z=>absurd z<|noA b,e0.funs,e0.frf⟩,
  rfl,e0.bare,Un.kept hk,⟨_,x.toInCall.ns,fun i y v h1 h2 h3=>?_⟩,fun y c h=>⟨_,x.cell y c h⟩,e0.hok.fresh (D8 _),fun y c h=>?_,fun p hp=>absurd (show p∈([]:List (Addr×Obj))from hp) (by simp),e0.hok.kept hk,?_⟩
 ·exact name_of_addr x.apart (EH h1)<|EH h2
 ·have hy:scope.names.lookup y=some .cell\/scope.names.lookup y=some .free:=hy;rcases hy with hy|hy
  ·exact mq hy
  ·exact absurd rfl<|S.nofree _<|EH hy
 ·exact Fz<|x.above y c<|EH h
 ·have hi:i<vs.length:=by
   unfold start at h2;by_cases hi:i<vs.length;·exact hi
   ·rw[Dt (by simpa using hi)]at h2;rw[List.getElem?_replicate]at h2;split at h2<;>cases h2
  have ha:vs[i]? =some v:=by
   unfold start at h2;rw[Dz (by simpa using hi),DQ]at h2;cases e:vs[i]? with
   |none=>rw[e]at h2;cases h2
   |some a=>rw[e]at h2;cases h2;rfl
  obtain⟨u,hu,rv⟩:=r.get ha;have hp:ps[i]? =some y:=by
   rw[<-S.pre,List.getElem?_take_of_lt (by omega)];exact h1
  have ndP:ps.Nodup:=by rw[<-S.pre];exact S.nd.sublist<|List.take_sublist _ _
  refine⟨u,rv,?_⟩;rcases S.par y (DZ hp)with k|k
  ·exact .inl ⟨k,kH ndP hp hu k⟩
  ·obtain⟨c,e⟩:=mq (n:=s.heap.objs.size+1) k;refine .inr ⟨.inl k,c,e,?_⟩;have q:=x.cell y c e;rw[kI ndP hp hu (by show scope.names.lookup y≠_;rw[k];decide)]at q;exact q
 ·exact e0.hok.fresh<|Fz<|x.above y c<|EH h
 ·unfold start;show _=N.length;rw[Du,Dq,GO];omega
theorem xt{CX:CXT}{P:Dg}{w:Dr}{K:CL}{mg:Str->Option CN}{base:Heap}{k:Nat}{f:Addr}{name qual:Str}{params:Arguments}{body:List Stmt}{scope:FO}{dV kV doc pm cdv ct oc:CN}{an od:Option Addr}
  {osl:Array (Option CN)} {N ps:List Str} {sp:Sp} (lk:K.lookup f=some ⟨oc,od,.func<|DP name qual params body scope dV kV doc pm an cdv ct,osl⟩) (hcd:DU K cdv qual=true) (S:FnScope N ps scope)
  (len:∀vs H Q E,sp vs H Q E->vs.length=ps.length)
  (hbody:∀(A:Dy) (outer:List Env) (s:CO) (H:Hp) (vs:List V) (Q:VK) (E:XK),Room k (A.deeper<|envOfC qual scope s.heap.objs.size f cdv)->sp vs H Q E->
   ∃t,PSs (jx CX P w K mg base N qual scope f cdv A outer s H E) body t/\t {nx:=fun _ H'=>Q .non H',rt:=Q} (start N vs) H):
  FnOk P w K mg base CX (k+1) f (DP name qual params body scope dV kV doc pm an cdv ct) ps sp:=by
 refine⟨len,fun A outer s H args us vs Q E hr e0 hb r hsp=>?_⟩;have hl:=len _ _ _ _ hsp;have KX:K.In s.heap:=e0.mod.kin.keeps fun b o e=>(e0.bs b o e).1;have lim:s.heap.NoLimit:=e0.mod.nolimit.keeps fun b o e=>(e0.bs b o e).1;have hkind:∀y∈ps.zip us,scope.names.lookup y.1=some .local\/(scope.names.lookup y.1=some .cell/\((cellsFrom (s.heap.objs.size+1) scope.names []).lookup y.1).isSome=true):=fun⟨n,v⟩hy=>by
  rcases S.par n (Ez hy).1 with q|q;·exact .inl q
  ·exact .inr ⟨q,FU _ _ _<|.inl q⟩
 refine IL hr.depth (KX _ _ lk) rfl S.co S.gen rfl (Jl KX hcd)<|hb _ _ _ _ ?_;refine HD S.kind hkind fun env he s1 x=>?_;subst he;refine⟨lim.keeps x.toInCall.keep,codeAny_func ?_⟩;obtain⟨t,ht,hq⟩:=hbody A outer s H vs Q E (hr.deeper _) hsp;have I:Inv (jx CX P w K mg base N qual scope f cdv A outer s H E) [] (start N vs) H s1:=kJ S hr.hd e0 hl r x;refine Eu (ht [] s1 (start N vs) H _ I hq) (fun fl s' hs=>?_) fun e s' hs=>hs;have fin:∀{σ':St}{H':Hp}{v:V}{u:CN},Inv (jx CX P w K mg base N qual scope f cdv A outer s H E) [] σ' H' s'->RelV v u->Q v H'->CE outer P w H s Q u s':=
  fun{σ' H' v u}J rv q=>⟨v,H',J.os,J.bare,J.base,J.hok,rv,q⟩
 cases fl with
 |ret u=>
  obtain⟨v,σ',H',J,rv,q⟩:=hs;exact fin J rv q
 |next=>
  obtain⟨σ',H',J,q⟩:=hs;exact fin (v:=V.non) (u:=DC) J rfl q
 |brk=>
  obtain⟨_,_,_,q⟩:=hs;exact Ew q
 |cont=>
  obtain⟨_,_,_,q⟩:=hs;exact Ew q
section
variable{X:Cx}{x:Str}{p pos:Pos}{e:Expr}{es:List Expr}{t:TA}{id T:String}{r:List V->Hp->VK->Prop}
def eo(r:List V->Hp->VK->Prop)(t:TA):TE:=fun σ H Q=>t σ H fun vs H1=>r vs H1 Q
theorem aj(hc:ej X (.builtin id) r)(hg:Gl X x)(hm:X.mg x=none)(hv:bootBuiltins x=some (.builtin id))(ha:PA X (e::es) t)(hn:x≠"__name__":=by decide)(hdb:(x==("__debug__" :Str))=false:=by decide)
  (he:starEach (e::es) X.env=(false,eval e X.env)::starEach es X.env:=by rfl) (hpl:(backTo pos<|starEach es X.env).any (·.1)=false:=by rfl):PE X (.Call (.Name x p) (e::es) [] pos) (eo r t):=by
 intro pins s σ H Q I h;refine FT<|iz I hg hm hv ?_ hn hdb;exact JW (bO (ha pos pins s σ H _ I h) fun us s1⟨vs,H1,I1,r1,q1⟩=>hc pins s1 σ H1 vs us Q I1 r1 q1) he hpl
theorem bW(hc:ej X (.type T) r)(hg:Gl X x)(hm:X.mg x=none)(hv:bootBuiltins x=some (.type T))(ha:PA X (e::es) t)(hn:x≠"__name__":=by decide)(hdb:(x==("__debug__" :Str))=false:=by decide)
  (he:starEach (e::es) X.env=(false,eval e X.env)::starEach es X.env:=by rfl) (hpl:(backTo pos<|starEach es X.env).any (·.1)=false:=by rfl):PE X (.Call (.Name x p) (e::es) [] pos) (eo r t):=by
 intro pins s σ H Q I h;refine FT<|iz I hg hm hv ?_ hn hdb;exact Fi (bO (ha pos pins s σ H _ I h) fun us s1⟨vs,H1,I1,r1,q1⟩=>hc pins s1 σ H1 vs us Q I1 r1 q1) he hpl
end
end L2
open L2.FnScope renaming nd->M0
open L2.PW renaming pt->JQ
open L2.RelO renaming some_of->JR
open L2.SqL renaming of->F6
open L2.SqT renaming of->Ju
open L2.V renaming int->FC,str->GU,bl->LG
namespace HT
open PySem PyProof.Rows
section
variable{prog:Dg}{w:Dr}{A:Dy}{E:CN->CO->Prop}{s:CO}
def sIx(n d:Nat):Option Int->Nat
 |none=>d
 |some v=>if v<0 then(v+(n:Int)).toNat else min v.toNat n
theorem sIx_le(n d:Nat)(hd:d<=n)(o:Option Int):sIx n d o<=n:=by
 cases o with
 |none=>exact hd
 |some v=>
  show(if v<0 then(v+(n:Int)).toNat else min v.toNat n)<=n;by_cases hv:v<0;·rw[if_pos hv];omega
  ·rw[if_neg hv];exact Nat.min_le_right _ _
end
end HT
namespace L2
open PySem PySem.Spec PyProof.Rows
abbrev TO:=St->Hp->(Option Int->Hp->Prop)->Prop
def PO(X:Cx)(e:Option Expr)(t:TO):Prop:=
 ∀(pins:List (Addr×Obj))(s:CO)(σ:St)(H:Hp)(Q:Option Int->Hp->Prop),Inv X pins σ H s->t σ H Q->
  wpAny (model X.prog X.w) X.A (evalPart e X.env) (fun u s'=>∃o H',Inv X pins σ H' s'/\IsPart u o/\Q o H') X.xe s
def aE:TO:=fun _ H Q=>Q none H
def bI(t:TE):TO:=fun σ H Q=>t σ H fun x H1=>∃i,x=.int i/\Q (some i) H1
theorem jy{ns:List Int}:∀{us:List CN},Vals (ns.map FC) us->JF us ns:=by
 induction ns with
 |nil=>intro us r;rw[G8]at r;cases r;exact .nil
 |cons n ns ih=>
  intro us r;rw[DO]at r;cases r with
  |cons r1 r2=>
   obtain⟨t,e⟩:=r1;subst e;exact .cons n t<|ih r2
section
variable{X:Cx}{e:Expr}{te:TE}{lo hi:Option Expr}{tl th:TO}{pos p2:Pos}
theorem dt:PO X none aE:=by
 intro pins s σ H Q I h;rw[La];exact CU ⟨none,H,I,.none,h⟩
theorem cf(h:PE X e te):PO X (some e) (bI te):=by
 intro pins s σ H Q I hw;rw[evalPart_some];refine bO (h pins s σ H _ I hw) fun u s1 zz=>?_;obtain⟨x,H1,I1,r1,q1⟩:=zz;obtain⟨i,rfl,q⟩:=q1;obtain⟨t,rfl⟩:=r1;exact⟨some i,H1,I1,.int i t,q⟩
def AN(X:Cx)(r:V->Option Int->Option Int->Hp->VK->Prop):Prop:=
 ∀(pins:List (Addr×Obj))(s:CO)(σ:St)(H:Hp)(x:V)(v vl vu:CN)(lo hi:Option Int)(sl:Addr)(Q:VK),Inv X pins σ H s->RelV x v->s.heap.IsSliceOf sl vl vu .none->IsPart vl lo->IsPart vu hi->r x lo hi H Q->
  ∃T id,typeLookup (.type T) "__getitem__"=pure (some<|.builtin id)/\s.TypeIs v T/\wpAny (model X.prog X.w) X.A (getItem v<|.ref sl) (EP X pins σ Q) X.xe s
def fE(r:V->Option Int->Option Int->Hp->VK->Prop)(te:TE)(tl th:TO):TE:=fun σ H Q=>te σ H fun x H1=>tl σ H1 fun l H2=>th σ H2 fun u H3=>r x l u H3 Q
theorem bZ{r:V->Option Int->Option Int->Hp->VK->Prop}(hr:AN X r)(he:PE X e te)(hl:PO X lo tl)(hu:PO X hi th):PE X (.Subscript e (.Slice lo hi none p2) pos) (fE r te tl th):=by
 intro pins s σ H Q I h;refine Kl<|bO (he pins s σ H _ I h) fun v s1 zz=>?_;obtain⟨x,H1,I1,r1,q1⟩:=zz;refine wpAny_Slice<|bO (hl pins s1 σ H1 _ I1 q1) fun vl s2 zz=>?_;obtain⟨l,H2,I2,pl,q2⟩:=zz;refine bO (hu pins s2 σ H2 _ I2 q2) fun vu s3 zz=>?_;obtain⟨u,H3,I3,pu,q3⟩:=zz;rw[La];refine CU ?_;have I4:Inv X pins σ H3 {s3 with heap:=s3.heap.push {cls:=.type "slice",data:=.fields #[vl,vu,.none]}}:=I3.kept (t':=s3.toks) fun b ob q=>CM _ q;obtain⟨T,id,hT,ht,hg⟩:=hr pins {s3 with heap:=s3.heap.push {cls:=.type "slice",data:=.fields #[vl,vu,.none]}} σ H3 x v vl vu l u s3.heap.objs.size Q I4 r1 (LS ..) pl pu q3;show wpAny (model X.prog X.w) X.A (subscriptTail e (.Slice lo hi none p2) v<|.ref s3.heap.objs.size) (EP X pins σ Q) X.xe {s3 with heap:=s3.heap.push {cls:=.type "slice",data:=.fields #[vl,vu,.none]}};exact tail_any (ops:=[.ref s3.heap.objs.size,v]) ht hT hg (by with_unfolding_all rfl)
def nK(xs:List V)(lo hi:Option Int):List V:=(xs.drop<|HT.sIx xs.length 0 lo).take (HT.sIx xs.length xs.length hi-HT.sIx xs.length 0 lo)
theorem mr(xs:List V)(lo hi:Option Int):(nK xs lo hi).length<=xs.length:=by
 unfold nK;rw[FI,G9];omega
end
def ixN(n:Nat)(i:Int):Option Nat:=if 0<=i then(if i<n then some i.toNat else none)else if -(n:Int)<=i then some (i+n).toNat else none
def atI{α:Type}(xs:List α)(i:Int):Option α:=(ixN xs.length i).bind fun j=>xs[j]?
theorem vF{n:Nat}{i:Int}{j:Nat}(h:ixN n i=some j):seqIndex? i n=some j/\j<n/\ -(n:Int)<=i/\i<n:=by
 unfold ixN at h;by_cases h0:0<=i
 ·rw[if_pos h0]at h;by_cases h1:i<n
  ·rw[if_pos h1]at h;have e:i.toNat=j:=DJ h;exact⟨by rw[seqIndex_of h0 h1,e],by omega,by omega,h1⟩
  ·rw[if_neg h1]at h;cases h
 ·rw[if_neg h0]at h;by_cases h1: -(n:Int)<=i
  ·rw[if_pos h1]at h;have e:(i+n).toNat=j:=DJ h;exact⟨by rw[seqIndex_neg (by omega) h1,e],by omega,h1,by omega⟩
  ·rw[if_neg h1]at h;cases h
theorem lB{α:Type}{xs:List α}{i:Int}{v:α}(h:atI xs i=some v):∃j,seqIndex? i xs.length=some j/\xs[j]? =some v/\j<xs.length/\ -(xs.length:Int)<=i/\i<xs.length:=by
 unfold atI at h;cases e:ixN xs.length i with
 |none=>rw[e]at h;cases h
 |some j=>
  rw[e]at h;obtain⟨h1,h2,h3,h4⟩:=vF e;exact⟨j,h1,h,h2,h3,h4⟩
def vG(b:Expr):Prop:=∀o i,subscripted b false o i=operate [o,i] (getItem o i)
def zh(X:Cx)(r:R2):Prop:=
 ∀(value slice:Expr)(pins:List (Addr×Obj))(s:CO)(σ:St)(H:Hp)(x y:V)(v u:CN)(Q:VK),Inv X pins σ H s->RelV x v->RelV y u->r x y H Q->
  subscripted slice false v u=operate [v,u] (getItem v u)->wpAny (model X.prog X.w) X.A (subscriptTail value slice v u) (EP X pins σ Q) X.xe s
def yd(X:Cx)(id:String)(r:V->List V->Hp->VK->Prop):Prop:=
 ∀(pins:List (Addr×Obj))(s:CO)(σ:St)(H:Hp)(x:V)(xs:List V)(v:CN)(us:List CN)(Q:VK),Inv X pins σ H s->RelV x v->Vals xs us->r x xs H Q->
  wpAny (model X.prog X.w) X.A (call (.builtin id) (v::us)) (EP X pins σ Q) X.xe s
section
variable{X:Cx}{a b:Expr}{ta tb:TE}{pos:Pos}
theorem bj{r:R2}(hr:zh X r)(ha:PE X a ta)(hb:PE X b tb)(hs:vG b):PE X (.Subscript a b pos) (dh r ta tb):=by
 intro pins s σ H Q I h;exact Kl<|xV ha hb I h fun v u s2 x y H2 I2 rx ry q=>hr a b pins s2 σ H2 x y v u Q I2 rx ry q<|hs _ _
def cG(K:CL):R2:=fun x y H Q=>∃p xs i v,x=.ref p/\y=.int i/\SqL K H p xs/\atI xs i=some v/\Q v H
def cH(K:CL):R2:=fun x y H Q=>∃p xs i v,x=.ref p/\y=.int i/\SqT K H p xs/\atI xs i=some v/\Q v H
def cX:R2:=fun x y H Q=>∃z i c,x=.str z/\y=.int i/\z.length<=sizeLine/\atI z.cps.toList i=some c/\Q (.str ⟨#[c]⟩) H
theorem vH:zh X (cG X.K):=by
 intro value slice pins s σ H x y v u Q I rx ry h hs;obtain⟨p,xs,i,z,rfl,rfl,hq,he,q⟩:=h;cases rx;obtain⟨t,rfl⟩:=ry;obtain⟨its,r,pl,hz⟩:=I.list hq;obtain⟨j,h1,h2,h3,h4,h5⟩:=lB he;obtain⟨w,ew,rw'⟩:=r.get h2;have hl:=r.length;have hn:=jv;have fin:EP X pins σ Q w s:=⟨z,H,I,rw',q⟩
 by_cases h0:0<=i
 ·have hj:i.toNat=j:=by
   rw[seqIndex_of h0 h5]at h1;exact DJ h1
  exact item_listR pl.isList h0 (by omega) (by rw[hj];simpa using ew) fin hs
 ·have hj:(i+(its.toArray.size:Int)).toNat=j:=by
   rw[seqIndex_neg (by omega) h4]at h1;rw[D9,<-hl];exact DJ h1
  exact Ip (x:=w) pl.isList.typeIs JG.lookup
   (wpAny_getItem_list_neg (Q:=fun r s'=>r=w/\EP X pins σ Q r s') pl.isList (by omega) (by rw[D9]<;>omega) (by omega) (by rw[hj];simpa using ew) ⟨rfl,fin⟩) hs
theorem ye:zh X (cH X.K):=by
 intro value slice pins s σ H x y v u Q I rx ry h hs;obtain⟨p,xs,i,z,rfl,rfl,hq,he,q⟩:=h;cases rx;obtain⟨t,rfl⟩:=ry;obtain⟨its,r,pl,hz⟩:=I.tuple hq;obtain⟨j,h1,h2,h3,h4,h5⟩:=lB he;obtain⟨w,ew,rw'⟩:=r.get h2;have hl:=r.length;have hn:=jv;have fin:EP X pins σ Q w s:=⟨z,H,I,rw',q⟩
 exact Ip (x:=w) pl.typeIs slot_tuple_getitem.lookup
  (getItem_tuple (j:=j) (Q:=fun r s'=>r=w/\EP X pins σ Q r s') pl (by omega) (by omega) (by rw[D9,<-hl];exact h1) (by simpa using ew) ⟨rfl,fin⟩) hs
theorem eP:zh X cX:=by
 intro value slice pins s σ H x y v u Q I rx ry h hs;obtain⟨z,i,c,rfl,rfl,hz,he,q⟩:=h;obtain⟨t,rfl⟩:=rx;obtain⟨t',rfl⟩:=ry;obtain⟨j,h1,h2,h3,h4,h5⟩:=lB he;have hl:z.cps.toList.length=z.length:=by simp[LU]
 rw[hl]at h1 h4 h5;have hn:=jv;exact tail_any (Km s z t) slot_str_getitem.lookup (getItem_str (c:=c) (by
  have e1:decide (i< -(2^63:Int))=false:=decide_eq_false (by omega);have e2:decide (i≥2^63)=false:=decide_eq_false (by omega);rw[e1,e2,Bool.or_false]) (by rw[h1];simpa using h2) ⟨.str ⟨#[c]⟩,H,I.tok _,⟨_,rfl⟩,q⟩) hs
theorem lC(lo hi:Option Int)(n:Nat):(sliceBounds lo hi none n).1=((HT.sIx n 0 lo:Nat):Int)/\(sliceBounds lo hi none n).2.1=((HT.sIx n n hi:Nat):Int)/\(sliceBounds lo hi none n).2.2=1:=by
 refine⟨?_,?_,rfl⟩
 ·cases lo with
  |none=>simp[sliceBounds,HT.sIx]
  |some i=>
   simp only[sliceBounds,HT.sIx,HZ,show(1:Int)>0 by decide,if_true];by_cases h:i<0;·simp only[h,if_true]<;>omega
   ·simp only[h,if_false]<;>omega
 ·cases hi with
  |none=>simp[sliceBounds,HT.sIx]
  |some i=>
   simp only[sliceBounds,HT.sIx,HZ,show(1:Int)>0 by decide,if_true];by_cases h:i<0;·simp only[h,if_true]<;>omega
   ·simp only[h,if_false]<;>omega
theorem jY(its:List CN)(lo hi:Option Int):slicePick its.toArray lo hi none=((its.drop<|HT.sIx its.length 0 lo).take (HT.sIx its.length its.length hi-HT.sIx its.length 0 lo)).toArray:=by
 obtain⟨h1,h2,h3⟩:=lC lo hi its.toArray.size;unfold slicePick;rw[h1,h2,h3];simp only[J4,pick_run,D9]<;>rfl
def cQ(K:CL):V->Option Int->Option Int->Hp->VK->Prop:=fun x lo hi H Q=>∃a xs,x=.ref a/\SqL K H a xs/\∀p,H p=none->Q (.ref p) (cg H p<|.lst<|nK xs lo hi)
theorem vI:AN X (cQ X.K):=by
 intro pins s σ H x v vl vu lo hi sl Q I rx hs pl pu h;obtain⟨a,xs,rfl,hx,q⟩:=h;cases rx;obtain⟨its,r,ht,hz⟩:=I.list hx;have hlen:=r.length;refine⟨"list",_,JG.lookup,ht.isList.typeIs,?_⟩;refine wpAny_getItem_list_slice ht.isList hs pl pu .none (by simp) ?_ (by rw[D9]<;>omega);rw[jY,<-hlen];refine⟨.ref s.heap.objs.size,_,I.laid (t':=s.toks) (o:=.lst<|nK xs lo hi) (fun b ob q=>CM _ q) (D8 _) ?_,rfl,q _<|I.hok.fresh<|D8 _⟩;exact⟨EA (mr xs lo hi) hz,_,0,(r.drop<|HT.sIx xs.length 0 lo).take (HT.sIx xs.length xs.length hi-HT.sIx xs.length 0 lo),CY _ rfl⟩
theorem lD:ej X (.type "list") (fun xs H Q=>∃p ys,xs=[.ref p]/\(SqL X.K H p ys\/SqT X.K H p ys)/\∀l,H l=none->Q (.ref l) (cg H l<|.lst ys)):=by
 intro pins s σ H xs us Q I r h;obtain⟨p,ys,rfl,hq,q⟩:=h;obtain⟨u,rfl,rx⟩:=fT r;cases rx;have fin:∀(its:List CN),Vals ys its->ys.length<=sizeLine->∀(h':Heap)(c':Nat),(∀b o',s.heap.get? b=some o'->h'.get? b=some o')->
   h'.get? s.heap.objs.size=some {cls:=.type "list",dict:=none,data:=.seq its.toArray c',slots:= #[]}->EP X pins σ Q (.ref s.heap.objs.size) {s with heap:=h'}:=fun its r' hz h' c' kp e=>
  ⟨.ref s.heap.objs.size,_,I.laid (t':=s.toks) kp (D8 _) (show ObjOk X.prog X.w _ h' _ (.lst ys)from⟨hz,its,c',r',e⟩),rfl,q _<|I.hok.fresh<|D8 _⟩
 rcases hq with hq|hq
 ·obtain⟨its,r',pl,hz⟩:=I.list hq;have hlen:=r'.length;obtain⟨o,ho,hc,n,hd⟩:=pl.isList;exact Lb p (.inl rfl) ho hc hd (fun h' c' kp e=>fin its r' hz h' c' kp e) (by simp only[D9]<;>omega)
 ·obtain⟨its,r',pl,hz⟩:=I.tuple hq;have hlen:=r'.length;obtain⟨o,ho,hc,n,hd⟩:=pl;exact Lb p (.inr rfl) ho hc hd (fun h' c' kp e=>fin its r' hz h' c' kp e) (by simp only[D9]<;>omega)
def AO(K:CL)(T:String)(x:V)(H:Hp):Prop:=match x with
 | .str _=>T="str"
 | .int _=>T="int"
 | .ref p=>(T="list" /\∃xs,SqL K H p xs)\/(T="tuple" /\((∃o,K.lookup p=some o/\o.cls=.type "tuple" /\o.dict=none)\/∃xs,SqT K H p xs))\/
   (T="dict"/\((∃kvs,H p=some (.dK kvs))\/∃kvs,H p=some (.dT kvs)))\/(T="set"/\∃S n,H p=some (.set S n))
 |_=>False
theorem rY{pins:List (Addr×Obj)}{σ:St}{H:Hp}{s:CO}{T:String}{x:V}{v:CN}(I:Inv X pins σ H s)(r:RelV x v)(ty:AO X.K T x H):
  s.TypeIs v T/\∀a,v=.ref a->∃ob,s.heap.get? a=some ob/\ob.dict=none:=by
 cases x with
 |str z=>
  obtain⟨t,rfl⟩:=r;cases (show T="str" from ty);exact⟨Km s z t,fun _ e=>nomatch e⟩
 |int i=>
  obtain⟨t,rfl⟩:=r;cases (show T="int" from ty);exact⟨Kn s i t,fun _ e=>nomatch e⟩
 |ref p=>
  cases r;rcases ty with⟨rfl,xs,hq⟩|⟨rfl,⟨o,hk,hc,hd⟩|⟨xs,hq⟩⟩|⟨rfl,hk⟩|⟨rfl,S,n,hk⟩
  ·obtain⟨its,_,pl,_⟩:=I.list hq;refine⟨pl.isList.typeIs,fun a e=>?_⟩;cases e;obtain⟨o,n,e,c,hd,_⟩:=pl;exact⟨o,e,hd⟩
  ·refine⟨⟨o,I.kIn p o hk,hc⟩,fun a e=>?_⟩;cases e;exact⟨o,I.kIn _ o hk,hd⟩
  ·obtain⟨o,e1,c1,d1⟩:∃o,s.heap.get? p=some o/\o.cls=.type "tuple"/\o.dict=none:=by
    rcases hq with hq|⟨o,its,n,hk,hc,_⟩
    ·obtain⟨_,_,_,o,e1,⟨c1,d1⟩,_⟩:=hq.ok I.hok;exact⟨o,e1,c1,d1⟩
    ·exact⟨o,I.kIn p o hk,hc.1,hc.2⟩
   refine⟨⟨o,e1,c1⟩,fun a e=>?_⟩;cases e;exact⟨o,e1,d1⟩
  ·have z:∃o,s.heap.get? p=some o/\o.ExactDict:=by
    rcases hk with⟨kvs,hk⟩|⟨kvs,hk⟩
    ·obtain⟨_,_,_,_,o,_,_,e,ex,_⟩:=I.hok p _ hk;exact⟨o,e,ex⟩
    ·obtain⟨_,_,_,_,o,_,_,e,ex,_⟩:=I.hok p _ hk;exact⟨o,e,ex⟩
   obtain⟨o,e,ex⟩:=z;refine⟨⟨o,e,ex.1⟩,fun a e2=>?_⟩;cases e2;exact⟨o,e,ex.2.1⟩
  ·obtain⟨o,_,_,_,e,ex,_⟩:=I.hok p _ hk;refine⟨⟨o,e,ex.1⟩,fun a e2=>?_⟩;cases e2;exact⟨o,e,ex.2.1⟩
 |_=>exact Ew ty
def cC(K:CL)(T:String)(r:V->List V->Hp->VK->Prop)(to:TE):TE:=fun σ H Q=>to σ H fun x H1=>AO K T x H1/\r x [] H1 Q
def eG(K:CL)(T:String)(r:V->List V->Hp->VK->Prop)(to:TE)(t:TA):TE:=fun σ H Q=>to σ H fun x H1=>AO K T x H1/\t σ H1 fun xs H2=>r x xs H2 Q
variable{o e:Expr}{es:List Expr}{to:TE}{t:TA}{name:Str}{apos cpos:Pos}{T id:String}{r:V->List V->Hp->VK->Prop}
theorem yf(pa:Jm T)(slot:Slot T name id)(hty:typeOf (.builtin id)=pure (.type "method_descriptor"))(hm:yd X id r)(ho:PE X o to)
  (hbase:attributeBase o name X.env (eval o X.env)=eval o X.env:=by rfl) (hline:(apos.endLine==cpos.line)=true:=by rfl):PE X (.Call (.Attribute o name apos) [] [] cpos) (cC X.K T r to):=by
 intro pins s σ H Q I h;refine Gy hbase hline<|bO (ho pins s σ H _ I h) fun v s1 zz=>?_;obtain⟨x,H1,I1,r1,ty,q1⟩:=zz;obtain⟨h1,h2⟩:=rY I1 r1 ty;exact⟨T,id,pa,slot,hty,h1,h2,Fj rfl<|Hu<|hm pins s1 σ H1 x [] v [] Q I1 r1 .nil q1⟩
theorem zG(pa:Jm T)(slot:Slot T name id)(hty:typeOf (.builtin id)=pure (.type "method_descriptor"))(hm:yd X id r)(ho:PE X o to)(ha:PA X (e::es) t)
  (hbase:attributeBase o name X.env (eval o X.env)=eval o X.env:=by rfl)
  (hfew:((backTo cpos<|starEach (e::es) X.env).all (fun x=> !x.1) && (backToKw cpos<|keywordEach [] X.env).all (fun x=>x.1.isSome)
   &&decide ((e::es).length+([]:List Iq).length+(if([]:List Iq).isEmpty then 0 else 1)<30))=true:=by rfl)
  (hline:(apos.endLine==cpos.line)=true:=by rfl) (hs:starEach (e::es) X.env=(false,eval e X.env)::starEach es X.env:=by rfl) (hplain:(backTo cpos<|starEach es X.env).any (·.1)=false:=by rfl):
  PE X (.Call (.Attribute o name apos) (e::es) [] cpos) (eG X.K T r to t):=by
 intro pins s σ H Q I h;refine wpAny_Call_method_late hbase hfew hline rfl<|bO (ho pins s σ H _ I h) fun v s1 zz=>?_;obtain⟨x,H1,I1,r1,ty,q1⟩:=zz;obtain⟨h1,h2⟩:=rY I1 r1 ty;refine⟨T,id,pa,slot,hty,h1,h2,?_⟩;have hA:=ha cpos pins s1 σ H1 _ I1 q1;rw[hs]at hA ⊢;refine Fj (by show(false||(backTo cpos<|starEach es X.env).any (·.1))=false;rw[hplain]<;>rfl)<|He ?_;refine bO hA fun us s2 zz=>?_;obtain⟨vs,H2,I2,r2,q2⟩:=zz;exact hm pins s2 σ H2 x vs v us Q I2 r1 r2 q2
end
def Br(X:Cx)(id:String)(r:V->List V->Hp->VK->Prop):Prop:=
 ∀(pins:List (Addr×Obj))(s:CO)(σ:St)(H:Hp)(x:V)(xs:List V)(v:CN)(us:List CN)(Q:VK),Inv X pins σ H s->RelV x v->Vals xs us->r x xs H Q->
  wpAny (model X.prog X.w) X.A (call (.builtin id) (v::us)) (EP X pins σ Q) X.xe s
theorem Vals.one:∀{x:V}{us:List CN},Vals [x] us->∃u,us=[u]/\RelV x u
 |_,_,.cons r .nil=>⟨_,rfl,r⟩
theorem Vals.zero:∀{us:List CN},Vals [] us->us=[]
 |_,.nil=>rfl
theorem Vals.rep{xs:List V}{us:List CN}(h:Vals xs us):∀k:Nat,Vals (Dh k xs).flatten (Dh k us).flatten
 |0=>.nil
 |k+1=>by
  rw[Em,Em,F0,F0];exact Vals.append h<|Vals.rep h k
theorem kK(its:List CN):∀(k:Nat)(acc:List CN),
  Ko (fun x1 x2=>x1++x2) acc.toArray (Dh k its.toArray)=(acc++(Dh k its).flatten).toArray
 |0,acc=>by simp
 |k+1,acc=>by
  have e:acc.toArray++its.toArray=(acc++its).toArray:=by simp
  have e2:(acc++its)++(Dh k its).flatten=acc++(Dh (k+1) its).flatten:=by
   rw[Em,F0,Fd]
  rw[<-e2,<-kK its k (acc++its),<-e,Em,Gg]
section
variable{X:Cx}{pins:List (Addr×Obj)}{σ:St}{H:Hp}{s:CO}{l b:Addr}{xs ys zs:List V}
theorem Inv.lset{its its':List CN}{n:Nat}{f:Array CN->Array CN}{t':Nat}(I:Inv X pins σ H s)(hH:H l=some (.lst xs))
  (e:s.heap.get? l=some {cls:=.type "list",data:=.seq its.toArray n}) (hf:f its.toArray=its'.toArray) (hv:Vals ys its') (hz:ys.length<=sizeLine):
  Inv X pins σ (cg H l<|.lst ys) {s with heap:=s.heap.update l<|Kp f,toks:=t'}:=by
 have q:=PySem.IsL.update e f;rw[hf]at q;refine I.write (x:=l) (e:=l) (by rw[hH];exact trivial) (.inl rfl) (fun b' u hb hu=>(DT s.heap (Kp f)<|Ec hb).trans hu) ⟨_,q⟩ ?_;exact⟨hz,its',_,hv,q⟩
theorem Inv.lnew{its:List CN}{t':Nat}(I:Inv X pins σ H s)(hv:Vals ys its)(hz:ys.length<=sizeLine):
  Inv X pins σ (cg H s.heap.objs.size<|.lst ys) {s with heap:=s.heap.push {cls:=.type "list",data:=.seq its.toArray},toks:=t'}:=
 I.laid (fun _ _ q=>CM _ q) (D8 _) ⟨hz,its,0,hv,CY _ rfl⟩
theorem Inv.fresh(I:Inv X pins σ H s):H s.heap.objs.size=none:=I.hok.fresh<|D8 _
theorem Inv.lstM(I:Inv X pins σ H s)(hH:H l=some (.lst xs)):xs.length<=sizeLine/\∃(its:List CN)(n:Nat),Vals xs its/\xs.length=its.length/\s.heap.get? l=some {cls:=.type "list",data:=.seq its.toArray n}:=by
 obtain⟨z,its,n,r,e⟩:=I.hok l _ hH;exact⟨z,its,n,r,r.length,e⟩
theorem mv{n:Nat}(h:n<=sizeLine):FD n=false:=by
 unfold FD;exact decide_eq_false (by omega)
end
section
variable{X:Cx}
def ay:V->List V->Hp->VK->Prop:=fun x vs H Q=>∃l xs y,x=.ref l/\vs=[y]/\H l=some (.lst xs)/\xs.length<sizeLine/\Q .non (cg H l<|.lst<|xs++[y])
theorem qg:Br X "list.append" ay:=by
 intro pins s σ H x vs v us Q I rx rv h;obtain⟨l,xs,y,rfl,rfl,hH,hz,q⟩:=h;cases rx;obtain⟨u,rfl,ru⟩:=rv.one;obtain⟨z,its,n,r,hl,e⟩:=I.lstM hH;refine Ir IM ⟨_,e,rfl⟩ F.entry_list_append (F.args_list_append_2 _ _) (PySem.list_append l its.toArray n u (by rw[D9];omega)) ⟨e,?_⟩;refine⟨.non,_,I.lset (its':=its++[u]) hH e (by simp) (r.append<|.cons ru .nil) ?_,rfl,q⟩;rw[Du,IP];omega
def lE:V->List V->Hp->VK->Prop:=fun x vs H Q=>∃l b xs zs,x=.ref l/\vs=[.ref b]/\H l=some (.lst xs)/\H b=some (.lst zs)/\xs.length+zs.length<=sizeLine/\Q .non (cg H l<|.lst<|xs++zs)
theorem qh:Br X "list.extend" lE:=by
 intro pins s σ H x vs v us Q I rx rv h;obtain⟨l,b,xs,zs,rfl,rfl,hH,hB,hz,q⟩:=h;cases rx;obtain⟨u,rfl,ru⟩:=rv.one;cases ru;obtain⟨z,its,n,r,hl,e⟩:=I.lstM hH;obtain⟨z2,its2,n2,r2,hl2,e2⟩:=I.lstM hB;have hsz:its.toArray.size+its2.toArray.size<=sizeLine:=by rw[D9,D9];omega
 have hlong:¬(!its.toArray.isEmpty&&FD (its.toArray.size+its2.toArray.size))=true:=by
  rw[mv hsz,Kq];exact Dd
 refine Ir IQ ⟨_,e,rfl⟩ F.entry_list_extend (F.args_list_extend_2 _ _)
  (AutoSeq1.list_extend_list_list_0 l its.toArray n b its2.toArray n2 hlong (by rw[D9];omega) (by omega)) ⟨e,e2,?_⟩
 refine⟨.non,_,I.lset (its':=its++its2) hH e (by simp) (r.append r2) ?_,rfl,q⟩;rw[Du];omega
def aQ:V->List V->Hp->VK->Prop:=fun x vs H Q=>∃l xs,x=.ref l/\vs=[]/\H l=some (.lst xs)/\Q .non (cg H l<|.lst [])
theorem mw:Br X "list.clear" aQ:=by
 intro pins s σ H x vs v us Q I rx rv h;obtain⟨l,xs,rfl,rfl,hH,q⟩:=h;cases rx;have hus:=rv.zero;subst hus;obtain⟨z,its,n,r,hl,e⟩:=I.lstM hH;refine Ir GP ⟨_,e,rfl⟩ F.entry_list_clear (F.args_list_clear_1 _) (AutoSeq1.list_clear_list_0 l its.toArray n (by rw[D9];omega)) ⟨e,?_⟩;exact⟨.non,_,I.lset (its':=[]) (ys:=[]) hH e rfl .nil<|Gx _,rfl,q⟩
def cY:R2:=fun x y H Q=>∃l b xs zs,x=.ref l/\y=.ref b/\H l=some (.lst xs)/\H b=some (.lst zs)/\xs.length+zs.length<=sizeLine/\∀p,H p=none->Q (.ref p) (cg H p<|.lst<|xs++zs)
theorem gX:OpR X (binaryOp .Add) cY:=by
 intro pins s σ H x y v u Q I rx ry h;obtain⟨l,b,xs,zs,rfl,rfl,hH,hB,hz,q⟩:=h;cases rx;cases ry;obtain⟨z,its,n,r,hl,e⟩:=I.lstM hH;obtain⟨z2,its2,n2,r2,hl2,e2⟩:=I.lstM hB;refine PySem.P.add_list e e2 ?_ (by rw[D9,D9];omega);have ea:its.toArray++its2.toArray=(its++its2).toArray:=by simp
 rw[ea];exact⟨.ref _,_,I.lnew (t':=s.toks) (r.append r2) (by rw[Du];omega),rfl,q _ I.fresh⟩
def zH:R2:=fun x y H Q=>∃l k xs,x=.ref l/\y=.int k/\H l=some (.lst xs)/\ -(2^63)<=k/\k<2^63/\xs.length*k.toNat<=sizeLine/\
 ∀p,H p=none->Q (.ref p) (cg H p<|.lst (Dh k.toNat xs).flatten)
theorem vJ{α:Type}(xs:List α)(k:Nat):(Dh k xs).flatten.length=k*xs.length:=by
 induction k with
 |zero=>simp
 |succ k ih=>rw[Em,F0,Du,ih,Nat.succ_mul,Nat.add_comm]
theorem rZ:OpR X (binaryOp .Mult) zH:=by
 intro pins s σ H x y v u Q I rx ry h;obtain⟨l,k,xs,rfl,rfl,hH,h1,h2,hz,q⟩:=h;cases rx;obtain⟨t,rfl⟩:=ry;obtain⟨z,its,n,r,hl,e⟩:=I.lstM hH;have hlen:its.toArray.size*k.toNat<=sizeLine:=by rw[D9,<-hl];exact hz
 have hcap:¬its.toArray.size*k.toNat>(2^63-1)/8:=by
  have:(sizeLine:Nat)<=(2^63-1)/8:=by decide
  omega
 have hfit:¬(!Builtin.List.listFitsIndex k)=true:=by
  rw[fitsIndex_both h1 h2];exact Dd
 have hlong:¬FD (its.toArray.size*k.toNat)=true:=by
  rw[mv hlen];exact Dd
 have hnew:Ko (fun x1 x2=>x1++x2) #[] (Dh (if its.toArray.isEmpty=true then 0 else k.toNat) its.toArray)=(Dh k.toNat its).flatten.toArray:=by
  have f0:∀m:Nat,Ko (fun x1 x2=>x1++x2) #[] (Dh m its.toArray)=(Dh m its).flatten.toArray:=fun m=>by
   have:=kK its m [];rw[Gh]at this;exact this
  rw[f0];cases its with
  |nil=>simp
  |cons a r'=>rw[if_neg (by simp)]
 refine wpAny_binaryOp_repeat_ref (T:="list") (U:="int") (by decide) ⟨_,e,rfl⟩ (fun s'=>Kn s' k t) noFill_list_mul F.fills_int_mul Kc repeat_list F.slot_int_index.lookup
  (Ir Kc (Kn s k t) F.entry_int_rmul (F.args_int_rmul_2 _ _) (int___rmul___int_list k t l its.toArray n)
   ⟨e,rfl,⟨_,e,rfl⟩,Ir F.slot_list_mul ⟨_,e,rfl⟩ F.entry_list_mul (F.args_list_mul_2 _ _) (AutoListH.list___mul___list_int_3 l its.toArray n k t hfit hcap hlong) ⟨e,?_⟩⟩)
 rw[hnew];exact⟨.ref _,_,I.lnew (t':=s.toks) (r.rep k.toNat) (by rw[vJ,Nat.mul_comm];exact hz),rfl,q _ I.fresh⟩
end
section
variable{κ:Type}[DecidableEq κ]
def fb(kvs:List (κ×V))(k:κ):Option V:=(kvs.find? fun kv=>decide<|kv.1=k).map (·.2)
def gR(kvs:List (κ×V))(k:κ)(v:V):List (κ×V):=
 if(kvs.any fun kv=>decide<|kv.1=k)=true then kvs.map (fun kv=>if kv.1=k then(kv.1,v)else kv)else kvs++[(k,v)]
theorem fV{p:κ×V}{r:List (κ×V)}{k:κ}(e:p.1=k):fb (p::r) k=some p.2:=by simp[fb,FX,e]
theorem fW{p:κ×V}{r:List (κ×V)}{k:κ}(e:¬p.1=k):fb (p::r) k=fb r k:=by simp[fb,FX,e]
theorem my(k:κ):∀kvs:List (κ×V),(kvs.any fun kv=>decide<|kv.1=k)=(fb kvs k).isSome
 | []=>rfl
 |p::r=>by
  rw[Ha];by_cases e:p.1=k;·simp only[fV e,decide_eq_true e,Bool.true_or,Jn]
  ·rw[fW e,decide_eq_false e,Bool.false_or];exact my k r
theorem iT(kvs:List (κ×V))(k:κ)(v:V):(gR kvs k v).length<=kvs.length+1:=by
 unfold gR;split;·rw[Dq];omega
 ·rw[Du,DW,FY];omega
theorem RelO.isSome_eq{o:Option V}{u:Option CN}(r:RelO o u):o.isSome=u.isSome:=by
 cases o with
 |none=>cases u with
  |none=>rfl
  |some _=>exact(show False from r).elim
 |some _=>cases u with
  |none=>exact(show False from r).elim
  |some _=>rfl
theorem RelO.getD{o:Option V}{u:Option CN}{d:V}{d':CN}(r:RelO o u)(rd:RelV d d'):RelV (o.getD d) (u.getD d'):=by
 cases o with
 |none=>cases u with
  |none=>exact rd
  |some _=>exact(show False from r).elim
 |some _=>cases u with
  |none=>exact(show False from r).elim
  |some _=>exact r
theorem KV.val{kvs:List (κ×V)}{vs:List (κ×CN)}(r:KV kvs vs)(k:κ):RelO (fb kvs k) (valueAt vs k):=by
 unfold KV at r
 induction r with
 |nil=>exact Fp
 | @cons p q ps qs h t ih=>
  obtain⟨h1,h2⟩:=h;by_cases e:p.1=k
  ·have e':q.1=k:=h1.symm.trans e;have b:valueAt (q::qs) k=some q.2:=by simp[valueAt,FX,e']
   rw[fV e,b];exact h2
  ·have e':¬q.1=k:=fun z=>e<|h1.trans z;have b:valueAt (q::qs) k=valueAt qs k:=by simp[valueAt,FX,e']
   rw[fW e,b];exact ih
theorem KV.any{kvs:List (κ×V)}{vs:List (κ×CN)}(r:KV kvs vs)(k:κ):(kvs.any fun kv=>decide<|kv.1=k)=vs.any fun kv=>decide (kv.1=k):=by
 unfold KV at r
 induction r with
 |nil=>rfl
 |cons h t ih=>rw[Ha,Ha,ih,h.1]
theorem KV.repl{kvs:List (κ×V)}{vs:List (κ×CN)}(r:KV kvs vs)(k:κ){y:V}{u:CN}(ry:RelV y u):
  KV (kvs.map fun kv=>if kv.1=k then(kv.1,y)else kv) (vs.map fun kv=>if kv.1=k then(kv.1,u)else kv):=by
 unfold KV at r ⊢
 induction r with
 |nil=>exact .nil
 | @cons p q ps qs h t ih=>
  rw[DO,DO];refine .cons ?_ ih;obtain⟨h1,h2⟩:=h;by_cases e:p.1=k;·rw[if_pos e,if_pos<|h1.symm.trans e];exact⟨h1,ry⟩
  ·rw[if_neg e,if_neg<|fun z=>e<|h1.trans z];exact⟨h1,h2⟩
theorem KV.put{kvs:List (κ×V)}{vs:List (κ×CN)}(r:KV kvs vs)(k:κ){y:V}{u:CN}(ry:RelV y u):KV (gR kvs k y) (stored vs k u):=by
 unfold gR stored;rw[r.any k];by_cases e:(vs.any fun kv=>decide<|kv.1=k)=true;·rw[if_pos e,if_pos e];exact r.repl k ry
 ·rw[if_neg e,if_neg e];exact Paired.snoc r ⟨rfl,ry⟩
theorem KV.length{kvs:List (κ×V)}{vs:List (κ×CN)}(r:KV kvs vs):kvs.length=vs.length:=Paired.length r
end
theorem kL{P:Dg}{w:Dr}{k:Key}{u:CN}(r:RelV (kV k) u):(bf P w).is k u=true:=by
 cases k with
 |inl i=>obtain⟨t,e⟩:=(show ∃t,u=Hx i t from r);subst e;exact m8 P w i t
 |inr x=>obtain⟨t,e⟩:=(show ∃t,u=J7 x t from r);subst e;exact m9 P w x t
theorem kM{P:Dg}{w:Dr}:∀{ks:List Key}{us:List CN},Vals (ks.map kV) us->ItemsAre (bf P w) ks us
 | [],_,r=>by rw[G8]at r;cases r;exact .nil
 |k::ks,_,r=>by
  rw[DO]at r;cases r with
  |cons h t=>exact .cons (kL h)<|kM t
abbrev KT(H:Hp):List (List Key×V)->List (List Key×Addr×CN)->Prop:=Paired fun p q=>p.1=q.1/\H q.2.1=some (.tup<|p.1.map kV)/\RelV p.2 q.2.2
theorem KT.val{H:Hp}{kvs:List (List Key×V)}{xs:List (List Key×Addr×CN)}(r:KT H kvs xs)(k:List Key):RelO (fb kvs k) ((atKey xs k).map (·.2)):=by
 induction r with
 |nil=>exact Fp
 | @cons p q ps qs h t ih=>
  obtain⟨h1,_,h2⟩:=h;by_cases e:p.1=k
  ·have e':q.1=k:=h1.symm.trans e;have b:atKey (q::qs) k=some q.2:=by simp[atKey,FX,e']
   rw[fV e,b];exact h2
  ·have e':¬q.1=k:=fun z=>e<|h1.trans z;have b:atKey (q::qs) k=atKey qs k:=by simp[atKey,FX,e']
   rw[fW e,b];exact ih
theorem KT.repl{H:Hp}{kvs:List (List Key×V)}{xs:List (List Key×Addr×CN)}(r:KT H kvs xs)(k:List Key){y:V}{u:CN}(ry:RelV y u):
  KT H (kvs.map fun kv=>if kv.1=k then(kv.1,y)else kv) (xs.map<|putAt k u):=by
 induction r with
 |nil=>exact .nil
 | @cons p q ps qs h t ih=>
  rw[DO,DO];refine .cons ?_ ih;obtain⟨h1,h2,h3⟩:=h;unfold putAt;by_cases e:p.1=k;·rw[if_pos e,if_pos<|h1.symm.trans e];exact⟨h1,h2,ry⟩
  ·rw[if_neg e,if_neg<|fun z=>e<|h1.trans z];exact⟨h1,h2,h3⟩
theorem KT.put{H:Hp}{kvs:List (List Key×V)}{xs:List (List Key×Addr×CN)}(r:KT H kvs xs)(k:List Key){b:Addr}{y:V}{u:CN}(hb:H b=some (.tup<|k.map kV))(ry:RelV y u):
  KT H (gR kvs k y) (storedH xs k b u):=by
 have e:(kvs.any fun kv=>decide<|kv.1=k)=(atKey xs k).isSome:=by
  rw[my,(r.val k).isSome_eq,JH]
 unfold gR storedH;rw[e];by_cases q:(atKey xs k).isSome=true;·rw[if_pos q,if_pos q];exact r.repl k ry
 ·rw[if_neg q,if_neg q];exact Paired.snoc r ⟨rfl,hb,ry⟩
theorem KT.keeps{H H':Hp}{kvs:List (List Key×V)}{xs:List (List Key×Addr×CN)}(r:KT H kvs xs)(ht:∀b ys,H b=some (.tup ys)->H' b=some (.tup ys)):KT H' kvs xs:=
 Paired.mapP r fun _ _ z=>⟨z.1,ht _ _ z.2.1,z.2.2⟩
section
variable{P:Dg}{w:Dr}{H:Hp}{h:Heap}{a:Addr}
theorem xu{u:HO}(ok:HOk P w H h)(e:Rd H a u):ObjOk P w H h a u:=e.ok ok
theorem i4{kvs:List (Key×V)}(ok:HOk P w H h)(e:Rd H a (.dK kvs)):kvs.length<=sizeLine/\(a==sysModules)=false/\∃vs,KV kvs vs/\h.DictOf (bf P w) a vs:=
 show ObjOk P w H h a (.dK kvs)from xu ok e
theorem xv{kvs:List (Key×V)}(ok:HOk P w H h)(e:H a=some (.dK kvs)):kvs.length<=sizeLine/\(a==sysModules)=false/\∃vs,KV kvs vs/\h.DictOf (bf P w) a vs:=i4 ok<|.inl e
theorem jz{ks:List Key}(ok:HOk P w H h)(e:H a=some (.tup<|ks.map kV)):(tupleKind<|bf P w).is h ks a:=by
 obtain⟨_,its,r,o,h1,⟨h2,_⟩,n,h3⟩:=(show ObjOk P w H h a (.tup<|ks.map kV)from ok a _ e)
 exact⟨o,its.toArray,n,h1,h2,h3,by simpa using kM r⟩
theorem kN{kvs:List (List Key×V)}(ok:HOk P w H h)(e:Rd H a (.dT kvs)):kvs.length<=sizeLine/\(a==sysModules)=false/\
  ∃xs,KT H kvs xs/\h.DictOfH (tupleKind<|bf P w) a xs:=by
 obtain⟨z,y,xs,r,o,es,ep,h1,h2,h3,h4,h5⟩:=(show ObjOk P w H h a (.dT kvs)from xu ok e)
 refine⟨z,y,xs,r,o,es,ep,h1,h2,h3,h4,fun x hx=>?_,h5⟩;have all:∀{l:List (List Key×V)}{m:List (List Key×Addr×CN)},KT H l m->∀x∈m,(tupleKind<|bf P w).is h x.1 x.2.1:=by
  intro l m q
  induction q with
  |nil=>intro x hx;exact nomatch hx
  | @cons p q ps qs hq t ih=>
   intro x hx;rcases D7.mp hx with e|hx
   ·subst e;exact jz ok (by rw[<-hq.1];exact hq.2.1)
   ·exact ih x hx
 exact all r x hx
theorem zI{kvs:List (List Key×V)}(ok:HOk P w H h)(e:H a=some (.dT kvs)):kvs.length<=sizeLine/\(a==sysModules)=false/\
  ∃xs,KT H kvs xs/\h.DictOfH (tupleKind<|bf P w) a xs:=kN ok<|.inl e
end
def DGet(H:Hp)(a:Addr)(y:V)(r:Option V):Prop:=
 (∃kvs k,Rd H a (.dK kvs)/\y=kV k/\r=fb kvs k)\/∃kvs k b,Rd H a (.dT kvs)/\y=.ref b/\H b=some (.tup<|k.map kV)/\r=fb kvs k
def DPut(H:Hp)(a:Addr)(y v:V)(H':Hp):Prop:=
 (∃kvs k,H a=some (.dK kvs)/\y=kV k/\kvs.length<sizeLine/\H'=cg H a (.dK<|gR kvs k v))\/
 ∃kvs k b,H a=some (.dT kvs)/\y=.ref b/\H b=some (.tup<|k.map kV)/\kvs.length<sizeLine/\H'=cg H a (.dT<|gR kvs k v)
theorem DGet.k{H:Hp}{a:Addr}{kvs:List (Key×V)}{k:Key}(e:H a=some (.dK kvs)):DGet H a (kV k) (fb kvs k):=.inl ⟨kvs,k,.inl e,rfl,rfl⟩
theorem DPut.k{H:Hp}{a:Addr}{kvs:List (Key×V)}{k:Key}{v:V}(e:H a=some (.dK kvs))(hl:kvs.length<sizeLine):DPut H a (kV k) v (cg H a<|.dK<|gR kvs k v):=.inl ⟨kvs,k,e,rfl,hl,rfl⟩
section
variable{X:Cx}{pins:List (Addr×Obj)}{σ:St}{H:Hp}{s:CO}{a:Addr}{y v:V}{u r:CN}{o:Option V}{A:Dy}{E:CN->CO->Prop}
theorem Inv.big(I:Inv X pins σ H s):sysModules<s.heap.objs.size:=by
 have h:mainGlobals<s.heap.objs.size:=(I.mod.glob.keeps I.bk).lt;exact Iu (by decide) h
theorem kO{Q:CN->CO->Prop}(hu:A.units+1<cLine)(I:Inv X pins σ H s)(g:DGet H a y (some v))(ry:RelV y u)(h:∀w' s',Inv X pins σ H s'->RelV v w'->Q w' s'):
  wpAny (model X.prog X.w) A (getItem (.ref a) u) Q E s:=by
 rcases g with⟨kvs,k,e,ey,l⟩|⟨kvs,k,b,e,ey,eb,l⟩
 ·subst ey;obtain⟨z,hd,vs,rel,dd⟩:=i4 I.hok e;obtain⟨w',hw,rw'⟩:=JR (v:=v) (o:=valueAt vs k) (by rw[l];exact rel.val k);exact JX (kL ry) dd.mapOf hw<|h w' _ (I.tok _) rw'
 ·subst ey;cases (show u=D6 b from ry);obtain⟨z,hd,xs,rel,dd⟩:=kN I.hok e;obtain⟨w',hw,rw'⟩:=JR (v:=v) (o:=(atKey xs k).map (·.2)) (by rw[l];exact rel.val k);obtain⟨p,hp,hp2⟩:=ED.mp hw;refine wpAny_getItem_heap (Gq hu) (jz I.hok eb) dd hp ?_;rw[hp2];exact h w' _ (I.tok _) rw'
theorem vK{Q:CN->CO->Prop}(hu:A.units+1<cLine)(I:Inv X pins σ H s)(g:DGet H a y o)(ry:RelV y u)(h:∀s',Inv X pins σ H s'->Q (.bool<|!o.isSome) s'):
  wpAny (model X.prog X.w) A (compareOp .NotIn u<|.ref a) Q E s:=by
 rcases g with⟨kvs,k,e,ey,l⟩|⟨kvs,k,b,e,ey,eb,l⟩
 ·subst ey;obtain⟨z,hd,vs,rel,dd⟩:=i4 I.hok e;refine wpAny_notIn_of (kL ry) hd dd.mapOf ?_;rw[<-(rel.val k).isSome_eq,<-l];exact h _<|I.tok _
 ·subst ey;cases (show u=D6 b from ry);obtain⟨z,hd,xs,rel,dd⟩:=kN I.hok e;refine wpAny_notIn_heap (Gq hu) (jz I.hok eb) hd dd ?_;have q:=(rel.val k).isSome_eq;rw[JH]at q;rw[<-q,<-l];exact h _<|I.tok _
theorem lF{h':Heap}{t':Nat}{ob:HO}(I:Inv X pins σ H s)(mu:zB (H a))(hs:Dl a s.heap h')(he:∃q,h'.get? a=some q)(new:ObjOk X.prog X.w (cg H a ob) h' a ob):
  Inv X pins σ (cg H a ob) {s with heap:=h',toks:=t'}:=
 I.write (x:=a) (e:=a) mu (.inl rfl) (fun b q hb z=>(hs.2 b hb).trans z) he new
theorem nL{P:Dg}{w:Dr}{H':Hp}{h':Heap}{kvs:List (Key×V)}{vs:List (Key×CN)}(z:kvs.length<=sizeLine)(hd:(a==sysModules)=false)(rel:KV kvs vs)(dd:h'.DictOf (bf P w) a vs):
  ObjOk P w H' h' a (.dK kvs):=⟨z,hd,vs,rel,dd⟩
theorem kP{H':Hp}{Q:Unit->CO->Prop}(hu:A.units+1<cLine)(I:Inv X pins σ H s)(g:DPut H a y v H')(ry:RelV y u)(rv:RelV v r)(h:∀s',Inv X pins σ H' s'->Q () s'):
  wpAny (model X.prog X.w) A (setItem (.ref a) u r) Q E s:=by
 rcases g with⟨kvs,k,e,ey,l,eH⟩|⟨kvs,k,b,e,ey,eb,l,eH⟩
 ·subst ey eH;obtain⟨z,hd,vs,rel,dd⟩:=xv I.hok e;have hz:vs.length<=sizeLine:=by rw[<-rel.length];exact z
  have hl:(gR kvs k v).length<=sizeLine:=by have:=iT kvs k v;omega
  refine wpAny_setItem_pairs (hsz:=hz) (kL ry) dd fun h' dd' hs=>h _ ?_;have he:∃q,h'.get? a=some q:=let ⟨q,_,_,hq,_⟩:=dd';⟨q,hq⟩;exact lF I (by rw[e];exact Fp) hs he<|nL hl hd (rel.put k rv) dd'
 ·subst ey eH;cases (show u=D6 b from ry);obtain⟨z,hd,xs,rel,dd⟩:=zI I.hok e;have hz:xs.length<=sizeLine:=by rw[<-Paired.length rel];exact z
  have hl:(gR kvs k v).length<=sizeLine:=by have:=iT kvs k v;omega
  refine wpAny_setItem_heap (hsz:=hz) (Gq hu) (jz I.hok eb) dd fun h' dd' hs=>h _ ?_;obtain⟨q,es,ep,hq,h2,h3,h4,_,h5⟩:=dd';refine lF I (by rw[e];exact Fp) hs ⟨q,hq⟩ ⟨hl,hd,_,(rel.put k eb rv).keeps fun c ys ec=>?_,q,es,ep,hq,h2,h3,h4,h5⟩;rw[ai (zA ec e (fun z=>nomatch z))];exact ec
end
section
variable{X:Cx}{pins:List (Addr×Obj)}{σ:St}{H:Hp}{s:CO}{a:Addr}{kvs:List (Key×V)}{k:Key}{u:CN}{A:Dy}{E:CN->CO->Prop}
theorem vL{Q:CN->CO->Prop}(I:Inv X pins σ H s)(e:H a=some (.dK kvs))(h:∀s',Inv X pins σ (cg H a<|.dK []) s'->Q .none s'):wpAny (model X.prog X.w) A (call (.builtin "dict.clear") [.ref a]) Q E s:=by
 obtain⟨z,hd,vs,rel,dd⟩:=xv I.hok e;refine Iw I9 dd.typeIs PySem.F.entry_dict_clear (PySem.F.args_dict_clear_1 _) (meets_dict_clear (bf X.prog X.w) a) ⟨vs,dd,by rw[<-rel.length];exact z,fun h' dd' hs=>h _ ?_⟩;have he:∃q,h'.get? a=some q:=let ⟨q,_,_,hq,_⟩:=dd';⟨q,hq⟩;exact lF (t':=s.toks) I (by rw[e];exact Fp) hs he<|nL (Gx _) hd .nil dd'
end
def vM(i:Expr):Prop:=∀ov iv,subscripted i false ov iv=operate [ov,iv] (getItem ov iv)
theorem oU{prog:Dg}{w:Dr}{A:Dy}{E:CN->CO->Prop}{s:CO}{env:Env}{value slice:Expr}{pos:Pos}{T id:String}{Q:CN->CO->Prop}
  (hl:typeLookup (.type T) "__getitem__"=pure (some<|.builtin id)) (hs:vM slice)
  (h:wpAny (model prog w) A (eval value env) (fun o s₁=>wpAny (model prog w) A (eval slice env) (fun i s₂=>s₂.TypeIs o T/\wpAny (model prog w) A (getItem o i) Q E s₂) E s₁) E s):
  wpAny (model prog w) A (eval (.Subscript value slice pos) env) Q E s:=by
 refine Kl<|Eu h (fun o s₁ h₁=>Eu h₁ (fun i s₂ h₂=>?_) fun _ _ x=>x) fun _ _ x=>x;obtain⟨hT,h₂⟩:=h₂;unfold subscriptTail;refine CI ?_;rw[getitemInPython_of_ne hT.not_modules];refine CI<|Kd hT hl ?_;have fin:wpAny (model prog w) A (subscripted slice false o i) (fun r s₃=>wpAny (model prog w) A (letTemporaryGo value o r>>=fun _=>pure r) Q E s₃) E s₂:=by
  rw[hs o i];exact wpAny_operating<|Eu h₂ (fun r s₃ h₃=>CI<|wpAny_letTemporaryGo<|CU h₃) fun _ _ x=>x
 first
  |exact CU<|CI fin
  |exact CI<|CU<|CI fin
  |exact CI fin
theorem mC{X:Cx}{pins:List (Addr×Obj)}{σ:St}{H:Hp}{s:CO}{a:Addr}{y:V}{o:Option V}(I:Inv X pins σ H s)(g:DGet H a y o):s.TypeIs (.ref a) "dict":=by
 rcases g with⟨kvs,k,e,_,_⟩|⟨kvs,k,b,e,_,_,_⟩
 ·obtain⟨_,_,vs,_,dd⟩:=i4 I.hok e;exact dd.typeIs
 ·obtain⟨_,_,xs,_,dd⟩:=kN I.hok e;exact dd.typeIs
def xw(td ty:TE):TE:=fun σ H Q=>td σ H fun x H1=>ty σ H1 fun y H2=>∃a v,x=.ref a/\DGet H2 a y (some v)/\Q v H2
def oV(ty td:TE):TE:=fun σ H Q=>ty σ H fun y H1=>td σ H1 fun x H2=>∃a o,x=.ref a/\DGet H2 a y o/\Q (.bl<|!o.isSome) H2
def bA(td ty tv:TE):TS:=fun D σ H=>tv σ H fun v H1=>td σ H1 fun x H2=>ty σ H2 fun y H3=>∃a H4,x=.ref a/\DPut H3 a y v H4/\D.nx σ H4
def xx(td ty tv:TE)(rd:V->V->Hp->VK->Prop):TS:=fun D σ H=>td σ H fun x H1=>ty σ H1 fun y H2=>∃a v,x=.ref a/\DGet H2 a y (some v)/\
 tv σ H2 fun y2 H3=>rd v y2 H3 fun z H4=>∃H5,DPut H4 a y z H5/\D.nx σ H5
section
variable{X:Cx}{o i e value:Expr}{pos pos' tpos:Pos}{td ty tv:TE}
theorem vN(hu:X.A.units+1<cLine)(ho:PE X o td)(hi:PE X i ty)(hs:vM i):PE X (.Subscript o i pos) (xw td ty):=by
 intro pins s σ H Q I h;refine oU HJ.lookup hs<|bO (ho pins s σ H _ I h) fun u s1 zz=>?_;obtain⟨x,H1,I1,rx,q1⟩:=zz;refine bO (hi pins s1 σ H1 _ I1 q1) fun iv s2 zz=>?_;obtain⟨y,H2,I2,ry,a,v,ex,g,q2⟩:=zz;subst ex;obtain rfl:u=D6 a:=rx;exact⟨mC I2 g,kO hu I2 g ry fun w' s3 I3 rw'=>⟨v,H2,I3,rw',q2⟩⟩
theorem qi(hu:X.A.units+1<cLine)(hi:PE X i ty)(ho:PE X o td):PC X .NotIn i o (oV ty td):=by
 intro pins s σ H Q I h;refine bO (hi pins s σ H _ I h) fun iv s1 zz=>?_;obtain⟨y,H1,I1,ry,q1⟩:=zz;refine bO (ho pins s1 σ H1 _ I1 q1) fun u s2 zz=>?_;obtain⟨x,H2,I2,rx,a,ov,ex,g,q2⟩:=zz;subst ex;obtain rfl:u=D6 a:=rx;exact vK hu I2 g ry fun s3 I3=>⟨.bl<|!ov.isSome,H2,I3,rfl,q2⟩
theorem i5(hu:X.A.units+1<cLine)(ho:PE X o td)(hi:PE X i ty)(hv:PE X value tv)(hs:swapsWith value (some<|.Subscript o i pos') pos.line X.env=pure false):
  PS X (.Assign [.Subscript o i pos'] value pos) (bA td ty tv):=by
 intro pins s σ H D I h;refine wpAny_Assign_Subscript (bO (hv pins s σ H _ I h) fun r s1⟨v,H1,I1,rv,q1⟩=>bO (ho pins s1 σ H1 _ I1 q1) fun u s2⟨x,H2,I2,rx,q2⟩=>bO (hi pins s2 σ H2 _ I2 q2) fun iv s3⟨y,H3,I3,ry,a,H4,ex,g,q3⟩=>?_) hs;subst ex;obtain rfl:u=D6 a:=rx;exact kP hu I3 g ry rv fun s4 I4=>⟨σ,H4,I4,q3⟩
theorem vO{op:LC}{rd:V->V->Hp->VK->Prop}(hu:X.A.units+1<cLine)(ho:PE X o td)(hi:PE X i ty)(hv:PE X value tv)(hop:ya X op rd)
  (ha:∀ov iv new,augStore i ov iv new=(do holding [new,ov,iv] (setItem ov iv new);release [new,ov,iv] [];pure .next)):PS X (.AugAssign (.Subscript o i tpos) op value pos) (xx td ty tv rd):=by
 intro pins s σ H D I h;refine wpAny_AugAssign_SubscriptAny (bO (ho pins s σ H _ I h) fun u s1⟨x,H1,I1,rx,q1⟩=>bO (hi pins s1 σ H1 _ I1 q1) fun iv s2⟨y,H2,I2,ry,a,v,ex,g,q2⟩=>?_) ha;subst ex;obtain rfl:u=D6 a:=rx;refine kO hu I2 g ry fun w' s3 I3 rw'=>bO (hv pins s3 σ H2 _ I3 q2) fun w2 s4 zz=>?_;obtain⟨y2,H3,I4,ry2,q3⟩:=zz;refine bO (hop pins s4 σ H3 v y2 w' w2 _ I4 rw' ry2 q3) fun w3 s5 zz=>?_;obtain⟨z,H4,I5,rz,H5,g5,q4⟩:=zz;exact kP hu I5 g5 ry rz fun s6 I6=>⟨σ,H5,I6,q4⟩
end
theorem sd{P:Dg}{w:Dr}{H:Hp}(h:Heap)(hb:sysModules<h.objs.size):ObjOk P w H (h.push {cls:=.type "dict",data:=.dict #[]}) h.objs.size (.dK []):=
 ⟨Gx _,beq_eq_false_iff_ne.mpr<|Ec<|Dc hb,[],.nil,Md h⟩
def aZ:TE:=fun _ H Q=>∀p,H p=none->Q (.ref p) (cg H p<|.dK [])
section
variable{X:Cx}{pos:Pos}
theorem mD:PE X (.Dict [] [] pos) aZ:=fun pins s σ H Q I h=>
 wpAny_Dict_empty ⟨.ref s.heap.objs.size,_,I.laid (a:=s.heap.objs.size) (o:=.dK []) (t':=s.toks) (fun _ _ q=>CM _ q) (D8 _)<|sd s.heap I.big,rfl,h _<|I.hok.fresh<|D8 _⟩
end
structure M2(X:Cx)(o:Expr)(m:Str)(apos:Pos)(e f:Expr)(cpos:Pos):Prop where
 base:attributeBase o m X.env (eval o X.env)=eval o X.env
 few:((backTo cpos<|starEach [e,f] X.env).all (fun x=> !x.1)&&(backToKw cpos<|keywordEach [] X.env).all (fun x=>x.1.isSome)
  &&decide (([e,f]:List Expr).length+([]:List Iq).length+(if([]:List Iq).isEmpty then 0 else 1)<30))=true
 line:(apos.endLine==cpos.line)=true
 trees:backTo cpos (starEach [e,f] X.env)=[(false,eval e X.env),(false,eval f X.env)]
def BK(H:Hp)(a:Addr):Prop:=(∃kvs,Rd H a<|.dK kvs)\/∃kvs,Rd H a<|.dT kvs
theorem nM{X:Cx}{pins:List (Addr×Obj)}{σ:St}{H:Hp}{s:CO}{a:Addr}(I:Inv X pins σ H s)(d:BK H a):
  s.TypeIs (.ref a) "dict"/\(∀b,D6 a=.ref b->∃ob,s.heap.get? b=some ob/\ob.dict=none)/\(a==sysModules)=false:=by
 rcases d with⟨kvs,e⟩|⟨kvs,e⟩
 ·obtain⟨_,hd,vs,_,dd⟩:=i4 I.hok e;refine⟨dd.typeIs,fun b q=>?_,hd⟩;cases q;obtain⟨ob,_,_,h1,h2,_⟩:=dd;exact⟨ob,h1,h2.2.1⟩
 ·obtain⟨_,hd,xs,_,dd⟩:=kN I.hok e;refine⟨dd.typeIs,fun b q=>?_,hd⟩;cases q;obtain⟨ob,_,_,h1,h2,_⟩:=dd;exact⟨ob,h1,h2.2.1⟩
section
variable{X:Cx}{pins:List (Addr×Obj)}{σ:St}{H:Hp}{s:CO}{a:Addr}{y d:V}{u r:CN}{o:Option V}{A:Dy}{E:CN->CO->Prop}
theorem yg{Q:CN->CO->Prop}(hu:A.units+1<cLine)(I:Inv X pins σ H s)(g:DGet H a y o)(ry:RelV y u)(rd:RelV d r)(h:∀w' s',Inv X pins σ H s'->RelV (o.getD d) w'->Q w' s'):
  wpAny (model X.prog X.w) A (call (.builtin "dict.get") [.ref a,u,r]) Q E s:=by
 rcases g with⟨kvs,k,e,ey,l⟩|⟨kvs,k,b,e,ey,eb,l⟩
 ·subst ey;obtain⟨z,hd,vs,rel,dd⟩:=i4 I.hok e;refine Iw GQ dd.typeIs Iy (Ia _ _ _) (meets_dict_get_default (bf X.prog X.w) a (kL ry) hd r) ⟨_,dd.mapOf,h _ _ (I.tok _) ?_⟩;rw[l];exact(rel.val k).getD rd
 ·subst ey;cases (show u=D6 b from ry);obtain⟨z,hd,xs,rel,dd⟩:=kN I.hok e;refine Iw GQ dd.typeIs Iy (Ia _ _ _) (meetsH_dict_get_default (tupleKind<|bf X.prog X.w) a b hd r) ⟨Gq hu,k,xs,jz I.hok eb,dd,h _ _ (I.tok _) ?_⟩;rw[l];exact(rel.val k).getD rd
end
def se(td ty tx:TE):TE:=fun σ H Q=>td σ H fun x H1=>∃a,x=.ref a/\BK H1 a/\ty σ H1 fun y H2=>tx σ H2 fun z H3=>∃o,DGet H3 a y o/\Q (o.getD z) H3
section
variable{X:Cx}{o e f:Expr}{apos cpos:Pos}{td ty tx:TE}
theorem fX(hu:X.A.units+1<cLine)(ho:PE X o td)(he:PE X e ty)(hf:PE X f tx)(m:M2 X o "get" apos e f cpos):PE X (.Call (.Attribute o "get" apos) [e,f] [] cpos) (se td ty tx):=by
 intro pins s σ H Q I h;refine wpAny_Call_method m.base m.few m.line Gz GQ PySem.F.type_dict_get<|bO (ho pins s σ H _ I h) fun u s1 zz=>?_;obtain⟨x,H1,I1,rx,a,ex,d,q1⟩:=zz;subst ex;obtain rfl:u=D6 a:=rx;obtain⟨t1,t2,_⟩:=nM I1 d;refine⟨t1,t2,?_⟩;rw[m.trees];refine Fj rfl (He (HC (bO (he pins s1 σ H1 _ I1 q1) fun iv s2⟨y,H2,I2,ry,q2⟩=>
  HC (bO (hf pins s2 σ H2 _ I2 q2) fun fv s3⟨z,H3,I3,rz,ov,g,q3⟩=>JE ?_))))
 exact yg hu I3 g ry rz fun w' s4 I4 rw'=>⟨_,H3,I4,rw',q3⟩
end
section
variable{X:Cx}{pins:List (Addr×Obj)}{σ:St}{H:Hp}{s:CO}{a:Addr}{kvs:List (Key×V)}{A:Dy}{E:CN->CO->Prop}
theorem sf{Q:CN->CO->Prop}(I:Inv X pins σ H s)(e:Rd H a (.dK kvs))(h:∀p s',H p=none->Inv X pins σ (cg H p<|.dK kvs) s'->Q (.ref p) s'):wpAny (model X.prog X.w) A (call (.type "dict") [.ref a]) Q E s:=by
 obtain⟨z,hd,vs,rel,dd⟩:=i4 I.hok e;refine kt_call_dict hd dd (by rw[<-rel.length];exact z) fun h' dd' hs=>?_;refine h _ _ (I.hok.fresh<|D8 _)<|I.laid (a:=s.heap.objs.size) (o:=.dK kvs) (t':=s.toks) (fun b q hq=>?_) (D8 _)<|nL z (beq_eq_false_iff_ne.mpr<|Ec<|Dc I.big) rel dd';exact(hs.2 b<|Dc<|D5 hq).trans (CM _ hq)
end
end L2
namespace Att
open PySem PySem.W PySem.Calls PyProof.Rows
theorem j8{P:LV}{h:Heap}:∀(ns:List Int)(vs:List CN),WellAll P h vs (ns.map M9)->JF vs ns:=by
 intro ns
 induction ns with
 |nil=>
  intro vs w;rw[G8]at w;cases w;exact .nil
 |cons n ns ih=>
  intro vs w;rw[DO]at w;cases w with
  |cons a b=>
   cases a;exact .cons _ _<|ih _ b
theorem qj{l:Hf}{n:Nat}(hn:l.most=some n){P:LV}{h:Heap}{args:List WData}{vals:List CN}
  (hpre:l.row.toRowW.claim.pre args=true) (hwl:WellAll P h vals args):
  ∃a vs ns,vals=[D6 a]/\args=[WData.list (ns.map M9)]/\h.get? a=some {cls:=.type "list",data:=.seq vs.toArray}/\JF vs ns/\ns.length<=n:=by
 have hsh:WShape.hasAll [] args [.list .int]=true:=(pre_splitW hpre).1;have hc:l.pre.holds [] {args:=args}=true:=(pre_splitW hpre).2;obtain⟨d,r,rfl,h1,h2⟩:=hasAllW_cons hsh;obtain rfl:=hasAllW_nil h2;obtain⟨xs,rfl,h3⟩:=hasW_list h1;obtain⟨ns,rfl⟩:=items_int h3;have hlen:ns.length<=n:=by
  unfold OpenLaw.pre at hc;have h4:(WTm.not<|.lt (.lit<|.int (n:Int))<|.len<|.arg 0).holds [] {args:=[.list (ns.map .int)]}=true:=by
   have h4:=(holds_andW hc).1;rw[hn]at h4;exact h4
  have h5:=condW_of h4<|w_not<|w_lt w_lit<|w_len_list<|w_arg rfl;rw[Dq]at h5;refine Nat.le_of_not_lt fun q=>?_;have q':(n:Int)<((ns.length:Nat):Int):=by omega
  first
   |(rw[decide_eq_true q']at h5;exact absurd h5 (by decide))
   |(simp at h5;omega)
 cases hwl with
 |cons w1 w2=>
  cases w2;cases w1 with
  |list ho hall=>exact⟨_,_,ns,rfl,rfl,ho,j8 ns _ hall,hlen⟩
theorem qk(l:Hf)(args:List WData):l.row.toRowW.claim.post args (.bool true) args=true:=
 postW_of (r:=l.row.toRowW) (X:=(true==true))
  (show LW [] (.bool true) .bool=true by first|rfl|decide|simp[LW,WShape.arms,WShape.armsAll])
  (show(WTm.eq .res<|.lit<|.bool true).value [] {args:=args,res:=some<|.bool true,after:=args}=some (.bool<|true==true)from w_eq_bool (w_res rfl) w_lit) rfl
theorem attach_call{l:Hf}{n:Nat}{q:Dg}{loose:List Str}{XP:(Str->Option CN)->Heap->Prop}{YP:Dr->Heap->Prop}{d:DefRec}
  (hn:l.most=some n) (hdf:d.params.defaults=[])
  (call:∀(w:Dr) (s₀ s₁:CO) (mg mb:Str->Option CN) (fa:Addr) (o:Obj) (pm cd doc:CN) (a:Addr) (vs:List CN) (ns:List Int),
   Ground q loose [] XP w s₀ mg mb s₁.heap->YP w s₁.heap->
   s₁.heap.get? fa=some o->o.data=.func (docDef d.name d.params d.body d.scope pm cd doc)->s₁.heap.CodeRec cd d.name->mg d.name=some (.ref fa)->
   s₁.heap.get? a=some {cls:=.type "list",data:=.seq vs.toArray}->JF vs ns->ns.length<=n->s₁.gens= #[]->
   codeAny (model l.prog w) callerA (.call (.ref fa) ⟨[.ref a],[]⟩) (fun r s'=>r=.ok (.ret (.bool true))/\OldK s₁.heap s'.heap/\s'.os=s₁.os/\Hv s'.gens) s₁):
  Kh q loose XP YP l.row.toRowW d [] (fun f vs=>Kr f vs):=by
 intro w s₀ s₁ mg mb G Y fa o pm cd doc dV kV ho hd hcd hD hmg hg args vals as hpre hlay hrd hwl hlo;obtain rfl:dV=.none:=Dflts.none hD hdf;obtain rfl:kV=.none:=Dflts.noKw hD;obtain⟨a,vs,ns,rfl,rfl,hobj,hints,hlen⟩:=qj hn hpre hwl;refine enter_call<|Hw (call w s₀ s₁ mg mb fa o pm cd doc a vs ns G Y ho (fd_plain hd) hcd hmg hobj hints hlen hg) fun r s' hq=>?_;obtain⟨rfl,h2,h3,h4⟩:=hq;exact⟨.inl ⟨.bool true,.bool true,[],rfl,fun _=>rfl,.bool true,qk l _,fun _=>⟨HR,fun _ hm=>(nomatch hm)⟩⟩,h2,h3,h4⟩
end Att
namespace L2
open PySem PySem.Spec PyProof.Rows
theorem kQ:∀{vs:List CN}{ns:List Int},JF vs ns->Vals (ns.map FC) vs
 |_,_,.nil=>.nil
 |_,_,.cons n t h=>.cons ⟨t,rfl⟩<|kQ h
def yh(H:Hp):Prop:=∀b,H b=none\/∃o xs,H b=some (.frz o<|.lst xs)
theorem si{P:Dg}{w:Dr}{K:CL}{mg mb:Str->Option CN}{CX:CXT}{k:Nat}{fa a:Addr}{fd:Df}{x:Str}{sp:Sp}{s₁:CO}{vs:List CN}{ns:List Int}
  (KX:K.In s₁.heap) (hns:s₁.heap.Ns mainGlobals mg) (hb:s₁.heap.Ns builtinsNs mb) (hbb:∀x:Str,x≠"__name__"->mb x=bootBuiltins x) (hlim:s₁.heap.NoLimit) (hg:s₁.gens= #[])
  (ha:s₁.heap.get? a=some {cls:=.type "list",data:=.seq vs.toArray}) (hi:JF vs ns) (hl:ns.length<=sizeLine) (hr:Room k callerA)
  (F:∀base:Heap,K.In base->base.Ns mainGlobals mg->FnOk P w K mg base CX k fa fd [x] sp) (hbind:∀(s:CO)(u:CN),J9 s fd ⟨[u],[]⟩ [(x,u)])
  (hsp:∀H:Hp,yh H->SqL K H a (ns.map FC)->sp [.ref a] H (fun v _=>v=.bl true) fun _ _ _=>False)
  (hCX:∀H e s',CX [] H s₁ (fun _ _ _=>False) e s'->False):
  codeAny (model P w) callerA (.call (.ref fa) ⟨[.ref a],[]⟩) (fun r s'=>r=.ok (.ret<|.bool true)/\OldK s₁.heap s'.heap/\s'.os=s₁.os/\Hv s'.gens) s₁:=by
 have rv:=kQ hi;have lenV:=hi.length;have core:∀H:Hp,yh H->SqL K H a (ns.map FC)->HOk P w H s₁.heap->(∀b,H b≠none->b=a)->(H a≠none->K.lookup a=none)->
   codeAny (model P w) callerA (.call (.ref fa) ⟨[.ref a],[]⟩) (fun r s'=>r=.ok (.ret<|.bool true)/\OldK s₁.heap s'.heap/\s'.os=s₁.os/\Hv s'.gens) s₁:=by
  intro H hO hS hok hA hK;have base_of:∀{b:Addr}{o:Obj},s₁.heap.get? b=some o->H b=none->(lp s₁.heap H).get? b=some o:=fun e n=>rH e n;have noA:∀{b:Addr}{o:Obj}{es:Array ER}{ep:Nat},s₁.heap.get? b=some o->o.data=.dict es ep->H b=none:=fun{b o es ep}e d=>by
   cases q:H b with
   |none=>rfl
   |some u=>
    have e':b=a:=hA b (by rw[q];simp);subst e';rw[ha]at e;cases e;have d':Ib vs.toArray _=Data.dict es ep:=d;cases d'
  have nsK:∀{b:Addr}{m:Str->Option CN},s₁.heap.Ns b m->(lp s₁.heap H).Ns b m:=fun{b m}⟨o,es,ep,e,d,r⟩=>⟨o,es,ep,base_of e<|noA e d,d,r⟩
  have hKb:K.In (lp s₁.heap H):=fun b o e=>base_of (KX b o e) (by
   cases q:H b with
   |none=>rfl
   |some u=>
    have e':b=a:=hA b (by rw[q];simp);subst e';rw[hK (by rw[q];simp)]at e;cases e)
  have hM:Mod K mg (lp s₁.heap H):=⟨hKb,nsK hns,⟨mb,nsK hb,hbb⟩,let ⟨mc,h1,h2⟩:=hlim;⟨mc,nsK h1,h2⟩⟩
  have e0:Env0 P w K mg (lp s₁.heap H) callerA [] s₁ H:=⟨rfl,hM,fun b o e=>vp e,Lm<|qa _ _,trivial,fun b hb=>absurd (show b∈([]:List Addr)from hb) (by simp),hok,.of_eq hg⟩
  refine Hw ((F _ hKb<|nsK hns).run callerA [] s₁ H ⟨[.ref a],[]⟩ [.ref a] [.ref a] _ _ hr e0 (hbind s₁<|.ref a) (.cons rfl .nil) (hsp H hO hS)) fun r s' h=>?_;cases r with
  |error e=>exact(hCX H e s' h).elim
  |ok fl=>
   cases fl with
   |next=>exact Ew h
   |brk=>exact Ew h
   |cont=>exact Ew h
   |ret u=>
    obtain⟨v,H',os,bare,un,hok',r',q⟩:=h;have q':v=.bl true:=q;subst q';obtain rfl:u=Jk true:=r';refine⟨rfl,OldK.of_keep fun b o e=>?_,os,bare⟩;cases q:H b with
    |none=>exact un.keep b o e q (by intro z;exact absurd (show b∈([]:List Addr)from z) (by simp)) (by simp)
    |some u=>
     rcases hO b with z|⟨ob,xs,z⟩
     ·rw[q]at z;cases z
     ·have z2:=un.frzs b ob _ z;obtain⟨e1,_⟩:=hok b _ z;obtain⟨e2,_⟩:=hok' b _ z2;rw[e]at e1;cases e1;exact e2
 cases hk:K.lookup a with
 |some o=>
  have e:=KX a o hk;rw[ha]at e;cases e;refine core (fun _=>none) (fun _=>.inl rfl) (.inr ⟨_,vs.toArray,_,hk,rfl,rfl,rfl,by rw[D9,lenV];exact hl,by simpa using rv⟩) (fun b u z=>by have z':(none:Option HO)=some u:=z;cases z') (fun b z=>absurd rfl z) fun z=>absurd rfl z
 |none=>
  refine core (fun b=>if b=a then some (.frz {cls:=.type "list",data:=.seq vs.toArray}<|.lst<|ns.map FC)else none) (fun b=>?_) (.inl<|.inr ⟨{cls:=.type "list",data:=.seq vs.toArray},if_pos rfl⟩) (fun b u z=>?_) (fun b z=>?_) fun _=>hk
  ·by_cases hb:b=a;·exact .inr ⟨_,_,if_pos hb⟩
   ·exact .inl<|if_neg hb
  ·by_cases hb:b=a
   ·have z':=(if_pos hb).symm.trans z;cases z';subst hb;exact⟨ha,by rw[Dq];exact hl,vs,_,rv,ha⟩
   ·have z':=(if_neg hb).symm.trans z;cases z'
  ·by_cases hb:b=a;·exact hb
   ·exact absurd (if_neg hb) z
theorem walk_of{l:Hf}{n k:Nat}{q:Dg}{loose:List Str}{XP:(Str->Option CN)->Heap->Prop}{YP:Dr->Heap->Prop}{d:DefRec}{K:LV->CL}{CX:Dr->CXT}{sp:Dr->Sp}{x:Str}
  (hn:l.most=some n) (hn2:n<=sizeLine) (hdf:d.params.defaults=[]) (hr:Room k callerA)
  (hY:∀(w:Dr)(h:Heap),YP w h->(K w.params).In h)
  (F:∀(w:Dr) (mg:Str->Option CN) (fa:Addr) (h:Heap),(K w.params).In h->h.Ns mainGlobals mg->mg d.name=some (.ref fa)->
   ∃fd:Df,(∀(s:CO)(u:CN),J9 s fd ⟨[u],[]⟩ [(x,u)])/\
    ∀base:Heap,(K w.params).In base->base.Ns mainGlobals mg->FnOk l.prog w (K w.params) mg base (CX w) k fa fd [x] (sp w))
  (hsp:∀(w:Dr)(H:Hp)(a:Addr)(ns:List Int),ns.length<=n->yh H->SqL (K w.params) H a (ns.map FC)->sp w [.ref a] H (fun v _=>v=.bl true) fun _ _ _=>False)
  (hCX:∀(w:Dr)(H:Hp)(s:CO)(e:CN)(s':CO),CX w [] H s (fun _ _ _=>False) e s'->False):
  Kh q loose XP YP l.row.toRowW d [] (fun f vs=>Kr f vs):=by
 refine Att.attach_call hn hdf fun w s₀ s₁ mg mb fa o pm cd doc a vs ns G Y ho hd hcd hmg hobj hints hlen hg=>?_;have KX:=hY w _ Y;obtain⟨fd,hb,hF⟩:=F w mg fa _ KX G.T.g hmg;exact si KX G.T.g G.T.b G.T.builtins G.T.nolimit hg hobj hints (EA hlen hn2) hr hF hb (fun H hO hS=>hsp w H a ns hlen hO hS) fun H e s'=>hCX w H s₁ e s'
def defArgs(s:Stmt):Arguments:=match s with
 | .FunctionDef _ a _ _ _ _ _ _ _ _=>a
 |_=>{posonlyargs:=[],args:=[],vararg:=none,kwonlyargs:=[],kw_defaults:=[],kwarg:=none,defaults:=[]}
def defBody(s:Stmt):List Stmt:=match s with
 | .FunctionDef _ _ b _ _ _ _ _ _ _=>b
 |_=>[]
def defScope(s:Stmt):FO:=match s with
 | .FunctionDef _ _ _ _ _ _ sc _ _ _=>sc
 |_=>{kind:=.function,names:=[],isGenerator:=false,isCoroutine:=false}
abbrev CX0:CXT:=fun _ _ _ _ _ _=>False
abbrev E0:XK:=fun _ _ _=>False
theorem oW{X:Cx}:eO CX0 X E0:=fun _ _ _ _ _ _ _ h=>h.elim
structure Fun(K:CL)(x qual:Str)(st:Stmt)(f:Addr)(fd:Df):Prop where
 ex:∃(oc:CN)(od:Option Addr)(kV doc pm:CN)(an:Option Addr)(cdv ct:CN)(osl:Array (Option CN)),
  fd=DP x qual (defArgs st) (defBody st) (defScope st) .none kV doc pm an cdv ct/\K.lookup f=some ⟨oc,od,.func fd,osl⟩/\DU K cdv qual=true
 kp:Dp K (.ref f)=true
section
variable{P:Dg}{w:Dr}{K:CL}{mg:Str->Option CN}{base:Heap}
theorem Fun.ok{x qual:Str}{st:Stmt}{f:Addr}{fd:Df}{N ps:List Str}{k:Nat}{sp:Sp}(F:Fun K x qual st f fd)(S:FnScope N ps (defScope st))(len:∀vs H Q E,sp vs H Q E->vs.length=ps.length)
  (hbody:∀(cdv:CN) (A:Dy) (outer:List Env) (s:CO) (H:Hp) (vs:List V) (Q:VK) (E:XK),Room k (A.deeper<|envOfC qual (defScope st) s.heap.objs.size f cdv)->sp vs H Q E->
   ∃t,PSs (jx CX0 P w K mg base N qual (defScope st) f cdv A outer s H E).nox (defBody st) t/\t {nx:=fun _ H'=>Q .non H',rt:=Q} (start N vs) H):FnOk P w K mg base CX0 (k+1) f fd ps sp:=by
 obtain⟨oc,od,kV,doc,pm,an,cdv,ct,osl,rfl,lk,hcd⟩:=F.ex;refine xt lk hcd S len fun A outer s H vs Q E hr hsp=>?_;obtain⟨t,h,q⟩:=hbody cdv A outer s H vs Q E hr hsp;exact⟨t,h.nox,q⟩
theorem Fun.binds{x qual:Str}{st:Stmt}{f:Addr}{fd:Df}{ps:List Str}(F:Fun K x qual st f fd)
  (h:∀(kV doc pm:CN)(an:Option Addr)(cdv ct:CN)(us:List CN),us.length=ps.length->bindArgs (DP x qual (defArgs st) (defBody st) (defScope st) .none kV doc pm an cdv ct) ⟨us,[]⟩=pure (ps.zip us)):Binds K fd ps []:=by
 obtain⟨oc,od,kV,doc,pm,an,cdv,ct,osl,rfl,lk,hcd⟩:=F.ex;exact .all<|h kV doc pm an cdv ct
theorem dg{x qual:Str}{st:Stmt}{f:Addr}{oc:CN}{od an:Option Addr}{osl:Array (Option CN)}{kV doc pm cdv ct:CN}(l:K.lookup f=some ⟨oc,od,.func<|DP x qual (defArgs st) (defBody st) (defScope st) .none kV doc pm an cdv ct,osl⟩)
  (c:DU K cdv qual=true) (k:Dp K (.ref f)=true):Fun K x qual st f (DP x qual (defArgs st) (defBody st) (defScope st) .none kV doc pm an cdv ct):=⟨⟨oc,od,kV,doc,pm,an,cdv,ct,osl,rfl,l,c⟩,k⟩
end
section
variable{X:Cx}
theorem pv(i:Nat){x:Str}{pos:Pos}(hN:X.N[i]? =some x:=by rfl)(hv:Vis X.env.scope x:=by first|exact GG rfl|exact Gr (GG rfl)|exact Gr<|Gr rfl)(hd:(x==("__debug__" :Str))=false:=by decide)
  (hcd:(x==("__classdict__" :Str))=false:=by decide):PE X (.Name x pos) (ba i):=xS hN hv hd hcd
end
def Same(H H':Hp):Prop:=∀b o,H b=some o->H' b=some o
theorem Same.refl(H:Hp):Same H H:=fun _ _ h=>h
theorem Same.trans{H H1 H2:Hp}(a:Same H H1)(b:Same H1 H2):Same H H2:=fun c o h=>b c o<|a c o h
theorem Same.seq{K:CL}{H H':Hp}{a:Addr}{xs:List V}(e:Same H H')(h:SqL K H a xs):SqL K H' a xs:=by
 rcases h with(h|⟨o,h⟩)|h;·exact .inl<|.inl<|e _ _ h
 ·exact .inl<|.inr ⟨o,e _ _ h⟩
 ·exact .inr h
end L2
set_option maxHeartbeats 4000000
namespace L2
open PySem PySem.Spec PyProof.Rows
abbrev sOf(l:List Nat):Str:=⟨l.toArray⟩
theorem d4(l:List Nat):(sOf l).length=l.length:=by simp[LU,sOf]
theorem jf(l:List Nat):(sOf l).cps.toList=l:=by simp[sOf]
theorem gY(a b:List Nat):sOf a++sOf b=sOf (a++b):=by
 apply PySem.Str.ext';rw[PySem.Str.cps_append];simp[sOf]
theorem oX{a b:List Nat}(h:sOf a=sOf b):a=b:=by
 have:=congrArg (fun x=>x.cps.toList) h;simpa [sOf] using this
theorem sj(x:Str):x=sOf x.cps.toList:=by cases x;simp[sOf]
def DictK(K:CL)(w:Dr)(a:Addr)(kvs:List (Key×V)):Prop:=
 kvs.length<=1000/\(a==sysModules)=false/\(kvs.map (·.1)).Nodup/\∃(es:Array ER)(ep:Nat),K.lookup a=some {cls:=.type "dict",data:=.dict es ep}/\
  Paired (fun(p:Key×V)(e:ER)=>fS p.1 e.key=true/\e.hash=rG w p.1/\RelV p.2 e.val) kvs es.toList
theorem mE{P:Dg}{w:Dr}{kvs:List (Key×V)}{es:List ER}(r:Paired (fun(p:Key×V)(e:ER)=>fS p.1 e.key=true/\e.hash=rG w p.1/\RelV p.2 e.val) kvs es):
  ∀e∈es,∃k,fS k e.key=true/\e.hash=rG w k:=by
 induction r with
 |nil=>intro e h;cases h
 | @cons p e ps es h t ih=>
  intro e' h';rcases D7.mp h' with rfl|h'
  ·exact⟨p.1,h.1,h.2.1⟩
  ·exact ih e' h'
theorem lG{P:Dg}{w:Dr}{kvs:List (Key×V)}{es:List ER}(r:Paired (fun(p:Key×V)(e:ER)=>fS p.1 e.key=true/\e.hash=rG w p.1/\RelV p.2 e.val) kvs es):
  ∃vs,KV kvs vs/\Pairs (bf P w) es vs/\vs.map (·.1)=kvs.map (·.1):=by
 induction r with
 |nil=>exact⟨[],.nil,.nil,rfl⟩
 | @cons p e ps es h t ih=>
  obtain⟨vs,h1,h2,h3⟩:=ih;exact⟨(p.1,e.val)::vs,.cons ⟨rfl,h.2.2⟩ h1,.cons h.1 rfl h2,by simp[h3]⟩
theorem DictK.of{P:Dg}{w:Dr}{K:CL}{a:Addr}{kvs:List (Key×V)}{h:Heap}(d:DictK K w a kvs)(x:K.In h):(a==sysModules)=false/\∃vs,KV kvs vs/\h.DictOf (bf P w) a vs:=by
 obtain⟨hz,hs,nd,es,ep,lk,r⟩:=d;obtain⟨vs,h1,h2,h3⟩:=lG (P:=P) r;refine⟨hs,vs,h1,_,es,ep,x _ _ lk,⟨rfl,rfl,rfl⟩,rfl,fun e he=>mE (P:=P) r e (by simpa using he),h2,by rw[h3];exact nd⟩
section
variable{X:Cx}{o i e:Expr}{pos:Pos}{td ty:TE}
def aR(K:CL)(w:Dr)(td ty:TE):TE:=fun σ H Q=>td σ H fun x H1=>ty σ H1 fun y H2=>∃a kvs k v,x=.ref a/\DictK K w a kvs/\y=kV k/\fb kvs k=some v/\Q v H2
theorem sk(ho:PE X o td)(hi:PE X i ty)(hs:vM i):PE X (.Subscript o i pos) (aR X.K X.w td ty):=by
 intro pins s σ H Q I h;refine oU HJ.lookup hs<|bO (ho pins s σ H _ I h) fun u s1 zz=>?_;obtain⟨x,H1,I1,rx,q1⟩:=zz;refine bO (hi pins s1 σ H1 _ I1 q1) fun iv s2 zz=>?_;obtain⟨y,H2,I2,ry,a,kvs,k,v,ex,dk,ey,ev,q2⟩:=zz;subst ex ey;obtain rfl:u=D6 a:=rx;obtain⟨hd,vs,rel,dd⟩:=dk.of (P:=X.prog) I2.kIn;refine⟨dd.typeIs,?_⟩;obtain⟨w',hw,rw'⟩:=JR (v:=v) (o:=valueAt vs k) (by rw[<-ev];exact rel.val k);exact JX (kL ry) dd.mapOf hw ⟨v,H2,I2.tok _,rw',q2⟩
end
section
variable{X:Cx}
theorem jA:OpR X (compareOp .Is) (fun x y H Q=>∃c,y=.bl c/\Q (.bl<|decide<|x=.bl c) H):=by
 intro pins s σ H x y v u Q I rx ry h;obtain⟨c,rfl,q⟩:=h;cases ry;cases x with
 |bl b=>cases rx;exact is_bool (aO I q (by cases b<;>cases c<;>simp))
 |non=>cases rx;exact CU (aO I q (by simp))
 |int i=>obtain⟨t,rfl⟩:=rx;exact CU (aO I q (by simp))
 |str i=>obtain⟨t,rfl⟩:=rx;exact CU (aO I q (by simp))
 |byt i=>obtain⟨t,rfl⟩:=rx;exact CU (aO I q (by simp))
 |flt i=>obtain⟨t,rfl⟩:=rx;exact CU (aO I q (by simp))
 |ref a=>cases rx;exact CU (aO I q (by simp))
 |ty a=>cases rx;exact CU (aO I q (by simp))
theorem jB:OpR X (binaryOp .Mult) (fun x y H Q=>∃c n,x=.str (sOf [c])/\y=.int n/\0<=n/\n<=100000/\Q (.str<|sOf<|Dh n.toNat c) H):=by
 intro pins s σ H x y v u Q I rx ry h;obtain⟨c,n,rfl,rfl,h0,h1,q⟩:=h;obtain⟨t,rfl⟩:=rx;obtain⟨t',rfl⟩:=ry;have hl:(sOf [c]).length=1:=d4 [c];refine SB.mul ?_ fun t' k=>?_
 ·refine⟨?_,fun _ _=>?_,fun _ _=>?_⟩
  ·have e1:decide (n< -(2^63:Int))=false:=decide_eq_false (by omega);have e2:decide (n≥2^63)=false:=decide_eq_false (by omega);rw[e1,e2];rfl
  ·rw[hl];have h2:1<=n:=by omega
   have:(1:Int)<=(2^63-1)/n:=(Int.le_ediv_iff_mul_le (by omega)).mpr (by omega);omega
  ·rw[hl];unfold LL;have:=El;simp;omega
 ·have e:M5 (sOf [c]) n=sOf (Dh n.toNat c):=by
   rw[sj<|M5 (sOf [c]) n];show sOf ((M5 ⟨#[c]⟩ n).cps.toList)=_;rw[mul_one_list]
  exact⟨.str _,H,I.tok _,⟨t',rfl⟩,by rw[e];exact q⟩
end
section
variable{X:Cx}
def j9(l:List Nat)(lo hi:Option Int):List Nat:=(l.drop<|HT.sIx l.length 0 lo).take (HT.sIx l.length l.length hi-HT.sIx l.length 0 lo)
theorem jC(lo hi:Option Int)(n:Nat):EU lo hi 1 n=sliceRange ((HT.sIx n 0 lo:Nat):Int) ((HT.sIx n n hi:Nat):Int) 1:=by
 unfold EU;have e1:(match lo with|none=>(0:Int)|some i=>max 0 (min (if i<0 then i+(n:Int)else i) n))=((HT.sIx n 0 lo:Nat):Int):=by
  cases lo with
  |none=>simp[HT.sIx]
  |some i=>simp only[HT.sIx];by_cases h:i<0<;>simp only[h,if_true,if_false]<;>omega
 have e2:(match hi with|none=>(n:Int)|some i=>max 0 (min (if i<0 then i+(n:Int)else i) n))=((HT.sIx n n hi:Nat):Int):=by
  cases hi with
  |none=>simp[HT.sIx]
  |some i=>simp only[HT.sIx];by_cases h:i<0<;>simp only[h,if_true,if_false]<;>omega
 simp only[show(1:Int)>0 by decide,if_true];rw[<-e1,<-e2];cases lo<;>cases hi<;>rfl
theorem ql(l:List Nat)(lo hi:Option Int):JY (sOf l) lo hi=sOf (j9 l lo hi):=by
 have hn:(sOf l).length=l.length:=d4 l;have hk:(EU lo hi 1 l.length).filterMap ((sOf l).cps[·]?)=j9 l lo hi:=by
  rw[jC,J4,pick_run];simp[j9]
 have hlen:(EU lo hi 1 l.length).length=(j9 l lo hi).length:=by
  rw[jC,J4];have h1:=HT.sIx_le l.length 0 (Gx _) lo;have h2:=HT.sIx_le l.length l.length (D8 _) hi;simp[j9];omega
 unfold JY;rw[hn];split
 ·rename_i h;have h:(EU lo hi 1 l.length).length=l.length:=by simpa using h
  have hl:=hlen.symm.trans h;have e:j9 l lo hi=l:=by
   have h3:(j9 l lo hi).length<=(l.drop<|HT.sIx l.length 0 lo).length:=by unfold j9;simp;omega
   have h4:HT.sIx l.length 0 lo=0\/l.length=0:=by
    rw[G9]at h3;omega
   rcases h4 with h4|h4
   ·unfold j9 at hl ⊢;rw[h4]at hl ⊢;rw[Ks]at hl ⊢;rw[FI]at hl;exact GH (by omega)
   ·have:l=[]:=List.length_eq_zero_iff.mp h4;subst this;simp[j9]
  rw[e]
 ·rw[hk]
theorem dG:AN X (fun x lo hi H Q=>∃l,x=.str (sOf l)/\l.length<=sizeLine/\Q (.str<|sOf<|j9 l lo hi) H):=by
 intro pins s σ H x v vl vu lo hi sl Q I rx hs pl pu h;obtain⟨l,rfl,hz,q⟩:=h;obtain⟨t,rfl⟩:=rx;obtain⟨a1,rfl,e1⟩:∃a:Option (Int×Tok),vl=partValue a/\a.map (·.1)=lo:=by
  cases pl with
  |none=>exact⟨none,rfl,rfl⟩
  |int i t=>exact⟨some (i,t),rfl,rfl⟩
 obtain⟨a2,rfl,e2⟩:∃a:Option (Int×Tok),vu=partValue a/\a.map (·.1)=hi:=by
  cases pu with
  |none=>exact⟨none,rfl,rfl⟩
  |int i t=>exact⟨some (i,t),rfl,rfl⟩
 have hle:(JY (sOf l) lo hi).length<=sizeLine:=EA (Txt.slice_le _ _ _) (by rw[d4];exact hz);refine⟨"str",_,PySem.F.slot_str_getitem.lookup,Km _ _ _,wpAny_getItem_str_slice (l:=a1) (u:=a2) (st:=none) hs rfl ?_⟩;subst e1 e2;refine post_val_or_str ⟨hle,fun t' k=>⟨.str _,H,I.tok _,⟨t',rfl⟩,?_⟩⟩;have:=ql l (a1.map (·.1)) (a2.map (·.1));unfold JY at this;show Q (.str (if _ then _ else _)) H;exact this▸q
theorem so(hc:X.calm=true):yd X "str.index" (fun x xs H Q=>∃a b,x=.str a/\xs=[.str b]/\0<=HE a b/\Q (.int<|HE a b) H):=by
 intro pins s σ H x xs v us Q I rx rs h;obtain⟨a,b,rfl,rfl,h0,q⟩:=h;obtain⟨t,rfl⟩:=rx;obtain⟨u,rfl,t',rfl⟩:=fT rs;refine index_or (I.ok.hd hc) (fun e=>?_) fun _ _=>⟨.int _,H,I.tok _,⟨_,rfl⟩,q⟩
 omega
theorem nN{ys:List (List Nat)}:∀{us:List CN},Vals (ys.map fun y=>GU<|sOf y) us->StrsAre us (ys.map sOf):=by
 induction ys with
 |nil=>intro us r;cases r;exact .nil
 |cons y ys ih=>
  intro us r;cases r with
  |cons r1 r2=>
   obtain⟨t,e⟩:=r1;subst e;exact .cons _ t<|ih r2
theorem nO(ys:List (List Nat)):Txt.join (sOf []) (ys.map sOf)=sOf ys.flatten:=by
 have key:∀(r:List (List Nat))(acc:List Nat),(r.map sOf).foldl (fun acc p=>acc++(sOf []).cps++p.cps) acc.toArray=(acc++r.flatten).toArray:=by
  intro r
  induction r with
  |nil=>intro acc;simp
  |cons a r ih=>
   intro acc;rw[DO,Gg,F0,<-Fd,<-ih (acc++a)];simp[sOf]
 cases ys with
 |nil=>rfl
 |cons a r=>
  show Str.mk (((r.map sOf)).foldl (fun acc p=>acc++(sOf []).cps++p.cps) a.toArray)=_;rw[key];rfl
theorem vP:yd X "str.join" (fun x xs H Q=>∃(p:Addr)(ys:List (List Nat)),x=.str (sOf [])/\xs=[.ref p]/\SqL X.K H p (ys.map fun y=>GU<|sOf y)/\ys.flatten.length<=100000/\Q (.str<|sOf ys.flatten) H):=by
 intro pins s σ H x xs v us Q I rx rs h;obtain⟨p,ys,rfl,rfl,hp,hl,q⟩:=h;obtain⟨t,rfl⟩:=rx;obtain⟨u,rfl,r1⟩:=fT rs;cases r1;obtain⟨its,r,pl,hz⟩:=I.list hp;refine join_list pl.isList (by simpa using nN r) ?_ fun t' k=>⟨.str _,H,I.tok _,⟨t',rfl⟩,by rw[nO];exact q⟩
 have e:((ys.map sOf).map (·.length)).sum=ys.flatten.length:=by
  rw[GI,List.length_flatten];congr 1
  all_goals exact Gb fun y _=>d4 y
 have e2:(sOf []).length=0:=d4 [];rw[e,e2];omega
theorem mF:ej X (.builtin "isinstance") (fun xs H Q=>∃x T t b,xs=[x,.ty T]/\TyOf X.K H x t/\DD X.K t (.type T)=some b/\Q (.bl b) H):=by
 intro pins s σ H xs us Q I r h;obtain⟨x,T,t,b,rfl,ty,e,q⟩:=h;obtain⟨u,w',rfl,rx,rT⟩:=oP r;obtain rfl:w'=.type T:=rT;exact qf I rx ty e fun tk=>⟨.bl b,H,I.tok _,rfl,q⟩
def BL(l:List Nat):It:=⟨fun i _=>i<l.length,fun i H x H'=>H'=H/\∃c,l[i]? =some c/\x=.str (sOf [c]),fun i _=>l.length<=i⟩
def zJ(tl:TE):TI:=fun σ H R=>tl σ H fun x H1=>∃l,x=.str (sOf l)/\R (BL l) H1
end
theorem sq{P:Dg}{w:Dr}{K:CL}{tg:Expr}(l:List Nat)(it:Addr)(ty:String)(t:Tok)(hty:ty="str_ascii_iterator"\/ty="str_iterator")
  (W:∀A':Dy,A'.handled=none->Walks P w A' it [it] [it] l.length (SignAt<|sOf l) (fun i h=>h.IsStrIter it ty (sOf l) t i)):
  Turn P w K tg (BL l) [it] it (fun i h=>i<=l.length/\h.IsStrIter it ty (sOf l) t i) where
 mem:=by simp
 obj:=fun i h st b hb=>by
  have e:b=it:=by simpa using hb
  subst e;obtain⟨_,o,e,c,d⟩:=st;exact⟨o,e,fun v z=>by rw[d]at z;cases z⟩
 keep:=fun i h h' st k=>⟨st.1,by obtain⟨o,e,r⟩:=st.2;exact⟨o,k it (by simp) o e,r⟩⟩
 item:=by
  intro X hP hw hK hc i pins s σ H E I hf st hg;subst hP hw hK;obtain⟨f0,f1,f2,f3,f4,f5⟩:=hf it (by simp);refine(W X.A<|I.ok.hd hc).item i s _ _ hg st.2 fun v h' tk hv st' kk=>?_;obtain⟨c,u,hc',rfl⟩:=hv;have I1:Inv X pins σ H {s with heap:=h',toks:=tk}:=I.turned (fun b o hb e=>kk b o (by simpa using hb) e) f0 f1 f3 f4 f5;obtain⟨o,e,c1,d⟩:=id st';refine⟨_,rfl,me (s:={s with heap:=h',toks:=tk}) (n:=ty) e c1 d (by rcases hty with rfl|rfl<;>decide) ⟨.str<|sOf [c],H,I1,⟨u,rfl⟩,⟨rfl,c,?_,rfl⟩,⟨hg,st'⟩,fun b hb=>(hf b hb).1⟩⟩;simpa [sOf] using hc'
 done:=by
  intro X hP hw hK hc i pins s σ H E I hf st hg;subst hP hw hK;obtain⟨f0,f1,f2,f3,f4,f5⟩:=hf it (by simp);have e:i=l.length:=Nat.le_antisymm st.1 hg;subst e;exact(W X.A<|I.ok.hd hc).done s _ _ st.2 fun h' tk kk=>⟨rfl,I.turned (fun b o hb e=>kk b o (by simpa using hb) e) f0 f1 f3 f4 f5⟩
 self:=fun A i s Q E st h=>by
  rcases hty with rfl|rfl;·exact wpAny_pyIter_striter_ascii st.2 h
  ·exact wpAny_pyIter_striter_wide st.2 h
theorem iE{X:Cx}{tg l:Expr}{tl:TE}(hl:PE X l tl):PI X tg l (zJ tl):=by
 intro pins s σ H R I h;refine bO (hl pins s σ H _ I h) fun v s1 zz=>?_;obtain⟨x,H1,I1,r1,q1⟩:=zz;obtain⟨y,e,q⟩:=q1;subst e;obtain⟨t,rfl⟩:=r1;have hn:(sOf y).cps.size=y.length:=by simp[sOf]
 have fin:∀(ob:Obj)(ty:String),(ty="str_ascii_iterator"\/ty="str_iterator")->(∀A':Dy,A'.handled=none->Walks X.prog X.w A' s1.heap.objs.size [s1.heap.objs.size] [s1.heap.objs.size] y.length (SignAt<|sOf y) (fun i h=>h.IsStrIter s1.heap.objs.size ty (sOf y) t i))->
   (s1.heap.push ob).IsStrIter s1.heap.objs.size ty (sOf y) t 0->Bl X pins σ tg R (.ref s1.heap.objs.size) {s1 with heap:=s1.heap.push ob}:=fun ob ty hty W st=>by
  refine⟨s1.heap.objs.size,[s1.heap.objs.size],_,_,H1,rfl,I1.kept (t':=s1.toks) fun b o e=>CM _ e,sq y _ ty t hty W,⟨Gx _,st⟩,fun b hb=>?_,q⟩;have e:b=s1.heap.objs.size:=by simpa using hb
  subst e;exact I1.fpOk (D8 _)<|I1.hok.fresh<|D8 _
 cases ha:(sOf y).cps.all (· <128);·exact JI ha<|fin _ "str_iterator" (.inr rfl) (fun A' hA=>hn▸Walks.strWide hA _ (sOf y) t) ⟨_,CY _ rfl,rfl,rfl⟩
 ·exact Jo ha<|fin _ "str_ascii_iterator" (.inl rfl) (fun A' hA=>hn▸Walks.strAscii hA _ (sOf y) t) ⟨_,CY _ rfl,rfl,rfl⟩
def cv(env:Env):List (Str×FH)->List (Str×Addr)->List (Str×Addr)
 | [],acc=>acc
 |(n,k)::r,acc=>cv env r (if(k== .free)=true then(n,(env.cells.lookup n).getD 0)::acc else acc)
theorem fj{scope:FO}{env:Env}(h:∀x∈scope.names,x.2=.free->∃c,env.cells.lookup x.1=some c):closureFor scope env=pure (cv env scope.names []):=by
 simp only[closureFor];have key:∀(names:List (Str×FH))(acc:List (Str×Addr)),(∀x∈names,x.2=.free->∃c,env.cells.lookup x.1=some c)->
   (forIn names acc fun(x:Str×FH)(cs:List (Str×Addr))=>if(x.2== .free)=true then(do let a <-cellOf env x.1;pure (FZ ((x.1,a)::cs)))else pure (FZ cs))=(pure (cv env names acc):Sem _):=by
  intro names
  induction names with
  |nil=>intro acc _;rfl
  |cons x r ih=>
   intro acc hx;obtain⟨n,k⟩:=x;rw[Gi];have hr:∀y∈r,y.2=.free->∃c,env.cells.lookup y.1=some c:=fun y hy=>hx y<|D4 _ hy;unfold cv;by_cases hk:(k==Ej)=true
   ·obtain⟨c,hc⟩:=hx (n,k) D0 (by simpa using hk);have hc:env.cells.lookup n=some c:=hc;simp only[hk,if_true];unfold cellOf;simp only[hc,Ga];exact ih _ hr
   ·simp only[hk,if_false];exact ih _ hr
 have:=key scope.names [] h;rw[this];rfl
theorem fY{env:Env}{x:Str}{c:Addr}:∀(names:List (Str×FH))(acc:List (Str×Addr)),(∀y∈names,y.2=.free->∃c,env.cells.lookup y.1=some c)->(cv env names acc).lookup x=some c->
  ((x,Ej)∈names/\env.cells.lookup x=some c)\/acc.lookup x=some c
 | [],_,_,h=>.inr h
 |(n,k)::r,acc,hx,h=>by
  unfold cv at h;rcases fY r _ (fun y hy=>hx y<|D4 _ hy) h with⟨q1,q2⟩|q
  ·exact .inl ⟨D4 _ q1,q2⟩
  ·by_cases hk:(k == Ej)=true
   ·rw[if_pos hk]at q;have hk':k=.free:=by simpa using hk
    subst hk';rw[ES]at q;cases hb:x==n with
    |true=>
     rw[hb]at q;have e:x=n:=beq_iff_eq.mp hb;subst e;obtain⟨c',hc⟩:=hx (x,.free) D0 rfl;have hc:env.cells.lookup x=some c':=hc;rw[hc]at q;simp at q;subst q;exact .inl ⟨D0,hc⟩
    |false=>rw[hb]at q;exact .inr q
   ·rw[if_neg hk]at q;exact .inr q
theorem iU{env:Env}{x:Str}{c:Addr}:∀(names:List (Str×FH))(acc:List (Str×Addr)),acc.lookup x=some c->env.cells.lookup x=some c->(cv env names acc).lookup x=some c
 | [],_,h,_=>h
 |(n,k)::r,acc,h,he=>by
  unfold cv;refine iU r _ ?_ he;by_cases hk:(k==Ej)=true
  ·rw[if_pos hk,ES];cases hb:x==n with
   |true=>
    have e:x=n:=beq_iff_eq.mp hb;subst e;simp[he]
   |false=>exact h
  ·rw[if_neg hk];exact h
theorem iV{env:Env}{x:Str}{c:Addr}:∀(names:List (Str×FH))(acc:List (Str×Addr)),(x,Ej)∈names->env.cells.lookup x=some c->(cv env names acc).lookup x=some c
 |(n,k)::r,acc,h,he=>by
  unfold cv;rcases D7.mp h with e|h
  ·cases e;exact iU r _ (by simp[he]) he
  ·exact iV r _ h he
theorem cS:∀(names:List (Str×FH))(n:Nat)(acc:List (Str×Addr)),cellsFrom n names acc=cellsFrom n names []++acc
 | [],_,_=>rfl
 |(x,k)::r,n,acc=>by
  unfold cellsFrom;split;·rw[cS r _ ((x,n)::acc),cS r _ [(x,n)],Fd];rfl
  ·exact cS r n acc
theorem et:∀(names:List (Str×FH))(n:Nat){x:Str}{c:Addr},(x,c)∈cellsFrom n names []->(x,Je)∈names
 | [],_,_,_,h=>by cases h
 |(y,k)::r,n,x,c,h=>by
  unfold cellsFrom at h;split at h
  ·rename_i hk;rw[cS]at h;rcases Ff.mp h with h|h
   ·exact D4 _<|et r _ h
   ·have e:(x,c)=(y,n):=by simpa using h
    cases e;have hk':k=.cell:=by simpa using hk
    subst hk';exact D0
  ·exact D4 _<|et r _ h
theorem jD{M:Ki}{A:Dy}{E:CN->CO->Prop}{s:CO}{scope:FO}{env:Env}{cl:List (Str×Addr)}{Q:Env->CO->Prop}
  (hQ:Q (newEnv scope s.heap.objs.size env.globals (cellsFrom (s.heap.objs.size+1) scope.names cl) env.qual none .none (some env) builtinsNs) {s with heap:=pushCells (s.heap.push {cls:=.type "dict",data:=.dict #[]}) scope.names}):
  wpAny M A (newFunctionEnv scope env.globals cl [] env.qual none .none<|some env) Q E s:=by
 simp only[newFunctionEnv,Jn,if_true];refine CI<|wpAny_alloc ?_;refine CI (wpAny_layCells _ (fun name kind cells=>by cases hkc:kind==Je<;>simp[hkc]) _ _ _ _ ?_);rw[show({s with heap:=s.heap.push {cls:=.type "dict",data:=.dict #[]}}:CO).heap.objs.size=s.heap.objs.size+1 from DG ..];simp only[GJ];exact CI<|CU<|CU hQ
section
variable{prog:Dg}{w:Dr}{A:Dy}{R:Ll->CO->Prop}{s:CO}
theorem i6{elt target iter:Expr}{ifs:List Expr}{scope:FO}{pos:Pos}{it acc:CN}{env:Env}(I:Nat->CO->Prop)
  (turn:∀n s,I n s->wpAny (model prog w) A (pyNext it) (fun r s₁=>match r with
   |none=>R (.ok .next) s₁
   | some v=>wpAny (model prog w) A (letOwnedTupleGo target it v) (fun _ s₁'=>wpAny (model prog w) A (assign target env v) (fun _ s₂=>
     wpAny (model prog w) A (forIn ifs true fun c r=>if r=true then do let ok <-isTrue c env (eval c env);pure (FZ ok)else pure (FZ r)) (fun ok s₃=>
      if ok=true then wpAny (model prog w) A (eval elt env) (fun x s₄=>
       wpAny (model prog w) A (call (.builtin "list.append") [acc,x]) (fun _ s₅=>∃m,m<n/\I m s₅) (fun _ _=>False) s₄) (fun _ _=>False) s₃
      else ∃m,m<n/\I m s₃) (fun _ _=>False) s₂) (fun _ _=>False) s₁') (fun _ _=>False) s₁) (fun _ _=>False) s)
  (n:Nat) (h:I n s):codeAny (model prog w) A (.compLoop (.ListComp elt [⟨target,iter,ifs,0⟩] scope pos) 0 it acc env) R s:=by
 refine codeAny_loop rfl I (fun n s hI=>?_) n h;show wpAny _ A ((compTurn (.ListComp elt [⟨target,iter,ifs,0⟩] scope pos) 0 it acc env).onRaise (fun x=>do noteFrame x env;theTreesLotGoes x)) _ _ s;refine wpAny_noted ?_;rw[compTurn_list];refine CI<|Jf<|CI<|Eu (turn n s hI) (fun r s₁ h₁=>?_) fun _ _ h'=>h'.elim;cases r with
 |none=>exact CU h₁
 |some v=>
  refine CI<|Eu h₁ (fun _ s₁' h₁'=>?_) fun _ _ h'=>h'.elim;refine CI<|Eu h₁' (fun _ s₂ h₂=>CI<|Eu h₂ (fun ok s₃ h₃=>?_) fun _ _ h'=>h'.elim) fun _ _ h'=>h'.elim;cases ok with
  |true=>
   rw[if_pos rfl]at h₃;exact CI<|CI<|Eu h₃ (fun x s₄ h₄=>CI<|Eu h₄ (fun _ s₅ h₅=>CU<|CU ⟨rfl,h₅⟩) fun _ _ h'=>h'.elim) fun _ _ h'=>h'.elim
  |false=>
   rw[if_neg Dd]at h₃;exact CU ⟨rfl,h₃⟩
end
def sr(scope:FO)(x:Str):Bool:=scope.names.lookup x==some .local||scope.names.lookup x==some .cell
def az(X:Cx)(scope:FO)(N:List Str)(s:CO)(H:Hp)(C:Addr)(fp:List Addr):Cx:=
 {X with N:=N,s₀:=s,H₀:=H,env:=compEnvC scope (cellsFrom (C+1) scope.names<|cv X.env scope.names []) C X.env,outer:=X.stack,ex:=fp,fn:=sr scope,pn:=[],xe:=fun _ _=>False}
def bh(cap:List (Option Nat))(σ:St):St:=cap.map fun o=>o.bind fun j=>(σ[j]?).bind id
structure CompScope(X:Cx)(scope:FO)(N:List Str)(cap:List (Option Nat)):Prop where
 kind:scope.kind=.function
 nd:N.Nodup
 len:cap.length=N.length
 uniq:(scope.names.map (·.1)).Nodup
 free:∀x∈scope.names,x.2=.free->(X.env.kindOf x.1=some .cell\/X.env.kindOf x.1=some .free)
 cap:∀(k:Nat)(x:Str)(j:Nat),N[k]? =some x->cap[k]? =some (some j)->X.N[j]? =some x/\(x,Ej)∈scope.names
theorem df{α:Type}:∀{l:List (Str×α)}{x:Str}{k:α},(l.map (·.1)).Nodup->(x,k)∈l->l.lookup x=some k
 |(y,j)::r,x,k,nd,h=>by
  obtain⟨n1,n2⟩:=E7.mp (show(y::r.map (·.1)).Nodup from nd);rw[ES];rcases D7.mp h with e|h;·cases e;simp
  ·have:(x == y)=false:=beq_eq_false_iff_ne.mpr fun e=>n1<|e▸Di.mpr ⟨(x,k),h,rfl⟩;rw[this];exact df n2 h
theorem eQ{env:Env}:∀{names:List (Str×FH)}{x:Str},(names.map fun(p:Str×FH)=>if(p.2==Ej&&env.scope.kind== .function&&env.kindOf p.1==some .cell)=true then(p.1,Je)else(p.1,p.2)).lookup x=
  (names.lookup x).map fun k=>if(k==Ej&&env.scope.kind== .function&&env.kindOf x==some .cell)=true then .cell else k
 | [],_=>rfl
 |(n,k)::r,x=>by
  rw[DO];have ih:= @eQ env r x;by_cases hx:x=n
  ·subst hx;by_cases hc:(k==Ej&&env.scope.kind== .function&&env.kindOf x==some .cell)=true;·simp only[hc,if_true,ES,beq_self_eq_true,Gj]
   ·rw[if_neg hc,ES,ES,beq_self_eq_true];simp only[Gj];rw[if_neg hc]
  ·have hb:(x == n)=false:=beq_eq_false_iff_ne.mpr hx;by_cases hc:(k==Ej&&env.scope.kind== .function&&env.kindOf n==some .cell)=true;·simp only[hc,if_true,ES,hb];exact ih
   ·rw[if_neg hc,ES,ES,hb];exact ih
def yi(X:Cx)(ifs:List Expr)(t:TT):Prop:=
 ∀(pins:List (Addr×Obj))(s:CO)(σ:St)(H:Hp)(Q:Bool->Hp->Prop),Inv X pins σ H s->t σ H Q->
  wpAny (model X.prog X.w) X.A (forIn ifs true fun c r=>if r=true then do let ok <-isTrue c X.env (eval c X.env);pure (FZ ok)else pure (FZ r)) (TP X pins σ Q) X.xe s
def yj:TT:=fun _ H Q=>Q true H
theorem cw{X:Cx}:yi X [] yj:=fun _ _ _ H _ I h=>wpAny_tests_nil ⟨H,I,h⟩
theorem lH{X:Cx}{c:Expr}{t:TT}(h:PT X c t):yi X [c] t:=fun pins s σ H Q I hq=>wpAny_tests_one<|h pins s σ H Q I hq
def Keep:St->St->Prop
 | [],_=>True
 |none::a,_::b=>Keep a b
 |some v::a,some u::b=>v=u/\Keep a b
 |_,_=>False
theorem Keep.get:∀{a b:St}{j:Nat}{v:V},Keep a b->a[j]? =some (some v)->b[j]? =some (some v)
 | [],_,_,_,_,h=>by simp at h
 |none::a,_::b,0,_,_,h=>by simp at h
 |none::a,_::b,j+1,v,k,h=>Keep.get (j:=j) (a:=a) (b:=b) k h
 |some w::a,some u::b,0,v,k,h=>by
  have e:w=u:=k.1;subst e;exact h
 |some w::a,some u::b,j+1,v,k,h=>Keep.get (j:=j) (a:=a) (b:=b) k.2 h
 |none::_,[],_,_,k,_=>k.elim
 |some _::_,[],_,_,k,_=>k.elim
 |some _::_,none::_,_,_,k,_=>k.elim
def zK(cap:List (Option Nat))(g:TG)(tf:TT)(te:TE)(σ:St)(H1:Hp)(Q:VK)(J:It):Prop:=∃W:Nat->Nat->List V->Hp->Prop,(∃m,W 0 m [] H1)/\∀i m ys H,W i m ys H->ys.length<sizeLine/\
  ((J.stop i H/\∀D,H D=none->Q (.ref D) (cg H D<|.lst ys))\/
   (J.go i H/\∃N:List V->Hp->Prop,(∀ys' H',N ys' H'->∃m',m'<m/\W (i+1) m' ys' H')/\∀x H',J.yld i H x H'->g x (bh cap σ) H' fun σ2 H2=>Keep (bh cap σ) σ2/\tf σ2 H2 fun b H3=>if b=true then te σ2 H3 fun y H4=>N (ys++[y]) H4 else N ys H3))
def jE(cap:List (Option Nat))(wi:TI)(g:TG)(tf:TT)(te:TE):TE:=fun σ H Q=>wi σ H fun J H1=>zK cap g tf te σ H1 Q J
theorem d6{X:Cx}{scope:FO}{C:Addr}{x:Str}{c:Addr}(frc:∀x∈scope.names,x.2=.free->∃c,X.env.cells.lookup x.1=some c)
  (h:(cellsFrom (C+1) scope.names<|cv X.env scope.names []).lookup x=some c):(x,c)∈cellsFrom (C+1) scope.names []\/((x,Ej)∈scope.names/\X.env.cells.lookup x=some c):=by
 rw[cS,Jp]at h;cases e:(cellsFrom (C+1) scope.names []).lookup x with
 |some d=>
  rw[e]at h;have h:some d=some c:=h;cases h;exact .inl<|EH e
 |none=>
  rw[e]at h;have h:(cv X.env scope.names []).lookup x=some c:=h;rcases fY _ _ frc h with q|q
  ·exact .inr q
  ·cases q
theorem mG{X:Cx}{scope:FO}{C:Addr}{x:Str}{c:Addr}(uq:(scope.names.map (·.1)).Nodup)(hx:(x,Ej)∈scope.names)(hc:X.env.cells.lookup x=some c):
  (cellsFrom (C+1) scope.names<|cv X.env scope.names []).lookup x=some c:=by
 rw[cS,Jp];cases e:(cellsFrom (C+1) scope.names []).lookup x with
 |some d=>
  have h1:=df uq<|et _ _<|EH e;have h2:=df uq hx;rw[h1]at h2;cases h2
 |none=>exact iV _ _ hx hc
section
variable{X:Cx}{scope:FO}{N:List Str}{cap:List (Option Nat)}{pins:List (Addr×Obj)}{σ:St}{H:Hp}{s:CO}{C:Addr}{fp:List Addr}
theorem qm{h4:Heap}(S:CompScope X scope N cap)(I:Inv X pins σ H s)(hC:s.heap.objs.size<=C)(ck:Ln h4 (C+1) (cellsFrom (C+1) scope.names []))
  (hf:∀b∈fp,FpOk X pins H b) (hlt:∀b∈fp,b<C):(az X scope N s H C fp).Ok:=by
 have frc:∀x∈scope.names,x.2=.free->∃c,X.env.cells.lookup x.1=some c:=fun x hx hk=>I.ok.has x.1<|S.free x hx hk;have old:∀x c,X.env.cells.lookup x=some c->c<C:=fun x c e=>by
  obtain⟨v,q⟩:=I.cell x c e;exact CZ q.lt hC
 have own:∀x c,(x,c)∈cellsFrom (C+1) scope.names []->C<c:=fun x c e=>(ck.empty x c e).2;refine⟨I.ok.mod,S.kind,I.ok.glob,I.ok.blt,hC,fun x y c h1 h2=>?_,fun x hx=>?_,fun x c hfn h=>?_,I.ok.hd,I.ok.frames,.inl rfl,fun b hb=>⟨Dc<|hlt b hb,fun x c h=>?_⟩,I.bs,EA I.ok.bsz I.sz,fun b o e hb=>?_,fun b hb z=>?_,I.stack,I.stkFree⟩
 ·rcases d6 frc h1 with a | ⟨a1,a2⟩ <;> rcases d6 frc h2 with b | ⟨b1,b2⟩
  ·exact name_of_addr ck.apart a b
  ·exact absurd (Iu (own x c a)<|old y c b2)<|DN _
  ·exact absurd (Iu (own y c b)<|old x c a2)<|DN _
  ·exact I.ok.inj x y c a2 b2
 ·have hx:(relabel scope X.env).names.lookup x=some .cell\/(relabel scope X.env).names.lookup x=some .free:=hx;have e:(relabel scope X.env).names.lookup x=_:=eQ (env:=X.env) (names:=scope.names) (x:=x);rw[e]at hx;cases q:scope.names.lookup x with
  |none=>rw[q]at hx;rcases hx with z|z<;>cases z
  |some k=>
   have hm:=EH q;by_cases hk:k=.free
   ·subst hk;obtain⟨c,hc⟩:=frc _ hm rfl;exact⟨c,mG S.uniq hm hc⟩
   ·have hk':(k == Ej)=false:=by simpa using hk
    rw[q]at hx;simp only[Gj,hk',IX,Ed,if_false]at hx;have hkc:k=.cell:=by
     rcases hx with z|z;·exact DJ z
     ·exact absurd (DJ z) hk
    subst hkc;exact HY.mp<|FU scope.names (C+1) _<|.inl q
 ·rcases d6 frc h with a | ⟨a1,a2⟩
  ·exact EA hC<|Fz<|own x c a
  ·have q:=df S.uniq a1;have z:sr scope x=true:=hfn;unfold sr at z;rw[q]at z;exact absurd z (by decide)
 ·rcases d6 frc h with a | ⟨a1,a2⟩
  ·exact EZ<|Iu (hlt b hb)<|own x c a
  ·exact(hf b hb).2.2.2.2.1 x c a2
 ·rcases (hf b hb).2.2.2.1 with z | z;·exact I.ok.noex b o e z
  ·exact absurd (CZ (CZ (D5 e) I.ok.bsz) z)<|DN _
 ·rcases D7.mp (I.stkSub b z)with q | q;·exact(hf b hb).2.1 q
  ·exact(hf b hb).2.2.1 q
theorem jF{s4:CO}(S:CompScope X scope N cap)(I:Inv X pins σ H s)(hC:s.heap.objs.size<=C)(ck:Ln s4.heap (C+1) (cellsFrom (C+1) scope.names []))
  (hf:∀b∈fp,FpOk X pins H b) (hlt:∀b∈fp,b<C) (h4:∃h' tk,s4={s with heap:=h',toks:=tk}) (hn:s4.heap.Ns C fun _=>none) (hk:∀b o,s.heap.get? b=some o->s4.heap.get? b=some o):
  Inv (az X scope N s H C fp) [] (bh cap σ) H s4:=by
 have frc:∀x∈scope.names,x.2=.free->∃c,X.env.cells.lookup x.1=some c:=fun x hx hk=>I.ok.has x.1<|S.free x hx hk;obtain⟨h',tk,rfl⟩:=h4;refine⟨qm S I hC ck hf hlt,rfl,I.bare,Un.kept hk,⟨_,hn,fun i x v e1 e2 e3=>?_⟩,fun x c h=>?_,I.hok.fresh hC,fun x c h=>?_,fun p hp=>absurd (show p∈([]:List (Addr×Obj))from hp) (by simp),I.hok.kept hk,?_⟩
 ·have e1:N[i]? =some x:=e1;unfold bh at e2;rw[DQ]at e2;cases q:cap[i]? with
  |none=>rw[q]at e2;cases e2
  |some o=>
   cases o with
   |none=>rw[q]at e2;cases e2
   |some j=>
    rw[q]at e2;obtain⟨hj,hm⟩:=S.cap i x j e1 q;have e2:σ[j]?.bind id=some v:=DJ e2;have e2':σ[j]? =some (some v):=by
     cases z:σ[j]? with
     |none=>rw[z]at e2;cases e2
     |some o=>rw[z]at e2;exact congrArg some e2
    have kd:=S.free _ hm rfl;obtain⟨m,_,hl⟩:=I.loc;obtain⟨u,r,lk⟩:=hl j x v hj e2' (by rcases kd with z|z;exact .inr<|.inl z;exact .inr<|.inr z);refine⟨u,r,.inr ?_⟩;rcases lk with⟨z,_⟩|⟨_,c,hc,hcell⟩
    ·rcases kd with q|q<;> ·rw[show X.env.kindOf x=_ from q]at z;cases z
    ·refine⟨?_,c,mG S.uniq hm hc,hcell.keeps hk⟩;have e:(relabel scope X.env).names.lookup x=_:=eQ (env:=X.env) (names:=scope.names) (x:=x);rw[df S.uniq hm]at e;simp only[Gj]at e;show(relabel scope X.env).names.lookup x=some .cell\/(relabel scope X.env).names.lookup x=some .free;rw[e];split;·exact .inl rfl
     ·exact .inr rfl
 ·rcases d6 frc h with a | ⟨a1,a2⟩
  ·exact⟨_,(ck.empty x c a).1⟩
  ·obtain⟨v,q⟩:=I.cell x c a2;exact⟨v,q.keeps hk⟩
 ·rcases d6 frc h with a | ⟨a1,a2⟩
  ·exact I.hok.fresh<|EA hC<|Fz (ck.empty x c a).2
  ·exact I.freeC x c a2
 ·show(bh cap σ).length=N.length;unfold bh;rw[Dq,S.len]
end
abbrev dQ(its:List CN)(k:Nat):Obj:={cls:=.type "list",data:=.seq its.toArray k}
section
variable{X:Cx}{scope:FO}{N:List Str}{cap:List (Option Nat)}{tg iter elt:Expr}{ifs:List Expr}{pos:Pos}{wi:TI}{g:TG}{tf:TT}{te:TE}
theorem kT(S:CompScope X scope N cap)(hc:X.calm=true)
  (hg:∀s H C fp,PG (az X scope N s H C fp) tg g) (hf:∀s H C fp,yi (az X scope N s H C fp) ifs tf) (he:∀s H C fp,PE (az X scope N s H C fp) elt te)
  {pins:List (Addr×Obj)} {σ:St} {H2:Hp} {s2:CO} {it:Addr} {fp:List Addr} {tn:Nat->Heap->Prop} {J:It} {Qv:VK} {E:CN->CO->Prop} {RR:CN->Addr->Ll->CO->Prop}
  (I2:Inv X pins σ H2 s2) (T:Turn X.prog X.w X.K tg J fp it tn) (st2:tn 0 s2.heap) (f2:∀b∈fp,FpOk X pins H2 b) {W:Nat->Nat->List V->Hp->Prop} (w0:∃m,W 0 m [] H2)
  (turn:∀i m ys H,W i m ys H->ys.length< sizeLine/\((J.stop i H/\∀D,H D=none->Qv (.ref D) (cg H D<|.lst ys))\/
   (J.go i H/\∃N:List V->Hp->Prop,(∀ys' H',N ys' H'->∃m',m'<m/\W (i+1) m' ys' H')/\∀x H',J.yld i H x H'->g x (bh cap σ) H' fun σ2 H2=>Keep (bh cap σ) σ2/\tf σ2 H2 fun b H3=>if b=true then te σ2 H3 fun y H4=>N (ys++[y]) H4 else N ys H3)))
  (fin:∀(D C:Addr) (σ':St) (H':Hp) (s':CO) (its:List CN) (k:Nat) (ys:List V),s2.heap.objs.size<=D->s2.heap.objs.size<=C->D≠C->Inv (az X scope N s2 H2 C fp) [(D,dQ its k)] σ' H' s'->Vals ys its->ys.length<=sizeLine->
   Qv (.ref D) (cg H' D (.lst ys))->RR (.ref D) C (.ok .next) s'):
  wpAny (model X.prog X.w) X.A (newList []) (fun acc s₃=>wpAny (model X.prog X.w) X.A (newFunctionEnv scope X.env.globals (cv X.env scope.names []) [] X.env.qual none .none<|some X.env) (fun cenv s₄=>
   codeAny (model X.prog X.w) X.A (.compStart (.ListComp elt [⟨tg,iter,ifs,0⟩] scope pos) 0 (.ref it) acc {cenv with scope:=relabel scope X.env}) (RR acc cenv.locals) s₄) E s₃) E s2:=by
 refine Ep<|jD ?_;generalize hD:s2.heap.objs.size=D;generalize hH3:s2.heap.push {cls:=.type "list",dict:=none,data:=.seq ([]:List CN).toArray}=h3;have hz3:h3.objs.size=D+1:=by rw[<-hH3,DG,hD]
 dsimp only;have eC:({s2 with heap:=h3}:CO).heap.objs.size=D+1:=hz3;rw[show h3.objs.size=D+1 from hz3];generalize hH4:pushCells (h3.push {cls:=.type "dict",data:=.dict #[]}) scope.names=h4;have hz3':(h3.push {cls:=.type "dict",data:=.dict #[]}).objs.size=D+1+1:=by rw[DG,hz3]
 have ck:Ln h4 (D+1+1) (cellsFrom (D+1+1) scope.names []):=by
  have:=cellsFrom_ok scope.names (h3.push {cls:=.type "dict",data:=.dict #[]}) (D+1+1) [] ⟨fun _ _ hm=>(nomatch hm),HR⟩ (by rw[hz3'];exact D8 _);rw[hz3',hH4]at this;exact this
 have k23:∀b o,s2.heap.get? b=some o->h3.get? b=some o:=fun b o e=>by rw[<-hH3];exact CM _ e
 have k34:∀b o,h3.get? b=some o->h4.get? b=some o:=fun b o e=>by rw[<-hH4];exact Ho _ _ b o<|CM _ e
 have hD4:h4.get? D=some (dQ [] 0):=k34 _ _ (by rw[<-hH3,<-hD];exact CY _ rfl);have hn4:h4.Ns (D+1) fun _=>none:=by
  rw[<-hH4,<-hz3];exact(LF h3<|.type "dict").keeps (Ho _ _)
 have fpD:∀b∈fp,b<D:=fun b hb=>by
  obtain⟨o,e,_⟩:=T.obj _ _ st2 b hb;rw[<-hD];exact D5 e
 have hlt:∀b∈fp,b<D+1:=fun b hb=>JJ<|fpD b hb;have hDC:s2.heap.objs.size<=D+1:=by rw[hD];exact Hd _
 have hDs:s2.heap.objs.size<=D:=by rw[hD];exact D8 _
 have IC:Inv (az X scope N s2 H2 (D+1) fp) [] (bh cap σ) H2 {s2 with heap:=h4}:=
  jF S I2 hDC ck f2 hlt ⟨_,_,rfl⟩ hn4 fun b o e=>k34 b o<|k23 b o e
 have okC:=IC.ok;have nfs:∀{b:Addr},s2.heap.objs.size<=b->b∉frs X.stack:=fun{b}hb hm=>by
  obtain⟨_,o,ho,_⟩:=I2.stack.mem hm;exact absurd (CZ (D5 ho) hb)<|DN _
 have frc:∀x∈scope.names,x.2=.free->∃c,X.env.cells.lookup x.1=some c:=fun x hx hk=>I2.ok.has x.1<|S.free x hx hk;have cellsD:∀x c,(az X scope N s2 H2 (D+1) fp).env.cells.lookup x=some c->c≠D:=fun x c e=>by
  rcases d6 frc e with a|⟨_,a⟩
  ·have q:D+1+1<=c:=(ck.empty x c a).2;exact EZ<|CZ (CZ (EC D)<|Hd _) q
  ·obtain⟨v,q⟩:=I2.cell x c a;have:=q.lt;rw[hD]at this;exact Dc this
 have fpO:∀{H':Hp}{its:List CN}{k:Nat},(∀b∈fp,H' b=none)->∀b∈fp,FpOk (az X scope N s2 H2 (D+1) fp) [(D,dQ its k)] H' b:=fun{H' its k}hn b hb=>
  ⟨hn b hb,Dc<|hlt b hb,okC.exfs b hb,.inl hb,(okC.exf b hb).2,fun p hp=>by
   have e:p=(D,dQ its k):=by simpa [az] using hp
   subst e;exact EZ (fpD b hb)⟩
 have pinD:∀{σ':St}{H':Hp}{s':CO}{its:List CN}{k:Nat},Inv (az X scope N s2 H2 (D+1) fp) [] σ' H' s'->s'.heap.get? D=some (dQ its k)->H' D=none->Inv (az X scope N s2 H2 (D+1) fp) [(D,dQ its k)] σ' H' s':=fun{σ' H' s' its k}J e n=>
  J.pins_of fun p hp=>by
   have e':p=(D,dQ its k):=by simpa using hp
   subst e';exact⟨e,n,Dc<|EC _,nfs hDs,fun v z=>by
    have z':Ib its.toArray k=G0 v:=z;cases z'⟩
 have loop:codeAny (model X.prog X.w) X.A (.compLoop (.ListComp elt [⟨tg,iter,ifs,0⟩] scope pos) 0 (.ref it) (.ref D) (az X scope N s2 H2 (D+1) fp).env) (RR (.ref D)<|D+1) {s2 with heap:=h4}:=by
  obtain⟨m0,w0⟩:=w0;refine i6 (fun n s'=>∃i ys its k σ' H',Inv (az X scope N s2 H2 (D+1) fp) [(D,dQ its k)] σ' H' s'/\tn i s'.heap/\(∀b∈fp,H' b=none)/\Vals ys its/\(∀(j:Nat)(v:V),(bh cap σ)[j]? =some (some v)->σ'[j]? =some (some v))/\W i n ys H') ?_ m0
   ⟨0,[],[],0,bh cap σ,H2,pinD IC hD4<|I2.hok.fresh hDs,T.keep _ _ _ st2 fun b hb o e=>k34 b o<|k23 b o e,fun b hb=>(f2 b hb).1,.nil,fun _ _ e=>e,w0⟩
  rintro n s3 ⟨i,ys,its,k,σ3,H3,I3,st3,fr3,rv,kp,w3⟩;obtain⟨hyl,tr⟩:=turn i n ys H3 w3;have pin3:=I3.pin (D,dQ its k)<|Dw _ D0;rcases tr with⟨stop,qn⟩|⟨go,NN,hNN,step⟩
  ·refine bO (T.done (az X scope N s2 H2 (D+1) fp) rfl rfl rfl hc i _ s3 σ3 H3 _ I3 (fpO fr3) st3 stop) fun r s4 zz=>?_;obtain⟨hr,I4⟩:=zz;subst hr;exact fin D (D+1) σ3 H3 s4 its k ys hDs hDC (Dc<|EC _) I4 rv (Fz hyl)<|qn D pin3.2.1
  ·have I3':Inv (az X scope N s2 H2 (D+1) fp) [(D,dQ its k)] (bh cap σ) H3 s3:=I3.weak (by rw[I3.len,IC.len]) kp;refine bO (T.item (az X scope N s2 H2 (D+1) fp) rfl rfl rfl hc i _ s3 _ H3 _ I3' (fpO fr3) st3 go) fun r s4 zz=>?_;obtain⟨u,hr,h4⟩:=zz;subst hr;refine bO h4 fun _ s5 zz=>?_;obtain⟨x,H5,I5,r5,y5,st5,fr5⟩:=zz;have I5':=I5.pinned (fpO fr5)<|T.obj _ _ st5;refine bO (hg _ _ _ _ _ s5 _ H5 x u _ I5' r5<|step x H5 y5) fun _ s6 zz=>?_;obtain⟨σ6,H6,I6,kp6,q6⟩:=zz;refine bO (hf _ _ _ _ _ s6 σ6 H6 _ I6 q6) fun ok s7 zz=>?_;obtain⟨H7,I7,q7⟩:=zz;have back:∀{s8:CO}{H8:Hp},Inv (az X scope N s2 H2 (D+1) fp) ([(D,dQ its k)]++iA fp s5.heap) σ6 H8 s8->tn (i+1) s8.heap/\(∀b∈fp,H8 b=none)/\s8.heap.get? D=some (dQ its k)/\H8 D=none:=fun{s8 H8}I8=>by
    have at_:∀b∈fp,∀o,s5.heap.get? b=some o->s8.heap.get? b=some o/\H8 b=none:=fun b hb o e=>by
     have z:=I8.pin (b,o)<|Dw _<|Dw _<|fD hb e;exact⟨z.1,z.2.1⟩
    have pd:=I8.pin (D,dQ its k)<|Dw _<|Et _ D0;refine⟨T.keep _ _ _ st5 fun b hb o e=>(at_ b hb o e).1,fun b hb=>?_,pd.1,pd.2.1⟩;obtain⟨o,e,d⟩:=T.obj _ _ st5 b hb;exact(at_ b hb o e).2
   cases ok with
   |false=>
    rw[if_neg Dd]at q7 ⊢;obtain⟨m',hm,w'⟩:=hNN _ _ q7;obtain⟨t7,f7,d7,n7⟩:=back I7;exact⟨m',hm,i+1,ys,its,k,σ6,H7,I7.unpinned,t7,f7,rv,fun j v e=>Keep.get kp6 e,w'⟩
   |true=>
    rw[if_pos rfl]at q7 ⊢;refine bO (he _ _ _ _ _ s7 σ6 H7 _ I7 q7) fun y8 s8 zz=>?_;obtain⟨y,H8,I8,r8,q8⟩:=zz;obtain⟨m',hm,w'⟩:=hNN _ _ q8;obtain⟨t8,f8,d8,n8⟩:=back I8;refine append_at (D:=D) (its:=its.toArray) (n:=k) d8 (fun h' hs' hD'=>?_) (by rw[D9,<-rv.length];exact Fz hyl);have J0:Inv (az X scope N s2 H2 (D+1) fp) [] σ6 H8 s8:=I8.pins_of fun p hp=>by cases hp
    have J1:Inv (az X scope N s2 H2 (D+1) fp) [] σ6 H8 {s8 with heap:=h'}:=J0.turned (it:=D) (t':=s8.toks) (fun b o hb e=>(hs'.2 b hb).trans e) n8 (Dc<|EC _) (.inr hDs) cellsD fun p hp=>by
     have:p∈([]:List (Addr×Obj)):=hp;cases this
    refine⟨m',hm,i+1,ys++[y],its++[y8],k+1,σ6,H8,pinD J1 (by simpa using hD') n8,T.keep _ _ _ t8 fun b hb o e=>(hs'.2 b<|Dc<|fpD b hb).trans e,f8,rv.append<|.cons r8 .nil,fun j v e=>Keep.get kp6 e,w'⟩
 exact Iz loop<|Eu (T.self _ 0 _ _ _ (T.keep _ _ _ st2 fun b hb o e=>k34 b o<|k23 b o e) loop) (fun _ _ h=>h) fun _ _ h=>h
end
section
variable{X:Cx}{scope:FO}{N:List Str}{cap:List (Option Nat)}{tg iter elt:Expr}{ifs:List Expr}{pos:Pos}{wi:TI}{g:TG}{tf:TT}{te:TE}
theorem jG{pins:List (Addr×Obj)}{σ σ':St}{H2 H':Hp}{s2 s':CO}{fp:List Addr}{D C:Addr}{its:List CN}{k:Nat}{ys:List V}{h':Heap}(I2:Inv X pins σ H2 s2)(f2:∀b∈fp,FpOk X pins H2 b)
  (hD:s2.heap.objs.size<=D) (hC:s2.heap.objs.size<=C) (hDC:D≠C) (I':Inv (az X scope N s2 H2 C fp) [(D,dQ its k)] σ' H' s') (rv:Vals ys its) (hl:ys.length<=sizeLine) (hs:Dl C s'.heap h'):
  Inv X pins σ (cg H' D<|.lst ys) {s' with heap:=h'}:=by
 have pd:=I'.pin (D,dQ its k)<|Dw _ D0;have nD:H' D=none:=pd.2.1;have nC:H' C=none:=I'.free;have lt2:∀b o,s2.heap.get? b=some o->b≠D/\b≠C:=fun b o e=>⟨Dc<|CZ (D5 e) hD,Dc<|CZ (D5 e) hC⟩
 have hk:∀b o,b≠C->s'.heap.get? b=some o->h'.get? b=some o:=fun b o hb e=>(hs.2 b hb).trans e;have B:Un (frs X.stack) fp H2 H' s2.heap s'.heap:=I'.base;have tr:∀b u,H' b=some u->b≠D/\b≠C:=fun b u e=>⟨fun z=>(by rw[z,nD]at e;cases e),fun z=>(by rw[z,nC]at e;cases e)⟩
 refine I2.call' (ch:=fp) I'.os ⟨fun b o e n hb hx=>?_,fun b o e n hb hx=>?_,fun b o e n hx=>?_,fun b o e hx=>?_,fun b xs e=>?_,fun b o u e=>?_,fun b ps e=>?_⟩ (fun b u e=>?_) I'.bare fun b hb=>⟨(f2 b hb).2.2.2.1,(f2 b hb).2.1,(f2 b hb).2.2.2.2.1,(f2 b hb).2.2.2.2.2⟩
 ·exact hk b o (lt2 b o e).2 (B.keep b o e n hb hx)
 ·obtain⟨sl,q⟩:=B.slot b o e n hb hx;exact⟨sl,hk b _ (lt2 b o e).2 q⟩
 ·rw[ai (lt2 b o e).1];exact B.free b o e n hx
 ·obtain⟨o',q⟩:=B.there b o e hx;exact⟨o',hk b _ (lt2 b o e).2 q⟩
 ·rw[ai (tr b _<|B.tups b xs e).1];exact B.tups b xs e
 ·rw[ai (tr b _<|B.frzs b o u e).1];exact B.frzs b o u e
 ·obtain⟨more,q⟩:=B.tbls b ps e;exact⟨more,by rw[ai (tr b _ q).1];exact q⟩
 ·by_cases hb:b=D
  ·subst hb;rw[ak]at e;cases e;exact⟨hl,its,k,rv,hk _ _ hDC pd.1⟩
  ·rw[ai hb]at e;refine(I'.hok b u e).stay (fun c w' hc q=>hk c w' ?_ q) (fun c q=>by rw[ai (tr c _ q).1];exact q) fun c xs q=>by rw[ai (tr c _ q).1];exact q
   rcases hc with z|z;·rw[z];exact(tr b u e).2
   ·exact(tr c _ z).2
theorem gZ(S:CompScope X scope N cap):∀x∈scope.names,x.2=.local->scope.names.lookup x.1=some .local:=fun x hx hl=>df S.uniq (by rw[<-hl];exact hx)
theorem du(S:CompScope X scope N cap)(hc:X.calm=true)(hi:PI X tg iter wi)
  (hg:∀s H C fp,PG (az X scope N s H C fp) tg g) (hf:∀s H C fp,yi (az X scope N s H C fp) ifs tf) (he:∀s H C fp,PE (az X scope N s H C fp) elt te)
  (hs:∀x,foldedSetIterable iter X.env x=pure x:=by intro _;rfl):PE X (.ListComp elt [⟨tg,iter,ifs,0⟩] scope pos) (jE cap wi g tf te):=by
 intro pins s σ H Q I h;rw[Lc];have frc:∀x∈scope.names,x.2=.free->∃c,X.env.cells.lookup x.1=some c:=fun x hx hk=>I.ok.has x.1<|S.free x hx hk;refine Ge (use:=none) rfl hs (fj frc) S.kind (gZ S)<|bO (hi pins s σ H _ I h) fun v s1 h1=>bO h1 fun itv s2 h2=>?_;obtain⟨it,fp,tn,J,H2,rfl,I2,T,st2,f2,W,w0,turn⟩:=h2;refine kT (RR:=fun acc C=>compPost (model X.prog X.w) X.A X.xe none (EP X pins σ Q) acc C) S hc hg hf he I2 T st2 f2 w0 turn fun D C σ' H' s' its k ys hD hC hDC I' rv hl q=>?_;obtain⟨m,hn,_⟩:=I'.loc;exact⟨m,hn,fun h' hs'=>⟨.ref D,_,jG I2 f2 hD hC hDC I' rv hl hs',rfl,q⟩⟩
end
section
variable{X:Cx}{scope:FO}{N:List Str}{cap:List (Option Nat)}{tg iter elt:Expr}{ifs:List Expr}{pos spos py:Pos}{wi:TI}{g:TG}{tf:TT}{te:TE}{i:Nat}{y:Str}
theorem dW(hN:X.N.Nodup)(hi':X.N[i]? =some y)(hy:xR X.env.scope y)(S:CompScope X scope N cap)(hc:X.calm=true)(hi:PI X tg iter wi)
  (hg:∀s H C fp,PG (az X scope N s H C fp) tg g) (hf:∀s H C fp,yi (az X scope N s H C fp) ifs tf) (he:∀s H C fp,PE (az X scope N s H C fp) elt te)
  (hsw:swapsWith (.ListComp elt [⟨tg,iter,ifs,0⟩] scope pos) (some<|.Name y py) spos.line X.env=pure true:=by rfl)
  (hs:∀x,foldedSetIterable iter X.env x=pure x:=by intro _;rfl) (hfn:X.fn y=true\/X.env.scope.names.lookup y=some .local:=by first|exact .inl rfl|exact .inr rfl|assumption):
  PS X (.Assign [.Name y py] (.ListComp elt [⟨tg,iter,ifs,0⟩] scope pos) spos) (bS (jE cap wi g tf te)<|aF i):=by
 intro pins s σ H D I h;rw[exec_Assign_Name_used _ _ _ _ hsw];refine CI<|Jf<|CI ?_;show wpAny _ X.A (do let _ <-comprehension (.ListComp elt [⟨tg,iter,ifs,0⟩] scope pos) scope X.env _ (newList []) false (eval iter X.env) (some<|assign (.Name y py) X.env)) _ _ s;have frc:∀x∈scope.names,x.2=.free->∃c,X.env.cells.lookup x.1=some c:=fun x hx hk=>I.ok.has x.1<|S.free x hx hk;refine CI<|Eu (Ge (use:=some<|assign (.Name y py) X.env) (Q:=fun _ s'=>SP X pins D .next s') rfl hs (fj frc) S.kind (gZ S)<|bO (hi pins s σ H _ I h) fun v s1 h1=>bO h1 fun itv s2 h2=>?_) (fun _ s' hq=>CU<|CU hq) fun _ _ e=>e;obtain⟨it,fp,tn,J,H2,rfl,I2,T,st2,f2,W,w0,turn⟩:=h2;refine kT (Qv:=fun x H1=>aF i x σ H1 D.nx) (RR:=fun acc C=>compPost (model X.prog X.w) X.A X.xe (some<|assign (.Name y py) X.env) (fun _ s'=>SP X pins D .next s') acc C) S hc hg hf he I2 T st2 f2 w0 turn fun d C σ' H' s' its k ys hD hC hDC I' rv hl q=>?_;obtain⟨m,hn,_⟩:=I'.loc;have I3:Inv X pins σ (cg H' d<|.lst ys) s':=jG (h':=s'.heap) I2 f2 hD hC hDC I' rv hl<|.refl ..;have nC:(cg H' d<|.lst ys) C=none:=by rw[ai<|Ec hDC];exact I'.free
 have cL:C≠X.env.locals:=fun z=>absurd (CZ I2.lt hC) (by rw[z];exact DN _);have cc:∀x c,X.env.cells.lookup x=some c->c≠C:=fun x c e z=>by
  obtain⟨v,q⟩:=I2.cell x c e;exact absurd (CZ q.lt hC) (by rw[z];exact DN _)
 show wpAny _ X.A (assign (.Name y py) X.env<|.ref d) _ _ _;refine Jy<|kA (v:=.ref d) I3 hN hi' hy rfl (fun s4 I4⟨a,sb,ha⟩=>?_) hfn;have aC:C≠a:=by
  rcases ha with z|z;·rw[z];exact cL
  ·exact Ec<|cc _ _ z
 refine⟨m,hn.sameBut sb aC,fun h' hs'=>?_⟩;exact⟨_,_,I4.turned (it:=C) (t':=s4.toks) (fun b o hb e=>(hs'.2 b hb).trans e) nC cL (.inr<|EA I2.sz hC) cc (fun p hp z=>absurd (CZ (D5 (I2.pin p hp).1) hC) (by rw[z];exact DN _)),q⟩
end
inductive Src where
 |lst (a:Addr)|tup (a:Addr)|str (l:List Nat)
def Src.has(K:CL)(H:Hp):Src->List V->Prop
 | .lst a,xs=>SqL K H a xs
 | .tup a,xs=>SqT K H a xs
 | .str l,xs=>xs=l.map fun c=>GU<|sOf [c]
def Src.at(it:Addr)(i:Nat)(h:Heap):Src->Prop
 | .lst a=>h.IsListIter it a i
 | .tup a=>h.IsTupleIter it a i
 | .str l=>∃t,h.IsStrIter it "str_ascii_iterator" (sOf l) t i\/h.IsStrIter it "str_iterator" (sOf l) t i
def Src.val:Src->V
 | .lst a=>.ref a
 | .tup a=>.ref a
 | .str l=>.str<|sOf l
section
variable{P:Dg}{w:Dr}{A:Dy}{E:CN->CO->Prop}{s:CO}
theorem lI{j a:Addr}{k:Nat}{us:Array CN}{x:CN}{Q:CN->CO->Prop}(g:s.heap.IsTupleIter j a k)(ga:s.heap.IsTuple a us)(gx:us[k]? =some x)
  (q:∀h',h'.IsTupleIter j a (k+1)->Dl j s.heap h'->Q x {s with heap:=h'}):wpAny (model P w) A (Dm<|.ref j) Q E s:=by
 obtain⟨ob,e1,e2,e3⟩:=id g;obtain⟨ot,f1,_,nn,f3⟩:=ga;unfold Dm;refine CI<|DX (name:=CS "__next__") g.typeIs F4<|E8 F4 g.typeIs GC ?_<|Gu _;show wpAny (model P w) _ (field (.ref j) 0>>=_) _ _ s;refine CI<|Dx e1 e3 (x:=.ref a) rfl ?_;show wpAny (model P w) _ (if(D6 a==DC)=true then _ else _) _ _ s;rw[if_neg (show ¬((D6 a==DC)=true)from Dd)];show wpAny (model P w) _ (field (.ref j) 1>>=_) _ _ s;refine CI<|Dx e1 e3 (x:=.int k 0) rfl ?_;show wpAny (model P w) _ (seqItems? (.ref a)>>=_) _ _ s;refine CI<|DV f1 f3 ?_;simp only[EL,gx];refine CI (EM e1 e3 (by simp) (CU ⟨x,rfl,CU (q _ ⟨_,En _ e1<|F7<|Ey e3 _,(HS ..).trans e2,(by rw[Ey e3];simp[rawInt])⟩<|Fg ..)⟩))
theorem mH{j a:Addr}{k:Nat}{us:Array CN}{Q:CN->CO->Prop}(hh:A.handled=none)(g:s.heap.IsTupleIter j a k)(ga:s.heap.IsTuple a us)(gx:us[k]? =none)
  (q:∀h' e,Fn j s.heap h'->(∃o,h'.get? e=some o/\o.cls=.type "StopIteration")->E (.ref e) {s with heap:=h'}):wpAny (model P w) A (Dm<|.ref j) Q E s:=by
 obtain⟨ob,e1,e2,e3⟩:=id g;obtain⟨ot,f1,_,nn,f3⟩:=ga;unfold Dm;refine CI<|DX (name:=CS "__next__") g.typeIs F4<|E8 F4 g.typeIs GC ?_<|Gu _;show wpAny (model P w) _ (field (.ref j) 0>>=_) _ _ s;refine CI<|Dx e1 e3 (x:=.ref a) rfl ?_;show wpAny (model P w) _ (if(D6 a==DC)=true then _ else _) _ _ s;rw[if_neg (show ¬((D6 a==DC)=true)from Dd)];show wpAny (model P w) _ (field (.ref j) 1>>=_) _ _ s;refine CI<|Dx e1 e3 (x:=.int k 0) rfl ?_;show wpAny (model P w) _ (seqItems? (.ref a)>>=_) _ _ s;refine CI<|DV f1 f3 ?_;simp only[EL,gx];refine CI (GV (CI (EM e1 e3 (by simp) ?_)));show wpAny (model P w) _ (newExc (.type "StopIteration") []>>=_) _ _ _;refine CI ?_;simp only[newExc,newTuple];refine CI (Ep (CI (m:=firstArgMember _ _) (K7 (a:=DC) (by first|rfl|(simp only[firstArgMember];rfl)) (Ep ?_ (by size_fits)))) (by size_fits));simp only[raiseNew];refine CI<|Jg ?_
 first|rw[show A.in1.handled=none from hh]|rw[hh]
 exact CI<|CU<|K8<|q _ _ (((Fg ..).extBut.push _).push _) ⟨_,CY _ rfl,rfl⟩
theorem su(hh:A.handled=none)(j a:Addr)(ne:a≠j)(us:Array CN):IF P w A j [j,a] us.size (fun k v=>us[k]? =some v) (fun k h=>h.IsTupleIter j a k/\h.IsTuple a us) where
 live:=fun _ _ st=>by obtain⟨⟨o,e,_⟩,_⟩:=st;exact⟨o,e⟩
 frame:=fun _ _ _ st hk=>⟨st.1.at fun o e=>hk j (by simp) o e,by obtain⟨o,e,r⟩:=st.2;exact⟨o,hk a (by simp) o e,r⟩⟩
 item:=fun k s Q E hk st q=>lI st.1 st.2 (x:=us[k]) (by simp[hk]) fun h' g' sb=>q _ h' s.toks (by simp[hk]) ⟨g',by obtain⟨o,e,r⟩:=st.2;exact⟨o,(sb.2 a ne).trans e,r⟩⟩ sb
 done:=fun s Q E st q=>mH hh st.1 st.2 (by simp) q
theorem Src.draws{X:Cx}{pins:List (Addr×Obj)}{σ:St}{H:Hp}{s0:CO}{c:Src}{xs:List V}{it:Addr}{i:Nat}(hh:A.handled=none)(I:Inv X pins σ H s0)(hs:c.has X.K H xs)(ht:c.at it i s0.heap)(hit:H it=none):
  ∃(fp:List Addr)(Pt:Nat->CN->Prop)(St:Nat->Heap->Prop),IF X.prog X.w A it fp xs.length Pt St/\St i s0.heap/\(∀k v,Pt k v-> ∃x,xs[k]? =some x/\RelV x v)/\(∀k h,St k h->c.at it k h)/\it∈fp/\
   ∀b∈fp,b=it\/H b≠none\/∃o,X.base.get? b=some o:=by
 cases c with
 |lst a=>
  obtain⟨its,rv,p,hz⟩:=I.list hs;have ne:a≠it:=fun z=>by
   obtain⟨o,e,c1,_⟩:=(show s0.heap.IsListIter it a i from ht)
   obtain⟨o2,e2,c2,_⟩:=p.isList;rw[z,e]at e2;cases e2;rw[c1]at c2;exact absurd c2 (by decide)
  have dr:=Draws.list (prog:=X.prog) (w:=X.w) hh it a ne its.toArray;rw[D9,<-rv.length]at dr;refine⟨_,_,_,dr,⟨ht,p.isList⟩,fun k v e=>?_,fun k h st=>st.1,by simp,fun b hb=>?_⟩
  ·have e:its[k]? =some v:=by simpa using e
   have hk:k<xs.length:=by rw[rv.length];exact(CP.mp e).1
   obtain⟨u,hu,ru⟩:=rv.get (i:=k) (x:=xs[k]) (by simp[hk]);rw[e]at hu;cases hu;exact⟨_,by simp[hk],ru⟩
  ·rcases D7.mp hb with z | z;·exact .inl z
   ·have z:b=a:=by simpa using z
    subst z;rcases (show SqL X.K H b xs from hs)with(z|⟨o,z⟩)|⟨o,_,_,z,_⟩
    ·exact .inr (.inl (by rw[z];simp))
    ·exact .inr (.inl (by rw[z];simp))
    ·exact .inr<|.inr ⟨_,I.mod.kin _ _ z⟩
 |tup a=>
  obtain⟨its,rv,p,hz⟩:=I.tuple hs;have p:s0.heap.IsTuple a its.toArray:=p;have ne:a≠it:=fun z=>by
   obtain⟨o,e,c1,_⟩:=(show s0.heap.IsTupleIter it a i from ht)
   obtain⟨o2,e2,c2,_⟩:=id p;rw[z,e]at e2;cases e2;rw[c1]at c2;exact absurd c2 (by decide)
  have dr:=su (P:=X.prog) (w:=X.w) hh it a ne its.toArray;rw[D9,<-rv.length]at dr;refine⟨_,_,_,dr,⟨ht,p⟩,fun k v e=>?_,fun k h st=>st.1,by simp,fun b hb=>?_⟩
  ·have e:its[k]? =some v:=by simpa using e
   have hk:k<xs.length:=by rw[rv.length];exact(CP.mp e).1
   obtain⟨u,hu,ru⟩:=rv.get (i:=k) (x:=xs[k]) (by simp[hk]);rw[e]at hu;cases hu;exact⟨_,by simp[hk],ru⟩
  ·rcases D7.mp hb with z | z;·exact .inl z
   ·have z:b=a:=by simpa using z
    subst z;rcases (show SqT X.K H b xs from hs)with(z|⟨o,z⟩)|⟨o,_,_,z,_⟩
    ·exact .inr (.inl (by rw[z];simp))
    ·exact .inr (.inl (by rw[z];simp))
    ·exact .inr<|.inr ⟨_,I.mod.kin _ _ z⟩
 |str l=>
  have hs:xs=l.map fun c=>GU (sOf [c]):=hs;obtain⟨t,ht⟩:=(show ∃t,s0.heap.IsStrIter it "str_ascii_iterator" (sOf l) t i\/s0.heap.IsStrIter it "str_iterator" (sOf l) t i from ht)
  have hn:(sOf l).cps.size=xs.length:=by rw[hs];simp[sOf]
  have sg:∀(k:Nat)(v:CN),(∃c u,(sOf l).cps[k]? =some c/\v=.str ⟨#[c]⟩ u)->∃x,xs[k]? =some x/\RelV x v:=fun k v⟨c,u,e,ev⟩=>by
   have e:l[k]? =some c:=by simpa [sOf] using e
   exact⟨.str<|sOf [c],by rw[hs];simp[e],⟨u,ev⟩⟩
  rcases ht with ht|ht;·exact⟨_,_,_,hn▸Draws.strAscii hh it (sOf l) t,ht,sg,fun k h st=>⟨t,.inl st⟩,by simp,fun b hb=>.inl (by simpa using hb)⟩
  ·exact⟨_,_,_,hn▸Draws.strWide hh it (sOf l) t,ht,sg,fun k h st=>⟨t,.inr st⟩,by simp,fun b hb=>.inl (by simpa using hb)⟩
end
def eS(v:CN)(h:Heap)(o:Obj):Prop:=∀(prog:Dg)(w:Dr)(A:Dy)(E:CN->CO->Prop)(Q:CN->CO->Prop)(s:CO),s.heap=h->Q (.ref h.objs.size) {s with heap:=h.push o}->wpAny (model prog w) A (pyIter v) Q E s
def zL(h:Heap)(o1 o2:Obj):Heap:=((h.push o1).push o2).push {cls:=.type "tuple",data:=.seq #[.ref h.objs.size,.ref (h.push o1).objs.size]}
def zM(h:Heap)(o1 o2:Obj):Heap:=(zL h o1 o2).push {cls:=.type "tuple",data:=.seq #[.none,.none]}
def zj(h:Heap)(o1 o2:Obj):Heap:=(zM h o1 o2).push {cls:=.type "zip",data:=.fields #[.none,.bool false,.bool false,.ref ((h.push o1).push o2).objs.size,.ref (zL h o1 o2).objs.size]}
theorem lJ(v1 v2:CN)(o1 o2:Obj):Meets (JK.«zip.__new__» ⟨[.type "zip",v1,v2],[]⟩) (fun _ R s=>eS v1 s.heap o1/\eS v2 (s.heap.push o1) o2/\R (.ok<|.ret<|.ref (zM s.heap o1 o2).objs.size) {s with heap:=zj s.heap o1 o2}):=
 .of_wp fun prog w A R s h=>by
  obtain⟨hp,g,d,tk,os⟩:=s;obtain⟨i1,i2,h⟩:=h;have hsub:=sub_zip;have j1:=fun(A:Dy)(E:CN->CO->Prop)(Q:CN->CO->Prop)(q:Q _ _)=>i1 prog w A E Q ⟨hp,g,d,tk,os⟩ rfl q;have j2:=fun(A:Dy)(E:CN->CO->Prop)(Q:CN->CO->Prop)(q:Q _ _)=>i2 prog w A E Q ⟨hp.push o1,g,d,tk,os⟩ rfl q
  wp_walk using j1 _ _ _,j2 _ _ _
  exact⟨_,rfl,h⟩
theorem qo{P:Dg}{w:Dr}{A:Dy}{E:CN->CO->Prop}{s:CO}{v1 v2:CN}{o1 o2:Obj}{Q:CN->CO->Prop}(i1:eS v1 s.heap o1)(i2:eS v2 (s.heap.push o1) o2)
  (f1:o1.isFreed=false) (f2:o2.isFreed=false)
  (q:∀h',FP h' (s.heap.objs.size+4) (s.heap.objs.size+2) (s.heap.objs.size+3) .none->Gv h' (s.heap.objs.size+2) (.ref s.heap.objs.size) (.ref<|s.heap.objs.size+1)->Gv h' (s.heap.objs.size+3) .none .none->
   h'.get? s.heap.objs.size=some o1->h'.get? (s.heap.objs.size+1)=some o2->(∀c o,s.heap.get? c=some o->h'.get? c=some o)->Q (.ref (s.heap.objs.size+4)) {s with heap:=h'}):
  wpAny (model P w) A (call (.type "zip") [v1,v2]) Q E s:=by
 refine callType_new Jq (by decide) (PySem.F.typeCall_zip_2 _ _) (PySem.F.newCall_zip_2 _ _) (fun obj=>PySem.F.args_object_init_3 obj _ _) IS (lJ v1 v2 o1 o2) ⟨i1,i2,?_⟩;have z1:(s.heap.push o1).objs.size=s.heap.objs.size+1:=DG ..;have z2:((s.heap.push o1).push o2).objs.size=s.heap.objs.size+2:=by rw[DG,z1]
 have z3:(zL s.heap o1 o2).objs.size=s.heap.objs.size+3:=by unfold zL;rw[DG,z2]
 have z4:(zM s.heap o1 o2).objs.size=s.heap.objs.size+4:=by unfold zM;rw[DG,z3]
 have g5:(zj s.heap o1 o2).get? (zM s.heap o1 o2).objs.size=some _:=CY _ rfl;have g4:(zj s.heap o1 o2).get? (zL s.heap o1 o2).objs.size=some _:=CM _<|CY _ rfl;have g3:(zj s.heap o1 o2).get? ((s.heap.push o1).push o2).objs.size=some _:=CM _<|CM _<|CY _ rfl;have g2:(zj s.heap o1 o2).get? (s.heap.push o1).objs.size=some o2:=CM _<|CM _<|CM _<|CY _ f2;have g1:(zj s.heap o1 o2).get? s.heap.objs.size=some o1:=CM _<|CM _<|CM _<|CM _<|CY _ f1;show _/\_;rw[z2,z3,z4]at g5;rw[z1,z2]at g3;rw[z3]at g4;rw[z1]at g2;rw[z4];exact⟨⟨_,g5,rfl⟩,q _ g5 g3 g4 g1 g2 fun c o x=>CM _<|CM _<|CM _<|CM _<|CM _ x⟩
theorem Src.iter{X:Cx}{pins:List (Addr×Obj)}{σ:St}{H:Hp}{s:CO}{c:Src}{xs:List V}{v:CN}{h:Heap}(I:Inv X pins σ H s)(hs:c.has X.K H xs)(rv:RelV c.val v)(k:∀b o,s.heap.get? b=some o->h.get? b=some o):
  ∃o,eS v h o/\o.isFreed=false/\(∀h':Heap,h'.get? h.objs.size=some o->c.at h.objs.size 0 h'):=by
 cases c with
 |lst a=>
  obtain⟨its,r,p,hz⟩:=I.list hs;cases (show v=.ref a from rv);obtain⟨o,e,r2⟩:=p.isList;refine⟨{cls:=.type "list_iterator",data:=.fields #[.ref a,.int 0 0]},fun prog w A E Q s' e' q=>?_,rfl,fun h' e'=>⟨_,e',rfl,rfl⟩⟩;subst e';exact G2 ⟨o,k a o e,r2⟩ q
 |tup a=>
  obtain⟨its,r,p,hz⟩:=I.tuple hs;cases (show v=.ref a from rv);obtain⟨o,e,r2⟩:=p;refine⟨{cls:=.type "tuple_iterator",data:=.fields #[.ref a,.int 0 0]},fun prog w A E Q s' e' q=>?_,rfl,fun h' e'=>⟨_,e',rfl,rfl⟩⟩;subst e';exact wpAny_pyIter_tuple ⟨o,k a o e,r2⟩ q
 |str l=>
  obtain⟨t,rfl⟩:=(show ∃t,v=.str (sOf l) t from rv)
  cases ha:(sOf l).cps.all (· <128);·exact⟨{cls:=.type "str_iterator",data:=.fields #[.str (sOf l) t,.int 0 0]},fun prog w A E Q s' e' q=>by subst e';exact JI ha q,rfl,fun h' e'=>⟨t,.inr ⟨_,e',rfl,rfl⟩⟩⟩
  ·exact⟨{cls:=.type "str_ascii_iterator",data:=.fields #[.str (sOf l) t,.int 0 0]},fun prog w A E Q s' e' q=>by subst e';exact Jo ha q,rfl,fun h' e'=>⟨t,.inl ⟨_,e',rfl,rfl⟩⟩⟩
section
variable{P:Dg}{w:Dr}{A:Dy}{E:CN->CO->Prop}{s:CO}{z TI TO i1 i2:Addr}{fp1 fp2:List Addr}{n1 n2 k:Nat}{P1 P2:Nat->CN->Prop}{S1 S2:Nat->Heap->Prop}{a b:CN}
structure ZApart(z TI TO i1 i2:Addr)(fp1 fp2:List Addr):Prop where
 c1:TI≠z
 c2:TO≠z
 c3:i1≠z
 c4:i2≠z
 c5:TI≠TO
 c6:TI≠i1
 c7:TI≠i2
 c8:TO≠i1
 c9:TO≠i2
 d1:z∉fp1/\TO∉fp1/\i2∉fp1
 d2:z∉fp2/\TO∉fp2/\i1∉fp2
theorem ar{n:Nat}{it:Addr}{fp:List Addr}{Pt:Nat->CN->Prop}{S:Nat->Heap->Prop}(D:IF P w A it fp n Pt S){j:Nat}{h h':Heap}{c:Addr}(st:S j h)(sb:Dl c h h')(hc:c∉fp):S j h':=
 D.frame _ _ _ st fun b hb o e=>(sb.2 b fun q=>hc<|q▸hb).trans e
theorem qp{Q:Option CN->CO->Prop}(D1:IF P w A.in1 i1 fp1 n1 P1 S1)(D2:IF P w A.in1 i2 fp2 n2 P2 S2)(Z:ZApart z TI TO i1 i2 fp1 fp2)(h1:k<n1)(h2:k<n2)(hz:FP s.heap z TI TO .none)
  (hI:Gv s.heap TI (.ref i1) (.ref i2)) (hO:Gv s.heap TO a b) (t1:S1 k s.heap) (t2:S2 k s.heap)
  (q:∀x y h' tk T,P1 k x->P2 k y->T=s.heap.objs.size->FP h' z TI TO (rawInt T)->Gv h' TO x y->S1 (k+1) h'->S2 (k+1) h'->Gv h' T x y->
   (∀c o,c≠z->c≠TO->c≠i1->c≠i2->s.heap.get? c=some o->h'.get? c=some o)->Q (some (.ref T)) {s with heap:=h',toks:=tk}):
  wpAny (model P w) A (pyNext<|.ref z) Q E s:=by
 have hT:s.TypeIs (.ref z) "zip":=⟨_,hz,rfl⟩
 unfold pyNext;refine CI<|F9<|DX (name:=CS "__next__") hT Eo<|E8 Eo hT FV ?_<|FJ _;obtain⟨hp,gg,dd,tk0,os⟩:=s;show wpAny (model P w) _ (field (.ref z) 2>>=_) _ _ _;refine CI<|Dx hz rfl (x:=.bool false) rfl ?_;show wpAny (model P w) _ (field (.ref z) 3>>=_) _ _ _;refine CI<|Dx hz rfl (x:=.ref TI) rfl<|CI<|DV hI rfl ?_;show wpAny (model P w) _ (DE (.ref z)>>=_) _ _ _;refine CI ?_;unfold DE;refine CI<|Dx hz rfl (x:=.none) rfl<|CU ?_;simp only[if_true];refine CI (GV (CI (Dx hz rfl (x:=.ref TO) rfl (CI (DY hz (by simp) fun g1 y1 b1=>?_)))));replace y1:FP g1 z TI TO .ellipsis:=y1;replace b1:Dl z hp g1:=b1;refine CI ?_;simp only[GW,Hq,Gi,GJ];refine CI<|CI<|Fb ?_;show wpAny (model P w) _ (Dm (.ref i1)>>=_) _ _ _;refine CI<|D1.item k _ _ _ h1 (ar D1 t1 b1 Z.d1.1) fun x g2 tk2 px u1 b2=>CU ?_;replace b2:Dl i1 g1 g2:=b2;have O2:Gv g2 TO a b:=b2.extBut _ _ Z.c8<|b1.extBut _ _ Z.c2 hO;refine CI<|DV O2 rfl<|CI<|Hg O2 fun g3 O3 b3=>?_;replace O3:Gv g3 TO x b:=O3;replace b3:Dl TO g2 g3:=b3;refine CI<|G4<|CU<|CI<|CI<|Fb ?_;show wpAny (model P w) _ (Dm (.ref i2)>>=_) _ _ _;refine CI<|D2.item k _ _ _ h2 (ar D2 (ar D2 (ar D2 t2 b1 Z.d2.1) b2 Z.d2.2.2) b3 Z.d2.2.1) fun y g4 tk4 py u2 b4=>CU ?_;replace b4:Dl i2 g3 g4:=b4;have O4:Gv g4 TO x b:=b4.extBut _ _ Z.c9 O3;refine CI<|DV O4 rfl<|CI<|Hg O4 fun g5 O5 b5=>?_;replace O5:Gv g5 TO x y:=O5;replace b5:Dl TO g4 g5:=b5;refine CI<|G4<|CU<|CU<|CI<|DV O5 rfl<|CI<|Kt ?_;have sz:g5.objs.size=hp.objs.size:=by rw[b5.1,b4.1,b3.1,b2.1,b1.1]
 have y5:FP g5 z TI TO .ellipsis:=b5.extBut _ _ Z.c2.symm<|b4.extBut _ _ Z.c4.symm<|b3.extBut _ _ Z.c2.symm<|b2.extBut _ _ Z.c3.symm y1;have k5:∀c o,c≠z->c≠TO->c≠i1->c≠i2->hp.get? c=some o->g5.get? c=some o:=fun c o e1 e2 e3 e4 e=>b5.extBut _ _ e2<|b4.extBut _ _ e4<|b3.extBut _ _ e2<|b2.extBut _ _ e3<|b1.extBut _ _ e1 e;have v1:S1 (k+1) g5:=ar D1 (ar D1 (ar D1 u1 b3 Z.d1.2.1) b4 Z.d1.2.2) b5 Z.d1.2.1;have v2:S2 (k+1) g5:=ar D2 u2 b5 Z.d2.2.1;have lz:z<g5.objs.size:=D5 y5;show wpAny (model P w) _ (EI (.ref z) (.ref g5.objs.size)>>=_) _ _ _;refine CI ?_;unfold EI;have y6:FP (g5.push {cls:=.type "tuple",data:=.seq #[x,y]}) z TI TO .ellipsis:=CM _ y5;refine CI (DY y6 (by simp) fun g7 y7 b7=>?_);replace y7:FP g7 z TI TO (rawInt g5.objs.size):=y7;replace b7:Dl z (g5.push {cls:=.type "tuple",data:=.seq #[x,y]}) g7:=b7;refine DY y7 (by simp) fun g8 y8 b8=>?_;replace y8:FP g8 z TI TO (rawInt g5.objs.size):=y8;replace b8:Dl z g7 g8:=b8;have up:∀c o,c≠z->g5.get? c=some o->g8.get? c=some o:=fun c o e1 e=>b8.extBut _ _ e1<|b7.extBut _ _ e1<|CM _ e;have T8:Gv g8 g5.objs.size x y:=b8.extBut _ _ (EZ lz)<|b7.extBut _ _ (EZ lz)<|CY _ rfl;refine CU ⟨_,rfl,CU<|q x y g8 _ g5.objs.size px py sz y8 (up _ _ Z.c2 O5) (D1.frame _ _ _ v1 fun b hb o e=>up b o (fun q=>Z.d1.1<|q▸hb) e) (D2.frame _ _ _ v2 fun b hb o e=>up b o (fun q=>Z.d2.1<|q▸hb) e) T8 fun c o e1 e2 e3 e4 e=>up c o e1<|k5 c o e1 e2 e3 e4 e⟩
theorem sv{Q:Option CN->CO->Prop}(hh:A.handled=none)(D1:IF P w A.in1 i1 fp1 n1 P1 S1)(D2:IF P w A.in1 i2 fp2 n2 P2 S2)(Z:ZApart z TI TO i1 i2 fp1 fp2)(hk:k=n1\/(k<n1/\k=n2))(hz:FP s.heap z TI TO .none)
  (hI:Gv s.heap TI (.ref i1) (.ref i2)) (hO:Gv s.heap TO a b) (t1:S1 k s.heap) (t2:S2 k s.heap)
  (q:∀h' tk,(∀c o,c≠z->c≠TO->c≠i1->c≠i2->s.heap.get? c=some o->h'.get? c=some o)->Q none {s with heap:=h',toks:=tk}):
  wpAny (model P w) A (pyNext<|.ref z) Q E s:=by
 have hT:s.TypeIs (.ref z) "zip":=⟨_,hz,rfl⟩
 unfold pyNext;refine CI<|F9<|DX (name:=CS "__next__") hT Eo<|E8 Eo hT FV ?_<|FJ _;obtain⟨hp,gg,dd,tk0,os⟩:=s;show wpAny (model P w) _ (field (.ref z) 2>>=_) _ _ _;refine CI<|Dx hz rfl (x:=.bool false) rfl ?_;show wpAny (model P w) _ (field (.ref z) 3>>=_) _ _ _;refine CI<|Dx hz rfl (x:=.ref TI) rfl<|CI<|DV hI rfl ?_;show wpAny (model P w) _ (DE (.ref z)>>=_) _ _ _;refine CI ?_;unfold DE;refine CI<|Dx hz rfl (x:=.none) rfl<|CU ?_;simp only[if_true];refine CI (GV (CI (Dx hz rfl (x:=.ref TO) rfl (CI (DY hz (by simp) fun g1 y1 b1=>?_)))));replace y1:FP g1 z TI TO .ellipsis:=y1;replace b1:Dl z hp g1:=b1;refine CI ?_;simp only[GW,Hq,Gi,GJ];refine CI<|CI<|Fb ?_;show wpAny (model P w) _ (Dm (.ref i1)>>=_) _ _ _;rcases hk with hk|⟨hk1,hk2⟩
 ·subst hk;refine CI<|D1.done _ _ _ (ar D1 t1 b1 Z.d1.1) fun g2 e b2 he=>?_;obtain⟨oe,hoe,hce⟩:=he;replace b2:Fn i1 g1 g2:=b2;have y2:FP g2 z TI TO .ellipsis:=b2 _ _ Z.c3.symm y1;have ez:e≠z:=fun x=>by subst x;rw[y2]at hoe;cases hoe;simp at hce
  refine DY y2 (by simp) fun g3 _ b3=>?_;exact CI<|F8 (T:="StopIteration") (b:=true) ⟨oe,b3.extBut _ _ ez hoe,hce⟩ Fq<|CU<|q g3 _ fun c o e1 _ e3 _ x=>b3.extBut _ _ e1<|b2 _ _ e3<|b1.extBut _ _ e1 x
 ·subst hk2;refine CI<|D1.item k _ _ _ hk1 (ar D1 t1 b1 Z.d1.1) fun x g2 tk2 px u1 b2=>CU ?_;replace b2:Dl i1 g1 g2:=b2;have O2:Gv g2 TO a b:=b2.extBut _ _ Z.c8<|b1.extBut _ _ Z.c2 hO;refine CI<|DV O2 rfl<|CI<|Hg O2 fun g3 O3 b3=>?_;replace b3:Dl TO g2 g3:=b3;refine CI<|G4<|CU<|CI<|CI<|Fb ?_;show wpAny (model P w) _ (Dm (.ref i2)>>=_) _ _ _;refine CI<|D2.done _ _ _ (ar D2 (ar D2 (ar D2 t2 b1 Z.d2.1) b2 Z.d2.2.2) b3 Z.d2.2.1) fun g4 e b4 he=>?_;obtain⟨oe,hoe,hce⟩:=he;replace b4:Fn i2 g3 g4:=b4;have y4:FP g4 z TI TO .ellipsis:=b4 _ _ Z.c4.symm<|b3.extBut _ _ Z.c2.symm<|b2.extBut _ _ Z.c3.symm y1;have ez:e≠z:=fun x=>by subst x;rw[y4]at hoe;cases hoe;simp at hce
  refine DY y4 (by simp) fun g5 _ b5=>?_;exact CI<|F8 (T:="StopIteration") (b:=true) ⟨oe,b5.extBut _ _ ez hoe,hce⟩ Fq<|CU<|q g5 _ fun c o e1 e2 e3 e4 x=>b5.extBut _ _ e1<|b4 _ _ e4<|b3.extBut _ _ e2<|b2.extBut _ _ e3<|b1.extBut _ _ e1 x
end
def zN(K:CL)(c1 c2:Src):It:=
  ⟨fun i H=>∃xs ys x y,c1.has K H xs/\c2.has K H ys/\xs[i]? =some x/\ys[i]? =some y,
   fun i H v H'=>∃p x y,H p=none/\v=.ref p/\(∀xs,c1.has K H xs->xs[i]? =some x)/\(∀ys,c2.has K H ys->ys[i]? =some y)/\H'=cg H p (.tup [x,y]),
   fun i H=>∃xs ys,c1.has K H xs/\c2.has K H ys/\(i=xs.length\/(i<xs.length/\i=ys.length))⟩
theorem Src.inj{X:Cx}{pins:List (Addr×Obj)}{σ:St}{H:Hp}{s:CO}{c:Src}{xs ys:List V}(I:Inv X pins σ H s)(h1:c.has X.K H xs)(h2:c.has X.K H ys):xs=ys:=by
 cases c with
 |lst a=>exact I.list_inj h1 h2
 |tup a=>exact I.tuple_inj h1 h2
 |str l=>exact Eq.trans h1<|Eq.symm h2
theorem Src.at_keep{c:Src}{it:Addr}{i:Nat}{h h':Heap}(st:c.at it i h)(k:∀o,h.get? it=some o->h'.get? it=some o):c.at it i h':=by
 cases c with
 |lst a=>obtain⟨o,e,r⟩:=st;exact⟨o,k o e,r⟩
 |tup a=>obtain⟨o,e,r⟩:=st;exact⟨o,k o e,r⟩
 |str l=>
  obtain⟨t,st⟩:=st;rcases st with⟨o,e,r⟩|⟨o,e,r⟩
  ·exact⟨t,.inl ⟨o,k o e,r⟩⟩
  ·exact⟨t,.inr ⟨o,k o e,r⟩⟩
theorem Src.at_obj{c:Src}{it:Addr}{i:Nat}{h:Heap}(st:c.at it i h):∃o,h.get? it=some o/\∃vs,o.data=.fields vs:=by
 cases c with
 |lst a=>obtain⟨o,e,_,r⟩:=st;exact⟨o,e,_,r⟩
 |tup a=>obtain⟨o,e,_,r⟩:=st;exact⟨o,e,_,r⟩
 |str l=>
  obtain⟨t,st⟩:=st;rcases st with⟨o,e,_,r⟩|⟨o,e,_,r⟩
  ·exact⟨o,e,_,r⟩
  ·exact⟨o,e,_,r⟩
def BV(c1 c2:Src)(z TI TO i1 i2:Addr)(i:Nat)(h:Heap):Prop:=FP h z TI TO .none/\Gv h TI (.ref i1) (.ref i2)/\(∃a b,Gv h TO a b)/\c1.at i1 i h/\c2.at i2 i h
structure ZIds(z TI TO i1 i2:Addr):Prop where
 c1:TI≠z
 c2:TO≠z
 c3:i1≠z
 c4:i2≠z
 c5:TI≠TO
 c6:TI≠i1
 c7:TI≠i2
 c8:TO≠i1
 c9:TO≠i2
 c10:i1≠i2
theorem sy{X:Cx}{pins:List (Addr×Obj)}{σ:St}{H:Hp}{s:CO}{z TI TO i1 i2:Addr}{fp1 fp2:List Addr}(I:Inv X pins σ H s)(Z:ZIds z TI TO i1 i2)(hf:∀b∈[z,TI,TO,i1,i2],FpOk X pins H b)
  (g1:∀b∈fp1,b=i1\/H b≠none\/∃o,X.base.get? b=some o) (g2:∀b∈fp2,b=i2\/H b≠none\/∃o,X.base.get? b=some o):ZApart z TI TO i1 i2 fp1 fp2:=by
 have no:∀b∈[z,TI,TO,i1,i2],¬(H b≠none\/∃o,X.base.get? b=some o):=fun b hb q=>by
  rcases q with q|⟨o,q⟩
  ·exact q (hf b hb).1
  ·rcases (hf b hb).2.2.2.1 with y | y;·exact I.ok.noex b o q y
   ·exact absurd (CZ (CZ (D5 q) I.ok.bsz) y)<|DN _
 refine⟨Z.c1,Z.c2,Z.c3,Z.c4,Z.c5,Z.c6,Z.c7,Z.c8,Z.c9,⟨fun m=>?_,fun m=>?_,fun m=>?_⟩,⟨fun m=>?_,fun m=>?_,fun m=>?_⟩⟩;·exact(g1 _ m).elim (fun e=>Z.c3 e.symm) (no z (by simp))
 ·exact(g1 _ m).elim (fun e=>Z.c8 e) (no TO (by simp))
 ·exact(g1 _ m).elim (fun e=>Z.c10 e.symm) (no i2 (by simp))
 ·exact(g2 _ m).elim (fun e=>Z.c4 e.symm) (no z (by simp))
 ·exact(g2 _ m).elim (fun e=>Z.c9 e) (no TO (by simp))
 ·exact(g2 _ m).elim (fun e=>Z.c10 e) (no i1 (by simp))
theorem sA{P:Dg}{w:Dr}{K:CL}{elts:List Expr}{kk:Nat}{tp:Pos}(c1 c2:Src)(z TI TO i1 i2:Addr)(Z:ZIds z TI TO i1 i2):
  Turn P w K (.Tuple elts kk tp) (zN K c1 c2) [z,TI,TO,i1,i2] z (BV c1 c2 z TI TO i1 i2) where
 mem:=by simp
 obj:=fun i h st b hb=>by
  obtain⟨hz,hI,⟨a,b',hO⟩,t1,t2⟩:=st;obtain⟨o1,e1,v1,d1⟩:=Src.at_obj t1;obtain⟨o2,e2,v2,d2⟩:=Src.at_obj t2;simp only[D7,E6,or_false]at hb;rcases hb with rfl|rfl|rfl|rfl|rfl;·exact⟨_,hz,fun v q=>by cases (show HQ _=G0 v from q)⟩
  ·exact⟨_,hI,fun v q=>by cases (show Ib _ _=G0 v from q)⟩
  ·exact⟨_,hO,fun v q=>by cases (show Ib _ _=G0 v from q)⟩
  ·exact⟨_,e1,fun v q=>by rw[d1]at q;cases q⟩
  ·exact⟨_,e2,fun v q=>by rw[d2]at q;cases q⟩
 keep:=fun i h h' st k=>by
  obtain⟨hz,hI,⟨a,b',hO⟩,t1,t2⟩:=st;exact⟨k z (by simp) _ hz,k TI (by simp) _ hI,⟨a,b',k TO (by simp) _ hO⟩,Src.at_keep t1 (k i1 (by simp)),Src.at_keep t2 (k i2 (by simp))⟩
 item:=by
  intro X hP hw hK hc i pins s σ H E I hf st hg;subst hP hw hK;obtain⟨xs,ys,x,y,hx,hy,ex,ey⟩:=hg;obtain⟨hz,hI,⟨a,b',hO⟩,t1,t2⟩:=st;have hh:X.A.in1.handled=none:=I.ok.hd hc;obtain⟨fp1,P1,S1,D1,u1,r1,a1,_,g1⟩:=Src.draws (A:=X.A.in1) hh I hx t1 (hf i1 (by simp)).1;obtain⟨fp2,P2,S2,D2,u2,r2,a2,_,g2⟩:=Src.draws (A:=X.A.in1) hh I hy t2 (hf i2 (by simp)).1;have ZA:=sy I Z hf g1 g2;refine qp D1 D2 ZA (CP.mp ex).1 (CP.mp ey).1 hz hI hO u1 u2 fun vx vy h' tk T px py hT hz' hO' w1 w2 hTp kp=>?_;obtain⟨x',ex',rx⟩:=r1 i vx px;obtain⟨y',ey',ry⟩:=r2 i vy py;rw[ex]at ex';cases ex';rw[ey]at ey';cases ey';have nT:H T=none:=by rw[hT];exact I.hok.fresh<|D8 _
  refine⟨_,rfl,HK hz' fun h2 hz2 sb=>?_⟩;have lt:∀{c o},s.heap.get? c=some o->c≠T:=fun e=>by rw[hT];exact Dc<|D5 e
  have up:∀c o,c≠z->h'.get? c=some o->h2.get? c=some o:=fun c o hc e=>(sb.2 c hc).trans e;have kp2:∀b o,b∉[z,TO,i1,i2]->s.heap.get? b=some o->h2.get? b=some o:=fun b o hb e=>by
   simp only[D7,E6,or_false,not_or]at hb;exact up b o hb.1<|kp b o hb.1 hb.2.1 hb.2.2.1 hb.2.2.2 e
  have ch:∀b∈[z,TO,i1,i2],b∈[z,TI,TO,i1,i2]:=fun b hb=>by
   simp only[D7,E6,or_false]at hb ⊢;rcases hb with h|h|h|h<;>simp[h]
  have gE:∀b u,H b=some u->b∉[z,TO,i1,i2]/\b≠T:=fun b u e=>⟨fun hb=>(by rw[(hf b<|ch b hb).1]at e;cases e),fun q=>(by rw[q,nT]at e;cases e)⟩
  have I2:Inv X pins σ (cg H T<|.tup [x,y]) {s with heap:=h2,gens:=s.gens,drawn:=s.drawn,toks:=tk}:=by
   refine I.step (g':=s.gens) (d':=s.drawn) (t':=tk) (ch:=[z,TO,i1,i2]) (fun b hb=>⟨(hf b<|ch b hb).2.2.2.1,(hf b<|ch b hb).2.1,(hf b<|ch b hb).2.2.2.2.1,(hf b<|ch b hb).2.2.2.2.2⟩) (fun b o _ _ hb e _=>kp2 b o hb e) (fun b o _ _ hb e _=>⟨o.slots,kp2 b o hb e⟩)
    (fun b o hb e n=>by rw[ai<|lt e];exact n) (fun b o hb e=>⟨o,kp2 b o hb e⟩) (fun b xs e=>by rw[ai (gE b _ e).2];exact e) (fun b o u e=>by rw[ai (gE b _ e).2];exact e) (fun b ps e=>⟨#[],by rw[ai (gE b _ e).2,e];simp⟩) (fun m hm=>?_) (fun b u e=>?_) I.bare
   ·obtain⟨o,es,ep,ho,r⟩:=hm;exact⟨o,es,ep,kp2 _ o (fun hb=>(hf _<|ch _ hb).2.1 rfl) ho,r⟩
   ·by_cases hb:b=T
    ·subst hb;rw[ak]at e;cases e;refine⟨(by show 2<=sizeLine;rw[El];decide),[vx,vy],.cons rx<|.cons ry .nil,⟨_,up _ _ ?_ hTp,⟨rfl,rfl⟩,_,rfl⟩⟩;exact fun q=>lt hz q.symm
    ·rw[ai hb]at e;refine(I.hok b u e).stay (fun c v hc q=>kp2 c v ?_ q) (fun c q=>by rw[ai (gE c _ q).2];exact q) fun c xs q=>by rw[ai (gE c _ q).2];exact q
     rcases hc with q|q;·rw[q];exact(gE b u e).1
     ·exact(gE c _ q).1
  refine⟨.ref T,_,I2,rfl,⟨T,x,y,nT,rfl,fun xs' h=>by rw[Src.inj I h hx];exact ex,fun ys' h=>by rw[Src.inj I h hy];exact ey,rfl⟩,⟨hz2,up _ _ Z.c1<|kp _ _ Z.c1 Z.c5 Z.c6 Z.c7 hI,⟨_,_,up _ _ Z.c2 hO'⟩,Src.at_keep (a1 _ _ w1) fun o e=>up _ o Z.c3 e,Src.at_keep (a2 _ _ w2) fun o e=>up _ o Z.c4 e⟩,fun b hb=>?_⟩;have hbT:b≠T:=by
   obtain⟨o,e⟩:∃o,s.heap.get? b=some o:=by
    obtain⟨o1,e1,_⟩:=Src.at_obj t1;obtain⟨o2,e2,_⟩:=Src.at_obj t2;simp only[D7,E6,or_false]at hb;rcases hb with rfl|rfl|rfl|rfl|rfl;·exact⟨_,hz⟩
    ·exact⟨_,hI⟩
    ·exact⟨_,hO⟩
    ·exact⟨_,e1⟩
    ·exact⟨_,e2⟩
   exact lt e
  rw[ai hbT];exact(hf b hb).1
 done:=by
  intro X hP hw hK hc i pins s σ H E I hf st hg;subst hP hw hK;obtain⟨xs,ys,hx,hy,hend⟩:=hg;obtain⟨hz,hI,⟨a,b',hO⟩,t1,t2⟩:=st;have hh:X.A.in1.handled=none:=I.ok.hd hc;obtain⟨fp1,P1,S1,D1,u1,r1,a1,_,g1⟩:=Src.draws (A:=X.A.in1) hh I hx t1 (hf i1 (by simp)).1;obtain⟨fp2,P2,S2,D2,u2,r2,a2,_,g2⟩:=Src.draws (A:=X.A.in1) hh I hy t2 (hf i2 (by simp)).1;have ZA:=sy I Z hf g1 g2;have ch:∀b∈[z,TO,i1,i2],b∈[z,TI,TO,i1,i2]:=fun b hb=>by
   simp only[D7,E6,or_false]at hb ⊢;rcases hb with h|h|h|h<;>simp[h]
  refine sv hh D1 D2 ZA hend hz hI hO u1 u2 fun h2 tk kp=>⟨rfl,?_⟩
  have kp2:∀b o,b∉[z,TO,i1,i2]->s.heap.get? b=some o->h2.get? b=some o:=fun b o hb e=>by
   simp only[D7,E6,or_false,not_or]at hb;exact kp b o hb.1 hb.2.1 hb.2.2.1 hb.2.2.2 e
  refine I.step (g':=s.gens) (d':=s.drawn) (t':=tk) (ch:=[z,TO,i1,i2]) (fun b hb=>⟨(hf b<|ch b hb).2.2.2.1,(hf b<|ch b hb).2.1,(hf b<|ch b hb).2.2.2.2.1,(hf b<|ch b hb).2.2.2.2.2⟩) (fun b o _ _ hb e _=>kp2 b o hb e) (fun b o _ _ hb e _=>⟨o.slots,kp2 b o hb e⟩)
   (fun b o hb e n=>n) (fun b o hb e=>⟨o,kp2 b o hb e⟩) (fun b xs e=>e) (fun b o u e=>e) (fun b ps e=>⟨#[],by rw[e];simp⟩) (fun m hm=>?_) (fun b u e=>?_) I.bare
  ·obtain⟨o,es,ep,ho,r⟩:=hm;exact⟨o,es,ep,kp2 _ o (fun hb=>(hf _<|ch _ hb).2.1 rfl) ho,r⟩
  ·have gE:∀b u,H b=some u->b∉[z,TO,i1,i2]:=fun b u e hb=>by rw[(hf b<|ch b hb).1]at e;cases e
   refine(I.hok b u e).stay (fun c v hc q=>kp2 c v ?_ q) (fun c q=>q) fun c xs q=>q;rcases hc with q|q
   ·rw[q];exact gE b u e
   ·exact gE c _ q
 self:=fun _ _ _ _ _ st h=>GX st.1 h
theorem ja(n a b:Nat)(h:a≠b): @Ne Nat (n+a) (n+b):=fun e=>h<|Nat.add_left_cancel e
def yk(K:CL)(t:TA):TI:=fun σ H R=>t σ H fun vs H1=>∃c1 c2 xs ys,vs=[c1.val,c2.val]/\c1.has K H1 xs/\c2.has K H1 ys/\R (zN K c1 c2) H1
theorem yl{X:Cx}{a b:Expr}{ta:TA}{p pos tp:Pos}{elts:List Expr}{kk:Nat}(hg:Gl X "zip")(hm:X.mg "zip"=none)(ha:PA X [a,b] ta)
  (hs:starEach [a,b] X.env=[(false,eval a X.env),(false,eval b X.env)]:=by rfl) (hs2:starEach [b] X.env=[(false,eval b X.env)]:=by rfl):PI X (.Tuple elts kk tp) (.Call (.Name "zip" p) [a,b] [] pos) (yk X.K ta):=by
 intro pins s σ H R I h;refine Call_ (iz I hg hm boot_zip (Fi (bO (ha pos pins s σ H _ I h) fun us s1⟨vs,H1,I1,r1,q1⟩=>?_) (by rw[hs,hs2]) (by rw[hs2];rfl)));obtain⟨c1,c2,xs,ys,e,h1,h2,q⟩:=q1;subst e;obtain⟨v1,v2,rfl,ra,rb⟩:=oP r1;obtain⟨o1,i1,f1,n1⟩:=Src.iter I1 h1 ra fun _ _ e=>e;obtain⟨o2,i2,f2,n2⟩:=Src.iter (h:=s1.heap.push o1) I1 h2 rb fun _ _ e=>CM _ e;have z1:(s1.heap.push o1).objs.size=s1.heap.objs.size+1:=DG ..;rw[z1]at n2;refine qo i1 i2 f1 f2 fun h' hz hI hO e1 e2 kp=>?_;refine GX hz ?_;have zi:∀n:Nat,ZIds (n+4) (n+2) (n+3) n (n+1):=fun n=>⟨(ja n 2 4 (by decide)),(ja n 3 4 (by decide)),(ja n 0 4 (by decide)),(ja n 1 4 (by decide)),(ja n 2 3 (by decide)),(ja n 2 0 (by decide)),(ja n 2 1 (by decide)),(ja n 3 0 (by decide)),(ja n 3 1 (by decide)),(ja n 0 1 (by decide))⟩
 refine⟨s1.heap.objs.size+4,[s1.heap.objs.size+4,s1.heap.objs.size+2,s1.heap.objs.size+3,s1.heap.objs.size,s1.heap.objs.size+1],_,_,H1,rfl,I1.kept (t':=s1.toks) kp,sA c1 c2 _ _ _ _ _<|zi s1.heap.objs.size,⟨hz,hI,⟨_,_,hO⟩,n1 h' e1,n2 h' e2⟩,fun b hb=>?_,q⟩;have hb':s1.heap.objs.size<=b:=by
  simp only[D7,E6,or_false]at hb;rcases hb with z|z|z|z|z<;>rw[z]
  ·exact ET _ 4
  ·exact ET _ 2
  ·exact ET _ 3
  ·exact D8 _
  ·exact ET _ 1
 exact I1.fpOk hb'<|I1.hok.fresh hb'
theorem vQ{K:CL}{c1 c2:Src}{xs ys:List V}{g:TG}{tb:TS}{D:Ends}{σ:St}{H:Hp}(Pv:Nat->St->Hp->Prop)(h0:Pv 0 σ H)(hl:∀i σ H,Pv i σ H->c1.has K H xs/\c2.has K H ys)(hn:xs.length=ys.length)
  (hs:∀i x y p σ H,xs[i]? =some x->ys[i]? =some y->H p=none->Pv i σ H->g (.ref p) σ (cg H p<|.tup [x,y]) fun σ2 H2=>tb {D with nx:=Pv<|i+1,ct:=Pv<|i+1,bk:=D.nx} σ2 H2) (hd:∀σ H,Pv xs.length σ H->D.nx σ H):
  ∃W:Nat->Nat->St->Hp->Prop,(∃m,W 0 m σ H)/\ ∀i m σ H,W i m σ H->
   ((zN K c1 c2).stop i H/\D.nx σ H)\/((zN K c1 c2).go i H/\∃N:St->Hp->Prop,(∀σ' H',N σ' H'->∃m',m'<m/\W (i+1) m' σ' H')/\∀x H',(zN K c1 c2).yld i H x H'->g x σ H' fun σ2 H2=>tb {D with nx:=N,ct:=N,bk:=D.nx} σ2 H2):=by
 refine⟨fun i m σ H=>m=xs.length-i/\i<=xs.length/\Pv i σ H,⟨xs.length,by simp,Gx _,h0⟩,?_⟩;rintro i m σ H ⟨rfl,hi,p⟩;obtain⟨q1,q2⟩:=hl i σ H p;by_cases hlt:i<xs.length
 ·refine .inr ⟨⟨xs,ys,xs[i],ys[i],q1,q2,by simp[hlt],by simp[<-hn,hlt]⟩,Pv<|i+1,fun σ' H' p'=>⟨xs.length- (i+1),by omega,rfl,hlt,p'⟩,fun v H' ⟨a,x,y,na,ev,ex,ey,eh⟩=>?_⟩;subst ev eh;exact hs i x y a σ H (ex xs q1) (ey ys q2) na p
 ·have e:i=xs.length:=by omega
  subst e;exact .inl ⟨⟨xs,ys,q1,q2,.inl rfl⟩,hd σ H p⟩
structure Cal(P:Dg)(w:Dr)(K:CL)(mg:Str->Option CN)(base:Heap)(x:Str)(ps:List Str)(k:Nat)(sp:Sp):Prop where
 ex:∃(f:Addr)(fd:Df),FnOk P w K mg base CX0 k f fd ps sp/\mg x=some (.ref f)/\Dp K (.ref f)=true/\Binds K fd ps []
theorem sC{X:Cx}{x:Str}{ps:List Str}{k:Nat}{sp:Sp}{p pos:Pos}{e:Expr}{es:List Expr}{t:TA}(C:Cal X.prog X.w X.K X.mg X.base x ps k sp)(hr:Room k X.A)(hg:Gl X x)(ha:PA X (e::es) t)
  (hdb:(x==("__debug__" :Str))=false:=by decide) (he:starEach (e::es) X.env=(false,eval e X.env)::starEach es X.env:=by rfl) (hpl:(backTo pos<|starEach es X.env).any (·.1)=false:=by rfl):
  PE X (.Call (.Name x p) (e::es) [] pos) (aK sp [] E0 t):=by
 obtain⟨f,fd,F,hm,hk,hb⟩:=C.ex;exact oR F hr hg hm hk hb .nil oW ha hdb he hpl
theorem fF{X:Cx}{scope:FO}{N:List Str}{cap:List (Option Nat)}(kind:scope.kind=.function)(nd:N.Nodup)(len:cap.length=N.length)(uniq:(scope.names.map (·.1)).Nodup)
  (fr:(scope.names.all fun x=>x.2 != .free||(X.env.kindOf x.1==some .cell||X.env.kindOf x.1==some .free))=true)
  (cp:((N.zip cap).all fun p=>match p.2 with|none=>true|some j=>X.N[j]? ==some p.1&&scope.names.contains (p.1,Ej))=true):CompScope X scope N cap:=by
 refine⟨kind,nd,len,uniq,fun x hx hk=>?_,fun k x j h1 h2=>?_⟩
 ·have:=GY.mp fr x hx;rw[hk]at this;simpa using this
 ·have hm:(x,some j)∈N.zip cap:=by
   rw[IT];exact⟨k,by rw[Fx];exact⟨h1,h2⟩⟩
  have:=GY.mp cp _ hm;simpa using this
def flat:V->Bool
 | .non=>true
 | .bl _=>true
 | .int _=>true
 | .str _=>true
 |_=>false
theorem dn{H:Hp}{p:Addr}{o:HO}(h:H p=none):Same H (cg H p o):=fun b u e=>by rw[ai<|cm e h];exact e
theorem eL(x:String)(l:List Nat)(h:(CS x).cps.toList=l):CS x=sOf l:=by rw[sj<|CS x,h]
section
variable{X:Cx}{K:CL}{w:Dr}
theorem bP(h:X.K=K):zh X (cH K):=h▸ye
theorem cD(h:X.K=K):zh X (cG K):=h▸vH
theorem bX(h:X.K=K):ej X (.builtin "len") (fun xs H Q=>∃x n,xs=[x]/\mn K x H n/\Q (.int n) H):=h▸rQ
theorem br(h:X.K=K):ej X (.builtin "isinstance") (fun xs H Q=>∃x T t b,xs=[x,.ty T]/\TyOf K H x t/\DD K t (.type T)=some b/\Q (.bl b) H):=h▸mF
theorem sD(h:X.K=K):yd X "str.join" (fun x xs H Q=>∃(p:Addr)(ys:List (List Nat)),x=.str (sOf [])/\xs=[.ref p]/\SqL K H p (ys.map fun y=>GU<|sOf y)/\ys.flatten.length<=100000/\Q (.str<|sOf ys.flatten) H):=h▸vP
theorem sE(h:X.K=K):AN X (cQ K):=h▸vI
theorem iF(h:X.K=K)(hw:X.w=w){o i:Expr}{pos:Pos}{td ty:TE}(ho:PE X o td)(hi:PE X i ty)(hs:vM i):PE X (.Subscript o i pos) (aR K w td ty):=h▸hw▸sk ho hi hs
theorem cy(h:X.K=K){pos:Pos}{es:List Expr}{k:Nat}{t:vq}{n:Nat}(hc:X.calm=true)(hg:zg X es t)(hn:(assignEach es X.env).length=n:=by rfl)(hst:(assignEach es X.env).findIdx? (·.1)=none:=by rfl):PG X (.Tuple es k pos) (cA K n t):=h▸xU hc hg hn hst
theorem dH(h:X.K=K){tg l:Expr}{tl:TE}(hl:PE X l tl):PI X tg l (mi K tl):=h▸vt hl
theorem eI(h:X.K=K){a b:Expr}{ta:TA}{p pos tp:Pos}{elts:List Expr}{kk:Nat}(hg:Gl X "zip")(hm:X.mg "zip"=none)(ha:PA X [a,b] ta)
  (hs:starEach [a,b] X.env=[(false,eval a X.env),(false,eval b X.env)]:=by rfl) (hs2:starEach [b] X.env=[(false,eval b X.env)]:=by rfl):PI X (.Tuple elts kk tp) (.Call (.Name "zip" p) [a,b] [] pos) (yk K ta):=h▸yl hg hm ha hs hs2
theorem lK(h:X.K=K){o e:Expr}{es:List Expr}{to:TE}{t:TA}{name:Str}{apos cpos:Pos}{T id:String}{r:V->List V->Hp->VK->Prop}(pa:Jm T)(slot:Slot T name id)(hty:typeOf (.builtin id)=pure (.type "method_descriptor"))(hm:yd X id r)(ho:PE X o to)(ha:PA X (e::es) t)
  (hbase:attributeBase o name X.env (eval o X.env)=eval o X.env:=by rfl)
  (hfew:((backTo cpos<|starEach (e::es) X.env).all (fun x=> !x.1)&&(backToKw cpos<|keywordEach [] X.env).all (fun x=>x.1.isSome)&&decide ((e::es).length+([]:List Iq).length+(if([]:List Iq).isEmpty then 0 else 1)<30))=true:=by rfl)
  (hline:(apos.endLine==cpos.line)=true:=by rfl) (hs:starEach (e::es) X.env=(false,eval e X.env)::starEach es X.env:=by rfl) (hplain:(backTo cpos<|starEach es X.env).any (·.1)=false:=by rfl):
  PE X (.Call (.Attribute o name apos) (e::es) [] cpos) (eG K T r to t):=h▸zG pa slot hty hm ho ha hbase hfew hline hs hplain
end
end L2
open L2.Keep renaming get->Mf
open L2.Src renaming at_keep->Hk,at_obj->HI,draws->Il,iter->LH,inj->M6
namespace Wb
open PySem L2
abbrev Rp(α:Type):=Hp->α->V->Prop
class Mono{α:Type}(R:Rp α):Prop where
 mono:∀{H H':Hp}{m:α}{v:V},Same H H'->R H m v->R H' m v
def LR{α:Type}(R:Rp α)(H:Hp)(ms:List α)(vs:List V):Prop:=vs.length=ms.length/\∀(i:Nat)(v:V)(m:α),vs[i]? =some v->ms[i]? =some m->R H m v
theorem LR.nil{α:Type}{R:Rp α}{H:Hp}:LR R H [] []:=⟨rfl,fun i v m e=>by simp at e⟩
theorem LR.same{α:Type}{R:Rp α}[Mono R]{H H':Hp}{ms:List α}{vs:List V}(h:LR R H ms vs)(e:Same H H'):LR R H' ms vs:=⟨h.1,fun i v m a b=>Mono.mono e<|h.2 i v m a b⟩
theorem LR.snoc{α:Type}{R:Rp α}{H:Hp}{ms:List α}{vs:List V}{m:α}{v:V}(h:LR R H ms vs)(r:R H m v):LR R H (ms++[m]) (vs++[v]):=by
 refine⟨by simp[h.1],fun i v' m' a b=>?_⟩;by_cases hi:i<vs.length
 ·rw[Dz hi]at a;rw[Dz (by rw[<-h.1];exact hi)]at b;exact h.2 i v' m' a b
 ·rw[Dt (by omega)]at a;rw[Dt (by rw[<-h.1];omega)]at b;rw[<-h.1]at b;cases e:i-vs.length with
  |zero=>rw[e]at a b;simp at a b;subst a b;exact r
  |succ n=>rw[e]at a;simp at a
theorem LR.get{α:Type}{R:Rp α}{H:Hp}{ms:List α}{vs:List V}{i:Nat}{m:α}(h:LR R H ms vs)(e:ms[i]? =some m):∃v,vs[i]? =some v/\R H m v:=by
 have hi:i<vs.length:=by rw[h.1];exact(CP.mp e).1
 exact⟨vs[i],by simp[hi],h.2 i _ m (by simp[hi]) e⟩
theorem LR.got{α:Type}{R:Rp α}{H:Hp}{ms:List α}{vs:List V}{i:Nat}{v:V}(h:LR R H ms vs)(e:vs[i]? =some v):∃m,ms[i]? =some m/\R H m v:=by
 have hi:i<ms.length:=by rw[<-h.1];exact(CP.mp e).1
 exact⟨ms[i],by simp[hi],h.2 i v _ e (by simp[hi])⟩
def isL{α:Type}(R:Rp α):Rp (List α):=fun H ms v=>∃p vs,v=.ref p/\H p=some (.lst vs)/\LR R H ms vs
instance zkeep1{α:Type}{R:Rp α}[Mono R]:Mono (isL R):=⟨fun e⟨p,vs,h1,h2,h3⟩=>⟨p,vs,h1,e _ _ h2,h3.same e⟩⟩
def isS:Rp (List Nat):=fun _ l v=>v=.str (sOf l)
instance zkeep2:Mono isS:=⟨fun _ h=>h⟩
def isI:Rp Int:=fun _ l v=>v=.int l
instance zkeep4:Mono isI:=⟨fun _ h=>h⟩
theorem LR.str{H:Hp}{ms:List (List Nat)}{vs:List V}(h:LR isS H ms vs):vs=ms.map fun l=>GU (sOf l):=by
 refine GK fun i=>?_;rw[DQ];cases e:ms[i]? with
 |none=>rw[DA]at e;rw[DA.mpr (by rw[h.1];exact e)];rfl
 |some m=>obtain⟨v,a,b⟩:=h.get e;rw[a];cases b;rfl
end Wb
open Wb.Mono renaming mono->CJ
namespace L2
open PySem PySem.Spec PyProof.Rows
section
variable{X:Cx}{K:CL}{w:Dr}
theorem cT(h:X.K=K):ej X (.type "list") (fun xs H Q=>∃p ys,xs=[.ref p]/\(SqL K H p ys\/SqT K H p ys)/\∀l,H l=none->Q (.ref l) (cg H l<|.lst ys)):=h▸lD
theorem oY(h:X.K=K){o:Expr}{to:TE}{name:Str}{apos cpos:Pos}{T id:String}{r:V->List V->Hp->VK->Prop}(pa:Jm T)(slot:Slot T name id)(hty:typeOf (.builtin id)=pure (.type "method_descriptor"))(hm:yd X id r)(ho:PE X o to)
  (hbase:attributeBase o name X.env (eval o X.env)=eval o X.env:=by rfl) (hline:(apos.endLine==cpos.line)=true:=by rfl):PE X (.Call (.Attribute o name apos) [] [] cpos) (cC K T r to):=h▸yf pa slot hty hm ho hbase hline
end
end L2
namespace Wb
open PySem L2
theorem LR.take{α:Type}{R:Rp α}{H:Hp}{ms:List α}{vs:List V}(h:LR R H ms vs)(k:Nat):LR R H (ms.take k) (vs.take k):=by
 refine⟨by simp[h.1],fun i v m a b=>?_⟩;rw[List.getElem?_take]at a b;split at a;·rw[if_pos (by assumption)]at b;exact h.2 i v m a b
 ·cases a
theorem LR.drop{α:Type}{R:Rp α}{H:Hp}{ms:List α}{vs:List V}(h:LR R H ms vs)(k:Nat):LR R H (ms.drop k) (vs.drop k):=by
 refine⟨by simp[h.1],fun i v m a b=>?_⟩;rw[List.getElem?_drop]at a b;exact h.2 _ v m a b
theorem none_of{H H':Hp}{p:Addr}(e:Same H H')(h:H' p=none):H p=none:=by
 cases z:H p with
 |none=>rfl
 |some x=>have:=e _ _ z;rw[h]at this;cases this
theorem qq{H H3:Hp}{p:Addr}{o:HO}(e:Same H H3)(h:H p=none):Same H (cg H3 p o):=fun a u z=>by
 rw[ai<|cm z h];exact e _ _ z
end Wb
namespace L2
open PySem PySem.Spec PyProof.Rows
section
variable{X:Cx}{K:CL}{w:Dr}
theorem qr(hc:X.calm=true)(h:X.K=K):ej X (.builtin "max") (fun xs H Q=>∃(p:Addr)(ns:List Int),xs=[.ref p]/\SqL K H p (ns.map FC)/\0<ns.length/\∀M,M∈ns->(∀a∈ns,a<=M)->Q (.int M) H):=by
 subst h;intro pins s σ H xs us Q I r h;obtain⟨p,ns,rfl,hq,hne,q⟩:=h;obtain⟨u,rfl,rx⟩:=fT r;cases rx;obtain⟨its,r',pl,hz⟩:=I.list hq;have hi:=jy r';obtain⟨xs,e⟩:=hi.allInts.items;have hns:ns=xs.toList.map (·.1):=by
  rw[<-hi.numsOf,<-Ld,<-e]
 have hsz:0<xs.size:=by
  have h3:=hne;rw[hns,Dq,Ek]at h3;exact h3
 have hl:s.heap.IsList p (intItems xs):=e▸pl.isList;refine max_intList (I.ok.hd hc) hl hsz fun v h' tk hv hk=>?_;obtain⟨t,rfl⟩:=intItems_at hv;obtain⟨h1,h2⟩:=argBest_gt (numAt xs)<|xs.size-1;refine⟨.int _,H,I.kept hk,⟨_,rfl⟩,q _ ?_ fun a ha=>?_⟩;·rw[hns,Ku];exact getD_mem (by rw[Dq,Ek];omega)
 ·rw[hns]at ha;obtain⟨j,hj,rfl⟩:=mem_getD ha;rw[Dq,Ek]at hj;rw[<-Ku];exact h2 j (by omega)
end
theorem iG{α β:Type}{F:α->β->Prop}:∀{l₁:List α}{l₂:List β},Paired F l₁ l₂->∀{j:Nat}{b:β},l₂[j]? =some b->∃a,l₁[j]? =some a/\F a b
 |_,_,.nil,j,b,h=>by simp at h
 |_,_,.cons r rs,0,b,h=>by simp at h;subst h;exact⟨_,rfl,r⟩
 |_,_,.cons r rs,j+1,b,h=>by simp at h;obtain⟨a,h1,h2⟩:=iG rs h;exact⟨a,by simpa using h1,h2⟩
end L2
namespace L2
theorem dX{k:Nat}{A:Dy}(r:Room k A):A.units+1<PySem.cLine:=by have:=r.un;omega
end L2
namespace L2
open PySem PySem.Spec PyProof.Rows
abbrev cn(h:Heap)(T:Addr)(a b c:CN):Prop:=h.get? T=some {cls:=.type "tuple",data:=.seq #[a,b,c]}
def zO(h:Heap)(o1 o2 o3:Obj):Heap:=(((h.push o1).push o2).push o3).push {cls:=.type "tuple",data:=.seq #[.ref h.objs.size,.ref (h.push o1).objs.size,.ref ((h.push o1).push o2).objs.size]}
def zP(h:Heap)(o1 o2 o3:Obj):Heap:=(zO h o1 o2 o3).push {cls:=.type "tuple",data:=.seq #[.none,.none,.none]}
def ym(h:Heap)(o1 o2 o3:Obj):Heap:=(zP h o1 o2 o3).push {cls:=.type "zip",data:=.fields #[.none,.bool false,.bool false,.ref (((h.push o1).push o2).push o3).objs.size,.ref (zO h o1 o2 o3).objs.size]}
theorem jZ(v1 v2 v3:CN)(o1 o2 o3:Obj):Meets (JK.«zip.__new__» ⟨[.type "zip",v1,v2,v3],[]⟩) (fun _ R s=>eS v1 s.heap o1/\eS v2 (s.heap.push o1) o2/\eS v3 ((s.heap.push o1).push o2) o3/\R (.ok<|.ret<|.ref (zP s.heap o1 o2 o3).objs.size) {s with heap:=ym s.heap o1 o2 o3}):=
 .of_wp fun prog w A R s h=>by
  obtain⟨hp,g,d,tk,os⟩:=s;obtain⟨i1,i2,i3,h⟩:=h;have hsub:=sub_zip;have j1:=fun(A:Dy)(E:CN->CO->Prop)(Q:CN->CO->Prop)(q:Q _ _)=>i1 prog w A E Q ⟨hp,g,d,tk,os⟩ rfl q;have j2:=fun(A:Dy)(E:CN->CO->Prop)(Q:CN->CO->Prop)(q:Q _ _)=>i2 prog w A E Q ⟨hp.push o1,g,d,tk,os⟩ rfl q;have j3:=fun(A:Dy)(E:CN->CO->Prop)(Q:CN->CO->Prop)(q:Q _ _)=>i3 prog w A E Q ⟨(hp.push o1).push o2,g,d,tk,os⟩ rfl q
  wp_walk using j1 _ _ _,j2 _ _ _,j3 _ _ _
  exact⟨_,rfl,h⟩
theorem jH(a b c:CN):checkTypeCall "zip" ⟨[a,b,c],[]⟩=pure ():=by kernel_rfl
theorem k4(a b c:CN):checkBuiltinCall "zip.__new__" ⟨[.type "zip",a,b,c],[]⟩=pure ():=by kernel_rfl
theorem hG(a b c d:CN):argsOk "object.__init__" ⟨[a,b,c,d],[]⟩:=by
 unfold argsOk;rw[PySem.signature?_of (id:="object.__init__") (n:=['_','_','t','i','n','i','_','_']) (o:=['t','c','e','j','b','o']) (by kernel_rfl) PySem.F.owner_object];kernel_rfl
theorem qt{P:Dg}{w:Dr}{A:Dy}{E:CN->CO->Prop}{s:CO}{v1 v2 v3:CN}{o1 o2 o3:Obj}{Q:CN->CO->Prop}(i1:eS v1 s.heap o1)(i2:eS v2 (s.heap.push o1) o2)(i3:eS v3 ((s.heap.push o1).push o2) o3)
  (f1:o1.isFreed=false) (f2:o2.isFreed=false) (f3:o3.isFreed=false)
  (q:∀h',FP h' (s.heap.objs.size+5) (s.heap.objs.size+3) (s.heap.objs.size+4) .none->cn h' (s.heap.objs.size+3) (.ref s.heap.objs.size) (.ref<|s.heap.objs.size+1) (.ref<|s.heap.objs.size+2)->cn h' (s.heap.objs.size+4) .none .none .none->
   h'.get? s.heap.objs.size=some o1->h'.get? (s.heap.objs.size+1)=some o2->h'.get? (s.heap.objs.size+2)=some o3->(∀c o,s.heap.get? c=some o->h'.get? c=some o)->Q (.ref (s.heap.objs.size+5)) {s with heap:=h'}):
  wpAny (model P w) A (call (.type "zip") [v1,v2,v3]) Q E s:=by
 refine callType_new Jq (by decide) (jH _ _ _) (k4 _ _ _) (fun obj=>hG obj _ _ _) IS (jZ v1 v2 v3 o1 o2 o3) ⟨i1,i2,i3,?_⟩;have z1:(s.heap.push o1).objs.size=s.heap.objs.size+1:=DG ..;have z2:((s.heap.push o1).push o2).objs.size=s.heap.objs.size+2:=by rw[DG,z1]
 have z3:(((s.heap.push o1).push o2).push o3).objs.size=s.heap.objs.size+3:=by rw[DG,z2]
 have z4:(zO s.heap o1 o2 o3).objs.size=s.heap.objs.size+4:=by unfold zO;rw[DG,z3]
 have z5:(zP s.heap o1 o2 o3).objs.size=s.heap.objs.size+5:=by unfold zP;rw[DG,z4]
 have g6:(ym s.heap o1 o2 o3).get? (zP s.heap o1 o2 o3).objs.size=some _:=CY _ rfl;have g5:(ym s.heap o1 o2 o3).get? (zO s.heap o1 o2 o3).objs.size=some _:=CM _<|CY _ rfl;have g4:(ym s.heap o1 o2 o3).get? (((s.heap.push o1).push o2).push o3).objs.size=some _:=CM _<|CM _<|CY _ rfl;have g3:(ym s.heap o1 o2 o3).get? ((s.heap.push o1).push o2).objs.size=some o3:=CM _<|CM _<|CM _<|CY _ f3;have g2:(ym s.heap o1 o2 o3).get? (s.heap.push o1).objs.size=some o2:=CM _<|CM _<|CM _<|CM _<|CY _ f2;have g1:(ym s.heap o1 o2 o3).get? s.heap.objs.size=some o1:=CM _<|CM _<|CM _<|CM _<|CM _<|CY _ f1;show _/\_;rw[z3,z4,z5]at g6;rw[z1,z2,z3]at g4;rw[z4]at g5;rw[z2]at g3;rw[z1]at g2;rw[z5];exact⟨⟨_,g6,rfl⟩,q _ g6 g4 g5 g1 g2 g3 fun c o x=>CM _<|CM _<|CM _<|CM _<|CM _<|CM _ x⟩
section
variable{P:Dg}{w:Dr}{A:Dy}{E:CN->CO->Prop}{s:CO}{z TI TO i1 i2 i3:Addr}{fp1 fp2 fp3:List Addr}{n1 n2 n3 k:Nat}{P1 P2 P3:Nat->CN->Prop}{S1 S2 S3:Nat->Heap->Prop}{a b c:CN}
theorem bN{T:Addr}{a b c x:CN}{k:Nat}{Q:Unit->CO->Prop}(hT:cn s.heap T a b c)
  (h:∀h',h'.get? T=some {cls:=.type "tuple",data:=.seq ((#[a,b,c]:Array CN).setIfInBounds k x)}->Dl T s.heap h'->Q () {s with heap:=h'}):
  wpAny (model P w) A (updateSeq T (·.setIfInBounds k x)) Q E s:=by
 refine wpAny_updateSeq hT rfl<|h _ ?_<|Fg ..;rw[En _ hT rfl];simp[Kp]
structure ZApart3(z TI TO i1 i2 i3:Addr)(fp1 fp2 fp3:List Addr):Prop where
 c1:TI≠z
 c2:TO≠z
 c3:i1≠z
 c4:i2≠z
 c4':i3≠z
 c5:TI≠TO
 c6:TI≠i1
 c7:TI≠i2
 c7':TI≠i3
 c8:TO≠i1
 c9:TO≠i2
 c9':TO≠i3
 d1:z∉fp1/\TO∉fp1/\i2∉fp1/\i3∉fp1
 d2:z∉fp2/\TO∉fp2/\i1∉fp2/\i3∉fp2
 d3:z∉fp3/\TO∉fp3/\i1∉fp3/\i2∉fp3
theorem qu{Q:Option CN->CO->Prop}(D1:IF P w A.in1 i1 fp1 n1 P1 S1)(D2:IF P w A.in1 i2 fp2 n2 P2 S2)(D3:IF P w A.in1 i3 fp3 n3 P3 S3)(Z:ZApart3 z TI TO i1 i2 i3 fp1 fp2 fp3)(h1:k<n1)(h2:k<n2)(h3:k<n3)(hz:FP s.heap z TI TO .none)
  (hI:cn s.heap TI (.ref i1) (.ref i2) (.ref i3)) (hO:cn s.heap TO a b c) (t1:S1 k s.heap) (t2:S2 k s.heap) (t3:S3 k s.heap)
  (q:∀x y u h' tk T,P1 k x->P2 k y->P3 k u->T=s.heap.objs.size->FP h' z TI TO (rawInt T)->cn h' TO x y u->S1 (k+1) h'->S2 (k+1) h'->S3 (k+1) h'->cn h' T x y u->
   (∀c o,c≠z->c≠TO->c≠i1->c≠i2->c≠i3->s.heap.get? c=some o->h'.get? c=some o)->Q (some (.ref T)) {s with heap:=h',toks:=tk}):
  wpAny (model P w) A (pyNext<|.ref z) Q E s:=by
 have hT:s.TypeIs (.ref z) "zip":=⟨_,hz,rfl⟩
 unfold pyNext;refine CI<|F9<|DX (name:=CS "__next__") hT Eo<|E8 Eo hT FV ?_<|FJ _;obtain⟨hp,gg,dd,tk0,os⟩:=s;show wpAny (model P w) _ (field (.ref z) 2>>=_) _ _ _;refine CI<|Dx hz rfl (x:=.bool false) rfl ?_;show wpAny (model P w) _ (field (.ref z) 3>>=_) _ _ _;refine CI<|Dx hz rfl (x:=.ref TI) rfl<|CI<|DV hI rfl ?_;show wpAny (model P w) _ (DE (.ref z)>>=_) _ _ _;refine CI ?_;unfold DE;refine CI<|Dx hz rfl (x:=.none) rfl<|CU ?_;simp only[if_true];refine CI (GV (CI (Dx hz rfl (x:=.ref TO) rfl (CI (DY hz (by simp) fun g1 y1 b1=>?_)))));replace y1:FP g1 z TI TO .ellipsis:=y1;replace b1:Dl z hp g1:=b1;refine CI ?_;simp only[GW,Hq,Gi,GJ];refine CI<|CI<|Fb ?_;show wpAny (model P w) _ (Dm (.ref i1)>>=_) _ _ _;refine CI<|D1.item k _ _ _ h1 (ar D1 t1 b1 Z.d1.1) fun x g2 tk2 px u1 b2=>CU ?_;replace b2:Dl i1 g1 g2:=b2;have O2:cn g2 TO a b c:=b2.extBut _ _ Z.c8<|b1.extBut _ _ Z.c2 hO;refine CI<|DV O2 rfl<|CI<|bN O2 fun g3 O3 b3=>?_;replace O3:cn g3 TO x b c:=O3;replace b3:Dl TO g2 g3:=b3;refine CI<|G4<|CU<|CI<|CI<|Fb ?_;show wpAny (model P w) _ (Dm (.ref i2)>>=_) _ _ _;refine CI<|D2.item k _ _ _ h2 (ar D2 (ar D2 (ar D2 t2 b1 Z.d2.1) b2 Z.d2.2.2.1) b3 Z.d2.2.1) fun y g4 tk4 py u2 b4=>CU ?_;replace b4:Dl i2 g3 g4:=b4;have O4:cn g4 TO x b c:=b4.extBut _ _ Z.c9 O3;refine CI<|DV O4 rfl<|CI<|bN O4 fun g5 O5 b5=>?_;replace O5:cn g5 TO x y c:=O5;replace b5:Dl TO g4 g5:=b5;refine CI<|G4<|CU<|CI<|CI<|Fb ?_;show wpAny (model P w) _ (Dm (.ref i3)>>=_) _ _ _;refine CI<|D3.item k _ _ _ h3 (ar D3 (ar D3 (ar D3 (ar D3 (ar D3 t3 b1 Z.d3.1) b2 Z.d3.2.2.1) b3 Z.d3.2.1) b4 Z.d3.2.2.2) b5 Z.d3.2.1) fun u g6 tk6 pu u3 b6=>CU ?_;replace b6:Dl i3 g5 g6:=b6;have O6:cn g6 TO x y c:=b6.extBut _ _ Z.c9' O5;refine CI<|DV O6 rfl<|CI<|bN O6 fun g7 O7 b7=>?_;replace O7:cn g7 TO x y u:=O7;replace b7:Dl TO g6 g7:=b7;refine CI<|G4<|CU<|CU<|CI<|DV O7 rfl<|CI<|Kt ?_;have sz:g7.objs.size=hp.objs.size:=by rw[b7.1,b6.1,b5.1,b4.1,b3.1,b2.1,b1.1]
 have y7:FP g7 z TI TO .ellipsis:=b7.extBut _ _ Z.c2.symm<|b6.extBut _ _ Z.c4'.symm<|b5.extBut _ _ Z.c2.symm<|b4.extBut _ _ Z.c4.symm<|b3.extBut _ _ Z.c2.symm<|b2.extBut _ _ Z.c3.symm y1;have k7:∀c o,c≠z->c≠TO->c≠i1->c≠i2->c≠i3->hp.get? c=some o->g7.get? c=some o:=fun c o e1 e2 e3 e4 e5 e=>b7.extBut _ _ e2<|b6.extBut _ _ e5<|b5.extBut _ _ e2<|b4.extBut _ _ e4<|b3.extBut _ _ e2<|b2.extBut _ _ e3<|b1.extBut _ _ e1 e;have v1:S1 (k+1) g7:=ar D1 (ar D1 (ar D1 (ar D1 (ar D1 u1 b3 Z.d1.2.1) b4 Z.d1.2.2.1) b5 Z.d1.2.1) b6 Z.d1.2.2.2) b7 Z.d1.2.1;have v2:S2 (k+1) g7:=ar D2 (ar D2 (ar D2 u2 b5 Z.d2.2.1) b6 Z.d2.2.2.2) b7 Z.d2.2.1;have v3:S3 (k+1) g7:=ar D3 u3 b7 Z.d3.2.1;have lz:z<g7.objs.size:=D5 y7;show wpAny (model P w) _ (EI (.ref z) (.ref g7.objs.size)>>=_) _ _ _;refine CI ?_;unfold EI;have y8:FP (g7.push {cls:=.type "tuple",data:=.seq #[x,y,u]}) z TI TO .ellipsis:=CM _ y7;refine CI (DY y8 (by simp) fun g9 y9 b9=>?_);replace y9:FP g9 z TI TO (rawInt g7.objs.size):=y9;replace b9:Dl z (g7.push {cls:=.type "tuple",data:=.seq #[x,y,u]}) g9:=b9;refine DY y9 (by simp) fun g10 y10 b10=>?_;replace y10:FP g10 z TI TO (rawInt g7.objs.size):=y10;replace b10:Dl z g9 g10:=b10;have up:∀c o,c≠z->g7.get? c=some o->g10.get? c=some o:=fun c o e1 e=>b10.extBut _ _ e1<|b9.extBut _ _ e1<|CM _ e;have T8:cn g10 g7.objs.size x y u:=b10.extBut _ _ (EZ lz)<|b9.extBut _ _ (EZ lz)<|CY _ rfl;refine CU ⟨_,rfl,CU<|q x y u g10 _ g7.objs.size px py pu sz y10 (up _ _ Z.c2 O7) (D1.frame _ _ _ v1 fun b hb o e=>up b o (fun q=>Z.d1.1<|q▸hb) e) (D2.frame _ _ _ v2 fun b hb o e=>up b o (fun q=>Z.d2.1<|q▸hb) e) (D3.frame _ _ _ v3 fun b hb o e=>up b o (fun q=>Z.d3.1<|q▸hb) e) T8 fun c o e1 e2 e3 e4 e5 e=>up c o e1<|k7 c o e1 e2 e3 e4 e5 e⟩
theorem sF{Q:Option CN->CO->Prop}(hh:A.handled=none)(D1:IF P w A.in1 i1 fp1 n1 P1 S1)(D2:IF P w A.in1 i2 fp2 n2 P2 S2)(D3:IF P w A.in1 i3 fp3 n3 P3 S3)(Z:ZApart3 z TI TO i1 i2 i3 fp1 fp2 fp3)(hk:k=n1\/(k<n1/\k=n2)\/(k<n1/\k<n2/\k=n3))(hz:FP s.heap z TI TO .none)
  (hI:cn s.heap TI (.ref i1) (.ref i2) (.ref i3)) (hO:cn s.heap TO a b c) (t1:S1 k s.heap) (t2:S2 k s.heap) (t3:S3 k s.heap)
  (q:∀h' tk,(∀c o,c≠z->c≠TO->c≠i1->c≠i2->c≠i3->s.heap.get? c=some o->h'.get? c=some o)->Q none {s with heap:=h',toks:=tk}):
  wpAny (model P w) A (pyNext<|.ref z) Q E s:=by
 have hT:s.TypeIs (.ref z) "zip":=⟨_,hz,rfl⟩
 unfold pyNext;refine CI<|F9<|DX (name:=CS "__next__") hT Eo<|E8 Eo hT FV ?_<|FJ _;obtain⟨hp,gg,dd,tk0,os⟩:=s;show wpAny (model P w) _ (field (.ref z) 2>>=_) _ _ _;refine CI<|Dx hz rfl (x:=.bool false) rfl ?_;show wpAny (model P w) _ (field (.ref z) 3>>=_) _ _ _;refine CI<|Dx hz rfl (x:=.ref TI) rfl<|CI<|DV hI rfl ?_;show wpAny (model P w) _ (DE (.ref z)>>=_) _ _ _;refine CI ?_;unfold DE;refine CI<|Dx hz rfl (x:=.none) rfl<|CU ?_;simp only[if_true];refine CI (GV (CI (Dx hz rfl (x:=.ref TO) rfl (CI (DY hz (by simp) fun g1 y1 b1=>?_)))));replace y1:FP g1 z TI TO .ellipsis:=y1;replace b1:Dl z hp g1:=b1;refine CI ?_;simp only[GW,Hq,Gi,GJ];refine CI<|CI<|Fb ?_;show wpAny (model P w) _ (Dm (.ref i1)>>=_) _ _ _;rcases hk with hk|hk
 ·subst hk;refine CI<|D1.done _ _ _ (ar D1 t1 b1 Z.d1.1) fun g2 e b2 he=>?_;obtain⟨oe,hoe,hce⟩:=he;replace b2:Fn i1 g1 g2:=b2;have y2:FP g2 z TI TO .ellipsis:=b2 _ _ Z.c3.symm y1;have ez:e≠z:=fun x=>by subst x;rw[y2]at hoe;cases hoe;simp at hce
  refine DY y2 (by simp) fun g3 _ b3=>?_;exact CI<|F8 (T:="StopIteration") (b:=true) ⟨oe,b3.extBut _ _ ez hoe,hce⟩ Fq<|CU<|q g3 _ fun c o e1 _ e3 _ _ x=>b3.extBut _ _ e1<|b2 _ _ e3<|b1.extBut _ _ e1 x
 ·have hk1:k< n1:=by rcases hk with z | z <;> exact z.1
  refine CI<|D1.item k _ _ _ hk1 (ar D1 t1 b1 Z.d1.1) fun x g2 tk2 px u1 b2=>CU ?_;replace b2:Dl i1 g1 g2:=b2;have O2:cn g2 TO a b c:=b2.extBut _ _ Z.c8<|b1.extBut _ _ Z.c2 hO;refine CI<|DV O2 rfl<|CI<|bN O2 fun g3 O3 b3=>?_;replace b3:Dl TO g2 g3:=b3;replace O3:cn g3 TO x b c:=O3;refine CI<|G4<|CU<|CI<|CI<|Fb ?_;show wpAny (model P w) _ (Dm (.ref i2)>>=_) _ _ _;rcases hk with⟨_,hk2⟩|⟨_,hk2,hk3⟩
  ·subst hk2;refine CI<|D2.done _ _ _ (ar D2 (ar D2 (ar D2 t2 b1 Z.d2.1) b2 Z.d2.2.2.1) b3 Z.d2.2.1) fun g4 e b4 he=>?_;obtain⟨oe,hoe,hce⟩:=he;replace b4:Fn i2 g3 g4:=b4;have y4:FP g4 z TI TO .ellipsis:=b4 _ _ Z.c4.symm<|b3.extBut _ _ Z.c2.symm<|b2.extBut _ _ Z.c3.symm y1;have ez:e≠z:=fun x=>by subst x;rw[y4]at hoe;cases hoe;simp at hce
   refine DY y4 (by simp) fun g5 _ b5=>?_;exact CI<|F8 (T:="StopIteration") (b:=true) ⟨oe,b5.extBut _ _ ez hoe,hce⟩ Fq<|CU<|q g5 _ fun c o e1 e2 e3 e4 _ x=>b5.extBut _ _ e1<|b4 _ _ e4<|b3.extBut _ _ e2<|b2.extBut _ _ e3<|b1.extBut _ _ e1 x
  ·subst hk3;refine CI<|D2.item k _ _ _ hk2 (ar D2 (ar D2 (ar D2 t2 b1 Z.d2.1) b2 Z.d2.2.2.1) b3 Z.d2.2.1) fun y g4 tk4 py u2 b4=>CU ?_;replace b4:Dl i2 g3 g4:=b4;have O4:cn g4 TO x b c:=b4.extBut _ _ Z.c9 O3;refine CI<|DV O4 rfl<|CI<|bN O4 fun g5 O5 b5=>?_;replace b5:Dl TO g4 g5:=b5;refine CI<|G4<|CU<|CI<|CI<|Fb ?_;show wpAny (model P w) _ (Dm (.ref i3)>>=_) _ _ _;refine CI<|D3.done _ _ _ (ar D3 (ar D3 (ar D3 (ar D3 (ar D3 t3 b1 Z.d3.1) b2 Z.d3.2.2.1) b3 Z.d3.2.1) b4 Z.d3.2.2.2) b5 Z.d3.2.1) fun g6 e b6 he=>?_;obtain⟨oe,hoe,hce⟩:=he;replace b6:Fn i3 g5 g6:=b6;have y6:FP g6 z TI TO .ellipsis:=b6 _ _ Z.c4'.symm<|b5.extBut _ _ Z.c2.symm<|b4.extBut _ _ Z.c4.symm<|b3.extBut _ _ Z.c2.symm<|b2.extBut _ _ Z.c3.symm y1;have ez:e≠z:=fun x=>by subst x;rw[y6]at hoe;cases hoe;simp at hce
   refine DY y6 (by simp) fun g7 _ b7=>?_;exact CI<|F8 (T:="StopIteration") (b:=true) ⟨oe,b7.extBut _ _ ez hoe,hce⟩ Fq<|CU<|q g7 _ fun c o e1 e2 e3 e4 e5 x=>b7.extBut _ _ e1<|b6 _ _ e5<|b5.extBut _ _ e2<|b4.extBut _ _ e4<|b3.extBut _ _ e2<|b2.extBut _ _ e3<|b1.extBut _ _ e1 x
end
def zQ(K:CL)(c1 c2 c3:Src):It:=
  ⟨fun i H=>∃xs ys us x y u,c1.has K H xs/\c2.has K H ys/\c3.has K H us/\xs[i]? =some x/\ys[i]? =some y/\us[i]? =some u,
   fun i H v H'=>∃p x y u,H p=none/\v=.ref p/\(∀xs,c1.has K H xs->xs[i]? =some x)/\(∀ys,c2.has K H ys->ys[i]? =some y)/\(∀us,c3.has K H us->us[i]? =some u)/\H'=cg H p (.tup [x,y,u]),
   fun i H=>∃xs ys us,c1.has K H xs/\c2.has K H ys/\c3.has K H us/\(i=xs.length\/(i<xs.length/\i=ys.length)\/(i<xs.length/\i<ys.length/\i=us.length))⟩
def Bs(c1 c2 c3:Src)(z TI TO i1 i2 i3:Addr)(i:Nat)(h:Heap):Prop:=FP h z TI TO .none/\cn h TI (.ref i1) (.ref i2) (.ref i3)/\(∃a b c,cn h TO a b c)/\c1.at i1 i h/\c2.at i2 i h/\c3.at i3 i h
structure ZIds3(z TI TO i1 i2 i3:Addr):Prop where
 c1:TI≠z
 c2:TO≠z
 c3:i1≠z
 c4:i2≠z
 c4':i3≠z
 c5:TI≠TO
 c6:TI≠i1
 c7:TI≠i2
 c7':TI≠i3
 c8:TO≠i1
 c9:TO≠i2
 c9':TO≠i3
 c10:i1≠i2
 c11:i1≠i3
 c12:i2≠i3
theorem oZ{X:Cx}{pins:List (Addr×Obj)}{σ:St}{H:Hp}{s:CO}{z TI TO i1 i2 i3:Addr}{fp1 fp2 fp3:List Addr}(I:Inv X pins σ H s)(Z:ZIds3 z TI TO i1 i2 i3)(hf:∀b∈[z,TI,TO,i1,i2,i3],FpOk X pins H b)
  (g1:∀b∈fp1,b=i1\/H b≠none\/∃o,X.base.get? b=some o) (g2:∀b∈fp2,b=i2\/H b≠none\/∃o,X.base.get? b=some o) (g3:∀b∈fp3,b=i3\/H b≠none\/∃o,X.base.get? b=some o):ZApart3 z TI TO i1 i2 i3 fp1 fp2 fp3:=by
 have no:∀b∈[z,TI,TO,i1,i2,i3],¬(H b≠none\/∃o,X.base.get? b=some o):=fun b hb q=>by
  rcases q with q|⟨o,q⟩
  ·exact q (hf b hb).1
  ·rcases (hf b hb).2.2.2.1 with y | y;·exact I.ok.noex b o q y
   ·exact absurd (CZ (CZ (D5 q) I.ok.bsz) y)<|DN _
 refine⟨Z.c1,Z.c2,Z.c3,Z.c4,Z.c4',Z.c5,Z.c6,Z.c7,Z.c7',Z.c8,Z.c9,Z.c9',⟨fun m=>?_,fun m=>?_,fun m=>?_,fun m=>?_⟩,⟨fun m=>?_,fun m=>?_,fun m=>?_,fun m=>?_⟩,⟨fun m=>?_,fun m=>?_,fun m=>?_,fun m=>?_⟩⟩;·exact(g1 _ m).elim (fun e=>Z.c3 e.symm) (no z (by simp))
 ·exact(g1 _ m).elim (fun e=>Z.c8 e) (no TO (by simp))
 ·exact(g1 _ m).elim (fun e=>Z.c10 e.symm) (no i2 (by simp))
 ·exact(g1 _ m).elim (fun e=>Z.c11 e.symm) (no i3 (by simp))
 ·exact(g2 _ m).elim (fun e=>Z.c4 e.symm) (no z (by simp))
 ·exact(g2 _ m).elim (fun e=>Z.c9 e) (no TO (by simp))
 ·exact(g2 _ m).elim (fun e=>Z.c10 e) (no i1 (by simp))
 ·exact(g2 _ m).elim (fun e=>Z.c12 e.symm) (no i3 (by simp))
 ·exact(g3 _ m).elim (fun e=>Z.c4' e.symm) (no z (by simp))
 ·exact(g3 _ m).elim (fun e=>Z.c9' e) (no TO (by simp))
 ·exact(g3 _ m).elim (fun e=>Z.c11 e) (no i1 (by simp))
 ·exact(g3 _ m).elim (fun e=>Z.c12 e) (no i2 (by simp))
theorem qv{P:Dg}{w:Dr}{K:CL}{elts:List Expr}{kk:Nat}{tp:Pos}(c1 c2 c3:Src)(z TI TO i1 i2 i3:Addr)(Z:ZIds3 z TI TO i1 i2 i3):
  Turn P w K (.Tuple elts kk tp) (zQ K c1 c2 c3) [z,TI,TO,i1,i2,i3] z (Bs c1 c2 c3 z TI TO i1 i2 i3) where
 mem:=by simp
 obj:=fun i h st b hb=>by
  obtain⟨hz,hI,⟨a,b',c',hO⟩,t1,t2,t3⟩:=st;obtain⟨o1,e1,v1,d1⟩:=HI t1;obtain⟨o2,e2,v2,d2⟩:=HI t2;obtain⟨o3,e3,v3,d3⟩:=HI t3;simp only[D7,E6,or_false]at hb;rcases hb with rfl|rfl|rfl|rfl|rfl|rfl;·exact⟨_,hz,fun v q=>by cases (show HQ _=G0 v from q)⟩
  ·exact⟨_,hI,fun v q=>by cases (show Ib _ _=G0 v from q)⟩
  ·exact⟨_,hO,fun v q=>by cases (show Ib _ _=G0 v from q)⟩
  ·exact⟨_,e1,fun v q=>by rw[d1]at q;cases q⟩
  ·exact⟨_,e2,fun v q=>by rw[d2]at q;cases q⟩
  ·exact⟨_,e3,fun v q=>by rw[d3]at q;cases q⟩
 keep:=fun i h h' st k=>by
  obtain⟨hz,hI,⟨a,b',c',hO⟩,t1,t2,t3⟩:=st;exact⟨k z (by simp) _ hz,k TI (by simp) _ hI,⟨a,b',c',k TO (by simp) _ hO⟩,Hk t1 (k i1 (by simp)),Hk t2 (k i2 (by simp)),Hk t3 (k i3 (by simp))⟩
 item:=by
  intro X hP hw hK hc i pins s σ H E I hf st hg;subst hP hw hK;obtain⟨xs,ys,us,x,y,u,hx,hy,hu,ex,ey,eu⟩:=hg;obtain⟨hz,hI,⟨a,b',c',hO⟩,t1,t2,t3⟩:=st;have hh:X.A.in1.handled=none:=I.ok.hd hc;obtain⟨fp1,P1,S1,D1,u1,r1,a1,_,g1⟩:=Il (A:=X.A.in1) hh I hx t1 (hf i1 (by simp)).1;obtain⟨fp2,P2,S2,D2,u2,r2,a2,_,g2⟩:=Il (A:=X.A.in1) hh I hy t2 (hf i2 (by simp)).1;obtain⟨fp3,P3,S3,D3,u3,r3,a3,_,g3⟩:=Il (A:=X.A.in1) hh I hu t3 (hf i3 (by simp)).1;have ZA:=oZ I Z hf g1 g2 g3;refine qu D1 D2 D3 ZA (CP.mp ex).1 (CP.mp ey).1 (CP.mp eu).1 hz hI hO u1 u2 u3 fun vx vy vu h' tk T px py pu hT hz' hO' w1 w2 w3 hTp kp=>?_;obtain⟨x',ex',rx⟩:=r1 i vx px;obtain⟨y',ey',ry⟩:=r2 i vy py;obtain⟨u',eu',ru⟩:=r3 i vu pu;rw[ex]at ex';cases ex';rw[ey]at ey';cases ey';rw[eu]at eu';cases eu';have nT:H T=none:=by rw[hT];exact I.hok.fresh<|D8 _
  refine⟨_,rfl,HK hz' fun h2 hz2 sb=>?_⟩;have lt:∀{c o},s.heap.get? c=some o->c≠T:=fun e=>by rw[hT];exact Dc<|D5 e
  have up:∀c o,c≠z->h'.get? c=some o->h2.get? c=some o:=fun c o hc e=>(sb.2 c hc).trans e;have kp2:∀b o,b∉[z,TO,i1,i2,i3]->s.heap.get? b=some o->h2.get? b=some o:=fun b o hb e=>by
   simp only[D7,E6,or_false,not_or]at hb;exact up b o hb.1<|kp b o hb.1 hb.2.1 hb.2.2.1 hb.2.2.2.1 hb.2.2.2.2 e
  have ch:∀b∈[z,TO,i1,i2,i3],b∈[z,TI,TO,i1,i2,i3]:=fun b hb=>by
   simp only[D7,E6,or_false]at hb ⊢;rcases hb with h|h|h|h|h<;>simp[h]
  have gE:∀b u,H b=some u->b∉[z,TO,i1,i2,i3]/\b≠T:=fun b u e=>⟨fun hb=>(by rw[(hf b<|ch b hb).1]at e;cases e),fun q=>(by rw[q,nT]at e;cases e)⟩
  have I2:Inv X pins σ (cg H T<|.tup [x,y,u]) {s with heap:=h2,gens:=s.gens,drawn:=s.drawn,toks:=tk}:=by
   refine I.step (g':=s.gens) (d':=s.drawn) (t':=tk) (ch:=[z,TO,i1,i2,i3]) (fun b hb=>⟨(hf b<|ch b hb).2.2.2.1,(hf b<|ch b hb).2.1,(hf b<|ch b hb).2.2.2.2.1,(hf b<|ch b hb).2.2.2.2.2⟩) (fun b o _ _ hb e _=>kp2 b o hb e) (fun b o _ _ hb e _=>⟨o.slots,kp2 b o hb e⟩)
    (fun b o hb e n=>by rw[ai<|lt e];exact n) (fun b o hb e=>⟨o,kp2 b o hb e⟩) (fun b xs e=>by rw[ai (gE b _ e).2];exact e) (fun b o u e=>by rw[ai (gE b _ e).2];exact e) (fun b ps e=>⟨#[],by rw[ai (gE b _ e).2,e];simp⟩) (fun m hm=>?_) (fun b u e=>?_) I.bare
   ·obtain⟨o,es,ep,ho,r⟩:=hm;exact⟨o,es,ep,kp2 _ o (fun hb=>(hf _<|ch _ hb).2.1 rfl) ho,r⟩
   ·by_cases hb:b=T
    ·subst hb;rw[ak]at e;cases e;refine⟨(by show 3<=sizeLine;rw[El];decide),[vx,vy,vu],.cons rx<|.cons ry<|.cons ru .nil,⟨_,up _ _ ?_ hTp,⟨rfl,rfl⟩,_,rfl⟩⟩;exact fun q=>lt hz q.symm
    ·rw[ai hb]at e;refine(I.hok b u e).stay (fun c v hc q=>kp2 c v ?_ q) (fun c q=>by rw[ai (gE c _ q).2];exact q) fun c xs q=>by rw[ai (gE c _ q).2];exact q
     rcases hc with q|q;·rw[q];exact(gE b u e).1
     ·exact(gE c _ q).1
  refine⟨.ref T,_,I2,rfl,⟨T,x,y,u,nT,rfl,fun xs' h=>by rw[M6 I h hx];exact ex,fun ys' h=>by rw[M6 I h hy];exact ey,fun us' h=>by rw[M6 I h hu];exact eu,rfl⟩,⟨hz2,up _ _ Z.c1<|kp _ _ Z.c1 Z.c5 Z.c6 Z.c7 Z.c7' hI,⟨_,_,_,up _ _ Z.c2 hO'⟩,Hk (a1 _ _ w1) fun o e=>up _ o Z.c3 e,Hk (a2 _ _ w2) fun o e=>up _ o Z.c4 e,Hk (a3 _ _ w3) fun o e=>up _ o Z.c4' e⟩,fun b hb=>?_⟩;have hbT:b≠T:=by
   obtain⟨o,e⟩:∃o,s.heap.get? b=some o:=by
    obtain⟨o1,e1,_⟩:=HI t1;obtain⟨o2,e2,_⟩:=HI t2;obtain⟨o3,e3,_⟩:=HI t3;simp only[D7,E6,or_false]at hb;rcases hb with rfl|rfl|rfl|rfl|rfl|rfl;·exact⟨_,hz⟩
    ·exact⟨_,hI⟩
    ·exact⟨_,hO⟩
    ·exact⟨_,e1⟩
    ·exact⟨_,e2⟩
    ·exact⟨_,e3⟩
   exact lt e
  rw[ai hbT];exact(hf b hb).1
 done:=by
  intro X hP hw hK hc i pins s σ H E I hf st hg;subst hP hw hK;obtain⟨xs,ys,us,hx,hy,hu,hend⟩:=hg;obtain⟨hz,hI,⟨a,b',c',hO⟩,t1,t2,t3⟩:=st;have hh:X.A.in1.handled=none:=I.ok.hd hc;obtain⟨fp1,P1,S1,D1,u1,r1,a1,_,g1⟩:=Il (A:=X.A.in1) hh I hx t1 (hf i1 (by simp)).1;obtain⟨fp2,P2,S2,D2,u2,r2,a2,_,g2⟩:=Il (A:=X.A.in1) hh I hy t2 (hf i2 (by simp)).1;obtain⟨fp3,P3,S3,D3,u3,r3,a3,_,g3⟩:=Il (A:=X.A.in1) hh I hu t3 (hf i3 (by simp)).1;have ZA:=oZ I Z hf g1 g2 g3;have ch:∀b∈[z,TO,i1,i2,i3],b∈[z,TI,TO,i1,i2,i3]:=fun b hb=>by
   simp only[D7,E6,or_false]at hb ⊢;rcases hb with h|h|h|h|h<;>simp[h]
  refine sF hh D1 D2 D3 ZA hend hz hI hO u1 u2 u3 fun h2 tk kp=>⟨rfl,?_⟩
  have kp2:∀b o,b∉[z,TO,i1,i2,i3]->s.heap.get? b=some o->h2.get? b=some o:=fun b o hb e=>by
   simp only[D7,E6,or_false,not_or]at hb;exact kp b o hb.1 hb.2.1 hb.2.2.1 hb.2.2.2.1 hb.2.2.2.2 e
  refine I.step (g':=s.gens) (d':=s.drawn) (t':=tk) (ch:=[z,TO,i1,i2,i3]) (fun b hb=>⟨(hf b<|ch b hb).2.2.2.1,(hf b<|ch b hb).2.1,(hf b<|ch b hb).2.2.2.2.1,(hf b<|ch b hb).2.2.2.2.2⟩) (fun b o _ _ hb e _=>kp2 b o hb e) (fun b o _ _ hb e _=>⟨o.slots,kp2 b o hb e⟩)
   (fun b o hb e n=>n) (fun b o hb e=>⟨o,kp2 b o hb e⟩) (fun b xs e=>e) (fun b o u e=>e) (fun b ps e=>⟨#[],by rw[e];simp⟩) (fun m hm=>?_) (fun b u e=>?_) I.bare
  ·obtain⟨o,es,ep,ho,r⟩:=hm;exact⟨o,es,ep,kp2 _ o (fun hb=>(hf _<|ch _ hb).2.1 rfl) ho,r⟩
  ·have gE:∀b u,H b=some u->b∉[z,TO,i1,i2,i3]:=fun b u e hb=>by rw[(hf b<|ch b hb).1]at e;cases e
   refine(I.hok b u e).stay (fun c v hc q=>kp2 c v ?_ q) (fun c q=>q) fun c xs q=>q;rcases hc with q|q
   ·rw[q];exact gE b u e
   ·exact gE c _ q
 self:=fun _ _ _ _ _ st h=>GX st.1 h
theorem zR{x y z:V}{us:List CN}(r:Vals [x,y,z] us):∃u v w',us=[u,v,w']/\RelV x u/\RelV y v/\RelV z w':=by
 cases r with
 |cons h1 r=>cases r with
  |cons h2 r=>cases r with
   |cons h3 r=>cases r;exact⟨_,_,_,rfl,h1,h2,h3⟩
def xy(K:CL)(t:TA):TI:=fun σ H R=>t σ H fun vs H1=>∃c1 c2 c3 xs ys us,vs=[c1.val,c2.val,c3.val]/\c1.has K H1 xs/\c2.has K H1 ys/\c3.has K H1 us/\R (zQ K c1 c2 c3) H1
theorem p4{X:Cx}{K:CL}(hK:X.K=K){a b c:Expr}{ta:TA}{p pos tp:Pos}{elts:List Expr}{kk:Nat}(hg:Gl X "zip")(hm:X.mg "zip"=none)(ha:PA X [a,b,c] ta)
  (hs:starEach [a,b,c] X.env=[(false,eval a X.env),(false,eval b X.env),(false,eval c X.env)]:=by rfl) (hs2:starEach [b,c] X.env=[(false,eval b X.env),(false,eval c X.env)]:=by rfl):PI X (.Tuple elts kk tp) (.Call (.Name "zip" p) [a,b,c] [] pos) (xy K ta):=by
 subst hK;intro pins s σ H R I h;refine Call_ (iz I hg hm boot_zip (Fi (bO (ha pos pins s σ H _ I h) fun us s1⟨vs,H1,I1,r1,q1⟩=>?_) (by rw[hs,hs2]) (by rw[hs2];rfl)));obtain⟨c1,c2,c3,xs,ys,zs,e,h1,h2,h3,q⟩:=q1;subst e;obtain⟨v1,v2,v3,rfl,ra,rb,rc⟩:=zR r1;obtain⟨o1,i1,f1,n1⟩:=LH I1 h1 ra fun _ _ e=>e;obtain⟨o2,i2,f2,n2⟩:=LH (h:=s1.heap.push o1) I1 h2 rb fun _ _ e=>CM _ e;obtain⟨o3,i3,f3,n3⟩:=LH (h:=(s1.heap.push o1).push o2) I1 h3 rc fun _ _ e=>CM _<|CM _ e;have z1:(s1.heap.push o1).objs.size=s1.heap.objs.size+1:=DG ..;have z2:((s1.heap.push o1).push o2).objs.size=s1.heap.objs.size+2:=by rw[DG,z1]
 rw[z1]at n2;rw[z2]at n3;refine qt i1 i2 i3 f1 f2 f3 fun h' hz hI hO e1 e2 e3 kp=>?_;refine GX hz ?_;have zi:∀n:Nat,ZIds3 (n+5) (n+3) (n+4) n (n+1) (n+2):=fun n=>⟨(ja n 3 5 (by decide)),(ja n 4 5 (by decide)),(ja n 0 5 (by decide)),(ja n 1 5 (by decide)),(ja n 2 5 (by decide)),(ja n 3 4 (by decide)),(ja n 3 0 (by decide)),(ja n 3 1 (by decide)),(ja n 3 2 (by decide)),(ja n 4 0 (by decide)),(ja n 4 1 (by decide)),(ja n 4 2 (by decide)),(ja n 0 1 (by decide)),(ja n 0 2 (by decide)),(ja n 1 2 (by decide))⟩
 refine⟨s1.heap.objs.size+5,[s1.heap.objs.size+5,s1.heap.objs.size+3,s1.heap.objs.size+4,s1.heap.objs.size,s1.heap.objs.size+1,s1.heap.objs.size+2],_,_,H1,rfl,I1.kept (t':=s1.toks) kp,qv c1 c2 c3 _ _ _ _ _ _<|zi s1.heap.objs.size,⟨hz,hI,⟨_,_,_,hO⟩,n1 h' e1,n2 h' e2,n3 h' e3⟩,fun b hb=>?_,q⟩;have hb':s1.heap.objs.size<=b:=by
  simp only[D7,E6,or_false]at hb;rcases hb with z|z|z|z|z|z<;>rw[z]
  ·exact ET _ 5
  ·exact ET _ 3
  ·exact ET _ 4
  ·exact D8 _
  ·exact ET _ 1
  ·exact ET _ 2
 exact I1.fpOk hb'<|I1.hok.fresh hb'
end L2
namespace Mi
inductive Res(α:Type) where
 |ok (a:α)|err (j:Nat)|stuck
namespace Res
variable{α β:Type}
def Ok(m:Res α)(P:α->Prop):Prop:=match m with| .ok a=>P a|_=>False
def bind(m:Res α)(f:α->Res β):Res β:=match m with| .ok a=>f a| .err j=>.err j| .stuck=>.stuck
theorem bind_ok{m:Res α}{f:α->Res β}{P:β->Prop}(h:m.Ok fun a=>(f a).Ok P):(m.bind f).Ok P:=by cases m<;>exact h
theorem Ok.imp{m:Res α}{P Q:α->Prop}(h:m.Ok P)(k:∀a,P a->Q a):m.Ok Q:=by cases m<;>first|exact k _ h|exact h
theorem Ok.ex{m:Res α}{P:α->Prop}(h:m.Ok P):∃a,m=.ok a/\P a:=by
 cases m with
 |ok a=>exact⟨a,rfl,h⟩
 |err j=>exact h.elim
 |stuck=>exact h.elim
def OkE(m:Res α)(Er:Nat->Prop)(P:α->Prop):Prop:=match m with| .ok a=>P a| .err j=>Er j| .stuck=>False
theorem okE_bind{m:Res α}{f:α->Res β}{Er:Nat->Prop}{P:β->Prop}(h:(m.bind f).OkE Er P):m.OkE Er fun a=>(f a).OkE Er P:=by cases m<;>exact h
theorem bind_okE{m:Res α}{f:α->Res β}{Er:Nat->Prop}{P:β->Prop}(h:m.OkE Er fun a=>(f a).OkE Er P):(m.bind f).OkE Er P:=by cases m<;>exact h
theorem OkE.imp{m:Res α}{Er:Nat->Prop}{P Q:α->Prop}(h:m.OkE Er P)(k:∀a,P a->Q a):m.OkE Er Q:=by cases m<;>first|exact k _ h|exact h
theorem Ok.e{m:Res α}{Er:Nat->Prop}{P:α->Prop}(h:m.Ok P):m.OkE Er P:=by
 cases m with
 |ok a=>exact h
 |err j=>exact h.elim
 |stuck=>exact h.elim
def tryR(m:Res α):Res (α ⊕ Nat):=match m with| .ok a=>.ok (.inl a)| .err j=>.ok (.inr j)| .stuck=>.stuck
theorem tryR_OkE{m:Res α}{Er:Nat->Prop}{P:α ⊕ Nat->Prop}(h:(tryR m).OkE Er P):m.OkE (fun j=>P<|.inr j) fun a=>P (.inl a):=by cases m<;>exact h
@[simp] theorem bind_ok'(a:α)(f:α->Res β):(Res.ok a).bind f=f a:=rfl
end Res
abbrev cap:Nat:=100000
def dR(b:Prop)[Decidable b]{α:Type}(a:α):Res α:=if b then .ok a else .stuck
theorem bo{b:Prop}[Decidable b]{α:Type}{a:α}(h:b):dR b a=.ok a:=if_pos h
theorem aM{b:Prop}[Decidable b]{α:Type}{a:α}{Er:Nat->Prop}{P:α->Prop}(h:(dR b a).OkE Er P):b/\P a:=by
 unfold dR at h;by_cases hb:b;·rw[if_pos hb]at h;exact⟨hb,h⟩
 ·rw[if_neg hb]at h;exact h.elim
def lL{α:Type}:Option α->Res α
 |some a=>.ok a
 |none=>.stuck
theorem eJ{α:Type}{o:Option α}{Er:Nat->Prop}{P:α->Prop}(h:(lL o).OkE Er P):∃a,o=some a/\P a:=by
 cases o with
 |none=>exact h.elim
 |some a=>exact⟨a,rfl,h⟩
abbrev Tx:=List Nat
def dq(i:Int):Int:=if i<0 then -i else i
def mI(i j:Int):Res Int:=dR ((-(2^64)<i/\i<2^64)\/(-(2^64)<j/\j<2^64))<|i*j
def p5(i j:Int):Res Int:=dR (0<j/\j<1073741824)<|i/j
def lM(i j:Int):Res Int:=dR (0<j)<|i%j
def ixN(n:Nat)(i:Int):Option Nat:=if 0<=i then(if i<n then some i.toNat else none)else if -(n:Int)<=i then some (i+n).toNat else none
def rF{α:Type}(xs:List α)(i:Int):Option α:=(ixN xs.length i).bind fun j=>xs[j]?
theorem vR{α:Type}{xs:List α}{j:Nat}{v:α}(h:xs[j]? =some v):rF xs (j:Int)=some v:=by
 have hl:j<xs.length:=(CP.mp h).1;unfold rF ixN;rw[if_pos (by omega),if_pos (by omega),EL];exact h
theorem sG{α:Type}{xs:List α}{i:Int}(h0:0<=i)(h1:i<xs.length):∃h:i.toNat<xs.length,rF xs i=some xs[i.toNat]:=by
 have h2:i.toNat<xs.length:=by omega
 refine⟨h2,?_⟩;have:=vR (xs:=xs) (j:=i.toNat) (v:=xs[i.toNat]) (by simp[h2]);rw[Int.toNat_of_nonneg h0]at this;exact this
def iW{α:Type}(xs:List α)(i:Int):Res α:=lL<|rF xs i
def k6(x:Tx)(i:Int):Res Tx:=(dR (x.length<=cap) x).bind fun x=>(lL<|rF x i).bind fun c=>.ok [c]
def fG(a b:Tx):Res Tx:=dR (a.length+b.length<=cap)<|a++b
def Bt{α:Type}(a b:List α):Res (List α):=dR (a.length+b.length<=cap)<|a++b
def hJ{α:Type}(a:List α)(x:α):Res (List α):=dR (a.length<cap)<|a++[x]
def vS(a:Tx)(n:Int):Res Tx:=match a with
 | [c]=>dR (0<=n/\n<=cap)<|Dh n.toNat c
 |_=>.stuck
def qw(x:Tx):Res Int:=dR (x.length<=cap) (x.length:Int)
def sIx(n d:Nat):Option Int->Nat
 |none=>d
 |some v=>if v<0 then(v+(n:Int)).toNat else min v.toNat n
def cut{α:Type}(l:List α)(lo hi:Option Int):List α:=(l.drop<|sIx l.length 0 lo).take (sIx l.length l.length hi-sIx l.length 0 lo)
def gS(x:Tx)(lo hi:Option Int):Res Tx:=dR (x.length<=cap)<|cut x lo hi
def sH(x:Tx)(c:Nat):Option Nat:=x.findIdx? (· ==c)
def zS(x y:Tx):Res Int:=match y with
 | [c]=>(lL<|sH x c).bind fun j=>.ok (j:Int)
 |_=>.stuck
def sI(xs:List Tx):Res Tx:=dR (xs.flatten.length<=cap) xs.flatten
def look{κ α:Type}[DecidableEq κ](kvs:List (κ×α))(k:κ):Option α:=(kvs.find? fun p=>decide<|p.1=k).map (·.2)
def getD{κ α:Type}[DecidableEq κ](kvs:List (κ×α))(k:κ):Res α:=lL<|look kvs k
def iH{α β:Type}(f:α->Res β):List α->Res (List β)
 | []=>.ok []
 |a::r=>(f a).bind fun b=>(iH f r).bind fun bs=>.ok (b::bs)
def bB{α β:Type}(xs:List α)(f:α->Res β):Res (List β):=(dR (xs.length<=cap) xs).bind fun xs=>iH f xs
def fM{α β:Type}(f:α->Res (Option β)):List α->Res (List β)
 | []=>.ok []
 |a::r=>(f a).bind fun b=>(fM f r).bind fun bs=>.ok (match b with|some b=>b::bs|none=>bs)
def i7{α β:Type}(xs:List α)(f:α->Res (Option β)):Res (List β):=(dR (xs.length<=cap) xs).bind fun xs=>fM f xs
def bU{α S:Type}(f:α->S->Res S):List α->S->Res S
 | [],s=>.ok s
 |a::r,s=>(f a s).bind fun s=>bU f r s
inductive Fl(γ S:Type) where
 |nx (s:S)|bk (s:S)|rt (r:γ)
def zT{S γ:Type}(k:S->Res (Fl γ S)):Fl γ S->Res (Fl γ S)
 | .nx s=>k s
 | .bk s=>.ok<|.nx s
 | .rt x=>.ok<|.rt x
def gU{α S γ:Type}(f:α->S->Res (Fl γ S)):List α->S->Res (Fl γ S)
 | [],s=>.ok<|.nx s
 |a::r,s=>(f a s).bind (zT<|gU f r)
def fk(n:Int):List Int:=(FQ n.toNat).map fun(i:Nat)=>(i:Int)
def fZ(n:Int):Res (List Int):=dR (-(2^62)<=n/\n<2^62)<|fk n
def aU(x:Tx):List Tx:=x.map fun c=>[c]
def zU(x y:Tx):Res Bool:=match x with
 | [c]=>.ok<|y.contains c
 |_=>.stuck
def vT(l:List Int):Res Int:=dR (0<l.length) (l.foldl (fun a b=>if b>a then b else a)<|l.headD 0)
def vU{α:Type}[DecidableEq α](a b:α):Res Bool:=if a=b then .ok true else .stuck
theorem p6{α β:Type}{f:α->Res β}{g:α->β}:∀{xs:List α},(∀x∈xs,f x=.ok (g x))->iH f xs=.ok (xs.map g)
 | [],_=>rfl
 |a::r,h=>by
  unfold iH;rw[h a<|D0 ..,Res.bind_ok',p6 fun x hx=>h x<|D4 _ hx];rfl
theorem cE{α β:Type}{f:α->Res β}{g:α->β}{xs:List α}(hl:xs.length<=cap)(h:∀x∈xs,f x=.ok (g x)):bB xs f=.ok (xs.map g):=by
 unfold bB;rw[bo hl,Res.bind_ok',p6 h]
def i8{α:Type}(xs:List α):Res (List Int):=(dR (xs.length<=cap) xs).bind fun xs=>.ok<|fk (xs.length:Int)
theorem jI{α:Type}{xs:List α}(h:xs.length<=cap):i8 xs=.ok (fk (xs.length:Int)):=by unfold i8 dR;rw[if_pos h];rfl
end Mi
open Mi.Res renaming okE_bind->CH,bind_ok'->CK,ok->CT,stuck->Lj,bind_okE->Lp,err->Lq,tryR->LJ
open Mi.Res.OkE renaming imp->Dk
namespace Wb
open PySem L2 Mi
variable{Er:Nat->Prop}
structure Wd where
 G:Hp
 H:Hp
 ok:Same G H
structure Ext(W W':Wd):Prop where
 g:Same W.G W'.G
 h:Same W.H W'.H
 k:∀p,W.H p≠none->W'.G p=W.G p
theorem Ext.refl(W:Wd):Ext W W:=⟨.refl _,.refl _,fun _ _=>rfl⟩
theorem Ext.trans{W W1 W2:Wd}(a:Ext W W1)(b:Ext W1 W2):Ext W W2:=⟨a.g.trans b.g,a.h.trans b.h,fun p hp=>by
 obtain⟨o,ho⟩:=G5.mp hp;rw[b.k p (by rw[a.h p o ho];exact fun z=>nomatch z),a.k p hp]⟩
theorem Same.upd2{G H:Hp}(h:Same G H)(p:Addr)(o:HO):Same (cg G p o) (cg H p o):=fun a u e=>by
 by_cases z:a=p;·subst z;rw[ak]at e ⊢;exact e
 ·rw[ai z]at e ⊢;exact h _ _ e
def Wd.new(W:Wd)(p:Addr)(o:HO):Wd:=⟨cg W.G p o,cg W.H p o,Same.upd2 W.ok p o⟩
theorem Wd.gnone(W:Wd){p:Addr}(h:W.H p=none):W.G p=none:=none_of W.ok h
theorem Ext.new{W:Wd}{p:Addr}(o:HO)(h:W.H p=none):Ext W (W.new p o):=⟨dn<|W.gnone h,dn h,fun q hq=>ai fun z=>hq<|z▸h⟩
def Wd.mut(W:Wd)(p:Addr)(o:HO)(h:W.G p=none):Wd:=⟨W.G,cg W.H p o,qq W.ok h⟩
theorem Ext.own{W:Wd}{p:Addr}(o:HO)(h:W.H p=none):Ext W (W.mut p o<|W.gnone h):=⟨.refl _,dn h,fun _ _=>rfl⟩
def Wd.frz(W:Wd)(p:Addr)(o:HO)(h:W.H p=some o):Wd:=⟨cg W.G p o,W.H,fun a u e=>by
 by_cases z:a=p;·subst z;rw[ak]at e;cases e;exact h
 ·rw[ai z]at e;exact W.ok _ _ e⟩
theorem Ext.mut{W0 W:Wd}{p:Addr}{o:HO}(e:Ext W0 W)(hp:W0.H p=none)(h:W.G p=none):Ext W0 (W.mut p o h):=
 ⟨e.g,fun a u z=>by show cg W.H p o a=_;rw[ai<|cm z hp];exact e.h _ _ z,e.k⟩
theorem Ext.frz{W0 W:Wd}{p:Addr}{o:HO}(e:Ext W0 W)(hp:W0.H p=none)(h:W.H p=some o)(hg:W.G p=none):Ext W0 (W.frz p o h):=
 ⟨e.g.trans<|dn hg,e.h,fun q hq=>by show cg W.G p o q=_;rw[ai (fun z=>hq (by rw[z];exact hp))];exact e.k q hq⟩
abbrev Rw(α:Type):=Wd->α->V->Prop
class MonoW{α:Type}(R:Rw α):Prop where
 mono:∀{W W':Wd}{a:α}{v:V},Ext W W'->R W a v->R W' a v
def sh{α:Type}(R:Rp α):Rw α:=fun W a v=>R W.G a v
instance zkeep8{α:Type}{R:Rp α}[Mono R]:MonoW (sh R):=⟨fun e h=>CJ (R:=R) e.g h⟩
def pk{α:Type}(R:Rp α):Rw (List α):=fun W xs v=>∃p vs,v=.ref p/\W.H p=some (.lst vs)/\LR R W.G xs vs
instance zkeep9{α:Type}{R:Rp α}[Mono R]:MonoW (pk R):=⟨fun e⟨p,vs,a,b,c⟩=>⟨p,vs,a,e.h _ _ b,c.same e.g⟩⟩
theorem pk.of{α:Type}{R:Rp α}{W:Wd}{xs:List α}{v:V}(h:isL R W.G xs v):pk R W xs v:=by
 obtain⟨p,vs,a,b,c⟩:=h;exact⟨p,vs,a,W.ok _ _ b,c⟩
structure Ow{α:Type}(R:Rp α)(W:Wd)(p:Addr)(xs:List α):Prop where
 g:W.G p=none
 h:∃vs,W.H p=some (.lst vs)/\LR R W.G xs vs
theorem Ow.mono{α:Type}{R:Rp α}[Mono R]{W W':Wd}{p:Addr}{xs:List α}(o:Ow R W p xs)(e:Ext W W'):Ow R W' p xs:=by
 obtain⟨vs,a,b⟩:=o.h;exact⟨by rw[e.k p (by rw[a];exact fun z=>nomatch z)];exact o.g,vs,e.h _ _ a,b.same e.g⟩
theorem Ow.pk{α:Type}{R:Rp α}{W:Wd}{p:Addr}{xs:List α}(o:Ow R W p xs):pk R W xs (.ref p):=by
 obtain⟨vs,a,b⟩:=o.h;exact⟨p,vs,rfl,a,b⟩
theorem Ow.frz{α:Type}{R:Rp α}[Mono R]{W0 W:Wd}{p:Addr}{xs:List α}(o:Ow R W p xs)(e:Ext W0 W)(hp:W0.H p=none):
  ∃W',W'.H=W.H/\Ext W0 W'/\Same W.G W'.G/\isL R W'.G xs (.ref p)/\∀q,q≠p->W'.G q=W.G q:=by
 obtain⟨vs,a,b⟩:=o.h;exact⟨W.frz p _ a,rfl,e.frz hp a o.g,dn o.g,⟨p,vs,rfl,ak,b.same<|dn o.g⟩,fun q hq=>ai hq⟩
def EV(Er:Nat->Prop){α:Type}(t:TE)(σ:St)(W:Wd)(R:Rw α)(m:Res α):Prop:=∀W1,Ext W W1->∀Q:VK,m.OkE Er (fun a=>∀v W2,Ext W1 W2->R W2 a v->Q v W2.H)->t σ W1.H Q
def EVo(Er:Nat->Prop){α:Type}(t:TE)(σ:St)(W:Wd)(R:Rp α)(m:Res (List α)):Prop:=∀W1,Ext W W1->∀Q:VK,m.OkE Er (fun xs=>∀p W2,Ext W1 W2->W1.H p=none->Ow R W2 p xs->Q (.ref p) W2.H)->t σ W1.H Q
def TV(Er:Nat->Prop)(t:TT)(σ:St)(W:Wd)(m:Res Bool):Prop:=∀W1,Ext W W1->∀Q:Bool->Hp->Prop,m.OkE Er (fun b=>∀W2,Ext W1 W2->Q b W2.H)->t σ W1.H Q
section
variable{α β γ:Type}{t ta tb:TE}{σ:St}{W W0 W':Wd}{K:CL}
theorem EV.imp{R R':Rw α}{m:Res α}(h:EV Er t σ W R m)(f:∀W a v,R W a v->R' W a v):EV Er t σ W R' m:=fun W1 e1 Q k=>h W1 e1 Q<|k.imp fun a ka v W2 e2 r=>ka v W2 e2<|f _ _ _ r
theorem EVo.ev{R:Rp α}[Mono R]{m:Res (List α)}(h:EVo Er t σ W R m):EV Er t σ W (sh<|isL R) m:=fun W1 e1 Q k=>h W1 e1 Q (k.imp fun xs kx p W2 e2 hp o=>by
 obtain⟨W3,hH,e3,_,r,_⟩:=o.frz e2 hp;rw[<-hH];exact kx (.ref p) W3 e3 r)
theorem EVo.pk{R:Rp α}[Mono R]{m:Res (List α)}(h:EVo Er t σ W R m):EV Er t σ W (pk R) m:=fun W1 e1 Q k=>h W1 e1 Q<|k.imp fun xs kx p W2 e2 hp o=>kx (.ref p) W2 e2 o.pk
theorem EV.pk{R:Rp α}{m:Res (List α)}(h:EV Er t σ W (sh<|isL R) m):EV Er t σ W (pk R) m:=h.imp fun _ _ _ r=>pk.of r
theorem aS{R:Rw α}[MonoW R]{i:Nat}{v:V}{a:α}(r:R W a v)(h:σ[i]? =some (some v):=by rfl):EV Er (ba i) σ W R (.ok a):=fun W1 e1 Q k=>⟨v,h,k v W1 (.refl _)<|MonoW.mono e1 r⟩
def isB:Rp Bool:=fun _ b v=>v=.bl b
instance zkeep10:Mono isB:=⟨fun _ h=>h⟩
def zk:Rp Unit:=fun _ _ v=>v=.non
def isO(R:Rp α):Rp (Option α):=fun H o v=>match o with|none=>v=.non|some a=>R H a v/\v≠.non
instance zkeep12{R:Rp α}[Mono R]:Mono (isO R):=⟨fun{H H' m v}e h=>by
 cases m with
 |none=>exact h
 |some a=>exact⟨CJ e h.1,h.2⟩⟩
theorem ao{i:Int}:EV Er (tC<|.int i) σ W (sh isI) (.ok i):=fun W1 _ Q k=>k _ W1 (.refl _) rfl
theorem aJ{x:Str}{l:Tx}(h:x=sOf l):EV Er (tC<|.str x) σ W (sh isS) (.ok l):=fun W1 _ Q k=>k _ W1 (.refl _) (by rw[h];rfl)
theorem gV{b:Bool}:EV Er (tC<|.bl b) σ W (sh isB) (.ok b):=fun W1 _ Q k=>k _ W1 (.refl _) rfl
theorem yn:EV Er (tC .non) σ W (sh zk) (.ok ()):=fun W1 _ Q k=>k _ W1 (.refl _) rfl
theorem vV{R:Rp α}:EV Er (tC .non) σ W (sh<|isO R) (.ok none):=fun W1 _ Q k=>k _ W1 (.refl _) rfl
theorem nP{r:R2}{Ra:Rw α}[MonoW Ra]{Rb:Rw β}{R:Rw γ}{ma:Res α}{mb:Res β}{f:α->β->Res γ}(ha:EV Er ta σ W Ra ma)(hb:EV Er tb σ W Rb mb)
  (h:∀W a b x y Q,Ra W a x->Rb W b y->(f a b).OkE Er (fun c=>∀v W2,Ext W W2->R W2 c v->Q v W2.H)->r x y W.H Q):EV Er (dh r ta tb) σ W R (ma.bind fun a=>mb.bind fun b=>f a b):=fun W1 e1 Q k=>by
 refine ha W1 e1 _<|(CH k).imp fun a ka x W2 e2 hx=>?_;refine hb W2 (e1.trans e2) _<|(CH ka).imp fun b kb y W3 e3 hy=>?_;exact h W3 a b x y Q (MonoW.mono e3 hx) hy<|kb.imp fun c kc v W4 e4 hv=>kc v W4 ((e2.trans e3).trans e4) hv
theorem BW{r:V->Hp->VK->Prop}{Ra:Rw α}{R:Rw γ}{ma:Res α}{f:α->Res γ}(ha:EV Er ta σ W Ra ma)
  (h:∀W a x Q,Ra W a x->(f a).OkE Er (fun c=>∀v W2,Ext W W2->R W2 c v->Q v W2.H)->r x W.H Q):EV Er (fJ r ta) σ W R (ma.bind f):=fun W1 e1 Q k=>by
 refine ha W1 e1 _<|(CH k).imp fun a ka x W2 e2 hx=>?_;exact h W2 a x Q hx<|ka.imp fun c kc v W4 e4 hv=>kc v W4 (e2.trans e4) hv
section
variable{ma mb:Res Int}
theorem bx{g:Int->Int->Int}(ha:EV Er ta σ W (sh isI) ma)(hb:EV Er tb σ W (sh isI) mb):EV Er (dh (fc fun i j=>.int<|g i j) ta tb) σ W (sh isI) (ma.bind fun a=>mb.bind fun b=>.ok<|g a b):=
 nP ha hb fun W a b x y Q hx hy k=>by cases hx;cases hy;exact⟨a,b,rfl,rfl,k _ W (.refl _) rfl⟩
theorem sJ{C:Int->Int->Prop}{g:Int->Int->Int}{f:Int->Int->Res Int}(hf:∀a b P,(f a b).OkE Er P->C a b/\P (g a b))(ha:EV Er ta σ W (sh isI) ma)(hb:EV Er tb σ W (sh isI) mb):
  EV Er (dh (rI C fun i j=>.int<|g i j) ta tb) σ W (sh isI) (ma.bind fun a=>mb.bind fun b=>f a b):=
 nP ha hb fun W a b x y Q hx hy k=>by cases hx;cases hy;exact⟨a,b,rfl,rfl,(hf a b _ k).1,(hf a b _ k).2 _ W (.refl _) rfl⟩
theorem nQ(ha:EV Er ta σ W (sh isI) ma)(hb:EV Er tb σ W (sh isI) mb):EV Er (dh (rI CMul fun i j=>.int<|i*j) ta tb) σ W (sh isI) (ma.bind fun a=>mb.bind fun b=>mI a b):=sJ (fun a b P h=>by unfold mI at h;obtain⟨h1,h2⟩:=aM h;exact⟨h1,h2⟩) ha hb
theorem vW(ha:EV Er ta σ W (sh isI) ma)(hb:EV Er tb σ W (sh isI) mb):EV Er (dh (rI zD fun i j=>.int<|i/j) ta tb) σ W (sh isI) (ma.bind fun a=>mb.bind fun b=>p5 a b):=sJ (fun a b P h=>by unfold p5 at h;obtain⟨h1,h2⟩:=aM h;exact⟨h1,h2⟩) ha hb
theorem lN(ha:EV Er ta σ W (sh isI) ma)(hb:EV Er tb σ W (sh isI) mb):EV Er (dh (rI (fun _ j=>0<j) fun i j=>.int<|i%j) ta tb) σ W (sh isI) (ma.bind fun a=>mb.bind fun b=>lM a b):=sJ (fun a b P h=>by unfold lM at h;obtain⟨h1,h2⟩:=aM h;exact⟨h1,h2⟩) ha hb
theorem aD{C:Int->Int->Prop}{g:Int->Int->Int}{n:Int}(hn:∀a,C a n)(ha:EV Er ta σ W (sh isI) ma):EV Er (dh (rI C fun i j=>.int<|g i j) ta<|tC<|.int n) σ W (sh isI) (ma.bind fun a=>.ok<|g a n):=
 fun W1 e1 Q k=>ha W1 e1 _ ((CH k).imp fun a ka x W2 e2 hx=>by cases hx;exact⟨a,n,rfl,rfl,hn a,ka _ W2 e2 rfl⟩)
end
end
section
variable{α β γ δ:Type}{t ta tb tc:TE}{σ:St}{W W0 W':Wd}{K:CL}
theorem jb{n:Nat}(h:n<=cap):n<=sizeLine:=by rw[El];unfold cap at h;omega
section
variable{ma mb:Res Int}
theorem sL(ha:EV Er ta σ W (sh isI) ma):EV Er (fJ (rU fun i=>.int<|-i) ta) σ W (sh isI) (ma.bind fun a=>.ok<|-a):=
 BW ha fun W a x Q hx k=>by cases hx;exact⟨a,rfl,k _ W (.refl _) rfl⟩
theorem fH{g:Int->Int->Bool}(ha:EV Er ta σ W (sh isI) ma)(hb:EV Er tb σ W (sh isI) mb):EV Er (dh (fc fun i j=>.bl<|g i j) ta tb) σ W (sh isB) (ma.bind fun a=>mb.bind fun b=>.ok<|g a b):=
 nP ha hb fun W a b x y Q hx hy k=>by cases hx;cases hy;exact⟨a,b,rfl,rfl,k _ W (.refl _) rfl⟩
end
theorem dI{a b:Int}:decide (FC a=FC b)=decide (a=b):=by rw[Ef];simp
theorem dS{a b:Tx}:decide (GU (sOf a)=GU (sOf b))=decide (a=b):=by
 rw[Ef,decide_eq_true_eq,decide_eq_true_eq];exact⟨fun h=>oX<|GU.inj h,fun h=>by rw[h]⟩
theorem dJ{ma mb:Res Int}(ha:EV Er ta σ W (sh isI) ma)(hb:EV Er tb σ W (sh isI) mb):EV Er (dh fK ta tb) σ W (sh isB) (ma.bind fun a=>mb.bind fun b=>.ok<|decide<|a=b):=
 nP ha hb fun W a b x y Q hx hy k=>by cases hx;cases hy;exact⟨rfl,by rw[dI];exact k _ W (.refl _) rfl⟩
theorem lO{ma mb:Res Tx}(ha:EV Er ta σ W (sh isS) ma)(hb:EV Er tb σ W (sh isS) mb):EV Er (dh fK ta tb) σ W (sh isB) (ma.bind fun a=>mb.bind fun b=>.ok<|decide<|a=b):=
 nP ha hb fun W a b x y Q hx hy k=>by cases hx;cases hy;exact⟨rfl,by rw[dS];exact k _ W (.refl _) rfl⟩
theorem yo{ma mb:Res Int}(ha:EV Er ta σ W (sh isI) ma)(hb:EV Er tb σ W (sh isI) mb):EV Er (dh fR ta tb) σ W (sh isB) (ma.bind fun a=>mb.bind fun b=>.ok<|!decide (a=b)):=
 nP ha hb fun W a b x y Q hx hy k=>by cases hx;cases hy;exact⟨rfl,by rw[dI];exact k _ W (.refl _) rfl⟩
theorem vX{R:Rp α}{ma:Res (Option α)}(ha:EV Er ta σ W (sh<|isO R) ma):EV Er (dh (fun x y H Q=>y=.non/\Q (.bl<|!decide (x=.non)) H) ta<|tC .non) σ W (sh isB) (ma.bind fun a=>.ok a.isSome):=fun W1 e1 Q k=>
 ha W1 e1 _ ((CH k).imp fun a ka x W2 e2 hx=>⟨rfl,by
  have e:(!decide (x=V.non))=a.isSome:=by
   cases a with
   |none=>cases hx;rfl
   |some b=>rw[decide_eq_false hx.2];rfl
  rw[e];exact ka _ W2 e2 rfl⟩)
theorem bq{m:Res Bool}(h:EV Er t σ W (sh isB) m):TV Er (bH t) σ W m:=fun W1 e1 Q k=>h W1 e1 _<|k.imp fun b kb v W2 e2 hv=>⟨b,hv,kb W2 e2⟩
theorem gb{m:Res Bool}(h:EV Er t σ W (sh isB) m):TV Er (tB t) σ W m:=fun W1 e1 Q k=>h W1 e1 _<|k.imp fun b kb v W2 e2 hv=>⟨b,hv,kb W2 e2⟩
theorem dY{t:TT}{m:Res Bool}(h:TV Er t σ W m):TV Er (cV t) σ W (m.bind fun b=>.ok<|!b):=fun W1 e1 Q k=>h W1 e1 _<|(CH k).imp fun b kb W2 e2=>kb W2 e2
theorem lP{t u:TT}{m n:Res Bool}(h:TV Er t σ W m)(g:TV Er u σ W n):TV Er (cU t u) σ W (m.bind fun b=>if b then n else .ok false):=fun W1 e1 Q k=>h W1 e1 _ ((CH k).imp fun b kb W2 e2=>by
 cases b with
 |true=>exact g W2 (e1.trans e2) _ (kb.imp fun c kc W3 e3=>kc W3<|e2.trans e3)
 |false=>exact kb W2 e2)
theorem p7{t u:TT}{m n:Res Bool}(h:TV Er t σ W m)(g:TV Er u σ W n):TV Er (fP t u) σ W (m.bind fun b=>if b then .ok true else n):=fun W1 e1 Q k=>h W1 e1 _ ((CH k).imp fun b kb W2 e2=>by
 cases b with
 |true=>exact kb W2 e2
 |false=>exact g W2 (e1.trans e2) _ (kb.imp fun c kc W3 e3=>kc W3 (e2.trans e3)))
theorem yp{m n:Res Bool}(h:EV Er ta σ W (sh isB) m)(g:EV Er tb σ W (sh isB) n):EV Er (bE ta tb) σ W (sh isB) (m.bind fun b=>if b then n else .ok false):=fun W1 e1 Q k=>h W1 e1 _ ((CH k).imp fun b kb v W2 e2 hv=>⟨b,hv,by
 cases b with
 |true=>exact g W2 (e1.trans e2) _ (kb.imp fun c kc v W3 e3 hv=>kc v W3 (e2.trans e3) hv)
 |false=>exact kb _ W2 e2 rfl⟩)
theorem sM{m:Res Bool}(h:EV Er ta σ W (sh isB) m):EV Er (bF ta) σ W (sh isB) (m.bind fun b=>.ok<|!b):=fun W1 e1 Q k=>h W1 e1 _<|(CH k).imp fun b kb v W2 e2 hv=>⟨b,hv,kb _ W2 e2 rfl⟩
theorem sN{R:Rw α}{c:TT}{mc:Res Bool}{m n:Res α}(hc:TV Er c σ W mc)(h:EV Er ta σ W R m)(g:EV Er tb σ W R n):EV Er (fQ c ta tb) σ W R (mc.bind fun b=>if b then m else n):=fun W1 e1 Q k=>hc W1 e1 _ ((CH k).imp fun b kb W2 e2=>by
 cases b with
 |true=>exact h W2 (e1.trans e2) _ (kb.imp fun c kc v W3 e3 hv=>kc v W3 (e2.trans e3) hv)
 |false=>exact g W2 (e1.trans e2) _ (kb.imp fun c kc v W3 e3 hv=>kc v W3 (e2.trans e3) hv))
theorem dv{ma mb:Res Tx}(ha:EV Er ta σ W (sh isS) ma)(hb:EV Er tb σ W (sh isS) mb):EV Er (dh (fun x y H Q=>∃i j,x=.str i/\y=.str j/\i.length+j.length<=sizeLine/\Q (.str<|i++j) H) ta tb) σ W (sh isS) (ma.bind fun a=>mb.bind fun b=>fG a b):=
 nP ha hb fun W a b x y Q hx hy k=>by
  cases hx;cases hy;obtain⟨h1,h2⟩:=aM k;exact⟨_,_,rfl,rfl,by rw[d4,d4];exact jb h1,by rw[gY];exact h2 _ W (.refl _) rfl⟩
theorem p8{ma:Res Tx}{mb:Res Int}(ha:EV Er ta σ W (sh isS) ma)(hb:EV Er tb σ W (sh isI) mb):EV Er (dh (fun x y H Q=>∃c n,x=.str (sOf [c])/\y=.int n/\0<=n/\n<=100000/\Q (.str<|sOf<|Dh n.toNat c) H) ta tb) σ W (sh isS) (ma.bind fun a=>mb.bind fun b=>vS a b):=
 nP ha hb fun W a b x y Q hx hy k=>by
  cases hx;cases hy
  match a,k with
  | [c],k=>
   obtain⟨h1,h2⟩:=aM k;exact⟨c,b,rfl,rfl,h1.1,h1.2,h2 _ W (.refl _) rfl⟩
theorem eU{ma:Res Tx}{mb:Res Int}(ha:EV Er ta σ W (sh isS) ma)(hb:EV Er tb σ W (sh isI) mb):EV Er (dh cX ta tb) σ W (sh isS) (ma.bind fun a=>mb.bind fun b=>k6 a b):=
 nP ha hb fun W a b x y Q hx hy k=>by
  cases hx;cases hy;obtain⟨h1,h2⟩:=aM<|CH k;obtain⟨c,h3,h4⟩:=eJ<|CH h2;exact⟨_,b,c,rfl,rfl,by rw[d4];exact jb h1,by rw[jf];exact h3,h4 _ W (.refl _) rfl⟩
theorem zV{R:Rw α}{r:V->Option Int->Option Int->Hp->VK->Prop}{Ra:Rw β}[MonoW Ra]{ma:Res β}{tl th:TO}{ml mh:Res (Option Int)}{f:β->Option Int->Option Int->Res α}(ha:EV Er ta σ W Ra ma)
  (hl:∀W1,Ext W W1->∀Q:Option Int->Hp->Prop,ml.OkE Er (fun o=>∀W2,Ext W1 W2->Q o W2.H)->tl σ W1.H Q) (hh:∀W1,Ext W W1->∀Q:Option Int->Hp->Prop,mh.OkE Er (fun o=>∀W2,Ext W1 W2->Q o W2.H)->th σ W1.H Q)
  (h:∀W a x lo hi Q,Ra W a x->(f a lo hi).OkE Er (fun c=>∀v W2,Ext W W2->R W2 c v->Q v W2.H)->r x lo hi W.H Q):EV Er (fE r ta tl th) σ W R (ma.bind fun a=>ml.bind fun lo=>mh.bind fun hi=>f a lo hi):=fun W1 e1 Q k=>
 ha W1 e1 _ ((CH k).imp fun a ka x W2 e2 hx=>hl W2 (e1.trans e2) _ ((CH ka).imp fun lo kl W3 e3=>hh W3 ((e1.trans e2).trans e3) _ ((CH kl).imp fun hi kh W4 e4=>
  h W4 a x lo hi Q (MonoW.mono (e3.trans e4) hx) (kh.imp fun c kc v W5 e5 hv=>kc v W5 (((e2.trans e3).trans e4).trans e5) hv))))
theorem fN:∀W1,Ext W W1->∀Q:Option Int->Hp->Prop,(CT (none:Option Int)).OkE Er (fun o=>∀W2,Ext W1 W2->Q o W2.H)->aE σ W1.H Q:=fun W1 _ Q k=>k W1<|.refl _
theorem dU{m:Res Int}(h:EV Er t σ W (sh isI) m):∀W1,Ext W W1->∀Q:Option Int->Hp->Prop,(m.bind fun i=>.ok<|some i).OkE Er (fun o=>∀W2,Ext W1 W2->Q o W2.H)->bI t σ W1.H Q:=fun W1 e1 Q k=>
 h W1 e1 _ ((CH k).imp fun i ki v W2 e2 hv=>⟨i,hv,ki W2 e2⟩)
theorem d5{ma:Res Tx}{tl th:TO}{ml mh:Res (Option Int)}(ha:EV Er ta σ W (sh isS) ma)
  (hl:∀W1,Ext W W1->∀Q:Option Int->Hp->Prop,ml.OkE Er (fun o=>∀W2,Ext W1 W2->Q o W2.H)->tl σ W1.H Q) (hh:∀W1,Ext W W1->∀Q:Option Int->Hp->Prop,mh.OkE Er (fun o=>∀W2,Ext W1 W2->Q o W2.H)->th σ W1.H Q):
  EV Er (fE (fun x lo hi H Q=>∃l,x=.str (sOf l)/\l.length<=sizeLine/\Q (.str<|sOf<|j9 l lo hi) H) ta tl th) σ W (sh isS) (ma.bind fun a=>ml.bind fun lo=>mh.bind fun hi=>gS a lo hi):=
 zV ha hl hh fun W a x lo hi Q hx k=>by
  cases hx;obtain⟨h1,h2⟩:=aM k;exact⟨a,rfl,jb h1,h2 _ W (.refl _) rfl⟩
theorem zW(x:Tx)(c j:Nat)(h:sH x c=some j):HE (sOf x) (sOf [c])=(j:Int):=by
 unfold sH at h;rw[List.findIdx?_eq_some_iff_getElem]at h;obtain⟨hj,h1,h2⟩:=h;have hat:∀i,StrLaws.At (sOf x) (sOf [c]) (sOf x).length i↔x[i]? =some c:=fun i=>by
  have:=StrLaws.subAt_one (sOf x) c i;rw[jf]at this;exact this
 unfold HE;rcases StrLaws.occ_head (sOf x) (sOf [c]) 1 (D8 _)with⟨_,hn⟩|⟨i,r,e,hi,hk⟩
 ·exact absurd ((hat j).mpr (by rw[Dj hj];simpa using h1))<|hn j
 ·rw[e];have e2:=(hat i).mp hi;obtain⟨hil,e3⟩:=CP.mp e2;have:i=j:=by
   rcases Nat.lt_trichotomy i j with z|z|z;·exact absurd e3 (by simpa using h2 i z)
   ·exact z
   ·exact absurd ((hat j).mpr (by rw[Dj hj];simpa using h1))<|hk j z
  rw[this]
theorem vY{ma mb:Res Tx}{K:CL}(ha:EV Er ta σ W (sh isS) ma)(hb:EV Er tb σ W (sh isS) mb):EV Er (eG K "str" (fun x xs H Q=>∃a b,x=.str a/\xs=[.str b]/\0<=HE a b/\Q (.int<|HE a b) H) ta<|ag tb aH) σ W (sh isI) (ma.bind fun a=>mb.bind fun b=>zS a b):=fun W1 e1 Q k=>
 ha W1 e1 _ ((CH k).imp fun a ka x W2 e2 hx=>by
  cases hx;refine⟨rfl,hb W2 (e1.trans e2) _<|(CH ka).imp fun b kb y W3 e3 hy=>?_⟩;cases hy
  match b,kb with
  | [c],kb=>
   obtain⟨j,h1,h2⟩:=eJ (CH kb);have e:=zW a c j h1;exact⟨_,_,rfl,rfl,by rw[e];omega,by rw[e];exact h2 _ W3 (e2.trans e3) rfl⟩)
theorem yq{ma mb:Res Tx}(ha:EV Er ta σ W (sh isS) ma)(hb:EV Er tb σ W (sh isS) mb):EV Er (dh (fun x y H Q=>∃i j,x=.str i/\y=.str j/\Q (.bl<|!(EO j i 0 j.length 1).isEmpty) H) ta tb) σ W (sh isB) (ma.bind fun a=>mb.bind fun b=>zU a b):=
 nP ha hb fun W a b x y Q hx hy k=>by
  cases hx;cases hy
  match a,k with
  | [c],k=>
   refine⟨_,_,rfl,rfl,?_⟩;have e:(!(EO (sOf b) (sOf [c]) 0 (sOf b).length 1).isEmpty)=b.contains c:=by
    have:=JL (sOf b) c;rw[jf]at this;rw[this,Ef];simp
   rw[e];exact k _ W (.refl _) rfl
theorem qx{ma mb:Res Tx}(ha:EV Er ta σ W (sh isS) ma)(hb:EV Er tb σ W (sh isS) mb):EV Er (dh (fun x y H Q=>∃i j,x=.str i/\y=.str j/\Q (.bl<|!(!(EO j i 0 j.length 1).isEmpty)) H) ta tb) σ W (sh isB) (ma.bind fun a=>mb.bind fun b=>(zU a b).bind fun c=>.ok<|!c):=
 nP ha hb fun W a b x y Q hx hy k=>by
  cases hx;cases hy
  match a,k with
  | [c],k=>
   refine⟨_,_,rfl,rfl,?_⟩;have e:(!(EO (sOf b) (sOf [c]) 0 (sOf b).length 1).isEmpty)=b.contains c:=by
    have:=JL (sOf b) c;rw[jf]at this;rw[this,Ef];simp
   rw[e];exact k _ W (.refl _) rfl
theorem Same.tup{H H':Hp}{a:Addr}{xs:List V}(e:Same H H')(h:SqT K H a xs):SqT K H' a xs:=by
 rcases h with(h|⟨o,h⟩)|h;·exact .inl<|.inl<|e _ _ h
 ·exact .inl<|.inr ⟨o,e _ _ h⟩
 ·exact .inr h
def isT2(K:CL)(R1:Rp α)(R2:Rp β):Rp (α×β):=fun H a v=>∃p x y,v=.ref p/\SqT K H p [x,y]/\R1 H a.1 x/\R2 H a.2 y
def isT3(K:CL)(R1:Rp α)(R2:Rp β)(R3:Rp γ):Rp (α×β×γ):=fun H a v=>∃p x y z,v=.ref p/\SqT K H p [x,y,z]/\R1 H a.1 x/\R2 H a.2.1 y/\R3 H a.2.2 z
def isT4(K:CL)(R1:Rp α)(R2:Rp β)(R3:Rp γ)(R4:Rp δ):Rp (α×β×γ×δ):=fun H a v=>∃p x y z u,v=.ref p/\SqT K H p [x,y,z,u]/\R1 H a.1 x/\R2 H a.2.1 y/\R3 H a.2.2.1 z/\R4 H a.2.2.2 u
instance zkeep14{R1:Rp α}{R2:Rp β}[Mono R1][Mono R2]:Mono (isT2 K R1 R2):=⟨fun e⟨p,x,y,h0,h,h1,h2⟩=>⟨p,x,y,h0,Same.tup e h,CJ e h1,CJ e h2⟩⟩
instance zkeep15{R1:Rp α}{R2:Rp β}{R3:Rp γ}[Mono R1][Mono R2][Mono R3]:Mono (isT3 K R1 R2 R3):=⟨fun e⟨p,x,y,z,h0,h,h1,h2,h3⟩=>⟨p,x,y,z,h0,Same.tup e h,CJ e h1,CJ e h2,CJ e h3⟩⟩
instance zkeep16{R1:Rp α}{R2:Rp β}{R3:Rp γ}{R4:Rp δ}[Mono R1][Mono R2][Mono R3][Mono R4]:Mono (isT4 K R1 R2 R3 R4):=⟨fun e⟨p,x,y,z,u,h0,h,h1,h2,h3,h4⟩=>⟨p,x,y,z,u,h0,Same.tup e h,CJ e h1,CJ e h2,CJ e h3,CJ e h4⟩⟩
theorem bQ{R1:Rp α}{R2:Rp β}[Mono R1][Mono R2]{ma:Res α}{mb:Res β}(ha:EV Er ta σ W (sh R1) ma)(hb:EV Er tb σ W (sh R2) mb):EV Er (cu<|ag ta<|ag tb aH) σ W (sh<|isT2 K R1 R2) (ma.bind fun a=>mb.bind fun b=>.ok (a,b)):=fun W1 e1 Q k=>
 ha W1 e1 _ ((CH k).imp fun a ka x W2 e2 hx=>hb W2 (e1.trans e2) _ ((CH ka).imp fun b kb y W3 e3 hy=>⟨(by show 2<=sizeLine;decide),fun p hp=>
  kb (.ref p) (W3.new p (.tup [x,y])) ((e2.trans e3).trans (.new _ hp)) ⟨p,x,y,rfl,Ju ak,CJ (Ext.new _ hp).g (CJ (R:=R1) e3.g hx),CJ (R:=R2) (Ext.new _ hp).g hy⟩⟩))
theorem i9{R1:Rp α}{R2:Rp β}{R3:Rp γ}[Mono R1][Mono R2][Mono R3]{ma:Res α}{mb:Res β}{mc:Res γ}(ha:EV Er ta σ W (sh R1) ma)(hb:EV Er tb σ W (sh R2) mb)(hc:EV Er tc σ W (sh R3) mc):
  EV Er (cu<|ag ta<|ag tb<|ag tc aH) σ W (sh<|isT3 K R1 R2 R3) (ma.bind fun a=>mb.bind fun b=>mc.bind fun c=>.ok (a,b,c)):=fun W1 e1 Q k=>
 ha W1 e1 _ ((CH k).imp fun a ka x W2 e2 hx=>hb W2 (e1.trans e2) _ ((CH ka).imp fun b kb y W3 e3 hy=>hc W3 ((e1.trans e2).trans e3) _ ((CH kb).imp fun c kc z W4 e4 hz=>⟨(by show 3<=sizeLine;decide),fun p hp=>
  kc (.ref p) (W4.new p (.tup [x,y,z])) (((e2.trans e3).trans e4).trans (.new _ hp)) ⟨p,x,y,z,rfl,Ju ak,CJ (Ext.new _ hp).g (CJ (R:=R1) (e3.trans e4).g hx),CJ (R:=R2) (Ext.new _ hp).g (CJ (R:=R2) e4.g hy),CJ (R:=R3) (Ext.new _ hp).g hz⟩⟩)))
theorem cK{R:Rp α}{Rt:Rp β}{m:Res β}{i:Int}{f:β->α}(h:∀H b v,Rt H b v->∃p xs x,v=.ref p/\SqT K H p xs/\L2.atI xs i=some x/\R H (f b) x)(ha:EV Er ta σ W (sh Rt) m):EV Er (dh (cH K) ta<|tC<|.int i) σ W (sh R) (m.bind fun b=>.ok<|f b):=fun W1 e1 Q k=>
 ha W1 e1 _ ((CH k).imp fun b kb v W2 e2 hv=>by
  obtain⟨p,xs,x,h1,h2,h3,h4⟩:=h _ _ _ hv;exact⟨p,xs,i,x,h1,rfl,Same.tup W2.ok h2,h3,kb _ W2 e2 h4⟩)
theorem yr{R1:Rp α}{R2:Rp β}{R3:Rp γ}:∀H b v,isT3 K R1 R2 R3 H b v->∃p xs x,v=.ref p/\SqT K H p xs/\L2.atI xs 0=some x/\R1 H b.1 x:=fun _ _ _⟨p,x,y,z,h0,h,h1,h2,h3⟩=>⟨p,_,x,h0,h,rfl,h1⟩
theorem qy{R1:Rp α}{R2:Rp β}{R3:Rp γ}:∀H b v,isT3 K R1 R2 R3 H b v->∃p xs x,v=.ref p/\SqT K H p xs/\L2.atI xs 1=some x/\R2 H b.2.1 x:=fun _ _ _⟨p,x,y,z,h0,h,h1,h2,h3⟩=>⟨p,_,y,h0,h,rfl,h2⟩
theorem yt{R1:Rp α}{R2:Rp β}{R3:Rp γ}:∀H b v,isT3 K R1 R2 R3 H b v->∃p xs x,v=.ref p/\SqT K H p xs/\L2.atI xs 2=some x/\R3 H b.2.2 x:=fun _ _ _⟨p,x,y,z,h0,h,h1,h2,h3⟩=>⟨p,_,z,h0,h,rfl,h3⟩
theorem p9{R:Rp α}{H:Hp}{as:List α}{xs:List V}(h:LR R H as xs){i:Int}{a:α}(e:rF as i=some a):∃x,L2.atI xs i=some x/\R H a x:=by
 unfold rF at e;unfold L2.atI;rw[h.1];cases z:Mi.ixN as.length i with
 |none=>rw[z]at e;cases e
 |some j=>
  rw[z]at e;obtain⟨x,h1,h2⟩:=h.get (i:=j) e;exact⟨x,by show(L2.ixN as.length i).bind _=_;rw[show L2.ixN as.length i=Mi.ixN as.length i from rfl,z];exact h1,h2⟩
theorem eV{R:Rp α}[Mono R]{ma:Res (List α)}{mb:Res Int}(ha:EV Er ta σ W (pk R) ma)(hb:EV Er tb σ W (sh isI) mb):EV Er (dh (cG K) ta tb) σ W (sh R) (ma.bind fun a=>mb.bind fun b=>iW a b):=
 nP ha hb fun W a b x y Q hx hy k=>by
  cases hy;obtain⟨p,vs,rfl,h,h1⟩:=hx;obtain⟨c,h4,h5⟩:=eJ k;obtain⟨z,h6,h7⟩:=p9 h1 h4;exact⟨p,_,b,z,rfl,rfl,F6 h,h6,h5 _ W (.refl _) h7⟩
theorem pe{R:Rp α}:EVo Er (cJ aH) σ W R (.ok []):=fun W1 e1 Q k=>⟨by decide,fun p hp=>k p (W1.mut p (.lst [])<|W1.gnone hp) (.own _ hp) hp ⟨W1.gnone hp,[],ak,.nil⟩⟩
def AV(Er:Nat->Prop)(t:TA)(σ:St)(W:Wd)(R:Rp α)(n:Nat)(m:Res (List α)):Prop:=∀W1,Ext W W1->∀Q:List V->Hp->Prop,m.OkE Er (fun as=>∀vs W2,Ext W1 W2->vs.length=n->LR R W2.G as vs->Q vs W2.H)->t σ W1.H Q
theorem dZ{R:Rp α}:AV Er aH σ W R 0 (.ok []):=fun W1 _ Q k=>k [] W1 (.refl _) rfl .nil
theorem LR.cons{R:Rp α}{H:Hp}{a:α}{v:V}{as:List α}{vs:List V}(h:R H a v)(r:LR R H as vs):LR R H (a::as) (v::vs):=⟨by simp[r.1],fun i x m e1 e2=>by
 cases i with
 |zero=>cases e1;cases e2;exact h
 |succ j=>exact r.2 j x m e1 e2⟩
theorem bw{R:Rp α}[Mono R]{n:Nat}{ts:TA}{m:Res α}{ms:Res (List α)}(h:EV Er t σ W (sh R) m)(g:AV Er ts σ W R n ms):AV Er (ag t ts) σ W R (n+1) (m.bind fun a=>ms.bind fun as=>.ok (a::as)):=fun W1 e1 Q k=>
 h W1 e1 _ ((CH k).imp fun a ka v W2 e2 hv=>g W2 (e1.trans e2) _ ((CH ka).imp fun as kas vs W3 e3 hn hvs=>kas (v::vs) W3 (e2.trans e3) (by simp[hn])<|.cons (CJ (R:=R) e3.g hv) hvs))
theorem ed{R:Rp α}[Mono R]{n:Nat}{ts:TA}{ms:Res (List α)}(g:AV Er ts σ W R n ms)(hn:n<=cap:=by decide):EVo Er (cJ ts) σ W R ms:=fun W1 e1 Q k=>
 g W1 e1 _ (k.imp fun as ka vs W2 e2 hv hvs=>⟨by rw[hv];exact jb hn,fun p hp=>ka p (W2.mut p (.lst vs)<|W2.gnone hp) (e2.trans<|.own _ hp) (none_of e2.h hp) ⟨W2.gnone hp,vs,ak,hvs⟩⟩)
theorem fI{R:Rp α}[Mono R]{ma mb:Res (List α)}(ha:EV Er ta σ W (pk R) ma)(hb:EV Er tb σ W (pk R) mb):EVo Er (dh cY ta tb) σ W R (ma.bind fun a=>mb.bind fun b=>Bt a b):=fun W1 e1 Q k=>
 ha W1 e1 _ ((CH k).imp fun a ka x W2 e2 hx=>hb W2 (e1.trans e2) _ ((CH ka).imp fun b kb y W3 e3 hy=>by
  obtain⟨p,vs,rfl,h1,h2⟩:=MonoW.mono e3 hx;obtain⟨q,us,rfl,h3,h4⟩:=hy;obtain⟨h5,h6⟩:=aM kb;refine⟨p,q,vs,us,rfl,rfl,h1,h3,by rw[h2.1,h4.1];exact jb h5,fun r hr=>h6 r (W3.mut r (.lst<|vs++us)<|W3.gnone hr) ((e2.trans e3).trans (.own _ hr)) (none_of (e2.trans e3).h hr) ⟨W3.gnone hr,_,ak,?_⟩⟩;exact⟨by rw[Du,Du,h2.1,h4.1],fun i v m q1 q2=>by
   by_cases hi:i<vs.length
   ·rw[Dz hi]at q1;rw[Dz (by rw[<-h2.1];exact hi)]at q2;exact h2.2 i v m q1 q2
   ·rw[Dt (by omega)]at q1;rw[Dt (by rw[<-h2.1];omega)]at q2;rw[<-h2.1]at q2;exact h4.2 _ v m q1 q2⟩))
theorem LR.cut{R:Rp α}{H:Hp}{as:List α}{vs:List V}(h:LR R H as vs)(lo hi:Option Int):LR R H (Mi.cut as lo hi) (nK vs lo hi):=by
 unfold Mi.cut nK;rw[h.1];exact(h.drop _).take _
theorem vZ{R:Rp α}[Mono R]{ma:Res (List α)}{tl th:TO}{ml mh:Res (Option Int)}(ha:EV Er ta σ W (pk R) ma)
  (hl:∀W1,Ext W W1->∀Q:Option Int->Hp->Prop,ml.OkE Er (fun o=>∀W2,Ext W1 W2->Q o W2.H)->tl σ W1.H Q) (hh:∀W1,Ext W W1->∀Q:Option Int->Hp->Prop,mh.OkE Er (fun o=>∀W2,Ext W1 W2->Q o W2.H)->th σ W1.H Q):
  EVo Er (fE (cQ K) ta tl th) σ W R (ma.bind fun a=>ml.bind fun lo=>mh.bind fun hi=>.ok<|Mi.cut a lo hi):=fun W1 e1 Q k=>
 ha W1 e1 _ ((CH k).imp fun a ka x W2 e2 hx=>hl W2 (e1.trans e2) _ ((CH ka).imp fun lo kl W3 e3=>hh W3 ((e1.trans e2).trans e3) _ ((CH kl).imp fun hi kh W4 e4=>by
  obtain⟨p,vs,rfl,h1,h2⟩:=MonoW.mono (e3.trans e4) hx;have e5:=(e2.trans e3).trans e4;exact⟨p,vs,rfl,F6 h1,fun r hr=>kh r (W4.mut r (.lst (nK vs lo hi)) (W4.gnone hr)) (e5.trans (.own _ hr)) (none_of e5.h hr) ⟨W4.gnone hr,_,ak,h2.cut lo hi⟩⟩)))
theorem jJ{ma:Res Int}(ha:EV Er ta σ W (sh isI) ma):EV Er (eo (fun xs H Q=>∃i,xs=[.int i]/\Q (.int (if i<0 then -i else i)) H)<|ag ta aH) σ W (sh isI) (ma.bind fun a=>.ok<|dq a):=fun W1 e1 Q k=>
 ha W1 e1 _ ((CH k).imp fun a ka x W2 e2 hx=>by cases hx;exact⟨a,rfl,ka _ W2 e2 rfl⟩)
theorem gI{R:Rp α}{ma:Res (List α)}(ha:EV Er ta σ W (pk R) ma):EV Er (eo (fun xs H Q=>∃x n,xs=[x]/\mn K x H n/\Q (.int n) H)<|ag ta aH) σ W (sh isI) (ma.bind fun a=>.ok (a.length:Int)):=fun W1 e1 Q k=>
 ha W1 e1 _ ((CH k).imp fun a ka x W2 e2 hx=>by
  obtain⟨p,vs,rfl,h1,h2⟩:=hx;exact⟨_,a.length,rfl,.inl ⟨vs,F6 h1,h2.1.symm⟩,ka _ W2 e2 rfl⟩)
theorem lQ{ma:Res Tx}(ha:EV Er ta σ W (sh isS) ma):EV Er (eo (fun xs H Q=>∃x n,xs=[x]/\mn K x H n/\Q (.int n) H)<|ag ta aH) σ W (sh isI) (ma.bind fun a=>qw a):=fun W1 e1 Q k=>
 ha W1 e1 _ ((CH k).imp fun a ka x W2 e2 hx=>by
  cases hx;obtain⟨h1,h2⟩:=aM ka;exact⟨_,a.length,rfl,⟨by rw[d4];exact jb h1,by rw[d4]⟩,h2 _ W2 e2 rfl⟩)
theorem w4{ma:Res (List Tx)}{x:Str}(hx:x=sOf [])(ha:EV Er ta σ W (pk isS) ma):EV Er (eG K "str" (fun x xs H Q=>∃(p:Addr)(ys:List (List Nat)),x=.str (sOf [])/\xs=[.ref p]/\SqL K H p (ys.map fun y=>GU<|sOf y)/\ys.flatten.length<=100000/\Q (.str<|sOf ys.flatten) H) (tC<|.str x)<|ag ta aH) σ W (sh isS) (ma.bind fun a=>sI a):=fun W1 e1 Q k=>
 ⟨by show AO K "str" (.str x) W1.H;rfl,ha W1 e1 _ ((CH k).imp fun a ka v W2 e2 hv=>by
  obtain⟨p,vs,rfl,h1,h2⟩:=hv;obtain⟨h3,h4⟩:=aM ka;exact⟨p,a,by rw[hx],rfl,F6 (by rw[h1,h2.str]),h3,h4 _ W2 e2 rfl⟩)⟩
end
abbrev Rt(β:Type):=Wd->β->VK->Prop
def rs{β:Type}(R:Rp β):Rt β:=fun W r Q=>∀u W',Ext W W'->R W'.G r u->Q u W'.H
def ro{β:Type}(R:Rp β):Rt (List β):=fun W r Q=>∀p W',Ext W W'->W.H p=none->Ow R W' p r->Q (.ref p) W'.H
section
variable{α β γ δ ε ζ:Type}
def eA(R1:Rp α)(rt:Rt β)(m:α->Res β):Sp:=fun vs H Q _=>∃(W:Wd)(a:α)(v:V),W.H=H/\vs=[v]/\R1 W.G a v/\∃Er:Nat->Prop,(m a).OkE Er fun r=>rt W r Q
def cb(R1:Rp α)(R2:Rp γ)(rt:Rt β)(m:α->γ->Res β):Sp:=fun vs H Q _=>∃(W:Wd)(a:α)(b:γ)(v u:V),W.H=H/\vs=[v,u]/\R1 W.G a v/\R2 W.G b u/\∃Er:Nat->Prop,(m a b).OkE Er fun r=>rt W r Q
def iI(R1:Rp α)(R2:Rp γ)(R3:Rp δ)(rt:Rt β)(m:α->γ->δ->Res β):Sp:=fun vs H Q _=>∃(W:Wd)(a:α)(b:γ)(c:δ)(v u w:V),W.H=H/\vs=[v,u,w]/\R1 W.G a v/\R2 W.G b u/\R3 W.G c w/\∃Er:Nat->Prop,(m a b c).OkE Er fun r=>rt W r Q
variable{t t1 t2 t3 t4 t5:TE}{σ:St}{W W0 W':Wd}{K:CL}
section
variable{R1:Rp α}{R2:Rp γ}{R3:Rp δ}{R4:Rp ε}{R5:Rp ζ}[Mono R1][Mono R2][Mono R3][Mono R4][Mono R5]{m1:Res α}{m2:Res γ}{m3:Res δ}{m4:Res ε}{m5:Res ζ}{E:XK}
theorem dM{R:Rp β}{m:α->Res β}(h1:EV Er t1 σ W (sh R1) m1):EV Er (aK (eA R1 (rs R) m) [] E<|ag t1 aH) σ W (sh R) (m1.bind fun a=>m a):=fun W1 e1 Q k=>
 h1 W1 e1 _ ((CH k).imp fun a ka v W2 e2 hv=>⟨W2,a,v,rfl,rfl,hv,Er,ka.imp fun r kr u W' e hu=>kr u W' (e2.trans e) hu⟩)
theorem bt{R:Rp β}{m:α->γ->Res β}(h1:EV Er t1 σ W (sh R1) m1)(h2:EV Er t2 σ W (sh R2) m2):EV Er (aK (cb R1 R2 (rs R) m) [] E<|ag t1<|ag t2 aH) σ W (sh R) (m1.bind fun a=>m2.bind fun b=>m a b):=fun W1 e1 Q k=>
 h1 W1 e1 _ ((CH k).imp fun a ka v W2 e2 hv=>h2 W2 (e1.trans e2) _<|(CH ka).imp fun b kb u W3 e3 hu=>⟨W3,a,b,v,u,rfl,rfl,MonoW.mono (R:=sh R1) e3 hv,hu,Er,kb.imp fun r kr u W' e hu=>kr u W' ((e2.trans e3).trans e) hu⟩)
theorem kU{R:Rp β}{m:α->γ->Res (List β)}(h1:EV Er t1 σ W (sh R1) m1)(h2:EV Er t2 σ W (sh R2) m2):EVo Er (aK (cb R1 R2 (ro R) m) [] E<|ag t1<|ag t2 aH) σ W R (m1.bind fun a=>m2.bind fun b=>m a b):=fun W1 e1 Q k=>
 h1 W1 e1 _ ((CH k).imp fun a ka v W2 e2 hv=>h2 W2 (e1.trans e2) _<|(CH ka).imp fun b kb u W3 e3 hu=>⟨W3,a,b,v,u,rfl,rfl,MonoW.mono (R:=sh R1) e3 hv,hu,Er,kb.imp fun r kr p W' e hp o=>kr p W' ((e2.trans e3).trans e) (none_of (e2.trans e3).h hp) o⟩)
theorem sO{R:Rp β}{m:α->γ->δ->Res β}(h1:EV Er t1 σ W (sh R1) m1)(h2:EV Er t2 σ W (sh R2) m2)(h3:EV Er t3 σ W (sh R3) m3):EV Er (aK (iI R1 R2 R3 (rs R) m) [] E<|ag t1<|ag t2<|ag t3 aH) σ W (sh R) (m1.bind fun a=>m2.bind fun b=>m3.bind fun c=>m a b c):=fun W1 e1 Q k=>
 h1 W1 e1 _ ((CH k).imp fun a ka v W2 e2 hv=>h2 W2 (e1.trans e2) _ ((CH ka).imp fun b kb u W3 e3 hu=>h3 W3 ((e1.trans e2).trans e3) _ ((CH kb).imp fun c kc w W4 e4 hw=>
  ⟨W4,a,b,c,v,u,w,rfl,rfl,MonoW.mono (R:=sh R1) (e3.trans e4) hv,MonoW.mono (R:=sh R2) e4 hu,hw,Er,kc.imp fun r kr u W' e hu=>kr u W' (((e2.trans e3).trans e4).trans e) hu⟩)))
theorem gJ{R:Rp β}{m:α->γ->δ->Res (List β)}(h1:EV Er t1 σ W (sh R1) m1)(h2:EV Er t2 σ W (sh R2) m2)(h3:EV Er t3 σ W (sh R3) m3):EVo Er (aK (iI R1 R2 R3 (ro R) m) [] E<|ag t1<|ag t2<|ag t3 aH) σ W R (m1.bind fun a=>m2.bind fun b=>m3.bind fun c=>m a b c):=fun W1 e1 Q k=>
 h1 W1 e1 _ ((CH k).imp fun a ka v W2 e2 hv=>h2 W2 (e1.trans e2) _ ((CH ka).imp fun b kb u W3 e3 hu=>h3 W3 ((e1.trans e2).trans e3) _ ((CH kb).imp fun c kc w W4 e4 hw=>
  ⟨W4,a,b,c,v,u,w,rfl,rfl,MonoW.mono (R:=sh R1) (e3.trans e4) hv,MonoW.mono (R:=sh R2) e4 hu,hw,Er,kc.imp fun r kr p W' e hp o=>kr p W' (((e2.trans e3).trans e4).trans e) (none_of ((e2.trans e3).trans e4).h hp) o⟩)))
end
def Yl(J:It)(W:Wd)(R:Rp α)(xs:List α):Prop:=∀W1:Wd,Same W.G W1.G->(∀(i:Nat)(a:α),xs[i]? =some a->J.go i W1.H/\∀x H',J.yld i W1.H x H'->∃W2:Wd,W2.H=H'/\Ext W1 W2/\R W2.G a x)/\J.stop xs.length W1.H
def IV(Er:Nat->Prop)(wi:TI)(σ:St)(W:Wd)(R:Rp α)(m:Res (List α)):Prop:=∀W1,Ext W W1->∀P:It->Hp->Prop,m.OkE Er (fun xs=>∀J W2,Ext W1 W2->Yl J W2 R xs->P J W2.H)->wi σ W1.H P
theorem fe{R:Rp α}[Mono R]{m:Res (List α)}(h:EV Er t σ W (sh<|isL R) m):IV Er (mi K t) σ W R m:=fun W1 e1 P k=>
 h W1 e1 _ (k.imp fun xs kx v W2 e2 hv=>by
  obtain⟨p,vs,rfl,h1,h2⟩:=hv;refine⟨p,rfl,⟨vs,F6 (W2.ok _ _ h1)⟩,kx _ W2 e2 fun W3 e3=>⟨fun i a ha=>?_,vs,F6 (W3.ok _ _ (e3 _ _ h1)),by rw[h2.1];exact D8 _⟩⟩;obtain⟨x,hx,hr⟩:=h2.get ha;refine⟨⟨vs,x,F6 (W3.ok _ _ (e3 _ _ h1)),hx⟩,fun y H'⟨z1,z2⟩=>⟨W3,z1.symm,.refl _,?_⟩⟩;have:=z2 vs (F6 (W3.ok _ _ (e3 _ _ h1)));rw[hx]at this;cases this;exact CJ e3 hr)
theorem iJ{m:Res Tx}(h:EV Er t σ W (sh isS) m):IV Er (zJ t) σ W isS (m.bind fun x=>.ok<|aU x):=fun W1 e1 P k=>
 h W1 e1 _ ((CH k).imp fun x kx v W2 e2 hv=>by
  cases hv;refine⟨x,rfl,kx _ W2 e2 fun W3 e3=>⟨fun i a ha=>?_,by show x.length<=(aU x).length;simp[aU]⟩⟩;unfold aU at ha;rw[DQ]at ha;cases hc:x[i]? with
  |none=>rw[hc]at ha;cases ha
  |some c=>
   rw[hc]at ha;cases ha;refine⟨(CP.mp hc).1,fun y H'⟨z1,c',z2,z3⟩=>⟨W3,z1.symm,.refl _,?_⟩⟩;rw[hc]at z2;cases z2;exact z3)
theorem ia{m:Res Int}(h:EV Er t σ W (sh isI) m):IV Er (rK<|ag t aH) σ W isI (m.bind fun n=>fZ n):=fun W1 e1 P k=>
 h W1 e1 _ ((CH k).imp fun n kn v W2 e2 hv=>by
  cases hv;obtain⟨hb,kn⟩:=aM kn;refine⟨n,rfl,hb.1,hb.2,kn _ W2 e2 fun W3 e3=>⟨fun i a ha=>?_,by show n.toNat<=(fk n).length;simp[fk]⟩⟩;unfold fk at ha;rw[DQ]at ha;have hi:i<n.toNat:=by
   refine Eb fun z=>?_;rw[DA.mpr (by simp;omega)]at ha;cases ha
  rw[List.getElem?_range hi]at ha;cases ha;exact⟨hi,fun y H'⟨z1,z2⟩=>⟨W3,z1.symm,.refl _,by rw[z2];show FC (0+(i:Int))=.int (i:Int);rw[Int.zero_add]⟩⟩)
def SrcR(K:CL)(W:Wd)(R:Rp α)(xs:List α)(v:V):Prop:=∃(c:Src)(vs:List V),v=c.val/\(∀W1:Wd,Same W.G W1.G->c.has K W1.H vs)/\LR R W.G xs vs
theorem SrcR.mono{R:Rp α}[Mono R]{xs:List α}{v:V}(h:SrcR K W R xs v)(e:Same W.G W'.G):SrcR K W' R xs v:=by
 obtain⟨c,vs,h1,h2,h3⟩:=h;exact⟨c,vs,h1,fun W1 e1=>h2 W1<|e.trans e1,h3.same e⟩
def SV(Er:Nat->Prop)(t:TE)(σ:St)(W:Wd)(K:CL)(R:Rp α)(m:Res (List α)):Prop:=EV Er t σ W (fun W xs v=>SrcR K W R xs v) m
theorem dN{R:Rp α}[Mono R]{m:Res (List α)}(h:EV Er t σ W (sh<|isL R) m):SV Er t σ W K R m:=h.imp fun W xs v⟨p,vs,h0,h1,h2⟩=>⟨.lst p,vs,h0,fun W1 e1=>F6<|W1.ok _ _<|e1 _ _ h1,h2⟩
theorem sP{H:Hp}(x:Tx):LR isS H (aU x) (x.map fun c=>GU<|sOf [c]):=⟨by simp[aU],fun i v m e1 e2=>by
 unfold aU at e2;rw[DQ]at e1 e2;cases hc:x[i]? with
 |none=>rw[hc]at e1;cases e1
 |some c=>rw[hc]at e1 e2;cases e1;cases e2;rfl⟩
theorem gc{m:Res Tx}(h:EV Er t σ W (sh isS) m):SV Er t σ W K isS (m.bind fun x=>.ok<|aU x):=fun W1 e1 Q k=>
 h W1 e1 _ ((CH k).imp fun x kx v W2 e2 hv=>by cases hv;exact kx _ W2 e2 ⟨.str x,_,rfl,fun _ _=>rfl,sP x⟩)
theorem gf{R1:Rp α}{R2:Rp β}[Mono R1][Mono R2]{m1:Res (List α)}{m2:Res (List β)}(h1:SV Er t1 σ W K R1 m1)(h2:SV Er t2 σ W K R2 m2):IV Er (yk K<|ag t1<|ag t2 aH) σ W (isT2 K R1 R2) (m1.bind fun xs=>m2.bind fun ys=>.ok<|xs.zip ys):=fun W1 e1 P k=>
 h1 W1 e1 _ ((CH k).imp fun xs kx v W2 e2 hv=>h2 W2 (e1.trans e2) _ ((CH kx).imp fun ys ky u W3 e3 hu=>by
  obtain⟨c1,vs,rfl,a1,b1⟩:=SrcR.mono hv e3.g;obtain⟨c2,us,rfl,a2,b2⟩:=hu;refine⟨c1,c2,vs,us,rfl,a1 W3<|.refl _,a2 W3<|.refl _,ky _ W3 (e2.trans e3) fun W4 e4=>⟨fun i ab hab=>?_,?_⟩⟩
  ·rw[Fx]at hab;obtain⟨x,hx,rx⟩:=b1.get hab.1;obtain⟨y,hy,ry⟩:=b2.get hab.2;refine⟨⟨vs,us,x,y,a1 W4 e4,a2 W4 e4,hx,hy⟩,fun z H'⟨p,x',y',hp,z0,z1,z2,z3⟩=>⟨W4.new p<|.tup [x',y'],by rw[z3];rfl,.new _ hp,p,x',y',z0,Ju ak,?_,?_⟩⟩
   ·have:=z1 vs<|a1 W4 e4;rw[hx]at this;cases this;exact CJ (e4.trans (Ext.new _ hp).g) rx
   ·have:=z2 us<|a2 W4 e4;rw[hy]at this;cases this;exact CJ (e4.trans (Ext.new _ hp).g) ry
  ·refine⟨vs,us,a1 W4 e4,a2 W4 e4,?_⟩;rw[Gk,b1.1,b2.1];omega))
theorem kW{f:α->Res β}{xs:List α}{i:Nat}{a:α}(h:xs[i]? =some a):iH f (xs.drop i)=(f a).bind fun b=>(iH f<|xs.drop<|i+1).bind fun bs=>.ok (b::bs):=by
 obtain⟨hi,e⟩:=CP.mp h;rw[Fy hi,e];rfl
theorem jK{f:α->Res (Option β)}{xs:List α}{i:Nat}{a:α}(h:xs[i]? =some a):fM f (xs.drop i)=(f a).bind fun b=>(fM f<|xs.drop<|i+1).bind fun bs=>.ok (match b with|some b=>b::bs|none=>bs):=by
 obtain⟨hi,e⟩:=CP.mp h;rw[Fy hi,e];rfl
theorem cM{cap:List (Option Nat)}{wi:TI}{g:TG}{te:TE}{R:Rp α}{R':Rp β}[Mono R']{m:Res (List α)}{f:α->Res β}(hi:IV Er wi σ W R m)
  (hb:∀(W1:Wd)(a:α)(v:V),Ext W W1->R W1.G a v->∀Q:VK,(f a).OkE Er (fun b=>∀u W2,Ext W1 W2->R' W2.G b u->Q u W2.H)->g v (bh cap σ) W1.H fun σ2 H2=>Keep (bh cap σ) σ2/\te σ2 H2 Q):
  EVo Er (jE cap wi g yj te) σ W R' (m.bind fun xs=>bB xs f):=fun W1 e1 Q k=>by
 refine hi W1 e1 _<|(CH k).imp fun xs kx J W2 e2 hy=>?_;obtain⟨hl,kx⟩:=aM<|CH kx;refine⟨fun i n ys H=>n=xs.length-i/\i<=xs.length/\ys.length<=i/\∃(W3:Wd)(bs:List β),W3.H=H/\Ext W2 W3/\LR R' W3.G bs ys/\(iH f<|xs.drop i).OkE Er (fun r=>∀p W4,Ext W1 W4->W1.H p=none->Ow R' W4 p (bs++r)->Q (.ref p) W4.H),⟨xs.length,by simp,by simp,by simp,W2,[],rfl,.refl _,.nil,?_⟩,?_⟩;·simpa using kx
 ·rintro i n ys H ⟨rfl,hi1,hyl,W3,bs,rfl,e3,lr,q⟩;refine⟨by rw[El];unfold Mi.cap at hl;omega,?_⟩;by_cases hlt:i<xs.length
  ·obtain⟨a,ha⟩:∃a,xs[i]? =some a:=⟨xs[i],by simp[hlt]⟩
   obtain⟨h1,h2⟩:=(hy W3 e3.g).1 i a ha;refine .inr ⟨h1,fun ys' H'=>ys'.length<=i+1/\∃(W3:Wd)(bs:List β),W3.H=H'/\Ext W2 W3/\LR R' W3.G bs ys'/\(iH f<|xs.drop<|i+1).OkE Er (fun r=>∀p W4,Ext W1 W4->W1.H p=none->Ow R' W4 p (bs++r)->Q (.ref p) W4.H),fun ys' H'⟨z1,z2⟩=>⟨xs.length-(i+1),by omega,rfl,hlt,z1,z2⟩,fun x H' hx=>?_⟩;obtain⟨W4,rfl,e4,rx⟩:=h2 x H' hx;rw[kW ha]at q;have:=hb W4 a x (e1.trans<|(e2.trans e3).trans e4) rx (fun y H4=>(ys++[y]).length<=i+1/\∃(W3:Wd)(bs:List β),W3.H=H4/\Ext W2 W3/\LR R' W3.G bs (ys++[y])/\(iH f<|xs.drop<|i+1).OkE Er (fun r=>∀p W4,Ext W1 W4->W1.H p=none->Ow R' W4 p (bs++r)->Q (.ref p) W4.H))
    ((CH q).imp fun b kb u W5 e5 hu=>⟨by simp;exact hyl,W5,bs++[b],rfl,(e3.trans e4).trans e5,(lr.same (e4.trans e5).g).snoc hu,(CH kb).imp fun r kr=>by rw[Fd];exact kr⟩)
   exact this
  ·have e:i=xs.length:=by omega
   subst e;rw[FK]at q;refine .inl ⟨(hy W3 e3.g).2,fun D hD=>?_⟩;have e13:=e2.trans e3;have:=q D (W3.mut D (.lst ys)<|W3.gnone hD) (e13.trans<|.own _ hD) (none_of e13.h hD) ⟨W3.gnone hD,ys,ak,by rw[DK];exact lr⟩;exact this
theorem mJ{cap:List (Option Nat)}{wi:TI}{g:TG}{tf:TT}{te:TE}{R:Rp α}{R':Rp β}[Mono R']{m:Res (List α)}{f:α->Res (Option β)}(hi:IV Er wi σ W R m)
    (hb:∀(W1:Wd)(a:α)(v:V),Ext W W1->R W1.G a v->∀Q:Option V->Hp->Prop,(f a).OkE Er (fun b=>∀u W2,Ext W1 W2->(match b,u with|some b,some u=>R' W2.G b u|none,none=>True|_,_=>False)->Q u W2.H)->g v (bh cap σ) W1.H fun σ2 H2=>Keep (bh cap σ) σ2/\tf σ2 H2 fun b H3=>if b=true then te σ2 H3 (fun y H4=>Q (some y) H4)else Q none H3):
    EVo Er (jE cap wi g tf te) σ W R' (m.bind fun xs=>i7 xs f):=fun W1 e1 Q k=>by
  refine hi W1 e1 _<|(CH k).imp fun xs kx J W2 e2 hy=>?_;obtain⟨hl,kx⟩:=aM<|CH kx;refine⟨fun i n ys H=>n=xs.length-i/\i<=xs.length/\ys.length<=i/\∃(W3:Wd)(bs:List β),W3.H=H/\Ext W2 W3/\LR R' W3.G bs ys/\(fM f<|xs.drop i).OkE Er (fun r=>∀p W4,Ext W1 W4->W1.H p=none->Ow R' W4 p (bs++r)->Q (.ref p) W4.H),⟨xs.length,by simp,by simp,by simp,W2,[],rfl,.refl _,.nil,?_⟩,?_⟩;·simpa using kx
  · rintro i n ys H ⟨rfl,hi1,hyl,W3,bs,rfl,e3,lr,q⟩;refine⟨by rw[El];unfold Mi.cap at hl;omega,?_⟩;by_cases hlt:i<xs.length
    · obtain⟨a,ha⟩:∃a,xs[i]? =some a:=⟨xs[i],by simp[hlt]⟩
      obtain⟨h1,h2⟩:=(hy W3 e3.g).1 i a ha;refine .inr ⟨h1,fun ys' H'=>ys'.length<=i+1/\∃(W3:Wd)(bs:List β),W3.H=H'/\Ext W2 W3/\LR R' W3.G bs ys'/\(fM f<|xs.drop<|i+1).OkE Er (fun r=>∀p W4,Ext W1 W4->W1.H p=none->Ow R' W4 p (bs++r)->Q (.ref p) W4.H),fun ys' H'⟨z1,z2⟩=>⟨xs.length-(i+1),by omega,rfl,hlt,z1,z2⟩,fun x H' hx=>?_⟩;obtain⟨W4,rfl,e4,rx⟩:=h2 x H' hx;rw[jK ha]at q
      have:=hb W4 a x (e1.trans<|(e2.trans e3).trans e4) rx (fun y H4=>(match y with|some y=>ys++[y]|none=>ys).length<=i+1/\∃(W3:Wd)(bs:List β),W3.H=H4/\Ext W2 W3/\LR R' W3.G bs (match y with|some y=>ys++[y]|none=>ys)/\(fM f<|xs.drop<|i+1).OkE Er (fun r=>∀p W4,Ext W1 W4->W1.H p=none->Ow R' W4 p (bs++r)->Q (.ref p) W4.H))
        ((CH q).imp fun b kb u W5 e5 hu=>by
          match b,u,hu,kb with
          |some b,some u,hu,kb=>exact⟨by simp;exact hyl,W5,bs++[b],rfl,(e3.trans e4).trans e5,(lr.same (e4.trans e5).g).snoc hu,(CH kb).imp fun r kr=>by rw[Fd];exact kr⟩
          |none,none,hu,kb=>exact⟨by show ys.length<=i+1;omega,W5,bs,rfl,(e3.trans e4).trans e5,lr.same (e4.trans e5).g,(CH kb).imp fun r kr=>kr⟩)
      exact this
    · have e:i=xs.length:=by omega
      subst e;rw[FK]at q;refine .inl ⟨(hy W3 e3.g).2,fun D hD=>?_⟩;have e13:=e2.trans e3;have:=q D (W3.mut D (.lst ys)<|W3.gnone hD) (e13.trans<|.own _ hD) (none_of e13.h hD) ⟨W3.gnone hD,ys,ak,by rw[DK];exact lr⟩;exact this
end
section
variable{α β γ δ:Type}{t u:TS}{te ti:TE}{g:TG}{D:Ends}{σ:St}{W W0 W':Wd}{K:CL}{i j k n:Nat}{P:St->Hp->Prop}{H:Hp}{v:V}
theorem gn{σ':St}(h:P σ' H)(hσ:σ.set i (some v)=σ':=by rfl):aF i v σ H P:=by subst hσ;exact h
theorem k8{σ':V->V->St}{R1:Rp α}{R2:Rp β}{ab:α×β}(h:isT2 K R1 R2 W.G ab v)(q:∀x y,R1 W.G ab.1 x->R2 W.G ab.2 y->P (σ' x y) W.H)(hσ:∀x y,(σ.set i<|some x).set j (some y)=σ' x y:=by intro _ _;rfl):cA K 2 (bg (aF i)<|bg (aF j) cI) v σ W.H P:=by
 obtain⟨p,x,y,h0,h,h1,h2⟩:=h;exact⟨p,_,h0,Same.tup W.ok h,rfl,x,_,rfl,y,_,rfl,rfl,by have:=q x y h1 h2;rw[<-hσ]at this;exact this⟩
theorem sQ{σ':V->V->V->St}{R1:Rp α}{R2:Rp β}{R3:Rp γ}{ab:α×β×γ}(h:isT3 K R1 R2 R3 W.G ab v)(q:∀x y z,R1 W.G ab.1 x->R2 W.G ab.2.1 y->R3 W.G ab.2.2 z->P (σ' x y z) W.H)(hσ:∀x y z,((σ.set i<|some x).set j (some y)).set k (some z)=σ' x y z:=by intro _ _ _;rfl):cA K 3 (bg (aF i)<|bg (aF j)<|bg (aF k) cI) v σ W.H P:=by
 obtain⟨p,x,y,z,h0,h,h1,h2,h3⟩:=h;exact⟨p,_,h0,Same.tup W.ok h,rfl,x,_,rfl,y,_,rfl,z,_,rfl,rfl,by have:=q x y z h1 h2 h3;rw[<-hσ]at this;exact this⟩
theorem Bu{σ':V->V->V->V->St}{R1:Rp α}{R2:Rp β}{R3:Rp γ}{R4:Rp δ}{ab:α×β×γ×δ}(h:isT4 K R1 R2 R3 R4 W.G ab v)(q:∀x y z w,R1 W.G ab.1 x->R2 W.G ab.2.1 y->R3 W.G ab.2.2.1 z->R4 W.G ab.2.2.2 w->P (σ' x y z w) W.H)(hσ:∀x y z w,(((σ.set i<|some x).set j (some y)).set k (some z)).set n (some w)=σ' x y z w:=by intro _ _ _ _;rfl):cA K 4 (bg (aF i)<|bg (aF j)<|bg (aF k)<|bg (aF n) cI) v σ W.H P:=by
 obtain⟨p,x,y,z,w,h0,h,h1,h2,h3,h4⟩:=h;exact⟨p,_,h0,Same.tup W.ok h,rfl,x,_,rfl,y,_,rfl,z,_,rfl,w,_,rfl,rfl,by have:=q x y z w h1 h2 h3 h4;rw[<-hσ]at this;exact this⟩
theorem lS{σ':V->St}{R:Rw α}{m:Res α}(h:EV Er te σ W R m)(q:m.OkE Er fun a=>∀v W',Ext W W'->R W' a v->D.nx (σ' v) W'.H)(hσ:∀v,σ.set i (some v)=σ' v:=by intro _;rfl):bS te (aF i) D σ W.H:=h W (.refl _) _ (q.imp fun a k v W' e r=>by have:=k v W' e r;rw[<-hσ]at this;exact this)
theorem w5{σ':Addr->St}{R:Rp α}{m:Res (List α)}(h:EVo Er te σ W R m)(q:m.OkE Er fun a=>∀p W',Ext W W'->W.H p=none->Ow R W' p a->D.nx (σ' p) W'.H)(hσ:∀p,σ.set i (some<|.ref p)=σ' p:=by intro _;rfl):bS te (aF i) D σ W.H:=h W (.refl _) _ (q.imp fun a k p W' e hp r=>by have:=k p W' e hp r;rw[<-hσ]at this;exact this)
theorem aw{R:Rw α}{m:Res α}(h:EV Er te σ W R m)(q:m.OkE Er fun a=>∀v W',Ext W W'->R W' a v->D.rt v W'.H):cq te D σ W.H:=h W (.refl _) _ q
theorem ib{R:Rp α}{m:Res (List α)}(h:EVo Er te σ W R m)(q:m.OkE Er fun a=>∀p W',Ext W W'->W.H p=none->Ow R W' p a->D.rt (.ref p) W'.H):cq te D σ W.H:=h W (.refl _) _ q
theorem kX{c:TT}{m:Res Bool}(h:TV Er c σ W m)(q:m.OkE Er fun b=>∀W',Ext W W'->if b=true then t D σ W'.H else u D σ W'.H):j5 c t u D σ W.H:=h W (.refl _) _ q
theorem nR{S:Type}{c:TT}{m:Res Bool}{mA mB:Res S}{P:S->Prop}(Iv:S->Wd->St->Prop)(h:TV Er c σ W m)(q:(m.bind fun b=>if b then mA else mB).OkE Er P)
  (hA:∀W'(N:St->Hp->Prop),Ext W W'->(∀s W1 σ1,Same W.G W1.G->Iv s W1 σ1->P s->N σ1 W1.H)->mA.OkE Er P->t {D with nx:=N} σ W'.H)
  (hB:∀W'(N:St->Hp->Prop),Ext W W'->(∀s W1 σ1,Same W.G W1.G->Iv s W1 σ1->P s->N σ1 W1.H)->mB.OkE Er P->u {D with nx:=N} σ W'.H)
  (hd:∀s W1 σ1,Same W.G W1.G->Iv s W1 σ1->P s->D.nx σ1 W1.H):j5 c t u D σ W.H:=h W (.refl _) _ ((CH q).imp fun b kb W' e=>by
 cases b with
 |true=>exact hA W' D.nx e hd kb
 |false=>exact hB W' D.nx e hd kb)
structure Mu(W W':Wd)(p:Addr):Prop where
 g:Same W.G W'.G
 e:∀W0:Wd,Ext W0 W->W0.H p=none->Ext W0 W'
 h:∀q,q≠p->W.H q≠none->W'.H q=W.H q/\W'.G q=W.G q
theorem Mu.of{W1:Wd}{p:Addr}{o:HO}(e1:Ext W W1)(hg:W1.G p=none):Mu W (W1.mut p o hg) p:=⟨e1.g,fun W0 e0 hp=>(e0.trans e1).mut hp hg,fun q hq hn=>by
 obtain⟨o',ho⟩:=G5.mp hn;exact⟨by show cg W1.H p o q=_;rw[ai hq,e1.h _ _ ho,ho],e1.k q hn⟩⟩
theorem nS{R:Rp α}[Mono R]{p:Addr}{xs:List α}{m:Res α}(o:Ow R W p xs)(h:EV Er te σ W (sh R) m)(q:(m.bind fun a=>hJ xs a).OkE Er fun ys=>∀W',Mu W W' p->Ow R W' p ys->D.nx σ W'.H)(hi:σ[i]? =some (some<|.ref p):=by rfl):aV (eG K "list" ay (ba i)<|ag te aH) D σ W.H:=by
 obtain⟨vs,h1,h2⟩:=o.h;refine⟨.ref p,hi,.inl ⟨rfl,vs,F6 h1⟩,h W (.refl _) _<|(CH q).imp fun a ka v W2 e2 hv=>?_⟩;obtain⟨h3,h4⟩:=aM ka;have hg:=(o.mono e2).g;refine⟨p,vs,v,rfl,rfl,e2.h _ _ h1,by rw[h2.1,El];unfold Mi.cap at h3;omega,h4 (W2.mut p (.lst<|vs++[v]) hg) (.of e2 hg) ⟨hg,_,ak,(h2.same e2.g).snoc hv⟩⟩
def sR{S:Type}(W:Wd)(Iv:S->Wd->St->Prop)(P:S->Prop):St->Hp->Prop:=fun σ' H'=>∃s' W',W'.H=H'/\Same W.G W'.G/\Iv s' W' σ'/\P s'
theorem qz{S:Type}{f:α->S->Res S}{xs:List α}{i:Nat}{a:α}{s:S}(h:xs[i]? =some a):bU f (xs.drop i) s=(f a s).bind fun s=>bU f (xs.drop<|i+1) s:=by
 obtain⟨hi,e⟩:=CP.mp h;rw[Fy hi,e];rfl
theorem lT{S:Type}{wi:TI}{tb:TS}{R:Rp α}{m:Res (List α)}{f:α->S->Res S}{s0:S}{P:S->Prop}(Iv:S->Wd->St->Prop)(hi:IV Er wi σ W R m)(q:(m.bind fun xs=>bU f xs s0).OkE Er P)
  (h0:∀W1,Ext W W1->Iv s0 W1 σ)
  (hs:∀Wb W1 W2 a v s σ1 P',Same W.G W1.G->Same Wb.G W1.G->Iv s W1 σ1->Ext W1 W2->R W2.G a v->(f a s).OkE Er P'->g v σ1 W2.H fun σ2 H2=>tb {D with nx:=sR Wb Iv P',ct:=sR Wb Iv P',bk:=D.nx} σ2 H2)
  (hd:∀s W1 σ1,Same W.G W1.G->Iv s W1 σ1->P s->D.nx σ1 W1.H):rL wi g tb D σ W.H:=by
 refine hi W (.refl _) _<|(CH q).imp fun xs kx J W1 e1 hy=>?_;refine⟨fun i n σ' H'=>n=xs.length-i/\i<=xs.length/\∃s' W',W'.H=H'/\Same W1.G W'.G/\Iv s' W' σ'/\(bU f (xs.drop i) s').OkE Er P,⟨xs.length,by simp,by simp,s0,W1,rfl,.refl _,h0 W1 e1,by simpa using kx⟩,?_⟩;rintro i n σ1 H1 ⟨rfl,hi1,s,W2,rfl,e2,iv,k⟩;by_cases hlt:i<xs.length
 ·obtain⟨a,ha⟩:∃a,xs[i]? =some a:=⟨xs[i],by simp[hlt]⟩
  obtain⟨h1,h2⟩:=(hy W2 e2).1 i a ha;refine .inr ⟨h1,sR W1 Iv fun s'=>(bU f (xs.drop<|i+1) s').OkE Er P,fun σ' H'⟨s',W',z1,z2,z3,z4⟩=>⟨xs.length-(i+1),by omega,rfl,hlt,s',W',z1,z2,z3,z4⟩,fun x H' hx=>?_⟩;obtain⟨W3,rfl,e3,rx⟩:=h2 x H' hx;rw[qz ha]at k;exact hs W1 W2 W3 a x s σ1 (fun s'=>(bU f (xs.drop<|i+1) s').OkE Er P) (e1.g.trans e2) e2 iv e3 rx<|CH k
 ·have e:i=xs.length:=by omega
  subst e;rw[FK]at k;exact .inl ⟨(hy W2 e2).2,hd s W2 σ1 (e1.g.trans e2) iv k⟩
theorem qC{S:Type}{f:α->S->Res (Fl γ S)}{xs:List α}{i:Nat}{a:α}{s:S}(h:xs[i]? =some a):gU f (xs.drop i) s=(f a s).bind (zT<|gU f<|xs.drop<|i+1):=by
 obtain⟨hi,e⟩:=CP.mp h;rw[Fy hi,e];rfl
theorem w6{S:Type}{wi:TI}{tb:TS}{R:Rp α}{m:Res (List α)}{f:α->S->Res (Fl γ S)}{s0:S}{P:Fl γ S->Prop}(Iv:S->Wd->St->Prop)(hi:IV Er wi σ W R m)(q:(m.bind fun xs=>gU f xs s0).OkE Er P)
  (h0:∀W1,Ext W W1->Iv s0 W1 σ)
  (hs:∀Wb W1 W2 a v s σ1 P',Same W.G W1.G->Same Wb.G W1.G->Iv s W1 σ1->Ext W1 W2->R W2.G a v->(∀r,P' (.rt r)->P (.rt r))->(f a s).OkE Er P'->g v σ1 W2.H fun σ2 H2=>tb {D with nx:=sR Wb Iv fun s'=>P'<|.nx s',ct:=sR Wb Iv fun s'=>P'<|.nx s',bk:=D.nx} σ2 H2)
  (hd:∀s W1 σ1,Same W.G W1.G->Iv s W1 σ1->P (.nx s)->D.nx σ1 W1.H):rL wi g tb D σ W.H:=by
 refine hi W (.refl _) _<|(CH q).imp fun xs kx J W1 e1 hy=>?_;refine⟨fun i n σ' H'=>n=xs.length-i/\i<=xs.length/\∃s' W',W'.H=H'/\Same W1.G W'.G/\Iv s' W' σ'/\(gU f (xs.drop i) s').OkE Er P,⟨xs.length,by simp,by simp,s0,W1,rfl,.refl _,h0 W1 e1,by simpa using kx⟩,?_⟩;rintro i n σ1 H1 ⟨rfl,hi1,s,W2,rfl,e2,iv,k⟩;by_cases hlt:i<xs.length
 ·obtain⟨a,ha⟩:∃a,xs[i]? =some a:=⟨xs[i],by simp[hlt]⟩
  obtain⟨h1,h2⟩:=(hy W2 e2).1 i a ha;refine .inr ⟨h1,sR W1 Iv fun s'=>(gU f (xs.drop<|i+1) s').OkE Er P,fun σ' H'⟨s',W',z1,z2,z3,z4⟩=>⟨xs.length-(i+1),by omega,rfl,hlt,s',W',z1,z2,z3,z4⟩,fun x H' hx=>?_⟩;obtain⟨W3,rfl,e3,rx⟩:=h2 x H' hx;rw[qC ha]at k;exact hs W1 W2 W3 a x s σ1 (fun fl=>match fl with| .nx s'=>(gU f (xs.drop<|i+1) s').OkE Er P| .bk s'=>P (.nx s')| .rt r=>P<|.rt r) (e1.g.trans e2) e2 iv e3 rx (fun r h=>h) ((CH k).imp fun fl h=>by cases fl<;>exact h)
 ·have e:i=xs.length:=by omega
  subst e;rw[FK]at k;exact .inl ⟨(hy W2 e2).2,hd s W2 σ1 (e1.g.trans e2) iv k⟩
section
variable{r:TS}
theorem av{σ':V->St}{R:Rw α}{m:Res α}(h:EV Er te σ W R m)(q:m.OkE Er fun a=>∀v W',Ext W W'->R W' a v->r D (σ' v) W'.H)(hσ:∀v,σ.set i (some v)=σ' v:=by intro _;rfl):dC (bS te<|aF i) r D σ W.H:=lS (D:={D with nx:=r D}) h q hσ
theorem kY{σ':Addr->St}{R:Rp α}{m:Res (List α)}(h:EVo Er te σ W R m)(q:m.OkE Er fun a=>∀p W',Ext W W'->W.H p=none->Ow R W' p a->r D (σ' p) W'.H)(hσ:∀p,σ.set i (some<|.ref p)=σ' p:=by intro _;rfl):dC (bS te<|aF i) r D σ W.H:=w5 (D:={D with nx:=r D}) h q hσ
theorem ic{R:Rw α}{m:Res α}(h:EV Er te σ W R m)(q:m.OkE Er fun a=>∀v W',Ext W W'->R W' a v->g v σ W'.H (r D)):dC (bS te g) r D σ W.H:=h W (.refl _) _ q
theorem bL{c:TT}{m:Res Bool}(h:TV Er c σ W m)(q:m.OkE Er fun b=>∀W',Ext W W'->if b=true then t {D with nx:=r D} σ W'.H else u {D with nx:=r D} σ W'.H):dC (j5 c t u) r D σ W.H:=h W (.refl _) _ q
theorem mK{S:Type}{c:TT}{m:Res Bool}{mA mB:Res S}{P:S->Prop}(Iv:S->Wd->St->Prop)(h:TV Er c σ W m)(q:(m.bind fun b=>if b then mA else mB).OkE Er P)
  (hA:∀W'(N:St->Hp->Prop),Ext W W'->(∀s W1 σ1,Same W.G W1.G->Iv s W1 σ1->P s->N σ1 W1.H)->mA.OkE Er P->t {D with nx:=N} σ W'.H)
  (hB:∀W'(N:St->Hp->Prop),Ext W W'->(∀s W1 σ1,Same W.G W1.G->Iv s W1 σ1->P s->N σ1 W1.H)->mB.OkE Er P->u {D with nx:=N} σ W'.H)
  (hd:∀s W1 σ1,Same W.G W1.G->Iv s W1 σ1->P s->r D σ1 W1.H):dC (j5 c t u) r D σ W.H:=nR (D:={D with nx:=r D}) Iv h q hA hB hd
theorem sS{R:Rp α}[Mono R]{p:Addr}{xs:List α}{m:Res α}(o:Ow R W p xs)(h:EV Er te σ W (sh R) m)(q:(m.bind fun a=>hJ xs a).OkE Er fun ys=>∀W',Mu W W' p->Ow R W' p ys->r D σ W'.H)(hi:σ[i]? =some (some<|.ref p):=by rfl):dC (aV<|eG K "list" ay (ba i)<|ag te aH) r D σ W.H:=nS (D:={D with nx:=r D}) o h q hi
theorem eW{S:Type}{wi:TI}{tb:TS}{R:Rp α}{m:Res (List α)}{f:α->S->Res S}{s0:S}{P:S->Prop}(Iv:S->Wd->St->Prop)(hi:IV Er wi σ W R m)(q:(m.bind fun xs=>bU f xs s0).OkE Er P)
  (h0:∀W1,Ext W W1->Iv s0 W1 σ)
  (hs:∀Wb W1 W2 a v s σ1 P',Same W.G W1.G->Same Wb.G W1.G->Iv s W1 σ1->Ext W1 W2->R W2.G a v->(f a s).OkE Er P'->g v σ1 W2.H fun σ2 H2=>tb {D with nx:=sR Wb Iv P',ct:=sR Wb Iv P',bk:=r D} σ2 H2)
  (hd:∀s W1 σ1,Same W.G W1.G->Iv s W1 σ1->P s->r D σ1 W1.H):dC (rL wi g tb) r D σ W.H:=lT (D:={D with nx:=r D}) Iv hi q h0 hs hd
theorem iK{S:Type}{wi:TI}{tb:TS}{R:Rp α}{m:Res (List α)}{f:α->S->Res (Fl γ S)}{s0:S}{P:Fl γ S->Prop}(Iv:S->Wd->St->Prop)(hi:IV Er wi σ W R m)(q:(m.bind fun xs=>gU f xs s0).OkE Er P)
  (h0:∀W1,Ext W W1->Iv s0 W1 σ)
  (hs:∀Wb W1 W2 a v s σ1 P',Same W.G W1.G->Same Wb.G W1.G->Iv s W1 σ1->Ext W1 W2->R W2.G a v->(∀r,P' (.rt r)->P (.rt r))->(f a s).OkE Er P'->g v σ1 W2.H fun σ2 H2=>tb {D with nx:=sR Wb Iv fun s'=>P'<|.nx s',ct:=sR Wb Iv fun s'=>P'<|.nx s',bk:=r D} σ2 H2)
  (hd:∀s W1 σ1,Same W.G W1.G->Iv s W1 σ1->P (.nx s)->r D σ1 W1.H):dC (rL wi g tb) r D σ W.H:=w6 (D:={D with nx:=r D}) Iv hi q h0 hs hd
end
theorem dO{S:Type}{Wb W:Wd}{Iv:S->Wd->St->Prop}{P:S->Prop}(s:S)(hs:Same Wb.G W.G)(iv:Iv s W σ)(hq:P s):sR Wb Iv P σ W.H:=⟨s,W,rfl,hs,iv,hq⟩
end
end Wb
open Wb.EV renaming pk->FN
open Wb.EVo renaming ev->EF,pk->Gw
open Wb.Ext renaming new->HX,own->M7
open Wb.MonoW renaming mono->DB
open Wb.Same renaming tup->Hl
open Wb.SrcR renaming mono->Mc
namespace L2
open PySem PySem.Spec PyProof.Rows
section
variable{X:Cx}{K:CL}{w:Dr}
theorem iX{ns:List Bool}:∀{us:List CN},Vals (ns.map LG) us->LSm.BoolsAre us ns:=by
 induction ns with
 |nil=>intro us r;cases r;exact .nil
 |cons b r ih=>intro us h;cases h with|cons h1 h2=>cases h1;exact .cons b<|ih h2
theorem qE(hc:X.calm=true)(hK:X.K=K):ej X (.builtin "all") (fun xs H Q=>∃(p:Addr)(bs:List Bool),xs=[.ref p]/\SqL K H p (bs.map LG)/\Q (.bl<|bs.all id) H):=by
 subst hK;intro pins s σ H xs us Q I r h;obtain⟨p,bs,rfl,hq,q⟩:=h;obtain⟨u,rfl,rx⟩:=fT r;cases rx;obtain⟨its,r',pl,hz⟩:=I.list hq;have hb:=iX r';have hl:=pl.isList;have hlt:p<s.heap.objs.size:=by obtain⟨_,e,_⟩:=hl;exact D5 e
 refine call_all_walk<|G2 hl ?_;refine⟨s.heap.objs.size,[s.heap.objs.size,p],[s.heap.objs.size],its.toArray.size,_,_,fun i=>(bs[i]?).getD true,rfl,LX (A:=X.A.in1) (I.ok.hd hc) _ p (Dc hlt) its.toArray,
  ⟨⟨_,CY _ rfl,rfl,rfl⟩,hl.push _⟩,fun i v s' Q' E' hP hQ=>?_,fun h' tk hk=>?_⟩
 ·obtain⟨b,e,rfl⟩:=hb.get i v (by simpa using hP);simp only[e,Ga]at hQ;exact EY hQ
 ·have e:((FQ its.toArray.size).all fun i=>(bs[i]?).getD true)=bs.all id:=by
   rw[D9,hb.length];exact LSm.range_all bs
  rw[e];exact⟨.bl _,H,I.kept<|Le hk,rfl,q⟩
theorem qF(hc:X.calm=true)(hK:X.K=K):ej X (.builtin "any") (fun xs H Q=>∃(p:Addr)(bs:List Bool),xs=[.ref p]/\SqL K H p (bs.map LG)/\Q (.bl<|bs.any id) H):=by
 subst hK;intro pins s σ H xs us Q I r h;obtain⟨p,bs,rfl,hq,q⟩:=h;obtain⟨u,rfl,rx⟩:=fT r;cases rx;obtain⟨its,r',pl,hz⟩:=I.list hq;have hb:=iX r';have hl:=pl.isList;have hlt:p<s.heap.objs.size:=by obtain⟨_,e,_⟩:=hl;exact D5 e
 refine call_any_walk<|G2 hl ?_;refine⟨s.heap.objs.size,[s.heap.objs.size,p],[s.heap.objs.size],its.toArray.size,_,_,fun i=>(bs[i]?).getD false,rfl,LX (A:=X.A.in1) (I.ok.hd hc) _ p (Dc hlt) its.toArray,
  ⟨⟨_,CY _ rfl,rfl,rfl⟩,hl.push _⟩,fun i v s' Q' E' hP hQ=>?_,fun h' tk hk=>?_⟩
 ·obtain⟨b,e,rfl⟩:=hb.get i v (by simpa using hP);simp only[e,Ga]at hQ;exact EY hQ
 ·have e:((FQ its.toArray.size).any fun i=>(bs[i]?).getD false)=bs.any id:=by
   rw[D9,hb.length];exact LSm.range_any bs
  rw[e];exact⟨.bl _,H,I.kept<|Le hk,rfl,q⟩
end
end L2
namespace Wb
open PySem L2 Mi
variable{Er:Nat->Prop}
section
variable{α β γ δ:Type}{t ta tb tc:TE}{σ:St}{W W0 W':Wd}{K:CL}{w:Dr}
theorem w8{a n r:Int}(hc:0<=n/\n<=1000000/\a.natAbs<2^64)(hr:a^n.toNat=r):EV Er (dh (rI zE fun i j=>.int<|i^j.toNat) (tC<|.int a)<|tC<|.int n) σ W (sh isI) (.ok r):=fun W1 e1 Q k=>⟨a,n,rfl,rfl,hc,by show Q (.int<|a^n.toNat) W1.H;rw[hr];exact k _ W1 (.refl _) rfl⟩
def isScr(K:CL):Rp (List Int):=fun H ns v=>∃a,v=.ref a/\SqL K H a (ns.map FC)
instance zkeep17:Mono (isScr K):=⟨fun e⟨a,h1,h2⟩=>⟨a,h1,e.seq h2⟩⟩
theorem kZ{ma:Res (List Int)}(ha:EV Er ta σ W (sh<|isScr K) ma):EV Er (eo (fun xs H Q=>∃x n,xs=[x]/\mn K x H n/\Q (.int n) H)<|ag ta aH) σ W (sh isI) (ma.bind fun a=>.ok (a.length:Int)):=fun W1 e1 Q k=>
 ha W1 e1 _ ((CH k).imp fun a ka x W2 e2 hx=>by
  obtain⟨p,rfl,h1⟩:=hx;exact⟨_,a.length,rfl,.inl ⟨_,W2.ok.seq h1,by simp⟩,ka _ W2 e2 rfl⟩)
theorem sT{ma:Res (List Int)}{mb:Res Int}(ha:EV Er ta σ W (sh<|isScr K) ma)(hb:EV Er tb σ W (sh isI) mb):EV Er (dh (cG K) ta tb) σ W (sh isI) (ma.bind fun a=>mb.bind fun b=>iW a b):=
 nP ha hb fun W a b x y Q hx hy k=>by
  cases hy;obtain⟨p,rfl,h1⟩:=hx;obtain⟨c,h4,h5⟩:=eJ k;have lr:LR isI W.G a (a.map FC):=⟨by simp,fun i v m e1 e2=>by rw[DQ,e2]at e1;cases e1;rfl⟩
  obtain⟨z,h6,h7⟩:=p9 lr h4;exact⟨p,_,b,z,rfl,rfl,W.ok.seq h1,h6,h5 _ W (.refl _) h7⟩
theorem pf{ma:Res Bool}(ha:EV Er ta σ W (sh isB) ma):EV Er (eo (fun xs H Q=>(∃i,xs=[.int i]/\Q (.int i) H)\/∃k,xs=[.bl k]/\Q (.int (if k then 1 else 0)) H)<|ag ta aH) σ W (sh isI) (ma.bind fun a=>.ok (if a then(1:Int)else 0)):=fun W1 e1 Q k=>
 ha W1 e1 _ ((CH k).imp fun a ka x W2 e2 hx=>by cases hx;exact .inr ⟨a,rfl,ka _ W2 e2 rfl⟩)
theorem yu{R:Rp α}{W1 W2:Wd}{xs:List α}{vs:List V}{Q:VK}(h:LR R W2.G xs vs)(e:Ext W1 W2)(k:∀p W2,Ext W1 W2->W1.H p=none->Ow R W2 p xs->Q (.ref p) W2.H)(r:Addr)(hr:W2.H r=none):Q (.ref r) (cg W2.H r<|.lst vs):=
 k r (W2.mut r (.lst vs)<|W2.gnone hr) (e.trans<|.own _ hr) (none_of e.h hr) ⟨W2.gnone hr,vs,ak,h⟩
theorem fq{R:Rp α}{ma:Res (List α)}(ha:EV Er ta σ W (pk R) ma):EVo Er (eo (fun xs H Q=>∃p ys,xs=[.ref p]/\(SqL K H p ys\/SqT K H p ys)/\∀l,H l=none->Q (.ref l) (cg H l<|.lst ys))<|ag ta aH) σ W R ma:=fun W1 e1 Q k=>
 ha W1 e1 _ (k.imp fun a ka x W2 e2 hx=>by
  obtain⟨p,vs,rfl,h1,h2⟩:=hx;exact⟨p,vs,rfl,.inl (F6 h1),fun l hl=>yu h2 e2 ka l hl⟩)
theorem LR.ints{H:Hp}{ns:List Int}{vs:List V}(h:LR isI H ns vs):vs=ns.map FC:=by
 refine GK fun i=>?_;rw[DQ];cases e:ns[i]? with
 |none=>rw[DA]at e;rw[DA.mpr (by rw[h.1];exact e)];rfl
 |some m=>obtain⟨v,a,b⟩:=h.get e;rw[a];cases b;rfl
theorem LR.bools{H:Hp}{ns:List Bool}{vs:List V}(h:LR isB H ns vs):vs=ns.map LG:=by
 refine GK fun i=>?_;rw[DQ];cases e:ns[i]? with
 |none=>rw[DA]at e;rw[DA.mpr (by rw[h.1];exact e)];rfl
 |some m=>obtain⟨v,a,b⟩:=h.get e;rw[a];cases b;rfl
theorem yv{ma:Res (List Bool)}(ha:EV Er ta σ W (pk isB) ma):EV Er (eo (fun xs H Q=>∃(p:Addr)(bs:List Bool),xs=[.ref p]/\SqL K H p (bs.map LG)/\Q (.bl<|bs.all id) H)<|ag ta aH) σ W (sh isB) (ma.bind fun a=>.ok<|a.all id):=fun W1 e1 Q k=>
 ha W1 e1 _ ((CH k).imp fun a ka x W2 e2 hx=>by
  obtain⟨p,vs,rfl,h1,h2⟩:=hx;exact⟨p,a,rfl,F6 (by rw[h1,h2.bools]),ka _ W2 e2 rfl⟩)
theorem yw{ma:Res (List Bool)}(ha:EV Er ta σ W (pk isB) ma):EV Er (eo (fun xs H Q=>∃(p:Addr)(bs:List Bool),xs=[.ref p]/\SqL K H p (bs.map LG)/\Q (.bl<|bs.any id) H)<|ag ta aH) σ W (sh isB) (ma.bind fun a=>.ok<|a.any id):=fun W1 e1 Q k=>
 ha W1 e1 _ ((CH k).imp fun a ka x W2 e2 hx=>by
  obtain⟨p,vs,rfl,h1,h2⟩:=hx;exact⟨p,a,rfl,F6 (by rw[h1,h2.bools]),ka _ W2 e2 rfl⟩)
theorem ph{ma mb:Res Int}(ha:EV Er ta σ W (sh isI) ma)(hb:EV Er tb σ W (sh isI) mb):EV Er (eo (fun xs H Q=>∃i j,xs=[.int i,.int j]/\Q (.int (if j>i then j else i)) H)<|ag ta<|ag tb aH) σ W (sh isI) (ma.bind fun a=>mb.bind fun b=>.ok (if b>a then b else a)):=fun W1 e1 Q k=>
 ha W1 e1 _ ((CH k).imp fun a ka x W2 e2 hx=>hb W2 (e1.trans e2) _ ((CH ka).imp fun b kb y W3 e3 hy=>by cases hx;cases hy;exact⟨a,b,rfl,kb _ W3 (e2.trans e3) rfl⟩))
theorem qG(l:List Int):∀a:Int,(∀x∈l,x<=l.foldl (fun a b=>if b>a then b else a) a)/\a<=l.foldl (fun a b=>if b>a then b else a) a/\(l.foldl (fun a b=>if b>a then b else a) a=a\/l.foldl (fun a b=>if b>a then b else a) a∈l):=by
 induction l with
 |nil=>intro a;simp
 |cons x r ih=>
  intro a;obtain⟨h1,h2,h3⟩:=ih (if x>a then x else a);simp only[Gg];refine⟨fun y hy=>?_,?_,?_⟩
  ·rcases D7.mp hy with rfl | hy;·refine Lo ?_ h2;split<;>omega
   ·exact h1 y hy
  ·refine Lo ?_ h2;split<;>omega
  ·rcases h3 with h3 | h3
   ·rw[h3];split;·exact .inr<|D0 ..
    ·exact .inl rfl
   ·exact .inr<|D4 _ h3
theorem yx{ma:Res (List Int)}(ha:EV Er ta σ W (pk isI) ma):EV Er (eo (fun xs H Q=>∃(p:Addr)(ns:List Int),xs=[.ref p]/\SqL K H p (ns.map FC)/\0<ns.length/\∀M,M∈ns->(∀a∈ns,a<=M)->Q (.int M) H)<|ag ta aH) σ W (sh isI) (ma.bind fun a=>vT a):=fun W1 e1 Q k=>
 ha W1 e1 _ ((CH k).imp fun a ka x W2 e2 hx=>by
  obtain⟨p,vs,rfl,h1,h2⟩:=hx;obtain⟨h3,h4⟩:=aM ka;refine⟨p,a,rfl,F6 (by rw[h1,h2.ints]),h3,fun M hM hb=>?_⟩;have e:M=a.foldl (fun a b=>if b>a then b else a) (a.headD 0):=by
   obtain⟨q1,q2,q3⟩:=qG a<|a.headD 0;have m1:=q1 M hM;have m2:a.foldl (fun a b=>if b>a then b else a) (a.headD 0)∈a:=by
    rcases q3 with q3|q3
    ·rw[q3];cases a with
     |nil=>cases hM
     |cons x r=>exact D0 ..
    ·exact q3
   have:=hb _ m2;omega
  rw[e];exact h4 _ W2 e2 rfl)
theorem sU{f:α->V}{g:β->Key}[DecidableEq β](hg:∀a b,g a=g b->a=b)(kvs:List (β×α))(k:β):fb (kvs.map fun p=>(g p.1,f p.2)) (g k)=(look kvs k).map f:=by
 induction kvs with
 |nil=>rfl
 |cons p r ih=>
  unfold look at ih ⊢;rw[DO];by_cases z:p.1=k;·rw[fV (by rw[z]),EE (by simpa using z)];rfl
  ·rw[fW<|fun e=>z<|hg _ _ e,ih,DH (by simpa using z)]
theorem pj{R:Rp α}{Rk:Rp β}[DecidableEq β]{d:Addr}{kv:List (Key×V)}{kvs:List (β×α)}{f:α->V}{g:β->Key}(hg:∀a b,g a=g b->a=b)(hf:∀H a,R H a<|f a)(hk:∀H b v,Rk H b v->v=kV (g b))(D:DictK K w d kv)(e:kv=kvs.map fun p=>(g p.1,f p.2)){m:Res β}(h:EV Er t σ W (sh Rk) m):
  EV Er (aR K w (tC<|.ref d) t) σ W (sh R) (m.bind fun k=>getD kvs k):=fun W1 e1 Q k=>
 h W1 e1 _ ((CH k).imp fun b kb v W2 e2 hv=>by
  obtain⟨a,h1,h2⟩:=eJ kb;refine⟨d,kv,g b,f a,rfl,D,hk _ _ _ hv,?_,h2 _ W2 e2 (hf _ _)⟩;rw[e,sU hg,h1];rfl)
theorem ig:∀a b:Tx,(Ds (sOf a):Key)=Ds (sOf b)->a=b:=fun a b e=>oX<|LA e
theorem Bv:∀a b:Int,(Fh a:Key)=Fh b->a=b:=fun a b e=>Lz e
theorem l0{d:Addr}{kv:List (Key×V)}{kvs:List (Tx×Int)}(D:DictK K w d kv)(e:kv=kvs.map fun p=>(Ds<|sOf p.1,FC p.2)){m:Res Tx}(h:EV Er t σ W (sh isS) m):EV Er (aR K w (tC<|.ref d) t) σ W (sh isI) (m.bind fun k=>getD kvs k):=pj (R:=isI) (f:=FC) (g:=fun a=>Ds<|sOf a) ig (fun _ _=>rfl) (fun _ _ _ h=>h) D e h
theorem qH{d:Addr}{kv:List (Key×V)}{kvs:List (Int×Tx)}(D:DictK K w d kv)(e:kv=kvs.map fun p=>(Fh p.1,GU<|sOf p.2)){m:Res Int}(h:EV Er t σ W (sh isI) m):EV Er (aR K w (tC<|.ref d) t) σ W (sh isS) (m.bind fun k=>getD kvs k):=pj (R:=isS) (f:=fun a=>GU<|sOf a) (g:=fun a=>Fh a) Bv (fun _ _=>rfl) (fun _ _ _ h=>h) D e h
def EqK(K:CL)(H:Hp):Nat->V->V->Prop
  |0,v,u=>v=u/\flat v=true
  |n+1,v,u=>(v=u/\flat v=true)\/ ∃p q xs ys,v= .ref p/\u= .ref q/\((H p=some (.lst xs)/\H q=some (.lst ys))\/(SqT K H p xs/\SqT K H q ys))/\xs.length=ys.length/\
      ∀(i:Nat)(x y:V),xs[i]? =some x->ys[i]? =some y->EqK K H n x y
theorem EqK.same{H H':Hp}(e:Same H H'):∀{n:Nat}{v u:V},EqK K H n v u->EqK K H' n v u
 |0,_,_,h=>h
 |n+1,_,_,h=>by
  rcases h with h|⟨p,q,xs,ys,h1,h2,h3,h4,h5⟩
  ·exact .inl h
  ·refine .inr ⟨p,q,xs,ys,h1,h2,?_,h4,fun i x y e1 e2=>EqK.same e<|h5 i x y e1 e2⟩;rcases h3 with⟨a,b⟩|⟨a,b⟩
   ·exact .inl ⟨e _ _ a,e _ _ b⟩
   ·exact .inr ⟨Hl e a,Hl e b⟩
theorem EqK.flat{H:Hp}{n:Nat}{v:V}(h:L2.flat v=true):EqK K H n v v:=by cases n with|zero=>exact⟨rfl,h⟩|succ n=>exact .inl ⟨rfl,h⟩
class EqR(K:CL){α:Type}(R:Rp α)(n:outParam Nat):Prop where
 eq:∀H a v u m,n<=m->R H a v->R H a u->EqK K H m v u
instance zkeep18:EqR K isI 0:=⟨fun H a v u m _ h1 h2=>by cases h1;cases h2;exact .flat rfl⟩
instance zkeep19:EqR K isS 0:=⟨fun H a v u m _ h1 h2=>by cases h1;cases h2;exact .flat rfl⟩
instance zkeep23{R:Rp α}{n:Nat}[EqR K R n]:EqR K (isL R) (n+1):=⟨fun H a v u m hm⟨p,vs,h1,h2,h3⟩⟨q,us,g1,g2,g3⟩=>by
 cases m with
 |zero=>omega
 |succ m=>
  refine .inr ⟨p,q,vs,us,h1,g1,.inl ⟨h2,g2⟩,by rw[h3.1,g3.1],fun i x y e1 e2=>?_⟩;obtain⟨b,hb,rb⟩:=h3.got e1;exact EqR.eq H b x y m (by omega) rb (g3.2 i y b e2 hb)⟩
instance zkeep25{R1:Rp α}{R2:Rp β}{R3:Rp γ}{n k l:Nat}[EqR K R1 n][EqR K R2 k][EqR K R3 l]:EqR K (isT3 K R1 R2 R3) (max n (max k l)+1):=⟨fun H a v u m hm⟨p,x,y,z,h0,h,h1,h2,h3⟩⟨q,x',y',z',g0,g,g1,g2,g3⟩=>by
 cases m with
 |zero=>omega
 |succ m=>
  refine .inr ⟨p,q,_,_,h0,g0,.inr ⟨h,g⟩,rfl,fun i w w' e1 e2=>?_⟩
  match i,e1,e2 with
  |0,e1,e2=>cases e1;cases e2;exact EqR.eq H _ _ _ m (by omega) h1 g1
  |1,e1,e2=>cases e1;cases e2;exact EqR.eq H _ _ _ m (by omega) h2 g2
  |2,e1,e2=>cases e1;cases e2;exact EqR.eq H _ _ _ m (by omega) h3 g3⟩
end
end Wb
namespace L2
open PySem PySem.Spec PyProof.Rows
section
variable{X:Cx}{K:CL}{w:Dr}{o e:Expr}{to:TE}{t:TA}{apos cpos:Pos}
def zX(K:CL):V->List V->Hp->VK->Prop:=fun x xs H Q=>∃(p:Addr)(ys:List (List Nat)),x=.str (sOf [])/\xs=[.ref p]/\SqL K H p (ys.map fun y=>GU<|sOf y)/\ys.flatten.length<=100000/\Q (.str<|sOf ys.flatten) H
def zY:V->List V->Hp->VK->Prop:=fun x xs H Q=>∃a b,x=.str a/\xs=[.str b]/\0<=HE a b/\Q (.int<|HE a b) H
abbrev Bw(X:Cx)(cpos:Pos)(e:Expr):Prop:=((backTo cpos<|starEach [e] X.env).all (fun x=> !x.1)&&(backToKw cpos<|keywordEach [] X.env).all (fun x=>x.1.isSome)&&decide ([e].length+([]:List Iq).length+(if([]:List Iq).isEmpty then 0 else 1)<30))=true
theorem sV(h:X.K=K)(ho:PE X o to)(ha:PA X [e] t)(hbase:attributeBase o "join" X.env (eval o X.env)=eval o X.env:=by rfl)(hfew:Bw X cpos e:=by rfl)(hline:(apos.endLine==cpos.line)=true:=by rfl)(hs:starEach [e] X.env=(false,eval e X.env)::starEach [] X.env:=by rfl)(hplain:(backTo cpos<|starEach [] X.env).any (·.1)=false:=by rfl):
  PE X (.Call (.Attribute o "join" apos) [e] [] cpos) (eG K "str" (zX K) to t):=lK (K:=K) h IA PySem.F.slot_str_join PySem.F.type_str_join (sD (K:=K) h) ho ha hbase hfew hline hs hplain
theorem qI(h:X.K=K)(hc:X.calm=true)(ho:PE X o to)(ha:PA X [e] t)(hbase:attributeBase o "index" X.env (eval o X.env)=eval o X.env:=by rfl)(hfew:Bw X cpos e:=by rfl)(hline:(apos.endLine==cpos.line)=true:=by rfl)(hs:starEach [e] X.env=(false,eval e X.env)::starEach [] X.env:=by rfl)(hplain:(backTo cpos<|starEach [] X.env).any (·.1)=false:=by rfl):
  PE X (.Call (.Attribute o "index" apos) [e] [] cpos) (eG K "str" zY to t):=lK (K:=K) h IA PySem.F.slot_str_index PySem.F.type_str_index (so hc) ho ha hbase hfew hline hs hplain
theorem eX(h:X.K=K)(ho:PE X o to)(ha:PA X [e] t)(hbase:attributeBase o "append" X.env (eval o X.env)=eval o X.env:=by rfl)(hfew:Bw X cpos e:=by rfl)(hline:(apos.endLine==cpos.line)=true:=by rfl)(hs:starEach [e] X.env=(false,eval e X.env)::starEach [] X.env:=by rfl)(hplain:(backTo cpos<|starEach [] X.env).any (·.1)=false:=by rfl):
  PE X (.Call (.Attribute o "append" apos) [e] [] cpos) (eG K "list" ay to t):=lK (K:=K) h FL IM PySem.F.type_list_append qg ho ha hbase hfew hline hs hplain
end
end L2
namespace Wb
open PySem L2 Mi
variable{Er:Nat->Prop}
section
variable{α β γ δ:Type}{t t1 t2 t3 ta tb tc:TE}{σ:St}{W W0 W':Wd}{K:CL}{w:Dr}
class NN{α:Type}(R:Rp α):Prop where
 nn:∀H a v,R H a v->v≠.non
instance zkeep29{R:Rp α}:NN (isL R):=⟨fun _ _ _⟨p,vs,h,_⟩=>by rw[h];exact fun z=>nomatch z⟩
theorem sW{R:Rp α}[NN R]{m:Res α}(h:EV Er t σ W (sh R) m):EV Er t σ W (sh<|isO R) (m.bind fun a=>.ok<|some a):=fun W1 e1 Q k=>
 h W1 e1 _ ((CH k).imp fun a ka v W2 e2 hv=>ka v W2 e2 ⟨hv,NN.nn _ _ _ hv⟩)
theorem sX{R:Rp α}{m:Res (Option α)}(h:EV Er t σ W (sh<|isO R) m):EV Er t σ W (sh R) (m.bind fun a=>lL a):=fun W1 e1 Q k=>
 h W1 e1 _ ((CH k).imp fun a ka v W2 e2 hv=>by
  obtain⟨b,rfl,hb⟩:=eJ ka;exact hb v W2 e2 hv.1)
theorem sY{xs:List α}{ys:List β}{zs:List γ}{i:Nat}{p:α×β×γ}(h:(xs.zip<|ys.zip zs)[i]? =some p):xs[i]? =some p.1/\ys[i]? =some p.2.1/\zs[i]? =some p.2.2:=by
 rw[Fx]at h;obtain⟨h1,h2⟩:=h;rw[Fx]at h2;exact⟨h1,h2.1,h2.2⟩
theorem pq{R1:Rp α}{R2:Rp β}{R3:Rp γ}[Mono R1][Mono R2][Mono R3]{m1:Res (List α)}{m2:Res (List β)}{m3:Res (List γ)}(h1:SV Er t1 σ W K R1 m1)(h2:SV Er t2 σ W K R2 m2)(h3:SV Er t3 σ W K R3 m3):IV Er (xy K<|ag t1<|ag t2<|ag t3 aH) σ W (isT3 K R1 R2 R3) (m1.bind fun xs=>m2.bind fun ys=>m3.bind fun zs=>.ok<|xs.zip<|ys.zip zs):=fun W1 e1 P k=>
 h1 W1 e1 _ ((CH k).imp fun xs kx v W2 e2 hv=>h2 W2 (e1.trans e2) _ ((CH kx).imp fun ys ky u W3 e3 hu=>h3 W3 ((e1.trans e2).trans e3) _ ((CH ky).imp fun zs kz r W4 e4 hr=>by
  obtain⟨c1,vs,rfl,a1,b1⟩:=Mc hv (e3.trans e4).g;obtain⟨c2,us,rfl,a2,b2⟩:=Mc hu e4.g;obtain⟨c3,rs,rfl,a3,b3⟩:=hr;refine⟨c1,c2,c3,vs,us,rs,rfl,a1 W4<|.refl _,a2 W4<|.refl _,a3 W4<|.refl _,kz _ W4 ((e2.trans e3).trans e4) fun W5 e5=>⟨fun i ab hab=>?_,?_⟩⟩
  ·obtain⟨q1,q2,q3⟩:=sY hab;obtain⟨x,hx,rx⟩:=b1.get q1;obtain⟨y,hy,ry⟩:=b2.get q2;obtain⟨z,hz,rz⟩:=b3.get q3;refine⟨⟨vs,us,rs,x,y,z,a1 W5 e5,a2 W5 e5,a3 W5 e5,hx,hy,hz⟩,fun o H'⟨p,x',y',z',hp,z0,z1,z2,z3,z4⟩=>⟨W5.new p<|.tup [x',y',z'],by rw[z4];rfl,.new _ hp,p,x',y',z',z0,Ju ak,?_,?_,?_⟩⟩
   ·have:=z1 vs<|a1 W5 e5;rw[hx]at this;cases this;exact CJ (e5.trans (HX _ hp).g) rx
   ·have:=z2 us<|a2 W5 e5;rw[hy]at this;cases this;exact CJ (e5.trans (HX _ hp).g) ry
   ·have:=z3 rs<|a3 W5 e5;rw[hz]at this;cases this;exact CJ (e5.trans (HX _ hp).g) rz
  ·refine⟨vs,us,rs,a1 W5 e5,a2 W5 e5,a3 W5 e5,?_⟩;rw[Gk,Gk,b1.1,b2.1,b3.1];omega)))
end
end Wb
namespace Mi
theorem jg{a b:Int}(h:0<b):lM a b=.ok (a%b):=bo h
theorem sZ{a b:Int}(h1:0<b)(h2:b<1073741824):p5 a b=.ok (a/b):=bo ⟨h1,h2⟩
theorem mL{a b:Int}(h1: -18446744073709551616<a)(h2:a<18446744073709551616):mI a b=.ok (a*b):=bo<|.inl ⟨h1,h2⟩
theorem t9{a b:Int}(h1: -18446744073709551616<b)(h2:b<18446744073709551616):mI a b=.ok (a*b):=bo<|.inr ⟨h1,h2⟩
theorem jh{α:Type}{xs:List α}{x:α}(h:xs.length<100000):hJ xs x=.ok (xs++[x]):=bo h
theorem cN{a b:Tx}(h:a.length+b.length<=100000):fG a b=.ok (a++b):=bo h
theorem lU{a:Tx}(h:a.length<=100000):qw a=.ok (a.length:Int):=bo h
theorem pw{c:Nat}{n:Int}(h0:0<=n)(h1:n<=100000):vS [c] n=.ok (Dh n.toNat c):=bo ⟨h0,h1⟩
theorem pz{a:Tx}{lo hi:Option Int}(h:a.length<=100000):gS a lo hi=.ok (cut a lo hi):=bo h
theorem tj{xs:List Tx}(h:xs.flatten.length<=100000):sI xs=.ok xs.flatten:=bo h
theorem iL{n:Nat}(h:n<=100000):fZ (n:Int)=.ok ((FQ n).map fun(i:Nat)=>(i:Int)):=by
 unfold fZ;rw[bo ⟨by omega,by omega⟩];simp[fk]
theorem ff{α:Type}{xs:List α}{i:Int}(h0:0<=i)(h1:i<xs.length):∃x,iW xs i=.ok x/\xs[i.toNat]? =some x:=by
 obtain⟨h,e⟩:=sG h0 h1;exact⟨xs[i.toNat],by unfold iW;rw[e];rfl,by simp[h]⟩
theorem ij{x:Tx}{i:Int}(h0:0<=i)(h1:i<x.length)(h2:x.length<=100000):∃c,k6 x i=.ok [c]/\x[i.toNat]? =some c:=by
 obtain⟨h,e⟩:=sG h0 h1;refine⟨x[i.toNat],?_,by simp[h]⟩;unfold k6;rw[bo h2];show(lL<|rF x i).bind _=_;rw[e];rfl
theorem yy{x:Tx}{i:Int}(h0:0<=i)(h1:i<x.length)(h2:x.length<=100000):k6 x i=.ok [x[i.toNat]?.getD 0]:=by
 obtain⟨c,e,h⟩:=ij h0 h1 h2;rw[e,h];rfl
theorem iM{α:Type}[DecidableEq α]{a b:α}(h:a=b):vU a b=.ok true:=if_pos h
theorem gh{α S:Type}{f:α->S->Res S}(I:List α->S->Prop)(xs:List α)(s0:S)(h0:I [] s0)(step:∀pre a post s,xs=pre++a::post->I pre s->∃s',f a s=.ok s'/\I (pre++[a]) s'):
  ∃s,bU f xs s0=.ok s/\I xs s:=by
 have key:∀(post pre:List α)(s:S),xs=pre++post->I pre s->∃s',bU f post s=.ok s'/\I xs s':=by
  intro post
  induction post with
  |nil=>intro pre s e h;rw[DK]at e;subst e;exact⟨s,rfl,h⟩
  |cons a r ih=>
   intro pre s e h;obtain⟨s1,e1,h1⟩:=step pre a r s e h;obtain⟨s2,e2,h2⟩:=ih (pre++[a]) s1 (by rw[e];simp) h1;exact⟨s2,by unfold bU;rw[e1];exact e2,h2⟩
 exact key xs [] s0 rfl h0
theorem mM{α S γ:Type}{f:α->S->Res (Fl γ S)}(I:List α->S->Prop)(xs:List α)(s0:S)(h0:I [] s0)(step:∀pre a post s,xs=pre++a::post->I pre s->∃s',f a s=.ok (.nx s')/\I (pre++[a]) s'):
  ∃s,gU f xs s0=.ok (.nx s)/\I xs s:=by
 have key:∀(post pre:List α)(s:S),xs=pre++post->I pre s->∃s',gU f post s=.ok (.nx s')/\I xs s':=by
  intro post
  induction post with
  |nil=>intro pre s e h;rw[DK]at e;subst e;exact⟨s,rfl,h⟩
  |cons a r ih=>
   intro pre s e h;obtain⟨s1,e1,h1⟩:=step pre a r s e h;obtain⟨s2,e2,h2⟩:=ih (pre++[a]) s1 (by rw[e];simp) h1;exact⟨s2,by unfold gU;rw[e1];exact e2,h2⟩
 exact key xs [] s0 rfl h0
theorem mO{α β:Type}{f:α->Res (Option β)}{g:α->Option β}:∀{xs:List α},(∀x∈xs,f x=.ok (g x))->fM f xs=.ok (xs.filterMap g)
 | [],_=>rfl
 |a::r,h=>by
  unfold fM;rw[h a<|D0 ..,CK,mO fun x hx=>h x<|D4 _ hx,CK,FF];cases g a<;>rfl
theorem mP{α β:Type}{f:α->Res (Option β)}{g:α->Option β}{xs:List α}(hl:xs.length<=100000)(h:∀x∈xs,f x=.ok (g x)):i7 xs f=.ok (xs.filterMap g):=by
 unfold i7;rw[bo hl,CK,mO h]
theorem tm{α β:Type}{f:α->Res β}{P:α->β->Prop}{xs:List α}(hl:xs.length<=100000)(h:∀x∈xs,∃y,f x=.ok y/\P x y):∃ys,bB xs f=.ok ys/\ys.length=xs.length/\∀(i:Nat)x y,xs[i]? =some x->ys[i]? =some y->P x y:=by
 unfold bB;rw[bo hl,CK];clear hl
 induction xs with
 |nil=>exact⟨[],rfl,rfl,fun i x y e=>by simp at e⟩
 |cons a r ih=>
  obtain⟨b,e,hb⟩:=h a<|D0 ..;obtain⟨bs,e2,hl2,h2⟩:=ih fun x hx=>h x<|D4 _ hx;refine⟨b::bs,by unfold iH;rw[e,CK,e2];rfl,by simp[hl2],fun i x y e3 e4=>?_⟩;cases i with
  |zero=>cases e3;cases e4;exact hb
  |succ j=>exact h2 j x y e3 e4
theorem xA(l:List Nat):((l.map fun c=>[c]):List Tx).flatten=l:=by induction l with|nil=>rfl|cons a r ih=>simp[ih]
theorem mQ{α:Type}(l:List α)(k:Nat):cut l none (some (k:Int))=l.take k:=by
 unfold cut sIx;simp only[];rw[if_neg (by omega),EL];simp[List.take_eq_take_iff]
theorem tu{α:Type}(l:List α)(k:Nat):cut l (some (k:Int)) none=l.drop k:=by
 unfold cut sIx;simp only[];rw[if_neg (by omega),EL];by_cases h:k<=l.length;·rw[Nat.min_eq_left h,GH (by simp)]
 ·rw[Nat.min_eq_right (by omega),IB (by omega),IB (by omega)];simp
theorem gK{x:Tx}{t:Tx}(h:t∈aU x):∃c∈x,t=[c]:=by
 unfold aU at h;obtain⟨c,hc,e⟩:=Di.mp h;exact⟨c,hc,e.symm⟩
theorem w9(a:Int):0<=dq a:=by unfold dq;split<;>omega
section
variable{α β:Type}{P:α->Prop}{Q:β->Prop}
theorem zl{m:Res α}{f:α->Res β}(h:m.Ok fun a=>(f a).Ok Q):(m.bind f).Ok Q:=Res.bind_ok h
theorem Bx{b:Bool}{A B:Res α}(h1:b=true->A.Ok P)(h2:b=false->B.Ok P):(if b=true then A else B).Ok P:=by
 cases b with
 |true=>exact h1 rfl
 |false=>exact h2 rfl
theorem yz{c:Prop}[Decidable c]{A B:Res α}(h1:c->A.Ok P)(h2:¬c->B.Ok P):(if decide c=true then A else B).Ok P:=by
 by_cases h:c;·rw[decide_eq_true h];exact h1 h
 ·rw[decide_eq_false h];exact h2 h
theorem okR{a:α}(h:P a):(CT a).Ok P:=h
end
theorem pA{α:Type}(x:List α)(lo hi:Option Int):(cut x lo hi).length<=x.length:=by
 unfold cut;rw[FI,G9];omega
end Mi
namespace Wb
open PySem L2 Mi
variable{Er:Nat->Prop}
section
variable{α β γ:Type}{K:CL}{σ:L2.St}{W:Wd}
theorem nU{n:Nat}(h:n<=cap):fZ (n:Int)=.ok (fk (n:Int)):=by
 unfold fZ;exact bo (by unfold cap at h;omega)
theorem nV{ta:TE}{R:Rp α}{m:Res (List α)}(h:EV Er ta σ W (pk R) m):IV Er (rK<|ag (eo (fun xs H Q=>∃x n,xs=[x]/\mn K x H n/\Q (.int n) H)<|ag ta aH) aH) σ W isI (m.bind fun xs=>i8 xs):=fun W1 e1 P k=>
  ia (gI (K:=K) h) W1 e1 P (Lp (Lp ((CH k).imp fun xs kx=>by
      have hc:xs.length<=cap:=by
        unfold i8 at kx;exact(aM<|CH kx).1
      rw[jI hc]at kx;rw[show ∀(Q:Int->Prop)(n:Int),(CT n).OkE Er Q=Q n from fun _ _=>rfl,nU hc];exact kx)))
end
end Wb
namespace Mi
inductive Dat where
 |n|b (x:Bool)|i (x:Int)|s (x:Tx)|t (xs:List Dat)|l (xs:List Dat)
noncomputable instance zkeep38:DecidableEq Dat:=fun _ _=>Classical.propDecidable _
def Dat.le:Nat->Dat->Prop
 |0,d=>match d with| .t _=>False| .l _=>False|_=>True
 |k+1,d=>match d with| .t xs=>∀x∈xs,Dat.le k x| .l xs=>∀x∈xs,Dat.le k x|_=>True
open Classical in
noncomputable def xB(a b:Dat):Res Bool:=if a=b/\a.le 24 then .ok true else .stuck
theorem nW{a b:Dat}(h:a=b)(hl:a.le 24):xB a b=.ok true:=if_pos ⟨h,hl⟩
def ee{κ α:Type}[DecidableEq κ](kvs:List (κ×α))(k:κ)(a:α):List (κ×α):=
 if(kvs.any fun kv=>decide<|kv.1=k)=true then kvs.map (fun kv=>if kv.1=k then(kv.1,a)else kv)else kvs++[(k,a)]
def fm{κ α:Type}[DecidableEq κ](kvs:List (κ×α))(k:κ)(a:α):Res (List<|κ×α):=dR (kvs.length<cap)<|ee kvs k a
theorem BX{α:Type}{a:α}{Er:Nat->Prop}{P:α->Prop}(h:P a):(CT a).OkE Er P:=h
end Mi
open Mi.Dat renaming s->Fv,t->II,le->J6,l->JS
namespace Wb
open PySem L2 Mi
variable{Er:Nat->Prop}
inductive isU(K:CL)(H:Hp):Dat->V->Prop where
 |n:isU K H .n .non
 |b {x:Bool}:isU K H (.b x) (.bl x)
 |i {x:Int}:isU K H (.i x) (.int x)
 |s {x:Tx}:isU K H (.s x) (.str<|sOf x)
 |t {p:Addr} {xs:List Dat} {vs:List V} (h:SqT K H p vs) (hl:vs.length=xs.length) (r:∀(j:Nat)x v,xs[j]? =some x->vs[j]? =some v->isU K H x v):isU K H (.t xs) (.ref p)
 |l {p:Addr} {xs:List Dat} {vs:List V} (h:H p=some (.lst vs)) (hl:vs.length=xs.length) (r:∀(j:Nat)x v,xs[j]? =some x->vs[j]? =some v->isU K H x v):isU K H (.l xs) (.ref p)
section
variable{α β γ δ:Type}{t t1 t2 t3 t4 ta tb tc td:TE}{σ:St}{W W0 W':Wd}{K:CL}{w:Dr}
theorem isU.same{H H':Hp}{d:Dat}{v:V}(e:Same H H')(h:isU K H d v):isU K H' d v:=by
 induction h with
 |n=>exact .n
 |b=>exact .b
 |i=>exact .i
 |s=>exact .s
 |t h hl r ih=>exact .t (Hl e h) hl ih
 |l h hl r ih=>exact .l (e _ _ h) hl ih
instance zkeep39:Mono (isU K):=⟨fun e h=>isU.same e h⟩
theorem isU.eqk{H:Hp}:∀(n:Nat)(d:Dat)(v u:V),d.le n->isU K H d v->isU K H d u->EqK K H n v u:=by
 intro n
 induction n with
 |zero=>
  intro d v u hd h1 h2;cases h1 with
  |n=>cases h2;exact .flat rfl
  |b=>cases h2;exact .flat rfl
  |i=>cases h2;exact .flat rfl
  |s=>cases h2;exact .flat rfl
  |t h hl r=>exact hd.elim
  |l h hl r=>exact hd.elim
 |succ n ih=>
  intro d v u hd h1 h2;cases h1 with
  |n=>cases h2;exact .flat rfl
  |b=>cases h2;exact .flat rfl
  |i=>cases h2;exact .flat rfl
  |s=>cases h2;exact .flat rfl
  | @t p xs vs h hl r=>
   cases h2 with
   | @t q _ us h' hl' r'=>
    refine .inr ⟨p,q,vs,us,rfl,rfl,.inr ⟨h,h'⟩,by rw[hl,hl'],fun i x y e1 e2=>?_⟩;have hi:i<xs.length:=by rw[<-hl];exact(CP.mp e1).1
    have e3:xs[i]? =some xs[i]:=Dj hi;exact ih xs[i] x y (hd _<|JZ hi) (r i _ x e3 e1) (r' i _ y e3 e2)
  | @l p xs vs h hl r=>
   cases h2 with
   | @l q _ us h' hl' r'=>
    refine .inr ⟨p,q,vs,us,rfl,rfl,.inl ⟨h,h'⟩,by rw[hl,hl'],fun i x y e1 e2=>?_⟩;have hi:i<xs.length:=by rw[<-hl];exact(CP.mp e1).1
    have e3:xs[i]? =some xs[i]:=Dj hi;exact ih xs[i] x y (hd _<|JZ hi) (r i _ x e3 e1) (r' i _ y e3 e2)
def pC(K:CL)(R:Rp α)(u:α->Dat):Prop:=∀H a v,R H a v->isU K H (u a) v
theorem eY:pC K isS .s:=fun _ _ _ h=>by cases h;exact .s
theorem zZ:pC K zk (fun _=>.n):=fun _ _ _ h=>by cases h;exact .n
theorem xC:pC K (isU K) id:=fun _ _ _ h=>h
theorem mR{R:Rp α}{u:α->Dat}(h:pC K R u):pC K (isL R) (fun xs=>.l<|xs.map u):=fun H xs v⟨p,vs,h0,h1,h2⟩=>by
 subst h0;refine .l h1 (by rw[Dq,h2.1]) fun j x v e1 e2=>?_;rw[DQ]at e1;obtain⟨a,ha,rfl⟩:=ED.mp e1;exact h _ _ _<|h2.2 j v a e2 ha
theorem mS{R1:Rp α}{R2:Rp β}{u1:α->Dat}{u2:β->Dat}(h1:pC K R1 u1)(h2:pC K R2 u2):pC K (isT2 K R1 R2) (fun x=>.t [u1 x.1,u2 x.2]):=fun H a v⟨p,x,y,h0,h,r1,r2⟩=>by
 subst h0;refine .t h rfl fun j d v e1 e2=>?_
 match j,e1,e2 with
 |0,e1,e2=>cases e1;cases e2;exact h1 _ _ _ r1
 |1,e1,e2=>cases e1;cases e2;exact h2 _ _ _ r2
theorem xD{R1:Rp α}{R2:Rp β}{R3:Rp γ}{u1:α->Dat}{u2:β->Dat}{u3:γ->Dat}(h1:pC K R1 u1)(h2:pC K R2 u2)(h3:pC K R3 u3):pC K (isT3 K R1 R2 R3) (fun x=>.t [u1 x.1,u2 x.2.1,u3 x.2.2]):=fun H a v⟨p,x,y,z,h0,h,r1,r2,r3⟩=>by
 subst h0;refine .t h rfl fun j d v e1 e2=>?_
 match j,e1,e2 with
 |0,e1,e2=>cases e1;cases e2;exact h1 _ _ _ r1
 |1,e1,e2=>cases e1;cases e2;exact h2 _ _ _ r2
 |2,e1,e2=>cases e1;cases e2;exact h3 _ _ _ r3
theorem gi{R:Rp α}{u:α->Dat}{m:Res α}(h:pC K R u)(e:EV Er t σ W (sh R) m):EV Er t σ W (sh<|isU K) (m.bind fun a=>.ok<|u a):=fun W1 e1 Q k=>
 e W1 e1 _ ((CH k).imp fun a ka v W2 e2 hv=>ka v W2 e2<|h _ _ _ hv)
theorem A0{K:CL}(a b:String)(r:Bool)(h:DD [] (.type a) (.type b)=some r):DD K (.type a) (.type b)=some r:=by first|exact h|(rw[<-h];rfl)
def fg(K:CL):Nat->Sp
 |0=>fun _ _ _ _=>False
 |n+1=>fun vs H Q _=>∃v u,vs=[v,u]/\((EqK K H n v u/\∀H',Same H H'->Q (.bl true) H')\/∃x y,v=.str x/\u=.str y/\Q (.bl<|decide<|GU x=GU y) H)
theorem ft[DecidableEq α]{R:Rp α}[Mono R]{n N:Nat}[EqR K R n]{E:XK}{ma mb:Res α}(hn:n<N)(ha:EV Er ta σ W (sh R) ma)(hb:EV Er tb σ W (sh R) mb):EV Er (aK (fg K N) [] E<|ag ta<|ag tb aH) σ W (sh isB) (ma.bind fun a=>mb.bind fun b=>vU a b):=fun W1 e1 Q k=>
 ha W1 e1 _ ((CH k).imp fun a ka x W2 e2 hx=>hb W2 (e1.trans e2) _ ((CH ka).imp fun b kb y W3 e3 hy=>by
  unfold vU at kb;by_cases z:a=b
  ·rw[if_pos z]at kb;subst z;cases N with
   |zero=>omega
   |succ N=>
    refine⟨x,y,rfl,.inl ⟨EqR.eq W3.H a x y N (by omega) (CJ W3.ok<|CJ (R:=R) e3.g hx)<|CJ W3.ok hy,fun H' hs=>?_⟩⟩;exact kb (.bl true) ⟨W3.G,H',W3.ok.trans hs⟩ ⟨e2.g.trans e3.g,(e2.h.trans e3.h).trans hs,fun p hp=>(e2.trans e3).k p hp⟩ rfl
  ·rw[if_neg z]at kb;exact kb.elim))
theorem jL{N:Nat}{E:XK}{ma mb:Res Dat}(hn:24<N)(ha:EV Er ta σ W (sh<|isU K) ma)(hb:EV Er tb σ W (sh<|isU K) mb):EV Er (aK (fg K N) [] E<|ag ta<|ag tb aH) σ W (sh isB) (ma.bind fun a=>mb.bind fun b=>xB a b):=fun W1 e1 Q k=>
  ha W1 e1 _ ((CH k).imp fun a ka x W2 e2 hx=>hb W2 (e1.trans e2) _ ((CH ka).imp fun b kb y W3 e3 hy=>by
    unfold xB at kb;by_cases z:a=b/\a.le 24
    · rw[if_pos z]at kb;obtain⟨z,hz⟩:=z;subst z;cases N with
      |zero=>omega
      | succ N =>
        have up:∀(m n:Nat)(d:Dat),n<=m->d.le n->d.le m:=by
          intro m
          induction m with
          | zero => intro n d h1 h2; have : n = 0 := by omega
                    subst this;exact h2
          | succ m ih =>
            intro n d h1 h2;cases n with
            | zero => cases d with
              |t xs=>exact h2.elim
              |l xs=>exact h2.elim
              |_=>trivial
            | succ n => cases d with
              |t xs=>exact fun x hx=>ih n x (by omega) (h2 x hx)
              |l xs=>exact fun x hx=>ih n x (by omega) (h2 x hx)
              |_=>trivial
        refine⟨x,y,rfl,.inl ⟨isU.eqk N a x y (up N 24 a (by omega) hz) (isU.same W3.ok<|isU.same e3.g hx)<|isU.same W3.ok hy,fun H' hs=>?_⟩⟩;exact kb (.bl true) ⟨W3.G,H',W3.ok.trans hs⟩ ⟨e2.g.trans e3.g,(e2.h.trans e3.h).trans hs,fun p hp=>(e2.trans e3).k p hp⟩ rfl
    ·rw[if_neg z]at kb;exact kb.elim))
theorem pD{R1:Rp α}{R2:Rp β}{R3:Rp γ}{R4:Rp δ}[Mono R1][Mono R2][Mono R3][Mono R4]{ma:Res α}{mb:Res β}{mc:Res γ}{md:Res δ}(ha:EV Er ta σ W (sh R1) ma)(hb:EV Er tb σ W (sh R2) mb)(hc:EV Er tc σ W (sh R3) mc)(hd:EV Er td σ W (sh R4) md):
  EV Er (cu<|ag ta<|ag tb<|ag tc<|ag td aH) σ W (sh<|isT4 K R1 R2 R3 R4) (ma.bind fun a=>mb.bind fun b=>mc.bind fun c=>md.bind fun d=>.ok (a,b,c,d)):=fun W1 e1 Q k=>
 ha W1 e1 _ ((CH k).imp fun a ka x W2 e2 hx=>hb W2 (e1.trans e2) _ ((CH ka).imp fun b kb y W3 e3 hy=>hc W3 ((e1.trans e2).trans e3) _ ((CH kb).imp fun c kc z W4 e4 hz=>hd W4 (((e1.trans e2).trans e3).trans e4) _ ((CH kc).imp fun d kd u W5 e5 hu=>⟨(by show 4<=sizeLine;decide),fun p hp=>
  kd (.ref p) (W5.new p (.tup [x,y,z,u])) ((((e2.trans e3).trans e4).trans e5).trans (.new _ hp)) ⟨p,x,y,z,u,rfl,Ju ak,CJ (HX _ hp).g (CJ (R:=R1) ((e3.trans e4).trans e5).g hx),CJ (R:=R2) (HX _ hp).g (CJ (R:=R2) (e4.trans e5).g hy),CJ (R:=R3) (HX _ hp).g (CJ (R:=R3) e5.g hz),CJ (R:=R4) (HX _ hp).g hu⟩⟩))))
theorem wa{R1:Rp α}{R2:Rp β}{R3:Rp γ}{R4:Rp δ}:∀H b v,isT4 K R1 R2 R3 R4 H b v->∃p xs x,v=.ref p/\SqT K H p xs/\L2.atI xs 0=some x/\R1 H b.1 x:=fun _ _ _⟨p,x,y,z,u,h0,h,h1,h2,h3,h4⟩=>⟨p,_,x,h0,h,rfl,h1⟩
theorem By{R1:Rp α}{R2:Rp β}{R3:Rp γ}{R4:Rp δ}:∀H b v,isT4 K R1 R2 R3 R4 H b v->∃p xs x,v=.ref p/\SqT K H p xs/\L2.atI xs 1=some x/\R2 H b.2.1 x:=fun _ _ _⟨p,x,y,z,u,h0,h,h1,h2,h3,h4⟩=>⟨p,_,y,h0,h,rfl,h2⟩
theorem Bz{R1:Rp α}{R2:Rp β}{R3:Rp γ}{R4:Rp δ}:∀H b v,isT4 K R1 R2 R3 R4 H b v->∃p xs x,v=.ref p/\SqT K H p xs/\L2.atI xs 2=some x/\R3 H b.2.2.1 x:=fun _ _ _⟨p,x,y,z,u,h0,h,h1,h2,h3,h4⟩=>⟨p,_,z,h0,h,rfl,h3⟩
theorem BA{R1:Rp α}{R2:Rp β}{R3:Rp γ}{R4:Rp δ}:∀H b v,isT4 K R1 R2 R3 R4 H b v->∃p xs x,v=.ref p/\SqT K H p xs/\L2.atI xs 3=some x/\R4 H b.2.2.2 x:=fun _ _ _⟨p,x,y,z,u,h0,h,h1,h2,h3,h4⟩=>⟨p,_,u,h0,h,rfl,h4⟩
structure OwD(gk:β->Key)(R:Rp α)(W:Wd)(p:Addr)(xs:List (β×α)):Prop where
 g:W.G p=none
 h:∃kv,W.H p=some (.dK kv)/\kv.length=xs.length/\∀(i:Nat)(q:Key×V)(x:β×α),kv[i]? =some q->xs[i]? =some x->q.1=gk x.1/\R W.G x.2 q.2
section
variable{g:β->Key}{R:Rp α}
theorem OwD.mono[Mono R]{p:Addr}{xs:List (β×α)}(o:OwD g R W p xs)(e:Ext W W'):OwD g R W' p xs:=by
 obtain⟨kv,a,b,c⟩:=o.h;exact⟨by rw[e.k p (by rw[a];exact fun z=>nomatch z)];exact o.g,kv,e.h _ _ a,b,fun i q x h1 h2=>⟨(c i q x h1 h2).1,CJ e.g (c i q x h1 h2).2⟩⟩
theorem OwD.keep[Mono R]{q:Addr}{xs:List (β×α)}(o:OwD g R W q xs)(hH:W'.H q=W.H q)(hs:Same W.G W'.G)(hg:W'.G q=W.G q):OwD g R W' q xs:=by
 obtain⟨kv,a,b,c⟩:=o.h;exact⟨by rw[hg];exact o.g,kv,by rw[hH];exact a,b,fun i q x h1 h2=>⟨(c i q x h1 h2).1,CJ hs (c i q x h1 h2).2⟩⟩
theorem fu[DecidableEq β](hg:∀a b,g a=g b->a=b){H:Hp}:∀(kv:List (Key×V))(xs:List (β×α)),kv.length=xs.length->(∀(i:Nat)(q:Key×V)(x:β×α),kv[i]? =some q->xs[i]? =some x->q.1=g x.1/\R H x.2 q.2)->∀k,match look xs k with|none=>fb kv (g k)=none|some a=>∃v,fb kv (g k)=some v/\R H a v
 | [],[],_,_,k=>rfl
 |q::kv,x::xs,hl,h,k=>by
  have h0:=h 0 q x rfl rfl;have ih:=fu hg kv xs (by simpa using hl) (fun i q x h1 h2=>h (i+1) q x h1 h2) k;by_cases e:x.1=k
  ·have e1:look (x::xs) k=some x.2:=by unfold look;rw[EE (by simpa using e)];rfl
   rw[e1];exact⟨q.2,fV (by rw[h0.1,e]),h0.2⟩
  ·have e1:look (x::xs) k=look xs k:=by unfold look;rw[DH (by simpa using e)]
   rw[e1];have e2:fb (q::kv) (g k)=fb kv (g k):=fW (fun z=>e (hg _ _ (by rw[<-h0.1];exact z)));rw[e2];exact ih
def EVd(Er:Nat->Prop)(t:TE)(σ:St)(W:Wd)(g:β->Key)(R:Rp α)(m:Res (List<|β×α)):Prop:=∀W1,Ext W W1->∀Q:VK,m.OkE Er (fun xs=>∀p W2,Ext W1 W2->W1.H p=none->OwD g R W2 p xs->Q (.ref p) W2.H)->t σ W1.H Q
theorem pE:EVd Er aZ σ W g R (.ok []):=fun W1 e1 Q k p hp=>k p (W1.mut p (.dK [])<|W1.gnone hp) (.own _ hp) hp ⟨W1.gnone hp,[],ak,rfl,fun i q x h=>by simp at h⟩
theorem qJ[DecidableEq β][Mono R]{Rk:Rp β}{i:Nat}{p:Addr}{xs:List (β×α)}{mk:Res β}(hg:∀a b,g a=g b->a=b)(hk:∀H b v,Rk H b v->v=kV (g b))(o:OwD g R W p xs)(h:EV Er t σ W (sh Rk) mk)(hi:σ[i]? =some (some<|.ref p):=by rfl):
  EV Er (oV t<|ba i) σ W (sh isB) (mk.bind fun k=>.ok<|!(look xs k).isSome):=fun W1 e1 Q k=>h W1 e1 _ ((CH k).imp fun b kb v W2 e2 hv=>⟨.ref p,hi,by
  obtain⟨kv,o1,o2,o3⟩:=(o.mono<|e1.trans e2).h;have hl:=fu hg kv xs o2 o3 b;refine⟨p,fb kv<|g b,rfl,by rw[hk _ _ _ hv];exact DGet.k o1,?_⟩;have:(fb kv<|g b).isSome=(look xs b).isSome:=by
   cases z:look xs b with
   |none=>rw[z]at hl;have hl:fb kv (g b)=none:=hl;rw[hl];rfl
   |some a=>rw[z]at hl;obtain⟨u,hu,_⟩:=hl;rw[hu];rfl
  rw[this];exact kb _ W2 e2 rfl⟩)
theorem pF[DecidableEq β](hg:∀a b,g a=g b->a=b){H:Hp}{kv:List (Key×V)}{xs:List (β×α)}(hl:kv.length=xs.length)(h:∀(i:Nat)(q:Key×V)(x:β×α),kv[i]? =some q->xs[i]? =some x->q.1=g x.1/\R H x.2 q.2){k:β}{a:α}{v:V}(r:R H a v):
  (gR kv (g k) v).length=(ee xs k a).length/\∀(i:Nat)(q:Key×V)(x:β×α),(gR kv (g k) v)[i]? =some q->(ee xs k a)[i]? =some x->q.1=g x.1/\R H x.2 q.2:=by
 have hany:(kv.any fun p=>decide<|p.1=g k)=(xs.any fun p=>decide<|p.1=k):=by
  have key:∀(kv:List (Key×V))(xs:List (β×α)),kv.length=xs.length->(∀(i:Nat)(q:Key×V)(x:β×α),kv[i]? =some q->xs[i]? =some x->q.1=g x.1/\R H x.2 q.2)->(kv.any fun p=>decide<|p.1=g k)=(xs.any fun p=>decide<|p.1=k):=by
   intro kv
   induction kv with
   |nil=>intro xs hl _;cases xs with|nil=>rfl|cons _ _=>cases hl
   |cons q kv ih=>
    intro xs hl h;cases xs with
    |nil=>cases hl
    |cons x xs=>
     rw[Ha,Ha,ih xs (by simpa using hl) fun i q x h1 h2=>h (i+1) q x h1 h2];congr 1;rw[(h 0 q x rfl rfl).1,Ef];simp only[decide_eq_true_eq];exact⟨hg _ _,fun e=>by rw[e]⟩
  exact key kv xs hl h
 unfold gR ee;rw[hany];by_cases c:(xs.any fun p=>decide<|p.1=k)=true
 ·rw[if_pos c,if_pos c];refine⟨by simp[hl],fun i q x h1 h2=>?_⟩;rw[DQ]at h1 h2;obtain⟨q0,hq0,rfl⟩:=ED.mp h1;obtain⟨x0,hx0,rfl⟩:=ED.mp h2;obtain⟨h3,h4⟩:=h i q0 x0 hq0 hx0;by_cases z:x0.1=k;·rw[if_pos z,if_pos (by rw[h3,z])];exact⟨h3,r⟩
  ·rw[if_neg z,if_neg (fun e=>z (hg _ _ (by rw[<-h3];exact e)))];exact⟨h3,h4⟩
 ·rw[if_neg c,if_neg c];refine⟨by simp[hl],fun i q x h1 h2=>?_⟩;by_cases hi:i<kv.length
  ·rw[Dz hi]at h1;rw[Dz (by rw[<-hl];exact hi)]at h2;exact h i q x h1 h2
  ·rw[Dt (by omega)]at h1;rw[Dt (by rw[<-hl];omega),<-hl]at h2
   match i-kv.length,h1,h2 with
   |0,h1,h2=>cases h1;cases h2;exact⟨rfl,r⟩
end
section
variable{g:β->Key}{R:Rp α}{D:Ends}{r:TS}{te ti:TE}{i:Nat}
theorem wb{σ':Addr->St}{m:Res (List<|β×α)}(h:EVd Er te σ W g R m)(q:m.OkE Er fun a=>∀p W',Ext W W'->W.H p=none->OwD g R W' p a->D.nx (σ' p) W'.H)(hσ:∀p,σ.set i (some<|.ref p)=σ' p:=by intro _;rfl):bS te (aF i) D σ W.H:=h W (.refl _) _ (q.imp fun a k p W' e hp r=>by have:=k p W' e hp r;rw[<-hσ]at this;exact this)
theorem gL{σ':Addr->St}{m:Res (List<|β×α)}(h:EVd Er te σ W g R m)(q:m.OkE Er fun a=>∀p W',Ext W W'->W.H p=none->OwD g R W' p a->r D (σ' p) W'.H)(hσ:∀p,σ.set i (some<|.ref p)=σ' p:=by intro _;rfl):dC (bS te<|aF i) r D σ W.H:=wb (D:={D with nx:=r D}) h q hσ
theorem ik[DecidableEq β][Mono R]{Rk:Rp β}{p:Addr}{xs:List (β×α)}{m:Res α}{mk:Res β}(hg:∀a b,g a=g b->a=b)(hk:∀H b v,Rk H b v->v=kV (g b))(o:OwD g R W p xs)(h:EV Er te σ W (sh R) m)(hj:EV Er ti σ W (sh Rk) mk)
  (q:(m.bind fun a=>mk.bind fun k=>fm xs k a).OkE Er fun ys=>∀W',Mu W W' p->OwD g R W' p ys->D.nx σ W'.H) (hi:σ[i]? =some (some<|.ref p):=by rfl):bA (ba i) ti te D σ W.H:=by
 refine h W (.refl _) _<|(CH q).imp fun a ka v W2 e2 hv=>⟨.ref p,hi,hj W2 e2 _<|(CH ka).imp fun k kk x W3 e3 hx=>?_⟩;obtain⟨h3,h4⟩:=aM kk;have e:=e2.trans e3;have o':=o.mono e;obtain⟨kv,o1,o2,o3⟩:=o'.h;obtain⟨p1,p2⟩:=pF hg o2 o3 (k:=k)<|CJ (R:=R) e3.g hv;refine⟨p,_,rfl,by rw[hk _ _ _ hx];exact DPut.k o1 (by rw[o2,El];unfold Mi.cap at h3;omega),?_⟩;exact h4 (W3.mut p (.dK<|gR kv (g k) v) o'.g) (.of e o'.g) ⟨o'.g,_,ak,p1,p2⟩
theorem qK[DecidableEq β][Mono R]{Rk:Rp β}{p:Addr}{xs:List (β×α)}{m:Res α}{mk:Res β}(hg:∀a b,g a=g b->a=b)(hk:∀H b v,Rk H b v->v=kV (g b))(o:OwD g R W p xs)(h:EV Er te σ W (sh R) m)(hj:EV Er ti σ W (sh Rk) mk)
  (q:(m.bind fun a=>mk.bind fun k=>fm xs k a).OkE Er fun ys=>∀W',Mu W W' p->OwD g R W' p ys->r D σ W'.H) (hi:σ[i]? =some (some<|.ref p):=by rfl):dC (bA (ba i) ti te) r D σ W.H:=ik (D:={D with nx:=r D}) hg hk o h hj q hi
end
theorem kS:∀(H:Hp)(b:Tx)(v:V),isS H b v->v=kV (Ds<|sOf b):=fun _ _ _ h=>h
theorem EV.go{W1:Wd}{R:Rw α}{m:Res α}{Q:VK}(e:Ext W W1)(h:EV Er t σ W R m)(k:m.OkE Er fun a=>∀v W2,Ext W1 W2->R W2 a v->Q v W2.H):t σ W1.H Q:=h W1 e Q k
end
end Wb
namespace Mi
def kindN:List Tx:=[[66,97,100,84,97,98,108,101,116],[66,97,100,82,111,119],[66,97,100,84,101,120,116],[66,97,100,77,97,114,107],[84,111,111,76,111,110,103],[84,111,111,84,105,103,104,116],[83,112,111,111,108,68,114,121],[78,111,84,97,98,108,101,116],[78,111,116,104,105,110,103,76,101,102,116],[85,110,108,105,107,101],[83,101,101,110,84,104,114,101,97,100],[78,111,83,117,99,104,87,97,121],[66,97,114,114,101,100]]
def nX(s:Tx)(j:Nat):Dat:=.t [.s s,.l [.s (kindN.getD j [])]]
def yA(x:Tx):Res Tx:=dR (x.length<=cap) x
end Mi
namespace L2
open PySem PySem.Spec PyProof.Rows
def XV(x:Addr):Option Addr->CN
 |none=>.ref x
 |some d=>.int (Int.ofNat d) 0
theorem qL{f:Array CN->Array CN}{o:Obj}:(E3 f o).dict=o.dict:=by
 unfold E3;split<;>rfl
structure Fly(h:Heap)(H:Hp)(lim:Heap)(e C:Addr)(od:Option Addr):Prop where
 he:H e=none
 hl:lim.get? e=none
 ob:∃(oe:Obj)(vs:Array CN),h.get? e=some oe/\(oe.cls=.ref C/\oe.dict=od)/\oe.data=.fields vs/\vs[2]? =some .none/\
  (vs[1]? =some .none\/∃(T:Addr)(oT:Obj)(ts:Array CN),vs[1]? =some (.ref T)/\T≠e/\H T=none/\lim.get? T=none/\h.get? T=some oT/\oT.data=.fields ts/\ts[3]? =some .none)
structure Gone(fs:List Addr)(H:Hp)(lim:Heap)(e:Addr)(h h':Heap):Prop where
 keep:∀b o,h.get? b=some o->b∉fs->b≠e->(H b≠none\/lim.get? b≠none)->h'.get? b=some o
 slot:∀b o,h.get? b=some o->b∈fs->∃sl,h'.get? b=some {o with slots:=sl}
 there:∀b o,h.get? b=some o->∃o',h'.get? b=some o'
theorem Gone.trans{fs:List Addr}{H:Hp}{lim:Heap}{e:Addr}{h h1 h2:Heap}(a:Gone fs H lim e h h1)(b:Gone fs H lim e h1 h2):Gone fs H lim e h h2:=
 ⟨fun c o q n m k=>b.keep c o (a.keep c o q n m k) n m k,fun c o q n=>by
  obtain⟨sl,z⟩:=a.slot c o q n;obtain⟨sl',z'⟩:=b.slot c _ z n;exact⟨sl',z'⟩,fun c o q=>by
  obtain⟨o',z⟩:=a.there c o q;exact b.there c o' z⟩
section
variable{M:Ki}{A:Dy}{E:CN->CO->Prop}{s:CO}{base lim:Heap}{H:Hp}{env:Env}{outer:List Env}{L e C:Addr}{od:Option Addr}
abbrev AQ(head:CN)(L:Addr)(pl:List CN):Obj:={cls:=.type "traceback",dict:=none,data:=.fields ([head,.ref L,.none,rawInt L,.none]++(if pl.isEmpty then Dh 6 DC else pl)).toArray}
theorem pG{head:CN}{hn:Bool}{oe:Obj}{vs:Array CN}{Q:Unit->CO->Prop}(hfr:A.frames=some (env::outer))(hfn:s.heap.FunFrames base (env::outer))(hf:env.frame=some L)
  (he:s.heap.get? e=some oe) (hd:oe.data=.fields vs) (hc:oe.cls=.ref C/\oe.dict=od) (h2:vs[2]? =some .none) (hH:H e=none) (hlm:lim.get? e=none)
  (hfree:∀b,s.heap.objs.size<=b->H b=none/\lim.get? b=none)
  (h:∀h',Gone (frs (env::outer)) H lim e s.heap h'->Fly h' H lim e C od->Q () {s with heap:=h'}):
  wpAny M A (do let a <-frameOf env;let pl <-entryPlaceOf L hn;let b <-Jb head a .none (rawInt L) .none pl;setField (.ref e) 1 b) (fun _ s'=>wpAny M A (setFlight (.ref e) none) Q E s') E s:=by
 have hsz:1<vs.size:=by have:=(Ft.mp h2).1;omega
 have nfr:e∉(env::outer).filterMap (·.frame):=fun hm=>by
  obtain⟨_,o,ho,hnf⟩:=hfn.mem hm;rw[he]at ho;exact hnf vs (by rw[<-DJ ho];exact hd)
 refine CI<|wpAny_frameOf_fun hfr hfn hf fun h1 hs1=>?_;refine CI<|wpAny_entryPlaceOf fun pl hpl=>?_;unfold Jb newFields;refine CI<|Ep ?_<|hpl.sizeOk5 _ _ _ _ _;have g1:h1.get? e=some oe:=(hs1.2.1 e nfr).trans he;have g2:(h1.push<|AQ head L pl).get? e=some oe:=CM _ g1;refine EM g2 hd hsz ?_;have ne:h1.objs.size≠e:=EZ<|D5 g1;have d3:=Ey hd (·.setIfInBounds 1 (D6 h1.objs.size));have g3:=En (E3 (·.setIfInBounds 1 (D6 h1.objs.size))) g2<|F7 d3;have gT:=(DT (h1.push<|AQ head L pl) (E3 (·.setIfInBounds 1 (D6 h1.objs.size)))<|Ec ne).trans (CY h1 rfl);unfold setFlight;refine CI (Dx g3 d3 (x:=.ref h1.objs.size) (by simp[hsz]) ?_);rw[if_pos (show(D6 h1.objs.size != DC)=true from by simp)];refine EM gT rfl (by simp only[D9,Du,DW,FY]<;>omega) ?_;have keep1:∀b o,b≠e->h1.get? b=some o->(((h1.push<|AQ head L pl).update e (E3 (·.setIfInBounds 1 (D6 h1.objs.size)))).update h1.objs.size (E3 (·.setIfInBounds 3 ((none:Option Addr).elim DC fun f=>rawInt f)))).get? b=some o:=fun b o hb hq=>by
  rw[DT _ _<|EZ<|D5 hq,DT _ _<|Ec hb];exact CM _ hq
 have ge:(((h1.push<|AQ head L pl).update e (E3 (·.setIfInBounds 1 (D6 h1.objs.size)))).update h1.objs.size (E3 (·.setIfInBounds 3 ((none:Option Addr).elim DC fun f=>rawInt f)))).get? e=some (E3 (·.setIfInBounds 1 (D6 h1.objs.size)) oe):=by
  rw[DT _ _ ne];exact g3
 have big:s.heap.objs.size<=h1.objs.size:=hs1.1▸D8 _;refine h _ ⟨fun b o q n m _=>keep1 b o m<|(hs1.2.1 b n).trans q,fun b o q n=>?_,fun b o q=>?_⟩ ⟨hH,hlm,_,_,ge,⟨by rw[HS];exact hc.1,by rw[qL];exact hc.2⟩,d3,by rw[Array.getElem?_setIfInBounds_ne (by decide)];exact h2,.inr ⟨h1.objs.size,_,_,by simp[hsz],ne,(hfree _ big).1,(hfree _ big).2,En _ gT<|F7<|Ey rfl _,Ey rfl _,?_⟩⟩
 ·obtain⟨sl,z⟩:=hs1.2.2 b o q;exact⟨sl,keep1 b _ (fun y=>nfr<|y▸n) z⟩
 ·by_cases y:b=e;·rw[y];exact⟨_,ge⟩
  ·obtain⟨sl,z⟩:=hs1.2.2 b o q;exact⟨_,keep1 b _ y z⟩
 ·first|(simp;done)|(rcases hpl with rfl|⟨_,_,_,_,_,_,_,rfl⟩<;>simp)
theorem pH{Q:Unit->CO->Prop}(hfr:A.frames=some (env::outer))(hfn:s.heap.FunFrames base (env::outer))(hf:env.frame=some L)(x:Fly s.heap H lim e C od)
  (hfree:∀b,s.heap.objs.size<=b->H b=none/\lim.get? b=none)
  (h:∀h',Gone (frs (env::outer)) H lim e s.heap h'->Fly h' H lim e C od->Q () {s with heap:=h'}):wpAny M A (noteFrame (.ref e) env) (fun _ s'=>wpAny M A (setFlight (.ref e) none) Q E s') E s:=by
 obtain⟨hH,hlm,oe,vs,he,hc,hd,h2,h1⟩:=x;unfold noteFrame;simp only[hf];rcases h1 with h1|⟨T,oT,ts,h1,hTe,hT0,hTl,hT,hdT,h3⟩
 ·refine CI<|Dx he hd h1 ?_;rw[if_neg (by decide)];exact pG hfr hfn hf he hd hc h2 hH hlm hfree h
 ·refine CI<|Dx he hd h1 ?_;rw[if_pos (show(D6 T != DC)=true from by simp)];refine CI<|Dx hT hdT h3 ?_;rw[if_neg (show ¬((DC==rawInt L)=true)from by simp[rawInt])];refine CI<|EM hT hdT (Ft.mp h3).1 ?_;have other:∀b,b≠T->(s.heap.update T (E3 (·.setIfInBounds 3 DC))).get? b=s.heap.get? b:=fun b hb=>DT _ _<|Ec hb;have nT:∀b o,s.heap.get? b=some o->(∀vs,o.data≠.fields vs)->b≠T:=fun b o q hn z=>by
   rw[z,hT]at q;exact hn ts (by rw[<-DJ q];exact hdT)
  have g0:Gone (frs (env::outer)) H lim e s.heap (s.heap.update T (E3 (·.setIfInBounds 3 DC))):=⟨fun b o q n m k=>(other b fun z=>by
    rw[z,hT0,hTl]at k;rcases k with k|k<;>exact k rfl).trans q,fun b o q n=>⟨o.slots,(other b (by
    obtain⟨_,o',ho,hnf⟩:=hfn.mem n;exact nT b o' ho hnf)).trans q⟩,fun b o q=>by
    by_cases z:b=T;·rw[z];exact⟨_,En _ hT<|F7<|Ey hdT _⟩
    ·exact⟨o,(other b z).trans q⟩⟩
  have sz:(s.heap.update T (E3 (·.setIfInBounds 3 DC))).objs.size=s.heap.objs.size:=Heap.size_update ..;refine pG (s:={s with heap:=s.heap.update T (E3 (·.setIfInBounds 3 DC))}) hfr (hfn.of_keeps fun b o q hn=>⟨o,(other b<|nT b o q hn).trans q,rfl⟩) hf ((other e<|Ec hTe).trans he) hd hc h2 hH hlm (fun b hb=>hfree b (by rw[<-sz];exact hb)) fun h' g1 f1=>h h' (g0.trans g1) f1
theorem qM{Q:Unit->CO->Prop}(hfr:A.frames=some (env::outer))(hfn:s.heap.FunFrames base (env::outer))(hf:env.frame=some L)(x:Fly s.heap H lim e C od)
  (hfree:∀b,s.heap.objs.size<=b->H b=none/\lim.get? b=none)
  (h:∀h',Gone (frs (env::outer)) H lim e s.heap h'->Fly h' H lim e C od->Q () {s with heap:=h'}):wpAny M A (leaving env<|.ref e) Q E s:=by
 unfold leaving;exact CI<|pH hfr hfn hf x hfree h
theorem tD{Q:Unit->CO->Prop}(hfn:s.heap.FunFrames base (env::outer))(x:Fly s.heap H lim e C od)
  (h:∀h',Gone (frs (env::outer)) H lim e s.heap h'->Fly h' H lim e C od->Q () {s with heap:=h'}):wpAny M A (setFlight (.ref e) none) Q E s:=by
 obtain⟨hH,hlm,oe,vs,he,hc,hd,h2,h1⟩:=x;unfold setFlight;rcases h1 with h1|⟨T,oT,ts,h1,hTe,hT0,hTl,hT,hdT,h3⟩
 ·refine CI<|Dx he hd h1 ?_;rw[if_neg (by decide)];exact CU<|h s.heap ⟨fun b o q _ _ _=>q,fun b o q _=>⟨o.slots,q⟩,fun b o q=>⟨o,q⟩⟩ ⟨hH,hlm,oe,vs,he,hc,hd,h2,.inl h1⟩
 ·refine CI<|Dx he hd h1 ?_;rw[if_pos (show(D6 T != DC)=true from by simp)];refine EM hT hdT (Ft.mp h3).1 ?_;have other:∀b,b≠T->(s.heap.update T (E3 (·.setIfInBounds 3 ((none:Option Addr).elim DC fun f=>rawInt f)))).get? b=s.heap.get? b:=fun b hb=>DT _ _<|Ec hb;have gT:=En (E3 (·.setIfInBounds 3 ((none:Option Addr).elim DC fun f=>rawInt f))) hT<|F7<|Ey hdT _;refine h _ ⟨fun b o q n m k=>(other b fun z=>by
    rw[z,hT0,hTl]at k;rcases k with k|k<;>exact k rfl).trans q,fun b o q n=>⟨o.slots,(other b (by
    obtain⟨_,o',ho,hnf⟩:=hfn.mem n;intro z;rw[z,hT]at ho;exact hnf ts (by rw[<-DJ ho];exact hdT))).trans q⟩,fun b o q=>by
    by_cases z:b=T;·rw[z];exact⟨_,gT⟩
    ·exact⟨o,(other b z).trans q⟩⟩ ⟨hH,hlm,oe,vs,(other e (Ec hTe)).trans he,hc,hd,h2,.inr ⟨T,_,_,h1,hTe,hT0,hTl,gT,Ey hdT _,?_⟩⟩
  have:=(Ft.mp h3).1;simp[this]
end
def CXR(P:Dg)(w:Dr):CXT:=fun outer H s E e s'=>∃(x C:Addr)(H':Hp)(od:Option Addr),e=.ref x/\Fly s'.heap H' s.heap x C od/\s'.os=s.os/\Hv s'.gens/\Un (frs outer) [] H H' s.heap s'.heap/\HOk P w H' s'.heap/\E (XV x od) (some C) H'
theorem Fly.lim{h l1 l2:Heap}{H:Hp}{e C:Addr}{od:Option Addr}(f:Fly h H l1 e C od)(k:∀b,l1.get? b=none->l2.get? b=none):Fly h H l2 e C od:=by
 obtain⟨a,b,oe,vs,h1,h2,h3,h4,h5⟩:=f;refine⟨a,k _ b,oe,vs,h1,h2,h3,h4,h5.imp id fun⟨T,oT,ts,q1,q2,q3,q4,q5⟩=>⟨T,oT,ts,q1,q2,q3,k _ q4,q5⟩⟩
section
variable{P:Dg}{w:Dr}{K:CL}{mg:Str->Option CN}{base:Heap}{N:List Str}{qual:Str}{scope:FO}{f:Addr}{cd:CN}{A:Dy}{outer:List Env}{s0 s:CO}{H0 H:Hp}{E:XK}{pins:List (Addr×Obj)}{σ:St}{e C:Addr}{od:Option Addr}
abbrev pI(P:Dg)(w:Dr)(K:CL)(mg:Str->Option CN)(base:Heap)(N:List Str)(qual:Str)(scope:FO)(f:Addr)(cd:CN)(A:Dy)(outer:List Env)(s0:CO)(H0:Hp)(E:XK):Cx:=jx (CXR P w) P w K mg base N qual scope f cd A outer s0 H0 E
theorem xE(I:Inv (pI P w K mg base N qual scope f cd A outer s0 H0 E) pins σ H s)(x:Fly s.heap H s0.heap e C od)(q:E (XV e od) (some C) H):(pI P w K mg base N qual scope f cd A outer s0 H0 E).xe (.ref e) s:=by
 have hsz:s0.heap.objs.size<=s.heap.objs.size:=I.sz;have hfree:∀b,s.heap.objs.size<=b->H b=none/\s0.heap.get? b=none:=fun b hb=>⟨I.hok.fresh hb,Hb<|EA hsz hb⟩
 refine qM (base:=base) (env:=envOfC qual scope s0.heap.objs.size f cd) (outer:=outer) (L:=s0.heap.objs.size) (H:=H) (lim:=s0.heap) I.ok.frames I.stack rfl x hfree fun h' g fl=>?_;have stk:∀b,b∈frs (envOfC qual scope s0.heap.objs.size f cd::outer)->H b=none:=I.stkFree;have low:∀b o,s0.heap.get? b=some o->b∉frs outer->b∉frs (envOfC qual scope s0.heap.objs.size f cd::outer):=fun b o q n m=>by
  have:b=s0.heap.objs.size\/b∈frs outer:=D7.mp (show b∈s0.heap.objs.size::frs outer from m);rcases this with z|z
  ·have:=D5 q;rw[z]at this;exact DN _ this
  ·exact n z
 have sub:∀b,b∈frs outer->b∈frs (envOfC qual scope s0.heap.objs.size f cd::outer):=fun b m=>by
  show b∈s0.heap.objs.size::frs outer;exact D4 _ m
 have ne0:∀b o,s0.heap.get? b=some o->b≠e:=fun b o q z=>by rw[z,x.hl]at q;cases q
 have U:=I.base;refine⟨e,C,H,od,rfl,fl,I.os,I.bare,⟨fun b o q1 n hb hx=>g.keep b o (U.keep b o q1 n hb hx) (low b o q1 hb) (ne0 b o q1) (.inr (by rw[q1];exact fun z=>nomatch z)),fun b o q1 n hb hx=>?_,U.free,fun b o q1 hx=>?_,U.tups,U.frzs,U.tbls⟩,fun b u hb=>?_,q⟩
 ·obtain⟨sl,z⟩:=U.slot b o q1 n hb hx;obtain⟨sl',z'⟩:=g.slot b _ z<|sub b hb;exact⟨sl',z'⟩
 ·obtain⟨o',z⟩:=U.there b o q1 hx;exact g.there b o' z
 ·refine(I.hok b u hb).stay (fun c v hc q1=>?_) (fun _ q1=>q1) fun _ _ q1=>q1;have hn:H c≠none:=by
   rcases hc with z|z
   ·rw[z,hb];exact fun z=>nomatch z
   ·rw[z];exact fun z=>nomatch z
  exact g.keep c v q1 (fun m=>hn<|stk c m) (fun z=>hn (by rw[z];exact x.he))<|.inl hn
theorem xF:eO (CXR P w) (pI P w K mg base N qual scope f cd A outer s0 H0 E) E:=fun pins σ H s e s' I⟨x,C,H',od,he,fl,os,bare,un,hok,q⟩=>by
 subst he;have I':=I.call' os un hok bare fun b z=>absurd z (by simp);refine xE I' (fl.lim fun b hb=>?_) q;cases z:s0.heap.get? b with
 |none=>rfl
 |some o=>
  obtain⟨o',z'⟩:=I.base.there b o z (by simp[jx]);rw[hb]at z';cases z'
end
theorem ObjOk.ex{P:Dg}{w:Dr}{H:Hp}{h:Heap}{a:Addr}:∀{o:HO},ObjOk P w H h a o->∃ob,h.get? a=some ob:=by
 intro o
 induction o with
 |lst xs=>intro x;obtain⟨_,its,n,r,e⟩:=x;exact⟨_,e⟩
 |tup xs=>intro x;obtain⟨_,its,r,ob,e,c⟩:=x;exact⟨_,e⟩
 |dK kvs=>intro x;obtain⟨_,_,vs,r,ob,es,ep,e,c⟩:=x;exact⟨_,e⟩
 |dT kvs=>intro x;obtain⟨_,_,xs,r,ob,es,ep,e,c⟩:=x;exact⟨_,e⟩
 |set S n=>intro x;obtain⟨o,e,_⟩:=Ma x;exact⟨_,e⟩
 |ins C dx fs=>intro x;obtain⟨_,_,_,e,_⟩:=x;exact⟨_,e⟩
 |own y=>intro x;exact x
 |xd fs=>intro x;obtain⟨mA,hn,_⟩:=x;obtain⟨o,es,ep,e,_⟩:=hn;exact⟨_,e⟩
 |rng lo hi=>intro x;obtain⟨t,u,v,e⟩:=x;exact⟨_,e⟩
 |frz o u=>intro x;exact⟨_,x.1⟩
 |tbl ps=>intro x;exact⟨_,x⟩
 |met f y=>intro x;exact⟨_,x⟩
 |ext φ=>intro x;exact x.2.1
def Ecl(h:Heap)(C:Addr):Prop:=∃nm q N bs bm hdct sn sub ab col dd k0 k1 k2 k3 k5 newId mN B initId bmB,h.get? C=some (excClassObj nm q C N bs bm hdct sn sub ab col dd k0 k1 k2 k3 k5 newId)/\h.Ns N mN/\mN "__init__"=none/\OwnTail h bmB bm/\ExcBaseFacts B newId initId bmB
def tE(E:XK)(C:Addr)(t:TA):TS:=fun _ σ H=>t σ H fun vs H1=>vs.length<=sizeLine/\∀x,H1 x=none->E (.ref x) (some C) H1
section
variable{P:Dg}{w:Dr}{K:CL}{mg:Str->Option CN}{base:Heap}{N:List Str}{qual:Str}{scope:FO}{f:Addr}{cd:CN}{A:Dy}{outer:List Env}{s0:CO}{H0:Hp}{E:XK}{C:Addr}
theorem jM{x:Str}{np cpos pos:Pos}{e:Expr}{es:List Expr}{t:TA}(cl:Ecl base C)(hg:Gl (pI P w K mg base N qual scope f cd A outer s0 H0 E) x)(hm:mg x=some (.ref C))(ha:PA (pI P w K mg base N qual scope f cd A outer s0 H0 E) (e::es) t)
  (hdb:(x==("__debug__" :Str))=false:=by decide) (he:starEach (e::es) (pI P w K mg base N qual scope f cd A outer s0 H0 E).env=(false,eval e (pI P w K mg base N qual scope f cd A outer s0 H0 E).env)::starEach es (pI P w K mg base N qual scope f cd A outer s0 H0 E).env:=by rfl) (hpl:(backTo cpos<|starEach es (pI P w K mg base N qual scope f cd A outer s0 H0 E).env).any (·.1)=false:=by rfl):
  PS (pI P w K mg base N qual scope f cd A outer s0 H0 E) (.Raise (some<|.Call (.Name x np) (e::es) [] cpos) none pos) (tE E C t):=by
 intro pins s σ H D I h;obtain⟨nm,q,Nn,bs,bm,hdct,sn,sub,ab,col,dd,k0,k1,k2,k3,k5,newId,mN,B,initId,bmB,hC,hN,hni,T,F⟩:=cl;refine wpAny_Raise_call_subT (C:=C) (nm:=nm) (q:=q) (N:=Nn) (bs:=bs) (bm:=bm) (hdct:=hdct) (sn:=sn) (sub:=sub) (ab:=ab) (col:=col) (dd:=dd) (k0:=k0) (k1:=k1) (k2:=k2) (k3:=k3) (k5:=k5) F (mN:=mN) (T.hasType F.hasBase) (I.ok.hd rfl) (by rw[he];show(false||(backTo cpos<|starEach es _).any (·.1))=false;rw[hpl];rfl) hni<|gF I hg hm ⟨rfl,?_⟩ hdb;rw[he];refine He ?_;show wpAny _ _ (spliced<|backTo cpos ((false,eval e (pI P w K mg base N qual scope f cd A outer s0 H0 E).env)::starEach es (pI P w K mg base N qual scope f cd A outer s0 H0 E).env)) _ _ _;rw[<-he];refine bO (ha cpos pins s σ H _ I h) fun us s1⟨vs,H1,I1,r,hz,q1⟩=>⟨rfl,by rw[<-r.length];exact hz,I1.bk _ _ hC,hN.keeps I1.bk,T.keeps I1.bk,fun h' y hy=>?_⟩
 obtain⟨t0,h1,h2,h3⟩:=hy.there;have I2:Inv (pI P w K mg base N qual scope f cd A outer s0 H0 E) pins σ H1 {s1 with heap:=h'}:=I1.kept (t':=s1.toks) hy.keeps;have n1:H1 y=none:=by
  cases z:H1 y with
  |none=>rfl
  |some o=>obtain⟨ob,hb⟩:=(I1.hok y o z).ex;rw[hy.new]at hb;cases hb
 have n2:s0.heap.get? y=none:=by
  cases z:s0.heap.get? y with
  |none=>rfl
  |some o=>obtain⟨ob,hb⟩:=I1.base.there y o z (by simp[jx]);rw[hy.new]at hb;cases hb
 exact xE (od:=none) I2 ⟨n1,n2,_,_,h1,⟨rfl,rfl⟩,rfl,rfl,.inl rfl⟩<|q1 y n1
end
def Xcl(h:Heap)(C:Addr)(bm:List CN):Prop:=∃nm q N bs hdct sn sub ab col dd k0 k1 k2 k3 k5 newId,h.get? C=some (excClassObj nm q C N bs bm hdct sn sub ab col dd k0 k1 k2 k3 k5 newId)/\bm.contains (.type "BaseException")=true
theorem Xcl.keeps{h h':Heap}{C:Addr}{bm:List CN}(x:Xcl h C bm)(k:∀b o,h.get? b=some o->h'.get? b=some o):Xcl h' C bm:=by
 obtain⟨nm,q,N,bs,hdct,sn,sub,ab,col,dd,k0,k1,k2,k3,k5,newId,e,hb⟩:=x;exact⟨nm,q,N,bs,hdct,sn,sub,ab,col,dd,k0,k1,k2,k3,k5,newId,k _ _ e,hb⟩
section
variable{M:Ki}{A:Dy}{E:CN->CO->Prop}
theorem ke{s:CO}{e C D:Addr}{bmC bmD:List CN}{oe:Obj}{Q:Bool->CO->Prop}(hC:Xcl s.heap C bmC)(hD:Xcl s.heap D bmD)(he:s.heap.get? e=some oe)(hcls:oe.cls=.ref C)(hq:Q ((D6 C::bmC).contains (.ref D)) s):wpAny M A (excMatches (.ref e)<|.ref D) Q E s:=by
 obtain⟨h,g,d,t,os⟩:=s;obtain⟨nm,q,N,bs,hdct,sn,sub,ab,col,dd,k0,k1,k2,k3,k5,newId,hC,hbase⟩:=hC;obtain⟨nm',q',N',bs',hdct',sn',sub',ab',col',dd',k0',k1',k2',k3',k5',newId',hD,hbase'⟩:=hD;have hcB:(D6 D::bmD).contains (.type "BaseException")=true:=by rw[Jr,hbase',Bool.or_true]
 have f:=tc_notTuple;generalize hb:(D6 C::bmC).contains (.ref D)=b at hq;unfold excMatches
 repeat (first|(with_reducible refine JM he ?_;rw[hcls])|with_reducible refine JM hD ?_|(with_reducible refine Jc hD ?_;rw[hcB])|(with_reducible refine Jc hC ?_;rw[hb])|wp_step)
 first|exact hq|(cases b<;>(wp_walk;exact hq))
end
structure Big(X:Cx)(pins:List (Addr×Obj))(lim:Heap):Prop where
 old:∀b o,X.s₀.heap.get? b=some o->b∉X.ex->lim.get? b≠none
 loc:lim.get? X.env.locals≠none
 cell:∀x c,X.env.cells.lookup x=some c->lim.get? c≠none
 pin:∀p∈X.pn++pins,lim.get? p.1≠none
def Own(X:Cx):Prop:=X.stack=X.env::X.outer/\X.env.frame=some X.env.locals
section
variable{X:Cx}{pins:List (Addr×Obj)}{σ:St}{H:Hp}{s:CO}{lim h':Heap}{e C:Addr}{od:Option Addr}{oe:Obj}
theorem Own.frs(o:Own X):frs X.stack=X.env.locals::X.fs:=by
 rw[o.1];unfold L2.frs;rw[FF,o.2];rfl
theorem Inv.bigX(I:Inv X pins σ H s):Big X pins s.heap:=by
 refine⟨fun b o q n=>?_,?_,fun x c q=>?_,fun p hp=>?_⟩
 ·obtain⟨o',z⟩:=I.base.there b o q n;rw[z];exact fun z=>nomatch z
 ·obtain⟨m,⟨o,es,ep,ho,_⟩,_⟩:=I.loc;rw[ho];exact fun z=>nomatch z
 ·obtain⟨v,o,ho,_⟩:=I.cell x c q;rw[ho];exact fun z=>nomatch z
 ·rw[(I.pin p hp).1];exact fun z=>nomatch z
theorem Inv.gone(I:Inv X pins σ H s)(w:Own X)(x:Fly s.heap H lim e C od)(B:Big X pins lim)(g:Gone (frs X.stack) H lim e s.heap h'):Inv X pins σ H {s with heap:=h'}:=by
 have hf:=w.frs;have ne:∀b,lim.get? b≠none->b≠e:=fun b hb z=>hb (by rw[z];exact x.hl);have low:∀b o,X.s₀.heap.get? b=some o->b∉X.fs->b∉frs X.stack:=fun b o q n m=>by
  rw[hf]at m;rcases D7.mp m with z|z
  ·have:=D5 q;rw[z]at this;exact absurd (CZ this I.ok.above)<|DN _
  ·exact n z
 have cellK:∀y c,X.env.cells.lookup y=some c->∀v,s.heap.IsCell c v->h'.IsCell c v:=fun y c q v⟨o,ho,hd⟩=>by
  by_cases m:c∈frs X.stack
  ·obtain⟨sl,z⟩:=g.slot c o ho m;exact⟨_,z,hd⟩
  ·exact⟨o,g.keep c o ho m (ne c<|B.cell y c q)<|.inr<|B.cell y c q,hd⟩
 refine⟨I.ok,I.os,I.bare,⟨fun b o q n hb hx=>?_,fun b o q n hb hx=>?_,I.base.free,fun b o q hx=>?_,I.base.tups,I.base.frzs,I.base.tbls⟩,?_,fun y c q=>?_,I.free,I.freeC,fun p hp=>?_,fun b u hb=>?_,I.len⟩;·exact g.keep b o (I.base.keep b o q n hb hx) (low b o q hb) (ne b<|B.old b o q hx)<|.inr<|B.old b o q hx
 ·obtain⟨sl,z⟩:=I.base.slot b o q n hb hx;obtain⟨sl',z'⟩:=g.slot b _ z (by rw[hf];exact D4 _ hb);exact⟨sl',z'⟩
 ·obtain⟨o',z⟩:=I.base.there b o q hx;exact g.there b o' z
 ·obtain⟨m,⟨o,es,ep,ho,hd,hk,hm⟩,hl⟩:=I.loc;obtain⟨sl,z⟩:=g.slot _ o ho (by rw[hf];exact D0 ..);refine⟨m,⟨_,es,ep,z,hd,hk,hm⟩,fun i y v q1 q2 q3=>?_⟩;obtain⟨u,r,l⟩:=hl i y v q1 q2 q3;refine⟨u,r,?_⟩;rcases l with l|⟨k,c,q,z⟩
  ·exact .inl l
  ·exact .inr ⟨k,c,q,cellK y c q _ z⟩
 ·obtain⟨v,z⟩:=I.cell y c q;exact⟨v,cellK y c q v z⟩
 ·obtain⟨q,n,nl,nf,d⟩:=I.pin p hp;exact⟨g.keep p.1 p.2 q (fun m=>by
   rw[hf]at m;rcases D7.mp m with z|z
   ·exact nl z
   ·exact nf z) (ne _ (B.pin p hp)) (.inr (B.pin p hp)),n,nl,nf,d⟩
 ·refine(I.hok b u hb).stay (fun c v hc q1=>?_) (fun _ q1=>q1) fun _ _ q1=>q1;have hn:H c≠none:=by
   rcases hc with z|z
   ·rw[z,hb];exact fun z=>nomatch z
   ·rw[z];exact fun z=>nomatch z
  exact g.keep c v q1 (fun m=>hn<|I.stkFree c m) (fun z=>hn (by rw[z];exact x.he))<|.inl hn
abbrev Cx.held(X:Cx)(e:Addr)(oe:Obj):Cx:={X with A:=X.A.mark<|some<|.ref e,calm:=false,pn:=(e,oe)::X.pn,xe:=fun _ _=>False}
theorem Inv.held(I:Inv X pins σ H s)(q:s.heap.get? e=some oe)(n:H e=none)(nl:e≠X.env.locals)(nf:e∉X.fs)(d:∀v,oe.data≠.cell v):Inv (X.held e oe) pins σ H s:=
 ⟨⟨I.ok.mod,I.ok.kind,I.ok.glob,I.ok.blt,I.ok.above,I.ok.inj,I.ok.has,I.ok.cab,fun z=>(nomatch z),I.ok.frames,I.ok.stk,I.ok.exf,I.ok.bs,I.ok.bsz,I.ok.noex,I.ok.exfs,I.ok.funs,I.ok.frf⟩,I.os,I.bare,I.base,I.loc,I.cell,I.free,I.freeC,fun p hp=>by
  rcases D7.mp hp with z|z;·subst z;exact⟨q,n,nl,nf,d⟩
  ·exact I.pin p z,I.hok,I.len⟩
theorem Inv.unheld(ok:X.Ok)(I:Inv (X.held e oe) pins σ H s):Inv X pins σ H s:=⟨ok,I.os,I.bare,I.base,I.loc,I.cell,I.free,I.freeC,fun p hp=>I.pin p<|D4 _ hp,I.hok,I.len⟩
abbrev Cx.pinsX(X:Cx)(ps:List (Addr×Obj)):Cx:={X with pn:=X.pn++ps}
theorem Inv.pinnedX(I:Inv X pins σ H s):Inv (X.pinsX pins) [] σ H s:=⟨⟨I.ok.mod,I.ok.kind,I.ok.glob,I.ok.blt,I.ok.above,I.ok.inj,I.ok.has,I.ok.cab,I.ok.hd,I.ok.frames,I.ok.stk,I.ok.exf,I.ok.bs,I.ok.bsz,I.ok.noex,I.ok.exfs,I.ok.funs,I.ok.frf⟩,I.os,I.bare,I.base,I.loc,I.cell,I.free,I.freeC,fun p hp=>I.pin p (by simpa using hp),I.hok,I.len⟩
theorem Inv.unpinnedX{pins':List (Addr×Obj)}(ok:X.Ok)(I:Inv (X.pinsX pins) pins' σ H s):Inv X pins σ H s:=⟨ok,I.os,I.bare,I.base,I.loc,I.cell,I.free,I.freeC,fun p hp=>I.pin p<|Et _ hp,I.hok,I.len⟩
def tF(X:Cx)(E:XK)(v:CN)(s:CO):Prop:=∃(pins:List (Addr×Obj))(σ:St)(H:Hp)(x C:Addr)(lim:Heap)(od:Option Addr),v=.ref x/\Inv X pins σ H s/\Fly s.heap H lim x C od/\Big X pins lim/\(∀b,s.heap.objs.size<=b->lim.get? b=none)/\E (XV x od) (some C) H
theorem A1{E:XK}:eO (CXR X.prog X.w) (X.wish<|tF X E) E:=fun pins σ H s v s' I⟨x,C,H',od,hv,fl,os,bare,un,hok,q⟩=>by
 subst hv;have I0:Inv X pins σ H s:=I.unwish;have I':Inv X pins σ H' s':=I0.call' os un hok bare fun b z=>absurd z (by simp);refine⟨pins,σ,H',x,C,s.heap,od,rfl,I',fl,I0.bigX,fun b hb=>?_,q⟩;cases z:s.heap.get? b with
 |none=>rfl
 |some o=>
  obtain⟨o',z'⟩:=un.there b o z (by simp);exact absurd (CZ (D5 z') hb)<|DN _
end
section
variable{X:Cx}{pins:List (Addr×Obj)}{σ:St}{H:Hp}{s:CO}{lim h':Heap}{e C:Addr}{oe:Obj}{M:Ki}{A:Dy}{E:CN->CO->Prop}
theorem ji{i:Nat}{x:Str}{pos:Pos}{Q:Unit->CO->Prop}(I:Inv X pins σ H s)(hN:X.N.Nodup)(hi:X.N[i]? =some x)(hk:X.env.scope.names.lookup x=some .local)
  (h:∀s',Inv X pins (σ.set i none) H s'->Q () s'):wpAny M A (do bindName X.env x .none;unbindBehindTheSuite X.env x pos) Q E s:=by
 obtain⟨m,hn,hl⟩:=id I.loc;have hcls:(X.env.scope.kind== .class||(X.env.scope.kind== .module&&X.env.locals != X.env.globals))=false:=by rw[I.ok.kind];rfl
 have hiσ:i<σ.length:=by rw[I.len];exact(CP.mp hi).1
 have cne:=I.cne;obtain⟨oL,_,_,hoL,_⟩:=id hn;refine wpAny_nameGoes_keeps hk hn hcls fun h' v hn' hs=>?_;have tracked:HOk X.prog X.w H h':=fun b ob q=>by
  refine(I.hok b ob q).stay (fun c w' hc q'=>(hs.2 c ?_).trans q') (fun _ q=>q) fun _ _ q=>q;rintro rfl;rcases hc with rfl|hc
  ·rw[I.free]at q;cases q
  ·rw[I.free]at hc;cases hc
 refine h _ ⟨I.ok,I.os,I.bare,⟨fun b o q n hb hx=>?_,fun b o q n hb hx=>?_,I.base.free,fun b o q hx=>?_,I.base.tups,I.base.frzs,I.base.tbls⟩,⟨_,hn',fun j y v' e1 e2 e3=>?_⟩,fun y c q=>?_,I.free,I.freeC,fun p hp=>?_,tracked,by simpa using I.len⟩;·exact(hs.2 b<|Dc<|CZ (D5 q) I.ok.above).trans (I.base.keep b o q n hb hx)
 ·obtain⟨sl,q1⟩:=I.base.slot b o q n hb hx;exact⟨sl,(hs.2 b<|Dc<|CZ (D5 q) I.ok.above).trans q1⟩
 ·obtain⟨o',q1⟩:=I.base.there b o q hx;exact⟨o',(hs.2 b<|Dc<|CZ (D5 q) I.ok.above).trans q1⟩
 ·by_cases hj:j=i
  ·subst hj;rw[FR hiσ]at e2;cases e2
  ·rw[Hc<|Ec hj]at e2;obtain⟨u',r',q⟩:=hl j y v' e1 e2 e3;refine⟨u',r',?_⟩;rcases q with⟨k,q⟩|⟨k,c,q,z⟩
   ·refine .inl ⟨k,?_⟩;have:y≠x:=fun z=>hj<|jn hN e1<|z▸hi;simp[this,q]
   ·exact .inr ⟨k,c,q,z.sameBut hs<|cne y c q⟩
 ·obtain⟨w',z⟩:=I.cell y c q;exact⟨w',z.sameBut hs<|cne y c q⟩
 ·obtain⟨q,n,ne,nf,d⟩:=I.pin p hp;exact⟨(hs.2 p.1 ne).trans q,n,ne,nf,d⟩
end
def Held(oe:Obj)(C:Addr)(od:Option Addr):Prop:=(oe.cls=.ref C/\oe.dict=od)/\∃vs:Array CN,oe.data=.fields vs/\vs[2]? =some .none
def A2(E:XK)(i:Nat)(tb:TS)(ts:Addr->Addr->Option Addr->Obj->TS):TS:=fun D σ H=>tb D σ H/\∀(x C:Addr)(od:Option Addr)(oe:Obj)(σ':St)(H':Hp),E (XV x od) (some C) H'->H' x=none->Held oe C od->σ'.length=σ.length->ts x C od oe {nx:=fun σ'' H''=>D.nx (σ''.set i none) H'',rt:=D.rt,bk:=fun σ'' H''=>D.bk (σ''.set i none) H'',ct:=fun σ'' H''=>D.ct (σ''.set i none) H''} (σ'.set i<|some<|.ref x) H'
section
variable{X:Cx}{E:XK}{D:Addr}{bmD:List CN}{body suite:List Stmt}{b₀:Stmt}{xn n:Str}{i:Nat}{np pos pos':Pos}{tb:TS}{ts:Addr->Addr->Option Addr->Obj->TS}
theorem yB(w:Own X)(hb:∀ps,PSs ((X.pinsX ps).wish (tF (X.pinsX ps) E)) body tb)(hg:Gl X xn)(hm:X.mg xn=some (.ref D))(hD:Xcl X.base D bmD)
  (hcl:∀v C H,E v (some C) H->∃bmC,Xcl X.base C bmC/\(D6 C::bmC).contains (.ref D)=true)
  (hN:X.N.Nodup) (hi:X.N[i]? =some n) (hk:X.env.scope.names.lookup n=some .local) (hsu:∀x C od oe,Held oe C od->PSs (X.held x oe) (b₀::suite) (ts x C od oe))
  (hdb:(xn==("__debug__" :Str))=false:=by decide):
  PS X (.Try body [.ExceptHandler (some<|.Name xn np) (some n) (b₀::suite) pos] [] [] pos') (A2 E i tb ts):=by
 intro pins s σ H Dn I h;refine wpAny_Try_except<|Eu (hb pins [] s σ H Dn (I.pinnedX.wish _) h.1) (fun f s1 q=>?_) fun v s1 q=>?_
 ·cases f with
  |next=>
   obtain⟨σ1,H1,J,z⟩:=q;exact Hm ⟨σ1,H1,J.unwish.unpinnedX I.ok,z⟩
  |brk=>obtain⟨σ1,H1,J,z⟩:=q;exact⟨σ1,H1,J.unwish.unpinnedX I.ok,z⟩
  |cont=>obtain⟨σ1,H1,J,z⟩:=q;exact⟨σ1,H1,J.unwish.unpinnedX I.ok,z⟩
  |ret u=>obtain⟨v,σ1,H1,J,r,z⟩:=q;exact⟨v,σ1,H1,J.unwish.unpinnedX I.ok,r,z⟩
 ·obtain⟨pins1,σ1,H1,x,C,lim,od,rfl,J0,fl,B0,hsz,hE⟩:=q;have J:Inv X pins σ1 H1 s1:=J0.unpinnedX I.ok;have B:Big X pins lim:=⟨B0.old,B0.loc,B0.cell,fun p hp=>B0.pin p<|Et _ hp⟩
  have hfr:X.A.frames=some (X.env::X.outer):=w.1▸I.ok.frames;refine pH (base:=X.base) (H:=H1) (lim:=lim) (C:=C) hfr (w.1▸J.stack) w.2 fl (fun b hb=>⟨J.hok.fresh hb,hsz b hb⟩) fun h2 g2 fl2=>?_;have J2:Inv X pins σ1 H1 {s1 with heap:=h2}:=J.gone w fl B (by rw[w.1];exact g2);obtain⟨bmC,hC,hup⟩:=hcl _ _ _ hE;have nl:x≠X.env.locals:=fun z=>B.loc (by rw[<-z];exact fl.hl);have nf:x∉X.fs:=fun z=>by
   obtain⟨_,o,ho,_⟩:=I.ok.funs.mem z;exact B.old x o ho (fun y=>I.ok.exfs x y z) fl.hl
  have held:∀{s':CO},Inv X pins σ1 H1 s'->Fly s'.heap H1 lim x C od->∃oe,Held oe C od/\s'.heap.get? x=some oe/\Inv (X.held x oe) pins σ1 H1 s':=fun{s'}J' f'=>by
   obtain⟨_,_,oe,vs,h1,h2,h3,h4,_⟩:=id f';exact⟨oe,⟨h2,vs,h3,h4⟩,h1,J'.held h1 f'.he nl nf fun v z=>by rw[h3]at z;cases z⟩
  obtain⟨oe2,hh2,ge2,K2⟩:=held J2 fl2;refine wpAny_handleBy_cons (codeAny_handlers_test ?_) (by intro q;cases q);refine gF K2 hg hm ?_ hdb;refine ke (C:=C) (D:=D) (bmC:=bmC) (bmD:=bmD) (hC.keeps J2.bk) (hD.keeps J2.bk) ge2 hh2.1.1 ?_;rw[hup];refine codeAny_handlers_suite_as ?_;refine tD (base:=X.base) (env:=X.env) (outer:=X.outer) (H:=H1) (lim:=lim) (C:=C) (w.1▸J2.stack) fl2 fun h3 g3 fl3=>?_;have J3:Inv X pins σ1 H1 {s1 with heap:=h3}:=J2.gone w fl2 B (by rw[w.1];exact g3);obtain⟨oe,hh,ge,K3⟩:=held J3 fl3;refine jo (X:=X.held x oe) (i:=i) (v:=.ref x) K3 hN hi (.inl hk) rfl (fun s4 K4=>?_)<|.inr hk;refine Eu (hsu x C od oe hh pins s4 _ H1 _ K4 (h.2 x C od oe σ1 H1 hE fl.he hh (by rw[J.len,I.len]))) (fun f s5 q=>?_) fun _ _ z=>z.elim;show wpAny _ _ (do bindName X.env n .none;unbindBehindTheSuite X.env n pos) _ _ _;cases f with
  |next=>obtain⟨σ5,H5,K5,z⟩:=q;exact ji (K5.unheld I.ok) hN hi hk fun s6 K6=>⟨_,H5,K6,z⟩
  |brk=>obtain⟨σ5,H5,K5,z⟩:=q;exact ji (K5.unheld I.ok) hN hi hk fun s6 K6=>⟨_,H5,K6,z⟩
  |cont=>obtain⟨σ5,H5,K5,z⟩:=q;exact ji (K5.unheld I.ok) hN hi hk fun s6 K6=>⟨_,H5,K6,z⟩
  |ret u=>obtain⟨v,σ5,H5,K5,r,z⟩:=q;exact ji (K5.unheld I.ok) hN hi hk fun s6 K6=>⟨v,_,H5,K6,r,z⟩
end
theorem kf:plainId "proto.unchain"=true:=by decide +kernel
theorem kg:entryFor table "proto.unchain"=some JK.«proto.unchain»:=entryFor_of_fast (by kernel_rfl)
def Hdl(A:Dy)(h:Heap):Prop:=∃(x C:Addr)(od:Option Addr)(oe:Obj),A.handled=some (.ref x)/\h.get? x=some oe/\Held oe C od
theorem Hdl.keeps{A:Dy}{h h':Heap}(x:Hdl A h)(k:∀b o C,h.get? b=some o->o.cls=.ref C->h'.get? b=some o):Hdl A h':=by
 obtain⟨a,C,od,oe,h1,h2,h3⟩:=x;exact⟨a,C,od,oe,h1,k a oe C h2 h3.1.1,h3⟩
section
variable{prog:Dg}{w:Dr}{A:Dy}{E:CN->CO->Prop}{s:CO}
theorem kj{α:Type}{a:Addr}{oa:Obj}{vs:Array CN}{T:String}{Q:α->CO->Prop}(hh:Hdl A s.heap)(ha:s.heap.get? a=some oa)(hc:oa.cls=.type T)(hd:oa.data=.fields vs)(h2:2<vs.size)
  (h:∀h',h'.get? a=some (E3 (·.setIfInBounds 2 (A.handled.getD .none)) oa)->Dl a s.heap h'->E (.ref a) {s with heap:=h'}):wpAny (model prog w) A (raiseNew (.ref a):Sem α) Q E s:=by
 obtain⟨x,C,od,oe,e1,e2,⟨e3,_⟩,us,e4,e5⟩:=hh;have ne:x≠a:=fun z=>by
  rw[z,ha]at e2;rw[DJ e2,e3]at hc;cases hc
 unfold raiseNew;refine CI<|Jg ?_;rw[e1];show wpAny _ _ (if(D6 x != D6 a)=true then _ else _) _ _ _;rw[if_pos<|bne_iff_ne.mpr fun z=>ne<|Lf z];refine CI<|Fo<|wpAny_runValue<|codeAny_builtin kg ?_;rw[Around.under_plainId kf _];unfold JK.«proto.unchain»;refine CI<|Dx e2 e4 e5 ?_;rw[if_pos (by decide)];refine CI<|CU ?_;refine CU ?_;refine CI<|EM ha hd h2<|K8 ?_;refine h _ ?_<|Fg ..;rw[e1];exact En _ ha<|F7<|Ey hd _
theorem l6{α:Type}{Q:α->CO->Prop}(hh:Hdl A s.heap)
  (h:∀a h',({s with heap:=h'}:CO).TypeIs (.ref a) "StopIteration"->s.heap.get? a=none->(∀b o,s.heap.get? b=some o->h'.get? b=some o)->E (.ref a) {s with heap:=h'}):
  wpAny (model prog w) A (do let e <-newExc (.type "StopIteration") [];raiseNew e:Sem α) Q E s:=by
 refine CI ?_;simp only[newExc,newTuple];refine CI (Ep ?_ (by size_fits));refine CI (m:=firstArgMember _ _) (K7 (a:=DC) (by first|rfl|(simp only[firstArgMember];rfl)) ?_);refine Ep ?_ (by size_fits);generalize hg:s.heap.push _=h1;have k1:∀b o,s.heap.get? b=some o->h1.get? b=some o:=fun b o q=>by rw[<-hg];exact CM _ q
 have z1:s.heap.objs.size<=h1.objs.size:=by rw[<-hg,DG];exact Hd _
 refine kj (T:="StopIteration") (hh.keeps fun b o C q _=>CM _<|k1 b o q) (CY _ rfl) rfl rfl (by simp[ownMembersOf]) fun h' e1 hs=>?_;refine h _ _ ⟨_,e1,by rw[HS]⟩ (Hb z1) fun b o q=>(hs.2 b fun z=>?_).trans (CM _<|k1 b o q);exact absurd (D5<|k1 b o q) (by rw[z];exact DN _)
theorem km{it l:Addr}{i:Nat}{items:Array CN}{Q:Option CN->CO->Prop}(hh:Hdl A s.heap)(hit:s.heap.IsListIter it l i)(hl:s.heap.IsList l items)(hx:items[i]? =none)
  (hQ:∀h',Fn it s.heap h'->Q none {s with heap:=h'}):wpAny (model prog w) A (pyNext<|.ref it) Q E s:=by
 obtain⟨o,ho,hc,hd⟩:=id hit;obtain⟨ol,hol,_,nl,hdl⟩:=hl;unfold pyNext;refine CI<|F9<|DX (name:=CS "__next__") hit.typeIs Js<|E8 Js hit.typeIs entry_listiter_next ?_<|args_listiter_next _;show wpAny _ _ (field (.ref it) 0>>=_) _ _ s;refine CI<|Dx ho hd (x:=.ref l) rfl ?_;show wpAny _ _ (if(D6 l==DC)=true then _ else _) _ _ s;rw[if_neg (show ¬((D6 l==DC)=true)from Dd)];show wpAny _ _ (field (.ref it) 1>>=_) _ _ s;refine CI<|Dx ho hd (x:=.int i 0) rfl ?_;show wpAny _ _ (seqItems? (.ref l)>>=_) _ _ s;refine CI<|DV hol hdl ?_;simp only[EL,hx];refine CI (GV (CI (EM ho hd (by simp) ?_)));refine l6 (A:=A.in1) ?_ fun a h' tp nw hk=>?_
 ·exact Hdl.keeps (A:=A.in1) hh fun b ob C q z=>(DT _ _ fun y=>by
   rw[<-y,ho]at q;rw[<-DJ q,hc]at z;cases z).trans q
 ·refine CI<|F8 (T:="StopIteration") (b:=true) tp Fq ?_;exact CU<|hQ _ fun b ob hb q=>hk b ob<|(DT _ _<|Ec hb).trans q
theorem jN{it l:Addr}{i:Nat}{items:Array CN}{Q:Option CN->CO->Prop}(hh:Hdl A s.heap)(hit:IsTupIter s.heap it l i)(hl:M1 s.heap l items)(hx:items[i]? =none)
  (hQ:∀h',Fn it s.heap h'->Q none {s with heap:=h'}):wpAny (model prog w) A (pyNext<|.ref it) Q E s:=by
 obtain⟨o,ho,hc,hd⟩:=id hit;obtain⟨ol,hol,_,nl,hdl⟩:=hl;unfold pyNext;refine CI<|F9<|DX (name:=CS "__next__") hit.typeIs Jd<|E8 Jd hit.typeIs entry_tupleiter_next ?_<|args_tupleiter_next _;show wpAny _ _ (field (.ref it) 0>>=_) _ _ s;refine CI<|Dx ho hd (x:=.ref l) rfl ?_;show wpAny _ _ (if(D6 l==DC)=true then _ else _) _ _ s;rw[if_neg (show ¬((D6 l==DC)=true)from Dd)];show wpAny _ _ (field (.ref it) 1>>=_) _ _ s;refine CI<|Dx ho hd (x:=.int i 0) rfl ?_;show wpAny _ _ (seqItems? (.ref l)>>=_) _ _ s;refine CI<|DV hol hdl ?_;simp only[EL,hx];refine CI (GV (CI (EM ho hd (by simp) ?_)));refine l6 (A:=A.in1) ?_ fun a h' tp nw hk=>?_
 ·exact Hdl.keeps (A:=A.in1) hh fun b ob C q z=>(DT _ _ fun y=>by
   rw[<-y,ho]at q;rw[<-DJ q,hc]at z;cases z).trans q
 ·refine CI<|F8 (T:="StopIteration") (b:=true) tp Fq ?_;exact CU<|hQ _ fun b ob hb q=>hk b ob<|(DT _ _<|Ec hb).trans q
theorem mT{t:Addr}{items:Array CN}{Q:List CN->CO->Prop}(hh:Hdl A s.heap)(ht:M1 s.heap t items)
  (hQ:∀h',Fn s.heap.objs.size s.heap h'->Q items.toList {s with heap:=h'}):wpAny (model prog w) A (unpackItems (.ref t) items.size none) Q E s:=by
 have hlt:t≠s.heap.objs.size:=by obtain⟨o,ho,_⟩:=ht;exact Dc<|D5 ho
 unfold unpackItems;refine CI ?_;unfold notIterableAtAll;refine CI<|Kd ht.typeIs slot_tuple_iter.lookup<|CU ?_;simp only[Ed,if_false];refine CI<|Fo<|iter_tuple ht ?_;refine CI (Fo (draw_tuple hlt items.size 0 _ _ ⟨_,CY _ rfl,rfl,rfl⟩ (ht.push _) (by omega) fun h1 hit1 hs1=>?_));rw[show Mb items.size (List.drop 0 items.toList)=items.toList by rw[Ks];exact GH (by simp),if_neg (by simp)];have kp:∀b o,s.heap.get? b=some o->h1.get? b=some o:=fun b o q=>(hs1.2 b<|Dc<|D5 q).trans (CM _ q);refine CI (Fo (jN (hh.keeps fun b o C q _=>kp b o q) hit1 ((ht.push _).extBut hs1.extBut hlt) (by simp) fun h2 he2=>?_));simp only[Option.isSome_none,Ed,if_false];exact CU<|hQ h2 fun b o hb q=>he2 b o hb<|kp b o q
theorem il{env:Env}{elts:List Expr}{x1}{pos:Pos}{t:Addr}{items:Array CN}{Q:Unit->CO->Prop}(hh:Hdl A s.heap)(ht:M1 s.heap t items)
  (hn:(assignEach elts env).length=items.size) (hstar:(assignEach elts env).findIdx? (·.1)=none)
  (h:∀h',Fn s.heap.objs.size s.heap h'->wpAny (model prog w) A (assignInOrder ((assignEach elts env).map (·.2)) items.toList) Q E {s with heap:=h'}):
  wpAny (model prog w) A (assign (.Tuple elts x1 pos) env<|.ref t) Q E s:=by
 rw[assign_Tuple];refine CI<|Jf ?_;unfold unpack;rw[hn,hstar];exact CI<|Fo<|mT hh ht h
end
def HdX(X:Cx):Prop:=∃(x C:Addr)(od:Option Addr)(oe:Obj),X.A.handled=some (.ref x)/\Held oe C od/\X.s₀.heap.get? x=some oe/\X.H₀ x=none/\x∉X.fs/\x∉X.ex
section
variable{X:Cx}{pins:List (Addr×Obj)}{σ:St}{H:Hp}{s:CO}
theorem Inv.hdl(I:Inv X pins σ H s)(x:HdX X):Hdl X.A s.heap:=by
 obtain⟨a,C,od,oe,h1,h2,h3,h4,h5,h6⟩:=x;exact⟨a,C,od,oe,h1,I.base.keep a oe h3 h4 h5 h6,h2⟩
theorem HdX.comp{scope:FO}{N:List Str}{C:Addr}{fp:List Addr}(x:HdX X)(I:Inv X pins σ H s)(f:∀b∈fp,FpOk X pins H b):HdX (az X scope N s H C fp):=by
 obtain⟨a,C',od,oe,h1,h2,h3,h4,h5,h6⟩:=x;refine⟨a,C',od,oe,h1,h2,I.base.keep a oe h3 h4 h5 h6,I.base.free a oe h3 h4 h6,fun m=>?_,fun m=>?_⟩
 ·rcases D7.mp (I.stkSub a m)with z | z
  ·have:=D5 h3;rw[z]at this;exact absurd (CZ this I.ok.above)<|DN _
  ·exact h5 z
 ·rcases (f a m).2.2.2.1 with z | z;·exact h6 z
  ·exact absurd (CZ (D5 h3) z)<|DN _
end
structure TurnH(P:Dg)(w:Dr)(K:CL)(A:Dy)(tg:Expr)(J:It)(fp:List Addr)(it:Addr)(tn:Nat->Heap->Prop):Prop where
 obj:∀i h,tn i h->∀b∈fp,∃o,h.get? b=some o/\∀v,o.data≠.cell v
 keep:∀i h h',tn i h->(∀b∈fp,∀o,h.get? b=some o->h'.get? b=some o)->tn i h'
 item:∀(X:Cx),X.prog=P->X.w=w->X.K=K->X.A=A->HdX X->∀(i:Nat)(pins:List (Addr×Obj))(s:CO)(σ:St)(H:Hp)(E:CN->CO->Prop),Inv X pins σ H s->(∀b∈fp,FpOk X pins H b)->tn i s.heap->J.go i H->
  wpAny (model P w) X.A (pyNext<|.ref it) (fun r s1=>∃u,r=some u/\
   wpAny (model P w) X.A (letOwnedTupleGo tg (.ref it) u) (fun _ s2=>∃x H',Inv X pins σ H' s2/\RelV x u/\J.yld i H x H'/\tn (i+1) s2.heap/\∀b∈fp,H' b=none) E s1) E s
 done:∀(X:Cx),X.prog=P->X.w=w->X.K=K->X.A=A->HdX X->∀(i:Nat)(pins:List (Addr×Obj))(s:CO)(σ:St)(H:Hp)(E:CN->CO->Prop),Inv X pins σ H s->(∀b∈fp,FpOk X pins H b)->tn i s.heap->J.stop i H->
  wpAny (model P w) X.A (pyNext<|.ref it) (fun r s1=>r=none/\Inv X pins σ H s1) E s
 self:∀(A:Dy)(i:Nat)(s:CO)(Q:CN->CO->Prop)(E:CN->CO->Prop),tn i s.heap->Q (.ref it) s->wpAny (model P w) A (pyIter<|.ref it) Q E s
theorem nY{P:Dg}{w:Dr}{K:CL}{A:Dy}{tg:Expr}(a it:Addr):TurnH P w K A tg (Bm K a) [it] it (fun i h=>h.IsListIter it a i) where
 obj:=(gG (P:=P) (w:=w) (K:=K) (tg:=tg) a it).obj
 keep:=(gG (P:=P) (w:=w) (K:=K) (tg:=tg) a it).keep
 self:=(gG (P:=P) (w:=w) (K:=K) (tg:=tg) a it).self
 item:=by
  intro X hP hw hK hA hx i pins s σ H E I hf st hg;subst hP hw hK hA;obtain⟨xs,x,hq,hx⟩:=hg;obtain⟨its,rv,p,hz⟩:=I.list hq;obtain⟨u,hu,ru⟩:=rv.get hx;obtain⟨f0,f1,f2,f3,f4,f5⟩:=hf it (by simp);refine Im st p.isList (x:=u) (by simpa using hu) fun h' st' sb=>?_;have I1:Inv X pins σ H {s with heap:=h'}:=I.turned (t':=s.toks) (fun b o hb e=>(sb.2 b hb).trans e) f0 f1 f3 f4 f5;obtain⟨o,e,c,d⟩:=id st';exact⟨u,rfl,me (s:={s with heap:=h'}) e c d (by decide) ⟨x,H,I1,ru,⟨rfl,fun ys hy=>by rw[I.list_inj hy hq];exact hx⟩,st',fun b hb=>(hf b hb).1⟩⟩
 done:=by
  intro X hP hw hK hA hx i pins s σ H E I hf st hg;subst hP hw hK hA;obtain⟨xs,hq,hl'⟩:=hg;obtain⟨its,rv,p,hz⟩:=I.list hq;obtain⟨f0,f1,f2,f3,f4,f5⟩:=hf it (by simp);have hl:=rv.length;exact km (I.hdl hx) st p.isList (by simp;omega) fun h' eb=>⟨rfl,I.turned (t':=s.toks) (fun b o hb e=>eb b o hb e) f0 f1 f3 f4 f5⟩
def BM(X:Cx)(tg iter:Expr)(wi:TI):Prop:=
 ∀(pins:List (Addr×Obj))(s:CO)(σ:St)(H:Hp)(R:It->Hp->Prop),Inv X pins σ H s->wi σ H R->
  wpAny (model X.prog X.w) X.A (eval iter X.env) (fun v s1=>wpAny (model X.prog X.w) X.A (pyIter v) (fun itv s2=>∃(it:Addr)(fp:List Addr)(tn:Nat->Heap->Prop)(J:It)(H':Hp),itv=.ref it/\Inv X pins σ H' s2/\TurnH X.prog X.w X.K X.A tg J fp it tn/\tn 0 s2.heap/\(∀b∈fp,FpOk X pins H' b)/\R J H') X.xe s1) X.xe s
section
variable{X:Cx}{tg:Expr}{K:CL}
theorem tG{l:Expr}{tl:TE}(hK:X.K=K)(hl:PE X l tl):BM X tg l (mi K tl):=by
 subst hK;intro pins s σ H R I h;refine bO (hl pins s σ H _ I h) fun v s1 zz=>?_;obtain⟨x,H1,I1,r1,q1⟩:=zz;obtain⟨a,e,⟨xs,hq⟩,q⟩:=q1;subst e;cases r1;obtain⟨its,rv,p,hz⟩:=I1.list hq;refine G2 p.isList ?_;refine⟨s1.heap.objs.size,[s1.heap.objs.size],_,_,H1,rfl,I1.kept (t':=s1.toks) fun b o e=>CM _ e,nY a _,⟨_,CY _ rfl,rfl,rfl⟩,fun b hb=>?_,q⟩;have e:b=s1.heap.objs.size:=by simpa using hb
 subst e;exact I1.fpOk (D8 _)<|I1.hok.fresh<|D8 _
theorem wc{pos:Pos}{es:List Expr}{k:Nat}{t:vq}{n:Nat}(hK:X.K=K)(hx:HdX X)(h:zg X es t)
  (hn:(assignEach es X.env).length=n:=by rfl) (hst:(assignEach es X.env).findIdx? (·.1)=none:=by rfl):PG X (.Tuple es k pos) (cA K n t):=by
 subst hK;intro pins s σ H v u Q I r hw;obtain⟨a,xs,e1,hq,hl,hw⟩:=hw;subst e1;cases r;obtain⟨its,rv,ht,hz⟩:=I.tuple hq;refine il (I.hdl hx) ht (by simp[hn,<-hl,rv.length]) hst fun h' hx=>?_;have I1:Inv X pins σ H {s with heap:=h'}:=I.kept (t':=s.toks) fun b o e=>hx b o (Dc<|D5 e) e;exact h pins _ σ H xs _ Q I1 (by simpa using rv) hw
end
section
variable{X:Cx}{scope:FO}{N:List Str}{cap:List (Option Nat)}{tg iter elt:Expr}{ifs:List Expr}{pos:Pos}{wi:TI}{g:TG}{tf:TT}{te:TE}
theorem nZ(S:CompScope X scope N cap)(hx:HdX X)
  (hg:∀s H C fp,HdX (az X scope N s H C fp)->PG (az X scope N s H C fp) tg g) (hf:∀s H C fp,yi (az X scope N s H C fp) ifs tf) (he:∀s H C fp,PE (az X scope N s H C fp) elt te)
  {pins:List (Addr×Obj)} {σ:St} {H2:Hp} {s2:CO} {it:Addr} {fp:List Addr} {tn:Nat->Heap->Prop} {J:It} {Qv:VK} {E:CN->CO->Prop} {RR:CN->Addr->Ll->CO->Prop}
  (I2:Inv X pins σ H2 s2) (T:TurnH X.prog X.w X.K X.A tg J fp it tn) (st2:tn 0 s2.heap) (f2:∀b∈fp,FpOk X pins H2 b) {W:Nat->Nat->List V->Hp->Prop} (w0:∃m,W 0 m [] H2)
  (turn:∀i m ys H,W i m ys H->ys.length< sizeLine/\((J.stop i H/\∀D,H D=none->Qv (.ref D) (cg H D<|.lst ys))\/
   (J.go i H/\∃N:List V->Hp->Prop,(∀ys' H',N ys' H'->∃m',m'<m/\W (i+1) m' ys' H')/\∀x H',J.yld i H x H'->g x (bh cap σ) H' fun σ2 H2=>Keep (bh cap σ) σ2/\tf σ2 H2 fun b H3=>if b=true then te σ2 H3 fun y H4=>N (ys++[y]) H4 else N ys H3)))
  (fin:∀(D C:Addr) (σ':St) (H':Hp) (s':CO) (its:List CN) (k:Nat) (ys:List V),s2.heap.objs.size<=D->s2.heap.objs.size<=C->D≠C->Inv (az X scope N s2 H2 C fp) [(D,dQ its k)] σ' H' s'->Vals ys its->ys.length<=sizeLine->
   Qv (.ref D) (cg H' D (.lst ys))->RR (.ref D) C (.ok .next) s'):
  wpAny (model X.prog X.w) X.A (newList []) (fun acc s₃=>wpAny (model X.prog X.w) X.A (newFunctionEnv scope X.env.globals (cv X.env scope.names []) [] X.env.qual none .none<|some X.env) (fun cenv s₄=>
   codeAny (model X.prog X.w) X.A (.compStart (.ListComp elt [⟨tg,iter,ifs,0⟩] scope pos) 0 (.ref it) acc {cenv with scope:=relabel scope X.env}) (RR acc cenv.locals) s₄) E s₃) E s2:=by
 have frz:HdX X:=hx;refine Ep<|jD ?_;generalize hD:s2.heap.objs.size=D;generalize hH3:s2.heap.push {cls:=.type "list",dict:=none,data:=.seq ([]:List CN).toArray}=h3;have hz3:h3.objs.size=D+1:=by rw[<-hH3,DG,hD]
 dsimp only;have eC:({s2 with heap:=h3}:CO).heap.objs.size=D+1:=hz3;rw[show h3.objs.size=D+1 from hz3];generalize hH4:pushCells (h3.push {cls:=.type "dict",data:=.dict #[]}) scope.names=h4;have hz3':(h3.push {cls:=.type "dict",data:=.dict #[]}).objs.size=D+1+1:=by rw[DG,hz3]
 have ck:Ln h4 (D+1+1) (cellsFrom (D+1+1) scope.names []):=by
  have:=cellsFrom_ok scope.names (h3.push {cls:=.type "dict",data:=.dict #[]}) (D+1+1) [] ⟨fun _ _ hm=>(nomatch hm),HR⟩ (by rw[hz3'];exact D8 _);rw[hz3',hH4]at this;exact this
 have k23:∀b o,s2.heap.get? b=some o->h3.get? b=some o:=fun b o e=>by rw[<-hH3];exact CM _ e
 have k34:∀b o,h3.get? b=some o->h4.get? b=some o:=fun b o e=>by rw[<-hH4];exact Ho _ _ b o<|CM _ e
 have hD4:h4.get? D=some (dQ [] 0):=k34 _ _ (by rw[<-hH3,<-hD];exact CY _ rfl);have hn4:h4.Ns (D+1) fun _=>none:=by
  rw[<-hH4,<-hz3];exact(LF h3<|.type "dict").keeps (Ho _ _)
 have fpD:∀b∈fp,b<D:=fun b hb=>by
  obtain⟨o,e,_⟩:=T.obj _ _ st2 b hb;rw[<-hD];exact D5 e
 have hlt:∀b∈fp,b<D+1:=fun b hb=>JJ<|fpD b hb;have hDC:s2.heap.objs.size<=D+1:=by rw[hD];exact Hd _
 have hDs:s2.heap.objs.size<=D:=by rw[hD];exact D8 _
 have IC:Inv (az X scope N s2 H2 (D+1) fp) [] (bh cap σ) H2 {s2 with heap:=h4}:=
  jF S I2 hDC ck f2 hlt ⟨_,_,rfl⟩ hn4 fun b o e=>k34 b o<|k23 b o e
 have okC:=IC.ok;have nfs:∀{b:Addr},s2.heap.objs.size<=b->b∉frs X.stack:=fun{b}hb hm=>by
  obtain⟨_,o,ho,_⟩:=I2.stack.mem hm;exact absurd (CZ (D5 ho) hb)<|DN _
 have frc:∀x∈scope.names,x.2=.free->∃c,X.env.cells.lookup x.1=some c:=fun x hx hk=>I2.ok.has x.1<|S.free x hx hk;have cellsD:∀x c,(az X scope N s2 H2 (D+1) fp).env.cells.lookup x=some c->c≠D:=fun x c e=>by
  rcases d6 frc e with a|⟨_,a⟩
  ·have q:D+1+1<=c:=(ck.empty x c a).2;exact EZ<|CZ (CZ (EC D)<|Hd _) q
  ·obtain⟨v,q⟩:=I2.cell x c a;have:=q.lt;rw[hD]at this;exact Dc this
 have fpO:∀{H':Hp}{its:List CN}{k:Nat},(∀b∈fp,H' b=none)->∀b∈fp,FpOk (az X scope N s2 H2 (D+1) fp) [(D,dQ its k)] H' b:=fun{H' its k}hn b hb=>
  ⟨hn b hb,Dc<|hlt b hb,okC.exfs b hb,.inl hb,(okC.exf b hb).2,fun p hp=>by
   have e:p=(D,dQ its k):=by simpa [az] using hp
   subst e;exact EZ (fpD b hb)⟩
 have pinD:∀{σ':St}{H':Hp}{s':CO}{its:List CN}{k:Nat},Inv (az X scope N s2 H2 (D+1) fp) [] σ' H' s'->s'.heap.get? D=some (dQ its k)->H' D=none->Inv (az X scope N s2 H2 (D+1) fp) [(D,dQ its k)] σ' H' s':=fun{σ' H' s' its k}J e n=>
  J.pins_of fun p hp=>by
   have e':p=(D,dQ its k):=by simpa using hp
   subst e';exact⟨e,n,Dc<|EC _,nfs hDs,fun v z=>by
    have z':Ib its.toArray k=G0 v:=z;cases z'⟩
 have loop:codeAny (model X.prog X.w) X.A (.compLoop (.ListComp elt [⟨tg,iter,ifs,0⟩] scope pos) 0 (.ref it) (.ref D) (az X scope N s2 H2 (D+1) fp).env) (RR (.ref D)<|D+1) {s2 with heap:=h4}:=by
  obtain⟨m0,w0⟩:=w0;refine i6 (fun n s'=>∃i ys its k σ' H',Inv (az X scope N s2 H2 (D+1) fp) [(D,dQ its k)] σ' H' s'/\tn i s'.heap/\(∀b∈fp,H' b=none)/\Vals ys its/\(∀(j:Nat)(v:V),(bh cap σ)[j]? =some (some v)->σ'[j]? =some (some v))/\W i n ys H') ?_ m0
   ⟨0,[],[],0,bh cap σ,H2,pinD IC hD4<|I2.hok.fresh hDs,T.keep _ _ _ st2 fun b hb o e=>k34 b o<|k23 b o e,fun b hb=>(f2 b hb).1,.nil,fun _ _ e=>e,w0⟩
  rintro n s3 ⟨i,ys,its,k,σ3,H3,I3,st3,fr3,rv,kp,w3⟩;obtain⟨hyl,tr⟩:=turn i n ys H3 w3;have pin3:=I3.pin (D,dQ its k)<|Dw _ D0;rcases tr with⟨stop,qn⟩|⟨go,NN,hNN,step⟩
  ·refine bO (T.done (az X scope N s2 H2 (D+1) fp) rfl rfl rfl rfl (hx.comp I2 f2) i _ s3 σ3 H3 _ I3 (fpO fr3) st3 stop) fun r s4 zz=>?_;obtain⟨hr,I4⟩:=zz;subst hr;exact fin D (D+1) σ3 H3 s4 its k ys hDs hDC (Dc<|EC _) I4 rv (Fz hyl)<|qn D pin3.2.1
  ·have I3':Inv (az X scope N s2 H2 (D+1) fp) [(D,dQ its k)] (bh cap σ) H3 s3:=I3.weak (by rw[I3.len,IC.len]) kp;refine bO (T.item (az X scope N s2 H2 (D+1) fp) rfl rfl rfl rfl (hx.comp I2 f2) i _ s3 _ H3 _ I3' (fpO fr3) st3 go) fun r s4 zz=>?_;obtain⟨u,hr,h4⟩:=zz;subst hr;refine bO h4 fun _ s5 zz=>?_;obtain⟨x,H5,I5,r5,y5,st5,fr5⟩:=zz;have I5':=I5.pinned (fpO fr5)<|T.obj _ _ st5;refine bO (hg _ _ _ _ (hx.comp I2 f2) _ s5 _ H5 x u _ I5' r5<|step x H5 y5) fun _ s6 zz=>?_;obtain⟨σ6,H6,I6,kp6,q6⟩:=zz;refine bO (hf _ _ _ _ _ s6 σ6 H6 _ I6 q6) fun ok s7 zz=>?_;obtain⟨H7,I7,q7⟩:=zz;have back:∀{s8:CO}{H8:Hp},Inv (az X scope N s2 H2 (D+1) fp) ([(D,dQ its k)]++iA fp s5.heap) σ6 H8 s8->tn (i+1) s8.heap/\(∀b∈fp,H8 b=none)/\s8.heap.get? D=some (dQ its k)/\H8 D=none:=fun{s8 H8}I8=>by
    have at_:∀b∈fp,∀o,s5.heap.get? b=some o->s8.heap.get? b=some o/\H8 b=none:=fun b hb o e=>by
     have z:=I8.pin (b,o)<|Dw _<|Dw _<|fD hb e;exact⟨z.1,z.2.1⟩
    have pd:=I8.pin (D,dQ its k)<|Dw _<|Et _ D0;refine⟨T.keep _ _ _ st5 fun b hb o e=>(at_ b hb o e).1,fun b hb=>?_,pd.1,pd.2.1⟩;obtain⟨o,e,d⟩:=T.obj _ _ st5 b hb;exact(at_ b hb o e).2
   cases ok with
   |false=>
    rw[if_neg Dd]at q7 ⊢;obtain⟨m',hm,w'⟩:=hNN _ _ q7;obtain⟨t7,f7,d7,n7⟩:=back I7;exact⟨m',hm,i+1,ys,its,k,σ6,H7,I7.unpinned,t7,f7,rv,fun j v e=>Mf kp6 e,w'⟩
   |true=>
    rw[if_pos rfl]at q7 ⊢;refine bO (he _ _ _ _ _ s7 σ6 H7 _ I7 q7) fun y8 s8 zz=>?_;obtain⟨y,H8,I8,r8,q8⟩:=zz;obtain⟨m',hm,w'⟩:=hNN _ _ q8;obtain⟨t8,f8,d8,n8⟩:=back I8;refine append_at (D:=D) (its:=its.toArray) (n:=k) d8 (fun h' hs' hD'=>?_) (by rw[D9,<-rv.length];exact Fz hyl);have J0:Inv (az X scope N s2 H2 (D+1) fp) [] σ6 H8 s8:=I8.pins_of fun p hp=>by cases hp
    have J1:Inv (az X scope N s2 H2 (D+1) fp) [] σ6 H8 {s8 with heap:=h'}:=J0.turned (it:=D) (t':=s8.toks) (fun b o hb e=>(hs'.2 b hb).trans e) n8 (Dc<|EC _) (.inr hDs) cellsD fun p hp=>by
     have:p∈([]:List (Addr×Obj)):=hp;cases this
    refine⟨m',hm,i+1,ys++[y],its++[y8],k+1,σ6,H8,pinD J1 (by simpa using hD') n8,T.keep _ _ _ t8 fun b hb o e=>(hs'.2 b<|Dc<|fpD b hb).trans e,f8,rv.append<|.cons r8 .nil,fun j v e=>Mf kp6 e,w'⟩
 exact Iz loop<|Eu (T.self _ 0 _ _ _ (T.keep _ _ _ st2 fun b hb o e=>k34 b o<|k23 b o e) loop) (fun _ _ h=>h) fun _ _ h=>h
theorem tH(S:CompScope X scope N cap)(hx:HdX X)(hi:BM X tg iter wi)
  (hg:∀s H C fp,HdX (az X scope N s H C fp)->PG (az X scope N s H C fp) tg g) (hf:∀s H C fp,yi (az X scope N s H C fp) ifs tf) (he:∀s H C fp,PE (az X scope N s H C fp) elt te)
  (hs:∀x,foldedSetIterable iter X.env x=pure x:=by intro _;rfl):PE X (.ListComp elt [⟨tg,iter,ifs,0⟩] scope pos) (jE cap wi g tf te):=by
 intro pins s σ H Q I h;rw[Lc];have frc:∀x∈scope.names,x.2=.free->∃c,X.env.cells.lookup x.1=some c:=fun x hx hk=>I.ok.has x.1<|S.free x hx hk;refine Ge (use:=none) rfl hs (fj frc) S.kind (gZ S)<|bO (hi pins s σ H _ I h) fun v s1 h1=>bO h1 fun itv s2 h2=>?_;obtain⟨it,fp,tn,J,H2,rfl,I2,T,st2,f2,W,w0,turn⟩:=h2;refine nZ (RR:=fun acc C=>compPost (model X.prog X.w) X.A X.xe none (EP X pins σ Q) acc C) S hx hg hf he I2 T st2 f2 w0 turn fun D C σ' H' s' its k ys hD hC hDC I' rv hl q=>?_;obtain⟨m,hn,_⟩:=I'.loc;exact⟨m,hn,fun h' hs'=>⟨.ref D,_,jG I2 f2 hD hC hDC I' rv hl hs',rfl,q⟩⟩
end
end L2
namespace L2
open PySem PySem.Spec PySem.Calls PyProof.Rows
open PySem.W (findIn findObj mroIn looks_findIn looks_find looks_mroIn class_get KitX clsIn Frag)
structure XK1(K:Frag)(C:Addr):Prop where
 ga:findIn K (.ref C) "__getattribute__"=some (some<|.builtin "BaseException.__getattribute__")
 gt:findIn K (.ref C) "__getattr__"=some none
 cl:∀od,findObj K C od "__class__"=some (.bind (.builtin "getset_descriptor.__get__")<|.builtin "object.__class__")
 ob:mroIn K C (.type "object")=some true
 be:mroIn K C (.type "BaseException")=some true
section
variable{prog:Dg}{w:Dr}{A:Dy}{E:CN->CO->Prop}{s:CO}{K:Frag}{x C:Addr}{ox:Obj}{od:Option Obj}
theorem qN{Q:Option CN->CO->Prop}(Z:XK1 K C)(X:K.In s.heap)(I:GD s.heap x ox C od)(h:Q (some<|.ref C) {s with toks:=s.toks+1}):wpAny (model prog w) A (getAttr? (.ref x) "__class__") Q E s:=by
 obtain⟨hh,g,d,t,os⟩:=s;have L0:=I.type (M:=model prog w);have L1:=HB (M:=model prog w) X Z.ga;have L2:=HB (M:=model prog w) X Z.gt;have L3:=looks_find (M:=model prog w) X I<|Z.cl od;have L4:=looks_mroIn (M:=model prog w) X Z.be;unfold getAttr? getAttrBy? getAttrBy;refine CI<|wpAny_mkText<|CI<|F9<|Fo<|CI<|L0.at<|CI<|L1.at ?_;dsimp only;rw[show(Lg "BaseException.__getattribute__"==Lg "object.__getattribute__")=false from by decide +kernel,Kq,if_neg (by decide)];unfold getAttrByItsOwn hookBefore;rw[if_pos (show onTheHeap (D6 C)=true from rfl)];refine CI<|L2.at ?_;refine CI<|F9<|Fo ?_;unfold callGetattribute;rw[if_neg (by simp)];unfold boundAndCalled;rw[HF.ga.bind];have LI:PySem.W.Looks (model prog w) hh (isInstance (.ref x)<|.type "BaseException") true:=L0.andThen L4;have chk:∀{A':Dy}{E':CN->CO->Prop}{Q':Unit->CO->Prop}{tk:Nat},Q' () ⟨hh,g,d,tk,os⟩->wpAny (model prog w) A' (checkBuiltinCall "BaseException.__getattribute__" ⟨[.ref x,.str "__class__" t],[]⟩) Q' E' ⟨hh,g,d,tk,os⟩:=fun{A' E' Q' tk}hq=>by
  have hk:builtinKind "BaseException.__getattribute__"=some .slot:=by decide +kernel
  have hsplit:splitId "BaseException.__getattribute__"=some ("BaseException","__getattribute__"):=by decide +kernel
  have ha:=F.args_bexc_ga (.ref x)<|.str "__class__" t;simp only[checkBuiltinCall,hk,hsplit];refine CI<|LI.at ?_
  repeat wp_step
  exact hq
 refine CI<|CU<|Io<|codeAny_call_builtin HF.ga.plain F.entry_bexc_ga<|chk ?_;refine CI (m:=slotArgs _ _ _)<|CU ?_;refine CI<|CU<|CI<|L0.at<|CI<|L3.at ?_;show wpAny _ _ (holding [.builtin "object.__class__"] (call (.builtin "getset_descriptor.__get__") [.builtin "object.__class__",.ref x,.ref C])>>=ret) _ _ _;refine CI<|Fo<|Io<|class_get (s:=⟨hh,g,d,t+1,os⟩) (ox:=ox) (od:=od) X I Z.ob<|CU ?_;exact PySem.W.handed_on rfl<|CU h
theorem tI(Z:XK1 K C):KitX K (.ref x) (.ref C) (fun h=>GD h x ox C od) where
 ty:=fun _ _ _ I=>I.type
 it:=fun _ _ X _=>by
  obtain⟨cd,a,_⟩:=Ic.mp Z.ob;unfold clsIn at a;split at a
  ·rename_i c' d' cd' sl' ho;intro A' Q' E' s' k q;unfold isType loadHead;exact CI<|Kk (k _ _<|X _ _ ho)<|CU q
  ·cases a
 ne:=fun h tp dd its n sl X htp=>by
  obtain⟨cd,a,_⟩:=Ic.mp Z.ob;refine Bool.eq_false_iff.mpr fun q=>?_;have e:C=tp:=Lf<|beq_iff_eq.mp q;subst e;unfold clsIn at a;split at a
  ·rename_i c' d' cd' sl' ho;have z:=(X _ _ ho).symm.trans htp;cases z
  ·cases a
 ca:=fun X I k=>qN Z X I k
theorem o6{c:CN}{b:Bool}{Q:CN->CO->Prop}(Z:XK1 K C)(X:K.In s.heap)(I:GD s.heap x ox C od)(e:DD K (.ref C) c=some b)(h:∀tk,Q (.bool b) {s with toks:=tk}):
  wpAny (model prog w) A (call (.builtin "isinstance") [.ref x,c]) Q E s:=Eg (tI Z) X I e (fun z=>by cases z) h
end
end L2
namespace L2
open PySem PySem.Spec PySem.Calls PyProof.Rows
def HdE(X:Cx)(x C:Addr):Prop:=∃(oe:Obj)(od:Option Addr),(∀d,od=some d->∃o u,X.H₀ d=some (.frz o u))/\X.A.handled=some (.ref x)/\Held oe C od/\X.s₀.heap.get? x=some oe/\X.H₀ x=none/\x∉X.fs/\x∉X.ex
theorem HdE.hdx{X:Cx}{x C:Addr}(h:HdE X x C):HdX X:=let ⟨oe,od,_,z⟩:=h;⟨x,C,od,oe,z⟩
theorem Inv.inst{X:Cx}{pins:List (Addr×Obj)}{σ:St}{H:Hp}{s:CO}{x C:Addr}(I:Inv X pins σ H s)(h:HdE X x C):∃ox od,GD s.heap x ox C od:=by
 obtain⟨oe,od,hf,h1,⟨⟨h2,h2'⟩,vs,h7,h8⟩,h3,h4,h5,h6⟩:=h;have nc:Kv oe=true:=by unfold Kv;rw[h7]
 have hk:=I.base.keep x oe h3 h4 h5 h6;cases od with
 |none=>exact⟨oe,none,hk,h2,nc,by rw[h2'];trivial⟩
 |some d=>
  obtain⟨o,u,z⟩:=hf d rfl;have:=I.hok d _<|I.base.frzs d o u z;exact⟨oe,some o,hk,h2,nc,by rw[h2'];exact this.1⟩
def kv:V->Option CN
 | .ref D=>some<|.ref D
 | .ty T=>some<|.type T
 |_=>none
section
variable{X:Cx}{K:CL}{x C:Addr}
theorem aT(hK:X.K=K)(h:HdE X x C)(Z:XK1 K C):ej X (.builtin "isinstance") (fun xs H Q=>∃v c b,xs=[.ref x,v]/\kv v=some c/\DD K (.ref C) c=some b/\Q (.bl b) H):=by
 subst hK;intro pins s σ H xs us Q I r q;obtain⟨v,c,b,rfl,hv,e,q⟩:=q;obtain⟨u,w',rfl,rx,rv⟩:=oP r;obtain rfl:u=.ref x:=rx;have hw:w'=c:=by
  unfold kv at hv;split at hv;·cases hv;exact rv
  ·cases hv;exact rv
  ·cases hv
 subst hw;obtain⟨ox,od,J⟩:=I.inst h;exact o6 Z I.kIn J e fun tk=>⟨.bl b,H,I.tok _,rfl,q⟩
end
structure RoomH(k:Nat)(A:Dy):Prop where
 dp:A.depth+3*k+5<recursionLimit
 un:A.units+16*k+200<cLine
theorem Room.h{k:Nat}{A:Dy}(r:Room k A)(v:Option CN):RoomH k (A.mark v):=⟨r.dp,r.un⟩
abbrev A3(P:Dg)(w:Dr)(K:CL)(mg:Str->Option CN)(base:Heap)(N:List Str)(qual:Str)(scope:FO)(f:Addr)(cd:CN)(A:Dy)(outer:List Env)(s0:CO)(H0:Hp)(E:XK):Cx:={jx CX0 P w K mg base N qual scope f cd A outer s0 H0 E with calm:=false,xe:=fun _ _=>False}
structure FnOkH(P:Dg)(w:Dr)(K:CL)(mg:Str->Option CN)(base:Heap)(k:Nat)(f:Addr)(fd:Df)(ps:List Str)(sp:Addr->Addr->Sp):Prop where
 len:∀x C vs H Q E,sp x C vs H Q E->vs.length=ps.length
 run:∀(x C:Addr)(od:Option Addr)(oe:Obj)(A:Dy)(outer:List Env)(s:CO)(H:Hp)(args:Args)(us:List CN)(vs:List V)(Q:VK)(E:XK),RoomH k A->A.handled=some (.ref x)->Held oe C od->(∀d,od=some d->∃o u,H d=some (.frz o u))->s.heap.get? x=some oe->H x=none->x∉frs outer->
  Env0 P w K mg base A outer s H->J9 s fd args (ps.zip us)->Vals vs us->sp x C vs H Q E->codeAny (model P w) A (.call (.ref f) args) (CR CX0 outer P w H s Q E) s
section
variable{P:Dg}{w:Dr}{K:CL}{mg:Str->Option CN}{base:Heap}
theorem Fun.okH{x0 qual:Str}{st:Stmt}{f:Addr}{fd:Df}{N ps:List Str}{k:Nat}{sp:Addr->Addr->Sp}(F:Fun K x0 qual st f fd)(S:FnScope N ps (defScope st))(len:∀x C vs H Q E,sp x C vs H Q E->vs.length=ps.length)
  (hbody:∀(x C:Addr) (cdv:CN) (A:Dy) (outer:List Env) (s:CO) (H:Hp) (vs:List V) (Q:VK) (E:XK),HdE (A3 P w K mg base N qual (defScope st) f cdv A outer s H E) x C->RoomH k (A.deeper<|envOfC qual (defScope st) s.heap.objs.size f cdv)->sp x C vs H Q E->
   ∃t,PSs (A3 P w K mg base N qual (defScope st) f cdv A outer s H E) (defBody st) t/\t {nx:=fun _ H'=>Q .non H',rt:=Q} (start N vs) H):FnOkH P w K mg base (k+1) f fd ps sp:=by
 obtain⟨oc,od,kV,doc,pm,an,cdv,ct,osl,rfl,lk,hcd⟩:=F.ex;refine⟨len,fun x C od oe A outer s H args us vs Q E hr hA hh hfz hx hHx hxo e0 hb r hsp=>?_⟩;have hl:=len _ _ _ _ _ _ hsp;have KX:K.In s.heap:=e0.mod.kin.keeps fun b o e=>(e0.bs b o e).1;have lim:s.heap.NoLimit:=e0.mod.nolimit.keeps fun b o e=>(e0.bs b o e).1;have hkind:∀y∈ps.zip us,(defScope st).names.lookup y.1=some .local\/((defScope st).names.lookup y.1=some .cell/\((cellsFrom (s.heap.objs.size+1) (defScope st).names []).lookup y.1).isSome=true):=fun⟨n,v⟩hy=>by
  rcases S.par n (Ez hy).1 with q|q;·exact .inl q
  ·exact .inr ⟨q,FU _ _ _<|.inl q⟩
 refine IL (by have:=hr.dp;omega) (KX _ _ lk) rfl S.co S.gen rfl (Jl KX hcd)<|hb _ _ _ _ ?_;refine HD S.kind hkind fun env he s1 z=>?_;subst he;refine⟨lim.keeps z.toInCall.keep,codeAny_func ?_⟩;have hE:HdE (A3 P w K mg base N qual (defScope st) f cdv A outer s H E) x C:=⟨oe,od,hfz,hA,hh,hx,hHx,hxo,fun m=>absurd (show x∈([]:List Addr)from m) (by simp)⟩
 obtain⟨t,ht,hq⟩:=hbody x C cdv A outer s H vs Q E hE ⟨by have:=hr.dp;show A.depth+1+3*k+5<_;omega,by have:=hr.un;show A.units+3+16*k+200<_;omega⟩ hsp;have e0':Env0 P w K mg base {A with handled:=none} outer s H:=⟨e0.frames,e0.mod,e0.bs,e0.bsz,e0.funs,e0.frf,e0.hok,e0.bare⟩
 have I0:Inv (jx CX0 P w K mg base N qual (defScope st) f cdv {A with handled:=none} outer s H E) [] (start N vs) H s1:=kJ S rfl e0' hl r z;have I:Inv (A3 P w K mg base N qual (defScope st) f cdv A outer s H E) [] (start N vs) H s1:=
  ⟨⟨I0.ok.mod,I0.ok.kind,I0.ok.glob,I0.ok.blt,I0.ok.above,I0.ok.inj,I0.ok.has,I0.ok.cab,fun z=>(nomatch z),IZ e0.frames,I0.ok.stk,I0.ok.exf,I0.ok.bs,I0.ok.bsz,I0.ok.noex,I0.ok.exfs,I0.ok.funs,I0.ok.frf⟩,I0.os,I0.bare,I0.base,I0.loc,I0.cell,I0.free,I0.freeC,I0.pin,I0.hok,I0.len⟩
 refine Eu (ht [] s1 (start N vs) H _ I hq) (fun fl s' hs=>?_) fun e s' hs=>hs.elim;have fin:∀{σ':St}{H':Hp}{v:V}{u:CN},Inv (A3 P w K mg base N qual (defScope st) f cdv A outer s H E) [] σ' H' s'->RelV v u->Q v H'->CE outer P w H s Q u s':=
  fun{σ' H' v u}J rv q=>⟨v,H',J.os,J.bare,J.base,J.hok,rv,q⟩
 cases fl with
 |ret u=>obtain⟨v,σ',H',J,rv,q⟩:=hs;exact fin J rv q
 |next=>obtain⟨σ',H',J,q⟩:=hs;exact fin (v:=V.non) (u:=DC) J rfl q
 |brk=>obtain⟨_,_,_,q⟩:=hs;exact Ew q
 |cont=>obtain⟨_,_,_,q⟩:=hs;exact Ew q
end
def zm(od:Option Addr)(sp:Sp):Sp:=fun vs H Q E=>(∀d,od=some d->∃o u,H d=some (.frz o u))/\sp vs H Q E
section
variable{X:Cx}{k:Nat}{f x C:Addr}{od:Option Addr}{oe:Obj}{fd:Df}{ps:List Str}{sp:Addr->Addr->Sp}{xn:Str}{p pos:Pos}{e:Expr}{es:List Expr}{t:TA}
theorem tJ(F:FnOkH X.prog X.w X.K X.mg X.base k f fd ps sp)(hr:RoomH k X.A)(hA:X.A.handled=some (.ref x))(hh:Held oe C od)(hp:(x,oe)∈X.pn)(hg:Gl X xn)(hm:X.mg xn=some (.ref f))(hk:Dp X.K (.ref f)=true)(hb:Binds X.K fd ps [])
  (ha:PA X (e::es) t) (hdb:(xn==("__debug__" :Str))=false:=by decide) (he:starEach (e::es) X.env=(false,eval e X.env)::starEach es X.env:=by rfl) (hpl:(backTo pos<|starEach es X.env).any (·.1)=false:=by rfl):
  PE X (.Call (.Name xn p) (e::es) [] pos) (aK (zm od<|sp x C) [] E0 t):=by
 intro pins s σ H Q I h;refine FT<|gF I hg hm ?_ hdb;refine Gp (h₀:=X.base) I.ok.mod.kin hk (bO (ha pos pins s σ H _ I h) fun us s1⟨vs,H1,I1,r,q⟩=>⟨I1.kIn,?_⟩) he hpl;obtain⟨g1,g2,g3,g4,_⟩:=I1.pin (x,oe)<|Et _ hp;have hfr:x∉frs X.stack:=fun m=>by
  rcases D7.mp (I1.stkSub x m)with z|z;·exact g3 z
  ·exact g4 z
 have q:zm od (sp x C) (vs++[]) H1 Q E0:=q;rw[DK]at q;obtain⟨hfz,q⟩:=q;rw[Gh];have hl:us.length=ps.length:=by rw[<-r.length];exact F.len _ _ _ _ _ _ q
 refine Io (Hw (F.run x C od oe X.A X.stack s1 H1 ⟨us,[]⟩ us vs Q E0 hr hA hh hfz g1 g2 hfr I1.env0 (by have:=hb s1 us I1.kIn (by simpa using hl);simpa using this) r q) fun r s' hq=>?_);cases r with
 |error e=>exact hq.elim
 |ok fl=>
  cases fl with
  |ret u=>exact I1.after hq
  |next=>exact Ew hq
  |brk=>exact Ew hq
  |cont=>exact Ew hq
end
end L2
namespace L2
open PySem PySem.Spec PySem.Calls PyProof.Rows Mi
section
variable{P:Dg}{w:Dr}{K:CL}{mg:Str->Option CN}{base:Heap}
theorem Fun.okR{x qual:Str}{st:Stmt}{f:Addr}{fd:Df}{N ps:List Str}{k:Nat}{sp:Sp}(F:Fun K x qual st f fd)(S:FnScope N ps (defScope st))(len:∀vs H Q E,sp vs H Q E->vs.length=ps.length)
  (hbody:∀(cdv:CN) (A:Dy) (outer:List Env) (s:CO) (H:Hp) (vs:List V) (Q:VK) (E:XK),Room k (A.deeper<|envOfC qual (defScope st) s.heap.objs.size f cdv)->sp vs H Q E->
   ∃t,PSs (pI P w K mg base N qual (defScope st) f cdv A outer s H E) (defBody st) t/\t {nx:=fun _ H'=>Q .non H',rt:=Q} (start N vs) H):FnOk P w K mg base (CXR P w) (k+1) f fd ps sp:=by
 obtain⟨oc,od,kV,doc,pm,an,cdv,ct,osl,rfl,lk,hcd⟩:=F.ex;exact xt lk hcd S len fun A outer s H vs Q E hr hsp=>hbody cdv A outer s H vs Q E hr hsp
end
end L2
namespace Wb
open PySem L2 Mi
def Esc(Er:Nat->Prop)(cs:List Addr)(E:XK)(W:Wd):Prop:=∀j,Er j->∀x W',Ext W W'->W'.H x=none->E (.ref x) cs[j]? W'.H
theorem Esc.mono{Er:Nat->Prop}{cs:List Addr}{E:XK}{W W':Wd}(h:Esc Er cs E W)(e:Ext W W'):Esc Er cs E W':=fun j hj x W1 e1 hx=>h j hj x W1 (e.trans e1) hx
section
variable{Er:Nat->Prop}{α β γ δ ε ζ η:Type}
def wd(R1:Rp α)(R2:Rp γ)(cs:List Addr)(rt:Rt β)(m:α->γ->Res β):Sp:=fun vs H Q E=>∃(W:Wd)(a:α)(b:γ)(v u:V),W.H=H/\vs=[v,u]/\R1 W.G a v/\R2 W.G b u/\∃Er:Nat->Prop,Esc Er cs E W/\(m a b).OkE Er fun r=>rt W r Q
def we(R1:Rp α)(R2:Rp γ)(R3:Rp δ)(cs:List Addr)(rt:Rt β)(m:α->γ->δ->Res β):Sp:=fun vs H Q E=>∃(W:Wd)(a:α)(b:γ)(c:δ)(v u w:V),W.H=H/\vs=[v,u,w]/\R1 W.G a v/\R2 W.G b u/\R3 W.G c w/\∃Er:Nat->Prop,Esc Er cs E W/\(m a b c).OkE Er fun r=>rt W r Q
variable{t1 t2 t3 t4 t5 t6:TE}{σ:St}{W W0 W':Wd}{cs:List Addr}{E:XK}{R1:Rp α}{R2:Rp γ}{R3:Rp δ}{R4:Rp ε}{R5:Rp ζ}{R6:Rp η}[Mono R1][Mono R2][Mono R3][Mono R4][Mono R5][Mono R6]{m1:Res α}{m2:Res γ}{m3:Res δ}{m4:Res ε}{m5:Res ζ}{m6:Res η}
theorem qO{R:Rp β}{m:α->γ->Res β}(hE:Esc Er cs E W)(h1:EV Er t1 σ W (sh R1) m1)(h2:EV Er t2 σ W (sh R2) m2):EV Er (aK (wd R1 R2 cs (rs R) m) [] E<|ag t1<|ag t2 aH) σ W (sh R) (m1.bind fun a=>m2.bind fun b=>m a b):=fun W1 e1 Q k=>
 h1 W1 e1 _ ((CH k).imp fun a0 ka v0 W2 e2 r1=>h2 W2 (e1.trans e2) _<|(CH ka).imp fun b0 kb u0 W3 e3 r2=>⟨W3,a0,b0,v0,u0,rfl,rfl,DB (R:=sh R1) e3 r1,r2,Er,hE.mono<|(e1.trans e2).trans e3,kb.imp fun r kr u W' e hu=>kr u W' ((e2.trans e3).trans e) hu⟩)
theorem qP{R:Rp β}{m:α->γ->δ->Res β}(hE:Esc Er cs E W)(h1:EV Er t1 σ W (sh R1) m1)(h2:EV Er t2 σ W (sh R2) m2)(h3:EV Er t3 σ W (sh R3) m3):EV Er (aK (we R1 R2 R3 cs (rs R) m) [] E<|ag t1<|ag t2<|ag t3 aH) σ W (sh R) (m1.bind fun a=>m2.bind fun b=>m3.bind fun c=>m a b c):=fun W1 e1 Q k=>
 h1 W1 e1 _ ((CH k).imp fun a0 ka v0 W2 e2 r1=>h2 W2 (e1.trans e2) _<|(CH ka).imp fun b0 kb u0 W3 e3 r2=>h3 W3 ((e1.trans e2).trans e3) _<|(CH kb).imp fun c0 kc w0 W4 e4 r3=>⟨W4,a0,b0,c0,v0,u0,w0,rfl,rfl,DB (R:=sh R1) (e3.trans e4) r1,DB (R:=sh R2) e4 r2,r3,Er,hE.mono<|((e1.trans e2).trans e3).trans e4,kc.imp fun r kr u W' e hu=>kr u W' (((e2.trans e3).trans e4).trans e) hu⟩)
end
theorem jO{α:Type}{Er:Nat->Prop}{cs:List Addr}{E:XK}{C:Addr}{te:TE}{R:Rw α}{m:Res α}{D:Ends}{σ:St}{W:Wd}{j:Nat}{β:Type}{P:β->Prop}(hE:Esc Er cs E W)(hc:cs[j]? =some C)(h:EV Er te σ W R m)(q:(m.bind fun _=>(Lq j:Res β)).OkE Er P):tE E C (ag te aH) D σ W.H:=
 h W (.refl _) _ ((CH q).imp fun a(ka:Er j)v W2 e2 hv=>⟨show 1<=sizeLine by decide,fun x hx=>by rw[<-hc];exact hE j ka x W2 e2 hx⟩)
structure CalR(P:Dg)(w:Dr)(K:CL)(mg:Str->Option CN)(base:Heap)(x:Str)(ps:List Str)(k:Nat)(sp:Sp):Prop where
 ex:∃(f:Addr)(fd:Df),FnOk P w K mg base (CXR P w) k f fd ps sp/\mg x=some (.ref f)/\Dp K (.ref f)=true/\Binds K fd ps []
theorem pJ{X:Cx}{x:Str}{ps:List Str}{k:Nat}{sp:Sp}{E:XK}{p pos:Pos}{e:Expr}{es:List Expr}{t:TA}(C:CalR X.prog X.w X.K X.mg X.base x ps k sp)(hx:eO (CXR X.prog X.w) X E)(hr:Room k X.A)(hg:Gl X x)(ha:PA X (e::es) t)
  (hdb:(x==("__debug__" :Str))=false:=by decide) (he:starEach (e::es) X.env=(false,eval e X.env)::starEach es X.env:=by rfl) (hpl:(backTo pos<|starEach es X.env).any (·.1)=false:=by rfl):
  PE X (.Call (.Name x p) (e::es) [] pos) (aK sp [] E t):=by
 obtain⟨f,fd,F,hm,hk,hb⟩:=C.ex;exact oR F hr hg hm hk hb .nil hx ha hdb he hpl
structure CalH(P:Dg)(w:Dr)(K:CL)(mg:Str->Option CN)(base:Heap)(x:Str)(ps:List Str)(k:Nat)(sp:Addr->Addr->Sp):Prop where
 ex:∃(f:Addr)(fd:Df),FnOkH P w K mg base k f fd ps sp/\mg x=some (.ref f)/\Dp K (.ref f)=true/\Binds K fd ps []
theorem wg{X:Cx}{xn:Str}{ps:List Str}{k:Nat}{sp:Addr->Addr->Sp}{x C:Addr}{od:Option Addr}{oe:Obj}{p pos:Pos}{e:Expr}{es:List Expr}{t:TA}(F:CalH X.prog X.w X.K X.mg X.base xn ps k sp)(hh:Held oe C od)(hr:RoomH k X.A)(hA:X.A.handled=some (.ref x))(hp:(x,oe)∈X.pn)(hg:Gl X xn)(ha:PA X (e::es) t)
  (hdb:(xn==("__debug__" :Str))=false:=by decide) (he:starEach (e::es) X.env=(false,eval e X.env)::starEach es X.env:=by rfl) (hpl:(backTo pos<|starEach es X.env).any (·.1)=false:=by rfl):
  PE X (.Call (.Name xn p) (e::es) [] pos) (aK (zm od<|sp x C) [] E0 t):=by
 obtain⟨f,fd,F,hm,hk,hb⟩:=F.ex;exact tJ F hr hA hh hp hg hm hk hb ha hdb he hpl
def gM(K:CL)(cs:List Addr)(aB:Addr)(x C:Addr):Sp:=fun vs H Q _=>∃(W:Wd)(j:Nat),W.H=H/\vs=[.ref x]/\XK1 K C/\j<13/\(∀i a,cs[i]? =some a->DD K (.ref C) (.ref a)=some (decide<|i=j))/\DD K (.ref C) (.ref aB)=some true/\DD K (.ref C) (.type "ValueError")=some true/\∀p W',Ext W W'->W.H p=none->Ow isS W' p [kindN.getD j []]->Q (.ref p) W'.H
structure Kin(K:CL)(base:Heap)(cs:List Addr)(aB:Addr):Prop where
 len:cs.length=13
 top:∃bm,Xcl base aB bm
 one:∀(j:Nat)(C:Addr),cs[j]? =some C->XK1 K C/\(∀(i:Nat)(a:Addr),cs[i]? =some a->DD K (.ref C) (.ref a)=some (decide<|i=j))/\DD K (.ref C) (.ref aB)=some true/\DD K (.ref C) (.type "ValueError")=some true/\∃bm,Xcl base C bm/\(D6 C::bm).contains (.ref aB)=true
def EX(K:CL)(cs:List Addr)(s:Tx)(W0:Wd)(Q:VK):XK:=fun v C H'=>(∃x,v=.ref x)/\∃(j:Nat)(W':Wd),C=cs[j]? /\W'.H=H'/\Ext W0 W'/\rs (isU K) W0 (nX s j) Q
section
variable{K:CL}{base:Heap}{cs:List Addr}{aB:Addr}{W0 W:Wd}{Q:VK}{s:Tx}{ie:Nat}{σ:St}{D:Ends}
theorem EX.cl(Z:Kin K base cs aB):∀v C H,EX K cs s W0 Q v (some C) H->∃bmC,Xcl base C bmC/\(D6 C::bmC).contains (.ref aB)=true:=fun v C H⟨_,j,W',h,_⟩=>(Z.one j C h.symm).2.2.2.2
theorem tK(Z:Kin K base cs aB){x C:Addr}{od:Option Addr}{H':Hp}{σ':St}{xs:Str}(hs:xs=sOf s)(hD:D.rt=Q)(h:EX K cs s W0 Q (XV x od) (some C) H')(hi:ie<σ'.length):
  cq (cu<|ag (tC<|.str xs)<|ag (aK (zm od<|gM K cs aB x C) [] E0<|ag (ba ie) aH) aH) D (σ'.set ie<|some<|.ref x) H':=by
 obtain⟨⟨x',hx'⟩,j,W',hj,rfl,e,q⟩:=h;have ho:od=none:=by cases od with|none=>rfl|some d=>cases hx'
 obtain⟨z1,z2,z3,z4,_⟩:=Z.one j C hj.symm;have hj':j<13:=by rw[<-Z.len];exact(CP.mp hj.symm).1
 have hk:EVo (fun _=>False) (aK (zm od<|gM K cs aB x C) [] E0<|ag (ba ie) aH) (σ'.set ie<|some<|.ref x) W' isS (.ok [kindN.getD j []]):=fun W1 e1 Q1 k=>
  ⟨.ref x,by rw[FR hi],(fun d z=>by rw[ho]at z;cases z),W1,j,rfl,rfl,z1,hj',z2,z3,z4,fun p W2 e2 hp o=>k p W2 e2 hp o⟩
 refine aw (R:=sh<|isU K) (m:=.ok<|nX s j) (gi (K:=K) (mS eY<|mR eY)<|bQ (K:=K) (aJ (x:=xs) (l:=s) hs)<|EF hk)<|fun v W2 e2 hv=>?_;rw[hD];exact q v W2 (e.trans e2) hv
end
section
variable{α β γ δ:Type}{K:CL}{base:Heap}{cs:List Addr}{aB:Addr}{W0 W:Wd}{Q:VK}{s:Tx}{ie i:Nat}{σ:St}{D:Ends}{t1 t2 t3:TE}{R1:Rp α}{R2:Rp γ}{R3:Rp δ}{R:Rp β}[Mono R1][Mono R2][Mono R3]{m1:Res α}{m2:Res γ}{m3:Res δ}{rest:TS}{σ':V->St}{xs:Str}
abbrev yC(K:CL)(cs:List Addr)(aB:Addr)(ie:Nat)(xs:Str):Addr->Addr->Option Addr->Obj->TS:=fun x C od _=>cq<|cu<|ag (tC<|.str xs)<|ag (aK (zm od<|gM K cs aB x C) [] E0<|ag (ba ie) aH) aH
end
end Wb
namespace Wb
open PySem L2 Mi
open PySem.W (findIn findObj mroIn kitOne kitCls clsIn typeIn subIn specialIn takesIn Frag)
def vE:List CN:=[.type "ValueError",.type "Exception",.type "BaseException",.type "object"]
def XcK(K:Frag)(C N:Addr)(bm:List CN):Prop:=∃nm q bs hdct sn sub ab col dd k0 k1 k2 k3 k5,K.lookup C=some (excClassObj nm q C N bs bm hdct sn sub ab col dd k0 k1 k2 k3 k5 "ValueError.__new__")
structure Cx1(K:Frag)(aB C:Addr):Prop where
 at_:∃N,XcK K C N (.ref aB::vE)
 ga:findIn K (.ref C) "__getattribute__"=some (some<|.builtin "BaseException.__getattribute__")
 gt:findIn K (.ref C) "__getattr__"=some none
 cl:findIn K (.ref C) "__class__"=some (some<|.builtin "object.__class__")
section
variable{K:Frag}{base:Heap}{C D N:Addr}{bm bm':List CN}
theorem XcK.cls(x:XcK K C N bm):∃cd,clsIn K C=some cd/\cd.mro=.ref C::bm/\typeIn K (.ref C)=some (.type "type"):=by
 obtain⟨nm,q,bs,hdct,sn,sub,ab,col,dd,k0,k1,k2,k3,k5,e⟩:=x;refine⟨{name:=nm,bases:=bs,mro:=.ref C::bm,ns:=N,qualname:=q,hasDict:=hdct,slotNames:=sn,subclasses:=sub,abstract:=ab,collection:=col,hasDel:=false},?_,rfl,?_⟩;·unfold clsIn;rw[e]
 ·show Option.map (fun x=>x.cls) (EK C K)=_;rw[e];rfl
theorem XcK.xcl(x:XcK K C N bm)(X:K.In base)(hb:bm.contains (.type "BaseException")=true):Xcl base C bm:=by
 obtain⟨nm,q,bs,hdct,sn,sub,ab,col,dd,k0,k1,k2,k3,k5,e⟩:=x;exact⟨nm,q,N,bs,hdct,sn,sub,ab,col,dd,k0,k1,k2,k3,k5,_,X _ _ e,hb⟩
theorem XcK.mro(x:XcK K C N bm)(v:CN):mroIn K C v=some ((D6 C::bm).contains v):=by
 obtain⟨cd,h1,h2,_⟩:=x.cls;unfold mroIn;rw[h1,Ie,h2];rfl
theorem XcK.kit{N':Addr}(x:XcK K C N bm)(y:XcK K D N' bm'):kitOne K (.ref C) (.ref D)=some ((D6 C::bm).contains (.ref D)):=by
 obtain⟨cd,h1,h2,h3⟩:=y.cls;unfold kitOne;by_cases e:(D6 C==D6 D)=true
 ·rw[if_pos e];rw[beq_iff_eq.mp e,Jr];simp
 ·rw[if_neg e];show(if((clsIn K D).isSome&&typeIn K (.ref D)==some (.type "type"))=true then subIn K (.ref C) (.ref D)else none)=_;rw[h1,h3,if_pos (by simp)];exact x.mro _
theorem XcK.kitT{T:String}(x:XcK K C N bm)(hT:Ke T=true):kitOne K (.ref C) (.type T)=some ((D6 C::bm).contains (.type T)):=by
 unfold kitOne;rw[if_neg (by intro z;cases beq_iff_eq.mp z)];show(if Ke T=true then subIn K (.ref C) (.type T)else none)=_;rw[if_pos hT];exact x.mro _
end
theorem Cx1.xk{K:Frag}{aB C:Addr}(x:Cx1 K aB C)(hn:specialIn K (.builtin "object.__class__") "__get__"=some (some<|.builtin "getset_descriptor.__get__"))(ht:takesIn K (.builtin "object.__class__")=some true):XK1 K C:=by
 obtain⟨N,h⟩:=x.at_;refine⟨x.ga,x.gt,?_,?_,?_⟩
 ·intro od;obtain⟨cd,h1,h2,h3⟩:=h.cls;unfold findObj;rw[h1,Ie,x.cl,Ie];simp[hn,ht]
 ·rw[h.mro];simp[vE]
 ·rw[h.mro];simp[vE]
theorem l7{α:Type}:∀{l:List α},l.Nodup->∀{i j:Nat}{x:α},l[i]? =some x->l[j]? =some x->i=j
 | [],_,i,j,x,a,_=>by simp at a
 |y::r,nd,0,0,x,a,b=>rfl
 |y::r,nd,0,j+1,x,a,b=>by
  simp at a b;subst a;exact absurd (DZ b) (E7.mp nd).1
 |y::r,nd,i+1,0,x,a,b=>by
  simp at a b;subst b;exact absurd (DZ a) (E7.mp nd).1
 |y::r,nd,i+1,j+1,x,a,b=>by
  simp at a b;rw[l7 (E7.mp nd).2 a b]
theorem Kin.of{K:Frag}{base:Heap}{cs:List Addr}{aB NB:Addr}(X:K.In base)(hn:specialIn K (.builtin "object.__class__") "__get__"=some (some<|.builtin "getset_descriptor.__get__"))(ht:takesIn K (.builtin "object.__class__")=some true)
  (len:cs.length=13) (nd:(aB::cs).Nodup) (top:XcK K aB NB vE) (all:∀C∈cs,Cx1 K aB C):Kin K base cs aB:=by
 have one:∀(j:Nat)(C:Addr),cs[j]? =some C->C∈cs:=fun j C h=>DZ h;refine⟨len,⟨vE,top.xcl X (by decide)⟩,fun j C h=>?_⟩;have hC:=all C<|one j C h;obtain⟨N,hx⟩:=hC.at_;refine⟨hC.xk hn ht,fun i a hi=>?_,?_,?_,.ref aB::vE,hx.xcl X (by simp[vE]),by simp⟩
 ·have ha:=all a<|one i a hi;obtain⟨N',hy⟩:=ha.at_;rw[hx.kit hy];have nB:a≠aB:=fun z=>(E7.mp nd).1 (z▸one i a hi);have nd':=(E7.mp nd).2;have key:(a=C)↔i=j:=by
   constructor
   ·intro z;subst z;obtain⟨l1,e1⟩:=CP.mp hi;obtain⟨l2,e2⟩:=CP.mp h;exact l7 nd' hi h
   ·intro z;subst z;rw[hi]at h;exact DJ h
  by_cases z:i=j
  ·have:=key.mpr z;subst this;simp[z]
  ·have:¬a=C:=fun y=>z<|key.mp y;simp[z,this,nB,vE]
 ·rw[hx.kit top];simp
 ·rw[hx.kitT (by decide +kernel)];simp[vE]
theorem Ecl.of{K:Frag}{base:Heap}{aB C N NB:Addr}{o oB:Obj}{es eB:Array ER}{ep pB:Nat}(X:K.In base)(h:XcK K C N (.ref aB::vE))(hB:XcK K aB NB vE)(n:K.lookup N=some o)(d:o.data=.dict es ep)(k:Ja es)(i:nsFind es "__init__"=none)
  (nB:K.lookup NB=some oB) (dB:oB.data=.dict eB pB) (kB:Ja eB) (iB:nsFind eB "__init__"=none):Ecl base C:=by
 obtain⟨nm,q,bs,hdct,sn,sub,ab,col,dd,k0,k1,k2,k3,k5,e⟩:=h;obtain⟨nm',q',bs',hdct',sn',sub',ab',col',dd',k0',k1',k2',k3',k5',e'⟩:=hB;exact⟨nm,q,N,bs,.ref aB::vE,hdct,sn,sub,ab,col,dd,k0,k1,k2,k3,k5,_,fun x=>nsFind es x,"ValueError",_,vE,X _ _ e,⟨o,es,ep,X _ _ n,d,k,fun _=>rfl⟩,i,.own (X _ _ e') ⟨oB,eB,pB,X _ _ nB,dB,kB,fun _=>rfl⟩ iB .base,PySem.F.excBase_ValueError⟩
def tL:CN->Bool
 | .str _ _=>true
 |_=>false
theorem strKeys_of{es:Array ER}(h:(es.toList.all fun e=>tL e.key)=true):Ja es:=fun e he=>by
 have:=GY.mp h e<|IY.mpr he;unfold tL at this;split at this;·rename_i n t q;exact⟨n,t,q⟩
 ·cases this
end Wb
open Wb.Ecl renaming of->Mg
namespace L2
open PySem PySem.Spec PyProof.Rows
abbrev TJ:=Str->St->Hp->(Str->Hp->Prop)->Prop
def PJ(X:Cx)(es:List Expr)(t:TJ):Prop:=∀(acc:Str)(pins:List (Addr×Obj))(s:CO)(σ:St)(H:Hp)(Q:Str->Hp->Prop),Inv X pins σ H s->t acc σ H Q->
 Joins (model X.prog X.w) X.A X.xe (evalEach es X.env) acc (fun out s1=>∃H1,Inv X pins σ H1 s1/\Q out H1) s
def A4:TJ:=fun acc _ H Q=>Q acc H
def A5(x:Str)(t:TJ):TJ:=fun acc σ H Q=>(acc++x).length<=sizeLine/\t (acc++x) σ H Q
def A6(te:TE)(t:TJ):TJ:=fun acc σ H Q=>te σ H fun v H1=>∃y:Str,((v=.str y/\y.length<=sizeLine)\/∃i:Int,v=.int i/\i.natAbs.log2<1920/\y=CS (toString i))/\(acc++y).length<=sizeLine/\t (acc++y) σ H1 Q
def xG(t:TJ):TE:=fun σ H Q=>t J8 σ H fun out H1=>out.length<=sizeLine/\Q (.str out) H1
section
variable{X:Cx}{e:Expr}{es:List Expr}{te:TE}{t:TJ}{pos:Pos}
theorem yD:PJ X [] A4:=fun acc pins s σ H Q I h=>⟨H,I,h⟩
theorem tM{x:Str}{k}(ht:PJ X es t):PJ X (.Constant (.str x) k pos::es) (A5 x t):=fun acc pins s σ H Q I h=>by
 have:=(aG (X:=X) (pos:=pos) (j:=k) (x:=x)) pins s σ H (fun v H1=>v=.str x/\H1=H) I ⟨rfl,rfl⟩;refine bO this fun v s1 zz=>?_;obtain⟨u,H1,I1,r,e1,e2⟩:=zz;rw[e1]at r;rw[e2]at I1;obtain⟨tk,rfl⟩:=r;exact⟨x,_,rfl,h.1,ht _ pins s1 σ H Q I1 h.2⟩
theorem yE(he:PE X e te)(ht:PJ X es t):PJ X (.FormattedValue e (-1) none pos::es) (A6 te t):=fun acc pins s σ H Q I h=>by
 show wpAny _ _ (eval (.FormattedValue e (-1) none pos) X.env) _ _ _;refine wpAny_FormattedValue_plain<|bO (he pins s σ H _ I h) fun v s1 zz=>?_;obtain⟨u,H1,I1,r,y,hy,hl,q⟩:=zz;rcases hy with⟨rfl,hz⟩|⟨i,rfl,hz,rfl⟩
 ·obtain⟨tk,rfl⟩:=r;refine wpAny_formatField_str ?_ ?_ hz;·exact⟨y,_,rfl,hl,ht _ pins _ σ H1 Q I1 q⟩
  ·exact⟨y,_,rfl,hl,ht _ pins _ σ H1 Q (I1.tok _) q⟩
 ·obtain⟨tk,rfl⟩:=r;refine wpAny_formatField_int hz ?_;exact⟨_,_,rfl,hl,ht _ pins _ σ H1 Q (I1.tok _) q⟩
theorem qQ{e1 e2:Expr}(ht:PJ X (e1::e2::es) t):PE X (.JoinedStr (e1::e2::es) pos) (xG t):=fun pins s σ H Q I h=>by
 refine wpAny_JoinedStr ?_;have mono:∀(es:List (Sem CN))(acc:Str)(P P':Str->CO->Prop)(s:CO),(∀o s,P o s->P' o s)->Joins (model X.prog X.w) X.A X.xe es acc P s->Joins (model X.prog X.w) X.A X.xe es acc P' s:=by
  intro es
  induction es with
  |nil=>intro acc P P' s k h;exact k _ _ h
  |cons a r ih=>intro acc P P' s k h;exact bO h fun v s1⟨y,t,e,l,q⟩=>⟨y,t,e,l,ih _ _ _ _ k q⟩
 refine mono _ _ _ _ _ (fun o s1⟨H1,I1,hz,q⟩=>⟨hz,.str o,H1,I1.tok _,⟨_,rfl⟩,q⟩)<|ht J8 pins s σ H _ I h
end
end L2
namespace Wb
open PySem L2 Mi
def JV(Er:Nat->Prop)(t:TJ)(σ:St)(W:Wd)(f:Tx->Res Tx):Prop:=∀W1,Ext W W1->∀(acc:Tx)(Q:Str->Hp->Prop),(f acc).OkE Er (fun out=>∀W2,Ext W1 W2->Q (sOf out) W2.H)->t (sOf acc) σ W1.H Q
section
variable{Er:Nat->Prop}{te:TE}{t:TJ}{σ:St}{W:Wd}{f:Tx->Res Tx}
theorem yF:JV Er A4 σ W fun acc=>.ok acc:=fun W1 _ acc Q k=>k W1<|.refl _
theorem tN{x:Str}{l:Tx}(hx:x=sOf l)(h:JV Er t σ W f):JV Er (A5 x t) σ W fun acc=>(fG acc l).bind f:=fun W1 e1 acc Q k=>by
 obtain⟨h1,h2⟩:=aM<|CH k;subst hx;refine⟨?_,?_⟩<;>rw[gY];·rw[d4,Du];exact jb h1
 ·exact h W1 e1 _ Q h2
theorem wj{m:Res Tx}(he:EV Er te σ W (sh isS) m)(h:JV Er t σ W f):JV Er (A6 te t) σ W fun acc=>m.bind fun y=>(fG acc y).bind f:=fun W1 e1 acc Q k=>
 he W1 e1 _ ((CH k).imp fun y ky v W2 e2 hv=>by
  cases hv;obtain⟨h1,h2⟩:=aM<|CH ky;refine⟨sOf y,.inl ⟨rfl,by rw[d4];exact jb (by omega)⟩,?_,?_⟩<;>rw[gY];·rw[d4,Du];exact jb h1
  ·exact h W2 (e1.trans e2) _ Q (h2.imp fun out ko W3 e3=>ko W3 (e2.trans e3)))
theorem qR(h:JV Er t σ W f):EV Er (xG t) σ W (sh isS) ((f []).bind yA):=fun W1 e1 Q k=>
 h W1 e1 [] _ ((CH k).imp fun out ko W2 e2=>by
  obtain⟨h1,h2⟩:=aM ko;exact⟨by rw[d4];exact jb h1,h2 _ W2 e2 rfl⟩)
end
end Wb
namespace Mi
def tO{α:Type}(xs:List α)(k:Int):Res (List α):=dR (-100000<=k/\k<=100000/\xs.length*k.toNat<=cap) (Dh k.toNat xs).flatten
def wk{α:Type}(a b:List α):Res (List α):=dR (a.length+b.length<=cap)<|a++b
end Mi
namespace Wb
open PySem L2 Mi
section
variable{Er:Nat->Prop}{α β:Type}{K:CL}{W W0:Wd}{p:Addr}{ta tb te:TE}{σ:St}{D:Ends}{i:Nat}{r:TS}{base:Heap}
theorem LR.app{R:Rp α}{H:Hp}{as bs:List α}{vs us:List V}(h2:LR R H as vs)(h4:LR R H bs us):LR R H (as++bs) (vs++us):=⟨by rw[Du,Du,h2.1,h4.1],fun i v m q1 q2=>by
 by_cases hi:i<vs.length
 ·rw[Dz hi]at q1;rw[Dz (by rw[<-h2.1];exact hi)]at q2;exact h2.2 i v m q1 q2
 ·rw[Dt (by omega)]at q1;rw[Dt (by rw[<-h2.1];omega)]at q2;rw[<-h2.1]at q2;exact h4.2 _ v m q1 q2⟩
theorem LR.rep{R:Rp α}{H:Hp}{as:List α}{vs:List V}(h:LR R H as vs):∀k:Nat,LR R H (Dh k as).flatten (Dh k vs).flatten
 |0=>⟨rfl,fun i v m q1 q2=>by simp at q1⟩
 |k+1=>by
  rw[Em,Em,F0,F0];exact LR.app h<|LR.rep h k
theorem pK{R:Rp α}[Mono R]{ma:Res (List α)}{mb:Res Int}(ha:EV Er ta σ W (pk R) ma)(hb:EV Er tb σ W (sh isI) mb):EVo Er (dh zH ta tb) σ W R (ma.bind fun a=>mb.bind fun b=>tO a b):=fun W1 e1 Q k=>
 ha W1 e1 _ ((CH k).imp fun a ka x W2 e2 hx=>hb W2 (e1.trans e2) _ ((CH ka).imp fun b kb y W3 e3 hy=>by
  cases hy;obtain⟨p,vs,rfl,h1,h2⟩:=DB e3 hx;obtain⟨⟨h5,h6,h7⟩,h8⟩:=aM kb;refine⟨p,b,vs,rfl,rfl,h1,by omega,by omega,by rw[h2.1];exact jb h7,fun r hr=>h8 r (W3.mut r (.lst (Dh b.toNat vs).flatten) (W3.gnone hr)) ((e2.trans e3).trans (.own _ hr)) (none_of (e2.trans e3).h hr) ⟨W3.gnone hr,_,ak,LR.rep h2 _⟩⟩))
end
abbrev FS:=Addr->Prop
abbrev Rf(α:Type):=Wd->FS->α->V->Prop
theorem nn_of{H:Hp}{q:Addr}{o:HO}(h:H q=some o):H q≠none:=by rw[h];exact fun z=>nomatch z
structure MuF(F:FS)(W W':Wd):Prop where
 g:Same W.G W'.G
 h:∀q,¬F q->W.H q≠none->W'.H q=W.H q
 k:∀q,W.H q≠none->W'.G q=W.G q
 n:∀q,W.H q≠none->W'.H q≠none
section
variable{α β γ:Type}{K:CL}{W W' W0 W1 W2:Wd}{F F' F1:FS}
theorem Ext.keepH(e:Ext W W'){q:Addr}(hn:W.H q≠none):W'.H q=W.H q:=by
 obtain⟨o,ho⟩:=G5.mp hn;rw[ho];exact e.h _ _ ho
theorem Ext.muF(e:Ext W W'):MuF F W W':=⟨e.g,fun q _ hn=>e.keepH hn,e.k,fun q hn=>by rw[e.keepH hn];exact hn⟩
theorem MuF.trans(m:MuF F W W1)(m':MuF F1 W1 W2)(hF:∀q,F1 q->F q\/W.H q=none):MuF F W W2:=⟨m.g.trans m'.g,fun q hq hn=>by
 have h1:=m.h q hq hn;have:¬F1 q:=fun z=>(hF q z).elim hq hn;rw[m'.h q this (by rw[h1];exact hn),h1],fun q hn=>by rw[m'.k q (m.n q hn),m.k q hn],fun q hn=>m'.n q (m.n q hn)⟩
theorem MuF.of{p:Addr}{o:HO}(hF:F p)(hg:W.G p=none):MuF F W (W.mut p o hg):=⟨.refl _,fun q hq hn=>ai fun z=>hq<|z▸hF,fun _ _=>rfl,fun q hn=>by
 show cg W.H p o q≠none;by_cases z:q=p
 ·rw[z,ak];exact fun z=>nomatch z
 ·rw[ai z];exact hn⟩
class FrT(R:Rf α):Prop where
 fr:∀{W W':Wd}{F:FS}{a:α}{v:V},R W F a v->Same W.G W'.G->(∀q,F q->W'.H q=W.H q/\W'.G q=W.G q)->R W' F a v
 lv:∀{W:Wd}{F:FS}{a:α}{v:V},R W F a v->∀q,F q->W.G q=none/\W.H q≠none
theorem FrT.ext{R:Rf α}[FrT R]{a:α}{v:V}(t:R W F a v)(e:Ext W W'):R W' F a v:=FrT.fr t e.g fun q hq=>⟨e.keepH (FrT.lv t q hq).2,e.k q (FrT.lv t q hq).2⟩
theorem FrT.mu{R:Rf α}[FrT R]{a:α}{v:V}(t:R W F a v)(m:MuF F' W W')(dj:∀q,F q->F' q->False):R W' F a v:=FrT.fr t m.g fun q hq=>⟨m.h q (dj q hq) (FrT.lv t q hq).2,m.k q (FrT.lv t q hq).2⟩
class FzT(R:Rf α)(R':outParam (Rp α)):Prop where
 fz:∀{W W':Wd}{F:FS}{a:α}{v:V},R W F a v->Same W.G W'.G->(∀q,F q->W'.G q=W.H q)->R' W'.G a v
def fz(R:Rp α):Rf α:=fun W F a v=>(∀q,¬F q)/\R W.G a v
instance zkeep44{R:Rp α}[Mono R]:FrT (fz R):=⟨fun h s _=>⟨h.1,CJ s h.2⟩,fun h q hq=>absurd hq<|h.1 q⟩
instance zkeep45{R:Rp α}[Mono R]:FzT (fz R) R:=⟨fun h s _=>CJ s h.2⟩
structure TL(R:Rf α)(W:Wd)(Fs:Nat->FS)(xs:List α)(vs:List V):Prop where
 len:vs.length=xs.length
 el:∀i x u,xs[i]? =some x->vs[i]? =some u->R W (Fs i) x u
 rng:∀i q,Fs i q->i<xs.length
 dj:∀i j q,Fs i q->Fs j q->i=j
def oL(R:Rf α):Rf (List α):=fun W F xs v=>∃(p:Addr)(vs:List V)(Fs:Nat->FS),v=.ref p/\W.G p=none/\W.H p=some (.lst vs)/\TL R W Fs xs vs/\(∀i,¬Fs i p)/\∀q,F q↔q=p\/∃i,Fs i q
theorem TL.at2{R:Rf α}{Fs:Nat->FS}{xs:List α}{vs:List V}(t:TL R W Fs xs vs){i:Nat}{q:Addr}(h:Fs i q):∃x u,xs[i]? =some x/\vs[i]? =some u/\R W (Fs i) x u:=by
 have h1:=t.rng i q h;have h2:i<vs.length:=by rw[t.len];exact h1
 exact⟨xs[i],vs[i],by simp[h1],by simp[h2],t.el i _ _ (by simp[h1]) (by simp[h2])⟩
instance zkeep46{R:Rf α}[FrT R]:FrT (oL R):=⟨fun⟨p,vs,Fs,e,g,h,t,np,hF⟩s k=>by
 have kp:=k p<|(hF p).mpr (.inl rfl);exact⟨p,vs,Fs,e,by rw[kp.2];exact g,by rw[kp.1];exact h,⟨t.len,fun i x u a b=>FrT.fr (t.el i x u a b) s<|fun q hq=>k q<|(hF q).mpr (.inr ⟨i,hq⟩),t.rng,t.dj⟩,np,hF⟩,fun⟨p,vs,Fs,e,g,h,t,np,hF⟩q hq=>by
 rcases (hF q).mp hq with rfl|⟨i,hi⟩
 ·exact⟨g,nn_of h⟩
 ·obtain⟨x,u,_,_,r⟩:=t.at2 hi;exact FrT.lv r q hi⟩
instance zkeep47{R:Rf α}{R':Rp α}[FzT R R']:FzT (oL R) (isL R'):=⟨fun⟨p,vs,Fs,e,g,h,t,np,hF⟩s k=>⟨p,vs,e,by rw[k p<|(hF p).mpr (.inl rfl)];exact h,t.len,fun i u x a b=>FzT.fz (t.el i x u b a) s fun q hq=>k q<|(hF q).mpr (.inr ⟨i,hq⟩)⟩⟩
structure TC where
 {α:Type}
 R:Rf α
 a:α
 v:V
 i:FrT R
def tc(R:Rf α)[FrT R](a:α)(v:V):TC:=⟨R,a,v,inferInstance⟩
def noT:Rf Unit:=fun _ F _ _=>∀q,¬F q
instance zkeep48:FrT noT:=⟨fun h _ _=>h,fun h q hq=>absurd hq<|h q⟩
def zo:TC:=tc noT () .non
structure SepF(W0 W:Wd)(Fs:Nat->FS)(cs:List TC):Prop where
 el:∀(i:Nat)(c:TC),cs[i]? =some c->c.R W (Fs i) c.a c.v
 rng:∀i q,Fs i q->i<cs.length
 dj:∀i j q,Fs i q->Fs j q->i=j
 nw:∀i q,Fs i q->W0.H q=none
def Sep(W0 W:Wd)(cs:List TC):Prop:=∃Fs,SepF W0 W Fs cs
variable{cs:List TC}
theorem Sep.nil:Sep W0 W []:=⟨fun _ _=>False,fun _ _ h=>by simp at h,fun _ _ h=>h.elim,fun _ _ _ h=>h.elim,fun _ _ h=>h.elim⟩
theorem SepF.lv{Fs:Nat->FS}(s:SepF W0 W Fs cs){i:Nat}{q:Addr}(h:Fs i q):W.G q=none/\W.H q≠none:=by
 have h1:=s.rng i q h;have:=s.el i cs[i] (by simp[h1]);exact @FrT.lv _ _ cs[i].i _ _ _ _ this q h
theorem Sep.ext(s:Sep W0 W cs)(e:Ext W W'):Sep W0 W' cs:=by
 obtain⟨Fs,s⟩:=s;exact⟨Fs,fun i c h=> @FrT.ext _ _ _ _ _ c.i _ _ (s.el i c h) e,s.rng,s.dj,s.nw⟩
theorem SepF.put{Fs:Nat->FS}{R:Rf β}[FrT R]{b:β}{u:V}{i:Nat}(s:SepF W0 W Fs cs)(E:Ext W0 W)(m:MuF (Fs i) W W')(hF:∀q,F q->Fs i q\/W.H q=none)(t:R W' F b u)(hi:i<cs.length):Sep W0 W' (cs.set i<|tc R b u):=by
 refine⟨fun j=>if j=i then F else Fs j,fun j c h=>?_,fun j q h=>?_,fun j k q h1 h2=>?_,fun j q h=>?_⟩
 ·rw[FA]at h;by_cases z:i=j
  ·subst z;rw[if_pos rfl,if_pos hi]at h;cases h;simp only[if_true];exact t
  ·rw[if_neg z]at h;simp only[if_neg (Ec z)];exact @FrT.mu _ _ _ _ _ _ c.i _ _ (s.el j c h) m fun q a b=>z (s.dj j i q a b).symm
 ·rw[F5];by_cases z:j=i;·rw[z];exact hi
  ·simp only[if_neg z]at h;exact s.rng j q h
 ·have key:∀j q,(if j=i then F else Fs j) q->(j=i/\F q)\/(j≠i/\Fs j q):=fun j q h=>by
   by_cases z:j=i;·exact .inl ⟨z,by simpa [if_pos z] using h⟩
   ·exact .inr ⟨z,by simpa [if_neg z] using h⟩
  rcases key j q h1 with⟨z1,a⟩|⟨z1,a⟩<;>rcases key k q h2 with⟨z2,b⟩|⟨z2,b⟩
  ·rw[z1,z2]
  ·exact((hF q a).elim (fun y=>z2<|s.dj k i q b y) fun y=>absurd y (s.lv b).2).elim
  ·exact((hF q b).elim (fun y=>z1<|s.dj j i q a y) fun y=>absurd y (s.lv a).2).elim
  ·exact s.dj j k q a b
 ·by_cases z:j=i
  ·simp only[if_pos z]at h;exact(hF q h).elim (s.nw i q) fun y=>none_of E.h y
  ·simp only[if_neg z]at h;exact s.nw j q h
theorem Sep.add{R:Rf β}[FrT R]{b:β}{u:V}(s:Sep W0 W cs)(E:Ext W0 W)(e:Ext W W')(hF:∀q,F q->W.H q=none)(t:R W' F b u):Sep W0 W' (cs++[tc R b u]):=by
 obtain⟨Fs,s⟩:=s;have hn:∀j q,j=cs.length->¬Fs j q:=fun j q z h=>by have:=s.rng j q h;omega
 have key:∀j q,(if j=cs.length then F else Fs j) q->(j=cs.length/\F q)\/(j<cs.length/\Fs j q):=fun j q h=>by
  by_cases z:j=cs.length;·exact .inl ⟨z,by simpa [if_pos z] using h⟩
  ·have h':Fs j q:=by simpa [if_neg z] using h
   exact .inr ⟨s.rng j q h',h'⟩
 refine⟨fun j=>if j=cs.length then F else Fs j,fun j c h=>?_,fun j q h=>?_,fun j k q h1 h2=>?_,fun j q h=>?_⟩
 ·by_cases z:j< cs.length
  ·rw[Dz z]at h;simp only[if_neg (Dc z)];exact @FrT.ext _ _ _ _ _ c.i _ _ (s.el j c h) e
  ·rw[Dt (by omega)]at h;have:j-cs.length=0:=by
    refine Eb fun y=>?_;rw[DA.mpr (by simp;omega)]at h;cases h
   rw[this]at h;cases h;have z2:j=cs.length:=by omega
   simp only[if_pos z2];exact t
 ·rw[Du,IP];rcases key j q h with⟨a,_⟩|⟨a,_⟩<;>omega
 ·rcases key j q h1 with⟨z1,a⟩ | ⟨z1,a⟩ <;> rcases key k q h2 with⟨z2,b⟩ | ⟨z2,b⟩
  ·omega
  ·exact absurd (hF q a) (s.lv b).2
  ·exact absurd (hF q b) (s.lv a).2
  ·exact s.dj j k q a b
 ·rcases key j q h with⟨_,a⟩ | ⟨_,a⟩
  ·exact none_of E.h<|hF q a
  ·exact s.nw j q a
theorem SepF.del{Fs:Nat->FS}(s:SepF W0 W Fs cs)(i:Nat):Sep W0 W (cs.eraseIdx i):=by
 by_cases hi:i<cs.length
 ·have key:∀j q,(if j<i then Fs j else Fs (j+1)) q->(j<i/\Fs j q)\/(i<=j/\Fs (j+1) q):=fun j q h=>by
   by_cases z:j<i;·exact .inl ⟨z,by simpa [if_pos z] using h⟩
   ·exact .inr ⟨by omega,by simpa [if_neg z] using h⟩
  refine⟨fun j=>if j<i then Fs j else Fs (j+1),fun j c h=>?_,fun j q h=>?_,fun j k q h1 h2=>?_,fun j q h=>?_⟩
  ·by_cases z:j< i
   ·rw[List.getElem?_eraseIdx_of_lt z]at h;simp only[if_pos z];exact s.el j c h
   ·rw[List.getElem?_eraseIdx_of_ge (by omega)]at h;simp only[if_neg z];exact s.el (j+1) c h
  ·rw[List.length_eraseIdx,if_pos hi];rcases key j q h with⟨a,b⟩|⟨a,b⟩
   ·omega
   ·have:=s.rng _ q b;omega
  ·rcases key j q h1 with⟨z1,a⟩|⟨z1,a⟩<;>rcases key k q h2 with⟨z2,b⟩|⟨z2,b⟩<;>have:=s.dj _ _ q a b<;>omega
  ·rcases key j q h with⟨_,a⟩|⟨_,a⟩<;>exact s.nw _ q a
 ·rw[List.eraseIdx_of_length_le (by omega)];exact⟨Fs,s⟩
theorem Sep.del(s:Sep W0 W cs)(i:Nat):Sep W0 W (cs.eraseIdx i):=by
 obtain⟨Fs,s⟩:=s;exact s.del i
open Classical in
theorem Sep.frz{R:Rf β}[FrT R]{R':Rp β}[FzT R R']{b:β}{u:V}{i:Nat}(s:Sep W0 W cs)(E:Ext W0 W)(hc:cs[i]? =some (tc R b u)):∃W',W'.H=W.H/\Ext W0 W'/\Same W.G W'.G/\Sep W0 W' (cs.eraseIdx i)/\R' W'.G b u:=by
 obtain⟨Fs,s⟩:=s;have hs:Same W.G fun q=>if Fs i q then W.H q else W.G q:=fun a o h=>by
  show(if Fs i a then _ else _)=_;rw[if_neg fun z=>by have:=(s.lv z).1;rw[h]at this;cases this];exact h
 have ho:Same (fun q=>if Fs i q then W.H q else W.G q) W.H:=fun a o h=>by
  have h:(if Fs i a then W.H a else W.G a)=some o:=h;split at h;·exact h
  ·exact W.ok _ _ h
 let W':Wd:=⟨_,W.H,ho⟩
 refine⟨W',rfl,⟨E.g.trans hs,E.h,fun q hq=>?_⟩,hs,?_,FzT.fz (R:=R) (s.el i _ hc) hs fun q hq=>if_pos hq⟩
 ·show(if Fs i q then _ else _)=_;rw[if_neg fun z=>hq<|s.nw i q z];exact E.k q hq
 ·have s2:SepF W0 W' (fun k=>if k=i then(fun _=>False)else Fs k) (cs.set i zo):=by
   have key:∀k q,(if k=i then(fun _=>False)else Fs k) q->k≠i/\Fs k q:=fun k q h=>by
    by_cases z:k=i;·simp[if_pos z]at h
    ·exact⟨z,by simpa [if_neg z] using h⟩
   refine⟨fun k c h=>?_,fun k q h=>?_,fun k l q h1 h2=>s.dj k l q (key k q h1).2 (key l q h2).2,fun k q h=>s.nw k q (key k q h).2⟩
   ·rw[FA]at h;by_cases z:i=k
    ·subst z;rw[if_pos rfl]at h;split at h
     ·cases h;simp only[if_true];exact fun _ z=>z
     ·cases h
    ·rw[if_neg z]at h;simp only[if_neg (Ec z)];refine @FrT.fr _ _ c.i _ _ _ _ _ (s.el k c h) hs fun q hq=>⟨rfl,?_⟩
     show(if Fs i q then _ else _)=_;rw[if_neg fun y=>z<|s.dj i k q y hq]
   ·rw[F5];exact s.rng k q (key k q h).2
  have:=s2.del i;rw[G6]at this;exact this
end
section
variable{Er:Nat->Prop}{α β γ δ ε ζ:Type}{K:CL}{W W' W0 W1 W2:Wd}{F F' F1:FS}{cs:List TC}{σ:St}{t ta tb te ti tp t1 t2 t3 t4 t5:TE}{D:Ends}{i k:Nat}{r:TS}
def vw(R:Rf α):Rw α:=fun W a v=>∃F,R W F a v
instance zkeep49{R:Rf α}[FrT R]:MonoW (vw R):=⟨fun e⟨F,t⟩=>⟨F,FrT.ext t e⟩⟩
theorem Sep.vw{R:Rf α}[FrT R]{a:α}{v:V}(s:Sep W0 W cs)(hc:cs[k]? =some (tc R a v)):vw R W a v:=by
 obtain⟨Fs,s⟩:=s;exact⟨Fs k,s.el k _ hc⟩
theorem fh{R:Rf α}[FrT R]{a:α}{v:V}(s:Sep W0 W cs)(hc:cs[k]? =some (tc R a v):=by rfl)(h:σ[i]? =some (some v):=by rfl):EV Er (ba i) σ W (vw R) (.ok a):=aS (s.vw hc) h
theorem yG{xs:List α}{j:Int}{a:α}(h:rF xs j=some a):∃l,Mi.ixN xs.length j=some l/\xs[l]? =some a:=by
 unfold rF at h;cases z:Mi.ixN xs.length j with
 |none=>rw[z]at h;cases h
 |some l=>rw[z]at h;exact⟨l,rfl,h⟩
theorem TL.ix{R:Rf α}{Fs:Nat->FS}{xs:List α}{vs:List V}(t:TL R W Fs xs vs){j:Int}{l:Nat}{a:α}(h1:Mi.ixN xs.length j=some l)(h2:xs[l]? =some a):∃x,vs[l]? =some x/\L2.atI vs j=some x/\R W (Fs l) a x:=by
 have hl:l<vs.length:=by rw[t.len];exact(CP.mp h2).1
 refine⟨vs[l],by simp[hl],?_,t.el l a _ h2 (by simp[hl])⟩;show(L2.ixN vs.length j).bind _=_;rw[t.len,show L2.ixN xs.length j=Mi.ixN xs.length j from rfl,h1];simp[hl]
theorem wm{R:Rf α}[FrT R]{ma:Res (List α)}{mb:Res Int}(ha:EV Er ta σ W (vw<|oL R) ma)(hb:EV Er tb σ W (sh isI) mb):EV Er (dh (cG K) ta tb) σ W (vw R) (ma.bind fun a=>mb.bind fun b=>iW a b):=
 nP ha hb fun W a b x y Q hx hy k=>by
  cases hy;obtain⟨F,p,vs,Fs,rfl,g,h,t,np,hF⟩:=hx;obtain⟨c,h4,h5⟩:=eJ k;obtain⟨l,h6,h7⟩:=yG h4;obtain⟨z,h8,h9,h10⟩:=t.ix h6 h7;exact⟨p,_,b,z,rfl,rfl,F6 h,h9,h5 _ W (.refl _) ⟨_,h10⟩⟩
theorem lV{R:Rp α}{m:Res α}(h:EV Er t σ W (vw<|fz R) m):EV Er t σ W (sh R) m:=h.imp fun _ _ _⟨_,r⟩=>r.2
theorem TL.lr{R:Rp α}{Fs:Nat->FS}{xs:List α}{vs:List V}(t:TL (fz R) W Fs xs vs):LR R W.G xs vs:=⟨t.len,fun i v m a b=>(t.el i m v b a).2⟩
theorem TL.of{R:Rp α}{xs:List α}{vs:List V}(t:LR R W.G xs vs):TL (fz R) W (fun _ _=>False) xs vs:=⟨t.1,fun i x u a b=>⟨fun _ z=>z,t.2 i u x b a⟩,fun _ _ z=>z.elim,fun _ _ _ z=>z.elim⟩
theorem jj{R:Rp α}{m:Res (List α)}(h:EV Er t σ W (vw<|oL<|fz R) m):EV Er t σ W (pk R) m:=h.imp fun _ _ _⟨_,p,vs,Fs,e,g,h,t,_⟩=>⟨p,vs,e,h,t.lr⟩
def tP(Er:Nat->Prop)(t:TE)(σ:St)(W:Wd)(R:Rf α)(m:Res α):Prop:=∀W1,Ext W W1->∀Q:VK,m.OkE Er (fun a=>∀v W2 F,Ext W1 W2->(∀q,F q->W1.H q=none)->R W2 F a v->Q v W2.H)->t σ W1.H Q
theorem oL.ofOw{R:Rp α}{p:Addr}{xs:List α}(o:Ow R W p xs):oL (fz R) W (· =p) xs (.ref p):=by
 obtain⟨vs,h1,h2⟩:=o.h;exact⟨p,vs,fun _ _=>False,rfl,o.g,h1,.of h2,fun _ z=>z,fun q=>⟨.inl,fun z=>z.elim id fun⟨_,z⟩=>z.elim⟩⟩
theorem EVo.tr{R:Rp α}{m:Res (List α)}(h:EVo Er t σ W R m):tP Er t σ W (oL<|fz R) m:=fun W1 e1 Q k=>h W1 e1 Q (k.imp fun xs kx p W2 e2 hp o=>kx _ W2 _ e2 (fun q hq=>by rw[hq];exact hp)<|oL.ofOw o)
def Lens(W0:Wd)(C:α->List TC)(R:Rf β):Rw (β×(β->α)):=fun W bp u=>∃F,R W F bp.1 u/\(∀q,F q->W0.H q=none)/\∀W' F' b',MuF F W W'->(∀q,F' q->F q\/W.H q=none)->R W' F' b' u->Sep W0 W' (C<|bp.2 b')
instance zkeep50{C:α->List TC}{R:Rf β}[FrT R]:MonoW (Lens W0 C R):=⟨fun e⟨F,t,n,p⟩=>⟨F,FrT.ext t e,n,fun W' F' b' m hF t'=>p W' F' b' (e.muF.trans m fun q hq=>.inl hq) (fun q hq=>(hF q hq).imp id (none_of e.h)) t'⟩⟩
variable{C:α->List TC}
theorem o8{R:Rf α}[FrT R]{a:α}{v:V}(s:Sep W0 W (C a))(E:Ext W0 W)(hc:(C a)[k]? =some (tc R a v):=by rfl)(hs:∀b,C b=(C a).set k (tc R b v):=by intro _;rfl)(h:σ[i]? =some (some v):=by rfl):EV Er (ba i) σ W (Lens W0 C R) (.ok (a,fun b=>b)):=by
 obtain⟨Fs,s⟩:=s;exact aS (R:=Lens W0 C R) ⟨Fs k,s.el k _ hc,s.nw k,fun W' F' b' m hF t=>by rw[hs];exact s.put E m hF t (CP.mp hc).1⟩ h
theorem MuF.up(m:MuF F W W')(h:∀q,F q->F' q):MuF F' W W':=⟨m.g,fun q hq hn=>m.h q (fun z=>hq<|h q z) hn,m.k,m.n⟩
theorem Lens.lf{R:Rp β}[Mono R]{bp:List β×(List β->α)}{u:V}(E:Ext W0 W)(l:Lens W0 C (oL<|fz R) W bp u):∃p vs,u=.ref p/\W.H p=some (.lst vs)/\LR R W.G bp.1 vs/\∃hg:W.G p=none,∀vs' xs',LR R W.G xs' vs'->Ext W0 (W.mut p (.lst vs') hg)/\Sep W0 (W.mut p (.lst vs') hg) (C<|bp.2 xs'):=by
 obtain⟨F,⟨p,vs,Fs,rfl,g,h,t,np,hF⟩,n,pb⟩:=l;have hp:F p:=(hF p).mpr (.inl rfl);refine⟨p,vs,rfl,h,t.lr,g,fun vs' xs' lr=>⟨E.mut (n p hp) g,pb _ (· =p) xs' (MuF.of hp g) (fun q hq=>.inl (by rw[hq];exact hp)) ⟨p,vs',fun _ _=>False,rfl,g,ak,.of lr,fun _ z=>z,fun q=>⟨.inl,fun z=>z.elim id fun⟨_,z⟩=>z.elim⟩⟩⟩⟩
theorem wo{R:Rp β}[Mono R]{mp:Res (List β×(List β->α))}{m:Res β}(E:Ext W0 W)(hp:EV Er tp σ W (Lens W0 C<|oL<|fz R) mp)(h:EV Er te σ W (sh R) m)(q:(mp.bind fun p=>m.bind fun x=>(hJ p.1 x).bind fun b=>.ok<|p.2 b).OkE Er fun a'=>∀W',Same W.G W'.G->Ext W0 W'->Sep W0 W' (C a')->D.nx σ W'.H):
  aV (eG K "list" ay tp<|ag te aH) D σ W.H:=hp W (.refl _) _ ((CH q).imp fun p kp u W1 e1 l=>by
 obtain⟨p0,vs0,rfl,hH0,_,_⟩:=Lens.lf (E.trans e1) l;refine⟨.inl ⟨rfl,vs0,F6 hH0⟩,h W1 e1 _ ((CH kp).imp fun x kx v W2 e2 hv=>?_)⟩;obtain⟨p1,vs,ep,hH,lr,hg,back⟩:=Lens.lf ((E.trans e1).trans e2) (DB e2 l);cases ep;obtain⟨h3,h4⟩:=aM (CH kx);obtain⟨b1,b2⟩:=back (vs++[v]) (p.1++[x]) (lr.snoc hv);exact⟨p0,vs,v,rfl,rfl,hH,by rw[lr.1,El];unfold Mi.cap at h3;omega,h4 (W2.mut p0 (.lst (vs++[v])) hg) (e1.trans e2).g b1 b2⟩)
theorem wq{R:Rp β}[Mono R]{mp:Res (List β×(List β->α))}(E:Ext W0 W)(hp:EV Er tp σ W (Lens W0 C<|oL<|fz R) mp)(q:(mp.bind fun p=>.ok<|p.2 []).OkE Er fun a'=>∀W',Same W.G W'.G->Ext W0 W'->Sep W0 W' (C a')->D.nx σ W'.H):
  aV (cC K "list" aQ tp) D σ W.H:=hp W (.refl _) _ ((CH q).imp fun p kp u W1 e1 l=>by
 obtain⟨p0,vs,rfl,hH,lr,hg,back⟩:=Lens.lf (E.trans e1) l;obtain⟨b1,b2⟩:=back [] [] .nil;exact⟨.inl ⟨rfl,vs,F6 hH⟩,p0,vs,rfl,rfl,hH,kp (W1.mut p0 (.lst []) hg) e1.g b1 b2⟩)
theorem qS{R:Rp β}[Mono R]{mp:Res (List β×(List β->α))}(E:Ext W0 W)(hp:EV Er tp σ W (Lens W0 C<|oL<|fz R) mp)(q:(mp.bind fun p=>.ok<|p.2 []).OkE Er fun a'=>∀W',Same W.G W'.G->Ext W0 W'->Sep W0 W' (C a')->r D σ W'.H):
  dC (aV<|cC K "list" aQ tp) r D σ W.H:=wq (D:={D with nx:=r D}) E hp q
theorem wt{R:Rf β}[FrT R]{m:Res β}{σ':V->St}(S:Sep W0 W cs)(E:Ext W0 W)(h:tP Er te σ W R m)(q:m.OkE Er fun a=>∀v W',Ext W W'->Sep W0 W' (cs++[tc R a v])->D.nx (σ' v) W'.H)(hσ:∀v,σ.set i (some v)=σ' v:=by intro _;rfl):bS te (aF i) D σ W.H:=h W (.refl _) _ (q.imp fun a k v W' F e hF t=>by have:=k v W' e<|S.add E e hF t;rw[<-hσ]at this;exact this)
theorem fw{R:Rf β}[FrT R]{m:Res β}{σ':V->St}(S:Sep W0 W cs)(E:Ext W0 W)(h:tP Er te σ W R m)(q:m.OkE Er fun a=>∀v W',Ext W W'->Sep W0 W' (cs++[tc R a v])->r D (σ' v) W'.H)(hσ:∀v,σ.set i (some v)=σ' v:=by intro _;rfl):dC (bS te<|aF i) r D σ W.H:=wt (D:={D with nx:=r D}) S E h q hσ
end
section
variable{Er:Nat->Prop}{α β γ:Type}{K:CL}{W W' W0 W1 W2:Wd}{F F' F1:FS}{cs:List TC}{σ:St}{t ta tb te ti tp:TE}{D:Ends}{i k:Nat}{r:TS}
theorem Sep.sel(s:Sep W0 W cs)(ix:List Nat)(nd:ix.Nodup:=by decide):Sep W0 W (ix.map fun i=>cs.getD i zo):=by
 obtain⟨Fs,s⟩:=s;have key:∀(j:Nat)(q:Addr),(match ix[j]? with|some i=>Fs i|none=>fun _=>False) q->∃i,ix[j]? =some i/\Fs i q:=fun j q h=>by
  cases z:ix[j]? with
  |none=>rw[z]at h;exact h.elim
  |some i=>rw[z]at h;exact⟨i,rfl,h⟩
 refine⟨fun(j:Nat)=>match ix[j]? with|some i=>Fs i|none=>fun _=>False,fun j c h=>?_,fun j q h=>?_,fun j l q h1 h2=>?_,fun j q h=>?_⟩
 ·rw[DQ]at h;cases z:ix[j]? with
  |none=>rw[z]at h;cases h
  |some i=>
   rw[z]at h;cases h;simp only[z];show(cs.getD i zo).R W (Fs i) (cs.getD i zo).a (cs.getD i zo).v;by_cases hi:i<cs.length
   ·rw[G7,Dj hi,Ga];exact s.el i _ (by simp[hi])
   ·rw[G7,DA.mpr (by omega),HZ];exact fun q hq=>hi<|s.rng i q hq
 ·obtain⟨i,h1,_⟩:=key j q h;rw[Dq];exact(CP.mp h1).1
 ·obtain⟨a,h3,h4⟩:=key j q h1;obtain⟨b,h5,h6⟩:=key l q h2;have:=s.dj a b q h4 h6;subst this;exact(List.getElem?_inj (CP.mp h3).1 nd).mp (h3.trans h5.symm)
 ·obtain⟨i,_,h2⟩:=key j q h;exact s.nw i q h2
theorem gj{R:Rf α}:tP Er (cJ aH) σ W (oL R) (.ok []):=fun W1 e1 Q k=>⟨by decide,fun p hp=>k _ (W1.mut p (.lst [])<|W1.gnone hp) (· =p) (.own _ hp) (fun q hq=>by rw[hq];exact hp) ⟨p,[],fun _ _=>False,rfl,W1.gnone hp,ak,⟨rfl,fun i x u h=>by simp at h,fun _ _ z=>z.elim,fun _ _ _ z=>z.elim⟩,fun _ z=>z,fun q=>⟨.inl,fun z=>z.elim id fun⟨_,z⟩=>z.elim⟩⟩⟩
open Classical in
theorem BB{R:Rf β}[FrT R]{R':Rp β}[FzT R R']{b:β}{u:V}(t:R W F b u):∃Wf,Wf.H=W.H/\Same W.G Wf.G/\R' Wf.G b u/\(∀q,¬F q->Wf.G q=W.G q)/\∀W2,Ext Wf W2->∃W3,W3.H=W2.H/\Ext W W3:=by
 have lv:=fun q=>FrT.lv t q;have hs:Same W.G fun q=>if F q then W.H q else W.G q:=fun a o h=>by
  show(if F a then _ else _)=_;rw[if_neg fun z=>by have:=(lv a z).1;rw[h]at this;cases this];exact h
 have ho:Same (fun q=>if F q then W.H q else W.G q) W.H:=fun a o h=>by
  have h:(if F a then W.H a else W.G a)=some o:=h;split at h;·exact h
  ·exact W.ok _ _ h
 let Wf:Wd:=⟨_,W.H,ho⟩
 refine⟨Wf,rfl,hs,FzT.fz t hs fun q hq=>if_pos hq,fun q hq=>if_neg hq,fun W2 e=>⟨⟨fun q=>if F q then none else W2.G q,W2.H,fun a o h=>?_⟩,rfl,fun a o h=>?_,e.h,fun q hq=>?_⟩⟩
 ·have h:(if F a then none else W2.G a)=some o:=h;split at h;·cases h
  ·exact W2.ok _ _ h
 ·show(if F a then none else W2.G a)=_;rw[if_neg fun z=>by have:=(lv a z).1;rw[h]at this;cases this];exact e.g _ _<|hs _ _ h
 ·show(if F q then none else W2.G q)=_;by_cases z:F q;·rw[if_pos z,(lv q z).1]
  ·rw[if_neg z,e.k q hq];exact if_neg z
theorem Sep.lend1{R:Rf β}[FrT R]{R':Rp β}[FzT R R']{b:β}{u:V}(s:Sep W0 W cs)(E:Ext W0 W)(hc:cs[k]? =some (tc R b u)):∃Wf,Wf.H=W.H/\Same W.G Wf.G/\Ext W0 Wf/\Sep W0 Wf (cs.eraseIdx k)/\R' Wf.G b u/\∀W2,Ext Wf W2->∃W3,W3.H=W2.H/\Ext W W3:=by
 obtain⟨Fs,s⟩:=s;obtain⟨Wf,h1,h2,h3,h4,h5⟩:=BB (R:=R)<|s.el k _ hc;refine⟨Wf,h1,h2,⟨E.g.trans h2,by rw[h1];exact E.h,fun q hq=>by rw[h4 q fun z=>hq<|s.nw k q z];exact E.k q hq⟩,?_,h3,h5⟩;have key:∀j q,(if j=k then(fun _=>False)else Fs j) q->j≠k/\Fs j q:=fun j q h=>by
  by_cases z:j=k;·simp[if_pos z]at h
  ·exact⟨z,by simpa [if_neg z] using h⟩
 have s2:SepF W0 Wf (fun j=>if j=k then(fun _=>False)else Fs j) (cs.set k zo):=by
  refine⟨fun j c h=>?_,fun j q h=>?_,fun j l q h1 h2=>s.dj j l q (key j q h1).2 (key l q h2).2,fun j q h=>s.nw j q (key j q h).2⟩
  ·rw[FA]at h;by_cases z:k=j
   ·subst z;rw[if_pos rfl]at h;split at h
    ·cases h;simp only[if_true];exact fun _ z=>z
    ·cases h
   ·rw[if_neg z]at h;simp only[if_neg (Ec z)];exact @FrT.fr _ _ c.i _ _ _ _ _ (s.el j c h) h2 fun q hq=>⟨by rw[h1],h4 q fun y=>z<|s.dj k j q y hq⟩
  ·rw[F5];exact s.rng j q (key j q h).2
 have:=s2.del k;rw[G6]at this;exact this
theorem fx{R:Rf β}[FrT R]{R':Rp β}[FzT R R']{b:β}{u:V}{m:Res Bool}{t:TT}(k:Nat)(s:Sep W0 W cs)(E:Ext W0 W)(hc:cs[k]? =some (tc R b u))(h:∀Wf,Same W.G Wf.G->Ext W0 Wf->Sep W0 Wf (cs.eraseIdx k)->R' Wf.G b u->TV Er t σ Wf m):TV Er t σ W m:=fun W1 e1 Q kq=>by
 obtain⟨Wf,h1,h2,h3,h4,h5,h6⟩:=Sep.lend1 (R:=R) (s.ext e1) (E.trans e1) hc;rw[<-h1];refine h Wf (e1.g.trans h2) h3 h4 h5 Wf (.refl _) Q<|kq.imp fun a ka W2 e2=>?_;obtain⟨W3,h7,h8⟩:=h6 W2 e2;rw[<-h7];exact ka W3 h8
theorem yH{P:α->Prop}{m:Res α}(h:m.OkE Er P):(m.bind fun b=>.ok b).OkE Er P:=by cases m<;>exact h
theorem pL{C:List β->List TC}{R:Rp β}[Mono R]{xs:List β}{v:V}{m:Res β}(S:Sep W0 W (C xs))(E:Ext W0 W)(h:EV Er te σ W (sh R) m)(q:(m.bind fun x=>hJ xs x).OkE Er fun a'=>∀W',Same W.G W'.G->Ext W0 W'->Sep W0 W' (C a')->D.nx σ W'.H)(hc:(C xs)[k]? =some (tc (oL<|fz R) xs v):=by rfl)(hs:∀b,C b=(C xs).set k (tc (oL<|fz R) b v):=by intro _;rfl)(hi:σ[i]? =some (some v):=by rfl):
  aV (eG K "list" ay (ba i)<|ag te aH) D σ W.H:=wo E (o8 S E hc hs hi) h (by
 show(m.bind fun x=>(hJ xs x).bind fun b=>.ok b).OkE Er _;cases m with
 |ok x=>exact yH q
 |err j=>exact q
 |stuck=>exact q)
theorem qT{C:List β->List TC}{R:Rp β}[Mono R]{xs:List β}{v:V}{m:Res β}(S:Sep W0 W (C xs))(E:Ext W0 W)(h:EV Er te σ W (sh R) m)(q:(m.bind fun x=>hJ xs x).OkE Er fun a'=>∀W',Same W.G W'.G->Ext W0 W'->Sep W0 W' (C a')->r D σ W'.H)(hc:(C xs)[k]? =some (tc (oL<|fz R) xs v):=by rfl)(hs:∀b,C b=(C xs).set k (tc (oL<|fz R) b v):=by intro _;rfl)(hi:σ[i]? =some (some v):=by rfl):
  dC (aV<|eG K "list" ay (ba i)<|ag te aH) r D σ W.H:=pL (k:=k) (D:={D with nx:=r D}) S E h q hc hs hi
end
section
variable{α β γ ρ τ:Type}
abbrev Ra(α:Type):=Hp->α->List V->Prop
def aN:Ra Unit:=fun _ _ us=>us=[]
def aC(R:Rp α)(RA:Ra β):Ra (α×β):=fun G a us=>∃v r,us=v::r/\R G a.1 v/\RA G a.2 r
class MonoA(RA:Ra α):Prop where
 mono:∀{G G':Hp}{a:α}{us:List V},Same G G'->RA G a us->RA G' a us
instance zkeep61{R:Rp α}{RA:Ra β}[Mono R][MonoA RA]:MonoA (aC R RA):=⟨fun e⟨v,r,h1,h2,h3⟩=>⟨v,r,h1,CJ e h2,MonoA.mono e h3⟩⟩
open Classical in
noncomputable def tQ(H:Hp)(F:FS):Hp:=fun q=>if F q then none else H q
theorem wu{H:Hp}{F:FS}{q:Addr}(h:F q):tQ H F q=none:=by unfold tQ;rw[if_pos h]
theorem mU{H:Hp}{F:FS}{q:Addr}(h:¬F q):tQ H F q=H q:=by unfold tQ;rw[if_neg h]
noncomputable def Wd.sub(W:Wd)(F:FS)(h:∀q,F q->W.G q=none):Wd:=⟨W.G,tQ W.H F,fun a o e=>by
 rw[mU (fun z=>by rw[h a z]at e;cases e)];exact W.ok _ _ e⟩
theorem Wd.sub_in{W:Wd}{F:FS}{h:∀q,F q->W.G q=none}{q:Addr}(hq:F q):(W.sub F h).H q=none:=wu hq
theorem Wd.sub_out{W:Wd}{F:FS}{h:∀q,F q->W.G q=none}{q:Addr}(hq:¬F q):(W.sub F h).H q=W.H q:=mU hq
theorem Wd.sub_ext{W:Wd}{F:FS}{h:∀q,F q->W.G q=none}:Ext (W.sub F h) W:=⟨.refl _,fun a u z=>by
 by_cases y:F a;·rw[Wd.sub_in y]at z;cases z
 ·rw[Wd.sub_out y]at z;exact z,fun _ _=>rfl⟩
variable{W0 W:Wd}{cs:List TC}
theorem Sep.call{R:Rf β}[FrT R]{b:β}{v:V}{k:Nat}(s:Sep W0 W cs)(E:Ext W0 W)(hc:cs[k]? =some (tc R b v)):
  ∃W1 F,Ext W1 W/\R W F b v/\(∀q,F q->W1.H q=none)/\∀W' F' b',Ext W1 W'->(∀q,F' q->W1.H q=none)->R W' F' b' v->Ext W0 W'/\Sep W0 W' (cs.set k<|tc R b' v):=by
 obtain⟨Fs,s⟩:=s;have t:R W (Fs k) b v:=s.el k _ hc;have lv:=fun q hq=>FrT.lv t q hq;have hi:k<cs.length:=(CP.mp hc).1;have nF:∀p,W0.H p≠none->¬Fs k p:=fun p hp z=>hp<|s.nw k p z;have E1:Ext W0 (W.sub (Fs k) fun q hq=>(lv q hq).1):=⟨E.g,fun a u z=>by rw[Wd.sub_out<|nF a<|nn_of z];exact E.h _ _ z,fun p hp=>E.k p hp⟩
 refine⟨W.sub (Fs k) fun q hq=>(lv q hq).1,Fs k,Wd.sub_ext,t,fun q hq=>Wd.sub_in hq,fun W' F' b' e hF' t'=>⟨E1.trans e,?_⟩⟩;have out:∀q,F' q->Fs k q\/W.H q=none:=fun q hq=>by
  by_cases z:Fs k q;·exact .inl z
  ·exact .inr (by rw[<-Wd.sub_out (h:=fun q hq=>(lv q hq).1) z];exact hF' q hq)
 refine⟨fun j=>if j=k then F' else Fs j,fun j c h=>?_,fun j q h=>?_,fun j l q h1 h2=>?_,fun j q h=>?_⟩
 ·rw[FA]at h;by_cases z:k=j
  ·subst z;rw[if_pos rfl,if_pos hi]at h;cases h;simp only[if_true];exact t'
  ·rw[if_neg z]at h;simp only[if_neg (Ec z)];refine @FrT.fr _ _ c.i _ _ _ _ _ (s.el j c h) e.g fun q hq=>?_;have nk:¬Fs k q:=fun y=>z<|s.dj k j q y hq;have hn:(W.sub (Fs k) fun q hq=>(lv q hq).1).H q≠none:=by rw[Wd.sub_out nk];exact(s.lv hq).2
   exact⟨by rw[e.keepH hn,Wd.sub_out nk],e.k q hn⟩
 ·rw[F5];by_cases z:j=k;·rw[z];exact hi
  ·simp only[if_neg z]at h;exact s.rng j q h
 ·have key:∀j q,(if j=k then F' else Fs j) q->(j=k/\F' q)\/(j≠k/\Fs j q):=fun j q h=>by
   by_cases z:j=k;·exact .inl ⟨z,by simpa [if_pos z] using h⟩
   ·exact .inr ⟨z,by simpa [if_neg z] using h⟩
  rcases key j q h1 with⟨z1,a⟩|⟨z1,a⟩<;>rcases key l q h2 with⟨z2,b⟩|⟨z2,b⟩
  ·rw[z1,z2]
  ·exact((out q a).elim (fun y=>z2<|s.dj l k q b y) fun y=>absurd y (s.lv b).2).elim
  ·exact((out q b).elim (fun y=>z1<|s.dj j k q a y) fun y=>absurd y (s.lv a).2).elim
  ·exact s.dj j l q a b
 ·by_cases z:j=k
  ·simp only[if_pos z]at h;exact(out q h).elim (s.nw k q) fun y=>none_of E.h y
  ·simp only[if_neg z]at h;exact s.nw j q h
end
structure CalM(P:Dg)(w:Dr)(K:CL)(mg:Str->Option CN)(base:Heap)(CX:CXT)(C:Addr)(m:Str)(ps:List Str)(k:Nat)(sp:Sp):Prop where
 ex:∃(f:Addr)(fd:Df),FnOk P w K mg base CX k f fd ps sp/\Meth K C m f/\Cls K C/\Binds K fd ps []
section
variable{X:Cx}{CX:CXT}{C:Addr}{m:Str}{ps:List Str}{k:Nat}{sp:Sp}{E:XK}{pos apos:Pos}{o e:Expr}{es:List Expr}{ta:TE}{t:TA}
theorem jk{pl:Sem Bool}(h:CalM X.prog X.w X.K X.mg X.base CX0 C m ps k sp)(hr:Room k X.A)(he:PE X o ta)(ha:PA X (e::es) t)
  (hst:starEach (e::es) X.env=(false,eval e X.env)::starEach es X.env:=by rfl) (hpl:(backTo pos<|starEach es X.env).any (·.1)=false:=by rfl)
  (ht:eval (.Call (.Attribute o m apos) (e::es) [] pos) X.env=(do
   let ov <-eval o X.env
   standAt apos.atName
   let (f,first) <-holding [ov] (getMethod ov m pl)
   callWith pos f first (backTo pos (starEach (e::es) X.env)) (backToKw pos (keywordEach [] X.env))):=by rfl):
  PE X (.Call (.Attribute o m apos) (e::es) [] pos) (fL C m sp [] E0 ta t):=by
 obtain⟨f,fd,F,M,c,b⟩:=h.ex;exact oS he c M F hr b .nil oW ha hst hpl ht
theorem en{pl:Sem Bool}(h:CalM X.prog X.w X.K X.mg X.base CX0 C m ps k sp)(hr:Room k X.A)(he:PE X o ta)
  (ht:eval (.Call (.Attribute o m apos) [] [] pos) X.env=(do
   let ov <-eval o X.env
   standAt apos.atName
   let (f,first) <-holding [ov] (getMethod ov m pl)
   callWith pos f first (backTo pos (starEach [] X.env)) (backToKw pos (keywordEach [] X.env))):=by rfl):
  PE X (.Call (.Attribute o m apos) [] [] pos) (fL C m sp [] E0 ta aH):=by
 obtain⟨f,fd,F,M,c,b⟩:=h.ex;exact rW he c M F hr b .nil oW ht
theorem tR{pl:Sem Bool}(h:CalM X.prog X.w X.K X.mg X.base (CXR X.prog X.w) C m ps k sp)(hx:eO (CXR X.prog X.w) X E)(hr:Room k X.A)(he:PE X o ta)(ha:PA X (e::es) t)
  (hst:starEach (e::es) X.env=(false,eval e X.env)::starEach es X.env:=by rfl) (hpl:(backTo pos<|starEach es X.env).any (·.1)=false:=by rfl)
  (ht:eval (.Call (.Attribute o m apos) (e::es) [] pos) X.env=(do
   let ov <-eval o X.env
   standAt apos.atName
   let (f,first) <-holding [ov] (getMethod ov m pl)
   callWith pos f first (backTo pos (starEach (e::es) X.env)) (backToKw pos (keywordEach [] X.env))):=by rfl):
  PE X (.Call (.Attribute o m apos) (e::es) [] pos) (fL C m sp [] E ta t):=by
 obtain⟨f,fd,F,M,c,b⟩:=h.ex;exact oS he c M F hr b .nil hx ha hst hpl ht
end
section
variable{Er:Nat->Prop}{α β γ ρ τ:Type}{W W0 W':Wd}{σ:St}{K:CL}{cs:List TC}
theorem Sep.one{R:Rf τ}[FrT R]{F:FS}{x:τ}{v:V}(t:R W F x v)(h:∀q,F q->W0.H q=none):Sep W0 W [tc R x v]:=by
 have key:∀(i:Nat)q,(if i=0 then F else fun _=>False) q->i=0/\F q:=fun i q h=>by
  by_cases z:i=0;·exact⟨z,by simpa [if_pos z] using h⟩
  ·simp[if_neg z]at h
 refine⟨fun i=>if i=0 then F else fun _=>False,fun i c hc=>?_,fun i q hq=>?_,fun i j q h1 h2=>?_,fun i q hq=>h q (key i q hq).2⟩
 ·match i,hc with
  |0,hc=>cases hc;exact t
 ·rw[(key i q hq).1];exact Nat.one_pos
 ·rw[(key i q h1).1,(key j q h2).1]
def qU(Er:Nat->Prop)(t:TA)(σ:St)(W:Wd)(RA:Ra α)(m:Res α):Prop:=∀W1,Ext W W1->∀Q:List V->Hp->Prop,m.OkE Er (fun a=>∀us W2,Ext W1 W2->RA W2.G a us->Q us W2.H)->t σ W1.H Q
theorem lW:qU Er aH σ W aN (.ok ()):=fun W1 _ Q k=>k [] W1 (.refl _) rfl
theorem cF{R:Rp α}{RA:Ra β}[Mono R]{te:TE}{t:TA}{m:Res α}{ma:Res β}(h:EV Er te σ W (sh R) m)(ht:qU Er t σ W RA ma):qU Er (ag te t) σ W (aC R RA) (m.bind fun a=>ma.bind fun b=>.ok (a,b)):=fun W1 e1 Q k=>
 h W1 e1 _ ((CH k).imp fun a ka v W2 e2 hv=>ht W2 (e1.trans e2) _<|(CH ka).imp fun b kb us W3 e3 hu=>kb (v::us) W3 (e2.trans e3) ⟨v,us,rfl,CJ e3.g hv,hu⟩)
class HasM(R:Rf τ)(C:outParam Addr)(m:Str):Prop where
 at_:∀{W:Wd}{F:FS}{x:τ}{v:V},R W F x v->∃a dx fs,v=.ref a/\W.H a=some (.ins C dx fs)/\fs.lookup m=none
end
section
variable{Er:Nat->Prop}{α ρ τ:Type}{W W0 Wi:Wd}{σ:St}{cs:List TC}{D:Ends}{r:TS}{R:Rf τ}[FrT R]{RR:Rp ρ}{x:τ}{v:V}{k i j:Nat}{Q:VK}
abbrev EndO(W0 Wi:Wd)(R:Rf τ)(RR:Rp ρ)(v:V)(Q:VK):τ×ρ->Prop:=fun r=>∀u W' F',Ext W0 W'->Same Wi.G W'.G->(∀q,F' q->W0.H q=none)->R W' F' r.1 v->RR W'.G r.2 u->Q u W'.H
theorem EndO.of{r:τ×ρ}{u:V}(S:Sep W0 W cs)(hc:cs[k]? =some (tc R r.1 v))(E:Ext W0 W)(hS:Same Wi.G W.G)(hr:RR W.G r.2 u)(q:EndO W0 Wi R RR v Q r):Q u W.H:=by
 obtain⟨Fs,s⟩:=S;exact q u W (Fs k) E hS (s.nw k) (s.el k _ hc) hr
variable{RA:Ra α}{C:Addr}{m:Str}{t:TA}{ma:Res α}{mf:τ->α->Res (τ×ρ)}{csx:List Addr}{E:XK}
end
structure CalI(P:Dg)(w:Dr)(K:CL)(mg:Str->Option CN)(base:Heap)(x:Str)(C:Addr)(ps:List Str)(k:Nat)(sp:Sp):Prop where
 ex:∃(f:Addr)(fd:Df),Mk K C f/\FnOk P w K mg base CX0 k f fd ps sp/\mg x=some (.ref C)/\Binds K fd ps []
theorem lX{X:Cx}{x:Str}{C:Addr}{ps:List Str}{k:Nat}{sp:Sp}{p pos:Pos}{e:Expr}{es:List Expr}{t:TA}(U:CalI X.prog X.w X.K X.mg X.base x C ps k sp)(hr:Room (k+1) X.A)(hg:Gl X x)(ha:PA X (e::es) t)
  (hdb:(x==("__debug__" :Str))=false:=by decide) (he:starEach (e::es) X.env=(false,eval e X.env)::starEach es X.env:=by rfl) (hpl:(backTo pos<|starEach es X.env).any (·.1)=false:=by rfl):
  PE X (.Call (.Name x p) (e::es) [] pos) (oQ C sp [] E0 t):=by
 obtain⟨f,fd,M,F,hm,hb⟩:=U.ex;exact vD M F hr hg hm hb .nil oW ha hdb he hpl
section
variable{Er:Nat->Prop}{α ρ τ:Type}{W W0 Wi:Wd}{σ:St}{cs:List TC}{K:CL}
def zp(R:Rf τ)(RA:Ra α)(RR:Rp ρ)(m:τ->α->Res (τ×ρ)):Sp:=fun vs H Q _=>∃(W0 W:Wd)(F:FS)(x:τ)(v:V)(a:α)(us:List V),W.H=H/\vs=v::us/\Ext W0 W/\(∀q,F q->W0.H q=none)/\R W F x v/\RA W.G a us/\∃Er:Nat->Prop,(m x a).OkE Er fun r=>∀u W' F',Ext W0 W'->Same W.G W'.G->(∀q,F' q->W0.H q=none)->R W' F' r.1 v->RR W'.G r.2 u->Q u W'.H
end
end Wb
open Wb.FrT renaming fr->Lr,lv->Mh
open Wb.MuF renaming of->LZ
open Wb.Sep renaming one->Ls,frz->M8
open Wb.Wd renaming sub_out->Jv
namespace Wb
open PySem PySem.W PySem.Calls PyProof.Rows
def mV(d:Addr)(n ep i:Nat):Obj:={cls:=.type "dict_keyiterator",dict:=none,data:=.fields #[.ref d,.int i 0,.int n 0,.int ep 0],slots:= #[]}
section
variable{prog:Dg}{w:Dr}{A:Dy}{E:CN->CO->Prop}{s:CO}{d it:Addr}{o:Obj}{es:Array ER}{ep:Nat}
theorem qV{Q:CN->CO->Prop}(hd:(d==sysModules)=false)(ho:s.heap.get? d=some o)(hx:o.ExactDict)(hdat:o.data=.dict es ep)(hQ:Q (.ref s.heap.objs.size) {s with heap:=s.heap.push (mV d es.size ep 0)}):wpAny (model prog w) A (pyIter<|.ref d) Q E s:=by
 have hT:s.TypeIs (.ref d) "dict":=⟨o,ho,hx.1⟩
 refine HU hT K0<|E8 K0 hT F.entry_dict_iter ?_<|F.args_dict_iter_1 _;unfold JK.«dict.__iter__»;refine CI ?_;unfold KN;refine CI<|wpAny_notOrdered_dict hT ?_;show wpAny _ _ (pure<|D6 d) _ _ s;refine CU ?_;show wpAny _ _ (IU d>>=_) _ _ s;unfold IU;rw[if_neg (by rw[hd];exact Dd)];refine CI<|CU ?_;refine CI<|HV ho hdat ?_;refine CI<|IG ho hdat ?_;refine CI<|Ep<|CU ⟨_,rfl,"dict_keyiterator",_,⟨_,CY _ rfl,rfl⟩,Eh.lookup,?_⟩;exact hQ
theorem qW{i:Nat}{Q:Option CN->CO->Prop}(hit:s.heap.get? it=some (mV d es.size ep i))(ho:s.heap.get? d=some o)(hdat:o.data=.dict es ep)(hi:i<es.size)
  (hQ:∀h',h'.get? it=some (mV d es.size ep<|i+1)->Dl it s.heap h'->Q (some es[i].key) {s with heap:=h'}):wpAny (model prog w) A (pyNext<|.ref it) Q E s:=by
 have hT:s.TypeIs (.ref it) "dict_keyiterator":=⟨_,hit,rfl⟩
 unfold pyNext;refine CI (F9 (DX (name:=CS "__next__") hT Eh
  (E8 Eh hT Hh ?_ (GZ _))))
 refine CI<|CU ?_;refine CI ?_;refine CI ?_
 first|refine CI (Fc hT<|CU ?_)|refine CI<|FE hT<|CU ?_
 refine CI<|Kw hit rfl ?_;have hown:Hr "dict_keyiterator"=false:=by decide
 simp only[hown,Ed,if_false];show wpAny _ _ (if(D6 d==DC)=true then _ else _) _ _ s;rw[if_neg (show ¬((D6 d==DC)=true)from Dd)];refine CI<|CU ?_;refine CI<|HV ho hdat ?_;rw[if_neg (by simp)];refine CI<|CU ?_;refine CI<|IG ho hdat ?_;rw[if_neg (by simp)];refine CU ?_;simp only[show ¬((i:Int)<0)from by omega,if_false,EL,HL hi];refine CI ?_
 first|refine CI (Fc hT<|CU ?_)|refine CI<|FE hT<|CU ?_
 refine CI<|IW hT ?_;show wpAny _ _ (setField (.ref it) 1 (rawInt<|(i:Int)+1)>>=_) _ _ s;refine CI (EM hit rfl (by simp) ?_);have hit':=En (E3 (·.setIfInBounds 1 (rawInt<|(i:Int)+1))) hit rfl;refine CI<|Fo ?_;refine CI (IW (s:={s with heap:=s.heap.update it (E3 (·.setIfInBounds 1 (rawInt<|(i:Int)+1)))}) ⟨_,hit',rfl⟩ ?_);show wpAny _ _ (pure es[i].key) _ _ _;exact CU<|CU ⟨_,rfl,CU<|hQ _ (hit'.trans rfl)<|Fg ..⟩
theorem tS{Q:Option CN->CO->Prop}(hh:A.handled=none)(hit:s.heap.get? it=some (mV d es.size ep es.size))(ho:s.heap.get? d=some o)(hdat:o.data=.dict es ep)
  (hQ:∀h',Fn it s.heap h'->Q none {s with heap:=h'}):wpAny (model prog w) A (pyNext<|.ref it) Q E s:=by
 have hT:s.TypeIs (.ref it) "dict_keyiterator":=⟨_,hit,rfl⟩
 unfold pyNext;refine CI (F9 (DX (name:=CS "__next__") hT Eh
  (E8 Eh hT Hh ?_ (GZ _))))
 refine CI<|CU ?_;refine CI ?_;refine CI ?_
 first|refine CI (Fc hT<|CU ?_)|refine CI<|FE hT<|CU ?_
 refine CI<|Kw hit rfl ?_;have hown:Hr "dict_keyiterator"=false:=by decide
 simp only[hown,Ed,if_false];show wpAny _ _ (if(D6 d==DC)=true then _ else _) _ _ s;rw[if_neg (show ¬((D6 d==DC)=true)from Dd)];refine CI<|CU ?_;refine CI<|HV ho hdat ?_;rw[if_neg (by simp)];refine CI<|CU ?_;refine CI<|IG ho hdat ?_;rw[if_neg (by simp)];refine CU ?_;simp only[show ¬((es.size:Int)<0)from by omega,if_false,EL,Array.getElem?_eq_none<|D8 es.size];refine CI ?_
 first|refine CI (Fc hT<|CU ?_)|refine CI<|FE hT<|CU ?_
 show wpAny _ _ (setField (.ref it) 0 .none>>=_) _ _ s;refine CI (EM hit rfl (by simp) ?_);show wpAny _ _ (newExc (.type "StopIteration") []>>=_) _ _ _;refine CI ?_;simp only[newExc,newTuple];refine CI (Ep ?_ (by size_fits));refine CI (m:=firstArgMember _ _) (K7 (a:=DC) (by first|rfl|(simp only[firstArgMember];rfl)) ?_);refine Ep ?_ (by size_fits);simp only[raiseNew];refine CI<|Jg ?_;rw[show A.in1.handled=none from hh];refine CI<|CU<|K8 ?_;refine CI<|F8 (T:="StopIteration") (b:=true) ⟨_,CY _ rfl,rfl⟩ Fq ?_;exact CU<|hQ _<|((Fg ..).extBut.push _).push _
end
end Wb
namespace Mi
abbrev Cd:=Tx×Tx×Int
abbrev Pl:=Tx×Tx×Tx
abbrev Ii:=Int×Int
def bJ{κ α:Type}[DecidableEq κ](kvs:List (κ×α))(k:κ)(z:α):α:=(look kvs k).getD z
end Mi
namespace L2
open PySem PySem.Spec PyProof.Rows
section
variable{X:Cx}
theorem hW(i:Nat){x:Str}{pos:Pos}(hN:X.N.Nodup:=by exact M0 (by assumption))(hi:X.N[i]? =some x:=by rfl)(hx:xR X.env.scope x:=by first|exact GG rfl|exact Gr rfl)(hf:X.fn x=true\/X.env.scope.names.lookup x=some .local:=by first|exact .inl rfl|exact .inr rfl|assumption):PG X (.Name x pos) (aF i):=aP hN hi hx hf
theorem fo(i:Nat){x:Str}{e:Expr}{te:TE}{pos pos':Pos}(he:PE X e te)(hN:X.N.Nodup:=by exact M0 (by assumption))(hi:X.N[i]? =some x:=by rfl)(hx:xR X.env.scope x:=by first|exact GG rfl|exact Gr rfl)(hs:swapsWith e (some<|.Name x pos') pos.line X.env=pure false:=by rfl)(hf:X.fn x=true\/X.env.scope.names.lookup x=some .local:=by first|exact .inl rfl|exact .inr rfl|assumption):PS X (.Assign [.Name x pos'] e pos) (bS te<|aF i):=fB hN hi hx he hs hf
theorem eK{x:Str}{ps:List Str}{k:Nat}{sp:Sp}{p pos:Pos}{e:Expr}{es:List Expr}{t:TA}(C:Cal X.prog X.w X.K X.mg X.base x ps k sp)(ha:PA X (e::es) t)(hr:Room k X.A:=by exact Room.mono (by assumption) (by decide))(hg:Gl X x:=by rfl)
  (hdb:(x==("__debug__" :Str))=false:=by decide) (he:starEach (e::es) X.env=(false,eval e X.env)::starEach es X.env:=by rfl) (hpl:(backTo pos<|starEach es X.env).any (·.1)=false:=by rfl):PE X (.Call (.Name x p) (e::es) [] pos) (aK sp [] E0 t):=sC C hr hg ha hdb he hpl
end
end L2
namespace Wb
open PySem L2 Mi
section
variable{Er:Nat->Prop}{W:Wd}{σ:St}{te:TE}{D:Ends}{r:TS}{i:Nat}
theorem bR{i:Nat}{a:Int}(h:σ[i]? =some (some<|.int a):=by rfl):EV Er (ba i) σ W (sh isI) (.ok a):=aS (R:=sh isI) (v:=.int a) rfl h
theorem cO{i:Nat}{a:Tx}(h:σ[i]? =some (some<|.str<|sOf a):=by rfl):EV Er (ba i) σ W (sh isS) (.ok a):=aS (R:=sh isS) (v:=.str<|sOf a) rfl h
theorem BN{i:Nat}{a:Bool}(h:σ[i]? =some (some<|.bl a):=by rfl):EV Er (ba i) σ W (sh isB) (.ok a):=aS (R:=sh isB) (v:=.bl a) rfl h
theorem bz{α:Type}{R:Rp α}[Mono R]{i:Nat}{a:α}{v:V}(r:R W.G a v)(h:σ[i]? =some (some v):=by rfl):EV Er (ba i) σ W (sh R) (.ok a):=aS (R:=sh R) r h
end
abbrev qA(K:CL):=isT3 K isS isS isI
abbrev qB(K:CL):=isT3 K isS isS isS
abbrev qD(K:CL):=isL<|qB K
def DI(K:CL)(x:Str)(st:Stmt)(ps:List Str):Prop:=∃f fd,Fun K x x st f fd/\De K mainGlobals x=some (some<|.ref f)/\Binds K fd ps []
section
variable{P:Dg}{w:Dr}{K:CL}{mg:Str->Option CN}{base h:Heap}{x:Str}{st:Stmt}{ps:List Str}{n:Nat}{sp:Sp}{f:Addr}
def A7:List Str->List CN->List CN
 | [],_=>[]
 |_::r,us=>us.headD .none::A7 r us.tail
theorem tT:∀(ps:List Str)(us:List CN),us.length=ps.length->A7 ps us=us
 | [],us,h=>(List.eq_nil_of_length_eq_zero h).symm
 |_::r,[],h=>by cases h
 |_::r,a::us,h=>by
  show a::A7 r us=_;rw[tT r us<|Nat.succ.inj h]
theorem DI.mk{oc:CN}{od an:Option Addr}{osl:Array (Option CN)}{kV doc pm cdv ct:CN}(da:De K mainGlobals x=some (some<|.ref f))(dl:K.lookup f=some ⟨oc,od,.func<|DP x x (defArgs st) (defBody st) (defScope st) .none kV doc pm an cdv ct,osl⟩)
  (dc:DU K cdv x=true) (dk:Dp K (.ref f)=true) (db:∀(kV doc pm:CN)(an:Option Addr)(cdv ct:CN)(us:List CN),bindArgs (DP x x (defArgs st) (defBody st) (defScope st) .none kV doc pm an cdv ct) ⟨A7 ps us,[]⟩=pure (ps.zip<|A7 ps us)):DI K x st ps:=
 ⟨f,_,dg dl dc dk,da,(dg dl dc dk).binds fun kV doc pm an cdv ct us hl=>by
  have:=db kV doc pm an cdv ct us;rw[tT ps us hl]at this;exact this⟩
theorem DI.cal(d:DI K x st ps)(X:K.In h)(G:h.Ns mainGlobals mg)(r:∀{f fd},Fun K x x st f fd->FnOk P w K mg base CX0 n f fd ps sp):Cal P w K mg base x ps n sp:=by
 obtain⟨f,fd,F,a,b⟩:=d;exact⟨f,fd,r F,Dv X G a,F.kp,b⟩
theorem DI.calR(d:DI K x st ps)(X:K.In h)(G:h.Ns mainGlobals mg)(r:∀{f fd},Fun K x x st f fd->FnOk P w K mg base (CXR P w) n f fd ps sp):CalR P w K mg base x ps n sp:=by
 obtain⟨f,fd,F,a,b⟩:=d;exact⟨f,fd,r F,Dv X G a,F.kp,b⟩
end
end Wb
namespace L2
open PySem PySem.Spec PyProof.Rows Wb
section
variable{X:Cx}{pins:List (Addr×Obj)}{σ:St}{H:Hp}{s:CO}{a:Addr}{kvs:List (Key×V)}
theorem Inv.frzD{o:Obj}(I:Inv X pins σ H s)(e:H a=some (.dK kvs))(ho:s.heap.get? a=some o):Inv X pins σ (cg H a<|.frz o<|.dK kvs) s:=by
 have ne:∀b u,H b=some u->(∀l,u≠.dK l)->b≠a:=fun b u q n z=>by subst z;rw[e]at q;cases q;exact n _ rfl
 have na:∀b,H b=none->b≠a:=fun b n z=>by subst z;rw[e]at n;cases n
 refine I.un (t':=s.toks) (h':=s.heap) ⟨fun b o q _ _ _=>q,fun b o q _ _ _=>⟨o.slots,q⟩,fun b o _ n _=>by rw[ai<|na b n];exact n,fun b o q _=>⟨o,q⟩,fun b xs q=>by rw[ai (ne b _ q fun _ z=>nomatch z)];exact q,fun b o u q=>by rw[ai (ne b _ q fun _ z=>nomatch z)];exact q,fun b ps q=>⟨#[],by rw[ai (ne b _ q fun _ z=>nomatch z),q];simp⟩⟩ ?_;exact I.hok.write (by rw[e];trivial) (.inl rfl) (fun b u _ q=>q) ⟨o,ho⟩ ⟨ho,I.hok a _ e⟩
theorem Inv.objD(I:Inv X pins σ H s)(e:H a=some (.dK kvs)):∃o,s.heap.get? a=some o:=by
 obtain⟨_,_,vs,_,o,_,_,ho,_⟩:=I.hok a _ e;exact⟨o,ho⟩
end
def BC(i:Nat)(t:TS):TS:=fun D σ H=>∃a kvs,σ[i]? =some (some<|.ref a)/\H a=some (.dK kvs)/\∀o,t D σ<|cg H a<|.frz o<|.dK kvs
theorem pM{X:Cx}{st:Stmt}{t:TS}{i:Nat}(h:PS X st t):PS X st (BC i t):=fun pins s σ H D I⟨a,kvs,_,e,q⟩=>by
 obtain⟨o,ho⟩:=I.objD e;exact h pins s σ _ D (I.frzD e ho)<|q o
def A8(t:TE):TE:=fun σ H Q=>t σ H fun v H1=>∃a kvs,v=.ref a/\H1 a=some (.dK kvs)/\∀o,Q v<|cg H1 a<|.frz o<|.dK kvs
theorem tU{X:Cx}{e:Expr}{t:TE}(h:PE X e t):PE X e (A8 t):=fun pins s σ H Q I q=>bO (h pins s σ H _ I q) fun u s1⟨x,H1,I1,r1,a,kvs,ex,ea,q1⟩=>by
 obtain⟨o,ho⟩:=I1.objD ea;exact⟨x,_,I1.frzD ea ho,r1,q1 o⟩
theorem fy{X:Cx}:ej X (.type "dict") (fun xs H Q=>∃a kvs,xs=[.ref a]/\Rd H a (.dK kvs)/\∀p,H p=none->Q (.ref p) (cg H p<|.dK kvs)):=by
 intro pins s σ H xs us Q I r ⟨a,kvs,e,ea,q⟩;subst e;cases r with
 |cons r1 r2=>
  cases r2;cases (show _=D6 a from r1);exact sf I ea fun p s' hp I'=>⟨.ref p,_,I',rfl,q p hp⟩
def BO(a:Addr)(o:Obj)(kvs:List (Key×V)):It:=⟨fun i H=>H a=some (.frz o<|.dK kvs)/\i<kvs.length,fun i H x H'=>H'=H/\∃kv,kvs[i]? =some kv/\x=kV kv.1,fun i H=>H a=some (.frz o<|.dK kvs)/\i=kvs.length⟩
theorem jP{P:Dg}{w:Dr}{h:Heap}{H:Hp}{a:Addr}{o:Obj}{kvs:List (Key×V)}(ok:HOk P w H h)(e:H a=some (.frz o<|.dK kvs)):h.get? a=some o/\kvs.length<=sizeLine/\(a==sysModules)=false/\∃vs es ep,KV kvs vs/\o.ExactDict/\o.data=.dict es ep/\KeysOf (bf P w) es/\Pairs (bf P w) es.toList vs/\(vs.map (·.1)).Nodup:=by
 obtain⟨ho,z,lo,vs,rel,o',es,ep,ho',hx,hd,hk,hp,hn⟩:=ok a _ e;rw[ho]at ho';cases ho';exact⟨ho,z,lo,vs,es,ep,rel,hx,hd,hk,hp,hn⟩
theorem xH{P:Dg}{w:Dr}{k:Key}{u:CN}(h:(bf P w).is k u=true):RelV (kV k) u:=by
 rcases bV (show fS k u=true from h)with⟨i,t,rfl,rfl⟩|⟨x,t,rfl,rfl⟩
 ·exact⟨t,rfl⟩
 ·exact⟨t,rfl⟩
theorem tV{P:Dg}{w:Dr}{es:List ER}{vs:List (Key×CN)}{kvs:List (Key×V)}(hp:Pairs (bf P w) es vs)(rel:KV kvs vs){i:Nat}{e:ER}(h:es[i]? =some e):∃kv,kvs[i]? =some kv/\RelV (kV kv.1) e.key/\RelV kv.2 e.val:=by
 have hi:i<vs.length:=by have:=(CP.mp h).1;rw[<-hp.length];exact this
 obtain⟨p,h1,h2,h3⟩:=iG rel<|Dj hi;obtain⟨h4,h5⟩:=hp.get? h<|Dj hi;exact⟨p,h1,by rw[h2];exact xH h4,by rw[h5];exact h3⟩
theorem o9{P:Dg}{w:Dr}{K:CL}{tg:Expr}{a it:Addr}{o:Obj}{es:Array ER}{ep:Nat}{kvs:List (Key×V)}(hdat:o.data=.dict es ep)(hs:es.size=kvs.length):Turn P w K tg (BO a o kvs) [it] it (fun i h=>h.get? it=some (mV a es.size ep i)) where
 mem:=by simp
 obj:=fun i h st b hb=>by
  have e:b=it:=by simpa using hb
  subst e;exact⟨_,st,fun v z=>by
   have z':HQ _=G0 v:=z;cases z'⟩
 keep:=fun i h h' st k=>k it (by simp) _ st
 item:=by
  intro X hP hw hK hc i pins s σ H E I hf st hg;subst hP hw hK;obtain⟨ha,hi⟩:=hg;obtain⟨f0,f1,f2,f3,f4,f5⟩:=hf it (by simp);obtain⟨ho,z,lo,vs,es',ep',rel,hx,hd',hk,hp,hn⟩:=jP I.hok ha;rw[hdat]at hd';cases hd';have hi':i<es.size:=by omega
  refine qW st ho hdat hi' fun h' st' sb=>?_;have I1:Inv X pins σ H {s with heap:=h'}:=I.turned (t':=s.toks) (fun b o hb e=>(sb.2 b hb).trans e) f0 f1 f3 f4 f5;obtain⟨kv,h1,h2,_⟩:=tV hp rel (i:=i) (e:=es[i]) (by rw[Array.getElem?_toList,HL hi']);exact⟨_,rfl,me (s:={s with heap:=h'}) (n:="dict_keyiterator") st' rfl rfl (by decide) ⟨kV kv.1,H,I1,h2,⟨rfl,kv,h1,rfl⟩,st',fun b hb=>(hf b hb).1⟩⟩
 done:=by
  intro X hP hw hK hc i pins s σ H E I hf st hg;subst hP hw hK;obtain⟨ha,hi⟩:=hg;obtain rfl:i=es.size:=by omega
  obtain⟨f0,f1,f2,f3,f4,f5⟩:=hf it (by simp);obtain⟨ho,_⟩:=jP I.hok ha;exact tS (I.ok.hd hc) st ho hdat fun h' eb=>⟨rfl,I.turned (t':=s.toks) (fun b o hb e=>eb b o hb e) f0 f1 f3 f4 f5⟩
 self:=fun A i s Q E st hQ=>by
  have hT:s.TypeIs (.ref it) "dict_keyiterator":=⟨_,st,rfl⟩
  refine HU hT Hs<|E8 Hs hT F.entry_dict_keyiterator_iter ?_<|F.args_dict_keyiterator_iter_1 _;show wpAny _ _ (ret<|.ref it) _ _ s;exact CU ⟨_,rfl,"dict_keyiterator",_,hT,Eh.lookup,hQ⟩
def tW(tl:TE):TI:=fun σ H R=>tl σ H fun x H1=>∃a o kvs,x=.ref a/\H1 a=some (.frz o<|.dK kvs)/\R (BO a o kvs) H1
section
variable{X:Cx}{pos apos:Pos}{tg l:Expr}{tl:TE}
theorem tX(hl:PE X l tl):PI X tg l (tW tl):=by
 intro pins s σ H R I h;refine bO (hl pins s σ H _ I h) fun v s1 zz=>?_;obtain⟨x,H1,I1,r1,q1⟩:=zz;obtain⟨a,ob,kvs,e,ha,q⟩:=q1;subst e;cases r1;obtain⟨ho,z,lo,vs,es,ep,rel,hx,hdat,hk,hp,hn⟩:=jP I1.hok ha;have hs:es.size=kvs.length:=by have:=hp.length;rw[<-Ek,this];exact(Paired.length rel).symm
 refine qV lo ho hx hdat ?_;refine⟨s1.heap.objs.size,[s1.heap.objs.size],_,_,H1,rfl,I1.kept (t':=s1.toks) fun b o e=>CM _ e,o9 hdat hs,CY _ rfl,fun b hb=>?_,q⟩;have e:b=s1.heap.objs.size:=by simpa using hb
 subst e;exact I1.fpOk (D8 _)<|I1.hok.fresh<|D8 _
end
def BP(a:Addr)(o:Obj)(kvs:List (Key×V)):It:=⟨fun i H=>H a=some (.frz o<|.dK kvs)/\i<kvs.length,fun i H x H'=>∃T kv,H T=none/\x=.ref T/\kvs[i]? =some kv/\H'=cg H T (.tup [kV kv.1,kv.2]),fun i H=>H a=some (.frz o<|.dK kvs)/\i=kvs.length⟩
theorem iN{P:Dg}{w:Dr}{h:Heap}{H:Hp}{a:Addr}{o:Obj}{kvs:List (Key×V)}(ok:HOk P w H h)(e:H a=some (.frz o<|.dK kvs)):∃es ep,o.data=.dict es ep/\∃vs,KV kvs vs/\h.DictAt (bf P w) a vs ep:=by
 obtain⟨ho,z,lo,vs,es,ep,rel,hx,hd,hk,hp,hn⟩:=jP ok e;exact⟨es,ep,hd,vs,rel,o,es,ho,hx,hd,hk,hp,hn⟩
theorem og{P:Dg}{w:Dr}{K:CL}{elts:List Expr}{kk:Nat}{tp:Pos}{a it:Addr}{o:Obj}{es:Array ER}{ep:Nat}{kvs:List (Key×V)}(hdat:o.data=.dict es ep):Turn P w K (.Tuple elts kk tp) (BP a o kvs) [it] it (fun i h=>∃ok ov,IsItemIter h it a i kvs.length ep ok ov) where
 mem:=by simp
 obj:=fun i h st b hb=>by
  obtain⟨ok,ov,st⟩:=st;have e:b=it:=by simpa using hb
  subst e;exact⟨_,st,fun v z=>by
   have z':HQ _=G0 v:=z;cases z'⟩
 keep:=fun i h h'⟨ok,ov,st⟩k=>⟨ok,ov,k it (by simp) _ st⟩
 item:=by
  intro X hP hw hK hc i pins s σ H E I hf st hg;subst hP hw hK;obtain⟨ha,hi⟩:=hg;obtain⟨ok,ov,st⟩:=st;obtain⟨es',ep',hd',vs,rel,dat⟩:=iN I.hok ha;rw[hdat]at hd';cases hd';have hl:kvs.length=vs.length:=Paired.length rel;have hiv:i<vs.length:=by omega
  obtain⟨kv,h1,h2,h3⟩:=iG rel<|Dj hiv;have lt:∀{c o},s.heap.get? c=some o->c≠s.heap.objs.size:=fun e=>Dc<|D5 e;have nT:H s.heap.objs.size=none:=I.hok.fresh<|D8 _;have ni:it≠s.heap.objs.size:=lt st;refine wpAny_pyNext_items_item (by rw[<-hl];exact st) dat (k:=vs[i].1) (v:=vs[i].2) (Dj hiv) fun key h' hkey ho hT hsz hk=>?_;refine⟨_,rfl,wpAny_letOwnedTupleGo_items ho fun h2' he2 sb=>?_⟩;have kp2:∀b o,b∉[it]->s.heap.get? b=some o->h2'.get? b=some o:=fun b o hb q=>by
   have hb:b≠it:=fun z=>hb (by simp[z]);exact(sb.2 b hb).trans (hk b o hb q)
  have gE:∀b u,H b=some u->b∉[it]/\b≠s.heap.objs.size:=fun b u q=>⟨fun hb=>(by rw[(hf b hb).1]at q;cases q),fun z=>(by rw[z,nT]at q;cases q)⟩
  have I2:Inv X pins σ (cg H s.heap.objs.size<|.tup [kV kv.1,kv.2]) {s with heap:=h2',gens:=s.gens,drawn:=s.drawn,toks:=s.toks}:=by
   refine I.step (g':=s.gens) (d':=s.drawn) (t':=s.toks) (ch:=[it]) (fun b hb=>⟨(hf b hb).2.2.2.1,(hf b hb).2.1,(hf b hb).2.2.2.2.1,(hf b hb).2.2.2.2.2⟩) (fun b o _ _ hb q _=>kp2 b o hb q) (fun b o _ _ hb q _=>⟨o.slots,kp2 b o hb q⟩)
    (fun b o hb q n=>by rw[ai<|lt q];exact n) (fun b o hb q=>⟨o,kp2 b o hb q⟩) (fun b xs q=>by rw[ai (gE b _ q).2];exact q) (fun b o u q=>by rw[ai (gE b _ q).2];exact q) (fun b ps q=>⟨#[],by rw[ai (gE b _ q).2,q];simp⟩) (fun m hm=>?_) (fun b u q=>?_) I.bare
   ·obtain⟨o,es,ep,ho',r⟩:=hm;exact⟨o,es,ep,kp2 _ o (fun hb=>(hf _ hb).2.1 rfl) ho',r⟩
   ·by_cases hb:b=s.heap.objs.size
    ·subst hb;rw[ak]at q;cases q;exact⟨(by show 2<=sizeLine;rw[El];decide),[key,vs[i].2],.cons (by rw[h2];exact xH hkey)<|.cons h3 .nil,⟨_,(sb.2 _<|Ec ni).trans hT,⟨rfl,rfl⟩,_,rfl⟩⟩
    ·rw[ai hb]at q;refine(I.hok b u q).stay (fun c v hc z=>kp2 c v ?_ z) (fun c z=>by rw[ai (gE c _ z).2];exact z) fun c xs z=>by rw[ai (gE c _ z).2];exact z
     rcases hc with z|z;·rw[z];exact(gE b u q).1
     ·exact(gE c _ z).1
  refine⟨.ref s.heap.objs.size,_,I2,rfl,⟨_,kv,nT,rfl,h1,rfl⟩,⟨_,_,by rw[hl];exact he2⟩,fun b hb=>?_⟩;have e:b=it:=by simpa using hb
  subst e;rw[ai ni];exact(hf b hb).1
 done:=by
  intro X hP hw hK hc i pins s σ H E I hf st hg;subst hP hw hK;obtain⟨ha,hi⟩:=hg;obtain⟨ok,ov,st⟩:=st;obtain⟨es',ep',hd',vs,rel,dat⟩:=iN I.hok ha;rw[hdat]at hd';cases hd';have hl:kvs.length=vs.length:=Paired.length rel;obtain⟨f0,f1,f2,f3,f4,f5⟩:=hf it (by simp);exact wpAny_pyNext_items_end (I.ok.hd hc) (by rw[<-hl];exact st) dat (by simp;omega) fun h' eb=>⟨rfl,I.turned (t':=s.toks) (fun b o hb e=>eb b o hb e) f0 f1 f3 f4 f5⟩
 self:=fun A i s Q E st hQ=>by
  obtain⟨ok,ov,st⟩:=st;have hT:s.TypeIs (.ref it) "dict_itemiterator":=⟨_,st,rfl⟩
  refine HU hT Hi (E8 Hi hT (entryFor_alias (id':="dict_keyiterator.__iter__") (by kernel_rfl) rfl (by decide +kernel) (by kernel_rfl):entryFor table "dict_itemiterator.__iter__"=some JK.«dict_keyiterator.__iter__») ?_<|F.args_dict_itemiterator_iter_1 _);show wpAny _ _ (ret<|.ref it) _ _ s;exact CU ⟨_,rfl,"dict_itemiterator",_,hT,F.slot_dict_itemiterator_next.lookup,hQ⟩
def tY(tl:TE):TI:=fun σ H R=>tl σ H fun x H1=>∃a o kvs,x=.ref a/\H1 a=some (.frz o<|.dK kvs)/\R (BP a o kvs) H1
section
variable{X:Cx}{cpos apos tp:Pos}{elts:List Expr}{kk:Nat}{l:Expr}{tl:TE}
theorem tZ(hl:PE X l tl)(hbase:attributeBase l "items" X.env (eval l X.env)=eval l X.env:=by rfl)(hline:(apos.endLine==cpos.line)=true:=by rfl):PI X (.Tuple elts kk tp) (.Call (.Attribute l "items" apos) [] [] cpos) (tY tl):=by
 intro pins s σ H R I h;refine Gy hbase hline<|bO (hl pins s σ H _ I h) fun v s1 zz=>?_;obtain⟨x,H1,I1,r1,q1⟩:=zz;obtain⟨a,ob,kvs,e,ha,q⟩:=q1;subst e;obtain rfl:v=D6 a:=r1;obtain⟨t1,t2,_⟩:=nM I1<|.inl ⟨kvs,.inr ⟨ob,ha⟩⟩;obtain⟨ho,z,lo,_⟩:=jP I1.hok ha;obtain⟨es,ep,hdat,vs,rel,dat⟩:=iN I1.hok ha;have hlen:kvs.length=vs.length:=Paired.length rel;refine⟨"dict","dict.items",Gz,Ig,PySem.F.type_dict_items,t1,fun b hb=>by cases hb;exact t2 _ rfl,Fj rfl<|Hu ?_⟩;refine Iw Ig dat.dictOf.typeIs PySem.F.entry_dict_items (PySem.F.args_dict_items_1 _) (meets_dict_items (bf X.prog X.w) a lo) ⟨⟨vs,dat.dictOf⟩,?_⟩;have dat2:=dat.push {cls:=.type "dict_items",data:=.fields #[.ref a]};refine wpAny_pyIter_items (s:={s1 with heap:=s1.heap.push {cls:=.type "dict_items",data:=.fields #[.ref a]}}) ⟨_,CY _ rfl,rfl,rfl⟩ dat2 ?_;have I2:Inv X pins σ H1 {s1 with heap:=s1.heap.push {cls:=.type "dict_items",data:=.fields #[.ref a]}}:=I1.kept (t':=s1.toks) fun b o e=>CM _ e;refine⟨_,[(s1.heap.push {cls:=.type "dict_items",data:=.fields #[.ref a]}).objs.size],_,_,H1,rfl,I2.kept (t':=s1.toks) fun b o e=>CM _ e,og (kvs:=kvs) hdat,⟨.none,.none,?_⟩,fun b hb=>?_,q⟩;·rw[hlen];exact CY _ rfl
 ·have e:b=(s1.heap.push {cls:=.type "dict_items",data:=.fields #[.ref a]}).objs.size:=by simpa using hb
  subst e;exact I2.fpOk (D8 _)<|I2.hok.fresh<|D8 _
end
end L2
namespace Wb
open PySem L2 Mi
section
variable{Er:Nat->Prop}{α β:Type}{t ta tb tc te ti:TE}{σ:St}{W W0 W':Wd}{K:CL}{D:Ends}{i:Nat}{r ts:TS}
def DR(g:β->Key)(R:Rp α)(G:Hp)(xs:List (β×α))(kv:List (Key×V)):Prop:=kv.length=xs.length/\∀(i:Nat)(q:Key×V)(x:β×α),kv[i]? =some q->xs[i]? =some x->q.1=g x.1/\R G x.2 q.2
def isDk(g:β->Key)(R:Rp α):Rp (List<|β×α):=fun G xs v=>∃p o kv,v=.ref p/\G p=some (.frz o<|.dK kv)/\DR g R G xs kv
def pkD(g:β->Key)(R:Rp α):Rw (List<|β×α):=fun W xs v=>∃p kv,v=.ref p/\Rd W.H p (.dK kv)/\DR g R W.G xs kv
variable{g:β->Key}{R:Rp α}[Mono R]
theorem DR.same{G G':Hp}{xs:List (β×α)}{kv:List (Key×V)}(h:DR g R G xs kv)(e:Same G G'):DR g R G' xs kv:=⟨h.1,fun i q x a b=>⟨(h.2 i q x a b).1,CJ e (h.2 i q x a b).2⟩⟩
instance zkeep72:Mono (isDk g R):=⟨fun e⟨p,o,kv,h1,h2,h3⟩=>⟨p,o,kv,h1,e _ _ h2,h3.same e⟩⟩
theorem Rd.same{H H':Hp}{p:Addr}{u:HO}(h:Rd H p u)(e:Same H H'):Rd H' p u:=by
 rcases h with h|⟨o,h⟩
 ·exact .inl<|e _ _ h
 ·exact .inr ⟨o,e _ _ h⟩
instance zkeep73:MonoW (pkD g R):=⟨fun e⟨p,kv,h1,h2,h3⟩=>⟨p,kv,h1,Rd.same h2 e.h,h3.same e.g⟩⟩
theorem pkD.of{xs:List (β×α)}{v:V}(h:isDk g R W.G xs v):pkD g R W xs v:=by
 obtain⟨p,o,kv,a,b,c⟩:=h;exact⟨p,kv,a,.inr ⟨o,W.ok _ _ b⟩,c⟩
theorem EV.pkD{m:Res (List<|β×α)}(h:EV Er t σ W (sh<|isDk g R) m):EV Er t σ W (pkD g R) m:=h.imp fun _ _ _ r=>pkD.of r
theorem OwD.pkD{p:Addr}{xs:List (β×α)}(o:OwD g R W p xs):pkD g R W xs (.ref p):=by
 obtain⟨kv,a,b⟩:=o.h;exact⟨p,kv,rfl,.inl a,b⟩
theorem lY{p:Addr}{xs:List (β×α)}(o:OwD g R W p xs)(h:σ[i]? =some (some<|.ref p):=by rfl):EV Er (ba i) σ W (Wb.pkD g R) (.ok xs):=aS o.pkD h
theorem u6[DecidableEq β]{Rk:Rp β}{ma:Res (List<|β×α)}{mk:Res β}(hg:∀a b,g a=g b->a=b)(hk:∀H b v,Rk H b v->v=kV (g b))(ha:EV Er ta σ W (Wb.pkD g R) ma)(h:EV Er tb σ W (sh Rk) mk):
  EV Er (xw ta tb) σ W (sh R) (ma.bind fun d=>mk.bind fun k=>getD d k):=fun W1 e1 Q k=>ha W1 e1 _ ((CH k).imp fun xs kx x W2 e2 hx=>h W2 (e1.trans e2) _ ((CH kx).imp fun b kb v W3 e3 hv=>by
  obtain⟨a,h1,h2⟩:=eJ kb;obtain⟨p,kv,rfl,o1,o2,o3⟩:=DB e3 hx;have hl:=fu hg kv xs o2 o3 b;rw[h1]at hl;obtain⟨u,hu,ru⟩:=hl;refine⟨p,u,rfl,?_,h2 u W3 (e2.trans e3) ru⟩;rw[hk _ _ _ hv,<-hu];exact .inl ⟨kv,g b,o1,rfl,rfl⟩))
theorem gm[DecidableEq β]{Rk:Rp β}{ma:Res (List<|β×α)}{mk:Res β}{mz:Res α}(hg:∀a b,g a=g b->a=b)(hk:∀H b v,Rk H b v->v=kV (g b))(ha:EV Er ta σ W (Wb.pkD g R) ma)(h:EV Er tb σ W (sh Rk) mk)(hz:EV Er tc σ W (sh R) mz):
  EV Er (se ta tb tc) σ W (sh R) (ma.bind fun d=>mk.bind fun k=>mz.bind fun z=>.ok<|bJ d k z):=fun W1 e1 Q k=>ha W1 e1 _ ((CH k).imp fun xs kx x W2 e2 hx=>by
  obtain⟨p,kv,rfl,o1,o⟩:=id hx;refine⟨p,rfl,.inl ⟨kv,o1⟩,h W2 (e1.trans e2) _<|(CH kx).imp fun b kb v W3 e3 hv=>hz W3 ((e1.trans e2).trans e3) _<|(CH kb).imp fun z kz u W4 e4 hu=>?_⟩;have o':=o.same (e3.trans e4).g;have hl:=fu hg kv xs o'.1 o'.2 b;refine⟨fb kv<|g b,by rw[hk _ _ _ hv];exact .inl ⟨kv,g b,Rd.same o1 (e3.trans e4).h,rfl,rfl⟩,?_⟩;have kz:∀v W',Ext W1 W'->sh R W' (bJ xs b z) v->Q v W'.H:=kz;refine kz _ W4 ((e2.trans e3).trans e4) ?_;unfold bJ;cases q:look xs b with
  |none=>
   rw[q]at hl;have hl:fb kv (g b)=none:=hl;rw[hl];exact hu
  |some a=>
   rw[q]at hl;obtain⟨v',h1,h2⟩:=hl;rw[h1];exact h2)
theorem gq{ma:Res (List<|β×α)}(ha:EV Er ta σ W (Wb.pkD g R) ma):EVd Er (eo (fun xs H Q=>∃a kvs,xs=[.ref a]/\Rd H a (.dK kvs)/\∀p,H p=none->Q (.ref p) (cg H p<|.dK kvs))<|ag ta aH) σ W g R ma:=fun W1 e1 Q k=>
 ha W1 e1 _ (k.imp fun xs kx x W2 e2 hx=>by
  obtain⟨p,kv,rfl,o1,o⟩:=hx;exact⟨p,kv,rfl,o1,fun q hq=>kx q (W2.mut q (.dK kv) (W2.gnone hq)) (e2.trans (.own _ hq)) (none_of e2.h hq) ⟨W2.gnone hq,kv,ak,o⟩⟩)
theorem EVd.ev{m:Res (List<|β×α)}(h:EVd Er t σ W g R m):EV Er (A8 t) σ W (sh<|isDk g R) m:=fun W1 e1 Q k=>h W1 e1 _ (k.imp fun xs kx p W2 e2 hp o=>by
 obtain⟨kv,o1,o2⟩:=o.h;refine⟨p,kv,rfl,o1,fun ob=>?_⟩
 let W3:Wd:=W2.new p (.frz ob<|.dK kv)
 have g23:Same W2.G W3.G:=dn o.g;have e3:Ext W1 W3:=⟨e2.g.trans g23,fun a u z=>by
  show cg W2.H p _ a=_;rw[ai<|cm z hp];exact e2.h _ _ z,fun q hq=>by
  show cg W2.G p _ q=_;rw[ai (fun z=>hq (by rw[z];exact hp))];exact e2.k q hq⟩
 exact kx (.ref p) W3 e3 ⟨p,ob,kv,rfl,ak,DR.same (R:=R) o2 g23⟩)
theorem pN{p:Addr}{xs:List (β×α)}(o:OwD g R W p xs)(E:Ext W0 W)(fr:W0.H p=none)(q:∀W',Ext W0 W'->Same W.G W'.G->isDk g R W'.G xs (.ref p)->(∀b,b≠p->W'.H b=W.H b/\W'.G b=W.G b)->ts D σ W'.H)(hi:σ[i]? =some (some<|.ref p):=by rfl):BC i ts D σ W.H:=by
 obtain⟨kv,o1,o2⟩:=o.h;refine⟨p,kv,hi,o1,fun ob=>?_⟩
 let W3:Wd:=W.new p<|.frz ob<|.dK kv
 have g23:Same W.G W3.G:=dn o.g;exact q W3 ⟨E.g.trans g23,fun a u z=>by
  show cg W.H p _ a=_;rw[ai<|cm z fr];exact E.h _ _ z,fun q hq=>by
  show cg W.G p _ q=_;rw[ai (fun z=>hq (by rw[z];exact fr))];exact E.k q hq⟩ g23 ⟨p,ob,kv,rfl,ak,DR.same (R:=R) o2 g23⟩ fun b hb=>⟨ai hb,ai hb⟩
theorem wx{p:Addr}{xs:List (β×α)}(o:OwD g R W p xs)(E:Ext W0 W)(fr:W0.H p=none)(q:∀W',Ext W0 W'->Same W.G W'.G->isDk g R W'.G xs (.ref p)->(∀b,b≠p->W'.H b=W.H b/\W'.G b=W.G b)->dC ts r D σ W'.H)(hi:σ[i]? =some (some<|.ref p):=by rfl):dC (BC i ts) r D σ W.H:=pN (D:={D with nx:=r D}) o E fr q hi
theorem wy{g:β->Key}[DecidableEq β]{Rk:Rp β}{p:Addr}{xs:List (β×Int)}{m:Res Int}{mk:Res β}{f:Int->Int->Int}(hg:∀a b,g a=g b->a=b)(hk:∀H b v,Rk H b v->v=kV (g b))(o:OwD g isI W p xs)(hj:EV Er ti σ W (sh Rk) mk)(h:EV Er te σ W (sh isI) m)
  (q:(mk.bind fun k=>(getD xs k).bind fun a=>m.bind fun b=>fm xs k<|f a b).OkE Er fun ys=>∀W',Mu W W' p->OwD g isI W' p ys->D.nx σ W'.H) (hi:σ[i]? =some (some<|.ref p):=by rfl):xx (ba i) ti te (BJ f) D σ W.H:=by
 refine⟨.ref p,hi,hj W (.refl _) _<|(CH q).imp fun k kk x W2 e2 hx=>?_⟩;obtain⟨a,h1,h2⟩:=eJ<|CH kk;obtain⟨kv,o1,o2,o3⟩:=(o.mono e2).h;have hl:=fu hg kv xs o2 o3 k;rw[h1]at hl;obtain⟨u,hu,ru⟩:=hl;cases ru;refine⟨p,_,rfl,by rw[hk _ _ _ hx,<-hu];exact DGet.k o1,h W2 e2 _<|(CH h2).imp fun b kb y W3 e3 hy=>?_⟩;cases hy;obtain⟨h3,h4⟩:=aM kb;have e:=e2.trans e3;have o':=o.mono e;obtain⟨kv,o1,o2,o3⟩:=o'.h;obtain⟨p1,p2⟩:=pF hg o2 o3 (k:=k) (v:=.int<|f a b) (R:=isI) (a:=f a b) (H:=W3.G) rfl;refine⟨a,b,rfl,rfl,_,by rw[hk _ _ _ hx];exact DPut.k o1 (by rw[o2,El];unfold Mi.cap at h3;omega),?_⟩;exact h4 (W3.mut p (.dK<|gR kv (g k)<|.int<|f a b) o'.g) (.of e o'.g) ⟨o'.g,_,ak,p1,p2⟩
theorem u7{Rk:Rp β}{m:Res (List<|β×α)}(hk:∀H b,Rk H b<|kV<|g b)(h:EV Er t σ W (sh<|isDk g R) m):IV Er (tW t) σ W Rk (m.bind fun d=>.ok (d.map (·.1))):=fun W1 e1 P k=>
 h W1 e1 _ ((CH k).imp fun d kd x W2 e2 hx=>by
  obtain⟨p,o,kv,rfl,h1,h2,h3⟩:=hx;refine⟨p,o,kv,rfl,W2.ok _ _ h1,kd _ W2 e2 fun W3 e3=>⟨fun i a ha=>?_,W3.ok _ _<|e3 _ _ h1,by rw[Dq,h2]⟩⟩;rw[DQ]at ha;obtain⟨x,hx,rfl⟩:=ED.mp ha;have hi:i<kv.length:=by have:=(CP.mp hx).1;omega
  refine⟨⟨W3.ok _ _ (e3 _ _ h1),hi⟩,fun y H'⟨z1,q,hq,ry⟩=>⟨W3,z1.symm,.refl _,?_⟩⟩;rw[ry,(h3 i q x hq hx).1];exact hk _ _)
theorem u9{Rk:Rp β}[Mono Rk]{m:Res (List<|β×α)}(hk:∀H b,Rk H b<|kV<|g b)(h:EV Er t σ W (sh<|isDk g R) m):IV Er (tY t) σ W (isT2 K Rk R) m:=fun W1 e1 P k=>
 h W1 e1 _ (k.imp fun d kd x W2 e2 hx=>by
  obtain⟨p,o,kv,rfl,h1,h2,h3⟩:=hx;refine⟨p,o,kv,rfl,W2.ok _ _ h1,kd _ W2 e2 fun W3 e3=>⟨fun i a ha=>?_,W3.ok _ _<|e3 _ _ h1,h2.symm⟩⟩;have hi:i<kv.length:=by have:=(CP.mp ha).1;omega
  refine⟨⟨W3.ok _ _<|e3 _ _ h1,hi⟩,fun y H'⟨T,q,hT,ry,hq,z⟩=>⟨W3.new T<|.tup [kV q.1,q.2],by rw[z];rfl,.new _ hT,T,_,_,ry,Ju ak,?_,?_⟩⟩;·rw[(h3 i q a hq ha).1];exact hk _ _
  ·exact CJ (HX _ hT).g (CJ e3 (h3 i q a hq ha).2))
theorem BQ:∀(H:Hp)(b:Tx),isS H b (kV<|Ds<|sOf b):=fun _ _=>rfl
end
section
variable{α β γ δ:Type}
abbrev Rfl(α:Type):=Hp->α->List (Str×V)->Prop
def f1(f:Str)(R:Rp α):Rfl α:=fun G a fs=>∃v,fs=[(f,v)]/\R G a v
def fC(f:Str)(R:Rp α)(RF:Rfl β):Rfl (α×β):=fun G a fs=>∃v r,fs=(f,v)::r/\R G a.1 v/\RF G a.2 r
class MonoF(RF:Rfl α):Prop where
 mono:∀{G G':Hp}{a:α}{fs:List (Str×V)},Same G G'->RF G a fs->RF G' a fs
instance zkeep74{f:Str}{R:Rp α}[Mono R]:MonoF (f1 f R):=⟨fun e⟨v,h1,h2⟩=>⟨v,h1,CJ e h2⟩⟩
instance zkeep75{f:Str}{R:Rp α}{RF:Rfl β}[Mono R][MonoF RF]:MonoF (fC f R RF):=⟨fun e⟨v,r,h1,h2,h3⟩=>⟨v,r,h1,CJ e h2,MonoF.mono e h3⟩⟩
def isOb(C:Addr)(RF:Rfl α):Rp α:=fun G x v=>∃a dx fs,v=.ref a/\G a=some (.ins C dx fs)/\RF G x fs
instance zkeep76{C:Addr}{RF:Rfl α}[MonoF RF]:Mono (isOb C RF):=⟨fun e⟨a,dx,fs,h1,h2,h3⟩=>⟨a,dx,fs,h1,e _ _ h2,MonoF.mono e h3⟩⟩
def ua(RF:Rfl α)(f:Str)(R:Rp γ)(pr:α->γ):Prop:=∀G a fs,RF G a fs->∃v,fs.lookup f=some v/\R G (pr a) v
theorem BD{f:Str}{R:Rp α}:ua (f1 f R) f R fun a=>a:=fun G a fs⟨v,h1,h2⟩=>⟨v,by rw[h1];simp[EK],h2⟩
theorem ub{f:Str}{R:Rp α}{RF:Rfl β}:ua (fC f R RF) f R fun a=>a.1:=fun G a fs⟨v,r,h1,h2,h3⟩=>⟨v,by rw[h1];simp[EK],h2⟩
theorem hR{f f':Str}{R:Rp γ}{R':Rp α}{RF:Rfl β}{pr:β->γ}(h:ua RF f R pr)(ne:(f==f')=false:=by decide):ua (fC f' R' RF) f R fun a=>pr a.2:=fun G a fs⟨v,r,h1,h2,h3⟩=>by
 obtain⟨u,h4,h5⟩:=h G a.2 r h3;exact⟨u,by rw[h1];simp only[EK,ne];exact h4,h5⟩
variable{Er:Nat->Prop}{t te:TE}{σ:St}{W W0 W' W1 W2:Wd}{K:CL}{Cl:Addr}{f m:Str}
theorem dy{RF:Rfl α}{R:Rp γ}{pr:α->γ}{mm:Res α}(c:Cls K Cl)(n:NoAttr K Cl f)(l:ua RF f R pr)(h:EV Er t σ W (sh<|isOb Cl RF) mm):EV Er (rV K t f) σ W (sh R) (mm.bind fun a=>.ok<|pr a):=fun W1 e1 Q k=>
 h W1 e1 _ ((CH k).imp fun x kx v W2 e2⟨a,dx,fs,e,ha,r⟩=>by
  obtain⟨u,h1,h2⟩:=l _ _ _ r;exact⟨a,Cl,dx,fs,u,e,W2.ok _ _ ha,c,n,h1,kx u W2 e2 h2⟩)
abbrev Rfo(α:Type):=Wd->FS->α->List (Str×V)->Prop
def o1(f:Str)(R:Rf α):Rfo α:=fun W F a fs=>∃v,fs=[(f,v)]/\R W F a v
def oC(f:Str)(R:Rf α)(RF:Rfo β):Rfo (α×β):=fun W F a fs=>∃v r F1 F2,fs=(f,v)::r/\R W F1 a.1 v/\RF W F2 a.2 r/\(∀q,F1 q->F2 q->False)/\∀q,F q↔F1 q\/F2 q
class FrO(RF:Rfo α):Prop where
 fr:∀{W W':Wd}{F:FS}{a:α}{fs:List (Str×V)},RF W F a fs->Same W.G W'.G->(∀q,F q->W'.H q=W.H q/\W'.G q=W.G q)->RF W' F a fs
 lv:∀{W:Wd}{F:FS}{a:α}{fs:List (Str×V)},RF W F a fs->∀q,F q->W.G q=none/\W.H q≠none
instance zkeep77{f:Str}{R:Rf α}[FrT R]:FrO (o1 f R):=⟨fun⟨v,h1,h2⟩s k=>⟨v,h1,Lr h2 s k⟩,fun⟨v,h1,h2⟩=>Mh h2⟩
instance zkeep78{f:Str}{R:Rf α}{RF:Rfo β}[FrT R][FrO RF]:FrO (oC f R RF):=⟨fun⟨v,r,F1,F2,h1,h2,h3,h4,h5⟩s k=>⟨v,r,F1,F2,h1,Lr h2 s fun q hq=>k q<|(h5 q).mpr (.inl hq),FrO.fr h3 s fun q hq=>k q<|(h5 q).mpr (.inr hq),h4,h5⟩,fun⟨v,r,F1,F2,h1,h2,h3,h4,h5⟩q hq=>((h5 q).mp hq).elim (Mh h2 q) (FrO.lv h3 q)⟩
theorem FrO.mu{RF:Rfo α}[FrO RF]{F F':FS}{a:α}{fs:List (Str×V)}(t:RF W F a fs)(m:MuF F' W W')(dj:∀q,F q->F' q->False):RF W' F a fs:=FrO.fr t m.g fun q hq=>⟨m.h q (dj q hq) (FrO.lv t q hq).2,m.k q (FrO.lv t q hq).2⟩
def oOb(C:Addr)(RF:Rfo α):Rf α:=fun W F x v=>∃(a dx:Addr)(fs:List (Str×V))(F1:FS),v=.ref a/\W.G a=none/\W.G dx=none/\W.H a=some (.ins C dx fs)/\W.H dx=some (.own a)/\RF W F1 x fs/\¬F1 a/\¬F1 dx/\∀q,F q↔(q=a\/q=dx)\/F1 q
instance zkeep79{C:Addr}{RF:Rfo α}[FrO RF]:FrT (oOb C RF):=⟨fun⟨a,dx,u,F1,e,ga,gd,ha,hd,t,n1,n2,hF⟩s k=>by
 have ka:=k a<|(hF a).mpr (.inl<|.inl rfl);have kd:=k dx<|(hF dx).mpr (.inl<|.inr rfl);exact⟨a,dx,u,F1,e,by rw[ka.2];exact ga,by rw[kd.2];exact gd,by rw[ka.1];exact ha,by rw[kd.1];exact hd,FrO.fr t s fun q hq=>k q<|(hF q).mpr (.inr hq),n1,n2,hF⟩,fun⟨a,dx,u,F1,e,ga,gd,ha,hd,t,n1,n2,hF⟩q hq=>by
 rcases (hF q).mp hq with(rfl|rfl)|h;·exact⟨ga,nn_of ha⟩
 ·exact⟨gd,nn_of hd⟩
 ·exact FrO.lv t q h⟩
def BR(RF:Rfo α)(f:Str)(R:Rf γ)(pr:α->γ):Prop:=∀W F a fs,RF W F a fs->∃v F',fs.lookup f=some v/\R W F' (pr a) v
theorem gN{RF:Rfo α}{R:Rf γ}{pr:α->γ}{mm:Res α}(c:Cls K Cl)(n:NoAttr K Cl f)(l:BR RF f R pr)(h:EV Er t σ W (vw<|oOb Cl RF) mm):EV Er (rV K t f) σ W (vw R) (mm.bind fun a=>.ok<|pr a):=fun W1 e1 Q k=>
 h W1 e1 _ ((CH k).imp fun x kx v W2 e2⟨F,a,dx,fs,F1,e,ga,gd,ha,hd,t,_⟩=>by
  obtain⟨u,F',h1,h2⟩:=l _ _ _ _ t;exact⟨a,Cl,dx,fs,u,e,ha,c,n,h1,kx u W2 e2 ⟨F',h2⟩⟩)
def FLn(RF:Rfo α)(f:Str)(R:Rf γ)(pr:α->γ)(st:α->γ->α):Prop:=∀W F a fs,RF W F a fs->∃v F1,fs.lookup f=some v/\R W F1 (pr a) v/\(∀q,F1 q->F q)/\∀W' F1' b,MuF F1 W W'->(∀q,F1' q->F1 q\/W.H q=none)->R W' F1' b v->∃F',RF W' F' (st a b) fs/\∀q,F' q->F q\/W.H q=none
theorem FLn.at_{RF:Rfo α}{R:Rf γ}{pr:α->γ}{st:α->γ->α}(l:FLn RF f R pr st):BR RF f R pr:=fun W F a fs h=>by
 obtain⟨v,F1,h1,h2,_⟩:=l W F a fs h;exact⟨v,F1,h1,h2⟩
theorem yI{R:Rf α}{RF:Rfo β}[FrT R][FrO RF]:FLn (oC f R RF) f R (fun a=>a.1) (fun a b=>(b,a.2)):=fun W F a fs⟨v,r,F1,F2,h1,h2,h3,h4,h5⟩=>⟨v,F1,by rw[h1];simp[EK],h2,fun q h=>(h5 q).mpr (.inl h),fun W' F1' b m hF t=>⟨fun q=>F1' q\/F2 q,⟨v,r,F1',F2,h1,t,FrO.mu h3 m fun q a b=>h4 q b a,fun q a b=>(hF q a).elim (fun z=>h4 q z b) fun z=>(FrO.lv h3 q b).2 z,fun q=>Gm⟩,fun q hq=>hq.elim (fun z=>(hF q z).imp (fun y=>(h5 q).mpr (.inl y)) id) fun z=>.inl<|(h5 q).mpr (.inr z)⟩⟩
theorem yJ{f':Str}{R:Rf γ}{R':Rf α}{RF:Rfo β}{pr:β->γ}{st:β->γ->β}[FrT R'][FrO RF](l:FLn RF f R pr st)(ne:(f==f')=false:=by decide):FLn (oC f' R' RF) f R (fun a=>pr a.2) (fun a b=>(a.1,st a.2 b)):=fun W F a fs⟨v,r,F1,F2,h1,h2,h3,h4,h5⟩=>by
 obtain⟨u,F3,h6,h7,h8,h9⟩:=l W F2 a.2 r h3;refine⟨u,F3,by rw[h1];simp only[EK,ne];exact h6,h7,fun q h=>(h5 q).mpr (.inr<|h8 q h),fun W' F3' b m hF t=>?_⟩;obtain⟨F2',t1,t2⟩:=h9 W' F3' b m hF t;exact⟨fun q=>F1 q\/F2' q,⟨v,r,F1,F2',h1,FrT.mu h2 m fun q a b=>h4 q a<|h8 q b,t1,fun q a b=>(t2 q b).elim (fun z=>h4 q a z) fun z=>(Mh h2 q a).2 z,fun q=>Gm⟩,fun q hq=>hq.elim (fun z=>.inl<|(h5 q).mpr (.inl z)) fun z=>(t2 q z).imp (fun y=>(h5 q).mpr (.inr y)) id⟩
theorem wz{RF:Rfo β}[FrO RF]{R:Rf γ}{pr:β->γ}{st:β->γ->β}{C:α->List TC}{mm:Res (β×(β->α))}(c:Cls K Cl)(n:NoAttr K Cl f)(l:FLn RF f R pr st)(h:EV Er t σ W (Lens W0 C<|oOb Cl RF) mm):EV Er (rV K t f) σ W (Lens W0 C R) (mm.bind fun x=>.ok (pr x.1,fun b=>x.2<|st x.1 b)):=fun W1 e1 Q k=>
 h W1 e1 _ ((CH k).imp fun x kx v W2 e2⟨F,⟨a,dx,fs,F1,e,ga,gd,ha,hd,t,n1,n2,hF⟩,hn,up⟩=>by
  obtain⟨u,F2,h1,h2,h3,h4⟩:=l _ _ _ _ t;refine⟨a,Cl,dx,fs,u,e,ha,c,n,h1,kx u W2 e2 ⟨F2,h2,fun q hq=>hn q<|(hF q).mpr (.inr<|h3 q hq),fun W' F' b' mu hF' t'=>?_⟩⟩;obtain⟨F3,t3,h5⟩:=h4 W' F' b' mu hF' t';refine up W' (fun q=>(q=a\/q=dx)\/F3 q) _ (mu.up fun q hq=>(hF q).mpr (.inr<|h3 q hq)) (fun q hq=>?_) ⟨a,dx,fs,F3,e,by rw[mu.k a<|nn_of ha];exact ga,by rw[mu.k dx<|nn_of hd];exact gd,by rw[mu.h a (fun z=>n1<|h3 a z)<|nn_of ha];exact ha,by rw[mu.h dx (fun z=>n2<|h3 dx z)<|nn_of hd];exact hd,t3,fun z=>?_,fun z=>?_,fun q=>Gm⟩
  ·rcases hq with z | z;·exact .inl ((hF q).mpr (.inl z))
   ·exact(h5 q z).imp (fun y=>(hF q).mpr (.inr y)) id
  ·exact(h5 a z).elim n1 (nn_of ha)
  ·exact(h5 dx z).elim n2 (nn_of hd))
def A9(RF:Rfo α)(f:Str)(R:Rf γ)(st:α->γ->α):Prop:=∀W W' F a fs,RF W F a fs->Same W.G W'.G->(∀q,F q->W'.H q=W.H q/\W'.G q=W.G q)->∀F1 b u,R W' F1 b u->(∀q,F1 q->F q->False)->∃F',RF W' F' (st a b) (dF f u fs)/\∀q,F' q->F q\/F1 q
end
section
variable{Er:Nat->Prop}{α β γ δ ρ τ:Type}{t ta te tp:TE}{σ:St}{W W0 W' W1 W2 Wi:Wd}{K:CL}{Cl:Addr}{f m:Str}{cs:List TC}{D:Ends}{i j k l:Nat}{r:TS}{F:FS}
def Aa(K:CL)(ta:TE):TT:=fun σ H Q=>ta σ H fun x H'=>∃k,xY K x H' k/\Q k H'
theorem l8{X:Cx}{a:Expr}(hK:X.K=K)(ha:PE X a ta)(he:∀whole,isTrue a X.env whole=(do let v <-whole;standAt a.pos;holding [v] (truthy v)):=by intro _;rfl):PT X a (Aa K ta):=by
 subst hK;exact rP ha he
theorem pO{R:Rp α}{m:Res (List α)}(h:EV Er ta σ W (pk R) m):TV Er (Aa K ta) σ W (m.bind fun a=>.ok<|!a.isEmpty):=fun W1 e1 Q q=>
 h W1 e1 _ ((CH q).imp fun a ka v W2 e2 hv=>by
  obtain⟨p,vs,rfl,h1,h2⟩:=hv;refine⟨!a.isEmpty,.inl ⟨vs,F6 h1,?_⟩,ka W2 e2⟩;have:=h2.1;cases a<;>cases vs<;>first|rfl|cases this)
theorem BE{R:Rf α}:A9 (o1 f R) f R fun _ b=>b:=fun W W' F a fs⟨v,h1,h2⟩s k F1 b u t dj=>⟨F1,⟨u,by rw[h1];show(if f=f then _ else _)=_;rw[if_pos rfl],t⟩,fun q hq=>.inr hq⟩
theorem yK{f':Str}{R:Rf γ}{R':Rf α}{RF:Rfo β}{st:β->γ->β}[FrT R'](l:A9 RF f R st)(ne:f'≠f:=by decide):A9 (oC f' R' RF) f R fun a b=>(a.1,st a.2 b):=fun W W' F a fs⟨v,r,F1,F2,h1,h2,h3,h4,h5⟩s k F3 b u t dj=>by
 obtain⟨F',t1,t2⟩:=l W W' F2 a.2 r h3 s (fun q hq=>k q<|(h5 q).mpr (.inr hq)) F3 b u t fun q x y=>dj q x<|(h5 q).mpr (.inr y);refine⟨fun q=>F1 q\/F' q,⟨v,dF f u r,F1,F',by rw[h1];show(if f'=f then _ else _)=_;rw[if_neg ne],Lr h2 s fun q hq=>k q<|(h5 q).mpr (.inl hq),t1,fun q x y=>(t2 q y).elim (h4 q x) fun z=>dj q z<|(h5 q).mpr (.inl x),fun q=>Gm⟩,fun q hq=>hq.elim (fun z=>.inl<|(h5 q).mpr (.inl z)) fun z=>(t2 q z).imp (fun y=>(h5 q).mpr (.inr y)) id⟩
def Ab(RF:Rfo α):Prop:=∀W F a fs,RF W F a fs->fs.length<1000
theorem qX{RF:Rfo τ}[FrO RF]{R:Rf γ}[FrT R]{st:τ->γ->τ}{x:τ}{v:V}{mm:Res γ}(c:Cls K Cl)(n:NoAttr K Cl f)(hl:Ab RF)(l:A9 RF f R st)(S:Sep W0 W cs)(E:Ext W0 W)(hc:cs[k]? =some (tc (oOb Cl RF) x v))(h:tP Er te σ W R mm)(q:mm.OkE Er fun b=>∀W',Same W.G W'.G->Ext W0 W'->Sep W0 W' (cs.set k<|tc (oOb Cl RF) (st x b) v)->D.nx σ W'.H)(hi:σ[i]? =some (some v):=by rfl):vC K (ba i) te f D σ W.H:=
 h W (.refl _) _ (q.imp fun b kb u W2 F1 e2 hF1 t1=>by
  obtain⟨Fs,s⟩:=S;obtain⟨a,dx,fs,F2,e,ga,gd,ha,hd,t,n1,n2,hF⟩:=(show oOb Cl RF W2 (Fs k) x v from FrT.ext (s.el k _ hc) e2)
  subst e;have kk:k<cs.length:=(CP.mp hc).1;have hFa:Fs k a:=(hF a).mpr (.inl<|.inl rfl);have hFd:Fs k dx:=(hF dx).mpr (.inl<|.inr rfl);have dj1:∀q,F1 q->Fs k q->False:=fun q h1 h2=>(s.lv h2).2 (hF1 q h1);have mu:MuF (Fs k) W (W2.mut a (.ins Cl dx<|dF f u fs) ga):=(e2.muF (F:=Fs k)).trans (LZ (F:=Fs k) hFa ga) fun q hq=>.inl hq;obtain⟨F',t3,h3⟩:=l W2 (W2.mut a (.ins Cl dx<|dF f u fs) ga) F2 x fs t (.refl _) (fun q hq=>⟨ai fun z=>n1<|z▸hq,rfl⟩) F1 b u (Lr t1 (.refl _) fun q hq=>⟨ai fun z=>dj1 q hq<|z▸hFa,rfl⟩) fun q h1 h2=>dj1 q h1<|(hF q).mpr (.inr h2);have nda:dx≠a:=fun z=>by rw[z,ha]at hd;cases hd
  refine⟨.ref a,hi,a,Cl,dx,fs,rfl,ha,c,n,hl _ _ _ _ t,kb (W2.mut a (.ins Cl dx<|dF f u fs) ga) e2.g ((E.trans e2).mut (s.nw k a hFa) ga) ?_⟩;refine s.put (F:=fun q=>(q=a\/q=dx)\/F' q) E mu (fun q hq=>?_) ⟨a,dx,dF f u fs,F',rfl,ga,gd,ak,(ai nda).trans hd,t3,fun z=>?_,fun z=>?_,fun q=>Gm⟩ kk
  ·rcases hq with(rfl | rfl) | hq;·exact .inl hFa
   ·exact .inl hFd
   ·exact(h3 q hq).imp (fun y=>(hF q).mpr (.inr y)) (hF1 q)
  ·exact(h3 a z).elim n1 fun y=>dj1 a y hFa
  ·exact(h3 dx z).elim n2 fun y=>dj1 dx y hFd)
variable{C:α->List TC}
theorem wA{R:Rp β}[Mono R]{mp:Res (List β×(List β->α))}{m:Res (List β)}(E:Ext W0 W)(hp:EV Er tp σ W (Lens W0 C<|oL<|fz R) mp)(h:EV Er te σ W (pk R) m)(q:(mp.bind fun p=>m.bind fun x=>(wk p.1 x).bind fun b=>.ok<|p.2 b).OkE Er fun a'=>∀W',Same W.G W'.G->Ext W0 W'->Sep W0 W' (C a')->D.nx σ W'.H):
  aV (eG K "list" lE tp<|ag te aH) D σ W.H:=hp W (.refl _) _ ((CH q).imp fun p kp u W1 e1 l=>by
 obtain⟨p0,vs0,rfl,hH0,_,_⟩:=Lens.lf (E.trans e1) l;refine⟨.inl ⟨rfl,vs0,F6 hH0⟩,h W1 e1 _ ((CH kp).imp fun x kx v W2 e2 hv=>?_)⟩;obtain⟨p1,vs,ep,hH,lr,hg,back⟩:=Lens.lf ((E.trans e1).trans e2) (DB e2 l);cases ep;obtain⟨h3,h4⟩:=aM (CH kx);obtain⟨b,us,rfl,g1,g2⟩:=hv;obtain⟨b1,b2⟩:=back (vs++us) (p.1++x) (LR.app lr g2);exact⟨p0,b,vs,us,rfl,rfl,hH,g1,by rw[lr.1,g2.1];exact jb h3,h4 (W2.mut p0 (.lst (vs++us)) hg) (e1.trans e2).g b1 b2⟩)
theorem qY{R:Rp β}[Mono R]{mp:Res (List β×(List β->α))}{m:Res (List β)}(E:Ext W0 W)(hp:EV Er tp σ W (Lens W0 C<|oL<|fz R) mp)(h:EV Er te σ W (pk R) m)(q:(mp.bind fun p=>m.bind fun x=>(wk p.1 x).bind fun b=>.ok<|p.2 b).OkE Er fun a'=>∀W',Same W.G W'.G->Ext W0 W'->Sep W0 W' (C a')->r D σ W'.H):
  dC (aV<|eG K "list" lE tp<|ag te aH) r D σ W.H:=wA (D:={D with nx:=r D}) E hp h q
theorem oL.lf{R:Rp β}[Mono R]{xs:List β}{v:V}(t:oL (fz R) W F xs v):∃p vs,v=.ref p/\W.H p=some (.lst vs)/\LR R W.G xs vs/\F p/\W.G p=none/\∀W' vs' xs',W'.G p=none->W'.H p=some (.lst vs')->LR R W'.G xs' vs'->oL (fz R) W' (· =p) xs' v:=by
 obtain⟨p,vs,Fs,rfl,g,h,t,np,hF⟩:=t;exact⟨p,vs,rfl,h,t.lr,(hF p).mpr (.inl rfl),g,fun W' vs' xs' g' h' lr=>⟨p,vs',fun _ _=>False,rfl,g',h',.of lr,fun _ z=>z,fun q=>⟨.inl,fun z=>z.elim id fun⟨_,z⟩=>z.elim⟩⟩⟩
end
section
variable{Er:Nat->Prop}{α β γ δ ε ζ ρ τ υ:Type}{ta te tp:TE}{t:TA}{σ:St}{W W0 W' W1 W2 Wi:Wd}{K:CL}{Cl:Addr}{f m:Str}{cs:List TC}{D:Ends}{i j k l:Nat}{r:TS}{F:FS}{E:XK}
abbrev Raw(α:Type):=Wd->α->List V->Prop
def wN:Raw Unit:=fun _ _ us=>us=[]
def wC(R:Rw α)(RA:Raw β):Raw (α×β):=fun W a us=>∃v r,us=v::r/\R W a.1 v/\RA W a.2 r
class MonoR(RA:Raw α):Prop where
 mono:∀{W W':Wd}{a:α}{us:List V},Ext W W'->RA W a us->RA W' a us
instance zkeep80:MonoR wN:=⟨fun _ h=>h⟩
instance zkeep81{R:Rw α}{RA:Raw β}[MonoW R][MonoR RA]:MonoR (wC R RA):=⟨fun e⟨v,r,h1,h2,h3⟩=>⟨v,r,h1,DB e h2,MonoR.mono e h3⟩⟩
def yL(Er:Nat->Prop)(t:TA)(σ:St)(W:Wd)(RA:Raw α)(m:Res α):Prop:=∀W1,Ext W W1->∀Q:List V->Hp->Prop,m.OkE Er (fun a=>∀us W2,Ext W1 W2->RA W2 a us->Q us W2.H)->t σ W1.H Q
theorem cz:yL Er aH σ W wN (.ok ()):=fun W1 _ Q k=>k [] W1 (.refl _) rfl
theorem bu{R:Rw α}{RA:Raw β}[MonoW R]{m:Res α}{ma:Res β}(h:EV Er te σ W R m)(ht:yL Er t σ W RA ma):yL Er (ag te t) σ W (wC R RA) (m.bind fun a=>ma.bind fun b=>.ok (a,b)):=fun W1 e1 Q k=>
 h W1 e1 _ ((CH k).imp fun a ka v W2 e2 hv=>ht W2 (e1.trans e2) _<|(CH ka).imp fun b kb us W3 e3 hu=>kb (v::us) W3 (e2.trans e3) ⟨v,us,rfl,DB e3 hv,hu⟩)
def gO(RA:Raw α)(rt:Rt ρ)(m:α->Res ρ):Sp:=fun vs H Q _=>∃(W:Wd)(a:α),W.H=H/\RA W a vs/\∃Er:Nat->Prop,(m a).OkE Er fun r=>rt W r Q
section
variable{RA:Raw α}{ma:Res α}
theorem ip{R:Rp ρ}{mf:α->Res ρ}(h:yL Er t σ W RA ma):EV Er (aK (gO RA (rs R) mf) [] E t) σ W (sh R) (ma.bind fun a=>mf a):=fun W1 e1 Q q=>
 h W1 e1 _ ((CH q).imp fun a ka us W2 e2 hu=>⟨W2,a,rfl,by rw[DK];exact hu,Er,ka.imp fun r kr u W' e hv=>kr u W' (e2.trans e) hv⟩)
end
def zq(RF:Rfo α)(m:Str):Prop:=∀W F a fs,RF W F a fs->fs.lookup m=none
theorem iO{R:Rf α}(h:(m==f)=false:=by decide):zq (o1 f R) m:=fun W F a fs⟨v,h1,_⟩=>by rw[h1];simp only[EK,h]
theorem cP{R:Rf α}{RF:Rfo β}(g:zq RF m)(h:(m==f)=false:=by decide):zq (oC f R RF) m:=fun W F a fs⟨v,r,F1,F2,h1,h2,h3,_⟩=>by rw[h1];simp only[EK,h];exact g _ _ _ _ h3
theorem xI{RF:Rfo τ}{C:Addr}(h:zq RF m):HasM (oOb C RF) C m:=⟨fun⟨a,dx,u,F1,e,_,_,ha,_,t,_⟩=>⟨a,dx,_,e,ha,h _ _ _ _ t⟩⟩
section
variable{RF:Rfo τ}[FrO RF]{RA:Raw α}[MonoR RA]{ma:Res α}{mo:Res τ}
theorem iY{R:Rp ρ}{mf:τ×α->Res ρ}(hm:zq RF m)(h:EV Er ta σ W (vw<|oOb Cl RF) mo)(ht:yL Er t σ W RA ma):EV Er (fL Cl m (gO (wC (vw<|oOb Cl RF) RA) (rs R) mf) [] E ta t) σ W (sh R) (mo.bind fun x=>ma.bind fun a=>mf (x,a)):=fun W1 e1 Q q=>
 h W1 e1 _ ((CH q).imp fun x kx v W2 e2 hv=>by
  obtain⟨F,a,dx,fs,F1,e,_,_,ha,_,t1,_⟩:=id hv;refine⟨a,dx,fs,e,ha,hm _ _ _ _ t1,ht W2 (e1.trans e2) _ ((CH kx).imp fun y ky us W3 e3 hu=>⟨W3,(x,y),rfl,⟨v,us,by rw[DK],DB e3 hv,hu⟩,Er,ky.imp fun r kr u W' e hw=>kr u W' ((e2.trans e3).trans e) hw⟩)⟩)
theorem oh{R:Rp ρ}{mf:τ×α->Res (List ρ)}(hm:zq RF m)(h:EV Er ta σ W (vw<|oOb Cl RF) mo)(ht:yL Er t σ W RA ma):EVo Er (fL Cl m (gO (wC (vw<|oOb Cl RF) RA) (ro R) mf) [] E ta t) σ W R (mo.bind fun x=>ma.bind fun a=>mf (x,a)):=fun W1 e1 Q q=>
 h W1 e1 _ ((CH q).imp fun x kx v W2 e2 hv=>by
  obtain⟨F,a,dx,fs,F1,e,_,_,ha,_,t1,_⟩:=id hv;refine⟨a,dx,fs,e,ha,hm _ _ _ _ t1,ht W2 (e1.trans e2) _ ((CH kx).imp fun y ky us W3 e3 hu=>⟨W3,(x,y),rfl,⟨v,us,by rw[DK],DB e3 hv,hu⟩,Er,ky.imp fun r kr p W' e hp o=>kr p W' ((e2.trans e3).trans e) (none_of (e2.trans e3).h hp) o⟩)⟩)
end
section
variable{R:Rf τ}[FrT R]{RA:Ra α}{RR:Rp ρ}{x:τ}{v:V}{ma:Res α}{mf:τ->α->Res (τ×ρ)}{Q:VK}
theorem yM(hm:HasM R Cl m)(S:Sep W0 W cs)(E0:Ext W0 W)(hc:cs[k]? =some (tc R x v))(hi:σ[i]? =some (some v))(ha:qU Er t σ W RA ma)
  (q:(ma.bind fun a=>mf x a).OkE Er fun r=>∀u W',Ext W0 W'->Same W.G W'.G->Sep W0 W' (cs.set k<|tc R r.1 v)->RR W'.G r.2 u->Q u W'.H):fL Cl m (zp R RA RR mf) [] E (ba i) t σ W.H Q:=by
 obtain⟨Fs,s⟩:=id S;obtain⟨a,dx,fs,e,h1,h2⟩:=hm.at_<|s.el k _ hc;refine⟨v,hi,a,dx,fs,e,h1,h2,ha W (.refl _) _<|(CH q).imp fun b kb us W2 e2 hu=>?_⟩;obtain⟨W1,F,x1,t1,n1,up⟩:=(S.ext e2).call (E0.trans e2) hc;refine⟨W1,W2,F,x,v,b,us,rfl,by rw[DK],x1,n1,t1,hu,Er,kb.imp fun r kr u W' F' e' hs hF' t' hr=>?_⟩;obtain⟨z1,z2⟩:=up W' F' r.1 e' hF' t';exact kr u W' z1 (e2.g.trans hs) z2 hr
theorem uc(hm:HasM R Cl m)(S:Sep W0 W cs)(E0:Ext W0 W)(hc:cs[k]? =some (tc R x v))(hi:σ[i]? =some (some v))(ha:qU Er t σ W RA ma)
  (q:(ma.bind fun a=>mf x a).OkE Er fun r=>∀W',Same W.G W'.G->Ext W0 W'->Sep W0 W' (cs.set k<|tc R r.1 v)->D.nx σ W'.H):aV (fL Cl m (zp R RA RR mf) [] E (ba i) t) D σ W.H:=
 yM (Q:=fun _ H=>D.nx σ H) hm S E0 hc hi ha (q.imp fun r kr u W' e hs S' _=>kr W' hs e S')
theorem oi{r2:TS}(hm:HasM R Cl m)(S:Sep W0 W cs)(E0:Ext W0 W)(hc:cs[k]? =some (tc R x v))(hi:σ[i]? =some (some v))(ha:qU Er t σ W RA ma)
  (q:(ma.bind fun a=>mf x a).OkE Er fun r=>∀W',Same W.G W'.G->Ext W0 W'->Sep W0 W' (cs.set k<|tc R r.1 v)->r2 D σ W'.H):dC (aV<|fL Cl m (zp R RA RR mf) [] E (ba i) t) r2 D σ W.H:=
 uc (D:={D with nx:=r2 D}) hm S E0 hc hi ha q
end
end
section
variable{Er:Nat->Prop}{α β γ δ ε ζ ρ τ υ:Type}{ta te tp:TE}{t:TA}{σ:St}{W W0 W' W1 W2 Wi:Wd}{K:CL}{Cl:Addr}{f m:Str}{cs:List TC}{D:Ends}{i j k l:Nat}{r:TS}{F:FS}{E:XK}
def pP(C:Addr)(RF:Rfo τ)(RA:Raw α)(m:α->Res τ):Sp:=fun vs H Q _=>∃(W0 W:Wd)(a dx:Addr)(x:α)(us:List V),W.H=H/\vs=.ref a::us/\Ext W0 W/\W0.H a=none/\W0.H dx=none/\dx≠a/\W.G a=none/\W.G dx=none/\W.H a=some (.ins C dx [])/\W.H dx=some (.own a)/\RA W0 x us/\∃Er:Nat->Prop,(m x).OkE Er fun b=>∀W' F,Ext W0 W'->(∀q,F q->W0.H q=none)->oOb C RF W' F b (.ref a)->Q .non W'.H
theorem ud{RF:Rfo τ}{RA:Raw α}{ma:Res α}{mf:α->Res τ}(h:yL Er t σ W RA ma):tP Er (oQ Cl (pP Cl RF RA mf) [] E t) σ W (oOb Cl RF) (ma.bind fun a=>mf a):=fun W1 e1 Q q=>
 h W1 e1 _ ((CH q).imp fun a ka us W3 e3 hu=>by
  intro p dx hp hd ne;have gd:=W3.gnone hd;have gp:=W3.gnone hp
  let W4:Wd:=(W3.mut dx (.own p) gd).mut p (.ins Cl dx []) gp
  have n4:(W3.mut dx (.own p) gd).H p=none:=by show cg W3.H dx _ p=none;rw[ai<|Ec ne];exact hp
  have E4:Ext W3 W4:=(M7 _ hd).trans (M7 (W:=W3.mut dx (.own p) gd) _ n4);have hp4:W4.H p=some (.ins Cl dx []):=ak;have hd4:W4.H dx=some (.own p):=by show cg (cg W3.H dx _) p _ dx=_;rw[ai ne,ak]
  exact⟨W3,W4,p,dx,a,us,rfl,by rw[DK],E4,hp,hd,ne,gp,gd,hp4,hd4,hu,Er,ka.imp fun b kb W5 F e5 hF t=>⟨rfl,kb (.ref p) W5 F (e3.trans e5) (fun q hq=>none_of e3.h (hF q hq)) t⟩⟩)
def oRaw(C a dx:Addr)(fs:List (Str×V)):Rf Unit:=fun W F _ v=>v=.ref a/\W.G a=none/\W.G dx=none/\W.H a=some (.ins C dx fs)/\W.H dx=some (.own a)/\dx≠a/\∀q,F q↔q=a\/q=dx
instance zkeep82{C a dx:Addr}{fs:List (Str×V)}:FrT (oRaw C a dx fs):=⟨fun⟨e,ga,gd,ha,hd,ne,hF⟩s k=>by
 have ka:=k a<|(hF a).mpr (.inl rfl);have kd:=k dx<|(hF dx).mpr (.inr rfl);exact⟨e,by rw[ka.2];exact ga,by rw[kd.2];exact gd,by rw[ka.1];exact ha,by rw[kd.1];exact hd,ne,hF⟩,fun⟨e,ga,gd,ha,hd,ne,hF⟩q hq=>by
 rcases (hF q).mp hq with rfl|rfl;·exact⟨ga,nn_of ha⟩
 ·exact⟨gd,nn_of hd⟩⟩
theorem ue{a dx:Addr}{fs:List (Str×V)}{R:Rf γ}[FrT R]{mm:Res γ}(c:Cls K Cl)(n:NoAttr K Cl f)(hl:fs.length<1000)(S:Sep W0 W (tc (oRaw Cl a dx fs) () (.ref a)::cs))(E0:Ext W0 W)(h:tP Er te σ W R mm)(q:mm.OkE Er fun b=>∀u W',Ext W0 W'->Same W.G W'.G->Sep W0 W' (tc (oRaw Cl a dx<|dF f u fs) () (.ref a)::(cs++[tc R b u]))->D.nx σ W'.H)(hi:σ[i]? =some (some<|.ref a):=by rfl):vC K (ba i) te f D σ W.H:=
 h W (.refl _) _ (q.imp fun b kb u W2 F1 e2 hF1 t1=>by
  have S2:=S.add E0 e2 hF1 t1;obtain⟨Fs,s⟩:=S2;obtain⟨_,ga,gd,ha,hd,ne,hF⟩:=(show oRaw Cl a dx fs W2 (Fs 0) () (.ref a)from s.el 0 _ rfl)
  have hFa:Fs 0 a:=(hF a).mpr (.inl rfl);have E2:=E0.trans e2;refine⟨.ref a,hi,a,Cl,dx,fs,rfl,ha,c,n,hl,kb u (W2.mut a (.ins Cl dx (dF f u fs)) ga) (E2.mut (s.nw 0 a hFa) ga) e2.g ?_⟩;exact s.put (i:=0) (F:=Fs 0) E2 (LZ (F:=Fs 0) hFa ga) (fun q hq=>.inl hq) (show oRaw Cl a dx (dF f u fs) _ (Fs 0) () (.ref a)from⟨rfl,ga,gd,ak,(ai ne).trans hd,ne,hF⟩) (by simp))
theorem jQ{a dx:Addr}{fs:List (Str×V)}{R:Rf γ}[FrT R]{mm:Res γ}(c:Cls K Cl)(n:NoAttr K Cl f)(hl:fs.length<1000)(S:Sep W0 W (tc (oRaw Cl a dx fs) () (.ref a)::cs))(E0:Ext W0 W)(h:tP Er te σ W R mm)(q:mm.OkE Er fun b=>∀u W',Ext W0 W'->Same W.G W'.G->Sep W0 W' (tc (oRaw Cl a dx<|dF f u fs) () (.ref a)::(cs++[tc R b u]))->r D σ W'.H)(hi:σ[i]? =some (some<|.ref a):=by rfl):dC (vC K (ba i) te f) r D σ W.H:=ue (D:={D with nx:=r D}) c n hl S E0 h q hi
theorem BF{a dx:Addr}{f1 f2 f3 f4:Str}{R1:Rf α}{R2:Rf β}{R3:Rf γ}{R4:Rf δ}[FrT R1][FrT R2][FrT R3][FrT R4]{x1:α}{x2:β}{x3:γ}{x4:δ}{u1 u2 u3 u4:V}(S:Sep W0 W [tc (oRaw Cl a dx [(f1,u1),(f2,u2),(f3,u3),(f4,u4)]) () (.ref a),tc R1 x1 u1,tc R2 x2 u2,tc R3 x3 u3,tc R4 x4 u4]):∃F,(∀q,F q->W0.H q=none)/\oOb Cl (oC f1 R1<|oC f2 R2<|oC f3 R3<|o1 f4 R4) W F (x1,x2,x3,x4) (.ref a):=by
 obtain⟨Fs,s⟩:=S;obtain⟨_,ga,gd,ha,hd,ne,hF⟩:=(show oRaw Cl a dx _ W (Fs 0) () (.ref a)from s.el 0 _ rfl)
 have hFa:Fs 0 a:=(hF a).mpr (.inl rfl);have hFd:Fs 0 dx:=(hF dx).mpr (.inr rfl);have d0:∀(j:Nat)q,Fs 0 q->Fs (j+1) q->False:=fun j q h1 h2=>by have:=s.dj 0 (j+1) q h1 h2;omega
 have dj:∀(i j:Nat)q,i≠j->Fs i q->Fs j q->False:=fun i j q h h1 h2=>h<|s.dj i j q h1 h2;refine⟨fun q=>(q=a\/q=dx)\/(Fs 1 q\/(Fs 2 q\/(Fs 3 q\/Fs 4 q))),fun q hq=>?_,a,dx,_,fun q=>Fs 1 q\/(Fs 2 q\/(Fs 3 q\/Fs 4 q)),rfl,ga,gd,ha,hd,⟨u1,_,Fs 1,fun q=>Fs 2 q\/(Fs 3 q\/Fs 4 q),rfl,s.el 1 _ rfl,⟨u2,_,Fs 2,fun q=>Fs 3 q\/Fs 4 q,rfl,s.el 2 _ rfl,⟨u3,_,Fs 3,Fs 4,rfl,s.el 3 _ rfl,⟨u4,rfl,s.el 4 _ rfl⟩,fun q=>dj 3 4 q (by decide),fun q=>Gm⟩,fun q h1 h2=>h2.elim (dj 2 3 q (by decide) h1) (dj 2 4 q (by decide) h1),fun q=>Gm⟩,fun q h1 h2=>h2.elim (dj 1 2 q (by decide) h1) fun h=>h.elim (dj 1 3 q (by decide) h1) (dj 1 4 q (by decide) h1),fun q=>Gm⟩,fun z=>?_,fun z=>?_,fun q=>Gm⟩
 ·rcases hq with(rfl | rfl) | h | h | h | h;·exact s.nw 0 _ hFa
  ·exact s.nw 0 _ hFd
  ·exact s.nw 1 _ h
  ·exact s.nw 2 _ h
  ·exact s.nw 3 _ h
  ·exact s.nw 4 _ h
 ·exact z.elim (d0 0 a hFa) fun z=>z.elim (d0 1 a hFa) fun z=>z.elim (d0 2 a hFa)<|d0 3 a hFa
 ·exact z.elim (d0 0 dx hFd) fun z=>z.elim (d0 1 dx hFd) fun z=>z.elim (d0 2 dx hFd)<|d0 3 dx hFd
theorem EV.trf{R:Rp α}{m:Res α}[Mono R](h:EV Er te σ W (sh R) m):tP Er te σ W (fz R) m:=fun W1 e1 Q q=>h W1 e1 Q<|q.imp fun a ka v W2 e2 hv=>ka v W2 (fun _=>False) e2 (fun q hq=>hq.elim) ⟨fun _ z=>z,hv⟩
def aL(R:Rp α):Ra α:=fun G a us=>∃v,us=[v]/\R G a v
instance zkeep83{R:Rp α}[Mono R]:MonoA (aL R):=⟨fun e⟨v,h1,h2⟩=>⟨v,h1,CJ e h2⟩⟩
theorem mW{R:Rp α}{m:Res α}(h:EV Er te σ W (sh R) m):qU Er (ag te aH) σ W (aL R) m:=fun W1 e1 Q q=>h W1 e1 _<|q.imp fun a ka v W2 e2 hv=>ka [v] W2 e2 ⟨v,rfl,hv⟩
def uf(C:Addr)(ns:List Str):Sp:=fun vs H Q _=>∃(a dx:Addr)(us:List V),vs=.ref a::us/\us.length=ns.length/\H a=some (.ins C dx [])/\Q .non (cg H a<|.ins C dx<|ns.zip us)
def AR(RA:Ra α)(RF:Rfl α)(ns:List Str):Prop:=∀G a us,RA G a us->us.length=ns.length/\RF G a (ns.zip us)
theorem Ac{R:Rp α}:AR (aL R) (f1 f R) [f]:=fun G a us⟨v,h1,h2⟩=>by subst h1;exact⟨rfl,v,rfl,h2⟩
theorem ku{R:Rp α}{RA:Ra β}{RF:Rfl β}{ns:List Str}(h:AR RA RF ns):AR (aC R RA) (fC f R RF) (f::ns):=fun G a us⟨v,r,h1,h2,h3⟩=>by
 subst h1;obtain⟨h4,h5⟩:=h G a.2 r h3;exact⟨by simp[h4],v,_,rfl,h2,h5⟩
theorem mX{RA:Ra α}[MonoA RA]{RF:Rfl α}[MonoF RF]{ns:List Str}{ma:Res α}(l:AR RA RF ns)(h:qU Er t σ W RA ma):EV Er (oQ Cl (uf Cl ns) [] E t) σ W (sh<|isOb Cl RF) ma:=fun W1 e1 Q q=>
 h W1 e1 _ (q.imp fun a ka us W3 e3 hu=>by
  intro p dx hp hd ne;have gd:=W3.gnone hd;have gp:=W3.gnone hp;obtain⟨h4,h5⟩:=l _ _ _ hu;refine⟨p,dx,us,by rw[DK],h4,ak,rfl,?_⟩;rw[oK]
  let W4:Wd:=(W3.mut dx (.own p) gd)
  have n4:W4.H p=none:=by show cg W3.H dx _ p=none;rw[ai<|Ec ne];exact hp
  have E4:Ext W3 W4:=M7 _ hd;have E5:Ext W4 (W4.new p (.ins Cl dx (ns.zip us))):=HX _ n4;exact ka (.ref p) (W4.new p (.ins Cl dx (ns.zip us))) ((e3.trans E4).trans E5) ⟨p,dx,_,rfl,ak,MonoF.mono (E4.trans E5).g h5⟩)
end
section
variable{Er:Nat->Prop}{α β γ δ ε ρ τ υ:Type}{ta te tp:TE}{t:TA}{σ:St}{W W0 W' W1 W2 Wi:Wd}{K:CL}{Cl:Addr}{f m:Str}{cs:List TC}{D:Ends}{i j k l:Nat}{r:TS}{F:FS}{E:XK}
def isEi(R1:Rp α)(R2:Rp β):Rp (α ⊕ β):=fun G x v=>match x with| .inl a=>R1 G a v| .inr b=>R2 G b v
instance zkeep84{R1:Rp α}{R2:Rp β}[Mono R1][Mono R2]:Mono (isEi R1 R2):=⟨fun{G G' x v}e h=>by
 cases x with
 |inl a=>exact CJ (R:=R1) e h
 |inr b=>exact CJ (R:=R2) e h⟩
theorem oj{R1:Rp α}{R2:Rp β}{m:Res α}(h:EV Er te σ W (sh R1) m):EV Er te σ W (sh<|isEi R1 R2) (m.bind fun a=>.ok<|.inl a):=fun W1 e1 Q q=>h W1 e1 Q<|(CH q).imp fun a ka v W2 e2 hv=>ka v W2 e2 hv
theorem yN{R1:Rp α}{R2:Rp β}{m:Res β}(h:EV Er te σ W (sh R2) m):EV Er te σ W (sh<|isEi R1 R2) (m.bind fun a=>.ok<|.inr a):=fun W1 e1 Q q=>h W1 e1 Q<|(CH q).imp fun a ka v W2 e2 hv=>ka v W2 e2 hv
theorem yO{R1:Rp α}{R2:Rp β}{m:Res (α ⊕ β)}(h:EV Er te σ W (sh<|isEi R1 R2) m):EV Er te σ W (sh R1) (m.bind fun a=>lL a.getLeft?):=fun W1 e1 Q q=>h W1 e1 Q ((CH q).imp fun a ka v W2 e2 hv=>by
 cases a with
 |inl a=>exact ka v W2 e2 hv
 |inr b=>exact(ka:False).elim)
theorem yP{R1:Rp α}{R2:Rp β}{m:Res (α ⊕ β)}(h:EV Er te σ W (sh<|isEi R1 R2) m):EV Er te σ W (sh R2) (m.bind fun a=>lL a.getRight?):=fun W1 e1 Q q=>h W1 e1 Q ((CH q).imp fun a ka v W2 e2 hv=>by
 cases a with
 |inr a=>exact ka v W2 e2 hv
 |inl b=>exact(ka:False).elim)
def ug(K:CL)(R:Rp α):Prop:=∀G a v,R G a v->∃p xs,v=.ref p/\SqT K G p xs
theorem yQ{R1:Rp α}{R2:Rp β}{R3:Rp γ}{R4:Rp δ}:ug K (isT4 K R1 R2 R3 R4):=fun G a v⟨p,x,y,z,u,h0,h,_⟩=>⟨p,_,h0,h⟩
theorem uh{R2:Rp β}{m:Res (Tx ⊕ β)}(hT:ug K R2)(h:EV Er ta σ W (sh<|isEi isS R2) m):EV Er (eo (fun xs H Q=>∃x T t b,xs=[x,.ty T]/\TyOf K H x t/\DD K t (.type T)=some b/\Q (.bl b) H)<|ag ta<|ag (tC<|.ty "str") aH) σ W (sh isB) (m.bind fun a=>.ok a.isLeft):=fun W1 e1 Q q=>
 h W1 e1 _ ((CH q).imp fun a ka x W2 e2 hx=>by
  cases a with
  |inl a=>
   cases (show x=.str (sOf a)from hx);exact⟨_,_,_,true,rfl,.str _,A0 _ _ _ rfl,ka _ W2 e2 rfl⟩
  |inr b=>
   obtain⟨p,xs,rfl,hq⟩:=hT _ _ _ (show R2 W2.G b x from hx);refine⟨_,_,_,false,rfl,?_,A0 "tuple" _ _ rfl,ka _ W2 e2 rfl⟩;exact .tup (Hl W2.ok hq))
open Classical in
theorem Sep.call2g{R1:Rf α}[FrT R1]{R2:Rf β}[FrT R2]{x1:α}{x2:β}{v1 v2:V}(s:Sep W0 W cs)(E:Ext W0 W)(h1:cs[k]? =some (tc R1 x1 v1))(h2:cs[l]? =some (tc R2 x2 v2))(hkl:k≠l):
  ∃W1,Ext W1 W/\Sep W1 W [tc R1 x1 v1,tc R2 x2 v2]/\∀W'(c1 c2:TC),Ext W1 W'->Sep W1 W' [c1,c2]->Ext W0 W'/\Sep W0 W' ((cs.set k c1).set l c2):=by
 obtain⟨Fs,s⟩:=s;have lv:∀q,(Fs k q\/Fs l q)->W.G q=none:=fun q hq=>hq.elim (fun z=>(s.lv z).1) fun z=>(s.lv z).1;have k1:k<cs.length:=(CP.mp h1).1;have k2:l<cs.length:=(CP.mp h2).1;have nF:∀p,W0.H p≠none->¬(Fs k p\/Fs l p):=fun p hp z=>z.elim (fun z=>hp<|s.nw k p z) fun z=>hp<|s.nw l p z
 let W1:Wd:=W.sub (fun q=>Fs k q\/Fs l q) lv
 have E1:Ext W0 W1:=⟨E.g,fun a u z=>by
  show(W.sub _ lv).H a=_;rw[Jv (nF a (nn_of z))];exact E.h _ _ z,fun p hp=>E.k p hp⟩
 have key:∀(j:Nat)q,(if j=0 then Fs k else if j=1 then Fs l else fun _=>False) q->(j=0/\Fs k q)\/(j=1/\Fs l q):=fun j q h=>by
  by_cases z:j=0;·exact .inl ⟨z,by simpa [if_pos z] using h⟩
  ·rw[if_neg z]at h;by_cases y:j=1;·exact .inr ⟨y,by simpa [if_pos y] using h⟩
   ·simp[if_neg y]at h
 refine⟨W1,Wd.sub_ext,⟨fun j=>if j=0 then Fs k else if j=1 then Fs l else fun _=>False,fun j c hc=>?_,fun j q hq=>?_,fun a b q ha hb=>?_,fun j q hq=>?_⟩,fun W' c1 c2 e S'=>⟨E1.trans e,?_⟩⟩
 ·match j,hc with
  |0,hc=>cases hc;exact s.el k _ h1
  |1,hc=>cases hc;exact s.el l _ h2
 ·rcases key j q hq with⟨z,_⟩|⟨z,_⟩<;>simp[z]
 ·rcases key a q ha with⟨z1,y1⟩ | ⟨z1,y1⟩ <;> rcases key b q hb with⟨z2,y2⟩ | ⟨z2,y2⟩
  ·omega
  ·exact(hkl<|s.dj k l q y1 y2).elim
  ·exact(hkl<|s.dj k l q y2 y1).elim
  ·omega
 ·exact Wd.sub_in ((key j q hq).imp (·.2) (·.2))
 ·obtain⟨Gs,g⟩:=S';have out:∀j q,Gs j q->(Fs k q\/Fs l q)\/W.H q=none:=fun j q hq=>by
   by_cases z:Fs k q\/Fs l q;·exact .inl z
   ·exact .inr (by rw[<-Jv (h:=lv) z];exact g.nw j q hq)
  have keep:∀j q,j≠k->j≠l->Fs j q->¬(Fs k q\/Fs l q):=fun j q n1 n2 h z=>z.elim (fun z=>n1<|s.dj j k q h z) fun z=>n2<|s.dj j l q h z;have key2:∀(j:Nat)q,(if j=k then Gs 0 else if j=l then Gs 1 else Fs j) q->(j=k/\Gs 0 q)\/(j=l/\j≠k/\Gs 1 q)\/(j≠k/\j≠l/\Fs j q):=fun j q h=>by
   by_cases z:j=k;·exact .inl ⟨z,by simpa [if_pos z] using h⟩
   ·rw[if_neg z]at h;by_cases y:j=l;·exact .inr (.inl ⟨y,z,by simpa [if_pos y] using h⟩)
    ·exact .inr (.inr ⟨z,y,by simpa [if_neg y] using h⟩)
  refine⟨fun j=>if j=k then Gs 0 else if j=l then Gs 1 else Fs j,fun j c hc=>?_,fun j q hq=>?_,fun a b q ha hb=>?_,fun j q hq=>?_⟩
  ·rw[FA]at hc;by_cases y:l=j
   ·subst y;rw[if_pos rfl,F5,if_pos k2]at hc;cases hc;simp only[if_neg (Ec hkl),if_true];exact g.el 1 _ rfl
   ·rw[if_neg y,FA]at hc;by_cases z:k=j
    ·subst z;rw[if_pos rfl,if_pos k1]at hc;cases hc;simp only[if_true];exact g.el 0 _ rfl
    ·rw[if_neg z]at hc;simp only[if_neg (Ec z),if_neg<|Ec y];refine @Lr _ _ c.i _ _ _ _ _ (s.el j c hc) e.g fun q hq=>?_;have nk:=keep j q (Ec z) (Ec y) hq;have hn:(W.sub (fun q=>Fs k q\/Fs l q) lv).H q≠none:=by rw[Jv nk];exact(s.lv hq).2
     exact⟨by rw[e.keepH hn];show(W.sub _ lv).H q=_;rw[Jv nk],e.k q hn⟩
  ·rw[F5,F5];rcases key2 j q hq with⟨z,_⟩|⟨z,_,_⟩|⟨_,_,z⟩
   ·omega
   ·omega
   ·exact s.rng j q z
  ·rcases key2 a q ha with⟨z1,y1⟩ | ⟨z1,w1,y1⟩ | ⟨z1,w1,y1⟩ <;> rcases key2 b q hb with⟨z2,y2⟩ | ⟨z2,w2,y2⟩ | ⟨z2,w2,y2⟩
   ·omega
   ·have:=g.dj 0 1 q y1 y2;omega
   ·exact((out 0 q y1).elim (keep b q z2 w2 y2) fun y=>(s.lv y2).2 y).elim
   ·have:=g.dj 1 0 q y1 y2;omega
   ·omega
   ·exact((out 1 q y1).elim (keep b q z2 w2 y2) fun y=>(s.lv y2).2 y).elim
   ·exact((out 0 q y2).elim (keep a q z1 w1 y1) fun y=>(s.lv y1).2 y).elim
   ·exact((out 1 q y2).elim (keep a q z1 w1 y1) fun y=>(s.lv y1).2 y).elim
   ·exact s.dj a b q y1 y2
  ·rcases key2 j q hq with⟨_,z⟩ | ⟨_,_,z⟩ | ⟨_,_,z⟩
   ·exact none_of E1.h<|g.nw 0 q z
   ·exact none_of E1.h<|g.nw 1 q z
   ·exact s.nw j q z
end
end Wb
open Wb.EV renaming pkD->Jw
namespace Mi
def qZ(l:List Int):Int:=l.foldl (fun a b=>if b<a then b else a)<|l.headD 0
def ui(l:List Int):Res Int:=dR (0<l.length)<|qZ l
theorem iP:∀(l:List Int)(z:Int),(∀a∈l,l.foldl (fun a b=>if b<a then b else a) z<=a)/\l.foldl (fun a b=>if b<a then b else a) z<=z/\(l.foldl (fun a b=>if b<a then b else a) z=z\/l.foldl (fun a b=>if b<a then b else a) z∈l)
 | [],z=>⟨fun a h=>(nomatch h),K9 _,.inl rfl⟩
 |b::l,z=>by
  obtain⟨h1,h2,h3⟩:=iP l (if b<z then b else z);simp only[Gg];have hb:(if b<z then b else z)<=b/\(if b<z then b else z)<=z:=by split<;>omega
  refine⟨fun a ha=>?_,by omega,?_⟩
  ·rcases D7.mp ha with rfl | ha;·omega
   ·exact h1 a ha
  ·rcases h3 with h3 | h3
   ·rw[h3];by_cases c:b<z;·rw[if_pos c];exact .inr<|D0 ..
    ·rw[if_neg c];exact .inl rfl
   ·exact .inr<|D4 _ h3
theorem pQ{l:List Int}{a:Int}(h:a∈l):qZ l<=a:=(iP l _).1 a h
theorem mY{l:List Int}(h:0<l.length):qZ l∈l:=by
 rcases (iP l<|l.headD 0).2.2 with e|e
 ·unfold qZ;rw[e];cases l with
  |nil=>cases h
  |cons x r=>exact D0 ..
 ·exact e
def uj(s:Tx):Dat->Res Unit
 | .t [.s a,.l _]=>if a=s then .ok ()else .stuck
 |_=>.stuck
end Mi
namespace L2
open PySem PySem.Spec PyProof.Rows
theorem wB{X:Cx}:ya X .Sub (BJ fun i j=>i-j):=yc
theorem r0{X:Cx}{K:CL}(hc:X.calm=true)(h:X.K=K):ej X (.builtin "min") (fun xs H Q=>∃(p:Addr)(ns:List Int),xs=[.ref p]/\SqL K H p (ns.map FC)/\0<ns.length/\∀M,M∈ns->(∀a∈ns,M<=a)->Q (.int M) H):=by
 subst h;intro pins s σ H xs us Q I r h;obtain⟨p,ns,rfl,hq,hne,q⟩:=h;obtain⟨u,rfl,rx⟩:=fT r;cases rx;obtain⟨its,r',pl,hz⟩:=I.list hq;have hi:=jy r';obtain⟨xs,e⟩:=hi.allInts.items;have hns:ns=xs.toList.map (·.1):=by
  rw[<-hi.numsOf,<-Ld,<-e]
 have hsz:0<xs.size:=by
  have h3:=hne;rw[hns,Dq,Ek]at h3;exact h3
 have hl:s.heap.IsList p (intItems xs):=e▸pl.isList;refine min_intList (I.ok.hd hc) hl hsz fun v h' tk hv hk=>?_;obtain⟨t,rfl⟩:=intItems_at hv;obtain⟨h1,h2⟩:=argBest_lt (numAt xs)<|xs.size-1;refine⟨.int _,H,I.kept hk,⟨_,rfl⟩,q _ ?_ fun a ha=>?_⟩;·rw[hns,Ku];exact getD_mem (by rw[Dq,Ek];omega)
 ·rw[hns]at ha;obtain⟨j,hj,rfl⟩:=mem_getD ha;rw[Dq,Ek]at hj;rw[<-Ku];exact h2 j (by omega)
end L2
namespace Wb
open PySem L2 Mi
theorem yR{Er:Nat->Prop}{ta:TE}{σ:St}{W:Wd}{K:CL}{ma:Res (List Int)}(ha:EV Er ta σ W (pk isI) ma):EV Er (eo (fun xs H Q=>∃(p:Addr)(ns:List Int),xs=[.ref p]/\SqL K H p (ns.map FC)/\0<ns.length/\∀M,M∈ns->(∀a∈ns,M<=a)->Q (.int M) H)<|ag ta aH) σ W (sh isI) (ma.bind fun a=>ui a):=fun W1 e1 Q k=>
 ha W1 e1 _ ((CH k).imp fun a ka x W2 e2 hx=>by
  obtain⟨p,vs,rfl,h1,h2⟩:=hx;obtain⟨h3,h4⟩:=aM ka;refine⟨p,a,rfl,F6 (by rw[h1,h2.ints]),h3,fun M hM hb=>?_⟩;have e:M=qZ a:=Int.le_antisymm (hb _ (mY h3)) (pQ hM);rw[e];exact h4 _ W2 e2 rfl)
section
variable{Er:Nat->Prop}{α β γ ρ τ:Type}{t:TA}{σ:St}{W W0 W' Wi:Wd}{K:CL}{Cl:Addr}{f m:Str}{cs:List TC}{D:Ends}{i j k:Nat}{E:XK}
def FLe(RF:Rfo α)(n:Nat):Prop:=∀W F a fs,RF W F a fs->fs.length=n
theorem BG{R:Rf α}:FLe (o1 f R) 1:=fun W F a fs⟨v,h,_⟩=>by rw[h];rfl
theorem yS{R:Rf α}{RF:Rfo β}{n:Nat}(g:FLe RF n):FLe (oC f R RF) (n+1):=fun W F a fs⟨v,r,F1,F2,h1,h2,h3,_⟩=>by rw[h1,DW,g _ _ _ _ h3]
theorem FLe.lt{RF:Rfo α}{n:Nat}(g:FLe RF n)(h:n<1000:=by decide):Ab RF:=fun W F a fs z=>by rw[g _ _ _ _ z];exact h
theorem gP{g:Str}{v x:V}{r:List (Str×V)}(h:g≠f):dF f v ((g,x)::r)=(g,x)::dF f v r:=if_neg h
theorem iq{v:V}:dF f v []=[(f,v)]:=rfl
end
theorem bD{X:Cx}{K:CL}{e:Expr}{f:Str}{pos:Pos}{ta:TE}(h:X.K=K)(he:PE X e ta)(hb:attributeBase e f X.env (eval e X.env)=eval e X.env):PE X (.Attribute e f pos) (rV K ta f):=h▸yb he hb
section
variable{Er:Nat->Prop}{α β:Type}{t:TE}{σ:St}{W:Wd}{K:CL}
def BY(J:It)(W:Wd)(R:Rp α)(xs:List α):Prop:=∀W1:Wd,Ext W W1->(∀(i:Nat)(a:α),xs[i]? =some a->J.go i W1.H/\∀x H',J.yld i W1.H x H'->∃W2:Wd,W2.H=H'/\Ext W1 W2/\R W2.G a x)/\J.stop xs.length W1.H
def BH(Er:Nat->Prop)(wi:TI)(σ:St)(W:Wd)(R:Rp α)(m:Res (List α)):Prop:=∀W1,Ext W W1->∀P:It->Hp->Prop,m.OkE Er (fun xs=>∀J W2,Ext W1 W2->BY J W2 R xs->P J W2.H)->wi σ W1.H P
theorem mZ{R:Rp α}[Mono R]{m:Res (List α)}(h:EV Er t σ W (pk R) m):BH Er (mi K t) σ W R m:=fun W1 e1 P k=>
 h W1 e1 _ (k.imp fun xs kx v W2 e2 hv=>by
  obtain⟨p,vs,rfl,h1,h2⟩:=hv;refine⟨p,rfl,⟨vs,F6 h1⟩,kx _ W2 e2 fun W3 e3=>⟨fun i a ha=>?_,vs,F6 (e3.h _ _ h1),by rw[h2.1];exact D8 _⟩⟩;obtain⟨x,hx,hr⟩:=h2.get ha;refine⟨⟨vs,x,F6 (e3.h _ _ h1),hx⟩,fun y H'⟨z1,z2⟩=>⟨W3,z1.symm,.refl _,?_⟩⟩;have:=z2 vs (F6 (e3.h _ _ h1));rw[hx]at this;cases this;exact CJ e3.g hr)
theorem uk{cap:List (Option Nat)}{wi:TI}{g:TG}{te:TE}{R:Rp α}{R':Rp β}[Mono R']{m:Res (List α)}{f:α->Res β}(hi:BH Er wi σ W R m)
  (hb:∀(W1:Wd)(a:α)(v:V),Ext W W1->R W1.G a v->∀Q:VK,(f a).OkE Er (fun b=>∀u W2,Ext W1 W2->R' W2.G b u->Q u W2.H)->g v (bh cap σ) W1.H fun σ2 H2=>Keep (bh cap σ) σ2/\te σ2 H2 Q):
  EVo Er (jE cap wi g yj te) σ W R' (m.bind fun xs=>bB xs f):=fun W1 e1 Q k=>by
 refine hi W1 e1 _<|(CH k).imp fun xs kx J W2 e2 hy=>?_;obtain⟨hl,kx⟩:=aM<|CH kx;refine⟨fun i n ys H=>n=xs.length-i/\i<=xs.length/\ys.length<=i/\∃(W3:Wd)(bs:List β),W3.H=H/\Ext W2 W3/\LR R' W3.G bs ys/\(iH f<|xs.drop i).OkE Er (fun r=>∀p W4,Ext W1 W4->W1.H p=none->Ow R' W4 p (bs++r)->Q (.ref p) W4.H),⟨xs.length,by simp,by simp,by simp,W2,[],rfl,.refl _,.nil,?_⟩,?_⟩;·simpa using kx
 ·rintro i n ys H ⟨rfl,hi1,hyl,W3,bs,rfl,e3,lr,q⟩;refine⟨by rw[El];unfold Mi.cap at hl;omega,?_⟩;by_cases hlt:i<xs.length
  ·obtain⟨a,ha⟩:∃a,xs[i]? =some a:=⟨xs[i],by simp[hlt]⟩
   obtain⟨h1,h2⟩:=(hy W3 e3).1 i a ha;refine .inr ⟨h1,fun ys' H'=>ys'.length<=i+1/\∃(W3:Wd)(bs:List β),W3.H=H'/\Ext W2 W3/\LR R' W3.G bs ys'/\(iH f<|xs.drop<|i+1).OkE Er (fun r=>∀p W4,Ext W1 W4->W1.H p=none->Ow R' W4 p (bs++r)->Q (.ref p) W4.H),fun ys' H'⟨z1,z2⟩=>⟨xs.length-(i+1),by omega,rfl,hlt,z1,z2⟩,fun x H' hx=>?_⟩;obtain⟨W4,rfl,e4,rx⟩:=h2 x H' hx;rw[kW ha]at q;have:=hb W4 a x (e1.trans<|(e2.trans e3).trans e4) rx (fun y H4=>(ys++[y]).length<=i+1/\∃(W3:Wd)(bs:List β),W3.H=H4/\Ext W2 W3/\LR R' W3.G bs (ys++[y])/\(iH f<|xs.drop<|i+1).OkE Er (fun r=>∀p W4,Ext W1 W4->W1.H p=none->Ow R' W4 p (bs++r)->Q (.ref p) W4.H))
    ((CH q).imp fun b kb u W5 e5 hu=>⟨by simp;exact hyl,W5,bs++[b],rfl,(e3.trans e4).trans e5,(lr.same (e4.trans e5).g).snoc hu,(CH kb).imp fun r kr=>by rw[Fd];exact kr⟩)
   exact this
  ·have e:i=xs.length:=by omega
   subst e;rw[FK]at q;refine .inl ⟨(hy W3 e3).2,fun D hD=>?_⟩;have e13:=e2.trans e3;have:=q D (W3.mut D (.lst ys)<|W3.gnone hD) (e13.trans<|.own _ hD) (none_of e13.h hD) ⟨W3.gnone hD,ys,ak,by rw[DK];exact lr⟩;exact this
theorem r6{cap:List (Option Nat)}{wi:TI}{g:TG}{tf:TT}{te:TE}{R:Rp α}{R':Rp β}[Mono R']{m:Res (List α)}{f:α->Res (Option β)}(hi:BH Er wi σ W R m)
    (hb:∀(W1:Wd)(a:α)(v:V),Ext W W1->R W1.G a v->∀Q:Option V->Hp->Prop,(f a).OkE Er (fun b=>∀u W2,Ext W1 W2->(match b,u with|some b,some u=>R' W2.G b u|none,none=>True|_,_=>False)->Q u W2.H)->g v (bh cap σ) W1.H fun σ2 H2=>Keep (bh cap σ) σ2/\tf σ2 H2 fun b H3=>if b=true then te σ2 H3 (fun y H4=>Q (some y) H4)else Q none H3):
    EVo Er (jE cap wi g tf te) σ W R' (m.bind fun xs=>i7 xs f):=fun W1 e1 Q k=>by
  refine hi W1 e1 _<|(CH k).imp fun xs kx J W2 e2 hy=>?_;obtain⟨hl,kx⟩:=aM<|CH kx;refine⟨fun i n ys H=>n=xs.length-i/\i<=xs.length/\ys.length<=i/\∃(W3:Wd)(bs:List β),W3.H=H/\Ext W2 W3/\LR R' W3.G bs ys/\(fM f<|xs.drop i).OkE Er (fun r=>∀p W4,Ext W1 W4->W1.H p=none->Ow R' W4 p (bs++r)->Q (.ref p) W4.H),⟨xs.length,by simp,by simp,by simp,W2,[],rfl,.refl _,.nil,?_⟩,?_⟩;·simpa using kx
  · rintro i n ys H ⟨rfl,hi1,hyl,W3,bs,rfl,e3,lr,q⟩;refine⟨by rw[El];unfold Mi.cap at hl;omega,?_⟩;by_cases hlt:i<xs.length
    · obtain⟨a,ha⟩:∃a,xs[i]? =some a:=⟨xs[i],by simp[hlt]⟩
      obtain⟨h1,h2⟩:=(hy W3 e3).1 i a ha;refine .inr ⟨h1,fun ys' H'=>ys'.length<=i+1/\∃(W3:Wd)(bs:List β),W3.H=H'/\Ext W2 W3/\LR R' W3.G bs ys'/\(fM f<|xs.drop<|i+1).OkE Er (fun r=>∀p W4,Ext W1 W4->W1.H p=none->Ow R' W4 p (bs++r)->Q (.ref p) W4.H),fun ys' H'⟨z1,z2⟩=>⟨xs.length-(i+1),by omega,rfl,hlt,z1,z2⟩,fun x H' hx=>?_⟩;obtain⟨W4,rfl,e4,rx⟩:=h2 x H' hx;rw[jK ha]at q
      have:=hb W4 a x (e1.trans<|(e2.trans e3).trans e4) rx (fun y H4=>(match y with|some y=>ys++[y]|none=>ys).length<=i+1/\∃(W3:Wd)(bs:List β),W3.H=H4/\Ext W2 W3/\LR R' W3.G bs (match y with|some y=>ys++[y]|none=>ys)/\(fM f<|xs.drop<|i+1).OkE Er (fun r=>∀p W4,Ext W1 W4->W1.H p=none->Ow R' W4 p (bs++r)->Q (.ref p) W4.H))
        ((CH q).imp fun b kb u W5 e5 hu=>by
          match b,u,hu,kb with
          |some b,some u,hu,kb=>exact⟨by simp;exact hyl,W5,bs++[b],rfl,(e3.trans e4).trans e5,(lr.same (e4.trans e5).g).snoc hu,(CH kb).imp fun r kr=>by rw[Fd];exact kr⟩
          |none,none,hu,kb=>exact⟨by show ys.length<=i+1;omega,W5,bs,rfl,(e3.trans e4).trans e5,lr.same (e4.trans e5).g,(CH kb).imp fun r kr=>kr⟩)
      exact this
    · have e:i=xs.length:=by omega
      subst e;rw[FK]at q;refine .inl ⟨(hy W3 e3).2,fun D hD=>?_⟩;have e13:=e2.trans e3;have:=q D (W3.mut D (.lst ys)<|W3.gnone hD) (e13.trans<|.own _ hD) (none_of e13.h hD) ⟨W3.gnone hD,ys,ak,by rw[DK];exact lr⟩;exact this
end
end Wb
namespace L2
open PySem PySem.Spec PyProof.Rows Wb
def Ad(neg:Bool):R2:=fun x y H Q=>∃a b kvs,x=.ref a/\y=.ref b/\Rd H a (.dK kvs)/\Rd H b (.dK kvs)/\(∀kv∈kvs,∃i,kv.2=FC i)/\Q (.bl neg) H
theorem jR{k:Key}{i:Int}:∀{kvs:List (Key×V)}{kb:List (Key×CN)},KV kvs kb->(kb.map (·.1)).Nodup->(k,FC i)∈kvs->∃t,valueAt kb k=some (.int i t)
 |_,_,.nil,_,h=>nomatch h
 |p::r,q::s, .cons h0 t,hn,h=>by
  rw[DO,E7]at hn;rcases D7.mp h with rfl|h
  ·obtain⟨h1,u,h2⟩:=h0;refine⟨u,?_⟩;unfold valueAt;rw[EE (by simpa using h1.symm),Gj,h2]
  ·obtain⟨u,hu⟩:=jR t hn.2 h;refine⟨u,?_⟩;have ne:q.1≠k:=fun z=>hn.1 (by
    unfold valueAt at hu;obtain⟨y,hy,_⟩:=ED.mp hu;have h1:=HM hy;have h2:=Kf hy;rw[z];exact Di.mpr ⟨y,h1,by simpa using h2⟩)
   unfold valueAt at hu ⊢;rw[DH (by simpa using ne)];exact hu
theorem iZ{A:Dy}{s:CO}{kb:List (Key×CN)}:∀{kvs:List (Key×V)}{ka:List (Key×CN)},KV kvs ka->(∀kv∈kvs,∃i,kv.2=FC i)->(∀k i,(k,FC i)∈kvs->∃t,valueAt kb k=some (.int i t))->Kg A s kb ka true
 |_,_,.nil,_,_=>.nil
 |(k,v)::r,(k',u)::l, .cons h0 t,hi,hv=>by
  obtain⟨i,rfl⟩:=hi (k,v)<|D0 ..;obtain⟨h1,t1,h2⟩:=h0;cases (show k=k' from h1);obtain rfl:u=.int i t1:=h2;obtain⟨t2,h3⟩:=hv k i<|D0 ..;have:=LM (r:=l) h3 (LY (A:=A) (s:=s) i t1 i t2)<|iZ t (fun kv h=>hi kv<|D4 _ h) fun k i h=>hv k i<|D4 _ h;rw[beq_self_eq_true]at this;exact this
theorem um{X:Cx}{pins:List (Addr×Obj)}{σ:St}{H:Hp}{s:CO}{a b:Addr}{kvs:List (Key×V)}(I:Inv X pins σ H s)(h1:Rd H a (.dK kvs))(h2:Rd H b (.dK kvs))(hi:∀kv∈kvs,∃i,kv.2=FC i):(a==sysModules)=false/\(b==sysModules)=false/\∃ka kb,s.heap.DictOf (bf X.prog X.w) a ka/\s.heap.DictOf (bf X.prog X.w) b kb/\ka.length=kb.length/\∀A,Kg A s kb ka true:=by
 obtain⟨_,z1,ka,r1,d1⟩:=i4 I.hok h1;obtain⟨_,z2,kb,r2,d2⟩:=i4 I.hok h2;obtain⟨o,es,ep,_,_,_,_,_,hn⟩:=id d2;exact⟨z1,z2,ka,kb,d1,d2,by rw[<-Paired.length r1,<-Paired.length r2],fun A=>iZ r1 hi fun k i h=>jR r2 hn h⟩
theorem yT{X:Cx}(hu:X.A.units<cLine):OpR X (compareOp .NotEq) (Ad false):=by
 intro pins s σ H x y v u Q I rx ry h;obtain⟨a,b,kvs,rfl,rfl,h1,h2,hi,hq⟩:=h;cases rx;cases ry;obtain⟨z1,z2,ka,kb,d1,d2,hl,hh⟩:=um I h1 h2 hi;refine PySem.W.keq_ne z1 z2 d1 d2 hu (fun _=>hh _) ?_;rw[hl,beq_self_eq_true];exact⟨.bl false,H,I,rfl,hq⟩
def uo(tl:TE):TE:=fun σ H Q=>tl σ H fun x H1=>∃a kvs,x=.ref a/\H1 a=some (.dK kvs)/\Q .non (cg H1 a<|.dK [])
theorem wD{X:Cx}{cpos apos:Pos}{l:Expr}{tl:TE}(hl:PE X l tl)(hbase:attributeBase l "clear" X.env (eval l X.env)=eval l X.env:=by rfl)(hline:(apos.endLine==cpos.line)=true:=by rfl):PE X (.Call (.Attribute l "clear" apos) [] [] cpos) (uo tl):=by
 intro pins s σ H Q I h;refine Gy hbase hline<|bO (hl pins s σ H _ I h) fun v s1 zz=>?_;obtain⟨x,H1,I1,r1,q1⟩:=zz;obtain⟨a,kvs,e,ha,q⟩:=q1;subst e;obtain rfl:v=D6 a:=r1;obtain⟨t1,t2,_⟩:=nM I1<|.inl ⟨kvs,.inl ha⟩;refine⟨"dict","dict.clear",Gz,I9,PySem.F.type_dict_clear,t1,fun b hb=>by cases hb;exact t2 _ rfl,Fj rfl<|Hu ?_⟩;exact vL I1 ha fun s' I'=>⟨.non,_,I',rfl,q⟩
end L2
namespace Wb
open PySem L2 Mi
section
variable{Er:Nat->Prop}{α β γ ρ τ:Type}{t ta tb te:TE}{tA:TA}{σ:St}{W W0 W' Wi:Wd}{K:CL}{D:Ends}{i j k:Nat}{r:TS}{cs:List TC}{E:XK}{Cl:Addr}{m:Str}
def oDk(g:β->Key)(R:Rp α):Rf (List<|β×α):=fun W F xs v=>∃p,v=.ref p/\OwD g R W p xs/\∀q,F q↔q=p
section
variable{g:β->Key}{R:Rp α}[Mono R]
instance zkeep85:FrT (oDk g R):=⟨fun⟨p,e,o,hF⟩s k=>⟨p,e,o.keep (k p<|(hF p).mpr rfl).1 s (k p<|(hF p).mpr rfl).2,hF⟩,fun⟨p,e,o,hF⟩q hq=>by
 obtain⟨kv,a,_⟩:=o.h;rw[(hF q).mp hq];exact⟨o.g,nn_of a⟩⟩
theorem EVd.tr{mm:Res (List<|β×α)}(h:EVd Er t σ W g R mm):tP Er t σ W (oDk g R) mm:=fun W1 e1 Q k=>h W1 e1 Q (k.imp fun xs kx p W2 e2 hp o=>kx _ W2 (· =p) e2 (fun q hq=>by rw[hq];exact hp) ⟨p,rfl,o,fun _=>Gm⟩)
theorem n0{mm:Res (List<|β×α)}(h:EV Er t σ W (vw<|oDk g R) mm):EV Er t σ W (Wb.pkD g R) mm:=h.imp fun _ _ _⟨_,p,e,o,_⟩=>by rw[e];exact o.pkD
theorem DR.uniq{G:Hp}{xs:List (β×Int)}{kv kv':List (Key×V)}(h:DR g isI G xs kv)(h':DR g isI G xs kv'):kv=kv'/\∀q∈kv,∃i,q.2=FC i:=by
 refine⟨GK fun n=>?_,fun q hq=>?_⟩
 ·cases hx:xs[n]? with
  |none=>
   have:=DA.mp hx;rw[DA.mpr (by rw[h.1];exact this),DA.mpr (by rw[h'.1];exact this)]
  |some x=>
   have hn:=(CP.mp hx).1;obtain⟨a1,a2⟩:=h.2 n _ x (Dj (by rw[h.1];exact hn)) hx;obtain⟨b1,b2⟩:=h'.2 n _ x (Dj (by rw[h'.1];exact hn)) hx;rw[Dj (by rw[h.1];exact hn),Dj (by rw[h'.1];exact hn)];exact congrArg some (Me (a1.trans b1.symm) ((show _=FC x.2 from a2).trans (show _=FC x.2 from b2).symm))
 ·obtain⟨n,hn,e⟩:=List.getElem_of_mem hq;have hx:n<xs.length:=by rw[<-h.1];exact hn
  obtain⟨_,a2⟩:=h.2 n _ xs[n] (Dj hn) (Dj hx);rw[e]at a2;exact⟨_,a2⟩
theorem yU[DecidableEq β]{b:Bool}{ma mb:Res (List<|β×Int)}(ha:EV Er ta σ W (Wb.pkD g isI) ma)(hb:EV Er tb σ W (Wb.pkD g isI) mb):EV Er (dh (Ad b) ta tb) σ W (sh isB) (ma.bind fun x=>mb.bind fun y=>dR (x=y) b):=
 nP ha hb fun W x y u v Q hx hy k=>by
  obtain⟨p,kv,rfl,o1,o2⟩:=hx;obtain⟨q,kv',rfl,o3,o4⟩:=hy;obtain⟨h1,h2⟩:=aM k;subst h1;obtain⟨rfl,hi⟩:=o2.uniq o4;exact⟨p,q,kv,rfl,rfl,o1,o3,hi,h2 _ W (.refl _) rfl⟩
theorem wF{xs:List (β×α)}{v:V}(S:Sep W0 W cs)(E0:Ext W0 W)(hc:cs[k]? =some (tc (oDk g R) xs v))(q:∀W',Same W.G W'.G->Ext W0 W'->Sep W0 W' (cs.eraseIdx k)->D.nx σ W'.H)(hi:σ[i]? =some (some v):=by rfl):aV (uo<|ba i) D σ W.H:=by
 obtain⟨Fs,s⟩:=S;obtain⟨p,rfl,o,hF⟩:=(show oDk g R W (Fs k) xs v from s.el k _ hc)
 obtain⟨kv,a,b⟩:=o.h;have hp:Fs k p:=(hF p).mpr rfl;refine⟨.ref p,hi,p,kv,rfl,a,?_⟩;have S1:=s.put (R:=oDk g R) (F:=(· =p)) (b:=[]) (u:=.ref p) E0 (LZ (o:=.dK []) hp o.g) (fun q hq=>.inl (by rw[hq];exact hp)) ⟨p,rfl,⟨o.g,[],ak,rfl,fun i q x h=>by simp at h⟩,fun _=>Gm⟩ (CP.mp hc).1;have S2:=S1.del k;rw[G6]at S2;exact q (W.mut p (.dK []) o.g) (.refl _) (E0.mut (s.nw k p hp) o.g) S2
theorem r9{xs:List (β×α)}{v:V}(S:Sep W0 W cs)(E0:Ext W0 W)(hc:cs[k]? =some (tc (oDk g R) xs v))(q:∀W',Same W.G W'.G->Ext W0 W'->Sep W0 W' (cs.eraseIdx k)->r D σ W'.H)(hi:σ[i]? =some (some v):=by rfl):dC (aV<|uo<|ba i) r D σ W.H:=wF (D:={D with nx:=r D}) S E0 hc q hi
end
def oUn(K:CL)(s:Tx):Rf Dat:=fun W F d v=>(∃p q xs vs,d=.t [.s s,.l xs]/\v=.ref p/\SqT K W.G p [.str (sOf s),.ref q]/\W.G q=none/\W.H q=some (.lst vs)/\LR (isU K) W.G xs vs/\∀a,F a↔a=q)\/(isU K W.G d v/\(∀x,d≠.t [.s s,x])/\∀a,¬F a)
instance zkeep86{s:Tx}:FrT (oUn K s):=⟨fun h e k=>by
 rcases h with⟨p,q,xs,vs,h0,h00,h1,h2,h3,h4,h5⟩|⟨h1,h2,h3⟩
 ·have kq:=k q<|(h5 q).mpr rfl;exact .inl ⟨p,q,xs,vs,h0,h00,Hl e h1,by rw[kq.2];exact h2,by rw[kq.1];exact h3,h4.same e,h5⟩
 ·exact .inr ⟨CJ e h1,h2,h3⟩,fun h q hq=>by
 rcases h with⟨p,q',xs,vs,h0,h00,h1,h2,h3,h4,h5⟩|⟨h1,h2,h3⟩
 ·rw[(h5 q).mp hq];exact⟨h2,nn_of h3⟩
 ·exact absurd hq (h3 q)⟩
instance zkeep87{s:Tx}:FzT (oUn K s) (isU K):=⟨fun h e k=>by
 rcases h with⟨p,q,xs,vs,rfl,rfl,h1,h2,h3,h4,h5⟩|⟨h1,h2,h3⟩
 ·have kq:=k q<|(h5 q).mpr rfl;have h4:=h4.same e;refine .t (vs:=[.str (sOf s),.ref q]) (Hl e h1) rfl fun j d v a b=>?_
  match j,a,b with
  |0,a,b=>cases a;cases b;exact .s
  |1,a,b=>cases a;cases b;exact .l (vs:=vs) (by rw[kq];exact h3) h4.1 fun j d v a b=>h4.2 j v d b a
 ·exact CJ e h1⟩
abbrev n5(W0 Wi:Wd)(R:Rf τ)[FrT R](RT:Rf ρ)[FrT RT](v:V)(Q:VK):τ×ρ->Prop:=fun r=>∀u W',Ext W0 W'->Same Wi.G W'.G->Sep W0 W' [tc R r.1 v,tc RT r.2 u]->Q u W'.H
def ur(R:Rf τ)[FrT R](RA:Ra α)(cs:List Addr)(RT:Rf ρ)[FrT RT](m:τ->α->Res (τ×ρ)):Sp:=fun vs H Q E=>∃(W0 W:Wd)(F:FS)(x:τ)(v:V)(a:α)(us:List V),W.H=H/\vs=v::us/\Ext W0 W/\(∀q,F q->W0.H q=none)/\R W F x v/\RA W.G a us/\∃Er:Nat->Prop,Esc Er cs E W/\(m x a).OkE Er (n5 W0 W R RT v Q)
def rf(R:Rf τ)[FrT R](RA:Ra α)(RT:Rf ρ)[FrT RT](m:τ->α->Res (τ×ρ)):Sp:=fun vs H Q _=>∃(W0 W:Wd)(F:FS)(x:τ)(v:V)(a:α)(us:List V),W.H=H/\vs=v::us/\Ext W0 W/\(∀q,F q->W0.H q=none)/\R W F x v/\RA W.G a us/\∃Er:Nat->Prop,(m x a).OkE Er (n5 W0 W R RT v Q)
section
variable{R:Rf τ}[FrT R]{RT:Rf ρ}[FrT RT]{RA:Ra α}{x:τ}{v:V}{ma:Res α}{mf:τ->α->Res (τ×ρ)}{csx:List Addr}{Q:VK}
theorem Sep.callT(S:Sep W0 W cs)(E0:Ext W0 W)(hc:cs[k]? =some (tc R x v)):∃W1 F,Ext W1 W/\R W F x v/\(∀q,F q->W1.H q=none)/\∀W' b y u,Ext W1 W'->Sep W1 W' [tc R b v,tc RT y u]->Ext W0 W'/\Sep W0 W' (cs.set k (tc R b v)++[tc RT y u]):=by
 have kk:k<cs.length:=(CP.mp hc).1;have S1:Sep W0 W (cs++[tc noT () .non]):=S.add (F:=fun _=>False) E0 (.refl _) (fun q h=>h.elim)<|fun q h=>h;obtain⟨W1,z1,⟨Fs,s⟩,up⟩:=S1.call2g (k:=k) (l:=cs.length) E0 (by rw[Dz kk];exact hc) (by rw[Dt<|D8 _,JN];rfl)<|Dc kk;refine⟨W1,Fs 0,z1,s.el 0 _ rfl,s.nw 0,fun W' b y u e S'=>?_⟩;obtain⟨y1,y2⟩:=up W' _ _ e S';refine⟨y1,?_⟩;rw[List.set_append_left _ _ kk,List.set_append_right _ _ (by rw[F5];exact D8 _)]at y2;rw[F5,JN]at y2;exact y2
theorem yV(hm:HasM R Cl m)(S:Sep W0 W cs)(E0:Ext W0 W)(hc:cs[k]? =some (tc R x v))(hi:σ[i]? =some (some v))(ha:qU Er tA σ W RA ma)(hE:Esc Er csx E W)
  (q:(ma.bind fun a=>mf x a).OkE Er fun r=>∀u W',Ext W0 W'->Same W.G W'.G->Sep W0 W' (cs.set k (tc R r.1 v)++[tc RT r.2 u])->Q u W'.H):fL Cl m (ur R RA csx RT mf) [] E (ba i) tA σ W.H Q:=by
 obtain⟨Fs,s⟩:=id S;obtain⟨a,dx,fs,e,h1,h2⟩:=hm.at_<|s.el k _ hc;refine⟨v,hi,a,dx,fs,e,h1,h2,ha W (.refl _) _<|(CH q).imp fun b kb us W2 e2 hu=>?_⟩;obtain⟨W1,F,x1,t1,n1,up⟩:=(S.ext e2).callT (RT:=RT) (E0.trans e2) hc;refine⟨W1,W2,F,x,v,b,us,rfl,by rw[DK],x1,n1,t1,hu,Er,hE.mono e2,kb.imp fun r kr u W' e' hs S'=>?_⟩;obtain⟨z1,z2⟩:=up W' _ _ _ e' S';exact kr u W' z1 (e2.g.trans hs) z2
theorem yW(S:Sep W0 W cs)(E0:Ext W0 W)(hc:cs[k]? =some (tc R x v))(hi:σ[i]? =some (some v))(ha:qU Er tA σ W RA ma)
  (q:(ma.bind fun a=>mf x a).OkE Er fun r=>∀u W',Ext W0 W'->Same W.G W'.G->Sep W0 W' (cs.set k (tc R r.1 v)++[tc RT r.2 u])->Q u W'.H):aK (rf R RA RT mf) [] E (ag (ba i) tA) σ W.H Q:=by
 refine⟨v,hi,ha W (.refl _) _<|(CH q).imp fun b kb us W2 e2 hu=>?_⟩;obtain⟨W1,F,x1,t1,n1,up⟩:=(S.ext e2).callT (RT:=RT) (E0.trans e2) hc;refine⟨W1,W2,F,x,v,b,us,rfl,by simp,x1,n1,t1,hu,Er,kb.imp fun r kr u W' e' hs S'=>?_⟩;obtain⟨z1,z2⟩:=up W' _ _ _ e' S';exact kr u W' z1 (e2.g.trans hs) z2
theorem uu{σ':V->St}(hm:HasM R Cl m)(S:Sep W0 W cs)(E0:Ext W0 W)(hc:cs[k]? =some (tc R x v))(hi:σ[i]? =some (some v))(ha:qU Er tA σ W RA ma)(hE:Esc Er csx E W)(q:(ma.bind fun a=>mf x a).OkE Er fun r=>∀u W',Ext W0 W'->Same W.G W'.G->Sep W0 W' (cs.set k (tc R r.1 v)++[tc RT r.2 u])->D.nx (σ' u) W'.H)(hσ:∀u,σ.set j (some u)=σ' u:=by intro _;rfl):bS (fL Cl m (ur R RA csx RT mf) [] E (ba i) tA) (aF j) D σ W.H:=
 yV (Q:=fun u H=>D.nx (σ.set j<|some u) H) hm S E0 hc hi ha hE (q.imp fun r kr u W' e' hs S'=>by have:=kr u W' e' hs S';rw[<-hσ]at this;exact this)
theorem uv{σ':V->St}(S:Sep W0 W cs)(E0:Ext W0 W)(hc:cs[k]? =some (tc R x v))(hi:σ[i]? =some (some v))(ha:qU Er tA σ W RA ma)(q:(ma.bind fun a=>mf x a).OkE Er fun r=>∀u W',Ext W0 W'->Same W.G W'.G->Sep W0 W' (cs.set k (tc R r.1 v)++[tc RT r.2 u])->D.nx (σ' u) W'.H)(hσ:∀u,σ.set j (some u)=σ' u:=by intro _;rfl):bS (aK (rf R RA RT mf) [] E<|ag (ba i) tA) (aF j) D σ W.H:=
 yW (Q:=fun u H=>D.nx (σ.set j<|some u) H) S E0 hc hi ha (q.imp fun r kr u W' e' hs S'=>by have:=kr u W' e' hs S';rw[<-hσ]at this;exact this)
theorem om{σ':V->St}(S:Sep W0 W cs)(E0:Ext W0 W)(hc:cs[k]? =some (tc R x v))(hi:σ[i]? =some (some v))(ha:qU Er tA σ W RA ma)(q:(ma.bind fun a=>mf x a).OkE Er fun y=>∀u W',Ext W0 W'->Same W.G W'.G->Sep W0 W' (cs.set k (tc R y.1 v)++[tc RT y.2 u])->r D (σ' u) W'.H)(hσ:∀u,σ.set j (some u)=σ' u:=by intro _;rfl):dC (bS (aK (rf R RA RT mf) [] E<|ag (ba i) tA)<|aF j) r D σ W.H:=uv (D:={D with nx:=r D}) S E0 hc hi ha q hσ
theorem oo{mm:Res ρ}(S:Sep W0 W cs)(hc:cs[k]? =some (tc R x v))(E0:Ext W0 W)(hS:Same Wi.G W.G)(h:tP Er te σ W RT mm)(q:(mm.bind fun r=>.ok (x,r)).OkE Er (n5 W0 Wi R RT v D.rt)):cq te D σ W.H:=
 h W (.refl _) _ ((CH q).imp fun a ka u W2 F e2 hF t=>ka u W2 (E0.trans e2) (hS.trans e2.g) (by
  have kk:k<cs.length:=(CP.mp hc).1;have S1:=(S.add (R:=RT) E0 e2 hF t).sel [k,cs.length] (by simp;exact Dc kk);have e1:(cs++[tc RT a u])[k]? =some (tc R x v):=by rw[Dz kk];exact hc
  have e3:(cs++[tc RT a u])[cs.length]? =some (tc RT a u):=by rw[Dt<|D8 _,JN];rfl
  simp only[DO,G8,G7,e1,e3,Ga]at S1;exact S1))
end
theorem uw{R:Rf τ}[FrT R]{R1:Rp ρ}[Mono R1]{s:Tx}{x:τ}{v w:V}{xs:List ρ}{u:ρ->Dat}{sx:Str}{Q:VK}(hu:pC K R1 u)(hs:sx=sOf s)(S:Sep W0 W [tc R x v,tc (oL<|fz R1) xs w])(E0:Ext W0 W)(hS:Same Wi.G W.G)(hD:D.rt=Q)(q:n5 W0 Wi R (oUn K s) v Q (x,.t [.s s,.l<|xs.map u]))(hi:σ[i]? =some (some w):=by rfl):cq (cu<|ag (tC<|.str sx)<|ag (ba i) aH) D σ W.H:=by
 refine⟨w,hi,(by show 2<=sizeLine;decide),fun p hp=>?_⟩;show D.rt _ _;rw[hD];have e:Ext W (W.new p<|.tup [.str sx,w]):=.new _ hp;refine q (.ref p) (W.new p<|.tup [.str sx,w]) (E0.trans e) (hS.trans e.g) ?_;obtain⟨Fs,s'⟩:=S.ext e;obtain⟨p0,vs,ew,h1,lr,hF,g,_⟩:=oL.lf (show oL (fz R1) _ (Fs 1) xs w from s'.el 1 _ rfl);subst ew;refine s'.put (i:=1) (R:=oUn K s) (F:=(· =p0)) (b:=.t [.s s,.l<|xs.map u]) (u:=.ref p) (E0.trans e) ((Ext.refl _).muF) (fun q hq=>.inl (by rw[hq];exact hF)) (.inl ⟨p,p0,_,vs,rfl,rfl,by rw[<-hs];exact Ju ak,g,h1,⟨by rw[lr.1,Dq],fun j v d h2 h1=>?_⟩,fun _=>Gm⟩) (by simp);rw[DQ]at h1;cases ha:xs[j]? with
 |none=>rw[ha]at h1;cases h1
 |some y=>rw[ha]at h1;cases h1;exact hu _ _ _<|lr.2 j v y h2 ha
theorem ux{s:Tx}{d:Dat}{v:V}(S:Sep W0 W cs)(E0:Ext W0 W)(hc:cs[k]? =some (tc (oUn K s) d v))(q:(uj s d).OkE Er fun _=>∀W',Same W.G W'.G->Ext W0 W'->Sep W0 W' (cs.eraseIdx k)->D.nx σ W'.H)(hi:σ[i]? =some (some v):=by rfl):aV (cC K "list" aQ<|dh (cH K) (ba i)<|tC<|.int 1) D σ W.H:=by
 obtain⟨Fs,s'⟩:=S;have kk:k<cs.length:=(CP.mp hc).1;rcases (show oUn K s W (Fs k) d v from s'.el k _ hc)with⟨p,p1,xs,vs,rfl,rfl,h1,h2,h3,h4,h5⟩|⟨h1,h2,h3⟩
 ·have q':(if s=s then CT ()else .stuck).OkE Er fun _=>∀W',Same W.G W'.G->Ext W0 W'->Sep W0 W' (cs.eraseIdx k)->D.nx σ W'.H:=q;rw[if_pos rfl]at q';have hp:Fs k p1:=(h5 p1).mpr rfl;refine⟨.ref p,hi,p,_,1,.ref p1,rfl,rfl,Hl W.ok h1,rfl,.inl ⟨rfl,vs,F6 h3⟩,p1,vs,rfl,rfl,h3,?_⟩;have S1:=s'.put (R:=noT) (F:=fun _=>False) (b:=()) (u:=.non) E0 (LZ (o:=.lst []) hp h2) (fun q hq=>hq.elim) (fun q hq=>hq) kk;have S2:=S1.del k;rw[G6]at S2;exact q' (W.mut p1 (.lst []) h2) (.refl _) (E0.mut (s'.nw k p1 hp) h2) S2
 ·exfalso;unfold uj at q;split at q
  ·split at q;·rename_i e;exact h2 _ (by rw[e])
   ·exact q
  ·exact q
theorem oq{s:Tx}{d:Dat}{v:V}(S:Sep W0 W cs)(E0:Ext W0 W)(hc:cs[k]? =some (tc (oUn K s) d v))(q:(uj s d).OkE Er fun _=>∀W',Same W.G W'.G->Ext W0 W'->Sep W0 W' (cs.eraseIdx k)->r D σ W'.H)(hi:σ[i]? =some (some v):=by rfl):dC (aV<|cC K "list" aQ<|dh (cH K) (ba i)<|tC<|.int 1) r D σ W.H:=ux (D:={D with nx:=r D}) S E0 hc q hi
def Ae(K:CL)(W0 W Wi:Wd)(cl:List TC)(k:Nat)(R:Rf τ)[FrT R](RT:Rf ρ)[FrT RT](s0:Tx)(x:τ)(v:V)(Q:VK)(s:Tx)(D:Ends)(rest:TS)(σ':V->St):(τ×ρ) ⊕ Nat->Prop
 | .inl r=>∀u W',Ext W0 W'->Same W.G W'.G->Sep W0 W' (cl.set k (tc R r.1 v)++[tc RT r.2 u])->rest D (σ' u) W'.H
 | .inr j=>n5 W0 Wi R (oUn K s0) v Q (x,nX s j)
theorem wG{R:Rf τ}[FrT R]{RT:Rf ρ}[FrT RT]{x:τ}{v:V}{base:Heap}{cx:List Addr}{aB:Addr}{s s0:Tx}{ie:Nat}{rest tb:TS}{σ':V->St}{xs:Str}{Q:VK}{mm:Res (τ×ρ)}(S:Sep W0 W [tc R x v])(E0:Ext W0 W)(hS:Same Wi.G W.G)(Z:Kin K base cx aB)(hs:xs=sOf s)(hD:D.rt=Q)(hne:s≠s0)
  (h:∀Er',Esc Er' cx (EX K cx s W Q) W->∀D':Ends,mm.OkE Er' (fun r=>∀u W',Ext W0 W'->Same W.G W'.G->Sep W0 W' ([tc R x v].set 0 (tc R r.1 v)++[tc RT r.2 u])->D'.nx (σ' u) W'.H)->tb D' σ W.H)
  (q:(LJ mm).OkE Er (Ae K W0 W Wi [tc R x v] 0 R RT s0 x v Q s D rest σ')) (hi:ie<σ.length:=by first|decide|simp):
  dC (A2 (EX K cx s W Q) ie tb<|yC K cx aB ie xs) rest D σ W.H:=by
 refine⟨h (fun j=>n5 W0 Wi R (oUn K s0) v Q (x,nX s j)) (fun j hj y W' e hy=>⟨⟨y,rfl⟩,j,W',rfl,rfl,e,fun u W2 e2 hu=>hj u W2 (E0.trans e2) (hS.trans e2.g) ?_⟩) {D with nx:=rest D}<|Res.tryR_OkE q,fun y C od oe σ1 H1 hE hx hh hl=>tK Z hs hD hE (by rw[hl];exact hi)⟩;refine(S.ext e2).add (R:=oUn K s0) (F:=fun _=>False) (E0.trans e2) (.refl _) (fun _ z=>z.elim) (.inr ⟨hu,fun z hz=>?_,fun _ z=>z⟩);unfold nX at hz;cases hz;exact hne rfl
end
end Wb
namespace Mi
noncomputable section
abbrev di:Type:=List<|Tx×Int
abbrev eZ:=Dat×(List Cd)×(List Int)×(List Int)×di×(Option<|List Pl)
abbrev Z03:=Int×eZ×(List eZ)×(List eZ)
@[irreducible]noncomputable def AS(Z0r:List Int)(l_k:Int):Res Int:=if(decide<|l_k<(Z0r.length:Int))then iW Z0r l_k else(mI ((l_k*48271)+(11:Int))<|(Z0r.length:Int)+(7:Int)).bind fun y8=>CT<|y8%1000003
def ir(Z0r:List Int)(l_k:Int):Res Int:=AS Z0r l_k
@[irreducible]noncomputable def zr(Z04:Int)(Z1U:Int)(a19:Int)(s20:(Int×Int×(List Int))):Res (Int×Int×(List Int)):=((if(decide<|(1000000000000000000:Int)<=dq Z04)then CT (decide<|(0:Int)<s20.2.1)else CT false).bind fun y45=>(if y45 then((lM s20.2.1 Z1U).bind fun y56=>hJ s20.2.2 y56).bind fun y55=>(p5 s20.2.1 Z1U).bind fun y59=>CT (y59,y55)else((((mI ((((s20.1*48271)+(7919:Int))+a19)%2147483647)<|(((s20.1*48271)+(7919:Int))+a19)%2147483647).bind fun y63=>CT<|y63%1000003).bind fun y64=>lM y64 Z1U).bind fun y69=>hJ s20.2.2 y69).bind fun y68=>CT (s20.2.1,y68):Res (Int×(List Int)))).bind fun s70=>CT (((((s20.1*48271)+(7919:Int))+a19)%2147483647),s70.1,s70.2)
@[irreducible]noncomputable def AU(Z04:Int)(Z1n:Int)(Z1U:Int):Res (List Int):=((fZ Z1n).bind fun y78=>bU (zr Z04 Z1U) y78 (((dq Z04)%2147483647),dq Z04,([]:List Int))).bind fun s79=>CT s79.2.2
def jS(Z04:Int)(Z1n:Int)(Z1U:Int):Res (List Int):=AU Z04 Z1n Z1U
@[irreducible]noncomputable def zt(y3:Int)(y8:List Int)(a15:Int)(s16:Tx):Res Tx:=(((((iW y8 (4:Int)).bind fun y39=>((lM a15 y3).bind fun y38=>CT<|y38*7).bind fun y40=>CT<|y39+y40).bind fun y41=>CT<|y41%26).bind fun y42=>k6 ([97,98,99,100,101,102,103,104,105,106,107,108,109,110,111,112,113,114,115,116,117,118,119,120,121,122]:Tx) y42).bind fun y43=>fG s16 y43).bind fun y44=>CT y44
@[irreducible]noncomputable def AW(jS:Int->Int->Int->Res (List Int))(Z04:Int):Res Tx:=(iW [(1:Int),(2:Int),(3:Int),(4:Int),(26:Int)]<|Z04%5).bind fun y3=>(jS (Z04/5) (5:Int) (26:Int)).bind fun y8=>(bU (zt y3 y8) (cut y8 none<|some (4:Int)) ([]:Tx)).bind fun s47=>CT s47
def wH(Z04:Int):Res Tx:=AW jS Z04
@[irreducible]noncomputable def AX(wH:Int->Res Tx)(Z04:Int):Res Cd:=(k6 ([83,90]:Tx)<|Z04%2).bind fun y1=>(wH<|Z04/8).bind fun y2=>CT (y1,y2,((Z04/2)%4))
def vf(Z04:Int):Res Cd:=AX wH Z04
@[irreducible]noncomputable def AY(vf:Int->Res Cd)(ir:List Int->Int->Res Int)(Z0r:List Int)(Z20:Int)(Z1l:Int):Res (List Cd):=(fZ Z1l).bind fun y12=>bB y12<|fun(a1:Int)=>(ir Z0r<|Z20+a1).bind fun y9=>vf y9
def vg(Z0r:List Int)(Z20:Int)(Z1l:Int):Res (List Cd):=AY vf ir Z0r Z20 Z1l
@[irreducible]noncomputable def AZ(Z04:Int):Res Int:=if(decide<|(Z04%3)=(0:Int))then CT ((999999999:Int)-((Z04/3)%2))else CT ((Z04/3)%9)
def wI(Z04:Int):Res Int:=AZ Z04
@[irreducible]noncomputable def zu(Z04:Int)(y9:List Int)(a40:Tx)(s41:(Int×di)):Res (Int×di):=(((iW y9 s41.1).bind fun y65=>CT<|y65%23).bind fun y66=>CT<|decide<|y66=(5:Int)).bind fun y67=>((if(!(look s41.2 a40).isSome)then CT (!y67)else CT false).bind fun y70=>(if y70 then((iW y9 s41.1).bind fun y80=>fm s41.2 a40 y80).bind fun y81=>(if(decide<|(Z04%3)=(0:Int))then(fm y81 a40 (999999999:Int)).bind fun y91=>CT y91 else CT y81:Res di).bind fun s93=>CT s93 else CT s41.2:Res di)).bind fun s102=>CT ((s41.1+(1:Int)),s102)
@[irreducible]noncomputable def zv(Z04:Int)(y9:List Int)(a16:Cd)(s17:(Int×di)):Res (Int×di):=(bU (zu Z04 y9) (aU a16.2.1) (s17.1,s17.2)).bind fun s114=>CT (s114.1,s114.2)
@[irreducible]noncomputable def B1(jS:Int->Int->Int->Res (List Int))(Z0T:List Cd)(Z04:Int):Res di:=(jS (Z04/3) (40:Int) (997:Int)).bind fun y9=>(bU (zv Z04 y9) Z0T ((0:Int),([]:List (Tx×Int)))).bind fun s118=>((((iW y9 (39:Int)).bind fun y122=>CT<|y122%2).bind fun y123=>CT<|decide<|y123=(1:Int)).bind fun y124=>(if y124 then(((iW y9 (38:Int)).bind fun y134=>((((iW y9 (38:Int)).bind fun y131=>CT<|y131%3).bind fun y132=>CT<|decide<|(0:Int)<y132).bind fun y133=>CT (if y133 then(1:Int)else 0)).bind fun y135=>mI y134 y135).bind fun y139=>fm s118.2 ([113]:Tx) y139).bind fun y140=>CT y140 else CT s118.2:Res di)).bind fun s142=>CT s142
def wJ(Z0T:List Cd)(Z04:Int):Res di:=B1 jS Z0T Z04
@[irreducible]noncomputable def Af(draft:List Cd)(spools:List (Tx×Int)):Res eZ:=(((tO [(0:Int)] (draft.length:Int)).bind fun y2=>((tO [(0:Int)] (draft.length:Int)).bind fun y1=>CT (y1,(spools,(none:Option (List Pl))))).bind fun y3=>CT (y2,y3)).bind fun y4=>CT (draft,y4)).bind fun y5=>CT (Dat.n,y5)
def wK(draft:List Cd)(spools:List (Tx×Int)):Res eZ:=Af draft spools
@[irreducible]noncomputable def Ag(wK:(List Cd)->di->Res eZ)(draft:List Cd)(most:Int)(spools:List (Tx×Int)):Res Z03:=(wK draft spools).bind fun y7=>CT (most,y7,([]:List eZ),([]:List eZ))
def wL(draft:List Cd)(most:Int)(spools:List (Tx×Int)):Res Z03:=Ag wK draft most spools
abbrev jX:Type:=(List Cd)×(List Int)×(List Int)×di
@[irreducible]noncomputable def B2(Z0T:List Cd)(Z2v:List (Tx×Int)):Res jX:=(bB Z0T<|fun(a1:Cd)=>CT (0:Int)).bind fun y19=>(bB Z0T<|fun(a10:Cd)=>CT (0:Int)).bind fun y20=>CT (Z0T,y19,y20,Z2v)
def wM(Z0T:List Cd)(Z2v:List (Tx×Int)):Res jX:=B2 Z0T Z2v
@[irreducible]noncomputable def B3(Z04:Int):Res Tx:=(fG ([32,33,34,35,36,38,39,40,41,42,43,44,45,46,47,48,49,50,51,52,53,54,55,56,57,58,59,60,61,62,63,64,65,66,67,68,69,70,71,72,73,74,75,76,77,78,79,80,81,82,83,84,85,86,87,88,89,90,91,92,93,94,95,96]:Tx) ([97,98,99,100,101,102,103,104,105,106,107,108,109,110,111,112,113,114,115,116,117,118,119,120,121,122,123,124,125,126,10]:Tx)).bind fun y7=>k6 y7<|Z04%95
def wO(Z04:Int):Res Tx:=B3 Z04
@[irreducible]noncomputable def B4(wO:Int->Res Tx)(Z1c:Tx)(Z04:Int):Res Tx:=(((qw Z1c).bind fun y3=>CT<|y3+(1:Int)).bind fun y4=>lM (Z04/5) y4).bind fun y5=>(wO<|Z04/7).bind fun y10=>if(decide<|(Z04%5)=(0:Int))then((gS Z1c none<|some y5).bind fun y15=>fG y15 y10).bind fun y16=>(gS Z1c (some y5) none).bind fun y17=>fG y16 y17 else if(decide<|(Z04%5)=(1:Int))then(gS Z1c none<|some y5).bind fun y25=>(gS Z1c (some<|y5+(1:Int)) none).bind fun y26=>fG y25 y26 else if(decide<|(Z04%5)=(2:Int))then((gS Z1c none<|some y5).bind fun y34=>fG y34 y10).bind fun y35=>(gS Z1c (some<|y5+(1:Int)) none).bind fun y36=>fG y35 y36 else if(decide<|(Z04%5)=(3:Int))then((gS Z1c none<|some y5).bind fun y44=>(gS Z1c (some y5)<|some<|y5+(1:Int)).bind fun y45=>fG y44 y45).bind fun y46=>(gS Z1c (some y5) none).bind fun y47=>fG y46 y47 else((gS Z1c (some<|y5+(1:Int))<|some<|y5+(2:Int)).bind fun y55=>(gS Z1c (some y5)<|some<|y5+(1:Int)).bind fun y56=>fG y55 y56).bind fun y57=>((gS Z1c none<|some y5).bind fun y60=>fG y60 y57).bind fun y61=>(gS Z1c (some<|y5+(2:Int)) none).bind fun y62=>fG y61 y62
def wQ(Z1c:Tx)(Z04:Int):Res Tx:=B4 wO Z1c Z04
@[irreducible]noncomputable def B5(jS:Int->Int->Int->Res (List Int))(Z04:Int)(Z1n:Int):Res Tx:=if(decide<|(Z04%7)=(3:Int))then(k6 ([102,98,105]:Tx)<|(Z04/7)%3).bind fun y3=>vS y3 Z1n else((jS (Z04/7) Z1n (3:Int)).bind fun y18=>bB y18<|fun(a9:Int)=>k6 ([102,98,105]:Tx) a9).bind fun y19=>sI y19
def wR(Z04:Int)(Z1n:Int):Res Tx:=B5 jS Z04 Z1n
@[irreducible]noncomputable def B6(wQ:Tx->Int->Res Tx)(wR:Int->Int->Res Tx)(Z04:Int)(Z1l:Int):Res Tx:=if(decide<|(Z04%9)=(8:Int))then(gS ([102,98,105,98,102,98,105,102]:Tx) none<|some Z1l).bind fun y3=>wQ y3 (Z04/9)else if(decide<|(Z04%9)=(7:Int))then(k6 ([102,98,105]:Tx)<|(Z04/9)%3).bind fun y11=>vS y11 Z1l else wR (Z04/9) Z1l
def rg(Z04:Int)(Z1l:Int):Res Tx:=B6 wQ wR Z04 Z1l
@[irreducible]noncomputable def B7(Z1o:Tx):Res Int:=(zS ([98,105,102]:Tx) Z1o).bind fun y1=>CT<|y1-(1:Int)
def nv(Z1o:Tx):Res Int:=B7 Z1o
@[irreducible]noncomputable def B8(nv:Tx->Res Int)(Z0Y:Cd)(Z1o:Tx):Res Int:=if(decide<|Z0Y.1=([83]:Tx))then nv Z1o else(nv Z1o).bind fun y8=>CT<|(0:Int)-y8
def l9(Z0Y:Cd)(Z1o:Tx):Res Int:=B8 nv Z0Y Z1o
@[irreducible]noncomputable def B9(nv:Tx->Res Int)(Z0Y:Cd)(Z1o:Tx):Res Cd:=(((nv Z1o).bind fun y1=>CT<|Z0Y.2.2+y1).bind fun y2=>CT<|y2%4).bind fun y3=>CT (Z0Y.1,Z0Y.2.1,y3)
def vh(Z0Y:Cd)(Z1o:Tx):Res Cd:=B9 nv Z0Y Z1o
@[irreducible]noncomputable def Ah(a86:Cd×Tx)(a116:Tx)(s117:di):Res di:=(fm s117 a116 ((bJ s117 a116 (0:Int)-(2:Int))+(if(decide<|a86.2=([105]:Tx))then(1:Int)else 0))).bind fun y141=>CT y141
@[irreducible]noncomputable def zw(a86:Cd×Tx)(s87:di):Res di:=(bU (Ah a86) (aU a86.1.2.1) s87).bind fun s142=>CT s142
@[irreducible]noncomputable def Ba(l9:Cd->Tx->Res Int)(vh:Cd->Tx->Res Cd)(Z0t:(List Cd)×(List Int)×(List Int)×di)(Z0h:Tx)(Z1a:Int):Res (Tx ⊕ jX):=(((qw Z0h).bind fun y13=>CT<|!decide (y13=(Z0t.1.length:Int))).bind fun y35=>if y35 then CT true else((i7 (aU Z0h) (fun(a14:Tx)=>((zU a14 ([102,98,105]:Tx)).bind fun c=>CT<|!c).bind fun y24=>if y24 then CT (some a14)else CT none)).bind fun y33=>CT (y33.length:Int)).bind fun y34=>CT<|decide<|(0:Int)<y34).bind fun y36=>if y36 then CT (Fh ([66,97,100,82,111,119]:Tx):Tx ⊕ jX)else(bB (Z0t.2.1.zip<|Z0t.1.zip<|aU Z0h)<|fun(a45:Int×Cd×Tx)=>(l9 a45.2.1 a45.2.2).bind fun y56=>CT<|a45.1+y56).bind fun y59=>(((bB y59<|fun(a62:Int)=>CT<|dq a62).bind fun y71=>vT y71).bind fun y72=>CT<|decide<|Z1a<y72).bind fun y73=>if y73 then CT (Fh ([84,111,111,84,105,103,104,116]:Tx):Tx ⊕ jX)else(bU zw (Z0t.1.zip<|aU Z0h) Z0t.2.2.2).bind fun s146=>(((bB (s146.map (·.1))<|fun(a154:Tx)=>getD s146 a154).bind fun y164=>ui y164).bind fun y165=>CT<|decide<|y165<(0:Int)).bind fun y166=>if y166 then CT (Fh ([83,112,111,111,108,68,114,121]:Tx):Tx ⊕ jX)else(bB (Z0t.2.2.1.zip y59) (fun(a175:Ii)=>CT (if dq a175.2>a175.1 then dq a175.2 else a175.1))).bind fun y186=>((bB (Z0t.1.zip<|aU Z0h)<|fun(a189:Cd×Tx)=>vh a189.1 a189.2).bind fun y200=>CT (y200,y59,y186,s146)).bind fun y201=>CT (Ds y201:Tx ⊕ jX)
def m7(Z0t:(List Cd)×(List Int)×(List Int)×di)(Z0h:Tx)(Z1a:Int):Res (Tx ⊕ jX):=Ba l9 vh Z0t Z0h Z1a
@[irreducible]noncomputable def Ai(self:Z03):Res eZ:=if(!self.2.2.1.isEmpty)then iW self.2.2.1 (-(1:Int))else CT self.2.1
def fO(self:Z03):Res eZ:=Ai self
@[irreducible]noncomputable def Bb(text:Tx)(width:Int):Res Bool:=((qw text).bind fun y1=>CT<|decide<|y1=width).bind fun y12=>if y12 then(bB (aU text)<|fun(a2:Tx)=>zU a2 ([102,98,105]:Tx)).bind fun y11=>CT (y11.all id)else CT false
def vi(text:Tx)(width:Int):Res Bool:=Bb text width
@[irreducible]noncomputable def Bc(tablet:Cd)(turn:Tx):Res Int:=(getD ([([102],1),([98],(-1)),([105],0)]:List (Tx×Int)) turn).bind fun y3=>if(decide<|tablet.1=([83]:Tx))then CT y3 else CT (-y3)
def n6(tablet:Cd)(turn:Tx):Res Int:=Bc tablet turn
@[irreducible]noncomputable def Aj(a7:Cd×Tx)(a37:Tx)(s38:di):Res di:=(((if(decide<|a7.2=([105]:Tx))then CT (1:Int)else CT (2:Int)).bind fun y59=>CT<|bJ s38 a37 (0:Int)+y59).bind fun y63=>fm s38 a37 y63).bind fun y64=>CT y64
@[irreducible]noncomputable def Ak(a7:Cd×Tx)(s8:di):Res di:=(bU (Aj a7) (aU a7.1.2.1) s8).bind fun s65=>CT s65
@[irreducible]noncomputable def Bd(draft:List Cd)(row:Tx):Res di:=(bU Ak (draft.zip<|aU row) ([]:List (Tx×Int))).bind fun s69=>CT s69
def uy(draft:List Cd)(row:Tx):Res di:=Bd draft row
@[irreducible]noncomputable def rh(a7:Tx×Int)(s8:di):Res di:=if(decide<|bJ s8 a7.1 (0:Int)<a7.2)then(((fG ([]:Tx) [116,104,101,32,115,112,111,111,108,32,111,102,32]).bind fun y38=>(fG y38 a7.1).bind fun y39=>(fG y39 [32,102,97,108,108,115,32,115,104,111,114,116]).bind fun y41=>CT y41).bind yA).bind fun y42=>Lq 6 else((getD s8 a7.1).bind fun a47=>fm s8 a7.1<|a47-a7.2).bind fun y46=>CT y46
@[irreducible]noncomputable def Be(spools:List (Tx×Int))(lengths:List (Tx×Int)):Res di:=(bU rh lengths spools).bind fun s48=>CT s48
def vj(spools:List (Tx×Int))(lengths:List (Tx×Int)):Res di:=Be spools lengths
@[irreducible]noncomputable def Bf(tablet:Cd)(turn:Tx):Res Cd:=(((getD ([([102],1),([98],(-1)),([105],0)]:List (Tx×Int)) turn).bind fun y11=>CT<|tablet.2.2+y11).bind fun y12=>CT<|y12%4).bind fun y13=>CT (tablet.1,tablet.2.1,y13)
def uz(tablet:Cd)(turn:Tx):Res Cd:=Bf tablet turn
@[irreducible]noncomputable def pR(tablet:Cd):Res Tx:=k6 tablet.2.1<|tablet.2.2%4
def iu(tablet:Cd):Res Tx:=pR tablet
@[irreducible]noncomputable def Bg(tablet:Cd):Res Tx:=k6 tablet.2.1<|(tablet.2.2+(2:Int))%4
def wU(tablet:Cd):Res Tx:=Bg tablet
@[irreducible]noncomputable def Bh(iu:Cd->Res Tx)(wU:Cd->Res Tx)(n6:Cd->Tx->Res Int)(tablet:Cd)(turn:Tx):Res Pl:=(iu tablet).bind fun y2=>(wU tablet).bind fun y3=>((n6 tablet turn).bind fun y1=>getD ([(1,[115]),((-1),[122]),(0,[111])]:List (Int×Tx)) y1).bind fun y4=>CT (y2,y3,y4)
def vk(tablet:Cd)(turn:Tx):Res Pl:=Bh iu wU n6 tablet turn
@[irreducible]noncomputable def Bi(vi:Tx->Int->Res Bool)(n6:Cd->Tx->Res Int)(vj:di->di->Res di)(uy:(List Cd)->Tx->Res di)(uz:Cd->Tx->Res Cd)(vk:Cd->Tx->Res Pl)(stage:eZ)(row:Tx)(most:Int):Res eZ:=((vi row (stage.2.1.length:Int)).bind fun y1=>CT<|!y1).bind fun y2=>if y2 then Lq 1 else(bB (stage.2.2.1.zip<|stage.2.1.zip<|aU row)<|fun(a7:Int×Cd×Tx)=>(n6 a7.2.1 a7.2.2).bind fun y18=>CT<|a7.1+y18).bind fun y21=>((bB y21<|fun(a24:Int)=>CT<|decide<|most<dq a24).bind fun y33=>CT<|y33.any id).bind fun y34=>if y34 then Lq 5 else((uy stage.2.1 row).bind fun y39=>vj stage.2.2.2.2.1 y39).bind fun y40=>(bB (stage.2.2.2.1.zip y21) (fun(a45:Ii)=>CT (if dq a45.2>a45.1 then dq a45.2 else a45.1))).bind fun y56=>(bB (stage.2.1.zip<|aU row)<|fun(a61:Cd×Tx)=>uz a61.1 a61.2).bind fun y72=>(bB (y72.zip<|aU row)<|fun(a77:Cd×Tx)=>vk a77.1 a77.2).bind fun y88=>CT (II [Fv (([114,111,119]:Tx),row).1,Fv (([114,111,119]:Tx),row).2],(y72,(y21,(y56,(y40,some y88)))))
def pS(stage:eZ)(row:Tx)(most:Int):Res eZ:=Bi vi n6 vj uy uz vk stage row most
@[irreducible]noncomputable def Al(self:Z03)(stages:List eZ):Res (Z03×Unit):=if(!stages.isEmpty)then((wk self.2.2.1 stages).bind fun b=>CT<|(self.1,self.2.1,b,self.2.2.2)).bind fun y3=>CT ((y3.1,y3.2.1,y3.2.2.1,([]:List eZ)),())else CT (self,())
def uA(self:Z03)(stages:List eZ):Res (Z03×Unit):=Al self stages
@[irreducible]noncomputable def Am(pS:eZ->Tx->Int->Res eZ)(fO:Z03->Res eZ)(uA:Z03->(List eZ)->Res (Z03×Unit))(self:Z03)(row:Tx):Res (Z03×(List Pl)):=((fO self).bind fun y3=>pS y3 row self.1).bind fun y4=>(uA self [y4]).bind fun y9=>(lL y4.2.2.2.2.2).bind fun y10=>CT (y9.1,y10)
def uB(self:Z03)(row:Tx):Res (Z03×(List Pl)):=Am pS fO uA self row
@[irreducible]noncomputable def An(uB:Z03->Tx->Res (Z03×(List Pl)))(Z0K:Z03)(Z0h:Tx):Res (Z03×Dat):=(LJ<|uB Z0K Z0h).bind fun r4=>match r4 with| .inr j6=>CT (Z0K,nX [114,101,102,117,115,101,100] j6)| .inl y5=>CT (y5.1,II [Fv [119,111,118,101,110],JS<|y5.2.map fun(z:Pl)=>II [Fv z.1,Fv z.2.1,Fv z.2.2]])
def ou(Z0K:Z03)(Z0h:Tx):Res (Z03×Dat):=An uB Z0K Z0h
@[irreducible]noncomputable def Ao(l9:Cd->Tx->Res Int)(a7:Cd×Tx)(s8:(List Pl)):Res (List Pl):=(((l9 a7.1 a7.2).bind fun y39=>CT<|y39+(1:Int)).bind fun y40=>k6 ([122,111,115]:Tx) y40).bind fun y41=>(((k6 a7.1.2.1 a7.1.2.2).bind fun y44=>(k6 a7.1.2.1<|(a7.1.2.2+(2:Int))%4).bind fun y45=>CT (y44,y45,y41)).bind fun y50=>hJ s8 y50).bind fun y49=>CT y49
@[irreducible]noncomputable def Bj(l9:Cd->Tx->Res Int)(Z7e:List Cd)(Z0h:Tx):Res (List Pl):=(bU (Ao l9) (Z7e.zip<|aU Z0h) ([]:List Pl)).bind fun s51=>CT s51
def ow(Z7e:List Cd)(Z0h:Tx):Res (List Pl):=Bj l9 Z7e Z0h
@[irreducible]noncomputable def Ap(fO:Z03->Res eZ)(self:Z03):Res (List Cd):=(fO self).bind fun y1=>CT y1.2.1
def vm(self:Z03):Res (List Cd):=Ap fO self
@[irreducible]noncomputable def Aq(self:Z03):Res (List<|List Pl):=i7 self.2.2.1 (fun(a1:eZ)=>if a1.2.2.2.2.2.isSome then(lL a1.2.2.2.2.2).bind fun y11=>CT (some y11)else CT none)
def vn(self:Z03):Res (List<|List Pl):=Aq self
@[irreducible]noncomputable def Ar(self:Z03):Res (List Dat):=bB self.2.2.1<|fun(a1:eZ)=>CT a1.1
def vo(self:Z03):Res (List Dat):=Ar self
@[irreducible]noncomputable def As(fO:Z03->Res eZ)(self:Z03)(k:Int):Res Int:=((fO self).bind fun y1=>CT y1.2.2.1).bind fun y2=>iW y2 k
def pT(self:Z03)(k:Int):Res Int:=As fO self k
@[irreducible]noncomputable def Au(fO:Z03->Res eZ)(self:Z03)(k:Int):Res Int:=((fO self).bind fun y1=>CT y1.2.2.2.1).bind fun y2=>iW y2 k
def pU(self:Z03)(k:Int):Res Int:=Au fO self k
@[irreducible]noncomputable def Av(fO:Z03->Res eZ)(self:Z03)(colour:Tx):Res Int:=((fO self).bind fun y1=>CT y1.2.2.2.2.1).bind fun y2=>CT<|bJ y2 colour (0:Int)
def oy(self:Z03)(colour:Tx):Res Int:=Av fO self colour
@[irreducible]noncomputable def Aw(pT:Z03->Int->Res Int)(pU:Z03->Int->Res Int)(Z0K:Z03)(Z0t:(List Cd)×(List Int)×(List Int)×di)(a23:Int)(s24:Unit):Res (Fl Bool Unit):=((((pT Z0K a23).bind fun y44=>(iW Z0t.2.1 a23).bind fun y45=>vU y44 y45).bind fun y46=>CT<|!y46).bind fun y50=>if y50 then CT true else((pU Z0K a23).bind fun y47=>(iW Z0t.2.2.1 a23).bind fun y48=>vU y47 y48).bind fun y49=>CT<|!y49).bind fun y51=>if y51 then CT (.rt false)else CT (.nx ())
@[irreducible]noncomputable def zx(oy:Z03->Tx->Res Int)(Z0K:Z03)(Z0t:(List Cd)×(List Int)×(List Int)×di)(a63:Tx)(s64:Unit):Res (Fl Bool Unit):=(((oy Z0K a63).bind fun y84=>vU y84<|bJ Z0t.2.2.2 a63 (0:Int)).bind fun y85=>CT<|!y85).bind fun y86=>if y86 then CT (.rt false)else CT (.nx ())
@[irreducible]noncomputable def Ax(vm:Z03->Res (List Cd))(vn:Z03->Res (List<|List Pl))(vo:Z03->Res (List Dat))(pT:Z03->Int->Res Int)(pU:Z03->Int->Res Int)(oy:Z03->Tx->Res Int)(Z0K:Z03)(Z0t:(List Cd)×(List Int)×(List Int)×di)(Z5O:List (List Pl))(Z5P:List Dat):Res Bool:=((((vm Z0K).bind fun y1=>vU y1 Z0t.1).bind fun y2=>CT<|!y2).bind fun y5=>if y5 then CT true else((vn Z0K).bind fun y3=>vU y3 Z5O).bind fun y4=>CT<|!y4).bind fun y6=>if y6 then CT false else((((vo Z0K).bind fun y13=>CT<|(fun(z:List Dat)=>JS<|z.map fun(z:Dat)=>z) y13).bind fun y14=>xB y14<|(fun(z:List Dat)=>JS<|z.map fun(z:Dat)=>z) Z5P).bind fun y15=>CT<|!y15).bind fun y16=>if y16 then CT false else((i8 Z0t.1).bind fun y58=>gU (Aw pT pU Z0K Z0t) y58 ()).bind (fun | .nx s59=>((gU (zx oy Z0K Z0t) (aU ([97,98,99,100,101,102,103,104,105,106,107,108,109,110,111,112,113,114,115,116,117,118,119,120,121,122]:Tx)) ()).bind (fun | .nx s93=>(CT true)| .rt r=>CT r| .bk _=>Lj))| .rt r=>CT r| .bk _=>Lj)
def lZ(Z0K:Z03)(Z0t:(List Cd)×(List Int)×(List Int)×di)(Z5O:List (List Pl))(Z5P:List Dat):Res Bool:=Ax vm vn vo pT pU oy Z0K Z0t Z5O Z5P
@[irreducible]noncomputable def gr(ir:List Int->Int->Res Int)(rg:Int->Int->Res Tx)(m7:jX->Tx->Int->Res (Tx ⊕ jX))(ou:Z03->Tx->Res (Z03×Dat))(lZ:Z03->jX->(List<|List Pl)->(List Dat)->Res Bool)(ow:(List Cd)->Tx->Res (List Pl))(Z0r:List Int)(y5:Int)(y16:Int)(a65:Int)(s66:(jX×Z03×(List<|List Pl)×(List Dat))):Res (Fl Bool<|jX×Z03×(List<|List Pl)×(List Dat)):=((ir Z0r<|(12:Int)+a65).bind fun y93=>rg y93 y5).bind fun y94=>(m7 s66.1 y94 y16).bind fun y99=>(ou s66.2.1 y94).bind fun y102=>if(y99).isLeft then((((((lL (y99).getLeft?).bind fun y114=>CT [y114]).bind fun y115=>CT (([114,101,102,117,115,101,100]:Tx),y115)).bind fun y116=>CT<|(fun(z:Tx×(List Tx))=>II [Fv z.1,JS<|z.2.map fun(z:Tx)=>Fv z]) y116).bind fun y117=>xB y102.2 y117).bind fun y118=>CT<|!y118).bind fun y119=>if y119 then CT (.rt false)else(if(decide<|(a65%5)=(2:Int))then(lZ y102.1 s66.1 s66.2.2.1 s66.2.2.2).bind fun y132=>CT (!y132)else CT false).bind fun y133=>if y133 then CT (.rt false)else CT (.nx (s66.1,y102.1,s66.2.2.1,s66.2.2.2))else(lL (y99).getRight?).bind fun y142=>(((((ow y142.1 y94).bind fun y148=>CT (([119,111,118,101,110]:Tx),y148)).bind fun y149=>CT<|(fun(z:Tx×(List Pl))=>II [Fv z.1,JS<|z.2.map fun(z:Pl)=>II [Fv z.1,Fv z.2.1,Fv z.2.2]]) y149).bind fun y150=>xB y102.2 y150).bind fun y151=>CT<|!y151).bind fun y152=>if y152 then CT (.rt false)else(uj [119,111,118,101,110] y102.2).bind fun _=>((ow y142.1 y94).bind fun y161=>hJ s66.2.2.1 y161).bind fun y162=>(hJ s66.2.2.2<|II [Fv (([114,111,119]:Tx),y94).1,Fv (([114,111,119]:Tx),y94).2]).bind fun y165=>(if(decide<|(a65%5)=(2:Int))then(lZ y102.1 y142 y162 y165).bind fun y174=>CT (!y174)else CT false).bind fun y175=>if y175 then CT (.rt false)else CT (.nx (y142,y102.1,y162,y165))
@[irreducible]noncomputable def pV(ir:List Int->Int->Res Int)(vg:List Int->Int->Int->Res (List Cd))(wI:Int->Res Int)(wJ:(List Cd)->Int->Res di)(wL:(List Cd)->Int->di->Res Z03)(wM:(List Cd)->di->Res jX)(rg:Int->Int->Res Tx)(m7:jX->Tx->Int->Res (Tx ⊕ jX))(ou:Z03->Tx->Res (Z03×Dat))(lZ:Z03->jX->(List<|List Pl)->(List Dat)->Res Bool)(ow:(List Cd)->Tx->Res (List Pl))(Z0r:List Int):Res Bool:=(((ir Z0r (0:Int)).bind fun y3=>CT<|y3%8).bind fun y4=>CT<|(1:Int)+y4).bind fun y5=>(vg Z0r (1:Int) y5).bind fun y10=>((ir Z0r (9:Int)).bind fun y15=>wI y15).bind fun y16=>((ir Z0r (10:Int)).bind fun y21=>wJ y10 y21).bind fun y22=>(wL y10 y16 y22).bind fun y31=>(((vU y10 y10).bind fun y38=>CT<|!y38).bind fun y39=>if y39 then CT true else dR (y22=y22) false).bind fun y40=>if y40 then CT false else(CT<|(y10,fun(b:List Cd)=>b).2 []).bind fun y47=>(wM y10 y22).bind fun y54=>((((ir Z0r (11:Int)).bind fun y63=>CT<|y63%31).bind fun y64=>fZ y64).bind fun y182=>gU (gr ir rg m7 ou lZ ow Z0r y5 y16) y182 (y54,y31,([]:List (List Pl)),([]:List Dat))).bind (fun | .nx s183=>(lZ s183.2.1 s183.1 s183.2.2.1 s183.2.2.2)| .rt r=>CT r| .bk _=>Lj)
def uC(Z0r:List Int):Res Bool:=pV ir vg wI wJ wL wM rg m7 ou lZ ow Z0r
end
end Mi
namespace Wb
open PySem L2 Mi
def tp(i:Nat):Stmt:=HN.main.body.getD i<|.Pass ⟨0,0,0,0⟩
def tq(i j:Nat):Stmt:=match tp i with
 | .ClassDef _ _ _ b _ _ _ _ _ _ _=>b.getD j<|.Pass ⟨0,0,0,0⟩
 |s=>s
abbrev la:=isDk (fun(a:Tx)=>Ds<|sOf a) isI
abbrev hU(K:CL)(Z00:Addr):Rfl eZ:=(fC "deed" (isU K)<|fC "standing" (isL<|isT3 K isS isS isI)<|fC "reached" (isL isI)<|fC "highest" (isL isI)<|fC "lengths" la<|f1 "pick"<|isO<|isL<|isT3 K isS isS isS)
abbrev aW(K:CL)(Z00:Addr):Rp eZ:=isOb Z00<|hU K Z00
theorem n9{K:CL}{Z00:Addr}:ua (hU K Z00) "deed" (isU K) (fun a=>a.1):=ub
theorem cR{K:CL}{Z00:Addr}:ua (hU K Z00) "standing" (isL<|isT3 K isS isS isI) (fun a=>a.2.1):=(hR ub)
theorem gs{K:CL}{Z00:Addr}:ua (hU K Z00) "reached" (isL isI) (fun a=>a.2.2.1):=(hR<|hR ub)
theorem gu{K:CL}{Z00:Addr}:ua (hU K Z00) "highest" (isL isI) (fun a=>a.2.2.2.1):=(hR<|hR<|hR ub)
theorem gw{K:CL}{Z00:Addr}:ua (hU K Z00) "lengths" la (fun a=>a.2.2.2.2.1):=(hR<|hR<|hR<|hR ub)
theorem gy{K:CL}{Z00:Addr}:ua (hU K Z00) "pick" (isO<|isL<|isT3 K isS isS isS) (fun a=>a.2.2.2.2.2):=(hR<|hR<|hR<|hR<|hR BD)
abbrev eg(K:CL)(Z00:Addr):Rfo Z03:=(oC "most" (fz isI)<|oC "start" (fz<|aW K Z00)<|oC "course" (oL<|fz<|aW K Z00)<|o1 "undone"<|oL<|fz<|aW K Z00)
abbrev ae(K:CL)(Z00:Addr)(Z01:Addr):Rf Z03:=oOb Z01<|eg K Z00
theorem Z9Y{K:CL}{Z00:Addr}:FLn (eg K Z00) "most" (fz isI) (fun a=>a.1) (fun a b=>(b,a.2.1,a.2.2.1,a.2.2.2)):=yI
theorem Z90{K:CL}{Z00:Addr}:FLn (eg K Z00) "start" (fz<|aW K Z00) (fun a=>a.2.1) (fun a b=>(a.1,b,a.2.2.1,a.2.2.2)):=(yJ yI)
theorem Z1K{K:CL}{Z00:Addr}:FLn (eg K Z00) "course" (oL<|fz<|aW K Z00) (fun a=>a.2.2.1) (fun a b=>(a.1,a.2.1,b,a.2.2.2)):=(yJ<|yJ yI)
theorem jT{K:CL}{Z00:Addr}:A9 (eg K Z00) "undone" (oL<|fz<|aW K Z00) (fun a b=>(a.1,a.2.1,a.2.2.1,b)):=(yK<|yK<|yK BE)
theorem le_loom{K:CL}{Z00:Addr}:FLe (eg K Z00) 4:=(yS<|yS<|yS BG)
theorem jc:bootBuiltins "ValueError"=some (.type "ValueError"):=by decide +kernel
section
variable{P:Dg}{w:Dr}{K:CL}{mg:Str->Option CN}{base:Heap}
def f6(j n:Nat):List (Tx×Bool):=Mb n [([66,97,100,84,97,98,108,101,116],decide<|0=j),([66,97,100,82,111,119],decide<|1=j),([66,97,100,84,101,120,116],decide<|2=j),([66,97,100,77,97,114,107],decide<|3=j),([84,111,111,76,111,110,103],decide<|4=j),([84,111,111,84,105,103,104,116],decide<|5=j),([83,112,111,111,108,68,114,121],decide<|6=j),([78,111,84,97,98,108,101,116],decide<|7=j),([78,111,116,104,105,110,103,76,101,102,116],decide<|8=j),([85,110,108,105,107,101],decide<|9=j),([83,101,101,110,84,104,114,101,97,100],decide<|10=j),([78,111,83,117,99,104,87,97,121],decide<|11=j),([66,97,114,114,101,100],decide<|12=j),([110,111,32,66,97,110,100,69,114,114,111,114],false),([110,111,32,86,97,108,117,101,69,114,114,111,114],false)]
theorem dz{Er:Nat->Prop}{K:CL}{x C:Addr}{σ:St}{W:Wd}{v:V}{c:CN}{b:Bool}(h0:σ[0]? =some (some<|.ref x))(hv:kv v=some c)(hk:DD K (.ref C) c=some b):
  EV Er (eo (fun xs H Q=>∃v c b,xs=[.ref x,v]/\kv v=some c/\DD K (.ref C) c=some b/\Q (.bl b) H)<|ag (ba 0)<|ag (tC v) aH) σ W (sh isB) (.ok b):=fun W1 e1 Q k=>
 ⟨.ref x,h0,v,c,b,rfl,hv,hk,k (.bl b) W1 (.refl _) rfl⟩
def wV(a:Tx×Bool):Res (Option Tx):=if a.2 then CT (some a.1)else CT none
theorem oz:∀j,j<13->i7 (f6 j 15) wV=.ok [kindN.getD j []]:=by
 intro j hj
 match j,hj with
 |0,_=>rfl
 |1,_=>rfl
 |2,_=>rfl
 |3,_=>rfl
 |4,_=>rfl
 |5,_=>rfl
 |6,_=>rfl
 |7,_=>rfl
 |8,_=>rfl
 |9,_=>rfl
 |10,_=>rfl
 |11,_=>rfl
 |12,_=>rfl
theorem uD{f:Addr}{fd:Df}(F:Fun K "_law_kinds" "_law_kinds" (tp 55) f fd)(Z07:mg "isinstance"=none)(Z3Q:mg "ValueError"=none){Z0a Z0m Z0i Z0j Z0k Z0c Z0d Z0g Z06 Z0o Z08 Z0b Z0p Z05:Addr}(Z50:mg "BadTablet"=some (.ref Z0a))(Z30:mg "BadRow"=some (.ref Z0m))(Z6z:mg "BadText"=some (.ref Z0i))(Z6A:mg "BadMark"=some (.ref Z0j))(Z6B:mg "TooLong"=some (.ref Z0k))(Z2f:mg "TooTight"=some (.ref Z0c))(Z2g:mg "SpoolDry"=some (.ref Z0d))(Z5Y:mg "NoTablet"=some (.ref Z0g))(Z3q:mg "NothingLeft"=some (.ref Z06))(Z7w:mg "Unlike"=some (.ref Z0o))(Z3R:mg "SeenThread"=some (.ref Z08))(Z51:mg "NoSuchWay"=some (.ref Z0b))(Z7x:mg "Barred"=some (.ref Z0p))(Z1X:mg "BandError"=some (.ref Z05)):
  FnOkH P w K mg base 1 f fd ["_law_e"] (gM K [Z0a,Z0m,Z0i,Z0j,Z0k,Z0c,Z0d,Z0g,Z06,Z0o,Z08,Z0b,Z0p] Z05):=by
 have SC:FnScope ["_law_e","_law_known"] ["_law_e"] (defScope<|tp 55):=⟨rfl,rfl,rfl,by decide +kernel,rfl,by decide +kernel,by decide +kernel⟩
 refine Fun.okH F SC (fun x C vs H Q E h=>?_)<|fun x C cdv A outer s H vs Q E hE hr h=>?_;·obtain⟨_,_,_,rfl,_⟩:=h;rfl
 ·obtain⟨W0,j,rfl,rfl,hZ,hj,hc,hB,hV,hq⟩:=h
  refine⟨_,(a6 (fB (i:=1) SC.nd rfl (by first|exact GG rfl|exact Gr rfl) (cB (a4 (bC (a4 aG (a4 (aj (aT (K:=K) rfl hE hZ) (by rfl) Z07 CV (a4 (pv 0) (a4 (bK (v:=.ref Z0a) (by rfl) Z50 rfl) a5))) a5))) (a4 (bC (a4 aG (a4 (aj (aT (K:=K) rfl hE hZ) (by rfl) Z07 CV (a4 (pv 0) (a4 (bK (v:=.ref Z0m) (by rfl) Z30 rfl) a5))) a5))) a5))))
   (a6 (fB (i:=1) SC.nd rfl (by first|exact GG rfl|exact Gr rfl) (ah gX (pv 1) (cB (a4 (bC (a4 aG (a4 (aj (aT (K:=K) rfl hE hZ) (by rfl) Z07 CV (a4 (pv 0) (a4 (bK (v:=.ref Z0i) (by rfl) Z6z rfl) a5))) a5))) (a4 (bC (a4 aG (a4 (aj (aT (K:=K) rfl hE hZ) (by rfl) Z07 CV (a4 (pv 0) (a4 (bK (v:=.ref Z0j) (by rfl) Z6A rfl) a5))) a5))) a5)))))
   (a6 (fB (i:=1) SC.nd rfl (by first|exact GG rfl|exact Gr rfl) (ah gX (pv 1) (cB (a4 (bC (a4 aG (a4 (aj (aT (K:=K) rfl hE hZ) (by rfl) Z07 CV (a4 (pv 0) (a4 (bK (v:=.ref Z0k) (by rfl) Z6B rfl) a5))) a5))) (a4 (bC (a4 aG (a4 (aj (aT (K:=K) rfl hE hZ) (by rfl) Z07 CV (a4 (pv 0) (a4 (bK (v:=.ref Z0c) (by rfl) Z2f rfl) a5))) a5))) a5)))))
   (a6 (fB (i:=1) SC.nd rfl (by first|exact GG rfl|exact Gr rfl) (ah gX (pv 1) (cB (a4 (bC (a4 aG (a4 (aj (aT (K:=K) rfl hE hZ) (by rfl) Z07 CV (a4 (pv 0) (a4 (bK (v:=.ref Z0d) (by rfl) Z2g rfl) a5))) a5))) (a4 (bC (a4 aG (a4 (aj (aT (K:=K) rfl hE hZ) (by rfl) Z07 CV (a4 (pv 0) (a4 (bK (v:=.ref Z0g) (by rfl) Z5Y rfl) a5))) a5))) a5)))))
   (a6 (fB (i:=1) SC.nd rfl (by first|exact GG rfl|exact Gr rfl) (ah gX (pv 1) (cB (a4 (bC (a4 aG (a4 (aj (aT (K:=K) rfl hE hZ) (by rfl) Z07 CV (a4 (pv 0) (a4 (bK (v:=.ref Z06) (by rfl) Z3q rfl) a5))) a5))) (a4 (bC (a4 aG (a4 (aj (aT (K:=K) rfl hE hZ) (by rfl) Z07 CV (a4 (pv 0) (a4 (bK (v:=.ref Z0o) (by rfl) Z7w rfl) a5))) a5))) a5)))))
   (a6 (fB (i:=1) SC.nd rfl (by first|exact GG rfl|exact Gr rfl) (ah gX (pv 1) (cB (a4 (bC (a4 aG (a4 (aj (aT (K:=K) rfl hE hZ) (by rfl) Z07 CV (a4 (pv 0) (a4 (bK (v:=.ref Z08) (by rfl) Z3R rfl) a5))) a5))) (a4 (bC (a4 aG (a4 (aj (aT (K:=K) rfl hE hZ) (by rfl) Z07 CV (a4 (pv 0) (a4 (bK (v:=.ref Z0b) (by rfl) Z51 rfl) a5))) a5))) a5)))))
   (a6 (fB (i:=1) SC.nd rfl (by first|exact GG rfl|exact Gr rfl) (ah gX (pv 1) (cB (a4 (bC (a4 aG (a4 (aj (aT (K:=K) rfl hE hZ) (by rfl) Z07 CV (a4 (pv 0) (a4 (bK (v:=.ref Z0p) (by rfl) Z7x rfl) a5))) a5))) (a4 (bC (a4 aG (a4 (ny (aj (aT (K:=K) rfl hE hZ) (by rfl) Z07 CV (a4 (pv 0) (a4 (bK (v:=.ref Z05) (by rfl) Z1X rfl) a5)))) a5))) a5)))))
   (a6 (fB (i:=1) SC.nd rfl (by first|exact GG rfl|exact Gr rfl) (ah gX (pv 1) (cB (a4 (bC (a4 aG (a4 (ny (aj (aT (K:=K) rfl hE hZ) (by rfl) Z07 CV (a4 (pv 0) (a4 (d9 (v:=.ty "ValueError") (by rfl) Z3Q jc rfl) a5)))) a5))) a5))))
   (af (aq (tH (N:=["_law_name","_law_so"]) (cap:=[none,none]) (fF rfl (by decide +kernel) rfl (by decide +kernel) (by rfl) (by rfl)) hE.hdx (tG (K:=K) rfl (pv 1)) (fun _ _ _ _ hx=>(wc (K:=K) (n:=2) rfl hx (au (aP (i:=0) (show DM (["_law_name","_law_so"]:List Str) by decide +kernel) rfl (by first|exact GG rfl|exact Gr rfl)) (au (aP (i:=1) (show DM (["_law_name","_law_so"]:List Str) by decide +kernel) rfl (by first|exact GG rfl|exact Gr rfl)) cj)))) (fun _ _ _ _=>(lH (bY (pv 1)))) (fun _ _ _ _=>(pv 0))))))))))))),?_⟩
  have E0:Ext W0 W0:=.refl W0;rw[show L2.start ["_law_e","_law_known"] [.ref x]=[some (.ref x),none]from rfl];refine av (Er:=fun _=>False) (i:=1) (R:=sh<|isL<|isT2 K isS isB) (m:=.ok<|f6 j 2) (σ':=fun v=>[some (.ref x),some v]) (EF (ed (bw (bQ (K:=K) (aJ (x:=CS "BadTablet") (l:=[66,97,100,84,97,98,108,101,116]) (eL _ _ (by decide +kernel)))<|dz (K:=K) (C:=C) (v:=.ref Z0a) (c:=.ref Z0a) (b:=decide<|0=j) rfl rfl<|hc 0 _ rfl) (bw (bQ (K:=K) (aJ (x:=CS "BadRow") (l:=[66,97,100,82,111,119]) (eL _ _ (by decide +kernel)))<|dz (K:=K) (C:=C) (v:=.ref Z0m) (c:=.ref Z0m) (b:=decide<|1=j) rfl rfl<|hc 1 _ rfl)<|dZ (R:=isT2 K isS isB)))))<|fun v0 W1 e0 h0=>?_;have E0:=E0.trans e0;refine av (Er:=fun _=>False) (i:=1) (R:=sh<|isL<|isT2 K isS isB) (m:=.ok<|f6 j 4) (σ':=fun v=>[some (.ref x),some v]) (EF (fI (FN<|aS (R:=sh<|isL<|isT2 K isS isB) h0) (Gw (ed (bw (bQ (K:=K) (aJ (x:=CS "BadText") (l:=[66,97,100,84,101,120,116]) (eL _ _ (by decide +kernel)))<|dz (K:=K) (C:=C) (v:=.ref Z0i) (c:=.ref Z0i) (b:=decide<|2=j) rfl rfl<|hc 2 _ rfl) (bw (bQ (K:=K) (aJ (x:=CS "BadMark") (l:=[66,97,100,77,97,114,107]) (eL _ _ (by decide +kernel)))<|dz (K:=K) (C:=C) (v:=.ref Z0j) (c:=.ref Z0j) (b:=decide<|3=j) rfl rfl<|hc 3 _ rfl)<|dZ (R:=isT2 K isS isB)))))))<|fun v1 W2 e1 h1=>?_;have E0:=E0.trans e1;refine av (Er:=fun _=>False) (i:=1) (R:=sh<|isL<|isT2 K isS isB) (m:=.ok<|f6 j 6) (σ':=fun v=>[some (.ref x),some v]) (EF (fI (FN<|aS (R:=sh<|isL<|isT2 K isS isB) h1) (Gw (ed (bw (bQ (K:=K) (aJ (x:=CS "TooLong") (l:=[84,111,111,76,111,110,103]) (eL _ _ (by decide +kernel)))<|dz (K:=K) (C:=C) (v:=.ref Z0k) (c:=.ref Z0k) (b:=decide<|4=j) rfl rfl<|hc 4 _ rfl) (bw (bQ (K:=K) (aJ (x:=CS "TooTight") (l:=[84,111,111,84,105,103,104,116]) (eL _ _ (by decide +kernel)))<|dz (K:=K) (C:=C) (v:=.ref Z0c) (c:=.ref Z0c) (b:=decide<|5=j) rfl rfl<|hc 5 _ rfl)<|dZ (R:=isT2 K isS isB)))))))<|fun v2 W3 e2 h2=>?_;have E0:=E0.trans e2;refine av (Er:=fun _=>False) (i:=1) (R:=sh<|isL<|isT2 K isS isB) (m:=.ok<|f6 j 8) (σ':=fun v=>[some (.ref x),some v]) (EF (fI (FN<|aS (R:=sh<|isL<|isT2 K isS isB) h2) (Gw (ed (bw (bQ (K:=K) (aJ (x:=CS "SpoolDry") (l:=[83,112,111,111,108,68,114,121]) (eL _ _ (by decide +kernel)))<|dz (K:=K) (C:=C) (v:=.ref Z0d) (c:=.ref Z0d) (b:=decide<|6=j) rfl rfl<|hc 6 _ rfl) (bw (bQ (K:=K) (aJ (x:=CS "NoTablet") (l:=[78,111,84,97,98,108,101,116]) (eL _ _ (by decide +kernel)))<|dz (K:=K) (C:=C) (v:=.ref Z0g) (c:=.ref Z0g) (b:=decide<|7=j) rfl rfl<|hc 7 _ rfl)<|dZ (R:=isT2 K isS isB)))))))<|fun v3 W4 e3 h3=>?_;have E0:=E0.trans e3;refine av (Er:=fun _=>False) (i:=1) (R:=sh<|isL<|isT2 K isS isB) (m:=.ok<|f6 j 10) (σ':=fun v=>[some (.ref x),some v]) (EF (fI (FN<|aS (R:=sh<|isL<|isT2 K isS isB) h3) (Gw (ed (bw (bQ (K:=K) (aJ (x:=CS "NothingLeft") (l:=[78,111,116,104,105,110,103,76,101,102,116]) (eL _ _ (by decide +kernel)))<|dz (K:=K) (C:=C) (v:=.ref Z06) (c:=.ref Z06) (b:=decide<|8=j) rfl rfl<|hc 8 _ rfl) (bw (bQ (K:=K) (aJ (x:=CS "Unlike") (l:=[85,110,108,105,107,101]) (eL _ _ (by decide +kernel)))<|dz (K:=K) (C:=C) (v:=.ref Z0o) (c:=.ref Z0o) (b:=decide<|9=j) rfl rfl<|hc 9 _ rfl)<|dZ (R:=isT2 K isS isB)))))))<|fun v4 W5 e4 h4=>?_;have E0:=E0.trans e4;refine av (Er:=fun _=>False) (i:=1) (R:=sh<|isL<|isT2 K isS isB) (m:=.ok<|f6 j 12) (σ':=fun v=>[some (.ref x),some v]) (EF (fI (FN<|aS (R:=sh<|isL<|isT2 K isS isB) h4) (Gw (ed (bw (bQ (K:=K) (aJ (x:=CS "SeenThread") (l:=[83,101,101,110,84,104,114,101,97,100]) (eL _ _ (by decide +kernel)))<|dz (K:=K) (C:=C) (v:=.ref Z08) (c:=.ref Z08) (b:=decide<|10=j) rfl rfl<|hc 10 _ rfl) (bw (bQ (K:=K) (aJ (x:=CS "NoSuchWay") (l:=[78,111,83,117,99,104,87,97,121]) (eL _ _ (by decide +kernel)))<|dz (K:=K) (C:=C) (v:=.ref Z0b) (c:=.ref Z0b) (b:=decide<|11=j) rfl rfl<|hc 11 _ rfl)<|dZ (R:=isT2 K isS isB)))))))<|fun v5 W6 e5 h5=>?_;have E0:=E0.trans e5;refine av (Er:=fun _=>False) (i:=1) (R:=sh<|isL<|isT2 K isS isB) (m:=.ok<|f6 j 14) (σ':=fun v=>[some (.ref x),some v]) (EF (fI (FN<|aS (R:=sh<|isL<|isT2 K isS isB) h5) (Gw (ed (bw (bQ (K:=K) (aJ (x:=CS "Barred") (l:=[66,97,114,114,101,100]) (eL _ _ (by decide +kernel)))<|dz (K:=K) (C:=C) (v:=.ref Z0p) (c:=.ref Z0p) (b:=decide<|12=j) rfl rfl<|hc 12 _ rfl) (bw (bQ (K:=K) (aJ (x:=CS "no BandError") (l:=[110,111,32,66,97,110,100,69,114,114,111,114]) (eL _ _ (by decide +kernel)))<|sM<|dz (K:=K) (C:=C) (v:=.ref Z05) (c:=.ref Z05) (b:=true) rfl rfl hB)<|dZ (R:=isT2 K isS isB)))))))<|fun v6 W7 e6 h6=>?_;have E0:=E0.trans e6;refine av (Er:=fun _=>False) (i:=1) (R:=sh<|isL<|isT2 K isS isB) (m:=.ok<|f6 j 15) (σ':=fun v=>[some (.ref x),some v]) (EF (fI (FN<|aS (R:=sh<|isL<|isT2 K isS isB) h6) (Gw (ed (bw (bQ (K:=K) (aJ (x:=CS "no ValueError") (l:=[110,111,32,86,97,108,117,101,69,114,114,111,114]) (eL _ _ (by decide +kernel)))<|sM<|dz (K:=K) (C:=C) (v:=.ty "ValueError") (c:=.type "ValueError") (b:=true) rfl rfl hV)<|dZ (R:=isT2 K isS isB))))))<|fun v7 W8 e7 h7=>?_;have E0:=E0.trans e7;refine ib (Er:=fun _=>False) (m:=.ok [kindN.getD j []]) (oz j hj▸(mJ (R:=isT2 K isS isB) (R':=isS) (m:=.ok<|f6 j 15) (f:=wV) (fe<|aS (R:=sh<|isL<|isT2 K isS isB) h7) fun W3 a1 v2 e4 h5 Q12 k13=>?_:EVo (fun _=>False) _ _ _ isS ((CT<|f6 j 15).bind fun xs=>i7 xs wV)))<|fun p W e hp o=>hq p W (E0.trans e) (none_of E0.h hp) o;refine k8 h5 fun v6 v8 h7 h9=>?_;cases h7;cases h9;refine⟨by simp[Keep,bh],((gb<|aS (R:=sh isB) (a:=a1.2) (v:=.bl a1.2) rfl):TV (fun _=>False) _ [some (.str<|sOf a1.1),some<|.bl a1.2] _ _) _ (.refl _) _ ?_⟩;intro W15 e16;unfold wV at k13;cases hb:a1.2 with
  |false=>rw[hb]at k13;exact k13 none _ e16 trivial
  |true=>
   rw[hb]at k13;rw[if_pos rfl];exact((aS (R:=sh isS) (a:=a1.1) (v:=.str<|sOf a1.1) rfl):EV (fun _=>False) _ [some (.str<|sOf a1.1),some<|.bl true] _ _ _) W15 (.refl _) _ (fun u W18 e19 h21=>k13 (some u) _ (e16.trans e19) h21)
end
end Wb
local macro_rules | `(tactic|walk_at "L")=>`(tactic|first | exact GG rfl | exact Gr rfl)
local macro_rules | `(tactic|walk_at "F")=>`(tactic|exact⟨rfl,rfl,rfl,by decide +kernel,rfl,by decide +kernel,by decide +kernel⟩)
namespace Wb
open PySem L2 Mi
section
variable{P:Dg}{w:Dr}{K:CL}{mg:Str->Option CN}{base:Heap}
theorem BZ{f:Addr}{fd:Df}(F:Fun K "_law_at" "_law_at" (tp 39) f fd)(Z0P:mg "len"=none):FnOk P w K mg base CX0 (1) f fd ["_law_script","_law_k"] (cb (isScr K) isI (rs isI)<|AS):=by
 have SC:FnScope ["_law_script","_law_k"] ["_law_script","_law_k"] (defScope<|tp 39):=by walk_at "F"
 refine F.ok SC (fun vs H Q E h=>?_)<|fun cdv A outer s H vs Q E hr h=>?_;·obtain⟨_,_,_,_,_,_,rfl,_⟩:=h;rfl
 ·obtain⟨W0,Z0r,l_k,Z1S,_,rfl,rfl,Z02,z_l_k,Er,hq⟩:=h;cases z_l_k
  refine⟨_,(a6 (bG (bc rO (pv 1) (aj (bX (K:=K) rfl) (by rfl) Z0P Ei<|a4 (pv 0) a5)<|aY _) (af<|aq<|bj (cD (K:=K) rfl) (pv 0) (pv 1)<|fun _ _=>rfl) aI)
   (af (aq (ah aX (ah iC (ah bM (ah iC (pv 1) a8) a8) (ah bM (aj (bX (K:=K) rfl) (by rfl) Z0P Ei (a4 (pv 0) a5)) a8)) a8)))),?_⟩
  have E0:Ext W0 W0:=.refl W0;unfold AS at hq;refine bL (Er:=Er) (bq<|fH bR<|kZ<|bz Z02)<|fun W1 e2=>?_;have E0:=E0.trans e2;have Z02:=CJ e2.g Z02;by_cases hb13:(decide<|l_k<(Z0r.length:Int))=true
  ·rw[if_pos hb13]at hq ⊢;exact aw (Er:=Er) (sT (bz Z02) bR)<|Dk hq fun y3 hq v4 W5 e6 h7=>hq v4 W5 (E0.trans e6) h7
  ·rw[if_neg hb13]at hq ⊢
   try dsimp only[aA]
   exact aw (Er:=Er) (aD (fun _=>by decide) (nQ (bx (aD (fun _=>.inr ⟨by decide,by decide⟩) bR) ao)<|bx (kZ<|bz Z02) ao))<|Dk hq fun y9 hq v10 W11 e12 h13=>hq v10 W11 (E0.trans e12) h13
theorem C0{f:Addr}{fd:Df}(F:Fun K "_law_row" "_law_row" (tp 36) f fd)(Z2N:mg "abs"=none)(Z1w:mg "range"=none):FnOk P w K mg base CX0 (1) f fd ["_law_cell","_law_many","_law_base"] (iI isI isI isI (ro isI)<|AU):=by
 have SC:FnScope ["_law_cell","_law_many","_law_base","_law_now","_law_far","_law_mix","_law_out","_law_k"] ["_law_cell","_law_many","_law_base"] (defScope<|tp 36):=by walk_at "F"
 refine F.ok SC (fun vs H Q E h=>?_)<|fun cdv A outer s H vs Q E hr h=>?_;·obtain⟨_,_,_,_,_,_,_,_,rfl,_⟩:=h;rfl
 ·obtain⟨W0,Z04,Z1n,Z1U,_,_,_,rfl,rfl,Z0X,Z7y,ZeJ,Er,hq⟩:=h;cases Z0X;cases Z7y;cases ZeJ
  refine⟨_,(a6 (fo 3 (aj fU (by rfl) Z2N Fw<|a4 (pv 0) a5))
   (a6 (fo 4<|dE zF (pv 3) (ah xX a8 a8)<|aY _)
   (a6 (fo 5<|ah aX (pv 3) a8)
   (a6 (fo 6<|cB a5)
   (a6 (dD Ea rfl (gH rfl Z1w<|a4 (pv 1) a5) (hW 7) (a6 (fo 5<|ah aX (ah bM (ah bM (ah iC (pv 5) a8) a8)<|pv 7) a8)
   (af (bG (JQ<|jr (bY<|pv 4)<|hX<|bc mj (pv 3) a8<|aY _) (a6 (ef<|eX (K:=K) rfl (pv 6)<|a4 (ah aX (pv 3)<|pv 2) a5)
   (af (fo 3 (ah cZ (pv 3) (pv 2))))) (af (ef (eX (K:=K) rfl (pv 6) (a4 (ah aX (ah aX (ah iC (pv 5) (pv 5)) a8) (pv 2)) a5))))))))
   (af (aq (pv 6)))))))),?_⟩
  have E0:Ext W0 W0:=.refl W0;unfold AU at hq;refine av (Er:=Er) (jJ bR)<|fun v3 W1 e2 h4=>?_;cases h4;have E0:=E0.trans e2;refine av (Er:=Er) (fH bR (w8 (r:=1000000000000000000) (by decide) (by decide)))<|fun v7 W5 e6 h8=>?_;cases h8;have E0:=E0.trans e6;refine av (Er:=Er) (aD (fun _=>by decide) bR)<|fun v11 W9 e10 h12=>?_;cases h12;have E0:=E0.trans e10;refine kY (Er:=Er) (pe (R:=isI))<|fun p15 W13 e14 hp16 o17=>?_;have fr18:=none_of E0.h hp16;have E0:=E0.trans e14;refine eW (Er:=Er) (f:=(zr Z04 Z1U)) (s0:=(((dq Z04)%2147483647),dq Z04,([]:List Int))) (Iv:=fun(s21:(Int×Int×(List Int)))(W22:Wd)(g23:St)=>∃(d25:Option V),g23=[some (.int Z04),some<|.int Z1n,some<|.int Z1U,some<|.int s21.2.1,some<|.bl<|decide<|(1000000000000000000:Int)<=dq Z04,some<|.int s21.1,some<|.ref p15,d25]/\Ext W0 W22/\Ow isI W22 p15 s21.2.2) (ia bR) (CH hq) ?_ ?_ ?_
  ·intro W37 e38;have E0:=E0.trans e38;have o17:=o17.mono e38;exact⟨_,rfl,E0,o17⟩
  ·intro Wb26 W27 W28 a19 v29 s20 sg30 P31 hW32 hB33 iv e34 h35 hq;obtain⟨d25,rfl,E0,o24⟩:=iv;have E0:=E0.trans e34;have hB33:=hB33.trans e34.g;have o24:=o24.mono e34;cases h35;refine gn (σ':=[some (.int Z04),some<|.int Z1n,some<|.int Z1U,some<|.int s20.2.1,some<|.bl<|decide<|(1000000000000000000:Int)<=dq Z04,some<|.int s20.1,some<|.ref p15,some<|.int a19]) ?_;unfold zr at hq;refine av (Er:=Er) (aD (fun _=>by decide) (bx (bx (aD (fun _=>.inr ⟨by decide,by decide⟩) bR) ao) bR))<|fun v43 W41 e42 h44=>?_;cases h44;have E0:=E0.trans e42;have hB33:=hB33.trans e42.g;have o24:=o24.mono e42;refine nR (Er:=Er) (Iv:=fun(s74:(Int×(List Int)))(W75:Wd)(g76:St)=>g76=[some (.int Z04),some<|.int Z1n,some<|.int Z1U,some<|.int s74.1,some<|.bl<|decide<|(1000000000000000000:Int)<=dq Z04,some<|.int<|(((s20.1*48271)+(7919:Int))+a19)%2147483647,some<|.ref p15,some<|.int a19]/\Ext W0 W75/\Ow isI W75 p15 s74.2) (lP (gb BN)<|bq<|fH bR ao) (CH hq) ?_ ?_ ?_
   ·intro W46 N49 e47 hN50 hq;have hs51:=e47.g;have E0:=E0.trans e47;have hB33:=hB33.trans e47.g;have o24:=o24.mono e47;refine sS (Er:=Er) o24 (lN bR bR)<|(CH hq).imp fun y55 hq W52 mu53 o54=>?_;have E0:=mu53.e _ E0 fr18;have hB33:=hB33.trans mu53.g;have hs51:=hs51.trans mu53.g;refine lS (Er:=Er) (vW bR bR)<|(CH hq).imp fun y59 hq v60 W57 e58 h61=>?_;cases h61;have E0:=E0.trans e58;have hB33:=hB33.trans e58.g;have hs51:=hs51.trans e58.g;have o54:=o54.mono e58;exact hN50 (y59,y55) W57 _ hs51 ⟨rfl,E0,o54⟩ hq
   ·intro W46 N49 e47 hN50 hq;have hs62:=e47.g;have E0:=E0.trans e47;have hB33:=hB33.trans e47.g;have o24:=o24.mono e47;refine nS (Er:=Er) o24 (lN (aD (fun _=>by decide)<|nQ bR bR) bR)<|(CH hq).imp fun y68 hq W65 mu66 o67=>?_;have E0:=mu66.e _ E0 fr18;have hB33:=hB33.trans mu66.g;have hs62:=hs62.trans mu66.g;exact hN50 (s20.2.1,y68) W65 _ hs62 ⟨rfl,E0,o67⟩ hq
   ·intro s70 W71 sg72 hS73 iv hq;obtain⟨rfl,E0,o77⟩:=iv;have hB33:=hB33.trans hS73
    try dsimp only
    refine dO (W:=W71) (((((s20.1*48271)+(7919:Int))+a19)%2147483647),s70.1,s70.2) hB33 ?_ hq;exact⟨_,rfl,E0,o77⟩
  ·intro s79 W80 sg81 hS82 iv hq;obtain⟨d25,rfl,E0,o24⟩:=iv;exact⟨.ref p15,rfl,hq p15 W80 E0 fr18 o24⟩
theorem C1{f:Addr}{fd:Df}(F:Fun K "_law_holes" "_law_holes" (tp 37) f fd){jS:Int->Int->Int->Res (List Int)}(Z1i:Cal P w K mg base "_law_row" ["_law_cell","_law_many","_law_base"] (1) (iI isI isI isI (ro isI) jS)):FnOk P w K mg base CX0 (2) f fd ["_law_cell"] (eA isI (rs isS)<|AW jS):=by
 have SC:FnScope ["_law_cell","_law_size","_law_draws","_law_out","_law_d"] ["_law_cell"] (defScope<|tp 37):=by walk_at "F"
 refine F.ok SC (fun vs H Q E h=>?_)<|fun cdv A outer s H vs Q E hr h=>?_;·obtain⟨_,_,_,_,rfl,_⟩:=h;rfl
 ·obtain⟨W0,Z04,_,rfl,rfl,Z0X,Er,hq⟩:=h;cases Z0X;refine⟨_,(a6 (fo 1<|bj (cD (K:=K) rfl) (cB<|a4 a8<|a4 a8<|a4 a8<|a4 a8<|a4 a8 a5) (ah aX (pv 0) a8)<|fun _ _=>rfl)
   (a6 (fo 2<|eK Z1i<|a4 (ah cZ (pv 0) a8)<|a4 a8<|a4 a8 a5)
   (a6 (fo 3 aG)
   (a6 (dD Ea rfl (dH (K:=K) rfl<|bZ (sE (K:=K) rfl) (pv 2) dt<|cf a8) (hW 4)<|af<|fo 3<|ah bT (pv 3)<|bj eP aG (ah aX (ah bM (bj (cD (K:=K) rfl) (pv 2) a8<|fun _ _=>rfl)<|ah iC (ah aX (pv 4)<|pv 1) a8) a8)<|fun _ _=>rfl)
   (af (aq (pv 3))))))),?_⟩
  have E0:Ext W0 W0:=.refl W0;unfold AW at hq;refine av (Er:=Er) (eV (Gw<|ed<|bw ao<|bw ao<|bw ao<|bw ao<|bw ao<|dZ (R:=isI)) (aD (fun _=>by decide) bR))<|(CH hq).imp fun y3 hq v4 W1 e2 h5=>?_;cases h5;have E0:=E0.trans e2;refine av (Er:=Er) (EF (gJ (aD (fun _=>⟨by decide,by decide⟩) bR) ao ao))<|(CH hq).imp fun y8 hq v9 W6 e7 h10=>?_;have E0:=E0.trans e7;refine av (Er:=Er) (aJ (x:=CS "") (l:=[]) (eL _ _ (by decide +kernel)))<|fun v13 W11 e12 h14=>?_;cases h14;have E0:=E0.trans e12;have h10:=CJ e12.g h10;refine eW (Er:=Er) (f:=(zt y3 y8)) (s0:=([]:Tx)) (Iv:=fun(s17:Tx)(W18:Wd)(g19:St)=>∃(d20:Option V),g19=[some (.int Z04),some<|.int y3,some v9,some<|.str<|sOf s17,d20]/\Ext W0 W18) (fe<|EF<|vZ (FN<|bz h10) fN<|dU ao) (CH hq) ?_ ?_ ?_
  ·intro W32 e33;have E0:=E0.trans e33;have h10:=CJ e33.g h10;exact⟨_,rfl,E0⟩
  ·intro Wb21 W22 W23 a15 v24 s16 sg25 P26 hW27 hB28 iv e29 h30 hq;obtain⟨d20,rfl,E0⟩:=iv;have h10:=CJ hW27 h10;have E0:=E0.trans e29;have hB28:=hB28.trans e29.g;have h10:=CJ e29.g h10;cases h30;refine gn (σ':=[some (.int Z04),some<|.int y3,some v9,some<|.str<|sOf s16,some<|.int a15]) ?_;unfold zt at hq;refine lS (Er:=Er) (dv cO (eU (aJ (x:=CS "abcdefghijklmnopqrstuvwxyz") (l:=[97,98,99,100,101,102,103,104,105,106,107,108,109,110,111,112,113,114,115,116,117,118,119,120,121,122]) (eL _ _ (by decide +kernel))) (aD (fun _=>by decide) (bx (eV (FN<|bz h10) ao) (aD (fun _=>.inr ⟨by decide,by decide⟩)<|lN bR bR)))))<|(CH hq).imp fun y44 hq v45 W36 e37 h46=>?_;cases h46;have E0:=E0.trans e37;have hB28:=hB28.trans e37.g;have h10:=CJ e37.g h10
   try dsimp only
   refine dO (W:=W36) y44 hB28 ?_ hq;exact⟨_,rfl,E0⟩
  ·intro s47 W48 sg49 hS50 iv hq;obtain⟨d20,rfl,E0⟩:=iv;exact aw (Er:=Er) cO<|fun v51 W52 e53 h54=>hq v51 W52 (E0.trans e53) h54
theorem C2{f:Addr}{fd:Df}(F:Fun K "_law_card" "_law_card" (tp 38) f fd){wH:Int->Res Tx}(Z3S:Cal P w K mg base "_law_holes" ["_law_cell"] (2) (eA isI (rs isS) wH)):FnOk P w K mg base CX0 (3) f fd ["_law_cell"] (eA isI (rs<|qA K)<|AX wH):=by
 have SC:FnScope ["_law_cell"] ["_law_cell"] (defScope<|tp 38):=by walk_at "F"
 refine F.ok SC (fun vs H Q E h=>?_)<|fun cdv A outer s H vs Q E hr h=>?_;·obtain⟨_,_,_,_,rfl,_⟩:=h;rfl
 ·obtain⟨W0,Z04,_,rfl,rfl,Z0X,Er,hq⟩:=h;cases Z0X;refine⟨_,(af<|aq<|bC<|a4 (bj eP aG (ah aX (pv 0) a8)<|fun _ _=>rfl)<|a4 (eK Z3S<|a4 (ah cZ (pv 0) a8) a5)<|a4 (ah aX (ah cZ (pv 0) a8) a8) a5),?_⟩;have E0:Ext W0 W0:=.refl W0;unfold AX at hq;exact aw (Er:=Er) (i9 (K:=K) (eU (aJ (x:=CS "SZ") (l:=[83,90]) (eL _ _ (by decide +kernel))) (aD (fun _=>by decide) bR)) (dM (aD (fun _=>⟨by decide,by decide⟩) bR)) (aD (fun _=>by decide) (aD (fun _=>⟨by decide,by decide⟩) bR)))<|Dk hq fun y3 hq v4 W5 e6 h7=>hq v4 W5 (E0.trans e6) h7
theorem C3{f:Addr}{fd:Df}(F:Fun K "_law_draft" "_law_draft" (tp 40) f fd){vf:Int->Res Cd}{ir:List Int->Int->Res Int}(Z52:Cal P w K mg base "_law_card" ["_law_cell"] (3) (eA isI (rs<|qA K) vf))(Z1k:Cal P w K mg base "_law_at" ["_law_script","_law_k"] (1) (cb (isScr K) isI (rs isI) ir))(Z1w:mg "range"=none):FnOk P w K mg base CX0 (4) f fd ["_law_script","_law_at_here","_law_width"] (iI (isScr K) isI isI (ro<|qA K)<|AY vf ir):=by
 have SC:FnScope ["_law_script","_law_at_here","_law_width"] ["_law_script","_law_at_here","_law_width"] (defScope<|tp 40):=by walk_at "F"
 refine F.ok SC (fun vs H Q E h=>?_)<|fun cdv A outer s H vs Q E hr h=>?_;·obtain⟨_,_,_,_,_,_,_,_,rfl,_⟩:=h;rfl
 ·obtain⟨W0,Z0r,Z20,Z1l,Z1S,_,_,rfl,rfl,Z02,Zbz,Z6C,Er,hq⟩:=h;cases Zbz;cases Z6C;refine⟨_,(af (aq (du (N:=["_law_k","_law_script","_law_at_here"]) (cap:=[none,some 0,some 1]) (fF rfl (by decide +kernel) rfl (by decide +kernel) (by rfl) (by rfl)) rfl (gH rfl Z1w<|a4 (pv 2) a5) (fun _ _ _ _=>(aP (i:=0) (show DM (["_law_k","_law_script","_law_at_here"]:List Str) by decide +kernel) rfl (by walk_at "L"))) (fun _ _ _ _=>cw)<|fun _ _ _ _=>(eK Z52<|a4 (eK Z1k<|a4 (pv 1)<|a4 (ah bM (pv 2)<|pv 0) a5) a5)))),?_⟩;have E0:Ext W0 W0:=.refl W0;rw[show L2.start ["_law_script","_law_at_here","_law_width"] [Z1S,.int Z20,.int Z1l]=[some Z1S,some<|.int Z20,some<|.int Z1l]from rfl];unfold AY at hq;exact ib (Er:=Er) (cM (ia bR) fun W3 a1 v2 e4 h5 Q10 k11=>by
   have h6:=DB (R:=sh (isScr K)) e4 Z02;cases h5;refine gn ?_;exact⟨by simp[Keep,bh],((dM (bt (bz h6) (bx bR bR))):EV Er _ [some (.int a1),some Z1S,some (.int Z20)] _ _ _) _ (.refl _) _ k11⟩) (Dk hq fun y13 hq p14 W15 e16 hp17 o18=>hq p14 W15 (E0.trans e16) (none_of E0.h hp17) o18)
theorem C4{f:Addr}{fd:Df}(F:Fun K "_law_most" "_law_most" (tp 42) f fd):FnOk P w K mg base CX0 (1) f fd ["_law_cell"] (eA isI (rs isI)<|AZ):=by
 have SC:FnScope ["_law_cell"] ["_law_cell"] (defScope<|tp 42):=by walk_at "F"
 refine F.ok SC (fun vs H Q E h=>?_)<|fun cdv A outer s H vs Q E hr h=>?_;·obtain⟨_,_,_,_,rfl,_⟩:=h;rfl
 ·obtain⟨W0,Z04,_,rfl,rfl,Z0X,Er,hq⟩:=h;cases Z0X;refine⟨_,(a6 (bG (bc dm (ah aX (pv 0) a8) a8<|aY _) (af<|aq<|ah ly a8<|ah aX (ah cZ (pv 0) a8) a8) aI)
   (af (aq (ah aX (ah cZ (pv 0) a8) a8)))),?_⟩
  have E0:Ext W0 W0:=.refl W0;unfold AZ at hq;refine bL (Er:=Er) (bq (dJ (aD (fun _=>by decide) bR) ao))<|fun W1 e2=>?_;have E0:=E0.trans e2;by_cases hb10:(decide<|(Z04%3)=(0:Int))=true
  ·rw[if_pos hb10]at hq ⊢;exact aw (Er:=Er) (bx ao (aD (fun _=>by decide) (aD (fun _=>⟨by decide,by decide⟩) bR)))<|fun v3 W4 e5 h6=>hq v3 W4 (E0.trans e5) h6
  ·rw[if_neg hb10]at hq ⊢
   try dsimp only[aA]
   exact aw (Er:=Er) (aD (fun _=>by decide) (aD (fun _=>⟨by decide,by decide⟩) bR))<|fun v7 W8 e9 h10=>hq v7 W8 (E0.trans e9) h10
theorem C5{f:Addr}{fd:Df}(F:Fun K "_law_spools" "_law_spools" (tp 41) f fd){jS:Int->Int->Int->Res (List Int)}(Z1i:Cal P w K mg base "_law_row" ["_law_cell","_law_many","_law_base"] (1) (iI isI isI isI (ro isI) jS))(Z3i:mg "int"=none):FnOk P w K mg base CX0 (2) f fd ["_law_draft_here","_law_cell"] (cb (isL<|qA K) isI (rs la)<|B1 jS):=by
 have SC:FnScope ["_law_draft_here","_law_cell","_law_out","_law_draws","_law_k","_law_card_here","_law_colour","_law_left_out"] ["_law_draft_here","_law_cell"] (defScope<|tp 41):=by walk_at "F"
 refine F.ok SC (fun vs H Q E h=>?_)<|fun cdv A outer s H vs Q E hr h=>?_;·obtain⟨_,_,_,_,_,_,rfl,_⟩:=h;rfl
 ·obtain⟨W0,Z0T,Z04,Z0N,_,rfl,rfl,Z0G,Z0X,Er,hq⟩:=h;cases Z0X;refine⟨_,(a6 (fo 2 mD)
   (a6 (fo 3<|eK Z1i<|a4 (ah cZ (pv 1) a8)<|a4 a8<|a4 a8 a5)
   (a6 (fo 4 a8)
   (a6 (dD Ea rfl (dH (K:=K) rfl<|pv 0) (hW 5) (af (dD Ea rfl (iE<|bj (bP (K:=K) rfl) (pv 5) a8<|fun _ _=>rfl) (hW 6) (a6 (fo 7<|dE dm (ah aX (bj (cD (K:=K) rfl) (pv 3) (pv 4)<|fun _ _=>rfl) a8) a8<|aY _)
   (a6 (bG (JQ (jr (xT (qi (dX hr) (pv 6)<|pv 2) (by with_unfolding_all rfl))<|hX<|dw<|bY<|pv 7)) (a6 (i5 (dX hr) (pv 2) (pv 6) (bj (cD (K:=K) rfl) (pv 3) (pv 4)<|fun _ _=>rfl) rfl)
   (af (bG (bc dm (ah aX (pv 1) a8) a8 (aY _)) (af (i5 (dX hr) (pv 2) (pv 6) a8 rfl)) aI))) aI)
   (af (fo 4 (ah bM (pv 4) a8))))))))
   (a6 (bG (bc dm (ah aX (bj (cD (K:=K) rfl) (pv 3) a8<|fun _ _=>rfl) a8) a8<|aY _) (af (i5 (dX hr) (pv 2) aG (ah iC (bj (cD (K:=K) rfl) (pv 3) a8<|fun _ _=>rfl) (bW kE (by rfl) Z3i G1<|a4 (dE mj (ah aX (bj (cD (K:=K) rfl) (pv 3) a8<|fun _ _=>rfl) a8) a8<|aY _) a5)) rfl)) aI)
   (af (pM (i:=2) (aq (pv 2))))))))),?_⟩
  have E0:Ext W0 W0:=.refl W0;unfold B1 at hq;refine gL (Er:=Er) (pE (g:=(fun(a:Tx)=>Ds<|sOf a)) (R:=isI))<|fun p3 W1 e2 hp4 o5=>?_;have fr6:=none_of E0.h hp4;have E0:=E0.trans e2;have Z0G:=CJ e2.g Z0G;refine av (Er:=Er) (EF (gJ (aD (fun _=>⟨by decide,by decide⟩) bR) ao ao))<|(CH hq).imp fun y9 hq v10 W7 e8 h11=>?_;have E0:=E0.trans e8;have Z0G:=CJ e8.g Z0G;have o5:=o5.mono e8;refine av (Er:=Er) ao<|fun v14 W12 e13 h15=>?_;cases h15;have E0:=E0.trans e13;have Z0G:=CJ e13.g Z0G;have o5:=o5.mono e13;have h11:=CJ e13.g h11;refine eW (Er:=Er) (f:=(zv Z04 y9)) (s0:=((0:Int),([]:List (Tx×Int)))) (Iv:=fun(s18:(Int×di))(W19:Wd)(g20:St)=>∃(d22:Option V)(d23:Option V)(d24:Option V),g20=[some Z0N,some<|.int Z04,some<|.ref p3,some v10,some<|.int s18.1,d24,d22,d23]/\Ext W0 W19/\OwD (fun(a:Tx)=>Ds<|sOf a) isI W19 p3 s18.2) (fe<|bz Z0G) (CH hq) ?_ ?_ ?_
  ·intro W36 e37;have E0:=E0.trans e37;have o5:=o5.mono e37;have h11:=CJ e37.g h11;exact⟨_,_,_,rfl,E0,o5⟩
  ·intro Wb25 W26 W27 a16 v28 s17 sg29 P30 hW31 hB32 iv e33 h34 hq;obtain⟨d22,d23,d24,rfl,E0,o21⟩:=iv;have h11:=CJ hW31 h11;have E0:=E0.trans e33;have hB32:=hB32.trans e33.g;have o21:=o21.mono e33;have h11:=CJ e33.g h11;refine gn (σ':=[some Z0N,some<|.int Z04,some<|.ref p3,some v10,some<|.int s17.1,some v28,d22,d23]) ?_;unfold zv at hq;refine lT (Er:=Er) (f:=(zu Z04 y9)) (s0:=(s17.1,s17.2)) (Iv:=fun(s42:(Int×di))(W43:Wd)(g44:St)=>∃(d46:Option V)(d47:Option V),g44=[some Z0N,some<|.int Z04,some<|.ref p3,some v10,some<|.int s42.1,some v28,d47,d46]/\Ext W0 W43/\OwD (fun(a:Tx)=>Ds<|sOf a) isI W43 p3 s42.2) (iJ<|cK (f:=fun(b:Cd)=>b.2.1) qy<|bz h34) (CH hq) ?_ ?_ ?_
   ·intro W59 e60;have E0:=E0.trans e60;have hB32:=hB32.trans e60.g;have o21:=o21.mono e60;have h11:=CJ e60.g h11;have h34:=CJ e60.g h34;exact⟨_,_,rfl,E0,o21⟩
   ·intro Wb48 W49 W50 a40 v51 s41 sg52 P53 hW54 hB55 iv e56 h57 hq;obtain⟨d46,d47,rfl,E0,o45⟩:=iv;have hB32:=hB32.trans hW54;have h11:=CJ hW54 h11;have h34:=CJ hW54 h34;have E0:=E0.trans e56;have hB32:=hB32.trans e56.g;have hB55:=hB55.trans e56.g;have o45:=o45.mono e56;have h11:=CJ e56.g h11;have h34:=CJ e56.g h34;cases h57;refine gn (σ':=[some Z0N,some<|.int Z04,some<|.ref p3,some v10,some<|.int s41.1,some v28,some<|.str<|sOf a40,d46]) ?_;unfold zu at hq;refine av (Er:=Er) (dJ (aD (fun _=>by decide)<|eV (FN<|bz h11) bR) ao)<|(CH hq).imp fun y67 hq v68 W63 e64 h69=>?_;cases h69;have E0:=E0.trans e64;have hB32:=hB32.trans e64.g;have hB55:=hB55.trans e64.g;have o45:=o45.mono e64;have h11:=CJ e64.g h11;have h34:=CJ e64.g h34;refine mK (Er:=Er) (Iv:=fun(s106:di)(W107:Wd)(g108:St)=>g108=[some Z0N,some<|.int Z04,some<|.ref p3,some v10,some<|.int s41.1,some v28,some<|.str<|sOf a40,some<|.bl y67]/\Ext W0 W107/\OwD (fun(a:Tx)=>Ds<|sOf a) isI W107 p3 s106) (lP (bq<|qJ ig kS o45 cO)<|dY<|gb BN) (CH hq) ?_ ?_ ?_
    ·intro W71 N74 e72 hN75 hq;have hs76:=e72.g;have E0:=E0.trans e72;have hB32:=hB32.trans e72.g;have hB55:=hB55.trans e72.g;have o45:=o45.mono e72;have h11:=CJ e72.g h11;have h34:=CJ e72.g h34;refine qK (Er:=Er) ig kS o45 (eV (FN<|bz h11) bR) cO<|(CH hq).imp fun y81 hq W77 mu78 o79=>?_;have E0:=mu78.e _ E0 fr6;have hB32:=hB32.trans mu78.g;have hB55:=hB55.trans mu78.g;have hs76:=hs76.trans mu78.g;have h11:=CJ mu78.g h11;have h34:=CJ mu78.g h34;refine nR (Er:=Er) (Iv:=fun(s97:di)(W98:Wd)(g99:St)=>g99=[some Z0N,some<|.int Z04,some<|.ref p3,some v10,some<|.int s41.1,some v28,some<|.str<|sOf a40,some<|.bl y67]/\Ext W0 W98/\OwD (fun(a:Tx)=>Ds<|sOf a) isI W98 p3 s97) (bq (dJ (aD (fun _=>by decide) bR) ao)) (CH hq) ?_ ?_ ?_
     ·intro W82 N85 e83 hN86 hq;have hs87:=e83.g;have E0:=E0.trans e83;have hB32:=hB32.trans e83.g;have hB55:=hB55.trans e83.g;have hs76:=hs76.trans e83.g;have h11:=CJ e83.g h11;have h34:=CJ e83.g h34;have o79:=o79.mono e83;refine ik (Er:=Er) ig kS o79 ao cO<|(CH hq).imp fun y91 hq W88 mu89 o90=>?_;have E0:=mu89.e _ E0 fr6;have hB32:=hB32.trans mu89.g;have hB55:=hB55.trans mu89.g;have hs76:=hs76.trans mu89.g;have hs87:=hs87.trans mu89.g;have h11:=CJ mu89.g h11;have h34:=CJ mu89.g h34;exact hN86 y91 W88 _ hs87 ⟨rfl,E0,o90⟩ hq
     ·intro W82 N85 e83 hN86 hq;have hs92:=e83.g;have E0:=E0.trans e83;have hB32:=hB32.trans e83.g;have hB55:=hB55.trans e83.g;have hs76:=hs76.trans e83.g;have h11:=CJ e83.g h11;have h34:=CJ e83.g h34;have o79:=o79.mono e83
      try dsimp only[aA]
      exact hN86 y81 W82 _ hs92 ⟨rfl,E0,o79⟩ hq
     ·intro s93 W94 sg95 hS96 iv hq;obtain⟨rfl,E0,o100⟩:=iv;have hB32:=hB32.trans hS96;have hB55:=hB55.trans hS96;have hs76:=hs76.trans hS96;have h11:=CJ hS96 h11;have h34:=CJ hS96 h34;exact hN75 s93 W94 _ hs76 ⟨rfl,E0,o100⟩ hq
    ·intro W71 N74 e72 hN75 hq;have hs101:=e72.g;have E0:=E0.trans e72;have hB32:=hB32.trans e72.g;have hB55:=hB55.trans e72.g;have o45:=o45.mono e72;have h11:=CJ e72.g h11;have h34:=CJ e72.g h34
     try dsimp only[aA]
     exact hN75 s41.2 W71 _ hs101 ⟨rfl,E0,o45⟩ hq
    ·intro s102 W103 sg104 hS105 iv hq;obtain⟨rfl,E0,o109⟩:=iv;have hB32:=hB32.trans hS105;have hB55:=hB55.trans hS105;have h11:=CJ hS105 h11;have h34:=CJ hS105 h34;refine lS (Er:=Er) (bx bR ao)<|fun v112 W110 e111 h113=>?_;cases h113;have E0:=E0.trans e111;have hB32:=hB32.trans e111.g;have hB55:=hB55.trans e111.g;have o109:=o109.mono e111;have h11:=CJ e111.g h11;have h34:=CJ e111.g h34
     try dsimp only
     refine dO (W:=W110) ((s41.1+(1:Int)),s102) hB55 ?_ hq;exact⟨_,_,rfl,E0,o109⟩
   ·intro s114 W115 sg116 hS117 iv hq;obtain⟨d46,d47,rfl,E0,o45⟩:=iv;have hB32:=hB32.trans hS117;have h11:=CJ hS117 h11;have h34:=CJ hS117 h34
    try dsimp only
    refine dO (W:=W115) (s114.1,s114.2) hB32 ?_ hq;exact⟨_,_,_,rfl,E0,o45⟩
  ·intro s118 W119 sg120 hS121 iv hq;obtain⟨d22,d23,d24,rfl,E0,o21⟩:=iv;have h11:=CJ hS121 h11;refine mK (Er:=Er) (Iv:=fun(s146:di)(W147:Wd)(g148:St)=>g148=[some Z0N,some<|.int Z04,some<|.ref p3,some v10,some<|.int s118.1,d24,d22,d23]/\Ext W0 W147/\OwD (fun(a:Tx)=>Ds<|sOf a) isI W147 p3 s146) (bq (dJ (aD (fun _=>by decide)<|eV (FN<|bz h11) ao) ao)) (CH hq) ?_ ?_ ?_
   ·intro W125 N128 e126 hN129 hq;have hs130:=e126.g;have E0:=E0.trans e126;have o21:=o21.mono e126;have h11:=CJ e126.g h11;refine ik (Er:=Er) ig kS o21 (nQ (eV (FN<|bz h11) ao) (pf (fH (aD (fun _=>by decide)<|eV (FN<|bz h11) ao) ao))) (aJ (x:=CS "q") (l:=[113]) (eL _ _ (by decide +kernel)))<|(CH hq).imp fun y140 hq W136 mu137 o138=>?_;have E0:=mu137.e _ E0 fr6;have hs130:=hs130.trans mu137.g;exact hN129 y140 W136 _ hs130 ⟨rfl,E0,o138⟩ hq
   ·intro W125 N128 e126 hN129 hq;have hs141:=e126.g;have E0:=E0.trans e126;have o21:=o21.mono e126;have h11:=CJ e126.g h11
    try dsimp only[aA]
    exact hN129 s118.2 W125 _ hs141 ⟨rfl,E0,o21⟩ hq
   ·intro s142 W143 sg144 hS145 iv hq;obtain⟨rfl,E0,o149⟩:=iv;refine pN o149 E0 fr6 fun W150 E0 hS151 h153 hk152=>?_;exact aw (Er:=Er) (bz h153)<|fun v154 W155 e156 h157=>hq v154 W155 (E0.trans e156) h157
theorem C6{f:Addr}{fd:Df}{Z00:Addr}(F:Fun K "__init__" "Stage.__init__" (tq 29 0) f fd)(Z0e:Cls K Z00)(Z1L:NoAttr K Z00 "deed")(Z0s:NoAttr K Z00 "standing")(Z0Q:NoAttr K Z00 "reached")(Z0R:NoAttr K Z00 "highest")(Z0S:NoAttr K Z00 "lengths")(Z12:NoAttr K Z00 "pick"):FnOk P w K mg base CX0 (1) f fd ["self","deed","standing","reached","highest","lengths","pick"] (uf Z00 ["deed","standing","reached","highest","lengths","pick"]):=by
 have SC:FnScope ["self","deed","standing","reached","highest","lengths","pick"] ["self","deed","standing","reached","highest","lengths","pick"] (defScope<|tq 29 0):=by walk_at "F"
 refine F.ok SC (fun vs H Q E h=>?_)<|fun cdv A outer s H vs Q E hr h=>?_;·obtain⟨_,_,us,rfl,hl,_⟩:=h;rw[DW,hl];rfl
 ·obtain⟨aa,dx,us,rfl,hl,ha,hq⟩:=h
  match us,hl,hq with
  | [u0,u1,u2,u3,u4,u5],_,hq=>
   refine⟨_,(a6 (eN (pv 0) (pv 1) rfl)
   (a6 (eN (pv 0) (pv 2) rfl)
   (a6 (eN (pv 0) (pv 3) rfl)
   (a6 (eN (pv 0) (pv 4) rfl)
   (a6 (eN (pv 0) (pv 5) rfl)
   (af (eN (pv 0) (pv 6) rfl))))))),?_⟩
   refine⟨u0,rfl,.ref aa,rfl,aa,Z00,dx,_,rfl,ha,Z0e,Z1L,(by show 0<1000;decide),⟨u1,rfl,.ref aa,rfl,aa,Z00,dx,_,rfl,ak,Z0e,Z0s,(by show 1<1000;decide),⟨u2,rfl,.ref aa,rfl,aa,Z00,dx,_,rfl,ak,Z0e,Z0Q,(by show 2<1000;decide),⟨u3,rfl,.ref aa,rfl,aa,Z00,dx,_,rfl,ak,Z0e,Z0R,(by show 3<1000;decide),⟨u4,rfl,.ref aa,rfl,aa,Z00,dx,_,rfl,ak,Z0e,Z0S,(by show 4<1000;decide),⟨u5,rfl,.ref aa,rfl,aa,Z00,dx,_,rfl,ak,Z0e,Z12,(by show 5<1000;decide),?_⟩⟩⟩⟩⟩⟩;show Q .non _
   repeat rw[oK]
   exact hq
theorem C7{f:Addr}{fd:Df}(F:Fun K "first_stage" "first_stage" (tp 30) f fd){Z00:Addr}(Z3N:CalI P w K mg base "Stage" Z00 ["self","deed","standing","reached","highest","lengths","pick"] (1) (uf Z00 ["deed","standing","reached","highest","lengths","pick"]))(Z0e:Cls K Z00)(Z1q:mg "dict"=none)(Z0P:mg "len"=none)(Z0Z:mg "list"=none):FnOk P w K mg base CX0 (3) f fd ["draft","spools"] (gO (wC (pk<|qA K)<|wC (pkD (fun(a:Tx)=>Ds<|sOf a) isI) wN) (rs<|aW K Z00)<|fun a=>Af a.1 a.2.1):=by
 have SC:FnScope ["draft","spools"] ["draft","spools"] (defScope<|tp 30):=by walk_at "F"
 refine F.ok SC (fun vs H Q E h=>?_)<|fun cdv A outer s H vs Q E hr h=>?_;·obtain⟨_,_,_,ra,_⟩:=h;obtain⟨_,us,rfl,_,ra⟩:=ra;obtain⟨_,us,rfl,_,ra⟩:=ra;cases ra;rfl
 ·obtain⟨W0,aa,rfl,ra,Er,hq⟩:=h;obtain⟨draft,spools,_⟩:=aa;obtain⟨Z31,us,rfl,Z1m,ra⟩:=ra;replace Z1m:(pk<|qA K) W0 draft Z31:=Z1m;obtain⟨Z3T,us,rfl,Z1T,ra⟩:=ra;replace Z1T:(pkD (fun(a:Tx)=>Ds<|sOf a) isI) W0 spools Z3T:=Z1T;cases ra;replace hq:(Af draft spools).OkE Er (fun r=>(rs<|aW K Z00) W0 r Q):=hq;refine⟨_,(af (aq (lX Z3N (hr.mono (by decide)) (by rfl) (a4 lq (a4 (bW (cT (K:=K) rfl) (by rfl) Z0Z Ee<|a4 (pv 0) a5) (a4 (ah rZ (cB<|a4 a8 a5) (aj (bX (K:=K) rfl) (by rfl) Z0P Ei<|a4 (pv 0) a5)) (a4 (ah rZ (cB<|a4 a8 a5) (aj (bX (K:=K) rfl) (by rfl) Z0P Ei<|a4 (pv 0) a5)) (a4 (tU (bW fy (by rfl) Z1q Fm<|a4 (pv 1) a5))<|a4 lq a5)))))))),?_⟩;have E0:Ext W0 W0:=.refl W0;unfold Af at hq;exact aw (Er:=Er) (mX (ku<|ku<|ku<|ku<|ku Ac)<|cF (gi (K:=K) zZ yn)<|cF (EF<|fq<|aS (R:=(pk<|qA K))<|DB E0 Z1m)<|cF (EF<|pK (Gw<|ed<|bw ao<|dZ (R:=isI))<|gI<|aS (R:=(pk<|qA K))<|DB E0 Z1m)<|cF (EF<|pK (Gw<|ed<|bw ao<|dZ (R:=isI))<|gI<|aS (R:=(pk<|qA K))<|DB E0 Z1m)<|cF (EVd.ev<|gq<|aS (R:=(pkD (fun(a:Tx)=>Ds<|sOf a) isI))<|DB E0 Z1T)<|mW<|vV (R:=(qD K)))<|Dk hq fun y6 hq v7 W8 e9 h10=>hq v7 W8 (E0.trans e9) h10
theorem C8{f:Addr}{fd:Df}(F:Fun K "__init__" "Loom.__init__" (tq 34 0) f fd){wK:(List Cd)->di->Res eZ}{Z00 Z01:Addr}(Z3r:Cal P w K mg base "first_stage" ["draft","spools"] (3) (gO (wC (pk<|qA K)<|wC (pkD (fun(a:Tx)=>Ds<|sOf a) isI) wN) (rs<|aW K Z00)<|fun a=>wK a.1 a.2.1))(Z0f:Cls K Z01)(Z0q:NoAttr K Z01 "course")(Z1Y:NoAttr K Z01 "most")(Z1M:NoAttr K Z01 "start")(Z1x:NoAttr K Z01 "undone"):FnOk P w K mg base CX0 (4) f fd ["self","draft","most","spools"] (pP Z01 (eg K Z00) (wC (pk<|qA K)<|wC (sh isI)<|wC (pkD (fun(a:Tx)=>Ds<|sOf a) isI) wN)<|fun a=>Ag wK a.1 a.2.1 a.2.2.1):=by
 have SC:FnScope ["self","draft","most","spools"] ["self","draft","most","spools"] (defScope<|tq 34 0):=by walk_at "F"
 refine F.ok SC (fun vs H Q E h=>?_)<|fun cdv A outer s H vs Q E hr h=>?_;·obtain⟨_,_,_,_,_,us,_,rfl,_,_,_,_,_,_,_,_,ra,_⟩:=h;obtain⟨_,us,rfl,_,ra⟩:=ra;obtain⟨_,us,rfl,_,ra⟩:=ra;obtain⟨_,us,rfl,_,ra⟩:=ra;cases ra;rfl
 ·obtain⟨W0,W,aa,dx,ax,us,rfl,rfl,E0,n1,n2,nd,ga,gd,ha,hd,ra,Er,hq⟩:=h;obtain⟨draft,most,spools,_⟩:=ax;obtain⟨Z31,us,rfl,Z1m,ra⟩:=ra;replace Z1m:(pk<|qA K) W0 draft Z31:=Z1m;obtain⟨Zfc,us,rfl,Z9Z,ra⟩:=ra;replace Z9Z:(sh isI) W0 most Zfc:=Z9Z;obtain⟨Z3T,us,rfl,Z1T,ra⟩:=ra;replace Z1T:(pkD (fun(a:Tx)=>Ds<|sOf a) isI) W0 spools Z3T:=Z1T;cases ra;cases Z9Z;replace hq:(Ag wK draft most spools).OkE Er (fun b=>∀W' F,Ext W0 W'->(∀q,F q->W0.H q=none)->oOb Z01 (eg K Z00) W' F b (.ref aa)->Q .non W'.H):=hq;refine⟨_,(a6 (eN (pv 0) (pv 2) rfl)
   (a6 (eN (pv 0) (eK Z3r<|a4 (pv 1)<|a4 (pv 3) a5) rfl)
   (a6 (eN (pv 0) (cB a5) rfl)
   (af (eN (pv 0) (cB a5) rfl))))),?_⟩
  have S:Sep W0 W [tc (oRaw Z01 aa dx []) () (.ref aa)]:=Ls (R:=oRaw Z01 aa dx []) (F:=fun q=>q=aa\/q=dx) ⟨rfl,ga,gd,ha,hd,nd,fun q=>Gm⟩ (fun q hq=>hq.elim (fun z=>by rw[z];exact n1) fun z=>by rw[z];exact n2);unfold Ag at hq;refine jQ (Er:=Er) Z0f Z1Y (by show 0<1000;decide) S E0 (EV.trf bR)<|fun u1 W2 E0 hS3 S=>?_;rw[iq]at S;have S:Sep W0 W2 [tc (oRaw Z01 aa dx [("most",u1)]) () (.ref aa),tc (fz isI) most u1]:=S;refine jQ (Er:=Er) Z0f Z1M (by show 1<1000;decide) S E0 (EV.trf<|ip<|bu (R:=(pk<|qA K)) (aS (R:=(pk<|qA K))<|DB E0 Z1m)<|bu (R:=(pkD (fun(a:Tx)=>Ds<|sOf a) isI)) (aS (R:=(pkD (fun(a:Tx)=>Ds<|sOf a) isI))<|DB E0 Z1T) cz)<|(CH hq).imp fun y7 hq u4 W5 E0 hS6 S=>?_;rw[gP (by decide),iq]at S;have S:Sep W0 W5 [tc (oRaw Z01 aa dx [("most",u1),("start",u4)]) () (.ref aa),tc (fz isI) most u1,tc (fz<|aW K Z00) y7 u4]:=S;refine jQ (Er:=Er) Z0f Z0q (by show 2<1000;decide) S E0 (gj (R:=(fz<|aW K Z00)))<|fun u8 W9 E0 hS10 S=>?_;rw[gP (by decide),gP (by decide),iq]at S;have S:Sep W0 W9 [tc (oRaw Z01 aa dx [("most",u1),("start",u4),("course",u8)]) () (.ref aa),tc (fz isI) most u1,tc (fz<|aW K Z00) y7 u4,tc (oL<|fz<|aW K Z00) ([]:List eZ) u8]:=S;refine ue (Er:=Er) Z0f Z1x (by show 3<1000;decide) S E0 (gj (R:=(fz<|aW K Z00)))<|fun u11 W12 E0 hS13 S=>?_;rw[gP (by decide),gP (by decide),gP (by decide),iq]at S;have S:Sep W0 W12 [tc (oRaw Z01 aa dx [("most",u1),("start",u4),("course",u8),("undone",u11)]) () (.ref aa),tc (fz isI) most u1,tc (fz<|aW K Z00) y7 u4,tc (oL<|fz<|aW K Z00) ([]:List eZ) u8,tc (oL<|fz<|aW K Z00) ([]:List eZ) u11]:=S;obtain⟨F,hF,t⟩:=BF S;exact hq _ F E0 hF t
abbrev jd(K:CL):=isT4 K (isL<|qA K) (isL isI) (isL isI) la
theorem C9{f:Addr}{fd:Df}(F:Fun K "_law_begin" "_law_begin" (tp 47) f fd)(Z1q:mg "dict"=none)(Z0Z:mg "list"=none):FnOk P w K mg base CX0 (1) f fd ["_law_draft_here","_law_spools_here"] (cb (isL<|qA K) la (rs<|jd K)<|B2):=by
 have SC:FnScope ["_law_draft_here","_law_spools_here"] ["_law_draft_here","_law_spools_here"] (defScope<|tp 47):=by walk_at "F"
 refine F.ok SC (fun vs H Q E h=>?_)<|fun cdv A outer s H vs Q E hr h=>?_;·obtain⟨_,_,_,_,_,_,rfl,_⟩:=h;rfl
 ·obtain⟨W0,Z0T,Z2v,Z0N,Z4X,rfl,rfl,Z0G,Z8d,Er,hq⟩:=h;refine⟨_,(af (aq (bC (a4 (bW (cT (K:=K) rfl) (by rfl) Z0Z Ee<|a4 (pv 0) a5) (a4 (du (N:=["_law_card_here"]) (cap:=[none]) (fF rfl (by decide +kernel) rfl (by decide +kernel) (by rfl) (by rfl)) rfl (dH (K:=K) rfl<|pv 0) (fun _ _ _ _=>(aP (i:=0) (show DM (["_law_card_here"]:List Str) by decide +kernel) rfl (by walk_at "L"))) (fun _ _ _ _=>cw)<|fun _ _ _ _=>a8) (a4 (du (N:=["_law_card_here"]) (cap:=[none]) (fF rfl (by decide +kernel) rfl (by decide +kernel) (by rfl) (by rfl)) rfl (dH (K:=K) rfl<|pv 0) (fun _ _ _ _=>(aP (i:=0) (show DM (["_law_card_here"]:List Str) by decide +kernel) rfl (by walk_at "L"))) (fun _ _ _ _=>cw)<|fun _ _ _ _=>a8) (a4 (tU (bW fy (by rfl) Z1q Fm<|a4 (pv 1) a5)) a5))))))),?_⟩;have E0:Ext W0 W0:=.refl W0;rw[show L2.start ["_law_draft_here","_law_spools_here"] [Z0N,Z4X]=[some Z0N,some Z4X]from rfl];unfold B2 at hq;exact aw (Er:=Er) (pD (K:=K) (EF<|fq<|FN<|bz Z0G) (EF (cM (fe<|bz Z0G) fun W3 a1 v2 e4 h5 Q8 k9=>by
   refine gn ?_;exact⟨by simp[Keep,bh],(ao:EV Er _ [some v2] _ _ _) _ (.refl _) _ k9⟩)) (EF (cM (fe (bz Z0G)) fun W12 a10 v11 e13 h14 Q17 k18=>by
   refine gn ?_;exact⟨by simp[Keep,bh],(ao:EV Er _ [some v11] _ _ _) _ (.refl _) _ k18⟩)) (EVd.ev (gq (Jw (bz Z8d))))) (Dk hq fun y21 hq v22 W23 e24 h25=>hq v22 W23 (E0.trans e24) h25)
theorem Ca{f:Addr}{fd:Df}(F:Fun K "_law_sign" "_law_sign" (tp 44) f fd):FnOk P w K mg base CX0 (1) f fd ["_law_cell"] (eA isI (rs isS)<|B3):=by
 have SC:FnScope ["_law_cell","_law_some"] ["_law_cell"] (defScope<|tp 44):=by walk_at "F"
 refine F.ok SC (fun vs H Q E h=>?_)<|fun cdv A outer s H vs Q E hr h=>?_;·obtain⟨_,_,_,_,rfl,_⟩:=h;rfl
 ·obtain⟨W0,Z04,_,rfl,rfl,Z0X,Er,hq⟩:=h;cases Z0X;refine⟨_,(a6 (fo 1 aG)
   (a6 (fo 1<|ah bT (pv 1) aG)
   (af (aq (bj eP (pv 1) (ah aX (pv 0) a8) (fun _ _=>rfl)))))),?_⟩
  have E0:Ext W0 W0:=.refl W0;unfold B3 at hq;refine av (Er := Er) (aJ (x := CS " !\"#$&'()*+,-./0123456789:;<=>?@ABCDEFGHIJKLMNOPQRSTUVWXYZ[\\]^_`") (l := [32, 33, 34, 35, 36, 38, 39, 40, 41, 42, 43, 44, 45, 46, 47, 48, 49, 50, 51, 52, 53, 54, 55, 56, 57, 58, 59, 60, 61, 62, 63, 64, 65, 66, 67, 68, 69, 70, 71, 72, 73, 74, 75, 76, 77, 78, 79, 80, 81, 82, 83, 84, 85, 86, 87, 88, 89, 90, 91, 92, 93, 94, 95, 96]) (eL _ _ (by decide +kernel))) (fun v3 W1 e2 h4 => ?_);cases h4;have E0:=E0.trans e2;refine av (Er:=Er) (dv (aS (R:=sh isS) (a:=([32,33,34,35,36,38,39,40,41,42,43,44,45,46,47,48,49,50,51,52,53,54,55,56,57,58,59,60,61,62,63,64,65,66,67,68,69,70,71,72,73,74,75,76,77,78,79,80,81,82,83,84,85,86,87,88,89,90,91,92,93,94,95,96]:Tx)) (v:=.str (sOf ([32,33,34,35,36,38,39,40,41,42,43,44,45,46,47,48,49,50,51,52,53,54,55,56,57,58,59,60,61,62,63,64,65,66,67,68,69,70,71,72,73,74,75,76,77,78,79,80,81,82,83,84,85,86,87,88,89,90,91,92,93,94,95,96]:Tx))) rfl) (aJ (x:=CS "abcdefghijklmnopqrstuvwxyz{|}~\n") (l:=[97,98,99,100,101,102,103,104,105,106,107,108,109,110,111,112,113,114,115,116,117,118,119,120,121,122,123,124,125,126,10]) (eL _ _ (by decide +kernel)))) ((CH hq).imp fun y7 hq v8 W5 e6 h9=>?_);cases h9;have E0:=E0.trans e6;exact aw (Er:=Er) (eU cO (aD (fun _=>by decide) bR)) (Dk hq fun y10 hq v11 W12 e13 h14=>hq v11 W12 (E0.trans e13) h14)
theorem Cb{f:Addr}{fd:Df}(F:Fun K "_law_spoil" "_law_spoil" (tp 45) f fd){wO:Int->Res Tx}(Z53:Cal P w K mg base "_law_sign" ["_law_cell"] (1) (eA isI (rs isS) wO))(Z0P:mg "len"=none):FnOk P w K mg base CX0 (2) f fd ["_law_text","_law_cell"] (cb isS isI (rs isS)<|B4 wO):=by
 have SC:FnScope ["_law_text","_law_cell","_law_at_here","_law_sign_here","_law_twin"] ["_law_text","_law_cell"] (defScope<|tp 45):=by walk_at "F"
 refine F.ok SC (fun vs H Q E h=>?_)<|fun cdv A outer s H vs Q E hr h=>?_;·obtain⟨_,_,_,_,_,_,rfl,_⟩:=h;rfl
 ·obtain⟨W0,Z1c,Z04,_,_,rfl,rfl,ZeN,Z0X,Er,hq⟩:=h;cases ZeN;cases Z0X
  refine⟨_,(a6 (fo 2 (ah aX (ah cZ (pv 1) a8) (ah bM (aj (bX (K:=K) rfl) (by rfl) Z0P Ei<|a4 (pv 0) a5) a8)))
   (a6 (fo 3<|eK Z53<|a4 (ah cZ (pv 1) a8) a5)
   (a6 (bG (bc dm (ah aX (pv 1) a8) a8<|aY _) (af<|aq<|ah bT (ah bT (bZ dG (pv 0) dt<|cf<|pv 2)<|pv 3)<|bZ dG (pv 0) (cf<|pv 2) dt) aI)
   (a6 (bG (bc dm (ah aX (pv 1) a8) a8<|aY _) (af<|aq<|ah bT (bZ dG (pv 0) dt<|cf<|pv 2)<|bZ dG (pv 0) (cf<|ah bM (pv 2) a8) dt) aI)
   (a6 (bG (bc dm (ah aX (pv 1) a8) a8<|aY _) (af<|aq<|ah bT (ah bT (bZ dG (pv 0) dt<|cf<|pv 2)<|pv 3)<|bZ dG (pv 0) (cf<|ah bM (pv 2) a8) dt) aI)
   (a6 (bG (bc dm (ah aX (pv 1) a8) a8<|aY _) (af<|aq<|ah bT (ah bT (bZ dG (pv 0) dt<|cf<|pv 2)<|bZ dG (pv 0) (cf<|pv 2)<|cf<|ah bM (pv 2) a8)<|bZ dG (pv 0) (cf<|pv 2) dt) aI)
   (a6 (fo 4<|ah bT (bZ dG (pv 0) (cf<|ah bM (pv 2) a8)<|cf<|ah bM (pv 2) a8)<|bZ dG (pv 0) (cf<|pv 2)<|cf<|ah bM (pv 2) a8)
   (af (aq (ah bT (ah bT (bZ dG (pv 0) dt (cf (pv 2))) (pv 4)) (bZ dG (pv 0) (cf (ah bM (pv 2) a8)) dt))))))))))),?_⟩
  have E0:Ext W0 W0:=.refl W0;unfold B4 at hq;refine av (Er:=Er) (lN (aD (fun _=>⟨by decide,by decide⟩) bR)<|bx (lQ cO) ao)<|(CH hq).imp fun y5 hq v6 W1 e2 h7=>?_;cases h7;have E0:=E0.trans e2;refine av (Er:=Er) (dM (aD (fun _=>⟨by decide,by decide⟩) bR))<|(CH hq).imp fun y10 hq v11 W8 e9 h12=>?_;cases h12;have E0:=E0.trans e9;refine bL (Er:=Er) (bq (dJ (aD (fun _=>by decide) bR) ao))<|fun W13 e14=>?_;have E0:=E0.trans e14;by_cases hb67:(decide<|(Z04%5)=(0:Int))=true
  ·rw[if_pos hb67]at hq ⊢;exact aw (Er:=Er) (dv (dv (d5 cO fN<|dU bR) cO)<|d5 cO (dU bR) fN)<|Dk hq fun y18 hq v19 W20 e21 h22=>hq v19 W20 (E0.trans e21) h22
  ·rw[if_neg hb67]at hq ⊢
   try dsimp only[aA]
   refine bL (Er:=Er) (bq (dJ (aD (fun _=>by decide) bR) ao))<|fun W23 e24=>?_;have E0:=E0.trans e24;by_cases hb67:(decide<|(Z04%5)=(1:Int))=true
   ·rw[if_pos hb67]at hq ⊢;exact aw (Er:=Er) (dv (d5 cO fN<|dU bR)<|d5 cO (dU<|bx bR ao) fN)<|Dk hq fun y27 hq v28 W29 e30 h31=>hq v28 W29 (E0.trans e30) h31
   ·rw[if_neg hb67]at hq ⊢
    try dsimp only[aA]
    refine bL (Er:=Er) (bq (dJ (aD (fun _=>by decide) bR) ao))<|fun W32 e33=>?_;have E0:=E0.trans e33;by_cases hb67:(decide<|(Z04%5)=(2:Int))=true
    ·rw[if_pos hb67]at hq ⊢;exact aw (Er:=Er) (dv (dv (d5 cO fN<|dU bR) cO)<|d5 cO (dU<|bx bR ao) fN)<|Dk hq fun y37 hq v38 W39 e40 h41=>hq v38 W39 (E0.trans e40) h41
    ·rw[if_neg hb67]at hq ⊢
     try dsimp only[aA]
     refine bL (Er:=Er) (bq (dJ (aD (fun _=>by decide) bR) ao))<|fun W42 e43=>?_;have E0:=E0.trans e43;by_cases hb67:(decide<|(Z04%5)=(3:Int))=true
     ·rw[if_pos hb67]at hq ⊢;exact aw (Er:=Er) (dv (dv (d5 cO fN<|dU bR)<|d5 cO (dU bR)<|dU<|bx bR ao)<|d5 cO (dU bR) fN)<|Dk hq fun y48 hq v49 W50 e51 h52=>hq v49 W50 (E0.trans e51) h52
     ·rw[if_neg hb67]at hq ⊢
      try dsimp only[aA]
      refine av (Er:=Er) (dv (d5 cO (dU<|bx bR ao)<|dU<|bx bR ao)<|d5 cO (dU bR)<|dU<|bx bR ao)<|(CH hq).imp fun y57 hq v58 W53 e54 h59=>?_;cases h59;have E0:=E0.trans e54;exact aw (Er:=Er) (dv (dv (d5 cO fN<|dU bR) cO)<|d5 cO (dU<|bx bR ao) fN)<|Dk hq fun y63 hq v64 W65 e66 h67=>hq v64 W65 (E0.trans e66) h67
theorem Cc{f:Addr}{fd:Df}(F:Fun K "_law_turns" "_law_turns" (tp 43) f fd){jS:Int->Int->Int->Res (List Int)}(Z1i:Cal P w K mg base "_law_row" ["_law_cell","_law_many","_law_base"] (1) (iI isI isI isI (ro isI) jS)):FnOk P w K mg base CX0 (2) f fd ["_law_cell","_law_many"] (cb isI isI (rs isS)<|B5 jS):=by
 have SC:FnScope ["_law_cell","_law_many"] ["_law_cell","_law_many"] (defScope<|tp 43):=by walk_at "F"
 refine F.ok SC (fun vs H Q E h=>?_)<|fun cdv A outer s H vs Q E hr h=>?_;·obtain⟨_,_,_,_,_,_,rfl,_⟩:=h;rfl
 ·obtain⟨W0,Z04,Z1n,_,_,rfl,rfl,Z0X,Z7y,Er,hq⟩:=h;cases Z0X;cases Z7y;refine⟨_,(a6 (bG (bc dm (ah aX (pv 0) a8) a8<|aY _) (af<|aq<|ah jB (bj eP aG (ah aX (ah cZ (pv 0) a8) a8)<|fun _ _=>rfl)<|pv 1) aI)
   (af (aq (sV (K:=K) rfl aG (a4 (du (N:=["_law_d"]) (cap:=[none]) (fF rfl (by decide +kernel) rfl (by decide +kernel) (by rfl) (by rfl)) rfl (dH (K:=K) rfl (eK Z1i (a4 (ah cZ (pv 0) a8) (a4 (pv 1) (a4 a8 a5))))) (fun _ _ _ _=>(aP (i:=0) (show DM (["_law_d"]:List Str) by decide +kernel) rfl (by walk_at "L"))) (fun _ _ _ _=>cw) (fun _ _ _ _=>(bj eP aG (pv 0) (fun _ _=>rfl)))) a5))))),?_⟩
  have E0:Ext W0 W0:=.refl W0;rw[show L2.start ["_law_cell","_law_many"] [.int Z04,.int Z1n]=[some (.int Z04),some<|.int Z1n]from rfl];unfold B5 at hq;refine bL (Er:=Er) (bq (dJ (aD (fun _=>by decide) bR) ao))<|fun W1 e2=>?_;have E0:=E0.trans e2;by_cases hb24:(decide<|(Z04%7)=(3:Int))=true
  ·rw[if_pos hb24]at hq ⊢;exact aw (Er:=Er) (p8 (eU (aJ (x:=CS "fbi") (l:=[102,98,105]) (eL _ _ (by decide +kernel))) (aD (fun _=>by decide) (aD (fun _=>⟨by decide,by decide⟩) bR))) bR)<|Dk hq fun y4 hq v5 W6 e7 h8=>hq v5 W6 (E0.trans e7) h8
  ·rw[if_neg hb24]at hq ⊢
   try dsimp only[aA]
   exact aw (Er:=Er) (w4 (eL _ _ (by decide +kernel)) (Gw (cM (fe (EF (gJ (aD (fun _=>⟨by decide,by decide⟩) bR) bR ao))) fun W11 a9 v10 e12 h13 Q16 k17=>by
    cases h13;refine gn ?_;exact⟨by simp[Keep,bh],((eU (aJ (x:=CS "fbi") (l:=[102,98,105]) (eL _ _ (by decide +kernel))) bR):EV Er _ [some (.int a9)] _ _ _) _ (.refl _) _ k17⟩))) (Dk hq fun y20 hq v21 W22 e23 h24=>hq v21 W22 (E0.trans e23) h24)
theorem Ce{f:Addr}{fd:Df}(F:Fun K "_law_rowtext" "_law_rowtext" (tp 46) f fd){wQ:Tx->Int->Res Tx}{wR:Int->Int->Res Tx}(Z3U:Cal P w K mg base "_law_spoil" ["_law_text","_law_cell"] (2) (cb isS isI (rs isS) wQ))(Z3V:Cal P w K mg base "_law_turns" ["_law_cell","_law_many"] (2) (cb isI isI (rs isS) wR)):FnOk P w K mg base CX0 (3) f fd ["_law_cell","_law_width"] (cb isI isI (rs isS)<|B6 wQ wR):=by
 have SC:FnScope ["_law_cell","_law_width"] ["_law_cell","_law_width"] (defScope<|tp 46):=by walk_at "F"
 refine F.ok SC (fun vs H Q E h=>?_)<|fun cdv A outer s H vs Q E hr h=>?_;·obtain⟨_,_,_,_,_,_,rfl,_⟩:=h;rfl
 ·obtain⟨W0,Z04,Z1l,_,_,rfl,rfl,Z0X,Z6C,Er,hq⟩:=h;cases Z0X;cases Z6C;refine⟨_,(a6 (bG (bc dm (ah aX (pv 0) a8) a8<|aY _) (af<|aq<|eK Z3U<|a4 (bZ dG aG dt<|cf<|pv 1)<|a4 (ah cZ (pv 0) a8) a5) aI)
   (a6 (bG (bc dm (ah aX (pv 0) a8) a8<|aY _) (af<|aq<|ah jB (bj eP aG (ah aX (ah cZ (pv 0) a8) a8)<|fun _ _=>rfl)<|pv 1) aI)
   (af (aq (eK Z3V (a4 (ah cZ (pv 0) a8) (a4 (pv 1) a5))))))),?_⟩
  have E0:Ext W0 W0:=.refl W0;unfold B6 at hq;refine bL (Er:=Er) (bq (dJ (aD (fun _=>by decide) bR) ao))<|fun W1 e2=>?_;have E0:=E0.trans e2;by_cases hb21:(decide<|(Z04%9)=(8:Int))=true
  ·rw[if_pos hb21]at hq ⊢;exact aw (Er:=Er) (bt (d5 (aJ (x:=CS "fbibfbif") (l:=[102,98,105,98,102,98,105,102]) (eL _ _ (by decide +kernel))) fN<|dU bR) (aD (fun _=>⟨by decide,by decide⟩) bR))<|Dk hq fun y4 hq v5 W6 e7 h8=>hq v5 W6 (E0.trans e7) h8
  ·rw[if_neg hb21]at hq ⊢
   try dsimp only[aA]
   refine bL (Er:=Er) (bq (dJ (aD (fun _=>by decide) bR) ao))<|fun W9 e10=>?_;have E0:=E0.trans e10;by_cases hb21:(decide<|(Z04%9)=(7:Int))=true
   ·rw[if_pos hb21]at hq ⊢;exact aw (Er:=Er) (p8 (eU (aJ (x:=CS "fbi") (l:=[102,98,105]) (eL _ _ (by decide +kernel))) (aD (fun _=>by decide) (aD (fun _=>⟨by decide,by decide⟩) bR))) bR)<|Dk hq fun y12 hq v13 W14 e15 h16=>hq v13 W14 (E0.trans e15) h16
   ·rw[if_neg hb21]at hq ⊢
    try dsimp only[aA]
    exact aw (Er:=Er) (bt (aD (fun _=>⟨by decide,by decide⟩) bR) bR)<|Dk hq fun y17 hq v18 W19 e20 h21=>hq v18 W19 (E0.trans e20) h21
theorem Cf{f:Addr}{fd:Df}(F:Fun K "_law_go" "_law_go" (tp 48) f fd):FnOk P w K mg base CX0 (1) f fd ["_law_turn"] (eA isS (rs isI)<|B7):=by
 have SC:FnScope ["_law_turn"] ["_law_turn"] (defScope<|tp 48):=by walk_at "F"
 refine F.ok SC (fun vs H Q E h=>?_)<|fun cdv A outer s H vs Q E hr h=>?_;·obtain⟨_,_,_,_,rfl,_⟩:=h;rfl
 ·obtain⟨W0,Z1o,_,rfl,rfl,Z3W,Er,hq⟩:=h;cases Z3W;refine⟨_,(af<|aq<|ah ly (qI (K:=K) rfl rfl aG<|a4 (pv 0) a5) a8),?_⟩;have E0:Ext W0 W0:=.refl W0;unfold B7 at hq;exact aw (Er:=Er) (bx (vY (aJ (x:=CS "bif") (l:=[98,105,102]) (eL _ _ (by decide +kernel))) cO) ao)<|Dk hq fun y2 hq v3 W4 e5 h6=>hq v3 W4 (E0.trans e5) h6
theorem Cg{f:Addr}{fd:Df}(F:Fun K "_law_twist" "_law_twist" (tp 50) f fd){nv:Tx->Res Int}(Z26:Cal P w K mg base "_law_go" ["_law_turn"] (1) (eA isS (rs isI) nv)):FnOk P w K mg base CX0 (2) f fd ["_law_card_here","_law_turn"] (cb (qA K) isS (rs isI)<|B8 nv):=by
 have SC:FnScope ["_law_card_here","_law_turn"] ["_law_card_here","_law_turn"] (defScope<|tp 50):=by walk_at "F"
 refine F.ok SC (fun vs H Q E h=>?_)<|fun cdv A outer s H vs Q E hr h=>?_;·obtain⟨_,_,_,_,_,_,rfl,_⟩:=h;rfl
 ·obtain⟨W0,Z0Y,Z1o,Z92,_,rfl,rfl,Z1e,Z3W,Er,hq⟩:=h;cases Z3W;refine⟨_,(a6 (bG (bc dm (bj (bP (K:=K) rfl) (pv 0) a8<|fun _ _=>rfl) aG<|aY _) (af<|aq<|eK Z26<|a4 (pv 1) a5) aI)
   (af (aq (ah ly a8 (eK Z26 (a4 (pv 1) a5)))))),?_⟩
  have E0:Ext W0 W0:=.refl W0;unfold B8 at hq;refine bL (Er:=Er) (bq (lO (cK (f:=fun(b:Cd)=>b.1) yr<|bz Z1e) (aJ (x:=CS "S") (l:=[83]) (eL _ _ (by decide +kernel)))))<|fun W1 e2=>?_;have E0:=E0.trans e2;have Z1e:=CJ e2.g Z1e;by_cases hb13:(decide<|Z0Y.1=([83]:Tx))=true
  ·rw[if_pos hb13]at hq ⊢;exact aw (Er:=Er) (dM cO)<|Dk hq fun y3 hq v4 W5 e6 h7=>hq v4 W5 (E0.trans e6) h7
  ·rw[if_neg hb13]at hq ⊢
   try dsimp only[aA]
   exact aw (Er:=Er) (bx ao<|dM cO)<|Dk hq fun y9 hq v10 W11 e12 h13=>hq v10 W11 (E0.trans e12) h13
theorem Ci{f:Addr}{fd:Df}(F:Fun K "_law_behind" "_law_behind" (tp 49) f fd){nv:Tx->Res Int}(Z26:Cal P w K mg base "_law_go" ["_law_turn"] (1) (eA isS (rs isI) nv)):FnOk P w K mg base CX0 (2) f fd ["_law_card_here","_law_turn"] (cb (qA K) isS (rs<|qA K)<|B9 nv):=by
 have SC:FnScope ["_law_card_here","_law_turn"] ["_law_card_here","_law_turn"] (defScope<|tp 49):=by walk_at "F"
 refine F.ok SC (fun vs H Q E h=>?_)<|fun cdv A outer s H vs Q E hr h=>?_;·obtain⟨_,_,_,_,_,_,rfl,_⟩:=h;rfl
 ·obtain⟨W0,Z0Y,Z1o,Z92,_,rfl,rfl,Z1e,Z3W,Er,hq⟩:=h;cases Z3W;refine⟨_,(af<|aq<|bC<|a4 (bj (bP (K:=K) rfl) (pv 0) a8<|fun _ _=>rfl)<|a4 (bj (bP (K:=K) rfl) (pv 0) a8<|fun _ _=>rfl)<|a4 (ah aX (ah bM (bj (bP (K:=K) rfl) (pv 0) a8<|fun _ _=>rfl)<|eK Z26<|a4 (pv 1) a5) a8) a5),?_⟩;have E0:Ext W0 W0:=.refl W0;unfold B9 at hq;exact aw (Er:=Er) (i9 (K:=K) (cK (f:=fun(b:Cd)=>b.1) yr<|bz Z1e) (cK (f:=fun(b:Cd)=>b.2.1) qy<|bz Z1e) (aD (fun _=>by decide)<|bx (cK (f:=fun(b:Cd)=>b.2.2) yt<|bz Z1e)<|dM cO))<|Dk hq fun y4 hq v5 W6 e7 h8=>hq v5 W6 (E0.trans e7) h8
theorem Cj{f:Addr}{fd:Df}(F:Fun K "_law_after" "_law_after" (tp 51) f fd){l9:Cd->Tx->Res Int}{vh:Cd->Tx->Res Cd}(Z1N:Cal P w K mg base "_law_twist" ["_law_card_here","_law_turn"] (2) (cb (qA K) isS (rs isI) l9))(Z3s:Cal P w K mg base "_law_behind" ["_law_card_here","_law_turn"] (2) (cb (qA K) isS (rs<|qA K) vh))(Z2N:mg "abs"=none)(Z1q:mg "dict"=none)(Z3i:mg "int"=none)(Z0P:mg "len"=none)(Z5Z:mg "max"=none)(ZcJ:mg "min"=none)(Z1b:mg "zip"=none):FnOk P w K mg base CX0 (3) f fd ["_law_state","_law_row_here","_law_most_here"] (iI (jd K) isS isI (rs<|isEi isS<|jd K)<|Ba l9 vh):=by
 have SC:FnScope ["_law_state","_law_row_here","_law_most_here","_law_cards","_law_now","_law_far","_law_left","_law_card_here","_law_turn","_law_colour"] ["_law_state","_law_row_here","_law_most_here"] (defScope<|tp 51):=by walk_at "F"
 refine F.ok SC (fun vs H Q E h=>?_)<|fun cdv A outer s H vs Q E hr h=>?_;·obtain⟨_,_,_,_,_,_,_,_,rfl,_⟩:=h;rfl
 ·obtain⟨W0,Z0t,Z0h,Z1a,Z1d,_,_,rfl,rfl,Z0n,Z1r,Z93,Er,hq⟩:=h;cases Z1r;cases Z93;refine⟨_,(a6 (lx (pv 0)<|cy (K:=K) (n:=4) rfl rfl<|au (hW 3)<|au (hW 4)<|au (hW 5)<|au (hW 6) cj)
   (a6 (bG (JQ (kC (bc xr (aj (bX (K:=K) rfl) (by rfl) Z0P Ei<|a4 (pv 1) a5) (aj (bX (K:=K) rfl) (by rfl) Z0P Ei<|a4 (pv 3) a5)<|aY _) (jq (bc mj (aj (bX (K:=K) rfl) (by rfl) Z0P Ei (a4 (du (N:=["_law_turn"]) (cap:=[none]) (fF rfl (by decide +kernel) rfl (by decide +kernel) (by rfl) (by rfl)) rfl (iE<|pv 1) (fun _ _ _ _=>(aP (i:=0) (show DM (["_law_turn"]:List Str) by decide +kernel) rfl (by walk_at "L"))) (fun _ _ _ _=>(lH (bc lA (pv 0) aG (by with_unfolding_all rfl))))<|fun _ _ _ _=>(pv 0)) a5)) a8<|aY _)))) (af<|aq aG) aI)
   (a6 (dW (i:=4) SC.nd rfl (by walk_at "L") (N:=["_law_one","_law_card_here","_law_turn"]) (cap:=[none,none,none]) (fF rfl (by decide +kernel) rfl (by decide +kernel) (by rfl) (by rfl)) rfl (p4 (K:=K) rfl rfl Z1b<|a4 (pv 4)<|a4 (pv 3)<|a4 (pv 1) a5) (fun _ _ _ _=>(cy (K:=K) (n:=3) rfl rfl (au (aP (i:=0) (show DM (["_law_one","_law_card_here","_law_turn"]:List Str) by decide +kernel) rfl (by walk_at "L")) (au (aP (i:=1) (show DM (["_law_one","_law_card_here","_law_turn"]:List Str) by decide +kernel) rfl (by walk_at "L")) (au (aP (i:=2) (show DM (["_law_one","_law_card_here","_law_turn"]:List Str) by decide +kernel) rfl (by walk_at "L")) cj))))) (fun _ _ _ _=>cw)<|fun _ _ _ _=>(ah bM (pv 0)<|eK Z1N<|a4 (pv 1)<|a4 (pv 2) a5))
   (a6 (bG (bc mj (aj (qr (K:=K) rfl rfl) (by rfl) Z5Z GR (a4 (du (N:=["_law_one"]) (cap:=[none]) (fF rfl (by decide +kernel) rfl (by decide +kernel) (by rfl) (by rfl)) rfl (dH (K:=K) rfl<|pv 4) (fun _ _ _ _=>(aP (i:=0) (show DM (["_law_one"]:List Str) by decide +kernel) rfl (by walk_at "L"))) (fun _ _ _ _=>cw) (fun _ _ _ _=>(aj fU (by rfl) Z2N Fw<|a4 (pv 0) a5))) a5)) (pv 2)<|aY _) (af<|aq aG) aI)
   (a6 (fo 6 (bW fy (by rfl) Z1q Fm<|a4 (pv 6) a5))
   (a6 (dD Ea rfl (eI (K:=K) rfl rfl Z1b<|a4 (pv 3)<|a4 (pv 1) a5) (cy (K:=K) (n:=2) rfl rfl<|au (hW 7)<|au (hW 8) cj) (af (dD Ea rfl (iE<|bj (bP (K:=K) rfl) (pv 7) a8<|fun _ _=>rfl) (hW 9) (af (i5 (dX hr) (pv 6) (pv 9) (ah bM (ah ly (fX (dX hr) (pv 6) (pv 9) a8 ⟨rfl,rfl,rfl,rfl⟩) a8) (bW kE (by rfl) Z3i G1<|a4 (dE dm (pv 8) aG<|aY _) a5)) rfl)))))
   (a6 (pM (i:=6) (bG (bc rO (aj (r0 (K:=K) rfl rfl) (by rfl) ZcJ Lv (a4 (du (N:=["_law_colour","_law_left"]) (cap:=[none,some 6]) (fF rfl (by decide +kernel) rfl (by decide +kernel) (by rfl) (by rfl)) rfl (tX<|pv 6) (fun _ _ _ _=>(aP (i:=0) (show DM (["_law_colour","_law_left"]:List Str) by decide +kernel) rfl (by walk_at "L"))) (fun _ _ _ _=>cw)<|fun _ _ _ _=>(vN (dX hr) (pv 1) (pv 0)<|fun _ _=>rfl)) a5)) a8<|aY _) (af<|aq aG) aI))
   (a6 (dW (i:=5) SC.nd rfl (by walk_at "L") (N:=["_law_one","_law_other"]) (cap:=[none,none]) (fF rfl (by decide +kernel) rfl (by decide +kernel) (by rfl) (by rfl)) rfl (eI (K:=K) rfl rfl Z1b<|a4 (pv 5)<|a4 (pv 4) a5) (fun _ _ _ _=>(cy (K:=K) (n:=2) rfl rfl (au (aP (i:=0) (show DM (["_law_one","_law_other"]:List Str) by decide +kernel) rfl (by walk_at "L")) (au (aP (i:=1) (show DM (["_law_one","_law_other"]:List Str) by decide +kernel) rfl (by walk_at "L")) cj)))) (fun _ _ _ _=>cw) (fun _ _ _ _=>(aj (kD rfl) (by rfl) Z5Z GR (a4 (pv 0) (a4 (aj fU (by rfl) Z2N Fw<|a4 (pv 1) a5) a5)))))
   (af (aq (bC (a4 (du (N:=["_law_card_here","_law_turn"]) (cap:=[none,none]) (fF rfl (by decide +kernel) rfl (by decide +kernel) (by rfl) (by rfl)) rfl (eI (K:=K) rfl rfl Z1b (a4 (pv 3) (a4 (pv 1) a5))) (fun _ _ _ _=>(cy (K:=K) (n:=2) rfl rfl (au (aP (i:=0) (show DM (["_law_card_here","_law_turn"]:List Str) by decide +kernel) rfl (by walk_at "L")) (au (aP (i:=1) (show DM (["_law_card_here","_law_turn"]:List Str) by decide +kernel) rfl (by walk_at "L")) cj)))) (fun _ _ _ _=>cw) (fun _ _ _ _=>(eK Z3s (a4 (pv 0) (a4 (pv 1) a5))))) (a4 (pv 4) (a4 (pv 5) (a4 (pv 6) a5))))))))))))))),?_⟩
  have E0:Ext W0 W0:=.refl W0;rw[show L2.start ["_law_state","_law_row_here","_law_most_here","_law_cards","_law_now","_law_far","_law_left","_law_card_here","_law_turn","_law_colour"] [Z1d,.str<|sOf Z0h,.int Z1a]=[some Z1d,some<|.str<|sOf Z0h,some<|.int Z1a,none,none,none,none,none,none,none]from rfl];unfold Ba at hq;refine ic (Er:=Er) (bz Z0n)<|fun v1 W2 e3 h4=>?_;have E0:=E0.trans e3;refine Bu h4 fun v5 v7 v9 v11 h6 h8 h10 h12=>?_;refine bL (Er:=Er) (p7 (bq<|yo (lQ cO)<|gI<|FN<|bz h6) (bq (fH (gI (Gw (mJ (iJ cO) fun W16 a14 v15 e17 h18 Q21 k22=>by
   cases h18;refine gn ?_;refine⟨by simp[Keep,bh],((bq (qx cO (aJ (x:=CS "fbi") (l:=[102,98,105]) (eL _ _ (by decide +kernel))))):TV Er _ [some (.str<|sOf a14)] _ _) _ (.refl _) _ (Dk (P:=fun b23=>(if b23=true then CT (some a14)else CT none:Res (Option Tx)).OkE Er _) (CH k22) fun b23 k27 W25 e26=>?_)⟩;cases b23 with
   |false=>exact k27 none _ e26 trivial
   |true=>
    rw[if_pos rfl];refine EV.go (Er:=Er) (σ:=[some (.str (sOf a14))]) (W1:=W25) e26 cO ?_;exact fun u30 W28 e29 h31=>k27 (some u30) _ (e26.trans e29) h31))) ao))) ((CH hq).imp fun y36 hq W37 e38=>?_)
  have E0:=E0.trans e38;have h6:=CJ e38.g h6;have h8:=CJ e38.g h8;have h10:=CJ e38.g h10;have h12:=CJ e38.g h12;by_cases hb206:y36=true
  ·rw[if_pos hb206]at hq ⊢;exact aw (Er:=Er) (oj (R1:=isS) (R2:=(jd K)) (aJ (x:=CS "BadRow") (l:=[66,97,100,82,111,119]) (eL _ _ (by decide +kernel))))<|fun v39 W40 e41 h42=>hq v39 W40 (E0.trans e41) h42
  ·rw[if_neg hb206]at hq ⊢
   try dsimp only[aA]
   refine av (Er:=Er) (EF (cM (pq (dN<|bz h8) (dN<|bz h6)<|gc cO) fun W47 a45 v46 e48 h49 Q57 k58=>by
    refine sQ h49 fun v50 v52 v54 h51 h53 h55=>?_;cases h51;cases h55;exact⟨by simp[Keep,bh],((bx bR (bt (bz h53) cO)):EV Er _ [some (.int a45.1),some v52,some (.str (sOf a45.2.2))] _ _ _) _ (.refl _) _ k58⟩)) ((CH hq).imp fun y59 hq v60 W43 e44 h61=>?_)
   have E0:=E0.trans e44;have h6:=CJ e44.g h6;have h10:=CJ e44.g h10;have h12:=CJ e44.g h12;refine bL (Er:=Er) (bq (fH (yx (Gw (cM (fe<|bz h61) fun W64 a62 v63 e65 h66 Q69 k70=>by
    cases h66;refine gn ?_;exact⟨by simp[Keep,bh],((jJ bR):EV Er _ [some (.int a62)] _ _ _) _ (.refl _) _ k70⟩))) bR)) ((CH hq).imp fun y73 hq W74 e75=>?_)
   have E0:=E0.trans e75;have h6:=CJ e75.g h6;have h10:=CJ e75.g h10;have h12:=CJ e75.g h12;have h61:=CJ e75.g h61;by_cases hb206:y73=true
   ·rw[if_pos hb206]at hq ⊢;exact aw (Er:=Er) (oj (R1:=isS) (R2:=(jd K)) (aJ (x:=CS "TooTight") (l:=[84,111,111,84,105,103,104,116]) (eL _ _ (by decide +kernel))))<|fun v76 W77 e78 h79=>hq v76 W77 (E0.trans e78) h79
   ·rw[if_neg hb206]at hq ⊢
    try dsimp only[aA]
    refine gL (Er:=Er) (gq<|Jw<|bz h12)<|fun p82 W80 e81 hp83 o84=>?_;have fr85:=none_of E0.h hp83;have E0:=E0.trans e81;have h6:=CJ e81.g h6;have h10:=CJ e81.g h10;have h61:=CJ e81.g h61;refine eW (Er:=Er) (f:=zw) (s0:=Z0t.2.2.2) (Iv:=fun(s88:di)(W89:Wd)(g90:St)=>∃(d92:Option V)(d93:Option V)(d94:Option V),g90=[some Z1d,some<|.str<|sOf Z0h,some<|.int Z1a,some v5,some v60,some v9,some<|.ref p82,d93,d94,d92]/\Ext W0 W89/\OwD (fun(a:Tx)=>Ds<|sOf a) isI W89 p82 s88) (gf (dN<|bz h6)<|gc cO) (CH hq) ?_ ?_ ?_
    ·intro W106 e107;have E0:=E0.trans e107;have h6:=CJ e107.g h6;have h10:=CJ e107.g h10;have h61:=CJ e107.g h61;have o84:=o84.mono e107;exact⟨_,_,_,rfl,E0,o84⟩
    ·intro Wb95 W96 W97 a86 v98 s87 sg99 P100 hW101 hB102 iv e103 h104 hq;obtain⟨d92,d93,d94,rfl,E0,o91⟩:=iv;have h6:=CJ hW101 h6;have h10:=CJ hW101 h10;have h61:=CJ hW101 h61;have E0:=E0.trans e103;have hB102:=hB102.trans e103.g;have h6:=CJ e103.g h6;have h10:=CJ e103.g h10;have h61:=CJ e103.g h61;have o91:=o91.mono e103;refine k8 h104 fun v112 v114 h113 h115=>?_;cases h115;unfold zw at hq;refine lT (Er:=Er) (f:=(Ah a86)) (s0:=s87) (Iv:=fun(s118:di)(W119:Wd)(g120:St)=>∃(d122:Option V),g120=[some Z1d,some<|.str<|sOf Z0h,some<|.int Z1a,some v5,some v60,some v9,some<|.ref p82,some v112,some<|.str<|sOf a86.2,d122]/\Ext W0 W119/\OwD (fun(a:Tx)=>Ds<|sOf a) isI W119 p82 s118) (iJ<|cK (f:=fun(b:Cd)=>b.2.1) qy<|bz h113) (CH hq) ?_ ?_ ?_
     ·intro W134 e135;have E0:=E0.trans e135;have hB102:=hB102.trans e135.g;have h6:=CJ e135.g h6;have h10:=CJ e135.g h10;have h61:=CJ e135.g h61;have o91:=o91.mono e135;have h113:=CJ e135.g h113;exact⟨_,rfl,E0,o91⟩
     ·intro Wb123 W124 W125 a116 v126 s117 sg127 P128 hW129 hB130 iv e131 h132 hq;obtain⟨d122,rfl,E0,o121⟩:=iv;have hB102:=hB102.trans hW129;have h6:=CJ hW129 h6;have h10:=CJ hW129 h10;have h61:=CJ hW129 h61;have h113:=CJ hW129 h113;have E0:=E0.trans e131;have hB102:=hB102.trans e131.g;have hB130:=hB130.trans e131.g;have h6:=CJ e131.g h6;have h10:=CJ e131.g h10;have h61:=CJ e131.g h61;have o121:=o121.mono e131;have h113:=CJ e131.g h113;cases h132;refine gn (σ':=[some Z1d,some<|.str<|sOf Z0h,some<|.int Z1a,some v5,some v60,some v9,some<|.ref p82,some v112,some<|.str<|sOf a86.2,some<|.str<|sOf a116]) ?_;unfold Ah at hq;refine ik (Er:=Er) ig kS o121 (bx (bx (gm ig kS (lY o121) cO ao) ao) (pf (lO cO (aJ (x:=CS "i") (l:=[105]) (eL _ _ (by decide +kernel)))))) cO<|(CH hq).imp fun y141 hq W138 mu139 o140=>?_;have E0:=mu139.e _ E0 fr85;have hB102:=hB102.trans mu139.g;have hB130:=hB130.trans mu139.g;have h6:=CJ mu139.g h6;have h10:=CJ mu139.g h10;have h61:=CJ mu139.g h61;have h113:=CJ mu139.g h113
      try dsimp only
      refine dO (W:=W138) y141 hB130 ?_ hq;exact⟨_,rfl,E0,o140⟩
     ·intro s142 W143 sg144 hS145 iv hq;obtain⟨d122,rfl,E0,o121⟩:=iv;have hB102:=hB102.trans hS145;have h6:=CJ hS145 h6;have h10:=CJ hS145 h10;have h61:=CJ hS145 h61;have h113:=CJ hS145 h113
      try dsimp only
      refine dO (W:=W143) s142 hB102 ?_ hq;exact⟨_,_,_,rfl,E0,o121⟩
    ·intro s146 W147 sg148 hS149 iv hq;obtain⟨d92,d93,d94,rfl,E0,o91⟩:=iv;have h6:=CJ hS149 h6;have h10:=CJ hS149 h10;have h61:=CJ hS149 h61;refine wx o91 E0 fr85 fun W150 E0 hS151 h153 hk152=>?_;have h6:=CJ hS151 h6;have h10:=CJ hS151 h10;have h61:=CJ hS151 h61;refine bL (Er:=Er) (bq (fH (yR (K:=K) (Gw (cM (u7 BQ<|bz h153) fun W156 a154 v155 e157 h158 Q162 k163=>by
      have h159:=DB (R:=sh la) e157 h153;cases h158;refine gn ?_;exact⟨by simp[Keep,bh],((u6 ig kS (Jw (bz h159)) cO):EV Er _ [some (.str (sOf a154)),some (.ref p82)] _ _ _) _ (.refl _) _ k163⟩))) ao)) ((CH hq).imp fun y166 hq W167 e168=>?_)
     have E0:=E0.trans e168;have h6:=CJ e168.g h6;have h10:=CJ e168.g h10;have h61:=CJ e168.g h61;have h153:=CJ e168.g h153;by_cases hb206:y166=true
     ·rw[if_pos hb206]at hq ⊢;exact aw (Er:=Er) (oj (R1:=isS) (R2:=(jd K)) (aJ (x:=CS "SpoolDry") (l:=[83,112,111,111,108,68,114,121]) (eL _ _ (by decide +kernel))))<|fun v169 W170 e171 h172=>hq v169 W170 (E0.trans e171) h172
     ·rw[if_neg hb206]at hq ⊢
      try dsimp only[aA]
      refine av (Er:=Er) (EF (cM (gf (dN<|bz h10)<|dN<|bz h61) fun W177 a175 v176 e178 h179 Q184 k185=>by
       refine k8 h179 fun v180 v182 h181 h183=>?_;cases h181;cases h183;exact⟨by simp[Keep,bh],((ph bR (jJ bR)):EV Er _ [some (.int a175.1),some (.int a175.2)] _ _ _) _ (.refl _) _ k185⟩)) ((CH hq).imp fun y186 hq v187 W173 e174 h188=>?_)
      have E0:=E0.trans e174;have h6:=CJ e174.g h6;have h61:=CJ e174.g h61;have h153:=CJ e174.g h153;exact aw (Er:=Er) (yN (R1:=isS) (R2:=(jd K)) (pD (K:=K) (EF (cM (gf (dN<|bz h6)<|gc cO) fun W191 a189 v190 e192 h193 Q198 k199=>by
       refine k8 h193 fun v194 v196 h195 h197=>?_;cases h197;exact⟨by simp[Keep,bh],((bt (bz h195) cO):EV Er _ [some v194,some (.str (sOf a189.2))] _ _ _) _ (.refl _) _ k199⟩)) (bz h61) (bz h188) (bz h153))) (Dk hq fun y202 hq v203 W204 e205 h206=>hq v203 W204 (E0.trans e205) h206)
theorem Ck{f:Addr}{fd:Df}(F:Fun K "now" "Loom.now" (tq 34 1) f fd){Z00 Z01:Addr}(Z0f:Cls K Z01)(Z0q:NoAttr K Z01 "course")(Z1M:NoAttr K Z01 "start"):FnOk P w K mg base CX0 (1) f fd ["self"] (gO (wC (vw<|ae K Z00 Z01) wN) (rs<|aW K Z00)<|fun a=>Ai a.1):=by
 have SC:FnScope ["self"] ["self"] (defScope<|tq 34 1):=by walk_at "F"
 refine F.ok SC (fun vs H Q E h=>?_)<|fun cdv A outer s H vs Q E hr h=>?_;·obtain⟨_,_,_,ra,_⟩:=h;obtain⟨_,us,rfl,_,ra⟩:=ra;cases ra;rfl
 ·obtain⟨W0,aa,rfl,ra,Er,hq⟩:=h;obtain⟨self,_⟩:=aa;obtain⟨Z0H,us,rfl,Z0B,ra⟩:=ra;replace Z0B:(vw<|ae K Z00 Z01) W0 self Z0H:=Z0B;cases ra;replace hq:(Ai self).OkE Er (fun r=>(rs<|aW K Z00) W0 r Q):=hq;refine⟨_,(af<|aq<|jt (l8 (K:=K) rfl<|bD (K:=K) rfl (pv 0) rfl) (bj (cD (K:=K) rfl) (bD (K:=K) rfl (pv 0) rfl) (xq rM a8)<|fun _ _=>rfl)<|bD (K:=K) rfl (pv 0) rfl),?_⟩;have E0:Ext W0 W0:=.refl W0;unfold Ai at hq;exact aw (Er:=Er) (sN (pO (K:=K)<|jj<|gN Z0f Z0q Z1K.at_<|aS (R:=(vw<|ae K Z00 Z01))<|DB E0 Z0B) (lV<|wm (gN Z0f Z0q Z1K.at_<|aS (R:=(vw<|ae K Z00 Z01))<|DB E0 Z0B)<|sL ao)<|lV<|gN Z0f Z1M Z90.at_<|aS (R:=(vw<|ae K Z00 Z01))<|DB E0 Z0B)<|Dk hq fun y1 hq v2 W3 e4 h5=>hq v2 W3 (E0.trans e4) h5
theorem Cm{f:Addr}{fd:Df}(F:Fun K "is_row" "is_row" (tp 26) f fd)(ZcL:mg "all"=none)(Z0P:mg "len"=none){Z8r:Tok}(Z8s:mg "TURNS"=some (.str (CS "fbi") Z8r)):FnOk P w K mg base CX0 (1) f fd ["text","width"] (cb isS isI (rs isB)<|Bb):=by
 have SC:FnScope ["text","width"] ["text","width"] (defScope<|tp 26):=by walk_at "F"
 refine F.ok SC (fun vs H Q E h=>?_)<|fun cdv A outer s H vs Q E hr h=>?_;·obtain⟨_,_,_,_,_,_,rfl,_⟩:=h;rfl
 ·obtain⟨W0,text,width,_,_,rfl,rfl,Zfe,Zf8,Er,hq⟩:=h;cases Zfe;cases Zf8;refine⟨_,(af (aq (js (dE dm (aj (bX (K:=K) rfl) (by rfl) Z0P Ei<|a4 (pv 0) a5) (pv 1)<|aY _) (lu (aj (qE (K:=K) rfl rfl) (by rfl) ZcL Lw (a4 (du (N:=["sign"]) (cap:=[none]) (fF rfl (by decide +kernel) rfl (by decide +kernel) (by rfl) (by rfl)) rfl (iE<|pv 0) (fun _ _ _ _=>(aP (i:=0) (show DM (["sign"]:List Str) by decide +kernel) rfl (by walk_at "L"))) (fun _ _ _ _=>cw) (fun _ _ _ _=>(dE qc (pv 0) (bK (v:=.str<|CS "fbi") (by rfl) Z8s ⟨_,rfl⟩) (by with_unfolding_all rfl)))) a5)))))),?_⟩;have E0:Ext W0 W0:=.refl W0;rw[show L2.start ["text","width"] [.str (sOf text),.int width]=[some (.str<|sOf text),some<|.int width]from rfl];unfold Bb at hq;exact aw (Er:=Er) (yp (dJ (lQ cO) bR) (yv (Gw (cM (iJ cO) fun W4 a2 v3 e5 h6 Q9 k10=>by
   cases h6;refine gn ?_;exact⟨by simp[Keep,bh],((yq cO (aJ (x:=CS "fbi") (l:=[102,98,105]) (eL _ _ (by decide +kernel)))):EV Er _ [some (.str (sOf a2))] _ _ _) _ (.refl _) _ k10⟩)))) (Dk hq fun y13 hq v14 W15 e16 h17=>hq v14 W15 (E0.trans e16) h17)
theorem Cn{f:Addr}{fd:Df}(F:Fun K "twisting" "twisting" (tp 22) f fd){Z1Z:Addr}(Z3O:mg "STEPS"=some (.ref Z1Z))(Z3P:DictK K w Z1Z [(Ds<|CS "f",.int<|1),(Ds<|CS "b",.int<|-1),(Ds<|CS "i",.int<|0)]):FnOk P w K mg base CX0 (1) f fd ["tablet","turn"] (cb (qA K) isS (rs isI)<|Bc):=by
 have SC:FnScope ["tablet","turn","step"] ["tablet","turn"] (defScope<|tp 22):=by walk_at "F"
 refine F.ok SC (fun vs H Q E h=>?_)<|fun cdv A outer s H vs Q E hr h=>?_;·obtain⟨_,_,_,_,_,_,rfl,_⟩:=h;rfl
 ·obtain⟨W0,tablet,turn,Z60,_,rfl,rfl,Z18,Z6D,Er,hq⟩:=h;cases Z6D
  refine⟨_,(a6 (fo 2 (iF (K:=K) (w:=w) rfl rfl (bK (v:=.ref _) (by rfl) Z3O rfl) (pv 1)<|fun _ _=>rfl))
   (af (aq (jt (bc dm (bj (bP (K:=K) rfl) (pv 0) a8 (fun _ _=>rfl)) aG (aY _)) (pv 2) (xq rM (pv 2)))))),?_⟩
  have E0:Ext W0 W0:=.refl W0;unfold Bc at hq;refine av (Er:=Er) (l0 Z3P (by decide +kernel) cO)<|(CH hq).imp fun y3 hq v4 W1 e2 h5=>?_;cases h5;have E0:=E0.trans e2;have Z18:=CJ e2.g Z18;exact aw (Er:=Er) (sN (bq (lO (cK (f:=fun(b:Cd)=>b.1) yr<|bz Z18) (aJ (x:=CS "S") (l:=[83]) (eL _ _ (by decide +kernel))))) bR<|sL bR)<|Dk hq fun y6 hq v7 W8 e9 h10=>hq v7 W8 (E0.trans e9) h10
theorem Co{f:Addr}{fd:Df}(F:Fun K "taken" "taken" (tp 32) f fd)(Z1b:mg "zip"=none):FnOk P w K mg base CX0 (1) f fd ["draft","row"] (cb (isL<|qA K) isS (rs la)<|Bd):=by
 have SC:FnScope ["draft","row","lengths","tablet","turn","colour"] ["draft","row"] (defScope<|tp 32):=by walk_at "F"
 refine F.ok SC (fun vs H Q E h=>?_)<|fun cdv A outer s H vs Q E hr h=>?_;·obtain⟨_,_,_,_,_,_,rfl,_⟩:=h;rfl
 ·obtain⟨W0,draft,row,Z31,_,rfl,rfl,Z1m,z_row,Er,hq⟩:=h;cases z_row;refine⟨_,(a6 (fo 2 mD)
   (a6 (dD Ea rfl (eI (K:=K) rfl rfl Z1b<|a4 (pv 0)<|a4 (pv 1) a5) (cy (K:=K) (n:=2) rfl rfl<|au (hW 3)<|au (hW 4) cj)<|af<|dD Ea rfl (iE<|bj (bP (K:=K) rfl) (pv 3) a8<|fun _ _=>rfl) (hW 5)<|af<|i5 (dX hr) (pv 2) (pv 5) (ah bM (fX (dX hr) (pv 2) (pv 5) a8 ⟨rfl,rfl,rfl,rfl⟩)<|jt (bc dm (pv 4) aG<|aY _) a8 a8) rfl)
   (af (pM (i:=2) (aq (pv 2)))))),?_⟩
  have E0:Ext W0 W0:=.refl W0;unfold Bd at hq;refine gL (Er:=Er) (pE (g:=(fun(a:Tx)=>Ds<|sOf a)) (R:=isI))<|fun p3 W1 e2 hp4 o5=>?_;have fr6:=none_of E0.h hp4;have E0:=E0.trans e2;have Z1m:=CJ e2.g Z1m;refine eW (Er:=Er) (f:=Ak) (s0:=([]:List (Tx×Int))) (Iv:=fun(s9:di)(W10:Wd)(g11:St)=>∃(d13:Option V)(d14:Option V)(d15:Option V),g11=[some Z31,some<|.str<|sOf row,some<|.ref p3,d14,d15,d13]/\Ext W0 W10/\OwD (fun(a:Tx)=>Ds<|sOf a) isI W10 p3 s9) (gf (dN<|bz Z1m)<|gc cO) (CH hq) ?_ ?_ ?_
  ·intro W27 e28;have E0:=E0.trans e28;have o5:=o5.mono e28;exact⟨_,_,_,rfl,E0,o5⟩
  ·intro Wb16 W17 W18 a7 v19 s8 sg20 P21 hW22 hB23 iv e24 h25 hq;obtain⟨d13,d14,d15,rfl,E0,o12⟩:=iv;have E0:=E0.trans e24;have hB23:=hB23.trans e24.g;have o12:=o12.mono e24;refine k8 h25 fun v33 v35 h34 h36=>?_;cases h36;unfold Ak at hq;refine lT (Er:=Er) (f:=(Aj a7)) (s0:=s8) (Iv:=fun(s39:di)(W40:Wd)(g41:St)=>∃(d43:Option V),g41=[some Z31,some<|.str<|sOf row,some<|.ref p3,some v33,some<|.str<|sOf a7.2,d43]/\Ext W0 W40/\OwD (fun(a:Tx)=>Ds<|sOf a) isI W40 p3 s39) (iJ<|cK (f:=fun(b:Cd)=>b.2.1) qy<|bz h34) (CH hq) ?_ ?_ ?_
   ·intro W55 e56;have E0:=E0.trans e56;have hB23:=hB23.trans e56.g;have o12:=o12.mono e56;have h34:=CJ e56.g h34;exact⟨_,rfl,E0,o12⟩
   ·intro Wb44 W45 W46 a37 v47 s38 sg48 P49 hW50 hB51 iv e52 h53 hq;obtain⟨d43,rfl,E0,o42⟩:=iv;have hB23:=hB23.trans hW50;have h34:=CJ hW50 h34;have E0:=E0.trans e52;have hB23:=hB23.trans e52.g;have hB51:=hB51.trans e52.g;have o42:=o42.mono e52;have h34:=CJ e52.g h34;cases h53;refine gn (σ':=[some Z31,some<|.str<|sOf row,some<|.ref p3,some v33,some<|.str<|sOf a7.2,some<|.str<|sOf a37]) ?_;unfold Aj at hq;refine ik (Er:=Er) ig kS o42 (bx (gm ig kS (lY o42) cO ao) (sN (bq (lO cO (aJ (x:=CS "i") (l:=[105]) (eL _ _ (by decide +kernel))))) ao ao)) cO<|(CH hq).imp fun y64 hq W60 mu61 o62=>?_;have E0:=mu61.e _ E0 fr6;have hB23:=hB23.trans mu61.g;have hB51:=hB51.trans mu61.g;have h34:=CJ mu61.g h34
    try dsimp only
    refine dO (W:=W60) y64 hB51 ?_ hq;exact⟨_,rfl,E0,o62⟩
   ·intro s65 W66 sg67 hS68 iv hq;obtain⟨d43,rfl,E0,o42⟩:=iv;have hB23:=hB23.trans hS68;have h34:=CJ hS68 h34
    try dsimp only
    refine dO (W:=W66) s65 hB23 ?_ hq;exact⟨_,_,_,rfl,E0,o42⟩
  ·intro s69 W70 sg71 hS72 iv hq;obtain⟨d13,d14,d15,rfl,E0,o12⟩:=iv;refine pN o12 E0 fr6 fun W73 E0 hS74 h76 hk75=>?_;exact aw (Er:=Er) (bz h76)<|fun v77 W78 e79 h80=>hq v77 W78 (E0.trans e79) h80
theorem Cp{f:Addr}{fd:Df}(F:Fun K "drawn_off" "drawn_off" (tp 33) f fd){Z0a Z0m Z0i Z0j Z0k Z0c Z0d Z0g Z06 Z0o Z08 Z0b Z0p:Addr}(Z1q:mg "dict"=none)(Z2g:mg "SpoolDry"=some (.ref Z0d))(Z61:Ecl base Z0d):FnOk P w K mg base (CXR P w) (1) f fd ["spools","lengths"] (wd la la [Z0a,Z0m,Z0i,Z0j,Z0k,Z0c,Z0d,Z0g,Z06,Z0o,Z08,Z0b,Z0p] (rs la)<|Be):=by
 have SC:FnScope ["spools","lengths","left","colour","length"] ["spools","lengths"] (defScope<|tp 33):=by walk_at "F"
 refine F.okR SC (fun vs H Q E h=>?_)<|fun cdv A outer s H vs Q E hr h=>?_;·obtain⟨_,_,_,_,_,_,rfl,_⟩:=h;rfl
 ·obtain⟨W0,spools,lengths,Z3T,ZdN,rfl,rfl,Z1T,Z6E,Er,hEr,hq⟩:=h
  refine⟨_,(a6 (fo 2 (bW fy (by rfl) Z1q Fm<|a4 (pv 0) a5))
   (a6 (dD PassesOwn.leaving rfl (tZ<|pv 1) (cy (K:=K) (n:=2) rfl rfl<|au (hW 3)<|au (hW 4) cj) (a6 (bG (bc rO (fX (dX hr) (pv 2) (pv 3) a8 ⟨rfl,rfl,rfl,rfl⟩) (pv 4)<|aY _) (af (jM Z61 (by rfl) Z2g<|a4 (qQ<|tM<|yE (pv 3)<|tM yD) a5)) aI)
   (af (vO (dX hr) (pv 2) (pv 3) (pv 4) wB (fun _ _ _=>rfl)))))
   (af (pM (i:=2) (aq (pv 2)))))),?_⟩
  have E0:Ext W0 W0:=.refl W0;unfold Be at hq;refine gL (Er:=Er) (gq<|Jw<|bz Z1T)<|fun p3 W1 e2 hp4 o5=>?_;have fr6:=none_of E0.h hp4;have E0:=E0.trans e2;have Z6E:=CJ e2.g Z6E;refine eW (Er:=Er) (f:=rh) (s0:=spools) (Iv:=fun(s9:di)(W10:Wd)(g11:St)=>∃(d13:Option V)(d14:Option V),g11=[some Z3T,some ZdN,some<|.ref p3,d13,d14]/\Ext W0 W10/\OwD (fun(a:Tx)=>Ds<|sOf a) isI W10 p3 s9) (u9 (K:=K) BQ<|bz Z6E) (CH hq) ?_ ?_ ?_
  ·intro W26 e27;have E0:=E0.trans e27;have o5:=o5.mono e27;exact⟨_,_,rfl,E0,o5⟩
  ·intro Wb15 W16 W17 a7 v18 s8 sg19 P20 hW21 hB22 iv e23 h24 hq;obtain⟨d13,d14,rfl,E0,o12⟩:=iv;have E0:=E0.trans e23;have hB22:=hB22.trans e23.g;have o12:=o12.mono e23;refine k8 h24 fun v32 v34 h33 h35=>?_;cases h33;cases h35;unfold rh at hq;refine bL (Er:=Er) (bq<|fH (gm ig kS (lY o12) cO ao) bR)<|fun W36 e37=>?_;have E0:=E0.trans e37;have hB22:=hB22.trans e37.g;have o12:=o12.mono e37;by_cases hb47:(decide<|bJ s8 a7.1 (0:Int)<a7.2)=true
   ·rw[if_pos hb47]at hq ⊢;exact jO (Er:=Er) (j:=6) (hEr.mono E0) rfl (qR (tN (x:=CS "the spool of ") (l:=[116,104,101,32,115,112,111,111,108,32,111,102,32]) (eL _ _ (by decide +kernel)) (wj cO (tN (x:=CS " falls short") (l:=[32,102,97,108,108,115,32,115,104,111,114,116]) (eL _ _ (by decide +kernel)) yF)))) hq
   ·rw[if_neg hb47]at hq ⊢
    try dsimp only[aA]
    refine wy (Er:=Er) (f:=fun i j=>i-j) ig kS o12 cO bR<|(CH hq).imp fun y46 hq W43 mu44 o45=>?_;have E0:=mu44.e _ E0 fr6;have hB22:=hB22.trans mu44.g
    try dsimp only
    refine dO (W:=W43) y46 hB22 ?_ hq;exact⟨_,_,rfl,E0,o45⟩
  ·intro s48 W49 sg50 hS51 iv hq;obtain⟨d13,d14,rfl,E0,o12⟩:=iv;refine pN o12 E0 fr6 fun W52 E0 hS53 h55 hk54=>?_;exact aw (Er:=Er) (bz h55)<|fun v56 W57 e58 h59=>hq v56 W57 (E0.trans e58) h59
theorem Cq{f:Addr}{fd:Df}(F:Fun K "turned" "turned" (tp 23) f fd){Z32:Tok}(Z2h:mg "HOLES"=some (.int 4 Z32)){Z1Z:Addr}(Z3O:mg "STEPS"=some (.ref Z1Z))(Z3P:DictK K w Z1Z [(Ds<|CS "f",.int<|1),(Ds<|CS "b",.int<|-1),(Ds<|CS "i",.int<|0)]):FnOk P w K mg base CX0 (1) f fd ["tablet","turn"] (cb (qA K) isS (rs<|qA K)<|Bf):=by
 have SC:FnScope ["tablet","turn","lay","holes","stand"] ["tablet","turn"] (defScope<|tp 23):=by walk_at "F"
 refine F.ok SC (fun vs H Q E h=>?_)<|fun cdv A outer s H vs Q E hr h=>?_;·obtain⟨_,_,_,_,_,_,rfl,_⟩:=h;rfl
 ·obtain⟨W0,tablet,turn,Z60,_,rfl,rfl,Z18,Z6D,Er,hq⟩:=h;cases Z6D;refine⟨_,(a6 (lx (pv 0)<|cy (K:=K) (n:=3) rfl rfl<|au (hW 2)<|au (hW 3)<|au (hW 4) cj)
   (af (aq (bC (a4 (pv 2) (a4 (pv 3) (a4 (ah aX (ah bM (pv 4) (iF (K:=K) (w:=w) rfl rfl (bK (v:=.ref _) (by rfl) Z3O rfl) (pv 1) (fun _ _=>rfl))) (bK (v:=.int 4) (by rfl) Z2h ⟨_,rfl⟩)) a5))))))),?_⟩
  have E0:Ext W0 W0:=.refl W0;unfold Bf at hq;refine ic (Er:=Er) (bz Z18)<|fun v1 W2 e3 h4=>?_;have E0:=E0.trans e3;refine sQ h4 fun v5 v7 v9 h6 h8 h10=>?_;cases h6;cases h8;cases h10;exact aw (Er:=Er) (i9 (K:=K) cO cO (aD (fun _=>by decide) (bx bR (l0 Z3P (by decide +kernel) cO))))<|Dk hq fun y14 hq v15 W16 e17 h18=>hq v15 W16 (E0.trans e17) h18
theorem Ay{f:Addr}{fd:Df}(F:Fun K "top" "top" (tp 20) f fd){Z32:Tok}(Z2h:mg "HOLES"=some (.int 4 Z32)):FnOk P w K mg base CX0 (1) f fd ["tablet"] (eA (qA K) (rs isS)<|pR):=by
 have SC:FnScope ["tablet","lay","holes","stand"] ["tablet"] (defScope<|tp 20):=by walk_at "F"
 refine F.ok SC (fun vs H Q E h=>?_)<|fun cdv A outer s H vs Q E hr h=>?_;·obtain⟨_,_,_,_,rfl,_⟩:=h;rfl
 ·obtain⟨W0,tablet,Z60,rfl,rfl,Z18,Er,hq⟩:=h;refine⟨_,(a6 (lx (pv 0)<|cy (K:=K) (n:=3) rfl rfl<|au (hW 1)<|au (hW 2)<|au (hW 3) cj)
   (af (aq (bj eP (pv 2) (ah aX (pv 3) (bK (v:=.int 4) (by rfl) Z2h ⟨_,rfl⟩)) (fun _ _=>rfl))))),?_⟩
  have E0:Ext W0 W0:=.refl W0;unfold pR at hq;refine ic (Er:=Er) (bz Z18)<|fun v1 W2 e3 h4=>?_;have E0:=E0.trans e3;refine sQ h4 fun v5 v7 v9 h6 h8 h10=>?_;cases h6;cases h8;cases h10;exact aw (Er:=Er) (eU cO (aD (fun _=>by decide) bR))<|Dk hq fun y11 hq v12 W13 e14 h15=>hq v12 W13 (E0.trans e14) h15
theorem Cr{f:Addr}{fd:Df}(F:Fun K "bottom" "bottom" (tp 21) f fd){Z32:Tok}(Z2h:mg "HOLES"=some (.int 4 Z32)):FnOk P w K mg base CX0 (1) f fd ["tablet"] (eA (qA K) (rs isS)<|Bg):=by
 have SC:FnScope ["tablet","lay","holes","stand"] ["tablet"] (defScope<|tp 21):=by walk_at "F"
 refine F.ok SC (fun vs H Q E h=>?_)<|fun cdv A outer s H vs Q E hr h=>?_;·obtain⟨_,_,_,_,rfl,_⟩:=h;rfl
 ·obtain⟨W0,tablet,Z60,rfl,rfl,Z18,Er,hq⟩:=h;refine⟨_,(a6 (lx (pv 0)<|cy (K:=K) (n:=3) rfl rfl<|au (hW 1)<|au (hW 2)<|au (hW 3) cj)
   (af (aq (bj eP (pv 2) (ah aX (ah bM (pv 3) a8) (bK (v:=.int 4) (by rfl) Z2h ⟨_,rfl⟩)) (fun _ _=>rfl))))),?_⟩
  have E0:Ext W0 W0:=.refl W0;unfold Bg at hq;refine ic (Er:=Er) (bz Z18)<|fun v1 W2 e3 h4=>?_;have E0:=E0.trans e3;refine sQ h4 fun v5 v7 v9 h6 h8 h10=>?_;cases h6;cases h8;cases h10;exact aw (Er:=Er) (eU cO (aD (fun _=>by decide)<|bx bR ao))<|Dk hq fun y11 hq v12 W13 e14 h15=>hq v12 W13 (E0.trans e14) h15
theorem Cs{f:Addr}{fd:Df}(F:Fun K "left_place" "left_place" (tp 27) f fd){iu:Cd->Res Tx}{wU:Cd->Res Tx}{n6:Cd->Tx->Res Int}(C_top:Cal P w K mg base "top" ["tablet"] (1) (eA (qA K) (rs isS) iu))(Z7A:Cal P w K mg base "bottom" ["tablet"] (1) (eA (qA K) (rs isS) wU))(Z2i:Cal P w K mg base "twisting" ["tablet","turn"] (1) (cb (qA K) isS (rs isI) n6)){Z2y:Addr}(Z7B:mg "SLANTS"=some (.ref Z2y))(Z7C:DictK K w Z2y [(Fh<|1,.str<|CS "s"),(Fh<|-1,.str<|CS "z"),(Fh<|0,.str<|CS "o")]):FnOk P w K mg base CX0 (2) f fd ["tablet","turn"] (cb (qA K) isS (rs<|qB K)<|Bh iu wU n6):=by
 have SC:FnScope ["tablet","turn"] ["tablet","turn"] (defScope<|tp 27):=by walk_at "F"
 refine F.ok SC (fun vs H Q E h=>?_)<|fun cdv A outer s H vs Q E hr h=>?_;·obtain⟨_,_,_,_,_,_,rfl,_⟩:=h;rfl
 ·obtain⟨W0,tablet,turn,Z60,_,rfl,rfl,Z18,Z6D,Er,hq⟩:=h;cases Z6D;refine⟨_,(af (aq (bC (a4 (eK C_top<|a4 (pv 0) a5) (a4 (eK Z7A<|a4 (pv 0) a5) (a4 (iF (K:=K) (w:=w) rfl rfl (bK (v:=.ref _) (by rfl) Z7B rfl) (eK Z2i<|a4 (pv 0)<|a4 (pv 1) a5)<|fun _ _=>rfl) a5)))))),?_⟩;have E0:Ext W0 W0:=.refl W0;unfold Bh at hq;exact aw (Er:=Er) (i9 (K:=K) (dM<|bz Z18) (dM<|bz Z18) (qH Z7C (by decide +kernel)<|bt (bz Z18) cO))<|Dk hq fun y5 hq v6 W7 e8 h9=>hq v6 W7 (E0.trans e8) h9
theorem Ct{f:Addr}{fd:Df}(F:Fun K "woven_stage" "woven_stage" (tp 31) f fd){vi:Tx->Int->Res Bool}{n6:Cd->Tx->Res Int}{vj:di->di->Res di}{uy:(List Cd)->Tx->Res di}{uz:Cd->Tx->Res Cd}{vk:Cd->Tx->Res Pl}{Z0a Z0m Z0i Z0j Z0k Z0c Z0d Z0g Z06 Z0o Z08 Z0b Z0p:Addr}{Z00:Addr}(Z7D:Cal P w K mg base "is_row" ["text","width"] (1) (cb isS isI (rs isB) vi))(Z2i:Cal P w K mg base "twisting" ["tablet","turn"] (1) (cb (qA K) isS (rs isI) n6))(Z54:CalR P w K mg base "drawn_off" ["spools","lengths"] (1) (wd la la [Z0a,Z0m,Z0i,Z0j,Z0k,Z0c,Z0d,Z0g,Z06,Z0o,Z08,Z0b,Z0p] (rs la) vj))(Z8t:Cal P w K mg base "taken" ["draft","row"] (1) (cb (isL<|qA K) isS (rs la) uy))(Z7E:Cal P w K mg base "turned" ["tablet","turn"] (1) (cb (qA K) isS (rs<|qA K) uz))(Z3X:Cal P w K mg base "left_place" ["tablet","turn"] (2) (cb (qA K) isS (rs<|qB K) vk))(Z3N:CalI P w K mg base "Stage" Z00 ["self","deed","standing","reached","highest","lengths","pick"] (1) (uf Z00 ["deed","standing","reached","highest","lengths","pick"]))(Z0e:Cls K Z00)(Z0R:NoAttr K Z00 "highest")(Z0S:NoAttr K Z00 "lengths")(Z0Q:NoAttr K Z00 "reached")(Z0s:NoAttr K Z00 "standing")(Z2N:mg "abs"=none)(ZcN:mg "any"=none)(Z0P:mg "len"=none)(Z5Z:mg "max"=none)(Z1b:mg "zip"=none)(Z30:mg "BadRow"=some (.ref Z0m))(Z7F:Ecl base Z0m)(Z2f:mg "TooTight"=some (.ref Z0c))(Z62:Ecl base Z0c):FnOk P w K mg base (CXR P w) (3) f fd ["stage","row","most"] (we (aW K Z00) isS isI [Z0a,Z0m,Z0i,Z0j,Z0k,Z0c,Z0d,Z0g,Z06,Z0o,Z08,Z0b,Z0p] (rs<|aW K Z00)<|Bi vi n6 vj uy uz vk):=by
 have SC:FnScope ["stage","row","most","reached","lengths","highest","standing","pick"] ["stage","row","most"] (defScope<|tp 31):=by walk_at "F"
 refine F.okR SC (fun vs H Q E h=>?_)<|fun cdv A outer s H vs Q E hr h=>?_;·obtain⟨_,_,_,_,_,_,_,_,rfl,_⟩:=h;rfl
 ·obtain⟨W0,stage,row,most,ZcG,_,_,rfl,rfl,Z15,z_row,Zff,Er,hEr,hq⟩:=h;cases z_row;cases Zff
  refine⟨_,(a6 (bG (dw (bY (eK Z7D (a4 (pv 1) (a4 (aj (bX (K:=K) rfl) (by rfl) Z0P Ei<|a4 (bD (K:=K) rfl (pv 0) rfl) a5) a5))))) (af (jM Z7F (by rfl) Z30<|a4 aG a5)) aI)
   (a6 (dW (i:=3) SC.nd rfl (by walk_at "L") (N:=["twist","tablet","turn"]) (cap:=[none,none,none]) (fF rfl (by decide +kernel) rfl (by decide +kernel) (by rfl) (by rfl)) rfl (p4 (K:=K) rfl rfl Z1b<|a4 (bD (K:=K) rfl (pv 0) rfl)<|a4 (bD (K:=K) rfl (pv 0) rfl)<|a4 (pv 1) a5) (fun _ _ _ _=>(cy (K:=K) (n:=3) rfl rfl (au (aP (i:=0) (show DM (["twist","tablet","turn"]:List Str) by decide +kernel) rfl (by walk_at "L")) (au (aP (i:=1) (show DM (["twist","tablet","turn"]:List Str) by decide +kernel) rfl (by walk_at "L")) (au (aP (i:=2) (show DM (["twist","tablet","turn"]:List Str) by decide +kernel) rfl (by walk_at "L")) cj))))) (fun _ _ _ _=>cw)<|fun _ _ _ _=>(ah bM (pv 0)<|eK Z2i<|a4 (pv 1)<|a4 (pv 2) a5))
   (a6 (bG (bY (aj (qF (K:=K) rfl rfl) (by rfl) ZcN Lx (a4 (du (N:=["twist","most"]) (cap:=[none,some 2]) (fF rfl (by decide +kernel) rfl (by decide +kernel) (by rfl) (by rfl)) rfl (dH (K:=K) rfl<|pv 3) (fun _ _ _ _=>(aP (i:=0) (show DM (["twist","most"]:List Str) by decide +kernel) rfl (by walk_at "L"))) (fun _ _ _ _=>cw) (fun _ _ _ _=>(dE mj (aj fU (by rfl) Z2N Fw<|a4 (pv 0) a5) (pv 1)<|aY _))) a5))) (af (jM Z62 (by rfl) Z2f<|a4 aG a5)) aI)
   (a6 (fo 4 (pJ Z54 xF (hr.mono (by decide)) (by rfl)<|a4 (bD (K:=K) rfl (pv 0) rfl)<|a4 (eK Z8t<|a4 (bD (K:=K) rfl (pv 0) rfl)<|a4 (pv 1) a5) a5))
   (a6 (dW (i:=5) SC.nd rfl (by walk_at "L") (N:=["peak","twist"]) (cap:=[none,none]) (fF rfl (by decide +kernel) rfl (by decide +kernel) (by rfl) (by rfl)) rfl (eI (K:=K) rfl rfl Z1b<|a4 (bD (K:=K) rfl (pv 0) rfl)<|a4 (pv 3) a5) (fun _ _ _ _=>(cy (K:=K) (n:=2) rfl rfl (au (aP (i:=0) (show DM (["peak","twist"]:List Str) by decide +kernel) rfl (by walk_at "L")) (au (aP (i:=1) (show DM (["peak","twist"]:List Str) by decide +kernel) rfl (by walk_at "L")) cj)))) (fun _ _ _ _=>cw) (fun _ _ _ _=>(aj (kD rfl) (by rfl) Z5Z GR (a4 (pv 0) (a4 (aj fU (by rfl) Z2N Fw<|a4 (pv 1) a5) a5)))))
   (a6 (dW (i:=6) SC.nd rfl (by walk_at "L") (N:=["tablet","turn"]) (cap:=[none,none]) (fF rfl (by decide +kernel) rfl (by decide +kernel) (by rfl) (by rfl)) rfl (eI (K:=K) rfl rfl Z1b<|a4 (bD (K:=K) rfl (pv 0) rfl)<|a4 (pv 1) a5) (fun _ _ _ _=>(cy (K:=K) (n:=2) rfl rfl (au (aP (i:=0) (show DM (["tablet","turn"]:List Str) by decide +kernel) rfl (by walk_at "L")) (au (aP (i:=1) (show DM (["tablet","turn"]:List Str) by decide +kernel) rfl (by walk_at "L")) cj)))) (fun _ _ _ _=>cw)<|fun _ _ _ _=>(eK Z7E<|a4 (pv 0)<|a4 (pv 1) a5))
   (a6 (dW (i:=7) SC.nd rfl (by walk_at "L") (N:=["tablet","turn"]) (cap:=[none,none]) (fF rfl (by decide +kernel) rfl (by decide +kernel) (by rfl) (by rfl)) rfl (eI (K:=K) rfl rfl Z1b<|a4 (pv 6)<|a4 (pv 1) a5) (fun _ _ _ _=>(cy (K:=K) (n:=2) rfl rfl (au (aP (i:=0) (show DM (["tablet","turn"]:List Str) by decide +kernel) rfl (by walk_at "L")) (au (aP (i:=1) (show DM (["tablet","turn"]:List Str) by decide +kernel) rfl (by walk_at "L")) cj)))) (fun _ _ _ _=>cw)<|fun _ _ _ _=>(eK Z3X<|a4 (pv 0)<|a4 (pv 1) a5))
   (af (aq (lX Z3N (hr.mono (by decide)) (by rfl) (a4 (bC (a4 aG (a4 (pv 1) a5))) (a4 (pv 6) (a4 (pv 3) (a4 (pv 5) (a4 (pv 4) (a4 (pv 7) a5)))))))))))))))),?_⟩
  have E0:Ext W0 W0:=.refl W0;rw[show L2.start ["stage","row","most","reached","lengths","highest","standing","pick"] [ZcG,.str<|sOf row,.int most]=[some ZcG,some<|.str<|sOf row,some<|.int most,none,none,none,none,none]from rfl];unfold Bi at hq;refine bL (Er:=Er) (dY<|gb<|bt cO<|gI<|FN<|dy Z0e Z0s cR<|bz Z15)<|(CH hq).imp fun y2 hq W3 e4=>?_;have E0:=E0.trans e4;have Z15:=CJ e4.g Z15;by_cases hb94:y2=true
  ·rw[if_pos hb94]at hq ⊢;exact jO (Er:=Er) (j:=1) (hEr.mono E0) rfl (aJ (x:=CS "a row has one turn for each tablet") (l:=[97,32,114,111,119,32,104,97,115,32,111,110,101,32,116,117,114,110,32,102,111,114,32,101,97,99,104,32,116,97,98,108,101,116]) (eL _ _ (by decide +kernel))) hq
  ·rw[if_neg hb94]at hq ⊢
   try dsimp only[aA]
   refine av (Er:=Er) (EF (cM (pq (dN<|dy Z0e Z0Q gs<|bz Z15) (dN<|dy Z0e Z0s cR<|bz Z15)<|gc cO) fun W9 a7 v8 e10 h11 Q19 k20=>by
    refine sQ h11 fun v12 v14 v16 h13 h15 h17=>?_;cases h13;cases h17;exact⟨by simp[Keep,bh],((bx bR (bt (bz h15) cO)):EV Er _ [some (.int a7.1),some v14,some (.str (sOf a7.2.2))] _ _ _) _ (.refl _) _ k20⟩)) ((CH hq).imp fun y21 hq v22 W5 e6 h23=>?_)
   have E0:=E0.trans e6;have Z15:=CJ e6.g Z15;refine bL (Er:=Er) (gb (yw (Gw (cM (fe<|bz h23) fun W26 a24 v25 e27 h28 Q31 k32=>by
    cases h28;refine gn ?_;exact⟨by simp[Keep,bh],((fH (jJ bR) bR):EV Er _ [some (.int a24),some (.int most)] _ _ _) _ (.refl _) _ k32⟩)))) ((CH hq).imp fun y34 hq W35 e36=>?_)
   have E0:=E0.trans e36;have Z15:=CJ e36.g Z15;have h23:=CJ e36.g h23;by_cases hb94:y34=true
   ·rw[if_pos hb94]at hq ⊢;exact jO (Er:=Er) (j:=5) (hEr.mono E0) rfl (aJ (x:=CS "a tablet would be twisted too far") (l:=[97,32,116,97,98,108,101,116,32,119,111,117,108,100,32,98,101,32,116,119,105,115,116,101,100,32,116,111,111,32,102,97,114]) (eL _ _ (by decide +kernel))) hq
   ·rw[if_neg hb94]at hq ⊢
    try dsimp only[aA]
    refine av (Er:=Er) (qO (hEr.mono E0) (dy Z0e Z0S gw<|bz Z15)<|bt (dy Z0e Z0s cR<|bz Z15) cO)<|(CH hq).imp fun y40 hq v41 W37 e38 h42=>?_;have E0:=E0.trans e38;have Z15:=CJ e38.g Z15;have h23:=CJ e38.g h23;refine av (Er:=Er) (EF (cM (gf (dN<|dy Z0e Z0R gu<|bz Z15)<|dN<|bz h23) fun W47 a45 v46 e48 h49 Q54 k55=>by
     refine k8 h49 fun v50 v52 h51 h53=>?_;cases h51;cases h53;exact⟨by simp[Keep,bh],((ph bR (jJ bR)):EV Er _ [some (.int a45.1),some (.int a45.2)] _ _ _) _ (.refl _) _ k55⟩)) ((CH hq).imp fun y56 hq v57 W43 e44 h58=>?_)
    have E0:=E0.trans e44;have Z15:=CJ e44.g Z15;have h23:=CJ e44.g h23;have h42:=CJ e44.g h42;refine av (Er:=Er) (EF (cM (gf (dN<|dy Z0e Z0s cR<|bz Z15)<|gc cO) fun W63 a61 v62 e64 h65 Q70 k71=>by
     refine k8 h65 fun v66 v68 h67 h69=>?_;cases h69;exact⟨by simp[Keep,bh],((bt (bz h67) cO):EV Er _ [some v66,some (.str (sOf a61.2))] _ _ _) _ (.refl _) _ k71⟩)) ((CH hq).imp fun y72 hq v73 W59 e60 h74=>?_)
    have E0:=E0.trans e60;have h23:=CJ e60.g h23;have h42:=CJ e60.g h42;have h58:=CJ e60.g h58;refine av (Er:=Er) (EF (cM (gf (dN<|bz h74)<|gc cO) fun W79 a77 v78 e80 h81 Q86 k87=>by
     refine k8 h81 fun v82 v84 h83 h85=>?_;cases h85;exact⟨by simp[Keep,bh],((bt (bz h83) cO):EV Er _ [some v82,some (.str (sOf a77.2))] _ _ _) _ (.refl _) _ k87⟩)) ((CH hq).imp fun y88 hq v89 W75 e76 h90=>?_)
    have E0:=E0.trans e76;have h23:=CJ e76.g h23;have h42:=CJ e76.g h42;have h58:=CJ e76.g h58;have h74:=CJ e76.g h74;exact aw (Er:=Er) (mX (ku<|ku<|ku<|ku<|ku Ac) (cF (gi (K:=K) (mS eY eY) (bQ (K:=K) (aJ (x:=CS "row") (l:=[114,111,119]) (eL _ _ (by decide +kernel))) cO))<|cF (bz h74)<|cF (bz h23)<|cF (bz h58)<|cF (bz h42)<|mW<|sW<|bz h90))<|fun v91 W92 e93 h94=>hq v91 W92 (E0.trans e93) h94
theorem Cu{f:Addr}{fd:Df}(F:Fun K "go_on" "Loom.go_on" (tq 34 2) f fd){Z00 Z01:Addr}(Z0f:Cls K Z01)(Z0q:NoAttr K Z01 "course")(Z1x:NoAttr K Z01 "undone"):FnOk P w K mg base CX0 (1) f fd ["self","stages"] (zp (ae K Z00 Z01) (aC (isL<|aW K Z00) aN) zk<|fun st a=>Al st a.1):=by
 have SC:FnScope ["self","stages"] ["self","stages"] (defScope<|tq 34 2):=by walk_at "F"
 refine F.ok SC (fun vs H Q E h=>?_)<|fun cdv A outer s H vs Q E hr h=>?_;·obtain⟨_,_,_,_,_,_,us,_,rfl,_,_,_,ra,_⟩:=h;obtain⟨_,us,rfl,_,ra⟩:=ra;cases ra;rfl
 ·obtain⟨W0,W,F,self,Z0H,aa,us,rfl,rfl,E0,nF,Za2,ra,Er,hq⟩:=h;obtain⟨stages,_⟩:=aa;obtain⟨ZeR,us,rfl,Z33,ra⟩:=ra;replace Z33:(isL<|aW K Z00) W.G stages ZeR:=Z33;cases ra;replace hq:(Al self stages).OkE Er (EndO W0 W (ae K Z00 Z01) zk Z0H Q):=hq;refine⟨_,(af (bG (l8 (K:=K) rfl<|pv 1) (a6 (ef<|lK (K:=K) rfl FL IQ PySem.F.type_list_extend qh (bD (K:=K) rfl (pv 0) rfl)<|a4 (pv 1) a5)
   (af (eN (pv 0) (cB a5) rfl))) aI)),?_⟩
  have hS0:Same W.G W.G:=.refl _;have EW:Ext W W:=.refl _;have S:Sep W0 W [tc (ae K Z00 Z01) self Z0H]:=Ls Za2 nF;unfold Al at hq;refine kX (Er:=Er) (pO (K:=K)<|FN<|bz Z33)<|fun W1 e2=>?_;have S:=S.ext e2;have E0:=E0.trans e2;have EW:=EW.trans e2;have hS0:=hS0.trans e2.g;have Z33:=CJ e2.g Z33;by_cases hb7:(!stages.isEmpty)=true
  ·rw[if_pos hb7]at hq ⊢;refine qY (Er:=Er) (K:=K) E0 (wz Z0f Z0q Z1K<|o8 (R:=(ae K Z00 Z01)) (C:=fun bb=>[tc (ae K Z00 Z01) bb Z0H]) (k:=0) S E0) (FN<|bz Z33)<|(CH hq).imp fun y3 hq W4 hS5 E0 S=>?_;have S:Sep W0 W4 [tc (ae K Z00 Z01) y3 Z0H]:=S;have hS0:=hS0.trans hS5;refine qX (Er:=Er) (k:=0) Z0f Z1x (le_loom.lt) jT S E0 rfl (gj (R:=(fz<|aW K Z00)))<|fun W6 hS7 E0 S=>?_;have S:Sep W0 W6 [tc (ae K Z00 Z01) (y3.1,y3.2.1,y3.2.2.1,([]:List eZ)) Z0H]:=S;have hS0:=hS0.trans hS7;exact EndO.of (k:=0) S rfl E0 hS0 rfl hq
  ·rw[if_neg hb7]at hq ⊢
   try dsimp only[aA]
   exact EndO.of (k:=0) S rfl E0 hS0 rfl hq
theorem Cv{f:Addr}{fd:Df}(F:Fun K "weave" "Loom.weave" (tq 34 3) f fd){pS:eZ->Tx->Int->Res eZ}{fO:Z03->Res eZ}{uA:Z03->(List eZ)->Res (Z03×Unit)}{Z0a Z0m Z0i Z0j Z0k Z0c Z0d Z0g Z06 Z0o Z08 Z0b Z0p:Addr}{Z00 Z01:Addr}(Z3t:CalR P w K mg base "woven_stage" ["stage","row","most"] (3) (we (aW K Z00) isS isI [Z0a,Z0m,Z0i,Z0j,Z0k,Z0c,Z0d,Z0g,Z06,Z0o,Z08,Z0b,Z0p] (rs<|aW K Z00) pS))(Z0J:CalM P w K mg base CX0 Z01 "now" ["self"] (1) (gO (wC (vw<|ae K Z00 Z01) wN) (rs<|aW K Z00)<|fun a=>fO a.1))(Z3Y:CalM P w K mg base CX0 Z01 "go_on" ["self","stages"] (1) (zp (ae K Z00 Z01) (aC (isL<|aW K Z00) aN) zk<|fun st a=>uA st a.1))(Z0f:Cls K Z01)(Z0e:Cls K Z00)(Z1Y:NoAttr K Z01 "most")(Z12:NoAttr K Z00 "pick")(Z0Z:mg "list"=none):FnOk P w K mg base (CXR P w) (4) f fd ["self","row"] (ur (ae K Z00 Z01) (aC isS aN) [Z0a,Z0m,Z0i,Z0j,Z0k,Z0c,Z0d,Z0g,Z06,Z0o,Z08,Z0b,Z0p] (oL<|fz<|qB K)<|fun st a=>Am pS fO uA st a.1):=by
 have SC:FnScope ["self","row","stage"] ["self","row"] (defScope<|tq 34 3):=by walk_at "F"
 refine F.okR SC (fun vs H Q E h=>?_)<|fun cdv A outer s H vs Q E hr h=>?_;·obtain⟨_,_,_,_,_,_,us,_,rfl,_,_,_,ra,_⟩:=h;obtain⟨_,us,rfl,_,ra⟩:=ra;cases ra;rfl
 ·obtain⟨W0,W,F,self,Z0H,aa,us,rfl,rfl,E0,nF,Za2,ra,Er,hEr,hq⟩:=h;obtain⟨row,_⟩:=aa;obtain⟨v_row,us,rfl,z_row,ra⟩:=ra;replace z_row:isS W.G row v_row:=z_row;cases ra;replace hq:(Am pS fO uA self row).OkE Er (n5 W0 W (ae K Z00 Z01) (oL<|fz<|qB K) Z0H Q):=hq;cases z_row
  refine⟨_,(a6 (fo 2 (pJ Z3t xF (hr.mono (by decide)) (by rfl) (a4 (en Z0J (hr.mono (by decide))<|pv 0)<|a4 (pv 1)<|a4 (bD (K:=K) rfl (pv 0) rfl) a5)))
   (a6 (ef (jk Z3Y (hr.mono (by decide)) (pv 0)<|a4 (cB<|a4 (pv 2) a5) a5))
   (af (aq (bW (cT (K:=K) rfl) (by rfl) Z0Z Ee (a4 (bD (K:=K) rfl (pv 2) rfl) a5)))))),?_⟩
  have hS0:Same W.G W.G:=.refl _;have EW:Ext W W:=.refl _;have S:Sep W0 W [tc (ae K Z00 Z01) self Z0H]:=Ls Za2 nF;unfold Am at hq;refine av (Er:=Er) (qP (hEr.mono EW) (iY (cP<|cP<|cP iO) (fh (R:=(ae K Z00 Z01)) (k:=0) S) cz) cO<|lV<|gN Z0f Z1Y Z9Y.at_<|fh (R:=(ae K Z00 Z01)) (k:=0) S)<|(CH hq).imp fun y4 hq v5 W1 e2 h6=>?_;have S:=S.ext e2;have E0:=E0.trans e2;have EW:=EW.trans e2;have hS0:=hS0.trans e2.g;refine oi (Er:=Er) (k:=0) (xI<|cP<|cP<|cP iO) S E0 rfl rfl (cF (EF<|ed<|bw (bz h6)<|dZ (R:=(aW K Z00))) lW)<|(CH hq).imp fun y9 hq W7 hS8 E0 S=>?_;have S:Sep W0 W7 [tc (ae K Z00 Z01) y9.1 Z0H]:=S;have hS0:=hS0.trans hS8;have h6:=CJ hS8 h6;exact oo (Er:=Er) (k:=0) S rfl E0 hS0 (EVo.tr<|fq<|FN<|sX<|dy Z0e Z12 gy<|bz h6) hq
theorem Cw{f:Addr}{fd:Df}(F:Fun K "_law_tried" "_law_tried" (tp 56) f fd){uB:Z03->Tx->Res (Z03×(List Pl))}{Z0a Z0m Z0i Z0j Z0k Z0c Z0d Z0g Z06 Z0o Z08 Z0b Z0p Z05:Addr}{Z00 Z01:Addr}(Z3Z:CalM P w K mg base (CXR P w) Z01 "weave" ["self","row"] (4) (ur (ae K Z00 Z01) (aC isS aN) [Z0a,Z0m,Z0i,Z0j,Z0k,Z0c,Z0d,Z0g,Z06,Z0o,Z08,Z0b,Z0p] (oL<|fz<|qB K)<|fun st a=>uB st a.1))(Z0f:Cls K Z01)(Z:Kin K base [Z0a,Z0m,Z0i,Z0j,Z0k,Z0c,Z0d,Z0g,Z06,Z0o,Z08,Z0b,Z0p] Z05)(Z1X:mg "BandError"=some (.ref Z05))(Z40:CalH P w K mg base "_law_kinds" ["_law_e"] 1 (gM K [Z0a,Z0m,Z0i,Z0j,Z0k,Z0c,Z0d,Z0g,Z06,Z0o,Z08,Z0b,Z0p] Z05)):FnOk P w K mg base CX0 (5) f fd ["_law_loom","_law_row_here"] (rf (ae K Z00 Z01) (aC isS aN) (oUn K [119,111,118,101,110])<|fun st a=>An uB st a.1):=by
 have SC:FnScope ["_law_loom","_law_row_here","_law_found","_law_e"] ["_law_loom","_law_row_here"] (defScope<|tp 56):=by walk_at "F"
 obtain⟨bmB,XB⟩:=Z.top;refine F.ok SC (fun vs H Q E h=>?_)<|fun cdv A outer s H vs Q E hr h=>?_;·obtain⟨_,_,_,_,_,_,us,_,rfl,_,_,_,ra,_⟩:=h;obtain⟨_,us,rfl,_,ra⟩:=ra;cases ra;rfl
 ·obtain⟨W0,W,F,Z0K,Z1f,aa,us,rfl,rfl,E0,nF,ZeS,ra,Er,hq⟩:=h;obtain⟨Z0h,_⟩:=aa;obtain⟨Za4,us,rfl,Z1r,ra⟩:=ra;replace Z1r:isS W.G Z0h Za4:=Z1r;cases ra;replace hq:(An uB Z0K Z0h).OkE Er (n5 W0 W (ae K Z00 Z01) (oUn K [119,111,118,101,110]) Z1f Q):=hq;cases Z1r
  refine⟨_,(a6 (yB (i:=3) (E:=EX K [Z0a,Z0m,Z0i,Z0j,Z0k,Z0c,Z0d,Z0g,Z06,Z0o,Z08,Z0b,Z0p] [114,101,102,117,115,101,100] W Q) ⟨rfl,rfl⟩ (fun _=>(af (fo 2 (tR Z3Z A1 (hr.mono (by decide)) (pv 0)<|a4 (pv 1) a5)))) (by rfl) Z1X XB (EX.cl Z) SC.nd rfl rfl (fun x C od oe hh=>(af (aq (bC (a4 aG (a4 (wg Z40 hh ((hr.mono (by decide)).h _) rfl (D0 ..) (by rfl)<|a4 (pv 3) a5) a5)))))))
   (af (aq (bC (a4 aG (a4 (pv 2) a5)))))),?_⟩
  have hS0:Same W.G W.G:=.refl _;have EW:Ext W W:=.refl _;have S:Sep W0 W [tc (ae K Z00 Z01) Z0K Z1f]:=Ls ZeS nF;rw[show L2.start ["_law_loom","_law_row_here","_law_found","_law_e"] [Z1f,.str<|sOf Z0h]=[some Z1f,some<|.str<|sOf Z0h,none,none]from rfl];unfold An at hq;refine wG (Er:=Er) (K:=K) (base:=base) (RT:=(oL<|fz<|qB K)) (s:=[114,101,102,117,115,101,100]) (s0:=[119,111,118,101,110]) (σ':=fun v1=>[some Z1f,some<|.str<|sOf Z0h,some v1,none]) S E0 hS0 Z (eL _ _ (by decide +kernel)) rfl (by decide) (fun Er hE7 D hq=>?_)<|(CH hq).imp fun r4 hq=>?_;·exact uu (Er:=Er) (k:=0) (j:=2) (xI<|cP<|cP<|cP iO) S E0 rfl rfl (cF cO lW) hE7 hq
  ·cases r4 with
   |inr j6=>exact hq
   |inl y5=>
    intro v1 W2 E0 hS3 S;dsimp only at hq;have S:Sep W0 W2 [tc (ae K Z00 Z01) y5.1 Z1f,tc (oL<|fz<|qB K) y5.2 v1]:=S;have hS0:=hS0.trans hS3;exact uw (K:=K) (u:=fun(z:Pl)=>II [Fv z.1,Fv z.2.1,Fv z.2.2]) (xD eY eY eY) (eL _ _ (by decide +kernel)) S E0 hS0 rfl hq
theorem Cy{f:Addr}{fd:Df}(F:Fun K "_law_pick" "_law_pick" (tp 52) f fd){l9:Cd->Tx->Res Int}(Z1N:Cal P w K mg base "_law_twist" ["_law_card_here","_law_turn"] (2) (cb (qA K) isS (rs isI) l9))(Z1b:mg "zip"=none):FnOk P w K mg base CX0 (3) f fd ["_law_cards","_law_row_here"] (cb (isL<|qA K) isS (ro<|qB K)<|Bj l9):=by
 have SC:FnScope ["_law_cards","_law_row_here","_law_out","_law_card_here","_law_turn","_law_slant"] ["_law_cards","_law_row_here"] (defScope<|tp 52):=by walk_at "F"
 refine F.ok SC (fun vs H Q E h=>?_)<|fun cdv A outer s H vs Q E hr h=>?_;·obtain⟨_,_,_,_,_,_,rfl,_⟩:=h;rfl
 ·obtain⟨W0,Z7e,Z0h,ZdP,_,rfl,rfl,Z6F,Z1r,Er,hq⟩:=h;cases Z1r;refine⟨_,(a6 (fo 2<|cB a5)
   (a6 (dD Ea rfl (eI (K:=K) rfl rfl Z1b<|a4 (pv 0)<|a4 (pv 1) a5) (cy (K:=K) (n:=2) rfl rfl<|au (hW 3)<|au (hW 4) cj) (a6 (fo 5<|bj eP aG (ah bM (eK Z1N<|a4 (pv 3)<|a4 (pv 4) a5) a8)<|fun _ _=>rfl)
   (af (ef (eX (K:=K) rfl (pv 2) (a4 (bC (a4 (bj eP (bj (bP (K:=K) rfl) (pv 3) a8 (fun _ _=>rfl)) (bj (bP (K:=K) rfl) (pv 3) a8 (fun _ _=>rfl)) (fun _ _=>rfl)) (a4 (bj eP (bj (bP (K:=K) rfl) (pv 3) a8 (fun _ _=>rfl)) (ah aX (ah bM (bj (bP (K:=K) rfl) (pv 3) a8 (fun _ _=>rfl)) a8) a8) (fun _ _=>rfl)) (a4 (pv 5) a5)))) a5))))))
   (af (aq (pv 2))))),?_⟩
  have E0:Ext W0 W0:=.refl W0;unfold Bj at hq;refine kY (Er:=Er) (pe (R:=(qB K)))<|fun p3 W1 e2 hp4 o5=>?_;have fr6:=none_of E0.h hp4;have E0:=E0.trans e2;have Z6F:=CJ e2.g Z6F;refine eW (Er:=Er) (f:=(Ao l9)) (s0:=([]:List Pl)) (Iv:=fun(s9:(List Pl))(W10:Wd)(g11:St)=>∃(d13:Option V)(d14:Option V)(d15:Option V),g11=[some ZdP,some<|.str<|sOf Z0h,some<|.ref p3,d14,d15,d13]/\Ext W0 W10/\Ow (qB K) W10 p3 s9) (gf (dN<|bz Z6F)<|gc cO) (CH hq) ?_ ?_ ?_
  ·intro W27 e28;have E0:=E0.trans e28;have o5:=o5.mono e28;exact⟨_,_,_,rfl,E0,o5⟩
  ·intro Wb16 W17 W18 a7 v19 s8 sg20 P21 hW22 hB23 iv e24 h25 hq;obtain⟨d13,d14,d15,rfl,E0,o12⟩:=iv;have E0:=E0.trans e24;have hB23:=hB23.trans e24.g;have o12:=o12.mono e24;refine k8 h25 fun v33 v35 h34 h36=>?_;cases h36;unfold Ao at hq;refine av (Er:=Er) (eU (aJ (x:=CS "zos") (l:=[122,111,115]) (eL _ _ (by decide +kernel)))<|bx (bt (bz h34) cO) ao)<|(CH hq).imp fun y41 hq v42 W37 e38 h43=>?_;cases h43;have E0:=E0.trans e38;have hB23:=hB23.trans e38.g;have o12:=o12.mono e38;have h34:=CJ e38.g h34;refine nS (Er:=Er) o12 (i9 (K:=K) (eU (cK (f:=fun(b:Cd)=>b.2.1) qy<|bz h34)<|cK (f:=fun(b:Cd)=>b.2.2) yt<|bz h34) (eU (cK (f:=fun(b:Cd)=>b.2.1) qy<|bz h34) (aD (fun _=>by decide)<|bx (cK (f:=fun(b:Cd)=>b.2.2) yt<|bz h34) ao)) cO)<|(CH hq).imp fun y49 hq W46 mu47 o48=>?_;have E0:=mu47.e _ E0 fr6;have hB23:=hB23.trans mu47.g;have h34:=CJ mu47.g h34
   try dsimp only
   refine dO (W:=W46) y49 hB23 ?_ hq;exact⟨_,_,_,rfl,E0,o48⟩
  ·intro s51 W52 sg53 hS54 iv hq;obtain⟨d13,d14,d15,rfl,E0,o12⟩:=iv;exact⟨.ref p3,rfl,hq p3 W52 E0 fr6 o12⟩
theorem Cz{f:Addr}{fd:Df}(F:Fun K "tablets" "Loom.tablets" (tq 34 8) f fd){fO:Z03->Res eZ}{Z00 Z01:Addr}(Z0J:CalM P w K mg base CX0 Z01 "now" ["self"] (1) (gO (wC (vw<|ae K Z00 Z01) wN) (rs<|aW K Z00)<|fun a=>fO a.1))(Z0f:Cls K Z01)(Z0e:Cls K Z00)(Z0s:NoAttr K Z00 "standing")(Z0Z:mg "list"=none):FnOk P w K mg base CX0 (2) f fd ["self"] (gO (wC (vw<|ae K Z00 Z01) wN) (ro<|qA K)<|fun a=>Ap fO a.1):=by
 have SC:FnScope ["self"] ["self"] (defScope<|tq 34 8):=by walk_at "F"
 refine F.ok SC (fun vs H Q E h=>?_)<|fun cdv A outer s H vs Q E hr h=>?_;·obtain⟨_,_,_,ra,_⟩:=h;obtain⟨_,us,rfl,_,ra⟩:=ra;cases ra;rfl
 ·obtain⟨W0,aa,rfl,ra,Er,hq⟩:=h;obtain⟨self,_⟩:=aa;obtain⟨Z0H,us,rfl,Z0B,ra⟩:=ra;replace Z0B:(vw<|ae K Z00 Z01) W0 self Z0H:=Z0B;cases ra;replace hq:(Ap fO self).OkE Er (fun r=>(ro<|qA K) W0 r Q):=hq;refine⟨_,(af (aq (bW (cT (K:=K) rfl) (by rfl) Z0Z Ee (a4 (bD (K:=K) rfl (en Z0J (hr.mono (by decide))<|pv 0) rfl) a5)))),?_⟩;have E0:Ext W0 W0:=.refl W0;unfold Ap at hq;exact ib (Er:=Er) (fq<|FN<|dy Z0e Z0s cR<|iY (cP<|cP<|cP iO) (aS (R:=(vw<|ae K Z00 Z01))<|DB E0 Z0B) cz)<|Dk hq fun y2 hq p3 W4 e5 hp6 o7=>hq p3 W4 (E0.trans e5) (none_of E0.h hp6) o7
theorem CA{f:Addr}{fd:Df}(F:Fun K "band" "Loom.band" (tq 34 9) f fd){Z00 Z01:Addr}(Z0f:Cls K Z01)(Z0e:Cls K Z00)(Z0q:NoAttr K Z01 "course")(Z12:NoAttr K Z00 "pick")(Z0Z:mg "list"=none):FnOk P w K mg base CX0 (1) f fd ["self"] (gO (wC (vw<|ae K Z00 Z01) wN) (ro<|qD K)<|fun a=>Aq a.1):=by
 have SC:FnScope ["self"] ["self"] (defScope<|tq 34 9):=by walk_at "F"
 refine F.ok SC (fun vs H Q E h=>?_)<|fun cdv A outer s H vs Q E hr h=>?_;·obtain⟨_,_,_,ra,_⟩:=h;obtain⟨_,us,rfl,_,ra⟩:=ra;cases ra;rfl
 ·obtain⟨W0,aa,rfl,ra,Er,hq⟩:=h;obtain⟨self,_⟩:=aa;obtain⟨Z0H,us,rfl,Z0B,ra⟩:=ra;replace Z0B:(vw<|ae K Z00 Z01) W0 self Z0H:=Z0B;cases ra;replace hq:(Aq self).OkE Er (fun r=>(ro<|qD K) W0 r Q):=hq;refine⟨_,(af (aq (du (N:=["stage"]) (cap:=[none]) (fF rfl (by decide +kernel) rfl (by decide +kernel) (by rfl) (by rfl)) rfl (dH (K:=K) rfl<|bD (K:=K) rfl (pv 0) rfl) (fun _ _ _ _=>(aP (i:=0) (show DM (["stage"]:List Str) by decide +kernel) rfl (by walk_at "L"))) (fun _ _ _ _=>(lH<|bc vv (bD (K:=K) rfl (pv 0) rfl) lq<|aY _)) (fun _ _ _ _=>(bW (cT (K:=K) rfl) (by rfl) Z0Z Ee<|a4 (bD (K:=K) rfl (pv 0) rfl) a5))))),?_⟩;have E0:Ext W0 W0:=.refl W0;rw[show L2.start ["self"] [Z0H]=[some Z0H]from rfl];unfold Aq at hq;exact ib (Er:=Er) (r6 (mZ (K:=K)<|jj<|gN Z0f Z0q Z1K.at_<|aS (R:=(vw<|ae K Z00 Z01))<|DB E0 Z0B) fun W3 a1 v2 e4 h5 Q8 k9=>by
   refine gn ?_;refine⟨by simp[Keep,bh],((bq<|vX<|dy Z0e Z12 gy<|bz h5):TV Er _ [some v2] _ _) _ (.refl _) _ (Dk (P:=fun b10=>(if b10=true then((lL a1.2.2.2.2.2).bind fun y11=>CT<|some y11)else CT none:Res (Option<|List Pl)).OkE Er _) (BX k9) fun b10 k14 W12 e13=>?_)⟩;cases b10 with
   |false=>exact k14 none _ e13 trivial
   |true=>
    rw[if_pos rfl];refine EV.go (Er:=Er) (σ:=[some v2]) (W1:=W12) e13 (EF (fq (FN (sX (dy Z0e Z12 gy (bz h5)))))) ?_;exact(CH (show(Res.bind _ _).OkE Er _ from k14)).imp fun x19 k20 u17 W15 e16 h18=>k20 (some u17) _ (e13.trans e16) h18) (Dk hq fun y21 hq p22 W23 e24 hp25 o26=>hq p22 W23 (E0.trans e24) (none_of E0.h hp25) o26)
theorem CB{f:Addr}{fd:Df}(F:Fun K "deeds" "Loom.deeds" (tq 34 10) f fd){Z00 Z01:Addr}(Z0f:Cls K Z01)(Z0e:Cls K Z00)(Z0q:NoAttr K Z01 "course")(Z1L:NoAttr K Z00 "deed"):FnOk P w K mg base CX0 (1) f fd ["self"] (gO (wC (vw<|ae K Z00 Z01) wN) (ro<|isU K)<|fun a=>Ar a.1):=by
 have SC:FnScope ["self"] ["self"] (defScope<|tq 34 10):=by walk_at "F"
 refine F.ok SC (fun vs H Q E h=>?_)<|fun cdv A outer s H vs Q E hr h=>?_;·obtain⟨_,_,_,ra,_⟩:=h;obtain⟨_,us,rfl,_,ra⟩:=ra;cases ra;rfl
 ·obtain⟨W0,aa,rfl,ra,Er,hq⟩:=h;obtain⟨self,_⟩:=aa;obtain⟨Z0H,us,rfl,Z0B,ra⟩:=ra;replace Z0B:(vw<|ae K Z00 Z01) W0 self Z0H:=Z0B;cases ra;replace hq:(Ar self).OkE Er (fun r=>(ro<|isU K) W0 r Q):=hq;refine⟨_,(af (aq (du (N:=["stage"]) (cap:=[none]) (fF rfl (by decide +kernel) rfl (by decide +kernel) (by rfl) (by rfl)) rfl (dH (K:=K) rfl<|bD (K:=K) rfl (pv 0) rfl) (fun _ _ _ _=>(aP (i:=0) (show DM (["stage"]:List Str) by decide +kernel) rfl (by walk_at "L"))) (fun _ _ _ _=>cw)<|fun _ _ _ _=>(bD (K:=K) rfl (pv 0) rfl)))),?_⟩;have E0:Ext W0 W0:=.refl W0;rw[show L2.start ["self"] [Z0H]=[some Z0H]from rfl];unfold Ar at hq;exact ib (Er:=Er) (uk (mZ (K:=K)<|jj<|gN Z0f Z0q Z1K.at_<|aS (R:=(vw<|ae K Z00 Z01))<|DB E0 Z0B) fun W3 a1 v2 e4 h5 Q8 k9=>by
   refine gn ?_;exact⟨by simp[Keep,bh],((dy Z0e Z1L n9 (bz h5)):EV Er _ [some v2] _ _ _) _ (.refl _) _ k9⟩) (Dk hq fun y10 hq p11 W12 e13 hp14 o15=>hq p11 W12 (E0.trans e13) (none_of E0.h hp14) o15)
theorem CC{f:Addr}{fd:Df}(F:Fun K "twist" "Loom.twist" (tq 34 11) f fd){fO:Z03->Res eZ}{Z00 Z01:Addr}(Z0J:CalM P w K mg base CX0 Z01 "now" ["self"] (1) (gO (wC (vw<|ae K Z00 Z01) wN) (rs<|aW K Z00)<|fun a=>fO a.1))(Z0f:Cls K Z01)(Z0e:Cls K Z00)(Z0Q:NoAttr K Z00 "reached"):FnOk P w K mg base CX0 (2) f fd ["self","k"] (gO (wC (vw<|ae K Z00 Z01)<|wC (sh isI) wN) (rs isI)<|fun a=>As fO a.1 a.2.1):=by
 have SC:FnScope ["self","k"] ["self","k"] (defScope<|tq 34 11):=by walk_at "F"
 refine F.ok SC (fun vs H Q E h=>?_)<|fun cdv A outer s H vs Q E hr h=>?_;·obtain⟨_,_,_,ra,_⟩:=h;obtain⟨_,us,rfl,_,ra⟩:=ra;obtain⟨_,us,rfl,_,ra⟩:=ra;cases ra;rfl
 ·obtain⟨W0,aa,rfl,ra,Er,hq⟩:=h;obtain⟨self,k,_⟩:=aa;obtain⟨Z0H,us,rfl,Z0B,ra⟩:=ra;replace Z0B:(vw<|ae K Z00 Z01) W0 self Z0H:=Z0B;obtain⟨v_k,us,rfl,z_k,ra⟩:=ra;replace z_k:(sh isI) W0 k v_k:=z_k;cases ra;replace hq:(As fO self k).OkE Er (fun r=>(rs isI) W0 r Q):=hq;cases z_k;refine⟨_,(af (aq (bj (cD (K:=K) rfl) (bD (K:=K) rfl (en Z0J (hr.mono (by decide))<|pv 0) rfl) (pv 1)<|fun _ _=>rfl))),?_⟩;have E0:Ext W0 W0:=.refl W0;unfold As at hq;exact aw (Er:=Er) (eV (FN<|dy Z0e Z0Q gs<|iY (cP<|cP<|cP iO) (aS (R:=(vw<|ae K Z00 Z01))<|DB E0 Z0B) cz) bR)<|Dk hq fun y3 hq v4 W5 e6 h7=>hq v4 W5 (E0.trans e6) h7
theorem CD{f:Addr}{fd:Df}(F:Fun K "peak" "Loom.peak" (tq 34 12) f fd){fO:Z03->Res eZ}{Z00 Z01:Addr}(Z0J:CalM P w K mg base CX0 Z01 "now" ["self"] (1) (gO (wC (vw<|ae K Z00 Z01) wN) (rs<|aW K Z00)<|fun a=>fO a.1))(Z0f:Cls K Z01)(Z0e:Cls K Z00)(Z0R:NoAttr K Z00 "highest"):FnOk P w K mg base CX0 (2) f fd ["self","k"] (gO (wC (vw<|ae K Z00 Z01)<|wC (sh isI) wN) (rs isI)<|fun a=>Au fO a.1 a.2.1):=by
 have SC:FnScope ["self","k"] ["self","k"] (defScope<|tq 34 12):=by walk_at "F"
 refine F.ok SC (fun vs H Q E h=>?_)<|fun cdv A outer s H vs Q E hr h=>?_;·obtain⟨_,_,_,ra,_⟩:=h;obtain⟨_,us,rfl,_,ra⟩:=ra;obtain⟨_,us,rfl,_,ra⟩:=ra;cases ra;rfl
 ·obtain⟨W0,aa,rfl,ra,Er,hq⟩:=h;obtain⟨self,k,_⟩:=aa;obtain⟨Z0H,us,rfl,Z0B,ra⟩:=ra;replace Z0B:(vw<|ae K Z00 Z01) W0 self Z0H:=Z0B;obtain⟨v_k,us,rfl,z_k,ra⟩:=ra;replace z_k:(sh isI) W0 k v_k:=z_k;cases ra;replace hq:(Au fO self k).OkE Er (fun r=>(rs isI) W0 r Q):=hq;cases z_k;refine⟨_,(af (aq (bj (cD (K:=K) rfl) (bD (K:=K) rfl (en Z0J (hr.mono (by decide))<|pv 0) rfl) (pv 1)<|fun _ _=>rfl))),?_⟩;have E0:Ext W0 W0:=.refl W0;unfold Au at hq;exact aw (Er:=Er) (eV (FN<|dy Z0e Z0R gu<|iY (cP<|cP<|cP iO) (aS (R:=(vw<|ae K Z00 Z01))<|DB E0 Z0B) cz) bR)<|Dk hq fun y3 hq v4 W5 e6 h7=>hq v4 W5 (E0.trans e6) h7
theorem CF{f:Addr}{fd:Df}(F:Fun K "rest" "Loom.rest" (tq 34 13) f fd){fO:Z03->Res eZ}{Z00 Z01:Addr}(Z0J:CalM P w K mg base CX0 Z01 "now" ["self"] (1) (gO (wC (vw<|ae K Z00 Z01) wN) (rs<|aW K Z00)<|fun a=>fO a.1))(Z0f:Cls K Z01)(Z0e:Cls K Z00)(Z0S:NoAttr K Z00 "lengths"):FnOk P w K mg base CX0 (2) f fd ["self","colour"] (gO (wC (vw<|ae K Z00 Z01)<|wC (sh isS) wN) (rs isI)<|fun a=>Av fO a.1 a.2.1):=by
 have SC:FnScope ["self","colour"] ["self","colour"] (defScope<|tq 34 13):=by walk_at "F"
 refine F.ok SC (fun vs H Q E h=>?_)<|fun cdv A outer s H vs Q E hr h=>?_;·obtain⟨_,_,_,ra,_⟩:=h;obtain⟨_,us,rfl,_,ra⟩:=ra;obtain⟨_,us,rfl,_,ra⟩:=ra;cases ra;rfl
 ·obtain⟨W0,aa,rfl,ra,Er,hq⟩:=h;obtain⟨self,colour,_⟩:=aa;obtain⟨Z0H,us,rfl,Z0B,ra⟩:=ra;replace Z0B:(vw<|ae K Z00 Z01) W0 self Z0H:=Z0B;obtain⟨ZeU,us,rfl,Z7G,ra⟩:=ra;replace Z7G:(sh isS) W0 colour ZeU:=Z7G;cases ra;replace hq:(Av fO self colour).OkE Er (fun r=>(rs isI) W0 r Q):=hq;cases Z7G;refine⟨_,(af (aq (fX (dX hr) (bD (K:=K) rfl (en Z0J (hr.mono (by decide))<|pv 0) rfl) (pv 1) a8 ⟨rfl,rfl,rfl,rfl⟩))),?_⟩;have E0:Ext W0 W0:=.refl W0;unfold Av at hq;exact aw (Er:=Er) (gm ig kS (Jw<|dy Z0e Z0S gw<|iY (cP<|cP<|cP iO) (aS (R:=(vw<|ae K Z00 Z01))<|DB E0 Z0B) cz) cO ao)<|Dk hq fun y3 hq v4 W5 e6 h7=>hq v4 W5 (E0.trans e6) h7
theorem CG{f:Addr}{fd:Df}(F:Fun K "_law_stands" "_law_stands" (tp 54) f fd){vm:Z03->Res (List Cd)}{vn:Z03->Res (List<|List Pl)}{vo:Z03->Res (List Dat)}{pT:Z03->Int->Res Int}{pU:Z03->Int->Res Int}{oy:Z03->Tx->Res Int}{Z00 Z01:Addr}(Z0D:Cal P w K mg base "_law_same" ["_law_found","_law_due"] 26 (fg K 26))(Z34:CalM P w K mg base CX0 Z01 "tablets" ["self"] (2) (gO (wC (vw<|ae K Z00 Z01) wN) (ro<|qA K)<|fun a=>vm a.1))(Z55:CalM P w K mg base CX0 Z01 "band" ["self"] (1) (gO (wC (vw<|ae K Z00 Z01) wN) (ro<|qD K)<|fun a=>vn a.1))(Z41:CalM P w K mg base CX0 Z01 "deeds" ["self"] (1) (gO (wC (vw<|ae K Z00 Z01) wN) (ro<|isU K)<|fun a=>vo a.1))(Z42:CalM P w K mg base CX0 Z01 "twist" ["self","k"] (2) (gO (wC (vw<|ae K Z00 Z01)<|wC (sh isI) wN) (rs isI)<|fun a=>pT a.1 a.2.1))(Z56:CalM P w K mg base CX0 Z01 "peak" ["self","k"] (2) (gO (wC (vw<|ae K Z00 Z01)<|wC (sh isI) wN) (rs isI)<|fun a=>pU a.1 a.2.1))(Z57:CalM P w K mg base CX0 Z01 "rest" ["self","colour"] (2) (gO (wC (vw<|ae K Z00 Z01)<|wC (sh isS) wN) (rs isI)<|fun a=>oy a.1 a.2.1))(Z0f:Cls K Z01)(Z0P:mg "len"=none)(Z1w:mg "range"=none):FnOk P w K mg base CX0 (27) f fd ["_law_loom","_law_state","_law_band","_law_done"] (gO (wC (vw<|ae K Z00 Z01)<|wC (sh<|jd K)<|wC (sh<|isL<|qD K)<|wC (sh<|isL<|isU K) wN) (rs isB)<|fun a=>Ax vm vn vo pT pU oy a.1 a.2.1 a.2.2.1 a.2.2.2.1):=by
 have SC:FnScope ["_law_loom","_law_state","_law_band","_law_done","_law_k","_law_colour"] ["_law_loom","_law_state","_law_band","_law_done"] (defScope<|tp 54):=by walk_at "F"
 refine F.ok SC (fun vs H Q E h=>?_)<|fun cdv A outer s H vs Q E hr h=>?_;·obtain⟨_,_,_,ra,_⟩:=h;obtain⟨_,us,rfl,_,ra⟩:=ra;obtain⟨_,us,rfl,_,ra⟩:=ra;obtain⟨_,us,rfl,_,ra⟩:=ra;obtain⟨_,us,rfl,_,ra⟩:=ra;cases ra;rfl
 ·obtain⟨W0,aa,rfl,ra,Er,hq⟩:=h;obtain⟨Z0K,Z0t,Z5O,Z5P,_⟩:=aa;obtain⟨Z1f,us,rfl,Z27,ra⟩:=ra;replace Z27:(vw<|ae K Z00 Z01) W0 Z0K Z1f:=Z27;obtain⟨Z1d,us,rfl,Z0n,ra⟩:=ra;replace Z0n:(sh<|jd K) W0 Z0t Z1d:=Z0n;obtain⟨Z43,us,rfl,Z44,ra⟩:=ra;replace Z44:(sh<|isL<|qD K) W0 Z5O Z43:=Z44;obtain⟨Z45,us,rfl,Z2z,ra⟩:=ra;replace Z2z:(sh<|isL<|isU K) W0 Z5P Z45:=Z2z;cases ra;replace hq:(Ax vm vn vo pT pU oy Z0K Z0t Z5O Z5P).OkE Er (fun r=>(rs isB) W0 r Q):=hq
  refine⟨_,(a6 (bG (JQ (kC (dw (bY (eK Z0D (a4 (en Z34 (hr.mono (by decide))<|pv 0)<|a4 (bj (bP (K:=K) rfl) (pv 1) a8<|fun _ _=>rfl) a5)))) (jq (dw (bY (eK Z0D (a4 (en Z55 (hr.mono (by decide))<|pv 0)<|a4 (pv 2) a5))))))) (af<|aq eE) aI)
   (a6 (bG (dw (bY (eK Z0D (a4 (en Z41 (hr.mono (by decide))<|pv 0)<|a4 (pv 3) a5)))) (af<|aq eE) aI)
   (a6 (dD Ea rfl (gH rfl Z1w (a4 (aj (bX (K:=K) rfl) (by rfl) Z0P Ei<|a4 (bj (bP (K:=K) rfl) (pv 1) a8<|fun _ _=>rfl) a5) a5)) (hW 4) (af (bG (JQ (kC (dw (bY (eK Z0D (a4 (jk Z42 (hr.mono (by decide)) (pv 0)<|a4 (pv 4) a5)<|a4 (bj (cD (K:=K) rfl) (bj (bP (K:=K) rfl) (pv 1) a8<|fun _ _=>rfl) (pv 4)<|fun _ _=>rfl) a5)))) (jq (dw (bY (eK Z0D (a4 (jk Z56 (hr.mono (by decide)) (pv 0)<|a4 (pv 4) a5)<|a4 (bj (cD (K:=K) rfl) (bj (bP (K:=K) rfl) (pv 1) a8<|fun _ _=>rfl) (pv 4)<|fun _ _=>rfl) a5))))))) (af<|aq eE) aI)))
   (a6 (dD Ea rfl (iE aG) (hW 5) (af (bG (dw (bY (eK Z0D (a4 (jk Z57 (hr.mono (by decide)) (pv 0)<|a4 (pv 5) a5)<|a4 (fX (dX hr) (bj (bP (K:=K) rfl) (pv 1) a8<|fun _ _=>rfl) (pv 5) a8 ⟨rfl,rfl,rfl,rfl⟩) a5)))) (af<|aq eE) aI)))
   (af (aq eE)))))),?_⟩
  have E0:Ext W0 W0:=.refl W0;unfold Ax at hq;refine bL (Er:=Er) (p7 (dY (gb (ft (by decide) (EF<|oh (cP<|cP<|cP iO) (aS (R:=(vw<|ae K Z00 Z01))<|DB E0 Z27) cz)<|cK (f:=fun(b:(List Cd)×(List Int)×(List Int)×di)=>b.1) wa<|bz Z0n))) (dY (gb (ft (by decide) (EF<|oh (cP<|cP<|cP iO) (aS (R:=(vw<|ae K Z00 Z01))<|DB E0 Z27) cz)<|bz Z44))))<|(CH hq).imp fun y6 hq W7 e8=>?_;have E0:=E0.trans e8;have Z0n:=CJ e8.g Z0n;have Z44:=CJ e8.g Z44;have Z2z:=CJ e8.g Z2z;by_cases hb100:y6=true
  ·rw[if_pos hb100]at hq ⊢;exact aw (Er:=Er) gV<|fun v9 W10 e11 h12=>hq v9 W10 (E0.trans e11) h12
  ·rw[if_neg hb100]at hq ⊢
   try dsimp only[aA]
   refine bL (Er:=Er) (dY (gb (jL (by decide) (gi (K:=K) (u:=fun(z:List Dat)=>JS<|z.map fun(z:Dat)=>z) (mR (u:=fun(z:Dat)=>z) xC)<|EF<|oh (cP<|cP<|cP iO) (aS (R:=(vw<|ae K Z00 Z01))<|DB E0 Z27) cz)<|gi (K:=K) (u:=fun(z:List Dat)=>JS<|z.map fun(z:Dat)=>z) (mR (u:=fun(z:Dat)=>z) xC)<|bz Z2z)))<|(CH hq).imp fun y16 hq W17 e18=>?_;have E0:=E0.trans e18;have Z0n:=CJ e18.g Z0n;have Z2z:=CJ e18.g Z2z;by_cases hb100:y16=true
   ·rw[if_pos hb100]at hq ⊢;exact aw (Er:=Er) gV<|fun v19 W20 e21 h22=>hq v19 W20 (E0.trans e21) h22
   ·rw[if_neg hb100]at hq ⊢
    try dsimp only[aA]
    refine iK (Er:=Er) (f:=(Aw pT pU Z0K Z0t)) (s0:=()) (Iv:=fun(s25:Unit)(W26:Wd)(g27:St)=>∃(d28:Option V),g27=[some Z1f,some Z1d,some Z43,some Z45,d28,none]/\Ext W0 W26) (nV<|FN<|cK (f:=fun(b:(List Cd)×(List Int)×(List Int)×di)=>b.1) wa<|bz Z0n) (CH hq) ?_ ?_ ?_
    ·intro W40 e41;have E0:=E0.trans e41;have Z0n:=CJ e41.g Z0n;exact⟨_,rfl,E0⟩
    ·intro Wb29 W30 W31 a23 v32 s24 sg33 P34 hW35 hB36 iv e37 h38 hrt39 hq;obtain⟨d28,rfl,E0⟩:=iv;have Z0n:=CJ hW35 Z0n;have E0:=E0.trans e37;have hB36:=hB36.trans e37.g;have Z0n:=CJ e37.g Z0n;cases h38;refine gn (σ':=[some Z1f,some Z1d,some Z43,some Z45,some<|.int a23,none]) ?_;unfold Aw at hq;refine kX (Er:=Er) (p7 (dY (gb (ft (by decide) (iY (cP<|cP<|cP iO) (aS (R:=(vw<|ae K Z00 Z01))<|DB E0 Z27)<|bu (R:=(sh isI)) bR cz)<|eV (FN<|cK (f:=fun(b:(List Cd)×(List Int)×(List Int)×di)=>b.2.1) By<|bz Z0n) bR))) (dY (gb (ft (by decide) (iY (cP<|cP<|cP iO) (aS (R:=(vw<|ae K Z00 Z01))<|DB E0 Z27)<|bu (R:=(sh isI)) bR cz)<|eV (FN<|cK (f:=fun(b:(List Cd)×(List Int)×(List Int)×di)=>b.2.2.1) Bz<|bz Z0n) bR))))<|(CH hq).imp fun y51 hq W52 e53=>?_;have E0:=E0.trans e53;have hB36:=hB36.trans e53.g;have Z0n:=CJ e53.g Z0n;by_cases hb57:y51=true
     ·rw[if_pos hb57]at hq ⊢;exact aw (Er:=Er) gV<|fun v54 W55 e56 h57=>(hrt39 _ hq) v54 W55 (E0.trans e56) h57
     ·rw[if_neg hb57]at hq ⊢
      try dsimp only[aA]
      try dsimp only
      refine dO (W:=W52) () hB36 ?_ hq;exact⟨_,rfl,E0⟩
    ·intro s59 W60 sg61 hS62 iv hq;obtain⟨d28,rfl,E0⟩:=iv;have Z0n:=CJ hS62 Z0n;refine iK (Er:=Er) (f:=(zx oy Z0K Z0t)) (s0:=()) (Iv:=fun(s65:Unit)(W66:Wd)(g67:St)=>∃(d68:Option V),g67=[some Z1f,some Z1d,some Z43,some Z45,d28,d68]/\Ext W0 W66) (iJ (aJ (x:=CS "abcdefghijklmnopqrstuvwxyz") (l:=[97,98,99,100,101,102,103,104,105,106,107,108,109,110,111,112,113,114,115,116,117,118,119,120,121,122]) (eL _ _ (by decide +kernel)))) (CH hq) ?_ ?_ ?_
     ·intro W80 e81;have E0:=E0.trans e81;have Z0n:=CJ e81.g Z0n;exact⟨_,rfl,E0⟩
     ·intro Wb69 W70 W71 a63 v72 s64 sg73 P74 hW75 hB76 iv e77 h78 hrt79 hq;obtain⟨d68,rfl,E0⟩:=iv;have Z0n:=CJ hW75 Z0n;have E0:=E0.trans e77;have hB76:=hB76.trans e77.g;have Z0n:=CJ e77.g Z0n;cases h78;refine gn (σ':=[some Z1f,some Z1d,some Z43,some Z45,d28,some<|.str<|sOf a63]) ?_;unfold zx at hq;refine kX (Er:=Er) (dY (gb (ft (by decide) (iY (cP<|cP<|cP iO) (aS (R:=(vw<|ae K Z00 Z01))<|DB E0 Z27)<|bu (R:=(sh isS)) cO cz)<|gm ig kS (Jw<|cK (f:=fun(b:(List Cd)×(List Int)×(List Int)×di)=>b.2.2.2) BA<|bz Z0n) cO ao)))<|(CH hq).imp fun y86 hq W87 e88=>?_;have E0:=E0.trans e88;have hB76:=hB76.trans e88.g;have Z0n:=CJ e88.g Z0n;by_cases hb92:y86=true
      ·rw[if_pos hb92]at hq ⊢;exact aw (Er:=Er) gV<|fun v89 W90 e91 h92=>(hrt79 _ hq) v89 W90 (E0.trans e91) h92
      ·rw[if_neg hb92]at hq ⊢
       try dsimp only[aA]
       try dsimp only
       refine dO (W:=W87) () hB76 ?_ hq;exact⟨_,rfl,E0⟩
     ·intro s93 W94 sg95 hS96 iv hq;obtain⟨d68,rfl,E0⟩:=iv;exact aw (Er:=Er) gV<|fun v97 W98 e99 h100=>hq v97 W98 (E0.trans e99) h100
theorem Az{f:Addr}{fd:Df}(F:Fun K "law" "law" (tp 57) f fd){ir:List Int->Int->Res Int}{vg:List Int->Int->Int->Res (List Cd)}{wI:Int->Res Int}{wJ:(List Cd)->Int->Res di}{wL:(List Cd)->Int->di->Res Z03}{wM:(List Cd)->di->Res jX}{rg:Int->Int->Res Tx}{m7:jX->Tx->Int->Res (Tx ⊕ jX)}{ou:Z03->Tx->Res (Z03×Dat)}{lZ:Z03->jX->(List<|List Pl)->(List Dat)->Res Bool}{ow:(List Cd)->Tx->Res (List Pl)}{Z00 Z01:Addr}(Z1k:Cal P w K mg base "_law_at" ["_law_script","_law_k"] (1) (cb (isScr K) isI (rs isI) ir))(Z46:Cal P w K mg base "_law_draft" ["_law_script","_law_at_here","_law_width"] (4) (iI (isScr K) isI isI (ro<|qA K) vg))(Z58:Cal P w K mg base "_law_most" ["_law_cell"] (1) (eA isI (rs isI) wI))(Z3u:Cal P w K mg base "_law_spools" ["_law_draft_here","_law_cell"] (2) (cb (isL<|qA K) isI (rs la) wJ))(Za7:CalI P w K mg base "Loom" Z01 ["self","draft","most","spools"] (4) (pP Z01 (eg K Z00) (wC (pk<|qA K)<|wC (sh isI)<|wC (pkD (fun(a:Tx)=>Ds<|sOf a) isI) wN)<|fun a=>wL a.1 a.2.1 a.2.2.1))(Z0D:Cal P w K mg base "_law_same" ["_law_found","_law_due"] 26 (fg K 26))(Z47:Cal P w K mg base "_law_begin" ["_law_draft_here","_law_spools_here"] (1) (cb (isL<|qA K) la (rs<|jd K) wM))(Z35:Cal P w K mg base "_law_rowtext" ["_law_cell","_law_width"] (3) (cb isI isI (rs isS) rg))(Z48:Cal P w K mg base "_law_after" ["_law_state","_law_row_here","_law_most_here"] (3) (iI (jd K) isS isI (rs<|isEi isS<|jd K) m7))(Z49:Cal P w K mg base "_law_tried" ["_law_loom","_law_row_here"] (5) (rf (ae K Z00 Z01) (aC isS aN) (oUn K [119,111,118,101,110])<|fun st a=>ou st a.1))(Z2x:Cal P w K mg base "_law_stands" ["_law_loom","_law_state","_law_band","_law_done"] (27) (gO (wC (vw<|ae K Z00 Z01)<|wC (sh<|jd K)<|wC (sh<|isL<|qD K)<|wC (sh<|isL<|isU K) wN) (rs isB)<|fun a=>lZ a.1 a.2.1 a.2.2.1 a.2.2.2.1))(Z3j:Cal P w K mg base "_law_pick" ["_law_cards","_law_row_here"] (3) (cb (isL<|qA K) isS (ro<|qB K) ow))(Z0f:Cls K Z01)(Z1q:mg "dict"=none)(Z07:mg "isinstance"=none)(Z0Z:mg "list"=none)(Z1w:mg "range"=none)(Z63:mg "str"=none):FnOk P w K mg base CX0 (28) f fd ["_law_script"] (eA (isScr K) (rs isB)<|pV ir vg wI wJ wL wM rg m7 ou lZ ow):=by
 have SC:FnScope ["_law_script","_law_width","_law_draft_here","_law_most_here","_law_spools_here","_law_hand","_law_lengths","_law_loom","_law_state","_law_band","_law_done","_law_k","_law_row_here","_law_later","_law_found"] ["_law_script"] (defScope<|tp 57):=by walk_at "F"
 refine F.ok SC (fun vs H Q E h=>?_)<|fun cdv A outer s H vs Q E hr h=>?_;·obtain⟨_,_,_,_,rfl,_⟩:=h;rfl
 ·obtain⟨W0,Z0r,Z1S,rfl,rfl,Z02,Er,hq⟩:=h;refine⟨_,(a6 (fo 1<|ah bM a8<|ah aX (eK Z1k<|a4 (pv 0)<|a4 a8 a5) a8)
   (a6 (fo 2<|eK Z46<|a4 (pv 0)<|a4 a8<|a4 (pv 1) a5)
   (a6 (fo 3<|eK Z58<|a4 (eK Z1k<|a4 (pv 0)<|a4 a8 a5) a5)
   (a6 (fo 4<|eK Z3u<|a4 (pv 2)<|a4 (eK Z1k<|a4 (pv 0)<|a4 a8 a5) a5)
   (a6 (fo 5 (bW (cT (K:=K) rfl) (by rfl) Z0Z Ee<|a4 (pv 2) a5))
   (a6 (fo 6 (bW fy (by rfl) Z1q Fm<|a4 (pv 4) a5))
   (a6 (fo 7 (lX Za7 (hr.mono (by decide)) (by rfl)<|a4 (pv 5)<|a4 (pv 3)<|a4 (pv 6) a5))
   (a6 (bG (JQ<|kC (dw<|bY<|eK Z0D<|a4 (pv 5)<|a4 (pv 2) a5)<|jq<|bc (yT hr.units0) (pv 6) (pv 4)<|aY _) (af<|aq eE) aI)
   (a6 (ef<|oY (K:=K) rfl FL GP Ih mw<|pv 5)
   (a6 (ef<|wD<|pv 6)
   (a6 (fo 8<|eK Z47<|a4 (pv 2)<|a4 (pv 4) a5)
   (a6 (fo 9<|cB a5)
   (a6 (fo 10<|cB a5)
   (a6 (dD Ea rfl (gH rfl Z1w<|a4 (ah aX (eK Z1k<|a4 (pv 0)<|a4 a8 a5) a8) a5) (hW 11) (a6 (fo 12<|eK Z35<|a4 (eK Z1k<|a4 (pv 0)<|a4 (ah bM a8<|pv 11) a5)<|a4 (pv 1) a5)
   (a6 (fo 13<|eK Z48<|a4 (pv 8)<|a4 (pv 12)<|a4 (pv 3) a5)
   (a6 (fo 14<|eK Z49<|a4 (pv 7)<|a4 (pv 12) a5)
   (a6 (bG (bY (aj (br (K:=K) rfl) (by rfl) Z07 CV (a4 (pv 13) (a4 (d9 (v:=.ty "str") (by rfl) Z63 GS rfl) a5)))) (af<|bG (dw<|bY<|eK Z0D<|a4 (pv 14)<|a4 (bC<|a4 aG<|a4 (cB<|a4 (pv 13) a5) a5) a5) (af<|aq eE) aI) (a6 (fo 8<|pv 13)
   (a6 (bG (dw<|bY<|eK Z0D<|a4 (pv 14)<|a4 (bC<|a4 aG<|a4 (eK Z3j<|a4 (bj (bP (K:=K) rfl) (pv 8) a8<|fun _ _=>rfl)<|a4 (pv 12) a5) a5) a5) (af<|aq eE) aI)
   (a6 (ef<|oY (K:=K) rfl FL GP Ih mw<|bj (bP (K:=K) rfl) (pv 14) a8<|fun _ _=>rfl)
   (a6 (ef<|eX (K:=K) rfl (pv 9)<|a4 (eK Z3j<|a4 (bj (bP (K:=K) rfl) (pv 8) a8<|fun _ _=>rfl)<|a4 (pv 12) a5) a5)
   (af (ef (eX (K:=K) rfl (pv 10) (a4 (bC (a4 aG (a4 (pv 12) a5))) a5)))))))))
   (af (bG (JQ (jr (bc dm (ah aX (pv 11) a8) a8 (aY _)) (hX (dw (bY (eK Z2x (a4 (pv 7) (a4 (pv 8) (a4 (pv 9) (a4 (pv 10) a5)))))))))) (af (aq eE)) aI)))))))
   (af (aq (eK Z2x (a4 (pv 7) (a4 (pv 8) (a4 (pv 9) (a4 (pv 10) a5))))))))))))))))))))),?_⟩
  have E0:Ext W0 W0:=.refl W0;unfold pV at hq;refine av (Er:=Er) (bx ao (aD (fun _=>by decide)<|bt (bz Z02) ao))<|(CH hq).imp fun y5 hq v6 W1 e2 h7=>?_;cases h7;have E0:=E0.trans e2;have Z02:=CJ e2.g Z02;refine av (Er:=Er) (EF<|gJ (bz Z02) ao bR)<|(CH hq).imp fun y10 hq v11 W8 e9 h12=>?_;have E0:=E0.trans e9;have Z02:=CJ e9.g Z02;refine av (Er:=Er) (dM<|bt (bz Z02) ao)<|(CH hq).imp fun y16 hq v17 W13 e14 h18=>?_;cases h18;have E0:=E0.trans e14;have Z02:=CJ e14.g Z02;have h12:=CJ e14.g h12;refine av (Er:=Er) (bt (bz h12)<|bt (bz Z02) ao)<|(CH hq).imp fun y22 hq v23 W19 e20 h24=>?_;have E0:=E0.trans e20;have Z02:=CJ e20.g Z02;have h12:=CJ e20.g h12;have S:Sep W0 W19 []:=Sep.nil;refine fw (Er:=Er) S E0 (EVo.tr<|fq<|FN<|bz h12)<|fun v25 W26 e27 S=>?_;have E0:=E0.trans e27;have Z02:=CJ e27.g Z02;have h12:=CJ e27.g h12;have h24:=CJ e27.g h24;have S:Sep W0 W26 [tc (oL<|fz<|qA K) y10 v25]:=S;refine fw (Er:=Er) S E0 (EVd.tr<|gq<|Jw<|bz h24)<|fun v28 W29 e30 S=>?_;have E0:=E0.trans e30;have Z02:=CJ e30.g Z02;have h12:=CJ e30.g h12;have h24:=CJ e30.g h24;have S:Sep W0 W29 [tc (oL<|fz<|qA K) y10 v25,tc (oDk (fun(a:Tx)=>Ds<|sOf a) isI) y22 v28]:=S;refine fw (Er:=Er) S E0 (ud<|bu (R:=(pk<|qA K)) (jj<|fh (R:=(oL<|fz<|qA K)) (k:=0) S)<|bu (R:=(sh isI)) bR<|bu (R:=(pkD (fun(a:Tx)=>Ds<|sOf a) isI)) (n0<|fh (R:=(oDk (fun(a:Tx)=>Ds<|sOf a) isI)) (k:=1) S) cz)<|(CH hq).imp fun y31 hq v32 W33 e34 S=>?_;have E0:=E0.trans e34;have Z02:=CJ e34.g Z02;have h12:=CJ e34.g h12;have h24:=CJ e34.g h24;have S:Sep W0 W33 [tc (oL<|fz<|qA K) y10 v25,tc (oDk (fun(a:Tx)=>Ds<|sOf a) isI) y22 v28,tc (ae K Z00 Z01) y31 v32]:=S;refine bL (Er:=Er) (fx (R:=(oL<|fz<|qA K)) 0 S E0 rfl fun W35 hS36 E0 S h37=>(have S:Sep W0 W35 [tc (oDk (fun(a:Tx)=>Ds<|sOf a) isI) y22 v28,tc (ae K Z00 Z01) y31 v32]:=S;have h12:=CJ (R:=(isL<|qA K)) hS36 h12;have h24:=CJ (R:=la) hS36 h24;(p7 (dY (gb (ft (by decide) (bz h37)<|bz h12)))<|bq<|yU (g:=(fun(a:Tx)=>Ds<|sOf a)) (b:=false) (n0<|fh (R:=(oDk (fun(a:Tx)=>Ds<|sOf a) isI)) (k:=0) S)<|Jw<|bz h24)))<|(CH hq).imp fun y40 hq W41 e42=>?_;have S:=S.ext e42;have E0:=E0.trans e42;have Z02:=CJ e42.g Z02;have h12:=CJ e42.g h12;have h24:=CJ e42.g h24;by_cases hb199:y40=true
  ·rw[if_pos hb199]at hq ⊢;exact aw (Er:=Er) gV<|fun v43 W44 e45 h46=>hq v43 W44 (E0.trans e45) h46
  ·rw[if_neg hb199]at hq ⊢
   try dsimp only[aA]
   refine qS (Er:=Er) (K:=K) E0 (o8 (R:=(oL<|fz<|qA K)) (C:=fun bb=>[tc (oL<|fz<|qA K) bb v25,tc (oDk (fun(a:Tx)=>Ds<|sOf a) isI) y22 v28,tc (ae K Z00 Z01) y31 v32]) (k:=0) S E0)<|(CH hq).imp fun y47 hq W48 hS49 E0 S=>?_;have S:Sep W0 W48 [tc (oL<|fz<|qA K) y47 v25,tc (oDk (fun(a:Tx)=>Ds<|sOf a) isI) y22 v28,tc (ae K Z00 Z01) y31 v32]:=S;have Z02:=CJ hS49 Z02;have h12:=CJ hS49 h12;have h24:=CJ hS49 h24;refine r9 (k:=1) S E0 rfl<|fun W50 hS51 E0 S=>?_;have S:Sep W0 W50 [tc (oL<|fz<|qA K) y47 v25,tc (ae K Z00 Z01) y31 v32]:=S;have Z02:=CJ hS51 Z02;have h12:=CJ hS51 h12;have h24:=CJ hS51 h24;refine av (Er:=Er) (bt (bz h12)<|bz h24)<|(CH hq).imp fun y54 hq v55 W52 e53 h56=>?_;have S:=S.ext e53;have E0:=E0.trans e53;have Z02:=CJ e53.g Z02;refine fw (Er:=Er) S E0 (gj (R:=(fz<|qD K)))<|fun v57 W58 e59 S=>?_;have E0:=E0.trans e59;have Z02:=CJ e59.g Z02;have h56:=CJ e59.g h56;have S:Sep W0 W58 [tc (oL<|fz<|qA K) y47 v25,tc (ae K Z00 Z01) y31 v32,tc (oL<|fz<|qD K) ([]:List (List Pl)) v57]:=S;refine fw (Er:=Er) S E0 (gj (R:=(fz<|isU K)))<|fun v60 W61 e62 S=>?_;have E0:=E0.trans e62;have Z02:=CJ e62.g Z02;have h56:=CJ e62.g h56;have S:Sep W0 W61 [tc (oL<|fz<|qA K) y47 v25,tc (ae K Z00 Z01) y31 v32,tc (oL<|fz<|qD K) ([]:List (List Pl)) v57,tc (oL<|fz<|isU K) ([]:List Dat) v60]:=S;refine iK (Er:=Er) (f:=(gr ir rg m7 ou lZ ow Z0r y5 y16)) (s0:=(y54,y31,([]:List (List Pl)),([]:List Dat))) (Iv:=fun(s67:(jX×Z03×(List<|List Pl)×(List Dat)))(W68:Wd)(g69:St)=>∃(v70:V)(d72:Option V)(d73:Option V)(d74:Option V)(d75:Option V),g69=[some Z1S,some<|.int y5,some v11,some<|.int y16,some v23,some v25,some v28,some v32,some v70,some v57,some v60,d75,d72,d73,d74]/\Ext W0 W68/\(jd K) W68.G s67.1 v70/\Sep W0 W68 [tc (oL<|fz<|qA K) y47 v25,tc (ae K Z00 Z01) s67.2.1 v32,tc (oL<|fz<|qD K) s67.2.2.1 v57,tc (oL<|fz<|isU K) s67.2.2.2 v60]) (ia (aD (fun _=>by decide)<|bt (bz Z02) ao)) (CH hq) ?_ ?_ ?_
   ·intro W87 e88;have S:=S.ext e88;have E0:=E0.trans e88;have Z02:=CJ e88.g Z02;have h56:=CJ e88.g h56;exact⟨_,_,_,_,_,rfl,E0,h56,S⟩
   ·intro Wb76 W77 W78 a65 v79 s66 sg80 P81 hW82 hB83 iv e84 h85 hrt86 hq;obtain⟨v70,d72,d73,d74,d75,rfl,E0,h71,S⟩:=iv;have Z02:=CJ hW82 Z02;have S:=S.ext e84;have E0:=E0.trans e84;have hB83:=hB83.trans e84.g;have Z02:=CJ e84.g Z02;have h71:=CJ e84.g h71;cases h85;refine gn (σ':=[some Z1S,some<|.int y5,some v11,some<|.int y16,some v23,some v25,some v28,some v32,some v70,some v57,some v60,some<|.int a65,d72,d73,d74]) ?_;unfold gr at hq;refine av (Er:=Er) (bt (bt (bz Z02)<|bx ao bR) bR)<|(CH hq).imp fun y94 hq v95 W91 e92 h96=>?_;cases h96;have S:=S.ext e92;have E0:=E0.trans e92;have hB83:=hB83.trans e92.g;have Z02:=CJ e92.g Z02;have h71:=CJ e92.g h71;refine av (Er:=Er) (sO (bz h71) cO bR)<|(CH hq).imp fun y99 hq v100 W97 e98 h101=>?_;have S:=S.ext e98;have E0:=E0.trans e98;have hB83:=hB83.trans e98.g;have Z02:=CJ e98.g Z02;have h71:=CJ e98.g h71;refine om (Er:=Er) (k:=1) (j:=14) S E0 rfl rfl (cF cO lW)<|(CH hq).imp fun y102 hq v103 W104 E0 hS105 S=>?_;have S:Sep W0 W104 [tc (oL<|fz<|qA K) y47 v25,tc (ae K Z00 Z01) y102.1 v32,tc (oL<|fz<|qD K) s66.2.2.1 v57,tc (oL<|fz<|isU K) s66.2.2.2 v60,tc (oUn K [119,111,118,101,110]) y102.2 v103]:=S;have hB83:=hB83.trans hS105;have Z02:=CJ hS105 Z02;have h71:=CJ hS105 h71;have h101:=CJ hS105 h101;refine bL (Er:=Er) (gb<|uh (K:=K) yQ<|bz h101)<|fun W107 e108=>?_;have S:=S.ext e108;have E0:=E0.trans e108;have hB83:=hB83.trans e108.g;have Z02:=CJ e108.g Z02;have h71:=CJ e108.g h71;have h101:=CJ e108.g h101;by_cases hb109:((y99).isLeft)=true
    ·rw[if_pos hb109]at hq ⊢;obtain⟨W110,hH111,E0,hS112,S,h113⟩:=M8 (R:=(oUn K [119,111,118,101,110])) (i:=4) S E0 rfl;rw[<-hH111];have S:Sep W0 W110 [tc (oL<|fz<|qA K) y47 v25,tc (ae K Z00 Z01) y102.1 v32,tc (oL<|fz<|qD K) s66.2.2.1 v57,tc (oL<|fz<|isU K) s66.2.2.2 v60]:=S;have hB83:=hB83.trans hS112;have Z02:=CJ hS112 Z02;have h71:=CJ hS112 h71;have h101:=CJ hS112 h101;refine kX (Er:=Er) (dY (gb (jL (by decide) (bz h113) (gi (K:=K) (u:=fun(z:Tx×(List Tx))=>II [Fv z.1,JS<|z.2.map fun(z:Tx)=>Fv z]) (mS eY<|mR (u:=fun(z:Tx)=>Fv z) eY) (bQ (K:=K) (aJ (x:=CS "refused") (l:=[114,101,102,117,115,101,100]) (eL _ _ (by decide +kernel)))<|EF<|ed<|bw (yO (R1:=isS) (R2:=(jd K))<|bz h101)<|dZ (R:=isS))))))<|(CH hq).imp fun y119 hq W120 e121=>?_;have S:=S.ext e121;have E0:=E0.trans e121;have hB83:=hB83.trans e121.g;have Z02:=CJ e121.g Z02;have h71:=CJ e121.g h71;have h101:=CJ e121.g h101;have h113:=CJ e121.g h113;by_cases hb139:y119=true
     ·rw[if_pos hb139]at hq ⊢;exact aw (Er:=Er) gV<|fun v122 W123 e124 h125=>(hrt86 _ hq) v122 W123 (E0.trans e124) h125
     ·rw[if_neg hb139]at hq ⊢
      try dsimp only[aA]
      try dsimp only
      refine kX (Er:=Er) (fx (R:=(oL<|fz<|qD K)) 2 S E0 rfl fun W126 hS127 E0 S h128=>(have S:Sep W0 W126 [tc (oL<|fz<|qA K) y47 v25,tc (ae K Z00 Z01) y102.1 v32,tc (oL<|fz<|isU K) s66.2.2.2 v60]:=S;have h71:=CJ (R:=(jd K)) hS127 h71;(fx (R:=(oL<|fz<|isU K)) 2 S E0 rfl fun W129 hS130 E0 S h131=>(have S:Sep W0 W129 [tc (oL<|fz<|qA K) y47 v25,tc (ae K Z00 Z01) y102.1 v32]:=S;have h71:=CJ (R:=(jd K)) hS130 h71;have h128:=CJ (R:=(isL<|qD K)) hS130 h128;(lP (bq (dJ (aD (fun _=>by decide) bR) ao))<|dY<|gb<|ip<|bu (R:=(vw<|ae K Z00 Z01)) (fh (R:=(ae K Z00 Z01)) (k:=1) S)<|bu (R:=(sh<|jd K)) (bz h71)<|bu (R:=(sh<|isL<|qD K)) (bz h128)<|bu (R:=(sh<|isL<|isU K)) (bz h131) cz)))))<|(CH hq).imp fun y133 hq W134 e135=>?_;have S:=S.ext e135;have E0:=E0.trans e135;have hB83:=hB83.trans e135.g;have Z02:=CJ e135.g Z02;have h71:=CJ e135.g h71;have h101:=CJ e135.g h101;have h113:=CJ e135.g h113;by_cases hb139:y133=true
      ·rw[if_pos hb139]at hq ⊢;exact aw (Er:=Er) gV<|fun v136 W137 e138 h139=>(hrt86 _ hq) v136 W137 (E0.trans e138) h139
      ·rw[if_neg hb139]at hq ⊢
       try dsimp only[aA]
       try dsimp only
       refine dO (W:=W134) (s66.1,y102.1,s66.2.2.1,s66.2.2.2) hB83 ?_ hq;exact⟨_,_,_,_,_,rfl,E0,h71,S⟩
    ·rw[if_neg hb109]at hq ⊢;refine av (Er:=Er) (yP (R1:=isS) (R2:=(jd K))<|bz h101)<|(CH hq).imp fun y142 hq v143 W140 e141 h144=>?_;have S:=S.ext e141;have E0:=E0.trans e141;have hB83:=hB83.trans e141.g;have Z02:=CJ e141.g Z02;have h101:=CJ e141.g h101;refine bL (Er:=Er) (fx (R:=(oUn K [119,111,118,101,110])) 4 S E0 rfl fun W145 hS146 E0 S h147=>(have S:Sep W0 W145 [tc (oL<|fz<|qA K) y47 v25,tc (ae K Z00 Z01) y102.1 v32,tc (oL<|fz<|qD K) s66.2.2.1 v57,tc (oL<|fz<|isU K) s66.2.2.2 v60]:=S;have h144:=CJ (R:=(jd K)) hS146 h144;(dY (gb (jL (by decide) (bz h147) (gi (K:=K) (u:=fun(z:Tx×(List Pl))=>II [Fv z.1,JS<|z.2.map fun(z:Pl)=>II [Fv z.1,Fv z.2.1,Fv z.2.2]]) (mS eY<|mR (u:=fun(z:Pl)=>II [Fv z.1,Fv z.2.1,Fv z.2.2])<|xD eY eY eY) (bQ (K:=K) (aJ (x:=CS "woven") (l:=[119,111,118,101,110]) (eL _ _ (by decide +kernel)))<|EF<|kU (cK (f:=fun(b:(List Cd)×(List Int)×(List Int)×di)=>b.1) wa<|bz h144) cO)))))))<|(CH hq).imp fun y152 hq W153 e154=>?_;have S:=S.ext e154;have E0:=E0.trans e154;have hB83:=hB83.trans e154.g;have Z02:=CJ e154.g Z02;have h101:=CJ e154.g h101;have h144:=CJ e154.g h144;by_cases hb181:y152=true
     ·rw[if_pos hb181]at hq ⊢;exact aw (Er:=Er) gV<|fun v155 W156 e157 h158=>(hrt86 _ hq) v155 W156 (E0.trans e157) h158
     ·rw[if_neg hb181]at hq ⊢
      try dsimp only[aA]
      refine oq (Er:=Er) (K:=K) (s:=[119,111,118,101,110]) (k:=4) (i:=14) S E0 rfl<|(CH hq).imp fun _ hq W159 hS160 E0 S=>?_;have S:Sep W0 W159 [tc (oL<|fz<|qA K) y47 v25,tc (ae K Z00 Z01) y102.1 v32,tc (oL<|fz<|qD K) s66.2.2.1 v57,tc (oL<|fz<|isU K) s66.2.2.2 v60]:=S;have hB83:=hB83.trans hS160;have Z02:=CJ hS160 Z02;have h101:=CJ hS160 h101;have h144:=CJ hS160 h144;refine qT (Er:=Er) (K:=K) (C:=fun bb=>[tc (oL<|fz<|qA K) y47 v25,tc (ae K Z00 Z01) y102.1 v32,tc (oL<|fz<|qD K) bb v57,tc (oL<|fz<|isU K) s66.2.2.2 v60]) (k:=2) (i:=9) S E0 (EF<|kU (cK (f:=fun(b:(List Cd)×(List Int)×(List Int)×di)=>b.1) wa<|bz h144) cO)<|(CH hq).imp fun y162 hq W163 hS164 E0 S=>?_;have S:Sep W0 W163 [tc (oL<|fz<|qA K) y47 v25,tc (ae K Z00 Z01) y102.1 v32,tc (oL<|fz<|qD K) y162 v57,tc (oL<|fz<|isU K) s66.2.2.2 v60]:=S;have hB83:=hB83.trans hS164;have Z02:=CJ hS164 Z02;have h101:=CJ hS164 h101;have h144:=CJ hS164 h144;refine pL (Er:=Er) (K:=K) (C:=fun bb=>[tc (oL<|fz<|qA K) y47 v25,tc (ae K Z00 Z01) y102.1 v32,tc (oL<|fz<|qD K) y162 v57,tc (oL<|fz<|isU K) bb v60]) (k:=3) (i:=10) S E0 (gi (K:=K) (mS eY eY) (bQ (K:=K) (aJ (x:=CS "row") (l:=[114,111,119]) (eL _ _ (by decide +kernel))) cO))<|(CH hq).imp fun y165 hq W166 hS167 E0 S=>?_;have S:Sep W0 W166 [tc (oL<|fz<|qA K) y47 v25,tc (ae K Z00 Z01) y102.1 v32,tc (oL<|fz<|qD K) y162 v57,tc (oL<|fz<|isU K) y165 v60]:=S;have hB83:=hB83.trans hS167;have Z02:=CJ hS167 Z02;have h101:=CJ hS167 h101;have h144:=CJ hS167 h144
      try dsimp only
      refine kX (Er:=Er) (fx (R:=(oL<|fz<|qD K)) 2 S E0 rfl fun W168 hS169 E0 S h170=>(have S:Sep W0 W168 [tc (oL<|fz<|qA K) y47 v25,tc (ae K Z00 Z01) y102.1 v32,tc (oL<|fz<|isU K) y165 v60]:=S;have h144:=CJ (R:=(jd K)) hS169 h144;(fx (R:=(oL<|fz<|isU K)) 2 S E0 rfl fun W171 hS172 E0 S h173=>(have S:Sep W0 W171 [tc (oL<|fz<|qA K) y47 v25,tc (ae K Z00 Z01) y102.1 v32]:=S;have h170:=CJ (R:=(isL<|qD K)) hS172 h170;have h144:=CJ (R:=(jd K)) hS172 h144;(lP (bq (dJ (aD (fun _=>by decide) bR) ao))<|dY<|gb<|ip<|bu (R:=(vw<|ae K Z00 Z01)) (fh (R:=(ae K Z00 Z01)) (k:=1) S)<|bu (R:=(sh<|jd K)) (bz h144)<|bu (R:=(sh<|isL<|qD K)) (bz h170)<|bu (R:=(sh<|isL<|isU K)) (bz h173) cz)))))<|(CH hq).imp fun y175 hq W176 e177=>?_;have S:=S.ext e177;have E0:=E0.trans e177;have hB83:=hB83.trans e177.g;have Z02:=CJ e177.g Z02;have h101:=CJ e177.g h101;have h144:=CJ e177.g h144;by_cases hb181:y175=true
      ·rw[if_pos hb181]at hq ⊢;exact aw (Er:=Er) gV<|fun v178 W179 e180 h181=>(hrt86 _ hq) v178 W179 (E0.trans e180) h181
      ·rw[if_neg hb181]at hq ⊢
       try dsimp only[aA]
       try dsimp only
       refine dO (W:=W176) (y142,y102.1,y162,y165) hB83 ?_ hq;exact⟨_,_,_,_,_,rfl,E0,h144,S⟩
   ·intro s183 W184 sg185 hS186 iv hq;obtain⟨v70,d72,d73,d74,d75,rfl,E0,h71,S⟩:=iv;obtain⟨W187,hH188,E0,hS189,S,h190⟩:=M8 (R:=(oL<|fz<|qD K)) (i:=2) S E0 rfl;rw[<-hH188];have S:Sep W0 W187 [tc (oL<|fz<|qA K) y47 v25,tc (ae K Z00 Z01) s183.2.1 v32,tc (oL<|fz<|isU K) s183.2.2.2 v60]:=S;have h71:=CJ hS189 h71;obtain⟨W191,hH192,E0,hS193,S,h194⟩:=M8 (R:=(oL<|fz<|isU K)) (i:=2) S E0 rfl;rw[<-hH192];have S:Sep W0 W191 [tc (oL<|fz<|qA K) y47 v25,tc (ae K Z00 Z01) s183.2.1 v32]:=S;have h71:=CJ hS193 h71;have h190:=CJ hS193 h190;exact aw (Er:=Er) (ip<|bu (R:=(vw<|ae K Z00 Z01)) (fh (R:=(ae K Z00 Z01)) (k:=1) S)<|bu (R:=(sh<|jd K)) (bz h71)<|bu (R:=(sh<|isL<|qD K)) (bz h190)<|bu (R:=(sh<|isL<|isU K)) (bz h194) cz)<|Dk hq fun y195 hq v196 W197 e198 h199=>hq v196 W197 (E0.trans e198) h199
end
end Wb
namespace Wb
open PySem L2
section
variable{P:Dg}{w:Dr}{K:CL}{mg:Str->Option CN}{base:Heap}
theorem wW{f:Addr}{fd:Df}{ps:List Str}{k:Nat}:FnOk P w K mg base CX0 k f fd ps (fg K 0):=⟨fun _ _ _ _ h=>h.elim,fun _ _ _ _ _ _ _ _ _ _ _ _ _ h=>h.elim⟩
theorem kit{K:CL}(a b:String)(r:Bool)(h:DD [] (.type a) (.type b)=some r):DD K (.type a) (.type b)=some r:=by first|exact h|(rw[<-h];rfl)
theorem gz{c:TT}{t rest:TS}{D:Ends}{σ:St}{H:Hp}(h:∀Q:Bool->Hp->Prop,Q false H->c σ H Q)(k:rest D σ H):dC (j5 c t aA) rest D σ H:=h _ k
theorem ng{c:TT}{t rest:TS}{D:Ends}{σ:St}{H:Hp}(h:∀Q:Bool->Hp->Prop,Q true H->c σ H Q)(k:t {D with nx:=rest D} σ H):dC (j5 c t aA) rest D σ H:=h _ k
local macro_rules | `(tactic|walk_at "S0")=>`(tactic|simp only[cQ,bH,dh,ba,tC,eo,ag,aH,cq,aA,bS,aF,cA,bg,cI,tB,fJ,rU,fc,rI,cu,cJ,aK,aV,fQ,cU,fP,cV,bE,bF,fE,bI,aE,eG,cC,aQ,bA,aZ,fK,fR,cW,cY,cG,cH,cX,ay,aR,L2.start,DO,G8,Ij,Gh,DK,DW,FY,Dh,HG,HH,GA,GB,HW,exists_eq_left',exists_eq_left,exists_and_left,exists_eq',exists_const,FC.injEq,LG.injEq,GU.injEq,V.ref.injEq,V.ty.injEq,IH,and_true,true_and,reduceCtorEq,false_and,and_false,exists_false,or_false,false_or,decide_eq_true_eq,GL,decide_eq_false_iff_not,if_true,if_false,Ed,ite_true,ite_false,Jh,J5,Ji,Jj,and_assoc])
local macro_rules | `(tactic|walk_at "S1")=>`(tactic|simp only[cQ,dC,j5,bH,dh,ba,tC,eo,ag,aH,cq,aA,bS,aF,cA,bg,cI,tB,fJ,rU,fc,rI,cu,cJ,aK,aV,fQ,cU,fP,cV,bE,bF,fE,bI,aE,eG,cC,aQ,bA,aZ,fK,fR,cW,cY,cG,cH,cX,ay,aR,L2.start,DO,G8,Ij,Gh,DK,DW,FY,Dh,HG,HH,GA,GB,HW,exists_eq_left',exists_eq_left,exists_and_left,exists_eq',exists_const,FC.injEq,LG.injEq,GU.injEq,V.ref.injEq,V.ty.injEq,IH,and_true,true_and,reduceCtorEq,false_and,and_false,exists_false,or_false,false_or,decide_eq_true_eq,GL,decide_eq_false_iff_not,if_true,if_false,Ed,ite_true,ite_false,Jh,J5,Ji,Jj,and_assoc])
theorem uE{f:Addr}{fd:Df}(F:Fun K "_law_same" "_law_same" (tp 53) f fd)(Z0P:mg "len"=none)(Z07:mg "isinstance"=none)(Z6G:mg "bool"=none)(Z3i:mg "int"=none)(Z63:mg "str"=none)(Z0Z:mg "list"=none)(Z7f:mg "tuple"=none)(Z1b:mg "zip"=none){n:Nat}
  (Z0D:Cal P w K mg base "_law_same" ["_law_found","_law_due"] n (fg K n)):FnOk P w K mg base CX0 (n+1) f fd ["_law_found","_law_due"] (fg K<|n+1):=by
 have SC:FnScope ["_law_found","_law_due","_law_one","_law_other"] ["_law_found","_law_due"] (defScope<|tp 53):=by walk_at "F"
 refine F.ok SC (fun vs H Q E h=>?_)<|fun cdv A outer s H vs Q E hr h=>?_;·obtain⟨v,u,rfl,_⟩:=h;rfl
 ·obtain⟨v,u,rfl,h⟩:=h;have hr:Room n _:=hr
  refine⟨_,(a6 (bG (JQ<|kC (bc (op_isN.or jA) (pv 1) lq<|aY _)<|kC (bc (op_isN.or jA) (pv 1) eE<|aY _)<|jq<|bc (op_isN.or jA) (pv 1) eE<|aY _) (af (aq (js (dE dm (aj (br (K:=K) rfl) (by rfl) Z07 CV (a4 (pv 0) (a4 (d9 (v:=.ty "bool") (by rfl) Z6G GN rfl) a5))) (aj (br (K:=K) rfl) (by rfl) Z07 CV (a4 (pv 1) (a4 (d9 (v:=.ty "bool") (by rfl) Z6G GN rfl) a5)))<|aY _)<|lu<|dE dm (pv 0) (pv 1)<|aY _))) aI)
   (a6 (bG (bY (aj (br (K:=K) rfl) (by rfl) Z07 CV (a4 (pv 1) (a4 (d9 (v:=.ty "int") (by rfl) Z3i G1 rfl) a5)))) (af (aq (js (aj (br (K:=K) rfl) (by rfl) Z07 CV (a4 (pv 0) (a4 (d9 (v:=.ty "int") (by rfl) Z3i G1 rfl) a5))) (js (ny (aj (br (K:=K) rfl) (by rfl) Z07 CV (a4 (pv 0) (a4 (d9 (v:=.ty "bool") (by rfl) Z6G GN rfl) a5))))<|lu<|dE dm (pv 0) (pv 1)<|aY _)))) aI)
   (a6 (bG (bY (aj (br (K:=K) rfl) (by rfl) Z07 CV (a4 (pv 1) (a4 (d9 (v:=.ty "str") (by rfl) Z63 GS rfl) a5)))) (af (aq (js (aj (br (K:=K) rfl) (by rfl) Z07 CV (a4 (pv 0) (a4 (d9 (v:=.ty "str") (by rfl) Z63 GS rfl) a5)))<|lu<|dE dm (pv 0) (pv 1)<|aY _))) aI)
   (a6 (bG (JQ (jr (bY (aj (br (K:=K) rfl) (by rfl) Z07 CV (a4 (pv 1) (a4 (d9 (v:=.ty "list") (by rfl) Z0Z Ee rfl) a5)))) (hX (dw (bY (aj (br (K:=K) rfl) (by rfl) Z07 CV (a4 (pv 0) (a4 (d9 (v:=.ty "list") (by rfl) Z0Z Ee rfl) a5)))))))) (af<|aq eE) aI)
   (a6 (bG (JQ (jr (bY (aj (br (K:=K) rfl) (by rfl) Z07 CV (a4 (pv 1) (a4 (d9 (v:=.ty "tuple") (by rfl) Z7f Ik rfl) a5)))) (hX (dw (bY (aj (br (K:=K) rfl) (by rfl) Z07 CV (a4 (pv 0) (a4 (d9 (v:=.ty "tuple") (by rfl) Z7f Ik rfl) a5)))))))) (af<|aq eE) aI)
   (a6 (bG (bc xr (aj (bX (K:=K) rfl) (by rfl) Z0P Ei<|a4 (pv 0) a5) (aj (bX (K:=K) rfl) (by rfl) Z0P Ei<|a4 (pv 1) a5)<|aY _) (af<|aq eE) aI)
   (a6 (dD Ea rfl (eI (K:=K) rfl rfl Z1b<|a4 (pv 0)<|a4 (pv 1) a5) (cy (K:=K) (n:=2) rfl rfl (au (aP (i:=2) SC.nd rfl (by walk_at "L")) (au (aP (i:=3) SC.nd rfl (by walk_at "L")) cj))) (af (bG (dw (bY (sC Z0D hr (by rfl)<|a4 (pv 2)<|a4 (pv 3) a5))) (af<|aq eE) aI)))
   (af (aq eE))))))))),?_⟩
  rcases h with⟨he,q⟩|⟨x,y,rfl,rfl,q⟩
  rotate_left
  ·refine gz (fun Q q=>?_)<|gz (fun Q q=>?_)<|ng (fun Q q=>?_) ?_;·walk_at "S0";exact q
   ·walk_at "S0";exact⟨_,.str _,_,kit "str" "int" false rfl,q⟩
   ·walk_at "S0";exact⟨_,.str _,_,kit "str" "str" true rfl,q⟩
   ·walk_at "S0";refine⟨_,.str _,_,kit "str" "str" true rfl,?_⟩;walk_at "S0";simpa using q
  have fl:∀v,L2.flat v=true->(∀H',Same H H'->Q (.bl true) H')->(v=.non\/(∃b,v=.bl b)\/(∃i,v=.int i)\/∃x,v=.str x):=fun v hv _=>by
   cases v with
   |non=>exact .inl rfl
   |bl b=>exact .inr<|.inl ⟨b,rfl⟩
   |int b=>exact .inr<|.inr<|.inl ⟨b,rfl⟩
   |str b=>exact .inr<|.inr<|.inr ⟨b,rfl⟩
   |_=>cases hv
  have he':(v=u/\L2.flat v=true)\/∃m p q xs ys,n=m+1/\v=.ref p/\u=.ref q/\((H p=some (.lst xs)/\H q=some (.lst ys))\/(SqT K H p xs/\SqT K H q ys))/\xs.length=ys.length/\∀(i:Nat)(x y:V),xs[i]? =some x->ys[i]? =some y->EqK K H m x y:=by
   cases n with
   |zero=>exact .inl he
   |succ m=>rcases he with z|⟨p,q,xs,ys,z⟩;exact .inl z;exact .inr ⟨m,p,q,xs,ys,rfl,z⟩
  rcases he' with⟨rfl,hf⟩|⟨m,p,q',xs,ys,hnm,rfl,rfl,hk,hl,hi⟩
  ·rcases fl v hf q with rfl | ⟨b,rfl⟩ | ⟨i,rfl⟩ | ⟨x,rfl⟩
   ·refine ng (fun Q q=>?_) ?_;·walk_at "S0";exact q
    ·walk_at "S0";refine⟨_,.non,_,kit "NoneType" "bool" false rfl,_,.non,_,kit "NoneType" "bool" false rfl,?_⟩;walk_at "S0";exact q H<|.refl H
   ·refine ng (fun Q q=>?_) ?_;·cases b<;>walk_at "S0"<;>exact q
    ·walk_at "S0";refine⟨_,.bl _,_,kit "bool" "bool" true rfl,_,.bl _,_,kit "bool" "bool" true rfl,?_⟩;walk_at "S0";exact q H<|.refl H
   ·refine gz (fun Q q=>?_)<|ng (fun Q q=>?_) ?_;·walk_at "S0";exact q
    ·walk_at "S0";exact⟨_,.int _,_,kit "int" "int" true rfl,q⟩
    ·walk_at "S0";refine⟨_,.int _,_,kit "int" "int" true rfl,?_⟩;walk_at "S0";refine⟨_,.int _,_,kit "int" "bool" false rfl,?_⟩;walk_at "S0";exact q H<|.refl H
   ·refine gz (fun Q q=>?_)<|gz (fun Q q=>?_)<|ng (fun Q q=>?_) ?_;·walk_at "S0";exact q
    ·walk_at "S0";exact⟨_,.str _,_,kit "str" "int" false rfl,q⟩
    ·walk_at "S0";exact⟨_,.str _,_,kit "str" "str" true rfl,q⟩
    ·walk_at "S0";refine⟨_,.str _,_,kit "str" "str" true rfl,?_⟩;walk_at "S0";exact q H<|.refl H
  ·subst hnm;obtain⟨T,tp1,tp2,tl,src1,src2,h1,h2,e1,e2⟩:∃(T:String)(tp1:TyOf K H (.ref p) (.type T))(tp2:TyOf K H (.ref q') (.type T))(tl:(T="list"/\SqL K H p xs/\SqL K H q' ys)\/(T="tuple"/\SqT K H p xs/\SqT K H q' ys))(src1 src2:Src),(∀H',Same H H'->src1.has K H' xs)/\(∀H',Same H H'->src2.has K H' ys)/\src1.val=.ref p/\src2.val=.ref q':=by
    rcases hk with⟨a,b⟩|⟨a,b⟩
    ·exact⟨"list",.lst a,.lst b,.inl ⟨rfl,F6 a,F6 b⟩,.lst p,.lst q',fun H' e=>F6<|e _ _ a,fun H' e=>F6<|e _ _ b,rfl,rfl⟩
    ·exact⟨"tuple",.tup a,.tup b,.inr ⟨rfl,a,b⟩,.tup p,.tup q',fun H' e=>Hl e a,fun H' e=>Hl e b,rfl,rfl⟩
   have hi0:DD K (.type T) (.type "int")=some false:=by rcases tl with⟨rfl,_⟩|⟨rfl,_⟩;exact kit _ _ _ rfl;exact kit _ _ _ rfl
   have hs0:DD K (.type T) (.type "str")=some false:=by rcases tl with⟨rfl,_⟩|⟨rfl,_⟩;exact kit _ _ _ rfl;exact kit _ _ _ rfl
   obtain⟨bl,hl0,hl1⟩:∃bl,DD K (.type T) (.type "list")=some bl/\DD K (.type T) (.type "tuple")=some (!bl):=by rcases tl with⟨rfl,_⟩|⟨rfl,_⟩;exact⟨true,kit _ _ _ rfl,kit _ _ _ rfl⟩;exact⟨false,kit _ _ _ rfl,kit _ _ _ rfl⟩
   have ln1:mn K (.ref p) H xs.length:=by rcases tl with⟨_,t1,_⟩|⟨_,t1,_⟩;exact .inl ⟨_,t1,rfl⟩;exact .inr ⟨_,t1,rfl⟩
   have ln2:mn K (.ref q') H ys.length:=by rcases tl with⟨_,_,t2⟩|⟨_,_,t2⟩;exact .inl ⟨_,t2,rfl⟩;exact .inr ⟨_,t2,rfl⟩
   refine gz (fun Q q=>?_)<|gz (fun Q q=>?_)<|gz (fun Q q=>?_)<|gz (fun Q q=>?_)<|gz (fun Q q=>?_)<|gz (fun Q q=>?_) ?_;·walk_at "S0";exact q
   ·walk_at "S0";exact⟨_,tp2,_,hi0,q⟩
   ·walk_at "S0";exact⟨_,tp2,_,hs0,q⟩
   ·walk_at "S0";refine⟨_,tp2,_,hl0,?_⟩;cases bl with
    |false=>exact q
    |true=>walk_at "S0";exact⟨_,tp1,_,hl0,q⟩
   ·walk_at "S0";refine⟨_,tp2,_,hl1,?_⟩;cases bl with
    |true=>exact q
    |false=>walk_at "S0";exact⟨_,tp1,_,hl1,q⟩
   ·walk_at "S0";refine⟨_,ln1,_,ln2,?_⟩;simp only[hl,cQ,bH,dh,ba,tC,eo,ag,aH,cq,aA,bS,aF,cA,bg,cI,tB,fJ,rU,fc,rI,cu,cJ,aK,aV,fQ,cU,fP,cV,bE,bF,fE,bI,aE,eG,cC,aQ,bA,aZ,fK,fR,cW,cY,cG,cH,cX,ay,aR,L2.start,DO,G8,Ij,Gh,DK,DW,FY,Dh,HG,HH,GA,GB,HW,exists_eq_left',exists_eq_left,exists_and_left,exists_eq',exists_const,FC.injEq,LG.injEq,GU.injEq,V.ref.injEq,V.ty.injEq,IH,and_true,true_and,reduceCtorEq,false_and,and_false,exists_false,or_false,false_or,decide_eq_true_eq,GL,decide_eq_false_iff_not,if_true,if_false,Ed,ite_true,ite_false,Jh,J5,Ji,Jj,and_assoc];exact q
   ·walk_at "S1";refine⟨_,rfl,_,rfl,src1,src2,xs,ys,by rw[e1,e2],h1 H<|.refl H,h2 H<|.refl H,vQ (fun i σ H2=>Same H H2/\∃a b,σ=[some (.ref p),some<|.ref q',a,b]) ⟨.refl H,none,none,rfl⟩ (fun i σ H2⟨e,_⟩=>⟨h1 H2 e,h2 H2 e⟩) hl ?_ ?_⟩
    ·rintro i x y r σ H2 hx hy hr' ⟨e,a,b,rfl⟩;walk_at "S1";refine⟨_,Ju ak,rfl,?_⟩;walk_at "S1";refine⟨x,y,rfl,.inl ⟨(hi i x y hx hy).same (e.trans<|dn hr'),fun H3 e3=>?_⟩⟩;walk_at "S1";exact e.trans<|(dn hr').trans e3
    ·rintro σ H2 ⟨e,a,b,rfl⟩;walk_at "S1";exact q H2 e
def pW(K:CL):Sp:=fun vs H Q _=>∃(a:Addr)(ns:List Int),vs=[.ref a]/\SqL K H a (ns.map FC)/\ns.length<=63/\∀H',Q (.bl true) H'
end
end Wb
namespace Mi
theorem lb{s:List Int}(hs:s.length<=63)(k:Nat)(hk:k<=200):∃n,ir s (k:Int)=.ok n:=by
 unfold ir AS;by_cases h:(k:Int)<(s.length:Int)
 ·rw[if_pos (by simpa using h)];obtain⟨x,e,_⟩:=ff (xs:=s) (i:=(k:Int)) (by omega) h;exact⟨x,e⟩
 ·rw[if_neg (by simpa using h),t9 (by omega) (by omega)];exact⟨_,rfl⟩
theorem yX(c b:Int)(hb:1<=b)(hb2:b<1073741824)(k:Nat)(s:Int×Int×List Int)(h1:0<=s.2.1)(hl:s.2.2.length<100000):∃s':Int×Int×List Int,zr c b (k:Int) s=.ok s'/\0<=s'.2.1/\∃v,0<=v/\v<b/\s'.2.2=s.2.2++[v]:=by
 unfold zr;have hm0:=E9 (s.1*48271+7919+(k:Int)) (show(2147483647:Int)≠0 by decide);have hm1:=DS (s.1*48271+7919+(k:Int)) (show(0:Int)<2147483647 by decide);generalize (s.1*48271+7919+(k:Int))%2147483647=mx at*
 have other:∀z:Int,0<=z%b/\z%b<b:=fun z=>⟨E9 _ (by omega),DS _ (by omega)⟩
 have A:∀z:Int,hJ s.2.2 z=.ok (s.2.2++[z]):=fun z=>jh hl;have e2:((((mI mx mx).bind fun y63=>CT<|y63%1000003).bind fun y64=>lM y64 b).bind fun y69=>hJ s.2.2 y69)=.ok (s.2.2++[mx*mx%1000003%b]):=by
  rw[mL (by omega) (by omega)];simp only[CK];rw[jg (by omega)];exact A _
 have e1:((lM s.2.1 b).bind fun y56=>hJ s.2.2 y56)=.ok (s.2.2++[s.2.1%b]):=by rw[jg (by omega)];exact A _
 by_cases hf:(1000000000000000000:Int)<=dq c
 ·rw[decide_eq_true hf];by_cases hp:0<s.2.1
  ·rw[decide_eq_true hp];simp only[if_true,CK,e1,sZ (show 0<b by omega) hb2];exact⟨_,rfl,Int.ediv_nonneg h1 (by omega),_,(other _).1,(other _).2,rfl⟩
  ·rw[decide_eq_false hp];simp only[if_true,CK,Ed,if_false,e2];exact⟨_,rfl,h1,_,(other _).1,(other _).2,rfl⟩
 ·rw[decide_eq_false hf];simp only[CK,Ed,if_false,e2];exact⟨_,rfl,h1,_,(other _).1,(other _).2,rfl⟩
theorem oA(c:Int)(n:Nat)(b:Int)(hn:n<=1000)(hb:1<=b)(hb2:b<1073741824):∃ns,jS c (n:Int) b=.ok ns/\ns.length=n/\∀x∈ns,0<=x/\x<b:=by
 unfold jS AU;rw[iL (by omega),CK];obtain⟨s,e,h0,hl,hb⟩:=gh (f:=zr c b) (fun pre(s:Int×Int×List Int)=>0<=s.2.1/\s.2.2.length=pre.length/\∀x∈s.2.2,0<=x/\x<b) ((FQ n).map fun(i:Nat)=>(i:Int)) ((dq c)%2147483647,dq c,[]) ⟨w9 c,rfl,by simp⟩ (by
  intro pre a post s e ⟨h0,hl,hb'⟩;have hlen:pre.length<n:=by have:=congrArg Ex e;simp at this;omega
  obtain⟨k,rfl⟩:∃k:Nat,a=(k:Int):=by
   have:a∈(FQ n).map fun(i:Nat)=>(i:Int):=by rw[e];simp
   obtain⟨k,_,hk⟩:=Di.mp this;exact⟨k,hk.symm⟩
  obtain⟨s',e',h0',v,v0,v1,ev⟩:=yX c b hb hb2 k s h0 (by omega);refine⟨s',e',h0',by rw[ev];simp[hl],fun x hx=>?_⟩;rw[ev]at hx;rcases Ff.mp hx with z|z;·exact hb' x z
  ·rw[Fu.mp z];exact⟨v0,v1⟩)
 rw[e];exact⟨_,rfl,by rw[hl];simp,hb⟩
def isTurn(c:Nat):Prop:=c=102\/c=98\/c=105
instance zkeep88(c:Nat):Decidable (isTurn c):=by unfold isTurn;infer_instance
def Turns(t:Tx):Prop:=∀c∈t,isTurn c
structure Card(t:Cd):Prop where
 lay:t.1=[83]\/t.1=[90]
 four:t.2.1.length=4
 col:∀c∈t.2.1,97<=c/\c<=122
 low:0<=t.2.2
 high:t.2.2<4
abbrev Sp:=List<|Tx×Int
def ky(d:Sp):List Tx:=d.map (·.1)
theorem uF(d:Sp)(k k':Tx)(a:Int):look (ee d k a) k'=if k'=k then some a else look d k':=by
 unfold ee;by_cases h:(d.any fun p=>decide<|p.1=k)=true
 ·rw[if_pos h]
  induction d with
  |nil=>cases h
  |cons p d ih=>
   rw[DO];by_cases e:p.1=k
   ·rw[if_pos e];by_cases e2:k'=k;·rw[if_pos e2];unfold look;rw[EE (by simp[e,e2])];rfl
    ·rw[if_neg e2];have n1:¬p.1=k':=fun z=>e2<|z.symm.trans e;unfold look;rw[DH (by simpa using n1),DH (by simpa using n1)];by_cases h2:(d.any fun p=>decide<|p.1=k)=true
     ·have:=ih h2;rw[if_neg e2]at this;exact this
     ·have:(d.map fun kv=>if kv.1=k then(kv.1,a)else kv)=d:=by
       rw[Gb (g:=id),List.map_id];intro q hq;rw[if_neg fun z=>h2 (H9.mpr ⟨q,hq,by simpa using z⟩)];rfl
      rw[this]
   ·rw[if_neg e];have h2:(d.any fun p=>decide<|p.1=k)=true:=by simpa [e] using h
    have:=ih h2;unfold look at this ⊢;by_cases e3:p.1=k';·rw[EE (by simpa using e3),EE (by simpa using e3),if_neg fun z=>e<|e3.trans z]
    ·rw[DH (by simpa using e3),DH (by simpa using e3)];exact this
 ·rw[if_neg h];unfold look;rw[List.find?_append];by_cases e2:k'=k
  ·subst e2;have:d.find? (fun p=>decide<|p.1=k')=none:=Jt.mpr fun p hp z=>h<|H9.mpr ⟨p,hp,z⟩;rw[this,if_pos rfl];simp
  ·rw[if_neg e2];cases q:d.find? (fun p=>decide<|p.1=k')with
   |some x=>rfl
   |none=>
    rw[Option.none_or,DH (by simpa using fun z=>e2 z.symm)];rfl
theorem uG(d:Sp)(k:Tx):(d.any fun p=>decide<|p.1=k)=true↔k∈ky d:=by
 unfold ky;rw[H9,Di];simp
theorem jU(d:Sp)(k:Tx)(a:Int):ky (ee d k a)=if k∈ky d then ky d else ky d++[k]:=by
 unfold ee;by_cases h:k∈ky d
 ·rw[if_pos<|(uG d k).mpr h,if_pos h];unfold ky;rw[GI];refine Gb fun p _=>?_;show(if p.1=k then(p.1,a)else p).1=p.1;split<;>rfl
 ·rw[if_neg fun z=>h<|(uG d k).mp z,if_neg h];unfold ky;simp
theorem look_mem{d:Sp}{k:Tx}:k∈ky d↔∃v,look d k=some v:=by
 unfold look;constructor
 ·intro h;obtain⟨p,h1,h2⟩:=Di.mp h;cases q:d.find? (fun p=>decide<|p.1=k)with
  |some x=>exact⟨x.2,rfl⟩
  |none=>exact absurd (Jt.mp q p h1) (by simpa using h2)
 ·rintro ⟨v,h⟩;obtain⟨p,h1,h2⟩:=ED.mp h;exact Di.mpr ⟨p,HM h1,by simpa using Kf h1⟩
theorem wX{d:Sp}(nd:(ky d).Nodup){p:Tx×Int}(h:p∈d):look d p.1=some p.2:=by
 induction d with
 |nil=>cases h
 |cons q d ih=>
  have nd':q.1∉ky d/\(ky d).Nodup:=E7.mp nd;unfold look;rcases D7.mp h with rfl|h
  ·rw[EE (by simp)];rfl
  ·have:¬q.1=p.1:=fun z=>nd'.1<|z▸Di.mpr ⟨p,h,rfl⟩;rw[DH (by simpa using this)];exact ih nd'.2 h
theorem iw(d:Sp)(k k':Tx)(a:Int):bJ (ee d k a) k' 0=if k'=k then a else bJ d k' 0:=by
 unfold bJ;rw[uF];split<;>rfl
theorem fA{d:Sp}{k:Tx}(h:k∉ky d):bJ d k 0=0:=by
 unfold bJ;cases q:look d k with
 |none=>rfl
 |some v=>exact absurd (look_mem.mpr ⟨v,q⟩) h
theorem fi{d:Sp}(nd:(ky d).Nodup){p:Tx×Int}(h:p∈d):bJ d p.1 0=p.2:=by
 unfold bJ;rw[wX nd h];rfl
theorem uH:∀{d e:Sp},(ky d).Nodup->ky d=ky e->(∀k,bJ d k 0=bJ e k 0)->d=e
 | [],[],_,_,_=>rfl
 | [],_::_,_,h,_=>by cases h
 |_::_,[],_,h,_=>by cases h
 |p::d,q::e,nd,h,g=>by
  have nd':p.1∉ky d/\(ky d).Nodup:=E7.mp nd;have h1:p.1=q.1/\ky d=ky e:=by
   unfold ky at h ⊢;simpa using h
  have nde:(ky (q::e)).Nodup:=h▸nd;have a1:=fi nd<|D0 (a:=p) (l:=d);have a2:=fi nde<|D0 (a:=q) (l:=e);have ep:p=q:=by
   refine Me h1.1 ?_;rw[<-a1,<-a2,g p.1,h1.1]
  subst ep;rw[uH nd'.2 h1.2 fun k=>?_];have:=g k;unfold bJ look at this ⊢;by_cases z:p.1=k
  ·have o1:k∉ky d:=z▸nd'.1;have o2:k∉ky e:=h1.2▸o1;exact(fA o1).trans (fA o2).symm
  ·rw[DH (by simpa using z),DH (by simpa using z)]at this;exact this
theorem jl(d:Sp)(k:Tx)(a:Int):(ee d k a).length<=d.length+1:=by unfold ee;split<;>simp
theorem uI{d:Sp}(nd:(ky d).Nodup)(k:Tx)(a:Int):(ky<|ee d k a).Nodup:=by
 rw[jU];split;·exact nd
 ·rename_i h;refine List.nodup_append.mpr ⟨nd,by simp,fun x hx y hy e=>?_⟩;have:y=k:=by simpa using hy
  subst this;subst e;exact h hx
def iy(L:Sp)(k:Tx):Int:=(L.map fun p=>if p.1=k then p.2 else 0).sum
theorem eM(p:Tx×Int)(L:Sp)(k:Tx):iy (p::L) k=(if p.1=k then p.2 else 0)+iy L k:=by unfold iy;simp
theorem wY{L:Sp}(h:∀p∈L,0<=p.2)(k:Tx):0<=iy L k:=by
 induction L with
 |nil=>exact K9 _
 |cons p L ih=>
  rw[eM];have h1:=h p<|D0 ..;have h2:=ih fun q hq=>h q<|D4 _ hq;split<;>omega
theorem uJ{L:Sp}(h:∀p∈L,0<p.2){k:Tx}(hk:k∈ky L):0<iy L k:=by
 induction L with
 |nil=>cases hk
 |cons p L ih=>
  rw[eM];have h1:=h p<|D0 ..;have h2:=wY (L:=L) (fun q hq=>by have:=h q<|D4 _ hq;omega) k;by_cases z:p.1=k;·rw[if_pos z];omega
  ·have:k∈ky L:=by
    rcases D7.mp hk with e|e;·exact absurd e.symm z
    ·exact e
   have:=ih (fun q hq=>h q<|D4 _ hq) this;rw[if_neg z];omega
theorem uK(L:Sp)(k:Tx):iy (L.map fun p=>(p.1, -p.2)) k= -iy L k:=by
 induction L with
 |nil=>rfl
 |cons p L ih=>rw[DO,eM,eM,ih];split<;>omega
theorem uL{L:Sp}{k:Tx}(h:k∉ky L):iy L k=0:=by
 induction L with
 |nil=>rfl
 |cons p L ih=>
  have h':p.1≠k/\k∉ky L:=⟨fun z=>h<|z▸D0 ..,fun z=>h<|D4 _ z⟩
  rw[eM,if_neg h'.1,ih h'.2];rfl
def ri(p:Tx×Int)(s:Sp):Res Sp:=fm s p.1<|bJ s p.1 0+p.2
theorem oE:∀(L s:Sp),(ky s).Nodup->s.length+L.length<1000->∃r,bU ri L s=.ok r/\(ky r).Nodup/\(∀k,bJ r k 0=bJ s k 0+iy L k)/\(∀k,k∈ky r↔k∈ky s\/k∈ky L)/\r.length<=s.length+L.length/\((∀p∈L,p.1∈ky s)->ky r=ky s)
 | [],s,nd,hl=>⟨s,rfl,nd,fun k=>by unfold iy;simp,fun k=>by unfold ky;simp,by simp,fun _=>rfl⟩
 |p::L,s,nd,hl=>by
  simp only[DW]at hl;have hp:=jl s p.1<|bJ s p.1 0+p.2;obtain⟨r,e,h1,h2,h3,h4,h5⟩:=oE L (ee s p.1<|bJ s p.1 0+p.2) (uI nd _ _) (by omega);refine⟨r,?_,h1,fun k=>?_,fun k=>?_,by simp only[DW];omega,fun h=>?_⟩
  ·show(ri p s).bind _=_;rw[show ri p s=.ok (ee s p.1<|bJ s p.1 0+p.2)from bo (by show s.length<100000;omega),CK];exact e
  ·rw[h2,iw,eM];by_cases z:k=p.1;·subst z;rw[if_pos rfl,if_pos rfl];omega
   ·rw[if_neg z,if_neg<|Ec z];omega
  ·rw[h3,jU];have:k∈ky (p::L)↔k=p.1\/k∈ky L:=D7;rw[this];split
   ·rename_i z;constructor
    ·rintro (h | h);·exact .inl h
     ·exact .inr<|.inr h
    ·rintro (h | rfl | h);·exact .inl h
     ·exact .inl z
     ·exact .inr h
   ·rw[Ff,Fu,or_assoc]
  ·have hin:p.1∈ky s:=h p<|D0 ..;have e2:ky (ee s p.1<|bJ s p.1 0+p.2)=ky s:=by rw[jU,if_pos hin]
   rw[h5 fun q hq=>by rw[e2];exact h q<|D4 _ hq,e2]
theorem nh{α S:Type}{f:α->S->Res S}:∀(l r:List α)(s:S),bU f (l++r) s=(bU f l s).bind (bU f r)
 | [],r,s=>rfl
 |a::l,r,s=>by
  show(f a s).bind _=((f a s).bind _).bind _;cases f a s with
  |ok b=>exact nh l r b
  |err j=>rfl
  |stuck=>rfl
theorem iQ{α β S:Type}{f:β->S->Res S}{g:α->List β}:∀(l:List α)(s:S),bU f (l.flatMap g) s=bU (fun a s=>bU f (g a) s) l s
 | [],s=>rfl
 |a::l,s=>by
  rw[JO,nh];show _=(bU f (g a) s).bind _;congr 1;funext b;exact iQ l b
theorem f9{α S:Type}{f g:α->S->Res S}:∀(l:List α)(s:S),(∀a∈l,∀s,f a s=g a s)->bU f l s=bU g l s
 | [],s,_=>rfl
 |a::l,s,h=>by
  show(f a s).bind _=(g a s).bind _;rw[h a<|D0 ..];congr 1;funext b;exact f9 l b fun x hx=>h x<|D4 _ hx
theorem dP{α β S:Type}{f:β->S->Res S}{g:α->β}:∀(l:List α)(s:S),bU f (l.map g) s=bU (fun a s=>f (g a) s) l s
 | [],s=>rfl
 |a::l,s=>by
  show(f (g a) s).bind _=(f (g a) s).bind _;congr 1;funext b;exact dP l b
theorem nj:∀(T s:Sp),(ky T).Nodup->(ky s).Nodup->s.length<1000->(∀p∈T,0<p.2/\p.1.length<=100)->(∀p∈T,p.2<=bJ s p.1 0)->∃r,bU rh T s=.ok r/\ky r=ky s/\∀k,bJ r k 0=bJ s k 0-bJ T k 0
 | [],s,_,_,_,_,_=>⟨s,rfl,rfl,fun k=>by show _=_-0;omega⟩
 |p::T,s,ndT,nds,hl,hp,hg=>by
  have nd':p.1∉ky T/\(ky T).Nodup:=E7.mp ndT;have h1:=hg p<|D0 ..;have h2:=(hp p<|D0 ..).1;have hin:p.1∈ky s:=Eb fun z=>by rw[fA z]at h1;omega
  obtain⟨v,hv⟩:=look_mem.mp hin;have gv:bJ s p.1 0=v:=by unfold bJ;rw[hv];rfl
  have e1:rh p s=.ok (ee s p.1<|v-p.2):=by
   unfold rh;rw[if_neg (by simpa using h1),show getD s p.1=.ok v from by unfold getD;rw[hv];rfl,CK,show fm s p.1 (v-p.2)=.ok _ from bo (by show s.length<100000;omega)];rfl
  have ek:ky (ee s p.1<|v-p.2)=ky s:=by rw[jU,if_pos hin]
  have ne:∀q∈T,q.1≠p.1:=fun q hq z=>nd'.1<|z▸Di.mpr ⟨q,hq,rfl⟩;have el:(ee s p.1<|v-p.2).length=s.length:=by
   have:=congrArg Ex ek;unfold ky at this;simpa using this
  obtain⟨r,e,k1,k2⟩:=nj T (ee s p.1<|v-p.2) nd'.2 (by rw[ek];exact nds) (by omega) (fun q hq=>hp q<|D4 _ hq) (fun q hq=>by rw[iw,if_neg<|ne q hq];exact hg q<|D4 _ hq);refine⟨r,?_,k1.trans ek,fun k=>?_⟩
  ·show(rh p s).bind _=_;rw[e1,CK];exact e
  ·rw[k2,iw];by_cases z:k=p.1
   ·subst z;rw[if_pos rfl,fA nd'.1,gv,fi ndT<|D0 ..];omega
   ·have:bJ (p::T) k 0=bJ T k 0:=by
     unfold bJ look;rw[DH (by simpa using fun y=>z y.symm)]
    rw[if_neg z,this]
theorem lg:∀(T s:Sp),(ky T).Nodup->(ky s).Nodup->s.length<1000->(∀p∈T,0<p.2/\p.1.length<=100)->(∃p∈T,bJ s p.1 0<p.2)->bU rh T s=.err 6
 | [],s,_,_,_,_,h=>by obtain⟨p,hp,_⟩:=h;cases hp
 |p::T,s,ndT,nds,hl,hp,hg=>by
  have nd':p.1∉ky T/\(ky T).Nodup:=E7.mp ndT;have h2:=(hp p<|D0 ..).1;have h3:=(hp p<|D0 ..).2;by_cases c:bJ s p.1 0<p.2
  ·show(rh p s).bind _=_;unfold rh;rw[if_pos (by simpa using c),cN (by simp),CK,cN (by simp;omega),CK,cN (by simp;omega),CK,CK];rw[show yA _=CT _ from bo (by unfold cap;simp;omega),CK];rfl
  ·have h1:p.2<=bJ s p.1 0:=by omega
   have hin:p.1∈ky s:=Eb fun z=>by rw[fA z]at h1;omega
   obtain⟨v,hv⟩:=look_mem.mp hin;have e1:rh p s=.ok (ee s p.1<|v-p.2):=by
    unfold rh;rw[if_neg (by simpa using h1),show getD s p.1=.ok v from by unfold getD;rw[hv];rfl,CK,show fm s p.1 (v-p.2)=.ok _ from bo (by show s.length<100000;omega)];rfl
   have ek:ky (ee s p.1<|v-p.2)=ky s:=by rw[jU,if_pos hin]
   have ne:∀q∈T,q.1≠p.1:=fun q hq z=>nd'.1<|z▸Di.mpr ⟨q,hq,rfl⟩;have el:(ee s p.1<|v-p.2).length=s.length:=by
    have:=congrArg Ex ek;unfold ky at this;simpa using this
   show(rh p s).bind _=_;rw[e1,CK];refine lg T _ nd'.2 (by rw[ek];exact nds) (by omega) (fun q hq=>hp q<|D4 _ hq) ?_;obtain⟨q,hq,hlt⟩:=hg;rcases D7.mp hq with rfl|hq
   ·exact absurd hlt c
   ·exact⟨q,hq,by rw[iw,if_neg<|ne q hq];exact hlt⟩
def go(c:Nat):Int:=if c=102 then 1 else if c=98 then -1 else 0
def tw(t:Cd)(c:Nat):Int:=if t.1=[83]then go c else -go c
def uM(t:Cd)(i:Int):Nat:=t.2.1[i.toNat]?.getD 0
def uN(i:Int):Nat:=if i=1 then 115 else if i= -1 then 122 else 111
def behind(t:Cd)(c:Nat):Cd:=(t.1,t.2.1,(t.2.2+go c)%4)
def nq(t:Cd)(c:Nat):Pl:=([uM t t.2.2],[uM t ((t.2.2+2)%4)],[uN (tw t c)])
theorem AA(c:Nat): -1<=go c/\go c<=1:=by unfold go;split;omega;split<;>omega
theorem xJ(t:Cd)(c:Nat): -1<=tw t c/\tw t c<=1:=by have:=AA c;unfold tw;split<;>omega
theorem Card.behind{t:Cd}(h:Card t)(c:Nat):Card (behind t c):=⟨h.lay,h.four,h.col,E9 _ (by decide),DS _ (by decide)⟩
theorem xK{c:Nat}(h:isTurn c):nv [c]=.ok (go c):=by
 unfold nv B7;rcases h with rfl|rfl|rfl<;>rfl
theorem rj{t:Cd}{c:Nat}(h:isTurn c):vh t [c]=.ok (behind t c):=by
 unfold vh B9;rw[xK h];rfl
theorem nr{t:Cd}{c:Nat}(h:isTurn c):l9 t [c]=.ok (tw t c):=by
 unfold l9 B8;rw[xK h];by_cases z:t.1=[83]
 ·rw[if_pos (by simpa using z)];unfold tw;rw[if_pos z]
 ·rw[if_neg (by simpa using z)];unfold tw;rw[if_neg z];simp only[CK];congr 1;omega
theorem jm{t:Cd}(h:Card t){i:Int}(h0:0<=i)(h1:i<4):k6 t.2.1 i=.ok [uM t i]:=yy h0 (by rw[h.four];exact h1) (by rw[h.four];decide)
theorem wZ(i:Int):0<=i%4/\i%4<4:=⟨E9 _ (by decide),DS _ (by decide)⟩
theorem yY{i:Int}(h: -1<=i/\i<=1):k6 ([122,111,115]:Tx) (i+1)=.ok [uN i]:=by
 have:i= -1\/i=0\/i=1:=by omega
 rcases this with rfl|rfl|rfl<;>rfl
theorem yZ{t:Cd}(h:Card t):iu t=.ok [uM t t.2.2]:=by
 unfold iu pR;rw[show t.2.2%4=t.2.2 from Int.emod_eq_of_lt h.low h.high,jm h h.low h.high]
theorem rk{t:Cd}(h:Card t):wU t=.ok [uM t ((t.2.2+2)%4)]:=by
 unfold wU Bg;rw[jm h (wZ _).1 (wZ _).2]
theorem j0{t:Cd}{c:Nat}(h:isTurn c):n6 t [c]=.ok (tw t c):=by
 unfold n6 Bc;have e:getD ([([102],1),([98],(-1)),([105],0)]:List (Tx×Int)) [c]=.ok (go c):=by rcases h with rfl|rfl|rfl<;>rfl
 rw[e,CK];by_cases z:t.1=[83]
 ·rw[if_pos (by simpa using z)];unfold tw;rw[if_pos z]
 ·rw[if_neg (by simpa using z)];unfold tw;rw[if_neg z]
theorem rl{i:Int}(h: -1<=i/\i<=1):getD ([(1,[115]),((-1),[122]),(0,[111])]:List (Int×Tx)) i=.ok [uN i]:=by
 have:i= -1\/i=0\/i=1:=by omega
 rcases this with rfl|rfl|rfl<;>rfl
theorem x5{t:Cd}(h:Card t){c:Nat}(hc:isTurn c):vk t [c]=.ok (nq t c):=by
 unfold vk Bh;simp only[yZ h,rk h,j0 hc,CK,rl<|xJ t c];rfl
def gA(c:Nat):Bool:=decide<|isTurn c
theorem turnB_iff{c:Nat}:gA c=true↔isTurn c:=decide_eq_true_iff
def nt(x:Tx)(n:Nat):Bool:=decide (x.length=n)&&x.all gA
theorem gW(c:Nat):([102,98,105]:Tx).contains c=gA c:=by
 rw[Ef,turnB_iff];simp[isTurn]
theorem rm{x:Tx}(hl:x.length<=10000)(n:Nat):vi x (n:Int)=.ok (nt x n):=by
 unfold vi Bb nt;rw[lU (by omega)];simp only[CK];by_cases z:x.length=n
 ·rw[if_pos (by simp[z]),cE (g:=fun t:Tx=>gA<|t.headD 0) (by show(aU x).length<=100000;simp[aU];omega) (fun t ht=>by
   obtain⟨c,hc,rfl⟩:=gK ht;show CT _=_;rw[gW];rfl),CK,decide_eq_true z,Lh]
  congr 1;simp[aU,List.all_map,Function.comp_def]
  try rfl
 ·rw[if_neg (by simp;omega),decide_eq_false z];rfl
theorem oF{x:Tx}{n:Nat}(h:nt x n=true):x.length=n/\Turns x:=by
 unfold nt at h;simp only[Bool.and_eq_true,decide_eq_true_eq,GY]at h;exact⟨h.1,fun c hc=>turnB_iff.mp<|h.2 c hc⟩
theorem four{x:Tx}(h:x.length=4):∃a b c d,x=[a,b,c,d]:=by
 match x,h with
 | [a,b,c,d],_=>exact⟨a,b,c,d,rfl⟩
theorem uO(sz:Int)(ds:List Int)(hsz:1<=sz)(hd:ds.length=5)(a:Int)(t:Tx)(ht:t.length<1000):∃c,97<=c/\c<=122/\zt sz ds a t=.ok (t++[c]):=by
 unfold zt;obtain⟨x,e,_⟩:=ff (xs:=ds) (i:=4) (by decide) (by rw[hd];decide);rw[e];simp only[CK,jg (show 0<sz by omega)];have h0:=E9 (x+a%sz*7) (show(26:Int)≠0 by decide);have h1:=DS (x+a%sz*7) (show(0:Int)<26 by decide);generalize (x+a%sz*7)%26=r at h0 h1;obtain⟨c,e2,h2⟩:=ij (x:=([97,98,99,100,101,102,103,104,105,106,107,108,109,110,111,112,113,114,115,116,117,118,119,120,121,122]:Tx)) (i:=r) h0 (by simp;omega) (by decide);rw[e2];simp only[CK,cN (show t.length+[c].length<=100000 by simp;omega)];have hc:c∈([97,98,99,100,101,102,103,104,105,106,107,108,109,110,111,112,113,114,115,116,117,118,119,120,121,122]:Tx):=DZ h2;have:∀c∈([97,98,99,100,101,102,103,104,105,106,107,108,109,110,111,112,113,114,115,116,117,118,119,120,121,122]:Tx),97<=c/\c<=122:=by decide
 exact⟨c,(this c hc).1,(this c hc).2,rfl⟩
theorem uP(c:Int):∃t,wH c=.ok t/\t.length=4/\∀x∈t,97<=x/\x<=122:=by
 unfold wH AW;have h0:=E9 c (show(5:Int)≠0 by decide);have h1:=DS c (show(0:Int)<5 by decide);obtain⟨sz,e,h2⟩:=ff (xs:=[(1:Int),2,3,4,26]) (i:=c%5) h0 (by simp;omega);have hsz:1<=sz:=by
  have:∀x∈[(1:Int),2,3,4,26],1<=x:=by decide
  exact this sz<|DZ h2
 rw[e,CK];obtain⟨ds,e2,hd,_⟩:=oA (c/5) 5 26 (by decide) (by decide) (by decide);rw[show jS (c/5) 5 26=CT ds from e2,CK,show cut ds none (some 4)=ds.take 4 from mQ ds 4];obtain⟨t,e3,h3,h4⟩:=gh (f:=zt sz ds) (fun pre t=>t.length=pre.length/\∀x∈t,97<=x/\x<=122) (ds.take 4) [] ⟨rfl,by simp⟩ (by
  intro pre a post t e ⟨hl,hb⟩;have hlen:pre.length<5:=by have:=congrArg Ex e;simp at this;omega
  obtain⟨c,c0,c1,ec⟩:=uO sz ds hsz hd a t (by omega);refine⟨_,ec,by simp[hl],fun x hx=>?_⟩;rcases Ff.mp hx with z|z;·exact hb x z
  ·rw[Fu.mp z];exact⟨c0,c1⟩)
 rw[e3];exact⟨t,rfl,by rw[h3,FI];omega,h4⟩
theorem x6(c:Int):∃t,vf c=.ok t/\Card t:=by
 unfold vf AX;have h0:=E9 c (show(2:Int)≠0 by decide);have h1:=DS c (show(0:Int)<2 by decide);obtain⟨y,e,h2⟩:=ij (x:=([83,90]:Tx)) (i:=c%2) h0 (by simp;omega) (by decide);obtain⟨t,e2,hl,hb⟩:=uP<|c/8;rw[e,CK,e2,CK];refine⟨_,rfl,?_,hl,hb,E9 _ (by decide),DS _ (by decide)⟩;have:y=83\/y=90:=by simpa using DZ h2
 rcases this with rfl|rfl;·exact .inl rfl
 ·exact .inr rfl
theorem oG(d:Int)(h0:0<=d)(h1:d<3):∃c,k6 ([102,98,105]:Tx) d=.ok [c]/\isTurn c:=by
 obtain⟨c,e,h⟩:=ij (x:=([102,98,105]:Tx)) (i:=d) h0 (by simp;omega) (by decide);refine⟨c,e,?_⟩;have:=DZ h;simpa [isTurn] using this
theorem uQ(c:Int)(n:Nat)(hn:n<=1000):∃t,wR c (n:Int)=.ok t/\t.length=n/\Turns t:=by
 unfold wR B5;by_cases h:c%7=3
 ·rw[if_pos (by simpa using h)];obtain⟨y,e,hy⟩:=oG (c/7%3) (E9 _ (by decide)) (DS _ (by decide));rw[e,CK,pw (by omega) (by omega)];refine⟨_,rfl,by simp,fun x hx=>?_⟩;rw[List.eq_of_mem_replicate hx];exact hy
 ·rw[if_neg (by simpa using h)];obtain⟨ds,e,hl,hb⟩:=oA (c/7) n 3 hn (by decide) (by decide);rw[e,CK];have key:∃t:List Nat,bB ds (fun(a9:Int)=>k6 ([102,98,105]:Tx) a9)=.ok (t.map fun c=>[c])/\t.length=n/\Turns t:=by
   have:∀d∈ds,∃c:Nat,k6 ([102,98,105]:Tx) d=.ok [c]/\isTurn c:=fun d hd=>oG d (hb d hd).1 (hb d hd).2;have hf:∀d∈ds,k6 ([102,98,105]:Tx) d=.ok ((fun d=>[if d=0 then 102 else if d=1 then 98 else 105]) d):=fun d hd=>by
    have h1:=hb d hd;have:d=0\/d=1\/d=2:=by omega
    rcases this with rfl|rfl|rfl<;>rfl
   rw[cE (by show ds.length<=100000;omega) hf];refine⟨ds.map fun d=>if d=0 then 102 else if d=1 then 98 else 105,by simp,by simp[hl],fun x hx=>?_⟩;obtain⟨d,_,rfl⟩:=Di.mp hx;unfold isTurn;split;·exact .inl rfl
   ·split;·exact .inr<|.inl rfl
    ·exact .inr<|.inr rfl
  obtain⟨t,e2,hl2,ht⟩:=key;rw[e2,CK,tj (by rw[xA];omega),xA];exact⟨t,rfl,hl2,ht⟩
theorem AB{c:Nat}(h:isTurn c):getD ([([102],1),([98],(-1)),([105],0)]:List (Tx×Int)) [c]=.ok (go c):=by rcases h with rfl|rfl|rfl<;>rfl
theorem rn{t:Cd}{c:Nat}(hc:isTurn c):uz t [c]=.ok (behind t c):=by
 unfold uz Bf;rw[AB hc];rfl
abbrev STT:=List Cd×List Int×List Int×List (Tx×Int)
theorem gQ{α:Type}(l:List α)(x:Tx):l.zip (aU x)=(l.zip x).map fun p=>(p.1,[p.2]):=by
 unfold aU;rw[List.zip_map_right];rfl
def rp(c:Nat):Int:=if c=105 then 1 else 2
theorem x8(c:Nat):0<rp c:=by unfold rp;split<;>omega
def jV(cards:List Cd)(x:Tx):List (Tx×Int):=(cards.zip x).flatMap fun p=>p.1.2.1.map fun h=>([h],rp p.2)
theorem pX{cards:List Cd}{x:Tx}:∀p∈jV cards x,0<p.2/\p.1.length<=100:=fun p hp=>by
 obtain⟨q,_,hq⟩:=List.mem_flatMap.mp hp;obtain⟨h,_,rfl⟩:=Di.mp hq;exact⟨x8 _,by simp⟩
theorem x9{cards:List Cd}(hc:∀t∈cards,Card t)(x:Tx):(jV cards x).length<=4*cards.length:=by
 unfold jV;rw[List.length_flatMap];have:∀(l:List (Cd×Nat)),(∀p∈l,Card p.1)->(l.map fun p=>(p.1.2.1.map fun h=>(([h]:Tx),rp p.2)).length).sum=4*l.length:=by
  intro l
  induction l with
  |nil=>intro _;rfl
  |cons p l ih=>
   intro h;rw[DO,List.sum_cons,ih fun q hq=>h q<|D4 _ hq,Dq,(h p<|D0 ..).four];simp;omega
 rw[this _ fun p hp=>hc p.1 (Ez hp).1];simp[Gk];omega
theorem uR(cards:List Cd)(x:Tx):uy cards x=bU ri (jV cards x) []:=by
 unfold uy Bd jV;rw[gQ,dP,iQ];have:(bU (fun(a:Cd×Nat)s=>Ak (a.1,[a.2]) s) (cards.zip x) [])=bU (fun(a:Cd×Nat)s=>bU ri (a.1.2.1.map fun h=>(([h]:Tx),rp a.2)) s) (cards.zip x) []:=by
  refine f9 _ _ fun a _ s=>?_;unfold Ak aU;rw[dP,dP];have:bU (fun(c:Nat)s=>Aj (a.1,[a.2]) [c] s) a.1.2.1 s=bU (fun(c:Nat)s=>ri ([c],rp a.2) s) a.1.2.1 s:=by
   refine f9 _ _ fun c _ s=>?_;unfold Aj ri rp;by_cases z:a.2=105
   ·rw[if_pos (by simp[z]),CK,CK,if_pos z];show(fm s [c]<|bJ s [c] 0+1).bind (fun y64=>CT y64)=_;cases fm s [c] (bJ s [c] 0+1)<;>rfl
   ·rw[if_neg (by simp[z]),CK,CK,if_neg z];show(fm s [c]<|bJ s [c] 0+2).bind (fun y64=>CT y64)=_;cases fm s [c] (bJ s [c] 0+2)<;>rfl
  rw[this];cases bU (fun(c:Nat)s=>ri ([c],rp a.2) s) a.1.2.1 s<;>rfl
 rw[this];cases bU (fun(a:Cd×Nat)s=>bU ri (a.1.2.1.map fun h=>(([h]:Tx),rp a.2)) s) (cards.zip x) []<;>rfl
theorem xa(cards:List Cd)(x:Tx)(s:Sp):bU zw (cards.zip<|aU x) s=bU ri ((jV cards x).map fun p=>(p.1, -p.2)) s:=by
 unfold jV;rw[gQ,dP,dP,iQ];refine f9 _ _ fun a _ s=>?_;unfold zw aU;rw[dP,dP];have:bU (fun(c:Nat)s=>Ah (a.1,[a.2]) [c] s) a.1.2.1 s=bU (fun(c:Nat)s=>ri ([c], -rp a.2) s) a.1.2.1 s:=by
  refine f9 _ _ fun c _ s=>?_;unfold Ah ri rp;have:bJ s [c] 0-2+(if decide (([a.2]:Tx)=[105])=true then(1:Int)else 0)=bJ s [c] 0+ -(if a.2=105 then(1:Int)else 2):=by
   by_cases z:a.2=105;·rw[if_pos (by simp[z]),if_pos z];omega
   ·rw[if_neg (by simp[z]),if_neg z];omega
  show(fm s [c] (bJ s [c] 0-2+(if decide (([a.2]:Tx)=[105])=true then(1:Int)else 0))).bind (fun y=>CT y)=_;rw[this];cases fm s [c] (bJ s [c] 0+ -(if a.2=105 then(1:Int)else 2))<;>rfl
 rw[this];cases bU (fun(c:Nat)s=>ri ([c], -rp a.2) s) a.1.2.1 s<;>rfl
structure StOk(w:Nat)(s:STT):Prop where
 len:s.1.length=w
 card:∀t∈s.1,Card t
 now:s.2.1.length=w
 far:s.2.2.1.length=w
 nd:(ky s.2.2.2).Nodup
 nn:∀p∈s.2.2.2,0<=p.2
 sm:s.2.2.2.length<=100
def eF(cards:List Cd)(x:Tx):List Pl:=(cards.zip x).map fun p=>nq p.1 p.2
theorem xb{cards:List Cd}(hc:∀t∈cards,Card t){x:Tx}(hx:Turns x)(hl:cards.length<=1000):ow cards x=.ok (eF cards x):=by
 unfold ow Bj eF;rw[gQ,dP];obtain⟨s,e,hs⟩:=gh (f:=fun(a:Cd×Nat)s=>Ao l9 (a.1,[a.2]) s) (fun pre s=>s=pre.map fun p:Cd×Nat=>nq p.1 p.2) (cards.zip x) [] rfl (by
  intro pre a post s e hs;have ha:a∈cards.zip x:=by rw[e];simp
  have h1:=hc _ (Ez ha).1;have h2:=hx _ (Ez ha).2;have hlen:s.length<100000:=by
   rw[hs,Dq];have:=congrArg Ex e;simp[Gk]at this;omega
  refine⟨s++[nq a.1 a.2],?_,by rw[hs];simp⟩;unfold Ao;dsimp only;rw[nr h2,CK,CK,yY (xJ a.1 a.2),CK,jm h1 h1.low h1.high,CK,jm h1 (wZ _).1 (wZ _).2,CK,CK,jh hlen,CK];rfl)
 rw[e,hs];rfl
theorem xc{l:List Int}(h:l≠[]):∃m,vT l=.ok m/\m∈l/\∀y∈l,y<=m:=by
 have key:∀(l:List Int)(z:Int),(∀a∈l,a<=l.foldl (fun a b=>if b>a then b else a) z)/\z<=l.foldl (fun a b=>if b>a then b else a) z/\(l.foldl (fun a b=>if b>a then b else a) z=z\/l.foldl (fun a b=>if b>a then b else a) z∈l):=by
  intro l
  induction l with
  |nil=>intro z;exact⟨fun a h=>(nomatch h),K9 _,.inl rfl⟩
  |cons b l ih=>
   intro z;obtain⟨h1,h2,h3⟩:=ih (if b>z then b else z);simp only[Gg];have hb:b<=(if b>z then b else z)/\z<=(if b>z then b else z):=by split<;>omega
   refine⟨fun a ha=>?_,by omega,?_⟩
   ·rcases D7.mp ha with rfl | ha;·omega
    ·exact h1 a ha
   ·rcases h3 with h3 | h3
    ·rw[h3];by_cases c:b>z;·rw[if_pos c];exact .inr<|D0 ..
     ·rw[if_neg c];exact .inl rfl
    ·exact .inr<|D4 _ h3
 cases l with
 |nil=>exact absurd rfl h
 |cons b l=>
  obtain⟨h1,h2,h3⟩:=key (b::l) b;refine⟨_,bo (by simp),?_,h1⟩;rcases h3 with h3|h3
  ·show(b::l).foldl _ b∈_;rw[h3];exact D0 ..
  ·exact h3
def NW(s:STT)(x:Tx):List Int:=(s.2.1.zip<|s.1.zip<|aU x).map fun a=>a.1+tw a.2.1 (a.2.2.headD 0)
def CW(s:STT)(x:Tx):List Cd:=(s.1.zip<|aU x).map fun a=>behind a.1<|a.2.headD 0
def FW(s:STT)(x:Tx):List Int:=(s.2.2.1.zip<|NW s x).map fun a=>if dq a.2>a.1 then dq a.2 else a.1
theorem gB{α:Type}{l:List α}{x:Tx}(hx:Turns x){a:α×Tx}(h:a∈l.zip (aU x)):a.1∈l/\∃c,isTurn c/\a.2=[c]:=by
 have:=Ez h;obtain⟨c,hc,e⟩:=gK this.2;exact⟨this.1,c,hx c hc,e⟩
theorem dA(x:Tx):(aU x).length=x.length:=by unfold aU;simp
section
variable{w:Nat}{s:STT}{x:Tx}
theorem uS(h:StOk w s)(hl:x.length=w):(NW s x).length=w:=by unfold NW;simp[dA,h.len,h.now,hl]
theorem uT(h:StOk w s)(hl:x.length=w):(CW s x).length=w:=by unfold CW;simp[dA,h.len,hl]
theorem z6(h:StOk w s)(hl:x.length=w):(FW s x).length=w:=by unfold FW;simp[uS h hl,h.far]
theorem pY(h:StOk w s):∀t∈CW s x,Card t:=fun t ht=>by
 obtain⟨a,ha,rfl⟩:=Di.mp ht;exact(h.card _ (Ez ha).1).behind _
theorem z7(h:StOk w s)(hw:w<=100)(hx:Turns x)(hl:x.length=w):bB (s.2.1.zip<|s.1.zip<|aU x) (fun(a:Int×Cd×Tx)=>(l9 a.2.1 a.2.2).bind fun y56=>CT<|a.1+y56)=.ok (NW s x):=by
 unfold NW;refine cE (by simp[dA,h.len,h.now];show _<=100000;omega) fun a ha=>?_;obtain⟨_,c,hc,e⟩:=gB hx (Ez ha).2;rw[e,nr hc];rfl
theorem z8(h:StOk w s)(hw:w<=100)(hx:Turns x)(hl:x.length=w):bB (s.2.1.zip<|s.1.zip<|aU x) (fun(a:Int×Cd×Tx)=>(n6 a.2.1 a.2.2).bind fun y56=>CT<|a.1+y56)=.ok (NW s x):=by
 unfold NW;refine cE (by simp[dA,h.len,h.now];show _<=100000;omega) fun a ha=>?_;obtain⟨_,c,hc,e⟩:=gB hx (Ez ha).2;rw[e,j0 hc];rfl
theorem z9(h:StOk w s)(hw:w<=100)(hx:Turns x)(hl:x.length=w):bB (s.1.zip<|aU x) (fun(a:Cd×Tx)=>vh a.1 a.2)=.ok (CW s x):=by
 unfold CW;refine cE (by simp[dA,h.len];show _<=100000;omega) fun a ha=>?_;obtain⟨_,c,hc,e⟩:=gB hx ha;rw[e,rj hc];rfl
theorem za(h:StOk w s)(hw:w<=100)(hx:Turns x)(hl:x.length=w):bB (s.1.zip<|aU x) (fun(a:Cd×Tx)=>uz a.1 a.2)=.ok (CW s x):=by
 unfold CW;refine cE (by simp[dA,h.len];show _<=100000;omega) fun a ha=>?_;obtain⟨_,c,hc,e⟩:=gB hx ha;rw[e,rn hc];rfl
theorem xM(h:StOk w s)(hw:w<=100)(hl:x.length=w):bB (s.2.2.1.zip<|NW s x) (fun(a:Int×Int)=>CT (if dq a.2>a.1 then dq a.2 else a.1))=.ok (FW s x):=cE (by simp[h.far];show _<=100000;omega) fun a _=>rfl
theorem AD(h:StOk w s)(hw:w<=100)(hx:Turns x)(hl:x.length=w):bB ((CW s x).zip (aU x)) (fun(a:Cd×Tx)=>vk a.1 a.2)=.ok (eF (CW s x) x):=by
 have:eF (CW s x) x=((CW s x).zip (aU x)).map fun a=>nq a.1 (a.2.headD 0):=by
  unfold eF;rw[gQ,GI];rfl
 rw[this];refine cE (by simp[dA,uT h hl];show _<=100000;omega) fun a ha=>?_;obtain⟨h1,c,hc,e⟩:=gB hx ha;rw[e,x5 (pY h _ h1) hc];rfl
theorem zb(h:StOk w s)(hw:w<=100)(hl:x.length<=1000):(((qw x).bind fun y13=>CT<|!decide (y13=(s.1.length:Int))).bind fun y35=>if y35 then CT true else((i7 (aU x) (fun(a14:Tx)=>((zU a14 ([102,98,105]:Tx)).bind fun c=>CT<|!c).bind fun y24=>if y24 then CT (some a14)else CT none)).bind fun y33=>CT (y33.length:Int)).bind fun y34=>CT<|decide<|(0:Int)<y34)=CT (!nt x w):=by
 rw[lU (by omega),CK,CK,h.len];unfold nt;by_cases z:x.length=w
 ·rw[if_neg (by simp[z]),decide_eq_true z,Lh];rw[mP (g:=fun t=>if gA (t.headD 0)=true then none else some t) (by rw[dA];omega) (fun t ht=>by
   obtain⟨c,hc,rfl⟩:=gK ht;show((CT (([102,98,105]:Tx).contains c)).bind fun c=>CT (!c)).bind _=_;rw[gW,CK,CK];show(if(!gA c)=true then CT (some [c])else CT none)=CT (if gA c=true then none else some [c]);cases gA c<;>rfl),CK,CK]
  congr 1;rw[Ef,decide_eq_true_iff,GL,List.all_eq_false];constructor
  ·intro hp;have hne:((aU x).filterMap fun t=>if gA (t.headD 0)=true then none else some t)≠[]:=fun q=>by rw[q]at hp;exact absurd hp (by decide)
   obtain⟨t,ht⟩:=List.exists_mem_of_ne_nil _ hne;obtain⟨u,hu,e⟩:=Gn.mp ht;obtain⟨c,hc,rfl⟩:=gK hu;refine⟨c,hc,fun q=>?_⟩;rw[if_pos (show gA ([c].headD 0)=true from q)]at e;cases e
  ·rintro ⟨c,hc,hn⟩;have:[c]∈((aU x).filterMap fun t=>if gA (t.headD 0)=true then none else some t):=Gn.mpr ⟨[c],Di.mpr ⟨c,hc,rfl⟩,if_neg hn⟩;have:=ID this;omega
 ·rw[if_pos (by simp[z];omega),decide_eq_false z,IX];rfl
theorem uU(hn:1<=(NW s x).length)(hw:(NW s x).length<=100)(most:Int):∃b,(((bB (NW s x)<|fun(a62:Int)=>CT<|dq a62).bind fun y71=>vT y71).bind fun y72=>CT<|decide<|most<y72)=.ok b/\((bB (NW s x)<|fun(a24:Int)=>CT<|decide<|most<dq a24).bind fun y33=>CT<|y33.any id)=.ok b:=by
 have hl:(NW s x).length<=100000:=by omega
 rw[cE (g:=fun a=>dq a) hl<|fun _ _=>rfl,cE (g:=fun a=>decide<|most<dq a) hl<|fun _ _=>rfl,CK,CK];obtain⟨m,e,h1,h2⟩:=xc (l:=(NW s x).map fun a=>dq a) (fun z=>by have:=congrArg Ex z;simp at this;rw[this]at hn;simp at hn);rw[e,CK];refine⟨_,rfl,?_⟩;congr 1;rw[Ef,decide_eq_true_iff,H9];constructor
 ·rintro ⟨b,hb,hb2⟩;obtain⟨a,ha,rfl⟩:=Di.mp hb;have:=h2 _<|Di.mpr ⟨a,ha,rfl⟩;have:most<dq a:=of_decide_eq_true hb2;omega
 ·intro hm;obtain⟨a,ha,e⟩:=Di.mp h1;exact⟨_,Di.mpr ⟨a,ha,rfl⟩,decide_eq_true (by rw[e];exact hm)⟩
theorem uV(h:StOk w s)(hw0:1<=w)(hw:w<=100)(hl:x.length=w):∃T R:Sp,uy s.1 x=.ok T/\bU zw (s.1.zip<|aU x) s.2.2.2=.ok R/\
    ((((bB (R.map (·.1))<|fun(a154:Tx)=>getD R a154).bind fun y164=>ui y164).bind fun y165=>CT<|decide<|y165< (0:Int))=.ok true/\vj s.2.2.2 T=.err 6\/
     (((bB (R.map (·.1)) (fun(a154:Tx)=>getD R a154)).bind fun y164=>ui y164).bind fun y165=>CT (decide (y165<(0:Int))))=.ok false/\vj s.2.2.2 T=.ok R/\(ky R).Nodup/\(∀p∈R,0<=p.2)/\R.length<=100):=by
  have hL:=x9 h.card x;rw[h.len]at hL;obtain⟨T,eT,t1,t2,t3,t4,_⟩:=oE (jV s.1 x) [] Kx (by simp;omega);obtain⟨R,eR,r1,r2,r3,r4,r5⟩:=oE ((jV s.1 x).map fun p=>(p.1, -p.2)) s.2.2.2 h.nd (by have:=h.sm;simp;omega);have kyn:ky ((jV s.1 x).map fun p=>(p.1, -p.2))=ky (jV s.1 x):=by unfold ky;rw[GI];rfl
  have tz:∀p∈T,p.2=iy (jV s.1 x) p.1:=fun p hp=>by
    have:=fi t1 hp;rw[t2]at this;have g0:bJ ([]:Sp) p.1 0=0:=rfl;omega
  have tk:∀k,k∈ky T↔k∈ky (jV s.1 x):=fun k=>by rw[t3];simp[ky]
  have klen:∀k∈ky (jV s.1 x),k.length<=100:=fun k hk=>by
    obtain⟨p,hp,rfl⟩:=Di.mp hk;exact(pX p hp).2
  have tp:∀p∈T,0<p.2/\p.1.length<=100:=fun p hp=>by
    have hk:p.1∈ky (jV s.1 x):=(tk _).mp (Di.mpr ⟨p,hp,rfl⟩);exact⟨by rw[tz p hp];exact uJ (fun q hq=>(pX q hq).1) hk,klen _ hk⟩
  have rz:∀k,bJ R k 0=bJ s.2.2.2 k 0-iy (jV s.1 x) k:=fun k=>by rw[r2,uK];omega
  have vs:bB (R.map (·.1)) (fun(a154:Tx)=>getD R a154)=.ok (R.map (·.2)):=by
    have e1:bB (R.map (·.1)) (fun(a154:Tx)=>getD R a154)=.ok ((R.map (·.1)).map fun k=>bJ R k 0):=cE (by have:=h.sm;simp at r4 ⊢;show _<=100000;omega) fun k hk=>by
      obtain⟨v,hv⟩:=look_mem.mp (show k∈ky R from hk);unfold getD bJ;rw[hv];rfl
    rw[e1,GI];congr 1;exact Gb fun p hp=>fi r1 hp
  have hc:∃k,k∈ky (jV s.1 x):=by
    obtain⟨t,ts,e1⟩:∃t ts,s.1=t::ts:=by
      cases q:s.1 with
      |nil=>have:=h.len;rw[q]at this;simp at this;omega
      |cons t ts=>exact⟨t,ts,rfl⟩
    obtain⟨c,cx,e2⟩:∃c cx,x=c::cx:=by
      cases q:x with
      |nil=>rw[q]at hl;simp at hl;omega
      |cons t ts=>exact⟨t,ts,rfl⟩
    have f4:=(h.card t (by rw[e1];simp)).four;obtain⟨a,b,c',d,e3⟩:=four f4;refine⟨[a],Di.mpr ⟨([a],rp c),?_,rfl⟩⟩;unfold jV;rw[e1,e2,List.zip_cons_cons,JO];refine Et _ ?_;rw[e3];simp
  have hRn:0<(R.map (·.2)).length:=by
    obtain⟨k,hk⟩:=hc;have:k∈ky R:=(r3 k).mpr (.inr (by rw[kyn];exact hk));unfold ky at this;have:=ID this;simpa using this
  rw[uR,xa];refine⟨T,R,eT,eR,?_⟩;rw[vs,CK,show ui (R.map (·.2))=.ok (qZ (R.map (·.2)))from bo hRn,CK];have sm:=h.sm;unfold vj Be;by_cases good:∀p∈T,p.2<=bJ s.2.2.2 p.1 0
  · right;obtain⟨D,eD,d1,d2⟩:=nj T s.2.2.2 t1 h.nd (by omega) tp good;have inS:∀k∈ky (jV s.1 x),iy (jV s.1 x) k<=bJ s.2.2.2 k 0/\k∈ky s.2.2.2:=fun k hk=>by
      obtain⟨p,hp,rfl⟩:=Di.mp<|(tk k).mpr hk;have g1:=good p hp;have g2:=(tp p hp).1;refine⟨by rw[<-tz p hp];exact g1,Eb fun z=>?_⟩;rw[fA z]at g1;omega
    have kR:ky R=ky s.2.2.2:=r5 fun p hp=>by
      obtain⟨q,hq,rfl⟩:=Di.mp hp;exact(inS q.1<|Di.mpr ⟨q,hq,rfl⟩).2
    have eq:D=R:=uH (by rw[d1];exact h.nd) (d1.trans kR.symm) fun k=>by
      rw[d2,rz];have:bJ T k 0=iy (jV s.1 x) k:=by rw[t2];show 0+_=_;omega
      rw[this]
    have nn:∀p∈R,0<=p.2:=fun p hp=>by
      have g1:=fi r1 hp;rw[rz]at g1;have kp:p.1∈ky s.2.2.2:=by rw[<-kR];exact Di.mpr ⟨p,hp,rfl⟩
      obtain⟨q,hq,eq⟩:=Di.mp kp;have g2:=fi h.nd hq;have g3:=h.nn q hq;have eq:q.1=p.1:=eq;rw[eq]at g2;by_cases z:p.1∈ky (jV s.1 x)
      · have:=(inS _ z).1;omega
      · rw[uL z]at g1;omega
    have lR:R.length=s.2.2.2.length:=by
      have:=congrArg Ex kR;unfold ky at this;simpa using this
    refine⟨?_,by rw[eD,CK,eq],by rw[kR];exact h.nd,nn,by omega⟩;congr 1;rw[decide_eq_false_iff_not];obtain⟨p,hp,e⟩:=Di.mp<|mY hRn;have:=nn p hp;omega
  · left;have bad:∃p∈T,bJ s.2.2.2 p.1 0<p.2:=by
      refine Eb fun z=>good fun p hp=>?_;refine Eb fun y=>z ⟨p,hp,by omega⟩
    refine⟨?_,by rw[lg T s.2.2.2 t1 h.nd (by omega) tp bad];rfl⟩;obtain⟨p,hp,hlt⟩:=bad;congr 1;rw[decide_eq_true_iff];have hk:p.1∈ky (jV s.1 x):=(tk _).mp (Di.mpr ⟨p,hp,rfl⟩);have:p.1∈ky R:=(r3 p.1).mpr (.inr (by rw[kyn];exact hk));obtain⟨q,hq,e⟩:=Di.mp this;have e:q.1=p.1:=e;have g1:=fi r1 hq;rw[rz,e,<-tz p hp]at g1;have:=pQ (Di.mpr ⟨q,hq,rfl⟩:q.2∈R.map (·.2));omega
end
abbrev AE:Tx:=[114,111,119]
abbrev AF:Tx:=[102,108,105,112]
def rowD(x:Tx):Dat:=.t [.s AE,.s x]
def flipD(k:Int):Dat:=.t [.s AF,.i k]
abbrev AG:Tx:=[66,97,100,82,111,119]
abbrev uW:Tx:=[84,111,111,84,105,103,104,116]
abbrev AH:Tx:=[83,112,111,111,108,68,114,121]
def stg(s:STT)(d:Dat)(p:Option (List Pl)):eZ:=(d,s.1,s.2.1,s.2.2.1,s.2.2.2,p)
theorem uX{w:Nat}(hw0:1<=w)(hw:w<=100){s:STT}(h:StOk w s){x:Tx}(hx:x.length<=1000)(most:Int)(d:Dat)(p:Option (List Pl)):
  (m7 s x most=.ok (.inl AG)/\pS (stg s d p) x most=.err 1)\/(m7 s x most=.ok (.inl uW)/\pS (stg s d p) x most=.err 5)\/(m7 s x most=.ok (.inl AH)/\pS (stg s d p) x most=.err 6)\/
  ∃s',m7 s x most=.ok (.inr s')/\pS (stg s d p) x most=.ok (stg s' (rowD x)<|some<|eF s'.1 x)/\StOk w s'/\Turns x:=by
 unfold m7 Ba pS Bi;rw[zb h hw hx];have er:vi x ((stg s d p).2.1.length:Int)=.ok (nt x w):=by rw[show(stg s d p).2.1.length=w from h.len];exact rm (by omega) w
 rw[er,CK,CK,CK];cases hr:nt x w with
 |false=>exact .inl ⟨rfl,rfl⟩
 |true=>
  obtain⟨hl,ht⟩:=oF hr;rw[show(!true)=false from rfl,if_neg (by decide),if_neg (by decide),z7 h hw ht hl,CK];rw[show bB ((stg s d p).2.2.1.zip ((stg s d p).2.1.zip (aU x))) (fun(a7:Int×Cd×Tx)=>(n6 a7.2.1 a7.2.2).bind fun y18=>CT<|a7.1+y18)=CT (NW s x)from z8 h hw ht hl,CK];have nl:=uS h hl;obtain⟨b,e1,e2⟩:=uU (s:=s) (x:=x) (by omega) (by omega) most;rw[e1,e2,CK,CK];cases b with
  |true=>exact .inr<|.inl ⟨rfl,rfl⟩
  |false=>
   rw[if_neg (by decide),if_neg (by decide)];obtain⟨T,R,eT,eR,hTR⟩:=uV h hw0 hw hl;rw[eR,CK,show uy (stg s d p).2.1 x=CT T from eT,CK,show(stg s d p).2.2.2.2.1=s.2.2.2 from rfl];rcases hTR with⟨g1,g2⟩|⟨g1,g2,g3,g4,g5⟩
   ·rw[g1,g2,CK];exact .inr<|.inr<|.inl ⟨rfl,rfl⟩
   ·rw[g1,g2,CK,if_neg (by decide),xM h hw hl,CK,z9 h hw ht hl,CK,CK,CK];refine .inr<|.inr<|.inr ⟨(CW s x,NW s x,FW s x,R),rfl,?_,⟨uT h hl,pY h,nl,z6 h hl,g3,g4,g5⟩,ht⟩;rw[show bB ((stg s d p).2.2.2.1.zip (NW s x)) (fun(a45:Int×Int)=>CT (if dq a45.2>a45.1 then dq a45.2 else a45.1))=CT (FW s x)from xM h hw hl,CK,show bB ((stg s d p).2.1.zip (aU x)) (fun(a61:Cd×Tx)=>uz a61.1 a61.2)=CT (CW s x)from za h hw ht hl,CK,AD h hw ht hl,CK];rfl
abbrev EN:=STT×Dat
abbrev AI:Tx:=[114,101,102,117,115,101,100]
abbrev uY:Tx:=[116,111,108,100]
def beginD:Dat:=.t [.s [98,101,103,105,110],.i 0]
def BI(p:Pl):Dat:=.t [.s p.1,.s p.2.1,.s p.2.2]
def rq(l:List Pl):Dat:=.l<|l.map BI
def uZ(d:Dat):Dat:=.t [.s uY,d]
def lh(n:Tx):Dat:=.t [.s AI,.l [.s n]]
def AJ:Dat->Option Tx
 | .t [.s t,.s x]=>if t=AE then some x else none
 |_=>none
def zy(e:EN):Option (List Pl):=(AJ e.2).map (eF e.1.1)
def sgOf(e:EN):eZ:=stg e.1 e.2<|zy e
structure IsE(w:Nat)(e:EN):Prop where
 st:StOk w e.1
 de:(∃x,e.2=rowD x/\Turns x)\/∃k,e.2=flipD k
structure Sim(w:Nat)(most:Int)(n:Nat)(L:Z03)(st und:List EN):Prop where
 ex:∃s0 tl,st=(s0,beginD)::tl/\StOk w s0/\(∀e∈tl,IsE w e)/\L=(most,stg s0 .n none,tl.map sgOf,und.map sgOf)/\tl.length+und.length<=n
 un:∀e∈und,IsE w e
theorem IsE.le{w:Nat}{e:EN}(h:IsE w e):e.2.le 20:=by
 rcases h.de with⟨x,e1,_⟩|⟨k,e1⟩
 ·rw[e1];unfold rowD;simp[J6]
 ·rw[e1];unfold flipD;simp[J6]
theorem j4:∀(n:Nat)(d:Dat),d.le n->d.le (n+1)
 |0,d,h=>by
  cases d with
  |t xs=>exact h.elim
  |l xs=>exact h.elim
  |_=>trivial
 |n+1,d,h=>by
  cases d with
  |t xs=>exact fun x hx=>j4 n x<|h x hx
  |l xs=>exact fun x hx=>j4 n x<|h x hx
  |_=>trivial
theorem xf{d:Dat}(h:d.le 20):(uZ d).le 24:=by
 have h1:=j4 22 d<|j4 21 d<|j4 20 d h;unfold uZ;show ∀x∈[Fv uY,d],J6 23 x;intro x hx;rcases D7.mp hx with rfl|hx
 ·trivial
 ·rw[Fu.mp hx];exact h1
theorem zc(l:List Pl):(rq l).le 20:=by
 unfold rq;show ∀x∈l.map BI,J6 19 x;intro x hx;obtain⟨p,_,rfl⟩:=Di.mp hx;unfold BI;simp[J6]
theorem lj{α:Type}(a:α)(l:List α):∃b,iW (a::l) (-(1:Int))=.ok b/\(a::l)[l.length]? =some b/\(l=[]->b=a)/\(l≠[]->l[l.length-1]? =some b):=by
 have hb:(a::l)[l.length]? =some (a::l)[l.length]:=Dj (by simp);refine⟨_,?_,hb,fun z=>by subst z;rfl,fun z=>?_⟩
 ·unfold iW rF;have:ixN (a::l).length (-(1:Int))=some l.length:=by
   unfold ixN;rw[if_neg (by decide),if_pos (by simp;omega)];congr 1;simp;omega
  rw[this];show lL ((a::l)[l.length]?)=_;rw[hb];rfl
 ·cases l with
  |nil=>exact absurd rfl z
  |cons c l=>simp
theorem pZ{w:Nat}{most:Int}{n:Nat}{L:Z03}{st und:List EN}(S:Sim w most n L st und):∃s d d' p,iW st (-(1:Int))=.ok (s,d')/\fO L=.ok (stg s d p)/\StOk w s:=by
 obtain⟨s0,tl,rfl,h0,h1,rfl,_⟩:=S.ex;obtain⟨b,e1,e2,e3,e4⟩:=lj (s0,beginD) tl;unfold fO Ai;cases tl with
 |nil=>
  have:b=(s0,beginD):=e3 rfl;subst this;exact⟨s0,.n,beginD,none,e1,rfl,h0⟩
 |cons e tl=>
  have hb:=e4 (by simp);have he:=h1 b<|DZ hb;refine⟨b.1,b.2,b.2,zy b,e1,?_,he.st⟩;rw[if_pos (by rfl)];obtain⟨c,f1,f2,_,_⟩:=lj (sgOf e)<|tl.map sgOf;show iW (sgOf e::tl.map sgOf) (-(1:Int))=_;rw[f1];have:(sgOf e::tl.map sgOf)[(tl.map sgOf).length]? =some (sgOf b):=by
   rw[<-DO,DQ,Dq];have:(e::tl)[tl.length]? =some b:=by simpa using hb
   rw[this];rfl
  rw[this]at f2;cases f2;rfl
theorem va{L:Z03}{g:eZ}(h:L.2.2.1.length<=1000):uA L [g]=.ok ((L.1,L.2.1,L.2.2.1++[g],[]),()):=by
 unfold uA Al;rw[if_pos (show(![g].isEmpty)=true from rfl),show wk L.2.2.1 [g]=.ok (L.2.2.1++[g])from bo (by show _<=100000;simp;omega),CK,CK]
theorem xg(n:Tx):(lh n).le 24:=by unfold lh;simp[J6]
theorem Sim.app{w:Nat}{most:Int}{n:Nat}{L:Z03}{st und:List EN}(S:Sim w most n L st und){e:EN}(h:IsE w e):Sim w most (n+1) (L.1,L.2.1,L.2.2.1++[sgOf e],[]) (st++[e]) []:=by
 obtain⟨s0,tl,rfl,h0,h1,rfl,h2⟩:=S.ex;refine⟨⟨s0,tl++[e],rfl,h0,fun x hx=>?_,by simp,by simp;omega⟩,fun _ z=>(nomatch z)⟩;rcases Ff.mp hx with z|z;·exact h1 x z
 ·rw[Fu.mp z];exact h
theorem Sim.up{w:Nat}{most:Int}{n:Nat}{L:Z03}{st und:List EN}(S:Sim w most n L st und):Sim w most (n+1) L st und:=by
 obtain⟨s0,tl,a,b,c,d,e⟩:=S.ex;exact⟨⟨s0,tl,a,b,c,d,by omega⟩,S.un⟩
theorem Sim.len{w:Nat}{most:Int}{n:Nat}{L:Z03}{st und:List EN}(S:Sim w most n L st und):L.1=most/\L.2.2.1.length<=n/\L.2.2.2.length<=n/\st.length<=n+1/\und.length<=n:=by
 obtain⟨s0,tl,rfl,b,c,rfl,e⟩:=S.ex;simp;omega
section
variable{w:Nat}{most:Int}{n:Nat}{L:Z03}{st und:List EN}
theorem rA{α:Type}(l:List α)(a:α):iW (l++[a]) (-(1:Int))=.ok a:=by
 unfold iW rF;have:ixN (l++[a]).length (-(1:Int))=some l.length:=by
  unfold ixN;rw[if_neg (by decide),if_pos (by simp;omega)];congr 1;simp;omega
 rw[this];simp[lL]
end
theorem oH{n:Nat}{i:Int}(h:i∈fk (n:Int)):0<=i/\i<n:=by
 unfold fk at h;obtain⟨k,hk,rfl⟩:=Di.mp h;have:=Hy.mp hk;omega
theorem q9{α γ:Type}{f:α->Unit->Res (Fl γ Unit)}(xs:List α)(h:∀a∈xs,f a ()=.ok (.nx ())):gU f xs ()=.ok (.nx ()):=by
 obtain⟨s,e,_⟩:=mM (f:=f) (fun _ _=>True) xs () trivial fun pre a post s e _=>⟨(),h a (by rw[e];simp),trivial⟩
 exact e
section
variable{w:Nat}{most:Int}{n:Nat}{L:Z03}{st und:List EN}
theorem xh(hn:n<=900)(S:Sim w most n L st und):vn L=.ok (st.filterMap zy):=by
 obtain⟨_,l2,_,l4,_⟩:=S.len;obtain⟨s0,tl,rfl,h0,h1,rfl,h2⟩:=id S.ex;unfold vn Aq;rw[mP (g:=fun a:eZ=>a.2.2.2.2.2) (by omega) (fun a _=>by
  cases q:a.2.2.2.2.2 with
  |none=>rfl
  |some v=>rfl)]
 show CT ((tl.map sgOf).filterMap _)=_;rw[List.filterMap_map];rfl
theorem vb(hn:n<=900)(S:Sim w most n L st und):vo L=.ok ((st.drop 1).map (·.2)):=by
 obtain⟨_,l2,_,l4,_⟩:=S.len;obtain⟨s0,tl,rfl,h0,h1,rfl,h2⟩:=id S.ex;unfold vo Ar;rw[cE (g:=fun a:eZ=>a.1) (by show _<=100000;omega)<|fun a _=>rfl];show CT ((tl.map sgOf).map _)=_;rw[GI];rfl
theorem rB(hw:w<=100)(hn:n<=900)(S:Sim w most n L st und):∃s d',iW st (-(1:Int))=.ok (s,d')/\lZ L s (st.filterMap zy) ((st.drop 1).map (·.2))=.ok true:=by
 obtain⟨s,d,d',p,e1,e2,hs⟩:=pZ S;refine⟨s,d',e1,?_⟩;unfold lZ Ax;have a1:vm L=.ok s.1:=by unfold vm Ap;rw[e2];rfl
 rw[a1,CK,iM rfl,CK,CK,xh hn S,CK,iM rfl,CK,if_neg (by decide),CK,if_neg (by decide),vb hn S,CK,CK];have hle:(JS (((st.drop 1).map (·.2)).map fun(z:Dat)=>z)).le 24:=by
  show ∀x∈((st.drop 1).map (·.2)).map fun(z:Dat)=>z,J6 23 x;intro x hx;rw[List.map_id']at hx;obtain⟨e,he,rfl⟩:=Di.mp hx;obtain⟨s0,tl,rfl,h0,h1,rfl,h2⟩:=id S.ex;exact j4 22 _<|j4 21 _<|j4 20 _ (h1 e he).le
 rw[nW rfl hle,CK,CK,if_neg (by decide),jI (by rw[hs.len];show _<=100000;omega),CK];rw[q9 (f:=Aw pT pU L s) _ (fun a ha=>by
  obtain⟨g0,g1⟩:=oH ha;rw[hs.len]at g1;unfold Aw;obtain⟨v,ev,_⟩:=ff (xs:=s.2.1) g0 (by rw[hs.now];exact g1);obtain⟨u,eu,_⟩:=ff (xs:=s.2.2.1) g0 (by rw[hs.far];exact g1);have t1:pT L a=.ok v:=by unfold pT As;rw[e2];exact ev
  have t2:pU L a=.ok u:=by unfold pU Au;rw[e2];exact eu
  rw[t1,t2,ev,eu,CK,CK,iM rfl,CK,CK,if_neg (by decide),CK,CK,iM rfl];rfl),CK]
 show((gU (zx oy L s) _ ()).bind _)=_;rw[q9 (f:=zx oy L s) _ (fun a ha=>by
  unfold zx;have t1:oy L a=.ok (bJ s.2.2.2 a 0):=by unfold oy Av;rw[e2];rfl
  rw[t1,CK,iM rfl];rfl)]
 rfl
end
def Gd(d:Sp):Prop:=(ky d).Nodup/\∀p∈d,0<=p.2
theorem xi{d:Sp}{k:Tx}{v:Int}{p:Tx×Int}(h:p∈ee d k v):p∈d\/p.2=v:=by
 unfold ee at h;split at h
 ·obtain⟨q,hq,e⟩:=Di.mp h;by_cases z:q.1=k;·rw[if_pos z]at e;right;rw[<-e]
  ·rw[if_neg z]at e;left;rw[<-e];exact hq
 ·rcases Ff.mp h with z | z;·exact .inl z
  ·right;rw[Fu.mp z]
theorem Gd.put{d:Sp}(h:Gd d)(k:Tx){v:Int}(hv:0<=v):Gd (ee d k v):=⟨uI h.1 k v,fun p hp=>by
 rcases xi hp with z|z;·exact h.2 p z
 ·rw[z];exact hv⟩
def zz(i:Nat)(s:Int×Sp):Prop:=s.1=i/\Gd s.2/\s.2.length<=2*i
theorem oI{d:Sp}{k:Tx}{a:Int}(h:d.length<100000):fm d k a=.ok (ee d k a):=bo h
theorem rC{c:Int}{ds:List Int}(hd:ds.length=40)(hv:∀x∈ds,0<=x/\x<997){i:Nat}(hi:i<40){s:Int×Sp}(h:zz i s)(a:Tx):(zu c ds a s).Ok (zz<|i+1):=by
 obtain⟨h1,h2,h3⟩:=h;unfold zu;obtain⟨v,ev,hm⟩:=ff (xs:=ds) (i:=s.1) (by omega) (by rw[hd];omega);have hv0:=(hv v<|DZ hm).1;rw[ev,CK,CK,CK];have p1:=jl s.2 a v;have p2:=jl (ee s.2 a v) a 999999999;refine zl (Res.Ok.imp (P:=fun d:Sp=>Gd d/\d.length<=2*(i+1)) (zl ?_) fun d hd=>okR ⟨by show s.1+1=_;omega,hd.1,hd.2⟩);have key:∀b:Bool,(if b=true then((CT v).bind fun y80=>fm s.2 a y80).bind fun y81=>(if(decide<|(c%3)=(0:Int))=true then(fm y81 a (999999999:Int)).bind fun y91=>CT y91 else CT y81:Res di).bind fun s93=>CT s93 else CT s.2:Res di).Ok fun d:Sp=>Gd d/\d.length<=2*(i+1):=fun b=>by
  refine Bx (fun _=>?_) fun _=>okR ⟨h2,by omega⟩;rw[CK,oI (by omega),CK];refine zl (yz (fun _=>?_) fun _=>okR (okR ⟨h2.put a hv0,by omega⟩));rw[oI (by omega),CK];exact okR (okR ⟨(h2.put a hv0).put a (by decide),by omega⟩)
 exact Bx (fun _=>okR<|key _) fun _=>okR<|key _
theorem rD{c:Int}{ds:List Int}(hd:ds.length=40)(hv:∀x∈ds,0<=x/\x<997){t:Cd}(ht:Card t){i:Nat}(hi:i+4<=40){s:Int×Sp}(h:zz i s):(zv c ds t s).Ok (zz<|i+4):=by
 unfold zv;have hl:(aU t.2.1).length=4:=by unfold aU;rw[Dq];exact ht.four
 obtain⟨s',e,hs⟩:=gh (f:=zu c ds) (fun pre(s:Int×Sp)=>zz (i+pre.length) s) (aU t.2.1) (s.1,s.2) h (by
  intro pre a post s e hs;have:pre.length<4:=by have:=congrArg Ex e;rw[hl]at this;simp at this;omega
  obtain⟨s2,e2,h2⟩:=(rC (c:=c) hd hv (by omega) hs a).ex;exact⟨s2,e2,by rw[Du];exact h2⟩)
 rw[e,CK];rw[hl]at hs;exact okR hs
theorem rE{l:List Cd}(hl:l.length<=8)(hc:∀t∈l,Card t)(c:Int):(wJ l c).Ok fun d=>Gd d/\d.length<=100:=by
 unfold wJ B1;obtain⟨ds,e,hd,hv⟩:=oA (c/3) 40 997 (by decide) (by decide) (by decide);rw[show jS (c/3) 40 997=CT ds from e,CK];obtain⟨s,es,h1,h2,h3⟩:=gh (f:=zv c ds) (fun pre(s:Int×Sp)=>zz (4*pre.length) s) l (0,[]) ⟨rfl,⟨Kx,fun _ z=>(nomatch z)⟩,D8 _⟩ (by
  intro pre a post s e hs;have:pre.length<8:=by have:=congrArg Ex e;simp at this;omega
  obtain⟨s2,e2,h2⟩:=(rD (c:=c) hd hv (hc a (by rw[e];simp)) (by omega) hs).ex;exact⟨s2,e2,by rw[Du];exact h2⟩)
 rw[es,CK];obtain⟨v,ev,_⟩:=ff (xs:=ds) (i:=39) (by decide) (by rw[hd];decide);obtain⟨u,eu,hm⟩:=ff (xs:=ds) (i:=38) (by decide) (by rw[hd];decide);have hu:=hv u<|DZ hm;rw[ev,eu,CK,CK,CK,CK,CK,CK,CK,CK];refine zl (Bx (fun _=>?_) fun _=>okR (okR ⟨h2,by omega⟩));rw[mL (by omega) (by omega),CK,oI (by omega),CK];have p:=jl s.2 [113] (u*(if decide (0<u%3)=true then 1 else 0));exact okR (okR ⟨h2.put _ (Int.mul_nonneg hu.1 (by split<;>decide)),by omega⟩)
theorem vc{s:List Int}(hs:s.length<=63)(k n:Nat)(h:k+n<=200):(vg s (k:Int) (n:Int)).Ok fun l=>l.length=n/\∀t∈l,Card t:=by
 unfold vg AY;rw[iL (by omega),CK];obtain⟨ys,e,hl,hp⟩:=tm (f:=fun(a1:Int)=>(ir s<|(k:Int)+a1).bind fun y9=>vf y9) (P:=fun _ t=>Card t) (xs:=(FQ n).map fun(i:Nat)=>(i:Int)) (by simp;omega) (fun x hx=>by
  obtain⟨i,hi,rfl⟩:=Di.mp hx;have:=Hy.mp hi;obtain⟨c,ec⟩:=lb hs (k+i) (by omega);rw[show(k:Int)+(i:Int)=((k+i:Nat):Int)from rfl,ec,CK];exact x6 c)
 rw[e];simp only[Dq,JP]at hl;refine okR ⟨hl,fun t ht=>?_⟩;obtain⟨i,hi⟩:=IT.mp ht;have:i<n:=by
  have:=(CP.mp hi).1;omega
 exact hp i (i:Int) t (by simp[this]) hi
theorem xj(c:Int):∃k,wO c=.ok [k]:=by
 unfold wO B3;rw[cN (by decide),CK];obtain⟨k,e,_⟩:=ij (x:=(([32,33,34,35,36,38,39,40,41,42,43,44,45,46,47,48,49,50,51,52,53,54,55,56,57,58,59,60,61,62,63,64,65,66,67,68,69,70,71,72,73,74,75,76,77,78,79,80,81,82,83,84,85,86,87,88,89,90,91,92,93,94,95,96]:Tx)++([97,98,99,100,101,102,103,104,105,106,107,108,109,110,111,112,113,114,115,116,117,118,119,120,121,122,123,124,125,126,10]:Tx))) (i:=c%95) (E9 _ (by decide)) (Int.lt_of_lt_of_le (DS _ (by decide)) (by decide)) (by decide);exact⟨k,e⟩
theorem vd{x:Tx}(hl:x.length<=10000)(c:Int):(wQ x c).Ok fun y=>y.length<=x.length+2:=by
 unfold wQ B4;obtain⟨k,ek⟩:=xj<|c/7;have L:∀lo hi,(cut x lo hi).length<=x.length:=fun lo hi=>pA x lo hi;have hx:x.length<=100000:=by omega
 rw[lU hx];simp only[CK];rw[jg (by omega)];simp only[CK,ek,pz hx];have b0:=E9 (c/5) (show(x.length:Int)+1≠0 by omega);have b1:=DS (c/5) (show(0:Int)<(x.length:Int)+1 by omega);obtain⟨i,hi⟩:∃i:Nat,c/5%((x.length:Int)+1)=(i:Int):=⟨(c/5%((x.length:Int)+1)).toNat,by omega⟩
 rw[hi]at b1 ⊢;have ei:i<=x.length:=by omega
 rw[show(i:Int)+1=((i+1:Nat):Int)from rfl,show(i:Int)+2=((i+2:Nat):Int)from rfl];simp only[mQ,tu];have mid:∀a b:Nat,(cut x (some (a:Int))<|some (b:Int)).length<=b-a:=fun a b=>by
  unfold cut sIx;simp only[FI,G9];split<;>split<;>omega
 have m1:=mid i<|i+1;have m2:=mid (i+1)<|i+2;generalize cut x (some (i:Int)) (some ((i+1:Nat):Int))=u at*
 generalize cut x (some ((i+1:Nat):Int)) (some ((i+2:Nat):Int))=v at*
 refine yz (fun _=>?_) fun _=>yz (fun _=>?_) fun _=>yz (fun _=>?_) fun _=>yz (fun _=>?_) fun _=>?_;·rw[cN (by simp;omega),CK,cN (by simp;omega)];show Ex _<=_;simp;omega
 ·rw[cN (by simp;omega)];show Ex _<=_;simp;omega
 ·rw[cN (by simp;omega),CK,cN (by simp;omega)];show Ex _<=_;simp;omega
 ·rw[cN (by simp;omega),CK,cN (by simp;omega)];show Ex _<=_;simp;omega
 ·rw[cN (by omega),CK,cN (by simp;omega),CK,cN (by simp;omega)];show Ex _<=_;simp;omega
theorem oJ(c:Int){w:Nat}(hw:w<=8):(rg c (w:Int)).Ok fun x=>x.length<=1000:=by
 unfold rg B6;refine yz (fun _=>?_) fun _=>yz (fun _=>?_) fun _=>?_
 ·rw[pz (by simp),CK];have h:=pA ([102,98,105,98,102,98,105,102]:Tx) none<|some (w:Int);simp only[DW,FY]at h;exact(vd (by omega) _).imp fun x hx=>by omega
 ·obtain⟨y,e,hy⟩:=oG (c/ 9% 3) (E9 _ (by decide)) (DS _ (by decide));rw[e,CK,pw (by omega) (by omega)];exact okR (by simp;omega)
 ·obtain⟨t,e,hl,_⟩:=uQ (c/ 9) w (by omega);rw[e];exact okR (by omega)
theorem zd{w:Nat}(h:w<=100):tO [(0:Int)] (w:Int)=.ok (Dh w 0):=by
 have:∀n:Nat,(Dh n [(0:Int)]).flatten=Dh n 0:=by
  intro n
  induction n with
  |zero=>rfl
  |succ n ih=>rw[Em,F0,ih,Em];rfl
 rw[show tO [(0:Int)] (w:Int)=.ok (Dh (w:Int).toNat [(0:Int)]).flatten from bo ⟨by omega,by omega,by show 1*_<=100000;omega⟩,this];rfl
def xl(dr:List Cd)(sp:Sp):STT:=(dr,Dh dr.length 0,Dh dr.length 0,sp)
theorem xm{dr:List Cd}(h:dr.length<=8)(most:Int)(sp:Sp):wL dr most sp=.ok (most,stg (xl dr sp) .n none,[],[]):=by
 unfold wL Ag wK Af;rw[zd (by omega)];rfl
theorem ve{dr:List Cd}(h:dr.length<=8)(sp:Sp):wM dr sp=.ok (xl dr sp):=by
 unfold wM B2;rw[cE (g:=fun _=>(0:Int)) (by show _<=100000;omega)<|fun _ _=>rfl,CK,CK,List.map_const'];rfl
theorem AK{dr:List Cd}(most:Int){sp:Sp}(hc:∀t∈dr,Card t)(hg:Gd sp)(hl:sp.length<=100):Sim dr.length most 0 (most,stg (xl dr sp) .n none,[],[]) [(xl dr sp,beginD)] []:=
 ⟨⟨xl dr sp,[],rfl,⟨rfl,hc,GO,GO,hg.1,hg.2,hl⟩,fun _ z=>(nomatch z),rfl,D8 _⟩,fun _ z=>(nomatch z)⟩
abbrev AL:Tx:=[119,111,118,101,110]
def nu(l:List Pl):Dat:=.t [.s AL,rq l]
theorem ze(l:List Pl):(nu l).le 24:=by
 have h:(uZ<|rq l).le 24:=xf<|zc l;unfold nu;show ∀x∈[Fv AL,rq l],J6 23 x;intro x hx;rcases D7.mp hx with rfl|hx
 ·trivial
 ·exact(show ∀x∈[Fv uY,rq l],J6 23 x from h) x (D4 _ hx)
def ll(w:Nat)(most:Int)(n:Nat)(s:STT×Z03×List (List Pl)×List Dat):Prop:=∃st d',Sim w most n s.2.1 st []/\iW st (-(1:Int))=.ok (s.1,d')/\s.2.2.1=st.filterMap zy/\s.2.2.2=(st.drop 1).map (·.2)
theorem jW{w:Nat}{most:Int}{n:Nat}(hw:w<=100)(hn:n<=900){s:STT×Z03×List (List Pl)×List Dat}(h:ll w most n s):lZ s.2.1 s.1 s.2.2.1 s.2.2.2=.ok true:=by
 obtain⟨st,d',S,e,h1,h2⟩:=h;obtain⟨s',d2,e1,e2⟩:=rB hw hn S;rw[e]at e1;cases e1;rw[h1,h2];exact e2
theorem xo{w:Nat}{most:Int}{n:Nat}(hw0:1<=w)(hw:w<=100)(hn:n<=900){s:STT×Z03×List (List Pl)×List Dat}(h:ll w most n s){x:Tx}(hx:x.length<=1000):
  (∃nm,m7 s.1 x most=.ok (.inl nm)/\ou s.2.1 x=.ok (s.2.1,lh nm))\/
  ∃s' L',m7 s.1 x most=.ok (.inr s')/\ou s.2.1 x=.ok (L',nu<|eF s'.1 x)/\ow s'.1 x=.ok (eF s'.1 x)/\s.2.2.1.length<=n+1/\s.2.2.2.length<=n+1/\ll w most (n+1) (s',L',s.2.2.1++[eF s'.1 x],s.2.2.2++[rowD x]):=by
 obtain⟨st,d',S,e,h1,h2⟩:=h;obtain⟨s1,d,d2,p,e1,e2,hs⟩:=pZ S;rw[e]at e1;cases e1;obtain⟨l1,l2,l3,l4,l5⟩:=S.len;have hwv:uB s.2.1 x=(pS (stg s.1 d p) x most).bind fun y4=>(uA s.2.1 [y4]).bind fun y9=>(lL y4.2.2.2.2.2).bind fun y10=>CT (y9.1,y10):=by
  unfold uB Am;rw[e2,CK,l1]
 have htr:ou s.2.1 x=(LJ<|uB s.2.1 x).bind fun r5=>match r5 with| .inr j7=>CT (s.2.1,nX AI j7)| .inl y6=>CT (y6.1,nu y6.2):=by
  unfold ou An;rfl
 rw[htr,hwv];rcases uX hw0 hw hs hx most d p with⟨a1,a2⟩|⟨a1,a2⟩|⟨a1,a2⟩|⟨s',a1,a2,hs',ht⟩
 ·rw[a1,a2];exact .inl ⟨AG,rfl,rfl⟩
 ·rw[a1,a2];exact .inl ⟨uW,rfl,rfl⟩
 ·rw[a1,a2];exact .inl ⟨AH,rfl,rfl⟩
 ·rw[a1,a2];have hE:IsE w (s',rowD x):=⟨hs',.inl ⟨x,rfl,ht⟩⟩
  refine .inr ⟨s',_,rfl,?_,xb hs'.card ht (by rw[hs'.len];omega),?_,?_,st++[(s',rowD x)],rowD x,S.app hE,rA _ _,?_,?_⟩
  ·rw[CK,va (by omega)];rfl
  ·rw[h1];have:=List.length_filterMap_le zy st;omega
  ·rw[h2,Dq,G9];omega
  ·show s.2.2.1++ [eF s'.1 x]=_;rw[h1,List.filterMap_append];rfl
  ·show s.2.2.2++ [rowD x]=_;obtain⟨s0,tl,rfl,_⟩:=S.ex;rw[h2];simp
theorem zf(ns:List Int)(h:ns.length<=63):(uC ns).Ok (· =true):=by
 unfold uC pV;obtain⟨c0,e0⟩:=lb h 0 (by decide);obtain⟨c9,e9⟩:=lb h 9 (by decide);obtain⟨c10,e10⟩:=lb h 10 (by decide);obtain⟨c11,e11⟩:=lb h 11 (by decide);rw[show ir ns 0=.ok c0 from e0,show ir ns 9=.ok c9 from e9,show ir ns 10=.ok c10 from e10,show ir ns 11=.ok c11 from e11,CK,CK,CK,CK];have z0:=E9 c0 (show(8:Int)≠0 by decide);have z1:=DS c0 (show(0:Int)<8 by decide);obtain⟨w,hw⟩:∃w:Nat,(1:Int)+c0%8=(w:Int):=⟨(1+c0%8).toNat,by omega⟩
 rw[hw];have h1:1<=w:=by omega
 have h8:w<=8:=by omega
 refine zl ((show(vg ns (1:Int) (w:Int)).Ok _ from vc h 1 w (by omega)).imp fun dr zz=>?_);obtain⟨hl,hc⟩:=zz;have:∃m,wI c9=.ok m:=by
  unfold wI AZ;split;·exact⟨_,rfl⟩
  ·exact⟨_,rfl⟩
 obtain⟨most,em⟩:=this;rw[em,CK,CK];refine zl ((rE (by omega) hc c10).imp fun sp zz=>?_);obtain⟨hg,hsl⟩:=zz;rw[xm (by omega),CK,iM rfl,CK,CK,if_neg (by decide),show(dR (sp=sp) false:Res Bool)=.ok false from bo rfl,CK,if_neg (by decide),CK,ve (by omega),CK,CK,CK];have y0:=E9 c11 (show(31:Int)≠0 by decide);have y1:=DS c11 (show(0:Int)<31 by decide);obtain⟨m,hm⟩:∃m:Nat,c11%31=(m:Int):=⟨(c11%31).toNat,by omega⟩
 rw[hm]at y0 y1 ⊢;rw[iL (by omega),CK];have i0:ll w most 0 (xl dr sp,(most,stg (xl dr sp) .n none,[],[]),[],[]):=by
  have:=AK most hc hg hsl;rw[hl]at this;exact⟨_,beginD,this,rfl,rfl,rfl⟩
 obtain⟨s,es,hs⟩:=mM (f:=gr ir rg m7 ou lZ ow ns (w:Int) most) (fun pre(s:STT×Z03×List (List Pl)×List Dat)=>ll w most pre.length s) ((FQ m).map fun(i:Nat)=>(i:Int)) (xl dr sp,(most,stg (xl dr sp) .n none,[],[]),[],[]) i0 (by
  intro pre a post s e S;have hlen:pre.length<m:=by have:=congrArg Ex e;simp at this;omega
  obtain⟨k,hk,rfl⟩:∃k:Nat,k<m/\a=(k:Int):=by
   have:a∈(FQ m).map fun(i:Nat)=>(i:Int):=by rw[e];simp
   obtain⟨k,hk,e⟩:=Di.mp this;exact⟨k,Hy.mp hk,e.symm⟩
  unfold gr;obtain⟨c,ec⟩:=lb h (12+k) (by omega);obtain⟨x,ex,hx⟩:=(oJ c h8).ex;rw[show ir ns ((12:Int)+(k:Int))=.ok c from ec,CK,ex,CK];rcases xo h1 (by omega) (by omega) S hx with⟨nm,f1,f2⟩|⟨s',L',f1,f2,f3,f4,f5,S'⟩
  ·have S2:ll w most (pre.length+1) s:=by
    obtain⟨st,d',S,r⟩:=S;exact⟨st,d',S.up,r⟩
   rw[f1,CK,f2,CK];refine⟨s,?_,by rw[Du];exact S2⟩;show((xB (lh nm)<|lh nm).bind _).bind _=_;rw[nW rfl<|xg _,CK,CK,if_neg (by decide)];by_cases z:(k:Int)%5=2
   ·rw[if_pos<|decide_eq_true z,show lZ (s.2.1,lh nm).1 s.1 s.2.2.1 s.2.2.2=.ok true from jW (by omega) (by omega) S2];rfl
   ·rw[if_neg (by simpa using z)];rfl
  ·rw[f1,CK,f2,CK];refine⟨_,?_,by rw[Du];exact S'⟩;rw[if_neg (show ¬(Ds s':Tx ⊕ STT).isLeft=true from fun z=>nomatch z),show lL (Ds s':Tx ⊕ STT).getRight? =.ok s' from rfl,CK,f3,CK,CK,CK];show((xB (nu<|eF s'.1 x)<|nu<|eF s'.1 x).bind _).bind _=_;rw[nW rfl<|ze _,CK,CK,if_neg (by decide),show uj [119,111,118,101,110] (L',nu<|eF s'.1 x).2=.ok ()from rfl,CK,CK,jh (by omega),CK,jh (by omega),CK];by_cases z:(k:Int)%5=2
   ·rw[if_pos<|decide_eq_true z];have:=jW (by omega) (by omega) S';rw[show lZ (L',nu<|eF s'.1 x).1 s' (s.2.2.1++[eF s'.1 x]) (s.2.2.2++[II [Fv (([114,111,119]:Tx),x).1,Fv (([114,111,119]:Tx),x).2]])=.ok true from this];rfl
   ·rw[if_neg (by simpa using z)];rfl)
 rw[Dq,JP]at hs;rw[es,CK];show(lZ _ _ _ _).Ok _;rw[jW (by omega) (by omega) hs];exact rfl
end Mi
namespace PySem.W.Fast
def tw861502493610598483:=()
def tw6218442104141868930:=()
def tw7774113678449685934:=()
def tw817348097296098815:=()
def tw18314875396610151526:=()
def tw6164711210335018796:=()
def tw473948556099728814:=()
def tw11829361678007005:=()
def tw5395340147747708899:=()
def tw5248363676389156062:=()
def tw14736888041290939073:=()
def tw9576586084307691419:=()
def tw4313010194945074917:=()
def tw9592300441314626372:=()
def tw17843931727820963302:=()
def tw12884060626414724322:=()
def tw9692319085095946327:=()
def tw14329579894275425762:=()
def tw6046103115902281144:=()
def tw6548459193220583526:=()
def tw1864683662541468164:=()
def tw5891704040020730945:=()
def tw17348111734160510231:=()
def tw16132249320637822498:=()
def tw1952406642789878711:=()
def tw6125853113672642322:=()
def tw5037459499596335280:=()
def tw8122695690928665766:=()
def tw5634867526602368427:=()
def tw10974669485727509664:=()
def tw14553807712399142462:=()
def tw12003660372656728261:=()
def tw8115137120850386438:=()
def tw14520296925931582552:=()
def tw12768989823518198380:=()
def tw14920823985818648580:=()
def tw4699756791338806529:=()
def tw12798174099139212305:=()
def tw10326336056695345397:=()
def tw4607425872040536859:=()
def tw16159750380562633221:=()
def tw1840220198017710270:=()
def tw13343918040275786880:=()
def tw8356303796347215682:=()
def tw7155359931933253843:=()
def tw14782954611325821827:=()
def tw4290864757253303354:=()
def tw12145756527313086355:=()
def tw9404705873571188630:=()
def tw9317495090193701157:=()
def tw740290905518256060:=()
def tw13367274342830030513:=()
def tw15279809834360698895:=()
def tw12670982853097334264:=()
def tw16822532161544500889:=()
def tw12099505692703838030:=()
def tw463774138113389760:=()
def tw15401437161963490237:=()
def tw6170744672141170255:=()
def tw9104974531708491489:=()
def tw3075201292733833056:=()
def tw3507769193172341495:=()
def tw17518593693041627797:=()
def tw6128106870883400570:=()
def tw10282777137419654623:=()
def tw14849461344987154502:=()
def tw15166322114958858414:=()
def tw11033627544408312984:=()
def tw12669407529647801677:=()
def tw11589282660436910429:=()
def tw7164969610272591079:=()
def tw15142666989864626641:=()
def tw2931988195819169919:=()
def tw4323258101793500111:=()
def tw12330612334027959195:=()
def tw10879749546641988924:=()
def tw16412085850373738351:=()
def tw3592811809046731828:=()
def tw16753820520455620202:=()
def tw16728255500844073214:=()
end PySem.W.Fast
section
open PySem PySem.W PyProof.Rows
set_option maxHeartbeats 0 in
open_top hd for PySem.Challenge.rw_wornband_k43_rows_on_the_loom
end
namespace Wb
open PySem L2 Mi
theorem xp{K:CL}:∀vs H Q E,pW K vs H Q E->eA (isScr K) (rs isB) uC vs H Q E:=fun vs H Q E⟨a,ns,h1,h2,h3,h4⟩=>
 ⟨⟨H,H,.refl _⟩,ns,.ref a,rfl,h1,⟨a,rfl,h2⟩,fun _=>False,Res.Ok.e ((zf ns h3).imp fun r hr u W' _ hu=>by cases hr;cases hu;exact h4 _)⟩
local macro_rules | `(tactic|walk_at "B1")=>`(tactic|exact fun _ _ _ _ _ _ us hl=>match us,hl with | [_],_=>rfl)
local macro_rules | `(tactic|walk_at "B2")=>`(tactic|exact fun _ _ _ _ _ _ us hl=>match us,hl with | [_,_],_=>rfl)
local macro_rules | `(tactic|walk_at "B4")=>`(tactic|exact fun _ _ _ _ _ _ us hl=>match us,hl with | [_,_,_,_],_=>rfl)
local macro_rules | `(tactic|walk_at "B7")=>`(tactic|exact fun _ _ _ _ _ _ us hl=>match us,hl with | [_,_,_,_,_,_,_],_=>rfl)
theorem fin_mk{l:Hf}{w:Dr}{K:CL}{h:Heap}{mg:Str->Option CN}{fa:Addr}{Z00:Addr}{Z01:Addr}{Z2p:Addr}{Za8 Za9:Option Addr}{Zaa:Array (Option CN)}{Zab Zac Zad Zae Z6H Zaf:CN}{Z1s:Addr}{Z7g Z7h:Option Addr}{Z7i:Array (Option CN)}{Z7j Z7k Z7l Z7m Z3I Z7n:CN}{Z1D:Addr}{Z7H Z7I:Option Addr}{Z7J:Array (Option CN)}{Z7K Z7L Z7M Z7N Z4a Z7O:CN}{Z2O:Addr}{ZbF ZbG:Option Addr}{ZbH:Array (Option CN)}{ZbI ZbJ ZbK ZbL Z7o ZbM:CN}{Z28:Addr}{Z95 Z96:Option Addr}{Z97:Array (Option CN)}{Z98 Z99 Z9a Z9b Z6t Z9c:CN}{Z29:Addr}{Z9d Z9e:Option Addr}{Z9f:Array (Option CN)}{Z9g Z9h Z9i Z9j Z6u Z9k:CN}{Z1O:Addr}{Z8e Z8f:Option Addr}{Z8g:Array (Option CN)}{Z8h Z8i Z8j Z8k Z4Y Z8l:CN}{Z2q:Addr}{Zag Zah:Option Addr}{Zai:Array (Option CN)}{Zaj Zak Zal Zam Z6I Zan:CN}{Z2a:Addr}{Z9l Z9m:Option Addr}{Z9n:Array (Option CN)}{Z9o Z9p Z9q Z9r Z6v Z9s:CN}{Z2b:Addr}{Z9t Z9u:Option Addr}{Z9v:Array (Option CN)}{Z9w Z9x Z9y Z9z Z6w Z9A:CN}{Z2r:Addr}{Zao Zap:Option Addr}{Zaq:Array (Option CN)}{Zar Zas Zat Zau Z6J Zav:CN}{Z2s:Addr}{Zaw Zax:Option Addr}{Zay:Array (Option CN)}{Zaz ZaA ZaB ZaC Z6K ZaD:CN}{f_law:Addr}{od_law an_law:Option Addr}{sl_law:Array (Option CN)}{oc_law kV_law dc_law pm_law cd_law ct_law:CN}{Z2P:Addr}{Z9B Z9C:Option Addr}{Z9D:Array (Option CN)}{Z9E Z9F Z9G Z9H Z6x Z9I:CN}{Z32:Tok}{Z2y:Addr}{ZeV:Nat}{ZdQ ZdR ZdS ZdT ZdU ZdV:Tok}{Z1Z:Addr}{Zfa:Nat}{ZeW ZeX ZeY ZeZ Zf0 Zf1:Tok}{Z8r:Tok}{Z05 Z59:Addr}{ZaE ZbN:Str}{ZaF ZaG:List CN}{ZaH ZaI:Bool}{ZaJ:List Str}{ZaK:Option Bool}{ZaL:Option Addr}{ZaM ZaN ZaO ZaP ZaQ:Option CN}{ZaR:CN}{ZaS:Option Addr}{Z4b:Array ER}{ZaT:Nat}{ZaU:Array (Option CN)}{Z0a Z7p:Addr}{ZaV ZbO:Str}{ZaW ZaX:List CN}{ZaY ZaZ:Bool}{Zb0:List Str}{Zb1:Option Bool}{Zb2:Option Addr}{Zb3 Zb4 Zb5 Zb6 Zb7:Option CN}{Z0m Z7P:Addr}{ZdW Zf2:Str}{ZdX ZdY:List CN}{ZdZ Ze0:Bool}{Ze1:List Str}{Ze2:Option Bool}{Ze3:Option Addr}{Ze4 Ze5 Ze6 Ze7 Ze8:Option CN}{Ze9:CN}{Zea:Option Addr}{Z6L:Array ER}{Zeb:Nat}{Zec:Array (Option CN)}{Z0i Z8X:Addr}{ZcP Zed:Str}{ZcQ ZcR:List CN}{ZcS ZcT:Bool}{ZcU:List Str}{ZcV:Option Bool}{ZcW:Option Addr}{ZcX ZcY ZcZ Zd0 Zd1:Option CN}{Z0j Z8Y:Addr}{Zd2 Zee:Str}{Zd3 Zd4:List CN}{Zd5 Zd6:Bool}{Zd7:List Str}{Zd8:Option Bool}{Zd9:Option Addr}{Zda Zdb Zdc Zdd Zde:Option CN}{Z0k Z8Z:Addr}{Zdf Zef:Str}{Zdg Zdh:List CN}{Zdi Zdj:Bool}{Zdk:List Str}{Zdl:Option Bool}{Zdm:Option Addr}{Zdn Zdo Zdp Zdq Zdr:Option CN}{Z0c Z64:Addr}{ZbP Zds:Str}{ZbQ ZbR:List CN}{ZbS ZbT:Bool}{ZbU:List Str}{ZbV:Option Bool}{ZbW:Option Addr}{ZbX ZbY ZbZ Zc0 Zc1:Option CN}{Zc2:CN}{Zc3:Option Addr}{Z5a:Array ER}{Zc4:Nat}{Zc5:Array (Option CN)}{Z0d Z65:Addr}{Zc6 Zdt:Str}{Zc7 Zc8:List CN}{Zc9 Zca:Bool}{Zcb:List Str}{Zcc:Option Bool}{Zcd:Option Addr}{Zce Zcf Zcg Zch Zci:Option CN}{Zcj:CN}{Zck:Option Addr}{Z5b:Array ER}{Zcl:Nat}{Zcm:Array (Option CN)}{Z0g Z8m:Addr}{Zcn Zdu:Str}{Zco Zcp:List CN}{Zcq Zcr:Bool}{Zcs:List Str}{Zct:Option Bool}{Zcu:Option Addr}{Zcv Zcw Zcx Zcy Zcz:Option CN}{Z06 Z6y:Addr}{Z8v Z9J:Str}{Z8w Z8x:List CN}{Z8y Z8z:Bool}{Z8A:List Str}{Z8B:Option Bool}{Z8C:Option Addr}{Z8D Z8E Z8F Z8G Z8H:Option CN}{Z0o Zb8:Addr}{Zeg Zf3:Str}{Zeh Zei:List CN}{Zej Zek:Bool}{Zel:List Str}{Zem:Option Bool}{Zen:Option Addr}{Zeo Zep Zeq Zer Zes:Option CN}{Z08 Z6M:Addr}{Z9K Zb9:Str}{Z9L Z9M:List CN}{Z9N Z9O:Bool}{Z9P:List Str}{Z9Q:Option Bool}{Z9R:Option Addr}{Z9S Z9T Z9U Z9V Z9W:Option CN}{Z0b Z7q:Addr}{Zba ZcA:Str}{Zbb Zbc:List CN}{Zbd Zbe:Bool}{Zbf:List Str}{Zbg:Option Bool}{Zbh:Option Addr}{Zbi Zbj Zbk Zbl Zbm:Option CN}{Z0p Zbn:Addr}{Zet Zf4:Str}{Zeu Zev:List CN}{Zew Zex:Bool}{Zey:List Str}{Zez:Option Bool}{ZeA:Option Addr}{ZeB ZeC ZeD ZeE ZeF:Option CN}(X:K.In h)(G:h.Ns mainGlobals mg)(hfa:mg "law"=some (.ref fa))
  (Z8I:De K mainGlobals "Stage"=some (some<|.ref Z00)) (Z7Q:FG K Z00 J8=true) (Z6N:G3 K Z00=true) (Z7R:GF K Z00=true) (Z7S:CQ K (.ref Z00) "__setattr__"=some (some<|.builtin "object.__setattr__")) (Z7T:Hn K Z00=true) (Z7U:Dp K (.ref Z00)=true)
  (Z3v:CQ K (.ref Z00) "deed"=some none)
  (Z2k:CQ K (.ref Z00) "standing"=some none)
  (Z2A:CQ K (.ref Z00) "reached"=some none)
  (Z2B:CQ K (.ref Z00) "highest"=some none)
  (Z2C:CQ K (.ref Z00) "lengths"=some none)
  (Z3w:CQ K (.ref Z00) "pick"=some none)
  (Zbo:De K mainGlobals "Loom"=some (some<|.ref Z01)) (Z8J:FG K Z01 J8=true) (Z7V:G3 K Z01=true) (Z8K:GF K Z01=true) (Z8L:CQ K (.ref Z01) "__setattr__"=some (some<|.builtin "object.__setattr__")) (Z8M:Hn K Z01=true) (Z8N:Dp K (.ref Z01)=true)
  (Z4c:CQ K (.ref Z01) "most"=some none)
  (Z3x:CQ K (.ref Z01) "start"=some none)
  (Z36:CQ K (.ref Z01) "course"=some none)
  (Z37:CQ K (.ref Z01) "undone"=some none)
  (Z3k:De K mainGlobals "_law_same"=some (some<|.ref Z2p))
  (Z5c:K.lookup Z2p=some ⟨Zab,Za8,.func<|DP "_law_same" "_law_same" (defArgs<|tp 53) (defBody<|tp 53) (defScope<|tp 53) .none Zac Zad Zae Za9 Z6H Zaf,Zaa⟩)
  (Z5d:DU K Z6H "_law_same"=true)
  (Z2t:Dp K (.ref Z2p)=true)
  (Z6O:DI K "_law_at" (tp 39) ["_law_script","_law_k"])
  (Z66:DI K "_law_row" (tp 36) ["_law_cell","_law_many","_law_base"])
  (Z4d:DI K "_law_holes" (tp 37) ["_law_cell"])
  (Z5e:DI K "_law_card" (tp 38) ["_law_cell"])
  (Z4e:DI K "_law_draft" (tp 40) ["_law_script","_law_at_here","_law_width"])
  (Z5f:DI K "_law_most" (tp 42) ["_law_cell"])
  (Z3y:DI K "_law_spools" (tp 41) ["_law_draft_here","_law_cell"])
  (Z2D:CQ K (.ref Z00) "__init__"=some (some<|.ref Z1s)) (Z2E:EB K (.ref Z1s)=true)
  (Z2F:K.lookup Z1s=some ⟨Z7j,Z7g,.func<|DP "__init__" "Stage.__init__" (defArgs<|tq 29 0) (defBody<|tq 29 0) (defScope<|tq 29 0) .none Z7k Z7l Z7m Z7h Z3I Z7n,Z7i⟩)
  (Z2G:DU K Z3I "Stage.__init__"=true)
  (Z2H:Dp K (.ref Z1s)=true)
  (Z3z:DI K "first_stage" (tp 30) ["draft","spools"])
  (Z2Q:CQ K (.ref Z01) "__init__"=some (some<|.ref Z1D)) (Z2R:EB K (.ref Z1D)=true)
  (Z2S:K.lookup Z1D=some ⟨Z7K,Z7H,.func<|DP "__init__" "Loom.__init__" (defArgs<|tq 34 0) (defBody<|tq 34 0) (defScope<|tq 34 0) .none Z7L Z7M Z7N Z7I Z4a Z7O,Z7J⟩)
  (Z2T:DU K Z4a "Loom.__init__"=true)
  (Z2U:Dp K (.ref Z1D)=true)
  (Z4f:DI K "_law_begin" (tp 47) ["_law_draft_here","_law_spools_here"])
  (Z5g:DI K "_law_sign" (tp 44) ["_law_cell"])
  (Z4g:DI K "_law_spoil" (tp 45) ["_law_text","_law_cell"])
  (Z4h:DI K "_law_turns" (tp 43) ["_law_cell","_law_many"])
  (Z38:DI K "_law_rowtext" (tp 46) ["_law_cell","_law_width"])
  (Z6P:DI K "_law_go" (tp 48) ["_law_turn"])
  (Z4i:DI K "_law_twist" (tp 50) ["_law_card_here","_law_turn"])
  (Z3A:DI K "_law_behind" (tp 49) ["_law_card_here","_law_turn"])
  (Z4j:DI K "_law_after" (tp 51) ["_law_state","_law_row_here","_law_most_here"])
  (Z67:CQ K (.ref Z01) "now"=some (some<|.ref Z2O)) (Z68:EB K (.ref Z2O)=true)
  (Z69:K.lookup Z2O=some ⟨ZbI,ZbF,.func<|DP "now" "Loom.now" (defArgs<|tq 34 1) (defBody<|tq 34 1) (defScope<|tq 34 1) .none ZbJ ZbK ZbL ZbG Z7o ZbM,ZbH⟩)
  (Z6a:DU K Z7o "Loom.now"=true)
  (Z3M:Dp K (.ref Z2O)=true)
  (Z7W:DI K "is_row" (tp 26) ["text","width"])
  (Z6b:DI K "twisting" (tp 22) ["tablet","turn"])
  (Z8O:DI K "taken" (tp 32) ["draft","row"])
  (Z5h:DI K "drawn_off" (tp 33) ["spools","lengths"])
  (Z7X:DI K "turned" (tp 23) ["tablet","turn"])
  (d_top:DI K "top" (tp 20) ["tablet"])
  (Z7Y:DI K "bottom" (tp 21) ["tablet"])
  (Z4k:DI K "left_place" (tp 27) ["tablet","turn"])
  (Z3B:DI K "woven_stage" (tp 31) ["stage","row","most"])
  (Z4l:CQ K (.ref Z01) "go_on"=some (some<|.ref Z28)) (Z4m:EB K (.ref Z28)=true)
  (Z4n:K.lookup Z28=some ⟨Z98,Z95,.func<|DP "go_on" "Loom.go_on" (defArgs<|tq 34 2) (defBody<|tq 34 2) (defScope<|tq 34 2) .none Z99 Z9a Z9b Z96 Z6t Z9c,Z97⟩)
  (Z4o:DU K Z6t "Loom.go_on"=true)
  (Z2V:Dp K (.ref Z28)=true)
  (Z4p:CQ K (.ref Z01) "weave"=some (some<|.ref Z29)) (Z4q:EB K (.ref Z29)=true)
  (Z4r:K.lookup Z29=some ⟨Z9g,Z9d,.func<|DP "weave" "Loom.weave" (defArgs<|tq 34 3) (defBody<|tq 34 3) (defScope<|tq 34 3) .none Z9h Z9i Z9j Z9e Z6u Z9k,Z9f⟩)
  (Z4s:DU K Z6u "Loom.weave"=true)
  (Z2W:Dp K (.ref Z29)=true)
  (Z4t:DI K "_law_tried" (tp 56) ["_law_loom","_law_row_here"])
  (Z5i:DI K "_law_pick" (tp 52) ["_law_cards","_law_row_here"])
  (Z39:CQ K (.ref Z01) "tablets"=some (some<|.ref Z1O)) (Z3a:EB K (.ref Z1O)=true)
  (Z3b:K.lookup Z1O=some ⟨Z8h,Z8e,.func<|DP "tablets" "Loom.tablets" (defArgs<|tq 34 8) (defBody<|tq 34 8) (defScope<|tq 34 8) .none Z8i Z8j Z8k Z8f Z4Y Z8l,Z8g⟩)
  (Z3c:DU K Z4Y "Loom.tablets"=true)
  (Z2j:Dp K (.ref Z1O)=true)
  (Z5j:CQ K (.ref Z01) "band"=some (some<|.ref Z2q)) (Z5k:EB K (.ref Z2q)=true)
  (Z5l:K.lookup Z2q=some ⟨Zaj,Zag,.func<|DP "band" "Loom.band" (defArgs<|tq 34 9) (defBody<|tq 34 9) (defScope<|tq 34 9) .none Zak Zal Zam Zah Z6I Zan,Zai⟩)
  (Z5m:DU K Z6I "Loom.band"=true)
  (Z3l:Dp K (.ref Z2q)=true)
  (Z4u:CQ K (.ref Z01) "deeds"=some (some<|.ref Z2a)) (Z4v:EB K (.ref Z2a)=true)
  (Z4w:K.lookup Z2a=some ⟨Z9o,Z9l,.func<|DP "deeds" "Loom.deeds" (defArgs<|tq 34 10) (defBody<|tq 34 10) (defScope<|tq 34 10) .none Z9p Z9q Z9r Z9m Z6v Z9s,Z9n⟩)
  (Z4x:DU K Z6v "Loom.deeds"=true)
  (Z2X:Dp K (.ref Z2a)=true)
  (Z4y:CQ K (.ref Z01) "twist"=some (some<|.ref Z2b)) (Z4z:EB K (.ref Z2b)=true)
  (Z4A:K.lookup Z2b=some ⟨Z9w,Z9t,.func<|DP "twist" "Loom.twist" (defArgs<|tq 34 11) (defBody<|tq 34 11) (defScope<|tq 34 11) .none Z9x Z9y Z9z Z9u Z6w Z9A,Z9v⟩)
  (Z4B:DU K Z6w "Loom.twist"=true)
  (Z2Y:Dp K (.ref Z2b)=true)
  (Z5n:CQ K (.ref Z01) "peak"=some (some<|.ref Z2r)) (Z5o:EB K (.ref Z2r)=true)
  (Z5p:K.lookup Z2r=some ⟨Zar,Zao,.func<|DP "peak" "Loom.peak" (defArgs<|tq 34 12) (defBody<|tq 34 12) (defScope<|tq 34 12) .none Zas Zat Zau Zap Z6J Zav,Zaq⟩)
  (Z5q:DU K Z6J "Loom.peak"=true)
  (Z3m:Dp K (.ref Z2r)=true)
  (Z5r:CQ K (.ref Z01) "rest"=some (some<|.ref Z2s)) (Z5s:EB K (.ref Z2s)=true)
  (Z5t:K.lookup Z2s=some ⟨Zaz,Zaw,.func<|DP "rest" "Loom.rest" (defArgs<|tq 34 13) (defBody<|tq 34 13) (defScope<|tq 34 13) .none ZaA ZaB ZaC Zax Z6K ZaD,Zay⟩)
  (Z5u:DU K Z6K "Loom.rest"=true)
  (Z3n:Dp K (.ref Z2s)=true)
  (Z3C:DI K "_law_stands" (tp 54) ["_law_loom","_law_state","_law_band","_law_done"])
  (a_law:De K mainGlobals "law"=some (some<|.ref f_law))
  (l_law:K.lookup f_law=some ⟨oc_law,od_law,.func<|DP "law" "law" (defArgs<|tp 57) (defBody<|tp 57) (defScope<|tp 57) .none kV_law dc_law pm_law an_law cd_law ct_law,sl_law⟩)
  (c_law:DU K cd_law "law"=true)
  (k_law:Dp K (.ref f_law)=true)
  (Z4C:De K mainGlobals "_law_kinds"=some (some<|.ref Z2P))
  (Z4D:K.lookup Z2P=some ⟨Z9E,Z9B,.func<|DP "_law_kinds" "_law_kinds" (defArgs<|tp 55) (defBody<|tp 55) (defScope<|tp 55) .none Z9F Z9G Z9H Z9C Z6x Z9I,Z9D⟩)
  (Z4E:DU K Z6x "_law_kinds"=true)
  (Z2Z:Dp K (.ref Z2P)=true)
  (Z4F:De K mainGlobals "ValueError"=some none)
  (Zdv:De K mainGlobals "abs"=some none)
  (Zdw:De K mainGlobals "all"=some none)
  (Zdx:De K mainGlobals "any"=some none)
  (Zbp:De K mainGlobals "bool"=some none)
  (Zbq:De K mainGlobals "dict"=some none)
  (Zdy:De K mainGlobals "int"=some none)
  (Z4G:De K mainGlobals "isinstance"=some none)
  (Zdz:De K mainGlobals "len"=some none)
  (Zbr:De K mainGlobals "list"=some none)
  (ZdA:De K mainGlobals "max"=some none)
  (ZdB:De K mainGlobals "min"=some none)
  (Z8P:De K mainGlobals "range"=some none)
  (ZdC:De K mainGlobals "str"=some none)
  (Z8Q:De K mainGlobals "tuple"=some none)
  (ZdD:De K mainGlobals "zip"=some none)
  (Z8R:De K mainGlobals "HOLES"=some (some<|.int 4 Z32))
  (Z7Z:De K mainGlobals "SLANTS"=some (some<|.ref Z2y))
  (Z80:K.lookup Z2y=some {cls:=.type "dict",data:=.dict #[⟨hashInt<|1,.int (1) ZdQ,.str (CS "s") ZdR⟩,⟨hashInt<|-1,.int (-1) ZdS,.str (CS "z") ZdT⟩,⟨hashInt<|0,.int (0) ZdU,.str (CS "o") ZdV⟩] ZeV})
  (Z81:(Z2y==sysModules)=false)
  (Z8S:De K mainGlobals "STEPS"=some (some<|.ref Z1Z))
  (Z8T:K.lookup Z1Z=some {cls:=.type "dict",data:=.dict #[⟨Hj w.params<|CS "f",.str (CS "f") ZeW,.int (1) ZeX⟩,⟨Hj w.params<|CS "b",.str (CS "b") ZeY,.int (-1) ZeZ⟩,⟨Hj w.params<|CS "i",.str (CS "i") Zf0,.int (0) Zf1⟩] Zfa})
  (Z8U:(Z1Z==sysModules)=false)
  (Z8V:De K mainGlobals "TURNS"=some (some<|.str (CS "fbi") Z8r))
  (Z5v:De K mainGlobals "BandError"=some (some<|.ref Z05))
  (Z5w:K.lookup Z05=some (excClassObj ZaE ZbN Z05 Z59 ZaF [.type "ValueError",.type "Exception",.type "BaseException",.type "object"] ZaH ZaJ ZaG ZaI ZaK ZaL ZaM ZaN ZaO ZaP ZaQ "ValueError.__new__"))
  (Z2u:K.lookup Z59=some ⟨ZaR,ZaS,.dict Z4b ZaT,ZaU⟩) (Z2c:Ja Z4b) (Z2d:nsFind Z4b "__init__"=none)
  (Z5x:De K mainGlobals "BadTablet"=some (some<|.ref Z0a))
  (Z5y:K.lookup Z0a=some (excClassObj ZaV ZbO Z0a Z7p ZaW [.ref Z05,.type "ValueError",.type "Exception",.type "BaseException",.type "object"] ZaY Zb0 ZaX ZaZ Zb1 Zb2 Zb3 Zb4 Zb5 Zb6 Zb7 "ValueError.__new__"))
  (Z4H:CQ K (.ref Z0a) "__getattribute__"=some (some<|.builtin "BaseException.__getattribute__")) (Z4I:CQ K (.ref Z0a) "__getattr__"=some none) (Z4J:CQ K (.ref Z0a) "__class__"=some (some<|.builtin "object.__class__"))
  (Z82:De K mainGlobals "BadRow"=some (some<|.ref Z0m))
  (Z83:K.lookup Z0m=some (excClassObj ZdW Zf2 Z0m Z7P ZdX [.ref Z05,.type "ValueError",.type "Exception",.type "BaseException",.type "object"] ZdZ Ze1 ZdY Ze0 Ze2 Ze3 Ze4 Ze5 Ze6 Ze7 Ze8 "ValueError.__new__"))
  (Z6Q:CQ K (.ref Z0m) "__getattribute__"=some (some<|.builtin "BaseException.__getattribute__")) (Z6R:CQ K (.ref Z0m) "__getattr__"=some none) (Z6S:CQ K (.ref Z0m) "__class__"=some (some<|.builtin "object.__class__"))
  (Z84:K.lookup Z7P=some ⟨Ze9,Zea,.dict Z6L Zeb,Zec⟩) (Z6T:Ja Z6L) (Z6U:nsFind Z6L "__init__"=none)
  (Z6V:De K mainGlobals "BadText"=some (some<|.ref Z0i))
  (Z6W:K.lookup Z0i=some (excClassObj ZcP Zed Z0i Z8X ZcQ [.ref Z05,.type "ValueError",.type "Exception",.type "BaseException",.type "object"] ZcS ZcU ZcR ZcT ZcV ZcW ZcX ZcY ZcZ Zd0 Zd1 "ValueError.__new__"))
  (Z6c:CQ K (.ref Z0i) "__getattribute__"=some (some<|.builtin "BaseException.__getattribute__")) (Z6d:CQ K (.ref Z0i) "__getattr__"=some none) (Z6e:CQ K (.ref Z0i) "__class__"=some (some<|.builtin "object.__class__"))
  (Z6X:De K mainGlobals "BadMark"=some (some<|.ref Z0j))
  (Z6Y:K.lookup Z0j=some (excClassObj Zd2 Zee Z0j Z8Y Zd3 [.ref Z05,.type "ValueError",.type "Exception",.type "BaseException",.type "object"] Zd5 Zd7 Zd4 Zd6 Zd8 Zd9 Zda Zdb Zdc Zdd Zde "ValueError.__new__"))
  (Z6f:CQ K (.ref Z0j) "__getattribute__"=some (some<|.builtin "BaseException.__getattribute__")) (Z6g:CQ K (.ref Z0j) "__getattr__"=some none) (Z6h:CQ K (.ref Z0j) "__class__"=some (some<|.builtin "object.__class__"))
  (Z6Z:De K mainGlobals "TooLong"=some (some<|.ref Z0k))
  (Z70:K.lookup Z0k=some (excClassObj Zdf Zef Z0k Z8Z Zdg [.ref Z05,.type "ValueError",.type "Exception",.type "BaseException",.type "object"] Zdi Zdk Zdh Zdj Zdl Zdm Zdn Zdo Zdp Zdq Zdr "ValueError.__new__"))
  (Z6i:CQ K (.ref Z0k) "__getattribute__"=some (some<|.builtin "BaseException.__getattribute__")) (Z6j:CQ K (.ref Z0k) "__getattr__"=some none) (Z6k:CQ K (.ref Z0k) "__class__"=some (some<|.builtin "object.__class__"))
  (Z6l:De K mainGlobals "TooTight"=some (some<|.ref Z0c))
  (Z6m:K.lookup Z0c=some (excClassObj ZbP Zds Z0c Z64 ZbQ [.ref Z05,.type "ValueError",.type "Exception",.type "BaseException",.type "object"] ZbS ZbU ZbR ZbT ZbV ZbW ZbX ZbY ZbZ Zc0 Zc1 "ValueError.__new__"))
  (Z5z:CQ K (.ref Z0c) "__getattribute__"=some (some<|.builtin "BaseException.__getattribute__")) (Z5A:CQ K (.ref Z0c) "__getattr__"=some none) (Z5B:CQ K (.ref Z0c) "__class__"=some (some<|.builtin "object.__class__"))
  (Z6n:K.lookup Z64=some ⟨Zc2,Zc3,.dict Z5a Zc4,Zc5⟩) (Z5C:Ja Z5a) (Z5D:nsFind Z5a "__init__"=none)
  (Z6o:De K mainGlobals "SpoolDry"=some (some<|.ref Z0d))
  (Z6p:K.lookup Z0d=some (excClassObj Zc6 Zdt Z0d Z65 Zc7 [.ref Z05,.type "ValueError",.type "Exception",.type "BaseException",.type "object"] Zc9 Zcb Zc8 Zca Zcc Zcd Zce Zcf Zcg Zch Zci "ValueError.__new__"))
  (Z5E:CQ K (.ref Z0d) "__getattribute__"=some (some<|.builtin "BaseException.__getattribute__")) (Z5F:CQ K (.ref Z0d) "__getattr__"=some none) (Z5G:CQ K (.ref Z0d) "__class__"=some (some<|.builtin "object.__class__"))
  (Z6q:K.lookup Z65=some ⟨Zcj,Zck,.dict Z5b Zcl,Zcm⟩) (Z5H:Ja Z5b) (Z5I:nsFind Z5b "__init__"=none)
  (Z6r:De K mainGlobals "NoTablet"=some (some<|.ref Z0g))
  (Z6s:K.lookup Z0g=some (excClassObj Zcn Zdu Z0g Z8m Zco [.ref Z05,.type "ValueError",.type "Exception",.type "BaseException",.type "object"] Zcq Zcs Zcp Zcr Zct Zcu Zcv Zcw Zcx Zcy Zcz "ValueError.__new__"))
  (Z5J:CQ K (.ref Z0g) "__getattribute__"=some (some<|.builtin "BaseException.__getattribute__")) (Z5K:CQ K (.ref Z0g) "__getattr__"=some none) (Z5L:CQ K (.ref Z0g) "__class__"=some (some<|.builtin "object.__class__"))
  (Z3D:De K mainGlobals "NothingLeft"=some (some<|.ref Z06))
  (Z3E:K.lookup Z06=some (excClassObj Z8v Z9J Z06 Z6y Z8w [.ref Z05,.type "ValueError",.type "Exception",.type "BaseException",.type "object"] Z8y Z8A Z8x Z8z Z8B Z8C Z8D Z8E Z8F Z8G Z8H "ValueError.__new__"))
  (Z3d:CQ K (.ref Z06) "__getattribute__"=some (some<|.builtin "BaseException.__getattribute__")) (Z3e:CQ K (.ref Z06) "__getattr__"=some none) (Z3f:CQ K (.ref Z06) "__class__"=some (some<|.builtin "object.__class__"))
  (Z85:De K mainGlobals "Unlike"=some (some<|.ref Z0o))
  (Z86:K.lookup Z0o=some (excClassObj Zeg Zf3 Z0o Zb8 Zeh [.ref Z05,.type "ValueError",.type "Exception",.type "BaseException",.type "object"] Zej Zel Zei Zek Zem Zen Zeo Zep Zeq Zer Zes "ValueError.__new__"))
  (Z71:CQ K (.ref Z0o) "__getattribute__"=some (some<|.builtin "BaseException.__getattribute__")) (Z72:CQ K (.ref Z0o) "__getattr__"=some none) (Z73:CQ K (.ref Z0o) "__class__"=some (some<|.builtin "object.__class__"))
  (Z4K:De K mainGlobals "SeenThread"=some (some<|.ref Z08))
  (Z4L:K.lookup Z08=some (excClassObj Z9K Zb9 Z08 Z6M Z9L [.ref Z05,.type "ValueError",.type "Exception",.type "BaseException",.type "object"] Z9N Z9P Z9M Z9O Z9Q Z9R Z9S Z9T Z9U Z9V Z9W "ValueError.__new__"))
  (Z3F:CQ K (.ref Z08) "__getattribute__"=some (some<|.builtin "BaseException.__getattribute__")) (Z3G:CQ K (.ref Z08) "__getattr__"=some none) (Z3H:CQ K (.ref Z08) "__class__"=some (some<|.builtin "object.__class__"))
  (Z5M:De K mainGlobals "NoSuchWay"=some (some<|.ref Z0b))
  (Z5N:K.lookup Z0b=some (excClassObj Zba ZcA Z0b Z7q Zbb [.ref Z05,.type "ValueError",.type "Exception",.type "BaseException",.type "object"] Zbd Zbf Zbc Zbe Zbg Zbh Zbi Zbj Zbk Zbl Zbm "ValueError.__new__"))
  (Z4M:CQ K (.ref Z0b) "__getattribute__"=some (some<|.builtin "BaseException.__getattribute__")) (Z4N:CQ K (.ref Z0b) "__getattr__"=some none) (Z4O:CQ K (.ref Z0b) "__class__"=some (some<|.builtin "object.__class__"))
  (Z87:De K mainGlobals "Barred"=some (some<|.ref Z0p))
  (Z88:K.lookup Z0p=some (excClassObj Zet Zf4 Z0p Zbn Zeu [.ref Z05,.type "ValueError",.type "Exception",.type "BaseException",.type "object"] Zew Zey Zev Zex Zez ZeA ZeB ZeC ZeD ZeE ZeF "ValueError.__new__"))
  (Z74:CQ K (.ref Z0p) "__getattribute__"=some (some<|.builtin "BaseException.__getattribute__")) (Z75:CQ K (.ref Z0p) "__getattr__"=some none) (Z76:CQ K (.ref Z0p) "__class__"=some (some<|.builtin "object.__class__"))
  (hn1:Jz K (.builtin "object.__class__") "__get__"=some (some<|.builtin "getset_descriptor.__get__")) (ht1:Kb K (.builtin "object.__class__")=some true) (nd1:(Z05::[Z0a,Z0m,Z0i,Z0j,Z0k,Z0c,Z0d,Z0g,Z06,Z0o,Z08,Z0b,Z0p]).Nodup)
  :∃fd:Df,(∀(s:CO)(v:CN),J9 s fd ⟨[v],[]⟩ [("_law_script",v)])/\∀base:Heap,K.In base->base.Ns mainGlobals mg->FnOk l.prog w K mg base CX0 28 fa fd ["_law_script"] (pW K):=by
 have e:=hfa.symm.trans<|Dv X G a_law;cases e;have Z7r:=dg (st:=tp 53) Z5c Z5d Z2t;have Z7s:=Z7r.binds (ps:=["_law_found","_law_due"]) (by walk_at "B2");have Z4P:=dg (st:=tq 29 0) Z2F Z2G Z2H;have Z89:=Z4P.binds (ps:=["self","deed","standing","reached","highest","lengths","pick"]) (by walk_at "B7");have Z4Z:=dg (st:=tq 34 0) Z2S Z2T Z2U;have Z8n:=Z4Z.binds (ps:=["self","draft","most","spools"]) (by walk_at "B4");have Z8o:=dg (st:=tq 34 1) Z69 Z6a Z3M;have ZdE:=Z8o.binds (ps:=["self"]) (by walk_at "B1");have Z77:=dg (st:=tq 34 2) Z4n Z4o Z2V;have Zbs:=Z77.binds (ps:=["self","stages"]) (by walk_at "B2");have Z78:=dg (st:=tq 34 3) Z4r Z4s Z2W;have Zbt:=Z78.binds (ps:=["self","row"]) (by walk_at "B2");have Z5Q:=dg (st:=tq 34 8) Z3b Z3c Z2j;have Z8W:=Z5Q.binds (ps:=["self"]) (by walk_at "B1");have Z7t:=dg (st:=tq 34 9) Z5l Z5m Z3l;have ZcB:=Z7t.binds (ps:=["self"]) (by walk_at "B1");have Z79:=dg (st:=tq 34 10) Z4w Z4x Z2X;have Zbu:=Z79.binds (ps:=["self"]) (by walk_at "B1");have Z7a:=dg (st:=tq 34 11) Z4A Z4B Z2Y;have Zbv:=Z7a.binds (ps:=["self","k"]) (by walk_at "B2");have Z7u:=dg (st:=tq 34 12) Z5p Z5q Z3m;have ZcC:=Z7u.binds (ps:=["self","k"]) (by walk_at "B2");have Z7v:=dg (st:=tq 34 13) Z5t Z5u Z3n;have ZcD:=Z7v.binds (ps:=["self","colour"]) (by walk_at "B2");have F_law:=dg (st:=tp 57) l_law c_law k_law;have b_law:=F_law.binds (ps:=["_law_script"]) (by walk_at "B1");have Z7b:=dg (st:=tp 55) Z4D Z4E Z2Z;have Zbw:=Z7b.binds (ps:=["_law_e"]) (by walk_at "B1");have Z0e:Cls K Z00:=⟨Z7Q,Z6N,Z7R,Z7S⟩
 have Z1L:NoAttr K Z00 "deed":=Z3v;have Z0s:NoAttr K Z00 "standing":=Z2k;have Z0Q:NoAttr K Z00 "reached":=Z2A;have Z0R:NoAttr K Z00 "highest":=Z2B;have Z0S:NoAttr K Z00 "lengths":=Z2C;have Z12:NoAttr K Z00 "pick":=Z3w;have Z0f:Cls K Z01:=⟨Z8J,Z7V,Z8K,Z8L⟩
 have Z1Y:NoAttr K Z01 "most":=Z4c;have Z1M:NoAttr K Z01 "start":=Z3x;have Z0q:NoAttr K Z01 "course":=Z36;have Z1x:NoAttr K Z01 "undone":=Z37;have Z3Q:=DF X G Z4F;have Z2N:=DF X G Zdv;have ZcL:=DF X G Zdw;have ZcN:=DF X G Zdx;have Z6G:=DF X G Zbp;have Z1q:=DF X G Zbq;have Z3i:=DF X G Zdy;have Z07:=DF X G Z4G;have Z0P:=DF X G Zdz;have Z0Z:=DF X G Zbr;have Z5Z:=DF X G ZdA;have ZcJ:=DF X G ZdB;have Z1w:=DF X G Z8P;have Z63:=DF X G ZdC;have Z7f:=DF X G Z8Q;have Z1b:=DF X G ZdD;have Z2h:=Dv X G Z8R;have Z7B:=Dv X G Z7Z;have Z7C:DictK K w Z2y [(Fh<|1,.str<|CS "s"),(Fh<|-1,.str<|CS "z"),(Fh<|0,.str<|CS "o")]:=⟨by decide,Z81,by decide +kernel,_,_,Z80,(.cons ⟨gC _ _,rfl,⟨_,rfl⟩⟩<|.cons ⟨gC _ _,rfl,⟨_,rfl⟩⟩<|.cons ⟨gC _ _,rfl,⟨_,rfl⟩⟩ .nil)⟩
 have Z3O:=Dv X G Z8S;have Z3P:DictK K w Z1Z [(Ds<|CS "f",.int<|1),(Ds<|CS "b",.int<|-1),(Ds<|CS "i",.int<|0)]:=⟨by decide,Z8U,by decide +kernel,_,_,Z8T,(.cons ⟨gD _ _,rfl,⟨_,rfl⟩⟩<|.cons ⟨gD _ _,rfl,⟨_,rfl⟩⟩<|.cons ⟨gD _ _,rfl,⟨_,rfl⟩⟩ .nil)⟩
 have Z8s:=Dv X G Z8V;refine⟨DP "law" "law" (defArgs<|tp 57) (defBody<|tp 57) (defScope<|tp 57) .none kV_law dc_law pm_law an_law cd_law ct_law,fun s v=>.of_eq rfl,fun base KB _=>?_⟩;have Z1X:=Dv X G Z5v;have Z3o:XcK K Z05 Z59 vE:=⟨_,_,_,_,_,_,_,_,_,_,_,_,_,_,Z5w⟩
 have Z50:=Dv X G Z5x;have ZcE:XcK K Z0a Z7p (.ref Z05::vE):=⟨_,_,_,_,_,_,_,_,_,_,_,_,_,_,Z5y⟩
 have Z30:=Dv X G Z82;have Zbx:XcK K Z0m Z7P (.ref Z05::vE):=⟨_,_,_,_,_,_,_,_,_,_,_,_,_,_,Z83⟩
 have Z6z:=Dv X G Z6V;have ZeG:XcK K Z0i Z8X (.ref Z05::vE):=⟨_,_,_,_,_,_,_,_,_,_,_,_,_,_,Z6W⟩
 have Z6A:=Dv X G Z6X;have ZeH:XcK K Z0j Z8Y (.ref Z05::vE):=⟨_,_,_,_,_,_,_,_,_,_,_,_,_,_,Z6Y⟩
 have Z6B:=Dv X G Z6Z;have ZeI:XcK K Z0k Z8Z (.ref Z05::vE):=⟨_,_,_,_,_,_,_,_,_,_,_,_,_,_,Z70⟩
 have Z2f:=Dv X G Z6l;have Z8p:XcK K Z0c Z64 (.ref Z05::vE):=⟨_,_,_,_,_,_,_,_,_,_,_,_,_,_,Z6m⟩
 have Z2g:=Dv X G Z6o;have Z8q:XcK K Z0d Z65 (.ref Z05::vE):=⟨_,_,_,_,_,_,_,_,_,_,_,_,_,_,Z6p⟩
 have Z5Y:=Dv X G Z6r;have ZdF:XcK K Z0g Z8m (.ref Z05::vE):=⟨_,_,_,_,_,_,_,_,_,_,_,_,_,_,Z6s⟩
 have Z3q:=Dv X G Z3D;have Z9X:XcK K Z06 Z6y (.ref Z05::vE):=⟨_,_,_,_,_,_,_,_,_,_,_,_,_,_,Z3E⟩
 have Z7w:=Dv X G Z85;have Zf5:XcK K Z0o Zb8 (.ref Z05::vE):=⟨_,_,_,_,_,_,_,_,_,_,_,_,_,_,Z86⟩
 have Z3R:=Dv X G Z4K;have Zby:XcK K Z08 Z6M (.ref Z05::vE):=⟨_,_,_,_,_,_,_,_,_,_,_,_,_,_,Z4L⟩
 have Z51:=Dv X G Z5M;have ZcF:XcK K Z0b Z7q (.ref Z05::vE):=⟨_,_,_,_,_,_,_,_,_,_,_,_,_,_,Z5N⟩
 have Z7x:=Dv X G Z87;have Zf6:XcK K Z0p Zbn (.ref Z05::vE):=⟨_,_,_,_,_,_,_,_,_,_,_,_,_,_,Z88⟩
 have Z:Kin K base [Z0a,Z0m,Z0i,Z0j,Z0k,Z0c,Z0d,Z0g,Z06,Z0o,Z08,Z0b,Z0p] Z05:=Kin.of KB hn1 ht1 rfl nd1 Z3o (DL.mpr ⟨⟨⟨_,ZcE⟩,Z4H,Z4I,Z4J⟩,DL.mpr ⟨⟨⟨_,Zbx⟩,Z6Q,Z6R,Z6S⟩,DL.mpr ⟨⟨⟨_,ZeG⟩,Z6c,Z6d,Z6e⟩,DL.mpr ⟨⟨⟨_,ZeH⟩,Z6f,Z6g,Z6h⟩,DL.mpr ⟨⟨⟨_,ZeI⟩,Z6i,Z6j,Z6k⟩,DL.mpr ⟨⟨⟨_,Z8p⟩,Z5z,Z5A,Z5B⟩,DL.mpr ⟨⟨⟨_,Z8q⟩,Z5E,Z5F,Z5G⟩,DL.mpr ⟨⟨⟨_,ZdF⟩,Z5J,Z5K,Z5L⟩,DL.mpr ⟨⟨⟨_,Z9X⟩,Z3d,Z3e,Z3f⟩,DL.mpr ⟨⟨⟨_,Zf5⟩,Z71,Z72,Z73⟩,DL.mpr ⟨⟨⟨_,Zby⟩,Z3F,Z3G,Z3H⟩,DL.mpr ⟨⟨⟨_,ZcF⟩,Z4M,Z4N,Z4O⟩,DL.mpr ⟨⟨⟨_,Zf6⟩,Z74,Z75,Z76⟩,fun _ h=>nomatch h⟩⟩⟩⟩⟩⟩⟩⟩⟩⟩⟩⟩⟩);have Z7F:Ecl base Z0m:=Mg KB Zbx Z3o Z84 rfl Z6T Z6U Z2u rfl Z2c Z2d;have Z61:Ecl base Z0d:=Mg KB Z8q Z3o Z6q rfl Z5H Z5I Z2u rfl Z2c Z2d;have Z62:Ecl base Z0c:=Mg KB Z8p Z3o Z6n rfl Z5C Z5D Z2u rfl Z2c Z2d;have Z40:CalH l.prog w K mg base "_law_kinds" ["_law_e"] 1 (gM K [Z0a,Z0m,Z0i,Z0j,Z0k,Z0c,Z0d,Z0g,Z06,Z0o,Z08,Z0b,Z0p] Z05):=⟨Z2P,_,uD Z7b Z07 Z3Q Z50 Z30 Z6z Z6A Z6B Z2f Z2g Z5Y Z3q Z7w Z3R Z51 Z7x Z1X,Dv X G Z4C,Z2Z,Zbw⟩
 have SA:∀n:Nat,Cal l.prog w K mg base "_law_same" ["_law_found","_law_due"] n (fg K n):=fun n=>by
  induction n with
  |zero=>exact⟨Z2p,_,wW,Dv X G Z3k,Z2t,Z7s⟩
  |succ n ih=>exact⟨Z2p,_,uE Z7r Z0P Z07 Z6G Z3i Z63 Z0Z Z7f Z1b ih,Dv X G Z3k,Z2t,Z7s⟩
 have Z0D:=SA 26;have Z1k:Cal l.prog w K mg base _ _ _ (cb _ _ _ ir):=Z6O.cal X G fun F=>BZ F Z0P;have Z1i:Cal l.prog w K mg base _ _ _ (iI _ _ _ _ jS):=Z66.cal X G fun F=>C0 F Z2N Z1w;have Z3S:Cal l.prog w K mg base _ _ _ (eA _ _ wH):=Z4d.cal X G fun F=>C1 F Z1i;have Z52:Cal l.prog w K mg base _ _ _ (eA _ _ vf):=Z5e.cal X G fun F=>C2 F Z3S;have Z46:Cal l.prog w K mg base _ _ _ (iI _ _ _ _ vg):=Z4e.cal X G fun F=>C3 F Z52 Z1k Z1w;have Z58:Cal l.prog w K mg base _ _ _ (eA _ _ wI):=Z5f.cal X G fun F=>C4 F;have Z3u:Cal l.prog w K mg base _ _ _ (cb _ _ _ wJ):=Z3y.cal X G fun F=>C5 F Z1i Z3i;have Z3N:CalI l.prog w K mg base "Stage" Z00 ["self","deed","standing","reached","highest","lengths","pick"] (1) (uf Z00 ["deed","standing","reached","highest","lengths","pick"]):=⟨⟨Z1s,_,⟨Z7T,Z2D,Z2E,Z7U⟩,C6 Z4P Z0e Z1L Z0s Z0Q Z0R Z0S Z12,Dv X G Z8I,Z89⟩⟩
 have Z3r:Cal l.prog w K mg base _ _ _ (gO (wC (pk<|qA K)<|wC (pkD (fun(a:Tx)=>Ds<|sOf a) isI) wN) (rs<|aW K Z00)<|fun a=>wK a.1 a.2.1):=Z3z.cal X G fun F=>C7 F Z3N Z0e Z1q Z0P Z0Z;have Za7:CalI l.prog w K mg base "Loom" Z01 ["self","draft","most","spools"] (4) (pP Z01 (eg K Z00) (wC (pk<|qA K)<|wC (sh isI)<|wC (pkD (fun(a:Tx)=>Ds<|sOf a) isI) wN)<|fun a=>wL a.1 a.2.1 a.2.2.1):=⟨⟨Z1D,_,⟨Z8M,Z2Q,Z2R,Z8N⟩,C8 Z4Z Z3r Z0f Z0q Z1Y Z1M Z1x,Dv X G Zbo,Z8n⟩⟩
 have Z47:Cal l.prog w K mg base _ _ _ (cb _ _ _ wM):=Z4f.cal X G fun F=>C9 F Z1q Z0Z;have Z53:Cal l.prog w K mg base _ _ _ (eA _ _ wO):=Z5g.cal X G fun F=>Ca F;have Z3U:Cal l.prog w K mg base _ _ _ (cb _ _ _ wQ):=Z4g.cal X G fun F=>Cb F Z53 Z0P;have Z3V:Cal l.prog w K mg base _ _ _ (cb _ _ _ wR):=Z4h.cal X G fun F=>Cc F Z1i;have Z35:Cal l.prog w K mg base _ _ _ (cb _ _ _ rg):=Z38.cal X G fun F=>Ce F Z3U Z3V;have Z26:Cal l.prog w K mg base _ _ _ (eA _ _ nv):=Z6P.cal X G fun F=>Cf F;have Z1N:Cal l.prog w K mg base _ _ _ (cb _ _ _ l9):=Z4i.cal X G fun F=>Cg F Z26;have Z3s:Cal l.prog w K mg base _ _ _ (cb _ _ _ vh):=Z3A.cal X G fun F=>Ci F Z26;have Z48:Cal l.prog w K mg base _ _ _ (iI _ _ _ _ m7):=Z4j.cal X G fun F=>Cj F Z1N Z3s Z2N Z1q Z3i Z0P Z5Z ZcJ Z1b;have Z0J:CalM l.prog w K mg base CX0 Z01 "now" ["self"] (1) (gO (wC (vw<|ae K Z00 Z01) wN) (rs<|aW K Z00)<|fun a=>fO a.1):=⟨⟨Z2O,_,Ck Z8o Z0f Z0q Z1M,⟨Z67,Z68,Z3M⟩,Z0f,ZdE⟩⟩
 have Z7D:Cal l.prog w K mg base _ _ _ (cb _ _ _ vi):=Z7W.cal X G fun F=>Cm F ZcL Z0P Z8s;have Z2i:Cal l.prog w K mg base _ _ _ (cb _ _ _ n6):=Z6b.cal X G fun F=>Cn F Z3O Z3P;have Z8t:Cal l.prog w K mg base _ _ _ (cb _ _ _ uy):=Z8O.cal X G fun F=>Co F Z1b;have Z54:CalR l.prog w K mg base _ _ _ (wd la la [Z0a,Z0m,Z0i,Z0j,Z0k,Z0c,Z0d,Z0g,Z06,Z0o,Z08,Z0b,Z0p] (rs la) vj):=Z5h.calR X G fun F=>Cp F Z1q Z2g Z61;have Z7E:Cal l.prog w K mg base _ _ _ (cb _ _ _ uz):=Z7X.cal X G fun F=>Cq F Z2h Z3O Z3P;have C_top:Cal l.prog w K mg base _ _ _ (eA _ _ iu):=d_top.cal X G fun F=>Ay F Z2h;have Z7A:Cal l.prog w K mg base _ _ _ (eA _ _ wU):=Z7Y.cal X G fun F=>Cr F Z2h;have Z3X:Cal l.prog w K mg base _ _ _ (cb _ _ _ vk):=Z4k.cal X G fun F=>Cs F C_top Z7A Z2i Z7B Z7C;have Z3t:CalR l.prog w K mg base _ _ _ (we (aW K Z00) isS isI [Z0a,Z0m,Z0i,Z0j,Z0k,Z0c,Z0d,Z0g,Z06,Z0o,Z08,Z0b,Z0p] (rs<|aW K Z00) pS):=Z3B.calR X G fun F=>Ct F Z7D Z2i Z54 Z8t Z7E Z3X Z3N Z0e Z0R Z0S Z0Q Z0s Z2N ZcN Z0P Z5Z Z1b Z30 Z7F Z2f Z62;have Z3Y:CalM l.prog w K mg base CX0 Z01 "go_on" ["self","stages"] (1) (zp (ae K Z00 Z01) (aC (isL<|aW K Z00) aN) zk<|fun st a=>uA st a.1):=⟨⟨Z28,_,Cu Z77 Z0f Z0q Z1x,⟨Z4l,Z4m,Z2V⟩,Z0f,Zbs⟩⟩
 have Z3Z:CalM l.prog w K mg base (CXR l.prog w) Z01 "weave" ["self","row"] (4) (ur (ae K Z00 Z01) (aC isS aN) [Z0a,Z0m,Z0i,Z0j,Z0k,Z0c,Z0d,Z0g,Z06,Z0o,Z08,Z0b,Z0p] (oL<|fz<|qB K)<|fun st a=>uB st a.1):=⟨⟨Z29,_,Cv Z78 Z3t Z0J Z3Y Z0f Z0e Z1Y Z12 Z0Z,⟨Z4p,Z4q,Z2W⟩,Z0f,Zbt⟩⟩
 have Z49:Cal l.prog w K mg base _ _ _ (rf (ae K Z00 Z01) (aC isS aN) (oUn K [119,111,118,101,110])<|fun st a=>ou st a.1):=Z4t.cal X G fun F=>Cw F Z3Z Z0f Z Z1X Z40;have Z3j:Cal l.prog w K mg base _ _ _ (cb _ _ _ ow):=Z5i.cal X G fun F=>Cy F Z1N Z1b;have Z34:CalM l.prog w K mg base CX0 Z01 "tablets" ["self"] (2) (gO (wC (vw<|ae K Z00 Z01) wN) (ro<|qA K)<|fun a=>vm a.1):=⟨⟨Z1O,_,Cz Z5Q Z0J Z0f Z0e Z0s Z0Z,⟨Z39,Z3a,Z2j⟩,Z0f,Z8W⟩⟩
 have Z55:CalM l.prog w K mg base CX0 Z01 "band" ["self"] (1) (gO (wC (vw<|ae K Z00 Z01) wN) (ro<|qD K)<|fun a=>vn a.1):=⟨⟨Z2q,_,CA Z7t Z0f Z0e Z0q Z12 Z0Z,⟨Z5j,Z5k,Z3l⟩,Z0f,ZcB⟩⟩
 have Z41:CalM l.prog w K mg base CX0 Z01 "deeds" ["self"] (1) (gO (wC (vw<|ae K Z00 Z01) wN) (ro<|isU K)<|fun a=>vo a.1):=⟨⟨Z2a,_,CB Z79 Z0f Z0e Z0q Z1L,⟨Z4u,Z4v,Z2X⟩,Z0f,Zbu⟩⟩
 have Z42:CalM l.prog w K mg base CX0 Z01 "twist" ["self","k"] (2) (gO (wC (vw<|ae K Z00 Z01)<|wC (sh isI) wN) (rs isI)<|fun a=>pT a.1 a.2.1):=⟨⟨Z2b,_,CC Z7a Z0J Z0f Z0e Z0Q,⟨Z4y,Z4z,Z2Y⟩,Z0f,Zbv⟩⟩
 have Z56:CalM l.prog w K mg base CX0 Z01 "peak" ["self","k"] (2) (gO (wC (vw<|ae K Z00 Z01)<|wC (sh isI) wN) (rs isI)<|fun a=>pU a.1 a.2.1):=⟨⟨Z2r,_,CD Z7u Z0J Z0f Z0e Z0R,⟨Z5n,Z5o,Z3m⟩,Z0f,ZcC⟩⟩
 have Z57:CalM l.prog w K mg base CX0 Z01 "rest" ["self","colour"] (2) (gO (wC (vw<|ae K Z00 Z01)<|wC (sh isS) wN) (rs isI)<|fun a=>oy a.1 a.2.1):=⟨⟨Z2s,_,CF Z7v Z0J Z0f Z0e Z0S,⟨Z5r,Z5s,Z3n⟩,Z0f,ZcD⟩⟩
 have Z2x:Cal l.prog w K mg base _ _ _ (gO (wC (vw<|ae K Z00 Z01)<|wC (sh<|jd K)<|wC (sh<|isL<|qD K)<|wC (sh<|isL<|isU K) wN) (rs isB)<|fun a=>lZ a.1 a.2.1 a.2.2.1 a.2.2.2.1):=Z3C.cal X G fun F=>CG F Z0D Z34 Z55 Z41 Z42 Z56 Z57 Z0f Z0P Z1w;exact FnOk.imp (Az F_law Z1k Z46 Z58 Z3u Za7 Z0D Z47 Z35 Z48 Z49 Z2x Z3j Z0f Z1q Z07 Z0Z Z1w Z63) xp
theorem walk{l:Hf}{q:Dg}{loose:List Str}{XP:(Str->Option CN)->Heap->Prop}{YP:Dr->Heap->Prop}{d:DefRec}{K:LV->CL}(hn:l.most=some 63)(hdf:d.params.defaults=[])(hY:∀(w:Dr)(h:Heap),YP w h->(K w.params).In h)
  (F:∀(w:Dr)(mg:Str->Option CN)(fa:Addr)(h:Heap),(K w.params).In h->h.Ns mainGlobals mg->mg d.name=some (.ref fa)->∃fd:Df,(∀(s:CO)(u:CN),J9 s fd ⟨[u],[]⟩ [("_law_script",u)])/\∀base:Heap,(K w.params).In base->base.Ns mainGlobals mg->FnOk l.prog w (K w.params) mg base CX0 28 fa fd ["_law_script"] (pW<|K w.params)):
  Kh q loose XP YP l.row.toRowW d [] (fun f vs=>Kr f vs):=
 L2.walk_of (n:=63) (k:=28) (x:="_law_script") (CX:=fun _=>CX0) (sp:=fun w=>pW<|K w.params) hn (by decide) hdf ⟨rfl,by decide,by decide⟩ hY F (fun _ _ a ns hl _ hS=>⟨a,ns,rfl,hS,hl,fun _=>rfl⟩) fun _ _ _ _ _ z=>z
end Wb
local macro_rules | `(tactic| walk_at "D") => `(tactic| (apply Wb.DI.mk; (case da => k_is); (case dl => k_is); (case dc => k_is); (case dk => k_is); exact fun _ _ _ _ _ _ _ => rfl))
open PySem PySem.W PyProof.Rows
set_option maxRecDepth 100000 in
set_option maxHeartbeats 0 in
theorem PySem.Challenge.cw_wornband_k43_rows_on_the_loom_holds : PySem.Challenge.rw_wornband_k43_rows_on_the_loom.Holds := by
 refine hd ?_
 k_fill
 refine Wb.walk (l:=EG) rfl rfl (fun w h Y=>PySem.W.kIn_of Y) ?F
 case F=>
  intro w mg fa h KX G hmg
  refine' Wb.fin_mk KX G hmg ?Z8I ?Z7Q ?Z6N ?Z7R ?Z7S ?Z7T ?Z7U ?Z3v ?Z2k ?Z2A ?Z2B ?Z2C ?Z3w ?Zbo ?Z8J ?Z7V ?Z8K ?Z8L ?Z8M ?Z8N ?Z4c ?Z3x ?Z36 ?Z37 ?Z3k ?Z5c ?Z5d ?Z2t ?Z6O ?Z66 ?Z4d ?Z5e ?Z4e ?Z5f ?Z3y ?Z2D ?Z2E ?Z2F ?Z2G ?Z2H ?Z3z ?Z2Q ?Z2R ?Z2S ?Z2T ?Z2U ?Z4f ?Z5g ?Z4g ?Z4h ?Z38 ?Z6P ?Z4i ?Z3A ?Z4j ?Z67 ?Z68 ?Z69 ?Z6a ?Z3M ?Z7W ?Z6b ?Z8O ?Z5h ?Z7X ?d_top ?Z7Y ?Z4k ?Z3B ?Z4l ?Z4m ?Z4n ?Z4o ?Z2V ?Z4p ?Z4q ?Z4r ?Z4s ?Z2W ?Z4t ?Z5i ?Z39 ?Z3a ?Z3b ?Z3c ?Z2j ?Z5j ?Z5k ?Z5l ?Z5m ?Z3l ?Z4u ?Z4v ?Z4w ?Z4x ?Z2X ?Z4y ?Z4z ?Z4A ?Z4B ?Z2Y ?Z5n ?Z5o ?Z5p ?Z5q ?Z3m ?Z5r ?Z5s ?Z5t ?Z5u ?Z3n ?Z3C ?a_law ?l_law ?c_law ?k_law ?Z4C ?Z4D ?Z4E ?Z2Z ?Z4F ?Zdv ?Zdw ?Zdx ?Zbp ?Zbq ?Zdy ?Z4G ?Zdz ?Zbr ?ZdA ?ZdB ?Z8P ?ZdC ?Z8Q ?ZdD ?Z8R ?Z7Z ?Z80 ?Z81 ?Z8S ?Z8T ?Z8U ?Z8V ?Z5v ?Z5w ?Z2u ?Z2c ?Z2d ?Z5x ?Z5y ?Z4H ?Z4I ?Z4J ?Z82 ?Z83 ?Z6Q ?Z6R ?Z6S ?Z84 ?Z6T ?Z6U ?Z6V ?Z6W ?Z6c ?Z6d ?Z6e ?Z6X ?Z6Y ?Z6f ?Z6g ?Z6h ?Z6Z ?Z70 ?Z6i ?Z6j ?Z6k ?Z6l ?Z6m ?Z5z ?Z5A ?Z5B ?Z6n ?Z5C ?Z5D ?Z6o ?Z6p ?Z5E ?Z5F ?Z5G ?Z6q ?Z5H ?Z5I ?Z6r ?Z6s ?Z5J ?Z5K ?Z5L ?Z3D ?Z3E ?Z3d ?Z3e ?Z3f ?Z85 ?Z86 ?Z71 ?Z72 ?Z73 ?Z4K ?Z4L ?Z3F ?Z3G ?Z3H ?Z5M ?Z5N ?Z4M ?Z4N ?Z4O ?Z87 ?Z88 ?Z74 ?Z75 ?Z76 ?hn1 ?ht1 ?nd1
  (case Z8I|Z7Q|Z6N|Z7R|Z7S|Z7T|Z7U|Z3v|Z2k|Z2A|Z2B|Z2C|Z3w|Zbo|Z8J|Z7V|Z8K|Z8L|Z8M|Z8N|Z4c|Z3x|Z36|Z37|Z3k|Z5c|Z5d|Z2t=>k_is)
  (case Z6O|Z66|Z4d|Z5e|Z4e|Z5f|Z3y=>walk_at "D")
  (case Z2D|Z2E|Z2F|Z2G|Z2H=>k_is)
  (case Z3z=>walk_at "D")
  (case Z2Q|Z2R|Z2S|Z2T|Z2U=>k_is)
  (case Z4f|Z5g|Z4g|Z4h|Z38|Z6P|Z4i|Z3A|Z4j=>walk_at "D")
  (case Z67|Z68|Z69|Z6a|Z3M=>k_is)
  (case Z7W|Z6b|Z8O|Z5h|Z7X|d_top|Z7Y|Z4k|Z3B=>walk_at "D")
  (case Z4l|Z4m|Z4n|Z4o|Z2V|Z4p|Z4q|Z4r|Z4s|Z2W=>k_is)
  (case Z4t|Z5i=>walk_at "D")
  (case Z39|Z3a|Z3b|Z3c|Z2j|Z5j|Z5k|Z5l|Z5m|Z3l|Z4u|Z4v|Z4w|Z4x|Z2X|Z4y|Z4z|Z4A|Z4B|Z2Y|Z5n|Z5o|Z5p|Z5q|Z3m|Z5r|Z5s|Z5t|Z5u|Z3n=>k_is)
  (case Z3C=>walk_at "D")
  (case a_law|l_law|c_law|k_law|Z4C|Z4D|Z4E|Z2Z|Z4F|Zdv|Zdw|Zdx|Zbp|Zbq|Zdy|Z4G|Zdz|Zbr|ZdA|ZdB|Z8P|ZdC|Z8Q|ZdD|Z8R|Z7Z|Z80=>k_is)
  (case Z81=>rfl)
  (case Z8S|Z8T=>k_is)
  (case Z8U=>rfl)
  (case Z8V|Z5v|Z5w|Z2u=>k_is)
  (case Z2c=>exact Wb.strKeys_of rfl)
  (case Z2d=>first|rfl|kernel_rfl)
  (case Z5x|Z5y|Z4H|Z4I|Z4J|Z82|Z83|Z6Q|Z6R|Z6S|Z84=>k_is)
  (case Z6T=>exact Wb.strKeys_of rfl)
  (case Z6U=>first|rfl|kernel_rfl)
  (case Z6V|Z6W|Z6c|Z6d|Z6e|Z6X|Z6Y|Z6f|Z6g|Z6h|Z6Z|Z70|Z6i|Z6j|Z6k|Z6l|Z6m|Z5z|Z5A|Z5B|Z6n=>k_is)
  (case Z5C=>exact Wb.strKeys_of rfl)
  (case Z5D=>first|rfl|kernel_rfl)
  (case Z6o|Z6p|Z5E|Z5F|Z5G|Z6q=>k_is)
  (case Z5H=>exact Wb.strKeys_of rfl)
  (case Z5I=>first|rfl|kernel_rfl)
  (case Z6r|Z6s|Z5J|Z5K|Z5L|Z3D|Z3E|Z3d|Z3e|Z3f|Z85|Z86|Z71|Z72|Z73|Z4K|Z4L|Z3F|Z3G|Z3H|Z5M|Z5N|Z4M|Z4N|Z4O|Z87|Z88|Z74|Z75|Z76|hn1|ht1=>k_is)
  (case nd1=>decide)
