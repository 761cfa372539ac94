import PyProof.Rows.All
import Wide.All
import OpenK.AllK
import Wide.FinOn
import PyProof.EqAt
import PyProof.EqKinds
import PyProof.TupleCall
import KE.KDictSum
import KE.KRevIter
import KE.KRevSl
import KE.KDictLaws
import PyProof.StrLawsFirst
import KE.LcSums
import PyProof.EnumMake
import PyProof.TupleIter
import PyProof.StationsW
import PyProof.Rows.Own
import PyProof.NsDelKeeps
import PyProof.RulesAs
import PyProof.ExcAttrAll.ValueError
import KE.KIsAll
import PyProof.ExcBaseAll.ValueError
import PyProof.Rows.FStr
import PyProof.FString
import PyProof.Rows.StrNews
import PyProof.StrLawsTight
import PyProof.StrLawsChain
import PyProof.ExcInit
import PyProof.ExcClass3
import PyProof.InstStoreFacts
import PySem.SetTable
import PySem.SetOps
import PyProof.TupleKey
import PyProof.SetKind
import PyProof.IsRules
import KE.KSortTup
import PyProof.Rows.SortRun
import PyProof.Rows.SortShell
import PyProof.DictWalks
import PyProof.DictTruth
import PySem.Challenge.RW_wornband_k33_worn_sign_told_each_way
open And renaming intro->GU
open Array renaming getElem?_toList->AA,getElem?_eq_getElem->AK,length_toList->Ba,getD_eq_getD_getElem?->Bj,toList_append->Bm,getElem?_eq_some_iff->Cm,toList_push->Cw,getD->CA,getElem?_eq_none->Dg,toList_setIfInBounds->Dv,toList_eraseIdxIfInBounds->DX,toList_reverse->Ef,size_setIfInBounds->F9,replicate->FD,forIn_toList->Gs,toList_map->GW,toList_inj->GZ,toList->HV
open Bool renaming false_ne_true->AG,false_eq_true->Bb,eq_iff_iff->Cz,and_eq_true->E3,not_true->Ea,not_eq_true'->F1,false_and->FT,not_false->G2,and_assoc->G4,or_eq_true->Hj,false_or->HF,and_comm->HQ
open Classical renaming not_forall->Ed,not_imp->EX
open False renaming elim->Dd
open ForInStep renaming done->AW,yield->B9
open Int renaming emod_lt_of_pos->Be,emod_nonneg->Bq,toNat_natCast->BE,toNat_of_nonneg->G5,zero_add->HX,ediv_one->HY
open List renaming getElem?_eq_getElem->Ar,getElem?_map->Ay,getElem?_eq_some_iff->Az,size_toArray->AH,mem_cons_self->AJ,getElem?_append_right->AL,append_assoc->AM,mem_cons_of_mem->AN,mem_cons->AR,getElem?_append_left->AU,mem_of_getElem?->AX,mem_append_right->B0,length_map->B8,nodup_iff_pairwise_ne->Bd,map_cons->Bh,mem_map->Bi,mem_append->Bk,getElem?_take_of_lt->Bn,getElem?_drop->Bw,getD_eq_getElem?_getD->BD,getElem?_eq_none_iff->BF,range->BG,getElem?_eq_none->BO,Nodup->BQ,getElem?_cons_succ->BS,pairwise_append->BX,append_nil->C1,nodup_cons->C7,find?_cons->C8,lookup_cons->Cb,getElem?_cons_zero->Cc,ext_getElem?->Cj,drop_eq_getElem_cons->Cn,pairwise_iff_getElem->Co,length_append->Cq,getElem_mem->Cr,mem_reverse->Cs,replicate->Ct,mem_iff_getElem->Cu,pairwise_map->Cy,not_mem_nil->CC,length_cons->CD,getElem?_reverse->CI,perm_append_comm->CJ,map_map->CN,filterMap_cons->CW,length_eq_zero_iff->CZ,drop_length->D4,length->Dc,mem_filterMap->De,take_of_length_le->Df,mem_singleton->Dh,nil_append->Dl,mem_range->Dt,cons_append->DA,getElem?_range->DD,length_erase_of_mem->DF,of_mem_zip->DH,length_zip->DI,set_cons_zero->DL,pairwise_singleton->DN,map_nil->DQ,nodup_nil->DV,mem_iff_getElem?->DY,mem_of_mem_erase->DZ,length_take->E2,any_cons->E9,mem_append_left->Eb,length_nil->En,length_reverse->Eo,pairwise_cons->EE,set_cons_succ->EH,getElem?_zip_eq_some->EL,mem_or_eq_of_mem_set->EN,length_range->EY,filterMap_cons_some->F7,sum_cons->Fc,zipIdx_cons->Fg,pairwise_mergeSort->Fh,getElem?_set_self->Fm,drop_eq_nil_of_le->Ft,pairwise_lt_range->Fv,mem_filter->Fw,foldl_cons->Fz,forIn_cons->FA,length_singleton->FG,take_append_drop->FI,contains_iff_mem->FQ,getElem?_set_ne->FR,drop_zero->FX,forIn_nil->FY,length_eraseIdx->G1,mergeSort_perm->G6,reverse_append->G7,lookup_append->Gq,reverse_cons->GC,nodup_append->GK,length_drop->GP,all_eq_true->GS,perm_middle->GX,map_snd_zip->H0,length_set->Hh,zipIdx_nil->Hi,map_append->Hl,drop_drop->Hw,all_cons->HD,map_id->Io,map->IY
open List.Nodup renaming not_mem_erase->DE,length_le_of_subset->E7
open List.Pairwise renaming nil->Dp,map->IM
open List.Perm renaming append_right->BH,append_left->BP,eq_of_pairwise->F5
open List.Sublist renaming nodup->IK
open List.cons renaming injEq->FF,inj->HR
open Nat renaming le_refl->Au,lt_of_lt_of_le->AF,zero_le->AS,ne_of_lt->AY,lt_irrefl->BZ,le_trans->C6,zero_add->CO,le_add_right->D3,le_of_lt->Dy,ne_of_gt->DO,sub_self->DS,lt_succ_self->E5,mod_lt->ED,add_sub_cancel->EI,lt_succ_of_lt->ET,le_succ->EU,lt_trans->Fs,div_div_eq_div_mul->Fu,reduceAdd->Gf,reduceSub->Gg,le_succ_of_le->GJ,div_eq_of_lt->GV,strongRecOn->Hk,add_assoc->HL
open Ne renaming symm->E8
open Option renaming map_eq_some_iff->Bs,map_some->Dk,getD_some->E4,ne_none_iff_exists'->EB,isSome_iff_exists->F2,getD_none->Ff,isSome->Gb,isSome_some->Gn
open Option.some renaming inj->Bl,injEq->F0
open Or renaming inr->IJ,inl->IX
open Prod renaming ext->EC
open PyProof.Rows renaming wpS_bind->Aw,wpS_pure->AB,Keyed->AD,boot_isinstance->AO,wpS_forRange->Bz,SortSt->C2,wpS_modify->C9,callWith_type1->Ce,wpS_mono->D6,boot_tuple->D7,boot_bool->Di,boot_int->Dn,mem_zip_self->DB,wpS_get->DU,boot_list->DW,SortKind->Ee,AllBare->EO,boot_sorted->Fb,wpS_lift->Fj,subscriptTail_builtinR->Fo,boot_abs->FO,boot_str->FP,listUpdate_at->Ge,Subscript_->Gk,IntsAre->Gz,callWith_builtin1->GO,seqEpoch_at->He,boot_all->I9,boot_sum->Ia,tail_any->Ii
open PyProof.Rows.SortSt renaming mk'->Dx
open PySem renaming wpAny_bind->Aj,Value->Am,wpAny_pure->An,Shared->Ap,Program->AI,World->AQ,FuncData->AZ,Around->Bo,wpAny_call_entry->Bp,wpAny_newObj_type->Bu,wpAny_mono->Bv,wpAny_callSpecial?_slot->BC,SetTable->BJ,sizeLine_eq->BU,wpAny_holding->C0,wpAny_field->C3,wpAny_setState_of->C4,wpAny_seqItems->Ci,wpAny_typeNameOfWhole_keyiter->Cv,wpAny_standAt->CB,wpAny_rule->CF,wpAny_setField_rec->CG,IsTupleKey->CH,DictEntry->CL,wpAny_truthy_bool->CM,wpAny_comprehension_free->CQ,wpAny_typeNameOf_keyiter->CS,NameKind->CY,wpAny_setField->D0,wpAny_askSetting->D5,Scope->Dj,wpAny_attempt->Dm,Builtin->Dq,wpAny_isInstance->Dz,wpAny_passesOwn->DG,IsPair->DJ,wpAny_pyIter_rangeiter->DP,wpAny_pyIter_slot->DT,wpAny_updateSeq_pair->Ec,wpAny_specialOf->Ei,pushCells_keeps->Ej,wpAny_ite_split->Ek,wpAny_setEntries_of->Ep,codeAny_mono->Es,wpAny_Call_Name_kw->Ey,isSubtype_stop->EA,wpAny_fieldsOf->EG,wpAny_pyIter_list->ER,slot_list_getitem->ES,wpAny_dictEntries->EZ,wpAny_getItem_list_slice->F3,wpAny_onRaise->F4,Comprehension->F6,wpAny_eqBool_int->Fe,wpAny_forIn_list->Fi,wpAny_pyNext_range_end->Fn,Keyword->Fp,wpAny_Call_method_late->Fq,Model->Fx,wpAny_execs_nil->Fy,IsZip->FC,wpAny_dictEpoch->FE,wpAny_isSame_ref_self->FH,builtinLookup_eq_fast->FJ,wpAny_isOneOf_keyiter->FL,IsRangeIter->FU,sliceRange_one->FW,wpAny_of_eq->FZ,isSubtype_type->G0,evalPart_none->G8,wpAny_handled->Ga,wpAny_pyIter_ascii->Gp,tupleKind_room_in1->Gu,wpAny_assign_Name->Gw,BindsTo->Gy,seqIndex_neg->GA,wpAny_pyIter_wide->GB,wpAny_storeSet_of->GG,wpAny_execs_cons->GN,wpAny_pyIter_zip->GR,seqIndex_of->Ha,wpAny_throw->Hb,wpAny_letGo->Hc,wpAny_loadPart'->Hg,typeLookup_type->Hm,wpAny_Name->Hq,Result->Hr,typeIs_str->Hs,wpAny_newTuple->Hu,entryFor_alias->Hx,intBits_le_64->HC,call_list_seq->HE,signature?_of->HJ,wpAny_newList->HM,Draws->HS,CellsOk->HW,Params->IH
open PySem.Builtin.Dict renaming showsAll->FK,dictSlotNone->HA
open PySem.Builtin.Dict_items renaming ownsTuple->El
open PySem.Builtin.Frozenset renaming oneOther->Hy,sizeOf->HK,addrOf->HN,slot0->HU
open PySem.Builtin.List renaming listLengthHint->Et
open PySem.Builtin.Range renaming rangeFitsLong->By,rangeSize->BB,rangeFields->EM
open PySem.Builtin.SmallTypes renaming nextOf->Bt,ownedTupleIsFree->C5,ownedTupleHandOut->DC,refuseKeywords->Gv
open PySem.Builtin.Str renaming strSliceIndices->Cf,occurrences->DM,tooLong->IB
open PySem.Calls renaming Name_function_global->Ex,spliced_cons->Gj,spliced_nil->Gx
open PySem.Data renaming cell->Ew,fields->FV,seq->Ht
open PySem.F renaming slot_dict_keyiterator_next->BK,args_dict_keyiterator_next_1->E6,entry_dict_keyiterator_next->Eg,slot_dict_keyiterator_iter->Em,slot_range_reversed->FN,slot_dict_iter->H9,slot_set_iter->Hn
open PySem.Heap renaming get?_push_of_some->Aq,get?_push_size->Ax,lt_size->AE,SameBut->Bf,size_push->Cg,get?_update_self->Cp,get?_update_other->DR,ExtBut->EW,get?_push_ne->GI,size_update->GY
open PySem.Heap.IsSliceOf renaming new->Gm
open PySem.Heap.Ns renaming new->Im
open PySem.Heap.SameBut renaming update->BN
open PySem.IsRange renaming new->Ih
open PySem.NameKind renaming free->BM,cell->G9
open PySem.Obj renaming mapSeq->CP,putSet->EF,mapFields->F8,data_mapFields->Gr
open PySem.PassesOwn renaming never->BL
open PySem.SeqAt renaming EqAt->IE
open PySem.SeqAt.EqAt renaming int_str->Gh,str_int->Gi,none_bool->Ij,bool_none->Ik,bool_bool->Il,none_int->Ip,none_str->Iq,bool_int->Ir,bool_str->Iu,int_none->Iw,int_bool->Iy,str_none->Iz,str_bool->IA,int_int->IF,str_str->IG,same->IW
open PySem.SeqAt.RcAt renaming lists_lengths->HP,lists->IQ
open PySem.SetTable renaming leap->B7,bits->Bc,runEnd->Bg,below->BI,insertAt->BR,turns->BW,grown->Dw,sizeAbove->DK,fill->Gd,has->GF,fresh->Hz,slot->HG,laid->HH,fits->HI
open PySem.SetTable.below renaming go->Dr
open PySem.SetTable.layClean renaming free->Ck
open PySem.SetTable.probe renaming go->Ds
open PySem.Str renaming ofString->Av,length->ID
open PySem.Txt renaming find->Ez,slice->GQ,mul->IL
open PySem.Value renaming ref->Bx,none->BA,type->E1,int->Fd,str->GL,bool->Ho,isStrOf->HB,isInt->Ib,float->Ig
open PySem.W renaming looks_findIn->GD,looks_mroIn->Hd,looks_find->Hv
open PySem.W.WData renaming int->IP
open PySem.W.WShape renaming has->II
open PySem.pickOrder renaming go->GH
open Sum renaming inl->CU,inr->CV
open Sum.inl renaming inj->Ic
open Sum.inr renaming inj->Ie
open True renaming intro->Du
set_option Elab.async false
set_option linter.all false
set_option maxRecDepth 100000
namespace L2
open PySem PySem.Spec PyProof.Rows
abbrev Key:=Sum Int Str
def fg:Key->Am->Bool
 | .inl k,v=>Ib k v
 | .inr x,v=>HB x v
def qX (w:AQ):Key->Int
 | .inl k=>hashInt k
 | .inr x=>hashStr w x
theorem bD:∀{k:Key} {v:Am},fg k v=true->(∃i t,k=CU i/\v=Fd i t)\/(∃x t,k=CV x/\v=GL x t)
 | .inl i, v, h => by
  obtain⟨t,e⟩:=Value.isInt_shape (k:=i) (v:=v) h
  exact .inl ⟨i,t,rfl,e⟩
 | .inr x, v, h => by
  obtain⟨t,e⟩:=Value.isStrOf_shape (x:=x) (v:=v) h
  exact .inr ⟨x,t,rfl,e⟩
theorem fH (i:Int) (t:Tok):fg (.inl i) (.int i t)=true:=by simp[fg,Ib]
theorem fI (x:Str) (t:Tok):fg (.inr x) (.str x t)=true:=by simp[fg,HB]
theorem we (a b:Int):decide ((CU a:Key)=CU b)=(a == b):=by
 by_cases e:a=b
 ·subst e;simp
 ·have h:¬(CU a:Key)=CU b:=fun q=>e (Ic q)
  rw[decide_eq_false h]
  exact(beq_eq_false_iff_ne.mpr e).symm
theorem wg (a b:Str):decide ((CV a:Key)=CV b)=decide (a=b):=by
 by_cases e:a=b
 ·subst e;simp
 ·have h:¬(CV a:Key)=CV b:=fun q=>e (Ie q)
  rw[decide_eq_false h,decide_eq_false e]
theorem wj (a:Int) (b:Str):decide ((CU a:Key)=CV b)=false:=decide_eq_false (fun q=>nomatch q)
theorem wk (a:Str) (b:Int):decide ((CV a:Key)=CU b)=false:=decide_eq_false (fun q=>nomatch q)
def mixKind (prog:AI) (w:AQ):PySem.KeyKind prog w Key where
 is:=fg
 hash:=qX w
 inj:=fun v a b ha hb=>by
  rcases bD ha with⟨i,t,rfl,rfl⟩ | ⟨x,t,rfl,rfl⟩
  ·rcases bD hb with⟨j,u,rfl,e⟩ | ⟨y,u,rfl,e⟩
   ·injection e with e1 _;rw[e1]
   ·exact nomatch e
  ·rcases bD hb with⟨j,u,rfl,e⟩ | ⟨y,u,rfl,e⟩
   ·exact nomatch e
   ·injection e with e1 _;rw[e1]
 byValue:=fun k v h=>by
  rcases bD h with⟨i,t,rfl,rfl⟩ | ⟨x,t,rfl,rfl⟩ <;> rfl
 pyHash:=fun hv h=>by
  rcases bD hv with⟨i,t,rfl,rfl⟩ | ⟨x,t,rfl,rfl⟩
  ·exact wpAny_pyHash_int h
  ·exact wpAny_pyHash_str h
 eqBool:=fun hu hv h=>by
  rcases bD hu with⟨i,t,rfl,rfl⟩ | ⟨x,t,rfl,rfl⟩
  ·rcases bD hv with⟨j,u,rfl,rfl⟩ | ⟨y,u,rfl,rfl⟩
   ·rw[we]at h;exact Fe h
   ·rw[wj]at h;exact Gh i t y u _ _ _ _ h
  ·rcases bD hv with⟨j,u,rfl,rfl⟩ | ⟨y,u,rfl,rfl⟩
   ·rw[wk]at h;exact Gi x t j u _ _ _ _ h
   ·rw[wg]at h;exact wpAny_eqBool_str h
 «strs» :=fun k x t v h=>by
  rcases bD h with⟨i,u,rfl,e⟩ | ⟨y,u,rfl,e⟩
  ·exact nomatch e
  ·injection e with e1 _
   subst e1
   cases v <;> rfl
theorem ll (prog:AI) (w:AQ) (i:Int) (t:Tok):(mixKind prog w).is (.inl i) (.int i t)=true:=fH i t
theorem lq (prog:AI) (w:AQ) (x:Str) (t:Tok):(mixKind prog w).is (.inr x) (.str x t)=true:=fI x t
inductive V where
 | non | bl (b:Bool) | int (i:Int) | str (x:Str) | byt (b:Array UInt8) | flt (b:UInt64) | ref (a:Addr) | ty (n:String)
 deriving DecidableEq
def RelV:V->Am->Prop
 | .non,u=>u=BA
 | .bl b,u=>u=Ho b
 | .int i,u=>∃t,u=Fd i t
 | .str x,u=>∃t,u=GL x t
 | .byt b,u=>∃t,u=Value.bytes b t
 | .flt b,u=>∃t,u=Ig b t
 | .ref a,u=>u=Bx a
 | .ty n,u=>u=E1 n
abbrev Vals:List V->List Am->Prop:=Paired RelV
theorem Vals.length {xs:List V} {us:List Am} (r:Vals xs us):xs.length=us.length:=Paired.length r
theorem Vals.get:∀{xs:List V} {us:List Am} {i:Nat} {x:V},Vals xs us->xs[i]? =some x->∃u,us[i]? =some u/\RelV x u
 | _,_,_,_,.nil,e=>by simp at e
 | _,_,0,_,.cons r _,e=>by simp at e;subst e;exact⟨_,rfl,r⟩
 | _, _, i + 1, x, .cons _ t, e => by
  obtain⟨u,h1,h2⟩:=Vals.get (i:=i) (x:=x) t (by simpa using e)
  exact⟨u,by simpa using h1,h2⟩
theorem Vals.set {x:V} {u:Am} (r:RelV x u):∀{xs:List V} {us:List Am} (i:Nat),Vals xs us->Vals (xs.set i x) (us.set i u)
 | _,_,_,.nil=>.nil
 | _,_,0,.cons _ t=>.cons r t
 | _,_,i+1,.cons q t=>.cons q (Vals.set r i t)
theorem Vals.append:∀{xs ys:List V} {us ws:List Am},Vals xs us->Vals ys ws->Vals (xs++ys) (us++ws)
 | _,_,_,_,.nil,s=>s
 | _,_,_,_,.cons r t,s=>.cons r (Vals.append t s)
theorem Vals.take:∀{xs:List V} {us:List Am} (n:Nat),Vals xs us->Vals (xs.take n) (us.take n)
 | _,_,0,_=>.nil
 | _,_,_+1,.nil=>.nil
 | _,_,n+1,.cons r t=>.cons r (Vals.take n t)
theorem Vals.drop:∀{xs:List V} {us:List Am} (n:Nat),Vals xs us->Vals (xs.drop n) (us.drop n)
 | _,_,0,r=>r
 | _,_,_+1,.nil=>.nil
 | _,_,n+1,.cons _ t=>Vals.drop n t
def RelO:Option V->Option Am->Prop
 | some v,some u=>RelV v u
 | none,none=>True
 | _,_=>False
def KV {κ:Type} :List (κ×V)->List (κ×Am)->Prop:=Paired fun(p:κ×V) (q:κ×Am)=>p.1=q.1/\RelV p.2 q.2
def kV:Key->V
 | .inl i=>.int i
 | .inr x=>.str x
inductive HO where
 | lst (xs:List V)
 | tup (xs:List V)
 | dK (kvs:List (Key×V)) | dT (kvs:List (List Key×V))
 | set (S:Int->Bool) (n:Nat)
 | ins (C dx:Addr) (fs:List (Str×V))
 | own (x:Addr)
 | xd (fs:List (Str×V))
 | met (f x:Addr)
 | rng (lo hi:Int)
 | frz (o:Obj) (u:HO)
 | tbl (ps:Array Am)
 | ext (φ:Heap->Prop)
abbrev Hp:=Addr->Option HO
def cJ (H:Hp) (a:Addr) (o:HO):Hp:=fun b=>if b=a then some o else H b
theorem aF {H:Hp} {a:Addr} {o:HO} :cJ H a o a=some o:=by unfold cJ;rw[if_pos rfl]
theorem aH {H:Hp} {a b:Addr} {o:HO} (h:b≠a):cJ H a o b=H b:=by unfold cJ;rw[if_neg h]
theorem bT {H:Hp} {a b:Addr} {o:HO} (h:H a=some o) (h':H b=none):a≠b:=by
 intro e;subst e;rw[h]at h';cases h'
def IsTupD (h:Heap) (a:Addr) (items:Array Am):Prop:=∃o,h.get? a=some o/\(o.cls=.type "tuple" /\o.dict=none)/\∃n,o.data=.seq items n
theorem IsTupD.tup {h:Heap} {a:Addr} {items:Array Am} (t:IsTupD h a items):IsTup h a items:=let ⟨o,e,c,n,d⟩:=t;⟨o,e,c.1,n,d⟩
theorem IsTupD.new (h:Heap) (items:Array Am):IsTupD (h.push {cls:=.type "tuple",data:=.seq items}) h.objs.size items:=⟨_,Ax h rfl,⟨rfl,rfl⟩,0,rfl⟩
section
variable (P:AI) (w:AQ)
def ObjOk (H:Hp) (h:Heap) (a:Addr):HO->Prop
 | .lst xs=>xs.length<=sizeLine/\∃(its:List Am) (n:Nat),Vals xs its/\h.get? a=some {cls:=.type "list",data:=.seq its.toArray n}
 | .tup xs=>xs.length<=sizeLine/\∃its:List Am,Vals xs its/\IsTupD h a its.toArray
 | .dK kvs=>kvs.length<=sizeLine/\(a == sysModules)=false/\∃vs,KV kvs vs/\h.DictOf (mixKind P w) a vs
 | .dT kvs=>kvs.length<=sizeLine/\(a == sysModules)=false/\∃xs:List (List Key×Addr×Am),
   Paired (fun(p:List Key×V) (q:List Key×Addr×Am)=>p.1=q.1/\H q.2.1=some (.tup (p.1.map kV))/\RelV p.2 q.2.2) kvs xs/\
   ∃o es ep,h.get? a=some o/\o.ExactDict/\o.data=.dict es ep/\es.toList=xs.map (entryOfKey (tupleKind (mixKind P w)))/\(xs.map (·.1)).Nodup
 | .set S n=>h.SetOf (intKind P w) a S n
 | .ins C dx fs=>H dx=some (.own a)/\fs.length<=1000/\dx≠a/\h.get? a=some (PySem.W.instObj C dx)/\
   ∃mA,h.Ns1 dx mA/\(∀f,RelO (fs.lookup f) (mA f))/\PySem.Within mA (fs.map (·.1))
 | .own _=>∃o,h.get? a=some o
 | .xd fs=>∃mA,h.Ns1 a mA/\∀f,RelO (fs.lookup f) (mA f)
 | .rng lo hi=>∃t u v,h.get? a=some {cls:=.type "range",data:=.fields #[.int lo t,.int hi u,.int 1 v]}
 | .frz o u=>h.get? a=some o/\ObjOk H h a u
 | .tbl ps=>h.get? a=some {cls:=.none,data:=.fields ps}
 | .met f x=>h.get? a=some (PySem.W.methodObj (.ref f) (.ref x))
 | .ext φ=>φ h/\(∃o,h.get? a=some o)/\∀h1 h2:Heap,φ h1->(∀o,h1.get? a=some o->h2.get? a=some o)->φ h2
def HOk (H:Hp) (h:Heap):Prop:=∀a o,H a=some o->ObjOk P w H h a o
end
section
variable {P:AI} {w:AQ} {H H':Hp} {h h':Heap} {a:Addr} {o:HO}
theorem ObjOk.lt (x:ObjOk P w H h a o):a< h.objs.size:=by
 cases o with
 | lst xs=>obtain⟨_,_,_,_,e⟩:=x;exact AE e
 | tup xs=>obtain⟨_,_,_,p⟩:=x;exact p.tup.lt
 | dK kvs=>obtain⟨_,_,_,_,o,_,_,e,_⟩:=x;exact AE e
 | dT kvs=>obtain⟨_,_,_,_,o,_,_,e,_⟩:=x;exact AE e
 | set S n=>obtain⟨o,_,_,_,e,_⟩:=x;exact AE e
 | ins C dx fs=>obtain⟨_,_,_,e,_⟩:=x;exact AE e
 | own y=>obtain⟨_,e⟩:=x;exact AE e
 | xd fs=>obtain⟨_,⟨_,_,_,e,_⟩,_⟩:=x;exact AE e
 | rng lo hi=>obtain⟨_,_,_,e⟩:=x;exact AE e
 | frz ob u=>obtain⟨e,_⟩:=x;exact AE e
 | tbl ps=>exact AE (show h.get? a=some _ from x)
 | met f y=>exact AE (show h.get? a=some _ from x)
 | ext φ=>obtain⟨_,⟨_,e⟩,_⟩:=x;exact AE e
theorem Paired.mapP {α β:Type} {F G:α->β->Prop} :∀{l₁:List α} {l₂:List β},Paired F l₁ l₂->(∀a b,F a b->G a b)->Paired G l₁ l₂
 | _,_,.nil,_=>.nil
 | _,_,.cons r t,f=>.cons (f _ _ r) (Paired.mapP t f)
theorem ObjOk.stay (x:ObjOk P w H h a o) (k:∀b u,(b=a\/H b=some (.own a))->h.get? b=some u->h'.get? b=some u)
  (ho:∀b,H b=some (.own a)->H' b=some (.own a)) (ht:∀b xs,H b=some (.tup xs)->H' b=some (.tup xs)):ObjOk P w H' h' a o:=by
 induction o with
 | lst xs=>obtain⟨z,its,n,r,e⟩:=x;exact⟨z,its,n,r,k _ _ (.inl rfl) e⟩
 | tup xs=>obtain⟨z,its,r,ob,e,c⟩:=x;exact⟨z,its,r,ob,k _ _ (.inl rfl) e,c⟩
 | dK kvs=>obtain⟨z,y,vs,r,ob,es,ep,e,c⟩:=x;exact⟨z,y,vs,r,ob,es,ep,k _ _ (.inl rfl) e,c⟩
 | dT kvs =>
  obtain⟨z,y,xs,r,ob,es,ep,e,c⟩:=x
  exact⟨z,y,xs,Paired.mapP r fun p q z=>⟨z.1,ht _ _ z.2.1,z.2.2⟩,ob,es,ep,k _ _ (.inl rfl) e,c⟩
 | set S n=>obtain⟨ob,es,ep,t,e,c⟩:=x;exact⟨ob,es,ep,t,k _ _ (.inl rfl) e,c⟩
 | ins C dx fs =>
  obtain⟨d,z,ne,e,mA,⟨od,es,ep,e2,c⟩,r⟩:=x
  exact⟨ho _ d,z,ne,k _ _ (.inl rfl) e,mA,⟨od,es,ep,k _ _ (.inr d) e2,c⟩,r⟩
 | own y=>obtain⟨ob,e⟩:=x;exact⟨ob,k _ _ (.inl rfl) e⟩
 | xd fs=>obtain⟨mA,⟨od,es,ep,e,c⟩,r⟩:=x;exact⟨mA,⟨od,es,ep,k _ _ (.inl rfl) e,c⟩,r⟩
 | rng lo hi=>obtain⟨t,u,v,e⟩:=x;exact⟨t,u,v,k _ _ (.inl rfl) e⟩
 | frz ob u ih=>obtain⟨e,q⟩:=x;exact⟨k _ _ (.inl rfl) e,ih q⟩
 | tbl ps =>
  have e:h.get? a=some {cls:=.none,data:=.fields ps} :=x
  show h'.get? a=some {cls:=.none,data:=.fields ps}
  exact k a _ (.inl rfl) e
 | met f y =>
  have e:h.get? a=some (PySem.W.methodObj (.ref f) (.ref y)):=x
  show h'.get? a=some (PySem.W.methodObj (.ref f) (.ref y))
  exact k a _ (.inl rfl) e
 | ext φ=>obtain⟨p,⟨o,e⟩,st⟩:=x;exact⟨st _ _ p fun o q=>k _ _ (.inl rfl) q,⟨o,k _ _ (.inl rfl) e⟩,st⟩
theorem HOk.lt (x:HOk P w H h) (e:H a=some o):a< h.objs.size:=(x a o e).lt
theorem HOk.fresh (x:HOk P w H h) (e:h.objs.size<=a):H a=none:=by
 cases q:H a with
 | none=>rfl
 | some u=>exact absurd (AF (x.lt q) e) (BZ _)
theorem HOk.kept (x:HOk P w H h) (k:∀b u,h.get? b=some u->h'.get? b=some u):HOk P w H h':=fun a o e=>
 (x a o e).stay (fun b u _ q=>k b u q) (fun _ q=>q) fun _ _ q=>q
theorem HOk.laid (x:HOk P w H h) (k:∀b u,h.get? b=some u->h'.get? b=some u) (hp:h.objs.size<=a) (new:ObjOk P w (cJ H a o) h' a o):HOk P w (cJ H a o) h':=fun b u e=>by
 have hn:=x.fresh hp
 by_cases hb:b=a
 ·subst hb;rw[aF]at e;cases e;exact new
 ·rw[aH hb]at e
  exact(x b u e).stay (fun c v _ q=>k c v q) (fun c q=>by rw[aH (bT q hn)];exact q) fun c xs q=>by rw[aH (bT q hn)];exact q
end
def Rd (H:Hp) (a:Addr) (u:HO):Prop:=H a=some u\/∃o,H a=some (.frz o u)
theorem Rd.ok {P:AI} {w:AQ} {H:Hp} {h:Heap} {a:Addr} {u:HO} (r:Rd H a u) (x:HOk P w H h):ObjOk P w H h a u:=by
 rcases r with r | ⟨o,r⟩
 ·exact x a u r
 ·obtain⟨_,q⟩:=x a _ r
  exact q
def xG:Option HO->Prop
 | some (.lst _)=>True
 | some (.dK _)=>True
 | some (.dT _)=>True
 | some (.set _ _)=>True
 | some (.ins _ _ _)=>True
 | some (.ext _)=>True
 | _=>False
section
variable {P:AI} {w:AQ} {H:Hp} {h h':Heap} {x e:Addr} {o':HO}
theorem HOk.write (ok:HOk P w H h) (mu:xG (H x)) (he:e=x\/H e=some (.own x)) (k:∀b u,b≠e->h.get? b=some u->h'.get? b=some u) (heo:∃u,h'.get? e=some u)
  (new:ObjOk P w (cJ H x o') h' x o'):HOk P w (cJ H x o') h':=fun b u q=>by
 have nown:∀c y,H c=some (.own y)->c≠x:=fun c y r z=>by subst z;rw[r]at mu;exact mu
 have ntup:∀c xs,H c=some (.tup xs)->c≠x:=fun c xs r z=>by subst z;rw[r]at mu;exact mu
 by_cases hb:b=x
 ·subst hb;rw[aF]at q;cases q;exact new
 ·rw[aH hb]at q
  by_cases hbe:b=e
  ·have q':H b=some (.own x):=by
    rcases he with z | z
    ·exact absurd (hbe.trans z) hb
    ·rw[hbe];exact z
   rw[q]at q';cases q'
   obtain⟨v,hv⟩:=heo
   exact⟨v,by rw[hbe];exact hv⟩
  ·refine(ok b u q).stay (fun c v hc r=>k c v ?_ r) (fun c r=>by rw[aH (nown c b r)];exact r) fun c xs r=>by rw[aH (ntup c xs r)];exact r
   rcases hc with rfl | hc
   ·exact hbe
   ·rintro rfl
    rcases he with z | z
    ·exact nown c b hc z
    ·rw[hc]at z;cases z;exact hb rfl
end
structure Un (fs ex:List Addr) (H H':Hp) (h h':Heap):Prop where
 keep:∀b o,h.get? b=some o->H b=none->b∉fs->b∉ex->h'.get? b=some o
 slot:∀b o,h.get? b=some o->H b=none->b∈fs->b∉ex->∃sl,h'.get? b=some {o with slots:=sl}
 free:∀b o,h.get? b=some o->H b=none->b∉ex->H' b=none
 there:∀b o,h.get? b=some o->b∉ex->∃o',h'.get? b=some o'
 tups:∀b xs,H b=some (.tup xs)->H' b=some (.tup xs)
 frzs:∀b o u,H b=some (.frz o u)->H' b=some (.frz o u)
 tbls:∀b ps,H b=some (.tbl ps)->∃more,H' b=some (.tbl (ps++more))
section
variable {fs fs' ex ex':List Addr} {H H1 H2:Hp} {h h1 h2 h':Heap} {a x e:Addr} {o:HO}
theorem Un.any (u:Un fs ex H H1 h h1) {b:Addr} {ob:Obj} (q:h.get? b=some ob) (n:H b=none) (hx:b∉ex):∃sl,h1.get? b=some {ob with slots:=sl} :=by
 by_cases hb:b∈fs
 ·exact u.slot b ob q n hb hx
 ·exact⟨ob.slots,u.keep b ob q n hb hx⟩
theorem Un.kept (k:∀b u,h.get? b=some u->h'.get? b=some u):Un fs ex H H h h':=
 ⟨fun b ob q _ _ _=>k b ob q,fun b ob q _ _ _=>⟨ob.slots,k b ob q⟩,fun _ _ _ n _=>n,fun b ob q _=>⟨ob,k b ob q⟩,fun _ _ q=>q,fun _ _ _ q=>q,fun _ ps q=>⟨#[],by rw[q];simp⟩⟩
theorem Un.refl:Un fs ex H H h h:=Un.kept fun _ _ q=>q
theorem Un.laid (k:∀b u,h.get? b=some u->h'.get? b=some u) (hp:h.objs.size<=a) (hn:H a=none):Un fs ex H (cJ H a o) h h' where
 keep:=fun b u q _ _ _=>k b u q
 slot:=fun b u q _ _ _=>⟨u.slots,k b u q⟩
 free:=fun b u q n _=>by rw[aH (AY (AF (AE q) hp))];exact n
 there:=fun b u q _=>⟨u,k b u q⟩
 tups:=fun b xs q=>by rw[aH (bT q hn)];exact q
 frzs:=fun b u xs q=>by rw[aH (bT q hn)];exact q
 tbls:=fun b ps q=>⟨#[],by rw[aH (bT q hn),q];simp⟩
theorem Un.write (mu:xG (H x)) (he:e=x\/H e=some (.own x)) (k:∀b u,b≠e->h.get? b=some u->h'.get? b=some u) (heo:∃u,h'.get? e=some u):Un fs ex H (cJ H x o) h h':=by
 have hx:∀b,H b=none->b≠x:=fun b n z=>by subst z;rw[n]at mu;exact mu
 have hb:∀b,H b=none->b≠e:=fun b n z=>by
  subst z
  rcases he with r | r
  ·exact hx b n r
  ·rw[n]at r;cases r
 have hm:∀b u,H b=some u->¬xG (some u)->b≠x:=fun b u q nm z=>by subst z;rw[q]at mu;exact nm mu
 refine⟨fun b u q n _ _=>k b u (hb b n) q,fun b u q n _ _=>⟨u.slots,k b u (hb b n) q⟩,fun b u q n _=>by rw[aH (hx b n)];exact n,fun b u q _=>?_,
  fun b xs q=>by rw[aH (hm b _ q fun z=>z)];exact q,fun b u xs q=>by rw[aH (hm b _ q fun z=>z)];exact q,fun b ps q=>⟨#[],by rw[aH (hm b _ q fun z=>z),q];simp⟩⟩
 by_cases hbe:b=e
 ·subst hbe;exact heo
 ·exact⟨u,k b u hbe q⟩
end
def nc (h:Heap) (H:Hp):List Addr:=(BG h.objs.size).filter fun a=>(H a).isSome
def k9 (h:Heap) (H:Hp):Heap:=PySem.W.hideAll h (nc h H)
theorem pH (h:Heap) (H:Hp):(k9 h H).objs.size=h.objs.size:=PySem.W.hideAll_size _ _
theorem qY {h:Heap} {H:Hp} {b:Addr} {o:Obj} (e:h.get? b=some o) (n:H b=none):(k9 h H).get? b=some o:=
 PySem.W.hideAll_get _ e fun hm=>by
  have q:(H b).isSome=true:=(Fw.mp hm).2
  rw[n]at q;simp at q
theorem uj {h:Heap} {H:Hp} {b:Addr} {o:Obj} (e:(k9 h H).get? b=some o):h.get? b=some o/\H b=none:=by
 have e':h.get? b=some o:=PySem.W.of_hideAll (nc h H) e
 refine⟨e',?_⟩
 cases q:H b with
 | none=>rfl
 | some x =>
  have hm:b∈nc h H:=Fw.mpr ⟨Dt.mpr (AE e'),by simp[q]⟩
  have z:(k9 h H).get? b=none:=PySem.W.hideAll_none (nc h H) hm
  rw[z]at e;cases e
structure Mod (K:PySem.W.Frag) (mg:Str->Option Am) (base:Heap):Prop where
 kin:K.In base
 glob:base.Ns mainGlobals mg
 blt:∃mb,base.Ns builtinsNs mb/\∀x:Str,x≠"__name__" ->mb x=bootBuiltins x
 nolimit:base.NoLimit
structure Cx where
 prog:AI
 w:AQ
 K:PySem.W.Frag
 mg:Str->Option Am
 base:Heap
 A:Bo
 N:List Str
 s₀:Ap
 H₀:Hp
 env:Env
 outer:List Env
 stack:List Env
 ex:List Addr
 fn:Str->Bool
 calm:Bool
 pn:List (Addr×Obj)
 xe:Am->Ap->Prop
def frs (l:List Env):List Addr:=l.filterMap (·.frame)
abbrev Cx.fs (X:Cx):List Addr:=frs X.outer
def Vis (sc:Dj) (x:Str):Prop:=sc.names.lookup x=some .local\/sc.names.lookup x=some .cell\/sc.names.lookup x=some .free
def xH (sc:Dj) (x:Str):Prop:=sc.names.lookup x=some .local\/sc.names.lookup x=some .cell
def Look (env:Env) (h:Heap) (m:Str->Option Am) (x:Str) (u:Am):Prop:=
 (env.kindOf x=some .local/\m x=some u)\/((env.kindOf x=some .cell\/env.kindOf x=some .free)/\∃c,env.cells.lookup x=some c/\h.IsCell c (some u))
structure Cx.Ok (X:Cx):Prop where
 mod:Mod X.K X.mg X.base
 kind:X.env.scope.kind=.function
 glob:X.env.globals=mainGlobals
 blt:X.env.builtins=builtinsNs
 above:X.s₀.heap.objs.size<=X.env.locals
 inj:∀x y c,X.env.cells.lookup x=some c->X.env.cells.lookup y=some c->x=y
 has:∀x,(X.env.kindOf x=some .cell\/X.env.kindOf x=some .free)->∃c,X.env.cells.lookup x=some c
 cab:∀x c,X.fn x=true->X.env.cells.lookup x=some c->X.s₀.heap.objs.size<=c
 hd:X.calm=true->X.A.handled=none
 frames:X.A.frames=some X.stack
 stk:X.stack=X.outer\/(X.stack=X.env::X.outer/\X.env.frame=some X.env.locals)
 exf:∀b∈X.ex,b≠X.env.locals/\∀x c,X.env.cells.lookup x=some c->c≠b
 bs:∀b o,X.base.get? b=some o->X.s₀.heap.get? b=some o/\X.H₀ b=none
 bsz:X.base.objs.size<=X.s₀.heap.objs.size
 noex:∀b o,X.base.get? b=some o->b∉X.ex
 exfs:∀b∈X.ex,b∉X.fs
 funs:X.s₀.heap.FunFrames X.base X.outer
 frf:∀b∈X.fs,X.H₀ b=none
structure Inv (X:Cx) (pins:List (Addr×Obj)) (σ:List (Option V)) (H:Hp) (s:Ap):Prop where
 ok:X.Ok
 os:s.os=X.s₀.os
 bare:EO s.gens
 base:Un X.fs X.ex X.H₀ H X.s₀.heap s.heap
 loc:∃m,s.heap.Ns X.env.locals m/\∀(i:Nat) (x:Str) (v:V),X.N[i]? =some x->σ[i]? =some (some v)->Vis X.env.scope x->∃u,RelV v u/\Look X.env s.heap m x u
 cell:∀x c,X.env.cells.lookup x=some c->∃v,s.heap.IsCell c v
 free:H X.env.locals=none
 freeC:∀x c,X.env.cells.lookup x=some c->H c=none
 pin:∀p∈X.pn++pins,s.heap.get? p.1=some p.2/\H p.1=none/\p.1≠X.env.locals/\p.1∉X.fs/\∀v,p.2.data≠.cell v
 hok:HOk X.prog X.w H s.heap
 len:σ.length=X.N.length
section
variable {X:Cx} {pins:List (Addr×Obj)} {σ:List (Option V)} {H H':Hp} {s:Ap} {h':Heap}
theorem Cx.Ok.nofr (ok:X.Ok) {b:Addr} {o:Obj} (e:X.base.get? b=some o):b∉X.fs:=fun hb=>by
 have:=(ok.funs.mem hb).1
 rw[e]at this;cases this
theorem Inv.bs (I:Inv X pins σ H s):∀b o,X.base.get? b=some o->s.heap.get? b=some o/\H b=none:=fun b o e=>
 ⟨I.base.keep b o (I.ok.bs b o e).1 (I.ok.bs b o e).2 (I.ok.nofr e) (I.ok.noex b o e),I.base.free b o (I.ok.bs b o e).1 (I.ok.bs b o e).2 (I.ok.noex b o e)⟩
theorem Inv.bk (I:Inv X pins σ H s):∀b o,X.base.get? b=some o->s.heap.get? b=some o:=fun b o e=>(I.bs b o e).1
theorem Inv.mod (I:Inv X pins σ H s):Mod X.K X.mg X.base:=I.ok.mod
theorem Inv.kIn (I:Inv X pins σ H s):X.K.In s.heap:=I.ok.mod.kin.keeps I.bk
theorem Inv.lt (I:Inv X pins σ H s):X.env.locals< s.heap.objs.size:=let ⟨_,hn,_⟩:=I.loc;hn.lt
theorem Inv.sz (I:Inv X pins σ H s):X.s₀.heap.objs.size<=s.heap.objs.size:=C6 I.ok.above (Dy I.lt)
theorem Inv.nofs (I:Inv X pins σ H s) {a:Addr} (h:s.heap.objs.size<=a):a∉X.fs:=fun hb=>by
 obtain⟨_,o,ho,_⟩:=I.ok.funs.mem hb
 exact absurd (AF (AE ho) (C6 I.sz h)) (BZ _)
theorem Inv.cne (I:Inv X pins σ H s):∀x c,X.env.cells.lookup x=some c->c≠X.env.locals:=fun x c e z=>by
 obtain⟨v,o,ho,hd⟩:=I.cell x c e
 obtain⟨m,⟨o',es,ep,ho',hd',_⟩,_⟩:=I.loc
 rw[z,ho']at ho;cases ho;rw[hd']at hd;cases hd
theorem Inv.funs (I:Inv X pins σ H s):s.heap.FunFrames X.base X.outer:=by
 have all:∀(l:List Env),(∀b∈frs l,b∈X.fs)->X.s₀.heap.FunFrames X.base l->s.heap.FunFrames X.base l:=by
  intro l
  induction l with
  | nil=>intro _ _;trivial
  | cons env r ih =>
   intro hs hl
   obtain⟨hk,⟨L,o,hf,hn,ho,hd⟩,hr⟩:=hl
   have hL:L∈X.fs:=hs L (by unfold frs;rw[CW,hf];exact AJ)
   obtain⟨sl,e⟩:=I.base.slot L o ho (I.ok.frf L hL) hL fun z=>I.ok.exfs L z hL
   exact⟨hk,⟨L,_,hf,hn,e,hd⟩,ih (fun b hb=>hs b (by unfold frs;rw[CW,hf];exact AN _ hb)) hr⟩
 exact all X.outer (fun _ hb=>hb) I.ok.funs
theorem Inv.stack (I:Inv X pins σ H s):s.heap.FunFrames X.base X.stack:=by
 rcases I.ok.stk with e | ⟨e,hf⟩
 ·rw[e];exact I.funs
 ·rw[e]
  obtain⟨m,hn,_⟩:=I.loc
  refine .cons (by rw[I.ok.kind];decide) hf hn ?_ I.funs
  exact Heap.get?_none_of_le (C6 I.ok.bsz I.ok.above)
theorem Inv.stkSub (I:Inv X pins σ H s):∀b∈frs X.stack,b∈X.env.locals::X.fs:=fun b hb=>by
 rcases I.ok.stk with e | ⟨e,hf⟩
 ·rw[e]at hb;exact AN _ hb
 ·rw[e]at hb
  unfold frs at hb
  rw[CW,hf]at hb
  exact hb
theorem Inv.stkFree (I:Inv X pins σ H s):∀b∈frs X.stack,H b=none:=fun b hb=>by
 rcases AR.mp (I.stkSub b hb)with e | hb
 ·rw[e];exact I.free
 ·obtain⟨_,o,ho,_⟩:=I.ok.funs.mem hb
  exact I.base.free b o ho (I.ok.frf b hb) fun z=>I.ok.exfs b z hb
theorem Inv.step {g':Array GenState} {t':Nat} {d':Drawn} {ch:List Addr} (I:Inv X pins σ H s)
  (hch:∀b∈ch,(b∈X.ex\/X.s₀.heap.objs.size<=b)/\b≠X.env.locals/\(∀x c,X.env.cells.lookup x=some c->c≠b)/\∀p∈X.pn++pins,p.1≠b)
  (keep:∀b o,b≠X.env.locals->b∉X.fs->b∉ch->s.heap.get? b=some o->H b=none->h'.get? b=some o)
  (slot:∀b o,b≠X.env.locals->b∈X.fs->b∉ch->s.heap.get? b=some o->H b=none->∃sl,h'.get? b=some {o with slots:=sl}) (free:∀b o,b∉ch->s.heap.get? b=some o->H b=none->H' b=none)
  (there:∀b o,b∉ch->s.heap.get? b=some o->∃o',h'.get? b=some o')
  (tups:∀b xs,H b=some (.tup xs)->H' b=some (.tup xs)) (frzs:∀b o u,H b=some (.frz o u)->H' b=some (.frz o u)) (tbls:∀b ps,H b=some (.tbl ps)->∃more,H' b=some (.tbl (ps++more)))
  (ns:∀m,s.heap.Ns X.env.locals m->h'.Ns X.env.locals m) (hok:HOk X.prog X.w H' h') (hg:EO g'):
  Inv X pins σ H' {s with heap:=h',gens:=g',drawn:=d',toks:=t'} :=by
 have neL:∀b o,X.s₀.heap.get? b=some o->b≠X.env.locals:=fun b o e=>AY (AF (AE e) I.ok.above)
 have neC:∀b o,X.s₀.heap.get? b=some o->b∉X.ex->b∉ch:=fun b o e hx hb=>by
  rcases (hch b hb).1 with z | z
  ·exact hx z
  ·exact absurd (AF (AE e) z) (BZ _)
 have cellK:∀x c,X.env.cells.lookup x=some c->∀v,s.heap.IsCell c v->h'.IsCell c v:=fun x c e v ⟨o,ho,hd⟩=>by
  have nch:c∉ch:=fun z=>(hch c z).2.2.1 x c e rfl
  by_cases hc:c∈X.fs
  ·obtain⟨sl,q⟩:=slot c o (I.cne x c e) hc nch ho (I.freeC x c e)
   exact⟨_,q,hd⟩
  ·exact⟨o,keep c o (I.cne x c e) hc nch ho (I.freeC x c e),hd⟩
 refine⟨I.ok,I.os,hg,⟨fun b o e n hb hx=>?_,fun b o e n hb hx=>?_,fun b o e n hx=>?_,fun b o e hx=>?_,fun b xs e=>tups b xs (I.base.tups b xs e),fun b o xs e=>frzs b o xs (I.base.frzs b o xs e),fun b ps e=>?_⟩,?_,fun x c e=>?_,?_,fun x c e=>?_,fun p hp=>?_,hok,I.len⟩
 ·exact keep b o (neL b o e) hb (neC b o e hx) (I.base.keep b o e n hb hx) (I.base.free b o e n hx)
 ·obtain⟨sl,e1⟩:=I.base.slot b o e n hb hx
  obtain⟨sl',e2⟩:=slot b _ (neL b o e) hb (neC b o e hx) e1 (I.base.free b o e n hx)
  exact⟨sl',e2⟩
 ·obtain⟨o',e1⟩:=I.base.there b o e hx
  exact free b o' (neC b o e hx) e1 (I.base.free b o e n hx)
 ·obtain⟨o',e1⟩:=I.base.there b o e hx
  exact there b o' (neC b o e hx) e1
 ·obtain⟨m1,e1⟩:=I.base.tbls b ps e
  obtain⟨m2,e2⟩:=tbls b _ e1
  exact⟨m1++m2,by rw[e2,Array.append_assoc]⟩
 ·obtain⟨m,hn,hl⟩:=I.loc
  refine⟨m,ns m hn,fun i x v e1 e2 e3=>?_⟩
  obtain⟨u,r,l⟩:=hl i x v e1 e2 e3
  refine⟨u,r,?_⟩
  rcases l with l | ⟨k,c,e,z⟩
  ·exact .inl l
  ·exact .inr ⟨k,c,e,cellK x c e _ z⟩
 ·obtain⟨v,z⟩:=I.cell x c e
  exact⟨v,cellK x c e v z⟩
 ·obtain⟨m,⟨o,_,_,ho,_⟩,_⟩:=I.loc
  exact free _ o (fun z=>(hch _ z).2.1 rfl) ho I.free
 ·obtain⟨v,o,ho,hd⟩:=I.cell x c e
  exact free c o (fun z=>(hch c z).2.2.1 x c e rfl) ho (I.freeC x c e)
 ·obtain⟨e,n,ne,nf,d⟩:=I.pin p hp
  have nch:p.1∉ch:=fun z=>(hch p.1 z).2.2.2 p hp rfl
  exact⟨keep p.1 p.2 ne nf nch e n,free p.1 p.2 nch e n,ne,nf,d⟩
theorem Inv.un {t':Nat} (I:Inv X pins σ H s) (u:Un X.fs [] H H' s.heap h') (hok:HOk X.prog X.w H' h'):Inv X pins σ H' {s with heap:=h',toks:=t'} :=by
 obtain⟨m,⟨o,es,ep,ho,r⟩,_⟩:=id I.loc
 obtain⟨sl,hL⟩:=u.any ho I.free (by simp)
 exact I.step (g':=s.gens) (d':=s.drawn) (ch:=[]) (fun _ z=>nomatch z) (fun b o _ hb _ e n=>u.keep b o e n hb (by simp)) (fun b o _ hb _ e n=>u.slot b o e n hb (by simp)) (fun b o _ e n=>u.free b o e n (by simp)) (fun b o _ e=>u.there b o e (by simp)) u.tups u.frzs u.tbls (fun m' hm=>by
  obtain⟨o',es',ep',ho',r'⟩:=hm
  rw[ho]at ho';cases ho'
  exact⟨_,es',ep',hL,r'⟩) hok I.bare
theorem Inv.call {g':Array GenState} {t':Nat} {d':Drawn} {ch:List Addr} (I:Inv X pins σ H s) (u:Un (frs X.stack) ch H H' s.heap h') (hok:HOk X.prog X.w H' h') (hg:EO g')
  (hch:∀b∈ch,(b∈X.ex\/X.s₀.heap.objs.size<=b)/\b≠X.env.locals/\(∀x c,X.env.cells.lookup x=some c->c≠b)/\∀p∈X.pn++pins,p.1≠b):
  Inv X pins σ H' {s with heap:=h',gens:=g',drawn:=d',toks:=t'} :=by
 obtain⟨m,⟨o,es,ep,ho,r⟩,_⟩:=id I.loc
 obtain⟨sl,hL⟩:=u.any ho I.free fun z=>(hch _ z).2.1 rfl
 exact I.step (ch:=ch) hch (fun b o hL hb hc e n=>u.keep b o e n (fun z=>(AR.mp (I.stkSub b z)).elim hL hb) hc) (fun b o _ _ hc e n=>u.any e n hc) (fun b o hc e n=>u.free b o e n hc) (fun b o hc e=>u.there b o e hc) u.tups u.frzs u.tbls (fun m' hm=>by
  obtain⟨o',es',ep',ho',r'⟩:=hm
  rw[ho]at ho';cases ho'
  exact⟨_,es',ep',hL,r'⟩) hok hg
theorem Inv.turned {t':Nat} {it:Addr} (I:Inv X pins σ H s) (k:∀b o,b≠it->s.heap.get? b=some o->h'.get? b=some o) (hn:H it=none) (hL:it≠X.env.locals)
  (h1:it∈X.ex\/X.s₀.heap.objs.size<=it) (h2:∀x c,X.env.cells.lookup x=some c->c≠it) (h3:∀p∈X.pn++pins,p.1≠it):Inv X pins σ H {s with heap:=h',toks:=t'} :=by
 have nit:∀b u,H b=some u->b≠it:=fun b u e z=>by rw[z,hn]at e;cases e
 refine I.step (g':=s.gens) (d':=s.drawn) (ch:=[it]) (fun b hb=>?_) (fun b o _ _ hc e _=>k b o (fun z=>hc (by simp[z])) e) (fun b o _ _ hc e _=>⟨o.slots,k b o (fun z=>hc (by simp[z])) e⟩) (fun _ _ _ _ n=>n)
  (fun b o hc e=>⟨o,k b o (fun z=>hc (by simp[z])) e⟩) (fun _ _ e=>e) (fun _ _ _ e=>e) (fun b ps e=>⟨#[],by rw[e];simp⟩) (fun m hm=>?_) (fun b u e=>?_) I.bare
 ·have e:b=it:=by simpa using hb
  subst e
  exact⟨h1,hL,h2,h3⟩
 ·obtain⟨o,es,ep,ho,r⟩:=hm
  exact⟨o,es,ep,k _ o (E8 hL) ho,r⟩
 ·refine(I.hok b u e).stay (fun c v hc q=>k c v ?_ q) (fun _ q=>q) fun _ _ q=>q
  rcases hc with z | z
  ·rw[z];exact nit b u e
  ·exact nit c _ z
theorem Inv.tok (I:Inv X pins σ H s) (t:Nat):Inv X pins σ H {s with toks:=t} :=I.un (h':=s.heap) (t':=t) Un.refl I.hok
theorem Inv.kept {t':Nat} (I:Inv X pins σ H s) (k:∀b u,s.heap.get? b=some u->h'.get? b=some u):Inv X pins σ H {s with heap:=h',toks:=t'} :=I.un (Un.kept k) (I.hok.kept k)
theorem Inv.laid {a:Addr} {o:HO} {t':Nat} (I:Inv X pins σ H s) (k:∀b u,s.heap.get? b=some u->h'.get? b=some u) (hp:s.heap.objs.size<=a) (new:ObjOk X.prog X.w (cJ H a o) h' a o):
  Inv X pins σ (cJ H a o) {s with heap:=h',toks:=t'} :=I.un (Un.laid k hp (I.hok.fresh hp)) (I.hok.laid k hp new)
theorem Inv.write {x e:Addr} {o:HO} {t':Nat} (I:Inv X pins σ H s) (mu:xG (H x)) (he:e=x\/H e=some (.own x)) (k:∀b u,b≠e->s.heap.get? b=some u->h'.get? b=some u) (heo:∃u,h'.get? e=some u)
  (new:ObjOk X.prog X.w (cJ H x o) h' x o):Inv X pins σ (cJ H x o) {s with heap:=h',toks:=t'} :=I.un (Un.write mu he k heo) (I.hok.write mu he k heo new)
theorem Inv.weak {σ':List (Option V)} (I:Inv X pins σ H s) (hl:σ'.length=σ.length) (w:∀(i:Nat) v,σ'[i]? =some (some v)->σ[i]? =some (some v)):Inv X pins σ' H s:=
 ⟨I.ok,I.os,I.bare,I.base,let ⟨m,hn,hl'⟩:=I.loc;⟨m,hn,fun i x v e1 e2 e3=>hl' i x v e1 (w i v e2) e3⟩,I.cell,I.free,I.freeC,I.pin,I.hok,hl.trans I.len⟩
theorem Inv.pins_of {pins':List (Addr×Obj)} (I:Inv X pins σ H s) (h:∀p∈pins',s.heap.get? p.1=some p.2/\H p.1=none/\p.1≠X.env.locals/\p.1∉X.fs/\∀v,p.2.data≠.cell v):Inv X pins' σ H s:=
 ⟨I.ok,I.os,I.bare,I.base,I.loc,I.cell,I.free,I.freeC,fun p hp=>(Bk.mp hp).elim (fun z=>I.pin p (Eb _ z)) (h p),I.hok,I.len⟩
theorem lu {N:List Str} (hN:N.Nodup) {i j:Nat} {x:Str} (a:N[i]? =some x) (b:N[j]? =some x):i=j:=by
 obtain⟨h1,e1⟩:=Az.mp a
 obtain⟨h2,e2⟩:=Az.mp b
 exact(List.getElem_inj hN).mp (e1.trans e2.symm)
theorem jF {M:Fx} {A:Bo} {E:Am->Ap->Prop} {i:Nat} {x:Str} {v:V} {u:Am} {Q:Unit->Ap->Prop} (I:Inv X pins σ H s) (hN:X.N.Nodup) (hi:X.N[i]? =some x) (hx:xH X.env.scope x) (r:RelV v u)
  (h:∀s',Inv X pins (σ.set i (some v)) H s'->(∃a,Bf a s.heap s'.heap/\(a=X.env.locals\/X.env.cells.lookup x=some a))->Q () s') (hf:X.fn x=true\/X.env.scope.names.lookup x=some .local:=by first | exact .inl rfl | exact .inr rfl | assumption):wpAny M A (storeName X.env x u) Q E s:=by
 obtain⟨m,hn,hl⟩:=id I.loc
 have hcls:(X.env.scope.kind == .class || (X.env.scope.kind == .module && X.env.locals != X.env.globals))=false:=by rw[I.ok.kind];rfl
 have hiσ:i< σ.length:=by rw[I.len];exact(Az.mp hi).1
 have cne:=I.cne
 have tracked:∀{a:Addr} {h':Heap},(∃o,s.heap.get? a=some o/\H a=none)->Bf a s.heap h'->HOk X.prog X.w H h':=fun {a h'} ha hs b ob e=>by
  obtain⟨_,_,hfree⟩:=ha
  refine(I.hok b ob e).stay (fun c w' hc q=>(hs.2 c ?_).trans q) (fun _ q=>q) fun _ _ q=>q
  rintro rfl
  rcases hc with rfl | hc
  ·rw[hfree]at e;cases e
  ·rw[hfree]at hc;cases hc
 rcases hx with hk | hk
 ·refine wpAny_storeName_local hk hn (fun h' hn' hs=>?_) hcls
  obtain⟨oL,_,_,hoL,_⟩:=id hn
  refine h _ ⟨I.ok,I.os,I.bare,⟨fun b o e n hb hx=>?_,fun b o e n hb hx=>?_,I.base.free,fun b o e hx=>?_,I.base.tups,I.base.frzs,I.base.tbls⟩,⟨_,hn',fun j y v' e1 e2 e3=>?_⟩,fun y c e=>?_,I.free,I.freeC,fun p hp=>?_,tracked ⟨oL,hoL,I.free⟩ hs,by simpa using I.len⟩ ⟨_,hs,.inl rfl⟩
  ·exact(hs.2 b (AY (AF (AE e) I.ok.above))).trans (I.base.keep b o e n hb hx)
  ·obtain⟨sl,e1⟩:=I.base.slot b o e n hb hx
   exact⟨sl,(hs.2 b (AY (AF (AE e) I.ok.above))).trans e1⟩
  ·obtain⟨o',e1⟩:=I.base.there b o e hx
   exact⟨o',(hs.2 b (AY (AF (AE e) I.ok.above))).trans e1⟩
  ·by_cases hj:j=i
   ·subst hj
    rw[hi]at e1;cases e1
    rw[Fm hiσ]at e2
    cases e2
    exact⟨u,r,.inl ⟨hk,by simp⟩⟩
   ·rw[FR (E8 hj)]at e2
    obtain⟨u',r',q⟩:=hl j y v' e1 e2 e3
    refine⟨u',r',?_⟩
    rcases q with⟨k,e⟩ | ⟨k,c,e,z⟩
    ·refine .inl ⟨k,?_⟩
     have:y≠x:=fun e=>hj (lu hN e1 (e▸hi))
     simp[this,e]
    ·exact .inr ⟨k,c,e,z.sameBut hs (cne y c e)⟩
  ·obtain⟨w',z⟩:=I.cell y c e
   exact⟨w',z.sameBut hs (cne y c e)⟩
  ·obtain⟨e,n,ne,nf,d⟩:=I.pin p hp
   exact⟨(hs.2 p.1 ne).trans e,n,ne,nf,d⟩
 ·have hfn:X.fn x=true:=by
   rcases hf with z | z
   ·exact z
   ·rw[z]at hk;cases hk
  obtain⟨c,hc⟩:=I.ok.has x (.inl hk)
  obtain⟨w',z⟩:=I.cell x c hc
  refine wpAny_storeName_cell I.ok.kind hk hc z (fun h' hc' hs=>?_)
  obtain⟨oc,hoc,hocd⟩:=id z
  refine h {s with heap:=h'} ⟨I.ok,I.os,I.bare,⟨fun b o e n hb hx=>?_,fun b o e n hb hx=>?_,I.base.free,fun b o e hx=>?_,I.base.tups,I.base.frzs,I.base.tbls⟩,⟨m,hn.sameBut hs (E8 (cne x c hc)),fun j y v' e1 e2 e3=>?_⟩,fun y c' e=>?_,I.free,I.freeC,fun p hp=>?_,tracked ⟨oc,hoc,I.freeC x c hc⟩ hs,by simpa using I.len⟩ ⟨c,hs,.inr hc⟩
  ·exact(hs.2 b (AY (AF (AE e) (I.ok.cab x c hfn hc)))).trans (I.base.keep b o e n hb hx)
  ·obtain⟨sl,e1⟩:=I.base.slot b o e n hb hx
   exact⟨sl,(hs.2 b (AY (AF (AE e) (I.ok.cab x c hfn hc)))).trans e1⟩
  ·obtain⟨o',e1⟩:=I.base.there b o e hx
   exact⟨o',(hs.2 b (AY (AF (AE e) (I.ok.cab x c hfn hc)))).trans e1⟩
  ·by_cases hj:j=i
   ·subst hj
    rw[hi]at e1;cases e1
    rw[Fm hiσ]at e2
    cases e2
    exact⟨u,r,.inr ⟨.inl hk,c,hc,hc'⟩⟩
   ·rw[FR (E8 hj)]at e2
    obtain⟨u',r',q⟩:=hl j y v' e1 e2 e3
    refine⟨u',r',?_⟩
    rcases q with q | ⟨k,c',e,z'⟩
    ·exact .inl q
    ·refine .inr ⟨k,c',e,z'.sameBut hs ?_⟩
     rintro rfl
     exact hj (lu hN e1 (I.ok.inj _ _ _ e hc▸hi))
  ·by_cases hcc:c'=c
   ·subst hcc;exact⟨_,hc'⟩
   ·obtain⟨w2,z2⟩:=I.cell y c' e
    exact⟨w2,z2.sameBut hs hcc⟩
  ·obtain⟨e,n,ne,nf,d⟩:=I.pin p hp
   refine⟨(hs.2 p.1 ?_).trans e,n,ne,nf,d⟩
   intro q
   rw[q,hoc]at e
   have q':oc=p.2:=Bl e
   exact d w' (by rw[<-q'];exact hocd)
theorem lx {M:Fx} {A:Bo} {E:Am->Ap->Prop} {i:Nat} {x:Str} {v:V} {u:Am} {Q:Unit->Ap->Prop} (I:Inv X pins σ H s) (hN:X.N.Nodup) (hi:X.N[i]? =some x) (hx:xH X.env.scope x) (r:RelV v u)
  (h:∀s',Inv X pins (σ.set i (some v)) H s'->Q () s') (hf:X.fn x=true\/X.env.scope.names.lookup x=some .local:=by first | exact .inl rfl | exact .inr rfl | assumption):wpAny M A (storeName X.env x u) Q E s:=
 jF I hN hi hx r (fun s' I' _=>h s' I') hf
theorem Inv.call' {s':Ap} {ch:List Addr} (I:Inv X pins σ H s) (ho:s'.os=s.os) (u:Un (frs X.stack) ch H H' s.heap s'.heap) (hok:HOk X.prog X.w H' s'.heap) (hg:EO s'.gens)
  (hch:∀b∈ch,(b∈X.ex\/X.s₀.heap.objs.size<=b)/\b≠X.env.locals/\(∀x c,X.env.cells.lookup x=some c->c≠b)/\∀p∈X.pn++pins,p.1≠b):Inv X pins σ H' s':=by
 obtain⟨h',g',d',t',o'⟩:=s'
 have e:o'=s.os:=ho
 subst e
 exact I.call (g':=g') (t':=t') (d':=d') u hok hg hch
end
abbrev XK:=Am->Option Addr->Hp->Prop
abbrev St:=List (Option V)
abbrev VK:=V->Hp->Prop
abbrev TE:=St->Hp->VK->Prop
abbrev TT:=St->Hp->(Bool->Hp->Prop)->Prop
abbrev TA:=St->Hp->(List V->Hp->Prop)->Prop
structure Ends where
 nx:St->Hp->Prop
 rt:VK
 bk:St->Hp->Prop:=fun _ _=>False
 ct:St->Hp->Prop:=fun _ _=>False
abbrev TS:=Ends->St->Hp->Prop
def EP (X:Cx) (pins:List (Addr×Obj)) (σ:St) (Q:VK) (u:Am) (s':Ap):Prop:=∃v H',Inv X pins σ H' s'/\RelV v u/\Q v H'
def TP (X:Cx) (pins:List (Addr×Obj)) (σ:St) (Q:Bool->Hp->Prop) (b:Bool) (s':Ap):Prop:=∃H',Inv X pins σ H' s'/\Q b H'
def AP (X:Cx) (pins:List (Addr×Obj)) (σ:St) (Q:List V->Hp->Prop) (us:List Am) (s':Ap):Prop:=∃vs H',Inv X pins σ H' s'/\Vals vs us/\Q vs H'
def SP (X:Cx) (pins:List (Addr×Obj)) (D:Ends) (f:Flow) (s':Ap):Prop:=
 match f with
 | .next=>∃σ' H',Inv X pins σ' H' s'/\D.nx σ' H'
 | .brk=>∃σ' H',Inv X pins σ' H' s'/\D.bk σ' H'
 | .cont=>∃σ' H',Inv X pins σ' H' s'/\D.ct σ' H'
 | .ret u=>∃v σ' H',Inv X pins σ' H' s'/\RelV v u/\D.rt v H'
def PE (X:Cx) (e:Expr) (t:TE):Prop:=
 ∀(pins:List (Addr×Obj)) (s:Ap) (σ:St) (H:Hp) (Q:VK),Inv X pins σ H s->t σ H Q->wpAny (model X.prog X.w) X.A (eval e X.env) (EP X pins σ Q) X.xe s
def PT (X:Cx) (e:Expr) (t:TT):Prop:=
 ∀(pins:List (Addr×Obj)) (s:Ap) (σ:St) (H:Hp) (Q:Bool->Hp->Prop),Inv X pins σ H s->t σ H Q->wpAny (model X.prog X.w) X.A (isTrue e X.env (eval e X.env)) (TP X pins σ Q) X.xe s
def PW (X:Cx) (e:Expr) (t:TT):Prop:=
 ∀(whole:Sem Am) (pins:List (Addr×Obj)) (s:Ap) (σ:St) (H:Hp) (Q:Bool->Hp->Prop),Inv X pins σ H s->t σ H Q->wpAny (model X.prog X.w) X.A (isTrue e X.env whole) (TP X pins σ Q) X.xe s
theorem PW.pt {X:Cx} {e:Expr} {t:TT} (h:PW X e t):PT X e t:=h _
def PA (X:Cx) (es:List Expr) (t:TA):Prop:=
 ∀(pos:Pos) (pins:List (Addr×Obj)) (s:Ap) (σ:St) (H:Hp) (Q:List V->Hp->Prop),Inv X pins σ H s->t σ H Q->wpAny (model X.prog X.w) X.A (spliced (backTo pos (starEach es X.env))) (AP X pins σ Q) X.xe s
def PS (X:Cx) (st:Stmt) (t:TS):Prop:=
 ∀(pins:List (Addr×Obj)) (s:Ap) (σ:St) (H:Hp) (D:Ends),Inv X pins σ H s->t D σ H->wpAny (model X.prog X.w) X.A (exec st X.env) (SP X pins D) X.xe s
def PSs (X:Cx) (st:List Stmt) (t:TS):Prop:=
 ∀(pins:List (Addr×Obj)) (s:Ap) (σ:St) (H:Hp) (D:Ends),Inv X pins σ H s->t D σ H->wpAny (model X.prog X.w) X.A (execs st X.env) (SP X pins D) X.xe s
theorem bM {α:Type} {t:Sem α} {Q Q':α->Ap->Prop} {M:Fx} {A:Bo} {E:Am->Ap->Prop} {s:Ap} (h:wpAny M A t Q E s) (hQ:∀a s,Q a s->Q' a s):wpAny M A t Q' E s:=Bv h hQ fun _ _ x=>x
section
variable {X:Cx}
def bE (i:Nat):TE:=fun σ H Q=>∃v,σ[i]? =some (some v)/\Q v H
def tC (v:V):TE:=fun _ H Q=>Q v H
theorem wm {i:Nat} {x:Str} {pos:Pos} (hN:X.N[i]? =some x) (hv:Vis X.env.scope x) (hd:(x == ("__debug__" :Str))=false:=by decide) (hcd:(x == ("__classdict__" :Str))=false:=by decide):PE X (.Name x pos) (bE i):=by
 intro pins s σ H Q I h
 obtain⟨v,e,h⟩:=h
 obtain⟨m,hn,hl⟩:=I.loc
 obtain⟨u,r,l⟩:=hl i x v hN e hv
 have fin:EP X pins σ Q u s:=⟨v,H,I,r,h⟩
 rcases l with⟨hk,hm⟩ | ⟨hk,c,hc,hcell⟩
 ·exact Hq (wpAny_loadName_local I.ok.kind hk hn hm fin) hd
 ·rcases hk with hk | hk
  ·exact Hq (wpAny_loadName_cell I.ok.kind hk hc hcell fin) hd
  ·exact Hq (wpAny_loadName_free I.ok.kind hk hc hcell fin hcd) hd
theorem a8 {i j pos} :PE X (.Constant (.int i) j pos) (tC (.int i)):=fun _ _ _ H _ I h=>wpAny_Constant_int ⟨.int i,H,I.tok _,⟨_,rfl⟩,h⟩
theorem i6 {b j pos} :PE X (.Constant (.bool b) j pos) (tC (.bl b)):=fun _ _ _ H _ I h=>Constant_bool ⟨.bl b,H,I,rfl,h⟩
theorem wo {j pos} :PE X (.Constant .none j pos) (tC .non):=fun _ _ _ H _ I h=>Constant_none ⟨.non,H,I,rfl,h⟩
theorem aY {x j pos} :PE X (.Constant (.str x) j pos) (tC (.str x)):=fun _ _ _ H _ I h=>Calls.Constant_str ⟨.str x,H,I.tok _,⟨_,rfl⟩,h⟩
def Gl (X:Cx) (x:Str):Prop:=X.env.kindOf x=some .globalImplicit
theorem o6 {E:Am->Ap->Prop} {pins:List (Addr×Obj)} {s:Ap} {σ:St} {H:Hp} {x:Str} {u:Am} {pos:Pos} {Q:Am->Ap->Prop} (I:Inv X pins σ H s) (hg:Gl X x) (hm:X.mg x=some u) (h:Q u s)
  (hd:(x == ("__debug__" :Str))=false:=by decide):wpAny (model X.prog X.w) X.A (eval (.Name x pos) X.env) Q E s:=
 Ex I.ok.kind hg (Calls.loadGlobal_global (by rw[I.ok.glob];exact I.mod.glob.keeps I.bk) hm h) hd
theorem fZ {E:Am->Ap->Prop} {pins:List (Addr×Obj)} {s:Ap} {σ:St} {H:Hp} {x:Str} {u:Am} {pos:Pos} {Q:Am->Ap->Prop} (I:Inv X pins σ H s) (hg:Gl X x) (hm:X.mg x=none) (hv:bootBuiltins x=some u) (h:Q u s)
  (hn:x≠"__name__" :=by decide) (hd:(x == ("__debug__" :Str))=false:=by decide):wpAny (model X.prog X.w) X.A (eval (.Name x pos) X.env) Q E s:=by
 obtain⟨mb,h1,h2⟩:=I.mod.blt
 exact Ex I.ok.kind hg (Calls.loadGlobal_builtin (by rw[I.ok.glob];exact I.mod.glob.keeps I.bk) hm (by rw[I.ok.blt];exact h1.keeps I.bk) ((h2 x hn).trans hv) h) hd
theorem de {x:Str} {v:V} {u:Am} {pos:Pos} (hg:Gl X x) (hm:X.mg x=some u) (r:RelV v u) (hd:(x == ("__debug__" :Str))=false:=by decide):PE X (.Name x pos) (tC v):=
 fun _ _ _ H _ I h=>o6 I hg hm ⟨v,H,I,r,h⟩ hd
theorem cF {x:Str} {v:V} {u:Am} {pos:Pos} (hg:Gl X x) (hm:X.mg x=none) (hv:bootBuiltins x=some u) (r:RelV v u) (hn:x≠"__name__" :=by decide) (hd:(x == ("__debug__" :Str))=false:=by decide):PE X (.Name x pos) (tC v):=
 fun _ _ _ H _ I h=>fZ I hg hm hv ⟨v,H,I,r,h⟩ hn hd
variable {a b:Expr} {ta tb:TE} {pos:Pos}
def tB (t:TE):TT:=fun σ H Q=>t σ H fun x H1=>∃c,x=.bl c/\Q c H1
theorem d6 {e:Expr} {t:TE} (h:PE X e t) (he:∀whole,isTrue e X.env whole=(do let v <-whole;standAt e.pos;holding [v] (truthy v)):=by intro _;rfl):PT X e (tB t):=by
 intro pins s σ H Q I hw
 refine isTrue_plain (bM (h pins s σ H _ I hw) fun v s1 ⟨x,H1,I1,r1,q1⟩=>?_) (he _)
 obtain⟨d,rfl,q⟩:=q1
 cases r1
 exact CM ⟨H1,I1,q⟩
variable {tA tB':TT} {rest:List Expr}
def cn (t u:TT):TT:=fun σ H Q=>t σ H fun c H1=>if c=true then u σ H1 Q else Q false H1
def fb (t u:TT):TT:=fun σ H Q=>t σ H fun c H1=>if c=true then Q true H1 else u σ H1 Q
def cq (t:TT):TT:=fun σ H Q=>t σ H fun c H1=>Q (!c) H1
theorem eL (ha:PT X a tA):PW X (.BoolOp .And [a] pos) tA:=by
 intro wh pins s σ H Q I h
 refine isTrue_and (bM (ha pins s σ H Q I h) fun c s1 e=>?_)
 cases c with
 | true=>exact isTrue_and_nil e
 | false=>exact e
theorem qZ (ha:PT X a tA):PW X (.BoolOp .Or [a] pos) tA:=by
 intro wh pins s σ H Q I h
 refine isTrue_or (bM (ha pins s σ H Q I h) fun c s1 e=>?_)
 cases c with
 | false=>exact isTrue_or_nil e
 | true=>exact e
theorem g9 (ha:PT X a tA) (hb:PW X (.BoolOp .And (b::rest) pos) tB'):PW X (.BoolOp .And (a::b::rest) pos) (cn tA tB'):=by
 intro wh pins s σ H Q I h
 refine isTrue_and (bM (ha pins s σ H _ I h) fun c s1 ⟨H1,I1,q1⟩=>?_)
 cases c with
 | true=>exact hb wh pins s1 σ H1 Q I1 q1
 | false=>exact⟨H1,I1,q1⟩
theorem r0 (ha:PT X a tA) (hb:PW X (.BoolOp .Or (b::rest) pos) tB'):PW X (.BoolOp .Or (a::b::rest) pos) (fb tA tB'):=by
 intro wh pins s σ H Q I h
 refine isTrue_or (bM (ha pins s σ H _ I h) fun c s1 ⟨H1,I1,q1⟩=>?_)
 cases c with
 | true=>exact⟨H1,I1,q1⟩
 | false=>exact hb wh pins s1 σ H1 Q I1 q1
theorem kf (ha:PT X a tA):PT X (.UnaryOp .Not a pos) (cq tA):=by
 intro pins s σ H Q I h
 exact isTrue_not (ha pins s σ H (fun c H1=>Q (!c) H1) I h)
def bq (ta tb:TE):TE:=fun σ H Q=>ta σ H fun x H1=>∃c,x=.bl c/\if c=true then tb σ H1 Q else Q (.bl false) H1
def cu (ta tb:TE):TE:=fun σ H Q=>ta σ H fun x H1=>∃c,x=.bl c/\if c=true then Q (.bl true) H1 else tb σ H1 Q
def bw (ta:TE):TE:=fun σ H Q=>ta σ H fun x H1=>∃c,x=.bl c/\Q (.bl (!c)) H1
theorem iH {op} {t:TE} (h:PE X a t):PE X (.BoolOp op [a] pos) t:=fun pins s σ H Q I hw=>BoolOp_one (h pins s σ H Q I hw)
theorem iI (ha:PE X a ta) (hb:PE X (.BoolOp .And (b::rest) pos) tb):PE X (.BoolOp .And (a::b::rest) pos) (bq ta tb):=by
 intro pins s σ H Q I h
 refine BoolOp_and (bM (ha pins s σ H _ I h) fun v s1 ⟨x,H1,I1,r1,q1⟩=>?_)
 obtain⟨c,rfl,q1⟩:=q1
 cases r1
 refine CM ?_
 cases c with
 | true=>exact hb pins s1 σ H1 Q I1 q1
 | false=>exact⟨.bl false,H1,I1,rfl,q1⟩
theorem xI (ha:PE X a ta) (hb:PE X (.BoolOp .Or (b::rest) pos) tb):PE X (.BoolOp .Or (a::b::rest) pos) (cu ta tb):=by
 intro pins s σ H Q I h
 refine BoolOp_or (bM (ha pins s σ H _ I h) fun v s1 ⟨x,H1,I1,r1,q1⟩=>?_)
 obtain⟨c,rfl,q1⟩:=q1
 cases r1
 refine CM ?_
 cases c with
 | false=>exact hb pins s1 σ H1 Q I1 q1
 | true=>exact⟨.bl true,H1,I1,rfl,q1⟩
theorem wq (ha:PE X a ta):PE X (.UnaryOp .Not a pos) (bw ta):=by
 intro pins s σ H Q I h
 refine UnaryOp_ (bM (ha pins s σ H _ I h) fun v s1 ⟨x,H1,I1,r1,q1⟩=>?_)
 obtain⟨c,rfl,q1⟩:=q1
 cases r1
 exact not_of (CM ⟨.bl (!c),H1,I1,rfl,q1⟩)
def fc (t:TT) (ta tb:TE):TE:=fun σ H Q=>t σ H fun c H1=>if c=true then ta σ H1 Q else tb σ H1 Q
theorem fh {c:Expr} (hc:PT X c tA) (ha:PE X a ta) (hb:PE X b tb):PE X (.IfExp c a b pos) (fc tA ta tb):=by
 intro pins s σ H Q I h
 refine wpAny_IfExp (bM (hc pins s σ H _ I h) fun d s1 ⟨H1,I1,q1⟩=>?_)
 cases d with
 | true=>exact ha pins s1 σ H1 Q I1 q1
 | false=>exact hb pins s1 σ H1 Q I1 q1
end
def SqL (K:PySem.W.Frag) (H:Hp) (a:Addr) (xs:List V):Prop:=
 Rd H a (.lst xs)\/
  ∃(o:Obj) (its:Array Am) (n:Nat),K.lookup a=some o/\o.cls=.type "list" /\o.dict=none/\o.data=.seq its n/\its.size<=sizeLine/\Vals xs its.toList
def SqT (K:PySem.W.Frag) (H:Hp) (a:Addr) (xs:List V):Prop:=
 Rd H a (.tup xs)\/
  ∃(o:Obj) (its:Array Am) (n:Nat),K.lookup a=some o/\(o.cls=.type "tuple" /\o.dict=none)/\o.data=.seq its n/\its.size<=sizeLine/\Vals xs its.toList
def zq:Am->Option V
 | .none=>some .non
 | .bool b=>some (.bl b)
 | .int i _=>some (.int i)
 | .str x _=>some (.str x)
 | .bytes b _=>some (.byt b)
 | .float b _=>some (.flt b)
 | .ref a=>some (.ref a)
 | .type n=>some (.ty n)
 | _=>none
theorem RelV.abs {x:V} {u:Am} (r:RelV x u):zq u=some x:=by
 cases x with
 | non=>cases r;rfl
 | bl _=>cases r;rfl
 | int _=>obtain⟨t,rfl⟩:=r;rfl
 | str _=>obtain⟨t,rfl⟩:=r;rfl
 | byt _=>obtain⟨t,rfl⟩:=r;rfl
 | flt _=>obtain⟨t,rfl⟩:=r;rfl
 | ref _=>cases r;rfl
 | ty _=>cases r;rfl
theorem RelV.inj {x y:V} {u:Am} (r:RelV x u) (q:RelV y u):x=y:=Bl (r.abs.symm.trans q.abs)
theorem Vals.inj:∀{xs ys:List V} {us:List Am},Vals xs us->Vals ys us->xs=ys
 | _,_,_,.nil,.nil=>rfl
 | _,_,_,.cons r t,.cons r' t'=>by rw[r.inj r',Vals.inj t t']
section
variable {X:Cx} {pins:List (Addr×Obj)} {σ:St} {H:Hp} {s:Ap} {a:Addr} {xs ys:List V}
theorem SqL.of {K:PySem.W.Frag} (h:H a=some (.lst xs)):SqL K H a xs:=.inl (.inl h)
theorem SqT.of {K:PySem.W.Frag} (h:H a=some (.tup xs)):SqT K H a xs:=.inl (.inl h)
theorem Inv.list (I:Inv X pins σ H s) (h:SqL X.K H a xs):∃its:List Am,Vals xs its/\PlainL s.heap a its.toArray/\xs.length<=sizeLine:=by
 rcases h with h | ⟨o,its,n,hk,hc,hd,hs,hz,r⟩
 ·obtain⟨z,its,n,r,e⟩:=h.ok I.hok
  exact⟨its,r,⟨_,n,e,rfl,rfl,rfl⟩,z⟩
 ·refine⟨its.toList,r,⟨o,n,I.kIn a o hk,hc,hd,by simpa using hs⟩,?_⟩
  have e:=r.length
  simp only[Ba]at e
  omega
theorem Inv.tuple (I:Inv X pins σ H s) (h:SqT X.K H a xs):∃its:List Am,Vals xs its/\IsTup s.heap a its.toArray/\xs.length<=sizeLine:=by
 rcases h with h | ⟨o,its,n,hk,hc,hs,hz,r⟩
 ·obtain⟨z,its,r,p⟩:=h.ok I.hok
  exact⟨its,r,p.tup,z⟩
 ·refine⟨its.toList,r,⟨o,I.kIn a o hk,hc.1,n,by simpa using hs⟩,?_⟩
  have e:=r.length
  simp only[Ba]at e
  omega
theorem Inv.list_inj (I:Inv X pins σ H s) (h:SqL X.K H a xs) (h':SqL X.K H a ys):xs=ys:=by
 obtain⟨its,r,⟨o,n,e,_,_,d⟩,_⟩:=I.list h
 obtain⟨its',r',⟨o',n',e',_,_,d'⟩,_⟩:=I.list h'
 rw[e]at e';cases e'
 rw[d]at d'
 injection d' with d1 _
 have:its=its':=by simpa using congrArg HV d1
 subst this
 exact r.inj r'
theorem Inv.tuple_inj (I:Inv X pins σ H s) (h:SqT X.K H a xs) (h':SqT X.K H a ys):xs=ys:=by
 obtain⟨its,r,⟨o,e,_,n,d⟩,_⟩:=I.tuple h
 obtain⟨its',r',⟨o',e',_,n',d'⟩,_⟩:=I.tuple h'
 rw[e]at e';cases e'
 rw[d]at d'
 injection d' with d1 _
 have:its=its':=by simpa using congrArg HV d1
 subst this
 exact r.inj r'
end
abbrev Cx.wish (X:Cx) (E:Am->Ap->Prop):Cx:={X with xe:=E}
abbrev Cx.nox (X:Cx):Cx:=X.wish fun _ _=>False
theorem Cx.Ok.wish {X:Cx} (ok:X.Ok) (E:Am->Ap->Prop):(X.wish E).Ok:=
 ⟨ok.mod,ok.kind,ok.glob,ok.blt,ok.above,ok.inj,ok.has,ok.cab,ok.hd,ok.frames,ok.stk,ok.exf,ok.bs,ok.bsz,ok.noex,ok.exfs,ok.funs,ok.frf⟩
theorem Cx.Ok.unwish {X:Cx} {E:Am->Ap->Prop} (ok:(X.wish E).Ok):X.Ok:=
 ⟨ok.mod,ok.kind,ok.glob,ok.blt,ok.above,ok.inj,ok.has,ok.cab,ok.hd,ok.frames,ok.stk,ok.exf,ok.bs,ok.bsz,ok.noex,ok.exfs,ok.funs,ok.frf⟩
section
variable {X:Cx} {pins:List (Addr×Obj)} {σ:St} {H:Hp} {s:Ap} {E:Am->Ap->Prop}
theorem Inv.wish (I:Inv X pins σ H s) (E:Am->Ap->Prop):Inv (X.wish E) pins σ H s:=⟨I.ok.wish E,I.os,I.bare,I.base,I.loc,I.cell,I.free,I.freeC,I.pin,I.hok,I.len⟩
theorem Inv.unwish (I:Inv (X.wish E) pins σ H s):Inv X pins σ H s:=⟨I.ok.unwish,I.os,I.bare,I.base,I.loc,I.cell,I.free,I.freeC,I.pin,I.hok,I.len⟩
theorem SP.unwish {D:Ends} {f:Flow} {s':Ap} (h:SP (X.wish E) pins D f s'):SP X pins D f s':=by
 cases f with
 | next=>obtain⟨σ',H',I,q⟩:=h;exact⟨σ',H',I.unwish,q⟩
 | brk=>obtain⟨σ',H',I,q⟩:=h;exact⟨σ',H',I.unwish,q⟩
 | cont=>obtain⟨σ',H',I,q⟩:=h;exact⟨σ',H',I.unwish,q⟩
 | ret u=>obtain⟨v,σ',H',I,r,q⟩:=h;exact⟨v,σ',H',I.unwish,r,q⟩
theorem PSs.nox {st:List Stmt} {t:TS} (h:PSs X.nox st t):PSs X st t:=fun pins s σ H D I hw=>
 Bv (h pins s σ H D (I.wish _) hw) (fun _ _ q=>q.unwish) fun _ _ z=>Dd z
end
section
variable {X:Cx} {st:Stmt} {rest:List Stmt} {t u:TS} {e:Expr} {te:TE} {pos:Pos}
def aE:TS:=fun D σ H=>D.nx σ H
def fj (t u:TS):TS:=fun D σ H=>t {D with nx:=u D} σ H
theorem aO:PSs X [] aE:=fun _ _ σ H _ I h=>Fy ⟨σ,H,I,h⟩
theorem ae (h1:PS X st t) (h2:PSs X rest u):PSs X (st::rest) (fj t u):=by
 intro pins s σ H D I h
 refine GN (bM (h1 pins s σ H {D with nx:=u D} I h) fun f s1 q=>?_)
 cases f with
 | next =>
  obtain⟨σ',H',I',q⟩:=q
  exact h2 pins s1 σ' H' D I' q
 | ret v=>exact q
 | brk=>exact q
 | cont=>exact q
theorem af (h1:PS X st t):PSs X [st] t:=by
 intro pins s σ H D I h
 refine GN (bM (h1 pins s σ H D I h) fun f s1 q=>?_)
 cases f with
 | next=>exact Fy q
 | ret v=>exact q
 | brk=>exact q
 | cont=>exact q
theorem Inv.quiet {pins:List (Addr×Obj)} {σ:St} {H:Hp} {s:Ap} (I:Inv X pins σ H s):interactive X.env=false:=by simp[interactive,I.ok.kind]
def bj (te:TE):TS:=fun D σ H=>te σ H fun _ H1=>D.nx σ H1
theorem dN (he:PE X e te) (hs:swapsWith e none pos.line X.env=pure false:=by rfl):PS X (.Expr e pos) (bj te):=by
 intro pins s σ H D I h
 exact wpAny_Expr_any (bM (he pins s σ H _ I h) fun v s1 ⟨x,H1,I1,r1,q1⟩=>⟨σ,H1,I1,q1⟩) I.quiet hs
def bX (te:TE):TS:=fun D σ H=>te σ H D.rt
theorem az (he:PE X e te):PS X (.Return (some e) pos) (bX te):=by
 intro pins s σ H D I h
 exact wpAny_Return_some (bM (he pins s σ H _ I h) fun v s1 ⟨x,H1,I1,r1,q1⟩=>⟨x,σ,H1,I1,r1,q1⟩)
def iJ (c:TT) (t u:TS):TS:=fun D σ H=>c σ H fun b H1=>if b=true then t D σ H1 else u D σ H1
theorem bF {c:Expr} {a b:List Stmt} {tc:TT} (hc:PT X c tc) (ha:PSs X a t) (hb:PSs X b u):PS X (.If c a b pos) (iJ tc t u):=by
 intro pins s σ H D I h
 refine wpAny_If (bM (hc pins s σ H _ I h) fun d s1 ⟨H1,I1,q1⟩=>?_)
 cases d with
 | true=>exact ha pins s1 σ H1 D I1 q1
 | false=>exact hb pins s1 σ H1 D I1 q1
end
abbrev TG:=V->St->Hp->(St->Hp->Prop)->Prop
abbrev vS:=List V->St->Hp->(St->Hp->Prop)->Prop
def PG (X:Cx) (target:Expr) (t:TG):Prop:=
 ∀ (pins : List (Addr × Obj)) (s : Ap) (σ : St) (H : Hp) (v : V) (u : Am) (Q : St -> Hp -> Prop), Inv X pins σ H s -> RelV v u -> t v σ H Q ->
  wpAny (model X.prog X.w) X.A (assign target X.env u) (fun _ s'=>∃σ' H',Inv X pins σ' H' s'/\Q σ' H') X.xe s
def xJ (X:Cx) (ts:List Expr) (t:vS):Prop:=
 ∀ (pins : List (Addr × Obj)) (s : Ap) (σ : St) (H : Hp) (vs : List V) (us : List Am) (Q : St -> Hp -> Prop), Inv X pins σ H s -> Vals vs us -> t vs σ H Q ->
  wpAny (model X.prog X.w) X.A (assignInOrder ((assignEach ts X.env).map (·.2)) us) (fun _ s'=>∃σ' H',Inv X pins σ' H' s'/\Q σ' H') X.xe s
abbrev wt:=V->V->V->Hp->(Hp->Prop)->Prop
def xK (X:Cx) (t:wt):Prop:=
 ∀ (pins : List (Addr × Obj)) (s : Ap) (σ : St) (H : Hp) (o i v : V) (ov iv u : Am) (Q : Hp -> Prop), Inv X pins σ H s -> RelV o ov -> RelV i iv -> RelV v u -> t o i v H Q ->
  wpAny (model X.prog X.w) X.A (setItem ov iv u) (fun _ s'=>∃H',Inv X pins σ H' s'/\Q H') X.xe s
section
variable {X:Cx} {pos:Pos}
def aP (i:Nat):TG:=fun v σ H Q=>Q (σ.set i (some v)) H
theorem ao {i:Nat} {x:Str} (hN:X.N.Nodup) (hi:X.N[i]? =some x) (hx:xH X.env.scope x) (hf:X.fn x=true\/X.env.scope.names.lookup x=some .local:=by first | exact .inl rfl | exact .inr rfl | assumption):PG X (.Name x pos) (aP i):=by
 intro pins s σ H v u Q I r h
 exact Gw (lx I hN hi hx r (fun s' I'=>⟨_,H,I',h⟩) hf)
def bY:vS:=fun vs σ H Q=>vs=[]/\Q σ H
def b6 (t:TG) (u:vS):vS:=fun vs σ H Q=>∃v r,vs=v::r/\t v σ H fun σ' H'=>u r σ' H' Q
theorem cz:xJ X [] bY:=by
 intro pins s σ H vs us Q I r h
 obtain⟨e,h⟩:=h
 subst e
 cases r
 exact assignInOrder_nil ⟨σ,H,I,h⟩
theorem ax {e:Expr} {es:List Expr} {t:TG} {u:vS} (h1:PG X e t) (h2:xJ X es u)
  (hs:(assignEach (e::es) X.env).map (·.2)=assign e X.env::(assignEach es X.env).map (·.2):=by rfl):xJ X (e::es) (b6 t u):=by
 intro pins s σ H vs us Q I r h
 obtain⟨v,vr,e1,h⟩:=h
 subst e1
 cases r with
 | cons r rr =>
  rw[hs]
  refine assignInOrder_cons (bM (h1 pins s σ H _ _ _ I r h) fun _ s1 ⟨σ1,H1,I1,q1⟩=>?_)
  exact h2 pins s1 σ1 H1 _ _ Q I1 rr q1
def bU (K:PySem.W.Frag) (n:Nat) (t:vS):TG:=fun v σ H Q=>∃a xs,v=.ref a/\SqT K H a xs/\xs.length=n/\t xs σ H Q
theorem wu {es:List Expr} {k:Nat} {t:vS} {n:Nat} (hc:X.calm=true) (h:xJ X es t)
  (hn:(assignEach es X.env).length=n:=by rfl) (hst:(assignEach es X.env).findIdx? (·.1)=none:=by rfl):PG X (.Tuple es k pos) (bU X.K n t):=by
 intro pins s σ H v u Q I r hw
 obtain⟨a,xs,e1,hq,hl,hw⟩:=hw
 subst e1
 cases r
 obtain⟨its,rv,ht,hz⟩:=I.tuple hq
 refine assign_Tuple_tuple (I.ok.hd hc) ht (by simp[hn,<-hl,rv.length]) hst fun h' hx=>?_
 have I1:Inv X pins σ H {s with heap:=h'} :=I.kept (t':=s.toks) fun b o e=>hx b o (AY (AE e)) e
 exact h pins _ σ H xs _ Q I1 (by simpa using rv) hw
def wx (to ti:TE) (t:wt):TG:=fun v σ H Q=>to σ H fun o H1=>ti σ H1 fun i H2=>t o i v H2 fun H3=>Q σ H3
theorem kg {o i:Expr} {to ti:TE} {t:wt} (ho:PE X o to) (hi:PE X i ti) (hs:xK X t)
  (ha:∀v,assign (.Subscript o i pos) X.env v=(do
   let ov <-holding [v] (eval o X.env)
   let iv <-holding [v,ov] (eval i X.env)
   standAt pos
   holding [v,ov,iv] (setItem ov iv v)
   release [v,ov,iv] []):=by intro _;rfl):PG X (.Subscript o i pos) (wx to ti t):=by
 intro pins s σ H v u Q I r h
 rw[ha]
 refine Aj (C0 (bM (ho pins s σ H _ I h) fun ov s1 ⟨x,H1,I1,r1,q1⟩=>?_))
 refine Aj (C0 (bM (hi pins s1 σ H1 _ I1 q1) fun iv s2 ⟨y,H2,I2,r2,q2⟩=>?_))
 refine Aj (CB (Aj (C0 (bM (hs pins s2 σ H2 x y v ov iv u _ I2 r1 r2 r q2) fun _ s3 ⟨H3,I3,q3⟩=>?_))))
 exact wpAny_release ⟨σ,H3,I3,q3⟩
def bJ (te:TE) (g:TG):TS:=fun D σ H=>te σ H fun x H1=>g x σ H1 D.nx
theorem dY {tg e:Expr} {te:TE} {g:TG} (he:PE X e te) (hg:PG X tg g) (hs:swapsWithSole [tg] e pos.line X.env=pure false:=by rfl) (hw:swappedStores [tg] e X.env=pure none:=by rfl)
  (h1:(assignEach [tg] X.env).map (·.2)=[assign tg X.env]:=by rfl):PS X (.Assign [tg] e pos) (bJ te g):=by
 intro pins s σ H D I h
 refine wpAny_Assign_stores (bM (he pins s σ H _ I h) fun v s1 ⟨x,H1,I1,r1,q1⟩=>?_) hs hw
 rw[h1]
 exact bM (hg pins s1 σ H1 x v _ I1 r1 q1) fun _ s2 q=>q
theorem ak {i:Nat} {x:Str} {e:Expr} {te:TE} {pos':Pos} (hN:X.N.Nodup) (hi:X.N[i]? =some x) (hx:xH X.env.scope x) (he:PE X e te) (hs:swapsWith e (some (.Name x pos')) pos.line X.env=pure false:=by rfl) (hf:X.fn x=true\/X.env.scope.names.lookup x=some .local:=by first | exact .inl rfl | exact .inr rfl | assumption):
  PS X (.Assign [.Name x pos'] e pos) (bJ te (aP i)):=by
 intro pins s σ H D I h
 refine wpAny_Assign_Name (bM (he pins s σ H _ I h) fun v s1 ⟨y,H1,I1,r1,q1⟩=>?_) hs
 exact lx I1 hN hi hx r1 (fun s2 I2=>⟨_,H1,I2,q1⟩) hf
end
structure It where
 go:Nat->Hp->Prop
 yld:Nat->Hp->V->Hp->Prop
 stop:Nat->Hp->Prop
def FpOk (X:Cx) (pins:List (Addr×Obj)) (H:Hp) (b:Addr):Prop:=
 H b=none/\b≠X.env.locals/\b∉X.fs/\(b∈X.ex\/X.s₀.heap.objs.size<=b)/\(∀x c,X.env.cells.lookup x=some c->c≠b)/\∀p∈X.pn++pins,p.1≠b
theorem Inv.fpOk {X:Cx} {pins:List (Addr×Obj)} {σ:St} {H H':Hp} {s:Ap} {b:Addr} (I:Inv X pins σ H s) (hb:s.heap.objs.size<=b) (hn:H' b=none):FpOk X pins H' b:=by
 refine⟨hn,DO (AF I.lt hb),I.nofs hb,.inr (C6 I.sz hb),fun x c e z=>?_,fun p hp z=>?_⟩
 ·obtain⟨v,q⟩:=I.cell x c e
  exact absurd (AF q.lt (by rw[z];exact hb)) (BZ _)
 ·exact absurd (AF (AE (I.pin p hp).1) (by rw[z];exact hb)) (BZ _)
structure Turn (P:AI) (w:AQ) (K:PySem.W.Frag) (tg:Expr) (J:It) (fp:List Addr) (it:Addr) (tn:Nat->Heap->Prop):Prop where
 mem:it∈fp
 obj:∀i h,tn i h->∀b∈fp,∃o,h.get? b=some o/\∀v,o.data≠.cell v
 keep:∀i h h',tn i h->(∀b∈fp,∀o,h.get? b=some o->h'.get? b=some o)->tn i h'
 item:∀(X:Cx),X.prog=P->X.w=w->X.K=K->X.calm=true->∀(i:Nat) (pins:List (Addr×Obj)) (s:Ap) (σ:St) (H:Hp) (E:Am->Ap->Prop),Inv X pins σ H s->(∀b∈fp,FpOk X pins H b)->tn i s.heap->J.go i H->
  wpAny (model P w) X.A (pyNext (.ref it)) (fun r s1=>∃u,r=some u/\
   wpAny (model P w) X.A (letOwnedTupleGo tg (.ref it) u) (fun _ s2=>∃x H',Inv X pins σ H' s2/\RelV x u/\J.yld i H x H'/\tn (i+1) s2.heap/\∀b∈fp,H' b=none) E s1) E s
 done:∀(X:Cx),X.prog=P->X.w=w->X.K=K->X.calm=true->∀(i:Nat) (pins:List (Addr×Obj)) (s:Ap) (σ:St) (H:Hp) (E:Am->Ap->Prop),Inv X pins σ H s->(∀b∈fp,FpOk X pins H b)->tn i s.heap->J.stop i H->
  wpAny (model P w) X.A (pyNext (.ref it)) (fun r s1=>r=none/\Inv X pins σ H s1) E s
 self:∀(A:Bo) (i:Nat) (s:Ap) (Q:Am->Ap->Prop) (E:Am->Ap->Prop),tn i s.heap->Q (.ref it) s->wpAny (model P w) A (pyIter (.ref it)) Q E s
abbrev TI:=St->Hp->(It->Hp->Prop)->Prop
def zr (X:Cx) (pins:List (Addr×Obj)) (σ:St) (tg:Expr) (R:It->Hp->Prop) (itv:Am) (s2:Ap):Prop:=
 ∃(it:Addr) (fp:List Addr) (tn:Nat->Heap->Prop) (J:It) (H':Hp),itv=.ref it/\Inv X pins σ H' s2/\Turn X.prog X.w X.K tg J fp it tn/\tn 0 s2.heap/\(∀b∈fp,FpOk X pins H' b)/\R J H'
def PI (X:Cx) (tg iter:Expr) (wi:TI):Prop:=
 ∀ (pins : List (Addr × Obj)) (s : Ap) (σ : St) (H : Hp) (R : It -> Hp -> Prop), Inv X pins σ H s -> wi σ H R ->
  wpAny (model X.prog X.w) X.A (eval iter X.env) (fun v s1=>wpAny (model X.prog X.w) X.A (pyIter v) (zr X pins σ tg R) X.xe s1) X.xe s
theorem ly {M:Fx} {A:Bo} {E:Am->Ap->Prop} {s:Ap} {tg:Expr} {it:Addr} {u:Am} {o:Obj} {n:String} {vs:Array Am} {Q:Unit->Ap->Prop} (ho:s.heap.get? it=some o) (hc:o.cls=.type n) (hd:o.data=.fields vs)
    (hn: ["enumerate","zip","dict_itemiterator","dict_reverseitemiterator","odict_iterator","itertools.zip_longest","itertools.pairwise"].contains n=false) (hQ:Q () s):wpAny M A (letOwnedTupleGo tg (.ref it) u) Q E s:=by
  unfold letOwnedTupleGo
  cases tg <;> first
    | exact An hQ
    | (cases u <;> first
        | exact An hQ
        | (refine Aj (wpAny_load ho ?_)
           rw[hc,hd]
           show wpAny M A (if(["enumerate","zip","dict_itemiterator","dict_reverseitemiterator","odict_iterator","itertools.zip_longest","itertools.pairwise"].contains n && vs[0]? == some (rawInt _))=true then _ else _) Q E s
           rw[if_neg (by intro h;rw[hn,FT]at h;cases h)]
           exact An hQ))
def zC (K:PySem.W.Frag) (a:Addr):It:=
 ⟨fun i H=>∃xs x,SqL K H a xs/\xs[i]? =some x,fun i H x H'=>H'=H/\∀xs,SqL K H a xs->xs[i]? =some x,fun i H=>∃xs,SqL K H a xs/\xs.length<=i⟩
def zt (lo:Int) (n:Nat):It:=⟨fun i _=>i< n,fun i H x H'=>H'=H/\x=.int (lo+i),fun i _=>n<=i⟩
theorem pI {P:AI} {w:AQ} {K:PySem.W.Frag} {tg:Expr} (a it:Addr):Turn P w K tg (zC K a) [it] it (fun i h=>h.IsListIter it a i) where
 mem:=by simp
 obj:=fun i h st b hb=>by
  have e:b=it:=by simpa using hb
  subst e
  obtain⟨o,e,c,d⟩:=st
  exact⟨o,e,fun v z=>by rw[d]at z;cases z⟩
 keep:=fun i h h' st k=>st.at fun o e=>k it (by simp) o e
 item:=by
  intro X hP hw hK hc i pins s σ H E I hf st hg
  subst hP hw hK
  obtain⟨xs,x,hq,hx⟩:=hg
  obtain⟨its,rv,p,hz⟩:=I.list hq
  obtain⟨u,hu,ru⟩:=rv.get hx
  obtain⟨f0,f1,f2,f3,f4,f5⟩:=hf it (by simp)
  refine wpAny_pyNext_list_item st p.isList (x:=u) (by simpa using hu) fun h' st' sb=>?_
  have I1:Inv X pins σ H {s with heap:=h'} :=I.turned (t':=s.toks) (fun b o hb e=>(sb.2 b hb).trans e) f0 f1 f3 f4 f5
  obtain⟨o,e,c,d⟩:=id st'
  exact⟨u,rfl,ly (s:={s with heap:=h'}) e c d (by decide) ⟨x,H,I1,ru,⟨rfl,fun ys hy=>by rw[I.list_inj hy hq];exact hx⟩,st',fun b hb=>(hf b hb).1⟩⟩
 done:=by
  intro X hP hw hK hc i pins s σ H E I hf st hg
  subst hP hw hK
  obtain⟨xs,hq,hx⟩:=hg
  obtain⟨its,rv,p,hz⟩:=I.list hq
  obtain⟨f0,f1,f2,f3,f4,f5⟩:=hf it (by simp)
  have hl:=rv.length
  exact wpAny_pyNext_list_end (I.ok.hd hc) st p.isList (by simp;omega) fun h' eb=>⟨rfl,I.turned (t':=s.toks) (fun b o hb e=>eb b o hb e) f0 f1 f3 f4 f5⟩
 self:=fun _ _ _ _ _ st h=>wpAny_pyIter_listiter st h
theorem ng {P:AI} {w:AQ} {K:PySem.W.Frag} {tg:Expr} (it:Addr) (lo:Int) (n:Nat):Turn P w K tg (zt lo n) [it] it (fun i h=>FU h it (lo+(i:Nat)*1) ((n:Int)- (i:Nat)) 1) where
 mem:=by simp
 obj:=fun i h st b hb=>by
  have e:b=it:=by simpa using hb
  subst e
  exact⟨_,st,fun v z=>by
   have z':FV _=Ew v:=z
   cases z'⟩
 keep:=fun i h h' st k=>k it (by simp) _ st
 item:=by
  intro X hP hw hK hc i pins s σ H E I hf st hg
  subst hP hw hK
  obtain⟨f0,f1,f2,f3,f4,f5⟩:=hf it (by simp)
  have W:=Walks.range (prog:=X.prog) (w:=X.w) (I.ok.hd hc) it lo 1 n
  refine W.item i s _ _ hg st fun v h' tk hv st' kk=>?_
  obtain⟨t,rfl⟩:=hv
  have I1:Inv X pins σ H {s with heap:=h',toks:=tk} :=I.turned (fun b o hb e=>kk b o (by simpa using hb) e) f0 f1 f3 f4 f5
  refine⟨_,rfl,ly (s:={s with heap:=h',toks:=tk}) (n:="range_iterator") st' rfl rfl (by decide) ⟨.int (lo+i),H,I1,⟨t,?_⟩,⟨rfl,rfl⟩,st',fun b hb=>(hf b hb).1⟩⟩
  rw[Int.mul_one]
 done:=by
  intro X hP hw hK hc i pins s σ H E I hf st hg
  subst hP hw hK
  obtain⟨f0,f1,f2,f3,f4,f5⟩:=hf it (by simp)
  exact Fn (I.ok.hd hc) st (by have:n<=i:=hg;omega) fun h' eb=>⟨rfl,I.turned (t':=s.toks) (fun b o hb e=>eb b o hb e) f0 f1 f3 f4 f5⟩
 self:=fun _ _ _ _ _ st h=>DP st h
section
variable {X:Cx} {tg:Expr}
def r6 (K:PySem.W.Frag) (tl:TE):TI:=fun σ H R=>tl σ H fun x H1=>∃a,x=.ref a/\(∃xs,SqL K H1 a xs)/\R (zC K a) H1
theorem uk {l:Expr} {tl:TE} (hl:PE X l tl):PI X tg l (r6 X.K tl):=by
 intro pins s σ H R I h
 refine bM (hl pins s σ H _ I h) fun v s1 ⟨x,H1,I1,r1,q1⟩=>?_
 obtain⟨a,e,⟨xs,hq⟩,q⟩:=q1
 subst e
 cases r1
 obtain⟨its,rv,p,hz⟩:=I1.list hq
 refine ER p.isList ?_
 refine⟨s1.heap.objs.size,[s1.heap.objs.size],_,_,H1,rfl,I1.kept (t':=s1.toks) fun b o e=>Aq _ e,pI a _,⟨_,Ax _ rfl,rfl,rfl⟩,fun b hb=>?_,q⟩
 have e:b=s1.heap.objs.size:=by simpa using hb
 subst e
 exact I1.fpOk (Au _) (I1.hok.fresh (Au _))
theorem r9 {pins:List (Addr×Obj)} {σ:St} {H:Hp} {s:Ap} {R:It->Hp->Prop} {E:Am->Ap->Prop} {lo hi:Int} {t u v:Tok} {tk:Nat} (I:Inv X pins σ H s) (h1: -(2^62)<=lo) (h2:lo< 2^62) (h3: -(2^62)<=hi) (h4:hi< 2^62)
  (q:R (zt lo (hi- lo).toNat) H):wpAny (model X.prog X.w) X.A (pyIter (.ref s.heap.objs.size)) (zr X pins σ tg R) E {s with heap:=s.heap.push {cls:=.type "range",data:=.fields #[.int lo t,.int hi u,.int 1 v]},toks:=tk} :=by
 refine wpAny_pyIter_range (Ih ..) (small_one h1 h2 h3 h4) ?_
 have I1:Inv X pins σ H {s with heap:=s.heap.push {cls:=.type "range",data:=.fields #[.int lo t,.int hi u,.int 1 v]},toks:=tk} :=I.kept fun b o e=>Aq _ e
 refine⟨(s.heap.push {cls:=.type "range",data:=.fields #[.int lo t,.int hi u,.int 1 v]}).objs.size,[(s.heap.push {cls:=.type "range",data:=.fields #[.int lo t,.int hi u,.int 1 v]}).objs.size],_,_,H,rfl,
  I1.kept (t':=tk) fun b o e=>Aq _ e,ng _ lo (hi- lo).toNat,?_,fun b hb=>?_,q⟩
 ·have e1:lo+((0:Nat):Int)*1=lo:=by simp
  have e2:(((hi- lo).toNat:Nat):Int)- ((0:Nat):Int)=BB lo hi 1:=by rw[rangeSize_one];split <;> omega
  show FU _ _ (lo+((0:Nat):Int)*1) ((((hi- lo).toNat:Nat):Int)- ((0:Nat):Int)) 1
  rw[e1,e2]
  exact Ax _ rfl
 ·have e:b=(s.heap.push {cls:=.type "range",data:=.fields #[.int lo t,.int hi u,.int 1 v]}).objs.size:=by simpa using hb
  subst e
  exact I1.fpOk (Au _) (I1.hok.fresh (Au _))
def vT (ta:TA):TI:=fun σ H R=>ta σ H fun vs H1=>∃j:Int,vs=[.int j]/\ -(2^62)<=j/\j< 2^62/\R (zt 0 j.toNat) H1
theorem gN {a:Expr} {ta:TA} {p pos:Pos} (hg:Gl X "range") (hm:X.mg "range" =none) (ha:PA X [a] ta) (hs:starEach [a] X.env=[(false,eval a X.env)]:=by rfl):PI X tg (.Call (.Name "range" p) [a] [] pos) (vT ta):=by
 intro pins s σ H R I h
 refine Call_ (fZ I hg hm boot_range (Ce (bM (ha pos pins s σ H _ I h) fun us s1 ⟨vs,H1,I1,r1,q1⟩=>?_) hs rfl))
 obtain⟨j,e,q1,q2,q⟩:=q1
 subst e
 cases r1 with
 | cons r rr =>
  cases rr
  obtain⟨t,rfl⟩:=r
  exact call_range_1 (r9 I1 (by omega) (by omega) q1 q2 (by simpa using q))
def rd (wi:TI) (g:TG) (tb:TS):TS:=fun D σ H=>wi σ H fun J H1=>∃W:Nat->Nat->St->Hp->Prop,(∃m,W 0 m σ H1)/\∀i m σ H,W i m σ H->
 (J.stop i H/\D.nx σ H)\/(J.go i H/\∃N:St->Hp->Prop,(∀σ' H',N σ' H'->∃m',m'< m/\W (i+1) m' σ' H')/\∀x H',J.yld i H x H'->g x σ H' fun σ2 H2=>tb {D with nx:=N,ct:=N,bk:=D.nx} σ2 H2)
def gO (fp:List Addr) (h:Heap):List (Addr×Obj):=fp.filterMap fun b=>(h.get? b).map fun o=>(b,o)
theorem dD {fp:List Addr} {h:Heap} {b:Addr} {o:Obj} (hb:b∈fp) (e:h.get? b=some o):(b,o)∈gO fp h:=De.mpr ⟨b,hb,by rw[e];rfl⟩
theorem pJ {fp:List Addr} {h:Heap} {p:Addr×Obj} (hp:p∈gO fp h):p.1∈fp/\h.get? p.1=some p.2:=by
 obtain⟨b,hb,e⟩:=De.mp hp
 cases q:h.get? b with
 | none=>rw[q]at e;cases e
 | some o =>
  rw[q]at e
  have e':(b,o)=p:=Bl e
  subst e'
  exact⟨hb,q⟩
theorem Inv.pinned {pins:List (Addr×Obj)} {σ:St} {H:Hp} {s:Ap} {fp:List Addr} (I:Inv X pins σ H s) (hf:∀b∈fp,FpOk X pins H b) (ho:∀b∈fp,∃o,s.heap.get? b=some o/\∀v,o.data≠.cell v):Inv X (pins++gO fp s.heap) σ H s:=
 I.pins_of fun p hp=>(Bk.mp hp).elim (fun z=>I.pin p (B0 _ z)) fun z=>by
  obtain⟨hb,e⟩:=pJ z
  obtain⟨f0,f1,f2,_⟩:=hf p.1 hb
  obtain⟨o,e',d⟩:=ho p.1 hb
  rw[e]at e';cases e'
  exact⟨e,f0,f1,f2,d⟩
theorem Inv.unpinned {pins pl:List (Addr×Obj)} {σ:St} {H:Hp} {s:Ap} (I:Inv X (pins++pl) σ H s):Inv X pins σ H s:=I.pins_of fun p hp=>I.pin p (B0 _ (Eb _ hp))
theorem dn {iter:Expr} {body:List Stmt} {wi:TI} {g:TG} {tb:TS} {pos:Pos} (hp:PassesOwn (model X.prog X.w) X.A X.env X.xe) (hc:X.calm=true) (hi:PI X tg iter wi) (hg:PG X tg g) (hb:PSs X body tb)
  (hs:∀x,foldedSetIterable iter X.env x=pure x:=by intro _;rfl):PS X (.For tg iter body [] pos) (rd wi g tb):=by
 intro pins s σ H D I h
 refine wpAny_For (bM (hi pins s σ H _ I h) fun v s1 h1=>bM h1 fun itv s2 h2=>?_) hs
 obtain⟨it,fp,tn,J,H2,e,I2,T,st2,f2,W,⟨m0,w0⟩,turn⟩:=h2
 subst e
 have stat:∀{H':Hp},(∀b∈fp,H' b=none)->∀b∈fp,FpOk X pins H' b:=fun hn b hb=>⟨hn b hb,(f2 b hb).2⟩
 refine codeAny_forLoop_any (fun n s'=>∃i σ' H',Inv X pins σ' H' s'/\tn i s'.heap/\(∀b∈fp,H' b=none)/\W i n σ' H') ?_ m0 ⟨0,σ,H2,I2,st2,fun b hb=>(f2 b hb).1,w0⟩
 rintro n s3 ⟨i,σ3,H3,I3,st3,fr3,w3⟩
 rcases turn i n σ3 H3 w3 with⟨stop,qn⟩ | ⟨go,N,hN,step⟩
 ·refine DG hp (bM (T.done X rfl rfl rfl hc i pins s3 σ3 H3 X.xe I3 (stat fr3) st3 stop) fun r s4 ⟨hr,I4⟩=>?_)
  subst hr
  exact Fy ⟨σ3,H3,I4,qn⟩
 ·refine DG hp (bM (T.item X rfl rfl rfl hc i pins s3 σ3 H3 X.xe I3 (stat fr3) st3 go) fun r s4 ⟨u,hr,h4⟩=>?_)
  subst hr
  refine DG hp (bM h4 fun _ s5 ⟨x,H5,I5,r5,y5,st5,fr5⟩=>?_)
  have I5':=I5.pinned (stat fr5) (T.obj _ _ st5)
  refine DG hp (bM (hg _ s5 σ3 H5 x u _ I5' r5 (step x H5 y5)) fun _ s6 ⟨σ6,H6,I6,q6⟩=>?_)
  refine DG hp (bM (hb _ s6 σ6 H6 _ I6 q6) fun f s7 q7=>?_)
  have again:∀{σ7:St} {H7:Hp},Inv X (pins++gO fp s5.heap) σ7 H7 s7->N σ7 H7->∃m,m< n/\∃i σ' H',Inv X pins σ' H' s7/\tn i s7.heap/\(∀b∈fp,H' b=none)/\W i m σ' H':=fun {σ7 H7} I7 n7=>by
   obtain⟨m',hm,w7⟩:=hN σ7 H7 n7
   refine⟨m',hm,i+1,σ7,H7,I7.unpinned,T.keep _ _ _ st5 fun b hb o e=>(I7.pin (b,o) (B0 _ (B0 _ (dD hb e)))).1,fun b hb=>?_,w7⟩
   obtain⟨o,e,d⟩:=T.obj _ _ st5 b hb
   exact(I7.pin (b,o) (B0 _ (B0 _ (dD hb e)))).2.1
  cases f with
  | next=>obtain⟨σ7,H7,I7,n7⟩:=q7;exact again I7 n7
  | cont=>obtain⟨σ7,H7,I7,n7⟩:=q7;exact again I7 n7
  | brk=>obtain⟨σ7,H7,I7,q7⟩:=q7;exact⟨σ7,H7,I7.unpinned,q7⟩
  | ret v=>obtain⟨x7,σ7,H7,I7,r7,q7⟩:=q7;exact⟨x7,σ7,H7,I7.unpinned,r7,q7⟩
end
abbrev R2:=V->V->Hp->VK->Prop
def OpR (X:Cx) (f:Am->Am->Sem Am) (r:R2):Prop:=
 ∀ (pins : List (Addr × Obj)) (s : Ap) (σ : St) (H : Hp) (x y : V) (v u : Am) (Q : VK), Inv X pins σ H s -> RelV x v -> RelV y u -> r x y H Q ->
  wpAny (model X.prog X.w) X.A (f v u) (EP X pins σ Q) X.xe s
def zu (X:Cx) (f:Am->Sem Am) (r:V->Hp->VK->Prop):Prop:=
 ∀ (pins : List (Addr × Obj)) (s : Ap) (σ : St) (H : Hp) (x : V) (v : Am) (Q : VK), Inv X pins σ H s -> RelV x v -> r x H Q ->
  wpAny (model X.prog X.w) X.A (f v) (EP X pins σ Q) X.xe s
def dv (X:Cx) (f:Am) (r:List V->Hp->VK->Prop):Prop:=
 ∀ (pins : List (Addr × Obj)) (s : Ap) (σ : St) (H : Hp) (xs : List V) (us : List Am) (Q : VK), Inv X pins σ H s -> Vals xs us -> r xs H Q ->
  wpAny (model X.prog X.w) X.A (call f us) (EP X pins σ Q) X.xe s
def cU (r:R2) (ta tb:TE):TE:=fun σ H Q=>ta σ H fun x H1=>tb σ H1 fun y H2=>r x y H2 Q
def eM (r:V->Hp->VK->Prop) (ta:TE):TE:=fun σ H Q=>ta σ H fun x H1=>r x H1 Q
def rI (C:Int->Int->Prop) (g:Int->Int->V):R2:=fun x y H Q=>∃i j,x=.int i/\y=.int j/\C i j/\Q (g i j) H
def dM (g:Int->Int->V):R2:=fun x y H Q=>∃i j,x=.int i/\y=.int j/\Q (g i j) H
def rU (g:Int->V):V->Hp->VK->Prop:=fun x H Q=>∃i,x=.int i/\Q (g i) H
section
variable {X:Cx} {a b c:Expr} {ta tb tc:TE} {pos:Pos}
theorem wy (ha:PE X a ta) (hb:PE X b tb) {pins:List (Addr×Obj)} {s:Ap} {σ:St} {H:Hp} {R:V->V->Hp->Prop} (I:Inv X pins σ H s)
  (h:ta σ H fun x H1=>tb σ H1 fun y H2=>R x y H2) {Q:Am->Ap->Prop} {f:Am->Am->Sem Am}
  (hf:∀v u s2 x y H2,Inv X pins σ H2 s2->RelV x v->RelV y u->R x y H2->wpAny (model X.prog X.w) X.A (f v u) Q X.xe s2):
  wpAny (model X.prog X.w) X.A (eval a X.env) (fun v s₁=>wpAny (model X.prog X.w) X.A (eval b X.env) (fun u s₂=>wpAny (model X.prog X.w) X.A (f v u) Q X.xe s₂) X.xe s₁) X.xe s:=by
 refine bM (ha pins s σ H _ I h) fun v s1 ⟨x,H1,I1,r1,q1⟩=>?_
 refine bM (hb pins s1 σ H1 _ I1 q1) fun u s2 ⟨y,H2,I2,r2,q2⟩=>?_
 exact hf v u s2 x y H2 I2 r1 r2 q2
theorem ag {op:Operator} {r:R2} (ho:OpR X (binaryOp op) r) (ha:PE X a ta) (hb:PE X b tb):PE X (.BinOp a op b pos) (cU r ta tb):=by
 intro pins s σ H Q I h
 exact wpAny_BinOp (wy ha hb I h fun v u s2 x y H2 I2 rx ry q=>ho pins s2 σ H2 x y v u Q I2 rx ry q)
theorem jG {op:UnaryOp} {r:V->Hp->VK->Prop} (ho:zu X (unaryOp op) r) (ha:PE X a ta):PE X (.UnaryOp op a pos) (eM r ta):=by
 intro pins s σ H Q I h
 exact UnaryOp_ (bM (ha pins s σ H _ I h) fun v s1 ⟨x,H1,I1,r1,q1⟩=>ho pins s1 σ H1 x v Q I1 r1 q1)
theorem yD {f:Am->Am->Sem Am} {C:Int->Int->Prop} {g:Int->Int->Int}
  (rule:∀(i j:Int) (t u:Tok) (s:Ap) (Q:Am->Ap->Prop) (E:Am->Ap->Prop),C i j->Q (.int (g i j) s.toks) {s with toks:=s.toks+1}->wpAny (model X.prog X.w) X.A (f (.int i t) (.int j u)) Q E s):
  OpR X f (rI C fun i j=>.int (g i j)):=by
 intro pins s σ H x y v u Q I rx ry h
 obtain⟨i,j,rfl,rfl,hc,q⟩:=h
 obtain⟨t,rfl⟩:=rx
 obtain⟨t',rfl⟩:=ry
 exact rule i j t t' s _ _ hc ⟨.int (g i j),H,I.tok _,⟨_,rfl⟩,q⟩
theorem xM {f:Am->Am->Sem Am} {g:Int->Int->Int}
  (rule:∀(i j:Int) (t u:Tok) (s:Ap) (Q:Am->Ap->Prop) (E:Am->Ap->Prop),Q (.int (g i j) s.toks) {s with toks:=s.toks+1}->wpAny (model X.prog X.w) X.A (f (.int i t) (.int j u)) Q E s):
  OpR X f (dM fun i j=>.int (g i j)):=by
 intro pins s σ H x y v u Q I rx ry h
 obtain⟨i,j,rfl,rfl,q⟩:=h
 obtain⟨t,rfl⟩:=rx
 obtain⟨t',rfl⟩:=ry
 exact rule i j t t' s _ _ ⟨.int (g i j),H,I.tok _,⟨_,rfl⟩,q⟩
theorem um {f:Am->Am->Sem Am} {g:Int->Int->Bool}
  (rule:∀(i j:Int) (t u:Tok) (s:Ap) (Q:Am->Ap->Prop) (E:Am->Ap->Prop),Q (.bool (g i j)) s->wpAny (model X.prog X.w) X.A (f (.int i t) (.int j u)) Q E s):
  OpR X f (dM fun i j=>.bl (g i j)):=by
 intro pins s σ H x y v u Q I rx ry h
 obtain⟨i,j,rfl,rfl,q⟩:=h
 obtain⟨t,rfl⟩:=rx
 obtain⟨t',rfl⟩:=ry
 exact rule i j t t' s _ _ ⟨.bl (g i j),H,I,rfl,q⟩
def xN (i j:Int):Prop:=0< j/\j< 1073741824
def xO (i j:Int):Prop:=0<=j/\j<=1000000/\i.natAbs< 2^64
def CMul (i j:Int):Prop:=(-(2^64)< i/\i< 2^64)\/(-(2^64)< j/\j< 2^64)
theorem CMul.ok {i j:Int} (h:CMul i j):IntMulOk i j:=by
 rcases h with⟨h1,h2⟩ | ⟨h1,h2⟩
 ·exact .of_left (HC h1 h2)
 ·exact .of_right (HC h1 h2)
theorem bC:OpR X (binaryOp .Add) (dM fun i j=>.int (i+j)):=xM fun _ _ _ _ _ _ _ q=>add_int q
theorem gP:OpR X (binaryOp .Sub) (dM fun i j=>.int (i- j)):=xM fun _ _ _ _ _ _ _ q=>sub_int q
theorem eN:OpR X (binaryOp .Mult) (rI CMul fun i j=>.int (i*j)):=yD fun _ _ _ _ _ _ _ hc q=>mul_int q hc.ok
theorem b9:OpR X (binaryOp .FloorDiv) (rI xN fun i j=>.int (i/ j)):=yD fun i j _ _ _ _ _ hc q=>by
 have h1:(0:Int)< j:=hc.1
 have h2:j< 1073741824:=hc.2
 exact floordiv_int (by omega) (by rw[Int.fdiv_eq_ediv_of_nonneg i (by omega)];exact q) (.inl (PyProof.noPylong_small (by omega)))
theorem aA:OpR X (binaryOp .Mod) (rI (fun _ j=>0< j) fun i j=>.int (i% j)):=yD fun i j _ _ _ _ _ hc q=>by
 have h1:(0:Int)< j:=hc
 exact mod_int' (by omega) (by rw[Int.fmod_eq_emod_of_nonneg i (by omega)];exact q)
theorem wz:OpR X (binaryOp .Pow) (rI xO fun i j=>.int (i^j.toNat)):=yD fun _ _ _ _ _ _ _ hc q=>pow_int_small hc.1 hc.2.1 hc.2.2 q
theorem zJ {f:Am->Sem Am} {g:Int->Int}
  (rule:∀(i:Int) (t:Tok) (s:Ap) (Q:Am->Ap->Prop) (E:Am->Ap->Prop),Q (.int (g i) s.toks) {s with toks:=s.toks+1}->wpAny (model X.prog X.w) X.A (f (.int i t)) Q E s):
  zu X f (rU fun i=>.int (g i)):=by
 intro pins s σ H x v Q I rx h
 obtain⟨i,rfl,q⟩:=h
 obtain⟨t,rfl⟩:=rx
 exact rule i t s _ _ ⟨.int (g i),H,I.tok _,⟨_,rfl⟩,q⟩
theorem gQ:zu X (unaryOp .USub) (rU fun i=>.int (-i)):=zJ fun _ _ _ _ _ q=>neg_int q
end
def cv:V->V->Bool
 | .non,.non=>true | .non,.int _=>true | .int _,.non=>true | .non,.bl _=>true | .bl _,.non=>true | .non,.str _=>true | .str _,.non=>true
 | .int _,.int _=>true | .bl _,.bl _=>true | .str _,.str _=>true | .byt _,.byt _=>true
 | .int _,.str _=>true | .str _,.int _=>true | .bl _,.str _=>true | .str _,.bl _=>true
 | _,_=>false
def eZ:R2:=fun x y H Q=>cv x y=true/\Q (.bl (decide (x=y))) H
def ff:R2:=fun x y H Q=>cv x y=true/\Q (.bl (!decide (x=y))) H
theorem o9 {i j:Int} :decide (V.int i=V.int j)=(i == j):=by
 rw[Cz]
 simp
theorem rf {i j:Bool} :decide (V.bl i=V.bl j)=(i == j):=by
 rw[Cz]
 simp
theorem oa {i j:Str} :decide (V.str i=V.str j)=(i == j):=by
 rw[Cz]
 simp
theorem og {i j:Array UInt8} :decide (V.byt i=V.byt j)=(i.toList == j.toList):=by
 rw[Cz]
 cases i
 cases j
 simp
section
variable {X:Cx} {a b c:Expr} {ta tb tc:TE} {pos:Pos}
theorem aK {pins:List (Addr×Obj)} {σ:St} {H:Hp} {s:Ap} {Q:VK} {k k':Bool} (I:Inv X pins σ H s) (q:Q (.bl k) H) (e:k=k'):EP X pins σ Q (.bool k') s:=by
 subst e
 exact⟨.bl k,H,I,rfl,q⟩
theorem bZ:OpR X (compareOp .Eq) eZ:=by
 intro pins s σ H x y v u Q I rx ry h
 obtain⟨hs,q⟩:=h
 cases x with
 | non =>
  cases rx
  cases y with
  | non=>cases ry;exact PySem.EqNone.eq_none_none (aK I q (by simp))
  | bl j=>cases ry;exact PySem.EqNone.eq_none_bool (aK I q (by simp))
  | int j=>obtain⟨t',rfl⟩:=ry;exact PySem.EqNone.eq_none_int (aK I q (by simp))
  | str j=>obtain⟨t',rfl⟩:=ry;exact PySem.EqNone.eq_none_str (aK I q (by simp))
  | _=>exact absurd (show false=true from hs) AG
 | bl i =>
  cases rx
  cases y with
  | non=>cases ry;exact PySem.EqNone.eq_bool_none (aK I q (by simp))
  | bl j=>cases ry;exact eq_bool (aK I q rf)
  | str j=>obtain⟨t',rfl⟩:=ry;exact PySem.EqMixed.eq_bool_str (aK I q (by simp))
  | _=>exact absurd (show false=true from hs) AG
 | int i =>
  obtain⟨t,rfl⟩:=rx
  cases y with
  | non=>cases ry;exact PySem.EqNone.eq_int_none (aK I q (by simp))
  | int j=>obtain⟨t',rfl⟩:=ry;exact eq_int (aK I q o9)
  | str j=>obtain⟨t',rfl⟩:=ry;exact PySem.EqMixed.eq_int_str (aK I q (by simp))
  | _=>exact absurd (show false=true from hs) AG
 | str i =>
  obtain⟨t,rfl⟩:=rx
  cases y with
  | non=>cases ry;exact PySem.EqNone.eq_str_none (aK I q (by simp))
  | bl j=>cases ry;exact PySem.EqMixed.eq_str_bool (aK I q (by simp))
  | int j=>obtain⟨t',rfl⟩:=ry;exact PySem.EqMixed.eq_str_int (aK I q (by simp))
  | str j=>obtain⟨t',rfl⟩:=ry;exact eq_str (aK I q oa)
  | _=>exact absurd (show false=true from hs) AG
 | byt i =>
  obtain⟨t,rfl⟩:=rx
  cases y with
  | byt j=>obtain⟨t',rfl⟩:=ry;exact PySem.W.eq_bytes (aK I q og)
  | _=>exact absurd (show false=true from hs) AG
 | _=>cases y <;> exact absurd (show false=true from hs) AG
theorem xP:OpR X (compareOp .NotEq) ff:=by
 intro pins s σ H x y v u Q I rx ry h
 obtain⟨hs,q⟩:=h
 cases x with
 | non =>
  cases rx
  cases y with
  | non=>cases ry;exact PySem.EqNone.ne_none_none (aK I q (by simp))
  | bl j=>cases ry;exact PySem.EqNone.ne_none_bool (aK I q (by simp))
  | int j=>obtain⟨t',rfl⟩:=ry;exact PySem.EqNone.ne_none_int (aK I q (by simp))
  | str j=>obtain⟨t',rfl⟩:=ry;exact PySem.EqNone.ne_none_str (aK I q (by simp))
  | _=>exact absurd (show false=true from hs) AG
 | bl i =>
  cases rx
  cases y with
  | non=>cases ry;exact PySem.EqNone.ne_bool_none (aK I q (by simp))
  | bl j=>cases ry;exact ne_bool (aK I q (congrArg not rf))
  | str j=>obtain⟨t',rfl⟩:=ry;exact PySem.EqMixed.ne_bool_str (aK I q (by simp))
  | _=>exact absurd (show false=true from hs) AG
 | int i =>
  obtain⟨t,rfl⟩:=rx
  cases y with
  | non=>cases ry;exact PySem.EqNone.ne_int_none (aK I q (by simp))
  | int j=>obtain⟨t',rfl⟩:=ry;exact ne_int (aK I q (congrArg not o9))
  | str j=>obtain⟨t',rfl⟩:=ry;exact PySem.EqMixed.ne_int_str (aK I q (by simp))
  | _=>exact absurd (show false=true from hs) AG
 | str i =>
  obtain⟨t,rfl⟩:=rx
  cases y with
  | non=>cases ry;exact PySem.EqNone.ne_str_none (aK I q (by simp))
  | bl j=>cases ry;exact PySem.EqMixed.ne_str_bool (aK I q (by simp))
  | int j=>obtain⟨t',rfl⟩:=ry;exact PySem.EqMixed.ne_str_int (aK I q (by simp))
  | str j=>obtain⟨t',rfl⟩:=ry;exact ne_str (aK I q (congrArg not oa))
  | _=>exact absurd (show false=true from hs) AG
 | byt i =>
  obtain⟨t,rfl⟩:=rx
  cases y with
  | byt j=>obtain⟨t',rfl⟩:=ry;exact PySem.W.ne_bytes (aK I q (congrArg not og))
  | _=>exact absurd (show false=true from hs) AG
 | _=>cases y <;> exact absurd (show false=true from hs) AG
theorem oh:OpR X (compareOp .Lt) (dM fun i j=>.bl (decide (i< j))):=um fun _ _ _ _ _ _ _ q=>lt_int q
theorem vU:OpR X (compareOp .LtE) (dM fun i j=>.bl (decide (i<=j))):=um fun _ _ _ _ _ _ _ q=>le_int q
theorem vV:OpR X (compareOp .Gt) (dM fun i j=>.bl (decide (j< i))):=um fun _ _ _ _ _ _ _ q=>gt_int q
theorem rg:OpR X (compareOp .GtE) (dM fun i j=>.bl (decide (j<=i))):=um fun _ _ _ _ _ _ _ q=>ge_int q
theorem pK:OpR X (compareOp .In) (fun x y H Q=>∃i j,x=.str i/\y=.str j/\Q (.bl (!(DM j i 0 j.length 1).isEmpty)) H):=by
 intro pins s σ H x y v u Q I rx ry h
 obtain⟨i,j,rfl,rfl,q⟩:=h
 obtain⟨t,rfl⟩:=rx
 obtain⟨t',rfl⟩:=ry
 exact in_str (aK I q rfl)
theorem op_isN:OpR X (compareOp .Is) (fun x y H Q=>y=.non/\Q (.bl (decide (x=.non))) H):=by
 intro pins s σ H x y v u Q I rx ry h
 obtain⟨rfl,q⟩:=h
 cases ry
 refine is_none_gen (aK I q ?_)
 cases x <;> first
  | (cases rx;rfl)
  | (obtain⟨t,rfl⟩:=rx;rfl)
theorem OpR.or {f:Am->Am->Sem Am} {r r':R2} (h:OpR X f r) (h':OpR X f r'):OpR X f (fun x y H Q=>r x y H Q\/r' x y H Q):=by
 intro pins s σ H x y v u Q I rx ry q
 rcases q with q | q
 ·exact h pins s σ H x y v u Q I rx ry q
 ·exact h' pins s σ H x y v u Q I rx ry q
theorem aJ (b:Expr) {op:CmpOp} (h:op≠.In:=by decide) (h2:op≠.NotIn:=by decide):behindInMarks op b=false:=by
 have e1:(op == CmpOp.In)=false:=by cases op <;> first | rfl | exact absurd rfl h
 have e2:(op == CmpOp.NotIn)=false:=by cases op <;> first | rfl | exact absurd rfl h2
 cases b <;> simp[behindInMarks,e1,e2]
theorem df {op:CmpOp} {r:R2} (ho:OpR X (compareOp op) r) (ha:PE X a ta) (hb:PE X b tb) (hm:behindInMarks op b=false):PE X (.Compare a [op] [b] pos) (cU r ta tb):=by
 intro pins s σ H Q I h
 exact wpAny_Compare1 (wy ha hb I h fun v u s2 x y H2 I2 rx ry q=>ho pins s2 σ H2 x y v u Q I2 rx ry q) hm
def br (t:TE):TT:=fun σ H Q=>t σ H fun x H'=>∃k,x=.bl k/\Q k H'
theorem aG {op:CmpOp} {r:R2} (ho:OpR X (compareOp op) r) (ha:PE X a ta) (hb:PE X b tb) (hm:behindInMarks op b=false):PT X (.Compare a [op] [b] pos) (br (cU r ta tb)):=by
 intro pins s σ H Q I h
 refine wpAny_isTrue_Compare1 (bM (ha pins s σ H _ I h) fun v s1 ⟨x,H1,I1,r1,q1⟩=>bM (hb pins s1 σ H1 _ I1 q1) fun u s2 ⟨y,H2,I2,r2,q2⟩=>
  bM (ho pins s2 σ H2 x y v u _ I2 r1 r2 q2) fun c s3 ⟨z,H3,I3,r3,k,e,q3⟩=>?_) hm
 subst e
 cases r3
 exact CM ⟨H3,I3,q3⟩
theorem iK:(sizeLine:Nat)< 2^63:=by rw[BU];decide
theorem d9:OpR X (binaryOp .Add) (fun x y H Q=>∃i j,x=.str i/\y=.str j/\i.length+j.length<=sizeLine/\Q (.str (i++j)) H):=by
 intro pins s σ H x y v u Q I rx ry h
 obtain⟨i,j,rfl,rfl,hz,q⟩:=h
 obtain⟨t,rfl⟩:=rx
 obtain⟨t',rfl⟩:=ry
 exact add_str (fun t' tk=>⟨.str (i++j),H,I.tok _,⟨_,rfl⟩,q⟩) hz
theorem f6 {x:V} {us:List Am} (r:Vals [x] us):∃u,us=[u]/\RelV x u:=by
 cases r with
 | cons r1 r2=>cases r2;exact⟨_,rfl,r1⟩
theorem vW {x y:V} {us:List Am} (r:Vals [x,y] us):∃u w',us=[u,w']/\RelV x u/\RelV y w':=by
 cases r with
 | cons r1 r2 =>
  cases r2 with
  | cons r3 r4=>cases r4;exact⟨_,_,rfl,r1,r3⟩
theorem lA:dv X (.builtin "abs") (fun xs H Q=>∃i,xs=[.int i]/\Q (.int (if i< 0 then -i else i)) H):=by
 intro pins s σ H xs us Q I r h
 obtain⟨i,rfl,q⟩:=h
 obtain⟨u,rfl,t,rfl⟩:=f6 r
 exact call_abs_int fun u tk=>⟨.int (if i< 0 then -i else i),H,I.tok _,⟨_,rfl⟩,q⟩
theorem pL:dv X (.type "int") (fun xs H Q=>(∃i,xs=[.int i]/\Q (.int i) H)\/∃k,xs=[.bl k]/\Q (.int (if k then 1 else 0)) H):=by
 intro pins s σ H xs us Q I r h
 rcases h with⟨i,rfl,q⟩ | ⟨k,rfl,q⟩
 ·obtain⟨u,rfl,t,rfl⟩:=f6 r
  exact call_int_int ⟨.int i,H,I,⟨_,rfl⟩,q⟩
 ·obtain⟨u,rfl,r1⟩:=f6 r
  cases r1
  exact call_int_bool ⟨.int (if k then 1 else 0),H,I.tok _,⟨_,rfl⟩,q⟩
def pM (K:PySem.W.Frag) (x:V) (H:Hp) (n:Nat):Prop:=
 match x with
 | .str y=>y.length<=sizeLine/\n=y.length
 | .byt y=>y.size<=sizeLine/\n=y.size
 | .ref p=>(∃xs,SqL K H p xs/\n=xs.length)\/∃xs,SqT K H p xs/\n=xs.length
 | _=>False
theorem rh:dv X (.builtin "len") (fun xs H Q=>∃x n,xs=[x]/\pM X.K x H n/\Q (.int n) H):=by
 intro pins s σ H xs us Q I r h
 obtain⟨x,n,rfl,e,q⟩:=h
 obtain⟨u,rfl,rx⟩:=f6 r
 have hl:=iK
 have hs:sizeLine=16777216:=BU
 cases x with
 | str y =>
  obtain⟨t,rfl⟩:=rx
  obtain⟨hy,e'⟩:y.length<=sizeLine/\n=y.length:=e
  subst e'
  exact len_str (by omega) ⟨.int _,H,I.tok _,⟨_,rfl⟩,q⟩
 | byt y =>
  obtain⟨t,rfl⟩:=rx
  obtain⟨hy,e'⟩:y.size<=sizeLine/\n=y.size:=e
  subst e'
  exact PySem.W.len_bytes (by omega) ⟨.int _,H,I.tok _,⟨_,rfl⟩,q⟩
 | ref p =>
  cases rx
  have e':(∃xs,SqL X.K H p xs/\n=xs.length)\/∃xs,SqT X.K H p xs/\n=xs.length:=e
  rcases e' with⟨xs,hx,e'⟩ | ⟨xs,hx,e'⟩
  ·subst e'
   obtain⟨its,r',pl,hz⟩:=I.list hx
   have hlen:=r'.length
   exact Calls.call_len_list pl.isList (by simp only[AH];omega) ⟨.int xs.length,H,I.tok _,⟨_,by simp only[AH];rw[hlen]⟩,q⟩
  ·subst e'
   obtain⟨its,r',pl,hz⟩:=I.tuple hx
   have hlen:=r'.length
   exact len_tuple pl (by simp only[AH];omega) ⟨.int xs.length,H,I.tok _,⟨_,by simp only[AH];rw[hlen]⟩,q⟩
 | _=>exact(show False from e).elim
end
structure ObjM (h:Heap) (x dx C:Addr) (mA:Str->Option Am):Prop where
 obj:h.get? x=some (PySem.W.instObj C dx)
 ns:h.Ns1 dx mA
 ne:dx≠x
theorem pN {h:Heap} {dx:Addr} {mA:Str->Option Am} (n:h.Ns1 dx mA):∃od,h.get? dx=some od/\∀name,PySem.W.lookIn name od=some (mA name):=by
 obtain⟨o,es,ep,ho,hd,hk,_,hm⟩:=n
 refine⟨o,ho,fun name=>?_⟩
 have e:=hm name
 unfold nsFind findBy at e
 rw[<-Array.find?_toList]at e
 unfold PySem.W.lookIn
 rw[hd]
 dsimp only
 split
 ·rename_i y q
  rw[q]at e
  exact congrArg some e
 ·rename_i q
  rw[q]at e
  have a:es.toList.any (·.refKey)=false:=by
   rw[List.any_eq_false]
   intro y hy
   obtain⟨z,t,hkey⟩:=hk y (Array.mem_toList_iff.mp hy)
   simp[DictEntry.refKey,hkey]
  have a':¬es.toList.any (·.refKey)=true:=by rw[a];exact AG
  rw[if_neg a']
  exact congrArg some e
theorem ObjM.look {h:Heap} {x dx C:Addr} {mA:Str->Option Am} (I:ObjM h x dx C mA):∃od,PySem.W.InstAt h x (PySem.W.instObj C dx) C (some od)/\∀name,PySem.W.lookIn name od=some (mA name):=
 let ⟨od,ho,hl⟩:=pN I.ns
 ⟨od,⟨I.obj,rfl,rfl,ho⟩,hl⟩
theorem RelO.some_of {v:V} {o:Option Am} (r:RelO (some v) o):∃u,o=some u/\RelV v u:=by
 cases o with
 | none=>exact(show False from r).elim
 | some u=>exact⟨u,rfl,r⟩
section
variable {P:AI} {w:AQ} {H H':Hp} {h h':Heap} {a C dx:Addr} {fs fs':List (Str×V)}
theorem uo (hok:HOk P w H h) (e:H a=some (.ins C dx fs)):∃mA,ObjM h a dx C mA/\(∀f,RelO (fs.lookup f) (mA f))/\PySem.Within mA (fs.map (·.1))/\fs.length<=1000/\H dx=some (.own a):=by
 obtain⟨d,z,ne,ob,mA,n,r,q⟩:=(show ObjOk P w H h a (.ins C dx fs)from hok a _ e)
 exact⟨mA,⟨ob,n,ne⟩,r,q,z,d⟩
end
structure Cls (K:PySem.W.Frag) (C:Addr):Prop where
 pg:PySem.W.plainGet K C Str.empty=true
 hd:PySem.W.hasDictIn K C=true
 po:PySem.W.plainOver K C=true
 sa:PySem.W.findIn K (.ref C) "__setattr__" =some (some (.builtin "object.__setattr__"))
theorem Cls.get {K:PySem.W.Frag} {C:Addr} (c:Cls K C) (f:Str):PySem.W.plainGet K C f=true:=c.pg
section
variable {X:Cx} {pins:List (Addr×Obj)} {σ:St} {H:Hp} {s:Ap} {A:Bo} {E:Am->Ap->Prop} {Q:Am->Ap->Prop} {c:Am} {b:Bool}
inductive TyOf (K:PySem.W.Frag) (H:Hp):V->Am->Prop where
 | non:TyOf K H .non (.type "NoneType")
 | bl (x:Bool):TyOf K H (.bl x) (.type "bool")
 | int (i:Int):TyOf K H (.int i) (.type "int")
 | str (x:Str):TyOf K H (.str x) (.type "str")
 | flt (x:UInt64):TyOf K H (.flt x) (.type "float")
 | lst {a:Addr} {xs:List V} (e:H a=some (.lst xs)):TyOf K H (.ref a) (.type "list")
 | frz {a:Addr} {o:Obj} {xs:List V} (e:H a=some (.frz o (.lst xs))):TyOf K H (.ref a) (.type "list")
 | tup {a:Addr} {xs:List V} (e:SqT K H a xs):TyOf K H (.ref a) (.type "tuple")
 | dK {a:Addr} {kvs:List (Key×V)} (e:H a=some (.dK kvs)):TyOf K H (.ref a) (.type "dict")
 | dT {a:Addr} {kvs:List (List Key×V)} (e:H a=some (.dT kvs)):TyOf K H (.ref a) (.type "dict")
 | ins {a C dx:Addr} {fs:List (Str×V)} (e:H a=some (.ins C dx fs)) (cl:Cls K C) (ha:PySem.W.findIn K (.ref C) "__class__" =some (some (.builtin "object.__class__")))
   (hn:PySem.W.specialIn K (.builtin "object.__class__") "__get__" =some (some (.builtin "getset_descriptor.__get__"))) (htk:PySem.W.takesIn K (.builtin "object.__class__")=some true)
   (hm:PySem.W.mroIn K C (.type "object")=some true):TyOf K H (.ref a) (.ref C)
theorem pO {x:V} {u t:Am} (I:Inv X pins σ H s) (rx:RelV x u) (ty:TyOf X.K H x t) (e:PySem.W.kitOne X.K t c=some b) (h:∀tk,Q (.bool b) {s with toks:=tk}):
  wpAny (model X.prog X.w) A (call (.builtin "isinstance") [u,c]) Q E s:=by
 cases ty with
 | non=>cases (show u=BA from rx);exact PySem.W.kia_one PySem.W.kitx_none I.kIn Du e (fun z=>nomatch z) h
 | bl y=>cases (show u=Ho y from rx);exact PySem.W.kia_one PySem.W.kitx_bool I.kIn Du e (fun z=>nomatch z) h
 | int i=>obtain⟨t,q⟩:=(show ∃t,u=Fd i t from rx);cases q;exact PySem.W.kia_one PySem.W.kitx_int I.kIn Du e (fun z=>nomatch z) h
 | str y=>obtain⟨t,q⟩:=(show ∃t,u=GL y t from rx);cases q;exact PySem.W.kia_one PySem.W.kitx_str I.kIn Du e (fun z=>nomatch z) h
 | flt y=>obtain⟨t,q⟩:=(show ∃t,u=Ig y t from rx);cases q;exact PySem.W.kia_one PySem.W.kitx_float I.kIn Du e (fun z=>nomatch z) h
 | @lst a xs ea =>
  cases (show u=Bx a from rx)
  obtain⟨_,_,n,_,h1⟩:=(show ObjOk X.prog X.w H s.heap a (.lst xs)from I.hok a _ ea)
  exact PySem.W.kia_one PySem.W.kitx_list I.kIn ⟨_,h1,rfl⟩ e (fun z=>nomatch z) h
 | @frz a ob xs ea =>
  cases (show u=Bx a from rx)
  obtain⟨_,_,_,n,_,h1⟩:=(show ObjOk X.prog X.w H s.heap a (.frz ob (.lst xs))from I.hok a _ ea)
  exact PySem.W.kia_one PySem.W.kitx_list I.kIn ⟨_,h1,rfl⟩ e (fun z=>nomatch z) h
 | @tup a xs ea =>
  cases (show u=Bx a from rx)
  obtain⟨_,_,p,_⟩:=I.tuple ea
  obtain⟨o,h1,h2,_⟩:=p
  exact PySem.W.kia_one PySem.W.kitx_tuple I.kIn ⟨o,h1,h2⟩ e (fun z=>nomatch z) h
 | @dK a kvs ea =>
  cases (show u=Bx a from rx)
  obtain⟨_,_,vs,_,p⟩:=(show ObjOk X.prog X.w H s.heap a (.dK kvs)from I.hok a _ ea)
  obtain⟨o,es,ep,h1,h2,_⟩:=p
  exact PySem.W.kia_one PySem.W.kitx_dict I.kIn ⟨o,h1,h2.1⟩ e (fun z=>nomatch z) h
 | @dT a kvs ea =>
  cases (show u=Bx a from rx)
  obtain⟨_,_,xs,_,o,es,ep,h1,h2,_⟩:=(show ObjOk X.prog X.w H s.heap a (.dT kvs)from I.hok a _ ea)
  exact PySem.W.kia_one PySem.W.kitx_dict I.kIn ⟨o,h1,h2.1⟩ e (fun z=>nomatch z) h
 | @ins a C dx fs ea cl ha hn htk hm =>
  cases (show u=Bx a from rx)
  obtain⟨mA,O,_⟩:=uo I.hok ea
  obtain⟨od,J,_⟩:=O.look
  exact PySem.W.kia_one (PySem.W.kitx_own (cl.get _) cl.hd ha hn htk hm) I.kIn J e (fun z=>nomatch z) h
end
structure Room (k:Nat) (A:Bo):Prop where
 hd:A.handled=none
 dp:A.depth+3*k+5< recursionLimit
 un:A.units+16*k+200< cLine
theorem Room.mono {j k:Nat} {A:Bo} (r:Room k A) (h:j<=k):Room j A:=⟨r.hd,by have:=r.dp;omega,by have:=r.un;omega⟩
theorem Room.deeper {k:Nat} {A:Bo} (r:Room (k+1) A) (env:Env):Room k (A.deeper env):=
 ⟨r.hd,by have:=r.dp;show A.depth+1+3*k+5< _;omega,by have:=r.un;show A.units+3+16*k+200< _;omega⟩
theorem Room.depth {k:Nat} {A:Bo} (r:Room k A):A.depth< recursionLimit:=by have:=r.dp;omega
theorem Room.units0 {k:Nat} {A:Bo} (r:Room k A):A.units< cLine:=by have:=r.un;omega
def aU:TA:=fun _ H Q=>Q [] H
def aj (ta:TE) (tr:TA):TA:=fun σ H Q=>ta σ H fun x H1=>tr σ H1 fun xs H2=>Q (x::xs) H2
section
variable {X:Cx} {e:Expr} {es:List Expr} {te:TE} {t:TA} {pos:Pos}
theorem aa:PA X [] aU:=fun _ _ _ _ H Q I h=>Gx ⟨[],H,I,.nil,h⟩
theorem a5 (ha:PE X e te) (hr:PA X es t) (hs:starEach (e::es) X.env=(false,eval e X.env)::starEach es X.env:=by rfl):PA X (e::es) (aj te t):=by
 intro pos pins s σ H Q I h
 rw[hs]
 show wpAny _ _ (spliced ((false,eval e X.env)::backTo pos (starEach es X.env))) _ _ s
 refine Gj (bM (ha pins s σ H _ I h) fun u s1 ⟨x,H1,I1,r1,q1⟩=>?_)
 exact bM (hr pos pins s1 σ H1 _ I1 q1) fun us s2 ⟨xs,H2,I2,r2,q2⟩=>⟨x::xs,H2,I2,.cons r1 r2,q2⟩
def cb (t:TA):TE:=fun σ H Q=>t σ H fun xs H1=>xs.length<=sizeLine/\∀p,H1 p=none->Q (.ref p) (cJ H1 p (.tup xs))
def bV (t:TA):TE:=fun σ H Q=>t σ H fun xs H1=>xs.length<=sizeLine/\∀p,H1 p=none->Q (.ref p) (cJ H1 p (.lst xs))
theorem cN {x1} (h:PA X es t):PE X (.Tuple es x1 pos) (cb t):=by
 intro pins s σ H Q I hq
 refine wpAny_Tuple_spliced (bM (h pos pins s σ H _ I hq) fun us s1 ⟨xs,H1,I1,r,z,q⟩=>⟨by rw[<-r.length];exact z,?_⟩)
 have hf:H1 s1.heap.objs.size=none:=I1.hok.fresh (Au _)
 refine⟨.ref s1.heap.objs.size,cJ H1 s1.heap.objs.size (.tup xs),I1.laid (t':=s1.toks) (fun b u e=>Aq _ e) (Au _) ?_,rfl,q _ hf⟩
 exact⟨z,us,r,⟨_,Ax _ rfl,⟨rfl,rfl⟩,_,rfl⟩⟩
theorem cw (h:PA X es t):PE X (.List es pos) (bV t):=by
 intro pins s σ H Q I hq
 refine wpAny_List_spliced (bM (h pos pins s σ H _ I hq) fun us s1 ⟨xs,H1,I1,r,z,q⟩=>⟨by rw[<-r.length];exact z,?_⟩)
 have hf:H1 s1.heap.objs.size=none:=I1.hok.fresh (Au _)
 refine⟨.ref s1.heap.objs.size,cJ H1 s1.heap.objs.size (.lst xs),I1.laid (t':=s1.toks) (fun b u e=>Aq _ e) (Au _) ?_,rfl,q _ hf⟩
 exact⟨z,us,0,r,Ax _ rfl⟩
end
abbrev Sp:=List V->Hp->VK->XK->Prop
abbrev CXT:=List Env->Hp->Ap->XK->Am->Ap->Prop
structure Env0 (P:AI) (w:AQ) (K:PySem.W.Frag) (mg:Str->Option Am) (base:Heap) (A:Bo) (outer:List Env) (s:Ap) (H:Hp):Prop where
 frames:A.frames=some outer
 mod:Mod K mg base
 bs:∀b o,base.get? b=some o->s.heap.get? b=some o/\H b=none
 bsz:base.objs.size<=s.heap.objs.size
 funs:s.heap.FunFrames base outer
 frf:∀b∈frs outer,H b=none
 hok:HOk P w H s.heap
 bare:EO s.gens
def CE (outer:List Env) (P:AI) (w:AQ) (H:Hp) (s:Ap) (Q:VK) (u:Am) (s':Ap):Prop:=
 ∃v H',s'.os=s.os/\EO s'.gens/\Un (frs outer) [] H H' s.heap s'.heap/\HOk P w H' s'.heap/\RelV v u/\Q v H'
def CR (CX:CXT) (outer:List Env) (P:AI) (w:AQ) (H:Hp) (s:Ap) (Q:VK) (E:XK) (r:Hr) (s':Ap):Prop:=
 match r with
 | .ok (.ret u)=>CE outer P w H s Q u s'
 | .ok _=>False
 | .error e=>CX outer H s E e s'
structure FnOk (P:AI) (w:AQ) (K:PySem.W.Frag) (mg:Str->Option Am) (base:Heap) (CX:CXT) (k:Nat) (f:Addr) (fd:AZ) (ps:List Str) (sp:Sp):Prop where
 len:∀vs H Q E,sp vs H Q E->vs.length=ps.length
 run:∀(A:Bo) (outer:List Env) (s:Ap) (H:Hp) (args:Args) (us:List Am) (vs:List V) (Q:VK) (E:XK),Room k A->Env0 P w K mg base A outer s H->Gy s fd args (ps.zip us)->Vals vs us->sp vs H Q E->
  codeAny (model P w) A (.call (.ref f) args) (CR CX outer P w H s Q E) s
theorem FnOk.imp {P:AI} {w:AQ} {K:PySem.W.Frag} {mg:Str->Option Am} {base:Heap} {CX:CXT} {k:Nat} {f:Addr} {fd:AZ} {ps:List Str} {sp sp':Sp} (F:FnOk P w K mg base CX k f fd ps sp)
  (h:∀vs H Q E,sp' vs H Q E->sp vs H Q E):FnOk P w K mg base CX k f fd ps sp':=
 ⟨fun vs H Q E q=>F.len vs H Q E (h _ _ _ _ q),fun A outer s H args us vs Q E hr he hb hv hs=>F.run A outer s H args us vs Q E hr he hb hv (h _ _ _ _ hs)⟩
section
variable {X:Cx} {pins:List (Addr×Obj)} {σ:St} {H:Hp} {s s':Ap}
theorem Inv.env0 (I:Inv X pins σ H s):Env0 X.prog X.w X.K X.mg X.base X.A X.stack s H:=
 ⟨I.ok.frames,I.ok.mod,I.bs,C6 I.ok.bsz I.sz,I.stack,I.stkFree,I.hok,I.bare⟩
theorem Inv.after {Q:VK} {u:Am} (I:Inv X pins σ H s) (h:CE X.stack X.prog X.w H s Q u s'):EP X pins σ Q u s':=by
 obtain⟨v,H',os,bare,un,hok,r,q⟩:=h
 obtain⟨hh,g,d,t,os'⟩:=s'
 obtain rfl:os'=s.os:=os
 exact⟨v,H',I.call (h':=hh) (g':=g) (d':=d) (t':=t) (ch:=[]) un hok bare (fun b z=>absurd z (by simp)),r,q⟩
end
def aS (sp:Sp) (dvs:List V) (E:XK) (t:TA):TE:=fun σ H Q=>t σ H fun vs H1=>sp (vs++dvs) H1 Q E
def Binds (K:PySem.W.Frag) (fd:AZ) (ps:List Str) (ds:List Am):Prop:=
 ∀(s:Ap) (us:List Am),K.In s.heap->(us++ds).length=ps.length->Gy s fd ⟨us,[]⟩ (ps.zip (us++ds))
theorem Binds.all {K:PySem.W.Frag} {fd:AZ} {ps:List Str} (h:∀us:List Am,us.length=ps.length->bindArgs fd ⟨us,[]⟩=pure (ps.zip us)):Binds K fd ps []:=fun s us _ hl=>by
 rw[C1]at hl ⊢
 exact .of_eq (h us hl)
def nh (CX:CXT) (X:Cx) (E:XK):Prop:=∀(pins:List (Addr×Obj)) (σ:St) (H:Hp) (s:Ap) (e:Am) (s':Ap),Inv X pins σ H s->CX X.stack H s E e s'->X.xe e s'
section
variable {X:Cx} {CX:CXT} {k:Nat} {f C:Addr} {fd:AZ} {ps:List Str} {sp:Sp} {dvs:List V} {ds:List Am} {E:XK} {x m:Str} {p pos apos:Pos} {e o:Expr} {es:List Expr} {ta:TE} {t:TA}
theorem wA {pins:List (Addr×Obj)} {σ:St} {H:Hp} {s:Ap} {Q:VK} {us:List Am} {vs:List V} (F:FnOk X.prog X.w X.K X.mg X.base CX k f fd ps sp) (hr:Room k X.A) (hb:Binds X.K fd ps ds) (hd:Vals dvs ds) (hx:nh CX X E)
  (I:Inv X pins σ H s) (r:Vals vs us) (h:sp (vs++dvs) H Q E):wpAny (model X.prog X.w) X.A (call (.ref f) us) (EP X pins σ Q) X.xe s:=by
 have r2:Vals (vs++dvs) (us++ds):=r.append hd
 have hl:(us++ds).length=ps.length:=by rw[<-r2.length];exact F.len _ _ _ _ h
 refine wpAny_call (Es (F.run X.A X.stack s H ⟨us,[]⟩ (us++ds) (vs++dvs) Q E hr I.env0 (hb s us I.kIn hl) r2 h) fun r s' hq=>?_)
 cases r with
 | error e=>exact hx pins σ H s e s' I hq
 | ok fl =>
  cases fl with
  | ret u=>exact I.after hq
  | next=>exact Dd hq
  | brk=>exact Dd hq
  | cont=>exact Dd hq
theorem ur (F:FnOk X.prog X.w X.K X.mg X.base CX k f fd ps sp) (hr:Room k X.A) (hg:Gl X x) (hm:X.mg x=some (.ref f)) (hk:PySem.W.keepIn X.K (.ref f)=true) (hb:Binds X.K fd ps ds) (hd:Vals dvs ds) (hx:nh CX X E)
  (ha:PA X (e::es) t) (hdb:(x == ("__debug__" :Str))=false:=by decide) (he:starEach (e::es) X.env=(false,eval e X.env)::starEach es X.env:=by rfl) (hpl:(backTo pos (starEach es X.env)).any (·.1)=false:=by rfl):
  PE X (.Call (.Name x p) (e::es) [] pos) (aS sp dvs E t):=by
 intro pins s σ H Q I h
 refine Ey (o6 I hg hm ?_ hdb)
 refine PySem.W.callWith_K (h₀:=X.base) I.ok.mod.kin hk (bM (ha pos pins s σ H _ I h) fun us s1 ⟨vs,H1,I1,r,q⟩=>⟨I1.kIn,?_⟩) he hpl
 exact wA F hr hb hd hx I1 r q
end
structure FnScope (N P:List Str) (sc:Dj):Prop where
 kind:sc.kind=.function
 co:sc.isCoroutine=false
 gen:sc.isGenerator=false
 nd:N.Nodup
 pre:N.take P.length=P
 par:∀x∈P,sc.names.lookup x=some .local\/sc.names.lookup x=some .cell
 nofree:∀y∈sc.names,y.2≠.free
theorem jH {kindOf:Str->Option CY} {x:Str} :∀{binds:List (Str×Am)} {m:Str->Option Am},(∀v,(x,v)∉binds)->bindL kindOf binds m x=m x
 | [],_,_=>rfl
 | (n, v) :: r, m, h => by
  unfold bindL
  rw[jH fun w hw=>h w (AN _ hw)]
  split
  ·have:x≠n:=by rintro rfl;exact h v AJ
   simp[this]
  ·rfl
theorem jI {kindOf:Str->Option CY} {x:Str} :∀{binds:List (Str×Am)} {m:Str->Option Am},(∀v,(x,v)∉binds)->bindC kindOf binds m x=m x
 | [],_,_=>rfl
 | (n, v) :: r, m, h => by
  unfold bindC
  rw[jI fun w hw=>h w (AN _ hw)]
  split
  ·rfl
  ·have:x≠n:=by rintro rfl;exact h v AJ
   simp[this]
theorem jJ {kindOf:Str->Option CY} {x:Str} {v:Am} :∀{P:List Str} {vs:List Am} {i:Nat} {m:Str->Option Am},P.Nodup->P[i]? =some x->vs[i]? =some v->kindOf x=some .local->
  bindL kindOf (P.zip vs) m x=some v
 | [],_,_,_,_,h,_,_=>by simp at h
 | _::_,[],_,_,_,_,h,_=>by simp at h
 | p :: P, w :: vs, 0, m, nd, h1, h2, hk => by
  simp at h1 h2;subst h1;subst h2
  show bindL kindOf ((p,w)::P.zip vs) m p=_
  unfold bindL
  rw[jH fun v hv=>(C7.mp nd).1 (DH hv).1,if_pos hk]
  simp
 | p :: P, w :: vs, i + 1, m, nd, h1, h2, hk => by
  show bindL kindOf ((p,w)::P.zip vs) m x=_
  unfold bindL
  exact jJ (i:=i) (C7.mp nd).2 (by simpa using h1) (by simpa using h2) hk
theorem jK {kindOf:Str->Option CY} {x:Str} {v:Am} :∀{P:List Str} {vs:List Am} {i:Nat} {m:Str->Option Am},P.Nodup->P[i]? =some x->vs[i]? =some v->kindOf x≠some .local->
  bindC kindOf (P.zip vs) m x=some v
 | [],_,_,_,_,h,_,_=>by simp at h
 | _::_,[],_,_,_,_,h,_=>by simp at h
 | p :: P, w :: vs, 0, m, nd, h1, h2, hk => by
  simp at h1 h2;subst h1;subst h2
  show bindC kindOf ((p,w)::P.zip vs) m p=_
  unfold bindC
  rw[jI fun v hv=>(C7.mp nd).1 (DH hv).1,if_neg hk]
  simp
 | p :: P, w :: vs, i + 1, m, nd, h1, h2, hk => by
  show bindC kindOf ((p,w)::P.zip vs) m x=_
  unfold bindC
  exact jK (i:=i) (C7.mp nd).2 (by simpa using h1) (by simpa using h2) hk
def start (N:List Str) (vs:List V):St:=vs.map some++Ct (N.length- vs.length) none
def pP (CX:CXT) (P:AI) (w:AQ) (K:PySem.W.Frag) (mg:Str->Option Am) (base:Heap) (N:List Str) (qual:Str) (scope:Dj) (f:Addr) (cd:Am) (A:Bo) (outer:List Env) (s:Ap) (H:Hp) (E:XK):Cx where
 prog:=P
 w:=w
 K:=K
 mg:=mg
 base:=base
 A:=A.deeper (envOfC qual scope s.heap.objs.size f cd)
 N:=N
 s₀:=s
 H₀:=H
 env:=envOfC qual scope s.heap.objs.size f cd
 outer:=outer
 stack:=envOfC qual scope s.heap.objs.size f cd::outer
 ex:=[]
 calm:=true
 fn:=fun _=>true
 pn:=[]
 xe:=fun e s'=>wpAny (model P w) (A.deeper (envOfC qual scope s.heap.objs.size f cd)) (leaving (envOfC qual scope s.heap.objs.size f cd) e) (fun _ s''=>CX outer H s E e s'') (fun e' s''=>CX outer H s E e' s'') s'
theorem lB {sc:Dj} {n:Nat} {x:Str} (h:sc.names.lookup x=some .cell):∃c,(cellsFrom n sc.names []).lookup x=some c:=by
 have q:=PySem.W.cellsFrom_some sc.names n [] (.inl h)
 exact F2.mp q
theorem pQ {CX:CXT} {P:AI} {w:AQ} {K:PySem.W.Frag} {mg:Str->Option Am} {base:Heap} {N ps:List Str} {qual:Str} {scope:Dj} {f:Addr} {cd:Am} {A:Bo} {outer:List Env} {s s1:Ap} {H:Hp} {E:XK} {us:List Am} {vs:List V}
  (S:FnScope N ps scope) (hd:A.handled=none) (e0:Env0 P w K mg base A outer s H) (hl:vs.length=ps.length) (r:Vals vs us)
  (x:InCallC s s.heap.objs.size (bindL (envOfC qual scope s.heap.objs.size f cd).kindOf (ps.zip us) fun _=>none) (cellsFrom (s.heap.objs.size+1) scope.names []) (bindC (envOfC qual scope s.heap.objs.size f cd).kindOf (ps.zip us) fun _=>none) s1):
  Inv (pP CX P w K mg base N qual scope f cd A outer s H E) [] (start N vs) H s1:=by
 have hpl:ps.length<=N.length:=by have:=congrArg Dc S.pre;rw[E2]at this;omega
 obtain⟨h1,tk,rfl,hk⟩:=x.done
 have noA:∀b:Addr,b∉(pP CX P w K mg base N qual scope f cd A outer s H E).ex:=fun b z=>absurd (show b∈([]:List Addr)from z) (by simp)
 refine⟨⟨e0.mod,S.kind,rfl,rfl,Au _,fun y z c h1 h2=>?_,fun y hy=>?_,fun y c _ h=>?_,fun _=>hd,Around.frames_deeper e0.frames,.inr ⟨rfl,rfl⟩,fun b z=>absurd z (noA b),e0.bs,e0.bsz,fun b _ _=>noA b,fun b z=>absurd z (noA b),e0.funs,e0.frf⟩,
  rfl,e0.bare,Un.kept hk,⟨_,x.toInCall.ns,fun i y v h1 h2 h3=>?_⟩,fun y c h=>⟨_,x.cell y c h⟩,e0.hok.fresh (Au _),fun y c h=>?_,fun p hp=>absurd (show p∈([]:List (Addr×Obj))from hp) (by simp),e0.hok.kept hk,?_⟩
 ·exact name_of_addr x.apart (PySem.mem_of_lookup h1) (PySem.mem_of_lookup h2)
 ·have hy:scope.names.lookup y=some .cell\/scope.names.lookup y=some .free:=hy
  rcases hy with hy | hy
  ·exact lB hy
  ·exact absurd rfl (S.nofree _ (PySem.mem_of_lookup hy))
 ·exact Dy (x.above y c (PySem.mem_of_lookup h))
 ·have hi:i< vs.length:=by
   unfold start at h2
   by_cases hi:i< vs.length
   ·exact hi
   ·rw[AL (by simpa using hi)]at h2
    rw[List.getElem?_replicate]at h2
    split at h2 <;> cases h2
  have ha:vs[i]? =some v:=by
   unfold start at h2
   rw[AU (by simpa using hi),Ay]at h2
   cases e:vs[i]? with
   | none=>rw[e]at h2;cases h2
   | some a=>rw[e]at h2;cases h2;rfl
  obtain⟨u,hu,rv⟩:=r.get ha
  have hp:ps[i]? =some y:=by
   rw[<-S.pre,Bn (by omega)];exact h1
  have ndP:ps.Nodup:=by rw[<-S.pre];exact S.nd.sublist (List.take_sublist _ _)
  refine⟨u,rv,?_⟩
  rcases S.par y (AX hp)with k | k
  ·exact .inl ⟨k,jJ ndP hp hu k⟩
  ·obtain⟨c,e⟩:=lB (n:=s.heap.objs.size+1) k
   refine .inr ⟨.inl k,c,e,?_⟩
   have q:=x.cell y c e
   rw[jK ndP hp hu (by show scope.names.lookup y≠_;rw[k];decide)]at q
   exact q
 ·exact e0.hok.fresh (Dy (x.above y c (PySem.mem_of_lookup h)))
 ·unfold start
  show _=N.length
  rw[Cq,B8,List.length_replicate]
  omega
theorem xQ {CX:CXT} {P:AI} {w:AQ} {K:PySem.W.Frag} {mg:Str->Option Am} {base:Heap} {k:Nat} {f:Addr} {name qual:Str} {params:Arguments} {body:List Stmt} {scope:Dj} {dV kV doc pm cdv ct oc:Am} {an od:Option Addr}
  {osl:Array (Option Am)} {N ps:List Str} {sp:Sp} (lk:K.lookup f=some ⟨oc,od,.func (PySem.W.fnOf name qual params body scope dV kV doc pm an cdv ct),osl⟩) (hcd:PySem.W.codeIn K cdv qual=true) (S:FnScope N ps scope)
  (len:∀vs H Q E,sp vs H Q E->vs.length=ps.length)
  (hbody:∀(A:Bo) (outer:List Env) (s:Ap) (H:Hp) (vs:List V) (Q:VK) (E:XK),Room k (A.deeper (envOfC qual scope s.heap.objs.size f cdv))->sp vs H Q E->
   ∃t,PSs (pP CX P w K mg base N qual scope f cdv A outer s H E) body t/\t {nx:=fun _ H'=>Q .non H',rt:=Q} (start N vs) H):
  FnOk P w K mg base CX (k+1) f (PySem.W.fnOf name qual params body scope dV kV doc pm an cdv ct) ps sp:=by
 refine⟨len,fun A outer s H args us vs Q E hr e0 hb r hsp=>?_⟩
 have hl:=len _ _ _ _ hsp
 have KX:K.In s.heap:=e0.mod.kin.keeps fun b o e=>(e0.bs b o e).1
 have lim:s.heap.NoLimit:=e0.mod.nolimit.keeps fun b o e=>(e0.bs b o e).1
 have hkind:∀y∈ps.zip us,scope.names.lookup y.1=some .local\/(scope.names.lookup y.1=some .cell/\((cellsFrom (s.heap.objs.size+1) scope.names []).lookup y.1).isSome=true):=fun⟨n,v⟩ hy=>by
  rcases S.par n (DH hy).1 with q | q
  ·exact .inl q
  ·exact .inr ⟨q,PySem.W.cellsFrom_some _ _ _ (.inl q)⟩
 refine codeAny_call_function hr.depth (KX _ _ lk) rfl S.co S.gen rfl (PySem.W.codeRec_of KX hcd) (hb _ _ _ _ ?_)
 refine wpAny_newFunctionEnv_cells S.kind hkind fun env he s1 x=>?_
 subst he
 refine⟨lim.keeps x.toInCall.keep,codeAny_func ?_⟩
 obtain⟨t,ht,hq⟩:=hbody A outer s H vs Q E (hr.deeper _) hsp
 have I:Inv (pP CX P w K mg base N qual scope f cdv A outer s H E) [] (start N vs) H s1:=pQ S hr.hd e0 hl r x
 refine Bv (ht [] s1 (start N vs) H _ I hq) (fun fl s' hs=>?_) fun e s' hs=>hs
 have fin:∀{σ':St} {H':Hp} {v:V} {u:Am},Inv (pP CX P w K mg base N qual scope f cdv A outer s H E) [] σ' H' s'->RelV v u->Q v H'->CE outer P w H s Q u s':=
  fun {σ' H' v u} J rv q=>⟨v,H',J.os,J.bare,J.base,J.hok,rv,q⟩
 cases fl with
 | ret u =>
  obtain⟨v,σ',H',J,rv,q⟩:=hs
  exact fin J rv q
 | next =>
  obtain⟨σ',H',J,q⟩:=hs
  exact fin (v:=V.non) (u:=BA) J rfl q
 | brk =>
  obtain⟨_,_,_,q⟩:=hs
  exact Dd q
 | cont =>
  obtain⟨_,_,_,q⟩:=hs
  exact Dd q
section
variable {X:Cx} {x:Str} {p pos:Pos} {e:Expr} {es:List Expr} {t:TA} {id T:String} {r:List V->Hp->VK->Prop}
def dA (r:List V->Hp->VK->Prop) (t:TA):TE:=fun σ H Q=>t σ H fun vs H1=>r vs H1 Q
theorem aI (hc:dv X (.builtin id) r) (hg:Gl X x) (hm:X.mg x=none) (hv:bootBuiltins x=some (.builtin id)) (ha:PA X (e::es) t) (hn:x≠"__name__" :=by decide) (hdb:(x == ("__debug__" :Str))=false:=by decide)
  (he:starEach (e::es) X.env=(false,eval e X.env)::starEach es X.env:=by rfl) (hpl:(backTo pos (starEach es X.env)).any (·.1)=false:=by rfl):PE X (.Call (.Name x p) (e::es) [] pos) (dA r t):=by
 intro pins s σ H Q I h
 refine Ey (fZ I hg hm hv ?_ hn hdb)
 exact GO (bM (ha pos pins s σ H _ I h) fun us s1 ⟨vs,H1,I1,r1,q1⟩=>hc pins s1 σ H1 vs us Q I1 r1 q1) he hpl
theorem fJ (hc:dv X (.type T) r) (hg:Gl X x) (hm:X.mg x=none) (hv:bootBuiltins x=some (.type T)) (ha:PA X (e::es) t) (hn:x≠"__name__" :=by decide) (hdb:(x == ("__debug__" :Str))=false:=by decide)
  (he:starEach (e::es) X.env=(false,eval e X.env)::starEach es X.env:=by rfl) (hpl:(backTo pos (starEach es X.env)).any (·.1)=false:=by rfl):PE X (.Call (.Name x p) (e::es) [] pos) (dA r t):=by
 intro pins s σ H Q I h
 refine Ey (fZ I hg hm hv ?_ hn hdb)
 exact Ce (bM (ha pos pins s σ H _ I h) fun us s1 ⟨vs,H1,I1,r1,q1⟩=>hc pins s1 σ H1 vs us Q I1 r1 q1) he hpl
end
end L2
open L2.PW renaming pt->Hf
open L2.RelO renaming some_of->I0
open L2.SqL renaming of->CT
open L2.SqT renaming of->HZ
open L2.V renaming int->D8,str->Eh,bl->IS
namespace HT
open PySem PyProof.Rows
section
open PySem.SeqAt
open PySem.AutoSeq1 (wpAny_loadPart')
open PySem.MeetsSeq PySem.MeetsSeq2 PySem.MeetsSeq3
end
section
variable {prog:AI} {w:AQ} {A:Bo} {E:Am->Ap->Prop} {s:Ap}
def sIx (n d:Nat):Option Int->Nat
 | none=>d
 | some v=>if v< 0 then(v+(n:Int)).toNat else min v.toNat n
theorem sIx_le (n d:Nat) (hd:d<=n) (o:Option Int):sIx n d o<=n:=by
 cases o with
 | none=>exact hd
 | some v =>
  show(if v< 0 then(v+(n:Int)).toNat else min v.toNat n)<=n
  by_cases hv:v< 0
  ·rw[if_pos hv];omega
  ·rw[if_neg hv];exact Nat.min_le_right _ _
end
end HT
namespace L2
open PySem PySem.Spec PyProof.Rows
abbrev TO:=St->Hp->(Option Int->Hp->Prop)->Prop
def PO (X:Cx) (e:Option Expr) (t:TO):Prop:=
 ∀ (pins : List (Addr × Obj)) (s : Ap) (σ : St) (H : Hp) (Q : Option Int -> Hp -> Prop), Inv X pins σ H s -> t σ H Q ->
  wpAny (model X.prog X.w) X.A (evalPart e X.env) (fun u s'=>∃o H',Inv X pins σ H' s'/\IsPart u o/\Q o H') X.xe s
def aD:TO:=fun _ H Q=>Q none H
def bo (t:TE):TO:=fun σ H Q=>t σ H fun x H1=>∃i,x=.int i/\Q (some i) H1
theorem iL {ns:List Int} :∀{us:List Am},Vals (ns.map D8) us->Gz us ns:=by
 induction ns with
 | nil=>intro us r;rw[DQ]at r;cases r;exact .nil
 | cons n ns ih =>
  intro us r
  rw[Bh]at r
  cases r with
  | cons r1 r2 =>
   obtain⟨t,e⟩:=r1
   subst e
   exact .cons n t (ih r2)
section
variable {X:Cx} {e:Expr} {te:TE} {lo hi:Option Expr} {tl th:TO} {pos p2:Pos}
theorem gi:PO X none aD:=by
 intro pins s σ H Q I h
 rw[G8]
 exact An ⟨none,H,I,.none,h⟩
theorem fK (h:PE X e te):PO X (some e) (bo te):=by
 intro pins s σ H Q I hw
 rw[evalPart_some]
 refine bM (h pins s σ H _ I hw) fun u s1 ⟨x,H1,I1,r1,q1⟩=>?_
 obtain⟨i,rfl,q⟩:=q1
 obtain⟨t,rfl⟩:=r1
 exact⟨some i,H1,I1,.int i t,q⟩
def yE (X:Cx) (r:V->Option Int->Option Int->Hp->VK->Prop):Prop:=
 ∀ (pins : List (Addr × Obj)) (s : Ap) (σ : St) (H : Hp) (x : V) (v vl vu : Am) (lo hi : Option Int) (sl : Addr) (Q : VK), Inv X pins σ H s -> RelV x v -> s.heap.IsSliceOf sl vl vu .none -> IsPart vl lo -> IsPart vu hi -> r x lo hi H Q ->
  ∃T id,typeLookup (.type T) "__getitem__" =pure (some (.builtin id))/\s.TypeIs v T/\wpAny (model X.prog X.w) X.A (getItem v (.ref sl)) (EP X pins σ Q) X.xe s
def eO (r:V->Option Int->Option Int->Hp->VK->Prop) (te:TE) (tl th:TO):TE:=fun σ H Q=>te σ H fun x H1=>tl σ H1 fun l H2=>th σ H2 fun u H3=>r x l u H3 Q
theorem fk {r:V->Option Int->Option Int->Hp->VK->Prop} (hr:yE X r) (he:PE X e te) (hl:PO X lo tl) (hu:PO X hi th):PE X (.Subscript e (.Slice lo hi none p2) pos) (eO r te tl th):=by
 intro pins s σ H Q I h
 refine Gk (bM (he pins s σ H _ I h) fun v s1 ⟨x,H1,I1,r1,q1⟩=>?_)
 refine wpAny_Slice (bM (hl pins s1 σ H1 _ I1 q1) fun vl s2 ⟨l,H2,I2,pl,q2⟩=>bM (hu pins s2 σ H2 _ I2 q2) fun vu s3 ⟨u,H3,I3,pu,q3⟩=>?_)
 rw[G8]
 refine An ?_
 have I4:Inv X pins σ H3 {s3 with heap:=s3.heap.push {cls:=.type "slice",data:=.fields #[vl,vu,.none]}} :=I3.kept (t':=s3.toks) fun b ob q=>Aq _ q
 obtain⟨T,id,hT,ht,hg⟩:=hr pins {s3 with heap:=s3.heap.push {cls:=.type "slice",data:=.fields #[vl,vu,.none]}} σ H3 x v vl vu l u s3.heap.objs.size Q I4 r1 (Gm ..) pl pu q3
 show wpAny (model X.prog X.w) X.A (subscriptTail e (.Slice lo hi none p2) v (.ref s3.heap.objs.size)) (EP X pins σ Q) X.xe {s3 with heap:=s3.heap.push {cls:=.type "slice",data:=.fields #[vl,vu,.none]}}
 exact Ii (ops:=[.ref s3.heap.objs.size,v]) ht hT hg (by with_unfolding_all rfl)
def ni (xs:List V) (lo hi:Option Int):List V:=(xs.drop (HT.sIx xs.length 0 lo)).take (HT.sIx xs.length xs.length hi- HT.sIx xs.length 0 lo)
theorem lC (xs:List V) (lo hi:Option Int):(ni xs lo hi).length<=xs.length:=by
 unfold ni
 rw[E2,GP]
 omega
end
def ixN (n:Nat) (i:Int):Option Nat:=if 0<=i then(if i< n then some i.toNat else none)else if -(n:Int)<=i then some (i+n).toNat else none
def atI {α:Type} (xs:List α) (i:Int):Option α:=(ixN xs.length i).bind fun j=>xs[j]?
theorem oi {n:Nat} {i:Int} {j:Nat} (h:ixN n i=some j):seqIndex? i n=some j/\j< n/\ -(n:Int)<=i/\i< n:=by
 unfold ixN at h
 by_cases h0:0<=i
 ·rw[if_pos h0]at h
  by_cases h1:i< n
  ·rw[if_pos h1]at h
   have e:i.toNat=j:=Bl h
   exact⟨by rw[Ha h0 h1,e],by omega,by omega,h1⟩
  ·rw[if_neg h1]at h;cases h
 ·rw[if_neg h0]at h
  by_cases h1: -(n:Int)<=i
  ·rw[if_pos h1]at h
   have e:(i+n).toNat=j:=Bl h
   exact⟨by rw[GA (by omega) h1,e],by omega,h1,by omega⟩
  ·rw[if_neg h1]at h;cases h
theorem ko {α:Type} {xs:List α} {i:Int} {v:α} (h:atI xs i=some v):∃j,seqIndex? i xs.length=some j/\xs[j]? =some v/\j< xs.length/\ -(xs.length:Int)<=i/\i< xs.length:=by
 unfold atI at h
 cases e:ixN xs.length i with
 | none=>rw[e]at h;cases h
 | some j =>
  rw[e]at h
  obtain⟨h1,h2,h3,h4⟩:=oi e
  exact⟨j,h1,h,h2,h3,h4⟩
def uv (b:Expr):Prop:=∀o i,subscripted b false o i=operate [o,i] (getItem o i)
def xu (X:Cx) (r:R2):Prop:=
 ∀ (value slice : Expr) (pins : List (Addr × Obj)) (s : Ap) (σ : St) (H : Hp) (x y : V) (v u : Am) (Q : VK), Inv X pins σ H s -> RelV x v -> RelV y u -> r x y H Q ->
  subscripted slice false v u=operate [v,u] (getItem v u)->wpAny (model X.prog X.w) X.A (subscriptTail value slice v u) (EP X pins σ Q) X.xe s
def xR (X:Cx) (id:String) (r:V->List V->Hp->VK->Prop):Prop:=
 ∀ (pins : List (Addr × Obj)) (s : Ap) (σ : St) (H : Hp) (x : V) (xs : List V) (v : Am) (us : List Am) (Q : VK), Inv X pins σ H s -> RelV x v -> Vals xs us -> r x xs H Q ->
  wpAny (model X.prog X.w) X.A (call (.builtin id) (v::us)) (EP X pins σ Q) X.xe s
section
variable {X:Cx} {a b:Expr} {ta tb:TE} {pos:Pos}
theorem ay {r:R2} (hr:xu X r) (ha:PE X a ta) (hb:PE X b tb) (hs:uv b):PE X (.Subscript a b pos) (cU r ta tb):=by
 intro pins s σ H Q I h
 exact Gk (wy ha hb I h fun v u s2 x y H2 I2 rx ry q=>hr a b pins s2 σ H2 x y v u Q I2 rx ry q (hs _ _))
def bW (K:PySem.W.Frag):R2:=fun x y H Q=>∃p xs i v,x=.ref p/\y=.int i/\SqL K H p xs/\atI xs i=some v/\Q v H
def cf (K:PySem.W.Frag):R2:=fun x y H Q=>∃p xs i v,x=.ref p/\y=.int i/\SqT K H p xs/\atI xs i=some v/\Q v H
def cx:R2:=fun x y H Q=>∃z i c,x=.str z/\y=.int i/\z.length<=sizeLine/\atI z.cps.toList i=some c/\Q (.str ⟨#[c]⟩) H
theorem uw:xu X (bW X.K):=by
 intro value slice pins s σ H x y v u Q I rx ry h hs
 obtain⟨p,xs,i,z,rfl,rfl,hq,he,q⟩:=h
 cases rx
 obtain⟨t,rfl⟩:=ry
 obtain⟨its,r,pl,hz⟩:=I.list hq
 obtain⟨j,h1,h2,h3,h4,h5⟩:=ko he
 obtain⟨w,ew,rw'⟩:=r.get h2
 have hl:=r.length
 have hn:=iK
 have fin:EP X pins σ Q w s:=⟨z,H,I,rw',q⟩
 by_cases h0:0<=i
 ·have hj:i.toNat=j:=by
   rw[Ha h0 h5]at h1
   exact Bl h1
  exact item_listR pl.isList h0 (by omega) (by rw[hj];simpa using ew) fin hs
 ·have hj:(i+(its.toArray.size:Int)).toNat=j:=by
   rw[GA (by omega) h4]at h1
   rw[AH,<-hl]
   exact Bl h1
  exact Fo (x:=w) pl.isList.typeIs ES.lookup
   (wpAny_getItem_list_neg (Q:=fun r s'=>r=w/\EP X pins σ Q r s') pl.isList (by omega) (by rw[AH] <;> omega) (by omega) (by rw[hj];simpa using ew) ⟨rfl,fin⟩) hs
theorem wB:xu X (cf X.K):=by
 intro value slice pins s σ H x y v u Q I rx ry h hs
 obtain⟨p,xs,i,z,rfl,rfl,hq,he,q⟩:=h
 cases rx
 obtain⟨t,rfl⟩:=ry
 obtain⟨its,r,pl,hz⟩:=I.tuple hq
 obtain⟨j,h1,h2,h3,h4,h5⟩:=ko he
 obtain⟨w,ew,rw'⟩:=r.get h2
 have hl:=r.length
 have hn:=iK
 have fin:EP X pins σ Q w s:=⟨z,H,I,rw',q⟩
 exact Fo (x:=w) pl.typeIs slot_tuple_getitem.lookup
  (getItem_tuple (j:=j) (Q:=fun r s'=>r=w/\EP X pins σ Q r s') pl (by omega) (by omega) (by rw[AH,<-hl];exact h1) (by simpa using ew) ⟨rfl,fin⟩) hs
theorem bP:xu X cx:=by
 intro value slice pins s σ H x y v u Q I rx ry h hs
 obtain⟨z,i,c,rfl,rfl,hz,he,q⟩:=h
 obtain⟨t,rfl⟩:=rx
 obtain⟨t',rfl⟩:=ry
 obtain⟨j,h1,h2,h3,h4,h5⟩:=ko he
 have hl:z.cps.toList.length=z.length:=by simp[ID]
 rw[hl]at h1 h4 h5
 have hn:=iK
 exact Ii (Hs s z t) slot_str_getitem.lookup (getItem_str (c:=c) (by
  have e1:decide (i< -(2^63:Int))=false:=decide_eq_false (by omega)
  have e2:decide (i≥2^63)=false:=decide_eq_false (by omega)
  rw[e1,e2,Bool.or_false]) (by rw[h1];simpa using h2) ⟨.str ⟨#[c]⟩,H,I.tok _,⟨_,rfl⟩,q⟩) hs
theorem nj (its:List Am) (n j:Nat) (u:Am):CP (·.setIfInBounds j u) {cls:=.type "list",data:=.seq its.toArray n} ={cls:=.type "list",data:=.seq (its.set j u).toArray n} :=by
 simp[CP]
theorem Inv.lst {pins:List (Addr×Obj)} {σ:St} {H:Hp} {s:Ap} {p:Addr} {xs:List V} (I:Inv X pins σ H s) (h:H p=some (.lst xs)):
  ∃(its:List Am) (n:Nat),Vals xs its/\s.heap.get? p=some {cls:=.type "list",data:=.seq its.toArray n}/\xs.length<=sizeLine:=by
 obtain⟨z,its,n,r,e⟩:=I.hok p _ h
 exact⟨its,n,r,e,z⟩
theorem Inv.lstUpd {pins:List (Addr×Obj)} {σ:St} {H:Hp} {s:Ap} {p:Addr} {xs ys:List V} {its its':List Am} {n n':Nat} {f:Obj->Obj} (I:Inv X pins σ H s) (h:H p=some (.lst xs))
  (ho:s.heap.get? p=some {cls:=.type "list",data:=.seq its.toArray n}) (hf:f {cls:=.type "list",data:=.seq its.toArray n} ={cls:=.type "list",data:=.seq its'.toArray n'}) (r:Vals ys its') (hz:ys.length<=sizeLine) (t:Nat):
  Inv X pins σ (cJ H p (.lst ys)) {s with heap:=s.heap.update p f,toks:=t} :=by
 have e:(s.heap.update p f).get? p=some {cls:=.type "list",data:=.seq its'.toArray n'} :=by
  rw[Cp f ho (by rw[hf] <;> rfl),hf]
 refine I.write (x:=p) (e:=p) (by rw[h];trivial) (.inl rfl) (fun b u hb q=>(DR _ _ (E8 hb)).trans q) ⟨_,e⟩ ?_
 exact⟨hz,its',n',r,e⟩
def rj:V->V->V->Hp->(Hp->Prop)->Prop:=fun o i v H Q=>∃p xs k j,o=.ref p/\i=.int k/\H p=some (.lst xs)/\ixN xs.length k=some j/\Q (cJ H p (.lst (xs.set j v)))
theorem gj:xK X rj:=by
 intro pins s σ H o i v ov iv u Q I ro ri rv h
 obtain⟨p,xs,k,j,rfl,rfl,hp,hj,q⟩:=h
 cases ro
 obtain⟨t,rfl⟩:=ri
 obtain⟨its,n,r,ho,hz⟩:=I.lst hp
 obtain⟨h1,h2,h3,h4⟩:=oi hj
 have hl:=r.length
 have hn:=iK
 have I':Inv X pins σ (cJ H p (.lst (xs.set j v))) {s with heap:=s.heap.update p (CP (·.setIfInBounds j u))} :=
  I.lstUpd hp ho (nj its n j u) (r.set rv j) (by rw[Hh];exact hz) s.toks
 by_cases h0:0<=k
 ·have hk:k.toNat=j:=by
   rw[Ha h0 h4]at h1
   exact Bl h1
  exact PySem.W.ki_setAt ho h0 (by omega) (by rw[AH,<-hl];exact h4) (by rw[hk];exact⟨_,I',q⟩)
 ·have hk:(k+(its.toArray.size:Int)).toNat=j:=by
   rw[GA (by omega) h3]at h1
   rw[AH,<-hl]
   exact Bl h1
  exact PySem.W.ki_setBack ho (by omega) (by rw[AH,<-hl];exact h3) (by omega) (by rw[hk];exact⟨_,I',q⟩)
theorem kq (lo hi:Option Int) (n:Nat):(sliceBounds lo hi none n).1=((HT.sIx n 0 lo:Nat):Int)/\(sliceBounds lo hi none n).2.1=((HT.sIx n n hi:Nat):Int)/\(sliceBounds lo hi none n).2.2=1:=by
 refine⟨?_,?_,rfl⟩
 ·cases lo with
  | none=>simp[sliceBounds,HT.sIx]
  | some i =>
   simp only[sliceBounds,HT.sIx,Ff,show(1:Int)> 0 by decide,if_true]
   by_cases h:i< 0
   ·simp only[h,if_true] <;> omega
   ·simp only[h,if_false] <;> omega
 ·cases hi with
  | none=>simp[sliceBounds,HT.sIx]
  | some i =>
   simp only[sliceBounds,HT.sIx,Ff,show(1:Int)> 0 by decide,if_true]
   by_cases h:i< 0
   ·simp only[h,if_true] <;> omega
   ·simp only[h,if_false] <;> omega
theorem jy (its:List Am) (lo hi:Option Int):slicePick its.toArray lo hi none=((its.drop (HT.sIx its.length 0 lo)).take (HT.sIx its.length its.length hi- HT.sIx its.length 0 lo)).toArray:=by
 obtain⟨h1,h2,h3⟩:=kq lo hi its.toArray.size
 unfold slicePick
 rw[h1,h2,h3]
 simp only[FW,pick_run,AH] <;> rfl
def cg (K:PySem.W.Frag):V->Option Int->Option Int->Hp->VK->Prop:=fun x lo hi H Q=>∃a xs,x=.ref a/\SqL K H a xs/\∀p,H p=none->Q (.ref p) (cJ H p (.lst (ni xs lo hi)))
theorem ux:yE X (cg X.K):=by
 intro pins s σ H x v vl vu lo hi sl Q I rx hs pl pu h
 obtain⟨a,xs,rfl,hx,q⟩:=h
 cases rx
 obtain⟨its,r,ht,hz⟩:=I.list hx
 have hlen:=r.length
 refine⟨"list",_,ES.lookup,ht.isList.typeIs,?_⟩
 refine F3 ht.isList hs pl pu .none (by simp) ?_ (by rw[AH] <;> omega)
 rw[jy,<-hlen]
 refine⟨.ref s.heap.objs.size,_,I.laid (t':=s.toks) (o:=.lst (ni xs lo hi)) (fun b ob q=>Aq _ q) (Au _) ?_,rfl,q _ (I.hok.fresh (Au _))⟩
 exact⟨C6 (lC xs lo hi) hz,_,0,(r.drop (HT.sIx xs.length 0 lo)).take (HT.sIx xs.length xs.length hi- HT.sIx xs.length 0 lo),Ax _ rfl⟩
def flatV:V->Bool
 | .non=>true
 | .bl _=>true
 | .int _=>true
 | .str _=>true
 | _=>false
def eqV:V->V->Bool
 | .non,.non=>true
 | .bl a,.bl b=>a == b
 | .bl a,.int b=>(if a then 1 else 0) == b
 | .int a,.bl b=>a == (if b then 1 else 0)
 | .int a,.int b=>a == b
 | .str a,.str b=>a == b
 | _,_=>false
theorem wC {A:Bo} {s:Ap} {y x:V} {u v:Am} (ry:RelV y u) (rx:RelV x v) (fy:flatV y=true) (fx:flatV x=true):IE A s u v (eqV y x):=by
 cases y with
 | non =>
  cases ry
  cases x with
  | non=>cases rx;exact IW _
  | bl b=>cases rx;exact Ij b
  | int b=>obtain⟨t,rfl⟩:=rx;exact Ip b t
  | str b=>obtain⟨t,rfl⟩:=rx;exact Iq b t
  | _=>exact absurd (show false=true from fx) AG
 | bl a =>
  cases ry
  cases x with
  | non=>cases rx;exact Ik a
  | bl b=>cases rx;exact Il a b
  | int b=>obtain⟨t,rfl⟩:=rx;exact Ir a b t
  | str b=>obtain⟨t,rfl⟩:=rx;exact Iu a b t
  | _=>exact absurd (show false=true from fx) AG
 | int a =>
  obtain⟨t',rfl⟩:=ry
  cases x with
  | non=>cases rx;exact Iw a t'
  | bl b=>cases rx;exact Iy a t' b
  | int b=>obtain⟨t,rfl⟩:=rx;exact IF a t' b t
  | str b=>obtain⟨t,rfl⟩:=rx;exact Gh a t' b t
  | _=>exact absurd (show false=true from fx) AG
 | str a =>
  obtain⟨t',rfl⟩:=ry
  cases x with
  | non=>cases rx;exact Iz a t'
  | bl b=>cases rx;exact IA a t' b
  | int b=>obtain⟨t,rfl⟩:=rx;exact Gi a t' b t
  | str b=>obtain⟨t,rfl⟩:=rx;exact IG a t' b t
  | _=>exact absurd (show false=true from fx) AG
 | _=>exact absurd (show false=true from fy) AG
def uy (x:V) (u:Am):Bool:=match u with
 | .none=>eqV .non x
 | .bool b=>eqV (.bl b) x
 | .int i _=>eqV (.int i) x
 | .str z _=>eqV (.str z) x
 | _=>false
theorem rk {x y:V} {u:Am} (r:RelV y u) (f:flatV y=true):uy x u=eqV y x:=by
 cases y with
 | non=>cases r;rfl
 | bl b=>cases r;rfl
 | int i=>obtain⟨t,rfl⟩:=r;rfl
 | str z=>obtain⟨t,rfl⟩:=r;rfl
 | _=>exact absurd (show false=true from f) AG
theorem ku {x:V} :∀{xs:List V} {us:List Am},Vals xs us->xs.all flatV=true->us.any (uy x)=xs.any fun y=>eqV y x
 | _,_,.nil,_=>rfl
 | y :: xs, u :: us, .cons r t, f => by
  rw[HD,E3]at f
  rw[E9,E9,rk r f.1,ku t f.2]
theorem iM {A:Bo} {s:Ap} {x:V} {v:Am} (rx:RelV x v) (fx:flatV x=true):∀{xs:List V} {us:List Am},Vals xs us->xs.all flatV=true->∀u∈us,IE A s u v (uy x u)
 | _,_,.nil,_=>fun u hu=>by cases hu
 | y :: xs, u :: us, .cons r t, f => fun u' hu => by
  rw[HD,E3]at f
  rcases AR.mp hu with rfl | hu
  ·rw[rk r f.1];exact wC r rx f.1 fx
  ·exact iM rx fx t f.2 u' hu
def yF (x:V) (xs:List V):Bool:=xs.any fun y=>eqV y x
def f9 (K:PySem.W.Frag) (neg:Bool):R2:=fun x y H Q=>∃p xs,y=.ref p/\(SqL K H p xs\/SqT K H p xs)/\flatV x=true/\xs.all flatV=true/\Q (.bl (if neg then !yF x xs else yF x xs)) H
theorem kA:OpR X (compareOp .NotIn) (f9 X.K true):=by
 intro pins s σ H x y v u Q I rx ry h
 obtain⟨p,xs,rfl,hq,fx,fs,q⟩:=h
 cases ry
 rcases hq with hq | hq
 ·obtain⟨its,r,pl,hz⟩:=I.list hq
  refine SeqAt.notIn_listAt (uy x) pl.isList (fun w hw=>iM rx fx r fs w (by simpa using hw)) ⟨.bl _,H,I,rfl,?_⟩
  rw[show its.toArray.any (uy x)=its.any (uy x) by simp,ku r fs]
  exact q
 ·obtain⟨its,r,pl,hz⟩:=I.tuple hq
  refine SeqAt.notIn_tupleAt (uy x) pl (fun w hw=>iM rx fx r fs w (by simpa using hw)) ⟨.bl _,H,I,rfl,?_⟩
  rw[show its.toArray.any (uy x)=its.any (uy x) by simp,ku r fs]
  exact q
theorem kB:dv X (.type "list") (fun xs H Q=>∃p ys,xs=[.ref p]/\(SqL X.K H p ys\/SqT X.K H p ys)/\∀l,H l=none->Q (.ref l) (cJ H l (.lst ys))):=by
 intro pins s σ H xs us Q I r h
 obtain⟨p,ys,rfl,hq,q⟩:=h
 obtain⟨u,rfl,rx⟩:=f6 r
 cases rx
 have fin:∀(its:List Am),Vals ys its->ys.length<=sizeLine->∀(h':Heap) (c':Nat),(∀b o',s.heap.get? b=some o'->h'.get? b=some o')->
   h'.get? s.heap.objs.size=some {cls:=.type "list",dict:=none,data:=.seq its.toArray c',slots:= #[]}->EP X pins σ Q (.ref s.heap.objs.size) {s with heap:=h'} :=fun its r' hz h' c' kp e=>
  ⟨.ref s.heap.objs.size,_,I.laid (t':=s.toks) kp (Au _) (show ObjOk X.prog X.w _ h' _ (.lst ys)from⟨hz,its,c',r',e⟩),rfl,q _ (I.hok.fresh (Au _))⟩
 rcases hq with hq | hq
 ·obtain⟨its,r',pl,hz⟩:=I.list hq
  have hlen:=r'.length
  obtain⟨o,ho,hc,n,hd⟩:=pl.isList
  exact HE p (.inl rfl) ho hc hd (fun h' c' kp e=>fin its r' hz h' c' kp e) (by simp only[AH] <;> omega)
 ·obtain⟨its,r',pl,hz⟩:=I.tuple hq
  have hlen:=r'.length
  obtain⟨o,ho,hc,n,hd⟩:=pl
  exact HE p (.inr rfl) ho hc hd (fun h' c' kp e=>fin its r' hz h' c' kp e) (by simp only[AH] <;> omega)
theorem jz:dv X (.type "tuple") (fun xs H Q=>∃p ys,xs=[.ref p]/\((SqL X.K H p ys/\∀l,H l=none->Q (.ref l) (cJ H l (.tup ys)))\/(SqT X.K H p ys/\Q (.ref p) H))):=by
 intro pins s σ H xs us Q I r h
 obtain⟨p,ys,rfl,h⟩:=h
 obtain⟨u,rfl,rx⟩:=f6 r
 cases rx
 rcases h with⟨hq,q⟩ | ⟨hq,q⟩
 ·obtain⟨its,r',pl,hz⟩:=I.list hq
  have hlen:=r'.length
  refine call_tuple_list pl.isList (fun h' kp=>?_) (by simp only[AH] <;> omega)
  have I1:Inv X pins σ H {s with heap:=h'} :=I.kept (t':=s.toks) kp
  have I2:Inv X pins σ (cJ H h'.objs.size (.tup ys)) {s with heap:=h'.push {cls:=.type "tuple",data:=.seq its.toArray}} :=
   I1.laid (t':=s.toks) (fun b o e=>Aq _ e) (Au _) (show ObjOk X.prog X.w _ _ _ (.tup ys)from⟨hz,its,r',IsTupD.new _ _⟩)
  exact⟨.ref h'.objs.size,_,I2,rfl,q _ (I1.hok.fresh (Au _))⟩
 ·obtain⟨its,r',pl,hz⟩:=I.tuple hq
  exact call_tuple_same pl ⟨.ref p,H,I,rfl,q⟩
def zv (K:PySem.W.Frag) (T:String) (x:V) (H:Hp):Prop:=match x with
 | .str _=>T="str"
 | .int _=>T="int"
 | .ref p=>(T="list" /\∃xs,SqL K H p xs)\/(T="tuple" /\((∃o,K.lookup p=some o/\o.cls=.type "tuple" /\o.dict=none)\/∃xs,SqT K H p xs))\/
   (T="dict" /\((∃kvs,H p=some (.dK kvs))\/∃kvs,H p=some (.dT kvs)))\/(T="set" /\∃S n,H p=some (.set S n))
 | _=>False
theorem wD {pins:List (Addr×Obj)} {σ:St} {H:Hp} {s:Ap} {T:String} {x:V} {v:Am} (I:Inv X pins σ H s) (r:RelV x v) (ty:zv X.K T x H):
  s.TypeIs v T/\∀a,v=.ref a->∃ob,s.heap.get? a=some ob/\ob.dict=none:=by
 cases x with
 | str z =>
  obtain⟨t,rfl⟩:=r
  cases (show T="str" from ty)
  exact⟨Hs s z t,fun _ e=>nomatch e⟩
 | int i =>
  obtain⟨t,rfl⟩:=r
  cases (show T="int" from ty)
  exact⟨typeIs_int s i t,fun _ e=>nomatch e⟩
 | ref p =>
  cases r
  rcases ty with⟨rfl,xs,hq⟩ | ⟨rfl,⟨o,hk,hc,hd⟩ | ⟨xs,hq⟩⟩ | ⟨rfl,hk⟩ | ⟨rfl,S,n,hk⟩
  ·obtain⟨its,_,pl,_⟩:=I.list hq
   refine⟨pl.isList.typeIs,fun a e=>?_⟩
   cases e
   obtain⟨o,n,e,c,hd,_⟩:=pl
   exact⟨o,e,hd⟩
  ·refine⟨⟨o,I.kIn p o hk,hc⟩,fun a e=>?_⟩
   cases e
   exact⟨o,I.kIn _ o hk,hd⟩
  ·obtain⟨o,e1,c1,d1⟩:∃o,s.heap.get? p=some o/\o.cls=.type "tuple" /\o.dict=none:=by
    rcases hq with hq | ⟨o,its,n,hk,hc,_⟩
    ·obtain⟨_,_,_,o,e1,⟨c1,d1⟩,_⟩:=hq.ok I.hok
     exact⟨o,e1,c1,d1⟩
    ·exact⟨o,I.kIn p o hk,hc.1,hc.2⟩
   refine⟨⟨o,e1,c1⟩,fun a e=>?_⟩
   cases e
   exact⟨o,e1,d1⟩
  ·have z:∃o,s.heap.get? p=some o/\o.ExactDict:=by
    rcases hk with⟨kvs,hk⟩ | ⟨kvs,hk⟩
    ·obtain⟨_,_,_,_,o,_,_,e,ex,_⟩:=I.hok p _ hk
     exact⟨o,e,ex⟩
    ·obtain⟨_,_,_,_,o,_,_,e,ex,_⟩:=I.hok p _ hk
     exact⟨o,e,ex⟩
   obtain⟨o,e,ex⟩:=z
   refine⟨⟨o,e,ex.1⟩,fun a e2=>?_⟩
   cases e2
   exact⟨o,e,ex.2.1⟩
  ·obtain⟨o,_,_,_,e,ex,_⟩:=I.hok p _ hk
   refine⟨⟨o,e,ex.1⟩,fun a e2=>?_⟩
   cases e2
   exact⟨o,e,ex.2.1⟩
 | _=>exact Dd ty
def dO (K:PySem.W.Frag) (T:String) (r:V->List V->Hp->VK->Prop) (to:TE) (t:TA):TE:=fun σ H Q=>to σ H fun x H1=>zv K T x H1/\t σ H1 fun xs H2=>r x xs H2 Q
variable {o e:Expr} {es:List Expr} {to:TE} {t:TA} {name:Str} {apos cpos:Pos} {T id:String} {r:V->List V->Hp->VK->Prop}
theorem xT (pa:PlainAttrs T) (slot:Slot T name id) (hty:typeOf (.builtin id)=pure (.type "method_descriptor")) (hm:xR X id r) (ho:PE X o to) (ha:PA X (e::es) t)
  (hbase:attributeBase o name X.env (eval o X.env)=eval o X.env:=by rfl)
  (hfew:((backTo cpos (starEach (e::es) X.env)).all (fun x=> !x.1) && (backToKw cpos (keywordEach [] X.env)).all (fun x=>x.1.isSome)
   && decide ((e::es).length+([]:List Fp).length+(if([]:List Fp).isEmpty then 0 else 1)< 30))=true:=by rfl)
  (hline:(apos.endLine == cpos.line)=true:=by rfl) (hs:starEach (e::es) X.env=(false,eval e X.env)::starEach es X.env:=by rfl) (hplain:(backTo cpos (starEach es X.env)).any (·.1)=false:=by rfl):
  PE X (.Call (.Attribute o name apos) (e::es) [] cpos) (dO X.K T r to t):=by
 intro pins s σ H Q I h
 refine Fq hbase hfew hline rfl (bM (ho pins s σ H _ I h) fun v s1 ⟨x,H1,I1,r1,ty,q1⟩=>?_)
 obtain⟨h1,h2⟩:=wD I1 r1 ty
 refine⟨T,id,pa,slot,hty,h1,h2,?_⟩
 have hA:=ha cpos pins s1 σ H1 _ I1 q1
 rw[hs]at hA ⊢
 refine Calls.callWith_builtin (by show(false || (backTo cpos (starEach es X.env)).any (·.1))=false;rw[hplain] <;> rfl) (Calls.evalArgs_plain ?_)
 exact bM hA fun us s2 ⟨vs,H2,I2,r2,q2⟩=>hm pins s2 σ H2 x vs v us Q I2 r1 r2 q2
end
def zK (X:Cx) (id:String) (r:V->List V->Hp->VK->Prop):Prop:=
 ∀ (pins : List (Addr × Obj)) (s : Ap) (σ : St) (H : Hp) (x : V) (xs : List V) (v : Am) (us : List Am) (Q : VK), Inv X pins σ H s -> RelV x v -> Vals xs us -> r x xs H Q ->
  wpAny (model X.prog X.w) X.A (call (.builtin id) (v::us)) (EP X pins σ Q) X.xe s
theorem Vals.one:∀{x:V} {us:List Am},Vals [x] us->∃u,us=[u]/\RelV x u
 | _,_,.cons r .nil=>⟨_,rfl,r⟩
section
variable {X:Cx} {pins:List (Addr×Obj)} {σ:St} {H:Hp} {s:Ap} {l b:Addr} {xs ys zs:List V}
theorem Inv.lset {its its':List Am} {n:Nat} {f:Array Am->Array Am} {t':Nat} (I:Inv X pins σ H s) (hH:H l=some (.lst xs))
  (e:s.heap.get? l=some {cls:=.type "list",data:=.seq its.toArray n}) (hf:f its.toArray=its'.toArray) (hv:Vals ys its') (hz:ys.length<=sizeLine):
  Inv X pins σ (cJ H l (.lst ys)) {s with heap:=s.heap.update l (CP f),toks:=t'} :=by
 have q:=PySem.IsL.update e f
 rw[hf]at q
 refine I.write (x:=l) (e:=l) (by rw[hH];exact trivial) (.inl rfl) (fun b' u hb hu=>(DR s.heap (CP f) (E8 hb)).trans hu) ⟨_,q⟩ ?_
 exact⟨hz,its',_,hv,q⟩
theorem Inv.lnew {its:List Am} {t':Nat} (I:Inv X pins σ H s) (hv:Vals ys its) (hz:ys.length<=sizeLine):
  Inv X pins σ (cJ H s.heap.objs.size (.lst ys)) {s with heap:=s.heap.push {cls:=.type "list",data:=.seq its.toArray},toks:=t'} :=
 I.laid (fun _ _ q=>Aq _ q) (Au _) ⟨hz,its,0,hv,Ax _ rfl⟩
theorem Inv.fresh (I:Inv X pins σ H s):H s.heap.objs.size=none:=I.hok.fresh (Au _)
theorem Inv.lstM (I:Inv X pins σ H s) (hH:H l=some (.lst xs)):xs.length<=sizeLine/\∃(its:List Am) (n:Nat),Vals xs its/\xs.length=its.length/\s.heap.get? l=some {cls:=.type "list",data:=.seq its.toArray n} :=by
 obtain⟨z,its,n,r,e⟩:=I.hok l _ hH
 exact⟨z,its,n,r,r.length,e⟩
end
section
variable {X:Cx}
def aw:V->List V->Hp->VK->Prop:=fun x vs H Q=>∃l xs y,x=.ref l/\vs=[y]/\H l=some (.lst xs)/\xs.length< sizeLine/\Q .non (cJ H l (.lst (xs++ [y])))
theorem pR:zK X "list.append" aw:=by
 intro pins s σ H x vs v us Q I rx rv h
 obtain⟨l,xs,y,rfl,rfl,hH,hz,q⟩:=h
 cases rx
 obtain⟨u,rfl,ru⟩:=rv.one
 obtain⟨z,its,n,r,hl,e⟩:=I.lstM hH
 refine call_meets F.slot_list_append ⟨_,e,rfl⟩ F.entry_list_append (F.args_list_append_2 _ _) (PySem.list_append l its.toArray n u (by rw[AH];omega)) ⟨e,?_⟩
 refine⟨.non,_,I.lset (its':=its++ [u]) hH e (by simp) (r.append (.cons ru .nil)) ?_,rfl,q⟩
 rw[Cq,FG]
 omega
def cy:R2:=fun x y H Q=>∃l b xs zs,x=.ref l/\y=.ref b/\H l=some (.lst xs)/\H b=some (.lst zs)/\xs.length+zs.length<=sizeLine/\∀p,H p=none->Q (.ref p) (cJ H p (.lst (xs++zs)))
theorem rl:OpR X (binaryOp .Add) cy:=by
 intro pins s σ H x y v u Q I rx ry h
 obtain⟨l,b,xs,zs,rfl,rfl,hH,hB,hz,q⟩:=h
 cases rx
 cases ry
 obtain⟨z,its,n,r,hl,e⟩:=I.lstM hH
 obtain⟨z2,its2,n2,r2,hl2,e2⟩:=I.lstM hB
 refine PySem.P.add_list e e2 ?_ (by rw[AH,AH];omega)
 have ea:its.toArray++its2.toArray=(its++its2).toArray:=by simp
 rw[ea]
 exact⟨.ref _,_,I.lnew (t':=s.toks) (r.append r2) (by rw[Cq];omega),rfl,q _ I.fresh⟩
end
section
variable {κ:Type} [DecidableEq κ]
def gb (kvs:List (κ×V)) (k:κ):Option V:=(kvs.find? fun kv=>decide (kv.1=k)).map (·.2)
def pS (kvs:List (κ×V)) (k:κ) (v:V):List (κ×V):=
 if(kvs.any fun kv=>decide (kv.1=k))=true then kvs.map (fun kv=>if kv.1=k then(kv.1,v)else kv)else kvs++ [(k,v)]
theorem fo {p:κ×V} {r:List (κ×V)} {k:κ} (e:p.1=k):gb (p::r) k=some p.2:=by simp[gb,C8,e]
theorem fq {p:κ×V} {r:List (κ×V)} {k:κ} (e:¬p.1=k):gb (p::r) k=gb r k:=by simp[gb,C8,e]
theorem lD (k:κ):∀kvs:List (κ×V),(kvs.any fun kv=>decide (kv.1=k))=(gb kvs k).isSome
 | []=>rfl
 | p :: r => by
  rw[E9]
  by_cases e:p.1=k
  ·simp only[fo e,decide_eq_true e,Bool.true_or,Gn]
  ·rw[fq e,decide_eq_false e,HF];exact lD k r
theorem RelO.isSome_eq {o:Option V} {u:Option Am} (r:RelO o u):o.isSome=u.isSome:=by
 cases o with
 | none => cases u with
  | none=>rfl
  | some _=>exact(show False from r).elim
 | some _ => cases u with
  | none=>exact(show False from r).elim
  | some _=>rfl
theorem KV.val {kvs:List (κ×V)} {vs:List (κ×Am)} (r:KV kvs vs) (k:κ):RelO (gb kvs k) (valueAt vs k):=by
 unfold KV at r
 induction r with
 | nil=>exact Du
 | @cons p q ps qs h t ih =>
  obtain⟨h1,h2⟩:=h
  by_cases e:p.1=k
  ·have e':q.1=k:=h1.symm.trans e
   have b:valueAt (q::qs) k=some q.2:=by simp[valueAt,C8,e']
   rw[fo e,b];exact h2
  ·have e':¬q.1=k:=fun z=>e (h1.trans z)
   have b:valueAt (q::qs) k=valueAt qs k:=by simp[valueAt,C8,e']
   rw[fq e,b];exact ih
end
theorem vX {P:AI} {w:AQ} {k:Key} {u:Am} (r:RelV (kV k) u):(mixKind P w).is k u=true:=by
 cases k with
 | inl i=>obtain⟨t,e⟩:=(show ∃t,u=Fd i t from r);subst e;exact ll P w i t
 | inr x=>obtain⟨t,e⟩:=(show ∃t,u=GL x t from r);subst e;exact lq P w x t
theorem jL {P:AI} {w:AQ} :∀{ks:List Key} {us:List Am},Vals (ks.map kV) us->ItemsAre (mixKind P w) ks us
 | [],_,r=>by rw[DQ]at r;cases r;exact .nil
 | k :: ks, _, r => by
  rw[Bh]at r
  cases r with
  | cons h t=>exact .cons (vX h) (jL t)
section
variable {X:Cx} {pins:List (Addr×Obj)} {σ:St} {H:Hp} {s:Ap} {a:Addr} {y v:V} {u r:Am} {o:Option V} {A:Bo} {E:Am->Ap->Prop}
theorem Inv.big (I:Inv X pins σ H s):sysModules< s.heap.objs.size:=by
 have h:mainGlobals< s.heap.objs.size:=(I.mod.glob.keeps I.bk).lt
 exact Fs (by decide) h
theorem uz {h':Heap} {t':Nat} {ob:HO} (I:Inv X pins σ H s) (mu:xG (H a)) (hs:Bf a s.heap h') (he:∃q,h'.get? a=some q) (new:ObjOk X.prog X.w (cJ H a ob) h' a ob):
  Inv X pins σ (cJ H a ob) {s with heap:=h',toks:=t'} :=
 I.write (x:=a) (e:=a) mu (.inl rfl) (fun b q hb z=>(hs.2 b hb).trans z) he new
end
def rm (i:Expr):Prop:=∀ov iv,subscripted i false ov iv=operate [ov,iv] (getItem ov iv)
theorem oj {prog:AI} {w:AQ} {A:Bo} {E:Am->Ap->Prop} {s:Ap} {env:Env} {value slice:Expr} {pos:Pos} {T id:String} {Q:Am->Ap->Prop}
  (hl:typeLookup (.type T) "__getitem__" =pure (some (.builtin id))) (hs:rm slice)
  (h:wpAny (model prog w) A (eval value env) (fun o s₁=>wpAny (model prog w) A (eval slice env) (fun i s₂=>s₂.TypeIs o T/\wpAny (model prog w) A (getItem o i) Q E s₂) E s₁) E s):
  wpAny (model prog w) A (eval (.Subscript value slice pos) env) Q E s:=by
 refine Gk (Bv h (fun o s₁ h₁=>Bv h₁ (fun i s₂ h₂=>?_) fun _ _ x=>x) fun _ _ x=>x)
 obtain⟨hT,h₂⟩:=h₂
 unfold subscriptTail
 refine Aj ?_
 rw[getitemInPython_of_ne hT.not_modules]
 refine Aj (Ei hT hl ?_)
 have fin:wpAny (model prog w) A (subscripted slice false o i) (fun r s₃=>wpAny (model prog w) A (letTemporaryGo value o r >>= fun _=>pure r) Q E s₃) E s₂:=by
  rw[hs o i]
  exact wpAny_operating (Bv h₂ (fun r s₃ h₃=>Aj (wpAny_letTemporaryGo (An h₃))) fun _ _ x=>x)
 first
  | exact An (Aj fin)
  | exact Aj (An (Aj fin))
  | exact Aj fin
end L2
namespace Att
open PySem PySem.W PySem.Calls PyProof.Rows
theorem ik {P:IH} {h:Heap} :∀(ns:List Int) (vs:List Am),WellAll P h vs (ns.map IP)->Gz vs ns:=by
 intro ns
 induction ns with
 | nil =>
  intro vs w
  rw[DQ]at w
  cases w
  exact .nil
 | cons n ns ih =>
  intro vs w
  rw[Bh]at w
  cases w with
  | cons a b =>
   cases a
   exact .cons _ _ (ih _ b)
theorem pT {l:OpenLaw} {n:Nat} (hn:l.most=some n) {P:IH} {h:Heap} {args:List WData} {vals:List Am}
  (hpre:l.row.toRowW.claim.pre args=true) (hwl:WellAll P h vals args):
  ∃a vs ns,vals=[Bx a]/\args=[WData.list (ns.map IP)]/\h.get? a=some {cls:=.type "list",data:=.seq vs.toArray}/\Gz vs ns/\ns.length<=n:=by
 have hsh:WShape.hasAll [] args [.list .int]=true:=(pre_splitW hpre).1
 have hc:l.pre.holds [] {args:=args} =true:=(pre_splitW hpre).2
 obtain⟨d,r,rfl,h1,h2⟩:=hasAllW_cons hsh
 obtain rfl:=hasAllW_nil h2
 obtain⟨xs,rfl,h3⟩:=hasW_list h1
 obtain⟨ns,rfl⟩:=items_int h3
 have hlen:ns.length<=n:=by
  unfold OpenLaw.pre at hc
  have h4:(WTm.not (.lt (.lit (.int (n:Int))) (.len (.arg 0)))).holds [] {args:=[.list (ns.map .int)]} =true:=by
   have h4:=(holds_andW hc).1
   rw[hn]at h4
   exact h4
  have h5:=condW_of h4 (w_not (w_lt w_lit (w_len_list (w_arg rfl))))
  rw[B8]at h5
  refine Nat.le_of_not_lt fun q=>?_
  have q':(n:Int)< ((ns.length:Nat):Int):=by omega
  first
   | (rw[decide_eq_true q']at h5;exact absurd h5 (by decide))
   | (simp at h5;omega)
 cases hwl with
 | cons w1 w2 =>
  cases w2
  cases w1 with
  | list ho hall=>exact⟨_,_,ns,rfl,rfl,ho,ik ns _ hall,hlen⟩
theorem pU (l:OpenLaw) (args:List WData):l.row.toRowW.claim.post args (.bool true) args=true:=
 postW_of (r:=l.row.toRowW) (X:=(true == true))
  (show II [] (.bool true) .bool=true by first | rfl | decide | simp[II,WShape.arms,WShape.armsAll])
  (show(WTm.eq .res (.lit (.bool true))).value [] {args:=args,res:=some (.bool true),after:=args} =some (.bool (true == true))from w_eq_bool (w_res rfl) w_lit) rfl
theorem attach_call {l:OpenLaw} {n:Nat} {q:AI} {loose:List Str} {XP:(Str->Option Am)->Heap->Prop} {YP:AQ->Heap->Prop} {d:DefRec}
  (hn:l.most=some n) (hdf:d.params.defaults=[])
  (call:∀(w:AQ) (s₀ s₁:Ap) (mg mb:Str->Option Am) (fa:Addr) (o:Obj) (pm cd doc:Am) (a:Addr) (vs:List Am) (ns:List Int),
   Ground q loose [] XP w s₀ mg mb s₁.heap->YP w s₁.heap->
   s₁.heap.get? fa=some o->o.data=.func (docDef d.name d.params d.body d.scope pm cd doc)->s₁.heap.CodeRec cd d.name->mg d.name=some (.ref fa)->
   s₁.heap.get? a=some {cls:=.type "list",data:=.seq vs.toArray}->Gz vs ns->ns.length<=n->s₁.gens= #[]->
   codeAny (model l.prog w) callerA (.call (.ref fa) ⟨[.ref a],[]⟩) (fun r s'=>r=.ok (.ret (.bool true))/\OldK s₁.heap s'.heap/\s'.os=s₁.os/\EO s'.gens) s₁):
  WalkO q loose XP YP l.row.toRowW d [] (fun f vs=>PySem.call f vs):=by
 intro w s₀ s₁ mg mb G Y fa o pm cd doc dV kV ho hd hcd hD hmg hg args vals as hpre hlay hrd hwl hlo
 obtain rfl:dV=.none:=Dflts.none hD hdf
 obtain rfl:kV=.none:=Dflts.noKw hD
 obtain⟨a,vs,ns,rfl,rfl,hobj,hints,hlen⟩:=pT hn hpre hwl
 refine enter_call (Es (call w s₀ s₁ mg mb fa o pm cd doc a vs ns G Y ho (fd_plain hd) hcd hmg hobj hints hlen hg) fun r s' hq=>?_)
 obtain⟨rfl,h2,h3,h4⟩:=hq
 exact⟨.inl ⟨.bool true,.bool true,[],rfl,fun _=>rfl,.bool true,pU l _,fun _=>⟨Dp,fun _ hm=>(nomatch hm)⟩⟩,h2,h3,h4⟩
end Att
namespace L2
open PySem PySem.Spec PyProof.Rows
theorem gR:∀{vs:List Am} {ns:List Int},Gz vs ns->Vals (ns.map D8) vs
 | _,_,.nil=>.nil
 | _,_,.cons n t h=>.cons ⟨t,rfl⟩ (gR h)
def wF (H:Hp):Prop:=∀b,H b=none\/∃o xs,H b=some (.frz o (.lst xs))
theorem rn {P:AI} {w:AQ} {K:PySem.W.Frag} {mg mb:Str->Option Am} {CX:CXT} {k:Nat} {fa a:Addr} {fd:AZ} {x:Str} {sp:Sp} {s₁:Ap} {vs:List Am} {ns:List Int}
  (KX:K.In s₁.heap) (hns:s₁.heap.Ns mainGlobals mg) (hb:s₁.heap.Ns builtinsNs mb) (hbb:∀x:Str,x≠"__name__" ->mb x=bootBuiltins x) (hlim:s₁.heap.NoLimit) (hg:s₁.gens= #[])
  (ha:s₁.heap.get? a=some {cls:=.type "list",data:=.seq vs.toArray}) (hi:Gz vs ns) (hl:ns.length<=sizeLine) (hr:Room k callerA)
  (F:∀base:Heap,K.In base->base.Ns mainGlobals mg->FnOk P w K mg base CX k fa fd [x] sp) (hbind:∀(s:Ap) (u:Am),Gy s fd ⟨[u],[]⟩ [(x,u)])
  (hsp:∀H:Hp,wF H->SqL K H a (ns.map D8)->sp [.ref a] H (fun v _=>v=.bl true) fun _ _ _=>False)
  (hCX:∀H e s',CX [] H s₁ (fun _ _ _=>False) e s'->False):
  codeAny (model P w) callerA (.call (.ref fa) ⟨[.ref a],[]⟩) (fun r s'=>r=.ok (.ret (.bool true))/\OldK s₁.heap s'.heap/\s'.os=s₁.os/\EO s'.gens) s₁:=by
 have rv:=gR hi
 have lenV:=hi.length
 have core:∀H:Hp,wF H->SqL K H a (ns.map D8)->HOk P w H s₁.heap->(∀b,H b≠none->b=a)->(H a≠none->K.lookup a=none)->
   codeAny (model P w) callerA (.call (.ref fa) ⟨[.ref a],[]⟩) (fun r s'=>r=.ok (.ret (.bool true))/\OldK s₁.heap s'.heap/\s'.os=s₁.os/\EO s'.gens) s₁:=by
  intro H hO hS hok hA hK
  have base_of:∀{b:Addr} {o:Obj},s₁.heap.get? b=some o->H b=none->(k9 s₁.heap H).get? b=some o:=fun e n=>qY e n
  have noA:∀{b:Addr} {o:Obj} {es:Array CL} {ep:Nat},s₁.heap.get? b=some o->o.data=.dict es ep->H b=none:=fun {b o es ep} e d=>by
   cases q:H b with
   | none=>rfl
   | some u =>
    have e':b=a:=hA b (by rw[q];simp)
    subst e'
    rw[ha]at e;cases e
    have d':Ht vs.toArray _=Data.dict es ep:=d
    cases d'
  have nsK:∀{b:Addr} {m:Str->Option Am},s₁.heap.Ns b m->(k9 s₁.heap H).Ns b m:=fun {b m} ⟨o,es,ep,e,d,r⟩=>⟨o,es,ep,base_of e (noA e d),d,r⟩
  have hKb:K.In (k9 s₁.heap H):=fun b o e=>base_of (KX b o e) (by
   cases q:H b with
   | none=>rfl
   | some u =>
    have e':b=a:=hA b (by rw[q];simp)
    subst e'
    rw[hK (by rw[q];simp)]at e;cases e)
  have hM:Mod K mg (k9 s₁.heap H):=⟨hKb,nsK hns,⟨mb,nsK hb,hbb⟩,let ⟨mc,h1,h2⟩:=hlim;⟨mc,nsK h1,h2⟩⟩
  have e0:Env0 P w K mg (k9 s₁.heap H) callerA [] s₁ H:=⟨rfl,hM,fun b o e=>uj e,Nat.le_of_eq (pH _ _),trivial,fun b hb=>absurd (show b∈([]:List Addr)from hb) (by simp),hok,.of_eq hg⟩
  refine Es ((F _ hKb (nsK hns)).run callerA [] s₁ H ⟨[.ref a],[]⟩ [.ref a] [.ref a] _ _ hr e0 (hbind s₁ (.ref a)) (.cons rfl .nil) (hsp H hO hS)) fun r s' h=>?_
  cases r with
  | error e=>exact(hCX H e s' h).elim
  | ok fl =>
   cases fl with
   | next=>exact Dd h
   | brk=>exact Dd h
   | cont=>exact Dd h
   | ret u =>
    obtain⟨v,H',os,bare,un,hok',r',q⟩:=h
    have q':v=.bl true:=q
    subst q'
    obtain rfl:u=Ho true:=r'
    refine⟨rfl,OldK.of_keep fun b o e=>?_,os,bare⟩
    cases q:H b with
    | none=>exact un.keep b o e q (by intro z;exact absurd (show b∈([]:List Addr)from z) (by simp)) (by simp)
    | some u =>
     rcases hO b with z | ⟨ob,xs,z⟩
     ·rw[q]at z;cases z
     ·have z2:=un.frzs b ob _ z
      obtain⟨e1,_⟩:=hok b _ z
      obtain⟨e2,_⟩:=hok' b _ z2
      rw[e]at e1;cases e1
      exact e2
 cases hk:K.lookup a with
 | some o =>
  have e:=KX a o hk
  rw[ha]at e
  cases e
  refine core (fun _=>none) (fun _=>.inl rfl) (.inr ⟨_,vs.toArray,_,hk,rfl,rfl,rfl,by rw[AH,lenV];exact hl,by simpa using rv⟩) (fun b u z=>by have z':(none:Option HO)=some u:=z;cases z') (fun b z=>absurd rfl z) fun z=>absurd rfl z
 | none =>
  refine core (fun b=>if b=a then some (.frz {cls:=.type "list",data:=.seq vs.toArray} (.lst (ns.map D8)))else none) (fun b=>?_) (.inl (.inr ⟨{cls:=.type "list",data:=.seq vs.toArray},if_pos rfl⟩)) (fun b u z=>?_) (fun b z=>?_) fun _=>hk
  ·by_cases hb:b=a
   ·exact .inr ⟨_,_,if_pos hb⟩
   ·exact .inl (if_neg hb)
  ·by_cases hb:b=a
   ·have z':=(if_pos hb).symm.trans z
    cases z'
    subst hb
    exact⟨ha,by rw[B8];exact hl,vs,_,rv,ha⟩
   ·have z':=(if_neg hb).symm.trans z
    cases z'
  ·by_cases hb:b=a
   ·exact hb
   ·exact absurd (if_neg hb) z
theorem walk_of {l:PySem.W.OpenLaw} {n k:Nat} {q:AI} {loose:List Str} {XP:(Str->Option Am)->Heap->Prop} {YP:AQ->Heap->Prop} {d:DefRec} {K:IH->PySem.W.Frag} {CX:AQ->CXT} {sp:AQ->Sp} {x:Str}
  (hn:l.most=some n) (hn2:n<=sizeLine) (hdf:d.params.defaults=[]) (hr:Room k callerA)
  (hY:∀(w:AQ) (h:Heap),YP w h->(K w.params).In h)
  (F:∀(w:AQ) (mg:Str->Option Am) (fa:Addr) (h:Heap),(K w.params).In h->h.Ns mainGlobals mg->mg d.name=some (.ref fa)->
   ∃ fd : AZ, (∀ (s : Ap) (u : Am), Gy s fd ⟨[u], []⟩ [(x, u)]) /\
    ∀base:Heap,(K w.params).In base->base.Ns mainGlobals mg->FnOk l.prog w (K w.params) mg base (CX w) k fa fd [x] (sp w))
  (hsp:∀(w:AQ) (H:Hp) (a:Addr) (ns:List Int),ns.length<=n->wF H->SqL (K w.params) H a (ns.map D8)->sp w [.ref a] H (fun v _=>v=.bl true) fun _ _ _=>False)
  (hCX:∀(w:AQ) (H:Hp) (s:Ap) (e:Am) (s':Ap),CX w [] H s (fun _ _ _=>False) e s'->False):
  PySem.W.WalkO q loose XP YP l.row.toRowW d [] (fun f vs=>PySem.call f vs):=by
 refine Att.attach_call hn hdf fun w s₀ s₁ mg mb fa o pm cd doc a vs ns G Y ho hd hcd hmg hobj hints hlen hg=>?_
 have KX:=hY w _ Y
 obtain⟨fd,hb,hF⟩:=F w mg fa _ KX G.T.g hmg
 exact rn KX G.T.g G.T.b G.T.builtins G.T.nolimit hg hobj hints (C6 hlen hn2) hr hF hb (fun H hO hS=>hsp w H a ns hlen hO hS) fun H e s'=>hCX w H s₁ e s'
def defArgs (s:Stmt):Arguments:=match s with
 | .FunctionDef _ a _ _ _ _ _ _ _ _=>a
 | _=>{posonlyargs:=[],args:=[],vararg:=none,kwonlyargs:=[],kw_defaults:=[],kwarg:=none,defaults:=[]}
def defBody (s:Stmt):List Stmt:=match s with
 | .FunctionDef _ _ b _ _ _ _ _ _ _=>b
 | _=>[]
def defScope (s:Stmt):Dj:=match s with
 | .FunctionDef _ _ _ _ _ _ sc _ _ _=>sc
 | _=>{kind:=.function,names:=[],isGenerator:=false,isCoroutine:=false}
abbrev CX0:CXT:=fun _ _ _ _ _ _=>False
abbrev E0:XK:=fun _ _ _=>False
theorem xV {X:Cx} :nh CX0 X E0:=fun _ _ _ _ _ _ _ h=>h.elim
structure Fun (K:PySem.W.Frag) (x qual:Str) (st:Stmt) (f:Addr) (fd:AZ):Prop where
 ex:∃(oc:Am) (od:Option Addr) (kV doc pm:Am) (an:Option Addr) (cdv ct:Am) (osl:Array (Option Am)),
  fd=PySem.W.fnOf x qual (defArgs st) (defBody st) (defScope st) .none kV doc pm an cdv ct/\K.lookup f=some ⟨oc,od,.func fd,osl⟩/\PySem.W.codeIn K cdv qual=true
 kp:PySem.W.keepIn K (.ref f)=true
section
variable {P:AI} {w:AQ} {K:PySem.W.Frag} {mg:Str->Option Am} {base:Heap}
theorem Fun.ok {x qual:Str} {st:Stmt} {f:Addr} {fd:AZ} {N ps:List Str} {k:Nat} {sp:Sp} (F:Fun K x qual st f fd) (S:FnScope N ps (defScope st)) (len:∀vs H Q E,sp vs H Q E->vs.length=ps.length)
  (hbody:∀(cdv:Am) (A:Bo) (outer:List Env) (s:Ap) (H:Hp) (vs:List V) (Q:VK) (E:XK),Room k (A.deeper (envOfC qual (defScope st) s.heap.objs.size f cdv))->sp vs H Q E->
   ∃t,PSs (pP CX0 P w K mg base N qual (defScope st) f cdv A outer s H E).nox (defBody st) t/\t {nx:=fun _ H'=>Q .non H',rt:=Q} (start N vs) H):FnOk P w K mg base CX0 (k+1) f fd ps sp:=by
 obtain⟨oc,od,kV,doc,pm,an,cdv,ct,osl,rfl,lk,hcd⟩:=F.ex
 refine xQ lk hcd S len fun A outer s H vs Q E hr hsp=>?_
 obtain⟨t,h,q⟩:=hbody cdv A outer s H vs Q E hr hsp
 exact⟨t,h.nox,q⟩
theorem Fun.binds {x qual:Str} {st:Stmt} {f:Addr} {fd:AZ} {ps:List Str} (F:Fun K x qual st f fd)
  (h:∀(kV doc pm:Am) (an:Option Addr) (cdv ct:Am) (us:List Am),us.length=ps.length->bindArgs (PySem.W.fnOf x qual (defArgs st) (defBody st) (defScope st) .none kV doc pm an cdv ct) ⟨us,[]⟩=pure (ps.zip us)):Binds K fd ps []:=by
 obtain⟨oc,od,kV,doc,pm,an,cdv,ct,osl,rfl,lk,hcd⟩:=F.ex
 exact .all (h kV doc pm an cdv ct)
theorem aR {x qual:Str} {st:Stmt} {f:Addr} {oc:Am} {od an:Option Addr} {osl:Array (Option Am)} {kV doc pm cdv ct:Am} (l:K.lookup f=some ⟨oc,od,.func (PySem.W.fnOf x qual (defArgs st) (defBody st) (defScope st) .none kV doc pm an cdv ct),osl⟩)
  (c:PySem.W.codeIn K cdv qual=true) (k:PySem.W.keepIn K (.ref f)=true):Fun K x qual st f (PySem.W.fnOf x qual (defArgs st) (defBody st) (defScope st) .none kV doc pm an cdv ct):=⟨⟨oc,od,kV,doc,pm,an,cdv,ct,osl,rfl,l,c⟩,k⟩
end
section
variable {X:Cx}
theorem pv (i:Nat) {x:Str} {pos:Pos} (hN:X.N[i]? =some x:=by rfl) (hv:Vis X.env.scope x:=by first | exact IX rfl | exact IJ (IX rfl) | exact IJ (IJ rfl)) (hd:(x == ("__debug__" :Str))=false:=by decide)
  (hcd:(x == ("__classdict__" :Str))=false:=by decide):PE X (.Name x pos) (bE i):=wm hN hv hd hcd
end
def Same (H H':Hp):Prop:=∀b o,H b=some o->H' b=some o
theorem Same.refl (H:Hp):Same H H:=fun _ _ h=>h
theorem Same.trans {H H1 H2:Hp} (a:Same H H1) (b:Same H1 H2):Same H H2:=fun c o h=>b c o (a c o h)
theorem Same.seq {K:PySem.W.Frag} {H H':Hp} {a:Addr} {xs:List V} (e:Same H H') (h:SqL K H a xs):SqL K H' a xs:=by
 rcases h with(h | ⟨o,h⟩) | h
 ·exact .inl (.inl (e _ _ h))
 ·exact .inl (.inr ⟨o,e _ _ h⟩)
 ·exact .inr h
end L2
set_option maxHeartbeats 4000000
namespace L2
open PySem PySem.Spec PyProof.Rows
abbrev sOf (l:List Nat):Str:=⟨l.toArray⟩
theorem dP (l:List Nat):(sOf l).length=l.length:=by simp[ID,sOf]
theorem kC (l:List Nat):(sOf l).cps.toList=l:=by simp[sOf]
theorem nk (a b:List Nat):sOf a++sOf b=sOf (a++b):=by
 apply PySem.Str.ext'
 rw[PySem.Str.cps_append]
 simp[sOf]
theorem om {a b:List Nat} (h:sOf a=sOf b):a=b:=by
 have:=congrArg (fun x=>x.cps.toList) h
 simpa [sOf] using this
theorem rp (x:Str):x=sOf x.cps.toList:=by cases x;simp[sOf]
def DictK (K:PySem.W.Frag) (w:AQ) (a:Addr) (kvs:List (Key×V)):Prop:=
 kvs.length<=1000/\(a == sysModules)=false/\(kvs.map (·.1)).Nodup/\∃(es:Array CL) (ep:Nat),K.lookup a=some {cls:=.type "dict",data:=.dict es ep}/\
  Paired (fun(p:Key×V) (e:CL)=>fg p.1 e.key=true/\e.hash=qX w p.1/\RelV p.2 e.val) kvs es.toList
theorem lE {P:AI} {w:AQ} {kvs:List (Key×V)} {es:List CL} (r:Paired (fun(p:Key×V) (e:CL)=>fg p.1 e.key=true/\e.hash=qX w p.1/\RelV p.2 e.val) kvs es):
  ∀e∈es,∃k,fg k e.key=true/\e.hash=qX w k:=by
 induction r with
 | nil=>intro e h;cases h
 | @cons p e ps es h t ih =>
  intro e' h'
  rcases AR.mp h' with rfl | h'
  ·exact⟨p.1,h.1,h.2.1⟩
  ·exact ih e' h'
theorem kD {P:AI} {w:AQ} {kvs:List (Key×V)} {es:List CL} (r:Paired (fun(p:Key×V) (e:CL)=>fg p.1 e.key=true/\e.hash=qX w p.1/\RelV p.2 e.val) kvs es):
  ∃vs,KV kvs vs/\Pairs (mixKind P w) es vs/\vs.map (·.1)=kvs.map (·.1):=by
 induction r with
 | nil=>exact⟨[],.nil,.nil,rfl⟩
 | @cons p e ps es h t ih =>
  obtain⟨vs,h1,h2,h3⟩:=ih
  exact⟨(p.1,e.val)::vs,.cons ⟨rfl,h.2.2⟩ h1,.cons h.1 rfl h2,by simp[h3]⟩
theorem DictK.of {P:AI} {w:AQ} {K:PySem.W.Frag} {a:Addr} {kvs:List (Key×V)} {h:Heap} (d:DictK K w a kvs) (x:K.In h):(a == sysModules)=false/\∃vs,KV kvs vs/\h.DictOf (mixKind P w) a vs:=by
 obtain⟨hz,hs,nd,es,ep,lk,r⟩:=d
 obtain⟨vs,h1,h2,h3⟩:=kD (P:=P) r
 refine⟨hs,vs,h1,_,es,ep,x _ _ lk,⟨rfl,rfl,rfl⟩,rfl,fun e he=>lE (P:=P) r e (by simpa using he),h2,by rw[h3];exact nd⟩
section
variable {X:Cx} {o i e:Expr} {pos:Pos} {td ty:TE}
def aL (K:PySem.W.Frag) (w:AQ) (td ty:TE):TE:=fun σ H Q=>td σ H fun x H1=>ty σ H1 fun y H2=>∃a kvs k v,x=.ref a/\DictK K w a kvs/\y=kV k/\gb kvs k=some v/\Q v H2
theorem rq (ho:PE X o td) (hi:PE X i ty) (hs:rm i):PE X (.Subscript o i pos) (aL X.K X.w td ty):=by
 intro pins s σ H Q I h
 refine oj PySem.F.slot_dict_getitem.lookup hs (bM (ho pins s σ H _ I h) fun u s1 ⟨x,H1,I1,rx,q1⟩=>bM (hi pins s1 σ H1 _ I1 q1) fun iv s2 ⟨y,H2,I2,ry,a,kvs,k,v,ex,dk,ey,ev,q2⟩=>?_)
 subst ex ey
 obtain rfl:u=Bx a:=rx
 obtain⟨hd,vs,rel,dd⟩:=dk.of (P:=X.prog) I2.kIn
 refine⟨dd.typeIs,?_⟩
 obtain⟨w',hw,rw'⟩:=I0 (v:=v) (o:=valueAt vs k) (by rw[<-ev];exact rel.val k)
 exact wpAny_getItem_of (vX ry) dd.mapOf hw ⟨v,H2,I2.tok _,rw',q2⟩
end
section
variable {X:Cx}
theorem iN:OpR X (compareOp .Is) (fun x y H Q=>∃c,y=.bl c/\Q (.bl (decide (x=.bl c))) H):=by
 intro pins s σ H x y v u Q I rx ry h
 obtain⟨c,rfl,q⟩:=h
 cases ry
 cases x with
 | bl b=>cases rx;exact is_bool (aK I q (by cases b <;> cases c <;> simp))
 | non=>cases rx;exact An (aK I q (by simp))
 | int i=>obtain⟨t,rfl⟩:=rx;exact An (aK I q (by simp))
 | str i=>obtain⟨t,rfl⟩:=rx;exact An (aK I q (by simp))
 | byt i=>obtain⟨t,rfl⟩:=rx;exact An (aK I q (by simp))
 | flt i=>obtain⟨t,rfl⟩:=rx;exact An (aK I q (by simp))
 | ref a=>cases rx;exact An (aK I q (by simp))
 | ty a=>cases rx;exact An (aK I q (by simp))
theorem nq:OpR X (binaryOp .Mult) (fun x y H Q=>∃c n,x=.str (sOf [c])/\y=.int n/\0<=n/\n<=100000/\Q (.str (sOf (Ct n.toNat c))) H):=by
 intro pins s σ H x y v u Q I rx ry h
 obtain⟨c,n,rfl,rfl,h0,h1,q⟩:=h
 obtain⟨t,rfl⟩:=rx
 obtain⟨t',rfl⟩:=ry
 have hl:(sOf [c]).length=1:=dP [c]
 refine SB.mul ?_ fun t' k=>?_
 ·refine⟨?_,fun _ _=>?_,fun _ _=>?_⟩
  ·have e1:decide (n< -(2^63:Int))=false:=decide_eq_false (by omega)
   have e2:decide (n≥2^63)=false:=decide_eq_false (by omega)
   rw[e1,e2];rfl
  ·rw[hl]
   have h2:1<=n:=by omega
   have:(1:Int)<=(2^63- 1)/ n:=(Int.le_ediv_iff_mul_le (by omega)).mpr (by omega)
   omega
  ·rw[hl]
   unfold IB
   have:=BU
   simp
   omega
 ·have e:IL (sOf [c]) n=sOf (Ct n.toNat c):=by
   rw[rp (IL (sOf [c]) n)]
   show sOf ((IL ⟨#[c]⟩ n).cps.toList)=_
   rw[mul_one_list]
  exact⟨.str _,H,I.tok _,⟨t',rfl⟩,by rw[e];exact q⟩
end
section
variable {X:Cx}
def ip (l:List Nat) (lo hi:Option Int):List Nat:=(l.drop (HT.sIx l.length 0 lo)).take (HT.sIx l.length l.length hi- HT.sIx l.length 0 lo)
theorem iO (lo hi:Option Int) (n:Nat):Cf lo hi 1 n=sliceRange ((HT.sIx n 0 lo:Nat):Int) ((HT.sIx n n hi:Nat):Int) 1:=by
 unfold Cf
 have e1:(match lo with | none=>(0:Int) | some i=>max 0 (min (if i< 0 then i+(n:Int)else i) n))=((HT.sIx n 0 lo:Nat):Int):=by
  cases lo with
  | none=>simp[HT.sIx]
  | some i=>simp only[HT.sIx];by_cases h:i< 0 <;> simp only[h,if_true,if_false] <;> omega
 have e2:(match hi with | none=>(n:Int) | some i=>max 0 (min (if i< 0 then i+(n:Int)else i) n))=((HT.sIx n n hi:Nat):Int):=by
  cases hi with
  | none=>simp[HT.sIx]
  | some i=>simp only[HT.sIx];by_cases h:i< 0 <;> simp only[h,if_true,if_false] <;> omega
 simp only[show(1:Int)> 0 by decide,if_true]
 rw[<-e1,<-e2]
 cases lo <;> cases hi <;> rfl
theorem pV (l:List Nat) (lo hi:Option Int):GQ (sOf l) lo hi=sOf (ip l lo hi):=by
 have hn:(sOf l).length=l.length:=dP l
 have hk:(Cf lo hi 1 l.length).filterMap ((sOf l).cps[·]?)=ip l lo hi:=by
  rw[iO,FW,pick_run]
  simp[ip]
 have hlen:(Cf lo hi 1 l.length).length=(ip l lo hi).length:=by
  rw[iO,FW]
  have h1:=HT.sIx_le l.length 0 (AS _) lo
  have h2:=HT.sIx_le l.length l.length (Au _) hi
  simp[ip]
  omega
 unfold GQ
 rw[hn]
 split
 ·rename_i h
  have h:(Cf lo hi 1 l.length).length=l.length:=by simpa using h
  have hl:=hlen.symm.trans h
  have e:ip l lo hi=l:=by
   have h3:(ip l lo hi).length<=(l.drop (HT.sIx l.length 0 lo)).length:=by unfold ip;simp;omega
   have h4:HT.sIx l.length 0 lo=0\/l.length=0:=by
    rw[GP]at h3;omega
   rcases h4 with h4 | h4
   ·unfold ip at hl ⊢
    rw[h4]at hl ⊢
    rw[FX]at hl ⊢
    rw[E2]at hl
    exact Df (by omega)
   ·have:l=[]:=CZ.mp h4
    subst this
    simp[ip]
  rw[e]
 ·rw[hk]
theorem rA:yE X (fun x lo hi H Q=>∃l,x=.str (sOf l)/\l.length<=sizeLine/\Q (.str (sOf (ip l lo hi))) H):=by
 intro pins s σ H x v vl vu lo hi sl Q I rx hs pl pu h
 obtain⟨l,rfl,hz,q⟩:=h
 obtain⟨t,rfl⟩:=rx
 obtain⟨a1,rfl,e1⟩:∃a:Option (Int×Tok),vl=partValue a/\a.map (·.1)=lo:=by
  cases pl with
  | none=>exact⟨none,rfl,rfl⟩
  | int i t=>exact⟨some (i,t),rfl,rfl⟩
 obtain⟨a2,rfl,e2⟩:∃a:Option (Int×Tok),vu=partValue a/\a.map (·.1)=hi:=by
  cases pu with
  | none=>exact⟨none,rfl,rfl⟩
  | int i t=>exact⟨some (i,t),rfl,rfl⟩
 have hle:(GQ (sOf l) lo hi).length<=sizeLine:=C6 (Txt.slice_le _ _ _) (by rw[dP];exact hz)
 refine⟨"str",_,PySem.F.slot_str_getitem.lookup,Hs _ _ _,wpAny_getItem_str_slice (l:=a1) (u:=a2) (st:=none) hs rfl ?_⟩
 subst e1 e2
 refine post_val_or_str ⟨hle,fun t' k=>⟨.str _,H,I.tok _,⟨t',rfl⟩,?_⟩⟩
 have:=pV l (a1.map (·.1)) (a2.map (·.1))
 unfold GQ at this
 show Q (.str (if _ then _ else _)) H
 exact this▸q
theorem rB (hc:X.calm=true):xR X "str.index" (fun x xs H Q=>∃a b,x=.str a/\xs=[.str b]/\0<=Ez a b/\Q (.int (Ez a b)) H):=by
 intro pins s σ H x xs v us Q I rx rs h
 obtain⟨a,b,rfl,rfl,h0,q⟩:=h
 obtain⟨t,rfl⟩:=rx
 obtain⟨u,rfl,t',rfl⟩:=f6 rs
 refine index_or (I.ok.hd hc) (fun e=>?_) fun _ _=>⟨.int _,H,I.tok _,⟨_,rfl⟩,q⟩
 omega
theorem nr {ys:List (List Nat)} :∀{us:List Am},Vals (ys.map fun y=>Eh (sOf y)) us->StrsAre us (ys.map sOf):=by
 induction ys with
 | nil=>intro us r;cases r;exact .nil
 | cons y ys ih =>
  intro us r
  cases r with
  | cons r1 r2 =>
   obtain⟨t,e⟩:=r1
   subst e
   exact .cons _ t (ih r2)
theorem nt (ys:List (List Nat)):Txt.join (sOf []) (ys.map sOf)=sOf ys.flatten:=by
 have key:∀(r:List (List Nat)) (acc:List Nat),(r.map sOf).foldl (fun acc p=>acc++(sOf []).cps++p.cps) acc.toArray=(acc++r.flatten).toArray:=by
  intro r
  induction r with
  | nil=>intro acc;simp
  | cons a r ih =>
   intro acc
   rw[Bh,Fz,List.flatten_cons,<-AM,<-ih (acc++a)]
   simp[sOf]
 cases ys with
 | nil=>rfl
 | cons a r =>
  show Str.mk (((r.map sOf)).foldl (fun acc p=>acc++(sOf []).cps++p.cps) a.toArray)=_
  rw[key]
  rfl
theorem uA:xR X "str.join" (fun x xs H Q=>∃(p:Addr) (ys:List (List Nat)),x=.str (sOf [])/\xs=[.ref p]/\SqL X.K H p (ys.map fun y=>Eh (sOf y))/\ys.flatten.length<=100000/\Q (.str (sOf ys.flatten)) H):=by
 intro pins s σ H x xs v us Q I rx rs h
 obtain⟨p,ys,rfl,rfl,hp,hl,q⟩:=h
 obtain⟨t,rfl⟩:=rx
 obtain⟨u,rfl,r1⟩:=f6 rs
 cases r1
 obtain⟨its,r,pl,hz⟩:=I.list hp
 refine join_list pl.isList (by simpa using nr r) ?_ fun t' k=>⟨.str _,H,I.tok _,⟨t',rfl⟩,by rw[nt];exact q⟩
 have e:((ys.map sOf).map (·.length)).sum=ys.flatten.length:=by
  rw[CN,List.length_flatten]
  congr 1
  all_goals exact List.map_congr_left fun y _=>dP y
 have e2:(sOf []).length=0:=dP []
 rw[e,e2]
 omega
theorem lF:dv X (.builtin "isinstance") (fun xs H Q=>∃x T t b,xs=[x,.ty T]/\TyOf X.K H x t/\PySem.W.kitOne X.K t (.type T)=some b/\Q (.bl b) H):=by
 intro pins s σ H xs us Q I r h
 obtain⟨x,T,t,b,rfl,ty,e,q⟩:=h
 obtain⟨u,w',rfl,rx,rT⟩:=vW r
 obtain rfl:w'=.type T:=rT
 exact pO I rx ty e fun tk=>⟨.bl b,H,I.tok _,rfl,q⟩
def zD (l:List Nat):It:=⟨fun i _=>i< l.length,fun i H x H'=>H'=H/\∃c,l[i]? =some c/\x=.str (sOf [c]),fun i _=>l.length<=i⟩
def xW (tl:TE):TI:=fun σ H R=>tl σ H fun x H1=>∃l,x=.str (sOf l)/\R (zD l) H1
end
theorem rC {P:AI} {w:AQ} {K:PySem.W.Frag} {tg:Expr} (l:List Nat) (it:Addr) (ty:String) (t:Tok) (hty:ty="str_ascii_iterator" \/ty="str_iterator")
  (W:∀A':Bo,A'.handled=none->Walks P w A' it [it] [it] l.length (SignAt (sOf l)) (fun i h=>h.IsStrIter it ty (sOf l) t i)):
  Turn P w K tg (zD l) [it] it (fun i h=>i<=l.length/\h.IsStrIter it ty (sOf l) t i) where
 mem:=by simp
 obj:=fun i h st b hb=>by
  have e:b=it:=by simpa using hb
  subst e
  obtain⟨_,o,e,c,d⟩:=st
  exact⟨o,e,fun v z=>by rw[d]at z;cases z⟩
 keep:=fun i h h' st k=>⟨st.1,by obtain⟨o,e,r⟩:=st.2;exact⟨o,k it (by simp) o e,r⟩⟩
 item:=by
  intro X hP hw hK hc i pins s σ H E I hf st hg
  subst hP hw hK
  obtain⟨f0,f1,f2,f3,f4,f5⟩:=hf it (by simp)
  refine(W X.A (I.ok.hd hc)).item i s _ _ hg st.2 fun v h' tk hv st' kk=>?_
  obtain⟨c,u,hc',rfl⟩:=hv
  have I1:Inv X pins σ H {s with heap:=h',toks:=tk} :=I.turned (fun b o hb e=>kk b o (by simpa using hb) e) f0 f1 f3 f4 f5
  obtain⟨o,e,c1,d⟩:=id st'
  refine⟨_,rfl,ly (s:={s with heap:=h',toks:=tk}) (n:=ty) e c1 d (by rcases hty with rfl | rfl <;> decide) ⟨.str (sOf [c]),H,I1,⟨u,rfl⟩,⟨rfl,c,?_,rfl⟩,⟨hg,st'⟩,fun b hb=>(hf b hb).1⟩⟩
  simpa [sOf] using hc'
 done:=by
  intro X hP hw hK hc i pins s σ H E I hf st hg
  subst hP hw hK
  obtain⟨f0,f1,f2,f3,f4,f5⟩:=hf it (by simp)
  have e:i=l.length:=Nat.le_antisymm st.1 hg
  subst e
  exact(W X.A (I.ok.hd hc)).done s _ _ st.2 fun h' tk kk=>⟨rfl,I.turned (fun b o hb e=>kk b o (by simpa using hb) e) f0 f1 f3 f4 f5⟩
 self:=fun A i s Q E st h=>by
  rcases hty with rfl | rfl
  ·exact wpAny_pyIter_striter_ascii st.2 h
  ·exact wpAny_pyIter_striter_wide st.2 h
theorem iP {X:Cx} {tg l:Expr} {tl:TE} (hl:PE X l tl):PI X tg l (xW tl):=by
 intro pins s σ H R I h
 refine bM (hl pins s σ H _ I h) fun v s1 ⟨x,H1,I1,r1,q1⟩=>?_
 obtain⟨y,e,q⟩:=q1
 subst e
 obtain⟨t,rfl⟩:=r1
 have hn:(sOf y).cps.size=y.length:=by simp[sOf]
 have fin:∀(ob:Obj) (ty:String),(ty="str_ascii_iterator" \/ty="str_iterator")->(∀A':Bo,A'.handled=none->Walks X.prog X.w A' s1.heap.objs.size [s1.heap.objs.size] [s1.heap.objs.size] y.length (SignAt (sOf y)) (fun i h=>h.IsStrIter s1.heap.objs.size ty (sOf y) t i))->
   (s1.heap.push ob).IsStrIter s1.heap.objs.size ty (sOf y) t 0->zr X pins σ tg R (.ref s1.heap.objs.size) {s1 with heap:=s1.heap.push ob} :=fun ob ty hty W st=>by
  refine⟨s1.heap.objs.size,[s1.heap.objs.size],_,_,H1,rfl,I1.kept (t':=s1.toks) fun b o e=>Aq _ e,rC y _ ty t hty W,⟨AS _,st⟩,fun b hb=>?_,q⟩
  have e:b=s1.heap.objs.size:=by simpa using hb
  subst e
  exact I1.fpOk (Au _) (I1.hok.fresh (Au _))
 cases ha:(sOf y).cps.all (· <128)
 ·exact GB ha (fin _ "str_iterator" (.inr rfl) (fun A' hA=>hn▸Walks.strWide hA _ (sOf y) t) ⟨_,Ax _ rfl,rfl,rfl⟩)
 ·exact Gp ha (fin _ "str_ascii_iterator" (.inl rfl) (fun A' hA=>hn▸Walks.strAscii hA _ (sOf y) t) ⟨_,Ax _ rfl,rfl,rfl⟩)
def bO (env:Env):List (Str×CY)->List (Str×Addr)->List (Str×Addr)
 | [],acc=>acc
 | (n,k)::r,acc=>bO env r (if(k == .free)=true then(n,(env.cells.lookup n).getD 0)::acc else acc)
theorem dg {scope:Dj} {env:Env} (h:∀x∈scope.names,x.2=.free->∃c,env.cells.lookup x.1=some c):closureFor scope env=pure (bO env scope.names []):=by
 simp only[closureFor]
 have key:∀(names:List (Str×CY)) (acc:List (Str×Addr)),(∀x∈names,x.2=.free->∃c,env.cells.lookup x.1=some c)->
   (forIn names acc fun(x:Str×CY) (cs:List (Str×Addr))=>if(x.2 == .free)=true then(do let a <-cellOf env x.1;pure (B9 ((x.1,a)::cs)))else pure (B9 cs))=(pure (bO env names acc):Sem _):=by
  intro names
  induction names with
  | nil=>intro acc _;rfl
  | cons x r ih =>
   intro acc hx
   obtain⟨n,k⟩:=x
   rw[FA]
   have hr:∀y∈r,y.2=.free->∃c,env.cells.lookup y.1=some c:=fun y hy=>hx y (AN _ hy)
   unfold bO
   by_cases hk:(k == BM)=true
   ·obtain⟨c,hc⟩:=hx (n,k) AJ (by simpa using hk)
    have hc:env.cells.lookup n=some c:=hc
    simp only[hk,if_true]
    unfold cellOf
    simp only[hc,E4]
    exact ih _ hr
   ·simp only[hk,if_false]
    exact ih _ hr
 have:=key scope.names [] h
 rw[this]
 rfl
theorem ft {env:Env} {x:Str} {c:Addr} :∀(names:List (Str×CY)) (acc:List (Str×Addr)),(∀y∈names,y.2=.free->∃c,env.cells.lookup y.1=some c)->(bO env names acc).lookup x=some c->
  ((x,BM)∈names/\env.cells.lookup x=some c)\/acc.lookup x=some c
 | [],_,_,h=>.inr h
 | (n, k) :: r, acc, hx, h => by
  unfold bO at h
  rcases ft r _ (fun y hy=>hx y (AN _ hy)) h with⟨q1,q2⟩ | q
  ·exact .inl ⟨AN _ q1,q2⟩
  ·by_cases hk:(k == BM)=true
   ·rw[if_pos hk]at q
    have hk':k=.free:=by simpa using hk
    subst hk'
    rw[Cb]at q
    cases hb:x == n with
    | true =>
     rw[hb]at q
     have e:x=n:=beq_iff_eq.mp hb
     subst e
     obtain⟨c',hc⟩:=hx (x,.free) AJ rfl
     have hc:env.cells.lookup x=some c':=hc
     rw[hc]at q
     simp at q
     subst q
     exact .inl ⟨AJ,hc⟩
    | false=>rw[hb]at q;exact .inr q
   ·rw[if_neg hk]at q;exact .inr q
theorem i7 {env:Env} {x:Str} {c:Addr} :∀(names:List (Str×CY)) (acc:List (Str×Addr)),acc.lookup x=some c->env.cells.lookup x=some c->(bO env names acc).lookup x=some c
 | [],_,h,_=>h
 | (n, k) :: r, acc, h, he => by
  unfold bO
  refine i7 r _ ?_ he
  by_cases hk:(k == BM)=true
  ·rw[if_pos hk,Cb]
   cases hb:x == n with
   | true =>
    have e:x=n:=beq_iff_eq.mp hb
    subst e
    simp[he]
   | false=>exact h
  ·rw[if_neg hk];exact h
theorem i8 {env:Env} {x:Str} {c:Addr} :∀(names:List (Str×CY)) (acc:List (Str×Addr)),(x,BM)∈names->env.cells.lookup x=some c->(bO env names acc).lookup x=some c
 | (n, k) :: r, acc, h, he => by
  unfold bO
  rcases AR.mp h with e | h
  ·cases e
   exact i7 r _ (by simp[he]) he
  ·exact i8 r _ h he
theorem cm:∀(names:List (Str×CY)) (n:Nat) (acc:List (Str×Addr)),cellsFrom n names acc=cellsFrom n names []++acc
 | [],_,_=>rfl
 | (x, k) :: r, n, acc => by
  unfold cellsFrom
  split
  ·rw[cm r _ ((x,n)::acc),cm r _ [(x,n)],AM];rfl
  ·exact cm r n acc
theorem dq:∀(names:List (Str×CY)) (n:Nat) {x:Str} {c:Addr},(x,c)∈cellsFrom n names []->(x,G9)∈names
 | [],_,_,_,h=>by cases h
 | (y, k) :: r, n, x, c, h => by
  unfold cellsFrom at h
  split at h
  ·rename_i hk
   rw[cm]at h
   rcases Bk.mp h with h | h
   ·exact AN _ (dq r _ h)
   ·have e:(x,c)=(y,n):=by simpa using h
    cases e
    have hk':k=.cell:=by simpa using hk
    subst hk'
    exact AJ
  ·exact AN _ (dq r _ h)
theorem iQ {M:Fx} {A:Bo} {E:Am->Ap->Prop} {s:Ap} {scope:Dj} {env:Env} {cl:List (Str×Addr)} {Q:Env->Ap->Prop}
  (hQ:Q (newEnv scope s.heap.objs.size env.globals (cellsFrom (s.heap.objs.size+1) scope.names cl) env.qual none .none (some env) builtinsNs) {s with heap:=pushCells (s.heap.push {cls:=.type "dict",data:=.dict #[]}) scope.names}):
  wpAny M A (newFunctionEnv scope env.globals cl [] env.qual none .none (some env)) Q E s:=by
 simp only[newFunctionEnv,Gn,if_true]
 refine Aj (wpAny_alloc ?_)
 refine Aj (wpAny_layCells _ (fun name kind cells=>by cases hkc:kind == G9 <;> simp[hkc]) _ _ _ _ ?_)
 rw[show({s with heap:=s.heap.push {cls:=.type "dict",data:=.dict #[]}} :Ap).heap.objs.size=s.heap.objs.size+1 from Cg ..]
 simp only[FY]
 exact Aj (An (An hQ))
section
variable {prog:AI} {w:AQ} {A:Bo} {R:Hr->Ap->Prop} {s:Ap}
theorem kE {elt target iter:Expr} {ifs:List Expr} {scope:Dj} {pos:Pos} {it acc:Am} {env:Env} (I:Nat->Ap->Prop)
  (turn:∀n s,I n s->wpAny (model prog w) A (pyNext it) (fun r s₁=>match r with
   | none=>R (.ok .next) s₁
   | some v=>wpAny (model prog w) A (letOwnedTupleGo target it v) (fun _ s₁'=>wpAny (model prog w) A (assign target env v) (fun _ s₂=>
     wpAny (model prog w) A (forIn ifs true fun c r=>if r=true then do let ok <-isTrue c env (eval c env);pure (B9 ok)else pure (B9 r)) (fun ok s₃=>
      if ok=true then wpAny (model prog w) A (eval elt env) (fun x s₄=>
       wpAny (model prog w) A (call (.builtin "list.append") [acc,x]) (fun _ s₅=>∃m,m< n/\I m s₅) (fun _ _=>False) s₄) (fun _ _=>False) s₃
      else ∃m,m< n/\I m s₃) (fun _ _=>False) s₂) (fun _ _=>False) s₁') (fun _ _=>False) s₁) (fun _ _=>False) s)
  (n:Nat) (h:I n s):codeAny (model prog w) A (.compLoop (.ListComp elt [⟨target,iter,ifs,0⟩] scope pos) 0 it acc env) R s:=by
 refine codeAny_loop rfl I (fun n s hI=>?_) n h
 show wpAny _ A ((compTurn (.ListComp elt [⟨target,iter,ifs,0⟩] scope pos) 0 it acc env).onRaise (fun x=>do noteFrame x env;theTreesLotGoes x)) _ _ s
 refine wpAny_noted ?_
 rw[compTurn_list]
 refine Aj (CB (Aj (Bv (turn n s hI) (fun r s₁ h₁=>?_) fun _ _ h'=>h'.elim)))
 cases r with
 | none=>exact An h₁
 | some v =>
  refine Aj (Bv h₁ (fun _ s₁' h₁'=>?_) fun _ _ h'=>h'.elim)
  refine Aj (Bv h₁' (fun _ s₂ h₂=>Aj (Bv h₂ (fun ok s₃ h₃=>?_) fun _ _ h'=>h'.elim)) fun _ _ h'=>h'.elim)
  cases ok with
  | true =>
   rw[if_pos rfl]at h₃
   exact Aj (Aj (Bv h₃ (fun x s₄ h₄=>Aj (Bv h₄ (fun _ s₅ h₅=>An (An ⟨rfl,h₅⟩)) fun _ _ h'=>h'.elim)) fun _ _ h'=>h'.elim))
  | false =>
   rw[if_neg AG]at h₃
   exact An ⟨rfl,h₃⟩
end
def rD (scope:Dj) (x:Str):Bool:=scope.names.lookup x == some .local || scope.names.lookup x == some .cell
def au (X:Cx) (scope:Dj) (N:List Str) (s:Ap) (H:Hp) (C:Addr) (fp:List Addr):Cx:=
 {X with N:=N,s₀:=s,H₀:=H,env:=compEnvC scope (cellsFrom (C+1) scope.names (bO X.env scope.names [])) C X.env,outer:=X.stack,ex:=fp,fn:=rD scope,pn:=[],xe:=fun _ _=>False}
def bp (cap:List (Option Nat)) (σ:St):St:=cap.map fun o=>o.bind fun j=>(σ[j]?).bind id
structure CompScope (X:Cx) (scope:Dj) (N:List Str) (cap:List (Option Nat)):Prop where
 kind:scope.kind=.function
 nd:N.Nodup
 len:cap.length=N.length
 uniq:(scope.names.map (·.1)).Nodup
 free:∀x∈scope.names,x.2=.free->(X.env.kindOf x.1=some .cell\/X.env.kindOf x.1=some .free)
 cap:∀(k:Nat) (x:Str) (j:Nat),N[k]? =some x->cap[k]? =some (some j)->X.N[j]? =some x/\(x,BM)∈scope.names
theorem cG {α:Type} :∀{l:List (Str×α)} {x:Str} {k:α},(l.map (·.1)).Nodup->(x,k)∈l->l.lookup x=some k
 | (y, j) :: r, x, k, nd, h => by
  obtain⟨n1,n2⟩:=C7.mp (show(y::r.map (·.1)).Nodup from nd)
  rw[Cb]
  rcases AR.mp h with e | h
  ·cases e;simp
  ·have:(x == y)=false:=beq_eq_false_iff_ne.mpr fun e=>n1 (e▸Bi.mpr ⟨(x,k),h,rfl⟩)
   rw[this]
   exact cG n2 h
theorem dE {env:Env} :∀{names:List (Str×CY)} {x:Str},(names.map fun(p:Str×CY)=>if(p.2 == BM && env.scope.kind == .function && env.kindOf p.1 == some .cell)=true then(p.1,G9)else(p.1,p.2)).lookup x=
  (names.lookup x).map fun k=>if(k == BM && env.scope.kind == .function && env.kindOf x == some .cell)=true then .cell else k
 | [],_=>rfl
 | (n, k) :: r, x => by
  rw[Bh]
  have ih:= @dE env r x
  by_cases hx:x=n
  ·subst hx
   by_cases hc:(k == BM && env.scope.kind == .function && env.kindOf x == some .cell)=true
   ·simp only[hc,if_true,Cb,beq_self_eq_true,Dk]
   ·rw[if_neg hc,Cb,Cb,beq_self_eq_true];simp only[Dk];rw[if_neg hc]
  ·have hb:(x == n)=false:=beq_eq_false_iff_ne.mpr hx
   by_cases hc:(k == BM && env.scope.kind == .function && env.kindOf n == some .cell)=true
   ·simp only[hc,if_true,Cb,hb];exact ih
   ·rw[if_neg hc,Cb,Cb,hb];exact ih
def qT (X:Cx) (ifs:List Expr) (t:TT):Prop:=
 ∀ (pins : List (Addr × Obj)) (s : Ap) (σ : St) (H : Hp) (Q : Bool -> Hp -> Prop), Inv X pins σ H s -> t σ H Q ->
  wpAny (model X.prog X.w) X.A (forIn ifs true fun c r=>if r=true then do let ok <-isTrue c X.env (eval c X.env);pure (B9 ok)else pure (B9 r)) (TP X pins σ Q) X.xe s
def wG:TT:=fun _ H Q=>Q true H
theorem cM {X:Cx} :qT X [] wG:=fun _ _ _ H _ I h=>wpAny_tests_nil ⟨H,I,h⟩
theorem oo {X:Cx} {c:Expr} {t:TT} (h:PT X c t):qT X [c] t:=fun pins s σ H Q I hq=>wpAny_tests_one (h pins s σ H Q I hq)
def Keep:St->St->Prop
 | [],_=>True
 | none::a,_::b=>Keep a b
 | some v::a,some u::b=>v=u/\Keep a b
 | _,_=>False
theorem Keep.get:∀{a b:St} {j:Nat} {v:V},Keep a b->a[j]? =some (some v)->b[j]? =some (some v)
 | [],_,_,_,_,h=>by simp at h
 | none::a,_::b,0,_,_,h=>by simp at h
 | none::a,_::b,j+1,v,k,h=>Keep.get (j:=j) (a:=a) (b:=b) k h
 | some w :: a, some u :: b, 0, v, k, h => by
  have e:w=u:=k.1
  subst e
  exact h
 | some w::a,some u::b,j+1,v,k,h=>Keep.get (j:=j) (a:=a) (b:=b) k.2 h
 | none::_,[],_,_,k,_=>k.elim
 | some _::_,[],_,_,k,_=>k.elim
 | some _::_,none::_,_,_,k,_=>k.elim
def xX (cap:List (Option Nat)) (g:TG) (tf:TT) (te:TE) (σ:St) (H1:Hp) (Q:VK) (J:It):Prop:=∃W:Nat->Nat->List V->Hp->Prop,(∃m,W 0 m [] H1)/\∀i m ys H,W i m ys H->ys.length< sizeLine/\
  ((J.stop i H/\∀D,H D=none->Q (.ref D) (cJ H D (.lst ys)))\/
   (J.go i H/\∃N:List V->Hp->Prop,(∀ys' H',N ys' H'->∃m',m'< m/\W (i+1) m' ys' H')/\∀x H',J.yld i H x H'->g x (bp cap σ) H' fun σ2 H2=>Keep (bp cap σ) σ2/\tf σ2 H2 fun b H3=>if b=true then te σ2 H3 fun y H4=>N (ys++ [y]) H4 else N ys H3))
def oq (cap:List (Option Nat)) (wi:TI) (g:TG) (tf:TT) (te:TE):TE:=fun σ H Q=>wi σ H fun J H1=>xX cap g tf te σ H1 Q J
theorem cO {X:Cx} {scope:Dj} {C:Addr} {x:Str} {c:Addr} (frc:∀x∈scope.names,x.2=.free->∃c,X.env.cells.lookup x.1=some c)
  (h:(cellsFrom (C+1) scope.names (bO X.env scope.names [])).lookup x=some c):(x,c)∈cellsFrom (C+1) scope.names []\/((x,BM)∈scope.names/\X.env.cells.lookup x=some c):=by
 rw[cm,Gq]at h
 cases e:(cellsFrom (C+1) scope.names []).lookup x with
 | some d =>
  rw[e]at h
  have h:some d=some c:=h
  cases h
  exact .inl (PySem.mem_of_lookup e)
 | none =>
  rw[e]at h
  have h:(bO X.env scope.names []).lookup x=some c:=h
  rcases ft _ _ frc h with q | q
  ·exact .inr q
  ·cases q
theorem lG {X:Cx} {scope:Dj} {C:Addr} {x:Str} {c:Addr} (uq:(scope.names.map (·.1)).Nodup) (hx:(x,BM)∈scope.names) (hc:X.env.cells.lookup x=some c):
  (cellsFrom (C+1) scope.names (bO X.env scope.names [])).lookup x=some c:=by
 rw[cm,Gq]
 cases e:(cellsFrom (C+1) scope.names []).lookup x with
 | some d =>
  have h1:=cG uq (dq _ _ (PySem.mem_of_lookup e))
  have h2:=cG uq hx
  rw[h1]at h2;cases h2
 | none=>exact i8 _ _ hx hc
section
variable {X:Cx} {scope:Dj} {N:List Str} {cap:List (Option Nat)} {pins:List (Addr×Obj)} {σ:St} {H:Hp} {s:Ap} {C:Addr} {fp:List Addr}
theorem pW {h4:Heap} (S:CompScope X scope N cap) (I:Inv X pins σ H s) (hC:s.heap.objs.size<=C) (ck:HW h4 (C+1) (cellsFrom (C+1) scope.names []))
  (hf:∀b∈fp,FpOk X pins H b) (hlt:∀b∈fp,b< C):(au X scope N s H C fp).Ok:=by
 have frc:∀x∈scope.names,x.2=.free->∃c,X.env.cells.lookup x.1=some c:=fun x hx hk=>I.ok.has x.1 (S.free x hx hk)
 have old:∀x c,X.env.cells.lookup x=some c->c< C:=fun x c e=>by
  obtain⟨v,q⟩:=I.cell x c e
  exact AF q.lt hC
 have own:∀x c,(x,c)∈cellsFrom (C+1) scope.names []->C< c:=fun x c e=>(ck.empty x c e).2
 refine⟨I.ok.mod,S.kind,I.ok.glob,I.ok.blt,hC,fun x y c h1 h2=>?_,fun x hx=>?_,fun x c hfn h=>?_,I.ok.hd,I.ok.frames,.inl rfl,fun b hb=>⟨AY (hlt b hb),fun x c h=>?_⟩,I.bs,C6 I.ok.bsz I.sz,fun b o e hb=>?_,fun b hb z=>?_,I.stack,I.stkFree⟩
 ·rcases cO frc h1 with a | ⟨a1,a2⟩ <;> rcases cO frc h2 with b | ⟨b1,b2⟩
  ·exact name_of_addr ck.apart a b
  ·exact absurd (Fs (own x c a) (old y c b2)) (BZ _)
  ·exact absurd (Fs (own y c b) (old x c a2)) (BZ _)
  ·exact I.ok.inj x y c a2 b2
 ·have hx:(relabel scope X.env).names.lookup x=some .cell\/(relabel scope X.env).names.lookup x=some .free:=hx
  have e:(relabel scope X.env).names.lookup x=_:=dE (env:=X.env) (names:=scope.names) (x:=x)
  rw[e]at hx
  cases q:scope.names.lookup x with
  | none=>rw[q]at hx;rcases hx with z | z <;> cases z
  | some k =>
   have hm:=PySem.mem_of_lookup q
   by_cases hk:k=.free
   ·subst hk
    obtain⟨c,hc⟩:=frc _ hm rfl
    exact⟨c,lG S.uniq hm hc⟩
   ·have hk':(k == BM)=false:=by simpa using hk
    rw[q]at hx
    simp only[Dk,hk',FT,Bb,if_false]at hx
    have hkc:k=.cell:=by
     rcases hx with z | z
     ·exact Bl z
     ·exact absurd (Bl z) hk
    subst hkc
    exact F2.mp (PySem.W.cellsFrom_some scope.names (C+1) _ (.inl q))
 ·rcases cO frc h with a | ⟨a1,a2⟩
  ·exact C6 hC (Dy (own x c a))
  ·have q:=cG S.uniq a1
   have z:rD scope x=true:=hfn
   unfold rD at z
   rw[q]at z
   exact absurd z (by decide)
 ·rcases cO frc h with a | ⟨a1,a2⟩
  ·exact DO (Fs (hlt b hb) (own x c a))
  ·exact(hf b hb).2.2.2.2.1 x c a2
 ·rcases (hf b hb).2.2.2.1 with z | z
  ·exact I.ok.noex b o e z
  ·exact absurd (AF (AF (AE e) I.ok.bsz) z) (BZ _)
 ·rcases AR.mp (I.stkSub b z)with q | q
  ·exact(hf b hb).2.1 q
  ·exact(hf b hb).2.2.1 q
theorem iR {s4:Ap} (S:CompScope X scope N cap) (I:Inv X pins σ H s) (hC:s.heap.objs.size<=C) (ck:HW s4.heap (C+1) (cellsFrom (C+1) scope.names []))
  (hf:∀b∈fp,FpOk X pins H b) (hlt:∀b∈fp,b< C) (h4:∃h' tk,s4={s with heap:=h',toks:=tk}) (hn:s4.heap.Ns C fun _=>none) (hk:∀b o,s.heap.get? b=some o->s4.heap.get? b=some o):
  Inv (au X scope N s H C fp) [] (bp cap σ) H s4:=by
 have frc:∀x∈scope.names,x.2=.free->∃c,X.env.cells.lookup x.1=some c:=fun x hx hk=>I.ok.has x.1 (S.free x hx hk)
 obtain⟨h',tk,rfl⟩:=h4
 refine⟨pW S I hC ck hf hlt,rfl,I.bare,Un.kept hk,⟨_,hn,fun i x v e1 e2 e3=>?_⟩,fun x c h=>?_,I.hok.fresh hC,fun x c h=>?_,fun p hp=>absurd (show p∈([]:List (Addr×Obj))from hp) (by simp),I.hok.kept hk,?_⟩
 ·have e1:N[i]? =some x:=e1
  unfold bp at e2
  rw[Ay]at e2
  cases q:cap[i]? with
  | none=>rw[q]at e2;cases e2
  | some o =>
   cases o with
   | none=>rw[q]at e2;cases e2
   | some j =>
    rw[q]at e2
    obtain⟨hj,hm⟩:=S.cap i x j e1 q
    have e2:σ[j]?.bind id=some v:=Bl e2
    have e2':σ[j]? =some (some v):=by
     cases z:σ[j]? with
     | none=>rw[z]at e2;cases e2
     | some o=>rw[z]at e2;exact congrArg some e2
    have kd:=S.free _ hm rfl
    obtain⟨m,_,hl⟩:=I.loc
    obtain⟨u,r,lk⟩:=hl j x v hj e2' (by rcases kd with z | z;exact .inr (.inl z);exact .inr (.inr z))
    refine⟨u,r,.inr ?_⟩
    rcases lk with⟨z,_⟩ | ⟨_,c,hc,hcell⟩
    ·rcases kd with q | q <;> · rw[show X.env.kindOf x=_ from q]at z;cases z
    ·refine⟨?_,c,lG S.uniq hm hc,hcell.keeps hk⟩
     have e:(relabel scope X.env).names.lookup x=_:=dE (env:=X.env) (names:=scope.names) (x:=x)
     rw[cG S.uniq hm]at e
     simp only[Dk]at e
     show(relabel scope X.env).names.lookup x=some .cell\/(relabel scope X.env).names.lookup x=some .free
     rw[e]
     split
     ·exact .inl rfl
     ·exact .inr rfl
 ·rcases cO frc h with a | ⟨a1,a2⟩
  ·exact⟨_,(ck.empty x c a).1⟩
  ·obtain⟨v,q⟩:=I.cell x c a2
   exact⟨v,q.keeps hk⟩
 ·rcases cO frc h with a | ⟨a1,a2⟩
  ·exact I.hok.fresh (C6 hC (Dy (ck.empty x c a).2))
  ·exact I.freeC x c a2
 ·show(bp cap σ).length=N.length
  unfold bp
  rw[B8,S.len]
end
abbrev gc (its:List Am) (k:Nat):Obj:={cls:=.type "list",data:=.seq its.toArray k}
section
variable {X:Cx} {scope:Dj} {N:List Str} {cap:List (Option Nat)} {tg iter elt:Expr} {ifs:List Expr} {pos:Pos} {wi:TI} {g:TG} {tf:TT} {te:TE}
theorem jM (S:CompScope X scope N cap) (hc:X.calm=true)
  (hg:∀s H C fp,PG (au X scope N s H C fp) tg g) (hf:∀s H C fp,qT (au X scope N s H C fp) ifs tf) (he:∀s H C fp,PE (au X scope N s H C fp) elt te)
  {pins:List (Addr×Obj)} {σ:St} {H2:Hp} {s2:Ap} {it:Addr} {fp:List Addr} {tn:Nat->Heap->Prop} {J:It} {Qv:VK} {E:Am->Ap->Prop} {RR:Am->Addr->Hr->Ap->Prop}
  (I2:Inv X pins σ H2 s2) (T:Turn X.prog X.w X.K tg J fp it tn) (st2:tn 0 s2.heap) (f2:∀b∈fp,FpOk X pins H2 b) {W:Nat->Nat->List V->Hp->Prop} (w0:∃m,W 0 m [] H2)
  (turn:∀i m ys H,W i m ys H->ys.length< sizeLine/\((J.stop i H/\∀D,H D=none->Qv (.ref D) (cJ H D (.lst ys)))\/
   (J.go i H/\∃N:List V->Hp->Prop,(∀ys' H',N ys' H'->∃m',m'< m/\W (i+1) m' ys' H')/\∀x H',J.yld i H x H'->g x (bp cap σ) H' fun σ2 H2=>Keep (bp cap σ) σ2/\tf σ2 H2 fun b H3=>if b=true then te σ2 H3 fun y H4=>N (ys++ [y]) H4 else N ys H3)))
  (fin:∀(D C:Addr) (σ':St) (H':Hp) (s':Ap) (its:List Am) (k:Nat) (ys:List V),s2.heap.objs.size<=D->s2.heap.objs.size<=C->D≠C->Inv (au X scope N s2 H2 C fp) [(D,gc its k)] σ' H' s'->Vals ys its->ys.length<=sizeLine->
   Qv (.ref D) (cJ H' D (.lst ys))->RR (.ref D) C (.ok .next) s'):
  wpAny (model X.prog X.w) X.A (newList []) (fun acc s₃=>wpAny (model X.prog X.w) X.A (newFunctionEnv scope X.env.globals (bO X.env scope.names []) [] X.env.qual none .none (some X.env)) (fun cenv s₄=>
   codeAny (model X.prog X.w) X.A (.compStart (.ListComp elt [⟨tg,iter,ifs,0⟩] scope pos) 0 (.ref it) acc {cenv with scope:=relabel scope X.env}) (RR acc cenv.locals) s₄) E s₃) E s2:=by
 refine Bu (iQ ?_)
 generalize hD:s2.heap.objs.size=D
 generalize hH3:s2.heap.push {cls:=.type "list",dict:=none,data:=.seq ([]:List Am).toArray} =h3
 have hz3:h3.objs.size=D+1:=by rw[<-hH3,Cg,hD]
 dsimp only
 have eC:({s2 with heap:=h3} :Ap).heap.objs.size=D+1:=hz3
 rw[show h3.objs.size=D+1 from hz3]
 generalize hH4:pushCells (h3.push {cls:=.type "dict",data:=.dict #[]}) scope.names=h4
 have hz3':(h3.push {cls:=.type "dict",data:=.dict #[]}).objs.size=D+1+1:=by rw[Cg,hz3]
 have ck:HW h4 (D+1+1) (cellsFrom (D+1+1) scope.names []):=by
  have:=cellsFrom_ok scope.names (h3.push {cls:=.type "dict",data:=.dict #[]}) (D+1+1) [] ⟨fun _ _ hm=>(nomatch hm),Dp⟩ (by rw[hz3'];exact Au _)
  rw[hz3',hH4]at this
  exact this
 have k23:∀b o,s2.heap.get? b=some o->h3.get? b=some o:=fun b o e=>by rw[<-hH3];exact Aq _ e
 have k34:∀b o,h3.get? b=some o->h4.get? b=some o:=fun b o e=>by rw[<-hH4];exact Ej _ _ b o (Aq _ e)
 have hD4:h4.get? D=some (gc [] 0):=k34 _ _ (by rw[<-hH3,<-hD];exact Ax _ rfl)
 have hn4:h4.Ns (D+1) fun _=>none:=by
  rw[<-hH4,<-hz3]
  exact(Im h3 (.type "dict")).keeps (Ej _ _)
 have fpD:∀b∈fp,b< D:=fun b hb=>by
  obtain⟨o,e,_⟩:=T.obj _ _ st2 b hb
  rw[<-hD];exact AE e
 have hlt:∀b∈fp,b< D+1:=fun b hb=>ET (fpD b hb)
 have hDC:s2.heap.objs.size<=D+1:=by rw[hD];exact EU _
 have hDs:s2.heap.objs.size<=D:=by rw[hD];exact Au _
 have IC:Inv (au X scope N s2 H2 (D+1) fp) [] (bp cap σ) H2 {s2 with heap:=h4} :=
  iR S I2 hDC ck f2 hlt ⟨_,_,rfl⟩ hn4 fun b o e=>k34 b o (k23 b o e)
 have okC:=IC.ok
 have nfs:∀{b:Addr},s2.heap.objs.size<=b->b∉frs X.stack:=fun {b} hb hm=>by
  obtain⟨_,o,ho,_⟩:=I2.stack.mem hm
  exact absurd (AF (AE ho) hb) (BZ _)
 have frc:∀x∈scope.names,x.2=.free->∃c,X.env.cells.lookup x.1=some c:=fun x hx hk=>I2.ok.has x.1 (S.free x hx hk)
 have cellsD:∀x c,(au X scope N s2 H2 (D+1) fp).env.cells.lookup x=some c->c≠D:=fun x c e=>by
  rcases cO frc e with a | ⟨_,a⟩
  ·have q:D+1+1<=c:=(ck.empty x c a).2
   exact DO (AF (AF (E5 D) (EU _)) q)
  ·obtain⟨v,q⟩:=I2.cell x c a
   have:=q.lt
   rw[hD]at this
   exact AY this
 have fpO:∀{H':Hp} {its:List Am} {k:Nat},(∀b∈fp,H' b=none)->∀b∈fp,FpOk (au X scope N s2 H2 (D+1) fp) [(D,gc its k)] H' b:=fun {H' its k} hn b hb=>
  ⟨hn b hb,AY (hlt b hb),okC.exfs b hb,.inl hb,(okC.exf b hb).2,fun p hp=>by
   have e:p=(D,gc its k):=by simpa [au] using hp
   subst e
   exact DO (fpD b hb)⟩
 have pinD:∀{σ':St} {H':Hp} {s':Ap} {its:List Am} {k:Nat},Inv (au X scope N s2 H2 (D+1) fp) [] σ' H' s'->s'.heap.get? D=some (gc its k)->H' D=none->Inv (au X scope N s2 H2 (D+1) fp) [(D,gc its k)] σ' H' s':=fun {σ' H' s' its k} J e n=>
  J.pins_of fun p hp=>by
   have e':p=(D,gc its k):=by simpa using hp
   subst e'
   exact⟨e,n,AY (E5 _),nfs hDs,fun v z=>by
    have z':Ht its.toArray k=Ew v:=z
    cases z'⟩
 have loop:codeAny (model X.prog X.w) X.A (.compLoop (.ListComp elt [⟨tg,iter,ifs,0⟩] scope pos) 0 (.ref it) (.ref D) (au X scope N s2 H2 (D+1) fp).env) (RR (.ref D) (D+1)) {s2 with heap:=h4} :=by
  obtain⟨m0,w0⟩:=w0
  refine kE (fun n s'=>∃i ys its k σ' H',Inv (au X scope N s2 H2 (D+1) fp) [(D,gc its k)] σ' H' s'/\tn i s'.heap/\(∀b∈fp,H' b=none)/\Vals ys its/\(∀(j:Nat) (v:V),(bp cap σ)[j]? =some (some v)->σ'[j]? =some (some v))/\W i n ys H') ?_ m0
   ⟨0,[],[],0,bp cap σ,H2,pinD IC hD4 (I2.hok.fresh hDs),T.keep _ _ _ st2 fun b hb o e=>k34 b o (k23 b o e),fun b hb=>(f2 b hb).1,.nil,fun _ _ e=>e,w0⟩
  rintro n s3 ⟨i,ys,its,k,σ3,H3,I3,st3,fr3,rv,kp,w3⟩
  obtain⟨hyl,tr⟩:=turn i n ys H3 w3
  have pin3:=I3.pin (D,gc its k) (B0 _ AJ)
  rcases tr with⟨stop,qn⟩ | ⟨go,NN,hNN,step⟩
  ·refine bM (T.done (au X scope N s2 H2 (D+1) fp) rfl rfl rfl hc i _ s3 σ3 H3 _ I3 (fpO fr3) st3 stop) fun r s4 ⟨hr,I4⟩=>?_
   subst hr
   exact fin D (D+1) σ3 H3 s4 its k ys hDs hDC (AY (E5 _)) I4 rv (Dy hyl) (qn D pin3.2.1)
  ·have I3':Inv (au X scope N s2 H2 (D+1) fp) [(D,gc its k)] (bp cap σ) H3 s3:=I3.weak (by rw[I3.len,IC.len]) kp
   refine bM (T.item (au X scope N s2 H2 (D+1) fp) rfl rfl rfl hc i _ s3 _ H3 _ I3' (fpO fr3) st3 go) fun r s4 ⟨u,hr,h4⟩=>?_
   subst hr
   refine bM h4 fun _ s5 ⟨x,H5,I5,r5,y5,st5,fr5⟩=>?_
   have I5':=I5.pinned (fpO fr5) (T.obj _ _ st5)
   refine bM (hg _ _ _ _ _ s5 _ H5 x u _ I5' r5 (step x H5 y5)) fun _ s6 ⟨σ6,H6,I6,kp6,q6⟩=>?_
   refine bM (hf _ _ _ _ _ s6 σ6 H6 _ I6 q6) fun ok s7 ⟨H7,I7,q7⟩=>?_
   have back:∀{s8:Ap} {H8:Hp},Inv (au X scope N s2 H2 (D+1) fp) ([(D,gc its k)]++gO fp s5.heap) σ6 H8 s8->tn (i+1) s8.heap/\(∀b∈fp,H8 b=none)/\s8.heap.get? D=some (gc its k)/\H8 D=none:=fun {s8 H8} I8=>by
    have at_:∀b∈fp,∀o,s5.heap.get? b=some o->s8.heap.get? b=some o/\H8 b=none:=fun b hb o e=>by
     have z:=I8.pin (b,o) (B0 _ (B0 _ (dD hb e)))
     exact⟨z.1,z.2.1⟩
    have pd:=I8.pin (D,gc its k) (B0 _ (Eb _ AJ))
    refine⟨T.keep _ _ _ st5 fun b hb o e=>(at_ b hb o e).1,fun b hb=>?_,pd.1,pd.2.1⟩
    obtain⟨o,e,d⟩:=T.obj _ _ st5 b hb
    exact(at_ b hb o e).2
   cases ok with
   | false =>
    rw[if_neg AG]at q7 ⊢
    obtain⟨m',hm,w'⟩:=hNN _ _ q7
    obtain⟨t7,f7,d7,n7⟩:=back I7
    exact⟨m',hm,i+1,ys,its,k,σ6,H7,I7.unpinned,t7,f7,rv,fun j v e=>Keep.get kp6 e,w'⟩
   | true =>
    rw[if_pos rfl]at q7 ⊢
    refine bM (he _ _ _ _ _ s7 σ6 H7 _ I7 q7) fun y8 s8 ⟨y,H8,I8,r8,q8⟩=>?_
    obtain⟨m',hm,w'⟩:=hNN _ _ q8
    obtain⟨t8,f8,d8,n8⟩:=back I8
    refine append_at (D:=D) (its:=its.toArray) (n:=k) d8 (fun h' hs' hD'=>?_) (by rw[AH,<-rv.length];exact Dy hyl)
    have J0:Inv (au X scope N s2 H2 (D+1) fp) [] σ6 H8 s8:=I8.pins_of fun p hp=>by cases hp
    have J1:Inv (au X scope N s2 H2 (D+1) fp) [] σ6 H8 {s8 with heap:=h'} :=J0.turned (it:=D) (t':=s8.toks) (fun b o hb e=>(hs'.2 b hb).trans e) n8 (AY (E5 _)) (.inr hDs) cellsD fun p hp=>by
     have:p∈([]:List (Addr×Obj)):=hp
     cases this
    refine⟨m',hm,i+1,ys++ [y],its++ [y8],k+1,σ6,H8,pinD J1 (by simpa using hD') n8,T.keep _ _ _ t8 fun b hb o e=>(hs'.2 b (AY (fpD b hb))).trans e,f8,rv.append (.cons r8 .nil),fun j v e=>Keep.get kp6 e,w'⟩
 exact codeAny_compStart_list loop (Bv (T.self _ 0 _ _ _ (T.keep _ _ _ st2 fun b hb o e=>k34 b o (k23 b o e)) loop) (fun _ _ h=>h) fun _ _ h=>h)
end
section
variable {X:Cx} {scope:Dj} {N:List Str} {cap:List (Option Nat)} {tg iter elt:Expr} {ifs:List Expr} {pos:Pos} {wi:TI} {g:TG} {tf:TT} {te:TE}
theorem lH {pins:List (Addr×Obj)} {σ σ':St} {H2 H':Hp} {s2 s':Ap} {fp:List Addr} {D C:Addr} {its:List Am} {k:Nat} {ys:List V} {h':Heap} (I2:Inv X pins σ H2 s2) (f2:∀b∈fp,FpOk X pins H2 b)
  (hD:s2.heap.objs.size<=D) (hC:s2.heap.objs.size<=C) (hDC:D≠C) (I':Inv (au X scope N s2 H2 C fp) [(D,gc its k)] σ' H' s') (rv:Vals ys its) (hl:ys.length<=sizeLine) (hs:Bf C s'.heap h'):
  Inv X pins σ (cJ H' D (.lst ys)) {s' with heap:=h'} :=by
 have pd:=I'.pin (D,gc its k) (B0 _ AJ)
 have nD:H' D=none:=pd.2.1
 have nC:H' C=none:=I'.free
 have lt2:∀b o,s2.heap.get? b=some o->b≠D/\b≠C:=fun b o e=>⟨AY (AF (AE e) hD),AY (AF (AE e) hC)⟩
 have hk:∀b o,b≠C->s'.heap.get? b=some o->h'.get? b=some o:=fun b o hb e=>(hs.2 b hb).trans e
 have B:Un (frs X.stack) fp H2 H' s2.heap s'.heap:=I'.base
 have tr:∀b u,H' b=some u->b≠D/\b≠C:=fun b u e=>⟨fun z=>(by rw[z,nD]at e;cases e),fun z=>(by rw[z,nC]at e;cases e)⟩
 refine I2.call' (ch:=fp) I'.os ⟨fun b o e n hb hx=>?_,fun b o e n hb hx=>?_,fun b o e n hx=>?_,fun b o e hx=>?_,fun b xs e=>?_,fun b o u e=>?_,fun b ps e=>?_⟩ (fun b u e=>?_) I'.bare fun b hb=>⟨(f2 b hb).2.2.2.1,(f2 b hb).2.1,(f2 b hb).2.2.2.2.1,(f2 b hb).2.2.2.2.2⟩
 ·exact hk b o (lt2 b o e).2 (B.keep b o e n hb hx)
 ·obtain⟨sl,q⟩:=B.slot b o e n hb hx
  exact⟨sl,hk b _ (lt2 b o e).2 q⟩
 ·rw[aH (lt2 b o e).1];exact B.free b o e n hx
 ·obtain⟨o',q⟩:=B.there b o e hx
  exact⟨o',hk b _ (lt2 b o e).2 q⟩
 ·rw[aH (tr b _ (B.tups b xs e)).1];exact B.tups b xs e
 ·rw[aH (tr b _ (B.frzs b o u e)).1];exact B.frzs b o u e
 ·obtain⟨more,q⟩:=B.tbls b ps e
  exact⟨more,by rw[aH (tr b _ q).1];exact q⟩
 ·by_cases hb:b=D
  ·subst hb
   rw[aF]at e;cases e
   exact⟨hl,its,k,rv,hk _ _ hDC pd.1⟩
  ·rw[aH hb]at e
   refine(I'.hok b u e).stay (fun c w' hc q=>hk c w' ?_ q) (fun c q=>by rw[aH (tr c _ q).1];exact q) fun c xs q=>by rw[aH (tr c _ q).1];exact q
   rcases hc with z | z
   ·rw[z];exact(tr b u e).2
   ·exact(tr c _ z).2
theorem eP (S:CompScope X scope N cap):∀x∈scope.names,x.2=.local->scope.names.lookup x.1=some .local:=fun x hx hl=>cG S.uniq (by rw[<-hl];exact hx)
theorem eQ (S:CompScope X scope N cap) (hc:X.calm=true) (hi:PI X tg iter wi)
  (hg:∀s H C fp,PG (au X scope N s H C fp) tg g) (hf:∀s H C fp,qT (au X scope N s H C fp) ifs tf) (he:∀s H C fp,PE (au X scope N s H C fp) elt te)
  (hs:∀x,foldedSetIterable iter X.env x=pure x:=by intro _;rfl):PE X (.ListComp elt [⟨tg,iter,ifs,0⟩] scope pos) (oq cap wi g tf te):=by
 intro pins s σ H Q I h
 rw[eval_ListComp]
 have frc:∀x∈scope.names,x.2=.free->∃c,X.env.cells.lookup x.1=some c:=fun x hx hk=>I.ok.has x.1 (S.free x hx hk)
 refine CQ (use:=none) rfl hs (dg frc) S.kind (eP S) (bM (hi pins s σ H _ I h) fun v s1 h1=>bM h1 fun itv s2 h2=>?_)
 obtain⟨it,fp,tn,J,H2,rfl,I2,T,st2,f2,W,w0,turn⟩:=h2
 refine jM (RR:=fun acc C=>compPost (model X.prog X.w) X.A X.xe none (EP X pins σ Q) acc C) S hc hg hf he I2 T st2 f2 w0 turn fun D C σ' H' s' its k ys hD hC hDC I' rv hl q=>?_
 obtain⟨m,hn,_⟩:=I'.loc
 exact⟨m,hn,fun h' hs'=>⟨.ref D,_,lH I2 f2 hD hC hDC I' rv hl hs',rfl,q⟩⟩
end
section
variable {X:Cx} {scope:Dj} {N:List Str} {cap:List (Option Nat)} {tg iter elt:Expr} {ifs:List Expr} {pos spos py:Pos} {wi:TI} {g:TG} {tf:TT} {te:TE} {i:Nat} {y:Str}
theorem iS (hN:X.N.Nodup) (hi':X.N[i]? =some y) (hy:xH X.env.scope y) (S:CompScope X scope N cap) (hc:X.calm=true) (hi:PI X tg iter wi)
  (hg:∀s H C fp,PG (au X scope N s H C fp) tg g) (hf:∀s H C fp,qT (au X scope N s H C fp) ifs tf) (he:∀s H C fp,PE (au X scope N s H C fp) elt te)
  (hsw:swapsWith (.ListComp elt [⟨tg,iter,ifs,0⟩] scope pos) (some (.Name y py)) spos.line X.env=pure true:=by rfl)
  (hs:∀x,foldedSetIterable iter X.env x=pure x:=by intro _;rfl) (hfn:X.fn y=true\/X.env.scope.names.lookup y=some .local:=by first | exact .inl rfl | exact .inr rfl | assumption):
  PS X (.Assign [.Name y py] (.ListComp elt [⟨tg,iter,ifs,0⟩] scope pos) spos) (bJ (oq cap wi g tf te) (aP i)):=by
 intro pins s σ H D I h
 rw[exec_Assign_Name_used _ _ _ _ hsw]
 refine Aj (CB (Aj ?_))
 show wpAny _ X.A (do let _ <-comprehension (.ListComp elt [⟨tg,iter,ifs,0⟩] scope pos) scope X.env _ (newList []) false (eval iter X.env) (some (assign (.Name y py) X.env))) _ _ s
 have frc:∀x∈scope.names,x.2=.free->∃c,X.env.cells.lookup x.1=some c:=fun x hx hk=>I.ok.has x.1 (S.free x hx hk)
 refine Aj (Bv (CQ (use:=some (assign (.Name y py) X.env)) (Q:=fun _ s'=>SP X pins D .next s') rfl hs (dg frc) S.kind (eP S) (bM (hi pins s σ H _ I h) fun v s1 h1=>bM h1 fun itv s2 h2=>?_)) (fun _ s' hq=>An (An hq)) fun _ _ e=>e)
 obtain⟨it,fp,tn,J,H2,rfl,I2,T,st2,f2,W,w0,turn⟩:=h2
 refine jM (Qv:=fun x H1=>aP i x σ H1 D.nx) (RR:=fun acc C=>compPost (model X.prog X.w) X.A X.xe (some (assign (.Name y py) X.env)) (fun _ s'=>SP X pins D .next s') acc C) S hc hg hf he I2 T st2 f2 w0 turn fun d C σ' H' s' its k ys hD hC hDC I' rv hl q=>?_
 obtain⟨m,hn,_⟩:=I'.loc
 have I3:Inv X pins σ (cJ H' d (.lst ys)) s':=lH (h':=s'.heap) I2 f2 hD hC hDC I' rv hl (.refl ..)
 have nC:(cJ H' d (.lst ys)) C=none:=by rw[aH (E8 hDC)];exact I'.free
 have cL:C≠X.env.locals:=fun z=>absurd (AF I2.lt hC) (by rw[z];exact BZ _)
 have cc:∀x c,X.env.cells.lookup x=some c->c≠C:=fun x c e z=>by
  obtain⟨v,q⟩:=I2.cell x c e
  exact absurd (AF q.lt hC) (by rw[z];exact BZ _)
 show wpAny _ X.A (assign (.Name y py) X.env (.ref d)) _ _ _
 refine Gw (jF (v:=.ref d) I3 hN hi' hy rfl (fun s4 I4 ⟨a,sb,ha⟩=>?_) hfn)
 have aC:C≠a:=by
  rcases ha with z | z
  ·rw[z];exact cL
  ·exact E8 (cc _ _ z)
 refine⟨m,hn.sameBut sb aC,fun h' hs'=>?_⟩
 exact⟨_,_,I4.turned (it:=C) (t':=s4.toks) (fun b o hb e=>(hs'.2 b hb).trans e) nC cL (.inr (C6 I2.sz hC)) cc (fun p hp z=>absurd (AF (AE (I2.pin p hp).1) hC) (by rw[z];exact BZ _)),q⟩
end
inductive Src where
 | lst (a:Addr) | tup (a:Addr) | str (l:List Nat)
def Src.has (K:PySem.W.Frag) (H:Hp):Src->List V->Prop
 | .lst a,xs=>SqL K H a xs
 | .tup a,xs=>SqT K H a xs
 | .str l,xs=>xs=l.map fun c=>Eh (sOf [c])
def Src.at (it:Addr) (i:Nat) (h:Heap):Src->Prop
 | .lst a=>h.IsListIter it a i
 | .tup a=>h.IsTupleIter it a i
 | .str l=>∃t,h.IsStrIter it "str_ascii_iterator" (sOf l) t i\/h.IsStrIter it "str_iterator" (sOf l) t i
def Src.val:Src->V
 | .lst a=>.ref a
 | .tup a=>.ref a
 | .str l=>.str (sOf l)
section
variable {P:AI} {w:AQ} {A:Bo} {E:Am->Ap->Prop} {s:Ap}
theorem kF {j a:Addr} {k:Nat} {us:Array Am} {x:Am} {Q:Am->Ap->Prop} (g:s.heap.IsTupleIter j a k) (ga:s.heap.IsTuple a us) (gx:us[k]? =some x)
  (q:∀h',h'.IsTupleIter j a (k+1)->Bf j s.heap h'->Q x {s with heap:=h'}):wpAny (model P w) A (Bt (.ref j)) Q E s:=by
 obtain⟨ob,e1,e2,e3⟩:=id g;obtain⟨ot,f1,_,nn,f3⟩:=ga
 unfold Bt
 refine Aj (BC (name:=Av "__next__") g.typeIs PySem.F.slot_tuple_iterator_next (Bp PySem.F.slot_tuple_iterator_next g.typeIs PySem.F.entry_tuple_iterator_next ?_ (PySem.F.args_tuple_iterator_next_1 _)))
 show wpAny (model P w) _ (field (.ref j) 0 >>= _) _ _ s
 refine Aj (C3 e1 e3 (x:=.ref a) rfl ?_)
 show wpAny (model P w) _ (if(Bx a == BA)=true then _ else _) _ _ s
 rw[if_neg (show ¬((Bx a == BA)=true)from AG)]
 show wpAny (model P w) _ (field (.ref j) 1 >>= _) _ _ s
 refine Aj (C3 e1 e3 (x:=.int k 0) rfl ?_)
 show wpAny (model P w) _ (seqItems? (.ref a) >>= _) _ _ s
 refine Aj (Ci f1 f3 ?_)
 simp only[BE,gx]
 refine Aj (D0 e1 e3 (by simp) (An ⟨x,rfl,An (q _ ⟨_,Cp _ e1 (Obj.isFreed_of_fields (Gr e3 _)),(Obj.cls_mapFields ..).trans e2,(by rw[Gr e3];simp[rawInt])⟩ (BN ..))⟩))
theorem lI {j a:Addr} {k:Nat} {us:Array Am} {Q:Am->Ap->Prop} (hh:A.handled=none) (g:s.heap.IsTupleIter j a k) (ga:s.heap.IsTuple a us) (gx:us[k]? =none)
  (q:∀h' e,EW j s.heap h'->(∃o,h'.get? e=some o/\o.cls=.type "StopIteration")->E (.ref e) {s with heap:=h'}):wpAny (model P w) A (Bt (.ref j)) Q E s:=by
 obtain⟨ob,e1,e2,e3⟩:=id g;obtain⟨ot,f1,_,nn,f3⟩:=ga
 unfold Bt
 refine Aj (BC (name:=Av "__next__") g.typeIs PySem.F.slot_tuple_iterator_next (Bp PySem.F.slot_tuple_iterator_next g.typeIs PySem.F.entry_tuple_iterator_next ?_ (PySem.F.args_tuple_iterator_next_1 _)))
 show wpAny (model P w) _ (field (.ref j) 0 >>= _) _ _ s
 refine Aj (C3 e1 e3 (x:=.ref a) rfl ?_)
 show wpAny (model P w) _ (if(Bx a == BA)=true then _ else _) _ _ s
 rw[if_neg (show ¬((Bx a == BA)=true)from AG)]
 show wpAny (model P w) _ (field (.ref j) 1 >>= _) _ _ s
 refine Aj (C3 e1 e3 (x:=.int k 0) rfl ?_)
 show wpAny (model P w) _ (seqItems? (.ref a) >>= _) _ _ s
 refine Aj (Ci f1 f3 ?_)
 simp only[BE,gx]
 refine Aj (CF (Aj (D0 e1 e3 (by simp) ?_)))
 show wpAny (model P w) _ (newExc (.type "StopIteration") [] >>= _) _ _ _
 refine Aj ?_;simp only[newExc,newTuple]
 refine Aj (Bu (Aj (m:=firstArgMember _ _) (FZ (a:=BA) (by first | rfl | (simp only[firstArgMember];rfl)) (Bu ?_ (by size_fits)))) (by size_fits))
 simp only[raiseNew];refine Aj (Ga ?_)
 first | rw[show A.in1.handled=none from hh] | rw[hh]
 exact Aj (An (Hb (q _ _ (((BN ..).extBut.push _).push _) ⟨_,Ax _ rfl,rfl⟩)))
theorem rE (hh:A.handled=none) (j a:Addr) (ne:a≠j) (us:Array Am):HS P w A j [j,a] us.size (fun k v=>us[k]? =some v) (fun k h=>h.IsTupleIter j a k/\h.IsTuple a us) where
 live:=fun _ _ st=>by obtain⟨⟨o,e,_⟩,_⟩:=st;exact⟨o,e⟩
 frame:=fun _ _ _ st hk=>⟨st.1.at fun o e=>hk j (by simp) o e,by obtain⟨o,e,r⟩:=st.2;exact⟨o,hk a (by simp) o e,r⟩⟩
 item:=fun k s Q E hk st q=>kF st.1 st.2 (x:=us[k]) (by simp[hk]) fun h' g' sb=>q _ h' s.toks (by simp[hk]) ⟨g',by obtain⟨o,e,r⟩:=st.2;exact⟨o,(sb.2 a ne).trans e,r⟩⟩ sb
 done:=fun s Q E st q=>lI hh st.1 st.2 (by simp) q
theorem Src.draws {X:Cx} {pins:List (Addr×Obj)} {σ:St} {H:Hp} {s0:Ap} {c:Src} {xs:List V} {it:Addr} {i:Nat} (hh:A.handled=none) (I:Inv X pins σ H s0) (hs:c.has X.K H xs) (ht:c.at it i s0.heap) (hit:H it=none):
  ∃ (fp : List Addr) (Pt : Nat -> Am -> Prop) (St : Nat -> Heap -> Prop), HS X.prog X.w A it fp xs.length Pt St /\ St i s0.heap /\ (∀ k v, Pt k v -> ∃ x, xs[k]? = some x /\ RelV x v) /\ (∀ k h, St k h -> c.at it k h) /\ it ∈ fp /\
   ∀b∈fp,b=it\/H b≠none\/∃o,X.base.get? b=some o:=by
 cases c with
 | lst a =>
  obtain⟨its,rv,p,hz⟩:=I.list hs
  have ne:a≠it:=fun z=>by
   obtain⟨o,e,c1,_⟩:=(show s0.heap.IsListIter it a i from ht)
   obtain⟨o2,e2,c2,_⟩:=p.isList
   rw[z,e]at e2;cases e2;rw[c1]at c2;exact absurd c2 (by decide)
  have dr:=Draws.list (prog:=X.prog) (w:=X.w) hh it a ne its.toArray
  rw[AH,<-rv.length]at dr
  refine⟨_,_,_,dr,⟨ht,p.isList⟩,fun k v e=>?_,fun k h st=>st.1,by simp,fun b hb=>?_⟩
  ·have e:its[k]? =some v:=by simpa using e
   have hk:k< xs.length:=by rw[rv.length];exact(Az.mp e).1
   obtain⟨u,hu,ru⟩:=rv.get (i:=k) (x:=xs[k]) (by simp[hk])
   rw[e]at hu;cases hu
   exact⟨_,by simp[hk],ru⟩
  ·rcases AR.mp hb with z | z
   ·exact .inl z
   ·have z:b=a:=by simpa using z
    subst z
    rcases (show SqL X.K H b xs from hs)with(z | ⟨o,z⟩) | ⟨o,_,_,z,_⟩
    ·exact .inr (.inl (by rw[z];simp))
    ·exact .inr (.inl (by rw[z];simp))
    ·exact .inr (.inr ⟨_,I.mod.kin _ _ z⟩)
 | tup a =>
  obtain⟨its,rv,p,hz⟩:=I.tuple hs
  have p:s0.heap.IsTuple a its.toArray:=p
  have ne:a≠it:=fun z=>by
   obtain⟨o,e,c1,_⟩:=(show s0.heap.IsTupleIter it a i from ht)
   obtain⟨o2,e2,c2,_⟩:=id p
   rw[z,e]at e2;cases e2;rw[c1]at c2;exact absurd c2 (by decide)
  have dr:=rE (P:=X.prog) (w:=X.w) hh it a ne its.toArray
  rw[AH,<-rv.length]at dr
  refine⟨_,_,_,dr,⟨ht,p⟩,fun k v e=>?_,fun k h st=>st.1,by simp,fun b hb=>?_⟩
  ·have e:its[k]? =some v:=by simpa using e
   have hk:k< xs.length:=by rw[rv.length];exact(Az.mp e).1
   obtain⟨u,hu,ru⟩:=rv.get (i:=k) (x:=xs[k]) (by simp[hk])
   rw[e]at hu;cases hu
   exact⟨_,by simp[hk],ru⟩
  ·rcases AR.mp hb with z | z
   ·exact .inl z
   ·have z:b=a:=by simpa using z
    subst z
    rcases (show SqT X.K H b xs from hs)with(z | ⟨o,z⟩) | ⟨o,_,_,z,_⟩
    ·exact .inr (.inl (by rw[z];simp))
    ·exact .inr (.inl (by rw[z];simp))
    ·exact .inr (.inr ⟨_,I.mod.kin _ _ z⟩)
 | str l =>
  have hs:xs=l.map fun c=>Eh (sOf [c]):=hs
  obtain⟨t,ht⟩:=(show ∃t,s0.heap.IsStrIter it "str_ascii_iterator" (sOf l) t i\/s0.heap.IsStrIter it "str_iterator" (sOf l) t i from ht)
  have hn:(sOf l).cps.size=xs.length:=by rw[hs];simp[sOf]
  have sg:∀(k:Nat) (v:Am),(∃c u,(sOf l).cps[k]? =some c/\v=.str ⟨#[c]⟩ u)->∃x,xs[k]? =some x/\RelV x v:=fun k v ⟨c,u,e,ev⟩=>by
   have e:l[k]? =some c:=by simpa [sOf] using e
   exact⟨.str (sOf [c]),by rw[hs];simp[e],⟨u,ev⟩⟩
  rcases ht with ht | ht
  ·exact⟨_,_,_,hn▸Draws.strAscii hh it (sOf l) t,ht,sg,fun k h st=>⟨t,.inl st⟩,by simp,fun b hb=>.inl (by simpa using hb)⟩
  ·exact⟨_,_,_,hn▸Draws.strWide hh it (sOf l) t,ht,sg,fun k h st=>⟨t,.inr st⟩,by simp,fun b hb=>.inl (by simpa using hb)⟩
end
def iT (v:Am) (h:Heap) (o:Obj):Prop:=∀(prog:AI) (w:AQ) (A:Bo) (E:Am->Ap->Prop) (Q:Am->Ap->Prop) (s:Ap),s.heap=h->Q (.ref h.objs.size) {s with heap:=h.push o}->wpAny (model prog w) A (pyIter v) Q E s
def xY (h:Heap) (o1 o2:Obj):Heap:=((h.push o1).push o2).push {cls:=.type "tuple",data:=.seq #[.ref h.objs.size,.ref (h.push o1).objs.size]}
def xZ (h:Heap) (o1 o2:Obj):Heap:=(xY h o1 o2).push {cls:=.type "tuple",data:=.seq #[.none,.none]}
def xv (h:Heap) (o1 o2:Obj):Heap:=(xZ h o1 o2).push {cls:=.type "zip",data:=.fields #[.none,.bool false,.bool false,.ref ((h.push o1).push o2).objs.size,.ref (xY h o1 o2).objs.size]}
theorem kG (v1 v2:Am) (o1 o2:Obj):Meets (Dq.«zip.__new__» ⟨[.type "zip",v1,v2],[]⟩) (fun _ R s=>iT v1 s.heap o1/\iT v2 (s.heap.push o1) o2/\R (.ok (.ret (.ref (xZ s.heap o1 o2).objs.size))) {s with heap:=xv s.heap o1 o2}):=
 .of_wp fun prog w A R s h=>by
  obtain⟨hp,g,d,tk,os⟩:=s;obtain⟨i1,i2,h⟩:=h
  have hsub:=sub_zip
  have j1:=fun(A:Bo) (E:Am->Ap->Prop) (Q:Am->Ap->Prop) (q:Q _ _)=>i1 prog w A E Q ⟨hp,g,d,tk,os⟩ rfl q
  have j2:=fun(A:Bo) (E:Am->Ap->Prop) (Q:Am->Ap->Prop) (q:Q _ _)=>i2 prog w A E Q ⟨hp.push o1,g,d,tk,os⟩ rfl q
  wp_walk using j1 _ _ _,j2 _ _ _
  exact⟨_,rfl,h⟩
theorem pX {P:AI} {w:AQ} {A:Bo} {E:Am->Ap->Prop} {s:Ap} {v1 v2:Am} {o1 o2:Obj} {Q:Am->Ap->Prop} (i1:iT v1 s.heap o1) (i2:iT v2 (s.heap.push o1) o2)
  (f1:o1.isFreed=false) (f2:o2.isFreed=false)
  (q:∀h',FC h' (s.heap.objs.size+4) (s.heap.objs.size+2) (s.heap.objs.size+3) .none->DJ h' (s.heap.objs.size+2) (.ref s.heap.objs.size) (.ref (s.heap.objs.size+1))->DJ h' (s.heap.objs.size+3) .none .none->
   h'.get? s.heap.objs.size=some o1->h'.get? (s.heap.objs.size+1)=some o2->(∀c o,s.heap.get? c=some o->h'.get? c=some o)->Q (.ref (s.heap.objs.size+4)) {s with heap:=h'}):
  wpAny (model P w) A (call (.type "zip") [v1,v2]) Q E s:=by
 refine callType_new PySem.F.called_zip (by decide) (PySem.F.typeCall_zip_2 _ _) (PySem.F.newCall_zip_2 _ _) (fun obj=>PySem.F.args_object_init_3 obj _ _) PySem.F.entry_zip_new (kG v1 v2 o1 o2) ⟨i1,i2,?_⟩
 have z1:(s.heap.push o1).objs.size=s.heap.objs.size+1:=Cg ..
 have z2:((s.heap.push o1).push o2).objs.size=s.heap.objs.size+2:=by rw[Cg,z1]
 have z3:(xY s.heap o1 o2).objs.size=s.heap.objs.size+3:=by unfold xY;rw[Cg,z2]
 have z4:(xZ s.heap o1 o2).objs.size=s.heap.objs.size+4:=by unfold xZ;rw[Cg,z3]
 have g5:(xv s.heap o1 o2).get? (xZ s.heap o1 o2).objs.size=some _:=Ax _ rfl
 have g4:(xv s.heap o1 o2).get? (xY s.heap o1 o2).objs.size=some _:=Aq _ (Ax _ rfl)
 have g3:(xv s.heap o1 o2).get? ((s.heap.push o1).push o2).objs.size=some _:=Aq _ (Aq _ (Ax _ rfl))
 have g2:(xv s.heap o1 o2).get? (s.heap.push o1).objs.size=some o2:=Aq _ (Aq _ (Aq _ (Ax _ f2)))
 have g1:(xv s.heap o1 o2).get? s.heap.objs.size=some o1:=Aq _ (Aq _ (Aq _ (Aq _ (Ax _ f1))))
 show _/\_
 rw[z2,z3,z4]at g5
 rw[z1,z2]at g3
 rw[z3]at g4
 rw[z1]at g2
 rw[z4]
 exact⟨⟨_,g5,rfl⟩,q _ g5 g3 g4 g1 g2 fun c o x=>Aq _ (Aq _ (Aq _ (Aq _ (Aq _ x))))⟩
theorem Src.iter {X:Cx} {pins:List (Addr×Obj)} {σ:St} {H:Hp} {s:Ap} {c:Src} {xs:List V} {v:Am} {h:Heap} (I:Inv X pins σ H s) (hs:c.has X.K H xs) (rv:RelV c.val v) (k:∀b o,s.heap.get? b=some o->h.get? b=some o):
  ∃o,iT v h o/\o.isFreed=false/\(∀h':Heap,h'.get? h.objs.size=some o->c.at h.objs.size 0 h'):=by
 cases c with
 | lst a =>
  obtain⟨its,r,p,hz⟩:=I.list hs
  cases (show v=.ref a from rv)
  obtain⟨o,e,r2⟩:=p.isList
  refine⟨{cls:=.type "list_iterator",data:=.fields #[.ref a,.int 0 0]},fun prog w A E Q s' e' q=>?_,rfl,fun h' e'=>⟨_,e',rfl,rfl⟩⟩
  subst e'
  exact ER ⟨o,k a o e,r2⟩ q
 | tup a =>
  obtain⟨its,r,p,hz⟩:=I.tuple hs
  cases (show v=.ref a from rv)
  obtain⟨o,e,r2⟩:=p
  refine⟨{cls:=.type "tuple_iterator",data:=.fields #[.ref a,.int 0 0]},fun prog w A E Q s' e' q=>?_,rfl,fun h' e'=>⟨_,e',rfl,rfl⟩⟩
  subst e'
  exact wpAny_pyIter_tuple ⟨o,k a o e,r2⟩ q
 | str l =>
  obtain⟨t,rfl⟩:=(show ∃t,v=.str (sOf l) t from rv)
  cases ha:(sOf l).cps.all (· <128)
  ·exact⟨{cls:=.type "str_iterator",data:=.fields #[.str (sOf l) t,.int 0 0]},fun prog w A E Q s' e' q=>by subst e';exact GB ha q,rfl,fun h' e'=>⟨t,.inr ⟨_,e',rfl,rfl⟩⟩⟩
  ·exact⟨{cls:=.type "str_ascii_iterator",data:=.fields #[.str (sOf l) t,.int 0 0]},fun prog w A E Q s' e' q=>by subst e';exact Gp ha q,rfl,fun h' e'=>⟨t,.inl ⟨_,e',rfl,rfl⟩⟩⟩
section
variable {P:AI} {w:AQ} {A:Bo} {E:Am->Ap->Prop} {s:Ap} {z TI TO i1 i2:Addr} {fp1 fp2:List Addr} {n1 n2 k:Nat} {P1 P2:Nat->Am->Prop} {S1 S2:Nat->Heap->Prop} {a b:Am}
structure ZApart (z TI TO i1 i2:Addr) (fp1 fp2:List Addr):Prop where
 c1:TI≠z
 c2:TO≠z
 c3:i1≠z
 c4:i2≠z
 c5:TI≠TO
 c6:TI≠i1
 c7:TI≠i2
 c8:TO≠i1
 c9:TO≠i2
 d1:z∉fp1/\TO∉fp1/\i2∉fp1
 d2:z∉fp2/\TO∉fp2/\i1∉fp2
theorem bQ {n:Nat} {it:Addr} {fp:List Addr} {Pt:Nat->Am->Prop} {S:Nat->Heap->Prop} (D:HS P w A it fp n Pt S) {j:Nat} {h h':Heap} {c:Addr} (st:S j h) (sb:Bf c h h') (hc:c∉fp):S j h':=
 D.frame _ _ _ st fun b hb o e=>(sb.2 b fun q=>hc (q▸hb)).trans e
theorem pY {Q:Option Am->Ap->Prop} (D1:HS P w A.in1 i1 fp1 n1 P1 S1) (D2:HS P w A.in1 i2 fp2 n2 P2 S2) (Z:ZApart z TI TO i1 i2 fp1 fp2) (h1:k< n1) (h2:k< n2) (hz:FC s.heap z TI TO .none)
  (hI:DJ s.heap TI (.ref i1) (.ref i2)) (hO:DJ s.heap TO a b) (t1:S1 k s.heap) (t2:S2 k s.heap)
  (q:∀x y h' tk T,P1 k x->P2 k y->T=s.heap.objs.size->FC h' z TI TO (rawInt T)->DJ h' TO x y->S1 (k+1) h'->S2 (k+1) h'->DJ h' T x y->
   (∀c o,c≠z->c≠TO->c≠i1->c≠i2->s.heap.get? c=some o->h'.get? c=some o)->Q (some (.ref T)) {s with heap:=h',toks:=tk}):
  wpAny (model P w) A (pyNext (.ref z)) Q E s:=by
 have hT:s.TypeIs (.ref z) "zip" :=⟨_,hz,rfl⟩
 unfold pyNext
 refine Aj (Dm (BC (name:=Av "__next__") hT PySem.F.slot_zip_next (Bp PySem.F.slot_zip_next hT PySem.F.entry_zip_next ?_ (PySem.F.args_zip_next_1 _))))
 obtain⟨hp,gg,dd,tk0,os⟩:=s
 show wpAny (model P w) _ (field (.ref z) 2 >>= _) _ _ _
 refine Aj (C3 hz rfl (x:=.bool false) rfl ?_)
 show wpAny (model P w) _ (field (.ref z) 3 >>= _) _ _ _
 refine Aj (C3 hz rfl (x:=.ref TI) rfl (Aj (Ci hI rfl ?_)))
 show wpAny (model P w) _ (C5 (.ref z) >>= _) _ _ _
 refine Aj ?_;unfold C5
 refine Aj (C3 hz rfl (x:=.none) rfl (An ?_));simp only[if_true]
 refine Aj (CF (Aj (C3 hz rfl (x:=.ref TO) rfl (Aj (CG hz (by simp) fun g1 y1 b1=>?_)))))
 replace y1:FC g1 z TI TO .ellipsis:=y1
 replace b1:Bf z hp g1:=b1
 refine Aj ?_;simp only[Fg,Hi,FA,FY]
 refine Aj (Aj (F4 ?_))
 show wpAny (model P w) _ (Bt (.ref i1) >>= _) _ _ _
 refine Aj (D1.item k _ _ _ h1 (bQ D1 t1 b1 Z.d1.1) fun x g2 tk2 px u1 b2=>An ?_)
 replace b2:Bf i1 g1 g2:=b2
 have O2:DJ g2 TO a b:=b2.extBut _ _ Z.c8 (b1.extBut _ _ Z.c2 hO)
 refine Aj (Ci O2 rfl (Aj (Ec O2 fun g3 O3 b3=>?_)))
 replace O3:DJ g3 TO x b:=O3
 replace b3:Bf TO g2 g3:=b3
 refine Aj (Hc (An (Aj (Aj (F4 ?_)))))
 show wpAny (model P w) _ (Bt (.ref i2) >>= _) _ _ _
 refine Aj (D2.item k _ _ _ h2 (bQ D2 (bQ D2 (bQ D2 t2 b1 Z.d2.1) b2 Z.d2.2.2) b3 Z.d2.2.1) fun y g4 tk4 py u2 b4=>An ?_)
 replace b4:Bf i2 g3 g4:=b4
 have O4:DJ g4 TO x b:=b4.extBut _ _ Z.c9 O3
 refine Aj (Ci O4 rfl (Aj (Ec O4 fun g5 O5 b5=>?_)))
 replace O5:DJ g5 TO x y:=O5
 replace b5:Bf TO g4 g5:=b5
 refine Aj (Hc (An (An (Aj (Ci O5 rfl (Aj (Hu ?_)))))))
 have sz:g5.objs.size=hp.objs.size:=by rw[b5.1,b4.1,b3.1,b2.1,b1.1]
 have y5:FC g5 z TI TO .ellipsis:=b5.extBut _ _ Z.c2.symm (b4.extBut _ _ Z.c4.symm (b3.extBut _ _ Z.c2.symm (b2.extBut _ _ Z.c3.symm y1)))
 have k5:∀c o,c≠z->c≠TO->c≠i1->c≠i2->hp.get? c=some o->g5.get? c=some o:=fun c o e1 e2 e3 e4 e=>b5.extBut _ _ e2 (b4.extBut _ _ e4 (b3.extBut _ _ e2 (b2.extBut _ _ e3 (b1.extBut _ _ e1 e))))
 have v1:S1 (k+1) g5:=bQ D1 (bQ D1 (bQ D1 u1 b3 Z.d1.2.1) b4 Z.d1.2.2) b5 Z.d1.2.1
 have v2:S2 (k+1) g5:=bQ D2 u2 b5 Z.d2.2.1
 have lz:z< g5.objs.size:=AE y5
 show wpAny (model P w) _ (DC (.ref z) (.ref g5.objs.size) >>= _) _ _ _
 refine Aj ?_;unfold DC
 have y6:FC (g5.push {cls:=.type "tuple",data:=.seq #[x,y]}) z TI TO .ellipsis:=Aq _ y5
 refine Aj (CG y6 (by simp) fun g7 y7 b7=>?_)
 replace y7:FC g7 z TI TO (rawInt g5.objs.size):=y7
 replace b7:Bf z (g5.push {cls:=.type "tuple",data:=.seq #[x,y]}) g7:=b7
 refine CG y7 (by simp) fun g8 y8 b8=>?_
 replace y8:FC g8 z TI TO (rawInt g5.objs.size):=y8
 replace b8:Bf z g7 g8:=b8
 have up:∀c o,c≠z->g5.get? c=some o->g8.get? c=some o:=fun c o e1 e=>b8.extBut _ _ e1 (b7.extBut _ _ e1 (Aq _ e))
 have T8:DJ g8 g5.objs.size x y:=b8.extBut _ _ (DO lz) (b7.extBut _ _ (DO lz) (Ax _ rfl))
 refine An ⟨_,rfl,An (q x y g8 _ g5.objs.size px py sz y8 (up _ _ Z.c2 O5) (D1.frame _ _ _ v1 fun b hb o e=>up b o (fun q=>Z.d1.1 (q▸hb)) e) (D2.frame _ _ _ v2 fun b hb o e=>up b o (fun q=>Z.d2.1 (q▸hb)) e) T8 fun c o e1 e2 e3 e4 e=>up c o e1 (k5 c o e1 e2 e3 e4 e))⟩
theorem rF {Q:Option Am->Ap->Prop} (hh:A.handled=none) (D1:HS P w A.in1 i1 fp1 n1 P1 S1) (D2:HS P w A.in1 i2 fp2 n2 P2 S2) (Z:ZApart z TI TO i1 i2 fp1 fp2) (hk:k=n1\/(k< n1/\k=n2)) (hz:FC s.heap z TI TO .none)
  (hI:DJ s.heap TI (.ref i1) (.ref i2)) (hO:DJ s.heap TO a b) (t1:S1 k s.heap) (t2:S2 k s.heap)
  (q:∀h' tk,(∀c o,c≠z->c≠TO->c≠i1->c≠i2->s.heap.get? c=some o->h'.get? c=some o)->Q none {s with heap:=h',toks:=tk}):
  wpAny (model P w) A (pyNext (.ref z)) Q E s:=by
 have hT:s.TypeIs (.ref z) "zip" :=⟨_,hz,rfl⟩
 unfold pyNext
 refine Aj (Dm (BC (name:=Av "__next__") hT PySem.F.slot_zip_next (Bp PySem.F.slot_zip_next hT PySem.F.entry_zip_next ?_ (PySem.F.args_zip_next_1 _))))
 obtain⟨hp,gg,dd,tk0,os⟩:=s
 show wpAny (model P w) _ (field (.ref z) 2 >>= _) _ _ _
 refine Aj (C3 hz rfl (x:=.bool false) rfl ?_)
 show wpAny (model P w) _ (field (.ref z) 3 >>= _) _ _ _
 refine Aj (C3 hz rfl (x:=.ref TI) rfl (Aj (Ci hI rfl ?_)))
 show wpAny (model P w) _ (C5 (.ref z) >>= _) _ _ _
 refine Aj ?_;unfold C5
 refine Aj (C3 hz rfl (x:=.none) rfl (An ?_));simp only[if_true]
 refine Aj (CF (Aj (C3 hz rfl (x:=.ref TO) rfl (Aj (CG hz (by simp) fun g1 y1 b1=>?_)))))
 replace y1:FC g1 z TI TO .ellipsis:=y1
 replace b1:Bf z hp g1:=b1
 refine Aj ?_;simp only[Fg,Hi,FA,FY]
 refine Aj (Aj (F4 ?_))
 show wpAny (model P w) _ (Bt (.ref i1) >>= _) _ _ _
 rcases hk with hk | ⟨hk1,hk2⟩
 ·subst hk
  refine Aj (D1.done _ _ _ (bQ D1 t1 b1 Z.d1.1) fun g2 e b2 he=>?_)
  obtain⟨oe,hoe,hce⟩:=he
  replace b2:EW i1 g1 g2:=b2
  have y2:FC g2 z TI TO .ellipsis:=b2 _ _ Z.c3.symm y1
  have ez:e≠z:=fun x=>by subst x;rw[y2]at hoe;cases hoe;simp at hce
  refine CG y2 (by simp) fun g3 _ b3=>?_
  exact Aj (Dz (T:="StopIteration") (b:=true) ⟨oe,b3.extBut _ _ ez hoe,hce⟩ EA (An (q g3 _ fun c o e1 _ e3 _ x=>b3.extBut _ _ e1 (b2 _ _ e3 (b1.extBut _ _ e1 x)))))
 ·subst hk2
  refine Aj (D1.item k _ _ _ hk1 (bQ D1 t1 b1 Z.d1.1) fun x g2 tk2 px u1 b2=>An ?_)
  replace b2:Bf i1 g1 g2:=b2
  have O2:DJ g2 TO a b:=b2.extBut _ _ Z.c8 (b1.extBut _ _ Z.c2 hO)
  refine Aj (Ci O2 rfl (Aj (Ec O2 fun g3 O3 b3=>?_)))
  replace b3:Bf TO g2 g3:=b3
  refine Aj (Hc (An (Aj (Aj (F4 ?_)))))
  show wpAny (model P w) _ (Bt (.ref i2) >>= _) _ _ _
  refine Aj (D2.done _ _ _ (bQ D2 (bQ D2 (bQ D2 t2 b1 Z.d2.1) b2 Z.d2.2.2) b3 Z.d2.2.1) fun g4 e b4 he=>?_)
  obtain⟨oe,hoe,hce⟩:=he
  replace b4:EW i2 g3 g4:=b4
  have y4:FC g4 z TI TO .ellipsis:=b4 _ _ Z.c4.symm (b3.extBut _ _ Z.c2.symm (b2.extBut _ _ Z.c3.symm y1))
  have ez:e≠z:=fun x=>by subst x;rw[y4]at hoe;cases hoe;simp at hce
  refine CG y4 (by simp) fun g5 _ b5=>?_
  exact Aj (Dz (T:="StopIteration") (b:=true) ⟨oe,b5.extBut _ _ ez hoe,hce⟩ EA (An (q g5 _ fun c o e1 e2 e3 e4 x=>b5.extBut _ _ e1 (b4 _ _ e4 (b3.extBut _ _ e2 (b2.extBut _ _ e3 (b1.extBut _ _ e1 x)))))))
end
def yb (K:PySem.W.Frag) (c1 c2:Src):It:=
  ⟨fun i H=>∃xs ys x y,c1.has K H xs/\c2.has K H ys/\xs[i]? =some x/\ys[i]? =some y,
   fun i H v H'=>∃p x y,H p=none/\v=.ref p/\(∀xs,c1.has K H xs->xs[i]? =some x)/\(∀ys,c2.has K H ys->ys[i]? =some y)/\H'=cJ H p (.tup [x,y]),
   fun i H=>∃xs ys,c1.has K H xs/\c2.has K H ys/\(i=xs.length\/(i< xs.length/\i=ys.length))⟩
theorem Src.inj {X:Cx} {pins:List (Addr×Obj)} {σ:St} {H:Hp} {s:Ap} {c:Src} {xs ys:List V} (I:Inv X pins σ H s) (h1:c.has X.K H xs) (h2:c.has X.K H ys):xs=ys:=by
 cases c with
 | lst a=>exact I.list_inj h1 h2
 | tup a=>exact I.tuple_inj h1 h2
 | str l=>exact Eq.trans h1 (Eq.symm h2)
theorem Src.at_keep {c:Src} {it:Addr} {i:Nat} {h h':Heap} (st:c.at it i h) (k:∀o,h.get? it=some o->h'.get? it=some o):c.at it i h':=by
 cases c with
 | lst a=>obtain⟨o,e,r⟩:=st;exact⟨o,k o e,r⟩
 | tup a=>obtain⟨o,e,r⟩:=st;exact⟨o,k o e,r⟩
 | str l =>
  obtain⟨t,st⟩:=st
  rcases st with⟨o,e,r⟩ | ⟨o,e,r⟩
  ·exact⟨t,.inl ⟨o,k o e,r⟩⟩
  ·exact⟨t,.inr ⟨o,k o e,r⟩⟩
theorem Src.at_obj {c:Src} {it:Addr} {i:Nat} {h:Heap} (st:c.at it i h):∃o,h.get? it=some o/\∃vs,o.data=.fields vs:=by
 cases c with
 | lst a=>obtain⟨o,e,_,r⟩:=st;exact⟨o,e,_,r⟩
 | tup a=>obtain⟨o,e,_,r⟩:=st;exact⟨o,e,_,r⟩
 | str l =>
  obtain⟨t,st⟩:=st
  rcases st with⟨o,e,_,r⟩ | ⟨o,e,_,r⟩
  ·exact⟨o,e,_,r⟩
  ·exact⟨o,e,_,r⟩
def zL (c1 c2:Src) (z TI TO i1 i2:Addr) (i:Nat) (h:Heap):Prop:=FC h z TI TO .none/\DJ h TI (.ref i1) (.ref i2)/\(∃a b,DJ h TO a b)/\c1.at i1 i h/\c2.at i2 i h
structure ZIds (z TI TO i1 i2:Addr):Prop where
 c1:TI≠z
 c2:TO≠z
 c3:i1≠z
 c4:i2≠z
 c5:TI≠TO
 c6:TI≠i1
 c7:TI≠i2
 c8:TO≠i1
 c9:TO≠i2
 c10:i1≠i2
theorem rG {X:Cx} {pins:List (Addr×Obj)} {σ:St} {H:Hp} {s:Ap} {z TI TO i1 i2:Addr} {fp1 fp2:List Addr} (I:Inv X pins σ H s) (Z:ZIds z TI TO i1 i2) (hf:∀b∈[z,TI,TO,i1,i2],FpOk X pins H b)
  (g1:∀b∈fp1,b=i1\/H b≠none\/∃o,X.base.get? b=some o) (g2:∀b∈fp2,b=i2\/H b≠none\/∃o,X.base.get? b=some o):ZApart z TI TO i1 i2 fp1 fp2:=by
 have no:∀b∈[z,TI,TO,i1,i2],¬(H b≠none\/∃o,X.base.get? b=some o):=fun b hb q=>by
  rcases q with q | ⟨o,q⟩
  ·exact q (hf b hb).1
  ·rcases (hf b hb).2.2.2.1 with y | y
   ·exact I.ok.noex b o q y
   ·exact absurd (AF (AF (AE q) I.ok.bsz) y) (BZ _)
 refine⟨Z.c1,Z.c2,Z.c3,Z.c4,Z.c5,Z.c6,Z.c7,Z.c8,Z.c9,⟨fun m=>?_,fun m=>?_,fun m=>?_⟩,⟨fun m=>?_,fun m=>?_,fun m=>?_⟩⟩
 ·exact(g1 _ m).elim (fun e=>Z.c3 e.symm) (no z (by simp))
 ·exact(g1 _ m).elim (fun e=>Z.c8 e) (no TO (by simp))
 ·exact(g1 _ m).elim (fun e=>Z.c10 e.symm) (no i2 (by simp))
 ·exact(g2 _ m).elim (fun e=>Z.c4 e.symm) (no z (by simp))
 ·exact(g2 _ m).elim (fun e=>Z.c9 e) (no TO (by simp))
 ·exact(g2 _ m).elim (fun e=>Z.c10 e) (no i1 (by simp))
theorem rH {P:AI} {w:AQ} {K:PySem.W.Frag} {elts:List Expr} {kk:Nat} {tp:Pos} (c1 c2:Src) (z TI TO i1 i2:Addr) (Z:ZIds z TI TO i1 i2):
  Turn P w K (.Tuple elts kk tp) (yb K c1 c2) [z,TI,TO,i1,i2] z (zL c1 c2 z TI TO i1 i2) where
 mem:=by simp
 obj:=fun i h st b hb=>by
  obtain⟨hz,hI,⟨a,b',hO⟩,t1,t2⟩:=st
  obtain⟨o1,e1,v1,d1⟩:=Src.at_obj t1
  obtain⟨o2,e2,v2,d2⟩:=Src.at_obj t2
  simp only[AR,CC,or_false]at hb
  rcases hb with rfl | rfl | rfl | rfl | rfl
  ·exact⟨_,hz,fun v q=>by cases (show FV _=Ew v from q)⟩
  ·exact⟨_,hI,fun v q=>by cases (show Ht _ _=Ew v from q)⟩
  ·exact⟨_,hO,fun v q=>by cases (show Ht _ _=Ew v from q)⟩
  ·exact⟨_,e1,fun v q=>by rw[d1]at q;cases q⟩
  ·exact⟨_,e2,fun v q=>by rw[d2]at q;cases q⟩
 keep:=fun i h h' st k=>by
  obtain⟨hz,hI,⟨a,b',hO⟩,t1,t2⟩:=st
  exact⟨k z (by simp) _ hz,k TI (by simp) _ hI,⟨a,b',k TO (by simp) _ hO⟩,Src.at_keep t1 (k i1 (by simp)),Src.at_keep t2 (k i2 (by simp))⟩
 item:=by
  intro X hP hw hK hc i pins s σ H E I hf st hg
  subst hP hw hK
  obtain⟨xs,ys,x,y,hx,hy,ex,ey⟩:=hg
  obtain⟨hz,hI,⟨a,b',hO⟩,t1,t2⟩:=st
  have hh:X.A.in1.handled=none:=I.ok.hd hc
  obtain⟨fp1,P1,S1,D1,u1,r1,a1,_,g1⟩:=Src.draws (A:=X.A.in1) hh I hx t1 (hf i1 (by simp)).1
  obtain⟨fp2,P2,S2,D2,u2,r2,a2,_,g2⟩:=Src.draws (A:=X.A.in1) hh I hy t2 (hf i2 (by simp)).1
  have ZA:=rG I Z hf g1 g2
  refine pY D1 D2 ZA (Az.mp ex).1 (Az.mp ey).1 hz hI hO u1 u2 fun vx vy h' tk T px py hT hz' hO' w1 w2 hTp kp=>?_
  obtain⟨x',ex',rx⟩:=r1 i vx px
  obtain⟨y',ey',ry⟩:=r2 i vy py
  rw[ex]at ex';cases ex'
  rw[ey]at ey';cases ey'
  have nT:H T=none:=by rw[hT];exact I.hok.fresh (Au _)
  refine⟨_,rfl,wpAny_letOwnedTupleGo_zip hz' fun h2 hz2 sb=>?_⟩
  have lt:∀{c o},s.heap.get? c=some o->c≠T:=fun e=>by rw[hT];exact AY (AE e)
  have up:∀c o,c≠z->h'.get? c=some o->h2.get? c=some o:=fun c o hc e=>(sb.2 c hc).trans e
  have kp2:∀b o,b∉[z,TO,i1,i2]->s.heap.get? b=some o->h2.get? b=some o:=fun b o hb e=>by
   simp only[AR,CC,or_false,not_or]at hb
   exact up b o hb.1 (kp b o hb.1 hb.2.1 hb.2.2.1 hb.2.2.2 e)
  have ch:∀b∈[z,TO,i1,i2],b∈[z,TI,TO,i1,i2]:=fun b hb=>by
   simp only[AR,CC,or_false]at hb ⊢
   rcases hb with h | h | h | h <;> simp[h]
  have nc:∀b u,H b=some u->b∉[z,TO,i1,i2]/\b≠T:=fun b u e=>⟨fun hb=>(by rw[(hf b (ch b hb)).1]at e;cases e),fun q=>(by rw[q,nT]at e;cases e)⟩
  have I2:Inv X pins σ (cJ H T (.tup [x,y])) {s with heap:=h2,gens:=s.gens,drawn:=s.drawn,toks:=tk} :=by
   refine I.step (g':=s.gens) (d':=s.drawn) (t':=tk) (ch:=[z,TO,i1,i2]) (fun b hb=>⟨(hf b (ch b hb)).2.2.2.1,(hf b (ch b hb)).2.1,(hf b (ch b hb)).2.2.2.2.1,(hf b (ch b hb)).2.2.2.2.2⟩) (fun b o _ _ hb e _=>kp2 b o hb e) (fun b o _ _ hb e _=>⟨o.slots,kp2 b o hb e⟩)
    (fun b o hb e n=>by rw[aH (lt e)];exact n) (fun b o hb e=>⟨o,kp2 b o hb e⟩) (fun b xs e=>by rw[aH (nc b _ e).2];exact e) (fun b o u e=>by rw[aH (nc b _ e).2];exact e) (fun b ps e=>⟨#[],by rw[aH (nc b _ e).2,e];simp⟩) (fun m hm=>?_) (fun b u e=>?_) I.bare
   ·obtain⟨o,es,ep,ho,r⟩:=hm
    exact⟨o,es,ep,kp2 _ o (fun hb=>(hf _ (ch _ hb)).2.1 rfl) ho,r⟩
   ·by_cases hb:b=T
    ·subst hb
     rw[aF]at e;cases e
     refine⟨(by show 2<=sizeLine;rw[BU];decide),[vx,vy],.cons rx (.cons ry .nil),⟨_,up _ _ ?_ hTp,⟨rfl,rfl⟩,_,rfl⟩⟩
     exact fun q=>lt hz q.symm
    ·rw[aH hb]at e
     refine(I.hok b u e).stay (fun c v hc q=>kp2 c v ?_ q) (fun c q=>by rw[aH (nc c _ q).2];exact q) fun c xs q=>by rw[aH (nc c _ q).2];exact q
     rcases hc with q | q
     ·rw[q];exact(nc b u e).1
     ·exact(nc c _ q).1
  refine⟨.ref T,_,I2,rfl,⟨T,x,y,nT,rfl,fun xs' h=>by rw[Src.inj I h hx];exact ex,fun ys' h=>by rw[Src.inj I h hy];exact ey,rfl⟩,⟨hz2,up _ _ Z.c1 (kp _ _ Z.c1 Z.c5 Z.c6 Z.c7 hI),⟨_,_,up _ _ Z.c2 hO'⟩,Src.at_keep (a1 _ _ w1) fun o e=>up _ o Z.c3 e,Src.at_keep (a2 _ _ w2) fun o e=>up _ o Z.c4 e⟩,fun b hb=>?_⟩
  have hbT:b≠T:=by
   obtain⟨o,e⟩:∃o,s.heap.get? b=some o:=by
    obtain⟨o1,e1,_⟩:=Src.at_obj t1
    obtain⟨o2,e2,_⟩:=Src.at_obj t2
    simp only[AR,CC,or_false]at hb
    rcases hb with rfl | rfl | rfl | rfl | rfl
    ·exact⟨_,hz⟩
    ·exact⟨_,hI⟩
    ·exact⟨_,hO⟩
    ·exact⟨_,e1⟩
    ·exact⟨_,e2⟩
   exact lt e
  rw[aH hbT]
  exact(hf b hb).1
 done:=by
  intro X hP hw hK hc i pins s σ H E I hf st hg
  subst hP hw hK
  obtain⟨xs,ys,hx,hy,hend⟩:=hg
  obtain⟨hz,hI,⟨a,b',hO⟩,t1,t2⟩:=st
  have hh:X.A.in1.handled=none:=I.ok.hd hc
  obtain⟨fp1,P1,S1,D1,u1,r1,a1,_,g1⟩:=Src.draws (A:=X.A.in1) hh I hx t1 (hf i1 (by simp)).1
  obtain⟨fp2,P2,S2,D2,u2,r2,a2,_,g2⟩:=Src.draws (A:=X.A.in1) hh I hy t2 (hf i2 (by simp)).1
  have ZA:=rG I Z hf g1 g2
  have ch:∀b∈[z,TO,i1,i2],b∈[z,TI,TO,i1,i2]:=fun b hb=>by
   simp only[AR,CC,or_false]at hb ⊢
   rcases hb with h | h | h | h <;> simp[h]
  refine rF hh D1 D2 ZA hend hz hI hO u1 u2 fun h2 tk kp=>⟨rfl,?_⟩
  have kp2:∀b o,b∉[z,TO,i1,i2]->s.heap.get? b=some o->h2.get? b=some o:=fun b o hb e=>by
   simp only[AR,CC,or_false,not_or]at hb
   exact kp b o hb.1 hb.2.1 hb.2.2.1 hb.2.2.2 e
  refine I.step (g':=s.gens) (d':=s.drawn) (t':=tk) (ch:=[z,TO,i1,i2]) (fun b hb=>⟨(hf b (ch b hb)).2.2.2.1,(hf b (ch b hb)).2.1,(hf b (ch b hb)).2.2.2.2.1,(hf b (ch b hb)).2.2.2.2.2⟩) (fun b o _ _ hb e _=>kp2 b o hb e) (fun b o _ _ hb e _=>⟨o.slots,kp2 b o hb e⟩)
   (fun b o hb e n=>n) (fun b o hb e=>⟨o,kp2 b o hb e⟩) (fun b xs e=>e) (fun b o u e=>e) (fun b ps e=>⟨#[],by rw[e];simp⟩) (fun m hm=>?_) (fun b u e=>?_) I.bare
  ·obtain⟨o,es,ep,ho,r⟩:=hm
   exact⟨o,es,ep,kp2 _ o (fun hb=>(hf _ (ch _ hb)).2.1 rfl) ho,r⟩
  ·have nc:∀b u,H b=some u->b∉[z,TO,i1,i2]:=fun b u e hb=>by rw[(hf b (ch b hb)).1]at e;cases e
   refine(I.hok b u e).stay (fun c v hc q=>kp2 c v ?_ q) (fun c q=>q) fun c xs q=>q
   rcases hc with q | q
   ·rw[q];exact nc b u e
   ·exact nc c _ q
 self:=fun _ _ _ _ _ st h=>GR st.1 h
theorem ud (n a b:Nat) (h:a≠b): @Ne Nat (n+a) (n+b):=fun e=>h (Nat.add_left_cancel e)
def wH (K:PySem.W.Frag) (t:TA):TI:=fun σ H R=>t σ H fun vs H1=>∃c1 c2 xs ys,vs=[c1.val,c2.val]/\c1.has K H1 xs/\c2.has K H1 ys/\R (yb K c1 c2) H1
theorem wI {X:Cx} {a b:Expr} {ta:TA} {p pos tp:Pos} {elts:List Expr} {kk:Nat} (hg:Gl X "zip") (hm:X.mg "zip" =none) (ha:PA X [a,b] ta)
  (hs:starEach [a,b] X.env=[(false,eval a X.env),(false,eval b X.env)]:=by rfl) (hs2:starEach [b] X.env=[(false,eval b X.env)]:=by rfl):PI X (.Tuple elts kk tp) (.Call (.Name "zip" p) [a,b] [] pos) (wH X.K ta):=by
 intro pins s σ H R I h
 refine Call_ (fZ I hg hm boot_zip (Ce (bM (ha pos pins s σ H _ I h) fun us s1 ⟨vs,H1,I1,r1,q1⟩=>?_) (by rw[hs,hs2]) (by rw[hs2];rfl)))
 obtain⟨c1,c2,xs,ys,e,h1,h2,q⟩:=q1
 subst e
 obtain⟨v1,v2,rfl,ra,rb⟩:=vW r1
 obtain⟨o1,i1,f1,n1⟩:=Src.iter I1 h1 ra fun _ _ e=>e
 obtain⟨o2,i2,f2,n2⟩:=Src.iter (h:=s1.heap.push o1) I1 h2 rb fun _ _ e=>Aq _ e
 have z1:(s1.heap.push o1).objs.size=s1.heap.objs.size+1:=Cg ..
 rw[z1]at n2
 refine pX i1 i2 f1 f2 fun h' hz hI hO e1 e2 kp=>?_
 refine GR hz ?_
 have zi:∀n:Nat,ZIds (n+4) (n+2) (n+3) n (n+1):=fun n=>⟨(ud n 2 4 (by decide)),(ud n 3 4 (by decide)),(ud n 0 4 (by decide)),(ud n 1 4 (by decide)),(ud n 2 3 (by decide)),(ud n 2 0 (by decide)),(ud n 2 1 (by decide)),(ud n 3 0 (by decide)),(ud n 3 1 (by decide)),(ud n 0 1 (by decide))⟩
 refine⟨s1.heap.objs.size+4,[s1.heap.objs.size+4,s1.heap.objs.size+2,s1.heap.objs.size+3,s1.heap.objs.size,s1.heap.objs.size+1],_,_,H1,rfl,I1.kept (t':=s1.toks) kp,rH c1 c2 _ _ _ _ _ (zi s1.heap.objs.size),⟨hz,hI,⟨_,_,hO⟩,n1 h' e1,n2 h' e2⟩,fun b hb=>?_,q⟩
 have hb':s1.heap.objs.size<=b:=by
  simp only[AR,CC,or_false]at hb
  rcases hb with z | z | z | z | z <;> rw[z]
  ·exact D3 _ 4
  ·exact D3 _ 2
  ·exact D3 _ 3
  ·exact Au _
  ·exact D3 _ 1
 exact I1.fpOk hb' (I1.hok.fresh hb')
theorem uB {K:PySem.W.Frag} {c1 c2:Src} {xs ys:List V} {g:TG} {tb:TS} {D:Ends} {σ:St} {H:Hp} (Pv:Nat->St->Hp->Prop) (h0:Pv 0 σ H) (hl:∀i σ H,Pv i σ H->c1.has K H xs/\c2.has K H ys) (hn:xs.length=ys.length)
  (hs:∀i x y p σ H,xs[i]? =some x->ys[i]? =some y->H p=none->Pv i σ H->g (.ref p) σ (cJ H p (.tup [x,y])) fun σ2 H2=>tb {D with nx:=Pv (i+1),ct:=Pv (i+1),bk:=D.nx} σ2 H2) (hd:∀σ H,Pv xs.length σ H->D.nx σ H):
  ∃ W : Nat -> Nat -> St -> Hp -> Prop, (∃ m, W 0 m σ H) /\ ∀ i m σ H, W i m σ H ->
   ((yb K c1 c2).stop i H/\D.nx σ H)\/((yb K c1 c2).go i H/\∃N:St->Hp->Prop,(∀σ' H',N σ' H'->∃m',m'< m/\W (i+1) m' σ' H')/\∀x H',(yb K c1 c2).yld i H x H'->g x σ H' fun σ2 H2=>tb {D with nx:=N,ct:=N,bk:=D.nx} σ2 H2):=by
 refine⟨fun i m σ H=>m=xs.length- i/\i<=xs.length/\Pv i σ H,⟨xs.length,by simp,AS _,h0⟩,?_⟩
 rintro i m σ H ⟨rfl,hi,p⟩
 obtain⟨q1,q2⟩:=hl i σ H p
 by_cases hlt:i< xs.length
 ·refine .inr ⟨⟨xs,ys,xs[i],ys[i],q1,q2,by simp[hlt],by simp[<-hn,hlt]⟩,Pv (i+1),fun σ' H' p'=>⟨xs.length- (i+1),by omega,rfl,hlt,p'⟩,fun v H' ⟨a,x,y,na,ev,ex,ey,eh⟩=>?_⟩
  subst ev eh
  exact hs i x y a σ H (ex xs q1) (ey ys q2) na p
 ·have e:i=xs.length:=by omega
  subst e
  exact .inl ⟨⟨xs,ys,q1,q2,.inl rfl⟩,hd σ H p⟩
structure Cal (P:AI) (w:AQ) (K:PySem.W.Frag) (mg:Str->Option Am) (base:Heap) (x:Str) (ps:List Str) (k:Nat) (sp:Sp):Prop where
 ex:∃(f:Addr) (fd:AZ),FnOk P w K mg base CX0 k f fd ps sp/\mg x=some (.ref f)/\PySem.W.keepIn K (.ref f)=true/\Binds K fd ps []
theorem ar {X:Cx} {x:Str} {ps:List Str} {k:Nat} {sp:Sp} {p pos:Pos} {e:Expr} {es:List Expr} {t:TA} (C:Cal X.prog X.w X.K X.mg X.base x ps k sp) (hr:Room k X.A) (hg:Gl X x) (ha:PA X (e::es) t)
  (hdb:(x == ("__debug__" :Str))=false:=by decide) (he:starEach (e::es) X.env=(false,eval e X.env)::starEach es X.env:=by rfl) (hpl:(backTo pos (starEach es X.env)).any (·.1)=false:=by rfl):
  PE X (.Call (.Name x p) (e::es) [] pos) (aS sp [] E0 t):=by
 obtain⟨f,fd,F,hm,hk,hb⟩:=C.ex
 exact ur F hr hg hm hk hb .nil xV ha hdb he hpl
theorem gS {X:Cx} {scope:Dj} {N:List Str} {cap:List (Option Nat)} (kind:scope.kind=.function) (nd:N.Nodup) (len:cap.length=N.length) (uniq:(scope.names.map (·.1)).Nodup)
  (fr:(scope.names.all fun x=>x.2 != .free || (X.env.kindOf x.1 == some .cell || X.env.kindOf x.1 == some .free))=true)
  (cp:((N.zip cap).all fun p=>match p.2 with | none=>true | some j=>X.N[j]? == some p.1 && scope.names.contains (p.1,BM))=true):CompScope X scope N cap:=by
 refine⟨kind,nd,len,uniq,fun x hx hk=>?_,fun k x j h1 h2=>?_⟩
 ·have:=GS.mp fr x hx
  rw[hk]at this
  simpa using this
 ·have hm:(x,some j)∈N.zip cap:=by
   rw[DY]
   exact⟨k,by rw[EL];exact⟨h1,h2⟩⟩
  have:=GS.mp cp _ hm
  simpa using this
def flat:V->Bool
 | .non=>true
 | .bl _=>true
 | .int _=>true
 | .str _=>true
 | _=>false
theorem cB {H:Hp} {p:Addr} {o:HO} (h:H p=none):Same H (cJ H p o):=fun b u e=>by rw[aH (bT e h)];exact e
theorem fU (x:String) (l:List Nat) (h:(Av x).cps.toList=l):Av x=sOf l:=by rw[rp (Av x),h]
section
variable {X:Cx} {K:PySem.W.Frag} {w:AQ}
theorem aN (h:X.K=K):xu X (cf K):=h▸wB
theorem bG (h:X.K=K):xu X (bW K):=h▸uw
theorem cH (h:X.K=K):dv X (.builtin "len") (fun xs H Q=>∃x n,xs=[x]/\pM K x H n/\Q (.int n) H):=h▸rh
theorem aT (h:X.K=K):dv X (.builtin "isinstance") (fun xs H Q=>∃x T t b,xs=[x,.ty T]/\TyOf K H x t/\PySem.W.kitOne K t (.type T)=some b/\Q (.bl b) H):=h▸lF
theorem rJ (h:X.K=K):xR X "str.join" (fun x xs H Q=>∃(p:Addr) (ys:List (List Nat)),x=.str (sOf [])/\xs=[.ref p]/\SqL K H p (ys.map fun y=>Eh (sOf y))/\ys.flatten.length<=100000/\Q (.str (sOf ys.flatten)) H):=h▸uA
theorem iU (h:X.K=K):yE X (cg K):=h▸ux
theorem jN (h:X.K=K) (hw:X.w=w) {o i:Expr} {pos:Pos} {td ty:TE} (ho:PE X o td) (hi:PE X i ty) (hs:rm i):PE X (.Subscript o i pos) (aL K w td ty):=h▸hw▸rq ho hi hs
theorem cA (h:X.K=K) {pos:Pos} {es:List Expr} {k:Nat} {t:vS} {n:Nat} (hc:X.calm=true) (hg:xJ X es t) (hn:(assignEach es X.env).length=n:=by rfl) (hst:(assignEach es X.env).findIdx? (·.1)=none:=by rfl):PG X (.Tuple es k pos) (bU K n t):=h▸wu hc hg hn hst
theorem cC (h:X.K=K) {tg l:Expr} {tl:TE} (hl:PE X l tl):PI X tg l (r6 K tl):=h▸uk hl
theorem gk (h:X.K=K) {a b:Expr} {ta:TA} {p pos tp:Pos} {elts:List Expr} {kk:Nat} (hg:Gl X "zip") (hm:X.mg "zip" =none) (ha:PA X [a,b] ta)
  (hs:starEach [a,b] X.env=[(false,eval a X.env),(false,eval b X.env)]:=by rfl) (hs2:starEach [b] X.env=[(false,eval b X.env)]:=by rfl):PI X (.Tuple elts kk tp) (.Call (.Name "zip" p) [a,b] [] pos) (wH K ta):=h▸wI hg hm ha hs hs2
theorem nu (h:X.K=K) {o e:Expr} {es:List Expr} {to:TE} {t:TA} {name:Str} {apos cpos:Pos} {T id:String} {r:V->List V->Hp->VK->Prop} (pa:PlainAttrs T) (slot:Slot T name id) (hty:typeOf (.builtin id)=pure (.type "method_descriptor")) (hm:xR X id r) (ho:PE X o to) (ha:PA X (e::es) t)
  (hbase:attributeBase o name X.env (eval o X.env)=eval o X.env:=by rfl)
  (hfew:((backTo cpos (starEach (e::es) X.env)).all (fun x=> !x.1) && (backToKw cpos (keywordEach [] X.env)).all (fun x=>x.1.isSome) && decide ((e::es).length+([]:List Fp).length+(if([]:List Fp).isEmpty then 0 else 1)< 30))=true:=by rfl)
  (hline:(apos.endLine == cpos.line)=true:=by rfl) (hs:starEach (e::es) X.env=(false,eval e X.env)::starEach es X.env:=by rfl) (hplain:(backTo cpos (starEach es X.env)).any (·.1)=false:=by rfl):
  PE X (.Call (.Attribute o name apos) (e::es) [] cpos) (dO K T r to t):=h▸xT pa slot hty hm ho ha hbase hfew hline hs hplain
end
end L2
namespace Wb
open PySem L2
abbrev Rp (α:Type):=Hp->α->V->Prop
class Mono {α:Type} (R:Rp α):Prop where
 mono:∀{H H':Hp} {m:α} {v:V},Same H H'->R H m v->R H' m v
def LR {α:Type} (R:Rp α) (H:Hp) (ms:List α) (vs:List V):Prop:=vs.length=ms.length/\∀(i:Nat) (v:V) (m:α),vs[i]? =some v->ms[i]? =some m->R H m v
theorem LR.nil {α:Type} {R:Rp α} {H:Hp} :LR R H [] []:=⟨rfl,fun i v m e=>by simp at e⟩
theorem LR.same {α:Type} {R:Rp α} [Mono R] {H H':Hp} {ms:List α} {vs:List V} (h:LR R H ms vs) (e:Same H H'):LR R H' ms vs:=⟨h.1,fun i v m a b=>Mono.mono e (h.2 i v m a b)⟩
theorem LR.snoc {α:Type} {R:Rp α} {H:Hp} {ms:List α} {vs:List V} {m:α} {v:V} (h:LR R H ms vs) (r:R H m v):LR R H (ms++ [m]) (vs++ [v]):=by
 refine⟨by simp[h.1],fun i v' m' a b=>?_⟩
 by_cases hi:i< vs.length
 ·rw[AU hi]at a
  rw[AU (by rw[<-h.1];exact hi)]at b
  exact h.2 i v' m' a b
 ·rw[AL (by omega)]at a
  rw[AL (by rw[<-h.1];omega)]at b
  rw[<-h.1]at b
  cases e:i- vs.length with
  | zero=>rw[e]at a b;simp at a b;subst a b;exact r
  | succ n=>rw[e]at a;simp at a
theorem LR.get {α:Type} {R:Rp α} {H:Hp} {ms:List α} {vs:List V} {i:Nat} {m:α} (h:LR R H ms vs) (e:ms[i]? =some m):∃v,vs[i]? =some v/\R H m v:=by
 have hi:i< vs.length:=by rw[h.1];exact(Az.mp e).1
 exact⟨vs[i],by simp[hi],h.2 i _ m (by simp[hi]) e⟩
def isL {α:Type} (R:Rp α):Rp (List α):=fun H ms v=>∃p vs,v=.ref p/\H p=some (.lst vs)/\LR R H ms vs
instance zkeep1 {α:Type} {R:Rp α} [Mono R]:Mono (isL R):=⟨fun e ⟨p,vs,h1,h2,h3⟩=>⟨p,vs,h1,e _ _ h2,h3.same e⟩⟩
def isS:Rp (List Nat):=fun _ l v=>v=.str (sOf l)
instance zkeep2:Mono isS:=⟨fun _ h=>h⟩
def isI:Rp Int:=fun _ l v=>v=.int l
instance zkeep4:Mono isI:=⟨fun _ h=>h⟩
theorem LR.str {H:Hp} {ms:List (List Nat)} {vs:List V} (h:LR isS H ms vs):vs=ms.map fun l=>Eh (sOf l):=by
 refine Cj fun i=>?_
 rw[Ay]
 cases e:ms[i]? with
 | none=>rw[BF]at e;rw[BF.mpr (by rw[h.1];exact e)];rfl
 | some m=>obtain⟨v,a,b⟩:=h.get e;rw[a];cases b;rfl
end Wb
open Wb.Mono renaming mono->Al
namespace L2
open PySem PySem.Spec PyProof.Rows
section
variable {X:Cx} {K:PySem.W.Frag} {w:AQ}
theorem jA (h:X.K=K):dv X (.type "list") (fun xs H Q=>∃p ys,xs=[.ref p]/\(SqL K H p ys\/SqT K H p ys)/\∀l,H l=none->Q (.ref l) (cJ H l (.lst ys))):=h▸kB
end
end L2
namespace Wb
open PySem L2
theorem LR.take {α:Type} {R:Rp α} {H:Hp} {ms:List α} {vs:List V} (h:LR R H ms vs) (k:Nat):LR R H (ms.take k) (vs.take k):=by
 refine⟨by simp[h.1],fun i v m a b=>?_⟩
 rw[List.getElem?_take]at a b
 split at a
 ·rw[if_pos (by assumption)]at b;exact h.2 i v m a b
 ·cases a
theorem LR.drop {α:Type} {R:Rp α} {H:Hp} {ms:List α} {vs:List V} (h:LR R H ms vs) (k:Nat):LR R H (ms.drop k) (vs.drop k):=by
 refine⟨by simp[h.1],fun i v m a b=>?_⟩
 rw[Bw]at a b
 exact h.2 _ v m a b
theorem aQ {H H':Hp} {p:Addr} (e:Same H H') (h:H' p=none):H p=none:=by
 cases z:H p with
 | none=>rfl
 | some x=>have:=e _ _ z;rw[h]at this;cases this
theorem pZ {H H3:Hp} {p:Addr} {o:HO} (e:Same H H3) (h:H p=none):Same H (cJ H3 p o):=fun a u z=>by
 rw[aH (bT z h)];exact e _ _ z
end Wb
namespace L2
open PySem PySem.Spec PyProof.Rows
section
variable {X:Cx} {K:PySem.W.Frag} {w:AQ}
theorem q0 (hc:X.calm=true) (h:X.K=K):dv X (.builtin "sum") (fun xs H Q=>∃(p:Addr) (ns:List Int),xs=[.ref p]/\SqL K H p (ns.map D8)/\Q (.int ns.sum) H):=by
 subst h
 intro pins s σ H xs us Q I r h
 obtain⟨p,ns,rfl,hq,q⟩:=h
 obtain⟨u,rfl,rx⟩:=f6 r
 cases rx
 obtain⟨its,r',pl,hz⟩:=I.list hq
 have hi:=iL r'
 obtain⟨xs,hx⟩:=hi.allInts.items
 have hl':s.heap.IsList p (intItems xs):=hx▸pl.isList
 refine sum_intListG (I.ok.hd hc) hl' fun h' tk t' hk=>?_
 have e1:ns=xs.toList.map (·.1):=by
  rw[<-nums_intItems,<-hx]
  exact(show numsOf its.toArray.toList=ns from hi.numsOf).symm
 have e2:preSum (numAt xs) xs.size=ns.sum:=by
  rw[preSum_eq,Df (by simp),e1]
 rw[e2]
 exact⟨.int ns.sum,H,I.kept hk,⟨_,rfl⟩,q⟩
end
theorem lJ:∀(xs:List V) (us:List Am),us.length=xs.length->(∀(j:Nat) (x:V) (u:Am),xs[j]? =some x->us[j]? =some u->RelV x u)->Vals xs us
 | [],[],_,_=>.nil
 | x::xs,u::us,hl,h=>.cons (h 0 x u rfl rfl) (lJ xs us (by simpa using hl) fun j x u a b=>h (j+1) x u (by simpa using a) (by simpa using b))
 | [],_::_,hl,_=>by simp at hl
 | _::_,[],hl,_=>by simp at hl
theorem gT {α β:Type} {F:α->β->Prop} :∀{l₁:List α} {l₂:List β},Paired F l₁ l₂->∀{j:Nat} {b:β},l₂[j]? =some b->∃a,l₁[j]? =some a/\F a b
 | _,_,.nil,j,b,h=>by simp at h
 | _,_,.cons r rs,0,b,h=>by simp at h;subst h;exact⟨_,rfl,r⟩
 | _,_,.cons r rs,j+1,b,h=>by simp at h;obtain⟨a,h1,h2⟩:=gT rs h;exact⟨a,by simpa using h1,h2⟩
section
variable {X:Cx} {K:PySem.W.Frag} {w:AQ}
theorem kH (h:X.K=K):dv X (.builtin "sorted") (fun xs H Q=>∃(p:Addr) (ns:List Int),xs=[.ref p]/\SqL K H p (ns.map D8)/\ns.length< 64/\∀(q:Addr) (ns':List Int),H q=none->ns'.Perm ns->ns'.Pairwise (· <= ·)->Q (.ref q) (cJ H q (.lst (ns'.map D8)))):=by
 subst h
 intro pins s σ H xs us Q I r h
 obtain⟨p,ns,rfl,hq,h64,q⟩:=h
 obtain⟨u,rfl,rx⟩:=f6 r
 cases rx
 obtain⟨its,r',pl,hz⟩:=I.list hq
 have hi:=iL r'
 have hlen:=IntsAre.length hi
 refine sorted_ints pl.isList hi (by omega) fun out ns' a1 a2 a3=>?_
 obtain⟨e,he⟩:=sortedAll_at s.heap its out
 have hl':=a2.length_eq
 refine⟨.ref (s.heap.objs.size+1),_,I.laid (t':=s.toks) (fun _ _=>sortedAll_old) (EU _) (show ObjOk X.prog X.w _ _ _ (.lst (ns'.map D8))from⟨by rw[B8,BU];omega,out.toList,e,gR a1,by rw[Array.toArray_toList];exact he⟩),rfl,q _ ns' (I.hok.fresh (EU _)) a2 a3⟩
theorem fX (h:X.K=K):OpR X (compareOp .NotIn) (f9 K true):=h▸kA
end
end L2
namespace L2
theorem gd {k:Nat} {A:PySem.Around} (r:Room k A):A.units+1< PySem.cLine:=by have:=r.un;omega
end L2
namespace L2
open PySem PySem.Spec PyProof.Rows
def rK (K:PySem.W.Frag) (te:TE) (tk:TO):TE:=fun σ H Q=>te σ H fun x H1=>tk σ H1 fun k H2=>∃a xs,x=.ref a/\k=some (-1)/\SqL K H2 a xs/\∀p,H2 p=none->Q (.ref p) (cJ H2 p (.lst xs.reverse))
theorem rL {xs:List V} {us:List Am} (r:Vals xs us):Vals xs.reverse us.reverse:=by
 induction r with
 | nil=>exact .nil
 | cons h t ih=>rw[GC,GC];exact Paired.snoc ih h
theorem lK {X:Cx} {K:PySem.W.Frag} (hK:X.K=K) {e st:Expr} {te:TE} {tk:TO} {pos p2:Pos} (ops:Addr->Addr->List Am) (hs:∀a b:Addr,subscripted (.Slice none none (some st) p2) false (.ref a) (.ref b)=operate (ops a b) (getItem (.ref a) (.ref b))) (he:PE X e te) (hk:PO X (some st) tk):PE X (.Subscript e (.Slice none none (some st) p2) pos) (rK K te tk):=by
 subst hK
 intro pins s σ H Q I h
 refine Gk (bM (he pins s σ H _ I h) fun v s1 ⟨x,H1,I1,r1,q1⟩=>?_)
 refine wpAny_Slice ?_
 rw[G8]
 refine An ?_
 refine An ?_
 refine bM (hk pins s1 σ H1 _ I1 q1) fun vk s3 ⟨k,H3,I3,pk,q3⟩=>?_
 obtain⟨a,xs,rfl,rfl,hx,q⟩:=q3
 cases r1
 have I4:Inv X pins σ H3 {s3 with heap:=s3.heap.push {cls:=.type "slice",data:=.fields #[.none,.none,vk]}} :=I3.kept (t':=s3.toks) fun b ob q=>Aq _ q
 obtain⟨its,r,ht,hz⟩:=I4.list hx
 have hlen:=r.length
 show wpAny (model X.prog X.w) X.A (subscriptTail e (.Slice none none (some st) p2) (.ref a) (.ref s3.heap.objs.size)) (EP X pins σ Q) X.xe {s3 with heap:=s3.heap.push {cls:=.type "slice",data:=.fields #[.none,.none,vk]}}
 refine Ii (ops:=ops a s3.heap.objs.size) ht.isList.typeIs ES.lookup ?_ (hs _ _)
 refine F3 ht.isList (Gm ..) .none .none pk (by decide) ?_ (by rw[AH];omega)
 rw[PySem.W.krv_pick]
 refine⟨.ref _,_,I4.laid (t':=s3.toks) (o:=.lst xs.reverse) (fun b ob q=>Aq _ q) (Au _) ?_,rfl,q _ (I4.hok.fresh (Au _))⟩
 exact⟨by rw[Eo];exact hz,_,0,rL r,Ax _ rfl⟩
end L2
namespace Wb
open PySem L2
end Wb
namespace L2
open PySem PySem.Spec PyProof.Rows Wb
end L2
namespace L2
open PySem PySem.Spec PyProof.Rows
end L2
namespace Mi
inductive Res (α:Type) where
 | ok (a:α) | err (j:Nat) | stuck
namespace Res
variable {α β:Type}
def Ok (m:Res α) (P:α->Prop):Prop:=match m with | .ok a=>P a | _=>False
def bind (m:Res α) (f:α->Res β):Res β:=match m with | .ok a=>f a | .err j=>.err j | .stuck=>.stuck
theorem bind_ok {m:Res α} {f:α->Res β} {P:β->Prop} (h:m.Ok fun a=>(f a).Ok P):(m.bind f).Ok P:=by cases m <;> exact h
theorem Ok.imp {m:Res α} {P Q:α->Prop} (h:m.Ok P) (k:∀a,P a->Q a):m.Ok Q:=by cases m <;> first | exact k _ h | exact h
theorem Ok.ex {m:Res α} {P:α->Prop} (h:m.Ok P):∃a,m=.ok a/\P a:=by
 cases m with
 | ok a=>exact⟨a,rfl,h⟩
 | err j=>exact h.elim
 | stuck=>exact h.elim
def OkE (m:Res α) (Er:Nat->Prop) (P:α->Prop):Prop:=match m with | .ok a=>P a | .err j=>Er j | .stuck=>False
theorem okE_bind {m:Res α} {f:α->Res β} {Er:Nat->Prop} {P:β->Prop} (h:(m.bind f).OkE Er P):m.OkE Er fun a=>(f a).OkE Er P:=by cases m <;> exact h
theorem OkE.imp {m:Res α} {Er:Nat->Prop} {P Q:α->Prop} (h:m.OkE Er P) (k:∀a,P a->Q a):m.OkE Er Q:=by cases m <;> first | exact k _ h | exact h
theorem Ok.e {m:Res α} {Er:Nat->Prop} {P:α->Prop} (h:m.Ok P):m.OkE Er P:=by
 cases m with
 | ok a=>exact h
 | err j=>exact h.elim
 | stuck=>exact h.elim
@[simp] theorem bind_ok' (a:α) (f:α->Res β):(Res.ok a).bind f=f a:=rfl
end Res
abbrev cap:Nat:=100000
def dZ (b:Prop) [Decidable b] {α:Type} (a:α):Res α:=if b then .ok a else .stuck
theorem bA {b:Prop} [Decidable b] {α:Type} {a:α} (h:b):dZ b a=.ok a:=if_pos h
theorem bt {b:Prop} [Decidable b] {α:Type} {a:α} {Er:Nat->Prop} {P:α->Prop} (h:(dZ b a).OkE Er P):b/\P a:=by
 unfold dZ at h
 by_cases hb:b
 ·rw[if_pos hb]at h;exact⟨hb,h⟩
 ·rw[if_neg hb]at h;exact h.elim
def wJ {α:Type} :Option α->Res α
 | some a=>.ok a
 | none=>.stuck
theorem eR {α:Type} {o:Option α} {Er:Nat->Prop} {P:α->Prop} (h:(wJ o).OkE Er P):∃a,o=some a/\P a:=by
 cases o with
 | none=>exact h.elim
 | some a=>exact⟨a,rfl,h⟩
abbrev Tx:=List Nat
def cP (i:Int):Int:=if i< 0 then -i else i
def jB (i j:Int):Res Int:=dZ ((-(2^64)< i/\i< 2^64)\/(-(2^64)< j/\j< 2^64)) (i*j)
def i9 (i j:Int):Res Int:=dZ (0< j/\j< 1073741824) (i/ j)
def iV (i j:Int):Res Int:=dZ (0< j) (i% j)
def ixN (n:Nat) (i:Int):Option Nat:=if 0<=i then(if i< n then some i.toNat else none)else if -(n:Int)<=i then some (i+n).toNat else none
def qU {α:Type} (xs:List α) (i:Int):Option α:=(ixN xs.length i).bind fun j=>xs[j]?
theorem ou {α:Type} {xs:List α} {j:Nat} {v:α} (h:xs[j]? =some v):qU xs (j:Int)=some v:=by
 have hl:j< xs.length:=(Az.mp h).1
 unfold qU ixN
 rw[if_pos (by omega),if_pos (by omega),BE]
 exact h
theorem rM {α:Type} {xs:List α} {i:Int} (h0:0<=i) (h1:i< xs.length):∃h:i.toNat< xs.length,qU xs i=some xs[i.toNat]:=by
 have h2:i.toNat< xs.length:=by omega
 refine⟨h2,?_⟩
 have:=ou (xs:=xs) (j:=i.toNat) (v:=xs[i.toNat]) (by simp[h2])
 rw[G5 h0]at this
 exact this
def fV {α:Type} (xs:List α) (i:Int):Res α:=wJ (qU xs i)
def eB (x:Tx) (i:Int):Res Tx:=(dZ (x.length<=cap) x).bind fun x=>(wJ (qU x i)).bind fun c=>.ok [c]
def jC (a b:Tx):Res Tx:=dZ (a.length+b.length<=cap) (a++b)
def uC {α:Type} (a b:List α):Res (List α):=dZ (a.length+b.length<=cap) (a++b)
def gm {α:Type} (a:List α) (x:α):Res (List α):=dZ (a.length< cap) (a++ [x])
def wK (a:Tx) (n:Int):Res Tx:=match a with
 | [c]=>dZ (0<=n/\n<=cap) (Ct n.toNat c)
 | _=>.stuck
def sIx (n d:Nat):Option Int->Nat
 | none=>d
 | some v=>if v< 0 then(v+(n:Int)).toNat else min v.toNat n
def cut {α:Type} (l:List α) (lo hi:Option Int):List α:=(l.drop (sIx l.length 0 lo)).take (sIx l.length l.length hi- sIx l.length 0 lo)
def q9 (x:Tx) (lo hi:Option Int):Res Tx:=dZ (x.length<=cap) (cut x lo hi)
def gp {α:Type} (xs:List α) (i:Int) (x:α):Res (List α):=(wJ (ixN xs.length i)).bind fun j=>.ok (xs.set j x)
def rN (x:Tx) (c:Nat):Option Nat:=x.findIdx? (· == c)
def gU (x y:Tx):Res Int:=match y with
 | [c]=>(wJ (rN x c)).bind fun j=>.ok (j:Int)
 | _=>.stuck
def lL (xs:List Tx):Res Tx:=dZ (xs.flatten.length<=cap) xs.flatten
def look {κ α:Type} [DecidableEq κ] (kvs:List (κ×α)) (k:κ):Option α:=(kvs.find? fun p=>decide (p.1=k)).map (·.2)
def getD {κ α:Type} [DecidableEq κ] (kvs:List (κ×α)) (k:κ):Res α:=wJ (look kvs k)
def iW {α β:Type} (f:α->Res β):List α->Res (List β)
 | []=>.ok []
 | a::r=>(f a).bind fun b=>(iW f r).bind fun bs=>.ok (b::bs)
def dQ {α β:Type} (xs:List α) (f:α->Res β):Res (List β):=(dZ (xs.length<=cap) xs).bind fun xs=>iW f xs
def gq {α β:Type} (f:α->Res (Option β)):List α->Res (List β)
 | []=>.ok []
 | a::r=>(f a).bind fun b=>(gq f r).bind fun bs=>.ok (match b with | some b=>b::bs | none=>bs)
def lM {α β:Type} (xs:List α) (f:α->Res (Option β)):Res (List β):=(dZ (xs.length<=cap) xs).bind fun xs=>gq f xs
def bN {α S:Type} (f:α->S->Res S):List α->S->Res S
 | [],s=>.ok s
 | a::r,s=>(f a s).bind fun s=>bN f r s
inductive Fl (γ S:Type) where
 | nx (s:S) | bk (s:S) | rt (r:γ)
def yc {S γ:Type} (k:S->Res (Fl γ S)):Fl γ S->Res (Fl γ S)
 | .nx s=>k s
 | .bk s=>.ok (.nx s)
 | .rt x=>.ok (.rt x)
def gf {α S γ:Type} (f:α->S->Res (Fl γ S)):List α->S->Res (Fl γ S)
 | [],s=>.ok (.nx s)
 | a::r,s=>(f a s).bind (yc (gf f r))
def ee (n:Int):List Int:=(BG n.toNat).map fun(i:Nat)=>(i:Int)
def fu (n:Int):Res (List Int):=dZ (-(2^62)<=n/\n< 2^62) (ee n)
def bK (x:Tx):List Tx:=x.map fun c=>[c]
def gV (xs:List Int):List Int:=xs.mergeSort fun a b=>decide (a<=b)
theorem ic (xs:List Int):(gV xs).Perm xs:=G6 _ _
theorem jO (xs:List Int):(gV xs).Pairwise (· <= ·):=by
 have:=Fh (le:=fun a b:Int=>decide (a<=b)) (fun a b c h1 h2=>by simp at *;omega) (fun a b=>by simp;omega) xs
 exact this.imp fun h=>by simpa using h
theorem qa {xs ys:List Int} (h:ys.Perm xs) (hs:ys.Pairwise (· <= ·)):ys=gV xs:=
 F5 (le:=(· <= ·)) (fun a b _ _ h1 h2=>by omega) hs (jO xs) (h.trans (ic xs).symm)
def rO (xs:List Int):Res (List Int):=dZ (xs.length< 64) (gV xs)
def yG (x y:Tx):Res Bool:=match x with
 | [c]=>.ok (y.contains c)
 | _=>.stuck
def yd {α:Type} [DecidableEq α] (a b:α):Res Bool:=if a=b then .ok true else .stuck
def rP {α:Type} :List α->Res (α×α×α)
 | [a,b,c]=>.ok (a,b,c)
 | _=>.stuck
theorem oz {α β:Type} {f:α->Res β} {g:α->β} :∀{xs:List α},(∀x∈xs,f x=.ok (g x))->iW f xs=.ok (xs.map g)
 | [],_=>rfl
 | a :: r, h => by
  unfold iW
  rw[h a (AJ ..),Res.bind_ok',oz fun x hx=>h x (AN _ hx)]
  rfl
theorem eD {α β:Type} {f:α->Res β} {g:α->β} {xs:List α} (hl:xs.length<=cap) (h:∀x∈xs,f x=.ok (g x)):dQ xs f=.ok (xs.map g):=by
 unfold dQ;rw[bA hl,Res.bind_ok',oz h]
end Mi
open Mi.Res renaming okE_bind->Ak,bind_ok'->Ao,ok->As,stuck->IU
open Mi.Res.Ok renaming imp->Ca
open Mi.Res.OkE renaming imp->B6
namespace Wb
open PySem L2 Mi
variable {Er:Nat->Prop}
structure Wd where
 G:Hp
 H:Hp
 ok:Same G H
structure Ext (W W':Wd):Prop where
 g:Same W.G W'.G
 h:Same W.H W'.H
 k:∀p,W.H p≠none->W'.G p=W.G p
theorem Ext.refl (W:Wd):Ext W W:=⟨.refl _,.refl _,fun _ _=>rfl⟩
theorem Ext.trans {W W1 W2:Wd} (a:Ext W W1) (b:Ext W1 W2):Ext W W2:=⟨a.g.trans b.g,a.h.trans b.h,fun p hp=>by
 obtain⟨o,ho⟩:=EB.mp hp
 rw[b.k p (by rw[a.h p o ho];exact fun z=>nomatch z),a.k p hp]⟩
theorem Same.upd2 {G H:Hp} (h:Same G H) (p:Addr) (o:HO):Same (cJ G p o) (cJ H p o):=fun a u e=>by
 by_cases z:a=p
 ·subst z;rw[aF]at e ⊢;exact e
 ·rw[aH z]at e ⊢;exact h _ _ e
def Wd.new (W:Wd) (p:Addr) (o:HO):Wd:=⟨cJ W.G p o,cJ W.H p o,Same.upd2 W.ok p o⟩
theorem Wd.gnone (W:Wd) {p:Addr} (h:W.H p=none):W.G p=none:=aQ W.ok h
theorem Ext.new {W:Wd} {p:Addr} (o:HO) (h:W.H p=none):Ext W (W.new p o):=⟨cB (W.gnone h),cB h,fun q hq=>aH fun z=>hq (z▸h)⟩
def Wd.mut (W:Wd) (p:Addr) (o:HO) (h:W.G p=none):Wd:=⟨W.G,cJ W.H p o,pZ W.ok h⟩
theorem Ext.own {W:Wd} {p:Addr} (o:HO) (h:W.H p=none):Ext W (W.mut p o (W.gnone h)):=⟨.refl _,cB h,fun _ _=>rfl⟩
def Wd.frz (W:Wd) (p:Addr) (o:HO) (h:W.H p=some o):Wd:=⟨cJ W.G p o,W.H,fun a u e=>by
 by_cases z:a=p
 ·subst z;rw[aF]at e;cases e;exact h
 ·rw[aH z]at e;exact W.ok _ _ e⟩
theorem Ext.mut {W0 W:Wd} {p:Addr} {o:HO} (e:Ext W0 W) (hp:W0.H p=none) (h:W.G p=none):Ext W0 (W.mut p o h):=
 ⟨e.g,fun a u z=>by show cJ W.H p o a=_;rw[aH (bT z hp)];exact e.h _ _ z,e.k⟩
theorem Ext.frz {W0 W:Wd} {p:Addr} {o:HO} (e:Ext W0 W) (hp:W0.H p=none) (h:W.H p=some o) (hg:W.G p=none):Ext W0 (W.frz p o h):=
 ⟨e.g.trans (cB hg),e.h,fun q hq=>by show cJ W.G p o q=_;rw[aH (fun z=>hq (by rw[z];exact hp))];exact e.k q hq⟩
abbrev Rw (α:Type):=Wd->α->V->Prop
class MonoW {α:Type} (R:Rw α):Prop where
 mono:∀{W W':Wd} {a:α} {v:V},Ext W W'->R W a v->R W' a v
def sh {α:Type} (R:Rp α):Rw α:=fun W a v=>R W.G a v
instance zkeep8 {α:Type} {R:Rp α} [Mono R]:MonoW (sh R):=⟨fun e h=>Al (R:=R) e.g h⟩
def pk {α:Type} (R:Rp α):Rw (List α):=fun W xs v=>∃p vs,v=.ref p/\W.H p=some (.lst vs)/\LR R W.G xs vs
instance zkeep9 {α:Type} {R:Rp α} [Mono R]:MonoW (pk R):=⟨fun e ⟨p,vs,a,b,c⟩=>⟨p,vs,a,e.h _ _ b,c.same e.g⟩⟩
theorem pk.of {α:Type} {R:Rp α} {W:Wd} {xs:List α} {v:V} (h:isL R W.G xs v):pk R W xs v:=by
 obtain⟨p,vs,a,b,c⟩:=h
 exact⟨p,vs,a,W.ok _ _ b,c⟩
structure Ow {α:Type} (R:Rp α) (W:Wd) (p:Addr) (xs:List α):Prop where
 g:W.G p=none
 h:∃vs,W.H p=some (.lst vs)/\LR R W.G xs vs
theorem Ow.mono {α:Type} {R:Rp α} [Mono R] {W W':Wd} {p:Addr} {xs:List α} (o:Ow R W p xs) (e:Ext W W'):Ow R W' p xs:=by
 obtain⟨vs,a,b⟩:=o.h
 exact⟨by rw[e.k p (by rw[a];exact fun z=>nomatch z)];exact o.g,vs,e.h _ _ a,b.same e.g⟩
theorem Ow.pk {α:Type} {R:Rp α} {W:Wd} {p:Addr} {xs:List α} (o:Ow R W p xs):pk R W xs (.ref p):=by
 obtain⟨vs,a,b⟩:=o.h
 exact⟨p,vs,rfl,a,b⟩
theorem Ow.frz {α:Type} {R:Rp α} [Mono R] {W0 W:Wd} {p:Addr} {xs:List α} (o:Ow R W p xs) (e:Ext W0 W) (hp:W0.H p=none):
  ∃W',W'.H=W.H/\Ext W0 W'/\Same W.G W'.G/\isL R W'.G xs (.ref p)/\∀q,q≠p->W'.G q=W.G q:=by
 obtain⟨vs,a,b⟩:=o.h
 exact⟨W.frz p _ a,rfl,e.frz hp a o.g,cB o.g,⟨p,vs,rfl,aF,b.same (cB o.g)⟩,fun q hq=>aH hq⟩
theorem Ow.keep {α:Type} {R:Rp α} [Mono R] {W W':Wd} {q:Addr} {xs:List α} (o:Ow R W q xs) (hH:W'.H q=W.H q) (hs:Same W.G W'.G) (hg:W'.G q=W.G q):Ow R W' q xs:=by
 obtain⟨vs,a,b⟩:=o.h
 exact⟨by rw[hg];exact o.g,vs,by rw[hH];exact a,b.same hs⟩
def EV (Er:Nat->Prop) {α:Type} (t:TE) (σ:St) (W:Wd) (R:Rw α) (m:Res α):Prop:=∀W1,Ext W W1->∀Q:VK,m.OkE Er (fun a=>∀v W2,Ext W1 W2->R W2 a v->Q v W2.H)->t σ W1.H Q
def EVo (Er:Nat->Prop) {α:Type} (t:TE) (σ:St) (W:Wd) (R:Rp α) (m:Res (List α)):Prop:=∀W1,Ext W W1->∀Q:VK,m.OkE Er (fun xs=>∀p W2,Ext W1 W2->W1.H p=none->Ow R W2 p xs->Q (.ref p) W2.H)->t σ W1.H Q
def TV (Er:Nat->Prop) (t:TT) (σ:St) (W:Wd) (m:Res Bool):Prop:=∀W1,Ext W W1->∀Q:Bool->Hp->Prop,m.OkE Er (fun b=>∀W2,Ext W1 W2->Q b W2.H)->t σ W1.H Q
section
variable {α β γ:Type} {t ta tb:TE} {σ:St} {W W0 W':Wd} {K:PySem.W.Frag}
theorem EV.imp {R R':Rw α} {m:Res α} (h:EV Er t σ W R m) (f:∀W a v,R W a v->R' W a v):EV Er t σ W R' m:=fun W1 e1 Q k=>h W1 e1 Q (k.imp fun a ka v W2 e2 r=>ka v W2 e2 (f _ _ _ r))
theorem EVo.ev {R:Rp α} [Mono R] {m:Res (List α)} (h:EVo Er t σ W R m):EV Er t σ W (sh (isL R)) m:=fun W1 e1 Q k=>h W1 e1 Q (k.imp fun xs kx p W2 e2 hp o=>by
 obtain⟨W3,hH,e3,_,r,_⟩:=o.frz e2 hp
 rw[<-hH]
 exact kx (.ref p) W3 e3 r)
theorem EVo.pk {R:Rp α} [Mono R] {m:Res (List α)} (h:EVo Er t σ W R m):EV Er t σ W (pk R) m:=fun W1 e1 Q k=>h W1 e1 Q (k.imp fun xs kx p W2 e2 hp o=>kx (.ref p) W2 e2 o.pk)
theorem EV.pk {R:Rp α} {m:Res (List α)} (h:EV Er t σ W (sh (isL R)) m):EV Er t σ W (pk R) m:=h.imp fun _ _ _ r=>pk.of r
theorem iX {R:Rw α} [MonoW R] {i:Nat} {v:V} {a:α} (r:R W a v) (h:σ[i]? =some (some v):=by rfl):EV Er (bE i) σ W R (.ok a):=fun W1 e1 Q k=>⟨v,h,k v W1 (.refl _) (MonoW.mono e1 r)⟩
theorem cV {R:Rp α} [Mono R] {i:Nat} {p:Addr} {a:List α} (r:Ow R W p a) (h:σ[i]? =some (some (.ref p)):=by rfl):EV Er (bE i) σ W (pk R) (.ok a):=iX r.pk h
def isB:Rp Bool:=fun _ b v=>v=.bl b
instance zkeep10:Mono isB:=⟨fun _ h=>h⟩
theorem ah {i:Int} :EV Er (tC (.int i)) σ W (sh isI) (.ok i):=fun W1 _ Q k=>k _ W1 (.refl _) rfl
theorem bb {x:Str} {l:Tx} (h:x=sOf l):EV Er (tC (.str x)) σ W (sh isS) (.ok l):=fun W1 _ Q k=>k _ W1 (.refl _) (by rw[h];rfl)
theorem ye {b:Bool} :EV Er (tC (.bl b)) σ W (sh isB) (.ok b):=fun W1 _ Q k=>k _ W1 (.refl _) rfl
theorem qV {r:R2} {Ra:Rw α} [MonoW Ra] {Rb:Rw β} {R:Rw γ} {ma:Res α} {mb:Res β} {f:α->β->Res γ} (ha:EV Er ta σ W Ra ma) (hb:EV Er tb σ W Rb mb)
  (h:∀W a b x y Q,Ra W a x->Rb W b y->(f a b).OkE Er (fun c=>∀v W2,Ext W W2->R W2 c v->Q v W2.H)->r x y W.H Q):EV Er (cU r ta tb) σ W R (ma.bind fun a=>mb.bind fun b=>f a b):=fun W1 e1 Q k=>by
 refine ha W1 e1 _ ((Ak k).imp fun a ka x W2 e2 hx=>?_)
 refine hb W2 (e1.trans e2) _ ((Ak ka).imp fun b kb y W3 e3 hy=>?_)
 exact h W3 a b x y Q (MonoW.mono e3 hx) hy (kb.imp fun c kc v W4 e4 hv=>kc v W4 ((e2.trans e3).trans e4) hv)
theorem zM {r:V->Hp->VK->Prop} {Ra:Rw α} {R:Rw γ} {ma:Res α} {f:α->Res γ} (ha:EV Er ta σ W Ra ma)
  (h:∀W a x Q,Ra W a x->(f a).OkE Er (fun c=>∀v W2,Ext W W2->R W2 c v->Q v W2.H)->r x W.H Q):EV Er (eM r ta) σ W R (ma.bind f):=fun W1 e1 Q k=>by
 refine ha W1 e1 _ ((Ak k).imp fun a ka x W2 e2 hx=>?_)
 exact h W2 a x Q hx (ka.imp fun c kc v W4 e4 hv=>kc v W4 (e2.trans e4) hv)
section
variable {ma mb:Res Int}
theorem aZ {g:Int->Int->Int} (ha:EV Er ta σ W (sh isI) ma) (hb:EV Er tb σ W (sh isI) mb):EV Er (cU (dM fun i j=>.int (g i j)) ta tb) σ W (sh isI) (ma.bind fun a=>mb.bind fun b=>.ok (g a b)):=
 qV ha hb fun W a b x y Q hx hy k=>by cases hx;cases hy;exact⟨a,b,rfl,rfl,k _ W (.refl _) rfl⟩
theorem rQ {C:Int->Int->Prop} {g:Int->Int->Int} {f:Int->Int->Res Int} (hf:∀a b P,(f a b).OkE Er P->C a b/\P (g a b)) (ha:EV Er ta σ W (sh isI) ma) (hb:EV Er tb σ W (sh isI) mb):
  EV Er (cU (rI C fun i j=>.int (g i j)) ta tb) σ W (sh isI) (ma.bind fun a=>mb.bind fun b=>f a b):=
 qV ha hb fun W a b x y Q hx hy k=>by cases hx;cases hy;exact⟨a,b,rfl,rfl,(hf a b _ k).1,(hf a b _ k).2 _ W (.refl _) rfl⟩
theorem kI (ha:EV Er ta σ W (sh isI) ma) (hb:EV Er tb σ W (sh isI) mb):EV Er (cU (rI CMul fun i j=>.int (i*j)) ta tb) σ W (sh isI) (ma.bind fun a=>mb.bind fun b=>jB a b):=rQ (fun a b P h=>by unfold jB at h;obtain⟨h1,h2⟩:=bt h;exact⟨h1,h2⟩) ha hb
theorem oA (ha:EV Er ta σ W (sh isI) ma) (hb:EV Er tb σ W (sh isI) mb):EV Er (cU (rI xN fun i j=>.int (i/ j)) ta tb) σ W (sh isI) (ma.bind fun a=>mb.bind fun b=>i9 a b):=rQ (fun a b P h=>by unfold i9 at h;obtain⟨h1,h2⟩:=bt h;exact⟨h1,h2⟩) ha hb
theorem gW (ha:EV Er ta σ W (sh isI) ma) (hb:EV Er tb σ W (sh isI) mb):EV Er (cU (rI (fun _ j=>0< j) fun i j=>.int (i% j)) ta tb) σ W (sh isI) (ma.bind fun a=>mb.bind fun b=>iV a b):=rQ (fun a b P h=>by unfold iV at h;obtain⟨h1,h2⟩:=bt h;exact⟨h1,h2⟩) ha hb
theorem ai {C:Int->Int->Prop} {g:Int->Int->Int} {n:Int} (hn:∀a,C a n) (ha:EV Er ta σ W (sh isI) ma):EV Er (cU (rI C fun i j=>.int (g i j)) ta (tC (.int n))) σ W (sh isI) (ma.bind fun a=>.ok (g a n)):=
 fun W1 e1 Q k=>ha W1 e1 _ ((Ak k).imp fun a ka x W2 e2 hx=>by cases hx;exact⟨a,n,rfl,rfl,hn a,ka _ W2 e2 rfl⟩)
end
end
end Wb
open Wb.EV renaming pk->EK
open Wb.EVo renaming ev->CK,pk->EJ
open Wb.Ext renaming new->Eu
open Wb.MonoW renaming mono->Br
namespace Wb
open PySem L2 Mi
variable {Er:Nat->Prop}
section
variable {α β γ δ:Type} {t ta tb tc:TE} {σ:St} {W W0 W':Wd} {K:PySem.W.Frag}
theorem rR {n:Nat} (h:n<=cap):n<=sizeLine:=by rw[BU];unfold cap at h;omega
section
variable {ma mb:Res Int}
theorem iY (ha:EV Er ta σ W (sh isI) ma):EV Er (eM (rU fun i=>.int (-i)) ta) σ W (sh isI) (ma.bind fun a=>.ok (-a)):=
 zM ha fun W a x Q hx k=>by cases hx;exact⟨a,rfl,k _ W (.refl _) rfl⟩
theorem dF {g:Int->Int->Bool} (ha:EV Er ta σ W (sh isI) ma) (hb:EV Er tb σ W (sh isI) mb):EV Er (cU (dM fun i j=>.bl (g i j)) ta tb) σ W (sh isB) (ma.bind fun a=>mb.bind fun b=>.ok (g a b)):=
 qV ha hb fun W a b x y Q hx hy k=>by cases hx;cases hy;exact⟨a,b,rfl,rfl,k _ W (.refl _) rfl⟩
end
theorem dI {a b:Int} :decide (D8 a=D8 b)=decide (a=b):=by rw[Cz];simp
theorem dS {a b:Tx} :decide (Eh (sOf a)=Eh (sOf b))=decide (a=b):=by
 rw[Cz,decide_eq_true_eq,decide_eq_true_eq]
 exact⟨fun h=>om (Eh.inj h),fun h=>by rw[h]⟩
theorem cQ {ma mb:Res Int} (ha:EV Er ta σ W (sh isI) ma) (hb:EV Er tb σ W (sh isI) mb):EV Er (cU eZ ta tb) σ W (sh isB) (ma.bind fun a=>mb.bind fun b=>.ok (decide (a=b))):=
 qV ha hb fun W a b x y Q hx hy k=>by cases hx;cases hy;exact⟨rfl,by rw[dI];exact k _ W (.refl _) rfl⟩
theorem gX {ma mb:Res Tx} (ha:EV Er ta σ W (sh isS) ma) (hb:EV Er tb σ W (sh isS) mb):EV Er (cU eZ ta tb) σ W (sh isB) (ma.bind fun a=>mb.bind fun b=>.ok (decide (a=b))):=
 qV ha hb fun W a b x y Q hx hy k=>by cases hx;cases hy;exact⟨rfl,by rw[dS];exact k _ W (.refl _) rfl⟩
theorem aM {m:Res Bool} (h:EV Er t σ W (sh isB) m):TV Er (br t) σ W m:=fun W1 e1 Q k=>h W1 e1 _ (k.imp fun b kb v W2 e2 hv=>⟨b,hv,kb W2 e2⟩)
theorem qb {m:Res Bool} (h:EV Er t σ W (sh isB) m):TV Er (tB t) σ W m:=fun W1 e1 Q k=>h W1 e1 _ (k.imp fun b kb v W2 e2 hv=>⟨b,hv,kb W2 e2⟩)
theorem wL {t:TT} {m:Res Bool} (h:TV Er t σ W m):TV Er (cq t) σ W (m.bind fun b=>.ok (!b)):=fun W1 e1 Q k=>h W1 e1 _ ((Ak k).imp fun b kb W2 e2=>kb W2 e2)
theorem iZ {t u:TT} {m n:Res Bool} (h:TV Er t σ W m) (g:TV Er u σ W n):TV Er (cn t u) σ W (m.bind fun b=>if b then n else .ok false):=fun W1 e1 Q k=>h W1 e1 _ ((Ak k).imp fun b kb W2 e2=>by
 cases b with
 | true=>exact g W2 (e1.trans e2) _ (kb.imp fun c kc W3 e3=>kc W3 (e2.trans e3))
 | false=>exact kb W2 e2)
theorem yf {t u:TT} {m n:Res Bool} (h:TV Er t σ W m) (g:TV Er u σ W n):TV Er (fb t u) σ W (m.bind fun b=>if b then .ok true else n):=fun W1 e1 Q k=>h W1 e1 _ ((Ak k).imp fun b kb W2 e2=>by
 cases b with
 | true=>exact kb W2 e2
 | false=>exact g W2 (e1.trans e2) _ (kb.imp fun c kc W3 e3=>kc W3 (e2.trans e3)))
theorem wM {m n:Res Bool} (h:EV Er ta σ W (sh isB) m) (g:EV Er tb σ W (sh isB) n):EV Er (bq ta tb) σ W (sh isB) (m.bind fun b=>if b then n else .ok false):=fun W1 e1 Q k=>h W1 e1 _ ((Ak k).imp fun b kb v W2 e2 hv=>⟨b,hv,by
 cases b with
 | true=>exact g W2 (e1.trans e2) _ (kb.imp fun c kc v W3 e3 hv=>kc v W3 (e2.trans e3) hv)
 | false=>exact kb _ W2 e2 rfl⟩)
theorem yg {m n:Res Bool} (h:EV Er ta σ W (sh isB) m) (g:EV Er tb σ W (sh isB) n):EV Er (cu ta tb) σ W (sh isB) (m.bind fun b=>if b then .ok true else n):=fun W1 e1 Q k=>h W1 e1 _ ((Ak k).imp fun b kb v W2 e2 hv=>⟨b,hv,by
 cases b with
 | true=>exact kb _ W2 e2 rfl
 | false=>exact g W2 (e1.trans e2) _ (kb.imp fun c kc v W3 e3 hv=>kc v W3 (e2.trans e3) hv)⟩)
theorem lN {R:Rw α} {c:TT} {mc:Res Bool} {m n:Res α} (hc:TV Er c σ W mc) (h:EV Er ta σ W R m) (g:EV Er tb σ W R n):EV Er (fc c ta tb) σ W R (mc.bind fun b=>if b then m else n):=fun W1 e1 Q k=>hc W1 e1 _ ((Ak k).imp fun b kb W2 e2=>by
 cases b with
 | true=>exact h W2 (e1.trans e2) _ (kb.imp fun c kc v W3 e3 hv=>kc v W3 (e2.trans e3) hv)
 | false=>exact g W2 (e1.trans e2) _ (kb.imp fun c kc v W3 e3 hv=>kc v W3 (e2.trans e3) hv))
theorem fL {ma mb:Res Tx} (ha:EV Er ta σ W (sh isS) ma) (hb:EV Er tb σ W (sh isS) mb):EV Er (cU (fun x y H Q=>∃i j,x=.str i/\y=.str j/\i.length+j.length<=sizeLine/\Q (.str (i++j)) H) ta tb) σ W (sh isS) (ma.bind fun a=>mb.bind fun b=>jC a b):=
 qV ha hb fun W a b x y Q hx hy k=>by
  cases hx;cases hy
  obtain⟨h1,h2⟩:=bt k
  exact⟨_,_,rfl,rfl,by rw[dP,dP];exact rR h1,by rw[nk];exact h2 _ W (.refl _) rfl⟩
theorem uD {ma:Res Tx} {mb:Res Int} (ha:EV Er ta σ W (sh isS) ma) (hb:EV Er tb σ W (sh isI) mb):EV Er (cU (fun x y H Q=>∃c n,x=.str (sOf [c])/\y=.int n/\0<=n/\n<=100000/\Q (.str (sOf (Ct n.toNat c))) H) ta tb) σ W (sh isS) (ma.bind fun a=>mb.bind fun b=>wK a b):=
 qV ha hb fun W a b x y Q hx hy k=>by
  cases hx;cases hy
  match a,k with
  | [c], k =>
   obtain⟨h1,h2⟩:=bt k
   exact⟨c,b,rfl,rfl,h1.1,h1.2,h2 _ W (.refl _) rfl⟩
theorem bR {ma:Res Tx} {mb:Res Int} (ha:EV Er ta σ W (sh isS) ma) (hb:EV Er tb σ W (sh isI) mb):EV Er (cU cx ta tb) σ W (sh isS) (ma.bind fun a=>mb.bind fun b=>eB a b):=
 qV ha hb fun W a b x y Q hx hy k=>by
  cases hx;cases hy
  obtain⟨h1,h2⟩:=bt (Ak k)
  obtain⟨c,h3,h4⟩:=eR (Ak h2)
  exact⟨_,b,c,rfl,rfl,by rw[dP];exact rR h1,by rw[kC];exact h3,h4 _ W (.refl _) rfl⟩
theorem yh {R:Rw α} {r:V->Option Int->Option Int->Hp->VK->Prop} {Ra:Rw β} [MonoW Ra] {ma:Res β} {tl th:TO} {ml mh:Res (Option Int)} {f:β->Option Int->Option Int->Res α} (ha:EV Er ta σ W Ra ma)
  (hl:∀W1,Ext W W1->∀Q:Option Int->Hp->Prop,ml.OkE Er (fun o=>∀W2,Ext W1 W2->Q o W2.H)->tl σ W1.H Q) (hh:∀W1,Ext W W1->∀Q:Option Int->Hp->Prop,mh.OkE Er (fun o=>∀W2,Ext W1 W2->Q o W2.H)->th σ W1.H Q)
  (h:∀W a x lo hi Q,Ra W a x->(f a lo hi).OkE Er (fun c=>∀v W2,Ext W W2->R W2 c v->Q v W2.H)->r x lo hi W.H Q):EV Er (eO r ta tl th) σ W R (ma.bind fun a=>ml.bind fun lo=>mh.bind fun hi=>f a lo hi):=fun W1 e1 Q k=>
 ha W1 e1 _ ((Ak k).imp fun a ka x W2 e2 hx=>hl W2 (e1.trans e2) _ ((Ak ka).imp fun lo kl W3 e3=>hh W3 ((e1.trans e2).trans e3) _ ((Ak kl).imp fun hi kh W4 e4=>
  h W4 a x lo hi Q (Br (e3.trans e4) hx) (kh.imp fun c kc v W5 e5 hv=>kc v W5 (((e2.trans e3).trans e4).trans e5) hv))))
theorem lO:∀W1,Ext W W1->∀Q:Option Int->Hp->Prop,(As (none:Option Int)).OkE Er (fun o=>∀W2,Ext W1 W2->Q o W2.H)->aD σ W1.H Q:=fun W1 _ Q k=>k W1 (.refl _)
theorem lP {m:Res Int} (h:EV Er t σ W (sh isI) m):∀W1,Ext W W1->∀Q:Option Int->Hp->Prop,(m.bind fun i=>.ok (some i)).OkE Er (fun o=>∀W2,Ext W1 W2->Q o W2.H)->bo t σ W1.H Q:=fun W1 e1 Q k=>
 h W1 e1 _ ((Ak k).imp fun i ki v W2 e2 hv=>⟨i,hv,ki W2 e2⟩)
theorem oB {ma:Res Tx} {tl th:TO} {ml mh:Res (Option Int)} (ha:EV Er ta σ W (sh isS) ma)
  (hl:∀W1,Ext W W1->∀Q:Option Int->Hp->Prop,ml.OkE Er (fun o=>∀W2,Ext W1 W2->Q o W2.H)->tl σ W1.H Q) (hh:∀W1,Ext W W1->∀Q:Option Int->Hp->Prop,mh.OkE Er (fun o=>∀W2,Ext W1 W2->Q o W2.H)->th σ W1.H Q):
  EV Er (eO (fun x lo hi H Q=>∃l,x=.str (sOf l)/\l.length<=sizeLine/\Q (.str (sOf (ip l lo hi))) H) ta tl th) σ W (sh isS) (ma.bind fun a=>ml.bind fun lo=>mh.bind fun hi=>q9 a lo hi):=
 yh ha hl hh fun W a x lo hi Q hx k=>by
  cases hx
  obtain⟨h1,h2⟩:=bt k
  exact⟨a,rfl,rR h1,h2 _ W (.refl _) rfl⟩
theorem yi (x:Tx) (c j:Nat) (h:rN x c=some j):Ez (sOf x) (sOf [c])=(j:Int):=by
 unfold rN at h
 rw[List.findIdx?_eq_some_iff_getElem]at h
 obtain⟨hj,h1,h2⟩:=h
 have hat:∀i,StrLaws.At (sOf x) (sOf [c]) (sOf x).length i↔x[i]? =some c:=fun i=>by
  have:=StrLaws.subAt_one (sOf x) c i
  rw[kC]at this
  exact this
 unfold Ez
 rcases StrLaws.occ_head (sOf x) (sOf [c]) 1 (Au _)with⟨_,hn⟩ | ⟨i,r,e,hi,hk⟩
 ·exact absurd ((hat j).mpr (by rw[Ar hj];simpa using h1)) (hn j)
 ·rw[e]
  have e2:=(hat i).mp hi
  obtain⟨hil,e3⟩:=Az.mp e2
  have:i=j:=by
   rcases Nat.lt_trichotomy i j with z | z | z
   ·exact absurd e3 (by simpa using h2 i z)
   ·exact z
   ·exact absurd ((hat j).mpr (by rw[Ar hj];simpa using h1)) (hk j z)
  rw[this]
theorem gr {ma mb:Res Tx} {K:PySem.W.Frag} (ha:EV Er ta σ W (sh isS) ma) (hb:EV Er tb σ W (sh isS) mb):EV Er (dO K "str" (fun x xs H Q=>∃a b,x=.str a/\xs=[.str b]/\0<=Ez a b/\Q (.int (Ez a b)) H) ta (aj tb aU)) σ W (sh isI) (ma.bind fun a=>mb.bind fun b=>gU a b):=fun W1 e1 Q k=>
 ha W1 e1 _ ((Ak k).imp fun a ka x W2 e2 hx=>by
  cases hx
  refine⟨rfl,hb W2 (e1.trans e2) _ ((Ak ka).imp fun b kb y W3 e3 hy=>?_)⟩
  cases hy
  match b,kb with
  | [c], kb =>
   obtain⟨j,h1,h2⟩:=eR (Ak kb)
   have e:=yi a c j h1
   exact⟨_,_,rfl,rfl,by rw[e];omega,by rw[e];exact h2 _ W3 (e2.trans e3) rfl⟩)
theorem wN {ma mb:Res Tx} (ha:EV Er ta σ W (sh isS) ma) (hb:EV Er tb σ W (sh isS) mb):EV Er (cU (fun x y H Q=>∃i j,x=.str i/\y=.str j/\Q (.bl (!(DM j i 0 j.length 1).isEmpty)) H) ta tb) σ W (sh isB) (ma.bind fun a=>mb.bind fun b=>yG a b):=
 qV ha hb fun W a b x y Q hx hy k=>by
  cases hx;cases hy
  match a,k with
  | [c], k =>
   refine⟨_,_,rfl,rfl,?_⟩
   have e:(!(DM (sOf b) (sOf [c]) 0 (sOf b).length 1).isEmpty)=b.contains c:=by
    have:=StrLaws.found_one (sOf b) c
    rw[kC]at this
    rw[this,Cz];simp
   rw[e];exact k _ W (.refl _) rfl
theorem Same.tup {H H':Hp} {a:Addr} {xs:List V} (e:Same H H') (h:SqT K H a xs):SqT K H' a xs:=by
 rcases h with(h | ⟨o,h⟩) | h
 ·exact .inl (.inl (e _ _ h))
 ·exact .inl (.inr ⟨o,e _ _ h⟩)
 ·exact .inr h
def isT2 (K:PySem.W.Frag) (R1:Rp α) (R2:Rp β):Rp (α×β):=fun H a v=>∃p x y,v=.ref p/\SqT K H p [x,y]/\R1 H a.1 x/\R2 H a.2 y
def isT3 (K:PySem.W.Frag) (R1:Rp α) (R2:Rp β) (R3:Rp γ):Rp (α×β×γ):=fun H a v=>∃p x y z,v=.ref p/\SqT K H p [x,y,z]/\R1 H a.1 x/\R2 H a.2.1 y/\R3 H a.2.2 z
instance zkeep14 {R1:Rp α} {R2:Rp β} [Mono R1] [Mono R2]:Mono (isT2 K R1 R2):=⟨fun e ⟨p,x,y,h0,h,h1,h2⟩=>⟨p,x,y,h0,Same.tup e h,Al e h1,Al e h2⟩⟩
instance zkeep15 {R1:Rp α} {R2:Rp β} {R3:Rp γ} [Mono R1] [Mono R2] [Mono R3]:Mono (isT3 K R1 R2 R3):=⟨fun e ⟨p,x,y,z,h0,h,h1,h2,h3⟩=>⟨p,x,y,z,h0,Same.tup e h,Al e h1,Al e h2,Al e h3⟩⟩
theorem iq {R1:Rp α} {R2:Rp β} [Mono R1] [Mono R2] {ma:Res α} {mb:Res β} (ha:EV Er ta σ W (sh R1) ma) (hb:EV Er tb σ W (sh R2) mb):EV Er (cb (aj ta (aj tb aU))) σ W (sh (isT2 K R1 R2)) (ma.bind fun a=>mb.bind fun b=>.ok (a,b)):=fun W1 e1 Q k=>
 ha W1 e1 _ ((Ak k).imp fun a ka x W2 e2 hx=>hb W2 (e1.trans e2) _ ((Ak ka).imp fun b kb y W3 e3 hy=>⟨(by show 2<=sizeLine;decide),fun p hp=>
  kb (.ref p) (W3.new p (.tup [x,y])) ((e2.trans e3).trans (.new _ hp)) ⟨p,x,y,rfl,HZ aF,Al (Eu _ hp).g (Al (R:=R1) e3.g hx),Al (R:=R2) (Eu _ hp).g hy⟩⟩))
theorem cW {R1:Rp α} {R2:Rp β} {R3:Rp γ} [Mono R1] [Mono R2] [Mono R3] {ma:Res α} {mb:Res β} {mc:Res γ} (ha:EV Er ta σ W (sh R1) ma) (hb:EV Er tb σ W (sh R2) mb) (hc:EV Er tc σ W (sh R3) mc):
  EV Er (cb (aj ta (aj tb (aj tc aU)))) σ W (sh (isT3 K R1 R2 R3)) (ma.bind fun a=>mb.bind fun b=>mc.bind fun c=>.ok (a,b,c)):=fun W1 e1 Q k=>
 ha W1 e1 _ ((Ak k).imp fun a ka x W2 e2 hx=>hb W2 (e1.trans e2) _ ((Ak ka).imp fun b kb y W3 e3 hy=>hc W3 ((e1.trans e2).trans e3) _ ((Ak kb).imp fun c kc z W4 e4 hz=>⟨(by show 3<=sizeLine;decide),fun p hp=>
  kc (.ref p) (W4.new p (.tup [x,y,z])) (((e2.trans e3).trans e4).trans (.new _ hp)) ⟨p,x,y,z,rfl,HZ aF,Al (Eu _ hp).g (Al (R:=R1) (e3.trans e4).g hx),Al (R:=R2) (Eu _ hp).g (Al (R:=R2) e4.g hy),Al (R:=R3) (Eu _ hp).g hz⟩⟩)))
theorem bf {R:Rp α} {Rt:Rp β} {m:Res β} {i:Int} {f:β->α} (h:∀H b v,Rt H b v->∃p xs x,v=.ref p/\SqT K H p xs/\L2.atI xs i=some x/\R H (f b) x) (ha:EV Er ta σ W (sh Rt) m):EV Er (cU (cf K) ta (tC (.int i))) σ W (sh R) (m.bind fun b=>.ok (f b)):=fun W1 e1 Q k=>
 ha W1 e1 _ ((Ak k).imp fun b kb v W2 e2 hv=>by
  obtain⟨p,xs,x,h1,h2,h3,h4⟩:=h _ _ _ hv
  exact⟨p,xs,i,x,h1,rfl,Same.tup W2.ok h2,h3,kb _ W2 e2 h4⟩)
theorem yj {R1:Rp α} {R2:Rp β} :∀H b v,isT2 K R1 R2 H b v->∃p xs x,v=.ref p/\SqT K H p xs/\L2.atI xs 0=some x/\R1 H b.1 x:=fun _ _ _ ⟨p,x,y,h0,h,h1,h2⟩=>⟨p,_,x,h0,h,rfl,h1⟩
theorem lQ {R1:Rp α} {R2:Rp β} {R3:Rp γ} :∀H b v,isT3 K R1 R2 R3 H b v->∃p xs x,v=.ref p/\SqT K H p xs/\L2.atI xs 0=some x/\R1 H b.1 x:=fun _ _ _ ⟨p,x,y,z,h0,h,h1,h2,h3⟩=>⟨p,_,x,h0,h,rfl,h1⟩
theorem j3 {R1:Rp α} {R2:Rp β} {R3:Rp γ} :∀H b v,isT3 K R1 R2 R3 H b v->∃p xs x,v=.ref p/\SqT K H p xs/\L2.atI xs 1=some x/\R2 H b.2.1 x:=fun _ _ _ ⟨p,x,y,z,h0,h,h1,h2,h3⟩=>⟨p,_,y,h0,h,rfl,h2⟩
theorem kJ {R1:Rp α} {R2:Rp β} {R3:Rp γ} :∀H b v,isT3 K R1 R2 R3 H b v->∃p xs x,v=.ref p/\SqT K H p xs/\L2.atI xs 2=some x/\R3 H b.2.2 x:=fun _ _ _ ⟨p,x,y,z,h0,h,h1,h2,h3⟩=>⟨p,_,z,h0,h,rfl,h3⟩
theorem oC {R:Rp α} {H:Hp} {as:List α} {xs:List V} (h:LR R H as xs) {i:Int} {a:α} (e:qU as i=some a):∃x,L2.atI xs i=some x/\R H a x:=by
 unfold qU at e
 unfold L2.atI
 rw[h.1]
 cases z:Mi.ixN as.length i with
 | none=>rw[z]at e;cases e
 | some j =>
  rw[z]at e
  obtain⟨x,h1,h2⟩:=h.get (i:=j) e
  exact⟨x,by show(L2.ixN as.length i).bind _=_;rw[show L2.ixN as.length i=Mi.ixN as.length i from rfl,z];exact h1,h2⟩
theorem LR.three {R:Rp α} {H:Hp} {a b c:α} {x y z:V} (h1:R H a x) (h2:R H b y) (h3:R H c z):LR R H [a,b,c] [x,y,z]:=⟨rfl,fun i v m e1 e2=>by
 match i,e1,e2 with
 | 0,e1,e2=>cases e1;cases e2;exact h1
 | 1,e1,e2=>cases e1;cases e2;exact h2
 | 2,e1,e2=>cases e1;cases e2;exact h3⟩
theorem cX {R:Rp α} [Mono R] {ma:Res (List α)} {mb:Res Int} (ha:EV Er ta σ W (pk R) ma) (hb:EV Er tb σ W (sh isI) mb):EV Er (cU (bW K) ta tb) σ W (sh R) (ma.bind fun a=>mb.bind fun b=>fV a b):=
 qV ha hb fun W a b x y Q hx hy k=>by
  cases hy
  obtain⟨p,vs,rfl,h,h1⟩:=hx
  obtain⟨c,h4,h5⟩:=eR k
  obtain⟨z,h6,h7⟩:=oC h1 h4
  exact⟨p,_,b,z,rfl,rfl,CT h,h6,h5 _ W (.refl _) h7⟩
theorem eS {R:Rp α} :EVo Er (bV aU) σ W R (.ok []):=fun W1 e1 Q k=>⟨by decide,fun p hp=>k p (W1.mut p (.lst []) (W1.gnone hp)) (.own _ hp) hp ⟨W1.gnone hp,[],aF,.nil⟩⟩
def AV (Er:Nat->Prop) (t:TA) (σ:St) (W:Wd) (R:Rp α) (n:Nat) (m:Res (List α)):Prop:=∀W1,Ext W W1->∀Q:List V->Hp->Prop,m.OkE Er (fun as=>∀vs W2,Ext W1 W2->vs.length=n->LR R W2.G as vs->Q vs W2.H)->t σ W1.H Q
theorem eT {R:Rp α} :AV Er aU σ W R 0 (.ok []):=fun W1 _ Q k=>k [] W1 (.refl _) rfl .nil
theorem LR.cons {R:Rp α} {H:Hp} {a:α} {v:V} {as:List α} {vs:List V} (h:R H a v) (r:LR R H as vs):LR R H (a::as) (v::vs):=⟨by simp[r.1],fun i x m e1 e2=>by
 cases i with
 | zero=>cases e1;cases e2;exact h
 | succ j=>exact r.2 j x m e1 e2⟩
theorem bB {R:Rp α} [Mono R] {n:Nat} {ts:TA} {m:Res α} {ms:Res (List α)} (h:EV Er t σ W (sh R) m) (g:AV Er ts σ W R n ms):AV Er (aj t ts) σ W R (n+1) (m.bind fun a=>ms.bind fun as=>.ok (a::as)):=fun W1 e1 Q k=>
 h W1 e1 _ ((Ak k).imp fun a ka v W2 e2 hv=>g W2 (e1.trans e2) _ ((Ak ka).imp fun as kas vs W3 e3 hn hvs=>kas (v::vs) W3 (e2.trans e3) (by simp[hn]) (.cons (Al (R:=R) e3.g hv) hvs)))
theorem eU {R:Rp α} [Mono R] {n:Nat} {ts:TA} {ms:Res (List α)} (g:AV Er ts σ W R n ms) (hn:n<=cap:=by decide):EVo Er (bV ts) σ W R ms:=fun W1 e1 Q k=>
 g W1 e1 _ (k.imp fun as ka vs W2 e2 hv hvs=>⟨by rw[hv];exact rR hn,fun p hp=>ka p (W2.mut p (.lst vs) (W2.gnone hp)) (e2.trans (.own _ hp)) (aQ e2.h hp) ⟨W2.gnone hp,vs,aF,hvs⟩⟩)
theorem oD {R:Rp α} [Mono R] {ma mb:Res (List α)} (ha:EV Er ta σ W (pk R) ma) (hb:EV Er tb σ W (pk R) mb):EVo Er (cU cy ta tb) σ W R (ma.bind fun a=>mb.bind fun b=>uC a b):=fun W1 e1 Q k=>
 ha W1 e1 _ ((Ak k).imp fun a ka x W2 e2 hx=>hb W2 (e1.trans e2) _ ((Ak ka).imp fun b kb y W3 e3 hy=>by
  obtain⟨p,vs,rfl,h1,h2⟩:=Br e3 hx
  obtain⟨q,us,rfl,h3,h4⟩:=hy
  obtain⟨h5,h6⟩:=bt kb
  refine⟨p,q,vs,us,rfl,rfl,h1,h3,by rw[h2.1,h4.1];exact rR h5,fun r hr=>h6 r (W3.mut r (.lst (vs++us)) (W3.gnone hr)) ((e2.trans e3).trans (.own _ hr)) (aQ (e2.trans e3).h hr) ⟨W3.gnone hr,_,aF,?_⟩⟩
  exact⟨by rw[Cq,Cq,h2.1,h4.1],fun i v m q1 q2=>by
   by_cases hi:i< vs.length
   ·rw[AU hi]at q1
    rw[AU (by rw[<-h2.1];exact hi)]at q2
    exact h2.2 i v m q1 q2
   ·rw[AL (by omega)]at q1
    rw[AL (by rw[<-h2.1];omega)]at q2
    rw[<-h2.1]at q2
    exact h4.2 _ v m q1 q2⟩))
theorem LR.cut {R:Rp α} {H:Hp} {as:List α} {vs:List V} (h:LR R H as vs) (lo hi:Option Int):LR R H (Mi.cut as lo hi) (ni vs lo hi):=by
 unfold Mi.cut ni
 rw[h.1]
 exact(h.drop _).take _
theorem kK {R:Rp α} [Mono R] {ma:Res (List α)} {tl th:TO} {ml mh:Res (Option Int)} (ha:EV Er ta σ W (pk R) ma)
  (hl:∀W1,Ext W W1->∀Q:Option Int->Hp->Prop,ml.OkE Er (fun o=>∀W2,Ext W1 W2->Q o W2.H)->tl σ W1.H Q) (hh:∀W1,Ext W W1->∀Q:Option Int->Hp->Prop,mh.OkE Er (fun o=>∀W2,Ext W1 W2->Q o W2.H)->th σ W1.H Q):
  EVo Er (eO (cg K) ta tl th) σ W R (ma.bind fun a=>ml.bind fun lo=>mh.bind fun hi=>.ok (Mi.cut a lo hi)):=fun W1 e1 Q k=>
 ha W1 e1 _ ((Ak k).imp fun a ka x W2 e2 hx=>hl W2 (e1.trans e2) _ ((Ak ka).imp fun lo kl W3 e3=>hh W3 ((e1.trans e2).trans e3) _ ((Ak kl).imp fun hi kh W4 e4=>by
  obtain⟨p,vs,rfl,h1,h2⟩:=Br (e3.trans e4) hx
  have e5:=(e2.trans e3).trans e4
  exact⟨p,vs,rfl,CT h1,fun r hr=>kh r (W4.mut r (.lst (ni vs lo hi)) (W4.gnone hr)) (e5.trans (.own _ hr)) (aQ e5.h hr) ⟨W4.gnone hr,_,aF,h2.cut lo hi⟩⟩)))
theorem rS {ma:Res Int} (ha:EV Er ta σ W (sh isI) ma):EV Er (dA (fun xs H Q=>∃i,xs=[.int i]/\Q (.int (if i< 0 then -i else i)) H) (aj ta aU)) σ W (sh isI) (ma.bind fun a=>.ok (cP a)):=fun W1 e1 Q k=>
 ha W1 e1 _ ((Ak k).imp fun a ka x W2 e2 hx=>by cases hx;exact⟨a,rfl,ka _ W2 e2 rfl⟩)
theorem gu {R:Rp α} {ma:Res (List α)} (ha:EV Er ta σ W (pk R) ma):EV Er (dA (fun xs H Q=>∃x n,xs=[x]/\pM K x H n/\Q (.int n) H) (aj ta aU)) σ W (sh isI) (ma.bind fun a=>.ok (a.length:Int)):=fun W1 e1 Q k=>
 ha W1 e1 _ ((Ak k).imp fun a ka x W2 e2 hx=>by
  obtain⟨p,vs,rfl,h1,h2⟩:=hx
  exact⟨_,a.length,rfl,.inl ⟨vs,CT h1,h2.1.symm⟩,ka _ W2 e2 rfl⟩)
theorem kL {ma:Res (List Tx)} {x:Str} (hx:x=sOf []) (ha:EV Er ta σ W (pk isS) ma):EV Er (dO K "str" (fun x xs H Q=>∃(p:Addr) (ys:List (List Nat)),x=.str (sOf [])/\xs=[.ref p]/\SqL K H p (ys.map fun y=>Eh (sOf y))/\ys.flatten.length<=100000/\Q (.str (sOf ys.flatten)) H) (tC (.str x)) (aj ta aU)) σ W (sh isS) (ma.bind fun a=>lL a):=fun W1 e1 Q k=>
 ⟨by show zv K "str" (.str x) W1.H;rfl,ha W1 e1 _ ((Ak k).imp fun a ka v W2 e2 hv=>by
  obtain⟨p,vs,rfl,h1,h2⟩:=hv
  obtain⟨h3,h4⟩:=bt ka
  exact⟨p,a,by rw[hx],rfl,CT (by rw[h1,h2.str]),h3,h4 _ W2 e2 rfl⟩)⟩
end
end Wb
open Wb.Same renaming tup->BY
namespace Wb
open PySem L2 Mi
variable {Er:Nat->Prop}
abbrev Rt (β:Type):=Wd->β->VK->Prop
def rs {β:Type} (R:Rp β):Rt β:=fun W r Q=>∀u W',Ext W W'->R W'.G r u->Q u W'.H
def ro {β:Type} (R:Rp β):Rt (List β):=fun W r Q=>∀p W',Ext W W'->W.H p=none->Ow R W' p r->Q (.ref p) W'.H
section
variable {α β γ δ ε ζ:Type}
def dt (R1:Rp α) (rt:Rt β) (m:α->Res β):Sp:=fun vs H Q _=>∃(W:Wd) (a:α) (v:V),W.H=H/\vs=[v]/\R1 W.G a v/\∃Er:Nat->Prop,(m a).OkE Er fun r=>rt W r Q
def bH (R1:Rp α) (R2:Rp γ) (rt:Rt β) (m:α->γ->Res β):Sp:=fun vs H Q _=>∃(W:Wd) (a:α) (b:γ) (v u:V),W.H=H/\vs=[v,u]/\R1 W.G a v/\R2 W.G b u/\∃Er:Nat->Prop,(m a b).OkE Er fun r=>rt W r Q
def eg (R1:Rp α) (R2:Rp γ) (R3:Rp δ) (rt:Rt β) (m:α->γ->δ->Res β):Sp:=fun vs H Q _=>∃(W:Wd) (a:α) (b:γ) (c:δ) (v u w:V),W.H=H/\vs=[v,u,w]/\R1 W.G a v/\R2 W.G b u/\R3 W.G c w/\∃Er:Nat->Prop,(m a b c).OkE Er fun r=>rt W r Q
def fv (R1:Rp α) (R2:Rp γ) (R3:Rp δ) (R4:Rp ε) (rt:Rt β) (m:α->γ->δ->ε->Res β):Sp:=fun vs H Q _=>∃(W:Wd) (a:α) (b:γ) (c:δ) (d:ε) (v u w x:V),W.H=H/\vs=[v,u,w,x]/\R1 W.G a v/\R2 W.G b u/\R3 W.G c w/\R4 W.G d x/\∃Er:Nat->Prop,(m a b c d).OkE Er fun r=>rt W r Q
def lR (R1:Rp α) (R2:Rp γ) (R3:Rp δ) (R4:Rp ε) (R5:Rp ζ) (rt:Rt β) (m:α->γ->δ->ε->ζ->Res β):Sp:=fun vs H Q _=>∃(W:Wd) (a:α) (b:γ) (c:δ) (d:ε) (e:ζ) (v u w x y:V),W.H=H/\vs=[v,u,w,x,y]/\R1 W.G a v/\R2 W.G b u/\R3 W.G c w/\R4 W.G d x/\R5 W.G e y/\∃Er:Nat->Prop,(m a b c d e).OkE Er fun r=>rt W r Q
variable {t t1 t2 t3 t4 t5:TE} {σ:St} {W W0 W':Wd} {K:PySem.W.Frag}
section
variable {R1:Rp α} {R2:Rp γ} {R3:Rp δ} {R4:Rp ε} {R5:Rp ζ} [Mono R1] [Mono R2] [Mono R3] [Mono R4] [Mono R5] {m1:Res α} {m2:Res γ} {m3:Res δ} {m4:Res ε} {m5:Res ζ} {E:XK}
theorem cK {R:Rp β} {m:α->Res β} (h1:EV Er t1 σ W (sh R1) m1):EV Er (aS (dt R1 (rs R) m) [] E (aj t1 aU)) σ W (sh R) (m1.bind fun a=>m a):=fun W1 e1 Q k=>
 h1 W1 e1 _ ((Ak k).imp fun a ka v W2 e2 hv=>⟨W2,a,v,rfl,rfl,hv,Er,ka.imp fun r kr u W' e hu=>kr u W' (e2.trans e) hu⟩)
theorem aW {R:Rp β} {m:α->γ->Res β} (h1:EV Er t1 σ W (sh R1) m1) (h2:EV Er t2 σ W (sh R2) m2):EV Er (aS (bH R1 R2 (rs R) m) [] E (aj t1 (aj t2 aU))) σ W (sh R) (m1.bind fun a=>m2.bind fun b=>m a b):=fun W1 e1 Q k=>
 h1 W1 e1 _ ((Ak k).imp fun a ka v W2 e2 hv=>h2 W2 (e1.trans e2) _ ((Ak ka).imp fun b kb u W3 e3 hu=>⟨W3,a,b,v,u,rfl,rfl,Br (R:=sh R1) e3 hv,hu,Er,kb.imp fun r kr u W' e hu=>kr u W' ((e2.trans e3).trans e) hu⟩))
theorem gY {R:Rp β} {m:α->γ->Res (List β)} (h1:EV Er t1 σ W (sh R1) m1) (h2:EV Er t2 σ W (sh R2) m2):EVo Er (aS (bH R1 R2 (ro R) m) [] E (aj t1 (aj t2 aU))) σ W R (m1.bind fun a=>m2.bind fun b=>m a b):=fun W1 e1 Q k=>
 h1 W1 e1 _ ((Ak k).imp fun a ka v W2 e2 hv=>h2 W2 (e1.trans e2) _ ((Ak ka).imp fun b kb u W3 e3 hu=>⟨W3,a,b,v,u,rfl,rfl,Br (R:=sh R1) e3 hv,hu,Er,kb.imp fun r kr p W' e hp o=>kr p W' ((e2.trans e3).trans e) (aQ (e2.trans e3).h hp) o⟩))
theorem gv {R:Rp β} {m:α->γ->δ->Res β} (h1:EV Er t1 σ W (sh R1) m1) (h2:EV Er t2 σ W (sh R2) m2) (h3:EV Er t3 σ W (sh R3) m3):EV Er (aS (eg R1 R2 R3 (rs R) m) [] E (aj t1 (aj t2 (aj t3 aU)))) σ W (sh R) (m1.bind fun a=>m2.bind fun b=>m3.bind fun c=>m a b c):=fun W1 e1 Q k=>
 h1 W1 e1 _ ((Ak k).imp fun a ka v W2 e2 hv=>h2 W2 (e1.trans e2) _ ((Ak ka).imp fun b kb u W3 e3 hu=>h3 W3 ((e1.trans e2).trans e3) _ ((Ak kb).imp fun c kc w W4 e4 hw=>
  ⟨W4,a,b,c,v,u,w,rfl,rfl,Br (R:=sh R1) (e3.trans e4) hv,Br (R:=sh R2) e4 hu,hw,Er,kc.imp fun r kr u W' e hu=>kr u W' (((e2.trans e3).trans e4).trans e) hu⟩)))
theorem eE {R:Rp β} {m:α->γ->δ->Res (List β)} (h1:EV Er t1 σ W (sh R1) m1) (h2:EV Er t2 σ W (sh R2) m2) (h3:EV Er t3 σ W (sh R3) m3):EVo Er (aS (eg R1 R2 R3 (ro R) m) [] E (aj t1 (aj t2 (aj t3 aU)))) σ W R (m1.bind fun a=>m2.bind fun b=>m3.bind fun c=>m a b c):=fun W1 e1 Q k=>
 h1 W1 e1 _ ((Ak k).imp fun a ka v W2 e2 hv=>h2 W2 (e1.trans e2) _ ((Ak ka).imp fun b kb u W3 e3 hu=>h3 W3 ((e1.trans e2).trans e3) _ ((Ak kb).imp fun c kc w W4 e4 hw=>
  ⟨W4,a,b,c,v,u,w,rfl,rfl,Br (R:=sh R1) (e3.trans e4) hv,Br (R:=sh R2) e4 hu,hw,Er,kc.imp fun r kr p W' e hp o=>kr p W' (((e2.trans e3).trans e4).trans e) (aQ ((e2.trans e3).trans e4).h hp) o⟩)))
theorem gw {R:Rp β} {m:α->γ->δ->ε->Res β} (h1:EV Er t1 σ W (sh R1) m1) (h2:EV Er t2 σ W (sh R2) m2) (h3:EV Er t3 σ W (sh R3) m3) (h4:EV Er t4 σ W (sh R4) m4):EV Er (aS (fv R1 R2 R3 R4 (rs R) m) [] E (aj t1 (aj t2 (aj t3 (aj t4 aU))))) σ W (sh R) (m1.bind fun a=>m2.bind fun b=>m3.bind fun c=>m4.bind fun d=>m a b c d):=fun W1 e1 Q k=>
 h1 W1 e1 _ ((Ak k).imp fun a ka v W2 e2 hv=>h2 W2 (e1.trans e2) _ ((Ak ka).imp fun b kb u W3 e3 hu=>h3 W3 ((e1.trans e2).trans e3) _ ((Ak kb).imp fun c kc w W4 e4 hw=>h4 W4 (((e1.trans e2).trans e3).trans e4) _ ((Ak kc).imp fun d kd x W5 e5 hx=>
  ⟨W5,a,b,c,d,v,u,w,x,rfl,rfl,Br (R:=sh R1) ((e3.trans e4).trans e5) hv,Br (R:=sh R2) (e4.trans e5) hu,Br (R:=sh R3) e5 hw,hx,Er,kd.imp fun r kr u W' e hu=>kr u W' ((((e2.trans e3).trans e4).trans e5).trans e) hu⟩))))
theorem fM {R:Rp β} {m:α->γ->δ->ε->Res (List β)} (h1:EV Er t1 σ W (sh R1) m1) (h2:EV Er t2 σ W (sh R2) m2) (h3:EV Er t3 σ W (sh R3) m3) (h4:EV Er t4 σ W (sh R4) m4):EVo Er (aS (fv R1 R2 R3 R4 (ro R) m) [] E (aj t1 (aj t2 (aj t3 (aj t4 aU))))) σ W R (m1.bind fun a=>m2.bind fun b=>m3.bind fun c=>m4.bind fun d=>m a b c d):=fun W1 e1 Q k=>
 h1 W1 e1 _ ((Ak k).imp fun a ka v W2 e2 hv=>h2 W2 (e1.trans e2) _ ((Ak ka).imp fun b kb u W3 e3 hu=>h3 W3 ((e1.trans e2).trans e3) _ ((Ak kb).imp fun c kc w W4 e4 hw=>h4 W4 (((e1.trans e2).trans e3).trans e4) _ ((Ak kc).imp fun d kd x W5 e5 hx=>
  ⟨W5,a,b,c,d,v,u,w,x,rfl,rfl,Br (R:=sh R1) ((e3.trans e4).trans e5) hv,Br (R:=sh R2) (e4.trans e5) hu,Br (R:=sh R3) e5 hw,hx,Er,kd.imp fun r kr p W' e hp o=>kr p W' ((((e2.trans e3).trans e4).trans e5).trans e) (aQ (((e2.trans e3).trans e4).trans e5).h hp) o⟩))))
theorem gZ {R:Rp β} {m:α->γ->δ->ε->ζ->Res (List β)} (h1:EV Er t1 σ W (sh R1) m1) (h2:EV Er t2 σ W (sh R2) m2) (h3:EV Er t3 σ W (sh R3) m3) (h4:EV Er t4 σ W (sh R4) m4) (h5:EV Er t5 σ W (sh R5) m5):EVo Er (aS (lR R1 R2 R3 R4 R5 (ro R) m) [] E (aj t1 (aj t2 (aj t3 (aj t4 (aj t5 aU)))))) σ W R (m1.bind fun a=>m2.bind fun b=>m3.bind fun c=>m4.bind fun d=>m5.bind fun e=>m a b c d e):=fun W1 e1 Q k=>
 h1 W1 e1 _ ((Ak k).imp fun a ka v W2 e2 hv=>h2 W2 (e1.trans e2) _ ((Ak ka).imp fun b kb u W3 e3 hu=>h3 W3 ((e1.trans e2).trans e3) _ ((Ak kb).imp fun c kc w W4 e4 hw=>h4 W4 (((e1.trans e2).trans e3).trans e4) _ ((Ak kc).imp fun d kd x W5 e5 hx=>h5 W5 ((((e1.trans e2).trans e3).trans e4).trans e5) _ ((Ak kd).imp fun e ke y W6 e6 hy=>
  ⟨W6,a,b,c,d,e,v,u,w,x,y,rfl,rfl,Br (R:=sh R1) (((e3.trans e4).trans e5).trans e6) hv,Br (R:=sh R2) ((e4.trans e5).trans e6) hu,Br (R:=sh R3) (e5.trans e6) hw,Br (R:=sh R4) e6 hx,hy,Er,ke.imp fun r kr p W' e hp o=>kr p W' (((((e2.trans e3).trans e4).trans e5).trans e6).trans e) (aQ ((((e2.trans e3).trans e4).trans e5).trans e6).h hp) o⟩)))))
end
def Yl (J:It) (W:Wd) (R:Rp α) (xs:List α):Prop:=∀W1:Wd,Same W.G W1.G->(∀(i:Nat) (a:α),xs[i]? =some a->J.go i W1.H/\∀x H',J.yld i W1.H x H'->∃W2:Wd,W2.H=H'/\Ext W1 W2/\R W2.G a x)/\J.stop xs.length W1.H
def IV (Er:Nat->Prop) (wi:TI) (σ:St) (W:Wd) (R:Rp α) (m:Res (List α)):Prop:=∀W1,Ext W W1->∀P:It->Hp->Prop,m.OkE Er (fun xs=>∀J W2,Ext W1 W2->Yl J W2 R xs->P J W2.H)->wi σ W1.H P
theorem cY {R:Rp α} [Mono R] {m:Res (List α)} (h:EV Er t σ W (sh (isL R)) m):IV Er (r6 K t) σ W R m:=fun W1 e1 P k=>
 h W1 e1 _ (k.imp fun xs kx v W2 e2 hv => by
  obtain⟨p,vs,rfl,h1,h2⟩:=hv
  refine⟨p,rfl,⟨vs,CT (W2.ok _ _ h1)⟩,kx _ W2 e2 fun W3 e3=>⟨fun i a ha=>?_,vs,CT (W3.ok _ _ (e3 _ _ h1)),by rw[h2.1];exact Au _⟩⟩
  obtain⟨x,hx,hr⟩:=h2.get ha
  refine⟨⟨vs,x,CT (W3.ok _ _ (e3 _ _ h1)),hx⟩,fun y H' ⟨z1,z2⟩=>⟨W3,z1.symm,.refl _,?_⟩⟩
  have:=z2 vs (CT (W3.ok _ _ (e3 _ _ h1)))
  rw[hx]at this
  cases this
  exact Al e3 hr)
theorem j4 {m:Res Tx} (h:EV Er t σ W (sh isS) m):IV Er (xW t) σ W isS (m.bind fun x=>.ok (bK x)):=fun W1 e1 P k=>
 h W1 e1 _ ((Ak k).imp fun x kx v W2 e2 hv => by
  cases hv
  refine⟨x,rfl,kx _ W2 e2 fun W3 e3=>⟨fun i a ha=>?_,by show x.length<=(bK x).length;simp[bK]⟩⟩
  unfold bK at ha
  rw[Ay]at ha
  cases hc:x[i]? with
  | none=>rw[hc]at ha;cases ha
  | some c =>
   rw[hc]at ha;cases ha
   refine⟨(Az.mp hc).1,fun y H' ⟨z1,c',z2,z3⟩=>⟨W3,z1.symm,.refl _,?_⟩⟩
   rw[hc]at z2;cases z2
   exact z3)
theorem j5 {m:Res Int} (h:EV Er t σ W (sh isI) m):IV Er (vT (aj t aU)) σ W isI (m.bind fun n=>fu n):=fun W1 e1 P k=>
 h W1 e1 _ ((Ak k).imp fun n kn v W2 e2 hv => by
  cases hv
  obtain⟨hb,kn⟩:=bt kn
  refine⟨n,rfl,hb.1,hb.2,kn _ W2 e2 fun W3 e3=>⟨fun i a ha=>?_,by show n.toNat<=(ee n).length;simp[ee]⟩⟩
  unfold ee at ha
  rw[Ay]at ha
  have hi:i< n.toNat:=by
   refine Classical.byContradiction fun z=>?_
   rw[BF.mpr (by simp;omega)]at ha;cases ha
  rw[DD hi]at ha
  cases ha
  exact⟨hi,fun y H' ⟨z1,z2⟩=>⟨W3,z1.symm,.refl _,by rw[z2];show D8 (0+(i:Int))=.int (i:Int);rw[HX]⟩⟩)
def SrcR (K:PySem.W.Frag) (W:Wd) (R:Rp α) (xs:List α) (v:V):Prop:=∃(c:Src) (vs:List V),v=c.val/\(∀W1:Wd,Same W.G W1.G->c.has K W1.H vs)/\LR R W.G xs vs
theorem SrcR.mono {R:Rp α} [Mono R] {xs:List α} {v:V} (h:SrcR K W R xs v) (e:Same W.G W'.G):SrcR K W' R xs v:=by
 obtain⟨c,vs,h1,h2,h3⟩:=h
 exact⟨c,vs,h1,fun W1 e1=>h2 W1 (e.trans e1),h3.same e⟩
def SV (Er:Nat->Prop) (t:TE) (σ:St) (W:Wd) (K:PySem.W.Frag) (R:Rp α) (m:Res (List α)):Prop:=EV Er t σ W (fun W xs v=>SrcR K W R xs v) m
theorem hV {R:Rp α} [Mono R] {m:Res (List α)} (h:EV Er t σ W (sh (isL R)) m):SV Er t σ W K R m:=h.imp fun W xs v ⟨p,vs,h0,h1,h2⟩=>⟨.lst p,vs,h0,fun W1 e1=>CT (W1.ok _ _ (e1 _ _ h1)),h2⟩
theorem oE {R:Rp α} {m:Res (α×α×α)} (h:EV Er t σ W (sh (isT3 K R R R)) m):SV Er t σ W K R (m.bind fun x=>.ok [x.1,x.2.1,x.2.2]):=fun W1 e1 Q k=>
 h W1 e1 _ ((Ak k).imp fun x kx v W2 e2 hv => by
  obtain⟨p,a,b,c,h0,h,h1,h2,h3⟩:=hv
  exact kx _ W2 e2 ⟨.tup p,_,h0,fun W3 e3=>BY (e3.trans W3.ok) h,LR.three h1 h2 h3⟩)
theorem kM {R1:Rp α} {R2:Rp β} [Mono R1] [Mono R2] {m1:Res (List α)} {m2:Res (List β)} (h1:SV Er t1 σ W K R1 m1) (h2:SV Er t2 σ W K R2 m2):IV Er (wH K (aj t1 (aj t2 aU))) σ W (isT2 K R1 R2) (m1.bind fun xs=>m2.bind fun ys=>.ok (xs.zip ys)):=fun W1 e1 P k=>
 h1 W1 e1 _ ((Ak k).imp fun xs kx v W2 e2 hv=>h2 W2 (e1.trans e2) _ ((Ak kx).imp fun ys ky u W3 e3 hu=>by
  obtain⟨c1,vs,rfl,a1,b1⟩:=SrcR.mono hv e3.g
  obtain⟨c2,us,rfl,a2,b2⟩:=hu
  refine⟨c1,c2,vs,us,rfl,a1 W3 (.refl _),a2 W3 (.refl _),ky _ W3 (e2.trans e3) fun W4 e4=>⟨fun i ab hab=>?_,?_⟩⟩
  ·rw[EL]at hab
   obtain⟨x,hx,rx⟩:=b1.get hab.1
   obtain⟨y,hy,ry⟩:=b2.get hab.2
   refine⟨⟨vs,us,x,y,a1 W4 e4,a2 W4 e4,hx,hy⟩,fun z H' ⟨p,x',y',hp,z0,z1,z2,z3⟩=>⟨W4.new p (.tup [x',y']),by rw[z3];rfl,.new _ hp,p,x',y',z0,HZ aF,?_,?_⟩⟩
   ·have:=z1 vs (a1 W4 e4);rw[hx]at this;cases this
    exact Al (e4.trans (Eu _ hp).g) rx
   ·have:=z2 us (a2 W4 e4);rw[hy]at this;cases this
    exact Al (e4.trans (Eu _ hp).g) ry
  ·refine⟨vs,us,a1 W4 e4,a2 W4 e4,?_⟩
   rw[DI,b1.1,b2.1]
   omega))
theorem qc {f:α->Res β} {xs:List α} {i:Nat} {a:α} (h:xs[i]? =some a):iW f (xs.drop i)=(f a).bind fun b=>(iW f (xs.drop (i+1))).bind fun bs=>.ok (b::bs):=by
 obtain⟨hi,e⟩:=Az.mp h
 rw[Cn hi,e]
 rfl
theorem ny {f:α->Res (Option β)} {xs:List α} {i:Nat} {a:α} (h:xs[i]? =some a):gq f (xs.drop i)=(f a).bind fun b=>(gq f (xs.drop (i+1))).bind fun bs=>.ok (match b with | some b=>b::bs | none=>bs):=by
 obtain⟨hi,e⟩:=Az.mp h
 rw[Cn hi,e]
 rfl
theorem eV {cap:List (Option Nat)} {wi:TI} {g:TG} {te:TE} {R:Rp α} {R':Rp β} [Mono R'] {m:Res (List α)} {f:α->Res β} (hi:IV Er wi σ W R m)
  (hb:∀(W1:Wd) (a:α) (v:V),Ext W W1->R W1.G a v->∀Q:VK,(f a).OkE Er (fun b=>∀u W2,Ext W1 W2->R' W2.G b u->Q u W2.H)->g v (bp cap σ) W1.H fun σ2 H2=>Keep (bp cap σ) σ2/\te σ2 H2 Q):
  EVo Er (oq cap wi g wG te) σ W R' (m.bind fun xs=>dQ xs f):=fun W1 e1 Q k=>by
 refine hi W1 e1 _ ((Ak k).imp fun xs kx J W2 e2 hy=>?_)
 obtain⟨hl,kx⟩:=bt (Ak kx)
 refine⟨fun i n ys H=>n=xs.length- i/\i<=xs.length/\ys.length<=i/\∃(W3:Wd) (bs:List β),W3.H=H/\Ext W2 W3/\LR R' W3.G bs ys/\(iW f (xs.drop i)).OkE Er (fun r=>∀p W4,Ext W1 W4->W1.H p=none->Ow R' W4 p (bs++r)->Q (.ref p) W4.H),⟨xs.length,by simp,by simp,by simp,W2,[],rfl,.refl _,.nil,?_⟩,?_⟩
 ·simpa using kx
 ·rintro i n ys H ⟨rfl,hi1,hyl,W3,bs,rfl,e3,lr,q⟩
  refine⟨by rw[BU];unfold Mi.cap at hl;omega,?_⟩
  by_cases hlt:i< xs.length
  ·obtain⟨a,ha⟩:∃a,xs[i]? =some a:=⟨xs[i],by simp[hlt]⟩
   obtain⟨h1,h2⟩:=(hy W3 e3.g).1 i a ha
   refine .inr ⟨h1,fun ys' H'=>ys'.length<=i+1/\∃(W3:Wd) (bs:List β),W3.H=H'/\Ext W2 W3/\LR R' W3.G bs ys'/\(iW f (xs.drop (i+1))).OkE Er (fun r=>∀p W4,Ext W1 W4->W1.H p=none->Ow R' W4 p (bs++r)->Q (.ref p) W4.H),fun ys' H' ⟨z1,z2⟩=>⟨xs.length- (i+1),by omega,rfl,hlt,z1,z2⟩,fun x H' hx=>?_⟩
   obtain⟨W4,rfl,e4,rx⟩:=h2 x H' hx
   rw[qc ha]at q
   have:=hb W4 a x (e1.trans ((e2.trans e3).trans e4)) rx (fun y H4=>(ys++ [y]).length<=i+1/\∃(W3:Wd) (bs:List β),W3.H=H4/\Ext W2 W3/\LR R' W3.G bs (ys++ [y])/\(iW f (xs.drop (i+1))).OkE Er (fun r=>∀p W4,Ext W1 W4->W1.H p=none->Ow R' W4 p (bs++r)->Q (.ref p) W4.H))
    ((Ak q).imp fun b kb u W5 e5 hu=>⟨by simp;exact hyl,W5,bs++ [b],rfl,(e3.trans e4).trans e5,(lr.same (e4.trans e5).g).snoc hu,(Ak kb).imp fun r kr=>by rw[AM];exact kr⟩)
   exact this
  ·have e:i=xs.length:=by omega
   subst e
   rw[D4]at q
   refine .inl ⟨(hy W3 e3.g).2,fun D hD=>?_⟩
   have e13:=e2.trans e3
   have:=q D (W3.mut D (.lst ys) (W3.gnone hD)) (e13.trans (.own _ hD)) (aQ e13.h hD) ⟨W3.gnone hD,ys,aF,by rw[C1];exact lr⟩
   exact this
theorem lS {cap:List (Option Nat)} {wi:TI} {g:TG} {tf:TT} {te:TE} {R:Rp α} {R':Rp β} [Mono R'] {m:Res (List α)} {f:α->Res (Option β)} (hi:IV Er wi σ W R m)
    (hb:∀(W1:Wd) (a:α) (v:V),Ext W W1->R W1.G a v->∀Q:Option V->Hp->Prop,(f a).OkE Er (fun b=>∀u W2,Ext W1 W2->(match b,u with | some b,some u=>R' W2.G b u | none,none=>True | _,_=>False)->Q u W2.H)->g v (bp cap σ) W1.H fun σ2 H2=>Keep (bp cap σ) σ2/\tf σ2 H2 fun b H3=>if b=true then te σ2 H3 (fun y H4=>Q (some y) H4)else Q none H3):
    EVo Er (oq cap wi g tf te) σ W R' (m.bind fun xs=>lM xs f):=fun W1 e1 Q k=>by
  refine hi W1 e1 _ ((Ak k).imp fun xs kx J W2 e2 hy=>?_)
  obtain⟨hl,kx⟩:=bt (Ak kx)
  refine⟨fun i n ys H=>n=xs.length- i/\i<=xs.length/\ys.length<=i/\∃(W3:Wd) (bs:List β),W3.H=H/\Ext W2 W3/\LR R' W3.G bs ys/\(gq f (xs.drop i)).OkE Er (fun r=>∀p W4,Ext W1 W4->W1.H p=none->Ow R' W4 p (bs++r)->Q (.ref p) W4.H),⟨xs.length,by simp,by simp,by simp,W2,[],rfl,.refl _,.nil,?_⟩,?_⟩
  · simpa using kx
  · rintro i n ys H ⟨rfl,hi1,hyl,W3,bs,rfl,e3,lr,q⟩
    refine⟨by rw[BU];unfold Mi.cap at hl;omega,?_⟩
    by_cases hlt:i< xs.length
    · obtain⟨a,ha⟩:∃a,xs[i]? =some a:=⟨xs[i],by simp[hlt]⟩
      obtain⟨h1,h2⟩:=(hy W3 e3.g).1 i a ha
      refine .inr ⟨h1,fun ys' H'=>ys'.length<=i+1/\∃(W3:Wd) (bs:List β),W3.H=H'/\Ext W2 W3/\LR R' W3.G bs ys'/\(gq f (xs.drop (i+1))).OkE Er (fun r=>∀p W4,Ext W1 W4->W1.H p=none->Ow R' W4 p (bs++r)->Q (.ref p) W4.H),fun ys' H' ⟨z1,z2⟩=>⟨xs.length- (i+1),by omega,rfl,hlt,z1,z2⟩,fun x H' hx=>?_⟩
      obtain⟨W4,rfl,e4,rx⟩:=h2 x H' hx
      rw[ny ha]at q
      have:=hb W4 a x (e1.trans ((e2.trans e3).trans e4)) rx (fun y H4=>(match y with | some y=>ys++ [y] | none=>ys).length<=i+1/\∃(W3:Wd) (bs:List β),W3.H=H4/\Ext W2 W3/\LR R' W3.G bs (match y with | some y=>ys++ [y] | none=>ys)/\(gq f (xs.drop (i+1))).OkE Er (fun r=>∀p W4,Ext W1 W4->W1.H p=none->Ow R' W4 p (bs++r)->Q (.ref p) W4.H))
        ((Ak q).imp fun b kb u W5 e5 hu=>by
          match b,u,hu,kb with
          | some b,some u,hu,kb=>exact⟨by simp;exact hyl,W5,bs++ [b],rfl,(e3.trans e4).trans e5,(lr.same (e4.trans e5).g).snoc hu,(Ak kb).imp fun r kr=>by rw[AM];exact kr⟩
          | none,none,hu,kb=>exact⟨by show ys.length<=i+1;omega,W5,bs,rfl,(e3.trans e4).trans e5,lr.same (e4.trans e5).g,(Ak kb).imp fun r kr=>kr⟩)
      exact this
    · have e:i=xs.length:=by omega
      subst e
      rw[D4]at q
      refine .inl ⟨(hy W3 e3.g).2,fun D hD=>?_⟩
      have e13:=e2.trans e3
      have:=q D (W3.mut D (.lst ys) (W3.gnone hD)) (e13.trans (.own _ hD)) (aQ e13.h hD) ⟨W3.gnone hD,ys,aF,by rw[C1];exact lr⟩
      exact this
end
end Wb
namespace Wb
open PySem L2 Mi
variable {Er:Nat->Prop}
section
variable {α β γ δ:Type} {t u:TS} {te ti:TE} {g:TG} {D:Ends} {σ:St} {W W0 W':Wd} {K:PySem.W.Frag} {i j k n:Nat} {P:St->Hp->Prop} {H:Hp} {v:V}
theorem gn {σ':St} (h:P σ' H) (hσ:σ.set i (some v)=σ':=by rfl):aP i v σ H P:=by subst hσ;exact h
theorem kN {σ':V->V->St} {R1:Rp α} {R2:Rp β} {ab:α×β} (h:isT2 K R1 R2 W.G ab v) (q:∀x y,R1 W.G ab.1 x->R2 W.G ab.2 y->P (σ' x y) W.H) (hσ:∀x y,(σ.set i (some x)).set j (some y)=σ' x y:=by intro _ _;rfl):bU K 2 (b6 (aP i) (b6 (aP j) bY)) v σ W.H P:=by
 obtain⟨p,x,y,h0,h,h1,h2⟩:=h
 exact⟨p,_,h0,BY W.ok h,rfl,x,_,rfl,y,_,rfl,rfl,by have:=q x y h1 h2;rw[<-hσ]at this;exact this⟩
theorem uE {σ':V->V->V->St} {R1:Rp α} {R2:Rp β} {R3:Rp γ} {ab:α×β×γ} (h:isT3 K R1 R2 R3 W.G ab v) (q:∀x y z,R1 W.G ab.1 x->R2 W.G ab.2.1 y->R3 W.G ab.2.2 z->P (σ' x y z) W.H) (hσ:∀x y z,((σ.set i (some x)).set j (some y)).set k (some z)=σ' x y z:=by intro _ _ _;rfl):bU K 3 (b6 (aP i) (b6 (aP j) (b6 (aP k) bY))) v σ W.H P:=by
 obtain⟨p,x,y,z,h0,h,h1,h2,h3⟩:=h
 exact⟨p,_,h0,BY W.ok h,rfl,x,_,rfl,y,_,rfl,z,_,rfl,rfl,by have:=q x y z h1 h2 h3;rw[<-hσ]at this;exact this⟩
theorem cD {σ':V->St} {R:Rw α} {m:Res α} (h:EV Er te σ W R m) (q:m.OkE Er fun a=>∀v W',Ext W W'->R W' a v->D.nx (σ' v) W'.H) (hσ:∀v,σ.set i (some v)=σ' v:=by intro _;rfl):bJ te (aP i) D σ W.H:=h W (.refl _) _ (q.imp fun a k v W' e r=>by have:=k v W' e r;rw[<-hσ]at this;exact this)
theorem uF {σ':Addr->St} {R:Rp α} {m:Res (List α)} (h:EVo Er te σ W R m) (q:m.OkE Er fun a=>∀p W',Ext W W'->W.H p=none->Ow R W' p a->D.nx (σ' p) W'.H) (hσ:∀p,σ.set i (some (.ref p))=σ' p:=by intro _;rfl):bJ te (aP i) D σ W.H:=h W (.refl _) _ (q.imp fun a k p W' e hp r=>by have:=k p W' e hp r;rw[<-hσ]at this;exact this)
theorem bh {R:Rw α} {m:Res α} (h:EV Er te σ W R m) (q:m.OkE Er fun a=>∀v W',Ext W W'->R W' a v->D.rt v W'.H):bX te D σ W.H:=h W (.refl _) _ q
theorem gy {R:Rp α} {m:Res (List α)} (h:EVo Er te σ W R m) (q:m.OkE Er fun a=>∀p W',Ext W W'->W.H p=none->Ow R W' p a->D.rt (.ref p) W'.H):bX te D σ W.H:=h W (.refl _) _ q
theorem kO {S:Type} {c:TT} {m:Res Bool} {mA mB:Res S} {P:S->Prop} (Iv:S->Wd->St->Prop) (h:TV Er c σ W m) (q:(m.bind fun b=>if b then mA else mB).OkE Er P)
  (hA:∀W' (N:St->Hp->Prop),Ext W W'->(∀s W1 σ1,Same W.G W1.G->Iv s W1 σ1->P s->N σ1 W1.H)->mA.OkE Er P->t {D with nx:=N} σ W'.H)
  (hB:∀W' (N:St->Hp->Prop),Ext W W'->(∀s W1 σ1,Same W.G W1.G->Iv s W1 σ1->P s->N σ1 W1.H)->mB.OkE Er P->u {D with nx:=N} σ W'.H)
  (hd:∀s W1 σ1,Same W.G W1.G->Iv s W1 σ1->P s->D.nx σ1 W1.H):iJ c t u D σ W.H:=h W (.refl _) _ ((Ak q).imp fun b kb W' e=>by
 cases b with
 | true=>exact hA W' D.nx e hd kb
 | false=>exact hB W' D.nx e hd kb)
theorem Ow.ne {R:Rp α} {p q:Addr} {ys:List α} (o:Ow R W q ys) (hp:W.H p=none):q≠p:=by
 obtain⟨vs,a,b⟩:=o.h
 exact bT a hp
structure Mu (W W':Wd) (p:Addr):Prop where
 g:Same W.G W'.G
 e:∀W0:Wd,Ext W0 W->W0.H p=none->Ext W0 W'
 h:∀q,q≠p->W.H q≠none->W'.H q=W.H q/\W'.G q=W.G q
theorem Mu.of {W1:Wd} {p:Addr} {o:HO} (e1:Ext W W1) (hg:W1.G p=none):Mu W (W1.mut p o hg) p:=⟨e1.g,fun W0 e0 hp=>(e0.trans e1).mut hp hg,fun q hq hn=>by
 obtain⟨o',ho⟩:=EB.mp hn
 exact⟨by show cJ W1.H p o q=_;rw[aH hq,e1.h _ _ ho,ho],e1.k q hn⟩⟩
theorem Mu.ow {R:Rp α} [Mono R] {p q:Addr} {ys:List α} (m:Mu W W' p) (hq:q≠p) (o:Ow R W q ys):Ow R W' q ys:=by
 obtain⟨vs,a,b⟩:=o.h
 obtain⟨h1,h2⟩:=m.h q hq (by rw[a];exact fun z=>nomatch z)
 exact⟨by rw[h2];exact o.g,vs,by rw[h1];exact a,b.same m.g⟩
theorem fw {R:Rp α} [Mono R] {p:Addr} {xs:List α} {m:Res α} (o:Ow R W p xs) (h:EV Er te σ W (sh R) m) (q:(m.bind fun a=>gm xs a).OkE Er fun ys=>∀W',Mu W W' p->Ow R W' p ys->D.nx σ W'.H) (hi:σ[i]? =some (some (.ref p)):=by rfl):bj (dO K "list" aw (bE i) (aj te aU)) D σ W.H:=by
 obtain⟨vs,h1,h2⟩:=o.h
 refine⟨.ref p,hi,.inl ⟨rfl,vs,CT h1⟩,h W (.refl _) _ ((Ak q).imp fun a ka v W2 e2 hv=>?_)⟩
 obtain⟨h3,h4⟩:=bt ka
 have hg:=(o.mono e2).g
 refine⟨p,vs,v,rfl,rfl,e2.h _ _ h1,by rw[h2.1,BU];unfold Mi.cap at h3;omega,h4 (W2.mut p (.lst (vs++ [v])) hg) (.of e2 hg) ⟨hg,_,aF,(h2.same e2.g).snoc hv⟩⟩
theorem LR.set {R:Rp α} {H:Hp} {as:List α} {vs:List V} {a:α} {v:V} (h:LR R H as vs) (r:R H a v) (j:Nat):LR R H (as.set j a) (vs.set j v):=⟨by simp[h.1],fun i x m e1 e2=>by
 rw[List.getElem?_set]at e1 e2
 by_cases z:j=i
 ·rw[if_pos z]at e1 e2
  split at e1
  ·split at e2
   ·cases e1;cases e2;exact r
   ·cases e2
  ·cases e1
 ·rw[if_neg z]at e1 e2
  exact h.2 i x m e1 e2⟩
theorem ir {R:Rp α} [Mono R] {p:Addr} {xs:List α} {m:Res α} {mi:Res Int} (o:Ow R W p xs) (h:EV Er te σ W (sh R) m) (hj:EV Er ti σ W (sh isI) mi) (q:(m.bind fun a=>mi.bind fun j=>gp xs j a).OkE Er fun ys=>∀W',Mu W W' p->Ow R W' p ys->D.nx σ W'.H) (hi:σ[i]? =some (some (.ref p)):=by rfl):bJ te (wx (bE i) ti rj) D σ W.H:=by
 obtain⟨vs,h1,h2⟩:=o.h
 refine h W (.refl _) _ ((Ak q).imp fun a ka v W2 e2 hv=>⟨.ref p,hi,hj W2 e2 _ ((Ak ka).imp fun j kj x W3 e3 hx=>?_)⟩)
 cases hx
 obtain⟨l,h3,h4⟩:=eR (Ak kj)
 have e:=e2.trans e3
 have hg:=(o.mono e).g
 exact⟨p,vs,j,l,rfl,rfl,e.h _ _ h1,by rw[h2.1];exact h3,h4 (W3.mut p (.lst (vs.set l v)) hg) (.of e hg) ⟨hg,_,aF,(h2.same e.g).set (Al (R:=R) e3.g hv) l⟩⟩
def rV {S:Type} (W:Wd) (Iv:S->Wd->St->Prop) (P:S->Prop):St->Hp->Prop:=fun σ' H'=>∃s' W',W'.H=H'/\Same W.G W'.G/\Iv s' W' σ'/\P s'
theorem jP {S:Type} {f:α->S->Res S} {xs:List α} {i:Nat} {a:α} {s:S} (h:xs[i]? =some a):bN f (xs.drop i) s=(f a s).bind fun s=>bN f (xs.drop (i+1)) s:=by
 obtain⟨hi,e⟩:=Az.mp h
 rw[Cn hi,e]
 rfl
theorem nz {S:Type} {wi:TI} {tb:TS} {R:Rp α} {m:Res (List α)} {f:α->S->Res S} {s0:S} {P:S->Prop} (Iv:S->Wd->St->Prop) (hi:IV Er wi σ W R m) (q:(m.bind fun xs=>bN f xs s0).OkE Er P)
  (h0:∀W1,Ext W W1->Iv s0 W1 σ)
  (hs:∀Wb W1 W2 a v s σ1 P',Same W.G W1.G->Same Wb.G W1.G->Iv s W1 σ1->Ext W1 W2->R W2.G a v->(f a s).OkE Er P'->g v σ1 W2.H fun σ2 H2=>tb {D with nx:=rV Wb Iv P',ct:=rV Wb Iv P',bk:=D.nx} σ2 H2)
  (hd:∀s W1 σ1,Same W.G W1.G->Iv s W1 σ1->P s->D.nx σ1 W1.H):rd wi g tb D σ W.H:=by
 refine hi W (.refl _) _ ((Ak q).imp fun xs kx J W1 e1 hy=>?_)
 refine⟨fun i n σ' H'=>n=xs.length- i/\i<=xs.length/\∃s' W',W'.H=H'/\Same W1.G W'.G/\Iv s' W' σ'/\(bN f (xs.drop i) s').OkE Er P,⟨xs.length,by simp,by simp,s0,W1,rfl,.refl _,h0 W1 e1,by simpa using kx⟩,?_⟩
 rintro i n σ1 H1 ⟨rfl,hi1,s,W2,rfl,e2,iv,k⟩
 by_cases hlt:i< xs.length
 ·obtain⟨a,ha⟩:∃a,xs[i]? =some a:=⟨xs[i],by simp[hlt]⟩
  obtain⟨h1,h2⟩:=(hy W2 e2).1 i a ha
  refine .inr ⟨h1,rV W1 Iv fun s'=>(bN f (xs.drop (i+1)) s').OkE Er P,fun σ' H' ⟨s',W',z1,z2,z3,z4⟩=>⟨xs.length- (i+1),by omega,rfl,hlt,s',W',z1,z2,z3,z4⟩,fun x H' hx=>?_⟩
  obtain⟨W3,rfl,e3,rx⟩:=h2 x H' hx
  rw[jP ha]at k
  exact hs W1 W2 W3 a x s σ1 (fun s'=>(bN f (xs.drop (i+1)) s').OkE Er P) (e1.g.trans e2) e2 iv e3 rx (Ak k)
 ·have e:i=xs.length:=by omega
  subst e
  rw[D4]at k
  exact .inl ⟨(hy W2 e2).2,hd s W2 σ1 (e1.g.trans e2) iv k⟩
theorem qd {S:Type} {f:α->S->Res (Fl γ S)} {xs:List α} {i:Nat} {a:α} {s:S} (h:xs[i]? =some a):gf f (xs.drop i) s=(f a s).bind (yc (gf f (xs.drop (i+1)))):=by
 obtain⟨hi,e⟩:=Az.mp h
 rw[Cn hi,e]
 rfl
theorem uG {S:Type} {wi:TI} {tb:TS} {R:Rp α} {m:Res (List α)} {f:α->S->Res (Fl γ S)} {s0:S} {P:Fl γ S->Prop} (Iv:S->Wd->St->Prop) (hi:IV Er wi σ W R m) (q:(m.bind fun xs=>gf f xs s0).OkE Er P)
  (h0:∀W1,Ext W W1->Iv s0 W1 σ)
  (hs:∀Wb W1 W2 a v s σ1 P',Same W.G W1.G->Same Wb.G W1.G->Iv s W1 σ1->Ext W1 W2->R W2.G a v->(∀r,P' (.rt r)->P (.rt r))->(f a s).OkE Er P'->g v σ1 W2.H fun σ2 H2=>tb {D with nx:=rV Wb Iv fun s'=>P' (.nx s'),ct:=rV Wb Iv fun s'=>P' (.nx s'),bk:=D.nx} σ2 H2)
  (hd:∀s W1 σ1,Same W.G W1.G->Iv s W1 σ1->P (.nx s)->D.nx σ1 W1.H):rd wi g tb D σ W.H:=by
 refine hi W (.refl _) _ ((Ak q).imp fun xs kx J W1 e1 hy=>?_)
 refine⟨fun i n σ' H'=>n=xs.length- i/\i<=xs.length/\∃s' W',W'.H=H'/\Same W1.G W'.G/\Iv s' W' σ'/\(gf f (xs.drop i) s').OkE Er P,⟨xs.length,by simp,by simp,s0,W1,rfl,.refl _,h0 W1 e1,by simpa using kx⟩,?_⟩
 rintro i n σ1 H1 ⟨rfl,hi1,s,W2,rfl,e2,iv,k⟩
 by_cases hlt:i< xs.length
 ·obtain⟨a,ha⟩:∃a,xs[i]? =some a:=⟨xs[i],by simp[hlt]⟩
  obtain⟨h1,h2⟩:=(hy W2 e2).1 i a ha
  refine .inr ⟨h1,rV W1 Iv fun s'=>(gf f (xs.drop (i+1)) s').OkE Er P,fun σ' H' ⟨s',W',z1,z2,z3,z4⟩=>⟨xs.length- (i+1),by omega,rfl,hlt,s',W',z1,z2,z3,z4⟩,fun x H' hx=>?_⟩
  obtain⟨W3,rfl,e3,rx⟩:=h2 x H' hx
  rw[qd ha]at k
  exact hs W1 W2 W3 a x s σ1 (fun fl=>match fl with | .nx s'=>(gf f (xs.drop (i+1)) s').OkE Er P | .bk s'=>P (.nx s') | .rt r=>P (.rt r)) (e1.g.trans e2) e2 iv e3 rx (fun r h=>h) ((Ak k).imp fun fl h=>by cases fl <;> exact h)
 ·have e:i=xs.length:=by omega
  subst e
  rw[D4]at k
  exact .inl ⟨(hy W2 e2).2,hd s W2 σ1 (e1.g.trans e2) iv k⟩
section
variable {r:TS}
theorem aq {σ':V->St} {R:Rw α} {m:Res α} (h:EV Er te σ W R m) (q:m.OkE Er fun a=>∀v W',Ext W W'->R W' a v->r D (σ' v) W'.H) (hσ:∀v,σ.set i (some v)=σ' v:=by intro _;rfl):fj (bJ te (aP i)) r D σ W.H:=cD (D:={D with nx:=r D}) h q hσ
theorem cI {σ':Addr->St} {R:Rp α} {m:Res (List α)} (h:EVo Er te σ W R m) (q:m.OkE Er fun a=>∀p W',Ext W W'->W.H p=none->Ow R W' p a->r D (σ' p) W'.H) (hσ:∀p,σ.set i (some (.ref p))=σ' p:=by intro _;rfl):fj (bJ te (aP i)) r D σ W.H:=uF (D:={D with nx:=r D}) h q hσ
theorem eF {R:Rw α} {m:Res α} (h:EV Er te σ W R m) (q:m.OkE Er fun a=>∀v W',Ext W W'->R W' a v->g v σ W'.H (r D)):fj (bJ te g) r D σ W.H:=h W (.refl _) _ q
theorem fN {c:TT} {m:Res Bool} (h:TV Er c σ W m) (q:m.OkE Er fun b=>∀W',Ext W W'->if b=true then t {D with nx:=r D} σ W'.H else u {D with nx:=r D} σ W'.H):fj (iJ c t u) r D σ W.H:=h W (.refl _) _ q
theorem bI {S:Type} {c:TT} {m:Res Bool} {mA mB:Res S} {P:S->Prop} (Iv:S->Wd->St->Prop) (h:TV Er c σ W m) (q:(m.bind fun b=>if b then mA else mB).OkE Er P)
  (hA:∀W' (N:St->Hp->Prop),Ext W W'->(∀s W1 σ1,Same W.G W1.G->Iv s W1 σ1->P s->N σ1 W1.H)->mA.OkE Er P->t {D with nx:=N} σ W'.H)
  (hB:∀W' (N:St->Hp->Prop),Ext W W'->(∀s W1 σ1,Same W.G W1.G->Iv s W1 σ1->P s->N σ1 W1.H)->mB.OkE Er P->u {D with nx:=N} σ W'.H)
  (hd:∀s W1 σ1,Same W.G W1.G->Iv s W1 σ1->P s->r D σ1 W1.H):fj (iJ c t u) r D σ W.H:=kO (D:={D with nx:=r D}) Iv h q hA hB hd
theorem rW {R:Rp α} [Mono R] {p:Addr} {xs:List α} {m:Res α} (o:Ow R W p xs) (h:EV Er te σ W (sh R) m) (q:(m.bind fun a=>gm xs a).OkE Er fun ys=>∀W',Mu W W' p->Ow R W' p ys->r D σ W'.H) (hi:σ[i]? =some (some (.ref p)):=by rfl):fj (bj (dO K "list" aw (bE i) (aj te aU))) r D σ W.H:=fw (D:={D with nx:=r D}) o h q hi
theorem qe {R:Rp α} [Mono R] {p:Addr} {xs:List α} {m:Res α} {mi:Res Int} (o:Ow R W p xs) (h:EV Er te σ W (sh R) m) (hj:EV Er ti σ W (sh isI) mi) (q:(m.bind fun a=>mi.bind fun j=>gp xs j a).OkE Er fun ys=>∀W',Mu W W' p->Ow R W' p ys->r D σ W'.H) (hi:σ[i]? =some (some (.ref p)):=by rfl):fj (bJ te (wx (bE i) ti rj)) r D σ W.H:=ir (D:={D with nx:=r D}) o h hj q hi
theorem dG {S:Type} {wi:TI} {tb:TS} {R:Rp α} {m:Res (List α)} {f:α->S->Res S} {s0:S} {P:S->Prop} (Iv:S->Wd->St->Prop) (hi:IV Er wi σ W R m) (q:(m.bind fun xs=>bN f xs s0).OkE Er P)
  (h0:∀W1,Ext W W1->Iv s0 W1 σ)
  (hs:∀Wb W1 W2 a v s σ1 P',Same W.G W1.G->Same Wb.G W1.G->Iv s W1 σ1->Ext W1 W2->R W2.G a v->(f a s).OkE Er P'->g v σ1 W2.H fun σ2 H2=>tb {D with nx:=rV Wb Iv P',ct:=rV Wb Iv P',bk:=r D} σ2 H2)
  (hd:∀s W1 σ1,Same W.G W1.G->Iv s W1 σ1->P s->r D σ1 W1.H):fj (rd wi g tb) r D σ W.H:=nz (D:={D with nx:=r D}) Iv hi q h0 hs hd
theorem jQ {S:Type} {wi:TI} {tb:TS} {R:Rp α} {m:Res (List α)} {f:α->S->Res (Fl γ S)} {s0:S} {P:Fl γ S->Prop} (Iv:S->Wd->St->Prop) (hi:IV Er wi σ W R m) (q:(m.bind fun xs=>gf f xs s0).OkE Er P)
  (h0:∀W1,Ext W W1->Iv s0 W1 σ)
  (hs:∀Wb W1 W2 a v s σ1 P',Same W.G W1.G->Same Wb.G W1.G->Iv s W1 σ1->Ext W1 W2->R W2.G a v->(∀r,P' (.rt r)->P (.rt r))->(f a s).OkE Er P'->g v σ1 W2.H fun σ2 H2=>tb {D with nx:=rV Wb Iv fun s'=>P' (.nx s'),ct:=rV Wb Iv fun s'=>P' (.nx s'),bk:=r D} σ2 H2)
  (hd:∀s W1 σ1,Same W.G W1.G->Iv s W1 σ1->P (.nx s)->r D σ1 W1.H):fj (rd wi g tb) r D σ W.H:=uG (D:={D with nx:=r D}) Iv hi q h0 hs hd
end
theorem dH {S:Type} {Wb W:Wd} {Iv:S->Wd->St->Prop} {P:S->Prop} (s:S) (hs:Same Wb.G W.G) (iv:Iv s W σ) (hq:P s):rV Wb Iv P σ W.H:=⟨s,W,rfl,hs,iv,hq⟩
end
end Wb
namespace L2
open PySem PySem.Spec PyProof.Rows
section
variable {X:Cx} {K:PySem.W.Frag} {w:AQ}
theorem lT {ns:List Bool} :∀{us:List Am},Vals (ns.map IS) us->LSm.BoolsAre us ns:=by
 induction ns with
 | nil=>intro us r;cases r;exact .nil
 | cons b r ih=>intro us h;cases h with | cons h1 h2=>cases h1;exact .cons b (ih h2)
theorem qf (hc:X.calm=true) (hK:X.K=K):dv X (.builtin "all") (fun xs H Q=>∃(p:Addr) (bs:List Bool),xs=[.ref p]/\SqL K H p (bs.map IS)/\Q (.bl (bs.all id)) H):=by
 subst hK
 intro pins s σ H xs us Q I r h
 obtain⟨p,bs,rfl,hq,q⟩:=h
 obtain⟨u,rfl,rx⟩:=f6 r
 cases rx
 obtain⟨its,r',pl,hz⟩:=I.list hq
 have hb:=lT r'
 have hl:=pl.isList
 have hlt:p< s.heap.objs.size:=by obtain⟨_,e,_⟩:=hl;exact AE e
 refine call_all_walk (ER hl ?_)
 refine⟨s.heap.objs.size,[s.heap.objs.size,p],[s.heap.objs.size],its.toArray.size,_,_,fun i=>(bs[i]?).getD true,rfl,Walks.list (A:=X.A.in1) (I.ok.hd hc) _ p (AY hlt) its.toArray,
  ⟨⟨_,Ax _ rfl,rfl,rfl⟩,hl.push _⟩,fun i v s' Q' E' hP hQ=>?_,fun h' tk hk=>?_⟩
 ·obtain⟨b,e,rfl⟩:=hb.get i v (by simpa using hP)
  simp only[e,E4]at hQ
  exact CM hQ
 ·have e:((BG its.toArray.size).all fun i=>(bs[i]?).getD true)=bs.all id:=by
   rw[AH,hb.length];exact LSm.range_all bs
  rw[e]
  exact⟨.bl _,H,I.kept (LSm.kept_iter hk),rfl,q⟩
end
end L2
namespace Wb
open PySem L2 Mi
variable {Er:Nat->Prop}
section
variable {α β γ δ:Type} {t ta tb tc:TE} {σ:St} {W W0 W':Wd} {K:PySem.W.Frag} {w:AQ}
theorem uH {a n r:Int} (hc:0<=n/\n<=1000000/\a.natAbs< 2^64) (hr:a^n.toNat=r):EV Er (cU (rI xO fun i j=>.int (i^j.toNat)) (tC (.int a)) (tC (.int n))) σ W (sh isI) (.ok r):=fun W1 e1 Q k=>⟨a,n,rfl,rfl,hc,by show Q (.int (a^n.toNat)) W1.H;rw[hr];exact k _ W1 (.refl _) rfl⟩
def isScr (K:PySem.W.Frag):Rp (List Int):=fun H ns v=>∃a,v=.ref a/\SqL K H a (ns.map D8)
instance zkeep17:Mono (isScr K):=⟨fun e ⟨a,h1,h2⟩=>⟨a,h1,e.seq h2⟩⟩
theorem jR {ma:Res (List Int)} (ha:EV Er ta σ W (sh (isScr K)) ma):EV Er (dA (fun xs H Q=>∃x n,xs=[x]/\pM K x H n/\Q (.int n) H) (aj ta aU)) σ W (sh isI) (ma.bind fun a=>.ok (a.length:Int)):=fun W1 e1 Q k=>
 ha W1 e1 _ ((Ak k).imp fun a ka x W2 e2 hx=>by
  obtain⟨p,rfl,h1⟩:=hx
  exact⟨_,a.length,rfl,.inl ⟨_,W2.ok.seq h1,by simp⟩,ka _ W2 e2 rfl⟩)
theorem rX {ma:Res (List Int)} {mb:Res Int} (ha:EV Er ta σ W (sh (isScr K)) ma) (hb:EV Er tb σ W (sh isI) mb):EV Er (cU (bW K) ta tb) σ W (sh isI) (ma.bind fun a=>mb.bind fun b=>fV a b):=
 qV ha hb fun W a b x y Q hx hy k=>by
  cases hy
  obtain⟨p,rfl,h1⟩:=hx
  obtain⟨c,h4,h5⟩:=eR k
  have lr:LR isI W.G a (a.map D8):=⟨by simp,fun i v m e1 e2=>by rw[Ay,e2]at e1;cases e1;rfl⟩
  obtain⟨z,h6,h7⟩:=oC lr h4
  exact⟨p,_,b,z,rfl,rfl,W.ok.seq h1,h6,h5 _ W (.refl _) h7⟩
theorem uI {ma:Res Bool} (ha:EV Er ta σ W (sh isB) ma):EV Er (dA (fun xs H Q=>(∃i,xs=[.int i]/\Q (.int i) H)\/∃k,xs=[.bl k]/\Q (.int (if k then 1 else 0)) H) (aj ta aU)) σ W (sh isI) (ma.bind fun a=>.ok (if a then(1:Int)else 0)):=fun W1 e1 Q k=>
 ha W1 e1 _ ((Ak k).imp fun a ka x W2 e2 hx=>by cases hx;exact .inr ⟨a,rfl,ka _ W2 e2 rfl⟩)
theorem rY {R:Rp α} {W1 W2:Wd} {xs:List α} {vs:List V} {Q:VK} (h:LR R W2.G xs vs) (e:Ext W1 W2) (k:∀p W2,Ext W1 W2->W1.H p=none->Ow R W2 p xs->Q (.ref p) W2.H) (r:Addr) (hr:W2.H r=none):Q (.ref r) (cJ W2.H r (.lst vs)):=
 k r (W2.mut r (.lst vs) (W2.gnone hr)) (e.trans (.own _ hr)) (aQ e.h hr) ⟨W2.gnone hr,vs,aF,h⟩
theorem LR.ints {H:Hp} {ns:List Int} {vs:List V} (h:LR isI H ns vs):vs=ns.map D8:=by
 refine Cj fun i=>?_
 rw[Ay]
 cases e:ns[i]? with
 | none=>rw[BF]at e;rw[BF.mpr (by rw[h.1];exact e)];rfl
 | some m=>obtain⟨v,a,b⟩:=h.get e;rw[a];cases b;rfl
theorem LR.bools {H:Hp} {ns:List Bool} {vs:List V} (h:LR isB H ns vs):vs=ns.map IS:=by
 refine Cj fun i=>?_
 rw[Ay]
 cases e:ns[i]? with
 | none=>rw[BF]at e;rw[BF.mpr (by rw[h.1];exact e)];rfl
 | some m=>obtain⟨v,a,b⟩:=h.get e;rw[a];cases b;rfl
theorem wO {ma:Res (List Int)} (ha:EV Er ta σ W (pk isI) ma):EV Er (dA (fun xs H Q=>∃(p:Addr) (ns:List Int),xs=[.ref p]/\SqL K H p (ns.map D8)/\Q (.int ns.sum) H) (aj ta aU)) σ W (sh isI) (ma.bind fun a=>.ok a.sum):=fun W1 e1 Q k=>
 ha W1 e1 _ ((Ak k).imp fun a ka x W2 e2 hx=>by
  obtain⟨p,vs,rfl,h1,h2⟩:=hx
  exact⟨p,a,rfl,CT (by rw[h1,h2.ints]),ka _ W2 e2 rfl⟩)
theorem wQ {ma:Res (List Bool)} (ha:EV Er ta σ W (pk isB) ma):EV Er (dA (fun xs H Q=>∃(p:Addr) (bs:List Bool),xs=[.ref p]/\SqL K H p (bs.map IS)/\Q (.bl (bs.all id)) H) (aj ta aU)) σ W (sh isB) (ma.bind fun a=>.ok (a.all id)):=fun W1 e1 Q k=>
 ha W1 e1 _ ((Ak k).imp fun a ka x W2 e2 hx=>by
  obtain⟨p,vs,rfl,h1,h2⟩:=hx
  exact⟨p,a,rfl,CT (by rw[h1,h2.bools]),ka _ W2 e2 rfl⟩)
theorem rZ {f:α->V} {g:β->Key} [DecidableEq β] (hg:∀a b,g a=g b->a=b) (kvs:List (β×α)) (k:β):gb (kvs.map fun p=>(g p.1,f p.2)) (g k)=(look kvs k).map f:=by
 induction kvs with
 | nil=>rfl
 | cons p r ih =>
  unfold look at ih ⊢
  rw[Bh]
  by_cases z:p.1=k
  ·rw[fo (by rw[z]),List.find?_cons_of_pos (by simpa using z)];rfl
  ·rw[fq (fun e=>z (hg _ _ e)),ih,List.find?_cons_of_neg (by simpa using z)]
theorem oF {R:Rp α} {Rk:Rp β} [DecidableEq β] {d:Addr} {kv:List (Key×V)} {kvs:List (β×α)} {f:α->V} {g:β->Key} (hg:∀a b,g a=g b->a=b) (hf:∀H a,R H a (f a)) (hk:∀H b v,Rk H b v->v=kV (g b)) (D:DictK K w d kv) (e:kv=kvs.map fun p=>(g p.1,f p.2)) {m:Res β} (h:EV Er t σ W (sh Rk) m):
  EV Er (aL K w (tC (.ref d)) t) σ W (sh R) (m.bind fun k=>getD kvs k):=fun W1 e1 Q k=>
 h W1 e1 _ ((Ak k).imp fun b kb v W2 e2 hv => by
  obtain⟨a,h1,h2⟩:=eR kb
  refine⟨d,kv,g b,f a,rfl,D,hk _ _ _ hv,?_,h2 _ W2 e2 (hf _ _)⟩
  rw[e,rZ hg,h1];rfl)
theorem zw:∀a b:Tx,(CV (sOf a):Key)=CV (sOf b)->a=b:=fun a b e=>om (Ie e)
theorem zx:∀a b:Int,(CU a:Key)=CU b->a=b:=fun a b e=>Ic e
theorem qg {d:Addr} {kv:List (Key×V)} {kvs:List (Tx×Int)} (D:DictK K w d kv) (e:kv=kvs.map fun p=>(CV (sOf p.1),D8 p.2)) {m:Res Tx} (h:EV Er t σ W (sh isS) m):EV Er (aL K w (tC (.ref d)) t) σ W (sh isI) (m.bind fun k=>getD kvs k):=oF (R:=isI) (f:=D8) (g:=fun a=>CV (sOf a)) zw (fun _ _=>rfl) (fun _ _ _ h=>h) D e h
theorem qh {d:Addr} {kv:List (Key×V)} {kvs:List (Int×Tx)} (D:DictK K w d kv) (e:kv=kvs.map fun p=>(CU p.1,Eh (sOf p.2))) {m:Res Int} (h:EV Er t σ W (sh isI) m):EV Er (aL K w (tC (.ref d)) t) σ W (sh isS) (m.bind fun k=>getD kvs k):=oF (R:=isS) (f:=fun a=>Eh (sOf a)) (g:=fun a=>CU a) zx (fun _ _=>rfl) (fun _ _ _ h=>h) D e h
theorem j6 {ma:Res Int} {mb:Res (List Int)} (ha:EV Er ta σ W (sh isI) ma) (hb:EV Er tb σ W (pk isI) mb):EV Er (cU (f9 K true) ta tb) σ W (sh isB) (ma.bind fun a=>mb.bind fun b=>.ok (!b.contains a)):=
 qV ha hb fun W a b x y Q hx hy k=>by
  cases hx
  obtain⟨p,vs,rfl,h1,h2⟩:=hy
  refine⟨p,vs,rfl,.inl (CT h1),rfl,by rw[h2.ints];simp[L2.flatV],?_⟩
  have e:yF (.int a) vs=b.contains a:=by
   rw[h2.ints];unfold yF
   rw[List.any_map,Cz]
   simp[L2.eqV]
   try exact⟨fun⟨x,h,e⟩=>by subst e;exact h,fun h=>⟨a,h,rfl⟩⟩
  rw[if_pos rfl,e]
  exact k _ W (.refl _) rfl
theorem lU {R:Rp α} [Mono R] {ma:Res (List α)} (ha:EV Er ta σ W (pk R) ma):EV Er (dA (fun xs H Q=>∃p ys,xs=[.ref p]/\((SqL K H p ys/\∀l,H l=none->Q (.ref l) (cJ H l (.tup ys)))\/(SqT K H p ys/\Q (.ref p) H))) (aj ta aU)) σ W (sh (isT3 K R R R)) (ma.bind fun a=>rP a):=fun W1 e1 Q k=>
 ha W1 e1 _ ((Ak k).imp fun a ka x W2 e2 hx=>by
  obtain⟨p,vs,rfl,h1,h2⟩:=hx
  match a,ka,h2 with
  | [a, b, c], ka, h2 =>
   match vs,h2.1,h2,h1 with
   | [x, y, z], _, h2, h1 =>
    refine⟨p,_,rfl,.inl ⟨CT h1,fun l hl=>ka (.ref l) (W2.new l (.tup [x,y,z])) (e2.trans (.new _ hl)) ⟨l,x,y,z,rfl,HZ aF,?_,?_,?_⟩⟩⟩
    ·exact Al (Eu _ hl).g (h2.2 0 x a rfl rfl)
    ·exact Al (Eu _ hl).g (h2.2 1 y b rfl rfl)
    ·exact Al (Eu _ hl).g (h2.2 2 z c rfl rfl))
def EqK (K:PySem.W.Frag) (H:Hp):Nat->V->V->Prop
  | 0,v,u=>v=u/\flat v=true
  | n + 1, v, u => (v = u /\ flat v = true) \/ ∃ p q xs ys, v = .ref p /\ u = .ref q /\ ((H p = some (.lst xs) /\ H q = some (.lst ys)) \/ (SqT K H p xs /\ SqT K H q ys)) /\ xs.length = ys.length /\
      ∀(i:Nat) (x y:V),xs[i]? =some x->ys[i]? =some y->EqK K H n x y
theorem EqK.same {H H':Hp} (e:Same H H'):∀{n:Nat} {v u:V},EqK K H n v u->EqK K H' n v u
 | 0,_,_,h=>h
 | n + 1, _, _, h => by
  rcases h with h | ⟨p,q,xs,ys,h1,h2,h3,h4,h5⟩
  ·exact .inl h
  ·refine .inr ⟨p,q,xs,ys,h1,h2,?_,h4,fun i x y e1 e2=>EqK.same e (h5 i x y e1 e2)⟩
   rcases h3 with⟨a,b⟩ | ⟨a,b⟩
   ·exact .inl ⟨e _ _ a,e _ _ b⟩
   ·exact .inr ⟨BY e a,BY e b⟩
theorem EqK.flat {H:Hp} {n:Nat} {v:V} (h:L2.flat v=true):EqK K H n v v:=by cases n with | zero=>exact⟨rfl,h⟩ | succ n=>exact .inl ⟨rfl,h⟩
class EqR (K:PySem.W.Frag) {α:Type} (R:Rp α) (n:outParam Nat):Prop where
 eq:∀H a v u m,n<=m->R H a v->R H a u->EqK K H m v u
instance zkeep18:EqR K isI 0:=⟨fun H a v u m _ h1 h2=>by cases h1;cases h2;exact .flat rfl⟩
end
end Wb
namespace L2
open PySem PySem.Spec PyProof.Rows
section
variable {X:Cx} {K:PySem.W.Frag} {w:AQ} {o e:Expr} {to:TE} {t:TA} {apos cpos:Pos}
def yk (K:PySem.W.Frag):V->List V->Hp->VK->Prop:=fun x xs H Q=>∃(p:Addr) (ys:List (List Nat)),x=.str (sOf [])/\xs=[.ref p]/\SqL K H p (ys.map fun y=>Eh (sOf y))/\ys.flatten.length<=100000/\Q (.str (sOf ys.flatten)) H
def yl:V->List V->Hp->VK->Prop:=fun x xs H Q=>∃a b,x=.str a/\xs=[.str b]/\0<=Ez a b/\Q (.int (Ez a b)) H
abbrev zy (X:Cx) (cpos:Pos) (e:Expr):Prop:=((backTo cpos (starEach [e] X.env)).all (fun x=> !x.1) && (backToKw cpos (keywordEach [] X.env)).all (fun x=>x.1.isSome) && decide ([e].length+([]:List Fp).length+(if([]:List Fp).isEmpty then 0 else 1)< 30))=true
theorem fz (h:X.K=K):dv X (.type "tuple") (fun xs H Q=>∃p ys,xs=[.ref p]/\((SqL K H p ys/\∀l,H l=none->Q (.ref l) (cJ H l (.tup ys)))\/(SqT K H p ys/\Q (.ref p) H))):=h▸jz
theorem j7 (h:X.K=K) (ho:PE X o to) (ha:PA X [e] t) (hbase:attributeBase o "join" X.env (eval o X.env)=eval o X.env:=by rfl) (hfew:zy X cpos e:=by rfl) (hline:(apos.endLine == cpos.line)=true:=by rfl) (hs:starEach [e] X.env=(false,eval e X.env)::starEach [] X.env:=by rfl) (hplain:(backTo cpos (starEach [] X.env)).any (·.1)=false:=by rfl):
  PE X (.Call (.Attribute o "join" apos) [e] [] cpos) (dO K "str" (yk K) to t):=nu (K:=K) h PySem.F.plainAttrs_str PySem.F.slot_str_join PySem.F.type_str_join (rJ (K:=K) h) ho ha hbase hfew hline hs hplain
theorem eH (h:X.K=K) (hc:X.calm=true) (ho:PE X o to) (ha:PA X [e] t) (hbase:attributeBase o "index" X.env (eval o X.env)=eval o X.env:=by rfl) (hfew:zy X cpos e:=by rfl) (hline:(apos.endLine == cpos.line)=true:=by rfl) (hs:starEach [e] X.env=(false,eval e X.env)::starEach [] X.env:=by rfl) (hplain:(backTo cpos (starEach [] X.env)).any (·.1)=false:=by rfl):
  PE X (.Call (.Attribute o "index" apos) [e] [] cpos) (dO K "str" yl to t):=nu (K:=K) h PySem.F.plainAttrs_str PySem.F.slot_str_index PySem.F.type_str_index (rB hc) ho ha hbase hfew hline hs hplain
theorem cE (h:X.K=K) (ho:PE X o to) (ha:PA X [e] t) (hbase:attributeBase o "append" X.env (eval o X.env)=eval o X.env:=by rfl) (hfew:zy X cpos e:=by rfl) (hline:(apos.endLine == cpos.line)=true:=by rfl) (hs:starEach [e] X.env=(false,eval e X.env)::starEach [] X.env:=by rfl) (hplain:(backTo cpos (starEach [] X.env)).any (·.1)=false:=by rfl):
  PE X (.Call (.Attribute o "append" apos) [e] [] cpos) (dO K "list" aw to t):=nu (K:=K) h PySem.F.plainAttrs_list PySem.F.slot_list_append PySem.F.type_list_append pR ho ha hbase hfew hline hs hplain
end
end L2
namespace Wb
open PySem L2 Mi
variable {Er:Nat->Prop}
section
variable {α β γ δ:Type} {t t1 t2 t3 ta tb tc:TE} {σ:St} {W W0 W':Wd} {K:PySem.W.Frag} {w:AQ}
theorem sd {ma:Res (List Int)} (ha:EV Er ta σ W (pk isI) ma):EVo Er (dA (fun xs H Q=>∃(p:Addr) (ns:List Int),xs=[.ref p]/\SqL K H p (ns.map D8)/\ns.length< 64/\∀(q:Addr) (ns':List Int),H q=none->ns'.Perm ns->ns'.Pairwise (· <= ·)->Q (.ref q) (cJ H q (.lst (ns'.map D8)))) (aj ta aU)) σ W isI (ma.bind fun a=>rO a):=fun W1 e1 Q k=>
 ha W1 e1 _ ((Ak k).imp fun a ka x W2 e2 hx=>by
  obtain⟨p,vs,rfl,h1,h2⟩:=hx
  obtain⟨h3,h4⟩:=bt ka
  refine⟨p,a,rfl,CT (by rw[h1,h2.ints]),h3,fun q ns' hq hp hs=>?_⟩
  rw[qa hp hs]
  exact rY (vs:=(gV a).map D8) ⟨by simp,fun i v m e1 e2=>by rw[Ay,e2]at e1;cases e1;rfl⟩ e2 h4 q hq)
theorem j8 {R1:Rp α} {R2:Rp β} {d:Addr} {x y:V} {a:α} {b:β} (T:∀H,SqT K H d [x,y]) (h1:∀H,R1 H a x) (h2:∀H,R2 H b y):EV Er (tC (.ref d)) σ W (sh (isT2 K R1 R2)) (.ok (a,b)):=fun W1 _ Q k=>k _ W1 (.refl _) ⟨d,x,y,rfl,T _,h1 _,h2 _⟩
theorem gI (i:Int):∀H,isI H i (.int i):=fun _=>rfl
end
end Wb
namespace Mi
theorem fP {a b:Int} (h:0< b):iV a b=.ok (a% b):=bA h
theorem lV {a b:Int} (h1:0< b) (h2:b< 1073741824):i9 a b=.ok (a/ b):=bA ⟨h1,h2⟩
theorem lW {a b:Int} (h1: -18446744073709551616< a) (h2:a< 18446744073709551616):jB a b=.ok (a*b):=bA (.inl ⟨h1,h2⟩)
theorem se {a b:Int} (h1: -18446744073709551616< b) (h2:b< 18446744073709551616):jB a b=.ok (a*b):=bA (.inr ⟨h1,h2⟩)
theorem eW {α:Type} {xs:List α} {x:α} (h:xs.length< 100000):gm xs x=.ok (xs++ [x]):=bA h
theorem kP {a b:Tx} (h:a.length+b.length<=100000):jC a b=.ok (a++b):=bA h
theorem oG {α:Type} {a b:List α} (h:a.length+b.length<=100000):uC a b=.ok (a++b):=bA h
theorem uJ {c:Nat} {n:Int} (h0:0<=n) (h1:n<=100000):wK [c] n=.ok (Ct n.toNat c):=bA ⟨h0,h1⟩
theorem oH {a:Tx} {lo hi:Option Int} (h:a.length<=100000):q9 a lo hi=.ok (cut a lo hi):=bA h
theorem lX {xs:List Tx} (h:xs.flatten.length<=100000):lL xs=.ok xs.flatten:=bA h
theorem qi {n:Nat} (h:n<=100000):fu (n:Int)=.ok ((BG n).map fun(i:Nat)=>(i:Int)):=by
 unfold fu;rw[bA ⟨by omega,by omega⟩];simp[ee]
theorem iu {α:Type} {xs:List α} {i:Int} (h0:0<=i) (h1:i< xs.length):∃x,fV xs i=.ok x/\xs[i.toNat]? =some x:=by
 obtain⟨h,e⟩:=rM h0 h1
 exact⟨xs[i.toNat],by unfold fV;rw[e];rfl,by simp[h]⟩
theorem fQ {x:Tx} {i:Int} (h0:0<=i) (h1:i< x.length) (h2:x.length<=100000):∃c,eB x i=.ok [c]/\x[i.toNat]? =some c:=by
 obtain⟨h,e⟩:=rM h0 h1
 refine⟨x[i.toNat],?_,by simp[h]⟩
 unfold eB;rw[bA h2];show(wJ (qU x i)).bind _=_;rw[e];rfl
theorem wR {x:Tx} {i:Int} (h0:0<=i) (h1:i< x.length) (h2:x.length<=100000):eB x i=.ok [x[i.toNat]?.getD 0]:=by
 obtain⟨c,e,h⟩:=fQ h0 h1 h2
 rw[e,h];rfl
theorem uK {α:Type} {xs:List α} {i:Int} {x:α} (h0:0<=i) (h1:i< xs.length):gp xs i x=.ok (xs.set i.toNat x):=by
 unfold gp ixN;rw[if_pos h0,if_pos h1];rfl
theorem sf {α:Type} [DecidableEq α] {a b:α} (h:a=b):yd a b=.ok true:=if_pos h
theorem si {xs:List Int} (h:xs.length< 64):rO xs=.ok (gV xs):=bA h
theorem cZ {α S:Type} {f:α->S->Res S} (I:List α->S->Prop) (xs:List α) (s0:S) (h0:I [] s0) (step:∀pre a post s,xs=pre++a::post->I pre s->∃s',f a s=.ok s'/\I (pre++ [a]) s'):
  ∃s,bN f xs s0=.ok s/\I xs s:=by
 have key:∀(post pre:List α) (s:S),xs=pre++post->I pre s->∃s',bN f post s=.ok s'/\I xs s':=by
  intro post
  induction post with
  | nil=>intro pre s e h;rw[C1]at e;subst e;exact⟨s,rfl,h⟩
  | cons a r ih =>
   intro pre s e h
   obtain⟨s1,e1,h1⟩:=step pre a r s e h
   obtain⟨s2,e2,h2⟩:=ih (pre++ [a]) s1 (by rw[e];simp) h1
   exact⟨s2,by unfold bN;rw[e1];exact e2,h2⟩
 exact key xs [] s0 rfl h0
theorem sj {α S γ:Type} {f:α->S->Res (Fl γ S)} (I:List α->S->Prop) (xs:List α) (s0:S) (h0:I [] s0) (step:∀pre a post s,xs=pre++a::post->I pre s->∃s',f a s=.ok (.nx s')/\I (pre++ [a]) s'):
  ∃s,gf f xs s0=.ok (.nx s)/\I xs s:=by
 have key:∀(post pre:List α) (s:S),xs=pre++post->I pre s->∃s',gf f post s=.ok (.nx s')/\I xs s':=by
  intro post
  induction post with
  | nil=>intro pre s e h;rw[C1]at e;subst e;exact⟨s,rfl,h⟩
  | cons a r ih =>
   intro pre s e h
   obtain⟨s1,e1,h1⟩:=step pre a r s e h
   obtain⟨s2,e2,h2⟩:=ih (pre++ [a]) s1 (by rw[e];simp) h1
   exact⟨s2,by unfold gf;rw[e1];exact e2,h2⟩
 exact key xs [] s0 rfl h0
theorem lY {α β:Type} {f:α->Res (Option β)} {g:α->Option β} :∀{xs:List α},(∀x∈xs,f x=.ok (g x))->gq f xs=.ok (xs.filterMap g)
 | [],_=>rfl
 | a :: r, h => by
  unfold gq
  rw[h a (AJ ..),Ao,lY fun x hx=>h x (AN _ hx),Ao,CW]
  cases g a <;> rfl
theorem lZ {α β:Type} {f:α->Res (Option β)} {g:α->Option β} {xs:List α} (hl:xs.length<=100000) (h:∀x∈xs,f x=.ok (g x)):lM xs f=.ok (xs.filterMap g):=by
 unfold lM;rw[bA hl,Ao,lY h]
theorem oI (l:List Nat):((l.map fun c=>[c]):List Tx).flatten=l:=by induction l with | nil=>rfl | cons a r ih=>simp[ih]
theorem j9 {α:Type} (l:List α) (k:Nat):cut l none (some (k:Int))=l.take k:=by
 unfold cut sIx;simp only[]
 rw[if_neg (by omega),BE];simp[List.take_eq_take_iff]
theorem m6 {α:Type} (l:List α) (k:Nat):cut l (some (k:Int)) none=l.drop k:=by
 unfold cut sIx;simp only[]
 rw[if_neg (by omega),BE]
 by_cases h:k<=l.length
 ·rw[Nat.min_eq_left h,Df (by simp)]
 ·rw[Nat.min_eq_right (by omega),Ft (by omega),Ft (by omega)];simp
theorem dB {x:Tx} {t:Tx} (h:t∈bK x):∃c∈x,t=[c]:=by
 unfold bK at h;obtain⟨c,hc,e⟩:=Bi.mp h;exact⟨c,hc,e.symm⟩
theorem uL (a:Int):0<=cP a:=by unfold cP;split <;> omega
section
variable {α β:Type} {P:α->Prop} {Q:β->Prop}
theorem ja {m:Res α} {f:α->Res β} (h:m.Ok fun a=>(f a).Ok Q):(m.bind f).Ok Q:=Res.bind_ok h
theorem zE {b:Bool} {A B:Res α} (h1:b=true->A.Ok P) (h2:b=false->B.Ok P):(if b=true then A else B).Ok P:=by
 cases b with
 | true=>exact h1 rfl
 | false=>exact h2 rfl
theorem m7 {c:Prop} [Decidable c] {A B:Res α} (h1:c->A.Ok P) (h2:¬c->B.Ok P):(if decide c=true then A else B).Ok P:=by
 by_cases h:c
 ·rw[decide_eq_true h];exact h1 h
 ·rw[decide_eq_false h];exact h2 h
theorem fR {a:α} (h:P a):(As a).Ok P:=h
theorem zF {m:Res α} {a:α} (e:m=.ok a) (h:P a):m.Ok P:=by rw[e];exact h
end
end Mi
namespace L2
open PySem PySem.Spec PyProof.Rows Wb
end L2
namespace L2
open PySem PySem.Spec PyProof.Rows
end L2
namespace Wb
open PySem L2 Mi
variable {Er:Nat->Prop}
end Wb
namespace Mi
inductive Dat where
 | n | b (x:Bool) | i (x:Int) | s (x:Tx) | t (xs:List Dat) | l (xs:List Dat)
def gz (k:Nat) (d:Dat):Bool:=match d,k with
 | .b _,0=>true | .b _,1=>true | .i _,1=>true | .s _,2=>true | .l _,3=>true | .t _,4=>true | _,_=>false
def m8 {κ α:Type} [DecidableEq κ] (kvs:List (κ×α)) (k:κ) (a:α):List (κ×α):=
 if(kvs.any fun kv=>decide (kv.1=k))=true then kvs.map (fun kv=>if kv.1=k then(kv.1,a)else kv)else kvs++ [(k,a)]
end Mi
namespace PySem
open Sem (wp)
open AutoSeq1 (wpAny_loadPart')
end PySem
namespace L2
open PySem PySem.Spec PyProof.Rows
end L2
namespace L2
end L2
namespace Wb
open PySem L2 Mi
variable {Er:Nat->Prop}
inductive isU (K:PySem.W.Frag) (H:Hp):Dat->V->Prop where
 | n:isU K H .n .non
 | b {x:Bool} :isU K H (.b x) (.bl x)
 | i {x:Int} :isU K H (.i x) (.int x)
 | s {x:Tx} :isU K H (.s x) (.str (sOf x))
 | t {p:Addr} {xs:List Dat} {vs:List V} (h:SqT K H p vs) (hl:vs.length=xs.length) (r:∀(j:Nat) x v,xs[j]? =some x->vs[j]? =some v->isU K H x v):isU K H (.t xs) (.ref p)
 | l {p:Addr} {xs:List Dat} {vs:List V} (h:H p=some (.lst vs)) (hl:vs.length=xs.length) (r:∀(j:Nat) x v,xs[j]? =some x->vs[j]? =some v->isU K H x v):isU K H (.l xs) (.ref p)
section
variable {α β γ δ:Type} {t t1 t2 t3 t4 ta tb tc td:TE} {σ:St} {W W0 W':Wd} {K:PySem.W.Frag} {w:AQ}
def zG (K:PySem.W.Frag) (R:Rp α) (u:α->Dat):Prop:=∀H a v,R H a v->isU K H (u a) v
theorem vY:zG K isI .i:=fun _ _ _ h=>by cases h;exact .i
theorem sk {R:Rp α} {u:α->Dat} {m:Res α} (h:zG K R u) (e:EV Er t σ W (sh R) m):EV Er t σ W (sh (isU K)) (m.bind fun a=>.ok (u a)):=fun W1 e1 Q k=>
 e W1 e1 _ ((Ak k).imp fun a ka v W2 e2 hv=>ka v W2 e2 (h _ _ _ hv))
theorem qj {K:PySem.W.Frag} (a b:String) (r:Bool) (h:PySem.W.kitOne [] (.type a) (.type b)=some r):PySem.W.kitOne K (.type a) (.type b)=some r:=by first | exact h | (rw[<-h];rfl)
def ym:Nat->String | 0=>"bool" | 1=>"int" | 2=>"str" | 3=>"list" | _=>"tuple"
theorem m9 {ma:Res Dat} {j:Nat} (hj:j< 5) (ha:EV Er ta σ W (sh (isU K)) ma):EV Er (dA (fun xs H Q=>∃x T t b,xs=[x,.ty T]/\TyOf K H x t/\PySem.W.kitOne K t (.type T)=some b/\Q (.bl b) H) (aj ta (aj (tC (.ty (ym j))) aU))) σ W (sh isB) (ma.bind fun a=>.ok (gz j a)):=fun W1 e1 Q k=>
  ha W1 e1 _ ((Ak k).imp fun a ka x W2 e2 hx=>by
    have hj':j=0\/j=1\/j=2\/j=3\/j=4:=by omega
    cases hx with
    | n => refine ⟨_, _, _, false, rfl, .non, ?_, ?_⟩
           · rcases hj' with rfl | rfl | rfl | rfl | rfl <;> exact qj _ _ _ rfl
           · have:=ka (.bl (gz j .n)) W2 e2 rfl
             rcases hj' with rfl | rfl | rfl | rfl | rfl <;> exact this
    | b => rename_i x
           refine⟨_,_,_,gz j (.b x),rfl,.bl _,?_,ka _ W2 e2 rfl⟩
           rcases hj' with rfl | rfl | rfl | rfl | rfl <;> exact qj _ _ _ rfl
    | i => rename_i x
           refine⟨_,_,_,gz j (.i x),rfl,.int _,?_,ka _ W2 e2 rfl⟩
           rcases hj' with rfl | rfl | rfl | rfl | rfl <;> exact qj _ _ _ rfl
    | s => rename_i x
           refine⟨_,_,_,gz j (.s x),rfl,.str _,?_,ka _ W2 e2 rfl⟩
           rcases hj' with rfl | rfl | rfl | rfl | rfl <;> exact qj _ _ _ rfl
    | @t p xs vs h hl r =>
           refine⟨_,_,_,gz j (.t xs),rfl,.tup (BY W2.ok h),?_,ka _ W2 e2 rfl⟩
           rcases hj' with rfl | rfl | rfl | rfl | rfl <;> exact qj _ _ _ rfl
    | @l p xs vs h hl r =>
           refine⟨_,_,_,gz j (.l xs),rfl,.lst (W2.ok _ _ h),?_,ka _ W2 e2 rfl⟩
           rcases hj' with rfl | rfl | rfl | rfl | rfl <;> exact qj _ _ _ rfl)
def fS (K:PySem.W.Frag):Nat->Sp
 | 0=>fun _ _ _ _=>False
 | n+1=>fun vs H Q _=>∃v u,vs=[v,u]/\((EqK K H n v u/\∀H',Same H H'->Q (.bl true) H')\/∃x y,v=.str x/\u=.str y/\Q (.bl (decide (Eh x=Eh y))) H)
theorem mj [DecidableEq α] {R:Rp α} [Mono R] {n N:Nat} [EqR K R n] {E:XK} {ma mb:Res α} (hn:n< N) (ha:EV Er ta σ W (sh R) ma) (hb:EV Er tb σ W (sh R) mb):EV Er (aS (fS K N) [] E (aj ta (aj tb aU))) σ W (sh isB) (ma.bind fun a=>mb.bind fun b=>yd a b):=fun W1 e1 Q k=>
 ha W1 e1 _ ((Ak k).imp fun a ka x W2 e2 hx=>hb W2 (e1.trans e2) _ ((Ak ka).imp fun b kb y W3 e3 hy=>by
  unfold yd at kb
  by_cases z:a=b
  ·rw[if_pos z]at kb
   subst z
   cases N with
   | zero=>omega
   | succ N =>
    refine⟨x,y,rfl,.inl ⟨EqR.eq W3.H a x y N (by omega) (Al W3.ok (Al (R:=R) e3.g hx)) (Al W3.ok hy),fun H' hs=>?_⟩⟩
    exact kb (.bl true) ⟨W3.G,H',W3.ok.trans hs⟩ ⟨e2.g.trans e3.g,(e2.h.trans e3.h).trans hs,fun p hp=>(e2.trans e3).k p hp⟩ rfl
  ·rw[if_neg z]at kb;exact kb.elim))
theorem EV.go {W1:Wd} {R:Rw α} {m:Res α} {Q:VK} (e:Ext W W1) (h:EV Er t σ W R m) (k:m.OkE Er fun a=>∀v W2,Ext W1 W2->R W2 a v->Q v W2.H):t σ W1.H Q:=h W1 e Q k
end
end Wb
namespace Mi
end Mi
namespace L2
open PySem PySem.Spec PyProof.Rows
end L2
namespace L2
open PySem PySem.Spec PySem.Calls PyProof.Rows
open PySem.W (findIn findObj mroIn looks_findIn looks_find looks_mroIn class_get KitX clsIn Frag)
end L2
namespace L2
open PySem PySem.Spec PySem.Calls PyProof.Rows
end L2
namespace L2
open PySem PySem.Spec PySem.Calls PyProof.Rows Mi
end L2
namespace Wb
open PySem L2 Mi
end Wb
namespace Wb
open PySem L2 Mi
open PySem.W (findIn findObj mroIn kitOne kitCls clsIn typeIn subIn specialIn takesIn Frag)
end Wb
namespace Wb
open PySem L2 Mi
end Wb
namespace L2
open PySem PySem.Spec PyProof.Rows
end L2
namespace Wb
open PySem L2 Mi
end Wb
namespace Mi
end Mi
namespace Wb
open PySem L2 Mi
end Wb
namespace L2
open PySem PySem.Spec PyProof.Rows
end L2
namespace Wb
open PySem L2 Mi
section
variable {Er:Nat->Prop} {α β:Type} {K:PySem.W.Frag} {W W0:Wd} {p:Addr} {ta tb te:TE} {σ:St} {D:Ends} {i:Nat} {r:TS} {base:Heap}
theorem LR.rev {R:Rp α} {H:Hp} {as:List α} {vs:List V} (h:LR R H as vs):LR R H as.reverse vs.reverse:=⟨by simp[h.1],fun i v m q1 q2=>by
 have hi:i< vs.length:=by have:=(Az.mp q1).1;simpa using this
 rw[CI hi]at q1
 rw[CI (by rw[<-h.1];exact hi),<-h.1]at q2
 exact h.2 _ v m q1 q2⟩
theorem uM {R:Rp α} [Mono R] {ma:Res (List α)} (ha:EV Er ta σ W (pk R) ma):EVo Er (rK K ta (bo (eM (rU fun i=>.int (-i)) (tC (.int 1))))) σ W R (ma.bind fun a=>.ok a.reverse):=fun W1 e1 Q k=>
 ha W1 e1 _ ((Ak k).imp fun a ka x W2 e2 hx=>by
  obtain⟨p,vs,rfl,h1,h2⟩:=hx
  refine⟨1,rfl, -1,rfl,p,vs,rfl,rfl,CT h1,fun q hq=>ka q (W2.mut q (.lst vs.reverse) (W2.gnone hq)) (e2.trans (.own _ hq)) (aQ e2.h hq) ⟨W2.gnone hq,_,aF,LR.rev h2⟩⟩)
end
end Wb
namespace L2
open PySem PySem.Spec PySem.Calls PyProof.Rows Mi
end L2
namespace Wb
open PySem L2 Mi
end Wb
namespace L2
open PySem PySem.Spec PyProof.Rows
end L2
namespace Wb
open PySem L2 Mi
end Wb
namespace L2
open PySem PySem.Spec PyProof.Rows
end L2
namespace Wb
open PySem L2 Mi
end Wb
namespace Mi
end Mi
namespace Wb
open PySem L2 Mi
end Wb
namespace L2
open PySem PySem.Spec PyProof.Rows
def dj (tg iter:Expr) (ifs:List Expr) (body:Sem Unit) (it:Am) (env:Env) (c:Code):Sem Fin:=do
 standAt iter.pos
 match <-pyNext it with
 | none=>pure (.done .next)
 | some v =>
  letOwnedTupleGo tg it v
  assign tg env v
  let mut ok:=true
  for c in ifs do
   if ok then ok <-isTrue c env (eval c env)
  if ok then body
  again c
structure CompE (e:Expr):Prop where
 a:∀(A:Bo) (d:Nat) (it acc:Am) (env:Env),A.under (.compLoop e d it acc env)=A
 b:∀(A:Bo) (d:Nat) (it acc:Am) (env:Env),A.under (.compStart e d it acc env)=A
 c:∀(prog:AI) (w:AQ) (d:Nat) (it acc:Am) (env:Env),(model prog w).den (.compLoop e d it acc env)=(compTurn e d it acc env).onRaise (fun x=>do noteFrame x env;theTreesLotGoes x)
 d:∀(prog:AI) (w:AQ) (d:Nat) (it acc:Am) (env:Env),(model prog w).den (.compStart e d it acc env)=(compStart e d it acc env).onRaise (fun x=>do noteFrame x env;standAt theWindowsPlace)
theorem CompE.dict {k v:Expr} {gs:List F6} {sc:Dj} {pos:Pos} :CompE (.DictComp k v gs sc pos):=⟨fun _ _ _ _ _=>rfl,fun _ _ _ _ _=>rfl,fun _ _ _ _ _ _=>rfl,fun _ _ _ _ _ _=>rfl⟩
theorem CompE.set {k:Expr} {gs:List F6} {sc:Dj} {pos:Pos} :CompE (.SetComp k gs sc pos):=⟨fun _ _ _ _ _=>rfl,fun _ _ _ _ _=>rfl,fun _ _ _ _ _ _=>rfl,fun _ _ _ _ _ _=>rfl⟩
section
variable {prog:AI} {w:AQ} {A:Bo} {R:Hr->Ap->Prop} {s:Ap}
theorem jD {e:Expr} (ce:CompE e) {d:Nat} {tg iter:Expr} {ifs:List Expr} {it acc:Am} {env:Env} {body:Sem Unit} (ht:compTurn e d it acc env=dj tg iter ifs body it env (.compLoop e d it acc env)) (I:Nat->Ap->Prop)
  (turn:∀n s,I n s->wpAny (model prog w) A (pyNext it) (fun r s₁=>match r with
   | none=>R (.ok .next) s₁
   | some v=>wpAny (model prog w) A (letOwnedTupleGo tg it v) (fun _ s₁'=>wpAny (model prog w) A (assign tg env v) (fun _ s₂=>
     wpAny (model prog w) A (forIn ifs true fun c r=>if r=true then do let ok <-isTrue c env (eval c env);pure (B9 ok)else pure (B9 r)) (fun ok s₃=>
      if ok=true then wpAny (model prog w) A body (fun _ s₅=>∃m,m< n/\I m s₅) (fun _ _=>False) s₃
      else ∃m,m< n/\I m s₃) (fun _ _=>False) s₂) (fun _ _=>False) s₁') (fun _ _=>False) s₁) (fun _ _=>False) s)
  (n:Nat) (h:I n s):codeAny (model prog w) A (.compLoop e d it acc env) R s:=by
 refine codeAny_loop rfl I (fun n s hI=>?_) n h
 rw[ce.a,ce.c]
 refine wpAny_noted ?_
 rw[ht]
 unfold dj
 refine Aj (CB (Aj (Bv (turn n s hI) (fun r s₁ h₁=>?_) fun _ _ h'=>h'.elim)))
 cases r with
 | none=>exact An h₁
 | some v =>
  refine Aj (Bv h₁ (fun _ s₁' h₁'=>?_) fun _ _ h'=>h'.elim)
  refine Aj (Bv h₁' (fun _ s₂ h₂=>Aj (Bv h₂ (fun ok s₃ h₃=>?_) fun _ _ h'=>h'.elim)) fun _ _ h'=>h'.elim)
  cases ok with
  | true =>
   rw[if_pos rfl]at h₃
   exact Aj (Bv h₃ (fun _ s₄ h₄=>An ⟨rfl,h₄⟩) fun _ _ h'=>h'.elim)
  | false =>
   rw[if_neg AG]at h₃
   exact An ⟨rfl,h₃⟩
theorem fY {e:Expr} (ce:CompE e) {d:Nat} {g:F6} {it acc:Am} {env:Env} (hg:(clausesOf e)[d]? =some g) (ha:g.is_async=0)
  (h0:codeAny (model prog w) A (.compLoop e d it acc env) R s)
  (h:wpAny (model prog w) A (pyIter it) (fun it' s'=>codeAny (model prog w) A (.compLoop e d it' acc env) R s') (notedBy (model prog w) A env fun x s'=>R (.error x) s') s):
  codeAny (model prog w) A (.compStart e d it acc env) R s:=by
 refine codeAny_of_tree ?_
 rw[ce.b,ce.d]
 refine wpAny_notedAt ?_
 unfold compStart
 rw[hg]
 simp only[Option.elim_some,ha,bne_self_eq_false,Bb,if_false]
 refine Aj (D5 (wpAny_ite ?_))
 split
 ·first
   | exact Aj (An (An (GU rfl h0)))
   | exact An (GU rfl h0)
 ·first
   | exact Aj (CF (Aj (CB (Aj (Bv h (fun it' s' h'=>An (GU rfl h')) fun _ _ x=>x)))))
   | (refine Aj (CF ?_);exact Aj (CB (Aj (Bv h (fun it' s' h'=>An (GU rfl h')) fun _ _ x=>x))))
end
def vZ (kx vx:Expr) (env:Env) (acc:Am):Sem Unit:=do
        let kv <-eval kx env
        let vv <-holding [kv] (eval vx env)
        match acc with
        | .ref d => do
          standAt {kx.pos with endLine:=vx.pos.endLine,endCol:=vx.pos.endCol}
          holding [kv,vv] (dictSet d kv vv)
        | _=>unsupported "internal:dictcomp"
def uN (iter:Expr) (e:Expr) (d:Nat) (env:Env) (acc:Am):Sem Unit:=do
        let x <-eval iter env
        standAt iter.pos
        let x <-foldedSetIterable iter env x
        let _ <-runOwn (.compStart e d (<-holding [x] (pyIter x)) acc env) env
abbrev TB:=Addr->St->Hp->(Hp->Prop)->Prop
def PB (Y:Cx) (body:Am->Sem Unit) (tb:TB):Prop:=∀(D:Addr) (pins:List (Addr×Obj)) (s:Ap) (σ:St) (H:Hp) (N:Hp->Prop),Inv Y pins σ H s->tb D σ H N->
 wpAny (model Y.prog Y.w) Y.A (body (.ref D)) (fun _ s'=>∃σ' H',Inv Y pins σ' H' s'/\(∀(j:Nat) (v:V),σ[j]? =some (some v)->σ'[j]? =some (some v))/\N H') (fun _ _=>False) s
def qk (g:TG) (tf:TT) (tb:TB) (D:Addr) (σ:St) (H1:Hp) (N:Hp->Prop) (J:It):Prop:=∃W:Nat->Nat->Hp->Prop,(∃m,W 0 m H1)/\∀i m H,W i m H->
 ((J.stop i H/\N H)\/(J.go i H/\∃M:Hp->Prop,(∀H',M H'->∃m',m'< m/\W (i+1) m' H')/\∀x H',J.yld i H x H'->g x σ H' fun σ2 H2=>Keep σ σ2/\tf σ2 H2 fun b H3=>if b=true then tb D σ2 H3 M else M H3))
def wU (wi:TI) (g:TG) (tf:TT) (tb:TB):TB:=fun D σ H N=>wi σ H fun J H1=>qk g tf tb D σ H1 N J
section
variable {Y:Cx} {tg iter elt kx vx:Expr} {ifs:List Expr} {g:TG} {tf:TT} {tb:TB} {body:Am->Sem Unit} {te tk tv:TE} {wi:TI}
theorem mm (hc:Y.calm=true) (hxe:Y.xe=fun _ _=>False) (hg:PG Y tg g) (hf:qT Y ifs tf) (hb:PB Y body tb) {e:Expr} (ce:CompE e) {d:Nat} {it:Addr} {fp:List Addr} {tn:Nat->Heap->Prop} {J:It} (T:Turn Y.prog Y.w Y.K tg J fp it tn)
  {pins:List (Addr×Obj)} {s:Ap} {σ:St} {H:Hp} {D:Addr} {N:Hp->Prop} {R:Hr->Ap->Prop} (I:Inv Y pins σ H s) (st:tn 0 s.heap) (f:∀b∈fp,FpOk Y pins H b) (w:qk g tf tb D σ H N J)
  (ht:compTurn e d (.ref it) (.ref D) Y.env=dj tg iter ifs (body (.ref D)) (.ref it) Y.env (.compLoop e d (.ref it) (.ref D) Y.env))
  (fin:∀σ' H' s',Inv Y pins σ' H' s'->(∀(j:Nat) (v:V),σ[j]? =some (some v)->σ'[j]? =some (some v))->N H'->R (.ok .next) s'):
  codeAny (model Y.prog Y.w) Y.A (.compLoop e d (.ref it) (.ref D) Y.env) R s:=by
 obtain⟨W,⟨m0,w0⟩,turn⟩:=w
 have stat:∀{H':Hp},(∀b∈fp,H' b=none)->∀b∈fp,FpOk Y pins H' b:=fun hn b hb=>⟨hn b hb,(f b hb).2⟩
 refine jD ce ht (fun n s'=>∃i σ' H',Inv Y pins σ' H' s'/\tn i s'.heap/\(∀b∈fp,H' b=none)/\(∀(j:Nat) (v:V),σ[j]? =some (some v)->σ'[j]? =some (some v))/\W i n H') ?_ m0 ⟨0,σ,H,I,st,fun b hb=>(f b hb).1,fun _ _ e=>e,w0⟩
 rintro n s3 ⟨i,σ3,H3,I3,st3,fr3,kp,w3⟩
 rcases turn i n H3 w3 with⟨stop,qn⟩ | ⟨go,M,hM,step⟩
 ·refine bM (T.done Y rfl rfl rfl hc i pins s3 σ3 H3 _ I3 (stat fr3) st3 stop) fun r s4 ⟨hr,I4⟩=>?_
  subst hr
  exact fin σ3 H3 s4 I4 kp qn
 ·have I3':Inv Y pins σ H3 s3:=I3.weak (by rw[I3.len,I.len]) kp
  refine bM (T.item Y rfl rfl rfl hc i pins s3 σ H3 _ I3' (stat fr3) st3 go) fun r s4 ⟨u,hr,h4⟩=>?_
  subst hr
  refine bM h4 fun _ s5 ⟨x,H5,I5,r5,y5,st5,fr5⟩=>?_
  have I5':=I5.pinned (stat fr5) (T.obj _ _ st5)
  have hg':=hg _ s5 σ H5 x u _ I5' r5 (step x H5 y5)
  rw[hxe]at hg'
  refine bM hg' fun _ s6 ⟨σ6,H6,I6,kp6,q6⟩=>?_
  have hf':=hf _ s6 σ6 H6 _ I6 q6
  rw[hxe]at hf'
  refine bM hf' fun ok s7 ⟨H7,I7,q7⟩=>?_
  have again:∀{s8:Ap} {σ7:St} {H7:Hp},Inv Y (pins++gO fp s5.heap) σ7 H7 s8->(∀(j:Nat) (v:V),σ6[j]? =some (some v)->σ7[j]? =some (some v))->M H7->∃m,m< n/\∃i σ' H',Inv Y pins σ' H' s8/\tn i s8.heap/\(∀b∈fp,H' b=none)/\(∀(j:Nat) (v:V),σ[j]? =some (some v)->σ'[j]? =some (some v))/\W i m H':=fun {s8 σ7 H7} I7 k7 n7=>by
   obtain⟨m',hm,w7⟩:=hM H7 n7
   refine⟨m',hm,i+1,σ7,H7,I7.unpinned,T.keep _ _ _ st5 fun b hb o e=>(I7.pin (b,o) (B0 _ (B0 _ (dD hb e)))).1,fun b hb=>?_,fun j v e=>k7 j v (Keep.get kp6 e),w7⟩
   obtain⟨o,e,d⟩:=T.obj _ _ st5 b hb
   exact(I7.pin (b,o) (B0 _ (B0 _ (dD hb e)))).2.1
  cases ok with
  | false =>
   rw[if_neg AG]at q7 ⊢
   exact again I7 (fun _ _ e=>e) q7
  | true =>
   rw[if_pos rfl]at q7 ⊢
   exact bM (hb D _ s7 σ6 H7 _ I7 q7) fun _ s8 ⟨σ8,H8,I8,k8,q8⟩=>again I8 k8 q8
theorem wV (hc:Y.calm=true) (hxe:Y.xe=fun _ _=>False) (hi:PI Y tg iter wi) (hg:PG Y tg g) (hf:qT Y ifs tf) {body:Env->Am->Sem Unit} (hb:PB Y (body Y.env) tb) {e:Expr} (ce:CompE e) {d:Nat} (hcl:(clausesOf e)[d]? =some ⟨tg,iter,ifs,0⟩)
  (ht:∀env it acc,compTurn e d it acc env=dj tg iter ifs (body env acc) it env (.compLoop e d it acc env):=by intro _ _ _;rfl) (hs:∀x,foldedSetIterable iter Y.env x=pure x:=by intro _;rfl):
  PB Y (uN iter e d Y.env) (wU wi g tf tb):=by
 intro D pins s σ H N I h
 have hi':=hi pins s σ H _ I h
 rw[hxe]at hi'
 refine Aj (bM hi' fun v s1 h1=>Aj (CB (Aj (FZ (hs v) (Aj (C0 (bM h1 fun itv s2 h2=>?_)))))))
 obtain⟨it,fp,tn,J,H2,rfl,I2,T,st2,f2,w⟩:=h2
 have lp:codeAny (model Y.prog Y.w) Y.A (.compLoop e d (.ref it) (.ref D) Y.env) (fun r s'=>match r with | .ok f=>(∃σ' H',Inv Y pins σ' H' s'/\(∀(j:Nat) (v:V),σ[j]? =some (some v)->σ'[j]? =some (some v))/\N H') | .error x=>cameBackBy (model Y.prog Y.w) Y.A Y.env (fun _ _=>False) x s') s2:=
  mm hc hxe hg hf hb ce T I2 st2 f2 w (ht _ _ _) fun σ' H' s' I' k' n'=>⟨σ',H',I',k',n'⟩
 refine Aj (wpAny_runOwn (fY ce hcl rfl ?_ ?_))
 ·exact Es lp fun r s' h=>by
   cases r with
   | ok f=>exact An h
   | error x=>exact h
 ·refine T.self _ 0 _ _ _ st2 (Es lp fun r s' h=>by
   cases r with
   | ok f=>exact An h
   | error x=>exact h)
end
section
variable {X:Cx} {scope:Dj} {N:List Str} {cap:List (Option Nat)} {tg iter:Expr} {ifs:List Expr} {pos:Pos} {wi:TI} {g:TG} {tf:TT} {tb:TB} {body:Env->Am->Sem Unit}
theorem jS {pins:List (Addr×Obj)} {σ σ':St} {H2 H':Hp} {s2 s':Ap} {fp:List Addr} {C:Addr} {h':Heap} (I2:Inv X pins σ H2 s2) (f2:∀b∈fp,FpOk X pins H2 b)
  (hC:s2.heap.objs.size<=C) (I':Inv (au X scope N s2 H2 C fp) [] σ' H' s') (hs:Bf C s'.heap h'):Inv X pins σ H' {s' with heap:=h'} :=by
 have nC:H' C=none:=I'.free
 have lt2:∀b o,s2.heap.get? b=some o->b≠C:=fun b o e=>AY (AF (AE e) hC)
 have hk:∀b o,b≠C->s'.heap.get? b=some o->h'.get? b=some o:=fun b o hb e=>(hs.2 b hb).trans e
 have B:Un (frs X.stack) fp H2 H' s2.heap s'.heap:=I'.base
 have tr:∀b u,H' b=some u->b≠C:=fun b u e z=>by rw[z,nC]at e;cases e
 refine I2.call' (ch:=fp) I'.os ⟨fun b o e n hb hx=>?_,fun b o e n hb hx=>?_,fun b o e n hx=>?_,fun b o e hx=>?_,fun b xs e=>?_,fun b o u e=>?_,fun b ps e=>?_⟩ (fun b u e=>?_) I'.bare fun b hb=>⟨(f2 b hb).2.2.2.1,(f2 b hb).2.1,(f2 b hb).2.2.2.2.1,(f2 b hb).2.2.2.2.2⟩
 ·exact hk b o (lt2 b o e) (B.keep b o e n hb hx)
 ·obtain⟨sl,q⟩:=B.slot b o e n hb hx
  exact⟨sl,hk b _ (lt2 b o e) q⟩
 ·exact B.free b o e n hx
 ·obtain⟨o',q⟩:=B.there b o e hx
  exact⟨o',hk b _ (lt2 b o e) q⟩
 ·exact B.tups b xs e
 ·exact B.frzs b o u e
 ·exact B.tbls b ps e
 ·refine(I'.hok b u e).stay (fun c w' hc q=>hk c w' ?_ q) (fun c q=>q) fun c xs q=>q
  rcases hc with z | z
  ·rw[z];exact tr b u e
  ·exact tr c _ z
theorem jb (S:CompScope X scope N cap) (hc:X.calm=true) {e:Expr} (ce:CompE e) (hcl:(clausesOf e)[0]? =some ⟨tg,iter,ifs,0⟩)
    (hg:∀s H C fp,PG (au X scope N s H C fp) tg g) (hf:∀s H C fp,qT (au X scope N s H C fp) ifs tf) (hb:∀s H C fp,PB (au X scope N s H C fp) (body (au X scope N s H C fp).env) tb)
    (ht:∀env it acc,compTurn e 0 it acc env=dj tg iter ifs (body env acc) it env (.compLoop e 0 it acc env))
    {pins:List (Addr×Obj)} {σ:St} {H3:Hp} {s3:Ap} {it D:Addr} {fp:List Addr} {tn:Nat->Heap->Prop} {J:It} {Qv:Hp->Prop} {E:Am->Ap->Prop} {RR:Addr->Hr->Ap->Prop}
    (I3:Inv X pins σ H3 s3) (T:Turn X.prog X.w X.K tg J fp it tn) (st3:tn 0 s3.heap) (f3:∀b∈fp,FpOk X pins H3 b) (w:qk g tf tb D (bp cap σ) H3 Qv J)
    (fin:∀(C:Addr) (σ':St) (H':Hp) (s':Ap),s3.heap.objs.size<=C->Inv (au X scope N s3 H3 C fp) [] σ' H' s'->Qv H'->RR C (.ok .next) s'):
    wpAny (model X.prog X.w) X.A (newFunctionEnv scope X.env.globals (bO X.env scope.names []) [] X.env.qual none .none (some X.env)) (fun cenv s₄=>
      codeAny (model X.prog X.w) X.A (.compStart e 0 (.ref it) (.ref D) {cenv with scope:=relabel scope X.env}) (RR cenv.locals) s₄) E s3:=by
  refine iQ ?_
  generalize hC:s3.heap.objs.size=C
  generalize hH4:pushCells (s3.heap.push {cls:=.type "dict",data:=.dict #[]}) scope.names=h4
  have hz3':(s3.heap.push {cls:=.type "dict",data:=.dict #[]}).objs.size=C+1:=by rw[Cg,hC]
  have ck:HW h4 (C+1) (cellsFrom (C+1) scope.names []):=by
    have:=cellsFrom_ok scope.names (s3.heap.push {cls:=.type "dict",data:=.dict #[]}) (C+1) [] ⟨fun _ _ hm=>(nomatch hm),Dp⟩ (by rw[hz3'];exact Au _)
    rw[hz3',hH4]at this
    exact this
  have k34:∀b o,s3.heap.get? b=some o->h4.get? b=some o:=fun b o e=>by rw[<-hH4];exact Ej _ _ b o (Aq _ e)
  have hn4:h4.Ns C fun _=>none:=by
    rw[<-hH4,<-hC]
    exact(Im s3.heap (.type "dict")).keeps (Ej _ _)
  have hlt:∀b∈fp,b< C:=fun b hb=>by
    obtain⟨o,e,_⟩:=T.obj _ _ st3 b hb
    rw[<-hC];exact AE e
  have hCs:s3.heap.objs.size<=C:=by rw[hC];exact Au _
  have IC:Inv (au X scope N s3 H3 C fp) [] (bp cap σ) H3 {s3 with heap:=h4} :=
    iR S I3 hCs ck f3 hlt ⟨_,_,rfl⟩ hn4 fun b o e=>k34 b o e
  have okC:=IC.ok
  have fO:∀b∈fp,FpOk (au X scope N s3 H3 C fp) [] H3 b:=fun b hb=>
    ⟨(f3 b hb).1,AY (hlt b hb),okC.exfs b hb,.inl hb,(okC.exf b hb).2,fun p hp=>by
      have:p∈([]:List (Addr×Obj)):=hp
      cases this⟩
  have st4:tn 0 h4:=T.keep _ _ _ st3 fun b hb o e=>k34 b o e
  have loop:codeAny (model X.prog X.w) X.A (.compLoop e 0 (.ref it) (.ref D) (au X scope N s3 H3 C fp).env) (RR C) {s3 with heap:=h4} :=
    mm (Y:=au X scope N s3 H3 C fp) hc rfl (hg _ _ _ _) (hf _ _ _ _) (hb _ _ _ _) ce T IC st4 fO w (ht _ _ _) fun σ' H' s' I' _ q=>fin C σ' H' s' hCs I' q
  exact fY ce hcl rfl loop (T.self _ 0 _ _ _ st4 loop)
theorem ql {it acc:Am} {env:Env} {e iter2:Expr} {d:Nat} {c:Code} :dj tg iter ifs (uN iter2 e d env acc) it env c=(do
 standAt iter.pos
 match <-pyNext it with
 | none=>pure (.done .next)
 | some v =>
  letOwnedTupleGo tg it v
  assign tg env v
  let mut ok:=true
  for c in ifs do
   if ok then ok <-isTrue c env (eval c env)
  if ok then
    let x <-eval iter2 env
    standAt iter2.pos
    let x <-foldedSetIterable iter2 env x
    let _ <-runOwn (.compStart e d (<-holding [x] (pyIter x)) acc env) env
  again c):=by
 unfold dj uN
 simp only[bind_assoc,pure_bind]
 all_goals rfl
variable {kx vx elt tg2 iter2 tg3 iter3:Expr} {ifs2 ifs3:List Expr} {wi2 wi3:TI} {g2 g3:TG} {tf2 tf3:TT} {te tk tv:TE} {mk:HO}
end
end L2
open L2.CompE renaming set->IT
namespace Wb
open PySem L2 Mi
section
variable {Er:Nat->Prop} {α β γ S:Type} {K:PySem.W.Frag} {W W' W0 Wb W1 W2:Wd} {σ:St} {t ta tb te ti tk tv:TE} {i:Nat} {O:Wd->Addr->S->Prop}
theorem sm {t:TB} {D:Addr} {H:Hp} {M:Hp->Prop} (h:t D σ H M):wG σ H fun b H3=>if b=true then t D σ H3 M else M H3:=by
 show(if true=true then t D σ H M else M H)
 rw[if_pos rfl];exact h
def BV (Er:Nat->Prop) (t:TB) (σ:St) (Wb W:Wd) (O:Wd->Addr->S->Prop) (D:Addr) (m:S->Res S):Prop:=∀W1 s (N:Hp->Prop),Ext W W1->O W1 D s->(m s).OkE Er (fun s'=>∀W',Same W1.G W'.G->Ext Wb W'->O W' D s'->N W'.H)->t D σ W1.H N
theorem kQ {R:Rp α} {J:It} {xs:List α} {g:TG} {tf:TT} {t:TB} {f:α->S->Res S} {D:Addr} {N:Hp->Prop} {s0:S} (hy:Yl J W R xs) (h0:Ext W W1\/Same W.G W1.G) (eb:Ext Wb W1) (o:O W1 D s0)
  (hs:∀W2 a v s (M:Hp->Prop),Same W.G W2.G->Ext Wb W2->O W2 D s->R W2.G a v->(f a s).OkE Er (fun s'=>∀W',Same W2.G W'.G->Ext Wb W'->O W' D s'->M W'.H)->g v σ W2.H fun σ2 H2=>Keep σ σ2/\tf σ2 H2 fun b H3=>if b=true then t D σ2 H3 M else M H3)
  (mono:∀W W' s,Ext W W'->O W D s->O W' D s)
  (k:(bN f xs s0).OkE Er fun s'=>∀W',Same W.G W'.G->Ext Wb W'->O W' D s'->N W'.H):qk g tf t D σ W1.H N J:=by
 have hs1:Same W.G W1.G:=h0.elim (fun e=>e.g) id
 refine⟨fun i n H=>n=xs.length- i/\i<=xs.length/\∃(W3:Wd) (s:S),W3.H=H/\Same W.G W3.G/\Ext Wb W3/\O W3 D s/\(bN f (xs.drop i) s).OkE Er fun s'=>∀W',Same W.G W'.G->Ext Wb W'->O W' D s'->N W'.H,⟨xs.length,by simp,by simp,W1,s0,rfl,hs1,eb,o,by simpa using k⟩,?_⟩
 rintro i n H ⟨rfl,hi1,W3,s,rfl,e3,eb3,o3,q⟩
 by_cases hlt:i< xs.length
 ·obtain⟨a,ha⟩:∃a,xs[i]? =some a:=⟨xs[i],by simp[hlt]⟩
  obtain⟨h1,h2⟩:=(hy W3 e3).1 i a ha
  refine .inr ⟨h1,fun H'=>∃(W3:Wd) (s:S),W3.H=H'/\Same W.G W3.G/\Ext Wb W3/\O W3 D s/\(bN f (xs.drop (i+1)) s).OkE Er fun s'=>∀W',Same W.G W'.G->Ext Wb W'->O W' D s'->N W'.H,fun H' z=>⟨xs.length- (i+1),by omega,rfl,hlt,z⟩,fun x H' hx=>?_⟩
  obtain⟨W4,rfl,e4,rx⟩:=h2 x H' hx
  rw[jP ha]at q
  exact hs W4 a x s _ (e3.trans e4.g) (eb3.trans e4) (mono _ _ _ e4 o3) rx ((Ak q).imp fun s' ks W' z1 z2 z3=>⟨W',s',rfl,(e3.trans e4.g).trans z1,z2,z3,ks⟩)
 ·have e:i=xs.length:=by omega
  subst e
  rw[D4]at q
  exact .inl ⟨(hy W3 e3).2,q W3 e3 eb3 o3⟩
theorem wW {R:Rp α} {wi:TI} {g:TG} {tf:TT} {t:TB} {mi:Res (List α)} {f:α->S->Res S} {D:Addr} (eb:Ext Wb W) (hi:IV Er wi σ W R mi) (mono:∀W W' s,Ext W W'->O W D s->O W' D s)
  (hs:∀W2 a v s (M:Hp->Prop),Same W.G W2.G->Ext Wb W2->O W2 D s->R W2.G a v->(f a s).OkE Er (fun s'=>∀W',Same W2.G W'.G->Ext Wb W'->O W' D s'->M W'.H)->g v σ W2.H fun σ2 H2=>Keep σ σ2/\tf σ2 H2 fun b H3=>if b=true then t D σ2 H3 M else M H3):
  BV Er (wU wi g tf t) σ Wb W O D (fun s=>mi.bind fun xs=>bN f xs s):=fun W1 s N e1 o k=>
 hi W1 e1 _ ((Ak k).imp fun xs kx J W2 e2 hy=>kQ (W:=W2) (Wb:=Wb) hy (.inl (.refl _)) ((eb.trans e1).trans e2) (mono _ _ _ e2 o) (fun W3 a v s M e3 eb3 o3 r k3=>hs W3 a v s M ((e1.trans e2).g.trans e3) eb3 o3 r k3) mono (kx.imp fun s' ks W' z1 z2 z3=>ks W' (e2.g.trans z1) z2 z3))
end
end Wb
namespace Mi
end Mi
namespace Wb
open PySem L2 Mi
end Wb
namespace Mi
end Mi
namespace Wb
open PySem L2 Mi
section
open PyProof PyProof.Rows
variable {X:Cx} {pos:Pos}
end
end Wb
namespace Mi
end Mi
namespace Wb
open PySem L2 Mi
end Wb
namespace Mi
end Mi
namespace Wb
open PySem L2 Mi
end Wb
namespace L2
open PySem PySem.Spec PyProof.Rows
end L2
namespace L2
open PySem PySem.Spec PyProof.Rows Builtin Builtin.ObjectAttr
open PySem.W (findIn findObj mroIn looks_findIn looks_find looks_mroIn looks_clsIn clsIn Frag InstAt Looks)
end L2
namespace L2
open PySem PySem.Spec PySem.Calls PyProof.Rows
open PySem.W (findIn findObj mroIn looks_findIn looks_find looks_mroIn class_get KitX clsIn Frag InstAt lookIn)
def XO (a:Addr) (o:Obj):HO:=.ext fun h=>h.get? a=some o
section
variable {P:AI} {w:AQ} {H:Hp} {h:Heap} {a d:Addr} {o:Obj} {fs:List (Str×V)} {mA:Str->Option Am}
theorem XO.ok (e:h.get? a=some o):ObjOk P w H h a (XO a o):=⟨e,⟨_,e⟩,fun _ _ p k=>k _ p⟩
end
end L2
open L2.XO renaming ok->IZ
namespace L2
open PySem PySem.Spec PySem.Calls PyProof.Rows
open PySem.W (findIn findObj clsIn Frag InstAt lookIn)
end L2
namespace Mi
end Mi
namespace Wb
open PySem L2 Mi
end Wb
namespace Mi
end Mi
namespace L2
open PySem PySem.Spec PyProof.Rows PySem.SeqAt PySem.AutoSeq1 PySem.MeetsSeq
end L2
namespace Wb
open PySem L2 Mi
section
variable {Er:Nat->Prop} {ta tb:TE} {σ:St} {W:Wd} {K:PySem.W.Frag} {m:Res (Tx×Tx×Tx)} {mb:Res Tx}
theorem sq (ha:EV Er ta σ W (sh (isT3 K isS isS isS)) m):EVo Er (dA (fun xs H Q=>∃p ys,xs=[.ref p]/\(SqL K H p ys\/SqT K H p ys)/\∀l,H l=none->Q (.ref l) (cJ H l (.lst ys))) (aj ta aU)) σ W isS (m.bind fun x=>.ok [x.1,x.2.1,x.2.2]):=fun W1 e1 Q k=>
 ha W1 e1 _ ((Ak k).imp fun x kx v W2 e2 hx=>by
  obtain⟨p,x1,x2,x3,rfl,ht,h1,h2,h3⟩:=hx
  refine⟨p,_,rfl,.inr (BY W2.ok ht),fun l hl=>kx l (W2.mut l (.lst [x1,x2,x3]) (W2.gnone hl)) (e2.trans (.own _ hl)) (aQ e2.h hl) ⟨W2.gnone hl,_,aF,rfl,fun i v y q1 q2=>?_⟩⟩
  match i,q1,q2 with
  | 0,q1,q2=>cases q1;cases q2;exact h1
  | 1,q1,q2=>cases q1;cases q2;exact h2
  | 2,q1,q2=>cases q1;cases q2;exact h3)
end
end Wb
namespace Mi
def wX (a b:Int×Int):Bool:=decide (a.1< b.1) || (decide (a.1=b.1) && decide (a.2<=b.2))
theorem iw {a b:Int×Int} :wX a b=true↔a.1< b.1\/(a.1=b.1/\a.2<=b.2):=by unfold wX;simp
def dR (xs:List (Int×Int)):List (Int×Int):=xs.mergeSort wX
theorem dw (xs:List (Int×Int)):(dR xs).Perm xs:=G6 _ _
theorem jc (xs:List (Int×Int)):(dR xs).Pairwise (fun a b=>wX a b=true):=
 Fh (le:=wX) (fun a b c h1 h2=>by rw[iw]at *;omega) (fun a b=>by simp only[Hj,iw];omega) xs
theorem jd {xs ys:List (Int×Int)} (h:ys.Perm xs) (hs:ys.Pairwise (fun a b=>wX a b=true)):ys=dR xs:=
 F5 (le:=fun a b=>wX a b=true) (fun a b _ _ h1 h2=>by rw[iw]at *;exact EC (by omega) (by omega)) hs (jc xs) (h.trans (dw xs).symm)
def mn (ks:List (Int×Int)) (k:Int×Int):Res (List (Int×Int)):=dZ (ks.length< 1000) (if k∈ks then ks else k::ks)
def sr (ks:List (Int×Int)):Res (List (Int×Int)):=dZ (ks.length<=1000) (dR ks)
end Mi
namespace Wb
open PySem
theorem je {xs:Array Nat} {j:Nat} (up:∀a b,a< b->b< xs.size->xs.getD a 0< xs.getD b 0):∀(f lo hi:Nat),hi- lo<=f->lo<=hi->hi<=xs.size->(∀a,a< lo->xs.getD a 0< j)->(∀a,hi<=a->a< xs.size->j<=xs.getD a 0)->
  Dr xs j f lo hi<=xs.size/\(∀a,a< Dr xs j f lo hi->xs.getD a 0< j)/\(∀a,Dr xs j f lo hi<=a->a< xs.size->j<=xs.getD a 0)
 | 0, lo, hi, h, hl, hs, h1, h2 => by
  unfold Dr
  exact⟨by omega,h1,fun a ha=>h2 a (by omega)⟩
 | f + 1, lo, hi, h, hl, hs, h1, h2 => by
  unfold Dr
  by_cases z:lo< hi
  ·rw[if_pos z]
   have hm:(lo+hi)/ 2< hi:=by omega
   have hm2:lo<=(lo+hi)/ 2:=by omega
   have e:∀d d':Nat,xs.getD ((lo+hi)/ 2) d=xs.getD ((lo+hi)/ 2) d':=fun d d'=>by
    simp[CA,show(lo+hi)/ 2< xs.size by omega]
   dsimp only
   generalize hM:(lo+hi)/ 2=m at*
   by_cases y:xs.getD m j< j
   ·rw[if_pos y]
    refine je up f (m+1) hi (by omega) (by omega) hs (fun a ha=>?_) h2
    by_cases q:a=m
    ·subst q;rw[e 0 j];exact y
    ·have:=up a m (by omega) (by omega)
     rw[e 0 j]at this
     omega
   ·rw[if_neg y]
    refine je up f lo m (by omega) hm2 (by omega) h1 (fun a ha hb=>?_)
    by_cases q:a=m
    ·subst q;rw[e 0 j];omega
    ·have:=up m a (by omega) hb
     rw[e 0 j]at this
     omega
  ·rw[if_neg z]
   exact⟨by omega,h1,fun a ha=>h2 a (by omega)⟩
def Up (xs:Array Nat):Prop:=∀a b,a< b->b< xs.size->xs.getD a 0< xs.getD b 0
theorem gA {xs:Array Nat} (up:Up xs) (j:Nat):BI xs j<=xs.size/\(∀a,a< BI xs j->xs.getD a 0< j)/\(∀a,BI xs j<=a->a< xs.size->j<=xs.getD a 0):=by
 unfold BI
 exact je up xs.size 0 xs.size (by omega) (by omega) (by omega) (fun a ha=>by omega) (fun a ha hb=>by omega)
abbrev Pr:=SetTable.Probe
def fe (mask:Nat) (p:Pr):Pr:=if p.more> 0 then {p with j:=p.j+1,more:=p.more- 1} else {p with j:=(B7 mask p.i p.perturb).1,more:=Bg mask (B7 mask p.i p.perturb).1- (B7 mask p.i p.perturb).1,i:=(B7 mask p.i p.perturb).1,perturb:=(B7 mask p.i p.perturb).2}
theorem jf (t:BJ) (p:Pr):t.advance p=fe t.mask p:=by unfold SetTable.advance fe;rfl
def itM (mask:Nat):Nat->Pr->Pr
 | 0,p=>p
 | n+1,p=>itM mask n (fe mask p)
theorem dU (mask:Nat):∀(a b:Nat) (p:Pr),itM mask (a+b) p=itM mask b (itM mask a p)
 | 0,b,p=>by rw[CO];rfl
 | a+1,b,p=>by rw[show a+1+b=(a+b)+1 by omega];exact dU mask a b (fe mask p)
theorem su (mask n:Nat) (p:Pr):itM mask (n+1) p=fe mask (itM mask n p):=by rw[dU];rfl
def qW (mask i pt:Nat):Pr:={j:=i,more:=Bg mask i- i,i,perturb:=pt,dummy:=none}
theorem ix (mask:Nat):∀(n:Nat) (p:Pr),p.more=n->p.dummy=none->itM mask (n+1) p=qW mask (B7 mask p.i p.perturb).1 (B7 mask p.i p.perturb).2
 | 0, p, h, hd => by
  show fe mask p=_
  unfold fe qW
  rw[if_neg (by omega)]
  cases p;simp at hd;subst hd;rfl
 | n + 1, p, h, hd => by
  show itM mask (n+1) (fe mask p)=_
  have e:fe mask p={p with j:=p.j+1,more:=p.more- 1} :=by unfold fe;rw[if_pos (by omega)]
  rw[e]
  exact ix mask n _ (by show p.more- 1=n;omega) hd
theorem oJ (mask i:Nat):Bg mask i- i<=9:=by unfold Bg;split <;> omega
def lh (mask:Nat):Nat->Nat×Nat->Nat×Nat
 | 0,x=>x
 | n+1,x=>lh mask n (B7 mask x.1 x.2)
theorem sv (mask:Nat):∀(n i pt:Nat),∃k,k<=10*n/\itM mask k (qW mask i pt)=qW mask (lh mask n (i,pt)).1 (lh mask n (i,pt)).2
 | 0,i,pt=>⟨0,by omega,rfl⟩
 | n + 1, i, pt => by
  obtain⟨k,hk,e⟩:=sv mask n (B7 mask i pt).1 (B7 mask i pt).2
  have r:=ix mask _ (qW mask i pt) rfl rfl
  have m:=oJ mask i
  refine⟨(qW mask i pt).more+1+k,?_,?_⟩
  ·have:(qW mask i pt).more<=9:=m
   omega
  ·rw[dU,r]
   exact e
theorem oK (mask:Nat):∀(a b:Nat) (x:Nat×Nat),lh mask (a+b) x=lh mask b (lh mask a x)
 | 0,b,x=>by rw[CO];rfl
 | a+1,b,x=>by rw[show a+1+b=(a+b)+1 by omega];exact oK mask a b _
theorem sx (mask:Nat):∀(n:Nat) (x:Nat×Nat),(lh mask n x).2=x.2/ 32^n
 | 0,x=>by simp[lh]
 | n + 1, x => by
  show(lh mask n (B7 mask x.1 x.2)).2=_
  rw[sx mask n]
  show x.2/ 32/ 32^n=_
  rw[Fu,Nat.pow_succ,Nat.mul_comm]
theorem wY (mask:Nat):∀(n:Nat) (x:Nat×Nat),x.1<=mask->(lh mask n x).1<=mask
 | 0,x,h=>h
 | n+1,x,h=>wY mask n _ (by show(x.1*5+1+x.2/ 32)% (mask+1)<=mask;have:=ED (x.1*5+1+x.2/ 32) (show 0< mask+1 by omega);omega)
def ue (mask:Nat):Nat->Nat->Nat
 | 0,i=>i
 | n+1,i=>ue mask n ((i*5+1)% (mask+1))
theorem sy (mask:Nat):∀(n i:Nat),lh mask n (i,0)=(ue mask n i,0)
 | 0,i=>rfl
 | n + 1, i => by
  show lh mask n (B7 mask i 0)=_
  rw[show B7 mask i 0=((i*5+1)% (mask+1),0) by simp[B7],sy mask n];rfl
theorem iy (mask:Nat):∀(a b i:Nat),ue mask (a+b) i=ue mask b (ue mask a i)
 | 0,b,i=>by rw[CO];rfl
 | a+1,b,i=>by rw[show a+1+b=(a+b)+1 by omega];exact iy mask a b _
def isMask (m:Nat):Prop:=m=7\/m=31\/m=127\/m=511\/m=2047
def yH (m:Nat):Nat->Nat->Nat->Nat
 | 0,_,acc=>acc
 | n+1,i,acc=>yH m n ((i*5+1)% (m+1)) (acc ||| 2^i)
theorem oM (m:Nat):∀(n i acc e:Nat),(yH m n i acc).testBit e=true->acc.testBit e=true\/∃k,k< n/\ue m k i=e
 | 0,i,acc,e,h=>.inl h
 | n + 1, i, acc, e, h => by
  rcases oM m n _ _ e h with q | ⟨k,hk,q⟩
  ·rw[Nat.testBit_or,Hj]at q
   rcases q with q | q
   ·exact .inl q
   ·rw[Nat.testBit_two_pow,decide_eq_true_eq]at q
    exact .inr ⟨0,by omega,q⟩
  ·exact .inr ⟨k+1,by omega,q⟩
theorem zz {m:Nat} (h:isMask m):(∀e,e< m+1->∃k,k< m+1/\ue m k 0=e)/\ue m (m+1) 0=0:=by
 have key:∀m,yH m (m+1) 0 0=2^(m+1)- 1->∀e,e< m+1->∃k,k< m+1/\ue m k 0=e:=fun m hv e he=>by
  have hb:(yH m (m+1) 0 0).testBit e=true:=by rw[hv,Nat.testBit_two_pow_sub_one];simpa using he
  rcases oM m _ _ _ e hb with q | q
  ·simp at q
  ·exact q
 rcases h with rfl | rfl | rfl | rfl | rfl
 ·exact⟨key 7 (by decide +kernel),by decide +kernel⟩
 ·exact⟨key 31 (by decide +kernel),by decide +kernel⟩
 ·exact⟨key 127 (by decide +kernel),by decide +kernel⟩
 ·exact⟨key 511 (by decide +kernel),by decide +kernel⟩
 ·exact⟨key 2047 (by decide +kernel),by decide +kernel⟩
theorem sA {m:Nat} (h:isMask m) {i e:Nat} (hi:i<=m) (he:e<=m):∃n,n<=m/\ue m n i=e:=by
 obtain⟨h1,h2⟩:=zz h
 obtain⟨a,ha,ea⟩:=h1 i (by omega)
 obtain⟨b,hb,eb⟩:=h1 e (by omega)
 by_cases z:a<=b
 ·refine⟨b- a,by omega,?_⟩
  rw[<-ea,<-iy,show a+(b- a)=b by omega,eb]
 ·refine⟨m+1- a+b,by omega,?_⟩
  rw[<-ea,<-iy,show a+(m+1- a+b)=(m+1)+b by omega,iy,h2,eb]
theorem yn {m:Nat} (h:isMask m) {p:Pr} (hd:p.dummy=none) (hm:p.more<=9) (hp:p.perturb< 2^64) {e:Nat} (he:e<=m):∃k,k< 10*BW m/\(itM m k p).j=e:=by
 have r:=ix m p.more p rfl hd
 obtain⟨k1,hk1,e1⟩:=sv m 12 (B7 m p.i p.perturb).1 (B7 m p.i p.perturb).2
 have z:(lh m 12 ((B7 m p.i p.perturb).1,(B7 m p.i p.perturb).2)).2=0:=by
  rw[sx]
  show p.perturb/ 32/ 32^12=0
  rw[Fu]
  exact GV (by omega)
 have i0:(B7 m p.i p.perturb).1<=m:=by
  show(p.i*5+1+p.perturb/ 32)% (m+1)<=m
  have:=ED (p.i*5+1+p.perturb/ 32) (show 0< m+1 by omega);omega
 have i1:=wY m 12 ((B7 m p.i p.perturb).1,(B7 m p.i p.perturb).2) i0
 rw[z]at e1
 generalize (lh m 12 ((B7 m p.i p.perturb).1,(B7 m p.i p.perturb).2)).1=i at*
 obtain⟨n,hn,en⟩:=sA h i1 he
 obtain⟨k2,hk2,e2⟩:=sv m n i 0
 rw[sy,en]at e2
 refine⟨p.more+1+k1+k2,?_,?_⟩
 ·unfold BW;omega
 ·rw[dU,dU,r,e1,e2];rfl
def InP (xs:Array Nat) (j:Nat):Prop:=∃a,a< xs.size/\xs.getD a 0=j
theorem mq {xs:Array Nat} {a:Nat} (h:a< xs.size):xs[a]? =some (xs.getD a 0):=by simp[CA,h]
theorem fA {xs:Array Nat} (up:Up xs) {a:Nat} (h:a< xs.size):BI xs (xs.getD a 0)=a:=by
 obtain⟨h0,h1,h2⟩:=gA up (xs.getD a 0)
 generalize BI xs (xs.getD a 0)=b at*
 by_cases z:a< b
 ·have:=h1 a z;omega
 ·by_cases y:b< a
  ·have:=up b a y h
   have:=h2 b (by omega) (by omega)
   omega
  ·omega
theorem qm {xs:Array Nat} (up:Up xs) {j:Nat} (h:¬InP xs j):(xs[BI xs j]? == some j)=false:=by
 obtain⟨h0,h1,h2⟩:=gA up j
 by_cases z:BI xs j< xs.size
 ·rw[mq z]
  rw[beq_eq_false_iff_ne]
  intro e
  injection e with e
  exact h ⟨_,z,e⟩
 ·rw[Dg (by omega)];rfl
structure Tp (t:BJ) (hs:List Int):Prop where
 dm:t.dummies= #[]
 sz:t.place.size=hs.length
 up:Up t.place
 le:∀j,InP t.place j->j<=t.mask
 msk:isMask t.mask
 reach:∀i h,hs[i]? =some h->∃k,(itM t.mask k (t.probeStart h)).j=t.place.getD i 0/\∀k',k'< k->InP t.place (itM t.mask k' (t.probeStart h)).j
structure Tb (t:BJ) (hs:List Int):Prop extends Tp t hs where
 room:hs.length*5< t.mask*3
section
variable {t:BJ} {hs:List Int}
theorem Tb.live (T:Tb t hs) {i:Nat} (h:i< t.place.size):t.slot (t.place.getD i 0)=.live i:=by
 unfold HG
 dsimp only
 rw[fA T.up h,mq h]
 simp
theorem Tb.empty (T:Tb t hs) {j:Nat} (h:¬InP t.place j):t.slot j=.empty:=by
 unfold HG
 dsimp only
 rw[if_neg (by rw[qm T.up h];decide)]
 unfold GF
 rw[T.dm]
 rfl
theorem sC (t:BJ) (h:Int):(t.probeStart h).dummy=none/\(t.probeStart h).more<=9/\(t.probeStart h).perturb< 2^64:=by
 refine⟨rfl,oJ _ _,?_⟩
 show(h% (2^64:Int)).toNat< 2^64
 omega
theorem wZ {xs:Array Nat} (up:Up xs) {m:Nat} (h:xs.size<=m):∃j,j<=m/\¬InP xs j:=by
 have base:∀n,n<=xs.size->(∀j,j< n->InP xs j)->∀a,a< n->xs.getD a 0=a:=by
  intro n hn hin a
  induction a using Hk with
  | _ a ih =>
   intro ha
   obtain⟨b,hb,eb⟩:=hin a ha
   have lo:∀a,a< xs.size->a<=xs.getD a 0:=by
    intro a
    induction a with
    | zero=>intro _;omega
    | succ a ih=>intro h;have:=ih (by omega);have:=up a (a+1) (by omega) h;omega
   have:=lo b hb
   by_cases z:b=a
   ·rw[<-z];rw[z]at eb;rw[z];exact eb
   ·have:=ih b (by omega) (by omega)
    omega
 by_cases hall:∀j,j< xs.size->InP xs j
 ·refine⟨xs.size,h,fun⟨a,ha,ea⟩=>?_⟩
  have:=base xs.size (by omega) hall a ha
  omega
 ·have ⟨j,hj⟩:=Ed.mp hall
  have ⟨h1,h2⟩:=EX.mp hj
  exact⟨j,by omega,h2⟩
theorem Tb.gap (T:Tb t hs) {p:Pr} (hp:p.dummy=none/\p.more<=9/\p.perturb< 2^64):∃k,k< 10*BW t.mask/\¬InP t.place (itM t.mask k p).j/\∀k',k'< k->InP t.place (itM t.mask k' p).j:=by
 obtain⟨e,he,hn⟩:=wZ T.up (m:=t.mask) (by have:=T.sz;have:=T.room;omega)
 obtain⟨k,hk,ek⟩:=yn T.msk hp.1 hp.2.1 hp.2.2 he
 rw[<-ek]at hn
 clear ek
 induction k using Hk with
 | _ k ih =>
  by_cases z:∀k',k'< k->InP t.place (itM t.mask k' p).j
  ·exact⟨k,hk,hn,z⟩
  ·have ⟨k',h'⟩:=Ed.mp z
   have ⟨h1,h2⟩:=EX.mp h'
   exact ih k' h1 h2 (by omega)
theorem Tb.go (T:Tb t hs) {hashAt:Nat->Int} (hA:∀i h,hs[i]? =some h->hashAt i=h) (h:Int):∀(E fuel:Nat) (p:Pr),p.dummy=none->E< fuel->¬InP t.place (itM t.mask E p).j->(∀k',k'< E->InP t.place (itM t.mask k' p).j)->
  (∃k i,k< E/\i< hs.length/\t.place.getD i 0=(itM t.mask k p).j/\hs[i]? =some h/\Ds t hashAt h fuel p=some (.candidate (itM t.mask k p).j i (itM t.mask (k+1) p))/\∀k',k'< k->∀i,t.place.getD i 0=(itM t.mask k' p).j->i< hs.length->hs[i]? ≠some h)\/
  (Ds t hashAt h fuel p=some (.empty (itM t.mask E p).j none)/\∀k',k'< E->∀i,t.place.getD i 0=(itM t.mask k' p).j->i< hs.length->hs[i]? ≠some h)
 | 0, fuel + 1, p, hd, hf, hn, ha => by
  refine .inr ⟨?_,fun k' hk=>absurd hk (by omega)⟩
  unfold Ds
  rw[T.empty (j:=p.j) hn,hd]
  rfl
 | E + 1, fuel + 1, p, hd, hf, hn, ha => by
  obtain⟨a,h1,h2⟩:=ha 0 (by omega)
  have h2':t.place.getD a 0=p.j:=h2
  have one:∀i,t.place.getD i 0=p.j->i< hs.length->i=a:=fun i hi hl=>by
   have hi':i< t.place.size:=by have:=T.sz;omega
   rw[<-fA T.up hi',hi,<-h2',fA T.up h1]
  unfold Ds
  rw[<-h2',T.live h1]
  dsimp only
  have hl:a< hs.length:=by have:=T.sz;omega
  by_cases z:hashAt a=h
  ·refine .inl ⟨0,a,by omega,hl,h2,?_,?_,fun k' hk=>absurd hk (by omega)⟩
   ·have e:=hA a hs[a] (Ar hl)
    rw[Ar hl,<-e,z]
   ·rw[if_pos (by simpa using z),jf,h2']
    rfl
  ·rw[if_neg (by simpa using z),jf]
   have hne:∀i,t.place.getD i 0=p.j->i< hs.length->hs[i]? ≠some h:=fun i hi hl' e=>z (by rw[one i hi hl']at e;exact hA a h e)
   have hd':(fe t.mask p).dummy=none:=by unfold fe;split <;> exact hd
   rcases Tb.go T hA h E fuel (fe t.mask p) hd' (by omega) hn (fun k' hk=>ha (k'+1) (by omega))with⟨k,i,g1,g2,g3,g4,g5,g6⟩ | ⟨g1,g2⟩
   ·refine .inl ⟨k+1,i,by omega,g2,g3,g4,g5,fun k' hk=>?_⟩
    cases k' with
    | zero=>exact hne
    | succ k'=>exact g6 k' (by omega)
   ·refine .inr ⟨g1,fun k' hk=>?_⟩
    cases k' with
    | zero=>exact hne
    | succ k'=>exact g2 k' (by omega)
theorem jg {α:Type} (xs:Array α) (p:Nat) (x:α):(BR xs p x).toList=xs.toList.take p++x::xs.toList.drop p:=by
 unfold BR
 simp[Bm,Cw,Df]
theorem dJ {α:Type} (xs:Array α) {p:Nat} (h:p<=xs.size) (x:α):(BR xs p x).size=xs.size+1:=by
 rw[<-Ba,jg]
 simp;omega
theorem uO {α:Type} (xs:Array α) {p:Nat} (h:p<=xs.size) (x:α) (a:Nat):(BR xs p x)[a]? =if a< p then xs[a]? else if a=p then some x else xs[a- 1]? :=by
 rw[<-AA,jg]
 by_cases z:a< p
 ·rw[if_pos z,AU (by simp;omega),Bn z,AA]
 ·rw[if_neg z,AL (by simp;omega)]
  have hl:(List.take p xs.toList).length=p:=by simp;omega
  rw[hl]
  by_cases y:a=p
  ·rw[if_pos y,y];simp
  ·rw[if_neg y,show a- p=(a- p- 1)+1 by omega,BS,Bw,AA]
   congr 1;omega
theorem gB (xs:Array Nat) {p:Nat} (h:p<=xs.size) (x:Nat) (a:Nat):(BR xs p x).getD a 0=if a< p then xs.getD a 0 else if a=p then x else xs.getD (a- 1) 0:=by
 rw[Bj,uO xs h]
 split
 ·rw[Bj]
 ·split
  ·rfl
  ·rw[Bj]
theorem oN {xs:Array Nat} {p:Nat} (h:p<=xs.size) {x j:Nat} :InP (BR xs p x) j↔j=x\/InP xs j:=by
 constructor
 ·rintro ⟨a,ha,e⟩
  rw[dJ xs h]at ha
  rw[gB xs h]at e
  by_cases z:a< p
  ·rw[if_pos z]at e;exact .inr ⟨a,by omega,e⟩
  ·rw[if_neg z]at e
   by_cases y:a=p
   ·rw[if_pos y]at e;exact .inl e.symm
   ·rw[if_neg y]at e;exact .inr ⟨a- 1,by omega,e⟩
 ·rintro (rfl | ⟨a,ha,e⟩)
  ·exact⟨p,by rw[dJ xs h];omega,by rw[gB xs h,if_neg (by omega),if_pos rfl]⟩
  ·by_cases z:a< p
   ·exact⟨a,by rw[dJ xs h];omega,by rw[gB xs h,if_pos z,e]⟩
   ·exact⟨a+1,by rw[dJ xs h];omega,by rw[gB xs h,if_neg (by omega),if_neg (by omega)];exact e⟩
theorem Tb.put (T:Tb t hs) {h:Int} {E:Nat} (hn:¬InP t.place (itM t.mask E (t.probeStart h)).j) (hj:(itM t.mask E (t.probeStart h)).j<=t.mask) (ha:∀k',k'< E->InP t.place (itM t.mask k' (t.probeStart h)).j):
  (t.put (itM t.mask E (t.probeStart h)).j).2<=hs.length/\(t.put (itM t.mask E (t.probeStart h)).j).1.mask=t.mask/\Tp (t.put (itM t.mask E (t.probeStart h)).j).1 (hs.take (t.put (itM t.mask E (t.probeStart h)).j).2++h::hs.drop (t.put (itM t.mask E (t.probeStart h)).j).2):=by
 obtain⟨b0,b1,b2⟩:=gA T.up (itM t.mask E (t.probeStart h)).j
 generalize hJ:(itM t.mask E (t.probeStart h)).j=j at*
 have hp2:(t.put j).2=BI t.place j:=rfl
 have hpl:(t.put j).1.place=BR t.place (BI t.place j) j:=rfl
 have hmk:(t.put j).1.mask=t.mask:=rfl
 have hst:∀h,(t.put j).1.probeStart h=t.probeStart h:=fun _=>rfl
 have hsz:=T.sz
 generalize BI t.place j=p at*
 rw[hp2]
 refine⟨by omega,rfl,?_,?_,?_,?_,T.msk,?_⟩
 ·show(if GF t.dummies j then _ else t.dummies)= #[]
  unfold GF
  rw[T.dm]
  rfl
 ·rw[hpl,dJ _ b0];simp;omega
 ·rw[hpl]
  intro a b hab hb
  rw[dJ _ b0]at hb
  rw[gB _ b0,gB _ b0]
  have gt:∀a,p<=a->a< t.place.size->j< t.place.getD a 0:=fun a h1 h2=>by
   have:=b2 a h1 h2
   by_cases z:t.place.getD a 0=j
   ·exact absurd ⟨a,h2,z⟩ hn
   ·omega
  by_cases z1:a< p
  ·rw[if_pos z1]
   by_cases z2:b< p
   ·rw[if_pos z2];exact T.up a b hab (by omega)
   ·rw[if_neg z2]
    by_cases z3:b=p
    ·rw[if_pos z3];exact b1 a z1
    ·rw[if_neg z3]
     have:=b1 a z1
     have:=gt (b- 1) (by omega) (by omega)
     omega
  ·rw[if_neg z1,if_neg (show ¬b< p by omega),if_neg (show ¬b=p by omega)]
   by_cases z3:a=p
   ·rw[if_pos z3];exact gt (b- 1) (by omega) (by omega)
   ·rw[if_neg z3];exact T.up (a- 1) (b- 1) (by omega) (by omega)
 ·intro q hq
  rw[hpl,oN b0]at hq
  rcases hq with rfl | hq
  ·exact hj
  ·exact T.le q hq
 ·intro i g hg
  rw[hmk,hst,hpl]
  have mono:∀q,InP t.place q->InP (BR t.place p j) q:=fun q hq=>(oN b0).mpr (.inr hq)
  have hl:(hs.take p).length=p:=by simp;omega
  by_cases z1:i< p
  ·rw[AU (by omega),Bn z1]at hg
   obtain⟨k,ek,hk⟩:=T.reach i g hg
   exact⟨k,by rw[ek,gB _ b0,if_pos z1],fun k' h'=>mono _ (hk k' h')⟩
  ·rw[AL (by omega),hl]at hg
   by_cases z2:i=p
   ·rw[z2,DS,Cc]at hg
    cases hg
    exact⟨E,by rw[hJ,gB _ b0,if_neg z1,if_pos z2],fun k' h'=>mono _ (ha k' h')⟩
   ·rw[show i- p=(i- p- 1)+1 by omega,BS,Bw]at hg
    rw[show p+(i- p- 1)=i- 1 by omega]at hg
    obtain⟨k,ek,hk⟩:=T.reach (i- 1) g hg
    exact⟨k,by rw[ek,gB _ b0,if_neg z1,if_neg z2],fun k' h'=>mono _ (hk k' h')⟩
end
def Oc (ow:Array (Option Nat)) (j:Nat):Prop:=(ow.getD j (some 0)).isSome=true
theorem kR (m i pt:Nat):∀k,k<=Bg m i- i->itM m k (qW m i pt)={j:=i+k,more:=Bg m i- i- k,i:=i,perturb:=pt,dummy:=none}
 | 0,_=>rfl
 | k + 1, h => by
  rw[su,kR m i pt k (by omega)]
  unfold fe
  rw[if_pos (by show Bg m i- i- k> 0;omega)]
  rfl
theorem qo (m i:Nat):i<=Bg m i:=by unfold Bg;split <;> omega
theorem oO {m:Nat} (ow:Array (Option Nat)):∀(f i pt n:Nat),n< f->¬Oc ow (lh m n (i,pt)).1->
  ∃j E,Ck m ow f i pt=some j/\(itM m E (qW m i pt)).j=j/\¬Oc ow j/\∀k',k'< E->Oc ow (itM m k' (qW m i pt)).j
 | 0,_,_,_,h,_=>absurd h (by omega)
 | f + 1, i, pt, n, h, hn => by
  have hr:=qo m i
  unfold Ck
  cases hf:(BG (Bg m i+1- i)).find? fun k=>(ow.getD (i+k) (some 0)).isNone with
  | some k =>
   have hk:=Dt.mp (List.mem_of_find?_eq_some hf)
   have hp:=List.find?_some hf
   have hb:=(List.find?_range_eq_some.mp hf).2.2
   refine⟨i+k,k,rfl,by rw[kR m i pt k (by omega)],?_,fun k' hk'=>?_⟩
   ·unfold Oc;simp at hp ⊢;exact hp
   ·rw[kR m i pt k' (by omega)]
    have:=hb k' hk'
    unfold Oc
    simpa using this
  | none =>
   have hall:=List.find?_eq_none.mp hf
   have occ:∀k,k<=Bg m i- i->Oc ow (i+k):=fun k hk=>by
    have:=hall k (Dt.mpr (by omega))
    unfold Oc
    cases q:ow.getD (i+k) (some 0)with
    | none=>rw[q]at this;exact absurd rfl this
    | some a=>rfl
   cases n with
   | zero=>exact absurd (occ 0 (by omega)) hn
   | succ n =>
    obtain⟨j,E,e1,e2,e3,e4⟩:=oO ow f (B7 m i pt).1 (B7 m i pt).2 n (by omega) hn
    have r:=ix m (Bg m i- i) (qW m i pt) rfl rfl
    refine⟨j,(Bg m i- i)+1+E,e1,?_,e3,fun k' hk'=>?_⟩
    ·rw[dU,r];exact e2
    ·by_cases z:k'<=Bg m i- i
     ·rw[kR m i pt k' z];exact occ k' z
     ·rw[show k'=(Bg m i- i)+1+(k'- ((Bg m i- i)+1)) by omega,dU,r]
      exact e4 _ (by omega)
abbrev stM (m:Nat) (h:Int):Pr:=qW m (Bc h% (m+1)) (Bc h)
theorem uP (h:Int):Bc h< 2^64:=by show(h% (2^64:Int)).toNat< 2^64;omega
theorem uQ {m:Nat} (hm:isMask m) (ow:Array (Option Nat)) (h:Int) {e:Nat} (he:e<=m) (hn:¬Oc ow e):
  ∃j E,Ck m ow (BW m) (Bc h% (m+1)) (Bc h)=some j/\(itM m E (stM m h)).j=j/\¬Oc ow j/\∀k',k'< E->Oc ow (itM m k' (stM m h)).j:=by
 have i0:Bc h% (m+1)<=m:=by have:=ED (Bc h) (show 0< m+1 by omega);omega
 have z:(lh m 13 (Bc h% (m+1),Bc h)).2=0:=by
  rw[sx]
  exact GV (by have:=uP h;show Bc h< 32^13;omega)
 have i1:=wY m 13 (Bc h% (m+1),Bc h) i0
 obtain⟨n,hn',en⟩:=sA hm i1 he
 refine oO ow _ _ _ (13+n) (by unfold BW;omega) ?_
 rw[oK,show lh m 13 (Bc h% (m+1),Bc h)=((lh m 13 (Bc h% (m+1),Bc h)).1,0)from EC rfl z,sy,en]
 exact hn
structure Lay (m:Nat) (hs:List Int) (ow:Array (Option Nat)) (k:Nat):Prop where
 sz:ow.size=m+1
 cnt:ow.toList.countP Gb=k
 inj:∀(j j' i:Nat),ow[j]? =some (some i)->ow[j']? =some (some i)->j=j'
 lt:∀(j i:Nat),ow[j]? =some (some i)->i< k
 reach:∀(j i:Nat) (h:Int),ow[j]? =some (some i)->hs[i]? =some h->∃n,(itM m n (stM m h)).j=j/\∀n',n'< n->Oc ow (itM m n' (stM m h)).j
theorem gC {ow:Array (Option Nat)} {j:Nat} (hj:j< ow.size):Oc ow j↔∃i,ow[j]? =some (some i):=by
 unfold Oc
 simp[CA,hj]
 cases ow[j] <;> simp
theorem Lay.gap {m:Nat} {hs:List Int} {ow:Array (Option Nat)} {k:Nat} (L:Lay m hs ow k) (h:k<=m):∃e,e<=m/\¬Oc ow e:=by
 by_cases z:∀e,e<=m->Oc ow e
 ·exfalso
  have:ow.toList.countP Gb=ow.toList.length:=List.countP_eq_length.mpr fun a ha=>by
   obtain⟨j,hj,e⟩:=Cu.mp ha
   have hj':j< ow.size:=by simpa using hj
   obtain⟨i,hi⟩:=(gC hj').mp (z j (by have:=L.sz;omega))
   rw[<-e]
   have:ow.toList[j]=some i:=by
    have q:ow.toList[j]? =some (some i):=by rw[AA];exact hi
    rw[Ar hj]at q
    injection q
   rw[this];rfl
  rw[L.cnt,Ba,L.sz]at this
  omega
 ·have ⟨e,he⟩:=Ed.mp z
  have ⟨h1,h2⟩:=EX.mp he
  exact⟨e,h1,h2⟩
theorem yo {ow:Array (Option Nat)} {j:Nat} (h:¬Oc ow j):j< ow.size:=by
 by_cases z:j< ow.size
 ·exact z
 ·exact absurd (by unfold Oc;simp[CA,z]) h
theorem Lay.step {m:Nat} (hm:isMask m) {hs:List Int} {ow:Array (Option Nat)} {k:Nat} (L:Lay m hs ow k) (hk:k<=m) {h:Int} (hh:hs[k]? =some h):
  ∃j,Ck m ow (BW m) (Bc h% (m+1)) (Bc h)=some j/\Lay m hs (ow.setIfInBounds j (some k)) (k+1):=by
 obtain⟨e,he,hn⟩:=L.gap hk
 obtain⟨j,E,e1,e2,e3,e4⟩:=uQ hm ow h he hn
 have hj:=yo e3
 refine⟨j,e1,?_⟩
 have none_j:ow[j]? =some none:=by
  have:¬∃i,ow[j]? =some (some i):=fun z=>e3 ((gC hj).mpr z)
  rw[AK hj]at this ⊢
  cases q:ow[j]with
  | none=>rfl
  | some i=>exact absurd ⟨i,by rw[q]⟩ this
 have at_:∀q,(ow.setIfInBounds j (some k))[q]? =if q=j then some (some k)else ow[q]? :=fun q=>by
  rw[Array.getElem?_setIfInBounds]
  by_cases z:j=q
  ·subst z;simp[hj]
  ·rw[if_neg z,if_neg (E8 z)]
 have oc:∀q,Oc ow q->Oc (ow.setIfInBounds j (some k)) q:=fun q hq=>by
  by_cases hs':q< ow.size
  ·obtain⟨i,hi⟩:=(gC hs').mp hq
   refine(gC (by simpa using hs')).mpr ?_
   rw[at_]
   by_cases z:q=j
   ·exact⟨k,by rw[if_pos z]⟩
   ·exact⟨i,by rw[if_neg z];exact hi⟩
  ·unfold Oc;simp[CA,hs']
 refine⟨by simp[L.sz],?_,?_,?_,?_⟩
 ·have hj2:j< ow.toList.length:=by simpa using hj
  have q:ow.toList[j]=none:=by
   have:=none_j
   rw[<-AA,Ar hj2]at this
   injection this
  rw[Dv,List.countP_set hj2,q,L.cnt]
  simp
 ·intro a b i ha hb
  rw[at_]at ha hb
  by_cases z1:a=j
  ·rw[if_pos z1]at ha
   injection ha with ha;injection ha with ha
   by_cases z2:b=j
   ·rw[z1,z2]
   ·rw[if_neg z2]at hb
    have:=L.lt b i hb
    omega
  ·rw[if_neg z1]at ha
   by_cases z2:b=j
   ·rw[if_pos z2]at hb
    injection hb with hb;injection hb with hb
    have:=L.lt a i ha
    omega
   ·rw[if_neg z2]at hb
    exact L.inj a b i ha hb
 ·intro a i ha
  rw[at_]at ha
  by_cases z1:a=j
  ·rw[if_pos z1]at ha
   injection ha with ha;injection ha with ha
   omega
  ·rw[if_neg z1]at ha
   have:=L.lt a i ha
   omega
 ·intro a i g ha hg
  rw[at_]at ha
  by_cases z1:a=j
  ·rw[if_pos z1]at ha
   injection ha with ha;injection ha with ha
   subst ha
   rw[hh]at hg
   cases hg
   exact⟨E,by rw[z1];exact e2,fun n' h'=>oc _ (e4 n' h')⟩
  ·rw[if_neg z1]at ha
   obtain⟨n,q1,q2⟩:=L.reach a i g ha hg
   exact⟨n,q1,fun n' h'=>oc _ (q2 n' h')⟩
theorem qp (m:Nat) (hs:List Int):Lay m hs (FD (m+1) none) 0:=by
 have no:∀(j i:Nat),(FD (m+1) (none:Option Nat))[j]? =some (some i)->False:=fun j i h=>by
  rw[Array.getElem?_replicate]at h
  split at h <;> simp at h
 refine⟨by simp,?_,fun j j' i h _=>(no j i h).elim,fun j i h=>(no j i h).elim,fun j i _ h _=>(no j i h).elim⟩
 rw[Array.toList_replicate,List.countP_replicate]
 rfl
abbrev kS (m:Nat) (acc:Option (Array (Option Nat)×Nat)) (h:Int):Option (Array (Option Nat)×Nat):=do
 let (owner,k) <-acc
 let j <-Ck m owner (BW m) (Bc h% (m+1)) (Bc h)
 pure (owner.setIfInBounds j (some k),k+1)
theorem mw {m:Nat} (hm:isMask m) (hs:List Int):∀(r:List Int) (ow:Array (Option Nat)) (k:Nat),Lay m hs ow k->hs.drop k=r->hs.length<=m->k<=hs.length->∃ow',r.foldl (kS m) (some (ow,k))=some (ow',hs.length)/\Lay m hs ow' hs.length
 | [], ow, k, L, hd, hl, hk => by
  have:k=hs.length:=by
   have:=congrArg Dc hd
   simp at this
   omega
  subst this
  exact⟨ow,rfl,L⟩
 | h :: r, ow, k, L, hd, hl, hk => by
  have hk2:k< hs.length:=by
   have:=congrArg Dc hd
   simp at this
   omega
  have hh:hs[k]? =some h:=by
   have:(hs.drop k)[0]? =some h:=by rw[hd];rfl
   rw[Bw]at this
   exact this
  obtain⟨j,e,L'⟩:=L.step hm (by omega) hh
  have e':kS m (some (ow,k)) h=some (ow.setIfInBounds j (some k),k+1):=by
   show(Ck m ow (BW m) (Bc h% (m+1)) (Bc h)).bind _=_
   rw[e];rfl
  rw[Fz,e']
  exact mw hm hs r _ _ L' (by rw[<-Hw,hd];rfl) hl (by omega)
theorem my {m:Nat} (hm:isMask m) {hs:Array Int} (hl:hs.size<=m):∃ow,SetTable.layClean m hs=some ow/\Lay m hs.toList ow hs.size:=by
 obtain⟨ow,e,L⟩:=mw hm hs.toList hs.toList _ 0 (qp m hs.toList) rfl (by simpa using hl) (by simp)
 refine⟨ow,?_,by simpa using L⟩
 show Option.map (·.1) (hs.foldl (kS m) (some (FD (m+1) none,0)))=_
 rw[<-Array.foldl_toList,e]
 rfl
abbrev cS (m:Nat) (ow:Array (Option Nat)):List (Nat×Nat):=(BG (m+1)).filterMap fun j=>(ow.getD j none).map (j, ·)
theorem eI {m:Nat} {ow:Array (Option Nat)} (hs:ow.size=m+1) {j i:Nat} :(j,i)∈cS m ow↔ow[j]? =some (some i):=by
 unfold cS
 rw[De]
 constructor
 ·rintro ⟨q,hq,e⟩
  rw[Bs]at e
  obtain⟨a,e1,e2⟩:=e
  injection e2 with e2 e3
  subst e2;subst e3
  have:=Dt.mp hq
  have hq':q< ow.size:=by omega
  simp[CA,hq']at e1
  rw[AK hq',e1]
 ·intro h
  have hj:j< ow.size:=(Cm.mp h).1
  refine⟨j,Dt.mpr (by omega),?_⟩
  rw[Bj,h]
  rfl
theorem kT {f:Nat->Option Nat} :∀{l:List Nat},l.Pairwise (· < ·)->((l.filterMap fun j=>(f j).map (j, ·)).map (·.1)).Pairwise (· < ·)
 | [],_=>by simp
 | a :: l, h => by
  have ih:=kT (f:=f) (EE.mp h).2
  cases e:f a with
  | none=>simpa [e] using ih
  | some b =>
   rw[F7 (b:=(a,b)) (by rw[e];rfl),Bh]
   refine EE.mpr ⟨fun q hq=>?_,ih⟩
   obtain⟨x,hx,rfl⟩:=Bi.mp hq
   obtain⟨c,hc,e2⟩:=De.mp hx
   rw[Bs]at e2
   obtain⟨_,_,rfl⟩:=e2
   exact(EE.mp h).1 c hc
theorem sD {f:Nat->Option Nat} :∀(l:List Nat),(l.filterMap fun j=>(f j).map (j, ·)).length=(l.map f).countP Gb
 | []=>rfl
 | a :: l => by
  have ih:=sD (f:=f) l
  cases e:f a with
  | none=>rw[List.filterMap_cons_none (by rw[e];rfl),ih];simp[e]
  | some b=>rw[F7 (b:=(a,b)) (by rw[e];rfl)];simp[e,ih]
theorem sE {m k:Nat} {hs:List Int} {ow:Array (Option Nat)} (L:Lay m hs ow k):(cS m ow).length=k:=by
 unfold cS
 rw[sD (f:=fun j=>ow.getD j none),<-L.cnt]
 congr 1
 refine List.ext_getElem (by simp[L.sz]) fun i h1 h2=>?_
 simp at h1 h2
 simp[CA,h2]
theorem sF:∀(n:Nat) (l:List Nat),l.Nodup->(∀x∈l,x< n)->l.length<=n
 | 0, l, _, h => by
  cases l with
  | nil=>simp
  | cons a l=>exact absurd (h a (AJ ..)) (by omega)
 | n + 1, l, nd, h => by
  by_cases z:n∈l
  ·have:=sF n (l.erase n) (nd.erase n) fun x hx=>by
    have h1:=h x (DZ hx)
    have h2:x≠n:=fun e=>by subst e;exact(DE nd) hx
    omega
   rw[DF z]at this
   omega
  ·have:=sF n l nd fun x hx=>by
    have h1:=h x hx
    have h2:x≠n:=fun e=>z (e▸hx)
    omega
   omega
theorem oP:∀(n:Nat) (l:List Nat),l.Nodup->(∀x∈l,x< n)->l.length=n->l.Perm (BG n)
 | 0,l,_,_,h=>by rw[CZ.mp h];exact .refl _
 | n + 1, l, nd, h, hl => by
  have z:n∈l:=by
   by_cases z:n∈l
   ·exact z
   ·have:=sF n l nd fun x hx=>by
     have h1:=h x hx
     have h2:x≠n:=fun e=>z (e▸hx)
     omega
    omega
  have:=oP n (l.erase n) (nd.erase n) (fun x hx=>by
    have h1:=h x (DZ hx)
    have h2:x≠n:=fun e=>by subst e;exact(DE nd) hx
    omega) (by rw[DF z];omega)
  rw[List.range_succ]
  exact(List.perm_cons_erase z).trans ((List.Perm.cons n this).trans (List.perm_append_singleton n _).symm)
theorem uR {l:List Nat} (h:l.Pairwise (· < ·)):Up l.toArray:=fun a b hab hb=>by
 have hb':b< l.length:=by simpa using hb
 have:=Co.mp h a b (by omega) hb' hab
 simpa [CA,show a< l.length by omega,hb'] using this
theorem jT {m i:Nat} (h:i<=m):i+(Bg m i- i)<=m:=by unfold Bg;split <;> omega
theorem yp {m:Nat} {p:Pr} (h:p.j+p.more<=m):(fe m p).j+(fe m p).more<=m:=by
 unfold fe
 split
 ·show p.j+1+(p.more- 1)<=m;omega
 ·refine jT ?_
  show(p.i*5+1+p.perturb/ 32)% (m+1)<=m
  have:=ED (p.i*5+1+p.perturb/ 32) (show 0< m+1 by omega);omega
theorem yq {m:Nat} :∀(n:Nat) {p:Pr},p.j+p.more<=m->(itM m n p).j+(itM m n p).more<=m
 | 0,_,h=>h
 | n+1,_,h=>yq n (yp h)
theorem w4 {m:Nat} {h:Int} (n:Nat):(itM m n (stM m h)).j<=m:=by
 have:=yq (m:=m) n (p:=stM m h) (jT (i:=Bc h% (m+1)) (by have:=ED (Bc h) (show 0< m+1 by omega);omega))
 omega
theorem uS {m:Nat} (hm:isMask m) {hs:Array Int} (hl:hs.size<=m) (fi mo:Nat) (led plain:Bool):
  ∃t order,HH m fi mo led plain hs=some (t,order)/\t.mask=m/\t.led=led/\t.plain=plain/\order.toList.Perm (BG hs.size)/\Tp t (order.toList.map fun i=>hs.toList.getD i 0):=by
 obtain⟨ow,e,L⟩:=my hm hl
 refine⟨_,_,by unfold HH;rw[e];rfl,rfl,rfl,rfl,?_,?_⟩
 ·show((cS m ow).map (·.2)).toArray.toList.Perm _
  have len:=sE L
  have inc:=kT (f:=fun j=>ow.getD j none) (Fv (n:=m+1))
  have nd1:((cS m ow).map (·.1)).Nodup:=inc.imp fun h=>AY h
  refine oP hs.size _ ?_ (fun x hx=>?_) (by simpa using len)
  ·show((cS m ow).map (·.2)).Nodup
   rw[Bd,Cy]
   rw[Bd,Cy]at nd1
   refine nd1.imp_of_mem fun {a b} ha hb hne e=>hne ?_
   have h1:=(eI L.sz (j:=a.1) (i:=a.2)).mp ha
   have h2:=(eI L.sz (j:=b.1) (i:=b.2)).mp hb
   rw[<-e]at h2
   exact L.inj _ _ _ h1 h2
  ·obtain⟨y,hy,rfl⟩:=Bi.mp (show x∈(cS m ow).map (·.2)from hx)
   exact L.lt _ _ ((eI L.sz (j:=y.1) (i:=y.2)).mp hy)
 ·have inc:=kT (f:=fun j=>ow.getD j none) (Fv (n:=m+1))
  have inp:∀j,InP ((cS m ow).map (·.1)).toArray j↔∃i,ow[j]? =some (some i):=fun j=>by
   constructor
   ·rintro ⟨a,ha,e⟩
    have ha':a< (cS m ow).length:=by simpa using ha
    have:((cS m ow)[a]).1=j:=by simpa [CA,ha'] using e
    have mem:=Cr ha'
    rw[<-this]
    exact⟨_,(eI L.sz (j:=(cS m ow)[a].1) (i:=(cS m ow)[a].2)).mp mem⟩
   ·rintro ⟨i,hi⟩
    have mem:=(eI L.sz).mpr hi
    obtain⟨a,ha,e⟩:=Cu.mp mem
    exact⟨a,by simpa using ha,by simp[CA,ha,e]⟩
  have ocp:∀j,j<=m->Oc ow j->InP ((cS m ow).map (·.1)).toArray j:=fun j hj h=>(inp j).mpr ((gC (by have:=L.sz;omega)).mp h)
  refine⟨rfl,?_,uR inc,?_,hm,?_⟩
  ·show((cS m ow).map (·.1)).toArray.size=(IY _ ((cS m ow).map (·.2)).toArray.toList).length
   simp
  ·intro j hj
   obtain⟨i,hi⟩:=(inp j).mp hj
   have:=(Cm.mp hi).1
   have:=L.sz
   show j<=m
   omega
  ·intro a h ha
   have ha2:((cS m ow)[a]?).map (fun y=>hs.toList.getD y.2 0)=some h:=by
    have:(((cS m ow).map (·.2)).map fun i=>hs.toList.getD i 0)[a]? =some h:=ha
    rw[CN,Ay]at this
    exact this
   obtain⟨y,hy,e⟩:=Bs.mp ha2
   have mem:=AX hy
   have at_:=(eI L.sz (j:=y.1) (i:=y.2)).mp mem
   have lt:=L.lt _ _ at_
   have hh:hs.toList[y.2]? =some h:=by
    have hlt:y.2< hs.toList.length:=by simpa using lt
    rw[BD,Ar hlt]at e
    rw[Ar hlt]
    exact congrArg some e
   obtain⟨n,q1,q2⟩:=L.reach _ _ _ at_ hh
   have hla:a< (cS m ow).length:=(Az.mp hy).1
   refine⟨n,?_,fun n' h'=>?_⟩
   ·show(itM m n (stM m h)).j=((cS m ow).map (·.1)).toArray.getD a 0
    rw[q1,Bj]
    simp only[List.getElem?_toArray,Ay,hy]
    rfl
   ·refine ocp _ ?_ (q2 n' h')
    by_cases z:(itM m n' (stM m h)).j<=m
    ·exact z
    ·exfalso;exact z (w4 n')
section
variable {prog:AI} {w:AQ} {K:Type} [DecidableEq K] {knd:KeyKind prog w K} {A:Bo} {E:Am->Ap->Prop} {s:Ap}
structure TupsOf (knd:KeyKind prog w K) (h:Heap) (es:List (Int×Am)) (ks:List (List K)):Prop where
 len:es.length=ks.length
 at_:∀(i:Nat) (e:Int×Am),es[i]? =some e->∃k b,ks[i]? =some k/\e.2=.ref b/\CH knd h k b/\e.1=tupleKeyHash knd k
theorem Tb.fits {t:BJ} {es:Array (Int×Am)} (T:Tb t (es.toList.map (·.1))):t.fits es.size=true:=by
 have h1:=T.sz
 have h2:=T.room
 have h3:=T.dm
 simp at h1 h2
 unfold HI Gd
 rw[h3]
 simp
 omega
theorem sG {m:Nat} (h:isMask m):(m% 2 == 0)=false:=by rcases h with rfl | rfl | rfl | rfl | rfl <;> rfl
theorem w5 {m:Nat} :∀(k:Nat) {p:Pr},p.dummy=none->(itM m k p).dummy=none
 | 0,_,h=>h
 | k+1,p,h=>w5 k (by unfold fe;split <;> exact h)
theorem nA {a x:Addr} {o:Obj} {es:Array (Int×Am)} {ep:Nat} {t:BJ} {ks:List (List K)} {kx:List K} (hu:A.units< cLine) (ho:s.heap.get? a=some o) (hd:o.data=.set es ep t) (T:Tb t (es.toList.map (·.1))) (hk:TupsOf knd s.heap es.toList ks) (hx:CH knd s.heap kx x)
  (seen:∀(l:List Am) (Q:Bool->Ap->Prop),(∀y∈l,∃e∈es.toList,y=e.2)->Q false s->wpAny (model prog w) A (searchCouldBeSeen (.ref x) l) Q E s) {Q:SetFound->Ap->Prop} :
  ∀ (fuel G : Nat) (st : Option Pr), (st.getD (t.probeStart (tupleKeyHash knd kx))).dummy = none -> G < fuel -> G < 10 * BW t.mask -> ¬ InP t.place (itM t.mask G (st.getD (t.probeStart (tupleKeyHash knd kx)))).j -> (∀ k', k' < G -> InP t.place (itM t.mask k' (st.getD (t.probeStart (tupleKeyHash knd kx)))).j) ->
   ((∃k i,k< G/\t.place.getD i 0=(itM t.mask k (st.getD (t.probeStart (tupleKeyHash knd kx)))).j/\ks[i]? =some kx)->Q (.there none) s)->
   ((∀k i,k< G->t.place.getD i 0=(itM t.mask k (st.getD (t.probeStart (tupleKeyHash knd kx)))).j->i< es.size->ks[i]? ≠some kx)->Q (.free (itM t.mask G (st.getD (t.probeStart (tupleKeyHash knd kx)))).j false) s)->
   wpAny (model prog w) A (setSearchFrom a (.ref x) (tupleKeyHash knd kx) true fuel st) Q E s:=by
 intro fuel
 induction fuel with
 | zero=>intro G st _ h;exact absurd h (by omega)
 | succ fuel ih =>
  intro G st hdm hG hGt hn ha h1 h2
  unfold setSearchFrom
  refine Aj (C4 ho hd T.fits ?_)
  dsimp only
  rw[if_neg (by unfold SetTable.gaveWay;rw[sG T.msk];decide)]
  generalize hp:st.getD (t.probeStart (tupleKeyHash knd kx))=p at*
  have hA:∀(i:Nat) (h:Int),(es.toList.map (·.1))[i]? =some h->(fun(i:Nat)=>(es[i]?.map (fun(e:Int×Am)=>e.1)).getD 0) i=h:=fun i h hh=>by
   rw[Ay,AA]at hh
   show(es[i]?.map (fun(e:Int×Am)=>e.1)).getD 0=h
   rw[hh];rfl
  have go:=T.go hA (tupleKeyHash knd kx) G (10*BW t.mask) p hdm hGt hn ha
  have hpr:t.probe (fun(i:Nat)=>(es[i]?.map (fun(e:Int×Am)=>e.1)).getD 0) (tupleKeyHash knd kx) p=Ds t (fun(i:Nat)=>(es[i]?.map (fun(e:Int×Am)=>e.1)).getD 0) (tupleKeyHash knd kx) (10*BW t.mask) p:=rfl
  rw[<-hpr]at go
  rcases go with⟨k,i,g1,g2,g3,g4,g5,g6⟩ | ⟨g1,g2⟩
  ·have e:∀f,f=(fun(i:Nat)=>(es[i]?.map (fun(e:Int×Am)=>e.1)).getD 0)->t.probe f (tupleKeyHash knd kx) p=some (.candidate (itM t.mask k p).j i (itM t.mask (k+1) p)):=fun f hf=>by rw[hf];exact g5
   have hi:i< es.size:=by simpa using g2
   obtain⟨ky,b,q1,q2,q3,q4⟩:=hk.at_ i es[i] (by rw[AA,AK hi])
   have hei:es[i]? =some (es[i].1,.ref b):=by rw[AK hi,<-q2]
   have key_ne:∀k' i',k'< k->t.place.getD i' 0=(itM t.mask k' p).j->i'< es.size->ks[i']? ≠some kx:=fun k' i' hk' hi' hl hq=>by
    have hl':i'< es.toList.length:=by simpa using hl
    obtain⟨kz,c,z1,z2,z3,z4⟩:=hk.at_ i' es.toList[i'] (Ar hl')
    rw[z1]at hq
    cases hq
    refine g6 k' hk' i' hi' (by simpa using hl) ?_
    rw[Ay,Ar hl',<-z4]
    rfl
   have one:∀i',t.place.getD i' 0=(itM t.mask k p).j->i'< es.size->i'=i:=fun i' hi' hl=>by
    have h1':i'< t.place.size:=by have:=T.sz;simp at this;omega
    have h2':i< t.place.size:=by have:=T.sz;simp at this;omega
    rw[<-fA T.up h1',hi',<-g3,fA T.up h2']
   have again:ky≠kx->wpAny (model prog w) A (setSearchFrom a (.ref x) (tupleKeyHash knd kx) true fuel (some (itM t.mask (k+1) p))) Q E s:=fun hne=>by
    have ad:∀n,itM t.mask n (itM t.mask (k+1) p)=itM t.mask (k+1+n) p:=fun n=>(dU t.mask (k+1) n p).symm
    refine ih (G- (k+1)) (some (itM t.mask (k+1) p)) ?_ (by omega) (by omega) ?_ ?_ ?_ ?_
    ·exact w5 (k+1) hdm
    ·show ¬InP t.place (itM t.mask _ (itM t.mask (k+1) p)).j
     rw[ad,show k+1+(G- (k+1))=G by omega];exact hn
    ·intro k' hk'
     show InP t.place (itM t.mask _ (itM t.mask (k+1) p)).j
     rw[ad];exact ha _ (by omega)
    ·rintro ⟨k',i',r1,r2,r3⟩
     have r2':t.place.getD i' 0=(itM t.mask k' (itM t.mask (k+1) p)).j:=r2
     rw[ad]at r2'
     exact h1 ⟨k+1+k',i',by omega,r2',r3⟩
    ·intro r
     show Q (.free (itM t.mask _ (itM t.mask (k+1) p)).j false) s
     rw[ad,show k+1+(G- (k+1))=G by omega]
     refine h2 fun k' i' z1 z2 z3=>?_
     by_cases y1:k'< k
     ·exact key_ne k' i' y1 z2 z3
     ·by_cases y2:k'=k
      ·subst y2
       rw[one i' z2 z3,q1]
       intro z;injection z with z;exact hne z
      ·refine r (k'- (k+1)) i' (by omega) ?_ z3
       show t.place.getD i' 0=(itM t.mask _ (itM t.mask (k+1) p)).j
       rw[ad,show k+1+(k'- (k+1))=k' by omega];exact z2
   have hlive:t.slot (itM t.mask k p).j=.live i:=by rw[<-g3];exact T.live (by have:=T.sz;simp at this;omega)
   have hmem:t.sameMemory t.moves t.mask=some true:=by unfold SetTable.sameMemory;simp
   rw[e]
   ·dsimp only
    simp only[hei]
    by_cases hl:t.led=true
    ·rw[if_neg (by simp[hl])]
     refine Aj (C0 ((tupleKind knd).eqBool hu q3 hx ?_))
     refine Aj (C4 ho hd T.fits ?_)
     dsimp only
     by_cases hq:ky=kx
     ·rw[decide_eq_true hq,if_pos (by decide)]
      exact An (h1 ⟨k,i,g1,g3,hq▸q1⟩)
     ·rw[decide_eq_false hq,if_neg (by decide),hmem]
      dsimp only
      rw[if_pos rfl,hlive]
      dsimp only
      rw[hei]
      dsimp only
      refine Aj (FH ?_)
      refine Aj (An ?_)
      exact again hq
    ·rw[if_pos (by simp[hl])]
     refine Aj (seen _ _ (fun y hy=>?_) ?_)
     ·obtain⟨z,hz,rfl⟩:=Bi.mp hy
      exact⟨z,by simp at hz;simpa using hz.1,rfl⟩
     rw[if_neg (by decide)]
     refine Aj (C0 ((tupleKind knd).eqBool hu q3 hx ?_))
     refine Aj (C4 ho hd T.fits ?_)
     dsimp only
     by_cases hq:ky=kx
     ·rw[decide_eq_true hq,if_pos (by decide)]
      exact An (h1 ⟨k,i,g1,g3,hq▸q1⟩)
     ·rw[decide_eq_false hq,if_neg (by decide),hmem]
      dsimp only
      rw[if_pos rfl,hlive]
      dsimp only
      rw[hei]
      dsimp only
      refine Aj (FH ?_)
      refine Aj (An ?_)
      exact again hq
   ·rfl
  ·have e:∀f,f=(fun(i:Nat)=>(es[i]?.map (fun(e:Int×Am)=>e.1)).getD 0)->t.probe f (tupleKeyHash knd kx) p=some (.empty (itM t.mask G p).j none):=fun f hf=>by rw[hf];exact g1
   rw[e]
   ·refine An (h2 fun k i hk' hi hl hq=>?_)
    have hl':i< es.toList.length:=by simpa using hl
    obtain⟨ky,b,q1,q2,q3,q4⟩:=hk.at_ i es.toList[i] (Ar hl')
    rw[q1]at hq
    cases hq
    refine g2 k hk' i hi (by simpa using hl) ?_
    rw[Ay,Ar hl',<-q4]
    rfl
   ·rfl
end
section
variable {prog:AI} {w:AQ} {K:Type} [DecidableEq K] {knd:KeyKind prog w K} {A:Bo} {E:Am->Ap->Prop} {s:Ap}
theorem qq {n:Nat} {v:Am} (h:carriedByValue v=true):ofAClassStatement n v=pure false:=by
 cases v <;> first | (cases n <;> rfl) | (exfalso;revert h;simp[carriedByValue])
theorem jU {ks:List K} {a:Addr} {Q:Bool->Ap->Prop} (hk:CH knd s.heap ks a) (h:Q false s):wpAny (model prog w) A (ofAClassStatement 8 (.ref a)) Q E s:=by
 have hT:=hk.typeIs
 obtain⟨o,items,n,ho,_,hd,hi⟩:=hk
 unfold ofAClassStatement
 refine Aj (wpAny_typeOf hT ?_)
 dsimp only
 rw[if_pos (by rfl)]
 refine Aj (An ?_)
 rw[if_neg (by decide)]
 refine Aj (Ci ho hd ?_)
 dsimp only
 refine Aj ?_
 show wpAny _ _ (forIn items _ _) _ _ s
 rw[<-Gs]
 refine Fi _ (fun rest r s'=>r.1=none/\s'=s/\∀v∈rest,carriedByValue v=true) _ ?_ ?_ _ _ ⟨rfl,rfl,hi.byValue⟩
 ·rintro v rest r s' ⟨hr,rfl,hall⟩
  rw[qq (hall v AJ)]
  refine Aj (An ?_)
  simp only[Bb,if_false]
  exact An ⟨rfl,rfl,fun u hu'=>hall u (AN _ hu')⟩
 ·rintro ⟨r1,r2⟩ s' ⟨hr,rfl,_⟩
  simp only at hr
  subst hr
  exact An h
theorem sH {kx:List K} {x:Addr} (hx:CH knd s.heap kx x):∀(l:List Am) {Q:Bool->Ap->Prop},(∀y∈l,∃k b,y=.ref b/\CH knd s.heap k b)->Q false s->wpAny (model prog w) A (searchCouldBeSeen (.ref x) l) Q E s:=by
 intro l Q hl h
 unfold searchCouldBeSeen
 refine Aj ?_
 refine Fi _ (fun rest r s'=>r.1=none/\s'=s/\∀y∈rest,∃k b,y=.ref b/\CH knd s.heap k b) _ ?_ ?_ _ _ ⟨rfl,rfl,hl⟩
 ·rintro v rest r s' ⟨hr,rfl,hall⟩
  obtain⟨k,b,rfl,hb⟩:=hall v AJ
  dsimp only
  by_cases z:x=b
  ·rw[if_pos (by simp[z])]
   exact An ⟨rfl,rfl,fun u hu'=>hall u (AN _ hu')⟩
  ·rw[if_neg (by simp[z,carriedByValue])]
   refine Aj ((tupleKind knd).quiet hx ?_)
   simp only[Ea,Bb,if_false]
   refine Aj ((tupleKind knd).quiet hb ?_)
   simp only[Ea,Bb,if_false]
   refine Aj (jU hx ?_)
   simp only[Bb,if_false]
   refine Aj (jU hb ?_)
   simp only[Bb,if_false]
   exact An ⟨rfl,rfl,fun u hu'=>hall u (AN _ hu')⟩
 ·rintro ⟨r1,r2⟩ s' ⟨hr,rfl,_⟩
  simp only at hr
  subst hr
  exact An h
end
section
variable {prog:AI} {w:AQ} {K:Type} [DecidableEq K] {knd:KeyKind prog w K}
theorem mC {h h':Heap} {a b:Addr} {o:Obj} {es:Array (Int×Am)} {ep:Nat} {t:BJ} {k:List K} (hk:CH knd h k b) (ho:h.get? a=some o) (hd:o.data=.set es ep t) (hs:Bf a h h'):CH knd h' k b:=by
 obtain⟨ob,items,n,h1,h2,h3,h4⟩:=hk
 have ne:b≠a:=fun z=>by
  subst z
  rw[ho]at h1
  cases h1
  rw[hd]at h3
  cases h3
 exact⟨ob,items,n,(hs.2 b ne).trans h1,h2,h3,h4⟩
theorem TupsOf.keep {h h':Heap} {a:Addr} {o:Obj} {es:Array (Int×Am)} {ep:Nat} {t:BJ} {l:List (Int×Am)} {ks:List (List K)} (T:TupsOf knd h l ks) (ho:h.get? a=some o) (hd:o.data=.set es ep t) (hs:Bf a h h'):TupsOf knd h' l ks:=
 ⟨T.len,fun i e he=>let ⟨k,b,q1,q2,q3,q4⟩:=T.at_ i e he;⟨k,b,q1,q2,mC q3 ho hd hs,q4⟩⟩
end
section
variable {prog:AI} {w:AQ} {K:Type} [DecidableEq K] {knd:KeyKind prog w K} {A:Bo} {E:Am->Ap->Prop} {s:Ap}
theorem sI {ks:List K} {a:Addr} {Q:Bool->Ap->Prop} (hI:∀k∈ks,∀v,knd.is k v=true->∃i t,v=.int i t) (hk:CH knd s.heap ks a) (h:Q true s):wpAny (model prog w) A (hashByValue 8 (.ref a)) Q E s:=by
 have hT:=hk.typeIs
 obtain⟨o,items,n,ho,_,hd,hi⟩:=hk
 unfold hashByValue
 refine Aj (Ei hT F.slot_tuple_hash.lookup ?_)
 show wpAny _ _ (seqItems? (.ref a) >>= _) _ _ s
 refine Aj (Ci ho hd ?_)
 dsimp only
 refine Aj ?_
 show wpAny _ _ (forIn items _ _) _ _ s
 rw[<-Gs]
 have hall:∀v∈items.toList,∃i t,v=.int i t:=by
  clear hd ho
  generalize items.toList=l at hi
  induction hi with
  | nil=>intro v hv;cases hv
  | cons h1 _ ih =>
   intro v hv
   rcases AR.mp hv with rfl | hv
   ·exact hI _ (AJ ..) _ h1
   ·exact ih (fun k hk=>hI k (AN _ hk)) v hv
 refine Fi _ (fun rest r s'=>r.1=none/\s'=s/\∀v∈rest,∃i t,v=Fd i t) _ ?_ ?_ _ _ ⟨rfl,rfl,hall⟩
 ·rintro v rest r s' ⟨hr,rfl,hall⟩
  obtain⟨i,t,rfl⟩:=hall v AJ
  show wpAny _ _ (hashByValue 7 (.int i t) >>= _) _ _ _
  rw[show hashByValue 7 (.int i t)=pure true from rfl]
  refine Aj (An ?_)
  exact An ⟨rfl,rfl,fun u hu'=>hall u (AN _ hu')⟩
 ·rintro ⟨r1,r2⟩ s' ⟨hr,rfl,_⟩
  simp only at hr
  subst hr
  exact An h
structure SetT (knd:KeyKind prog w K) (h:Heap) (a:Addr) (led:Bool) (ks:List (List K)) (o:Obj) (es:Array (Int×Am)) (ep:Nat) (t:BJ):Prop where
 at_:h.get? a=some o
 ex:o.ExactSet
 dat:o.data=.set es ep t
 tab:Tb t (es.toList.map (·.1))
 tup:TupsOf knd h es.toList ks
 nd:ks.Nodup
 led:t.led=led
 pl:t.plain=true
theorem Tp.fits {t:BJ} {es:Array (Int×Am)} (T:Tp t (es.toList.map (·.1))) (h:es.size<=t.mask):t.fits es.size=true:=by
 have h1:=T.sz
 have h3:=T.dm
 simp at h1
 unfold HI Gd
 rw[h3]
 simp
 omega
theorem Tp.full {t:BJ} {es:Array (Int×Am)} (T:Tp t (es.toList.map (·.1))):t.tooFull=decide (es.size*5≥t.mask*3):=by
 have h1:=T.sz
 simp at h1
 unfold SetTable.tooFull Gd
 rw[T.dm,h1]
 simp
theorem uT {es:Array (Int×Am)} {order:Array Nat} (h:order.toList.Perm (BG es.size)):(order.filterMap (es[·]?)).toList=order.toList.map fun i=>es.toList.getD i (0,.none):=by
 rw[Array.toList_filterMap]
 have:∀i∈order.toList,i< es.size:=fun i hi=>by have:=h.mem_iff.mp hi;simpa using this
 generalize order.toList=l at this
 clear h
 induction l with
 | nil=>rfl
 | cons i l ih =>
  have hi:=this i (AJ ..)
  rw[CW,AK hi,Bh,ih fun j hj=>this j (AN _ hj)]
  congr 1
  rw[BD,Ar (by simpa using hi)]
  rfl
theorem jV {α:Type} (l:List α) (d:α):(BG l.length).map (fun i=>l.getD i d)=l:=by
 apply Cj
 intro i
 rw[Ay]
 by_cases z:i< l.length
 ·rw[DD z,Ar z]
  simp[BD,z]
 ·rw[BO (by simpa using z),BO (by simpa using z)];rfl
theorem TupsOf.order {h:Heap} {es:List (Int×Am)} {ks:List (List K)} (U:TupsOf knd h es ks) {l:List Nat} (hl:l.Perm (BG es.length)):TupsOf knd h (l.map fun i=>es.getD i (0,.none)) (l.map fun i=>ks.getD i []):=by
 refine⟨by simp,fun i e he=>?_⟩
 rw[Ay]at he
 obtain⟨j,hj,e1⟩:=Bs.mp he
 have hlt:j< es.length:=by have:=hl.mem_iff.mp (AX hj);simpa using this
 obtain⟨k,b,q1,q2,q3,q4⟩:=U.at_ j es[j] (Ar hlt)
 have e2:e=es[j]:=by rw[<-e1,BD,Ar hlt];rfl
 subst e2
 refine⟨k,b,?_,q2,q3,q4⟩
 rw[Ay,hj]
 simp[BD,q1]
theorem sJ {a:Addr} {o:Obj} {es es1:Array (Int×Am)} {ep n:Nat} {t t1:BJ} {led:Bool} {ks1:List (List K)} (ho:s.heap.get? a=some o) (hex:o.ExactSet) (hd:o.data=.set es ep t) (T1:Tp t1 (es1.toList.map (·.1))) (U1:TupsOf knd s.heap es1.toList ks1) (nd1:ks1.Nodup) (hl:t1.led=led) (hpl:t1.plain=true) (hn:es1.size=n) (h0:0< n) (h63:n<=1000) (hr:(n- 1)*5< t1.mask*3) {Q:Bool->Ap->Prop}
  (h:∀h' ks' o' es' ep' t',Bf a s.heap h'->SetT knd h' a led ks' o' es' ep' t'->ks'.Perm ks1->es'.toList.Perm es1.toList->Q true {s with heap:=h'}):
  wpAny (model prog w) A (do
    storeSet a es1 t1
    if(!false && t1.tooFull)=true then setRelay a (Dw n)
    pure true) Q E s:=by
 have put:∀(s:Ap) (o:Obj) es ep t (es':Array (Int×Am)) (t':BJ),s.heap.get? a=some o->o.data=.set es ep t->(s.heap.update a (EF es' t')).get? a=some {o with data:=.set es' (ep+1) t'} :=fun s o es ep t es' t' ho hd=>by
  have:=Cp (EF es' t') ho (by rw[putSet_of es' t' hd];rfl)
  rw[putSet_of es' t' hd]at this;exact this
 have big:1000<=sizeLine:=by rw[BU];omega
 have mk:=T1.msk
 refine Aj (GG ho hd ?_ (by omega))
 have ho1:=put s o es ep t es1 t1 ho hd
 have sb1:=BN s.heap a (EF es1 t1)
 have U2:=U1.keep ho hd sb1
 rw[T1.full]
 by_cases z:es1.size*5≥t1.mask*3
 ·rw[decide_eq_true z,if_pos (by rfl)]
  unfold setRelay
  refine Aj (Aj (C4 ho1 rfl (T1.fits (by rcases mk with y | y | y | y | y <;> omega)) ?_))
  dsimp only
  have hw:DK (Dw n)<=2048/\isMask (DK (Dw n)- 1)/\n*5< (DK (Dw n)- 1)*3:=by
   rcases mk with y | y | y | y | y
   ·have:n=5:=by omega
    subst this;exact⟨by decide,.inr (.inl (by decide)),by decide⟩
   ·have:n=19:=by omega
    subst this;exact⟨by decide,.inr (.inr (.inl (by decide))),by decide⟩
   ·have:n=77:=by omega
    subst this;exact⟨by decide,.inr (.inr (.inr (.inl (by decide)))),by decide⟩
   ·have:n=307:=by omega
    subst this;exact⟨by decide,.inr (.inr (.inr (.inr (by decide)))),by decide⟩
   ·omega
  rw[if_neg (by have:=hw.1;rw[BU];omega)]
  obtain⟨t2,order,e2,m2,l2,p2,pm,T2⟩:=uS hw.2.1 (hs:=es1.map (·.1)) (by simp;omega) t1.finger (t1.movedTo (DK (Dw n)- 1)) t1.led t1.plain
  have er:t1.relaid (es1.map (·.1)) (Dw n)=some (t2,order):=e2
  have pm':order.toList.Perm (BG es1.size):=by simpa using pm
  have fm:=uT (es:=es1) pm'
  have fs:(order.filterMap (es1[·]?)).size=es1.size:=by
   rw[<-Ba,fm,B8,pm'.length_eq,EY]
  rw[er]
  have key:∀(f:Array (Int×Am)->Option (BJ×Array Nat)->Sem (Array (Int×Am)×BJ)) (R:(Array (Int×Am)×BJ)->Ap->Prop) (s:Ap),(∀es l,f es l=(do
     let some (t,order):=l | unsupported "internal:set-table-without-room"
     let es':=order.filterMap (es[·]?)
     if es'.size != es.size then unsupported "internal:set-table-lost-an-element"
     pure (es',t)))->R (order.filterMap (es1[·]?),t2) s->wpAny (model prog w) A (f es1 (some (t2,order))) R E s:=fun f R s hf hR=>by
   rw[hf]
   dsimp only
   rw[if_neg (by rw[fs];simp)]
   exact An hR
  refine Aj (key _ _ _ (fun _ _=>rfl) ?_)
  dsimp only
  refine GG ho1 rfl ?_ (by rw[fs];omega)
  have ho2:=put {s with heap:=s.heap.update a (EF es1 t1)} _ _ _ _ (order.filterMap (es1[·]?)) t2 ho1 rfl
  have sb2:=BN (s.heap.update a (EF es1 t1)) a (EF (order.filterMap (es1[·]?)) t2)
  have U3:=U2.order (l:=order.toList) (by simpa using pm')
  rw[<-fm]at U3
  have U4:=U3.keep ho1 rfl sb2
  have pk:(order.toList.map fun i=>ks1.getD i []).Perm ks1:=by
   have:=pm'.map (fun i=>ks1.getD i [])
   have hl:es1.size=ks1.length:=by have:=U1.len;simpa using this
   rw[hl,jV]at this
   exact this
  have pe:(order.filterMap (es1[·]?)).toList.Perm es1.toList:=by
   rw[fm]
   have:=pm'.map (fun i=>es1.toList.getD i (0,BA))
   have hl:es1.size=es1.toList.length:=by simp
   rw[hl,jV]at this
   exact this
  refine An (h _ _ _ _ _ _ (sb1.trans sb2) ⟨ho2,hex,rfl,⟨?_,?_⟩,U4,pk.nodup_iff.mpr nd1,by rw[l2];exact hl,by rw[p2];exact hpl⟩ pk pe)
  ·rw[fm,CN]
   have:((fun x:Int×Am=>x.1) ∘ fun i=>es1.toList.getD i (0,.none))=fun i=>(es1.map (·.1)).toList.getD i 0:=funext fun i=>by
    simp only[Function.comp,BD,GW,Ay]
    cases es1.toList[i]? <;> rfl
   rw[this]
   exact T2
  ·rw[B8,Ba,fs,m2]
   have:=hw.2.2
   omega
 ·rw[decide_eq_false z,if_neg (by decide)]
  refine An (h _ _ _ _ _ _ sb1 ⟨ho1,hex,rfl,⟨T1,by simp;omega⟩,U2,nd1,hl,hpl⟩ (.refl _) (.refl _))
theorem uU {a x:Addr} {o:Obj} {es:Array (Int×Am)} {ep:Nat} {t:BJ} {led:Bool} {ks:List (List K)} {kx:List K} (hu:A.units< cLine) (S:SetT knd s.heap a led ks o es ep t) (hn:es.size< 1000) (hx:CH knd s.heap kx x) (hI:∀k∈kx,∀v,knd.is k v=true->∃i t,v=.int i t)
  {Q:Bool->Ap->Prop} {fuel:Nat}
  (h1:kx∈ks->Q false s) (h2:kx∉ks->∀h' ks' o' es' ep' t',Bf a s.heap h'->SetT knd h' a led ks' o' es' ep' t'->ks'.Perm (kx::ks)->es'.toList.Perm ((tupleKeyHash knd kx,.ref x)::es.toList)->Q true {s with heap:=h'}):
  wpAny (model prog w) A (setAddHashedIn a (.ref x) (tupleKeyHash knd kx) (fuel+1)) Q E s:=by
 unfold setAddHashedIn
 refine Aj (C4 S.at_ S.dat S.tab.fits ?_)
 dsimp only
 rw[if_neg (by unfold byScan;simp[Value.scannable])]
 obtain⟨G,g1,g2,g3⟩:=S.tab.gap (sC t (tupleKeyHash knd kx))
 have mem:∀i,i< es.size->ks[i]? =some kx->∃k,k< G/\t.place.getD i 0=(itM t.mask k (t.probeStart (tupleKeyHash knd kx))).j:=fun i hi z=>by
  have hi':i< es.toList.length:=by simpa using hi
  obtain⟨k,b,q1,q2,q3,q4⟩:=S.tup.at_ i es.toList[i] (Ar hi')
  rw[q1]at z
  cases z
  obtain⟨n,r1,r2⟩:=S.tab.reach i (tupleKeyHash knd kx) (by rw[Ay,Ar hi',<-q4];rfl)
  refine⟨n,?_,r1.symm⟩
  by_cases y:n< G
  ·exact y
  ·by_cases y2:n=G
   ·subst y2
    refine absurd ?_ g2
    rw[r1]
    exact⟨i,by have:=S.tab.sz;simp at this;omega,rfl⟩
   ·exact absurd (r2 G (by omega)) g2
 refine Aj ?_
 unfold setSearch
 have ht:t.mask<=2047:=by rcases S.tab.msk with z | z | z | z | z <;> omega
 refine nA (knd:=knd) hu S.at_ S.dat S.tab S.tup hx (fun l Q hl h=>sH hx l (fun y hy=>?_) h) 100000 G none rfl (by unfold BW at g1;omega) g1 g2 g3 ?_ ?_
 ·obtain⟨e,he,rfl⟩:=hl y hy
  obtain⟨i,hi,rfl⟩:=Cu.mp he
  obtain⟨k,b,q1,q2,q3,q4⟩:=S.tup.at_ i es.toList[i] (Ar hi)
  exact⟨k,b,q2,q3⟩
 ·rintro ⟨k,i,_,_,hq⟩
  exact An (h1 (AX hq))
 ·intro hall
  have nin:kx∉ks:=fun hm=>by
   obtain⟨i,hi,e⟩:=Cu.mp hm
   have hi':i< es.size:=by have:=S.tup.len;simp at this;omega
   have hq:ks[i]? =some kx:=by rw[Ar hi,e]
   obtain⟨k,q1,q2⟩:=mem i hi' hq
   exact hall k i q1 q2 hi' hq
  refine Aj (C4 S.at_ S.dat S.tab.fits ?_)
  dsimp only
  have jle:(itM t.mask G (t.probeStart (tupleKeyHash knd kx))).j<=t.mask:=w4 (m:=t.mask) (h:=tupleKeyHash knd kx) G
  obtain⟨p1,p2,p3⟩:=S.tab.put g2 jle g3
  have led1:(t.put (itM t.mask G (t.probeStart (tupleKeyHash knd kx))).j).1.led=t.led:=rfl
  simp only[Ff]
  generalize hP:t.put (itM t.mask G (t.probeStart (tupleKeyHash knd kx))).j=P at*
  obtain⟨t1,p⟩:=P
  dsimp only at p1 p2 p3 led1
  have hp:p<=es.size:=by simpa using p1
  have il:=jg es p (tupleKeyHash knd kx,Bx x)
  have T1:Tp t1 ((BR es p (tupleKeyHash knd kx,Bx x)).toList.map (·.1)):=by
   rw[il,Hl,Bh,List.map_take,List.map_drop];exact p3
  have U1:TupsOf knd s.heap (BR es p (tupleKeyHash knd kx,Bx x)).toList (ks.take p++kx::ks.drop p):=by
   have hlen:=S.tup.len
   have hp2:p<=ks.length:=by simp at hlen;omega
   rw[il]
   refine⟨by simp[hlen],fun i e he=>?_⟩
   have l1:(es.toList.take p).length=p:=by simp;omega
   have l2:(ks.take p).length=p:=by simp;omega
   by_cases z:i< p
   ·rw[AU (by omega),Bn z]at he
    obtain⟨k,b,q⟩:=S.tup.at_ i e he
    exact⟨k,b,by rw[AU (by omega),Bn z];exact q.1,q.2⟩
   ·rw[AL (by omega),l1]at he
    rw[AL (by omega),l2]
    by_cases y:i=p
    ·rw[y,DS,Cc]at he ⊢
     cases he
     exact⟨kx,x,rfl,rfl,hx,rfl⟩
    ·rw[show i- p=(i- p- 1)+1 by omega,BS,Bw]at he ⊢
     exact S.tup.at_ _ e he
  have pk:(ks.take p++kx::ks.drop p).Perm (kx::ks):=GX.trans (.cons kx (by rw[FI]))
  have nd1:(ks.take p++kx::ks.drop p).Nodup:=pk.nodup_iff.mpr (C7.mpr ⟨nin,S.nd⟩)
  have room:=S.tab.room
  have pl1:t1.plain=true:=by have:=S.pl;rw[<-this];have e:=congrArg (fun z:BJ×Nat=>z.1.plain) hP;exact e.symm
  rw[if_pos pl1]
  refine Aj (sI hI hx ?_)
  exact sJ S.at_ S.ex S.dat T1 U1 nd1 (led1.trans S.led) pl1 (dJ es hp _) (by omega) (by omega) (by rw[p2];simpa using room) fun h' ks' o' es' ep' t' a1 a2 a3 a4=>h2 nin h' ks' o' es' ep' t' a1 a2 (a3.trans pk) (a4.trans (by rw[il];exact GX.trans (.cons _ (by rw[FI]))))
end
end Wb
namespace Wb
open PySem PySem.W PySem.Calls PyProof.Rows
theorem sl_next:Slot "set_iterator" "__next__" "set_iterator.__next__" :=
 .of (owner:="set_iterator") (n:="__next__") (by rw[Hm,FJ];kernel_rfl) (by decide +kernel) (by decide +kernel) (by decide +kernel)
  (by first | exact .inl (by decide +kernel) | exact .inr (by decide +kernel)) (by rw[G0];kernel_rfl)
theorem oQ:Slot "set_iterator" "__iter__" "set_iterator.__iter__" :=
 .of (owner:="set_iterator") (n:="__iter__") (by rw[Hm,FJ];kernel_rfl) (by decide +kernel) (by decide +kernel) (by decide +kernel)
  (by first | exact .inl (by decide +kernel) | exact .inr (by decide +kernel)) (by rw[G0];kernel_rfl)
theorem oR:entryFor table "set_iterator.__next__" =some Dq.«set_iterator.__next__» :=entryFor_of_tree (by kernel_rfl)
theorem uV:entryFor table "set_iterator.__iter__" =some Dq.«dict_keyiterator.__iter__» :=Hx (id':="dict_keyiterator.__iter__") (by kernel_rfl) rfl (by decide +kernel) (by kernel_rfl)
theorem x4:entryFor table "set.__iter__" =some Dq.«frozenset.__iter__» :=Hx (id':="frozenset.__iter__") (by kernel_rfl) rfl (by decide +kernel) (by kernel_rfl)
theorem oS:Manifest.owners.lookup (String.ofList ['r','o','t','a','r','e','t','i','_','t','e','s'].reverse)=some Manifest.sig_set_iterator:=by kernel_rfl
theorem oT (a:Am):argsOk "set_iterator.__next__" ⟨[a],[]⟩:=by
 unfold argsOk;rw[HJ (id:="set_iterator.__next__") (n:=['_','_','t','x','e','n','_','_']) (o:=['r','o','t','a','r','e','t','i','_','t','e','s']) (by kernel_rfl) oS];kernel_rfl
theorem uW (a:Am):argsOk "set_iterator.__iter__" ⟨[a],[]⟩:=by
 unfold argsOk;rw[HJ (id:="set_iterator.__iter__") (n:=['_','_','r','e','t','i','_','_']) (o:=['r','o','t','a','r','e','t','i','_','t','e','s']) (by kernel_rfl) oS];kernel_rfl
theorem jh {α:Type} :∀(l:List α) (i:Nat) (h:i< l.length),(l[i]::l.eraseIdx i).Perm l
 | a::l,0,_=>.refl _
 | a :: l, i + 1, h => by
  have h2:i< l.length:=by simpa using h
  exact(List.Perm.swap a l[i] (l.eraseIdx i)).trans (.cons a (jh l i h2))
theorem jW {α:Type} (next:Nat->Nat):∀(fuel k:Nat) (left:List α) (out:Array α),fuel=left.length->(GH next fuel k left out).toList.Perm (out.toList++left)
 | 0, k, left, out, h => by
  have:left=[]:=CZ.mp h.symm
  subst this
  unfold GH
  simp
 | fuel + 1, k, left, out, h => by
  unfold GH
  have hl:next k% left.length< left.length:=ED _ (by omega)
  rw[Ar hl]
  dsimp only
  refine(jW next fuel (k+1) _ _ (by rw[G1];simp[hl];omega)).trans ?_
  rw[Cw,AM]
  refine BP _ ?_
  exact jh left _ hl
def d5 (w:AQ) (a:Addr) (ep:Nat) (es:Array (Int×Am)):Array (Int×Am):=if w.params.followText "set-order" =true then pickOrder (w.params.setOrder a ep) es else es
theorem gD (w:AQ) (a:Addr) (ep:Nat) (es:Array (Int×Am)):(d5 w a ep es).toList.Perm es.toList:=by
 unfold d5
 split
 ·have:=jW (w.params.setOrder a ep) es.size 0 es.toList #[] (by simp)
  simp only[Dl]at this
  exact this
 ·exact .refl _
def bS (w:AQ) (t:BJ) (i:Nat):Int:=if w.params.followText "set-order" =true then 0 else if i=0 then 0 else(t.place.getD (i- 1) 0:Int)+1
theorem nB {w:AQ} {t:BJ} {hs:List Int} (T:Tp t hs) (hb:¬w.params.followText "set-order" =true) {i:Nat} (hi:i<=t.place.size):BI t.place (bS w t i).toNat=i:=by
 obtain⟨b0,b1,b2⟩:=gA T.up (bS w t i).toNat
 generalize hB:BI t.place (bS w t i).toNat=b at*
 have e:(bS w t i).toNat=if i=0 then 0 else t.place.getD (i- 1) 0+1:=by
  unfold bS;rw[if_neg hb];split <;> omega
 rw[e]at b1 b2
 by_cases z:i=0
 ·rw[if_pos z]at b1
  by_cases y:b=0
  ·omega
  ·have:=b1 0 (by omega);omega
 ·rw[if_neg z]at b1 b2
  by_cases y:b< i
  ·have:=b2 (i- 1) (by omega) (by omega)
   omega
  ·by_cases y2:i< b
   ·have h1:=b1 i y2
    have h2:=T.up (i- 1) i (by omega) (by omega)
    omega
   ·omega
def ji (w:AQ) (a:Addr) (t:BJ) (n ep i:Nat):Obj:={cls:=.type "set_iterator",dict:=none,data:=.fields #[.int (bS w t i) 0,.int i 0,.ref a,.int n 0,.int ep 0],slots:= #[]}
section
variable {prog:AI} {w:AQ} {A:Bo} {E:Am->Ap->Prop} {s:Ap} {a I:Addr} {o:Obj} {es:Array (Int×Am)} {ep:Nat} {t:BJ}
theorem mD {i:Nat} {Q:Option (Am×Nat)->Ap->Prop} (ho:s.heap.get? a=some o) (hd:o.data=.set es ep t) (T:Tp t (es.toList.map (·.1))) (hf:t.fits es.size=true) (hl:t.led= !w.params.followText "set-order") (hp:t.plain=true) (hi:i<=es.size)
  (h:Q (((d5 w a ep es)[i]?).map fun e=>(e.2,(bS w t (i+1)).toNat)) s):wpAny (model prog w) A (setNext a (bS w t i).toNat i ep) Q E s:=by
 have hsz:t.place.size=es.size:=by have:=T.sz;simpa using this
 unfold setNext
 refine Aj (C4 ho hd hf ?_)
 dsimp only
 unfold setsByText
 refine Aj (Aj (D5 (An ?_)))
 show wpAny (model prog w) A (if w.params.followText "set-order" =true then _ else _) Q E s
 by_cases z:w.params.followText "set-order" =true
 ·rw[if_pos z,if_neg (by simp)]
  unfold setWalk
  refine Aj (Aj (C4 ho hd hf ?_))
  dsimp only
  unfold setsByText
  refine Aj (Aj (D5 (An ?_)))
  show wpAny (model prog w) A (if w.params.followText "set-order" =true then _ else _) _ E s
  rw[if_pos z]
  refine Aj (D5 (An (An ?_)))
  unfold d5 bS at h
  rw[if_pos z,if_pos z]at h
  unfold bS
  rw[if_pos z]
  exact h
 ·rw[if_neg z]
  refine Ek (fun hab=>absurd hab (show ¬((!t.plain && decide (es.size> 1))=true) by rw[hp];simp)) (fun _=>?_)
  show wpAny _ _ ((if(!t.led && !es.isEmpty)=true then unsupported _ else pure ()) >>= _) _ _ _
  rw[if_neg (by rw[hl];simp[z])]
  refine Aj (An ?_)
  rw[nB T z (by omega)]
  unfold d5 at h
  rw[if_neg z]at h
  by_cases y:i< es.size
  ·have y2:i< t.place.size:=by omega
   rw[AK y]at h ⊢
   rw[AK y2]
   have e:(bS w t (i+1)).toNat=t.place[i]+1:=by
    unfold bS
    rw[if_neg z,if_neg (by omega),show i+1- 1=i by omega]
    have:t.place.getD i 0=t.place[i]:=by simp[CA,y2]
    omega
   simp only[Dk,e]at h
   exact An h
  ·rw[Dg (by omega)]at h ⊢
   exact An h
end
section
variable {prog:AI} {w:AQ} {A:Bo} {E:Am->Ap->Prop} {s:Ap} {a I:Addr} {o:Obj} {es:Array (Int×Am)} {ep:Nat} {t:BJ}
theorem jj {n i:Nat} (h:s.heap.get? I=some (ji w a t n ep i)):s.TypeIs (.ref I) "set_iterator" :=⟨_,h,rfl⟩
structure SetR (w:AQ) (o:Obj) (es:Array (Int×Am)) (ep:Nat) (t:BJ):Prop where
 ex:o.ExactSet
 dat:o.data=.set es ep t
 tab:Tb t (es.toList.map (·.1))
 led:t.led= !w.params.followText "set-order"
 pl:t.plain=true
theorem sL {Q:Am->Ap->Prop} (R:SetR w o es ep t) (ho:s.heap.get? a=some o) (h:Q (.ref s.heap.objs.size) {s with heap:=s.heap.push (ji w a t es.size ep 0)}):wpAny (model prog w) A (pyIter (.ref a)) Q E s:=by
 have hT:s.TypeIs (.ref a) "set" :=⟨o,ho,R.ex.1⟩
 refine DT hT Hn (Bp Hn hT x4 ?_ (F.args_set_iter_1 _))
 unfold Dq.«frozenset.__iter__»
 refine Aj (m:=HU _ _) (An ?_)
 unfold HK
 refine Aj (Aj (Ep ho R.dat R.tab.fits (An ?_)))
 unfold setDrawn
 refine Aj (Aj (C4 ho R.dat R.tab.fits ?_))
 dsimp only
 unfold setsByText
 refine Aj (Aj (D5 (An (An ?_))))
 refine Ek (fun hab=>absurd hab (show ¬((!w.params.followText "set-order" && (!t.plain && decide (es.size> 1)))=true) by rw[R.pl];simp)) (fun _=>?_)
 refine Aj (An ?_)
 refine Aj (wpAny_setEpoch_of ho R.dat R.tab.fits ?_)
 have e0:bS w t 0=0:=by unfold bS;split <;> rfl
 refine Aj (Bu (An ⟨_,rfl,"set_iterator",_,⟨_,Ax _ rfl,rfl⟩,sl_next.lookup,?_⟩))
 unfold ji at h
 rw[e0]at h
 exact h
theorem qr {i:Nat} {Q:Option Am->Ap->Prop} (R:SetR w o es ep t) (ho:s.heap.get? a=some o) (hne:a≠I) (hI:s.heap.get? I=some (ji w a t es.size ep i)) {e:Int×Am} (he:(d5 w a ep es)[i]? =some e)
  (h:∀h',h'.get? I=some (ji w a t es.size ep (i+1))->Bf I s.heap h'->Q (some e.2) {s with heap:=h'}):wpAny (model prog w) A (pyNext (.ref I)) Q E s:=by
 have hsz:(d5 w a ep es).size=es.size:=by have:=(gD w a ep es).length_eq;simpa using this
 have hi:i< es.size:=by have:=(Cm.mp he).1;omega
 have hT:=jj hI
 unfold pyNext
 refine Aj (Dm (BC (name:=Av "__next__") hT sl_next
  (Bp sl_next hT oR ?_ (oT _))))
 unfold Dq.«set_iterator.__next__»
 refine Aj (m:=slotArgs _ _ _) (An ?_)
 refine Aj (EG hI rfl ?_)
 dsimp only
 refine Aj (Ep ho R.dat R.tab.fits ?_)
 rw[if_neg (by simp)]
 show wpAny _ _ (setNext a (bS w t i).toNat ((i:Int).toNat) ((ep:Int).toNat) >>= _) _ _ _
 rw[BE,BE]
 refine Aj (mD ho R.dat R.tab.toTp R.tab.fits R.led R.pl (by omega) ?_)
 rw[he]
 dsimp only[Dk]
 refine Aj (D0 hI rfl (by simp) ?_)
 have hI1:=Cp (F8 (·.setIfInBounds 0 (rawInt ((bS w t (i+1)).toNat:Int)))) hI rfl
 refine Aj (D0 hI1 rfl (by simp) ?_)
 have hI2:=Cp (F8 (·.setIfInBounds 1 (rawInt ((i:Int)+1)))) hI1 rfl
 refine An ⟨_,rfl,An (h _ (hI2.trans ?_) ((BN ..).trans (BN ..)))⟩
 have e1:((bS w t (i+1)).toNat:Int)=bS w t (i+1):=by unfold bS;split <;> (try split) <;> omega
 rw[e1]
 rfl
theorem sM {Q:Option Am->Ap->Prop} (hh:A.handled=none) (R:SetR w o es ep t) (ho:s.heap.get? a=some o) (hne:a≠I) (hI:s.heap.get? I=some (ji w a t es.size ep es.size))
  (h:∀h',EW I s.heap h'->Q none {s with heap:=h'}):wpAny (model prog w) A (pyNext (.ref I)) Q E s:=by
 have hsz:(d5 w a ep es).size=es.size:=by have:=(gD w a ep es).length_eq;simpa using this
 have hT:=jj hI
 unfold pyNext
 refine Aj (Dm (BC (name:=Av "__next__") hT sl_next
  (Bp sl_next hT oR ?_ (oT _))))
 unfold Dq.«set_iterator.__next__»
 refine Aj (m:=slotArgs _ _ _) (An ?_)
 refine Aj (EG hI rfl ?_)
 dsimp only
 refine Aj (Ep ho R.dat R.tab.fits ?_)
 rw[if_neg (by simp)]
 show wpAny _ _ (setNext a (bS w t es.size).toNat ((es.size:Int).toNat) ((ep:Int).toNat) >>= _) _ _ _
 rw[BE,BE]
 refine Aj (mD ho R.dat R.tab.toTp R.tab.fits R.led R.pl (by omega) ?_)
 rw[Dg (by omega)]
 dsimp only[Option.map_none]
 refine Aj (D0 hI rfl (by simp) ?_)
 show wpAny _ _ (newExc (.type "StopIteration") [] >>= _) _ _ _
 refine Aj ?_
 simp only[newExc,newTuple]
 refine Aj (Bu ?_ (by size_fits))
 refine Aj (m:=firstArgMember _ _) (FZ (a:=BA) (by first | rfl | (simp only[firstArgMember];rfl)) ?_)
 refine Bu ?_ (by size_fits)
 simp only[raiseNew]
 refine Aj (Ga ?_)
 rw[show A.in1.handled=none from hh]
 refine Aj (An (Hb ?_))
 refine Aj (Dz (T:="StopIteration") (b:=true) ⟨_,Ax _ rfl,rfl⟩ EA ?_)
 exact An (h _ (((BN ..).extBut.push _).push _))
theorem Walks.setOf (hh:A.handled=none) (I a:Addr) (hne:a≠I) (R:SetR w o es ep t):
  Walks prog w A I [I,a] [I] es.size (fun i v=>∃e,(d5 w a ep es)[i]? =some e/\v=e.2) (fun i h=>h.get? I=some (ji w a t es.size ep i)/\h.get? a=some o) where
 sub:=fun b hb=>by simp at hb;simp[hb]
 frame:=fun _ _ _ st hk=>⟨hk I (by simp) _ st.1,hk a (by simp) _ st.2⟩
 item:=fun i s Q E hi st hQ=>by
  have hsz:(d5 w a ep es).size=es.size:=by have:=(gD w a ep es).length_eq;simpa using this
  have he:(d5 w a ep es)[i]? =some (d5 w a ep es)[i]:=AK (by omega)
  refine qr R st.2 hne st.1 he fun h' hI' hs'=>?_
  exact hQ _ h' s.toks ⟨_,he,rfl⟩ ⟨hI',hs'.extBut a _ hne st.2⟩ fun b o hb e=>hs'.extBut b o (fun h=>hb (by simp[h])) e
 done:=fun s Q E st hQ=>sM hh R st.2 hne st.1 fun h' he'=>hQ h' s.toks fun b o hb e=>he' b o (fun h=>hb (by simp[h])) e
 self:=fun i s Q E st hQ=>by
  refine DT (jj st.1) oQ (Bp oQ (jj st.1) uV ?_ (uW _))
  show wpAny _ _ (ret (.ref I)) _ _ s
  exact An ⟨_,rfl,"set_iterator",_,jj st.1,sl_next.lookup,hQ⟩
theorem sN {Q:Bool->Ap->Prop} (hT:s.TypeIs (.ref a) "set") (h:Q false s):wpAny (model prog w) A (Et (.ref a)) Q E s:=by
 unfold Et
 refine Aj (Ei hT F.slot_set_len.lookup ?_)
 generalize hid:("set.__len__" :String)=id0
 wp_delta
 rw[show splitId id0=some ("set","__len__")from by subst hid;decide +kernel]
 subst hid
 refine Aj (Dz (T:="set") (b:=true) hT (by rw[G0];kernel_rfl) ?_)
 refine Ek (fun hab=>absurd hab (by decide)) (fun _=>?_)
 refine Ek (fun _=>?_) (fun hab=>absurd (by decide +kernel) hab)
 refine Aj (wpAny_typeOf hT ?_)
 exact An h
theorem uX (R:SetR w o es ep t):KdlSrc prog w "set" a a es.size (fun i v=>∃e,(d5 w a ep es)[i]? =some e/\v=e.2) (fun h=>h.get? a=some o) where
 type:=fun _ hm=>⟨o,hm,R.ex.1⟩
 there:=fun _ hm=>⟨AE hm,AE hm⟩
 keep:=fun _ _ hm hk=>hk a (.inl rfl) o hm
 notList:=by decide
 notTuple:=by decide
 hint:=fun _ _ _ _ hm hq=>sN ⟨o,hm,R.ex.1⟩ hq
 iter:=fun _ _ hh hm=>⟨_,_,(fun _ _ hq=>sL R hm hq),Walks.setOf hh _ a (AY (AE hm)) R,⟨Ax _ rfl,Aq _ hm⟩⟩
end
def PairAt (h:Heap) (v:Am) (k:Int×Int):Prop:=∃b o t1 t2 n,v=.ref b/\h.get? b=some o/\o.cls=.type "tuple" /\o.data=.seq #[.int k.1 t1,.int k.2 t2] n
def lj (a b:Int×Int):Bool:=decide (a.1< b.1) || (decide (a.1=b.1) && decide (a.2< b.2))
theorem iz {a b:Int×Int} :lj a b=true↔a.1< b.1\/(a.1=b.1/\a.2< b.2):=by unfold lj;simp
theorem x5 {a b c:Int×Int} (h:lj a b=true) (h':lj b c=true):lj a c=true:=by rw[iz]at *;omega
theorem uY {a b:Int×Int} (hn:a≠b) (h:lj a b=false):lj b a=true:=by
 have h2:¬lj a b=true:=by rw[h];decide
 rw[iz]at h2
 rw[iz]
 by_cases z:a.1=b.1
 ·have:a.2≠b.2:=fun e=>hn (EC z e)
  omega
 ·omega
theorem oU (a:Int×Int):lj a a=false:=by unfold lj;simp
structure PairsAt (h:Heap) (vs:List Am) (ks:List (Int×Int)):Prop where
 len:vs.length=ks.length
 at_:∀(i:Nat) (v:Am),vs[i]? =some v->∃k,ks[i]? =some k/\PairAt h v k
section
variable {prog:AI} {w:AQ} {A:Bo} {E:Am->Ap->Prop} {s:Ap}
theorem uZ {x y:Am} {k l:Int×Int} {Q:Bool->Ap->Prop} (hx:PairAt s.heap x k) (hy:PairAt s.heap y l) (h:Q (lj k l) s):wpAny (model prog w) A (keyLt' (tuples' true) x y) Q E s:=by
 obtain⟨bx,ox,t1,t2,n,rfl,hx,_,dx⟩:=hx
 obtain⟨by_,oy,u1,u2,m,rfl,hy,_,dy⟩:=hy
 refine kat_lt hx dx hy dy (kat_cons (Fe (kat_go (fun e=>kat_yes (kat_cons (Fe (kat_go (fun e'=>kat_yes (kat_nil ?_)) fun e'=>kat_no (kat_one _ _ (lt_int ?_)))))) fun e=>kat_no (oneLt_int ?_))))
 ·have e1:k.1=l.1:=by simpa using e
  have e2:k.2=l.2:=by simpa using e'
  have:k=l:=EC e1 e2
  subst this
  rw[oU]at h
  simpa using h
 ·have e1:k.1=l.1:=by simpa using e
  show Q (decide (k.2< l.2)) s
  unfold lj at h
  simpa [e1] using h
 ·have e1:¬k.1=l.1:=by simpa using e
  unfold lj at h
  simpa [e1] using h
theorem oV {h:Heap} :∀{vs:List Am} {ks:List (Int×Int)},PairsAt h vs ks->∃fs,fs.length=vs.length/\KatTups h vs fs/\∀f∈fs,∃i t,f=Fd i t
 | [],ks,P=>⟨[],rfl,trivial,fun f hf=>by cases hf⟩
 | v :: vs, ks, P => by
  obtain⟨k,q1,b,o,t1,t2,n,rfl,q3,q4,q5⟩:=P.at_ 0 v rfl
  obtain⟨fs,l1,l2,l3⟩:=oV (h:=h) (vs:=vs) (ks:=ks.drop 1) ⟨by have:=P.len;simp at this ⊢;omega,fun i v e=>by
   obtain⟨k,a1,a2⟩:=P.at_ (i+1) v (by simpa using e)
   exact⟨k,by rw[Bw,Nat.add_comm];exact a1,a2⟩⟩
  refine⟨.int k.1 t1::fs,by simp[l1],.cons q3 q4 q5 (by simp) l2,fun f hf=>?_⟩
  rcases AR.mp hf with rfl | hf
  ·exact⟨_,_,rfl⟩
  ·exact l3 f hf
end
end Wb
namespace Wb
open PySem PyProof.Rows
abbrev at' (xs:Array AD) (i:Nat):AD:=xs.getD i (BA,BA)
structure LtOk (M:Fx) (A:Bo) (E:Am->Ap->Prop) (s:Ap) (κ:Ee) (U:AD->Prop) (L:AD->AD->Bool):Prop where
 lt:∀(x y:AD) (st:C2) (Q:Option Bool->C2->Prop),U x->U y->kindOf st=κ->Q (some (L x y)) st->wpS M A E s (lt' x y) Q st
 tr:∀x y z,U x->U y->U z->L x y=true->L y z=true->L x z=true
 tot:∀x y,U x->U y->x≠y->L x y=false->L y x=true
 irr:∀x,L x x=false
structure SB (κ:Ee) (a0:List AD) (st:C2):Prop where
 kind:kindOf st=κ
 failed:failedOf st=none
 perm:(arrOf st).toList.Perm a0
def Sr (L:AD->AD->Bool) (xs:Array AD) (a b:Nat):Prop:=∀i j,a<=i->i< j->j< b->L (at' xs i) (at' xs j)=true
theorem d0 {xs:Array AD} {i:Nat} (h:i< xs.size):xs[i]? =some (at' xs i):=by simp[CA,h]
theorem dW {xs:Array AD} {i:Nat} (h:i< xs.size):at' xs i=xs.toList[i]'(by simpa using h):=by simp[CA,h]
section
variable {M:Fx} {A:Bo} {E:Am->Ap->Prop} {s:Ap} {κ:Ee} {U:AD->Prop} {L:AD->AD->Bool} {a0:List AD} {st:C2}
theorem SB.size (B:SB κ a0 st):(arrOf st).size=a0.length:=by rw[<-Ba];exact B.perm.length_eq
theorem SB.u (B:SB κ a0 st) (hU:∀x∈a0,U x) {i:Nat} (hi:i< a0.length):U (at' (arrOf st) i):=by
 have h:=B.size
 rw[dW (by omega)]
 exact hU _ (B.perm.mem_iff.mp (Cr _))
theorem yr {xs:Array AD} (nd:xs.toList.Nodup) {i j:Nat} (hi:i< xs.size) (hj:j< xs.size) (hij:i≠j):at' xs i≠at' xs j:=by
 rw[dW hi,dW hj]
 have pw:=Co.mp (Bd.mp nd)
 rcases Nat.lt_or_gt_of_ne hij with z | z
 ·exact pw i j _ _ z
 ·exact fun e=>pw j i _ _ z e.symm
theorem SB.ne (B:SB κ a0 st) (nd:a0.Nodup) {i j:Nat} (hi:i< a0.length) (hj:j< a0.length) (hij:i≠j):at' (arrOf st) i≠at' (arrOf st) j:=by
 have h:=B.size
 exact yr (B.perm.nodup_iff.mpr nd) (by omega) (by omega) hij
theorem SB.set (B:SB κ a0 st) {xs:Array AD} (h:xs.Perm (arrOf st)):SB κ a0 (setArr st xs):=⟨B.kind,B.failed,(Array.perm_iff_toList_perm.mp h).trans B.perm⟩
theorem aX {arr:Array AD} {i:Nat} {Q:AD->C2->Prop} (hi:i< arr.size) (h:Q (at' arr i) st):wpS M A E s (elem' arr i) Q st:=by
 rw[elem'_eq,d0 hi]
 exact AB h
theorem gE (O:LtOk M A E s κ U L) (hU:∀x∈a0,U x) (B:SB κ a0 st) {i j:Nat} {Q:Option Bool->C2->Prop} (hi:i< a0.length) (hj:j< a0.length) (h:Q (some (L (at' (arrOf st) i) (at' (arrOf st) j))) st):wpS M A E s (ltAt' i j) Q st:=by
 have hs:=B.size
 rw[ltAt'_eq]
 refine Aw (DU (Aw (aX (by omega) (Aw (aX (by omega) ?_)))))
 exact O.lt _ _ _ _ (B.u hU hi) (B.u hU hj) B.kind h
theorem qt {xs:Array AD} {src d:Nat} (hs:src< xs.size) (hd:d<=src) (k:Nat):at' (bubble xs src d) k=if k=src- d then at' xs src else if src- d< k/\k<=src then at' xs (k- 1)else at' xs k:=by
 simp only[at',Bj]
 rw[getElem?_bubble hs _ hd]
 split
 ·rfl
 ·split <;> rfl
theorem qu {xs:Array AD} {i j:Nat} (hj:j<=xs.size) (k:Nat):at' (mirror xs i j ((j- i)/ 2)) k=if i<=k/\k< j then at' xs (i+j- 1- k)else at' xs k:=by
 simp only[at',Bj]
 rw[getElem?_mirror_all hj]
 split <;> rfl
theorem va (O:LtOk M A E s κ U L) (hU:∀x∈a0,U x) (nd:a0.Nodup) {lo n ok:Nat} {Q:Bool->C2->Prop} (hn:lo+n<=a0.length) (hok:ok<=n) (B:SB κ a0 st) (hs:Sr L (arrOf st) lo (lo+ok))
  (h:∀st',SB κ a0 st'->pendingOf st'=pendingOf st->Sr L (arrOf st') lo (lo+n)->(∀i,i< lo\/lo+n<=i->at' (arrOf st') i=at' (arrOf st) i)->Q true st'):wpS M A E s (binarySort' lo n ok) Q st:=by
 rw[binarySort'_eq]
 refine Aw (D6 (Bz (I:=fun k c st'=>c=(none,())/\SB κ a0 st'/\pendingOf st'=pendingOf st/\Sr L (arrOf st') lo (lo+min k n)/\∀i,i< lo\/lo+n<=i->at' (arrOf st') i=at' (arrOf st) i)
  (Q:=fun c st'=>c=(none,())/\SB κ a0 st'/\pendingOf st'=pendingOf st/\Sr L (arrOf st') lo (lo+n)/\∀i,i< lo\/lo+n<=i->at' (arrOf st') i=at' (arrOf st) i) ?step ?fin ?init) ?post)
 case post=>
  rintro c st' ⟨rfl,h1,h2,h3,h4⟩
  exact AB (h st' h1 h2 h3 h4)
 case init=>
  refine⟨rfl,B,rfl,fun i j h1 h2 h3=>?_,fun i _=>rfl⟩
  exact hs i j h1 h2 (by omega)
 case fin=>
  rintro c st' ⟨hc,h1,h2,h3,h4⟩
  rw[show min (max (max ok 1) n) n=n by omega]at h3
  exact⟨hc,h1,h2,h3,h4⟩
 case step=>
  rintro k c st' hak hkn ⟨rfl,B',hp,hs',hout⟩
  rw[show min k n=k by omega]at hs'
  have hsz:=B'.size
  refine Aw (D6 (Bz (I:=fun x c st''=>st''=st'/\∃l r,c=(none,l,r)/\l<=r/\r<=k/\r- l<=k- x/\
    (∀i,i< l->L (at' (arrOf st') (lo+i)) (at' (arrOf st') (lo+k))=true)/\(∀i,r<=i->i< k->L (at' (arrOf st') (lo+k)) (at' (arrOf st') (lo+i))=true))
   (Q:=fun c st''=>st''=st'/\∃l r,c=(none,l,r)/\l<=k/\
    (∀i,i< l->L (at' (arrOf st') (lo+i)) (at' (arrOf st') (lo+k))=true)/\(∀i,l<=i->i< k->L (at' (arrOf st') (lo+k)) (at' (arrOf st') (lo+i))=true)) ?istep ?ifin ?iinit) ?ipost)
  case iinit=>exact⟨rfl,0,k,rfl,by omega,by omega,by omega,fun i hi=>by omega,fun i h1 h2=>by omega⟩
  case ifin=>
   rintro c st'' ⟨rfl,l,r,rfl,hlr,hrk,hm,hlo,hhi⟩
   have:l=r:=by omega
   subst this
   exact⟨rfl,l,l,rfl,hrk,hlo,hhi⟩
  case istep=>
   rintro x c st'' _ hxk ⟨rfl,l,r,rfl,hlr,hrk,hm,hlo,hhi⟩
   dsimp only
   by_cases hge:l≥r
   ·rw[if_pos hge]
    have:l=r:=by omega
    subst this
    exact AB ⟨rfl,l,l,rfl,hrk,hlo,hhi⟩
   ·rw[if_neg hge]
    refine Aw (gE O hU B' (by omega) (by omega) ?_)
    have uu:∀i,i<=k->U (at' (arrOf st'') (lo+i)):=fun i hi=>B'.u hU (by omega)
    cases hless:L (at' (arrOf st'') (lo+k)) (at' (arrOf st'') (lo+(l+r)/ 2))with
    | true =>
     simp only[if_true]
     refine AB ⟨rfl,l,(l+r)/ 2,rfl,by omega,by omega,by omega,hlo,fun i h1 h2=>?_⟩
     by_cases y:i=(l+r)/ 2
     ·rw[y];exact hless
     ·exact O.tr _ _ _ (uu _ (by omega)) (uu _ (by omega)) (uu _ (by omega)) hless (hs' _ _ (by omega) (by omega) (by omega))
    | false =>
     simp only[Bb,if_false]
     have q:=O.tot _ _ (uu _ (by omega)) (uu _ (by omega)) (B'.ne nd (by omega) (by omega) (by omega)) hless
     refine AB ⟨rfl,(l+r)/ 2+1,r,rfl,by omega,by omega,by omega,fun i h1=>?_,hhi⟩
     by_cases y:i=(l+r)/ 2
     ·rw[y];exact q
     ·exact O.tr _ _ _ (uu _ (by omega)) (uu _ (by omega)) (uu _ (by omega)) (hs' _ _ (by omega) (by omega) (by omega)) q
  case ipost=>
   rintro c st'' ⟨rfl,l,r,rfl,hlk,hlo,hhi⟩
   show wpS _ _ _ _ (do moveDown' (lo+k) (lo+l);pure (B9 (none,()))) _ _
   rw[moveDown'_eq]
   have e1:∀i,at' (bubble (arrOf st'') (lo+k) (lo+k- (lo+l))) i=if i=lo+l then at' (arrOf st'') (lo+k)else if lo+l< i/\i<=lo+k then at' (arrOf st'') (i- 1)else at' (arrOf st'') i:=fun i=>by
    rw[qt (by omega) (by omega),show lo+k- (lo+k- (lo+l))=lo+l by omega]
   refine Aw (C9 (AB ⟨rfl,B'.set (bubble_perm _ _ _),hp,?_,fun i hi=>?_⟩))
   ·rw[show min (k+1) n=k+1 by omega]
    intro i j h1 h2 h3
    show L (at' (bubble (arrOf st'') (lo+k) (lo+k- (lo+l))) i) (at' (bubble (arrOf st'') (lo+k) (lo+k- (lo+l))) j)=true
    rw[e1,e1]
    have hlo':∀i,lo<=i->i< lo+l->L (at' (arrOf st'') i) (at' (arrOf st'') (lo+k))=true:=fun i h1 h2=>by
     have:=hlo (i- lo) (by omega);rwa [show lo+(i- lo)=i by omega]at this
    have hhi':∀i,lo+l<=i->i< lo+k->L (at' (arrOf st'') (lo+k)) (at' (arrOf st'') i)=true:=fun i h1 h2=>by
     have:=hhi (i- lo) (by omega) (by omega);rwa [show lo+(i- lo)=i by omega]at this
    repeat' split
    all_goals first
     | (exfalso;omega)
     | exact hlo' _ (by omega) (by omega)
     | exact hhi' _ (by omega) (by omega)
     | exact hs' _ _ (by omega) (by omega) (by omega)
   ·show at' (bubble (arrOf st'') (lo+k) (lo+k- (lo+l))) i=_
    rw[e1,if_neg (by omega),if_neg (by omega)]
    exact hout i hi
end
section
variable {M:Fx} {A:Bo} {E:Am->Ap->Prop} {s:Ap} {κ:Ee} {U:AD->Prop} {L:AD->AD->Bool} {a0:List AD} {st:C2}
theorem yt (O:LtOk M A E s κ U L) (hU:∀x∈a0,U x) (nd:a0.Nodup) {lo nrem n0:Nat} {Q:Option (Option Nat)×Nat->C2->Prop} (hn:lo+nrem<=a0.length) (h1:1<=n0) (h2:n0<=nrem) (B:SB κ a0 st) (hs:Sr L (arrOf st) lo (lo+n0))
  (h:∀n,n0<=n->n<=nrem->Sr L (arrOf st) lo (lo+n)->(n=nrem\/L (at' (arrOf st) (lo+n)) (at' (arrOf st) (lo+n- 1))=true)->Q (none,n) st):
  wpS M A E s (forIn [n0:nrem] ((none:Option (Option Nat)),n0) fun _ c=>do
   let some smaller <-ltAt' (lo+c.2) (lo+c.2- 1) | pure (AW (some none,c.2))
   if smaller=true then pure (AW (none,c.2))else pure (B9 (none,c.2+1))) Q st:=by
 refine Bz (I:=fun x c st'=>st'=st/\c=(none,x)/\n0<=x/\x<=nrem/\Sr L (arrOf st) lo (lo+x)) ?step ?fin ⟨rfl,rfl,Au _,h2,hs⟩
 case fin=>
  rintro c st' ⟨rfl,rfl,q1,q2,q3⟩
  rw[show max n0 nrem=nrem by omega]at q3 ⊢
  exact h nrem h2 (Au _) q3 (.inl rfl)
 case step=>
  rintro x c st' hx1 hx2 ⟨rfl,rfl,q1,q2,q3⟩
  dsimp only
  have uu:∀i,i< a0.length->U (at' (arrOf st') i):=fun i hi=>B.u hU hi
  refine Aw (gE O hU B (by omega) (by omega) ?_)
  cases hless:L (at' (arrOf st') (lo+x)) (at' (arrOf st') (lo+x- 1))with
  | true =>
   dsimp only
   rw[if_pos rfl]
   exact AB (h x q1 q2 q3 (.inr hless))
  | false =>
   dsimp only
   rw[if_neg (by decide)]
   have q:=O.tot _ _ (uu _ (by omega)) (uu _ (by omega)) (B.ne nd (by omega) (by omega) (by omega)) hless
   refine AB ⟨rfl,rfl,by omega,by omega,fun i j g1 g2 g3=>?_⟩
   by_cases z:j< lo+x
   ·exact q3 i j g1 g2 z
   ·have:j=lo+x:=by omega
    subst this
    by_cases y:i=lo+x- 1
    ·rw[y];exact q
    ·exact O.tr _ _ _ (uu _ (by omega)) (uu _ (by omega)) (uu _ (by omega)) (q3 i (lo+x- 1) g1 (by omega) (by omega)) q
theorem yu (O:LtOk M A E s κ U L) (hU:∀x∈a0,U x) (nd:a0.Nodup) {lo nrem n0:Nat} {Q:Option (Option Nat)×Nat×Nat->C2->Prop} (hn:lo+nrem<=a0.length) (h1:2<=n0) (h2:n0<=nrem) (B:SB κ a0 st) (hs:∀i j,lo<=i->i< j->j< lo+n0->L (at' (arrOf st) j) (at' (arrOf st) i)=true)
  (h:∀n,n0<=n->n<=nrem->(∀i j,lo<=i->i< j->j< lo+n->L (at' (arrOf st) j) (at' (arrOf st) i)=true)->Q (none,n,0) st):
  wpS M A E s (forIn [n0:nrem] ((none:Option (Option Nat)),n0,0) fun _ c=>do
   let some smaller <-ltAt' (lo+c.2.1) (lo+c.2.1- 1) | pure (AW (some none,c.2.1,c.2.2))
   if smaller=true then
    if c.2.2> 0 then
     reverseSlice' (lo+c.2.1- (c.2.2+1)) (lo+c.2.1)
     pure (B9 (none,c.2.1+1,0))
    else pure (B9 (none,c.2.1+1,0))
   else
    let some larger <-ltAt' (lo+c.2.1- 1) (lo+c.2.1) | pure (AW (some none,c.2.1,c.2.2))
    if larger=true then pure (AW (none,c.2.1,c.2.2))else pure (B9 (none,c.2.1+1,c.2.2+1))) Q st:=by
 refine Bz (I:=fun x c st'=>st'=st/\c=(none,x,0)/\n0<=x/\x<=nrem/\∀i j,lo<=i->i< j->j< lo+x->L (at' (arrOf st) j) (at' (arrOf st) i)=true) ?step ?fin ⟨rfl,rfl,Au _,h2,hs⟩
 case fin=>
  rintro c st' ⟨rfl,rfl,q1,q2,q3⟩
  rw[show max n0 nrem=nrem by omega]at q3 ⊢
  exact h nrem h2 (Au _) q3
 case step=>
  rintro x c st' hx1 hx2 ⟨rfl,rfl,q1,q2,q3⟩
  dsimp only
  have uu:∀i,i< a0.length->U (at' (arrOf st') i):=fun i hi=>B.u hU hi
  refine Aw (gE O hU B (by omega) (by omega) ?_)
  cases hless:L (at' (arrOf st') (lo+x)) (at' (arrOf st') (lo+x- 1))with
  | true =>
   dsimp only
   rw[if_pos rfl,if_neg (by omega)]
   refine AB ⟨rfl,rfl,by omega,by omega,fun i j g1 g2 g3=>?_⟩
   by_cases z:j< lo+x
   ·exact q3 i j g1 g2 z
   ·have:j=lo+x:=by omega
    subst this
    by_cases y:i=lo+x- 1
    ·rw[y];exact hless
    ·exact O.tr _ _ _ (uu _ (by omega)) (uu _ (by omega)) (uu _ (by omega)) hless (q3 i (lo+x- 1) g1 (by omega) (by omega))
  | false =>
   dsimp only
   rw[if_neg (by decide)]
   have q:=O.tot _ _ (uu _ (by omega)) (uu _ (by omega)) (B.ne nd (by omega) (by omega) (by omega)) hless
   refine Aw (gE O hU B (by omega) (by omega) ?_)
   rw[q]
   dsimp only
   rw[if_pos rfl]
   exact AB (h x q1 q2 q3)
theorem x6 (O:LtOk M A E s κ U L) (hU:∀x∈a0,U x) (nd:a0.Nodup) {lo nrem:Nat} {Q:Option Nat->C2->Prop} (hn:lo+nrem<=a0.length) (h1:1<=nrem) (B:SB κ a0 st)
  (h:∀n st',1<=n->n<=nrem->SB κ a0 st'->pendingOf st'=pendingOf st->Sr L (arrOf st') lo (lo+n)->(∀i,i< lo\/lo+nrem<=i->at' (arrOf st') i=at' (arrOf st) i)->Q (some n) st'):wpS M A E s (countRun' lo nrem) Q st:=by
 rw[countRun'_eq]
 refine Aw (yt O hU nd hn (Au _) h1 B (fun i j g1 g2 g3=>by omega) fun n n1 n2 n3 n4=>?_)
 dsimp only
 by_cases z:n=nrem
 ·rw[if_pos (by simpa using z)]
  exact AB (h n st n1 n2 B rfl n3 fun _ _=>rfl)
 rw[if_neg (by simpa using z)]
 have n5:L (at' (arrOf st) (lo+n)) (at' (arrOf st) (lo+n- 1))=true:=n4.resolve_left z
 by_cases y:n> 1
 ·rw[if_pos y]
  refine Aw (gE O hU B (by omega) (by omega) ?_)
  rw[n3 lo (lo+n- 1) (Au _) (by omega) (by omega)]
  dsimp only
  rw[if_pos rfl]
  exact AB (h n st n1 n2 B rfl n3 fun _ _=>rfl)
 rw[if_neg y]
 have:n=1:=by omega
 subst this
 refine Aw (Fj (CF ⟨rfl,?_⟩))
 refine Aw (yu O hU nd hn (Au _) (by omega) B (fun i j g1 g2 g3=>?_) fun m m1 m2 m3=>?_)
 ·have:i=lo/\j=lo+1:=by omega
  rw[this.1,this.2];exact n5
 dsimp only
 rw[if_neg (by omega)]
 rw[reverseSlice'_eq]
 refine Aw (C9 ?_)
 have hsz:=B.size
 have e1:∀k,at' (mirror (arrOf st) lo (lo+m) ((lo+m- lo)/ 2)) k=if lo<=k/\k< lo+m then at' (arrOf st) (lo+(lo+m)- 1- k)else at' (arrOf st) k:=fun k=>qu (by omega) k
 have B2:SB κ a0 (setArr st (mirror (arrOf st) lo (lo+m) ((lo+m- lo)/ 2))):=B.set (mirror_perm _ _ _ _)
 refine Aw (yt O hU nd hn (by omega) m2 B2 (fun i j g1 g2 g3=>?_) fun k k1 k2 k3 k4=>?_)
 ·show L (at' (mirror (arrOf st) lo (lo+m) ((lo+m- lo)/ 2)) i) (at' (mirror (arrOf st) lo (lo+m) ((lo+m- lo)/ 2)) j)=true
  rw[e1,e1,if_pos (by omega),if_pos (by omega)]
  exact m3 _ _ (by omega) (by omega) (by omega)
 ·dsimp only
  refine AB (h k _ (by omega) k2 B2 rfl k3 fun i hi=>?_)
  show at' (mirror (arrOf st) lo (lo+m) ((lo+m- lo)/ 2)) i=_
  rw[e1,if_neg (by omega)]
end
def dh:Bool->AD->Array AD->Nat->Nat->Nat->StateT C2 Sem (Option Nat):=sortPriv% PySem.Builtin.gallop
def w6 (left : Bool) (key : AD) (arr : Array AD) (base i : Nat) : StateT C2 Sem (Option Bool) := do
    let x <-elem' arr (base+i)
    if left then lt' x key else return (<-lt' key x).map (!·)
theorem nE (left:Bool) (key:AD) (arr:Array AD) (base n hint:Nat):dh left key arr base n hint=(do
 let mut lastofs:=0
 let mut ofs:=1
 let mut lo:=0
 let mut hi:=0
 let some right <-w6 left key arr base hint | return none
 if right then
  let maxofs:=n- hint
  for _ in [0:n]do
   if ofs≥maxofs then break
   let some more <-w6 left key arr base (hint+ofs) | return none
   if !more then break
   lastofs:=ofs
   ofs:=2*ofs+1
  lo:=hint+lastofs+1
  hi:=hint+min ofs maxofs
 else
  let maxofs:=hint+1
  for _ in [0:n]do
   if ofs≥maxofs then break
   let some found <-w6 left key arr base (hint- ofs) | return none
   if found then break
   lastofs:=ofs
   ofs:=2*ofs+1
  lo:=hint+1- min ofs maxofs
  hi:=hint- lastofs
 for _ in [0:n]do
  if lo≥hi then break
  let m:=lo+(hi- lo)/ 2
  let some more <-w6 left key arr base m | return none
  if more then lo:=m+1 else hi:=m
 return some hi):=rfl
section
variable {M:Fx} {A:Bo} {E:Am->Ap->Prop} {s:Ap} {κ:Ee} {U:AD->Prop} {L:AD->AD->Bool} {st:C2}
def B' (L:AD->AD->Bool) (left:Bool) (key:AD) (arr:Array AD) (base i:Nat):Bool:=if left then L (at' arr (base+i)) key else !L key (at' arr (base+i))
theorem x8 (O:LtOk M A E s κ U L) {left:Bool} {key:AD} {arr:Array AD} {base i:Nat} {Q:Option Bool->C2->Prop} (hk:U key) (hu:U (at' arr (base+i))) (hi:base+i< arr.size) (kd:kindOf st=κ) (h:Q (some (B' L left key arr base i)) st):wpS M A E s (w6 left key arr base i) Q st:=by
 unfold w6
 refine Aw (aX hi ?_)
 unfold B' at h
 cases left with
 | true=>exact O.lt _ _ _ _ hu hk kd h
 | false=>exact Aw (O.lt _ _ _ _ hk hu kd (AB h))
theorem cT (O:LtOk M A E s κ U L) {left:Bool} {key:AD} {arr:Array AD} {base n hint:Nat} {Q:Option Nat->C2->Prop} (hk:U key) (hu:∀i,i< n->U (at' arr (base+i))) (hz:base+n<=arr.size) (hh:hint< n) (kd:kindOf st=κ)
  (mono:∀i j,i< j->j< n->B' L left key arr base j=true->B' L left key arr base i=true)
  (h:∀k,k<=n->(∀i,i< n->(B' L left key arr base i=true↔i< k))->Q (some k) st):wpS M A E s (dh left key arr base n hint) Q st:=by
 rw[nE]
 have ask:∀i (R:Option Bool->C2->Prop),i< n->R (some (B' L left key arr base i)) st->wpS M A E s (w6 left key arr base i) R st:=fun i R hi hR=>x8 O hk (hu i hi) (by omega) kd hR
 generalize hB:B' L left key arr base=B at*
 have fin:∀lo hi,lo<=hi->hi<=n->(∀i,i< lo->B i=true)->(∀i,hi<=i->i< n->B i=false)->∀k:Option (Option Nat)×Nat×Nat->StateT C2 Sem (Option Nat),(∀l r,k (none,l,r)=pure (some r))->wpS M A E s (do
   let c <-forIn [0:n] ((none:Option (Option Nat)),lo,hi) fun _ c=>do
    if c.2.1≥c.2.2 then pure (AW (none,c.2.1,c.2.2))else
     let some more <-w6 left key arr base (c.2.1+(c.2.2- c.2.1)/ 2) | pure (AW (some none,c.2.1,c.2.2))
     if more=true then pure (B9 (none,c.2.1+(c.2.2- c.2.1)/ 2+1,c.2.2))else pure (B9 (none,c.2.1,c.2.1+(c.2.2- c.2.1)/ 2))
   k c) Q st:=by
  intro lo hi hlo hhi h1 h2 k hk'
  refine Aw (Bz (I:=fun x c st'=>st'=st/\∃l r,c=(none,l,r)/\l<=r/\r<=n/\r- l<=n- x/\(∀i,i< l->B i=true)/\∀i,r<=i->i< n->B i=false) ?step ?fin ⟨rfl,lo,hi,rfl,hlo,hhi,by omega,h1,h2⟩)
  case fin=>
   rintro c st' ⟨rfl,l,r,rfl,q1,q2,q3,q4,q5⟩
   have:l=r:=by omega
   subst this
   rw[hk']
   refine AB (h l q2 fun i hi=>⟨fun z=>?_,q4 i⟩)
   by_cases y:i< l
   ·exact y
   ·rw[q5 i (by omega) hi]at z;cases z
  case step=>
   rintro x c st' _ hx ⟨rfl,l,r,rfl,q1,q2,q3,q4,q5⟩
   dsimp only
   by_cases z:l≥r
   ·rw[if_pos z]
    have:l=r:=by omega
    subst this
    refine AB ?_
    show wpS M A E s (k (none,l,l)) Q st'
    rw[hk']
    refine AB (h l q2 fun i hi=>⟨fun z=>?_,q4 i⟩)
    by_cases y:i< l
    ·exact y
    ·rw[q5 i (by omega) hi]at z;cases z
   ·rw[if_neg z]
    refine Aw (ask _ _ (by omega) ?_)
    cases hm:B (l+(r- l)/ 2)with
    | true =>
     dsimp only
     rw[if_pos rfl]
     refine AB ⟨rfl,_,_,rfl,by omega,q2,by omega,fun i hi=>?_,q5⟩
     by_cases y:i=l+(r- l)/ 2
     ·rw[y];exact hm
     ·exact mono i _ (by omega) (by omega) hm
    | false =>
     dsimp only
     rw[if_neg (by decide)]
     refine AB ⟨rfl,_,_,rfl,by omega,by omega,by omega,q4,fun i h1 h2=>?_⟩
     cases e:B i with
     | false=>rfl
     | true =>
      by_cases y:i=l+(r- l)/ 2
      ·rw[y]at e;rw[e]at hm;exact hm
      ·rw[mono _ i (by omega) h2 e]at hm;exact hm
 refine Aw (ask hint _ hh ?_)
 cases hr:B hint with
 | true =>
  dsimp only
  rw[if_pos rfl]
  refine Aw (D6 (Bz (I:=fun x c st'=>st'=st/\∃la o,c=(none,la,o)/\la< o/\x< o/\hint+la< n/\B (hint+la)=true) (Q:=fun c st'=>st'=st/\∃la o,c=(none,la,o)/\la< o/\hint+la< n/\B (hint+la)=true/\(o≥n- hint\/(hint+o< n/\B (hint+o)=false))) ?step ?fin ?init) ?post)
  case init=>exact⟨rfl,0,1,rfl,by omega,by omega,by omega,by simpa using hr⟩
  case fin=>
   rintro c st' ⟨rfl,la,o,rfl,q1,q2,q3,q4⟩
   exact⟨rfl,la,o,rfl,q1,q3,q4,.inl (by omega)⟩
  case step=>
   rintro x c st' _ hx ⟨rfl,la,o,rfl,q1,q2,q3,q4⟩
   dsimp only
   by_cases z:o≥n- hint
   ·rw[if_pos z]
    exact AB ⟨rfl,la,o,rfl,q1,q3,q4,.inl z⟩
   ·rw[if_neg z]
    refine Aw (ask _ _ (by omega) ?_)
    cases hm:B (hint+o)with
    | true=>exact AB ⟨rfl,o,2*o+1,rfl,by omega,by omega,by omega,hm⟩
    | false=>exact AB ⟨rfl,la,o,rfl,q1,q3,q4,.inr ⟨by omega,hm⟩⟩
  case post=>
   rintro c st' ⟨rfl,la,o,rfl,q1,q3,q4,q5⟩
   dsimp only
   have k1:∀i,i< hint+la+1->B i=true:=fun i hi=>by
    by_cases y:i=hint+la
    ·rw[y];exact q4
    ·exact mono i _ (by omega) q3 q4
   refine fin (hint+la+1) (hint+min o (n- hint)) (by omega) (by omega) k1 (fun i h1 h2=>?_) _ (fun _ _=>rfl)
   rcases q5 with q5 | ⟨q5,q6⟩
   ·omega
   ·cases e:B i with
    | false=>rfl
    | true =>
     by_cases y:i=hint+o
     ·rw[y]at e;rw[e]at q6;exact q6
     ·rw[mono _ i (by omega) h2 e]at q6;exact q6
 | false =>
  dsimp only
  rw[if_neg (by decide)]
  refine Aw (D6 (Bz (I:=fun x c st'=>st'=st/\∃la o,c=(none,la,o)/\la< o/\x< o/\la<=hint/\B (hint- la)=false) (Q:=fun c st'=>st'=st/\∃la o,c=(none,la,o)/\la< o/\la<=hint/\B (hint- la)=false/\(o≥hint+1\/(o<=hint/\B (hint- o)=true))) ?step ?fin ?init) ?post)
  case init=>exact⟨rfl,0,1,rfl,by omega,by omega,by omega,by simpa using hr⟩
  case fin=>
   rintro c st' ⟨rfl,la,o,rfl,q1,q2,q3,q4⟩
   exact⟨rfl,la,o,rfl,q1,q3,q4,.inl (by omega)⟩
  case step=>
   rintro x c st' _ hx ⟨rfl,la,o,rfl,q1,q2,q3,q4⟩
   dsimp only
   by_cases z:o≥hint+1
   ·rw[if_pos z]
    exact AB ⟨rfl,la,o,rfl,q1,q3,q4,.inl z⟩
   ·rw[if_neg z]
    refine Aw (ask _ _ (by omega) ?_)
    cases hm:B (hint- o)with
    | true=>exact AB ⟨rfl,la,o,rfl,q1,q3,q4,.inr ⟨by omega,hm⟩⟩
    | false=>exact AB ⟨rfl,o,2*o+1,rfl,by omega,by omega,by omega,hm⟩
  case post=>
   rintro c st' ⟨rfl,la,o,rfl,q1,q3,q4,q5⟩
   dsimp only
   refine fin (hint+1- min o (hint+1)) (hint- la) (by omega) (by omega) (fun i hi=>?_) (fun i h1 h2=>?_) _ (fun _ _=>rfl)
   ·rcases q5 with q5 | ⟨q5,q6⟩
    ·omega
    ·by_cases y:i=hint- o
     ·rw[y];exact q6
     ·exact mono i _ (by omega) (by omega) q6
   ·cases e:B i with
    | false=>rfl
    | true =>
     by_cases y:i=hint- la
     ·rw[y]at e;rw[e]at q4;exact q4
     ·rw[mono _ i (by omega) h2 e]at q4;exact q4
end
def ext' (xs:Array AD) (a b:Nat):List AD:=(xs.extract a b).toList
theorem da (xs:Array AD) (a b:Nat):ext' xs a b=(xs.toList.drop a).take (b- a):=by unfold ext';rw[Array.toList_extract,List.extract_eq_drop_take]
theorem bL {xs:Array AD} {a b:Nat} (hb:b<=xs.size) {x:AD} :x∈ext' xs a b↔∃i,a<=i/\i< b/\x=at' xs i:=by
 rw[da,DY]
 constructor
 ·rintro ⟨i,hi⟩
  have hlt:i< b- a:=by
   have:=(Az.mp hi).1
   simp at this;omega
  rw[Bn hlt,Bw,AA,d0 (by omega)]at hi
  cases hi
  exact⟨a+i,by omega,by omega,rfl⟩
 ·rintro ⟨i,h1,h2,rfl⟩
  refine⟨i- a,?_⟩
  rw[Bn (by omega),Bw,AA,show a+(i- a)=i by omega,d0 (by omega)]
theorem fB {L:AD->AD->Bool} {xs:Array AD} {a b lo hi:Nat} (h:Sr L xs lo hi) (ha:lo<=a) (hb:b<=hi) (hs:hi<=xs.size):(ext' xs a b).Pairwise (fun x y=>L x y=true):=by
 rw[da,Co]
 intro i j hi' hj hij
 have hj':j< b- a:=by simp at hj;omega
 have e:∀k,k< b- a->(h':k< ((xs.toList.drop a).take (b- a)).length)->((xs.toList.drop a).take (b- a))[k]=at' xs (a+k):=fun k hk h'=>by
  have:=Ar h'
  rw[Bn hk,Bw,AA,d0 (by omega)]at this
  exact(Bl this).symm
 rw[e i (by omega),e j hj']
 exact h _ _ (by omega) (by omega) (by omega)
theorem eJ {xs:Array AD} {a b:Nat} (hb:b< xs.size) (hab:a<=b):ext' xs a (b+1)=ext' xs a b++ [at' xs b]:=by
 rw[da,da,show b+1- a=(b- a)+1 by omega,List.take_succ,Bw,AA,show a+(b- a)=b by omega,d0 hb]
 rfl
theorem d3 {xs:Array AD} {a b c:Nat} (h1:a<=b) (h2:b<=c):ext' xs a c=ext' xs a b++ext' xs b c:=by
 rw[da,da,da,show c- a=(b- a)+(c- b) by omega,List.take_add,Hw,show a+(b- a)=b by omega]
theorem gF (xs:Array AD):ext' xs 0 xs.size=xs.toList:=by rw[da,FX,Nat.sub_zero,<-Ba,List.take_length]
theorem di (xs:Array AD) (a:Nat):ext' xs a a=[]:=by rw[da];simp
structure JL (L:AD->AD->Bool) (a b out:Array AD) (ia ib:Nat):Prop where
 pm:out.toList.Perm (ext' a 0 ia++ext' b 0 ib)
 so:out.toList.Pairwise (fun x y=>L x y=true)
 lo:∀x∈out.toList,(∀i,ia<=i->i< a.size->L x (at' a i)=true)/\∀j,ib<=j->j< b.size->L x (at' b j)=true
section
variable {L:AD->AD->Bool} {a b out:Array AD} {ia ib:Nat}
theorem JL.takeA (J:JL L a b out ia ib) (sa:Sr L a 0 a.size) {k:Nat} (hk:ia+k<=a.size) (h:∀i,ia<=i->i< ia+k->∀j,ib<=j->j< b.size->L (at' a i) (at' b j)=true) {out':Array AD} (ho:out'.toList=out.toList++ext' a ia (ia+k)):JL L a b out' (ia+k) ib:=by
 refine⟨?_,?_,fun x hx=>?_⟩
 ·rw[ho,d3 (xs:=a) (AS ia) (D3 ia k),AM]
  refine(BH _ J.pm).trans ?_
  rw[AM]
  exact BP _ CJ
 ·rw[ho,BX]
  refine⟨J.so,fB sa (AS _) (by omega) (Au _),fun x hx y hy=>?_⟩
  obtain⟨i,h1,h2,rfl⟩:=(bL (by omega)).mp hy
  exact(J.lo x hx).1 i h1 (by omega)
 ·rw[ho]at hx
  rcases Bk.mp hx with hx | hx
  ·exact⟨fun i h1 h2=>(J.lo x hx).1 i (by omega) h2,(J.lo x hx).2⟩
  ·obtain⟨i,h1,h2,rfl⟩:=(bL (by omega)).mp hx
   exact⟨fun i' h3 h4=>sa i i' (by omega) (by omega) h4,h i h1 h2⟩
theorem JL.takeB (J:JL L a b out ia ib) (sb:Sr L b 0 b.size) {k:Nat} (hk:ib+k<=b.size) (h:∀j,ib<=j->j< ib+k->∀i,ia<=i->i< a.size->L (at' b j) (at' a i)=true) {out':Array AD} (ho:out'.toList=out.toList++ext' b ib (ib+k)):JL L a b out' ia (ib+k):=by
 refine⟨?_,?_,fun x hx=>?_⟩
 ·rw[ho,d3 (xs:=b) (AS ib) (D3 ib k),<-AM]
  exact BH _ J.pm
 ·rw[ho,BX]
  refine⟨J.so,fB sb (AS _) (by omega) (Au _),fun x hx y hy=>?_⟩
  obtain⟨i,h1,h2,rfl⟩:=(bL (by omega)).mp hy
  exact(J.lo x hx).2 i h1 (by omega)
 ·rw[ho]at hx
  rcases Bk.mp hx with hx | hx
  ·exact⟨(J.lo x hx).1,fun i h1 h2=>(J.lo x hx).2 i (by omega) h2⟩
  ·obtain⟨i,h1,h2,rfl⟩:=(bL (by omega)).mp hx
   exact⟨h i h1 h2,fun i' h3 h4=>sb i i' (by omega) (by omega) h4⟩
theorem JL.fin (J:JL L a b out ia ib) (sa:Sr L a 0 a.size) (sb:Sr L b 0 b.size) (ha:ia<=a.size) (hb:ib<=b.size) (h:∀j,ib<=j->j< b.size->∀i,ia<=i->i< a.size->L (at' b j) (at' a i)=true) {r:List AD} (hr:r=out.toList++ext' b ib b.size++ext' a ia a.size):
  r.Perm (a.toList++b.toList)/\r.Pairwise (fun x y=>L x y=true):=by
 subst hr
 constructor
 ·have e1:a.toList=ext' a 0 ia++ext' a ia a.size:=by rw[<-d3 (AS _) ha,gF]
  have e2:b.toList=ext' b 0 ib++ext' b ib b.size:=by rw[<-d3 (AS _) hb,gF]
  rw[e1,e2]
  refine(BH _ (BH _ J.pm)).trans ?_
  generalize ext' a 0 ia=p
  generalize ext' a ia a.size=q
  generalize ext' b 0 ib=u
  generalize ext' b ib b.size=v
  rw[AM p,AM p,AM p]
  refine BP _ ?_
  exact CJ
 ·rw[AM,BX,BX]
  refine⟨J.so,⟨fB sb (AS _) (Au _) (Au _),fB sa (AS _) (Au _) (Au _),fun x hx y hy=>?_⟩,fun x hx y hy=>?_⟩
  ·obtain⟨j,h1,h2,rfl⟩:=(bL (Au _)).mp hx
   obtain⟨i,h3,h4,rfl⟩:=(bL (Au _)).mp hy
   exact h j h1 h2 i h3 h4
  ·rcases Bk.mp hy with hy | hy
   ·obtain⟨j,h1,h2,rfl⟩:=(bL (Au _)).mp hy
    exact(J.lo x hx).2 j h1 h2
   ·obtain⟨j,h1,h2,rfl⟩:=(bL (Au _)).mp hy
    exact(J.lo x hx).1 j h1 h2
end
def jk:Array AD->Array AD->StateT C2 Sem (Array AD):=sortPriv% PySem.Builtin.mergeLo
def gG (g:Nat):StateT C2 Sem Unit:=modify fun st=>Dx (kindOf st) (arrOf st) (pendingOf st) g (failedOf st)
theorem mE (a b:Array AD):jk a b=(do
 rule "list.sort.merge-lo"
 let total:=a.size+b.size
 let done (out:Array AD) (ia ib:Nat):=out++a.extract ia a.size++b.extract ib b.size
 let lastOfA (out:Array AD) (ia ib:Nat):=out++b.extract ib b.size++a.extract ia a.size
 let mut out:Array AD:= #[<-elem' b 0]
 let mut ia:=0
 let mut ib:=1
 if ib == b.size then return done out ia ib
 if ia+1 == a.size then return lastOfA out ia ib
 let mut minGallop:=gallopOf (<-get)
 for _ in [0:total]do
  let mut acount:=0
  let mut bcount:=0
  for _ in [0:total]do
   let some bWins <-lt' (<-elem' b ib) (<-elem' a ia) | return done out ia ib
   if bWins then
    out:=out.push (<-elem' b ib);ib:=ib+1;bcount:=bcount+1;acount:=0
    if ib == b.size then return done out ia ib
    if bcount≥minGallop then break
   else
    out:=out.push (<-elem' a ia);ia:=ia+1;acount:=acount+1;bcount:=0
    if ia+1 == a.size then return lastOfA out ia ib
    if acount≥minGallop then break
  rule "list.sort.gallop"
  minGallop:=minGallop+1
  for _ in [0:total]do
   if minGallop> 1 then minGallop:=minGallop- 1
   gG minGallop
   let some k <-dh false (<-elem' b ib) a ia (a.size- ia) 0 | return done out ia ib
   acount:=k
   if k> 0 then
    out:=out++a.extract ia (ia+k);ia:=ia+k
    if ia+1 == a.size then return lastOfA out ia ib
    if ia == a.size then return done out ia ib
   out:=out.push (<-elem' b ib);ib:=ib+1
   if ib == b.size then return done out ia ib
   let some k <-dh true (<-elem' a ia) b ib (b.size- ib) 0 | return done out ia ib
   bcount:=k
   if k> 0 then
    out:=out++b.extract ib (ib+k);ib:=ib+k
    if ib == b.size then return done out ia ib
   out:=out.push (<-elem' a ia);ia:=ia+1
   if ia+1 == a.size then return lastOfA out ia ib
   if acount< 7 && bcount< 7 then break
  minGallop:=minGallop+1
  gG minGallop
 unsupported "internal:list.sort.merge-bound"):=rfl
section
variable {M:Fx} {A:Bo} {E:Am->Ap->Prop} {s:Ap} {κ:Ee} {U:AD->Prop} {L:AD->AD->Bool} {st:C2}
def cj (st st':C2):Prop:=kindOf st'=kindOf st/\arrOf st'=arrOf st/\pendingOf st'=pendingOf st/\failedOf st'=failedOf st
theorem nF (O:LtOk M A E s κ U L) {a b:Array AD} {Q:Array AD->C2->Prop} (kd:kindOf st=κ) (ua:∀i,i< a.size->U (at' a i)) (ub:∀i,i< b.size->U (at' b i)) (na:0< a.size) (nb:0< b.size) (sa:Sr L a 0 a.size) (sb:Sr L b 0 b.size)
  (ne:∀i j,i< a.size->j< b.size->at' a i≠at' b j) (h0:L (at' b 0) (at' a 0)=true) (h1:∀j,j< b.size->L (at' b j) (at' a (a.size- 1))=true)
  (h:∀r st',cj st st'->r.toList.Perm (a.toList++b.toList)->r.toList.Pairwise (fun x y=>L x y=true)->Q r st'):wpS M A E s (jk a b) Q st:=by
 rw[mE]
 refine Aw (Fj (CF ⟨rfl,?_⟩))
 dsimp only
 refine Aw (aX nb ?_)
 have J0:JL L a b #[at' b 0] 0 1:=by
  refine⟨?_,DN _ _,fun x hx=>?_⟩
  ·rw[di,eJ (a:=0) (b:=0) nb (Au _),di];exact .refl _
  ·have:x=at' b 0:=by simpa using hx
   subst this
   refine⟨fun i h2 h3=>?_,fun j h2 h3=>sb 0 j (Au _) (by omega) h3⟩
   by_cases z:i=0
   ·rw[z];exact h0
   ·exact O.tr _ _ _ (ub 0 nb) (ua 0 na) (ua i h3) h0 (sa 0 i (Au _) (by omega) h3)
 have endB:∀(out:Array AD) ia ib st',cj st st'->JL L a b out ia ib->ia<=a.size->ib=b.size->Q (out++a.extract ia a.size++b.extract ib b.size) st':=fun out ia ib st' al J h2 h3=>by
  subst h3
  have:=J.fin sa sb h2 (Au _) (fun j h3 h4=>by omega) (r:=(out++a.extract ia a.size++b.extract b.size b.size).toList) (by
   rw[Bm,Bm]
   show out.toList++ext' a ia a.size++ext' b b.size b.size=_
   rw[di,C1,C1])
  exact h _ st' al this.1 this.2
 have endA:∀(out:Array AD) ia ib st',cj st st'->JL L a b out ia ib->ib<=b.size->ia+1=a.size->Q (out++b.extract ib b.size++a.extract ia a.size) st':=fun out ia ib st' al J h2 h3=>by
  have:=J.fin sa sb (by omega) h2 (fun j h4 h5 i h6 h7=>by
   have:i=a.size- 1:=by omega
   rw[this];exact h1 j h5) (r:=(out++b.extract ib b.size++a.extract ia a.size).toList) (by rw[Bm,Bm];rfl)
  exact h _ st' al this.1 this.2
 have al0:cj st st:=⟨rfl,rfl,rfl,rfl⟩
 by_cases z1:1=b.size
 ·rw[if_pos (by simpa using z1)]
  exact AB (endB _ 0 1 st al0 J0 (AS _) z1)
 rw[if_neg (by simpa using z1)]
 by_cases z2:0+1=a.size
 ·rw[if_pos (by simpa using z2)]
  exact AB (endA _ 0 1 st al0 J0 (by omega) z2)
 rw[if_neg (by simpa using z2)]
 refine Aw (DU ?_)
 refine Aw (D6 (Bz (I:=fun x c st'=>cj st st'/\∃out ia ib g,c=(none,out,ia,ib,g)/\JL L a b out ia ib/\ia+1< a.size/\ib< b.size/\x+1<=ia+ib) (Q:=fun c st'=>cj st st'/\∃r rest,c=(some r,rest)/\Q r st') ?step ?fin ?init) ?post)
 case init=>exact⟨al0,_,_,_,_,rfl,J0,by omega,by omega,by omega⟩
 case fin=>
  rintro c st' ⟨al,out,ia,ib,g,rfl,J,q1,q2,q3⟩
  omega
 case post=>
  rintro c st' ⟨al,r,rest,rfl,hq⟩
  exact AB hq
 case step=>
  rintro x c st1 _ hx ⟨al,out,ia,ib,g,rfl,J,q1,q2,q3⟩
  dsimp only
  refine Aw (D6 (Bz (I:=fun y c st'=>st'=st1/\∃out ia ib ac bc,c=(none,out,ia,ib,ac,bc)/\JL L a b out ia ib/\ia+1< a.size/\ib< b.size/\x+1+y<=ia+ib)
   (Q:=fun c st'=>st'=st1/\((∃r rest,c=(some r,rest)/\Q r st')\/∃out ia ib ac bc,c=(none,out,ia,ib,ac,bc)/\JL L a b out ia ib/\ia+1< a.size/\ib< b.size/\x+2<=ia+ib)) ?step1 ?fin1 ?init1) ?post1)
  case init1=>exact⟨rfl,_,_,_,_,_,rfl,J,q1,q2,by omega⟩
  case fin1=>
   rintro c st' ⟨rfl,out,ia,ib,ac,bc,rfl,J,q1,q2,q3⟩
   exact⟨rfl,.inr ⟨_,_,_,_,_,rfl,J,q1,q2,by omega⟩⟩
  case step1=>
   rintro y c st' _ hy ⟨rfl,out,ia,ib,ac,bc,rfl,J,q1,q2,q3⟩
   dsimp only
   refine Aw (aX q2 (Aw (aX (by omega) (Aw (O.lt _ _ _ _ (ub _ q2) (ua _ (by omega)) (al.1.trans kd) ?_)))))
   cases hw:L (at' b ib) (at' a ia)with
   | true =>
    dsimp only
    rw[if_pos rfl]
    refine Aw (aX q2 ?_)
    have J':JL L a b (out.push (at' b ib)) ia (ib+1):=J.takeB sb (k:=1) (by omega) (fun j h2 h3 i h4 h5=>by
     have:j=ib:=by omega
     subst this
     by_cases z:i=ia
     ·rw[z];exact hw
     ·exact O.tr _ _ _ (ub _ q2) (ua _ (by omega)) (ua _ h5) hw (sa ia i (by omega) (by omega) h5)) (by rw[Cw,eJ q2 (Au _),di];rfl)
    by_cases z:ib+1=b.size
    ·rw[if_pos (by simpa using z)]
     exact AB ⟨rfl,.inl ⟨_,_,rfl,endB _ ia (ib+1) _ al J' (by omega) z⟩⟩
    ·rw[if_neg (by simpa using z)]
     by_cases w:bc+1≥g
     ·rw[if_pos w];exact AB ⟨rfl,.inr ⟨_,_,_,_,_,rfl,J',q1,by omega,by omega⟩⟩
     ·rw[if_neg w];exact AB ⟨rfl,_,_,_,_,_,rfl,J',q1,by omega,by omega⟩
   | false =>
    dsimp only
    rw[if_neg (by decide)]
    refine Aw (aX (by omega) ?_)
    have hw':=O.tot _ _ (ub _ q2) (ua _ (by omega)) (fun e=>ne ia ib (by omega) q2 e.symm) hw
    have J':JL L a b (out.push (at' a ia)) (ia+1) ib:=J.takeA sa (k:=1) (by omega) (fun i h2 h3 j h4 h5=>by
     have:i=ia:=by omega
     subst this
     by_cases z:j=ib
     ·rw[z];exact hw'
     ·exact O.tr _ _ _ (ua _ (by omega)) (ub _ q2) (ub _ h5) hw' (sb ib j (by omega) (by omega) h5)) (by rw[Cw,eJ (by omega) (Au _),di];rfl)
    by_cases z:ia+1+1=a.size
    ·rw[if_pos (by simpa using z)]
     exact AB ⟨rfl,.inl ⟨_,_,rfl,endA _ (ia+1) ib _ al J' (by omega) z⟩⟩
    ·rw[if_neg (by simpa using z)]
     by_cases w:ac+1≥g
     ·rw[if_pos w];exact AB ⟨rfl,.inr ⟨_,_,_,_,_,rfl,J',by omega,by omega,by omega⟩⟩
     ·rw[if_neg w];exact AB ⟨rfl,_,_,_,_,_,rfl,J',by omega,by omega,by omega⟩
  case post1=>
   rintro c st' ⟨rfl,⟨r,rest,rfl,hq⟩ | ⟨out,ia,ib,ac,bc,rfl,J,q1,q2,q3⟩⟩
   ·exact AB ⟨al,_,_,rfl,hq⟩
   dsimp only
   refine Aw (Fj (CF ⟨rfl,?_⟩))
   refine Aw (D6 (Bz (I:=fun y c st'=>cj st st'/\∃out ia ib g ac bc,c=(none,out,ia,ib,g,ac,bc)/\JL L a b out ia ib/\ia+1< a.size/\ib< b.size/\x+2<=ia+ib)
    (Q:=fun c st'=>cj st st'/\((∃r rest,c=(some r,rest)/\Q r st')\/∃out ia ib g ac bc,c=(none,out,ia,ib,g,ac,bc)/\JL L a b out ia ib/\ia+1< a.size/\ib< b.size/\x+2<=ia+ib)) ?step2 ?fin2 ?init2) ?post2)
   case init2=>exact⟨al,_,_,_,_,_,_,rfl,J,q1,q2,q3⟩
   case fin2=>exact fun c st' ⟨al,out,ia,ib,g,ac,bc,e,J,q1,q2,q3⟩=>⟨al,.inr ⟨out,ia,ib,g,ac,bc,e,J,q1,q2,q3⟩⟩
   case post2=>
    rintro c st' ⟨al,⟨r,rest,rfl,hq⟩ | ⟨out,ia,ib,g,ac,bc,rfl,J,q1,q2,q3⟩⟩
    ·exact AB ⟨al,_,_,rfl,hq⟩
    ·dsimp only
     refine Aw (C9 (AB ⟨al,_,_,_,_,rfl,J,q1,q2,by omega⟩))
   case step2=>
    rintro y c st' _ hy ⟨al,out,ia,ib,g,ac,bc,rfl,J,q1,q2,q3⟩
    dsimp only
    let C:=Option (Array AD)×Array AD×Nat×Nat×Nat×Nat×Nat
    let R:ForInStep C->C2->Prop:=fun r st'=>match r with
     | .done c=>cj st st'/\((∃r rest,c=(some r,rest)/\Q r st')\/∃out ia ib g ac bc,c=(none,out,ia,ib,g,ac,bc)/\JL L a b out ia ib/\ia+1< a.size/\ib< b.size/\x+2<=ia+ib)
     | .yield c=>cj st st'/\∃out ia ib g ac bc,c=(none,out,ia,ib,g,ac,bc)/\JL L a b out ia ib/\ia+1< a.size/\ib< b.size/\x+2<=ia+ib
    have pC:∀(out:Array AD) ia ib g k k1 st',cj st st'->JL L a b out ia ib->ia+1< a.size->ib< b.size->x+2<=ia+ib->L (at' a ia) (at' b ib)=true->wpS M A E s (do
      let x <-elem' a ia
      if(ia+1+1 == a.size)=true then pure (AW (some (out.push x++b.extract ib b.size++a.extract (ia+1) a.size),out.push x,ia+1,ib,g,k,k1))
      else if(decide (k< 7) && decide (k1< 7))=true then pure (AW (none,out.push x,ia+1,ib,g,k,k1))
      else pure (B9 (none,out.push x,ia+1,ib,g,k,k1))) R st':=by
     intro out ia ib g k k1 st' al J q1 q2 q3 hab
     refine Aw (aX (by omega) ?_)
     have J':JL L a b (out.push (at' a ia)) (ia+1) ib:=J.takeA sa (k:=1) (by omega) (fun i h2 h3 j h4 h5=>by
      have:i=ia:=by omega
      subst this
      by_cases z:j=ib
      ·rw[z];exact hab
      ·exact O.tr _ _ _ (ua _ (by omega)) (ub _ q2) (ub _ h5) hab (sb ib j (by omega) (by omega) h5)) (by rw[Cw,eJ (by omega) (Au _),di];rfl)
     by_cases z:ia+1+1=a.size
     ·rw[if_pos (by simpa using z)]
      exact AB ⟨al,.inl ⟨_,_,rfl,endA _ (ia+1) ib _ al J' (by omega) z⟩⟩
     ·rw[if_neg (by simpa using z)]
      by_cases w:(decide (k< 7) && decide (k1< 7))=true
      ·rw[if_pos w];exact AB ⟨al,.inr ⟨_,_,_,_,_,_,rfl,J',by omega,by omega,by omega⟩⟩
      ·rw[if_neg w];exact AB ⟨al,_,_,_,_,_,_,rfl,J',by omega,by omega,by omega⟩
    have pB:∀(out:Array AD) ia ib g k bc st',cj st st'->JL L a b out ia ib->ia+1< a.size->ib< b.size->x+2<=ia+ib->L (at' b ib) (at' a ia)=true->wpS M A E s (do
      let x <-elem' b ib
      if(ib+1 == b.size)=true then pure (AW (some (out.push x++a.extract ia a.size++b.extract (ib+1) b.size),out.push x,ia,ib+1,g,k,bc))
      else
       let y <-elem' a ia
       let some k1 <-dh true y b (ib+1) (b.size- (ib+1)) 0 | pure (AW (some (out.push x++a.extract ia a.size++b.extract (ib+1) b.size),out.push x,ia,ib+1,g,k,bc))
       if k1> 0 then
        if(ib+1+k1 == b.size)=true then pure (AW (some (out.push x++b.extract (ib+1) (ib+1+k1)++a.extract ia a.size++b.extract (ib+1+k1) b.size),out.push x++b.extract (ib+1) (ib+1+k1),ia,ib+1+k1,g,k,k1))
        else
         let z <-elem' a ia
         if(ia+1+1 == a.size)=true then pure (AW (some ((out.push x++b.extract (ib+1) (ib+1+k1)).push z++b.extract (ib+1+k1) b.size++a.extract (ia+1) a.size),(out.push x++b.extract (ib+1) (ib+1+k1)).push z,ia+1,ib+1+k1,g,k,k1))
         else if(decide (k< 7) && decide (k1< 7))=true then pure (AW (none,(out.push x++b.extract (ib+1) (ib+1+k1)).push z,ia+1,ib+1+k1,g,k,k1))
         else pure (B9 (none,(out.push x++b.extract (ib+1) (ib+1+k1)).push z,ia+1,ib+1+k1,g,k,k1))
       else
        let z <-elem' a ia
        if(ia+1+1 == a.size)=true then pure (AW (some ((out.push x).push z++b.extract (ib+1) b.size++a.extract (ia+1) a.size),(out.push x).push z,ia+1,ib+1,g,k,k1))
        else if(decide (k< 7) && decide (k1< 7))=true then pure (AW (none,(out.push x).push z,ia+1,ib+1,g,k,k1))
        else pure (B9 (none,(out.push x).push z,ia+1,ib+1,g,k,k1))) R st':=by
     intro out ia ib g k bc st' al J q1 q2 q3 hba
     refine Aw (aX q2 ?_)
     have J':JL L a b (out.push (at' b ib)) ia (ib+1):=J.takeB sb (k:=1) (by omega) (fun j h2 h3 i h4 h5=>by
      have:j=ib:=by omega
      subst this
      by_cases z:i=ia
      ·rw[z];exact hba
      ·exact O.tr _ _ _ (ub _ q2) (ua _ (by omega)) (ua _ h5) hba (sa ia i (by omega) (by omega) h5)) (by rw[Cw,eJ q2 (Au _),di];rfl)
     by_cases z:ib+1=b.size
     ·rw[if_pos (by simpa using z)]
      exact AB ⟨al,.inl ⟨_,_,rfl,endB _ ia (ib+1) _ al J' (by omega) z⟩⟩
     rw[if_neg (by simpa using z)]
     refine Aw (aX (by omega) (Aw (cT O (ua _ (by omega)) (fun i hi=>ub _ (by omega)) (by omega) (by omega) (al.1.trans kd) (fun i j hij hj hB=>?_) fun k1 hk1 hB=>?_)))
     ·show L (at' b (ib+1+i)) (at' a ia)=true
      exact O.tr _ _ _ (ub _ (by omega)) (ub _ (by omega)) (ua _ (by omega)) (sb (ib+1+i) (ib+1+j) (by omega) (by omega) (by omega)) hB
     have hB':∀i,i< b.size- (ib+1)->(L (at' b (ib+1+i)) (at' a ia)=true↔i< k1):=hB
     dsimp only
     have J2:JL L a b (out.push (at' b ib)++b.extract (ib+1) (ib+1+k1)) ia (ib+1+k1):=J'.takeB sb (by omega) (fun j h2 h3 i h4 h5=>by
      have e:=(hB' (j- (ib+1)) (by omega)).mpr (by omega)
      rw[show ib+1+(j- (ib+1))=j by omega]at e
      by_cases w:i=ia
      ·rw[w];exact e
      ·exact O.tr _ _ _ (ub _ (by omega)) (ua _ (by omega)) (ua _ h5) e (sa ia i (by omega) (by omega) h5)) (by rw[Bm];rfl)
     have ab:ib+1+k1< b.size->L (at' a ia) (at' b (ib+1+k1))=true:=fun hlt=>by
      refine O.tot _ _ (ub _ hlt) (ua _ (by omega)) (fun e=>ne ia _ (by omega) hlt e.symm) ?_
      cases e:L (at' b (ib+1+k1)) (at' a ia)with
      | false=>rfl
      | true=>exact absurd ((hB' k1 (by omega)).mp e) (by omega)
     by_cases w:k1> 0
     ·rw[if_pos w]
      by_cases v:ib+1+k1=b.size
      ·rw[if_pos (by simpa using v)]
       exact AB ⟨al,.inl ⟨_,_,rfl,endB _ ia (ib+1+k1) _ al J2 (by omega) v⟩⟩
      ·rw[if_neg (by simpa using v)]
       exact pC _ _ _ _ _ _ _ al J2 q1 (by omega) (by omega) (ab (by omega))
     ·rw[if_neg w]
      have:k1=0:=by omega
      subst this
      exact pC _ _ _ _ _ _ _ al J' q1 (by omega) (by omega) (ab (by omega))
    by_cases w:g> 1
    ·rw[if_pos w]
     refine Aw (C9 (Aw (aX q2 (Aw (cT O (ub _ q2) (fun i hi=>ua _ (by omega)) (by omega) (by omega) (al.1.trans kd) (fun i j hij hj hB=>?_) fun k hk hB=>?_)))))
     ·have hB':(!L (at' b ib) (at' a (ia+j)))=true:=hB
      show(!L (at' b ib) (at' a (ia+i)))=true
      cases e:L (at' b ib) (at' a (ia+i))with
      | false=>rfl
      | true =>
       rw[O.tr _ _ _ (ub _ q2) (ua _ (by omega)) (ua _ (by omega)) e (sa (ia+i) (ia+j) (by omega) (by omega) (by omega))]at hB'
       exact hB'
     have hB':∀i,i< a.size- ia->((!L (at' b ib) (at' a (ia+i)))=true↔i< k):=hB
     have hk1:ia+k+1<=a.size:=by
      by_cases v:a.size- 1- ia< k
      ·have e:=(hB' (a.size- 1- ia) (by omega)).mpr v
       rw[show ia+(a.size- 1- ia)=a.size- 1 by omega,h1 ib q2]at e
       cases e
      ·omega
     dsimp only
     have J1:JL L a b (out++a.extract ia (ia+k)) (ia+k) ib:=J.takeA sa (by omega) (fun i h2 h3 j h4 h5=>by
      have e:=(hB' (i- ia) (by omega)).mpr (by omega)
      rw[show ia+(i- ia)=i by omega]at e
      have e2:=O.tot _ _ (ub _ q2) (ua _ (by omega)) (fun e=>ne i ib (by omega) q2 e.symm) (by simpa using e)
      by_cases v:j=ib
      ·rw[v];exact e2
      ·exact O.tr _ _ _ (ua _ (by omega)) (ub _ q2) (ub _ h5) e2 (sb ib j (by omega) (by omega) h5)) (by rw[Bm];rfl)
     have hba:L (at' b ib) (at' a (ia+k))=true:=by
      cases e:L (at' b ib) (at' a (ia+k))with
      | true=>rfl
      | false=>exact absurd ((hB' k (by omega)).mp (by rw[e];rfl)) (by omega)
     by_cases v:k> 0
     ·rw[if_pos v]
      by_cases u:ia+k+1=a.size
      ·rw[if_pos (by simpa using u)]
       exact AB ⟨al,.inl ⟨_,_,rfl,endA _ (ia+k) ib _ al J1 (by omega) u⟩⟩
      ·rw[if_neg (by simpa using u),if_neg (by simp;omega)]
       exact pB _ _ _ _ _ _ _ al J1 (by omega) q2 (by omega) hba
     ·rw[if_neg v]
      have:k=0:=by omega
      subst this
      exact pB _ _ _ _ _ _ _ al J q1 q2 (by omega) hba
    ·rw[if_neg w]
     refine Aw (C9 (Aw (aX q2 (Aw (cT O (ub _ q2) (fun i hi=>ua _ (by omega)) (by omega) (by omega) (al.1.trans kd) (fun i j hij hj hB=>?_) fun k hk hB=>?_)))))
     ·have hB':(!L (at' b ib) (at' a (ia+j)))=true:=hB
      show(!L (at' b ib) (at' a (ia+i)))=true
      cases e:L (at' b ib) (at' a (ia+i))with
      | false=>rfl
      | true =>
       rw[O.tr _ _ _ (ub _ q2) (ua _ (by omega)) (ua _ (by omega)) e (sa (ia+i) (ia+j) (by omega) (by omega) (by omega))]at hB'
       exact hB'
     have hB':∀i,i< a.size- ia->((!L (at' b ib) (at' a (ia+i)))=true↔i< k):=hB
     have hk1:ia+k+1<=a.size:=by
      by_cases v:a.size- 1- ia< k
      ·have e:=(hB' (a.size- 1- ia) (by omega)).mpr v
       rw[show ia+(a.size- 1- ia)=a.size- 1 by omega,h1 ib q2]at e
       cases e
      ·omega
     dsimp only
     have J1:JL L a b (out++a.extract ia (ia+k)) (ia+k) ib:=J.takeA sa (by omega) (fun i h2 h3 j h4 h5=>by
      have e:=(hB' (i- ia) (by omega)).mpr (by omega)
      rw[show ia+(i- ia)=i by omega]at e
      have e2:=O.tot _ _ (ub _ q2) (ua _ (by omega)) (fun e=>ne i ib (by omega) q2 e.symm) (by simpa using e)
      by_cases v:j=ib
      ·rw[v];exact e2
      ·exact O.tr _ _ _ (ua _ (by omega)) (ub _ q2) (ub _ h5) e2 (sb ib j (by omega) (by omega) h5)) (by rw[Bm];rfl)
     have hba:L (at' b ib) (at' a (ia+k))=true:=by
      cases e:L (at' b ib) (at' a (ia+k))with
      | true=>rfl
      | false=>exact absurd ((hB' k (by omega)).mp (by rw[e];rfl)) (by omega)
     by_cases v:k> 0
     ·rw[if_pos v]
      by_cases u:ia+k+1=a.size
      ·rw[if_pos (by simpa using u)]
       exact AB ⟨al,.inl ⟨_,_,rfl,endA _ (ia+k) ib _ al J1 (by omega) u⟩⟩
      ·rw[if_neg (by simpa using u),if_neg (by simp;omega)]
       exact pB _ _ _ _ _ _ _ al J1 (by omega) q2 (by omega) hba
     ·rw[if_neg v]
      have:k=0:=by omega
      subst this
      exact pB _ _ _ _ _ _ _ al J q1 q2 (by omega) hba
end
def jm:Array AD->Array AD->StateT C2 Sem (Array AD):=sortPriv% PySem.Builtin.mergeHi
theorem mF (a b:Array AD):jm a b=(do
 rule "list.sort.merge-hi"
 let total:=a.size+b.size
 let done (out:Array AD) (na nb:Nat):=a.extract 0 na++b.extract 0 nb++out.reverse
 let firstOfB (out:Array AD) (na nb:Nat):=b.extract 0 nb++a.extract 0 na++out.reverse
 let mut na:=a.size- 1
 let mut nb:=b.size
 let mut out:Array AD:= #[<-elem' a na]
 if na == 0 then return done out na nb
 if nb == 1 then return firstOfB out na nb
 let mut minGallop:=gallopOf (<-get)
 for _ in [0:total]do
  let mut acount:=0
  let mut bcount:=0
  for _ in [0:total]do
   let some aWins <-lt' (<-elem' b (nb- 1)) (<-elem' a (na- 1)) | return done out na nb
   if aWins then
    na:=na- 1;out:=out.push (<-elem' a na);acount:=acount+1;bcount:=0
    if na == 0 then return done out na nb
    if acount≥minGallop then break
   else
    nb:=nb- 1;out:=out.push (<-elem' b nb);bcount:=bcount+1;acount:=0
    if nb == 1 then return firstOfB out na nb
    if bcount≥minGallop then break
  rule "list.sort.gallop"
  minGallop:=minGallop+1
  for _ in [0:total]do
   if minGallop> 1 then minGallop:=minGallop- 1
   gG minGallop
   let some at_ <-dh false (<-elem' b (nb- 1)) a 0 na (na- 1) | return done out na nb
   let k:=na- at_
   acount:=k
   if k> 0 then
    out:=out++(a.extract at_ na).reverse;na:=at_
    if na == 0 then return done out na nb
   nb:=nb- 1;out:=out.push (<-elem' b nb)
   if nb == 1 then return firstOfB out na nb
   let some at_ <-dh true (<-elem' a (na- 1)) b 0 nb (nb- 1) | return done out na nb
   let k:=nb- at_
   bcount:=k
   if k> 0 then
    out:=out++(b.extract at_ nb).reverse;nb:=at_
    if nb == 1 then return firstOfB out na nb
    if nb == 0 then return done out na nb
   na:=na- 1;out:=out.push (<-elem' a na)
   if na == 0 then return done out na nb
   if acount< 7 && bcount< 7 then break
  minGallop:=minGallop+1
  gG minGallop
 unsupported "internal:list.sort.merge-bound"):=rfl
structure JH (L:AD->AD->Bool) (a b out:Array AD) (na nb:Nat):Prop where
 pm:out.toList.reverse.Perm (ext' a na a.size++ext' b nb b.size)
 so:out.toList.reverse.Pairwise (fun x y=>L x y=true)
 hi:∀x∈out.toList,(∀i,i< na->L (at' a i) x=true)/\∀j,j< nb->L (at' b j) x=true
section
variable {L:AD->AD->Bool} {a b out:Array AD} {na nb:Nat}
theorem JH.takeA (J:JH L a b out na nb) (sa:Sr L a 0 a.size) (hn:na<=a.size) {m:Nat} (hm:m<=na) (h:∀i,m<=i->i< na->∀j,j< nb->L (at' b j) (at' a i)=true) {out':Array AD} (ho:out'.toList.reverse=ext' a m na++out.toList.reverse):JH L a b out' m nb:=by
 have mem:∀x,x∈out'.toList↔x∈ext' a m na\/x∈out.toList:=fun x=>by rw[<-Cs,ho,Bk,Cs]
 refine⟨?_,?_,fun x hx=>?_⟩
 ·rw[ho,d3 (xs:=a) hm hn,AM]
  exact BP _ J.pm
 ·rw[ho,BX]
  refine⟨fB sa (AS _) hn (Au _),J.so,fun x hx y hy=>?_⟩
  obtain⟨i,h1,h2,rfl⟩:=(bL hn).mp hx
  exact(J.hi y (Cs.mp hy)).1 i h2
 ·rcases (mem x).mp hx with hx | hx
  ·obtain⟨i,h1,h2,rfl⟩:=(bL hn).mp hx
   exact⟨fun i' h3=>sa i' i (AS _) (by omega) (by omega),h i h1 h2⟩
  ·exact⟨fun i h1=>(J.hi x hx).1 i (by omega),(J.hi x hx).2⟩
theorem JH.takeB (J:JH L a b out na nb) (sb:Sr L b 0 b.size) (hn:nb<=b.size) {m:Nat} (hm:m<=nb) (h:∀j,m<=j->j< nb->∀i,i< na->L (at' a i) (at' b j)=true) {out':Array AD} (ho:out'.toList.reverse=ext' b m nb++out.toList.reverse):JH L a b out' na m:=by
 have mem:∀x,x∈out'.toList↔x∈ext' b m nb\/x∈out.toList:=fun x=>by rw[<-Cs,ho,Bk,Cs]
 refine⟨?_,?_,fun x hx=>?_⟩
 ·rw[ho,d3 (xs:=b) hm hn]
  refine(BP _ J.pm).trans ?_
  rw[<-AM,<-AM]
  exact BH _ CJ
 ·rw[ho,BX]
  refine⟨fB sb (AS _) hn (Au _),J.so,fun x hx y hy=>?_⟩
  obtain⟨i,h1,h2,rfl⟩:=(bL hn).mp hx
  exact(J.hi y (Cs.mp hy)).2 i h2
 ·rcases (mem x).mp hx with hx | hx
  ·obtain⟨i,h1,h2,rfl⟩:=(bL hn).mp hx
   exact⟨h i h1 h2,fun i' h3=>sb i' i (AS _) (by omega) (by omega)⟩
  ·exact⟨(J.hi x hx).1,fun i h1=>(J.hi x hx).2 i (by omega)⟩
theorem JH.fin (J:JH L a b out na nb) (sa:Sr L a 0 a.size) (sb:Sr L b 0 b.size) (ha:na<=a.size) (hb:nb<=b.size) (h:∀j,j< nb->∀i,i< na->L (at' b j) (at' a i)=true) {r:List AD} (hr:r=ext' b 0 nb++ext' a 0 na++out.toList.reverse):
  r.Perm (a.toList++b.toList)/\r.Pairwise (fun x y=>L x y=true):=by
 subst hr
 constructor
 ·have e1:a.toList=ext' a 0 na++ext' a na a.size:=by rw[<-d3 (AS _) ha,gF]
  have e2:b.toList=ext' b 0 nb++ext' b nb b.size:=by rw[<-d3 (AS _) hb,gF]
  rw[e1,e2]
  refine(BP _ J.pm).trans ?_
  generalize ext' a 0 na=p
  generalize ext' a na a.size=q
  generalize ext' b 0 nb=u
  generalize ext' b nb b.size=v
  refine(BH (q++v) (CJ (l₁:=u) (l₂:=p))).trans ?_
  rw[AM,AM]
  refine BP _ ?_
  rw[<-AM,<-AM]
  exact BH _ CJ
 ·rw[AM,BX,BX]
  refine⟨fB sb (AS _) hb (Au _),⟨fB sa (AS _) ha (Au _),J.so,fun x hx y hy=>?_⟩,fun x hx y hy=>?_⟩
  ·obtain⟨i,h1,h2,rfl⟩:=(bL ha).mp hx
   exact(J.hi y (Cs.mp hy)).1 i h2
  ·obtain⟨j,h1,h2,rfl⟩:=(bL hb).mp hx
   rcases Bk.mp hy with hy | hy
   ·obtain⟨i,h3,h4,rfl⟩:=(bL ha).mp hy
    exact h j h2 i h4
   ·exact(J.hi y (Cs.mp hy)).2 j h2
end
section
variable {M:Fx} {A:Bo} {E:Am->Ap->Prop} {s:Ap} {κ:Ee} {U:AD->Prop} {L:AD->AD->Bool} {st:C2}
theorem mG (out:Array AD) (x:AD):(out.push x).toList.reverse=x::out.toList.reverse:=by rw[Cw,G7];rfl
theorem kU (out xs:Array AD):(out++xs.reverse).toList.reverse=xs.toList++out.toList.reverse:=by rw[Bm,G7,Ef,List.reverse_reverse]
theorem kW {xs:Array AD} {i:Nat} (h:0< i) (hi:i<=xs.size):ext' xs (i- 1) i=[at' xs (i- 1)]:=by
 have:=eJ (xs:=xs) (a:=i- 1) (b:=i- 1) (by omega) (Au _)
 rw[show i- 1+1=i by omega,di]at this
 exact this
theorem nG (O:LtOk M A E s κ U L) {a b:Array AD} {Q:Array AD->C2->Prop} (kd:kindOf st=κ) (ua:∀i,i< a.size->U (at' a i)) (ub:∀i,i< b.size->U (at' b i)) (za:0< a.size) (zb:0< b.size) (sa:Sr L a 0 a.size) (sb:Sr L b 0 b.size)
  (ne:∀i j,i< a.size->j< b.size->at' a i≠at' b j) (h0:L (at' b 0) (at' a 0)=true) (h1:∀j,j< b.size->L (at' b j) (at' a (a.size- 1))=true)
  (h:∀r st',cj st st'->r.toList.Perm (a.toList++b.toList)->r.toList.Pairwise (fun x y=>L x y=true)->Q r st'):wpS M A E s (jm a b) Q st:=by
 have b0:∀i,i< a.size->L (at' b 0) (at' a i)=true:=fun i hi=>by
  by_cases z:i=0
  ·rw[z];exact h0
  ·exact O.tr _ _ _ (ub 0 zb) (ua 0 za) (ua i hi) h0 (sa 0 i (Au _) (by omega) hi)
 rw[mF]
 refine Aw (Fj (CF ⟨rfl,?_⟩))
 dsimp only
 refine Aw (aX (by omega) ?_)
 have J0:JH L a b #[at' a (a.size- 1)] (a.size- 1) b.size:=by
  refine⟨?_,DN _ _,fun x hx=>?_⟩
  ·rw[kW za (Au _),di];exact .refl _
  ·have:x=at' a (a.size- 1):=by simpa using hx
   subst this
   exact⟨fun i h2=>sa i _ (AS _) h2 (by omega),fun j h2=>h1 j h2⟩
 have endA:∀(out:Array AD) na nb st',cj st st'->JH L a b out na nb->nb<=b.size->na=0->Q (a.extract 0 na++b.extract 0 nb++out.reverse) st':=fun out na nb st' al J h2 h3=>by
  subst h3
  have:=J.fin sa sb (AS _) h2 (fun j h3 i h4=>by omega) (r:=(a.extract 0 0++b.extract 0 nb++out.reverse).toList) (by
   rw[Bm,Bm,Ef]
   show ext' a 0 0++ext' b 0 nb++out.toList.reverse=_
   rw[di,Dl,C1])
  exact h _ st' al this.1 this.2
 have endB:∀(out:Array AD) na nb st',cj st st'->JH L a b out na nb->na<=a.size->nb=1->Q (b.extract 0 nb++a.extract 0 na++out.reverse) st':=fun out na nb st' al J h2 h3=>by
  have:=J.fin sa sb h2 (by omega) (fun j h4 i h5=>by
   have:j=0:=by omega
   rw[this];exact b0 i (by omega)) (r:=(b.extract 0 nb++a.extract 0 na++out.reverse).toList) (by rw[Bm,Bm,Ef];rfl)
  exact h _ st' al this.1 this.2
 have al0:cj st st:=⟨rfl,rfl,rfl,rfl⟩
 by_cases z1:a.size- 1=0
 ·rw[if_pos (by simpa using z1)]
  exact AB (endA _ _ _ st al0 J0 (Au _) z1)
 rw[if_neg (by simpa using z1)]
 by_cases z2:b.size=1
 ·rw[if_pos (by simpa using z2)]
  exact AB (endB _ _ _ st al0 J0 (by omega) z2)
 rw[if_neg (by simpa using z2)]
 refine Aw (DU ?_)
 refine Aw (D6 (Bz (I:=fun x c st'=>cj st st'/\∃na nb out g,c=(none,na,nb,out,g)/\JH L a b out na nb/\0< na/\1< nb/\na<=a.size/\nb<=b.size/\na+nb+x+1<=a.size+b.size) (Q:=fun c st'=>cj st st'/\∃r rest,c=(some r,rest)/\Q r st') ?step ?fin ?init) ?post)
 case init=>exact⟨al0,_,_,_,_,rfl,J0,by omega,by omega,by omega,by omega,by omega⟩
 case fin=>
  rintro c st' ⟨al,na,nb,out,g,rfl,J,q1,q2,q3,q4,q5⟩
  omega
 case post=>
  rintro c st' ⟨al,r,rest,rfl,hq⟩
  exact AB hq
 case step=>
  rintro x c st1 _ hx ⟨al,na,nb,out,g,rfl,J,q1,q2,q3,q4,q5⟩
  dsimp only
  have ta:∀(out:Array AD) na nb,JH L a b out na nb->0< na->na<=a.size->0< nb->nb<=b.size->L (at' b (nb- 1)) (at' a (na- 1))=true->JH L a b (out.push (at' a (na- 1))) (na- 1) nb:=fun out na nb J q1 q3 q2 q4 hw=>
   J.takeA sa q3 (m:=na- 1) (by omega) (fun i h2 h3 j h4=>by
    have:i=na- 1:=by omega
    subst this
    by_cases z:j=nb- 1
    ·rw[z];exact hw
    ·exact O.tr _ _ _ (ub _ (by omega)) (ub _ (by omega)) (ua _ (by omega)) (sb j (nb- 1) (AS _) (by omega) (by omega)) hw) (by rw[mG,kW q1 q3];rfl)
  have tb:∀(out:Array AD) na nb,JH L a b out na nb->0< nb->nb<=b.size->na<=a.size->(∀i,i< na->L (at' a i) (at' b (nb- 1))=true)->JH L a b (out.push (at' b (nb- 1))) na (nb- 1):=fun out na nb J q1 q3 q4 hw=>
   J.takeB sb q3 (m:=nb- 1) (by omega) (fun j h2 h3 i h4=>by
    have:j=nb- 1:=by omega
    subst this
    exact hw i h4) (by rw[mG,kW q1 q3];rfl)
  refine Aw (D6 (Bz (I:=fun y c st'=>st'=st1/\∃na nb out ac bc,c=(none,na,nb,out,ac,bc)/\JH L a b out na nb/\0< na/\1< nb/\na<=a.size/\nb<=b.size/\na+nb+x+y+1<=a.size+b.size)
   (Q:=fun c st'=>st'=st1/\((∃r rest,c=(some r,rest)/\Q r st')\/∃na nb out ac bc,c=(none,na,nb,out,ac,bc)/\JH L a b out na nb/\0< na/\1< nb/\na<=a.size/\nb<=b.size/\na+nb+x+2<=a.size+b.size)) ?step1 ?fin1 ?init1) ?post1)
  case init1=>exact⟨rfl,_,_,_,_,_,rfl,J,q1,q2,q3,q4,by omega⟩
  case fin1=>
   rintro c st' ⟨rfl,na,nb,out,ac,bc,rfl,J,q1,q2,q3,q4,q5⟩
   exact⟨rfl,.inr ⟨_,_,_,_,_,rfl,J,q1,q2,q3,q4,by omega⟩⟩
  case step1=>
   rintro y c st' _ hy ⟨rfl,na,nb,out,ac,bc,rfl,J,q1,q2,q3,q4,q5⟩
   dsimp only
   refine Aw (aX (by omega) (Aw (aX (by omega) (Aw (O.lt _ _ _ _ (ub _ (by omega)) (ua _ (by omega)) (al.1.trans kd) ?_)))))
   cases hw:L (at' b (nb- 1)) (at' a (na- 1))with
   | true =>
    dsimp only
    rw[if_pos rfl]
    refine Aw (aX (by omega) ?_)
    have J':=ta out na nb J q1 q3 (by omega) q4 hw
    by_cases z:na- 1=0
    ·rw[if_pos (by simpa using z)]
     exact AB ⟨rfl,.inl ⟨_,_,rfl,endA _ _ _ _ al J' q4 z⟩⟩
    ·rw[if_neg (by simpa using z)]
     by_cases w:ac+1≥g
     ·rw[if_pos w];exact AB ⟨rfl,.inr ⟨_,_,_,_,_,rfl,J',by omega,q2,by omega,q4,by omega⟩⟩
     ·rw[if_neg w];exact AB ⟨rfl,_,_,_,_,_,rfl,J',by omega,q2,by omega,q4,by omega⟩
   | false =>
    dsimp only
    rw[if_neg (by decide)]
    refine Aw (aX (by omega) ?_)
    have hw':=O.tot _ _ (ub _ (by omega)) (ua _ (by omega)) (fun e=>ne (na- 1) (nb- 1) (by omega) (by omega) e.symm) hw
    have J':=tb out na nb J (by omega) q4 q3 (fun i hi=>by
     by_cases z:i=na- 1
     ·rw[z];exact hw'
     ·exact O.tr _ _ _ (ua _ (by omega)) (ua _ (by omega)) (ub _ (by omega)) (sa i (na- 1) (AS _) (by omega) (by omega)) hw')
    by_cases z:nb- 1=1
    ·rw[if_pos (by simpa using z)]
     exact AB ⟨rfl,.inl ⟨_,_,rfl,endB _ _ _ _ al J' q3 z⟩⟩
    ·rw[if_neg (by simpa using z)]
     by_cases w:bc+1≥g
     ·rw[if_pos w];exact AB ⟨rfl,.inr ⟨_,_,_,_,_,rfl,J',q1,by omega,q3,by omega,by omega⟩⟩
     ·rw[if_neg w];exact AB ⟨rfl,_,_,_,_,_,rfl,J',q1,by omega,q3,by omega,by omega⟩
  case post1=>
   rintro c st' ⟨rfl,⟨r,rest,rfl,hq⟩ | ⟨na,nb,out,ac,bc,rfl,J,q1,q2,q3,q4,q5⟩⟩
   ·exact AB ⟨al,_,_,rfl,hq⟩
   dsimp only
   refine Aw (Fj (CF ⟨rfl,?_⟩))
   refine Aw (D6 (Bz (I:=fun y c st'=>cj st st'/\∃na nb out g ac bc,c=(none,na,nb,out,g,ac,bc)/\JH L a b out na nb/\0< na/\1< nb/\na<=a.size/\nb<=b.size/\na+nb+x+2<=a.size+b.size)
    (Q:=fun c st'=>cj st st'/\((∃r rest,c=(some r,rest)/\Q r st')\/∃na nb out g ac bc,c=(none,na,nb,out,g,ac,bc)/\JH L a b out na nb/\0< na/\1< nb/\na<=a.size/\nb<=b.size/\na+nb+x+2<=a.size+b.size)) ?step2 ?fin2 ?init2) ?post2)
   case init2=>exact⟨al,_,_,_,_,_,_,rfl,J,q1,q2,q3,q4,q5⟩
   case fin2=>exact fun c st' ⟨al,na,nb,out,g,ac,bc,e,J,q⟩=>⟨al,.inr ⟨na,nb,out,g,ac,bc,e,J,q⟩⟩
   case post2=>
    rintro c st' ⟨al,⟨r,rest,rfl,hq⟩ | ⟨na,nb,out,g,ac,bc,rfl,J,q1,q2,q3,q4,q5⟩⟩
    ·exact AB ⟨al,_,_,rfl,hq⟩
    ·dsimp only
     refine Aw (C9 (AB ⟨al,_,_,_,_,rfl,J,q1,q2,q3,q4,by omega⟩))
   case step2=>
    rintro y c st' _ hy ⟨al,na,nb,out,g,ac,bc,rfl,J,q1,q2,q3,q4,q5⟩
    dsimp only
    let C:=Option (Array AD)×Nat×Nat×Array AD×Nat×Nat×Nat
    let R:ForInStep C->C2->Prop:=fun r st'=>match r with
     | .done c=>cj st st'/\((∃r rest,c=(some r,rest)/\Q r st')\/∃na nb out g ac bc,c=(none,na,nb,out,g,ac,bc)/\JH L a b out na nb/\0< na/\1< nb/\na<=a.size/\nb<=b.size/\na+nb+x+2<=a.size+b.size)
     | .yield c=>cj st st'/\∃na nb out g ac bc,c=(none,na,nb,out,g,ac,bc)/\JH L a b out na nb/\0< na/\1< nb/\na<=a.size/\nb<=b.size/\na+nb+x+2<=a.size+b.size
    have pC:∀(out:Array AD) na nb g k k1 st',cj st st'->JH L a b out na nb->0< na->1< nb->na<=a.size->nb<=b.size->na+nb+x+2<=a.size+b.size->L (at' b (nb- 1)) (at' a (na- 1))=true->wpS M A E s (do
      let x <-elem' a (na- 1)
      if(na- 1 == 0)=true then pure (AW (some (a.extract 0 (na- 1)++b.extract 0 nb++(out.push x).reverse),na- 1,nb,out.push x,g,k,k1))
      else if(decide (k< 7) && decide (k1< 7))=true then pure (AW (none,na- 1,nb,out.push x,g,k,k1))
      else pure (B9 (none,na- 1,nb,out.push x,g,k,k1))) R st':=by
     intro out na nb g k k1 st' al J q1 q2 q3 q4 q5 hba
     refine Aw (aX (by omega) ?_)
     have J':=ta out na nb J q1 q3 (by omega) q4 hba
     by_cases z:na- 1=0
     ·rw[if_pos (by simpa using z)]
      exact AB ⟨al,.inl ⟨_,_,rfl,endA _ _ _ _ al J' q4 z⟩⟩
     ·rw[if_neg (by simpa using z)]
      by_cases w:(decide (k< 7) && decide (k1< 7))=true
      ·rw[if_pos w];exact AB ⟨al,.inr ⟨_,_,_,_,_,_,rfl,J',by omega,q2,by omega,q4,by omega⟩⟩
      ·rw[if_neg w];exact AB ⟨al,_,_,_,_,_,_,rfl,J',by omega,q2,by omega,q4,by omega⟩
    have pB:∀(out:Array AD) na nb g k bc st',cj st st'->JH L a b out na nb->0< na->1< nb->na<=a.size->nb<=b.size->na+nb+x+2<=a.size+b.size->(∀i,i< na->L (at' a i) (at' b (nb- 1))=true)->wpS M A E s (do
      let x <-elem' b (nb- 1)
      if(nb- 1 == 1)=true then pure (AW (some (b.extract 0 (nb- 1)++a.extract 0 na++(out.push x).reverse),na,nb- 1,out.push x,g,k,bc))
      else
       let y <-elem' a (na- 1)
       let some m <-dh true y b 0 (nb- 1) (nb- 1- 1) | pure (AW (some (a.extract 0 na++b.extract 0 (nb- 1)++(out.push x).reverse),na,nb- 1,out.push x,g,k,bc))
       if nb- 1- m> 0 then
        if(m == 1)=true then pure (AW (some (b.extract 0 m++a.extract 0 na++(out.push x++(b.extract m (nb- 1)).reverse).reverse),na,m,out.push x++(b.extract m (nb- 1)).reverse,g,k,nb- 1- m))
        else if(m == 0)=true then pure (AW (some (a.extract 0 na++b.extract 0 m++(out.push x++(b.extract m (nb- 1)).reverse).reverse),na,m,out.push x++(b.extract m (nb- 1)).reverse,g,k,nb- 1- m))
        else
         let z <-elem' a (na- 1)
         if(na- 1 == 0)=true then pure (AW (some (a.extract 0 (na- 1)++b.extract 0 m++((out.push x++(b.extract m (nb- 1)).reverse).push z).reverse),na- 1,m,(out.push x++(b.extract m (nb- 1)).reverse).push z,g,k,nb- 1- m))
         else if(decide (k< 7) && decide (nb- 1- m< 7))=true then pure (AW (none,na- 1,m,(out.push x++(b.extract m (nb- 1)).reverse).push z,g,k,nb- 1- m))
         else pure (B9 (none,na- 1,m,(out.push x++(b.extract m (nb- 1)).reverse).push z,g,k,nb- 1- m))
       else
        let z <-elem' a (na- 1)
        if(na- 1 == 0)=true then pure (AW (some (a.extract 0 (na- 1)++b.extract 0 (nb- 1)++((out.push x).push z).reverse),na- 1,nb- 1,(out.push x).push z,g,k,nb- 1- m))
        else if(decide (k< 7) && decide (nb- 1- m< 7))=true then pure (AW (none,na- 1,nb- 1,(out.push x).push z,g,k,nb- 1- m))
        else pure (B9 (none,na- 1,nb- 1,(out.push x).push z,g,k,nb- 1- m))) R st':=by
     intro out na nb g k bc st' al J q1 q2 q3 q4 q5 hab
     refine Aw (aX (by omega) ?_)
     have J':=tb out na nb J (by omega) q4 q3 hab
     by_cases z:nb- 1=1
     ·rw[if_pos (by simpa using z)]
      exact AB ⟨al,.inl ⟨_,_,rfl,endB _ _ _ _ al J' q3 z⟩⟩
     rw[if_neg (by simpa using z)]
     refine Aw (aX (by omega) (Aw (cT O (ua _ (by omega)) (fun i hi=>ub _ (by omega)) (by omega) (by omega) (al.1.trans kd) (fun i j hij hj hB=>?_) fun m hm hB=>?_)))
     ·have hB':L (at' b (0+j)) (at' a (na- 1))=true:=hB
      show L (at' b (0+i)) (at' a (na- 1))=true
      rw[CO]at hB' ⊢
      exact O.tr _ _ _ (ub _ (by omega)) (ub _ (by omega)) (ua _ (by omega)) (sb i j (AS _) hij (by omega)) hB'
     have hB':∀i,i< nb- 1->(L (at' b i) (at' a (na- 1))=true↔i< m):=fun i hi=>by
      have e:L (at' b (0+i)) (at' a (na- 1))=true↔i< m:=hB i hi
      rwa [CO]at e
     have m1:1<=m:=(hB' 0 (by omega)).mp (b0 _ (by omega))
     dsimp only
     have J2:JH L a b (out.push (at' b (nb- 1))++(b.extract m (nb- 1)).reverse) na m:=J'.takeB sb (by omega) hm (fun j h2 h3 i h4=>by
      have e:L (at' b j) (at' a (na- 1))=false:=by
       cases e:L (at' b j) (at' a (na- 1))with
       | false=>rfl
       | true=>exact absurd ((hB' j h3).mp e) (by omega)
      have e2:=O.tot _ _ (ub _ (by omega)) (ua _ (by omega)) (fun e=>ne (na- 1) j (by omega) (by omega) e.symm) e
      by_cases w:i=na- 1
      ·rw[w];exact e2
      ·exact O.tr _ _ _ (ua _ (by omega)) (ua _ (by omega)) (ub _ (by omega)) (sa i (na- 1) (AS _) (by omega) (by omega)) e2) (by rw[kU];rfl)
     have ba:L (at' b (m- 1)) (at' a (na- 1))=true:=(hB' (m- 1) (by omega)).mpr (by omega)
     by_cases w:nb- 1- m> 0
     ·rw[if_pos w]
      by_cases v:m=1
      ·rw[if_pos (by simpa using v)]
       exact AB ⟨al,.inl ⟨_,_,rfl,endB _ _ _ _ al J2 q3 v⟩⟩
      ·rw[if_neg (by simpa using v),if_neg (by simp;omega)]
       exact pC _ _ _ _ _ _ _ al J2 q1 (by omega) q3 (by omega) (by omega) ba
     ·rw[if_neg w]
      have:m=nb- 1:=by omega
      subst this
      exact pC _ _ _ _ _ _ _ al J' q1 (by omega) q3 (by omega) (by omega) ba
    by_cases w:g> 1
    ·rw[if_pos w]
     refine Aw (C9 (Aw (aX (by omega) (Aw (cT O (ub _ (by omega)) (fun i hi=>ua _ (by omega)) (by omega) (by omega) (al.1.trans kd) (fun i j hij hj hB=>?_) fun m hm hB=>?_)))))
     ·have hB':(!L (at' b (nb- 1)) (at' a (0+j)))=true:=hB
      show(!L (at' b (nb- 1)) (at' a (0+i)))=true
      rw[CO]at hB' ⊢
      cases e:L (at' b (nb- 1)) (at' a i)with
      | false=>rfl
      | true =>
       rw[O.tr _ _ _ (ub _ (by omega)) (ua _ (by omega)) (ua _ (by omega)) e (sa i j (AS _) hij (by omega))]at hB'
       exact hB'
     have hB':∀i,i< na->((!L (at' b (nb- 1)) (at' a i))=true↔i< m):=fun i hi=>by
      have e:(!L (at' b (nb- 1)) (at' a (0+i)))=true↔i< m:=hB i hi
      rwa [CO]at e
     dsimp only
     have J1:JH L a b (out++(a.extract m na).reverse) m nb:=J.takeA sa q3 hm (fun i h2 h3 j h4=>by
      have e:L (at' b (nb- 1)) (at' a i)=true:=by
       cases e:L (at' b (nb- 1)) (at' a i)with
       | true=>rfl
       | false=>exact absurd ((hB' i h3).mp (by rw[e];rfl)) (by omega)
      by_cases v:j=nb- 1
      ·rw[v];exact e
      ·exact O.tr _ _ _ (ub _ (by omega)) (ub _ (by omega)) (ua _ (by omega)) (sb j (nb- 1) (AS _) (by omega) (by omega)) e) (by rw[kU];rfl)
     have hab:∀i,i< m->L (at' a i) (at' b (nb- 1))=true:=fun i hi=>by
      have e:=(hB' i (by omega)).mpr hi
      exact O.tot _ _ (ub _ (by omega)) (ua _ (by omega)) (fun e=>ne i (nb- 1) (by omega) (by omega) e.symm) (by simpa using e)
     by_cases v:na- m> 0
     ·rw[if_pos v]
      by_cases u:m=0
      ·rw[if_pos (by simpa using u)]
       exact AB ⟨al,.inl ⟨_,_,rfl,endA _ _ _ _ al J1 q4 u⟩⟩
      ·rw[if_neg (by simpa using u)]
       exact pB _ _ _ _ _ _ _ al J1 (by omega) q2 (by omega) q4 (by omega) hab
     ·rw[if_neg v]
      have:m=na:=by omega
      subst this
      exact pB _ _ _ _ _ _ _ al J q1 q2 q3 q4 (by omega) hab
    ·rw[if_neg w]
     refine Aw (C9 (Aw (aX (by omega) (Aw (cT O (ub _ (by omega)) (fun i hi=>ua _ (by omega)) (by omega) (by omega) (al.1.trans kd) (fun i j hij hj hB=>?_) fun m hm hB=>?_)))))
     ·have hB':(!L (at' b (nb- 1)) (at' a (0+j)))=true:=hB
      show(!L (at' b (nb- 1)) (at' a (0+i)))=true
      rw[CO]at hB' ⊢
      cases e:L (at' b (nb- 1)) (at' a i)with
      | false=>rfl
      | true =>
       rw[O.tr _ _ _ (ub _ (by omega)) (ua _ (by omega)) (ua _ (by omega)) e (sa i j (AS _) hij (by omega))]at hB'
       exact hB'
     have hB':∀i,i< na->((!L (at' b (nb- 1)) (at' a i))=true↔i< m):=fun i hi=>by
      have e:(!L (at' b (nb- 1)) (at' a (0+i)))=true↔i< m:=hB i hi
      rwa [CO]at e
     dsimp only
     have J1:JH L a b (out++(a.extract m na).reverse) m nb:=J.takeA sa q3 hm (fun i h2 h3 j h4=>by
      have e:L (at' b (nb- 1)) (at' a i)=true:=by
       cases e:L (at' b (nb- 1)) (at' a i)with
       | true=>rfl
       | false=>exact absurd ((hB' i h3).mp (by rw[e];rfl)) (by omega)
      by_cases v:j=nb- 1
      ·rw[v];exact e
      ·exact O.tr _ _ _ (ub _ (by omega)) (ub _ (by omega)) (ua _ (by omega)) (sb j (nb- 1) (AS _) (by omega) (by omega)) e) (by rw[kU];rfl)
     have hab:∀i,i< m->L (at' a i) (at' b (nb- 1))=true:=fun i hi=>by
      have e:=(hB' i (by omega)).mpr hi
      exact O.tot _ _ (ub _ (by omega)) (ua _ (by omega)) (fun e=>ne i (nb- 1) (by omega) (by omega) e.symm) (by simpa using e)
     by_cases v:na- m> 0
     ·rw[if_pos v]
      by_cases u:m=0
      ·rw[if_pos (by simpa using u)]
       exact AB ⟨al,.inl ⟨_,_,rfl,endA _ _ _ _ al J1 q4 u⟩⟩
      ·rw[if_neg (by simpa using u)]
       exact pB _ _ _ _ _ _ _ al J1 (by omega) q2 (by omega) q4 (by omega) hab
     ·rw[if_neg v]
      have:m=na:=by omega
      subst this
      exact pB _ _ _ _ _ _ _ al J q1 q2 q3 q4 (by omega) hab
end
def fC:Nat->StateT C2 Sem Bool:=sortPriv% PySem.Builtin.mergeAt
def putAt (xs:Array AD) (off:Nat) (m:Array AD):Array AD:=m.toList.zipIdx.foldl (fun a (x:AD×Nat)=>a.setIfInBounds (off+x.2) x.1) xs
theorem mH (i:Nat):fC i=(do
 let s <-get
 let (some (sa,na,power),some (sb,nb,_)):=((pendingOf s)[i]?,(pendingOf s)[i+1]?) | unsupported "internal:list.sort.pending"
 set (Dx (kindOf s) (arrOf s) (((pendingOf s).setIfInBounds i (sa,na+nb,power)).eraseIdxIfInBounds (i+1)) (gallopOf s) (failedOf s))
 let some k <-dh false (<-elem' (arrOf s) sb) (arrOf s) sa na 0 | return false
 let (sa,na):=(sa+k,na- k)
 if na == 0 then return true
 let some nb <-dh true (<-elem' (arrOf s) (sa+na- 1)) (arrOf s) sb nb (nb- 1) | return false
 if nb == 0 then return true
 let x:=(arrOf s).extract sa sb
 let y:=(arrOf s).extract sb (sb+nb)
 let merged <-if na<=nb then jk x y else jm x y
 modify fun s=>setArr s (putAt (arrOf s) sa merged)
 return (failedOf (<-get)).isNone):=rfl
theorem sO:∀(m:List AD) (off j0:Nat) (xs:Array AD),off+j0+m.length<=xs.size->
  ((m.zipIdx j0).foldl (fun a (x:AD×Nat)=>a.setIfInBounds (off+x.2) x.1) xs).size=xs.size/\∀i,at' ((m.zipIdx j0).foldl (fun a (x:AD×Nat)=>a.setIfInBounds (off+x.2) x.1) xs) i=if off+j0<=i/\i< off+j0+m.length then m.getD (i- (off+j0)) (BA,BA)else at' xs i
 | [],off,j0,xs,h=>⟨rfl,fun i=>by rw[if_neg (by simp)];rfl⟩
 | x :: m, off, j0, xs, h => by
  simp only[CD]at h
  have ih:=sO m off (j0+1) (xs.setIfInBounds (off+j0) x) (by rw[F9];omega)
  rw[Fg,Fz]
  refine⟨ih.1.trans (F9 ..),fun i=>?_⟩
  rw[ih.2]
  have e:at' (xs.setIfInBounds (off+j0) x) i=if i=off+j0 then x else at' xs i:=by
   simp only[at',Bj]
   by_cases z:i=off+j0
   ·rw[if_pos z,z,Array.getElem?_setIfInBounds_self_of_lt (by omega)];rfl
   ·rw[if_neg z,Array.getElem?_setIfInBounds_ne (by omega)]
  by_cases z1:off+(j0+1)<=i/\i< off+(j0+1)+m.length
  ·rw[if_pos z1,if_pos (by simp;omega),show i- (off+j0)=(i- (off+(j0+1)))+1 by omega]
   rfl
  ·rw[if_neg z1,e]
   by_cases z2:i=off+j0
   ·rw[if_pos z2,if_pos (by simp;omega),z2,DS];rfl
   ·rw[if_neg z2,if_neg (by simp;omega)]
theorem sP {xs m:Array AD} {off:Nat} (h:off+m.size<=xs.size):(putAt xs off m).size=xs.size/\∀i,at' (putAt xs off m) i=if off<=i/\i< off+m.size then at' m (i- off)else at' xs i:=by
 have:=sO m.toList off 0 xs (by simpa using h)
 refine⟨this.1,fun i=>?_⟩
 have e:=this.2 i
 simp only[Nat.add_zero,Ba]at e
 refine e.trans ?_
 by_cases z:off<=i/\i< off+m.size
 ·rw[if_pos z,if_pos z]
  simp[at',Bj,BD]
 ·rw[if_neg z,if_neg z]
theorem sQ {xs m:Array AD} {off:Nat} (h:off+m.size<=xs.size):(putAt xs off m).toList=ext' xs 0 off++m.toList++ext' xs (off+m.size) xs.size:=by
 obtain⟨hs,ha⟩:=sP h
 apply Cj
 intro i
 have l1:(ext' xs 0 off).length=off:=by rw[da];simp;omega
 by_cases z:i< xs.size
 ·rw[AA,d0 (by omega),ha]
  by_cases z1:i< off
  ·rw[if_neg (by omega),AM,AU (by omega),da,FX,Bn (by omega),AA,d0 z]
  ·by_cases z2:i< off+m.size
   ·rw[if_pos (by omega),AM,AL (by omega),l1,AU (by simpa using (by omega:i- off< m.size)),AA,d0 (by omega)]
   ·rw[if_neg (by omega),AL (by simp[l1];omega),da]
    have:(ext' xs 0 off++m.toList).length=off+m.size:=by simp[l1]
    rw[this,Bn (by omega),Bw,AA,show off+m.size+(i- (off+m.size))=i by omega,d0 z]
 ·have l2:(ext' xs (off+m.size) xs.size).length=xs.size- (off+m.size):=by rw[da];simp
  rw[BO (by simp;omega),BO (by simp[l1,l2];omega)]
theorem sR {xs:Array AD} {a b i:Nat} (hb:b<=xs.size) (hi:i< b- a):at' (xs.extract a b) i=at' xs (a+i):=by
 have h1:i< (xs.extract a b).size:=by simp;omega
 have e:=d0 h1
 rw[Array.getElem?_extract_of_lt (by omega)]at e
 have e2:=d0 (xs:=xs) (i:=a+i) (by omega)
 rw[AK (by omega)]at e2
 exact(Bl e).symm.trans (Bl e2)
theorem sS {xs:Array AD} {a b:Nat} (hb:b<=xs.size):(xs.extract a b).size=b- a:=by simp;omega
section
variable {M:Fx} {A:Bo} {E:Am->Ap->Prop} {s:Ap} {κ:Ee} {U:AD->Prop} {L:AD->AD->Bool} {a0:List AD} {st:C2}
theorem nH (O:LtOk M A E s κ U L) (hU:∀x∈a0,U x) (nd:a0.Nodup) {i sa na sb nb pw pw':Nat} {Q:Bool->C2->Prop} (B:SB κ a0 st) (p1:(pendingOf st)[i]? =some (sa,na,pw)) (p2:(pendingOf st)[i+1]? =some (sb,nb,pw')) (hsb:sb=sa+na) (z1:0< na) (z2:0< nb) (hz:sb+nb<=a0.length)
  (s1:Sr L (arrOf st) sa sb) (s2:Sr L (arrOf st) sb (sb+nb))
  (h:∀st',SB κ a0 st'->pendingOf st'=((pendingOf st).setIfInBounds i (sa,na+nb,pw)).eraseIdxIfInBounds (i+1)->Sr L (arrOf st') sa (sb+nb)->(∀i,i< sa\/sb+nb<=i->at' (arrOf st') i=at' (arrOf st) i)->Q true st'):wpS M A E s (fC i) Q st:=by
 have hs:=B.size
 have uu:∀i,i< a0.length->U (at' (arrOf st) i):=fun i hi=>B.u hU hi
 have nn:∀i j,i< a0.length->j< a0.length->i≠j->at' (arrOf st) i≠at' (arrOf st) j:=fun i j hi hj hij=>B.ne nd hi hj hij
 rw[mH]
 refine Aw (DU ?_)
 rw[p1,p2]
 dsimp only
 refine Aw (C9 (f:=fun _=>Dx (kindOf st) (arrOf st) (((pendingOf st).setIfInBounds i (sa,na+nb,pw)).eraseIdxIfInBounds (i+1)) (gallopOf st) (failedOf st)) ?_)
 have B1:SB κ a0 (Dx (kindOf st) (arrOf st) (((pendingOf st).setIfInBounds i (sa,na+nb,pw)).eraseIdxIfInBounds (i+1)) (gallopOf st) (failedOf st)):=⟨B.kind,B.failed,B.perm⟩
 refine Aw (aX (by omega) (Aw (cT O (uu _ (by omega)) (fun i hi=>uu _ (by omega)) (by omega) z1 B.kind (fun i j hij hj hB=>?_) fun k hk hB=>?_)))
 ·have hB':(!L (at' (arrOf st) sb) (at' (arrOf st) (sa+j)))=true:=hB
  show(!L (at' (arrOf st) sb) (at' (arrOf st) (sa+i)))=true
  cases e:L (at' (arrOf st) sb) (at' (arrOf st) (sa+i))with
  | false=>rfl
  | true =>
   rw[O.tr _ _ _ (uu _ (by omega)) (uu _ (by omega)) (uu _ (by omega)) e (s1 (sa+i) (sa+j) (by omega) (by omega) (by omega))]at hB'
   exact hB'
 have hB':∀i,i< na->((!L (at' (arrOf st) sb) (at' (arrOf st) (sa+i)))=true↔i< k):=hB
 have lo:∀i,sa<=i->i< sa+k->L (at' (arrOf st) i) (at' (arrOf st) sb)=true:=fun i h2 h3=>by
  have e:=(hB' (i- sa) (by omega)).mpr (by omega)
  rw[show sa+(i- sa)=i by omega]at e
  exact O.tot _ _ (uu _ (by omega)) (uu _ (by omega)) (nn _ _ (by omega) (by omega) (by omega)) (by simpa using e)
 have hi:∀i,sa+k<=i->i< sb->L (at' (arrOf st) sb) (at' (arrOf st) i)=true:=fun i h2 h3=>by
  cases e:L (at' (arrOf st) sb) (at' (arrOf st) i)with
  | true=>rfl
  | false=>exact absurd ((hB' (i- sa) (by omega)).mp (by rw[show sa+(i- sa)=i by omega,e];rfl)) (by omega)
 have lob:∀i j,sa<=i->i< sa+k->sb<=j->j< sb+nb->L (at' (arrOf st) i) (at' (arrOf st) j)=true:=fun i j h2 h3 h4 h5=>by
  by_cases y:j=sb
  ·rw[y];exact lo i h2 h3
  ·exact O.tr _ _ _ (uu _ (by omega)) (uu _ (by omega)) (uu _ (by omega)) (lo i h2 h3) (s2 sb j (Au _) (by omega) h5)
 dsimp only
 by_cases y0:na- k=0
 ·rw[if_pos (by simpa using y0)]
  refine AB (h _ B1 rfl (fun i j h2 h3 h4=>?_) fun _ _=>rfl)
  show L (at' (arrOf st) i) (at' (arrOf st) j)=true
  by_cases y1:j< sb
  ·exact s1 i j h2 h3 y1
  ·by_cases y2:sb<=i
   ·exact s2 i j y2 h3 h4
   ·exact lob i j h2 (by omega) (by omega) h4
 rw[if_neg (by simpa using y0)]
 have elast:sa+k+(na- k)- 1=sb- 1:=by omega
 refine Aw (aX (by omega) (Aw (cT O (uu _ (by omega)) (fun i hi=>uu _ (by omega)) (by omega) (by omega) B.kind (fun i j hij hj hB=>?_) fun m hm hM=>?_)))
 ·have hB2:L (at' (arrOf st) (sb+j)) (at' (arrOf st) (sa+k+(na- k)- 1))=true:=hB
  show L (at' (arrOf st) (sb+i)) (at' (arrOf st) (sa+k+(na- k)- 1))=true
  exact O.tr _ _ _ (uu _ (by omega)) (uu _ (by omega)) (uu _ (by omega)) (s2 (sb+i) (sb+j) (by omega) (by omega) (by omega)) hB2
 have hM':∀i,i< nb->(L (at' (arrOf st) (sb+i)) (at' (arrOf st) (sb- 1))=true↔i< m):=fun i hi=>by
  have e:L (at' (arrOf st) (sb+i)) (at' (arrOf st) (sa+k+(na- k)- 1))=true↔i< m:=hM i hi
  rwa [elast]at e
 have m1:0< m:=(hM' 0 z2).mp (hi _ (by omega) (by omega))
 dsimp only
 rw[if_neg (by simp;omega)]
 have xz:((arrOf st).extract (sa+k) sb).size=na- k:=by rw[sS (by omega)];omega
 have yz:((arrOf st).extract sb (sb+m)).size=m:=by rw[sS (by omega)];omega
 have xa:∀i,i< na- k->at' ((arrOf st).extract (sa+k) sb) i=at' (arrOf st) (sa+k+i):=fun i hi=>sR (by omega) (by omega)
 have ya:∀i,i< m->at' ((arrOf st).extract sb (sb+m)) i=at' (arrOf st) (sb+i):=fun i hi=>sR (by omega) (by omega)
 have fin:∀(r:Array AD) st',cj (Dx (kindOf st) (arrOf st) (((pendingOf st).setIfInBounds i (sa,na+nb,pw)).eraseIdxIfInBounds (i+1)) (gallopOf st) (failedOf st)) st'->r.toList.Perm (((arrOf st).extract (sa+k) sb).toList++((arrOf st).extract sb (sb+m)).toList)->r.toList.Pairwise (fun x y=>L x y=true)->
   wpS M A E s (do
    modify fun s=>setArr s (putAt (arrOf s) (sa+k) r)
    return (failedOf (<-get)).isNone) Q st':=by
  intro r st' al pm so
  have e1:arrOf st'=arrOf st:=al.2.1
  have rz:r.size=na- k+m:=by
   have:=pm.length_eq
   rw[Cq,Ba,Ba,Ba,xz,yz]at this
   exact this
  have bd:sa+k+r.size<=(arrOf st').size:=by rw[e1];omega
  obtain⟨pz,pa⟩:=sP bd
  have pl:=sQ bd
  refine Aw (C9 (Aw (DU (AB ?_))))
  have ef:(failedOf (setArr st' (putAt (arrOf st') (sa+k) r))).isNone=true:=by
   show(failedOf st').isNone=true
   rw[al.2.2.2]
   show(failedOf st).isNone=true
   rw[B.failed];rfl
  rw[ef]
  have mem:∀i,sa+k<=i->i< sb+m->∃j,sa+k<=j/\j< sb+m/\at' r (i- (sa+k))=at' (arrOf st) j:=fun i h2 h3=>by
   have hr:at' r (i- (sa+k))∈r.toList:=by rw[dW (by omega)];exact Cr _
   rcases Bk.mp (pm.mem_iff.mp hr)with q | q
   ·obtain⟨j,q1,q2,q3⟩:=(bL (xs:=arrOf st) (by omega)).mp q
    exact⟨j,q1,by omega,q3⟩
   ·obtain⟨j,q1,q2,q3⟩:=(bL (xs:=arrOf st) (by omega)).mp q
    exact⟨j,by omega,q2,q3⟩
  refine h _ ⟨al.1.trans B.kind,by show failedOf st'=none;rw[al.2.2.2];exact B.failed,?_⟩ al.2.2.1 (fun i j h2 h3 h4=>?_) fun i h2=>?_
  ·show(putAt (arrOf st') (sa+k) r).toList.Perm a0
   rw[pl,e1]
   refine List.Perm.trans ?_ B.perm
   have ea:(arrOf st).toList=ext' (arrOf st) 0 (sa+k)++(((arrOf st).extract (sa+k) sb).toList++((arrOf st).extract sb (sb+m)).toList)++ext' (arrOf st) (sa+k+r.size) (arrOf st).size:=by
    show _=ext' (arrOf st) 0 (sa+k)++(ext' (arrOf st) (sa+k) sb++ext' (arrOf st) sb (sb+m))++ext' (arrOf st) (sa+k+r.size) (arrOf st).size
    rw[show sa+k+r.size=sb+m by omega,<-d3 (by omega) (by omega),<-d3 (by omega) (by omega),<-d3 (by omega) (by omega),gF]
   rw[ea]
   exact BH _ (BP _ pm)
  ·show L (at' (putAt (arrOf st') (sa+k) r) i) (at' (putAt (arrOf st') (sa+k) r) j)=true
   rw[pa,pa,e1]
   have hib:∀x y,sa+k<=x->x< sb+m->sb+m<=y->y< sb+nb->L (at' (arrOf st) x) (at' (arrOf st) y)=true:=fun x y g1 g2 g3 g4=>by
    have ey:L (at' (arrOf st) (sb- 1)) (at' (arrOf st) y)=true:=by
     refine O.tot _ _ (uu _ (by omega)) (uu _ (by omega)) (nn _ _ (by omega) (by omega) (by omega)) ?_
     cases e:L (at' (arrOf st) y) (at' (arrOf st) (sb- 1))with
     | false=>rfl
     | true=>exact absurd ((hM' (y- sb) (by omega)).mp (by rw[show sb+(y- sb)=y by omega];exact e)) (by omega)
    by_cases g5:sb<=x
    ·exact s2 x y g5 (by omega) g4
    ·by_cases g6:x=sb- 1
     ·rw[g6];exact ey
     ·exact O.tr _ _ _ (uu _ (by omega)) (uu _ (by omega)) (uu _ (by omega)) (s1 x (sb- 1) (by omega) (by omega) (by omega)) ey
   by_cases c1:i< sa+k
   ·rw[if_neg (by omega)]
    by_cases c2:sa+k<=j/\j< sa+k+r.size
    ·rw[if_pos c2]
     obtain⟨q,q1,q2,q3⟩:=mem j c2.1 (by omega)
     rw[q3]
     by_cases c3:q< sb
     ·exact s1 i q h2 (by omega) c3
     ·exact lob i q h2 c1 (by omega) (by omega)
    ·rw[if_neg c2]
     by_cases c3:j< sb
     ·exact s1 i j h2 h3 c3
     ·exact lob i j h2 c1 (by omega) h4
   ·by_cases c4:i< sa+k+r.size
    ·rw[if_pos (by omega)]
     by_cases c5:j< sa+k+r.size
     ·rw[if_pos (by omega),dW (by omega),dW (by omega)]
      exact Co.mp so _ _ _ _ (by omega)
     ·rw[if_neg (by omega)]
      obtain⟨q,q1,q2,q3⟩:=mem i (by omega) (by omega)
      rw[q3]
      exact hib q j q1 q2 (by omega) h4
    ·rw[if_neg (by omega),if_neg (by omega)]
     exact s2 i j (by omega) h3 h4
  ·show at' (putAt (arrOf st') (sa+k) r) i=_
   rw[pa,if_neg (by omega),e1]
 have xU:∀i,i< ((arrOf st).extract (sa+k) sb).size->U (at' ((arrOf st).extract (sa+k) sb) i):=fun i hi=>by rw[xa i (by omega)];exact uu _ (by omega)
 have yU:∀i,i< ((arrOf st).extract sb (sb+m)).size->U (at' ((arrOf st).extract sb (sb+m)) i):=fun i hi=>by rw[ya i (by omega)];exact uu _ (by omega)
 have xS:Sr L ((arrOf st).extract (sa+k) sb) 0 ((arrOf st).extract (sa+k) sb).size:=fun i j g1 g2 g3=>by rw[xa i (by omega),xa j (by omega)];exact s1 _ _ (by omega) (by omega) (by omega)
 have yS:Sr L ((arrOf st).extract sb (sb+m)) 0 ((arrOf st).extract sb (sb+m)).size:=fun i j g1 g2 g3=>by rw[ya i (by omega),ya j (by omega)];exact s2 _ _ (by omega) (by omega) (by omega)
 have xy:∀i j,i< ((arrOf st).extract (sa+k) sb).size->j< ((arrOf st).extract sb (sb+m)).size->at' ((arrOf st).extract (sa+k) sb) i≠at' ((arrOf st).extract sb (sb+m)) j:=fun i j g1 g2=>by rw[xa i (by omega),ya j (by omega)];exact nn _ _ (by omega) (by omega) (by omega)
 have f0:L (at' ((arrOf st).extract sb (sb+m)) 0) (at' ((arrOf st).extract (sa+k) sb) 0)=true:=by rw[xa 0 (by omega),ya 0 m1];exact hi _ (by omega) (by omega)
 have f1:∀j,j< ((arrOf st).extract sb (sb+m)).size->L (at' ((arrOf st).extract sb (sb+m)) j) (at' ((arrOf st).extract (sa+k) sb) (((arrOf st).extract (sa+k) sb).size- 1))=true:=fun j g1=>by
  rw[xa _ (by omega),ya j (by omega),xz,show sa+k+(na- k- 1)=sb- 1 by omega]
  exact(hM' j (by omega)).mpr (by omega)
 by_cases w:na- k<=m
 ·rw[if_pos w]
  exact Aw (nF O B.kind xU yU (by omega) (by omega) xS yS xy f0 f1 fin)
 ·rw[if_neg w]
  exact Aw (nG O B.kind xU yU (by omega) (by omega) xS yS xy f0 f1 fin)
end
def oW:Nat->Nat->Nat->Nat:=sortPriv% PySem.Builtin.minRun
def nI:Nat->Nat->Nat->Nat->Nat:=sortPriv% PySem.Builtin.power
theorem kX:sortRuns'=(do
 let size:=(arrOf (<-get)).size
 let minrun:=oW size size 0
 let mut lo:=0
 for _ in [0:size]do
  if lo≥size then break
  let some found <-countRun' lo (size- lo) | return
  let mut n:=found
  if n< minrun then
   rule "list.sort.binary-insertion"
   let force:=min (size- lo) minrun
   if !(<-binarySort' lo force n)then return
   n:=force
  if let some (s1,n1,_):=(pendingOf (<-get)).back? then
   let pw:=nI size (2*s1+n1) (2*s1+n1+n1+n) size
   for _ in [0:size]do
    let p:=pendingOf (<-get)
    let some (_,_,older):=(if p.size> 1 then p[p.size- 2]? else none) | break
    if older<=pw then break
    if !(<-fC (p.size- 2))then return
   modify fun s=>Dx (kindOf s) (arrOf s) ((pendingOf s).modify ((pendingOf s).size- 1) fun(st,len,_)=>(st,len,pw)) (gallopOf s) (failedOf s)
  modify fun s=>Dx (kindOf s) (arrOf s) ((pendingOf s).push (lo,n,0)) (gallopOf s) (failedOf s)
  lo:=lo+n
 for _ in [0:size]do
  let p:=pendingOf (<-get)
  if p.size<=1 then break
  let i:=p.size- 2
  let before:=if i> 0 then p[i- 1]?.map (·.2.1)else none
  let i:=if before.any (· < (p[i+1]?.elim 0 (·.2.1)))then i- 1 else i
  if !(<-fC i)then return):=rfl
def rsP (p:Array (Nat×Nat×Nat)):List (Nat×Nat):=p.toList.map fun t=>(t.1,t.2.1)
def Chain:Nat->List (Nat×Nat)->Nat->Prop
 | a,[],b=>a=b
 | a,t::r,b=>t.1=a/\0< t.2/\Chain (a+t.2) r b
theorem dC:∀(l r:List (Nat×Nat)) (a b:Nat),Chain a (l++r) b↔∃c,Chain a l c/\Chain c r b
 | [],r,a,b=>⟨fun h=>⟨a,rfl,h⟩,fun⟨c,h1,h2⟩=>by cases h1;exact h2⟩
 | t :: l, r, a, b => by
  constructor
  ·rintro ⟨h1,h2,h3⟩
   obtain⟨c,h4,h5⟩:=(dC l r _ b).mp h3
   exact⟨c,⟨h1,h2,h4⟩,h5⟩
  ·rintro ⟨c,⟨h1,h2,h4⟩,h5⟩
   exact⟨h1,h2,(dC l r _ b).mpr ⟨c,h4,h5⟩⟩
theorem eK:∀{l:List (Nat×Nat)} {a b:Nat},Chain a l b->a+l.length<=b/\∀t∈l,a<=t.1/\t.1+t.2<=b
 | [],a,b,h=>by cases h;exact⟨by simp,fun t ht=>by cases ht⟩
 | t :: l, a, b, ⟨h1, h2, h3⟩ => by
  have ih:=eK h3
  refine⟨by have:=ih.1;simp;omega,fun u hu=>?_⟩
  rcases AR.mp hu with rfl | hu
  ·have:=ih.1;omega
  ·have:=ih.2 u hu;omega
structure Rn (L:AD->AD->Bool) (p:Array (Nat×Nat×Nat)) (xs:Array AD) (lo:Nat):Prop where
 ch:Chain 0 (rsP p) lo
 so:∀t∈rsP p,Sr L xs t.1 (t.1+t.2)
theorem kY {α:Type} :∀(l:List α) (i:Nat) (x y:α),l[i]? =some x->l[i+1]? =some y->l=l.take i++x::y::l.drop (i+2)
 | [],i,x,y,h,_=>by simp at h
 | a :: l, 0, x, y, h1, h2 => by
  cases l with
  | nil=>simp at h2
  | cons b l =>
   simp at h1 h2
   subst h1 h2
   simp
 | a :: l, i + 1, x, y, h1, h2 => by
  have:=kY l i x y (by simpa using h1) (by simpa using h2)
  simp only[List.take_succ_cons,List.drop_succ_cons,DA]
  exact congrArg (a:: ·) this
theorem mI {p:Array (Nat×Nat×Nat)} {i:Nat} {x y z:Nat×Nat×Nat} (h1:p[i]? =some x) (h2:p[i+1]? =some y):((p.setIfInBounds i z).eraseIdxIfInBounds (i+1)).toList=p.toList.take i++z::p.toList.drop (i+2):=by
 have hl:i+1< p.size:=(Cm.mp h2).1
 have e:=kY p.toList i x y (by rw[AA];exact h1) (by rw[AA];exact h2)
 have e1:((p.setIfInBounds i z).eraseIdxIfInBounds (i+1)).toList=(p.toList.set i z).eraseIdx (i+1):=by
  rw[DX,Dv]
 rw[e1]
 have tl:(p.toList.take i).length=i:=by simp;omega
 conv=>lhs;rw[e]
 rw[List.set_append_right _ _ (by omega),tl,DS,DL,List.eraseIdx_append_of_length_le (by omega),tl,show i+1- i=1 by omega]
 rfl
theorem Rn.merge {L:AD->AD->Bool} {p:Array (Nat×Nat×Nat)} {xs xs':Array AD} {lo i sa na pw sb nb pw':Nat} (R:Rn L p xs lo) (h1:p[i]? =some (sa,na,pw)) (h2:p[i+1]? =some (sb,nb,pw'))
  (hs:Sr L xs' sa (sb+nb)) (ho:∀i,i< sa\/sb+nb<=i->at' xs' i=at' xs i):Rn L ((p.setIfInBounds i (sa,na+nb,pw)).eraseIdxIfInBounds (i+1)) xs' lo/\sb=sa+na/\0< na/\0< nb/\sb+nb<=lo:=by
 have e:=kY p.toList i _ _ (by rw[AA];exact h1) (by rw[AA];exact h2)
 have er:rsP p=(p.toList.take i).map (fun t=>(t.1,t.2.1))++(sa,na)::(sb,nb)::(p.toList.drop (i+2)).map (fun t=>(t.1,t.2.1)):=by
  unfold rsP;conv=>lhs;rw[e]
  simp
 have er2:rsP ((p.setIfInBounds i (sa,na+nb,pw)).eraseIdxIfInBounds (i+1))=(p.toList.take i).map (fun t=>(t.1,t.2.1))++(sa,na+nb)::(p.toList.drop (i+2)).map (fun t=>(t.1,t.2.1)):=by
  unfold rsP;rw[mI h1 h2];simp
 have ch:=R.ch
 have so:=R.so
 rw[er]at ch so
 generalize (p.toList.take i).map (fun t=>(t.1,t.2.1))=l1 at*
 generalize (p.toList.drop (i+2)).map (fun t=>(t.1,t.2.1))=l2 at*
 obtain⟨c,c1,c2,c3,c4,c5,c6⟩:=(dC _ _ _ _).mp ch
 dsimp only at c2 c3 c4 c5 c6
 subst c2
 have l6:=eK c6
 have l1':=eK c1
 refine⟨⟨?_,fun t ht=>?_⟩,by omega,c3,c5,by omega⟩
 ·rw[er2]
  exact(dC _ _ _ _).mpr ⟨sa,c1,rfl,by show 0< na+nb;omega,by show Chain (sa+(na+nb)) l2 lo;rw[<-HL];exact c6⟩
 ·rw[er2]at ht
  have keep:∀t:Nat×Nat,Sr L xs t.1 (t.1+t.2)->(t.1+t.2<=sa\/sb+nb<=t.1)->Sr L xs' t.1 (t.1+t.2):=fun t h h3 i j g1 g2 g3=>by
   rw[ho i (by omega),ho j (by omega)];exact h i j g1 g2 g3
  rcases Bk.mp ht with ht | ht
  ·exact keep t (so t (by simp[ht])) (.inl (l1'.2 t ht).2)
  ·rcases AR.mp ht with rfl | ht
   ·show Sr L xs' sa (sa+(na+nb))
    rw[<-HL,<-c4];exact hs
   ·exact keep t (so t (by simp[ht])) (.inr (by have:=(l6.2 t ht).1;omega))
theorem Rn.two {L:AD->AD->Bool} {p:Array (Nat×Nat×Nat)} {xs:Array AD} {lo i sa na pw sb nb pw':Nat} (R:Rn L p xs lo) (h1:p[i]? =some (sa,na,pw)) (h2:p[i+1]? =some (sb,nb,pw')):sb=sa+na/\0< na/\0< nb/\sb+nb<=lo/\Sr L xs sa sb/\Sr L xs sb (sb+nb):=by
 have e:=kY p.toList i _ _ (by rw[AA];exact h1) (by rw[AA];exact h2)
 have er:rsP p=(p.toList.take i).map (fun t=>(t.1,t.2.1))++(sa,na)::(sb,nb)::(p.toList.drop (i+2)).map (fun t=>(t.1,t.2.1)):=by
  unfold rsP;conv=>lhs;rw[e]
  simp
 have ch:=R.ch
 have so:=R.so
 rw[er]at ch so
 obtain⟨c,c1,c2,c3,c4,c5,c6⟩:=(dC _ _ _ _).mp ch
 dsimp only at c2 c3 c4 c5 c6
 have l6:=eK c6
 have s1:Sr L xs sa (sa+na):=so (sa,na) (by simp)
 have s2:Sr L xs sb (sb+nb):=so (sb,nb) (by simp)
 exact⟨by omega,c3,c5,by omega,by rw[show sb=sa+na by omega];exact s1,s2⟩
theorem Rn.keep {L:AD->AD->Bool} {p:Array (Nat×Nat×Nat)} {xs xs':Array AD} {lo:Nat} (R:Rn L p xs lo) (ho:∀i,i< lo->at' xs' i=at' xs i):Rn L p xs' lo:=
 ⟨R.ch,fun t ht i j g1 g2 g3=>by
  have:=(eK R.ch).2 t ht
  rw[ho i (by omega),ho j (by omega)]
  exact R.so t ht i j g1 g2 g3⟩
theorem Rn.push {L:AD->AD->Bool} {p:Array (Nat×Nat×Nat)} {xs:Array AD} {lo n w:Nat} (R:Rn L p xs lo) (hn:0< n) (hs:Sr L xs lo (lo+n)):Rn L (p.push (lo,n,w)) xs (lo+n):=by
 have e:rsP (p.push (lo,n,w))=rsP p++ [(lo,n)]:=by unfold rsP;simp
 refine⟨by rw[e];exact(dC _ _ _ _).mpr ⟨lo,R.ch,rfl,hn,rfl⟩,fun t ht=>?_⟩
 rw[e]at ht
 rcases Bk.mp ht with ht | ht
 ·exact R.so t ht
 ·have:t=(lo,n):=by simpa using ht
  subst this;exact hs
theorem jn (p:Array (Nat×Nat×Nat)) (i w:Nat):rsP (p.modify i fun(st,len,_)=>(st,len,w))=rsP p:=by
 unfold rsP
 apply Cj
 intro j
 rw[Ay,Ay,AA,AA,Array.getElem?_modify]
 by_cases z:i=j
 ·rw[if_pos z]
  cases p[j]? <;> rfl
 ·rw[if_neg z]
theorem Rn.mod {L:AD->AD->Bool} {p:Array (Nat×Nat×Nat)} {xs:Array AD} {lo:Nat} (R:Rn L p xs lo) (i w:Nat):Rn L (p.modify i fun(st,len,_)=>(st,len,w)) xs lo:=⟨by rw[jn];exact R.ch,by rw[jn];exact R.so⟩
theorem oX (p:Array (Nat×Nat×Nat)):(rsP p).length=p.size:=by unfold rsP;simp
theorem qv {p:Array (Nat×Nat×Nat)} {i:Nat} {z:Nat×Nat×Nat} (h:i+1< p.size):((p.setIfInBounds i z).eraseIdxIfInBounds (i+1)).size=p.size- 1:=by
 rw[<-Ba,DX,Dv,G1,Hh,Ba,if_pos h]
section
variable {M:Fx} {A:Bo} {E:Am->Ap->Prop} {s:Ap} {κ:Ee} {U:AD->Prop} {L:AD->AD->Bool} {a0:List AD} {st:C2}
theorem nJ (O:LtOk M A E s κ U L) (hU:∀x∈a0,U x) (nd:a0.Nodup) {i lo:Nat} {Q:Bool->C2->Prop} (B:SB κ a0 st) (R:Rn L (pendingOf st) (arrOf st) lo) (hi:i+1< (pendingOf st).size) (hlo:lo<=a0.length)
  (h:∀st',SB κ a0 st'->Rn L (pendingOf st') (arrOf st') lo->(pendingOf st').size=(pendingOf st).size- 1->(∀i,lo<=i->at' (arrOf st') i=at' (arrOf st) i)->Q true st'):wpS M A E s (fC i) Q st:=by
 obtain⟨⟨sa,na,pw⟩,h1⟩:∃t,(pendingOf st)[i]? =some t:=⟨_,AK (by omega)⟩
 obtain⟨⟨sb,nb,pw'⟩,h2⟩:∃t,(pendingOf st)[i+1]? =some t:=⟨_,AK hi⟩
 obtain⟨t1,t2,t3,t4,t5,t6⟩:=R.two h1 h2
 refine nH O hU nd B h1 h2 t1 t2 t3 (by omega) t5 t6 fun st' B' ep s' o'=>?_
 have:=(R.merge h1 h2 s' o').1
 refine h st' B' (by rw[ep];exact this) (by rw[ep];exact qv hi) fun i hi=>o' i (.inr (by omega))
theorem mJ (O:LtOk M A E s κ U L) (hU:∀x∈a0,U x) (nd:a0.Nodup) {Q:Unit->C2->Prop} (B:SB κ a0 st) (hp:pendingOf st= #[]) (h:∀st',SB κ a0 st'->Sr L (arrOf st') 0 a0.length->Q () st'):wpS M A E s sortRuns' Q st:=by
 have hs:=B.size
 rw[kX]
 refine Aw (DU ?_)
 dsimp only
 rw[hs]
 generalize oW a0.length a0.length 0=mr
 refine Aw (D6 (Bz (I:=fun x c st'=>SB κ a0 st'/\∃lo,c=(none,lo)/\x<=lo/\lo<=a0.length/\Rn L (pendingOf st') (arrOf st') lo) (Q:=fun c st'=>SB κ a0 st'/\∃lo,c=(none,lo)/\Rn L (pendingOf st') (arrOf st') a0.length) ?step ?fin ?init) ?post)
 case init=>exact⟨B,0,rfl,Au _,AS _,by rw[hp];exact⟨rfl,fun t ht=>by cases ht⟩⟩
 case fin=>
  rintro c st' ⟨B',lo,rfl,q1,q2,R⟩
  have:lo=a0.length:=by omega
  subst this
  exact⟨B',_,rfl,R⟩
 case post=>
  rintro c st1 ⟨B1,lo,rfl,R1⟩
  dsimp only
  refine Aw (D6 (Bz (I:=fun x c st'=>c=(none,())/\SB κ a0 st'/\Rn L (pendingOf st') (arrOf st') a0.length/\((pendingOf st').size<=1\/(pendingOf st').size+x<=a0.length)) (Q:=fun c st'=>c=(none,())/\SB κ a0 st'/\Rn L (pendingOf st') (arrOf st') a0.length/\(pendingOf st').size<=1) ?fstep ?ffin ?finit) ?fpost)
  case finit=>
   refine⟨rfl,B1,R1,.inr ?_⟩
   have:=(eK R1.ch).1
   rw[oX]at this
   omega
  case ffin=>
   rintro c st' ⟨rfl,B',R',q⟩
   exact⟨rfl,B',R',by omega⟩
  case fstep=>
   rintro x c st' _ hx ⟨rfl,B',R',q⟩
   refine Aw (DU ?_)
   by_cases z:(pendingOf st').size<=1
   ·rw[if_pos z];exact AB ⟨rfl,B',R',z⟩
   ·rw[if_neg z]
    have hb:∀(c:Prop) [Decidable c],(if c then(pendingOf st').size- 2- 1 else(pendingOf st').size- 2)+1< (pendingOf st').size:=fun c _=>by split <;> omega
    refine Aw (nJ O hU nd B' R' (hb _) (Au _) fun st2 B2 R2 e2 _=>?_)
    exact AB ⟨rfl,B2,R2,by omega⟩
  case fpost=>
   rintro c st' ⟨rfl,B',R',q⟩
   refine AB (h st' B' ?_)
   have ch:=R'.ch
   have so:=R'.so
   have hl:=oX (pendingOf st')
   generalize rsP (pendingOf st')=l at*
   match l,hl with
   | [], _ =>
    have:0=a0.length:=ch
    intro i j g1 g2 g3
    omega
   | [t], _ =>
    obtain⟨c1,c2,c3⟩:=ch
    have c4:0+t.2=a0.length:=c3
    have:=so t (by simp)
    rw[c1,c4]at this
    exact this
   | _::_::_,hl=>simp at hl;omega
 case step=>
  rintro x c st1 _ hx ⟨B1,lo,rfl,q1,q2,R1⟩
  dsimp only
  by_cases z:lo≥a0.length
  ·rw[if_pos z]
   have:lo=a0.length:=by omega
   subst this
   exact AB ⟨B1,_,rfl,R1⟩
  rw[if_neg z]
  refine Aw (x6 O hU nd (by omega) (by omega) B1 fun n st2 n1 n2 B2 e2 s2 o2=>?_)
  dsimp only
  by_cases y:n< mr
  ·rw[if_pos y]
   refine Aw (Fj (CF ⟨rfl,?_⟩))
   refine Aw (va O hU nd (by omega) (by omega) B2 s2 fun st3 B3 e3' s3 o3'=>?_)
   rw[if_neg (by decide)]
   have e3:pendingOf st3=pendingOf st1:=e3'.trans e2
   have o3:∀i,i< lo->at' (arrOf st3) i=at' (arrOf st1) i:=fun i hi=>(o3' i (.inl hi)).trans (o2 i (.inl hi))
   refine Aw (DU ?_)
   have R3:Rn L (pendingOf st3) (arrOf st3) lo:=by rw[e3];exact R1.keep o3
   cases hb:(pendingOf st3).back? with
   | none =>
    dsimp only
    exact Aw (C9 (AB ⟨⟨B3.kind,B3.failed,B3.perm⟩,lo+min (a0.length- lo) mr,rfl,by omega,by omega,R3.push (by omega) s3⟩))
   | some t =>
    obtain⟨t1,t2,t3⟩:=t
    dsimp only
    generalize nI a0.length (2*t1+t2) (2*t1+t2+t2+min (a0.length- lo) mr) a0.length=pw
    refine Aw (D6 (Bz (I:=fun y c st'=>c=(none,())/\SB κ a0 st'/\Rn L (pendingOf st') (arrOf st') lo/\Sr L (arrOf st') lo (lo+min (a0.length- lo) mr)) (Q:=fun c st'=>c=(none,())/\SB κ a0 st'/\Rn L (pendingOf st') (arrOf st') lo/\Sr L (arrOf st') lo (lo+min (a0.length- lo) mr)) ?ms ?mf ?mi) ?mp)
    case mi=>exact⟨rfl,B3,R3,s3⟩
    case mf=>exact fun c st' h=>h
    case ms=>
     rintro y c st4 _ hy ⟨rfl,B4,R4,s4⟩
     refine Aw (DU ?_)
     by_cases w:(pendingOf st4).size> 1
     ·rw[if_pos w]
      obtain⟨⟨u1,u2,u3⟩,hu⟩:∃t,(pendingOf st4)[(pendingOf st4).size- 2]? =some t:=⟨_,AK (by omega)⟩
      rw[hu]
      dsimp only
      by_cases v:u3<=pw
      ·rw[if_pos v];exact AB ⟨rfl,B4,R4,s4⟩
      ·rw[if_neg v]
       refine Aw (nJ O hU nd B4 R4 (by omega) (by omega) fun st5 B5 R5 _ o5=>?_)
       exact AB ⟨rfl,B5,R5,fun i j g1 g2 g3=>by rw[o5 i g1,o5 j (by omega)];exact s4 i j g1 g2 g3⟩
     ·rw[if_neg w];exact AB ⟨rfl,B4,R4,s4⟩
    case mp=>
     rintro c st4 ⟨rfl,B4,R4,s4⟩
     dsimp only
     exact Aw (C9 (Aw (C9 (AB ⟨⟨B4.kind,B4.failed,B4.perm⟩,lo+min (a0.length- lo) mr,rfl,by omega,by omega,(R4.mod _ _).push (by omega) s4⟩))))
  ·rw[if_neg y]
   have B3:=B2
   have s3:=s2
   have e3:=e2
   have o3:∀i,i< lo->at' (arrOf st2) i=at' (arrOf st1) i:=fun i hi=>o2 i (.inl hi)
   refine Aw (DU ?_)
   have R3:Rn L (pendingOf st2) (arrOf st2) lo:=by rw[e3];exact R1.keep o3
   cases hb:(pendingOf st2).back? with
   | none =>
    dsimp only
    exact Aw (C9 (AB ⟨⟨B3.kind,B3.failed,B3.perm⟩,lo+n,rfl,by omega,by omega,R3.push (by omega) s3⟩))
   | some t =>
    obtain⟨t1,t2,t3⟩:=t
    dsimp only
    generalize nI a0.length (2*t1+t2) (2*t1+t2+t2+n) a0.length=pw
    refine Aw (D6 (Bz (I:=fun y c st'=>c=(none,())/\SB κ a0 st'/\Rn L (pendingOf st') (arrOf st') lo/\Sr L (arrOf st') lo (lo+n)) (Q:=fun c st'=>c=(none,())/\SB κ a0 st'/\Rn L (pendingOf st') (arrOf st') lo/\Sr L (arrOf st') lo (lo+n)) ?ms ?mf ?mi) ?mp)
    case mi=>exact⟨rfl,B3,R3,s3⟩
    case mf=>exact fun c st' h=>h
    case ms=>
     rintro y c st4 _ hy ⟨rfl,B4,R4,s4⟩
     refine Aw (DU ?_)
     by_cases w:(pendingOf st4).size> 1
     ·rw[if_pos w]
      obtain⟨⟨u1,u2,u3⟩,hu⟩:∃t,(pendingOf st4)[(pendingOf st4).size- 2]? =some t:=⟨_,AK (by omega)⟩
      rw[hu]
      dsimp only
      by_cases v:u3<=pw
      ·rw[if_pos v];exact AB ⟨rfl,B4,R4,s4⟩
      ·rw[if_neg v]
       refine Aw (nJ O hU nd B4 R4 (by omega) (by omega) fun st5 B5 R5 _ o5=>?_)
       exact AB ⟨rfl,B5,R5,fun i j g1 g2 g3=>by rw[o5 i g1,o5 j (by omega)];exact s4 i j g1 g2 g3⟩
     ·rw[if_neg w];exact AB ⟨rfl,B4,R4,s4⟩
    case mp=>
     rintro c st4 ⟨rfl,B4,R4,s4⟩
     dsimp only
     exact Aw (C9 (Aw (C9 (AB ⟨⟨B4.kind,B4.failed,B4.perm⟩,lo+n,rfl,by omega,by omega,(R4.mod _ _).push (by omega) s4⟩))))
end
end Wb
namespace Wb
open PySem PySem.W PySem.Calls PyProof.Rows
theorem oY {α β:Type} {f:α->β} :∀{l:List α},(l.map f).Nodup->∀{x y:α},x∈l->y∈l->f x=f y->x=y
 | [],_,x,_,hx,_,_=>by cases hx
 | a :: l, nd, x, y, hx, hy, e => by
  rw[Bh,C7]at nd
  rcases AR.mp hx with q | q
  ·rcases AR.mp hy with q' | q'
   ·rw[q,q']
   ·exact absurd (Bi.mpr ⟨y,q',by rw[<-e,q]⟩) nd.1
  ·rcases AR.mp hy with q' | q'
   ·exact absurd (Bi.mpr ⟨x,q,by rw[e,q']⟩) nd.1
   ·exact oY nd.2 q q' e
theorem kZ {α:Type} (l:List α):(l.zip l)=l.map fun x=>(x,x):=by
 induction l with
 | nil=>rfl
 | cons a l ih=>rw[List.zip_cons_cons,ih];rfl
section
variable {prog:AI} {w:AQ} {A:Bo} {E:Am->Ap->Prop} {s:Ap}
theorem yv {key:Am->Int×Int} {vs:List Am} (hp:∀v∈vs,PairAt s.heap v (key v)) (nd:(vs.map key).Nodup):LtOk (model prog w) A E s (tuples' true) (fun x=>x∈vs.zip vs) (fun x y=>lj (key x.1) (key y.1)) where
 lt:=fun x y st Q hx hy kd h=>by
  have h1:=hp _ (DB hx).2
  have h2:=hp _ (DB hy).2
  rw[lt'_eq]
  refine Aw (DU (Aw (Fj (Dm ?_))))
  rw[kd]
  exact uZ h1 h2 ⟨rfl,AB h⟩
 tr:=fun x y z _ _ _ h1 h2=>x5 h1 h2
 tot:=fun x y hx hy hne h=>uY (fun e=>hne (by
  have e1:=oY nd (DB hx).2 (DB hy).2 e
  have:=(DB hx).1
  have:=(DB hy).1
  exact EC e1 (by simp_all))) h
 irr:=fun x=>oU _
theorem sT {a:Addr} {vs:List Am} {key:Am->Int×Int} {n:Nat} {P:PySem.Fin->Ap->Prop} (ho:s.heap.get? a=some (seqObj "list" vs.toArray n)) (hp:∀v∈vs,PairAt s.heap v (key v)) (nd:(vs.map key).Nodup) (hl:vs.length<=sizeLine)
  (h:∀out:List Am,out.Perm vs->(out.map key).Pairwise (fun x y=>lj x y=true)->P (.done (.ret .none)) {s with heap:=sortedHeap s.heap a vs out.toArray}):
  wpAny (model prog w) A (Dq.«list.sort» ⟨[.ref a],[]⟩) P E s:=by
 rw[list_sort_plain]
 have ha:a< s.heap.objs.size:=AE ho
 refine Aj (listItems_at ho rfl ?_)
 refine Aj (Ge ho rfl ?_ (by rw[AH];exact hl) (AS _))
 obtain⟨e1,ho1⟩:∃e1,(s.heap.update a (CP fun _=> #[])).get? a=some (seqObj "list" #[] e1):=⟨_,get?_update_seq ho (fun _=> #[])⟩
 refine Aj (He ho1 rfl ?_)
 refine Aj (Hu ?_ (by show vs.length<=_;exact hl))
 refine Aj (HM ?_ (AS _))
 refine C0 ?_
 have ho6:(((s.heap.update a (CP fun _=> #[])).push (seqObj "tuple" vs.toArray 0)).push (seqObj "list" #[] 0)).get? a=some (seqObj "list" #[] e1):=by
  rw[GI _ _ _ (by rw[size_push',GY];exact AY (ET ha)),GI _ _ _ (by rw[GY];exact AY ha)]
  exact ho1
 show wpAny (model prog w) A _ P E {s with heap:=((s.heap.update a (CP fun _=> #[])).push (seqObj "tuple" vs.toArray 0)).push (seqObj "list" #[] 0)}
 dsimp only
 by_cases h2:vs.toArray.size< 2
 ·rw[if_pos h2,if_pos h2]
  refine Aj (An ?_)
  rw[StateT.run_pure]
  refine Aj (An ?_)
  dsimp only
  refine Aj (He ho6 rfl ?_)
  have e:(arrOf (Dx general' (vs.toArray.zip vs.toArray) #[] 7 none)).map (·.2)=vs.toArray:=by
   show(vs.toArray.zip vs.toArray).map (·.2)=_
   apply GZ.mp
   simp only[GW,Array.toList_zip,H0,Au]
  rw[e]
  refine Aj (Ge ho6 rfl ?_ (AS _) (by rw[AH];exact GJ hl))
  simp only[bne_self_eq_false,Bb,if_false]
  refine An (h vs (.refl _) ?_)
  have h3:vs.length< 2:=by simpa using h2
  match vs,h3 with
  | [],_=>exact Dp
  | [v],_=>exact DN _ _
  | _::_::_,h3=>simp at h3;omega
 ·rw[if_neg h2,if_neg h2]
  have hp2:∀v∈vs,PairAt (((s.heap.update a (CP fun _=> #[])).push (seqObj "tuple" vs.toArray 0)).push (seqObj "list" #[] 0)) v (key v):=fun v hv=>by
   obtain⟨b,o,t1,t2,m,q2,q3,q4,q5⟩:=hp v hv
   have hb:b≠a:=fun z=>by subst z;rw[ho]at q3;cases q3;exact absurd q4 (by show ¬(E1 "list" =E1 "tuple");decide)
   exact⟨b,o,t1,t2,m,q2,Aq _ (Aq _ ((DR _ _ (E8 hb)).trans q3)),q4,q5⟩
  obtain⟨fs,l1,l2,l3⟩:=oV (h:=((s.heap.update a (CP fun _=> #[])).push (seqObj "tuple" vs.toArray 0)).push (seqObj "list" #[] 0)) (vs:=vs) (ks:=vs.map key) ⟨by simp,fun i v e=>⟨key v,by rw[Ay,e];rfl,hp2 v (AX e)⟩⟩
  have h3:2<=vs.length:=by simp at h2;exact h2
  refine Aj (kat_kind (T:=.type "int") l2 (by rw[l1];omega) (fun v hv=>?_) (by decide) ?_)
  ·obtain⟨i,t,rfl⟩:=l3 v hv
   exact .now
  rw[show(E1 "int" != E1 "tuple")=true from by decide]
  have O:=yv (prog:=prog) (w:=w) (A:=A) (E:=E) (s:={s with heap:=((s.heap.update a (CP fun _=> #[])).push (seqObj "tuple" vs.toArray 0)).push (seqObj "list" #[] 0)}) hp2 nd
  have za:(vs.toArray.zip vs.toArray).toList=vs.zip vs:=by simp
  have ndz:(vs.zip vs).Nodup:=by
   rw[kZ,Bd,Cy]
   have nv:vs.Nodup:=Bd.mpr ((Cy.mp (Bd.mp nd)).imp fun h e=>h (by rw[e]))
   exact(Bd.mp nv).imp fun h e=>h (congrArg Prod.fst e)
  have lz:(vs.zip vs).length=vs.length:=by simp
  refine Aj (Bv (mJ (Q:=fun _ st'=>SB (tuples' true) (vs.zip vs) st'/\Sr (fun x y=>lj (key x.1) (key y.1)) (arrOf st') 0 (vs.zip vs).length) O (fun x hx=>hx) ndz (st:=Dx (tuples' true) (vs.toArray.zip vs.toArray) #[] 7 none) ⟨rfl,rfl,by show(vs.toArray.zip vs.toArray).toList.Perm _;rw[za]⟩ rfl fun st' B S=>⟨B,S⟩) ?_ fun _ _ e=>e)
  rintro ⟨⟨⟩,st'⟩ s' ⟨rfl,B,S⟩
  dsimp only at B S ⊢
  have hz:=B.size
  have mem:∀x∈(arrOf st').toList,x.1=x.2:=fun x hx=>(DB (B.perm.mem_iff.mp hx)).1
  refine Aj (He ho6 rfl ?_)
  refine Aj (Ge ho6 rfl ?_ (AS _) (by rw[Array.size_map,hz,lz];exact GJ hl))
  rw[B.failed]
  simp only[bne_self_eq_false,Bb,if_false]
  have eo:(arrOf st').map (·.2)=((arrOf st').toList.map fun x:AD=>x.2).toArray:=by apply GZ.mp;simp
  rw[eo]
  refine An (h ((arrOf st').toList.map fun x:AD=>x.2) ?_ ?_)
  ·have:=B.perm.map (·.2)
   rw[H0 (Au _)]at this
   exact this
  ·rw[CN,Cy,Co]
   intro i j hi hj hij
   have hj2:j< (arrOf st').size:=by simpa using hj
   have:=S i j (AS _) hij (by omega)
   rw[dW (by simpa using hi),dW (by simpa using hj)]at this
   show lj (key ((arrOf st').toList[i]).2) (key ((arrOf st').toList[j]).2)=true
   rw[<-mem _ (Cr hi),<-mem _ (Cr hj)]
   exact this
end
section
variable {prog:AI} {w:AQ} {K:Type} [DecidableEq K] {knd:KeyKind prog w K} {A:Bo} {E:Am->Ap->Prop} {s:Ap}
theorem qw {a x:Addr} {o:Obj} {es:Array (Int×Am)} {ep:Nat} {t:BJ} {led:Bool} {ks:List (List K)} {kx:List K} (hu:A.units+1< cLine) (S:SetT knd s.heap a led ks o es ep t) (hn:es.size< 1000) (hx:CH knd s.heap kx x) (hI:∀k∈kx,∀v,knd.is k v=true->∃i t,v=.int i t) {Q:Am->Ap->Prop}
  (h1:kx∈ks->∀tk,Q .none {s with toks:=tk}) (h2:kx∉ks->∀tk h' ks' o' es' ep' t',Bf a s.heap h'->SetT knd h' a led ks' o' es' ep' t'->ks'.Perm (kx::ks)->es'.toList.Perm ((tupleKeyHash knd kx,.ref x)::es.toList)->Q .none {s with heap:=h',toks:=tk}):
  wpAny (model prog w) A (call (.builtin "set.add") [.ref a,.ref x]) Q E s:=by
 have hT:s.TypeIs (.ref a) "set" :=⟨o,S.at_,S.ex.1⟩
 refine Bp F.slot_set_add hT F.entry_set_add ?_ (F.args_set_add_2 _ _)
 unfold Dq.«set.add» Hy
 simp only[List.isEmpty_nil,bind_assoc]
 unfold HN setAdd
 refine Aj (An ?_)
 try dsimp only
 refine Aj (An ?_)
 try dsimp only
 refine Aj ?_
 refine C0 ?_
 refine Aj (wpAny_pyHash_tuple (show A.in1.units< cLine from hu) hx ?_)
 unfold setAddHashed
 refine C0 (uU (s:={s with toks:=s.toks+(kx.length+1)}) (show A.in1.units< cLine from hu) S hn hx hI (fun hm=>?_) fun hm h' ks' o' es' ep' t' a1 a2 a3 a4=>?_)
 ·show wpAny _ _ (ret BA) _ _ _
  exact An ⟨_,rfl,h1 hm _⟩
 ·show wpAny _ _ (ret BA) _ _ _
  exact An ⟨_,rfl,h2 hm _ h' ks' o' es' ep' t' a1 a2 a3 a4⟩
end
end Wb
namespace L2
open PySem PySem.Spec PyProof.Rows Wb
structure TupsH (prog:AI) (w:AQ) (K:PySem.W.Frag) (H:Hp) (es:List (Int×Am)) (ks:List (Int×Int)):Prop where
 len:es.length=ks.length
 at_:∀(i:Nat) (e:Int×Am),es[i]? =some e->∃k b,ks[i]? =some k/\e.2=.ref b/\SqT K H b [.int k.1,.int k.2]/\e.1=tupleKeyHash (mixKind prog w) [.inl k.1,.inl k.2]
def SetH (prog:AI) (w:AQ) (K:PySem.W.Frag) (H:Hp) (o:Obj) (ks:List (Int×Int)):Prop:=∃es ep t,SetR w o es ep t/\TupsH prog w K H es.toList ks/\ks.Nodup
def ie (k:Int×Int):List Key:=[.inl k.1,.inl k.2]
theorem iA {a b:Int×Int} (h:ie a=ie b):a=b:=by
 unfold ie at h
 injection h with h1 h2
 injection h2 with h2 _
 injection h1 with h1
 injection h2 with h2
 exact EC h1 h2
def qx:List Key->Int×Int
 | [.inl a,.inl b]=>(a,b)
 | _=>(0,0)
theorem oZ (k:Int×Int):qx (ie k)=k:=rfl
def w8 (elt:Expr) (env:Env) (acc:Am):Sem Unit:=do
 let v <-eval elt env
 standAt elt.pos
 let _ <-call (.builtin "set.add") [acc,v]
def nK (prog:AI) (w:AQ) (K:PySem.W.Frag) (te:TE):TB:=fun D σ H N=>te σ H fun y H'=>∃G o ks b k,Same G H'/\H' D=some (XO D o)/\SetH prog w K G o ks/\ks.length< 1000/\y=.ref b/\SqT K G b [.int k.1,.int k.2]/\(k∈ks->N H')/\(k∉ks->∀o' ks',SetH prog w K G o' ks'->ks'.Perm (k::ks)->N (cJ H' D (XO D o')))
section
variable {Y X:Cx} {elt:Expr} {te:TE}
theorem eX {pins:List (Addr×Obj)} {σ:St} {H:Hp} {s:Ap} {b:Addr} {k:Int×Int} (I:Inv X pins σ H s) (h:SqT X.K H b [.int k.1,.int k.2]):CH (mixKind X.prog X.w) s.heap (ie k) b:=by
 obtain⟨its,r,⟨o,h1,h2,n,h3⟩,_⟩:=I.tuple h
 exact⟨o,its.toArray,n,h1,h2,h3,by simpa using jL (ks:=ie k) r⟩
theorem zA {k:Int×Int} :∀q∈ie k,∀v,(mixKind X.prog X.w).is q v=true->∃i t,v=.int i t:=fun q hq v hv=>by
 have:q=.inl k.1\/q=.inl k.2:=by simpa [ie] using hq
 rcases bD (show fg q v=true from hv)with⟨i,t,e1,rfl⟩ | ⟨x,t,e1,rfl⟩
 ·exact⟨i,t,rfl⟩
 ·rcases this with z | z <;> (rw[z]at e1;cases e1)
theorem x9 (hxe:Y.xe=fun _ _=>False) (hu:Y.A.units+1< cLine) (he:PE Y elt te):PB Y (w8 elt Y.env) (nK Y.prog Y.w Y.K te):=by
 intro D pins s σ H N I h
 have he':=he pins s σ H _ I h
 rw[hxe]at he'
 refine Aj (bM he' fun u s1 ⟨y,H1,I1,r1,G,o,ks,b,k,eG,hD,hS,hl,ey,hb,h1,h2⟩=>?_)
 subst ey
 obtain rfl:u=.ref b:=r1
 refine Aj (CB ?_)
 obtain⟨es,ep,t,R,T,nd⟩:=hS
 have hDo:s1.heap.get? D=some o:=(I1.hok D _ hD).1
 have hsz:es.size=ks.length:=by have:=T.len;simpa using this
 have U:TupsOf (mixKind Y.prog Y.w) s1.heap es.toList (ks.map ie):=⟨by rw[B8];exact T.len,fun i e hi=>by
  obtain⟨k,b,q1,q2,q3,q4⟩:=T.at_ i e hi
  exact⟨ie k,b,by rw[Ay,q1];rfl,q2,eX I1 (BY eG q3),q4⟩⟩
 have S:SetT (mixKind Y.prog Y.w) s1.heap D (!Y.w.params.followText "set-order") (ks.map ie) o es ep t:=⟨hDo,R.ex,R.dat,R.tab,U,IM _ (fun a b hab e=>hab (iA e)) nd,R.led,R.pl⟩
 refine Aj (qw hu S (by omega) (eX I1 (BY eG hb)) zA (fun hm tk=>?_) fun hm tk h' ks' o' es' ep' t' a1 a2 a3 a4=>?_)
 ·obtain⟨k',m1,m2⟩:=Bi.mp hm
  cases iA m2
  exact An ⟨σ,H1,I1.kept (fun _ _ z=>z),fun _ _ e=>e,h1 m1⟩
 ·have nm:k∉ks:=fun z=>hm (Bi.mpr ⟨k,z,rfl⟩)
  have pk:(ks'.map qx).Perm (k::ks):=by
   have:=a3.map qx
   rw[Bh,CN,show(qx ∘ ie)=id from funext oZ,Io,oZ]at this
   exact this
  have TH:TupsH Y.prog Y.w Y.K G es'.toList (ks'.map qx):=⟨by rw[B8];exact a2.tup.len,fun i e hi=>by
   obtain⟨kk,b',q1,q2,q3,q4⟩:=a2.tup.at_ i e hi
   have src:∃k0:Int×Int,SqT Y.K G b' [.int k0.1,.int k0.2]:=by
    rcases AR.mp (a4.mem_iff.mp (AX hi))with z | z
    ·rw[z]at q2;cases q2;exact⟨k,hb⟩
    ·obtain⟨j,hj,ej⟩:=Cu.mp z
     obtain⟨k0,b0,r1,r2,r3,r4⟩:=T.at_ j e (by rw[Ar hj,ej])
     rw[r2]at q2;cases q2
     exact⟨k0,r3⟩
   obtain⟨k0,hk0⟩:=src
   have e0:kk=ie k0:=q3.inj (mC (eX I1 (BY eG hk0)) hDo R.dat a1)
   subst e0
   exact⟨k0,b',by rw[Ay,q1];rfl,q2,hk0,q4⟩⟩
  refine An ⟨σ,_,?_,fun _ _ e=>e,h2 nm o' (ks'.map qx) ⟨es',ep',t',⟨a2.ex,a2.dat,a2.tab,a2.led,a2.pl⟩,TH,pk.nodup_iff.mpr (C7.mpr ⟨nm,nd⟩)⟩ pk⟩
  exact I1.write (x:=D) (e:=D) (by rw[hD];exact Du) (.inl rfl) (fun b u hb' z=>(a1.2 b hb').trans z) ⟨o',a2.at_⟩ (IZ a2.at_)
theorem sU {pins:List (Addr×Obj)} {σ:St} {H:Hp} {s:Ap} {b:Addr} {k l:Int×Int} (I:Inv X pins σ H s) (h:SqT X.K H b [.int k.1,.int k.2]) (h':SqT X.K H b [.int l.1,.int l.2]):k=l:=by
 have:=I.tuple_inj h h'
 injection this with e1 e2
 injection e2 with e2 _
 injection e1 with e1
 injection e2 with e2
 exact EC e1 e2
open Classical in
noncomputable def eu (K:PySem.W.Frag) (H:Hp) (e:Int×Am):Int×Int:=if h:∃k:Int×Int,∃b,e.2=.ref b/\SqT K H b [.int k.1,.int k.2]then h.choose else(0,0)
theorem p0 {pins:List (Addr×Obj)} {σ:St} {G H:Hp} {s:Ap} {b:Addr} {k:Int×Int} {e:Int×Am} (eG:Same G H) (I:Inv X pins σ H s) (h:SqT X.K G b [.int k.1,.int k.2]) (he:e.2=.ref b):eu X.K G e=k:=by
 have ex:∃k:Int×Int,∃b,e.2=.ref b/\SqT X.K G b [.int k.1,.int k.2]:=⟨k,b,he,h⟩
 unfold eu
 rw[dif_pos ex]
 obtain⟨b',e1,e2⟩:=ex.choose_spec
 rw[he]at e1
 cases e1
 exact sU I (BY eG e2) (BY eG h)
def zB:Am->V
 | .ref b=>.ref b
 | _=>.non
def sV (prog:AI) (w:AQ) (K:PySem.W.Frag):List V->Hp->VK->Prop:=fun xs H Q=>∃(G:Hp) (p:Addr) (o:Obj) (ks:List (Int×Int)),xs=[.ref p]/\Same G H/\H p=some (XO p o)/\SetH prog w K G o ks/\ks.length<=1000/\∀(q:Addr) (us:List V) (ks':List (Int×Int)),H q=none->ks'.Perm ks->ks'.Pairwise (fun a b=>lj a b=true)->us.length=ks'.length->(∀(i:Nat) (v:V) (k:Int×Int),us[i]? =some v->ks'[i]? =some k->∃b,v=.ref b/\SqT K G b [.int k.1,.int k.2])->Q (.ref q) (cJ H q (.lst us))
theorem l0 (hc:X.calm=true):dv X (.builtin "sorted") (sV X.prog X.w X.K):=by
 intro pins s σ H xs us Q I r h
 obtain⟨G,p,o,ks,rfl,eG,hp,⟨es,ep,t,R,T,nd⟩,h64,q⟩:=h
 obtain⟨u,rfl,rx⟩:=f6 r
 cases rx
 have hpo:s.heap.get? p=some o:=(I.hok p _ hp).1
 have hsz:es.size=ks.length:=by have:=T.len;simpa using this
 have op:=gD X.w p ep es
 have osz:(d5 X.w p ep es).size=es.size:=by have:=op.length_eq;simpa using this
 have ek:es.toList.map (eu X.K G)=ks:=by
  apply Cj
  intro i
  rw[Ay]
  by_cases z:i< es.toList.length
  ·obtain⟨k,b,q1,q2,q3,q4⟩:=T.at_ i es.toList[i] (Ar z)
   rw[Ar z,q1]
   exact congrArg some (p0 eG I q3 q2)
  ·rw[BO (by omega),BO (by have:=T.len;omega)];rfl
 have mem:∀e∈(d5 X.w p ep es).toList,∃b,e.2=.ref b/\SqT X.K G b [.int (eu X.K G e).1,.int (eu X.K G e).2]:=fun e he=>by
  obtain⟨j,hj,ej⟩:=Cu.mp (op.mem_iff.mp he)
  obtain⟨k0,b0,r1,r2,r3,r4⟩:=T.at_ j e (by rw[Ar hj,ej])
  exact⟨b0,r2,by rw[p0 eG I r3 r2];exact r3⟩
 have kzp:((d5 X.w p ep es).toList.map (eu X.K G)).Perm ks:=by
  have:=op.map (eu X.K G)
  rw[ek]at this
  exact this
 refine Calls.call_function_entry kind_sorted plain_sorted entry_sorted (args_sorted1 _) ?_
 unfold Dq.«sorted»
 refine Aj (m:=checkCount "sorted" 1 1 _) (An ?_)
 refine Aj (PySem.W.kdu_collect (A:=X.A.in1) (uX (a:=p) R) (I.ok.hd hc) hpo (by rw[BU];omega) fun h' tk acc hk hacc=>?_)
 have av:acc.toList=(d5 X.w p ep es).toList.map (·.2):=by
  apply Cj
  intro i
  rw[Ay]
  by_cases z:i< acc.size
  ·have z2:i< acc.toList.length:=by simpa using z
   obtain⟨e,q1,q2⟩:=hacc.2 i acc.toList[i] (by rw[<-AA];exact Ar z2)
   rw[Ar z2,AA,q1,q2];rfl
  ·have:=hacc.1
   rw[BO (by simp;omega),BO (by simp;omega)];rfl
 have hal:acc.toList.length=ks.length:=by rw[Ba,hacc.1,hsz]
 have I':=I.kept (t':=tk) hk
 refine Aj (HM ?_ (by rw[hal,BU];omega))
 have hoL:(h'.push (seqObj "list" acc.toList.toArray 0)).get? h'.objs.size=some (seqObj "list" acc.toList.toArray 0):=Ax _ rfl
 have src:∀v∈acc.toList,∃b,v=.ref b/\SqT X.K G b [.int (eu X.K G (0,v)).1,.int (eu X.K G (0,v)).2]:=fun v hv=>by
  rw[av]at hv
  obtain⟨e,he,rfl⟩:=Bi.mp hv
  obtain⟨b,h2,h3⟩:=mem e he
  exact⟨b,h2,by rw[show eu X.K G (0,e.2)=eu X.K G e from rfl];exact h3⟩
 have km:acc.toList.map (fun v=>eu X.K G (0,v))=(d5 X.w p ep es).toList.map (eu X.K G):=by rw[av,CN];rfl
 refine Aj (C0 (Bp slot_list_sort ⟨_,hoL,rfl⟩ entry_list_sort (sT (key:=fun v=>eu X.K G (0,v)) hoL (fun v hv=>?_) (by rw[km];exact kzp.nodup_iff.mpr nd) (by rw[hal,BU];omega) fun out op' pw=>⟨_,rfl,?_⟩) (args_list_sort _)))
 ·obtain⟨b,rfl,h3⟩:=src v hv
  obtain⟨its,rr,⟨ob,g1,g2,n,g3⟩,_⟩:=I'.tuple (BY eG h3)
  obtain⟨u1,u2,e1,⟨t1,e2⟩,t2,e3⟩:∃u1 u2,its=[u1,u2]/\RelV (.int (eu X.K G (0,.ref b)).1) u1/\RelV (.int (eu X.K G (0,.ref b)).2) u2:=by
   cases rr with
   | cons a b => cases b with
    | cons c d => cases d with
     | nil=>exact⟨_,_,rfl,a,c⟩
  subst e1
  rw[e2,e3]at g3
  exact⟨b,ob,t1,t2,n,rfl,Aq _ g1,g2,g3⟩
 obtain⟨e,he⟩:=sortedHeap_at (h:=h'.push (seqObj "list" acc.toList.toArray 0)) (a:=h'.objs.size) (vs:=acc.toList) (out:=out.toArray) (n:=0) hoL
 have at_:∀v∈out,∃b,v=.ref b/\SqT X.K G b [.int (eu X.K G (0,v)).1,.int (eu X.K G (0,v)).2]:=fun v hv=>src v (op'.mem_iff.mp hv)
 have pkz:(out.map fun v=>eu X.K G (0,v)).Perm ks:=by
  have:=op'.map fun v=>eu X.K G (0,v)
  rw[km]at this
  exact this.trans kzp
 have ol:out.length=ks.length:=by rw[op'.length_eq];exact hal
 refine An ⟨_,rfl,.ref h'.objs.size,_,I'.laid (t':=tk) (fun b o z=>?_) (Au _) (show ObjOk X.prog X.w _ _ _ (.lst (out.map zB))from⟨by rw[B8,BU];omega,out,e,?_,he⟩),rfl,q _ _ (out.map fun v=>eu X.K G (0,v)) (I'.hok.fresh (Au _)) pkz pw (by rw[B8,B8]) fun i v k h1 h2=>?_⟩
 ·show(sortedHeap _ _ _ _).get? b=some o
  rw[sortedHeap_old (AY (AE z)) (by rw[size_push'];exact ET (AE z))]
  exact Aq _ z
 ·refine lJ _ _ (by rw[B8]) fun j x u hx hu=>?_
  rw[Ay,hu]at hx
  cases hx
  obtain⟨b,rfl,_⟩:=at_ u (AX hu)
  rfl
 ·rw[Ay]at h1 h2
  obtain⟨u,hu,rfl⟩:=Bs.mp h1
  rw[hu]at h2
  cases h2
  obtain⟨b,rfl,h4⟩:=at_ u (AX hu)
  exact⟨b,rfl,h4⟩
end
def nL (w:AQ):Obj:={cls:=.type "set",dict:=none,data:=.set #[] 0 (.fresh 0 0 (!w.params.followText "set-order")),slots:= #[]}
theorem vb (prog:AI) (w:AQ) (K:PySem.W.Frag) (H:Hp):SetH prog w K H (nL w) []:=
 ⟨#[],0,.fresh 0 0 (!w.params.followText "set-order"),⟨⟨rfl,rfl,rfl⟩,rfl,⟨⟨rfl,rfl,fun a b _ hb=>by simp[Hz]at hb,fun j ⟨a,ha,_⟩=>by simp[Hz]at ha,.inl rfl,fun i h e=>by simp at e⟩,by show 0*5< 7*3;decide⟩,rfl,rfl⟩,⟨rfl,fun i e he=>by simp at he⟩,Dp⟩
def nM (w:AQ) (cap:List (Option Nat)) (wi:TI) (g:TG) (tf:TT) (tb:TB):TE:=fun σ H Q=>wi σ H fun J H1=>∀D,H1 D=none->qk g tf tb D (bp cap σ) (cJ H1 D (XO D (nL w))) (fun H'=>Q (.ref D) H') J
section
variable {X:Cx} {scope:Dj} {N:List Str} {cap:List (Option Nat)} {tg iter:Expr} {ifs:List Expr} {pos:Pos} {wi:TI} {g:TG} {tf:TT} {tb:TB} {body:Env->Am->Sem Unit}
theorem sW (S:CompScope X scope N cap) (hc:X.calm=true) {elt:Expr} {gs:List F6} (hi:PI X tg iter wi)
  (hg:∀s H C fp,PG (au X scope N s H C fp) tg g) (hf:∀s H C fp,qT (au X scope N s H C fp) ifs tf) (hb:∀s H C fp,PB (au X scope N s H C fp) (body (au X scope N s H C fp).env) tb)
  (ht:∀env it acc,compTurn (.SetComp elt (⟨tg,iter,ifs,0⟩::gs) scope pos) 0 it acc env=dj tg iter ifs (body env acc) it env (.compLoop (.SetComp elt (⟨tg,iter,ifs,0⟩::gs) scope pos) 0 it acc env):=by intro _ _ _;rfl)
  (hs:∀x,foldedSetIterable iter X.env x=pure x:=by intro _;rfl):PE X (.SetComp elt (⟨tg,iter,ifs,0⟩::gs) scope pos) (nM X.w cap wi g tf tb):=by
 intro pins s σ H Q I h
 rw[arm_eval_SetComp]
 have frc:∀x∈scope.names,x.2=.free->∃c,X.env.cells.lookup x.1=some c:=fun x hx hk=>I.ok.has x.1 (S.free x hx hk)
 refine CQ (use:=none) rfl hs (dg frc) S.kind (eP S) (bM (hi pins s σ H _ I h) fun v s1 h1=>bM h1 fun itv s2 h2=>?_)
 obtain⟨it,fp,tn,J,H2,rfl,I2,T,st2,f2,w⟩:=h2
 unfold newSet setsByText
 refine Aj (Aj (D5 (An ?_)))
 refine Bu ?_
 have hz:H2 s2.heap.objs.size=none:=I2.hok.fresh (Au _)
 have I3:Inv X pins σ (cJ H2 s2.heap.objs.size (XO s2.heap.objs.size (nL X.w))) {s2 with heap:=s2.heap.push (nL X.w)} :=
  I2.laid (a:=s2.heap.objs.size) (t':=s2.toks) (fun _ _ q=>Aq _ q) (Au _) (IZ (Ax _ rfl))
 have nD:∀b∈fp,b≠s2.heap.objs.size:=fun b hb=>by
  obtain⟨o,e,_⟩:=T.obj _ _ st2 b hb
  exact AY (AE e)
 have f3:∀b∈fp,FpOk X pins (cJ H2 s2.heap.objs.size (XO s2.heap.objs.size (nL X.w))) b:=fun b hb=>⟨by rw[aH (nD b hb)];exact(f2 b hb).1,(f2 b hb).2⟩
 refine jb (RR:=fun C=>compPost (model X.prog X.w) X.A X.xe none (EP X pins σ Q) (.ref s2.heap.objs.size) C) S hc IT rfl hg hf hb ht I3 T (T.keep _ _ _ st2 fun b hb o e=>Aq _ e) f3 (w _ hz) fun C σ' H' s' hC I' q=>?_
 obtain⟨m,hn,_⟩:=I'.loc
 exact⟨m,hn,fun h' hs'=>⟨.ref _,H',jS I3 f3 hC I' hs',rfl,q⟩⟩
variable {kx vx elt tg2 iter2:Expr} {ifs2:List Expr} {wi2:TI} {g2:TG} {tf2:TT} {te:TE}
theorem qy (hu:X.A.units+1< cLine) (S:CompScope X scope N cap) (hc:X.calm=true) (hi:PI X tg iter wi)
  (hg:∀s H C fp,PG (au X scope N s H C fp) tg g) (hf:∀s H C fp,qT (au X scope N s H C fp) ifs tf)
  (hi2:∀s H C fp,PI (au X scope N s H C fp) tg2 iter2 wi2) (hg2:∀s H C fp,PG (au X scope N s H C fp) tg2 g2) (hf2:∀s H C fp,qT (au X scope N s H C fp) ifs2 tf2) (he:∀s H C fp,PE (au X scope N s H C fp) elt te)
  (hs:∀x,foldedSetIterable iter X.env x=pure x:=by intro _;rfl) (hs2:∀env x,foldedSetIterable iter2 env x=pure x:=by intro _ _;rfl):PE X (.SetComp elt [⟨tg,iter,ifs,0⟩,⟨tg2,iter2,ifs2,0⟩] scope pos) (nM X.w cap wi g tf (wU wi2 g2 tf2 (nK X.prog X.w X.K te))):=
 sW S hc hi hg hf (body:=uN iter2 (.SetComp elt [⟨tg,iter,ifs,0⟩,⟨tg2,iter2,ifs2,0⟩] scope pos) 1)
  (fun s H C fp=>wV (Y:=au X scope N s H C fp) hc rfl (hi2 s H C fp) (hg2 s H C fp) (hf2 s H C fp) (body:=w8 elt) (x9 (Y:=au X scope N s H C fp) rfl hu (he s H C fp)) IT rfl (fun _ _ _=>rfl) (hs2 _)) (fun _ _ _=>by rw[ql];rfl) hs
end
end L2
namespace Wb
open PySem L2 Mi
section
variable {Er:Nat->Prop} {α:Type} {prog:AI} {w:AQ} {K:PySem.W.Frag} {W W' W0 Wb W1 W2:Wd} {σ:St} {te:TE}
structure OwS2 (prog:AI) (w:AQ) (K:PySem.W.Frag) (W:Wd) (p:Addr) (ks:List (Int×Int)):Prop where
 g:W.G p=none
 h:∃o ks0,W.H p=some (XO p o)/\SetH prog w K W.G o ks0/\ks0.Perm ks
theorem qz {G G':Hp} {o:Obj} {ks:List (Int×Int)} (h:SetH prog w K G o ks) (e:Same G G'):SetH prog w K G' o ks:=
 let ⟨es,ep,t,R,T,nd⟩:=h
 ⟨es,ep,t,R,⟨T.len,fun i x hx=>let ⟨k,b,q1,q2,q3,q4⟩:=T.at_ i x hx;⟨k,b,q1,q2,BY e q3,q4⟩⟩,nd⟩
theorem OwS2.mono {p:Addr} {ks:List (Int×Int)} (o:OwS2 prog w K W p ks) (e:Ext W W'):OwS2 prog w K W' p ks:=by
 obtain⟨x,k0,a,b,c⟩:=o.h
 exact⟨by rw[e.k p (by rw[a];exact fun z=>nomatch z)];exact o.g,x,k0,e.h _ _ a,qz b e.g,c⟩
theorem xb {me:Res (Int×Int)} {D:Addr} (eb:Ext Wb W) (hD:Wb.H D=none) (h:EV Er te σ W (sh (isT2 K isI isI)) me):BV Er (nK prog w K te) σ Wb W (OwS2 prog w K) D (fun ks=>me.bind fun y=>mn ks y):=fun W1 ks N e1 o k=>
 h W1 e1 _ ((Ak k).imp fun y ky v W2 e2 hv => by
  obtain⟨h3,h4⟩:=bt ky
  have o2:=o.mono e2
  obtain⟨ob,ks0,q1,q2,q3⟩:=o2.h
  obtain⟨p,x1,x2,rfl,t1,r1,r2⟩:=hv
  cases r1
  cases r2
  refine⟨W2.G,ob,ks0,p,y,W2.ok,q1,q2,by rw[q3.length_eq];exact h3,rfl,t1,fun hm=>?_,fun hm o' ks' s' p'=>?_⟩
  ·rw[if_pos (q3.mem_iff.mp hm)]at h4
   exact h4 W2 e2.g ((eb.trans e1).trans e2) o2
  ·rw[if_neg (fun z=>hm (q3.mem_iff.mpr z))]at h4
   exact h4 (W2.mut D (XO D o') o2.g) e2.g (((eb.trans e1).trans e2).mut hD o2.g) ⟨o2.g,o',ks',aF,s',p'.trans (.cons _ q3)⟩)
theorem sX {R:Rp α} {cap:List (Option Nat)} {wi:TI} {g:TG} {tf:TT} {t:TB} {mi:Res (List α)} {f:α->List (Int×Int)->Res (List (Int×Int))} (hi:IV Er wi σ W R mi)
  (hs:∀Wb D W2 a v s (M:Hp->Prop),Same W.G W2.G->Ext W Wb->Wb.H D=none->Ext Wb W2->OwS2 prog w K W2 D s->R W2.G a v->(f a s).OkE Er (fun s'=>∀W',Same W2.G W'.G->Ext Wb W'->OwS2 prog w K W' D s'->M W'.H)->g v (bp cap σ) W2.H fun σ2 H2=>Keep (bp cap σ) σ2/\tf σ2 H2 fun b H3=>if b=true then t D σ2 H3 M else M H3):
  EVo Er (dA (sV prog w K) (aj (nM w cap wi g tf t) aU)) σ W (isT2 K isI isI) ((mi.bind fun xs=>bN f xs []).bind fun ks=>sr ks):=fun W1 e1 Q k=>by
 refine hi W1 e1 _ ((Ak (Ak k)).imp fun xs kx J W2 e2 hy D hD=>?_)
 refine kQ (W:=W2) (W1:=W2.mut D (XO D (nL w)) (W2.gnone hD)) (Wb:=W2) (O:=OwS2 prog w K) (s0:=[]) hy (.inr (.refl _)) (.own _ hD) ⟨W2.gnone hD,nL w,[],aF,vb ..,.refl _⟩ (fun W3 a v s M e3 eb3 o3 r k3=>hs W2 D W3 a v s M ((e1.trans e2).g.trans e3) (e1.trans e2) hD eb3 o3 r k3) (fun _ _ _ e o=>o.mono e) ?_
 exact kx.imp fun ks kk W' z1 z2 z3=>by
  obtain⟨h3,h4⟩:=bt kk
  obtain⟨o,ks0,q1,q2,q3⟩:=z3.h
  refine⟨W'.G,D,o,ks0,rfl,W'.ok,q1,q2,by rw[q3.length_eq];exact h3,fun q us ks1 hq p1 p2 l1 at_=>?_⟩
  have e:ks1=dR ks:=jd (p1.trans q3) (p2.imp fun {a b} h=>by rw[iz]at h;rw[iw];omega)
  rw[<-e]at h4
  exact rY (W2:=W') (vs:=us) ⟨l1,fun i v m e1 e2=>by
   obtain⟨b,rfl,hb⟩:=at_ i v m e1 e2
   exact⟨b,_,_,rfl,hb,rfl,rfl⟩⟩ (e2.trans z2) h4 q hq
end
end Wb
namespace L2
open PySem PySem.Spec PyProof.Rows Wb
def yw:R2:=fun x y H Q=>∃p q xs,x=.ref p/\y=.ref q/\H p=some (.lst xs)/\H q=some (.lst [])/\Q (.bl xs.isEmpty) H
theorem sY {X:Cx} (hu:X.A.units< cLine):OpR X (compareOp .Eq) yw:=by
 intro pins s σ H x y v u Q I rx ry h
 obtain⟨p,q,xs,rfl,rfl,h1,h2,hq⟩:=h
 cases rx;cases ry
 obtain⟨i1,r1,t1,z1⟩:=I.list (CT (K:=X.K) h1)
 obtain⟨i2,r2,t2,z2⟩:=I.list (CT (K:=X.K) h2)
 have l1:=r1.length
 have l2:=r2.length
 have key:SeqAt.RcAt X.A s (.ref p) (.ref q) xs.isEmpty:=by
  cases xs with
  | nil =>
   have:=IQ (A:=X.A) (s:=s) (e:=fun _=>true) t1.isList t2.isList (by rw[AH,AH,<-l1,<-l2]) hu (fun j h1' h2'=>by
    have:j< i1.length:=by simpa using h1'
    rw[<-l1]at this
    exact absurd this (Nat.not_lt_zero _))
   have e0:i1.toArray.size=0:=by rw[AH,<-l1];rfl
   rw[e0]at this
   exact this
  | cons a r=>exact HP t1.isList t2.isList (by simp at l1 l2 ⊢;omega) hu
 exact key _ _ _ _ ⟨.bl _,H,I,rfl,hq⟩
end L2
namespace Wb
open PySem L2 Mi
section
variable {Er:Nat->Prop} {α:Type} {W:Wd} {σ:St} {ta:TE}
theorem sZ {R:Rp α} {ma:Res (List α)} (ha:EV Er ta σ W (pk R) ma):EV Er (cU yw ta (bV aU)) σ W (sh isB) (ma.bind fun a=>.ok a.isEmpty):=fun W1 e1 Q k=>
 ha W1 e1 _ ((Ak k).imp fun a ka x W2 e2 hx=>by
  obtain⟨p,vs,rfl,h1,h2⟩:=hx
  refine⟨by decide,fun q hq=>⟨p,q,vs,rfl,rfl,?_,aF,?_⟩⟩
  ·rw[aH (fun z=>by rw[z]at h1;rw[hq]at h1;cases h1)];exact h1
  ·have:vs.isEmpty=a.isEmpty:=by
    have:=h2.1
    cases vs <;> cases a <;> simp at this ⊢
   rw[this]
   exact ka (.bl a.isEmpty) (W2.mut q (.lst []) (W2.gnone hq)) (e2.trans (.own _ hq)) rfl)
end
end Wb
namespace Mi
def gH {α:Type} (kvs:List ((Int×Int)×α)) (k:Int×Int) (a:α):Res (List ((Int×Int)×α)):=dZ (kvs.length< 1000) (m8 kvs k a)
end Mi
namespace Wb
open PySem PySem.W PySem.Calls PyProof.Rows
def mK (d:Addr) (n ep i:Nat):Obj:={cls:=.type "dict_keyiterator",dict:=none,data:=.fields #[.ref d,.int i 0,.int n 0,.int ep 0],slots:= #[]}
section
variable {prog:AI} {w:AQ} {A:Bo} {E:Am->Ap->Prop} {s:Ap} {d it:Addr} {o:Obj} {es:Array CL} {ep:Nat}
theorem qF {Q:Am->Ap->Prop} (hd:(d == sysModules)=false) (ho:s.heap.get? d=some o) (hx:o.ExactDict) (hdat:o.data=.dict es ep) (hQ:Q (.ref s.heap.objs.size) {s with heap:=s.heap.push (mK d es.size ep 0)}):wpAny (model prog w) A (pyIter (.ref d)) Q E s:=by
 have hT:s.TypeIs (.ref d) "dict" :=⟨o,ho,hx.1⟩
 refine DT hT H9 (Bp H9 hT F.entry_dict_iter ?_ (F.args_dict_iter_1 _))
 unfold Dq.«dict.__iter__»
 refine Aj ?_
 unfold HA
 refine Aj (wpAny_notOrdered_dict hT ?_)
 show wpAny _ _ (pure (Bx d)) _ _ s
 refine An ?_
 show wpAny _ _ (FK d >>= _) _ _ s
 unfold FK
 rw[if_neg (by rw[hd];exact AG)]
 refine Aj (An ?_)
 refine Aj (EZ ho hdat ?_)
 refine Aj (FE ho hdat ?_)
 refine Aj (Bu (An ⟨_,rfl,"dict_keyiterator",_,⟨_,Ax _ rfl,rfl⟩,BK.lookup,?_⟩))
 exact hQ
theorem qG {i:Nat} {Q:Option Am->Ap->Prop} (hit:s.heap.get? it=some (mK d es.size ep i)) (ho:s.heap.get? d=some o) (hdat:o.data=.dict es ep) (hi:i< es.size)
  (hQ:∀h',h'.get? it=some (mK d es.size ep (i+1))->Bf it s.heap h'->Q (some es[i].key) {s with heap:=h'}):wpAny (model prog w) A (pyNext (.ref it)) Q E s:=by
 have hT:s.TypeIs (.ref it) "dict_keyiterator" :=⟨_,hit,rfl⟩
 unfold pyNext
 refine Aj (Dm (BC (name:=Av "__next__") hT BK
  (Bp BK hT Eg ?_ (E6 _))))
 refine Aj (An ?_)
 refine Aj ?_
 refine Aj ?_
 first | refine Aj (Cv hT (An ?_)) | refine Aj (CS hT (An ?_))
 refine Aj (EG hit rfl ?_)
 have hown:El "dict_keyiterator" =false:=by decide
 simp only[hown,Bb,if_false]
 show wpAny _ _ (if(Bx d == BA)=true then _ else _) _ _ s
 rw[if_neg (show ¬((Bx d == BA)=true)from AG)]
 refine Aj (An ?_)
 refine Aj (EZ ho hdat ?_)
 rw[if_neg (by simp)]
 refine Aj (An ?_)
 refine Aj (FE ho hdat ?_)
 rw[if_neg (by simp)]
 refine An ?_
 simp only[show ¬((i:Int)< 0)from by omega,if_false,BE,AK hi]
 refine Aj ?_
 first | refine Aj (Cv hT (An ?_)) | refine Aj (CS hT (An ?_))
 refine Aj (FL hT ?_)
 show wpAny _ _ (setField (.ref it) 1 (rawInt ((i:Int)+1)) >>= _) _ _ s
 refine Aj (D0 hit rfl (by simp) ?_)
 have hit':=Cp (F8 (·.setIfInBounds 1 (rawInt ((i:Int)+1)))) hit rfl
 refine Aj (C0 ?_)
 refine Aj (FL (s:={s with heap:=s.heap.update it (F8 (·.setIfInBounds 1 (rawInt ((i:Int)+1))))}) ⟨_,hit',rfl⟩ ?_)
 show wpAny _ _ (pure es[i].key) _ _ _
 exact An (An ⟨_,rfl,An (hQ _ (hit'.trans rfl) (BN ..))⟩)
theorem t9 {Q:Option Am->Ap->Prop} (hh:A.handled=none) (hit:s.heap.get? it=some (mK d es.size ep es.size)) (ho:s.heap.get? d=some o) (hdat:o.data=.dict es ep)
  (hQ:∀h',EW it s.heap h'->Q none {s with heap:=h'}):wpAny (model prog w) A (pyNext (.ref it)) Q E s:=by
 have hT:s.TypeIs (.ref it) "dict_keyiterator" :=⟨_,hit,rfl⟩
 unfold pyNext
 refine Aj (Dm (BC (name:=Av "__next__") hT BK
  (Bp BK hT Eg ?_ (E6 _))))
 refine Aj (An ?_)
 refine Aj ?_
 refine Aj ?_
 first | refine Aj (Cv hT (An ?_)) | refine Aj (CS hT (An ?_))
 refine Aj (EG hit rfl ?_)
 have hown:El "dict_keyiterator" =false:=by decide
 simp only[hown,Bb,if_false]
 show wpAny _ _ (if(Bx d == BA)=true then _ else _) _ _ s
 rw[if_neg (show ¬((Bx d == BA)=true)from AG)]
 refine Aj (An ?_)
 refine Aj (EZ ho hdat ?_)
 rw[if_neg (by simp)]
 refine Aj (An ?_)
 refine Aj (FE ho hdat ?_)
 rw[if_neg (by simp)]
 refine An ?_
 simp only[show ¬((es.size:Int)< 0)from by omega,if_false,BE,Dg (Au es.size)]
 refine Aj ?_
 first | refine Aj (Cv hT (An ?_)) | refine Aj (CS hT (An ?_))
 show wpAny _ _ (setField (.ref it) 0 .none >>= _) _ _ s
 refine Aj (D0 hit rfl (by simp) ?_)
 show wpAny _ _ (newExc (.type "StopIteration") [] >>= _) _ _ _
 refine Aj ?_
 simp only[newExc,newTuple]
 refine Aj (Bu ?_ (by size_fits))
 refine Aj (m:=firstArgMember _ _) (FZ (a:=BA) (by first | rfl | (simp only[firstArgMember];rfl)) ?_)
 refine Bu ?_ (by size_fits)
 simp only[raiseNew]
 refine Aj (Ga ?_)
 rw[show A.in1.handled=none from hh]
 refine Aj (An (Hb ?_))
 refine Aj (Dz (T:="StopIteration") (b:=true) ⟨_,Ax _ rfl,rfl⟩ EA ?_)
 exact An (hQ _ (((BN ..).extBut.push _).push _))
end
end Wb
namespace L2
open PySem PySem.Spec PyProof.Rows Wb
def KP (K:PySem.W.Frag) (G:Hp):List ((Int×Int)×V)->List (List Key×Addr×Am)->Prop:=Paired (fun(p:(Int×Int)×V) (q:List Key×Addr×Am)=>ie p.1=q.1/\SqT K G q.2.1 [.int p.1.1,.int p.1.2]/\RelV p.2 q.2.2)
section
variable {K:PySem.W.Frag} {G G':Hp} {kvs:List ((Int×Int)×V)} {xs:List (List Key×Addr×Am)}
theorem KP.val (r:KP K G kvs xs) (k:Int×Int):RelO (gb kvs k) ((atKey xs (ie k)).map (·.2)):=by
 unfold KP at r
 induction r with
 | nil=>exact Du
 | @cons p q ps qs h t ih =>
  obtain⟨h1,_,h2⟩:=h
  by_cases e:p.1=k
  ·have e':q.1=ie k:=by rw[<-h1,e]
   have b:atKey (q::qs) (ie k)=some q.2:=by simp[atKey,C8,e']
   rw[fo e,b];exact h2
  ·have e':¬q.1=ie k:=fun z=>e (iA (h1.trans z))
   have b:atKey (q::qs) (ie k)=atKey qs (ie k):=by simp[atKey,C8,e']
   rw[fq e,b];exact ih
theorem KP.repl (r:KP K G kvs xs) (k:Int×Int) {y:V} {u:Am} (ry:RelV y u):KP K G (kvs.map fun kv=>if kv.1=k then(kv.1,y)else kv) (xs.map (PySem.putAt (ie k) u)):=by
 unfold KP at r ⊢
 induction r with
 | nil=>exact .nil
 | @cons p q ps qs h t ih =>
  rw[Bh,Bh]
  refine .cons ?_ ih
  obtain⟨h1,h2,h3⟩:=h
  unfold PySem.putAt
  by_cases e:p.1=k
  ·rw[if_pos e,if_pos (by rw[<-h1,e])];exact⟨h1,h2,ry⟩
  ·rw[if_neg e,if_neg (fun z=>e (iA (h1.trans z)))];exact⟨h1,h2,h3⟩
theorem KP.put (r:KP K G kvs xs) (k:Int×Int) {b:Addr} {y:V} {u:Am} (hb:SqT K G b [.int k.1,.int k.2]) (ry:RelV y u):KP K G (pS kvs k y) (storedH xs (ie k) b u):=by
 have e:(kvs.any fun kv=>decide (kv.1=k))=(atKey xs (ie k)).isSome:=by rw[lD,(r.val k).isSome_eq,Option.isSome_map]
 unfold pS storedH
 rw[e]
 by_cases q:(atKey xs (ie k)).isSome=true
 ·rw[if_pos q,if_pos q];exact r.repl k ry
 ·rw[if_neg q,if_neg q];exact Paired.snoc r ⟨rfl,hb,ry⟩
theorem KP.same (r:KP K G kvs xs) (e:Same G G'):KP K G' kvs xs:=Paired.mapP r fun _ _ z=>⟨z.1,BY e z.2.1,z.2.2⟩
end
def DictP (prog:AI) (w:AQ) (K:PySem.W.Frag) (G:Hp) (o:Obj) (kvs:List ((Int×Int)×V)):Prop:=∃es ep xs,o.ExactDict/\o.data=.dict es ep/\es.toList=xs.map (entryOfKey (tupleKind (mixKind prog w)))/\(xs.map (·.1)).Nodup/\KP K G kvs xs
def PDa (prog:AI) (w:AQ) (K:PySem.W.Frag) (G H:Hp) (a:Addr) (kvs:List ((Int×Int)×V)):Prop:=∃o,Same G H/\H a=some (XO a o)/\(a == sysModules)=false/\DictP prog w K G o kvs/\kvs.length<=1000
def jo:Obj:={cls:=.type "dict",dict:=none,data:=.dict #[],slots:= #[]}
section
variable {X:Cx} {K:PySem.W.Frag} {pos pos':Pos} {o i value:Expr} {td ty tv:TE} {pins:List (Addr×Obj)} {σ:St} {H:Hp} {s:Ap}
theorem tj (prog:AI) (w:AQ) (K:PySem.W.Frag) (G:Hp):DictP prog w K G jo []:=⟨#[],0,[],⟨rfl,rfl,rfl⟩,rfl,rfl,DV,.nil⟩
theorem PDa.h {G:Hp} {a:Addr} {kvs:List ((Int×Int)×V)} (I:Inv X pins σ H s) (g:PDa X.prog X.w X.K G H a kvs):∃xs,KP X.K G kvs xs/\s.heap.DictOfH (tupleKind (mixKind X.prog X.w)) a xs/\xs.length<=1000:=by
 obtain⟨o,eG,ha,lo,⟨es,ep,xs,ex,dat,he,nd,r⟩,hl⟩:=g
 have hl2:kvs.length=xs.length:=Paired.length r
 refine⟨xs,r,⟨o,es,ep,(I.hok a _ ha).1,ex,dat,he,fun x hx=>?_,nd⟩,by omega⟩
 obtain⟨j,hj⟩:=DY.mp hx
 obtain⟨p,hp,h1,h2,h3⟩:=gT r hj
 rw[<-h1]
 exact eX I (BY eG h2)
end
end L2
namespace Wb
open PySem L2 Mi
section
variable {Er:Nat->Prop} {α:Type} {prog:AI} {w:AQ} {K:PySem.W.Frag} {W W' W0 W1 W2:Wd} {σ:St} {te ti ta:TE} {R:Rp α} {i:Nat} {p:Addr} {D:Ends} {r:TS}
structure OwP (prog:AI) (w:AQ) (K:PySem.W.Frag) (R:Rp α) (W:Wd) (p:Addr) (kvs:List ((Int×Int)×α)):Prop where
 g:W.G p=none
 h:∃o vs,W.H p=some (XO p o)/\(p == sysModules)=false/\DictP prog w K W.G o vs/\vs.length<=1000/\vs.length=kvs.length/\∀(i:Nat) (q:(Int×Int)×V) (x:(Int×Int)×α),vs[i]? =some q->kvs[i]? =some x->q.1=x.1/\R W.G x.2 q.2
theorem dictP_same {G G':Hp} {o:Obj} {kvs:List ((Int×Int)×V)} (h:DictP prog w K G o kvs) (e:Same G G'):DictP prog w K G' o kvs:=
 let ⟨es,ep,xs,a,b,c,d,r⟩:=h
 ⟨es,ep,xs,a,b,c,d,r.same e⟩
theorem OwP.mono [Mono R] {kvs:List ((Int×Int)×α)} (o:OwP prog w K R W p kvs) (e:Ext W W'):OwP prog w K R W' p kvs:=by
 obtain⟨x,vs,a,lo,b,hl,c,d⟩:=o.h
 exact⟨by rw[e.k p (by rw[a];exact fun z=>nomatch z)];exact o.g,x,vs,e.h _ _ a,lo,dictP_same b e.g,hl,c,fun i q y h1 h2=>⟨(d i q y h1 h2).1,Al e.g (d i q y h1 h2).2⟩⟩
theorem tm {H:Hp} {vs:List ((Int×Int)×V)} {xs:List ((Int×Int)×α)} (hl:vs.length=xs.length) (h:∀(i:Nat) (q:(Int×Int)×V) (x:(Int×Int)×α),vs[i]? =some q->xs[i]? =some x->q.1=x.1/\R H x.2 q.2) {k:Int×Int} {a:α} {v:V} (hv:R H a v):
  (pS vs k v).length=(m8 xs k a).length/\∀(i:Nat) (q:(Int×Int)×V) (x:(Int×Int)×α),(pS vs k v)[i]? =some q->(m8 xs k a)[i]? =some x->q.1=x.1/\R H x.2 q.2:=by
 have key:∀(vs:List ((Int×Int)×V)) (xs:List ((Int×Int)×α)),vs.length=xs.length->(∀(i:Nat) (q:(Int×Int)×V) (x:(Int×Int)×α),vs[i]? =some q->xs[i]? =some x->q.1=x.1/\R H x.2 q.2)->(vs.any fun p=>decide (p.1=k))=(xs.any fun p=>decide (p.1=k)):=by
  intro vs
  induction vs with
  | nil=>intro xs hl _;cases xs with | nil=>rfl | cons _ _=>cases hl
  | cons q vs ih =>
   intro xs hl h
   cases xs with
   | nil=>cases hl
   | cons x xs=>rw[E9,E9,ih xs (by simpa using hl) fun i q x h1 h2=>h (i+1) q x h1 h2,(h 0 q x rfl rfl).1]
 unfold pS m8
 rw[key vs xs hl h]
 by_cases z:(xs.any fun p=>decide (p.1=k))=true
 ·rw[if_pos z,if_pos z]
  refine⟨by rw[B8,B8];exact hl,fun i q x h1 h2=>?_⟩
  rw[Ay]at h1 h2
  obtain⟨q',h3,rfl⟩:=Bs.mp h1
  obtain⟨x',h4,rfl⟩:=Bs.mp h2
  have:=h i q' x' h3 h4
  by_cases y:x'.1=k
  ·rw[if_pos y,if_pos (this.1.trans y)];exact⟨this.1,hv⟩
  ·rw[if_neg y,if_neg (fun e=>y (this.1.symm.trans e))];exact this
 ·rw[if_neg z,if_neg z]
  refine⟨by simp[hl],fun i q x h1 h2=>?_⟩
  by_cases y:i< vs.length
  ·rw[AU y]at h1
   rw[AU (by omega)]at h2
   exact h i q x h1 h2
  ·rw[AL (by omega)]at h1
   rw[AL (by omega),<-hl]at h2
   cases e:i- vs.length with
   | zero=>rw[e]at h1 h2;cases h1;cases h2;exact⟨rfl,hv⟩
   | succ n=>rw[e]at h1;simp at h1
theorem tq {kvs:List ((Int×Int)×α)} {k:Int×Int} {a:α} :(m8 kvs k a).length<=kvs.length+1:=by unfold m8;split <;> simp
def EVp (prog:AI) (w:AQ) (K:PySem.W.Frag) (Er:Nat->Prop) (t:TE) (σ:St) (W:Wd) (R:Rp α) (m:Res (List ((Int×Int)×α))):Prop:=∀W1,Ext W W1->∀Q:VK,m.OkE Er (fun xs=>∀p W2,Ext W1 W2->W1.H p=none->OwP prog w K R W2 p xs->Q (.ref p) W2.H)->t σ W1.H Q
end
end Wb
namespace Mi
def tu {κ α:Type} [DecidableEq κ] (kvs:List (κ×α)) (k:κ) (z:α):α:=(look kvs k).getD z
def l4 (n:Int):Res (List Int):=dZ (-(2^61)<=n/\n< 2^61) (ee n).reverse
end Mi
namespace L2
open PySem PySem.Spec PyProof.Rows Wb
def zH (a:Addr) (o:Obj) (es:Array CL):It:=⟨fun i H=>H a=some (XO a o)/\i< es.size,fun i H x H'=>H'=H/\∃e,es[i]? =some e/\RelV x e.key,fun i H=>H a=some (XO a o)/\i=es.size⟩
theorem nN {P:AI} {w:AQ} {K:PySem.W.Frag} {tg:Expr} {a it:Addr} {o:Obj} {es:Array CL} {ep:Nat} (hdat:o.data=.dict es ep) (hx:o.ExactDict) (hr:∀(i:Nat) (e:CL),es[i]? =some e->∃b,e.key=.ref b):Turn P w K tg (zH a o es) [it] it (fun i h=>h.get? it=some (mK a es.size ep i)) where
 mem:=by simp
 obj:=fun i h st b hb=>by
  have e:b=it:=by simpa using hb
  subst e
  exact⟨_,st,fun v z=>by
   have z':FV _=Ew v:=z
   cases z'⟩
 keep:=fun i h h' st k=>k it (by simp) _ st
 item:=by
  intro X hP hw hK hc i pins s σ H E I hf st hg
  subst hP hw hK
  obtain⟨ha,hi⟩:=hg
  obtain⟨f0,f1,f2,f3,f4,f5⟩:=hf it (by simp)
  have ho:s.heap.get? a=some o:=(I.hok a _ ha).1
  refine qG st ho hdat hi fun h' st' sb=>?_
  have I1:Inv X pins σ H {s with heap:=h'} :=I.turned (t':=s.toks) (fun b o hb e=>(sb.2 b hb).trans e) f0 f1 f3 f4 f5
  obtain⟨b,hb⟩:=hr i _ (AK hi)
  exact⟨_,rfl,ly (s:={s with heap:=h'}) (n:="dict_keyiterator") st' rfl rfl (by decide) ⟨.ref b,H,I1,by rw[hb];rfl,⟨rfl,_,AK hi,by rw[hb];rfl⟩,st',fun b hb=>(hf b hb).1⟩⟩
 done:=by
  intro X hP hw hK hc i pins s σ H E I hf st hg
  subst hP hw hK
  obtain⟨ha,hi⟩:=hg
  subst hi
  obtain⟨f0,f1,f2,f3,f4,f5⟩:=hf it (by simp)
  have ho:s.heap.get? a=some o:=(I.hok a _ ha).1
  exact t9 (I.ok.hd hc) st ho hdat fun h' eb=>⟨rfl,I.turned (t':=s.toks) (fun b o hb e=>eb b o hb e) f0 f1 f3 f4 f5⟩
 self:=fun A i s Q E st hQ=>by
  have hT:s.TypeIs (.ref it) "dict_keyiterator" :=⟨_,st,rfl⟩
  refine DT hT Em (Bp Em hT F.entry_dict_keyiterator_iter ?_ (F.args_dict_keyiterator_iter_1 _))
  show wpAny _ _ (ret (.ref it)) _ _ s
  exact An ⟨_,rfl,"dict_keyiterator",_,hT,BK.lookup,hQ⟩
def nO (prog:AI) (w:AQ) (K:PySem.W.Frag) (tl:TE):TI:=fun σ H R=>tl σ H fun x H1=>∃G a o kvs,x=.ref a/\Same G H1/\H1 a=some (XO a o)/\(a == sysModules)=false/\DictP prog w K G o kvs/\∀es ep,o.data=.dict es ep->es.size=kvs.length->(∀(i:Nat) (e:CL) (p:(Int×Int)×V),es[i]? =some e->kvs[i]? =some p->∃b,e.key=.ref b/\SqT K G b [.int p.1.1,.int p.1.2])->R (zH a o es) H1
theorem DictP.ents {prog:AI} {w:AQ} {K:PySem.W.Frag} {G:Hp} {o:Obj} {kvs:List ((Int×Int)×V)} (h:DictP prog w K G o kvs):∃es ep,o.ExactDict/\o.data=.dict es ep/\es.size=kvs.length/\∀(i:Nat) (e:CL) (p:(Int×Int)×V),es[i]? =some e->kvs[i]? =some p->∃b,e.key=.ref b/\SqT K G b [.int p.1.1,.int p.1.2]:=by
 obtain⟨es,ep,ys,hx,hdat,he,nd,rel⟩:=h
 refine⟨es,ep,hx,hdat,by rw[<-Ba,he,B8];exact(Paired.length rel).symm,fun i e p h1 h2=>?_⟩
 rw[<-AA,he,Ay]at h1
 obtain⟨y,h3,rfl⟩:=Bs.mp h1
 obtain⟨p',h4,h5,h6,h7⟩:=gT rel h3
 rw[h2]at h4;cases h4
 exact⟨y.2.1,rfl,h6⟩
section
variable {X:Cx} {K:PySem.W.Frag} {pos pos':Pos} {o i e tg l:Expr} {td ty tv tl tk:TE} {pins:List (Addr×Obj)} {σ:St} {H:Hp} {s:Ap}
theorem tx (hl:PE X l tl):PI X tg l (nO X.prog X.w X.K tl):=by
 intro pins s σ H R I h
 refine bM (hl pins s σ H _ I h) fun v s1 ⟨x,H1,I1,r1,q1⟩=>?_
 obtain⟨G,a,ob,kvs,e,eG,ha,lo,d,q⟩:=q1
 subst e
 cases r1
 obtain⟨es,ep,hx,hdat,hs,at_⟩:=d.ents
 have ho:s1.heap.get? a=some ob:=(I1.hok a _ ha).1
 refine qF lo ho hx hdat ?_
 refine⟨s1.heap.objs.size,[s1.heap.objs.size],_,_,H1,rfl,I1.kept (t':=s1.toks) fun b o e=>Aq _ e,nN hdat hx (fun i e he=>?_),Ax _ rfl,fun b hb=>?_,q es ep hdat hs at_⟩
 ·have hi:i< kvs.length:=by have:=(Cm.mp he).1;omega
  obtain⟨b,hb,_⟩:=at_ i e _ he (Ar hi)
  exact⟨b,hb⟩
 ·have e:b=s1.heap.objs.size:=by simpa using hb
  subst e
  exact I1.fpOk (Au _) (I1.hok.fresh (Au _))
def tD (prog:AI) (w:AQ) (K:PySem.W.Frag) (td ty:TE):TE:=fun σ H Q=>td σ H fun x H1=>ty σ H1 fun y H2=>∃G a kvs b k v,x=.ref a/\PDa prog w K G H2 a kvs/\y=.ref b/\SqT K G b [.int k.1,.int k.2]/\gb kvs k=some v/\Q v H2
theorem vc (hu:X.A.units+1< cLine) (ho:PE X o td) (hi:PE X i ty) (hs:rm i):PE X (.Subscript o i pos) (tD X.prog X.w X.K td ty):=by
 intro pins s σ H Q I h
 refine oj PySem.F.slot_dict_getitem.lookup hs (bM (ho pins s σ H _ I h) fun u s1 ⟨x,H1,I1,rx,q1⟩=>bM (hi pins s1 σ H1 _ I1 q1) fun iv s2 ⟨y,H2,I2,ry,G,a,kvs,b,k,v,ex,g,ey,hb,ev,q2⟩=>?_)
 subst ex ey
 obtain rfl:u=Bx a:=rx
 obtain rfl:iv=Bx b:=ry
 obtain⟨xs,rel,dd,hx⟩:=g.h I2
 obtain⟨ob,eG,ha,lo,_,_⟩:=g
 have hT:s2.TypeIs (.ref a) "dict" :=by
  obtain⟨od,es,ep,h1,h2,_⟩:=id dd
  exact⟨od,h1,h2.1⟩
 refine⟨hT,?_⟩
 obtain⟨w',hw,rw'⟩:=I0 (v:=v) (o:=(atKey xs (ie k)).map (·.2)) (by rw[<-ev];exact rel.val k)
 obtain⟨p,hp,rfl⟩:=Bs.mp hw
 exact wpAny_getItem_heap (Gu hu) (eX I2 (BY eG hb)) dd hp ⟨v,H2,I2.tok _,rw',q2⟩
def tE (prog:AI) (w:AQ) (K:PySem.W.Frag) (td ty tv:TE):TE:=fun σ H Q=>td σ H fun x H1=>∃a,x=.ref a/\(ty σ H1 fun y H2=>tv σ H2 fun z H3=>∃G kvs b k,PDa prog w K G H3 a kvs/\y=.ref b/\SqT K G b [.int k.1,.int k.2]/\Q ((gb kvs k).getD z) H3)/\∃o kvs G,Same G H1/\H1 a=some (XO a o)/\(a == sysModules)=false/\DictP prog w K G o kvs
theorem qH {x:Option V} {y:Option Am} {z:V} {u:Am} (r:RelO x y) (rz:RelV z u):RelV (x.getD z) (y.getD u):=by
 cases x <;> cases y
 ·exact rz
 ·exact r.elim
 ·exact r.elim
 ·exact r
theorem tF {apos cpos:Pos} {k d:Expr} (hu:X.A.units+1< cLine) (ho:PE X o td) (hk:PE X k tk) (hd:PE X d tv)
  (hbase:attributeBase o (Av "get") X.env (eval o X.env)=eval o X.env:=by rfl)
  (hfew:((backTo cpos (starEach [k,d] X.env)).all (fun x=> !x.1) && (backToKw cpos (keywordEach [] X.env)).all (fun x=>x.1.isSome)
   && decide (([k,d]:List Expr).length+([]:List Fp).length+(if([]:List Fp).isEmpty then 0 else 1)< 30))=true:=by rfl)
  (hline:(apos.endLine == cpos.line)=true:=by rfl) (hs:starEach [k,d] X.env=[(false,eval k X.env),(false,eval d X.env)]:=by rfl):
  PE X (.Call (.Attribute o (Av "get") apos) [k,d] [] cpos) (tE X.prog X.w X.K td tk tv):=by
 intro pins s σ H Q I h
 refine Fq hbase hfew hline rfl (bM (ho pins s σ H _ I h) fun v s1 ⟨x,H1,I1,r1,a,e,q1,ob,kvs,G,eG,ha,lo,dp⟩=>?_)
 subst e
 cases r1
 obtain⟨es,ep,hx,hdat,_⟩:=dp.ents
 have hob:s1.heap.get? a=some ob:=(I1.hok a _ ha).1
 refine⟨"dict","dict.get",PySem.F.plainAttrs_dict,PySem.F.slot_dict_get,PySem.F.type_dict_get,⟨ob,hob,hx.1⟩,fun b e2=>?_,?_⟩
 ·cases e2
  exact⟨ob,hob,hx.2.1⟩
 ·rw[hs]
  refine wpAny_dict_get2_heap (knd:=tupleKind (mixKind X.prog X.w)) (Gu hu) lo (bM (hk pins s1 σ H1 _ I1 q1) fun u s2 ⟨y,H2,I2,r2,q2⟩=>bM (hd pins s2 σ H2 _ I2 q2) fun t s3 ⟨z,H3,I3,r3,G3,kvs3,b,kk,g3,ey,hb,q3⟩=>?_)
  subst ey
  obtain rfl:u=Bx b:=r2
  obtain⟨xs,rel,dd,hz⟩:=g3.h I3
  obtain⟨_,eG3,_⟩:=g3
  exact⟨b,ie kk,xs,rfl,eX I3 (BY eG3 hb),dd,_,H3,I3.tok _,qH (rel.val kk) r3,q3⟩
def tG (cap:List (Option Nat)) (wi:TI) (g:TG) (tf:TT) (tb:TB):TE:=fun σ H Q=>wi σ H fun J H1=>∀D,H1 D=none->(D == sysModules)=false->qk g tf tb D (bp cap σ) (cJ H1 D (XO D jo)) (fun H'=>Q (.ref D) H') J
def nP (prog:AI) (w:AQ) (K:PySem.W.Frag) (tk tv:TE):TB:=fun D σ H N=>tk σ H fun y H1=>tv σ H1 fun v H2=>∃G kvs b k,PDa prog w K G H2 D kvs/\kvs.length< 1000/\y=.ref b/\SqT K G b [.int k.1,.int k.2]/\∀o',DictP prog w K G o' (pS kvs k v)->N (cJ H2 D (XO D o'))
theorem tH {Y:Cx} {kx vx:Expr} (hxe:Y.xe=fun _ _=>False) (hu:Y.A.units+1< cLine) (hk:PE Y kx tk) (hv:PE Y vx tv):PB Y (vZ kx vx Y.env) (nP Y.prog Y.w Y.K tk tv):=by
 intro D pins s σ H N I h
 have hk':=hk pins s σ H _ I h
 rw[hxe]at hk'
 refine Aj (bM hk' fun u s1 ⟨x,H1,I1,r1,q1⟩=>?_)
 have hv':=hv pins s1 σ H1 _ I1 q1
 rw[hxe]at hv'
 refine Aj (C0 (bM hv' fun r s2 ⟨y,H2,I2,r2,G,kvs,b,k,g,hl,ex,hb,q⟩=>?_))
 subst ex
 obtain rfl:u=Bx b:=r1
 obtain⟨xs,rel,dd,hx⟩:=g.h I2
 obtain⟨ob,eG,ha,lo,_,_⟩:=g
 refine Aj (CB (C0 (wpAny_dictSet_heap (hsz:=by rw[BU];omega) (show(tupleKind (mixKind Y.prog Y.w)).room Y.A from Nat.lt_of_succ_lt hu) (eX I2 (BY eG hb)) dd fun h' dd' hs=>?_)))
 obtain⟨o',es,ep,hq,h2,h3,h4,_,h5⟩:=dd'
 exact⟨σ,_,uz I2 (by rw[ha];exact Du) hs ⟨o',hq⟩ (IZ hq),fun _ _ e=>e,q o' ⟨es,ep,_,h2,h3,h4,h5,rel.put k hb r2⟩⟩
variable {scope:Dj} {N:List Str} {cap:List (Option Nat)} {iter kx vx:Expr} {ifs:List Expr} {wi:TI} {g:TG} {tf:TT} {tb:TB} {body:Env->Am->Sem Unit}
theorem hW (hu:X.A.units+1< cLine) (S:CompScope X scope N cap) (hc:X.calm=true) (hi:PI X tg iter wi)
  (hg:∀s H C fp,PG (au X scope N s H C fp) tg g) (hf:∀s H C fp,qT (au X scope N s H C fp) ifs tf) (hk:∀s H C fp,PE (au X scope N s H C fp) kx tk) (hv:∀s H C fp,PE (au X scope N s H C fp) vx tv)
  (hs:∀x,foldedSetIterable iter X.env x=pure x:=by intro _;rfl):PE X (.DictComp kx vx [⟨tg,iter,ifs,0⟩] scope pos) (tG cap wi g tf (nP X.prog X.w X.K tk tv)):=by
 intro pins s σ H Q I h
 rw[arm_eval_DictComp]
 have frc:∀x∈scope.names,x.2=.free->∃c,X.env.cells.lookup x.1=some c:=fun x hx hk=>I.ok.has x.1 (S.free x hx hk)
 refine CQ (use:=none) rfl hs (dg frc) S.kind (eP S) (bM (hi pins s σ H _ I h) fun v s1 h1=>bM h1 fun itv s2 h2=>?_)
 obtain⟨it,fp,tn,J,H2,rfl,I2,T,st2,f2,w⟩:=h2
 refine Bu ?_
 have hz:H2 s2.heap.objs.size=none:=I2.hok.fresh (Au _)
 have I3:Inv X pins σ (cJ H2 s2.heap.objs.size (XO s2.heap.objs.size jo)) {s2 with heap:=s2.heap.push {cls:=.type "dict",dict:=none,data:=.dict #[]}} :=
  I2.laid (a:=s2.heap.objs.size) (t':=s2.toks) (fun _ _ q=>Aq _ q) (Au _) (IZ (o:=jo) (Ax _ rfl))
 have nD:∀b∈fp,b≠s2.heap.objs.size:=fun b hb=>by
  obtain⟨o,e,_⟩:=T.obj _ _ st2 b hb
  exact AY (AE e)
 have f3:∀b∈fp,FpOk X pins (cJ H2 s2.heap.objs.size (XO s2.heap.objs.size jo)) b:=fun b hb=>⟨by rw[aH (nD b hb)];exact(f2 b hb).1,(f2 b hb).2⟩
 refine jb (RR:=fun C=>compPost (model X.prog X.w) X.A X.xe none (EP X pins σ Q) (.ref s2.heap.objs.size) C) (body:=vZ kx vx) S hc CompE.dict rfl hg hf (fun s H C fp=>tH (Y:=au X scope N s H C fp) rfl hu (hk s H C fp) (hv s H C fp)) (fun _ _ _=>rfl) I3 T (T.keep _ _ _ st2 fun b hb o e=>Aq _ e) f3 (w _ hz (beq_eq_false_iff_ne.mpr (E8 (AY I2.big)))) fun C σ' H' s' hC I' q=>?_
 obtain⟨m,hn,_⟩:=I'.loc
 exact⟨m,hn,fun h' hs'=>⟨.ref _,H',jS I3 f3 hC I' hs',rfl,q⟩⟩
end
end L2
namespace Wb
open PySem L2 Mi
section
variable {Er:Nat->Prop} {α β:Type} {prog:AI} {w:AQ} {K:PySem.W.Frag} {W W' W0 Wb W1 W2:Wd} {σ:St} {t te tk tv td ti ta:TE} {R:Rp α} {i:Nat} {p:Addr} {D:Ends} {r:TS}
def isPD (prog:AI) (w:AQ) (K:PySem.W.Frag) (R:Rp α):Rp (List ((Int×Int)×α)):=fun G kvs v=>∃p o vs,v=.ref p/\G p=some (XO p o)/\(p == sysModules)=false/\DictP prog w K G o vs/\vs.length<=1000/\vs.length=kvs.length/\∀(i:Nat) (q:(Int×Int)×V) (x:(Int×Int)×α),vs[i]? =some q->kvs[i]? =some x->q.1=x.1/\R G x.2 q.2
instance zkeep68 [Mono R]:Mono (isPD prog w K R):=⟨fun e ⟨p,o,vs,h0,h1,h2,h3,h4,h5,h6⟩=>⟨p,o,vs,h0,e _ _ h1,h2,dictP_same h3 e,h4,h5,fun i q x a b=>⟨(h6 i q x a b).1,Al e (h6 i q x a b).2⟩⟩⟩
theorem OwP.frz [Mono R] {kvs:List ((Int×Int)×α)} (o:OwP prog w K R W p kvs) (e:Ext W0 W) (hp:W0.H p=none):
  ∃W',W'.H=W.H/\Ext W0 W'/\Same W.G W'.G/\isPD prog w K R W'.G kvs (.ref p)/\∀q,q≠p->W'.G q=W.G q:=by
 obtain⟨ob,vs,a,lo,b,hl,c,d⟩:=o.h
 exact⟨W.frz p _ a,rfl,e.frz hp a o.g,cB o.g,⟨p,ob,vs,rfl,aF,lo,dictP_same b (cB o.g),hl,c,fun i q x h1 h2=>⟨(d i q x h1 h2).1,Al (cB o.g) (d i q x h1 h2).2⟩⟩,fun q hq=>aH hq⟩
theorem EVp.ev [Mono R] {m:Res (List ((Int×Int)×α))} (h:EVp prog w K Er t σ W R m):EV Er t σ W (sh (isPD prog w K R)) m:=fun W1 e1 Q k=>h W1 e1 Q (k.imp fun xs kx p W2 e2 hp o=>by
 obtain⟨W3,hH,e3,_,r,_⟩:=o.frz e2 hp
 rw[<-hH]
 exact kx (.ref p) W3 e3 r)
theorem jq [Mono R] {mk:Res (Int×Int)} {mv:Res α} {D:Addr} (eb:Ext Wb W) (hD:Wb.H D=none) (h:EV Er tk σ W (sh (isT2 K isI isI)) mk) (h':EV Er tv σ W (sh R) mv):BV Er (nP prog w K tk tv) σ Wb W (OwP prog w K R) D (fun kvs=>mk.bind fun k=>mv.bind fun a=>gH kvs k a):=fun W1 xs N e1 o k=>
 h W1 e1 _ ((Ak k).imp fun b kb x W2 e2 hx => h' W2 (e1.trans e2) _ ((Ak kb).imp fun a ka v W3 e3 hv => by
  obtain⟨h3,h4⟩:=bt ka
  have o':=o.mono (e2.trans e3)
  obtain⟨ob,vs,o1,lo,o2,hl,o3,o4⟩:=o'.h
  obtain⟨p1,p2⟩:=tm o3 o4 (k:=b) hv
  have e:=(e1.trans e2).trans e3
  obtain⟨q,x1,x2,rfl,t1,r1,r2⟩:=hx
  cases r1
  cases r2
  refine⟨W3.G,vs,q,b,⟨ob,W3.ok,o1,lo,o2,hl⟩,by omega,rfl,BY e3.g t1,fun o2' d'=>?_⟩
  exact h4 (W3.mut D (XO D o2') o'.g) (e2.trans e3).g ((eb.trans e).mut hD o'.g) ⟨o'.g,o2',_,aF,lo,d',by have:=tq (kvs:=xs) (k:=b) (a:=a);omega,p1,p2⟩))
theorem jr {R0:Rp β} [Mono R] {cap:List (Option Nat)} {wi:TI} {g:TG} {tf:TT} {t:TB} {mi:Res (List β)} {f:β->List ((Int×Int)×α)->Res (List ((Int×Int)×α))} (hi:IV Er wi σ W R0 mi)
  (hs:∀Wb D W2 a v s (M:Hp->Prop),Same W.G W2.G->Ext W Wb->Wb.H D=none->Ext Wb W2->OwP prog w K R W2 D s->R0 W2.G a v->(f a s).OkE Er (fun s'=>∀W',Same W2.G W'.G->Ext Wb W'->OwP prog w K R W' D s'->M W'.H)->g v (bp cap σ) W2.H fun σ2 H2=>Keep (bp cap σ) σ2/\tf σ2 H2 fun b H3=>if b=true then t D σ2 H3 M else M H3):
  EVp prog w K Er (tG cap wi g tf t) σ W R (mi.bind fun xs=>bN f xs []):=fun W1 e1 Q k=>
 hi W1 e1 _ ((Ak k).imp fun xs kx J W2 e2 hy D hD lo=>by
  refine kQ (W:=W2) (W1:=W2.mut D (XO D jo) (W2.gnone hD)) (Wb:=W2) (O:=OwP prog w K R) (s0:=[]) hy (.inr (.refl _)) (.own _ hD) ⟨W2.gnone hD,jo,[],aF,lo,tj ..,by decide,rfl,fun i q x h=>by simp at h⟩ (fun W3 a v s M e3 eb3 o3 r k3=>hs W2 D W3 a v s M ((e1.trans e2).g.trans e3) (e1.trans e2) hD eb3 o3 r k3) (fun _ _ _ e o=>o.mono e) ?_
  exact kx.imp fun s' ks W' z1 z2 z3=>ks D W' (e2.trans z2) (aQ e2.h hD) z3)
theorem js {H:Hp} :∀(vs:List ((Int×Int)×V)) (kvs:List ((Int×Int)×α)),vs.length=kvs.length->(∀(i:Nat) (q:(Int×Int)×V) (x:(Int×Int)×α),vs[i]? =some q->kvs[i]? =some x->q.1=x.1/\R H x.2 q.2)->∀k,(match look kvs k with | none=>gb vs k=none | some a=>∃v,gb vs k=some v/\R H a v)
 | [],[],_,_,k=>rfl
 | [],_::_,h,_,_=>by simp at h
 | _::_,[],h,_,_=>by simp at h
 | q :: vs, x :: kvs, hl, h, k => by
  obtain⟨h1,h2⟩:=h 0 q x rfl rfl
  have ih:=js vs kvs (by simpa using hl) (fun i q x a b=>h (i+1) q x a b) k
  by_cases e:x.1=k
  ·have a:look (x::kvs) k=some x.2:=by simp[look,C8,e]
   rw[a,fo (h1.trans e)]
   exact⟨q.2,rfl,h2⟩
  ·have a:look (x::kvs) k=look kvs k:=by simp[look,C8,e]
   rw[a,fq (fun z=>e (h1.symm.trans z))]
   exact ih
theorem p4 [Mono R] {md:Res (List ((Int×Int)×α))} {mk:Res (Int×Int)} (hd:EV Er td σ W (sh (isPD prog w K R)) md) (hk:EV Er tk σ W (sh (isT2 K isI isI)) mk):EV Er (tD prog w K td tk) σ W (sh R) (md.bind fun d=>mk.bind fun k=>getD d k):=fun W1 e1 Q k=>
 hd W1 e1 _ ((Ak k).imp fun d kd x W2 e2 hx=>hk W2 (e1.trans e2) _ ((Ak kd).imp fun b kb y W3 e3 hy=>by
  obtain⟨p,o,vs,rfl,h1,h2,h3,h4,h5,h6⟩:=(Al (R:=isPD prog w K R) e3.g hx)
  obtain⟨q,x1,x2,rfl,t1,r1,r2⟩:=hy
  cases r1
  cases r2
  obtain⟨a,ha,ka⟩:=eR kb
  have lr:=js vs d h5 h6 b
  rw[ha]at lr
  obtain⟨v,hv,rv⟩:=lr
  exact⟨W3.G,p,vs,q,b,v,rfl,⟨o,W3.ok,W3.ok _ _ h1,h2,h3,h4⟩,rfl,t1,hv,ka v W3 (e2.trans e3) rv⟩))
theorem tI [Mono R] {md:Res (List ((Int×Int)×α))} {mk:Res (Int×Int)} {mz:Res α} (hd:EV Er td σ W (sh (isPD prog w K R)) md) (hk:EV Er tk σ W (sh (isT2 K isI isI)) mk) (hz:EV Er tv σ W (sh R) mz):EV Er (tE prog w K td tk tv) σ W (sh R) (md.bind fun d=>mk.bind fun k=>mz.bind fun z=>.ok (tu d k z)):=fun W1 e1 Q k=>
 hd W1 e1 _ ((Ak k).imp fun d kd x W2 e2 hx=>by
  obtain⟨p,o,vs,rfl,h1,h2,h3,h4,h5,h6⟩:=id hx
  refine⟨p,rfl,hk W2 (e1.trans e2) _ ((Ak kd).imp fun b kb y W3 e3 hy=>hz W3 ((e1.trans e2).trans e3) _ ((Ak kb).imp fun z kz u W4 e4 hu=>?_)),o,vs,W2.G,⟨W2.ok,W2.ok _ _ h1,h2,h3⟩⟩
  have e34:=e3.trans e4
  obtain⟨q,x1,x2,rfl,t1,r1,r2⟩:=hy
  cases r1
  cases r2
  have lr:=js vs d h5 (fun i q x a b=>⟨(h6 i q x a b).1,Al (R:=R) e34.g (h6 i q x a b).2⟩) b
  refine⟨W4.G,vs,q,b,⟨o,W4.ok,W4.ok _ _ (e34.g _ _ h1),h2,dictP_same h3 e34.g,h4⟩,rfl,BY e4.g t1,?_⟩
  have kz:∀v W',Ext W1 W'->sh R W' (tu d b z) v->Q v W'.H:=kz
  refine kz _ W4 (e2.trans e34) ?_
  unfold tu
  cases ha:look d b with
  | none =>
   rw[ha]at lr
   have lr:gb vs b=none:=lr
   rw[lr]
   exact hu
  | some a =>
   rw[ha]at lr
   obtain⟨v,hv,rv⟩:=lr
   rw[hv]
   exact rv)
theorem tJ [Mono R] {m:Res (List ((Int×Int)×α))} (h:EV Er t σ W (sh (isPD prog w K R)) m):IV Er (nO prog w K t) σ W (isT2 K isI isI) (m.bind fun d=>.ok (d.map (·.1))):=fun W1 e1 P k=>
 h W1 e1 _ ((Ak k).imp fun d kd x W2 e2 hx => by
  obtain⟨p,o,vs,rfl,h1,h2,h3,h4,h5,h6⟩:=hx
  refine⟨W2.G,p,o,vs,rfl,W2.ok,W2.ok _ _ h1,h2,h3,fun es ep hdat hs at_=>kd _ W2 e2 fun W3 e3=>⟨fun i a ha=>?_,W3.ok _ _ (e3 _ _ h1),by rw[B8,hs,h5]⟩⟩
  rw[Ay]at ha
  obtain⟨x,hx,rfl⟩:=Bs.mp ha
  have hi:i< es.size:=by have:=(Az.mp hx).1;omega
  have hv:i< vs.length:=by omega
  refine⟨⟨W3.ok _ _ (e3 _ _ h1),hi⟩,fun y H' ⟨z1,e,he,ry⟩=>⟨W3,z1.symm,.refl _,?_⟩⟩
  obtain⟨b,hb,hq⟩:=at_ i e _ he (Ar hv)
  have:=(h6 i _ x (Ar hv) hx).1
  rw[this]at hq
  rw[hb]at ry
  have:y=.ref b:=by
   cases y <;> first | (cases ry;rfl) | (obtain⟨_,z⟩:=ry;cases z) | cases ry
  subst this
  exact⟨b,_,_,rfl,BY e3 hq,rfl,rfl⟩)
end
end Wb
open Wb.EVp renaming ev->J3
namespace L2
open PySem PySem.Spec PyProof.Rows Wb
theorem xc:isSubtype (E1 "range_iterator") (E1 "reversed")=pure false:=by rfl
section
variable {prog:AI} {w:AQ} {A:Bo} {E:Am->Ap->Prop} {s:Ap}
theorem fW {r:Addr} {n:Int} {t u v:Tok} {Q:Am->Ap->Prop} (hr:IsRange s.heap r 0 n 1 t u v) (h0: -(2^61)<=n) (h1:n< 2^61)
  (hQ:Q (.ref s.heap.objs.size) {s with heap:=s.heap.push {cls:=.type "range_iterator",data:=.fields #[rawInt (0+(BB 0 n 1- 1)*1),rawInt (BB 0 n 1),rawInt (-1)]}}):wpAny (model prog w) A (call (.type "reversed") [.ref r]) Q E s:=by
 have hT:s.TypeIs (.ref r) "range" :=⟨_,hr,rfl⟩
 refine callType_other (U:="range_iterator") (Q₁:=fun obj s1=>s1.TypeIs obj "range_iterator" /\Q obj s1) rfl F.create_reversed ⟨_,_,F.mro_reversed⟩ F.made_reversed xc (F.typeCall_reversed_1 _) (codeAny_call_builtin F.plain_reversed_new F.entry_reversed_new ?_) (fun obj s1 h=>h)
 rw[F.newCall_reversed_1]
 refine An ?_
 unfold Dq.«reversed.__new__»
 rw[newClass_reversed]
 refine Aj (An ?_)
 show wpAny _ _ (Gv "reversed" _ _ >>= _) _ _ s
 refine Aj (An ?_)
 refine Aj (m:=checkCount "reversed" 1 1 _) (An ?_)
 show wpAny _ _ (specialOf (.ref r) (Av "__reversed__") >>= _) _ _ s
 refine Aj (Ei hT FN.lookup ?_)
 show wpAny _ _ (bindSpecial (.builtin "range.__reversed__") (.ref r) >>= _) _ _ s
 have hb:bindSpecial (.builtin "range.__reversed__") (.ref r)=pure (.builtin "range.__reversed__",[.ref r]):=by
  unfold bindSpecial
  rw[F.type_range_reversed]
  rfl
 rw[hb]
 refine Aj (An ?_)
 show wpAny _ _ (rule "reversed.__new__.own-method" >>= _) _ _ s
 refine Aj (CF ?_)
 show wpAny _ _ (call (.builtin "range.__reversed__") [.ref r] >>= _) _ _ s
 refine Aj (Bp FN hT F.entry_range_reversed ?_ (F.args_range_reversed_1 _))
 unfold Dq.«range.__reversed__»
 refine Aj (m:=selfOnly "range.__reversed__" _) (An ?_)
 show wpAny _ _ (EM (.ref r) >>= _) _ _ s
 refine Aj ?_
 unfold EM
 refine Aj (C3 hr rfl (x:=.int 0 t) rfl (Aj (m:=asInt? _) (An ?_)))
 refine Aj (C3 hr rfl (x:=.int n u) rfl (Aj (m:=asInt? _) (An ?_)))
 refine Aj (C3 hr rfl (x:=.int 1 v) rfl (Aj (m:=asInt? _) (An ?_)))
 refine An ?_
 have hs:(By 0 && By n && By 1 && By (-1) && By (0- 1) && By (BB 0 n 1))=true:=by
  have e:BB 0 n 1=if 0< n then n else 0:=by
   unfold BB
   rw[if_pos (by decide)]
   split
   ·rw[HY];omega
   ·rfl
  unfold By
  rw[e]
  simp only[E3,decide_eq_true_eq]
  refine⟨⟨⟨⟨⟨by decide,by omega,by omega⟩,by decide⟩,by decide⟩,by decide⟩,?_,?_⟩ <;> split <;> omega
 dsimp only
 rw[hs]
 show wpAny _ _ (newFields "range_iterator" _ >>= _) _ _ s
 unfold newFields
 refine Aj (Bu (An ⟨_,rfl,An ?_⟩))
 exact⟨⟨_,Ax _ rfl,rfl⟩,hQ⟩
end
section
variable {X:Cx} {tg:Expr}
def yx (n:Nat):It:=⟨fun i _=>i< n,fun i H x H'=>H'=H/\x=.int ((n:Int)- 1- i),fun i _=>n<=i⟩
theorem mL {P:AI} {w:AQ} {K:PySem.W.Frag} {tg:Expr} (it:Addr) (n:Nat):Turn P w K tg (yx n) [it] it (fun i h=>FU h it (((n:Int)- 1)+i*(-1)) ((n:Int)- i) (-1)) where
 mem:=by simp
 obj:=fun i h st b hb=>by
  have e:b=it:=by simpa using hb
  subst e
  exact⟨_,st,fun v z=>by
   have z':FV _=Ew v:=z
   cases z'⟩
 keep:=fun i h h' st k=>k it (by simp) _ st
 item:=by
  intro X hP hw hK hc i pins s σ H E I hf st hg
  subst hP hw hK
  obtain⟨f0,f1,f2,f3,f4,f5⟩:=hf it (by simp)
  have W:=Walks.range (prog:=X.prog) (w:=X.w) (I.ok.hd hc) it ((n:Int)- 1) (-1) n
  refine W.item i s _ _ hg st fun v h' tk hv st' kk=>?_
  obtain⟨t,rfl⟩:=hv
  have I1:Inv X pins σ H {s with heap:=h',toks:=tk} :=I.turned (fun b o hb e=>kk b o (by simpa using hb) e) f0 f1 f3 f4 f5
  refine⟨_,rfl,ly (s:={s with heap:=h',toks:=tk}) (n:="range_iterator") st' rfl rfl (by decide) ⟨.int ((n:Int)- 1- i),H,I1,⟨t,?_⟩,⟨rfl,rfl⟩,st',fun b hb=>(hf b hb).1⟩⟩
  congr 1
  omega
 done:=by
  intro X hP hw hK hc i pins s σ H E I hf st hg
  subst hP hw hK
  obtain⟨f0,f1,f2,f3,f4,f5⟩:=hf it (by simp)
  exact Fn (I.ok.hd hc) st (by have:n<=i:=hg;omega) fun h' eb=>⟨rfl,I.turned (t':=s.toks) (fun b o hb e=>eb b o hb e) f0 f1 f3 f4 f5⟩
 self:=fun _ _ _ _ _ st h=>DP st h
theorem mM {P:AI} {w:AQ} {K:PySem.W.Frag} {o i:Expr} {pos:Pos} {td ty:TE} (hP:X.prog=P) (hw:X.w=w) (hK:X.K=K) (hu:X.A.units+1< cLine) (ho:PE X o td) (hi:PE X i ty) (hs:rm i):PE X (.Subscript o i pos) (tD P w K td ty):=by
 subst hP hw hK
 exact vc hu ho hi hs
theorem qI {P:AI} {w:AQ} {K:PySem.W.Frag} {l:Expr} {tl:TE} (hP:X.prog=P) (hw:X.w=w) (hK:X.K=K) (hl:PE X l tl):PI X tg l (nO P w K tl):=by
 subst hP hw hK
 exact tx hl
def w9 (ta:TA):TI:=fun σ H R=>ta σ H fun vs H1=>∃j:Int,vs=[.int j]/\ -(2^61)<=j/\j< 2^61/\R (yx j.toNat) H1
theorem nQ (n:Int):BB 0 n 1=(n.toNat:Int):=by
 unfold BB
 rw[if_pos (by decide)]
 split
 ·rw[HY];omega
 ·omega
theorem qJ {a:Expr} {ta:TA} {p p2 pos pos2:Pos} (hg:Gl X "reversed") (hm:X.mg "reversed" =none) (hg2:Gl X "range") (hm2:X.mg "range" =none) (ha:PA X [a] ta)
  (hs0:starEach [.Call (.Name "range" p2) [a] [] pos2] X.env=[(false,eval (.Call (.Name "range" p2) [a] [] pos2) X.env)]:=by rfl)
  (hs:starEach [a] X.env=[(false,eval a X.env)]:=by rfl):PI X tg (.Call (.Name "reversed" p) [.Call (.Name "range" p2) [a] [] pos2] [] pos) (w9 ta):=by
 intro pins s σ H R I h
 refine Call_ (fZ I hg hm boot_reversed (Ce ?_ hs0 rfl))
 rw[hs0]
 show wpAny _ _ (spliced ((false,eval (.Call (.Name "range" p2) [a] [] pos2) X.env):: [])) _ _ s
 refine Gj ?_
 refine Call_ (fZ I hg2 hm2 boot_range (Ce (bM (ha pos2 pins s σ H _ I h) fun us s1 ⟨vs,H1,I1,r1,q1⟩=>?_) hs rfl))
 obtain⟨j,e,q1,q2,q⟩:=q1
 subst e
 cases r1 with
 | cons r rr =>
  cases rr
  obtain⟨t,rfl⟩:=r
  refine call_range_1 (Gx ?_)
  refine fW (Ih ..) q1 q2 ?_
  rw[nQ]
  have st:∀h:Heap,FU (h.push {cls:=.type "range_iterator",data:=.fields #[rawInt (0+((j.toNat:Int)- 1)*1),rawInt (j.toNat:Int),rawInt (-1)]}) h.objs.size (((j.toNat:Int)- 1)+((0:Nat):Int)*(-1)) ((j.toNat:Int)- ((0:Nat):Int)) (-1):=fun h=>by
   have e1:((j.toNat:Int)- 1)+((0:Nat):Int)*(-1)=0+((j.toNat:Int)- 1)*1:=by omega
   have e2:(j.toNat:Int)- ((0:Nat):Int)=(j.toNat:Int):=by omega
   rw[e1,e2]
   exact Ax _ rfl
  refine DP (st _) ?_
  refine⟨_,[_],_,_,H1,rfl,I1.kept (fun b o e=>Aq _ (Aq _ e)),mL _ j.toNat,st _,fun b hb=>?_,q⟩
  have e:=Dh.mp hb
  subst e
  have hle:∀o:Obj,s1.heap.objs.size<=(s1.heap.push o).objs.size:=fun o=>by rw[Cg];exact EU _
  exact I1.fpOk (hle _) (I1.hok.fresh (hle _))
end
end L2
namespace Wb
open PySem L2 Mi
section
variable {Er:Nat->Prop} {W:Wd} {σ:St} {ta:TE}
theorem qK {m:Res Int} (h:EV Er ta σ W (sh isI) m):IV Er (w9 (aj ta aU)) σ W isI (m.bind fun i=>l4 i):=fun W1 e1 P k=>
 h W1 e1 _ ((Ak k).imp fun i ki v W2 e2 hv => by
  cases hv
  obtain⟨⟨h1,h2⟩,h3⟩:=bt ki
  refine⟨i,rfl,h1,h2,h3 _ W2 e2 fun W3 e3=>⟨fun j a ha=>?_,?_⟩⟩
  ·unfold ee at ha
   have hj:j< i.toNat:=by
    have:=(Az.mp ha).1
    simpa using this
   rw[CI (by simpa using hj),B8,EY,Ay,DD (by omega)]at ha
   cases ha
   refine⟨hj,fun y H' ⟨z1,z2⟩=>⟨W3,z1.symm,.refl _,?_⟩⟩
   rw[z2]
   show D8 _=D8 ((i.toNat- 1- j:Nat):Int)
   congr 1
   omega
  ·show i.toNat<=(ee i).reverse.length
   unfold ee
   simp)
end
end Wb
namespace L2
open PySem PySem.Spec PyProof.Rows
end L2
namespace Wb
open PySem L2 Mi
section
variable {Er:Nat->Prop} {W:Wd} {σ:St} {te:TE} {D:Ends} {r:TS} {i:Nat}
theorem aV {i:Nat} {a:Int} (h:σ[i]? =some (some (.int a)):=by rfl):EV Er (bE i) σ W (sh isI) (.ok a):=iX (R:=sh isI) (v:=.int a) rfl h
theorem du {i:Nat} {a:Tx} (h:σ[i]? =some (some (.str (sOf a))):=by rfl):EV Er (bE i) σ W (sh isS) (.ok a):=iX (R:=sh isS) (v:=.str (sOf a)) rfl h
theorem zI {i:Nat} {a:Bool} (h:σ[i]? =some (some (.bl a)):=by rfl):EV Er (bE i) σ W (sh isB) (.ok a):=iX (R:=sh isB) (v:=.bl a) rfl h
theorem bg {α:Type} {R:Rp α} [Mono R] {i:Nat} {a:α} {v:V} (r:R W.G a v) (h:σ[i]? =some (some v):=by rfl):EV Er (bE i) σ W (sh R) (.ok a):=iX (R:=sh R) r h
end
abbrev qA (K:PySem.W.Frag):=isT3 K isS isS isI
abbrev qB (K:PySem.W.Frag):=isT3 K isS isS isS
abbrev qC (K:PySem.W.Frag):=isT2 K isI isI
abbrev qD (K:PySem.W.Frag):=isL (qB K)
abbrev qE (K:PySem.W.Frag):=isL (qC K)
end Wb
namespace Mi
noncomputable section
@[irreducible] def yI (Z0e:List Int) (l_k:Int):Res Int:=if(decide (l_k< (Z0e.length:Int)))then fV Z0e l_k else(jB ((l_k*48271)+(11:Int)) ((Z0e.length:Int)+(7:Int))).bind fun y8=>As (y8% 1000003)
def gh (Z0e:List Int) (l_k:Int):Res Int:=yI Z0e l_k
@[irreducible] def xw (Z00:Int) (Z0o:Int) (a19:Int) (s20:(Int×Int×(List Int))):Res (Int×Int×(List Int)):=((if(decide ((1000000000000000000:Int)<=cP Z00))then As (decide ((0:Int)< s20.2.1))else As false).bind fun y45=>(if y45 then((iV s20.2.1 Z0o).bind fun y56=>gm s20.2.2 y56).bind fun y55=>(i9 s20.2.1 Z0o).bind fun y59=>As (y59,y55)else((((jB ((((s20.1*48271)+(7919:Int))+a19)% 2147483647) ((((s20.1*48271)+(7919:Int))+a19)% 2147483647)).bind fun y63=>As (y63% 1000003)).bind fun y64=>iV y64 Z0o).bind fun y69=>gm s20.2.2 y69).bind fun y68=>As (s20.2.1,y68):Res (Int×(List Int)))).bind fun s70=>As (((((s20.1*48271)+(7919:Int))+a19)% 2147483647),s70.1,s70.2)
@[irreducible] def yJ (Z00:Int) (Z0c:Int) (Z0o:Int):Res (List Int):=((fu Z0c).bind fun y78=>bN (xw Z00 Z0o) y78 (((cP Z00)% 2147483647),cP Z00,([]:List Int))).bind fun s79=>As s79.2.2
def gM (Z00:Int) (Z0c:Int) (Z0o:Int):Res (List Int):=yJ Z00 Z0c Z0o
@[irreducible] def xx (y3:Int) (y8:List Int) (a15:Int) (s16:Tx):Res Tx:=(((((fV y8 (4:Int)).bind fun y39=>((iV a15 y3).bind fun y38=>As (y38*7)).bind fun y40=>As (y39+y40)).bind fun y41=>As (y41% 26)).bind fun y42=>eB ([97,98,99,100,101,102,103,104,105,106,107,108,109,110,111,112,113,114,115,116,117,118,119,120,121,122]:Tx) y42).bind fun y43=>jC s16 y43).bind fun y44=>As y44
@[irreducible] def yK (gM:Int->Int->Int->Res (List Int)) (Z00:Int):Res Tx:=(fV [(1:Int),(2:Int),(3:Int),(4:Int),(26:Int)] (Z00% 5)).bind fun y3=>(gM (Z00/ 5) (5:Int) (26:Int)).bind fun y8=>(bN (xx y3 y8) (cut y8 none (some (4:Int))) ([]:Tx)).bind fun s47=>As s47
def vd (Z00:Int):Res Tx:=yK gM Z00
@[irreducible] def yL (vd:Int->Res Tx) (Z00:Int):Res (Tx×Tx×Int):=(eB ([83,90]:Tx) (Z00% 2)).bind fun y1=>(vd (Z00/ 8)).bind fun y2=>As (y1,y2,((Z00/ 2)% 4))
def uf (Z00:Int):Res (Tx×Tx×Int):=yL vd Z00
@[irreducible] def yM (gM:Int->Int->Int->Res (List Int)) (Z00:Int) (Z0c:Int):Res Tx:=if(decide ((Z00% 7)=(3:Int)))then(eB ([102,98,105]:Tx) ((Z00/ 7)% 3)).bind fun y3=>wK y3 Z0c else((gM (Z00/ 7) Z0c (3:Int)).bind fun y18=>dQ y18 (fun(a9:Int)=>eB ([102,98,105]:Tx) a9)).bind fun y19=>lL y19
def ve (Z00:Int) (Z0c:Int):Res Tx:=yM gM Z00 Z0c
@[irreducible] def yN (Z0m:Tx):Res Int:=(gU ([98,105,102]:Tx) Z0m).bind fun y1=>As (y1- (1:Int))
def mZ (Z0m:Tx):Res Int:=yN Z0m
@[irreducible] def yO (mZ:Tx->Res Int) (Z03:Tx×Tx×Int) (Z0m:Tx):Res (Tx×Tx×Int):=(((mZ Z0m).bind fun y1=>As (Z03.2.2+y1)).bind fun y2=>As (y2% 4)).bind fun y3=>As (Z03.1,Z03.2.1,y3)
def iB (Z03:Tx×Tx×Int) (Z0m:Tx):Res (Tx×Tx×Int):=yO mZ Z03 Z0m
@[irreducible] def yP (mZ:Tx->Res Int) (Z03:Tx×Tx×Int) (Z0m:Tx):Res Int:=if(decide (Z03.1=([83]:Tx)))then mZ Z0m else(mZ Z0m).bind fun y8=>As ((0:Int)- y8)
def p7 (Z03:Tx×Tx×Int) (Z0m:Tx):Res Int:=yP mZ Z03 Z0m
@[irreducible] def xA (iB:(Tx×Tx×Int)->Tx->Res (Tx×Tx×Int)) (p7:(Tx×Tx×Int)->Tx->Res Int) (a7:Tx) (s8:((Tx×Tx×Int)×(List (Tx×Tx×Tx)))):Res ((Tx×Tx×Int)×(List (Tx×Tx×Tx))):=(iB s8.1 a7).bind fun y34=>(((p7 y34 a7).bind fun y39=>As (y39+(1:Int))).bind fun y40=>eB ([122,111,115]:Tx) y40).bind fun y41=>(((eB y34.2.1 y34.2.2).bind fun y44=>(eB y34.2.1 ((y34.2.2+(2:Int))% 4)).bind fun y45=>As (y44,y45,y41)).bind fun y50=>gm s8.2 y50).bind fun y49=>As (y34,y49)
@[irreducible] def yQ (iB:(Tx×Tx×Int)->Tx->Res (Tx×Tx×Int)) (p7:(Tx×Tx×Int)->Tx->Res Int) (Z03:Tx×Tx×Int) (Z04:Tx):Res (List (Tx×Tx×Tx)):=(bN (xA iB p7) (bK Z04) (Z03,([]:List (Tx×Tx×Tx)))).bind fun s51=>As s51.2
def vf (Z03:Tx×Tx×Int) (Z04:Tx):Res (List (Tx×Tx×Tx)):=yQ iB p7 Z03 Z04
@[irreducible] def xB (a16:(Tx×Tx×Tx)×Int) (s17:(Int×(List (Tx×Tx×Tx)))):Res (Int×(List (Tx×Tx×Tx))):=((if(decide (a16.2=(5:Int)))then As (decide (s17.1< (6:Int)))else As false).bind fun y45=>(if y45 then As ((s17.1+(1:Int)),(([63]:Tx),a16.1.2.1,([63]:Tx)))else As (s17.1,a16.1):Res (Int×(Tx×Tx×Tx)))).bind fun s61=>(gm s17.2 s61.2).bind fun y74=>As (s61.1,y74)
@[irreducible] def yR (gM:Int->Int->Int->Res (List Int)) (Z0j:List (Tx×Tx×Tx)) (Z00:Int):Res (List (Tx×Tx×Tx)):=(gM (Z00/ 3) (Z0j.length:Int) (11:Int)).bind fun y13=>(bN xB (Z0j.zip y13) ((0:Int),([]:List (Tx×Tx×Tx)))).bind fun s75=>(if(decide ((Z00% 3)=(2:Int)))then(iV (Z00/ 3) (Z0j.length:Int)).bind fun y87=>((((fV s75.2 y87).bind fun y90=>As y90.1).bind fun y92=>((fV s75.2 y87).bind fun y91=>As y91.2.1).bind fun y93=>(eB ([115,122,111]:Tx) ((Z00/ 7)% 3)).bind fun y94=>As (y92,y93,y94)).bind fun y98=>gp s75.2 y87 y98).bind fun y99=>As y99 else As s75.2:Res (List (Tx×Tx×Tx))).bind fun s101=>As s101
def vg (Z0j:List (Tx×Tx×Tx)) (Z00:Int):Res (List (Tx×Tx×Tx)):=yR gM Z0j Z00
@[irreducible] def xC (Z00:Int) (a14:(Tx×Tx×Tx)×Int) (s15:(List (Tx×Tx×Tx))):Res (List (Tx×Tx×Tx)):=(if(decide ((Z00% 5)=(0:Int)))then As ((a14.2/ 8)*8)else As a14.2:Res Int).bind fun s56=>(if(decide ((Z00% 5)=(1:Int)))then As (((s56/ 8)*8)+(7:Int))else As s56:Res Int).bind fun s75=>((if(decide ((56:Int)<=s75))then As (decide ((s75% 3)< (2:Int)))else As false).bind fun y90=>(if y90 then(((((fV [a14.1.1,a14.1.2.1,a14.1.2.2] (s75% 3)).bind fun y101=>gU ([97,98,99,100,101,102,103,104,105,106,107,108,109,110,111,112,113,114,115,116,117,118,119,120,121,122,97]:Tx) y101).bind fun y102=>As (y102+(1:Int))).bind fun y103=>eB ([97,98,99,100,101,102,103,104,105,106,107,108,109,110,111,112,113,114,115,116,117,118,119,120,121,122,97]:Tx) y103).bind fun y107=>gp [a14.1.1,a14.1.2.1,a14.1.2.2] (s75% 3) y107).bind fun y108=>As y108 else As [a14.1.1,a14.1.2.1,a14.1.2.2]:Res (List Tx))).bind fun s110=>((if(decide ((56:Int)<=s75))then As (decide ((s75% 3)=(2:Int)))else As false).bind fun y120=>(if y120 then((((fV s110 (2:Int)).bind fun y127=>gU ([115,122,111]:Tx) y127).bind fun y128=>eB ([122,111,115]:Tx) y128).bind fun y132=>gp s110 (2:Int) y132).bind fun y133=>As y133 else As s110:Res (List Tx))).bind fun s135=>(((dQ (s135.zip [(1:Int),(2:Int),(4:Int)]) (fun(a149:Tx×Int)=>(((i9 s75 a149.2).bind fun y158=>As (y158% 2)).bind fun y159=>As (decide (y159=(1:Int)))).bind fun y160=>if y160 then As a149.1 else As ([63]:Tx))).bind fun y163=>rP y163).bind fun y168=>gm s15 y168).bind fun y167=>As y167
@[irreducible] def yT (gM:Int->Int->Int->Res (List Int)) (Z0j:List (Tx×Tx×Tx)) (Z00:Int) (Z0v:Bool):Res (List (Tx×Tx×Tx)):=(((jB (8:Int) (if Z0v then(1:Int)else 0)).bind fun y9=>As ((56:Int)+y9)).bind fun y10=>gM (Z00/ 5) (Z0j.length:Int) y10).bind fun y11=>(bN (xC Z00) (Z0j.zip y11) ([]:List (Tx×Tx×Tx))).bind fun s169=>As s169
def vh (Z0j:List (Tx×Tx×Tx)) (Z00:Int) (Z0v:Bool):Res (List (Tx×Tx×Tx)):=yT gM Z0j Z00 Z0v
@[irreducible] def yV (Z03:Tx×Tx×Int):Res (Tx×Tx×Int):=((gU ([83,90]:Tx) Z03.1).bind fun y5=>eB ([90,83]:Tx) y5).bind fun y12=>((((eB Z03.2.1 (0:Int)).bind fun y6=>(eB Z03.2.1 (3:Int)).bind fun y7=>jC y6 y7).bind fun y8=>(eB Z03.2.1 (2:Int)).bind fun y9=>jC y8 y9).bind fun y10=>(eB Z03.2.1 (1:Int)).bind fun y11=>jC y10 y11).bind fun y13=>As (y12,y13,(((0:Int)- Z03.2.2)% 4))
def vi (Z03:Tx×Tx×Int):Res (Tx×Tx×Int):=yV Z03
@[irreducible] def yW (Z04:Tx):Res Tx:=(dQ (bK Z04) (fun(a1:Tx)=>(gU ([98,105,102]:Tx) a1).bind fun y8=>eB ([102,105,98]:Tx) y8)).bind fun y11=>lL y11
def vj (Z04:Tx):Res Tx:=yW Z04
@[irreducible] def yX (Z03:Tx×Tx×Int) (Z0c:Int):Res (Tx×Tx×Int):=(((fu (4:Int)).bind fun y13=>dQ y13 (fun(a3:Int)=>eB Z03.2.1 ((a3- Z0c)% 4))).bind fun y14=>lL y14).bind fun y15=>As (Z03.1,y15,((Z03.2.2+Z0c)% 4))
def vm (Z03:Tx×Tx×Int) (Z0c:Int):Res (Tx×Tx×Int):=yX Z03 Z0c
@[irreducible] def xD (a37:Int) (s38:(List Int)):Res (List Int):=(if(!s38.contains a37)then(gm s38 a37).bind fun y68=>As y68 else As s38:Res (List Int)).bind fun s70=>As s70
@[irreducible] def yy (iB:(Tx×Tx×Int)->Tx->Res (Tx×Tx×Int)) (a7:Tx) (s8:((Tx×Tx×Int)×(List Int))):Res ((Tx×Tx×Int)×(List Int)):=(iB s8.1 a7).bind fun y34=>(bN xD [y34.2.2,((y34.2.2+(2:Int))% 4)] s8.2).bind fun s78=>As (y34,s78)
@[irreducible] def yY (iB:(Tx×Tx×Int)->Tx->Res (Tx×Tx×Int)) (Z03:Tx×Tx×Int) (Z04:Tx):Res (List Int):=(bN (yy iB) (bK Z04) (Z03,([]:List Int))).bind fun s82=>rO s82.2
def vn (Z03:Tx×Tx×Int) (Z04:Tx):Res (List Int):=yY iB Z03 Z04
@[irreducible] def xE (Z00:Int) (y40:List Int) (a43:Int) (s44:(Tx×Tx×Int)):Res (Tx×Tx×Int):=(if(!y40.contains a43)then((((jB (5:Int) a43).bind fun y75=>As ((Z00/ 16)+y75)).bind fun y76=>As (y76% 26)).bind fun y77=>eB ([97,98,99,100,101,102,103,104,105,106,107,108,109,110,111,112,113,114,115,116,117,118,119,120,121,122]:Tx) y77).bind fun y78=>((((q9 s44.2.1 none (some a43)).bind fun y83=>jC y83 y78).bind fun y84=>(q9 s44.2.1 (some (a43+(1:Int))) none).bind fun y85=>jC y84 y85).bind fun y86=>As (s44.1,y86,s44.2.2)).bind fun y87=>As y87 else As s44:Res (Tx×Tx×Int)).bind fun s91=>As s91
@[irreducible] def yZ (vi:(Tx×Tx×Int)->Res (Tx×Tx×Int)) (vj:Tx->Res Tx) (vm:(Tx×Tx×Int)->Int->Res (Tx×Tx×Int)) (vn:(Tx×Tx×Int)->Tx->Res (List Int)) (Z03:Tx×Tx×Int) (Z04:Tx) (Z00:Int):Res ((Tx×Tx×Int)×Tx):=(if(decide ((Z00% 2)=(1:Int)))then(vi Z03).bind fun y9=>(vj Z04).bind fun y14=>As (y9,y14)else As (Z03,Z04):Res ((Tx×Tx×Int)×Tx)).bind fun s18=>(vm s18.1 ((Z00/ 2)% 4)).bind fun y29=>(if(decide (((Z00/ 8)% 2)=(1:Int)))then(vn y29 s18.2).bind fun y40=>((fu (4:Int)).bind fun y101=>bN (xE Z00 y40) y101 y29).bind fun s102=>As s102 else As y29:Res (Tx×Tx×Int)).bind fun s107=>As (s107,s18.2)
def vo (Z03:Tx×Tx×Int) (Z04:Tx) (Z00:Int):Res ((Tx×Tx×Int)×Tx):=yZ vi vj vm vn Z03 Z04 Z00
@[irreducible] def z5 (uf:Int->Res (Tx×Tx×Int)) (gh:List Int->Int->Res Int) (ve:Int->Int->Res Tx) (vf:(Tx×Tx×Int)->Tx->Res (List (Tx×Tx×Tx))) (vg:(List (Tx×Tx×Tx))->Int->Res (List (Tx×Tx×Tx))) (vh:(List (Tx×Tx×Tx))->Int->Bool->Res (List (Tx×Tx×Tx))) (vo:(Tx×Tx×Int)->Tx->Int->Res ((Tx×Tx×Int)×Tx)) (Z0e:List Int) (Z0k:Int):Res ((Tx×Tx×Int)×(List (Tx×Tx×Tx))×Int):=((gh Z0e (0:Int)).bind fun y3=>uf y3).bind fun y4=>(gh Z0e (2:Int)).bind fun y9=>(gh Z0e (3:Int)).bind fun y14=>(iV y9 (Z0k+(1:Int))).bind fun y19=>(if(decide (((y9/ 13)% 6)=(1:Int)))then As ((25:Int)+((y9/ 78)% 36))else As y19:Res Int).bind fun s33=>(if(decide (((y9/ 13)% 6)=(3:Int)))then As ((13:Int)+((y9/ 78)% 12))else As s33:Res Int).bind fun s51=>((gh Z0e (1:Int)).bind fun y60=>ve y60 s51).bind fun y61=>(vf y4 y61).bind fun y66=>(if(decide (Z0k< s51))then(vg y66 y14).bind fun y77=>As y77 else(vh y66 (y14/ 3) (decide ((y14% 3)=(2:Int)))).bind fun y83=>As y83:Res (List (Tx×Tx×Tx))).bind fun s86=>((gh Z0e (4:Int)).bind fun y97=>As (y97/ 4)).bind fun y98=>(if(decide ((y98% 6)=(1:Int)))then((vo y4 y61 (y98/ 6)).bind fun y109=>As y109.1).bind fun y110=>As y110 else As y4:Res (Tx×Tx×Int)).bind fun s114=>(if(decide ((y98% 6)=(2:Int)))then(uf (y98/ 6)).bind fun y131=>As y131 else As s114:Res (Tx×Tx×Int)).bind fun s135=>((gh Z0e (4:Int)).bind fun y144=>As (y144% 4)).bind fun y145=>As (s135,s86,y145)
def ug (Z0e:List Int) (Z0k:Int):Res ((Tx×Tx×Int)×(List (Tx×Tx×Tx))×Int):=z5 uf gh ve vf vg vh vo Z0e Z0k
@[irreducible] def z6 (state:Int×Int) (loose:Int) (bound:Int):Res Bool:=if(decide (cP state.1<=bound))then As (decide (state.2<=loose))else As false
def mN (state:Int×Int) (loose:Int) (bound:Int):Res Bool:=z6 state loose bound
@[irreducible] def z7 (tablet:Tx×Tx×Int) (turn:Tx):Res Int:=(getD ([([102],1),([98],(-1)),([105],0)]:List (Tx×Int)) turn).bind fun y3=>if(decide (tablet.1=([83]:Tx)))then As y3 else As (-y3)
def nR (tablet:Tx×Tx×Int) (turn:Tx):Res Int:=z7 tablet turn
@[irreducible] def z8 (nR:(Tx×Tx×Int)->Tx->Res Int) (tablet:Tx×Tx×Int) (state:Int×Int) (turn:Tx):Res (Int×Int):=((nR tablet turn).bind fun y9=>As (state.1+y9)).bind fun y10=>(if(decide (turn=([105]:Tx)))then As (state.2+(1:Int))else As (0:Int)).bind fun y11=>As (y10,y11)
def uh (tablet:Tx×Tx×Int) (state:Int×Int) (turn:Tx):Res (Int×Int):=z8 nR tablet state turn
@[irreducible] def z9 (tablet:Tx×Tx×Int) (twist:Int):Res (Tx×Tx×Int):=((if(decide (tablet.1=([83]:Tx)))then As (tablet.2.2+twist)else As (tablet.2.2- twist)).bind fun y11=>As (y11% 4)).bind fun y12=>As (tablet.1,tablet.2.1,y12)
def vp (tablet:Tx×Tx×Int) (twist:Int):Res (Tx×Tx×Int):=z9 tablet twist
@[irreducible] def p8 (tablet:Tx×Tx×Int):Res Tx:=eB tablet.2.1 (tablet.2.2% 4)
def gJ (tablet:Tx×Tx×Int):Res Tx:=p8 tablet
@[irreducible] def zc (tablet:Tx×Tx×Int):Res Tx:=eB tablet.2.1 ((tablet.2.2+(2:Int))% 4)
def vq (tablet:Tx×Tx×Int):Res Tx:=zc tablet
@[irreducible] def zd (gJ:(Tx×Tx×Int)->Res Tx) (vq:(Tx×Tx×Int)->Res Tx) (nR:(Tx×Tx×Int)->Tx->Res Int) (tablet:Tx×Tx×Int) (turn:Tx):Res (Tx×Tx×Tx):=(gJ tablet).bind fun y2=>(vq tablet).bind fun y3=>((nR tablet turn).bind fun y1=>getD ([(1,[115]),((-1),[122]),(0,[111])]:List (Int×Tx)) y1).bind fun y4=>As (y2,y3,y4)
def vt (tablet:Tx×Tx×Int) (turn:Tx):Res (Tx×Tx×Tx):=zd gJ vq nR tablet turn
@[irreducible] def ze (sign:Tx) (left:Tx):Res Bool:=if(decide (left=([63]:Tx)))then As true else As (decide (left=sign))
def ui (sign:Tx) (left:Tx):Res Bool:=ze sign left
@[irreducible] def zf (ui:Tx->Tx->Res Bool) (place:Tx×Tx×Tx) (mark:Tx×Tx×Tx):Res Bool:=(dQ ([place.1,place.2.1,place.2.2].zip [mark.1,mark.2.1,mark.2.2]) (fun(a1:Tx×Tx)=>ui a1.1 a1.2)).bind fun y12=>As (y12.all id)
def vw (place:Tx×Tx×Tx) (mark:Tx×Tx×Tx):Res Bool:=zf ui place mark
@[irreducible] def zg (vw:(Tx×Tx×Tx)->(Tx×Tx×Tx)->Res Bool) (vt:(Tx×Tx×Int)->Tx->Res (Tx×Tx×Tx)) (vp:(Tx×Tx×Int)->Int->Res (Tx×Tx×Int)) (tablet:Tx×Tx×Int) (state:Int×Int) (turn:Tx) (mark:Tx×Tx×Tx):Res Bool:=((vp tablet state.1).bind fun y1=>vt y1 turn).bind fun y2=>vw y2 mark
def tK (tablet:Tx×Tx×Int) (state:Int×Int) (turn:Tx) (mark:Tx×Tx×Tx):Res Bool:=zg vw vt vp tablet state turn mark
@[irreducible] def zh (uh:(Tx×Tx×Int)->(Int×Int)->Tx->Res (Int×Int)) (mN:(Int×Int)->Int->Int->Res Bool) (tK:(Tx×Tx×Int)->(Int×Int)->Tx->(Tx×Tx×Tx)->Res Bool) (tablet:Tx×Tx×Int) (mark:Tx×Tx×Tx) (loose:Int) (bound:Int) (state:Int×Int):Res (List (Tx×(Int×Int))):=(dQ (bK ([102,98,105]:Tx)) (fun(a3:Tx)=>(uh tablet state a3).bind fun y12=>As (a3,y12))).bind fun y15=>lM y15 (fun(a18:Tx×(Int×Int))=>((mN a18.2 loose bound).bind fun y31=>if y31 then tK tablet a18.2 a18.1 mark else As false).bind fun y33=>if y33 then As (some (a18.1,a18.2))else As none)
def jt (tablet:Tx×Tx×Int) (mark:Tx×Tx×Tx) (loose:Int) (bound:Int) (state:Int×Int):Res (List (Tx×(Int×Int))):=zh uh mN tK tablet mark loose bound state
@[irreducible] def zj (jt:(Tx×Tx×Int)->(Tx×Tx×Tx)->Int->Int->(Int×Int)->Res (List (Tx×(Int×Int)))) (tablet:Tx×Tx×Int) (mark:Tx×Tx×Tx) (loose:Int) (bound:Int) (states:List (Int×Int)):Res (List (Int×Int)):=(bN (fun(a6:Int×Int) (s8:List (Int×Int))=>(jt tablet mark loose bound a6).bind fun y36=>bN (fun(a20:Tx×(Int×Int)) (s22:List (Int×Int))=>mn s22 a20.2) y36 s8) states ([]:List (Int×Int))).bind fun k37=>sr k37
def nS (tablet:Tx×Tx×Int) (mark:Tx×Tx×Tx) (loose:Int) (bound:Int) (states:List (Int×Int)):Res (List (Int×Int)):=zj jt tablet mark loose bound states
@[irreducible] def wa (nS:(Tx×Tx×Int)->(Tx×Tx×Tx)->Int->Int->(List (Int×Int))->Res (List (Int×Int))) (tablet:Tx×Tx×Int) (loose:Int) (bound:Int) (a10:Tx×Tx×Tx) (s11:(List (List (Int×Int)))):Res (Fl (List (List (Int×Int))) (List (List (Int×Int)))):=((fV s11 (-(1:Int))).bind fun y32=>As y32.isEmpty).bind fun y33=>if y33 then As (.rt s11)else(((fV s11 (-(1:Int))).bind fun y36=>nS tablet a10 loose bound y36).bind fun y41=>gm s11 y41).bind fun y40=>As (.nx y40)
@[irreducible] def zk (mN:(Int×Int)->Int->Int->Res Bool) (nS:(Tx×Tx×Int)->(Tx×Tx×Tx)->Int->Int->(List (Int×Int))->Res (List (Int×Int))) (tablet:Tx×Tx×Int) (strip:List (Tx×Tx×Tx)) (loose:Int) (bound:Int):Res (List (List (Int×Int))):=(((mN (0,0) loose bound).bind fun y3=>if y3 then As [(0,0)]else As ([]:List (Int×Int))).bind fun y4=>As [y4]).bind fun y5=>(gf (wa nS tablet loose bound) strip y5).bind (fun | .nx s42=>(As s42) | .rt r=>As r | .bk _=>IU)
def vz (tablet:Tx×Tx×Int) (strip:List (Tx×Tx×Tx)) (loose:Int) (bound:Int):Res (List (List (Int×Int))):=zk mN nS tablet strip loose bound
@[irreducible] def xF (jt:(Tx×Tx×Int)->(Tx×Tx×Tx)->Int->Int->(Int×Int)->Res (List (Tx×(Int×Int)))) (tablet:Tx×Tx×Int) (strip:List (Tx×Tx×Tx)) (loose:Int) (bound:Int) (y3:List (List (Int×Int))) (a31:Int) (s32:(List (List ((Int×Int)×Int)))):Res (List (List ((Int×Int)×Int))):=(fV s32 (-(1:Int))).bind fun y57=>((fV y3 a31).bind fun y82=>bN (fun(a67:Int×Int) (s69:List ((Int×Int)×(List (Tx×(Int×Int)))))=>((fV strip a31).bind fun y80=>jt tablet y80 loose bound a67).bind fun y81=>gH s69 a67 y81) y82 ([]:List ((Int×Int)×(List (Tx×(Int×Int)))))).bind fun y83=>((bN (fun(a91:Int×Int) (s93:List ((Int×Int)×Int))=>(((getD y83 a91).bind fun y116=>dQ y116 (fun(a104:Tx×(Int×Int))=>getD y57 a104.2)).bind fun y117=>As y117.sum).bind fun y118=>gH s93 a91 y118) (y83.map (·.1)) ([]:List ((Int×Int)×Int))).bind fun y123=>gm s32 y123).bind fun y122=>As y122
@[irreducible] def zl (vz:(Tx×Tx×Int)->(List (Tx×Tx×Tx))->Int->Int->Res (List (List (Int×Int)))) (jt:(Tx×Tx×Int)->(Tx×Tx×Tx)->Int->Int->(Int×Int)->Res (List (Tx×(Int×Int)))) (tablet:Tx×Tx×Int) (strip:List (Tx×Tx×Tx)) (loose:Int) (bound:Int):Res (List (List ((Int×Int)×Int))):=(vz tablet strip loose bound).bind fun y3=>(((fV y3 (-(1:Int))).bind fun y24=>bN (fun(a13:Int×Int) (s15:List ((Int×Int)×Int))=>gH s15 a13 (1:Int)) y24 ([]:List ((Int×Int)×Int))).bind fun y25=>As [y25]).bind fun y26=>((l4 ((y3.length:Int)- (1:Int))).bind fun y124=>bN (xF jt tablet strip loose bound y3) y124 y26).bind fun s125=>As s125.reverse
def vA (tablet:Tx×Tx×Int) (strip:List (Tx×Tx×Tx)) (loose:Int) (bound:Int):Res (List (List ((Int×Int)×Int))):=zl vz jt tablet strip loose bound
@[irreducible] def zm (vA:(Tx×Tx×Int)->(List (Tx×Tx×Tx))->Int->Int->Res (List (List ((Int×Int)×Int)))) (tablet:Tx×Tx×Int) (strip:List (Tx×Tx×Tx)) (loose:Int) (bound:Int):Res Int:=((vA tablet strip loose bound).bind fun y1=>fV y1 (0:Int)).bind fun y2=>As (tu y2 (0,0) (0:Int))
def n6 (tablet:Tx×Tx×Int) (strip:List (Tx×Tx×Tx)) (loose:Int) (bound:Int):Res Int:=zm vA tablet strip loose bound
@[irreducible] def zo (Z2A:List (Tx×Tx×Tx)) (Z0y:Int) (Z2i:Int) (Z2j:Tx):Res (List (Tx×Tx×Tx)):=((fV Z2A Z0y).bind fun y3=>As [y3.1,y3.2.1,y3.2.2]).bind fun y4=>(gp y4 Z2i Z2j).bind fun y12=>(((rP y12).bind fun y13=>As [y13]).bind fun y14=>uC (cut Z2A none (some Z0y)) y14).bind fun y15=>uC y15 (cut Z2A (some (Z0y+(1:Int))) none)
def nU (Z2A:List (Tx×Tx×Tx)) (Z0y:Int) (Z2i:Int) (Z2j:Tx):Res (List (Tx×Tx×Tx)):=zo Z2A Z0y Z2i Z2j
@[irreducible] def fD (n6:(Tx×Tx×Int)->(List (Tx×Tx×Tx))->Int->Int->Res Int) (nU:(List (Tx×Tx×Tx))->Int->Int->Tx->Res (List (Tx×Tx×Tx))) (y1:(Tx×Tx×Int)×(List (Tx×Tx×Tx))×Int) (s29:Int) (y47:Int) (y53:Int) (a105:Tx) (s106:Int):Res (Fl Bool Int):=((nU y1.2.1 y47 y53 a105).bind fun y129=>n6 y1.1 y129 y1.2.2 s29).bind fun y130=>(if(!(gz 1 (Dat.i y130)))then As true else As (gz 0 (Dat.i y130))).bind fun y133=>if y133 then As (.rt false)else As (.nx (s106+y130))
@[irreducible] def p9 (ug:List Int->Int->Res ((Tx×Tx×Int)×(List (Tx×Tx×Tx))×Int)) (gh:List Int->Int->Res Int) (n6:(Tx×Tx×Int)->(List (Tx×Tx×Tx))->Int->Int->Res Int) (nU:(List (Tx×Tx×Tx))->Int->Int->Tx->Res (List (Tx×Tx×Tx))) (Z0e:List Int):Res Bool:=(ug Z0e (12:Int)).bind fun y1=>((gh Z0e (5:Int)).bind fun y14=>As (y14% 14)).bind fun y15=>(if(decide (y15=(13:Int)))then As (60:Int)else As y15:Res Int).bind fun s29=>if y1.2.1.isEmpty then(n6 y1.1 ([]:List (Tx×Tx×Tx)) y1.2.2 s29).bind fun y38=>yd y38 (1:Int)else((gh Z0e (6:Int)).bind fun y46=>iV y46 (y1.2.1.length:Int)).bind fun y47=>((gh Z0e (7:Int)).bind fun y52=>As (y52% 3)).bind fun y53=>(if(decide (y53< (2:Int)))then(lM (bK ([97,98,99,100,101,102,103,104,105,106,107,108,109,110,111,112,113,114,115,116,117,118,119,120,121,122]:Tx)) (fun(a68:Tx)=>(yG a68 y1.1.2.1).bind fun y79=>if y79 then As (some a68)else As none)).bind fun y88=>As y88 else As [([115]:Tx),([122]:Tx),([111]:Tx)]:Res (List Tx)).bind fun s92=>(gf (fD n6 nU y1 s29 y47 y53) s92 (0:Int)).bind (fun | .nx s144=>(((nU y1.2.1 y47 y53 ([63]:Tx)).bind fun y148=>n6 y1.1 y148 y1.2.2 s29).bind fun y149=>yd y149 s144) | .rt r=>As r | .bk _=>IU)
def tL (Z0e:List Int):Res Bool:=p9 ug gh n6 nU Z0e
end
end Mi
namespace Wb
open PySem L2 Mi
def tp (i:Nat):Stmt:=PySem.Challenge.pw_wornband_k33_worn_sign_told_each_way.main.body.getD i (.Pass ⟨0,0,0,0⟩)
end Wb
local macro_rules | `(tactic|walk_at "L")=>`(tactic|first | exact IX rfl | exact IJ rfl)
local macro_rules | `(tactic|walk_at "F")=>`(tactic|exact⟨rfl,rfl,rfl,by decide +kernel,rfl,by decide +kernel,by decide +kernel⟩)
namespace Wb
open PySem L2 Mi
section
variable {P:AI} {w:AQ} {K:PySem.W.Frag} {mg:Str->Option Am} {base:Heap}
theorem zN {f:Addr} {fd:AZ} (F:Fun K "_law_at" "_law_at" (tp 30) f fd) (h_len:mg "len" =none):FnOk P w K mg base CX0 (1) f fd ["_law_script","_law_k"] (bH (isScr K) isI (rs isI) (yI)):=by
 have SC:FnScope ["_law_script","_law_k"] ["_law_script","_law_k"] (defScope (tp 30)):=by walk_at "F"
 refine F.ok SC (fun vs H Q E h=>?_) (fun cdv A outer s H vs Q E hr h=>?_)
 ·obtain⟨_,_,_,_,_,_,rfl,_⟩:=h;rfl
 ·obtain⟨W0,Z0e,l_k,Z09,_,rfl,rfl,Z01,z_l_k,Er,hq⟩:=h
  cases z_l_k
  refine⟨_,(ae (bF (aG oh (pv 1) (aI (cH (K:=K) rfl) (by rfl) h_len PySem.boot_len (a5 (pv 0) aa)) (aJ _)) (af (az (ay (bG (K:=K) rfl) (pv 0) (pv 1) (fun _ _=>rfl)))) aO)
   (af (az (ag aA (ag eN (ag bC (ag eN (pv 1) a8) a8) (ag bC (aI (cH (K:=K) rfl) (by rfl) h_len PySem.boot_len (a5 (pv 0) aa)) a8)) a8)))),?_⟩
  have E0:Ext W0 W0:=.refl W0
  rw[show L2.start ["_law_script","_law_k"] [Z09,.int l_k]=[some Z09,some (.int l_k)]from rfl]
  unfold yI at hq
  refine fN (Er:=Er) (aM (dF (aV (a:=l_k)) (jR (bg Z01)))) (fun W1 e2=>?_)
  have E0:=E0.trans e2
  have Z01:=Al e2.g Z01
  by_cases hb13:(decide (l_k< (Z0e.length:Int)))=true
  ·rw[if_pos hb13]at hq ⊢
   exact bh (Er:=Er) (R:=sh isI) (rX (bg Z01) (aV (a:=l_k))) (B6 hq fun y3 hq v4 W5 e6 h7=>hq v4 W5 (E0.trans e6) h7)
  ·rw[if_neg hb13]at hq ⊢
   try dsimp only[aE]
   exact bh (Er:=Er) (R:=sh isI) (ai (fun _=>by decide) (kI (aZ (ai (fun _=>.inr ⟨by decide,by decide⟩) (aV (a:=l_k))) ah) (aZ (jR (bg Z01)) ah))) (B6 hq fun y9 hq v10 W11 e12 h13=>hq v10 W11 (E0.trans e12) h13)
theorem zO {f:Addr} {fd:AZ} (F:Fun K "_law_row" "_law_row" (tp 26) f fd) (h_abs:mg "abs" =none) (h_range:mg "range" =none):FnOk P w K mg base CX0 (1) f fd ["_law_cell","_law_many","_law_base"] (eg isI isI isI (ro isI) (yJ)):=by
 have SC:FnScope ["_law_cell","_law_many","_law_base","_law_now","_law_far","_law_mix","_law_out","_law_k"] ["_law_cell","_law_many","_law_base"] (defScope (tp 26)):=by walk_at "F"
 refine F.ok SC (fun vs H Q E h=>?_) (fun cdv A outer s H vs Q E hr h=>?_)
 ·obtain⟨_,_,_,_,_,_,_,_,rfl,_⟩:=h;rfl
 ·obtain⟨W0,Z00,Z0c,Z0o,_,_,_,rfl,rfl,Z0z,Z2B,ZaY,Er,hq⟩:=h
  cases Z0z
  cases Z2B
  cases ZaY
  refine⟨_,(ae (ak (i:=3) SC.nd rfl (by walk_at "L") (aI lA (by rfl) h_abs FO (a5 (pv 0) aa)))
   (ae (ak (i:=4) SC.nd rfl (by walk_at "L") (df rg (pv 3) (ag wz a8 a8) (aJ _)))
   (ae (ak (i:=5) SC.nd rfl (by walk_at "L") (ag aA (pv 3) a8))
   (ae (ak (i:=6) SC.nd rfl (by walk_at "L") (cw aa))
   (ae (dn BL rfl (gN rfl h_range (a5 (pv 1) aa)) (ao (i:=7) SC.nd rfl (by walk_at "L")) (ae (ak (i:=5) SC.nd rfl (by walk_at "L") (ag aA (ag bC (ag bC (ag eN (pv 5) a8) a8) (pv 7)) a8))
   (af (bF (Hf (g9 (d6 (pv 4)) (eL (aG vV (pv 3) a8 (aJ _))))) (ae (dN (cE (K:=K) rfl (pv 6) (a5 (ag aA (pv 3) (pv 2)) aa)))
   (af (ak (i:=3) SC.nd rfl (by walk_at "L") (ag b9 (pv 3) (pv 2))))) (af (dN (cE (K:=K) rfl (pv 6) (a5 (ag aA (ag aA (ag eN (pv 5) (pv 5)) a8) (pv 2)) aa))))))))
   (af (az (pv 6)))))))),?_⟩
  have E0:Ext W0 W0:=.refl W0
  rw[show L2.start ["_law_cell","_law_many","_law_base","_law_now","_law_far","_law_mix","_law_out","_law_k"] [.int Z00,.int Z0c,.int Z0o]=[some (.int Z00),some (.int Z0c),some (.int Z0o),none,none,none,none,none]from rfl]
  unfold yJ at hq
  refine aq (Er:=Er) (i:=3) (R:=sh isI) (σ':=fun v3=>[some (.int Z00),some (.int Z0c),some (.int Z0o),some v3,none,none,none,none]) (rS (aV (a:=Z00))) (fun v3 W1 e2 h4=>?_)
  cases h4
  have E0:=E0.trans e2
  refine aq (Er:=Er) (i:=4) (R:=sh isB) (σ':=fun v7=>[some (.int Z00),some (.int Z0c),some (.int Z0o),some (.int (cP Z00)),some v7,none,none,none]) (dF (aV (a:=cP Z00)) (uH (r:=1000000000000000000) (by decide) (by decide))) (fun v7 W5 e6 h8=>?_)
  cases h8
  have E0:=E0.trans e6
  refine aq (Er:=Er) (i:=5) (R:=sh isI) (σ':=fun v11=>[some (.int Z00),some (.int Z0c),some (.int Z0o),some (.int (cP Z00)),some (.bl (decide ((1000000000000000000:Int)<=cP Z00))),some v11,none,none]) (ai (fun _=>by decide) (aV (a:=cP Z00))) (fun v11 W9 e10 h12=>?_)
  cases h12
  have E0:=E0.trans e10
  refine cI (Er:=Er) (i:=6) (σ':=fun p15=>[some (.int Z00),some (.int Z0c),some (.int Z0o),some (.int (cP Z00)),some (.bl (decide ((1000000000000000000:Int)<=cP Z00))),some (.int ((cP Z00)% 2147483647)),some (.ref p15),none]) (eS (R:=isI)) (fun p15 W13 e14 hp16 o17=>?_)
  have fr18:=aQ E0.h hp16
  have E0:=E0.trans e14
  refine dG (Er:=Er) (f:=(xw Z00 Z0o)) (s0:=(((cP Z00)% 2147483647),cP Z00,([]:List Int))) (Iv:=fun(s21:(Int×Int×(List Int))) (W22:Wd) (g23:St)=>∃(d25:Option V),g23=[some (.int Z00),some (.int Z0c),some (.int Z0o),some (.int s21.2.1),some (.bl (decide ((1000000000000000000:Int)<=cP Z00))),some (.int s21.1),some (.ref p15),d25]/\Ext W0 W22/\Ow isI W22 p15 s21.2.2) (j5 (aV (a:=Z0c))) (Ak hq) ?_ ?_ ?_
  ·intro W37 e38
   have E0:=E0.trans e38
   have o17:=o17.mono e38
   exact⟨_,rfl,E0,o17⟩
  ·intro Wb26 W27 W28 a19 v29 s20 sg30 P31 hW32 hB33 iv e34 h35 hq
   obtain⟨d25,rfl,E0,o24⟩:=iv
   have E0:=E0.trans e34
   have hB33:=hB33.trans e34.g
   have o24:=o24.mono e34
   cases h35
   refine gn (σ':=[some (.int Z00),some (.int Z0c),some (.int Z0o),some (.int s20.2.1),some (.bl (decide ((1000000000000000000:Int)<=cP Z00))),some (.int s20.1),some (.ref p15),some (.int a19)]) ?_
   unfold xw at hq
   refine aq (Er:=Er) (i:=5) (R:=sh isI) (σ':=fun v43=>[some (.int Z00),some (.int Z0c),some (.int Z0o),some (.int s20.2.1),some (.bl (decide ((1000000000000000000:Int)<=cP Z00))),some v43,some (.ref p15),some (.int a19)]) (ai (fun _=>by decide) (aZ (aZ (ai (fun _=>.inr ⟨by decide,by decide⟩) (aV (a:=s20.1))) ah) (aV (a:=a19)))) (fun v43 W41 e42 h44=>?_)
   cases h44
   have E0:=E0.trans e42
   have hB33:=hB33.trans e42.g
   have o24:=o24.mono e42
   refine kO (Er:=Er) (Iv:=fun(s74:(Int×(List Int))) (W75:Wd) (g76:St)=>g76=[some (.int Z00),some (.int Z0c),some (.int Z0o),some (.int s74.1),some (.bl (decide ((1000000000000000000:Int)<=cP Z00))),some (.int ((((s20.1*48271)+(7919:Int))+a19)% 2147483647)),some (.ref p15),some (.int a19)]/\Ext W0 W75/\Ow isI W75 p15 s74.2) (iZ (qb (zI (a:=(decide ((1000000000000000000:Int)<=cP Z00))))) (aM (dF (aV (a:=s20.2.1)) ah))) (Ak hq) ?_ ?_ ?_
   ·intro W46 N49 e47 hN50 hq
    have hs51:=e47.g
    have E0:=E0.trans e47
    have hB33:=hB33.trans e47.g
    have o24:=o24.mono e47
    refine rW (Er:=Er) o24 (gW (aV (a:=s20.2.1)) (aV (a:=Z0o))) ((Ak hq).imp fun y55 hq W52 mu53 o54=>?_)
    have E0:=mu53.e _ E0 fr18
    have hB33:=hB33.trans mu53.g
    have hs51:=hs51.trans mu53.g
    refine cD (Er:=Er) (i:=3) (R:=sh isI) (σ':=fun v60=>[some (.int Z00),some (.int Z0c),some (.int Z0o),some v60,some (.bl (decide ((1000000000000000000:Int)<=cP Z00))),some (.int ((((s20.1*48271)+(7919:Int))+a19)% 2147483647)),some (.ref p15),some (.int a19)]) (oA (aV (a:=s20.2.1)) (aV (a:=Z0o))) ((Ak hq).imp fun y59 hq v60 W57 e58 h61=>?_)
    cases h61
    have E0:=E0.trans e58
    have hB33:=hB33.trans e58.g
    have hs51:=hs51.trans e58.g
    have o54:=o54.mono e58
    exact hN50 (y59,y55) W57 _ hs51 ⟨rfl,E0,o54⟩ hq
   ·intro W46 N49 e47 hN50 hq
    have hs62:=e47.g
    have E0:=E0.trans e47
    have hB33:=hB33.trans e47.g
    have o24:=o24.mono e47
    refine fw (Er:=Er) o24 (gW (ai (fun _=>by decide) (kI (aV (a:=((((s20.1*48271)+(7919:Int))+a19)% 2147483647))) (aV (a:=((((s20.1*48271)+(7919:Int))+a19)% 2147483647))))) (aV (a:=Z0o))) ((Ak hq).imp fun y68 hq W65 mu66 o67=>?_)
    have E0:=mu66.e _ E0 fr18
    have hB33:=hB33.trans mu66.g
    have hs62:=hs62.trans mu66.g
    exact hN50 (s20.2.1,y68) W65 _ hs62 ⟨rfl,E0,o67⟩ hq
   ·intro s70 W71 sg72 hS73 iv hq
    obtain⟨rfl,E0,o77⟩:=iv
    have hB33:=hB33.trans hS73
    try dsimp only
    refine dH (W:=W71) (((((s20.1*48271)+(7919:Int))+a19)% 2147483647),s70.1,s70.2) hB33 ?_ hq
    exact⟨_,rfl,E0,o77⟩
  ·intro s79 W80 sg81 hS82 iv hq
   obtain⟨d25,rfl,E0,o24⟩:=iv
   exact⟨.ref p15,rfl,hq p15 W80 E0 fr18 o24⟩
theorem zP {f:Addr} {fd:AZ} (F:Fun K "_law_holes" "_law_holes" (tp 27) f fd) {gM:Int->Int->Int->Res (List Int)} (Z0s:Cal P w K mg base "_law_row" ["_law_cell","_law_many","_law_base"] (1) (eg isI isI isI (ro isI) gM)):FnOk P w K mg base CX0 (2) f fd ["_law_cell"] (dt isI (rs isS) (yK gM)):=by
 have SC:FnScope ["_law_cell","_law_size","_law_draws","_law_out","_law_d"] ["_law_cell"] (defScope (tp 27)):=by walk_at "F"
 refine F.ok SC (fun vs H Q E h=>?_) (fun cdv A outer s H vs Q E hr h=>?_)
 ·obtain⟨_,_,_,_,rfl,_⟩:=h;rfl
 ·obtain⟨W0,Z00,_,rfl,rfl,Z0z,Er,hq⟩:=h
  cases Z0z
  refine⟨_,(ae (ak (i:=1) SC.nd rfl (by walk_at "L") (ay (bG (K:=K) rfl) (cw (a5 a8 (a5 a8 (a5 a8 (a5 a8 (a5 a8 aa)))))) (ag aA (pv 0) a8) (fun _ _=>rfl)))
   (ae (ak (i:=2) SC.nd rfl (by walk_at "L") (ar Z0s (hr.mono (by decide)) (by rfl) (a5 (ag b9 (pv 0) a8) (a5 a8 (a5 a8 aa)))))
   (ae (ak (i:=3) SC.nd rfl (by walk_at "L") aY)
   (ae (dn BL rfl (cC (K:=K) rfl (fk (iU (K:=K) rfl) (pv 2) gi (fK a8))) (ao (i:=4) SC.nd rfl (by walk_at "L")) (af (ak (i:=3) SC.nd rfl (by walk_at "L") (ag d9 (pv 3) (ay bP aY (ag aA (ag bC (ay (bG (K:=K) rfl) (pv 2) a8 (fun _ _=>rfl)) (ag eN (ag aA (pv 4) (pv 1)) a8)) a8) (fun _ _=>rfl))))))
   (af (az (pv 3))))))),?_⟩
  have E0:Ext W0 W0:=.refl W0
  rw[show L2.start ["_law_cell","_law_size","_law_draws","_law_out","_law_d"] [.int Z00]=[some (.int Z00),none,none,none,none]from rfl]
  unfold yK at hq
  refine aq (Er:=Er) (i:=1) (R:=sh isI) (σ':=fun v4=>[some (.int Z00),some v4,none,none,none]) (cX (EJ (eU (bB ah (bB ah (bB ah (bB ah (bB ah (eT (R:=isI))))))))) (ai (fun _=>by decide) (aV (a:=Z00)))) ((Ak hq).imp fun y3 hq v4 W1 e2 h5=>?_)
  cases h5
  have E0:=E0.trans e2
  refine aq (Er:=Er) (i:=2) (R:=sh (isL isI)) (σ':=fun v9=>[some (.int Z00),some (.int y3),some v9,none,none]) (CK (eE (ai (fun _=>⟨by decide,by decide⟩) (aV (a:=Z00))) ah ah)) ((Ak hq).imp fun y8 hq v9 W6 e7 h10=>?_)
  have E0:=E0.trans e7
  refine aq (Er:=Er) (i:=3) (R:=sh isS) (σ':=fun v13=>[some (.int Z00),some (.int y3),some v9,some v13,none]) (bb (x:=Av "") (l:=[]) (fU _ _ (by decide +kernel))) (fun v13 W11 e12 h14=>?_)
  cases h14
  have E0:=E0.trans e12
  have h10:=Al e12.g h10
  refine dG (Er:=Er) (f:=(xx y3 y8)) (s0:=([]:Tx)) (Iv:=fun(s17:Tx) (W18:Wd) (g19:St)=>∃(d20:Option V),g19=[some (.int Z00),some (.int y3),some v9,some (.str (sOf s17)),d20]/\Ext W0 W18) (cY (CK (kK (EK (bg h10)) lO (lP ah)))) (Ak hq) ?_ ?_ ?_
  ·intro W32 e33
   have E0:=E0.trans e33
   have h10:=Al e33.g h10
   exact⟨_,rfl,E0⟩
  ·intro Wb21 W22 W23 a15 v24 s16 sg25 P26 hW27 hB28 iv e29 h30 hq
   obtain⟨d20,rfl,E0⟩:=iv
   have h10:=Al hW27 h10
   have E0:=E0.trans e29
   have hB28:=hB28.trans e29.g
   have h10:=Al e29.g h10
   cases h30
   refine gn (σ':=[some (.int Z00),some (.int y3),some v9,some (.str (sOf s16)),some (.int a15)]) ?_
   unfold xx at hq
   refine cD (Er:=Er) (i:=3) (R:=sh isS) (σ':=fun v45=>[some (.int Z00),some (.int y3),some v9,some v45,some (.int a15)]) (fL (du (a:=s16)) (bR (bb (x:=Av "abcdefghijklmnopqrstuvwxyz") (l:=[97,98,99,100,101,102,103,104,105,106,107,108,109,110,111,112,113,114,115,116,117,118,119,120,121,122]) (fU _ _ (by decide +kernel))) (ai (fun _=>by decide) (aZ (cX (EK (bg h10)) ah) (ai (fun _=>.inr ⟨by decide,by decide⟩) (gW (aV (a:=a15)) (aV (a:=y3)))))))) ((Ak hq).imp fun y44 hq v45 W36 e37 h46=>?_)
   cases h46
   have E0:=E0.trans e37
   have hB28:=hB28.trans e37.g
   have h10:=Al e37.g h10
   try dsimp only
   refine dH (W:=W36) y44 hB28 ?_ hq
   exact⟨_,rfl,E0⟩
  ·intro s47 W48 sg49 hS50 iv hq
   obtain⟨d20,rfl,E0⟩:=iv
   exact bh (Er:=Er) (R:=sh isS) (du (a:=s47)) (fun v51 W52 e53 h54=>hq v51 W52 (E0.trans e53) h54)
theorem zQ {f:Addr} {fd:AZ} (F:Fun K "_law_card" "_law_card" (tp 28) f fd) {vd:Int->Res Tx} (Z2C:Cal P w K mg base "_law_holes" ["_law_cell"] (2) (dt isI (rs isS) vd)):FnOk P w K mg base CX0 (3) f fd ["_law_cell"] (dt isI (rs (qA K)) (yL vd)):=by
 have SC:FnScope ["_law_cell"] ["_law_cell"] (defScope (tp 28)):=by walk_at "F"
 refine F.ok SC (fun vs H Q E h=>?_) (fun cdv A outer s H vs Q E hr h=>?_)
 ·obtain⟨_,_,_,_,rfl,_⟩:=h;rfl
 ·obtain⟨W0,Z00,_,rfl,rfl,Z0z,Er,hq⟩:=h
  cases Z0z
  refine⟨_,(af (az (cN (a5 (ay bP aY (ag aA (pv 0) a8) (fun _ _=>rfl)) (a5 (ar Z2C (hr.mono (by decide)) (by rfl) (a5 (ag b9 (pv 0) a8) aa)) (a5 (ag aA (ag b9 (pv 0) a8) a8) aa)))))),?_⟩
  have E0:Ext W0 W0:=.refl W0
  rw[show L2.start ["_law_cell"] [.int Z00]=[some (.int Z00)]from rfl]
  unfold yL at hq
  exact bh (Er:=Er) (R:=sh (qA K)) (cW (K:=K) (bR (bb (x:=Av "SZ") (l:=[83,90]) (fU _ _ (by decide +kernel))) (ai (fun _=>by decide) (aV (a:=Z00)))) (cK (ai (fun _=>⟨by decide,by decide⟩) (aV (a:=Z00)))) (ai (fun _=>by decide) (ai (fun _=>⟨by decide,by decide⟩) (aV (a:=Z00))))) (B6 hq fun y3 hq v4 W5 e6 h7=>hq v4 W5 (E0.trans e6) h7)
theorem zR {f:Addr} {fd:AZ} (F:Fun K "_law_turns" "_law_turns" (tp 29) f fd) {gM:Int->Int->Int->Res (List Int)} (Z0s:Cal P w K mg base "_law_row" ["_law_cell","_law_many","_law_base"] (1) (eg isI isI isI (ro isI) gM)):FnOk P w K mg base CX0 (2) f fd ["_law_cell","_law_many"] (bH isI isI (rs isS) (yM gM)):=by
 have SC:FnScope ["_law_cell","_law_many"] ["_law_cell","_law_many"] (defScope (tp 29)):=by walk_at "F"
 refine F.ok SC (fun vs H Q E h=>?_) (fun cdv A outer s H vs Q E hr h=>?_)
 ·obtain⟨_,_,_,_,_,_,rfl,_⟩:=h;rfl
 ·obtain⟨W0,Z00,Z0c,_,_,rfl,rfl,Z0z,Z2B,Er,hq⟩:=h
  cases Z0z
  cases Z2B
  refine⟨_,(ae (bF (aG bZ (ag aA (pv 0) a8) a8 (aJ _)) (af (az (ag nq (ay bP aY (ag aA (ag b9 (pv 0) a8) a8) (fun _ _=>rfl)) (pv 1)))) aO)
   (af (az (j7 (K:=K) rfl aY (a5 (eQ (N:=["_law_d"]) (cap:=[none]) (gS rfl (by decide +kernel) rfl (by decide +kernel) (by rfl) (by rfl)) rfl (cC (K:=K) rfl (ar Z0s (hr.mono (by decide)) (by rfl) (a5 (ag b9 (pv 0) a8) (a5 (pv 1) (a5 a8 aa))))) (fun _ _ _ _=>(ao (i:=0) (show BQ (["_law_d"]:List Str) by decide +kernel) rfl (by walk_at "L"))) (fun _ _ _ _=>cM) (fun _ _ _ _=>(ay bP aY (pv 0) (fun _ _=>rfl)))) aa))))),?_⟩
  have E0:Ext W0 W0:=.refl W0
  rw[show L2.start ["_law_cell","_law_many"] [.int Z00,.int Z0c]=[some (.int Z00),some (.int Z0c)]from rfl]
  unfold yM at hq
  refine fN (Er:=Er) (aM (cQ (ai (fun _=>by decide) (aV (a:=Z00))) ah)) (fun W1 e2=>?_)
  have E0:=E0.trans e2
  by_cases hb24:(decide ((Z00% 7)=(3:Int)))=true
  ·rw[if_pos hb24]at hq ⊢
   exact bh (Er:=Er) (R:=sh isS) (uD (bR (bb (x:=Av "fbi") (l:=[102,98,105]) (fU _ _ (by decide +kernel))) (ai (fun _=>by decide) (ai (fun _=>⟨by decide,by decide⟩) (aV (a:=Z00))))) (aV (a:=Z0c))) (B6 hq fun y4 hq v5 W6 e7 h8=>hq v5 W6 (E0.trans e7) h8)
  ·rw[if_neg hb24]at hq ⊢
   try dsimp only[aE]
   exact bh (Er:=Er) (R:=sh isS) (kL (fU _ _ (by decide +kernel)) (EJ (eV (f:=fun(a9:Int)=>eB ([102,98,105]:Tx) a9) (cY (CK (eE (ai (fun _=>⟨by decide,by decide⟩) (aV (a:=Z00))) (aV (a:=Z0c)) ah))) fun W11 a9 v10 e12 h13 Q16 k17=>by
    cases h13
    refine gn ?_
    exact⟨by simp[Keep,bp],((bR (bb (x:=Av "fbi") (l:=[102,98,105]) (fU _ _ (by decide +kernel))) (aV (a:=a9))):EV Er _ [some (.int a9)] _ _ _) _ (.refl _) _ k17⟩))) (B6 hq fun y20 hq v21 W22 e23 h24=>hq v21 W22 (E0.trans e23) h24)
theorem zS {f:Addr} {fd:AZ} (F:Fun K "_law_go" "_law_go" (tp 32) f fd):FnOk P w K mg base CX0 (1) f fd ["_law_turn"] (dt isS (rs isI) (yN)):=by
 have SC:FnScope ["_law_turn"] ["_law_turn"] (defScope (tp 32)):=by walk_at "F"
 refine F.ok SC (fun vs H Q E h=>?_) (fun cdv A outer s H vs Q E hr h=>?_)
 ·obtain⟨_,_,_,_,rfl,_⟩:=h;rfl
 ·obtain⟨W0,Z0m,_,rfl,rfl,Z2D,Er,hq⟩:=h
  cases Z2D
  refine⟨_,(af (az (ag gP (eH (K:=K) rfl rfl aY (a5 (pv 0) aa)) a8))),?_⟩
  have E0:Ext W0 W0:=.refl W0
  rw[show L2.start ["_law_turn"] [.str (sOf Z0m)]=[some (.str (sOf Z0m))]from rfl]
  unfold yN at hq
  exact bh (Er:=Er) (R:=sh isI) (aZ (gr (bb (x:=Av "bif") (l:=[98,105,102]) (fU _ _ (by decide +kernel))) (du (a:=Z0m))) ah) (B6 hq fun y2 hq v3 W4 e5 h6=>hq v3 W4 (E0.trans e5) h6)
theorem zT {f:Addr} {fd:AZ} (F:Fun K "_law_behind" "_law_behind" (tp 33) f fd) {mZ:Tx->Res Int} (Z1a:Cal P w K mg base "_law_go" ["_law_turn"] (1) (dt isS (rs isI) mZ)):FnOk P w K mg base CX0 (2) f fd ["_law_card_here","_law_turn"] (bH (qA K) isS (rs (qA K)) (yO mZ)):=by
 have SC:FnScope ["_law_card_here","_law_turn"] ["_law_card_here","_law_turn"] (defScope (tp 33)):=by walk_at "F"
 refine F.ok SC (fun vs H Q E h=>?_) (fun cdv A outer s H vs Q E hr h=>?_)
 ·obtain⟨_,_,_,_,_,_,rfl,_⟩:=h;rfl
 ·obtain⟨W0,Z03,Z0m,Z0a,_,rfl,rfl,Z05,Z2D,Er,hq⟩:=h
  cases Z2D
  refine⟨_,(af (az (cN (a5 (ay (aN (K:=K) rfl) (pv 0) a8 (fun _ _=>rfl)) (a5 (ay (aN (K:=K) rfl) (pv 0) a8 (fun _ _=>rfl)) (a5 (ag aA (ag bC (ay (aN (K:=K) rfl) (pv 0) a8 (fun _ _=>rfl)) (ar Z1a (hr.mono (by decide)) (by rfl) (a5 (pv 1) aa))) a8) aa)))))),?_⟩
  have E0:Ext W0 W0:=.refl W0
  rw[show L2.start ["_law_card_here","_law_turn"] [Z0a,.str (sOf Z0m)]=[some Z0a,some (.str (sOf Z0m))]from rfl]
  unfold yO at hq
  exact bh (Er:=Er) (R:=sh (qA K)) (cW (K:=K) (bf (f:=fun(b:Tx×Tx×Int)=>b.1) lQ (bg Z05)) (bf (f:=fun(b:Tx×Tx×Int)=>b.2.1) j3 (bg Z05)) (ai (fun _=>by decide) (aZ (bf (f:=fun(b:Tx×Tx×Int)=>b.2.2) kJ (bg Z05)) (cK (du (a:=Z0m)))))) (B6 hq fun y4 hq v5 W6 e7 h8=>hq v5 W6 (E0.trans e7) h8)
theorem zU {f:Addr} {fd:AZ} (F:Fun K "_law_twist" "_law_twist" (tp 34) f fd) {mZ:Tx->Res Int} (Z1a:Cal P w K mg base "_law_go" ["_law_turn"] (1) (dt isS (rs isI) mZ)):FnOk P w K mg base CX0 (2) f fd ["_law_card_here","_law_turn"] (bH (qA K) isS (rs isI) (yP mZ)):=by
 have SC:FnScope ["_law_card_here","_law_turn"] ["_law_card_here","_law_turn"] (defScope (tp 34)):=by walk_at "F"
 refine F.ok SC (fun vs H Q E h=>?_) (fun cdv A outer s H vs Q E hr h=>?_)
 ·obtain⟨_,_,_,_,_,_,rfl,_⟩:=h;rfl
 ·obtain⟨W0,Z03,Z0m,Z0a,_,rfl,rfl,Z05,Z2D,Er,hq⟩:=h
  cases Z2D
  refine⟨_,(ae (bF (aG bZ (ay (aN (K:=K) rfl) (pv 0) a8 (fun _ _=>rfl)) aY (aJ _)) (af (az (ar Z1a (hr.mono (by decide)) (by rfl) (a5 (pv 1) aa)))) aO)
   (af (az (ag gP a8 (ar Z1a (hr.mono (by decide)) (by rfl) (a5 (pv 1) aa)))))),?_⟩
  have E0:Ext W0 W0:=.refl W0
  rw[show L2.start ["_law_card_here","_law_turn"] [Z0a,.str (sOf Z0m)]=[some Z0a,some (.str (sOf Z0m))]from rfl]
  unfold yP at hq
  refine fN (Er:=Er) (aM (gX (bf (f:=fun(b:Tx×Tx×Int)=>b.1) lQ (bg Z05)) (bb (x:=Av "S") (l:=[83]) (fU _ _ (by decide +kernel))))) (fun W1 e2=>?_)
  have E0:=E0.trans e2
  have Z05:=Al e2.g Z05
  by_cases hb13:(decide (Z03.1=([83]:Tx)))=true
  ·rw[if_pos hb13]at hq ⊢
   exact bh (Er:=Er) (R:=sh isI) (cK (du (a:=Z0m))) (B6 hq fun y3 hq v4 W5 e6 h7=>hq v4 W5 (E0.trans e6) h7)
  ·rw[if_neg hb13]at hq ⊢
   try dsimp only[aE]
   exact bh (Er:=Er) (R:=sh isI) (aZ ah (cK (du (a:=Z0m)))) (B6 hq fun y9 hq v10 W11 e12 h13=>hq v10 W11 (E0.trans e12) h13)
theorem zV {f:Addr} {fd:AZ} (F:Fun K "_law_places" "_law_places" (tp 35) f fd) {iB:(Tx×Tx×Int)->Tx->Res (Tx×Tx×Int)} {p7:(Tx×Tx×Int)->Tx->Res Int} (Z0J:Cal P w K mg base "_law_behind" ["_law_card_here","_law_turn"] (2) (bH (qA K) isS (rs (qA K)) iB)) (Z2E:Cal P w K mg base "_law_twist" ["_law_card_here","_law_turn"] (2) (bH (qA K) isS (rs isI) p7)):FnOk P w K mg base CX0 (3) f fd ["_law_card_here","_law_turns_here"] (bH (qA K) isS (ro (qB K)) (yQ iB p7)):=by
 have SC:FnScope ["_law_card_here","_law_turns_here","_law_out","_law_turn","_law_slant"] ["_law_card_here","_law_turns_here"] (defScope (tp 35)):=by walk_at "F"
 refine F.ok SC (fun vs H Q E h=>?_) (fun cdv A outer s H vs Q E hr h=>?_)
 ·obtain⟨_,_,_,_,_,_,rfl,_⟩:=h;rfl
 ·obtain⟨W0,Z03,Z04,Z0a,_,rfl,rfl,Z05,Z0A,Er,hq⟩:=h
  cases Z0A
  refine⟨_,(ae (ak (i:=2) SC.nd rfl (by walk_at "L") (cw aa))
   (ae (dn BL rfl (iP (pv 1)) (ao (i:=3) SC.nd rfl (by walk_at "L")) (ae (ak (i:=0) SC.nd rfl (by walk_at "L") (ar Z0J (hr.mono (by decide)) (by rfl) (a5 (pv 0) (a5 (pv 3) aa))))
   (ae (ak (i:=4) SC.nd rfl (by walk_at "L") (ay bP aY (ag bC (ar Z2E (hr.mono (by decide)) (by rfl) (a5 (pv 0) (a5 (pv 3) aa))) a8) (fun _ _=>rfl)))
   (af (dN (cE (K:=K) rfl (pv 2) (a5 (cN (a5 (ay bP (ay (aN (K:=K) rfl) (pv 0) a8 (fun _ _=>rfl)) (ay (aN (K:=K) rfl) (pv 0) a8 (fun _ _=>rfl)) (fun _ _=>rfl)) (a5 (ay bP (ay (aN (K:=K) rfl) (pv 0) a8 (fun _ _=>rfl)) (ag aA (ag bC (ay (aN (K:=K) rfl) (pv 0) a8 (fun _ _=>rfl)) a8) a8) (fun _ _=>rfl)) (a5 (pv 4) aa)))) aa)))))))
   (af (az (pv 2))))),?_⟩
  have E0:Ext W0 W0:=.refl W0
  rw[show L2.start ["_law_card_here","_law_turns_here","_law_out","_law_turn","_law_slant"] [Z0a,.str (sOf Z04)]=[some Z0a,some (.str (sOf Z04)),none,none,none]from rfl]
  unfold yQ at hq
  refine cI (Er:=Er) (i:=2) (σ':=fun p3=>[some Z0a,some (.str (sOf Z04)),some (.ref p3),none,none]) (eS (R:=(qB K))) (fun p3 W1 e2 hp4 o5=>?_)
  have fr6:=aQ E0.h hp4
  have E0:=E0.trans e2
  have Z05:=Al e2.g Z05
  refine dG (Er:=Er) (f:=(xA iB p7)) (s0:=(Z03,([]:List (Tx×Tx×Tx)))) (Iv:=fun(s9:((Tx×Tx×Int)×(List (Tx×Tx×Tx)))) (W10:Wd) (g11:St)=>∃(v12:V) (d15:Option V) (d16:Option V),g11=[some v12,some (.str (sOf Z04)),some (.ref p3),d16,d15]/\Ext W0 W10/\(qA K) W10.G s9.1 v12/\Ow (qB K) W10 p3 s9.2) (j4 (du (a:=Z04))) (Ak hq) ?_ ?_ ?_
  ·intro W28 e29
   have E0:=E0.trans e29
   have Z05:=Al e29.g Z05
   have o5:=o5.mono e29
   exact⟨_,_,_,rfl,E0,Z05,o5⟩
  ·intro Wb17 W18 W19 a7 v20 s8 sg21 P22 hW23 hB24 iv e25 h26 hq
   obtain⟨v12,d15,d16,rfl,E0,h13,o14⟩:=iv
   have E0:=E0.trans e25
   have hB24:=hB24.trans e25.g
   have o14:=o14.mono e25
   have h13:=Al e25.g h13
   cases h26
   refine gn (σ':=[some v12,some (.str (sOf Z04)),some (.ref p3),some (.str (sOf a7)),d15]) ?_
   unfold xA at hq
   refine aq (Er:=Er) (i:=0) (R:=sh (qA K)) (σ':=fun v35=>[some v35,some (.str (sOf Z04)),some (.ref p3),some (.str (sOf a7)),d15]) (aW (bg h13) (du (a:=a7))) ((Ak hq).imp fun y34 hq v35 W32 e33 h36=>?_)
   have E0:=E0.trans e33
   have hB24:=hB24.trans e33.g
   have o14:=o14.mono e33
   refine aq (Er:=Er) (i:=4) (R:=sh isS) (σ':=fun v42=>[some v35,some (.str (sOf Z04)),some (.ref p3),some (.str (sOf a7)),some v42]) (bR (bb (x:=Av "zos") (l:=[122,111,115]) (fU _ _ (by decide +kernel))) (aZ (aW (bg h36) (du (a:=a7))) ah)) ((Ak hq).imp fun y41 hq v42 W37 e38 h43=>?_)
   cases h43
   have E0:=E0.trans e38
   have hB24:=hB24.trans e38.g
   have o14:=o14.mono e38
   have h36:=Al e38.g h36
   refine fw (Er:=Er) o14 (cW (K:=K) (bR (bf (f:=fun(b:Tx×Tx×Int)=>b.2.1) j3 (bg h36)) (bf (f:=fun(b:Tx×Tx×Int)=>b.2.2) kJ (bg h36))) (bR (bf (f:=fun(b:Tx×Tx×Int)=>b.2.1) j3 (bg h36)) (ai (fun _=>by decide) (aZ (bf (f:=fun(b:Tx×Tx×Int)=>b.2.2) kJ (bg h36)) ah))) (du (a:=y41))) ((Ak hq).imp fun y49 hq W46 mu47 o48=>?_)
   have E0:=mu47.e _ E0 fr6
   have hB24:=hB24.trans mu47.g
   have h36:=Al mu47.g h36
   try dsimp only
   refine dH (W:=W46) (y34,y49) hB24 ?_ hq
   exact⟨_,_,_,rfl,E0,h36,o48⟩
  ·intro s51 W52 sg53 hS54 iv hq
   obtain⟨v12,d15,d16,rfl,E0,h13,o14⟩:=iv
   exact⟨.ref p3,rfl,hq p3 W52 E0 fr6 o14⟩
theorem zW {f:Addr} {fd:AZ} (F:Fun K "_law_long" "_law_long" (tp 37) f fd) {gM:Int->Int->Int->Res (List Int)} (Z0s:Cal P w K mg base "_law_row" ["_law_cell","_law_many","_law_base"] (1) (eg isI isI isI (ro isI) gM)) (h_len:mg "len" =none) (h_zip:mg "zip" =none):FnOk P w K mg base CX0 (2) f fd ["_law_places_here","_law_cell"] (bH (qD K) isI (ro (qB K)) (yR gM)):=by
 have SC:FnScope ["_law_places_here","_law_cell","_law_out","_law_worn","_law_draws","_law_place","_law_d","_law_at_here"] ["_law_places_here","_law_cell"] (defScope (tp 37)):=by walk_at "F"
 refine F.ok SC (fun vs H Q E h=>?_) (fun cdv A outer s H vs Q E hr h=>?_)
 ·obtain⟨_,_,_,_,_,_,rfl,_⟩:=h;rfl
 ·obtain⟨W0,Z0j,Z00,Z08,_,rfl,rfl,Z02,Z0z,Er,hq⟩:=h
  cases Z0z
  refine⟨_,(ae (ak (i:=2) SC.nd rfl (by walk_at "L") (cw aa))
   (ae (ak (i:=3) SC.nd rfl (by walk_at "L") a8)
   (ae (ak (i:=4) SC.nd rfl (by walk_at "L") (ar Z0s (hr.mono (by decide)) (by rfl) (a5 (ag b9 (pv 1) a8) (a5 (aI (cH (K:=K) rfl) (by rfl) h_len PySem.boot_len (a5 (pv 0) aa)) (a5 a8 aa)))))
   (ae (dn BL rfl (gk (K:=K) rfl rfl h_zip (a5 (pv 0) (a5 (pv 4) aa))) (cA (K:=K) (n:=2) rfl rfl (ax (ao (i:=5) SC.nd rfl (by walk_at "L")) (ax (ao (i:=6) SC.nd rfl (by walk_at "L")) cz))) (ae (bF (Hf (g9 (aG bZ (pv 6) a8 (aJ _)) (eL (aG oh (pv 3) a8 (aJ _))))) (ae (ak (i:=3) SC.nd rfl (by walk_at "L") (ag bC (pv 3) a8))
   (af (ak (i:=5) SC.nd rfl (by walk_at "L") (cN (a5 aY (a5 (ay (aN (K:=K) rfl) (pv 5) a8 (fun _ _=>rfl)) (a5 aY aa))))))) aO)
   (af (dN (cE (K:=K) rfl (pv 2) (a5 (pv 5) aa))))))
   (ae (bF (aG bZ (ag aA (pv 1) a8) a8 (aJ _)) (ae (ak (i:=7) SC.nd rfl (by walk_at "L") (ag aA (ag b9 (pv 1) a8) (aI (cH (K:=K) rfl) (by rfl) h_len PySem.boot_len (a5 (pv 0) aa))))
   (af (dY (cN (a5 (ay (aN (K:=K) rfl) (ay (bG (K:=K) rfl) (pv 2) (pv 7) (fun _ _=>rfl)) a8 (fun _ _=>rfl)) (a5 (ay (aN (K:=K) rfl) (ay (bG (K:=K) rfl) (pv 2) (pv 7) (fun _ _=>rfl)) a8 (fun _ _=>rfl)) (a5 (ay bP aY (ag aA (ag b9 (pv 1) a8) a8) (fun _ _=>rfl)) aa)))) (kg (pv 2) (pv 7) gj)))) aO)
   (af (az (pv 2)))))))),?_⟩
  have E0:Ext W0 W0:=.refl W0
  rw[show L2.start ["_law_places_here","_law_cell","_law_out","_law_worn","_law_draws","_law_place","_law_d","_law_at_here"] [Z08,.int Z00]=[some Z08,some (.int Z00),none,none,none,none,none,none]from rfl]
  unfold yR at hq
  refine cI (Er:=Er) (i:=2) (σ':=fun p3=>[some Z08,some (.int Z00),some (.ref p3),none,none,none,none,none]) (eS (R:=(qB K))) (fun p3 W1 e2 hp4 o5=>?_)
  have fr6:=aQ E0.h hp4
  have E0:=E0.trans e2
  have Z02:=Al e2.g Z02
  refine aq (Er:=Er) (i:=3) (R:=sh isI) (σ':=fun v9=>[some Z08,some (.int Z00),some (.ref p3),some v9,none,none,none,none]) ah (fun v9 W7 e8 h10=>?_)
  cases h10
  have E0:=E0.trans e8
  have Z02:=Al e8.g Z02
  have o5:=o5.mono e8
  refine aq (Er:=Er) (i:=4) (R:=sh (isL isI)) (σ':=fun v14=>[some Z08,some (.int Z00),some (.ref p3),some (.int (0:Int)),some v14,none,none,none]) (CK (eE (ai (fun _=>⟨by decide,by decide⟩) (aV (a:=Z00))) (gu (EK (bg Z02))) ah)) ((Ak hq).imp fun y13 hq v14 W11 e12 h15=>?_)
  have E0:=E0.trans e12
  have Z02:=Al e12.g Z02
  have o5:=o5.mono e12
  refine dG (Er:=Er) (f:=xB) (s0:=((0:Int),([]:List (Tx×Tx×Tx)))) (Iv:=fun(s18:(Int×(List (Tx×Tx×Tx)))) (W19:Wd) (g20:St)=>∃(d22:Option V) (d23:Option V),g20=[some Z08,some (.int Z00),some (.ref p3),some (.int s18.1),some v14,d22,d23,none]/\Ext W0 W19/\Ow (qB K) W19 p3 s18.2) (kM (hV (bg Z02)) (hV (bg h15))) (Ak hq) ?_ ?_ ?_
  ·intro W35 e36
   have E0:=E0.trans e36
   have Z02:=Al e36.g Z02
   have o5:=o5.mono e36
   exact⟨_,_,rfl,E0,o5⟩
  ·intro Wb24 W25 W26 a16 v27 s17 sg28 P29 hW30 hB31 iv e32 h33 hq
   obtain⟨d22,d23,rfl,E0,o21⟩:=iv
   have Z02:=Al hW30 Z02
   have E0:=E0.trans e32
   have hB31:=hB31.trans e32.g
   have Z02:=Al e32.g Z02
   have o21:=o21.mono e32
   refine kN (σ':=fun v41 v43=>[some Z08,some (.int Z00),some (.ref p3),some (.int s17.1),some v14,some v41,some v43,none]) h33 fun v41 v43 h42 h44=>?_
   cases h44
   unfold xB at hq
   refine bI (Er:=Er) (Iv:=fun(s65:(Int×(Tx×Tx×Tx))) (W66:Wd) (g67:St)=>∃(v68:V),g67=[some Z08,some (.int Z00),some (.ref p3),some (.int s65.1),some v14,some v68,some (.int a16.2),none]/\Ext W0 W66/\(qB K) W66.G s65.2 v68/\Ow (qB K) W66 p3 s17.2) (iZ (aM (cQ (aV (a:=a16.2)) ah)) (aM (dF (aV (a:=s17.1)) ah))) (Ak hq) ?_ ?_ ?_
   ·intro W46 N49 e47 hN50 hq
    have hs51:=e47.g
    have E0:=E0.trans e47
    have hB31:=hB31.trans e47.g
    have Z02:=Al e47.g Z02
    have o21:=o21.mono e47
    have h42:=Al e47.g h42
    refine aq (Er:=Er) (i:=3) (R:=sh isI) (σ':=fun v54=>[some Z08,some (.int Z00),some (.ref p3),some v54,some v14,some v41,some (.int a16.2),none]) (aZ (aV (a:=s17.1)) ah) (fun v54 W52 e53 h55=>?_)
    cases h55
    have E0:=E0.trans e53
    have hB31:=hB31.trans e53.g
    have hs51:=hs51.trans e53.g
    have Z02:=Al e53.g Z02
    have o21:=o21.mono e53
    have h42:=Al e53.g h42
    refine cD (Er:=Er) (i:=5) (R:=sh (qB K)) (σ':=fun v58=>[some Z08,some (.int Z00),some (.ref p3),some (.int (s17.1+(1:Int))),some v14,some v58,some (.int a16.2),none]) (cW (K:=K) (bb (x:=Av "?") (l:=[63]) (fU _ _ (by decide +kernel))) (bf (f:=fun(b:Tx×Tx×Tx)=>b.2.1) j3 (bg h42)) (bb (x:=Av "?") (l:=[63]) (fU _ _ (by decide +kernel)))) (fun v58 W56 e57 h59=>?_)
    have E0:=E0.trans e57
    have hB31:=hB31.trans e57.g
    have hs51:=hs51.trans e57.g
    have Z02:=Al e57.g Z02
    have o21:=o21.mono e57
    exact hN50 ((s17.1+(1:Int)),(([63]:Tx),a16.1.2.1,([63]:Tx))) W56 _ hs51 ⟨_,rfl,E0,h59,o21⟩ hq
   ·intro W46 N49 e47 hN50 hq
    have hs60:=e47.g
    have E0:=E0.trans e47
    have hB31:=hB31.trans e47.g
    have Z02:=Al e47.g Z02
    have o21:=o21.mono e47
    have h42:=Al e47.g h42
    try dsimp only[aE]
    exact hN50 (s17.1,a16.1) W46 _ hs60 ⟨_,rfl,E0,h42,o21⟩ hq
   ·intro s61 W62 sg63 hS64 iv hq
    obtain⟨v68,rfl,E0,h69,o70⟩:=iv
    have hB31:=hB31.trans hS64
    have Z02:=Al hS64 Z02
    refine fw (Er:=Er) o70 (bg h69) ((Ak hq).imp fun y74 hq W71 mu72 o73=>?_)
    have E0:=mu72.e _ E0 fr6
    have hB31:=hB31.trans mu72.g
    have Z02:=Al mu72.g Z02
    have h69:=Al mu72.g h69
    try dsimp only
    refine dH (W:=W71) (s61.1,y74) hB31 ?_ hq
    exact⟨_,_,rfl,E0,o73⟩
  ·intro s75 W76 sg77 hS78 iv hq
   obtain⟨d22,d23,rfl,E0,o21⟩:=iv
   have Z02:=Al hS78 Z02
   refine bI (Er:=Er) (Iv:=fun(s105:(List (Tx×Tx×Tx))) (W106:Wd) (g107:St)=>∃(d109:Option V),g107=[some Z08,some (.int Z00),some (.ref p3),some (.int s75.1),some v14,d22,d23,d109]/\Ext W0 W106/\Ow (qB K) W106 p3 s105) (aM (cQ (ai (fun _=>by decide) (aV (a:=Z00))) ah)) (Ak hq) ?_ ?_ ?_
   ·intro W79 N82 e80 hN83 hq
    have hs84:=e80.g
    have E0:=E0.trans e80
    have Z02:=Al e80.g Z02
    have o21:=o21.mono e80
    refine aq (Er:=Er) (i:=7) (R:=sh isI) (σ':=fun v88=>[some Z08,some (.int Z00),some (.ref p3),some (.int s75.1),some v14,d22,d23,some v88]) (gW (ai (fun _=>⟨by decide,by decide⟩) (aV (a:=Z00))) (gu (EK (bg Z02)))) ((Ak hq).imp fun y87 hq v88 W85 e86 h89=>?_)
    cases h89
    have E0:=E0.trans e86
    have hs84:=hs84.trans e86.g
    have o21:=o21.mono e86
    refine ir (Er:=Er) o21 (cW (K:=K) (bf (f:=fun(b:Tx×Tx×Tx)=>b.1) lQ (cX (cV o21) (aV (a:=y87)))) (bf (f:=fun(b:Tx×Tx×Tx)=>b.2.1) j3 (cX (cV o21) (aV (a:=y87)))) (bR (bb (x:=Av "szo") (l:=[115,122,111]) (fU _ _ (by decide +kernel))) (ai (fun _=>by decide) (ai (fun _=>⟨by decide,by decide⟩) (aV (a:=Z00)))))) (aV (a:=y87)) ((Ak hq).imp fun y99 hq W95 mu96 o97=>?_)
    have E0:=mu96.e _ E0 fr6
    have hs84:=hs84.trans mu96.g
    exact hN83 y99 W95 _ hs84 ⟨_,rfl,E0,o97⟩ hq
   ·intro W79 N82 e80 hN83 hq
    have hs100:=e80.g
    have E0:=E0.trans e80
    have Z02:=Al e80.g Z02
    have o21:=o21.mono e80
    try dsimp only[aE]
    exact hN83 s75.2 W79 _ hs100 ⟨_,rfl,E0,o21⟩ hq
   ·intro s101 W102 sg103 hS104 iv hq
    obtain⟨d109,rfl,E0,o108⟩:=iv
    exact⟨.ref p3,rfl,hq p3 W102 E0 fr6 o108⟩
theorem zX {f:Addr} {fd:AZ} (F:Fun K "_law_marks" "_law_marks" (tp 36) f fd) {gM:Int->Int->Int->Res (List Int)} (Z0s:Cal P w K mg base "_law_row" ["_law_cell","_law_many","_law_base"] (1) (eg isI isI isI (ro isI) gM)) (h_int:mg "int" =none) (h_len:mg "len" =none) (h_tuple:mg "tuple" =none) (h_zip:mg "zip" =none):FnOk P w K mg base CX0 (2) f fd ["_law_places_here","_law_cell","_law_lies"] (eg (qD K) isI isB (ro (qB K)) (yT gM)):=by
 have SC:FnScope ["_law_places_here","_law_cell","_law_lies","_law_out","_law_draws","_law_place","_law_d","_law_mark","_law_letters"] ["_law_places_here","_law_cell","_law_lies"] (defScope (tp 36)):=by walk_at "F"
 refine F.ok SC (fun vs H Q E h=>?_) (fun cdv A outer s H vs Q E hr h=>?_)
 ·obtain⟨_,_,_,_,_,_,_,_,rfl,_⟩:=h;rfl
 ·obtain⟨W0,Z0j,Z00,Z0v,Z08,_,_,rfl,rfl,Z02,Z0z,Zb1,Er,hq⟩:=h
  cases Z0z
  cases Zb1
  refine⟨_,(ae (ak (i:=3) SC.nd rfl (by walk_at "L") (cw aa))
   (ae (ak (i:=4) SC.nd rfl (by walk_at "L") (ar Z0s (hr.mono (by decide)) (by rfl) (a5 (ag b9 (pv 1) a8) (a5 (aI (cH (K:=K) rfl) (by rfl) h_len PySem.boot_len (a5 (pv 0) aa)) (a5 (ag bC a8 (ag eN a8 (fJ pL (by rfl) h_int Dn (a5 (pv 2) aa)))) aa)))))
   (ae (dn BL rfl (gk (K:=K) rfl rfl h_zip (a5 (pv 0) (a5 (pv 4) aa))) (cA (K:=K) (n:=2) rfl rfl (ax (ao (i:=5) SC.nd rfl (by walk_at "L")) (ax (ao (i:=6) SC.nd rfl (by walk_at "L")) cz))) (ae (bF (aG bZ (ag aA (pv 1) a8) a8 (aJ _)) (af (ak (i:=6) SC.nd rfl (by walk_at "L") (ag eN (ag b9 (pv 6) a8) a8))) aO)
   (ae (bF (aG bZ (ag aA (pv 1) a8) a8 (aJ _)) (af (ak (i:=6) SC.nd rfl (by walk_at "L") (ag bC (ag eN (ag b9 (pv 6) a8) a8) a8))) aO)
   (ae (ak (i:=7) SC.nd rfl (by walk_at "L") (cw (a5 (ay (aN (K:=K) rfl) (pv 5) a8 (fun _ _=>rfl)) (a5 (ay (aN (K:=K) rfl) (pv 5) a8 (fun _ _=>rfl)) (a5 (ay (aN (K:=K) rfl) (pv 5) a8 (fun _ _=>rfl)) aa)))))
   (ae (bF (Hf (g9 (aG rg (pv 6) a8 (aJ _)) (eL (aG oh (ag aA (pv 6) a8) a8 (aJ _))))) (ae (ak (i:=8) SC.nd rfl (by walk_at "L") aY)
   (af (dY (ay bP (pv 8) (ag bC (eH (K:=K) rfl rfl (pv 8) (a5 (ay (bG (K:=K) rfl) (pv 7) (ag aA (pv 6) a8) (fun _ _=>rfl)) aa)) a8) (fun _ _=>rfl)) (kg (pv 7) (ag aA (pv 6) a8) gj)))) aO)
   (ae (bF (Hf (g9 (aG rg (pv 6) a8 (aJ _)) (eL (aG bZ (ag aA (pv 6) a8) a8 (aJ _))))) (af (dY (ay bP aY (eH (K:=K) rfl rfl aY (a5 (ay (bG (K:=K) rfl) (pv 7) a8 (fun _ _=>rfl)) aa)) (fun _ _=>rfl)) (kg (pv 7) a8 gj))) aO)
   (af (dN (cE (K:=K) rfl (pv 3) (a5 (fJ (fz (K:=K) rfl) (by rfl) h_tuple D7 (a5 (eQ (N:=["_law_sign","_law_part","_law_d"]) (cap:=[none,none,some 6]) (gS rfl (by decide +kernel) rfl (by decide +kernel) (by rfl) (by rfl)) rfl (gk (K:=K) rfl rfl h_zip (a5 (pv 7) (a5 (cw (a5 a8 (a5 a8 (a5 a8 aa)))) aa))) (fun _ _ _ _=>(cA (K:=K) (n:=2) rfl rfl (ax (ao (i:=0) (show BQ (["_law_sign","_law_part","_law_d"]:List Str) by decide +kernel) rfl (by walk_at "L")) (ax (ao (i:=1) (show BQ (["_law_sign","_law_part","_law_d"]:List Str) by decide +kernel) rfl (by walk_at "L")) cz)))) (fun _ _ _ _=>cM) (fun _ _ _ _=>(fh (aG bZ (ag aA (ag b9 (pv 2) (pv 1)) a8) a8 (aJ _)) (pv 0) aY))) aa)) aa))))))))))
   (af (az (pv 3)))))),?_⟩
  have E0:Ext W0 W0:=.refl W0
  rw[show L2.start ["_law_places_here","_law_cell","_law_lies","_law_out","_law_draws","_law_place","_law_d","_law_mark","_law_letters"] [Z08,.int Z00,.bl Z0v]=[some Z08,some (.int Z00),some (.bl Z0v),none,none,none,none,none,none]from rfl]
  unfold yT at hq
  refine cI (Er:=Er) (i:=3) (σ':=fun p3=>[some Z08,some (.int Z00),some (.bl Z0v),some (.ref p3),none,none,none,none,none]) (eS (R:=(qB K))) (fun p3 W1 e2 hp4 o5=>?_)
  have fr6:=aQ E0.h hp4
  have E0:=E0.trans e2
  have Z02:=Al e2.g Z02
  refine aq (Er:=Er) (i:=4) (R:=sh (isL isI)) (σ':=fun v12=>[some Z08,some (.int Z00),some (.bl Z0v),some (.ref p3),some v12,none,none,none,none]) (CK (eE (ai (fun _=>⟨by decide,by decide⟩) (aV (a:=Z00))) (gu (EK (bg Z02))) (aZ ah (kI ah (uI (zI (a:=Z0v))))))) ((Ak hq).imp fun y11 hq v12 W7 e8 h13=>?_)
  have E0:=E0.trans e8
  have Z02:=Al e8.g Z02
  have o5:=o5.mono e8
  refine dG (Er:=Er) (f:=(xC Z00)) (s0:=([]:List (Tx×Tx×Tx))) (Iv:=fun(s16:(List (Tx×Tx×Tx))) (W17:Wd) (g18:St)=>∃(d20:Option V) (d21:Option V) (d22:Option V) (d23:Option V),g18=[some Z08,some (.int Z00),some (.bl Z0v),some (.ref p3),some v12,d23,d20,d21,d22]/\Ext W0 W17/\Ow (qB K) W17 p3 s16) (kM (hV (bg Z02)) (hV (bg h13))) (Ak hq) ?_ ?_ ?_
  ·intro W35 e36
   have E0:=E0.trans e36
   have o5:=o5.mono e36
   exact⟨_,_,_,_,rfl,E0,o5⟩
  ·intro Wb24 W25 W26 a14 v27 s15 sg28 P29 hW30 hB31 iv e32 h33 hq
   obtain⟨d20,d21,d22,d23,rfl,E0,o19⟩:=iv
   have E0:=E0.trans e32
   have hB31:=hB31.trans e32.g
   have o19:=o19.mono e32
   refine kN (σ':=fun v41 v43=>[some Z08,some (.int Z00),some (.bl Z0v),some (.ref p3),some v12,some v41,some v43,d21,d22]) h33 fun v41 v43 h42 h44=>?_
   cases h44
   unfold xC at hq
   refine bI (Er:=Er) (Iv:=fun(s60:Int) (W61:Wd) (g62:St)=>g62=[some Z08,some (.int Z00),some (.bl Z0v),some (.ref p3),some v12,some v41,some (.int s60),d21,d22]/\Ext W0 W61/\Ow (qB K) W61 p3 s15) (aM (cQ (ai (fun _=>by decide) (aV (a:=Z00))) ah)) (Ak hq) ?_ ?_ ?_
   ·intro W45 N48 e46 hN49 hq
    have hs50:=e46.g
    have E0:=E0.trans e46
    have hB31:=hB31.trans e46.g
    have o19:=o19.mono e46
    have h42:=Al e46.g h42
    refine cD (Er:=Er) (i:=6) (R:=sh isI) (σ':=fun v53=>[some Z08,some (.int Z00),some (.bl Z0v),some (.ref p3),some v12,some v41,some v53,d21,d22]) (ai (fun _=>.inr ⟨by decide,by decide⟩) (ai (fun _=>⟨by decide,by decide⟩) (aV (a:=a14.2)))) (fun v53 W51 e52 h54=>?_)
    cases h54
    have E0:=E0.trans e52
    have hB31:=hB31.trans e52.g
    have hs50:=hs50.trans e52.g
    have o19:=o19.mono e52
    have h42:=Al e52.g h42
    exact hN49 ((a14.2/ 8)*8) W51 _ hs50 ⟨rfl,E0,o19⟩ hq
   ·intro W45 N48 e46 hN49 hq
    have hs55:=e46.g
    have E0:=E0.trans e46
    have hB31:=hB31.trans e46.g
    have o19:=o19.mono e46
    have h42:=Al e46.g h42
    try dsimp only[aE]
    exact hN49 a14.2 W45 _ hs55 ⟨rfl,E0,o19⟩ hq
   ·intro s56 W57 sg58 hS59 iv hq
    obtain⟨rfl,E0,o63⟩:=iv
    have hB31:=hB31.trans hS59
    have h42:=Al hS59 h42
    refine bI (Er:=Er) (Iv:=fun(s79:Int) (W80:Wd) (g81:St)=>g81=[some Z08,some (.int Z00),some (.bl Z0v),some (.ref p3),some v12,some v41,some (.int s79),d21,d22]/\Ext W0 W80/\Ow (qB K) W80 p3 s15) (aM (cQ (ai (fun _=>by decide) (aV (a:=Z00))) ah)) (Ak hq) ?_ ?_ ?_
    ·intro W64 N67 e65 hN68 hq
     have hs69:=e65.g
     have E0:=E0.trans e65
     have hB31:=hB31.trans e65.g
     have o63:=o63.mono e65
     have h42:=Al e65.g h42
     refine cD (Er:=Er) (i:=6) (R:=sh isI) (σ':=fun v72=>[some Z08,some (.int Z00),some (.bl Z0v),some (.ref p3),some v12,some v41,some v72,d21,d22]) (aZ (ai (fun _=>.inr ⟨by decide,by decide⟩) (ai (fun _=>⟨by decide,by decide⟩) (aV (a:=s56)))) ah) (fun v72 W70 e71 h73=>?_)
     cases h73
     have E0:=E0.trans e71
     have hB31:=hB31.trans e71.g
     have hs69:=hs69.trans e71.g
     have o63:=o63.mono e71
     have h42:=Al e71.g h42
     exact hN68 (((s56/ 8)*8)+(7:Int)) W70 _ hs69 ⟨rfl,E0,o63⟩ hq
    ·intro W64 N67 e65 hN68 hq
     have hs74:=e65.g
     have E0:=E0.trans e65
     have hB31:=hB31.trans e65.g
     have o63:=o63.mono e65
     have h42:=Al e65.g h42
     try dsimp only[aE]
     exact hN68 s56 W64 _ hs74 ⟨rfl,E0,o63⟩ hq
    ·intro s75 W76 sg77 hS78 iv hq
     obtain⟨rfl,E0,o82⟩:=iv
     have hB31:=hB31.trans hS78
     have h42:=Al hS78 h42
     refine cI (Er:=Er) (i:=7) (σ':=fun p85=>[some Z08,some (.int Z00),some (.bl Z0v),some (.ref p3),some v12,some v41,some (.int s75),some (.ref p85),d22]) (eU (bB (bf (f:=fun(b:Tx×Tx×Tx)=>b.1) lQ (bg h42)) (bB (bf (f:=fun(b:Tx×Tx×Tx)=>b.2.1) j3 (bg h42)) (bB (bf (f:=fun(b:Tx×Tx×Tx)=>b.2.2) kJ (bg h42)) (eT (R:=isS)))))) (fun p85 W83 e84 hp86 o87=>?_)
     have ne88:=o82.ne hp86
     have fr89:=aQ E0.h hp86
     have E0:=E0.trans e84
     have hB31:=hB31.trans e84.g
     have o82:=o82.mono e84
     have h42:=Al e84.g h42
     refine bI (Er:=Er) (Iv:=fun(s114:(List Tx)) (W115:Wd) (g116:St)=>∃(d118:Option V),g116=[some Z08,some (.int Z00),some (.bl Z0v),some (.ref p3),some v12,some v41,some (.int s75),some (.ref p85),d118]/\Ext W0 W115/\Ow isS W115 p85 s114/\Ow (qB K) W115 p3 s15) (iZ (aM (dF (aV (a:=s75)) ah)) (aM (dF (ai (fun _=>by decide) (aV (a:=s75))) ah))) (Ak hq) ?_ ?_ ?_
     ·intro W91 N94 e92 hN95 hq
      have hs96:=e92.g
      have E0:=E0.trans e92
      have hB31:=hB31.trans e92.g
      have o82:=o82.mono e92
      have h42:=Al e92.g h42
      have o87:=o87.mono e92
      refine aq (Er:=Er) (i:=8) (R:=sh isS) (σ':=fun v99=>[some Z08,some (.int Z00),some (.bl Z0v),some (.ref p3),some v12,some v41,some (.int s75),some (.ref p85),some v99]) (bb (x:=Av "abcdefghijklmnopqrstuvwxyza") (l:=[97,98,99,100,101,102,103,104,105,106,107,108,109,110,111,112,113,114,115,116,117,118,119,120,121,122,97]) (fU _ _ (by decide +kernel))) (fun v99 W97 e98 h100=>?_)
      cases h100
      have E0:=E0.trans e98
      have hB31:=hB31.trans e98.g
      have hs96:=hs96.trans e98.g
      have o82:=o82.mono e98
      have h42:=Al e98.g h42
      have o87:=o87.mono e98
      refine ir (Er:=Er) o87 (bR (du (a:=([97,98,99,100,101,102,103,104,105,106,107,108,109,110,111,112,113,114,115,116,117,118,119,120,121,122,97]:Tx))) (aZ (gr (du (a:=([97,98,99,100,101,102,103,104,105,106,107,108,109,110,111,112,113,114,115,116,117,118,119,120,121,122,97]:Tx))) (cX (cV o87) (ai (fun _=>by decide) (aV (a:=s75))))) ah)) (ai (fun _=>by decide) (aV (a:=s75))) ((Ak hq).imp fun y108 hq W104 mu105 o106=>?_)
      have E0:=mu105.e _ E0 fr89
      have hB31:=hB31.trans mu105.g
      have hs96:=hs96.trans mu105.g
      have o82:=mu105.ow ne88 o82
      have h42:=Al mu105.g h42
      exact hN95 y108 W104 _ hs96 ⟨_,rfl,E0,o106,o82⟩ hq
     ·intro W91 N94 e92 hN95 hq
      have hs109:=e92.g
      have E0:=E0.trans e92
      have hB31:=hB31.trans e92.g
      have o82:=o82.mono e92
      have h42:=Al e92.g h42
      have o87:=o87.mono e92
      try dsimp only[aE]
      exact hN95 [a14.1.1,a14.1.2.1,a14.1.2.2] W91 _ hs109 ⟨_,rfl,E0,o87,o82⟩ hq
     ·intro s110 W111 sg112 hS113 iv hq
      obtain⟨d118,rfl,E0,o117,o119⟩:=iv
      have hB31:=hB31.trans hS113
      have h42:=Al hS113 h42
      refine bI (Er:=Er) (Iv:=fun(s139:(List Tx)) (W140:Wd) (g141:St)=>g141=[some Z08,some (.int Z00),some (.bl Z0v),some (.ref p3),some v12,some v41,some (.int s75),some (.ref p85),d118]/\Ext W0 W140/\Ow isS W140 p85 s139/\Ow (qB K) W140 p3 s15) (iZ (aM (dF (aV (a:=s75)) ah)) (aM (cQ (ai (fun _=>by decide) (aV (a:=s75))) ah))) (Ak hq) ?_ ?_ ?_
      ·intro W121 N124 e122 hN125 hq
       have hs126:=e122.g
       have E0:=E0.trans e122
       have hB31:=hB31.trans e122.g
       have o119:=o119.mono e122
       have h42:=Al e122.g h42
       have o117:=o117.mono e122
       refine ir (Er:=Er) o117 (bR (bb (x:=Av "zos") (l:=[122,111,115]) (fU _ _ (by decide +kernel))) (gr (bb (x:=Av "szo") (l:=[115,122,111]) (fU _ _ (by decide +kernel))) (cX (cV o117) ah))) ah ((Ak hq).imp fun y133 hq W129 mu130 o131=>?_)
       have E0:=mu130.e _ E0 fr89
       have hB31:=hB31.trans mu130.g
       have hs126:=hs126.trans mu130.g
       have o119:=mu130.ow ne88 o119
       have h42:=Al mu130.g h42
       exact hN125 y133 W129 _ hs126 ⟨rfl,E0,o131,o119⟩ hq
      ·intro W121 N124 e122 hN125 hq
       have hs134:=e122.g
       have E0:=E0.trans e122
       have hB31:=hB31.trans e122.g
       have o119:=o119.mono e122
       have h42:=Al e122.g h42
       have o117:=o117.mono e122
       try dsimp only[aE]
       exact hN125 s110 W121 _ hs134 ⟨rfl,E0,o117,o119⟩ hq
      ·intro s135 W136 sg137 hS138 iv hq
       obtain⟨rfl,E0,o142,o143⟩:=iv
       have hB31:=hB31.trans hS138
       have h42:=Al hS138 h42
       obtain⟨W144,hH145,E0,hS146,h148,hk147⟩:=o142.frz E0 fr89
       rw[<-hH145]
       have hB31:=hB31.trans hS146
       have o143:=o143.keep (by rw[hH145]) hS146 (hk147 _ ne88)
       have h42:=Al hS146 h42
       refine fw (Er:=Er) o143 (lU (EJ (eV (f:=fun(a149:Tx×Int)=>(((i9 s75 a149.2).bind fun y158=>As (y158% 2)).bind fun y159=>As (decide (y159=(1:Int)))).bind fun y160=>if y160 then As a149.1 else As ([63]:Tx)) (kM (hV (bg h148)) (hV (CK (eU (bB ah (bB ah (bB ah (eT (R:=isI))))))))) fun W151 a149 v150 e152 h153 Q161 k162=>by
        refine kN h153 fun v154 v156 h155 h157=>?_
        cases h155
        cases h157
        exact⟨by simp[Keep,bp],((lN (aM (cQ (ai (fun _=>by decide) (oA (aV (a:=s75)) (aV (a:=a149.2)))) ah)) (du (a:=a149.1)) (bb (x:=Av "?") (l:=[63]) (fU _ _ (by decide +kernel)))):EV Er _ [some (.str (sOf a149.1)),some (.int a149.2),some (.int s75)] _ _ _) _ (.refl _) _ k162⟩))) ((Ak hq).imp fun y167 hq W164 mu165 o166=>?_)
       have E0:=mu165.e _ E0 fr6
       have hB31:=hB31.trans mu165.g
       have h42:=Al mu165.g h42
       have h148:=Al mu165.g h148
       try dsimp only
       refine dH (W:=W164) y167 hB31 ?_ hq
       exact⟨_,_,_,_,rfl,E0,o166⟩
  ·intro s169 W170 sg171 hS172 iv hq
   obtain⟨d20,d21,d22,d23,rfl,E0,o19⟩:=iv
   exact⟨.ref p3,rfl,hq p3 W170 E0 fr6 o19⟩
theorem zY {f:Addr} {fd:AZ} (F:Fun K "_law_turnover" "_law_turnover" (tp 38) f fd):FnOk P w K mg base CX0 (1) f fd ["_law_card_here"] (dt (qA K) (rs (qA K)) (yV)):=by
 have SC:FnScope ["_law_card_here","_law_holes_here"] ["_law_card_here"] (defScope (tp 38)):=by walk_at "F"
 refine F.ok SC (fun vs H Q E h=>?_) (fun cdv A outer s H vs Q E hr h=>?_)
 ·obtain⟨_,_,_,_,rfl,_⟩:=h;rfl
 ·obtain⟨W0,Z03,Z0a,rfl,rfl,Z05,Er,hq⟩:=h
  refine⟨_,(ae (ak (i:=1) SC.nd rfl (by walk_at "L") (ay (aN (K:=K) rfl) (pv 0) a8 (fun _ _=>rfl)))
   (af (az (cN (a5 (ay bP aY (eH (K:=K) rfl rfl aY (a5 (ay (aN (K:=K) rfl) (pv 0) a8 (fun _ _=>rfl)) aa)) (fun _ _=>rfl)) (a5 (ag d9 (ag d9 (ag d9 (ay bP (pv 1) a8 (fun _ _=>rfl)) (ay bP (pv 1) a8 (fun _ _=>rfl))) (ay bP (pv 1) a8 (fun _ _=>rfl))) (ay bP (pv 1) a8 (fun _ _=>rfl))) (a5 (ag aA (ag gP a8 (ay (aN (K:=K) rfl) (pv 0) a8 (fun _ _=>rfl))) a8) aa))))))),?_⟩
  have E0:Ext W0 W0:=.refl W0
  rw[show L2.start ["_law_card_here","_law_holes_here"] [Z0a]=[some Z0a,none]from rfl]
  unfold yV at hq
  refine aq (Er:=Er) (i:=1) (R:=sh isS) (σ':=fun v3=>[some Z0a,some v3]) (bf (f:=fun(b:Tx×Tx×Int)=>b.2.1) j3 (bg Z05)) (fun v3 W1 e2 h4=>?_)
  cases h4
  have E0:=E0.trans e2
  have Z05:=Al e2.g Z05
  exact bh (Er:=Er) (R:=sh (qA K)) (cW (K:=K) (bR (bb (x:=Av "ZS") (l:=[90,83]) (fU _ _ (by decide +kernel))) (gr (bb (x:=Av "SZ") (l:=[83,90]) (fU _ _ (by decide +kernel))) (bf (f:=fun(b:Tx×Tx×Int)=>b.1) lQ (bg Z05)))) (fL (fL (fL (bR (du (a:=Z03.2.1)) ah) (bR (du (a:=Z03.2.1)) ah)) (bR (du (a:=Z03.2.1)) ah)) (bR (du (a:=Z03.2.1)) ah)) (ai (fun _=>by decide) (aZ ah (bf (f:=fun(b:Tx×Tx×Int)=>b.2.2) kJ (bg Z05))))) (B6 hq fun y14 hq v15 W16 e17 h18=>hq v15 W16 (E0.trans e17) h18)
theorem zZ {f:Addr} {fd:AZ} (F:Fun K "_law_back" "_law_back" (tp 39) f fd):FnOk P w K mg base CX0 (1) f fd ["_law_turns_here"] (dt isS (rs isS) (yW)):=by
 have SC:FnScope ["_law_turns_here"] ["_law_turns_here"] (defScope (tp 39)):=by walk_at "F"
 refine F.ok SC (fun vs H Q E h=>?_) (fun cdv A outer s H vs Q E hr h=>?_)
 ·obtain⟨_,_,_,_,rfl,_⟩:=h;rfl
 ·obtain⟨W0,Z04,_,rfl,rfl,Z0A,Er,hq⟩:=h
  cases Z0A
  refine⟨_,(af (az (j7 (K:=K) rfl aY (a5 (eQ (N:=["_law_turn"]) (cap:=[none]) (gS rfl (by decide +kernel) rfl (by decide +kernel) (by rfl) (by rfl)) rfl (iP (pv 0)) (fun _ _ _ _=>(ao (i:=0) (show BQ (["_law_turn"]:List Str) by decide +kernel) rfl (by walk_at "L"))) (fun _ _ _ _=>cM) (fun _ _ _ _=>(ay bP aY (eH (K:=K) rfl rfl aY (a5 (pv 0) aa)) (fun _ _=>rfl)))) aa)))),?_⟩
  have E0:Ext W0 W0:=.refl W0
  rw[show L2.start ["_law_turns_here"] [.str (sOf Z04)]=[some (.str (sOf Z04))]from rfl]
  unfold yW at hq
  exact bh (Er:=Er) (R:=sh isS) (kL (fU _ _ (by decide +kernel)) (EJ (eV (f:=fun(a1:Tx)=>(gU ([98,105,102]:Tx) a1).bind fun y8=>eB ([102,105,98]:Tx) y8) (j4 (du (a:=Z04))) fun W3 a1 v2 e4 h5 Q9 k10=>by
   cases h5
   refine gn ?_
   exact⟨by simp[Keep,bp],((bR (bb (x:=Av "fib") (l:=[102,105,98]) (fU _ _ (by decide +kernel))) (gr (bb (x:=Av "bif") (l:=[98,105,102]) (fU _ _ (by decide +kernel))) (du (a:=a1)))):EV Er _ [some (.str (sOf a1))] _ _ _) _ (.refl _) _ k10⟩))) (B6 hq fun y12 hq v13 W14 e15 h16=>hq v13 W14 (E0.trans e15) h16)
theorem A0 {f:Addr} {fd:AZ} (F:Fun K "_law_roll" "_law_roll" (tp 40) f fd) (h_range:mg "range" =none):FnOk P w K mg base CX0 (1) f fd ["_law_card_here","_law_many"] (bH (qA K) isI (rs (qA K)) (yX)):=by
 have SC:FnScope ["_law_card_here","_law_many","_law_holes_here"] ["_law_card_here","_law_many"] (defScope (tp 40)):=by walk_at "F"
 refine F.ok SC (fun vs H Q E h=>?_) (fun cdv A outer s H vs Q E hr h=>?_)
 ·obtain⟨_,_,_,_,_,_,rfl,_⟩:=h;rfl
 ·obtain⟨W0,Z03,Z0c,Z0a,_,rfl,rfl,Z05,Z2B,Er,hq⟩:=h
  cases Z2B
  refine⟨_,(ae (ak (i:=2) SC.nd rfl (by walk_at "L") (j7 (K:=K) rfl aY (a5 (eQ (N:=["_law_k","_law_card_here","_law_many"]) (cap:=[none,some 0,some 1]) (gS rfl (by decide +kernel) rfl (by decide +kernel) (by rfl) (by rfl)) rfl (gN rfl h_range (a5 a8 aa)) (fun _ _ _ _=>(ao (i:=0) (show BQ (["_law_k","_law_card_here","_law_many"]:List Str) by decide +kernel) rfl (by walk_at "L"))) (fun _ _ _ _=>cM) (fun _ _ _ _=>(ay bP (ay (aN (K:=K) rfl) (pv 1) a8 (fun _ _=>rfl)) (ag aA (ag gP (pv 0) (pv 2)) a8) (fun _ _=>rfl)))) aa)))
   (af (az (cN (a5 (ay (aN (K:=K) rfl) (pv 0) a8 (fun _ _=>rfl)) (a5 (pv 2) (a5 (ag aA (ag bC (ay (aN (K:=K) rfl) (pv 0) a8 (fun _ _=>rfl)) (pv 1)) a8) aa))))))),?_⟩
  have E0:Ext W0 W0:=.refl W0
  rw[show L2.start ["_law_card_here","_law_many","_law_holes_here"] [Z0a,.int Z0c]=[some Z0a,some (.int Z0c),none]from rfl]
  unfold yX at hq
  refine aq (Er:=Er) (i:=2) (R:=sh isS) (σ':=fun v16=>[some Z0a,some (.int Z0c),some v16]) (kL (fU _ _ (by decide +kernel)) (EJ (eV (f:=fun(a3:Int)=>eB Z03.2.1 ((a3- Z0c)% 4)) (j5 ah) fun W5 a3 v4 e6 h7 Q11 k12=>by
   have h8:=Br (R:=sh (qA K)) e6 Z05
   cases h7
   refine gn ?_
   exact⟨by simp[Keep,bp],((bR (bf (f:=fun(b:Tx×Tx×Int)=>b.2.1) j3 (bg h8)) (ai (fun _=>by decide) (aZ (aV (a:=a3)) (aV (a:=Z0c))))):EV Er _ [some (.int a3),some Z0a,some (.int Z0c)] _ _ _) _ (.refl _) _ k12⟩))) ((Ak hq).imp fun y15 hq v16 W1 e2 h17=>?_)
  cases h17
  have E0:=E0.trans e2
  have Z05:=Al e2.g Z05
  exact bh (Er:=Er) (R:=sh (qA K)) (cW (K:=K) (bf (f:=fun(b:Tx×Tx×Int)=>b.1) lQ (bg Z05)) (du (a:=y15)) (ai (fun _=>by decide) (aZ (bf (f:=fun(b:Tx×Tx×Int)=>b.2.2) kJ (bg Z05)) (aV (a:=Z0c))))) (fun v18 W19 e20 h21=>hq v18 W19 (E0.trans e20) h21)
theorem A1 {f:Addr} {fd:AZ} (F:Fun K "_law_seen" "_law_seen" (tp 41) f fd) {iB:(Tx×Tx×Int)->Tx->Res (Tx×Tx×Int)} (Z0J:Cal P w K mg base "_law_behind" ["_law_card_here","_law_turn"] (2) (bH (qA K) isS (rs (qA K)) iB)) (h_sorted:mg "sorted" =none):FnOk P w K mg base CX0 (3) f fd ["_law_card_here","_law_turns_here"] (bH (qA K) isS (ro isI) (yY iB)):=by
 have SC:FnScope ["_law_card_here","_law_turns_here","_law_out","_law_turn","_law_hole"] ["_law_card_here","_law_turns_here"] (defScope (tp 41)):=by walk_at "F"
 refine F.ok SC (fun vs H Q E h=>?_) (fun cdv A outer s H vs Q E hr h=>?_)
 ·obtain⟨_,_,_,_,_,_,rfl,_⟩:=h;rfl
 ·obtain⟨W0,Z03,Z04,Z0a,_,rfl,rfl,Z05,Z0A,Er,hq⟩:=h
  cases Z0A
  refine⟨_,(ae (ak (i:=2) SC.nd rfl (by walk_at "L") (cw aa))
   (ae (dn BL rfl (iP (pv 1)) (ao (i:=3) SC.nd rfl (by walk_at "L")) (ae (ak (i:=0) SC.nd rfl (by walk_at "L") (ar Z0J (hr.mono (by decide)) (by rfl) (a5 (pv 0) (a5 (pv 3) aa))))
   (af (dn BL rfl (cC (K:=K) rfl (cw (a5 (ay (aN (K:=K) rfl) (pv 0) a8 (fun _ _=>rfl)) (a5 (ag aA (ag bC (ay (aN (K:=K) rfl) (pv 0) a8 (fun _ _=>rfl)) a8) a8) aa)))) (ao (i:=4) SC.nd rfl (by walk_at "L")) (af (bF (aG (fX (K:=K) rfl) (pv 4) (pv 2) (by with_unfolding_all rfl)) (af (dN (cE (K:=K) rfl (pv 2) (a5 (pv 4) aa)))) aO))))))
   (af (az (aI (kH (K:=K) rfl) (by rfl) h_sorted Fb (a5 (pv 2) aa)))))),?_⟩
  have E0:Ext W0 W0:=.refl W0
  rw[show L2.start ["_law_card_here","_law_turns_here","_law_out","_law_turn","_law_hole"] [Z0a,.str (sOf Z04)]=[some Z0a,some (.str (sOf Z04)),none,none,none]from rfl]
  unfold yY at hq
  refine cI (Er:=Er) (i:=2) (σ':=fun p3=>[some Z0a,some (.str (sOf Z04)),some (.ref p3),none,none]) (eS (R:=isI)) (fun p3 W1 e2 hp4 o5=>?_)
  have fr6:=aQ E0.h hp4
  have E0:=E0.trans e2
  have Z05:=Al e2.g Z05
  refine dG (Er:=Er) (f:=(yy iB)) (s0:=(Z03,([]:List Int))) (Iv:=fun(s9:((Tx×Tx×Int)×(List Int))) (W10:Wd) (g11:St)=>∃(v12:V) (d15:Option V) (d16:Option V),g11=[some v12,some (.str (sOf Z04)),some (.ref p3),d16,d15]/\Ext W0 W10/\(qA K) W10.G s9.1 v12/\Ow isI W10 p3 s9.2) (j4 (du (a:=Z04))) (Ak hq) ?_ ?_ ?_
  ·intro W28 e29
   have E0:=E0.trans e29
   have Z05:=Al e29.g Z05
   have o5:=o5.mono e29
   exact⟨_,_,_,rfl,E0,Z05,o5⟩
  ·intro Wb17 W18 W19 a7 v20 s8 sg21 P22 hW23 hB24 iv e25 h26 hq
   obtain⟨v12,d15,d16,rfl,E0,h13,o14⟩:=iv
   have E0:=E0.trans e25
   have hB24:=hB24.trans e25.g
   have o14:=o14.mono e25
   have h13:=Al e25.g h13
   cases h26
   refine gn (σ':=[some v12,some (.str (sOf Z04)),some (.ref p3),some (.str (sOf a7)),d15]) ?_
   unfold yy at hq
   refine aq (Er:=Er) (i:=0) (R:=sh (qA K)) (σ':=fun v35=>[some v35,some (.str (sOf Z04)),some (.ref p3),some (.str (sOf a7)),d15]) (aW (bg h13) (du (a:=a7))) ((Ak hq).imp fun y34 hq v35 W32 e33 h36=>?_)
   have E0:=E0.trans e33
   have hB24:=hB24.trans e33.g
   have o14:=o14.mono e33
   refine nz (Er:=Er) (f:=xD) (s0:=s8.2) (Iv:=fun(s39:(List Int)) (W40:Wd) (g41:St)=>∃(d43:Option V),g41=[some v35,some (.str (sOf Z04)),some (.ref p3),some (.str (sOf a7)),d43]/\Ext W0 W40/\Ow isI W40 p3 s39) (cY (CK (eU (bB (bf (f:=fun(b:Tx×Tx×Int)=>b.2.2) kJ (bg h36)) (bB (ai (fun _=>by decide) (aZ (bf (f:=fun(b:Tx×Tx×Int)=>b.2.2) kJ (bg h36)) ah)) (eT (R:=isI))))))) (Ak hq) ?_ ?_ ?_
   ·intro W55 e56
    have E0:=E0.trans e56
    have hB24:=hB24.trans e56.g
    have o14:=o14.mono e56
    have h36:=Al e56.g h36
    exact⟨_,rfl,E0,o14⟩
   ·intro Wb44 W45 W46 a37 v47 s38 sg48 P49 hW50 hB51 iv e52 h53 hq
    obtain⟨d43,rfl,E0,o42⟩:=iv
    have hB24:=hB24.trans hW50
    have h36:=Al hW50 h36
    have E0:=E0.trans e52
    have hB24:=hB24.trans e52.g
    have hB51:=hB51.trans e52.g
    have o42:=o42.mono e52
    have h36:=Al e52.g h36
    cases h53
    refine gn (σ':=[some v35,some (.str (sOf Z04)),some (.ref p3),some (.str (sOf a7)),some (.int a37)]) ?_
    unfold xD at hq
    refine kO (Er:=Er) (Iv:=fun(s74:(List Int)) (W75:Wd) (g76:St)=>g76=[some v35,some (.str (sOf Z04)),some (.ref p3),some (.str (sOf a7)),some (.int a37)]/\Ext W0 W75/\Ow isI W75 p3 s74) (aM (j6 (aV (a:=a37)) (cV o42))) (Ak hq) ?_ ?_ ?_
    ·intro W59 N62 e60 hN63 hq
     have hs64:=e60.g
     have E0:=E0.trans e60
     have hB24:=hB24.trans e60.g
     have hB51:=hB51.trans e60.g
     have o42:=o42.mono e60
     have h36:=Al e60.g h36
     refine fw (Er:=Er) o42 (aV (a:=a37)) ((Ak hq).imp fun y68 hq W65 mu66 o67=>?_)
     have E0:=mu66.e _ E0 fr6
     have hB24:=hB24.trans mu66.g
     have hB51:=hB51.trans mu66.g
     have hs64:=hs64.trans mu66.g
     have h36:=Al mu66.g h36
     exact hN63 y68 W65 _ hs64 ⟨rfl,E0,o67⟩ hq
    ·intro W59 N62 e60 hN63 hq
     have hs69:=e60.g
     have E0:=E0.trans e60
     have hB24:=hB24.trans e60.g
     have hB51:=hB51.trans e60.g
     have o42:=o42.mono e60
     have h36:=Al e60.g h36
     try dsimp only[aE]
     exact hN63 s38 W59 _ hs69 ⟨rfl,E0,o42⟩ hq
    ·intro s70 W71 sg72 hS73 iv hq
     obtain⟨rfl,E0,o77⟩:=iv
     have hB24:=hB24.trans hS73
     have hB51:=hB51.trans hS73
     have h36:=Al hS73 h36
     try dsimp only
     refine dH (W:=W71) s70 hB51 ?_ hq
     exact⟨_,rfl,E0,o77⟩
   ·intro s78 W79 sg80 hS81 iv hq
    obtain⟨d43,rfl,E0,o42⟩:=iv
    have hB24:=hB24.trans hS81
    have h36:=Al hS81 h36
    try dsimp only
    refine dH (W:=W79) (y34,s78) hB24 ?_ hq
    exact⟨_,_,_,rfl,E0,h36,o42⟩
  ·intro s82 W83 sg84 hS85 iv hq
   obtain⟨v12,d15,d16,rfl,E0,h13,o14⟩:=iv
   exact gy (Er:=Er) (sd (cV o14)) (B6 hq fun y86 hq p87 W88 e89 hp90 o91=>hq p87 W88 (E0.trans e89) (aQ E0.h hp90) o91)
theorem A2 {f:Addr} {fd:AZ} (F:Fun K "_law_kin" "_law_kin" (tp 42) f fd) {vi:(Tx×Tx×Int)->Res (Tx×Tx×Int)} {vj:Tx->Res Tx} {vm:(Tx×Tx×Int)->Int->Res (Tx×Tx×Int)} {vn:(Tx×Tx×Int)->Tx->Res (List Int)} (Z1x:Cal P w K mg base "_law_turnover" ["_law_card_here"] (1) (dt (qA K) (rs (qA K)) vi)) (Z3e:Cal P w K mg base "_law_back" ["_law_turns_here"] (1) (dt isS (rs isS) vj)) (Z3f:Cal P w K mg base "_law_roll" ["_law_card_here","_law_many"] (1) (bH (qA K) isI (rs (qA K)) vm)) (Z3g:Cal P w K mg base "_law_seen" ["_law_card_here","_law_turns_here"] (3) (bH (qA K) isS (ro isI) vn)) (h_range:mg "range" =none):FnOk P w K mg base CX0 (4) f fd ["_law_card_here","_law_turns_here","_law_cell"] (eg (qA K) isS isI (rs (isT2 K (qA K) isS)) (yZ vi vj vm vn)):=by
 have SC:FnScope ["_law_card_here","_law_turns_here","_law_cell","_law_known","_law_hole","_law_colour"] ["_law_card_here","_law_turns_here","_law_cell"] (defScope (tp 42)):=by walk_at "F"
 refine F.ok SC (fun vs H Q E h=>?_) (fun cdv A outer s H vs Q E hr h=>?_)
 ·obtain⟨_,_,_,_,_,_,_,_,rfl,_⟩:=h;rfl
 ·obtain⟨W0,Z03,Z04,Z00,Z0a,_,_,rfl,rfl,Z05,Z0A,Z0z,Er,hq⟩:=h
  cases Z0A
  cases Z0z
  refine⟨_,(ae (bF (aG bZ (ag aA (pv 2) a8) a8 (aJ _)) (ae (ak (i:=0) SC.nd rfl (by walk_at "L") (ar Z1x (hr.mono (by decide)) (by rfl) (a5 (pv 0) aa)))
   (af (ak (i:=1) SC.nd rfl (by walk_at "L") (ar Z3e (hr.mono (by decide)) (by rfl) (a5 (pv 1) aa))))) aO)
   (ae (ak (i:=0) SC.nd rfl (by walk_at "L") (ar Z3f (hr.mono (by decide)) (by rfl) (a5 (pv 0) (a5 (ag aA (ag b9 (pv 2) a8) a8) aa))))
   (ae (bF (aG bZ (ag aA (ag b9 (pv 2) a8) a8) a8 (aJ _)) (ae (ak (i:=3) SC.nd rfl (by walk_at "L") (ar Z3g (hr.mono (by decide)) (by rfl) (a5 (pv 0) (a5 (pv 1) aa))))
   (af (dn BL rfl (gN rfl h_range (a5 a8 aa)) (ao (i:=4) SC.nd rfl (by walk_at "L")) (af (bF (aG (fX (K:=K) rfl) (pv 4) (pv 3) (by with_unfolding_all rfl)) (ae (ak (i:=5) SC.nd rfl (by walk_at "L") (ay bP aY (ag aA (ag bC (ag b9 (pv 2) a8) (ag eN a8 (pv 4))) a8) (fun _ _=>rfl)))
   (af (ak (i:=0) SC.nd rfl (by walk_at "L") (cN (a5 (ay (aN (K:=K) rfl) (pv 0) a8 (fun _ _=>rfl)) (a5 (ag d9 (ag d9 (fk rA (ay (aN (K:=K) rfl) (pv 0) a8 (fun _ _=>rfl)) gi (fK (pv 4))) (pv 5)) (fk rA (ay (aN (K:=K) rfl) (pv 0) a8 (fun _ _=>rfl)) (fK (ag bC (pv 4) a8)) gi)) (a5 (ay (aN (K:=K) rfl) (pv 0) a8 (fun _ _=>rfl)) aa))))))) aO))))) aO)
   (af (az (cN (a5 (pv 0) (a5 (pv 1) aa)))))))),?_⟩
  have E0:Ext W0 W0:=.refl W0
  rw[show L2.start ["_law_card_here","_law_turns_here","_law_cell","_law_known","_law_hole","_law_colour"] [Z0a,.str (sOf Z04),.int Z00]=[some Z0a,some (.str (sOf Z04)),some (.int Z00),none,none,none]from rfl]
  unfold yZ at hq
  refine bI (Er:=Er) (Iv:=fun(s22:((Tx×Tx×Int)×Tx)) (W23:Wd) (g24:St)=>∃(v25:V),g24=[some v25,some (.str (sOf s22.2)),some (.int Z00),none,none,none]/\Ext W0 W23/\(qA K) W23.G s22.1 v25) (aM (cQ (ai (fun _=>by decide) (aV (a:=Z00))) ah)) (Ak hq) ?_ ?_ ?_
  ·intro W1 N4 e2 hN5 hq
   have hs6:=e2.g
   have E0:=E0.trans e2
   have Z05:=Al e2.g Z05
   refine aq (Er:=Er) (i:=0) (R:=sh (qA K)) (σ':=fun v10=>[some v10,some (.str (sOf Z04)),some (.int Z00),none,none,none]) (cK (bg Z05)) ((Ak hq).imp fun y9 hq v10 W7 e8 h11=>?_)
   have E0:=E0.trans e8
   have hs6:=hs6.trans e8.g
   refine cD (Er:=Er) (i:=1) (R:=sh isS) (σ':=fun v15=>[some v10,some v15,some (.int Z00),none,none,none]) (cK (du (a:=Z04))) ((Ak hq).imp fun y14 hq v15 W12 e13 h16=>?_)
   cases h16
   have E0:=E0.trans e13
   have hs6:=hs6.trans e13.g
   have h11:=Al e13.g h11
   exact hN5 (y9,y14) W12 _ hs6 ⟨_,rfl,E0,h11⟩ hq
  ·intro W1 N4 e2 hN5 hq
   have hs17:=e2.g
   have E0:=E0.trans e2
   have Z05:=Al e2.g Z05
   try dsimp only[aE]
   exact hN5 (Z03,Z04) W1 _ hs17 ⟨_,rfl,E0,Z05⟩ hq
  ·intro s18 W19 sg20 hS21 iv hq
   obtain⟨v25,rfl,E0,h26⟩:=iv
   refine aq (Er:=Er) (i:=0) (R:=sh (qA K)) (σ':=fun v30=>[some v30,some (.str (sOf s18.2)),some (.int Z00),none,none,none]) (aW (bg h26) (ai (fun _=>by decide) (ai (fun _=>⟨by decide,by decide⟩) (aV (a:=Z00))))) ((Ak hq).imp fun y29 hq v30 W27 e28 h31=>?_)
   have E0:=E0.trans e28
   refine bI (Er:=Er) (Iv:=fun(s111:(Tx×Tx×Int)) (W112:Wd) (g113:St)=>∃(v114:V) (d116:Option V) (d117:Option V) (d118:Option V),g113=[some v114,some (.str (sOf s18.2)),some (.int Z00),d116,d117,d118]/\Ext W0 W112/\(qA K) W112.G s111 v114) (aM (cQ (ai (fun _=>by decide) (ai (fun _=>⟨by decide,by decide⟩) (aV (a:=Z00)))) ah)) (Ak hq) ?_ ?_ ?_
   ·intro W32 N35 e33 hN36 hq
    have hs37:=e33.g
    have E0:=E0.trans e33
    have h31:=Al e33.g h31
    refine aq (Er:=Er) (i:=3) (R:=sh (isL isI)) (σ':=fun v41=>[some v30,some (.str (sOf s18.2)),some (.int Z00),some v41,none,none]) (CK (gY (bg h31) (du (a:=s18.2)))) ((Ak hq).imp fun y40 hq v41 W38 e39 h42=>?_)
    have E0:=E0.trans e39
    have hs37:=hs37.trans e39.g
    have h31:=Al e39.g h31
    refine nz (Er:=Er) (f:=(xE Z00 y40)) (s0:=y29) (Iv:=fun(s45:(Tx×Tx×Int)) (W46:Wd) (g47:St)=>∃(v48:V) (d50:Option V) (d51:Option V),g47=[some v48,some (.str (sOf s18.2)),some (.int Z00),some v41,d51,d50]/\Ext W0 W46/\(qA K) W46.G s45 v48) (j5 ah) (Ak hq) ?_ ?_ ?_
    ·intro W63 e64
     have E0:=E0.trans e64
     have hs37:=hs37.trans e64.g
     have h31:=Al e64.g h31
     have h42:=Al e64.g h42
     exact⟨_,_,_,rfl,E0,h31⟩
    ·intro Wb52 W53 W54 a43 v55 s44 sg56 P57 hW58 hB59 iv e60 h61 hq
     obtain⟨v48,d50,d51,rfl,E0,h49⟩:=iv
     have hs37:=hs37.trans hW58
     have h42:=Al hW58 h42
     have E0:=E0.trans e60
     have hs37:=hs37.trans e60.g
     have hB59:=hB59.trans e60.g
     have h42:=Al e60.g h42
     have h49:=Al e60.g h49
     cases h61
     refine gn (σ':=[some v48,some (.str (sOf s18.2)),some (.int Z00),some v41,some (.int a43),d50]) ?_
     unfold xE at hq
     refine kO (Er:=Er) (Iv:=fun(s95:(Tx×Tx×Int)) (W96:Wd) (g97:St)=>∃(v98:V) (d100:Option V),g97=[some v98,some (.str (sOf s18.2)),some (.int Z00),some v41,some (.int a43),d100]/\Ext W0 W96/\(qA K) W96.G s95 v98) (aM (j6 (aV (a:=a43)) (EK (bg h42)))) (Ak hq) ?_ ?_ ?_
     ·intro W67 N70 e68 hN71 hq
      have hs72:=e68.g
      have E0:=E0.trans e68
      have hs37:=hs37.trans e68.g
      have hB59:=hB59.trans e68.g
      have h42:=Al e68.g h42
      have h49:=Al e68.g h49
      refine aq (Er:=Er) (i:=5) (R:=sh isS) (σ':=fun v79=>[some v48,some (.str (sOf s18.2)),some (.int Z00),some v41,some (.int a43),some v79]) (bR (bb (x:=Av "abcdefghijklmnopqrstuvwxyz") (l:=[97,98,99,100,101,102,103,104,105,106,107,108,109,110,111,112,113,114,115,116,117,118,119,120,121,122]) (fU _ _ (by decide +kernel))) (ai (fun _=>by decide) (aZ (ai (fun _=>⟨by decide,by decide⟩) (aV (a:=Z00))) (kI ah (aV (a:=a43)))))) ((Ak hq).imp fun y78 hq v79 W73 e74 h80=>?_)
      cases h80
      have E0:=E0.trans e74
      have hs37:=hs37.trans e74.g
      have hB59:=hB59.trans e74.g
      have hs72:=hs72.trans e74.g
      have h42:=Al e74.g h42
      have h49:=Al e74.g h49
      refine cD (Er:=Er) (i:=0) (R:=sh (qA K)) (σ':=fun v88=>[some v88,some (.str (sOf s18.2)),some (.int Z00),some v41,some (.int a43),some (.str (sOf y78))]) (cW (K:=K) (bf (f:=fun(b:Tx×Tx×Int)=>b.1) lQ (bg h49)) (fL (fL (oB (bf (f:=fun(b:Tx×Tx×Int)=>b.2.1) j3 (bg h49)) lO (lP (aV (a:=a43)))) (du (a:=y78))) (oB (bf (f:=fun(b:Tx×Tx×Int)=>b.2.1) j3 (bg h49)) (lP (aZ (aV (a:=a43)) ah)) lO)) (bf (f:=fun(b:Tx×Tx×Int)=>b.2.2) kJ (bg h49))) ((Ak hq).imp fun y87 hq v88 W81 e82 h89=>?_)
      have E0:=E0.trans e82
      have hs37:=hs37.trans e82.g
      have hB59:=hB59.trans e82.g
      have hs72:=hs72.trans e82.g
      have h42:=Al e82.g h42
      exact hN71 y87 W81 _ hs72 ⟨_,_,rfl,E0,h89⟩ hq
     ·intro W67 N70 e68 hN71 hq
      have hs90:=e68.g
      have E0:=E0.trans e68
      have hs37:=hs37.trans e68.g
      have hB59:=hB59.trans e68.g
      have h42:=Al e68.g h42
      have h49:=Al e68.g h49
      try dsimp only[aE]
      exact hN71 s44 W67 _ hs90 ⟨_,_,rfl,E0,h49⟩ hq
     ·intro s91 W92 sg93 hS94 iv hq
      obtain⟨v98,d100,rfl,E0,h99⟩:=iv
      have hs37:=hs37.trans hS94
      have hB59:=hB59.trans hS94
      have h42:=Al hS94 h42
      try dsimp only
      refine dH (W:=W92) s91 hB59 ?_ hq
      exact⟨_,_,_,rfl,E0,h99⟩
    ·intro s102 W103 sg104 hS105 iv hq
     obtain⟨v48,d50,d51,rfl,E0,h49⟩:=iv
     have hs37:=hs37.trans hS105
     exact hN36 s102 W103 _ hs37 ⟨_,_,_,_,rfl,E0,h49⟩ hq
   ·intro W32 N35 e33 hN36 hq
    have hs106:=e33.g
    have E0:=E0.trans e33
    have h31:=Al e33.g h31
    try dsimp only[aE]
    exact hN36 y29 W32 _ hs106 ⟨_,_,_,_,rfl,E0,h31⟩ hq
   ·intro s107 W108 sg109 hS110 iv hq
    obtain⟨v114,d116,d117,d118,rfl,E0,h115⟩:=iv
    exact bh (Er:=Er) (R:=sh (isT2 K (qA K) isS)) (iq (K:=K) (bg h115) (du (a:=s18.2))) (fun v119 W120 e121 h122=>hq v119 W120 (E0.trans e121) h122)
theorem A3 {f:Addr} {fd:AZ} (F:Fun K "_law_case" "_law_case" (tp 43) f fd) {uf:Int->Res (Tx×Tx×Int)} {gh:List Int->Int->Res Int} {ve:Int->Int->Res Tx} {vf:(Tx×Tx×Int)->Tx->Res (List (Tx×Tx×Tx))} {vg:(List (Tx×Tx×Tx))->Int->Res (List (Tx×Tx×Tx))} {vh:(List (Tx×Tx×Tx))->Int->Bool->Res (List (Tx×Tx×Tx))} {vo:(Tx×Tx×Int)->Tx->Int->Res ((Tx×Tx×Int)×Tx)} (Z21:Cal P w K mg base "_law_card" ["_law_cell"] (3) (dt isI (rs (qA K)) uf)) (Z0u:Cal P w K mg base "_law_at" ["_law_script","_law_k"] (1) (bH (isScr K) isI (rs isI) gh)) (Z2F:Cal P w K mg base "_law_turns" ["_law_cell","_law_many"] (2) (bH isI isI (rs isS) ve)) (Z2k:Cal P w K mg base "_law_places" ["_law_card_here","_law_turns_here"] (3) (bH (qA K) isS (ro (qB K)) vf)) (Z3h:Cal P w K mg base "_law_long" ["_law_places_here","_law_cell"] (2) (bH (qD K) isI (ro (qB K)) vg)) (Z2G:Cal P w K mg base "_law_marks" ["_law_places_here","_law_cell","_law_lies"] (2) (eg (qD K) isI isB (ro (qB K)) vh)) (Z3W:Cal P w K mg base "_law_kin" ["_law_card_here","_law_turns_here","_law_cell"] (4) (eg (qA K) isS isI (rs (isT2 K (qA K) isS)) vo)):FnOk P w K mg base CX0 (5) f fd ["_law_script","_law_most"] (bH (isScr K) isI (rs (isT3 K (qA K) (qD K) isI)) (z5 uf gh ve vf vg vh vo)):=by
 have SC:FnScope ["_law_script","_law_most","_law_card_here","_law_size","_law_cell","_law_many","_law_turns_here","_law_places_here","_law_strip","_law_side"] ["_law_script","_law_most"] (defScope (tp 43)):=by walk_at "F"
 refine F.ok SC (fun vs H Q E h=>?_) (fun cdv A outer s H vs Q E hr h=>?_)
 ·obtain⟨_,_,_,_,_,_,rfl,_⟩:=h;rfl
 ·obtain⟨W0,Z0e,Z0k,Z09,_,rfl,rfl,Z01,Zb6,Er,hq⟩:=h
  cases Zb6
  refine⟨_,(ae (ak (i:=2) SC.nd rfl (by walk_at "L") (ar Z21 (hr.mono (by decide)) (by rfl) (a5 (ar Z0u (hr.mono (by decide)) (by rfl) (a5 (pv 0) (a5 a8 aa))) aa)))
   (ae (ak (i:=3) SC.nd rfl (by walk_at "L") (ar Z0u (hr.mono (by decide)) (by rfl) (a5 (pv 0) (a5 a8 aa))))
   (ae (ak (i:=4) SC.nd rfl (by walk_at "L") (ar Z0u (hr.mono (by decide)) (by rfl) (a5 (pv 0) (a5 a8 aa))))
   (ae (ak (i:=5) SC.nd rfl (by walk_at "L") (ag aA (pv 3) (ag bC (pv 1) a8)))
   (ae (bF (aG bZ (ag aA (ag b9 (pv 3) a8) a8) a8 (aJ _)) (af (ak (i:=5) SC.nd rfl (by walk_at "L") (ag bC a8 (ag aA (ag b9 (pv 3) a8) a8)))) aO)
   (ae (bF (aG bZ (ag aA (ag b9 (pv 3) a8) a8) a8 (aJ _)) (af (ak (i:=5) SC.nd rfl (by walk_at "L") (ag bC a8 (ag aA (ag b9 (pv 3) a8) a8)))) aO)
   (ae (ak (i:=6) SC.nd rfl (by walk_at "L") (ar Z2F (hr.mono (by decide)) (by rfl) (a5 (ar Z0u (hr.mono (by decide)) (by rfl) (a5 (pv 0) (a5 a8 aa))) (a5 (pv 5) aa))))
   (ae (ak (i:=7) SC.nd rfl (by walk_at "L") (ar Z2k (hr.mono (by decide)) (by rfl) (a5 (pv 2) (a5 (pv 6) aa))))
   (ae (bF (aG vV (pv 5) (pv 1) (aJ _)) (af (ak (i:=8) SC.nd rfl (by walk_at "L") (ar Z3h (hr.mono (by decide)) (by rfl) (a5 (pv 7) (a5 (pv 4) aa))))) (af (ak (i:=8) SC.nd rfl (by walk_at "L") (ar Z2G (hr.mono (by decide)) (by rfl) (a5 (pv 7) (a5 (ag b9 (pv 4) a8) (a5 (df bZ (ag aA (pv 4) a8) a8 (aJ _)) aa)))))))
   (ae (ak (i:=9) SC.nd rfl (by walk_at "L") (ag b9 (ar Z0u (hr.mono (by decide)) (by rfl) (a5 (pv 0) (a5 a8 aa))) a8))
   (ae (bF (aG bZ (ag aA (pv 9) a8) a8 (aJ _)) (af (ak (i:=2) SC.nd rfl (by walk_at "L") (ay (aN (K:=K) rfl) (ar Z3W (hr.mono (by decide)) (by rfl) (a5 (pv 2) (a5 (pv 6) (a5 (ag b9 (pv 9) a8) aa)))) a8 (fun _ _=>rfl)))) aO)
   (ae (bF (aG bZ (ag aA (pv 9) a8) a8 (aJ _)) (af (ak (i:=2) SC.nd rfl (by walk_at "L") (ar Z21 (hr.mono (by decide)) (by rfl) (a5 (ag b9 (pv 9) a8) aa)))) aO)
   (af (az (cN (a5 (pv 2) (a5 (pv 8) (a5 (ag aA (ar Z0u (hr.mono (by decide)) (by rfl) (a5 (pv 0) (a5 a8 aa))) a8) aa)))))))))))))))))),?_⟩
  have E0:Ext W0 W0:=.refl W0
  rw[show L2.start ["_law_script","_law_most","_law_card_here","_law_size","_law_cell","_law_many","_law_turns_here","_law_places_here","_law_strip","_law_side"] [Z09,.int Z0k]=[some Z09,some (.int Z0k),none,none,none,none,none,none,none,none]from rfl]
  unfold z5 at hq
  refine aq (Er:=Er) (i:=2) (R:=sh (qA K)) (σ':=fun v5=>[some Z09,some (.int Z0k),some v5,none,none,none,none,none,none,none]) (cK (aW (bg Z01) ah)) ((Ak hq).imp fun y4 hq v5 W1 e2 h6=>?_)
  have E0:=E0.trans e2
  have Z01:=Al e2.g Z01
  refine aq (Er:=Er) (i:=3) (R:=sh isI) (σ':=fun v10=>[some Z09,some (.int Z0k),some v5,some v10,none,none,none,none,none,none]) (aW (bg Z01) ah) ((Ak hq).imp fun y9 hq v10 W7 e8 h11=>?_)
  cases h11
  have E0:=E0.trans e8
  have Z01:=Al e8.g Z01
  have h6:=Al e8.g h6
  refine aq (Er:=Er) (i:=4) (R:=sh isI) (σ':=fun v15=>[some Z09,some (.int Z0k),some v5,some (.int y9),some v15,none,none,none,none,none]) (aW (bg Z01) ah) ((Ak hq).imp fun y14 hq v15 W12 e13 h16=>?_)
  cases h16
  have E0:=E0.trans e13
  have Z01:=Al e13.g Z01
  have h6:=Al e13.g h6
  refine aq (Er:=Er) (i:=5) (R:=sh isI) (σ':=fun v20=>[some Z09,some (.int Z0k),some v5,some (.int y9),some (.int y14),some v20,none,none,none,none]) (gW (aV (a:=y9)) (aZ (aV (a:=Z0k)) ah)) ((Ak hq).imp fun y19 hq v20 W17 e18 h21=>?_)
  cases h21
  have E0:=E0.trans e18
  have Z01:=Al e18.g Z01
  have h6:=Al e18.g h6
  refine bI (Er:=Er) (Iv:=fun(s37:Int) (W38:Wd) (g39:St)=>g39=[some Z09,some (.int Z0k),some v5,some (.int y9),some (.int y14),some (.int s37),none,none,none,none]/\Ext W0 W38) (aM (cQ (ai (fun _=>by decide) (ai (fun _=>⟨by decide,by decide⟩) (aV (a:=y9)))) ah)) (Ak hq) ?_ ?_ ?_
  ·intro W22 N25 e23 hN26 hq
   have hs27:=e23.g
   have E0:=E0.trans e23
   have Z01:=Al e23.g Z01
   have h6:=Al e23.g h6
   refine cD (Er:=Er) (i:=5) (R:=sh isI) (σ':=fun v30=>[some Z09,some (.int Z0k),some v5,some (.int y9),some (.int y14),some v30,none,none,none,none]) (aZ ah (ai (fun _=>by decide) (ai (fun _=>⟨by decide,by decide⟩) (aV (a:=y9))))) (fun v30 W28 e29 h31=>?_)
   cases h31
   have E0:=E0.trans e29
   have hs27:=hs27.trans e29.g
   have Z01:=Al e29.g Z01
   have h6:=Al e29.g h6
   exact hN26 ((25:Int)+((y9/ 78)% 36)) W28 _ hs27 ⟨rfl,E0⟩ hq
  ·intro W22 N25 e23 hN26 hq
   have hs32:=e23.g
   have E0:=E0.trans e23
   have Z01:=Al e23.g Z01
   have h6:=Al e23.g h6
   try dsimp only[aE]
   exact hN26 y19 W22 _ hs32 ⟨rfl,E0⟩ hq
  ·intro s33 W34 sg35 hS36 iv hq
   obtain⟨rfl,E0⟩:=iv
   have Z01:=Al hS36 Z01
   have h6:=Al hS36 h6
   refine bI (Er:=Er) (Iv:=fun(s55:Int) (W56:Wd) (g57:St)=>g57=[some Z09,some (.int Z0k),some v5,some (.int y9),some (.int y14),some (.int s55),none,none,none,none]/\Ext W0 W56) (aM (cQ (ai (fun _=>by decide) (ai (fun _=>⟨by decide,by decide⟩) (aV (a:=y9)))) ah)) (Ak hq) ?_ ?_ ?_
   ·intro W40 N43 e41 hN44 hq
    have hs45:=e41.g
    have E0:=E0.trans e41
    have Z01:=Al e41.g Z01
    have h6:=Al e41.g h6
    refine cD (Er:=Er) (i:=5) (R:=sh isI) (σ':=fun v48=>[some Z09,some (.int Z0k),some v5,some (.int y9),some (.int y14),some v48,none,none,none,none]) (aZ ah (ai (fun _=>by decide) (ai (fun _=>⟨by decide,by decide⟩) (aV (a:=y9))))) (fun v48 W46 e47 h49=>?_)
    cases h49
    have E0:=E0.trans e47
    have hs45:=hs45.trans e47.g
    have Z01:=Al e47.g Z01
    have h6:=Al e47.g h6
    exact hN44 ((13:Int)+((y9/ 78)% 12)) W46 _ hs45 ⟨rfl,E0⟩ hq
   ·intro W40 N43 e41 hN44 hq
    have hs50:=e41.g
    have E0:=E0.trans e41
    have Z01:=Al e41.g Z01
    have h6:=Al e41.g h6
    try dsimp only[aE]
    exact hN44 s33 W40 _ hs50 ⟨rfl,E0⟩ hq
   ·intro s51 W52 sg53 hS54 iv hq
    obtain⟨rfl,E0⟩:=iv
    have Z01:=Al hS54 Z01
    have h6:=Al hS54 h6
    refine aq (Er:=Er) (i:=6) (R:=sh isS) (σ':=fun v62=>[some Z09,some (.int Z0k),some v5,some (.int y9),some (.int y14),some (.int s51),some v62,none,none,none]) (aW (aW (bg Z01) ah) (aV (a:=s51))) ((Ak hq).imp fun y61 hq v62 W58 e59 h63=>?_)
    cases h63
    have E0:=E0.trans e59
    have Z01:=Al e59.g Z01
    have h6:=Al e59.g h6
    refine aq (Er:=Er) (i:=7) (R:=sh (qD K)) (σ':=fun v67=>[some Z09,some (.int Z0k),some v5,some (.int y9),some (.int y14),some (.int s51),some (.str (sOf y61)),some v67,none,none]) (CK (gY (bg h6) (du (a:=y61)))) ((Ak hq).imp fun y66 hq v67 W64 e65 h68=>?_)
    have E0:=E0.trans e65
    have Z01:=Al e65.g Z01
    have h6:=Al e65.g h6
    refine bI (Er:=Er) (Iv:=fun(s90:(List (Tx×Tx×Tx))) (W91:Wd) (g92:St)=>∃(v93:V),g92=[some Z09,some (.int Z0k),some v5,some (.int y9),some (.int y14),some (.int s51),some (.str (sOf y61)),some v67,some v93,none]/\Ext W0 W91/\(qD K) W91.G s90 v93) (aM (dF (aV (a:=s51)) (aV (a:=Z0k)))) (Ak hq) ?_ ?_ ?_
    ·intro W69 N72 e70 hN73 hq
     have hs74:=e70.g
     have E0:=E0.trans e70
     have Z01:=Al e70.g Z01
     have h6:=Al e70.g h6
     have h68:=Al e70.g h68
     refine cD (Er:=Er) (i:=8) (R:=sh (qD K)) (σ':=fun v78=>[some Z09,some (.int Z0k),some v5,some (.int y9),some (.int y14),some (.int s51),some (.str (sOf y61)),some v67,some v78,none]) (CK (gY (bg h68) (aV (a:=y14)))) ((Ak hq).imp fun y77 hq v78 W75 e76 h79=>?_)
     have E0:=E0.trans e76
     have hs74:=hs74.trans e76.g
     have Z01:=Al e76.g Z01
     have h6:=Al e76.g h6
     exact hN73 y77 W75 _ hs74 ⟨_,rfl,E0,h79⟩ hq
    ·intro W69 N72 e70 hN73 hq
     have hs80:=e70.g
     have E0:=E0.trans e70
     have Z01:=Al e70.g Z01
     have h6:=Al e70.g h6
     have h68:=Al e70.g h68
     refine cD (Er:=Er) (i:=8) (R:=sh (qD K)) (σ':=fun v84=>[some Z09,some (.int Z0k),some v5,some (.int y9),some (.int y14),some (.int s51),some (.str (sOf y61)),some v67,some v84,none]) (CK (eE (bg h68) (ai (fun _=>⟨by decide,by decide⟩) (aV (a:=y14))) (cQ (ai (fun _=>by decide) (aV (a:=y14))) ah))) ((Ak hq).imp fun y83 hq v84 W81 e82 h85=>?_)
     have E0:=E0.trans e82
     have hs80:=hs80.trans e82.g
     have Z01:=Al e82.g Z01
     have h6:=Al e82.g h6
     exact hN73 y83 W81 _ hs80 ⟨_,rfl,E0,h85⟩ hq
    ·intro s86 W87 sg88 hS89 iv hq
     obtain⟨v93,rfl,E0,h94⟩:=iv
     have Z01:=Al hS89 Z01
     have h6:=Al hS89 h6
     refine aq (Er:=Er) (i:=9) (R:=sh isI) (σ':=fun v99=>[some Z09,some (.int Z0k),some v5,some (.int y9),some (.int y14),some (.int s51),some (.str (sOf y61)),some v67,some v93,some v99]) (ai (fun _=>⟨by decide,by decide⟩) (aW (bg Z01) ah)) ((Ak hq).imp fun y98 hq v99 W95 e96 h100=>?_)
     cases h100
     have E0:=E0.trans e96
     have Z01:=Al e96.g Z01
     have h6:=Al e96.g h6
     have h94:=Al e96.g h94
     refine bI (Er:=Er) (Iv:=fun(s118:(Tx×Tx×Int)) (W119:Wd) (g120:St)=>∃(v121:V),g120=[some Z09,some (.int Z0k),some v121,some (.int y9),some (.int y14),some (.int s51),some (.str (sOf y61)),some v67,some v93,some (.int y98)]/\Ext W0 W119/\(qA K) W119.G s118 v121) (aM (cQ (ai (fun _=>by decide) (aV (a:=y98))) ah)) (Ak hq) ?_ ?_ ?_
     ·intro W101 N104 e102 hN105 hq
      have hs106:=e102.g
      have E0:=E0.trans e102
      have Z01:=Al e102.g Z01
      have h6:=Al e102.g h6
      have h94:=Al e102.g h94
      refine cD (Er:=Er) (i:=2) (R:=sh (qA K)) (σ':=fun v111=>[some Z09,some (.int Z0k),some v111,some (.int y9),some (.int y14),some (.int s51),some (.str (sOf y61)),some v67,some v93,some (.int y98)]) (bf (f:=fun(b:(Tx×Tx×Int)×Tx)=>b.1) yj (gv (bg h6) (du (a:=y61)) (ai (fun _=>⟨by decide,by decide⟩) (aV (a:=y98))))) ((Ak hq).imp fun y110 hq v111 W107 e108 h112=>?_)
      have E0:=E0.trans e108
      have hs106:=hs106.trans e108.g
      have Z01:=Al e108.g Z01
      have h94:=Al e108.g h94
      exact hN105 y110 W107 _ hs106 ⟨_,rfl,E0,h112⟩ hq
     ·intro W101 N104 e102 hN105 hq
      have hs113:=e102.g
      have E0:=E0.trans e102
      have Z01:=Al e102.g Z01
      have h6:=Al e102.g h6
      have h94:=Al e102.g h94
      try dsimp only[aE]
      exact hN105 y4 W101 _ hs113 ⟨_,rfl,E0,h6⟩ hq
     ·intro s114 W115 sg116 hS117 iv hq
      obtain⟨v121,rfl,E0,h122⟩:=iv
      have Z01:=Al hS117 Z01
      have h94:=Al hS117 h94
      refine bI (Er:=Er) (Iv:=fun(s139:(Tx×Tx×Int)) (W140:Wd) (g141:St)=>∃(v142:V),g141=[some Z09,some (.int Z0k),some v142,some (.int y9),some (.int y14),some (.int s51),some (.str (sOf y61)),some v67,some v93,some (.int y98)]/\Ext W0 W140/\(qA K) W140.G s139 v142) (aM (cQ (ai (fun _=>by decide) (aV (a:=y98))) ah)) (Ak hq) ?_ ?_ ?_
      ·intro W123 N126 e124 hN127 hq
       have hs128:=e124.g
       have E0:=E0.trans e124
       have Z01:=Al e124.g Z01
       have h94:=Al e124.g h94
       have h122:=Al e124.g h122
       refine cD (Er:=Er) (i:=2) (R:=sh (qA K)) (σ':=fun v132=>[some Z09,some (.int Z0k),some v132,some (.int y9),some (.int y14),some (.int s51),some (.str (sOf y61)),some v67,some v93,some (.int y98)]) (cK (ai (fun _=>⟨by decide,by decide⟩) (aV (a:=y98)))) ((Ak hq).imp fun y131 hq v132 W129 e130 h133=>?_)
       have E0:=E0.trans e130
       have hs128:=hs128.trans e130.g
       have Z01:=Al e130.g Z01
       have h94:=Al e130.g h94
       exact hN127 y131 W129 _ hs128 ⟨_,rfl,E0,h133⟩ hq
      ·intro W123 N126 e124 hN127 hq
       have hs134:=e124.g
       have E0:=E0.trans e124
       have Z01:=Al e124.g Z01
       have h94:=Al e124.g h94
       have h122:=Al e124.g h122
       try dsimp only[aE]
       exact hN127 s114 W123 _ hs134 ⟨_,rfl,E0,h122⟩ hq
      ·intro s135 W136 sg137 hS138 iv hq
       obtain⟨v142,rfl,E0,h143⟩:=iv
       have Z01:=Al hS138 Z01
       have h94:=Al hS138 h94
       exact bh (Er:=Er) (R:=sh (isT3 K (qA K) (qD K) isI)) (cW (K:=K) (bg h143) (bg h94) (ai (fun _=>by decide) (aW (bg Z01) ah))) (B6 hq fun y146 hq v147 W148 e149 h150=>hq v147 W148 (E0.trans e149) h150)
theorem A4 {f:Addr} {fd:AZ} (F:Fun K "within" "within" (tp 18) f fd) (h_abs:mg "abs" =none):FnOk P w K mg base CX0 (1) f fd ["state","loose","bound"] (eg (qC K) isI isI (rs isB) (z6)):=by
 have SC:FnScope ["state","loose","bound","twist","idle"] ["state","loose","bound"] (defScope (tp 18)):=by walk_at "F"
 refine F.ok SC (fun vs H Q E h=>?_) (fun cdv A outer s H vs Q E hr h=>?_)
 ·obtain⟨_,_,_,_,_,_,_,_,rfl,_⟩:=h;rfl
 ·obtain⟨W0,state,loose,bound,Z0B,_,_,rfl,rfl,Z1Q,Z0S,Z0T,Er,hq⟩:=h
  cases Z0S
  cases Z0T
  refine⟨_,(ae (dY (pv 0) (cA (K:=K) (n:=2) rfl rfl (ax (ao (i:=3) SC.nd rfl (by walk_at "L")) (ax (ao (i:=4) SC.nd rfl (by walk_at "L")) cz))))
   (af (az (iI (df vU (aI lA (by rfl) h_abs FO (a5 (pv 3) aa)) (pv 2) (aJ _)) (iH (df vU (pv 4) (pv 1) (aJ _))))))),?_⟩
  have E0:Ext W0 W0:=.refl W0
  rw[show L2.start ["state","loose","bound","twist","idle"] [Z0B,.int loose,.int bound]=[some Z0B,some (.int loose),some (.int bound),none,none]from rfl]
  unfold z6 at hq
  refine eF (Er:=Er) (R:=sh (qC K)) (bg Z1Q) (fun v1 W2 e3 h4=>?_)
  have E0:=E0.trans e3
  refine kN (σ':=fun v5 v7=>[some Z0B,some (.int loose),some (.int bound),some v5,some v7]) h4 fun v5 v7 h6 h8=>?_
  cases h6
  cases h8
  exact bh (Er:=Er) (R:=sh isB) (wM (dF (rS (aV (a:=state.1))) (aV (a:=bound))) (dF (aV (a:=state.2)) (aV (a:=loose)))) (B6 hq fun y9 hq v10 W11 e12 h13=>hq v10 W11 (E0.trans e12) h13)
theorem A5 {f:Addr} {fd:AZ} (F:Fun K "twisting" "twisting" (tp 6) f fd) {Z1R:Addr} (Z6b:mg "STEPS" =some (.ref Z1R)) (Z6c:DictK K w Z1R [(CV (Av "f"),.int (1)),(CV (Av "b"),.int (-1)),(CV (Av "i"),.int (0))]):FnOk P w K mg base CX0 (1) f fd ["tablet","turn"] (bH (qA K) isS (rs isI) (z7)):=by
 have SC:FnScope ["tablet","turn","step"] ["tablet","turn"] (defScope (tp 6)):=by walk_at "F"
 refine F.ok SC (fun vs H Q E h=>?_) (fun cdv A outer s H vs Q E hr h=>?_)
 ·obtain⟨_,_,_,_,_,_,rfl,_⟩:=h;rfl
 ·obtain⟨W0,tablet,turn,Z07,_,rfl,rfl,Z06,Z2H,Er,hq⟩:=h
  cases Z2H
  refine⟨_,(ae (ak (i:=2) SC.nd rfl (by walk_at "L") (jN (K:=K) (w:=w) rfl rfl (de (v:=.ref _) (by rfl) Z6b rfl) (pv 1) (fun _ _=>rfl)))
   (af (az (fh (aG bZ (ay (aN (K:=K) rfl) (pv 0) a8 (fun _ _=>rfl)) aY (aJ _)) (pv 2) (jG gQ (pv 2)))))),?_⟩
  have E0:Ext W0 W0:=.refl W0
  rw[show L2.start ["tablet","turn","step"] [Z07,.str (sOf turn)]=[some Z07,some (.str (sOf turn)),none]from rfl]
  unfold z7 at hq
  refine aq (Er:=Er) (i:=2) (R:=sh isI) (σ':=fun v4=>[some Z07,some (.str (sOf turn)),some v4]) (qg Z6c (by decide +kernel) (du (a:=turn))) ((Ak hq).imp fun y3 hq v4 W1 e2 h5=>?_)
  cases h5
  have E0:=E0.trans e2
  have Z06:=Al e2.g Z06
  exact bh (Er:=Er) (R:=sh isI) (lN (aM (gX (bf (f:=fun(b:Tx×Tx×Int)=>b.1) lQ (bg Z06)) (bb (x:=Av "S") (l:=[83]) (fU _ _ (by decide +kernel))))) (aV (a:=y3)) (iY (aV (a:=y3)))) (B6 hq fun y6 hq v7 W8 e9 h10=>hq v7 W8 (E0.trans e9) h10)
theorem A6 {f:Addr} {fd:AZ} (F:Fun K "state_behind" "state_behind" (tp 17) f fd) {nR:(Tx×Tx×Int)->Tx->Res Int} (Z1i:Cal P w K mg base "twisting" ["tablet","turn"] (1) (bH (qA K) isS (rs isI) nR)):FnOk P w K mg base CX0 (2) f fd ["tablet","state","turn"] (eg (qA K) (qC K) isS (rs (qC K)) (z8 nR)):=by
 have SC:FnScope ["tablet","state","turn","twist","idle"] ["tablet","state","turn"] (defScope (tp 17)):=by walk_at "F"
 refine F.ok SC (fun vs H Q E h=>?_) (fun cdv A outer s H vs Q E hr h=>?_)
 ·obtain⟨_,_,_,_,_,_,_,_,rfl,_⟩:=h;rfl
 ·obtain⟨W0,tablet,state,turn,Z07,Z0B,_,rfl,rfl,Z06,Z1Q,Z2H,Er,hq⟩:=h
  cases Z2H
  refine⟨_,(ae (dY (pv 1) (cA (K:=K) (n:=2) rfl rfl (ax (ao (i:=3) SC.nd rfl (by walk_at "L")) (ax (ao (i:=4) SC.nd rfl (by walk_at "L")) cz))))
   (af (az (cN (a5 (ag bC (pv 3) (ar Z1i (hr.mono (by decide)) (by rfl) (a5 (pv 0) (a5 (pv 2) aa)))) (a5 (fh (aG bZ (pv 2) aY (aJ _)) (ag bC (pv 4) a8) a8) aa)))))),?_⟩
  have E0:Ext W0 W0:=.refl W0
  rw[show L2.start ["tablet","state","turn","twist","idle"] [Z07,Z0B,.str (sOf turn)]=[some Z07,some Z0B,some (.str (sOf turn)),none,none]from rfl]
  unfold z8 at hq
  refine eF (Er:=Er) (R:=sh (qC K)) (bg Z1Q) (fun v1 W2 e3 h4=>?_)
  have E0:=E0.trans e3
  have Z06:=Al e3.g Z06
  refine kN (σ':=fun v5 v7=>[some Z07,some Z0B,some (.str (sOf turn)),some v5,some v7]) h4 fun v5 v7 h6 h8=>?_
  cases h6
  cases h8
  exact bh (Er:=Er) (R:=sh (qC K)) (iq (K:=K) (aZ (aV (a:=state.1)) (aW (bg Z06) (du (a:=turn)))) (lN (aM (gX (du (a:=turn)) (bb (x:=Av "i") (l:=[105]) (fU _ _ (by decide +kernel))))) (aZ (aV (a:=state.2)) ah) ah)) (B6 hq fun y12 hq v13 W14 e15 h16=>hq v13 W14 (E0.trans e15) h16)
theorem A7 {f:Addr} {fd:AZ} (F:Fun K "twisted" "twisted" (tp 16) f fd) {Z1S:Tok} (Z1j:mg "HOLES" =some (.int 4 Z1S)):FnOk P w K mg base CX0 (1) f fd ["tablet","twist"] (bH (qA K) isI (rs (qA K)) (z9)):=by
 have SC:FnScope ["tablet","twist","lay","holes","stand"] ["tablet","twist"] (defScope (tp 16)):=by walk_at "F"
 refine F.ok SC (fun vs H Q E h=>?_) (fun cdv A outer s H vs Q E hr h=>?_)
 ·obtain⟨_,_,_,_,_,_,rfl,_⟩:=h;rfl
 ·obtain⟨W0,tablet,twist,Z07,_,rfl,rfl,Z06,ZbG,Er,hq⟩:=h
  cases ZbG
  refine⟨_,(ae (dY (pv 0) (cA (K:=K) (n:=3) rfl rfl (ax (ao (i:=2) SC.nd rfl (by walk_at "L")) (ax (ao (i:=3) SC.nd rfl (by walk_at "L")) (ax (ao (i:=4) SC.nd rfl (by walk_at "L")) cz)))))
   (af (az (cN (a5 (pv 2) (a5 (pv 3) (a5 (ag aA (fh (aG bZ (pv 2) aY (aJ _)) (ag bC (pv 4) (pv 1)) (ag gP (pv 4) (pv 1))) (de (v:=.int 4) (by rfl) Z1j ⟨_,rfl⟩)) aa))))))),?_⟩
  have E0:Ext W0 W0:=.refl W0
  rw[show L2.start ["tablet","twist","lay","holes","stand"] [Z07,.int twist]=[some Z07,some (.int twist),none,none,none]from rfl]
  unfold z9 at hq
  refine eF (Er:=Er) (R:=sh (qA K)) (bg Z06) (fun v1 W2 e3 h4=>?_)
  have E0:=E0.trans e3
  refine uE (σ':=fun v5 v7 v9=>[some Z07,some (.int twist),some v5,some v7,some v9]) h4 fun v5 v7 v9 h6 h8 h10=>?_
  cases h6
  cases h8
  cases h10
  exact bh (Er:=Er) (R:=sh (qA K)) (cW (K:=K) (du (a:=tablet.1)) (du (a:=tablet.2.1)) (ai (fun _=>by decide) (lN (aM (gX (du (a:=tablet.1)) (bb (x:=Av "S") (l:=[83]) (fU _ _ (by decide +kernel))))) (aZ (aV (a:=tablet.2.2)) (aV (a:=twist))) (aZ (aV (a:=tablet.2.2)) (aV (a:=twist)))))) (B6 hq fun y13 hq v14 W15 e16 h17=>hq v14 W15 (E0.trans e16) h17)
theorem yA {f:Addr} {fd:AZ} (F:Fun K "top" "top" (tp 4) f fd) {Z1S:Tok} (Z1j:mg "HOLES" =some (.int 4 Z1S)):FnOk P w K mg base CX0 (1) f fd ["tablet"] (dt (qA K) (rs isS) (p8)):=by
 have SC:FnScope ["tablet","lay","holes","stand"] ["tablet"] (defScope (tp 4)):=by walk_at "F"
 refine F.ok SC (fun vs H Q E h=>?_) (fun cdv A outer s H vs Q E hr h=>?_)
 ·obtain⟨_,_,_,_,rfl,_⟩:=h;rfl
 ·obtain⟨W0,tablet,Z07,rfl,rfl,Z06,Er,hq⟩:=h
  refine⟨_,(ae (dY (pv 0) (cA (K:=K) (n:=3) rfl rfl (ax (ao (i:=1) SC.nd rfl (by walk_at "L")) (ax (ao (i:=2) SC.nd rfl (by walk_at "L")) (ax (ao (i:=3) SC.nd rfl (by walk_at "L")) cz)))))
   (af (az (ay bP (pv 2) (ag aA (pv 3) (de (v:=.int 4) (by rfl) Z1j ⟨_,rfl⟩)) (fun _ _=>rfl))))),?_⟩
  have E0:Ext W0 W0:=.refl W0
  rw[show L2.start ["tablet","lay","holes","stand"] [Z07]=[some Z07,none,none,none]from rfl]
  unfold p8 at hq
  refine eF (Er:=Er) (R:=sh (qA K)) (bg Z06) (fun v1 W2 e3 h4=>?_)
  have E0:=E0.trans e3
  refine uE (σ':=fun v5 v7 v9=>[some Z07,some v5,some v7,some v9]) h4 fun v5 v7 v9 h6 h8 h10=>?_
  cases h6
  cases h8
  cases h10
  exact bh (Er:=Er) (R:=sh isS) (bR (du (a:=tablet.2.1)) (ai (fun _=>by decide) (aV (a:=tablet.2.2)))) (B6 hq fun y11 hq v12 W13 e14 h15=>hq v12 W13 (E0.trans e14) h15)
theorem A8 {f:Addr} {fd:AZ} (F:Fun K "bottom" "bottom" (tp 5) f fd) {Z1S:Tok} (Z1j:mg "HOLES" =some (.int 4 Z1S)):FnOk P w K mg base CX0 (1) f fd ["tablet"] (dt (qA K) (rs isS) (zc)):=by
 have SC:FnScope ["tablet","lay","holes","stand"] ["tablet"] (defScope (tp 5)):=by walk_at "F"
 refine F.ok SC (fun vs H Q E h=>?_) (fun cdv A outer s H vs Q E hr h=>?_)
 ·obtain⟨_,_,_,_,rfl,_⟩:=h;rfl
 ·obtain⟨W0,tablet,Z07,rfl,rfl,Z06,Er,hq⟩:=h
  refine⟨_,(ae (dY (pv 0) (cA (K:=K) (n:=3) rfl rfl (ax (ao (i:=1) SC.nd rfl (by walk_at "L")) (ax (ao (i:=2) SC.nd rfl (by walk_at "L")) (ax (ao (i:=3) SC.nd rfl (by walk_at "L")) cz)))))
   (af (az (ay bP (pv 2) (ag aA (ag bC (pv 3) a8) (de (v:=.int 4) (by rfl) Z1j ⟨_,rfl⟩)) (fun _ _=>rfl))))),?_⟩
  have E0:Ext W0 W0:=.refl W0
  rw[show L2.start ["tablet","lay","holes","stand"] [Z07]=[some Z07,none,none,none]from rfl]
  unfold zc at hq
  refine eF (Er:=Er) (R:=sh (qA K)) (bg Z06) (fun v1 W2 e3 h4=>?_)
  have E0:=E0.trans e3
  refine uE (σ':=fun v5 v7 v9=>[some Z07,some v5,some v7,some v9]) h4 fun v5 v7 v9 h6 h8 h10=>?_
  cases h6
  cases h8
  cases h10
  exact bh (Er:=Er) (R:=sh isS) (bR (du (a:=tablet.2.1)) (ai (fun _=>by decide) (aZ (aV (a:=tablet.2.2)) ah))) (B6 hq fun y11 hq v12 W13 e14 h15=>hq v12 W13 (E0.trans e14) h15)
theorem A9 {f:Addr} {fd:AZ} (F:Fun K "left_place" "left_place" (tp 9) f fd) {gJ:(Tx×Tx×Int)->Res Tx} {vq:(Tx×Tx×Int)->Res Tx} {nR:(Tx×Tx×Int)->Tx->Res Int} (C_top:Cal P w K mg base "top" ["tablet"] (1) (dt (qA K) (rs isS) gJ)) (Z58:Cal P w K mg base "bottom" ["tablet"] (1) (dt (qA K) (rs isS) vq)) (Z1i:Cal P w K mg base "twisting" ["tablet","turn"] (1) (bH (qA K) isS (rs isI) nR)) {Z1u:Addr} (Z59:mg "SLANTS" =some (.ref Z1u)) (Z5a:DictK K w Z1u [(CU (1),.str (Av "s")),(CU (-1),.str (Av "z")),(CU (0),.str (Av "o"))]):FnOk P w K mg base CX0 (2) f fd ["tablet","turn"] (bH (qA K) isS (rs (qB K)) (zd gJ vq nR)):=by
 have SC:FnScope ["tablet","turn"] ["tablet","turn"] (defScope (tp 9)):=by walk_at "F"
 refine F.ok SC (fun vs H Q E h=>?_) (fun cdv A outer s H vs Q E hr h=>?_)
 ·obtain⟨_,_,_,_,_,_,rfl,_⟩:=h;rfl
 ·obtain⟨W0,tablet,turn,Z07,_,rfl,rfl,Z06,Z2H,Er,hq⟩:=h
  cases Z2H
  refine⟨_,(af (az (cN (a5 (ar C_top (hr.mono (by decide)) (by rfl) (a5 (pv 0) aa)) (a5 (ar Z58 (hr.mono (by decide)) (by rfl) (a5 (pv 0) aa)) (a5 (jN (K:=K) (w:=w) rfl rfl (de (v:=.ref _) (by rfl) Z59 rfl) (ar Z1i (hr.mono (by decide)) (by rfl) (a5 (pv 0) (a5 (pv 1) aa))) (fun _ _=>rfl)) aa)))))),?_⟩
  have E0:Ext W0 W0:=.refl W0
  rw[show L2.start ["tablet","turn"] [Z07,.str (sOf turn)]=[some Z07,some (.str (sOf turn))]from rfl]
  unfold zd at hq
  exact bh (Er:=Er) (R:=sh (qB K)) (cW (K:=K) (cK (bg Z06)) (cK (bg Z06)) (qh Z5a (by decide +kernel) (aW (bg Z06) (du (a:=turn))))) (B6 hq fun y5 hq v6 W7 e8 h9=>hq v6 W7 (E0.trans e8) h9)
theorem Aa {f:Addr} {fd:AZ} (F:Fun K "suits" "suits" (tp 13) f fd) {Z7D:Tok} (Z7E:mg "WORN" =some (.str (Av "?") Z7D)):FnOk P w K mg base CX0 (1) f fd ["sign","left"] (bH isS isS (rs isB) (ze)):=by
 have SC:FnScope ["sign","left"] ["sign","left"] (defScope (tp 13)):=by walk_at "F"
 refine F.ok SC (fun vs H Q E h=>?_) (fun cdv A outer s H vs Q E hr h=>?_)
 ·obtain⟨_,_,_,_,_,_,rfl,_⟩:=h;rfl
 ·obtain⟨W0,sign,left,_,_,rfl,rfl,ZbY,ZbZ,Er,hq⟩:=h
  cases ZbY
  cases ZbZ
  refine⟨_,(af (az (xI (df bZ (pv 1) (de (v:=.str (Av "?")) (by rfl) Z7E ⟨_,rfl⟩) (aJ _)) (iH (df bZ (pv 1) (pv 0) (aJ _)))))),?_⟩
  have E0:Ext W0 W0:=.refl W0
  rw[show L2.start ["sign","left"] [.str (sOf sign),.str (sOf left)]=[some (.str (sOf sign)),some (.str (sOf left))]from rfl]
  unfold ze at hq
  exact bh (Er:=Er) (R:=sh isB) (yg (gX (du (a:=left)) (bb (x:=Av "?") (l:=[63]) (fU _ _ (by decide +kernel)))) (gX (du (a:=left)) (du (a:=sign)))) (B6 hq fun y1 hq v2 W3 e4 h5=>hq v2 W3 (E0.trans e4) h5)
theorem Ab {f:Addr} {fd:AZ} (F:Fun K "agrees" "agrees" (tp 12) f fd) {ui:Tx->Tx->Res Bool} (Z6e:Cal P w K mg base "suits" ["sign","left"] (1) (bH isS isS (rs isB) ui)) (h_all:mg "all" =none) (h_zip:mg "zip" =none):FnOk P w K mg base CX0 (2) f fd ["place","mark"] (bH (qB K) (qB K) (rs isB) (zf ui)):=by
 have SC:FnScope ["place","mark"] ["place","mark"] (defScope (tp 12)):=by walk_at "F"
 refine F.ok SC (fun vs H Q E h=>?_) (fun cdv A outer s H vs Q E hr h=>?_)
 ·obtain⟨_,_,_,_,_,_,rfl,_⟩:=h;rfl
 ·obtain⟨W0,place,mark,Z9v,Z0E,rfl,rfl,ZbI,Z1y,Er,hq⟩:=h
  refine⟨_,(af (az (aI (qf (K:=K) rfl rfl) (by rfl) h_all I9 (a5 (eQ (N:=["sign","left"]) (cap:=[none,none]) (gS rfl (by decide +kernel) rfl (by decide +kernel) (by rfl) (by rfl)) rfl (gk (K:=K) rfl rfl h_zip (a5 (pv 0) (a5 (pv 1) aa))) (fun _ _ _ _=>(cA (K:=K) (n:=2) rfl rfl (ax (ao (i:=0) (show BQ (["sign","left"]:List Str) by decide +kernel) rfl (by walk_at "L")) (ax (ao (i:=1) (show BQ (["sign","left"]:List Str) by decide +kernel) rfl (by walk_at "L")) cz)))) (fun _ _ _ _=>cM) (fun _ _ _ _=>(ar Z6e (hr.mono (by decide)) (by rfl) (a5 (pv 0) (a5 (pv 1) aa))))) aa)))),?_⟩
  have E0:Ext W0 W0:=.refl W0
  rw[show L2.start ["place","mark"] [Z9v,Z0E]=[some Z9v,some Z0E]from rfl]
  unfold zf at hq
  exact bh (Er:=Er) (R:=sh isB) (wQ (EJ (eV (f:=fun(a1:Tx×Tx)=>ui a1.1 a1.2) (kM (oE (bg ZbI)) (oE (bg Z1y))) fun W3 a1 v2 e4 h5 Q10 k11=>by
   refine kN h5 fun v6 v8 h7 h9=>?_
   cases h7
   cases h9
   exact⟨by simp[Keep,bp],((aW (du (a:=a1.1)) (du (a:=a1.2))):EV Er _ [some (.str (sOf a1.1)),some (.str (sOf a1.2))] _ _ _) _ (.refl _) _ k11⟩))) (B6 hq fun y13 hq v14 W15 e16 h17=>hq v14 W15 (E0.trans e16) h17)
theorem Ac {f:Addr} {fd:AZ} (F:Fun K "leaves" "leaves" (tp 19) f fd) {vw:(Tx×Tx×Tx)->(Tx×Tx×Tx)->Res Bool} {vt:(Tx×Tx×Int)->Tx->Res (Tx×Tx×Tx)} {vp:(Tx×Tx×Int)->Int->Res (Tx×Tx×Int)} (Z5b:Cal P w K mg base "agrees" ["place","mark"] (2) (bH (qB K) (qB K) (rs isB) vw)) (Z2I:Cal P w K mg base "left_place" ["tablet","turn"] (2) (bH (qA K) isS (rs (qB K)) vt)) (Z4p:Cal P w K mg base "twisted" ["tablet","twist"] (1) (bH (qA K) isI (rs (qA K)) vp)):FnOk P w K mg base CX0 (3) f fd ["tablet","state","turn","mark"] (fv (qA K) (qC K) isS (qB K) (rs isB) (zg vw vt vp)):=by
 have SC:FnScope ["tablet","state","turn","mark"] ["tablet","state","turn","mark"] (defScope (tp 19)):=by walk_at "F"
 refine F.ok SC (fun vs H Q E h=>?_) (fun cdv A outer s H vs Q E hr h=>?_)
 ·obtain⟨_,_,_,_,_,_,_,_,_,_,rfl,_⟩:=h;rfl
 ·obtain⟨W0,tablet,state,turn,mark,Z07,Z0B,_,Z0E,rfl,rfl,Z06,Z1Q,Z2H,Z1y,Er,hq⟩:=h
  cases Z2H
  refine⟨_,(af (az (ar Z5b (hr.mono (by decide)) (by rfl) (a5 (ar Z2I (hr.mono (by decide)) (by rfl) (a5 (ar Z4p (hr.mono (by decide)) (by rfl) (a5 (pv 0) (a5 (ay (aN (K:=K) rfl) (pv 1) a8 (fun _ _=>rfl)) aa))) (a5 (pv 2) aa))) (a5 (pv 3) aa))))),?_⟩
  have E0:Ext W0 W0:=.refl W0
  rw[show L2.start ["tablet","state","turn","mark"] [Z07,Z0B,.str (sOf turn),Z0E]=[some Z07,some Z0B,some (.str (sOf turn)),some Z0E]from rfl]
  unfold zg at hq
  exact bh (Er:=Er) (R:=sh isB) (aW (aW (aW (bg Z06) (bf (f:=fun(b:Int×Int)=>b.1) yj (bg Z1Q))) (du (a:=turn))) (bg Z1y)) (B6 hq fun y3 hq v4 W5 e6 h7=>hq v4 W5 (E0.trans e6) h7)
theorem Ad {f:Addr} {fd:AZ} (F:Fun K "onward" "onward" (tp 20) f fd) {uh:(Tx×Tx×Int)->(Int×Int)->Tx->Res (Int×Int)} {mN:(Int×Int)->Int->Int->Res Bool} {tK:(Tx×Tx×Int)->(Int×Int)->Tx->(Tx×Tx×Tx)->Res Bool} (Z1T:Cal P w K mg base "state_behind" ["tablet","state","turn"] (2) (eg (qA K) (qC K) isS (rs (qC K)) uh)) (Z1U:Cal P w K mg base "within" ["state","loose","bound"] (1) (eg (qC K) isI isI (rs isB) mN)) (Z5c:Cal P w K mg base "leaves" ["tablet","state","turn","mark"] (3) (fv (qA K) (qC K) isS (qB K) (rs isB) tK)) {Z6f:Tok} (Z6g:mg "TURNS" =some (.str (Av "fbi") Z6f)):FnOk P w K mg base CX0 (4) f fd ["tablet","mark","loose","bound","state"] (lR (qA K) (qB K) isI isI (qC K) (ro (isT2 K isS (qC K))) (zh uh mN tK)):=by
 have SC:FnScope ["tablet","mark","loose","bound","state","moves"] ["tablet","mark","loose","bound","state"] (defScope (tp 20)):=by walk_at "F"
 refine F.ok SC (fun vs H Q E h=>?_) (fun cdv A outer s H vs Q E hr h=>?_)
 ·obtain⟨_,_,_,_,_,_,_,_,_,_,_,_,rfl,_⟩:=h;rfl
 ·obtain⟨W0,tablet,mark,loose,bound,state,Z07,Z0E,_,_,Z0B,rfl,rfl,Z06,Z1y,Z0S,Z0T,Z1Q,Er,hq⟩:=h
  cases Z0S
  cases Z0T
  refine⟨_,(ae (iS (i:=5) SC.nd rfl (by walk_at "L") (N:=["turn","tablet","state"]) (cap:=[none,some 0,some 4]) (gS rfl (by decide +kernel) rfl (by decide +kernel) (by rfl) (by rfl)) rfl (iP (de (v:=.str (Av "fbi")) (by rfl) Z6g ⟨_,rfl⟩)) (fun _ _ _ _=>(ao (i:=0) (show BQ (["turn","tablet","state"]:List Str) by decide +kernel) rfl (by walk_at "L"))) (fun _ _ _ _=>cM) (fun _ _ _ _=>(cN (a5 (pv 0) (a5 (ar Z1T (hr.mono (by decide)) (by rfl) (a5 (pv 1) (a5 (pv 2) (a5 (pv 0) aa)))) aa)))))
   (af (az (eQ (N:=["turn","after","loose","bound","tablet","mark"]) (cap:=[none,none,some 2,some 3,some 0,some 1]) (gS rfl (by decide +kernel) rfl (by decide +kernel) (by rfl) (by rfl)) rfl (cC (K:=K) rfl (pv 5)) (fun _ _ _ _=>(cA (K:=K) (n:=2) rfl rfl (ax (ao (i:=0) (show BQ (["turn","after","loose","bound","tablet","mark"]:List Str) by decide +kernel) rfl (by walk_at "L")) (ax (ao (i:=1) (show BQ (["turn","after","loose","bound","tablet","mark"]:List Str) by decide +kernel) rfl (by walk_at "L")) cz)))) (fun _ _ _ _=>(oo (Hf (g9 (d6 (ar Z1U (hr.mono (by decide)) (by rfl) (a5 (pv 1) (a5 (pv 2) (a5 (pv 3) aa))))) (eL (d6 (ar Z5c (hr.mono (by decide)) (by rfl) (a5 (pv 4) (a5 (pv 1) (a5 (pv 0) (a5 (pv 5) aa))))))))))) (fun _ _ _ _=>(cN (a5 (pv 0) (a5 (pv 1) aa)))))))),?_⟩
  have E0:Ext W0 W0:=.refl W0
  rw[show L2.start ["tablet","mark","loose","bound","state","moves"] [Z07,Z0E,.int loose,.int bound,Z0B]=[some Z07,some Z0E,some (.int loose),some (.int bound),some Z0B,none]from rfl]
  unfold zh at hq
  refine aq (Er:=Er) (i:=5) (R:=sh (isL (isT2 K isS (qC K)))) (σ':=fun v16=>[some Z07,some Z0E,some (.int loose),some (.int bound),some Z0B,some v16]) (CK (eV (f:=fun(a3:Tx)=>(uh tablet state a3).bind fun y12=>As (a3,y12)) (j4 (bb (x:=Av "fbi") (l:=[102,98,105]) (fU _ _ (by decide +kernel)))) fun W5 a3 v4 e6 h7 Q13 k14=>by
   have h8:=Br (R:=sh (qA K)) e6 Z06
   have h9:=Br (R:=sh (qC K)) e6 Z1Q
   cases h7
   refine gn ?_
   exact⟨by simp[Keep,bp],((iq (K:=K) (du (a:=a3)) (gv (bg h8) (bg h9) (du (a:=a3)))):EV Er _ [some (.str (sOf a3)),some Z07,some Z0B] _ _ _) _ (.refl _) _ k14⟩)) ((Ak hq).imp fun y15 hq v16 W1 e2 h17=>?_)
  have E0:=E0.trans e2
  have Z06:=Al e2.g Z06
  have Z1y:=Al e2.g Z1y
  exact gy (Er:=Er) (lS (f:=fun(a18:Tx×(Int×Int))=>((mN a18.2 loose bound).bind fun y31=>if y31 then tK tablet a18.2 a18.1 mark else As false).bind fun y33=>if y33 then As (some (a18.1,a18.2))else As none) (cY (bg h17)) fun W20 a18 v19 e21 h22 Q29 k30=>by
   have h23:=Br (R:=sh (qA K)) e21 Z06
   have h24:=Br (R:=sh (qB K)) e21 Z1y
   refine kN h22 fun v25 v27 h26 h28=>?_
   cases h26
   refine⟨by simp[Keep,bp],((iZ (qb (gv (bg h28) (aV (a:=loose)) (aV (a:=bound)))) (qb (gw (bg h23) (bg h28) (du (a:=a18.1)) (bg h24)))):TV Er _ [some (.str (sOf a18.1)),some v27,some (.int loose),some (.int bound),some Z07,some Z0E] _ _) _ (.refl _) _ (B6 (P:=fun b32=>(if b32=true then As (some (a18.1,a18.2))else As none:Res (Option (Tx×(Int×Int)))).OkE Er _) (Ak k30) fun b32 k36 W34 e35=>?_)⟩
   cases b32 with
   | false=>exact k36 none _ e35 trivial
   | true =>
    rw[if_pos rfl]
    refine EV.go (Er:=Er) (σ:=[some (.str (sOf a18.1)),some v27,some (.int loose),some (.int bound),some Z07,some Z0E]) (W1:=W34) e35 (iq (K:=K) (du (a:=a18.1)) (bg h28)) ?_
    exact fun u39 W37 e38 h40=>k36 (some u39) _ (e35.trans e38) h40) (B6 hq fun y42 hq p43 W44 e45 hp46 o47=>hq p43 W44 (E0.trans e45) (aQ E0.h hp46) o47)
theorem Ae {f:Addr} {fd:AZ} (F:Fun K "states_behind" "states_behind" (tp 22) f fd) {jt:(Tx×Tx×Int)->(Tx×Tx×Tx)->Int->Int->(Int×Int)->Res (List (Tx×(Int×Int)))} (Z1V:Cal P w K mg base "onward" ["tablet","mark","loose","bound","state"] (4) (lR (qA K) (qB K) isI isI (qC K) (ro (isT2 K isS (qC K))) jt)) (h_sorted:mg "sorted" =none):FnOk P w K mg base CX0 (5) f fd ["tablet","mark","loose","bound","states"] (lR (qA K) (qB K) isI isI (qE K) (ro (qC K)) (zj jt)):=by
 have SC:FnScope ["tablet","mark","loose","bound","states"] ["tablet","mark","loose","bound","states"] (defScope (tp 22)):=by walk_at "F"
 refine F.ok SC (fun vs H Q E h=>?_) (fun cdv A outer s H vs Q E hr h=>?_)
 ·obtain⟨_,_,_,_,_,_,_,_,_,_,_,_,rfl,_⟩:=h;rfl
 ·obtain⟨W0,tablet,mark,loose,bound,states,Z07,Z0E,_,_,Z7F,rfl,rfl,Z06,Z1y,Z0S,Z0T,Zbc,Er,hq⟩:=h
  cases Z0S
  cases Z0T
  refine⟨_,(af (az (aI (l0 rfl) (by rfl) h_sorted Fb (a5 (qy (gd hr) (N:=["state","turn","after","tablet","mark","loose","bound"]) (cap:=[none,none,none,some 0,some 1,some 2,some 3]) (gS rfl (by decide +kernel) rfl (by decide +kernel) (by rfl) (by rfl)) rfl (cC (K:=K) rfl (pv 4)) (fun _ _ _ _=>(ao (i:=0) (show BQ (["state","turn","after","tablet","mark","loose","bound"]:List Str) by decide +kernel) rfl (by walk_at "L"))) (fun _ _ _ _=>cM) (fun _ _ _ _=>(cC (K:=K) rfl (ar Z1V (hr.mono (by decide)) (by rfl) (a5 (pv 3) (a5 (pv 4) (a5 (pv 5) (a5 (pv 6) (a5 (pv 0) aa)))))))) (fun _ _ _ _=>(cA (K:=K) (n:=2) rfl rfl (ax (ao (i:=1) (show BQ (["state","turn","after","tablet","mark","loose","bound"]:List Str) by decide +kernel) rfl (by walk_at "L")) (ax (ao (i:=2) (show BQ (["state","turn","after","tablet","mark","loose","bound"]:List Str) by decide +kernel) rfl (by walk_at "L")) cz)))) (fun _ _ _ _=>cM) (fun _ _ _ _=>(pv 2))) aa)))),?_⟩
  have E0:Ext W0 W0:=.refl W0
  rw[show L2.start ["tablet","mark","loose","bound","states"] [Z07,Z0E,.int loose,.int bound,Z7F]=[some Z07,some Z0E,some (.int loose),some (.int bound),some Z7F]from rfl]
  unfold zj at hq
  exact gy (Er:=Er) (sX (f:=fun(a6:Int×Int) (s8:List (Int×Int))=>(jt tablet mark loose bound a6).bind fun y36=>bN (fun(a20:Tx×(Int×Int)) (s22:List (Int×Int))=>mn s22 a20.2) y36 s8) (cY (bg Zbc)) (fun W1 D2 W5 a6 v7 s8 M9 hS10 e3 h4 e11 o12 h13 k14=>by
   have h15:=Al hS10 Z06
   have h16:=Al hS10 Z1y
   refine gn ?_
   exact⟨by simp[Keep,bp],sm (((wW (f:=fun(a20:Tx×(Int×Int)) (s22:List (Int×Int))=>mn s22 a20.2) e11 (cY (CK (gZ (bg h15) (bg h16) (aV (a:=loose)) (aV (a:=bound)) (bg h13)))) (fun _ _ _ e o=>o.mono e) (fun W19 a20 v21 s22 M23 hS24 e25 o26 h27 k28=>by
    have h29:=Al hS24 h15
    have h30:=Al hS24 h16
    have h31:=Al hS24 h13
    refine kN h27 fun v32 v34 h33 h35=>?_
    cases h33
    exact⟨by simp[Keep,bp],sm (((xb e25 h4 (bg h35)):BV Er _ [some v7,some (.str (sOf a20.1)),some v34,some Z07,some Z0E,some (.int loose),some (.int bound)] _ _ _ _ _) _ _ _ (.refl _) o26 k28)⟩)):BV Er _ [some v7,none,none,some Z07,some Z0E,some (.int loose),some (.int bound)] _ _ _ _ _) _ _ _ (.refl _) o12 k14)⟩)) (B6 hq fun y38 hq p39 W40 e41 hp42 o43=>hq p39 W40 (E0.trans e41) (aQ E0.h hp42) o43)
theorem Af {f:Addr} {fd:AZ} (F:Fun K "search" "search" (tp 21) f fd) {mN:(Int×Int)->Int->Int->Res Bool} {nS:(Tx×Tx×Int)->(Tx×Tx×Tx)->Int->Int->(List (Int×Int))->Res (List (Int×Int))} (Z1U:Cal P w K mg base "within" ["state","loose","bound"] (1) (eg (qC K) isI isI (rs isB) mN)) (Z1z:Cal P w K mg base "states_behind" ["tablet","mark","loose","bound","states"] (5) (lR (qA K) (qB K) isI isI (qE K) (ro (qC K)) nS)) {Z1k:Addr} (Z1W:mg "START" =some (.ref Z1k)) (Z1X:∀H,SqT K H Z1k [.int (0),.int (0)]):FnOk P w K mg base CX0 (6) f fd ["tablet","strip","loose","bound"] (fv (qA K) (qD K) isI isI (ro (qE K)) (zk mN nS)):=by
 have SC:FnScope ["tablet","strip","loose","bound","lists","mark"] ["tablet","strip","loose","bound"] (defScope (tp 21)):=by walk_at "F"
 refine F.ok SC (fun vs H Q E h=>?_) (fun cdv A outer s H vs Q E hr h=>?_)
 ·obtain⟨_,_,_,_,_,_,_,_,_,_,rfl,_⟩:=h;rfl
 ·obtain⟨W0,tablet,strip,loose,bound,Z07,Z0r,_,_,rfl,rfl,Z06,Z0i,Z0S,Z0T,Er,hq⟩:=h
  cases Z0S
  cases Z0T
  refine⟨_,(ae (ak (i:=4) SC.nd rfl (by walk_at "L") (cw (a5 (fh (d6 (ar Z1U (hr.mono (by decide)) (by rfl) (a5 (de (v:=.ref _) (by rfl) Z1W rfl) (a5 (pv 2) (a5 (pv 3) aa))))) (cw (a5 (de (v:=.ref _) (by rfl) Z1W rfl) aa)) (cw aa)) aa)))
   (ae (dn BL rfl (cC (K:=K) rfl (pv 1)) (ao (i:=5) SC.nd rfl (by walk_at "L")) (ae (bF (aG (sY hr.units0) (ay (bG (K:=K) rfl) (pv 4) (jG gQ a8) (fun _ _=>rfl)) (cw aa) (aJ _)) (af (az (pv 4))) aO)
   (af (dN (cE (K:=K) rfl (pv 4) (a5 (ar Z1z (hr.mono (by decide)) (by rfl) (a5 (pv 0) (a5 (pv 5) (a5 (pv 2) (a5 (pv 3) (a5 (ay (bG (K:=K) rfl) (pv 4) (jG gQ a8) (fun _ _=>rfl)) aa)))))) aa))))))
   (af (az (pv 4))))),?_⟩
  have E0:Ext W0 W0:=.refl W0
  rw[show L2.start ["tablet","strip","loose","bound","lists","mark"] [Z07,Z0r,.int loose,.int bound]=[some Z07,some Z0r,some (.int loose),some (.int bound),none,none]from rfl]
  unfold zk at hq
  refine cI (Er:=Er) (i:=4) (σ':=fun p6=>[some Z07,some Z0r,some (.int loose),some (.int bound),some (.ref p6),none]) (eU (bB (lN (qb (gv (j8 Z1X (gI _) (gI _)) (aV (a:=loose)) (aV (a:=bound)))) (CK (eU (bB (j8 Z1X (gI _) (gI _)) (eT (R:=(qC K)))))) (CK (eS (R:=(qC K))))) (eT (R:=(qE K))))) ((Ak hq).imp fun y5 hq p6 W1 e2 hp7 o8=>?_)
  have fr9:=aQ E0.h hp7
  have E0:=E0.trans e2
  have Z06:=Al e2.g Z06
  have Z0i:=Al e2.g Z0i
  refine jQ (Er:=Er) (f:=(wa nS tablet loose bound)) (s0:=y5) (Iv:=fun(s12:(List (List (Int×Int)))) (W13:Wd) (g14:St)=>∃(d16:Option V),g14=[some Z07,some Z0r,some (.int loose),some (.int bound),some (.ref p6),d16]/\Ext W0 W13/\Ow (qE K) W13 p6 s12) (cY (bg Z0i)) (Ak hq) ?_ ?_ ?_
  ·intro W28 e29
   have E0:=E0.trans e29
   have Z06:=Al e29.g Z06
   have o8:=o8.mono e29
   exact⟨_,rfl,E0,o8⟩
  ·intro Wb17 W18 W19 a10 v20 s11 sg21 P22 hW23 hB24 iv e25 h26 hrt27 hq
   obtain⟨d16,rfl,E0,o15⟩:=iv
   have Z06:=Al hW23 Z06
   have E0:=E0.trans e25
   have hB24:=hB24.trans e25.g
   have Z06:=Al e25.g Z06
   have o15:=o15.mono e25
   refine gn (σ':=[some Z07,some Z0r,some (.int loose),some (.int bound),some (.ref p6),some v20]) ?_
   unfold wa at hq
   refine fN (Er:=Er) (aM (sZ (EK (cX (cV o15) (iY ah))))) ((Ak hq).imp fun y33 hq W34 e35=>?_)
   have E0:=E0.trans e35
   have hB24:=hB24.trans e35.g
   have Z06:=Al e35.g Z06
   have o15:=o15.mono e35
   have h26:=Al e35.g h26
   by_cases hb41:y33=true
   ·rw[if_pos hb41]at hq ⊢
    exact⟨.ref p6,rfl,(hrt27 _ hq) p6 W34 E0 fr9 o15⟩
   ·rw[if_neg hb41]at hq ⊢
    try dsimp only[aE]
    refine fw (Er:=Er) o15 (CK (gZ (bg Z06) (bg h26) (aV (a:=loose)) (aV (a:=bound)) (cX (cV o15) (iY ah)))) ((Ak hq).imp fun y40 hq W37 mu38 o39=>?_)
    have E0:=mu38.e _ E0 fr9
    have hB24:=hB24.trans mu38.g
    have Z06:=Al mu38.g Z06
    have h26:=Al mu38.g h26
    try dsimp only
    refine dH (W:=W37) y40 hB24 ?_ hq
    exact⟨_,rfl,E0,o39⟩
  ·intro s42 W43 sg44 hS45 iv hq
   obtain⟨d16,rfl,E0,o15⟩:=iv
   exact⟨.ref p6,rfl,hq p6 W43 E0 fr9 o15⟩
theorem Ag {f:Addr} {fd:AZ} (F:Fun K "tails" "tails" (tp 23) f fd) {vz:(Tx×Tx×Int)->(List (Tx×Tx×Tx))->Int->Int->Res (List (List (Int×Int)))} {jt:(Tx×Tx×Int)->(Tx×Tx×Tx)->Int->Int->(Int×Int)->Res (List (Tx×(Int×Int)))} (Z5d:Cal P w K mg base "search" ["tablet","strip","loose","bound"] (6) (fv (qA K) (qD K) isI isI (ro (qE K)) vz)) (Z1V:Cal P w K mg base "onward" ["tablet","mark","loose","bound","state"] (4) (lR (qA K) (qB K) isI isI (qC K) (ro (isT2 K isS (qC K))) jt)) (h_len:mg "len" =none) (h_range:mg "range" =none) (h_reversed:mg "reversed" =none) (h_sum:mg "sum" =none):FnOk P w K mg base CX0 (7) f fd ["tablet","strip","loose","bound"] (fv (qA K) (qD K) isI isI (ro (isPD P w K isI)) (zl vz jt)):=by
 have SC:FnScope ["tablet","strip","loose","bound","lists","counts","at","ahead","moves"] ["tablet","strip","loose","bound"] (defScope (tp 23)):=by walk_at "F"
 refine F.ok SC (fun vs H Q E h=>?_) (fun cdv A outer s H vs Q E hr h=>?_)
 ·obtain⟨_,_,_,_,_,_,_,_,_,_,rfl,_⟩:=h;rfl
 ·obtain⟨W0,tablet,strip,loose,bound,Z07,Z0r,_,_,rfl,rfl,Z06,Z0i,Z0S,Z0T,Er,hq⟩:=h
  cases Z0S
  cases Z0T
  refine⟨_,(ae (ak (i:=4) SC.nd rfl (by walk_at "L") (ar Z5d (hr.mono (by decide)) (by rfl) (a5 (pv 0) (a5 (pv 1) (a5 (pv 2) (a5 (pv 3) aa))))))
   (ae (ak (i:=5) SC.nd rfl (by walk_at "L") (cw (a5 (hW (gd hr) (N:=["state"]) (cap:=[none]) (gS rfl (by decide +kernel) rfl (by decide +kernel) (by rfl) (by rfl)) rfl (cC (K:=K) rfl (ay (bG (K:=K) rfl) (pv 4) (jG gQ a8) (fun _ _=>rfl))) (fun _ _ _ _=>(ao (i:=0) (show BQ (["state"]:List Str) by decide +kernel) rfl (by walk_at "L"))) (fun _ _ _ _=>cM) (fun _ _ _ _=>(pv 0)) (fun _ _ _ _=>a8)) aa)))
   (ae (dn BL rfl (qJ rfl h_reversed rfl h_range (a5 (ag gP (aI (cH (K:=K) rfl) (by rfl) h_len PySem.boot_len (a5 (pv 4) aa)) a8) aa)) (ao (i:=6) SC.nd rfl (by walk_at "L")) (ae (ak (i:=7) SC.nd rfl (by walk_at "L") (ay (bG (K:=K) rfl) (pv 5) (jG gQ a8) (fun _ _=>rfl)))
   (ae (ak (i:=8) SC.nd rfl (by walk_at "L") (hW (gd hr) (N:=["state","tablet","strip","at","loose","bound"]) (cap:=[none,some 0,some 1,some 6,some 2,some 3]) (gS rfl (by decide +kernel) rfl (by decide +kernel) (by rfl) (by rfl)) rfl (cC (K:=K) rfl (ay (bG (K:=K) rfl) (pv 4) (pv 6) (fun _ _=>rfl))) (fun _ _ _ _=>(ao (i:=0) (show BQ (["state","tablet","strip","at","loose","bound"]:List Str) by decide +kernel) rfl (by walk_at "L"))) (fun _ _ _ _=>cM) (fun _ _ _ _=>(pv 0)) (fun _ _ _ _=>(ar Z1V (hr.mono (by decide)) (by rfl) (a5 (pv 1) (a5 (ay (bG (K:=K) rfl) (pv 2) (pv 3) (fun _ _=>rfl)) (a5 (pv 4) (a5 (pv 5) (a5 (pv 0) aa)))))))))
   (af (dN (cE (K:=K) rfl (pv 5) (a5 (hW (gd hr) (N:=["state","moves","ahead"]) (cap:=[none,some 8,some 7]) (gS rfl (by decide +kernel) rfl (by decide +kernel) (by rfl) (by rfl)) rfl (qI (P:=P) (w:=w) (K:=K) rfl rfl rfl (pv 8)) (fun _ _ _ _=>(ao (i:=0) (show BQ (["state","moves","ahead"]:List Str) by decide +kernel) rfl (by walk_at "L"))) (fun _ _ _ _=>cM) (fun _ _ _ _=>(pv 0)) (fun _ _ _ _=>(aI (q0 (K:=K) rfl rfl) (by rfl) h_sum Ia (a5 (eQ (N:=["turn","after","ahead"]) (cap:=[none,none,some 2]) (gS rfl (by decide +kernel) rfl (by decide +kernel) (by rfl) (by rfl)) rfl (cC (K:=K) rfl (mM (P:=P) (w:=w) (K:=K) rfl rfl rfl (gd hr) (pv 1) (pv 0) (fun _ _=>rfl))) (fun _ _ _ _=>(cA (K:=K) (n:=2) rfl rfl (ax (ao (i:=0) (show BQ (["turn","after","ahead"]:List Str) by decide +kernel) rfl (by walk_at "L")) (ax (ao (i:=1) (show BQ (["turn","after","ahead"]:List Str) by decide +kernel) rfl (by walk_at "L")) cz)))) (fun _ _ _ _=>cM) (fun _ _ _ _=>(mM (P:=P) (w:=w) (K:=K) rfl rfl rfl (gd hr) (pv 2) (pv 1) (fun _ _=>rfl)))) aa)))) aa)))))))
   (af (az (lK (K:=K) rfl (fun a b=>[.ref a,.ref b]) (fun _ _=>rfl) (pv 5) (fK (jG gQ a8)))))))),?_⟩
  have E0:Ext W0 W0:=.refl W0
  rw[show L2.start ["tablet","strip","loose","bound","lists","counts","at","ahead","moves"] [Z07,Z0r,.int loose,.int bound]=[some Z07,some Z0r,some (.int loose),some (.int bound),none,none,none,none,none]from rfl]
  unfold zl at hq
  refine aq (Er:=Er) (i:=4) (R:=sh (isL (qE K))) (σ':=fun v4=>[some Z07,some Z0r,some (.int loose),some (.int bound),some v4,none,none,none,none]) (CK (fM (bg Z06) (bg Z0i) (aV (a:=loose)) (aV (a:=bound)))) ((Ak hq).imp fun y3 hq v4 W1 e2 h5=>?_)
  have E0:=E0.trans e2
  have Z06:=Al e2.g Z06
  have Z0i:=Al e2.g Z0i
  refine cI (Er:=Er) (i:=5) (σ':=fun p27=>[some Z07,some Z0r,some (.int loose),some (.int bound),some v4,some (.ref p27),none,none,none]) (eU (bB (J3 (jr (R:=isI) (f:=fun(a13:Int×Int) (s15:List ((Int×Int)×Int))=>gH s15 a13 (1:Int)) (cY (cX (EK (bg h5)) (iY ah))) (fun W8 D9 W12 a13 v14 s15 M16 hS17 e10 h11 e18 o19 h20 k21=>by
   refine gn ?_
   exact⟨by simp[Keep,bp],sm (((jq e18 h11 (bg h20) ah):BV Er _ [some v14] _ _ _ _ _) _ _ _ (.refl _) o19 k21)⟩))) (eT (R:=(isPD P w K isI))))) ((Ak hq).imp fun y26 hq p27 W6 e7 hp28 o29=>?_)
  have fr30:=aQ E0.h hp28
  have E0:=E0.trans e7
  have Z06:=Al e7.g Z06
  have Z0i:=Al e7.g Z0i
  have h5:=Al e7.g h5
  refine dG (Er:=Er) (f:=(xF jt tablet strip loose bound y3)) (s0:=y26) (Iv:=fun(s33:(List (List ((Int×Int)×Int)))) (W34:Wd) (g35:St)=>∃(d37:Option V) (d38:Option V) (d39:Option V),g35=[some Z07,some Z0r,some (.int loose),some (.int bound),some v4,some (.ref p27),d39,d37,d38]/\Ext W0 W34/\Ow (isPD P w K isI) W34 p27 s33) (qK (aZ (gu (EK (bg h5))) ah)) (Ak hq) ?_ ?_ ?_
  ·intro W51 e52
   have E0:=E0.trans e52
   have Z06:=Al e52.g Z06
   have Z0i:=Al e52.g Z0i
   have h5:=Al e52.g h5
   have o29:=o29.mono e52
   exact⟨_,_,_,rfl,E0,o29⟩
  ·intro Wb40 W41 W42 a31 v43 s32 sg44 P45 hW46 hB47 iv e48 h49 hq
   obtain⟨d37,d38,d39,rfl,E0,o36⟩:=iv
   have Z06:=Al hW46 Z06
   have Z0i:=Al hW46 Z0i
   have h5:=Al hW46 h5
   have E0:=E0.trans e48
   have hB47:=hB47.trans e48.g
   have Z06:=Al e48.g Z06
   have Z0i:=Al e48.g Z0i
   have h5:=Al e48.g h5
   have o36:=o36.mono e48
   cases h49
   refine gn (σ':=[some Z07,some Z0r,some (.int loose),some (.int bound),some v4,some (.ref p27),some (.int a31),d37,d38]) ?_
   unfold xF at hq
   refine aq (Er:=Er) (i:=7) (R:=sh (isPD P w K isI)) (σ':=fun v58=>[some Z07,some Z0r,some (.int loose),some (.int bound),some v4,some (.ref p27),some (.int a31),some v58,d38]) (cX (cV o36) (iY ah)) ((Ak hq).imp fun y57 hq v58 W55 e56 h59=>?_)
   have E0:=E0.trans e56
   have hB47:=hB47.trans e56.g
   have Z06:=Al e56.g Z06
   have Z0i:=Al e56.g Z0i
   have h5:=Al e56.g h5
   have o36:=o36.mono e56
   refine aq (Er:=Er) (i:=8) (R:=sh (isPD P w K (isL (isT2 K isS (qC K))))) (σ':=fun v84=>[some Z07,some Z0r,some (.int loose),some (.int bound),some v4,some (.ref p27),some (.int a31),some v58,some v84]) (J3 (jr (R:=(isL (isT2 K isS (qC K)))) (f:=fun(a67:Int×Int) (s69:List ((Int×Int)×(List (Tx×(Int×Int)))))=>((fV strip a31).bind fun y80=>jt tablet y80 loose bound a67).bind fun y81=>gH s69 a67 y81) (cY (cX (EK (bg h5)) (aV (a:=a31)))) (fun W62 D63 W66 a67 v68 s69 M70 hS71 e64 h65 e72 o73 h74 k75=>by
    have h76:=Al hS71 Z06
    have h77:=Al hS71 Z0i
    refine gn ?_
    exact⟨by simp[Keep,bp],sm (((jq e72 h65 (bg h74) (CK (gZ (bg h76) (cX (EK (bg h77)) (aV (a:=a31))) (aV (a:=loose)) (aV (a:=bound)) (bg h74)))):BV Er _ [some v68,some Z07,some Z0r,some (.int a31),some (.int loose),some (.int bound)] _ _ _ _ _) _ _ _ (.refl _) o73 k75)⟩))) ((Ak hq).imp fun y83 hq v84 W60 e61 h85=>?_)
   have E0:=E0.trans e61
   have hB47:=hB47.trans e61.g
   have Z06:=Al e61.g Z06
   have Z0i:=Al e61.g Z0i
   have h5:=Al e61.g h5
   have o36:=o36.mono e61
   have h59:=Al e61.g h59
   refine fw (Er:=Er) o36 (J3 (jr (R:=isI) (f:=fun(a91:Int×Int) (s93:List ((Int×Int)×Int))=>(((getD y83 a91).bind fun y116=>dQ y116 (fun(a104:Tx×(Int×Int))=>getD y57 a104.2)).bind fun y117=>As y117.sum).bind fun y118=>gH s93 a91 y118) (tJ (bg h85)) (fun W86 D87 W90 a91 v92 s93 M94 hS95 e88 h89 e96 o97 h98 k99=>by
    have h100:=Al hS95 h85
    have h101:=Al hS95 h59
    refine gn ?_
    exact⟨by simp[Keep,bp],sm (((jq e96 h89 (bg h98) (wO (EJ (eV (f:=fun(a104:Tx×(Int×Int))=>getD y57 a104.2) (cY (p4 (bg h100) (bg h98))) fun W106 a104 v105 e107 h108 Q114 k115=>by
     have h109:=Br (R:=sh (isPD P w K isI)) e107 h101
     refine kN h108 fun v110 v112 h111 h113=>?_
     cases h111
     exact⟨by simp[Keep,bp],((p4 (bg h109) (bg h113)):EV Er _ [some (.str (sOf a104.1)),some v112,some v58] _ _ _) _ (.refl _) _ k115⟩)))):BV Er _ [some v92,some v84,some v58] _ _ _ _ _) _ _ _ (.refl _) o97 k99)⟩))) ((Ak hq).imp fun y122 hq W119 mu120 o121=>?_)
   have E0:=mu120.e _ E0 fr30
   have hB47:=hB47.trans mu120.g
   have Z06:=Al mu120.g Z06
   have Z0i:=Al mu120.g Z0i
   have h5:=Al mu120.g h5
   have h59:=Al mu120.g h59
   have h85:=Al mu120.g h85
   try dsimp only
   refine dH (W:=W119) y122 hB47 ?_ hq
   exact⟨_,_,_,rfl,E0,o121⟩
  ·intro s125 W126 sg127 hS128 iv hq
   obtain⟨d37,d38,d39,rfl,E0,o36⟩:=iv
   exact gy (Er:=Er) (uM (cV o36)) (fun p129 W130 e131 hp132 o133=>hq p129 W130 (E0.trans e131) (aQ E0.h hp132) o133)
theorem Ah {f:Addr} {fd:AZ} (F:Fun K "ways" "ways" (tp 24) f fd) {vA:(Tx×Tx×Int)->(List (Tx×Tx×Tx))->Int->Int->Res (List (List ((Int×Int)×Int)))} (Z6h:Cal P w K mg base "tails" ["tablet","strip","loose","bound"] (7) (fv (qA K) (qD K) isI isI (ro (isPD P w K isI)) vA)) {Z1k:Addr} (Z1W:mg "START" =some (.ref Z1k)) (Z1X:∀H,SqT K H Z1k [.int (0),.int (0)]):FnOk P w K mg base CX0 (8) f fd ["tablet","strip","loose","bound"] (fv (qA K) (qD K) isI isI (rs isI) (zm vA)):=by
 have SC:FnScope ["tablet","strip","loose","bound"] ["tablet","strip","loose","bound"] (defScope (tp 24)):=by walk_at "F"
 refine F.ok SC (fun vs H Q E h=>?_) (fun cdv A outer s H vs Q E hr h=>?_)
 ·obtain⟨_,_,_,_,_,_,_,_,_,_,rfl,_⟩:=h;rfl
 ·obtain⟨W0,tablet,strip,loose,bound,Z07,Z0r,_,_,rfl,rfl,Z06,Z0i,Z0S,Z0T,Er,hq⟩:=h
  cases Z0S
  cases Z0T
  refine⟨_,(af (az (tF (gd hr) (ay (bG (K:=K) rfl) (ar Z6h (hr.mono (by decide)) (by rfl) (a5 (pv 0) (a5 (pv 1) (a5 (pv 2) (a5 (pv 3) aa))))) a8 (fun _ _=>rfl)) (de (v:=.ref _) (by rfl) Z1W rfl) a8))),?_⟩
  have E0:Ext W0 W0:=.refl W0
  rw[show L2.start ["tablet","strip","loose","bound"] [Z07,Z0r,.int loose,.int bound]=[some Z07,some Z0r,some (.int loose),some (.int bound)]from rfl]
  unfold zm at hq
  exact bh (Er:=Er) (R:=sh isI) (tI (cX (EJ (fM (bg Z06) (bg Z0i) (aV (a:=loose)) (aV (a:=bound)))) ah) (j8 Z1X (gI _) (gI _)) ah) (B6 hq fun y3 hq v4 W5 e6 h7=>hq v4 W5 (E0.trans e6) h7)
theorem Ai {f:Addr} {fd:AZ} (F:Fun K "_law_with" "_law_with" (tp 45) f fd) (h_list:mg "list" =none) (h_tuple:mg "tuple" =none):FnOk P w K mg base CX0 (1) f fd ["_law_strip","_law_at_here","_law_side","_law_sign"] (fv (qD K) isI isI isS (ro (qB K)) (zo)):=by
 have SC:FnScope ["_law_strip","_law_at_here","_law_side","_law_sign","_law_mark"] ["_law_strip","_law_at_here","_law_side","_law_sign"] (defScope (tp 45)):=by walk_at "F"
 refine F.ok SC (fun vs H Q E h=>?_) (fun cdv A outer s H vs Q E hr h=>?_)
 ·obtain⟨_,_,_,_,_,_,_,_,_,_,rfl,_⟩:=h;rfl
 ·obtain⟨W0,Z2A,Z0y,Z2i,Z2j,Z4q,_,_,_,rfl,rfl,Z1b,Z8Z,Zbf,Zbg,Er,hq⟩:=h
  cases Z8Z
  cases Zbf
  cases Zbg
  refine⟨_,(ae (ak (i:=4) SC.nd rfl (by walk_at "L") (fJ (jA (K:=K) rfl) (by rfl) h_list DW (a5 (ay (bG (K:=K) rfl) (pv 0) (pv 1) (fun _ _=>rfl)) aa)))
   (ae (dY (pv 3) (kg (pv 4) (pv 2) gj))
   (af (az (ag rl (ag rl (fk (iU (K:=K) rfl) (pv 0) gi (fK (pv 1))) (cw (a5 (fJ (fz (K:=K) rfl) (by rfl) h_tuple D7 (a5 (pv 4) aa)) aa))) (fk (iU (K:=K) rfl) (pv 0) (fK (ag bC (pv 1) a8)) gi)))))),?_⟩
  have E0:Ext W0 W0:=.refl W0
  rw[show L2.start ["_law_strip","_law_at_here","_law_side","_law_sign","_law_mark"] [Z4q,.int Z0y,.int Z2i,.str (sOf Z2j)]=[some Z4q,some (.int Z0y),some (.int Z2i),some (.str (sOf Z2j)),none]from rfl]
  unfold zo at hq
  refine cI (Er:=Er) (i:=4) (σ':=fun p5=>[some Z4q,some (.int Z0y),some (.int Z2i),some (.str (sOf Z2j)),some (.ref p5)]) (sq (K:=K) (cX (EK (bg Z1b)) (aV (a:=Z0y)))) ((Ak hq).imp fun y4 hq p5 W1 e2 hp6 o7=>?_)
  have fr8:=aQ E0.h hp6
  have E0:=E0.trans e2
  have Z1b:=Al e2.g Z1b
  refine qe (Er:=Er) o7 (du (a:=Z2j)) (aV (a:=Z2i)) ((Ak hq).imp fun y12 hq W9 mu10 o11=>?_)
  have E0:=mu10.e _ E0 fr8
  have Z1b:=Al mu10.g Z1b
  exact gy (Er:=Er) (oD (EJ (oD (EJ (kK (EK (bg Z1b)) lO (lP (aV (a:=Z0y))))) (EJ (eU (bB (lU (cV o11)) (eT (R:=(qB K)))))))) (EJ (kK (EK (bg Z1b)) (lP (aZ (aV (a:=Z0y)) ah)) lO))) (B6 hq fun y16 hq p17 W18 e19 hp20 o21=>hq p17 W18 (E0.trans e19) (aQ E0.h hp20) o21)
theorem yB {f:Addr} {fd:AZ} (F:Fun K "law" "law" (tp 46) f fd) {ug:List Int->Int->Res ((Tx×Tx×Int)×(List (Tx×Tx×Tx))×Int)} {gh:List Int->Int->Res Int} {n6:(Tx×Tx×Int)->(List (Tx×Tx×Tx))->Int->Int->Res Int} {nU:(List (Tx×Tx×Tx))->Int->Int->Tx->Res (List (Tx×Tx×Tx))} (Z3i:Cal P w K mg base "_law_case" ["_law_script","_law_most"] (5) (bH (isScr K) isI (rs (isT3 K (qA K) (qD K) isI)) ug)) (Z0u:Cal P w K mg base "_law_at" ["_law_script","_law_k"] (1) (bH (isScr K) isI (rs isI) gh)) (Z14:Cal P w K mg base "_law_same" ["_law_found","_law_due"] 26 (fS K 26)) (Z4r:Cal P w K mg base "ways" ["tablet","strip","loose","bound"] (8) (fv (qA K) (qD K) isI isI (rs isI) n6)) (Z22:Cal P w K mg base "_law_with" ["_law_strip","_law_at_here","_law_side","_law_sign"] (1) (fv (qD K) isI isI isS (ro (qB K)) nU)) (h_bool:mg "bool" =none) (h_int:mg "int" =none) (h_isinstance:mg "isinstance" =none) (h_len:mg "len" =none):FnOk P w K mg base CX0 (27) f fd ["_law_script"] (dt (isScr K) (rs isB) (p9 ug gh n6 nU)):=by
 have SC:FnScope ["_law_script","_law_card_here","_law_strip","_law_loose","_law_bound","_law_at_here","_law_side","_law_signs","_law_many","_law_sign","_law_found"] ["_law_script"] (defScope (tp 46)):=by walk_at "F"
 refine F.ok SC (fun vs H Q E h=>?_) (fun cdv A outer s H vs Q E hr h=>?_)
 ·obtain⟨_,_,_,_,rfl,_⟩:=h;rfl
 ·obtain⟨W0,Z0e,Z09,rfl,rfl,Z01,Er,hq⟩:=h
  refine⟨_,(ae (dY (ar Z3i (hr.mono (by decide)) (by rfl) (a5 (pv 0) (a5 a8 aa))) (cA (K:=K) (n:=3) rfl rfl (ax (ao (i:=1) SC.nd rfl (by walk_at "L")) (ax (ao (i:=2) SC.nd rfl (by walk_at "L")) (ax (ao (i:=3) SC.nd rfl (by walk_at "L")) cz)))))
   (ae (ak (i:=4) SC.nd rfl (by walk_at "L") (ag aA (ar Z0u (hr.mono (by decide)) (by rfl) (a5 (pv 0) (a5 a8 aa))) a8))
   (ae (bF (aG bZ (pv 4) a8 (aJ _)) (af (ak (i:=4) SC.nd rfl (by walk_at "L") a8)) aO)
   (ae (bF (aG (sY hr.units0) (pv 2) (cw aa) (aJ _)) (af (az (ar Z14 (hr.mono (by decide)) (by rfl) (a5 (ar Z4r (hr.mono (by decide)) (by rfl) (a5 (pv 1) (a5 (cw aa) (a5 (pv 3) (a5 (pv 4) aa))))) (a5 a8 aa))))) aO)
   (ae (ak (i:=5) SC.nd rfl (by walk_at "L") (ag aA (ar Z0u (hr.mono (by decide)) (by rfl) (a5 (pv 0) (a5 a8 aa))) (aI (cH (K:=K) rfl) (by rfl) h_len PySem.boot_len (a5 (pv 2) aa))))
   (ae (ak (i:=6) SC.nd rfl (by walk_at "L") (ag aA (ar Z0u (hr.mono (by decide)) (by rfl) (a5 (pv 0) (a5 a8 aa))) a8))
   (ae (ak (i:=7) SC.nd rfl (by walk_at "L") (cw (a5 aY (a5 aY (a5 aY aa)))))
   (ae (bF (aG oh (pv 6) a8 (aJ _)) (af (iS (i:=7) SC.nd rfl (by walk_at "L") (N:=["_law_sign","_law_card_here"]) (cap:=[none,some 1]) (gS rfl (by decide +kernel) rfl (by decide +kernel) (by rfl) (by rfl)) rfl (iP aY) (fun _ _ _ _=>(ao (i:=0) (show BQ (["_law_sign","_law_card_here"]:List Str) by decide +kernel) rfl (by walk_at "L"))) (fun _ _ _ _=>(oo (aG pK (pv 0) (ay (aN (K:=K) rfl) (pv 1) a8 (fun _ _=>rfl)) (by with_unfolding_all rfl)))) (fun _ _ _ _=>(pv 0)))) aO)
   (ae (ak (i:=8) SC.nd rfl (by walk_at "L") a8)
   (ae (dn BL rfl (cC (K:=K) rfl (pv 7)) (ao (i:=9) SC.nd rfl (by walk_at "L")) (ae (ak (i:=10) SC.nd rfl (by walk_at "L") (ar Z4r (hr.mono (by decide)) (by rfl) (a5 (pv 1) (a5 (ar Z22 (hr.mono (by decide)) (by rfl) (a5 (pv 2) (a5 (pv 5) (a5 (pv 6) (a5 (pv 9) aa))))) (a5 (pv 3) (a5 (pv 4) aa))))))
   (ae (bF (Hf (r0 (kf (d6 (aI (aT (K:=K) rfl) (by rfl) h_isinstance AO (a5 (pv 10) (a5 (cF (v:=.ty "int") (by rfl) h_int Dn rfl) aa))))) (qZ (d6 (aI (aT (K:=K) rfl) (by rfl) h_isinstance AO (a5 (pv 10) (a5 (cF (v:=.ty "bool") (by rfl) h_bool Di rfl) aa))))))) (af (az i6)) aO)
   (af (ak (i:=8) SC.nd rfl (by walk_at "L") (ag bC (pv 8) (pv 10)))))))
   (af (az (ar Z14 (hr.mono (by decide)) (by rfl) (a5 (ar Z4r (hr.mono (by decide)) (by rfl) (a5 (pv 1) (a5 (ar Z22 (hr.mono (by decide)) (by rfl) (a5 (pv 2) (a5 (pv 5) (a5 (pv 6) (a5 aY aa))))) (a5 (pv 3) (a5 (pv 4) aa))))) (a5 (pv 8) aa))))))))))))))),?_⟩
  have E0:Ext W0 W0:=.refl W0
  rw[show L2.start ["_law_script","_law_card_here","_law_strip","_law_loose","_law_bound","_law_at_here","_law_side","_law_signs","_law_many","_law_sign","_law_found"] [Z09]=[some Z09,none,none,none,none,none,none,none,none,none,none]from rfl]
  unfold p9 at hq
  refine eF (Er:=Er) (R:=sh (isT3 K (qA K) (qD K) isI)) (aW (bg Z01) ah) ((Ak hq).imp fun y1 hq v2 W3 e4 h5=>?_)
  have E0:=E0.trans e4
  have Z01:=Al e4.g Z01
  refine uE (σ':=fun v6 v8 v10=>[some Z09,some v6,some v8,some v10,none,none,none,none,none,none,none]) h5 fun v6 v8 v10 h7 h9 h11=>?_
  cases h11
  refine aq (Er:=Er) (i:=4) (R:=sh isI) (σ':=fun v16=>[some Z09,some v6,some v8,some (.int y1.2.2),some v16,none,none,none,none,none,none]) (ai (fun _=>by decide) (aW (bg Z01) ah)) ((Ak hq).imp fun y15 hq v16 W12 e13 h17=>?_)
  cases h17
  have E0:=E0.trans e13
  have Z01:=Al e13.g Z01
  have h7:=Al e13.g h7
  have h9:=Al e13.g h9
  refine bI (Er:=Er) (Iv:=fun(s33:Int) (W34:Wd) (g35:St)=>g35=[some Z09,some v6,some v8,some (.int y1.2.2),some (.int s33),none,none,none,none,none,none]/\Ext W0 W34) (aM (cQ (aV (a:=y15)) ah)) (Ak hq) ?_ ?_ ?_
  ·intro W18 N21 e19 hN22 hq
   have hs23:=e19.g
   have E0:=E0.trans e19
   have Z01:=Al e19.g Z01
   have h7:=Al e19.g h7
   have h9:=Al e19.g h9
   refine cD (Er:=Er) (i:=4) (R:=sh isI) (σ':=fun v26=>[some Z09,some v6,some v8,some (.int y1.2.2),some v26,none,none,none,none,none,none]) ah (fun v26 W24 e25 h27=>?_)
   cases h27
   have E0:=E0.trans e25
   have hs23:=hs23.trans e25.g
   have Z01:=Al e25.g Z01
   have h7:=Al e25.g h7
   have h9:=Al e25.g h9
   exact hN22 (60:Int) W24 _ hs23 ⟨rfl,E0⟩ hq
  ·intro W18 N21 e19 hN22 hq
   have hs28:=e19.g
   have E0:=E0.trans e19
   have Z01:=Al e19.g Z01
   have h7:=Al e19.g h7
   have h9:=Al e19.g h9
   try dsimp only[aE]
   exact hN22 y15 W18 _ hs28 ⟨rfl,E0⟩ hq
  ·intro s29 W30 sg31 hS32 iv hq
   obtain⟨rfl,E0⟩:=iv
   have Z01:=Al hS32 Z01
   have h7:=Al hS32 h7
   have h9:=Al hS32 h9
   refine fN (Er:=Er) (aM (sZ (EK (bg h9)))) (fun W36 e37=>?_)
   have E0:=E0.trans e37
   have Z01:=Al e37.g Z01
   have h7:=Al e37.g h7
   have h9:=Al e37.g h9
   by_cases hb154:y1.2.1.isEmpty=true
   ·rw[if_pos hb154]at hq ⊢
    exact bh (Er:=Er) (R:=sh isB) (mj (by decide) (gw (bg h7) (CK (eS (R:=(qB K)))) (aV (a:=y1.2.2)) (aV (a:=s29))) ah) (B6 hq fun y39 hq v40 W41 e42 h43=>hq v40 W41 (E0.trans e42) h43)
   ·rw[if_neg hb154]at hq ⊢
    try dsimp only[aE]
    refine aq (Er:=Er) (i:=5) (R:=sh isI) (σ':=fun v48=>[some Z09,some v6,some v8,some (.int y1.2.2),some (.int s29),some v48,none,none,none,none,none]) (gW (aW (bg Z01) ah) (gu (EK (bg h9)))) ((Ak hq).imp fun y47 hq v48 W44 e45 h49=>?_)
    cases h49
    have E0:=E0.trans e45
    have Z01:=Al e45.g Z01
    have h7:=Al e45.g h7
    have h9:=Al e45.g h9
    refine aq (Er:=Er) (i:=6) (R:=sh isI) (σ':=fun v54=>[some Z09,some v6,some v8,some (.int y1.2.2),some (.int s29),some (.int y47),some v54,none,none,none,none]) (ai (fun _=>by decide) (aW (bg Z01) ah)) ((Ak hq).imp fun y53 hq v54 W50 e51 h55=>?_)
    cases h55
    have E0:=E0.trans e51
    have h7:=Al e51.g h7
    have h9:=Al e51.g h9
    refine aq (Er:=Er) (i:=7) (R:=sh (isL isS)) (σ':=fun v58=>[some Z09,some v6,some v8,some (.int y1.2.2),some (.int s29),some (.int y47),some (.int y53),some v58,none,none,none]) (CK (eU (bB (bb (x:=Av "s") (l:=[115]) (fU _ _ (by decide +kernel))) (bB (bb (x:=Av "z") (l:=[122]) (fU _ _ (by decide +kernel))) (bB (bb (x:=Av "o") (l:=[111]) (fU _ _ (by decide +kernel))) (eT (R:=isS))))))) (fun v58 W56 e57 h59=>?_)
    have E0:=E0.trans e57
    have h7:=Al e57.g h7
    have h9:=Al e57.g h9
    refine bI (Er:=Er) (Iv:=fun(s96:(List Tx)) (W97:Wd) (g98:St)=>∃(v99:V),g98=[some Z09,some v6,some v8,some (.int y1.2.2),some (.int s29),some (.int y47),some (.int y53),some v99,none,none,none]/\Ext W0 W97/\(isL isS) W97.G s96 v99) (aM (dF (aV (a:=y53)) ah)) (Ak hq) ?_ ?_ ?_
    ·intro W60 N63 e61 hN64 hq
     have hs65:=e61.g
     have E0:=E0.trans e61
     have h7:=Al e61.g h7
     have h9:=Al e61.g h9
     have h59:=Al e61.g h59
     refine cD (Er:=Er) (i:=7) (R:=sh (isL isS)) (σ':=fun v89=>[some Z09,some v6,some v8,some (.int y1.2.2),some (.int s29),some (.int y47),some (.int y53),some v89,none,none,none]) (CK (lS (f:=fun(a68:Tx)=>(yG a68 y1.1.2.1).bind fun y79=>if y79 then As (some a68)else As none) (j4 (bb (x:=Av "abcdefghijklmnopqrstuvwxyz") (l:=[97,98,99,100,101,102,103,104,105,106,107,108,109,110,111,112,113,114,115,116,117,118,119,120,121,122]) (fU _ _ (by decide +kernel)))) fun W70 a68 v69 e71 h72 Q76 k77=>by
      have h73:=Br (R:=sh (qA K)) e71 h7
      cases h72
      refine gn ?_
      refine⟨by simp[Keep,bp],((aM (wN (du (a:=a68)) (bf (f:=fun(b:Tx×Tx×Int)=>b.2.1) j3 (bg h73)))):TV Er _ [some (.str (sOf a68)),some v6] _ _) _ (.refl _) _ (B6 (P:=fun b78=>(if b78=true then As (some a68)else As none:Res (Option Tx)).OkE Er _) (Ak k77) fun b78 k82 W80 e81=>?_)⟩
      cases b78 with
      | false=>exact k82 none _ e81 trivial
      | true =>
       rw[if_pos rfl]
       refine EV.go (Er:=Er) (σ:=[some (.str (sOf a68)),some v6]) (W1:=W80) e81 (du (a:=a68)) ?_
       exact fun u85 W83 e84 h86=>k82 (some u85) _ (e81.trans e84) h86)) ((Ak hq).imp fun y88 hq v89 W66 e67 h90=>?_)
     have E0:=E0.trans e67
     have hs65:=hs65.trans e67.g
     have h7:=Al e67.g h7
     have h9:=Al e67.g h9
     exact hN64 y88 W66 _ hs65 ⟨_,rfl,E0,h90⟩ hq
    ·intro W60 N63 e61 hN64 hq
     have hs91:=e61.g
     have E0:=E0.trans e61
     have h7:=Al e61.g h7
     have h9:=Al e61.g h9
     have h59:=Al e61.g h59
     try dsimp only[aE]
     exact hN64 [([115]:Tx),([122]:Tx),([111]:Tx)] W60 _ hs91 ⟨_,rfl,E0,h59⟩ hq
    ·intro s92 W93 sg94 hS95 iv hq
     obtain⟨v99,rfl,E0,h100⟩:=iv
     have h7:=Al hS95 h7
     have h9:=Al hS95 h9
     refine aq (Er:=Er) (i:=8) (R:=sh isI) (σ':=fun v103=>[some Z09,some v6,some v8,some (.int y1.2.2),some (.int s29),some (.int y47),some (.int y53),some v99,some v103,none,none]) ah (fun v103 W101 e102 h104=>?_)
     cases h104
     have E0:=E0.trans e102
     have h7:=Al e102.g h7
     have h9:=Al e102.g h9
     have h100:=Al e102.g h100
     refine jQ (Er:=Er) (f:=(fD n6 nU y1 s29 y47 y53)) (s0:=(0:Int)) (Iv:=fun(s107:Int) (W108:Wd) (g109:St)=>∃(d110:Option V) (d111:Option V),g109=[some Z09,some v6,some v8,some (.int y1.2.2),some (.int s29),some (.int y47),some (.int y53),some v99,some (.int s107),d111,d110]/\Ext W0 W108) (cY (bg h100)) (Ak hq) ?_ ?_ ?_
     ·intro W123 e124
      have E0:=E0.trans e124
      have h7:=Al e124.g h7
      have h9:=Al e124.g h9
      exact⟨_,_,rfl,E0⟩
     ·intro Wb112 W113 W114 a105 v115 s106 sg116 P117 hW118 hB119 iv e120 h121 hrt122 hq
      obtain⟨d110,d111,rfl,E0⟩:=iv
      have h7:=Al hW118 h7
      have h9:=Al hW118 h9
      have E0:=E0.trans e120
      have hB119:=hB119.trans e120.g
      have h7:=Al e120.g h7
      have h9:=Al e120.g h9
      cases h121
      refine gn (σ':=[some Z09,some v6,some v8,some (.int y1.2.2),some (.int s29),some (.int y47),some (.int y53),some v99,some (.int s106),some (.str (sOf a105)),d110]) ?_
      unfold fD at hq
      refine aq (Er:=Er) (i:=10) (R:=sh isI) (σ':=fun v131=>[some Z09,some v6,some v8,some (.int y1.2.2),some (.int s29),some (.int y47),some (.int y53),some v99,some (.int s106),some (.str (sOf a105)),some v131]) (gw (bg h7) (CK (fM (bg h9) (aV (a:=y47)) (aV (a:=y53)) (du (a:=a105)))) (aV (a:=y1.2.2)) (aV (a:=s29))) ((Ak hq).imp fun y130 hq v131 W127 e128 h132=>?_)
      cases h132
      have E0:=E0.trans e128
      have hB119:=hB119.trans e128.g
      have h7:=Al e128.g h7
      have h9:=Al e128.g h9
      refine fN (Er:=Er) (yf (wL (qb (m9 (j:=1) (by decide) (sk (K:=K) vY (aV (a:=y130)))))) (qb (m9 (j:=0) (by decide) (sk (K:=K) vY (aV (a:=y130)))))) ((Ak hq).imp fun y133 hq W134 e135=>?_)
      have E0:=E0.trans e135
      have hB119:=hB119.trans e135.g
      have h7:=Al e135.g h7
      have h9:=Al e135.g h9
      by_cases hb143:y133=true
      ·rw[if_pos hb143]at hq ⊢
       exact bh (Er:=Er) (R:=sh isB) ye (fun v136 W137 e138 h139=>(hrt122 _ hq) v136 W137 (E0.trans e138) h139)
      ·rw[if_neg hb143]at hq ⊢
       try dsimp only[aE]
       refine cD (Er:=Er) (i:=8) (R:=sh isI) (σ':=fun v142=>[some Z09,some v6,some v8,some (.int y1.2.2),some (.int s29),some (.int y47),some (.int y53),some v99,some v142,some (.str (sOf a105)),some (.int y130)]) (aZ (aV (a:=s106)) (aV (a:=y130))) (fun v142 W140 e141 h143=>?_)
       cases h143
       have E0:=E0.trans e141
       have hB119:=hB119.trans e141.g
       have h7:=Al e141.g h7
       have h9:=Al e141.g h9
       try dsimp only
       refine dH (W:=W140) (s106+y130) hB119 ?_ hq
       exact⟨_,_,rfl,E0⟩
     ·intro s144 W145 sg146 hS147 iv hq
      obtain⟨d110,d111,rfl,E0⟩:=iv
      have h7:=Al hS147 h7
      have h9:=Al hS147 h9
      exact bh (Er:=Er) (R:=sh isB) (mj (by decide) (gw (bg h7) (CK (fM (bg h9) (aV (a:=y47)) (aV (a:=y53)) (bb (x:=Av "?") (l:=[63]) (fU _ _ (by decide +kernel))))) (aV (a:=y1.2.2)) (aV (a:=s29))) (aV (a:=s144))) (B6 hq fun y150 hq v151 W152 e153 h154=>hq v151 W152 (E0.trans e153) h154)
end
end Wb
namespace Wb
open PySem L2
section
variable {P:AI} {w:AQ} {K:PySem.W.Frag} {mg:Str->Option Am} {base:Heap}
theorem vB {f:Addr} {fd:AZ} {ps:List Str} {k:Nat} :FnOk P w K mg base CX0 k f fd ps (fS K 0):=⟨fun _ _ _ _ h=>h.elim,fun _ _ _ _ _ _ _ _ _ _ _ _ _ h=>h.elim⟩
theorem jE {K:PySem.W.Frag} (a b:String) (r:Bool) (h:PySem.W.kitOne [] (.type a) (.type b)=some r):PySem.W.kitOne K (.type a) (.type b)=some r:=by first | exact h | (rw[<-h];rfl)
theorem fE {c:TT} {t rest:TS} {D:Ends} {σ:St} {H:Hp} (h:∀Q:Bool->Hp->Prop,Q false H->c σ H Q) (k:rest D σ H):fj (iJ c t aE) rest D σ H:=h _ k
theorem mO {c:TT} {t rest:TS} {D:Ends} {σ:St} {H:Hp} (h:∀Q:Bool->Hp->Prop,Q true H->c σ H Q) (k:t {D with nx:=rest D} σ H):fj (iJ c t aE) rest D σ H:=h _ k
local macro_rules | `(tactic|walk_at "S0")=>`(tactic|simp only[cg,br,cU,bE,tC,dA,aj,aU,bX,aE,bJ,aP,bU,b6,bY,tB,eM,rU,dM,rI,cb,bV,aS,bj,fc,cn,fb,cq,bq,cu,bw,eO,bo,aD,dO,f9,eZ,ff,cv,cy,bW,cf,cx,aw,aL,L2.start,Bh,DQ,DA,Dl,C1,CD,En,Ct,DL,EH,Cc,BS,F0,exists_eq_left',exists_eq_left,exists_and_left,exists_eq',exists_const,D8.injEq,IS.injEq,Eh.injEq,V.ref.injEq,V.ty.injEq,FF,and_true,true_and,reduceCtorEq,false_and,and_false,exists_false,or_false,false_or,decide_eq_true_eq,F1,decide_eq_false_iff_not,if_true,if_false,Bb,ite_true,ite_false,Ea,G2,Gf,Gg,and_assoc])
local macro_rules | `(tactic|walk_at "S1")=>`(tactic|simp only[cg,fj,iJ,br,cU,bE,tC,dA,aj,aU,bX,aE,bJ,aP,bU,b6,bY,tB,eM,rU,dM,rI,cb,bV,aS,bj,fc,cn,fb,cq,bq,cu,bw,eO,bo,aD,dO,f9,eZ,ff,cv,cy,bW,cf,cx,aw,aL,L2.start,Bh,DQ,DA,Dl,C1,CD,En,Ct,DL,EH,Cc,BS,F0,exists_eq_left',exists_eq_left,exists_and_left,exists_eq',exists_const,D8.injEq,IS.injEq,Eh.injEq,V.ref.injEq,V.ty.injEq,FF,and_true,true_and,reduceCtorEq,false_and,and_false,exists_false,or_false,false_or,decide_eq_true_eq,F1,decide_eq_false_iff_not,if_true,if_false,Bb,ite_true,ite_false,Ea,G2,Gf,Gg,and_assoc])
theorem tM {f:Addr} {fd:AZ} (F:Fun K "_law_same" "_law_same" (tp 44) f fd) (h_len:mg "len" =none) (h_isinstance:mg "isinstance" =none) (h_bool:mg "bool" =none) (h_int:mg "int" =none) (h_str:mg "str" =none) (h_list:mg "list" =none) (h_tuple:mg "tuple" =none) (h_zip:mg "zip" =none) {n:Nat}
  (Z14:Cal P w K mg base "_law_same" ["_law_found","_law_due"] n (fS K n)):FnOk P w K mg base CX0 (n+1) f fd ["_law_found","_law_due"] (fS K (n+1)):=by
 have SC:FnScope ["_law_found","_law_due","_law_one","_law_other"] ["_law_found","_law_due"] (defScope (tp 44)):=by walk_at "F"
 refine F.ok SC (fun vs H Q E h=>?_) (fun cdv A outer s H vs Q E hr h=>?_)
 ·obtain⟨v,u,rfl,_⟩:=h;rfl
 ·obtain⟨v,u,rfl,h⟩:=h
  have hr:Room n _:=hr
  refine⟨_,(ae (bF (Hf (r0 (aG (op_isN.or iN) (pv 1) wo (aJ _)) (r0 (aG (op_isN.or iN) (pv 1) i6 (aJ _)) (qZ (aG (op_isN.or iN) (pv 1) i6 (aJ _)))))) (af (az (iI (df bZ (aI (aT (K:=K) rfl) (by rfl) h_isinstance AO (a5 (pv 0) (a5 (cF (v:=.ty "bool") (by rfl) h_bool Di rfl) aa))) (aI (aT (K:=K) rfl) (by rfl) h_isinstance AO (a5 (pv 1) (a5 (cF (v:=.ty "bool") (by rfl) h_bool Di rfl) aa))) (aJ _)) (iH (df bZ (pv 0) (pv 1) (aJ _)))))) aO)
   (ae (bF (d6 (aI (aT (K:=K) rfl) (by rfl) h_isinstance AO (a5 (pv 1) (a5 (cF (v:=.ty "int") (by rfl) h_int Dn rfl) aa)))) (af (az (iI (aI (aT (K:=K) rfl) (by rfl) h_isinstance AO (a5 (pv 0) (a5 (cF (v:=.ty "int") (by rfl) h_int Dn rfl) aa))) (iI (wq (aI (aT (K:=K) rfl) (by rfl) h_isinstance AO (a5 (pv 0) (a5 (cF (v:=.ty "bool") (by rfl) h_bool Di rfl) aa)))) (iH (df bZ (pv 0) (pv 1) (aJ _))))))) aO)
   (ae (bF (d6 (aI (aT (K:=K) rfl) (by rfl) h_isinstance AO (a5 (pv 1) (a5 (cF (v:=.ty "str") (by rfl) h_str FP rfl) aa)))) (af (az (iI (aI (aT (K:=K) rfl) (by rfl) h_isinstance AO (a5 (pv 0) (a5 (cF (v:=.ty "str") (by rfl) h_str FP rfl) aa))) (iH (df bZ (pv 0) (pv 1) (aJ _)))))) aO)
   (ae (bF (Hf (g9 (d6 (aI (aT (K:=K) rfl) (by rfl) h_isinstance AO (a5 (pv 1) (a5 (cF (v:=.ty "list") (by rfl) h_list DW rfl) aa)))) (eL (kf (d6 (aI (aT (K:=K) rfl) (by rfl) h_isinstance AO (a5 (pv 0) (a5 (cF (v:=.ty "list") (by rfl) h_list DW rfl) aa)))))))) (af (az i6)) aO)
   (ae (bF (Hf (g9 (d6 (aI (aT (K:=K) rfl) (by rfl) h_isinstance AO (a5 (pv 1) (a5 (cF (v:=.ty "tuple") (by rfl) h_tuple D7 rfl) aa)))) (eL (kf (d6 (aI (aT (K:=K) rfl) (by rfl) h_isinstance AO (a5 (pv 0) (a5 (cF (v:=.ty "tuple") (by rfl) h_tuple D7 rfl) aa)))))))) (af (az i6)) aO)
   (ae (bF (aG xP (aI (cH (K:=K) rfl) (by rfl) h_len PySem.boot_len (a5 (pv 0) aa)) (aI (cH (K:=K) rfl) (by rfl) h_len PySem.boot_len (a5 (pv 1) aa)) (aJ _)) (af (az i6)) aO)
   (ae (dn BL rfl (gk (K:=K) rfl rfl h_zip (a5 (pv 0) (a5 (pv 1) aa))) (cA (K:=K) (n:=2) rfl rfl (ax (ao (i:=2) SC.nd rfl (by walk_at "L")) (ax (ao (i:=3) SC.nd rfl (by walk_at "L")) cz))) (af (bF (kf (d6 (ar Z14 hr (by rfl) (a5 (pv 2) (a5 (pv 3) aa))))) (af (az i6)) aO)))
   (af (az i6))))))))),?_⟩
  rcases h with⟨he,q⟩ | ⟨x,y,rfl,rfl,q⟩
  rotate_left
  ·refine fE (fun Q q=>?_) (fE (fun Q q=>?_) (mO (fun Q q=>?_) ?_))
   ·walk_at "S0";exact q
   ·walk_at "S0";exact⟨_,.str _,_,jE "str" "int" false rfl,q⟩
   ·walk_at "S0";exact⟨_,.str _,_,jE "str" "str" true rfl,q⟩
   ·walk_at "S0"
    refine⟨_,.str _,_,jE "str" "str" true rfl,?_⟩
    walk_at "S0"
    simpa using q
  have fl:∀v,L2.flat v=true->(∀H',Same H H'->Q (.bl true) H')->(v=.non\/(∃b,v=.bl b)\/(∃i,v=.int i)\/∃x,v=.str x):=fun v hv _=>by
   cases v with
   | non=>exact .inl rfl
   | bl b=>exact .inr (.inl ⟨b,rfl⟩)
   | int b=>exact .inr (.inr (.inl ⟨b,rfl⟩))
   | str b=>exact .inr (.inr (.inr ⟨b,rfl⟩))
   | _=>cases hv
  have he':(v=u/\L2.flat v=true)\/∃m p q xs ys,n=m+1/\v=.ref p/\u=.ref q/\((H p=some (.lst xs)/\H q=some (.lst ys))\/(SqT K H p xs/\SqT K H q ys))/\xs.length=ys.length/\∀(i:Nat) (x y:V),xs[i]? =some x->ys[i]? =some y->EqK K H m x y:=by
   cases n with
   | zero=>exact .inl he
   | succ m=>rcases he with z | ⟨p,q,xs,ys,z⟩;exact .inl z;exact .inr ⟨m,p,q,xs,ys,rfl,z⟩
  rcases he' with⟨rfl,hf⟩ | ⟨m,p,q',xs,ys,hnm,rfl,rfl,hk,hl,hi⟩
  ·rcases fl v hf q with rfl | ⟨b,rfl⟩ | ⟨i,rfl⟩ | ⟨x,rfl⟩
   ·refine mO (fun Q q=>?_) ?_
    ·walk_at "S0";exact q
    ·walk_at "S0"
     refine⟨_,.non,_,jE "NoneType" "bool" false rfl,_,.non,_,jE "NoneType" "bool" false rfl,?_⟩
     walk_at "S0"
     exact q H (.refl H)
   ·refine mO (fun Q q=>?_) ?_
    ·cases b <;> walk_at "S0" <;> exact q
    ·walk_at "S0"
     refine⟨_,.bl _,_,jE "bool" "bool" true rfl,_,.bl _,_,jE "bool" "bool" true rfl,?_⟩
     walk_at "S0"
     exact q H (.refl H)
   ·refine fE (fun Q q=>?_) (mO (fun Q q=>?_) ?_)
    ·walk_at "S0";exact q
    ·walk_at "S0";exact⟨_,.int _,_,jE "int" "int" true rfl,q⟩
    ·walk_at "S0"
     refine⟨_,.int _,_,jE "int" "int" true rfl,?_⟩
     walk_at "S0"
     refine⟨_,.int _,_,jE "int" "bool" false rfl,?_⟩
     walk_at "S0"
     exact q H (.refl H)
   ·refine fE (fun Q q=>?_) (fE (fun Q q=>?_) (mO (fun Q q=>?_) ?_))
    ·walk_at "S0";exact q
    ·walk_at "S0";exact⟨_,.str _,_,jE "str" "int" false rfl,q⟩
    ·walk_at "S0";exact⟨_,.str _,_,jE "str" "str" true rfl,q⟩
    ·walk_at "S0"
     refine⟨_,.str _,_,jE "str" "str" true rfl,?_⟩
     walk_at "S0"
     exact q H (.refl H)
  ·subst hnm
   obtain⟨T,tp1,tp2,tl,src1,src2,h1,h2,e1,e2⟩:∃(T:String) (tp1:TyOf K H (.ref p) (.type T)) (tp2:TyOf K H (.ref q') (.type T)) (tl:(T="list" /\SqL K H p xs/\SqL K H q' ys)\/(T="tuple" /\SqT K H p xs/\SqT K H q' ys)) (src1 src2:Src),(∀H',Same H H'->src1.has K H' xs)/\(∀H',Same H H'->src2.has K H' ys)/\src1.val=.ref p/\src2.val=.ref q':=by
    rcases hk with⟨a,b⟩ | ⟨a,b⟩
    ·exact⟨"list",.lst a,.lst b,.inl ⟨rfl,CT a,CT b⟩,.lst p,.lst q',fun H' e=>CT (e _ _ a),fun H' e=>CT (e _ _ b),rfl,rfl⟩
    ·exact⟨"tuple",.tup a,.tup b,.inr ⟨rfl,a,b⟩,.tup p,.tup q',fun H' e=>BY e a,fun H' e=>BY e b,rfl,rfl⟩
   have hi0:PySem.W.kitOne K (.type T) (.type "int")=some false:=by rcases tl with⟨rfl,_⟩ | ⟨rfl,_⟩;exact jE _ _ _ rfl;exact jE _ _ _ rfl
   have hs0:PySem.W.kitOne K (.type T) (.type "str")=some false:=by rcases tl with⟨rfl,_⟩ | ⟨rfl,_⟩;exact jE _ _ _ rfl;exact jE _ _ _ rfl
   obtain⟨bl,hl0,hl1⟩:∃bl,PySem.W.kitOne K (.type T) (.type "list")=some bl/\PySem.W.kitOne K (.type T) (.type "tuple")=some (!bl):=by rcases tl with⟨rfl,_⟩ | ⟨rfl,_⟩;exact⟨true,jE _ _ _ rfl,jE _ _ _ rfl⟩;exact⟨false,jE _ _ _ rfl,jE _ _ _ rfl⟩
   have ln1:pM K (.ref p) H xs.length:=by rcases tl with⟨_,t1,_⟩ | ⟨_,t1,_⟩;exact .inl ⟨_,t1,rfl⟩;exact .inr ⟨_,t1,rfl⟩
   have ln2:pM K (.ref q') H ys.length:=by rcases tl with⟨_,_,t2⟩ | ⟨_,_,t2⟩;exact .inl ⟨_,t2,rfl⟩;exact .inr ⟨_,t2,rfl⟩
   refine fE (fun Q q=>?_) (fE (fun Q q=>?_) (fE (fun Q q=>?_) (fE (fun Q q=>?_) (fE (fun Q q=>?_) (fE (fun Q q=>?_) ?_)))))
   ·walk_at "S0";exact q
   ·walk_at "S0";exact⟨_,tp2,_,hi0,q⟩
   ·walk_at "S0";exact⟨_,tp2,_,hs0,q⟩
   ·walk_at "S0"
    refine⟨_,tp2,_,hl0,?_⟩
    cases bl with
    | false=>exact q
    | true=>walk_at "S0";exact⟨_,tp1,_,hl0,q⟩
   ·walk_at "S0"
    refine⟨_,tp2,_,hl1,?_⟩
    cases bl with
    | true=>exact q
    | false=>walk_at "S0";exact⟨_,tp1,_,hl1,q⟩
   ·walk_at "S0"
    refine⟨_,ln1,_,ln2,?_⟩
    simp only[hl,cg,br,cU,bE,tC,dA,aj,aU,bX,aE,bJ,aP,bU,b6,bY,tB,eM,rU,dM,rI,cb,bV,aS,bj,fc,cn,fb,cq,bq,cu,bw,eO,bo,aD,dO,f9,eZ,ff,cv,cy,bW,cf,cx,aw,aL,L2.start,Bh,DQ,DA,Dl,C1,CD,En,Ct,DL,EH,Cc,BS,F0,exists_eq_left',exists_eq_left,exists_and_left,exists_eq',exists_const,D8.injEq,IS.injEq,Eh.injEq,V.ref.injEq,V.ty.injEq,FF,and_true,true_and,reduceCtorEq,false_and,and_false,exists_false,or_false,false_or,decide_eq_true_eq,F1,decide_eq_false_iff_not,if_true,if_false,Bb,ite_true,ite_false,Ea,G2,Gf,Gg,and_assoc]
    exact q
   ·walk_at "S1"
    refine⟨_,rfl,_,rfl,src1,src2,xs,ys,by rw[e1,e2],h1 H (.refl H),h2 H (.refl H),uB (fun i σ H2=>Same H H2/\∃a b,σ=[some (.ref p),some (.ref q'),a,b]) ⟨.refl H,none,none,rfl⟩ (fun i σ H2 ⟨e,_⟩=>⟨h1 H2 e,h2 H2 e⟩) hl ?_ ?_⟩
    ·rintro i x y r σ H2 hx hy hr' ⟨e,a,b,rfl⟩
     walk_at "S1"
     refine⟨_,HZ aF,rfl,?_⟩
     walk_at "S1"
     refine⟨x,y,rfl,.inl ⟨(hi i x y hx hy).same (e.trans (cB hr')),fun H3 e3=>?_⟩⟩
     walk_at "S1"
     exact e.trans ((cB hr').trans e3)
    ·rintro σ H2 ⟨e,a,b,rfl⟩
     walk_at "S1"
     exact q H2 e
def pb (K:PySem.W.Frag):Sp:=fun vs H Q _=>∃(a:Addr) (ns:List Int),vs=[.ref a]/\SqL K H a (ns.map D8)/\ns.length<=63/\∀H',Q (.bl true) H'
end
end Wb
namespace Mi
theorem ig {s:List Int} (hs:s.length<=63) (k:Nat) (hk:k<=200):∃n,gh s (k:Int)=.ok n:=by
 unfold gh yI
 by_cases h:(k:Int)< (s.length:Int)
 ·rw[if_pos (by simpa using h)]
  obtain⟨x,e,_⟩:=iu (xs:=s) (i:=(k:Int)) (by omega) h
  exact⟨x,e⟩
 ·rw[if_neg (by simpa using h),se (by omega) (by omega)]
  exact⟨_,rfl⟩
theorem xf (c b:Int) (hb:1<=b) (hb2:b< 1073741824) (k:Nat) (s:Int×Int×List Int) (h1:0<=s.2.1) (hl:s.2.2.length< 100000):∃s':Int×Int×List Int,xw c b (k:Int) s=.ok s'/\0<=s'.2.1/\∃v,0<=v/\v< b/\s'.2.2=s.2.2++ [v]:=by
 unfold xw
 have hm0:=Bq (s.1*48271+7919+(k:Int)) (show(2147483647:Int)≠0 by decide)
 have hm1:=Be (s.1*48271+7919+(k:Int)) (show(0:Int)< 2147483647 by decide)
 generalize (s.1*48271+7919+(k:Int))% 2147483647=mx at*
 have other:∀z:Int,0<=z% b/\z% b< b:=fun z=>⟨Bq _ (by omega),Be _ (by omega)⟩
 have A:∀z:Int,gm s.2.2 z=.ok (s.2.2++ [z]):=fun z=>eW hl
 have e2:((((jB mx mx).bind fun y63=>As (y63% 1000003)).bind fun y64=>iV y64 b).bind fun y69=>gm s.2.2 y69)=.ok (s.2.2++ [mx*mx% 1000003% b]):=by
  rw[lW (by omega) (by omega)];simp only[Ao];rw[fP (by omega)];exact A _
 have e1:((iV s.2.1 b).bind fun y56=>gm s.2.2 y56)=.ok (s.2.2++ [s.2.1% b]):=by rw[fP (by omega)];exact A _
 by_cases hf:(1000000000000000000:Int)<=cP c
 ·rw[decide_eq_true hf]
  by_cases hp:0< s.2.1
  ·rw[decide_eq_true hp]
   simp only[if_true,Ao,e1,lV (show 0< b by omega) hb2]
   exact⟨_,rfl,Int.ediv_nonneg h1 (by omega),_,(other _).1,(other _).2,rfl⟩
  ·rw[decide_eq_false hp]
   simp only[if_true,Ao,Bb,if_false,e2]
   exact⟨_,rfl,h1,_,(other _).1,(other _).2,rfl⟩
 ·rw[decide_eq_false hf]
  simp only[Ao,Bb,if_false,e2]
  exact⟨_,rfl,h1,_,(other _).1,(other _).2,rfl⟩
theorem l5 (c:Int) (n:Nat) (b:Int) (hn:n<=1000) (hb:1<=b) (hb2:b< 1073741824):∃ns,gM c (n:Int) b=.ok ns/\ns.length=n/\∀x∈ns,0<=x/\x< b:=by
 unfold gM yJ
 rw[qi (by omega),Ao]
 obtain⟨s,e,h0,hl,hb⟩:=cZ (f:=xw c b) (fun pre (s:Int×Int×List Int)=>0<=s.2.1/\s.2.2.length=pre.length/\∀x∈s.2.2,0<=x/\x< b) ((BG n).map fun(i:Nat)=>(i:Int)) ((cP c)% 2147483647,cP c,[]) ⟨uL c,rfl,by simp⟩ (by
  intro pre a post s e ⟨h0,hl,hb'⟩
  have hlen:pre.length< n:=by have:=congrArg Dc e;simp at this;omega
  obtain⟨k,rfl⟩:∃k:Nat,a=(k:Int):=by
   have:a∈(BG n).map fun(i:Nat)=>(i:Int):=by rw[e];simp
   obtain⟨k,_,hk⟩:=Bi.mp this;exact⟨k,hk.symm⟩
  obtain⟨s',e',h0',v,v0,v1,ev⟩:=xf c b hb hb2 k s h0 (by omega)
  refine⟨s',e',h0',by rw[ev];simp[hl],fun x hx=>?_⟩
  rw[ev]at hx
  rcases Bk.mp hx with z | z
  ·exact hb' x z
  ·rw[Dh.mp z];exact⟨v0,v1⟩)
 rw[e]
 exact⟨_,rfl,by rw[hl];simp,hb⟩
def bu (c:Nat):Prop:=c=102\/c=98\/c=105
def fF (t:Tx):Prop:=∀c∈t,bu c
abbrev Cd:=Tx×Tx×Int
structure Card (t:Cd):Prop where
 lay:t.1=[83]\/t.1=[90]
 four:t.2.1.length=4
 col:∀c∈t.2.1,97<=c/\c<=122
 low:0<=t.2.2
 high:t.2.2< 4
theorem tN (sz:Int) (ds:List Int) (hsz:1<=sz) (hd:ds.length=5) (a:Int) (t:Tx) (ht:t.length< 1000):∃c,97<=c/\c<=122/\xx sz ds a t=.ok (t++ [c]):=by
 unfold xx
 obtain⟨x,e,_⟩:=iu (xs:=ds) (i:=4) (by decide) (by rw[hd];decide)
 rw[e]
 simp only[Ao,fP (show 0< sz by omega)]
 have h0:=Bq (x+a% sz*7) (show(26:Int)≠0 by decide)
 have h1:=Be (x+a% sz*7) (show(0:Int)< 26 by decide)
 generalize (x+a% sz*7)% 26=r at h0 h1
 obtain⟨c,e2,h2⟩:=fQ (x:=([97,98,99,100,101,102,103,104,105,106,107,108,109,110,111,112,113,114,115,116,117,118,119,120,121,122]:Tx)) (i:=r) h0 (by simp;omega) (by decide)
 rw[e2]
 simp only[Ao,kP (show t.length+ [c].length<=100000 by simp;omega)]
 have hc:c∈([97,98,99,100,101,102,103,104,105,106,107,108,109,110,111,112,113,114,115,116,117,118,119,120,121,122]:Tx):=AX h2
 have:∀c∈([97,98,99,100,101,102,103,104,105,106,107,108,109,110,111,112,113,114,115,116,117,118,119,120,121,122]:Tx),97<=c/\c<=122:=by decide
 exact⟨c,(this c hc).1,(this c hc).2,rfl⟩
theorem tO (c:Int):∃t,vd c=.ok t/\t.length=4/\∀x∈t,97<=x/\x<=122:=by
 unfold vd yK
 have h0:=Bq c (show(5:Int)≠0 by decide)
 have h1:=Be c (show(0:Int)< 5 by decide)
 obtain⟨sz,e,h2⟩:=iu (xs:=[(1:Int),2,3,4,26]) (i:=c% 5) h0 (by simp;omega)
 have hsz:1<=sz:=by
  have:∀x∈[(1:Int),2,3,4,26],1<=x:=by decide
  exact this sz (AX h2)
 rw[e,Ao]
 obtain⟨ds,e2,hd,_⟩:=l5 (c/ 5) 5 26 (by decide) (by decide) (by decide)
 rw[show gM (c/ 5) 5 26=As ds from e2,Ao,show cut ds none (some 4)=ds.take 4 from j9 ds 4]
 obtain⟨t,e3,h3,h4⟩:=cZ (f:=xx sz ds) (fun pre t=>t.length=pre.length/\∀x∈t,97<=x/\x<=122) (ds.take 4) [] ⟨rfl,by simp⟩ (by
  intro pre a post t e ⟨hl,hb⟩
  have hlen:pre.length< 5:=by have:=congrArg Dc e;simp at this;omega
  obtain⟨c,c0,c1,ec⟩:=tN sz ds hsz hd a t (by omega)
  refine⟨_,ec,by simp[hl],fun x hx=>?_⟩
  rcases Bk.mp hx with z | z
  ·exact hb x z
  ·rw[Dh.mp z];exact⟨c0,c1⟩)
 rw[e3]
 exact⟨t,rfl,by rw[h3,E2];omega,h4⟩
theorem pf (c:Int):∃t,uf c=.ok t/\Card t:=by
 unfold uf yL
 have h0:=Bq c (show(2:Int)≠0 by decide)
 have h1:=Be c (show(0:Int)< 2 by decide)
 obtain⟨y,e,h2⟩:=fQ (x:=([83,90]:Tx)) (i:=c% 2) h0 (by simp;omega) (by decide)
 obtain⟨t,e2,hl,hb⟩:=tO (c/ 8)
 rw[e,Ao,e2,Ao]
 refine⟨_,rfl,?_,hl,hb,Bq _ (by decide),Be _ (by decide)⟩
 have:y=83\/y=90:=by simpa using AX h2
 rcases this with rfl | rfl
 ·exact .inl rfl
 ·exact .inr rfl
theorem tP (d:Int) (h0:0<=d) (h1:d< 3):∃c,eB ([102,98,105]:Tx) d=.ok [c]/\bu c:=by
 obtain⟨c,e,h⟩:=fQ (x:=([102,98,105]:Tx)) (i:=d) h0 (by simp;omega) (by decide)
 refine⟨c,e,?_⟩
 have:=AX h
 simpa [bu] using this
theorem tQ (c:Int) (n:Nat) (hn:n<=1000):∃t,ve c (n:Int)=.ok t/\t.length=n/\fF t:=by
 unfold ve yM
 by_cases h:c% 7=3
 ·rw[if_pos (by simpa using h)]
  obtain⟨y,e,hy⟩:=tP (c/ 7% 3) (Bq _ (by decide)) (Be _ (by decide))
  rw[e,Ao,uJ (by omega) (by omega)]
  refine⟨_,rfl,by simp,fun x hx=>?_⟩
  rw[List.eq_of_mem_replicate hx];exact hy
 ·rw[if_neg (by simpa using h)]
  obtain⟨ds,e,hl,hb⟩:=l5 (c/ 7) n 3 hn (by decide) (by decide)
  rw[e,Ao]
  have key:∃t:List Nat,dQ ds (fun(a9:Int)=>eB ([102,98,105]:Tx) a9)=.ok (t.map fun c=>[c])/\t.length=n/\fF t:=by
   have:∀d∈ds,∃c:Nat,eB ([102,98,105]:Tx) d=.ok [c]/\bu c:=fun d hd=>tP d (hb d hd).1 (hb d hd).2
   have hf:∀d∈ds,eB ([102,98,105]:Tx) d=.ok ((fun d=>[if d=0 then 102 else if d=1 then 98 else 105]) d):=fun d hd=>by
    have h1:=hb d hd
    have:d=0\/d=1\/d=2:=by omega
    rcases this with rfl | rfl | rfl <;> rfl
   rw[eD (by show ds.length<=100000;omega) hf]
   refine⟨ds.map fun d=>if d=0 then 102 else if d=1 then 98 else 105,by simp,by simp[hl],fun x hx=>?_⟩
   obtain⟨d,_,rfl⟩:=Bi.mp hx
   unfold bu;split
   ·exact .inl rfl
   ·split
    ·exact .inr (.inl rfl)
    ·exact .inr (.inr rfl)
  obtain⟨t,e2,hl2,ht⟩:=key
  rw[e2,Ao,lX (by rw[oI];omega),oI]
  exact⟨t,rfl,hl2,ht⟩
def go (c:Nat):Int:=if c=102 then 1 else if c=98 then -1 else 0
def tw (t:Cd) (c:Nat):Int:=if t.1=[83]then go c else -go c
def d4 (t:Cd) (i:Int):Nat:=t.2.1[i.toNat]?.getD 0
def ju (i:Int):Nat:=if i=1 then 115 else if i= -1 then 122 else 111
def behind (t:Cd) (c:Nat):Cd:=(t.1,t.2.1,(t.2.2+go c)% 4)
abbrev Pl:=Tx×Tx×Tx
def place (t:Cd) (c:Nat):Pl:=([d4 t t.2.2],[d4 t ((t.2.2+2)% 4)],[ju (tw t c)])
theorem yC (c:Nat): -1<=go c/\go c<=1:=by unfold go;split;omega;split <;> omega
theorem wb (t:Cd) (c:Nat): -1<=tw t c/\tw t c<=1:=by have:=yC c;unfold tw;split <;> omega
theorem Card.behind {t:Cd} (h:Card t) (c:Nat):Card (behind t c):=⟨h.lay,h.four,h.col,Bq _ (by decide),Be _ (by decide)⟩
theorem wc {c:Nat} (h:bu c):mZ [c]=.ok (go c):=by
 unfold mZ yN
 rcases h with rfl | rfl | rfl <;> rfl
theorem jX {t:Cd} {c:Nat} (h:bu c):iB t [c]=.ok (behind t c):=by
 unfold iB yO
 rw[wc h];rfl
theorem tR {t:Cd} {c:Nat} (h:bu c):p7 t [c]=.ok (tw t c):=by
 unfold p7 yP
 rw[wc h]
 by_cases z:t.1=[83]
 ·rw[if_pos (by simpa using z)];unfold tw;rw[if_pos z]
 ·rw[if_neg (by simpa using z)];unfold tw;rw[if_neg z];simp only[Ao];congr 1;omega
theorem dz {t:Cd} (h:Card t) {i:Int} (h0:0<=i) (h1:i< 4):eB t.2.1 i=.ok [d4 t i]:=wR h0 (by rw[h.four];exact h1) (by rw[h.four];decide)
theorem eA (i:Int):0<=i% 4/\i% 4< 4:=⟨Bq _ (by decide),Be _ (by decide)⟩
theorem xg {i:Int} (h: -1<=i/\i<=1):eB ([122,111,115]:Tx) (i+1)=.ok [ju i]:=by
 have:i= -1\/i=0\/i=1:=by omega
 rcases this with rfl | rfl | rfl <;> rfl
def eY:Cd->Tx->List Pl
 | _,[]=>[]
 | t,c::r=>place (behind t c) c::eY (behind t c) r
def ends:Cd->Tx->Cd
 | t,[]=>t
 | t,c::r=>ends (behind t c) r
theorem nV (t:Cd) (x:Tx):(eY t x).length=x.length:=by
 induction x generalizing t with
 | nil=>rfl
 | cons c r ih=>simp[eY,ih]
theorem tS (x:Tx):∀(t:Cd) (c:Nat),ends t (x++ [c])=behind (ends t x) c:=by
 induction x with
 | nil=>intro t c;rfl
 | cons d r ih=>intro t c;simp[ends,ih]
theorem Card.ends {t:Cd} (h:Card t) (x:Tx):Card (ends t x):=by
 induction x generalizing t with
 | nil=>exact h
 | cons c r ih=>exact ih (h.behind c)
theorem qL {t:Cd} (h:Card t) {c:Nat} (hc:bu c) {out:List Pl} (ho:out.length< 100000):xA iB p7 [c] (t,out)=.ok (behind t c,out++ [place (behind t c) c]):=by
 unfold xA
 have hb:=h.behind c
 simp only[jX hc,Ao,tR hc,xg (wb _ _),dz hb hb.low hb.high,dz hb (eA _).1 (eA _).2]
 rw[eW ho]
 rfl
theorem qM {t:Cd} (h:Card t) {x:Tx} (hx:fF x) (hl:x.length<=10000):vf t x=.ok (eY t x):=by
 unfold vf yQ
 have key:∀(x:Tx) (t:Cd) (out:List Pl),Card t->fF x->out.length+x.length<=10000->bN (xA iB p7) (bK x) (t,out)=.ok (ends t x,out++eY t x):=by
  intro x
  induction x with
  | nil=>intro t out _ _ _;simp[bK,bN,ends,eY]
  | cons c r ih =>
   intro t out h hx hl
   simp only[CD]at hl
   show bN _ ([c]::bK r) _=_
   unfold bN
   rw[qL h (hx c (by simp)) (by omega),Ao,ih _ _ (h.behind c) (fun d hd=>hx d (by simp[hd])) (by simp;omega)]
   simp[ends,eY]
 rw[key x t [] h hx (by simpa using hl)]
 simp
def isCol (c:Nat):Prop:=97<=c/\c<=122
def isSl (c:Nat):Prop:=c=115\/c=122\/c=111
structure Mark (m:Pl):Prop where
 a:∃c,m.1=[c]/\(isCol c\/c=63)
 b:∃c,m.2.1=[c]/\(isCol c\/c=63)
 s:∃c,m.2.2=[c]/\(isSl c\/c=63)
structure Whole (m:Pl):Prop where
 a:∃c,m.1=[c]/\isCol c
 b:∃c,m.2.1=[c]/\isCol c
 s:∃c,m.2.2=[c]/\isSl c
theorem Whole.mark {m:Pl} (h:Whole m):Mark m:=by
 obtain⟨⟨a,h1,h2⟩,⟨b,h3,h4⟩,⟨s,h5,h6⟩⟩:=h
 exact⟨⟨a,h1,.inl h2⟩,⟨b,h3,.inl h4⟩,⟨s,h5,.inl h6⟩⟩
theorem jv {t:Cd} (h:Card t) {i:Int} (h0:0<=i) (h1:i< 4):isCol (d4 t i):=by
 unfold d4
 have:i.toNat< t.2.1.length:=by rw[h.four];omega
 simp only[Ar this,E4]
 exact h.col _ (Cr this)
theorem tT (i:Int):isSl (ju i):=by unfold ju isSl;split;exact .inl rfl;split;exact .inr (.inl rfl);exact .inr (.inr rfl)
theorem mP {t:Cd} (h:Card t) (c:Nat):Whole (place t c):=⟨⟨_,rfl,jv h h.low h.high⟩,⟨_,rfl,jv h (eA _).1 (eA _).2⟩,⟨_,rfl,tT _⟩⟩
theorem l7 {t:Cd} (h:Card t) (x:Tx):∀m∈eY t x,Whole m:=by
 induction x generalizing t with
 | nil=>intro m hm;simp[eY]at hm
 | cons c r ih =>
  intro m hm
  rcases AR.mp hm with rfl | hm
  ·exact mP (h.behind c) c
  ·exact ih (h.behind c) m hm
theorem mQ {c:Nat} (h:isCol c):∃j d,isCol d/\gU ([97,98,99,100,101,102,103,104,105,106,107,108,109,110,111,112,113,114,115,116,117,118,119,120,121,122,97]:Tx) [c]=.ok j/\eB ([97,98,99,100,101,102,103,104,105,106,107,108,109,110,111,112,113,114,115,116,117,118,119,120,121,122,97]:Tx) (j+1)=.ok [d]:=by
 have key:∀k:Fin 26,(match gU ([97,98,99,100,101,102,103,104,105,106,107,108,109,110,111,112,113,114,115,116,117,118,119,120,121,122,97]:Tx) [97+k.1]with | .ok j=>(match eB ([97,98,99,100,101,102,103,104,105,106,107,108,109,110,111,112,113,114,115,116,117,118,119,120,121,122,97]:Tx) (j+1)with | .ok [d]=>decide (97<=d/\d<=122) | _=>false) | _=>false)=true:=by decide
 obtain⟨k,rfl⟩:∃k:Fin 26,c=97+k.1:=⟨⟨c- 97,by have:=h.1;have:=h.2;omega⟩,by have:=h.1;show c=97+(c- 97);omega⟩
 have:=key k
 split at this
 ·rename_i j e
  split at this
  ·rename_i d e2
   exact⟨j,d,by simpa [isCol] using this,e,e2⟩
  ·cases this
 ·cases this
theorem vC {c:Nat} (h:isSl c):∃j d,isSl d/\gU ([115,122,111]:Tx) [c]=.ok j/\eB ([122,111,115]:Tx) j=.ok [d]:=by
 rcases h with rfl | rfl | rfl
 ·exact⟨0,122,.inr (.inl rfl),rfl,rfl⟩
 ·exact⟨1,111,.inr (.inr rfl),rfl,rfl⟩
 ·exact⟨2,115,.inl rfl,rfl,rfl⟩
def vD (l:List Tx):Prop:=∃a b c,l=[[a],[b],[c]]/\isCol a/\isCol b/\isSl c
theorem tU (cell:Int) {p:Pl} (hp:Whole p) {d:Int} (h0:0<=d) (h1:d< 64) {out:List Pl} (ho:out.length< 1000):(xC cell (p,d) out).Ok fun r=>∃m,Mark m/\r=out++ [m]:=by
 unfold xC
 obtain⟨⟨a,ea,ha⟩,⟨b,eb,hb⟩,⟨s,es,hs⟩⟩:=hp
 simp only[ea,eb,es]
 refine ja (Ca (P:=fun d'=>0<=d'/\d'< 64) (m7 (fun _=>fR ⟨by omega,by omega⟩) fun _=>fR ⟨h0,h1⟩) fun d1 hd1=>?_)
 refine ja (Ca (P:=fun d'=>0<=d'/\d'< 64) (m7 (fun _=>fR ⟨by omega,by omega⟩) fun _=>fR hd1) fun d2 hd2=>?_)
 have hm0:=Bq d2 (show(3:Int)≠0 by decide)
 have hm1:=Be d2 (show(0:Int)< 3 by decide)
 have step1:((if(decide ((56:Int)<=d2))then As (decide ((d2% 3)< (2:Int)))else As false).bind fun y90=>(if y90 then(((((fV [[a],[b],[s]] (d2% 3)).bind fun y101=>gU ([97,98,99,100,101,102,103,104,105,106,107,108,109,110,111,112,113,114,115,116,117,118,119,120,121,122,97]:Tx) y101).bind fun y102=>As (y102+(1:Int))).bind fun y103=>eB ([97,98,99,100,101,102,103,104,105,106,107,108,109,110,111,112,113,114,115,116,117,118,119,120,121,122,97]:Tx) y103).bind fun y107=>gp [[a],[b],[s]] (d2% 3) y107).bind fun y108=>As y108 else As [[a],[b],[s]]:Res (List Tx))).Ok vD:=by
  have dflt:vD [[a],[b],[s]]:=⟨a,b,s,rfl,ha,hb,hs⟩
  refine ja (m7 (fun _=>fR ?_) fun _=>fR dflt)
  refine m7 (fun h2=>?_) fun _=>fR dflt
  generalize d2% 3=r at*
  have:r=0\/r=1:=by omega
  rcases this with rfl | rfl
  ·obtain⟨j,d,hd,e1,e2⟩:=mQ ha
   simp only[show fV [[a],[b],[s]] 0=As [a]from rfl,Ao,e1,e2,show gp [[a],[b],[s]] 0 [d]=As [[d],[b],[s]]from rfl]
   exact fR ⟨d,b,s,rfl,hd,hb,hs⟩
  ·obtain⟨j,d,hd,e1,e2⟩:=mQ hb
   simp only[show fV [[a],[b],[s]] 1=As [b]from rfl,Ao,e1,e2,show gp [[a],[b],[s]] 1 [d]=As [[a],[d],[s]]from rfl]
   exact fR ⟨a,d,s,rfl,ha,hd,hs⟩
 refine ja (step1.imp fun l1 ht=>?_)
 obtain⟨a,b,s,rfl,ha,hb,hs⟩:=ht
 have step2:((if(decide ((56:Int)<=d2))then As (decide ((d2% 3)=(2:Int)))else As false).bind fun y120=>(if y120 then((((fV [[a],[b],[s]] (2:Int)).bind fun y127=>gU ([115,122,111]:Tx) y127).bind fun y128=>eB ([122,111,115]:Tx) y128).bind fun y132=>gp [[a],[b],[s]] (2:Int) y132).bind fun y133=>As y133 else As [[a],[b],[s]]:Res (List Tx))).Ok vD:=by
  have dflt:vD [[a],[b],[s]]:=⟨a,b,s,rfl,ha,hb,hs⟩
  refine ja (m7 (fun _=>fR ?_) fun _=>fR dflt)
  refine m7 (fun h2=>?_) fun _=>fR dflt
  obtain⟨j,d,hd,e1,e2⟩:=vC hs
  simp only[show fV [[a],[b],[s]] 2=As [s]from rfl,Ao,e1,e2,show gp [[a],[b],[s]] 2 [d]=As [[a],[b],[d]]from rfl]
  exact fR ⟨a,b,d,rfl,ha,hb,hd⟩
 refine ja (step2.imp fun l2 ht=>?_)
 obtain⟨a,b,s,rfl,ha,hb,hs⟩:=ht
 have cell1:∀(x:Nat) (k:Int),0< k->k< 10->∃y,((((i9 d2 k).bind fun y158=>As (y158% 2)).bind fun y159=>As (decide (y159=(1:Int)))).bind fun y160=>if y160 then As [x]else As ([63]:Tx))=.ok [y]/\(y=x\/y=63):=fun x k k0 k1=>by
  rw[lV k0 (by omega)]
  simp only[Ao]
  by_cases h:d2/ k% 2=1
  ·rw[if_pos (by simpa using h)];exact⟨x,rfl,.inl rfl⟩
  ·rw[if_neg (by simpa using h)];exact⟨63,rfl,.inr rfl⟩
 obtain⟨x,ex,hx⟩:=cell1 a 1 (by decide) (by decide)
 obtain⟨y,ey,hy⟩:=cell1 b 2 (by decide) (by decide)
 obtain⟨z,ez,hz⟩:=cell1 s 4 (by decide) (by decide)
 have ec:dQ ([[a],[b],[s]].zip [(1:Int),2,4]) (fun(a149:Tx×Int)=>(((i9 d2 a149.2).bind fun y158=>As (y158% 2)).bind fun y159=>As (decide (y159=(1:Int)))).bind fun y160=>if y160 then As a149.1 else As ([63]:Tx))=.ok [[x],[y],[z]]:=by
  unfold dQ
  rw[bA (show([[a],[b],[s]].zip [(1:Int),2,4]).length<=cap from(by show 3<=100000;decide)),Ao]
  show iW _ [([a],(1:Int)),([b],2),([s],4)]=_
  simp only[iW,ex,ey,ez,Ao]
 simp only[ec,Ao,rP,eW (show out.length< 100000 by omega)]
 refine⟨_,⟨⟨x,rfl,?_⟩,⟨y,rfl,?_⟩,⟨z,rfl,?_⟩⟩,rfl⟩
 ·rcases hx with rfl | rfl
  ·exact .inl ha
  ·exact .inr rfl
 ·rcases hy with rfl | rfl
  ·exact .inl hb
  ·exact .inr rfl
 ·rcases hz with rfl | rfl
  ·exact .inl hs
  ·exact .inr rfl
def Marks (n:Nat) (l:List Pl):Prop:=l.length=n/\∀m∈l,Mark m
theorem iC {α β:Type} {xs:List α} {ys:List β} {p:α×β} (h:p∈xs.zip ys):p.1∈xs/\p.2∈ys:=⟨(DH h).1,(DH h).2⟩
theorem tV {ps:List Pl} (hp:∀p∈ps,Whole p) (hl:ps.length<=900) (cell:Int) (lies:Bool):(vh ps cell lies).Ok (Marks ps.length):=by
 unfold vh yT
 have e0:∃b:Int,((jB (8:Int) (if lies then(1:Int)else 0)).bind fun y9=>As ((56:Int)+y9))=.ok b/\56<=b/\b<=64:=by
  cases lies
  ·exact⟨56,rfl,by decide,by decide⟩
  ·exact⟨64,rfl,by decide,by decide⟩
 obtain⟨b,eb,hb0,hb1⟩:=e0
 rw[eb,Ao]
 obtain⟨ns,en,hn,hns⟩:=l5 (cell/ 5) ps.length b (by omega) (by omega) (by omega)
 rw[en,Ao]
 obtain⟨r,er,hr⟩:=cZ (f:=xC cell) (fun pre r=>Marks pre.length r) (ps.zip ns) [] ⟨rfl,by simp⟩ (by
  intro pre a post s e ⟨h1,h2⟩
  have ha:a∈ps.zip ns:=by rw[e];simp
  have hlen:pre.length< 900:=by have:=congrArg Dc e;simp[DI,hn]at this;omega
  obtain⟨r,er,m,hm,rfl⟩:=(tU cell (hp _ (iC ha).1) (hns _ (iC ha).2).1 (by have:=(hns _ (iC ha).2).2;omega) (out:=s) (by omega)).ex
  refine⟨_,er,by simp[h1],fun x hx=>?_⟩
  rcases Bk.mp hx with z | z
  ·exact h2 x z
  ·rw[Dh.mp z];exact hm)
 rw[er]
 refine⟨by rw[hr.1,DI,hn];omega,hr.2⟩
theorem Marks.get {n:Nat} {l:List Pl} (h:Marks n l) {i:Int} (h0:0<=i) (h1:i< n):∃m,fV l i=.ok m/\Mark m:=by
 obtain⟨m,e,g⟩:=iu (xs:=l) h0 (by rw[h.1];exact h1)
 exact⟨m,e,h.2 m (AX g)⟩
theorem qN {p:Pl} (h:Mark p):Mark ([63],p.2.1,[63]):=⟨⟨63,rfl,.inr rfl⟩,h.b,⟨63,rfl,.inr rfl⟩⟩
theorem vE {p:Pl} (hp:Mark p) {d k:Int} {out:List Pl} (ho:out.length< 1000):(xB (p,d) (k,out)).Ok fun r=>∃m,Mark m/\r.2=out++ [m]:=by
 unfold xB
 refine ja (Ca (P:=fun r:Int×Pl=>Mark r.2) (ja (Ca (P:=fun _=>True) (m7 (fun _=>fR trivial) fun _=>fR trivial) fun b _=>zE (fun _=>fR (qN hp)) fun _=>fR hp)) fun r hr=>?_)
 rw[eW (show(k,out).2.length< 100000 from(by show out.length< 100000;omega))]
 exact⟨_,hr,rfl⟩
theorem xh (d:Int) (h0:0<=d) (h1:d< 3):∃c,eB ([115,122,111]:Tx) d=.ok [c]/\isSl c:=by
 obtain⟨c,e,h⟩:=fQ (x:=([115,122,111]:Tx)) (i:=d) h0 (by simp;omega) (by decide)
 exact⟨c,e,by simpa [isSl] using AX h⟩
theorem vF {ps:List Pl} (hp:∀p∈ps,Whole p) (hl:ps.length<=900) (h1:1<=ps.length) (cell:Int):(vg ps cell).Ok (Marks ps.length):=by
 unfold vg yR
 obtain⟨ns,en,hn,hns⟩:=l5 (cell/ 3) ps.length 11 (by omega) (by decide) (by decide)
 rw[en,Ao]
 obtain⟨r,er,hr⟩:=cZ (f:=xB) (fun pre (r:Int×List Pl)=>Marks pre.length r.2) (ps.zip ns) (0,[]) ⟨rfl,by simp⟩ (by
  intro pre a post s e ⟨h1,h2⟩
  have ha:a∈ps.zip ns:=by rw[e];simp
  have hlen:pre.length< 900:=by have:=congrArg Dc e;simp[DI,hn]at this;omega
  obtain⟨k,out⟩:=s
  obtain⟨r,er,m,hm,e2⟩:=(vE (hp _ (iC ha).1).mark (d:=a.2) (k:=k) (out:=out) (by have:out.length=pre.length:=h1;omega)).ex
  refine⟨r,er,by rw[e2];simp;exact h1,fun x hx=>?_⟩
  rw[e2]at hx
  rcases Bk.mp hx with z | z
  ·exact h2 x z
  ·rw[Dh.mp z];exact hm)
 rw[er,Ao]
 have hr:Marks ps.length r.2:=⟨by rw[hr.1,DI,hn];omega,hr.2⟩
 refine ja (Ca (P:=Marks ps.length) (m7 (fun _=>?_) fun _=>fR hr) fun r h=>fR h)
 rw[fP (by omega),Ao]
 have b0:=Bq (cell/ 3) (show(ps.length:Int)≠0 by omega)
 have b1:=Be (cell/ 3) (show(0:Int)< (ps.length:Int) by omega)
 generalize cell/ 3% (ps.length:Int)=i at b0 b1
 obtain⟨m,em,hm⟩:=hr.get b0 (by omega)
 obtain⟨c,ec,hc⟩:=xh (cell/ 7% 3) (Bq _ (by decide)) (Be _ (by decide))
 simp only[em,Ao,ec,uK b0 (show i< r.2.length by rw[hr.1];exact b1)]
 refine⟨by simp[hr.1],fun x hx=>?_⟩
 rcases EN hx with z | z
 ·exact hr.2 x z
 ·rw[z];exact⟨hm.a,hm.b,⟨c,rfl,.inl hc⟩⟩
def ph (t:Cd):Cd:=(if t.1=[83]then [90]else [83],[d4 t 0,d4 t 3,d4 t 2,d4 t 1],(0- t.2.2)% 4)
def nW (c:Nat):Nat:=if c=102 then 98 else if c=98 then 102 else c
def pj (t:Cd) (k:Int):Cd:=(t.1,[d4 t ((0- k)% 4),d4 t ((1- k)% 4),d4 t ((2- k)% 4),d4 t ((3- k)% 4)],(t.2.2+k)% 4)
theorem mR {t:Cd} (h:Card t):vi t=.ok (ph t):=by
 unfold vi yV
 have e1:((gU ([83,90]:Tx) t.1).bind fun y5=>eB ([90,83]:Tx) y5)=.ok (if t.1=[83]then [90]else [83]):=by
  rcases h.lay with e | e <;> rw[e] <;> rfl
 rw[e1]
 simp only[Ao,dz h (show(0:Int)<=0 by decide) (by decide),dz h (show(0:Int)<=3 by decide) (by decide),dz h (show(0:Int)<=2 by decide) (by decide),dz h (show(0:Int)<=1 by decide) (by decide)]
 rfl
theorem tW {t:Cd} (h:Card t) {x:Tx} (e:∀c∈x,∃i:Int,0<=i/\i< 4/\c=d4 t i):∀c∈x,97<=c/\c<=122:=fun c hc=>by
 obtain⟨i,h0,h1,rfl⟩:=e c hc
 unfold d4
 have:i.toNat< t.2.1.length:=by rw[h.four];omega
 simp only[Ar this,E4]
 exact h.col _ (Cr this)
theorem Card.flip {t:Cd} (h:Card t):Card (ph t):=by
 refine⟨?_,rfl,tW h fun c hc=>?_,(eA _).1,(eA _).2⟩
 ·unfold ph;split
  ·exact .inr rfl
  ·exact .inl rfl
 ·have:c=d4 t 0\/c=d4 t 3\/c=d4 t 2\/c=d4 t 1:=by simpa [ph] using hc
  rcases this with rfl | rfl | rfl | rfl
  ·exact⟨0,by decide,by decide,rfl⟩
  ·exact⟨3,by decide,by decide,rfl⟩
  ·exact⟨2,by decide,by decide,rfl⟩
  ·exact⟨1,by decide,by decide,rfl⟩
theorem Card.roll {t:Cd} (h:Card t) (k:Int):Card (pj t k):=by
 refine⟨h.lay,rfl,tW h fun c hc=>?_,(eA _).1,(eA _).2⟩
 have:c=d4 t ((0- k)% 4)\/c=d4 t ((1- k)% 4)\/c=d4 t ((2- k)% 4)\/c=d4 t ((3- k)% 4):=by simpa [pj] using hc
 rcases this with rfl | rfl | rfl | rfl <;> exact⟨_,(eA _).1,(eA _).2,rfl⟩
theorem vG {t:Cd} (h:Card t) (k:Int):vm t k=.ok (pj t k):=by
 unfold vm yX
 rw[show fu (4:Int)=As [(0:Int),1,2,3]from rfl,Ao]
 rw[eD (g:=fun i:Int=>[d4 t ((i- k)% 4)]) (by decide) (fun i _=>dz h (eA _).1 (eA _).2)]
 rfl
theorem tX {c:Nat} (h:bu c):bu (nW c):=by
 unfold nW;rcases h with rfl | rfl | rfl
 ·exact .inr (.inl rfl)
 ·exact .inl rfl
 ·exact .inr (.inr rfl)
theorem vH {x:Tx} (h:fF x) (hl:x.length<=10000):vj x=.ok (x.map nW):=by
 unfold vj yW
 rw[eD (g:=fun t:Tx=>[nW (t.headD 0)]) (by show(bK x).length<=100000;simp[bK];omega) (fun t ht=>by
  obtain⟨c,hc,rfl⟩:=dB ht
  rcases h c hc with rfl | rfl | rfl <;> rfl),Ao]
 have e:((bK x).map fun t:Tx=>[nW (t.headD 0)])=(x.map nW).map fun c=>[c]:=by simp[bK]
 rw[e,lX (by rw[oI];simp;omega),oI]
theorem nX {x:Tx} (h:fF x):fF (x.map nW):=fun c hc=>by
 obtain⟨d,hd,rfl⟩:=Bi.mp hc;exact tX (h d hd)
theorem pq (i:Int) (l:List Int) (hl:l.length< 1000):∃l',xD i l=.ok l'/\(∀x,x∈l'↔x∈l\/x=i)/\(l.Nodup->l'.Nodup)/\l'.length<=l.length+1:=by
 unfold xD
 by_cases h:i∈l
 ·refine⟨l,?_,fun x=>⟨.inl,fun z=>z.elim id fun e=>e▸h⟩,id,by omega⟩
  rw[if_neg (by simp[h])];rfl
 ·refine⟨l++ [i],?_,fun x=>by simp,fun hn=>?_,by simp⟩
  ·rw[if_pos (by simp[h]),eW (by omega)];rfl
  ·rw[GK];exact⟨hn,by simp,fun a ha b hb=>by simp at hb;subst hb;intro e;subst e;exact h ha⟩
def wd (t:Cd) (x:Tx) (i:Int):Prop:=∃k,0< k/\k<=x.length/\(i=(ends t (x.take k)).2.2\/i=((ends t (x.take k)).2.2+2)% 4)
theorem vI {t:Cd} (h:Card t) {x:Tx} (hx:fF x) (hl:x.length<=900):∃l,vn t x=.ok l/\l.Pairwise (· <= ·)/\l.Nodup/\(∀i∈l,0<=i/\i< 4)/\∀i,i∈l↔wd t x i:=by
 unfold vn yY
 obtain⟨s,e,h1,h2,h3,h4⟩:=cZ (f:=yy iB) (fun pre (s:Cd×List Int)=>s.1=ends t (x.take pre.length)/\s.2.Nodup/\(∀i∈s.2,0<=i/\i< 4)/\∀i,i∈s.2↔∃k,0< k/\k<=pre.length/\(i=(ends t (x.take k)).2.2\/i=((ends t (x.take k)).2.2+2)% 4)) (bK x) (t,[])
  ⟨by simp[ends],by simp,by simp,fun i=>⟨fun z=>by simp at z,fun⟨k,a,b,_⟩=>by simp at b;omega⟩⟩ (by
  intro pre a post s e ⟨h1,h2,h3,h4⟩
  have ha:a∈bK x:=by rw[e];simp
  obtain⟨c,hc,rfl⟩:=dB ha
  have hlen:pre.length< x.length:=by have:=congrArg Dc e;simp[bK]at this;omega
  have hget:x[pre.length]? =some c:=by
   have:=congrArg (fun l=>l[pre.length]?) e
   simp only[bK,Ay,AL (Au _),DS,Cc]at this
   cases z:x[pre.length]? with
   | none=>rw[z]at this;cases this
   | some d=>rw[z]at this;simp at this;rw[this]
  have htake:x.take (pre.length+1)=x.take pre.length++ [c]:=by
   rw[List.take_add_one,hget];rfl
  have small:s.2.length<=4:=by
   have hsub:s.2 ⊆ [(0:Int),1,2,3]:=fun i hi=>by
    have:=h3 i hi
    have:i=0\/i=1\/i=2\/i=3:=by omega
    simpa using this
   exact(E7 h2 hsub)
  unfold yy
  rw[h1,jX (hx c hc),Ao]
  have hB:Card (behind (ends t (x.take pre.length)) c):=(h.ends _).behind c
  generalize hbe:behind (ends t (x.take pre.length)) c=B at hB ⊢
  obtain⟨l1,e1,m1,n1,k1⟩:=pq B.2.2 s.2 (by omega)
  obtain⟨l2,e2,m2,n2,k2⟩:=pq ((B.2.2+2)% 4) l1 (by omega)
  have el:bN xD [B.2.2,(B.2.2+2)% 4] s.2=.ok l2:=by simp only[bN,e1,e2,Ao]
  rw[el]
  have hE:ends t (x.take (pre.length+1))=B:=by rw[htake,tS,hbe]
  refine⟨(B,l2),rfl,by simp[hE],n2 (n1 h2),fun i hi=>?_,fun i=>?_⟩
  ·rcases (m2 i).mp hi with z | z
   ·rcases (m1 i).mp z with z | z
    ·exact h3 i z
    ·rw[z];exact⟨hB.low,hB.high⟩
   ·rw[z];exact eA _
  ·rw[m2,m1,h4]
   constructor
   ·rintro ((⟨k,a,b,z⟩ | z) | z)
    ·exact⟨k,a,by simp;omega,z⟩
    ·exact⟨pre.length+1,by omega,by simp,.inl (by rw[hE];exact z)⟩
    ·exact⟨pre.length+1,by omega,by simp,.inr (by rw[hE];exact z)⟩
   ·rintro ⟨k,a,b,z⟩
    simp at b
    rcases Nat.lt_or_ge k (pre.length+1)with q | q
    ·exact .inl (.inl ⟨k,a,by omega,z⟩)
    ·have:k=pre.length+1:=by omega
     subst this
     rw[hE]at z
     rcases z with z | z
     ·exact .inl (.inr z)
     ·exact .inr z)
 rw[e,Ao]
 have hsub:s.2 ⊆ [(0:Int),1,2,3]:=fun i hi=>by
  have:=h3 i hi
  have:i=0\/i=1\/i=2\/i=3:=by omega
  simpa using this
 have small:=(E7 h2 hsub)
 simp only[CD,En]at small
 rw[si (by omega)]
 have pm:=ic s.2
 refine⟨_,rfl,jO _,pm.nodup_iff.mpr h2,fun i hi=>h3 i (pm.mem_iff.mp hi),fun i=>?_⟩
 rw[pm.mem_iff,h4]
 unfold wd
 simp[bK]
theorem xi (d:Int) (h0:0<=d) (h1:d< 26):∃c,eB ([97,98,99,100,101,102,103,104,105,106,107,108,109,110,111,112,113,114,115,116,117,118,119,120,121,122]:Tx) d=.ok [c]/\97<=c/\c<=122:=by
 obtain⟨c,e,h⟩:=fQ (x:=([97,98,99,100,101,102,103,104,105,106,107,108,109,110,111,112,113,114,115,116,117,118,119,120,121,122]:Tx)) (i:=d) h0 (by simp;omega) (by decide)
 have:∀c∈([97,98,99,100,101,102,103,104,105,106,107,108,109,110,111,112,113,114,115,116,117,118,119,120,121,122]:Tx),97<=c/\c<=122:=by decide
 exact⟨c,e,this c (AX h)⟩
def vJ (t:Cd) (i:Nat) (c:Nat):Cd:=(t.1,t.2.1.set i c,t.2.2)
theorem Card.dye {t:Cd} (h:Card t) (i:Nat) {c:Nat} (h0:97<=c) (h1:c<=122):Card (vJ t i c):=⟨h.lay,by simp[vJ,h.four],fun x hx=>by
 rcases EN hx with z | z
 ·exact h.col x z
 ·rw[z];exact⟨h0,h1⟩,h.low,h.high⟩
theorem vK {x:Tx} {i c:Nat} (h:i< x.length):x.take i++ [c]++x.drop (i+1)=x.set i c:=by
 rw[List.set_eq_take_append_cons_drop,if_pos h];simp
theorem xj {t:Cd} (h:Card t) {i:Nat} (hi:i< 4) (c:Nat):((((q9 t.2.1 none (some (i:Int))).bind fun y83=>jC y83 [c]).bind fun y84=>(q9 t.2.1 (some ((i:Int)+(1:Int))) none).bind fun y85=>jC y84 y85).bind fun y86=>As (t.1,y86,t.2.2))=.ok (vJ t i c):=by
 have hl:t.2.1.length<=100000:=by rw[h.four];decide
 rw[oH hl,j9,Ao,kP (by simp;have:=h.four;omega),Ao,show(i:Int)+1=((i+1:Nat):Int)from rfl,oH hl,m6,Ao,kP (by simp;have:=h.four;omega),Ao,vK (by rw[h.four];exact hi)]
 rfl
theorem xk (cell:Int) (l:List Int) {t:Cd} (h:Card t) {i:Nat} (hi:i< 4):∃t',xE cell l (i:Int) t=.ok t'/\Card t'/\(t'=t\/((i:Int)∉l/\∃c,t'=vJ t i c)):=by
 unfold xE
 by_cases z:(i:Int)∈l
 ·rw[if_neg (by simp[z])];exact⟨t,rfl,h,.inl rfl⟩
 ·rw[if_pos (by simp[z]),lW (by omega) (by omega)]
  simp only[Ao]
  obtain⟨c,e,h0,h1⟩:=xi ((cell/ 16+5*(i:Int))% 26) (Bq _ (by decide)) (Be _ (by decide))
  rw[e]
  simp only[Ao]
  have:=xj h hi c
  rw[this]
  exact⟨_,rfl,h.dye i h0 h1,.inr ⟨z,c,rfl⟩⟩
theorem xl {t:Cd} (h:Card t) {x:Tx} (hx:fF x) (hl:x.length<=900) (cell:Int):(vo t x cell).Ok fun r=>Card r.1/\fF r.2/\r.2.length=x.length:=by
 unfold vo yZ
 refine ja (Ca (P:=fun r:Cd×Tx=>Card r.1/\fF r.2/\r.2.length=x.length) (m7 (fun _=>?_) fun _=>fR ⟨h,hx,rfl⟩) fun r ⟨h1,h2,h3⟩=>?_)
 ·rw[mR h,Ao,vH hx (by omega),Ao]
  exact⟨h.flip,nX hx,by simp⟩
 ·rw[vG h1,Ao]
  have hr:=h1.roll (cell/ 2% 4)
  generalize pj r.1 (cell/ 2% 4)=R at hr ⊢
  refine ja (Ca (P:=Card) (m7 (fun _=>?_) fun _=>fR hr) fun c hc=>fR ⟨hc,h2,h3⟩)
  obtain⟨l,el,_⟩:=vI hr h2 (by omega)
  rw[el,Ao,show fu (4:Int)=As ((BG 4).map fun(i:Nat)=>(i:Int))from rfl,Ao]
  obtain⟨s,es,hs⟩:=cZ (f:=xE cell l) (fun pre s=>Card s) ((BG 4).map fun(i:Nat)=>(i:Int)) R hr (by
   intro pre a post s e hs
   have ha:a∈(BG 4).map fun(i:Nat)=>(i:Int):=by rw[e];simp
   obtain⟨i,hi,rfl⟩:=Bi.mp ha
   obtain⟨t',e',h',_⟩:=xk cell l hs (Dt.mp hi)
   exact⟨t',e',h'⟩)
  rw[es]
  exact hs
theorem vL {s:List Int} (hs:s.length<=63) (most:Nat) (hm:most<=24):(ug s (most:Int)).Ok fun r=>Card r.1/\(∃n,n<=60/\Marks n r.2.1)/\0<=r.2.2/\r.2.2< 4:=by
 unfold ug z5
 obtain⟨c0,e0⟩:=ig hs 0 (by decide)
 obtain⟨c1,e1⟩:=ig hs 1 (by decide)
 obtain⟨c2,e2⟩:=ig hs 2 (by decide)
 obtain⟨c3,e3⟩:=ig hs 3 (by decide)
 obtain⟨c4,e4⟩:=ig hs 4 (by decide)
 obtain⟨t,et,ht⟩:=pf c0
 rw[show gh s 0=.ok c0 from e0,show gh s 1=.ok c1 from e1,show gh s 2=.ok c2 from e2,show gh s 3=.ok c3 from e3,show gh s 4=.ok c4 from e4]
 simp only[Ao,et]
 rw[fP (by omega),Ao]
 have z0:=Bq c2 (show(most:Int)+1≠0 by omega)
 have z1:=Be c2 (show(0:Int)< (most:Int)+1 by omega)
 refine ja (Ca (P:=fun d=>0<=d/\d<=60) (m7 (fun _=>fR ⟨by omega,by omega⟩) fun _=>fR ⟨z0,by omega⟩) fun d1 hd1=>?_)
 refine ja (Ca (P:=fun d=>0<=d/\d<=60) (m7 (fun _=>fR ⟨by omega,by omega⟩) fun _=>fR hd1) fun d2 hd2=>?_)
 obtain⟨n,rfl⟩:∃n:Nat,d2=(n:Int):=⟨d2.toNat,by omega⟩
 obtain⟨x,ex,hxl,hx⟩:=tQ c1 n (by omega)
 rw[ex]
 simp only[Ao,qM ht hx (show x.length<=10000 by omega)]
 have hw:=l7 ht x
 have hpl:=nV t x
 refine ja (Ca (P:=Marks n) (m7 (fun z=>?_) fun _=>?_) fun l hl=>?_)
 ·refine ja (Ca (vF hw (by omega) (by omega) c3) fun r hr=>fR ?_)
  rw[hpl,hxl]at hr;exact hr
 ·refine ja (Ca (tV hw (by omega) (c3/ 3) _) fun r hr=>fR ?_)
  rw[hpl,hxl]at hr;exact hr
 ·refine ja (Ca (P:=Card) (m7 (fun _=>?_) fun _=>fR ht) fun t1 h1=>?_)
  ·exact ja (ja ((xl ht hx (by omega) _).imp fun r hr=>fR (fR hr.1)))
  ·refine ja (Ca (P:=Card) (m7 (fun _=>?_) fun _=>fR h1) fun t2 h2=>?_)
   ·obtain⟨t',e',h'⟩:=pf (c4/ 4/ 6)
    rw[e'];exact h'
   ·exact⟨h2,⟨n,by omega,hl⟩,(eA _).1,(eA _).2⟩
def standAt (t:Cd) (i:Int):Cd:=(t.1,t.2.1,(if t.1=[83]then t.2.2+i else t.2.2- i)% 4)
def fits (p m:Pl):Bool:=(decide (m.1=[63]) || decide (m.1=p.1)) && ((decide (m.2.1=[63]) || decide (m.2.1=p.2.1)) && (decide (m.2.2=[63]) || decide (m.2.2=p.2.2)))
theorem Card.standAt {t:Cd} (h:Card t) (i:Int):Card (standAt t i):=⟨h.lay,h.four,h.col,(eA _).1,(eA _).2⟩
theorem xm {t:Cd} (h:Card t):gJ t=.ok [d4 t t.2.2]:=by
 unfold gJ p8
 rw[show t.2.2% 4=t.2.2 from Int.emod_eq_of_lt h.low h.high,dz h h.low h.high]
theorem qO {t:Cd} (h:Card t):vq t=.ok [d4 t ((t.2.2+2)% 4)]:=by
 unfold vq zc;rw[dz h (eA _).1 (eA _).2]
theorem ij {t:Cd} {c:Nat} (h:bu c):nR t [c]=.ok (tw t c):=by
 unfold nR z7
 have e:getD ([([102],1),([98],(-1)),([105],0)]:List (Tx×Int)) [c]=.ok (go c):=by rcases h with rfl | rfl | rfl <;> rfl
 rw[e,Ao]
 by_cases z:t.1=[83]
 ·rw[if_pos (by simpa using z)];unfold tw;rw[if_pos z]
 ·rw[if_neg (by simpa using z)];unfold tw;rw[if_neg z]
theorem qP {i:Int} (h: -1<=i/\i<=1):getD ([(1,[115]),((-1),[122]),(0,[111])]:List (Int×Tx)) i=.ok [ju i]:=by
 have:i= -1\/i=0\/i=1:=by omega
 rcases this with rfl | rfl | rfl <;> rfl
theorem vM {t:Cd} (h:Card t) {c:Nat} (hc:bu c):vt t [c]=.ok (place t c):=by
 unfold vt zd
 simp only[xm h,qO h,ij hc,Ao,qP (wb t c)]
 rfl
theorem nY (t:Cd) (i:Int):vp t i=.ok (standAt t i):=by
 unfold vp z9 standAt
 by_cases z:t.1=[83]
 ·rw[if_pos (by simpa using z),if_pos z];rfl
 ·rw[if_neg (by simpa using z),if_neg z];rfl
theorem tY (a b:Tx):ui a b=.ok (decide (b=[63]) || decide (b=a)):=by
 unfold ui ze
 by_cases z:b=[63]
 ·rw[if_pos (by simpa using z),decide_eq_true z];rfl
 ·rw[if_neg (by simpa using z),decide_eq_false z];rfl
theorem qQ (p m:Pl):vw p m=.ok (fits p m):=by
 unfold vw zf
 rw[eD (g:=fun a1:Tx×Tx=>decide (a1.2=[63]) || decide (a1.2=a1.1)) (by show 3<=100000;decide) (fun x _=>tY x.1 x.2),Ao]
 congr 1
 simp[fits]
theorem qR {t:Cd} (h:Card t) (s:Int×Int) {c:Nat} (hc:bu c) (m:Pl):tK t s [c] m=.ok (fits (place (standAt t s.1) c) m):=by
 unfold tK zg
 simp only[nY,Ao,vM (h.standAt _) hc,qQ]
def aB (t:Cd) (s:Int×Int) (c:Nat):Int×Int:=(s.1+tw t c,if c=105 then s.2+1 else 0)
theorem tZ {t:Cd} (s:Int×Int) {c:Nat} (hc:bu c):uh t s [c]=.ok (aB t s c):=by
 unfold uh z8 aB
 simp only[ij hc,Ao]
 by_cases z:c=105
 ·rw[if_pos (by simp[z]),if_pos z];rfl
 ·rw[if_neg (by simp[z]),if_neg z];rfl
def dX (s:Int×Int) (loose bound:Int):Bool:=decide (cP s.1<=bound) && decide (s.2<=loose)
theorem jY (s:Int×Int) (loose bound:Int):mN s loose bound=.ok (dX s loose bound):=by
 unfold mN z6 dX
 by_cases z:cP s.1<=bound
 ·rw[if_pos (by simpa using z),decide_eq_true z];rfl
 ·rw[if_neg (by simpa using z),decide_eq_false z];rfl
def cR (t:Cd) (loose bound:Int) (s:Int×Int) (c:Nat) (m:Pl):Bool:=dX (aB t s c) loose bound && fits (place (standAt t (aB t s c).1) c) m
theorem absI_le {i b:Int} :cP i<=b↔ -b<=i/\i<=b:=by unfold cP;split <;> omega
def n9 (t:Cd) (mk:Pl) (loose bound:Int) (s:Int×Int):List Nat:=[102,98,105].filter fun c=>cR t loose bound s c mk
theorem mem_onw {t:Cd} {mk:Pl} {loose bound:Int} {s:Int×Int} {c:Nat} :c∈n9 t mk loose bound s↔bu c/\cR t loose bound s c mk=true:=by
 unfold n9
 rw[Fw]
 simp[bu]
theorem jZ {t:Cd} (h:Card t) (mk:Pl) (loose bound:Int) (s:Int×Int):jt t mk loose bound s=.ok ((n9 t mk loose bound s).map fun c=>([c],aB t s c)):=by
 unfold jt zh n9
 rw[eD (g:=fun a:Tx=>(a,aB t s (a.headD 0))) (by show 3<=100000;decide) (fun a ha=>by
  obtain⟨c,hc,rfl⟩:=dB ha
  have ht:bu c:=by simpa [bu] using hc
  rw[tZ s ht];rfl),Ao]
 rw[lZ (g:=fun a:Tx×(Int×Int)=>if cR t loose bound s (a.1.headD 0) mk=true then some a else none) (by show 3<=100000;decide) (fun a ha=>by
  obtain⟨x,hx,rfl⟩:=Bi.mp ha
  obtain⟨c,hc,rfl⟩:=dB hx
  have ht:bu c:=by simpa [bu] using hc
  show((mN (aB t s c) loose bound).bind fun y=>if y then tK t (aB t s c) [c] mk else As false).bind (fun y=>if y then As (some ([c],aB t s c))else As none)=_
  rw[jY,Ao,qR h _ ht]
  show _=As (if cR t loose bound s c mk=true then some ([c],aB t s c)else none)
  unfold cR
  cases dX (aB t s c) loose bound <;> cases fits (place (standAt t (aB t s c).1) c) mk <;> rfl)]
 show As (List.filterMap _ [([102],aB t s 102),([98],aB t s 98),([105],aB t s 105)])=_
 cases h1:cR t loose bound s 102 mk <;> cases h2:cR t loose bound s 98 mk <;> cases h3:cR t loose bound s 105 mk <;> simp[h1,h2,h3]
theorem nZ:∀(n:Nat) (l:List Nat),l.Nodup->(∀x∈l,x< n)->l.length<=n
 | 0, l, _, h => by
  cases l with
  | nil=>simp
  | cons a l=>exact absurd (h a (AJ ..)) (by omega)
 | n + 1, l, nd, h => by
  by_cases z:n∈l
  ·have:=nZ n (l.erase n) (nd.erase n) fun x hx=>by
    have h1:=h x (DZ hx)
    have h2:x≠n:=fun e=>by subst e;exact(DE nd) hx
    omega
   rw[DF z]at this
   omega
  ·have:=nZ n l nd fun x hx=>by
    have h1:=h x hx
    have h2:x≠n:=fun e=>z (e▸hx)
    omega
   omega
theorem l8 {α:Type} (pre:List α) (a:α):fV (pre++ [a]) (-(1:Int))=.ok a:=by
 have e:qU (pre++ [a]) (-1)=some a:=by
  unfold qU ixN
  rw[if_neg (by decide),if_pos (by simp;omega)]
  show(pre++ [a])[_]? =some a
  have:(-1+((pre++ [a]).length:Int)).toNat=pre.length:=by simp;omega
  rw[this]
  simp
 unfold fV
 rw[e]
 rfl
def mS (p:Int×Int):Prop:= -60<=p.1/\p.1<=60/\0<=p.2/\p.2<=3
theorem iD {l:List (Int×Int)} (nd:l.Nodup) (h:∀p∈l,mS p):l.length<=484:=by
 have nd2:(l.map fun p=>((p.1+60)*4+p.2).toNat).Nodup:=by
  rw[Bd,Cy]
  refine(Bd.mp nd).imp_of_mem fun {a b} ha hb hne e=>hne ?_
  have h1:=h a ha
  have h2:=h b hb
  unfold mS at h1 h2
  exact EC (by omega) (by omega)
 have:=nZ 484 _ nd2 fun x hx=>by
  obtain⟨p,hp,rfl⟩:=Bi.mp hx
  have h1:=h p hp
  unfold mS at h1
  omega
 simpa using this
theorem pA {t:Cd} {mk:Pl} {loose bound:Int} (hl:loose<=3) (hb:bound<=60) {s:Int×Int} (hs:mS s) {c:Nat} (h:cR t loose bound s c mk=true):mS (aB t s c):=by
 unfold cR dX at h
 simp only[E3,decide_eq_true_eq]at h
 have h1:=absI_le.mp h.1.1
 have h2:=h.1.2
 unfold mS at hs ⊢
 refine⟨by omega,by omega,?_,by omega⟩
 unfold aB
 dsimp only
 split <;> omega
def Nx (t:Cd) (mk:Pl) (loose bound:Int) (l:List (Int×Int)) (p:Int×Int):Prop:=∃s∈l,∃c,bu c/\cR t loose bound s c mk=true/\p=aB t s c
theorem Nx.inb {t:Cd} {mk:Pl} {loose bound:Int} (hl:loose<=3) (hb:bound<=60) {l:List (Int×Int)} (h:∀p∈l,mS p) {p:Int×Int} (n:Nx t mk loose bound l p):mS p:=by
 obtain⟨s,hs,c,_,hm,rfl⟩:=n
 exact pA hl hb (h s hs) hm
theorem xn {t:Cd} {mk:Pl} {loose bound:Int} {p:Int×Int} :¬Nx t mk loose bound [] p:=fun⟨s,hs,_⟩=>by cases hs
theorem vN {t:Cd} {mk:Pl} {loose bound:Int} {l:List (Int×Int)} {a p:Int×Int} :Nx t mk loose bound (l++ [a]) p↔Nx t mk loose bound l p\/∃c∈n9 t mk loose bound a,p=aB t a c:=by
 constructor
 ·rintro ⟨q,hq,c,hc,hm,rfl⟩
  rcases Bk.mp hq with hq | hq
  ·exact .inl ⟨q,hq,c,hc,hm,rfl⟩
  ·have:q=a:=by simpa using hq
   subst this
   exact .inr ⟨c,mem_onw.mpr ⟨hc,hm⟩,rfl⟩
 ·rintro (⟨q,hq,z⟩ | ⟨c,hc,rfl⟩)
  ·exact⟨q,by simp[hq],z⟩
  ·exact⟨a,by simp,c,(mem_onw.mp hc).1,(mem_onw.mp hc).2,rfl⟩
def l9 (ks:List (Int×Int)) (k:Int×Int):List (Int×Int):=if k∈ks then ks else k::ks
theorem addP_mem {ks:List (Int×Int)} {k p:Int×Int} :p∈l9 ks k↔p∈ks\/p=k:=by
 unfold l9
 split
 ·rename_i z
  exact⟨.inl,fun h=>h.elim id fun e=>e▸z⟩
 ·rw[AR];exact⟨fun h=>h.symm,fun h=>h.symm⟩
theorem pD {ks:List (Int×Int)} (h:ks.Nodup) (k:Int×Int):(l9 ks k).Nodup:=by
 unfold l9
 split
 ·exact h
 ·rename_i z
  exact C7.mpr ⟨z,h⟩
def qS (l ks:List (Int×Int)):List (Int×Int):=l.foldl l9 ks
theorem gK:∀(l ks:List (Int×Int)),ks.Nodup->(qS l ks).Nodup/\∀p,p∈qS l ks↔p∈ks\/p∈l
 | [],ks,h=>⟨h,fun p=>by simp[qS]⟩
 | a :: l, ks, h => by
  have ih:=gK l (l9 ks a) (pD h a)
  refine⟨ih.1,fun p=>?_⟩
  show p∈qS l (l9 ks a)↔_
  rw[ih.2,addP_mem,AR,or_assoc]
def hX (t:Cd) (mk:Pl) (loose bound:Int) (l:List (Int×Int)):List (Int×Int):=dR (qS (l.flatMap fun s=>(n9 t mk loose bound s).map (aB t s)) [])
theorem mT {t:Cd} {mk:Pl} {loose bound:Int} {l:List (Int×Int)} {p:Int×Int} :p∈(l.flatMap fun s=>(n9 t mk loose bound s).map (aB t s))↔Nx t mk loose bound l p:=by
 rw[List.mem_flatMap]
 constructor
 ·rintro ⟨s,hs,h⟩
  obtain⟨c,hc,rfl⟩:=Bi.mp h
  exact⟨s,hs,c,(mem_onw.mp hc).1,(mem_onw.mp hc).2,rfl⟩
 ·rintro ⟨s,hs,c,h1,h2,rfl⟩
  exact⟨s,hs,Bi.mpr ⟨c,mem_onw.mpr ⟨h1,h2⟩,rfl⟩⟩
theorem mem_nxt {t:Cd} {mk:Pl} {loose bound:Int} {l:List (Int×Int)} {p:Int×Int} :p∈hX t mk loose bound l↔Nx t mk loose bound l p:=by
 unfold hX
 rw[(dw _).mem_iff,(gK _ [] DV).2,mT]
 simp
theorem xo {t:Cd} {mk:Pl} {loose bound:Int} {l S:List (Int×Int)} (nd:S.Nodup) (h:∀p,p∈S↔Nx t mk loose bound l p):dR S=hX t mk loose bound l:=by
 refine jd ((dw S).trans ?_) (jc S)
 have g:=gK (l.flatMap fun s=>(n9 t mk loose bound s).map (aB t s)) [] DV
 exact(List.perm_ext_iff_of_nodup nd g.1).mpr fun p=>by rw[h,g.2,mT];simp
theorem u0 (ys:List (Tx×(Int×Int))) (s0:List (Int×Int)) (nd:s0.Nodup) (h0:∀p∈s0,mS p) (hy:∀a∈ys,mS a.2):
  bN (fun(a:Tx×(Int×Int)) (s:List (Int×Int))=>mn s a.2) ys s0=.ok (qS (ys.map (·.2)) s0):=by
 induction ys generalizing s0 with
 | nil=>rfl
 | cons a ys ih =>
  have hl:=iD nd h0
  show(mn s0 a.2).bind _=_
  rw[show mn s0 a.2=.ok (l9 s0 a.2)from bA (by omega),Ao]
  exact ih (l9 s0 a.2) (pD nd _) (fun p hp=>by
   rcases addP_mem.mp hp with z | z
   ·exact h0 p z
   ·rw[z];exact hy a (AJ ..)) fun b hb=>hy b (AN _ hb)
theorem u4 {t:Cd} (h:Card t) (mk:Pl) {loose bound:Int} (hl:loose<=3) (hb:bound<=60) {states:List (Int×Int)} (hs:∀p∈states,mS p):nS t mk loose bound states=.ok (hX t mk loose bound states):=by
 unfold nS zj
 obtain⟨s,e,h1,h2⟩:=cZ (f:=fun(a:Int×Int) (s:List (Int×Int))=>(jt t mk loose bound a).bind fun y=>bN (fun(a:Tx×(Int×Int)) (s:List (Int×Int))=>mn s a.2) y s)
  (fun pre s=>s.Nodup/\∀p,p∈s↔Nx t mk loose bound pre p) states [] ⟨DV,fun p=>⟨fun z=>(by cases z),fun z=>absurd z xn⟩⟩ (by
  intro pre a post s e ⟨h1,h2⟩
  have ha:mS a:=hs a (by rw[e];simp)
  have hp:∀p∈pre,mS p:=fun p hp=>hs p (by rw[e];simp[hp])
  rw[jZ h,Ao,u0 _ s h1 (fun p hq=>((h2 p).mp hq).inb hl hb hp) (fun b hb'=>by
   obtain⟨c,hc,rfl⟩:=Bi.mp hb'
   exact pA hl hb ha (mem_onw.mp hc).2)]
  have g:=gK (((n9 t mk loose bound a).map fun c=>(([c]:Tx),aB t a c)).map (·.2)) s h1
  refine⟨_,rfl,g.1,fun p=>?_⟩
  rw[g.2,h2,vN,CN,Bi]
  exact or_congr Iff.rfl ⟨fun⟨c,h1,h2⟩=>⟨c,h1,h2.symm⟩,fun⟨c,h1,h2⟩=>⟨c,h1,h2.symm⟩⟩)
 have hlen:=iD h1 fun p hp=>((h2 p).mp hp).inb hl hb hs
 rw[show bN _ states []=As s from e,Ao,show sr s=.ok (dR s)from bA (by omega),xo h1 h2]
def bz (t:Cd) (loose bound:Int):List Pl->List (Int×Int)->List (List (Int×Int))
 | [],cur=>[cur]
 | m :: r, cur => match cur with
  | []=>[[]]
  | a::q=>(a::q)::bz t loose bound r (hX t m loose bound (a::q))
theorem fG {t:Cd} {loose bound:Int} (l:List Pl) (cur:List (Int×Int)):∃r,bz t loose bound l cur=cur::r:=by
 cases l with
 | nil=>exact⟨_,rfl⟩
 | cons m l => cases cur with
  | nil=>exact⟨_,rfl⟩
  | cons a q=>exact⟨_,rfl⟩
theorem gL {t:Cd} (h:Card t) {loose bound:Int} (hl:loose<=3) (hb:bound<=60):∀(strip:List Pl) (pre:List (List (Int×Int))) (cur:List (Int×Int)),pre.length+strip.length<=1000->(∀p∈cur,mS p)->
  ∃r,gf (wa nS t loose bound) strip (pre++ [cur])=.ok r/\(r=.nx (pre++bz t loose bound strip cur)\/r=.rt (pre++bz t loose bound strip cur))
 | [],pre,cur,_,_=>⟨_,rfl,.inl rfl⟩
 | m :: strip, pre, cur, hp, hc => by
  simp only[CD]at hp
  show ∃r,(wa nS t loose bound m (pre++ [cur])).bind _=.ok r/\_
  cases cur with
  | nil =>
   refine⟨.rt (pre++ [[]]),?_,.inr rfl⟩
   unfold wa
   rw[l8]
   rfl
  | cons a q =>
   have e1:wa nS t loose bound m (pre++ [a::q])=.ok (.nx (pre++ [a::q]++ [hX t m loose bound (a::q)])):=by
    unfold wa
    rw[l8,Ao,Ao,if_neg (by simp),Ao,u4 h m hl hb hc,Ao,eW (by simp;omega)]
    rfl
   rw[e1,Ao]
   obtain⟨r,er,hr⟩:=gL h hl hb strip (pre++ [a::q]) (hX t m loose bound (a::q)) (by simp;omega) (fun p hp=>(mem_nxt.mp hp).inb hl hb hc)
   refine⟨r,er,?_⟩
   have e2:pre++bz t loose bound (m::strip) (a::q)=pre++ [a::q]++bz t loose bound strip (hX t m loose bound (a::q)):=by
    rw[AM];rfl
   rw[e2]
   exact hr
theorem xp:∀p∈[((0:Int),(0:Int))],mS p:=fun p hp=>by
 have:p=(0,0):=by simpa using hp
 subst this
 exact⟨by decide,by decide,by decide,by decide⟩
theorem vO {t:Cd} (h:Card t) {loose bound:Int} (h0:0<=loose) (h1:0<=bound) (hl:loose<=3) (hb:bound<=60) (strip:List Pl) (hs:strip.length<=1000):vz t strip loose bound=.ok (bz t loose bound strip [(0,0)]):=by
 unfold vz zk
 have w:dX (0,0) loose bound=true:=by
  unfold dX cP
  simp;omega
 rw[jY,w,Ao,if_pos rfl,Ao,Ao]
 obtain⟨r,er,hr⟩:=gL h hl hb strip [] [(0,0)] (by simpa using hs) xp
 rw[show gf _ strip [[((0:Int),(0:Int))]]=As r from er,Ao]
 rcases hr with rfl | rfl <;> rfl
def cnt (t:Cd) (loose bound:Int):List Pl->Int×Int->Int
 | [],_=>1
 | m::r,s=>((n9 t m loose bound s).map fun c=>cnt t loose bound r (aB t s c)).sum
def mU (b:Bool) (i:Int):Int:=if b=true then i else 0
theorem fT {t:Cd} {loose bound:Int} {m:Pl} {r:List Pl} {s:Int×Int} :cnt t loose bound (m::r) s=mU (cR t loose bound s 102 m) (cnt t loose bound r (aB t s 102))+mU (cR t loose bound s 98 m) (cnt t loose bound r (aB t s 98))+mU (cR t loose bound s 105 m) (cnt t loose bound r (aB t s 105)):=by
 show((n9 t m loose bound s).map fun c=>cnt t loose bound r (aB t s c)).sum=_
 unfold n9 mU
 cases h1:cR t loose bound s 102 m <;> cases h2:cR t loose bound s 98 m <;> cases h3:cR t loose bound s 105 m <;> simp[h1,h2,h3] <;> omega
theorem hZ {b:Bool} {i:Int} (h:0<=i):0<=mU b i:=by unfold mU;split <;> omega
theorem i3 {t:Cd} {loose bound:Int} :∀(l:List Pl) (s:Int×Int),0<=cnt t loose bound l s
 | [],_=>by show(0:Int)<=1;decide
 | m :: r, s => by
  rw[fT]
  have h1:=hZ (b:=cR t loose bound s 102 m) (i3 (t:=t) (loose:=loose) (bound:=bound) r (aB t s 102))
  have h2:=hZ (b:=cR t loose bound s 98 m) (i3 (t:=t) (loose:=loose) (bound:=bound) r (aB t s 98))
  have h3:=hZ (b:=cR t loose bound s 105 m) (i3 (t:=t) (loose:=loose) (bound:=bound) r (aB t s 105))
  omega
theorem cnt_pos {t:Cd} {loose bound:Int} {m:Pl} {r:List Pl} {s:Int×Int} :cnt t loose bound (m::r) s=0↔∀c,bu c->cR t loose bound s c m=true->cnt t loose bound r (aB t s c)=0:=by
 rw[fT]
 have n1:=i3 (t:=t) (loose:=loose) (bound:=bound) r (aB t s 102)
 have n2:=i3 (t:=t) (loose:=loose) (bound:=bound) r (aB t s 98)
 have n3:=i3 (t:=t) (loose:=loose) (bound:=bound) r (aB t s 105)
 have h1:=hZ (b:=cR t loose bound s 102 m) n1
 have h2:=hZ (b:=cR t loose bound s 98 m) n2
 have h3:=hZ (b:=cR t loose bound s 105 m) n3
 constructor
 ·intro h c hc hm
  rcases hc with rfl | rfl | rfl
  ·have:mU (cR t loose bound s 102 m) (cnt t loose bound r (aB t s 102))=0:=by omega
   rw[hm]at this;exact this
  ·have:mU (cR t loose bound s 98 m) (cnt t loose bound r (aB t s 98))=0:=by omega
   rw[hm]at this;exact this
  ·have:mU (cR t loose bound s 105 m) (cnt t loose bound r (aB t s 105))=0:=by omega
   rw[hm]at this;exact this
 ·intro h
  have key:∀c,bu c->mU (cR t loose bound s c m) (cnt t loose bound r (aB t s c))=0:=fun c hc=>by
   unfold mU
   split
   ·rename_i z;exact h c hc z
   ·rfl
  rw[key 102 (.inl rfl),key 98 (.inr (.inl rfl)),key 105 (.inr (.inr rfl))]
  rfl
theorem jw {t:Cd} {loose bound:Int} (l:List Pl) (cur:List (Int×Int)):0< (bz t loose bound l cur).length:=by
 obtain⟨r,hr⟩:=fG (t:=t) (loose:=loose) (bound:=bound) l cur
 rw[hr];simp
theorem k6 {t:Cd} {loose bound:Int} :∀(l:List Pl) (cur:List (Int×Int)),(bz t loose bound l cur).length<=l.length+1
 | [],cur=>Au _
 | m::r,[]=>by show 1<=_;omega
 | m :: r, a :: q => by
  have:=k6 (t:=t) (loose:=loose) (bound:=bound) r (hX t m loose bound (a::q))
  show(bz t loose bound r (hX t m loose bound (a::q))).length+1<=r.length+1+1
  omega
theorem mV {t:Cd} {loose bound:Int} :∀(l:List Pl) (cur:List (Int×Int)) (i:Nat),i+1< (bz t loose bound l cur).length->∃m L,l[i]? =some m/\(bz t loose bound l cur)[i]? =some L/\(bz t loose bound l cur)[i+1]? =some (hX t m loose bound L)
 | [],cur,i,h=>absurd h (by show ¬i+1< 1;omega)
 | m::r,[],i,h=>absurd h (by show ¬i+1< 1;omega)
 | m :: r, a :: q, 0, h => by
  obtain⟨z,hz⟩:=fG (t:=t) (loose:=loose) (bound:=bound) r (hX t m loose bound (a::q))
  refine⟨m,a::q,rfl,rfl,?_⟩
  show(bz t loose bound r (hX t m loose bound (a::q)))[0]? =_
  rw[hz];rfl
 | m :: r, a :: q, i + 1, h => by
  have h':i+1< (bz t loose bound r (hX t m loose bound (a::q))).length:=by
   have:i+1+1< (bz t loose bound r (hX t m loose bound (a::q))).length+1:=h
   omega
  exact mV r (hX t m loose bound (a::q)) i h'
theorem xq {t:Cd} {m:Pl} {loose bound:Int} {l:List (Int×Int)} :(hX t m loose bound l).Nodup:=(dw _).nodup_iff.mpr (gK _ [] DV).1
theorem i4 {t:Cd} {loose bound:Int} (hl:loose<=3) (hb:bound<=60):∀(l:List Pl) (cur:List (Int×Int)),cur.Nodup->(∀p∈cur,mS p)->∀L∈bz t loose bound l cur,L.Nodup/\∀p∈L,mS p
 | [], cur, h1, h2, L, hL => by
  have:L=cur:=by simpa [bz] using hL
  rw[this];exact⟨h1,h2⟩
 | m :: r, [], h1, h2, L, hL => by
  have:L=[]:=by simpa [bz] using hL
  rw[this];exact⟨h1,h2⟩
 | m :: r, a :: q, h1, h2, L, hL => by
  rcases AR.mp (show L∈(a::q)::bz t loose bound r (hX t m loose bound (a::q))from hL)with rfl | hL
  ·exact⟨h1,h2⟩
  ·exact i4 hl hb r _ xq (fun p hp=>(mem_nxt.mp hp).inb hl hb h2) L hL
theorem jx {t:Cd} {loose bound:Int} :∀(l:List Pl) (cur:List (Int×Int)),∃L,(bz t loose bound l cur)[(bz t loose bound l cur).length- 1]? =some L/\(L=[]\/(bz t loose bound l cur).length=l.length+1)/\(L=[]↔∀s∈cur,cnt t loose bound l s=0)
 | [], cur => ⟨cur, rfl, .inr rfl, by
  constructor
  ·intro h;rw[h];exact fun s hs=>by cases hs
  ·intro h
   cases cur with
   | nil=>rfl
   | cons a q=>exact absurd (h a (AJ ..)) (by show ¬(1:Int)=0;decide)⟩
 | m::r,[]=>⟨[],rfl,.inl rfl,by simp⟩
 | m :: r, a :: q => by
  obtain⟨L,h1,h2,h3⟩:=jx (t:=t) (loose:=loose) (bound:=bound) r (hX t m loose bound (a::q))
  have hp:=jw (t:=t) (loose:=loose) (bound:=bound) r (hX t m loose bound (a::q))
  refine⟨L,?_,?_,?_⟩
  ·show((a::q)::bz t loose bound r (hX t m loose bound (a::q)))[(bz t loose bound r (hX t m loose bound (a::q))).length+1- 1]? =some L
   rw[EI]
   have e:(bz t loose bound r (hX t m loose bound (a::q))).length=(bz t loose bound r (hX t m loose bound (a::q))).length- 1+1:=by omega
   rw[e,BS]
   exact h1
  ·refine h2.imp id fun h=>?_
   show(bz t loose bound r (hX t m loose bound (a::q))).length+1=_
   rw[h];rfl
  ·rw[h3]
   constructor
   ·intro h s hs
    exact cnt_pos.mpr fun c hc hm=>h _ (mem_nxt.mpr ⟨s,hs,c,hc,hm,rfl⟩)
   ·intro h p hp
    obtain⟨s,hs,c,hc,hm,rfl⟩:=mem_nxt.mp hp
    exact cnt_pos.mp (h s hs) c hc hm
theorem u5 {α:Type} {xs:List α} {a:α} (h:xs[xs.length- 1]? =some a):fV xs (-(1:Int))=.ok a:=by
 have hl:xs.length- 1< xs.length:=(Az.mp h).1
 have e:qU xs (-1)=some a:=by
  unfold qU ixN
  rw[if_neg (by decide),if_pos (by omega)]
  show xs[_]? =some a
  have:(-1+(xs.length:Int)).toNat=xs.length- 1:=by omega
  rw[this]
  exact h
 unfold fV
 rw[e]
 rfl
theorem iE {α:Type} {xs:List α} {i:Nat} {a:α} (h:xs[i]? =some a):fV xs (i:Int)=.ok a:=by
 unfold fV
 rw[ou h]
 rfl
theorem u6 {α:Type} {kvs:List ((Int×Int)×α)} {k:Int×Int} {a:α} (h:∀q∈kvs,q.1≠k):m8 kvs k a=kvs++ [(k,a)]:=by
 unfold m8
 rw[if_neg]
 intro z
 obtain⟨q,h1,h2⟩:=List.any_eq_true.mp z
 exact h q h1 (by simpa using h2)
theorem lb {α:Type} {f:Int×Int->List ((Int×Int)×α)->Res (List ((Int×Int)×α))} {g:Int×Int->α} {ks:List (Int×Int)} (nd:ks.Nodup) (hl:ks.length<=900) (h:∀k∈ks,∀s:List ((Int×Int)×α),f k s=gH s k (g k)):bN f ks []=.ok (ks.map fun k=>(k,g k)):=by
 obtain⟨s,e,h1⟩:=cZ (f:=f) (fun pre s=>s=pre.map fun k=>(k,g k)) ks [] rfl (by
  intro pre a post s e h1
  have hp:pre.length<=900:=by rw[e]at hl;simp at hl;omega
  rw[h a (by rw[e];simp),h1]
  refine⟨_,bA (by rw[B8];omega),?_⟩
  rw[u6 (fun q hq=>?_)]
  ·simp
  ·obtain⟨k,hk,rfl⟩:=Bi.mp hq
   intro z
   have z:k=a:=z
   subst z
   rw[e,GK]at nd
   exact nd.2.2 k hk k (AJ ..) rfl)
 rw[e,h1]
theorem mW {α:Type} {g:Int×Int->α} {k:Int×Int} :∀{ks:List (Int×Int)},k∈ks->look (ks.map fun k=>(k,g k)) k=some (g k)
 | a :: ks, h => by
  by_cases e:a=k
  ·subst e;simp[look,C8]
  ·have:k∈ks:=by
    rcases AR.mp h with z | z
    ·exact absurd z.symm e
    ·exact z
   have ih:=mW (g:=g) this
   simp only[look,Bh,C8,decide_eq_false e]at ih ⊢
   exact ih
theorem mX {α:Type} {g:Int×Int->α} {k:Int×Int} {ks:List (Int×Int)} (h:k∈ks):getD (ks.map fun k=>(k,g k)) k=.ok (g k):=by
 unfold getD
 rw[mW h]
 rfl
def dc (t:Cd) (strip:List Pl) (loose bound:Int) (i:Nat):List ((Int×Int)×Int):=((bz t loose bound strip [(0,0)])[i]?.getD []).map fun s=>(s,cnt t loose bound (strip.drop i) s)
theorem u7 {t:Cd} (h:Card t) {strip:List Pl} {loose bound:Int} (hl:loose<=3) (hb:bound<=60) {i:Nat} {m:Pl} {L:List (Int×Int)} (h1:strip[i]? =some m) (h2:(bz t loose bound strip [(0,0)])[i]? =some L) (h3:(bz t loose bound strip [(0,0)])[i+1]? =some (hX t m loose bound L))
  {pre:List (List ((Int×Int)×Int))} (hp:pre.length<=900):xF jt t strip loose bound (bz t loose bound strip [(0,0)]) (i:Int) (pre++ [dc t strip loose bound (i+1)])=.ok (pre++ [dc t strip loose bound (i+1)]++ [dc t strip loose bound i]):=by
 have all:=i4 (t:=t) hl hb strip [(0,0)] (by simp) xp L (AX h2)
 have len:=iD all.1 all.2
 have ed:dc t strip loose bound (i+1)=(hX t m loose bound L).map fun s=>(s,cnt t loose bound (strip.drop (i+1)) s):=by unfold dc;rw[h3];rfl
 have ei:dc t strip loose bound i=L.map fun s=>(s,cnt t loose bound (strip.drop i) s):=by unfold dc;rw[h2];rfl
 have dr:strip.drop i=m::strip.drop (i+1):=by
  obtain⟨hi,e⟩:=Az.mp h1
  rw[Cn hi,e]
 unfold xF
 rw[l8,Ao,iE h2,Ao]
 rw[lb (g:=fun s=>(n9 t m loose bound s).map fun c=>(([c]:Tx),aB t s c)) all.1 (by omega) (fun k hk s=>by
  rw[iE h1,Ao,jZ h,Ao]),Ao,CN]
 rw[show IY ((fun x:(Int×Int)×List (Tx×(Int×Int))=>x.1) ∘ fun k=>(k,(n9 t m loose bound k).map fun c=>(([c]:Tx),aB t k c))) L=L from by
  rw[show((fun x:(Int×Int)×List (Tx×(Int×Int))=>x.1) ∘ fun k=>(k,(n9 t m loose bound k).map fun c=>(([c]:Tx),aB t k c)))=id from rfl,Io]]
 rw[lb (g:=fun s=>cnt t loose bound (strip.drop i) s) all.1 (by omega) (fun k hk s=>by
  rw[mX hk,Ao,eD (g:=fun a:Tx×(Int×Int)=>cnt t loose bound (strip.drop (i+1)) a.2) (by rw[B8];unfold n9 cap;refine C6 (List.length_filter_le _ _) (by decide)) (fun a ha=>by
   obtain⟨c,hc,rfl⟩:=Bi.mp ha
   rw[ed]
   exact mX (mem_nxt.mpr ⟨k,hk,c,(mem_onw.mp hc).1,(mem_onw.mp hc).2,rfl⟩)),Ao,Ao,CN]
  congr 1
  rw[dr]
  rfl),Ao,eW (by simp;omega),Ao,ei]
theorem u9 {t:Cd} (h:Card t) {strip:List Pl} (hs:strip.length<=60) {loose bound:Int} (h0:0<=loose) (hl:loose<=3) (hb0:0<=bound) (hb:bound<=60):∃D,vA t strip loose bound=.ok D/\D.length=(bz t loose bound strip [(0,0)]).length/\∀i,i< D.length->D[i]? =some (dc t strip loose bound i):=by
 unfold vA zl
 rw[vO h h0 hb0 hl hb strip (by omega),Ao]
 obtain⟨L,hL,hE,_⟩:=jx (t:=t) (loose:=loose) (bound:=bound) strip [(0,0)]
 have hpos:=jw (t:=t) (loose:=loose) (bound:=bound) strip [(0,0)]
 have hlen:=k6 (t:=t) (loose:=loose) (bound:=bound) strip [(0,0)]
 have all:=i4 (t:=t) hl hb strip [(0,0)] (by simp) xp L (AX hL)
 have len:=iD all.1 all.2
 obtain⟨k,hk⟩:∃k,(bz t loose bound strip [(0,0)]).length=k+1:=⟨_,(Nat.sub_add_cancel hpos).symm⟩
 rw[hk,EI]at hL
 have e1:bN (fun(a:Int×Int) (s:List ((Int×Int)×Int))=>gH s a (1:Int)) L []=.ok (dc t strip loose bound k):=by
  rw[lb (g:=fun _=>(1:Int)) all.1 (by omega) (fun _ _ _=>rfl)]
  unfold dc
  rw[hL]
  show As (L.map _)=As (L.map _)
  rcases hE with rfl | hE
  ·rfl
  ·have:k=strip.length:=by omega
   subst this
   rw[D4]
   rfl
 rw[u5 (a:=L) (by rw[hk];exact hL),Ao,e1,Ao,Ao]
 have er:l4 (((bz t loose bound strip [(0,0)]).length:Int)- 1)=.ok ((BG k).map fun(i:Nat)=>(i:Int)).reverse:=by
  rw[hk]
  have e:((k+1:Nat):Int)- 1=(k:Int):=by omega
  rw[e]
  unfold l4 ee
  rw[bA ⟨by omega,by omega⟩]
  rfl
 rw[er,Ao]
 obtain⟨s,es,h1,h2⟩:=cZ (f:=xF jt t strip loose bound (bz t loose bound strip [(0,0)])) (fun pre s=>s.length=pre.length+1/\∀j,j<=pre.length->s[j]? =some (dc t strip loose bound (k- j))) ((BG k).map fun(i:Nat)=>(i:Int)).reverse [dc t strip loose bound k] ⟨rfl,fun j hj=>by
  have:j=0:=Nat.le_zero.mp hj
  subst this;rfl⟩ (by
  intro pre a post s e ⟨h1,h2⟩
  have hlen2:pre.length< k:=by have:=congrArg Dc e;simp at this;omega
  have ha:a=((k- 1- pre.length:Nat):Int):=by
   have:((BG k).map fun(i:Nat)=>(i:Int)).reverse[pre.length]? =some a:=by rw[e];simp
   rw[CI (by simpa using hlen2),B8,EY,Ay,DD (by omega)]at this
   exact(Bl this).symm
  obtain⟨m,L',q1,q2,q3⟩:=mV (t:=t) (loose:=loose) (bound:=bound) strip [(0,0)] (k- 1- pre.length) (by omega)
  have hs2:s=s.dropLast++ [dc t strip loose bound (k- 1- pre.length+1)]:=by
   have hne:s≠[]:=fun z=>by rw[z]at h1;simp at h1
   have hl2:=h2 pre.length (Au _)
   have e3:k- 1- pre.length+1=k- pre.length:=by omega
   rw[e3]
   have:s.getLast hne=dc t strip loose bound (k- pre.length):=by
    have h5:=List.getLast?_eq_getElem? (l:=s)
    rw[h1,EI,hl2,List.getLast?_eq_some_getLast hne]at h5
    exact Bl h5
   rw[<-this]
   exact(List.dropLast_concat_getLast hne).symm
  rw[ha,hs2,u7 h hl hb q1 q2 q3 (by rw[List.length_dropLast];omega),<-hs2]
  refine⟨_,rfl,by simp[h1],fun j hj=>?_⟩
  rw[Cq,FG]at hj
  by_cases z:j<=pre.length
  ·rw[AU (by omega)]
   exact h2 j z
  ·have ej:j=pre.length+1:=by omega
   subst ej
   rw[AL (by omega),h1,DS]
   show some _=some _
   congr 2
   omega)
 rw[es,Ao]
 have hsl:s.length=k+1:=by simpa using h1
 refine⟨_,rfl,by rw[Eo,hk];exact hsl,fun i hi=>?_⟩
 rw[Eo]at hi
 rw[CI hi,h2 _ (by simp;omega)]
 congr 2
 omega
theorem lg {t:Cd} (h:Card t) {strip:List Pl} (hs:strip.length<=60) {loose bound:Int} (h0:0<=loose) (hl:loose<=3) (hb0:0<=bound) (hb:bound<=60):n6 t strip loose bound=.ok (cnt t loose bound strip (0,0)):=by
 unfold n6 zm
 obtain⟨D,e,h1,h2⟩:=u9 h hs h0 hl hb0 hb
 have hpos:=jw (t:=t) (loose:=loose) (bound:=bound) strip [(0,0)]
 rw[e,Ao,show fV D (0:Int)=.ok (dc t strip loose bound 0)from iE (i:=0) (h2 0 (by omega)),Ao]
 obtain⟨r,hr⟩:=fG (t:=t) (loose:=loose) (bound:=bound) strip [(0,0)]
 congr 1
 unfold dc tu
 rw[hr]
 rfl
def mY (m:Pl) (j:Int) (x:Tx):Pl:=if j=0 then(x,m.2.1,m.2.2)else if j=1 then(m.1,x,m.2.2)else(m.1,m.2.1,x)
def pE (p:Pl) (j:Int):Tx:=if j=0 then p.1 else if j=1 then p.2.1 else p.2.2
theorem xr (m:Pl) {j:Int} (x:Tx) (h0:0<=j) (h1:j< 3):∃ys,gp [m.1,m.2.1,m.2.2] j x=.ok ys/\rP ys=.ok (mY m j x):=by
 have:j=0\/j=1\/j=2:=by omega
 rcases this with rfl | rfl | rfl <;> exact⟨_,rfl,rfl⟩
theorem uc (p m:Pl) {j:Int} (h0:0<=j) (h1:j< 3):∃b:Bool,∀x,fits p (mY m j x)=((decide (x=[63]) || decide (x=pE p j)) && b):=by
 have:j=0\/j=1\/j=2:=by omega
 unfold fits
 rcases this with rfl | rfl | rfl
 ·refine⟨(decide (m.2.1=[63]) || decide (m.2.1=p.2.1)) && (decide (m.2.2=[63]) || decide (m.2.2=p.2.2)),fun x=>rfl⟩
 ·refine⟨(decide (m.1=[63]) || decide (m.1=p.1)) && (decide (m.2.2=[63]) || decide (m.2.2=p.2.2)),fun x=>?_⟩
  show((decide (m.1=[63]) || decide (m.1=p.1)) && ((decide (x=[63]) || decide (x=p.2.1)) && (decide (m.2.2=[63]) || decide (m.2.2=p.2.2))))=((decide (x=[63]) || decide (x=p.2.1)) && _)
  rw[<-G4,HQ (decide (m.1=[63]) || decide (m.1=p.1)),G4]
 ·refine⟨(decide (m.1=[63]) || decide (m.1=p.1)) && (decide (m.2.1=[63]) || decide (m.2.1=p.2.1)),fun x=>?_⟩
  show((decide (m.1=[63]) || decide (m.1=p.1)) && ((decide (m.2.1=[63]) || decide (m.2.1=p.2.1)) && (decide (x=[63]) || decide (x=p.2.2))))=((decide (x=[63]) || decide (x=p.2.2)) && _)
  rw[<-G4,HQ]
theorem pF (w b:Bool) (X:Int) (q:Tx):∀(S:List Tx),S.Nodup->[63]∉S->((S.map fun x=>mU (w && ((decide (x=[63]) || decide (x=q)) && b)) X).sum=if q∈S then mU (w && b) X else 0)
 | [],_,_=>rfl
 | a :: S, nd, hn => by
  have nd':=C7.mp nd
  have ih:=pF w b X q S nd'.2 (fun z=>hn (AN _ z))
  have ha:a≠[63]:=fun z=>hn (by rw[z];exact AJ ..)
  rw[Bh,Fc,ih,decide_eq_false ha,HF]
  by_cases e:a=q
  ·subst e
   rw[if_neg nd'.1,if_pos (AJ ..),decide_eq_true rfl,Bool.true_and,Int.add_zero]
  ·rw[decide_eq_false e,FT,Bool.and_false]
   have:(q∈a::S)↔q∈S:=by rw[AR];exact⟨fun h=>h.elim (fun z=>absurd z.symm e) id,.inr⟩
   show 0+_=_
   rw[HX]
   by_cases y:q∈S
   ·rw[if_pos y,if_pos (this.mpr y)]
   ·rw[if_neg y,if_neg (fun z=>y (this.mp z))]
theorem i5 (f g h:Tx->Int):∀(S:List Tx),(S.map fun x=>f x+g x+h x).sum=(S.map f).sum+(S.map g).sum+(S.map h).sum
 | []=>rfl
 | a :: S => by
  have:=i5 f g h S
  simp only[Bh,Fc,this]
  omega
theorem iF (b:Bool) (f:Tx->Int):∀(S:List Tx),(S.map fun x=>mU b (f x)).sum=mU b (S.map f).sum
 | []=>by cases b <;> rfl
 | a :: S => by
  have:=iF b f S
  rw[Bh,Fc,this,Bh,Fc]
  cases b
  ·rfl
  ·rfl
theorem iG {t:Cd} {loose bound:Int} {m:Pl} {j:Int} (h0:0<=j) (h1:j< 3) {S:List Tx} (nd:S.Nodup) (hn: [63]∉S) (hS:∀i c,bu c->pE (place (standAt t i) c) j∈S) (B:List Pl):∀(A:List Pl) (s:Int×Int),(S.map fun x=>cnt t loose bound (A++mY m j x::B) s).sum=cnt t loose bound (A++mY m j [63]::B) s
 | [], s => by
  simp only[Dl,fT]
  rw[i5]
  have key:∀c,bu c->(S.map fun x=>mU (cR t loose bound s c (mY m j x)) (cnt t loose bound B (aB t s c))).sum=mU (cR t loose bound s c (mY m j [63])) (cnt t loose bound B (aB t s c)):=fun c hc=>by
   obtain⟨b,hb⟩:=uc (place (standAt t (aB t s c).1) c) m h0 h1
   have:=pF (dX (aB t s c) loose bound) b (cnt t loose bound B (aB t s c)) (pE (place (standAt t (aB t s c).1) c) j) S nd hn
   rw[if_pos (hS _ c hc)]at this
   unfold cR
   simp only[hb]
   rw[this]
   rfl
  rw[key 102 (.inl rfl),key 98 (.inr (.inl rfl)),key 105 (.inr (.inr rfl))]
 | a :: A, s => by
  simp only[DA,fT]
  rw[i5,iF,iF,iF,iG h0 h1 nd hn hS B A,iG h0 h1 nd hn hS B A,iG h0 h1 nd hn hS B A]
theorem pG {l:List Pl} (hl:l.length<=60) {i:Nat} (hi:i< l.length) {j:Int} (h0:0<=j) (h1:j< 3) (x:Tx):nU l (i:Int) j x=.ok (l.take i++mY l[i] j x::l.drop (i+1)):=by
 unfold nU zo
 obtain⟨ys,e1,e2⟩:=xr l[i] x h0 h1
 rw[iE (Ar hi),Ao,Ao,e1,Ao,e2,Ao,Ao,j9,show(i:Int)+1=((i+1:Nat):Int) by omega,m6,oG (by simp;omega),Ao,oG (by simp;omega)]
 simp
def abc:Tx:=[97,98,99,100,101,102,103,104,105,106,107,108,109,110,111,112,113,114,115,116,117,118,119,120,121,122]
theorem vP {c:Nat} (h:isCol c):c∈abc:=by
 obtain⟨h1,h2⟩:=h
 have:∀c:Nat,c<=122->97<=c->c∈abc:=by decide
 exact this c h2 h1
theorem vQ {t:Cd} (h:Card t) {i:Int} (h0:0<=i) (h1:i< 4):d4 t i∈t.2.1:=by
 unfold d4
 have hl:i.toNat< t.2.1.length:=by have:=h.four;omega
 rw[Ar hl]
 exact Cr hl
theorem xt (ns:List Int) (h:ns.length<=63):(tL ns).Ok (· =true):=by
 unfold tL p9
 refine ja ((show(ug ns (12:Int)).Ok _ from vL h 12 (by decide)).imp fun y ⟨hc,⟨n,hn,hm⟩,g0,g1⟩=>?_)
 have hl:y.2.1.length=n:=hm.1
 have h60:y.2.1.length<=60:=by omega
 obtain⟨c5,e5⟩:=ig h 5 (by decide)
 obtain⟨c6,e6⟩:=ig h 6 (by decide)
 obtain⟨c7,e7⟩:=ig h 7 (by decide)
 rw[show gh ns 5=.ok c5 from e5,show gh ns 6=.ok c6 from e6,show gh ns 7=.ok c7 from e7,Ao,Ao]
 refine ja (Ca (P:=fun b=>0<=b/\b<=60) (m7 (fun _=>fR ⟨by decide,by decide⟩) fun _=>fR ⟨by omega,by omega⟩) fun b ⟨b0,b1⟩=>?_)
 refine zE (fun z=>?_) fun z=>?_
 ·rw[lg hc (strip:=[]) (by decide) g0 (by omega) b0 b1,Ao]
  exact zF (sf rfl) rfl
 ·have zp:0< y.2.1.length:=by
   rcases Nat.eq_zero_or_pos y.2.1.length with w | w
   ·rw[CZ.mp w]at z;cases z
   ·exact w
  rw[Ao,fP (by omega),Ao,Ao,Ao]
  have a0:0<=c6% (y.2.1.length:Int):=Bq _ (by omega)
  have a1:c6% (y.2.1.length:Int)< y.2.1.length:=Be _ (by omega)
  obtain⟨i,hi⟩:∃i:Nat,c6% (y.2.1.length:Int)=(i:Int):=⟨_,(G5 a0).symm⟩
  rw[hi]at a1 ⊢
  have hi':i< y.2.1.length:=by omega
  have j0:0<=c7% 3:=Bq _ (by decide)
  have j1:c7% 3< 3:=Be _ (by decide)
  generalize c7% 3=j at j0 j1 ⊢
  refine ja (Ca (P:=fun S=>S.Nodup/\[63]∉S/\∀i c,bu c->pE (place (standAt y.1 i) c) j∈S) (m7 (fun jl=>?_) fun jl=>?_) fun S ⟨s1,s2,s3⟩=>?_)
  ·rw[show(bK ([97,98,99,100,101,102,103,104,105,106,107,108,109,110,111,112,113,114,115,116,117,118,119,120,121,122]:Tx))=bK abc from rfl,lZ (g:=fun x:Tx=>if y.1.2.1.contains (x.headD 0)=true then some x else none) (by show 26<=100000;decide) (fun x hx=>by
    obtain⟨c,hc,rfl⟩:=dB hx
    show((yG [c] y.1.2.1).bind _)=_
    show(if y.1.2.1.contains c=true then As (some [c])else As none)=As (if y.1.2.1.contains c=true then some [c]else none)
    split <;> rfl),Ao]
   have mem:∀x,x∈(bK abc).filterMap (fun x:Tx=>if y.1.2.1.contains (x.headD 0)=true then some x else none)↔∃c∈abc,c∈y.1.2.1/\x=[c]:=fun x=>by
    rw[De]
    constructor
    ·rintro ⟨a,ha,e⟩
     obtain⟨c,hc,rfl⟩:=dB ha
     have e:(if y.1.2.1.contains c=true then some [c]else none)=some x:=e
     split at e
     ·rename_i w;cases e;exact⟨c,hc,FQ.mp w,rfl⟩
     ·cases e
    ·rintro ⟨c,hc,hm,rfl⟩
     refine⟨[c],Bi.mpr ⟨c,hc,rfl⟩,?_⟩
     show(if y.1.2.1.contains c=true then some [c]else none)=some [c]
     rw[if_pos (FQ.mpr hm)]
   refine⟨?_,fun w=>?_,fun i c hc'=>?_⟩
   ·have:(bK abc).filterMap (fun x:Tx=>if y.1.2.1.contains (x.headD 0)=true then some x else none)=(bK abc).filter fun x:Tx=>y.1.2.1.contains (x.headD 0):=by
     rw[<-List.filterMap_eq_filter]
     congr 1
    rw[this]
    refine IK List.filter_sublist ?_
    show(abc.map fun c=>[c]).Nodup
    rw[Bd,Cy]
    have:abc.Nodup:=by decide
    exact(Bd.mp this).imp fun h e=>h (HR e).1
   ·obtain⟨c,hc',_,e⟩:=(mem _).mp w
    have:c=63:=(HR e).1.symm
    subst this
    exact absurd hc' (by decide)
   ·have h2:=hc.standAt i
    have key:∀k,0<=k->k< 4->[d4 (standAt y.1 i) k]∈(bK abc).filterMap (fun x:Tx=>if y.1.2.1.contains (x.headD 0)=true then some x else none):=fun k k0 k1=>(mem _).mpr ⟨_,vP (jv h2 k0 k1),vQ h2 k0 k1,rfl⟩
    have:j=0\/j=1:=by omega
    rcases this with rfl | rfl
    ·exact key _ h2.low h2.high
    ·exact key _ (eA _).1 (eA _).2
  ·have:j=2:=by omega
   subst this
   refine⟨by decide,by decide,fun i c hc'=>?_⟩
   show [ju (tw (standAt y.1 i) c)]∈_
   unfold ju
   split
   ·simp
   ·split <;> simp
  ·obtain⟨s,es,hs⟩:=sj (f:=fD n6 nU y b (i:Int) j) (fun pre s=>s=(pre.map fun x=>cnt y.1 y.2.2 b (y.2.1.take i++mY y.2.1[i] j x::y.2.1.drop (i+1)) (0,0)).sum) S (0:Int) rfl (by
    intro pre x post s e hs
    unfold fD
    rw[pG h60 hi' j0 j1 x,Ao,lg hc (by simp;omega) g0 (by omega) b0 b1,Ao]
    refine⟨_,rfl,?_⟩
    rw[hs,Hl,List.sum_append]
    simp)
   rw[es,Ao]
   show((nU y.2.1 (i:Int) j [63]).bind fun w=>n6 y.1 w y.2.2 b).bind _ |>.Ok _
   rw[pG h60 hi' j0 j1,Ao,lg hc (by simp;omega) g0 (by omega) b0 b1,Ao,hs,iG j0 j1 s1 s2 s3]
   exact zF (sf rfl) rfl
end Mi
namespace PySem.W.Fast
def tw140001813534094272:=()
def tw4321966507151631593:=()
def tw10698057553749749337:=()
def tw5344687154915797982:=()
def tw9495317472360511255:=()
def tw14842496431369740429:=()
def tw7873823757921102712:=()
def tw6858818405166986180:=()
def tw15779231459743154856:=()
def tw12297992134047619483:=()
def tw8060666987683057360:=()
def tw13769103115541136327:=()
def tw1205274952441263945:=()
def tw4039707410889071942:=()
def tw12330612334027959195:=()
def tw11766667032028208565:=()
def tw9919008367099125623:=()
def tw87601786513091389:=()
def tw13055953723892786844:=()
def tw6953138203311097117:=()
def tw13114645530532618160:=()
def tw7164969610272591079:=()
def tw3300257896294614128:=()
def tw10519837036962490867:=()
def tw17483705464198625004:=()
def tw9536688357841153863:=()
def tw6128106870883400570:=()
def tw209982475168477708:=()
def tw16919654943277366748:=()
def tw8899516883271353254:=()
def tw15173544498738437827:=()
def tw15925456577456769635:=()
def tw6469784823511061222:=()
def tw17292613610259460706:=()
def tw5002640475654186023:=()
def tw12917704675397863716:=()
def tw7968833095072559221:=()
def tw16140922888777852060:=()
def tw17062427158221528723:=()
def tw4849480874435393781:=()
def tw6549852094080907030:=()
def tw861502493610598483:=()
def tw5449601097390414333:=()
def tw9615563845995560447:=()
def tw17214186515701724070:=()
def tw6356304189028158447:=()
def tw8002303944043701648:=()
def tw9592521066531166775:=()
def tw4077048163395320219:=()
def tw740290905518256060:=()
def tw11823594873375168262:=()
def tw12459912946257978736:=()
def tw13812277999558781770:=()
def tw7424060955962978353:=()
def tw4971374062829452455:=()
def tw12727641955093265886:=()
def tw17963105932079019327:=()
def tw2261719852989239553:=()
def tw9456574344343218679:=()
def tw14958820412457663293:=()
def tw1495895850433845275:=()
def tw4171853373547519906:=()
def tw938635154573522699:=()
def tw14703100239697439463:=()
def tw2570914705882880060:=()
def tw14564479935002850509:=()
def tw10510056951384868246:=()
def tw15402603294489630176:=()
def tw4635989785427082552:=()
def tw17723881924890802966:=()
def tw11384182702204212275:=()
def tw6968137755033780318:=()
def tw2400638427578300857:=()
def tw3721919958574915784:=()
def tw6229817132586351632:=()
def tw14904681115217272601:=()
def tw16108870410212019532:=()
def tw3042748168174471775:=()
def tw3300454383303005205:=()
def tw7476452910721959123:=()
def tw11589282660436910429:=()
def tw12887044766017154078:=()
def tw9972681490609642005:=()
def tw8854275682344465072:=()
def tw3239113980409921550:=()
def tw8733291241859026926:=()
def tw4490611911172417597:=()
def tw16298917771340976007:=()
def tw6148498323302512570:=()
def tw5651905717554246749:=()
def tw10374632558016547081:=()
def tw13034982811429478159:=()
def tw4562827626845409882:=()
def tw2941924889016668590:=()
def tw643336161829623379:=()
def tw15401437161963490237:=()
def tw6522051377940421278:=()
def tw14760874974797668852:=()
def tw16409965706819354750:=()
def tw5832305185047221409:=()
def tw9796564346219866840:=()
def tw11564986514327137767:=()
def tw12772213712371865176:=()
def tw4884199854448574:=()
def tw10016166984437732892:=()
def tw5362036446546632119:=()
def tw2295934692909999376:=()
def tw14226173905949225808:=()
def tw14689541978594310382:=()
def tw12382822922155266910:=()
def tw7217548393331319763:=()
def tw5537553045615171315:=()
def tw9977182230042388008:=()
def tw11421057715548341654:=()
def tw2144661209622563809:=()
def tw2314633323536394700:=()
def tw140236481695663071:=()
def tw3382625519597670723:=()
def tw1708089923452030704:=()
def tw17187875760726034783:=()
def tw13444670453868202053:=()
def tw5498123283257192965:=()
def tw2692750590507578028:=()
def tw4953865588907285216:=()
def tw5438652380644606353:=()
def tw2135409205425526673:=()
def tw15227483606004533461:=()
def tw866717566613908145:=()
def tw16053306600634468012:=()
def tw5101696844757716304:=()
def tw14935467056822913822:=()
def tw4548300405975405348:=()
def tw3308634892276815127:=()
def tw14827714588952709054:=()
def tw16864618592142003386:=()
def tw16955839230299176341:=()
def tw2789304352393801511:=()
def tw7480016910919988345:=()
def tw8157277791214410489:=()
def tw1840220198017710270:=()
def tw15539815450414544023:=()
def tw896878414759379649:=()
def tw8047209995159408440:=()
def tw1000662321505670351:=()
def tw11266997524610791606:=()
def tw5994696166404524948:=()
def tw5459702643516471331:=()
def tw2483420100392427323:=()
def tw2950685276103557050:=()
def tw8739830900816887780:=()
def tw6798380500665416597:=()
def tw7322748291113730364:=()
def tw13946496683202179788:=()
def tw8219003486749837733:=()
def tw9561226457009474297:=()
def tw13622603851894308203:=()
def tw11161164713144168021:=()
def tw2080317491765294665:=()
def tw4804111812005502284:=()
def tw3215387988796971590:=()
def tw3985964047577975286:=()
def tw443766864951011646:=()
def tw10294118229990073760:=()
def tw14782755387869428366:=()
def tw4906484309439969231:=()
def tw13135312941875745310:=()
def tw10792498714594961201:=()
def tw14243238205550065757:=()
def tw16822532161544500889:=()
def tw17351735930882485243:=()
def tw2455152089536381482:=()
def tw8912161614967838395:=()
def tw4734895289157585001:=()
def tw523537741815420091:=()
def tw2827255003249426055:=()
def tw3409989537003095606:=()
def tw10295913840692754127:=()
def tw17760279517084355780:=()
def tw3919386906821981792:=()
def tw7774113678449685934:=()
def tw1972164579936704799:=()
def tw5217270863462422736:=()
def tw15127105006835628225:=()
def tw896239598344801917:=()
def tw9848817304349107530:=()
def tw8159993647027272844:=()
def tw1717767836212652739:=()
def tw1915925776726481438:=()
def tw11429584451438056573:=()
def tw3641951560692057861:=()
def tw13421457143807847188:=()
def tw8480184845173159842:=()
def tw12903330217458380548:=()
def tw15621415185263527259:=()
def tw2403389108928632939:=()
def tw10876078143196172821:=()
def tw8297923619242306668:=()
def tw15685335758407661847:=()
def tw16902440903046159558:=()
def tw11962351593759143498:=()
def tw3235425350174046738:=()
def tw4075453323654395381:=()
def tw17435391645217708394:=()
def tw4480162626587320490:=()
def tw12269216009862288129:=()
def tw16723463757517087524:=()
def tw4547051000311932777:=()
def tw3270257207059953099:=()
def tw16120054744476736488:=()
def tw7086961617601330827:=()
def tw8997383693586321770:=()
def tw10258873121960336067:=()
def tw8949853181751564097:=()
def tw9784134513789038367:=()
def tw11566785887741303228:=()
def tw8285278889055680438:=()
def tw11066385474520676512:=()
def tw14387916025512776202:=()
def tw6822071536725586909:=()
def tw14424681132571578402:=()
def tw17013487888433625170:=()
def tw8080008513338510535:=()
def tw11898673842065290130:=()
def tw2187251505897268136:=()
end PySem.W.Fast
section
open PySem PySem.W PyProof.Rows
set_option maxHeartbeats 0 in
open_top hd for PySem.Challenge.rw_wornband_k33_worn_sign_told_each_way
end
namespace Wb
open PySem L2 Mi
theorem vR {K:PySem.W.Frag} :∀vs H Q E,pb K vs H Q E->dt (isScr K) (rs isB) tL vs H Q E:=fun vs H Q E ⟨a,ns,h1,h2,h3,h4⟩=>
 ⟨⟨H,H,.refl _⟩,ns,.ref a,rfl,h1,⟨a,rfl,h2⟩,fun _=>False,Res.Ok.e ((xt ns h3).imp fun r hr u W' _ hu=>by cases hr;cases hu;exact h4 _)⟩
theorem fin_mk {l:PySem.W.OpenLaw} {w:AQ} {K:PySem.W.Frag} {h:Heap} {mg:Str->Option Am} {fa:Addr} {Z1o:Addr} {Z7G Z7H:Option Addr} {Z7I:Array (Option Am)} {Z7J Z7K Z7L Z7M Z4s Z7N:Am} {Z35:Addr} {Z9C Z9D:Option Addr} {Z9E:Array (Option Am)} {Z9F Z9G Z9H Z9I Z5T Z9J:Am} {Z2u:Addr} {Z90 Z91:Option Addr} {Z92:Array (Option Am)} {Z93 Z94 Z95 Z96 Z4W Z97:Am} {Z1A:Addr} {Z6V Z6W:Option Addr} {Z6X:Array (Option Am)} {Z6Y Z6Z Z70 Z71 Z4i Z72:Am} {Z23:Addr} {Z7O Z7P:Option Addr} {Z7Q:Array (Option Am)} {Z7R Z7S Z7T Z7U Z4t Z7V:Am} {Z1B:Addr} {Z73 Z74:Option Addr} {Z75:Array (Option Am)} {Z76 Z77 Z78 Z79 Z4j Z7a:Am} {Z36:Addr} {Z9K Z9L:Option Addr} {Z9M:Array (Option Am)} {Z9N Z9O Z9P Z9Q Z5U Z9R:Am} {Z1q:Addr} {Z6i Z6j:Option Addr} {Z6k:Array (Option Am)} {Z6l Z6m Z6n Z6o Z3G Z6p:Am} {Z1C:Addr} {Z7b Z7c:Option Addr} {Z7d:Array (Option Am)} {Z7e Z7f Z7g Z7h Z4k Z7i:Am} {Z1r:Addr} {Z6q Z6r:Option Addr} {Z6s:Array (Option Am)} {Z6t Z6u Z6v Z6w Z3H Z6x:Am} {Z24:Addr} {Z7W Z7X:Option Addr} {Z7Y:Array (Option Am)} {Z7Z Z80 Z81 Z82 Z4u Z83:Am} {Z1D:Addr} {Z7j Z7k:Option Addr} {Z7l:Array (Option Am)} {Z7m Z7n Z7o Z7p Z4l Z7q:Am} {Z16:Addr} {Z5e Z5f:Option Addr} {Z5g:Array (Option Am)} {Z5h Z5i Z5j Z5k Z2J Z5l:Am} {Z25:Addr} {Z84 Z85:Option Addr} {Z86:Array (Option Am)} {Z87 Z88 Z89 Z8a Z4v Z8b:Am} {Z26:Addr} {Z8c Z8d:Option Addr} {Z8e:Array (Option Am)} {Z8f Z8g Z8h Z8i Z4w Z8j:Am} {Z27:Addr} {Z8k Z8l:Option Addr} {Z8m:Array (Option Am)} {Z8n Z8o Z8p Z8q Z4x Z8r:Am} {Z2v:Addr} {Z98 Z99:Option Addr} {Z9a:Array (Option Am)} {Z9b Z9c Z9d Z9e Z4X Z9f:Am} {Z28:Addr} {Z8s Z8t:Option Addr} {Z8u:Array (Option Am)} {Z8v Z8w Z8x Z8y Z4y Z8z:Am} {Z3X:Addr} {Za8 Za9:Option Addr} {Zaa:Array (Option Am)} {Zab Zac Zad Zae Z6M Zaf:Am} {Z2w:Addr} {Z9g Z9h:Option Addr} {Z9i:Array (Option Am)} {Z9j Z9k Z9l Z9m Z4Y Z9n:Am} {Z1l:Addr} {Z5V Z5W:Option Addr} {Z5X:Array (Option Am)} {Z5Y Z5Z Z60 Z61 Z37 Z62:Am} {Z38:Addr} {Z9S Z9T:Option Addr} {Z9U:Array (Option Am)} {Z9V Z9W Z9X Z9Y Z63 Z9Z:Am} {f_top:Addr} {od_top an_top:Option Addr} {sl_top:Array (Option Am)} {oc_top kV_top dc_top pm_top cd_top ct_top:Am} {Z3Y:Addr} {Zag Zah:Option Addr} {Zai:Array (Option Am)} {Zaj Zak Zal Zam Z6N Zan:Am} {Z1E:Addr} {Z7r Z7s:Option Addr} {Z7t:Array (Option Am)} {Z7u Z7v Z7w Z7x Z4m Z7y:Am} {Z4S:Addr} {Zbh Zbi:Option Addr} {Zbj:Array (Option Am)} {Zbk Zbl Zbm Zbn Z8A Zbo:Am} {Z3Z:Addr} {Zao Zap:Option Addr} {Zaq:Array (Option Am)} {Zar Zas Zat Zau Z6O Zav:Am} {Z40:Addr} {Zaw Zax:Option Addr} {Zay:Array (Option Am)} {Zaz ZaA ZaB ZaC Z6P ZaD:Am} {Z41:Addr} {ZaE ZaF:Option Addr} {ZaG:Array (Option Am)} {ZaH ZaI ZaJ ZaK Z6Q ZaL:Am} {Z17:Addr} {Z5m Z5n:Option Addr} {Z5o:Array (Option Am)} {Z5p Z5q Z5r Z5s Z2K Z5t:Am} {Z42:Addr} {ZaM ZaN:Option Addr} {ZaO:Array (Option Am)} {ZaP ZaQ ZaR ZaS Z6R ZaT:Am} {Z4T:Addr} {Zbp Zbq:Option Addr} {Zbr:Array (Option Am)} {Zbs Zbt Zbu Zbv Z8B Zbw:Am} {Z64:Addr} {ZbK ZbL:Option Addr} {ZbM:Array (Option Am)} {ZbN ZbO ZbP ZbQ Z9w ZbR:Am} {Z29:Addr} {Z8C Z8D:Option Addr} {Z8E:Array (Option Am)} {Z8F Z8G Z8H Z8I Z4z Z8J:Am} {f_law:Addr} {od_law an_law:Option Addr} {sl_law:Array (Option Am)} {oc_law kV_law dc_law pm_law cd_law ct_law:Am} {Z1S:Tok} {Z1u:Addr} {Zbx:Nat} {x_SLANTS0 y_SLANTS0 x_SLANTS1 y_SLANTS1 x_SLANTS2 y_SLANTS2:Tok} {Z1k:Addr} {ZbS:Nat} {x_START0 x_START1:Tok} {Z1R:Addr} {ZbT:Nat} {x_STEPS0 y_STEPS0 x_STEPS1 y_STEPS1 x_STEPS2 y_STEPS2:Tok} {Z6f:Tok} {Z7D:Tok} (X:K.In h) (G:h.Ns mainGlobals mg) (hfa:mg "law" =some (.ref fa))
  (Z2a:PySem.W.nsIn K mainGlobals "_law_same" =some (some (.ref Z1o)))
  (Z3j:K.lookup Z1o=some ⟨Z7J,Z7G,.func (PySem.W.fnOf "_law_same" "_law_same" (defArgs (tp 44)) (defBody (tp 44)) (defScope (tp 44)) .none Z7K Z7L Z7M Z7H Z4s Z7N),Z7I⟩)
  (Z3k:PySem.W.codeIn K Z4s "_law_same" =true)
  (Z1p:PySem.W.keepIn K (.ref Z1o)=true)
  (Z4A:PySem.W.nsIn K mainGlobals "_law_at" =some (some (.ref Z35)))
  (Z4B:K.lookup Z35=some ⟨Z9F,Z9C,.func (PySem.W.fnOf "_law_at" "_law_at" (defArgs (tp 30)) (defBody (tp 30)) (defScope (tp 30)) .none Z9G Z9H Z9I Z9D Z5T Z9J),Z9E⟩)
  (Z4C:PySem.W.codeIn K Z5T "_law_at" =true)
  (Z39:PySem.W.keepIn K (.ref Z35)=true)
  (Z43:PySem.W.nsIn K mainGlobals "_law_row" =some (some (.ref Z2u)))
  (Z44:K.lookup Z2u=some ⟨Z93,Z90,.func (PySem.W.fnOf "_law_row" "_law_row" (defArgs (tp 26)) (defBody (tp 26)) (defScope (tp 26)) .none Z94 Z95 Z96 Z91 Z4W Z97),Z92⟩)
  (Z45:PySem.W.codeIn K Z4W "_law_row" =true)
  (Z2x:PySem.W.keepIn K (.ref Z2u)=true)
  (Z2L:PySem.W.nsIn K mainGlobals "_law_holes" =some (some (.ref Z1A)))
  (Z2M:K.lookup Z1A=some ⟨Z6Y,Z6V,.func (PySem.W.fnOf "_law_holes" "_law_holes" (defArgs (tp 27)) (defBody (tp 27)) (defScope (tp 27)) .none Z6Z Z70 Z71 Z6W Z4i Z72),Z6X⟩)
  (Z2N:PySem.W.codeIn K Z4i "_law_holes" =true)
  (Z1F:PySem.W.keepIn K (.ref Z1A)=true)
  (Z3l:PySem.W.nsIn K mainGlobals "_law_card" =some (some (.ref Z23)))
  (Z3m:K.lookup Z23=some ⟨Z7R,Z7O,.func (PySem.W.fnOf "_law_card" "_law_card" (defArgs (tp 28)) (defBody (tp 28)) (defScope (tp 28)) .none Z7S Z7T Z7U Z7P Z4t Z7V),Z7Q⟩)
  (Z3n:PySem.W.codeIn K Z4t "_law_card" =true)
  (Z2b:PySem.W.keepIn K (.ref Z23)=true)
  (Z2O:PySem.W.nsIn K mainGlobals "_law_turns" =some (some (.ref Z1B)))
  (Z2P:K.lookup Z1B=some ⟨Z76,Z73,.func (PySem.W.fnOf "_law_turns" "_law_turns" (defArgs (tp 29)) (defBody (tp 29)) (defScope (tp 29)) .none Z77 Z78 Z79 Z74 Z4j Z7a),Z75⟩)
  (Z2Q:PySem.W.codeIn K Z4j "_law_turns" =true)
  (Z1G:PySem.W.keepIn K (.ref Z1B)=true)
  (Z4D:PySem.W.nsIn K mainGlobals "_law_go" =some (some (.ref Z36)))
  (Z4E:K.lookup Z36=some ⟨Z9N,Z9K,.func (PySem.W.fnOf "_law_go" "_law_go" (defArgs (tp 32)) (defBody (tp 32)) (defScope (tp 32)) .none Z9O Z9P Z9Q Z9L Z5U Z9R),Z9M⟩)
  (Z4F:PySem.W.codeIn K Z5U "_law_go" =true)
  (Z3a:PySem.W.keepIn K (.ref Z36)=true)
  (Z2l:PySem.W.nsIn K mainGlobals "_law_behind" =some (some (.ref Z1q)))
  (Z2m:K.lookup Z1q=some ⟨Z6l,Z6i,.func (PySem.W.fnOf "_law_behind" "_law_behind" (defArgs (tp 33)) (defBody (tp 33)) (defScope (tp 33)) .none Z6m Z6n Z6o Z6j Z3G Z6p),Z6k⟩)
  (Z2n:PySem.W.codeIn K Z3G "_law_behind" =true)
  (Z1s:PySem.W.keepIn K (.ref Z1q)=true)
  (Z2R:PySem.W.nsIn K mainGlobals "_law_twist" =some (some (.ref Z1C)))
  (Z2S:K.lookup Z1C=some ⟨Z7e,Z7b,.func (PySem.W.fnOf "_law_twist" "_law_twist" (defArgs (tp 34)) (defBody (tp 34)) (defScope (tp 34)) .none Z7f Z7g Z7h Z7c Z4k Z7i),Z7d⟩)
  (Z2T:PySem.W.codeIn K Z4k "_law_twist" =true)
  (Z1H:PySem.W.keepIn K (.ref Z1C)=true)
  (Z2o:PySem.W.nsIn K mainGlobals "_law_places" =some (some (.ref Z1r)))
  (Z2p:K.lookup Z1r=some ⟨Z6t,Z6q,.func (PySem.W.fnOf "_law_places" "_law_places" (defArgs (tp 35)) (defBody (tp 35)) (defScope (tp 35)) .none Z6u Z6v Z6w Z6r Z3H Z6x),Z6s⟩)
  (Z2q:PySem.W.codeIn K Z3H "_law_places" =true)
  (Z1t:PySem.W.keepIn K (.ref Z1r)=true)
  (Z3o:PySem.W.nsIn K mainGlobals "_law_long" =some (some (.ref Z24)))
  (Z3p:K.lookup Z24=some ⟨Z7Z,Z7W,.func (PySem.W.fnOf "_law_long" "_law_long" (defArgs (tp 37)) (defBody (tp 37)) (defScope (tp 37)) .none Z80 Z81 Z82 Z7X Z4u Z83),Z7Y⟩)
  (Z3q:PySem.W.codeIn K Z4u "_law_long" =true)
  (Z2c:PySem.W.keepIn K (.ref Z24)=true)
  (Z2U:PySem.W.nsIn K mainGlobals "_law_marks" =some (some (.ref Z1D)))
  (Z2V:K.lookup Z1D=some ⟨Z7m,Z7j,.func (PySem.W.fnOf "_law_marks" "_law_marks" (defArgs (tp 36)) (defBody (tp 36)) (defScope (tp 36)) .none Z7n Z7o Z7p Z7k Z4l Z7q),Z7l⟩)
  (Z2W:PySem.W.codeIn K Z4l "_law_marks" =true)
  (Z1I:PySem.W.keepIn K (.ref Z1D)=true)
  (Z1J:PySem.W.nsIn K mainGlobals "_law_turnover" =some (some (.ref Z16)))
  (Z1K:K.lookup Z16=some ⟨Z5h,Z5e,.func (PySem.W.fnOf "_law_turnover" "_law_turnover" (defArgs (tp 38)) (defBody (tp 38)) (defScope (tp 38)) .none Z5i Z5j Z5k Z5f Z2J Z5l),Z5g⟩)
  (Z1L:PySem.W.codeIn K Z2J "_law_turnover" =true)
  (Z18:PySem.W.keepIn K (.ref Z16)=true)
  (Z3r:PySem.W.nsIn K mainGlobals "_law_back" =some (some (.ref Z25)))
  (Z3s:K.lookup Z25=some ⟨Z87,Z84,.func (PySem.W.fnOf "_law_back" "_law_back" (defArgs (tp 39)) (defBody (tp 39)) (defScope (tp 39)) .none Z88 Z89 Z8a Z85 Z4v Z8b),Z86⟩)
  (Z3t:PySem.W.codeIn K Z4v "_law_back" =true)
  (Z2d:PySem.W.keepIn K (.ref Z25)=true)
  (Z3u:PySem.W.nsIn K mainGlobals "_law_roll" =some (some (.ref Z26)))
  (Z3v:K.lookup Z26=some ⟨Z8f,Z8c,.func (PySem.W.fnOf "_law_roll" "_law_roll" (defArgs (tp 40)) (defBody (tp 40)) (defScope (tp 40)) .none Z8g Z8h Z8i Z8d Z4w Z8j),Z8e⟩)
  (Z3w:PySem.W.codeIn K Z4w "_law_roll" =true)
  (Z2e:PySem.W.keepIn K (.ref Z26)=true)
  (Z3x:PySem.W.nsIn K mainGlobals "_law_seen" =some (some (.ref Z27)))
  (Z3y:K.lookup Z27=some ⟨Z8n,Z8k,.func (PySem.W.fnOf "_law_seen" "_law_seen" (defArgs (tp 41)) (defBody (tp 41)) (defScope (tp 41)) .none Z8o Z8p Z8q Z8l Z4x Z8r),Z8m⟩)
  (Z3z:PySem.W.codeIn K Z4x "_law_seen" =true)
  (Z2f:PySem.W.keepIn K (.ref Z27)=true)
  (Z46:PySem.W.nsIn K mainGlobals "_law_kin" =some (some (.ref Z2v)))
  (Z47:K.lookup Z2v=some ⟨Z9b,Z98,.func (PySem.W.fnOf "_law_kin" "_law_kin" (defArgs (tp 42)) (defBody (tp 42)) (defScope (tp 42)) .none Z9c Z9d Z9e Z99 Z4X Z9f),Z9a⟩)
  (Z48:PySem.W.codeIn K Z4X "_law_kin" =true)
  (Z2y:PySem.W.keepIn K (.ref Z2v)=true)
  (Z3A:PySem.W.nsIn K mainGlobals "_law_case" =some (some (.ref Z28)))
  (Z3B:K.lookup Z28=some ⟨Z8v,Z8s,.func (PySem.W.fnOf "_law_case" "_law_case" (defArgs (tp 43)) (defBody (tp 43)) (defScope (tp 43)) .none Z8w Z8x Z8y Z8t Z4y Z8z),Z8u⟩)
  (Z3C:PySem.W.codeIn K Z4y "_law_case" =true)
  (Z2g:PySem.W.keepIn K (.ref Z28)=true)
  (Z5u:PySem.W.nsIn K mainGlobals "within" =some (some (.ref Z3X)))
  (Z5v:K.lookup Z3X=some ⟨Zab,Za8,.func (PySem.W.fnOf "within" "within" (defArgs (tp 18)) (defBody (tp 18)) (defScope (tp 18)) .none Zac Zad Zae Za9 Z6M Zaf),Zaa⟩)
  (Z5w:PySem.W.codeIn K Z6M "within" =true)
  (Z49:PySem.W.keepIn K (.ref Z3X)=true)
  (Z4a:PySem.W.nsIn K mainGlobals "twisting" =some (some (.ref Z2w)))
  (Z4b:K.lookup Z2w=some ⟨Z9j,Z9g,.func (PySem.W.fnOf "twisting" "twisting" (defArgs (tp 6)) (defBody (tp 6)) (defScope (tp 6)) .none Z9k Z9l Z9m Z9h Z4Y Z9n),Z9i⟩)
  (Z4c:PySem.W.codeIn K Z4Y "twisting" =true)
  (Z2z:PySem.W.keepIn K (.ref Z2w)=true)
  (Z1Y:PySem.W.nsIn K mainGlobals "state_behind" =some (some (.ref Z1l)))
  (Z1Z:K.lookup Z1l=some ⟨Z5Y,Z5V,.func (PySem.W.fnOf "state_behind" "state_behind" (defArgs (tp 17)) (defBody (tp 17)) (defScope (tp 17)) .none Z5Z Z60 Z61 Z5W Z37 Z62),Z5X⟩)
  (Z20:PySem.W.codeIn K Z37 "state_behind" =true)
  (Z1m:PySem.W.keepIn K (.ref Z1l)=true)
  (Z4G:PySem.W.nsIn K mainGlobals "twisted" =some (some (.ref Z38)))
  (Z4H:K.lookup Z38=some ⟨Z9V,Z9S,.func (PySem.W.fnOf "twisted" "twisted" (defArgs (tp 16)) (defBody (tp 16)) (defScope (tp 16)) .none Z9W Z9X Z9Y Z9T Z63 Z9Z),Z9U⟩)
  (Z4I:PySem.W.codeIn K Z63 "twisted" =true)
  (Z3b:PySem.W.keepIn K (.ref Z38)=true)
  (a_top:PySem.W.nsIn K mainGlobals "top" =some (some (.ref f_top)))
  (l_top:K.lookup f_top=some ⟨oc_top,od_top,.func (PySem.W.fnOf "top" "top" (defArgs (tp 4)) (defBody (tp 4)) (defScope (tp 4)) .none kV_top dc_top pm_top an_top cd_top ct_top),sl_top⟩)
  (c_top:PySem.W.codeIn K cd_top "top" =true)
  (k_top:PySem.W.keepIn K (.ref f_top)=true)
  (Z5x:PySem.W.nsIn K mainGlobals "bottom" =some (some (.ref Z3Y)))
  (Z5y:K.lookup Z3Y=some ⟨Zaj,Zag,.func (PySem.W.fnOf "bottom" "bottom" (defArgs (tp 5)) (defBody (tp 5)) (defScope (tp 5)) .none Zak Zal Zam Zah Z6N Zan),Zai⟩)
  (Z5z:PySem.W.codeIn K Z6N "bottom" =true)
  (Z4d:PySem.W.keepIn K (.ref Z3Y)=true)
  (Z2X:PySem.W.nsIn K mainGlobals "left_place" =some (some (.ref Z1E)))
  (Z2Y:K.lookup Z1E=some ⟨Z7u,Z7r,.func (PySem.W.fnOf "left_place" "left_place" (defArgs (tp 9)) (defBody (tp 9)) (defScope (tp 9)) .none Z7v Z7w Z7x Z7s Z4m Z7y),Z7t⟩)
  (Z2Z:PySem.W.codeIn K Z4m "left_place" =true)
  (Z1M:PySem.W.keepIn K (.ref Z1E)=true)
  (Z6y:PySem.W.nsIn K mainGlobals "suits" =some (some (.ref Z4S)))
  (Z6z:K.lookup Z4S=some ⟨Zbk,Zbh,.func (PySem.W.fnOf "suits" "suits" (defArgs (tp 13)) (defBody (tp 13)) (defScope (tp 13)) .none Zbl Zbm Zbn Zbi Z8A Zbo),Zbj⟩)
  (Z6A:PySem.W.codeIn K Z8A "suits" =true)
  (Z4U:PySem.W.keepIn K (.ref Z4S)=true)
  (Z5A:PySem.W.nsIn K mainGlobals "agrees" =some (some (.ref Z3Z)))
  (Z5B:K.lookup Z3Z=some ⟨Zar,Zao,.func (PySem.W.fnOf "agrees" "agrees" (defArgs (tp 12)) (defBody (tp 12)) (defScope (tp 12)) .none Zas Zat Zau Zap Z6O Zav),Zaq⟩)
  (Z5C:PySem.W.codeIn K Z6O "agrees" =true)
  (Z4e:PySem.W.keepIn K (.ref Z3Z)=true)
  (Z5D:PySem.W.nsIn K mainGlobals "leaves" =some (some (.ref Z40)))
  (Z5E:K.lookup Z40=some ⟨Zaz,Zaw,.func (PySem.W.fnOf "leaves" "leaves" (defArgs (tp 19)) (defBody (tp 19)) (defScope (tp 19)) .none ZaA ZaB ZaC Zax Z6P ZaD),Zay⟩)
  (Z5F:PySem.W.codeIn K Z6P "leaves" =true)
  (Z4f:PySem.W.keepIn K (.ref Z40)=true)
  (Z5G:PySem.W.nsIn K mainGlobals "onward" =some (some (.ref Z41)))
  (Z5H:K.lookup Z41=some ⟨ZaH,ZaE,.func (PySem.W.fnOf "onward" "onward" (defArgs (tp 20)) (defBody (tp 20)) (defScope (tp 20)) .none ZaI ZaJ ZaK ZaF Z6Q ZaL),ZaG⟩)
  (Z5I:PySem.W.codeIn K Z6Q "onward" =true)
  (Z4g:PySem.W.keepIn K (.ref Z41)=true)
  (Z1N:PySem.W.nsIn K mainGlobals "states_behind" =some (some (.ref Z17)))
  (Z1O:K.lookup Z17=some ⟨Z5p,Z5m,.func (PySem.W.fnOf "states_behind" "states_behind" (defArgs (tp 22)) (defBody (tp 22)) (defScope (tp 22)) .none Z5q Z5r Z5s Z5n Z2K Z5t),Z5o⟩)
  (Z1P:PySem.W.codeIn K Z2K "states_behind" =true)
  (Z19:PySem.W.keepIn K (.ref Z17)=true)
  (Z5J:PySem.W.nsIn K mainGlobals "search" =some (some (.ref Z42)))
  (Z5K:K.lookup Z42=some ⟨ZaP,ZaM,.func (PySem.W.fnOf "search" "search" (defArgs (tp 21)) (defBody (tp 21)) (defScope (tp 21)) .none ZaQ ZaR ZaS ZaN Z6R ZaT),ZaO⟩)
  (Z5L:PySem.W.codeIn K Z6R "search" =true)
  (Z4h:PySem.W.keepIn K (.ref Z42)=true)
  (Z6B:PySem.W.nsIn K mainGlobals "tails" =some (some (.ref Z4T)))
  (Z6C:K.lookup Z4T=some ⟨Zbs,Zbp,.func (PySem.W.fnOf "tails" "tails" (defArgs (tp 23)) (defBody (tp 23)) (defScope (tp 23)) .none Zbt Zbu Zbv Zbq Z8B Zbw),Zbr⟩)
  (Z6D:PySem.W.codeIn K Z8B "tails" =true)
  (Z4V:PySem.W.keepIn K (.ref Z4T)=true)
  (Z8K:PySem.W.nsIn K mainGlobals "ways" =some (some (.ref Z64)))
  (Z8L:K.lookup Z64=some ⟨ZbN,ZbK,.func (PySem.W.fnOf "ways" "ways" (defArgs (tp 24)) (defBody (tp 24)) (defScope (tp 24)) .none ZbO ZbP ZbQ ZbL Z9w ZbR),ZbM⟩)
  (Z8M:PySem.W.codeIn K Z9w "ways" =true)
  (Z65:PySem.W.keepIn K (.ref Z64)=true)
  (Z3D:PySem.W.nsIn K mainGlobals "_law_with" =some (some (.ref Z29)))
  (Z3E:K.lookup Z29=some ⟨Z8F,Z8C,.func (PySem.W.fnOf "_law_with" "_law_with" (defArgs (tp 45)) (defBody (tp 45)) (defScope (tp 45)) .none Z8G Z8H Z8I Z8D Z4z Z8J),Z8E⟩)
  (Z3F:PySem.W.codeIn K Z4z "_law_with" =true)
  (Z2h:PySem.W.keepIn K (.ref Z29)=true)
  (a_law:PySem.W.nsIn K mainGlobals "law" =some (some (.ref f_law)))
  (l_law:K.lookup f_law=some ⟨oc_law,od_law,.func (PySem.W.fnOf "law" "law" (defArgs (tp 46)) (defBody (tp 46)) (defScope (tp 46)) .none kV_law dc_law pm_law an_law cd_law ct_law),sl_law⟩)
  (c_law:PySem.W.codeIn K cd_law "law" =true)
  (k_law:PySem.W.keepIn K (.ref f_law)=true)
  (z_abs:PySem.W.nsIn K mainGlobals "abs" =some none)
  (z_all:PySem.W.nsIn K mainGlobals "all" =some none)
  (z_bool:PySem.W.nsIn K mainGlobals "bool" =some none)
  (z_int:PySem.W.nsIn K mainGlobals "int" =some none)
  (z_isinstance:PySem.W.nsIn K mainGlobals "isinstance" =some none)
  (z_len:PySem.W.nsIn K mainGlobals "len" =some none)
  (z_list:PySem.W.nsIn K mainGlobals "list" =some none)
  (z_range:PySem.W.nsIn K mainGlobals "range" =some none)
  (z_reversed:PySem.W.nsIn K mainGlobals "reversed" =some none)
  (z_sorted:PySem.W.nsIn K mainGlobals "sorted" =some none)
  (z_str:PySem.W.nsIn K mainGlobals "str" =some none)
  (z_sum:PySem.W.nsIn K mainGlobals "sum" =some none)
  (z_tuple:PySem.W.nsIn K mainGlobals "tuple" =some none)
  (z_zip:PySem.W.nsIn K mainGlobals "zip" =some none)
  (Z6E:PySem.W.nsIn K mainGlobals "HOLES" =some (some (.int 4 Z1S)))
  (Z5M:PySem.W.nsIn K mainGlobals "SLANTS" =some (some (.ref Z1u)))
  (Z5N:K.lookup Z1u=some {cls:=.type "dict",data:=.dict #[⟨hashInt (1),.int (1) x_SLANTS0,.str (Av "s") y_SLANTS0⟩,⟨hashInt (-1),.int (-1) x_SLANTS1,.str (Av "z") y_SLANTS1⟩,⟨hashInt (0),.int (0) x_SLANTS2,.str (Av "o") y_SLANTS2⟩] Zbx})
  (Z5O:(Z1u == sysModules)=false)
  (Z6F:PySem.W.nsIn K mainGlobals "START" =some (some (.ref Z1k)))
  (Z6G:K.lookup Z1k=some {cls:=.type "tuple",data:=.seq #[.int (0) x_START0,.int (0) x_START1] ZbS})
  (Z6H:PySem.W.nsIn K mainGlobals "STEPS" =some (some (.ref Z1R)))
  (Z6I:K.lookup Z1R=some {cls:=.type "dict",data:=.dict #[⟨PySem.PyData.keyHash w.params (Av "f"),.str (Av "f") x_STEPS0,.int (1) y_STEPS0⟩,⟨PySem.PyData.keyHash w.params (Av "b"),.str (Av "b") x_STEPS1,.int (-1) y_STEPS1⟩,⟨PySem.PyData.keyHash w.params (Av "i"),.str (Av "i") x_STEPS2,.int (0) y_STEPS2⟩] ZbT})
  (Z6J:(Z1R == sysModules)=false)
  (Z6K:PySem.W.nsIn K mainGlobals "TURNS" =some (some (.str (Av "fbi") Z6f)))
  (Z8N:PySem.W.nsIn K mainGlobals "WORN" =some (some (.str (Av "?") Z7D)))
  :∃fd:AZ,(∀(s:Ap) (v:Am),Gy s fd ⟨[v],[]⟩ [("_law_script",v)])/\∀base:Heap,K.In base->base.Ns mainGlobals mg->FnOk l.prog w K mg base CX0 27 fa fd ["_law_script"] (pb K):=by
 have e:=hfa.symm.trans (PySem.W.mg_of X G a_law)
 cases e
 have Z4Z:=aR (st:=tp 44) Z3j Z3k Z1p
 have Z50:=Z4Z.binds (ps:=["_law_found","_law_due"]) fun _ _ _ _ _ _ us hl=>match us,hl with | [_,_],_=>rfl
 have Z6S:=aR (st:=tp 30) Z4B Z4C Z39
 have ZaU:=Z6S.binds (ps:=["_law_script","_law_k"]) fun _ _ _ _ _ _ us hl=>match us,hl with | [_,_],_=>rfl
 have Z66:=aR (st:=tp 26) Z44 Z45 Z2x
 have Za0:=Z66.binds (ps:=["_law_cell","_law_many","_law_base"]) fun _ _ _ _ _ _ us hl=>match us,hl with | [_,_,_],_=>rfl
 have Z4J:=aR (st:=tp 27) Z2M Z2N Z1F
 have Z8O:=Z4J.binds (ps:=["_law_cell"]) fun _ _ _ _ _ _ us hl=>match us,hl with | [_],_=>rfl
 have Z51:=aR (st:=tp 28) Z3m Z3n Z2b
 have Z9o:=Z51.binds (ps:=["_law_cell"]) fun _ _ _ _ _ _ us hl=>match us,hl with | [_],_=>rfl
 have Z4K:=aR (st:=tp 29) Z2P Z2Q Z1G
 have Z8P:=Z4K.binds (ps:=["_law_cell","_law_many"]) fun _ _ _ _ _ _ us hl=>match us,hl with | [_,_],_=>rfl
 have Z6T:=aR (st:=tp 32) Z4E Z4F Z3a
 have ZaV:=Z6T.binds (ps:=["_law_turn"]) fun _ _ _ _ _ _ us hl=>match us,hl with | [_],_=>rfl
 have Z4n:=aR (st:=tp 33) Z2m Z2n Z1s
 have Z7z:=Z4n.binds (ps:=["_law_card_here","_law_turn"]) fun _ _ _ _ _ _ us hl=>match us,hl with | [_,_],_=>rfl
 have Z4L:=aR (st:=tp 34) Z2S Z2T Z1H
 have Z8Q:=Z4L.binds (ps:=["_law_card_here","_law_turn"]) fun _ _ _ _ _ _ us hl=>match us,hl with | [_,_],_=>rfl
 have Z4o:=aR (st:=tp 35) Z2p Z2q Z1t
 have Z7A:=Z4o.binds (ps:=["_law_card_here","_law_turns_here"]) fun _ _ _ _ _ _ us hl=>match us,hl with | [_,_],_=>rfl
 have Z52:=aR (st:=tp 37) Z3p Z3q Z2c
 have Z9p:=Z52.binds (ps:=["_law_places_here","_law_cell"]) fun _ _ _ _ _ _ us hl=>match us,hl with | [_,_],_=>rfl
 have Z4M:=aR (st:=tp 36) Z2V Z2W Z1I
 have Z8R:=Z4M.binds (ps:=["_law_places_here","_law_cell","_law_lies"]) fun _ _ _ _ _ _ us hl=>match us,hl with | [_,_,_],_=>rfl
 have Z3c:=aR (st:=tp 38) Z1K Z1L Z18
 have Z67:=Z3c.binds (ps:=["_law_card_here"]) fun _ _ _ _ _ _ us hl=>match us,hl with | [_],_=>rfl
 have Z53:=aR (st:=tp 39) Z3s Z3t Z2d
 have Z9q:=Z53.binds (ps:=["_law_turns_here"]) fun _ _ _ _ _ _ us hl=>match us,hl with | [_],_=>rfl
 have Z54:=aR (st:=tp 40) Z3v Z3w Z2e
 have Z9r:=Z54.binds (ps:=["_law_card_here","_law_many"]) fun _ _ _ _ _ _ us hl=>match us,hl with | [_,_],_=>rfl
 have Z55:=aR (st:=tp 41) Z3y Z3z Z2f
 have Z9s:=Z55.binds (ps:=["_law_card_here","_law_turns_here"]) fun _ _ _ _ _ _ us hl=>match us,hl with | [_,_],_=>rfl
 have Z68:=aR (st:=tp 42) Z47 Z48 Z2y
 have Za1:=Z68.binds (ps:=["_law_card_here","_law_turns_here","_law_cell"]) fun _ _ _ _ _ _ us hl=>match us,hl with | [_,_,_],_=>rfl
 have Z56:=aR (st:=tp 43) Z3B Z3C Z2g
 have Z9t:=Z56.binds (ps:=["_law_script","_law_most"]) fun _ _ _ _ _ _ us hl=>match us,hl with | [_,_],_=>rfl
 have Z8S:=aR (st:=tp 18) Z5v Z5w Z49
 have Zby:=Z8S.binds (ps:=["state","loose","bound"]) fun _ _ _ _ _ _ us hl=>match us,hl with | [_,_,_],_=>rfl
 have Z69:=aR (st:=tp 6) Z4b Z4c Z2z
 have Za2:=Z69.binds (ps:=["tablet","turn"]) fun _ _ _ _ _ _ us hl=>match us,hl with | [_,_],_=>rfl
 have Z3I:=aR (st:=tp 17) Z1Z Z20 Z1m
 have Z6L:=Z3I.binds (ps:=["tablet","state","turn"]) fun _ _ _ _ _ _ us hl=>match us,hl with | [_,_,_],_=>rfl
 have Z6U:=aR (st:=tp 16) Z4H Z4I Z3b
 have ZaW:=Z6U.binds (ps:=["tablet","twist"]) fun _ _ _ _ _ _ us hl=>match us,hl with | [_,_],_=>rfl
 have F_top:=aR (st:=tp 4) l_top c_top k_top
 have b_top:=F_top.binds (ps:=["tablet"]) fun _ _ _ _ _ _ us hl=>match us,hl with | [_],_=>rfl
 have Z8T:=aR (st:=tp 5) Z5y Z5z Z4d
 have Zbz:=Z8T.binds (ps:=["tablet"]) fun _ _ _ _ _ _ us hl=>match us,hl with | [_],_=>rfl
 have Z4N:=aR (st:=tp 9) Z2Y Z2Z Z1M
 have Z8U:=Z4N.binds (ps:=["tablet","turn"]) fun _ _ _ _ _ _ us hl=>match us,hl with | [_,_],_=>rfl
 have Z9x:=aR (st:=tp 13) Z6z Z6A Z4U
 have ZbU:=Z9x.binds (ps:=["sign","left"]) fun _ _ _ _ _ _ us hl=>match us,hl with | [_,_],_=>rfl
 have Z8V:=aR (st:=tp 12) Z5B Z5C Z4e
 have ZbA:=Z8V.binds (ps:=["place","mark"]) fun _ _ _ _ _ _ us hl=>match us,hl with | [_,_],_=>rfl
 have Z8W:=aR (st:=tp 19) Z5E Z5F Z4f
 have ZbB:=Z8W.binds (ps:=["tablet","state","turn","mark"]) fun _ _ _ _ _ _ us hl=>match us,hl with | [_,_,_,_],_=>rfl
 have Z8X:=aR (st:=tp 20) Z5H Z5I Z4g
 have ZbC:=Z8X.binds (ps:=["tablet","mark","loose","bound","state"]) fun _ _ _ _ _ _ us hl=>match us,hl with | [_,_,_,_,_],_=>rfl
 have Z3d:=aR (st:=tp 22) Z1O Z1P Z19
 have Z6a:=Z3d.binds (ps:=["tablet","mark","loose","bound","states"]) fun _ _ _ _ _ _ us hl=>match us,hl with | [_,_,_,_,_],_=>rfl
 have Z8Y:=aR (st:=tp 21) Z5K Z5L Z4h
 have ZbD:=Z8Y.binds (ps:=["tablet","strip","loose","bound"]) fun _ _ _ _ _ _ us hl=>match us,hl with | [_,_,_,_],_=>rfl
 have Z9y:=aR (st:=tp 23) Z6C Z6D Z4V
 have ZbV:=Z9y.binds (ps:=["tablet","strip","loose","bound"]) fun _ _ _ _ _ _ us hl=>match us,hl with | [_,_,_,_],_=>rfl
 have ZaX:=aR (st:=tp 24) Z8L Z8M Z65
 have Zc1:=ZaX.binds (ps:=["tablet","strip","loose","bound"]) fun _ _ _ _ _ _ us hl=>match us,hl with | [_,_,_,_],_=>rfl
 have Z57:=aR (st:=tp 45) Z3E Z3F Z2h
 have Z9u:=Z57.binds (ps:=["_law_strip","_law_at_here","_law_side","_law_sign"]) fun _ _ _ _ _ _ us hl=>match us,hl with | [_,_,_,_],_=>rfl
 have F_law:=aR (st:=tp 46) l_law c_law k_law
 have b_law:=F_law.binds (ps:=["_law_script"]) fun _ _ _ _ _ _ us hl=>match us,hl with | [_],_=>rfl
 have h_abs:=PySem.W.mg_none_of X G z_abs
 have h_all:=PySem.W.mg_none_of X G z_all
 have h_bool:=PySem.W.mg_none_of X G z_bool
 have h_int:=PySem.W.mg_none_of X G z_int
 have h_isinstance:=PySem.W.mg_none_of X G z_isinstance
 have h_len:=PySem.W.mg_none_of X G z_len
 have h_list:=PySem.W.mg_none_of X G z_list
 have h_range:=PySem.W.mg_none_of X G z_range
 have h_reversed:=PySem.W.mg_none_of X G z_reversed
 have h_sorted:=PySem.W.mg_none_of X G z_sorted
 have h_str:=PySem.W.mg_none_of X G z_str
 have h_sum:=PySem.W.mg_none_of X G z_sum
 have h_tuple:=PySem.W.mg_none_of X G z_tuple
 have h_zip:=PySem.W.mg_none_of X G z_zip
 have Z1j:=PySem.W.mg_of X G Z6E
 have Z59:=PySem.W.mg_of X G Z5M
 have Z5a:DictK K w Z1u [(CU (1),.str (Av "s")),(CU (-1),.str (Av "z")),(CU (0),.str (Av "o"))]:=⟨by decide,Z5O,by decide +kernel,_,_,Z5N,(.cons ⟨fH _ _,rfl,⟨_,rfl⟩⟩ (.cons ⟨fH _ _,rfl,⟨_,rfl⟩⟩ (.cons ⟨fH _ _,rfl,⟨_,rfl⟩⟩ .nil)))⟩
 have Z1W:=PySem.W.mg_of X G Z6F
 have Z1X:∀H,SqT K H Z1k [.int (0),.int (0)]:=fun H=>.inr ⟨_,_,_,Z6G,⟨rfl,rfl⟩,rfl,(by show 2<=sizeLine;decide),(.cons ⟨_,rfl⟩ (.cons ⟨_,rfl⟩ .nil))⟩
 have Z6b:=PySem.W.mg_of X G Z6H
 have Z6c:DictK K w Z1R [(CV (Av "f"),.int (1)),(CV (Av "b"),.int (-1)),(CV (Av "i"),.int (0))]:=⟨by decide,Z6J,by decide +kernel,_,_,Z6I,(.cons ⟨fI _ _,rfl,⟨_,rfl⟩⟩ (.cons ⟨fI _ _,rfl,⟨_,rfl⟩⟩ (.cons ⟨fI _ _,rfl,⟨_,rfl⟩⟩ .nil)))⟩
 have Z6g:=PySem.W.mg_of X G Z6K
 have Z7E:=PySem.W.mg_of X G Z8N
 refine⟨PySem.W.fnOf "law" "law" (defArgs (tp 46)) (defBody (tp 46)) (defScope (tp 46)) .none kV_law dc_law pm_law an_law cd_law ct_law,fun s v=>.of_eq rfl,fun base KB _=>?_⟩
 have SA:∀n:Nat,Cal l.prog w K mg base "_law_same" ["_law_found","_law_due"] n (fS K n):=fun n=>by
  induction n with
  | zero=>exact⟨Z1o,_,vB,PySem.W.mg_of X G Z2a,Z1p,Z50⟩
  | succ n ih=>exact⟨Z1o,_,tM Z4Z h_len h_isinstance h_bool h_int h_str h_list h_tuple h_zip ih,PySem.W.mg_of X G Z2a,Z1p,Z50⟩
 have Z14:=SA 26
 have Z0u:Cal l.prog w K mg base "_law_at" ["_law_script","_law_k"] (1) (bH (isScr K) isI (rs isI) gh):=⟨Z35,_,zN Z6S h_len,PySem.W.mg_of X G Z4A,Z39,ZaU⟩
 have Z0s:Cal l.prog w K mg base "_law_row" ["_law_cell","_law_many","_law_base"] (1) (eg isI isI isI (ro isI) gM):=⟨Z2u,_,zO Z66 h_abs h_range,PySem.W.mg_of X G Z43,Z2x,Za0⟩
 have Z2C:Cal l.prog w K mg base "_law_holes" ["_law_cell"] (2) (dt isI (rs isS) vd):=⟨Z1A,_,zP Z4J Z0s,PySem.W.mg_of X G Z2L,Z1F,Z8O⟩
 have Z21:Cal l.prog w K mg base "_law_card" ["_law_cell"] (3) (dt isI (rs (qA K)) uf):=⟨Z23,_,zQ Z51 Z2C,PySem.W.mg_of X G Z3l,Z2b,Z9o⟩
 have Z2F:Cal l.prog w K mg base "_law_turns" ["_law_cell","_law_many"] (2) (bH isI isI (rs isS) ve):=⟨Z1B,_,zR Z4K Z0s,PySem.W.mg_of X G Z2O,Z1G,Z8P⟩
 have Z1a:Cal l.prog w K mg base "_law_go" ["_law_turn"] (1) (dt isS (rs isI) mZ):=⟨Z36,_,zS Z6T,PySem.W.mg_of X G Z4D,Z3a,ZaV⟩
 have Z0J:Cal l.prog w K mg base "_law_behind" ["_law_card_here","_law_turn"] (2) (bH (qA K) isS (rs (qA K)) iB):=⟨Z1q,_,zT Z4n Z1a,PySem.W.mg_of X G Z2l,Z1s,Z7z⟩
 have Z2E:Cal l.prog w K mg base "_law_twist" ["_law_card_here","_law_turn"] (2) (bH (qA K) isS (rs isI) p7):=⟨Z1C,_,zU Z4L Z1a,PySem.W.mg_of X G Z2R,Z1H,Z8Q⟩
 have Z2k:Cal l.prog w K mg base "_law_places" ["_law_card_here","_law_turns_here"] (3) (bH (qA K) isS (ro (qB K)) vf):=⟨Z1r,_,zV Z4o Z0J Z2E,PySem.W.mg_of X G Z2o,Z1t,Z7A⟩
 have Z3h:Cal l.prog w K mg base "_law_long" ["_law_places_here","_law_cell"] (2) (bH (qD K) isI (ro (qB K)) vg):=⟨Z24,_,zW Z52 Z0s h_len h_zip,PySem.W.mg_of X G Z3o,Z2c,Z9p⟩
 have Z2G:Cal l.prog w K mg base "_law_marks" ["_law_places_here","_law_cell","_law_lies"] (2) (eg (qD K) isI isB (ro (qB K)) vh):=⟨Z1D,_,zX Z4M Z0s h_int h_len h_tuple h_zip,PySem.W.mg_of X G Z2U,Z1I,Z8R⟩
 have Z1x:Cal l.prog w K mg base "_law_turnover" ["_law_card_here"] (1) (dt (qA K) (rs (qA K)) vi):=⟨Z16,_,zY Z3c,PySem.W.mg_of X G Z1J,Z18,Z67⟩
 have Z3e:Cal l.prog w K mg base "_law_back" ["_law_turns_here"] (1) (dt isS (rs isS) vj):=⟨Z25,_,zZ Z53,PySem.W.mg_of X G Z3r,Z2d,Z9q⟩
 have Z3f:Cal l.prog w K mg base "_law_roll" ["_law_card_here","_law_many"] (1) (bH (qA K) isI (rs (qA K)) vm):=⟨Z26,_,A0 Z54 h_range,PySem.W.mg_of X G Z3u,Z2e,Z9r⟩
 have Z3g:Cal l.prog w K mg base "_law_seen" ["_law_card_here","_law_turns_here"] (3) (bH (qA K) isS (ro isI) vn):=⟨Z27,_,A1 Z55 Z0J h_sorted,PySem.W.mg_of X G Z3x,Z2f,Z9s⟩
 have Z3W:Cal l.prog w K mg base "_law_kin" ["_law_card_here","_law_turns_here","_law_cell"] (4) (eg (qA K) isS isI (rs (isT2 K (qA K) isS)) vo):=⟨Z2v,_,A2 Z68 Z1x Z3e Z3f Z3g h_range,PySem.W.mg_of X G Z46,Z2y,Za1⟩
 have Z3i:Cal l.prog w K mg base "_law_case" ["_law_script","_law_most"] (5) (bH (isScr K) isI (rs (isT3 K (qA K) (qD K) isI)) ug):=⟨Z28,_,A3 Z56 Z21 Z0u Z2F Z2k Z3h Z2G Z3W,PySem.W.mg_of X G Z3A,Z2g,Z9t⟩
 have Z1U:Cal l.prog w K mg base "within" ["state","loose","bound"] (1) (eg (qC K) isI isI (rs isB) mN):=⟨Z3X,_,A4 Z8S h_abs,PySem.W.mg_of X G Z5u,Z49,Zby⟩
 have Z1i:Cal l.prog w K mg base "twisting" ["tablet","turn"] (1) (bH (qA K) isS (rs isI) nR):=⟨Z2w,_,A5 Z69 Z6b Z6c,PySem.W.mg_of X G Z4a,Z2z,Za2⟩
 have Z1T:Cal l.prog w K mg base "state_behind" ["tablet","state","turn"] (2) (eg (qA K) (qC K) isS (rs (qC K)) uh):=⟨Z1l,_,A6 Z3I Z1i,PySem.W.mg_of X G Z1Y,Z1m,Z6L⟩
 have Z4p:Cal l.prog w K mg base "twisted" ["tablet","twist"] (1) (bH (qA K) isI (rs (qA K)) vp):=⟨Z38,_,A7 Z6U Z1j,PySem.W.mg_of X G Z4G,Z3b,ZaW⟩
 have C_top:Cal l.prog w K mg base "top" ["tablet"] (1) (dt (qA K) (rs isS) gJ):=⟨f_top,_,yA F_top Z1j,PySem.W.mg_of X G a_top,k_top,b_top⟩
 have Z58:Cal l.prog w K mg base "bottom" ["tablet"] (1) (dt (qA K) (rs isS) vq):=⟨Z3Y,_,A8 Z8T Z1j,PySem.W.mg_of X G Z5x,Z4d,Zbz⟩
 have Z2I:Cal l.prog w K mg base "left_place" ["tablet","turn"] (2) (bH (qA K) isS (rs (qB K)) vt):=⟨Z1E,_,A9 Z4N C_top Z58 Z1i Z59 Z5a,PySem.W.mg_of X G Z2X,Z1M,Z8U⟩
 have Z6e:Cal l.prog w K mg base "suits" ["sign","left"] (1) (bH isS isS (rs isB) ui):=⟨Z4S,_,Aa Z9x Z7E,PySem.W.mg_of X G Z6y,Z4U,ZbU⟩
 have Z5b:Cal l.prog w K mg base "agrees" ["place","mark"] (2) (bH (qB K) (qB K) (rs isB) vw):=⟨Z3Z,_,Ab Z8V Z6e h_all h_zip,PySem.W.mg_of X G Z5A,Z4e,ZbA⟩
 have Z5c:Cal l.prog w K mg base "leaves" ["tablet","state","turn","mark"] (3) (fv (qA K) (qC K) isS (qB K) (rs isB) tK):=⟨Z40,_,Ac Z8W Z5b Z2I Z4p,PySem.W.mg_of X G Z5D,Z4f,ZbB⟩
 have Z1V:Cal l.prog w K mg base "onward" ["tablet","mark","loose","bound","state"] (4) (lR (qA K) (qB K) isI isI (qC K) (ro (isT2 K isS (qC K))) jt):=⟨Z41,_,Ad Z8X Z1T Z1U Z5c Z6g,PySem.W.mg_of X G Z5G,Z4g,ZbC⟩
 have Z1z:Cal l.prog w K mg base "states_behind" ["tablet","mark","loose","bound","states"] (5) (lR (qA K) (qB K) isI isI (qE K) (ro (qC K)) nS):=⟨Z17,_,Ae Z3d Z1V h_sorted,PySem.W.mg_of X G Z1N,Z19,Z6a⟩
 have Z5d:Cal l.prog w K mg base "search" ["tablet","strip","loose","bound"] (6) (fv (qA K) (qD K) isI isI (ro (qE K)) vz):=⟨Z42,_,Af Z8Y Z1U Z1z Z1W Z1X,PySem.W.mg_of X G Z5J,Z4h,ZbD⟩
 have Z6h:Cal l.prog w K mg base "tails" ["tablet","strip","loose","bound"] (7) (fv (qA K) (qD K) isI isI (ro (isPD l.prog w K isI)) vA):=⟨Z4T,_,Ag Z9y Z5d Z1V h_len h_range h_reversed h_sum,PySem.W.mg_of X G Z6B,Z4V,ZbV⟩
 have Z4r:Cal l.prog w K mg base "ways" ["tablet","strip","loose","bound"] (8) (fv (qA K) (qD K) isI isI (rs isI) n6):=⟨Z64,_,Ah ZaX Z6h Z1W Z1X,PySem.W.mg_of X G Z8K,Z65,Zc1⟩
 have Z22:Cal l.prog w K mg base "_law_with" ["_law_strip","_law_at_here","_law_side","_law_sign"] (1) (fv (qD K) isI isI isS (ro (qB K)) nU):=⟨Z29,_,Ai Z57 h_list h_tuple,PySem.W.mg_of X G Z3D,Z2h,Z9u⟩
 exact FnOk.imp (yB F_law Z3i Z0u Z14 Z4r Z22 h_bool h_int h_isinstance h_len) vR
theorem walk {l:PySem.W.OpenLaw} {q:AI} {loose:List Str} {XP:(Str->Option Am)->Heap->Prop} {YP:AQ->Heap->Prop} {d:DefRec} {K:IH->PySem.W.Frag} (hn:l.most=some 63) (hdf:d.params.defaults=[]) (hY:∀(w:AQ) (h:Heap),YP w h->(K w.params).In h)
  (F:∀(w:AQ) (mg:Str->Option Am) (fa:Addr) (h:Heap),(K w.params).In h->h.Ns mainGlobals mg->mg d.name=some (.ref fa)->∃fd:AZ,(∀(s:Ap) (u:Am),Gy s fd ⟨[u],[]⟩ [("_law_script",u)])/\∀base:Heap,(K w.params).In base->base.Ns mainGlobals mg->FnOk l.prog w (K w.params) mg base CX0 27 fa fd ["_law_script"] (pb (K w.params))):
  PySem.W.WalkO q loose XP YP l.row.toRowW d [] (fun f vs=>PySem.call f vs):=
 L2.walk_of (n:=63) (k:=27) (x:="_law_script") (CX:=fun _=>CX0) (sp:=fun w=>pb (K w.params)) hn (by decide) hdf ⟨rfl,by decide,by decide⟩ hY F (fun _ _ a ns hl _ hS=>⟨a,ns,rfl,hS,hl,fun _=>rfl⟩) fun _ _ _ _ _ z=>z
end Wb
open PySem PySem.W PyProof.Rows
set_option maxRecDepth 100000 in
set_option maxHeartbeats 0 in
theorem PySem.Challenge.cw_wornband_k33_worn_sign_told_each_way_holds : PySem.Challenge.rw_wornband_k33_worn_sign_told_each_way.Holds := by
 refine hd ?_
 k_fill
 refine Wb.walk (l:=PySem.Challenge.rw_wornband_k33_worn_sign_told_each_way) rfl rfl (fun w h Y=>PySem.W.kIn_of Y) ?F
 case F=>
  intro w mg fa h KX G hmg
  refine' Wb.fin_mk KX G hmg ?Z2a ?Z3j ?Z3k ?Z1p ?Z4A ?Z4B ?Z4C ?Z39 ?Z43 ?Z44 ?Z45 ?Z2x ?Z2L ?Z2M ?Z2N ?Z1F ?Z3l ?Z3m ?Z3n ?Z2b ?Z2O ?Z2P ?Z2Q ?Z1G ?Z4D ?Z4E ?Z4F ?Z3a ?Z2l ?Z2m ?Z2n ?Z1s ?Z2R ?Z2S ?Z2T ?Z1H ?Z2o ?Z2p ?Z2q ?Z1t ?Z3o ?Z3p ?Z3q ?Z2c ?Z2U ?Z2V ?Z2W ?Z1I ?Z1J ?Z1K ?Z1L ?Z18 ?Z3r ?Z3s ?Z3t ?Z2d ?Z3u ?Z3v ?Z3w ?Z2e ?Z3x ?Z3y ?Z3z ?Z2f ?Z46 ?Z47 ?Z48 ?Z2y ?Z3A ?Z3B ?Z3C ?Z2g ?Z5u ?Z5v ?Z5w ?Z49 ?Z4a ?Z4b ?Z4c ?Z2z ?Z1Y ?Z1Z ?Z20 ?Z1m ?Z4G ?Z4H ?Z4I ?Z3b ?a_top ?l_top ?c_top ?k_top ?Z5x ?Z5y ?Z5z ?Z4d ?Z2X ?Z2Y ?Z2Z ?Z1M ?Z6y ?Z6z ?Z6A ?Z4U ?Z5A ?Z5B ?Z5C ?Z4e ?Z5D ?Z5E ?Z5F ?Z4f ?Z5G ?Z5H ?Z5I ?Z4g ?Z1N ?Z1O ?Z1P ?Z19 ?Z5J ?Z5K ?Z5L ?Z4h ?Z6B ?Z6C ?Z6D ?Z4V ?Z8K ?Z8L ?Z8M ?Z65 ?Z3D ?Z3E ?Z3F ?Z2h ?a_law ?l_law ?c_law ?k_law ?z_abs ?z_all ?z_bool ?z_int ?z_isinstance ?z_len ?z_list ?z_range ?z_reversed ?z_sorted ?z_str ?z_sum ?z_tuple ?z_zip ?Z6E ?Z5M ?Z5N ?Z5O ?Z6F ?Z6G ?Z6H ?Z6I ?Z6J ?Z6K ?Z8N
  (case Z2a=>k_is)
  (case Z3j=>k_is)
  (case Z3k=>k_is)
  (case Z1p=>k_is)
  (case Z4A=>k_is)
  (case Z4B=>k_is)
  (case Z4C=>k_is)
  (case Z39=>k_is)
  (case Z43=>k_is)
  (case Z44=>k_is)
  (case Z45=>k_is)
  (case Z2x=>k_is)
  (case Z2L=>k_is)
  (case Z2M=>k_is)
  (case Z2N=>k_is)
  (case Z1F=>k_is)
  (case Z3l=>k_is)
  (case Z3m=>k_is)
  (case Z3n=>k_is)
  (case Z2b=>k_is)
  (case Z2O=>k_is)
  (case Z2P=>k_is)
  (case Z2Q=>k_is)
  (case Z1G=>k_is)
  (case Z4D=>k_is)
  (case Z4E=>k_is)
  (case Z4F=>k_is)
  (case Z3a=>k_is)
  (case Z2l=>k_is)
  (case Z2m=>k_is)
  (case Z2n=>k_is)
  (case Z1s=>k_is)
  (case Z2R=>k_is)
  (case Z2S=>k_is)
  (case Z2T=>k_is)
  (case Z1H=>k_is)
  (case Z2o=>k_is)
  (case Z2p=>k_is)
  (case Z2q=>k_is)
  (case Z1t=>k_is)
  (case Z3o=>k_is)
  (case Z3p=>k_is)
  (case Z3q=>k_is)
  (case Z2c=>k_is)
  (case Z2U=>k_is)
  (case Z2V=>k_is)
  (case Z2W=>k_is)
  (case Z1I=>k_is)
  (case Z1J=>k_is)
  (case Z1K=>k_is)
  (case Z1L=>k_is)
  (case Z18=>k_is)
  (case Z3r=>k_is)
  (case Z3s=>k_is)
  (case Z3t=>k_is)
  (case Z2d=>k_is)
  (case Z3u=>k_is)
  (case Z3v=>k_is)
  (case Z3w=>k_is)
  (case Z2e=>k_is)
  (case Z3x=>k_is)
  (case Z3y=>k_is)
  (case Z3z=>k_is)
  (case Z2f=>k_is)
  (case Z46=>k_is)
  (case Z47=>k_is)
  (case Z48=>k_is)
  (case Z2y=>k_is)
  (case Z3A=>k_is)
  (case Z3B=>k_is)
  (case Z3C=>k_is)
  (case Z2g=>k_is)
  (case Z5u=>k_is)
  (case Z5v=>k_is)
  (case Z5w=>k_is)
  (case Z49=>k_is)
  (case Z4a=>k_is)
  (case Z4b=>k_is)
  (case Z4c=>k_is)
  (case Z2z=>k_is)
  (case Z1Y=>k_is)
  (case Z1Z=>k_is)
  (case Z20=>k_is)
  (case Z1m=>k_is)
  (case Z4G=>k_is)
  (case Z4H=>k_is)
  (case Z4I=>k_is)
  (case Z3b=>k_is)
  (case a_top=>k_is)
  (case l_top=>k_is)
  (case c_top=>k_is)
  (case k_top=>k_is)
  (case Z5x=>k_is)
  (case Z5y=>k_is)
  (case Z5z=>k_is)
  (case Z4d=>k_is)
  (case Z2X=>k_is)
  (case Z2Y=>k_is)
  (case Z2Z=>k_is)
  (case Z1M=>k_is)
  (case Z6y=>k_is)
  (case Z6z=>k_is)
  (case Z6A=>k_is)
  (case Z4U=>k_is)
  (case Z5A=>k_is)
  (case Z5B=>k_is)
  (case Z5C=>k_is)
  (case Z4e=>k_is)
  (case Z5D=>k_is)
  (case Z5E=>k_is)
  (case Z5F=>k_is)
  (case Z4f=>k_is)
  (case Z5G=>k_is)
  (case Z5H=>k_is)
  (case Z5I=>k_is)
  (case Z4g=>k_is)
  (case Z1N=>k_is)
  (case Z1O=>k_is)
  (case Z1P=>k_is)
  (case Z19=>k_is)
  (case Z5J=>k_is)
  (case Z5K=>k_is)
  (case Z5L=>k_is)
  (case Z4h=>k_is)
  (case Z6B=>k_is)
  (case Z6C=>k_is)
  (case Z6D=>k_is)
  (case Z4V=>k_is)
  (case Z8K=>k_is)
  (case Z8L=>k_is)
  (case Z8M=>k_is)
  (case Z65=>k_is)
  (case Z3D=>k_is)
  (case Z3E=>k_is)
  (case Z3F=>k_is)
  (case Z2h=>k_is)
  (case a_law=>k_is)
  (case l_law=>k_is)
  (case c_law=>k_is)
  (case k_law=>k_is)
  (case z_abs=>k_is)
  (case z_all=>k_is)
  (case z_bool=>k_is)
  (case z_int=>k_is)
  (case z_isinstance=>k_is)
  (case z_len=>k_is)
  (case z_list=>k_is)
  (case z_range=>k_is)
  (case z_reversed=>k_is)
  (case z_sorted=>k_is)
  (case z_str=>k_is)
  (case z_sum=>k_is)
  (case z_tuple=>k_is)
  (case z_zip=>k_is)
  (case Z6E=>k_is)
  (case Z5M=>k_is)
  (case Z5N=>k_is)
  (case Z5O=>rfl)
  (case Z6F=>k_is)
  (case Z6G=>k_is)
  (case Z6H=>k_is)
  (case Z6I=>k_is)
  (case Z6J=>rfl)
  (case Z6K=>k_is)
  (case Z8N=>k_is)
