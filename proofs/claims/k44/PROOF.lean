import PyProof.Rows.All
import Wide.All
import OpenK.AllK
import Wide.FinOn
import PyProof.EqAt
import PyProof.EqKinds
import PyProof.TupleCall
import KE.KDictSum
import KE.KRevIter
import KE.KRevSl
import KE.KDictLaws
import PyProof.StrLawsFirst
import KE.LcSums
import PyProof.EnumMake
import PyProof.TupleIter
import PyProof.StationsW
import PyProof.Rows.Own
import PyProof.NsDelKeeps
import PyProof.RulesAs
import PyProof.ExcAttrAll.ValueError
import KE.KIsAll
import PyProof.ExcBaseAll.ValueError
import PyProof.Rows.FStr
import PyProof.FString
import PyProof.Rows.StrNews
import PyProof.StrLawsTight
import PyProof.StrLawsChain
import PyProof.ExcInit
import PyProof.ExcClass3
import PyProof.InstStoreFacts
import PySem.SetTable
import PySem.SetOps
import PyProof.TupleKey
import PyProof.SetKind
import PyProof.IsRules
import KE.KSortTup
import PyProof.Rows.SortRun
import PyProof.Rows.SortShell
import PyProof.DictWalks
import PyProof.DictTruth
import PyProof.NeKinds
import PyProof.Rows.TupTab
import PyProof.Rows.SetFrom
import PyProof.SetRoads
import PyProof.AutoListH
import PyProof.DictItems
import PySem.Challenge.RW_wornband_k44_whole_flips_on_the_loom
open Array renaming getElem?_eq_some_iff->ET,mem_toList_iff->HU,length_toList->Ic,toList->Kf
open Bool renaming false_ne_true->CS,false_eq_true->Ej,eq_iff_iff->Ez,not_eq_true'->H9,not_false->HX,not_true->Il,false_and->Jr,and_false->Jw
open Classical renaming byContradiction->FH
open False renaming elim->DY
open ForInStep renaming yield->Fp
open Iff renaming rfl->GD
open Int renaming emod_lt_of_pos->Dw,emod_nonneg->DG,toNat_natCast->EZ,le_refl->HY
open List renaming getElem?_eq_some_iff->Cy,mem_cons_of_mem->CG,size_toArray->CH,replicate->CI,mem_cons_self->CJ,mem_cons->CM,mem_map->CU,length_append->CY,mem_append_right->D5,not_mem_nil->D9,getElem?_append_right->Dc,getElem?_append_left->Dg,append_nil->Dh,forall_mem_cons->Dl,length_cons->Dr,Nodup->Ds,map_cons->Dy,getElem?_eq_getElem->Dz,map_congr_left->DA,getElem?_eq_none_iff->DB,mem_of_getElem?->DC,find?_cons_of_neg->DD,getElem?_map->DJ,map_map->DL,mem_range->DN,nodup_cons->DP,replicate_succ->DS,mem_append_left->DW,mem_append->E3,length_map->E6,lookup->Eg,mem_singleton->Ek,lookup_cons->Em,flatten_cons->Eu,find?_cons_of_pos->Ex,of_mem_zip->EA,getElem?_zip_eq_some->EB,length_singleton->EC,append_assoc->EH,ext_getElem?->EK,range->EM,getElem?_set_self->EO,drop_eq_getElem_cons->EU,filterMap_cons->Fb,drop_length->Fg,find?_cons->Fo,length_replicate->Ft,getElem?_set->Fx,getElem?_set_ne->Fz,length->FA,map_nil->FF,getElem_mem->FG,nil_append->FL,length_nil->FN,forIn_cons->FO,length_zip->FP,getElem?_cons_zero->FX,getElem?_cons_succ->FY,forIn_nil->G5,length_range->G7,zipIdx_cons->Gb,all_eq_true->Gf,any_cons->Gg,length_set->Gu,zipIdx_nil->Gx,map_append->Gy,set_cons_zero->GQ,set_cons_succ->GR,length_take->Hc,getElem?_replicate->Hd,cons_append->Hl,any_eq_true->Hn,mem_flatMap->Ho,take_of_length_le->Hy,map_const'->HF,mem_iff_getElem?->HL,getElem?_zipWith->HM,filterMap_append->HR,getElem?_eq_none->HS,getElem?_range->Ie,mem_filterMap->Ir,lookup_append->IA,contains_cons->ID,find?_eq_none->IF,any_eq_false->IJ,mem_filter->Jf,foldl_cons->Jh,foldl->Jv,nodup_nil->JA,take->L9
open List.Pairwise renaming nil->GX
open List.cons renaming injEq->HE
open Nat renaming lt_of_lt_of_le->CA,le_refl->CK,ne_of_lt->CN,lt_irrefl->Di,lt_succ_self->Ea,le_add_right->Eb,le_trans->Ei,ne_of_gt->Et,le_of_lt->EY,le_succ->Gi,lt_trans->Hv,zero_le->HV,reduceAdd->Im,reduceSub->Io,lt_succ_of_lt->IZ,le_of_eq->Kh
open Ne renaming symm->E8
open Option renaming getD_some->El,map_eq_some_iff->ER,ne_none_iff_exists'->FD,map_some->Gv,isSome_iff_exists->Hb,bind_eq_some_iff->Hi,bind_some->Hj,isSome_some->Iy,getD_none->Jb
open Option.some renaming inj->Df,injEq->GZ
open Or renaming inr->FR,inl->G4
open PyProof.Rows renaming boot_isinstance->Cz,boot_list->Ec,callWith_type1->Eo,boot_abs->Fu,boot_bool->G6,AllBare->GB,boot_tuple->Hm,subscriptTail_builtinR->Ht,boot_dict->HB,boot_max->HN,boot_int->HP,boot_str->HQ,slot_tupleiter_next->Ij,IntsAre->IT,callWith_builtin1->Ja,Subscript_->Jt,isub_int->Kl,boot_all->Km,boot_any->Kn,boot_sum->Ko,TupTab->Kz,IsTup->KS
open PyProof.Rows.LSm renaming kept_iter->Ka
open PySem renaming wpAny_bind->Co,Value->Cr,Shared->Cu,wpAny_pure->CC,FuncData->CP,Program->CQ,World->D4,wpAny_field->D6,Around->De,wpAny_seqItems->Du,wpAny_setField_rec->Dv,wpAny_callSpecial?_slot->DH,sizeLine_eq->DK,Spec->DV,wpAny_mono->DX,mem_of_lookup->Ed,wpAny_call_entry->En,wpAny_holding->Es,boot_len->Ey,wpAny_onRaise->EE,wpAny_setField->EF,wpAny_truthy_bool->EG,DictEntry->EI,wpAny_newObj_type->EJ,wpAny_isInstance->ES,wpAny_attempt->F8,NameKind->Fd,isSubtype_stop->Ff,Scope->Fh,IsZip->Fi,wpAny_Call_Name_kw->Fj,wpAny_pyIter_list->Fv,wpAny_letGo->FC,wpAny_comprehension_free->FJ,wpAny_passesOwn->FK,IsPair->FU,wpAny_rule->Ga,wpAny_pyIter_zip->Ge,wpAny_updateSeq_pair->Gm,wpAny_execs_nil->Gr,pushCells_keeps->Gw,codeAny_mono->GC,wpAny_newFunctionEnv_cells->GK,tupleKind_room_in1->GN,wpAny_letOwnedTupleGo_zip->GU,wpAny_standAt->Ha,wpAny_pyNext_list_item->Hr,wpAny_call->Hs,Keyword->Hu,codeAny_compStart_list->Hx,StrKeys->HA,Draws->HD,codeAny_call_function->HH,BindsTo->Ia,wpAny_isSubtype_exc->Ih,call_meets->Iw,wpAny_pyIter_ascii->Iz,slot_listiter_next->IE,Within->IH,wpAny_assign_Name->II,seqIndex_neg->IU,slot_list_getitem->IW,call_meetsIn->IX,wpAny_pyIter_wide->IY,wpAny_pyIter_enum->J4,wpAny_loadPart_at->J5,wpAny_execs_cons->J8,wpAny_getItem_of->Jc,seqIndex_of->Je,wpAny_specialOf->Jj,Builtin->Jm,Model->Jp,wpAny_Name->Jq,wpAny_loadPart->Js,typeIs_int->Ju,call->Jx,wpAny_newTuple->Jy,intBits_le_64->JN,evalPart_none->K1,call_list_seq->K7,eval_ListComp->K8,wpAny_handled->K9,Result->Kg,CellsOk->Ki,Operator->Kt,Params->KL
open PySem.Around renaming frames_deeper->HW,under->IP
open PySem.Builtin.List renaming listTooLong->F7
open PySem.Builtin.Range renaming rangeSize->Kd
open PySem.Builtin.SmallTypes renaming nextOf->CV,ownedTupleIsFree->Dd,ownedTupleHandOut->Ee
open PySem.Builtin.Str renaming occurrences->FV,tooLong->KA
open PySem.Calls renaming callWith_builtin->G3,evalArgs_plain->Gj,Name_function_global->GG,spliced_cons->GJ,spliced_nil->IS
open PySem.Challenge renaming rw_wornband_k44_whole_flips_on_the_loom->DM,pw_wornband_k44_whole_flips_on_the_loom->Gq
open PySem.Code renaming isFrame->IQ,frames->Ku
open PySem.Data renaming cell->Fq,fields->GW,seq->Hg
open PySem.EntryCells renaming newEntry->Ig
open PySem.EqMixed renaming eq_bool_str->JF,eq_str_bool->JG,ne_bool_str->JK,ne_str_bool->JL,eq_int_str->JR,eq_str_int->JT,ne_int_str->JY,ne_str_int->K0
open PySem.EqNone renaming eq_none_none->JC,eq_none_bool->JD,eq_bool_none->JE,ne_none_none->JH,ne_none_bool->JI,ne_bool_none->JJ,eq_none_int->JO,eq_none_str->JP,eq_int_none->JQ,eq_str_none->JS,ne_none_int->JU,ne_none_str->JW,ne_int_none->JX,ne_str_none->JZ
open PySem.F renaming slot_zip_next->DU,slot_tuple_iterator_next->Ew,args_zip_next_1->Fe,entry_zip_next->Fn,args_tuple_iterator_next_1->FT,entry_tuple_iterator_next->G0,slot_dict_get->G9,slot_dict_itemiterator_iter->Gn,excAttr_ValueError->GP,args_dict_get_3->He,plainAttrs_dict->Hf,plainAttrs_list->Hh,slot_dict_items->Hk,entry_dict_get->Hw,plainAttrs_str->Hz,slot_list_append->HI,slot_list_extend->HJ,entry_zip_new->HK,called_zip->IB,slot_int_rmul->Ji
open PySem.Heap renaming get?_push_of_some->Cs,lt_size->CD,get?_push_size->CF,SameBut->CT,size_push->Dj,get?_update_other->Dk,get?_update_self->DT,ExtBut->F4,get?_none_of_le->Gh
open PySem.Heap.DictOf renaming new->Lc
open PySem.Heap.IsSliceOf renaming new->KI
open PySem.Heap.Ns renaming new->Kv
open PySem.Heap.SameBut renaming update->FI
open PySem.Heap.SetOf renaming objOf->L8
open PySem.NameKind renaming free->DQ,cell->Ik
open PySem.Obj renaming mapFields->DE,data_mapFields->DZ,isFreed_of_fields->ED,mapSeq->GL,cls_mapFields->GY
open PySem.PassesOwn renaming never->E7
open PySem.PyData renaming keyHash->F5
open PySem.SeqAt.EqAt renaming int_str->KC,str_int->KD
open PySem.Str renaming ofString->Cv,empty->I9,length->KJ
open PySem.Txt renaming find->GO,mul->KW
open PySem.Value renaming ref->CO,none->Dq,int->GF,str->HZ,bool->Iq,float->Jd,isStrOf->JM,builtin->Kc,isInt->Kp,bytes->Ks,type->KG
open PySem.Value.ref renaming inj->Kb
open PySem.W renaming Frag->Cq,findIn->Cw,nsIn->CL,keepIn->CZ,mg_of->D0,mg_none_of->D7,fnOf->Dm,kitOne->Dp,codeIn->Dt,kia_one->DO,isFn->E9,emptyDict->Ef,instObj->EL,plainGet->Fc,cellsFrom_some->Fm,hasDictIn->Fw,callWith_K->FQ,InstAt->G1,plainOver->G2,OpenLaw->Gk,makesIn->Gs,plainGet_of->Gz,lookIn->GH,looks_findIn->GI,methodObj->GV,takerIn->HC,methodCall_KW->HG,codeRec_of->Iu,specialIn->IK,kitx_list->IL,kitx_dict->IM,handedIn->J9,takesIn->Jg,kitMeta->Jk,WalkO->Jl,notCls->Jz
open PySem.W.Looks renaming here->KH
open PySem.W.WData renaming int->L7
open PySem.W.WShape renaming has->KN
open PySem.Walks renaming list->KO
open PySem.Within renaming cons->KU
open Sum renaming inr->DF,inl->F9
open Sum.inl renaming inj->Kq
open Sum.inr renaming inj->Kr
open True renaming intro->F6
set_option Elab.async false
set_option linter.all false
set_option maxRecDepth 100000
namespace L2
open PySem PySem.Spec PyProof.Rows
abbrev Key:=Sum Int Str
def fK:Key->Cr->Bool
 | .inl k,v=>Kp k v
 | .inr x,v=>JM x v
def rD(w:D4):Key->Int
 | .inl k=>hashInt k
 | .inr x=>hashStr w x
theorem bK:∀{k:Key}{v:Cr},fK k v=true->(∃i t,k=F9 i/\v=GF i t)\/(∃x t,k=DF x/\v=HZ x t)
 | .inl i,v,h=>by
  obtain⟨t,e⟩:=Value.isInt_shape (k:=i) (v:=v) h;exact .inl ⟨i,t,rfl,e⟩
 | .inr x,v,h=>by
  obtain⟨t,e⟩:=Value.isStrOf_shape (x:=x) (v:=v) h;exact .inr ⟨x,t,rfl,e⟩
theorem fX(i:Int)(t:Tok):fK (.inl i) (.int i t)=true:=by simp[fK,Kp]
theorem ed(x:Str)(t:Tok):fK (.inr x) (.str x t)=true:=by simp[fK,JM]
theorem xy(a b:Int):decide ((F9 a:Key)=F9 b)=(a==b):=by
 by_cases e:a=b;·subst e;simp
 ·have h:¬(F9 a:Key)=F9 b:=fun q=>e<|Kq q;rw[decide_eq_false h];exact(beq_eq_false_iff_ne.mpr e).symm
theorem xA(a b:Str):decide ((DF a:Key)=DF b)=decide (a=b):=by
 by_cases e:a=b;·subst e;simp
 ·have h:¬(DF a:Key)=DF b:=fun q=>e<|Kr q;rw[decide_eq_false h,decide_eq_false e]
theorem xB(a:Int)(b:Str):decide ((F9 a:Key)=DF b)=false:=decide_eq_false (fun q=>nomatch q)
theorem xC(a:Str)(b:Int):decide ((DF a:Key)=F9 b)=false:=decide_eq_false (fun q=>nomatch q)
def bh(prog:CQ)(w:D4):PySem.KeyKind prog w Key where
 is:=fK
 hash:=rD w
 inj:=fun v a b ha hb=>by
  rcases bK ha with⟨i,t,rfl,rfl⟩|⟨x,t,rfl,rfl⟩
  ·rcases bK hb with⟨j,u,rfl,e⟩ | ⟨y,u,rfl,e⟩
   ·injection e with e1 _;rw[e1]
   ·exact nomatch e
  ·rcases bK hb with⟨j,u,rfl,e⟩ | ⟨y,u,rfl,e⟩
   ·exact nomatch e
   ·injection e with e1 _;rw[e1]
 byValue:=fun k v h=>by
  rcases bK h with⟨i,t,rfl,rfl⟩|⟨x,t,rfl,rfl⟩<;>rfl
 pyHash:=fun hv h=>by
  rcases bK hv with⟨i,t,rfl,rfl⟩|⟨x,t,rfl,rfl⟩
  ·exact wpAny_pyHash_int h
  ·exact wpAny_pyHash_str h
 eqBool:=fun hu hv h=>by
  rcases bK hu with⟨i,t,rfl,rfl⟩|⟨x,t,rfl,rfl⟩
  ·rcases bK hv with⟨j,u,rfl,rfl⟩ | ⟨y,u,rfl,rfl⟩
   ·rw[xy]at h;exact wpAny_eqBool_int h
   ·rw[xB]at h;exact KC i t y u _ _ _ _ h
  ·rcases bK hv with⟨j,u,rfl,rfl⟩ | ⟨y,u,rfl,rfl⟩
   ·rw[xC]at h;exact KD x t j u _ _ _ _ h
   ·rw[xA]at h;exact wpAny_eqBool_str h
 «strs»:=fun k x t v h=>by
  rcases bK h with⟨i,u,rfl,e⟩|⟨y,u,rfl,e⟩
  ·exact nomatch e
  ·injection e with e1 _;subst e1;cases v<;>rfl
theorem lN(prog:CQ)(w:D4)(i:Int)(t:Tok):(bh prog w).is (.inl i) (.int i t)=true:=fX i t
theorem lO(prog:CQ)(w:D4)(x:Str)(t:Tok):(bh prog w).is (.inr x) (.str x t)=true:=ed x t
inductive V where
 |non|bl (b:Bool)|int (i:Int)|str (x:Str)|byt (b:Array UInt8)|flt (b:UInt64)|ref (a:Addr)|ty (n:String)
 deriving DecidableEq
def RelV:V->Cr->Prop
 | .non,u=>u=Dq
 | .bl b,u=>u=Iq b
 | .int i,u=>∃t,u=GF i t
 | .str x,u=>∃t,u=HZ x t
 | .byt b,u=>∃t,u=Ks b t
 | .flt b,u=>∃t,u=Jd b t
 | .ref a,u=>u=CO a
 | .ty n,u=>u=KG n
abbrev Vals:List V->List Cr->Prop:=Paired RelV
theorem Vals.length{xs:List V}{us:List Cr}(r:Vals xs us):xs.length=us.length:=Paired.length r
theorem Vals.get:∀{xs:List V}{us:List Cr}{i:Nat}{x:V},Vals xs us->xs[i]? =some x->∃u,us[i]? =some u/\RelV x u
 |_,_,_,_,.nil,e=>by simp at e
 |_,_,0,_,.cons r _,e=>by simp at e;subst e;exact⟨_,rfl,r⟩
 |_,_,i+1,x, .cons _ t,e=>by
  obtain⟨u,h1,h2⟩:=Vals.get (i:=i) (x:=x) t (by simpa using e);exact⟨u,by simpa using h1,h2⟩
theorem Vals.set{x:V}{u:Cr}(r:RelV x u):∀{xs:List V}{us:List Cr}(i:Nat),Vals xs us->Vals (xs.set i x) (us.set i u)
 |_,_,_,.nil=>.nil
 |_,_,0,.cons _ t=>.cons r t
 |_,_,i+1,.cons q t=>.cons q<|Vals.set r i t
theorem Vals.append:∀{xs ys:List V}{us ws:List Cr},Vals xs us->Vals ys ws->Vals (xs++ys) (us++ws)
 |_,_,_,_,.nil,s=>s
 |_,_,_,_,.cons r t,s=>.cons r<|Vals.append t s
theorem Vals.take:∀{xs:List V}{us:List Cr}(n:Nat),Vals xs us->Vals (xs.take n) (us.take n)
 |_,_,0,_=>.nil
 |_,_,_+1,.nil=>.nil
 |_,_,n+1,.cons r t=>.cons r<|Vals.take n t
theorem Vals.drop:∀{xs:List V}{us:List Cr}(n:Nat),Vals xs us->Vals (xs.drop n) (us.drop n)
 |_,_,0,r=>r
 |_,_,_+1,.nil=>.nil
 |_,_,n+1,.cons _ t=>Vals.drop n t
def RelO:Option V->Option Cr->Prop
 |some v,some u=>RelV v u
 |none,none=>True
 |_,_=>False
def KV{κ:Type}:List (κ×V)->List (κ×Cr)->Prop:=Paired fun(p:κ×V)(q:κ×Cr)=>p.1=q.1/\RelV p.2 q.2
def kV:Key->V
 | .inl i=>.int i
 | .inr x=>.str x
inductive HO where
 |lst (xs:List V)
 |tup (xs:List V)
 |dK (kvs:List (Key×V))|dT (kvs:List (List Key×V))
 |set (S:Int->Bool) (n:Nat)
 |ins (C dx:Addr) (fs:List (Str×V))
 |own (x:Addr)
 |xd (fs:List (Str×V))
 |met (f x:Addr)
 |rng (lo hi:Int)
 |frz (o:Obj) (u:HO)
 |tbl (ps:Array Cr)
 |ext (φ:Heap->Prop)
abbrev Hp:=Addr->Option HO
def bP(H:Hp)(a:Addr)(o:HO):Hp:=fun b=>if b=a then some o else H b
theorem ai{H:Hp}{a:Addr}{o:HO}:bP H a o a=some o:=by unfold bP;rw[if_pos rfl]
theorem ag{H:Hp}{a b:Addr}{o:HO}(h:b≠a):bP H a o b=H b:=by unfold bP;rw[if_neg h]
theorem oo{H:Hp}{a:Addr}{o u:HO}:bP (bP H a o) a u=bP H a u:=by
 funext b;unfold bP;split<;>rfl
theorem z9{H:Hp}{a b:Addr}{o u:HO}(h:H a=some o)(h':H b=some u)(d:o≠u):a≠b:=by
 intro e;subst e;rw[h]at h';exact d<|Df h'
theorem bV{H:Hp}{a b:Addr}{o:HO}(h:H a=some o)(h':H b=none):a≠b:=by
 intro e;subst e;rw[h]at h';cases h'
def IsTupD(h:Heap)(a:Addr)(items:Array Cr):Prop:=∃o,h.get? a=some o/\(o.cls=.type "tuple"/\o.dict=none)/\∃n,o.data=.seq items n
theorem IsTupD.tup{h:Heap}{a:Addr}{items:Array Cr}(t:IsTupD h a items):KS h a items:=let ⟨o,e,c,n,d⟩:=t;⟨o,e,c.1,n,d⟩
section
variable(P:CQ)(w:D4)
def ObjOk(H:Hp)(h:Heap)(a:Addr):HO->Prop
 | .lst xs=>xs.length<=sizeLine/\∃(its:List Cr)(n:Nat),Vals xs its/\h.get? a=some {cls:=.type "list",data:=.seq its.toArray n}
 | .tup xs=>xs.length<=sizeLine/\∃its:List Cr,Vals xs its/\IsTupD h a its.toArray
 | .dK kvs=>kvs.length<=sizeLine/\(a==sysModules)=false/\∃vs,KV kvs vs/\h.DictOf (bh P w) a vs
 | .dT kvs=>kvs.length<=sizeLine/\(a == sysModules)=false/\∃xs:List (List Key×Addr×Cr),
   Paired (fun(p:List Key×V)(q:List Key×Addr×Cr)=>p.1=q.1/\H q.2.1=some (.tup<|p.1.map kV)/\RelV p.2 q.2.2) kvs xs/\
   ∃o es ep,h.get? a=some o/\o.ExactDict/\o.data=.dict es ep/\es.toList=xs.map (entryOfKey<|tupleKind<|bh P w)/\(xs.map (·.1)).Nodup
 | .set S n=>h.SetOf (intKind P w) a S n
 | .ins C dx fs=>H dx=some (.own a)/\fs.length<=1000/\dx≠a/\h.get? a=some (EL C dx)/\
   ∃mA,h.Ns1 dx mA/\(∀f,RelO (fs.lookup f)<|mA f)/\IH mA (fs.map (·.1))
 | .own _=>∃o,h.get? a=some o
 | .xd fs=>∃mA,h.Ns1 a mA/\∀f,RelO (fs.lookup f)<|mA f
 | .rng lo hi=>∃t u v,h.get? a=some {cls:=.type "range",data:=.fields #[.int lo t,.int hi u,.int 1 v]}
 | .frz o u=>h.get? a=some o/\ObjOk H h a u
 | .tbl ps=>h.get? a=some {cls:=.none,data:=.fields ps}
 | .met f x=>h.get? a=some (GV (.ref f)<|.ref x)
 | .ext φ=>φ h/\(∃o,h.get? a=some o)/\∀h1 h2:Heap,φ h1->(∀o,h1.get? a=some o->h2.get? a=some o)->φ h2
def HOk(H:Hp)(h:Heap):Prop:=∀a o,H a=some o->ObjOk P w H h a o
end
section
variable{P:CQ}{w:D4}{H H':Hp}{h h':Heap}{a:Addr}{o:HO}
theorem ObjOk.lt(x:ObjOk P w H h a o):a<h.objs.size:=by
 cases o with
 |lst xs=>obtain⟨_,_,_,_,e⟩:=x;exact CD e
 |tup xs=>obtain⟨_,_,_,p⟩:=x;exact p.tup.lt
 |dK kvs=>obtain⟨_,_,_,_,o,_,_,e,_⟩:=x;exact CD e
 |dT kvs=>obtain⟨_,_,_,_,o,_,_,e,_⟩:=x;exact CD e
 |set S n=>obtain⟨o,_,_,_,e,_⟩:=x;exact CD e
 |ins C dx fs=>obtain⟨_,_,_,e,_⟩:=x;exact CD e
 |own y=>obtain⟨_,e⟩:=x;exact CD e
 |xd fs=>obtain⟨_,⟨_,_,_,e,_⟩,_⟩:=x;exact CD e
 |rng lo hi=>obtain⟨_,_,_,e⟩:=x;exact CD e
 |frz ob u=>obtain⟨e,_⟩:=x;exact CD e
 |tbl ps=>exact CD (show h.get? a=some _ from x)
 |met f y=>exact CD (show h.get? a=some _ from x)
 |ext φ=>obtain⟨_,⟨_,e⟩,_⟩:=x;exact CD e
theorem Paired.mapP{α β:Type}{F G:α->β->Prop}:∀{l₁:List α}{l₂:List β},Paired F l₁ l₂->(∀a b,F a b->G a b)->Paired G l₁ l₂
 |_,_,.nil,_=>.nil
 |_,_,.cons r t,f=>.cons (f _ _ r)<|Paired.mapP t f
theorem ObjOk.stay(x:ObjOk P w H h a o)(k:∀b u,(b=a\/H b=some (.own a))->h.get? b=some u->h'.get? b=some u)
  (ho:∀b,H b=some (.own a)->H' b=some (.own a)) (ht:∀b xs,H b=some (.tup xs)->H' b=some (.tup xs)):ObjOk P w H' h' a o:=by
 induction o with
 |lst xs=>obtain⟨z,its,n,r,e⟩:=x;exact⟨z,its,n,r,k _ _ (.inl rfl) e⟩
 |tup xs=>obtain⟨z,its,r,ob,e,c⟩:=x;exact⟨z,its,r,ob,k _ _ (.inl rfl) e,c⟩
 |dK kvs=>obtain⟨z,y,vs,r,ob,es,ep,e,c⟩:=x;exact⟨z,y,vs,r,ob,es,ep,k _ _ (.inl rfl) e,c⟩
 |dT kvs=>
  obtain⟨z,y,xs,r,ob,es,ep,e,c⟩:=x;exact⟨z,y,xs,Paired.mapP r fun p q z=>⟨z.1,ht _ _ z.2.1,z.2.2⟩,ob,es,ep,k _ _ (.inl rfl) e,c⟩
 |set S n=>obtain⟨ob,es,ep,t,e,c⟩:=x;exact⟨ob,es,ep,t,k _ _ (.inl rfl) e,c⟩
 |ins C dx fs=>
  obtain⟨d,z,ne,e,mA,⟨od,es,ep,e2,c⟩,r⟩:=x;exact⟨ho _ d,z,ne,k _ _ (.inl rfl) e,mA,⟨od,es,ep,k _ _ (.inr d) e2,c⟩,r⟩
 |own y=>obtain⟨ob,e⟩:=x;exact⟨ob,k _ _ (.inl rfl) e⟩
 |xd fs=>obtain⟨mA,⟨od,es,ep,e,c⟩,r⟩:=x;exact⟨mA,⟨od,es,ep,k _ _ (.inl rfl) e,c⟩,r⟩
 |rng lo hi=>obtain⟨t,u,v,e⟩:=x;exact⟨t,u,v,k _ _ (.inl rfl) e⟩
 |frz ob u ih=>obtain⟨e,q⟩:=x;exact⟨k _ _ (.inl rfl) e,ih q⟩
 |tbl ps=>
  have e:h.get? a=some {cls:=.none,data:=.fields ps}:=x;show h'.get? a=some {cls:=.none,data:=.fields ps};exact k a _ (.inl rfl) e
 |met f y=>
  have e:h.get? a=some (GV (.ref f)<|.ref y):=x;show h'.get? a=some (GV (.ref f)<|.ref y);exact k a _ (.inl rfl) e
 |ext φ=>obtain⟨p,⟨o,e⟩,st⟩:=x;exact⟨st _ _ p fun o q=>k _ _ (.inl rfl) q,⟨o,k _ _ (.inl rfl) e⟩,st⟩
theorem HOk.lt(x:HOk P w H h)(e:H a=some o):a<h.objs.size:=(x a o e).lt
theorem HOk.fresh(x:HOk P w H h)(e:h.objs.size<=a):H a=none:=by
 cases q:H a with
 |none=>rfl
 |some u=>exact absurd (CA (x.lt q) e)<|Di _
theorem HOk.kept(x:HOk P w H h)(k:∀b u,h.get? b=some u->h'.get? b=some u):HOk P w H h':=fun a o e=>
 (x a o e).stay (fun b u _ q=>k b u q) (fun _ q=>q) fun _ _ q=>q
theorem HOk.laid(x:HOk P w H h)(k:∀b u,h.get? b=some u->h'.get? b=some u)(hp:h.objs.size<=a)(new:ObjOk P w (bP H a o) h' a o):HOk P w (bP H a o) h':=fun b u e=>by
 have hn:=x.fresh hp;by_cases hb:b=a;·subst hb;rw[ai]at e;cases e;exact new
 ·rw[ag hb]at e;exact(x b u e).stay (fun c v _ q=>k c v q) (fun c q=>by rw[ag<|bV q hn];exact q) fun c xs q=>by rw[ag<|bV q hn];exact q
end
def Rd(H:Hp)(a:Addr)(u:HO):Prop:=H a=some u\/∃o,H a=some (.frz o u)
theorem Rd.ok{P:CQ}{w:D4}{H:Hp}{h:Heap}{a:Addr}{u:HO}(r:Rd H a u)(x:HOk P w H h):ObjOk P w H h a u:=by
 rcases r with r|⟨o,r⟩
 ·exact x a u r
 ·obtain⟨_,q⟩:=x a _ r;exact q
def za:Option HO->Prop
 |some (.lst _)=>True
 |some (.dK _)=>True
 |some (.dT _)=>True
 |some (.set _ _)=>True
 |some (.ins _ _ _)=>True
 |some (.ext _)=>True
 |_=>False
section
variable{P:CQ}{w:D4}{H:Hp}{h h':Heap}{x e:Addr}{o':HO}
theorem HOk.write(ok:HOk P w H h)(mu:za (H x))(he:e=x\/H e=some (.own x))(k:∀b u,b≠e->h.get? b=some u->h'.get? b=some u)(heo:∃u,h'.get? e=some u)
  (new:ObjOk P w (bP H x o') h' x o'):HOk P w (bP H x o') h':=fun b u q=>by
 have nown:∀c y,H c=some (.own y)->c≠x:=fun c y r z=>by subst z;rw[r]at mu;exact mu
 have ntup:∀c xs,H c=some (.tup xs)->c≠x:=fun c xs r z=>by subst z;rw[r]at mu;exact mu
 by_cases hb:b=x;·subst hb;rw[ai]at q;cases q;exact new
 ·rw[ag hb]at q;by_cases hbe:b=e
  ·have q':H b=some (.own x):=by
    rcases he with z|z;·exact absurd (hbe.trans z) hb
    ·rw[hbe];exact z
   rw[q]at q';cases q';obtain⟨v,hv⟩:=heo;exact⟨v,by rw[hbe];exact hv⟩
  ·refine(ok b u q).stay (fun c v hc r=>k c v ?_ r) (fun c r=>by rw[ag<|nown c b r];exact r) fun c xs r=>by rw[ag<|ntup c xs r];exact r
   rcases hc with rfl|hc;·exact hbe
   ·rintro rfl;rcases he with z|z;·exact nown c b hc z
    ·rw[hc]at z;cases z;exact hb rfl
end
structure Un(fs ex:List Addr)(H H':Hp)(h h':Heap):Prop where
 keep:∀b o,h.get? b=some o->H b=none->b∉fs->b∉ex->h'.get? b=some o
 slot:∀b o,h.get? b=some o->H b=none->b∈fs->b∉ex->∃sl,h'.get? b=some {o with slots:=sl}
 free:∀b o,h.get? b=some o->H b=none->b∉ex->H' b=none
 there:∀b o,h.get? b=some o->b∉ex->∃o',h'.get? b=some o'
 tups:∀b xs,H b=some (.tup xs)->H' b=some (.tup xs)
 frzs:∀b o u,H b=some (.frz o u)->H' b=some (.frz o u)
 tbls:∀b ps,H b=some (.tbl ps)->∃more,H' b=some (.tbl<|ps++more)
section
variable{fs fs' ex ex':List Addr}{H H1 H2:Hp}{h h1 h2 h':Heap}{a x e:Addr}{o:HO}
theorem Un.any(u:Un fs ex H H1 h h1){b:Addr}{ob:Obj}(q:h.get? b=some ob)(n:H b=none)(hx:b∉ex):∃sl,h1.get? b=some {ob with slots:=sl}:=by
 by_cases hb:b∈fs;·exact u.slot b ob q n hb hx
 ·exact⟨ob.slots,u.keep b ob q n hb hx⟩
theorem Un.kept(k:∀b u,h.get? b=some u->h'.get? b=some u):Un fs ex H H h h':=
 ⟨fun b ob q _ _ _=>k b ob q,fun b ob q _ _ _=>⟨ob.slots,k b ob q⟩,fun _ _ _ n _=>n,fun b ob q _=>⟨ob,k b ob q⟩,fun _ _ q=>q,fun _ _ _ q=>q,fun _ ps q=>⟨#[],by rw[q];simp⟩⟩
theorem Un.refl:Un fs ex H H h h:=Un.kept fun _ _ q=>q
theorem Un.laid(k:∀b u,h.get? b=some u->h'.get? b=some u)(hp:h.objs.size<=a)(hn:H a=none):Un fs ex H (bP H a o) h h' where
 keep:=fun b u q _ _ _=>k b u q
 slot:=fun b u q _ _ _=>⟨u.slots,k b u q⟩
 free:=fun b u q n _=>by rw[ag<|CN<|CA (CD q) hp];exact n
 there:=fun b u q _=>⟨u,k b u q⟩
 tups:=fun b xs q=>by rw[ag<|bV q hn];exact q
 frzs:=fun b u xs q=>by rw[ag<|bV q hn];exact q
 tbls:=fun b ps q=>⟨#[],by rw[ag<|bV q hn,q];simp⟩
theorem Un.write(mu:za (H x))(he:e=x\/H e=some (.own x))(k:∀b u,b≠e->h.get? b=some u->h'.get? b=some u)(heo:∃u,h'.get? e=some u):Un fs ex H (bP H x o) h h':=by
 have hx:∀b,H b=none->b≠x:=fun b n z=>by subst z;rw[n]at mu;exact mu
 have hb:∀b,H b=none->b≠e:=fun b n z=>by
  subst z;rcases he with r|r
  ·exact hx b n r
  ·rw[n]at r;cases r
 have hm:∀b u,H b=some u->¬za (some u)->b≠x:=fun b u q nm z=>by subst z;rw[q]at mu;exact nm mu
 refine⟨fun b u q n _ _=>k b u (hb b n) q,fun b u q n _ _=>⟨u.slots,k b u (hb b n) q⟩,fun b u q n _=>by rw[ag<|hx b n];exact n,fun b u q _=>?_,
  fun b xs q=>by rw[ag (hm b _ q fun z=>z)];exact q,fun b u xs q=>by rw[ag (hm b _ q fun z=>z)];exact q,fun b ps q=>⟨#[],by rw[ag (hm b _ q fun z=>z),q];simp⟩⟩
 by_cases hbe:b=e;·subst hbe;exact heo
 ·exact⟨u,k b u hbe q⟩
end
def f9(h:Heap)(H:Hp):List Addr:=(EM h.objs.size).filter fun a=>(H a).isSome
def l4(h:Heap)(H:Hp):Heap:=PySem.W.hideAll h<|f9 h H
theorem pY(h:Heap)(H:Hp):(l4 h H).objs.size=h.objs.size:=PySem.W.hideAll_size _ _
theorem rE{h:Heap}{H:Hp}{b:Addr}{o:Obj}(e:h.get? b=some o)(n:H b=none):(l4 h H).get? b=some o:=
 PySem.W.hideAll_get _ e fun hm=>by
  have q:(H b).isSome=true:=(Jf.mp hm).2;rw[n]at q;simp at q
theorem vh{h:Heap}{H:Hp}{b:Addr}{o:Obj}(e:(l4 h H).get? b=some o):h.get? b=some o/\H b=none:=by
 have e':h.get? b=some o:=PySem.W.of_hideAll (f9 h H) e;refine⟨e',?_⟩;cases q:H b with
 |none=>rfl
 |some x=>
  have hm:b∈f9 h H:=Jf.mpr ⟨DN.mpr<|CD e',by simp[q]⟩;have z:(l4 h H).get? b=none:=PySem.W.hideAll_none (f9 h H) hm;rw[z]at e;cases e
structure Mod(K:Cq)(mg:Str->Option Cr)(base:Heap):Prop where
 kin:K.In base
 glob:base.Ns mainGlobals mg
 blt:∃mb,base.Ns builtinsNs mb/\∀x:Str,x≠"__name__"->mb x=bootBuiltins x
 nolimit:base.NoLimit
structure Cx where
 prog:CQ
 w:D4
 K:Cq
 mg:Str->Option Cr
 base:Heap
 A:De
 N:List Str
 s₀:Cu
 H₀:Hp
 env:Env
 outer:List Env
 stack:List Env
 ex:List Addr
 fn:Str->Bool
 calm:Bool
 pn:List (Addr×Obj)
 xe:Cr->Cu->Prop
def frs(l:List Env):List Addr:=l.filterMap (·.frame)
abbrev Cx.fs(X:Cx):List Addr:=frs X.outer
def Vis(sc:Fh)(x:Str):Prop:=sc.names.lookup x=some .local\/sc.names.lookup x=some .cell\/sc.names.lookup x=some .free
def xD(sc:Fh)(x:Str):Prop:=sc.names.lookup x=some .local\/sc.names.lookup x=some .cell
def Look(env:Env)(h:Heap)(m:Str->Option Cr)(x:Str)(u:Cr):Prop:=
 (env.kindOf x=some .local/\m x=some u)\/((env.kindOf x=some .cell\/env.kindOf x=some .free)/\∃c,env.cells.lookup x=some c/\h.IsCell c (some u))
structure Cx.Ok(X:Cx):Prop where
 mod:Mod X.K X.mg X.base
 kind:X.env.scope.kind=.function
 glob:X.env.globals=mainGlobals
 blt:X.env.builtins=builtinsNs
 above:X.s₀.heap.objs.size<=X.env.locals
 inj:∀x y c,X.env.cells.lookup x=some c->X.env.cells.lookup y=some c->x=y
 has:∀x,(X.env.kindOf x=some .cell\/X.env.kindOf x=some .free)->∃c,X.env.cells.lookup x=some c
 cab:∀x c,X.fn x=true->X.env.cells.lookup x=some c->X.s₀.heap.objs.size<=c
 hd:X.calm=true->X.A.handled=none
 frames:X.A.frames=some X.stack
 stk:X.stack=X.outer\/(X.stack=X.env::X.outer/\X.env.frame=some X.env.locals)
 exf:∀b∈X.ex,b≠X.env.locals/\∀x c,X.env.cells.lookup x=some c->c≠b
 bs:∀b o,X.base.get? b=some o->X.s₀.heap.get? b=some o/\X.H₀ b=none
 bsz:X.base.objs.size<=X.s₀.heap.objs.size
 noex:∀b o,X.base.get? b=some o->b∉X.ex
 exfs:∀b∈X.ex,b∉X.fs
 funs:X.s₀.heap.FunFrames X.base X.outer
 frf:∀b∈X.fs,X.H₀ b=none
structure Inv(X:Cx)(pins:List (Addr×Obj))(σ:List (Option V))(H:Hp)(s:Cu):Prop where
 ok:X.Ok
 os:s.os=X.s₀.os
 bare:GB s.gens
 base:Un X.fs X.ex X.H₀ H X.s₀.heap s.heap
 loc:∃m,s.heap.Ns X.env.locals m/\∀(i:Nat)(x:Str)(v:V),X.N[i]? =some x->σ[i]? =some (some v)->Vis X.env.scope x->∃u,RelV v u/\Look X.env s.heap m x u
 cell:∀x c,X.env.cells.lookup x=some c->∃v,s.heap.IsCell c v
 free:H X.env.locals=none
 freeC:∀x c,X.env.cells.lookup x=some c->H c=none
 pin:∀p∈X.pn++pins,s.heap.get? p.1=some p.2/\H p.1=none/\p.1≠X.env.locals/\p.1∉X.fs/\∀v,p.2.data≠.cell v
 hok:HOk X.prog X.w H s.heap
 len:σ.length=X.N.length
section
variable{X:Cx}{pins:List (Addr×Obj)}{σ:List (Option V)}{H H':Hp}{s:Cu}{h':Heap}
theorem Cx.Ok.nofr(ok:X.Ok){b:Addr}{o:Obj}(e:X.base.get? b=some o):b∉X.fs:=fun hb=>by
 have:=(ok.funs.mem hb).1;rw[e]at this;cases this
theorem Inv.bs(I:Inv X pins σ H s):∀b o,X.base.get? b=some o->s.heap.get? b=some o/\H b=none:=fun b o e=>
 ⟨I.base.keep b o (I.ok.bs b o e).1 (I.ok.bs b o e).2 (I.ok.nofr e) (I.ok.noex b o e),I.base.free b o (I.ok.bs b o e).1 (I.ok.bs b o e).2 (I.ok.noex b o e)⟩
theorem Inv.bk(I:Inv X pins σ H s):∀b o,X.base.get? b=some o->s.heap.get? b=some o:=fun b o e=>(I.bs b o e).1
theorem Inv.mod(I:Inv X pins σ H s):Mod X.K X.mg X.base:=I.ok.mod
theorem Inv.kIn(I:Inv X pins σ H s):X.K.In s.heap:=I.ok.mod.kin.keeps I.bk
theorem Inv.lt(I:Inv X pins σ H s):X.env.locals<s.heap.objs.size:=let ⟨_,hn,_⟩:=I.loc;hn.lt
theorem Inv.sz(I:Inv X pins σ H s):X.s₀.heap.objs.size<=s.heap.objs.size:=Ei I.ok.above<|EY I.lt
theorem Inv.nofs(I:Inv X pins σ H s){a:Addr}(h:s.heap.objs.size<=a):a∉X.fs:=fun hb=>by
 obtain⟨_,o,ho,_⟩:=I.ok.funs.mem hb;exact absurd (CA (CD ho)<|Ei I.sz h)<|Di _
theorem Inv.cne(I:Inv X pins σ H s):∀x c,X.env.cells.lookup x=some c->c≠X.env.locals:=fun x c e z=>by
 obtain⟨v,o,ho,hd⟩:=I.cell x c e;obtain⟨m,⟨o',es,ep,ho',hd',_⟩,_⟩:=I.loc;rw[z,ho']at ho;cases ho;rw[hd']at hd;cases hd
theorem Inv.funs(I:Inv X pins σ H s):s.heap.FunFrames X.base X.outer:=by
 have all:∀(l:List Env),(∀b∈frs l,b∈X.fs)->X.s₀.heap.FunFrames X.base l->s.heap.FunFrames X.base l:=by
  intro l
  induction l with
  |nil=>intro _ _;trivial
  |cons env r ih=>
   intro hs hl;obtain⟨hk,⟨L,o,hf,hn,ho,hd⟩,hr⟩:=hl;have hL:L∈X.fs:=hs L (by unfold frs;rw[Fb,hf];exact CJ);obtain⟨sl,e⟩:=I.base.slot L o ho (I.ok.frf L hL) hL fun z=>I.ok.exfs L z hL;exact⟨hk,⟨L,_,hf,hn,e,hd⟩,ih (fun b hb=>hs b (by unfold frs;rw[Fb,hf];exact CG _ hb)) hr⟩
 exact all X.outer (fun _ hb=>hb) I.ok.funs
theorem Inv.stack(I:Inv X pins σ H s):s.heap.FunFrames X.base X.stack:=by
 rcases I.ok.stk with e|⟨e,hf⟩
 ·rw[e];exact I.funs
 ·rw[e];obtain⟨m,hn,_⟩:=I.loc;refine .cons (by rw[I.ok.kind];decide) hf hn ?_ I.funs;exact Gh<|Ei I.ok.bsz I.ok.above
theorem Inv.stkSub(I:Inv X pins σ H s):∀b∈frs X.stack,b∈X.env.locals::X.fs:=fun b hb=>by
 rcases I.ok.stk with e|⟨e,hf⟩
 ·rw[e]at hb;exact CG _ hb
 ·rw[e]at hb;unfold frs at hb;rw[Fb,hf]at hb;exact hb
theorem Inv.stkFree(I:Inv X pins σ H s):∀b∈frs X.stack,H b=none:=fun b hb=>by
 rcases CM.mp (I.stkSub b hb)with e|hb;·rw[e];exact I.free
 ·obtain⟨_,o,ho,_⟩:=I.ok.funs.mem hb;exact I.base.free b o ho (I.ok.frf b hb) fun z=>I.ok.exfs b z hb
theorem Inv.step{g':Array GenState}{t':Nat}{d':Drawn}{ch:List Addr}(I:Inv X pins σ H s)
  (hch:∀b∈ch,(b∈X.ex\/X.s₀.heap.objs.size<=b)/\b≠X.env.locals/\(∀x c,X.env.cells.lookup x=some c->c≠b)/\∀p∈X.pn++pins,p.1≠b)
  (keep:∀b o,b≠X.env.locals->b∉X.fs->b∉ch->s.heap.get? b=some o->H b=none->h'.get? b=some o)
  (slot:∀b o,b≠X.env.locals->b∈X.fs->b∉ch->s.heap.get? b=some o->H b=none->∃sl,h'.get? b=some {o with slots:=sl}) (free:∀b o,b∉ch->s.heap.get? b=some o->H b=none->H' b=none)
  (there:∀b o,b∉ch->s.heap.get? b=some o->∃o',h'.get? b=some o')
  (tups:∀b xs,H b=some (.tup xs)->H' b=some (.tup xs)) (frzs:∀b o u,H b=some (.frz o u)->H' b=some (.frz o u)) (tbls:∀b ps,H b=some (.tbl ps)->∃more,H' b=some (.tbl<|ps++more))
  (ns:∀m,s.heap.Ns X.env.locals m->h'.Ns X.env.locals m) (hok:HOk X.prog X.w H' h') (hg:GB g'):
  Inv X pins σ H' {s with heap:=h',gens:=g',drawn:=d',toks:=t'}:=by
 have neL:∀b o,X.s₀.heap.get? b=some o->b≠X.env.locals:=fun b o e=>CN<|CA (CD e) I.ok.above;have neC:∀b o,X.s₀.heap.get? b=some o->b∉X.ex->b∉ch:=fun b o e hx hb=>by
  rcases (hch b hb).1 with z|z;·exact hx z
  ·exact absurd (CA (CD e) z)<|Di _
 have cellK:∀x c,X.env.cells.lookup x=some c->∀v,s.heap.IsCell c v->h'.IsCell c v:=fun x c e v⟨o,ho,hd⟩=>by
  have nch:c∉ch:=fun z=>(hch c z).2.2.1 x c e rfl;by_cases hc:c∈X.fs
  ·obtain⟨sl,q⟩:=slot c o (I.cne x c e) hc nch ho<|I.freeC x c e;exact⟨_,q,hd⟩
  ·exact⟨o,keep c o (I.cne x c e) hc nch ho<|I.freeC x c e,hd⟩
 refine⟨I.ok,I.os,hg,⟨fun b o e n hb hx=>?_,fun b o e n hb hx=>?_,fun b o e n hx=>?_,fun b o e hx=>?_,fun b xs e=>tups b xs<|I.base.tups b xs e,fun b o xs e=>frzs b o xs<|I.base.frzs b o xs e,fun b ps e=>?_⟩,?_,fun x c e=>?_,?_,fun x c e=>?_,fun p hp=>?_,hok,I.len⟩;·exact keep b o (neL b o e) hb (neC b o e hx) (I.base.keep b o e n hb hx)<|I.base.free b o e n hx
 ·obtain⟨sl,e1⟩:=I.base.slot b o e n hb hx;obtain⟨sl',e2⟩:=slot b _ (neL b o e) hb (neC b o e hx) e1<|I.base.free b o e n hx;exact⟨sl',e2⟩
 ·obtain⟨o',e1⟩:=I.base.there b o e hx;exact free b o' (neC b o e hx) e1<|I.base.free b o e n hx
 ·obtain⟨o',e1⟩:=I.base.there b o e hx;exact there b o' (neC b o e hx) e1
 ·obtain⟨m1,e1⟩:=I.base.tbls b ps e;obtain⟨m2,e2⟩:=tbls b _ e1;exact⟨m1++m2,by rw[e2,Array.append_assoc]⟩
 ·obtain⟨m,hn,hl⟩:=I.loc;refine⟨m,ns m hn,fun i x v e1 e2 e3=>?_⟩;obtain⟨u,r,l⟩:=hl i x v e1 e2 e3;refine⟨u,r,?_⟩;rcases l with l|⟨k,c,e,z⟩
  ·exact .inl l
  ·exact .inr ⟨k,c,e,cellK x c e _ z⟩
 ·obtain⟨v,z⟩:=I.cell x c e;exact⟨v,cellK x c e v z⟩
 ·obtain⟨m,⟨o,_,_,ho,_⟩,_⟩:=I.loc;exact free _ o (fun z=>(hch _ z).2.1 rfl) ho I.free
 ·obtain⟨v,o,ho,hd⟩:=I.cell x c e;exact free c o (fun z=>(hch c z).2.2.1 x c e rfl) ho<|I.freeC x c e
 ·obtain⟨e,n,ne,nf,d⟩:=I.pin p hp;have nch:p.1∉ch:=fun z=>(hch p.1 z).2.2.2 p hp rfl;exact⟨keep p.1 p.2 ne nf nch e n,free p.1 p.2 nch e n,ne,nf,d⟩
theorem Inv.un{t':Nat}(I:Inv X pins σ H s)(u:Un X.fs [] H H' s.heap h')(hok:HOk X.prog X.w H' h'):Inv X pins σ H' {s with heap:=h',toks:=t'}:=by
 obtain⟨m,⟨o,es,ep,ho,r⟩,_⟩:=id I.loc;obtain⟨sl,hL⟩:=u.any ho I.free (by simp);exact I.step (g':=s.gens) (d':=s.drawn) (ch:=[]) (fun _ z=>nomatch z) (fun b o _ hb _ e n=>u.keep b o e n hb (by simp)) (fun b o _ hb _ e n=>u.slot b o e n hb (by simp)) (fun b o _ e n=>u.free b o e n (by simp)) (fun b o _ e=>u.there b o e (by simp)) u.tups u.frzs u.tbls (fun m' hm=>by
  obtain⟨o',es',ep',ho',r'⟩:=hm;rw[ho]at ho';cases ho';exact⟨_,es',ep',hL,r'⟩) hok I.bare
theorem Inv.call{g':Array GenState}{t':Nat}{d':Drawn}{ch:List Addr}(I:Inv X pins σ H s)(u:Un (frs X.stack) ch H H' s.heap h')(hok:HOk X.prog X.w H' h')(hg:GB g')
  (hch:∀b∈ch,(b∈X.ex\/X.s₀.heap.objs.size<=b)/\b≠X.env.locals/\(∀x c,X.env.cells.lookup x=some c->c≠b)/\∀p∈X.pn++pins,p.1≠b):
  Inv X pins σ H' {s with heap:=h',gens:=g',drawn:=d',toks:=t'}:=by
 obtain⟨m,⟨o,es,ep,ho,r⟩,_⟩:=id I.loc;obtain⟨sl,hL⟩:=u.any ho I.free fun z=>(hch _ z).2.1 rfl;exact I.step (ch:=ch) hch (fun b o hL hb hc e n=>u.keep b o e n (fun z=>(CM.mp<|I.stkSub b z).elim hL hb) hc) (fun b o _ _ hc e n=>u.any e n hc) (fun b o hc e n=>u.free b o e n hc) (fun b o hc e=>u.there b o e hc) u.tups u.frzs u.tbls (fun m' hm=>by
  obtain⟨o',es',ep',ho',r'⟩:=hm;rw[ho]at ho';cases ho';exact⟨_,es',ep',hL,r'⟩) hok hg
theorem Inv.turned{t':Nat}{it:Addr}(I:Inv X pins σ H s)(k:∀b o,b≠it->s.heap.get? b=some o->h'.get? b=some o)(hn:H it=none)(hL:it≠X.env.locals)
  (h1:it∈X.ex\/X.s₀.heap.objs.size<=it) (h2:∀x c,X.env.cells.lookup x=some c->c≠it) (h3:∀p∈X.pn++pins,p.1≠it):Inv X pins σ H {s with heap:=h',toks:=t'}:=by
 have nit:∀b u,H b=some u->b≠it:=fun b u e z=>by rw[z,hn]at e;cases e
 refine I.step (g':=s.gens) (d':=s.drawn) (ch:=[it]) (fun b hb=>?_) (fun b o _ _ hc e _=>k b o (fun z=>hc (by simp[z])) e) (fun b o _ _ hc e _=>⟨o.slots,k b o (fun z=>hc (by simp[z])) e⟩) (fun _ _ _ _ n=>n)
  (fun b o hc e=>⟨o,k b o (fun z=>hc (by simp[z])) e⟩) (fun _ _ e=>e) (fun _ _ _ e=>e) (fun b ps e=>⟨#[],by rw[e];simp⟩) (fun m hm=>?_) (fun b u e=>?_) I.bare
 ·have e:b=it:=by simpa using hb
  subst e;exact⟨h1,hL,h2,h3⟩
 ·obtain⟨o,es,ep,ho,r⟩:=hm;exact⟨o,es,ep,k _ o (E8 hL) ho,r⟩
 ·refine(I.hok b u e).stay (fun c v hc q=>k c v ?_ q) (fun _ q=>q) fun _ _ q=>q;rcases hc with z|z
  ·rw[z];exact nit b u e
  ·exact nit c _ z
theorem Inv.tok(I:Inv X pins σ H s)(t:Nat):Inv X pins σ H {s with toks:=t}:=I.un (h':=s.heap) (t':=t) Un.refl I.hok
theorem Inv.kept{t':Nat}(I:Inv X pins σ H s)(k:∀b u,s.heap.get? b=some u->h'.get? b=some u):Inv X pins σ H {s with heap:=h',toks:=t'}:=I.un (Un.kept k)<|I.hok.kept k
theorem Inv.laid{a:Addr}{o:HO}{t':Nat}(I:Inv X pins σ H s)(k:∀b u,s.heap.get? b=some u->h'.get? b=some u)(hp:s.heap.objs.size<=a)(new:ObjOk X.prog X.w (bP H a o) h' a o):
  Inv X pins σ (bP H a o) {s with heap:=h',toks:=t'}:=I.un (Un.laid k hp<|I.hok.fresh hp)<|I.hok.laid k hp new
theorem Inv.write{x e:Addr}{o:HO}{t':Nat}(I:Inv X pins σ H s)(mu:za (H x))(he:e=x\/H e=some (.own x))(k:∀b u,b≠e->s.heap.get? b=some u->h'.get? b=some u)(heo:∃u,h'.get? e=some u)
  (new:ObjOk X.prog X.w (bP H x o) h' x o):Inv X pins σ (bP H x o) {s with heap:=h',toks:=t'}:=I.un (Un.write mu he k heo)<|I.hok.write mu he k heo new
theorem Inv.weak{σ':List (Option V)}(I:Inv X pins σ H s)(hl:σ'.length=σ.length)(w:∀(i:Nat)v,σ'[i]? =some (some v)->σ[i]? =some (some v)):Inv X pins σ' H s:=
 ⟨I.ok,I.os,I.bare,I.base,let ⟨m,hn,hl'⟩:=I.loc;⟨m,hn,fun i x v e1 e2 e3=>hl' i x v e1 (w i v e2) e3⟩,I.cell,I.free,I.freeC,I.pin,I.hok,hl.trans I.len⟩
theorem Inv.pins_of{pins':List (Addr×Obj)}(I:Inv X pins σ H s)(h:∀p∈pins',s.heap.get? p.1=some p.2/\H p.1=none/\p.1≠X.env.locals/\p.1∉X.fs/\∀v,p.2.data≠.cell v):Inv X pins' σ H s:=
 ⟨I.ok,I.os,I.bare,I.base,I.loc,I.cell,I.free,I.freeC,fun p hp=>(E3.mp hp).elim (fun z=>I.pin p<|DW _ z) (h p),I.hok,I.len⟩
theorem jb{N:List Str}(hN:N.Nodup){i j:Nat}{x:Str}(a:N[i]? =some x)(b:N[j]? =some x):i=j:=by
 obtain⟨h1,e1⟩:=Cy.mp a;obtain⟨h2,e2⟩:=Cy.mp b;exact(List.getElem_inj hN).mp (e1.trans e2.symm)
theorem jZ{M:Jp}{A:De}{E:Cr->Cu->Prop}{i:Nat}{x:Str}{v:V}{u:Cr}{Q:Unit->Cu->Prop}(I:Inv X pins σ H s)(hN:X.N.Nodup)(hi:X.N[i]? =some x)(hx:xD X.env.scope x)(r:RelV v u)
  (h:∀s',Inv X pins (σ.set i<|some v) H s'->(∃a,CT a s.heap s'.heap/\(a=X.env.locals\/X.env.cells.lookup x=some a))->Q () s') (hf:X.fn x=true\/X.env.scope.names.lookup x=some .local:=by first|exact .inl rfl|exact .inr rfl|assumption):wpAny M A (storeName X.env x u) Q E s:=by
 obtain⟨m,hn,hl⟩:=id I.loc;have hcls:(X.env.scope.kind== .class||(X.env.scope.kind== .module&&X.env.locals != X.env.globals))=false:=by rw[I.ok.kind];rfl
 have hiσ:i<σ.length:=by rw[I.len];exact(Cy.mp hi).1
 have cne:=I.cne;have tracked:∀{a:Addr}{h':Heap},(∃o,s.heap.get? a=some o/\H a=none)->CT a s.heap h'->HOk X.prog X.w H h':=fun{a h'}ha hs b ob e=>by
  obtain⟨_,_,hfree⟩:=ha;refine(I.hok b ob e).stay (fun c w' hc q=>(hs.2 c ?_).trans q) (fun _ q=>q) fun _ _ q=>q;rintro rfl;rcases hc with rfl|hc
  ·rw[hfree]at e;cases e
  ·rw[hfree]at hc;cases hc
 rcases hx with hk|hk
 ·refine wpAny_storeName_local hk hn (fun h' hn' hs=>?_) hcls;obtain⟨oL,_,_,hoL,_⟩:=id hn;refine h _ ⟨I.ok,I.os,I.bare,⟨fun b o e n hb hx=>?_,fun b o e n hb hx=>?_,I.base.free,fun b o e hx=>?_,I.base.tups,I.base.frzs,I.base.tbls⟩,⟨_,hn',fun j y v' e1 e2 e3=>?_⟩,fun y c e=>?_,I.free,I.freeC,fun p hp=>?_,tracked ⟨oL,hoL,I.free⟩ hs,by simpa using I.len⟩ ⟨_,hs,.inl rfl⟩;·exact(hs.2 b<|CN<|CA (CD e) I.ok.above).trans (I.base.keep b o e n hb hx)
  ·obtain⟨sl,e1⟩:=I.base.slot b o e n hb hx;exact⟨sl,(hs.2 b<|CN<|CA (CD e) I.ok.above).trans e1⟩
  ·obtain⟨o',e1⟩:=I.base.there b o e hx;exact⟨o',(hs.2 b<|CN<|CA (CD e) I.ok.above).trans e1⟩
  ·by_cases hj:j=i
   ·subst hj;rw[hi]at e1;cases e1;rw[EO hiσ]at e2;cases e2;exact⟨u,r,.inl ⟨hk,by simp⟩⟩
   ·rw[Fz<|E8 hj]at e2;obtain⟨u',r',q⟩:=hl j y v' e1 e2 e3;refine⟨u',r',?_⟩;rcases q with⟨k,e⟩|⟨k,c,e,z⟩
    ·refine .inl ⟨k,?_⟩;have:y≠x:=fun e=>hj<|jb hN e1<|e▸hi;simp[this,e]
    ·exact .inr ⟨k,c,e,z.sameBut hs<|cne y c e⟩
  ·obtain⟨w',z⟩:=I.cell y c e;exact⟨w',z.sameBut hs<|cne y c e⟩
  ·obtain⟨e,n,ne,nf,d⟩:=I.pin p hp;exact⟨(hs.2 p.1 ne).trans e,n,ne,nf,d⟩
 ·have hfn:X.fn x=true:=by
   rcases hf with z|z;·exact z
   ·rw[z]at hk;cases hk
  obtain⟨c,hc⟩:=I.ok.has x<|.inl hk;obtain⟨w',z⟩:=I.cell x c hc;refine wpAny_storeName_cell I.ok.kind hk hc z<|fun h' hc' hs=>?_;obtain⟨oc,hoc,hocd⟩:=id z;refine h {s with heap:=h'} ⟨I.ok,I.os,I.bare,⟨fun b o e n hb hx=>?_,fun b o e n hb hx=>?_,I.base.free,fun b o e hx=>?_,I.base.tups,I.base.frzs,I.base.tbls⟩,⟨m,hn.sameBut hs<|E8<|cne x c hc,fun j y v' e1 e2 e3=>?_⟩,fun y c' e=>?_,I.free,I.freeC,fun p hp=>?_,tracked ⟨oc,hoc,I.freeC x c hc⟩ hs,by simpa using I.len⟩ ⟨c,hs,.inr hc⟩;·exact(hs.2 b<|CN<|CA (CD e)<|I.ok.cab x c hfn hc).trans (I.base.keep b o e n hb hx)
  ·obtain⟨sl,e1⟩:=I.base.slot b o e n hb hx;exact⟨sl,(hs.2 b<|CN<|CA (CD e)<|I.ok.cab x c hfn hc).trans e1⟩
  ·obtain⟨o',e1⟩:=I.base.there b o e hx;exact⟨o',(hs.2 b<|CN<|CA (CD e)<|I.ok.cab x c hfn hc).trans e1⟩
  ·by_cases hj:j=i
   ·subst hj;rw[hi]at e1;cases e1;rw[EO hiσ]at e2;cases e2;exact⟨u,r,.inr ⟨.inl hk,c,hc,hc'⟩⟩
   ·rw[Fz<|E8 hj]at e2;obtain⟨u',r',q⟩:=hl j y v' e1 e2 e3;refine⟨u',r',?_⟩;rcases q with q|⟨k,c',e,z'⟩
    ·exact .inl q
    ·refine .inr ⟨k,c',e,z'.sameBut hs ?_⟩;rintro rfl;exact hj<|jb hN e1<|I.ok.inj _ _ _ e hc▸hi
  ·by_cases hcc:c'=c;·subst hcc;exact⟨_,hc'⟩
   ·obtain⟨w2,z2⟩:=I.cell y c' e;exact⟨w2,z2.sameBut hs hcc⟩
  ·obtain⟨e,n,ne,nf,d⟩:=I.pin p hp;refine⟨(hs.2 p.1 ?_).trans e,n,ne,nf,d⟩;intro q;rw[q,hoc]at e;have q':oc=p.2:=Df e;exact d w' (by rw[<-q'];exact hocd)
theorem jc{M:Jp}{A:De}{E:Cr->Cu->Prop}{i:Nat}{x:Str}{v:V}{u:Cr}{Q:Unit->Cu->Prop}(I:Inv X pins σ H s)(hN:X.N.Nodup)(hi:X.N[i]? =some x)(hx:xD X.env.scope x)(r:RelV v u)
  (h:∀s',Inv X pins (σ.set i<|some v) H s'->Q () s') (hf:X.fn x=true\/X.env.scope.names.lookup x=some .local:=by first|exact .inl rfl|exact .inr rfl|assumption):wpAny M A (storeName X.env x u) Q E s:=
 jZ I hN hi hx r (fun s' I' _=>h s' I') hf
theorem Inv.call'{s':Cu}{ch:List Addr}(I:Inv X pins σ H s)(ho:s'.os=s.os)(u:Un (frs X.stack) ch H H' s.heap s'.heap)(hok:HOk X.prog X.w H' s'.heap)(hg:GB s'.gens)
  (hch:∀b∈ch,(b∈X.ex\/X.s₀.heap.objs.size<=b)/\b≠X.env.locals/\(∀x c,X.env.cells.lookup x=some c->c≠b)/\∀p∈X.pn++pins,p.1≠b):Inv X pins σ H' s':=by
 obtain⟨h',g',d',t',o'⟩:=s';have e:o'=s.os:=ho;subst e;exact I.call (g':=g') (t':=t') (d':=d') u hok hg hch
end
abbrev XK:=Cr->Option Addr->Hp->Prop
abbrev St:=List<|Option V
abbrev VK:=V->Hp->Prop
abbrev TE:=St->Hp->VK->Prop
abbrev TT:=St->Hp->(Bool->Hp->Prop)->Prop
abbrev TA:=St->Hp->(List V->Hp->Prop)->Prop
structure Ends where
 nx:St->Hp->Prop
 rt:VK
 bk:St->Hp->Prop:=fun _ _=>False
 ct:St->Hp->Prop:=fun _ _=>False
abbrev TS:=Ends->St->Hp->Prop
def EP(X:Cx)(pins:List (Addr×Obj))(σ:St)(Q:VK)(u:Cr)(s':Cu):Prop:=∃v H',Inv X pins σ H' s'/\RelV v u/\Q v H'
def TP(X:Cx)(pins:List (Addr×Obj))(σ:St)(Q:Bool->Hp->Prop)(b:Bool)(s':Cu):Prop:=∃H',Inv X pins σ H' s'/\Q b H'
def AP(X:Cx)(pins:List (Addr×Obj))(σ:St)(Q:List V->Hp->Prop)(us:List Cr)(s':Cu):Prop:=∃vs H',Inv X pins σ H' s'/\Vals vs us/\Q vs H'
def SP(X:Cx)(pins:List (Addr×Obj))(D:Ends)(f:Flow)(s':Cu):Prop:=
 match f with
 | .next=>∃σ' H',Inv X pins σ' H' s'/\D.nx σ' H'
 | .brk=>∃σ' H',Inv X pins σ' H' s'/\D.bk σ' H'
 | .cont=>∃σ' H',Inv X pins σ' H' s'/\D.ct σ' H'
 | .ret u=>∃v σ' H',Inv X pins σ' H' s'/\RelV v u/\D.rt v H'
def PE(X:Cx)(e:Expr)(t:TE):Prop:=
 ∀(pins:List (Addr×Obj))(s:Cu)(σ:St)(H:Hp)(Q:VK),Inv X pins σ H s->t σ H Q->wpAny (model X.prog X.w) X.A (eval e X.env) (EP X pins σ Q) X.xe s
def PT(X:Cx)(e:Expr)(t:TT):Prop:=
 ∀(pins:List (Addr×Obj))(s:Cu)(σ:St)(H:Hp)(Q:Bool->Hp->Prop),Inv X pins σ H s->t σ H Q->wpAny (model X.prog X.w) X.A (isTrue e X.env<|eval e X.env) (TP X pins σ Q) X.xe s
def PW(X:Cx)(e:Expr)(t:TT):Prop:=
 ∀(whole:Sem Cr)(pins:List (Addr×Obj))(s:Cu)(σ:St)(H:Hp)(Q:Bool->Hp->Prop),Inv X pins σ H s->t σ H Q->wpAny (model X.prog X.w) X.A (isTrue e X.env whole) (TP X pins σ Q) X.xe s
theorem PW.pt{X:Cx}{e:Expr}{t:TT}(h:PW X e t):PT X e t:=h _
def PA(X:Cx)(es:List Expr)(t:TA):Prop:=
 ∀(pos:Pos)(pins:List (Addr×Obj))(s:Cu)(σ:St)(H:Hp)(Q:List V->Hp->Prop),Inv X pins σ H s->t σ H Q->wpAny (model X.prog X.w) X.A (spliced<|backTo pos<|starEach es X.env) (AP X pins σ Q) X.xe s
def PS(X:Cx)(st:Stmt)(t:TS):Prop:=
 ∀(pins:List (Addr×Obj))(s:Cu)(σ:St)(H:Hp)(D:Ends),Inv X pins σ H s->t D σ H->wpAny (model X.prog X.w) X.A (exec st X.env) (SP X pins D) X.xe s
def PSs(X:Cx)(st:List Stmt)(t:TS):Prop:=
 ∀(pins:List (Addr×Obj))(s:Cu)(σ:St)(H:Hp)(D:Ends),Inv X pins σ H s->t D σ H->wpAny (model X.prog X.w) X.A (execs st X.env) (SP X pins D) X.xe s
theorem bL{α:Type}{t:Sem α}{Q Q':α->Cu->Prop}{M:Jp}{A:De}{E:Cr->Cu->Prop}{s:Cu}(h:wpAny M A t Q E s)(hQ:∀a s,Q a s->Q' a s):wpAny M A t Q' E s:=DX h hQ fun _ _ x=>x
section
variable{X:Cx}
def aU(i:Nat):TE:=fun σ H Q=>∃v,σ[i]? =some (some v)/\Q v H
def tC(v:V):TE:=fun _ H Q=>Q v H
theorem xE{i:Nat}{x:Str}{pos:Pos}(hN:X.N[i]? =some x)(hv:Vis X.env.scope x)(hd:(x==("__debug__" :Str))=false:=by decide)(hcd:(x==("__classdict__" :Str))=false:=by decide):PE X (.Name x pos) (aU i):=by
 intro pins s σ H Q I h;obtain⟨v,e,h⟩:=h;obtain⟨m,hn,hl⟩:=I.loc;obtain⟨u,r,l⟩:=hl i x v hN e hv;have fin:EP X pins σ Q u s:=⟨v,H,I,r,h⟩
 rcases l with⟨hk,hm⟩|⟨hk,c,hc,hcell⟩
 ·exact Jq (wpAny_loadName_local I.ok.kind hk hn hm fin) hd
 ·rcases hk with hk | hk;·exact Jq (wpAny_loadName_cell I.ok.kind hk hc hcell fin) hd
  ·exact Jq (wpAny_loadName_free I.ok.kind hk hc hcell fin hcd) hd
theorem af{i j pos}:PE X (.Constant (.int i) j pos) (tC<|.int i):=fun _ _ _ H _ I h=>wpAny_Constant_int ⟨.int i,H,I.tok _,⟨_,rfl⟩,h⟩
theorem fy{b j pos}:PE X (.Constant (.bool b) j pos) (tC<|.bl b):=fun _ _ _ H _ I h=>Constant_bool ⟨.bl b,H,I,rfl,h⟩
theorem i8{j pos}:PE X (.Constant .none j pos) (tC .non):=fun _ _ _ H _ I h=>Constant_none ⟨.non,H,I,rfl,h⟩
theorem aA{x j pos}:PE X (.Constant (.str x) j pos) (tC<|.str x):=fun _ _ _ H _ I h=>Calls.Constant_str ⟨.str x,H,I.tok _,⟨_,rfl⟩,h⟩
def Gl(X:Cx)(x:Str):Prop:=X.env.kindOf x=some .globalImplicit
theorem fY{E:Cr->Cu->Prop}{pins:List (Addr×Obj)}{s:Cu}{σ:St}{H:Hp}{x:Str}{u:Cr}{pos:Pos}{Q:Cr->Cu->Prop}(I:Inv X pins σ H s)(hg:Gl X x)(hm:X.mg x=some u)(h:Q u s)
  (hd:(x==("__debug__" :Str))=false:=by decide):wpAny (model X.prog X.w) X.A (eval (.Name x pos) X.env) Q E s:=
 GG I.ok.kind hg (Calls.loadGlobal_global (by rw[I.ok.glob];exact I.mod.glob.keeps I.bk) hm h) hd
theorem gC{E:Cr->Cu->Prop}{pins:List (Addr×Obj)}{s:Cu}{σ:St}{H:Hp}{x:Str}{u:Cr}{pos:Pos}{Q:Cr->Cu->Prop}(I:Inv X pins σ H s)(hg:Gl X x)(hm:X.mg x=none)(hv:bootBuiltins x=some u)(h:Q u s)
  (hn:x≠"__name__":=by decide) (hd:(x==("__debug__" :Str))=false:=by decide):wpAny (model X.prog X.w) X.A (eval (.Name x pos) X.env) Q E s:=by
 obtain⟨mb,h1,h2⟩:=I.mod.blt;exact GG I.ok.kind hg (Calls.loadGlobal_builtin (by rw[I.ok.glob];exact I.mod.glob.keeps I.bk) hm (by rw[I.ok.blt];exact h1.keeps I.bk) ((h2 x hn).trans hv) h) hd
theorem bf{x:Str}{v:V}{u:Cr}{pos:Pos}(hg:Gl X x)(hm:X.mg x=some u)(r:RelV v u)(hd:(x==("__debug__" :Str))=false:=by decide):PE X (.Name x pos) (tC v):=
 fun _ _ _ H _ I h=>fY I hg hm ⟨v,H,I,r,h⟩ hd
theorem cZ{x:Str}{v:V}{u:Cr}{pos:Pos}(hg:Gl X x)(hm:X.mg x=none)(hv:bootBuiltins x=some u)(r:RelV v u)(hn:x≠"__name__":=by decide)(hd:(x==("__debug__" :Str))=false:=by decide):PE X (.Name x pos) (tC v):=
 fun _ _ _ H _ I h=>gC I hg hm hv ⟨v,H,I,r,h⟩ hn hd
variable{a b:Expr}{ta tb:TE}{pos:Pos}
def tB(t:TE):TT:=fun σ H Q=>t σ H fun x H1=>∃c,x=.bl c/\Q c H1
theorem cC{e:Expr}{t:TE}(h:PE X e t)(he:∀whole,isTrue e X.env whole=(do let v <-whole;standAt e.pos;holding [v] (truthy v)):=by intro _;rfl):PT X e (tB t):=by
 intro pins s σ H Q I hw;refine isTrue_plain (bL (h pins s σ H _ I hw) fun v s1⟨x,H1,I1,r1,q1⟩=>?_)<|he _;obtain⟨d,rfl,q⟩:=q1;cases r1;exact EG ⟨H1,I1,q⟩
variable{tA tB':TT}{rest:List Expr}
def cD(t u:TT):TT:=fun σ H Q=>t σ H fun c H1=>if c=true then u σ H1 Q else Q false H1
def fF(t u:TT):TT:=fun σ H Q=>t σ H fun c H1=>if c=true then Q true H1 else u σ H1 Q
def cw(t:TT):TT:=fun σ H Q=>t σ H fun c H1=>Q (!c) H1
theorem iW(ha:PT X a tA):PW X (.BoolOp .And [a] pos) tA:=by
 intro wh pins s σ H Q I h;refine isTrue_and<|bL (ha pins s σ H Q I h) fun c s1 e=>?_;cases c with
 |true=>exact isTrue_and_nil e
 |false=>exact e
theorem ng(ha:PT X a tA):PW X (.BoolOp .Or [a] pos) tA:=by
 intro wh pins s σ H Q I h;refine isTrue_or<|bL (ha pins s σ H Q I h) fun c s1 e=>?_;cases c with
 |false=>exact isTrue_or_nil e
 |true=>exact e
theorem l5(ha:PT X a tA)(hb:PW X (.BoolOp .And (b::rest) pos) tB'):PW X (.BoolOp .And (a::b::rest) pos) (cD tA tB'):=by
 intro wh pins s σ H Q I h;refine isTrue_and<|bL (ha pins s σ H _ I h) fun c s1 zz=>?_;obtain⟨H1,I1,q1⟩:=zz;cases c with
 |true=>exact hb wh pins s1 σ H1 Q I1 q1
 |false=>exact⟨H1,I1,q1⟩
theorem oq(ha:PT X a tA)(hb:PW X (.BoolOp .Or (b::rest) pos) tB'):PW X (.BoolOp .Or (a::b::rest) pos) (fF tA tB'):=by
 intro wh pins s σ H Q I h;refine isTrue_or<|bL (ha pins s σ H _ I h) fun c s1 zz=>?_;obtain⟨H1,I1,q1⟩:=zz;cases c with
 |true=>exact⟨H1,I1,q1⟩
 |false=>exact hb wh pins s1 σ H1 Q I1 q1
theorem fj(ha:PT X a tA):PT X (.UnaryOp .Not a pos) (cw tA):=by
 intro pins s σ H Q I h;exact isTrue_not<|ha pins s σ H (fun c H1=>Q (!c) H1) I h
def bw(ta tb:TE):TE:=fun σ H Q=>ta σ H fun x H1=>∃c,x=.bl c/\if c=true then tb σ H1 Q else Q (.bl false) H1
def bx(ta:TE):TE:=fun σ H Q=>ta σ H fun x H1=>∃c,x=.bl c/\Q (.bl<|!c) H1
theorem l6{op}{t:TE}(h:PE X a t):PE X (.BoolOp op [a] pos) t:=fun pins s σ H Q I hw=>BoolOp_one<|h pins s σ H Q I hw
theorem jd(ha:PE X a ta)(hb:PE X (.BoolOp .And (b::rest) pos) tb):PE X (.BoolOp .And (a::b::rest) pos) (bw ta tb):=by
 intro pins s σ H Q I h;refine BoolOp_and<|bL (ha pins s σ H _ I h) fun v s1 zz=>?_;obtain⟨x,H1,I1,r1,q1⟩:=zz;obtain⟨c,rfl,q1⟩:=q1;cases r1;refine EG ?_;cases c with
 |true=>exact hb pins s1 σ H1 Q I1 q1
 |false=>exact⟨.bl false,H1,I1,rfl,q1⟩
theorem l7(ha:PE X a ta):PE X (.UnaryOp .Not a pos) (bx ta):=by
 intro pins s σ H Q I h;refine UnaryOp_<|bL (ha pins s σ H _ I h) fun v s1 zz=>?_;obtain⟨x,H1,I1,r1,q1⟩:=zz;obtain⟨c,rfl,q1⟩:=q1;cases r1;exact not_of<|EG ⟨.bl<|!c,H1,I1,rfl,q1⟩
def fG(t:TT)(ta tb:TE):TE:=fun σ H Q=>t σ H fun c H1=>if c=true then ta σ H1 Q else tb σ H1 Q
theorem gO{c:Expr}(hc:PT X c tA)(ha:PE X a ta)(hb:PE X b tb):PE X (.IfExp c a b pos) (fG tA ta tb):=by
 intro pins s σ H Q I h;refine wpAny_IfExp<|bL (hc pins s σ H _ I h) fun d s1 zz=>?_;obtain⟨H1,I1,q1⟩:=zz;cases d with
 |true=>exact ha pins s1 σ H1 Q I1 q1
 |false=>exact hb pins s1 σ H1 Q I1 q1
end
def SqL(K:Cq)(H:Hp)(a:Addr)(xs:List V):Prop:=
 Rd H a (.lst xs)\/
  ∃(o:Obj)(its:Array Cr)(n:Nat),K.lookup a=some o/\o.cls=.type "list"/\o.dict=none/\o.data=.seq its n/\its.size<=sizeLine/\Vals xs its.toList
def SqT(K:Cq)(H:Hp)(a:Addr)(xs:List V):Prop:=
 Rd H a (.tup xs)\/
  ∃(o:Obj)(its:Array Cr)(n:Nat),K.lookup a=some o/\(o.cls=.type "tuple"/\o.dict=none)/\o.data=.seq its n/\its.size<=sizeLine/\Vals xs its.toList
def AS:Cr->Option V
 | .none=>some .non
 | .bool b=>some<|.bl b
 | .int i _=>some<|.int i
 | .str x _=>some<|.str x
 | .bytes b _=>some<|.byt b
 | .float b _=>some<|.flt b
 | .ref a=>some<|.ref a
 | .type n=>some<|.ty n
 |_=>none
theorem RelV.abs{x:V}{u:Cr}(r:RelV x u):AS u=some x:=by
 cases x with
 |non=>cases r;rfl
 |bl _=>cases r;rfl
 |int _=>obtain⟨t,rfl⟩:=r;rfl
 |str _=>obtain⟨t,rfl⟩:=r;rfl
 |byt _=>obtain⟨t,rfl⟩:=r;rfl
 |flt _=>obtain⟨t,rfl⟩:=r;rfl
 |ref _=>cases r;rfl
 |ty _=>cases r;rfl
theorem RelV.inj{x y:V}{u:Cr}(r:RelV x u)(q:RelV y u):x=y:=Df<|r.abs.symm.trans q.abs
theorem Vals.inj:∀{xs ys:List V}{us:List Cr},Vals xs us->Vals ys us->xs=ys
 |_,_,_,.nil,.nil=>rfl
 |_,_,_,.cons r t,.cons r' t'=>by rw[r.inj r',Vals.inj t t']
section
variable{X:Cx}{pins:List (Addr×Obj)}{σ:St}{H:Hp}{s:Cu}{a:Addr}{xs ys:List V}
theorem SqL.of{K:Cq}(h:H a=some (.lst xs)):SqL K H a xs:=.inl<|.inl h
theorem SqT.of{K:Cq}(h:H a=some (.tup xs)):SqT K H a xs:=.inl<|.inl h
theorem Inv.list(I:Inv X pins σ H s)(h:SqL X.K H a xs):∃its:List Cr,Vals xs its/\PlainL s.heap a its.toArray/\xs.length<=sizeLine:=by
 rcases h with h|⟨o,its,n,hk,hc,hd,hs,hz,r⟩
 ·obtain⟨z,its,n,r,e⟩:=h.ok I.hok;exact⟨its,r,⟨_,n,e,rfl,rfl,rfl⟩,z⟩
 ·refine⟨its.toList,r,⟨o,n,I.kIn a o hk,hc,hd,by simpa using hs⟩,?_⟩;have e:=r.length;simp only[Ic]at e;omega
theorem Inv.tuple(I:Inv X pins σ H s)(h:SqT X.K H a xs):∃its:List Cr,Vals xs its/\KS s.heap a its.toArray/\xs.length<=sizeLine:=by
 rcases h with h|⟨o,its,n,hk,hc,hs,hz,r⟩
 ·obtain⟨z,its,r,p⟩:=h.ok I.hok;exact⟨its,r,p.tup,z⟩
 ·refine⟨its.toList,r,⟨o,I.kIn a o hk,hc.1,n,by simpa using hs⟩,?_⟩;have e:=r.length;simp only[Ic]at e;omega
theorem Inv.list_inj(I:Inv X pins σ H s)(h:SqL X.K H a xs)(h':SqL X.K H a ys):xs=ys:=by
 obtain⟨its,r,⟨o,n,e,_,_,d⟩,_⟩:=I.list h;obtain⟨its',r',⟨o',n',e',_,_,d'⟩,_⟩:=I.list h';rw[e]at e';cases e';rw[d]at d';injection d' with d1 _;have:its=its':=by simpa using congrArg Kf d1
 subst this;exact r.inj r'
theorem Inv.tuple_inj(I:Inv X pins σ H s)(h:SqT X.K H a xs)(h':SqT X.K H a ys):xs=ys:=by
 obtain⟨its,r,⟨o,e,_,n,d⟩,_⟩:=I.tuple h;obtain⟨its',r',⟨o',e',_,n',d'⟩,_⟩:=I.tuple h';rw[e]at e';cases e';rw[d]at d';injection d' with d1 _;have:its=its':=by simpa using congrArg Kf d1
 subst this;exact r.inj r'
end
abbrev Cx.wish(X:Cx)(E:Cr->Cu->Prop):Cx:={X with xe:=E}
abbrev Cx.nox(X:Cx):Cx:=X.wish fun _ _=>False
theorem Cx.Ok.wish{X:Cx}(ok:X.Ok)(E:Cr->Cu->Prop):(X.wish E).Ok:=
 ⟨ok.mod,ok.kind,ok.glob,ok.blt,ok.above,ok.inj,ok.has,ok.cab,ok.hd,ok.frames,ok.stk,ok.exf,ok.bs,ok.bsz,ok.noex,ok.exfs,ok.funs,ok.frf⟩
theorem Cx.Ok.unwish{X:Cx}{E:Cr->Cu->Prop}(ok:(X.wish E).Ok):X.Ok:=
 ⟨ok.mod,ok.kind,ok.glob,ok.blt,ok.above,ok.inj,ok.has,ok.cab,ok.hd,ok.frames,ok.stk,ok.exf,ok.bs,ok.bsz,ok.noex,ok.exfs,ok.funs,ok.frf⟩
section
variable{X:Cx}{pins:List (Addr×Obj)}{σ:St}{H:Hp}{s:Cu}{E:Cr->Cu->Prop}
theorem Inv.wish(I:Inv X pins σ H s)(E:Cr->Cu->Prop):Inv (X.wish E) pins σ H s:=⟨I.ok.wish E,I.os,I.bare,I.base,I.loc,I.cell,I.free,I.freeC,I.pin,I.hok,I.len⟩
theorem Inv.unwish(I:Inv (X.wish E) pins σ H s):Inv X pins σ H s:=⟨I.ok.unwish,I.os,I.bare,I.base,I.loc,I.cell,I.free,I.freeC,I.pin,I.hok,I.len⟩
theorem SP.unwish{D:Ends}{f:Flow}{s':Cu}(h:SP (X.wish E) pins D f s'):SP X pins D f s':=by
 cases f with
 |next=>obtain⟨σ',H',I,q⟩:=h;exact⟨σ',H',I.unwish,q⟩
 |brk=>obtain⟨σ',H',I,q⟩:=h;exact⟨σ',H',I.unwish,q⟩
 |cont=>obtain⟨σ',H',I,q⟩:=h;exact⟨σ',H',I.unwish,q⟩
 |ret u=>obtain⟨v,σ',H',I,r,q⟩:=h;exact⟨v,σ',H',I.unwish,r,q⟩
theorem PSs.nox{st:List Stmt}{t:TS}(h:PSs X.nox st t):PSs X st t:=fun pins s σ H D I hw=>
 DX (h pins s σ H D (I.wish _) hw) (fun _ _ q=>q.unwish) fun _ _ z=>DY z
end
section
variable{X:Cx}{st:Stmt}{rest:List Stmt}{t u:TS}{e:Expr}{te:TE}{pos:Pos}
def aM:TS:=fun D σ H=>D.nx σ H
def dt(t u:TS):TS:=fun D σ H=>t {D with nx:=u D} σ H
theorem bt:PSs X [] aM:=fun _ _ σ H _ I h=>Gr ⟨σ,H,I,h⟩
theorem a6(h1:PS X st t)(h2:PSs X rest u):PSs X (st::rest) (dt t u):=by
 intro pins s σ H D I h;refine J8<|bL (h1 pins s σ H {D with nx:=u D} I h) fun f s1 q=>?_;cases f with
 |next=>
  obtain⟨σ',H',I',q⟩:=q;exact h2 pins s1 σ' H' D I' q
 |ret v=>exact q
 |brk=>exact q
 |cont=>exact q
theorem ae(h1:PS X st t):PSs X [st] t:=by
 intro pins s σ H D I h;refine J8<|bL (h1 pins s σ H D I h) fun f s1 q=>?_;cases f with
 |next=>exact Gr q
 |ret v=>exact q
 |brk=>exact q
 |cont=>exact q
theorem Inv.quiet{pins:List (Addr×Obj)}{σ:St}{H:Hp}{s:Cu}(I:Inv X pins σ H s):interactive X.env=false:=by simp[interactive,I.ok.kind]
def aT(te:TE):TS:=fun D σ H=>te σ H fun _ H1=>D.nx σ H1
theorem d4(he:PE X e te)(hs:swapsWith e none pos.line X.env=pure false:=by rfl):PS X (.Expr e pos) (aT te):=by
 intro pins s σ H D I h;exact wpAny_Expr_any (bL (he pins s σ H _ I h) fun v s1⟨x,H1,I1,r1,q1⟩=>⟨σ,H1,I1,q1⟩) I.quiet hs
def cg(te:TE):TS:=fun D σ H=>te σ H D.rt
theorem au(he:PE X e te):PS X (.Return (some e) pos) (cg te):=by
 intro pins s σ H D I h;refine wpAny_Return_some<|bL (he pins s σ H _ I h) fun v s1 zz=>?_;obtain⟨x,H1,I1,r1,q1⟩:=zz;exact⟨x,σ,H1,I1,r1,q1⟩
def i9(c:TT)(t u:TS):TS:=fun D σ H=>c σ H fun b H1=>if b=true then t D σ H1 else u D σ H1
theorem cI{c:Expr}{a b:List Stmt}{tc:TT}(hc:PT X c tc)(ha:PSs X a t)(hb:PSs X b u):PS X (.If c a b pos) (i9 tc t u):=by
 intro pins s σ H D I h;refine wpAny_If<|bL (hc pins s σ H _ I h) fun d s1 zz=>?_;obtain⟨H1,I1,q1⟩:=zz;cases d with
 |true=>exact ha pins s1 σ H1 D I1 q1
 |false=>exact hb pins s1 σ H1 D I1 q1
end
abbrev TG:=V->St->Hp->(St->Hp->Prop)->Prop
abbrev vi:=List V->St->Hp->(St->Hp->Prop)->Prop
def PG(X:Cx)(target:Expr)(t:TG):Prop:=
 ∀(pins:List (Addr×Obj))(s:Cu)(σ:St)(H:Hp)(v:V)(u:Cr)(Q:St->Hp->Prop),Inv X pins σ H s->RelV v u->t v σ H Q->
  wpAny (model X.prog X.w) X.A (assign target X.env u) (fun _ s'=>∃σ' H',Inv X pins σ' H' s'/\Q σ' H') X.xe s
def yS(X:Cx)(ts:List Expr)(t:vi):Prop:=
 ∀(pins:List (Addr×Obj))(s:Cu)(σ:St)(H:Hp)(vs:List V)(us:List Cr)(Q:St->Hp->Prop),Inv X pins σ H s->Vals vs us->t vs σ H Q->
  wpAny (model X.prog X.w) X.A (assignInOrder ((assignEach ts X.env).map (·.2)) us) (fun _ s'=>∃σ' H',Inv X pins σ' H' s'/\Q σ' H') X.xe s
abbrev xF:=V->V->V->Hp->(Hp->Prop)->Prop
def zb(X:Cx)(t:xF):Prop:=
 ∀(pins:List (Addr×Obj))(s:Cu)(σ:St)(H:Hp)(o i v:V)(ov iv u:Cr)(Q:Hp->Prop),Inv X pins σ H s->RelV o ov->RelV i iv->RelV v u->t o i v H Q->
  wpAny (model X.prog X.w) X.A (setItem ov iv u) (fun _ s'=>∃H',Inv X pins σ H' s'/\Q H') X.xe s
abbrev Bs:=V->V->Hp->VK->Prop
section
variable{X:Cx}{pos:Pos}
def aH(i:Nat):TG:=fun v σ H Q=>Q (σ.set i<|some v) H
theorem aP{i:Nat}{x:Str}(hN:X.N.Nodup)(hi:X.N[i]? =some x)(hx:xD X.env.scope x)(hf:X.fn x=true\/X.env.scope.names.lookup x=some .local:=by first|exact .inl rfl|exact .inr rfl|assumption):PG X (.Name x pos) (aH i):=by
 intro pins s σ H v u Q I r h;exact II<|jc I hN hi hx r (fun s' I'=>⟨_,H,I',h⟩) hf
def cx:vi:=fun vs σ H Q=>vs=[]/\Q σ H
def ba(t:TG)(u:vi):vi:=fun vs σ H Q=>∃v r,vs=v::r/\t v σ H fun σ' H'=>u r σ' H' Q
theorem cq:yS X [] cx:=by
 intro pins s σ H vs us Q I r h;obtain⟨e,h⟩:=h;subst e;cases r;exact assignInOrder_nil ⟨σ,H,I,h⟩
theorem av{e:Expr}{es:List Expr}{t:TG}{u:vi}(h1:PG X e t)(h2:yS X es u)
  (hs:(assignEach (e::es) X.env).map (·.2)=assign e X.env::(assignEach es X.env).map (·.2):=by rfl):yS X (e::es) (ba t u):=by
 intro pins s σ H vs us Q I r h;obtain⟨v,vr,e1,h⟩:=h;subst e1;cases r with
 |cons r rr=>
  rw[hs];refine assignInOrder_cons<|bL (h1 pins s σ H _ _ _ I r h) fun _ s1 zz=>?_;obtain⟨σ1,H1,I1,q1⟩:=zz;exact h2 pins s1 σ1 H1 _ _ Q I1 rr q1
def cj(K:Cq)(n:Nat)(t:vi):TG:=fun v σ H Q=>∃a xs,v=.ref a/\SqT K H a xs/\xs.length=n/\t xs σ H Q
theorem xG{es:List Expr}{k:Nat}{t:vi}{n:Nat}(hc:X.calm=true)(h:yS X es t)
  (hn:(assignEach es X.env).length=n:=by rfl) (hst:(assignEach es X.env).findIdx? (·.1)=none:=by rfl):PG X (.Tuple es k pos) (cj X.K n t):=by
 intro pins s σ H v u Q I r hw;obtain⟨a,xs,e1,hq,hl,hw⟩:=hw;subst e1;cases r;obtain⟨its,rv,ht,hz⟩:=I.tuple hq;refine assign_Tuple_tuple (I.ok.hd hc) ht (by simp[hn,<-hl,rv.length]) hst fun h' hx=>?_;have I1:Inv X pins σ H {s with heap:=h'}:=I.kept (t':=s.toks) fun b o e=>hx b o (CN<|CD e) e;exact h pins _ σ H xs _ Q I1 (by simpa using rv) hw
def pZ(to ti:TE)(t:xF):TG:=fun v σ H Q=>to σ H fun o H1=>ti σ H1 fun i H2=>t o i v H2 fun H3=>Q σ H3
theorem rF{o i:Expr}{to ti:TE}{t:xF}(ho:PE X o to)(hi:PE X i ti)(hs:zb X t)
  (ha:∀v,assign (.Subscript o i pos) X.env v=(do
   let ov <-holding [v] (eval o X.env)
   let iv <-holding [v,ov] (eval i X.env)
   standAt pos
   holding [v,ov,iv] (setItem ov iv v)
   release [v,ov,iv] []):=by intro _;rfl):PG X (.Subscript o i pos) (pZ to ti t):=by
 intro pins s σ H v u Q I r h;rw[ha];refine Co<|Es<|bL (ho pins s σ H _ I h) fun ov s1 zz=>?_;obtain⟨x,H1,I1,r1,q1⟩:=zz;refine Co<|Es<|bL (hi pins s1 σ H1 _ I1 q1) fun iv s2 zz=>?_;obtain⟨y,H2,I2,r2,q2⟩:=zz;refine Co<|Ha<|Co<|Es<|bL (hs pins s2 σ H2 x y v ov iv u _ I2 r1 r2 r q2) fun _ s3 zz=>?_;obtain⟨H3,I3,q3⟩:=zz;exact wpAny_release ⟨σ,H3,I3,q3⟩
def bD(te:TE)(g:TG):TS:=fun D σ H=>te σ H fun x H1=>g x σ H1 D.nx
theorem ia{tg e:Expr}{te:TE}{g:TG}(he:PE X e te)(hg:PG X tg g)(hs:swapsWithSole [tg] e pos.line X.env=pure false:=by rfl)(hw:swappedStores [tg] e X.env=pure none:=by rfl)
  (h1:(assignEach [tg] X.env).map (·.2)=[assign tg X.env]:=by rfl):PS X (.Assign [tg] e pos) (bD te g):=by
 intro pins s σ H D I h;refine wpAny_Assign_stores (bL (he pins s σ H _ I h) fun v s1⟨x,H1,I1,r1,q1⟩=>?_) hs hw;rw[h1];exact bL (hg pins s1 σ H1 x v _ I1 r1 q1) fun _ s2 q=>q
theorem fk{i:Nat}{x:Str}{e:Expr}{te:TE}{pos':Pos}(hN:X.N.Nodup)(hi:X.N[i]? =some x)(hx:xD X.env.scope x)(he:PE X e te)(hs:swapsWith e (some<|.Name x pos') pos.line X.env=pure false:=by rfl)(hf:X.fn x=true\/X.env.scope.names.lookup x=some .local:=by first|exact .inl rfl|exact .inr rfl|assumption):
  PS X (.Assign [.Name x pos'] e pos) (bD te<|aH i):=by
 intro pins s σ H D I h;refine wpAny_Assign_Name (bL (he pins s σ H _ I h) fun v s1⟨y,H1,I1,r1,q1⟩=>?_) hs;exact jc I1 hN hi hx r1 (fun s2 I2=>⟨_,H1,I2,q1⟩) hf
def Bi(f:Int->Int->Int):Bs:=fun x y H Q=>∃i j,x=.int i/\y=.int j/\Q (.int<|f i j) H
end
structure It where
 go:Nat->Hp->Prop
 yld:Nat->Hp->V->Hp->Prop
 stop:Nat->Hp->Prop
def FpOk(X:Cx)(pins:List (Addr×Obj))(H:Hp)(b:Addr):Prop:=
 H b=none/\b≠X.env.locals/\b∉X.fs/\(b∈X.ex\/X.s₀.heap.objs.size<=b)/\(∀x c,X.env.cells.lookup x=some c->c≠b)/\∀p∈X.pn++pins,p.1≠b
theorem Inv.fpOk{X:Cx}{pins:List (Addr×Obj)}{σ:St}{H H':Hp}{s:Cu}{b:Addr}(I:Inv X pins σ H s)(hb:s.heap.objs.size<=b)(hn:H' b=none):FpOk X pins H' b:=by
 refine⟨hn,Et<|CA I.lt hb,I.nofs hb,.inr<|Ei I.sz hb,fun x c e z=>?_,fun p hp z=>?_⟩
 ·obtain⟨v,q⟩:=I.cell x c e;exact absurd (CA q.lt (by rw[z];exact hb))<|Di _
 ·exact absurd (CA (CD (I.pin p hp).1) (by rw[z];exact hb))<|Di _
structure Turn(P:CQ)(w:D4)(K:Cq)(tg:Expr)(J:It)(fp:List Addr)(it:Addr)(tn:Nat->Heap->Prop):Prop where
 mem:it∈fp
 obj:∀i h,tn i h->∀b∈fp,∃o,h.get? b=some o/\∀v,o.data≠.cell v
 keep:∀i h h',tn i h->(∀b∈fp,∀o,h.get? b=some o->h'.get? b=some o)->tn i h'
 item:∀(X:Cx),X.prog=P->X.w=w->X.K=K->X.calm=true->∀(i:Nat)(pins:List (Addr×Obj))(s:Cu)(σ:St)(H:Hp)(E:Cr->Cu->Prop),Inv X pins σ H s->(∀b∈fp,FpOk X pins H b)->tn i s.heap->J.go i H->
  wpAny (model P w) X.A (pyNext<|.ref it) (fun r s1=>∃u,r=some u/\
   wpAny (model P w) X.A (letOwnedTupleGo tg (.ref it) u) (fun _ s2=>∃x H',Inv X pins σ H' s2/\RelV x u/\J.yld i H x H'/\tn (i+1) s2.heap/\∀b∈fp,H' b=none) E s1) E s
 done:∀(X:Cx),X.prog=P->X.w=w->X.K=K->X.calm=true->∀(i:Nat)(pins:List (Addr×Obj))(s:Cu)(σ:St)(H:Hp)(E:Cr->Cu->Prop),Inv X pins σ H s->(∀b∈fp,FpOk X pins H b)->tn i s.heap->J.stop i H->
  wpAny (model P w) X.A (pyNext<|.ref it) (fun r s1=>r=none/\Inv X pins σ H s1) E s
 self:∀(A:De)(i:Nat)(s:Cu)(Q:Cr->Cu->Prop)(E:Cr->Cu->Prop),tn i s.heap->Q (.ref it) s->wpAny (model P w) A (pyIter<|.ref it) Q E s
abbrev TI:=St->Hp->(It->Hp->Prop)->Prop
def AU(X:Cx)(pins:List (Addr×Obj))(σ:St)(tg:Expr)(R:It->Hp->Prop)(itv:Cr)(s2:Cu):Prop:=
 ∃(it:Addr)(fp:List Addr)(tn:Nat->Heap->Prop)(J:It)(H':Hp),itv=.ref it/\Inv X pins σ H' s2/\Turn X.prog X.w X.K tg J fp it tn/\tn 0 s2.heap/\(∀b∈fp,FpOk X pins H' b)/\R J H'
def PI(X:Cx)(tg iter:Expr)(wi:TI):Prop:=
 ∀(pins:List (Addr×Obj))(s:Cu)(σ:St)(H:Hp)(R:It->Hp->Prop),Inv X pins σ H s->wi σ H R->
  wpAny (model X.prog X.w) X.A (eval iter X.env) (fun v s1=>wpAny (model X.prog X.w) X.A (pyIter v) (AU X pins σ tg R) X.xe s1) X.xe s
theorem ou{M:Jp}{A:De}{E:Cr->Cu->Prop}{s:Cu}{tg:Expr}{it:Addr}{u:Cr}{o:Obj}{n:String}{vs:Array Cr}{Q:Unit->Cu->Prop}(ho:s.heap.get? it=some o)(hc:o.cls=.type n)(hd:o.data=.fields vs)
    (hn:["enumerate","zip","dict_itemiterator","dict_reverseitemiterator","odict_iterator","itertools.zip_longest","itertools.pairwise"].contains n=false) (hQ:Q () s):wpAny M A (letOwnedTupleGo tg (.ref it) u) Q E s:=by
  unfold letOwnedTupleGo
  cases tg<;>first
    |exact CC hQ
    |(cases u<;>first
        |exact CC hQ
        | (refine Co (wpAny_load ho ?_)
           rw[hc,hd];show wpAny M A (if(["enumerate","zip","dict_itemiterator","dict_reverseitemiterator","odict_iterator","itertools.zip_longest","itertools.pairwise"].contains n&&vs[0]? ==some (rawInt _))=true then _ else _) Q E s;rw[if_neg (by intro h;rw[hn,Jr]at h;cases h)];exact CC hQ))
def AW(K:Cq)(a:Addr):It:=
 ⟨fun i H=>∃xs x,SqL K H a xs/\xs[i]? =some x,fun i H x H'=>H'=H/\∀xs,SqL K H a xs->xs[i]? =some x,fun i H=>∃xs,SqL K H a xs/\xs.length<=i⟩
def AX(lo:Int)(n:Nat):It:=⟨fun i _=>i<n,fun i H x H'=>H'=H/\x=.int (lo+i),fun i _=>n<=i⟩
theorem fZ{P:CQ}{w:D4}{K:Cq}{tg:Expr}(a it:Addr):Turn P w K tg (AW K a) [it] it (fun i h=>h.IsListIter it a i) where
 mem:=by simp
 obj:=fun i h st b hb=>by
  have e:b=it:=by simpa using hb
  subst e;obtain⟨o,e,c,d⟩:=st;exact⟨o,e,fun v z=>by rw[d]at z;cases z⟩
 keep:=fun i h h' st k=>st.at fun o e=>k it (by simp) o e
 item:=by
  intro X hP hw hK hc i pins s σ H E I hf st hg;subst hP hw hK;obtain⟨xs,x,hq,hx⟩:=hg;obtain⟨its,rv,p,hz⟩:=I.list hq;obtain⟨u,hu,ru⟩:=rv.get hx;obtain⟨f0,f1,f2,f3,f4,f5⟩:=hf it (by simp);refine Hr st p.isList (x:=u) (by simpa using hu) fun h' st' sb=>?_;have I1:Inv X pins σ H {s with heap:=h'}:=I.turned (t':=s.toks) (fun b o hb e=>(sb.2 b hb).trans e) f0 f1 f3 f4 f5;obtain⟨o,e,c,d⟩:=id st';exact⟨u,rfl,ou (s:={s with heap:=h'}) e c d (by decide) ⟨x,H,I1,ru,⟨rfl,fun ys hy=>by rw[I.list_inj hy hq];exact hx⟩,st',fun b hb=>(hf b hb).1⟩⟩
 done:=by
  intro X hP hw hK hc i pins s σ H E I hf st hg;subst hP hw hK;obtain⟨xs,hq,hx⟩:=hg;obtain⟨its,rv,p,hz⟩:=I.list hq;obtain⟨f0,f1,f2,f3,f4,f5⟩:=hf it (by simp);have hl:=rv.length;exact wpAny_pyNext_list_end (I.ok.hd hc) st p.isList (by simp;omega) fun h' eb=>⟨rfl,I.turned (t':=s.toks) (fun b o hb e=>eb b o hb e) f0 f1 f3 f4 f5⟩
 self:=fun _ _ _ _ _ st h=>wpAny_pyIter_listiter st h
theorem nh{P:CQ}{w:D4}{K:Cq}{tg:Expr}(it:Addr)(lo:Int)(n:Nat):Turn P w K tg (AX lo n) [it] it (fun i h=>IsRangeIter h it (lo+(i:Nat)*1) ((n:Int)-(i:Nat)) 1) where
 mem:=by simp
 obj:=fun i h st b hb=>by
  have e:b=it:=by simpa using hb
  subst e;exact⟨_,st,fun v z=>by
   have z':GW _=Fq v:=z;cases z'⟩
 keep:=fun i h h' st k=>k it (by simp) _ st
 item:=by
  intro X hP hw hK hc i pins s σ H E I hf st hg;subst hP hw hK;obtain⟨f0,f1,f2,f3,f4,f5⟩:=hf it (by simp);have W:=Walks.range (prog:=X.prog) (w:=X.w) (I.ok.hd hc) it lo 1 n;refine W.item i s _ _ hg st fun v h' tk hv st' kk=>?_;obtain⟨t,rfl⟩:=hv;have I1:Inv X pins σ H {s with heap:=h',toks:=tk}:=I.turned (fun b o hb e=>kk b o (by simpa using hb) e) f0 f1 f3 f4 f5;refine⟨_,rfl,ou (s:={s with heap:=h',toks:=tk}) (n:="range_iterator") st' rfl rfl (by decide) ⟨.int<|lo+i,H,I1,⟨t,?_⟩,⟨rfl,rfl⟩,st',fun b hb=>(hf b hb).1⟩⟩;rw[Int.mul_one]
 done:=by
  intro X hP hw hK hc i pins s σ H E I hf st hg;subst hP hw hK;obtain⟨f0,f1,f2,f3,f4,f5⟩:=hf it (by simp);exact wpAny_pyNext_range_end (I.ok.hd hc) st (by have:n<=i:=hg;omega) fun h' eb=>⟨rfl,I.turned (t':=s.toks) (fun b o hb e=>eb b o hb e) f0 f1 f3 f4 f5⟩
 self:=fun _ _ _ _ _ st h=>wpAny_pyIter_rangeiter st h
section
variable{X:Cx}{tg:Expr}
def lP(K:Cq)(tl:TE):TI:=fun σ H R=>tl σ H fun x H1=>∃a,x=.ref a/\(∃xs,SqL K H1 a xs)/\R (AW K a) H1
theorem vj{l:Expr}{tl:TE}(hl:PE X l tl):PI X tg l (lP X.K tl):=by
 intro pins s σ H R I h;refine bL (hl pins s σ H _ I h) fun v s1 zz=>?_;obtain⟨x,H1,I1,r1,q1⟩:=zz;obtain⟨a,e,⟨xs,hq⟩,q⟩:=q1;subst e;cases r1;obtain⟨its,rv,p,hz⟩:=I1.list hq;refine Fv p.isList ?_;refine⟨s1.heap.objs.size,[s1.heap.objs.size],_,_,H1,rfl,I1.kept (t':=s1.toks) fun b o e=>Cs _ e,fZ a _,⟨_,CF _ rfl,rfl,rfl⟩,fun b hb=>?_,q⟩;have e:b=s1.heap.objs.size:=by simpa using hb
 subst e;exact I1.fpOk (CK _)<|I1.hok.fresh<|CK _
theorem rG{pins:List (Addr×Obj)}{σ:St}{H:Hp}{s:Cu}{R:It->Hp->Prop}{E:Cr->Cu->Prop}{lo hi:Int}{t u v:Tok}{tk:Nat}(I:Inv X pins σ H s)(h1: -(2^62)<=lo)(h2:lo<2^62)(h3: -(2^62)<=hi)(h4:hi<2^62)
  (q:R (AX lo (hi-lo).toNat) H):wpAny (model X.prog X.w) X.A (pyIter<|.ref s.heap.objs.size) (AU X pins σ tg R) E {s with heap:=s.heap.push {cls:=.type "range",data:=.fields #[.int lo t,.int hi u,.int 1 v]},toks:=tk}:=by
 refine wpAny_pyIter_range (IsRange.new ..) (small_one h1 h2 h3 h4) ?_;have I1:Inv X pins σ H {s with heap:=s.heap.push {cls:=.type "range",data:=.fields #[.int lo t,.int hi u,.int 1 v]},toks:=tk}:=I.kept fun b o e=>Cs _ e;refine⟨(s.heap.push {cls:=.type "range",data:=.fields #[.int lo t,.int hi u,.int 1 v]}).objs.size,[(s.heap.push {cls:=.type "range",data:=.fields #[.int lo t,.int hi u,.int 1 v]}).objs.size],_,_,H,rfl,
  I1.kept (t':=tk) fun b o e=>Cs _ e,nh _ lo (hi-lo).toNat,?_,fun b hb=>?_,q⟩
 ·have e1:lo+((0:Nat):Int)*1=lo:=by simp
  have e2:(((hi-lo).toNat:Nat):Int)-((0:Nat):Int)=Kd lo hi 1:=by rw[rangeSize_one];split<;>omega
  show IsRangeIter _ _ (lo+((0:Nat):Int)*1) ((((hi-lo).toNat:Nat):Int)-((0:Nat):Int)) 1;rw[e1,e2];exact CF _ rfl
 ·have e:b=(s.heap.push {cls:=.type "range",data:=.fields #[.int lo t,.int hi u,.int 1 v]}).objs.size:=by simpa using hb
  subst e;exact I1.fpOk (CK _)<|I1.hok.fresh<|CK _
def rH(ta:TA):TI:=fun σ H R=>ta σ H fun vs H1=>∃j:Int,vs=[.int j]/\ -(2^62)<=j/\j<2^62/\R (AX 0 j.toNat) H1
theorem gb{a:Expr}{ta:TA}{p pos:Pos}(hg:Gl X "range")(hm:X.mg "range"=none)(ha:PA X [a] ta)(hs:starEach [a] X.env=[(false,eval a X.env)]:=by rfl):PI X tg (.Call (.Name "range" p) [a] [] pos) (rH ta):=by
 intro pins s σ H R I h;refine Call_<|gC I hg hm boot_range<|Eo (bL (ha pos pins s σ H _ I h) fun us s1⟨vs,H1,I1,r1,q1⟩=>?_) hs rfl;obtain⟨j,e,q1,q2,q⟩:=q1;subst e;cases r1 with
 |cons r rr=>
  cases rr;obtain⟨t,rfl⟩:=r;exact call_range_1 (rG I1 (by omega) (by omega) q1 q2 (by simpa using q))
def rJ(wi:TI)(g:TG)(tb:TS):TS:=fun D σ H=>wi σ H fun J H1=>∃W:Nat->Nat->St->Hp->Prop,(∃m,W 0 m σ H1)/\∀i m σ H,W i m σ H->
 (J.stop i H/\D.nx σ H)\/(J.go i H/\∃N:St->Hp->Prop,(∀σ' H',N σ' H'->∃m',m'<m/\W (i+1) m' σ' H')/\∀x H',J.yld i H x H'->g x σ H' fun σ2 H2=>tb {D with nx:=N,ct:=N,bk:=D.nx} σ2 H2)
def ib(fp:List Addr)(h:Heap):List (Addr×Obj):=fp.filterMap fun b=>(h.get? b).map fun o=>(b,o)
theorem fm{fp:List Addr}{h:Heap}{b:Addr}{o:Obj}(hb:b∈fp)(e:h.get? b=some o):(b,o)∈ib fp h:=Ir.mpr ⟨b,hb,by rw[e];rfl⟩
theorem q9{fp:List Addr}{h:Heap}{p:Addr×Obj}(hp:p∈ib fp h):p.1∈fp/\h.get? p.1=some p.2:=by
 obtain⟨b,hb,e⟩:=Ir.mp hp;cases q:h.get? b with
 |none=>rw[q]at e;cases e
 |some o=>
  rw[q]at e;have e':(b,o)=p:=Df e;subst e';exact⟨hb,q⟩
theorem Inv.pinned{pins:List (Addr×Obj)}{σ:St}{H:Hp}{s:Cu}{fp:List Addr}(I:Inv X pins σ H s)(hf:∀b∈fp,FpOk X pins H b)(ho:∀b∈fp,∃o,s.heap.get? b=some o/\∀v,o.data≠.cell v):Inv X (pins++ib fp s.heap) σ H s:=
 I.pins_of fun p hp=>(E3.mp hp).elim (fun z=>I.pin p<|D5 _ z) fun z=>by
  obtain⟨hb,e⟩:=q9 z;obtain⟨f0,f1,f2,_⟩:=hf p.1 hb;obtain⟨o,e',d⟩:=ho p.1 hb;rw[e]at e';cases e';exact⟨e,f0,f1,f2,d⟩
theorem Inv.unpinned{pins pl:List (Addr×Obj)}{σ:St}{H:Hp}{s:Cu}(I:Inv X (pins++pl) σ H s):Inv X pins σ H s:=I.pins_of fun p hp=>I.pin p<|D5 _<|DW _ hp
theorem dM{iter:Expr}{body:List Stmt}{wi:TI}{g:TG}{tb:TS}{pos:Pos}(hp:PassesOwn (model X.prog X.w) X.A X.env X.xe)(hc:X.calm=true)(hi:PI X tg iter wi)(hg:PG X tg g)(hb:PSs X body tb)
  (hs:∀x,foldedSetIterable iter X.env x=pure x:=by intro _;rfl):PS X (.For tg iter body [] pos) (rJ wi g tb):=by
 intro pins s σ H D I h;refine wpAny_For (bL (hi pins s σ H _ I h) fun v s1 h1=>bL h1 fun itv s2 h2=>?_) hs;obtain⟨it,fp,tn,J,H2,e,I2,T,st2,f2,W,⟨m0,w0⟩,turn⟩:=h2;subst e;have stat:∀{H':Hp},(∀b∈fp,H' b=none)->∀b∈fp,FpOk X pins H' b:=fun hn b hb=>⟨hn b hb,(f2 b hb).2⟩
 refine codeAny_forLoop_any (fun n s'=>∃i σ' H',Inv X pins σ' H' s'/\tn i s'.heap/\(∀b∈fp,H' b=none)/\W i n σ' H') ?_ m0 ⟨0,σ,H2,I2,st2,fun b hb=>(f2 b hb).1,w0⟩;rintro n s3 ⟨i,σ3,H3,I3,st3,fr3,w3⟩;rcases turn i n σ3 H3 w3 with⟨stop,qn⟩|⟨go,N,hN,step⟩
 ·refine FK hp<|bL (T.done X rfl rfl rfl hc i pins s3 σ3 H3 X.xe I3 (stat fr3) st3 stop) fun r s4 zz=>?_;obtain⟨hr,I4⟩:=zz;subst hr;exact Gr ⟨σ3,H3,I4,qn⟩
 ·refine FK hp<|bL (T.item X rfl rfl rfl hc i pins s3 σ3 H3 X.xe I3 (stat fr3) st3 go) fun r s4 zz=>?_;obtain⟨u,hr,h4⟩:=zz;subst hr;refine FK hp<|bL h4 fun _ s5 zz=>?_;obtain⟨x,H5,I5,r5,y5,st5,fr5⟩:=zz;have I5':=I5.pinned (stat fr5)<|T.obj _ _ st5;refine FK hp<|bL (hg _ s5 σ3 H5 x u _ I5' r5<|step x H5 y5) fun _ s6 zz=>?_;obtain⟨σ6,H6,I6,q6⟩:=zz;refine FK hp<|bL (hb _ s6 σ6 H6 _ I6 q6) fun f s7 q7=>?_;have again:∀{σ7:St}{H7:Hp},Inv X (pins++ib fp s5.heap) σ7 H7 s7->N σ7 H7->∃m,m<n/\∃i σ' H',Inv X pins σ' H' s7/\tn i s7.heap/\(∀b∈fp,H' b=none)/\W i m σ' H':=fun{σ7 H7}I7 n7=>by
   obtain⟨m',hm,w7⟩:=hN σ7 H7 n7;refine⟨m',hm,i+1,σ7,H7,I7.unpinned,T.keep _ _ _ st5 fun b hb o e=>(I7.pin (b,o)<|D5 _<|D5 _<|fm hb e).1,fun b hb=>?_,w7⟩;obtain⟨o,e,d⟩:=T.obj _ _ st5 b hb;exact(I7.pin (b,o)<|D5 _<|D5 _<|fm hb e).2.1
  cases f with
  |next=>obtain⟨σ7,H7,I7,n7⟩:=q7;exact again I7 n7
  |cont=>obtain⟨σ7,H7,I7,n7⟩:=q7;exact again I7 n7
  |brk=>obtain⟨σ7,H7,I7,q7⟩:=q7;exact⟨σ7,H7,I7.unpinned,q7⟩
  |ret v=>obtain⟨x7,σ7,H7,I7,r7,q7⟩:=q7;exact⟨x7,σ7,H7,I7.unpinned,r7,q7⟩
end
abbrev R2:=V->V->Hp->VK->Prop
def OpR(X:Cx)(f:Cr->Cr->Sem Cr)(r:R2):Prop:=
 ∀(pins:List (Addr×Obj))(s:Cu)(σ:St)(H:Hp)(x y:V)(v u:Cr)(Q:VK),Inv X pins σ H s->RelV x v->RelV y u->r x y H Q->
  wpAny (model X.prog X.w) X.A (f v u) (EP X pins σ Q) X.xe s
def AY(X:Cx)(f:Cr->Sem Cr)(r:V->Hp->VK->Prop):Prop:=
 ∀(pins:List (Addr×Obj))(s:Cu)(σ:St)(H:Hp)(x:V)(v:Cr)(Q:VK),Inv X pins σ H s->RelV x v->r x H Q->
  wpAny (model X.prog X.w) X.A (f v) (EP X pins σ Q) X.xe s
def eg(X:Cx)(f:Cr)(r:List V->Hp->VK->Prop):Prop:=
 ∀(pins:List (Addr×Obj))(s:Cu)(σ:St)(H:Hp)(xs:List V)(us:List Cr)(Q:VK),Inv X pins σ H s->Vals xs us->r xs H Q->
  wpAny (model X.prog X.w) X.A (call f us) (EP X pins σ Q) X.xe s
def AZ(X:Cx)(r:V->Hp->(Bool->Hp->Prop)->Prop):Prop:=
 ∀(pins:List (Addr×Obj))(s:Cu)(σ:St)(H:Hp)(x:V)(v:Cr)(Q:Bool->Hp->Prop),Inv X pins σ H s->RelV x v->r x H Q->
  wpAny (model X.prog X.w) X.A (truthy v) (TP X pins σ Q) X.xe s
def dq(r:R2)(ta tb:TE):TE:=fun σ H Q=>ta σ H fun x H1=>tb σ H1 fun y H2=>r x y H2 Q
def fA(r:V->Hp->VK->Prop)(ta:TE):TE:=fun σ H Q=>ta σ H fun x H1=>r x H1 Q
def rI(C:Int->Int->Prop)(g:Int->Int->V):R2:=fun x y H Q=>∃i j,x=.int i/\y=.int j/\C i j/\Q (g i j) H
def eQ(g:Int->Int->V):R2:=fun x y H Q=>∃i j,x=.int i/\y=.int j/\Q (g i j) H
def rU(g:Int->V):V->Hp->VK->Prop:=fun x H Q=>∃i,x=.int i/\Q (g i) H
section
variable{X:Cx}{a b c:Expr}{ta tb tc:TE}{pos:Pos}
theorem xH(ha:PE X a ta)(hb:PE X b tb){pins:List (Addr×Obj)}{s:Cu}{σ:St}{H:Hp}{R:V->V->Hp->Prop}(I:Inv X pins σ H s)
  (h:ta σ H fun x H1=>tb σ H1 fun y H2=>R x y H2) {Q:Cr->Cu->Prop} {f:Cr->Cr->Sem Cr}
  (hf:∀v u s2 x y H2,Inv X pins σ H2 s2->RelV x v->RelV y u->R x y H2->wpAny (model X.prog X.w) X.A (f v u) Q X.xe s2):
  wpAny (model X.prog X.w) X.A (eval a X.env) (fun v s₁=>wpAny (model X.prog X.w) X.A (eval b X.env) (fun u s₂=>wpAny (model X.prog X.w) X.A (f v u) Q X.xe s₂) X.xe s₁) X.xe s:=by
 refine bL (ha pins s σ H _ I h) fun v s1 zz=>?_;obtain⟨x,H1,I1,r1,q1⟩:=zz;refine bL (hb pins s1 σ H1 _ I1 q1) fun u s2 zz=>?_;obtain⟨y,H2,I2,r2,q2⟩:=zz;exact hf v u s2 x y H2 I2 r1 r2 q2
theorem ao{op:Kt}{r:R2}(ho:OpR X (binaryOp op) r)(ha:PE X a ta)(hb:PE X b tb):PE X (.BinOp a op b pos) (dq r ta tb):=by
 intro pins s σ H Q I h;exact wpAny_BinOp<|xH ha hb I h fun v u s2 x y H2 I2 rx ry q=>ho pins s2 σ H2 x y v u Q I2 rx ry q
theorem xh{op:UnaryOp}{r:V->Hp->VK->Prop}(ho:AY X (unaryOp op) r)(ha:PE X a ta):PE X (.UnaryOp op a pos) (fA r ta):=by
 intro pins s σ H Q I h;refine UnaryOp_<|bL (ha pins s σ H _ I h) fun v s1 zz=>?_;obtain⟨x,H1,I1,r1,q1⟩:=zz;exact ho pins s1 σ H1 x v Q I1 r1 q1
theorem Aj{f:Cr->Cr->Sem Cr}{C:Int->Int->Prop}{g:Int->Int->Int}
  (rule:∀(i j:Int)(t u:Tok)(s:Cu)(Q:Cr->Cu->Prop)(E:Cr->Cu->Prop),C i j->Q (.int (g i j) s.toks) {s with toks:=s.toks+1}->wpAny (model X.prog X.w) X.A (f (.int i t)<|.int j u) Q E s):
  OpR X f (rI C fun i j=>.int<|g i j):=by
 intro pins s σ H x y v u Q I rx ry h;obtain⟨i,j,rfl,rfl,hc,q⟩:=h;obtain⟨t,rfl⟩:=rx;obtain⟨t',rfl⟩:=ry;exact rule i j t t' s _ _ hc ⟨.int<|g i j,H,I.tok _,⟨_,rfl⟩,q⟩
theorem zc{f:Cr->Cr->Sem Cr}{g:Int->Int->Int}
  (rule:∀(i j:Int)(t u:Tok)(s:Cu)(Q:Cr->Cu->Prop)(E:Cr->Cu->Prop),Q (.int (g i j) s.toks) {s with toks:=s.toks+1}->wpAny (model X.prog X.w) X.A (f (.int i t)<|.int j u) Q E s):
  OpR X f (eQ fun i j=>.int<|g i j):=by
 intro pins s σ H x y v u Q I rx ry h;obtain⟨i,j,rfl,rfl,q⟩:=h;obtain⟨t,rfl⟩:=rx;obtain⟨t',rfl⟩:=ry;exact rule i j t t' s _ _ ⟨.int<|g i j,H,I.tok _,⟨_,rfl⟩,q⟩
theorem vk{f:Cr->Cr->Sem Cr}{g:Int->Int->Bool}
  (rule:∀(i j:Int)(t u:Tok)(s:Cu)(Q:Cr->Cu->Prop)(E:Cr->Cu->Prop),Q (.bool<|g i j) s->wpAny (model X.prog X.w) X.A (f (.int i t)<|.int j u) Q E s):
  OpR X f (eQ fun i j=>.bl<|g i j):=by
 intro pins s σ H x y v u Q I rx ry h;obtain⟨i,j,rfl,rfl,q⟩:=h;obtain⟨t,rfl⟩:=rx;obtain⟨t',rfl⟩:=ry;exact rule i j t t' s _ _ ⟨.bl<|g i j,H,I,rfl,q⟩
def zd(i j:Int):Prop:=0<j/\j<1073741824
def ze(i j:Int):Prop:=0<=j/\j<=1000000/\i.natAbs<2^64
def CMul(i j:Int):Prop:=(-(2^64)<i/\i<2^64)\/(-(2^64)<j/\j<2^64)
theorem CMul.ok{i j:Int}(h:CMul i j):IntMulOk i j:=by
 rcases h with⟨h1,h2⟩|⟨h1,h2⟩
 ·exact .of_left<|JN h1 h2
 ·exact .of_right<|JN h1 h2
theorem cN:OpR X (binaryOp .Add) (eQ fun i j=>.int<|i+j):=zc fun _ _ _ _ _ _ _ q=>add_int q
theorem ic:OpR X (binaryOp .Sub) (eQ fun i j=>.int<|i-j):=zc fun _ _ _ _ _ _ _ q=>sub_int q
theorem je:OpR X (binaryOp .Mult) (rI CMul fun i j=>.int<|i*j):=Aj fun _ _ _ _ _ _ _ hc q=>mul_int q hc.ok
theorem dC:OpR X (binaryOp .FloorDiv) (rI zd fun i j=>.int<|i/j):=Aj fun i j _ _ _ _ _ hc q=>by
 have h1:(0:Int)<j:=hc.1;have h2:j<1073741824:=hc.2;exact floordiv_int (by omega) (by rw[Int.fdiv_eq_ediv_of_nonneg i (by omega)];exact q) (.inl (PyProof.noPylong_small (by omega)))
theorem bE:OpR X (binaryOp .Mod) (rI (fun _ j=>0<j) fun i j=>.int<|i%j):=Aj fun i j _ _ _ _ _ hc q=>by
 have h1:(0:Int)<j:=hc;exact mod_int' (by omega) (by rw[Int.fmod_eq_emod_of_nonneg i (by omega)];exact q)
theorem rK:OpR X (binaryOp .Pow) (rI ze fun i j=>.int<|i^j.toNat):=Aj fun _ _ _ _ _ _ _ hc q=>pow_int_small hc.1 hc.2.1 hc.2.2 q
theorem Bt{f:Cr->Sem Cr}{g:Int->Int}
  (rule:∀(i:Int)(t:Tok)(s:Cu)(Q:Cr->Cu->Prop)(E:Cr->Cu->Prop),Q (.int (g i) s.toks) {s with toks:=s.toks+1}->wpAny (model X.prog X.w) X.A (f<|.int i t) Q E s):
  AY X f (rU fun i=>.int<|g i):=by
 intro pins s σ H x v Q I rx h;obtain⟨i,rfl,q⟩:=h;obtain⟨t,rfl⟩:=rx;exact rule i t s _ _ ⟨.int<|g i,H,I.tok _,⟨_,rfl⟩,q⟩
theorem rL:AY X (unaryOp .USub) (rU fun i=>.int<|-i):=Bt fun _ _ _ _ _ q=>neg_int q
end
def cE:V->V->Bool
 | .non,.non=>true| .non,.int _=>true| .int _,.non=>true| .non,.bl _=>true| .bl _,.non=>true| .non,.str _=>true| .str _,.non=>true
 | .int _,.int _=>true| .bl _,.bl _=>true| .str _,.str _=>true| .byt _,.byt _=>true
 | .int _,.str _=>true| .str _,.int _=>true| .bl _,.str _=>true| .str _,.bl _=>true
 |_,_=>false
def fB:R2:=fun x y H Q=>cE x y=true/\Q (.bl<|decide<|x=y) H
def fJ:R2:=fun x y H Q=>cE x y=true/\Q (.bl<|!decide (x=y)) H
theorem ow{i j:Int}:decide (V.int i=V.int j)=(i==j):=by
 rw[Ez];simp
theorem rM{i j:Bool}:decide (V.bl i=V.bl j)=(i==j):=by
 rw[Ez];simp
theorem oy{i j:Str}:decide (V.str i=V.str j)=(i==j):=by
 rw[Ez];simp
theorem oz{i j:Array UInt8}:decide (V.byt i=V.byt j)=(i.toList==j.toList):=by
 rw[Ez];cases i;cases j;simp
section
variable{X:Cx}{a b c:Expr}{ta tb tc:TE}{pos:Pos}
theorem aJ{pins:List (Addr×Obj)}{σ:St}{H:Hp}{s:Cu}{Q:VK}{k k':Bool}(I:Inv X pins σ H s)(q:Q (.bl k) H)(e:k=k'):EP X pins σ Q (.bool k') s:=by
 subst e;exact⟨.bl k,H,I,rfl,q⟩
theorem gA:OpR X (compareOp .Eq) fB:=by
 intro pins s σ H x y v u Q I rx ry h;obtain⟨hs,q⟩:=h;cases x with
 |non=>
  cases rx;cases y with
  |non=>cases ry;exact JC (aJ I q (by simp))
  |bl j=>cases ry;exact JD (aJ I q (by simp))
  |int j=>obtain⟨t',rfl⟩:=ry;exact JO (aJ I q (by simp))
  |str j=>obtain⟨t',rfl⟩:=ry;exact JP (aJ I q (by simp))
  |_=>exact absurd (show false=true from hs) CS
 |bl i=>
  cases rx;cases y with
  |non=>cases ry;exact JE (aJ I q (by simp))
  |bl j=>cases ry;exact eq_bool<|aJ I q rM
  |str j=>obtain⟨t',rfl⟩:=ry;exact JF (aJ I q (by simp))
  |_=>exact absurd (show false=true from hs) CS
 |int i=>
  obtain⟨t,rfl⟩:=rx;cases y with
  |non=>cases ry;exact JQ (aJ I q (by simp))
  |int j=>obtain⟨t',rfl⟩:=ry;exact eq_int<|aJ I q ow
  |str j=>obtain⟨t',rfl⟩:=ry;exact JR (aJ I q (by simp))
  |_=>exact absurd (show false=true from hs) CS
 |str i=>
  obtain⟨t,rfl⟩:=rx;cases y with
  |non=>cases ry;exact JS (aJ I q (by simp))
  |bl j=>cases ry;exact JG (aJ I q (by simp))
  |int j=>obtain⟨t',rfl⟩:=ry;exact JT (aJ I q (by simp))
  |str j=>obtain⟨t',rfl⟩:=ry;exact eq_str<|aJ I q oy
  |_=>exact absurd (show false=true from hs) CS
 |byt i=>
  obtain⟨t,rfl⟩:=rx;cases y with
  |byt j=>obtain⟨t',rfl⟩:=ry;exact PySem.W.eq_bytes<|aJ I q oz
  |_=>exact absurd (show false=true from hs) CS
 |_=>cases y<;>exact absurd (show false=true from hs) CS
theorem zf:OpR X (compareOp .NotEq) fJ:=by
 intro pins s σ H x y v u Q I rx ry h;obtain⟨hs,q⟩:=h;cases x with
 |non=>
  cases rx;cases y with
  |non=>cases ry;exact JH (aJ I q (by simp))
  |bl j=>cases ry;exact JI (aJ I q (by simp))
  |int j=>obtain⟨t',rfl⟩:=ry;exact JU (aJ I q (by simp))
  |str j=>obtain⟨t',rfl⟩:=ry;exact JW (aJ I q (by simp))
  |_=>exact absurd (show false=true from hs) CS
 |bl i=>
  cases rx;cases y with
  |non=>cases ry;exact JJ (aJ I q (by simp))
  |bl j=>cases ry;exact ne_bool<|aJ I q<|congrArg not rM
  |str j=>obtain⟨t',rfl⟩:=ry;exact JK (aJ I q (by simp))
  |_=>exact absurd (show false=true from hs) CS
 |int i=>
  obtain⟨t,rfl⟩:=rx;cases y with
  |non=>cases ry;exact JX (aJ I q (by simp))
  |int j=>obtain⟨t',rfl⟩:=ry;exact ne_int<|aJ I q<|congrArg not ow
  |str j=>obtain⟨t',rfl⟩:=ry;exact JY (aJ I q (by simp))
  |_=>exact absurd (show false=true from hs) CS
 |str i=>
  obtain⟨t,rfl⟩:=rx;cases y with
  |non=>cases ry;exact JZ (aJ I q (by simp))
  |bl j=>cases ry;exact JL (aJ I q (by simp))
  |int j=>obtain⟨t',rfl⟩:=ry;exact K0 (aJ I q (by simp))
  |str j=>obtain⟨t',rfl⟩:=ry;exact ne_str<|aJ I q<|congrArg not oy
  |_=>exact absurd (show false=true from hs) CS
 |byt i=>
  obtain⟨t,rfl⟩:=rx;cases y with
  |byt j=>obtain⟨t',rfl⟩:=ry;exact PySem.W.ne_bytes<|aJ I q<|congrArg not oz
  |_=>exact absurd (show false=true from hs) CS
 |_=>cases y<;>exact absurd (show false=true from hs) CS
theorem oA:OpR X (compareOp .Lt) (eQ fun i j=>.bl<|decide<|i<j):=vk fun _ _ _ _ _ _ _ q=>lt_int q
theorem zg:OpR X (compareOp .LtE) (eQ fun i j=>.bl<|decide<|i<=j):=vk fun _ _ _ _ _ _ _ q=>le_int q
theorem rN:OpR X (compareOp .Gt) (eQ fun i j=>.bl<|decide<|j<i):=vk fun _ _ _ _ _ _ _ q=>gt_int q
theorem xi:OpR X (compareOp .GtE) (eQ fun i j=>.bl<|decide<|j<=i):=vk fun _ _ _ _ _ _ _ q=>ge_int q
theorem qa:OpR X (compareOp .In) (fun x y H Q=>∃i j,x=.str i/\y=.str j/\Q (.bl<|!(FV j i 0 j.length 1).isEmpty) H):=by
 intro pins s σ H x y v u Q I rx ry h;obtain⟨i,j,rfl,rfl,q⟩:=h;obtain⟨t,rfl⟩:=rx;obtain⟨t',rfl⟩:=ry;exact in_str<|aJ I q rfl
theorem op_isN:OpR X (compareOp .Is) (fun x y H Q=>y=.non/\Q (.bl<|decide<|x=.non) H):=by
 intro pins s σ H x y v u Q I rx ry h;obtain⟨rfl,q⟩:=h;cases ry;refine is_none_gen<|aJ I q ?_
 cases x<;>first
  |(cases rx;rfl)
  |(obtain⟨t,rfl⟩:=rx;rfl)
theorem vm:OpR X (compareOp .IsNot) (fun x y H Q=>y=.non/\Q (.bl<|!decide (x=.non)) H):=by
 intro pins s σ H x y v u Q I rx ry h;obtain⟨rfl,q⟩:=h;cases ry;refine isnot_none_gen<|aJ I q ?_
 cases x<;>first
  |(cases rx;rfl)
  |(obtain⟨t,rfl⟩:=rx;rfl)
theorem OpR.or{f:Cr->Cr->Sem Cr}{r r':R2}(h:OpR X f r)(h':OpR X f r'):OpR X f (fun x y H Q=>r x y H Q\/r' x y H Q):=by
 intro pins s σ H x y v u Q I rx ry q;rcases q with q|q
 ·exact h pins s σ H x y v u Q I rx ry q
 ·exact h' pins s σ H x y v u Q I rx ry q
theorem bG(b:Expr){op:CmpOp}(h:op≠.In:=by decide)(h2:op≠.NotIn:=by decide):behindInMarks op b=false:=by
 have e1:(op==CmpOp.In)=false:=by cases op<;>first|rfl|exact absurd rfl h
 have e2:(op==CmpOp.NotIn)=false:=by cases op<;>first|rfl|exact absurd rfl h2
 cases b<;>simp[behindInMarks,e1,e2]
theorem eS{op:CmpOp}{r:R2}(ho:OpR X (compareOp op) r)(ha:PE X a ta)(hb:PE X b tb)(hm:behindInMarks op b=false):PE X (.Compare a [op] [b] pos) (dq r ta tb):=by
 intro pins s σ H Q I h;exact wpAny_Compare1 (xH ha hb I h fun v u s2 x y H2 I2 rx ry q=>ho pins s2 σ H2 x y v u Q I2 rx ry q) hm
def bz(t:TE):TT:=fun σ H Q=>t σ H fun x H'=>∃k,x=.bl k/\Q k H'
theorem bQ{op:CmpOp}{r:R2}(ho:OpR X (compareOp op) r)(ha:PE X a ta)(hb:PE X b tb)(hm:behindInMarks op b=false):PT X (.Compare a [op] [b] pos) (bz<|dq r ta tb):=by
 intro pins s σ H Q I h;refine wpAny_isTrue_Compare1 (bL (ha pins s σ H _ I h) fun v s1⟨x,H1,I1,r1,q1⟩=>bL (hb pins s1 σ H1 _ I1 q1) fun u s2⟨y,H2,I2,r2,q2⟩=>
  bL (ho pins s2 σ H2 x y v u _ I2 r1 r2 q2) fun c s3⟨z,H3,I3,r3,k,e,q3⟩=>?_) hm
 subst e;cases r3;exact EG ⟨H3,I3,q3⟩
def xI(K:Cq)(x:V)(H:Hp)(k:Bool):Prop:=
 match x with
 | .non=>k=false
 | .bl b=>k=b
 | .int i=>k=(i != 0)
 | .str y=>y.length<=sizeLine/\k=((y.length:Int) != 0)
 | .byt y=>y.size<=sizeLine/\k=((y.size:Int) != 0)
 | .ref p=>(∃xs,SqL K H p xs/\k= !xs.isEmpty)\/(∃xs,SqT K H p xs/\k= !xs.isEmpty)\/∃kvs,H p=some (.dK kvs)/\k= !kvs.isEmpty
 |_=>False
theorem nj{κ:Type}{kvs:List (κ×V)}{vs:List (κ×Cr)}(r:KV kvs vs):(!vs.isEmpty)= !kvs.isEmpty:=by
 cases r<;>rfl
theorem jf{xs:List V}{its:List Cr}(r:Vals xs its):(!its.toArray.isEmpty)= !xs.isEmpty:=by
 cases r<;>simp
theorem ig:(sizeLine:Nat)<2^63:=by rw[DK];decide
theorem xJ:AZ X (fun x H Q=>∃k,xI X.K x H k/\Q k H):=by
 intro pins s σ H x v Q I rx h;obtain⟨k,e,q⟩:=h;have hl:=ig;have hs:sizeLine=16777216:=DK;cases x with
 |non=>
  cases rx;have e':k=false:=e;subst e';exact truthy_none ⟨H,I,q⟩
 |bl b=>
  cases rx;have e':k=b:=e;subst e';exact EG ⟨H,I,q⟩
 |int i=>
  obtain⟨t,rfl⟩:=rx;have e':k=(i != 0):=e;subst e';exact PySem.P.truthy_int ⟨H,I,q⟩
 |str y=>
  obtain⟨t,rfl⟩:=rx;obtain⟨hy,e'⟩:y.length<=sizeLine/\k=((y.length:Int) != 0):=e;subst e';exact PySem.P.truthy_str (by omega) ⟨H,I.tok _,q⟩
 |byt y=>
  obtain⟨t,rfl⟩:=rx;obtain⟨hy,e'⟩:y.size<=sizeLine/\k=((y.size:Int) != 0):=e;subst e';exact PySem.W.truthy_bytes (by omega) ⟨H,I.tok _,q⟩
 |ref p=>
  cases rx;have e':(∃xs,SqL X.K H p xs/\k= !xs.isEmpty)\/(∃xs,SqT X.K H p xs/\k= !xs.isEmpty)\/∃kvs,H p=some (.dK kvs)/\k= !kvs.isEmpty:=e;rcases e' with⟨xs,hx,e'⟩|⟨xs,hx,e'⟩|⟨kvs,hx,e'⟩
  ·subst e';obtain⟨its,r,pl,hz⟩:=I.list hx;have hlen:=r.length;exact wpAny_truthy_list pl.isList (by simp only[CH];omega) ⟨H,I.tok _,by rw[jf r];exact q⟩
  ·subst e';obtain⟨its,r,pl,hz⟩:=I.tuple hx;have hlen:=r.length;exact truthy_tuple pl (by simp only[CH];omega) ⟨H,I.tok _,by rw[jf r];exact q⟩
  ·subst e';obtain⟨hz,hS,vs,r,m⟩:kvs.length<=sizeLine/\(p==sysModules)=false/\∃vs,KV kvs vs/\s.heap.DictOf (bh X.prog X.w) p vs:=I.hok p _ hx;have hlen:kvs.length=vs.length:=Paired.length r;exact wpAny_truthy_dict hS m (by omega) ⟨H,I.tok _,by rw[nj r];exact q⟩
 |_=>exact(show False from e).elim
theorem rO(ha:PE X a ta)(he:∀whole,isTrue a X.env whole=(do let v <-whole;standAt a.pos;holding [v] (truthy v))):
  PT X a (fun σ H Q=>ta σ H fun x H'=>∃k,xI X.K x H' k/\Q k H'):=by
 intro pins s σ H Q I h;exact isTrue_plain (bL (ha pins s σ H _ I h) fun v s1⟨x,H1,I1,r1,q1⟩=>xJ pins s1 σ H1 x v Q I1 r1 q1)<|he _
theorem d9:OpR X (binaryOp .Add) (fun x y H Q=>∃i j,x=.str i/\y=.str j/\i.length+j.length<=sizeLine/\Q (.str<|i++j) H):=by
 intro pins s σ H x y v u Q I rx ry h;obtain⟨i,j,rfl,rfl,hz,q⟩:=h;obtain⟨t,rfl⟩:=rx;obtain⟨t',rfl⟩:=ry;exact add_str (fun t' tk=>⟨.str<|i++j,H,I.tok _,⟨_,rfl⟩,q⟩) hz
theorem gP{x:V}{us:List Cr}(r:Vals [x] us):∃u,us=[u]/\RelV x u:=by
 cases r with
 |cons r1 r2=>cases r2;exact⟨_,rfl,r1⟩
theorem oE{x y:V}{us:List Cr}(r:Vals [x,y] us):∃u w',us=[u,w']/\RelV x u/\RelV y w':=by
 cases r with
 |cons r1 r2=>
  cases r2 with
  |cons r3 r4=>cases r4;exact⟨_,_,rfl,r1,r3⟩
theorem gQ:eg X (.builtin "abs") (fun xs H Q=>∃i,xs=[.int i]/\Q (.int (if i<0 then -i else i)) H):=by
 intro pins s σ H xs us Q I r h;obtain⟨i,rfl,q⟩:=h;obtain⟨u,rfl,t,rfl⟩:=gP r;exact call_abs_int fun u tk=>⟨.int (if i<0 then -i else i),H,I.tok _,⟨_,rfl⟩,q⟩
theorem k4(hc:X.calm=true):eg X (.builtin "max") (fun xs H Q=>∃i j,xs=[.int i,.int j]/\Q (.int (if j>i then j else i)) H):=by
 intro pins s σ H xs us Q I r h;obtain⟨i,j,rfl,q⟩:=h;obtain⟨u,w',rfl,⟨t,rfl⟩,⟨t',rfl⟩⟩:=oE r;refine max_two_ints (I.ok.hd hc) fun h' tk k=>⟨_,H,I.kept k,?_,q⟩
 by_cases hj:j>i;·rw[if_pos hj,if_pos hj];exact⟨_,rfl⟩
 ·rw[if_neg hj,if_neg hj];exact⟨_,rfl⟩
def lQ(K:Cq)(x:V)(H:Hp)(n:Nat):Prop:=
 match x with
 | .str y=>y.length<=sizeLine/\n=y.length
 | .byt y=>y.size<=sizeLine/\n=y.size
 | .ref p=>(∃xs,SqL K H p xs/\n=xs.length)\/∃xs,SqT K H p xs/\n=xs.length
 |_=>False
theorem rP:eg X (.builtin "len") (fun xs H Q=>∃x n,xs=[x]/\lQ X.K x H n/\Q (.int n) H):=by
 intro pins s σ H xs us Q I r h;obtain⟨x,n,rfl,e,q⟩:=h;obtain⟨u,rfl,rx⟩:=gP r;have hl:=ig;have hs:sizeLine=16777216:=DK;cases x with
 |str y=>
  obtain⟨t,rfl⟩:=rx;obtain⟨hy,e'⟩:y.length<=sizeLine/\n=y.length:=e;subst e';exact len_str (by omega) ⟨.int _,H,I.tok _,⟨_,rfl⟩,q⟩
 |byt y=>
  obtain⟨t,rfl⟩:=rx;obtain⟨hy,e'⟩:y.size<=sizeLine/\n=y.size:=e;subst e';exact PySem.W.len_bytes (by omega) ⟨.int _,H,I.tok _,⟨_,rfl⟩,q⟩
 |ref p=>
  cases rx;have e':(∃xs,SqL X.K H p xs/\n=xs.length)\/∃xs,SqT X.K H p xs/\n=xs.length:=e;rcases e' with⟨xs,hx,e'⟩|⟨xs,hx,e'⟩
  ·subst e';obtain⟨its,r',pl,hz⟩:=I.list hx;have hlen:=r'.length;exact Calls.call_len_list pl.isList (by simp only[CH];omega) ⟨.int xs.length,H,I.tok _,⟨_,by simp only[CH];rw[hlen]⟩,q⟩
  ·subst e';obtain⟨its,r',pl,hz⟩:=I.tuple hx;have hlen:=r'.length;exact len_tuple pl (by simp only[CH];omega) ⟨.int xs.length,H,I.tok _,⟨_,by simp only[CH];rw[hlen]⟩,q⟩
 |_=>exact(show False from e).elim
end
structure ObjM(h:Heap)(x dx C:Addr)(mA:Str->Option Cr):Prop where
 obj:h.get? x=some (EL C dx)
 ns:h.Ns1 dx mA
 ne:dx≠x
theorem qb{h:Heap}{dx:Addr}{mA:Str->Option Cr}(n:h.Ns1 dx mA):∃od,h.get? dx=some od/\∀name,GH name od=some (mA name):=by
 obtain⟨o,es,ep,ho,hd,hk,_,hm⟩:=n;refine⟨o,ho,fun name=>?_⟩;have e:=hm name;unfold nsFind findBy at e;rw[<-Array.find?_toList]at e;unfold GH;rw[hd];dsimp only;split
 ·rename_i y q;rw[q]at e;exact congrArg some e
 ·rename_i q;rw[q]at e;have a:es.toList.any (·.refKey)=false:=by
   rw[IJ];intro y hy;obtain⟨z,t,hkey⟩:=hk y<|HU.mp hy;simp[DictEntry.refKey,hkey]
  have a':¬es.toList.any (·.refKey)=true:=by rw[a];exact CS
  rw[if_neg a'];exact congrArg some e
theorem ObjM.look{h:Heap}{x dx C:Addr}{mA:Str->Option Cr}(I:ObjM h x dx C mA):∃od,G1 h x (EL C dx) C (some od)/\∀name,GH name od=some (mA name):=
 let ⟨od,ho,hl⟩:=qb I.ns
 ⟨od,⟨I.obj,rfl,rfl,ho⟩,hl⟩
section
variable{prog:CQ}{w:D4}{A:De}{E:Cr->Cu->Prop}{s:Cu}{K:Cq}{x dx C f:Addr}{mA:Str->Option Cr}{name:Str}{v:Cr}
theorem vn{expr:Bool}{Q:Cr->Cu->Prop}(X:K.In s.heap)(I:ObjM s.heap x dx C mA)(hg:Fc K C name=true)(hh:Fw K C=true)
  (ha:Cw K (.ref C) name=some none) (hv:mA name=some v) (hv':J9 v=true) (h:Q v {s with toks:=s.toks+1}):
  wpAny (model prog w) A (getAttr (.ref x) name expr) Q E s:=by
 obtain⟨od,J,hl⟩:=I.look;exact PySem.W.get_value X J (Gz hg).1 (PySem.W.findObj_own hh ha rfl (by rw[hl,hv])) hv' h
theorem rQ{pl:Sem Bool}{Q:Cr×List Cr->Cu->Prop}(X:K.In s.heap)(I:ObjM s.heap x dx C mA)(hg:Fc K C name=true)
  (hf:Cw K (.ref C) name=some (some<|.ref f)) (ht:E9 K (.ref f)=true) (hv:mA name=none) (h:Q (.ref f,[.ref x]) s):
  wpAny (model prog w) A (getMethod (.ref x) name pl) Q E s:=by
 obtain⟨od,J,hl⟩:=I.look;exact PySem.W.method_fn X J (Gz hg).1 (Gz hg).2 hf (beq_iff_eq.mp ht) (by show(GH name od).map (·.isSome)=some false;rw[hl,hv];rfl) h
theorem vo{ns:List Str}{Q:Unit->Cu->Prop}(X:K.In s.heap)(I:ObjM s.heap x dx C mA)
  (hs:Cw K (.ref C) "__setattr__"=some (some<|.builtin "object.__setattr__")) (hp:G2 K C=true) (ht:HC K C name=some none) (hh:Fw K C=true)
  (hw:IH mA ns) (hsz:ns.length<=sizeLine)
  (h:∀h',ObjM h' x dx C (fun y=>if y=name then some v else mA y)->CT dx s.heap h'->Q () {s with heap:=h',toks:=s.toks+2}):
  wpAny (model prog w) A (setAttr (.ref x) name v) Q E s:=by
 obtain⟨od,J,hl⟩:=I.look;refine PySem.W.set_plain X J hs<|PySem.W.osa_open (s:={s with toks:=s.toks+1}) (r:=none) X J hp ht fun b=>?_;obtain⟨cd,hc,hd'⟩:=PySem.W.any_some hh;have hx:s.heap.get? x=some ⟨.ref C,some dx,.plain, #[]⟩:=I.obj;refine Co<|CC<|Co<|Co<|Js hx<|Co<|KH (s:={s with toks:=s.toks+1}) (PySem.W.looks_clsIn X hc) ?_;rw[hd'];refine CC (a:=some dx)<|Co<|CC<|Co ?_;refine wpAny_nsSet1 (s:={s with toks:=s.toks+1}) I.ns fun h' hn2 hs2=>?_;obtain⟨oD,esD,epD,hoD,hdD,hcD⟩:=hn2.count<|KU name v hw;refine Co (wpAny_lookBehind hoD (by rw[hdD];exact pastItsLine_dict (Ei hcD (by rw[Dr];omega))) ?_);exact CC<|h _ ⟨(hs2.2 _<|E8 I.ne).trans I.obj,hn2,I.ne⟩ hs2
theorem rR{R:Kg->Cu->Prop}{vs:List Cr}{kw:List (Str×Cr)}(X:K.In s.heap)(hm:Gs K C=true)
  (hi:Cw K (.ref C) "__init__"=some (some<|.ref f)) (hf:PySem.W.typeIn K (.ref f)=some (.type "function"))
  (h:codeAny (model prog w) (A.under<|.builtin "type.__call__" ⟨.ref C::vs,kw⟩) (.call (.ref f) ⟨.ref (s.heap.objs.size+1)::vs,kw⟩) (PySem.W.InitBack (s.heap.objs.size+1) R)
   {s with heap:=(s.heap.push Ef).push (EL C s.heap.objs.size)}):
  codeAny (model prog w) A (.call (.ref C) ⟨vs,kw⟩) R s:=by
 obtain⟨hh,g,d,t,os⟩:=s;exact PySem.W.make_core (PySem.W.makes_of X hm) (GI X hi) (fun self=>PySem.W.bind_fn X self hf) (.inl rfl) h
end
def du(f:Str)(v:V):List (Str×V)->List (Str×V)
 | []=>[(f,v)]
 |(g,x)::r=>if g=f then(g,v)::r else(g,x)::du f v r
theorem iE(f g:Str)(v:V):∀fs:List (Str×V),(du f v fs).lookup g=if g=f then some v else fs.lookup g
 | []=>by
  show Eg g [(f,v)]=_;by_cases h:g=f
  ·have hb:(g == f)=true:=beq_iff_eq.mpr h;simp only[Eg,hb,if_pos h]
  ·have hb:(g == f)=false:=beq_eq_false_iff_ne.mpr h;simp only[Eg,hb,if_neg h]
 |(k,x)::r=>by
  have ih:=iE f g v r;rw[show du f v ((k,x)::r)=(if k=f then(k,v)::r else(k,x)::du f v r)from rfl];by_cases hk:k=f
  ·rw[if_pos hk];by_cases h:g=k
   ·have hb:(g == k)=true:=beq_iff_eq.mpr h;simp only[Eg,hb,if_pos<|h.trans hk]
   ·have hb:(g == k)=false:=beq_eq_false_iff_ne.mpr h;simp only[Eg,hb,if_neg (fun e:g=f=>h<|e.trans hk.symm)]
  ·rw[if_neg hk];by_cases h:g=k
   ·have hb:(g == k)=true:=beq_iff_eq.mpr h;simp only[Eg,hb,if_neg (fun e:g=f=>hk<|h.symm.trans e)]
   ·have hb:(g == k)=false:=beq_eq_false_iff_ne.mpr h;simp only[Eg,hb];exact ih
theorem ij(f:Str)(v:V):∀fs:List (Str×V),f∈(du f v fs).map (·.1)/\∀g,g∈fs.map (·.1)->g∈(du f v fs).map (·.1)
 | []=>⟨by simp[du],fun g h=>by simp at h⟩
 |(k,x)::r=>by
  obtain⟨i1,i2⟩:=ij f v r;rw[show du f v ((k,x)::r)=(if k=f then(k,v)::r else(k,x)::du f v r)from rfl];by_cases hk:k=f
  ·rw[if_pos hk];subst hk;exact⟨by simp,fun g h=>by simpa using h⟩
  ·rw[if_neg hk];refine⟨?_,fun g h=>?_⟩
   ·rw[Dy];exact CG _ i1
   ·rw[Dy]at h ⊢;rcases CM.mp h with e|e
    ·exact CM.mpr<|.inl e
    ·exact CG _<|i2 g e
theorem iF(f:Str)(v:V):∀fs:List (Str×V),(du f v fs).length<=fs.length+1
 | []=>by simp[du]
 |(k,x)::r=>by
  have ih:=iF f v r;rw[show du f v ((k,x)::r)=(if k=f then(k,v)::r else(k,x)::du f v r)from rfl];by_cases hk:k=f;·rw[if_pos hk,Dr,Dr];omega
  ·rw[if_neg hk,Dr,Dr];omega
theorem RelO.some_of{v:V}{o:Option Cr}(r:RelO (some v) o):∃u,o=some u/\RelV v u:=by
 cases o with
 |none=>exact(show False from r).elim
 |some u=>exact⟨u,rfl,r⟩
theorem RelO.none_of{o:Option Cr}(r:RelO none o):o=none:=by
 cases o with
 |none=>rfl
 |some u=>exact(show False from r).elim
theorem qc{v:V}{u:Cr}(r:RelV v u):J9 u=true:=by
 cases v with
 |non=>cases (show u=Dq from r);rfl
 |bl b=>cases (show u=Iq b from r);rfl
 |int i=>obtain⟨t,e⟩:=(show ∃t,u=GF i t from r);cases e;rfl
 |str x=>obtain⟨t,e⟩:=(show ∃t,u=HZ x t from r);cases e;rfl
 |byt b=>obtain⟨t,e⟩:=(show ∃t,u=Ks b t from r);cases e;rfl
 |flt b=>obtain⟨t,e⟩:=(show ∃t,u=Jd b t from r);cases e;rfl
 |ref a=>cases (show u=CO a from r);rfl
 |ty n=>cases (show u=KG n from r);rfl
section
variable{P:CQ}{w:D4}{H H':Hp}{h h':Heap}{a C dx:Addr}{fs fs':List (Str×V)}
theorem iX(hok:HOk P w H h)(e:H a=some (.ins C dx fs)):∃mA,ObjM h a dx C mA/\(∀f,RelO (fs.lookup f)<|mA f)/\IH mA (fs.map (·.1))/\fs.length<=1000/\H dx=some (.own a):=by
 obtain⟨d,z,ne,ob,mA,n,r,q⟩:=(show ObjOk P w H h a (.ins C dx fs)from hok a _ e)
 exact⟨mA,⟨ob,n,ne⟩,r,q,z,d⟩
end
structure Cls(K:Cq)(C:Addr):Prop where
 pg:Fc K C I9=true
 hd:Fw K C=true
 po:G2 K C=true
 sa:Cw K (.ref C) "__setattr__"=some (some<|.builtin "object.__setattr__")
theorem Cls.get{K:Cq}{C:Addr}(c:Cls K C)(f:Str):Fc K C f=true:=c.pg
def NoAttr(K:Cq)(C:Addr)(f:Str):Prop:=Cw K (.ref C) f=some none
theorem NoAttr.taker{K:Cq}{C:Addr}{f:Str}(n:NoAttr K C f):HC K C f=some none:=by
 unfold HC;rw[show Cw K (.ref C) f=some none from n];rfl
structure Meth(K:Cq)(C:Addr)(m:Str)(f:Addr):Prop where
 at_:Cw K (.ref C) m=some (some<|.ref f)
 fn:E9 K (.ref f)=true
 kp:CZ K (.ref f)=true
section
variable{X:Cx}{pins:List (Addr×Obj)}{σ:St}{H:Hp}{s:Cu}{a C dx:Addr}{fs:List (Str×V)}{f:Str}{v:V}{A:De}{E:Cr->Cu->Prop}
theorem nq{b:Bool}{Q:Cr->Cu->Prop}(I:Inv X pins σ H s)(e:H a=some (.ins C dx fs))(c:Cls X.K C)(n:NoAttr X.K C f)(l:fs.lookup f=some v)
  (h:∀u s',Inv X pins σ H s'->RelV v u->Q u s'):wpAny (model X.prog X.w) A (getAttr (.ref a) f b) Q E s:=by
 obtain⟨mA,O,r,_,_,_⟩:=iX I.hok e;obtain⟨u,hu,ru⟩:=RelO.some_of (v:=v) (o:=mA f) (by rw[<-l];exact r f);exact vn I.kIn O (c.get f) c.hd n hu (qc ru)<|h u _ (I.tok _) ru
theorem jg{m:Str}{g:Addr}{pl:Sem Bool}{Q:Cr×List Cr->Cu->Prop}(I:Inv X pins σ H s)(e:H a=some (.ins C dx fs))(c:Cls X.K C)(k:Meth X.K C m g)(l:fs.lookup m=none)
  (h:Q (.ref g,[.ref a]) s):wpAny (model X.prog X.w) A (getMethod (.ref a) m pl) Q E s:=by
 obtain⟨mA,O,r,_,_,_⟩:=iX I.hok e;have hn:mA m=none:=RelO.none_of (by rw[<-l];exact r m);exact rQ I.kIn O (c.get m) k.at_ k.fn hn h
theorem nr{y:V}{u:Cr}{Q:Unit->Cu->Prop}(I:Inv X pins σ H s)(e:H a=some (.ins C dx fs))(c:Cls X.K C)(n:NoAttr X.K C f)(hl:fs.length<1000)(ry:RelV y u)
  (h:∀s',Inv X pins σ (bP H a<|.ins C dx<|du f y fs) s'->Q () s'):wpAny (model X.prog X.w) A (setAttr (.ref a) f u) Q E s:=by
 obtain⟨mA,O,r,wi,_,ho⟩:=iX I.hok e;have hz:(fs.map (·.1)).length<=sizeLine:=by rw[E6,DK];omega
 refine vo I.kIn O c.sa c.po n.taker c.hd wi hz fun h' O' sb=>h _ ?_;have hd:∃o,h'.get? dx=some o:=let ⟨o,_,_,e',_⟩:=O'.ns;⟨o,e'⟩;refine I.write (x:=a) (e:=dx) (by rw[e];exact F6) (.inr ho) (fun b q hb z=>(sb.2 b hb).trans z) hd ?_;refine⟨by rw[ag O.ne];exact ho,?_,O.ne,O'.obj,_,O'.ns,fun g=>?_,fun g hg=>?_⟩;·have:=iF f y fs;omega
 ·show RelO ((du f y fs).lookup g) (if g=f then some u else mA g);rw[iE];by_cases q:g=f;·rw[if_pos q,if_pos q];exact ry
  ·rw[if_neg q,if_neg q];exact r g
 ·by_cases q:g=f;·rw[q];exact(ij f y fs).1
  ·refine(ij f y fs).2 g (wi g fun z=>hg ?_);show(if g=f then some u else mA g)=none;rw[if_neg q];exact z
theorem Inv.made(I:Inv X pins σ H s):Inv X pins σ (bP (bP H s.heap.objs.size<|.own<|s.heap.objs.size+1) (s.heap.objs.size+1)<|.ins C s.heap.objs.size [])
  {s with heap:=(s.heap.push Ef).push (EL C s.heap.objs.size)}:=by
 have e1:(s.heap.push Ef).get? s.heap.objs.size=some Ef:=CF s.heap rfl;have e2:((s.heap.push Ef).push (EL C s.heap.objs.size)).get? (s.heap.objs.size+1)=some (EL C s.heap.objs.size):=by
  have:=CF (s.heap.push Ef) (o:=EL C s.heap.objs.size) rfl
  rwa [Dj]at this
 have e3:(s.heap.push Ef).Ns s.heap.objs.size (fun _=>none):=⟨Ef, #[],_,e1,rfl,(fun e he=>absurd he (by simp)),fun _=>rfl⟩
 have I1:=I.laid (a:=s.heap.objs.size) (o:=.own<|s.heap.objs.size+1) (h':=s.heap.push Ef) (t':=s.toks) (fun b u q=>Cs _ q) (CK _) ⟨_,e1⟩;refine I1.laid (a:=s.heap.objs.size+1) (o:=.ins C s.heap.objs.size []) (t':=s.toks) (fun b u q=>Cs _ q) (Kh<|Dj _ _) ?_;have ne:s.heap.objs.size≠s.heap.objs.size+1:=CN<|Ea _;refine⟨by rw[ag ne,ai],HV _,ne,e2,fun _=>none,(Heap.Ns1.of_empty e3).at fun o q=>Cs _ q,fun _=>F6,fun y hy=>absurd rfl hy⟩
theorem vp{prog:CQ}{w:D4}{env:Env}{e:Expr}{f:Str}{pos:Pos}{s:Cu}{Q:Cr->Cu->Prop}(hb:attributeBase e f env (eval e env)=eval e env)
  (h:wpAny (model prog w) A (eval e env) (fun o s₁=>wpAny (model prog w) A (getAttr o f true) Q E s₁) E s):wpAny (model prog w) A (eval (.Attribute e f pos) env) Q E s:=
 Attribute_any_ h (by rw[arm_eval_Attribute,hb])
end
def rS(K:Cq)(ta:TE)(f:Str):TE:=fun σ H Q=>ta σ H fun x H1=>∃a C dx fs v,x=.ref a/\H1 a=some (.ins C dx fs)/\Cls K C/\NoAttr K C f/\fs.lookup f=some v/\Q v H1
def vq(K:Cq)(ta tv:TE)(f:Str):TS:=fun D σ H=>tv σ H fun y H1=>ta σ H1 fun x H2=>∃a C dx fs,x=.ref a/\H2 a=some (.ins C dx fs)/\Cls K C/\NoAttr K C f/\fs.length<1000/\
 D.nx σ (bP H2 a<|.ins C dx<|du f y fs)
def xK(X:Cx)(op:Kt)(rd:V->V->Hp->VK->Prop):Prop:=
 ∀(pins:List (Addr×Obj))(s:Cu)(σ:St)(H:Hp)(x y:V)(u v:Cr)(Q:VK),Inv X pins σ H s->RelV x u->RelV y v->rd x y H Q->wpAny (model X.prog X.w) X.A (inplaceOp op u v) (EP X pins σ Q) X.xe s
section
variable{X:Cx}{o e value:Expr}{f:Str}{pos pos' tpos:Pos}{ta tv:TE}
theorem xM(he:PE X e ta)(hb:attributeBase e f X.env (eval e X.env)=eval e X.env):PE X (.Attribute e f pos) (rS X.K ta f):=by
 intro pins s σ H Q I h;refine vp hb<|bL (he pins s σ H _ I h) fun u s1 zz=>?_;obtain⟨x,H1,I1,rx,a,C,dx,fs,v,ex,ea,c,n,l,q⟩:=zz;subst ex;obtain rfl:u=CO a:=rx;exact nq I1 ea c n l fun u' s2 I2 ru=>⟨v,H1,I2,ru,q⟩
theorem en(ha:PE X o ta)(hv:PE X value tv)(hs:swapsWith value (some<|.Attribute o f pos') pos.line X.env=pure false):PS X (.Assign [.Attribute o f pos'] value pos) (vq X.K ta tv f):=by
 intro pins s σ H D I h;refine plainObj_wpAny_Assign_Attribute (bL (hv pins s σ H _ I h) fun u s1⟨y,H1,I1,ry,q⟩=>bL (ha pins s1 σ H1 _ I1 q) fun ov s2⟨x,H2,I2,rx,a,C,dx,fs,ex,ea,c,n,l,q2⟩=>?_) hs;subst ex;obtain rfl:ov=CO a:=rx;exact nr I2 ea c n l ry fun s3 I3=>⟨σ,_,I3,q2⟩
def B1:V->V->Hp->VK->Prop:=fun x y H Q=>∃i j,x=.int i/\y=.int j/\Q (.int<|i-j) H
theorem xN:xK X .Sub B1:=by
 rintro pins s σ H x y u v Q I rx ry ⟨i,j,rfl,rfl,q⟩;obtain⟨t,rfl⟩:=(show ∃t,u=GF i t from rx)
 obtain⟨t',rfl⟩:=(show ∃t',v=GF j t' from ry)
 exact Kl ⟨.int<|i-j,H,I.tok _,⟨_,rfl⟩,q⟩
end
section
variable{X:Cx}{pins:List (Addr×Obj)}{σ:St}{H:Hp}{s:Cu}{A:De}{E:Cr->Cu->Prop}{Q:Cr->Cu->Prop}{c:Cr}{b:Bool}
inductive TyOf(K:Cq)(H:Hp):V->Cr->Prop where
 |non:TyOf K H .non (.type "NoneType")
 |bl (x:Bool):TyOf K H (.bl x) (.type "bool")
 |int (i:Int):TyOf K H (.int i) (.type "int")
 |str (x:Str):TyOf K H (.str x) (.type "str")
 |flt (x:UInt64):TyOf K H (.flt x) (.type "float")
 |lst {a:Addr} {xs:List V} (e:H a=some (.lst xs)):TyOf K H (.ref a) (.type "list")
 |frz {a:Addr} {o:Obj} {xs:List V} (e:H a=some (.frz o<|.lst xs)):TyOf K H (.ref a) (.type "list")
 |tup {a:Addr} {xs:List V} (e:SqT K H a xs):TyOf K H (.ref a) (.type "tuple")
 |dK {a:Addr} {kvs:List (Key×V)} (e:H a=some (.dK kvs)):TyOf K H (.ref a) (.type "dict")
 |dT {a:Addr} {kvs:List (List Key×V)} (e:H a=some (.dT kvs)):TyOf K H (.ref a) (.type "dict")
 | ins {a C dx:Addr} {fs:List (Str×V)} (e:H a=some (.ins C dx fs)) (cl:Cls K C) (ha:Cw K (.ref C) "__class__" =some (some<|.builtin "object.__class__"))
   (hn:IK K (.builtin "object.__class__") "__get__"=some (some<|.builtin "getset_descriptor.__get__")) (htk:Jg K (.builtin "object.__class__")=some true)
   (hm:PySem.W.mroIn K C (.type "object")=some true):TyOf K H (.ref a) (.ref C)
theorem qd{x:V}{u t:Cr}(I:Inv X pins σ H s)(rx:RelV x u)(ty:TyOf X.K H x t)(e:Dp X.K t c=some b)(h:∀tk,Q (.bool b) {s with toks:=tk}):
  wpAny (model X.prog X.w) A (call (.builtin "isinstance") [u,c]) Q E s:=by
 cases ty with
 |non=>cases (show u=Dq from rx);exact DO PySem.W.kitx_none I.kIn F6 e (fun z=>nomatch z) h
 |bl y=>cases (show u=Iq y from rx);exact DO PySem.W.kitx_bool I.kIn F6 e (fun z=>nomatch z) h
 |int i=>obtain⟨t,q⟩:=(show ∃t,u=GF i t from rx);cases q;exact DO PySem.W.kitx_int I.kIn F6 e (fun z=>nomatch z) h
 |str y=>obtain⟨t,q⟩:=(show ∃t,u=HZ y t from rx);cases q;exact DO PySem.W.kitx_str I.kIn F6 e (fun z=>nomatch z) h
 |flt y=>obtain⟨t,q⟩:=(show ∃t,u=Jd y t from rx);cases q;exact DO PySem.W.kitx_float I.kIn F6 e (fun z=>nomatch z) h
 | @lst a xs ea=>
  cases (show u=CO a from rx);obtain⟨_,_,n,_,h1⟩:=(show ObjOk X.prog X.w H s.heap a (.lst xs)from I.hok a _ ea)
  exact DO IL I.kIn ⟨_,h1,rfl⟩ e (fun z=>nomatch z) h
 | @frz a ob xs ea=>
  cases (show u=CO a from rx);obtain⟨_,_,_,n,_,h1⟩:=(show ObjOk X.prog X.w H s.heap a (.frz ob<|.lst xs)from I.hok a _ ea)
  exact DO IL I.kIn ⟨_,h1,rfl⟩ e (fun z=>nomatch z) h
 | @tup a xs ea=>
  cases (show u=CO a from rx);obtain⟨_,_,p,_⟩:=I.tuple ea;obtain⟨o,h1,h2,_⟩:=p;exact DO PySem.W.kitx_tuple I.kIn ⟨o,h1,h2⟩ e (fun z=>nomatch z) h
 | @dK a kvs ea=>
  cases (show u=CO a from rx);obtain⟨_,_,vs,_,p⟩:=(show ObjOk X.prog X.w H s.heap a (.dK kvs)from I.hok a _ ea)
  obtain⟨o,es,ep,h1,h2,_⟩:=p;exact DO IM I.kIn ⟨o,h1,h2.1⟩ e (fun z=>nomatch z) h
 | @dT a kvs ea=>
  cases (show u=CO a from rx);obtain⟨_,_,xs,_,o,es,ep,h1,h2,_⟩:=(show ObjOk X.prog X.w H s.heap a (.dT kvs)from I.hok a _ ea)
  exact DO IM I.kIn ⟨o,h1,h2.1⟩ e (fun z=>nomatch z) h
 | @ins a C dx fs ea cl ha hn htk hm=>
  cases (show u=CO a from rx);obtain⟨mA,O,_⟩:=iX I.hok ea;obtain⟨od,J,_⟩:=O.look;exact DO (PySem.W.kitx_own (cl.get _) cl.hd ha hn htk hm) I.kIn J e (fun z=>nomatch z) h
end
structure Room(k:Nat)(A:De):Prop where
 hd:A.handled=none
 dp:A.depth+3*k+5<recursionLimit
 un:A.units+16*k+200<cLine
theorem Room.mono{j k:Nat}{A:De}(r:Room k A)(h:j<=k):Room j A:=⟨r.hd,by have:=r.dp;omega,by have:=r.un;omega⟩
theorem Room.deeper{k:Nat}{A:De}(r:Room (k+1) A)(env:Env):Room k (A.deeper env):=
 ⟨r.hd,by have:=r.dp;show A.depth+1+3*k+5<_;omega,by have:=r.un;show A.units+3+16*k+200<_;omega⟩
theorem nt{A:De}{C:Addr}{us:List Cr}{kw:List (Str×Cr)}:(A.under<|.builtin "type.__call__" ⟨.ref C::us,kw⟩).depth=A.depth+1:=by
 first|rfl|simp[IP,Code.weight,Code.isCreation,Code.isGuard,Code.isCaller,Ku,IQ,guardIds]
theorem nu{A:De}{C:Addr}{us:List Cr}{kw:List (Str×Cr)}:(A.under<|.builtin "type.__call__" ⟨.ref C::us,kw⟩).units=A.units+1:=by
 first|rfl|simp[IP,Code.cUnits,Ku,IQ]
theorem Room.make{k:Nat}{A:De}(r:Room (k+1) A)(C:Addr)(us:List Cr)(kw:List (Str×Cr)):Room k (A.under<|.builtin "type.__call__" ⟨.ref C::us,kw⟩):=
 ⟨r.hd,by have:=r.dp;rw[nt];omega,by have:=r.un;rw[nu];omega⟩
theorem Room.depth{k:Nat}{A:De}(r:Room k A):A.depth<recursionLimit:=by have:=r.dp;omega
def aE:TA:=fun _ H Q=>Q [] H
def ah(ta:TE)(tr:TA):TA:=fun σ H Q=>ta σ H fun x H1=>tr σ H1 fun xs H2=>Q (x::xs) H2
section
variable{X:Cx}{e:Expr}{es:List Expr}{te:TE}{t:TA}{pos:Pos}
theorem a5:PA X [] aE:=fun _ _ _ _ H Q I h=>IS ⟨[],H,I,.nil,h⟩
theorem a4(ha:PE X e te)(hr:PA X es t)(hs:starEach (e::es) X.env=(false,eval e X.env)::starEach es X.env:=by rfl):PA X (e::es) (ah te t):=by
 intro pos pins s σ H Q I h;rw[hs];show wpAny _ _ (spliced ((false,eval e X.env)::backTo pos (starEach es X.env))) _ _ s;refine GJ<|bL (ha pins s σ H _ I h) fun u s1 zz=>?_;obtain⟨x,H1,I1,r1,q1⟩:=zz;refine bL (hr pos pins s1 σ H1 _ I1 q1) fun us s2 zz=>?_;obtain⟨xs,H2,I2,r2,q2⟩:=zz;exact⟨x::xs,H2,I2,.cons r1 r2,q2⟩
def cm(t:TA):TE:=fun σ H Q=>t σ H fun xs H1=>xs.length<=sizeLine/\∀p,H1 p=none->Q (.ref p) (bP H1 p<|.tup xs)
def cu(t:TA):TE:=fun σ H Q=>t σ H fun xs H1=>xs.length<=sizeLine/\∀p,H1 p=none->Q (.ref p) (bP H1 p<|.lst xs)
theorem bg{x1}(h:PA X es t):PE X (.Tuple es x1 pos) (cm t):=by
 intro pins s σ H Q I hq;refine wpAny_Tuple_spliced (bL (h pos pins s σ H _ I hq) fun us s1⟨xs,H1,I1,r,z,q⟩=>⟨by rw[<-r.length];exact z,?_⟩);have hf:H1 s1.heap.objs.size=none:=I1.hok.fresh<|CK _;refine⟨.ref s1.heap.objs.size,bP H1 s1.heap.objs.size<|.tup xs,I1.laid (t':=s1.toks) (fun b u e=>Cs _ e) (CK _) ?_,rfl,q _ hf⟩;exact⟨z,us,r,⟨_,CF _ rfl,⟨rfl,rfl⟩,_,rfl⟩⟩
theorem bM(h:PA X es t):PE X (.List es pos) (cu t):=by
 intro pins s σ H Q I hq;refine wpAny_List_spliced (bL (h pos pins s σ H _ I hq) fun us s1⟨xs,H1,I1,r,z,q⟩=>⟨by rw[<-r.length];exact z,?_⟩);have hf:H1 s1.heap.objs.size=none:=I1.hok.fresh<|CK _;refine⟨.ref s1.heap.objs.size,bP H1 s1.heap.objs.size<|.lst xs,I1.laid (t':=s1.toks) (fun b u e=>Cs _ e) (CK _) ?_,rfl,q _ hf⟩;exact⟨z,us,0,r,CF _ rfl⟩
end
abbrev Sp:=List V->Hp->VK->XK->Prop
abbrev CXT:=List Env->Hp->Cu->XK->Cr->Cu->Prop
structure Env0(P:CQ)(w:D4)(K:Cq)(mg:Str->Option Cr)(base:Heap)(A:De)(outer:List Env)(s:Cu)(H:Hp):Prop where
 frames:A.frames=some outer
 mod:Mod K mg base
 bs:∀b o,base.get? b=some o->s.heap.get? b=some o/\H b=none
 bsz:base.objs.size<=s.heap.objs.size
 funs:s.heap.FunFrames base outer
 frf:∀b∈frs outer,H b=none
 hok:HOk P w H s.heap
 bare:GB s.gens
def CE(outer:List Env)(P:CQ)(w:D4)(H:Hp)(s:Cu)(Q:VK)(u:Cr)(s':Cu):Prop:=
 ∃v H',s'.os=s.os/\GB s'.gens/\Un (frs outer) [] H H' s.heap s'.heap/\HOk P w H' s'.heap/\RelV v u/\Q v H'
def CR(CX:CXT)(outer:List Env)(P:CQ)(w:D4)(H:Hp)(s:Cu)(Q:VK)(E:XK)(r:Kg)(s':Cu):Prop:=
 match r with
 | .ok (.ret u)=>CE outer P w H s Q u s'
 | .ok _=>False
 | .error e=>CX outer H s E e s'
structure FnOk(P:CQ)(w:D4)(K:Cq)(mg:Str->Option Cr)(base:Heap)(CX:CXT)(k:Nat)(f:Addr)(fd:CP)(ps:List Str)(sp:Sp):Prop where
 len:∀vs H Q E,sp vs H Q E->vs.length=ps.length
 run:∀(A:De)(outer:List Env)(s:Cu)(H:Hp)(args:Args)(us:List Cr)(vs:List V)(Q:VK)(E:XK),Room k A->Env0 P w K mg base A outer s H->Ia s fd args (ps.zip us)->Vals vs us->sp vs H Q E->
  codeAny (model P w) A (.call (.ref f) args) (CR CX outer P w H s Q E) s
theorem FnOk.imp{P:CQ}{w:D4}{K:Cq}{mg:Str->Option Cr}{base:Heap}{CX:CXT}{k:Nat}{f:Addr}{fd:CP}{ps:List Str}{sp sp':Sp}(F:FnOk P w K mg base CX k f fd ps sp)
  (h:∀vs H Q E,sp' vs H Q E->sp vs H Q E):FnOk P w K mg base CX k f fd ps sp':=
 ⟨fun vs H Q E q=>F.len vs H Q E<|h _ _ _ _ q,fun A outer s H args us vs Q E hr he hb hv hs=>F.run A outer s H args us vs Q E hr he hb hv<|h _ _ _ _ hs⟩
theorem Env0.make{P:CQ}{w:D4}{K:Cq}{mg:Str->Option Cr}{base:Heap}{A:De}{outer:List Env}{s:Cu}{H:Hp}(e:Env0 P w K mg base A outer s H)(C:Addr)(us:List Cr)(kw:List (Str×Cr)):
  Env0 P w K mg base (A.under<|.builtin "type.__call__" ⟨.ref C::us,kw⟩) outer s H:=⟨by first|exact e.frames|(simpa [IP,Code.envs,IQ,pushEnvs] using e.frames),e.mod,e.bs,e.bsz,e.funs,e.frf,e.hok,e.bare⟩
section
variable{X:Cx}{pins:List (Addr×Obj)}{σ:St}{H:Hp}{s s':Cu}
theorem Inv.env0(I:Inv X pins σ H s):Env0 X.prog X.w X.K X.mg X.base X.A X.stack s H:=
 ⟨I.ok.frames,I.ok.mod,I.bs,Ei I.ok.bsz I.sz,I.stack,I.stkFree,I.hok,I.bare⟩
theorem Inv.after{Q:VK}{u:Cr}(I:Inv X pins σ H s)(h:CE X.stack X.prog X.w H s Q u s'):EP X pins σ Q u s':=by
 obtain⟨v,H',os,bare,un,hok,r,q⟩:=h;obtain⟨hh,g,d,t,os'⟩:=s';obtain rfl:os'=s.os:=os;exact⟨v,H',I.call (h':=hh) (g':=g) (d':=d) (t':=t) (ch:=[]) un hok bare (fun b z=>absurd z (by simp)),r,q⟩
end
def aI(sp:Sp)(dvs:List V)(E:XK)(t:TA):TE:=fun σ H Q=>t σ H fun vs H1=>sp (vs++dvs) H1 Q E
def eU(C:Addr)(m:Str)(sp:Sp)(dvs:List V)(E:XK)(ta:TE)(t:TA):TE:=fun σ H Q=>ta σ H fun x H1=>∃a dx fs,x=.ref a/\H1 a=some (.ins C dx fs)/\fs.lookup m=none/\
 t σ H1 fun vs H2=>sp (x::(vs++dvs)) H2 Q E
def oF(C:Addr)(sp:Sp)(dvs:List V)(E:XK)(t:TA):TE:=fun σ H Q=>t σ H fun vs H1=>∀x dx,H1 x=none->H1 dx=none->dx≠x->
 sp (.ref x::(vs++dvs)) (bP (bP H1 dx<|.own x) x<|.ins C dx []) (fun v H2=>v=.non/\Q (.ref x) H2) E
def Binds(K:Cq)(fd:CP)(ps:List Str)(ds:List Cr):Prop:=
 ∀(s:Cu)(us:List Cr),K.In s.heap->(us++ds).length=ps.length->Ia s fd ⟨us,[]⟩ (ps.zip<|us++ds)
theorem Binds.all{K:Cq}{fd:CP}{ps:List Str}(h:∀us:List Cr,us.length=ps.length->bindArgs fd ⟨us,[]⟩=pure (ps.zip us)):Binds K fd ps []:=fun s us _ hl=>by
 rw[Dh]at hl ⊢;exact .of_eq<|h us hl
def dN(CX:CXT)(X:Cx)(E:XK):Prop:=∀(pins:List (Addr×Obj))(σ:St)(H:Hp)(s:Cu)(e:Cr)(s':Cu),Inv X pins σ H s->CX X.stack H s E e s'->X.xe e s'
section
variable{X:Cx}{CX:CXT}{k:Nat}{f C:Addr}{fd:CP}{ps:List Str}{sp:Sp}{dvs:List V}{ds:List Cr}{E:XK}{x m:Str}{p pos apos:Pos}{e o:Expr}{es:List Expr}{ta:TE}{t:TA}
theorem nv{pins:List (Addr×Obj)}{σ:St}{H:Hp}{s:Cu}{Q:VK}{us:List Cr}{vs:List V}(F:FnOk X.prog X.w X.K X.mg X.base CX k f fd ps sp)(hr:Room k X.A)(hb:Binds X.K fd ps ds)(hd:Vals dvs ds)(hx:dN CX X E)
  (I:Inv X pins σ H s) (r:Vals vs us) (h:sp (vs++dvs) H Q E):wpAny (model X.prog X.w) X.A (call (.ref f) us) (EP X pins σ Q) X.xe s:=by
 have r2:Vals (vs++dvs) (us++ds):=r.append hd;have hl:(us++ds).length=ps.length:=by rw[<-r2.length];exact F.len _ _ _ _ h
 refine Hs<|GC (F.run X.A X.stack s H ⟨us,[]⟩ (us++ds) (vs++dvs) Q E hr I.env0 (hb s us I.kIn hl) r2 h) fun r s' hq=>?_;cases r with
 |error e=>exact hx pins σ H s e s' I hq
 |ok fl=>
  cases fl with
  |ret u=>exact I.after hq
  |next=>exact DY hq
  |brk=>exact DY hq
  |cont=>exact DY hq
theorem oG(F:FnOk X.prog X.w X.K X.mg X.base CX k f fd ps sp)(hr:Room k X.A)(hg:Gl X x)(hm:X.mg x=some (.ref f))(hk:CZ X.K (.ref f)=true)(hb:Binds X.K fd ps ds)(hd:Vals dvs ds)(hx:dN CX X E)
  (ha:PA X (e::es) t) (hdb:(x==("__debug__" :Str))=false:=by decide) (he:starEach (e::es) X.env=(false,eval e X.env)::starEach es X.env:=by rfl) (hpl:(backTo pos<|starEach es X.env).any (·.1)=false:=by rfl):
  PE X (.Call (.Name x p) (e::es) [] pos) (aI sp dvs E t):=by
 intro pins s σ H Q I h;refine Fj<|fY I hg hm ?_ hdb;refine FQ (h₀:=X.base) I.ok.mod.kin hk (bL (ha pos pins s σ H _ I h) fun us s1⟨vs,H1,I1,r,q⟩=>⟨I1.kIn,?_⟩) he hpl;exact nv F hr hb hd hx I1 r q
theorem oH{pl:Sem Bool}(he:PE X o ta)(c:Cls X.K C)(hm:Meth X.K C m f)(F:FnOk X.prog X.w X.K X.mg X.base CX k f fd ps sp)(hr:Room k X.A)(hb:Binds X.K fd ps ds)(hd:Vals dvs ds)(hx:dN CX X E)(ha:PA X (e::es) t)
  (hst:starEach (e::es) X.env=(false,eval e X.env)::starEach es X.env:=by rfl) (hpl:(backTo pos<|starEach es X.env).any (·.1)=false:=by rfl)
  (ht:eval (.Call (.Attribute o m apos) (e::es) [] pos) X.env=(do
   let ov <-eval o X.env
   standAt apos.atName
   let (f,first) <-holding [ov] (getMethod ov m pl)
   callWith pos f first (backTo pos (starEach (e::es) X.env)) (backToKw pos (keywordEach [] X.env))):=by rfl):
  PE X (.Call (.Attribute o m apos) (e::es) [] pos) (eU C m sp dvs E ta t):=by
 intro pins s σ H Q I h;refine HG (pl:=pl) (bL (he pins s σ H _ I h) fun u s1⟨x,H1,I1,rx,a,dx,fs,ex,ea,l,q⟩=>?_) ht;subst ex;obtain rfl:u=CO a:=rx;refine jg I1 ea c hm l ?_;refine FQ (first:=[.ref a]) (h₀:=X.base) I.ok.mod.kin hm.kp (bL (ha pos pins s1 σ H1 _ I1 q) fun us s2⟨vs,H2,I2,r,q2⟩=>⟨I2.kIn,?_⟩) hst hpl;exact nv (us:=.ref a::us) (vs:=.ref a::vs) F hr hb hd hx I2 (.cons rfl r) q2
theorem rV{pl:Sem Bool}(he:PE X o ta)(c:Cls X.K C)(hm:Meth X.K C m f)(F:FnOk X.prog X.w X.K X.mg X.base CX k f fd ps sp)(hr:Room k X.A)(hb:Binds X.K fd ps ds)(hd:Vals dvs ds)(hx:dN CX X E)
  (ht:eval (.Call (.Attribute o m apos) [] [] pos) X.env=(do
   let ov <-eval o X.env
   standAt apos.atName
   let (f,first) <-holding [ov] (getMethod ov m pl)
   callWith pos f first (backTo pos (starEach [] X.env)) (backToKw pos (keywordEach [] X.env))):=by rfl):
  PE X (.Call (.Attribute o m apos) [] [] pos) (eU C m sp dvs E ta aE):=by
 intro pins s σ H Q I h;refine HG (pl:=pl) (bL (he pins s σ H _ I h) fun u s1⟨x,H1,I1,rx,a,dx,fs,ex,ea,l,q⟩=>?_) ht;subst ex;obtain rfl:u=CO a:=rx;refine jg I1 ea c hm l ?_;exact PySem.W.callWith_K0 (first:=[.ref a]) I1.kIn hm.kp<|nv (us:=[.ref a]) (vs:=[.ref a]) F hr hb hd hx I1 (.cons rfl .nil) q
structure Mk(K:Cq)(C f:Addr):Prop where
 makes:Gs K C=true
 init:Cw K (.ref C) "__init__"=some (some<|.ref f)
 fn:E9 K (.ref f)=true
 kp:CZ K (.ref C)=true
theorem rW{pins:List (Addr×Obj)}{σ:St}{H:Hp}{s:Cu}{Q:VK}{us:List Cr}{vs:List V}(M:Mk X.K C f)(F:FnOk X.prog X.w X.K X.mg X.base CX k f fd ps sp)(hr:Room (k+1) X.A)(hb:Binds X.K fd ps ds)(hd:Vals dvs ds)
  (hx:dN CX X E) (I:Inv X pins σ H s) (r:Vals vs us)
  (h:∀x dx,H x=none->H dx=none->dx≠x->sp (.ref x::(vs++dvs)) (bP (bP H dx<|.own x) x<|.ins C dx []) (fun v H2=>v=.non/\Q (.ref x) H2) E):
  wpAny (model X.prog X.w) X.A (call (.ref C) us) (EP X pins σ Q) X.xe s:=by
 have hq:=h (s.heap.objs.size+1) s.heap.objs.size (I.hok.fresh<|Gi _) (I.hok.fresh<|CK _)<|CN<|Ea _;have I2:=Inv.made (C:=C) I;have r2:Vals (V.ref (s.heap.objs.size+1)::(vs++dvs)) (CO (s.heap.objs.size+1)::(us++ds)):=.cons rfl<|r.append hd;have hl:(CO (s.heap.objs.size+1)::us++ds).length=ps.length:=by
  have e:=r2.length;rw[F.len _ _ _ _ hq]at e;exact e.symm
 refine Hs (rR (f:=f) I.kIn M.makes M.init (beq_iff_eq.mp M.fn) (GC (F.run _ X.stack _ _ ⟨CO (s.heap.objs.size+1)::us,[]⟩ (CO (s.heap.objs.size+1)::(us++ds)) _ _ E (hr.make C us [])
  (I2.env0.make C us []) (hb _ (CO (s.heap.objs.size+1)::us) I2.kIn hl) r2 hq) fun r s' hq'=>?_))
 cases r with
 |error e=>exact hx pins σ _ _ e s' I2 hq'
 |ok fl=>
  cases fl with
  |ret u=>
   obtain⟨v,H',I3,rv,ev,q3⟩:=I2.after hq';subst ev;exact⟨rv,⟨V.ref<|s.heap.objs.size+1,H',I3,rfl,q3⟩⟩
  |next=>exact DY hq'
  |brk=>exact DY hq'
  |cont=>exact DY hq'
theorem vt(M:Mk X.K C f)(F:FnOk X.prog X.w X.K X.mg X.base CX k f fd ps sp)(hr:Room (k+1) X.A)(hg:Gl X x)(hm:X.mg x=some (.ref C))(hb:Binds X.K fd ps ds)(hd:Vals dvs ds)(hx:dN CX X E)
  (ha:PA X (e::es) t) (hdb:(x==("__debug__" :Str))=false:=by decide) (he:starEach (e::es) X.env=(false,eval e X.env)::starEach es X.env:=by rfl) (hpl:(backTo pos<|starEach es X.env).any (·.1)=false:=by rfl):
  PE X (.Call (.Name x p) (e::es) [] pos) (oF C sp dvs E t):=by
 intro pins s σ H Q I h;refine Fj<|fY I hg hm ?_ hdb;refine FQ (h₀:=X.base) I.ok.mod.kin M.kp (bL (ha pos pins s σ H _ I h) fun us s1⟨vs,H1,I1,r,q⟩=>⟨I1.kIn,?_⟩) he hpl;exact rW M F hr hb hd hx I1 r q
end
structure FnScope(N P:List Str)(sc:Fh):Prop where
 kind:sc.kind=.function
 co:sc.isCoroutine=false
 gen:sc.isGenerator=false
 nd:N.Nodup
 pre:N.take P.length=P
 par:∀x∈P,sc.names.lookup x=some .local\/sc.names.lookup x=some .cell
 nofree:∀y∈sc.names,y.2≠.free
theorem k6{kindOf:Str->Option Fd}{x:Str}:∀{binds:List (Str×Cr)}{m:Str->Option Cr},(∀v,(x,v)∉binds)->bindL kindOf binds m x=m x
 | [],_,_=>rfl
 |(n,v)::r,m,h=>by
  unfold bindL;rw[k6 fun w hw=>h w<|CG _ hw];split
  ·have:x≠n:=by rintro rfl;exact h v CJ
   simp[this]
  ·rfl
theorem k8{kindOf:Str->Option Fd}{x:Str}:∀{binds:List (Str×Cr)}{m:Str->Option Cr},(∀v,(x,v)∉binds)->bindC kindOf binds m x=m x
 | [],_,_=>rfl
 |(n,v)::r,m,h=>by
  unfold bindC;rw[k8 fun w hw=>h w<|CG _ hw];split;·rfl
  ·have:x≠n:=by rintro rfl;exact h v CJ
   simp[this]
theorem ke{kindOf:Str->Option Fd}{x:Str}{v:Cr}:∀{P:List Str}{vs:List Cr}{i:Nat}{m:Str->Option Cr},P.Nodup->P[i]? =some x->vs[i]? =some v->kindOf x=some .local->
  bindL kindOf (P.zip vs) m x=some v
 | [],_,_,_,_,h,_,_=>by simp at h
 |_::_,[],_,_,_,_,h,_=>by simp at h
 |p::P,w::vs,0,m,nd,h1,h2,hk=>by
  simp at h1 h2;subst h1;subst h2;show bindL kindOf ((p,w)::P.zip vs) m p=_;unfold bindL;rw[k6 fun v hv=>(DP.mp nd).1 (EA hv).1,if_pos hk];simp
 |p::P,w::vs,i+1,m,nd,h1,h2,hk=>by
  show bindL kindOf ((p,w)::P.zip vs) m x=_;unfold bindL;exact ke (i:=i) (DP.mp nd).2 (by simpa using h1) (by simpa using h2) hk
theorem kf{kindOf:Str->Option Fd}{x:Str}{v:Cr}:∀{P:List Str}{vs:List Cr}{i:Nat}{m:Str->Option Cr},P.Nodup->P[i]? =some x->vs[i]? =some v->kindOf x≠some .local->
  bindC kindOf (P.zip vs) m x=some v
 | [],_,_,_,_,h,_,_=>by simp at h
 |_::_,[],_,_,_,_,h,_=>by simp at h
 |p::P,w::vs,0,m,nd,h1,h2,hk=>by
  simp at h1 h2;subst h1;subst h2;show bindC kindOf ((p,w)::P.zip vs) m p=_;unfold bindC;rw[k8 fun v hv=>(DP.mp nd).1 (EA hv).1,if_neg hk];simp
 |p::P,w::vs,i+1,m,nd,h1,h2,hk=>by
  show bindC kindOf ((p,w)::P.zip vs) m x=_;unfold bindC;exact kf (i:=i) (DP.mp nd).2 (by simpa using h1) (by simpa using h2) hk
def start(N:List Str)(vs:List V):St:=vs.map some++CI (N.length-vs.length) none
def jh(CX:CXT)(P:CQ)(w:D4)(K:Cq)(mg:Str->Option Cr)(base:Heap)(N:List Str)(qual:Str)(scope:Fh)(f:Addr)(cd:Cr)(A:De)(outer:List Env)(s:Cu)(H:Hp)(E:XK):Cx where
 prog:=P
 w:=w
 K:=K
 mg:=mg
 base:=base
 A:=A.deeper<|envOfC qual scope s.heap.objs.size f cd
 N:=N
 s₀:=s
 H₀:=H
 env:=envOfC qual scope s.heap.objs.size f cd
 outer:=outer
 stack:=envOfC qual scope s.heap.objs.size f cd::outer
 ex:=[]
 calm:=true
 fn:=fun _=>true
 pn:=[]
 xe:=fun e s'=>wpAny (model P w) (A.deeper<|envOfC qual scope s.heap.objs.size f cd) (leaving (envOfC qual scope s.heap.objs.size f cd) e) (fun _ s''=>CX outer H s E e s'') (fun e' s''=>CX outer H s E e' s'') s'
theorem lR{sc:Fh}{n:Nat}{x:Str}(h:sc.names.lookup x=some .cell):∃c,(cellsFrom n sc.names []).lookup x=some c:=by
 have q:=Fm sc.names n []<|.inl h;exact Hb.mp q
theorem kg{CX:CXT}{P:CQ}{w:D4}{K:Cq}{mg:Str->Option Cr}{base:Heap}{N ps:List Str}{qual:Str}{scope:Fh}{f:Addr}{cd:Cr}{A:De}{outer:List Env}{s s1:Cu}{H:Hp}{E:XK}{us:List Cr}{vs:List V}
  (S:FnScope N ps scope) (hd:A.handled=none) (e0:Env0 P w K mg base A outer s H) (hl:vs.length=ps.length) (r:Vals vs us)
  (x:InCallC s s.heap.objs.size (bindL (envOfC qual scope s.heap.objs.size f cd).kindOf (ps.zip us) fun _=>none) (cellsFrom (s.heap.objs.size+1) scope.names []) (bindC (envOfC qual scope s.heap.objs.size f cd).kindOf (ps.zip us) fun _=>none) s1):
  Inv (jh CX P w K mg base N qual scope f cd A outer s H E) [] (start N vs) H s1:=by
 have hpl:ps.length<=N.length:=by have:=congrArg FA S.pre;rw[Hc]at this;omega
 obtain⟨h1,tk,rfl,hk⟩:=x.done;have noA:∀b:Addr,b∉(jh CX P w K mg base N qual scope f cd A outer s H E).ex:=fun b z=>absurd (show b∈([]:List Addr)from z) (by simp);refine⟨⟨e0.mod,S.kind,rfl,rfl,CK _,fun y z c h1 h2=>?_,fun y hy=>?_,fun y c _ h=>?_,fun _=>hd,HW e0.frames,.inr ⟨rfl,rfl⟩,fun b z=>absurd z<|noA b,e0.bs,e0.bsz,fun b _ _=>noA b,fun b z=>absurd z<|noA b,e0.funs,e0.frf⟩,
  rfl,e0.bare,Un.kept hk,⟨_,x.toInCall.ns,fun i y v h1 h2 h3=>?_⟩,fun y c h=>⟨_,x.cell y c h⟩,e0.hok.fresh (CK _),fun y c h=>?_,fun p hp=>absurd (show p∈([]:List (Addr×Obj))from hp) (by simp),e0.hok.kept hk,?_⟩
 ·exact name_of_addr x.apart (Ed h1)<|Ed h2
 ·have hy:scope.names.lookup y=some .cell\/scope.names.lookup y=some .free:=hy;rcases hy with hy|hy
  ·exact lR hy
  ·exact absurd rfl<|S.nofree _<|Ed hy
 ·exact EY<|x.above y c<|Ed h
 ·have hi:i<vs.length:=by
   unfold start at h2;by_cases hi:i<vs.length;·exact hi
   ·rw[Dc (by simpa using hi)]at h2;rw[Hd]at h2;split at h2<;>cases h2
  have ha:vs[i]? =some v:=by
   unfold start at h2;rw[Dg (by simpa using hi),DJ]at h2;cases e:vs[i]? with
   |none=>rw[e]at h2;cases h2
   |some a=>rw[e]at h2;cases h2;rfl
  obtain⟨u,hu,rv⟩:=r.get ha;have hp:ps[i]? =some y:=by
   rw[<-S.pre,List.getElem?_take_of_lt (by omega)];exact h1
  have ndP:ps.Nodup:=by rw[<-S.pre];exact S.nd.sublist<|List.take_sublist _ _
  refine⟨u,rv,?_⟩;rcases S.par y (DC hp)with k|k
  ·exact .inl ⟨k,ke ndP hp hu k⟩
  ·obtain⟨c,e⟩:=lR (n:=s.heap.objs.size+1) k;refine .inr ⟨.inl k,c,e,?_⟩;have q:=x.cell y c e;rw[kf ndP hp hu (by show scope.names.lookup y≠_;rw[k];decide)]at q;exact q
 ·exact e0.hok.fresh<|EY<|x.above y c<|Ed h
 ·unfold start;show _=N.length;rw[CY,E6,Ft];omega
theorem xj{CX:CXT}{P:CQ}{w:D4}{K:Cq}{mg:Str->Option Cr}{base:Heap}{k:Nat}{f:Addr}{name qual:Str}{params:Arguments}{body:List Stmt}{scope:Fh}{dV kV doc pm cdv ct oc:Cr}{an od:Option Addr}
  {osl:Array (Option Cr)} {N ps:List Str} {sp:Sp} (lk:K.lookup f=some ⟨oc,od,.func<|Dm name qual params body scope dV kV doc pm an cdv ct,osl⟩) (hcd:Dt K cdv qual=true) (S:FnScope N ps scope)
  (len:∀vs H Q E,sp vs H Q E->vs.length=ps.length)
  (hbody:∀(A:De) (outer:List Env) (s:Cu) (H:Hp) (vs:List V) (Q:VK) (E:XK),Room k (A.deeper<|envOfC qual scope s.heap.objs.size f cdv)->sp vs H Q E->
   ∃t,PSs (jh CX P w K mg base N qual scope f cdv A outer s H E) body t/\t {nx:=fun _ H'=>Q .non H',rt:=Q} (start N vs) H):
  FnOk P w K mg base CX (k+1) f (Dm name qual params body scope dV kV doc pm an cdv ct) ps sp:=by
 refine⟨len,fun A outer s H args us vs Q E hr e0 hb r hsp=>?_⟩;have hl:=len _ _ _ _ hsp;have KX:K.In s.heap:=e0.mod.kin.keeps fun b o e=>(e0.bs b o e).1;have lim:s.heap.NoLimit:=e0.mod.nolimit.keeps fun b o e=>(e0.bs b o e).1;have hkind:∀y∈ps.zip us,scope.names.lookup y.1=some .local\/(scope.names.lookup y.1=some .cell/\((cellsFrom (s.heap.objs.size+1) scope.names []).lookup y.1).isSome=true):=fun⟨n,v⟩hy=>by
  rcases S.par n (EA hy).1 with q|q;·exact .inl q
  ·exact .inr ⟨q,Fm _ _ _<|.inl q⟩
 refine HH hr.depth (KX _ _ lk) rfl S.co S.gen rfl (Iu KX hcd)<|hb _ _ _ _ ?_;refine GK S.kind hkind fun env he s1 x=>?_;subst he;refine⟨lim.keeps x.toInCall.keep,codeAny_func ?_⟩;obtain⟨t,ht,hq⟩:=hbody A outer s H vs Q E (hr.deeper _) hsp;have I:Inv (jh CX P w K mg base N qual scope f cdv A outer s H E) [] (start N vs) H s1:=kg S hr.hd e0 hl r x;refine DX (ht [] s1 (start N vs) H _ I hq) (fun fl s' hs=>?_) fun e s' hs=>hs;have fin:∀{σ':St}{H':Hp}{v:V}{u:Cr},Inv (jh CX P w K mg base N qual scope f cdv A outer s H E) [] σ' H' s'->RelV v u->Q v H'->CE outer P w H s Q u s':=
  fun{σ' H' v u}J rv q=>⟨v,H',J.os,J.bare,J.base,J.hok,rv,q⟩
 cases fl with
 |ret u=>
  obtain⟨v,σ',H',J,rv,q⟩:=hs;exact fin J rv q
 |next=>
  obtain⟨σ',H',J,q⟩:=hs;exact fin (v:=V.non) (u:=Dq) J rfl q
 |brk=>
  obtain⟨_,_,_,q⟩:=hs;exact DY q
 |cont=>
  obtain⟨_,_,_,q⟩:=hs;exact DY q
section
variable{X:Cx}{x:Str}{p pos:Pos}{e:Expr}{es:List Expr}{t:TA}{id T:String}{r:List V->Hp->VK->Prop}
def dR(r:List V->Hp->VK->Prop)(t:TA):TE:=fun σ H Q=>t σ H fun vs H1=>r vs H1 Q
theorem aj(hc:eg X (.builtin id) r)(hg:Gl X x)(hm:X.mg x=none)(hv:bootBuiltins x=some (.builtin id))(ha:PA X (e::es) t)(hn:x≠"__name__":=by decide)(hdb:(x==("__debug__" :Str))=false:=by decide)
  (he:starEach (e::es) X.env=(false,eval e X.env)::starEach es X.env:=by rfl) (hpl:(backTo pos<|starEach es X.env).any (·.1)=false:=by rfl):PE X (.Call (.Name x p) (e::es) [] pos) (dR r t):=by
 intro pins s σ H Q I h;refine Fj<|gC I hg hm hv ?_ hn hdb;exact Ja (bL (ha pos pins s σ H _ I h) fun us s1⟨vs,H1,I1,r1,q1⟩=>hc pins s1 σ H1 vs us Q I1 r1 q1) he hpl
theorem dz(hc:eg X (.type T) r)(hg:Gl X x)(hm:X.mg x=none)(hv:bootBuiltins x=some (.type T))(ha:PA X (e::es) t)(hn:x≠"__name__":=by decide)(hdb:(x==("__debug__" :Str))=false:=by decide)
  (he:starEach (e::es) X.env=(false,eval e X.env)::starEach es X.env:=by rfl) (hpl:(backTo pos<|starEach es X.env).any (·.1)=false:=by rfl):PE X (.Call (.Name x p) (e::es) [] pos) (dR r t):=by
 intro pins s σ H Q I h;refine Fj<|gC I hg hm hv ?_ hn hdb;exact Eo (bL (ha pos pins s σ H _ I h) fun us s1⟨vs,H1,I1,r1,q1⟩=>hc pins s1 σ H1 vs us Q I1 r1 q1) he hpl
end
end L2
open L2.FnScope renaming nd->KR
open L2.PW renaming pt->Ke
open L2.RelO renaming some_of->J6
open L2.SqL renaming of->Ep
open L2.SqT renaming of->IG
open L2.V renaming str->FZ,int->G8,bl->Kw
namespace HT
open PySem PyProof.Rows
section
variable{prog:CQ}{w:D4}{A:De}{E:Cr->Cu->Prop}{s:Cu}
def sIx(n d:Nat):Option Int->Nat
 |none=>d
 |some v=>if v<0 then(v+(n:Int)).toNat else min v.toNat n
end
end HT
namespace L2
open PySem PySem.Spec PyProof.Rows
abbrev TO:=St->Hp->(Option Int->Hp->Prop)->Prop
def PO(X:Cx)(e:Option Expr)(t:TO):Prop:=
 ∀(pins:List (Addr×Obj))(s:Cu)(σ:St)(H:Hp)(Q:Option Int->Hp->Prop),Inv X pins σ H s->t σ H Q->
  wpAny (model X.prog X.w) X.A (evalPart e X.env) (fun u s'=>∃o H',Inv X pins σ H' s'/\IsPart u o/\Q o H') X.xe s
def az:TO:=fun _ H Q=>Q none H
def bA(t:TE):TO:=fun σ H Q=>t σ H fun x H1=>∃i,x=.int i/\Q (some i) H1
theorem ny{ns:List Int}:∀{us:List Cr},Vals (ns.map G8) us->IT us ns:=by
 induction ns with
 |nil=>intro us r;rw[FF]at r;cases r;exact .nil
 |cons n ns ih=>
  intro us r;rw[Dy]at r;cases r with
  |cons r1 r2=>
   obtain⟨t,e⟩:=r1;subst e;exact .cons n t<|ih r2
section
variable{X:Cx}{e:Expr}{te:TE}{lo hi:Option Expr}{tl th:TO}{pos p2:Pos}
theorem vv:PO X none az:=by
 intro pins s σ H Q I h;rw[K1];exact CC ⟨none,H,I,.none,h⟩
theorem vz(h:PE X e te):PO X (some e) (bA te):=by
 intro pins s σ H Q I hw;rw[evalPart_some];refine bL (h pins s σ H _ I hw) fun u s1 zz=>?_;obtain⟨x,H1,I1,r1,q1⟩:=zz;obtain⟨i,rfl,q⟩:=q1;obtain⟨t,rfl⟩:=r1;exact⟨some i,H1,I1,.int i t,q⟩
def B2(X:Cx)(r:V->Option Int->Option Int->Hp->VK->Prop):Prop:=
 ∀(pins:List (Addr×Obj))(s:Cu)(σ:St)(H:Hp)(x:V)(v vl vu:Cr)(lo hi:Option Int)(sl:Addr)(Q:VK),Inv X pins σ H s->RelV x v->s.heap.IsSliceOf sl vl vu .none->IsPart vl lo->IsPart vu hi->r x lo hi H Q->
  ∃T id,typeLookup (.type T) "__getitem__"=pure (some<|.builtin id)/\s.TypeIs v T/\wpAny (model X.prog X.w) X.A (getItem v<|.ref sl) (EP X pins σ Q) X.xe s
def fH(r:V->Option Int->Option Int->Hp->VK->Prop)(te:TE)(tl th:TO):TE:=fun σ H Q=>te σ H fun x H1=>tl σ H1 fun l H2=>th σ H2 fun u H3=>r x l u H3 Q
theorem rX{r:V->Option Int->Option Int->Hp->VK->Prop}(hr:B2 X r)(he:PE X e te)(hl:PO X lo tl)(hu:PO X hi th):PE X (.Subscript e (.Slice lo hi none p2) pos) (fH r te tl th):=by
 intro pins s σ H Q I h;refine Jt<|bL (he pins s σ H _ I h) fun v s1 zz=>?_;obtain⟨x,H1,I1,r1,q1⟩:=zz;refine wpAny_Slice<|bL (hl pins s1 σ H1 _ I1 q1) fun vl s2 zz=>?_;obtain⟨l,H2,I2,pl,q2⟩:=zz;refine bL (hu pins s2 σ H2 _ I2 q2) fun vu s3 zz=>?_;obtain⟨u,H3,I3,pu,q3⟩:=zz;rw[K1];refine CC ?_;have I4:Inv X pins σ H3 {s3 with heap:=s3.heap.push {cls:=.type "slice",data:=.fields #[vl,vu,.none]}}:=I3.kept (t':=s3.toks) fun b ob q=>Cs _ q;obtain⟨T,id,hT,ht,hg⟩:=hr pins {s3 with heap:=s3.heap.push {cls:=.type "slice",data:=.fields #[vl,vu,.none]}} σ H3 x v vl vu l u s3.heap.objs.size Q I4 r1 (KI ..) pl pu q3;show wpAny (model X.prog X.w) X.A (subscriptTail e (.Slice lo hi none p2) v<|.ref s3.heap.objs.size) (EP X pins σ Q) X.xe {s3 with heap:=s3.heap.push {cls:=.type "slice",data:=.fields #[vl,vu,.none]}};exact tail_any (ops:=[.ref s3.heap.objs.size,v]) ht hT hg (by with_unfolding_all rfl)
def nz(xs:List V)(lo hi:Option Int):List V:=(xs.drop<|HT.sIx xs.length 0 lo).take (HT.sIx xs.length xs.length hi-HT.sIx xs.length 0 lo)
theorem lS(xs:List V)(lo hi:Option Int):(nz xs lo hi).length<=xs.length:=by
 unfold nz;rw[Hc,List.length_drop];omega
end
def ixN(n:Nat)(i:Int):Option Nat:=if 0<=i then(if i<n then some i.toNat else none)else if -(n:Int)<=i then some (i+n).toNat else none
def atI{α:Type}(xs:List α)(i:Int):Option α:=(ixN xs.length i).bind fun j=>xs[j]?
theorem oI{n:Nat}{i:Int}{j:Nat}(h:ixN n i=some j):seqIndex? i n=some j/\j<n/\ -(n:Int)<=i/\i<n:=by
 unfold ixN at h;by_cases h0:0<=i
 ·rw[if_pos h0]at h;by_cases h1:i<n
  ·rw[if_pos h1]at h;have e:i.toNat=j:=Df h;exact⟨by rw[Je h0 h1,e],by omega,by omega,h1⟩
  ·rw[if_neg h1]at h;cases h
 ·rw[if_neg h0]at h;by_cases h1: -(n:Int)<=i
  ·rw[if_pos h1]at h;have e:(i+n).toNat=j:=Df h;exact⟨by rw[IU (by omega) h1,e],by omega,h1,by omega⟩
  ·rw[if_neg h1]at h;cases h
theorem l8{α:Type}{xs:List α}{i:Int}{v:α}(h:atI xs i=some v):∃j,seqIndex? i xs.length=some j/\xs[j]? =some v/\j<xs.length/\ -(xs.length:Int)<=i/\i<xs.length:=by
 unfold atI at h;cases e:ixN xs.length i with
 |none=>rw[e]at h;cases h
 |some j=>
  rw[e]at h;obtain⟨h1,h2,h3,h4⟩:=oI e;exact⟨j,h1,h,h2,h3,h4⟩
def vA(b:Expr):Prop:=∀o i,subscripted b false o i=operate [o,i] (getItem o i)
def yT(X:Cx)(r:R2):Prop:=
 ∀(value slice:Expr)(pins:List (Addr×Obj))(s:Cu)(σ:St)(H:Hp)(x y:V)(v u:Cr)(Q:VK),Inv X pins σ H s->RelV x v->RelV y u->r x y H Q->
  subscripted slice false v u=operate [v,u] (getItem v u)->wpAny (model X.prog X.w) X.A (subscriptTail value slice v u) (EP X pins σ Q) X.xe s
def zh(X:Cx)(id:String)(r:V->List V->Hp->VK->Prop):Prop:=
 ∀(pins:List (Addr×Obj))(s:Cu)(σ:St)(H:Hp)(x:V)(xs:List V)(v:Cr)(us:List Cr)(Q:VK),Inv X pins σ H s->RelV x v->Vals xs us->r x xs H Q->
  wpAny (model X.prog X.w) X.A (call (.builtin id) (v::us)) (EP X pins σ Q) X.xe s
section
variable{X:Cx}{a b:Expr}{ta tb:TE}{pos:Pos}
theorem aY{r:R2}(hr:yT X r)(ha:PE X a ta)(hb:PE X b tb)(hs:vA b):PE X (.Subscript a b pos) (dq r ta tb):=by
 intro pins s σ H Q I h;exact Jt<|xH ha hb I h fun v u s2 x y H2 I2 rx ry q=>hr a b pins s2 σ H2 x y v u Q I2 rx ry q<|hs _ _
def cn(K:Cq):R2:=fun x y H Q=>∃p xs i v,x=.ref p/\y=.int i/\SqL K H p xs/\atI xs i=some v/\Q v H
def cy(K:Cq):R2:=fun x y H Q=>∃p xs i v,x=.ref p/\y=.int i/\SqT K H p xs/\atI xs i=some v/\Q v H
def cF:R2:=fun x y H Q=>∃z i c,x=.str z/\y=.int i/\z.length<=sizeLine/\atI z.cps.toList i=some c/\Q (.str ⟨#[c]⟩) H
theorem vB:yT X (cn X.K):=by
 intro value slice pins s σ H x y v u Q I rx ry h hs;obtain⟨p,xs,i,z,rfl,rfl,hq,he,q⟩:=h;cases rx;obtain⟨t,rfl⟩:=ry;obtain⟨its,r,pl,hz⟩:=I.list hq;obtain⟨j,h1,h2,h3,h4,h5⟩:=l8 he;obtain⟨w,ew,rw'⟩:=r.get h2;have hl:=r.length;have hn:=ig;have fin:EP X pins σ Q w s:=⟨z,H,I,rw',q⟩
 by_cases h0:0<=i
 ·have hj:i.toNat=j:=by
   rw[Je h0 h5]at h1;exact Df h1
  exact item_listR pl.isList h0 (by omega) (by rw[hj];simpa using ew) fin hs
 ·have hj:(i+(its.toArray.size:Int)).toNat=j:=by
   rw[IU (by omega) h4]at h1;rw[CH,<-hl];exact Df h1
  exact Ht (x:=w) pl.isList.typeIs IW.lookup
   (wpAny_getItem_list_neg (Q:=fun r s'=>r=w/\EP X pins σ Q r s') pl.isList (by omega) (by rw[CH]<;>omega) (by omega) (by rw[hj];simpa using ew) ⟨rfl,fin⟩) hs
theorem xO:yT X (cy X.K):=by
 intro value slice pins s σ H x y v u Q I rx ry h hs;obtain⟨p,xs,i,z,rfl,rfl,hq,he,q⟩:=h;cases rx;obtain⟨t,rfl⟩:=ry;obtain⟨its,r,pl,hz⟩:=I.tuple hq;obtain⟨j,h1,h2,h3,h4,h5⟩:=l8 he;obtain⟨w,ew,rw'⟩:=r.get h2;have hl:=r.length;have hn:=ig;have fin:EP X pins σ Q w s:=⟨z,H,I,rw',q⟩
 exact Ht (x:=w) pl.typeIs slot_tuple_getitem.lookup
  (getItem_tuple (j:=j) (Q:=fun r s'=>r=w/\EP X pins σ Q r s') pl (by omega) (by omega) (by rw[CH,<-hl];exact h1) (by simpa using ew) ⟨rfl,fin⟩) hs
theorem bW:yT X cF:=by
 intro value slice pins s σ H x y v u Q I rx ry h hs;obtain⟨z,i,c,rfl,rfl,hz,he,q⟩:=h;obtain⟨t,rfl⟩:=rx;obtain⟨t',rfl⟩:=ry;obtain⟨j,h1,h2,h3,h4,h5⟩:=l8 he;have hl:z.cps.toList.length=z.length:=by simp[KJ]
 rw[hl]at h1 h4 h5;have hn:=ig;exact tail_any (typeIs_str s z t) slot_str_getitem.lookup (getItem_str (c:=c) (by
  have e1:decide (i< -(2^63:Int))=false:=decide_eq_false (by omega);have e2:decide (i≥2^63)=false:=decide_eq_false (by omega);rw[e1,e2,Bool.or_false]) (by rw[h1];simpa using h2) ⟨.str ⟨#[c]⟩,H,I.tok _,⟨_,rfl⟩,q⟩) hs
theorem nA(its:List Cr)(n j:Nat)(u:Cr):GL (·.setIfInBounds j u) {cls:=.type "list",data:=.seq its.toArray n}={cls:=.type "list",data:=.seq (its.set j u).toArray n}:=by
 simp[GL]
theorem Inv.lst{pins:List (Addr×Obj)}{σ:St}{H:Hp}{s:Cu}{p:Addr}{xs:List V}(I:Inv X pins σ H s)(h:H p=some (.lst xs)):
  ∃(its:List Cr)(n:Nat),Vals xs its/\s.heap.get? p=some {cls:=.type "list",data:=.seq its.toArray n}/\xs.length<=sizeLine:=by
 obtain⟨z,its,n,r,e⟩:=I.hok p _ h;exact⟨its,n,r,e,z⟩
theorem Inv.lstUpd{pins:List (Addr×Obj)}{σ:St}{H:Hp}{s:Cu}{p:Addr}{xs ys:List V}{its its':List Cr}{n n':Nat}{f:Obj->Obj}(I:Inv X pins σ H s)(h:H p=some (.lst xs))
  (ho:s.heap.get? p=some {cls:=.type "list",data:=.seq its.toArray n}) (hf:f {cls:=.type "list",data:=.seq its.toArray n}={cls:=.type "list",data:=.seq its'.toArray n'}) (r:Vals ys its') (hz:ys.length<=sizeLine) (t:Nat):
  Inv X pins σ (bP H p<|.lst ys) {s with heap:=s.heap.update p f,toks:=t}:=by
 have e:(s.heap.update p f).get? p=some {cls:=.type "list",data:=.seq its'.toArray n'}:=by
  rw[DT f ho (by rw[hf]<;>rfl),hf]
 refine I.write (x:=p) (e:=p) (by rw[h];trivial) (.inl rfl) (fun b u hb q=>(Dk _ _<|E8 hb).trans q) ⟨_,e⟩ ?_;exact⟨hz,its',n',r,e⟩
def km:V->V->V->Hp->(Hp->Prop)->Prop:=fun o i v H Q=>∃p xs k j,o=.ref p/\i=.int k/\H p=some (.lst xs)/\ixN xs.length k=some j/\Q (bP H p<|.lst<|xs.set j v)
theorem lT:zb X km:=by
 intro pins s σ H o i v ov iv u Q I ro ri rv h;obtain⟨p,xs,k,j,rfl,rfl,hp,hj,q⟩:=h;cases ro;obtain⟨t,rfl⟩:=ri;obtain⟨its,n,r,ho,hz⟩:=I.lst hp;obtain⟨h1,h2,h3,h4⟩:=oI hj;have hl:=r.length;have hn:=ig;have I':Inv X pins σ (bP H p<|.lst<|xs.set j v) {s with heap:=s.heap.update p (GL (·.setIfInBounds j u))}:=
  I.lstUpd hp ho (nA its n j u) (r.set rv j) (by rw[Gu];exact hz) s.toks
 by_cases h0:0<=k
 ·have hk:k.toNat=j:=by
   rw[Je h0 h4]at h1;exact Df h1
  exact PySem.W.ki_setAt ho h0 (by omega) (by rw[CH,<-hl];exact h4) (by rw[hk];exact⟨_,I',q⟩)
 ·have hk:(k+(its.toArray.size:Int)).toNat=j:=by
   rw[IU (by omega) h3]at h1;rw[CH,<-hl];exact Df h1
  exact PySem.W.ki_setBack ho (by omega) (by rw[CH,<-hl];exact h3) (by omega) (by rw[hk];exact⟨_,I',q⟩)
theorem l9(lo hi:Option Int)(n:Nat):(sliceBounds lo hi none n).1=((HT.sIx n 0 lo:Nat):Int)/\(sliceBounds lo hi none n).2.1=((HT.sIx n n hi:Nat):Int)/\(sliceBounds lo hi none n).2.2=1:=by
 refine⟨?_,?_,rfl⟩
 ·cases lo with
  |none=>simp[sliceBounds,HT.sIx]
  |some i=>
   simp only[sliceBounds,HT.sIx,Jb,show(1:Int)>0 by decide,if_true];by_cases h:i<0;·simp only[h,if_true]<;>omega
   ·simp only[h,if_false]<;>omega
 ·cases hi with
  |none=>simp[sliceBounds,HT.sIx]
  |some i=>
   simp only[sliceBounds,HT.sIx,Jb,show(1:Int)>0 by decide,if_true];by_cases h:i<0;·simp only[h,if_true]<;>omega
   ·simp only[h,if_false]<;>omega
theorem jO(its:List Cr)(lo hi:Option Int):slicePick its.toArray lo hi none=((its.drop<|HT.sIx its.length 0 lo).take (HT.sIx its.length its.length hi-HT.sIx its.length 0 lo)).toArray:=by
 obtain⟨h1,h2,h3⟩:=l9 lo hi its.toArray.size;unfold slicePick;rw[h1,h2,h3];simp only[sliceRange_one,pick_run,CH]<;>rfl
def cz(K:Cq):V->Option Int->Option Int->Hp->VK->Prop:=fun x lo hi H Q=>∃a xs,x=.ref a/\SqL K H a xs/\∀p,H p=none->Q (.ref p) (bP H p<|.lst<|nz xs lo hi)
theorem vC:B2 X (cz X.K):=by
 intro pins s σ H x v vl vu lo hi sl Q I rx hs pl pu h;obtain⟨a,xs,rfl,hx,q⟩:=h;cases rx;obtain⟨its,r,ht,hz⟩:=I.list hx;have hlen:=r.length;refine⟨"list",_,IW.lookup,ht.isList.typeIs,?_⟩;refine wpAny_getItem_list_slice ht.isList hs pl pu .none (by simp) ?_ (by rw[CH]<;>omega);rw[jO,<-hlen];refine⟨.ref s.heap.objs.size,_,I.laid (t':=s.toks) (o:=.lst<|nz xs lo hi) (fun b ob q=>Cs _ q) (CK _) ?_,rfl,q _<|I.hok.fresh<|CK _⟩;exact⟨Ei (lS xs lo hi) hz,_,0,(r.drop<|HT.sIx xs.length 0 lo).take (HT.sIx xs.length xs.length hi-HT.sIx xs.length 0 lo),CF _ rfl⟩
theorem la:eg X (.type "list") (fun xs H Q=>∃p ys,xs=[.ref p]/\(SqL X.K H p ys\/SqT X.K H p ys)/\∀l,H l=none->Q (.ref l) (bP H l<|.lst ys)):=by
 intro pins s σ H xs us Q I r h;obtain⟨p,ys,rfl,hq,q⟩:=h;obtain⟨u,rfl,rx⟩:=gP r;cases rx;have fin:∀(its:List Cr),Vals ys its->ys.length<=sizeLine->∀(h':Heap)(c':Nat),(∀b o',s.heap.get? b=some o'->h'.get? b=some o')->
   h'.get? s.heap.objs.size=some {cls:=.type "list",dict:=none,data:=.seq its.toArray c',slots:= #[]}->EP X pins σ Q (.ref s.heap.objs.size) {s with heap:=h'}:=fun its r' hz h' c' kp e=>
  ⟨.ref s.heap.objs.size,_,I.laid (t':=s.toks) kp (CK _) (show ObjOk X.prog X.w _ h' _ (.lst ys)from⟨hz,its,c',r',e⟩),rfl,q _<|I.hok.fresh<|CK _⟩
 rcases hq with hq|hq
 ·obtain⟨its,r',pl,hz⟩:=I.list hq;have hlen:=r'.length;obtain⟨o,ho,hc,n,hd⟩:=pl.isList;exact K7 p (.inl rfl) ho hc hd (fun h' c' kp e=>fin its r' hz h' c' kp e) (by simp only[CH]<;>omega)
 ·obtain⟨its,r',pl,hz⟩:=I.tuple hq;have hlen:=r'.length;obtain⟨o,ho,hc,n,hd⟩:=pl;exact K7 p (.inr rfl) ho hc hd (fun h' c' kp e=>fin its r' hz h' c' kp e) (by simp only[CH]<;>omega)
def B3(K:Cq)(T:String)(x:V)(H:Hp):Prop:=match x with
 | .str _=>T="str"
 | .int _=>T="int"
 | .ref p=>(T="list" /\∃xs,SqL K H p xs)\/(T="tuple" /\((∃o,K.lookup p=some o/\o.cls=.type "tuple" /\o.dict=none)\/∃xs,SqT K H p xs))\/
   (T="dict"/\((∃kvs,H p=some (.dK kvs))\/∃kvs,H p=some (.dT kvs)))\/(T="set"/\∃S n,H p=some (.set S n))
 |_=>False
theorem xP{pins:List (Addr×Obj)}{σ:St}{H:Hp}{s:Cu}{T:String}{x:V}{v:Cr}(I:Inv X pins σ H s)(r:RelV x v)(ty:B3 X.K T x H):
  s.TypeIs v T/\∀a,v=.ref a->∃ob,s.heap.get? a=some ob/\ob.dict=none:=by
 cases x with
 |str z=>
  obtain⟨t,rfl⟩:=r;cases (show T="str" from ty);exact⟨typeIs_str s z t,fun _ e=>nomatch e⟩
 |int i=>
  obtain⟨t,rfl⟩:=r;cases (show T="int" from ty);exact⟨Ju s i t,fun _ e=>nomatch e⟩
 |ref p=>
  cases r;rcases ty with⟨rfl,xs,hq⟩|⟨rfl,⟨o,hk,hc,hd⟩|⟨xs,hq⟩⟩|⟨rfl,hk⟩|⟨rfl,S,n,hk⟩
  ·obtain⟨its,_,pl,_⟩:=I.list hq;refine⟨pl.isList.typeIs,fun a e=>?_⟩;cases e;obtain⟨o,n,e,c,hd,_⟩:=pl;exact⟨o,e,hd⟩
  ·refine⟨⟨o,I.kIn p o hk,hc⟩,fun a e=>?_⟩;cases e;exact⟨o,I.kIn _ o hk,hd⟩
  ·obtain⟨o,e1,c1,d1⟩:∃o,s.heap.get? p=some o/\o.cls=.type "tuple"/\o.dict=none:=by
    rcases hq with hq|⟨o,its,n,hk,hc,_⟩
    ·obtain⟨_,_,_,o,e1,⟨c1,d1⟩,_⟩:=hq.ok I.hok;exact⟨o,e1,c1,d1⟩
    ·exact⟨o,I.kIn p o hk,hc.1,hc.2⟩
   refine⟨⟨o,e1,c1⟩,fun a e=>?_⟩;cases e;exact⟨o,e1,d1⟩
  ·have z:∃o,s.heap.get? p=some o/\o.ExactDict:=by
    rcases hk with⟨kvs,hk⟩|⟨kvs,hk⟩
    ·obtain⟨_,_,_,_,o,_,_,e,ex,_⟩:=I.hok p _ hk;exact⟨o,e,ex⟩
    ·obtain⟨_,_,_,_,o,_,_,e,ex,_⟩:=I.hok p _ hk;exact⟨o,e,ex⟩
   obtain⟨o,e,ex⟩:=z;refine⟨⟨o,e,ex.1⟩,fun a e2=>?_⟩;cases e2;exact⟨o,e,ex.2.1⟩
  ·obtain⟨o,_,_,_,e,ex,_⟩:=I.hok p _ hk;refine⟨⟨o,e,ex.1⟩,fun a e2=>?_⟩;cases e2;exact⟨o,e,ex.2.1⟩
 |_=>exact DY ty
def dU(K:Cq)(T:String)(r:V->List V->Hp->VK->Prop)(to:TE)(t:TA):TE:=fun σ H Q=>to σ H fun x H1=>B3 K T x H1/\t σ H1 fun xs H2=>r x xs H2 Q
variable{o e:Expr}{es:List Expr}{to:TE}{t:TA}{name:Str}{apos cpos:Pos}{T id:String}{r:V->List V->Hp->VK->Prop}
theorem zj(pa:PlainAttrs T)(slot:Slot T name id)(hty:typeOf (.builtin id)=pure (.type "method_descriptor"))(hm:zh X id r)(ho:PE X o to)(ha:PA X (e::es) t)
  (hbase:attributeBase o name X.env (eval o X.env)=eval o X.env:=by rfl)
  (hfew:((backTo cpos<|starEach (e::es) X.env).all (fun x=> !x.1) && (backToKw cpos<|keywordEach [] X.env).all (fun x=>x.1.isSome)
   &&decide ((e::es).length+([]:List Hu).length+(if([]:List Hu).isEmpty then 0 else 1)<30))=true:=by rfl)
  (hline:(apos.endLine==cpos.line)=true:=by rfl) (hs:starEach (e::es) X.env=(false,eval e X.env)::starEach es X.env:=by rfl) (hplain:(backTo cpos<|starEach es X.env).any (·.1)=false:=by rfl):
  PE X (.Call (.Attribute o name apos) (e::es) [] cpos) (dU X.K T r to t):=by
 intro pins s σ H Q I h;refine wpAny_Call_method_late hbase hfew hline rfl<|bL (ho pins s σ H _ I h) fun v s1 zz=>?_;obtain⟨x,H1,I1,r1,ty,q1⟩:=zz;obtain⟨h1,h2⟩:=xP I1 r1 ty;refine⟨T,id,pa,slot,hty,h1,h2,?_⟩;have hA:=ha cpos pins s1 σ H1 _ I1 q1;rw[hs]at hA ⊢;refine G3 (by show(false||(backTo cpos<|starEach es X.env).any (·.1))=false;rw[hplain]<;>rfl)<|Gj ?_;refine bL hA fun us s2 zz=>?_;obtain⟨vs,H2,I2,r2,q2⟩:=zz;exact hm pins s2 σ H2 x vs v us Q I2 r1 r2 q2
end
def Bj(X:Cx)(id:String)(r:V->List V->Hp->VK->Prop):Prop:=
 ∀(pins:List (Addr×Obj))(s:Cu)(σ:St)(H:Hp)(x:V)(xs:List V)(v:Cr)(us:List Cr)(Q:VK),Inv X pins σ H s->RelV x v->Vals xs us->r x xs H Q->
  wpAny (model X.prog X.w) X.A (call (.builtin id) (v::us)) (EP X pins σ Q) X.xe s
theorem Vals.one:∀{x:V}{us:List Cr},Vals [x] us->∃u,us=[u]/\RelV x u
 |_,_,.cons r .nil=>⟨_,rfl,r⟩
theorem Vals.rep{xs:List V}{us:List Cr}(h:Vals xs us):∀k:Nat,Vals (CI k xs).flatten (CI k us).flatten
 |0=>.nil
 |k+1=>by
  rw[DS,DS,Eu,Eu];exact Vals.append h<|Vals.rep h k
theorem kq(its:List Cr):∀(k:Nat)(acc:List Cr),
  Jv (fun x1 x2=>x1++x2) acc.toArray (CI k its.toArray)=(acc++(CI k its).flatten).toArray
 |0,acc=>by simp
 |k+1,acc=>by
  have e:acc.toArray++its.toArray=(acc++its).toArray:=by simp
  have e2:(acc++its)++(CI k its).flatten=acc++(CI (k+1) its).flatten:=by
   rw[DS,Eu,EH]
  rw[<-e2,<-kq its k (acc++its),<-e,DS,Jh]
section
variable{X:Cx}{pins:List (Addr×Obj)}{σ:St}{H:Hp}{s:Cu}{l b:Addr}{xs ys zs:List V}
theorem Inv.lset{its its':List Cr}{n:Nat}{f:Array Cr->Array Cr}{t':Nat}(I:Inv X pins σ H s)(hH:H l=some (.lst xs))
  (e:s.heap.get? l=some {cls:=.type "list",data:=.seq its.toArray n}) (hf:f its.toArray=its'.toArray) (hv:Vals ys its') (hz:ys.length<=sizeLine):
  Inv X pins σ (bP H l<|.lst ys) {s with heap:=s.heap.update l<|GL f,toks:=t'}:=by
 have q:=PySem.IsL.update e f;rw[hf]at q;refine I.write (x:=l) (e:=l) (by rw[hH];exact trivial) (.inl rfl) (fun b' u hb hu=>(Dk s.heap (GL f)<|E8 hb).trans hu) ⟨_,q⟩ ?_;exact⟨hz,its',_,hv,q⟩
theorem Inv.lnew{its:List Cr}{t':Nat}(I:Inv X pins σ H s)(hv:Vals ys its)(hz:ys.length<=sizeLine):
  Inv X pins σ (bP H s.heap.objs.size<|.lst ys) {s with heap:=s.heap.push {cls:=.type "list",data:=.seq its.toArray},toks:=t'}:=
 I.laid (fun _ _ q=>Cs _ q) (CK _) ⟨hz,its,0,hv,CF _ rfl⟩
theorem Inv.fresh(I:Inv X pins σ H s):H s.heap.objs.size=none:=I.hok.fresh<|CK _
theorem Inv.lstM(I:Inv X pins σ H s)(hH:H l=some (.lst xs)):xs.length<=sizeLine/\∃(its:List Cr)(n:Nat),Vals xs its/\xs.length=its.length/\s.heap.get? l=some {cls:=.type "list",data:=.seq its.toArray n}:=by
 obtain⟨z,its,n,r,e⟩:=I.hok l _ hH;exact⟨z,its,n,r,r.length,e⟩
theorem lU{n:Nat}(h:n<=sizeLine):F7 n=false:=by
 unfold F7;exact decide_eq_false (by omega)
end
section
variable{X:Cx}
def aw:V->List V->Hp->VK->Prop:=fun x vs H Q=>∃l xs y,x=.ref l/\vs=[y]/\H l=some (.lst xs)/\xs.length<sizeLine/\Q .non (bP H l<|.lst<|xs++[y])
theorem qe:Bj X "list.append" aw:=by
 intro pins s σ H x vs v us Q I rx rv h;obtain⟨l,xs,y,rfl,rfl,hH,hz,q⟩:=h;cases rx;obtain⟨u,rfl,ru⟩:=rv.one;obtain⟨z,its,n,r,hl,e⟩:=I.lstM hH;refine Iw HI ⟨_,e,rfl⟩ F.entry_list_append (F.args_list_append_2 _ _) (PySem.list_append l its.toArray n u (by rw[CH];omega)) ⟨e,?_⟩;refine⟨.non,_,I.lset (its':=its++[u]) hH e (by simp) (r.append<|.cons ru .nil) ?_,rfl,q⟩;rw[CY,EC];omega
def lb:V->List V->Hp->VK->Prop:=fun x vs H Q=>∃l b xs zs,x=.ref l/\vs=[.ref b]/\H l=some (.lst xs)/\H b=some (.lst zs)/\xs.length+zs.length<=sizeLine/\Q .non (bP H l<|.lst<|xs++zs)
theorem qf:Bj X "list.extend" lb:=by
 intro pins s σ H x vs v us Q I rx rv h;obtain⟨l,b,xs,zs,rfl,rfl,hH,hB,hz,q⟩:=h;cases rx;obtain⟨u,rfl,ru⟩:=rv.one;cases ru;obtain⟨z,its,n,r,hl,e⟩:=I.lstM hH;obtain⟨z2,its2,n2,r2,hl2,e2⟩:=I.lstM hB;have hsz:its.toArray.size+its2.toArray.size<=sizeLine:=by rw[CH,CH];omega
 have hlong:¬(!its.toArray.isEmpty&&F7 (its.toArray.size+its2.toArray.size))=true:=by
  rw[lU hsz,Jw];exact CS
 refine Iw HJ ⟨_,e,rfl⟩ F.entry_list_extend (F.args_list_extend_2 _ _)
  (AutoSeq1.list_extend_list_list_0 l its.toArray n b its2.toArray n2 hlong (by rw[CH];omega) (by omega)) ⟨e,e2,?_⟩
 refine⟨.non,_,I.lset (its':=its++its2) hH e (by simp) (r.append r2) ?_,rfl,q⟩;rw[CY];omega
def cG:R2:=fun x y H Q=>∃l b xs zs,x=.ref l/\y=.ref b/\H l=some (.lst xs)/\H b=some (.lst zs)/\xs.length+zs.length<=sizeLine/\∀p,H p=none->Q (.ref p) (bP H p<|.lst<|xs++zs)
theorem gD:OpR X (binaryOp .Add) cG:=by
 intro pins s σ H x y v u Q I rx ry h;obtain⟨l,b,xs,zs,rfl,rfl,hH,hB,hz,q⟩:=h;cases rx;cases ry;obtain⟨z,its,n,r,hl,e⟩:=I.lstM hH;obtain⟨z2,its2,n2,r2,hl2,e2⟩:=I.lstM hB;refine PySem.P.add_list e e2 ?_ (by rw[CH,CH];omega);have ea:its.toArray++its2.toArray=(its++its2).toArray:=by simp
 rw[ea];exact⟨.ref _,_,I.lnew (t':=s.toks) (r.append r2) (by rw[CY];omega),rfl,q _ I.fresh⟩
def zk:R2:=fun x y H Q=>∃l k xs,x=.ref l/\y=.int k/\H l=some (.lst xs)/\ -(2^63)<=k/\k<2^63/\xs.length*k.toNat<=sizeLine/\
 ∀p,H p=none->Q (.ref p) (bP H p<|.lst (CI k.toNat xs).flatten)
theorem vD{α:Type}(xs:List α)(k:Nat):(CI k xs).flatten.length=k*xs.length:=by
 induction k with
 |zero=>simp
 |succ k ih=>rw[DS,Eu,CY,ih,Nat.succ_mul,Nat.add_comm]
theorem rY:OpR X (binaryOp .Mult) zk:=by
 intro pins s σ H x y v u Q I rx ry h;obtain⟨l,k,xs,rfl,rfl,hH,h1,h2,hz,q⟩:=h;cases rx;obtain⟨t,rfl⟩:=ry;obtain⟨z,its,n,r,hl,e⟩:=I.lstM hH;have hlen:its.toArray.size*k.toNat<=sizeLine:=by rw[CH,<-hl];exact hz
 have hcap:¬its.toArray.size*k.toNat>(2^63-1)/8:=by
  have:(sizeLine:Nat)<=(2^63-1)/8:=by decide
  omega
 have hfit:¬(!Builtin.List.listFitsIndex k)=true:=by
  rw[fitsIndex_both h1 h2];exact CS
 have hlong:¬F7 (its.toArray.size*k.toNat)=true:=by
  rw[lU hlen];exact CS
 have hnew:Jv (fun x1 x2=>x1++x2) #[] (CI (if its.toArray.isEmpty=true then 0 else k.toNat) its.toArray)=(CI k.toNat its).flatten.toArray:=by
  have f0:∀m:Nat,Jv (fun x1 x2=>x1++x2) #[] (CI m its.toArray)=(CI m its).flatten.toArray:=fun m=>by
   have:=kq its m [];rw[FL]at this;exact this
  rw[f0];cases its with
  |nil=>simp
  |cons a r'=>rw[if_neg (by simp)]
 refine wpAny_binaryOp_repeat_ref (T:="list") (U:="int") (by decide) ⟨_,e,rfl⟩ (fun s'=>Ju s' k t) noFill_list_mul F.fills_int_mul Ji repeat_list F.slot_int_index.lookup
  (Iw Ji (Ju s k t) F.entry_int_rmul (F.args_int_rmul_2 _ _) (int___rmul___int_list k t l its.toArray n)
   ⟨e,rfl,⟨_,e,rfl⟩,Iw F.slot_list_mul ⟨_,e,rfl⟩ F.entry_list_mul (F.args_list_mul_2 _ _) (AutoListH.list___mul___list_int_3 l its.toArray n k t hfit hcap hlong) ⟨e,?_⟩⟩)
 rw[hnew];exact⟨.ref _,_,I.lnew (t':=s.toks) (r.rep k.toNat) (by rw[vD,Nat.mul_comm];exact hz),rfl,q _ I.fresh⟩
end
section
variable{κ:Type}[DecidableEq κ]
def fo(kvs:List (κ×V))(k:κ):Option V:=(kvs.find? fun kv=>decide<|kv.1=k).map (·.2)
def gz(kvs:List (κ×V))(k:κ)(v:V):List (κ×V):=
 if(kvs.any fun kv=>decide<|kv.1=k)=true then kvs.map (fun kv=>if kv.1=k then(kv.1,v)else kv)else kvs++[(k,v)]
theorem fL{p:κ×V}{r:List (κ×V)}{k:κ}(e:p.1=k):fo (p::r) k=some p.2:=by simp[fo,Fo,e]
theorem fM{p:κ×V}{r:List (κ×V)}{k:κ}(e:¬p.1=k):fo (p::r) k=fo r k:=by simp[fo,Fo,e]
theorem lV(k:κ):∀kvs:List (κ×V),(kvs.any fun kv=>decide<|kv.1=k)=(fo kvs k).isSome
 | []=>rfl
 |p::r=>by
  rw[Gg];by_cases e:p.1=k;·simp only[fL e,decide_eq_true e,Bool.true_or,Iy]
  ·rw[fM e,decide_eq_false e,Bool.false_or];exact lV k r
theorem iG(kvs:List (κ×V))(k:κ)(v:V):(gz kvs k v).length<=kvs.length+1:=by
 unfold gz;split;·rw[E6];omega
 ·rw[CY,Dr,FN];omega
theorem RelO.isSome_eq{o:Option V}{u:Option Cr}(r:RelO o u):o.isSome=u.isSome:=by
 cases o with
 |none=>cases u with
  |none=>rfl
  |some _=>exact(show False from r).elim
 |some _=>cases u with
  |none=>exact(show False from r).elim
  |some _=>rfl
theorem RelO.getD{o:Option V}{u:Option Cr}{d:V}{d':Cr}(r:RelO o u)(rd:RelV d d'):RelV (o.getD d) (u.getD d'):=by
 cases o with
 |none=>cases u with
  |none=>exact rd
  |some _=>exact(show False from r).elim
 |some _=>cases u with
  |none=>exact(show False from r).elim
  |some _=>exact r
theorem KV.val{kvs:List (κ×V)}{vs:List (κ×Cr)}(r:KV kvs vs)(k:κ):RelO (fo kvs k) (valueAt vs k):=by
 unfold KV at r
 induction r with
 |nil=>exact F6
 | @cons p q ps qs h t ih=>
  obtain⟨h1,h2⟩:=h;by_cases e:p.1=k
  ·have e':q.1=k:=h1.symm.trans e;have b:valueAt (q::qs) k=some q.2:=by simp[valueAt,Fo,e']
   rw[fL e,b];exact h2
  ·have e':¬q.1=k:=fun z=>e<|h1.trans z;have b:valueAt (q::qs) k=valueAt qs k:=by simp[valueAt,Fo,e']
   rw[fM e,b];exact ih
theorem KV.any{kvs:List (κ×V)}{vs:List (κ×Cr)}(r:KV kvs vs)(k:κ):(kvs.any fun kv=>decide<|kv.1=k)=vs.any fun kv=>decide (kv.1=k):=by
 unfold KV at r
 induction r with
 |nil=>rfl
 |cons h t ih=>rw[Gg,Gg,ih,h.1]
theorem KV.repl{kvs:List (κ×V)}{vs:List (κ×Cr)}(r:KV kvs vs)(k:κ){y:V}{u:Cr}(ry:RelV y u):
  KV (kvs.map fun kv=>if kv.1=k then(kv.1,y)else kv) (vs.map fun kv=>if kv.1=k then(kv.1,u)else kv):=by
 unfold KV at r ⊢
 induction r with
 |nil=>exact .nil
 | @cons p q ps qs h t ih=>
  rw[Dy,Dy];refine .cons ?_ ih;obtain⟨h1,h2⟩:=h;by_cases e:p.1=k;·rw[if_pos e,if_pos<|h1.symm.trans e];exact⟨h1,ry⟩
  ·rw[if_neg e,if_neg<|fun z=>e<|h1.trans z];exact⟨h1,h2⟩
theorem KV.put{kvs:List (κ×V)}{vs:List (κ×Cr)}(r:KV kvs vs)(k:κ){y:V}{u:Cr}(ry:RelV y u):KV (gz kvs k y) (stored vs k u):=by
 unfold gz stored;rw[r.any k];by_cases e:(vs.any fun kv=>decide<|kv.1=k)=true;·rw[if_pos e,if_pos e];exact r.repl k ry
 ·rw[if_neg e,if_neg e];exact Paired.snoc r ⟨rfl,ry⟩
theorem KV.length{kvs:List (κ×V)}{vs:List (κ×Cr)}(r:KV kvs vs):kvs.length=vs.length:=Paired.length r
end
theorem lW{P:CQ}{w:D4}{k:Key}{u:Cr}(r:RelV (kV k) u):(bh P w).is k u=true:=by
 cases k with
 |inl i=>obtain⟨t,e⟩:=(show ∃t,u=GF i t from r);subst e;exact lN P w i t
 |inr x=>obtain⟨t,e⟩:=(show ∃t,u=HZ x t from r);subst e;exact lO P w x t
theorem ku{P:CQ}{w:D4}:∀{ks:List Key}{us:List Cr},Vals (ks.map kV) us->ItemsAre (bh P w) ks us
 | [],_,r=>by rw[FF]at r;cases r;exact .nil
 |k::ks,_,r=>by
  rw[Dy]at r;cases r with
  |cons h t=>exact .cons (lW h)<|ku t
abbrev KT(H:Hp):List (List Key×V)->List (List Key×Addr×Cr)->Prop:=Paired fun p q=>p.1=q.1/\H q.2.1=some (.tup<|p.1.map kV)/\RelV p.2 q.2.2
theorem KT.val{H:Hp}{kvs:List (List Key×V)}{xs:List (List Key×Addr×Cr)}(r:KT H kvs xs)(k:List Key):RelO (fo kvs k) ((atKey xs k).map (·.2)):=by
 induction r with
 |nil=>exact F6
 | @cons p q ps qs h t ih=>
  obtain⟨h1,_,h2⟩:=h;by_cases e:p.1=k
  ·have e':q.1=k:=h1.symm.trans e;have b:atKey (q::qs) k=some q.2:=by simp[atKey,Fo,e']
   rw[fL e,b];exact h2
  ·have e':¬q.1=k:=fun z=>e<|h1.trans z;have b:atKey (q::qs) k=atKey qs k:=by simp[atKey,Fo,e']
   rw[fM e,b];exact ih
theorem KT.repl{H:Hp}{kvs:List (List Key×V)}{xs:List (List Key×Addr×Cr)}(r:KT H kvs xs)(k:List Key){y:V}{u:Cr}(ry:RelV y u):
  KT H (kvs.map fun kv=>if kv.1=k then(kv.1,y)else kv) (xs.map<|putAt k u):=by
 induction r with
 |nil=>exact .nil
 | @cons p q ps qs h t ih=>
  rw[Dy,Dy];refine .cons ?_ ih;obtain⟨h1,h2,h3⟩:=h;unfold putAt;by_cases e:p.1=k;·rw[if_pos e,if_pos<|h1.symm.trans e];exact⟨h1,h2,ry⟩
  ·rw[if_neg e,if_neg<|fun z=>e<|h1.trans z];exact⟨h1,h2,h3⟩
theorem KT.put{H:Hp}{kvs:List (List Key×V)}{xs:List (List Key×Addr×Cr)}(r:KT H kvs xs)(k:List Key){b:Addr}{y:V}{u:Cr}(hb:H b=some (.tup<|k.map kV))(ry:RelV y u):
  KT H (gz kvs k y) (storedH xs k b u):=by
 have e:(kvs.any fun kv=>decide<|kv.1=k)=(atKey xs k).isSome:=by
  rw[lV,(r.val k).isSome_eq,Option.isSome_map]
 unfold gz storedH;rw[e];by_cases q:(atKey xs k).isSome=true;·rw[if_pos q,if_pos q];exact r.repl k ry
 ·rw[if_neg q,if_neg q];exact Paired.snoc r ⟨rfl,hb,ry⟩
theorem KT.keeps{H H':Hp}{kvs:List (List Key×V)}{xs:List (List Key×Addr×Cr)}(r:KT H kvs xs)(ht:∀b ys,H b=some (.tup ys)->H' b=some (.tup ys)):KT H' kvs xs:=
 Paired.mapP r fun _ _ z=>⟨z.1,ht _ _ z.2.1,z.2.2⟩
section
variable{P:CQ}{w:D4}{H:Hp}{h:Heap}{a:Addr}
theorem xl{u:HO}(ok:HOk P w H h)(e:Rd H a u):ObjOk P w H h a u:=e.ok ok
theorem lX{kvs:List (Key×V)}(ok:HOk P w H h)(e:Rd H a (.dK kvs)):kvs.length<=sizeLine/\(a==sysModules)=false/\∃vs,KV kvs vs/\h.DictOf (bh P w) a vs:=
 show ObjOk P w H h a (.dK kvs)from xl ok e
theorem zl{kvs:List (Key×V)}(ok:HOk P w H h)(e:H a=some (.dK kvs)):kvs.length<=sizeLine/\(a==sysModules)=false/\∃vs,KV kvs vs/\h.DictOf (bh P w) a vs:=lX ok<|.inl e
theorem lg{ks:List Key}(ok:HOk P w H h)(e:H a=some (.tup<|ks.map kV)):(tupleKind<|bh P w).is h ks a:=by
 obtain⟨_,its,r,o,h1,⟨h2,_⟩,n,h3⟩:=(show ObjOk P w H h a (.tup<|ks.map kV)from ok a _ e)
 exact⟨o,its.toArray,n,h1,h2,h3,by simpa using ku r⟩
theorem oJ{kvs:List (List Key×V)}(ok:HOk P w H h)(e:Rd H a (.dT kvs)):kvs.length<=sizeLine/\(a==sysModules)=false/\
  ∃xs,KT H kvs xs/\h.DictOfH (tupleKind<|bh P w) a xs:=by
 obtain⟨z,y,xs,r,o,es,ep,h1,h2,h3,h4,h5⟩:=(show ObjOk P w H h a (.dT kvs)from xl ok e)
 refine⟨z,y,xs,r,o,es,ep,h1,h2,h3,h4,fun x hx=>?_,h5⟩;have all:∀{l:List (List Key×V)}{m:List (List Key×Addr×Cr)},KT H l m->∀x∈m,(tupleKind<|bh P w).is h x.1 x.2.1:=by
  intro l m q
  induction q with
  |nil=>intro x hx;exact nomatch hx
  | @cons p q ps qs hq t ih=>
   intro x hx;rcases CM.mp hx with e|hx
   ·subst e;exact lg ok (by rw[<-hq.1];exact hq.2.1)
   ·exact ih x hx
 exact all r x hx
theorem zm{kvs:List (List Key×V)}(ok:HOk P w H h)(e:H a=some (.dT kvs)):kvs.length<=sizeLine/\(a==sysModules)=false/\
  ∃xs,KT H kvs xs/\h.DictOfH (tupleKind<|bh P w) a xs:=oJ ok<|.inl e
end
def DGet(H:Hp)(a:Addr)(y:V)(r:Option V):Prop:=
 (∃kvs k,Rd H a (.dK kvs)/\y=kV k/\r=fo kvs k)\/∃kvs k b,Rd H a (.dT kvs)/\y=.ref b/\H b=some (.tup<|k.map kV)/\r=fo kvs k
def DPut(H:Hp)(a:Addr)(y v:V)(H':Hp):Prop:=
 (∃kvs k,H a=some (.dK kvs)/\y=kV k/\kvs.length<sizeLine/\H'=bP H a (.dK<|gz kvs k v))\/
 ∃kvs k b,H a=some (.dT kvs)/\y=.ref b/\H b=some (.tup<|k.map kV)/\kvs.length<sizeLine/\H'=bP H a (.dT<|gz kvs k v)
theorem DGet.k{H:Hp}{a:Addr}{kvs:List (Key×V)}{k:Key}(e:H a=some (.dK kvs)):DGet H a (kV k) (fo kvs k):=.inl ⟨kvs,k,.inl e,rfl,rfl⟩
theorem DPut.k{H:Hp}{a:Addr}{kvs:List (Key×V)}{k:Key}{v:V}(e:H a=some (.dK kvs))(hl:kvs.length<sizeLine):DPut H a (kV k) v (bP H a<|.dK<|gz kvs k v):=.inl ⟨kvs,k,e,rfl,hl,rfl⟩
section
variable{X:Cx}{pins:List (Addr×Obj)}{σ:St}{H:Hp}{s:Cu}{a:Addr}{y v:V}{u r:Cr}{o:Option V}{A:De}{E:Cr->Cu->Prop}
theorem Inv.big(I:Inv X pins σ H s):sysModules<s.heap.objs.size:=by
 have h:mainGlobals<s.heap.objs.size:=(I.mod.glob.keeps I.bk).lt;exact Hv (by decide) h
theorem qg{Q:Cr->Cu->Prop}(hu:A.units+1<cLine)(I:Inv X pins σ H s)(g:DGet H a y (some v))(ry:RelV y u)(h:∀w' s',Inv X pins σ H s'->RelV v w'->Q w' s'):
  wpAny (model X.prog X.w) A (getItem (.ref a) u) Q E s:=by
 rcases g with⟨kvs,k,e,ey,l⟩|⟨kvs,k,b,e,ey,eb,l⟩
 ·subst ey;obtain⟨z,hd,vs,rel,dd⟩:=lX I.hok e;obtain⟨w',hw,rw'⟩:=J6 (v:=v) (o:=valueAt vs k) (by rw[l];exact rel.val k);exact Jc (lW ry) dd.mapOf hw<|h w' _ (I.tok _) rw'
 ·subst ey;cases (show u=CO b from ry);obtain⟨z,hd,xs,rel,dd⟩:=oJ I.hok e;obtain⟨w',hw,rw'⟩:=J6 (v:=v) (o:=(atKey xs k).map (·.2)) (by rw[l];exact rel.val k);obtain⟨p,hp,hp2⟩:=ER.mp hw;refine wpAny_getItem_heap (GN hu) (lg I.hok eb) dd hp ?_;rw[hp2];exact h w' _ (I.tok _) rw'
theorem oK{h':Heap}{t':Nat}{ob:HO}(I:Inv X pins σ H s)(mu:za (H a))(hs:CT a s.heap h')(he:∃q,h'.get? a=some q)(new:ObjOk X.prog X.w (bP H a ob) h' a ob):
  Inv X pins σ (bP H a ob) {s with heap:=h',toks:=t'}:=
 I.write (x:=a) (e:=a) mu (.inl rfl) (fun b q hb z=>(hs.2 b hb).trans z) he new
theorem rZ{P:CQ}{w:D4}{H':Hp}{h':Heap}{kvs:List (Key×V)}{vs:List (Key×Cr)}(z:kvs.length<=sizeLine)(hd:(a==sysModules)=false)(rel:KV kvs vs)(dd:h'.DictOf (bh P w) a vs):
  ObjOk P w H' h' a (.dK kvs):=⟨z,hd,vs,rel,dd⟩
theorem kA{H':Hp}{Q:Unit->Cu->Prop}(hu:A.units+1<cLine)(I:Inv X pins σ H s)(g:DPut H a y v H')(ry:RelV y u)(rv:RelV v r)(h:∀s',Inv X pins σ H' s'->Q () s'):
  wpAny (model X.prog X.w) A (setItem (.ref a) u r) Q E s:=by
 rcases g with⟨kvs,k,e,ey,l,eH⟩|⟨kvs,k,b,e,ey,eb,l,eH⟩
 ·subst ey eH;obtain⟨z,hd,vs,rel,dd⟩:=zl I.hok e;have hz:vs.length<=sizeLine:=by rw[<-rel.length];exact z
  have hl:(gz kvs k v).length<=sizeLine:=by have:=iG kvs k v;omega
  refine wpAny_setItem_pairs (hsz:=hz) (lW ry) dd fun h' dd' hs=>h _ ?_;have he:∃q,h'.get? a=some q:=let ⟨q,_,_,hq,_⟩:=dd';⟨q,hq⟩;exact oK I (by rw[e];exact F6) hs he<|rZ hl hd (rel.put k rv) dd'
 ·subst ey eH;cases (show u=CO b from ry);obtain⟨z,hd,xs,rel,dd⟩:=zm I.hok e;have hz:xs.length<=sizeLine:=by rw[<-Paired.length rel];exact z
  have hl:(gz kvs k v).length<=sizeLine:=by have:=iG kvs k v;omega
  refine wpAny_setItem_heap (hsz:=hz) (GN hu) (lg I.hok eb) dd fun h' dd' hs=>h _ ?_;obtain⟨q,es,ep,hq,h2,h3,h4,_,h5⟩:=dd';refine oK I (by rw[e];exact F6) hs ⟨q,hq⟩ ⟨hl,hd,_,(rel.put k eb rv).keeps fun c ys ec=>?_,q,es,ep,hq,h2,h3,h4,h5⟩;rw[ag (z9 ec e (fun z=>nomatch z))];exact ec
end
def xQ(i:Expr):Prop:=∀ov iv,subscripted i false ov iv=operate [ov,iv] (getItem ov iv)
theorem vF{prog:CQ}{w:D4}{A:De}{E:Cr->Cu->Prop}{s:Cu}{env:Env}{value slice:Expr}{pos:Pos}{T id:String}{Q:Cr->Cu->Prop}
  (hl:typeLookup (.type T) "__getitem__"=pure (some<|.builtin id)) (hs:xQ slice)
  (h:wpAny (model prog w) A (eval value env) (fun o s₁=>wpAny (model prog w) A (eval slice env) (fun i s₂=>s₂.TypeIs o T/\wpAny (model prog w) A (getItem o i) Q E s₂) E s₁) E s):
  wpAny (model prog w) A (eval (.Subscript value slice pos) env) Q E s:=by
 refine Jt<|DX h (fun o s₁ h₁=>DX h₁ (fun i s₂ h₂=>?_) fun _ _ x=>x) fun _ _ x=>x;obtain⟨hT,h₂⟩:=h₂;unfold subscriptTail;refine Co ?_;rw[getitemInPython_of_ne hT.not_modules];refine Co<|Jj hT hl ?_;have fin:wpAny (model prog w) A (subscripted slice false o i) (fun r s₃=>wpAny (model prog w) A (letTemporaryGo value o r>>=fun _=>pure r) Q E s₃) E s₂:=by
  rw[hs o i];exact wpAny_operating<|DX h₂ (fun r s₃ h₃=>Co<|wpAny_letTemporaryGo<|CC h₃) fun _ _ x=>x
 first
  |exact CC<|Co fin
  |exact Co<|CC<|Co fin
  |exact Co fin
def bB(td ty tv:TE):TS:=fun D σ H=>tv σ H fun v H1=>td σ H1 fun x H2=>ty σ H2 fun y H3=>∃a H4,x=.ref a/\DPut H3 a y v H4/\D.nx σ H4
def xm(td ty tv:TE)(rd:V->V->Hp->VK->Prop):TS:=fun D σ H=>td σ H fun x H1=>ty σ H1 fun y H2=>∃a v,x=.ref a/\DGet H2 a y (some v)/\
 tv σ H2 fun y2 H3=>rd v y2 H3 fun z H4=>∃H5,DPut H4 a y z H5/\D.nx σ H5
section
variable{X:Cx}{o i e value:Expr}{pos pos' tpos:Pos}{td ty tv:TE}
theorem oM(hu:X.A.units+1<cLine)(ho:PE X o td)(hi:PE X i ty)(hv:PE X value tv)(hs:swapsWith value (some<|.Subscript o i pos') pos.line X.env=pure false):
  PS X (.Assign [.Subscript o i pos'] value pos) (bB td ty tv):=by
 intro pins s σ H D I h;refine wpAny_Assign_Subscript (bL (hv pins s σ H _ I h) fun r s1⟨v,H1,I1,rv,q1⟩=>bL (ho pins s1 σ H1 _ I1 q1) fun u s2⟨x,H2,I2,rx,q2⟩=>bL (hi pins s2 σ H2 _ I2 q2) fun iv s3⟨y,H3,I3,ry,a,H4,ex,g,q3⟩=>?_) hs;subst ex;obtain rfl:u=CO a:=rx;exact kA hu I3 g ry rv fun s4 I4=>⟨σ,H4,I4,q3⟩
theorem vG{op:Kt}{rd:V->V->Hp->VK->Prop}(hu:X.A.units+1<cLine)(ho:PE X o td)(hi:PE X i ty)(hv:PE X value tv)(hop:xK X op rd)
  (ha:∀ov iv new,augStore i ov iv new=(do holding [new,ov,iv] (setItem ov iv new);release [new,ov,iv] [];pure .next)):PS X (.AugAssign (.Subscript o i tpos) op value pos) (xm td ty tv rd):=by
 intro pins s σ H D I h;refine wpAny_AugAssign_SubscriptAny (bL (ho pins s σ H _ I h) fun u s1⟨x,H1,I1,rx,q1⟩=>bL (hi pins s1 σ H1 _ I1 q1) fun iv s2⟨y,H2,I2,ry,a,v,ex,g,q2⟩=>?_) ha;subst ex;obtain rfl:u=CO a:=rx;refine qg hu I2 g ry fun w' s3 I3 rw'=>bL (hv pins s3 σ H2 _ I3 q2) fun w2 s4 zz=>?_;obtain⟨y2,H3,I4,ry2,q3⟩:=zz;refine bL (hop pins s4 σ H3 v y2 w' w2 _ I4 rw' ry2 q3) fun w3 s5 zz=>?_;obtain⟨z,H4,I5,rz,H5,g5,q4⟩:=zz;exact kA hu I5 g5 ry rz fun s6 I6=>⟨σ,H5,I6,q4⟩
end
theorem sd{P:CQ}{w:D4}{H:Hp}(h:Heap)(hb:sysModules<h.objs.size):ObjOk P w H (h.push {cls:=.type "dict",data:=.dict #[]}) h.objs.size (.dK []):=
 ⟨HV _,beq_eq_false_iff_ne.mpr<|E8<|CN hb,[],.nil,Lc h⟩
def aS:TE:=fun _ H Q=>∀p,H p=none->Q (.ref p) (bP H p<|.dK [])
section
variable{X:Cx}{pos:Pos}
theorem lY:PE X (.Dict [] [] pos) aS:=fun pins s σ H Q I h=>
 wpAny_Dict_empty ⟨.ref s.heap.objs.size,_,I.laid (a:=s.heap.objs.size) (o:=.dK []) (t':=s.toks) (fun _ _ q=>Cs _ q) (CK _)<|sd s.heap I.big,rfl,h _<|I.hok.fresh<|CK _⟩
end
structure M2(X:Cx)(o:Expr)(m:Str)(apos:Pos)(e f:Expr)(cpos:Pos):Prop where
 base:attributeBase o m X.env (eval o X.env)=eval o X.env
 few:((backTo cpos<|starEach [e,f] X.env).all (fun x=> !x.1)&&(backToKw cpos<|keywordEach [] X.env).all (fun x=>x.1.isSome)
  &&decide (([e,f]:List Expr).length+([]:List Hu).length+(if([]:List Hu).isEmpty then 0 else 1)<30))=true
 line:(apos.endLine==cpos.line)=true
 trees:backTo cpos (starEach [e,f] X.env)=[(false,eval e X.env),(false,eval f X.env)]
def Bk(H:Hp)(a:Addr):Prop:=(∃kvs,Rd H a<|.dK kvs)\/∃kvs,Rd H a<|.dT kvs
theorem se{X:Cx}{pins:List (Addr×Obj)}{σ:St}{H:Hp}{s:Cu}{a:Addr}(I:Inv X pins σ H s)(d:Bk H a):
  s.TypeIs (.ref a) "dict"/\(∀b,CO a=.ref b->∃ob,s.heap.get? b=some ob/\ob.dict=none)/\(a==sysModules)=false:=by
 rcases d with⟨kvs,e⟩|⟨kvs,e⟩
 ·obtain⟨_,hd,vs,_,dd⟩:=lX I.hok e;refine⟨dd.typeIs,fun b q=>?_,hd⟩;cases q;obtain⟨ob,_,_,h1,h2,_⟩:=dd;exact⟨ob,h1,h2.2.1⟩
 ·obtain⟨_,hd,xs,_,dd⟩:=oJ I.hok e;refine⟨dd.typeIs,fun b q=>?_,hd⟩;cases q;obtain⟨ob,_,_,h1,h2,_⟩:=dd;exact⟨ob,h1,h2.2.1⟩
section
variable{X:Cx}{pins:List (Addr×Obj)}{σ:St}{H:Hp}{s:Cu}{a:Addr}{y d:V}{u r:Cr}{o:Option V}{A:De}{E:Cr->Cu->Prop}
theorem xR{Q:Cr->Cu->Prop}(hu:A.units+1<cLine)(I:Inv X pins σ H s)(g:DGet H a y o)(ry:RelV y u)(rd:RelV d r)(h:∀w' s',Inv X pins σ H s'->RelV (o.getD d) w'->Q w' s'):
  wpAny (model X.prog X.w) A (call (.builtin "dict.get") [.ref a,u,r]) Q E s:=by
 rcases g with⟨kvs,k,e,ey,l⟩|⟨kvs,k,b,e,ey,eb,l⟩
 ·subst ey;obtain⟨z,hd,vs,rel,dd⟩:=lX I.hok e;refine IX G9 dd.typeIs Hw (He _ _ _) (meets_dict_get_default (bh X.prog X.w) a (lW ry) hd r) ⟨_,dd.mapOf,h _ _ (I.tok _) ?_⟩;rw[l];exact(rel.val k).getD rd
 ·subst ey;cases (show u=CO b from ry);obtain⟨z,hd,xs,rel,dd⟩:=oJ I.hok e;refine IX G9 dd.typeIs Hw (He _ _ _) (meetsH_dict_get_default (tupleKind<|bh X.prog X.w) a b hd r) ⟨GN hu,k,xs,lg I.hok eb,dd,h _ _ (I.tok _) ?_⟩;rw[l];exact(rel.val k).getD rd
end
def sf(td ty tx:TE):TE:=fun σ H Q=>td σ H fun x H1=>∃a,x=.ref a/\Bk H1 a/\ty σ H1 fun y H2=>tx σ H2 fun z H3=>∃o,DGet H3 a y o/\Q (o.getD z) H3
section
variable{X:Cx}{o e f:Expr}{apos cpos:Pos}{td ty tx:TE}
theorem lZ(hu:X.A.units+1<cLine)(ho:PE X o td)(he:PE X e ty)(hf:PE X f tx)(m:M2 X o "get" apos e f cpos):PE X (.Call (.Attribute o "get" apos) [e,f] [] cpos) (sf td ty tx):=by
 intro pins s σ H Q I h;refine wpAny_Call_method m.base m.few m.line Hf G9 PySem.F.type_dict_get<|bL (ho pins s σ H _ I h) fun u s1 zz=>?_;obtain⟨x,H1,I1,rx,a,ex,d,q1⟩:=zz;subst ex;obtain rfl:u=CO a:=rx;obtain⟨t1,t2,_⟩:=se I1 d;refine⟨t1,t2,?_⟩;rw[m.trees];refine G3 rfl (Gj (GJ (bL (he pins s1 σ H1 _ I1 q1) fun iv s2⟨y,H2,I2,ry,q2⟩=>
  GJ (bL (hf pins s2 σ H2 _ I2 q2) fun fv s3⟨z,H3,I3,rz,ov,g,q3⟩=>IS ?_))))
 exact xR hu I3 g ry rz fun w' s4 I4 rw'=>⟨_,H3,I4,rw',q3⟩
end
section
variable{X:Cx}{pins:List (Addr×Obj)}{σ:St}{H:Hp}{s:Cu}{a:Addr}{kvs:List (Key×V)}{A:De}{E:Cr->Cu->Prop}
theorem si{Q:Cr->Cu->Prop}(I:Inv X pins σ H s)(e:Rd H a (.dK kvs))(h:∀p s',H p=none->Inv X pins σ (bP H p<|.dK kvs) s'->Q (.ref p) s'):wpAny (model X.prog X.w) A (call (.type "dict") [.ref a]) Q E s:=by
 obtain⟨z,hd,vs,rel,dd⟩:=lX I.hok e;refine kt_call_dict hd dd (by rw[<-rel.length];exact z) fun h' dd' hs=>?_;refine h _ _ (I.hok.fresh<|CK _)<|I.laid (a:=s.heap.objs.size) (o:=.dK kvs) (t':=s.toks) (fun b q hq=>?_) (CK _)<|rZ z (beq_eq_false_iff_ne.mpr<|E8<|CN I.big) rel dd';exact(hs.2 b<|CN<|CD hq).trans (Cs _ hq)
end
end L2
namespace Att
open PySem PySem.W PySem.Calls PyProof.Rows
theorem iR{P:KL}{h:Heap}:∀(ns:List Int)(vs:List Cr),WellAll P h vs (ns.map L7)->IT vs ns:=by
 intro ns
 induction ns with
 |nil=>
  intro vs w;rw[FF]at w;cases w;exact .nil
 |cons n ns ih=>
  intro vs w;rw[Dy]at w;cases w with
  |cons a b=>
   cases a;exact .cons _ _<|ih _ b
theorem qh{l:Gk}{n:Nat}(hn:l.most=some n){P:KL}{h:Heap}{args:List WData}{vals:List Cr}
  (hpre:l.row.toRowW.claim.pre args=true) (hwl:WellAll P h vals args):
  ∃a vs ns,vals=[CO a]/\args=[WData.list (ns.map L7)]/\h.get? a=some {cls:=.type "list",data:=.seq vs.toArray}/\IT vs ns/\ns.length<=n:=by
 have hsh:WShape.hasAll [] args [.list .int]=true:=(pre_splitW hpre).1;have hc:l.pre.holds [] {args:=args}=true:=(pre_splitW hpre).2;obtain⟨d,r,rfl,h1,h2⟩:=hasAllW_cons hsh;obtain rfl:=hasAllW_nil h2;obtain⟨xs,rfl,h3⟩:=hasW_list h1;obtain⟨ns,rfl⟩:=items_int h3;have hlen:ns.length<=n:=by
  unfold OpenLaw.pre at hc;have h4:(WTm.not<|.lt (.lit<|.int (n:Int))<|.len<|.arg 0).holds [] {args:=[.list (ns.map .int)]}=true:=by
   have h4:=(holds_andW hc).1;rw[hn]at h4;exact h4
  have h5:=condW_of h4<|w_not<|w_lt w_lit<|w_len_list<|w_arg rfl;rw[E6]at h5;refine Nat.le_of_not_lt fun q=>?_;have q':(n:Int)<((ns.length:Nat):Int):=by omega
  first
   |(rw[decide_eq_true q']at h5;exact absurd h5 (by decide))
   |(simp at h5;omega)
 cases hwl with
 |cons w1 w2=>
  cases w2;cases w1 with
  |list ho hall=>exact⟨_,_,ns,rfl,rfl,ho,iR ns _ hall,hlen⟩
theorem qi(l:Gk)(args:List WData):l.row.toRowW.claim.post args (.bool true) args=true:=
 postW_of (r:=l.row.toRowW) (X:=(true==true))
  (show KN [] (.bool true) .bool=true by first|rfl|decide|simp[KN,WShape.arms,WShape.armsAll])
  (show(WTm.eq .res<|.lit<|.bool true).value [] {args:=args,res:=some<|.bool true,after:=args}=some (.bool<|true==true)from w_eq_bool (w_res rfl) w_lit) rfl
theorem attach_call{l:Gk}{n:Nat}{q:CQ}{loose:List Str}{XP:(Str->Option Cr)->Heap->Prop}{YP:D4->Heap->Prop}{d:DefRec}
  (hn:l.most=some n) (hdf:d.params.defaults=[])
  (call:∀(w:D4) (s₀ s₁:Cu) (mg mb:Str->Option Cr) (fa:Addr) (o:Obj) (pm cd doc:Cr) (a:Addr) (vs:List Cr) (ns:List Int),
   Ground q loose [] XP w s₀ mg mb s₁.heap->YP w s₁.heap->
   s₁.heap.get? fa=some o->o.data=.func (docDef d.name d.params d.body d.scope pm cd doc)->s₁.heap.CodeRec cd d.name->mg d.name=some (.ref fa)->
   s₁.heap.get? a=some {cls:=.type "list",data:=.seq vs.toArray}->IT vs ns->ns.length<=n->s₁.gens= #[]->
   codeAny (model l.prog w) callerA (.call (.ref fa) ⟨[.ref a],[]⟩) (fun r s'=>r=.ok (.ret (.bool true))/\OldK s₁.heap s'.heap/\s'.os=s₁.os/\GB s'.gens) s₁):
  Jl q loose XP YP l.row.toRowW d [] (fun f vs=>Jx f vs):=by
 intro w s₀ s₁ mg mb G Y fa o pm cd doc dV kV ho hd hcd hD hmg hg args vals as hpre hlay hrd hwl hlo;obtain rfl:dV=.none:=Dflts.none hD hdf;obtain rfl:kV=.none:=Dflts.noKw hD;obtain⟨a,vs,ns,rfl,rfl,hobj,hints,hlen⟩:=qh hn hpre hwl;refine enter_call<|GC (call w s₀ s₁ mg mb fa o pm cd doc a vs ns G Y ho (fd_plain hd) hcd hmg hobj hints hlen hg) fun r s' hq=>?_;obtain⟨rfl,h2,h3,h4⟩:=hq;exact⟨.inl ⟨.bool true,.bool true,[],rfl,fun _=>rfl,.bool true,qi l _,fun _=>⟨GX,fun _ hm=>(nomatch hm)⟩⟩,h2,h3,h4⟩
end Att
namespace L2
open PySem PySem.Spec PyProof.Rows
theorem kC:∀{vs:List Cr}{ns:List Int},IT vs ns->Vals (ns.map G8) vs
 |_,_,.nil=>.nil
 |_,_,.cons n t h=>.cons ⟨t,rfl⟩<|kC h
def xS(H:Hp):Prop:=∀b,H b=none\/∃o xs,H b=some (.frz o<|.lst xs)
theorem sj{P:CQ}{w:D4}{K:Cq}{mg mb:Str->Option Cr}{CX:CXT}{k:Nat}{fa a:Addr}{fd:CP}{x:Str}{sp:Sp}{s₁:Cu}{vs:List Cr}{ns:List Int}
  (KX:K.In s₁.heap) (hns:s₁.heap.Ns mainGlobals mg) (hb:s₁.heap.Ns builtinsNs mb) (hbb:∀x:Str,x≠"__name__"->mb x=bootBuiltins x) (hlim:s₁.heap.NoLimit) (hg:s₁.gens= #[])
  (ha:s₁.heap.get? a=some {cls:=.type "list",data:=.seq vs.toArray}) (hi:IT vs ns) (hl:ns.length<=sizeLine) (hr:Room k callerA)
  (F:∀base:Heap,K.In base->base.Ns mainGlobals mg->FnOk P w K mg base CX k fa fd [x] sp) (hbind:∀(s:Cu)(u:Cr),Ia s fd ⟨[u],[]⟩ [(x,u)])
  (hsp:∀H:Hp,xS H->SqL K H a (ns.map G8)->sp [.ref a] H (fun v _=>v=.bl true) fun _ _ _=>False)
  (hCX:∀H e s',CX [] H s₁ (fun _ _ _=>False) e s'->False):
  codeAny (model P w) callerA (.call (.ref fa) ⟨[.ref a],[]⟩) (fun r s'=>r=.ok (.ret<|.bool true)/\OldK s₁.heap s'.heap/\s'.os=s₁.os/\GB s'.gens) s₁:=by
 have rv:=kC hi;have lenV:=hi.length;have core:∀H:Hp,xS H->SqL K H a (ns.map G8)->HOk P w H s₁.heap->(∀b,H b≠none->b=a)->(H a≠none->K.lookup a=none)->
   codeAny (model P w) callerA (.call (.ref fa) ⟨[.ref a],[]⟩) (fun r s'=>r=.ok (.ret<|.bool true)/\OldK s₁.heap s'.heap/\s'.os=s₁.os/\GB s'.gens) s₁:=by
  intro H hO hS hok hA hK;have base_of:∀{b:Addr}{o:Obj},s₁.heap.get? b=some o->H b=none->(l4 s₁.heap H).get? b=some o:=fun e n=>rE e n;have noA:∀{b:Addr}{o:Obj}{es:Array EI}{ep:Nat},s₁.heap.get? b=some o->o.data=.dict es ep->H b=none:=fun{b o es ep}e d=>by
   cases q:H b with
   |none=>rfl
   |some u=>
    have e':b=a:=hA b (by rw[q];simp);subst e';rw[ha]at e;cases e;have d':Hg vs.toArray _=Data.dict es ep:=d;cases d'
  have nsK:∀{b:Addr}{m:Str->Option Cr},s₁.heap.Ns b m->(l4 s₁.heap H).Ns b m:=fun{b m}⟨o,es,ep,e,d,r⟩=>⟨o,es,ep,base_of e<|noA e d,d,r⟩
  have hKb:K.In (l4 s₁.heap H):=fun b o e=>base_of (KX b o e) (by
   cases q:H b with
   |none=>rfl
   |some u=>
    have e':b=a:=hA b (by rw[q];simp);subst e';rw[hK (by rw[q];simp)]at e;cases e)
  have hM:Mod K mg (l4 s₁.heap H):=⟨hKb,nsK hns,⟨mb,nsK hb,hbb⟩,let ⟨mc,h1,h2⟩:=hlim;⟨mc,nsK h1,h2⟩⟩
  have e0:Env0 P w K mg (l4 s₁.heap H) callerA [] s₁ H:=⟨rfl,hM,fun b o e=>vh e,Kh<|pY _ _,trivial,fun b hb=>absurd (show b∈([]:List Addr)from hb) (by simp),hok,.of_eq hg⟩
  refine GC ((F _ hKb<|nsK hns).run callerA [] s₁ H ⟨[.ref a],[]⟩ [.ref a] [.ref a] _ _ hr e0 (hbind s₁<|.ref a) (.cons rfl .nil) (hsp H hO hS)) fun r s' h=>?_;cases r with
  |error e=>exact(hCX H e s' h).elim
  |ok fl=>
   cases fl with
   |next=>exact DY h
   |brk=>exact DY h
   |cont=>exact DY h
   |ret u=>
    obtain⟨v,H',os,bare,un,hok',r',q⟩:=h;have q':v=.bl true:=q;subst q';obtain rfl:u=Iq true:=r';refine⟨rfl,OldK.of_keep fun b o e=>?_,os,bare⟩;cases q:H b with
    |none=>exact un.keep b o e q (by intro z;exact absurd (show b∈([]:List Addr)from z) (by simp)) (by simp)
    |some u=>
     rcases hO b with z|⟨ob,xs,z⟩
     ·rw[q]at z;cases z
     ·have z2:=un.frzs b ob _ z;obtain⟨e1,_⟩:=hok b _ z;obtain⟨e2,_⟩:=hok' b _ z2;rw[e]at e1;cases e1;exact e2
 cases hk:K.lookup a with
 |some o=>
  have e:=KX a o hk;rw[ha]at e;cases e;refine core (fun _=>none) (fun _=>.inl rfl) (.inr ⟨_,vs.toArray,_,hk,rfl,rfl,rfl,by rw[CH,lenV];exact hl,by simpa using rv⟩) (fun b u z=>by have z':(none:Option HO)=some u:=z;cases z') (fun b z=>absurd rfl z) fun z=>absurd rfl z
 |none=>
  refine core (fun b=>if b=a then some (.frz {cls:=.type "list",data:=.seq vs.toArray}<|.lst<|ns.map G8)else none) (fun b=>?_) (.inl<|.inr ⟨{cls:=.type "list",data:=.seq vs.toArray},if_pos rfl⟩) (fun b u z=>?_) (fun b z=>?_) fun _=>hk
  ·by_cases hb:b=a;·exact .inr ⟨_,_,if_pos hb⟩
   ·exact .inl<|if_neg hb
  ·by_cases hb:b=a
   ·have z':=(if_pos hb).symm.trans z;cases z';subst hb;exact⟨ha,by rw[E6];exact hl,vs,_,rv,ha⟩
   ·have z':=(if_neg hb).symm.trans z;cases z'
  ·by_cases hb:b=a;·exact hb
   ·exact absurd (if_neg hb) z
theorem walk_of{l:Gk}{n k:Nat}{q:CQ}{loose:List Str}{XP:(Str->Option Cr)->Heap->Prop}{YP:D4->Heap->Prop}{d:DefRec}{K:KL->Cq}{CX:D4->CXT}{sp:D4->Sp}{x:Str}
  (hn:l.most=some n) (hn2:n<=sizeLine) (hdf:d.params.defaults=[]) (hr:Room k callerA)
  (hY:∀(w:D4)(h:Heap),YP w h->(K w.params).In h)
  (F:∀(w:D4) (mg:Str->Option Cr) (fa:Addr) (h:Heap),(K w.params).In h->h.Ns mainGlobals mg->mg d.name=some (.ref fa)->
   ∃fd:CP,(∀(s:Cu)(u:Cr),Ia s fd ⟨[u],[]⟩ [(x,u)])/\
    ∀base:Heap,(K w.params).In base->base.Ns mainGlobals mg->FnOk l.prog w (K w.params) mg base (CX w) k fa fd [x] (sp w))
  (hsp:∀(w:D4)(H:Hp)(a:Addr)(ns:List Int),ns.length<=n->xS H->SqL (K w.params) H a (ns.map G8)->sp w [.ref a] H (fun v _=>v=.bl true) fun _ _ _=>False)
  (hCX:∀(w:D4)(H:Hp)(s:Cu)(e:Cr)(s':Cu),CX w [] H s (fun _ _ _=>False) e s'->False):
  Jl q loose XP YP l.row.toRowW d [] (fun f vs=>Jx f vs):=by
 refine Att.attach_call hn hdf fun w s₀ s₁ mg mb fa o pm cd doc a vs ns G Y ho hd hcd hmg hobj hints hlen hg=>?_;have KX:=hY w _ Y;obtain⟨fd,hb,hF⟩:=F w mg fa _ KX G.T.g hmg;exact sj KX G.T.g G.T.b G.T.builtins G.T.nolimit hg hobj hints (Ei hlen hn2) hr hF hb (fun H hO hS=>hsp w H a ns hlen hO hS) fun H e s'=>hCX w H s₁ e s'
def defArgs(s:Stmt):Arguments:=match s with
 | .FunctionDef _ a _ _ _ _ _ _ _ _=>a
 |_=>{posonlyargs:=[],args:=[],vararg:=none,kwonlyargs:=[],kw_defaults:=[],kwarg:=none,defaults:=[]}
def defBody(s:Stmt):List Stmt:=match s with
 | .FunctionDef _ _ b _ _ _ _ _ _ _=>b
 |_=>[]
def defScope(s:Stmt):Fh:=match s with
 | .FunctionDef _ _ _ _ _ _ sc _ _ _=>sc
 |_=>{kind:=.function,names:=[],isGenerator:=false,isCoroutine:=false}
abbrev CX0:CXT:=fun _ _ _ _ _ _=>False
abbrev E0:XK:=fun _ _ _=>False
theorem oN{X:Cx}:dN CX0 X E0:=fun _ _ _ _ _ _ _ h=>h.elim
structure Fun(K:Cq)(x qual:Str)(st:Stmt)(f:Addr)(fd:CP):Prop where
 ex:∃(oc:Cr)(od:Option Addr)(kV doc pm:Cr)(an:Option Addr)(cdv ct:Cr)(osl:Array (Option Cr)),
  fd=Dm x qual (defArgs st) (defBody st) (defScope st) .none kV doc pm an cdv ct/\K.lookup f=some ⟨oc,od,.func fd,osl⟩/\Dt K cdv qual=true
 kp:CZ K (.ref f)=true
section
variable{P:CQ}{w:D4}{K:Cq}{mg:Str->Option Cr}{base:Heap}
theorem Fun.ok{x qual:Str}{st:Stmt}{f:Addr}{fd:CP}{N ps:List Str}{k:Nat}{sp:Sp}(F:Fun K x qual st f fd)(S:FnScope N ps (defScope st))(len:∀vs H Q E,sp vs H Q E->vs.length=ps.length)
  (hbody:∀(cdv:Cr) (A:De) (outer:List Env) (s:Cu) (H:Hp) (vs:List V) (Q:VK) (E:XK),Room k (A.deeper<|envOfC qual (defScope st) s.heap.objs.size f cdv)->sp vs H Q E->
   ∃t,PSs (jh CX0 P w K mg base N qual (defScope st) f cdv A outer s H E).nox (defBody st) t/\t {nx:=fun _ H'=>Q .non H',rt:=Q} (start N vs) H):FnOk P w K mg base CX0 (k+1) f fd ps sp:=by
 obtain⟨oc,od,kV,doc,pm,an,cdv,ct,osl,rfl,lk,hcd⟩:=F.ex;refine xj lk hcd S len fun A outer s H vs Q E hr hsp=>?_;obtain⟨t,h,q⟩:=hbody cdv A outer s H vs Q E hr hsp;exact⟨t,h.nox,q⟩
theorem Fun.binds{x qual:Str}{st:Stmt}{f:Addr}{fd:CP}{ps:List Str}(F:Fun K x qual st f fd)
  (h:∀(kV doc pm:Cr)(an:Option Addr)(cdv ct:Cr)(us:List Cr),us.length=ps.length->bindArgs (Dm x qual (defArgs st) (defBody st) (defScope st) .none kV doc pm an cdv ct) ⟨us,[]⟩=pure (ps.zip us)):Binds K fd ps []:=by
 obtain⟨oc,od,kV,doc,pm,an,cdv,ct,osl,rfl,lk,hcd⟩:=F.ex;exact .all<|h kV doc pm an cdv ct
theorem cT{x qual:Str}{st:Stmt}{f:Addr}{oc:Cr}{od an:Option Addr}{osl:Array (Option Cr)}{kV doc pm cdv ct:Cr}(l:K.lookup f=some ⟨oc,od,.func<|Dm x qual (defArgs st) (defBody st) (defScope st) .none kV doc pm an cdv ct,osl⟩)
  (c:Dt K cdv qual=true) (k:CZ K (.ref f)=true):Fun K x qual st f (Dm x qual (defArgs st) (defBody st) (defScope st) .none kV doc pm an cdv ct):=⟨⟨oc,od,kV,doc,pm,an,cdv,ct,osl,rfl,l,c⟩,k⟩
end
section
variable{X:Cx}
theorem pv(i:Nat){x:Str}{pos:Pos}(hN:X.N[i]? =some x:=by rfl)(hv:Vis X.env.scope x:=by first|exact G4 rfl|exact FR (G4 rfl)|exact FR<|FR rfl)(hd:(x==("__debug__" :Str))=false:=by decide)
  (hcd:(x==("__classdict__" :Str))=false:=by decide):PE X (.Name x pos) (aU i):=xE hN hv hd hcd
end
def Same(H H':Hp):Prop:=∀b o,H b=some o->H' b=some o
theorem Same.refl(H:Hp):Same H H:=fun _ _ h=>h
theorem Same.trans{H H1 H2:Hp}(a:Same H H1)(b:Same H1 H2):Same H H2:=fun c o h=>b c o<|a c o h
theorem Same.seq{K:Cq}{H H':Hp}{a:Addr}{xs:List V}(e:Same H H')(h:SqL K H a xs):SqL K H' a xs:=by
 rcases h with(h|⟨o,h⟩)|h;·exact .inl<|.inl<|e _ _ h
 ·exact .inl<|.inr ⟨o,e _ _ h⟩
 ·exact .inr h
end L2
set_option maxHeartbeats 4000000
namespace L2
open PySem PySem.Spec PyProof.Rows
abbrev sOf(l:List Nat):Str:=⟨l.toArray⟩
theorem cQ(l:List Nat):(sOf l).length=l.length:=by simp[KJ,sOf]
theorem lh(l:List Nat):(sOf l).cps.toList=l:=by simp[sOf]
theorem fq(a b:List Nat):sOf a++sOf b=sOf (a++b):=by
 apply PySem.Str.ext';rw[PySem.Str.cps_append];simp[sOf]
theorem oO{a b:List Nat}(h:sOf a=sOf b):a=b:=by
 have:=congrArg (fun x=>x.cps.toList) h;simpa [sOf] using this
theorem sk(x:Str):x=sOf x.cps.toList:=by cases x;simp[sOf]
def DictK(K:Cq)(w:D4)(a:Addr)(kvs:List (Key×V)):Prop:=
 kvs.length<=1000/\(a==sysModules)=false/\(kvs.map (·.1)).Nodup/\∃(es:Array EI)(ep:Nat),K.lookup a=some {cls:=.type "dict",data:=.dict es ep}/\
  Paired (fun(p:Key×V)(e:EI)=>fK p.1 e.key=true/\e.hash=rD w p.1/\RelV p.2 e.val) kvs es.toList
theorem m7{P:CQ}{w:D4}{kvs:List (Key×V)}{es:List EI}(r:Paired (fun(p:Key×V)(e:EI)=>fK p.1 e.key=true/\e.hash=rD w p.1/\RelV p.2 e.val) kvs es):
  ∀e∈es,∃k,fK k e.key=true/\e.hash=rD w k:=by
 induction r with
 |nil=>intro e h;cases h
 | @cons p e ps es h t ih=>
  intro e' h';rcases CM.mp h' with rfl|h'
  ·exact⟨p.1,h.1,h.2.1⟩
  ·exact ih e' h'
theorem lj{P:CQ}{w:D4}{kvs:List (Key×V)}{es:List EI}(r:Paired (fun(p:Key×V)(e:EI)=>fK p.1 e.key=true/\e.hash=rD w p.1/\RelV p.2 e.val) kvs es):
  ∃vs,KV kvs vs/\Pairs (bh P w) es vs/\vs.map (·.1)=kvs.map (·.1):=by
 induction r with
 |nil=>exact⟨[],.nil,.nil,rfl⟩
 | @cons p e ps es h t ih=>
  obtain⟨vs,h1,h2,h3⟩:=ih;exact⟨(p.1,e.val)::vs,.cons ⟨rfl,h.2.2⟩ h1,.cons h.1 rfl h2,by simp[h3]⟩
theorem DictK.of{P:CQ}{w:D4}{K:Cq}{a:Addr}{kvs:List (Key×V)}{h:Heap}(d:DictK K w a kvs)(x:K.In h):(a==sysModules)=false/\∃vs,KV kvs vs/\h.DictOf (bh P w) a vs:=by
 obtain⟨hz,hs,nd,es,ep,lk,r⟩:=d;obtain⟨vs,h1,h2,h3⟩:=lj (P:=P) r;refine⟨hs,vs,h1,_,es,ep,x _ _ lk,⟨rfl,rfl,rfl⟩,rfl,fun e he=>m7 (P:=P) r e (by simpa using he),h2,by rw[h3];exact nd⟩
section
variable{X:Cx}{o i e:Expr}{pos:Pos}{td ty:TE}
def aK(K:Cq)(w:D4)(td ty:TE):TE:=fun σ H Q=>td σ H fun x H1=>ty σ H1 fun y H2=>∃a kvs k v,x=.ref a/\DictK K w a kvs/\y=kV k/\fo kvs k=some v/\Q v H2
theorem so(ho:PE X o td)(hi:PE X i ty)(hs:xQ i):PE X (.Subscript o i pos) (aK X.K X.w td ty):=by
 intro pins s σ H Q I h;refine vF PySem.F.slot_dict_getitem.lookup hs<|bL (ho pins s σ H _ I h) fun u s1 zz=>?_;obtain⟨x,H1,I1,rx,q1⟩:=zz;refine bL (hi pins s1 σ H1 _ I1 q1) fun iv s2 zz=>?_;obtain⟨y,H2,I2,ry,a,kvs,k,v,ex,dk,ey,ev,q2⟩:=zz;subst ex ey;obtain rfl:u=CO a:=rx;obtain⟨hd,vs,rel,dd⟩:=dk.of (P:=X.prog) I2.kIn;refine⟨dd.typeIs,?_⟩;obtain⟨w',hw,rw'⟩:=J6 (v:=v) (o:=valueAt vs k) (by rw[<-ev];exact rel.val k);exact Jc (lW ry) dd.mapOf hw ⟨v,H2,I2.tok _,rw',q2⟩
end
section
variable{X:Cx}
theorem ji:OpR X (compareOp .Is) (fun x y H Q=>∃c,y=.bl c/\Q (.bl<|decide<|x=.bl c) H):=by
 intro pins s σ H x y v u Q I rx ry h;obtain⟨c,rfl,q⟩:=h;cases ry;cases x with
 |bl b=>cases rx;exact is_bool (aJ I q (by cases b<;>cases c<;>simp))
 |non=>cases rx;exact CC (aJ I q (by simp))
 |int i=>obtain⟨t,rfl⟩:=rx;exact CC (aJ I q (by simp))
 |str i=>obtain⟨t,rfl⟩:=rx;exact CC (aJ I q (by simp))
 |byt i=>obtain⟨t,rfl⟩:=rx;exact CC (aJ I q (by simp))
 |flt i=>obtain⟨t,rfl⟩:=rx;exact CC (aJ I q (by simp))
 |ref a=>cases rx;exact CC (aJ I q (by simp))
 |ty a=>cases rx;exact CC (aJ I q (by simp))
theorem nE:OpR X (binaryOp .Mult) (fun x y H Q=>∃c n,x=.str (sOf [c])/\y=.int n/\0<=n/\n<=100000/\Q (.str<|sOf<|CI n.toNat c) H):=by
 intro pins s σ H x y v u Q I rx ry h;obtain⟨c,n,rfl,rfl,h0,h1,q⟩:=h;obtain⟨t,rfl⟩:=rx;obtain⟨t',rfl⟩:=ry;have hl:(sOf [c]).length=1:=cQ [c];refine SB.mul ?_ fun t' k=>?_
 ·refine⟨?_,fun _ _=>?_,fun _ _=>?_⟩
  ·have e1:decide (n< -(2^63:Int))=false:=decide_eq_false (by omega);have e2:decide (n≥2^63)=false:=decide_eq_false (by omega);rw[e1,e2];rfl
  ·rw[hl];have h2:1<=n:=by omega
   have:(1:Int)<=(2^63-1)/n:=(Int.le_ediv_iff_mul_le (by omega)).mpr (by omega);omega
  ·rw[hl];unfold KA;have:=DK;simp;omega
 ·have e:KW (sOf [c]) n=sOf (CI n.toNat c):=by
   rw[sk<|KW (sOf [c]) n];show sOf ((KW ⟨#[c]⟩ n).cps.toList)=_;rw[mul_one_list]
  exact⟨.str _,H,I.tok _,⟨t',rfl⟩,by rw[e];exact q⟩
end
section
variable{X:Cx}
theorem sq(hc:X.calm=true):zh X "str.index" (fun x xs H Q=>∃a b,x=.str a/\xs=[.str b]/\0<=GO a b/\Q (.int<|GO a b) H):=by
 intro pins s σ H x xs v us Q I rx rs h;obtain⟨a,b,rfl,rfl,h0,q⟩:=h;obtain⟨t,rfl⟩:=rx;obtain⟨u,rfl,t',rfl⟩:=gP rs;refine index_or (I.ok.hd hc) (fun e=>?_) fun _ _=>⟨.int _,H,I.tok _,⟨_,rfl⟩,q⟩
 omega
theorem nG{ys:List (List Nat)}:∀{us:List Cr},Vals (ys.map fun y=>FZ<|sOf y) us->StrsAre us (ys.map sOf):=by
 induction ys with
 |nil=>intro us r;cases r;exact .nil
 |cons y ys ih=>
  intro us r;cases r with
  |cons r1 r2=>
   obtain⟨t,e⟩:=r1;subst e;exact .cons _ t<|ih r2
theorem nH(ys:List (List Nat)):Txt.join (sOf []) (ys.map sOf)=sOf ys.flatten:=by
 have key:∀(r:List (List Nat))(acc:List Nat),(r.map sOf).foldl (fun acc p=>acc++(sOf []).cps++p.cps) acc.toArray=(acc++r.flatten).toArray:=by
  intro r
  induction r with
  |nil=>intro acc;simp
  |cons a r ih=>
   intro acc;rw[Dy,Jh,Eu,<-EH,<-ih (acc++a)];simp[sOf]
 cases ys with
 |nil=>rfl
 |cons a r=>
  show Str.mk (((r.map sOf)).foldl (fun acc p=>acc++(sOf []).cps++p.cps) a.toArray)=_;rw[key];rfl
theorem vH:zh X "str.join" (fun x xs H Q=>∃(p:Addr)(ys:List (List Nat)),x=.str (sOf [])/\xs=[.ref p]/\SqL X.K H p (ys.map fun y=>FZ<|sOf y)/\ys.flatten.length<=100000/\Q (.str<|sOf ys.flatten) H):=by
 intro pins s σ H x xs v us Q I rx rs h;obtain⟨p,ys,rfl,rfl,hp,hl,q⟩:=h;obtain⟨t,rfl⟩:=rx;obtain⟨u,rfl,r1⟩:=gP rs;cases r1;obtain⟨its,r,pl,hz⟩:=I.list hp;refine join_list pl.isList (by simpa using nG r) ?_ fun t' k=>⟨.str _,H,I.tok _,⟨t',rfl⟩,by rw[nH];exact q⟩
 have e:((ys.map sOf).map (·.length)).sum=ys.flatten.length:=by
  rw[DL,List.length_flatten];congr 1
  all_goals exact DA fun y _=>cQ y
 have e2:(sOf []).length=0:=cQ [];rw[e,e2];omega
theorem m8:eg X (.builtin "isinstance") (fun xs H Q=>∃x T t b,xs=[x,.ty T]/\TyOf X.K H x t/\Dp X.K t (.type T)=some b/\Q (.bl b) H):=by
 intro pins s σ H xs us Q I r h;obtain⟨x,T,t,b,rfl,ty,e,q⟩:=h;obtain⟨u,w',rfl,rx,rT⟩:=oE r;obtain rfl:w'=.type T:=rT;exact qd I rx ty e fun tk=>⟨.bl b,H,I.tok _,rfl,q⟩
def Bl(l:List Nat):It:=⟨fun i _=>i<l.length,fun i H x H'=>H'=H/\∃c,l[i]? =some c/\x=.str (sOf [c]),fun i _=>l.length<=i⟩
def zo(tl:TE):TI:=fun σ H R=>tl σ H fun x H1=>∃l,x=.str (sOf l)/\R (Bl l) H1
end
theorem sr{P:CQ}{w:D4}{K:Cq}{tg:Expr}(l:List Nat)(it:Addr)(ty:String)(t:Tok)(hty:ty="str_ascii_iterator"\/ty="str_iterator")
  (W:∀A':De,A'.handled=none->Walks P w A' it [it] [it] l.length (SignAt<|sOf l) (fun i h=>h.IsStrIter it ty (sOf l) t i)):
  Turn P w K tg (Bl l) [it] it (fun i h=>i<=l.length/\h.IsStrIter it ty (sOf l) t i) where
 mem:=by simp
 obj:=fun i h st b hb=>by
  have e:b=it:=by simpa using hb
  subst e;obtain⟨_,o,e,c,d⟩:=st;exact⟨o,e,fun v z=>by rw[d]at z;cases z⟩
 keep:=fun i h h' st k=>⟨st.1,by obtain⟨o,e,r⟩:=st.2;exact⟨o,k it (by simp) o e,r⟩⟩
 item:=by
  intro X hP hw hK hc i pins s σ H E I hf st hg;subst hP hw hK;obtain⟨f0,f1,f2,f3,f4,f5⟩:=hf it (by simp);refine(W X.A<|I.ok.hd hc).item i s _ _ hg st.2 fun v h' tk hv st' kk=>?_;obtain⟨c,u,hc',rfl⟩:=hv;have I1:Inv X pins σ H {s with heap:=h',toks:=tk}:=I.turned (fun b o hb e=>kk b o (by simpa using hb) e) f0 f1 f3 f4 f5;obtain⟨o,e,c1,d⟩:=id st';refine⟨_,rfl,ou (s:={s with heap:=h',toks:=tk}) (n:=ty) e c1 d (by rcases hty with rfl|rfl<;>decide) ⟨.str<|sOf [c],H,I1,⟨u,rfl⟩,⟨rfl,c,?_,rfl⟩,⟨hg,st'⟩,fun b hb=>(hf b hb).1⟩⟩;simpa [sOf] using hc'
 done:=by
  intro X hP hw hK hc i pins s σ H E I hf st hg;subst hP hw hK;obtain⟨f0,f1,f2,f3,f4,f5⟩:=hf it (by simp);have e:i=l.length:=Nat.le_antisymm st.1 hg;subst e;exact(W X.A<|I.ok.hd hc).done s _ _ st.2 fun h' tk kk=>⟨rfl,I.turned (fun b o hb e=>kk b o (by simpa using hb) e) f0 f1 f3 f4 f5⟩
 self:=fun A i s Q E st h=>by
  rcases hty with rfl|rfl;·exact wpAny_pyIter_striter_ascii st.2 h
  ·exact wpAny_pyIter_striter_wide st.2 h
theorem gE{X:Cx}{tg l:Expr}{tl:TE}(hl:PE X l tl):PI X tg l (zo tl):=by
 intro pins s σ H R I h;refine bL (hl pins s σ H _ I h) fun v s1 zz=>?_;obtain⟨x,H1,I1,r1,q1⟩:=zz;obtain⟨y,e,q⟩:=q1;subst e;obtain⟨t,rfl⟩:=r1;have hn:(sOf y).cps.size=y.length:=by simp[sOf]
 have fin:∀(ob:Obj)(ty:String),(ty="str_ascii_iterator"\/ty="str_iterator")->(∀A':De,A'.handled=none->Walks X.prog X.w A' s1.heap.objs.size [s1.heap.objs.size] [s1.heap.objs.size] y.length (SignAt<|sOf y) (fun i h=>h.IsStrIter s1.heap.objs.size ty (sOf y) t i))->
   (s1.heap.push ob).IsStrIter s1.heap.objs.size ty (sOf y) t 0->AU X pins σ tg R (.ref s1.heap.objs.size) {s1 with heap:=s1.heap.push ob}:=fun ob ty hty W st=>by
  refine⟨s1.heap.objs.size,[s1.heap.objs.size],_,_,H1,rfl,I1.kept (t':=s1.toks) fun b o e=>Cs _ e,sr y _ ty t hty W,⟨HV _,st⟩,fun b hb=>?_,q⟩;have e:b=s1.heap.objs.size:=by simpa using hb
  subst e;exact I1.fpOk (CK _)<|I1.hok.fresh<|CK _
 cases ha:(sOf y).cps.all (· <128);·exact IY ha<|fin _ "str_iterator" (.inr rfl) (fun A' hA=>hn▸Walks.strWide hA _ (sOf y) t) ⟨_,CF _ rfl,rfl,rfl⟩
 ·exact Iz ha<|fin _ "str_ascii_iterator" (.inl rfl) (fun A' hA=>hn▸Walks.strAscii hA _ (sOf y) t) ⟨_,CF _ rfl,rfl,rfl⟩
def cb(env:Env):List (Str×Fd)->List (Str×Addr)->List (Str×Addr)
 | [],acc=>acc
 |(n,k)::r,acc=>cb env r (if(k== .free)=true then(n,(env.cells.lookup n).getD 0)::acc else acc)
theorem eW{scope:Fh}{env:Env}(h:∀x∈scope.names,x.2=.free->∃c,env.cells.lookup x.1=some c):closureFor scope env=pure (cb env scope.names []):=by
 simp only[closureFor];have key:∀(names:List (Str×Fd))(acc:List (Str×Addr)),(∀x∈names,x.2=.free->∃c,env.cells.lookup x.1=some c)->
   (forIn names acc fun(x:Str×Fd)(cs:List (Str×Addr))=>if(x.2== .free)=true then(do let a <-cellOf env x.1;pure (Fp ((x.1,a)::cs)))else pure (Fp cs))=(pure (cb env names acc):Sem _):=by
  intro names
  induction names with
  |nil=>intro acc _;rfl
  |cons x r ih=>
   intro acc hx;obtain⟨n,k⟩:=x;rw[FO];have hr:∀y∈r,y.2=.free->∃c,env.cells.lookup y.1=some c:=fun y hy=>hx y<|CG _ hy;unfold cb;by_cases hk:(k==DQ)=true
   ·obtain⟨c,hc⟩:=hx (n,k) CJ (by simpa using hk);have hc:env.cells.lookup n=some c:=hc;simp only[hk,if_true];unfold cellOf;simp only[hc,El];exact ih _ hr
   ·simp only[hk,if_false];exact ih _ hr
 have:=key scope.names [] h;rw[this];rfl
theorem fN{env:Env}{x:Str}{c:Addr}:∀(names:List (Str×Fd))(acc:List (Str×Addr)),(∀y∈names,y.2=.free->∃c,env.cells.lookup y.1=some c)->(cb env names acc).lookup x=some c->
  ((x,DQ)∈names/\env.cells.lookup x=some c)\/acc.lookup x=some c
 | [],_,_,h=>.inr h
 |(n,k)::r,acc,hx,h=>by
  unfold cb at h;rcases fN r _ (fun y hy=>hx y<|CG _ hy) h with⟨q1,q2⟩|q
  ·exact .inl ⟨CG _ q1,q2⟩
  ·by_cases hk:(k == DQ)=true
   ·rw[if_pos hk]at q;have hk':k=.free:=by simpa using hk
    subst hk';rw[Em]at q;cases hb:x==n with
    |true=>
     rw[hb]at q;have e:x=n:=beq_iff_eq.mp hb;subst e;obtain⟨c',hc⟩:=hx (x,.free) CJ rfl;have hc:env.cells.lookup x=some c':=hc;rw[hc]at q;simp at q;subst q;exact .inl ⟨CJ,hc⟩
    |false=>rw[hb]at q;exact .inr q
   ·rw[if_neg hk]at q;exact .inr q
theorem iH{env:Env}{x:Str}{c:Addr}:∀(names:List (Str×Fd))(acc:List (Str×Addr)),acc.lookup x=some c->env.cells.lookup x=some c->(cb env names acc).lookup x=some c
 | [],_,h,_=>h
 |(n,k)::r,acc,h,he=>by
  unfold cb;refine iH r _ ?_ he;by_cases hk:(k==DQ)=true
  ·rw[if_pos hk,Em];cases hb:x==n with
   |true=>
    have e:x=n:=beq_iff_eq.mp hb;subst e;simp[he]
   |false=>exact h
  ·rw[if_neg hk];exact h
theorem iI{env:Env}{x:Str}{c:Addr}:∀(names:List (Str×Fd))(acc:List (Str×Addr)),(x,DQ)∈names->env.cells.lookup x=some c->(cb env names acc).lookup x=some c
 |(n,k)::r,acc,h,he=>by
  unfold cb;rcases CM.mp h with e|h
  ·cases e;exact iH r _ (by simp[he]) he
  ·exact iI r _ h he
theorem cA:∀(names:List (Str×Fd))(n:Nat)(acc:List (Str×Addr)),cellsFrom n names acc=cellsFrom n names []++acc
 | [],_,_=>rfl
 |(x,k)::r,n,acc=>by
  unfold cellsFrom;split;·rw[cA r _ ((x,n)::acc),cA r _ [(x,n)],EH];rfl
  ·exact cA r n acc
theorem dO:∀(names:List (Str×Fd))(n:Nat){x:Str}{c:Addr},(x,c)∈cellsFrom n names []->(x,Ik)∈names
 | [],_,_,_,h=>by cases h
 |(y,k)::r,n,x,c,h=>by
  unfold cellsFrom at h;split at h
  ·rename_i hk;rw[cA]at h;rcases E3.mp h with h|h
   ·exact CG _<|dO r _ h
   ·have e:(x,c)=(y,n):=by simpa using h
    cases e;have hk':k=.cell:=by simpa using hk
    subst hk';exact CJ
  ·exact CG _<|dO r _ h
theorem jj{M:Jp}{A:De}{E:Cr->Cu->Prop}{s:Cu}{scope:Fh}{env:Env}{cl:List (Str×Addr)}{Q:Env->Cu->Prop}
  (hQ:Q (newEnv scope s.heap.objs.size env.globals (cellsFrom (s.heap.objs.size+1) scope.names cl) env.qual none .none (some env) builtinsNs) {s with heap:=pushCells (s.heap.push {cls:=.type "dict",data:=.dict #[]}) scope.names}):
  wpAny M A (newFunctionEnv scope env.globals cl [] env.qual none .none<|some env) Q E s:=by
 simp only[newFunctionEnv,Iy,if_true];refine Co<|wpAny_alloc ?_;refine Co (wpAny_layCells _ (fun name kind cells=>by cases hkc:kind==Ik<;>simp[hkc]) _ _ _ _ ?_);rw[show({s with heap:=s.heap.push {cls:=.type "dict",data:=.dict #[]}}:Cu).heap.objs.size=s.heap.objs.size+1 from Dj ..];simp only[G5];exact Co<|CC<|CC hQ
section
variable{prog:CQ}{w:D4}{A:De}{R:Kg->Cu->Prop}{s:Cu}
theorem gR{elt target iter:Expr}{ifs:List Expr}{scope:Fh}{pos:Pos}{it acc:Cr}{env:Env}(I:Nat->Cu->Prop)
  (turn:∀n s,I n s->wpAny (model prog w) A (pyNext it) (fun r s₁=>match r with
   |none=>R (.ok .next) s₁
   | some v=>wpAny (model prog w) A (letOwnedTupleGo target it v) (fun _ s₁'=>wpAny (model prog w) A (assign target env v) (fun _ s₂=>
     wpAny (model prog w) A (forIn ifs true fun c r=>if r=true then do let ok <-isTrue c env (eval c env);pure (Fp ok)else pure (Fp r)) (fun ok s₃=>
      if ok=true then wpAny (model prog w) A (eval elt env) (fun x s₄=>
       wpAny (model prog w) A (call (.builtin "list.append") [acc,x]) (fun _ s₅=>∃m,m<n/\I m s₅) (fun _ _=>False) s₄) (fun _ _=>False) s₃
      else ∃m,m<n/\I m s₃) (fun _ _=>False) s₂) (fun _ _=>False) s₁') (fun _ _=>False) s₁) (fun _ _=>False) s)
  (n:Nat) (h:I n s):codeAny (model prog w) A (.compLoop (.ListComp elt [⟨target,iter,ifs,0⟩] scope pos) 0 it acc env) R s:=by
 refine codeAny_loop rfl I (fun n s hI=>?_) n h;show wpAny _ A ((compTurn (.ListComp elt [⟨target,iter,ifs,0⟩] scope pos) 0 it acc env).onRaise (fun x=>do noteFrame x env;theTreesLotGoes x)) _ _ s;refine wpAny_noted ?_;rw[compTurn_list];refine Co<|Ha<|Co<|DX (turn n s hI) (fun r s₁ h₁=>?_) fun _ _ h'=>h'.elim;cases r with
 |none=>exact CC h₁
 |some v=>
  refine Co<|DX h₁ (fun _ s₁' h₁'=>?_) fun _ _ h'=>h'.elim;refine Co<|DX h₁' (fun _ s₂ h₂=>Co<|DX h₂ (fun ok s₃ h₃=>?_) fun _ _ h'=>h'.elim) fun _ _ h'=>h'.elim;cases ok with
  |true=>
   rw[if_pos rfl]at h₃;exact Co<|Co<|DX h₃ (fun x s₄ h₄=>Co<|DX h₄ (fun _ s₅ h₅=>CC<|CC ⟨rfl,h₅⟩) fun _ _ h'=>h'.elim) fun _ _ h'=>h'.elim
  |false=>
   rw[if_neg CS]at h₃;exact CC ⟨rfl,h₃⟩
end
def su(scope:Fh)(x:Str):Bool:=scope.names.lookup x==some .local||scope.names.lookup x==some .cell
def ay(X:Cx)(scope:Fh)(N:List Str)(s:Cu)(H:Hp)(C:Addr)(fp:List Addr):Cx:=
 {X with N:=N,s₀:=s,H₀:=H,env:=compEnvC scope (cellsFrom (C+1) scope.names<|cb X.env scope.names []) C X.env,outer:=X.stack,ex:=fp,fn:=su scope,pn:=[],xe:=fun _ _=>False}
def aW(cap:List (Option Nat))(σ:St):St:=cap.map fun o=>o.bind fun j=>(σ[j]?).bind id
structure CompScope(X:Cx)(scope:Fh)(N:List Str)(cap:List (Option Nat)):Prop where
 kind:scope.kind=.function
 nd:N.Nodup
 len:cap.length=N.length
 uniq:(scope.names.map (·.1)).Nodup
 free:∀x∈scope.names,x.2=.free->(X.env.kindOf x.1=some .cell\/X.env.kindOf x.1=some .free)
 cap:∀(k:Nat)(x:Str)(j:Nat),N[k]? =some x->cap[k]? =some (some j)->X.N[j]? =some x/\(x,DQ)∈scope.names
theorem cR{α:Type}:∀{l:List (Str×α)}{x:Str}{k:α},(l.map (·.1)).Nodup->(x,k)∈l->l.lookup x=some k
 |(y,j)::r,x,k,nd,h=>by
  obtain⟨n1,n2⟩:=DP.mp (show(y::r.map (·.1)).Nodup from nd);rw[Em];rcases CM.mp h with e|h;·cases e;simp
  ·have:(x == y)=false:=beq_eq_false_iff_ne.mpr fun e=>n1<|e▸CU.mpr ⟨(x,k),h,rfl⟩;rw[this];exact cR n2 h
theorem et{env:Env}:∀{names:List (Str×Fd)}{x:Str},(names.map fun(p:Str×Fd)=>if(p.2==DQ&&env.scope.kind== .function&&env.kindOf p.1==some .cell)=true then(p.1,Ik)else(p.1,p.2)).lookup x=
  (names.lookup x).map fun k=>if(k==DQ&&env.scope.kind== .function&&env.kindOf x==some .cell)=true then .cell else k
 | [],_=>rfl
 |(n,k)::r,x=>by
  rw[Dy];have ih:= @et env r x;by_cases hx:x=n
  ·subst hx;by_cases hc:(k==DQ&&env.scope.kind== .function&&env.kindOf x==some .cell)=true;·simp only[hc,if_true,Em,beq_self_eq_true,Gv]
   ·rw[if_neg hc,Em,Em,beq_self_eq_true];simp only[Gv];rw[if_neg hc]
  ·have hb:(x == n)=false:=beq_eq_false_iff_ne.mpr hx;by_cases hc:(k==DQ&&env.scope.kind== .function&&env.kindOf n==some .cell)=true;·simp only[hc,if_true,Em,hb];exact ih
   ·rw[if_neg hc,Em,Em,hb];exact ih
def xT(X:Cx)(ifs:List Expr)(t:TT):Prop:=
 ∀(pins:List (Addr×Obj))(s:Cu)(σ:St)(H:Hp)(Q:Bool->Hp->Prop),Inv X pins σ H s->t σ H Q->
  wpAny (model X.prog X.w) X.A (forIn ifs true fun c r=>if r=true then do let ok <-isTrue c X.env (eval c X.env);pure (Fp ok)else pure (Fp r)) (TP X pins σ Q) X.xe s
def xU:TT:=fun _ H Q=>Q true H
theorem bR{X:Cx}:xT X [] xU:=fun _ _ _ H _ I h=>wpAny_tests_nil ⟨H,I,h⟩
theorem oP{X:Cx}{c:Expr}{t:TT}(h:PT X c t):xT X [c] t:=fun pins s σ H Q I hq=>wpAny_tests_one<|h pins s σ H Q I hq
def Keep:St->St->Prop
 | [],_=>True
 |none::a,_::b=>Keep a b
 |some v::a,some u::b=>v=u/\Keep a b
 |_,_=>False
theorem Keep.get:∀{a b:St}{j:Nat}{v:V},Keep a b->a[j]? =some (some v)->b[j]? =some (some v)
 | [],_,_,_,_,h=>by simp at h
 |none::a,_::b,0,_,_,h=>by simp at h
 |none::a,_::b,j+1,v,k,h=>Keep.get (j:=j) (a:=a) (b:=b) k h
 |some w::a,some u::b,0,v,k,h=>by
  have e:w=u:=k.1;subst e;exact h
 |some w::a,some u::b,j+1,v,k,h=>Keep.get (j:=j) (a:=a) (b:=b) k.2 h
 |none::_,[],_,_,k,_=>k.elim
 |some _::_,[],_,_,k,_=>k.elim
 |some _::_,none::_,_,_,k,_=>k.elim
def zp(cap:List (Option Nat))(g:TG)(tf:TT)(te:TE)(σ:St)(H1:Hp)(Q:VK)(J:It):Prop:=∃W:Nat->Nat->List V->Hp->Prop,(∃m,W 0 m [] H1)/\∀i m ys H,W i m ys H->ys.length<sizeLine/\
  ((J.stop i H/\∀D,H D=none->Q (.ref D) (bP H D<|.lst ys))\/
   (J.go i H/\∃N:List V->Hp->Prop,(∀ys' H',N ys' H'->∃m',m'<m/\W (i+1) m' ys' H')/\∀x H',J.yld i H x H'->g x (aW cap σ) H' fun σ2 H2=>Keep (aW cap σ) σ2/\tf σ2 H2 fun b H3=>if b=true then te σ2 H3 fun y H4=>N (ys++[y]) H4 else N ys H3))
def jk(cap:List (Option Nat))(wi:TI)(g:TG)(tf:TT)(te:TE):TE:=fun σ H Q=>wi σ H fun J H1=>zp cap g tf te σ H1 Q J
theorem cO{X:Cx}{scope:Fh}{C:Addr}{x:Str}{c:Addr}(frc:∀x∈scope.names,x.2=.free->∃c,X.env.cells.lookup x.1=some c)
  (h:(cellsFrom (C+1) scope.names<|cb X.env scope.names []).lookup x=some c):(x,c)∈cellsFrom (C+1) scope.names []\/((x,DQ)∈scope.names/\X.env.cells.lookup x=some c):=by
 rw[cA,IA]at h;cases e:(cellsFrom (C+1) scope.names []).lookup x with
 |some d=>
  rw[e]at h;have h:some d=some c:=h;cases h;exact .inl<|Ed e
 |none=>
  rw[e]at h;have h:(cb X.env scope.names []).lookup x=some c:=h;rcases fN _ _ frc h with q|q
  ·exact .inr q
  ·cases q
theorem m9{X:Cx}{scope:Fh}{C:Addr}{x:Str}{c:Addr}(uq:(scope.names.map (·.1)).Nodup)(hx:(x,DQ)∈scope.names)(hc:X.env.cells.lookup x=some c):
  (cellsFrom (C+1) scope.names<|cb X.env scope.names []).lookup x=some c:=by
 rw[cA,IA];cases e:(cellsFrom (C+1) scope.names []).lookup x with
 |some d=>
  have h1:=cR uq<|dO _ _<|Ed e;have h2:=cR uq hx;rw[h1]at h2;cases h2
 |none=>exact iI _ _ hx hc
section
variable{X:Cx}{scope:Fh}{N:List Str}{cap:List (Option Nat)}{pins:List (Addr×Obj)}{σ:St}{H:Hp}{s:Cu}{C:Addr}{fp:List Addr}
theorem qj{h4:Heap}(S:CompScope X scope N cap)(I:Inv X pins σ H s)(hC:s.heap.objs.size<=C)(ck:Ki h4 (C+1) (cellsFrom (C+1) scope.names []))
  (hf:∀b∈fp,FpOk X pins H b) (hlt:∀b∈fp,b<C):(ay X scope N s H C fp).Ok:=by
 have frc:∀x∈scope.names,x.2=.free->∃c,X.env.cells.lookup x.1=some c:=fun x hx hk=>I.ok.has x.1<|S.free x hx hk;have old:∀x c,X.env.cells.lookup x=some c->c<C:=fun x c e=>by
  obtain⟨v,q⟩:=I.cell x c e;exact CA q.lt hC
 have own:∀x c,(x,c)∈cellsFrom (C+1) scope.names []->C<c:=fun x c e=>(ck.empty x c e).2;refine⟨I.ok.mod,S.kind,I.ok.glob,I.ok.blt,hC,fun x y c h1 h2=>?_,fun x hx=>?_,fun x c hfn h=>?_,I.ok.hd,I.ok.frames,.inl rfl,fun b hb=>⟨CN<|hlt b hb,fun x c h=>?_⟩,I.bs,Ei I.ok.bsz I.sz,fun b o e hb=>?_,fun b hb z=>?_,I.stack,I.stkFree⟩
 ·rcases cO frc h1 with a | ⟨a1,a2⟩ <;> rcases cO frc h2 with b | ⟨b1,b2⟩
  ·exact name_of_addr ck.apart a b
  ·exact absurd (Hv (own x c a)<|old y c b2)<|Di _
  ·exact absurd (Hv (own y c b)<|old x c a2)<|Di _
  ·exact I.ok.inj x y c a2 b2
 ·have hx:(relabel scope X.env).names.lookup x=some .cell\/(relabel scope X.env).names.lookup x=some .free:=hx;have e:(relabel scope X.env).names.lookup x=_:=et (env:=X.env) (names:=scope.names) (x:=x);rw[e]at hx;cases q:scope.names.lookup x with
  |none=>rw[q]at hx;rcases hx with z|z<;>cases z
  |some k=>
   have hm:=Ed q;by_cases hk:k=.free
   ·subst hk;obtain⟨c,hc⟩:=frc _ hm rfl;exact⟨c,m9 S.uniq hm hc⟩
   ·have hk':(k == DQ)=false:=by simpa using hk
    rw[q]at hx;simp only[Gv,hk',Jr,Ej,if_false]at hx;have hkc:k=.cell:=by
     rcases hx with z|z;·exact Df z
     ·exact absurd (Df z) hk
    subst hkc;exact Hb.mp<|Fm scope.names (C+1) _<|.inl q
 ·rcases cO frc h with a | ⟨a1,a2⟩
  ·exact Ei hC<|EY<|own x c a
  ·have q:=cR S.uniq a1;have z:su scope x=true:=hfn;unfold su at z;rw[q]at z;exact absurd z (by decide)
 ·rcases cO frc h with a | ⟨a1,a2⟩
  ·exact Et<|Hv (hlt b hb)<|own x c a
  ·exact(hf b hb).2.2.2.2.1 x c a2
 ·rcases (hf b hb).2.2.2.1 with z | z;·exact I.ok.noex b o e z
  ·exact absurd (CA (CA (CD e) I.ok.bsz) z)<|Di _
 ·rcases CM.mp (I.stkSub b z)with q | q;·exact(hf b hb).2.1 q
  ·exact(hf b hb).2.2.1 q
theorem jl{s4:Cu}(S:CompScope X scope N cap)(I:Inv X pins σ H s)(hC:s.heap.objs.size<=C)(ck:Ki s4.heap (C+1) (cellsFrom (C+1) scope.names []))
  (hf:∀b∈fp,FpOk X pins H b) (hlt:∀b∈fp,b<C) (h4:∃h' tk,s4={s with heap:=h',toks:=tk}) (hn:s4.heap.Ns C fun _=>none) (hk:∀b o,s.heap.get? b=some o->s4.heap.get? b=some o):
  Inv (ay X scope N s H C fp) [] (aW cap σ) H s4:=by
 have frc:∀x∈scope.names,x.2=.free->∃c,X.env.cells.lookup x.1=some c:=fun x hx hk=>I.ok.has x.1<|S.free x hx hk;obtain⟨h',tk,rfl⟩:=h4;refine⟨qj S I hC ck hf hlt,rfl,I.bare,Un.kept hk,⟨_,hn,fun i x v e1 e2 e3=>?_⟩,fun x c h=>?_,I.hok.fresh hC,fun x c h=>?_,fun p hp=>absurd (show p∈([]:List (Addr×Obj))from hp) (by simp),I.hok.kept hk,?_⟩
 ·have e1:N[i]? =some x:=e1;unfold aW at e2;rw[DJ]at e2;cases q:cap[i]? with
  |none=>rw[q]at e2;cases e2
  |some o=>
   cases o with
   |none=>rw[q]at e2;cases e2
   |some j=>
    rw[q]at e2;obtain⟨hj,hm⟩:=S.cap i x j e1 q;have e2:σ[j]?.bind id=some v:=Df e2;have e2':σ[j]? =some (some v):=by
     cases z:σ[j]? with
     |none=>rw[z]at e2;cases e2
     |some o=>rw[z]at e2;exact congrArg some e2
    have kd:=S.free _ hm rfl;obtain⟨m,_,hl⟩:=I.loc;obtain⟨u,r,lk⟩:=hl j x v hj e2' (by rcases kd with z|z;exact .inr<|.inl z;exact .inr<|.inr z);refine⟨u,r,.inr ?_⟩;rcases lk with⟨z,_⟩|⟨_,c,hc,hcell⟩
    ·rcases kd with q|q<;> ·rw[show X.env.kindOf x=_ from q]at z;cases z
    ·refine⟨?_,c,m9 S.uniq hm hc,hcell.keeps hk⟩;have e:(relabel scope X.env).names.lookup x=_:=et (env:=X.env) (names:=scope.names) (x:=x);rw[cR S.uniq hm]at e;simp only[Gv]at e;show(relabel scope X.env).names.lookup x=some .cell\/(relabel scope X.env).names.lookup x=some .free;rw[e];split;·exact .inl rfl
     ·exact .inr rfl
 ·rcases cO frc h with a | ⟨a1,a2⟩
  ·exact⟨_,(ck.empty x c a).1⟩
  ·obtain⟨v,q⟩:=I.cell x c a2;exact⟨v,q.keeps hk⟩
 ·rcases cO frc h with a | ⟨a1,a2⟩
  ·exact I.hok.fresh<|Ei hC<|EY (ck.empty x c a).2
  ·exact I.freeC x c a2
 ·show(aW cap σ).length=N.length;unfold aW;rw[E6,S.len]
end
abbrev dy(its:List Cr)(k:Nat):Obj:={cls:=.type "list",data:=.seq its.toArray k}
section
variable{X:Cx}{scope:Fh}{N:List Str}{cap:List (Option Nat)}{tg iter elt:Expr}{ifs:List Expr}{pos:Pos}{wi:TI}{g:TG}{tf:TT}{te:TE}
theorem kD(S:CompScope X scope N cap)(hc:X.calm=true)
  (hg:∀s H C fp,PG (ay X scope N s H C fp) tg g) (hf:∀s H C fp,xT (ay X scope N s H C fp) ifs tf) (he:∀s H C fp,PE (ay X scope N s H C fp) elt te)
  {pins:List (Addr×Obj)} {σ:St} {H2:Hp} {s2:Cu} {it:Addr} {fp:List Addr} {tn:Nat->Heap->Prop} {J:It} {Qv:VK} {E:Cr->Cu->Prop} {RR:Cr->Addr->Kg->Cu->Prop}
  (I2:Inv X pins σ H2 s2) (T:Turn X.prog X.w X.K tg J fp it tn) (st2:tn 0 s2.heap) (f2:∀b∈fp,FpOk X pins H2 b) {W:Nat->Nat->List V->Hp->Prop} (w0:∃m,W 0 m [] H2)
  (turn:∀i m ys H,W i m ys H->ys.length< sizeLine/\((J.stop i H/\∀D,H D=none->Qv (.ref D) (bP H D<|.lst ys))\/
   (J.go i H/\∃N:List V->Hp->Prop,(∀ys' H',N ys' H'->∃m',m'<m/\W (i+1) m' ys' H')/\∀x H',J.yld i H x H'->g x (aW cap σ) H' fun σ2 H2=>Keep (aW cap σ) σ2/\tf σ2 H2 fun b H3=>if b=true then te σ2 H3 fun y H4=>N (ys++[y]) H4 else N ys H3)))
  (fin:∀(D C:Addr) (σ':St) (H':Hp) (s':Cu) (its:List Cr) (k:Nat) (ys:List V),s2.heap.objs.size<=D->s2.heap.objs.size<=C->D≠C->Inv (ay X scope N s2 H2 C fp) [(D,dy its k)] σ' H' s'->Vals ys its->ys.length<=sizeLine->
   Qv (.ref D) (bP H' D (.lst ys))->RR (.ref D) C (.ok .next) s'):
  wpAny (model X.prog X.w) X.A (newList []) (fun acc s₃=>wpAny (model X.prog X.w) X.A (newFunctionEnv scope X.env.globals (cb X.env scope.names []) [] X.env.qual none .none<|some X.env) (fun cenv s₄=>
   codeAny (model X.prog X.w) X.A (.compStart (.ListComp elt [⟨tg,iter,ifs,0⟩] scope pos) 0 (.ref it) acc {cenv with scope:=relabel scope X.env}) (RR acc cenv.locals) s₄) E s₃) E s2:=by
 refine EJ<|jj ?_;generalize hD:s2.heap.objs.size=D;generalize hH3:s2.heap.push {cls:=.type "list",dict:=none,data:=.seq ([]:List Cr).toArray}=h3;have hz3:h3.objs.size=D+1:=by rw[<-hH3,Dj,hD]
 dsimp only;have eC:({s2 with heap:=h3}:Cu).heap.objs.size=D+1:=hz3;rw[show h3.objs.size=D+1 from hz3];generalize hH4:pushCells (h3.push {cls:=.type "dict",data:=.dict #[]}) scope.names=h4;have hz3':(h3.push {cls:=.type "dict",data:=.dict #[]}).objs.size=D+1+1:=by rw[Dj,hz3]
 have ck:Ki h4 (D+1+1) (cellsFrom (D+1+1) scope.names []):=by
  have:=cellsFrom_ok scope.names (h3.push {cls:=.type "dict",data:=.dict #[]}) (D+1+1) [] ⟨fun _ _ hm=>(nomatch hm),GX⟩ (by rw[hz3'];exact CK _);rw[hz3',hH4]at this;exact this
 have k23:∀b o,s2.heap.get? b=some o->h3.get? b=some o:=fun b o e=>by rw[<-hH3];exact Cs _ e
 have k34:∀b o,h3.get? b=some o->h4.get? b=some o:=fun b o e=>by rw[<-hH4];exact Gw _ _ b o<|Cs _ e
 have hD4:h4.get? D=some (dy [] 0):=k34 _ _ (by rw[<-hH3,<-hD];exact CF _ rfl);have hn4:h4.Ns (D+1) fun _=>none:=by
  rw[<-hH4,<-hz3];exact(Kv h3<|.type "dict").keeps (Gw _ _)
 have fpD:∀b∈fp,b<D:=fun b hb=>by
  obtain⟨o,e,_⟩:=T.obj _ _ st2 b hb;rw[<-hD];exact CD e
 have hlt:∀b∈fp,b<D+1:=fun b hb=>IZ<|fpD b hb;have hDC:s2.heap.objs.size<=D+1:=by rw[hD];exact Gi _
 have hDs:s2.heap.objs.size<=D:=by rw[hD];exact CK _
 have IC:Inv (ay X scope N s2 H2 (D+1) fp) [] (aW cap σ) H2 {s2 with heap:=h4}:=
  jl S I2 hDC ck f2 hlt ⟨_,_,rfl⟩ hn4 fun b o e=>k34 b o<|k23 b o e
 have okC:=IC.ok;have nfs:∀{b:Addr},s2.heap.objs.size<=b->b∉frs X.stack:=fun{b}hb hm=>by
  obtain⟨_,o,ho,_⟩:=I2.stack.mem hm;exact absurd (CA (CD ho) hb)<|Di _
 have frc:∀x∈scope.names,x.2=.free->∃c,X.env.cells.lookup x.1=some c:=fun x hx hk=>I2.ok.has x.1<|S.free x hx hk;have cellsD:∀x c,(ay X scope N s2 H2 (D+1) fp).env.cells.lookup x=some c->c≠D:=fun x c e=>by
  rcases cO frc e with a|⟨_,a⟩
  ·have q:D+1+1<=c:=(ck.empty x c a).2;exact Et<|CA (CA (Ea D)<|Gi _) q
  ·obtain⟨v,q⟩:=I2.cell x c a;have:=q.lt;rw[hD]at this;exact CN this
 have fpO:∀{H':Hp}{its:List Cr}{k:Nat},(∀b∈fp,H' b=none)->∀b∈fp,FpOk (ay X scope N s2 H2 (D+1) fp) [(D,dy its k)] H' b:=fun{H' its k}hn b hb=>
  ⟨hn b hb,CN<|hlt b hb,okC.exfs b hb,.inl hb,(okC.exf b hb).2,fun p hp=>by
   have e:p=(D,dy its k):=by simpa [ay] using hp
   subst e;exact Et (fpD b hb)⟩
 have pinD:∀{σ':St}{H':Hp}{s':Cu}{its:List Cr}{k:Nat},Inv (ay X scope N s2 H2 (D+1) fp) [] σ' H' s'->s'.heap.get? D=some (dy its k)->H' D=none->Inv (ay X scope N s2 H2 (D+1) fp) [(D,dy its k)] σ' H' s':=fun{σ' H' s' its k}J e n=>
  J.pins_of fun p hp=>by
   have e':p=(D,dy its k):=by simpa using hp
   subst e';exact⟨e,n,CN<|Ea _,nfs hDs,fun v z=>by
    have z':Hg its.toArray k=Fq v:=z;cases z'⟩
 have loop:codeAny (model X.prog X.w) X.A (.compLoop (.ListComp elt [⟨tg,iter,ifs,0⟩] scope pos) 0 (.ref it) (.ref D) (ay X scope N s2 H2 (D+1) fp).env) (RR (.ref D)<|D+1) {s2 with heap:=h4}:=by
  obtain⟨m0,w0⟩:=w0;refine gR (fun n s'=>∃i ys its k σ' H',Inv (ay X scope N s2 H2 (D+1) fp) [(D,dy its k)] σ' H' s'/\tn i s'.heap/\(∀b∈fp,H' b=none)/\Vals ys its/\(∀(j:Nat)(v:V),(aW cap σ)[j]? =some (some v)->σ'[j]? =some (some v))/\W i n ys H') ?_ m0
   ⟨0,[],[],0,aW cap σ,H2,pinD IC hD4<|I2.hok.fresh hDs,T.keep _ _ _ st2 fun b hb o e=>k34 b o<|k23 b o e,fun b hb=>(f2 b hb).1,.nil,fun _ _ e=>e,w0⟩
  rintro n s3 ⟨i,ys,its,k,σ3,H3,I3,st3,fr3,rv,kp,w3⟩;obtain⟨hyl,tr⟩:=turn i n ys H3 w3;have pin3:=I3.pin (D,dy its k)<|D5 _ CJ;rcases tr with⟨stop,qn⟩|⟨go,NN,hNN,step⟩
  ·refine bL (T.done (ay X scope N s2 H2 (D+1) fp) rfl rfl rfl hc i _ s3 σ3 H3 _ I3 (fpO fr3) st3 stop) fun r s4 zz=>?_;obtain⟨hr,I4⟩:=zz;subst hr;exact fin D (D+1) σ3 H3 s4 its k ys hDs hDC (CN<|Ea _) I4 rv (EY hyl)<|qn D pin3.2.1
  ·have I3':Inv (ay X scope N s2 H2 (D+1) fp) [(D,dy its k)] (aW cap σ) H3 s3:=I3.weak (by rw[I3.len,IC.len]) kp;refine bL (T.item (ay X scope N s2 H2 (D+1) fp) rfl rfl rfl hc i _ s3 _ H3 _ I3' (fpO fr3) st3 go) fun r s4 zz=>?_;obtain⟨u,hr,h4⟩:=zz;subst hr;refine bL h4 fun _ s5 zz=>?_;obtain⟨x,H5,I5,r5,y5,st5,fr5⟩:=zz;have I5':=I5.pinned (fpO fr5)<|T.obj _ _ st5;refine bL (hg _ _ _ _ _ s5 _ H5 x u _ I5' r5<|step x H5 y5) fun _ s6 zz=>?_;obtain⟨σ6,H6,I6,kp6,q6⟩:=zz;refine bL (hf _ _ _ _ _ s6 σ6 H6 _ I6 q6) fun ok s7 zz=>?_;obtain⟨H7,I7,q7⟩:=zz;have back:∀{s8:Cu}{H8:Hp},Inv (ay X scope N s2 H2 (D+1) fp) ([(D,dy its k)]++ib fp s5.heap) σ6 H8 s8->tn (i+1) s8.heap/\(∀b∈fp,H8 b=none)/\s8.heap.get? D=some (dy its k)/\H8 D=none:=fun{s8 H8}I8=>by
    have at_:∀b∈fp,∀o,s5.heap.get? b=some o->s8.heap.get? b=some o/\H8 b=none:=fun b hb o e=>by
     have z:=I8.pin (b,o)<|D5 _<|D5 _<|fm hb e;exact⟨z.1,z.2.1⟩
    have pd:=I8.pin (D,dy its k)<|D5 _<|DW _ CJ;refine⟨T.keep _ _ _ st5 fun b hb o e=>(at_ b hb o e).1,fun b hb=>?_,pd.1,pd.2.1⟩;obtain⟨o,e,d⟩:=T.obj _ _ st5 b hb;exact(at_ b hb o e).2
   cases ok with
   |false=>
    rw[if_neg CS]at q7 ⊢;obtain⟨m',hm,w'⟩:=hNN _ _ q7;obtain⟨t7,f7,d7,n7⟩:=back I7;exact⟨m',hm,i+1,ys,its,k,σ6,H7,I7.unpinned,t7,f7,rv,fun j v e=>Keep.get kp6 e,w'⟩
   |true=>
    rw[if_pos rfl]at q7 ⊢;refine bL (he _ _ _ _ _ s7 σ6 H7 _ I7 q7) fun y8 s8 zz=>?_;obtain⟨y,H8,I8,r8,q8⟩:=zz;obtain⟨m',hm,w'⟩:=hNN _ _ q8;obtain⟨t8,f8,d8,n8⟩:=back I8;refine append_at (D:=D) (its:=its.toArray) (n:=k) d8 (fun h' hs' hD'=>?_) (by rw[CH,<-rv.length];exact EY hyl);have J0:Inv (ay X scope N s2 H2 (D+1) fp) [] σ6 H8 s8:=I8.pins_of fun p hp=>by cases hp
    have J1:Inv (ay X scope N s2 H2 (D+1) fp) [] σ6 H8 {s8 with heap:=h'}:=J0.turned (it:=D) (t':=s8.toks) (fun b o hb e=>(hs'.2 b hb).trans e) n8 (CN<|Ea _) (.inr hDs) cellsD fun p hp=>by
     have:p∈([]:List (Addr×Obj)):=hp;cases this
    refine⟨m',hm,i+1,ys++[y],its++[y8],k+1,σ6,H8,pinD J1 (by simpa using hD') n8,T.keep _ _ _ t8 fun b hb o e=>(hs'.2 b<|CN<|fpD b hb).trans e,f8,rv.append<|.cons r8 .nil,fun j v e=>Keep.get kp6 e,w'⟩
 exact Hx loop<|DX (T.self _ 0 _ _ _ (T.keep _ _ _ st2 fun b hb o e=>k34 b o<|k23 b o e) loop) (fun _ _ h=>h) fun _ _ h=>h
end
section
variable{X:Cx}{scope:Fh}{N:List Str}{cap:List (Option Nat)}{tg iter elt:Expr}{ifs:List Expr}{pos:Pos}{wi:TI}{g:TG}{tf:TT}{te:TE}
theorem jm{pins:List (Addr×Obj)}{σ σ':St}{H2 H':Hp}{s2 s':Cu}{fp:List Addr}{D C:Addr}{its:List Cr}{k:Nat}{ys:List V}{h':Heap}(I2:Inv X pins σ H2 s2)(f2:∀b∈fp,FpOk X pins H2 b)
  (hD:s2.heap.objs.size<=D) (hC:s2.heap.objs.size<=C) (hDC:D≠C) (I':Inv (ay X scope N s2 H2 C fp) [(D,dy its k)] σ' H' s') (rv:Vals ys its) (hl:ys.length<=sizeLine) (hs:CT C s'.heap h'):
  Inv X pins σ (bP H' D<|.lst ys) {s' with heap:=h'}:=by
 have pd:=I'.pin (D,dy its k)<|D5 _ CJ;have nD:H' D=none:=pd.2.1;have nC:H' C=none:=I'.free;have lt2:∀b o,s2.heap.get? b=some o->b≠D/\b≠C:=fun b o e=>⟨CN<|CA (CD e) hD,CN<|CA (CD e) hC⟩
 have hk:∀b o,b≠C->s'.heap.get? b=some o->h'.get? b=some o:=fun b o hb e=>(hs.2 b hb).trans e;have B:Un (frs X.stack) fp H2 H' s2.heap s'.heap:=I'.base;have tr:∀b u,H' b=some u->b≠D/\b≠C:=fun b u e=>⟨fun z=>(by rw[z,nD]at e;cases e),fun z=>(by rw[z,nC]at e;cases e)⟩
 refine I2.call' (ch:=fp) I'.os ⟨fun b o e n hb hx=>?_,fun b o e n hb hx=>?_,fun b o e n hx=>?_,fun b o e hx=>?_,fun b xs e=>?_,fun b o u e=>?_,fun b ps e=>?_⟩ (fun b u e=>?_) I'.bare fun b hb=>⟨(f2 b hb).2.2.2.1,(f2 b hb).2.1,(f2 b hb).2.2.2.2.1,(f2 b hb).2.2.2.2.2⟩
 ·exact hk b o (lt2 b o e).2 (B.keep b o e n hb hx)
 ·obtain⟨sl,q⟩:=B.slot b o e n hb hx;exact⟨sl,hk b _ (lt2 b o e).2 q⟩
 ·rw[ag (lt2 b o e).1];exact B.free b o e n hx
 ·obtain⟨o',q⟩:=B.there b o e hx;exact⟨o',hk b _ (lt2 b o e).2 q⟩
 ·rw[ag (tr b _<|B.tups b xs e).1];exact B.tups b xs e
 ·rw[ag (tr b _<|B.frzs b o u e).1];exact B.frzs b o u e
 ·obtain⟨more,q⟩:=B.tbls b ps e;exact⟨more,by rw[ag (tr b _ q).1];exact q⟩
 ·by_cases hb:b=D
  ·subst hb;rw[ai]at e;cases e;exact⟨hl,its,k,rv,hk _ _ hDC pd.1⟩
  ·rw[ag hb]at e;refine(I'.hok b u e).stay (fun c w' hc q=>hk c w' ?_ q) (fun c q=>by rw[ag (tr c _ q).1];exact q) fun c xs q=>by rw[ag (tr c _ q).1];exact q
   rcases hc with z|z;·rw[z];exact(tr b u e).2
   ·exact(tr c _ z).2
theorem gF(S:CompScope X scope N cap):∀x∈scope.names,x.2=.local->scope.names.lookup x.1=some .local:=fun x hx hl=>cR S.uniq (by rw[<-hl];exact hx)
theorem cJ(S:CompScope X scope N cap)(hc:X.calm=true)(hi:PI X tg iter wi)
  (hg:∀s H C fp,PG (ay X scope N s H C fp) tg g) (hf:∀s H C fp,xT (ay X scope N s H C fp) ifs tf) (he:∀s H C fp,PE (ay X scope N s H C fp) elt te)
  (hs:∀x,foldedSetIterable iter X.env x=pure x:=by intro _;rfl):PE X (.ListComp elt [⟨tg,iter,ifs,0⟩] scope pos) (jk cap wi g tf te):=by
 intro pins s σ H Q I h;rw[K8];have frc:∀x∈scope.names,x.2=.free->∃c,X.env.cells.lookup x.1=some c:=fun x hx hk=>I.ok.has x.1<|S.free x hx hk;refine FJ (use:=none) rfl hs (eW frc) S.kind (gF S)<|bL (hi pins s σ H _ I h) fun v s1 h1=>bL h1 fun itv s2 h2=>?_;obtain⟨it,fp,tn,J,H2,rfl,I2,T,st2,f2,W,w0,turn⟩:=h2;refine kD (RR:=fun acc C=>compPost (model X.prog X.w) X.A X.xe none (EP X pins σ Q) acc C) S hc hg hf he I2 T st2 f2 w0 turn fun D C σ' H' s' its k ys hD hC hDC I' rv hl q=>?_;obtain⟨m,hn,_⟩:=I'.loc;exact⟨m,hn,fun h' hs'=>⟨.ref D,_,jm I2 f2 hD hC hDC I' rv hl hs',rfl,q⟩⟩
end
section
variable{X:Cx}{scope:Fh}{N:List Str}{cap:List (Option Nat)}{tg iter elt:Expr}{ifs:List Expr}{pos spos py:Pos}{wi:TI}{g:TG}{tf:TT}{te:TE}{i:Nat}{y:Str}
theorem eA(hN:X.N.Nodup)(hi':X.N[i]? =some y)(hy:xD X.env.scope y)(S:CompScope X scope N cap)(hc:X.calm=true)(hi:PI X tg iter wi)
  (hg:∀s H C fp,PG (ay X scope N s H C fp) tg g) (hf:∀s H C fp,xT (ay X scope N s H C fp) ifs tf) (he:∀s H C fp,PE (ay X scope N s H C fp) elt te)
  (hsw:swapsWith (.ListComp elt [⟨tg,iter,ifs,0⟩] scope pos) (some<|.Name y py) spos.line X.env=pure true:=by rfl)
  (hs:∀x,foldedSetIterable iter X.env x=pure x:=by intro _;rfl) (hfn:X.fn y=true\/X.env.scope.names.lookup y=some .local:=by first|exact .inl rfl|exact .inr rfl|assumption):
  PS X (.Assign [.Name y py] (.ListComp elt [⟨tg,iter,ifs,0⟩] scope pos) spos) (bD (jk cap wi g tf te)<|aH i):=by
 intro pins s σ H D I h;rw[exec_Assign_Name_used _ _ _ _ hsw];refine Co<|Ha<|Co ?_;show wpAny _ X.A (do let _ <-comprehension (.ListComp elt [⟨tg,iter,ifs,0⟩] scope pos) scope X.env _ (newList []) false (eval iter X.env) (some<|assign (.Name y py) X.env)) _ _ s;have frc:∀x∈scope.names,x.2=.free->∃c,X.env.cells.lookup x.1=some c:=fun x hx hk=>I.ok.has x.1<|S.free x hx hk;refine Co<|DX (FJ (use:=some<|assign (.Name y py) X.env) (Q:=fun _ s'=>SP X pins D .next s') rfl hs (eW frc) S.kind (gF S)<|bL (hi pins s σ H _ I h) fun v s1 h1=>bL h1 fun itv s2 h2=>?_) (fun _ s' hq=>CC<|CC hq) fun _ _ e=>e;obtain⟨it,fp,tn,J,H2,rfl,I2,T,st2,f2,W,w0,turn⟩:=h2;refine kD (Qv:=fun x H1=>aH i x σ H1 D.nx) (RR:=fun acc C=>compPost (model X.prog X.w) X.A X.xe (some<|assign (.Name y py) X.env) (fun _ s'=>SP X pins D .next s') acc C) S hc hg hf he I2 T st2 f2 w0 turn fun d C σ' H' s' its k ys hD hC hDC I' rv hl q=>?_;obtain⟨m,hn,_⟩:=I'.loc;have I3:Inv X pins σ (bP H' d<|.lst ys) s':=jm (h':=s'.heap) I2 f2 hD hC hDC I' rv hl<|.refl ..;have nC:(bP H' d<|.lst ys) C=none:=by rw[ag<|E8 hDC];exact I'.free
 have cL:C≠X.env.locals:=fun z=>absurd (CA I2.lt hC) (by rw[z];exact Di _);have cc:∀x c,X.env.cells.lookup x=some c->c≠C:=fun x c e z=>by
  obtain⟨v,q⟩:=I2.cell x c e;exact absurd (CA q.lt hC) (by rw[z];exact Di _)
 show wpAny _ X.A (assign (.Name y py) X.env<|.ref d) _ _ _;refine II<|jZ (v:=.ref d) I3 hN hi' hy rfl (fun s4 I4⟨a,sb,ha⟩=>?_) hfn;have aC:C≠a:=by
  rcases ha with z|z;·rw[z];exact cL
  ·exact E8<|cc _ _ z
 refine⟨m,hn.sameBut sb aC,fun h' hs'=>?_⟩;exact⟨_,_,I4.turned (it:=C) (t':=s4.toks) (fun b o hb e=>(hs'.2 b hb).trans e) nC cL (.inr<|Ei I2.sz hC) cc (fun p hp z=>absurd (CA (CD (I2.pin p hp).1) hC) (by rw[z];exact Di _)),q⟩
end
inductive Src where
 |lst (a:Addr)|tup (a:Addr)|str (l:List Nat)
def Src.has(K:Cq)(H:Hp):Src->List V->Prop
 | .lst a,xs=>SqL K H a xs
 | .tup a,xs=>SqT K H a xs
 | .str l,xs=>xs=l.map fun c=>FZ<|sOf [c]
def Src.at(it:Addr)(i:Nat)(h:Heap):Src->Prop
 | .lst a=>h.IsListIter it a i
 | .tup a=>h.IsTupleIter it a i
 | .str l=>∃t,h.IsStrIter it "str_ascii_iterator" (sOf l) t i\/h.IsStrIter it "str_iterator" (sOf l) t i
def Src.val:Src->V
 | .lst a=>.ref a
 | .tup a=>.ref a
 | .str l=>.str<|sOf l
section
variable{P:CQ}{w:D4}{A:De}{E:Cr->Cu->Prop}{s:Cu}
theorem ll{j a:Addr}{k:Nat}{us:Array Cr}{x:Cr}{Q:Cr->Cu->Prop}(g:s.heap.IsTupleIter j a k)(ga:s.heap.IsTuple a us)(gx:us[k]? =some x)
  (q:∀h',h'.IsTupleIter j a (k+1)->CT j s.heap h'->Q x {s with heap:=h'}):wpAny (model P w) A (CV<|.ref j) Q E s:=by
 obtain⟨ob,e1,e2,e3⟩:=id g;obtain⟨ot,f1,_,nn,f3⟩:=ga;unfold CV;refine Co<|DH (name:=Cv "__next__") g.typeIs Ew<|En Ew g.typeIs G0 ?_<|FT _;show wpAny (model P w) _ (field (.ref j) 0>>=_) _ _ s;refine Co<|D6 e1 e3 (x:=.ref a) rfl ?_;show wpAny (model P w) _ (if(CO a==Dq)=true then _ else _) _ _ s;rw[if_neg (show ¬((CO a==Dq)=true)from CS)];show wpAny (model P w) _ (field (.ref j) 1>>=_) _ _ s;refine Co<|D6 e1 e3 (x:=.int k 0) rfl ?_;show wpAny (model P w) _ (seqItems? (.ref a)>>=_) _ _ s;refine Co<|Du f1 f3 ?_;simp only[EZ,gx];refine Co (EF e1 e3 (by simp) (CC ⟨x,rfl,CC (q _ ⟨_,DT _ e1<|ED<|DZ e3 _,(GY ..).trans e2,(by rw[DZ e3];simp[rawInt])⟩<|FI ..)⟩))
theorem md{j a:Addr}{k:Nat}{us:Array Cr}{Q:Cr->Cu->Prop}(hh:A.handled=none)(g:s.heap.IsTupleIter j a k)(ga:s.heap.IsTuple a us)(gx:us[k]? =none)
  (q:∀h' e,F4 j s.heap h'->(∃o,h'.get? e=some o/\o.cls=.type "StopIteration")->E (.ref e) {s with heap:=h'}):wpAny (model P w) A (CV<|.ref j) Q E s:=by
 obtain⟨ob,e1,e2,e3⟩:=id g;obtain⟨ot,f1,_,nn,f3⟩:=ga;unfold CV;refine Co<|DH (name:=Cv "__next__") g.typeIs Ew<|En Ew g.typeIs G0 ?_<|FT _;show wpAny (model P w) _ (field (.ref j) 0>>=_) _ _ s;refine Co<|D6 e1 e3 (x:=.ref a) rfl ?_;show wpAny (model P w) _ (if(CO a==Dq)=true then _ else _) _ _ s;rw[if_neg (show ¬((CO a==Dq)=true)from CS)];show wpAny (model P w) _ (field (.ref j) 1>>=_) _ _ s;refine Co<|D6 e1 e3 (x:=.int k 0) rfl ?_;show wpAny (model P w) _ (seqItems? (.ref a)>>=_) _ _ s;refine Co<|Du f1 f3 ?_;simp only[EZ,gx];refine Co (Ga (Co (EF e1 e3 (by simp) ?_)));show wpAny (model P w) _ (newExc (.type "StopIteration") []>>=_) _ _ _;refine Co ?_;simp only[newExc,newTuple];refine Co (EJ (Co (m:=firstArgMember _ _) (wpAny_of_eq (a:=Dq) (by first|rfl|(simp only[firstArgMember];rfl)) (EJ ?_ (by size_fits)))) (by size_fits));simp only[raiseNew];refine Co<|K9 ?_
 first|rw[show A.in1.handled=none from hh]|rw[hh]
 exact Co<|CC<|wpAny_throw<|q _ _ (((FI ..).extBut.push _).push _) ⟨_,CF _ rfl,rfl⟩
theorem sv(hh:A.handled=none)(j a:Addr)(ne:a≠j)(us:Array Cr):HD P w A j [j,a] us.size (fun k v=>us[k]? =some v) (fun k h=>h.IsTupleIter j a k/\h.IsTuple a us) where
 live:=fun _ _ st=>by obtain⟨⟨o,e,_⟩,_⟩:=st;exact⟨o,e⟩
 frame:=fun _ _ _ st hk=>⟨st.1.at fun o e=>hk j (by simp) o e,by obtain⟨o,e,r⟩:=st.2;exact⟨o,hk a (by simp) o e,r⟩⟩
 item:=fun k s Q E hk st q=>ll st.1 st.2 (x:=us[k]) (by simp[hk]) fun h' g' sb=>q _ h' s.toks (by simp[hk]) ⟨g',by obtain⟨o,e,r⟩:=st.2;exact⟨o,(sb.2 a ne).trans e,r⟩⟩ sb
 done:=fun s Q E st q=>md hh st.1 st.2 (by simp) q
theorem Src.draws{X:Cx}{pins:List (Addr×Obj)}{σ:St}{H:Hp}{s0:Cu}{c:Src}{xs:List V}{it:Addr}{i:Nat}(hh:A.handled=none)(I:Inv X pins σ H s0)(hs:c.has X.K H xs)(ht:c.at it i s0.heap)(hit:H it=none):
  ∃(fp:List Addr)(Pt:Nat->Cr->Prop)(St:Nat->Heap->Prop),HD X.prog X.w A it fp xs.length Pt St/\St i s0.heap/\(∀k v,Pt k v-> ∃x,xs[k]? =some x/\RelV x v)/\(∀k h,St k h->c.at it k h)/\it∈fp/\
   ∀b∈fp,b=it\/H b≠none\/∃o,X.base.get? b=some o:=by
 cases c with
 |lst a=>
  obtain⟨its,rv,p,hz⟩:=I.list hs;have ne:a≠it:=fun z=>by
   obtain⟨o,e,c1,_⟩:=(show s0.heap.IsListIter it a i from ht)
   obtain⟨o2,e2,c2,_⟩:=p.isList;rw[z,e]at e2;cases e2;rw[c1]at c2;exact absurd c2 (by decide)
  have dr:=Draws.list (prog:=X.prog) (w:=X.w) hh it a ne its.toArray;rw[CH,<-rv.length]at dr;refine⟨_,_,_,dr,⟨ht,p.isList⟩,fun k v e=>?_,fun k h st=>st.1,by simp,fun b hb=>?_⟩
  ·have e:its[k]? =some v:=by simpa using e
   have hk:k<xs.length:=by rw[rv.length];exact(Cy.mp e).1
   obtain⟨u,hu,ru⟩:=rv.get (i:=k) (x:=xs[k]) (by simp[hk]);rw[e]at hu;cases hu;exact⟨_,by simp[hk],ru⟩
  ·rcases CM.mp hb with z | z;·exact .inl z
   ·have z:b=a:=by simpa using z
    subst z;rcases (show SqL X.K H b xs from hs)with(z|⟨o,z⟩)|⟨o,_,_,z,_⟩
    ·exact .inr (.inl (by rw[z];simp))
    ·exact .inr (.inl (by rw[z];simp))
    ·exact .inr<|.inr ⟨_,I.mod.kin _ _ z⟩
 |tup a=>
  obtain⟨its,rv,p,hz⟩:=I.tuple hs;have p:s0.heap.IsTuple a its.toArray:=p;have ne:a≠it:=fun z=>by
   obtain⟨o,e,c1,_⟩:=(show s0.heap.IsTupleIter it a i from ht)
   obtain⟨o2,e2,c2,_⟩:=id p;rw[z,e]at e2;cases e2;rw[c1]at c2;exact absurd c2 (by decide)
  have dr:=sv (P:=X.prog) (w:=X.w) hh it a ne its.toArray;rw[CH,<-rv.length]at dr;refine⟨_,_,_,dr,⟨ht,p⟩,fun k v e=>?_,fun k h st=>st.1,by simp,fun b hb=>?_⟩
  ·have e:its[k]? =some v:=by simpa using e
   have hk:k<xs.length:=by rw[rv.length];exact(Cy.mp e).1
   obtain⟨u,hu,ru⟩:=rv.get (i:=k) (x:=xs[k]) (by simp[hk]);rw[e]at hu;cases hu;exact⟨_,by simp[hk],ru⟩
  ·rcases CM.mp hb with z | z;·exact .inl z
   ·have z:b=a:=by simpa using z
    subst z;rcases (show SqT X.K H b xs from hs)with(z|⟨o,z⟩)|⟨o,_,_,z,_⟩
    ·exact .inr (.inl (by rw[z];simp))
    ·exact .inr (.inl (by rw[z];simp))
    ·exact .inr<|.inr ⟨_,I.mod.kin _ _ z⟩
 |str l=>
  have hs:xs=l.map fun c=>FZ (sOf [c]):=hs;obtain⟨t,ht⟩:=(show ∃t,s0.heap.IsStrIter it "str_ascii_iterator" (sOf l) t i\/s0.heap.IsStrIter it "str_iterator" (sOf l) t i from ht)
  have hn:(sOf l).cps.size=xs.length:=by rw[hs];simp[sOf]
  have sg:∀(k:Nat)(v:Cr),(∃c u,(sOf l).cps[k]? =some c/\v=.str ⟨#[c]⟩ u)->∃x,xs[k]? =some x/\RelV x v:=fun k v⟨c,u,e,ev⟩=>by
   have e:l[k]? =some c:=by simpa [sOf] using e
   exact⟨.str<|sOf [c],by rw[hs];simp[e],⟨u,ev⟩⟩
  rcases ht with ht|ht;·exact⟨_,_,_,hn▸Draws.strAscii hh it (sOf l) t,ht,sg,fun k h st=>⟨t,.inl st⟩,by simp,fun b hb=>.inl (by simpa using hb)⟩
  ·exact⟨_,_,_,hn▸Draws.strWide hh it (sOf l) t,ht,sg,fun k h st=>⟨t,.inr st⟩,by simp,fun b hb=>.inl (by simpa using hb)⟩
end
def eE(v:Cr)(h:Heap)(o:Obj):Prop:=∀(prog:CQ)(w:D4)(A:De)(E:Cr->Cu->Prop)(Q:Cr->Cu->Prop)(s:Cu),s.heap=h->Q (.ref h.objs.size) {s with heap:=h.push o}->wpAny (model prog w) A (pyIter v) Q E s
def zq(h:Heap)(o1 o2:Obj):Heap:=((h.push o1).push o2).push {cls:=.type "tuple",data:=.seq #[.ref h.objs.size,.ref (h.push o1).objs.size]}
def zr(h:Heap)(o1 o2:Obj):Heap:=(zq h o1 o2).push {cls:=.type "tuple",data:=.seq #[.none,.none]}
def yU(h:Heap)(o1 o2:Obj):Heap:=(zr h o1 o2).push {cls:=.type "zip",data:=.fields #[.none,.bool false,.bool false,.ref ((h.push o1).push o2).objs.size,.ref (zq h o1 o2).objs.size]}
theorem lp(v1 v2:Cr)(o1 o2:Obj):Meets (Jm.«zip.__new__» ⟨[.type "zip",v1,v2],[]⟩) (fun _ R s=>eE v1 s.heap o1/\eE v2 (s.heap.push o1) o2/\R (.ok<|.ret<|.ref (zr s.heap o1 o2).objs.size) {s with heap:=yU s.heap o1 o2}):=
 .of_wp fun prog w A R s h=>by
  obtain⟨hp,g,d,tk,os⟩:=s;obtain⟨i1,i2,h⟩:=h;have hsub:=sub_zip;have j1:=fun(A:De)(E:Cr->Cu->Prop)(Q:Cr->Cu->Prop)(q:Q _ _)=>i1 prog w A E Q ⟨hp,g,d,tk,os⟩ rfl q;have j2:=fun(A:De)(E:Cr->Cu->Prop)(Q:Cr->Cu->Prop)(q:Q _ _)=>i2 prog w A E Q ⟨hp.push o1,g,d,tk,os⟩ rfl q
  wp_walk using j1 _ _ _,j2 _ _ _
  exact⟨_,rfl,h⟩
theorem qk{P:CQ}{w:D4}{A:De}{E:Cr->Cu->Prop}{s:Cu}{v1 v2:Cr}{o1 o2:Obj}{Q:Cr->Cu->Prop}(i1:eE v1 s.heap o1)(i2:eE v2 (s.heap.push o1) o2)
  (f1:o1.isFreed=false) (f2:o2.isFreed=false)
  (q:∀h',Fi h' (s.heap.objs.size+4) (s.heap.objs.size+2) (s.heap.objs.size+3) .none->FU h' (s.heap.objs.size+2) (.ref s.heap.objs.size) (.ref<|s.heap.objs.size+1)->FU h' (s.heap.objs.size+3) .none .none->
   h'.get? s.heap.objs.size=some o1->h'.get? (s.heap.objs.size+1)=some o2->(∀c o,s.heap.get? c=some o->h'.get? c=some o)->Q (.ref (s.heap.objs.size+4)) {s with heap:=h'}):
  wpAny (model P w) A (call (.type "zip") [v1,v2]) Q E s:=by
 refine callType_new IB (by decide) (PySem.F.typeCall_zip_2 _ _) (PySem.F.newCall_zip_2 _ _) (fun obj=>PySem.F.args_object_init_3 obj _ _) HK (lp v1 v2 o1 o2) ⟨i1,i2,?_⟩;have z1:(s.heap.push o1).objs.size=s.heap.objs.size+1:=Dj ..;have z2:((s.heap.push o1).push o2).objs.size=s.heap.objs.size+2:=by rw[Dj,z1]
 have z3:(zq s.heap o1 o2).objs.size=s.heap.objs.size+3:=by unfold zq;rw[Dj,z2]
 have z4:(zr s.heap o1 o2).objs.size=s.heap.objs.size+4:=by unfold zr;rw[Dj,z3]
 have g5:(yU s.heap o1 o2).get? (zr s.heap o1 o2).objs.size=some _:=CF _ rfl;have g4:(yU s.heap o1 o2).get? (zq s.heap o1 o2).objs.size=some _:=Cs _<|CF _ rfl;have g3:(yU s.heap o1 o2).get? ((s.heap.push o1).push o2).objs.size=some _:=Cs _<|Cs _<|CF _ rfl;have g2:(yU s.heap o1 o2).get? (s.heap.push o1).objs.size=some o2:=Cs _<|Cs _<|Cs _<|CF _ f2;have g1:(yU s.heap o1 o2).get? s.heap.objs.size=some o1:=Cs _<|Cs _<|Cs _<|Cs _<|CF _ f1;show _/\_;rw[z2,z3,z4]at g5;rw[z1,z2]at g3;rw[z3]at g4;rw[z1]at g2;rw[z4];exact⟨⟨_,g5,rfl⟩,q _ g5 g3 g4 g1 g2 fun c o x=>Cs _<|Cs _<|Cs _<|Cs _<|Cs _ x⟩
theorem Src.iter{X:Cx}{pins:List (Addr×Obj)}{σ:St}{H:Hp}{s:Cu}{c:Src}{xs:List V}{v:Cr}{h:Heap}(I:Inv X pins σ H s)(hs:c.has X.K H xs)(rv:RelV c.val v)(k:∀b o,s.heap.get? b=some o->h.get? b=some o):
  ∃o,eE v h o/\o.isFreed=false/\(∀h':Heap,h'.get? h.objs.size=some o->c.at h.objs.size 0 h'):=by
 cases c with
 |lst a=>
  obtain⟨its,r,p,hz⟩:=I.list hs;cases (show v=.ref a from rv);obtain⟨o,e,r2⟩:=p.isList;refine⟨{cls:=.type "list_iterator",data:=.fields #[.ref a,.int 0 0]},fun prog w A E Q s' e' q=>?_,rfl,fun h' e'=>⟨_,e',rfl,rfl⟩⟩;subst e';exact Fv ⟨o,k a o e,r2⟩ q
 |tup a=>
  obtain⟨its,r,p,hz⟩:=I.tuple hs;cases (show v=.ref a from rv);obtain⟨o,e,r2⟩:=p;refine⟨{cls:=.type "tuple_iterator",data:=.fields #[.ref a,.int 0 0]},fun prog w A E Q s' e' q=>?_,rfl,fun h' e'=>⟨_,e',rfl,rfl⟩⟩;subst e';exact wpAny_pyIter_tuple ⟨o,k a o e,r2⟩ q
 |str l=>
  obtain⟨t,rfl⟩:=(show ∃t,v=.str (sOf l) t from rv)
  cases ha:(sOf l).cps.all (· <128);·exact⟨{cls:=.type "str_iterator",data:=.fields #[.str (sOf l) t,.int 0 0]},fun prog w A E Q s' e' q=>by subst e';exact IY ha q,rfl,fun h' e'=>⟨t,.inr ⟨_,e',rfl,rfl⟩⟩⟩
  ·exact⟨{cls:=.type "str_ascii_iterator",data:=.fields #[.str (sOf l) t,.int 0 0]},fun prog w A E Q s' e' q=>by subst e';exact Iz ha q,rfl,fun h' e'=>⟨t,.inl ⟨_,e',rfl,rfl⟩⟩⟩
section
variable{P:CQ}{w:D4}{A:De}{E:Cr->Cu->Prop}{s:Cu}{z TI TO i1 i2:Addr}{fp1 fp2:List Addr}{n1 n2 k:Nat}{P1 P2:Nat->Cr->Prop}{S1 S2:Nat->Heap->Prop}{a b:Cr}
structure ZApart(z TI TO i1 i2:Addr)(fp1 fp2:List Addr):Prop where
 c1:TI≠z
 c2:TO≠z
 c3:i1≠z
 c4:i2≠z
 c5:TI≠TO
 c6:TI≠i1
 c7:TI≠i2
 c8:TO≠i1
 c9:TO≠i2
 d1:z∉fp1/\TO∉fp1/\i2∉fp1
 d2:z∉fp2/\TO∉fp2/\i1∉fp2
theorem ak{n:Nat}{it:Addr}{fp:List Addr}{Pt:Nat->Cr->Prop}{S:Nat->Heap->Prop}(D:HD P w A it fp n Pt S){j:Nat}{h h':Heap}{c:Addr}(st:S j h)(sb:CT c h h')(hc:c∉fp):S j h':=
 D.frame _ _ _ st fun b hb o e=>(sb.2 b fun q=>hc<|q▸hb).trans e
theorem ql{Q:Option Cr->Cu->Prop}(D1:HD P w A.in1 i1 fp1 n1 P1 S1)(D2:HD P w A.in1 i2 fp2 n2 P2 S2)(Z:ZApart z TI TO i1 i2 fp1 fp2)(h1:k<n1)(h2:k<n2)(hz:Fi s.heap z TI TO .none)
  (hI:FU s.heap TI (.ref i1) (.ref i2)) (hO:FU s.heap TO a b) (t1:S1 k s.heap) (t2:S2 k s.heap)
  (q:∀x y h' tk T,P1 k x->P2 k y->T=s.heap.objs.size->Fi h' z TI TO (rawInt T)->FU h' TO x y->S1 (k+1) h'->S2 (k+1) h'->FU h' T x y->
   (∀c o,c≠z->c≠TO->c≠i1->c≠i2->s.heap.get? c=some o->h'.get? c=some o)->Q (some (.ref T)) {s with heap:=h',toks:=tk}):
  wpAny (model P w) A (pyNext<|.ref z) Q E s:=by
 have hT:s.TypeIs (.ref z) "zip":=⟨_,hz,rfl⟩
 unfold pyNext;refine Co<|F8<|DH (name:=Cv "__next__") hT DU<|En DU hT Fn ?_<|Fe _;obtain⟨hp,gg,dd,tk0,os⟩:=s;show wpAny (model P w) _ (field (.ref z) 2>>=_) _ _ _;refine Co<|D6 hz rfl (x:=.bool false) rfl ?_;show wpAny (model P w) _ (field (.ref z) 3>>=_) _ _ _;refine Co<|D6 hz rfl (x:=.ref TI) rfl<|Co<|Du hI rfl ?_;show wpAny (model P w) _ (Dd (.ref z)>>=_) _ _ _;refine Co ?_;unfold Dd;refine Co<|D6 hz rfl (x:=.none) rfl<|CC ?_;simp only[if_true];refine Co (Ga (Co (D6 hz rfl (x:=.ref TO) rfl (Co (Dv hz (by simp) fun g1 y1 b1=>?_)))));replace y1:Fi g1 z TI TO .ellipsis:=y1;replace b1:CT z hp g1:=b1;refine Co ?_;simp only[Gb,Gx,FO,G5];refine Co<|Co<|EE ?_;show wpAny (model P w) _ (CV (.ref i1)>>=_) _ _ _;refine Co<|D1.item k _ _ _ h1 (ak D1 t1 b1 Z.d1.1) fun x g2 tk2 px u1 b2=>CC ?_;replace b2:CT i1 g1 g2:=b2;have O2:FU g2 TO a b:=b2.extBut _ _ Z.c8<|b1.extBut _ _ Z.c2 hO;refine Co<|Du O2 rfl<|Co<|Gm O2 fun g3 O3 b3=>?_;replace O3:FU g3 TO x b:=O3;replace b3:CT TO g2 g3:=b3;refine Co<|FC<|CC<|Co<|Co<|EE ?_;show wpAny (model P w) _ (CV (.ref i2)>>=_) _ _ _;refine Co<|D2.item k _ _ _ h2 (ak D2 (ak D2 (ak D2 t2 b1 Z.d2.1) b2 Z.d2.2.2) b3 Z.d2.2.1) fun y g4 tk4 py u2 b4=>CC ?_;replace b4:CT i2 g3 g4:=b4;have O4:FU g4 TO x b:=b4.extBut _ _ Z.c9 O3;refine Co<|Du O4 rfl<|Co<|Gm O4 fun g5 O5 b5=>?_;replace O5:FU g5 TO x y:=O5;replace b5:CT TO g4 g5:=b5;refine Co<|FC<|CC<|CC<|Co<|Du O5 rfl<|Co<|Jy ?_;have sz:g5.objs.size=hp.objs.size:=by rw[b5.1,b4.1,b3.1,b2.1,b1.1]
 have y5:Fi g5 z TI TO .ellipsis:=b5.extBut _ _ Z.c2.symm<|b4.extBut _ _ Z.c4.symm<|b3.extBut _ _ Z.c2.symm<|b2.extBut _ _ Z.c3.symm y1;have k5:∀c o,c≠z->c≠TO->c≠i1->c≠i2->hp.get? c=some o->g5.get? c=some o:=fun c o e1 e2 e3 e4 e=>b5.extBut _ _ e2<|b4.extBut _ _ e4<|b3.extBut _ _ e2<|b2.extBut _ _ e3<|b1.extBut _ _ e1 e;have v1:S1 (k+1) g5:=ak D1 (ak D1 (ak D1 u1 b3 Z.d1.2.1) b4 Z.d1.2.2) b5 Z.d1.2.1;have v2:S2 (k+1) g5:=ak D2 u2 b5 Z.d2.2.1;have lz:z<g5.objs.size:=CD y5;show wpAny (model P w) _ (Ee (.ref z) (.ref g5.objs.size)>>=_) _ _ _;refine Co ?_;unfold Ee;have y6:Fi (g5.push {cls:=.type "tuple",data:=.seq #[x,y]}) z TI TO .ellipsis:=Cs _ y5;refine Co (Dv y6 (by simp) fun g7 y7 b7=>?_);replace y7:Fi g7 z TI TO (rawInt g5.objs.size):=y7;replace b7:CT z (g5.push {cls:=.type "tuple",data:=.seq #[x,y]}) g7:=b7;refine Dv y7 (by simp) fun g8 y8 b8=>?_;replace y8:Fi g8 z TI TO (rawInt g5.objs.size):=y8;replace b8:CT z g7 g8:=b8;have up:∀c o,c≠z->g5.get? c=some o->g8.get? c=some o:=fun c o e1 e=>b8.extBut _ _ e1<|b7.extBut _ _ e1<|Cs _ e;have T8:FU g8 g5.objs.size x y:=b8.extBut _ _ (Et lz)<|b7.extBut _ _ (Et lz)<|CF _ rfl;refine CC ⟨_,rfl,CC<|q x y g8 _ g5.objs.size px py sz y8 (up _ _ Z.c2 O5) (D1.frame _ _ _ v1 fun b hb o e=>up b o (fun q=>Z.d1.1<|q▸hb) e) (D2.frame _ _ _ v2 fun b hb o e=>up b o (fun q=>Z.d2.1<|q▸hb) e) T8 fun c o e1 e2 e3 e4 e=>up c o e1<|k5 c o e1 e2 e3 e4 e⟩
theorem sx{Q:Option Cr->Cu->Prop}(hh:A.handled=none)(D1:HD P w A.in1 i1 fp1 n1 P1 S1)(D2:HD P w A.in1 i2 fp2 n2 P2 S2)(Z:ZApart z TI TO i1 i2 fp1 fp2)(hk:k=n1\/(k<n1/\k=n2))(hz:Fi s.heap z TI TO .none)
  (hI:FU s.heap TI (.ref i1) (.ref i2)) (hO:FU s.heap TO a b) (t1:S1 k s.heap) (t2:S2 k s.heap)
  (q:∀h' tk,(∀c o,c≠z->c≠TO->c≠i1->c≠i2->s.heap.get? c=some o->h'.get? c=some o)->Q none {s with heap:=h',toks:=tk}):
  wpAny (model P w) A (pyNext<|.ref z) Q E s:=by
 have hT:s.TypeIs (.ref z) "zip":=⟨_,hz,rfl⟩
 unfold pyNext;refine Co<|F8<|DH (name:=Cv "__next__") hT DU<|En DU hT Fn ?_<|Fe _;obtain⟨hp,gg,dd,tk0,os⟩:=s;show wpAny (model P w) _ (field (.ref z) 2>>=_) _ _ _;refine Co<|D6 hz rfl (x:=.bool false) rfl ?_;show wpAny (model P w) _ (field (.ref z) 3>>=_) _ _ _;refine Co<|D6 hz rfl (x:=.ref TI) rfl<|Co<|Du hI rfl ?_;show wpAny (model P w) _ (Dd (.ref z)>>=_) _ _ _;refine Co ?_;unfold Dd;refine Co<|D6 hz rfl (x:=.none) rfl<|CC ?_;simp only[if_true];refine Co (Ga (Co (D6 hz rfl (x:=.ref TO) rfl (Co (Dv hz (by simp) fun g1 y1 b1=>?_)))));replace y1:Fi g1 z TI TO .ellipsis:=y1;replace b1:CT z hp g1:=b1;refine Co ?_;simp only[Gb,Gx,FO,G5];refine Co<|Co<|EE ?_;show wpAny (model P w) _ (CV (.ref i1)>>=_) _ _ _;rcases hk with hk|⟨hk1,hk2⟩
 ·subst hk;refine Co<|D1.done _ _ _ (ak D1 t1 b1 Z.d1.1) fun g2 e b2 he=>?_;obtain⟨oe,hoe,hce⟩:=he;replace b2:F4 i1 g1 g2:=b2;have y2:Fi g2 z TI TO .ellipsis:=b2 _ _ Z.c3.symm y1;have ez:e≠z:=fun x=>by subst x;rw[y2]at hoe;cases hoe;simp at hce
  refine Dv y2 (by simp) fun g3 _ b3=>?_;exact Co<|ES (T:="StopIteration") (b:=true) ⟨oe,b3.extBut _ _ ez hoe,hce⟩ Ff<|CC<|q g3 _ fun c o e1 _ e3 _ x=>b3.extBut _ _ e1<|b2 _ _ e3<|b1.extBut _ _ e1 x
 ·subst hk2;refine Co<|D1.item k _ _ _ hk1 (ak D1 t1 b1 Z.d1.1) fun x g2 tk2 px u1 b2=>CC ?_;replace b2:CT i1 g1 g2:=b2;have O2:FU g2 TO a b:=b2.extBut _ _ Z.c8<|b1.extBut _ _ Z.c2 hO;refine Co<|Du O2 rfl<|Co<|Gm O2 fun g3 O3 b3=>?_;replace b3:CT TO g2 g3:=b3;refine Co<|FC<|CC<|Co<|Co<|EE ?_;show wpAny (model P w) _ (CV (.ref i2)>>=_) _ _ _;refine Co<|D2.done _ _ _ (ak D2 (ak D2 (ak D2 t2 b1 Z.d2.1) b2 Z.d2.2.2) b3 Z.d2.2.1) fun g4 e b4 he=>?_;obtain⟨oe,hoe,hce⟩:=he;replace b4:F4 i2 g3 g4:=b4;have y4:Fi g4 z TI TO .ellipsis:=b4 _ _ Z.c4.symm<|b3.extBut _ _ Z.c2.symm<|b2.extBut _ _ Z.c3.symm y1;have ez:e≠z:=fun x=>by subst x;rw[y4]at hoe;cases hoe;simp at hce
  refine Dv y4 (by simp) fun g5 _ b5=>?_;exact Co<|ES (T:="StopIteration") (b:=true) ⟨oe,b5.extBut _ _ ez hoe,hce⟩ Ff<|CC<|q g5 _ fun c o e1 e2 e3 e4 x=>b5.extBut _ _ e1<|b4 _ _ e4<|b3.extBut _ _ e2<|b2.extBut _ _ e3<|b1.extBut _ _ e1 x
end
def zt(K:Cq)(c1 c2:Src):It:=
  ⟨fun i H=>∃xs ys x y,c1.has K H xs/\c2.has K H ys/\xs[i]? =some x/\ys[i]? =some y,
   fun i H v H'=>∃p x y,H p=none/\v=.ref p/\(∀xs,c1.has K H xs->xs[i]? =some x)/\(∀ys,c2.has K H ys->ys[i]? =some y)/\H'=bP H p (.tup [x,y]),
   fun i H=>∃xs ys,c1.has K H xs/\c2.has K H ys/\(i=xs.length\/(i<xs.length/\i=ys.length))⟩
theorem Src.inj{X:Cx}{pins:List (Addr×Obj)}{σ:St}{H:Hp}{s:Cu}{c:Src}{xs ys:List V}(I:Inv X pins σ H s)(h1:c.has X.K H xs)(h2:c.has X.K H ys):xs=ys:=by
 cases c with
 |lst a=>exact I.list_inj h1 h2
 |tup a=>exact I.tuple_inj h1 h2
 |str l=>exact Eq.trans h1<|Eq.symm h2
theorem Src.at_keep{c:Src}{it:Addr}{i:Nat}{h h':Heap}(st:c.at it i h)(k:∀o,h.get? it=some o->h'.get? it=some o):c.at it i h':=by
 cases c with
 |lst a=>obtain⟨o,e,r⟩:=st;exact⟨o,k o e,r⟩
 |tup a=>obtain⟨o,e,r⟩:=st;exact⟨o,k o e,r⟩
 |str l=>
  obtain⟨t,st⟩:=st;rcases st with⟨o,e,r⟩|⟨o,e,r⟩
  ·exact⟨t,.inl ⟨o,k o e,r⟩⟩
  ·exact⟨t,.inr ⟨o,k o e,r⟩⟩
theorem Src.at_obj{c:Src}{it:Addr}{i:Nat}{h:Heap}(st:c.at it i h):∃o,h.get? it=some o/\∃vs,o.data=.fields vs:=by
 cases c with
 |lst a=>obtain⟨o,e,_,r⟩:=st;exact⟨o,e,_,r⟩
 |tup a=>obtain⟨o,e,_,r⟩:=st;exact⟨o,e,_,r⟩
 |str l=>
  obtain⟨t,st⟩:=st;rcases st with⟨o,e,_,r⟩|⟨o,e,_,r⟩
  ·exact⟨o,e,_,r⟩
  ·exact⟨o,e,_,r⟩
def Bu(c1 c2:Src)(z TI TO i1 i2:Addr)(i:Nat)(h:Heap):Prop:=Fi h z TI TO .none/\FU h TI (.ref i1) (.ref i2)/\(∃a b,FU h TO a b)/\c1.at i1 i h/\c2.at i2 i h
structure ZIds(z TI TO i1 i2:Addr):Prop where
 c1:TI≠z
 c2:TO≠z
 c3:i1≠z
 c4:i2≠z
 c5:TI≠TO
 c6:TI≠i1
 c7:TI≠i2
 c8:TO≠i1
 c9:TO≠i2
 c10:i1≠i2
theorem sy{X:Cx}{pins:List (Addr×Obj)}{σ:St}{H:Hp}{s:Cu}{z TI TO i1 i2:Addr}{fp1 fp2:List Addr}(I:Inv X pins σ H s)(Z:ZIds z TI TO i1 i2)(hf:∀b∈[z,TI,TO,i1,i2],FpOk X pins H b)
  (g1:∀b∈fp1,b=i1\/H b≠none\/∃o,X.base.get? b=some o) (g2:∀b∈fp2,b=i2\/H b≠none\/∃o,X.base.get? b=some o):ZApart z TI TO i1 i2 fp1 fp2:=by
 have no:∀b∈[z,TI,TO,i1,i2],¬(H b≠none\/∃o,X.base.get? b=some o):=fun b hb q=>by
  rcases q with q|⟨o,q⟩
  ·exact q (hf b hb).1
  ·rcases (hf b hb).2.2.2.1 with y | y;·exact I.ok.noex b o q y
   ·exact absurd (CA (CA (CD q) I.ok.bsz) y)<|Di _
 refine⟨Z.c1,Z.c2,Z.c3,Z.c4,Z.c5,Z.c6,Z.c7,Z.c8,Z.c9,⟨fun m=>?_,fun m=>?_,fun m=>?_⟩,⟨fun m=>?_,fun m=>?_,fun m=>?_⟩⟩;·exact(g1 _ m).elim (fun e=>Z.c3 e.symm) (no z (by simp))
 ·exact(g1 _ m).elim (fun e=>Z.c8 e) (no TO (by simp))
 ·exact(g1 _ m).elim (fun e=>Z.c10 e.symm) (no i2 (by simp))
 ·exact(g2 _ m).elim (fun e=>Z.c4 e.symm) (no z (by simp))
 ·exact(g2 _ m).elim (fun e=>Z.c9 e) (no TO (by simp))
 ·exact(g2 _ m).elim (fun e=>Z.c10 e) (no i1 (by simp))
theorem sA{P:CQ}{w:D4}{K:Cq}{elts:List Expr}{kk:Nat}{tp:Pos}(c1 c2:Src)(z TI TO i1 i2:Addr)(Z:ZIds z TI TO i1 i2):
  Turn P w K (.Tuple elts kk tp) (zt K c1 c2) [z,TI,TO,i1,i2] z (Bu c1 c2 z TI TO i1 i2) where
 mem:=by simp
 obj:=fun i h st b hb=>by
  obtain⟨hz,hI,⟨a,b',hO⟩,t1,t2⟩:=st;obtain⟨o1,e1,v1,d1⟩:=Src.at_obj t1;obtain⟨o2,e2,v2,d2⟩:=Src.at_obj t2;simp only[CM,D9,or_false]at hb;rcases hb with rfl|rfl|rfl|rfl|rfl;·exact⟨_,hz,fun v q=>by cases (show GW _=Fq v from q)⟩
  ·exact⟨_,hI,fun v q=>by cases (show Hg _ _=Fq v from q)⟩
  ·exact⟨_,hO,fun v q=>by cases (show Hg _ _=Fq v from q)⟩
  ·exact⟨_,e1,fun v q=>by rw[d1]at q;cases q⟩
  ·exact⟨_,e2,fun v q=>by rw[d2]at q;cases q⟩
 keep:=fun i h h' st k=>by
  obtain⟨hz,hI,⟨a,b',hO⟩,t1,t2⟩:=st;exact⟨k z (by simp) _ hz,k TI (by simp) _ hI,⟨a,b',k TO (by simp) _ hO⟩,Src.at_keep t1 (k i1 (by simp)),Src.at_keep t2 (k i2 (by simp))⟩
 item:=by
  intro X hP hw hK hc i pins s σ H E I hf st hg;subst hP hw hK;obtain⟨xs,ys,x,y,hx,hy,ex,ey⟩:=hg;obtain⟨hz,hI,⟨a,b',hO⟩,t1,t2⟩:=st;have hh:X.A.in1.handled=none:=I.ok.hd hc;obtain⟨fp1,P1,S1,D1,u1,r1,a1,_,g1⟩:=Src.draws (A:=X.A.in1) hh I hx t1 (hf i1 (by simp)).1;obtain⟨fp2,P2,S2,D2,u2,r2,a2,_,g2⟩:=Src.draws (A:=X.A.in1) hh I hy t2 (hf i2 (by simp)).1;have ZA:=sy I Z hf g1 g2;refine ql D1 D2 ZA (Cy.mp ex).1 (Cy.mp ey).1 hz hI hO u1 u2 fun vx vy h' tk T px py hT hz' hO' w1 w2 hTp kp=>?_;obtain⟨x',ex',rx⟩:=r1 i vx px;obtain⟨y',ey',ry⟩:=r2 i vy py;rw[ex]at ex';cases ex';rw[ey]at ey';cases ey';have nT:H T=none:=by rw[hT];exact I.hok.fresh<|CK _
  refine⟨_,rfl,GU hz' fun h2 hz2 sb=>?_⟩;have lt:∀{c o},s.heap.get? c=some o->c≠T:=fun e=>by rw[hT];exact CN<|CD e
  have up:∀c o,c≠z->h'.get? c=some o->h2.get? c=some o:=fun c o hc e=>(sb.2 c hc).trans e;have kp2:∀b o,b∉[z,TO,i1,i2]->s.heap.get? b=some o->h2.get? b=some o:=fun b o hb e=>by
   simp only[CM,D9,or_false,not_or]at hb;exact up b o hb.1<|kp b o hb.1 hb.2.1 hb.2.2.1 hb.2.2.2 e
  have ch:∀b∈[z,TO,i1,i2],b∈[z,TI,TO,i1,i2]:=fun b hb=>by
   simp only[CM,D9,or_false]at hb ⊢;rcases hb with h|h|h|h<;>simp[h]
  have f9:∀b u,H b=some u->b∉[z,TO,i1,i2]/\b≠T:=fun b u e=>⟨fun hb=>(by rw[(hf b<|ch b hb).1]at e;cases e),fun q=>(by rw[q,nT]at e;cases e)⟩
  have I2:Inv X pins σ (bP H T<|.tup [x,y]) {s with heap:=h2,gens:=s.gens,drawn:=s.drawn,toks:=tk}:=by
   refine I.step (g':=s.gens) (d':=s.drawn) (t':=tk) (ch:=[z,TO,i1,i2]) (fun b hb=>⟨(hf b<|ch b hb).2.2.2.1,(hf b<|ch b hb).2.1,(hf b<|ch b hb).2.2.2.2.1,(hf b<|ch b hb).2.2.2.2.2⟩) (fun b o _ _ hb e _=>kp2 b o hb e) (fun b o _ _ hb e _=>⟨o.slots,kp2 b o hb e⟩)
    (fun b o hb e n=>by rw[ag<|lt e];exact n) (fun b o hb e=>⟨o,kp2 b o hb e⟩) (fun b xs e=>by rw[ag (f9 b _ e).2];exact e) (fun b o u e=>by rw[ag (f9 b _ e).2];exact e) (fun b ps e=>⟨#[],by rw[ag (f9 b _ e).2,e];simp⟩) (fun m hm=>?_) (fun b u e=>?_) I.bare
   ·obtain⟨o,es,ep,ho,r⟩:=hm;exact⟨o,es,ep,kp2 _ o (fun hb=>(hf _<|ch _ hb).2.1 rfl) ho,r⟩
   ·by_cases hb:b=T
    ·subst hb;rw[ai]at e;cases e;refine⟨(by show 2<=sizeLine;rw[DK];decide),[vx,vy],.cons rx<|.cons ry .nil,⟨_,up _ _ ?_ hTp,⟨rfl,rfl⟩,_,rfl⟩⟩;exact fun q=>lt hz q.symm
    ·rw[ag hb]at e;refine(I.hok b u e).stay (fun c v hc q=>kp2 c v ?_ q) (fun c q=>by rw[ag (f9 c _ q).2];exact q) fun c xs q=>by rw[ag (f9 c _ q).2];exact q
     rcases hc with q|q;·rw[q];exact(f9 b u e).1
     ·exact(f9 c _ q).1
  refine⟨.ref T,_,I2,rfl,⟨T,x,y,nT,rfl,fun xs' h=>by rw[Src.inj I h hx];exact ex,fun ys' h=>by rw[Src.inj I h hy];exact ey,rfl⟩,⟨hz2,up _ _ Z.c1<|kp _ _ Z.c1 Z.c5 Z.c6 Z.c7 hI,⟨_,_,up _ _ Z.c2 hO'⟩,Src.at_keep (a1 _ _ w1) fun o e=>up _ o Z.c3 e,Src.at_keep (a2 _ _ w2) fun o e=>up _ o Z.c4 e⟩,fun b hb=>?_⟩;have hbT:b≠T:=by
   obtain⟨o,e⟩:∃o,s.heap.get? b=some o:=by
    obtain⟨o1,e1,_⟩:=Src.at_obj t1;obtain⟨o2,e2,_⟩:=Src.at_obj t2;simp only[CM,D9,or_false]at hb;rcases hb with rfl|rfl|rfl|rfl|rfl;·exact⟨_,hz⟩
    ·exact⟨_,hI⟩
    ·exact⟨_,hO⟩
    ·exact⟨_,e1⟩
    ·exact⟨_,e2⟩
   exact lt e
  rw[ag hbT];exact(hf b hb).1
 done:=by
  intro X hP hw hK hc i pins s σ H E I hf st hg;subst hP hw hK;obtain⟨xs,ys,hx,hy,hend⟩:=hg;obtain⟨hz,hI,⟨a,b',hO⟩,t1,t2⟩:=st;have hh:X.A.in1.handled=none:=I.ok.hd hc;obtain⟨fp1,P1,S1,D1,u1,r1,a1,_,g1⟩:=Src.draws (A:=X.A.in1) hh I hx t1 (hf i1 (by simp)).1;obtain⟨fp2,P2,S2,D2,u2,r2,a2,_,g2⟩:=Src.draws (A:=X.A.in1) hh I hy t2 (hf i2 (by simp)).1;have ZA:=sy I Z hf g1 g2;have ch:∀b∈[z,TO,i1,i2],b∈[z,TI,TO,i1,i2]:=fun b hb=>by
   simp only[CM,D9,or_false]at hb ⊢;rcases hb with h|h|h|h<;>simp[h]
  refine sx hh D1 D2 ZA hend hz hI hO u1 u2 fun h2 tk kp=>⟨rfl,?_⟩
  have kp2:∀b o,b∉[z,TO,i1,i2]->s.heap.get? b=some o->h2.get? b=some o:=fun b o hb e=>by
   simp only[CM,D9,or_false,not_or]at hb;exact kp b o hb.1 hb.2.1 hb.2.2.1 hb.2.2.2 e
  refine I.step (g':=s.gens) (d':=s.drawn) (t':=tk) (ch:=[z,TO,i1,i2]) (fun b hb=>⟨(hf b<|ch b hb).2.2.2.1,(hf b<|ch b hb).2.1,(hf b<|ch b hb).2.2.2.2.1,(hf b<|ch b hb).2.2.2.2.2⟩) (fun b o _ _ hb e _=>kp2 b o hb e) (fun b o _ _ hb e _=>⟨o.slots,kp2 b o hb e⟩)
   (fun b o hb e n=>n) (fun b o hb e=>⟨o,kp2 b o hb e⟩) (fun b xs e=>e) (fun b o u e=>e) (fun b ps e=>⟨#[],by rw[e];simp⟩) (fun m hm=>?_) (fun b u e=>?_) I.bare
  ·obtain⟨o,es,ep,ho,r⟩:=hm;exact⟨o,es,ep,kp2 _ o (fun hb=>(hf _<|ch _ hb).2.1 rfl) ho,r⟩
  ·have f9:∀b u,H b=some u->b∉[z,TO,i1,i2]:=fun b u e hb=>by rw[(hf b<|ch b hb).1]at e;cases e
   refine(I.hok b u e).stay (fun c v hc q=>kp2 c v ?_ q) (fun c q=>q) fun c xs q=>q;rcases hc with q|q
   ·rw[q];exact f9 b u e
   ·exact f9 c _ q
 self:=fun _ _ _ _ _ st h=>Ge st.1 h
theorem iJ(n a b:Nat)(h:a≠b): @Ne Nat (n+a) (n+b):=fun e=>h<|Nat.add_left_cancel e
def vI(K:Cq)(t:TA):TI:=fun σ H R=>t σ H fun vs H1=>∃c1 c2 xs ys,vs=[c1.val,c2.val]/\c1.has K H1 xs/\c2.has K H1 ys/\R (zt K c1 c2) H1
theorem xV{X:Cx}{a b:Expr}{ta:TA}{p pos tp:Pos}{elts:List Expr}{kk:Nat}(hg:Gl X "zip")(hm:X.mg "zip"=none)(ha:PA X [a,b] ta)
  (hs:starEach [a,b] X.env=[(false,eval a X.env),(false,eval b X.env)]:=by rfl) (hs2:starEach [b] X.env=[(false,eval b X.env)]:=by rfl):PI X (.Tuple elts kk tp) (.Call (.Name "zip" p) [a,b] [] pos) (vI X.K ta):=by
 intro pins s σ H R I h;refine Call_ (gC I hg hm boot_zip (Eo (bL (ha pos pins s σ H _ I h) fun us s1⟨vs,H1,I1,r1,q1⟩=>?_) (by rw[hs,hs2]) (by rw[hs2];rfl)));obtain⟨c1,c2,xs,ys,e,h1,h2,q⟩:=q1;subst e;obtain⟨v1,v2,rfl,ra,rb⟩:=oE r1;obtain⟨o1,i1,f1,n1⟩:=Src.iter I1 h1 ra fun _ _ e=>e;obtain⟨o2,i2,f2,n2⟩:=Src.iter (h:=s1.heap.push o1) I1 h2 rb fun _ _ e=>Cs _ e;have z1:(s1.heap.push o1).objs.size=s1.heap.objs.size+1:=Dj ..;rw[z1]at n2;refine qk i1 i2 f1 f2 fun h' hz hI hO e1 e2 kp=>?_;refine Ge hz ?_;have zi:∀n:Nat,ZIds (n+4) (n+2) (n+3) n (n+1):=fun n=>⟨(iJ n 2 4 (by decide)),(iJ n 3 4 (by decide)),(iJ n 0 4 (by decide)),(iJ n 1 4 (by decide)),(iJ n 2 3 (by decide)),(iJ n 2 0 (by decide)),(iJ n 2 1 (by decide)),(iJ n 3 0 (by decide)),(iJ n 3 1 (by decide)),(iJ n 0 1 (by decide))⟩
 refine⟨s1.heap.objs.size+4,[s1.heap.objs.size+4,s1.heap.objs.size+2,s1.heap.objs.size+3,s1.heap.objs.size,s1.heap.objs.size+1],_,_,H1,rfl,I1.kept (t':=s1.toks) kp,sA c1 c2 _ _ _ _ _<|zi s1.heap.objs.size,⟨hz,hI,⟨_,_,hO⟩,n1 h' e1,n2 h' e2⟩,fun b hb=>?_,q⟩;have hb':s1.heap.objs.size<=b:=by
  simp only[CM,D9,or_false]at hb;rcases hb with z|z|z|z|z<;>rw[z]
  ·exact Eb _ 4
  ·exact Eb _ 2
  ·exact Eb _ 3
  ·exact CK _
  ·exact Eb _ 1
 exact I1.fpOk hb'<|I1.hok.fresh hb'
theorem vJ{K:Cq}{c1 c2:Src}{xs ys:List V}{g:TG}{tb:TS}{D:Ends}{σ:St}{H:Hp}(Pv:Nat->St->Hp->Prop)(h0:Pv 0 σ H)(hl:∀i σ H,Pv i σ H->c1.has K H xs/\c2.has K H ys)(hn:xs.length=ys.length)
  (hs:∀i x y p σ H,xs[i]? =some x->ys[i]? =some y->H p=none->Pv i σ H->g (.ref p) σ (bP H p<|.tup [x,y]) fun σ2 H2=>tb {D with nx:=Pv<|i+1,ct:=Pv<|i+1,bk:=D.nx} σ2 H2) (hd:∀σ H,Pv xs.length σ H->D.nx σ H):
  ∃W:Nat->Nat->St->Hp->Prop,(∃m,W 0 m σ H)/\ ∀i m σ H,W i m σ H->
   ((zt K c1 c2).stop i H/\D.nx σ H)\/((zt K c1 c2).go i H/\∃N:St->Hp->Prop,(∀σ' H',N σ' H'->∃m',m'<m/\W (i+1) m' σ' H')/\∀x H',(zt K c1 c2).yld i H x H'->g x σ H' fun σ2 H2=>tb {D with nx:=N,ct:=N,bk:=D.nx} σ2 H2):=by
 refine⟨fun i m σ H=>m=xs.length-i/\i<=xs.length/\Pv i σ H,⟨xs.length,by simp,HV _,h0⟩,?_⟩;rintro i m σ H ⟨rfl,hi,p⟩;obtain⟨q1,q2⟩:=hl i σ H p;by_cases hlt:i<xs.length
 ·refine .inr ⟨⟨xs,ys,xs[i],ys[i],q1,q2,by simp[hlt],by simp[<-hn,hlt]⟩,Pv<|i+1,fun σ' H' p'=>⟨xs.length- (i+1),by omega,rfl,hlt,p'⟩,fun v H' ⟨a,x,y,na,ev,ex,ey,eh⟩=>?_⟩;subst ev eh;exact hs i x y a σ H (ex xs q1) (ey ys q2) na p
 ·have e:i=xs.length:=by omega
  subst e;exact .inl ⟨⟨xs,ys,q1,q2,.inl rfl⟩,hd σ H p⟩
structure Cal(P:CQ)(w:D4)(K:Cq)(mg:Str->Option Cr)(base:Heap)(x:Str)(ps:List Str)(k:Nat)(sp:Sp):Prop where
 ex:∃(f:Addr)(fd:CP),FnOk P w K mg base CX0 k f fd ps sp/\mg x=some (.ref f)/\CZ K (.ref f)=true/\Binds K fd ps []
theorem sC{X:Cx}{x:Str}{ps:List Str}{k:Nat}{sp:Sp}{p pos:Pos}{e:Expr}{es:List Expr}{t:TA}(C:Cal X.prog X.w X.K X.mg X.base x ps k sp)(hr:Room k X.A)(hg:Gl X x)(ha:PA X (e::es) t)
  (hdb:(x==("__debug__" :Str))=false:=by decide) (he:starEach (e::es) X.env=(false,eval e X.env)::starEach es X.env:=by rfl) (hpl:(backTo pos<|starEach es X.env).any (·.1)=false:=by rfl):
  PE X (.Call (.Name x p) (e::es) [] pos) (aI sp [] E0 t):=by
 obtain⟨f,fd,F,hm,hk,hb⟩:=C.ex;exact oG F hr hg hm hk hb .nil oN ha hdb he hpl
theorem fb{X:Cx}{scope:Fh}{N:List Str}{cap:List (Option Nat)}(kind:scope.kind=.function)(nd:N.Nodup)(len:cap.length=N.length)(uniq:(scope.names.map (·.1)).Nodup)
  (fr:(scope.names.all fun x=>x.2 != .free||(X.env.kindOf x.1==some .cell||X.env.kindOf x.1==some .free))=true)
  (cp:((N.zip cap).all fun p=>match p.2 with|none=>true|some j=>X.N[j]? ==some p.1&&scope.names.contains (p.1,DQ))=true):CompScope X scope N cap:=by
 refine⟨kind,nd,len,uniq,fun x hx hk=>?_,fun k x j h1 h2=>?_⟩
 ·have:=Gf.mp fr x hx;rw[hk]at this;simpa using this
 ·have hm:(x,some j)∈N.zip cap:=by
   rw[HL];exact⟨k,by rw[EB];exact⟨h1,h2⟩⟩
  have:=Gf.mp cp _ hm;simpa using this
def flat:V->Bool
 | .non=>true
 | .bl _=>true
 | .int _=>true
 | .str _=>true
 |_=>false
theorem cV{H:Hp}{p:Addr}{o:HO}(h:H p=none):Same H (bP H p o):=fun b u e=>by rw[ag<|bV e h];exact e
theorem dW(x:String)(l:List Nat)(h:(Cv x).cps.toList=l):Cv x=sOf l:=by rw[sk<|Cv x,h]
section
variable{X:Cx}{K:Cq}{w:D4}
theorem cS(h:X.K=K):yT X (cy K):=h▸xO
theorem cP(h:X.K=K):yT X (cn K):=h▸vB
theorem cB(h:X.K=K):eg X (.builtin "len") (fun xs H Q=>∃x n,xs=[x]/\lQ K x H n/\Q (.int n) H):=h▸rP
theorem bj(h:X.K=K):eg X (.builtin "isinstance") (fun xs H Q=>∃x T t b,xs=[x,.ty T]/\TyOf K H x t/\Dp K t (.type T)=some b/\Q (.bl b) H):=h▸m8
theorem sD(h:X.K=K):zh X "str.join" (fun x xs H Q=>∃(p:Addr)(ys:List (List Nat)),x=.str (sOf [])/\xs=[.ref p]/\SqL K H p (ys.map fun y=>FZ<|sOf y)/\ys.flatten.length<=100000/\Q (.str<|sOf ys.flatten) H):=h▸vH
theorem sE(h:X.K=K):B2 X (cz K):=h▸vC
theorem gc(h:X.K=K)(hw:X.w=w){o i:Expr}{pos:Pos}{td ty:TE}(ho:PE X o td)(hi:PE X i ty)(hs:xQ i):PE X (.Subscript o i pos) (aK K w td ty):=h▸hw▸so ho hi hs
theorem cK(h:X.K=K){pos:Pos}{es:List Expr}{k:Nat}{t:vi}{n:Nat}(hc:X.calm=true)(hg:yS X es t)(hn:(assignEach es X.env).length=n:=by rfl)(hst:(assignEach es X.env).findIdx? (·.1)=none:=by rfl):PG X (.Tuple es k pos) (cj K n t):=h▸xG hc hg hn hst
theorem cW(h:X.K=K){tg l:Expr}{tl:TE}(hl:PE X l tl):PI X tg l (lP K tl):=h▸vj hl
theorem gf(h:X.K=K){a b:Expr}{ta:TA}{p pos tp:Pos}{elts:List Expr}{kk:Nat}(hg:Gl X "zip")(hm:X.mg "zip"=none)(ha:PA X [a,b] ta)
  (hs:starEach [a,b] X.env=[(false,eval a X.env),(false,eval b X.env)]:=by rfl) (hs2:starEach [b] X.env=[(false,eval b X.env)]:=by rfl):PI X (.Tuple elts kk tp) (.Call (.Name "zip" p) [a,b] [] pos) (vI K ta):=h▸xV hg hm ha hs hs2
theorem lq(h:X.K=K){o e:Expr}{es:List Expr}{to:TE}{t:TA}{name:Str}{apos cpos:Pos}{T id:String}{r:V->List V->Hp->VK->Prop}(pa:PlainAttrs T)(slot:Slot T name id)(hty:typeOf (.builtin id)=pure (.type "method_descriptor"))(hm:zh X id r)(ho:PE X o to)(ha:PA X (e::es) t)
  (hbase:attributeBase o name X.env (eval o X.env)=eval o X.env:=by rfl)
  (hfew:((backTo cpos<|starEach (e::es) X.env).all (fun x=> !x.1)&&(backToKw cpos<|keywordEach [] X.env).all (fun x=>x.1.isSome)&&decide ((e::es).length+([]:List Hu).length+(if([]:List Hu).isEmpty then 0 else 1)<30))=true:=by rfl)
  (hline:(apos.endLine==cpos.line)=true:=by rfl) (hs:starEach (e::es) X.env=(false,eval e X.env)::starEach es X.env:=by rfl) (hplain:(backTo cpos<|starEach es X.env).any (·.1)=false:=by rfl):
  PE X (.Call (.Attribute o name apos) (e::es) [] cpos) (dU K T r to t):=h▸zj pa slot hty hm ho ha hbase hfew hline hs hplain
end
def Bm(K:Cq)(a:Addr):It:=
  ⟨fun i H=>∃xs x,SqL K H a xs/\xs[i]? =some x,
   fun i H v H'=>∃p x,H p=none/\v=.ref p/\(∀xs,SqL K H a xs->xs[i]? =some x)/\H'=bP H p (.tup [.int i,x]),
   fun i H=>∃xs,SqL K H a xs/\xs.length=i⟩
def Bv(a e it:Addr)(i:Nat)(h:Heap):Prop:=(∃old,IsEnum h e it i old)/\h.IsListIter it a i
theorem qm{P:CQ}{w:D4}{K:Cq}{elts:List Expr}{kk:Nat}{tp:Pos}(a e it:Addr)(ne:e≠it):Turn P w K (.Tuple elts kk tp) (Bm K a) [e,it] e (Bv a e it) where
 mem:=by simp
 obj:=fun i h st b hb=>by
  obtain⟨⟨old,he⟩,t1⟩:=st;obtain⟨o1,e1,v1,d1⟩:=Src.at_obj (c:=.lst a) t1;simp only[CM,D9,or_false]at hb;rcases hb with rfl|rfl;·exact⟨_,he,fun v q=>by cases (show GW _=Fq v from q)⟩
  ·exact⟨_,e1,fun v q=>by rw[d1]at q;cases q⟩
 keep:=fun i h h' st k=>by
  obtain⟨⟨old,he⟩,t1⟩:=st;exact⟨⟨old,k e (by simp) _ he⟩,Src.at_keep (c:=.lst a) t1 (k it (by simp))⟩
 item:=by
  intro X hP hw hK hc i pins s σ H E I hf st hg;subst hP hw hK;obtain⟨xs,x,hx,ex⟩:=hg;obtain⟨⟨old,he⟩,t1⟩:=st;have hh:X.A.in1.handled=none:=I.ok.hd hc;obtain⟨fp1,P1,S1,D1,u1,r1,a1,_,g1⟩:=Src.draws (A:=X.A.in1) (c:=.lst a) hh I hx t1 (hf it (by simp)).1;have nof:e∉fp1:=fun m=>by
   rcases g1 e m with q|q|⟨o,q⟩
   ·exact ne q
   ·exact q (hf e (by simp)).1
   ·rcases (hf e (by simp)).2.2.2.1 with y | y;·exact I.ok.noex e o q y
    ·exact absurd (CA (CA (CD q) I.ok.bsz) y)<|Di _
  refine wpAny_pyNext_enum_itemD D1 he u1 (Cy.mp ex).1 ne nof fun vx h' tk px ho w1 hTp hsz kp=>?_;obtain⟨x',ex',rx⟩:=r1 i vx px;rw[ex]at ex';cases ex';have nT:H s.heap.objs.size=none:=I.hok.fresh<|CK _;refine⟨_,rfl,wpAny_letOwnedTupleGo_enum ho fun h2 he2 sb=>?_⟩;have lt:∀{c o},s.heap.get? c=some o->c≠s.heap.objs.size:=fun e=>CN<|CD e;have kp2:∀b o,b∉[e,it]->s.heap.get? b=some o->h2.get? b=some o:=fun b o hb q=>by
   simp only[CM,D9,or_false,not_or]at hb;exact(sb.2 b hb.1).trans (kp b o hb.1 hb.2 q)
  have f9:∀b u,H b=some u->b∉[e,it]/\b≠s.heap.objs.size:=fun b u q=>⟨fun hb=>(by rw[(hf b hb).1]at q;cases q),fun z=>(by rw[z,nT]at q;cases q)⟩
  have I2:Inv X pins σ (bP H s.heap.objs.size<|.tup [.int i,x]) {s with heap:=h2,gens:=s.gens,drawn:=s.drawn,toks:=tk+1}:=by
   refine I.step (g':=s.gens) (d':=s.drawn) (t':=tk+1) (ch:=[e,it]) (fun b hb=>⟨(hf b hb).2.2.2.1,(hf b hb).2.1,(hf b hb).2.2.2.2.1,(hf b hb).2.2.2.2.2⟩) (fun b o _ _ hb q _=>kp2 b o hb q) (fun b o _ _ hb q _=>⟨o.slots,kp2 b o hb q⟩)
    (fun b o hb q n=>by rw[ag<|lt q];exact n) (fun b o hb q=>⟨o,kp2 b o hb q⟩) (fun b xs q=>by rw[ag (f9 b _ q).2];exact q) (fun b o u q=>by rw[ag (f9 b _ q).2];exact q) (fun b ps q=>⟨#[],by rw[ag (f9 b _ q).2,q];simp⟩) (fun m hm=>?_) (fun b u q=>?_) I.bare
   ·obtain⟨o,es,ep,ho',r⟩:=hm;exact⟨o,es,ep,kp2 _ o (fun hb=>(hf _ hb).2.1 rfl) ho',r⟩
   ·by_cases hb:b=s.heap.objs.size
    ·subst hb;rw[ai]at q;cases q;refine⟨(by show 2<=sizeLine;rw[DK];decide),[.int i tk,vx],.cons ⟨_,rfl⟩<|.cons rx .nil,⟨_,(sb.2 _ ?_).trans hTp,⟨rfl,rfl⟩,_,rfl⟩⟩;exact fun z=>lt he z.symm
    ·rw[ag hb]at q;refine(I.hok b u q).stay (fun c v hc z=>kp2 c v ?_ z) (fun c z=>by rw[ag (f9 c _ z).2];exact z) fun c xs z=>by rw[ag (f9 c _ z).2];exact z
     rcases hc with z|z;·rw[z];exact(f9 b u q).1
     ·exact(f9 c _ z).1
  refine⟨.ref s.heap.objs.size,_,I2,rfl,⟨_,x,nT,rfl,fun xs' h=>by rw[I.list_inj h hx];exact ex,rfl⟩,⟨⟨_,by simpa using he2⟩,Src.at_keep (c:=.lst a) (a1 _ _ w1) fun o q=>(sb.2 _<|E8 ne).trans q⟩,fun b hb=>?_⟩;have hbT:b≠s.heap.objs.size:=by
   obtain⟨o1,e1,_⟩:=Src.at_obj (c:=.lst a) t1;simp only[CM,D9,or_false]at hb;rcases hb with rfl|rfl;·exact lt he
   ·exact lt e1
  rw[ag hbT];exact(hf b hb).1
 done:=by
  intro X hP hw hK hc i pins s σ H E I hf st hg;subst hP hw hK;obtain⟨xs,hx,hl⟩:=hg;obtain⟨⟨old,he⟩,t1⟩:=st;have hh:X.A.in1.handled=none:=I.ok.hd hc;obtain⟨fp1,P1,S1,D1,u1,r1,a1,_,g1⟩:=Src.draws (A:=X.A.in1) (c:=.lst a) hh I hx t1 (hf it (by simp)).1;subst hl;obtain⟨f0,f1,f2,f3,f4,f5⟩:=hf it (by simp);exact wpAny_pyNext_enum_endD D1 he u1 fun h' hx'=>⟨rfl,I.turned (t':=s.toks) (fun b o hb q=>hx' b o hb q) f0 f1 f3 f4 f5⟩
 self:=fun _ _ _ _ _ st h=>by obtain⟨⟨old,he⟩,_⟩:=st;exact J4 he h
def xo(K:Cq)(t:TA):TI:=fun σ H R=>t σ H fun vs H1=>∃a xs,vs=[.ref a]/\SqL K H1 a xs/\R (Bm K a) H1
theorem oQ{X:Cx}{K:Cq}(hK:X.K=K){b:Expr}{ta:TA}{p pos tp:Pos}{elts:List Expr}{kk:Nat}(hg:Gl X "enumerate")(hm:X.mg "enumerate"=none)(ha:PA X [b] ta)(hs:starEach [b] X.env=[(false,eval b X.env)]:=by rfl):
  PI X (.Tuple elts kk tp) (.Call (.Name "enumerate" p) [b] [] pos) (xo K ta):=by
 subst hK;intro pins s σ H R I h;refine Call_<|gC I hg hm boot_enumerate<|Eo (bL (ha pos pins s σ H _ I h) fun us s1⟨vs,H1,I1,r1,q1⟩=>?_) hs rfl;obtain⟨a,xs,e,h1,q⟩:=q1;subst e;obtain⟨v1,rfl,ra⟩:=gP r1;cases ra;obtain⟨its,rv,pl,hz⟩:=I1.list h1;refine call_enumerate_list pl.isList fun h' he hi hsz kp=>?_;refine J4 he ?_;refine⟨s1.heap.objs.size+1,[s1.heap.objs.size+1,s1.heap.objs.size],_,_,H1,rfl,I1.kept (t':=s1.toks) kp,qm a _ _ (iJ s1.heap.objs.size 1 0 (by decide)),⟨⟨_,he⟩,hi⟩,fun b hb=>?_,q⟩;have hb':s1.heap.objs.size<=b:=by
  simp only[CM,D9,or_false]at hb;rcases hb with z|z<;>rw[z]
  ·exact Eb _ 1
  ·exact CK _
 exact I1.fpOk hb'<|I1.hok.fresh hb'
end L2
open L2.Keep renaming get->Ld
open L2.Src renaming at_keep->Gp,at_obj->GS,draws->Hq,iter->Kx,inj->KY
namespace Wb
open PySem L2
abbrev Rp(α:Type):=Hp->α->V->Prop
class Mono{α:Type}(R:Rp α):Prop where
 mono:∀{H H':Hp}{m:α}{v:V},Same H H'->R H m v->R H' m v
def LR{α:Type}(R:Rp α)(H:Hp)(ms:List α)(vs:List V):Prop:=vs.length=ms.length/\∀(i:Nat)(v:V)(m:α),vs[i]? =some v->ms[i]? =some m->R H m v
theorem LR.nil{α:Type}{R:Rp α}{H:Hp}:LR R H [] []:=⟨rfl,fun i v m e=>by simp at e⟩
theorem LR.same{α:Type}{R:Rp α}[Mono R]{H H':Hp}{ms:List α}{vs:List V}(h:LR R H ms vs)(e:Same H H'):LR R H' ms vs:=⟨h.1,fun i v m a b=>Mono.mono e<|h.2 i v m a b⟩
theorem LR.snoc{α:Type}{R:Rp α}{H:Hp}{ms:List α}{vs:List V}{m:α}{v:V}(h:LR R H ms vs)(r:R H m v):LR R H (ms++[m]) (vs++[v]):=by
 refine⟨by simp[h.1],fun i v' m' a b=>?_⟩;by_cases hi:i<vs.length
 ·rw[Dg hi]at a;rw[Dg (by rw[<-h.1];exact hi)]at b;exact h.2 i v' m' a b
 ·rw[Dc (by omega)]at a;rw[Dc (by rw[<-h.1];omega)]at b;rw[<-h.1]at b;cases e:i-vs.length with
  |zero=>rw[e]at a b;simp at a b;subst a b;exact r
  |succ n=>rw[e]at a;simp at a
theorem LR.get{α:Type}{R:Rp α}{H:Hp}{ms:List α}{vs:List V}{i:Nat}{m:α}(h:LR R H ms vs)(e:ms[i]? =some m):∃v,vs[i]? =some v/\R H m v:=by
 have hi:i<vs.length:=by rw[h.1];exact(Cy.mp e).1
 exact⟨vs[i],by simp[hi],h.2 i _ m (by simp[hi]) e⟩
theorem LR.got{α:Type}{R:Rp α}{H:Hp}{ms:List α}{vs:List V}{i:Nat}{v:V}(h:LR R H ms vs)(e:vs[i]? =some v):∃m,ms[i]? =some m/\R H m v:=by
 have hi:i<ms.length:=by rw[<-h.1];exact(Cy.mp e).1
 exact⟨ms[i],by simp[hi],h.2 i v _ e (by simp[hi])⟩
def isL{α:Type}(R:Rp α):Rp (List α):=fun H ms v=>∃p vs,v=.ref p/\H p=some (.lst vs)/\LR R H ms vs
instance zkeep1{α:Type}{R:Rp α}[Mono R]:Mono (isL R):=⟨fun e⟨p,vs,h1,h2,h3⟩=>⟨p,vs,h1,e _ _ h2,h3.same e⟩⟩
def isS:Rp (List Nat):=fun _ l v=>v=.str (sOf l)
instance zkeep2:Mono isS:=⟨fun _ h=>h⟩
def isI:Rp Int:=fun _ l v=>v=.int l
instance zkeep4:Mono isI:=⟨fun _ h=>h⟩
theorem LR.str{H:Hp}{ms:List (List Nat)}{vs:List V}(h:LR isS H ms vs):vs=ms.map fun l=>FZ (sOf l):=by
 refine EK fun i=>?_;rw[DJ];cases e:ms[i]? with
 |none=>rw[DB]at e;rw[DB.mpr (by rw[h.1];exact e)];rfl
 |some m=>obtain⟨v,a,b⟩:=h.get e;rw[a];cases b;rfl
end Wb
open Wb.Mono renaming mono->Cp
namespace L2
open PySem PySem.Spec PyProof.Rows
section
variable{X:Cx}{K:Cq}{w:D4}
theorem cX(h:X.K=K):eg X (.type "list") (fun xs H Q=>∃p ys,xs=[.ref p]/\(SqL K H p ys\/SqT K H p ys)/\∀l,H l=none->Q (.ref l) (bP H l<|.lst ys)):=h▸la
end
end L2
namespace Wb
open PySem L2
theorem LR.take{α:Type}{R:Rp α}{H:Hp}{ms:List α}{vs:List V}(h:LR R H ms vs)(k:Nat):LR R H (ms.take k) (vs.take k):=by
 refine⟨by simp[h.1],fun i v m a b=>?_⟩;rw[List.getElem?_take]at a b;split at a;·rw[if_pos (by assumption)]at b;exact h.2 i v m a b
 ·cases a
theorem LR.drop{α:Type}{R:Rp α}{H:Hp}{ms:List α}{vs:List V}(h:LR R H ms vs)(k:Nat):LR R H (ms.drop k) (vs.drop k):=by
 refine⟨by simp[h.1],fun i v m a b=>?_⟩;rw[List.getElem?_drop]at a b;exact h.2 _ v m a b
theorem none_of{H H':Hp}{p:Addr}(e:Same H H')(h:H' p=none):H p=none:=by
 cases z:H p with
 |none=>rfl
 |some x=>have:=e _ _ z;rw[h]at this;cases this
theorem qo{H H3:Hp}{p:Addr}{o:HO}(e:Same H H3)(h:H p=none):Same H (bP H3 p o):=fun a u z=>by
 rw[ag<|bV z h];exact e _ _ z
end Wb
namespace L2
open PySem PySem.Spec PyProof.Rows
section
variable{X:Cx}{K:Cq}{w:D4}
theorem qp(hc:X.calm=true)(h:X.K=K):eg X (.builtin "sum") (fun xs H Q=>∃(p:Addr)(ns:List Int),xs=[.ref p]/\SqL K H p (ns.map G8)/\Q (.int ns.sum) H):=by
 subst h;intro pins s σ H xs us Q I r h;obtain⟨p,ns,rfl,hq,q⟩:=h;obtain⟨u,rfl,rx⟩:=gP r;cases rx;obtain⟨its,r',pl,hz⟩:=I.list hq;have hi:=ny r';obtain⟨xs,hx⟩:=hi.allInts.items;have hl':s.heap.IsList p (intItems xs):=hx▸pl.isList;refine sum_intListG (I.ok.hd hc) hl' fun h' tk t' hk=>?_;have e1:ns=xs.toList.map (·.1):=by
  rw[<-nums_intItems,<-hx];exact(show numsOf its.toArray.toList=ns from hi.numsOf).symm
 have e2:preSum (numAt xs) xs.size=ns.sum:=by
  rw[preSum_eq,Hy (by simp),e1]
 rw[e2];exact⟨.int ns.sum,H,I.kept hk,⟨_,rfl⟩,q⟩
end
theorem kE{α β:Type}{F:α->β->Prop}:∀{l₁:List α}{l₂:List β},Paired F l₁ l₂->∀{j:Nat}{b:β},l₂[j]? =some b->∃a,l₁[j]? =some a/\F a b
 |_,_,.nil,j,b,h=>by simp at h
 |_,_,.cons r rs,0,b,h=>by simp at h;subst h;exact⟨_,rfl,r⟩
 |_,_,.cons r rs,j+1,b,h=>by simp at h;obtain⟨a,h1,h2⟩:=kE rs h;exact⟨a,by simpa using h1,h2⟩
end L2
namespace L2
theorem jn{k:Nat}{A:De}(r:Room k A):A.units+1<PySem.cLine:=by have:=r.un;omega
end L2
namespace L2
open PySem PySem.Spec PyProof.Rows
abbrev bX(h:Heap)(T:Addr)(a b c:Cr):Prop:=h.get? T=some {cls:=.type "tuple",data:=.seq #[a,b,c]}
def zu(h:Heap)(o1 o2 o3:Obj):Heap:=(((h.push o1).push o2).push o3).push {cls:=.type "tuple",data:=.seq #[.ref h.objs.size,.ref (h.push o1).objs.size,.ref ((h.push o1).push o2).objs.size]}
def zv(h:Heap)(o1 o2 o3:Obj):Heap:=(zu h o1 o2 o3).push {cls:=.type "tuple",data:=.seq #[.none,.none,.none]}
def xW(h:Heap)(o1 o2 o3:Obj):Heap:=(zv h o1 o2 o3).push {cls:=.type "zip",data:=.fields #[.none,.bool false,.bool false,.ref (((h.push o1).push o2).push o3).objs.size,.ref (zu h o1 o2 o3).objs.size]}
theorem jP(v1 v2 v3:Cr)(o1 o2 o3:Obj):Meets (Jm.«zip.__new__» ⟨[.type "zip",v1,v2,v3],[]⟩) (fun _ R s=>eE v1 s.heap o1/\eE v2 (s.heap.push o1) o2/\eE v3 ((s.heap.push o1).push o2) o3/\R (.ok<|.ret<|.ref (zv s.heap o1 o2 o3).objs.size) {s with heap:=xW s.heap o1 o2 o3}):=
 .of_wp fun prog w A R s h=>by
  obtain⟨hp,g,d,tk,os⟩:=s;obtain⟨i1,i2,i3,h⟩:=h;have hsub:=sub_zip;have j1:=fun(A:De)(E:Cr->Cu->Prop)(Q:Cr->Cu->Prop)(q:Q _ _)=>i1 prog w A E Q ⟨hp,g,d,tk,os⟩ rfl q;have j2:=fun(A:De)(E:Cr->Cu->Prop)(Q:Cr->Cu->Prop)(q:Q _ _)=>i2 prog w A E Q ⟨hp.push o1,g,d,tk,os⟩ rfl q;have j3:=fun(A:De)(E:Cr->Cu->Prop)(Q:Cr->Cu->Prop)(q:Q _ _)=>i3 prog w A E Q ⟨(hp.push o1).push o2,g,d,tk,os⟩ rfl q
  wp_walk using j1 _ _ _,j2 _ _ _,j3 _ _ _
  exact⟨_,rfl,h⟩
theorem jo(a b c:Cr):checkTypeCall "zip" ⟨[a,b,c],[]⟩=pure ():=by kernel_rfl
theorem jQ(a b c:Cr):checkBuiltinCall "zip.__new__" ⟨[.type "zip",a,b,c],[]⟩=pure ():=by kernel_rfl
theorem gG(a b c d:Cr):argsOk "object.__init__" ⟨[a,b,c,d],[]⟩:=by
 unfold argsOk;rw[PySem.signature?_of (id:="object.__init__") (n:=['_','_','t','i','n','i','_','_']) (o:=['t','c','e','j','b','o']) (by kernel_rfl) PySem.F.owner_object];kernel_rfl
theorem qq{P:CQ}{w:D4}{A:De}{E:Cr->Cu->Prop}{s:Cu}{v1 v2 v3:Cr}{o1 o2 o3:Obj}{Q:Cr->Cu->Prop}(i1:eE v1 s.heap o1)(i2:eE v2 (s.heap.push o1) o2)(i3:eE v3 ((s.heap.push o1).push o2) o3)
  (f1:o1.isFreed=false) (f2:o2.isFreed=false) (f3:o3.isFreed=false)
  (q:∀h',Fi h' (s.heap.objs.size+5) (s.heap.objs.size+3) (s.heap.objs.size+4) .none->bX h' (s.heap.objs.size+3) (.ref s.heap.objs.size) (.ref<|s.heap.objs.size+1) (.ref<|s.heap.objs.size+2)->bX h' (s.heap.objs.size+4) .none .none .none->
   h'.get? s.heap.objs.size=some o1->h'.get? (s.heap.objs.size+1)=some o2->h'.get? (s.heap.objs.size+2)=some o3->(∀c o,s.heap.get? c=some o->h'.get? c=some o)->Q (.ref (s.heap.objs.size+5)) {s with heap:=h'}):
  wpAny (model P w) A (call (.type "zip") [v1,v2,v3]) Q E s:=by
 refine callType_new IB (by decide) (jo _ _ _) (jQ _ _ _) (fun obj=>gG obj _ _ _) HK (jP v1 v2 v3 o1 o2 o3) ⟨i1,i2,i3,?_⟩;have z1:(s.heap.push o1).objs.size=s.heap.objs.size+1:=Dj ..;have z2:((s.heap.push o1).push o2).objs.size=s.heap.objs.size+2:=by rw[Dj,z1]
 have z3:(((s.heap.push o1).push o2).push o3).objs.size=s.heap.objs.size+3:=by rw[Dj,z2]
 have z4:(zu s.heap o1 o2 o3).objs.size=s.heap.objs.size+4:=by unfold zu;rw[Dj,z3]
 have z5:(zv s.heap o1 o2 o3).objs.size=s.heap.objs.size+5:=by unfold zv;rw[Dj,z4]
 have g6:(xW s.heap o1 o2 o3).get? (zv s.heap o1 o2 o3).objs.size=some _:=CF _ rfl;have g5:(xW s.heap o1 o2 o3).get? (zu s.heap o1 o2 o3).objs.size=some _:=Cs _<|CF _ rfl;have g4:(xW s.heap o1 o2 o3).get? (((s.heap.push o1).push o2).push o3).objs.size=some _:=Cs _<|Cs _<|CF _ rfl;have g3:(xW s.heap o1 o2 o3).get? ((s.heap.push o1).push o2).objs.size=some o3:=Cs _<|Cs _<|Cs _<|CF _ f3;have g2:(xW s.heap o1 o2 o3).get? (s.heap.push o1).objs.size=some o2:=Cs _<|Cs _<|Cs _<|Cs _<|CF _ f2;have g1:(xW s.heap o1 o2 o3).get? s.heap.objs.size=some o1:=Cs _<|Cs _<|Cs _<|Cs _<|Cs _<|CF _ f1;show _/\_;rw[z3,z4,z5]at g6;rw[z1,z2,z3]at g4;rw[z4]at g5;rw[z2]at g3;rw[z1]at g2;rw[z5];exact⟨⟨_,g6,rfl⟩,q _ g6 g4 g5 g1 g2 g3 fun c o x=>Cs _<|Cs _<|Cs _<|Cs _<|Cs _<|Cs _ x⟩
section
variable{P:CQ}{w:D4}{A:De}{E:Cr->Cu->Prop}{s:Cu}{z TI TO i1 i2 i3:Addr}{fp1 fp2 fp3:List Addr}{n1 n2 n3 k:Nat}{P1 P2 P3:Nat->Cr->Prop}{S1 S2 S3:Nat->Heap->Prop}{a b c:Cr}
theorem bF{T:Addr}{a b c x:Cr}{k:Nat}{Q:Unit->Cu->Prop}(hT:bX s.heap T a b c)
  (h:∀h',h'.get? T=some {cls:=.type "tuple",data:=.seq ((#[a,b,c]:Array Cr).setIfInBounds k x)}->CT T s.heap h'->Q () {s with heap:=h'}):
  wpAny (model P w) A (updateSeq T (·.setIfInBounds k x)) Q E s:=by
 refine wpAny_updateSeq hT rfl<|h _ ?_<|FI ..;rw[DT _ hT rfl];simp[GL]
structure ZApart3(z TI TO i1 i2 i3:Addr)(fp1 fp2 fp3:List Addr):Prop where
 c1:TI≠z
 c2:TO≠z
 c3:i1≠z
 c4:i2≠z
 c4':i3≠z
 c5:TI≠TO
 c6:TI≠i1
 c7:TI≠i2
 c7':TI≠i3
 c8:TO≠i1
 c9:TO≠i2
 c9':TO≠i3
 d1:z∉fp1/\TO∉fp1/\i2∉fp1/\i3∉fp1
 d2:z∉fp2/\TO∉fp2/\i1∉fp2/\i3∉fp2
 d3:z∉fp3/\TO∉fp3/\i1∉fp3/\i2∉fp3
theorem qr{Q:Option Cr->Cu->Prop}(D1:HD P w A.in1 i1 fp1 n1 P1 S1)(D2:HD P w A.in1 i2 fp2 n2 P2 S2)(D3:HD P w A.in1 i3 fp3 n3 P3 S3)(Z:ZApart3 z TI TO i1 i2 i3 fp1 fp2 fp3)(h1:k<n1)(h2:k<n2)(h3:k<n3)(hz:Fi s.heap z TI TO .none)
  (hI:bX s.heap TI (.ref i1) (.ref i2) (.ref i3)) (hO:bX s.heap TO a b c) (t1:S1 k s.heap) (t2:S2 k s.heap) (t3:S3 k s.heap)
  (q:∀x y u h' tk T,P1 k x->P2 k y->P3 k u->T=s.heap.objs.size->Fi h' z TI TO (rawInt T)->bX h' TO x y u->S1 (k+1) h'->S2 (k+1) h'->S3 (k+1) h'->bX h' T x y u->
   (∀c o,c≠z->c≠TO->c≠i1->c≠i2->c≠i3->s.heap.get? c=some o->h'.get? c=some o)->Q (some (.ref T)) {s with heap:=h',toks:=tk}):
  wpAny (model P w) A (pyNext<|.ref z) Q E s:=by
 have hT:s.TypeIs (.ref z) "zip":=⟨_,hz,rfl⟩
 unfold pyNext;refine Co<|F8<|DH (name:=Cv "__next__") hT DU<|En DU hT Fn ?_<|Fe _;obtain⟨hp,gg,dd,tk0,os⟩:=s;show wpAny (model P w) _ (field (.ref z) 2>>=_) _ _ _;refine Co<|D6 hz rfl (x:=.bool false) rfl ?_;show wpAny (model P w) _ (field (.ref z) 3>>=_) _ _ _;refine Co<|D6 hz rfl (x:=.ref TI) rfl<|Co<|Du hI rfl ?_;show wpAny (model P w) _ (Dd (.ref z)>>=_) _ _ _;refine Co ?_;unfold Dd;refine Co<|D6 hz rfl (x:=.none) rfl<|CC ?_;simp only[if_true];refine Co (Ga (Co (D6 hz rfl (x:=.ref TO) rfl (Co (Dv hz (by simp) fun g1 y1 b1=>?_)))));replace y1:Fi g1 z TI TO .ellipsis:=y1;replace b1:CT z hp g1:=b1;refine Co ?_;simp only[Gb,Gx,FO,G5];refine Co<|Co<|EE ?_;show wpAny (model P w) _ (CV (.ref i1)>>=_) _ _ _;refine Co<|D1.item k _ _ _ h1 (ak D1 t1 b1 Z.d1.1) fun x g2 tk2 px u1 b2=>CC ?_;replace b2:CT i1 g1 g2:=b2;have O2:bX g2 TO a b c:=b2.extBut _ _ Z.c8<|b1.extBut _ _ Z.c2 hO;refine Co<|Du O2 rfl<|Co<|bF O2 fun g3 O3 b3=>?_;replace O3:bX g3 TO x b c:=O3;replace b3:CT TO g2 g3:=b3;refine Co<|FC<|CC<|Co<|Co<|EE ?_;show wpAny (model P w) _ (CV (.ref i2)>>=_) _ _ _;refine Co<|D2.item k _ _ _ h2 (ak D2 (ak D2 (ak D2 t2 b1 Z.d2.1) b2 Z.d2.2.2.1) b3 Z.d2.2.1) fun y g4 tk4 py u2 b4=>CC ?_;replace b4:CT i2 g3 g4:=b4;have O4:bX g4 TO x b c:=b4.extBut _ _ Z.c9 O3;refine Co<|Du O4 rfl<|Co<|bF O4 fun g5 O5 b5=>?_;replace O5:bX g5 TO x y c:=O5;replace b5:CT TO g4 g5:=b5;refine Co<|FC<|CC<|Co<|Co<|EE ?_;show wpAny (model P w) _ (CV (.ref i3)>>=_) _ _ _;refine Co<|D3.item k _ _ _ h3 (ak D3 (ak D3 (ak D3 (ak D3 (ak D3 t3 b1 Z.d3.1) b2 Z.d3.2.2.1) b3 Z.d3.2.1) b4 Z.d3.2.2.2) b5 Z.d3.2.1) fun u g6 tk6 pu u3 b6=>CC ?_;replace b6:CT i3 g5 g6:=b6;have O6:bX g6 TO x y c:=b6.extBut _ _ Z.c9' O5;refine Co<|Du O6 rfl<|Co<|bF O6 fun g7 O7 b7=>?_;replace O7:bX g7 TO x y u:=O7;replace b7:CT TO g6 g7:=b7;refine Co<|FC<|CC<|CC<|Co<|Du O7 rfl<|Co<|Jy ?_;have sz:g7.objs.size=hp.objs.size:=by rw[b7.1,b6.1,b5.1,b4.1,b3.1,b2.1,b1.1]
 have y7:Fi g7 z TI TO .ellipsis:=b7.extBut _ _ Z.c2.symm<|b6.extBut _ _ Z.c4'.symm<|b5.extBut _ _ Z.c2.symm<|b4.extBut _ _ Z.c4.symm<|b3.extBut _ _ Z.c2.symm<|b2.extBut _ _ Z.c3.symm y1;have k7:∀c o,c≠z->c≠TO->c≠i1->c≠i2->c≠i3->hp.get? c=some o->g7.get? c=some o:=fun c o e1 e2 e3 e4 e5 e=>b7.extBut _ _ e2<|b6.extBut _ _ e5<|b5.extBut _ _ e2<|b4.extBut _ _ e4<|b3.extBut _ _ e2<|b2.extBut _ _ e3<|b1.extBut _ _ e1 e;have v1:S1 (k+1) g7:=ak D1 (ak D1 (ak D1 (ak D1 (ak D1 u1 b3 Z.d1.2.1) b4 Z.d1.2.2.1) b5 Z.d1.2.1) b6 Z.d1.2.2.2) b7 Z.d1.2.1;have v2:S2 (k+1) g7:=ak D2 (ak D2 (ak D2 u2 b5 Z.d2.2.1) b6 Z.d2.2.2.2) b7 Z.d2.2.1;have v3:S3 (k+1) g7:=ak D3 u3 b7 Z.d3.2.1;have lz:z<g7.objs.size:=CD y7;show wpAny (model P w) _ (Ee (.ref z) (.ref g7.objs.size)>>=_) _ _ _;refine Co ?_;unfold Ee;have y8:Fi (g7.push {cls:=.type "tuple",data:=.seq #[x,y,u]}) z TI TO .ellipsis:=Cs _ y7;refine Co (Dv y8 (by simp) fun g9 y9 b9=>?_);replace y9:Fi g9 z TI TO (rawInt g7.objs.size):=y9;replace b9:CT z (g7.push {cls:=.type "tuple",data:=.seq #[x,y,u]}) g9:=b9;refine Dv y9 (by simp) fun g10 y10 b10=>?_;replace y10:Fi g10 z TI TO (rawInt g7.objs.size):=y10;replace b10:CT z g9 g10:=b10;have up:∀c o,c≠z->g7.get? c=some o->g10.get? c=some o:=fun c o e1 e=>b10.extBut _ _ e1<|b9.extBut _ _ e1<|Cs _ e;have T8:bX g10 g7.objs.size x y u:=b10.extBut _ _ (Et lz)<|b9.extBut _ _ (Et lz)<|CF _ rfl;refine CC ⟨_,rfl,CC<|q x y u g10 _ g7.objs.size px py pu sz y10 (up _ _ Z.c2 O7) (D1.frame _ _ _ v1 fun b hb o e=>up b o (fun q=>Z.d1.1<|q▸hb) e) (D2.frame _ _ _ v2 fun b hb o e=>up b o (fun q=>Z.d2.1<|q▸hb) e) (D3.frame _ _ _ v3 fun b hb o e=>up b o (fun q=>Z.d3.1<|q▸hb) e) T8 fun c o e1 e2 e3 e4 e5 e=>up c o e1<|k7 c o e1 e2 e3 e4 e5 e⟩
theorem sF{Q:Option Cr->Cu->Prop}(hh:A.handled=none)(D1:HD P w A.in1 i1 fp1 n1 P1 S1)(D2:HD P w A.in1 i2 fp2 n2 P2 S2)(D3:HD P w A.in1 i3 fp3 n3 P3 S3)(Z:ZApart3 z TI TO i1 i2 i3 fp1 fp2 fp3)(hk:k=n1\/(k<n1/\k=n2)\/(k<n1/\k<n2/\k=n3))(hz:Fi s.heap z TI TO .none)
  (hI:bX s.heap TI (.ref i1) (.ref i2) (.ref i3)) (hO:bX s.heap TO a b c) (t1:S1 k s.heap) (t2:S2 k s.heap) (t3:S3 k s.heap)
  (q:∀h' tk,(∀c o,c≠z->c≠TO->c≠i1->c≠i2->c≠i3->s.heap.get? c=some o->h'.get? c=some o)->Q none {s with heap:=h',toks:=tk}):
  wpAny (model P w) A (pyNext<|.ref z) Q E s:=by
 have hT:s.TypeIs (.ref z) "zip":=⟨_,hz,rfl⟩
 unfold pyNext;refine Co<|F8<|DH (name:=Cv "__next__") hT DU<|En DU hT Fn ?_<|Fe _;obtain⟨hp,gg,dd,tk0,os⟩:=s;show wpAny (model P w) _ (field (.ref z) 2>>=_) _ _ _;refine Co<|D6 hz rfl (x:=.bool false) rfl ?_;show wpAny (model P w) _ (field (.ref z) 3>>=_) _ _ _;refine Co<|D6 hz rfl (x:=.ref TI) rfl<|Co<|Du hI rfl ?_;show wpAny (model P w) _ (Dd (.ref z)>>=_) _ _ _;refine Co ?_;unfold Dd;refine Co<|D6 hz rfl (x:=.none) rfl<|CC ?_;simp only[if_true];refine Co (Ga (Co (D6 hz rfl (x:=.ref TO) rfl (Co (Dv hz (by simp) fun g1 y1 b1=>?_)))));replace y1:Fi g1 z TI TO .ellipsis:=y1;replace b1:CT z hp g1:=b1;refine Co ?_;simp only[Gb,Gx,FO,G5];refine Co<|Co<|EE ?_;show wpAny (model P w) _ (CV (.ref i1)>>=_) _ _ _;rcases hk with hk|hk
 ·subst hk;refine Co<|D1.done _ _ _ (ak D1 t1 b1 Z.d1.1) fun g2 e b2 he=>?_;obtain⟨oe,hoe,hce⟩:=he;replace b2:F4 i1 g1 g2:=b2;have y2:Fi g2 z TI TO .ellipsis:=b2 _ _ Z.c3.symm y1;have ez:e≠z:=fun x=>by subst x;rw[y2]at hoe;cases hoe;simp at hce
  refine Dv y2 (by simp) fun g3 _ b3=>?_;exact Co<|ES (T:="StopIteration") (b:=true) ⟨oe,b3.extBut _ _ ez hoe,hce⟩ Ff<|CC<|q g3 _ fun c o e1 _ e3 _ _ x=>b3.extBut _ _ e1<|b2 _ _ e3<|b1.extBut _ _ e1 x
 ·have hk1:k< n1:=by rcases hk with z | z <;> exact z.1
  refine Co<|D1.item k _ _ _ hk1 (ak D1 t1 b1 Z.d1.1) fun x g2 tk2 px u1 b2=>CC ?_;replace b2:CT i1 g1 g2:=b2;have O2:bX g2 TO a b c:=b2.extBut _ _ Z.c8<|b1.extBut _ _ Z.c2 hO;refine Co<|Du O2 rfl<|Co<|bF O2 fun g3 O3 b3=>?_;replace b3:CT TO g2 g3:=b3;replace O3:bX g3 TO x b c:=O3;refine Co<|FC<|CC<|Co<|Co<|EE ?_;show wpAny (model P w) _ (CV (.ref i2)>>=_) _ _ _;rcases hk with⟨_,hk2⟩|⟨_,hk2,hk3⟩
  ·subst hk2;refine Co<|D2.done _ _ _ (ak D2 (ak D2 (ak D2 t2 b1 Z.d2.1) b2 Z.d2.2.2.1) b3 Z.d2.2.1) fun g4 e b4 he=>?_;obtain⟨oe,hoe,hce⟩:=he;replace b4:F4 i2 g3 g4:=b4;have y4:Fi g4 z TI TO .ellipsis:=b4 _ _ Z.c4.symm<|b3.extBut _ _ Z.c2.symm<|b2.extBut _ _ Z.c3.symm y1;have ez:e≠z:=fun x=>by subst x;rw[y4]at hoe;cases hoe;simp at hce
   refine Dv y4 (by simp) fun g5 _ b5=>?_;exact Co<|ES (T:="StopIteration") (b:=true) ⟨oe,b5.extBut _ _ ez hoe,hce⟩ Ff<|CC<|q g5 _ fun c o e1 e2 e3 e4 _ x=>b5.extBut _ _ e1<|b4 _ _ e4<|b3.extBut _ _ e2<|b2.extBut _ _ e3<|b1.extBut _ _ e1 x
  ·subst hk3;refine Co<|D2.item k _ _ _ hk2 (ak D2 (ak D2 (ak D2 t2 b1 Z.d2.1) b2 Z.d2.2.2.1) b3 Z.d2.2.1) fun y g4 tk4 py u2 b4=>CC ?_;replace b4:CT i2 g3 g4:=b4;have O4:bX g4 TO x b c:=b4.extBut _ _ Z.c9 O3;refine Co<|Du O4 rfl<|Co<|bF O4 fun g5 O5 b5=>?_;replace b5:CT TO g4 g5:=b5;refine Co<|FC<|CC<|Co<|Co<|EE ?_;show wpAny (model P w) _ (CV (.ref i3)>>=_) _ _ _;refine Co<|D3.done _ _ _ (ak D3 (ak D3 (ak D3 (ak D3 (ak D3 t3 b1 Z.d3.1) b2 Z.d3.2.2.1) b3 Z.d3.2.1) b4 Z.d3.2.2.2) b5 Z.d3.2.1) fun g6 e b6 he=>?_;obtain⟨oe,hoe,hce⟩:=he;replace b6:F4 i3 g5 g6:=b6;have y6:Fi g6 z TI TO .ellipsis:=b6 _ _ Z.c4'.symm<|b5.extBut _ _ Z.c2.symm<|b4.extBut _ _ Z.c4.symm<|b3.extBut _ _ Z.c2.symm<|b2.extBut _ _ Z.c3.symm y1;have ez:e≠z:=fun x=>by subst x;rw[y6]at hoe;cases hoe;simp at hce
   refine Dv y6 (by simp) fun g7 _ b7=>?_;exact Co<|ES (T:="StopIteration") (b:=true) ⟨oe,b7.extBut _ _ ez hoe,hce⟩ Ff<|CC<|q g7 _ fun c o e1 e2 e3 e4 e5 x=>b7.extBut _ _ e1<|b6 _ _ e5<|b5.extBut _ _ e2<|b4.extBut _ _ e4<|b3.extBut _ _ e2<|b2.extBut _ _ e3<|b1.extBut _ _ e1 x
end
def zw(K:Cq)(c1 c2 c3:Src):It:=
  ⟨fun i H=>∃xs ys us x y u,c1.has K H xs/\c2.has K H ys/\c3.has K H us/\xs[i]? =some x/\ys[i]? =some y/\us[i]? =some u,
   fun i H v H'=>∃p x y u,H p=none/\v=.ref p/\(∀xs,c1.has K H xs->xs[i]? =some x)/\(∀ys,c2.has K H ys->ys[i]? =some y)/\(∀us,c3.has K H us->us[i]? =some u)/\H'=bP H p (.tup [x,y,u]),
   fun i H=>∃xs ys us,c1.has K H xs/\c2.has K H ys/\c3.has K H us/\(i=xs.length\/(i<xs.length/\i=ys.length)\/(i<xs.length/\i<ys.length/\i=us.length))⟩
def B4(c1 c2 c3:Src)(z TI TO i1 i2 i3:Addr)(i:Nat)(h:Heap):Prop:=Fi h z TI TO .none/\bX h TI (.ref i1) (.ref i2) (.ref i3)/\(∃a b c,bX h TO a b c)/\c1.at i1 i h/\c2.at i2 i h/\c3.at i3 i h
structure ZIds3(z TI TO i1 i2 i3:Addr):Prop where
 c1:TI≠z
 c2:TO≠z
 c3:i1≠z
 c4:i2≠z
 c4':i3≠z
 c5:TI≠TO
 c6:TI≠i1
 c7:TI≠i2
 c7':TI≠i3
 c8:TO≠i1
 c9:TO≠i2
 c9':TO≠i3
 c10:i1≠i2
 c11:i1≠i3
 c12:i2≠i3
theorem oR{X:Cx}{pins:List (Addr×Obj)}{σ:St}{H:Hp}{s:Cu}{z TI TO i1 i2 i3:Addr}{fp1 fp2 fp3:List Addr}(I:Inv X pins σ H s)(Z:ZIds3 z TI TO i1 i2 i3)(hf:∀b∈[z,TI,TO,i1,i2,i3],FpOk X pins H b)
  (g1:∀b∈fp1,b=i1\/H b≠none\/∃o,X.base.get? b=some o) (g2:∀b∈fp2,b=i2\/H b≠none\/∃o,X.base.get? b=some o) (g3:∀b∈fp3,b=i3\/H b≠none\/∃o,X.base.get? b=some o):ZApart3 z TI TO i1 i2 i3 fp1 fp2 fp3:=by
 have no:∀b∈[z,TI,TO,i1,i2,i3],¬(H b≠none\/∃o,X.base.get? b=some o):=fun b hb q=>by
  rcases q with q|⟨o,q⟩
  ·exact q (hf b hb).1
  ·rcases (hf b hb).2.2.2.1 with y | y;·exact I.ok.noex b o q y
   ·exact absurd (CA (CA (CD q) I.ok.bsz) y)<|Di _
 refine⟨Z.c1,Z.c2,Z.c3,Z.c4,Z.c4',Z.c5,Z.c6,Z.c7,Z.c7',Z.c8,Z.c9,Z.c9',⟨fun m=>?_,fun m=>?_,fun m=>?_,fun m=>?_⟩,⟨fun m=>?_,fun m=>?_,fun m=>?_,fun m=>?_⟩,⟨fun m=>?_,fun m=>?_,fun m=>?_,fun m=>?_⟩⟩;·exact(g1 _ m).elim (fun e=>Z.c3 e.symm) (no z (by simp))
 ·exact(g1 _ m).elim (fun e=>Z.c8 e) (no TO (by simp))
 ·exact(g1 _ m).elim (fun e=>Z.c10 e.symm) (no i2 (by simp))
 ·exact(g1 _ m).elim (fun e=>Z.c11 e.symm) (no i3 (by simp))
 ·exact(g2 _ m).elim (fun e=>Z.c4 e.symm) (no z (by simp))
 ·exact(g2 _ m).elim (fun e=>Z.c9 e) (no TO (by simp))
 ·exact(g2 _ m).elim (fun e=>Z.c10 e) (no i1 (by simp))
 ·exact(g2 _ m).elim (fun e=>Z.c12 e.symm) (no i3 (by simp))
 ·exact(g3 _ m).elim (fun e=>Z.c4' e.symm) (no z (by simp))
 ·exact(g3 _ m).elim (fun e=>Z.c9' e) (no TO (by simp))
 ·exact(g3 _ m).elim (fun e=>Z.c11 e) (no i1 (by simp))
 ·exact(g3 _ m).elim (fun e=>Z.c12 e) (no i2 (by simp))
theorem qt{P:CQ}{w:D4}{K:Cq}{elts:List Expr}{kk:Nat}{tp:Pos}(c1 c2 c3:Src)(z TI TO i1 i2 i3:Addr)(Z:ZIds3 z TI TO i1 i2 i3):
  Turn P w K (.Tuple elts kk tp) (zw K c1 c2 c3) [z,TI,TO,i1,i2,i3] z (B4 c1 c2 c3 z TI TO i1 i2 i3) where
 mem:=by simp
 obj:=fun i h st b hb=>by
  obtain⟨hz,hI,⟨a,b',c',hO⟩,t1,t2,t3⟩:=st;obtain⟨o1,e1,v1,d1⟩:=GS t1;obtain⟨o2,e2,v2,d2⟩:=GS t2;obtain⟨o3,e3,v3,d3⟩:=GS t3;simp only[CM,D9,or_false]at hb;rcases hb with rfl|rfl|rfl|rfl|rfl|rfl;·exact⟨_,hz,fun v q=>by cases (show GW _=Fq v from q)⟩
  ·exact⟨_,hI,fun v q=>by cases (show Hg _ _=Fq v from q)⟩
  ·exact⟨_,hO,fun v q=>by cases (show Hg _ _=Fq v from q)⟩
  ·exact⟨_,e1,fun v q=>by rw[d1]at q;cases q⟩
  ·exact⟨_,e2,fun v q=>by rw[d2]at q;cases q⟩
  ·exact⟨_,e3,fun v q=>by rw[d3]at q;cases q⟩
 keep:=fun i h h' st k=>by
  obtain⟨hz,hI,⟨a,b',c',hO⟩,t1,t2,t3⟩:=st;exact⟨k z (by simp) _ hz,k TI (by simp) _ hI,⟨a,b',c',k TO (by simp) _ hO⟩,Gp t1 (k i1 (by simp)),Gp t2 (k i2 (by simp)),Gp t3 (k i3 (by simp))⟩
 item:=by
  intro X hP hw hK hc i pins s σ H E I hf st hg;subst hP hw hK;obtain⟨xs,ys,us,x,y,u,hx,hy,hu,ex,ey,eu⟩:=hg;obtain⟨hz,hI,⟨a,b',c',hO⟩,t1,t2,t3⟩:=st;have hh:X.A.in1.handled=none:=I.ok.hd hc;obtain⟨fp1,P1,S1,D1,u1,r1,a1,_,g1⟩:=Hq (A:=X.A.in1) hh I hx t1 (hf i1 (by simp)).1;obtain⟨fp2,P2,S2,D2,u2,r2,a2,_,g2⟩:=Hq (A:=X.A.in1) hh I hy t2 (hf i2 (by simp)).1;obtain⟨fp3,P3,S3,D3,u3,r3,a3,_,g3⟩:=Hq (A:=X.A.in1) hh I hu t3 (hf i3 (by simp)).1;have ZA:=oR I Z hf g1 g2 g3;refine qr D1 D2 D3 ZA (Cy.mp ex).1 (Cy.mp ey).1 (Cy.mp eu).1 hz hI hO u1 u2 u3 fun vx vy vu h' tk T px py pu hT hz' hO' w1 w2 w3 hTp kp=>?_;obtain⟨x',ex',rx⟩:=r1 i vx px;obtain⟨y',ey',ry⟩:=r2 i vy py;obtain⟨u',eu',ru⟩:=r3 i vu pu;rw[ex]at ex';cases ex';rw[ey]at ey';cases ey';rw[eu]at eu';cases eu';have nT:H T=none:=by rw[hT];exact I.hok.fresh<|CK _
  refine⟨_,rfl,GU hz' fun h2 hz2 sb=>?_⟩;have lt:∀{c o},s.heap.get? c=some o->c≠T:=fun e=>by rw[hT];exact CN<|CD e
  have up:∀c o,c≠z->h'.get? c=some o->h2.get? c=some o:=fun c o hc e=>(sb.2 c hc).trans e;have kp2:∀b o,b∉[z,TO,i1,i2,i3]->s.heap.get? b=some o->h2.get? b=some o:=fun b o hb e=>by
   simp only[CM,D9,or_false,not_or]at hb;exact up b o hb.1<|kp b o hb.1 hb.2.1 hb.2.2.1 hb.2.2.2.1 hb.2.2.2.2 e
  have ch:∀b∈[z,TO,i1,i2,i3],b∈[z,TI,TO,i1,i2,i3]:=fun b hb=>by
   simp only[CM,D9,or_false]at hb ⊢;rcases hb with h|h|h|h|h<;>simp[h]
  have f9:∀b u,H b=some u->b∉[z,TO,i1,i2,i3]/\b≠T:=fun b u e=>⟨fun hb=>(by rw[(hf b<|ch b hb).1]at e;cases e),fun q=>(by rw[q,nT]at e;cases e)⟩
  have I2:Inv X pins σ (bP H T<|.tup [x,y,u]) {s with heap:=h2,gens:=s.gens,drawn:=s.drawn,toks:=tk}:=by
   refine I.step (g':=s.gens) (d':=s.drawn) (t':=tk) (ch:=[z,TO,i1,i2,i3]) (fun b hb=>⟨(hf b<|ch b hb).2.2.2.1,(hf b<|ch b hb).2.1,(hf b<|ch b hb).2.2.2.2.1,(hf b<|ch b hb).2.2.2.2.2⟩) (fun b o _ _ hb e _=>kp2 b o hb e) (fun b o _ _ hb e _=>⟨o.slots,kp2 b o hb e⟩)
    (fun b o hb e n=>by rw[ag<|lt e];exact n) (fun b o hb e=>⟨o,kp2 b o hb e⟩) (fun b xs e=>by rw[ag (f9 b _ e).2];exact e) (fun b o u e=>by rw[ag (f9 b _ e).2];exact e) (fun b ps e=>⟨#[],by rw[ag (f9 b _ e).2,e];simp⟩) (fun m hm=>?_) (fun b u e=>?_) I.bare
   ·obtain⟨o,es,ep,ho,r⟩:=hm;exact⟨o,es,ep,kp2 _ o (fun hb=>(hf _<|ch _ hb).2.1 rfl) ho,r⟩
   ·by_cases hb:b=T
    ·subst hb;rw[ai]at e;cases e;refine⟨(by show 3<=sizeLine;rw[DK];decide),[vx,vy,vu],.cons rx<|.cons ry<|.cons ru .nil,⟨_,up _ _ ?_ hTp,⟨rfl,rfl⟩,_,rfl⟩⟩;exact fun q=>lt hz q.symm
    ·rw[ag hb]at e;refine(I.hok b u e).stay (fun c v hc q=>kp2 c v ?_ q) (fun c q=>by rw[ag (f9 c _ q).2];exact q) fun c xs q=>by rw[ag (f9 c _ q).2];exact q
     rcases hc with q|q;·rw[q];exact(f9 b u e).1
     ·exact(f9 c _ q).1
  refine⟨.ref T,_,I2,rfl,⟨T,x,y,u,nT,rfl,fun xs' h=>by rw[KY I h hx];exact ex,fun ys' h=>by rw[KY I h hy];exact ey,fun us' h=>by rw[KY I h hu];exact eu,rfl⟩,⟨hz2,up _ _ Z.c1<|kp _ _ Z.c1 Z.c5 Z.c6 Z.c7 Z.c7' hI,⟨_,_,_,up _ _ Z.c2 hO'⟩,Gp (a1 _ _ w1) fun o e=>up _ o Z.c3 e,Gp (a2 _ _ w2) fun o e=>up _ o Z.c4 e,Gp (a3 _ _ w3) fun o e=>up _ o Z.c4' e⟩,fun b hb=>?_⟩;have hbT:b≠T:=by
   obtain⟨o,e⟩:∃o,s.heap.get? b=some o:=by
    obtain⟨o1,e1,_⟩:=GS t1;obtain⟨o2,e2,_⟩:=GS t2;obtain⟨o3,e3,_⟩:=GS t3;simp only[CM,D9,or_false]at hb;rcases hb with rfl|rfl|rfl|rfl|rfl|rfl;·exact⟨_,hz⟩
    ·exact⟨_,hI⟩
    ·exact⟨_,hO⟩
    ·exact⟨_,e1⟩
    ·exact⟨_,e2⟩
    ·exact⟨_,e3⟩
   exact lt e
  rw[ag hbT];exact(hf b hb).1
 done:=by
  intro X hP hw hK hc i pins s σ H E I hf st hg;subst hP hw hK;obtain⟨xs,ys,us,hx,hy,hu,hend⟩:=hg;obtain⟨hz,hI,⟨a,b',c',hO⟩,t1,t2,t3⟩:=st;have hh:X.A.in1.handled=none:=I.ok.hd hc;obtain⟨fp1,P1,S1,D1,u1,r1,a1,_,g1⟩:=Hq (A:=X.A.in1) hh I hx t1 (hf i1 (by simp)).1;obtain⟨fp2,P2,S2,D2,u2,r2,a2,_,g2⟩:=Hq (A:=X.A.in1) hh I hy t2 (hf i2 (by simp)).1;obtain⟨fp3,P3,S3,D3,u3,r3,a3,_,g3⟩:=Hq (A:=X.A.in1) hh I hu t3 (hf i3 (by simp)).1;have ZA:=oR I Z hf g1 g2 g3;have ch:∀b∈[z,TO,i1,i2,i3],b∈[z,TI,TO,i1,i2,i3]:=fun b hb=>by
   simp only[CM,D9,or_false]at hb ⊢;rcases hb with h|h|h|h|h<;>simp[h]
  refine sF hh D1 D2 D3 ZA hend hz hI hO u1 u2 u3 fun h2 tk kp=>⟨rfl,?_⟩
  have kp2:∀b o,b∉[z,TO,i1,i2,i3]->s.heap.get? b=some o->h2.get? b=some o:=fun b o hb e=>by
   simp only[CM,D9,or_false,not_or]at hb;exact kp b o hb.1 hb.2.1 hb.2.2.1 hb.2.2.2.1 hb.2.2.2.2 e
  refine I.step (g':=s.gens) (d':=s.drawn) (t':=tk) (ch:=[z,TO,i1,i2,i3]) (fun b hb=>⟨(hf b<|ch b hb).2.2.2.1,(hf b<|ch b hb).2.1,(hf b<|ch b hb).2.2.2.2.1,(hf b<|ch b hb).2.2.2.2.2⟩) (fun b o _ _ hb e _=>kp2 b o hb e) (fun b o _ _ hb e _=>⟨o.slots,kp2 b o hb e⟩)
   (fun b o hb e n=>n) (fun b o hb e=>⟨o,kp2 b o hb e⟩) (fun b xs e=>e) (fun b o u e=>e) (fun b ps e=>⟨#[],by rw[e];simp⟩) (fun m hm=>?_) (fun b u e=>?_) I.bare
  ·obtain⟨o,es,ep,ho,r⟩:=hm;exact⟨o,es,ep,kp2 _ o (fun hb=>(hf _<|ch _ hb).2.1 rfl) ho,r⟩
  ·have f9:∀b u,H b=some u->b∉[z,TO,i1,i2,i3]:=fun b u e hb=>by rw[(hf b<|ch b hb).1]at e;cases e
   refine(I.hok b u e).stay (fun c v hc q=>kp2 c v ?_ q) (fun c q=>q) fun c xs q=>q;rcases hc with q|q
   ·rw[q];exact f9 b u e
   ·exact f9 c _ q
 self:=fun _ _ _ _ _ st h=>Ge st.1 h
theorem zx{x y z:V}{us:List Cr}(r:Vals [x,y,z] us):∃u v w',us=[u,v,w']/\RelV x u/\RelV y v/\RelV z w':=by
 cases r with
 |cons h1 r=>cases r with
  |cons h2 r=>cases r with
   |cons h3 r=>cases r;exact⟨_,_,_,rfl,h1,h2,h3⟩
def xp(K:Cq)(t:TA):TI:=fun σ H R=>t σ H fun vs H1=>∃c1 c2 c3 xs ys us,vs=[c1.val,c2.val,c3.val]/\c1.has K H1 xs/\c2.has K H1 ys/\c3.has K H1 us/\R (zw K c1 c2 c3) H1
theorem vK{X:Cx}{K:Cq}(hK:X.K=K){a b c:Expr}{ta:TA}{p pos tp:Pos}{elts:List Expr}{kk:Nat}(hg:Gl X "zip")(hm:X.mg "zip"=none)(ha:PA X [a,b,c] ta)
  (hs:starEach [a,b,c] X.env=[(false,eval a X.env),(false,eval b X.env),(false,eval c X.env)]:=by rfl) (hs2:starEach [b,c] X.env=[(false,eval b X.env),(false,eval c X.env)]:=by rfl):PI X (.Tuple elts kk tp) (.Call (.Name "zip" p) [a,b,c] [] pos) (xp K ta):=by
 subst hK;intro pins s σ H R I h;refine Call_ (gC I hg hm boot_zip (Eo (bL (ha pos pins s σ H _ I h) fun us s1⟨vs,H1,I1,r1,q1⟩=>?_) (by rw[hs,hs2]) (by rw[hs2];rfl)));obtain⟨c1,c2,c3,xs,ys,zs,e,h1,h2,h3,q⟩:=q1;subst e;obtain⟨v1,v2,v3,rfl,ra,rb,rc⟩:=zx r1;obtain⟨o1,i1,f1,n1⟩:=Kx I1 h1 ra fun _ _ e=>e;obtain⟨o2,i2,f2,n2⟩:=Kx (h:=s1.heap.push o1) I1 h2 rb fun _ _ e=>Cs _ e;obtain⟨o3,i3,f3,n3⟩:=Kx (h:=(s1.heap.push o1).push o2) I1 h3 rc fun _ _ e=>Cs _<|Cs _ e;have z1:(s1.heap.push o1).objs.size=s1.heap.objs.size+1:=Dj ..;have z2:((s1.heap.push o1).push o2).objs.size=s1.heap.objs.size+2:=by rw[Dj,z1]
 rw[z1]at n2;rw[z2]at n3;refine qq i1 i2 i3 f1 f2 f3 fun h' hz hI hO e1 e2 e3 kp=>?_;refine Ge hz ?_;have zi:∀n:Nat,ZIds3 (n+5) (n+3) (n+4) n (n+1) (n+2):=fun n=>⟨(iJ n 3 5 (by decide)),(iJ n 4 5 (by decide)),(iJ n 0 5 (by decide)),(iJ n 1 5 (by decide)),(iJ n 2 5 (by decide)),(iJ n 3 4 (by decide)),(iJ n 3 0 (by decide)),(iJ n 3 1 (by decide)),(iJ n 3 2 (by decide)),(iJ n 4 0 (by decide)),(iJ n 4 1 (by decide)),(iJ n 4 2 (by decide)),(iJ n 0 1 (by decide)),(iJ n 0 2 (by decide)),(iJ n 1 2 (by decide))⟩
 refine⟨s1.heap.objs.size+5,[s1.heap.objs.size+5,s1.heap.objs.size+3,s1.heap.objs.size+4,s1.heap.objs.size,s1.heap.objs.size+1,s1.heap.objs.size+2],_,_,H1,rfl,I1.kept (t':=s1.toks) kp,qt c1 c2 c3 _ _ _ _ _ _<|zi s1.heap.objs.size,⟨hz,hI,⟨_,_,_,hO⟩,n1 h' e1,n2 h' e2,n3 h' e3⟩,fun b hb=>?_,q⟩;have hb':s1.heap.objs.size<=b:=by
  simp only[CM,D9,or_false]at hb;rcases hb with z|z|z|z|z|z<;>rw[z]
  ·exact Eb _ 5
  ·exact Eb _ 3
  ·exact Eb _ 4
  ·exact CK _
  ·exact Eb _ 1
  ·exact Eb _ 2
 exact I1.fpOk hb'<|I1.hok.fresh hb'
end L2
namespace Mi
inductive Res(α:Type) where
 |ok (a:α)|err (j:Nat)|stuck
namespace Res
variable{α β:Type}
def Ok(m:Res α)(P:α->Prop):Prop:=match m with| .ok a=>P a|_=>False
def bind(m:Res α)(f:α->Res β):Res β:=match m with| .ok a=>f a| .err j=>.err j| .stuck=>.stuck
theorem bind_ok{m:Res α}{f:α->Res β}{P:β->Prop}(h:m.Ok fun a=>(f a).Ok P):(m.bind f).Ok P:=by cases m<;>exact h
theorem Ok.imp{m:Res α}{P Q:α->Prop}(h:m.Ok P)(k:∀a,P a->Q a):m.Ok Q:=by cases m<;>first|exact k _ h|exact h
theorem Ok.ex{m:Res α}{P:α->Prop}(h:m.Ok P):∃a,m=.ok a/\P a:=by
 cases m with
 |ok a=>exact⟨a,rfl,h⟩
 |err j=>exact h.elim
 |stuck=>exact h.elim
def OkE(m:Res α)(Er:Nat->Prop)(P:α->Prop):Prop:=match m with| .ok a=>P a| .err j=>Er j| .stuck=>False
theorem okE_bind{m:Res α}{f:α->Res β}{Er:Nat->Prop}{P:β->Prop}(h:(m.bind f).OkE Er P):m.OkE Er fun a=>(f a).OkE Er P:=by cases m<;>exact h
theorem bind_okE{m:Res α}{f:α->Res β}{Er:Nat->Prop}{P:β->Prop}(h:m.OkE Er fun a=>(f a).OkE Er P):(m.bind f).OkE Er P:=by cases m<;>exact h
theorem OkE.imp{m:Res α}{Er:Nat->Prop}{P Q:α->Prop}(h:m.OkE Er P)(k:∀a,P a->Q a):m.OkE Er Q:=by cases m<;>first|exact k _ h|exact h
theorem Ok.e{m:Res α}{Er:Nat->Prop}{P:α->Prop}(h:m.Ok P):m.OkE Er P:=by
 cases m with
 |ok a=>exact h
 |err j=>exact h.elim
 |stuck=>exact h.elim
def tryR(m:Res α):Res (α ⊕ Nat):=match m with| .ok a=>.ok (.inl a)| .err j=>.ok (.inr j)| .stuck=>.stuck
theorem tryR_OkE{m:Res α}{Er:Nat->Prop}{P:α ⊕ Nat->Prop}(h:(tryR m).OkE Er P):m.OkE (fun j=>P<|.inr j) fun a=>P (.inl a):=by cases m<;>exact h
@[simp] theorem bind_ok'(a:α)(f:α->Res β):(Res.ok a).bind f=f a:=rfl
end Res
abbrev cap:Nat:=100000
def eG(b:Prop)[Decidable b]{α:Type}(a:α):Res α:=if b then .ok a else .stuck
theorem bu{b:Prop}[Decidable b]{α:Type}{a:α}(h:b):eG b a=.ok a:=if_pos h
theorem aO{b:Prop}[Decidable b]{α:Type}{a:α}{Er:Nat->Prop}{P:α->Prop}(h:(eG b a).OkE Er P):b/\P a:=by
 unfold eG at h;by_cases hb:b;·rw[if_pos hb]at h;exact⟨hb,h⟩
 ·rw[if_neg hb]at h;exact h.elim
def qu{α:Type}:Option α->Res α
 |some a=>.ok a
 |none=>.stuck
theorem dD{α:Type}{o:Option α}{Er:Nat->Prop}{P:α->Prop}(h:(qu o).OkE Er P):∃a,o=some a/\P a:=by
 cases o with
 |none=>exact h.elim
 |some a=>exact⟨a,rfl,h⟩
abbrev Tx:=List Nat
def cH(i:Int):Int:=if i<0 then -i else i
def nI(i j:Int):Res Int:=eG ((-(2^64)<i/\i<2^64)\/(-(2^64)<j/\j<2^64))<|i*j
def oS(i j:Int):Res Int:=eG (0<j/\j<1073741824)<|i/j
def lu(i j:Int):Res Int:=eG (0<j)<|i%j
def ixN(n:Nat)(i:Int):Option Nat:=if 0<=i then(if i<n then some i.toNat else none)else if -(n:Int)<=i then some (i+n).toNat else none
def sG{α:Type}(xs:List α)(i:Int):Option α:=(ixN xs.length i).bind fun j=>xs[j]?
theorem vL{α:Type}{xs:List α}{j:Nat}{v:α}(h:xs[j]? =some v):sG xs (j:Int)=some v:=by
 have hl:j<xs.length:=(Cy.mp h).1;unfold sG ixN;rw[if_pos (by omega),if_pos (by omega),EZ];exact h
theorem sH{α:Type}{xs:List α}{i:Int}(h0:0<=i)(h1:i<xs.length):∃h:i.toNat<xs.length,sG xs i=some xs[i.toNat]:=by
 have h2:i.toNat<xs.length:=by omega
 refine⟨h2,?_⟩;have:=vL (xs:=xs) (j:=i.toNat) (v:=xs[i.toNat]) (by simp[h2]);rw[Int.toNat_of_nonneg h0]at this;exact this
def kF{α:Type}(xs:List α)(i:Int):Res α:=qu<|sG xs i
def fO(x:Tx)(i:Int):Res Tx:=(eG (x.length<=cap) x).bind fun x=>(qu<|sG x i).bind fun c=>.ok [c]
def fe(a b:Tx):Res Tx:=eG (a.length+b.length<=cap)<|a++b
def B5{α:Type}(a b:List α):Res (List α):=eG (a.length+b.length<=cap)<|a++b
def fI{α:Type}(a:List α)(x:α):Res (List α):=eG (a.length<cap)<|a++[x]
def xX(a:Tx)(n:Int):Res Tx:=match a with
 | [c]=>eG (0<=n/\n<=cap)<|CI n.toNat c
 |_=>.stuck
def xY(x:Tx):Res Int:=eG (x.length<=cap) (x.length:Int)
def sIx(n d:Nat):Option Int->Nat
 |none=>d
 |some v=>if v<0 then(v+(n:Int)).toNat else min v.toNat n
def cut{α:Type}(l:List α)(lo hi:Option Int):List α:=(l.drop<|sIx l.length 0 lo).take (sIx l.length l.length hi-sIx l.length 0 lo)
def jq{α:Type}(xs:List α)(i:Int)(x:α):Res (List α):=(qu<|ixN xs.length i).bind fun j=>.ok<|xs.set j x
def sI(x:Tx)(c:Nat):Option Nat:=x.findIdx? (· ==c)
def sJ(x y:Tx):Res Int:=match y with
 | [c]=>(qu<|sI x c).bind fun j=>.ok (j:Int)
 |_=>.stuck
def iK(xs:List Tx):Res Tx:=eG (xs.flatten.length<=cap) xs.flatten
def look{κ α:Type}[DecidableEq κ](kvs:List (κ×α))(k:κ):Option α:=(kvs.find? fun p=>decide<|p.1=k).map (·.2)
def getD{κ α:Type}[DecidableEq κ](kvs:List (κ×α))(k:κ):Res α:=qu<|look kvs k
def ik{α β:Type}(f:α->Res β):List α->Res (List β)
 | []=>.ok []
 |a::r=>(f a).bind fun b=>(ik f r).bind fun bs=>.ok (b::bs)
def bo{α β:Type}(xs:List α)(f:α->Res β):Res (List β):=(eG (xs.length<=cap) xs).bind fun xs=>ik f xs
def fD{α β:Type}(f:α->Res (Option β)):List α->Res (List β)
 | []=>.ok []
 |a::r=>(f a).bind fun b=>(fD f r).bind fun bs=>.ok (match b with|some b=>b::bs|none=>bs)
def jr{α β:Type}(xs:List α)(f:α->Res (Option β)):Res (List β):=(eG (xs.length<=cap) xs).bind fun xs=>fD f xs
def bJ{α S:Type}(f:α->S->Res S):List α->S->Res S
 | [],s=>.ok s
 |a::r,s=>(f a s).bind fun s=>bJ f r s
inductive Fl(γ S:Type) where
 |nx (s:S)|bk (s:S)|rt (r:γ)
def zy{S γ:Type}(k:S->Res (Fl γ S)):Fl γ S->Res (Fl γ S)
 | .nx s=>k s
 | .bk s=>.ok<|.nx s
 | .rt x=>.ok<|.rt x
def il{α S γ:Type}(f:α->S->Res (Fl γ S)):List α->S->Res (Fl γ S)
 | [],s=>.ok<|.nx s
 |a::r,s=>(f a s).bind (zy<|il f r)
def eI(n:Int):List Int:=(EM n.toNat).map fun(i:Nat)=>(i:Int)
def fP(n:Int):Res (List Int):=eG (-(2^62)<=n/\n<2^62)<|eI n
def gB{α:Type}(xs:List α):List (Int×α):=(EM xs.length).zipWith (fun(i:Nat)x=>((i:Int),x)) xs
def aF(x:Tx):List Tx:=x.map fun c=>[c]
def Bn(x y:Tx):Res Bool:=match x with
 | [c]=>.ok<|y.contains c
 |_=>.stuck
def xZ{α:Type}[DecidableEq α](a b:α):Res Bool:=if a=b then .ok true else .stuck
theorem oU{α β:Type}{f:α->Res β}{g:α->β}:∀{xs:List α},(∀x∈xs,f x=.ok (g x))->ik f xs=.ok (xs.map g)
 | [],_=>rfl
 |a::r,h=>by
  unfold ik;rw[h a<|CJ ..,Res.bind_ok',oU fun x hx=>h x<|CG _ hx];rfl
theorem bN{α β:Type}{f:α->Res β}{g:α->β}{xs:List α}(hl:xs.length<=cap)(h:∀x∈xs,f x=.ok (g x)):bo xs f=.ok (xs.map g):=by
 unfold bo;rw[bu hl,Res.bind_ok',oU h]
def gS{α:Type}(xs:List α):Res (List Int):=(eG (xs.length<=cap) xs).bind fun xs=>.ok<|eI (xs.length:Int)
theorem js{α:Type}{xs:List α}(h:xs.length<=cap):gS xs=.ok (eI (xs.length:Int)):=by unfold gS eG;rw[if_pos h];rfl
end Mi
open Mi.Res renaming okE_bind->Cn,bind_ok'->Ct,ok->CB,err->Jn,bind_okE->Kj,stuck->Lb
open Mi.Res.OkE renaming imp->D8
namespace Wb
open PySem L2 Mi
variable{Er:Nat->Prop}
structure Wd where
 G:Hp
 H:Hp
 ok:Same G H
structure Ext(W W':Wd):Prop where
 g:Same W.G W'.G
 h:Same W.H W'.H
 k:∀p,W.H p≠none->W'.G p=W.G p
theorem Ext.refl(W:Wd):Ext W W:=⟨.refl _,.refl _,fun _ _=>rfl⟩
theorem Ext.trans{W W1 W2:Wd}(a:Ext W W1)(b:Ext W1 W2):Ext W W2:=⟨a.g.trans b.g,a.h.trans b.h,fun p hp=>by
 obtain⟨o,ho⟩:=FD.mp hp;rw[b.k p (by rw[a.h p o ho];exact fun z=>nomatch z),a.k p hp]⟩
theorem Same.upd2{G H:Hp}(h:Same G H)(p:Addr)(o:HO):Same (bP G p o) (bP H p o):=fun a u e=>by
 by_cases z:a=p;·subst z;rw[ai]at e ⊢;exact e
 ·rw[ag z]at e ⊢;exact h _ _ e
def Wd.new(W:Wd)(p:Addr)(o:HO):Wd:=⟨bP W.G p o,bP W.H p o,Same.upd2 W.ok p o⟩
theorem Wd.gnone(W:Wd){p:Addr}(h:W.H p=none):W.G p=none:=none_of W.ok h
theorem Ext.new{W:Wd}{p:Addr}(o:HO)(h:W.H p=none):Ext W (W.new p o):=⟨cV<|W.gnone h,cV h,fun q hq=>ag fun z=>hq<|z▸h⟩
def Wd.mut(W:Wd)(p:Addr)(o:HO)(h:W.G p=none):Wd:=⟨W.G,bP W.H p o,qo W.ok h⟩
theorem Ext.own{W:Wd}{p:Addr}(o:HO)(h:W.H p=none):Ext W (W.mut p o<|W.gnone h):=⟨.refl _,cV h,fun _ _=>rfl⟩
def Wd.frz(W:Wd)(p:Addr)(o:HO)(h:W.H p=some o):Wd:=⟨bP W.G p o,W.H,fun a u e=>by
 by_cases z:a=p;·subst z;rw[ai]at e;cases e;exact h
 ·rw[ag z]at e;exact W.ok _ _ e⟩
theorem Ext.mut{W0 W:Wd}{p:Addr}{o:HO}(e:Ext W0 W)(hp:W0.H p=none)(h:W.G p=none):Ext W0 (W.mut p o h):=
 ⟨e.g,fun a u z=>by show bP W.H p o a=_;rw[ag<|bV z hp];exact e.h _ _ z,e.k⟩
theorem Ext.frz{W0 W:Wd}{p:Addr}{o:HO}(e:Ext W0 W)(hp:W0.H p=none)(h:W.H p=some o)(hg:W.G p=none):Ext W0 (W.frz p o h):=
 ⟨e.g.trans<|cV hg,e.h,fun q hq=>by show bP W.G p o q=_;rw[ag (fun z=>hq (by rw[z];exact hp))];exact e.k q hq⟩
abbrev Rw(α:Type):=Wd->α->V->Prop
class MonoW{α:Type}(R:Rw α):Prop where
 mono:∀{W W':Wd}{a:α}{v:V},Ext W W'->R W a v->R W' a v
def sh{α:Type}(R:Rp α):Rw α:=fun W a v=>R W.G a v
instance zkeep8{α:Type}{R:Rp α}[Mono R]:MonoW (sh R):=⟨fun e h=>Cp (R:=R) e.g h⟩
def pk{α:Type}(R:Rp α):Rw (List α):=fun W xs v=>∃p vs,v=.ref p/\W.H p=some (.lst vs)/\LR R W.G xs vs
instance zkeep9{α:Type}{R:Rp α}[Mono R]:MonoW (pk R):=⟨fun e⟨p,vs,a,b,c⟩=>⟨p,vs,a,e.h _ _ b,c.same e.g⟩⟩
theorem pk.of{α:Type}{R:Rp α}{W:Wd}{xs:List α}{v:V}(h:isL R W.G xs v):pk R W xs v:=by
 obtain⟨p,vs,a,b,c⟩:=h;exact⟨p,vs,a,W.ok _ _ b,c⟩
structure Ow{α:Type}(R:Rp α)(W:Wd)(p:Addr)(xs:List α):Prop where
 g:W.G p=none
 h:∃vs,W.H p=some (.lst vs)/\LR R W.G xs vs
theorem Ow.mono{α:Type}{R:Rp α}[Mono R]{W W':Wd}{p:Addr}{xs:List α}(o:Ow R W p xs)(e:Ext W W'):Ow R W' p xs:=by
 obtain⟨vs,a,b⟩:=o.h;exact⟨by rw[e.k p (by rw[a];exact fun z=>nomatch z)];exact o.g,vs,e.h _ _ a,b.same e.g⟩
theorem Ow.pk{α:Type}{R:Rp α}{W:Wd}{p:Addr}{xs:List α}(o:Ow R W p xs):pk R W xs (.ref p):=by
 obtain⟨vs,a,b⟩:=o.h;exact⟨p,vs,rfl,a,b⟩
theorem Ow.frz{α:Type}{R:Rp α}[Mono R]{W0 W:Wd}{p:Addr}{xs:List α}(o:Ow R W p xs)(e:Ext W0 W)(hp:W0.H p=none):
  ∃W',W'.H=W.H/\Ext W0 W'/\Same W.G W'.G/\isL R W'.G xs (.ref p)/\∀q,q≠p->W'.G q=W.G q:=by
 obtain⟨vs,a,b⟩:=o.h;exact⟨W.frz p _ a,rfl,e.frz hp a o.g,cV o.g,⟨p,vs,rfl,ai,b.same<|cV o.g⟩,fun q hq=>ag hq⟩
def EV(Er:Nat->Prop){α:Type}(t:TE)(σ:St)(W:Wd)(R:Rw α)(m:Res α):Prop:=∀W1,Ext W W1->∀Q:VK,m.OkE Er (fun a=>∀v W2,Ext W1 W2->R W2 a v->Q v W2.H)->t σ W1.H Q
def EVo(Er:Nat->Prop){α:Type}(t:TE)(σ:St)(W:Wd)(R:Rp α)(m:Res (List α)):Prop:=∀W1,Ext W W1->∀Q:VK,m.OkE Er (fun xs=>∀p W2,Ext W1 W2->W1.H p=none->Ow R W2 p xs->Q (.ref p) W2.H)->t σ W1.H Q
def TV(Er:Nat->Prop)(t:TT)(σ:St)(W:Wd)(m:Res Bool):Prop:=∀W1,Ext W W1->∀Q:Bool->Hp->Prop,m.OkE Er (fun b=>∀W2,Ext W1 W2->Q b W2.H)->t σ W1.H Q
section
variable{α β γ:Type}{t ta tb:TE}{σ:St}{W W0 W':Wd}{K:Cq}
theorem EV.imp{R R':Rw α}{m:Res α}(h:EV Er t σ W R m)(f:∀W a v,R W a v->R' W a v):EV Er t σ W R' m:=fun W1 e1 Q k=>h W1 e1 Q<|k.imp fun a ka v W2 e2 r=>ka v W2 e2<|f _ _ _ r
theorem EVo.ev{R:Rp α}[Mono R]{m:Res (List α)}(h:EVo Er t σ W R m):EV Er t σ W (sh<|isL R) m:=fun W1 e1 Q k=>h W1 e1 Q (k.imp fun xs kx p W2 e2 hp o=>by
 obtain⟨W3,hH,e3,_,r,_⟩:=o.frz e2 hp;rw[<-hH];exact kx (.ref p) W3 e3 r)
theorem EVo.pk{R:Rp α}[Mono R]{m:Res (List α)}(h:EVo Er t σ W R m):EV Er t σ W (pk R) m:=fun W1 e1 Q k=>h W1 e1 Q<|k.imp fun xs kx p W2 e2 hp o=>kx (.ref p) W2 e2 o.pk
theorem EV.pk{R:Rp α}{m:Res (List α)}(h:EV Er t σ W (sh<|isL R) m):EV Er t σ W (pk R) m:=h.imp fun _ _ _ r=>pk.of r
theorem bq{R:Rw α}[MonoW R]{i:Nat}{v:V}{a:α}(r:R W a v)(h:σ[i]? =some (some v):=by rfl):EV Er (aU i) σ W R (.ok a):=fun W1 e1 Q k=>⟨v,h,k v W1 (.refl _)<|MonoW.mono e1 r⟩
theorem vM{R:Rp α}[Mono R]{i:Nat}{p:Addr}{a:List α}(r:Ow R W p a)(h:σ[i]? =some (some<|.ref p):=by rfl):EV Er (aU i) σ W (pk R) (.ok a):=bq r.pk h
def isB:Rp Bool:=fun _ b v=>v=.bl b
instance zkeep10:Mono isB:=⟨fun _ h=>h⟩
def isN:Rp Unit:=fun _ _ v=>v=.non
instance zkeep11:Mono isN:=⟨fun _ h=>h⟩
def isO(R:Rp α):Rp (Option α):=fun H o v=>match o with|none=>v=.non|some a=>R H a v/\v≠.non
instance zkeep12{R:Rp α}[Mono R]:Mono (isO R):=⟨fun{H H' m v}e h=>by
 cases m with
 |none=>exact h
 |some a=>exact⟨Cp e h.1,h.2⟩⟩
theorem ar{i:Int}:EV Er (tC<|.int i) σ W (sh isI) (.ok i):=fun W1 _ Q k=>k _ W1 (.refl _) rfl
theorem aG{x:Str}{l:Tx}(h:x=sOf l):EV Er (tC<|.str x) σ W (sh isS) (.ok l):=fun W1 _ Q k=>k _ W1 (.refl _) (by rw[h];rfl)
theorem me{b:Bool}:EV Er (tC<|.bl b) σ W (sh isB) (.ok b):=fun W1 _ Q k=>k _ W1 (.refl _) rfl
theorem ya:EV Er (tC .non) σ W (sh isN) (.ok ()):=fun W1 _ Q k=>k _ W1 (.refl _) rfl
theorem lx{R:Rp α}:EV Er (tC .non) σ W (sh<|isO R) (.ok none):=fun W1 _ Q k=>k _ W1 (.refl _) rfl
theorem rn{r:R2}{Ra:Rw α}[MonoW Ra]{Rb:Rw β}{R:Rw γ}{ma:Res α}{mb:Res β}{f:α->β->Res γ}(ha:EV Er ta σ W Ra ma)(hb:EV Er tb σ W Rb mb)
  (h:∀W a b x y Q,Ra W a x->Rb W b y->(f a b).OkE Er (fun c=>∀v W2,Ext W W2->R W2 c v->Q v W2.H)->r x y W.H Q):EV Er (dq r ta tb) σ W R (ma.bind fun a=>mb.bind fun b=>f a b):=fun W1 e1 Q k=>by
 refine ha W1 e1 _<|(Cn k).imp fun a ka x W2 e2 hx=>?_;refine hb W2 (e1.trans e2) _<|(Cn ka).imp fun b kb y W3 e3 hy=>?_;exact h W3 a b x y Q (MonoW.mono e3 hx) hy<|kb.imp fun c kc v W4 e4 hv=>kc v W4 ((e2.trans e3).trans e4) hv
theorem Bw{r:V->Hp->VK->Prop}{Ra:Rw α}{R:Rw γ}{ma:Res α}{f:α->Res γ}(ha:EV Er ta σ W Ra ma)
  (h:∀W a x Q,Ra W a x->(f a).OkE Er (fun c=>∀v W2,Ext W W2->R W2 c v->Q v W2.H)->r x W.H Q):EV Er (fA r ta) σ W R (ma.bind f):=fun W1 e1 Q k=>by
 refine ha W1 e1 _<|(Cn k).imp fun a ka x W2 e2 hx=>?_;exact h W2 a x Q hx<|ka.imp fun c kc v W4 e4 hv=>kc v W4 (e2.trans e4) hv
section
variable{ma mb:Res Int}
theorem bO{g:Int->Int->Int}(ha:EV Er ta σ W (sh isI) ma)(hb:EV Er tb σ W (sh isI) mb):EV Er (dq (eQ fun i j=>.int<|g i j) ta tb) σ W (sh isI) (ma.bind fun a=>mb.bind fun b=>.ok<|g a b):=
 rn ha hb fun W a b x y Q hx hy k=>by cases hx;cases hy;exact⟨a,b,rfl,rfl,k _ W (.refl _) rfl⟩
theorem sL{C:Int->Int->Prop}{g:Int->Int->Int}{f:Int->Int->Res Int}(hf:∀a b P,(f a b).OkE Er P->C a b/\P (g a b))(ha:EV Er ta σ W (sh isI) ma)(hb:EV Er tb σ W (sh isI) mb):
  EV Er (dq (rI C fun i j=>.int<|g i j) ta tb) σ W (sh isI) (ma.bind fun a=>mb.bind fun b=>f a b):=
 rn ha hb fun W a b x y Q hx hy k=>by cases hx;cases hy;exact⟨a,b,rfl,rfl,(hf a b _ k).1,(hf a b _ k).2 _ W (.refl _) rfl⟩
theorem sM(ha:EV Er ta σ W (sh isI) ma)(hb:EV Er tb σ W (sh isI) mb):EV Er (dq (rI CMul fun i j=>.int<|i*j) ta tb) σ W (sh isI) (ma.bind fun a=>mb.bind fun b=>nI a b):=sL (fun a b P h=>by unfold nI at h;obtain⟨h1,h2⟩:=aO h;exact⟨h1,h2⟩) ha hb
theorem vN(ha:EV Er ta σ W (sh isI) ma)(hb:EV Er tb σ W (sh isI) mb):EV Er (dq (rI zd fun i j=>.int<|i/j) ta tb) σ W (sh isI) (ma.bind fun a=>mb.bind fun b=>oS a b):=sL (fun a b P h=>by unfold oS at h;obtain⟨h1,h2⟩:=aO h;exact⟨h1,h2⟩) ha hb
theorem ly(ha:EV Er ta σ W (sh isI) ma)(hb:EV Er tb σ W (sh isI) mb):EV Er (dq (rI (fun _ j=>0<j) fun i j=>.int<|i%j) ta tb) σ W (sh isI) (ma.bind fun a=>mb.bind fun b=>lu a b):=sL (fun a b P h=>by unfold lu at h;obtain⟨h1,h2⟩:=aO h;exact⟨h1,h2⟩) ha hb
theorem aX{C:Int->Int->Prop}{g:Int->Int->Int}{n:Int}(hn:∀a,C a n)(ha:EV Er ta σ W (sh isI) ma):EV Er (dq (rI C fun i j=>.int<|g i j) ta<|tC<|.int n) σ W (sh isI) (ma.bind fun a=>.ok<|g a n):=
 fun W1 e1 Q k=>ha W1 e1 _ ((Cn k).imp fun a ka x W2 e2 hx=>by cases hx;exact⟨a,n,rfl,rfl,hn a,ka _ W2 e2 rfl⟩)
end
end
section
variable{α β γ δ:Type}{t ta tb tc:TE}{σ:St}{W W0 W':Wd}{K:Cq}
theorem iS{n:Nat}(h:n<=cap):n<=sizeLine:=by rw[DK];unfold cap at h;omega
section
variable{ma mb:Res Int}
theorem sN(ha:EV Er ta σ W (sh isI) ma):EV Er (fA (rU fun i=>.int<|-i) ta) σ W (sh isI) (ma.bind fun a=>.ok<|-a):=
 Bw ha fun W a x Q hx k=>by cases hx;exact⟨a,rfl,k _ W (.refl _) rfl⟩
theorem eX{g:Int->Int->Bool}(ha:EV Er ta σ W (sh isI) ma)(hb:EV Er tb σ W (sh isI) mb):EV Er (dq (eQ fun i j=>.bl<|g i j) ta tb) σ W (sh isB) (ma.bind fun a=>mb.bind fun b=>.ok<|g a b):=
 rn ha hb fun W a b x y Q hx hy k=>by cases hx;cases hy;exact⟨a,b,rfl,rfl,k _ W (.refl _) rfl⟩
end
theorem dI{a b:Int}:decide (G8 a=G8 b)=decide (a=b):=by rw[Ez];simp
theorem dS{a b:Tx}:decide (FZ (sOf a)=FZ (sOf b))=decide (a=b):=by
 rw[Ez,decide_eq_true_eq,decide_eq_true_eq];exact⟨fun h=>oO<|FZ.inj h,fun h=>by rw[h]⟩
theorem nJ{ma mb:Res Int}(ha:EV Er ta σ W (sh isI) ma)(hb:EV Er tb σ W (sh isI) mb):EV Er (dq fB ta tb) σ W (sh isB) (ma.bind fun a=>mb.bind fun b=>.ok<|decide<|a=b):=
 rn ha hb fun W a b x y Q hx hy k=>by cases hx;cases hy;exact⟨rfl,by rw[dI];exact k _ W (.refl _) rfl⟩
theorem nK{ma mb:Res Tx}(ha:EV Er ta σ W (sh isS) ma)(hb:EV Er tb σ W (sh isS) mb):EV Er (dq fB ta tb) σ W (sh isB) (ma.bind fun a=>mb.bind fun b=>.ok<|decide<|a=b):=
 rn ha hb fun W a b x y Q hx hy k=>by cases hx;cases hy;exact⟨rfl,by rw[dS];exact k _ W (.refl _) rfl⟩
theorem vO{R:Rp α}{ma:Res (Option α)}(ha:EV Er ta σ W (sh<|isO R) ma):EV Er (dq (fun x y H Q=>y=.non/\Q (.bl<|!decide (x=.non)) H) ta<|tC .non) σ W (sh isB) (ma.bind fun a=>.ok a.isSome):=fun W1 e1 Q k=>
 ha W1 e1 _ ((Cn k).imp fun a ka x W2 e2 hx=>⟨rfl,by
  have e:(!decide (x=V.non))=a.isSome:=by
   cases a with
   |none=>cases hx;rfl
   |some b=>rw[decide_eq_false hx.2];rfl
  rw[e];exact ka _ W2 e2 rfl⟩)
theorem cM{m:Res Bool}(h:EV Er t σ W (sh isB) m):TV Er (bz t) σ W m:=fun W1 e1 Q k=>h W1 e1 _<|k.imp fun b kb v W2 e2 hv=>⟨b,hv,kb W2 e2⟩
theorem jR{m:Res Bool}(h:EV Er t σ W (sh isB) m):TV Er (tB t) σ W m:=fun W1 e1 Q k=>h W1 e1 _<|k.imp fun b kb v W2 e2 hv=>⟨b,hv,kb W2 e2⟩
theorem jt{t:TT}{m:Res Bool}(h:TV Er t σ W m):TV Er (cw t) σ W (m.bind fun b=>.ok<|!b):=fun W1 e1 Q k=>h W1 e1 _<|(Cn k).imp fun b kb W2 e2=>kb W2 e2
theorem sO{t u:TT}{m n:Res Bool}(h:TV Er t σ W m)(g:TV Er u σ W n):TV Er (cD t u) σ W (m.bind fun b=>if b then n else .ok false):=fun W1 e1 Q k=>h W1 e1 _ ((Cn k).imp fun b kb W2 e2=>by
 cases b with
 |true=>exact g W2 (e1.trans e2) _ (kb.imp fun c kc W3 e3=>kc W3<|e2.trans e3)
 |false=>exact kb W2 e2)
theorem xq{t u:TT}{m n:Res Bool}(h:TV Er t σ W m)(g:TV Er u σ W n):TV Er (fF t u) σ W (m.bind fun b=>if b then .ok true else n):=fun W1 e1 Q k=>h W1 e1 _ ((Cn k).imp fun b kb W2 e2=>by
 cases b with
 |true=>exact kb W2 e2
 |false=>exact g W2 (e1.trans e2) _ (kb.imp fun c kc W3 e3=>kc W3 (e2.trans e3)))
theorem yb{m n:Res Bool}(h:EV Er ta σ W (sh isB) m)(g:EV Er tb σ W (sh isB) n):EV Er (bw ta tb) σ W (sh isB) (m.bind fun b=>if b then n else .ok false):=fun W1 e1 Q k=>h W1 e1 _ ((Cn k).imp fun b kb v W2 e2 hv=>⟨b,hv,by
 cases b with
 |true=>exact g W2 (e1.trans e2) _ (kb.imp fun c kc v W3 e3 hv=>kc v W3 (e2.trans e3) hv)
 |false=>exact kb _ W2 e2 rfl⟩)
theorem nL{m:Res Bool}(h:EV Er ta σ W (sh isB) m):EV Er (bx ta) σ W (sh isB) (m.bind fun b=>.ok<|!b):=fun W1 e1 Q k=>h W1 e1 _<|(Cn k).imp fun b kb v W2 e2 hv=>⟨b,hv,kb _ W2 e2 rfl⟩
theorem oV{R:Rw α}{c:TT}{mc:Res Bool}{m n:Res α}(hc:TV Er c σ W mc)(h:EV Er ta σ W R m)(g:EV Er tb σ W R n):EV Er (fG c ta tb) σ W R (mc.bind fun b=>if b then m else n):=fun W1 e1 Q k=>hc W1 e1 _ ((Cn k).imp fun b kb W2 e2=>by
 cases b with
 |true=>exact h W2 (e1.trans e2) _ (kb.imp fun c kc v W3 e3 hv=>kc v W3 (e2.trans e3) hv)
 |false=>exact g W2 (e1.trans e2) _ (kb.imp fun c kc v W3 e3 hv=>kc v W3 (e2.trans e3) hv))
theorem ft{ma mb:Res Tx}(ha:EV Er ta σ W (sh isS) ma)(hb:EV Er tb σ W (sh isS) mb):EV Er (dq (fun x y H Q=>∃i j,x=.str i/\y=.str j/\i.length+j.length<=sizeLine/\Q (.str<|i++j) H) ta tb) σ W (sh isS) (ma.bind fun a=>mb.bind fun b=>fe a b):=
 rn ha hb fun W a b x y Q hx hy k=>by
  cases hx;cases hy;obtain⟨h1,h2⟩:=aO k;exact⟨_,_,rfl,rfl,by rw[cQ,cQ];exact iS h1,by rw[fq];exact h2 _ W (.refl _) rfl⟩
theorem vP{ma:Res Tx}{mb:Res Int}(ha:EV Er ta σ W (sh isS) ma)(hb:EV Er tb σ W (sh isI) mb):EV Er (dq (fun x y H Q=>∃c n,x=.str (sOf [c])/\y=.int n/\0<=n/\n<=100000/\Q (.str<|sOf<|CI n.toNat c) H) ta tb) σ W (sh isS) (ma.bind fun a=>mb.bind fun b=>xX a b):=
 rn ha hb fun W a b x y Q hx hy k=>by
  cases hx;cases hy
  match a,k with
  | [c],k=>
   obtain⟨h1,h2⟩:=aO k;exact⟨c,b,rfl,rfl,h1.1,h1.2,h2 _ W (.refl _) rfl⟩
theorem bY{ma:Res Tx}{mb:Res Int}(ha:EV Er ta σ W (sh isS) ma)(hb:EV Er tb σ W (sh isI) mb):EV Er (dq cF ta tb) σ W (sh isS) (ma.bind fun a=>mb.bind fun b=>fO a b):=
 rn ha hb fun W a b x y Q hx hy k=>by
  cases hx;cases hy;obtain⟨h1,h2⟩:=aO<|Cn k;obtain⟨c,h3,h4⟩:=dD<|Cn h2;exact⟨_,b,c,rfl,rfl,by rw[cQ];exact iS h1,by rw[lh];exact h3,h4 _ W (.refl _) rfl⟩
theorem zz:∀W1,Ext W W1->∀Q:Option Int->Hp->Prop,(CB (none:Option Int)).OkE Er (fun o=>∀W2,Ext W1 W2->Q o W2.H)->az σ W1.H Q:=fun W1 _ Q k=>k W1<|.refl _
theorem zA{m:Res Int}(h:EV Er t σ W (sh isI) m):∀W1,Ext W W1->∀Q:Option Int->Hp->Prop,(m.bind fun i=>.ok<|some i).OkE Er (fun o=>∀W2,Ext W1 W2->Q o W2.H)->bA t σ W1.H Q:=fun W1 e1 Q k=>
 h W1 e1 _ ((Cn k).imp fun i ki v W2 e2 hv=>⟨i,hv,ki W2 e2⟩)
theorem zB(x:Tx)(c j:Nat)(h:sI x c=some j):GO (sOf x) (sOf [c])=(j:Int):=by
 unfold sI at h;rw[List.findIdx?_eq_some_iff_getElem]at h;obtain⟨hj,h1,h2⟩:=h;have hat:∀i,StrLaws.At (sOf x) (sOf [c]) (sOf x).length i↔x[i]? =some c:=fun i=>by
  have:=StrLaws.subAt_one (sOf x) c i;rw[lh]at this;exact this
 unfold GO;rcases StrLaws.occ_head (sOf x) (sOf [c]) 1 (CK _)with⟨_,hn⟩|⟨i,r,e,hi,hk⟩
 ·exact absurd ((hat j).mpr (by rw[Dz hj];simpa using h1))<|hn j
 ·rw[e];have e2:=(hat i).mp hi;obtain⟨hil,e3⟩:=Cy.mp e2;have:i=j:=by
   rcases Nat.lt_trichotomy i j with z|z|z;·exact absurd e3 (by simpa using h2 i z)
   ·exact z
   ·exact absurd ((hat j).mpr (by rw[Dz hj];simpa using h1))<|hk j z
  rw[this]
theorem lA{ma mb:Res Tx}{K:Cq}(ha:EV Er ta σ W (sh isS) ma)(hb:EV Er tb σ W (sh isS) mb):EV Er (dU K "str" (fun x xs H Q=>∃a b,x=.str a/\xs=[.str b]/\0<=GO a b/\Q (.int<|GO a b) H) ta<|ah tb aE) σ W (sh isI) (ma.bind fun a=>mb.bind fun b=>sJ a b):=fun W1 e1 Q k=>
 ha W1 e1 _ ((Cn k).imp fun a ka x W2 e2 hx=>by
  cases hx;refine⟨rfl,hb W2 (e1.trans e2) _<|(Cn ka).imp fun b kb y W3 e3 hy=>?_⟩;cases hy
  match b,kb with
  | [c],kb=>
   obtain⟨j,h1,h2⟩:=dD (Cn kb);have e:=zB a c j h1;exact⟨_,_,rfl,rfl,by rw[e];omega,by rw[e];exact h2 _ W3 (e2.trans e3) rfl⟩)
theorem yc{ma mb:Res Tx}(ha:EV Er ta σ W (sh isS) ma)(hb:EV Er tb σ W (sh isS) mb):EV Er (dq (fun x y H Q=>∃i j,x=.str i/\y=.str j/\Q (.bl<|!(FV j i 0 j.length 1).isEmpty) H) ta tb) σ W (sh isB) (ma.bind fun a=>mb.bind fun b=>Bn a b):=
 rn ha hb fun W a b x y Q hx hy k=>by
  cases hx;cases hy
  match a,k with
  | [c],k=>
   refine⟨_,_,rfl,rfl,?_⟩;have e:(!(FV (sOf b) (sOf [c]) 0 (sOf b).length 1).isEmpty)=b.contains c:=by
    have:=StrLaws.found_one (sOf b) c;rw[lh]at this;rw[this,Ez];simp
   rw[e];exact k _ W (.refl _) rfl
theorem Same.tup{H H':Hp}{a:Addr}{xs:List V}(e:Same H H')(h:SqT K H a xs):SqT K H' a xs:=by
 rcases h with(h|⟨o,h⟩)|h;·exact .inl<|.inl<|e _ _ h
 ·exact .inl<|.inr ⟨o,e _ _ h⟩
 ·exact .inr h
def isT2(K:Cq)(R1:Rp α)(R2:Rp β):Rp (α×β):=fun H a v=>∃p x y,v=.ref p/\SqT K H p [x,y]/\R1 H a.1 x/\R2 H a.2 y
def isT3(K:Cq)(R1:Rp α)(R2:Rp β)(R3:Rp γ):Rp (α×β×γ):=fun H a v=>∃p x y z,v=.ref p/\SqT K H p [x,y,z]/\R1 H a.1 x/\R2 H a.2.1 y/\R3 H a.2.2 z
instance zkeep14{R1:Rp α}{R2:Rp β}[Mono R1][Mono R2]:Mono (isT2 K R1 R2):=⟨fun e⟨p,x,y,h0,h,h1,h2⟩=>⟨p,x,y,h0,Same.tup e h,Cp e h1,Cp e h2⟩⟩
instance zkeep15{R1:Rp α}{R2:Rp β}{R3:Rp γ}[Mono R1][Mono R2][Mono R3]:Mono (isT3 K R1 R2 R3):=⟨fun e⟨p,x,y,z,h0,h,h1,h2,h3⟩=>⟨p,x,y,z,h0,Same.tup e h,Cp e h1,Cp e h2,Cp e h3⟩⟩
theorem br{R1:Rp α}{R2:Rp β}[Mono R1][Mono R2]{ma:Res α}{mb:Res β}(ha:EV Er ta σ W (sh R1) ma)(hb:EV Er tb σ W (sh R2) mb):EV Er (cm<|ah ta<|ah tb aE) σ W (sh<|isT2 K R1 R2) (ma.bind fun a=>mb.bind fun b=>.ok (a,b)):=fun W1 e1 Q k=>
 ha W1 e1 _ ((Cn k).imp fun a ka x W2 e2 hx=>hb W2 (e1.trans e2) _ ((Cn ka).imp fun b kb y W3 e3 hy=>⟨(by show 2<=sizeLine;decide),fun p hp=>
  kb (.ref p) (W3.new p (.tup [x,y])) ((e2.trans e3).trans (.new _ hp)) ⟨p,x,y,rfl,IG ai,Cp (Ext.new _ hp).g (Cp (R:=R1) e3.g hx),Cp (R:=R2) (Ext.new _ hp).g hy⟩⟩))
theorem fu{R1:Rp α}{R2:Rp β}{R3:Rp γ}[Mono R1][Mono R2][Mono R3]{ma:Res α}{mb:Res β}{mc:Res γ}(ha:EV Er ta σ W (sh R1) ma)(hb:EV Er tb σ W (sh R2) mb)(hc:EV Er tc σ W (sh R3) mc):
  EV Er (cm<|ah ta<|ah tb<|ah tc aE) σ W (sh<|isT3 K R1 R2 R3) (ma.bind fun a=>mb.bind fun b=>mc.bind fun c=>.ok (a,b,c)):=fun W1 e1 Q k=>
 ha W1 e1 _ ((Cn k).imp fun a ka x W2 e2 hx=>hb W2 (e1.trans e2) _ ((Cn ka).imp fun b kb y W3 e3 hy=>hc W3 ((e1.trans e2).trans e3) _ ((Cn kb).imp fun c kc z W4 e4 hz=>⟨(by show 3<=sizeLine;decide),fun p hp=>
  kc (.ref p) (W4.new p (.tup [x,y,z])) (((e2.trans e3).trans e4).trans (.new _ hp)) ⟨p,x,y,z,rfl,IG ai,Cp (Ext.new _ hp).g (Cp (R:=R1) (e3.trans e4).g hx),Cp (R:=R2) (Ext.new _ hp).g (Cp (R:=R2) e4.g hy),Cp (R:=R3) (Ext.new _ hp).g hz⟩⟩)))
theorem dA{R:Rp α}{Rt:Rp β}{m:Res β}{i:Int}{f:β->α}(h:∀H b v,Rt H b v->∃p xs x,v=.ref p/\SqT K H p xs/\L2.atI xs i=some x/\R H (f b) x)(ha:EV Er ta σ W (sh Rt) m):EV Er (dq (cy K) ta<|tC<|.int i) σ W (sh R) (m.bind fun b=>.ok<|f b):=fun W1 e1 Q k=>
 ha W1 e1 _ ((Cn k).imp fun b kb v W2 e2 hv=>by
  obtain⟨p,xs,x,h1,h2,h3,h4⟩:=h _ _ _ hv;exact⟨p,xs,i,x,h1,rfl,Same.tup W2.ok h2,h3,kb _ W2 e2 h4⟩)
theorem vQ{R1:Rp α}{R2:Rp β}{R3:Rp γ}:∀H b v,isT3 K R1 R2 R3 H b v->∃p xs x,v=.ref p/\SqT K H p xs/\L2.atI xs 0=some x/\R1 H b.1 x:=fun _ _ _⟨p,x,y,z,h0,h,h1,h2,h3⟩=>⟨p,_,x,h0,h,rfl,h1⟩
theorem sP{R1:Rp α}{R2:Rp β}{R3:Rp γ}:∀H b v,isT3 K R1 R2 R3 H b v->∃p xs x,v=.ref p/\SqT K H p xs/\L2.atI xs 1=some x/\R2 H b.2.1 x:=fun _ _ _⟨p,x,y,z,h0,h,h1,h2,h3⟩=>⟨p,_,y,h0,h,rfl,h2⟩
theorem vR{R1:Rp α}{R2:Rp β}{R3:Rp γ}:∀H b v,isT3 K R1 R2 R3 H b v->∃p xs x,v=.ref p/\SqT K H p xs/\L2.atI xs 2=some x/\R3 H b.2.2 x:=fun _ _ _⟨p,x,y,z,h0,h,h1,h2,h3⟩=>⟨p,_,z,h0,h,rfl,h3⟩
theorem oW{R:Rp α}{H:Hp}{as:List α}{xs:List V}(h:LR R H as xs){i:Int}{a:α}(e:sG as i=some a):∃x,L2.atI xs i=some x/\R H a x:=by
 unfold sG at e;unfold L2.atI;rw[h.1];cases z:Mi.ixN as.length i with
 |none=>rw[z]at e;cases e
 |some j=>
  rw[z]at e;obtain⟨x,h1,h2⟩:=h.get (i:=j) e;exact⟨x,by show(L2.ixN as.length i).bind _=_;rw[show L2.ixN as.length i=Mi.ixN as.length i from rfl,z];exact h1,h2⟩
theorem fQ{R:Rp α}[Mono R]{ma:Res (List α)}{mb:Res Int}(ha:EV Er ta σ W (pk R) ma)(hb:EV Er tb σ W (sh isI) mb):EV Er (dq (cn K) ta tb) σ W (sh R) (ma.bind fun a=>mb.bind fun b=>kF a b):=
 rn ha hb fun W a b x y Q hx hy k=>by
  cases hy;obtain⟨p,vs,rfl,h,h1⟩:=hx;obtain⟨c,h4,h5⟩:=dD k;obtain⟨z,h6,h7⟩:=oW h1 h4;exact⟨p,_,b,z,rfl,rfl,Ep h,h6,h5 _ W (.refl _) h7⟩
theorem lB{R:Rp α}:EVo Er (cu aE) σ W R (.ok []):=fun W1 e1 Q k=>⟨by decide,fun p hp=>k p (W1.mut p (.lst [])<|W1.gnone hp) (.own _ hp) hp ⟨W1.gnone hp,[],ai,.nil⟩⟩
def AV(Er:Nat->Prop)(t:TA)(σ:St)(W:Wd)(R:Rp α)(n:Nat)(m:Res (List α)):Prop:=∀W1,Ext W W1->∀Q:List V->Hp->Prop,m.OkE Er (fun as=>∀vs W2,Ext W1 W2->vs.length=n->LR R W2.G as vs->Q vs W2.H)->t σ W1.H Q
theorem de{R:Rp α}:AV Er aE σ W R 0 (.ok []):=fun W1 _ Q k=>k [] W1 (.refl _) rfl .nil
theorem LR.cons{R:Rp α}{H:Hp}{a:α}{v:V}{as:List α}{vs:List V}(h:R H a v)(r:LR R H as vs):LR R H (a::as) (v::vs):=⟨by simp[r.1],fun i x m e1 e2=>by
 cases i with
 |zero=>cases e1;cases e2;exact h
 |succ j=>exact r.2 j x m e1 e2⟩
theorem aR{R:Rp α}[Mono R]{n:Nat}{ts:TA}{m:Res α}{ms:Res (List α)}(h:EV Er t σ W (sh R) m)(g:AV Er ts σ W R n ms):AV Er (ah t ts) σ W R (n+1) (m.bind fun a=>ms.bind fun as=>.ok (a::as)):=fun W1 e1 Q k=>
 h W1 e1 _ ((Cn k).imp fun a ka v W2 e2 hv=>g W2 (e1.trans e2) _ ((Cn ka).imp fun as kas vs W3 e3 hn hvs=>kas (v::vs) W3 (e2.trans e3) (by simp[hn])<|.cons (Cp (R:=R) e3.g hv) hvs))
theorem df{R:Rp α}[Mono R]{n:Nat}{ts:TA}{ms:Res (List α)}(g:AV Er ts σ W R n ms)(hn:n<=cap:=by decide):EVo Er (cu ts) σ W R ms:=fun W1 e1 Q k=>
 g W1 e1 _ (k.imp fun as ka vs W2 e2 hv hvs=>⟨by rw[hv];exact iS hn,fun p hp=>ka p (W2.mut p (.lst vs)<|W2.gnone hp) (e2.trans<|.own _ hp) (none_of e2.h hp) ⟨W2.gnone hp,vs,ai,hvs⟩⟩)
theorem fw{R:Rp α}[Mono R]{ma mb:Res (List α)}(ha:EV Er ta σ W (pk R) ma)(hb:EV Er tb σ W (pk R) mb):EVo Er (dq cG ta tb) σ W R (ma.bind fun a=>mb.bind fun b=>B5 a b):=fun W1 e1 Q k=>
 ha W1 e1 _ ((Cn k).imp fun a ka x W2 e2 hx=>hb W2 (e1.trans e2) _ ((Cn ka).imp fun b kb y W3 e3 hy=>by
  obtain⟨p,vs,rfl,h1,h2⟩:=MonoW.mono e3 hx;obtain⟨q,us,rfl,h3,h4⟩:=hy;obtain⟨h5,h6⟩:=aO kb;refine⟨p,q,vs,us,rfl,rfl,h1,h3,by rw[h2.1,h4.1];exact iS h5,fun r hr=>h6 r (W3.mut r (.lst<|vs++us)<|W3.gnone hr) ((e2.trans e3).trans (.own _ hr)) (none_of (e2.trans e3).h hr) ⟨W3.gnone hr,_,ai,?_⟩⟩;exact⟨by rw[CY,CY,h2.1,h4.1],fun i v m q1 q2=>by
   by_cases hi:i<vs.length
   ·rw[Dg hi]at q1;rw[Dg (by rw[<-h2.1];exact hi)]at q2;exact h2.2 i v m q1 q2
   ·rw[Dc (by omega)]at q1;rw[Dc (by rw[<-h2.1];omega)]at q2;rw[<-h2.1]at q2;exact h4.2 _ v m q1 q2⟩))
theorem LR.cut{R:Rp α}{H:Hp}{as:List α}{vs:List V}(h:LR R H as vs)(lo hi:Option Int):LR R H (Mi.cut as lo hi) (nz vs lo hi):=by
 unfold Mi.cut nz;rw[h.1];exact(h.drop _).take _
theorem vS{R:Rp α}[Mono R]{ma:Res (List α)}{tl th:TO}{ml mh:Res (Option Int)}(ha:EV Er ta σ W (pk R) ma)
  (hl:∀W1,Ext W W1->∀Q:Option Int->Hp->Prop,ml.OkE Er (fun o=>∀W2,Ext W1 W2->Q o W2.H)->tl σ W1.H Q) (hh:∀W1,Ext W W1->∀Q:Option Int->Hp->Prop,mh.OkE Er (fun o=>∀W2,Ext W1 W2->Q o W2.H)->th σ W1.H Q):
  EVo Er (fH (cz K) ta tl th) σ W R (ma.bind fun a=>ml.bind fun lo=>mh.bind fun hi=>.ok<|Mi.cut a lo hi):=fun W1 e1 Q k=>
 ha W1 e1 _ ((Cn k).imp fun a ka x W2 e2 hx=>hl W2 (e1.trans e2) _ ((Cn ka).imp fun lo kl W3 e3=>hh W3 ((e1.trans e2).trans e3) _ ((Cn kl).imp fun hi kh W4 e4=>by
  obtain⟨p,vs,rfl,h1,h2⟩:=MonoW.mono (e3.trans e4) hx;have e5:=(e2.trans e3).trans e4;exact⟨p,vs,rfl,Ep h1,fun r hr=>kh r (W4.mut r (.lst (nz vs lo hi)) (W4.gnone hr)) (e5.trans (.own _ hr)) (none_of e5.h hr) ⟨W4.gnone hr,_,ai,h2.cut lo hi⟩⟩)))
theorem lC{ma:Res Int}(ha:EV Er ta σ W (sh isI) ma):EV Er (dR (fun xs H Q=>∃i,xs=[.int i]/\Q (.int (if i<0 then -i else i)) H)<|ah ta aE) σ W (sh isI) (ma.bind fun a=>.ok<|cH a):=fun W1 e1 Q k=>
 ha W1 e1 _ ((Cn k).imp fun a ka x W2 e2 hx=>by cases hx;exact⟨a,rfl,ka _ W2 e2 rfl⟩)
theorem gU{R:Rp α}{ma:Res (List α)}(ha:EV Er ta σ W (pk R) ma):EV Er (dR (fun xs H Q=>∃x n,xs=[x]/\lQ K x H n/\Q (.int n) H)<|ah ta aE) σ W (sh isI) (ma.bind fun a=>.ok (a.length:Int)):=fun W1 e1 Q k=>
 ha W1 e1 _ ((Cn k).imp fun a ka x W2 e2 hx=>by
  obtain⟨p,vs,rfl,h1,h2⟩:=hx;exact⟨_,a.length,rfl,.inl ⟨vs,Ep h1,h2.1.symm⟩,ka _ W2 e2 rfl⟩)
theorem vT{ma:Res Tx}(ha:EV Er ta σ W (sh isS) ma):EV Er (dR (fun xs H Q=>∃x n,xs=[x]/\lQ K x H n/\Q (.int n) H)<|ah ta aE) σ W (sh isI) (ma.bind fun a=>xY a):=fun W1 e1 Q k=>
 ha W1 e1 _ ((Cn k).imp fun a ka x W2 e2 hx=>by
  cases hx;obtain⟨h1,h2⟩:=aO ka;exact⟨_,a.length,rfl,⟨by rw[cQ];exact iS h1,by rw[cQ]⟩,h2 _ W2 e2 rfl⟩)
theorem iY{ma:Res (List Tx)}{x:Str}(hx:x=sOf [])(ha:EV Er ta σ W (pk isS) ma):EV Er (dU K "str" (fun x xs H Q=>∃(p:Addr)(ys:List (List Nat)),x=.str (sOf [])/\xs=[.ref p]/\SqL K H p (ys.map fun y=>FZ<|sOf y)/\ys.flatten.length<=100000/\Q (.str<|sOf ys.flatten) H) (tC<|.str x)<|ah ta aE) σ W (sh isS) (ma.bind fun a=>iK a):=fun W1 e1 Q k=>
 ⟨by show B3 K "str" (.str x) W1.H;rfl,ha W1 e1 _ ((Cn k).imp fun a ka v W2 e2 hv=>by
  obtain⟨p,vs,rfl,h1,h2⟩:=hv;obtain⟨h3,h4⟩:=aO ka;exact⟨p,a,by rw[hx],rfl,Ep (by rw[h1,h2.str]),h3,h4 _ W2 e2 rfl⟩)⟩
end
abbrev Rt(β:Type):=Wd->β->VK->Prop
def rs{β:Type}(R:Rp β):Rt β:=fun W r Q=>∀u W',Ext W W'->R W'.G r u->Q u W'.H
def ro{β:Type}(R:Rp β):Rt (List β):=fun W r Q=>∀p W',Ext W W'->W.H p=none->Ow R W' p r->Q (.ref p) W'.H
section
variable{α β γ δ ε ζ:Type}
def dG(R1:Rp α)(rt:Rt β)(m:α->Res β):Sp:=fun vs H Q _=>∃(W:Wd)(a:α)(v:V),W.H=H/\vs=[v]/\R1 W.G a v/\∃Er:Nat->Prop,(m a).OkE Er fun r=>rt W r Q
def bS(R1:Rp α)(R2:Rp γ)(rt:Rt β)(m:α->γ->Res β):Sp:=fun vs H Q _=>∃(W:Wd)(a:α)(b:γ)(v u:V),W.H=H/\vs=[v,u]/\R1 W.G a v/\R2 W.G b u/\∃Er:Nat->Prop,(m a b).OkE Er fun r=>rt W r Q
def mj(R1:Rp α)(R2:Rp γ)(R3:Rp δ)(rt:Rt β)(m:α->γ->δ->Res β):Sp:=fun vs H Q _=>∃(W:Wd)(a:α)(b:γ)(c:δ)(v u w:V),W.H=H/\vs=[v,u,w]/\R1 W.G a v/\R2 W.G b u/\R3 W.G c w/\∃Er:Nat->Prop,(m a b c).OkE Er fun r=>rt W r Q
variable{t t1 t2 t3 t4 t5:TE}{σ:St}{W W0 W':Wd}{K:Cq}
section
variable{R1:Rp α}{R2:Rp γ}{R3:Rp δ}{R4:Rp ε}{R5:Rp ζ}[Mono R1][Mono R2][Mono R3][Mono R4][Mono R5]{m1:Res α}{m2:Res γ}{m3:Res δ}{m4:Res ε}{m5:Res ζ}{E:XK}
theorem cY{R:Rp β}{m:α->Res β}(h1:EV Er t1 σ W (sh R1) m1):EV Er (aI (dG R1 (rs R) m) [] E<|ah t1 aE) σ W (sh R) (m1.bind fun a=>m a):=fun W1 e1 Q k=>
 h1 W1 e1 _ ((Cn k).imp fun a ka v W2 e2 hv=>⟨W2,a,v,rfl,rfl,hv,Er,ka.imp fun r kr u W' e hu=>kr u W' (e2.trans e) hu⟩)
theorem bC{R:Rp β}{m:α->γ->Res β}(h1:EV Er t1 σ W (sh R1) m1)(h2:EV Er t2 σ W (sh R2) m2):EV Er (aI (bS R1 R2 (rs R) m) [] E<|ah t1<|ah t2 aE) σ W (sh R) (m1.bind fun a=>m2.bind fun b=>m a b):=fun W1 e1 Q k=>
 h1 W1 e1 _ ((Cn k).imp fun a ka v W2 e2 hv=>h2 W2 (e1.trans e2) _<|(Cn ka).imp fun b kb u W3 e3 hu=>⟨W3,a,b,v,u,rfl,rfl,MonoW.mono (R:=sh R1) e3 hv,hu,Er,kb.imp fun r kr u W' e hu=>kr u W' ((e2.trans e3).trans e) hu⟩)
theorem kG{R:Rp β}{m:α->γ->Res (List β)}(h1:EV Er t1 σ W (sh R1) m1)(h2:EV Er t2 σ W (sh R2) m2):EVo Er (aI (bS R1 R2 (ro R) m) [] E<|ah t1<|ah t2 aE) σ W R (m1.bind fun a=>m2.bind fun b=>m a b):=fun W1 e1 Q k=>
 h1 W1 e1 _ ((Cn k).imp fun a ka v W2 e2 hv=>h2 W2 (e1.trans e2) _<|(Cn ka).imp fun b kb u W3 e3 hu=>⟨W3,a,b,v,u,rfl,rfl,MonoW.mono (R:=sh R1) e3 hv,hu,Er,kb.imp fun r kr p W' e hp o=>kr p W' ((e2.trans e3).trans e) (none_of (e2.trans e3).h hp) o⟩)
theorem ip{R:Rp β}{m:α->γ->δ->Res (List β)}(h1:EV Er t1 σ W (sh R1) m1)(h2:EV Er t2 σ W (sh R2) m2)(h3:EV Er t3 σ W (sh R3) m3):EVo Er (aI (mj R1 R2 R3 (ro R) m) [] E<|ah t1<|ah t2<|ah t3 aE) σ W R (m1.bind fun a=>m2.bind fun b=>m3.bind fun c=>m a b c):=fun W1 e1 Q k=>
 h1 W1 e1 _ ((Cn k).imp fun a ka v W2 e2 hv=>h2 W2 (e1.trans e2) _ ((Cn ka).imp fun b kb u W3 e3 hu=>h3 W3 ((e1.trans e2).trans e3) _ ((Cn kb).imp fun c kc w W4 e4 hw=>
  ⟨W4,a,b,c,v,u,w,rfl,rfl,MonoW.mono (R:=sh R1) (e3.trans e4) hv,MonoW.mono (R:=sh R2) e4 hu,hw,Er,kc.imp fun r kr p W' e hp o=>kr p W' (((e2.trans e3).trans e4).trans e) (none_of ((e2.trans e3).trans e4).h hp) o⟩)))
end
def Yl(J:It)(W:Wd)(R:Rp α)(xs:List α):Prop:=∀W1:Wd,Same W.G W1.G->(∀(i:Nat)(a:α),xs[i]? =some a->J.go i W1.H/\∀x H',J.yld i W1.H x H'->∃W2:Wd,W2.H=H'/\Ext W1 W2/\R W2.G a x)/\J.stop xs.length W1.H
def IV(Er:Nat->Prop)(wi:TI)(σ:St)(W:Wd)(R:Rp α)(m:Res (List α)):Prop:=∀W1,Ext W W1->∀P:It->Hp->Prop,m.OkE Er (fun xs=>∀J W2,Ext W1 W2->Yl J W2 R xs->P J W2.H)->wi σ W1.H P
theorem dX{R:Rp α}[Mono R]{m:Res (List α)}(h:EV Er t σ W (sh<|isL R) m):IV Er (lP K t) σ W R m:=fun W1 e1 P k=>
 h W1 e1 _ (k.imp fun xs kx v W2 e2 hv=>by
  obtain⟨p,vs,rfl,h1,h2⟩:=hv;refine⟨p,rfl,⟨vs,Ep (W2.ok _ _ h1)⟩,kx _ W2 e2 fun W3 e3=>⟨fun i a ha=>?_,vs,Ep (W3.ok _ _ (e3 _ _ h1)),by rw[h2.1];exact CK _⟩⟩;obtain⟨x,hx,hr⟩:=h2.get ha;refine⟨⟨vs,x,Ep (W3.ok _ _ (e3 _ _ h1)),hx⟩,fun y H'⟨z1,z2⟩=>⟨W3,z1.symm,.refl _,?_⟩⟩;have:=z2 vs (Ep (W3.ok _ _ (e3 _ _ h1)));rw[hx]at this;cases this;exact Cp e3 hr)
theorem gH{m:Res Tx}(h:EV Er t σ W (sh isS) m):IV Er (zo t) σ W isS (m.bind fun x=>.ok<|aF x):=fun W1 e1 P k=>
 h W1 e1 _ ((Cn k).imp fun x kx v W2 e2 hv=>by
  cases hv;refine⟨x,rfl,kx _ W2 e2 fun W3 e3=>⟨fun i a ha=>?_,by show x.length<=(aF x).length;simp[aF]⟩⟩;unfold aF at ha;rw[DJ]at ha;cases hc:x[i]? with
  |none=>rw[hc]at ha;cases ha
  |some c=>
   rw[hc]at ha;cases ha;refine⟨(Cy.mp hc).1,fun y H'⟨z1,c',z2,z3⟩=>⟨W3,z1.symm,.refl _,?_⟩⟩;rw[hc]at z2;cases z2;exact z3)
theorem gV{m:Res Int}(h:EV Er t σ W (sh isI) m):IV Er (rH<|ah t aE) σ W isI (m.bind fun n=>fP n):=fun W1 e1 P k=>
 h W1 e1 _ ((Cn k).imp fun n kn v W2 e2 hv=>by
  cases hv;obtain⟨hb,kn⟩:=aO kn;refine⟨n,rfl,hb.1,hb.2,kn _ W2 e2 fun W3 e3=>⟨fun i a ha=>?_,by show n.toNat<=(eI n).length;simp[eI]⟩⟩;unfold eI at ha;rw[DJ]at ha;have hi:i<n.toNat:=by
   refine FH fun z=>?_;rw[DB.mpr (by simp;omega)]at ha;cases ha
  rw[Ie hi]at ha;cases ha;exact⟨hi,fun y H'⟨z1,z2⟩=>⟨W3,z1.symm,.refl _,by rw[z2];show G8 (0+(i:Int))=.int (i:Int);rw[Int.zero_add]⟩⟩)
def SrcR(K:Cq)(W:Wd)(R:Rp α)(xs:List α)(v:V):Prop:=∃(c:Src)(vs:List V),v=c.val/\(∀W1:Wd,Same W.G W1.G->c.has K W1.H vs)/\LR R W.G xs vs
theorem SrcR.mono{R:Rp α}[Mono R]{xs:List α}{v:V}(h:SrcR K W R xs v)(e:Same W.G W'.G):SrcR K W' R xs v:=by
 obtain⟨c,vs,h1,h2,h3⟩:=h;exact⟨c,vs,h1,fun W1 e1=>h2 W1<|e.trans e1,h3.same e⟩
def SV(Er:Nat->Prop)(t:TE)(σ:St)(W:Wd)(K:Cq)(R:Rp α)(m:Res (List α)):Prop:=EV Er t σ W (fun W xs v=>SrcR K W R xs v) m
theorem gI{R:Rp α}[Mono R]{m:Res (List α)}(h:EV Er t σ W (sh<|isL R) m):SV Er t σ W K R m:=h.imp fun W xs v⟨p,vs,h0,h1,h2⟩=>⟨.lst p,vs,h0,fun W1 e1=>Ep<|W1.ok _ _<|e1 _ _ h1,h2⟩
theorem sQ{H:Hp}(x:Tx):LR isS H (aF x) (x.map fun c=>FZ<|sOf [c]):=⟨by simp[aF],fun i v m e1 e2=>by
 unfold aF at e2;rw[DJ]at e1 e2;cases hc:x[i]? with
 |none=>rw[hc]at e1;cases e1
 |some c=>rw[hc]at e1 e2;cases e1;cases e2;rfl⟩
theorem ju{m:Res Tx}(h:EV Er t σ W (sh isS) m):SV Er t σ W K isS (m.bind fun x=>.ok<|aF x):=fun W1 e1 Q k=>
 h W1 e1 _ ((Cn k).imp fun x kx v W2 e2 hv=>by cases hv;exact kx _ W2 e2 ⟨.str x,_,rfl,fun _ _=>rfl,sQ x⟩)
theorem lE{R1:Rp α}{R2:Rp β}[Mono R1][Mono R2]{m1:Res (List α)}{m2:Res (List β)}(h1:SV Er t1 σ W K R1 m1)(h2:SV Er t2 σ W K R2 m2):IV Er (vI K<|ah t1<|ah t2 aE) σ W (isT2 K R1 R2) (m1.bind fun xs=>m2.bind fun ys=>.ok<|xs.zip ys):=fun W1 e1 P k=>
 h1 W1 e1 _ ((Cn k).imp fun xs kx v W2 e2 hv=>h2 W2 (e1.trans e2) _ ((Cn kx).imp fun ys ky u W3 e3 hu=>by
  obtain⟨c1,vs,rfl,a1,b1⟩:=SrcR.mono hv e3.g;obtain⟨c2,us,rfl,a2,b2⟩:=hu;refine⟨c1,c2,vs,us,rfl,a1 W3<|.refl _,a2 W3<|.refl _,ky _ W3 (e2.trans e3) fun W4 e4=>⟨fun i ab hab=>?_,?_⟩⟩
  ·rw[EB]at hab;obtain⟨x,hx,rx⟩:=b1.get hab.1;obtain⟨y,hy,ry⟩:=b2.get hab.2;refine⟨⟨vs,us,x,y,a1 W4 e4,a2 W4 e4,hx,hy⟩,fun z H'⟨p,x',y',hp,z0,z1,z2,z3⟩=>⟨W4.new p<|.tup [x',y'],by rw[z3];rfl,.new _ hp,p,x',y',z0,IG ai,?_,?_⟩⟩
   ·have:=z1 vs<|a1 W4 e4;rw[hx]at this;cases this;exact Cp (e4.trans (Ext.new _ hp).g) rx
   ·have:=z2 us<|a2 W4 e4;rw[hy]at this;cases this;exact Cp (e4.trans (Ext.new _ hp).g) ry
  ·refine⟨vs,us,a1 W4 e4,a2 W4 e4,?_⟩;rw[FP,b1.1,b2.1];omega))
theorem sR{xs:List α}{i:Nat}{p:Int×α}(h:(gB xs)[i]? =some p):p.1=(i:Int)/\xs[i]? =some p.2:=by
 unfold gB at h;rw[HM]at h;cases h1:(EM xs.length)[i]? with
 |none=>rw[h1]at h;cases h
 |some j=>
  cases h2:xs[i]? with
  |none=>rw[h1,h2]at h;cases h
  |some x=>
   rw[h1,h2]at h;cases h;have hi:=(Cy.mp h2).1;rw[Ie hi]at h1;cases h1;exact⟨rfl,rfl⟩
theorem sS{xs:List α}:(gB xs).length=xs.length:=by simp[gB]
theorem oX{R:Rp α}[Mono R]{m:Res (List α)}(h:EV Er t σ W (sh<|isL R) m):IV Er (xo K<|ah t aE) σ W (isT2 K isI R) (m.bind fun xs=>.ok<|gB xs):=fun W1 e1 P k=>
 h W1 e1 _ ((Cn k).imp fun xs kx v W2 e2 hv=>by
  obtain⟨p,vs,rfl,h1,h2⟩:=hv;refine⟨p,vs,rfl,Ep (W2.ok _ _ h1),kx _ W2 e2 fun W3 e3=>⟨fun i ab hab=>?_,vs,Ep (W3.ok _ _ (e3 _ _ h1)),by rw[sS,h2.1]⟩⟩;obtain⟨hi,ha⟩:=sR hab;obtain⟨x,hx,rx⟩:=h2.get ha;refine⟨⟨vs,x,Ep (W3.ok _ _ (e3 _ _ h1)),hx⟩,fun z H'⟨q,x',hq,z0,z1,z2⟩=>⟨W3.new q (.tup [.int i,x']),by rw[z2];rfl,.new _ hq,q,_,x',z0,IG ai,by rw[hi];rfl,?_⟩⟩;have:=z1 vs (Ep (W3.ok _ _ (e3 _ _ h1)));rw[hx]at this;cases this;exact Cp (e3.trans (Ext.new _ hq).g) rx)
theorem kH{f:α->Res β}{xs:List α}{i:Nat}{a:α}(h:xs[i]? =some a):ik f (xs.drop i)=(f a).bind fun b=>(ik f<|xs.drop<|i+1).bind fun bs=>.ok (b::bs):=by
 obtain⟨hi,e⟩:=Cy.mp h;rw[EU hi,e];rfl
theorem jv{f:α->Res (Option β)}{xs:List α}{i:Nat}{a:α}(h:xs[i]? =some a):fD f (xs.drop i)=(f a).bind fun b=>(fD f<|xs.drop<|i+1).bind fun bs=>.ok (match b with|some b=>b::bs|none=>bs):=by
 obtain⟨hi,e⟩:=Cy.mp h;rw[EU hi,e];rfl
theorem cf{cap:List (Option Nat)}{wi:TI}{g:TG}{te:TE}{R:Rp α}{R':Rp β}[Mono R']{m:Res (List α)}{f:α->Res β}(hi:IV Er wi σ W R m)
  (hb:∀(W1:Wd)(a:α)(v:V),Ext W W1->R W1.G a v->∀Q:VK,(f a).OkE Er (fun b=>∀u W2,Ext W1 W2->R' W2.G b u->Q u W2.H)->g v (aW cap σ) W1.H fun σ2 H2=>Keep (aW cap σ) σ2/\te σ2 H2 Q):
  EVo Er (jk cap wi g xU te) σ W R' (m.bind fun xs=>bo xs f):=fun W1 e1 Q k=>by
 refine hi W1 e1 _<|(Cn k).imp fun xs kx J W2 e2 hy=>?_;obtain⟨hl,kx⟩:=aO<|Cn kx;refine⟨fun i n ys H=>n=xs.length-i/\i<=xs.length/\ys.length<=i/\∃(W3:Wd)(bs:List β),W3.H=H/\Ext W2 W3/\LR R' W3.G bs ys/\(ik f<|xs.drop i).OkE Er (fun r=>∀p W4,Ext W1 W4->W1.H p=none->Ow R' W4 p (bs++r)->Q (.ref p) W4.H),⟨xs.length,by simp,by simp,by simp,W2,[],rfl,.refl _,.nil,?_⟩,?_⟩;·simpa using kx
 ·rintro i n ys H ⟨rfl,hi1,hyl,W3,bs,rfl,e3,lr,q⟩;refine⟨by rw[DK];unfold Mi.cap at hl;omega,?_⟩;by_cases hlt:i<xs.length
  ·obtain⟨a,ha⟩:∃a,xs[i]? =some a:=⟨xs[i],by simp[hlt]⟩
   obtain⟨h1,h2⟩:=(hy W3 e3.g).1 i a ha;refine .inr ⟨h1,fun ys' H'=>ys'.length<=i+1/\∃(W3:Wd)(bs:List β),W3.H=H'/\Ext W2 W3/\LR R' W3.G bs ys'/\(ik f<|xs.drop<|i+1).OkE Er (fun r=>∀p W4,Ext W1 W4->W1.H p=none->Ow R' W4 p (bs++r)->Q (.ref p) W4.H),fun ys' H'⟨z1,z2⟩=>⟨xs.length-(i+1),by omega,rfl,hlt,z1,z2⟩,fun x H' hx=>?_⟩;obtain⟨W4,rfl,e4,rx⟩:=h2 x H' hx;rw[kH ha]at q;have:=hb W4 a x (e1.trans<|(e2.trans e3).trans e4) rx (fun y H4=>(ys++[y]).length<=i+1/\∃(W3:Wd)(bs:List β),W3.H=H4/\Ext W2 W3/\LR R' W3.G bs (ys++[y])/\(ik f<|xs.drop<|i+1).OkE Er (fun r=>∀p W4,Ext W1 W4->W1.H p=none->Ow R' W4 p (bs++r)->Q (.ref p) W4.H))
    ((Cn q).imp fun b kb u W5 e5 hu=>⟨by simp;exact hyl,W5,bs++[b],rfl,(e3.trans e4).trans e5,(lr.same (e4.trans e5).g).snoc hu,(Cn kb).imp fun r kr=>by rw[EH];exact kr⟩)
   exact this
  ·have e:i=xs.length:=by omega
   subst e;rw[Fg]at q;refine .inl ⟨(hy W3 e3.g).2,fun D hD=>?_⟩;have e13:=e2.trans e3;have:=q D (W3.mut D (.lst ys)<|W3.gnone hD) (e13.trans<|.own _ hD) (none_of e13.h hD) ⟨W3.gnone hD,ys,ai,by rw[Dh];exact lr⟩;exact this
theorem sT{cap:List (Option Nat)}{wi:TI}{g:TG}{tf:TT}{te:TE}{R:Rp α}{R':Rp β}[Mono R']{m:Res (List α)}{f:α->Res (Option β)}(hi:IV Er wi σ W R m)
    (hb:∀(W1:Wd)(a:α)(v:V),Ext W W1->R W1.G a v->∀Q:Option V->Hp->Prop,(f a).OkE Er (fun b=>∀u W2,Ext W1 W2->(match b,u with|some b,some u=>R' W2.G b u|none,none=>True|_,_=>False)->Q u W2.H)->g v (aW cap σ) W1.H fun σ2 H2=>Keep (aW cap σ) σ2/\tf σ2 H2 fun b H3=>if b=true then te σ2 H3 (fun y H4=>Q (some y) H4)else Q none H3):
    EVo Er (jk cap wi g tf te) σ W R' (m.bind fun xs=>jr xs f):=fun W1 e1 Q k=>by
  refine hi W1 e1 _<|(Cn k).imp fun xs kx J W2 e2 hy=>?_;obtain⟨hl,kx⟩:=aO<|Cn kx;refine⟨fun i n ys H=>n=xs.length-i/\i<=xs.length/\ys.length<=i/\∃(W3:Wd)(bs:List β),W3.H=H/\Ext W2 W3/\LR R' W3.G bs ys/\(fD f<|xs.drop i).OkE Er (fun r=>∀p W4,Ext W1 W4->W1.H p=none->Ow R' W4 p (bs++r)->Q (.ref p) W4.H),⟨xs.length,by simp,by simp,by simp,W2,[],rfl,.refl _,.nil,?_⟩,?_⟩;·simpa using kx
  · rintro i n ys H ⟨rfl,hi1,hyl,W3,bs,rfl,e3,lr,q⟩;refine⟨by rw[DK];unfold Mi.cap at hl;omega,?_⟩;by_cases hlt:i<xs.length
    · obtain⟨a,ha⟩:∃a,xs[i]? =some a:=⟨xs[i],by simp[hlt]⟩
      obtain⟨h1,h2⟩:=(hy W3 e3.g).1 i a ha;refine .inr ⟨h1,fun ys' H'=>ys'.length<=i+1/\∃(W3:Wd)(bs:List β),W3.H=H'/\Ext W2 W3/\LR R' W3.G bs ys'/\(fD f<|xs.drop<|i+1).OkE Er (fun r=>∀p W4,Ext W1 W4->W1.H p=none->Ow R' W4 p (bs++r)->Q (.ref p) W4.H),fun ys' H'⟨z1,z2⟩=>⟨xs.length-(i+1),by omega,rfl,hlt,z1,z2⟩,fun x H' hx=>?_⟩;obtain⟨W4,rfl,e4,rx⟩:=h2 x H' hx;rw[jv ha]at q
      have:=hb W4 a x (e1.trans<|(e2.trans e3).trans e4) rx (fun y H4=>(match y with|some y=>ys++[y]|none=>ys).length<=i+1/\∃(W3:Wd)(bs:List β),W3.H=H4/\Ext W2 W3/\LR R' W3.G bs (match y with|some y=>ys++[y]|none=>ys)/\(fD f<|xs.drop<|i+1).OkE Er (fun r=>∀p W4,Ext W1 W4->W1.H p=none->Ow R' W4 p (bs++r)->Q (.ref p) W4.H))
        ((Cn q).imp fun b kb u W5 e5 hu=>by
          match b,u,hu,kb with
          |some b,some u,hu,kb=>exact⟨by simp;exact hyl,W5,bs++[b],rfl,(e3.trans e4).trans e5,(lr.same (e4.trans e5).g).snoc hu,(Cn kb).imp fun r kr=>by rw[EH];exact kr⟩
          |none,none,hu,kb=>exact⟨by show ys.length<=i+1;omega,W5,bs,rfl,(e3.trans e4).trans e5,lr.same (e4.trans e5).g,(Cn kb).imp fun r kr=>kr⟩)
      exact this
    · have e:i=xs.length:=by omega
      subst e;rw[Fg]at q;refine .inl ⟨(hy W3 e3.g).2,fun D hD=>?_⟩;have e13:=e2.trans e3;have:=q D (W3.mut D (.lst ys)<|W3.gnone hD) (e13.trans<|.own _ hD) (none_of e13.h hD) ⟨W3.gnone hD,ys,ai,by rw[Dh];exact lr⟩;exact this
end
section
variable{α β γ δ:Type}{t u:TS}{te ti:TE}{g:TG}{D:Ends}{σ:St}{W W0 W':Wd}{K:Cq}{i j k n:Nat}{P:St->Hp->Prop}{H:Hp}{v:V}
theorem gn{σ':St}(h:P σ' H)(hσ:σ.set i (some v)=σ':=by rfl):aH i v σ H P:=by subst hσ;exact h
theorem lF{σ':V->V->St}{R1:Rp α}{R2:Rp β}{ab:α×β}(h:isT2 K R1 R2 W.G ab v)(q:∀x y,R1 W.G ab.1 x->R2 W.G ab.2 y->P (σ' x y) W.H)(hσ:∀x y,(σ.set i<|some x).set j (some y)=σ' x y:=by intro _ _;rfl):cj K 2 (ba (aH i)<|ba (aH j) cx) v σ W.H P:=by
 obtain⟨p,x,y,h0,h,h1,h2⟩:=h;exact⟨p,_,h0,Same.tup W.ok h,rfl,x,_,rfl,y,_,rfl,rfl,by have:=q x y h1 h2;rw[<-hσ]at this;exact this⟩
theorem sU{σ':V->V->V->St}{R1:Rp α}{R2:Rp β}{R3:Rp γ}{ab:α×β×γ}(h:isT3 K R1 R2 R3 W.G ab v)(q:∀x y z,R1 W.G ab.1 x->R2 W.G ab.2.1 y->R3 W.G ab.2.2 z->P (σ' x y z) W.H)(hσ:∀x y z,((σ.set i<|some x).set j (some y)).set k (some z)=σ' x y z:=by intro _ _ _;rfl):cj K 3 (ba (aH i)<|ba (aH j)<|ba (aH k) cx) v σ W.H P:=by
 obtain⟨p,x,y,z,h0,h,h1,h2,h3⟩:=h;exact⟨p,_,h0,Same.tup W.ok h,rfl,x,_,rfl,y,_,rfl,z,_,rfl,rfl,by have:=q x y z h1 h2 h3;rw[<-hσ]at this;exact this⟩
theorem gJ{σ':V->St}{R:Rw α}{m:Res α}(h:EV Er te σ W R m)(q:m.OkE Er fun a=>∀v W',Ext W W'->R W' a v->D.nx (σ' v) W'.H)(hσ:∀v,σ.set i (some v)=σ' v:=by intro _;rfl):bD te (aH i) D σ W.H:=h W (.refl _) _ (q.imp fun a k v W' e r=>by have:=k v W' e r;rw[<-hσ]at this;exact this)
theorem vU{σ':Addr->St}{R:Rp α}{m:Res (List α)}(h:EVo Er te σ W R m)(q:m.OkE Er fun a=>∀p W',Ext W W'->W.H p=none->Ow R W' p a->D.nx (σ' p) W'.H)(hσ:∀p,σ.set i (some<|.ref p)=σ' p:=by intro _;rfl):bD te (aH i) D σ W.H:=h W (.refl _) _ (q.imp fun a k p W' e hp r=>by have:=k p W' e hp r;rw[<-hσ]at this;exact this)
theorem aV{R:Rw α}{m:Res α}(h:EV Er te σ W R m)(q:m.OkE Er fun a=>∀v W',Ext W W'->R W' a v->D.rt v W'.H):cg te D σ W.H:=h W (.refl _) _ q
theorem gh{R:Rp α}{m:Res (List α)}(h:EVo Er te σ W R m)(q:m.OkE Er fun a=>∀p W',Ext W W'->W.H p=none->Ow R W' p a->D.rt (.ref p) W'.H):cg te D σ W.H:=h W (.refl _) _ q
theorem sV{c:TT}{m:Res Bool}(h:TV Er c σ W m)(q:m.OkE Er fun b=>∀W',Ext W W'->if b=true then t D σ W'.H else u D σ W'.H):i9 c t u D σ W.H:=h W (.refl _) _ q
theorem sW{S:Type}{c:TT}{m:Res Bool}{mA mB:Res S}{P:S->Prop}(Iv:S->Wd->St->Prop)(h:TV Er c σ W m)(q:(m.bind fun b=>if b then mA else mB).OkE Er P)
  (hA:∀W'(N:St->Hp->Prop),Ext W W'->(∀s W1 σ1,Same W.G W1.G->Iv s W1 σ1->P s->N σ1 W1.H)->mA.OkE Er P->t {D with nx:=N} σ W'.H)
  (hB:∀W'(N:St->Hp->Prop),Ext W W'->(∀s W1 σ1,Same W.G W1.G->Iv s W1 σ1->P s->N σ1 W1.H)->mB.OkE Er P->u {D with nx:=N} σ W'.H)
  (hd:∀s W1 σ1,Same W.G W1.G->Iv s W1 σ1->P s->D.nx σ1 W1.H):i9 c t u D σ W.H:=h W (.refl _) _ ((Cn q).imp fun b kb W' e=>by
 cases b with
 |true=>exact hA W' D.nx e hd kb
 |false=>exact hB W' D.nx e hd kb)
structure Mu(W W':Wd)(p:Addr):Prop where
 g:Same W.G W'.G
 e:∀W0:Wd,Ext W0 W->W0.H p=none->Ext W0 W'
 h:∀q,q≠p->W.H q≠none->W'.H q=W.H q/\W'.G q=W.G q
theorem Mu.of{W1:Wd}{p:Addr}{o:HO}(e1:Ext W W1)(hg:W1.G p=none):Mu W (W1.mut p o hg) p:=⟨e1.g,fun W0 e0 hp=>(e0.trans e1).mut hp hg,fun q hq hn=>by
 obtain⟨o',ho⟩:=FD.mp hn;exact⟨by show bP W1.H p o q=_;rw[ag hq,e1.h _ _ ho,ho],e1.k q hn⟩⟩
theorem lG{R:Rp α}[Mono R]{p:Addr}{xs:List α}{m:Res α}(o:Ow R W p xs)(h:EV Er te σ W (sh R) m)(q:(m.bind fun a=>fI xs a).OkE Er fun ys=>∀W',Mu W W' p->Ow R W' p ys->D.nx σ W'.H)(hi:σ[i]? =some (some<|.ref p):=by rfl):aT (dU K "list" aw (aU i)<|ah te aE) D σ W.H:=by
 obtain⟨vs,h1,h2⟩:=o.h;refine⟨.ref p,hi,.inl ⟨rfl,vs,Ep h1⟩,h W (.refl _) _<|(Cn q).imp fun a ka v W2 e2 hv=>?_⟩;obtain⟨h3,h4⟩:=aO ka;have hg:=(o.mono e2).g;refine⟨p,vs,v,rfl,rfl,e2.h _ _ h1,by rw[h2.1,DK];unfold Mi.cap at h3;omega,h4 (W2.mut p (.lst<|vs++[v]) hg) (.of e2 hg) ⟨hg,_,ai,(h2.same e2.g).snoc hv⟩⟩
theorem LR.set{R:Rp α}{H:Hp}{as:List α}{vs:List V}{a:α}{v:V}(h:LR R H as vs)(r:R H a v)(j:Nat):LR R H (as.set j a) (vs.set j v):=⟨by simp[h.1],fun i x m e1 e2=>by
 rw[Fx]at e1 e2;by_cases z:j=i
 ·rw[if_pos z]at e1 e2;split at e1
  ·split at e2;·cases e1;cases e2;exact r
   ·cases e2
  ·cases e1
 ·rw[if_neg z]at e1 e2;exact h.2 i x m e1 e2⟩
theorem vV{R:Rp α}[Mono R]{p:Addr}{xs:List α}{m:Res α}{mi:Res Int}(o:Ow R W p xs)(h:EV Er te σ W (sh R) m)(hj:EV Er ti σ W (sh isI) mi)(q:(m.bind fun a=>mi.bind fun j=>jq xs j a).OkE Er fun ys=>∀W',Mu W W' p->Ow R W' p ys->D.nx σ W'.H)(hi:σ[i]? =some (some<|.ref p):=by rfl):bD te (pZ (aU i) ti km) D σ W.H:=by
 obtain⟨vs,h1,h2⟩:=o.h;refine h W (.refl _) _<|(Cn q).imp fun a ka v W2 e2 hv=>⟨.ref p,hi,hj W2 e2 _<|(Cn ka).imp fun j kj x W3 e3 hx=>?_⟩;cases hx;obtain⟨l,h3,h4⟩:=dD<|Cn kj;have e:=e2.trans e3;have hg:=(o.mono e).g;exact⟨p,vs,j,l,rfl,rfl,e.h _ _ h1,by rw[h2.1];exact h3,h4 (W3.mut p (.lst<|vs.set l v) hg) (.of e hg) ⟨hg,_,ai,(h2.same e.g).set (Cp (R:=R) e3.g hv) l⟩⟩
def sX{S:Type}(W:Wd)(Iv:S->Wd->St->Prop)(P:S->Prop):St->Hp->Prop:=fun σ' H'=>∃s' W',W'.H=H'/\Same W.G W'.G/\Iv s' W' σ'/\P s'
theorem qv{S:Type}{f:α->S->Res S}{xs:List α}{i:Nat}{a:α}{s:S}(h:xs[i]? =some a):bJ f (xs.drop i) s=(f a s).bind fun s=>bJ f (xs.drop<|i+1) s:=by
 obtain⟨hi,e⟩:=Cy.mp h;rw[EU hi,e];rfl
theorem sY{S:Type}{wi:TI}{tb:TS}{R:Rp α}{m:Res (List α)}{f:α->S->Res S}{s0:S}{P:S->Prop}(Iv:S->Wd->St->Prop)(hi:IV Er wi σ W R m)(q:(m.bind fun xs=>bJ f xs s0).OkE Er P)
  (h0:∀W1,Ext W W1->Iv s0 W1 σ)
  (hs:∀Wb W1 W2 a v s σ1 P',Same W.G W1.G->Same Wb.G W1.G->Iv s W1 σ1->Ext W1 W2->R W2.G a v->(f a s).OkE Er P'->g v σ1 W2.H fun σ2 H2=>tb {D with nx:=sX Wb Iv P',ct:=sX Wb Iv P',bk:=D.nx} σ2 H2)
  (hd:∀s W1 σ1,Same W.G W1.G->Iv s W1 σ1->P s->D.nx σ1 W1.H):rJ wi g tb D σ W.H:=by
 refine hi W (.refl _) _<|(Cn q).imp fun xs kx J W1 e1 hy=>?_;refine⟨fun i n σ' H'=>n=xs.length-i/\i<=xs.length/\∃s' W',W'.H=H'/\Same W1.G W'.G/\Iv s' W' σ'/\(bJ f (xs.drop i) s').OkE Er P,⟨xs.length,by simp,by simp,s0,W1,rfl,.refl _,h0 W1 e1,by simpa using kx⟩,?_⟩;rintro i n σ1 H1 ⟨rfl,hi1,s,W2,rfl,e2,iv,k⟩;by_cases hlt:i<xs.length
 ·obtain⟨a,ha⟩:∃a,xs[i]? =some a:=⟨xs[i],by simp[hlt]⟩
  obtain⟨h1,h2⟩:=(hy W2 e2).1 i a ha;refine .inr ⟨h1,sX W1 Iv fun s'=>(bJ f (xs.drop<|i+1) s').OkE Er P,fun σ' H'⟨s',W',z1,z2,z3,z4⟩=>⟨xs.length-(i+1),by omega,rfl,hlt,s',W',z1,z2,z3,z4⟩,fun x H' hx=>?_⟩;obtain⟨W3,rfl,e3,rx⟩:=h2 x H' hx;rw[qv ha]at k;exact hs W1 W2 W3 a x s σ1 (fun s'=>(bJ f (xs.drop<|i+1) s').OkE Er P) (e1.g.trans e2) e2 iv e3 rx<|Cn k
 ·have e:i=xs.length:=by omega
  subst e;rw[Fg]at k;exact .inl ⟨(hy W2 e2).2,hd s W2 σ1 (e1.g.trans e2) iv k⟩
theorem qw{S:Type}{f:α->S->Res (Fl γ S)}{xs:List α}{i:Nat}{a:α}{s:S}(h:xs[i]? =some a):il f (xs.drop i) s=(f a s).bind (zy<|il f<|xs.drop<|i+1):=by
 obtain⟨hi,e⟩:=Cy.mp h;rw[EU hi,e];rfl
theorem vW{S:Type}{wi:TI}{tb:TS}{R:Rp α}{m:Res (List α)}{f:α->S->Res (Fl γ S)}{s0:S}{P:Fl γ S->Prop}(Iv:S->Wd->St->Prop)(hi:IV Er wi σ W R m)(q:(m.bind fun xs=>il f xs s0).OkE Er P)
  (h0:∀W1,Ext W W1->Iv s0 W1 σ)
  (hs:∀Wb W1 W2 a v s σ1 P',Same W.G W1.G->Same Wb.G W1.G->Iv s W1 σ1->Ext W1 W2->R W2.G a v->(∀r,P' (.rt r)->P (.rt r))->(f a s).OkE Er P'->g v σ1 W2.H fun σ2 H2=>tb {D with nx:=sX Wb Iv fun s'=>P'<|.nx s',ct:=sX Wb Iv fun s'=>P'<|.nx s',bk:=D.nx} σ2 H2)
  (hd:∀s W1 σ1,Same W.G W1.G->Iv s W1 σ1->P (.nx s)->D.nx σ1 W1.H):rJ wi g tb D σ W.H:=by
 refine hi W (.refl _) _<|(Cn q).imp fun xs kx J W1 e1 hy=>?_;refine⟨fun i n σ' H'=>n=xs.length-i/\i<=xs.length/\∃s' W',W'.H=H'/\Same W1.G W'.G/\Iv s' W' σ'/\(il f (xs.drop i) s').OkE Er P,⟨xs.length,by simp,by simp,s0,W1,rfl,.refl _,h0 W1 e1,by simpa using kx⟩,?_⟩;rintro i n σ1 H1 ⟨rfl,hi1,s,W2,rfl,e2,iv,k⟩;by_cases hlt:i<xs.length
 ·obtain⟨a,ha⟩:∃a,xs[i]? =some a:=⟨xs[i],by simp[hlt]⟩
  obtain⟨h1,h2⟩:=(hy W2 e2).1 i a ha;refine .inr ⟨h1,sX W1 Iv fun s'=>(il f (xs.drop<|i+1) s').OkE Er P,fun σ' H'⟨s',W',z1,z2,z3,z4⟩=>⟨xs.length-(i+1),by omega,rfl,hlt,s',W',z1,z2,z3,z4⟩,fun x H' hx=>?_⟩;obtain⟨W3,rfl,e3,rx⟩:=h2 x H' hx;rw[qw ha]at k;exact hs W1 W2 W3 a x s σ1 (fun fl=>match fl with| .nx s'=>(il f (xs.drop<|i+1) s').OkE Er P| .bk s'=>P (.nx s')| .rt r=>P<|.rt r) (e1.g.trans e2) e2 iv e3 rx (fun r h=>h) ((Cn k).imp fun fl h=>by cases fl<;>exact h)
 ·have e:i=xs.length:=by omega
  subst e;rw[Fg]at k;exact .inl ⟨(hy W2 e2).2,hd s W2 σ1 (e1.g.trans e2) iv k⟩
section
variable{r:TS}
theorem aq{σ':V->St}{R:Rw α}{m:Res α}(h:EV Er te σ W R m)(q:m.OkE Er fun a=>∀v W',Ext W W'->R W' a v->r D (σ' v) W'.H)(hσ:∀v,σ.set i (some v)=σ' v:=by intro _;rfl):dt (bD te<|aH i) r D σ W.H:=gJ (D:={D with nx:=r D}) h q hσ
theorem gi{σ':Addr->St}{R:Rp α}{m:Res (List α)}(h:EVo Er te σ W R m)(q:m.OkE Er fun a=>∀p W',Ext W W'->W.H p=none->Ow R W' p a->r D (σ' p) W'.H)(hσ:∀p,σ.set i (some<|.ref p)=σ' p:=by intro _;rfl):dt (bD te<|aH i) r D σ W.H:=vU (D:={D with nx:=r D}) h q hσ
theorem gW{R:Rw α}{m:Res α}(h:EV Er te σ W R m)(q:m.OkE Er fun a=>∀v W',Ext W W'->R W' a v->g v σ W'.H (r D)):dt (bD te g) r D σ W.H:=h W (.refl _) _ q
theorem qx{R:Rw α}{m:Res α}(h:EV Er te σ W R m)(q:m.OkE Er fun a=>∀v W',Ext W W'->R W' a v->r D σ W'.H):dt (aT te) r D σ W.H:=h W (.refl _) _ q
theorem dY{c:TT}{m:Res Bool}(h:TV Er c σ W m)(q:m.OkE Er fun b=>∀W',Ext W W'->if b=true then t {D with nx:=r D} σ W'.H else u {D with nx:=r D} σ W'.H):dt (i9 c t u) r D σ W.H:=h W (.refl _) _ q
theorem jw{S:Type}{c:TT}{m:Res Bool}{mA mB:Res S}{P:S->Prop}(Iv:S->Wd->St->Prop)(h:TV Er c σ W m)(q:(m.bind fun b=>if b then mA else mB).OkE Er P)
  (hA:∀W'(N:St->Hp->Prop),Ext W W'->(∀s W1 σ1,Same W.G W1.G->Iv s W1 σ1->P s->N σ1 W1.H)->mA.OkE Er P->t {D with nx:=N} σ W'.H)
  (hB:∀W'(N:St->Hp->Prop),Ext W W'->(∀s W1 σ1,Same W.G W1.G->Iv s W1 σ1->P s->N σ1 W1.H)->mB.OkE Er P->u {D with nx:=N} σ W'.H)
  (hd:∀s W1 σ1,Same W.G W1.G->Iv s W1 σ1->P s->r D σ1 W1.H):dt (i9 c t u) r D σ W.H:=sW (D:={D with nx:=r D}) Iv h q hA hB hd
theorem sZ{R:Rp α}[Mono R]{p:Addr}{xs:List α}{m:Res α}(o:Ow R W p xs)(h:EV Er te σ W (sh R) m)(q:(m.bind fun a=>fI xs a).OkE Er fun ys=>∀W',Mu W W' p->Ow R W' p ys->r D σ W'.H)(hi:σ[i]? =some (some<|.ref p):=by rfl):dt (aT<|dU K "list" aw (aU i)<|ah te aE) r D σ W.H:=lG (D:={D with nx:=r D}) o h q hi
theorem qy{R:Rp α}[Mono R]{p:Addr}{xs:List α}{m:Res α}{mi:Res Int}(o:Ow R W p xs)(h:EV Er te σ W (sh R) m)(hj:EV Er ti σ W (sh isI) mi)(q:(m.bind fun a=>mi.bind fun j=>jq xs j a).OkE Er fun ys=>∀W',Mu W W' p->Ow R W' p ys->r D σ W'.H)(hi:σ[i]? =some (some<|.ref p):=by rfl):dt (bD te<|pZ (aU i) ti km) r D σ W.H:=vV (D:={D with nx:=r D}) o h hj q hi
theorem dH{S:Type}{wi:TI}{tb:TS}{R:Rp α}{m:Res (List α)}{f:α->S->Res S}{s0:S}{P:S->Prop}(Iv:S->Wd->St->Prop)(hi:IV Er wi σ W R m)(q:(m.bind fun xs=>bJ f xs s0).OkE Er P)
  (h0:∀W1,Ext W W1->Iv s0 W1 σ)
  (hs:∀Wb W1 W2 a v s σ1 P',Same W.G W1.G->Same Wb.G W1.G->Iv s W1 σ1->Ext W1 W2->R W2.G a v->(f a s).OkE Er P'->g v σ1 W2.H fun σ2 H2=>tb {D with nx:=sX Wb Iv P',ct:=sX Wb Iv P',bk:=r D} σ2 H2)
  (hd:∀s W1 σ1,Same W.G W1.G->Iv s W1 σ1->P s->r D σ1 W1.H):dt (rJ wi g tb) r D σ W.H:=sY (D:={D with nx:=r D}) Iv hi q h0 hs hd
theorem kI{S:Type}{wi:TI}{tb:TS}{R:Rp α}{m:Res (List α)}{f:α->S->Res (Fl γ S)}{s0:S}{P:Fl γ S->Prop}(Iv:S->Wd->St->Prop)(hi:IV Er wi σ W R m)(q:(m.bind fun xs=>il f xs s0).OkE Er P)
  (h0:∀W1,Ext W W1->Iv s0 W1 σ)
  (hs:∀Wb W1 W2 a v s σ1 P',Same W.G W1.G->Same Wb.G W1.G->Iv s W1 σ1->Ext W1 W2->R W2.G a v->(∀r,P' (.rt r)->P (.rt r))->(f a s).OkE Er P'->g v σ1 W2.H fun σ2 H2=>tb {D with nx:=sX Wb Iv fun s'=>P'<|.nx s',ct:=sX Wb Iv fun s'=>P'<|.nx s',bk:=r D} σ2 H2)
  (hd:∀s W1 σ1,Same W.G W1.G->Iv s W1 σ1->P (.nx s)->r D σ1 W1.H):dt (rJ wi g tb) r D σ W.H:=vW (D:={D with nx:=r D}) Iv hi q h0 hs hd
end
theorem dP{S:Type}{Wb W:Wd}{Iv:S->Wd->St->Prop}{P:S->Prop}(s:S)(hs:Same Wb.G W.G)(iv:Iv s W σ)(hq:P s):sX Wb Iv P σ W.H:=⟨s,W,rfl,hs,iv,hq⟩
end
end Wb
open Wb.EV renaming pk->Fy
open Wb.EVo renaming ev->Eh,pk->FE
open Wb.Ext renaming new->Ib,own->KZ
open Wb.MonoW renaming mono->Dx
open Wb.Same renaming tup->J7
open Wb.SrcR renaming mono->La
namespace L2
open PySem PySem.Spec PyProof.Rows
section
variable{X:Cx}{K:Cq}{w:D4}
theorem iL{ns:List Bool}:∀{us:List Cr},Vals (ns.map Kw) us->LSm.BoolsAre us ns:=by
 induction ns with
 |nil=>intro us r;cases r;exact .nil
 |cons b r ih=>intro us h;cases h with|cons h1 h2=>cases h1;exact .cons b<|ih h2
theorem qz(hc:X.calm=true)(hK:X.K=K):eg X (.builtin "all") (fun xs H Q=>∃(p:Addr)(bs:List Bool),xs=[.ref p]/\SqL K H p (bs.map Kw)/\Q (.bl<|bs.all id) H):=by
 subst hK;intro pins s σ H xs us Q I r h;obtain⟨p,bs,rfl,hq,q⟩:=h;obtain⟨u,rfl,rx⟩:=gP r;cases rx;obtain⟨its,r',pl,hz⟩:=I.list hq;have hb:=iL r';have hl:=pl.isList;have hlt:p<s.heap.objs.size:=by obtain⟨_,e,_⟩:=hl;exact CD e
 refine call_all_walk<|Fv hl ?_;refine⟨s.heap.objs.size,[s.heap.objs.size,p],[s.heap.objs.size],its.toArray.size,_,_,fun i=>(bs[i]?).getD true,rfl,KO (A:=X.A.in1) (I.ok.hd hc) _ p (CN hlt) its.toArray,
  ⟨⟨_,CF _ rfl,rfl,rfl⟩,hl.push _⟩,fun i v s' Q' E' hP hQ=>?_,fun h' tk hk=>?_⟩
 ·obtain⟨b,e,rfl⟩:=hb.get i v (by simpa using hP);simp only[e,El]at hQ;exact EG hQ
 ·have e:((EM its.toArray.size).all fun i=>(bs[i]?).getD true)=bs.all id:=by
   rw[CH,hb.length];exact LSm.range_all bs
  rw[e];exact⟨.bl _,H,I.kept<|Ka hk,rfl,q⟩
theorem qC(hc:X.calm=true)(hK:X.K=K):eg X (.builtin "any") (fun xs H Q=>∃(p:Addr)(bs:List Bool),xs=[.ref p]/\SqL K H p (bs.map Kw)/\Q (.bl<|bs.any id) H):=by
 subst hK;intro pins s σ H xs us Q I r h;obtain⟨p,bs,rfl,hq,q⟩:=h;obtain⟨u,rfl,rx⟩:=gP r;cases rx;obtain⟨its,r',pl,hz⟩:=I.list hq;have hb:=iL r';have hl:=pl.isList;have hlt:p<s.heap.objs.size:=by obtain⟨_,e,_⟩:=hl;exact CD e
 refine call_any_walk<|Fv hl ?_;refine⟨s.heap.objs.size,[s.heap.objs.size,p],[s.heap.objs.size],its.toArray.size,_,_,fun i=>(bs[i]?).getD false,rfl,KO (A:=X.A.in1) (I.ok.hd hc) _ p (CN hlt) its.toArray,
  ⟨⟨_,CF _ rfl,rfl,rfl⟩,hl.push _⟩,fun i v s' Q' E' hP hQ=>?_,fun h' tk hk=>?_⟩
 ·obtain⟨b,e,rfl⟩:=hb.get i v (by simpa using hP);simp only[e,El]at hQ;exact EG hQ
 ·have e:((EM its.toArray.size).any fun i=>(bs[i]?).getD false)=bs.any id:=by
   rw[CH,hb.length];exact LSm.range_any bs
  rw[e];exact⟨.bl _,H,I.kept<|Ka hk,rfl,q⟩
end
end L2
namespace Wb
open PySem L2 Mi
variable{Er:Nat->Prop}
section
variable{α β γ δ:Type}{t ta tb tc:TE}{σ:St}{W W0 W':Wd}{K:Cq}{w:D4}
theorem oY{a n r:Int}(hc:0<=n/\n<=1000000/\a.natAbs<2^64)(hr:a^n.toNat=r):EV Er (dq (rI ze fun i j=>.int<|i^j.toNat) (tC<|.int a)<|tC<|.int n) σ W (sh isI) (.ok r):=fun W1 e1 Q k=>⟨a,n,rfl,rfl,hc,by show Q (.int<|a^n.toNat) W1.H;rw[hr];exact k _ W1 (.refl _) rfl⟩
def isScr(K:Cq):Rp (List Int):=fun H ns v=>∃a,v=.ref a/\SqL K H a (ns.map G8)
instance zkeep17:Mono (isScr K):=⟨fun e⟨a,h1,h2⟩=>⟨a,h1,e.seq h2⟩⟩
theorem kJ{ma:Res (List Int)}(ha:EV Er ta σ W (sh<|isScr K) ma):EV Er (dR (fun xs H Q=>∃x n,xs=[x]/\lQ K x H n/\Q (.int n) H)<|ah ta aE) σ W (sh isI) (ma.bind fun a=>.ok (a.length:Int)):=fun W1 e1 Q k=>
 ha W1 e1 _ ((Cn k).imp fun a ka x W2 e2 hx=>by
  obtain⟨p,rfl,h1⟩:=hx;exact⟨_,a.length,rfl,.inl ⟨_,W2.ok.seq h1,by simp⟩,ka _ W2 e2 rfl⟩)
theorem t9{ma:Res (List Int)}{mb:Res Int}(ha:EV Er ta σ W (sh<|isScr K) ma)(hb:EV Er tb σ W (sh isI) mb):EV Er (dq (cn K) ta tb) σ W (sh isI) (ma.bind fun a=>mb.bind fun b=>kF a b):=
 rn ha hb fun W a b x y Q hx hy k=>by
  cases hy;obtain⟨p,rfl,h1⟩:=hx;obtain⟨c,h4,h5⟩:=dD k;have lr:LR isI W.G a (a.map G8):=⟨by simp,fun i v m e1 e2=>by rw[DJ,e2]at e1;cases e1;rfl⟩
  obtain⟨z,h6,h7⟩:=oW lr h4;exact⟨p,_,b,z,rfl,rfl,W.ok.seq h1,h6,h5 _ W (.refl _) h7⟩
theorem yd{R:Rp α}{W1 W2:Wd}{xs:List α}{vs:List V}{Q:VK}(h:LR R W2.G xs vs)(e:Ext W1 W2)(k:∀p W2,Ext W1 W2->W1.H p=none->Ow R W2 p xs->Q (.ref p) W2.H)(r:Addr)(hr:W2.H r=none):Q (.ref r) (bP W2.H r<|.lst vs):=
 k r (W2.mut r (.lst vs)<|W2.gnone hr) (e.trans<|.own _ hr) (none_of e.h hr) ⟨W2.gnone hr,vs,ai,h⟩
theorem fR{R:Rp α}{ma:Res (List α)}(ha:EV Er ta σ W (pk R) ma):EVo Er (dR (fun xs H Q=>∃p ys,xs=[.ref p]/\(SqL K H p ys\/SqT K H p ys)/\∀l,H l=none->Q (.ref l) (bP H l<|.lst ys))<|ah ta aE) σ W R ma:=fun W1 e1 Q k=>
 ha W1 e1 _ (k.imp fun a ka x W2 e2 hx=>by
  obtain⟨p,vs,rfl,h1,h2⟩:=hx;exact⟨p,vs,rfl,.inl (Ep h1),fun l hl=>yd h2 e2 ka l hl⟩)
theorem LR.ints{H:Hp}{ns:List Int}{vs:List V}(h:LR isI H ns vs):vs=ns.map G8:=by
 refine EK fun i=>?_;rw[DJ];cases e:ns[i]? with
 |none=>rw[DB]at e;rw[DB.mpr (by rw[h.1];exact e)];rfl
 |some m=>obtain⟨v,a,b⟩:=h.get e;rw[a];cases b;rfl
theorem LR.bools{H:Hp}{ns:List Bool}{vs:List V}(h:LR isB H ns vs):vs=ns.map Kw:=by
 refine EK fun i=>?_;rw[DJ];cases e:ns[i]? with
 |none=>rw[DB]at e;rw[DB.mpr (by rw[h.1];exact e)];rfl
 |some m=>obtain⟨v,a,b⟩:=h.get e;rw[a];cases b;rfl
theorem ye{ma:Res (List Int)}(ha:EV Er ta σ W (pk isI) ma):EV Er (dR (fun xs H Q=>∃(p:Addr)(ns:List Int),xs=[.ref p]/\SqL K H p (ns.map G8)/\Q (.int ns.sum) H)<|ah ta aE) σ W (sh isI) (ma.bind fun a=>.ok a.sum):=fun W1 e1 Q k=>
 ha W1 e1 _ ((Cn k).imp fun a ka x W2 e2 hx=>by
  obtain⟨p,vs,rfl,h1,h2⟩:=hx;exact⟨p,a,rfl,Ep (by rw[h1,h2.ints]),ka _ W2 e2 rfl⟩)
theorem yf{ma:Res (List Bool)}(ha:EV Er ta σ W (pk isB) ma):EV Er (dR (fun xs H Q=>∃(p:Addr)(bs:List Bool),xs=[.ref p]/\SqL K H p (bs.map Kw)/\Q (.bl<|bs.all id) H)<|ah ta aE) σ W (sh isB) (ma.bind fun a=>.ok<|a.all id):=fun W1 e1 Q k=>
 ha W1 e1 _ ((Cn k).imp fun a ka x W2 e2 hx=>by
  obtain⟨p,vs,rfl,h1,h2⟩:=hx;exact⟨p,a,rfl,Ep (by rw[h1,h2.bools]),ka _ W2 e2 rfl⟩)
theorem yg{ma:Res (List Bool)}(ha:EV Er ta σ W (pk isB) ma):EV Er (dR (fun xs H Q=>∃(p:Addr)(bs:List Bool),xs=[.ref p]/\SqL K H p (bs.map Kw)/\Q (.bl<|bs.any id) H)<|ah ta aE) σ W (sh isB) (ma.bind fun a=>.ok<|a.any id):=fun W1 e1 Q k=>
 ha W1 e1 _ ((Cn k).imp fun a ka x W2 e2 hx=>by
  obtain⟨p,vs,rfl,h1,h2⟩:=hx;exact⟨p,a,rfl,Ep (by rw[h1,h2.bools]),ka _ W2 e2 rfl⟩)
theorem oZ{ma mb:Res Int}(ha:EV Er ta σ W (sh isI) ma)(hb:EV Er tb σ W (sh isI) mb):EV Er (dR (fun xs H Q=>∃i j,xs=[.int i,.int j]/\Q (.int (if j>i then j else i)) H)<|ah ta<|ah tb aE) σ W (sh isI) (ma.bind fun a=>mb.bind fun b=>.ok (if b>a then b else a)):=fun W1 e1 Q k=>
 ha W1 e1 _ ((Cn k).imp fun a ka x W2 e2 hx=>hb W2 (e1.trans e2) _ ((Cn ka).imp fun b kb y W3 e3 hy=>by cases hx;cases hy;exact⟨a,b,rfl,kb _ W3 (e2.trans e3) rfl⟩))
theorem tj{f:α->V}{g:β->Key}[DecidableEq β](hg:∀a b,g a=g b->a=b)(kvs:List (β×α))(k:β):fo (kvs.map fun p=>(g p.1,f p.2)) (g k)=(look kvs k).map f:=by
 induction kvs with
 |nil=>rfl
 |cons p r ih=>
  unfold look at ih ⊢;rw[Dy];by_cases z:p.1=k;·rw[fL (by rw[z]),Ex (by simpa using z)];rfl
  ·rw[fM<|fun e=>z<|hg _ _ e,ih,DD (by simpa using z)]
theorem lH{R:Rp α}{Rk:Rp β}[DecidableEq β]{d:Addr}{kv:List (Key×V)}{kvs:List (β×α)}{f:α->V}{g:β->Key}(hg:∀a b,g a=g b->a=b)(hf:∀H a,R H a<|f a)(hk:∀H b v,Rk H b v->v=kV (g b))(D:DictK K w d kv)(e:kv=kvs.map fun p=>(g p.1,f p.2)){m:Res β}(h:EV Er t σ W (sh Rk) m):
  EV Er (aK K w (tC<|.ref d) t) σ W (sh R) (m.bind fun k=>getD kvs k):=fun W1 e1 Q k=>
 h W1 e1 _ ((Cn k).imp fun b kb v W2 e2 hv=>by
  obtain⟨a,h1,h2⟩:=dD kb;refine⟨d,kv,g b,f a,rfl,D,hk _ _ _ hv,?_,h2 _ W2 e2 (hf _ _)⟩;rw[e,tj hg,h1];rfl)
theorem nM:∀a b:Tx,(DF (sOf a):Key)=DF (sOf b)->a=b:=fun a b e=>oO<|Kr e
theorem B6:∀a b:Int,(F9 a:Key)=F9 b->a=b:=fun a b e=>Kq e
theorem kK{d:Addr}{kv:List (Key×V)}{kvs:List (Tx×Int)}(D:DictK K w d kv)(e:kv=kvs.map fun p=>(DF<|sOf p.1,G8 p.2)){m:Res Tx}(h:EV Er t σ W (sh isS) m):EV Er (aK K w (tC<|.ref d) t) σ W (sh isI) (m.bind fun k=>getD kvs k):=lH (R:=isI) (f:=G8) (g:=fun a=>DF<|sOf a) nM (fun _ _=>rfl) (fun _ _ _ h=>h) D e h
theorem qE{d:Addr}{kv:List (Key×V)}{kvs:List (Tx×Tx)}(D:DictK K w d kv)(e:kv=kvs.map fun p=>(DF<|sOf p.1,FZ<|sOf p.2)){m:Res Tx}(h:EV Er t σ W (sh isS) m):EV Er (aK K w (tC<|.ref d) t) σ W (sh isS) (m.bind fun k=>getD kvs k):=lH (R:=isS) (f:=fun a=>FZ<|sOf a) (g:=fun a=>DF<|sOf a) nM (fun _ _=>rfl) (fun _ _ _ h=>h) D e h
theorem qF{d:Addr}{kv:List (Key×V)}{kvs:List (Int×Tx)}(D:DictK K w d kv)(e:kv=kvs.map fun p=>(F9 p.1,FZ<|sOf p.2)){m:Res Int}(h:EV Er t σ W (sh isI) m):EV Er (aK K w (tC<|.ref d) t) σ W (sh isS) (m.bind fun k=>getD kvs k):=lH (R:=isS) (f:=fun a=>FZ<|sOf a) (g:=fun a=>F9 a) B6 (fun _ _=>rfl) (fun _ _ _ h=>h) D e h
def EqK(K:Cq)(H:Hp):Nat->V->V->Prop
  |0,v,u=>v=u/\flat v=true
  |n+1,v,u=>(v=u/\flat v=true)\/ ∃p q xs ys,v= .ref p/\u= .ref q/\((H p=some (.lst xs)/\H q=some (.lst ys))\/(SqT K H p xs/\SqT K H q ys))/\xs.length=ys.length/\
      ∀(i:Nat)(x y:V),xs[i]? =some x->ys[i]? =some y->EqK K H n x y
theorem EqK.same{H H':Hp}(e:Same H H'):∀{n:Nat}{v u:V},EqK K H n v u->EqK K H' n v u
 |0,_,_,h=>h
 |n+1,_,_,h=>by
  rcases h with h|⟨p,q,xs,ys,h1,h2,h3,h4,h5⟩
  ·exact .inl h
  ·refine .inr ⟨p,q,xs,ys,h1,h2,?_,h4,fun i x y e1 e2=>EqK.same e<|h5 i x y e1 e2⟩;rcases h3 with⟨a,b⟩|⟨a,b⟩
   ·exact .inl ⟨e _ _ a,e _ _ b⟩
   ·exact .inr ⟨J7 e a,J7 e b⟩
theorem EqK.flat{H:Hp}{n:Nat}{v:V}(h:L2.flat v=true):EqK K H n v v:=by cases n with|zero=>exact⟨rfl,h⟩|succ n=>exact .inl ⟨rfl,h⟩
class EqR(K:Cq){α:Type}(R:Rp α)(n:outParam Nat):Prop where
 eq:∀H a v u m,n<=m->R H a v->R H a u->EqK K H m v u
instance zkeep18:EqR K isI 0:=⟨fun H a v u m _ h1 h2=>by cases h1;cases h2;exact .flat rfl⟩
instance zkeep19:EqR K isS 0:=⟨fun H a v u m _ h1 h2=>by cases h1;cases h2;exact .flat rfl⟩
instance zkeep23{R:Rp α}{n:Nat}[EqR K R n]:EqR K (isL R) (n+1):=⟨fun H a v u m hm⟨p,vs,h1,h2,h3⟩⟨q,us,g1,g2,g3⟩=>by
 cases m with
 |zero=>omega
 |succ m=>
  refine .inr ⟨p,q,vs,us,h1,g1,.inl ⟨h2,g2⟩,by rw[h3.1,g3.1],fun i x y e1 e2=>?_⟩;obtain⟨b,hb,rb⟩:=h3.got e1;exact EqR.eq H b x y m (by omega) rb (g3.2 i y b e2 hb)⟩
instance zkeep25{R1:Rp α}{R2:Rp β}{R3:Rp γ}{n k l:Nat}[EqR K R1 n][EqR K R2 k][EqR K R3 l]:EqR K (isT3 K R1 R2 R3) (max n (max k l)+1):=⟨fun H a v u m hm⟨p,x,y,z,h0,h,h1,h2,h3⟩⟨q,x',y',z',g0,g,g1,g2,g3⟩=>by
 cases m with
 |zero=>omega
 |succ m=>
  refine .inr ⟨p,q,_,_,h0,g0,.inr ⟨h,g⟩,rfl,fun i w w' e1 e2=>?_⟩
  match i,e1,e2 with
  |0,e1,e2=>cases e1;cases e2;exact EqR.eq H _ _ _ m (by omega) h1 g1
  |1,e1,e2=>cases e1;cases e2;exact EqR.eq H _ _ _ m (by omega) h2 g2
  |2,e1,e2=>cases e1;cases e2;exact EqR.eq H _ _ _ m (by omega) h3 g3⟩
end
end Wb
namespace L2
open PySem PySem.Spec PyProof.Rows
section
variable{X:Cx}{K:Cq}{w:D4}{o e:Expr}{to:TE}{t:TA}{apos cpos:Pos}
def zC(K:Cq):V->List V->Hp->VK->Prop:=fun x xs H Q=>∃(p:Addr)(ys:List (List Nat)),x=.str (sOf [])/\xs=[.ref p]/\SqL K H p (ys.map fun y=>FZ<|sOf y)/\ys.flatten.length<=100000/\Q (.str<|sOf ys.flatten) H
def zD:V->List V->Hp->VK->Prop:=fun x xs H Q=>∃a b,x=.str a/\xs=[.str b]/\0<=GO a b/\Q (.int<|GO a b) H
abbrev B7(X:Cx)(cpos:Pos)(e:Expr):Prop:=((backTo cpos<|starEach [e] X.env).all (fun x=> !x.1)&&(backToKw cpos<|keywordEach [] X.env).all (fun x=>x.1.isSome)&&decide ([e].length+([]:List Hu).length+(if([]:List Hu).isEmpty then 0 else 1)<30))=true
theorem gX(h:X.K=K)(ho:PE X o to)(ha:PA X [e] t)(hbase:attributeBase o "join" X.env (eval o X.env)=eval o X.env:=by rfl)(hfew:B7 X cpos e:=by rfl)(hline:(apos.endLine==cpos.line)=true:=by rfl)(hs:starEach [e] X.env=(false,eval e X.env)::starEach [] X.env:=by rfl)(hplain:(backTo cpos<|starEach [] X.env).any (·.1)=false:=by rfl):
  PE X (.Call (.Attribute o "join" apos) [e] [] cpos) (dU K "str" (zC K) to t):=lq (K:=K) h Hz PySem.F.slot_str_join PySem.F.type_str_join (sD (K:=K) h) ho ha hbase hfew hline hs hplain
theorem iq(h:X.K=K)(hc:X.calm=true)(ho:PE X o to)(ha:PA X [e] t)(hbase:attributeBase o "index" X.env (eval o X.env)=eval o X.env:=by rfl)(hfew:B7 X cpos e:=by rfl)(hline:(apos.endLine==cpos.line)=true:=by rfl)(hs:starEach [e] X.env=(false,eval e X.env)::starEach [] X.env:=by rfl)(hplain:(backTo cpos<|starEach [] X.env).any (·.1)=false:=by rfl):
  PE X (.Call (.Attribute o "index" apos) [e] [] cpos) (dU K "str" zD to t):=lq (K:=K) h Hz PySem.F.slot_str_index PySem.F.type_str_index (sq hc) ho ha hbase hfew hline hs hplain
theorem dg(h:X.K=K)(ho:PE X o to)(ha:PA X [e] t)(hbase:attributeBase o "append" X.env (eval o X.env)=eval o X.env:=by rfl)(hfew:B7 X cpos e:=by rfl)(hline:(apos.endLine==cpos.line)=true:=by rfl)(hs:starEach [e] X.env=(false,eval e X.env)::starEach [] X.env:=by rfl)(hplain:(backTo cpos<|starEach [] X.env).any (·.1)=false:=by rfl):
  PE X (.Call (.Attribute o "append" apos) [e] [] cpos) (dU K "list" aw to t):=lq (K:=K) h Hh HI PySem.F.type_list_append qe ho ha hbase hfew hline hs hplain
end
end L2
namespace Wb
open PySem L2 Mi
variable{Er:Nat->Prop}
section
variable{α β γ δ:Type}{t t1 t2 t3 ta tb tc:TE}{σ:St}{W W0 W':Wd}{K:Cq}{w:D4}
class NN{α:Type}(R:Rp α):Prop where
 nn:∀H a v,R H a v->v≠.non
instance zkeep29{R:Rp α}:NN (isL R):=⟨fun _ _ _⟨p,vs,h,_⟩=>by rw[h];exact fun z=>nomatch z⟩
theorem tm{R:Rp α}[NN R]{m:Res α}(h:EV Er t σ W (sh R) m):EV Er t σ W (sh<|isO R) (m.bind fun a=>.ok<|some a):=fun W1 e1 Q k=>
 h W1 e1 _ ((Cn k).imp fun a ka v W2 e2 hv=>ka v W2 e2 ⟨hv,NN.nn _ _ _ hv⟩)
theorem tu{R:Rp α}{m:Res (Option α)}(h:EV Er t σ W (sh<|isO R) m):EV Er t σ W (sh R) (m.bind fun a=>qu a):=fun W1 e1 Q k=>
 h W1 e1 _ ((Cn k).imp fun a ka v W2 e2 hv=>by
  obtain⟨b,rfl,hb⟩:=dD ka;exact hb v W2 e2 hv.1)
theorem tD{xs:List α}{ys:List β}{zs:List γ}{i:Nat}{p:α×β×γ}(h:(xs.zip<|ys.zip zs)[i]? =some p):xs[i]? =some p.1/\ys[i]? =some p.2.1/\zs[i]? =some p.2.2:=by
 rw[EB]at h;obtain⟨h1,h2⟩:=h;rw[EB]at h2;exact⟨h1,h2.1,h2.2⟩
theorem vX{R1:Rp α}{R2:Rp β}{R3:Rp γ}[Mono R1][Mono R2][Mono R3]{m1:Res (List α)}{m2:Res (List β)}{m3:Res (List γ)}(h1:SV Er t1 σ W K R1 m1)(h2:SV Er t2 σ W K R2 m2)(h3:SV Er t3 σ W K R3 m3):IV Er (xp K<|ah t1<|ah t2<|ah t3 aE) σ W (isT3 K R1 R2 R3) (m1.bind fun xs=>m2.bind fun ys=>m3.bind fun zs=>.ok<|xs.zip<|ys.zip zs):=fun W1 e1 P k=>
 h1 W1 e1 _ ((Cn k).imp fun xs kx v W2 e2 hv=>h2 W2 (e1.trans e2) _ ((Cn kx).imp fun ys ky u W3 e3 hu=>h3 W3 ((e1.trans e2).trans e3) _ ((Cn ky).imp fun zs kz r W4 e4 hr=>by
  obtain⟨c1,vs,rfl,a1,b1⟩:=La hv (e3.trans e4).g;obtain⟨c2,us,rfl,a2,b2⟩:=La hu e4.g;obtain⟨c3,rs,rfl,a3,b3⟩:=hr;refine⟨c1,c2,c3,vs,us,rs,rfl,a1 W4<|.refl _,a2 W4<|.refl _,a3 W4<|.refl _,kz _ W4 ((e2.trans e3).trans e4) fun W5 e5=>⟨fun i ab hab=>?_,?_⟩⟩
  ·obtain⟨q1,q2,q3⟩:=tD hab;obtain⟨x,hx,rx⟩:=b1.get q1;obtain⟨y,hy,ry⟩:=b2.get q2;obtain⟨z,hz,rz⟩:=b3.get q3;refine⟨⟨vs,us,rs,x,y,z,a1 W5 e5,a2 W5 e5,a3 W5 e5,hx,hy,hz⟩,fun o H'⟨p,x',y',z',hp,z0,z1,z2,z3,z4⟩=>⟨W5.new p<|.tup [x',y',z'],by rw[z4];rfl,.new _ hp,p,x',y',z',z0,IG ai,?_,?_,?_⟩⟩
   ·have:=z1 vs<|a1 W5 e5;rw[hx]at this;cases this;exact Cp (e5.trans (Ib _ hp).g) rx
   ·have:=z2 us<|a2 W5 e5;rw[hy]at this;cases this;exact Cp (e5.trans (Ib _ hp).g) ry
   ·have:=z3 rs<|a3 W5 e5;rw[hz]at this;cases this;exact Cp (e5.trans (Ib _ hp).g) rz
  ·refine⟨vs,us,rs,a1 W5 e5,a2 W5 e5,a3 W5 e5,?_⟩;rw[FP,FP,b1.1,b2.1,b3.1];omega)))
end
end Wb
namespace Mi
theorem iZ{a b:Int}(h:0<b):lu a b=.ok (a%b):=bu h
theorem tE{a b:Int}(h1:0<b)(h2:b<1073741824):oS a b=.ok (a/b):=bu ⟨h1,h2⟩
theorem tF{a b:Int}(h1: -18446744073709551616<a)(h2:a<18446744073709551616):nI a b=.ok (a*b):=bu<|.inl ⟨h1,h2⟩
theorem tG{a b:Int}(h1: -18446744073709551616<b)(h2:b<18446744073709551616):nI a b=.ok (a*b):=bu<|.inr ⟨h1,h2⟩
theorem gj{α:Type}{xs:List α}{x:α}(h:xs.length<100000):fI xs x=.ok (xs++[x]):=bu h
theorem lI{a b:Tx}(h:a.length+b.length<=100000):fe a b=.ok (a++b):=bu h
theorem vY{a:Tx}(h:a.length<=100000):xY a=.ok (a.length:Int):=bu h
theorem vZ{c:Nat}{n:Int}(h0:0<=n)(h1:n<=100000):xX [c] n=.ok (CI n.toNat c):=bu ⟨h0,h1⟩
theorem jx{xs:List Tx}(h:xs.flatten.length<=100000):iK xs=.ok xs.flatten:=bu h
theorem ir{n:Nat}(h:n<=100000):fP (n:Int)=.ok ((EM n).map fun(i:Nat)=>(i:Int)):=by
 unfold fP;rw[bu ⟨by omega,by omega⟩];simp[eI]
theorem dE{α:Type}{xs:List α}{i:Int}(h0:0<=i)(h1:i<xs.length):∃x,kF xs i=.ok x/\xs[i.toNat]? =some x:=by
 obtain⟨h,e⟩:=sH h0 h1;exact⟨xs[i.toNat],by unfold kF;rw[e];rfl,by simp[h]⟩
theorem j0{x:Tx}{i:Int}(h0:0<=i)(h1:i<x.length)(h2:x.length<=100000):∃c,fO x i=.ok [c]/\x[i.toNat]? =some c:=by
 obtain⟨h,e⟩:=sH h0 h1;refine⟨x[i.toNat],?_,by simp[h]⟩;unfold fO;rw[bu h2];show(qu<|sG x i).bind _=_;rw[e];rfl
theorem tH{x:Tx}{i:Int}(h0:0<=i)(h1:i<x.length)(h2:x.length<=100000):fO x i=.ok [x[i.toNat]?.getD 0]:=by
 obtain⟨c,e,h⟩:=j0 h0 h1 h2;rw[e,h];rfl
theorem p4{α:Type}{xs:List α}{i:Int}{x:α}(h0:0<=i)(h1:i<xs.length):jq xs i x=.ok (xs.set i.toNat x):=by
 unfold jq ixN;rw[if_pos h0,if_pos h1];rfl
theorem lJ{α:Type}[DecidableEq α]{a b:α}(h:a=b):xZ a b=.ok true:=if_pos h
theorem jy{α S:Type}{f:α->S->Res S}(I:List α->S->Prop)(xs:List α)(s0:S)(h0:I [] s0)(step:∀pre a post s,xs=pre++a::post->I pre s->∃s',f a s=.ok s'/\I (pre++[a]) s'):
  ∃s,bJ f xs s0=.ok s/\I xs s:=by
 have key:∀(post pre:List α)(s:S),xs=pre++post->I pre s->∃s',bJ f post s=.ok s'/\I xs s':=by
  intro post
  induction post with
  |nil=>intro pre s e h;rw[Dh]at e;subst e;exact⟨s,rfl,h⟩
  |cons a r ih=>
   intro pre s e h;obtain⟨s1,e1,h1⟩:=step pre a r s e h;obtain⟨s2,e2,h2⟩:=ih (pre++[a]) s1 (by rw[e];simp) h1;exact⟨s2,by unfold bJ;rw[e1];exact e2,h2⟩
 exact key xs [] s0 rfl h0
theorem kL{α S:Type}{f:α->S->Res S}{g:S->α->S}(xs:List α)(s0:S)(step:∀a∈xs,∀s,f a s=.ok (g s a)):bJ f xs s0=.ok (xs.foldl g s0):=by
 induction xs generalizing s0 with
 |nil=>rfl
 |cons a r ih=>unfold bJ;rw[step a<|CJ ..];exact ih _ fun b hb s=>step b (CG _ hb) s
theorem mn{α S γ:Type}{f:α->S->Res (Fl γ S)}(I:List α->S->Prop)(xs:List α)(s0:S)(h0:I [] s0)(step:∀pre a post s,xs=pre++a::post->I pre s->∃s',f a s=.ok (.nx s')/\I (pre++[a]) s'):
  ∃s,il f xs s0=.ok (.nx s)/\I xs s:=by
 have key:∀(post pre:List α)(s:S),xs=pre++post->I pre s->∃s',il f post s=.ok (.nx s')/\I xs s':=by
  intro post
  induction post with
  |nil=>intro pre s e h;rw[Dh]at e;subst e;exact⟨s,rfl,h⟩
  |cons a r ih=>
   intro pre s e h;obtain⟨s1,e1,h1⟩:=step pre a r s e h;obtain⟨s2,e2,h2⟩:=ih (pre++[a]) s1 (by rw[e];simp) h1;exact⟨s2,by unfold il;rw[e1];exact e2,h2⟩
 exact key xs [] s0 rfl h0
theorem mq{α β:Type}{f:α->Res (Option β)}{g:α->Option β}:∀{xs:List α},(∀x∈xs,f x=.ok (g x))->fD f xs=.ok (xs.filterMap g)
 | [],_=>rfl
 |a::r,h=>by
  unfold fD;rw[h a<|CJ ..,Ct,mq fun x hx=>h x<|CG _ hx,Ct,Fb];cases g a<;>rfl
theorem tI{α β:Type}{f:α->Res (Option β)}{g:α->Option β}{xs:List α}(hl:xs.length<=100000)(h:∀x∈xs,f x=.ok (g x)):jr xs f=.ok (xs.filterMap g):=by
 unfold jr;rw[bu hl,Ct,mq h]
theorem tJ{α β:Type}{f:α->Res β}{P:α->β->Prop}{xs:List α}(hl:xs.length<=100000)(h:∀x∈xs,∃y,f x=.ok y/\P x y):∃ys,bo xs f=.ok ys/\ys.length=xs.length/\∀(i:Nat)x y,xs[i]? =some x->ys[i]? =some y->P x y:=by
 unfold bo;rw[bu hl,Ct];clear hl
 induction xs with
 |nil=>exact⟨[],rfl,rfl,fun i x y e=>by simp at e⟩
 |cons a r ih=>
  obtain⟨b,e,hb⟩:=h a<|CJ ..;obtain⟨bs,e2,hl2,h2⟩:=ih fun x hx=>h x<|CG _ hx;refine⟨b::bs,by unfold ik;rw[e,Ct,e2];rfl,by simp[hl2],fun i x y e3 e4=>?_⟩;cases i with
  |zero=>cases e3;cases e4;exact hb
  |succ j=>exact h2 j x y e3 e4
theorem kM(l:List Nat):((l.map fun c=>[c]):List Tx).flatten=l:=by induction l with|nil=>rfl|cons a r ih=>simp[ih]
theorem tK{α:Type}(l:List α)(k:Nat):cut l none (some (k:Int))=l.take k:=by
 unfold cut sIx;simp only[];rw[if_neg (by omega),EZ];simp[List.take_eq_take_iff]
theorem iu{x:Tx}{t:Tx}(h:t∈aF x):∃c∈x,t=[c]:=by
 unfold aF at h;obtain⟨c,hc,e⟩:=CU.mp h;exact⟨c,hc,e.symm⟩
theorem w4(a:Int):0<=cH a:=by unfold cH;split<;>omega
section
variable{α β:Type}{P:α->Prop}{Q:β->Prop}
theorem Bx{m:Res α}{f:α->Res β}(h:m.Ok fun a=>(f a).Ok Q):(m.bind f).Ok Q:=Res.bind_ok h
theorem By{c:Prop}[Decidable c]{A B:Res α}(h1:c->A.Ok P)(h2:¬c->B.Ok P):(if decide c=true then A else B).Ok P:=by
 by_cases h:c;·rw[decide_eq_true h];exact h1 h
 ·rw[decide_eq_false h];exact h2 h
theorem okR{a:α}(h:P a):(CB a).Ok P:=h
end
end Mi
namespace Wb
open PySem L2 Mi
variable{Er:Nat->Prop}
section
variable{α β γ:Type}{K:Cq}{σ:L2.St}{W:Wd}
theorem nN{n:Nat}(h:n<=cap):fP (n:Int)=.ok (eI (n:Int)):=by
 unfold fP;exact bu (by unfold cap at h;omega)
theorem nO{ta:TE}{R:Rp α}{m:Res (List α)}(h:EV Er ta σ W (pk R) m):IV Er (rH<|ah (dR (fun xs H Q=>∃x n,xs=[x]/\lQ K x H n/\Q (.int n) H)<|ah ta aE) aE) σ W isI (m.bind fun xs=>gS xs):=fun W1 e1 P k=>
  gV (gU (K:=K) h) W1 e1 P (Kj (Kj ((Cn k).imp fun xs kx=>by
      have hc:xs.length<=cap:=by
        unfold gS at kx;exact(aO<|Cn kx).1
      rw[js hc]at kx;rw[show ∀(Q:Int->Prop)(n:Int),(CB n).OkE Er Q=Q n from fun _ _=>rfl,nN hc];exact kx)))
end
end Wb
namespace Mi
inductive Dat where
 |n|b (x:Bool)|i (x:Int)|s (x:Tx)|t (xs:List Dat)|l (xs:List Dat)
noncomputable instance zkeep38:DecidableEq Dat:=fun _ _=>Classical.propDecidable _
def Dat.le:Nat->Dat->Prop
 |0,d=>match d with| .t _=>False| .l _=>False|_=>True
 |k+1,d=>match d with| .t xs=>∀x∈xs,Dat.le k x| .l xs=>∀x∈xs,Dat.le k x|_=>True
open Classical in
noncomputable def rp(a b:Dat):Res Bool:=if a=b/\a.le 24 then .ok true else .stuck
theorem nP{a b:Dat}(h:a=b)(hl:a.le 24):rp a b=.ok true:=if_pos ⟨h,hl⟩
def w5{α:Type}(f:α->Dat)(o:Option α):Dat:=match o with|none=>.n|some a=>f a
def eJ{κ α:Type}[DecidableEq κ](kvs:List (κ×α))(k:κ)(a:α):List (κ×α):=
 if(kvs.any fun kv=>decide<|kv.1=k)=true then kvs.map (fun kv=>if kv.1=k then(kv.1,a)else kv)else kvs++[(k,a)]
def iT{κ α:Type}[DecidableEq κ](kvs:List (κ×α))(k:κ)(a:α):Res (List<|κ×α):=eG (kvs.length<cap)<|eJ kvs k a
theorem Bz{α:Type}{a:α}{Er:Nat->Prop}{P:α->Prop}(h:P a):(CB a).OkE Er P:=h
end Mi
open Mi.Dat renaming s->GA,t->Ip,l->JB,le->Kk,n->Ky
namespace Wb
open PySem L2 Mi
variable{Er:Nat->Prop}
inductive isU(K:Cq)(H:Hp):Dat->V->Prop where
 |n:isU K H .n .non
 |b {x:Bool}:isU K H (.b x) (.bl x)
 |i {x:Int}:isU K H (.i x) (.int x)
 |s {x:Tx}:isU K H (.s x) (.str<|sOf x)
 |t {p:Addr} {xs:List Dat} {vs:List V} (h:SqT K H p vs) (hl:vs.length=xs.length) (r:∀(j:Nat)x v,xs[j]? =some x->vs[j]? =some v->isU K H x v):isU K H (.t xs) (.ref p)
 |l {p:Addr} {xs:List Dat} {vs:List V} (h:H p=some (.lst vs)) (hl:vs.length=xs.length) (r:∀(j:Nat)x v,xs[j]? =some x->vs[j]? =some v->isU K H x v):isU K H (.l xs) (.ref p)
section
variable{α β γ δ:Type}{t t1 t2 t3 t4 ta tb tc td:TE}{σ:St}{W W0 W':Wd}{K:Cq}{w:D4}
theorem isU.same{H H':Hp}{d:Dat}{v:V}(e:Same H H')(h:isU K H d v):isU K H' d v:=by
 induction h with
 |n=>exact .n
 |b=>exact .b
 |i=>exact .i
 |s=>exact .s
 |t h hl r ih=>exact .t (J7 e h) hl ih
 |l h hl r ih=>exact .l (e _ _ h) hl ih
instance zkeep39:Mono (isU K):=⟨fun e h=>isU.same e h⟩
theorem isU.eqk{H:Hp}:∀(n:Nat)(d:Dat)(v u:V),d.le n->isU K H d v->isU K H d u->EqK K H n v u:=by
 intro n
 induction n with
 |zero=>
  intro d v u hd h1 h2;cases h1 with
  |n=>cases h2;exact .flat rfl
  |b=>cases h2;exact .flat rfl
  |i=>cases h2;exact .flat rfl
  |s=>cases h2;exact .flat rfl
  |t h hl r=>exact hd.elim
  |l h hl r=>exact hd.elim
 |succ n ih=>
  intro d v u hd h1 h2;cases h1 with
  |n=>cases h2;exact .flat rfl
  |b=>cases h2;exact .flat rfl
  |i=>cases h2;exact .flat rfl
  |s=>cases h2;exact .flat rfl
  | @t p xs vs h hl r=>
   cases h2 with
   | @t q _ us h' hl' r'=>
    refine .inr ⟨p,q,vs,us,rfl,rfl,.inr ⟨h,h'⟩,by rw[hl,hl'],fun i x y e1 e2=>?_⟩;have hi:i<xs.length:=by rw[<-hl];exact(Cy.mp e1).1
    have e3:xs[i]? =some xs[i]:=Dz hi;exact ih xs[i] x y (hd _<|FG hi) (r i _ x e3 e1) (r' i _ y e3 e2)
  | @l p xs vs h hl r=>
   cases h2 with
   | @l q _ us h' hl' r'=>
    refine .inr ⟨p,q,vs,us,rfl,rfl,.inl ⟨h,h'⟩,by rw[hl,hl'],fun i x y e1 e2=>?_⟩;have hi:i<xs.length:=by rw[<-hl];exact(Cy.mp e1).1
    have e3:xs[i]? =some xs[i]:=Dz hi;exact ih xs[i] x y (hd _<|FG hi) (r i _ x e3 e1) (r' i _ y e3 e2)
def qG(K:Cq)(R:Rp α)(u:α->Dat):Prop:=∀H a v,R H a v->isU K H (u a) v
theorem xr:qG K isI .i:=fun _ _ _ h=>by cases h;exact .i
theorem fE:qG K isS .s:=fun _ _ _ h=>by cases h;exact .s
theorem tL:qG K isN (fun _=>.n):=fun _ _ _ h=>by cases h;exact .n
theorem tM:qG K (isU K) id:=fun _ _ _ h=>h
theorem zE{R:Rp α}{u:α->Dat}(h:qG K R u):qG K (isO R) (fun o=>w5 u o):=fun H o v r=>by
 cases o with
 |none=>cases r;exact .n
 |some a=>exact h _ _ _ r.1
theorem p5{R:Rp α}{u:α->Dat}(h:qG K R u):qG K (isL R) (fun xs=>.l<|xs.map u):=fun H xs v⟨p,vs,h0,h1,h2⟩=>by
 subst h0;refine .l h1 (by rw[E6,h2.1]) fun j x v e1 e2=>?_;rw[DJ]at e1;obtain⟨a,ha,rfl⟩:=ER.mp e1;exact h _ _ _<|h2.2 j v a e2 ha
theorem iM{R1:Rp α}{R2:Rp β}{u1:α->Dat}{u2:β->Dat}(h1:qG K R1 u1)(h2:qG K R2 u2):qG K (isT2 K R1 R2) (fun x=>.t [u1 x.1,u2 x.2]):=fun H a v⟨p,x,y,h0,h,r1,r2⟩=>by
 subst h0;refine .t h rfl fun j d v e1 e2=>?_
 match j,e1,e2 with
 |0,e1,e2=>cases e1;cases e2;exact h1 _ _ _ r1
 |1,e1,e2=>cases e1;cases e2;exact h2 _ _ _ r2
theorem eL{R:Rp α}{u:α->Dat}{m:Res α}(h:qG K R u)(e:EV Er t σ W (sh R) m):EV Er t σ W (sh<|isU K) (m.bind fun a=>.ok<|u a):=fun W1 e1 Q k=>
 e W1 e1 _ ((Cn k).imp fun a ka v W2 e2 hv=>ka v W2 e2<|h _ _ _ hv)
def dZ(K:Cq):Nat->Sp
 |0=>fun _ _ _ _=>False
 |n+1=>fun vs H Q _=>∃v u,vs=[v,u]/\((EqK K H n v u/\∀H',Same H H'->Q (.bl true) H')\/∃x y,v=.str x/\u=.str y/\Q (.bl<|decide<|FZ x=FZ y) H)
theorem gY[DecidableEq α]{R:Rp α}[Mono R]{n N:Nat}[EqR K R n]{E:XK}{ma mb:Res α}(hn:n<N)(ha:EV Er ta σ W (sh R) ma)(hb:EV Er tb σ W (sh R) mb):EV Er (aI (dZ K N) [] E<|ah ta<|ah tb aE) σ W (sh isB) (ma.bind fun a=>mb.bind fun b=>xZ a b):=fun W1 e1 Q k=>
 ha W1 e1 _ ((Cn k).imp fun a ka x W2 e2 hx=>hb W2 (e1.trans e2) _ ((Cn ka).imp fun b kb y W3 e3 hy=>by
  unfold xZ at kb;by_cases z:a=b
  ·rw[if_pos z]at kb;subst z;cases N with
   |zero=>omega
   |succ N=>
    refine⟨x,y,rfl,.inl ⟨EqR.eq W3.H a x y N (by omega) (Cp W3.ok<|Cp (R:=R) e3.g hx)<|Cp W3.ok hy,fun H' hs=>?_⟩⟩;exact kb (.bl true) ⟨W3.G,H',W3.ok.trans hs⟩ ⟨e2.g.trans e3.g,(e2.h.trans e3.h).trans hs,fun p hp=>(e2.trans e3).k p hp⟩ rfl
  ·rw[if_neg z]at kb;exact kb.elim))
theorem mr{N:Nat}{E:XK}{ma mb:Res Dat}(hn:24<N)(ha:EV Er ta σ W (sh<|isU K) ma)(hb:EV Er tb σ W (sh<|isU K) mb):EV Er (aI (dZ K N) [] E<|ah ta<|ah tb aE) σ W (sh isB) (ma.bind fun a=>mb.bind fun b=>rp a b):=fun W1 e1 Q k=>
  ha W1 e1 _ ((Cn k).imp fun a ka x W2 e2 hx=>hb W2 (e1.trans e2) _ ((Cn ka).imp fun b kb y W3 e3 hy=>by
    unfold rp at kb;by_cases z:a=b/\a.le 24
    · rw[if_pos z]at kb;obtain⟨z,hz⟩:=z;subst z;cases N with
      |zero=>omega
      | succ N =>
        have up:∀(m n:Nat)(d:Dat),n<=m->d.le n->d.le m:=by
          intro m
          induction m with
          | zero => intro n d h1 h2; have : n = 0 := by omega
                    subst this;exact h2
          | succ m ih =>
            intro n d h1 h2;cases n with
            | zero => cases d with
              |t xs=>exact h2.elim
              |l xs=>exact h2.elim
              |_=>trivial
            | succ n => cases d with
              |t xs=>exact fun x hx=>ih n x (by omega) (h2 x hx)
              |l xs=>exact fun x hx=>ih n x (by omega) (h2 x hx)
              |_=>trivial
        refine⟨x,y,rfl,.inl ⟨isU.eqk N a x y (up N 24 a (by omega) hz) (isU.same W3.ok<|isU.same e3.g hx)<|isU.same W3.ok hy,fun H' hs=>?_⟩⟩;exact kb (.bl true) ⟨W3.G,H',W3.ok.trans hs⟩ ⟨e2.g.trans e3.g,(e2.h.trans e3.h).trans hs,fun p hp=>(e2.trans e3).k p hp⟩ rfl
    ·rw[if_neg z]at kb;exact kb.elim))
structure OwD(gk:β->Key)(R:Rp α)(W:Wd)(p:Addr)(xs:List (β×α)):Prop where
 g:W.G p=none
 h:∃kv,W.H p=some (.dK kv)/\kv.length=xs.length/\∀(i:Nat)(q:Key×V)(x:β×α),kv[i]? =some q->xs[i]? =some x->q.1=gk x.1/\R W.G x.2 q.2
section
variable{g:β->Key}{R:Rp α}
theorem OwD.mono[Mono R]{p:Addr}{xs:List (β×α)}(o:OwD g R W p xs)(e:Ext W W'):OwD g R W' p xs:=by
 obtain⟨kv,a,b,c⟩:=o.h;exact⟨by rw[e.k p (by rw[a];exact fun z=>nomatch z)];exact o.g,kv,e.h _ _ a,b,fun i q x h1 h2=>⟨(c i q x h1 h2).1,Cp e.g (c i q x h1 h2).2⟩⟩
theorem iw[DecidableEq β](hg:∀a b,g a=g b->a=b){H:Hp}:∀(kv:List (Key×V))(xs:List (β×α)),kv.length=xs.length->(∀(i:Nat)(q:Key×V)(x:β×α),kv[i]? =some q->xs[i]? =some x->q.1=g x.1/\R H x.2 q.2)->∀k,match look xs k with|none=>fo kv (g k)=none|some a=>∃v,fo kv (g k)=some v/\R H a v
 | [],[],_,_,k=>rfl
 |q::kv,x::xs,hl,h,k=>by
  have h0:=h 0 q x rfl rfl;have ih:=iw hg kv xs (by simpa using hl) (fun i q x h1 h2=>h (i+1) q x h1 h2) k;by_cases e:x.1=k
  ·have e1:look (x::xs) k=some x.2:=by unfold look;rw[Ex (by simpa using e)];rfl
   rw[e1];exact⟨q.2,fL (by rw[h0.1,e]),h0.2⟩
  ·have e1:look (x::xs) k=look xs k:=by unfold look;rw[DD (by simpa using e)]
   rw[e1];have e2:fo (q::kv) (g k)=fo kv (g k):=fM (fun z=>e (hg _ _ (by rw[<-h0.1];exact z)));rw[e2];exact ih
def EVd(Er:Nat->Prop)(t:TE)(σ:St)(W:Wd)(g:β->Key)(R:Rp α)(m:Res (List<|β×α)):Prop:=∀W1,Ext W W1->∀Q:VK,m.OkE Er (fun xs=>∀p W2,Ext W1 W2->W1.H p=none->OwD g R W2 p xs->Q (.ref p) W2.H)->t σ W1.H Q
theorem p6:EVd Er aS σ W g R (.ok []):=fun W1 e1 Q k p hp=>k p (W1.mut p (.dK [])<|W1.gnone hp) (.own _ hp) hp ⟨W1.gnone hp,[],ai,rfl,fun i q x h=>by simp at h⟩
theorem p7[DecidableEq β](hg:∀a b,g a=g b->a=b){H:Hp}{kv:List (Key×V)}{xs:List (β×α)}(hl:kv.length=xs.length)(h:∀(i:Nat)(q:Key×V)(x:β×α),kv[i]? =some q->xs[i]? =some x->q.1=g x.1/\R H x.2 q.2){k:β}{a:α}{v:V}(r:R H a v):
  (gz kv (g k) v).length=(eJ xs k a).length/\∀(i:Nat)(q:Key×V)(x:β×α),(gz kv (g k) v)[i]? =some q->(eJ xs k a)[i]? =some x->q.1=g x.1/\R H x.2 q.2:=by
 have hany:(kv.any fun p=>decide<|p.1=g k)=(xs.any fun p=>decide<|p.1=k):=by
  have key:∀(kv:List (Key×V))(xs:List (β×α)),kv.length=xs.length->(∀(i:Nat)(q:Key×V)(x:β×α),kv[i]? =some q->xs[i]? =some x->q.1=g x.1/\R H x.2 q.2)->(kv.any fun p=>decide<|p.1=g k)=(xs.any fun p=>decide<|p.1=k):=by
   intro kv
   induction kv with
   |nil=>intro xs hl _;cases xs with|nil=>rfl|cons _ _=>cases hl
   |cons q kv ih=>
    intro xs hl h;cases xs with
    |nil=>cases hl
    |cons x xs=>
     rw[Gg,Gg,ih xs (by simpa using hl) fun i q x h1 h2=>h (i+1) q x h1 h2];congr 1;rw[(h 0 q x rfl rfl).1,Ez];simp only[decide_eq_true_eq];exact⟨hg _ _,fun e=>by rw[e]⟩
  exact key kv xs hl h
 unfold gz eJ;rw[hany];by_cases c:(xs.any fun p=>decide<|p.1=k)=true
 ·rw[if_pos c,if_pos c];refine⟨by simp[hl],fun i q x h1 h2=>?_⟩;rw[DJ]at h1 h2;obtain⟨q0,hq0,rfl⟩:=ER.mp h1;obtain⟨x0,hx0,rfl⟩:=ER.mp h2;obtain⟨h3,h4⟩:=h i q0 x0 hq0 hx0;by_cases z:x0.1=k;·rw[if_pos z,if_pos (by rw[h3,z])];exact⟨h3,r⟩
  ·rw[if_neg z,if_neg (fun e=>z (hg _ _ (by rw[<-h3];exact e)))];exact⟨h3,h4⟩
 ·rw[if_neg c,if_neg c];refine⟨by simp[hl],fun i q x h1 h2=>?_⟩;by_cases hi:i<kv.length
  ·rw[Dg hi]at h1;rw[Dg (by rw[<-hl];exact hi)]at h2;exact h i q x h1 h2
  ·rw[Dc (by omega)]at h1;rw[Dc (by rw[<-hl];omega),<-hl]at h2
   match i-kv.length,h1,h2 with
   |0,h1,h2=>cases h1;cases h2;exact⟨rfl,r⟩
end
section
variable{g:β->Key}{R:Rp α}{D:Ends}{r:TS}{te ti:TE}{i:Nat}
theorem w6{σ':Addr->St}{m:Res (List<|β×α)}(h:EVd Er te σ W g R m)(q:m.OkE Er fun a=>∀p W',Ext W W'->W.H p=none->OwD g R W' p a->D.nx (σ' p) W'.H)(hσ:∀p,σ.set i (some<|.ref p)=σ' p:=by intro _;rfl):bD te (aH i) D σ W.H:=h W (.refl _) _ (q.imp fun a k p W' e hp r=>by have:=k p W' e hp r;rw[<-hσ]at this;exact this)
theorem iy{σ':Addr->St}{m:Res (List<|β×α)}(h:EVd Er te σ W g R m)(q:m.OkE Er fun a=>∀p W',Ext W W'->W.H p=none->OwD g R W' p a->r D (σ' p) W'.H)(hσ:∀p,σ.set i (some<|.ref p)=σ' p:=by intro _;rfl):dt (bD te<|aH i) r D σ W.H:=w6 (D:={D with nx:=r D}) h q hσ
theorem p9[DecidableEq β][Mono R]{Rk:Rp β}{p:Addr}{xs:List (β×α)}{m:Res α}{mk:Res β}(hg:∀a b,g a=g b->a=b)(hk:∀H b v,Rk H b v->v=kV (g b))(o:OwD g R W p xs)(h:EV Er te σ W (sh R) m)(hj:EV Er ti σ W (sh Rk) mk)
  (q:(m.bind fun a=>mk.bind fun k=>iT xs k a).OkE Er fun ys=>∀W',Mu W W' p->OwD g R W' p ys->D.nx σ W'.H) (hi:σ[i]? =some (some<|.ref p):=by rfl):bB (aU i) ti te D σ W.H:=by
 refine h W (.refl _) _<|(Cn q).imp fun a ka v W2 e2 hv=>⟨.ref p,hi,hj W2 e2 _<|(Cn ka).imp fun k kk x W3 e3 hx=>?_⟩;obtain⟨h3,h4⟩:=aO kk;have e:=e2.trans e3;have o':=o.mono e;obtain⟨kv,o1,o2,o3⟩:=o'.h;obtain⟨p1,p2⟩:=p7 hg o2 o3 (k:=k)<|Cp (R:=R) e3.g hv;refine⟨p,_,rfl,by rw[hk _ _ _ hx];exact DPut.k o1 (by rw[o2,DK];unfold Mi.cap at h3;omega),?_⟩;exact h4 (W3.mut p (.dK<|gz kv (g k) v) o'.g) (.of e o'.g) ⟨o'.g,_,ai,p1,p2⟩
end
theorem kS:∀(H:Hp)(b:Tx)(v:V),isS H b v->v=kV (DF<|sOf b):=fun _ _ _ h=>h
theorem EV.go{W1:Wd}{R:Rw α}{m:Res α}{Q:VK}(e:Ext W W1)(h:EV Er t σ W R m)(k:m.OkE Er fun a=>∀v W2,Ext W1 W2->R W2 a v->Q v W2.H):t σ W1.H Q:=h W1 e Q k
end
end Wb
namespace Mi
def kindN:List Tx:=[[66,97,100,84,97,98,108,101,116],[66,97,100,82,111,119],[66,97,100,84,101,120,116],[66,97,100,77,97,114,107],[84,111,111,76,111,110,103],[84,111,111,84,105,103,104,116],[83,112,111,111,108,68,114,121],[78,111,84,97,98,108,101,116],[78,111,116,104,105,110,103,76,101,102,116],[85,110,108,105,107,101],[83,101,101,110,84,104,114,101,97,100],[78,111,83,117,99,104,87,97,121],[66,97,114,114,101,100]]
def qH(s:Tx)(j:Nat):Dat:=.t [.s s,.l [.s (kindN.getD j [])]]
def qI(i:Int):Tx:=(toString i).toList.map Char.toNat
def yh(i:Int):Res Tx:=eG (i.natAbs.log2<1920)<|qI i
def w9(x:Tx):Res Tx:=eG (x.length<=cap) x
end Mi
namespace L2
open PySem PySem.Spec PyProof.Rows
def XV(x:Addr):Option Addr->Cr
 |none=>.ref x
 |some d=>.int (Int.ofNat d) 0
theorem qJ{f:Array Cr->Array Cr}{o:Obj}:(DE f o).dict=o.dict:=by
 unfold DE;split<;>rfl
structure Fly(h:Heap)(H:Hp)(lim:Heap)(e C:Addr)(od:Option Addr):Prop where
 he:H e=none
 hl:lim.get? e=none
 ob:∃(oe:Obj)(vs:Array Cr),h.get? e=some oe/\(oe.cls=.ref C/\oe.dict=od)/\oe.data=.fields vs/\vs[2]? =some .none/\
  (vs[1]? =some .none\/∃(T:Addr)(oT:Obj)(ts:Array Cr),vs[1]? =some (.ref T)/\T≠e/\H T=none/\lim.get? T=none/\h.get? T=some oT/\oT.data=.fields ts/\ts[3]? =some .none)
structure Gone(fs:List Addr)(H:Hp)(lim:Heap)(e:Addr)(h h':Heap):Prop where
 keep:∀b o,h.get? b=some o->b∉fs->b≠e->(H b≠none\/lim.get? b≠none)->h'.get? b=some o
 slot:∀b o,h.get? b=some o->b∈fs->∃sl,h'.get? b=some {o with slots:=sl}
 there:∀b o,h.get? b=some o->∃o',h'.get? b=some o'
theorem Gone.trans{fs:List Addr}{H:Hp}{lim:Heap}{e:Addr}{h h1 h2:Heap}(a:Gone fs H lim e h h1)(b:Gone fs H lim e h1 h2):Gone fs H lim e h h2:=
 ⟨fun c o q n m k=>b.keep c o (a.keep c o q n m k) n m k,fun c o q n=>by
  obtain⟨sl,z⟩:=a.slot c o q n;obtain⟨sl',z'⟩:=b.slot c _ z n;exact⟨sl',z'⟩,fun c o q=>by
  obtain⟨o',z⟩:=a.there c o q;exact b.there c o' z⟩
section
variable{M:Jp}{A:De}{E:Cr->Cu->Prop}{s:Cu}{base lim:Heap}{H:Hp}{env:Env}{outer:List Env}{L e C:Addr}{od:Option Addr}
abbrev Ak(head:Cr)(L:Addr)(pl:List Cr):Obj:={cls:=.type "traceback",dict:=none,data:=.fields ([head,.ref L,.none,rawInt L,.none]++(if pl.isEmpty then CI 6 Dq else pl)).toArray}
theorem pe{head:Cr}{hn:Bool}{oe:Obj}{vs:Array Cr}{Q:Unit->Cu->Prop}(hfr:A.frames=some (env::outer))(hfn:s.heap.FunFrames base (env::outer))(hf:env.frame=some L)
  (he:s.heap.get? e=some oe) (hd:oe.data=.fields vs) (hc:oe.cls=.ref C/\oe.dict=od) (h2:vs[2]? =some .none) (hH:H e=none) (hlm:lim.get? e=none)
  (hfree:∀b,s.heap.objs.size<=b->H b=none/\lim.get? b=none)
  (h:∀h',Gone (frs (env::outer)) H lim e s.heap h'->Fly h' H lim e C od->Q () {s with heap:=h'}):
  wpAny M A (do let a <-frameOf env;let pl <-entryPlaceOf L hn;let b <-Ig head a .none (rawInt L) .none pl;setField (.ref e) 1 b) (fun _ s'=>wpAny M A (setFlight (.ref e) none) Q E s') E s:=by
 have hsz:1<vs.size:=by have:=(ET.mp h2).1;omega
 have nfr:e∉(env::outer).filterMap (·.frame):=fun hm=>by
  obtain⟨_,o,ho,hnf⟩:=hfn.mem hm;rw[he]at ho;exact hnf vs (by rw[<-Df ho];exact hd)
 refine Co<|wpAny_frameOf_fun hfr hfn hf fun h1 hs1=>?_;refine Co<|wpAny_entryPlaceOf fun pl hpl=>?_;unfold Ig newFields;refine Co<|EJ ?_<|hpl.sizeOk5 _ _ _ _ _;have g1:h1.get? e=some oe:=(hs1.2.1 e nfr).trans he;have g2:(h1.push<|Ak head L pl).get? e=some oe:=Cs _ g1;refine EF g2 hd hsz ?_;have ne:h1.objs.size≠e:=Et<|CD g1;have d3:=DZ hd (·.setIfInBounds 1 (CO h1.objs.size));have g3:=DT (DE (·.setIfInBounds 1 (CO h1.objs.size))) g2<|ED d3;have gT:=(Dk (h1.push<|Ak head L pl) (DE (·.setIfInBounds 1 (CO h1.objs.size)))<|E8 ne).trans (CF h1 rfl);unfold setFlight;refine Co (D6 g3 d3 (x:=.ref h1.objs.size) (by simp[hsz]) ?_);rw[if_pos (show(CO h1.objs.size != Dq)=true from by simp)];refine EF gT rfl (by simp only[CH,CY,Dr,FN]<;>omega) ?_;have keep1:∀b o,b≠e->h1.get? b=some o->(((h1.push<|Ak head L pl).update e (DE (·.setIfInBounds 1 (CO h1.objs.size)))).update h1.objs.size (DE (·.setIfInBounds 3 ((none:Option Addr).elim Dq fun f=>rawInt f)))).get? b=some o:=fun b o hb hq=>by
  rw[Dk _ _<|Et<|CD hq,Dk _ _<|E8 hb];exact Cs _ hq
 have ge:(((h1.push<|Ak head L pl).update e (DE (·.setIfInBounds 1 (CO h1.objs.size)))).update h1.objs.size (DE (·.setIfInBounds 3 ((none:Option Addr).elim Dq fun f=>rawInt f)))).get? e=some (DE (·.setIfInBounds 1 (CO h1.objs.size)) oe):=by
  rw[Dk _ _ ne];exact g3
 have big:s.heap.objs.size<=h1.objs.size:=hs1.1▸CK _;refine h _ ⟨fun b o q n m _=>keep1 b o m<|(hs1.2.1 b n).trans q,fun b o q n=>?_,fun b o q=>?_⟩ ⟨hH,hlm,_,_,ge,⟨by rw[GY];exact hc.1,by rw[qJ];exact hc.2⟩,d3,by rw[Array.getElem?_setIfInBounds_ne (by decide)];exact h2,.inr ⟨h1.objs.size,_,_,by simp[hsz],ne,(hfree _ big).1,(hfree _ big).2,DT _ gT<|ED<|DZ rfl _,DZ rfl _,?_⟩⟩
 ·obtain⟨sl,z⟩:=hs1.2.2 b o q;exact⟨sl,keep1 b _ (fun y=>nfr<|y▸n) z⟩
 ·by_cases y:b=e;·rw[y];exact⟨_,ge⟩
  ·obtain⟨sl,z⟩:=hs1.2.2 b o q;exact⟨_,keep1 b _ y z⟩
 ·first|(simp;done)|(rcases hpl with rfl|⟨_,_,_,_,_,_,_,rfl⟩<;>simp)
theorem pf{Q:Unit->Cu->Prop}(hfr:A.frames=some (env::outer))(hfn:s.heap.FunFrames base (env::outer))(hf:env.frame=some L)(x:Fly s.heap H lim e C od)
  (hfree:∀b,s.heap.objs.size<=b->H b=none/\lim.get? b=none)
  (h:∀h',Gone (frs (env::outer)) H lim e s.heap h'->Fly h' H lim e C od->Q () {s with heap:=h'}):wpAny M A (noteFrame (.ref e) env) (fun _ s'=>wpAny M A (setFlight (.ref e) none) Q E s') E s:=by
 obtain⟨hH,hlm,oe,vs,he,hc,hd,h2,h1⟩:=x;unfold noteFrame;simp only[hf];rcases h1 with h1|⟨T,oT,ts,h1,hTe,hT0,hTl,hT,hdT,h3⟩
 ·refine Co<|D6 he hd h1 ?_;rw[if_neg (by decide)];exact pe hfr hfn hf he hd hc h2 hH hlm hfree h
 ·refine Co<|D6 he hd h1 ?_;rw[if_pos (show(CO T != Dq)=true from by simp)];refine Co<|D6 hT hdT h3 ?_;rw[if_neg (show ¬((Dq==rawInt L)=true)from by simp[rawInt])];refine Co<|EF hT hdT (ET.mp h3).1 ?_;have other:∀b,b≠T->(s.heap.update T (DE (·.setIfInBounds 3 Dq))).get? b=s.heap.get? b:=fun b hb=>Dk _ _<|E8 hb;have nT:∀b o,s.heap.get? b=some o->(∀vs,o.data≠.fields vs)->b≠T:=fun b o q hn z=>by
   rw[z,hT]at q;exact hn ts (by rw[<-Df q];exact hdT)
  have g0:Gone (frs (env::outer)) H lim e s.heap (s.heap.update T (DE (·.setIfInBounds 3 Dq))):=⟨fun b o q n m k=>(other b fun z=>by
    rw[z,hT0,hTl]at k;rcases k with k|k<;>exact k rfl).trans q,fun b o q n=>⟨o.slots,(other b (by
    obtain⟨_,o',ho,hnf⟩:=hfn.mem n;exact nT b o' ho hnf)).trans q⟩,fun b o q=>by
    by_cases z:b=T;·rw[z];exact⟨_,DT _ hT<|ED<|DZ hdT _⟩
    ·exact⟨o,(other b z).trans q⟩⟩
  have sz:(s.heap.update T (DE (·.setIfInBounds 3 Dq))).objs.size=s.heap.objs.size:=Heap.size_update ..;refine pe (s:={s with heap:=s.heap.update T (DE (·.setIfInBounds 3 Dq))}) hfr (hfn.of_keeps fun b o q hn=>⟨o,(other b<|nT b o q hn).trans q,rfl⟩) hf ((other e<|E8 hTe).trans he) hd hc h2 hH hlm (fun b hb=>hfree b (by rw[<-sz];exact hb)) fun h' g1 f1=>h h' (g0.trans g1) f1
theorem qK{Q:Unit->Cu->Prop}(hfr:A.frames=some (env::outer))(hfn:s.heap.FunFrames base (env::outer))(hf:env.frame=some L)(x:Fly s.heap H lim e C od)
  (hfree:∀b,s.heap.objs.size<=b->H b=none/\lim.get? b=none)
  (h:∀h',Gone (frs (env::outer)) H lim e s.heap h'->Fly h' H lim e C od->Q () {s with heap:=h'}):wpAny M A (leaving env<|.ref e) Q E s:=by
 unfold leaving;exact Co<|pf hfr hfn hf x hfree h
theorem tN{Q:Unit->Cu->Prop}(hfn:s.heap.FunFrames base (env::outer))(x:Fly s.heap H lim e C od)
  (h:∀h',Gone (frs (env::outer)) H lim e s.heap h'->Fly h' H lim e C od->Q () {s with heap:=h'}):wpAny M A (setFlight (.ref e) none) Q E s:=by
 obtain⟨hH,hlm,oe,vs,he,hc,hd,h2,h1⟩:=x;unfold setFlight;rcases h1 with h1|⟨T,oT,ts,h1,hTe,hT0,hTl,hT,hdT,h3⟩
 ·refine Co<|D6 he hd h1 ?_;rw[if_neg (by decide)];exact CC<|h s.heap ⟨fun b o q _ _ _=>q,fun b o q _=>⟨o.slots,q⟩,fun b o q=>⟨o,q⟩⟩ ⟨hH,hlm,oe,vs,he,hc,hd,h2,.inl h1⟩
 ·refine Co<|D6 he hd h1 ?_;rw[if_pos (show(CO T != Dq)=true from by simp)];refine EF hT hdT (ET.mp h3).1 ?_;have other:∀b,b≠T->(s.heap.update T (DE (·.setIfInBounds 3 ((none:Option Addr).elim Dq fun f=>rawInt f)))).get? b=s.heap.get? b:=fun b hb=>Dk _ _<|E8 hb;have gT:=DT (DE (·.setIfInBounds 3 ((none:Option Addr).elim Dq fun f=>rawInt f))) hT<|ED<|DZ hdT _;refine h _ ⟨fun b o q n m k=>(other b fun z=>by
    rw[z,hT0,hTl]at k;rcases k with k|k<;>exact k rfl).trans q,fun b o q n=>⟨o.slots,(other b (by
    obtain⟨_,o',ho,hnf⟩:=hfn.mem n;intro z;rw[z,hT]at ho;exact hnf ts (by rw[<-Df ho];exact hdT))).trans q⟩,fun b o q=>by
    by_cases z:b=T;·rw[z];exact⟨_,gT⟩
    ·exact⟨o,(other b z).trans q⟩⟩ ⟨hH,hlm,oe,vs,(other e (E8 hTe)).trans he,hc,hd,h2,.inr ⟨T,_,_,h1,hTe,hT0,hTl,gT,DZ hdT _,?_⟩⟩
  have:=(ET.mp h3).1;simp[this]
end
def CXR(P:CQ)(w:D4):CXT:=fun outer H s E e s'=>∃(x C:Addr)(H':Hp)(od:Option Addr),e=.ref x/\Fly s'.heap H' s.heap x C od/\s'.os=s.os/\GB s'.gens/\Un (frs outer) [] H H' s.heap s'.heap/\HOk P w H' s'.heap/\E (XV x od) (some C) H'
theorem Fly.lim{h l1 l2:Heap}{H:Hp}{e C:Addr}{od:Option Addr}(f:Fly h H l1 e C od)(k:∀b,l1.get? b=none->l2.get? b=none):Fly h H l2 e C od:=by
 obtain⟨a,b,oe,vs,h1,h2,h3,h4,h5⟩:=f;refine⟨a,k _ b,oe,vs,h1,h2,h3,h4,h5.imp id fun⟨T,oT,ts,q1,q2,q3,q4,q5⟩=>⟨T,oT,ts,q1,q2,q3,k _ q4,q5⟩⟩
section
variable{P:CQ}{w:D4}{K:Cq}{mg:Str->Option Cr}{base:Heap}{N:List Str}{qual:Str}{scope:Fh}{f:Addr}{cd:Cr}{A:De}{outer:List Env}{s0 s:Cu}{H0 H:Hp}{E:XK}{pins:List (Addr×Obj)}{σ:St}{e C:Addr}{od:Option Addr}
abbrev ph(P:CQ)(w:D4)(K:Cq)(mg:Str->Option Cr)(base:Heap)(N:List Str)(qual:Str)(scope:Fh)(f:Addr)(cd:Cr)(A:De)(outer:List Env)(s0:Cu)(H0:Hp)(E:XK):Cx:=jh (CXR P w) P w K mg base N qual scope f cd A outer s0 H0 E
theorem xt(I:Inv (ph P w K mg base N qual scope f cd A outer s0 H0 E) pins σ H s)(x:Fly s.heap H s0.heap e C od)(q:E (XV e od) (some C) H):(ph P w K mg base N qual scope f cd A outer s0 H0 E).xe (.ref e) s:=by
 have hsz:s0.heap.objs.size<=s.heap.objs.size:=I.sz;have hfree:∀b,s.heap.objs.size<=b->H b=none/\s0.heap.get? b=none:=fun b hb=>⟨I.hok.fresh hb,Gh<|Ei hsz hb⟩
 refine qK (base:=base) (env:=envOfC qual scope s0.heap.objs.size f cd) (outer:=outer) (L:=s0.heap.objs.size) (H:=H) (lim:=s0.heap) I.ok.frames I.stack rfl x hfree fun h' g fl=>?_;have stk:∀b,b∈frs (envOfC qual scope s0.heap.objs.size f cd::outer)->H b=none:=I.stkFree;have low:∀b o,s0.heap.get? b=some o->b∉frs outer->b∉frs (envOfC qual scope s0.heap.objs.size f cd::outer):=fun b o q n m=>by
  have:b=s0.heap.objs.size\/b∈frs outer:=CM.mp (show b∈s0.heap.objs.size::frs outer from m);rcases this with z|z
  ·have:=CD q;rw[z]at this;exact Di _ this
  ·exact n z
 have sub:∀b,b∈frs outer->b∈frs (envOfC qual scope s0.heap.objs.size f cd::outer):=fun b m=>by
  show b∈s0.heap.objs.size::frs outer;exact CG _ m
 have ne0:∀b o,s0.heap.get? b=some o->b≠e:=fun b o q z=>by rw[z,x.hl]at q;cases q
 have U:=I.base;refine⟨e,C,H,od,rfl,fl,I.os,I.bare,⟨fun b o q1 n hb hx=>g.keep b o (U.keep b o q1 n hb hx) (low b o q1 hb) (ne0 b o q1) (.inr (by rw[q1];exact fun z=>nomatch z)),fun b o q1 n hb hx=>?_,U.free,fun b o q1 hx=>?_,U.tups,U.frzs,U.tbls⟩,fun b u hb=>?_,q⟩
 ·obtain⟨sl,z⟩:=U.slot b o q1 n hb hx;obtain⟨sl',z'⟩:=g.slot b _ z<|sub b hb;exact⟨sl',z'⟩
 ·obtain⟨o',z⟩:=U.there b o q1 hx;exact g.there b o' z
 ·refine(I.hok b u hb).stay (fun c v hc q1=>?_) (fun _ q1=>q1) fun _ _ q1=>q1;have hn:H c≠none:=by
   rcases hc with z|z
   ·rw[z,hb];exact fun z=>nomatch z
   ·rw[z];exact fun z=>nomatch z
  exact g.keep c v q1 (fun m=>hn<|stk c m) (fun z=>hn (by rw[z];exact x.he))<|.inl hn
theorem pj:dN (CXR P w) (ph P w K mg base N qual scope f cd A outer s0 H0 E) E:=fun pins σ H s e s' I⟨x,C,H',od,he,fl,os,bare,un,hok,q⟩=>by
 subst he;have I':=I.call' os un hok bare fun b z=>absurd z (by simp);refine xt I' (fl.lim fun b hb=>?_) q;cases z:s0.heap.get? b with
 |none=>rfl
 |some o=>
  obtain⟨o',z'⟩:=I.base.there b o z (by simp[jh]);rw[hb]at z';cases z'
end
theorem ObjOk.ex{P:CQ}{w:D4}{H:Hp}{h:Heap}{a:Addr}:∀{o:HO},ObjOk P w H h a o->∃ob,h.get? a=some ob:=by
 intro o
 induction o with
 |lst xs=>intro x;obtain⟨_,its,n,r,e⟩:=x;exact⟨_,e⟩
 |tup xs=>intro x;obtain⟨_,its,r,ob,e,c⟩:=x;exact⟨_,e⟩
 |dK kvs=>intro x;obtain⟨_,_,vs,r,ob,es,ep,e,c⟩:=x;exact⟨_,e⟩
 |dT kvs=>intro x;obtain⟨_,_,xs,r,ob,es,ep,e,c⟩:=x;exact⟨_,e⟩
 |set S n=>intro x;obtain⟨o,e,_⟩:=L8 x;exact⟨_,e⟩
 |ins C dx fs=>intro x;obtain⟨_,_,_,e,_⟩:=x;exact⟨_,e⟩
 |own y=>intro x;exact x
 |xd fs=>intro x;obtain⟨mA,hn,_⟩:=x;obtain⟨o,es,ep,e,_⟩:=hn;exact⟨_,e⟩
 |rng lo hi=>intro x;obtain⟨t,u,v,e⟩:=x;exact⟨_,e⟩
 |frz o u=>intro x;exact⟨_,x.1⟩
 |tbl ps=>intro x;exact⟨_,x⟩
 |met f y=>intro x;exact⟨_,x⟩
 |ext φ=>intro x;exact x.2.1
def Ecl(h:Heap)(C:Addr):Prop:=∃nm q N bs bm hdct sn sub ab col dd k0 k1 k2 k3 k5 newId mN B initId bmB,h.get? C=some (excClassObj nm q C N bs bm hdct sn sub ab col dd k0 k1 k2 k3 k5 newId)/\h.Ns N mN/\mN "__init__"=none/\OwnTail h bmB bm/\ExcBaseFacts B newId initId bmB
def tO(E:XK)(C:Addr)(t:TA):TS:=fun _ σ H=>t σ H fun vs H1=>vs.length<=sizeLine/\∀x,H1 x=none->E (.ref x) (some C) H1
section
variable{P:CQ}{w:D4}{K:Cq}{mg:Str->Option Cr}{base:Heap}{N:List Str}{qual:Str}{scope:Fh}{f:Addr}{cd:Cr}{A:De}{outer:List Env}{s0:Cu}{H0:Hp}{E:XK}{C:Addr}
theorem gZ{x:Str}{np cpos pos:Pos}{e:Expr}{es:List Expr}{t:TA}(cl:Ecl base C)(hg:Gl (ph P w K mg base N qual scope f cd A outer s0 H0 E) x)(hm:mg x=some (.ref C))(ha:PA (ph P w K mg base N qual scope f cd A outer s0 H0 E) (e::es) t)
  (hdb:(x==("__debug__" :Str))=false:=by decide) (he:starEach (e::es) (ph P w K mg base N qual scope f cd A outer s0 H0 E).env=(false,eval e (ph P w K mg base N qual scope f cd A outer s0 H0 E).env)::starEach es (ph P w K mg base N qual scope f cd A outer s0 H0 E).env:=by rfl) (hpl:(backTo cpos<|starEach es (ph P w K mg base N qual scope f cd A outer s0 H0 E).env).any (·.1)=false:=by rfl):
  PS (ph P w K mg base N qual scope f cd A outer s0 H0 E) (.Raise (some<|.Call (.Name x np) (e::es) [] cpos) none pos) (tO E C t):=by
 intro pins s σ H D I h;obtain⟨nm,q,Nn,bs,bm,hdct,sn,sub,ab,col,dd,k0,k1,k2,k3,k5,newId,mN,B,initId,bmB,hC,hN,hni,T,F⟩:=cl;refine wpAny_Raise_call_subT (C:=C) (nm:=nm) (q:=q) (N:=Nn) (bs:=bs) (bm:=bm) (hdct:=hdct) (sn:=sn) (sub:=sub) (ab:=ab) (col:=col) (dd:=dd) (k0:=k0) (k1:=k1) (k2:=k2) (k3:=k3) (k5:=k5) F (mN:=mN) (T.hasType F.hasBase) (I.ok.hd rfl) (by rw[he];show(false||(backTo cpos<|starEach es _).any (·.1))=false;rw[hpl];rfl) hni<|fY I hg hm ⟨rfl,?_⟩ hdb;rw[he];refine Gj ?_;show wpAny _ _ (spliced<|backTo cpos ((false,eval e (ph P w K mg base N qual scope f cd A outer s0 H0 E).env)::starEach es (ph P w K mg base N qual scope f cd A outer s0 H0 E).env)) _ _ _;rw[<-he];refine bL (ha cpos pins s σ H _ I h) fun us s1⟨vs,H1,I1,r,hz,q1⟩=>⟨rfl,by rw[<-r.length];exact hz,I1.bk _ _ hC,hN.keeps I1.bk,T.keeps I1.bk,fun h' y hy=>?_⟩
 obtain⟨t0,h1,h2,h3⟩:=hy.there;have I2:Inv (ph P w K mg base N qual scope f cd A outer s0 H0 E) pins σ H1 {s1 with heap:=h'}:=I1.kept (t':=s1.toks) hy.keeps;have n1:H1 y=none:=by
  cases z:H1 y with
  |none=>rfl
  |some o=>obtain⟨ob,hb⟩:=(I1.hok y o z).ex;rw[hy.new]at hb;cases hb
 have n2:s0.heap.get? y=none:=by
  cases z:s0.heap.get? y with
  |none=>rfl
  |some o=>obtain⟨ob,hb⟩:=I1.base.there y o z (by simp[jh]);rw[hy.new]at hb;cases hb
 exact xt (od:=none) I2 ⟨n1,n2,_,_,h1,⟨rfl,rfl⟩,rfl,rfl,.inl rfl⟩<|q1 y n1
end
def Xcl(h:Heap)(C:Addr)(bm:List Cr):Prop:=∃nm q N bs hdct sn sub ab col dd k0 k1 k2 k3 k5 newId,h.get? C=some (excClassObj nm q C N bs bm hdct sn sub ab col dd k0 k1 k2 k3 k5 newId)/\bm.contains (.type "BaseException")=true
theorem Xcl.keeps{h h':Heap}{C:Addr}{bm:List Cr}(x:Xcl h C bm)(k:∀b o,h.get? b=some o->h'.get? b=some o):Xcl h' C bm:=by
 obtain⟨nm,q,N,bs,hdct,sn,sub,ab,col,dd,k0,k1,k2,k3,k5,newId,e,hb⟩:=x;exact⟨nm,q,N,bs,hdct,sn,sub,ab,col,dd,k0,k1,k2,k3,k5,newId,k _ _ e,hb⟩
section
variable{M:Jp}{A:De}{E:Cr->Cu->Prop}
theorem jS{s:Cu}{e C D:Addr}{bmC bmD:List Cr}{oe:Obj}{Q:Bool->Cu->Prop}(hC:Xcl s.heap C bmC)(hD:Xcl s.heap D bmD)(he:s.heap.get? e=some oe)(hcls:oe.cls=.ref C)(hq:Q ((CO C::bmC).contains (.ref D)) s):wpAny M A (excMatches (.ref e)<|.ref D) Q E s:=by
 obtain⟨h,g,d,t,os⟩:=s;obtain⟨nm,q,N,bs,hdct,sn,sub,ab,col,dd,k0,k1,k2,k3,k5,newId,hC,hbase⟩:=hC;obtain⟨nm',q',N',bs',hdct',sn',sub',ab',col',dd',k0',k1',k2',k3',k5',newId',hD,hbase'⟩:=hD;have hcB:(CO D::bmD).contains (.type "BaseException")=true:=by rw[ID,hbase',Bool.or_true]
 have f:=tc_notTuple;generalize hb:(CO C::bmC).contains (.ref D)=b at hq;unfold excMatches
 repeat (first|(with_reducible refine J5 he ?_;rw[hcls])|with_reducible refine J5 hD ?_|(with_reducible refine Ih hD ?_;rw[hcB])|(with_reducible refine Ih hC ?_;rw[hb])|wp_step)
 first|exact hq|(cases b<;>(wp_walk;exact hq))
end
structure Big(X:Cx)(pins:List (Addr×Obj))(lim:Heap):Prop where
 old:∀b o,X.s₀.heap.get? b=some o->b∉X.ex->lim.get? b≠none
 loc:lim.get? X.env.locals≠none
 cell:∀x c,X.env.cells.lookup x=some c->lim.get? c≠none
 pin:∀p∈X.pn++pins,lim.get? p.1≠none
def Own(X:Cx):Prop:=X.stack=X.env::X.outer/\X.env.frame=some X.env.locals
section
variable{X:Cx}{pins:List (Addr×Obj)}{σ:St}{H:Hp}{s:Cu}{lim h':Heap}{e C:Addr}{od:Option Addr}{oe:Obj}
theorem Own.frs(o:Own X):frs X.stack=X.env.locals::X.fs:=by
 rw[o.1];unfold L2.frs;rw[Fb,o.2];rfl
theorem Inv.bigX(I:Inv X pins σ H s):Big X pins s.heap:=by
 refine⟨fun b o q n=>?_,?_,fun x c q=>?_,fun p hp=>?_⟩
 ·obtain⟨o',z⟩:=I.base.there b o q n;rw[z];exact fun z=>nomatch z
 ·obtain⟨m,⟨o,es,ep,ho,_⟩,_⟩:=I.loc;rw[ho];exact fun z=>nomatch z
 ·obtain⟨v,o,ho,_⟩:=I.cell x c q;rw[ho];exact fun z=>nomatch z
 ·rw[(I.pin p hp).1];exact fun z=>nomatch z
theorem Inv.gone(I:Inv X pins σ H s)(w:Own X)(x:Fly s.heap H lim e C od)(B:Big X pins lim)(g:Gone (frs X.stack) H lim e s.heap h'):Inv X pins σ H {s with heap:=h'}:=by
 have hf:=w.frs;have ne:∀b,lim.get? b≠none->b≠e:=fun b hb z=>hb (by rw[z];exact x.hl);have low:∀b o,X.s₀.heap.get? b=some o->b∉X.fs->b∉frs X.stack:=fun b o q n m=>by
  rw[hf]at m;rcases CM.mp m with z|z
  ·have:=CD q;rw[z]at this;exact absurd (CA this I.ok.above)<|Di _
  ·exact n z
 have cellK:∀y c,X.env.cells.lookup y=some c->∀v,s.heap.IsCell c v->h'.IsCell c v:=fun y c q v⟨o,ho,hd⟩=>by
  by_cases m:c∈frs X.stack
  ·obtain⟨sl,z⟩:=g.slot c o ho m;exact⟨_,z,hd⟩
  ·exact⟨o,g.keep c o ho m (ne c<|B.cell y c q)<|.inr<|B.cell y c q,hd⟩
 refine⟨I.ok,I.os,I.bare,⟨fun b o q n hb hx=>?_,fun b o q n hb hx=>?_,I.base.free,fun b o q hx=>?_,I.base.tups,I.base.frzs,I.base.tbls⟩,?_,fun y c q=>?_,I.free,I.freeC,fun p hp=>?_,fun b u hb=>?_,I.len⟩;·exact g.keep b o (I.base.keep b o q n hb hx) (low b o q hb) (ne b<|B.old b o q hx)<|.inr<|B.old b o q hx
 ·obtain⟨sl,z⟩:=I.base.slot b o q n hb hx;obtain⟨sl',z'⟩:=g.slot b _ z (by rw[hf];exact CG _ hb);exact⟨sl',z'⟩
 ·obtain⟨o',z⟩:=I.base.there b o q hx;exact g.there b o' z
 ·obtain⟨m,⟨o,es,ep,ho,hd,hk,hm⟩,hl⟩:=I.loc;obtain⟨sl,z⟩:=g.slot _ o ho (by rw[hf];exact CJ ..);refine⟨m,⟨_,es,ep,z,hd,hk,hm⟩,fun i y v q1 q2 q3=>?_⟩;obtain⟨u,r,l⟩:=hl i y v q1 q2 q3;refine⟨u,r,?_⟩;rcases l with l|⟨k,c,q,z⟩
  ·exact .inl l
  ·exact .inr ⟨k,c,q,cellK y c q _ z⟩
 ·obtain⟨v,z⟩:=I.cell y c q;exact⟨v,cellK y c q v z⟩
 ·obtain⟨q,n,nl,nf,d⟩:=I.pin p hp;exact⟨g.keep p.1 p.2 q (fun m=>by
   rw[hf]at m;rcases CM.mp m with z|z
   ·exact nl z
   ·exact nf z) (ne _ (B.pin p hp)) (.inr (B.pin p hp)),n,nl,nf,d⟩
 ·refine(I.hok b u hb).stay (fun c v hc q1=>?_) (fun _ q1=>q1) fun _ _ q1=>q1;have hn:H c≠none:=by
   rcases hc with z|z
   ·rw[z,hb];exact fun z=>nomatch z
   ·rw[z];exact fun z=>nomatch z
  exact g.keep c v q1 (fun m=>hn<|I.stkFree c m) (fun z=>hn (by rw[z];exact x.he))<|.inl hn
abbrev Cx.held(X:Cx)(e:Addr)(oe:Obj):Cx:={X with A:=X.A.mark<|some<|.ref e,calm:=false,pn:=(e,oe)::X.pn,xe:=fun _ _=>False}
theorem Inv.held(I:Inv X pins σ H s)(q:s.heap.get? e=some oe)(n:H e=none)(nl:e≠X.env.locals)(nf:e∉X.fs)(d:∀v,oe.data≠.cell v):Inv (X.held e oe) pins σ H s:=
 ⟨⟨I.ok.mod,I.ok.kind,I.ok.glob,I.ok.blt,I.ok.above,I.ok.inj,I.ok.has,I.ok.cab,fun z=>(nomatch z),I.ok.frames,I.ok.stk,I.ok.exf,I.ok.bs,I.ok.bsz,I.ok.noex,I.ok.exfs,I.ok.funs,I.ok.frf⟩,I.os,I.bare,I.base,I.loc,I.cell,I.free,I.freeC,fun p hp=>by
  rcases CM.mp hp with z|z;·subst z;exact⟨q,n,nl,nf,d⟩
  ·exact I.pin p z,I.hok,I.len⟩
theorem Inv.unheld(ok:X.Ok)(I:Inv (X.held e oe) pins σ H s):Inv X pins σ H s:=⟨ok,I.os,I.bare,I.base,I.loc,I.cell,I.free,I.freeC,fun p hp=>I.pin p<|CG _ hp,I.hok,I.len⟩
abbrev Cx.pinsX(X:Cx)(ps:List (Addr×Obj)):Cx:={X with pn:=X.pn++ps}
theorem Inv.pinnedX(I:Inv X pins σ H s):Inv (X.pinsX pins) [] σ H s:=⟨⟨I.ok.mod,I.ok.kind,I.ok.glob,I.ok.blt,I.ok.above,I.ok.inj,I.ok.has,I.ok.cab,I.ok.hd,I.ok.frames,I.ok.stk,I.ok.exf,I.ok.bs,I.ok.bsz,I.ok.noex,I.ok.exfs,I.ok.funs,I.ok.frf⟩,I.os,I.bare,I.base,I.loc,I.cell,I.free,I.freeC,fun p hp=>I.pin p (by simpa using hp),I.hok,I.len⟩
theorem Inv.unpinnedX{pins':List (Addr×Obj)}(ok:X.Ok)(I:Inv (X.pinsX pins) pins' σ H s):Inv X pins σ H s:=⟨ok,I.os,I.bare,I.base,I.loc,I.cell,I.free,I.freeC,fun p hp=>I.pin p<|DW _ hp,I.hok,I.len⟩
def tP(X:Cx)(E:XK)(v:Cr)(s:Cu):Prop:=∃(pins:List (Addr×Obj))(σ:St)(H:Hp)(x C:Addr)(lim:Heap)(od:Option Addr),v=.ref x/\Inv X pins σ H s/\Fly s.heap H lim x C od/\Big X pins lim/\(∀b,s.heap.objs.size<=b->lim.get? b=none)/\E (XV x od) (some C) H
theorem zF{E:XK}:dN (CXR X.prog X.w) (X.wish<|tP X E) E:=fun pins σ H s v s' I⟨x,C,H',od,hv,fl,os,bare,un,hok,q⟩=>by
 subst hv;have I0:Inv X pins σ H s:=I.unwish;have I':Inv X pins σ H' s':=I0.call' os un hok bare fun b z=>absurd z (by simp);refine⟨pins,σ,H',x,C,s.heap,od,rfl,I',fl,I0.bigX,fun b hb=>?_,q⟩;cases z:s.heap.get? b with
 |none=>rfl
 |some o=>
  obtain⟨o',z'⟩:=un.there b o z (by simp);exact absurd (CA (CD z') hb)<|Di _
end
section
variable{X:Cx}{pins:List (Addr×Obj)}{σ:St}{H:Hp}{s:Cu}{lim h':Heap}{e C:Addr}{oe:Obj}{M:Jp}{A:De}{E:Cr->Cu->Prop}
theorem j4{i:Nat}{x:Str}{pos:Pos}{Q:Unit->Cu->Prop}(I:Inv X pins σ H s)(hN:X.N.Nodup)(hi:X.N[i]? =some x)(hk:X.env.scope.names.lookup x=some .local)
  (h:∀s',Inv X pins (σ.set i none) H s'->Q () s'):wpAny M A (do bindName X.env x .none;unbindBehindTheSuite X.env x pos) Q E s:=by
 obtain⟨m,hn,hl⟩:=id I.loc;have hcls:(X.env.scope.kind== .class||(X.env.scope.kind== .module&&X.env.locals != X.env.globals))=false:=by rw[I.ok.kind];rfl
 have hiσ:i<σ.length:=by rw[I.len];exact(Cy.mp hi).1
 have cne:=I.cne;obtain⟨oL,_,_,hoL,_⟩:=id hn;refine wpAny_nameGoes_keeps hk hn hcls fun h' v hn' hs=>?_;have tracked:HOk X.prog X.w H h':=fun b ob q=>by
  refine(I.hok b ob q).stay (fun c w' hc q'=>(hs.2 c ?_).trans q') (fun _ q=>q) fun _ _ q=>q;rintro rfl;rcases hc with rfl|hc
  ·rw[I.free]at q;cases q
  ·rw[I.free]at hc;cases hc
 refine h _ ⟨I.ok,I.os,I.bare,⟨fun b o q n hb hx=>?_,fun b o q n hb hx=>?_,I.base.free,fun b o q hx=>?_,I.base.tups,I.base.frzs,I.base.tbls⟩,⟨_,hn',fun j y v' e1 e2 e3=>?_⟩,fun y c q=>?_,I.free,I.freeC,fun p hp=>?_,tracked,by simpa using I.len⟩;·exact(hs.2 b<|CN<|CA (CD q) I.ok.above).trans (I.base.keep b o q n hb hx)
 ·obtain⟨sl,q1⟩:=I.base.slot b o q n hb hx;exact⟨sl,(hs.2 b<|CN<|CA (CD q) I.ok.above).trans q1⟩
 ·obtain⟨o',q1⟩:=I.base.there b o q hx;exact⟨o',(hs.2 b<|CN<|CA (CD q) I.ok.above).trans q1⟩
 ·by_cases hj:j=i
  ·subst hj;rw[EO hiσ]at e2;cases e2
  ·rw[Fz<|E8 hj]at e2;obtain⟨u',r',q⟩:=hl j y v' e1 e2 e3;refine⟨u',r',?_⟩;rcases q with⟨k,q⟩|⟨k,c,q,z⟩
   ·refine .inl ⟨k,?_⟩;have:y≠x:=fun z=>hj<|jb hN e1<|z▸hi;simp[this,q]
   ·exact .inr ⟨k,c,q,z.sameBut hs<|cne y c q⟩
 ·obtain⟨w',z⟩:=I.cell y c q;exact⟨w',z.sameBut hs<|cne y c q⟩
 ·obtain⟨q,n,ne,nf,d⟩:=I.pin p hp;exact⟨(hs.2 p.1 ne).trans q,n,ne,nf,d⟩
end
def Held(oe:Obj)(C:Addr)(od:Option Addr):Prop:=(oe.cls=.ref C/\oe.dict=od)/\∃vs:Array Cr,oe.data=.fields vs/\vs[2]? =some .none
def zG(E:XK)(i:Nat)(tb:TS)(ts:Addr->Addr->Option Addr->Obj->TS):TS:=fun D σ H=>tb D σ H/\∀(x C:Addr)(od:Option Addr)(oe:Obj)(σ':St)(H':Hp),E (XV x od) (some C) H'->H' x=none->Held oe C od->σ'.length=σ.length->ts x C od oe {nx:=fun σ'' H''=>D.nx (σ''.set i none) H'',rt:=D.rt,bk:=fun σ'' H''=>D.bk (σ''.set i none) H'',ct:=fun σ'' H''=>D.ct (σ''.set i none) H''} (σ'.set i<|some<|.ref x) H'
section
variable{X:Cx}{E:XK}{D:Addr}{bmD:List Cr}{body suite:List Stmt}{b₀:Stmt}{xn n:Str}{i:Nat}{np pos pos':Pos}{tb:TS}{ts:Addr->Addr->Option Addr->Obj->TS}
theorem yi(w:Own X)(hb:∀ps,PSs ((X.pinsX ps).wish (tP (X.pinsX ps) E)) body tb)(hg:Gl X xn)(hm:X.mg xn=some (.ref D))(hD:Xcl X.base D bmD)
  (hcl:∀v C H,E v (some C) H->∃bmC,Xcl X.base C bmC/\(CO C::bmC).contains (.ref D)=true)
  (hN:X.N.Nodup) (hi:X.N[i]? =some n) (hk:X.env.scope.names.lookup n=some .local) (hsu:∀x C od oe,Held oe C od->PSs (X.held x oe) (b₀::suite) (ts x C od oe))
  (hdb:(xn==("__debug__" :Str))=false:=by decide):
  PS X (.Try body [.ExceptHandler (some<|.Name xn np) (some n) (b₀::suite) pos] [] [] pos') (zG E i tb ts):=by
 intro pins s σ H Dn I h;refine wpAny_Try_except<|DX (hb pins [] s σ H Dn (I.pinnedX.wish _) h.1) (fun f s1 q=>?_) fun v s1 q=>?_
 ·cases f with
  |next=>
   obtain⟨σ1,H1,J,z⟩:=q;exact Gr ⟨σ1,H1,J.unwish.unpinnedX I.ok,z⟩
  |brk=>obtain⟨σ1,H1,J,z⟩:=q;exact⟨σ1,H1,J.unwish.unpinnedX I.ok,z⟩
  |cont=>obtain⟨σ1,H1,J,z⟩:=q;exact⟨σ1,H1,J.unwish.unpinnedX I.ok,z⟩
  |ret u=>obtain⟨v,σ1,H1,J,r,z⟩:=q;exact⟨v,σ1,H1,J.unwish.unpinnedX I.ok,r,z⟩
 ·obtain⟨pins1,σ1,H1,x,C,lim,od,rfl,J0,fl,B0,hsz,hE⟩:=q;have J:Inv X pins σ1 H1 s1:=J0.unpinnedX I.ok;have B:Big X pins lim:=⟨B0.old,B0.loc,B0.cell,fun p hp=>B0.pin p<|DW _ hp⟩
  have hfr:X.A.frames=some (X.env::X.outer):=w.1▸I.ok.frames;refine pf (base:=X.base) (H:=H1) (lim:=lim) (C:=C) hfr (w.1▸J.stack) w.2 fl (fun b hb=>⟨J.hok.fresh hb,hsz b hb⟩) fun h2 g2 fl2=>?_;have J2:Inv X pins σ1 H1 {s1 with heap:=h2}:=J.gone w fl B (by rw[w.1];exact g2);obtain⟨bmC,hC,hup⟩:=hcl _ _ _ hE;have nl:x≠X.env.locals:=fun z=>B.loc (by rw[<-z];exact fl.hl);have nf:x∉X.fs:=fun z=>by
   obtain⟨_,o,ho,_⟩:=I.ok.funs.mem z;exact B.old x o ho (fun y=>I.ok.exfs x y z) fl.hl
  have held:∀{s':Cu},Inv X pins σ1 H1 s'->Fly s'.heap H1 lim x C od->∃oe,Held oe C od/\s'.heap.get? x=some oe/\Inv (X.held x oe) pins σ1 H1 s':=fun{s'}J' f'=>by
   obtain⟨_,_,oe,vs,h1,h2,h3,h4,_⟩:=id f';exact⟨oe,⟨h2,vs,h3,h4⟩,h1,J'.held h1 f'.he nl nf fun v z=>by rw[h3]at z;cases z⟩
  obtain⟨oe2,hh2,ge2,K2⟩:=held J2 fl2;refine wpAny_handleBy_cons (codeAny_handlers_test ?_) (by intro q;cases q);refine fY K2 hg hm ?_ hdb;refine jS (C:=C) (D:=D) (bmC:=bmC) (bmD:=bmD) (hC.keeps J2.bk) (hD.keeps J2.bk) ge2 hh2.1.1 ?_;rw[hup];refine codeAny_handlers_suite_as ?_;refine tN (base:=X.base) (env:=X.env) (outer:=X.outer) (H:=H1) (lim:=lim) (C:=C) (w.1▸J2.stack) fl2 fun h3 g3 fl3=>?_;have J3:Inv X pins σ1 H1 {s1 with heap:=h3}:=J2.gone w fl2 B (by rw[w.1];exact g3);obtain⟨oe,hh,ge,K3⟩:=held J3 fl3;refine jc (X:=X.held x oe) (i:=i) (v:=.ref x) K3 hN hi (.inl hk) rfl (fun s4 K4=>?_)<|.inr hk;refine DX (hsu x C od oe hh pins s4 _ H1 _ K4 (h.2 x C od oe σ1 H1 hE fl.he hh (by rw[J.len,I.len]))) (fun f s5 q=>?_) fun _ _ z=>z.elim;show wpAny _ _ (do bindName X.env n .none;unbindBehindTheSuite X.env n pos) _ _ _;cases f with
  |next=>obtain⟨σ5,H5,K5,z⟩:=q;exact j4 (K5.unheld I.ok) hN hi hk fun s6 K6=>⟨_,H5,K6,z⟩
  |brk=>obtain⟨σ5,H5,K5,z⟩:=q;exact j4 (K5.unheld I.ok) hN hi hk fun s6 K6=>⟨_,H5,K6,z⟩
  |cont=>obtain⟨σ5,H5,K5,z⟩:=q;exact j4 (K5.unheld I.ok) hN hi hk fun s6 K6=>⟨_,H5,K6,z⟩
  |ret u=>obtain⟨v,σ5,H5,K5,r,z⟩:=q;exact j4 (K5.unheld I.ok) hN hi hk fun s6 K6=>⟨v,_,H5,K6,r,z⟩
end
theorem jT:plainId "proto.unchain"=true:=by decide +kernel
theorem jU:entryFor table "proto.unchain"=some Jm.«proto.unchain»:=entryFor_of_fast (by kernel_rfl)
def Hdl(A:De)(h:Heap):Prop:=∃(x C:Addr)(od:Option Addr)(oe:Obj),A.handled=some (.ref x)/\h.get? x=some oe/\Held oe C od
theorem Hdl.keeps{A:De}{h h':Heap}(x:Hdl A h)(k:∀b o C,h.get? b=some o->o.cls=.ref C->h'.get? b=some o):Hdl A h':=by
 obtain⟨a,C,od,oe,h1,h2,h3⟩:=x;exact⟨a,C,od,oe,h1,k a oe C h2 h3.1.1,h3⟩
section
variable{prog:CQ}{w:D4}{A:De}{E:Cr->Cu->Prop}{s:Cu}
theorem jV{α:Type}{a:Addr}{oa:Obj}{vs:Array Cr}{T:String}{Q:α->Cu->Prop}(hh:Hdl A s.heap)(ha:s.heap.get? a=some oa)(hc:oa.cls=.type T)(hd:oa.data=.fields vs)(h2:2<vs.size)
  (h:∀h',h'.get? a=some (DE (·.setIfInBounds 2 (A.handled.getD .none)) oa)->CT a s.heap h'->E (.ref a) {s with heap:=h'}):wpAny (model prog w) A (raiseNew (.ref a):Sem α) Q E s:=by
 obtain⟨x,C,od,oe,e1,e2,⟨e3,_⟩,us,e4,e5⟩:=hh;have ne:x≠a:=fun z=>by
  rw[z,ha]at e2;rw[Df e2,e3]at hc;cases hc
 unfold raiseNew;refine Co<|K9 ?_;rw[e1];show wpAny _ _ (if(CO x != CO a)=true then _ else _) _ _ _;rw[if_pos<|bne_iff_ne.mpr fun z=>ne<|Kb z];refine Co<|Es<|wpAny_runValue<|codeAny_builtin jU ?_;rw[Around.under_plainId jT _];unfold Jm.«proto.unchain»;refine Co<|D6 e2 e4 e5 ?_;rw[if_pos (by decide)];refine Co<|CC ?_;refine CC ?_;refine Co<|EF ha hd h2<|wpAny_throw ?_;refine h _ ?_<|FI ..;rw[e1];exact DT _ ha<|ED<|DZ hd _
theorem kN{α:Type}{Q:α->Cu->Prop}(hh:Hdl A s.heap)
  (h:∀a h',({s with heap:=h'}:Cu).TypeIs (.ref a) "StopIteration"->s.heap.get? a=none->(∀b o,s.heap.get? b=some o->h'.get? b=some o)->E (.ref a) {s with heap:=h'}):
  wpAny (model prog w) A (do let e <-newExc (.type "StopIteration") [];raiseNew e:Sem α) Q E s:=by
 refine Co ?_;simp only[newExc,newTuple];refine Co (EJ ?_ (by size_fits));refine Co (m:=firstArgMember _ _) (wpAny_of_eq (a:=Dq) (by first|rfl|(simp only[firstArgMember];rfl)) ?_);refine EJ ?_ (by size_fits);generalize hg:s.heap.push _=h1;have k1:∀b o,s.heap.get? b=some o->h1.get? b=some o:=fun b o q=>by rw[<-hg];exact Cs _ q
 have z1:s.heap.objs.size<=h1.objs.size:=by rw[<-hg,Dj];exact Gi _
 refine jV (T:="StopIteration") (hh.keeps fun b o C q _=>Cs _<|k1 b o q) (CF _ rfl) rfl rfl (by simp[ownMembersOf]) fun h' e1 hs=>?_;refine h _ _ ⟨_,e1,by rw[GY]⟩ (Gh z1) fun b o q=>(hs.2 b fun z=>?_).trans (Cs _<|k1 b o q);exact absurd (CD<|k1 b o q) (by rw[z];exact Di _)
theorem jW{it l:Addr}{i:Nat}{items:Array Cr}{Q:Option Cr->Cu->Prop}(hh:Hdl A s.heap)(hit:s.heap.IsListIter it l i)(hl:s.heap.IsList l items)(hx:items[i]? =none)
  (hQ:∀h',F4 it s.heap h'->Q none {s with heap:=h'}):wpAny (model prog w) A (pyNext<|.ref it) Q E s:=by
 obtain⟨o,ho,hc,hd⟩:=id hit;obtain⟨ol,hol,_,nl,hdl⟩:=hl;unfold pyNext;refine Co<|F8<|DH (name:=Cv "__next__") hit.typeIs IE<|En IE hit.typeIs entry_listiter_next ?_<|args_listiter_next _;show wpAny _ _ (field (.ref it) 0>>=_) _ _ s;refine Co<|D6 ho hd (x:=.ref l) rfl ?_;show wpAny _ _ (if(CO l==Dq)=true then _ else _) _ _ s;rw[if_neg (show ¬((CO l==Dq)=true)from CS)];show wpAny _ _ (field (.ref it) 1>>=_) _ _ s;refine Co<|D6 ho hd (x:=.int i 0) rfl ?_;show wpAny _ _ (seqItems? (.ref l)>>=_) _ _ s;refine Co<|Du hol hdl ?_;simp only[EZ,hx];refine Co (Ga (Co (EF ho hd (by simp) ?_)));refine kN (A:=A.in1) ?_ fun a h' tp nw hk=>?_
 ·exact Hdl.keeps (A:=A.in1) hh fun b ob C q z=>(Dk _ _ fun y=>by
   rw[<-y,ho]at q;rw[<-Df q,hc]at z;cases z).trans q
 ·refine Co<|ES (T:="StopIteration") (b:=true) tp Ff ?_;exact CC<|hQ _ fun b ob hb q=>hk b ob<|(Dk _ _<|E8 hb).trans q
theorem jz{it l:Addr}{i:Nat}{items:Array Cr}{Q:Option Cr->Cu->Prop}(hh:Hdl A s.heap)(hit:IsTupIter s.heap it l i)(hl:KS s.heap l items)(hx:items[i]? =none)
  (hQ:∀h',F4 it s.heap h'->Q none {s with heap:=h'}):wpAny (model prog w) A (pyNext<|.ref it) Q E s:=by
 obtain⟨o,ho,hc,hd⟩:=id hit;obtain⟨ol,hol,_,nl,hdl⟩:=hl;unfold pyNext;refine Co<|F8<|DH (name:=Cv "__next__") hit.typeIs Ij<|En Ij hit.typeIs entry_tupleiter_next ?_<|args_tupleiter_next _;show wpAny _ _ (field (.ref it) 0>>=_) _ _ s;refine Co<|D6 ho hd (x:=.ref l) rfl ?_;show wpAny _ _ (if(CO l==Dq)=true then _ else _) _ _ s;rw[if_neg (show ¬((CO l==Dq)=true)from CS)];show wpAny _ _ (field (.ref it) 1>>=_) _ _ s;refine Co<|D6 ho hd (x:=.int i 0) rfl ?_;show wpAny _ _ (seqItems? (.ref l)>>=_) _ _ s;refine Co<|Du hol hdl ?_;simp only[EZ,hx];refine Co (Ga (Co (EF ho hd (by simp) ?_)));refine kN (A:=A.in1) ?_ fun a h' tp nw hk=>?_
 ·exact Hdl.keeps (A:=A.in1) hh fun b ob C q z=>(Dk _ _ fun y=>by
   rw[<-y,ho]at q;rw[<-Df q,hc]at z;cases z).trans q
 ·refine Co<|ES (T:="StopIteration") (b:=true) tp Ff ?_;exact CC<|hQ _ fun b ob hb q=>hk b ob<|(Dk _ _<|E8 hb).trans q
theorem mv{t:Addr}{items:Array Cr}{Q:List Cr->Cu->Prop}(hh:Hdl A s.heap)(ht:KS s.heap t items)
  (hQ:∀h',F4 s.heap.objs.size s.heap h'->Q items.toList {s with heap:=h'}):wpAny (model prog w) A (unpackItems (.ref t) items.size none) Q E s:=by
 have hlt:t≠s.heap.objs.size:=by obtain⟨o,ho,_⟩:=ht;exact CN<|CD ho
 unfold unpackItems;refine Co ?_;unfold notIterableAtAll;refine Co<|Jj ht.typeIs slot_tuple_iter.lookup<|CC ?_;simp only[Ej,if_false];refine Co<|Es<|iter_tuple ht ?_;refine Co (Es (draw_tuple hlt items.size 0 _ _ ⟨_,CF _ rfl,rfl,rfl⟩ (ht.push _) (by omega) fun h1 hit1 hs1=>?_));rw[show L9 items.size (List.drop 0 items.toList)=items.toList by rw[List.drop_zero];exact Hy (by simp),if_neg (by simp)];have kp:∀b o,s.heap.get? b=some o->h1.get? b=some o:=fun b o q=>(hs1.2 b<|CN<|CD q).trans (Cs _ q);refine Co (Es (jz (hh.keeps fun b o C q _=>kp b o q) hit1 ((ht.push _).extBut hs1.extBut hlt) (by simp) fun h2 he2=>?_));simp only[Option.isSome_none,Ej,if_false];exact CC<|hQ h2 fun b o hb q=>he2 b o hb<|kp b o q
theorem hG{env:Env}{elts:List Expr}{x1}{pos:Pos}{t:Addr}{items:Array Cr}{Q:Unit->Cu->Prop}(hh:Hdl A s.heap)(ht:KS s.heap t items)
  (hn:(assignEach elts env).length=items.size) (hstar:(assignEach elts env).findIdx? (·.1)=none)
  (h:∀h',F4 s.heap.objs.size s.heap h'->wpAny (model prog w) A (assignInOrder ((assignEach elts env).map (·.2)) items.toList) Q E {s with heap:=h'}):
  wpAny (model prog w) A (assign (.Tuple elts x1 pos) env<|.ref t) Q E s:=by
 rw[assign_Tuple];refine Co<|Ha ?_;unfold unpack;rw[hn,hstar];exact Co<|Es<|mv hh ht h
end
def HdX(X:Cx):Prop:=∃(x C:Addr)(od:Option Addr)(oe:Obj),X.A.handled=some (.ref x)/\Held oe C od/\X.s₀.heap.get? x=some oe/\X.H₀ x=none/\x∉X.fs/\x∉X.ex
section
variable{X:Cx}{pins:List (Addr×Obj)}{σ:St}{H:Hp}{s:Cu}
theorem Inv.hdl(I:Inv X pins σ H s)(x:HdX X):Hdl X.A s.heap:=by
 obtain⟨a,C,od,oe,h1,h2,h3,h4,h5,h6⟩:=x;exact⟨a,C,od,oe,h1,I.base.keep a oe h3 h4 h5 h6,h2⟩
theorem HdX.comp{scope:Fh}{N:List Str}{C:Addr}{fp:List Addr}(x:HdX X)(I:Inv X pins σ H s)(f:∀b∈fp,FpOk X pins H b):HdX (ay X scope N s H C fp):=by
 obtain⟨a,C',od,oe,h1,h2,h3,h4,h5,h6⟩:=x;refine⟨a,C',od,oe,h1,h2,I.base.keep a oe h3 h4 h5 h6,I.base.free a oe h3 h4 h6,fun m=>?_,fun m=>?_⟩
 ·rcases CM.mp (I.stkSub a m)with z | z
  ·have:=CD h3;rw[z]at this;exact absurd (CA this I.ok.above)<|Di _
  ·exact h5 z
 ·rcases (f a m).2.2.2.1 with z | z;·exact h6 z
  ·exact absurd (CA (CD h3) z)<|Di _
end
structure TurnH(P:CQ)(w:D4)(K:Cq)(A:De)(tg:Expr)(J:It)(fp:List Addr)(it:Addr)(tn:Nat->Heap->Prop):Prop where
 obj:∀i h,tn i h->∀b∈fp,∃o,h.get? b=some o/\∀v,o.data≠.cell v
 keep:∀i h h',tn i h->(∀b∈fp,∀o,h.get? b=some o->h'.get? b=some o)->tn i h'
 item:∀(X:Cx),X.prog=P->X.w=w->X.K=K->X.A=A->HdX X->∀(i:Nat)(pins:List (Addr×Obj))(s:Cu)(σ:St)(H:Hp)(E:Cr->Cu->Prop),Inv X pins σ H s->(∀b∈fp,FpOk X pins H b)->tn i s.heap->J.go i H->
  wpAny (model P w) X.A (pyNext<|.ref it) (fun r s1=>∃u,r=some u/\
   wpAny (model P w) X.A (letOwnedTupleGo tg (.ref it) u) (fun _ s2=>∃x H',Inv X pins σ H' s2/\RelV x u/\J.yld i H x H'/\tn (i+1) s2.heap/\∀b∈fp,H' b=none) E s1) E s
 done:∀(X:Cx),X.prog=P->X.w=w->X.K=K->X.A=A->HdX X->∀(i:Nat)(pins:List (Addr×Obj))(s:Cu)(σ:St)(H:Hp)(E:Cr->Cu->Prop),Inv X pins σ H s->(∀b∈fp,FpOk X pins H b)->tn i s.heap->J.stop i H->
  wpAny (model P w) X.A (pyNext<|.ref it) (fun r s1=>r=none/\Inv X pins σ H s1) E s
 self:∀(A:De)(i:Nat)(s:Cu)(Q:Cr->Cu->Prop)(E:Cr->Cu->Prop),tn i s.heap->Q (.ref it) s->wpAny (model P w) A (pyIter<|.ref it) Q E s
theorem nQ{P:CQ}{w:D4}{K:Cq}{A:De}{tg:Expr}(a it:Addr):TurnH P w K A tg (AW K a) [it] it (fun i h=>h.IsListIter it a i) where
 obj:=(fZ (P:=P) (w:=w) (K:=K) (tg:=tg) a it).obj
 keep:=(fZ (P:=P) (w:=w) (K:=K) (tg:=tg) a it).keep
 self:=(fZ (P:=P) (w:=w) (K:=K) (tg:=tg) a it).self
 item:=by
  intro X hP hw hK hA hx i pins s σ H E I hf st hg;subst hP hw hK hA;obtain⟨xs,x,hq,hx⟩:=hg;obtain⟨its,rv,p,hz⟩:=I.list hq;obtain⟨u,hu,ru⟩:=rv.get hx;obtain⟨f0,f1,f2,f3,f4,f5⟩:=hf it (by simp);refine Hr st p.isList (x:=u) (by simpa using hu) fun h' st' sb=>?_;have I1:Inv X pins σ H {s with heap:=h'}:=I.turned (t':=s.toks) (fun b o hb e=>(sb.2 b hb).trans e) f0 f1 f3 f4 f5;obtain⟨o,e,c,d⟩:=id st';exact⟨u,rfl,ou (s:={s with heap:=h'}) e c d (by decide) ⟨x,H,I1,ru,⟨rfl,fun ys hy=>by rw[I.list_inj hy hq];exact hx⟩,st',fun b hb=>(hf b hb).1⟩⟩
 done:=by
  intro X hP hw hK hA hx i pins s σ H E I hf st hg;subst hP hw hK hA;obtain⟨xs,hq,hl'⟩:=hg;obtain⟨its,rv,p,hz⟩:=I.list hq;obtain⟨f0,f1,f2,f3,f4,f5⟩:=hf it (by simp);have hl:=rv.length;exact jW (I.hdl hx) st p.isList (by simp;omega) fun h' eb=>⟨rfl,I.turned (t':=s.toks) (fun b o hb e=>eb b o hb e) f0 f1 f3 f4 f5⟩
def Bo(X:Cx)(tg iter:Expr)(wi:TI):Prop:=
 ∀(pins:List (Addr×Obj))(s:Cu)(σ:St)(H:Hp)(R:It->Hp->Prop),Inv X pins σ H s->wi σ H R->
  wpAny (model X.prog X.w) X.A (eval iter X.env) (fun v s1=>wpAny (model X.prog X.w) X.A (pyIter v) (fun itv s2=>∃(it:Addr)(fp:List Addr)(tn:Nat->Heap->Prop)(J:It)(H':Hp),itv=.ref it/\Inv X pins σ H' s2/\TurnH X.prog X.w X.K X.A tg J fp it tn/\tn 0 s2.heap/\(∀b∈fp,FpOk X pins H' b)/\R J H') X.xe s1) X.xe s
section
variable{X:Cx}{tg:Expr}{K:Cq}
theorem tQ{l:Expr}{tl:TE}(hK:X.K=K)(hl:PE X l tl):Bo X tg l (lP K tl):=by
 subst hK;intro pins s σ H R I h;refine bL (hl pins s σ H _ I h) fun v s1 zz=>?_;obtain⟨x,H1,I1,r1,q1⟩:=zz;obtain⟨a,e,⟨xs,hq⟩,q⟩:=q1;subst e;cases r1;obtain⟨its,rv,p,hz⟩:=I1.list hq;refine Fv p.isList ?_;refine⟨s1.heap.objs.size,[s1.heap.objs.size],_,_,H1,rfl,I1.kept (t':=s1.toks) fun b o e=>Cs _ e,nQ a _,⟨_,CF _ rfl,rfl,rfl⟩,fun b hb=>?_,q⟩;have e:b=s1.heap.objs.size:=by simpa using hb
 subst e;exact I1.fpOk (CK _)<|I1.hok.fresh<|CK _
theorem wa{pos:Pos}{es:List Expr}{k:Nat}{t:vi}{n:Nat}(hK:X.K=K)(hx:HdX X)(h:yS X es t)
  (hn:(assignEach es X.env).length=n:=by rfl) (hst:(assignEach es X.env).findIdx? (·.1)=none:=by rfl):PG X (.Tuple es k pos) (cj K n t):=by
 subst hK;intro pins s σ H v u Q I r hw;obtain⟨a,xs,e1,hq,hl,hw⟩:=hw;subst e1;cases r;obtain⟨its,rv,ht,hz⟩:=I.tuple hq;refine hG (I.hdl hx) ht (by simp[hn,<-hl,rv.length]) hst fun h' hx=>?_;have I1:Inv X pins σ H {s with heap:=h'}:=I.kept (t':=s.toks) fun b o e=>hx b o (CN<|CD e) e;exact h pins _ σ H xs _ Q I1 (by simpa using rv) hw
end
section
variable{X:Cx}{scope:Fh}{N:List Str}{cap:List (Option Nat)}{tg iter elt:Expr}{ifs:List Expr}{pos:Pos}{wi:TI}{g:TG}{tf:TT}{te:TE}
theorem nR(S:CompScope X scope N cap)(hx:HdX X)
  (hg:∀s H C fp,HdX (ay X scope N s H C fp)->PG (ay X scope N s H C fp) tg g) (hf:∀s H C fp,xT (ay X scope N s H C fp) ifs tf) (he:∀s H C fp,PE (ay X scope N s H C fp) elt te)
  {pins:List (Addr×Obj)} {σ:St} {H2:Hp} {s2:Cu} {it:Addr} {fp:List Addr} {tn:Nat->Heap->Prop} {J:It} {Qv:VK} {E:Cr->Cu->Prop} {RR:Cr->Addr->Kg->Cu->Prop}
  (I2:Inv X pins σ H2 s2) (T:TurnH X.prog X.w X.K X.A tg J fp it tn) (st2:tn 0 s2.heap) (f2:∀b∈fp,FpOk X pins H2 b) {W:Nat->Nat->List V->Hp->Prop} (w0:∃m,W 0 m [] H2)
  (turn:∀i m ys H,W i m ys H->ys.length< sizeLine/\((J.stop i H/\∀D,H D=none->Qv (.ref D) (bP H D<|.lst ys))\/
   (J.go i H/\∃N:List V->Hp->Prop,(∀ys' H',N ys' H'->∃m',m'<m/\W (i+1) m' ys' H')/\∀x H',J.yld i H x H'->g x (aW cap σ) H' fun σ2 H2=>Keep (aW cap σ) σ2/\tf σ2 H2 fun b H3=>if b=true then te σ2 H3 fun y H4=>N (ys++[y]) H4 else N ys H3)))
  (fin:∀(D C:Addr) (σ':St) (H':Hp) (s':Cu) (its:List Cr) (k:Nat) (ys:List V),s2.heap.objs.size<=D->s2.heap.objs.size<=C->D≠C->Inv (ay X scope N s2 H2 C fp) [(D,dy its k)] σ' H' s'->Vals ys its->ys.length<=sizeLine->
   Qv (.ref D) (bP H' D (.lst ys))->RR (.ref D) C (.ok .next) s'):
  wpAny (model X.prog X.w) X.A (newList []) (fun acc s₃=>wpAny (model X.prog X.w) X.A (newFunctionEnv scope X.env.globals (cb X.env scope.names []) [] X.env.qual none .none<|some X.env) (fun cenv s₄=>
   codeAny (model X.prog X.w) X.A (.compStart (.ListComp elt [⟨tg,iter,ifs,0⟩] scope pos) 0 (.ref it) acc {cenv with scope:=relabel scope X.env}) (RR acc cenv.locals) s₄) E s₃) E s2:=by
 have frz:HdX X:=hx;refine EJ<|jj ?_;generalize hD:s2.heap.objs.size=D;generalize hH3:s2.heap.push {cls:=.type "list",dict:=none,data:=.seq ([]:List Cr).toArray}=h3;have hz3:h3.objs.size=D+1:=by rw[<-hH3,Dj,hD]
 dsimp only;have eC:({s2 with heap:=h3}:Cu).heap.objs.size=D+1:=hz3;rw[show h3.objs.size=D+1 from hz3];generalize hH4:pushCells (h3.push {cls:=.type "dict",data:=.dict #[]}) scope.names=h4;have hz3':(h3.push {cls:=.type "dict",data:=.dict #[]}).objs.size=D+1+1:=by rw[Dj,hz3]
 have ck:Ki h4 (D+1+1) (cellsFrom (D+1+1) scope.names []):=by
  have:=cellsFrom_ok scope.names (h3.push {cls:=.type "dict",data:=.dict #[]}) (D+1+1) [] ⟨fun _ _ hm=>(nomatch hm),GX⟩ (by rw[hz3'];exact CK _);rw[hz3',hH4]at this;exact this
 have k23:∀b o,s2.heap.get? b=some o->h3.get? b=some o:=fun b o e=>by rw[<-hH3];exact Cs _ e
 have k34:∀b o,h3.get? b=some o->h4.get? b=some o:=fun b o e=>by rw[<-hH4];exact Gw _ _ b o<|Cs _ e
 have hD4:h4.get? D=some (dy [] 0):=k34 _ _ (by rw[<-hH3,<-hD];exact CF _ rfl);have hn4:h4.Ns (D+1) fun _=>none:=by
  rw[<-hH4,<-hz3];exact(Kv h3<|.type "dict").keeps (Gw _ _)
 have fpD:∀b∈fp,b<D:=fun b hb=>by
  obtain⟨o,e,_⟩:=T.obj _ _ st2 b hb;rw[<-hD];exact CD e
 have hlt:∀b∈fp,b<D+1:=fun b hb=>IZ<|fpD b hb;have hDC:s2.heap.objs.size<=D+1:=by rw[hD];exact Gi _
 have hDs:s2.heap.objs.size<=D:=by rw[hD];exact CK _
 have IC:Inv (ay X scope N s2 H2 (D+1) fp) [] (aW cap σ) H2 {s2 with heap:=h4}:=
  jl S I2 hDC ck f2 hlt ⟨_,_,rfl⟩ hn4 fun b o e=>k34 b o<|k23 b o e
 have okC:=IC.ok;have nfs:∀{b:Addr},s2.heap.objs.size<=b->b∉frs X.stack:=fun{b}hb hm=>by
  obtain⟨_,o,ho,_⟩:=I2.stack.mem hm;exact absurd (CA (CD ho) hb)<|Di _
 have frc:∀x∈scope.names,x.2=.free->∃c,X.env.cells.lookup x.1=some c:=fun x hx hk=>I2.ok.has x.1<|S.free x hx hk;have cellsD:∀x c,(ay X scope N s2 H2 (D+1) fp).env.cells.lookup x=some c->c≠D:=fun x c e=>by
  rcases cO frc e with a|⟨_,a⟩
  ·have q:D+1+1<=c:=(ck.empty x c a).2;exact Et<|CA (CA (Ea D)<|Gi _) q
  ·obtain⟨v,q⟩:=I2.cell x c a;have:=q.lt;rw[hD]at this;exact CN this
 have fpO:∀{H':Hp}{its:List Cr}{k:Nat},(∀b∈fp,H' b=none)->∀b∈fp,FpOk (ay X scope N s2 H2 (D+1) fp) [(D,dy its k)] H' b:=fun{H' its k}hn b hb=>
  ⟨hn b hb,CN<|hlt b hb,okC.exfs b hb,.inl hb,(okC.exf b hb).2,fun p hp=>by
   have e:p=(D,dy its k):=by simpa [ay] using hp
   subst e;exact Et (fpD b hb)⟩
 have pinD:∀{σ':St}{H':Hp}{s':Cu}{its:List Cr}{k:Nat},Inv (ay X scope N s2 H2 (D+1) fp) [] σ' H' s'->s'.heap.get? D=some (dy its k)->H' D=none->Inv (ay X scope N s2 H2 (D+1) fp) [(D,dy its k)] σ' H' s':=fun{σ' H' s' its k}J e n=>
  J.pins_of fun p hp=>by
   have e':p=(D,dy its k):=by simpa using hp
   subst e';exact⟨e,n,CN<|Ea _,nfs hDs,fun v z=>by
    have z':Hg its.toArray k=Fq v:=z;cases z'⟩
 have loop:codeAny (model X.prog X.w) X.A (.compLoop (.ListComp elt [⟨tg,iter,ifs,0⟩] scope pos) 0 (.ref it) (.ref D) (ay X scope N s2 H2 (D+1) fp).env) (RR (.ref D)<|D+1) {s2 with heap:=h4}:=by
  obtain⟨m0,w0⟩:=w0;refine gR (fun n s'=>∃i ys its k σ' H',Inv (ay X scope N s2 H2 (D+1) fp) [(D,dy its k)] σ' H' s'/\tn i s'.heap/\(∀b∈fp,H' b=none)/\Vals ys its/\(∀(j:Nat)(v:V),(aW cap σ)[j]? =some (some v)->σ'[j]? =some (some v))/\W i n ys H') ?_ m0
   ⟨0,[],[],0,aW cap σ,H2,pinD IC hD4<|I2.hok.fresh hDs,T.keep _ _ _ st2 fun b hb o e=>k34 b o<|k23 b o e,fun b hb=>(f2 b hb).1,.nil,fun _ _ e=>e,w0⟩
  rintro n s3 ⟨i,ys,its,k,σ3,H3,I3,st3,fr3,rv,kp,w3⟩;obtain⟨hyl,tr⟩:=turn i n ys H3 w3;have pin3:=I3.pin (D,dy its k)<|D5 _ CJ;rcases tr with⟨stop,qn⟩|⟨go,NN,hNN,step⟩
  ·refine bL (T.done (ay X scope N s2 H2 (D+1) fp) rfl rfl rfl rfl (hx.comp I2 f2) i _ s3 σ3 H3 _ I3 (fpO fr3) st3 stop) fun r s4 zz=>?_;obtain⟨hr,I4⟩:=zz;subst hr;exact fin D (D+1) σ3 H3 s4 its k ys hDs hDC (CN<|Ea _) I4 rv (EY hyl)<|qn D pin3.2.1
  ·have I3':Inv (ay X scope N s2 H2 (D+1) fp) [(D,dy its k)] (aW cap σ) H3 s3:=I3.weak (by rw[I3.len,IC.len]) kp;refine bL (T.item (ay X scope N s2 H2 (D+1) fp) rfl rfl rfl rfl (hx.comp I2 f2) i _ s3 _ H3 _ I3' (fpO fr3) st3 go) fun r s4 zz=>?_;obtain⟨u,hr,h4⟩:=zz;subst hr;refine bL h4 fun _ s5 zz=>?_;obtain⟨x,H5,I5,r5,y5,st5,fr5⟩:=zz;have I5':=I5.pinned (fpO fr5)<|T.obj _ _ st5;refine bL (hg _ _ _ _ (hx.comp I2 f2) _ s5 _ H5 x u _ I5' r5<|step x H5 y5) fun _ s6 zz=>?_;obtain⟨σ6,H6,I6,kp6,q6⟩:=zz;refine bL (hf _ _ _ _ _ s6 σ6 H6 _ I6 q6) fun ok s7 zz=>?_;obtain⟨H7,I7,q7⟩:=zz;have back:∀{s8:Cu}{H8:Hp},Inv (ay X scope N s2 H2 (D+1) fp) ([(D,dy its k)]++ib fp s5.heap) σ6 H8 s8->tn (i+1) s8.heap/\(∀b∈fp,H8 b=none)/\s8.heap.get? D=some (dy its k)/\H8 D=none:=fun{s8 H8}I8=>by
    have at_:∀b∈fp,∀o,s5.heap.get? b=some o->s8.heap.get? b=some o/\H8 b=none:=fun b hb o e=>by
     have z:=I8.pin (b,o)<|D5 _<|D5 _<|fm hb e;exact⟨z.1,z.2.1⟩
    have pd:=I8.pin (D,dy its k)<|D5 _<|DW _ CJ;refine⟨T.keep _ _ _ st5 fun b hb o e=>(at_ b hb o e).1,fun b hb=>?_,pd.1,pd.2.1⟩;obtain⟨o,e,d⟩:=T.obj _ _ st5 b hb;exact(at_ b hb o e).2
   cases ok with
   |false=>
    rw[if_neg CS]at q7 ⊢;obtain⟨m',hm,w'⟩:=hNN _ _ q7;obtain⟨t7,f7,d7,n7⟩:=back I7;exact⟨m',hm,i+1,ys,its,k,σ6,H7,I7.unpinned,t7,f7,rv,fun j v e=>Ld kp6 e,w'⟩
   |true=>
    rw[if_pos rfl]at q7 ⊢;refine bL (he _ _ _ _ _ s7 σ6 H7 _ I7 q7) fun y8 s8 zz=>?_;obtain⟨y,H8,I8,r8,q8⟩:=zz;obtain⟨m',hm,w'⟩:=hNN _ _ q8;obtain⟨t8,f8,d8,n8⟩:=back I8;refine append_at (D:=D) (its:=its.toArray) (n:=k) d8 (fun h' hs' hD'=>?_) (by rw[CH,<-rv.length];exact EY hyl);have J0:Inv (ay X scope N s2 H2 (D+1) fp) [] σ6 H8 s8:=I8.pins_of fun p hp=>by cases hp
    have J1:Inv (ay X scope N s2 H2 (D+1) fp) [] σ6 H8 {s8 with heap:=h'}:=J0.turned (it:=D) (t':=s8.toks) (fun b o hb e=>(hs'.2 b hb).trans e) n8 (CN<|Ea _) (.inr hDs) cellsD fun p hp=>by
     have:p∈([]:List (Addr×Obj)):=hp;cases this
    refine⟨m',hm,i+1,ys++[y],its++[y8],k+1,σ6,H8,pinD J1 (by simpa using hD') n8,T.keep _ _ _ t8 fun b hb o e=>(hs'.2 b<|CN<|fpD b hb).trans e,f8,rv.append<|.cons r8 .nil,fun j v e=>Ld kp6 e,w'⟩
 exact Hx loop<|DX (T.self _ 0 _ _ _ (T.keep _ _ _ st2 fun b hb o e=>k34 b o<|k23 b o e) loop) (fun _ _ h=>h) fun _ _ h=>h
theorem tR(S:CompScope X scope N cap)(hx:HdX X)(hi:Bo X tg iter wi)
  (hg:∀s H C fp,HdX (ay X scope N s H C fp)->PG (ay X scope N s H C fp) tg g) (hf:∀s H C fp,xT (ay X scope N s H C fp) ifs tf) (he:∀s H C fp,PE (ay X scope N s H C fp) elt te)
  (hs:∀x,foldedSetIterable iter X.env x=pure x:=by intro _;rfl):PE X (.ListComp elt [⟨tg,iter,ifs,0⟩] scope pos) (jk cap wi g tf te):=by
 intro pins s σ H Q I h;rw[K8];have frc:∀x∈scope.names,x.2=.free->∃c,X.env.cells.lookup x.1=some c:=fun x hx hk=>I.ok.has x.1<|S.free x hx hk;refine FJ (use:=none) rfl hs (eW frc) S.kind (gF S)<|bL (hi pins s σ H _ I h) fun v s1 h1=>bL h1 fun itv s2 h2=>?_;obtain⟨it,fp,tn,J,H2,rfl,I2,T,st2,f2,W,w0,turn⟩:=h2;refine nR (RR:=fun acc C=>compPost (model X.prog X.w) X.A X.xe none (EP X pins σ Q) acc C) S hx hg hf he I2 T st2 f2 w0 turn fun D C σ' H' s' its k ys hD hC hDC I' rv hl q=>?_;obtain⟨m,hn,_⟩:=I'.loc;exact⟨m,hn,fun h' hs'=>⟨.ref D,_,jm I2 f2 hD hC hDC I' rv hl hs',rfl,q⟩⟩
end
end L2
namespace L2
open PySem PySem.Spec PySem.Calls PyProof.Rows
open PySem.W (findIn findObj mroIn looks_findIn looks_find looks_mroIn class_get KitX clsIn Frag)
structure XK1(K:Frag)(C:Addr):Prop where
 ga:findIn K (.ref C) "__getattribute__"=some (some<|.builtin "BaseException.__getattribute__")
 gt:findIn K (.ref C) "__getattr__"=some none
 cl:∀od,findObj K C od "__class__"=some (.bind (.builtin "getset_descriptor.__get__")<|.builtin "object.__class__")
 ob:mroIn K C (.type "object")=some true
 be:mroIn K C (.type "BaseException")=some true
section
variable{prog:CQ}{w:D4}{A:De}{E:Cr->Cu->Prop}{s:Cu}{K:Frag}{x C:Addr}{ox:Obj}{od:Option Obj}
theorem qL{Q:Option Cr->Cu->Prop}(Z:XK1 K C)(X:K.In s.heap)(I:G1 s.heap x ox C od)(h:Q (some<|.ref C) {s with toks:=s.toks+1}):wpAny (model prog w) A (getAttr? (.ref x) "__class__") Q E s:=by
 obtain⟨hh,g,d,t,os⟩:=s;have L0:=I.type (M:=model prog w);have L1:=GI (M:=model prog w) X Z.ga;have L2:=GI (M:=model prog w) X Z.gt;have L3:=looks_find (M:=model prog w) X I<|Z.cl od;have L4:=looks_mroIn (M:=model prog w) X Z.be;unfold getAttr? getAttrBy? getAttrBy;refine Co<|wpAny_mkText<|Co<|F8<|Es<|Co<|L0.at<|Co<|L1.at ?_;dsimp only;rw[show(Kc "BaseException.__getattribute__"==Kc "object.__getattribute__")=false from by decide +kernel,Jw,if_neg (by decide)];unfold getAttrByItsOwn hookBefore;rw[if_pos (show onTheHeap (CO C)=true from rfl)];refine Co<|L2.at ?_;refine Co<|F8<|Es ?_;unfold callGetattribute;rw[if_neg (by simp)];unfold boundAndCalled;rw[GP.ga.bind];have LI:PySem.W.Looks (model prog w) hh (isInstance (.ref x)<|.type "BaseException") true:=L0.andThen L4;have chk:∀{A':De}{E':Cr->Cu->Prop}{Q':Unit->Cu->Prop}{tk:Nat},Q' () ⟨hh,g,d,tk,os⟩->wpAny (model prog w) A' (checkBuiltinCall "BaseException.__getattribute__" ⟨[.ref x,.str "__class__" t],[]⟩) Q' E' ⟨hh,g,d,tk,os⟩:=fun{A' E' Q' tk}hq=>by
  have hk:builtinKind "BaseException.__getattribute__"=some .slot:=by decide +kernel
  have hsplit:splitId "BaseException.__getattribute__"=some ("BaseException","__getattribute__"):=by decide +kernel
  have ha:=F.args_bexc_ga (.ref x)<|.str "__class__" t;simp only[checkBuiltinCall,hk,hsplit];refine Co<|LI.at ?_
  repeat wp_step
  exact hq
 refine Co<|CC<|Hs<|codeAny_call_builtin GP.ga.plain F.entry_bexc_ga<|chk ?_;refine Co (m:=slotArgs _ _ _)<|CC ?_;refine Co<|CC<|Co<|L0.at<|Co<|L3.at ?_;show wpAny _ _ (holding [.builtin "object.__class__"] (call (.builtin "getset_descriptor.__get__") [.builtin "object.__class__",.ref x,.ref C])>>=ret) _ _ _;refine Co<|Es<|Hs<|class_get (s:=⟨hh,g,d,t+1,os⟩) (ox:=ox) (od:=od) X I Z.ob<|CC ?_;exact PySem.W.handed_on rfl<|CC h
theorem tS(Z:XK1 K C):KitX K (.ref x) (.ref C) (fun h=>G1 h x ox C od) where
 ty:=fun _ _ _ I=>I.type
 it:=fun _ _ X _=>by
  obtain⟨cd,a,_⟩:=Hi.mp Z.ob;unfold clsIn at a;split at a
  ·rename_i c' d' cd' sl' ho;intro A' Q' E' s' k q;unfold isType loadHead;exact Co<|Js (k _ _<|X _ _ ho)<|CC q
  ·cases a
 ne:=fun h tp dd its n sl X htp=>by
  obtain⟨cd,a,_⟩:=Hi.mp Z.ob;refine Bool.eq_false_iff.mpr fun q=>?_;have e:C=tp:=Kb<|beq_iff_eq.mp q;subst e;unfold clsIn at a;split at a
  ·rename_i c' d' cd' sl' ho;have z:=(X _ _ ho).symm.trans htp;cases z
  ·cases a
 ca:=fun X I k=>qL Z X I k
theorem nS{c:Cr}{b:Bool}{Q:Cr->Cu->Prop}(Z:XK1 K C)(X:K.In s.heap)(I:G1 s.heap x ox C od)(e:Dp K (.ref C) c=some b)(h:∀tk,Q (.bool b) {s with toks:=tk}):
  wpAny (model prog w) A (call (.builtin "isinstance") [.ref x,c]) Q E s:=DO (tS Z) X I e (fun z=>by cases z) h
end
end L2
namespace L2
open PySem PySem.Spec PySem.Calls PyProof.Rows
def HdE(X:Cx)(x C:Addr):Prop:=∃(oe:Obj)(od:Option Addr),(∀d,od=some d->∃o u,X.H₀ d=some (.frz o u))/\X.A.handled=some (.ref x)/\Held oe C od/\X.s₀.heap.get? x=some oe/\X.H₀ x=none/\x∉X.fs/\x∉X.ex
theorem HdE.hdx{X:Cx}{x C:Addr}(h:HdE X x C):HdX X:=let ⟨oe,od,_,z⟩:=h;⟨x,C,od,oe,z⟩
theorem Inv.inst{X:Cx}{pins:List (Addr×Obj)}{σ:St}{H:Hp}{s:Cu}{x C:Addr}(I:Inv X pins σ H s)(h:HdE X x C):∃ox od,G1 s.heap x ox C od:=by
 obtain⟨oe,od,hf,h1,⟨⟨h2,h2'⟩,vs,h7,h8⟩,h3,h4,h5,h6⟩:=h;have nc:Jz oe=true:=by unfold Jz;rw[h7]
 have hk:=I.base.keep x oe h3 h4 h5 h6;cases od with
 |none=>exact⟨oe,none,hk,h2,nc,by rw[h2'];trivial⟩
 |some d=>
  obtain⟨o,u,z⟩:=hf d rfl;have:=I.hok d _<|I.base.frzs d o u z;exact⟨oe,some o,hk,h2,nc,by rw[h2'];exact this.1⟩
def kv:V->Option Cr
 | .ref D=>some<|.ref D
 | .ty T=>some<|.type T
 |_=>none
section
variable{X:Cx}{K:Cq}{x C:Addr}
theorem aQ(hK:X.K=K)(h:HdE X x C)(Z:XK1 K C):eg X (.builtin "isinstance") (fun xs H Q=>∃v c b,xs=[.ref x,v]/\kv v=some c/\Dp K (.ref C) c=some b/\Q (.bl b) H):=by
 subst hK;intro pins s σ H xs us Q I r q;obtain⟨v,c,b,rfl,hv,e,q⟩:=q;obtain⟨u,w',rfl,rx,rv⟩:=oE r;obtain rfl:u=.ref x:=rx;have hw:w'=c:=by
  unfold kv at hv;split at hv;·cases hv;exact rv
  ·cases hv;exact rv
  ·cases hv
 subst hw;obtain⟨ox,od,J⟩:=I.inst h;exact nS Z I.kIn J e fun tk=>⟨.bl b,H,I.tok _,rfl,q⟩
end
structure RoomH(k:Nat)(A:De):Prop where
 dp:A.depth+3*k+5<recursionLimit
 un:A.units+16*k+200<cLine
theorem Room.h{k:Nat}{A:De}(r:Room k A)(v:Option Cr):RoomH k (A.mark v):=⟨r.dp,r.un⟩
abbrev zH(P:CQ)(w:D4)(K:Cq)(mg:Str->Option Cr)(base:Heap)(N:List Str)(qual:Str)(scope:Fh)(f:Addr)(cd:Cr)(A:De)(outer:List Env)(s0:Cu)(H0:Hp)(E:XK):Cx:={jh CX0 P w K mg base N qual scope f cd A outer s0 H0 E with calm:=false,xe:=fun _ _=>False}
structure FnOkH(P:CQ)(w:D4)(K:Cq)(mg:Str->Option Cr)(base:Heap)(k:Nat)(f:Addr)(fd:CP)(ps:List Str)(sp:Addr->Addr->Sp):Prop where
 len:∀x C vs H Q E,sp x C vs H Q E->vs.length=ps.length
 run:∀(x C:Addr)(od:Option Addr)(oe:Obj)(A:De)(outer:List Env)(s:Cu)(H:Hp)(args:Args)(us:List Cr)(vs:List V)(Q:VK)(E:XK),RoomH k A->A.handled=some (.ref x)->Held oe C od->(∀d,od=some d->∃o u,H d=some (.frz o u))->s.heap.get? x=some oe->H x=none->x∉frs outer->
  Env0 P w K mg base A outer s H->Ia s fd args (ps.zip us)->Vals vs us->sp x C vs H Q E->codeAny (model P w) A (.call (.ref f) args) (CR CX0 outer P w H s Q E) s
section
variable{P:CQ}{w:D4}{K:Cq}{mg:Str->Option Cr}{base:Heap}
theorem Fun.okH{x0 qual:Str}{st:Stmt}{f:Addr}{fd:CP}{N ps:List Str}{k:Nat}{sp:Addr->Addr->Sp}(F:Fun K x0 qual st f fd)(S:FnScope N ps (defScope st))(len:∀x C vs H Q E,sp x C vs H Q E->vs.length=ps.length)
  (hbody:∀(x C:Addr) (cdv:Cr) (A:De) (outer:List Env) (s:Cu) (H:Hp) (vs:List V) (Q:VK) (E:XK),HdE (zH P w K mg base N qual (defScope st) f cdv A outer s H E) x C->RoomH k (A.deeper<|envOfC qual (defScope st) s.heap.objs.size f cdv)->sp x C vs H Q E->
   ∃t,PSs (zH P w K mg base N qual (defScope st) f cdv A outer s H E) (defBody st) t/\t {nx:=fun _ H'=>Q .non H',rt:=Q} (start N vs) H):FnOkH P w K mg base (k+1) f fd ps sp:=by
 obtain⟨oc,od,kV,doc,pm,an,cdv,ct,osl,rfl,lk,hcd⟩:=F.ex;refine⟨len,fun x C od oe A outer s H args us vs Q E hr hA hh hfz hx hHx hxo e0 hb r hsp=>?_⟩;have hl:=len _ _ _ _ _ _ hsp;have KX:K.In s.heap:=e0.mod.kin.keeps fun b o e=>(e0.bs b o e).1;have lim:s.heap.NoLimit:=e0.mod.nolimit.keeps fun b o e=>(e0.bs b o e).1;have hkind:∀y∈ps.zip us,(defScope st).names.lookup y.1=some .local\/((defScope st).names.lookup y.1=some .cell/\((cellsFrom (s.heap.objs.size+1) (defScope st).names []).lookup y.1).isSome=true):=fun⟨n,v⟩hy=>by
  rcases S.par n (EA hy).1 with q|q;·exact .inl q
  ·exact .inr ⟨q,Fm _ _ _<|.inl q⟩
 refine HH (by have:=hr.dp;omega) (KX _ _ lk) rfl S.co S.gen rfl (Iu KX hcd)<|hb _ _ _ _ ?_;refine GK S.kind hkind fun env he s1 z=>?_;subst he;refine⟨lim.keeps z.toInCall.keep,codeAny_func ?_⟩;have hE:HdE (zH P w K mg base N qual (defScope st) f cdv A outer s H E) x C:=⟨oe,od,hfz,hA,hh,hx,hHx,hxo,fun m=>absurd (show x∈([]:List Addr)from m) (by simp)⟩
 obtain⟨t,ht,hq⟩:=hbody x C cdv A outer s H vs Q E hE ⟨by have:=hr.dp;show A.depth+1+3*k+5<_;omega,by have:=hr.un;show A.units+3+16*k+200<_;omega⟩ hsp;have e0':Env0 P w K mg base {A with handled:=none} outer s H:=⟨e0.frames,e0.mod,e0.bs,e0.bsz,e0.funs,e0.frf,e0.hok,e0.bare⟩
 have I0:Inv (jh CX0 P w K mg base N qual (defScope st) f cdv {A with handled:=none} outer s H E) [] (start N vs) H s1:=kg S rfl e0' hl r z;have I:Inv (zH P w K mg base N qual (defScope st) f cdv A outer s H E) [] (start N vs) H s1:=
  ⟨⟨I0.ok.mod,I0.ok.kind,I0.ok.glob,I0.ok.blt,I0.ok.above,I0.ok.inj,I0.ok.has,I0.ok.cab,fun z=>(nomatch z),HW e0.frames,I0.ok.stk,I0.ok.exf,I0.ok.bs,I0.ok.bsz,I0.ok.noex,I0.ok.exfs,I0.ok.funs,I0.ok.frf⟩,I0.os,I0.bare,I0.base,I0.loc,I0.cell,I0.free,I0.freeC,I0.pin,I0.hok,I0.len⟩
 refine DX (ht [] s1 (start N vs) H _ I hq) (fun fl s' hs=>?_) fun e s' hs=>hs.elim;have fin:∀{σ':St}{H':Hp}{v:V}{u:Cr},Inv (zH P w K mg base N qual (defScope st) f cdv A outer s H E) [] σ' H' s'->RelV v u->Q v H'->CE outer P w H s Q u s':=
  fun{σ' H' v u}J rv q=>⟨v,H',J.os,J.bare,J.base,J.hok,rv,q⟩
 cases fl with
 |ret u=>obtain⟨v,σ',H',J,rv,q⟩:=hs;exact fin J rv q
 |next=>obtain⟨σ',H',J,q⟩:=hs;exact fin (v:=V.non) (u:=Dq) J rfl q
 |brk=>obtain⟨_,_,_,q⟩:=hs;exact DY q
 |cont=>obtain⟨_,_,_,q⟩:=hs;exact DY q
end
def yV(od:Option Addr)(sp:Sp):Sp:=fun vs H Q E=>(∀d,od=some d->∃o u,H d=some (.frz o u))/\sp vs H Q E
section
variable{X:Cx}{k:Nat}{f x C:Addr}{od:Option Addr}{oe:Obj}{fd:CP}{ps:List Str}{sp:Addr->Addr->Sp}{xn:Str}{p pos:Pos}{e:Expr}{es:List Expr}{t:TA}
theorem tT(F:FnOkH X.prog X.w X.K X.mg X.base k f fd ps sp)(hr:RoomH k X.A)(hA:X.A.handled=some (.ref x))(hh:Held oe C od)(hp:(x,oe)∈X.pn)(hg:Gl X xn)(hm:X.mg xn=some (.ref f))(hk:CZ X.K (.ref f)=true)(hb:Binds X.K fd ps [])
  (ha:PA X (e::es) t) (hdb:(xn==("__debug__" :Str))=false:=by decide) (he:starEach (e::es) X.env=(false,eval e X.env)::starEach es X.env:=by rfl) (hpl:(backTo pos<|starEach es X.env).any (·.1)=false:=by rfl):
  PE X (.Call (.Name xn p) (e::es) [] pos) (aI (yV od<|sp x C) [] E0 t):=by
 intro pins s σ H Q I h;refine Fj<|fY I hg hm ?_ hdb;refine FQ (h₀:=X.base) I.ok.mod.kin hk (bL (ha pos pins s σ H _ I h) fun us s1⟨vs,H1,I1,r,q⟩=>⟨I1.kIn,?_⟩) he hpl;obtain⟨g1,g2,g3,g4,_⟩:=I1.pin (x,oe)<|DW _ hp;have hfr:x∉frs X.stack:=fun m=>by
  rcases CM.mp (I1.stkSub x m)with z|z;·exact g3 z
  ·exact g4 z
 have q:yV od (sp x C) (vs++[]) H1 Q E0:=q;rw[Dh]at q;obtain⟨hfz,q⟩:=q;rw[FL];have hl:us.length=ps.length:=by rw[<-r.length];exact F.len _ _ _ _ _ _ q
 refine Hs (GC (F.run x C od oe X.A X.stack s1 H1 ⟨us,[]⟩ us vs Q E0 hr hA hh hfz g1 g2 hfr I1.env0 (by have:=hb s1 us I1.kIn (by simpa using hl);simpa using this) r q) fun r s' hq=>?_);cases r with
 |error e=>exact hq.elim
 |ok fl=>
  cases fl with
  |ret u=>exact I1.after hq
  |next=>exact DY hq
  |brk=>exact DY hq
  |cont=>exact DY hq
end
end L2
namespace L2
open PySem PySem.Spec PySem.Calls PyProof.Rows Mi
section
variable{P:CQ}{w:D4}{K:Cq}{mg:Str->Option Cr}{base:Heap}
theorem Fun.okR{x qual:Str}{st:Stmt}{f:Addr}{fd:CP}{N ps:List Str}{k:Nat}{sp:Sp}(F:Fun K x qual st f fd)(S:FnScope N ps (defScope st))(len:∀vs H Q E,sp vs H Q E->vs.length=ps.length)
  (hbody:∀(cdv:Cr) (A:De) (outer:List Env) (s:Cu) (H:Hp) (vs:List V) (Q:VK) (E:XK),Room k (A.deeper<|envOfC qual (defScope st) s.heap.objs.size f cdv)->sp vs H Q E->
   ∃t,PSs (ph P w K mg base N qual (defScope st) f cdv A outer s H E) (defBody st) t/\t {nx:=fun _ H'=>Q .non H',rt:=Q} (start N vs) H):FnOk P w K mg base (CXR P w) (k+1) f fd ps sp:=by
 obtain⟨oc,od,kV,doc,pm,an,cdv,ct,osl,rfl,lk,hcd⟩:=F.ex;exact xj lk hcd S len fun A outer s H vs Q E hr hsp=>hbody cdv A outer s H vs Q E hr hsp
end
end L2
namespace Wb
open PySem L2 Mi
def Esc(Er:Nat->Prop)(cs:List Addr)(E:XK)(W:Wd):Prop:=∀j,Er j->∀x W',Ext W W'->W'.H x=none->E (.ref x) cs[j]? W'.H
theorem Esc.mono{Er:Nat->Prop}{cs:List Addr}{E:XK}{W W':Wd}(h:Esc Er cs E W)(e:Ext W W'):Esc Er cs E W':=fun j hj x W1 e1 hx=>h j hj x W1 (e.trans e1) hx
section
variable{Er:Nat->Prop}{α β γ δ ε ζ η:Type}
def jX(R1:Rp α)(R2:Rp γ)(cs:List Addr)(rt:Rt β)(m:α->γ->Res β):Sp:=fun vs H Q E=>∃(W:Wd)(a:α)(b:γ)(v u:V),W.H=H/\vs=[v,u]/\R1 W.G a v/\R2 W.G b u/\∃Er:Nat->Prop,Esc Er cs E W/\(m a b).OkE Er fun r=>rt W r Q
def wb(R1:Rp α)(R2:Rp γ)(R3:Rp δ)(cs:List Addr)(rt:Rt β)(m:α->γ->δ->Res β):Sp:=fun vs H Q E=>∃(W:Wd)(a:α)(b:γ)(c:δ)(v u w:V),W.H=H/\vs=[v,u,w]/\R1 W.G a v/\R2 W.G b u/\R3 W.G c w/\∃Er:Nat->Prop,Esc Er cs E W/\(m a b c).OkE Er fun r=>rt W r Q
variable{t1 t2 t3 t4 t5 t6:TE}{σ:St}{W W0 W':Wd}{cs:List Addr}{E:XK}{R1:Rp α}{R2:Rp γ}{R3:Rp δ}{R4:Rp ε}{R5:Rp ζ}{R6:Rp η}[Mono R1][Mono R2][Mono R3][Mono R4][Mono R5][Mono R6]{m1:Res α}{m2:Res γ}{m3:Res δ}{m4:Res ε}{m5:Res ζ}{m6:Res η}
theorem iz{R:Rp β}{m:α->γ->Res β}(hE:Esc Er cs E W)(h1:EV Er t1 σ W (sh R1) m1)(h2:EV Er t2 σ W (sh R2) m2):EV Er (aI (jX R1 R2 cs (rs R) m) [] E<|ah t1<|ah t2 aE) σ W (sh R) (m1.bind fun a=>m2.bind fun b=>m a b):=fun W1 e1 Q k=>
 h1 W1 e1 _ ((Cn k).imp fun a0 ka v0 W2 e2 r1=>h2 W2 (e1.trans e2) _<|(Cn ka).imp fun b0 kb u0 W3 e3 r2=>⟨W3,a0,b0,v0,u0,rfl,rfl,Dx (R:=sh R1) e3 r1,r2,Er,hE.mono<|(e1.trans e2).trans e3,kb.imp fun r kr u W' e hu=>kr u W' ((e2.trans e3).trans e) hu⟩)
theorem qM{R:Rp β}{m:α->γ->δ->Res β}(hE:Esc Er cs E W)(h1:EV Er t1 σ W (sh R1) m1)(h2:EV Er t2 σ W (sh R2) m2)(h3:EV Er t3 σ W (sh R3) m3):EV Er (aI (wb R1 R2 R3 cs (rs R) m) [] E<|ah t1<|ah t2<|ah t3 aE) σ W (sh R) (m1.bind fun a=>m2.bind fun b=>m3.bind fun c=>m a b c):=fun W1 e1 Q k=>
 h1 W1 e1 _ ((Cn k).imp fun a0 ka v0 W2 e2 r1=>h2 W2 (e1.trans e2) _<|(Cn ka).imp fun b0 kb u0 W3 e3 r2=>h3 W3 ((e1.trans e2).trans e3) _<|(Cn kb).imp fun c0 kc w0 W4 e4 r3=>⟨W4,a0,b0,c0,v0,u0,w0,rfl,rfl,Dx (R:=sh R1) (e3.trans e4) r1,Dx (R:=sh R2) e4 r2,r3,Er,hE.mono<|((e1.trans e2).trans e3).trans e4,kc.imp fun r kr u W' e hu=>kr u W' (((e2.trans e3).trans e4).trans e) hu⟩)
end
theorem hJ{α:Type}{Er:Nat->Prop}{cs:List Addr}{E:XK}{C:Addr}{te:TE}{R:Rw α}{m:Res α}{D:Ends}{σ:St}{W:Wd}{j:Nat}{β:Type}{P:β->Prop}(hE:Esc Er cs E W)(hc:cs[j]? =some C)(h:EV Er te σ W R m)(q:(m.bind fun _=>(Jn j:Res β)).OkE Er P):tO E C (ah te aE) D σ W.H:=
 h W (.refl _) _ ((Cn q).imp fun a(ka:Er j)v W2 e2 hv=>⟨show 1<=sizeLine by decide,fun x hx=>by rw[<-hc];exact hE j ka x W2 e2 hx⟩)
structure CalR(P:CQ)(w:D4)(K:Cq)(mg:Str->Option Cr)(base:Heap)(x:Str)(ps:List Str)(k:Nat)(sp:Sp):Prop where
 ex:∃(f:Addr)(fd:CP),FnOk P w K mg base (CXR P w) k f fd ps sp/\mg x=some (.ref f)/\CZ K (.ref f)=true/\Binds K fd ps []
theorem j5{X:Cx}{x:Str}{ps:List Str}{k:Nat}{sp:Sp}{E:XK}{p pos:Pos}{e:Expr}{es:List Expr}{t:TA}(C:CalR X.prog X.w X.K X.mg X.base x ps k sp)(hx:dN (CXR X.prog X.w) X E)(hr:Room k X.A)(hg:Gl X x)(ha:PA X (e::es) t)
  (hdb:(x==("__debug__" :Str))=false:=by decide) (he:starEach (e::es) X.env=(false,eval e X.env)::starEach es X.env:=by rfl) (hpl:(backTo pos<|starEach es X.env).any (·.1)=false:=by rfl):
  PE X (.Call (.Name x p) (e::es) [] pos) (aI sp [] E t):=by
 obtain⟨f,fd,F,hm,hk,hb⟩:=C.ex;exact oG F hr hg hm hk hb .nil hx ha hdb he hpl
structure CalH(P:CQ)(w:D4)(K:Cq)(mg:Str->Option Cr)(base:Heap)(x:Str)(ps:List Str)(k:Nat)(sp:Addr->Addr->Sp):Prop where
 ex:∃(f:Addr)(fd:CP),FnOkH P w K mg base k f fd ps sp/\mg x=some (.ref f)/\CZ K (.ref f)=true/\Binds K fd ps []
theorem wc{X:Cx}{xn:Str}{ps:List Str}{k:Nat}{sp:Addr->Addr->Sp}{x C:Addr}{od:Option Addr}{oe:Obj}{p pos:Pos}{e:Expr}{es:List Expr}{t:TA}(F:CalH X.prog X.w X.K X.mg X.base xn ps k sp)(hh:Held oe C od)(hr:RoomH k X.A)(hA:X.A.handled=some (.ref x))(hp:(x,oe)∈X.pn)(hg:Gl X xn)(ha:PA X (e::es) t)
  (hdb:(xn==("__debug__" :Str))=false:=by decide) (he:starEach (e::es) X.env=(false,eval e X.env)::starEach es X.env:=by rfl) (hpl:(backTo pos<|starEach es X.env).any (·.1)=false:=by rfl):
  PE X (.Call (.Name xn p) (e::es) [] pos) (aI (yV od<|sp x C) [] E0 t):=by
 obtain⟨f,fd,F,hm,hk,hb⟩:=F.ex;exact tT F hr hA hh hp hg hm hk hb ha hdb he hpl
def gm(K:Cq)(cs:List Addr)(aB:Addr)(x C:Addr):Sp:=fun vs H Q _=>∃(W:Wd)(j:Nat),W.H=H/\vs=[.ref x]/\XK1 K C/\j<13/\(∀i a,cs[i]? =some a->Dp K (.ref C) (.ref a)=some (decide<|i=j))/\Dp K (.ref C) (.ref aB)=some true/\Dp K (.ref C) (.type "ValueError")=some true/\∀p W',Ext W W'->W.H p=none->Ow isS W' p [kindN.getD j []]->Q (.ref p) W'.H
structure Kin(K:Cq)(base:Heap)(cs:List Addr)(aB:Addr):Prop where
 len:cs.length=13
 top:∃bm,Xcl base aB bm
 one:∀(j:Nat)(C:Addr),cs[j]? =some C->XK1 K C/\(∀(i:Nat)(a:Addr),cs[i]? =some a->Dp K (.ref C) (.ref a)=some (decide<|i=j))/\Dp K (.ref C) (.ref aB)=some true/\Dp K (.ref C) (.type "ValueError")=some true/\∃bm,Xcl base C bm/\(CO C::bm).contains (.ref aB)=true
def EX(K:Cq)(cs:List Addr)(s:Tx)(W0:Wd)(Q:VK):XK:=fun v C H'=>(∃x,v=.ref x)/\∃(j:Nat)(W':Wd),C=cs[j]? /\W'.H=H'/\Ext W0 W'/\rs (isU K) W0 (qH s j) Q
section
variable{K:Cq}{base:Heap}{cs:List Addr}{aB:Addr}{W0 W:Wd}{Q:VK}{s:Tx}{ie:Nat}{σ:St}{D:Ends}
theorem EX.cl(Z:Kin K base cs aB):∀v C H,EX K cs s W0 Q v (some C) H->∃bmC,Xcl base C bmC/\(CO C::bmC).contains (.ref aB)=true:=fun v C H⟨_,j,W',h,_⟩=>(Z.one j C h.symm).2.2.2.2
theorem tU(Z:Kin K base cs aB){x C:Addr}{od:Option Addr}{H':Hp}{σ':St}{xs:Str}(hs:xs=sOf s)(hD:D.rt=Q)(h:EX K cs s W0 Q (XV x od) (some C) H')(hi:ie<σ'.length):
  cg (cm<|ah (tC<|.str xs)<|ah (aI (yV od<|gm K cs aB x C) [] E0<|ah (aU ie) aE) aE) D (σ'.set ie<|some<|.ref x) H':=by
 obtain⟨⟨x',hx'⟩,j,W',hj,rfl,e,q⟩:=h;have ho:od=none:=by cases od with|none=>rfl|some d=>cases hx'
 obtain⟨z1,z2,z3,z4,_⟩:=Z.one j C hj.symm;have hj':j<13:=by rw[<-Z.len];exact(Cy.mp hj.symm).1
 have hk:EVo (fun _=>False) (aI (yV od<|gm K cs aB x C) [] E0<|ah (aU ie) aE) (σ'.set ie<|some<|.ref x) W' isS (.ok [kindN.getD j []]):=fun W1 e1 Q1 k=>
  ⟨.ref x,by rw[EO hi],(fun d z=>by rw[ho]at z;cases z),W1,j,rfl,rfl,z1,hj',z2,z3,z4,fun p W2 e2 hp o=>k p W2 e2 hp o⟩
 refine aV (R:=sh<|isU K) (m:=.ok<|qH s j) (eL (K:=K) (iM fE<|p5 fE)<|br (K:=K) (aG (x:=xs) (l:=s) hs)<|Eh hk)<|fun v W2 e2 hv=>?_;rw[hD];exact q v W2 (e.trans e2) hv
end
section
variable{α β γ δ:Type}{K:Cq}{base:Heap}{cs:List Addr}{aB:Addr}{W0 W:Wd}{Q:VK}{s:Tx}{ie i:Nat}{σ:St}{D:Ends}{t1 t2 t3:TE}{R1:Rp α}{R2:Rp γ}{R3:Rp δ}{R:Rp β}[Mono R1][Mono R2][Mono R3]{m1:Res α}{m2:Res γ}{m3:Res δ}{rest:TS}{σ':V->St}{xs:Str}
abbrev yj(K:Cq)(cs:List Addr)(aB:Addr)(ie:Nat)(xs:Str):Addr->Addr->Option Addr->Obj->TS:=fun x C od _=>cg<|cm<|ah (tC<|.str xs)<|ah (aI (yV od<|gm K cs aB x C) [] E0<|ah (aU ie) aE) aE
end
end Wb
namespace Wb
open PySem L2 Mi
open PySem.W (findIn findObj mroIn kitOne kitCls clsIn typeIn subIn specialIn takesIn Frag)
def vE:List Cr:=[.type "ValueError",.type "Exception",.type "BaseException",.type "object"]
def XcK(K:Frag)(C N:Addr)(bm:List Cr):Prop:=∃nm q bs hdct sn sub ab col dd k0 k1 k2 k3 k5,K.lookup C=some (excClassObj nm q C N bs bm hdct sn sub ab col dd k0 k1 k2 k3 k5 "ValueError.__new__")
structure Cx1(K:Frag)(aB C:Addr):Prop where
 at_:∃N,XcK K C N (.ref aB::vE)
 ga:findIn K (.ref C) "__getattribute__"=some (some<|.builtin "BaseException.__getattribute__")
 gt:findIn K (.ref C) "__getattr__"=some none
 cl:findIn K (.ref C) "__class__"=some (some<|.builtin "object.__class__")
section
variable{K:Frag}{base:Heap}{C D N:Addr}{bm bm':List Cr}
theorem XcK.cls(x:XcK K C N bm):∃cd,clsIn K C=some cd/\cd.mro=.ref C::bm/\typeIn K (.ref C)=some (.type "type"):=by
 obtain⟨nm,q,bs,hdct,sn,sub,ab,col,dd,k0,k1,k2,k3,k5,e⟩:=x;refine⟨{name:=nm,bases:=bs,mro:=.ref C::bm,ns:=N,qualname:=q,hasDict:=hdct,slotNames:=sn,subclasses:=sub,abstract:=ab,collection:=col,hasDel:=false},?_,rfl,?_⟩;·unfold clsIn;rw[e]
 ·show Option.map (fun x=>x.cls) (Eg C K)=_;rw[e];rfl
theorem XcK.xcl(x:XcK K C N bm)(X:K.In base)(hb:bm.contains (.type "BaseException")=true):Xcl base C bm:=by
 obtain⟨nm,q,bs,hdct,sn,sub,ab,col,dd,k0,k1,k2,k3,k5,e⟩:=x;exact⟨nm,q,N,bs,hdct,sn,sub,ab,col,dd,k0,k1,k2,k3,k5,_,X _ _ e,hb⟩
theorem XcK.mro(x:XcK K C N bm)(v:Cr):mroIn K C v=some ((CO C::bm).contains v):=by
 obtain⟨cd,h1,h2,_⟩:=x.cls;unfold mroIn;rw[h1,Hj,h2];rfl
theorem XcK.kit{N':Addr}(x:XcK K C N bm)(y:XcK K D N' bm'):kitOne K (.ref C) (.ref D)=some ((CO C::bm).contains (.ref D)):=by
 obtain⟨cd,h1,h2,h3⟩:=y.cls;unfold kitOne;by_cases e:(CO C==CO D)=true
 ·rw[if_pos e];rw[beq_iff_eq.mp e,ID];simp
 ·rw[if_neg e];show(if((clsIn K D).isSome&&typeIn K (.ref D)==some (.type "type"))=true then subIn K (.ref C) (.ref D)else none)=_;rw[h1,h3,if_pos (by simp)];exact x.mro _
theorem XcK.kitT{T:String}(x:XcK K C N bm)(hT:Jk T=true):kitOne K (.ref C) (.type T)=some ((CO C::bm).contains (.type T)):=by
 unfold kitOne;rw[if_neg (by intro z;cases beq_iff_eq.mp z)];show(if Jk T=true then subIn K (.ref C) (.type T)else none)=_;rw[if_pos hT];exact x.mro _
end
theorem Cx1.xk{K:Frag}{aB C:Addr}(x:Cx1 K aB C)(hn:specialIn K (.builtin "object.__class__") "__get__"=some (some<|.builtin "getset_descriptor.__get__"))(ht:takesIn K (.builtin "object.__class__")=some true):XK1 K C:=by
 obtain⟨N,h⟩:=x.at_;refine⟨x.ga,x.gt,?_,?_,?_⟩
 ·intro od;obtain⟨cd,h1,h2,h3⟩:=h.cls;unfold findObj;rw[h1,Hj,x.cl,Hj];simp[hn,ht]
 ·rw[h.mro];simp[vE]
 ·rw[h.mro];simp[vE]
theorem kO{α:Type}:∀{l:List α},l.Nodup->∀{i j:Nat}{x:α},l[i]? =some x->l[j]? =some x->i=j
 | [],_,i,j,x,a,_=>by simp at a
 |y::r,nd,0,0,x,a,b=>rfl
 |y::r,nd,0,j+1,x,a,b=>by
  simp at a b;subst a;exact absurd (DC b) (DP.mp nd).1
 |y::r,nd,i+1,0,x,a,b=>by
  simp at a b;subst b;exact absurd (DC a) (DP.mp nd).1
 |y::r,nd,i+1,j+1,x,a,b=>by
  simp at a b;rw[kO (DP.mp nd).2 a b]
theorem Kin.of{K:Frag}{base:Heap}{cs:List Addr}{aB NB:Addr}(X:K.In base)(hn:specialIn K (.builtin "object.__class__") "__get__"=some (some<|.builtin "getset_descriptor.__get__"))(ht:takesIn K (.builtin "object.__class__")=some true)
  (len:cs.length=13) (nd:(aB::cs).Nodup) (top:XcK K aB NB vE) (all:∀C∈cs,Cx1 K aB C):Kin K base cs aB:=by
 have one:∀(j:Nat)(C:Addr),cs[j]? =some C->C∈cs:=fun j C h=>DC h;refine⟨len,⟨vE,top.xcl X (by decide)⟩,fun j C h=>?_⟩;have hC:=all C<|one j C h;obtain⟨N,hx⟩:=hC.at_;refine⟨hC.xk hn ht,fun i a hi=>?_,?_,?_,.ref aB::vE,hx.xcl X (by simp[vE]),by simp⟩
 ·have ha:=all a<|one i a hi;obtain⟨N',hy⟩:=ha.at_;rw[hx.kit hy];have nB:a≠aB:=fun z=>(DP.mp nd).1 (z▸one i a hi);have nd':=(DP.mp nd).2;have key:(a=C)↔i=j:=by
   constructor
   ·intro z;subst z;obtain⟨l1,e1⟩:=Cy.mp hi;obtain⟨l2,e2⟩:=Cy.mp h;exact kO nd' hi h
   ·intro z;subst z;rw[hi]at h;exact Df h
  by_cases z:i=j
  ·have:=key.mpr z;subst this;simp[z]
  ·have:¬a=C:=fun y=>z<|key.mp y;simp[z,this,nB,vE]
 ·rw[hx.kit top];simp
 ·rw[hx.kitT (by decide +kernel)];simp[vE]
theorem Ecl.of{K:Frag}{base:Heap}{aB C N NB:Addr}{o oB:Obj}{es eB:Array EI}{ep pB:Nat}(X:K.In base)(h:XcK K C N (.ref aB::vE))(hB:XcK K aB NB vE)(n:K.lookup N=some o)(d:o.data=.dict es ep)(k:HA es)(i:nsFind es "__init__"=none)
  (nB:K.lookup NB=some oB) (dB:oB.data=.dict eB pB) (kB:HA eB) (iB:nsFind eB "__init__"=none):Ecl base C:=by
 obtain⟨nm,q,bs,hdct,sn,sub,ab,col,dd,k0,k1,k2,k3,k5,e⟩:=h;obtain⟨nm',q',bs',hdct',sn',sub',ab',col',dd',k0',k1',k2',k3',k5',e'⟩:=hB;exact⟨nm,q,N,bs,.ref aB::vE,hdct,sn,sub,ab,col,dd,k0,k1,k2,k3,k5,_,fun x=>nsFind es x,"ValueError",_,vE,X _ _ e,⟨o,es,ep,X _ _ n,d,k,fun _=>rfl⟩,i,.own (X _ _ e') ⟨oB,eB,pB,X _ _ nB,dB,kB,fun _=>rfl⟩ iB .base,PySem.F.excBase_ValueError⟩
def tV:Cr->Bool
 | .str _ _=>true
 |_=>false
theorem strKeys_of{es:Array EI}(h:(es.toList.all fun e=>tV e.key)=true):HA es:=fun e he=>by
 have:=Gf.mp h e<|HU.mpr he;unfold tV at this;split at this;·rename_i n t q;exact⟨n,t,q⟩
 ·cases this
end Wb
open Wb.Ecl renaming of->KP
namespace L2
open PySem PySem.Spec PyProof.Rows
abbrev TJ:=Str->St->Hp->(Str->Hp->Prop)->Prop
def PJ(X:Cx)(es:List Expr)(t:TJ):Prop:=∀(acc:Str)(pins:List (Addr×Obj))(s:Cu)(σ:St)(H:Hp)(Q:Str->Hp->Prop),Inv X pins σ H s->t acc σ H Q->
 Joins (model X.prog X.w) X.A X.xe (evalEach es X.env) acc (fun out s1=>∃H1,Inv X pins σ H1 s1/\Q out H1) s
def zI:TJ:=fun acc _ H Q=>Q acc H
def zJ(x:Str)(t:TJ):TJ:=fun acc σ H Q=>(acc++x).length<=sizeLine/\t (acc++x) σ H Q
def yk(te:TE)(t:TJ):TJ:=fun acc σ H Q=>te σ H fun v H1=>∃y:Str,((v=.str y/\y.length<=sizeLine)\/∃i:Int,v=.int i/\i.natAbs.log2<1920/\y=Cv (toString i))/\(acc++y).length<=sizeLine/\t (acc++y) σ H1 Q
def xu(t:TJ):TE:=fun σ H Q=>t I9 σ H fun out H1=>out.length<=sizeLine/\Q (.str out) H1
section
variable{X:Cx}{e:Expr}{es:List Expr}{te:TE}{t:TJ}{pos:Pos}
theorem tW:PJ X [] zI:=fun acc pins s σ H Q I h=>⟨H,I,h⟩
theorem nU{x:Str}{k}(ht:PJ X es t):PJ X (.Constant (.str x) k pos::es) (zJ x t):=fun acc pins s σ H Q I h=>by
 have:=(aA (X:=X) (pos:=pos) (j:=k) (x:=x)) pins s σ H (fun v H1=>v=.str x/\H1=H) I ⟨rfl,rfl⟩;refine bL this fun v s1 zz=>?_;obtain⟨u,H1,I1,r,e1,e2⟩:=zz;rw[e1]at r;rw[e2]at I1;obtain⟨tk,rfl⟩:=r;exact⟨x,_,rfl,h.1,ht _ pins s1 σ H Q I1 h.2⟩
theorem tX(he:PE X e te)(ht:PJ X es t):PJ X (.FormattedValue e (-1) none pos::es) (yk te t):=fun acc pins s σ H Q I h=>by
 show wpAny _ _ (eval (.FormattedValue e (-1) none pos) X.env) _ _ _;refine wpAny_FormattedValue_plain<|bL (he pins s σ H _ I h) fun v s1 zz=>?_;obtain⟨u,H1,I1,r,y,hy,hl,q⟩:=zz;rcases hy with⟨rfl,hz⟩|⟨i,rfl,hz,rfl⟩
 ·obtain⟨tk,rfl⟩:=r;refine wpAny_formatField_str ?_ ?_ hz;·exact⟨y,_,rfl,hl,ht _ pins _ σ H1 Q I1 q⟩
  ·exact⟨y,_,rfl,hl,ht _ pins _ σ H1 Q (I1.tok _) q⟩
 ·obtain⟨tk,rfl⟩:=r;refine wpAny_formatField_int hz ?_;exact⟨_,_,rfl,hl,ht _ pins _ σ H1 Q (I1.tok _) q⟩
theorem kP{e1 e2:Expr}(ht:PJ X (e1::e2::es) t):PE X (.JoinedStr (e1::e2::es) pos) (xu t):=fun pins s σ H Q I h=>by
 refine wpAny_JoinedStr ?_;have mono:∀(es:List (Sem Cr))(acc:Str)(P P':Str->Cu->Prop)(s:Cu),(∀o s,P o s->P' o s)->Joins (model X.prog X.w) X.A X.xe es acc P s->Joins (model X.prog X.w) X.A X.xe es acc P' s:=by
  intro es
  induction es with
  |nil=>intro acc P P' s k h;exact k _ _ h
  |cons a r ih=>intro acc P P' s k h;exact bL h fun v s1⟨y,t,e,l,q⟩=>⟨y,t,e,l,ih _ _ _ _ k q⟩
 refine mono _ _ _ _ _ (fun o s1⟨H1,I1,hz,q⟩=>⟨hz,.str o,H1,I1.tok _,⟨_,rfl⟩,q⟩)<|ht I9 pins s σ H _ I h
end
end L2
namespace Wb
open PySem L2 Mi
theorem wd(i:Int):Cv (toString i)=sOf (qI i):=by rw[Str.ofString_eq_toList];rfl
def JV(Er:Nat->Prop)(t:TJ)(σ:St)(W:Wd)(f:Tx->Res Tx):Prop:=∀W1,Ext W W1->∀(acc:Tx)(Q:Str->Hp->Prop),(f acc).OkE Er (fun out=>∀W2,Ext W1 W2->Q (sOf out) W2.H)->t (sOf acc) σ W1.H Q
section
variable{Er:Nat->Prop}{te:TE}{t:TJ}{σ:St}{W:Wd}{f:Tx->Res Tx}
theorem tY:JV Er zI σ W fun acc=>.ok acc:=fun W1 _ acc Q k=>k W1<|.refl _
theorem nV{x:Str}{l:Tx}(hx:x=sOf l)(h:JV Er t σ W f):JV Er (zJ x t) σ W fun acc=>(fe acc l).bind f:=fun W1 e1 acc Q k=>by
 obtain⟨h1,h2⟩:=aO<|Cn k;subst hx;refine⟨?_,?_⟩<;>rw[fq];·rw[cQ,CY];exact iS h1
 ·exact h W1 e1 _ Q h2
theorem we{m:Res Tx}(he:EV Er te σ W (sh isS) m)(h:JV Er t σ W f):JV Er (yk te t) σ W fun acc=>m.bind fun y=>(fe acc y).bind f:=fun W1 e1 acc Q k=>
 he W1 e1 _ ((Cn k).imp fun y ky v W2 e2 hv=>by
  cases hv;obtain⟨h1,h2⟩:=aO<|Cn ky;refine⟨sOf y,.inl ⟨rfl,by rw[cQ];exact iS (by omega)⟩,?_,?_⟩<;>rw[fq];·rw[cQ,CY];exact iS h1
  ·exact h W2 (e1.trans e2) _ Q (h2.imp fun out ko W3 e3=>ko W3 (e2.trans e3)))
theorem wg{m:Res Int}(he:EV Er te σ W (sh isI) m)(h:JV Er t σ W f):JV Er (yk te t) σ W fun acc=>m.bind fun i=>(yh i).bind fun y=>(fe acc y).bind f:=fun W1 e1 acc Q k=>
 he W1 e1 _ ((Cn k).imp fun i ki v W2 e2 hv=>by
  cases hv;obtain⟨h0,ky⟩:=aO<|Cn ki;obtain⟨h1,h2⟩:=aO<|Cn ky;refine⟨Cv<|toString i,.inr ⟨i,rfl,h0,rfl⟩,?_,?_⟩<;>rw[wd,fq];·rw[cQ,CY];exact iS h1
  ·exact h W2 (e1.trans e2) _ Q (h2.imp fun out ko W3 e3=>ko W3 (e2.trans e3)))
theorem kQ(h:JV Er t σ W f):EV Er (xu t) σ W (sh isS) ((f []).bind w9):=fun W1 e1 Q k=>
 h W1 e1 [] _ ((Cn k).imp fun out ko W2 e2=>by
  obtain⟨h1,h2⟩:=aO ko;exact⟨by rw[cQ];exact iS h1,h2 _ W2 e2 rfl⟩)
end
end Wb
namespace Mi
def tZ{α:Type}(xs:List α)(k:Int):Res (List α):=eG (-100000<=k/\k<=100000/\xs.length*k.toNat<=cap) (CI k.toNat xs).flatten
def wj{α:Type}(a b:List α):Res (List α):=eG (a.length+b.length<=cap)<|a++b
end Mi
namespace Wb
open PySem L2 Mi
section
variable{Er:Nat->Prop}{α β:Type}{K:Cq}{W W0:Wd}{p:Addr}{ta tb te:TE}{σ:St}{D:Ends}{i:Nat}{r:TS}{base:Heap}
theorem LR.app{R:Rp α}{H:Hp}{as bs:List α}{vs us:List V}(h2:LR R H as vs)(h4:LR R H bs us):LR R H (as++bs) (vs++us):=⟨by rw[CY,CY,h2.1,h4.1],fun i v m q1 q2=>by
 by_cases hi:i<vs.length
 ·rw[Dg hi]at q1;rw[Dg (by rw[<-h2.1];exact hi)]at q2;exact h2.2 i v m q1 q2
 ·rw[Dc (by omega)]at q1;rw[Dc (by rw[<-h2.1];omega)]at q2;rw[<-h2.1]at q2;exact h4.2 _ v m q1 q2⟩
theorem LR.rep{R:Rp α}{H:Hp}{as:List α}{vs:List V}(h:LR R H as vs):∀k:Nat,LR R H (CI k as).flatten (CI k vs).flatten
 |0=>⟨rfl,fun i v m q1 q2=>by simp at q1⟩
 |k+1=>by
  rw[DS,DS,Eu,Eu];exact LR.app h<|LR.rep h k
theorem pq{R:Rp α}[Mono R]{ma:Res (List α)}{mb:Res Int}(ha:EV Er ta σ W (pk R) ma)(hb:EV Er tb σ W (sh isI) mb):EVo Er (dq zk ta tb) σ W R (ma.bind fun a=>mb.bind fun b=>tZ a b):=fun W1 e1 Q k=>
 ha W1 e1 _ ((Cn k).imp fun a ka x W2 e2 hx=>hb W2 (e1.trans e2) _ ((Cn ka).imp fun b kb y W3 e3 hy=>by
  cases hy;obtain⟨p,vs,rfl,h1,h2⟩:=Dx e3 hx;obtain⟨⟨h5,h6,h7⟩,h8⟩:=aO kb;refine⟨p,b,vs,rfl,rfl,h1,by omega,by omega,by rw[h2.1];exact iS h7,fun r hr=>h8 r (W3.mut r (.lst (CI b.toNat vs).flatten) (W3.gnone hr)) ((e2.trans e3).trans (.own _ hr)) (none_of (e2.trans e3).h hr) ⟨W3.gnone hr,_,ai,LR.rep h2 _⟩⟩))
end
end Wb
namespace L2
open PySem PySem.Spec PyProof.Rows
theorem zK{X:Cx}:dN (CXR X.prog X.w) X E0:=fun _ _ _ _ _ _ _⟨_,_,_,_,_,_,_,_,_,_,q⟩=>q.elim
end L2
namespace Wb
open PySem L2 Mi
theorem B8{Er:Nat->Prop}{cs:List Addr}{E:XK}{W:Wd}(n:∀j,¬Er j):Esc Er cs E W:=fun j h=>(n j h).elim
def zL{α β:Type}(R1:Rp α)(rt:Rt β)(m:α->Res β):Sp:=fun vs H Q _=>∃(W:Wd)(a:α)(v:V),W.H=H/\vs=[v]/\R1 W.G a v/\∃Er:Nat->Prop,(∀j,¬Er j)/\(m a).OkE Er fun r=>rt W r Q
abbrev FS:=Addr->Prop
abbrev Rf(α:Type):=Wd->FS->α->V->Prop
theorem nn_of{H:Hp}{q:Addr}{o:HO}(h:H q=some o):H q≠none:=by rw[h];exact fun z=>nomatch z
structure MuF(F:FS)(W W':Wd):Prop where
 g:Same W.G W'.G
 h:∀q,¬F q->W.H q≠none->W'.H q=W.H q
 k:∀q,W.H q≠none->W'.G q=W.G q
 n:∀q,W.H q≠none->W'.H q≠none
section
variable{α β γ:Type}{K:Cq}{W W' W0 W1 W2:Wd}{F F' F1:FS}
theorem Ext.keepH(e:Ext W W'){q:Addr}(hn:W.H q≠none):W'.H q=W.H q:=by
 obtain⟨o,ho⟩:=FD.mp hn;rw[ho];exact e.h _ _ ho
theorem Ext.muF(e:Ext W W'):MuF F W W':=⟨e.g,fun q _ hn=>e.keepH hn,e.k,fun q hn=>by rw[e.keepH hn];exact hn⟩
theorem MuF.trans(m:MuF F W W1)(m':MuF F1 W1 W2)(hF:∀q,F1 q->F q\/W.H q=none):MuF F W W2:=⟨m.g.trans m'.g,fun q hq hn=>by
 have h1:=m.h q hq hn;have:¬F1 q:=fun z=>(hF q z).elim hq hn;rw[m'.h q this (by rw[h1];exact hn),h1],fun q hn=>by rw[m'.k q (m.n q hn),m.k q hn],fun q hn=>m'.n q (m.n q hn)⟩
theorem MuF.of{p:Addr}{o:HO}(hF:F p)(hg:W.G p=none):MuF F W (W.mut p o hg):=⟨.refl _,fun q hq hn=>ag fun z=>hq<|z▸hF,fun _ _=>rfl,fun q hn=>by
 show bP W.H p o q≠none;by_cases z:q=p
 ·rw[z,ai];exact fun z=>nomatch z
 ·rw[ag z];exact hn⟩
class FrT(R:Rf α):Prop where
 fr:∀{W W':Wd}{F:FS}{a:α}{v:V},R W F a v->Same W.G W'.G->(∀q,F q->W'.H q=W.H q/\W'.G q=W.G q)->R W' F a v
 lv:∀{W:Wd}{F:FS}{a:α}{v:V},R W F a v->∀q,F q->W.G q=none/\W.H q≠none
theorem FrT.ext{R:Rf α}[FrT R]{a:α}{v:V}(t:R W F a v)(e:Ext W W'):R W' F a v:=FrT.fr t e.g fun q hq=>⟨e.keepH (FrT.lv t q hq).2,e.k q (FrT.lv t q hq).2⟩
theorem FrT.mu{R:Rf α}[FrT R]{a:α}{v:V}(t:R W F a v)(m:MuF F' W W')(dj:∀q,F q->F' q->False):R W' F a v:=FrT.fr t m.g fun q hq=>⟨m.h q (dj q hq) (FrT.lv t q hq).2,m.k q (FrT.lv t q hq).2⟩
class FzT(R:Rf α)(R':outParam (Rp α)):Prop where
 fz:∀{W W':Wd}{F:FS}{a:α}{v:V},R W F a v->Same W.G W'.G->(∀q,F q->W'.G q=W.H q)->R' W'.G a v
def fz(R:Rp α):Rf α:=fun W F a v=>(∀q,¬F q)/\R W.G a v
instance zkeep44{R:Rp α}[Mono R]:FrT (fz R):=⟨fun h s _=>⟨h.1,Cp s h.2⟩,fun h q hq=>absurd hq<|h.1 q⟩
instance zkeep45{R:Rp α}[Mono R]:FzT (fz R) R:=⟨fun h s _=>Cp s h.2⟩
structure TL(R:Rf α)(W:Wd)(Fs:Nat->FS)(xs:List α)(vs:List V):Prop where
 len:vs.length=xs.length
 el:∀i x u,xs[i]? =some x->vs[i]? =some u->R W (Fs i) x u
 rng:∀i q,Fs i q->i<xs.length
 dj:∀i j q,Fs i q->Fs j q->i=j
def oL(R:Rf α):Rf (List α):=fun W F xs v=>∃(p:Addr)(vs:List V)(Fs:Nat->FS),v=.ref p/\W.G p=none/\W.H p=some (.lst vs)/\TL R W Fs xs vs/\(∀i,¬Fs i p)/\∀q,F q↔q=p\/∃i,Fs i q
theorem TL.at2{R:Rf α}{Fs:Nat->FS}{xs:List α}{vs:List V}(t:TL R W Fs xs vs){i:Nat}{q:Addr}(h:Fs i q):∃x u,xs[i]? =some x/\vs[i]? =some u/\R W (Fs i) x u:=by
 have h1:=t.rng i q h;have h2:i<vs.length:=by rw[t.len];exact h1
 exact⟨xs[i],vs[i],by simp[h1],by simp[h2],t.el i _ _ (by simp[h1]) (by simp[h2])⟩
instance zkeep46{R:Rf α}[FrT R]:FrT (oL R):=⟨fun⟨p,vs,Fs,e,g,h,t,np,hF⟩s k=>by
 have kp:=k p<|(hF p).mpr (.inl rfl);exact⟨p,vs,Fs,e,by rw[kp.2];exact g,by rw[kp.1];exact h,⟨t.len,fun i x u a b=>FrT.fr (t.el i x u a b) s<|fun q hq=>k q<|(hF q).mpr (.inr ⟨i,hq⟩),t.rng,t.dj⟩,np,hF⟩,fun⟨p,vs,Fs,e,g,h,t,np,hF⟩q hq=>by
 rcases (hF q).mp hq with rfl|⟨i,hi⟩
 ·exact⟨g,nn_of h⟩
 ·obtain⟨x,u,_,_,r⟩:=t.at2 hi;exact FrT.lv r q hi⟩
instance zkeep47{R:Rf α}{R':Rp α}[FzT R R']:FzT (oL R) (isL R'):=⟨fun⟨p,vs,Fs,e,g,h,t,np,hF⟩s k=>⟨p,vs,e,by rw[k p<|(hF p).mpr (.inl rfl)];exact h,t.len,fun i u x a b=>FzT.fz (t.el i x u b a) s fun q hq=>k q<|(hF q).mpr (.inr ⟨i,hq⟩)⟩⟩
structure TC where
 {α:Type}
 R:Rf α
 a:α
 v:V
 i:FrT R
def tc(R:Rf α)[FrT R](a:α)(v:V):TC:=⟨R,a,v,inferInstance⟩
def noT:Rf Unit:=fun _ F _ _=>∀q,¬F q
instance zkeep48:FrT noT:=⟨fun h _ _=>h,fun h q hq=>absurd hq<|h q⟩
def BA:TC:=tc noT () .non
structure SepF(W0 W:Wd)(Fs:Nat->FS)(cs:List TC):Prop where
 el:∀(i:Nat)(c:TC),cs[i]? =some c->c.R W (Fs i) c.a c.v
 rng:∀i q,Fs i q->i<cs.length
 dj:∀i j q,Fs i q->Fs j q->i=j
 nw:∀i q,Fs i q->W0.H q=none
def Sep(W0 W:Wd)(cs:List TC):Prop:=∃Fs,SepF W0 W Fs cs
variable{cs:List TC}
theorem Sep.nil:Sep W0 W []:=⟨fun _ _=>False,fun _ _ h=>by simp at h,fun _ _ h=>h.elim,fun _ _ _ h=>h.elim,fun _ _ h=>h.elim⟩
theorem SepF.lv{Fs:Nat->FS}(s:SepF W0 W Fs cs){i:Nat}{q:Addr}(h:Fs i q):W.G q=none/\W.H q≠none:=by
 have h1:=s.rng i q h;have:=s.el i cs[i] (by simp[h1]);exact @FrT.lv _ _ cs[i].i _ _ _ _ this q h
theorem Sep.ext(s:Sep W0 W cs)(e:Ext W W'):Sep W0 W' cs:=by
 obtain⟨Fs,s⟩:=s;exact⟨Fs,fun i c h=> @FrT.ext _ _ _ _ _ c.i _ _ (s.el i c h) e,s.rng,s.dj,s.nw⟩
theorem SepF.put{Fs:Nat->FS}{R:Rf β}[FrT R]{b:β}{u:V}{i:Nat}(s:SepF W0 W Fs cs)(E:Ext W0 W)(m:MuF (Fs i) W W')(hF:∀q,F q->Fs i q\/W.H q=none)(t:R W' F b u)(hi:i<cs.length):Sep W0 W' (cs.set i<|tc R b u):=by
 refine⟨fun j=>if j=i then F else Fs j,fun j c h=>?_,fun j q h=>?_,fun j k q h1 h2=>?_,fun j q h=>?_⟩
 ·rw[Fx]at h;by_cases z:i=j
  ·subst z;rw[if_pos rfl,if_pos hi]at h;cases h;simp only[if_true];exact t
  ·rw[if_neg z]at h;simp only[if_neg (E8 z)];exact @FrT.mu _ _ _ _ _ _ c.i _ _ (s.el j c h) m fun q a b=>z (s.dj j i q a b).symm
 ·rw[Gu];by_cases z:j=i;·rw[z];exact hi
  ·simp only[if_neg z]at h;exact s.rng j q h
 ·have key:∀j q,(if j=i then F else Fs j) q->(j=i/\F q)\/(j≠i/\Fs j q):=fun j q h=>by
   by_cases z:j=i;·exact .inl ⟨z,by simpa [if_pos z] using h⟩
   ·exact .inr ⟨z,by simpa [if_neg z] using h⟩
  rcases key j q h1 with⟨z1,a⟩|⟨z1,a⟩<;>rcases key k q h2 with⟨z2,b⟩|⟨z2,b⟩
  ·rw[z1,z2]
  ·exact((hF q a).elim (fun y=>z2<|s.dj k i q b y) fun y=>absurd y (s.lv b).2).elim
  ·exact((hF q b).elim (fun y=>z1<|s.dj j i q a y) fun y=>absurd y (s.lv a).2).elim
  ·exact s.dj j k q a b
 ·by_cases z:j=i
  ·simp only[if_pos z]at h;exact(hF q h).elim (s.nw i q) fun y=>none_of E.h y
  ·simp only[if_neg z]at h;exact s.nw j q h
theorem Sep.add{R:Rf β}[FrT R]{b:β}{u:V}(s:Sep W0 W cs)(E:Ext W0 W)(e:Ext W W')(hF:∀q,F q->W.H q=none)(t:R W' F b u):Sep W0 W' (cs++[tc R b u]):=by
 obtain⟨Fs,s⟩:=s;have hn:∀j q,j=cs.length->¬Fs j q:=fun j q z h=>by have:=s.rng j q h;omega
 have key:∀j q,(if j=cs.length then F else Fs j) q->(j=cs.length/\F q)\/(j<cs.length/\Fs j q):=fun j q h=>by
  by_cases z:j=cs.length;·exact .inl ⟨z,by simpa [if_pos z] using h⟩
  ·have h':Fs j q:=by simpa [if_neg z] using h
   exact .inr ⟨s.rng j q h',h'⟩
 refine⟨fun j=>if j=cs.length then F else Fs j,fun j c h=>?_,fun j q h=>?_,fun j k q h1 h2=>?_,fun j q h=>?_⟩
 ·by_cases z:j< cs.length
  ·rw[Dg z]at h;simp only[if_neg (CN z)];exact @FrT.ext _ _ _ _ _ c.i _ _ (s.el j c h) e
  ·rw[Dc (by omega)]at h;have:j-cs.length=0:=by
    refine FH fun y=>?_;rw[DB.mpr (by simp;omega)]at h;cases h
   rw[this]at h;cases h;have z2:j=cs.length:=by omega
   simp only[if_pos z2];exact t
 ·rw[CY,EC];rcases key j q h with⟨a,_⟩|⟨a,_⟩<;>omega
 ·rcases key j q h1 with⟨z1,a⟩ | ⟨z1,a⟩ <;> rcases key k q h2 with⟨z2,b⟩ | ⟨z2,b⟩
  ·omega
  ·exact absurd (hF q a) (s.lv b).2
  ·exact absurd (hF q b) (s.lv a).2
  ·exact s.dj j k q a b
 ·rcases key j q h with⟨_,a⟩ | ⟨_,a⟩
  ·exact none_of E.h<|hF q a
  ·exact s.nw j q a
theorem SepF.del{Fs:Nat->FS}(s:SepF W0 W Fs cs)(i:Nat):Sep W0 W (cs.eraseIdx i):=by
 by_cases hi:i<cs.length
 ·have key:∀j q,(if j<i then Fs j else Fs (j+1)) q->(j<i/\Fs j q)\/(i<=j/\Fs (j+1) q):=fun j q h=>by
   by_cases z:j<i;·exact .inl ⟨z,by simpa [if_pos z] using h⟩
   ·exact .inr ⟨by omega,by simpa [if_neg z] using h⟩
  refine⟨fun j=>if j<i then Fs j else Fs (j+1),fun j c h=>?_,fun j q h=>?_,fun j k q h1 h2=>?_,fun j q h=>?_⟩
  ·by_cases z:j< i
   ·rw[List.getElem?_eraseIdx_of_lt z]at h;simp only[if_pos z];exact s.el j c h
   ·rw[List.getElem?_eraseIdx_of_ge (by omega)]at h;simp only[if_neg z];exact s.el (j+1) c h
  ·rw[List.length_eraseIdx,if_pos hi];rcases key j q h with⟨a,b⟩|⟨a,b⟩
   ·omega
   ·have:=s.rng _ q b;omega
  ·rcases key j q h1 with⟨z1,a⟩|⟨z1,a⟩<;>rcases key k q h2 with⟨z2,b⟩|⟨z2,b⟩<;>have:=s.dj _ _ q a b<;>omega
  ·rcases key j q h with⟨_,a⟩|⟨_,a⟩<;>exact s.nw _ q a
 ·rw[List.eraseIdx_of_length_le (by omega)];exact⟨Fs,s⟩
open Classical in
theorem Sep.frz{R:Rf β}[FrT R]{R':Rp β}[FzT R R']{b:β}{u:V}{i:Nat}(s:Sep W0 W cs)(E:Ext W0 W)(hc:cs[i]? =some (tc R b u)):∃W',W'.H=W.H/\Ext W0 W'/\Same W.G W'.G/\Sep W0 W' (cs.eraseIdx i)/\R' W'.G b u:=by
 obtain⟨Fs,s⟩:=s;have hs:Same W.G fun q=>if Fs i q then W.H q else W.G q:=fun a o h=>by
  show(if Fs i a then _ else _)=_;rw[if_neg fun z=>by have:=(s.lv z).1;rw[h]at this;cases this];exact h
 have ho:Same (fun q=>if Fs i q then W.H q else W.G q) W.H:=fun a o h=>by
  have h:(if Fs i a then W.H a else W.G a)=some o:=h;split at h;·exact h
  ·exact W.ok _ _ h
 let W':Wd:=⟨_,W.H,ho⟩
 refine⟨W',rfl,⟨E.g.trans hs,E.h,fun q hq=>?_⟩,hs,?_,FzT.fz (R:=R) (s.el i _ hc) hs fun q hq=>if_pos hq⟩
 ·show(if Fs i q then _ else _)=_;rw[if_neg fun z=>hq<|s.nw i q z];exact E.k q hq
 ·have s2:SepF W0 W' (fun k=>if k=i then(fun _=>False)else Fs k) (cs.set i BA):=by
   have key:∀k q,(if k=i then(fun _=>False)else Fs k) q->k≠i/\Fs k q:=fun k q h=>by
    by_cases z:k=i;·simp[if_pos z]at h
    ·exact⟨z,by simpa [if_neg z] using h⟩
   refine⟨fun k c h=>?_,fun k q h=>?_,fun k l q h1 h2=>s.dj k l q (key k q h1).2 (key l q h2).2,fun k q h=>s.nw k q (key k q h).2⟩
   ·rw[Fx]at h;by_cases z:i=k
    ·subst z;rw[if_pos rfl]at h;split at h
     ·cases h;simp only[if_true];exact fun _ z=>z
     ·cases h
    ·rw[if_neg z]at h;simp only[if_neg (E8 z)];refine @FrT.fr _ _ c.i _ _ _ _ _ (s.el k c h) hs fun q hq=>⟨rfl,?_⟩
     show(if Fs i q then _ else _)=_;rw[if_neg fun y=>z<|s.dj i k q y hq]
   ·rw[Gu];exact s.rng k q (key k q h).2
  have:=s2.del i;rw[List.eraseIdx_set_eq]at this;exact this
end
section
variable{Er:Nat->Prop}{α β γ δ ε ζ:Type}{K:Cq}{W W' W0 W1 W2:Wd}{F F' F1:FS}{cs:List TC}{σ:St}{t ta tb te ti tp t1 t2 t3 t4 t5:TE}{D:Ends}{i k:Nat}{r:TS}
def vw(R:Rf α):Rw α:=fun W a v=>∃F,R W F a v
instance zkeep49{R:Rf α}[FrT R]:MonoW (vw R):=⟨fun e⟨F,t⟩=>⟨F,FrT.ext t e⟩⟩
theorem Sep.vw{R:Rf α}[FrT R]{a:α}{v:V}(s:Sep W0 W cs)(hc:cs[k]? =some (tc R a v)):vw R W a v:=by
 obtain⟨Fs,s⟩:=s;exact⟨Fs k,s.el k _ hc⟩
theorem eV{R:Rf α}[FrT R]{a:α}{v:V}(s:Sep W0 W cs)(hc:cs[k]? =some (tc R a v):=by rfl)(h:σ[i]? =some (some v):=by rfl):EV Er (aU i) σ W (vw R) (.ok a):=bq (s.vw hc) h
theorem yl{xs:List α}{j:Int}{a:α}(h:sG xs j=some a):∃l,Mi.ixN xs.length j=some l/\xs[l]? =some a:=by
 unfold sG at h;cases z:Mi.ixN xs.length j with
 |none=>rw[z]at h;cases h
 |some l=>rw[z]at h;exact⟨l,rfl,h⟩
theorem TL.ix{R:Rf α}{Fs:Nat->FS}{xs:List α}{vs:List V}(t:TL R W Fs xs vs){j:Int}{l:Nat}{a:α}(h1:Mi.ixN xs.length j=some l)(h2:xs[l]? =some a):∃x,vs[l]? =some x/\L2.atI vs j=some x/\R W (Fs l) a x:=by
 have hl:l<vs.length:=by rw[t.len];exact(Cy.mp h2).1
 refine⟨vs[l],by simp[hl],?_,t.el l a _ h2 (by simp[hl])⟩;show(L2.ixN vs.length j).bind _=_;rw[t.len,show L2.ixN xs.length j=Mi.ixN xs.length j from rfl,h1];simp[hl]
theorem pw{R:Rf α}[FrT R]{ma:Res (List α)}{mb:Res Int}(ha:EV Er ta σ W (vw<|oL R) ma)(hb:EV Er tb σ W (sh isI) mb):EV Er (dq (cn K) ta tb) σ W (vw R) (ma.bind fun a=>mb.bind fun b=>kF a b):=
 rn ha hb fun W a b x y Q hx hy k=>by
  cases hy;obtain⟨F,p,vs,Fs,rfl,g,h,t,np,hF⟩:=hx;obtain⟨c,h4,h5⟩:=dD k;obtain⟨l,h6,h7⟩:=yl h4;obtain⟨z,h8,h9,h10⟩:=t.ix h6 h7;exact⟨p,_,b,z,rfl,rfl,Ep h,h9,h5 _ W (.refl _) ⟨_,h10⟩⟩
theorem j6{R:Rp α}{m:Res α}(h:EV Er t σ W (vw<|fz R) m):EV Er t σ W (sh R) m:=h.imp fun _ _ _⟨_,r⟩=>r.2
theorem TL.lr{R:Rp α}{Fs:Nat->FS}{xs:List α}{vs:List V}(t:TL (fz R) W Fs xs vs):LR R W.G xs vs:=⟨t.len,fun i v m a b=>(t.el i m v b a).2⟩
theorem TL.of{R:Rp α}{xs:List α}{vs:List V}(t:LR R W.G xs vs):TL (fz R) W (fun _ _=>False) xs vs:=⟨t.1,fun i x u a b=>⟨fun _ z=>z,t.2 i u x b a⟩,fun _ _ z=>z.elim,fun _ _ _ z=>z.elim⟩
theorem j8{R:Rp α}{m:Res (List α)}(h:EV Er t σ W (vw<|oL<|fz R) m):EV Er t σ W (pk R) m:=h.imp fun _ _ _⟨_,p,vs,Fs,e,g,h,t,_⟩=>⟨p,vs,e,h,t.lr⟩
def wk(Er:Nat->Prop)(t:TE)(σ:St)(W:Wd)(R:Rf α)(m:Res α):Prop:=∀W1,Ext W W1->∀Q:VK,m.OkE Er (fun a=>∀v W2 F,Ext W1 W2->(∀q,F q->W1.H q=none)->R W2 F a v->Q v W2.H)->t σ W1.H Q
theorem oL.ofOw{R:Rp α}{p:Addr}{xs:List α}(o:Ow R W p xs):oL (fz R) W (· =p) xs (.ref p):=by
 obtain⟨vs,h1,h2⟩:=o.h;exact⟨p,vs,fun _ _=>False,rfl,o.g,h1,.of h2,fun _ z=>z,fun q=>⟨.inl,fun z=>z.elim id fun⟨_,z⟩=>z.elim⟩⟩
theorem EVo.tr{R:Rp α}{m:Res (List α)}(h:EVo Er t σ W R m):wk Er t σ W (oL<|fz R) m:=fun W1 e1 Q k=>h W1 e1 Q (k.imp fun xs kx p W2 e2 hp o=>kx _ W2 _ e2 (fun q hq=>by rw[hq];exact hp)<|oL.ofOw o)
def Lens(W0:Wd)(C:α->List TC)(R:Rf β):Rw (β×(β->α)):=fun W bp u=>∃F,R W F bp.1 u/\(∀q,F q->W0.H q=none)/\∀W' F' b',MuF F W W'->(∀q,F' q->F q\/W.H q=none)->R W' F' b' u->Sep W0 W' (C<|bp.2 b')
instance zkeep50{C:α->List TC}{R:Rf β}[FrT R]:MonoW (Lens W0 C R):=⟨fun e⟨F,t,n,p⟩=>⟨F,FrT.ext t e,n,fun W' F' b' m hF t'=>p W' F' b' (e.muF.trans m fun q hq=>.inl hq) (fun q hq=>(hF q hq).imp id (none_of e.h)) t'⟩⟩
variable{C:α->List TC}
theorem nW{R:Rf α}[FrT R]{a:α}{v:V}(s:Sep W0 W (C a))(E:Ext W0 W)(hc:(C a)[k]? =some (tc R a v):=by rfl)(hs:∀b,C b=(C a).set k (tc R b v):=by intro _;rfl)(h:σ[i]? =some (some v):=by rfl):EV Er (aU i) σ W (Lens W0 C R) (.ok (a,fun b=>b)):=by
 obtain⟨Fs,s⟩:=s;exact bq (R:=Lens W0 C R) ⟨Fs k,s.el k _ hc,s.nw k,fun W' F' b' m hF t=>by rw[hs];exact s.put E m hF t (Cy.mp hc).1⟩ h
theorem MuF.up(m:MuF F W W')(h:∀q,F q->F' q):MuF F' W W':=⟨m.g,fun q hq hn=>m.h q (fun z=>hq<|h q z) hn,m.k,m.n⟩
theorem Lens.lf{R:Rp β}[Mono R]{bp:List β×(List β->α)}{u:V}(E:Ext W0 W)(l:Lens W0 C (oL<|fz R) W bp u):∃p vs,u=.ref p/\W.H p=some (.lst vs)/\LR R W.G bp.1 vs/\∃hg:W.G p=none,∀vs' xs',LR R W.G xs' vs'->Ext W0 (W.mut p (.lst vs') hg)/\Sep W0 (W.mut p (.lst vs') hg) (C<|bp.2 xs'):=by
 obtain⟨F,⟨p,vs,Fs,rfl,g,h,t,np,hF⟩,n,pb⟩:=l;have hp:F p:=(hF p).mpr (.inl rfl);refine⟨p,vs,rfl,h,t.lr,g,fun vs' xs' lr=>⟨E.mut (n p hp) g,pb _ (· =p) xs' (MuF.of hp g) (fun q hq=>.inl (by rw[hq];exact hp)) ⟨p,vs',fun _ _=>False,rfl,g,ai,.of lr,fun _ z=>z,fun q=>⟨.inl,fun z=>z.elim id fun⟨_,z⟩=>z.elim⟩⟩⟩⟩
theorem wm{R:Rp β}[Mono R]{mp:Res (List β×(List β->α))}{m:Res β}(E:Ext W0 W)(hp:EV Er tp σ W (Lens W0 C<|oL<|fz R) mp)(h:EV Er te σ W (sh R) m)(q:(mp.bind fun p=>m.bind fun x=>(fI p.1 x).bind fun b=>.ok<|p.2 b).OkE Er fun a'=>∀W',Same W.G W'.G->Ext W0 W'->Sep W0 W' (C a')->D.nx σ W'.H):
  aT (dU K "list" aw tp<|ah te aE) D σ W.H:=hp W (.refl _) _ ((Cn q).imp fun p kp u W1 e1 l=>by
 obtain⟨p0,vs0,rfl,hH0,_,_⟩:=Lens.lf (E.trans e1) l;refine⟨.inl ⟨rfl,vs0,Ep hH0⟩,h W1 e1 _ ((Cn kp).imp fun x kx v W2 e2 hv=>?_)⟩;obtain⟨p1,vs,ep,hH,lr,hg,back⟩:=Lens.lf ((E.trans e1).trans e2) (Dx e2 l);cases ep;obtain⟨h3,h4⟩:=aO (Cn kx);obtain⟨b1,b2⟩:=back (vs++[v]) (p.1++[x]) (lr.snoc hv);exact⟨p0,vs,v,rfl,rfl,hH,by rw[lr.1,DK];unfold Mi.cap at h3;omega,h4 (W2.mut p0 (.lst (vs++[v])) hg) (e1.trans e2).g b1 b2⟩)
theorem wo{R:Rp β}[Mono R]{mp:Res (List β×(List β->α))}{m:Res β}{mi:Res Int}(E:Ext W0 W)(h:EV Er te σ W (sh R) m)(hp:EV Er tp σ W (Lens W0 C<|oL<|fz R) mp)(hj:EV Er ti σ W (sh isI) mi)(q:(m.bind fun x=>mp.bind fun p=>mi.bind fun j=>(jq p.1 j x).bind fun b=>.ok<|p.2 b).OkE Er fun a'=>∀W',Same W.G W'.G->Ext W0 W'->Sep W0 W' (C a')->D.nx σ W'.H):
  bD te (pZ tp ti km) D σ W.H:=h W (.refl _) _ ((Cn q).imp fun x kx v W1 e1 hv=>hp W1 e1 _ ((Cn kx).imp fun p kp u W2 e2 l=>hj W2 (e1.trans e2) _ ((Cn kp).imp fun j kj y W3 e3 hy=>by
 cases hy;obtain⟨p0,vs,rfl,hH,lr,hg,back⟩:=Lens.lf (((E.trans e1).trans e2).trans e3) (Dx e3 l);obtain⟨n,h3,h4⟩:=dD (Cn (Cn kj));obtain⟨b1,b2⟩:=back (vs.set n v) (p.1.set n x) (lr.set (Cp (R:=R) (e2.trans e3).g hv) n);exact⟨p0,vs,j,n,rfl,rfl,hH,by rw[lr.1];exact h3,h4 (W3.mut p0 (.lst (vs.set n v)) hg) ((e1.trans e2).trans e3).g b1 b2⟩)))
theorem wq{R:Rf β}[FrT R]{m:Res β}{σ':V->St}(S:Sep W0 W cs)(E:Ext W0 W)(h:wk Er te σ W R m)(q:m.OkE Er fun a=>∀v W',Ext W W'->Sep W0 W' (cs++[tc R a v])->D.nx (σ' v) W'.H)(hσ:∀v,σ.set i (some v)=σ' v:=by intro _;rfl):bD te (aH i) D σ W.H:=h W (.refl _) _ (q.imp fun a k v W' F e hF t=>by have:=k v W' e<|S.add E e hF t;rw[<-hσ]at this;exact this)
theorem gq{R:Rf β}[FrT R]{m:Res β}{σ':V->St}(S:Sep W0 W cs)(E:Ext W0 W)(h:wk Er te σ W R m)(q:m.OkE Er fun a=>∀v W',Ext W W'->Sep W0 W' (cs++[tc R a v])->r D (σ' v) W'.H)(hσ:∀v,σ.set i (some v)=σ' v:=by intro _;rfl):dt (bD te<|aH i) r D σ W.H:=wq (D:={D with nx:=r D}) S E h q hσ
end
section
variable{Er:Nat->Prop}{α β γ:Type}{K:Cq}{W W' W0 W1 W2:Wd}{F F' F1:FS}{cs:List TC}{σ:St}{t ta tb te ti tp:TE}{D:Ends}{i k:Nat}{r:TS}
theorem fS{R:Rf α}:wk Er (cu aE) σ W (oL R) (.ok []):=fun W1 e1 Q k=>⟨by decide,fun p hp=>k _ (W1.mut p (.lst [])<|W1.gnone hp) (· =p) (.own _ hp) (fun q hq=>by rw[hq];exact hp) ⟨p,[],fun _ _=>False,rfl,W1.gnone hp,ai,⟨rfl,fun i x u h=>by simp at h,fun _ _ z=>z.elim,fun _ _ _ z=>z.elim⟩,fun _ z=>z,fun q=>⟨.inl,fun z=>z.elim id fun⟨_,z⟩=>z.elim⟩⟩⟩
theorem u6{P:α->Prop}{m:Res α}(h:m.OkE Er P):(m.bind fun b=>.ok b).OkE Er P:=by cases m<;>exact h
theorem lK{C:List β->List TC}{R:Rp β}[Mono R]{xs:List β}{v:V}{m:Res β}(S:Sep W0 W (C xs))(E:Ext W0 W)(h:EV Er te σ W (sh R) m)(q:(m.bind fun x=>fI xs x).OkE Er fun a'=>∀W',Same W.G W'.G->Ext W0 W'->Sep W0 W' (C a')->D.nx σ W'.H)(hc:(C xs)[k]? =some (tc (oL<|fz R) xs v):=by rfl)(hs:∀b,C b=(C xs).set k (tc (oL<|fz R) b v):=by intro _;rfl)(hi:σ[i]? =some (some v):=by rfl):
  aT (dU K "list" aw (aU i)<|ah te aE) D σ W.H:=wm E (nW S E hc hs hi) h (by
 show(m.bind fun x=>(fI xs x).bind fun b=>.ok b).OkE Er _;cases m with
 |ok x=>exact u6 q
 |err j=>exact q
 |stuck=>exact q)
theorem qN{C:List β->List TC}{R:Rp β}[Mono R]{xs:List β}{v:V}{m:Res β}(S:Sep W0 W (C xs))(E:Ext W0 W)(h:EV Er te σ W (sh R) m)(q:(m.bind fun x=>fI xs x).OkE Er fun a'=>∀W',Same W.G W'.G->Ext W0 W'->Sep W0 W' (C a')->r D σ W'.H)(hc:(C xs)[k]? =some (tc (oL<|fz R) xs v):=by rfl)(hs:∀b,C b=(C xs).set k (tc (oL<|fz R) b v):=by intro _;rfl)(hi:σ[i]? =some (some v):=by rfl):
  dt (aT<|dU K "list" aw (aU i)<|ah te aE) r D σ W.H:=lK (k:=k) (D:={D with nx:=r D}) S E h q hc hs hi
theorem wt{C:List β->List TC}{R:Rp β}[Mono R]{xs:List β}{v:V}{m:Res β}{mi:Res Int}(S:Sep W0 W (C xs))(E:Ext W0 W)(h:EV Er te σ W (sh R) m)(hj:EV Er ti σ W (sh isI) mi)(q:(m.bind fun x=>mi.bind fun j=>jq xs j x).OkE Er fun a'=>∀W',Same W.G W'.G->Ext W0 W'->Sep W0 W' (C a')->D.nx σ W'.H)(hc:(C xs)[k]? =some (tc (oL<|fz R) xs v):=by rfl)(hs:∀b,C b=(C xs).set k (tc (oL<|fz R) b v):=by intro _;rfl)(hi:σ[i]? =some (some v):=by rfl):
  bD te (pZ (aU i) ti km) D σ W.H:=wo E h (nW S E hc hs hi) hj (by
 show(m.bind fun x=>mi.bind fun j=>(jq xs j x).bind fun b=>.ok b).OkE Er _;cases m with
 |ok x=>
  cases mi with
  |ok y=>exact u6 q
  |err j=>exact q
  |stuck=>exact q
 |err j=>exact q
 |stuck=>exact q)
theorem qO{C:List β->List TC}{R:Rp β}[Mono R]{xs:List β}{v:V}{m:Res β}{mi:Res Int}(S:Sep W0 W (C xs))(E:Ext W0 W)(h:EV Er te σ W (sh R) m)(hj:EV Er ti σ W (sh isI) mi)(q:(m.bind fun x=>mi.bind fun j=>jq xs j x).OkE Er fun a'=>∀W',Same W.G W'.G->Ext W0 W'->Sep W0 W' (C a')->r D σ W'.H)(hc:(C xs)[k]? =some (tc (oL<|fz R) xs v):=by rfl)(hs:∀b,C b=(C xs).set k (tc (oL<|fz R) b v):=by intro _;rfl)(hi:σ[i]? =some (some v):=by rfl):
  dt (bD te<|pZ (aU i) ti km) r D σ W.H:=wt (k:=k) (D:={D with nx:=r D}) S E h hj q hc hs hi
end
section
variable{α β γ ρ τ:Type}
abbrev Ra(α:Type):=Hp->α->List V->Prop
def aN:Ra Unit:=fun _ _ us=>us=[]
def aC(R:Rp α)(RA:Ra β):Ra (α×β):=fun G a us=>∃v r,us=v::r/\R G a.1 v/\RA G a.2 r
class MonoA(RA:Ra α):Prop where
 mono:∀{G G':Hp}{a:α}{us:List V},Same G G'->RA G a us->RA G' a us
instance zkeep61{R:Rp α}{RA:Ra β}[Mono R][MonoA RA]:MonoA (aC R RA):=⟨fun e⟨v,r,h1,h2,h3⟩=>⟨v,r,h1,Cp e h2,MonoA.mono e h3⟩⟩
def uX(R:Rf τ)(RA:Ra α)(cs:List Addr)(RR:Rp ρ)(m:τ->α->Res (τ×ρ)):Sp:=fun vs H Q E=>∃(W0 W:Wd)(F:FS)(x:τ)(v:V)(a:α)(us:List V),W.H=H/\vs=v::us/\Ext W0 W/\(∀q,F q->W0.H q=none)/\R W F x v/\RA W.G a us/\∃Er:Nat->Prop,Esc Er cs E W/\(m x a).OkE Er fun r=>∀u W' F',Ext W0 W'->Same W.G W'.G->(∀q,F' q->W0.H q=none)->R W' F' r.1 v->RR W'.G r.2 u->Q u W'.H
open Classical in
noncomputable def u7(H:Hp)(F:FS):Hp:=fun q=>if F q then none else H q
theorem wu{H:Hp}{F:FS}{q:Addr}(h:F q):u7 H F q=none:=by unfold u7;rw[if_pos h]
theorem mw{H:Hp}{F:FS}{q:Addr}(h:¬F q):u7 H F q=H q:=by unfold u7;rw[if_neg h]
noncomputable def Wd.sub(W:Wd)(F:FS)(h:∀q,F q->W.G q=none):Wd:=⟨W.G,u7 W.H F,fun a o e=>by
 rw[mw (fun z=>by rw[h a z]at e;cases e)];exact W.ok _ _ e⟩
theorem Wd.sub_in{W:Wd}{F:FS}{h:∀q,F q->W.G q=none}{q:Addr}(hq:F q):(W.sub F h).H q=none:=wu hq
theorem Wd.sub_out{W:Wd}{F:FS}{h:∀q,F q->W.G q=none}{q:Addr}(hq:¬F q):(W.sub F h).H q=W.H q:=mw hq
theorem Wd.sub_ext{W:Wd}{F:FS}{h:∀q,F q->W.G q=none}:Ext (W.sub F h) W:=⟨.refl _,fun a u z=>by
 by_cases y:F a;·rw[Wd.sub_in y]at z;cases z
 ·rw[Wd.sub_out y]at z;exact z,fun _ _=>rfl⟩
variable{W0 W:Wd}{cs:List TC}
theorem Sep.call{R:Rf β}[FrT R]{b:β}{v:V}{k:Nat}(s:Sep W0 W cs)(E:Ext W0 W)(hc:cs[k]? =some (tc R b v)):
  ∃W1 F,Ext W1 W/\R W F b v/\(∀q,F q->W1.H q=none)/\∀W' F' b',Ext W1 W'->(∀q,F' q->W1.H q=none)->R W' F' b' v->Ext W0 W'/\Sep W0 W' (cs.set k<|tc R b' v):=by
 obtain⟨Fs,s⟩:=s;have t:R W (Fs k) b v:=s.el k _ hc;have lv:=fun q hq=>FrT.lv t q hq;have hi:k<cs.length:=(Cy.mp hc).1;have nF:∀p,W0.H p≠none->¬Fs k p:=fun p hp z=>hp<|s.nw k p z;have E1:Ext W0 (W.sub (Fs k) fun q hq=>(lv q hq).1):=⟨E.g,fun a u z=>by rw[Wd.sub_out<|nF a<|nn_of z];exact E.h _ _ z,fun p hp=>E.k p hp⟩
 refine⟨W.sub (Fs k) fun q hq=>(lv q hq).1,Fs k,Wd.sub_ext,t,fun q hq=>Wd.sub_in hq,fun W' F' b' e hF' t'=>⟨E1.trans e,?_⟩⟩;have out:∀q,F' q->Fs k q\/W.H q=none:=fun q hq=>by
  by_cases z:Fs k q;·exact .inl z
  ·exact .inr (by rw[<-Wd.sub_out (h:=fun q hq=>(lv q hq).1) z];exact hF' q hq)
 refine⟨fun j=>if j=k then F' else Fs j,fun j c h=>?_,fun j q h=>?_,fun j l q h1 h2=>?_,fun j q h=>?_⟩
 ·rw[Fx]at h;by_cases z:k=j
  ·subst z;rw[if_pos rfl,if_pos hi]at h;cases h;simp only[if_true];exact t'
  ·rw[if_neg z]at h;simp only[if_neg (E8 z)];refine @FrT.fr _ _ c.i _ _ _ _ _ (s.el j c h) e.g fun q hq=>?_;have nk:¬Fs k q:=fun y=>z<|s.dj k j q y hq;have hn:(W.sub (Fs k) fun q hq=>(lv q hq).1).H q≠none:=by rw[Wd.sub_out nk];exact(s.lv hq).2
   exact⟨by rw[e.keepH hn,Wd.sub_out nk],e.k q hn⟩
 ·rw[Gu];by_cases z:j=k;·rw[z];exact hi
  ·simp only[if_neg z]at h;exact s.rng j q h
 ·have key:∀j q,(if j=k then F' else Fs j) q->(j=k/\F' q)\/(j≠k/\Fs j q):=fun j q h=>by
   by_cases z:j=k;·exact .inl ⟨z,by simpa [if_pos z] using h⟩
   ·exact .inr ⟨z,by simpa [if_neg z] using h⟩
  rcases key j q h1 with⟨z1,a⟩|⟨z1,a⟩<;>rcases key l q h2 with⟨z2,b⟩|⟨z2,b⟩
  ·rw[z1,z2]
  ·exact((out q a).elim (fun y=>z2<|s.dj l k q b y) fun y=>absurd y (s.lv b).2).elim
  ·exact((out q b).elim (fun y=>z1<|s.dj j k q a y) fun y=>absurd y (s.lv a).2).elim
  ·exact s.dj j l q a b
 ·by_cases z:j=k
  ·simp only[if_pos z]at h;exact(out q h).elim (s.nw k q) fun y=>none_of E.h y
  ·simp only[if_neg z]at h;exact s.nw j q h
end
structure CalM(P:CQ)(w:D4)(K:Cq)(mg:Str->Option Cr)(base:Heap)(CX:CXT)(C:Addr)(m:Str)(ps:List Str)(k:Nat)(sp:Sp):Prop where
 ex:∃(f:Addr)(fd:CP),FnOk P w K mg base CX k f fd ps sp/\Meth K C m f/\Cls K C/\Binds K fd ps []
section
variable{X:Cx}{CX:CXT}{C:Addr}{m:Str}{ps:List Str}{k:Nat}{sp:Sp}{E:XK}{pos apos:Pos}{o e:Expr}{es:List Expr}{ta:TE}{t:TA}
theorem j9{pl:Sem Bool}(h:CalM X.prog X.w X.K X.mg X.base CX0 C m ps k sp)(hr:Room k X.A)(he:PE X o ta)(ha:PA X (e::es) t)
  (hst:starEach (e::es) X.env=(false,eval e X.env)::starEach es X.env:=by rfl) (hpl:(backTo pos<|starEach es X.env).any (·.1)=false:=by rfl)
  (ht:eval (.Call (.Attribute o m apos) (e::es) [] pos) X.env=(do
   let ov <-eval o X.env
   standAt apos.atName
   let (f,first) <-holding [ov] (getMethod ov m pl)
   callWith pos f first (backTo pos (starEach (e::es) X.env)) (backToKw pos (keywordEach [] X.env))):=by rfl):
  PE X (.Call (.Attribute o m apos) (e::es) [] pos) (eU C m sp [] E0 ta t):=by
 obtain⟨f,fd,F,M,c,b⟩:=h.ex;exact oH he c M F hr b .nil oN ha hst hpl ht
theorem dJ{pl:Sem Bool}(h:CalM X.prog X.w X.K X.mg X.base CX0 C m ps k sp)(hr:Room k X.A)(he:PE X o ta)
  (ht:eval (.Call (.Attribute o m apos) [] [] pos) X.env=(do
   let ov <-eval o X.env
   standAt apos.atName
   let (f,first) <-holding [ov] (getMethod ov m pl)
   callWith pos f first (backTo pos (starEach [] X.env)) (backToKw pos (keywordEach [] X.env))):=by rfl):
  PE X (.Call (.Attribute o m apos) [] [] pos) (eU C m sp [] E0 ta aE):=by
 obtain⟨f,fd,F,M,c,b⟩:=h.ex;exact rV he c M F hr b .nil oN ht
theorem my{pl:Sem Bool}(h:CalM X.prog X.w X.K X.mg X.base (CXR X.prog X.w) C m ps k sp)(hx:dN (CXR X.prog X.w) X E)(hr:Room k X.A)(he:PE X o ta)(ha:PA X (e::es) t)
  (hst:starEach (e::es) X.env=(false,eval e X.env)::starEach es X.env:=by rfl) (hpl:(backTo pos<|starEach es X.env).any (·.1)=false:=by rfl)
  (ht:eval (.Call (.Attribute o m apos) (e::es) [] pos) X.env=(do
   let ov <-eval o X.env
   standAt apos.atName
   let (f,first) <-holding [ov] (getMethod ov m pl)
   callWith pos f first (backTo pos (starEach (e::es) X.env)) (backToKw pos (keywordEach [] X.env))):=by rfl):
  PE X (.Call (.Attribute o m apos) (e::es) [] pos) (eU C m sp [] E ta t):=by
 obtain⟨f,fd,F,M,c,b⟩:=h.ex;exact oH he c M F hr b .nil hx ha hst hpl ht
end
section
variable{Er:Nat->Prop}{α β γ ρ τ:Type}{W W0 W':Wd}{σ:St}{K:Cq}{cs:List TC}
theorem Sep.one{R:Rf τ}[FrT R]{F:FS}{x:τ}{v:V}(t:R W F x v)(h:∀q,F q->W0.H q=none):Sep W0 W [tc R x v]:=by
 have key:∀(i:Nat)q,(if i=0 then F else fun _=>False) q->i=0/\F q:=fun i q h=>by
  by_cases z:i=0;·exact⟨z,by simpa [if_pos z] using h⟩
  ·simp[if_neg z]at h
 refine⟨fun i=>if i=0 then F else fun _=>False,fun i c hc=>?_,fun i q hq=>?_,fun i j q h1 h2=>?_,fun i q hq=>h q (key i q hq).2⟩
 ·match i,hc with
  |0,hc=>cases hc;exact t
 ·rw[(key i q hq).1];exact Nat.one_pos
 ·rw[(key i q h1).1,(key j q h2).1]
def pz(Er:Nat->Prop)(t:TA)(σ:St)(W:Wd)(RA:Ra α)(m:Res α):Prop:=∀W1,Ext W W1->∀Q:List V->Hp->Prop,m.OkE Er (fun a=>∀us W2,Ext W1 W2->RA W2.G a us->Q us W2.H)->t σ W1.H Q
theorem hR:pz Er aE σ W aN (.ok ()):=fun W1 _ Q k=>k [] W1 (.refl _) rfl
theorem bc{R:Rp α}{RA:Ra β}[Mono R]{te:TE}{t:TA}{m:Res α}{ma:Res β}(h:EV Er te σ W (sh R) m)(ht:pz Er t σ W RA ma):pz Er (ah te t) σ W (aC R RA) (m.bind fun a=>ma.bind fun b=>.ok (a,b)):=fun W1 e1 Q k=>
 h W1 e1 _ ((Cn k).imp fun a ka v W2 e2 hv=>ht W2 (e1.trans e2) _<|(Cn ka).imp fun b kb us W3 e3 hu=>kb (v::us) W3 (e2.trans e3) ⟨v,us,rfl,Cp e3.g hv,hu⟩)
class HasM(R:Rf τ)(C:outParam Addr)(m:Str):Prop where
 at_:∀{W:Wd}{F:FS}{x:τ}{v:V},R W F x v->∃a dx fs,v=.ref a/\W.H a=some (.ins C dx fs)/\fs.lookup m=none
theorem xv{R:Rf τ}[FrT R]{RA:Ra α}{RR:Rp ρ}{C:Addr}{m:Str}{k i:Nat}{x:τ}{v:V}{t:TA}{ma:Res α}{mf:τ->α->Res (τ×ρ)}{csx:List Addr}{E:XK}{Q:VK}(hm:HasM R C m)(S:Sep W0 W cs)(E0:Ext W0 W)(hc:cs[k]? =some (tc R x v))(hi:σ[i]? =some (some v))(ha:pz Er t σ W RA ma)(hE:Esc Er csx E W)
  (q:(ma.bind fun a=>mf x a).OkE Er fun r=>∀u W',Ext W0 W'->Same W.G W'.G->Sep W0 W' (cs.set k<|tc R r.1 v)->RR W'.G r.2 u->Q u W'.H):eU C m (uX R RA csx RR mf) [] E (aU i) t σ W.H Q:=by
 obtain⟨Fs,s⟩:=id S;obtain⟨a,dx,fs,e,h1,h2⟩:=hm.at_<|s.el k _ hc;refine⟨v,hi,a,dx,fs,e,h1,h2,ha W (.refl _) _<|(Cn q).imp fun b kb us W2 e2 hu=>?_⟩;obtain⟨W1,F,x1,t1,n1,up⟩:=(S.ext e2).call (E0.trans e2) hc;refine⟨W1,W2,F,x,v,b,us,rfl,by rw[Dh],x1,n1,t1,hu,Er,hE.mono e2,kb.imp fun r kr u W' F' e' hs hF' t' hr=>?_⟩;obtain⟨z1,z2⟩:=up W' F' r.1 e' hF' t';exact kr u W' z1 (e2.g.trans hs) z2 hr
end
section
variable{Er:Nat->Prop}{α ρ τ:Type}{W W0 Wi:Wd}{σ:St}{cs:List TC}{D:Ends}{r:TS}{R:Rf τ}[FrT R]{RR:Rp ρ}{x:τ}{v:V}{k i j:Nat}{Q:VK}
abbrev EndO(W0 Wi:Wd)(R:Rf τ)(RR:Rp ρ)(v:V)(Q:VK):τ×ρ->Prop:=fun r=>∀u W' F',Ext W0 W'->Same Wi.G W'.G->(∀q,F' q->W0.H q=none)->R W' F' r.1 v->RR W'.G r.2 u->Q u W'.H
theorem EndO.of{r:τ×ρ}{u:V}(S:Sep W0 W cs)(hc:cs[k]? =some (tc R r.1 v))(E:Ext W0 W)(hS:Same Wi.G W.G)(hr:RR W.G r.2 u)(q:EndO W0 Wi R RR v Q r):Q u W.H:=by
 obtain⟨Fs,s⟩:=S;exact q u W (Fs k) E hS (s.nw k) (s.el k _ hc) hr
theorem kR{te:TE}{m:Res ρ}(S:Sep W0 W cs)(hc:cs[k]? =some (tc R x v))(E:Ext W0 W)(hS:Same Wi.G W.G)(h:EV Er te σ W (sh RR) m)(q:(m.bind fun r=>.ok (x,r)).OkE Er (EndO W0 Wi R RR v D.rt)):cg te D σ W.H:=
 h W (.refl _) _ ((Cn q).imp fun a ka u W2 e2 hu=>EndO.of (S.ext e2) hc (E.trans e2) (hS.trans e2.g) hu ka)
variable{RA:Ra α}{C:Addr}{m:Str}{t:TA}{ma:Res α}{mf:τ->α->Res (τ×ρ)}{csx:List Addr}{E:XK}
end
section
variable{τ ρ:Type}{K:Cq}{base:Heap}{cs:List Addr}{aB:Addr}{W0 W Wi:Wd}{Q:VK}{s:Tx}{ie k:Nat}{σ:St}{D:Ends}{rest tb:TS}{σ':V->St}{xs:Str}{cl:List TC}{R:Rf τ}[FrT R]{RR:Rp ρ}{x:τ}{v:V}
def zM(K:Cq)(W0 W Wi:Wd)(cl:List TC)(k:Nat)(R:Rf τ)[FrT R](RR:Rp ρ)(x:τ)(v:V)(Q:VK)(s:Tx)(D:Ends)(rest:TS)(σ':V->St):(τ×ρ) ⊕ Nat->Prop
 | .inl r=>∀u W',Ext W0 W'->Same W.G W'.G->Sep W0 W' (cl.set k<|tc R r.1 v)->RR W'.G r.2 u->rest D (σ' u) W'.H
 | .inr j=>EndO W0 Wi R (isU K) v Q (x,qH s j)
theorem wx{Er:Nat->Prop}{m:Res (τ×ρ)}(S:Sep W0 W cl)(E0:Ext W0 W)(hS:Same Wi.G W.G)(hc:cl[k]? =some (tc R x v))(Z:Kin K base cs aB)(hs:xs=sOf s)(hD:D.rt=Q)
  (h:∀Er',Esc Er' cs (EX K cs s W Q) W->∀D':Ends,m.OkE Er' (fun r=>∀u W',Ext W0 W'->Same W.G W'.G->Sep W0 W' (cl.set k<|tc R r.1 v)->RR W'.G r.2 u->D'.nx (σ' u) W'.H)->tb D' σ W.H)
  (q:(Res.tryR m).OkE Er (zM K W0 W Wi cl k R RR x v Q s D rest σ')) (hi:ie<σ.length:=by first|decide|simp):
  dt (zG (EX K cs s W Q) ie tb<|yj K cs aB ie xs) rest D σ W.H:=by
 refine⟨h (fun j=>EndO W0 Wi R (isU K) v Q (x,qH s j)) (fun j hj y W' e hy=>⟨⟨y,rfl⟩,j,W',rfl,rfl,e,fun u W2 e2 hu=>EndO.of (r:=(x,qH s j)) (S.ext e2) hc (E0.trans e2) (hS.trans e2.g) hu hj⟩) {D with nx:=rest D}<|Res.tryR_OkE q,fun y C od oe σ1 H1 hE hx hh hl=>tU Z hs hD hE (by rw[hl];exact hi)⟩
end
structure CalI(P:CQ)(w:D4)(K:Cq)(mg:Str->Option Cr)(base:Heap)(x:Str)(C:Addr)(ps:List Str)(k:Nat)(sp:Sp):Prop where
 ex:∃(f:Addr)(fd:CP),Mk K C f/\FnOk P w K mg base CX0 k f fd ps sp/\mg x=some (.ref C)/\Binds K fd ps []
theorem ja{X:Cx}{x:Str}{C:Addr}{ps:List Str}{k:Nat}{sp:Sp}{p pos:Pos}{e:Expr}{es:List Expr}{t:TA}(U:CalI X.prog X.w X.K X.mg X.base x C ps k sp)(hr:Room (k+1) X.A)(hg:Gl X x)(ha:PA X (e::es) t)
  (hdb:(x==("__debug__" :Str))=false:=by decide) (he:starEach (e::es) X.env=(false,eval e X.env)::starEach es X.env:=by rfl) (hpl:(backTo pos<|starEach es X.env).any (·.1)=false:=by rfl):
  PE X (.Call (.Name x p) (e::es) [] pos) (oF C sp [] E0 t):=by
 obtain⟨f,fd,M,F,hm,hb⟩:=U.ex;exact vt M F hr hg hm hb .nil oN ha hdb he hpl
section
variable{Er:Nat->Prop}{α ρ τ:Type}{W W0 Wi:Wd}{σ:St}{cs:List TC}{K:Cq}
def rq(R:Rf τ)(RA:Ra α)(RR:Rp ρ)(m:τ->α->Res (τ×ρ)):Sp:=fun vs H Q _=>∃(W0 W:Wd)(F:FS)(x:τ)(v:V)(a:α)(us:List V),W.H=H/\vs=v::us/\Ext W0 W/\(∀q,F q->W0.H q=none)/\R W F x v/\RA W.G a us/\∃Er:Nat->Prop,(m x a).OkE Er fun r=>∀u W' F',Ext W0 W'->Same W.G W'.G->(∀q,F' q->W0.H q=none)->R W' F' r.1 v->RR W'.G r.2 u->Q u W'.H
theorem zN{R:Rf τ}[FrT R]{RA:Ra α}{RR:Rp ρ}{k i:Nat}{x:τ}{v:V}{t:TA}{ma:Res α}{mf:τ->α->Res (τ×ρ)}{E:XK}{Q:VK}(S:Sep W0 W cs)(E0:Ext W0 W)(hc:cs[k]? =some (tc R x v))(hi:σ[i]? =some (some v))(ha:pz Er t σ W RA ma)
  (q:(ma.bind fun a=>mf x a).OkE Er fun r=>∀u W',Ext W0 W'->Same W.G W'.G->Sep W0 W' (cs.set k<|tc R r.1 v)->RR W'.G r.2 u->Q u W'.H):aI (rq R RA RR mf) [] E (ah (aU i) t) σ W.H Q:=by
 refine⟨v,hi,ha W (.refl _) _<|(Cn q).imp fun b kb us W2 e2 hu=>?_⟩;obtain⟨W1,F,x1,t1,n1,up⟩:=(S.ext e2).call (E0.trans e2) hc;refine⟨W1,W2,F,x,v,b,us,rfl,by simp,x1,n1,t1,hu,Er,kb.imp fun r kr u W' F' e' hs hF' t' hr=>?_⟩;obtain⟨z1,z2⟩:=up W' F' r.1 e' hF' t';exact kr u W' z1 (e2.g.trans hs) z2 hr
end
section
variable{Er:Nat->Prop}{α τ:Type}{W W0:Wd}{σ:St}{cs:List TC}{K:Cq}{R:Rf τ}[FrT R]{RA:Ra α}{k i N:Nat}{x:τ}{v:V}{t:TA}{ma:Res α}{mf:τ->α->Res (τ×Dat)}{mb:Res Dat}{E E':XK}{te:TE}{D:Ends}{ts us r:TS}
theorem qP(hn:24<N)(S:Sep W0 W cs)(E0:Ext W0 W)(hc:cs[k]? =some (tc R x v))(hi:σ[i]? =some (some v))(ha:pz Er t σ W RA ma)(hb:∀W',Same W.G W'.G->EV Er te σ W' (sh<|isU K) mb)
  (q:(ma.bind fun a=>(mf x a).bind fun y=>mb.bind fun b=>(rp y.2 b).bind fun c=>.ok (y.1,c)).OkE Er fun y=>∀W',Ext W0 W'->Same W.G W'.G->Sep W0 W' (cs.set k<|tc R y.1 v)->if y.2=true then us D σ W'.H else ts D σ W'.H):
  i9 (cw<|tB<|aI (dZ K N) [] E<|ah (aI (rq R RA (isU K) mf) [] E'<|ah (aU i) t)<|ah te aE) ts us D σ W.H:=by
 refine zN (ma:=ma) (mf:=mf) S E0 hc hi ha ?_;revert q;clear ha;cases ma with
 |err j=>exact fun h=>h
 |stuck=>exact fun h=>h
 |ok a=>
  intro q;have ka:((mf x a).bind fun y=>mb.bind fun b=>(rp y.2 b).bind fun c=>.ok (y.1,c)).OkE Er _:=q;show(mf x a).OkE Er _;refine(Cn ka).imp fun y ky u W' e' hs S' hu=>?_;have hC:EV Er (tC u) σ W' (sh<|isU K) (.ok y.2):=fun W1 e1 Q k=>k u W1 (.refl _)<|Cp e1.g hu;have:=mr (K:=K) (E:=E) hn hC (hb W' hs) W' (.refl _) (fun z H=>∃c,z=.bl c/\if(!c)=true then ts D σ H else us D σ H) (by
   show(mb.bind fun b=>rp y.2 b).OkE Er _;revert ky;cases mb with
   |ok b=>
    show((rp y.2 b).bind fun c=>CB (y.1,c)).OkE Er _->(rp y.2 b).OkE Er _;intro ky;refine(Cn ky).imp fun c kc w W2 e2 hw=>⟨c,hw,?_⟩
    have z:=kc W2 (e'.trans e2) (hs.trans e2.g)<|S'.ext e2;cases c with
    |true=>exact z
    |false=>exact z
   |err j=>exact fun h=>h
   |stuck=>exact fun h=>h)
  exact this
end
end Wb
open Wb.EndO renaming of->L6
open Wb.FrT renaming fr->KQ,lv->Le
open Wb.Sep renaming one->Jo,frz->L5
namespace Mi
abbrev Cd:=Tx×Tx×Int
abbrev Pl:=Tx×Tx×Tx
abbrev Ii:=Int×Int
def getZ{κ α:Type}[DecidableEq κ](kvs:List (κ×α))(k:κ)(z:α):α:=(look kvs k).getD z
end Mi
namespace L2
open PySem PySem.Spec PyProof.Rows
section
variable{X:Cx}
theorem iN(i:Nat){x:Str}{pos:Pos}(hN:X.N.Nodup:=by exact KR (by assumption))(hi:X.N[i]? =some x:=by rfl)(hx:xD X.env.scope x:=by first|exact G4 rfl|exact FR rfl)(hf:X.fn x=true\/X.env.scope.names.lookup x=some .local:=by first|exact .inl rfl|exact .inr rfl|assumption):PG X (.Name x pos) (aH i):=aP hN hi hx hf
theorem eY(i:Nat){x:Str}{e:Expr}{te:TE}{pos pos':Pos}(he:PE X e te)(hN:X.N.Nodup:=by exact KR (by assumption))(hi:X.N[i]? =some x:=by rfl)(hx:xD X.env.scope x:=by first|exact G4 rfl|exact FR rfl)(hs:swapsWith e (some<|.Name x pos') pos.line X.env=pure false:=by rfl)(hf:X.fn x=true\/X.env.scope.names.lookup x=some .local:=by first|exact .inl rfl|exact .inr rfl|assumption):PS X (.Assign [.Name x pos'] e pos) (bD te<|aH i):=fk hN hi hx he hs hf
theorem ff{x:Str}{ps:List Str}{k:Nat}{sp:Sp}{p pos:Pos}{e:Expr}{es:List Expr}{t:TA}(C:Cal X.prog X.w X.K X.mg X.base x ps k sp)(ha:PA X (e::es) t)(hr:Room k X.A:=by exact Room.mono (by assumption) (by decide))(hg:Gl X x:=by rfl)
  (hdb:(x==("__debug__" :Str))=false:=by decide) (he:starEach (e::es) X.env=(false,eval e X.env)::starEach es X.env:=by rfl) (hpl:(backTo pos<|starEach es X.env).any (·.1)=false:=by rfl):PE X (.Call (.Name x p) (e::es) [] pos) (aI sp [] E0 t):=sC C hr hg ha hdb he hpl
end
end L2
namespace Wb
open PySem L2 Mi
section
variable{Er:Nat->Prop}{W:Wd}{σ:St}{te:TE}{D:Ends}{r:TS}{i:Nat}
theorem bU{i:Nat}{a:Int}(h:σ[i]? =some (some<|.int a):=by rfl):EV Er (aU i) σ W (sh isI) (.ok a):=bq (R:=sh isI) (v:=.int a) rfl h
theorem dh{i:Nat}{a:Tx}(h:σ[i]? =some (some<|.str<|sOf a):=by rfl):EV Er (aU i) σ W (sh isS) (.ok a):=bq (R:=sh isS) (v:=.str<|sOf a) rfl h
theorem Bp{i:Nat}{a:Bool}(h:σ[i]? =some (some<|.bl a):=by rfl):EV Er (aU i) σ W (sh isB) (.ok a):=bq (R:=sh isB) (v:=.bl a) rfl h
theorem bH{α:Type}{R:Rp α}[Mono R]{i:Nat}{a:α}{v:V}(r:R W.G a v)(h:σ[i]? =some (some v):=by rfl):EV Er (aU i) σ W (sh R) (.ok a):=bq (R:=sh R) r h
end
abbrev qA(K:Cq):=isT3 K isS isS isI
abbrev qB(K:Cq):=isT3 K isS isS isS
abbrev qD(K:Cq):=isL<|qB K
def DI(K:Cq)(x:Str)(st:Stmt)(ps:List Str):Prop:=∃f fd,Fun K x x st f fd/\CL K mainGlobals x=some (some<|.ref f)/\Binds K fd ps []
section
variable{P:CQ}{w:D4}{K:Cq}{mg:Str->Option Cr}{base h:Heap}{x:Str}{st:Stmt}{ps:List Str}{n:Nat}{sp:Sp}{f:Addr}
def zO:List Str->List Cr->List Cr
 | [],_=>[]
 |_::r,us=>us.headD .none::zO r us.tail
theorem u9:∀(ps:List Str)(us:List Cr),us.length=ps.length->zO ps us=us
 | [],us,h=>(List.eq_nil_of_length_eq_zero h).symm
 |_::r,[],h=>by cases h
 |_::r,a::us,h=>by
  show a::zO r us=_;rw[u9 r us<|Nat.succ.inj h]
theorem DI.mk{oc:Cr}{od an:Option Addr}{osl:Array (Option Cr)}{kV doc pm cdv ct:Cr}(da:CL K mainGlobals x=some (some<|.ref f))(dl:K.lookup f=some ⟨oc,od,.func<|Dm x x (defArgs st) (defBody st) (defScope st) .none kV doc pm an cdv ct,osl⟩)
  (dc:Dt K cdv x=true) (dk:CZ K (.ref f)=true) (db:∀(kV doc pm:Cr)(an:Option Addr)(cdv ct:Cr)(us:List Cr),bindArgs (Dm x x (defArgs st) (defBody st) (defScope st) .none kV doc pm an cdv ct) ⟨zO ps us,[]⟩=pure (ps.zip<|zO ps us)):DI K x st ps:=
 ⟨f,_,cT dl dc dk,da,(cT dl dc dk).binds fun kV doc pm an cdv ct us hl=>by
  have:=db kV doc pm an cdv ct us;rw[u9 ps us hl]at this;exact this⟩
theorem DI.cal(d:DI K x st ps)(X:K.In h)(G:h.Ns mainGlobals mg)(r:∀{f fd},Fun K x x st f fd->FnOk P w K mg base CX0 n f fd ps sp):Cal P w K mg base x ps n sp:=by
 obtain⟨f,fd,F,a,b⟩:=d;exact⟨f,fd,r F,D0 X G a,F.kp,b⟩
theorem DI.calR(d:DI K x st ps)(X:K.In h)(G:h.Ns mainGlobals mg)(r:∀{f fd},Fun K x x st f fd->FnOk P w K mg base (CXR P w) n f fd ps sp):CalR P w K mg base x ps n sp:=by
 obtain⟨f,fd,F,a,b⟩:=d;exact⟨f,fd,r F,D0 X G a,F.kp,b⟩
end
end Wb
namespace L2
open PySem PySem.Spec PyProof.Rows Wb
section
variable{X:Cx}{pins:List (Addr×Obj)}{σ:St}{H:Hp}{s:Cu}{a:Addr}{kvs:List (Key×V)}
theorem Inv.frzD{o:Obj}(I:Inv X pins σ H s)(e:H a=some (.dK kvs))(ho:s.heap.get? a=some o):Inv X pins σ (bP H a<|.frz o<|.dK kvs) s:=by
 have ne:∀b u,H b=some u->(∀l,u≠.dK l)->b≠a:=fun b u q n z=>by subst z;rw[e]at q;cases q;exact n _ rfl
 have na:∀b,H b=none->b≠a:=fun b n z=>by subst z;rw[e]at n;cases n
 refine I.un (t':=s.toks) (h':=s.heap) ⟨fun b o q _ _ _=>q,fun b o q _ _ _=>⟨o.slots,q⟩,fun b o _ n _=>by rw[ag<|na b n];exact n,fun b o q _=>⟨o,q⟩,fun b xs q=>by rw[ag (ne b _ q fun _ z=>nomatch z)];exact q,fun b o u q=>by rw[ag (ne b _ q fun _ z=>nomatch z)];exact q,fun b ps q=>⟨#[],by rw[ag (ne b _ q fun _ z=>nomatch z),q];simp⟩⟩ ?_;exact I.hok.write (by rw[e];trivial) (.inl rfl) (fun b u _ q=>q) ⟨o,ho⟩ ⟨ho,I.hok a _ e⟩
theorem Inv.objD(I:Inv X pins σ H s)(e:H a=some (.dK kvs)):∃o,s.heap.get? a=some o:=by
 obtain⟨_,_,vs,_,o,_,_,ho,_⟩:=I.hok a _ e;exact⟨o,ho⟩
end
def B9(i:Nat)(t:TS):TS:=fun D σ H=>∃a kvs,σ[i]? =some (some<|.ref a)/\H a=some (.dK kvs)/\∀o,t D σ<|bP H a<|.frz o<|.dK kvs
theorem ua{X:Cx}{st:Stmt}{t:TS}{i:Nat}(h:PS X st t):PS X st (B9 i t):=fun pins s σ H D I⟨a,kvs,_,e,q⟩=>by
 obtain⟨o,ho⟩:=I.objD e;exact h pins s σ _ D (I.frzD e ho)<|q o
def zP(t:TE):TE:=fun σ H Q=>t σ H fun v H1=>∃a kvs,v=.ref a/\H1 a=some (.dK kvs)/\∀o,Q v<|bP H1 a<|.frz o<|.dK kvs
theorem ym{X:Cx}{e:Expr}{t:TE}(h:PE X e t):PE X e (zP t):=fun pins s σ H Q I q=>bL (h pins s σ H _ I q) fun u s1⟨x,H1,I1,r1,a,kvs,ex,ea,q1⟩=>by
 obtain⟨o,ho⟩:=I1.objD ea;exact⟨x,_,I1.frzD ea ho,r1,q1 o⟩
theorem kT{X:Cx}:eg X (.type "dict") (fun xs H Q=>∃a kvs,xs=[.ref a]/\Rd H a (.dK kvs)/\∀p,H p=none->Q (.ref p) (bP H p<|.dK kvs)):=by
 intro pins s σ H xs us Q I r ⟨a,kvs,e,ea,q⟩;subst e;cases r with
 |cons r1 r2=>
  cases r2;cases (show _=CO a from r1);exact si I ea fun p s' hp I'=>⟨.ref p,_,I',rfl,q p hp⟩
theorem ub{P:CQ}{w:D4}{h:Heap}{H:Hp}{a:Addr}{o:Obj}{kvs:List (Key×V)}(ok:HOk P w H h)(e:H a=some (.frz o<|.dK kvs)):h.get? a=some o/\kvs.length<=sizeLine/\(a==sysModules)=false/\∃vs es ep,KV kvs vs/\o.ExactDict/\o.data=.dict es ep/\KeysOf (bh P w) es/\Pairs (bh P w) es.toList vs/\(vs.map (·.1)).Nodup:=by
 obtain⟨ho,z,lo,vs,rel,o',es,ep,ho',hx,hd,hk,hp,hn⟩:=ok a _ e;rw[ho]at ho';cases ho';exact⟨ho,z,lo,vs,es,ep,rel,hx,hd,hk,hp,hn⟩
theorem zQ{P:CQ}{w:D4}{k:Key}{u:Cr}(h:(bh P w).is k u=true):RelV (kV k) u:=by
 rcases bK (show fK k u=true from h)with⟨i,t,rfl,rfl⟩|⟨x,t,rfl,rfl⟩
 ·exact⟨t,rfl⟩
 ·exact⟨t,rfl⟩
def Bq(a:Addr)(o:Obj)(kvs:List (Key×V)):It:=⟨fun i H=>H a=some (.frz o<|.dK kvs)/\i<kvs.length,fun i H x H'=>∃T kv,H T=none/\x=.ref T/\kvs[i]? =some kv/\H'=bP H T (.tup [kV kv.1,kv.2]),fun i H=>H a=some (.frz o<|.dK kvs)/\i=kvs.length⟩
theorem iA{P:CQ}{w:D4}{h:Heap}{H:Hp}{a:Addr}{o:Obj}{kvs:List (Key×V)}(ok:HOk P w H h)(e:H a=some (.frz o<|.dK kvs)):∃es ep,o.data=.dict es ep/\∃vs,KV kvs vs/\h.DictAt (bh P w) a vs ep:=by
 obtain⟨ho,z,lo,vs,es,ep,rel,hx,hd,hk,hp,hn⟩:=ub ok e;exact⟨es,ep,hd,vs,rel,o,es,ho,hx,hd,hk,hp,hn⟩
theorem nX{P:CQ}{w:D4}{K:Cq}{elts:List Expr}{kk:Nat}{tp:Pos}{a it:Addr}{o:Obj}{es:Array EI}{ep:Nat}{kvs:List (Key×V)}(hdat:o.data=.dict es ep):Turn P w K (.Tuple elts kk tp) (Bq a o kvs) [it] it (fun i h=>∃ok ov,IsItemIter h it a i kvs.length ep ok ov) where
 mem:=by simp
 obj:=fun i h st b hb=>by
  obtain⟨ok,ov,st⟩:=st;have e:b=it:=by simpa using hb
  subst e;exact⟨_,st,fun v z=>by
   have z':GW _=Fq v:=z;cases z'⟩
 keep:=fun i h h'⟨ok,ov,st⟩k=>⟨ok,ov,k it (by simp) _ st⟩
 item:=by
  intro X hP hw hK hc i pins s σ H E I hf st hg;subst hP hw hK;obtain⟨ha,hi⟩:=hg;obtain⟨ok,ov,st⟩:=st;obtain⟨es',ep',hd',vs,rel,dat⟩:=iA I.hok ha;rw[hdat]at hd';cases hd';have hl:kvs.length=vs.length:=Paired.length rel;have hiv:i<vs.length:=by omega
  obtain⟨kv,h1,h2,h3⟩:=kE rel<|Dz hiv;have lt:∀{c o},s.heap.get? c=some o->c≠s.heap.objs.size:=fun e=>CN<|CD e;have nT:H s.heap.objs.size=none:=I.hok.fresh<|CK _;have ni:it≠s.heap.objs.size:=lt st;refine wpAny_pyNext_items_item (by rw[<-hl];exact st) dat (k:=vs[i].1) (v:=vs[i].2) (Dz hiv) fun key h' hkey ho hT hsz hk=>?_;refine⟨_,rfl,wpAny_letOwnedTupleGo_items ho fun h2' he2 sb=>?_⟩;have kp2:∀b o,b∉[it]->s.heap.get? b=some o->h2'.get? b=some o:=fun b o hb q=>by
   have hb:b≠it:=fun z=>hb (by simp[z]);exact(sb.2 b hb).trans (hk b o hb q)
  have f9:∀b u,H b=some u->b∉[it]/\b≠s.heap.objs.size:=fun b u q=>⟨fun hb=>(by rw[(hf b hb).1]at q;cases q),fun z=>(by rw[z,nT]at q;cases q)⟩
  have I2:Inv X pins σ (bP H s.heap.objs.size<|.tup [kV kv.1,kv.2]) {s with heap:=h2',gens:=s.gens,drawn:=s.drawn,toks:=s.toks}:=by
   refine I.step (g':=s.gens) (d':=s.drawn) (t':=s.toks) (ch:=[it]) (fun b hb=>⟨(hf b hb).2.2.2.1,(hf b hb).2.1,(hf b hb).2.2.2.2.1,(hf b hb).2.2.2.2.2⟩) (fun b o _ _ hb q _=>kp2 b o hb q) (fun b o _ _ hb q _=>⟨o.slots,kp2 b o hb q⟩)
    (fun b o hb q n=>by rw[ag<|lt q];exact n) (fun b o hb q=>⟨o,kp2 b o hb q⟩) (fun b xs q=>by rw[ag (f9 b _ q).2];exact q) (fun b o u q=>by rw[ag (f9 b _ q).2];exact q) (fun b ps q=>⟨#[],by rw[ag (f9 b _ q).2,q];simp⟩) (fun m hm=>?_) (fun b u q=>?_) I.bare
   ·obtain⟨o,es,ep,ho',r⟩:=hm;exact⟨o,es,ep,kp2 _ o (fun hb=>(hf _ hb).2.1 rfl) ho',r⟩
   ·by_cases hb:b=s.heap.objs.size
    ·subst hb;rw[ai]at q;cases q;exact⟨(by show 2<=sizeLine;rw[DK];decide),[key,vs[i].2],.cons (by rw[h2];exact zQ hkey)<|.cons h3 .nil,⟨_,(sb.2 _<|E8 ni).trans hT,⟨rfl,rfl⟩,_,rfl⟩⟩
    ·rw[ag hb]at q;refine(I.hok b u q).stay (fun c v hc z=>kp2 c v ?_ z) (fun c z=>by rw[ag (f9 c _ z).2];exact z) fun c xs z=>by rw[ag (f9 c _ z).2];exact z
     rcases hc with z|z;·rw[z];exact(f9 b u q).1
     ·exact(f9 c _ z).1
  refine⟨.ref s.heap.objs.size,_,I2,rfl,⟨_,kv,nT,rfl,h1,rfl⟩,⟨_,_,by rw[hl];exact he2⟩,fun b hb=>?_⟩;have e:b=it:=by simpa using hb
  subst e;rw[ag ni];exact(hf b hb).1
 done:=by
  intro X hP hw hK hc i pins s σ H E I hf st hg;subst hP hw hK;obtain⟨ha,hi⟩:=hg;obtain⟨ok,ov,st⟩:=st;obtain⟨es',ep',hd',vs,rel,dat⟩:=iA I.hok ha;rw[hdat]at hd';cases hd';have hl:kvs.length=vs.length:=Paired.length rel;obtain⟨f0,f1,f2,f3,f4,f5⟩:=hf it (by simp);exact wpAny_pyNext_items_end (I.ok.hd hc) (by rw[<-hl];exact st) dat (by simp;omega) fun h' eb=>⟨rfl,I.turned (t':=s.toks) (fun b o hb e=>eb b o hb e) f0 f1 f3 f4 f5⟩
 self:=fun A i s Q E st hQ=>by
  obtain⟨ok,ov,st⟩:=st;have hT:s.TypeIs (.ref it) "dict_itemiterator":=⟨_,st,rfl⟩
  refine wpAny_pyIter_slot hT Gn (En Gn hT (entryFor_alias (id':="dict_keyiterator.__iter__") (by kernel_rfl) rfl (by decide +kernel) (by kernel_rfl):entryFor table "dict_itemiterator.__iter__"=some Jm.«dict_keyiterator.__iter__») ?_<|F.args_dict_itemiterator_iter_1 _);show wpAny _ _ (ret<|.ref it) _ _ s;exact CC ⟨_,rfl,"dict_itemiterator",_,hT,F.slot_dict_itemiterator_next.lookup,hQ⟩
def uc(tl:TE):TI:=fun σ H R=>tl σ H fun x H1=>∃a o kvs,x=.ref a/\H1 a=some (.frz o<|.dK kvs)/\R (Bq a o kvs) H1
section
variable{X:Cx}{cpos apos tp:Pos}{elts:List Expr}{kk:Nat}{l:Expr}{tl:TE}
theorem ud(hl:PE X l tl)(hbase:attributeBase l "items" X.env (eval l X.env)=eval l X.env:=by rfl)(hline:(apos.endLine==cpos.line)=true:=by rfl):PI X (.Tuple elts kk tp) (.Call (.Attribute l "items" apos) [] [] cpos) (uc tl):=by
 intro pins s σ H R I h;refine wpAny_Call_method0_late hbase hline<|bL (hl pins s σ H _ I h) fun v s1 zz=>?_;obtain⟨x,H1,I1,r1,q1⟩:=zz;obtain⟨a,ob,kvs,e,ha,q⟩:=q1;subst e;obtain rfl:v=CO a:=r1;obtain⟨t1,t2,_⟩:=se I1<|.inl ⟨kvs,.inr ⟨ob,ha⟩⟩;obtain⟨ho,z,lo,_⟩:=ub I1.hok ha;obtain⟨es,ep,hdat,vs,rel,dat⟩:=iA I1.hok ha;have hlen:kvs.length=vs.length:=Paired.length rel;refine⟨"dict","dict.items",Hf,Hk,PySem.F.type_dict_items,t1,fun b hb=>by cases hb;exact t2 _ rfl,G3 rfl<|PySem.evalArgs_none ?_⟩;refine IX Hk dat.dictOf.typeIs PySem.F.entry_dict_items (PySem.F.args_dict_items_1 _) (meets_dict_items (bh X.prog X.w) a lo) ⟨⟨vs,dat.dictOf⟩,?_⟩;have dat2:=dat.push {cls:=.type "dict_items",data:=.fields #[.ref a]};refine wpAny_pyIter_items (s:={s1 with heap:=s1.heap.push {cls:=.type "dict_items",data:=.fields #[.ref a]}}) ⟨_,CF _ rfl,rfl,rfl⟩ dat2 ?_;have I2:Inv X pins σ H1 {s1 with heap:=s1.heap.push {cls:=.type "dict_items",data:=.fields #[.ref a]}}:=I1.kept (t':=s1.toks) fun b o e=>Cs _ e;refine⟨_,[(s1.heap.push {cls:=.type "dict_items",data:=.fields #[.ref a]}).objs.size],_,_,H1,rfl,I2.kept (t':=s1.toks) fun b o e=>Cs _ e,nX (kvs:=kvs) hdat,⟨.none,.none,?_⟩,fun b hb=>?_,q⟩;·rw[hlen];exact CF _ rfl
 ·have e:b=(s1.heap.push {cls:=.type "dict_items",data:=.fields #[.ref a]}).objs.size:=by simpa using hb
  subst e;exact I2.fpOk (CK _)<|I2.hok.fresh<|CK _
end
end L2
namespace Wb
open PySem L2 Mi
section
variable{Er:Nat->Prop}{α β:Type}{t ta tb tc te ti:TE}{σ:St}{W W0 W':Wd}{K:Cq}{D:Ends}{i:Nat}{r ts:TS}
def DR(g:β->Key)(R:Rp α)(G:Hp)(xs:List (β×α))(kv:List (Key×V)):Prop:=kv.length=xs.length/\∀(i:Nat)(q:Key×V)(x:β×α),kv[i]? =some q->xs[i]? =some x->q.1=g x.1/\R G x.2 q.2
def isDk(g:β->Key)(R:Rp α):Rp (List<|β×α):=fun G xs v=>∃p o kv,v=.ref p/\G p=some (.frz o<|.dK kv)/\DR g R G xs kv
def pkD(g:β->Key)(R:Rp α):Rw (List<|β×α):=fun W xs v=>∃p kv,v=.ref p/\Rd W.H p (.dK kv)/\DR g R W.G xs kv
variable{g:β->Key}{R:Rp α}[Mono R]
theorem DR.same{G G':Hp}{xs:List (β×α)}{kv:List (Key×V)}(h:DR g R G xs kv)(e:Same G G'):DR g R G' xs kv:=⟨h.1,fun i q x a b=>⟨(h.2 i q x a b).1,Cp e (h.2 i q x a b).2⟩⟩
instance zkeep72:Mono (isDk g R):=⟨fun e⟨p,o,kv,h1,h2,h3⟩=>⟨p,o,kv,h1,e _ _ h2,h3.same e⟩⟩
theorem Rd.same{H H':Hp}{p:Addr}{u:HO}(h:Rd H p u)(e:Same H H'):Rd H' p u:=by
 rcases h with h|⟨o,h⟩
 ·exact .inl<|e _ _ h
 ·exact .inr ⟨o,e _ _ h⟩
instance zkeep73:MonoW (pkD g R):=⟨fun e⟨p,kv,h1,h2,h3⟩=>⟨p,kv,h1,Rd.same h2 e.h,h3.same e.g⟩⟩
theorem pkD.of{xs:List (β×α)}{v:V}(h:isDk g R W.G xs v):pkD g R W xs v:=by
 obtain⟨p,o,kv,a,b,c⟩:=h;exact⟨p,kv,a,.inr ⟨o,W.ok _ _ b⟩,c⟩
theorem EV.pkD{m:Res (List<|β×α)}(h:EV Er t σ W (sh<|isDk g R) m):EV Er t σ W (pkD g R) m:=h.imp fun _ _ _ r=>pkD.of r
theorem OwD.pkD{p:Addr}{xs:List (β×α)}(o:OwD g R W p xs):pkD g R W xs (.ref p):=by
 obtain⟨kv,a,b⟩:=o.h;exact⟨p,kv,rfl,.inl a,b⟩
theorem pA{p:Addr}{xs:List (β×α)}(o:OwD g R W p xs)(h:σ[i]? =some (some<|.ref p):=by rfl):EV Er (aU i) σ W (Wb.pkD g R) (.ok xs):=bq o.pkD h
theorem mC[DecidableEq β]{Rk:Rp β}{ma:Res (List<|β×α)}{mk:Res β}{mz:Res α}(hg:∀a b,g a=g b->a=b)(hk:∀H b v,Rk H b v->v=kV (g b))(ha:EV Er ta σ W (Wb.pkD g R) ma)(h:EV Er tb σ W (sh Rk) mk)(hz:EV Er tc σ W (sh R) mz):
  EV Er (sf ta tb tc) σ W (sh R) (ma.bind fun d=>mk.bind fun k=>mz.bind fun z=>.ok<|getZ d k z):=fun W1 e1 Q k=>ha W1 e1 _ ((Cn k).imp fun xs kx x W2 e2 hx=>by
  obtain⟨p,kv,rfl,o1,o⟩:=id hx;refine⟨p,rfl,.inl ⟨kv,o1⟩,h W2 (e1.trans e2) _<|(Cn kx).imp fun b kb v W3 e3 hv=>hz W3 ((e1.trans e2).trans e3) _<|(Cn kb).imp fun z kz u W4 e4 hu=>?_⟩;have o':=o.same (e3.trans e4).g;have hl:=iw hg kv xs o'.1 o'.2 b;refine⟨fo kv<|g b,by rw[hk _ _ _ hv];exact .inl ⟨kv,g b,Rd.same o1 (e3.trans e4).h,rfl,rfl⟩,?_⟩;have kz:∀v W',Ext W1 W'->sh R W' (getZ xs b z) v->Q v W'.H:=kz;refine kz _ W4 ((e2.trans e3).trans e4) ?_;unfold getZ;cases q:look xs b with
  |none=>
   rw[q]at hl;have hl:fo kv (g b)=none:=hl;rw[hl];exact hu
  |some a=>
   rw[q]at hl;obtain⟨v',h1,h2⟩:=hl;rw[h1];exact h2)
theorem mD{ma:Res (List<|β×α)}(ha:EV Er ta σ W (Wb.pkD g R) ma):EVd Er (dR (fun xs H Q=>∃a kvs,xs=[.ref a]/\Rd H a (.dK kvs)/\∀p,H p=none->Q (.ref p) (bP H p<|.dK kvs))<|ah ta aE) σ W g R ma:=fun W1 e1 Q k=>
 ha W1 e1 _ (k.imp fun xs kx x W2 e2 hx=>by
  obtain⟨p,kv,rfl,o1,o⟩:=hx;exact⟨p,kv,rfl,o1,fun q hq=>kx q (W2.mut q (.dK kv) (W2.gnone hq)) (e2.trans (.own _ hq)) (none_of e2.h hq) ⟨W2.gnone hq,kv,ai,o⟩⟩)
theorem EVd.ev{m:Res (List<|β×α)}(h:EVd Er t σ W g R m):EV Er (zP t) σ W (sh<|isDk g R) m:=fun W1 e1 Q k=>h W1 e1 _ (k.imp fun xs kx p W2 e2 hp o=>by
 obtain⟨kv,o1,o2⟩:=o.h;refine⟨p,kv,rfl,o1,fun ob=>?_⟩
 let W3:Wd:=W2.new p (.frz ob<|.dK kv)
 have g23:Same W2.G W3.G:=cV o.g;have e3:Ext W1 W3:=⟨e2.g.trans g23,fun a u z=>by
  show bP W2.H p _ a=_;rw[ag<|bV z hp];exact e2.h _ _ z,fun q hq=>by
  show bP W2.G p _ q=_;rw[ag (fun z=>hq (by rw[z];exact hp))];exact e2.k q hq⟩
 exact kx (.ref p) W3 e3 ⟨p,ob,kv,rfl,ai,DR.same (R:=R) o2 g23⟩)
theorem ue{p:Addr}{xs:List (β×α)}(o:OwD g R W p xs)(E:Ext W0 W)(fr:W0.H p=none)(q:∀W',Ext W0 W'->Same W.G W'.G->isDk g R W'.G xs (.ref p)->(∀b,b≠p->W'.H b=W.H b/\W'.G b=W.G b)->ts D σ W'.H)(hi:σ[i]? =some (some<|.ref p):=by rfl):B9 i ts D σ W.H:=by
 obtain⟨kv,o1,o2⟩:=o.h;refine⟨p,kv,hi,o1,fun ob=>?_⟩
 let W3:Wd:=W.new p<|.frz ob<|.dK kv
 have g23:Same W.G W3.G:=cV o.g;exact q W3 ⟨E.g.trans g23,fun a u z=>by
  show bP W.H p _ a=_;rw[ag<|bV z fr];exact E.h _ _ z,fun q hq=>by
  show bP W.G p _ q=_;rw[ag (fun z=>hq (by rw[z];exact fr))];exact E.k q hq⟩ g23 ⟨p,ob,kv,rfl,ai,DR.same (R:=R) o2 g23⟩ fun b hb=>⟨ag hb,ag hb⟩
theorem wy{p:Addr}{xs:List (β×α)}(o:OwD g R W p xs)(E:Ext W0 W)(fr:W0.H p=none)(q:∀W',Ext W0 W'->Same W.G W'.G->isDk g R W'.G xs (.ref p)->(∀b,b≠p->W'.H b=W.H b/\W'.G b=W.G b)->dt ts r D σ W'.H)(hi:σ[i]? =some (some<|.ref p):=by rfl):dt (B9 i ts) r D σ W.H:=ue (D:={D with nx:=r D}) o E fr q hi
theorem wz{g:β->Key}[DecidableEq β]{Rk:Rp β}{p:Addr}{xs:List (β×Int)}{m:Res Int}{mk:Res β}{f:Int->Int->Int}(hg:∀a b,g a=g b->a=b)(hk:∀H b v,Rk H b v->v=kV (g b))(o:OwD g isI W p xs)(hj:EV Er ti σ W (sh Rk) mk)(h:EV Er te σ W (sh isI) m)
  (q:(mk.bind fun k=>(getD xs k).bind fun a=>m.bind fun b=>iT xs k<|f a b).OkE Er fun ys=>∀W',Mu W W' p->OwD g isI W' p ys->D.nx σ W'.H) (hi:σ[i]? =some (some<|.ref p):=by rfl):xm (aU i) ti te (Bi f) D σ W.H:=by
 refine⟨.ref p,hi,hj W (.refl _) _<|(Cn q).imp fun k kk x W2 e2 hx=>?_⟩;obtain⟨a,h1,h2⟩:=dD<|Cn kk;obtain⟨kv,o1,o2,o3⟩:=(o.mono e2).h;have hl:=iw hg kv xs o2 o3 k;rw[h1]at hl;obtain⟨u,hu,ru⟩:=hl;cases ru;refine⟨p,_,rfl,by rw[hk _ _ _ hx,<-hu];exact DGet.k o1,h W2 e2 _<|(Cn h2).imp fun b kb y W3 e3 hy=>?_⟩;cases hy;obtain⟨h3,h4⟩:=aO kb;have e:=e2.trans e3;have o':=o.mono e;obtain⟨kv,o1,o2,o3⟩:=o'.h;obtain⟨p1,p2⟩:=p7 hg o2 o3 (k:=k) (v:=.int<|f a b) (R:=isI) (a:=f a b) (H:=W3.G) rfl;refine⟨a,b,rfl,rfl,_,by rw[hk _ _ _ hx];exact DPut.k o1 (by rw[o2,DK];unfold Mi.cap at h3;omega),?_⟩;exact h4 (W3.mut p (.dK<|gz kv (g k)<|.int<|f a b) o'.g) (.of e o'.g) ⟨o'.g,_,ai,p1,p2⟩
theorem uf{Rk:Rp β}[Mono Rk]{m:Res (List<|β×α)}(hk:∀H b,Rk H b<|kV<|g b)(h:EV Er t σ W (sh<|isDk g R) m):IV Er (uc t) σ W (isT2 K Rk R) m:=fun W1 e1 P k=>
 h W1 e1 _ (k.imp fun d kd x W2 e2 hx=>by
  obtain⟨p,o,kv,rfl,h1,h2,h3⟩:=hx;refine⟨p,o,kv,rfl,W2.ok _ _ h1,kd _ W2 e2 fun W3 e3=>⟨fun i a ha=>?_,W3.ok _ _<|e3 _ _ h1,h2.symm⟩⟩;have hi:i<kv.length:=by have:=(Cy.mp ha).1;omega
  refine⟨⟨W3.ok _ _<|e3 _ _ h1,hi⟩,fun y H'⟨T,q,hT,ry,hq,z⟩=>⟨W3.new T<|.tup [kV q.1,q.2],by rw[z];rfl,.new _ hT,T,_,_,ry,IG ai,?_,?_⟩⟩;·rw[(h3 i q a hq ha).1];exact hk _ _
  ·exact Cp (Ib _ hT).g (Cp e3 (h3 i q a hq ha).2))
theorem BB:∀(H:Hp)(b:Tx),isS H b (kV<|DF<|sOf b):=fun _ _=>rfl
end
section
variable{α β γ δ:Type}
abbrev Rfl(α:Type):=Hp->α->List (Str×V)->Prop
def f1(f:Str)(R:Rp α):Rfl α:=fun G a fs=>∃v,fs=[(f,v)]/\R G a v
def fC(f:Str)(R:Rp α)(RF:Rfl β):Rfl (α×β):=fun G a fs=>∃v r,fs=(f,v)::r/\R G a.1 v/\RF G a.2 r
class MonoF(RF:Rfl α):Prop where
 mono:∀{G G':Hp}{a:α}{fs:List (Str×V)},Same G G'->RF G a fs->RF G' a fs
instance zkeep74{f:Str}{R:Rp α}[Mono R]:MonoF (f1 f R):=⟨fun e⟨v,h1,h2⟩=>⟨v,h1,Cp e h2⟩⟩
instance zkeep75{f:Str}{R:Rp α}{RF:Rfl β}[Mono R][MonoF RF]:MonoF (fC f R RF):=⟨fun e⟨v,r,h1,h2,h3⟩=>⟨v,r,h1,Cp e h2,MonoF.mono e h3⟩⟩
def isOb(C:Addr)(RF:Rfl α):Rp α:=fun G x v=>∃a dx fs,v=.ref a/\G a=some (.ins C dx fs)/\RF G x fs
instance zkeep76{C:Addr}{RF:Rfl α}[MonoF RF]:Mono (isOb C RF):=⟨fun e⟨a,dx,fs,h1,h2,h3⟩=>⟨a,dx,fs,h1,e _ _ h2,MonoF.mono e h3⟩⟩
def ug(RF:Rfl α)(f:Str)(R:Rp γ)(pr:α->γ):Prop:=∀G a fs,RF G a fs->∃v,fs.lookup f=some v/\R G (pr a) v
theorem Ba{f:Str}{R:Rp α}:ug (f1 f R) f R fun a=>a:=fun G a fs⟨v,h1,h2⟩=>⟨v,by rw[h1];simp[Eg],h2⟩
theorem uh{f:Str}{R:Rp α}{RF:Rfl β}:ug (fC f R RF) f R fun a=>a.1:=fun G a fs⟨v,r,h1,h2,h3⟩=>⟨v,by rw[h1];simp[Eg],h2⟩
theorem gK{f f':Str}{R:Rp γ}{R':Rp α}{RF:Rfl β}{pr:β->γ}(h:ug RF f R pr)(ne:(f==f')=false:=by decide):ug (fC f' R' RF) f R fun a=>pr a.2:=fun G a fs⟨v,r,h1,h2,h3⟩=>by
 obtain⟨u,h4,h5⟩:=h G a.2 r h3;exact⟨u,by rw[h1];simp only[Eg,ne];exact h4,h5⟩
variable{Er:Nat->Prop}{t te:TE}{σ:St}{W W0 W' W1 W2:Wd}{K:Cq}{Cl:Addr}{f m:Str}
theorem cv{RF:Rfl α}{R:Rp γ}{pr:α->γ}{mm:Res α}(c:Cls K Cl)(n:NoAttr K Cl f)(l:ug RF f R pr)(h:EV Er t σ W (sh<|isOb Cl RF) mm):EV Er (rS K t f) σ W (sh R) (mm.bind fun a=>.ok<|pr a):=fun W1 e1 Q k=>
 h W1 e1 _ ((Cn k).imp fun x kx v W2 e2⟨a,dx,fs,e,ha,r⟩=>by
  obtain⟨u,h1,h2⟩:=l _ _ _ r;exact⟨a,Cl,dx,fs,u,e,W2.ok _ _ ha,c,n,h1,kx u W2 e2 h2⟩)
abbrev Rfo(α:Type):=Wd->FS->α->List (Str×V)->Prop
def o1(f:Str)(R:Rf α):Rfo α:=fun W F a fs=>∃v,fs=[(f,v)]/\R W F a v
def oC(f:Str)(R:Rf α)(RF:Rfo β):Rfo (α×β):=fun W F a fs=>∃v r F1 F2,fs=(f,v)::r/\R W F1 a.1 v/\RF W F2 a.2 r/\(∀q,F1 q->F2 q->False)/\∀q,F q↔F1 q\/F2 q
class FrO(RF:Rfo α):Prop where
 fr:∀{W W':Wd}{F:FS}{a:α}{fs:List (Str×V)},RF W F a fs->Same W.G W'.G->(∀q,F q->W'.H q=W.H q/\W'.G q=W.G q)->RF W' F a fs
 lv:∀{W:Wd}{F:FS}{a:α}{fs:List (Str×V)},RF W F a fs->∀q,F q->W.G q=none/\W.H q≠none
instance zkeep77{f:Str}{R:Rf α}[FrT R]:FrO (o1 f R):=⟨fun⟨v,h1,h2⟩s k=>⟨v,h1,KQ h2 s k⟩,fun⟨v,h1,h2⟩=>Le h2⟩
instance zkeep78{f:Str}{R:Rf α}{RF:Rfo β}[FrT R][FrO RF]:FrO (oC f R RF):=⟨fun⟨v,r,F1,F2,h1,h2,h3,h4,h5⟩s k=>⟨v,r,F1,F2,h1,KQ h2 s fun q hq=>k q<|(h5 q).mpr (.inl hq),FrO.fr h3 s fun q hq=>k q<|(h5 q).mpr (.inr hq),h4,h5⟩,fun⟨v,r,F1,F2,h1,h2,h3,h4,h5⟩q hq=>((h5 q).mp hq).elim (Le h2 q) (FrO.lv h3 q)⟩
theorem FrO.mu{RF:Rfo α}[FrO RF]{F F':FS}{a:α}{fs:List (Str×V)}(t:RF W F a fs)(m:MuF F' W W')(dj:∀q,F q->F' q->False):RF W' F a fs:=FrO.fr t m.g fun q hq=>⟨m.h q (dj q hq) (FrO.lv t q hq).2,m.k q (FrO.lv t q hq).2⟩
def oOb(C:Addr)(RF:Rfo α):Rf α:=fun W F x v=>∃(a dx:Addr)(fs:List (Str×V))(F1:FS),v=.ref a/\W.G a=none/\W.G dx=none/\W.H a=some (.ins C dx fs)/\W.H dx=some (.own a)/\RF W F1 x fs/\¬F1 a/\¬F1 dx/\∀q,F q↔(q=a\/q=dx)\/F1 q
instance zkeep79{C:Addr}{RF:Rfo α}[FrO RF]:FrT (oOb C RF):=⟨fun⟨a,dx,u,F1,e,ga,gd,ha,hd,t,n1,n2,hF⟩s k=>by
 have ka:=k a<|(hF a).mpr (.inl<|.inl rfl);have kd:=k dx<|(hF dx).mpr (.inl<|.inr rfl);exact⟨a,dx,u,F1,e,by rw[ka.2];exact ga,by rw[kd.2];exact gd,by rw[ka.1];exact ha,by rw[kd.1];exact hd,FrO.fr t s fun q hq=>k q<|(hF q).mpr (.inr hq),n1,n2,hF⟩,fun⟨a,dx,u,F1,e,ga,gd,ha,hd,t,n1,n2,hF⟩q hq=>by
 rcases (hF q).mp hq with(rfl|rfl)|h;·exact⟨ga,nn_of ha⟩
 ·exact⟨gd,nn_of hd⟩
 ·exact FrO.lv t q h⟩
def Br(RF:Rfo α)(f:Str)(R:Rf γ)(pr:α->γ):Prop:=∀W F a fs,RF W F a fs->∃v F',fs.lookup f=some v/\R W F' (pr a) v
theorem gr{RF:Rfo α}{R:Rf γ}{pr:α->γ}{mm:Res α}(c:Cls K Cl)(n:NoAttr K Cl f)(l:Br RF f R pr)(h:EV Er t σ W (vw<|oOb Cl RF) mm):EV Er (rS K t f) σ W (vw R) (mm.bind fun a=>.ok<|pr a):=fun W1 e1 Q k=>
 h W1 e1 _ ((Cn k).imp fun x kx v W2 e2⟨F,a,dx,fs,F1,e,ga,gd,ha,hd,t,_⟩=>by
  obtain⟨u,F',h1,h2⟩:=l _ _ _ _ t;exact⟨a,Cl,dx,fs,u,e,ha,c,n,h1,kx u W2 e2 ⟨F',h2⟩⟩)
def FLn(RF:Rfo α)(f:Str)(R:Rf γ)(pr:α->γ)(st:α->γ->α):Prop:=∀W F a fs,RF W F a fs->∃v F1,fs.lookup f=some v/\R W F1 (pr a) v/\(∀q,F1 q->F q)/\∀W' F1' b,MuF F1 W W'->(∀q,F1' q->F1 q\/W.H q=none)->R W' F1' b v->∃F',RF W' F' (st a b) fs/\∀q,F' q->F q\/W.H q=none
theorem FLn.at_{RF:Rfo α}{R:Rf γ}{pr:α->γ}{st:α->γ->α}(l:FLn RF f R pr st):Br RF f R pr:=fun W F a fs h=>by
 obtain⟨v,F1,h1,h2,_⟩:=l W F a fs h;exact⟨v,F1,h1,h2⟩
theorem yn{R:Rf α}{RF:Rfo β}[FrT R][FrO RF]:FLn (oC f R RF) f R (fun a=>a.1) (fun a b=>(b,a.2)):=fun W F a fs⟨v,r,F1,F2,h1,h2,h3,h4,h5⟩=>⟨v,F1,by rw[h1];simp[Eg],h2,fun q h=>(h5 q).mpr (.inl h),fun W' F1' b m hF t=>⟨fun q=>F1' q\/F2 q,⟨v,r,F1',F2,h1,t,FrO.mu h3 m fun q a b=>h4 q b a,fun q a b=>(hF q a).elim (fun z=>h4 q z b) fun z=>(FrO.lv h3 q b).2 z,fun q=>GD⟩,fun q hq=>hq.elim (fun z=>(hF q z).imp (fun y=>(h5 q).mpr (.inl y)) id) fun z=>.inl<|(h5 q).mpr (.inr z)⟩⟩
theorem yo{f':Str}{R:Rf γ}{R':Rf α}{RF:Rfo β}{pr:β->γ}{st:β->γ->β}[FrT R'][FrO RF](l:FLn RF f R pr st)(ne:(f==f')=false:=by decide):FLn (oC f' R' RF) f R (fun a=>pr a.2) (fun a b=>(a.1,st a.2 b)):=fun W F a fs⟨v,r,F1,F2,h1,h2,h3,h4,h5⟩=>by
 obtain⟨u,F3,h6,h7,h8,h9⟩:=l W F2 a.2 r h3;refine⟨u,F3,by rw[h1];simp only[Eg,ne];exact h6,h7,fun q h=>(h5 q).mpr (.inr<|h8 q h),fun W' F3' b m hF t=>?_⟩;obtain⟨F2',t1,t2⟩:=h9 W' F3' b m hF t;exact⟨fun q=>F1 q\/F2' q,⟨v,r,F1,F2',h1,FrT.mu h2 m fun q a b=>h4 q a<|h8 q b,t1,fun q a b=>(t2 q b).elim (fun z=>h4 q a z) fun z=>(Le h2 q a).2 z,fun q=>GD⟩,fun q hq=>hq.elim (fun z=>.inl<|(h5 q).mpr (.inl z)) fun z=>(t2 q z).imp (fun y=>(h5 q).mpr (.inr y)) id⟩
theorem wA{RF:Rfo β}[FrO RF]{R:Rf γ}{pr:β->γ}{st:β->γ->β}{C:α->List TC}{mm:Res (β×(β->α))}(c:Cls K Cl)(n:NoAttr K Cl f)(l:FLn RF f R pr st)(h:EV Er t σ W (Lens W0 C<|oOb Cl RF) mm):EV Er (rS K t f) σ W (Lens W0 C R) (mm.bind fun x=>.ok (pr x.1,fun b=>x.2<|st x.1 b)):=fun W1 e1 Q k=>
 h W1 e1 _ ((Cn k).imp fun x kx v W2 e2⟨F,⟨a,dx,fs,F1,e,ga,gd,ha,hd,t,n1,n2,hF⟩,hn,up⟩=>by
  obtain⟨u,F2,h1,h2,h3,h4⟩:=l _ _ _ _ t;refine⟨a,Cl,dx,fs,u,e,ha,c,n,h1,kx u W2 e2 ⟨F2,h2,fun q hq=>hn q<|(hF q).mpr (.inr<|h3 q hq),fun W' F' b' mu hF' t'=>?_⟩⟩;obtain⟨F3,t3,h5⟩:=h4 W' F' b' mu hF' t';refine up W' (fun q=>(q=a\/q=dx)\/F3 q) _ (mu.up fun q hq=>(hF q).mpr (.inr<|h3 q hq)) (fun q hq=>?_) ⟨a,dx,fs,F3,e,by rw[mu.k a<|nn_of ha];exact ga,by rw[mu.k dx<|nn_of hd];exact gd,by rw[mu.h a (fun z=>n1<|h3 a z)<|nn_of ha];exact ha,by rw[mu.h dx (fun z=>n2<|h3 dx z)<|nn_of hd];exact hd,t3,fun z=>?_,fun z=>?_,fun q=>GD⟩
  ·rcases hq with z | z;·exact .inl ((hF q).mpr (.inl z))
   ·exact(h5 q z).imp (fun y=>(hF q).mpr (.inr y)) id
  ·exact(h5 a z).elim n1 (nn_of ha)
  ·exact(h5 dx z).elim n2 (nn_of hd))
def zR(RF:Rfo α)(f:Str)(R:Rf γ)(st:α->γ->α):Prop:=∀W W' F a fs,RF W F a fs->Same W.G W'.G->(∀q,F q->W'.H q=W.H q/\W'.G q=W.G q)->∀F1 b u,R W' F1 b u->(∀q,F1 q->F q->False)->∃F',RF W' F' (st a b) (du f u fs)/\∀q,F' q->F q\/F1 q
end
section
variable{Er:Nat->Prop}{α β γ δ ρ τ:Type}{t ta te tp:TE}{σ:St}{W W0 W' W1 W2 Wi:Wd}{K:Cq}{Cl:Addr}{f m:Str}{cs:List TC}{D:Ends}{i j k l:Nat}{r:TS}{F:FS}
def zS(K:Cq)(ta:TE):TT:=fun σ H Q=>ta σ H fun x H'=>∃k,xI K x H' k/\Q k H'
theorem kU{X:Cx}{a:Expr}(hK:X.K=K)(ha:PE X a ta)(he:∀whole,isTrue a X.env whole=(do let v <-whole;standAt a.pos;holding [v] (truthy v)):=by intro _;rfl):PT X a (zS K ta):=by
 subst hK;exact rO ha he
theorem pC{R:Rp α}{m:Res (List α)}(h:EV Er ta σ W (pk R) m):TV Er (zS K ta) σ W (m.bind fun a=>.ok<|!a.isEmpty):=fun W1 e1 Q q=>
 h W1 e1 _ ((Cn q).imp fun a ka v W2 e2 hv=>by
  obtain⟨p,vs,rfl,h1,h2⟩:=hv;refine⟨!a.isEmpty,.inl ⟨vs,Ep h1,?_⟩,ka W2 e2⟩;have:=h2.1;cases a<;>cases vs<;>first|rfl|cases this)
theorem Bb{R:Rf α}:zR (o1 f R) f R fun _ b=>b:=fun W W' F a fs⟨v,h1,h2⟩s k F1 b u t dj=>⟨F1,⟨u,by rw[h1];show(if f=f then _ else _)=_;rw[if_pos rfl],t⟩,fun q hq=>.inr hq⟩
theorem yp{f':Str}{R:Rf γ}{R':Rf α}{RF:Rfo β}{st:β->γ->β}[FrT R'](l:zR RF f R st)(ne:f'≠f:=by decide):zR (oC f' R' RF) f R fun a b=>(a.1,st a.2 b):=fun W W' F a fs⟨v,r,F1,F2,h1,h2,h3,h4,h5⟩s k F3 b u t dj=>by
 obtain⟨F',t1,t2⟩:=l W W' F2 a.2 r h3 s (fun q hq=>k q<|(h5 q).mpr (.inr hq)) F3 b u t fun q x y=>dj q x<|(h5 q).mpr (.inr y);refine⟨fun q=>F1 q\/F' q,⟨v,du f u r,F1,F',by rw[h1];show(if f'=f then _ else _)=_;rw[if_neg ne],KQ h2 s fun q hq=>k q<|(h5 q).mpr (.inl hq),t1,fun q x y=>(t2 q y).elim (h4 q x) fun z=>dj q z<|(h5 q).mpr (.inl x),fun q=>GD⟩,fun q hq=>hq.elim (fun z=>.inl<|(h5 q).mpr (.inl z)) fun z=>(t2 q z).imp (fun y=>(h5 q).mpr (.inr y)) id⟩
def zT(RF:Rfo α):Prop:=∀W F a fs,RF W F a fs->fs.length<1000
theorem qQ{RF:Rfo τ}[FrO RF]{R:Rf γ}[FrT R]{st:τ->γ->τ}{x:τ}{v:V}{mm:Res γ}(c:Cls K Cl)(n:NoAttr K Cl f)(hl:zT RF)(l:zR RF f R st)(S:Sep W0 W cs)(E:Ext W0 W)(hc:cs[k]? =some (tc (oOb Cl RF) x v))(h:wk Er te σ W R mm)(q:mm.OkE Er fun b=>∀W',Same W.G W'.G->Ext W0 W'->Sep W0 W' (cs.set k<|tc (oOb Cl RF) (st x b) v)->D.nx σ W'.H)(hi:σ[i]? =some (some v):=by rfl):vq K (aU i) te f D σ W.H:=
 h W (.refl _) _ (q.imp fun b kb u W2 F1 e2 hF1 t1=>by
  obtain⟨Fs,s⟩:=S;obtain⟨a,dx,fs,F2,e,ga,gd,ha,hd,t,n1,n2,hF⟩:=(show oOb Cl RF W2 (Fs k) x v from FrT.ext (s.el k _ hc) e2)
  subst e;have kk:k<cs.length:=(Cy.mp hc).1;have hFa:Fs k a:=(hF a).mpr (.inl<|.inl rfl);have hFd:Fs k dx:=(hF dx).mpr (.inl<|.inr rfl);have dj1:∀q,F1 q->Fs k q->False:=fun q h1 h2=>(s.lv h2).2 (hF1 q h1);have mu:MuF (Fs k) W (W2.mut a (.ins Cl dx<|du f u fs) ga):=(e2.muF (F:=Fs k)).trans (MuF.of (F:=Fs k) hFa ga) fun q hq=>.inl hq;obtain⟨F',t3,h3⟩:=l W2 (W2.mut a (.ins Cl dx<|du f u fs) ga) F2 x fs t (.refl _) (fun q hq=>⟨ag fun z=>n1<|z▸hq,rfl⟩) F1 b u (KQ t1 (.refl _) fun q hq=>⟨ag fun z=>dj1 q hq<|z▸hFa,rfl⟩) fun q h1 h2=>dj1 q h1<|(hF q).mpr (.inr h2);have nda:dx≠a:=fun z=>by rw[z,ha]at hd;cases hd
  refine⟨.ref a,hi,a,Cl,dx,fs,rfl,ha,c,n,hl _ _ _ _ t,kb (W2.mut a (.ins Cl dx<|du f u fs) ga) e2.g ((E.trans e2).mut (s.nw k a hFa) ga) ?_⟩;refine s.put (F:=fun q=>(q=a\/q=dx)\/F' q) E mu (fun q hq=>?_) ⟨a,dx,du f u fs,F',rfl,ga,gd,ai,(ag nda).trans hd,t3,fun z=>?_,fun z=>?_,fun q=>GD⟩ kk
  ·rcases hq with(rfl | rfl) | hq;·exact .inl hFa
   ·exact .inl hFd
   ·exact(h3 q hq).imp (fun y=>(hF q).mpr (.inr y)) (hF1 q)
  ·exact(h3 a z).elim n1 fun y=>dj1 a y hFa
  ·exact(h3 dx z).elim n2 fun y=>dj1 dx y hFd)
variable{C:α->List TC}
theorem wB{R:Rp β}[Mono R]{mp:Res (List β×(List β->α))}{m:Res (List β)}(E:Ext W0 W)(hp:EV Er tp σ W (Lens W0 C<|oL<|fz R) mp)(h:EV Er te σ W (pk R) m)(q:(mp.bind fun p=>m.bind fun x=>(wj p.1 x).bind fun b=>.ok<|p.2 b).OkE Er fun a'=>∀W',Same W.G W'.G->Ext W0 W'->Sep W0 W' (C a')->D.nx σ W'.H):
  aT (dU K "list" lb tp<|ah te aE) D σ W.H:=hp W (.refl _) _ ((Cn q).imp fun p kp u W1 e1 l=>by
 obtain⟨p0,vs0,rfl,hH0,_,_⟩:=Lens.lf (E.trans e1) l;refine⟨.inl ⟨rfl,vs0,Ep hH0⟩,h W1 e1 _ ((Cn kp).imp fun x kx v W2 e2 hv=>?_)⟩;obtain⟨p1,vs,ep,hH,lr,hg,back⟩:=Lens.lf ((E.trans e1).trans e2) (Dx e2 l);cases ep;obtain⟨h3,h4⟩:=aO (Cn kx);obtain⟨b,us,rfl,g1,g2⟩:=hv;obtain⟨b1,b2⟩:=back (vs++us) (p.1++x) (LR.app lr g2);exact⟨p0,b,vs,us,rfl,rfl,hH,g1,by rw[lr.1,g2.1];exact iS h3,h4 (W2.mut p0 (.lst (vs++us)) hg) (e1.trans e2).g b1 b2⟩)
theorem qR{R:Rp β}[Mono R]{mp:Res (List β×(List β->α))}{m:Res (List β)}(E:Ext W0 W)(hp:EV Er tp σ W (Lens W0 C<|oL<|fz R) mp)(h:EV Er te σ W (pk R) m)(q:(mp.bind fun p=>m.bind fun x=>(wj p.1 x).bind fun b=>.ok<|p.2 b).OkE Er fun a'=>∀W',Same W.G W'.G->Ext W0 W'->Sep W0 W' (C a')->r D σ W'.H):
  dt (aT<|dU K "list" lb tp<|ah te aE) r D σ W.H:=wB (D:={D with nx:=r D}) E hp h q
end
section
variable{Er:Nat->Prop}{α β γ δ ε ζ ρ τ υ:Type}{ta te tp:TE}{t:TA}{σ:St}{W W0 W' W1 W2 Wi:Wd}{K:Cq}{Cl:Addr}{f m:Str}{cs:List TC}{D:Ends}{i j k l:Nat}{r:TS}{F:FS}{E:XK}
abbrev Raw(α:Type):=Wd->α->List V->Prop
def wN:Raw Unit:=fun _ _ us=>us=[]
def wC(R:Rw α)(RA:Raw β):Raw (α×β):=fun W a us=>∃v r,us=v::r/\R W a.1 v/\RA W a.2 r
class MonoR(RA:Raw α):Prop where
 mono:∀{W W':Wd}{a:α}{us:List V},Ext W W'->RA W a us->RA W' a us
instance zkeep80:MonoR wN:=⟨fun _ h=>h⟩
instance zkeep81{R:Rw α}{RA:Raw β}[MonoW R][MonoR RA]:MonoR (wC R RA):=⟨fun e⟨v,r,h1,h2,h3⟩=>⟨v,r,h1,Dx e h2,MonoR.mono e h3⟩⟩
def yq(Er:Nat->Prop)(t:TA)(σ:St)(W:Wd)(RA:Raw α)(m:Res α):Prop:=∀W1,Ext W W1->∀Q:List V->Hp->Prop,m.OkE Er (fun a=>∀us W2,Ext W1 W2->RA W2 a us->Q us W2.H)->t σ W1.H Q
theorem d5:yq Er aE σ W wN (.ok ()):=fun W1 _ Q k=>k [] W1 (.refl _) rfl
theorem dv{R:Rw α}{RA:Raw β}[MonoW R]{m:Res α}{ma:Res β}(h:EV Er te σ W R m)(ht:yq Er t σ W RA ma):yq Er (ah te t) σ W (wC R RA) (m.bind fun a=>ma.bind fun b=>.ok (a,b)):=fun W1 e1 Q k=>
 h W1 e1 _ ((Cn k).imp fun a ka v W2 e2 hv=>ht W2 (e1.trans e2) _<|(Cn ka).imp fun b kb us W3 e3 hu=>kb (v::us) W3 (e2.trans e3) ⟨v,us,rfl,Dx e3 hv,hu⟩)
def i7(RA:Raw α)(rt:Rt ρ)(m:α->Res ρ):Sp:=fun vs H Q _=>∃(W:Wd)(a:α),W.H=H/\RA W a vs/\∃Er:Nat->Prop,(m a).OkE Er fun r=>rt W r Q
section
variable{RA:Raw α}{ma:Res α}
theorem ui{R:Rp ρ}{mf:α->Res ρ}(h:yq Er t σ W RA ma):EV Er (aI (i7 RA (rs R) mf) [] E t) σ W (sh R) (ma.bind fun a=>mf a):=fun W1 e1 Q q=>
 h W1 e1 _ ((Cn q).imp fun a ka us W2 e2 hu=>⟨W2,a,rfl,by rw[Dh];exact hu,Er,ka.imp fun r kr u W' e hv=>kr u W' (e2.trans e) hv⟩)
end
def yW(RF:Rfo α)(m:Str):Prop:=∀W F a fs,RF W F a fs->fs.lookup m=none
theorem hU{R:Rf α}(h:(m==f)=false:=by decide):yW (o1 f R) m:=fun W F a fs⟨v,h1,_⟩=>by rw[h1];simp only[Eg,h]
theorem bZ{R:Rf α}{RF:Rfo β}(g:yW RF m)(h:(m==f)=false:=by decide):yW (oC f R RF) m:=fun W F a fs⟨v,r,F1,F2,h1,h2,h3,_⟩=>by rw[h1];simp only[Eg,h];exact g _ _ _ _ h3
theorem pD{RF:Rfo τ}{C:Addr}(h:yW RF m):HasM (oOb C RF) C m:=⟨fun⟨a,dx,u,F1,e,_,_,ha,_,t,_⟩=>⟨a,dx,_,e,ha,h _ _ _ _ t⟩⟩
section
variable{RF:Rfo τ}[FrO RF]{RA:Raw α}[MonoR RA]{ma:Res α}{mo:Res τ}
theorem jA{R:Rp ρ}{mf:τ×α->Res ρ}(hm:yW RF m)(h:EV Er ta σ W (vw<|oOb Cl RF) mo)(ht:yq Er t σ W RA ma):EV Er (eU Cl m (i7 (wC (vw<|oOb Cl RF) RA) (rs R) mf) [] E ta t) σ W (sh R) (mo.bind fun x=>ma.bind fun a=>mf (x,a)):=fun W1 e1 Q q=>
 h W1 e1 _ ((Cn q).imp fun x kx v W2 e2 hv=>by
  obtain⟨F,a,dx,fs,F1,e,_,_,ha,_,t1,_⟩:=id hv;refine⟨a,dx,fs,e,ha,hm _ _ _ _ t1,ht W2 (e1.trans e2) _ ((Cn kx).imp fun y ky us W3 e3 hu=>⟨W3,(x,y),rfl,⟨v,us,by rw[Dh],Dx e3 hv,hu⟩,Er,ky.imp fun r kr u W' e hw=>kr u W' ((e2.trans e3).trans e) hw⟩)⟩)
theorem nY{R:Rp ρ}{mf:τ×α->Res (List ρ)}(hm:yW RF m)(h:EV Er ta σ W (vw<|oOb Cl RF) mo)(ht:yq Er t σ W RA ma):EVo Er (eU Cl m (i7 (wC (vw<|oOb Cl RF) RA) (ro R) mf) [] E ta t) σ W R (mo.bind fun x=>ma.bind fun a=>mf (x,a)):=fun W1 e1 Q q=>
 h W1 e1 _ ((Cn q).imp fun x kx v W2 e2 hv=>by
  obtain⟨F,a,dx,fs,F1,e,_,_,ha,_,t1,_⟩:=id hv;refine⟨a,dx,fs,e,ha,hm _ _ _ _ t1,ht W2 (e1.trans e2) _ ((Cn kx).imp fun y ky us W3 e3 hu=>⟨W3,(x,y),rfl,⟨v,us,by rw[Dh],Dx e3 hv,hu⟩,Er,ky.imp fun r kr p W' e hp o=>kr p W' ((e2.trans e3).trans e) (none_of (e2.trans e3).h hp) o⟩)⟩)
end
section
variable{R:Rf τ}[FrT R]{RA:Ra α}{RR:Rp ρ}{x:τ}{v:V}{ma:Res α}{mf:τ->α->Res (τ×ρ)}{Q:VK}
theorem yr(hm:HasM R Cl m)(S:Sep W0 W cs)(E0:Ext W0 W)(hc:cs[k]? =some (tc R x v))(hi:σ[i]? =some (some v))(ha:pz Er t σ W RA ma)
  (q:(ma.bind fun a=>mf x a).OkE Er fun r=>∀u W',Ext W0 W'->Same W.G W'.G->Sep W0 W' (cs.set k<|tc R r.1 v)->RR W'.G r.2 u->Q u W'.H):eU Cl m (rq R RA RR mf) [] E (aU i) t σ W.H Q:=by
 obtain⟨Fs,s⟩:=id S;obtain⟨a,dx,fs,e,h1,h2⟩:=hm.at_<|s.el k _ hc;refine⟨v,hi,a,dx,fs,e,h1,h2,ha W (.refl _) _<|(Cn q).imp fun b kb us W2 e2 hu=>?_⟩;obtain⟨W1,F,x1,t1,n1,up⟩:=(S.ext e2).call (E0.trans e2) hc;refine⟨W1,W2,F,x,v,b,us,rfl,by rw[Dh],x1,n1,t1,hu,Er,kb.imp fun r kr u W' F' e' hs hF' t' hr=>?_⟩;obtain⟨z1,z2⟩:=up W' F' r.1 e' hF' t';exact kr u W' z1 (e2.g.trans hs) z2 hr
theorem mE(hm:HasM R Cl m)(S:Sep W0 W cs)(E0:Ext W0 W)(hc:cs[k]? =some (tc R x v))(hi:σ[i]? =some (some v))(ha:pz Er t σ W RA ma)
  (q:(ma.bind fun a=>mf x a).OkE Er fun r=>∀W',Same W.G W'.G->Ext W0 W'->Sep W0 W' (cs.set k<|tc R r.1 v)->D.nx σ W'.H):aT (eU Cl m (rq R RA RR mf) [] E (aU i) t) D σ W.H:=
 yr (Q:=fun _ H=>D.nx σ H) hm S E0 hc hi ha (q.imp fun r kr u W' e hs S' _=>kr W' hs e S')
theorem nZ{r2:TS}(hm:HasM R Cl m)(S:Sep W0 W cs)(E0:Ext W0 W)(hc:cs[k]? =some (tc R x v))(hi:σ[i]? =some (some v))(ha:pz Er t σ W RA ma)
  (q:(ma.bind fun a=>mf x a).OkE Er fun r=>∀W',Same W.G W'.G->Ext W0 W'->Sep W0 W' (cs.set k<|tc R r.1 v)->r2 D σ W'.H):dt (aT<|eU Cl m (rq R RA RR mf) [] E (aU i) t) r2 D σ W.H:=
 mE (D:={D with nx:=r2 D}) hm S E0 hc hi ha q
end
end
section
variable{Er:Nat->Prop}{α β γ δ ε ζ ρ τ υ:Type}{ta te tp:TE}{t:TA}{σ:St}{W W0 W' W1 W2 Wi:Wd}{K:Cq}{Cl:Addr}{f m:Str}{cs:List TC}{D:Ends}{i j k l:Nat}{r:TS}{F:FS}{E:XK}
def pE(C:Addr)(RF:Rfo τ)(RA:Raw α)(m:α->Res τ):Sp:=fun vs H Q _=>∃(W0 W:Wd)(a dx:Addr)(x:α)(us:List V),W.H=H/\vs=.ref a::us/\Ext W0 W/\W0.H a=none/\W0.H dx=none/\dx≠a/\W.G a=none/\W.G dx=none/\W.H a=some (.ins C dx [])/\W.H dx=some (.own a)/\RA W0 x us/\∃Er:Nat->Prop,(m x).OkE Er fun b=>∀W' F,Ext W0 W'->(∀q,F q->W0.H q=none)->oOb C RF W' F b (.ref a)->Q .non W'.H
theorem uj{RF:Rfo τ}{RA:Raw α}{ma:Res α}{mf:α->Res τ}(h:yq Er t σ W RA ma):wk Er (oF Cl (pE Cl RF RA mf) [] E t) σ W (oOb Cl RF) (ma.bind fun a=>mf a):=fun W1 e1 Q q=>
 h W1 e1 _ ((Cn q).imp fun a ka us W3 e3 hu=>by
  intro p dx hp hd ne;have gd:=W3.gnone hd;have gp:=W3.gnone hp
  let W4:Wd:=(W3.mut dx (.own p) gd).mut p (.ins Cl dx []) gp
  have n4:(W3.mut dx (.own p) gd).H p=none:=by show bP W3.H dx _ p=none;rw[ag<|E8 ne];exact hp
  have E4:Ext W3 W4:=(KZ _ hd).trans (KZ (W:=W3.mut dx (.own p) gd) _ n4);have hp4:W4.H p=some (.ins Cl dx []):=ai;have hd4:W4.H dx=some (.own p):=by show bP (bP W3.H dx _) p _ dx=_;rw[ag ne,ai]
  exact⟨W3,W4,p,dx,a,us,rfl,by rw[Dh],E4,hp,hd,ne,gp,gd,hp4,hd4,hu,Er,ka.imp fun b kb W5 F e5 hF t=>⟨rfl,kb (.ref p) W5 F (e3.trans e5) (fun q hq=>none_of e3.h (hF q hq)) t⟩⟩)
def oRaw(C a dx:Addr)(fs:List (Str×V)):Rf Unit:=fun W F _ v=>v=.ref a/\W.G a=none/\W.G dx=none/\W.H a=some (.ins C dx fs)/\W.H dx=some (.own a)/\dx≠a/\∀q,F q↔q=a\/q=dx
instance zkeep82{C a dx:Addr}{fs:List (Str×V)}:FrT (oRaw C a dx fs):=⟨fun⟨e,ga,gd,ha,hd,ne,hF⟩s k=>by
 have ka:=k a<|(hF a).mpr (.inl rfl);have kd:=k dx<|(hF dx).mpr (.inr rfl);exact⟨e,by rw[ka.2];exact ga,by rw[kd.2];exact gd,by rw[ka.1];exact ha,by rw[kd.1];exact hd,ne,hF⟩,fun⟨e,ga,gd,ha,hd,ne,hF⟩q hq=>by
 rcases (hF q).mp hq with rfl|rfl;·exact⟨ga,nn_of ha⟩
 ·exact⟨gd,nn_of hd⟩⟩
theorem uk{a dx:Addr}{fs:List (Str×V)}{R:Rf γ}[FrT R]{mm:Res γ}(c:Cls K Cl)(n:NoAttr K Cl f)(hl:fs.length<1000)(S:Sep W0 W (tc (oRaw Cl a dx fs) () (.ref a)::cs))(E0:Ext W0 W)(h:wk Er te σ W R mm)(q:mm.OkE Er fun b=>∀u W',Ext W0 W'->Same W.G W'.G->Sep W0 W' (tc (oRaw Cl a dx<|du f u fs) () (.ref a)::(cs++[tc R b u]))->D.nx σ W'.H)(hi:σ[i]? =some (some<|.ref a):=by rfl):vq K (aU i) te f D σ W.H:=
 h W (.refl _) _ (q.imp fun b kb u W2 F1 e2 hF1 t1=>by
  have S2:=S.add E0 e2 hF1 t1;obtain⟨Fs,s⟩:=S2;obtain⟨_,ga,gd,ha,hd,ne,hF⟩:=(show oRaw Cl a dx fs W2 (Fs 0) () (.ref a)from s.el 0 _ rfl)
  have hFa:Fs 0 a:=(hF a).mpr (.inl rfl);have E2:=E0.trans e2;refine⟨.ref a,hi,a,Cl,dx,fs,rfl,ha,c,n,hl,kb u (W2.mut a (.ins Cl dx (du f u fs)) ga) (E2.mut (s.nw 0 a hFa) ga) e2.g ?_⟩;exact s.put (i:=0) (F:=Fs 0) E2 (MuF.of (F:=Fs 0) hFa ga) (fun q hq=>.inl hq) (show oRaw Cl a dx (du f u fs) _ (Fs 0) () (.ref a)from⟨rfl,ga,gd,ai,(ag ne).trans hd,ne,hF⟩) (by simp))
theorem jB{a dx:Addr}{fs:List (Str×V)}{R:Rf γ}[FrT R]{mm:Res γ}(c:Cls K Cl)(n:NoAttr K Cl f)(hl:fs.length<1000)(S:Sep W0 W (tc (oRaw Cl a dx fs) () (.ref a)::cs))(E0:Ext W0 W)(h:wk Er te σ W R mm)(q:mm.OkE Er fun b=>∀u W',Ext W0 W'->Same W.G W'.G->Sep W0 W' (tc (oRaw Cl a dx<|du f u fs) () (.ref a)::(cs++[tc R b u]))->r D σ W'.H)(hi:σ[i]? =some (some<|.ref a):=by rfl):dt (vq K (aU i) te f) r D σ W.H:=uk (D:={D with nx:=r D}) c n hl S E0 h q hi
theorem Bc{a dx:Addr}{f1 f2 f3 f4:Str}{R1:Rf α}{R2:Rf β}{R3:Rf γ}{R4:Rf δ}[FrT R1][FrT R2][FrT R3][FrT R4]{x1:α}{x2:β}{x3:γ}{x4:δ}{u1 u2 u3 u4:V}(S:Sep W0 W [tc (oRaw Cl a dx [(f1,u1),(f2,u2),(f3,u3),(f4,u4)]) () (.ref a),tc R1 x1 u1,tc R2 x2 u2,tc R3 x3 u3,tc R4 x4 u4]):∃F,(∀q,F q->W0.H q=none)/\oOb Cl (oC f1 R1<|oC f2 R2<|oC f3 R3<|o1 f4 R4) W F (x1,x2,x3,x4) (.ref a):=by
 obtain⟨Fs,s⟩:=S;obtain⟨_,ga,gd,ha,hd,ne,hF⟩:=(show oRaw Cl a dx _ W (Fs 0) () (.ref a)from s.el 0 _ rfl)
 have hFa:Fs 0 a:=(hF a).mpr (.inl rfl);have hFd:Fs 0 dx:=(hF dx).mpr (.inr rfl);have d0:∀(j:Nat)q,Fs 0 q->Fs (j+1) q->False:=fun j q h1 h2=>by have:=s.dj 0 (j+1) q h1 h2;omega
 have dj:∀(i j:Nat)q,i≠j->Fs i q->Fs j q->False:=fun i j q h h1 h2=>h<|s.dj i j q h1 h2;refine⟨fun q=>(q=a\/q=dx)\/(Fs 1 q\/(Fs 2 q\/(Fs 3 q\/Fs 4 q))),fun q hq=>?_,a,dx,_,fun q=>Fs 1 q\/(Fs 2 q\/(Fs 3 q\/Fs 4 q)),rfl,ga,gd,ha,hd,⟨u1,_,Fs 1,fun q=>Fs 2 q\/(Fs 3 q\/Fs 4 q),rfl,s.el 1 _ rfl,⟨u2,_,Fs 2,fun q=>Fs 3 q\/Fs 4 q,rfl,s.el 2 _ rfl,⟨u3,_,Fs 3,Fs 4,rfl,s.el 3 _ rfl,⟨u4,rfl,s.el 4 _ rfl⟩,fun q=>dj 3 4 q (by decide),fun q=>GD⟩,fun q h1 h2=>h2.elim (dj 2 3 q (by decide) h1) (dj 2 4 q (by decide) h1),fun q=>GD⟩,fun q h1 h2=>h2.elim (dj 1 2 q (by decide) h1) fun h=>h.elim (dj 1 3 q (by decide) h1) (dj 1 4 q (by decide) h1),fun q=>GD⟩,fun z=>?_,fun z=>?_,fun q=>GD⟩
 ·rcases hq with(rfl | rfl) | h | h | h | h;·exact s.nw 0 _ hFa
  ·exact s.nw 0 _ hFd
  ·exact s.nw 1 _ h
  ·exact s.nw 2 _ h
  ·exact s.nw 3 _ h
  ·exact s.nw 4 _ h
 ·exact z.elim (d0 0 a hFa) fun z=>z.elim (d0 1 a hFa) fun z=>z.elim (d0 2 a hFa)<|d0 3 a hFa
 ·exact z.elim (d0 0 dx hFd) fun z=>z.elim (d0 1 dx hFd) fun z=>z.elim (d0 2 dx hFd)<|d0 3 dx hFd
theorem EV.trf{R:Rp α}{m:Res α}[Mono R](h:EV Er te σ W (sh R) m):wk Er te σ W (fz R) m:=fun W1 e1 Q q=>h W1 e1 Q<|q.imp fun a ka v W2 e2 hv=>ka v W2 (fun _=>False) e2 (fun q hq=>hq.elim) ⟨fun _ z=>z,hv⟩
def aL(R:Rp α):Ra α:=fun G a us=>∃v,us=[v]/\R G a v
instance zkeep83{R:Rp α}[Mono R]:MonoA (aL R):=⟨fun e⟨v,h1,h2⟩=>⟨v,h1,Cp e h2⟩⟩
theorem jC{R:Rp α}{m:Res α}(h:EV Er te σ W (sh R) m):pz Er (ah te aE) σ W (aL R) m:=fun W1 e1 Q q=>h W1 e1 _<|q.imp fun a ka v W2 e2 hv=>ka [v] W2 e2 ⟨v,rfl,hv⟩
def qS(C:Addr)(ns:List Str):Sp:=fun vs H Q _=>∃(a dx:Addr)(us:List V),vs=.ref a::us/\us.length=ns.length/\H a=some (.ins C dx [])/\Q .non (bP H a<|.ins C dx<|ns.zip us)
def Al(RA:Ra α)(RF:Rfl α)(ns:List Str):Prop:=∀G a us,RA G a us->us.length=ns.length/\RF G a (ns.zip us)
theorem yt{R:Rp α}:Al (aL R) (f1 f R) [f]:=fun G a us⟨v,h1,h2⟩=>by subst h1;exact⟨rfl,v,rfl,h2⟩
theorem gL{R:Rp α}{RA:Ra β}{RF:Rfl β}{ns:List Str}(h:Al RA RF ns):Al (aC R RA) (fC f R RF) (f::ns):=fun G a us⟨v,r,h1,h2,h3⟩=>by
 subst h1;obtain⟨h4,h5⟩:=h G a.2 r h3;exact⟨by simp[h4],v,_,rfl,h2,h5⟩
theorem jD{RA:Ra α}[MonoA RA]{RF:Rfl α}[MonoF RF]{ns:List Str}{ma:Res α}(l:Al RA RF ns)(h:pz Er t σ W RA ma):EV Er (oF Cl (qS Cl ns) [] E t) σ W (sh<|isOb Cl RF) ma:=fun W1 e1 Q q=>
 h W1 e1 _ (q.imp fun a ka us W3 e3 hu=>by
  intro p dx hp hd ne;have gd:=W3.gnone hd;have gp:=W3.gnone hp;obtain⟨h4,h5⟩:=l _ _ _ hu;refine⟨p,dx,us,by rw[Dh],h4,ai,rfl,?_⟩;rw[oo]
  let W4:Wd:=(W3.mut dx (.own p) gd)
  have n4:W4.H p=none:=by show bP W3.H dx _ p=none;rw[ag<|E8 ne];exact hp
  have E4:Ext W3 W4:=KZ _ hd;have E5:Ext W4 (W4.new p (.ins Cl dx (ns.zip us))):=Ib _ n4;exact ka (.ref p) (W4.new p (.ins Cl dx (ns.zip us))) ((e3.trans E4).trans E5) ⟨p,dx,_,rfl,ai,MonoF.mono (E4.trans E5).g h5⟩)
end
end Wb
namespace L2
open PySem PySem.Spec PyProof.Rows
theorem wD{X:Cx}:xK X .Sub (Bi fun i j=>i-j):=xN
end L2
namespace Wb
open PySem L2 Mi
section
variable{Er:Nat->Prop}{α β γ ρ τ:Type}{t:TA}{σ:St}{W W0 W' Wi:Wd}{K:Cq}{Cl:Addr}{f m:Str}{cs:List TC}{D:Ends}{i j k:Nat}{E:XK}
def FLe(RF:Rfo α)(n:Nat):Prop:=∀W F a fs,RF W F a fs->fs.length=n
theorem Bd{R:Rf α}:FLe (o1 f R) 1:=fun W F a fs⟨v,h,_⟩=>by rw[h];rfl
theorem yu{R:Rf α}{RF:Rfo β}{n:Nat}(g:FLe RF n):FLe (oC f R RF) (n+1):=fun W F a fs⟨v,r,F1,F2,h1,h2,h3,_⟩=>by rw[h1,Dr,g _ _ _ _ h3]
theorem FLe.lt{RF:Rfo α}{n:Nat}(g:FLe RF n)(h:n<1000:=by decide):zT RF:=fun W F a fs z=>by rw[g _ _ _ _ z];exact h
theorem gs{g:Str}{v x:V}{r:List (Str×V)}(h:g≠f):du f v ((g,x)::r)=(g,x)::du f v r:=if_neg h
theorem hW{v:V}:du f v []=[(f,v)]:=rfl
theorem um{R:Rf τ}[FrT R]{RR:Rp ρ}{u:ρ->Dat}{RA:Ra α}{x:τ}{v:V}{ma:Res α}{mf:τ->α->Res (τ×ρ)}{csx:List Addr}{σ':V->St}(hu:qG K RR u)(hm:HasM R Cl m)(S:Sep W0 W cs)(E0:Ext W0 W)(hc:cs[k]? =some (tc R x v))(hi:σ[i]? =some (some v))(ha:pz Er t σ W RA ma)(hE:Esc Er csx E W)(q:(ma.bind fun a=>(mf x a).bind fun r=>.ok (r.1,u r.2)).OkE Er fun r=>∀w W',Ext W0 W'->Same W.G W'.G->Sep W0 W' (cs.set k<|tc R r.1 v)->isU K W'.G r.2 w->D.nx (σ' w) W'.H)(hσ:∀u,σ.set j (some u)=σ' u:=by intro _;rfl):bD (eU Cl m (uX R RA csx RR mf) [] E (aU i) t) (aH j) D σ W.H:=
 xv (Q:=fun u H=>D.nx (σ.set j<|some u) H) hm S E0 hc hi ha hE (by
  cases ma with
  |ok a=>
   show(mf x a).OkE Er _;have q:((mf x a).bind fun r=>CB (r.1,u r.2)).OkE Er _:=q;refine(Cn q).imp fun r kr w W' e' hs S' hr=>?_;have:=kr w W' e' hs S'<|hu _ _ _ hr;rw[<-hσ]at this;exact this
  |err j=>exact q
  |stuck=>exact q)
end
theorem aZ{X:Cx}{K:Cq}{e:Expr}{f:Str}{pos:Pos}{ta:TE}(h:X.K=K)(he:PE X e ta)(hb:attributeBase e f X.env (eval e X.env)=eval e X.env):PE X (.Attribute e f pos) (rS K ta f):=h▸xM he hb
section
variable{Er:Nat->Prop}{α β:Type}{t:TE}{σ:St}{W:Wd}{K:Cq}
def BC(J:It)(W:Wd)(R:Rp α)(xs:List α):Prop:=∀W1:Wd,Ext W W1->(∀(i:Nat)(a:α),xs[i]? =some a->J.go i W1.H/\∀x H',J.yld i W1.H x H'->∃W2:Wd,W2.H=H'/\Ext W1 W2/\R W2.G a x)/\J.stop xs.length W1.H
def Am(Er:Nat->Prop)(wi:TI)(σ:St)(W:Wd)(R:Rp α)(m:Res (List α)):Prop:=∀W1,Ext W W1->∀P:It->Hp->Prop,m.OkE Er (fun xs=>∀J W2,Ext W1 W2->BC J W2 R xs->P J W2.H)->wi σ W1.H P
theorem mF{R:Rp α}[Mono R]{m:Res (List α)}(h:EV Er t σ W (pk R) m):Am Er (lP K t) σ W R m:=fun W1 e1 P k=>
 h W1 e1 _ (k.imp fun xs kx v W2 e2 hv=>by
  obtain⟨p,vs,rfl,h1,h2⟩:=hv;refine⟨p,rfl,⟨vs,Ep h1⟩,kx _ W2 e2 fun W3 e3=>⟨fun i a ha=>?_,vs,Ep (e3.h _ _ h1),by rw[h2.1];exact CK _⟩⟩;obtain⟨x,hx,hr⟩:=h2.get ha;refine⟨⟨vs,x,Ep (e3.h _ _ h1),hx⟩,fun y H'⟨z1,z2⟩=>⟨W3,z1.symm,.refl _,?_⟩⟩;have:=z2 vs (Ep (e3.h _ _ h1));rw[hx]at this;cases this;exact Cp e3.g hr)
theorem mG{cap:List (Option Nat)}{wi:TI}{g:TG}{te:TE}{R:Rp α}{R':Rp β}[Mono R']{m:Res (List α)}{f:α->Res β}(hi:Am Er wi σ W R m)
  (hb:∀(W1:Wd)(a:α)(v:V),Ext W W1->R W1.G a v->∀Q:VK,(f a).OkE Er (fun b=>∀u W2,Ext W1 W2->R' W2.G b u->Q u W2.H)->g v (aW cap σ) W1.H fun σ2 H2=>Keep (aW cap σ) σ2/\te σ2 H2 Q):
  EVo Er (jk cap wi g xU te) σ W R' (m.bind fun xs=>bo xs f):=fun W1 e1 Q k=>by
 refine hi W1 e1 _<|(Cn k).imp fun xs kx J W2 e2 hy=>?_;obtain⟨hl,kx⟩:=aO<|Cn kx;refine⟨fun i n ys H=>n=xs.length-i/\i<=xs.length/\ys.length<=i/\∃(W3:Wd)(bs:List β),W3.H=H/\Ext W2 W3/\LR R' W3.G bs ys/\(ik f<|xs.drop i).OkE Er (fun r=>∀p W4,Ext W1 W4->W1.H p=none->Ow R' W4 p (bs++r)->Q (.ref p) W4.H),⟨xs.length,by simp,by simp,by simp,W2,[],rfl,.refl _,.nil,?_⟩,?_⟩;·simpa using kx
 ·rintro i n ys H ⟨rfl,hi1,hyl,W3,bs,rfl,e3,lr,q⟩;refine⟨by rw[DK];unfold Mi.cap at hl;omega,?_⟩;by_cases hlt:i<xs.length
  ·obtain⟨a,ha⟩:∃a,xs[i]? =some a:=⟨xs[i],by simp[hlt]⟩
   obtain⟨h1,h2⟩:=(hy W3 e3).1 i a ha;refine .inr ⟨h1,fun ys' H'=>ys'.length<=i+1/\∃(W3:Wd)(bs:List β),W3.H=H'/\Ext W2 W3/\LR R' W3.G bs ys'/\(ik f<|xs.drop<|i+1).OkE Er (fun r=>∀p W4,Ext W1 W4->W1.H p=none->Ow R' W4 p (bs++r)->Q (.ref p) W4.H),fun ys' H'⟨z1,z2⟩=>⟨xs.length-(i+1),by omega,rfl,hlt,z1,z2⟩,fun x H' hx=>?_⟩;obtain⟨W4,rfl,e4,rx⟩:=h2 x H' hx;rw[kH ha]at q;have:=hb W4 a x (e1.trans<|(e2.trans e3).trans e4) rx (fun y H4=>(ys++[y]).length<=i+1/\∃(W3:Wd)(bs:List β),W3.H=H4/\Ext W2 W3/\LR R' W3.G bs (ys++[y])/\(ik f<|xs.drop<|i+1).OkE Er (fun r=>∀p W4,Ext W1 W4->W1.H p=none->Ow R' W4 p (bs++r)->Q (.ref p) W4.H))
    ((Cn q).imp fun b kb u W5 e5 hu=>⟨by simp;exact hyl,W5,bs++[b],rfl,(e3.trans e4).trans e5,(lr.same (e4.trans e5).g).snoc hu,(Cn kb).imp fun r kr=>by rw[EH];exact kr⟩)
   exact this
  ·have e:i=xs.length:=by omega
   subst e;rw[Fg]at q;refine .inl ⟨(hy W3 e3).2,fun D hD=>?_⟩;have e13:=e2.trans e3;have:=q D (W3.mut D (.lst ys)<|W3.gnone hD) (e13.trans<|.own _ hD) (none_of e13.h hD) ⟨W3.gnone hD,ys,ai,by rw[Dh];exact lr⟩;exact this
theorem qT{cap:List (Option Nat)}{wi:TI}{g:TG}{tf:TT}{te:TE}{R:Rp α}{R':Rp β}[Mono R']{m:Res (List α)}{f:α->Res (Option β)}(hi:Am Er wi σ W R m)
    (hb:∀(W1:Wd)(a:α)(v:V),Ext W W1->R W1.G a v->∀Q:Option V->Hp->Prop,(f a).OkE Er (fun b=>∀u W2,Ext W1 W2->(match b,u with|some b,some u=>R' W2.G b u|none,none=>True|_,_=>False)->Q u W2.H)->g v (aW cap σ) W1.H fun σ2 H2=>Keep (aW cap σ) σ2/\tf σ2 H2 fun b H3=>if b=true then te σ2 H3 (fun y H4=>Q (some y) H4)else Q none H3):
    EVo Er (jk cap wi g tf te) σ W R' (m.bind fun xs=>jr xs f):=fun W1 e1 Q k=>by
  refine hi W1 e1 _<|(Cn k).imp fun xs kx J W2 e2 hy=>?_;obtain⟨hl,kx⟩:=aO<|Cn kx;refine⟨fun i n ys H=>n=xs.length-i/\i<=xs.length/\ys.length<=i/\∃(W3:Wd)(bs:List β),W3.H=H/\Ext W2 W3/\LR R' W3.G bs ys/\(fD f<|xs.drop i).OkE Er (fun r=>∀p W4,Ext W1 W4->W1.H p=none->Ow R' W4 p (bs++r)->Q (.ref p) W4.H),⟨xs.length,by simp,by simp,by simp,W2,[],rfl,.refl _,.nil,?_⟩,?_⟩;·simpa using kx
  · rintro i n ys H ⟨rfl,hi1,hyl,W3,bs,rfl,e3,lr,q⟩;refine⟨by rw[DK];unfold Mi.cap at hl;omega,?_⟩;by_cases hlt:i<xs.length
    · obtain⟨a,ha⟩:∃a,xs[i]? =some a:=⟨xs[i],by simp[hlt]⟩
      obtain⟨h1,h2⟩:=(hy W3 e3).1 i a ha;refine .inr ⟨h1,fun ys' H'=>ys'.length<=i+1/\∃(W3:Wd)(bs:List β),W3.H=H'/\Ext W2 W3/\LR R' W3.G bs ys'/\(fD f<|xs.drop<|i+1).OkE Er (fun r=>∀p W4,Ext W1 W4->W1.H p=none->Ow R' W4 p (bs++r)->Q (.ref p) W4.H),fun ys' H'⟨z1,z2⟩=>⟨xs.length-(i+1),by omega,rfl,hlt,z1,z2⟩,fun x H' hx=>?_⟩;obtain⟨W4,rfl,e4,rx⟩:=h2 x H' hx;rw[jv ha]at q
      have:=hb W4 a x (e1.trans<|(e2.trans e3).trans e4) rx (fun y H4=>(match y with|some y=>ys++[y]|none=>ys).length<=i+1/\∃(W3:Wd)(bs:List β),W3.H=H4/\Ext W2 W3/\LR R' W3.G bs (match y with|some y=>ys++[y]|none=>ys)/\(fD f<|xs.drop<|i+1).OkE Er (fun r=>∀p W4,Ext W1 W4->W1.H p=none->Ow R' W4 p (bs++r)->Q (.ref p) W4.H))
        ((Cn q).imp fun b kb u W5 e5 hu=>by
          match b,u,hu,kb with
          |some b,some u,hu,kb=>exact⟨by simp;exact hyl,W5,bs++[b],rfl,(e3.trans e4).trans e5,(lr.same (e4.trans e5).g).snoc hu,(Cn kb).imp fun r kr=>by rw[EH];exact kr⟩
          |none,none,hu,kb=>exact⟨by show ys.length<=i+1;omega,W5,bs,rfl,(e3.trans e4).trans e5,lr.same (e4.trans e5).g,(Cn kb).imp fun r kr=>kr⟩)
      exact this
    · have e:i=xs.length:=by omega
      subst e;rw[Fg]at q;refine .inl ⟨(hy W3 e3).2,fun D hD=>?_⟩;have e13:=e2.trans e3;have:=q D (W3.mut D (.lst ys)<|W3.gnone hD) (e13.trans<|.own _ hD) (none_of e13.h hD) ⟨W3.gnone hD,ys,ai,by rw[Dh];exact lr⟩;exact this
end
section
variable{Er:Nat->Prop}{α β γ ρ τ:Type}{t:TA}{σ:St}{W W0 W' Wi:Wd}{K:Cq}{Cl:Addr}{f m:Str}{cs:List TC}{D:Ends}{i j k:Nat}{E:XK}
theorem qU{R:Rf τ}[FrT R]{RR:Rp ρ}{RA:Ra α}{x:τ}{v:V}{ma:Res α}{mf:τ->α->Res (τ×ρ)}{csx:List Addr}(hm:HasM R Cl m)(S:Sep W0 W cs)(E0:Ext W0 W)(hc:cs[k]? =some (tc R x v))(hi:σ[i]? =some (some v))(ha:pz Er t σ W RA ma)(hE:Esc Er csx E W)
  (q:(ma.bind fun a=>mf x a).OkE Er fun r=>∀W',Same W.G W'.G->Ext W0 W'->Sep W0 W' (cs.set k<|tc R r.1 v)->D.nx σ W'.H):aT (eU Cl m (uX R RA csx RR mf) [] E (aU i) t) D σ W.H:=
 xv (Q:=fun _ H=>D.nx σ H) hm S E0 hc hi ha hE (q.imp fun r kr u W' e hs S' _=>kr W' hs e S')
theorem mH{R:Rf τ}[FrT R]{RR:Rp ρ}{RA:Ra α}{x:τ}{v:V}{ma:Res α}{mf:τ->α->Res (τ×ρ)}{csx:List Addr}{r2:TS}(hm:HasM R Cl m)(S:Sep W0 W cs)(E0:Ext W0 W)(hc:cs[k]? =some (tc R x v))(hi:σ[i]? =some (some v))(ha:pz Er t σ W RA ma)(hE:Esc Er csx E W)
  (q:(ma.bind fun a=>mf x a).OkE Er fun r=>∀W',Same W.G W'.G->Ext W0 W'->Sep W0 W' (cs.set k<|tc R r.1 v)->r2 D σ W'.H):dt (aT<|eU Cl m (uX R RA csx RR mf) [] E (aU i) t) r2 D σ W.H:=
 qU (D:={D with nx:=r2 D}) hm S E0 hc hi ha hE q
end
section
variable{Er:Nat->Prop}{α β:Type}{t t1 t2:TE}{σ:St}{W W':Wd}{K:Cq}
def SrcE(K:Cq)(W:Wd)(R:Rp α)(xs:List α)(v:V):Prop:=∃(c:Src)(vs:List V),v=c.val/\(∀W1:Wd,Ext W W1->c.has K W1.H vs)/\LR R W.G xs vs
theorem SrcE.mono{R:Rp α}[Mono R]{xs:List α}{v:V}(h:SrcE K W R xs v)(e:Ext W W'):SrcE K W' R xs v:=by
 obtain⟨c,vs,h1,h2,h3⟩:=h;exact⟨c,vs,h1,fun W1 e1=>h2 W1<|e.trans e1,h3.same e.g⟩
def An(Er:Nat->Prop)(t:TE)(σ:St)(W:Wd)(K:Cq)(R:Rp α)(m:Res (List α)):Prop:=EV Er t σ W (fun W xs v=>SrcE K W R xs v) m
theorem SV.e{R:Rp α}{m:Res (List α)}(h:SV Er t σ W K R m):An Er t σ W K R m:=EV.imp h fun W xs v⟨c,vs,h0,h1,h2⟩=>⟨c,vs,h0,fun W1 e1=>h1 W1 e1.g,h2⟩
theorem yv{R:Rp α}{m:Res (List α)}(h:EV Er t σ W (pk R) m):An Er t σ W K R m:=EV.imp h fun W xs v⟨p,vs,h0,h1,h2⟩=>⟨.lst p,vs,h0,fun W1 e1=>Ep<|e1.h _ _ h1,h2⟩
theorem wF{R1:Rp α}{R2:Rp β}[Mono R1][Mono R2]{m1:Res (List α)}{m2:Res (List β)}(h1:An Er t1 σ W K R1 m1)(h2:An Er t2 σ W K R2 m2):Am Er (vI K<|ah t1<|ah t2 aE) σ W (isT2 K R1 R2) (m1.bind fun xs=>m2.bind fun ys=>.ok<|xs.zip ys):=fun W1 e1 P k=>
 h1 W1 e1 _ ((Cn k).imp fun xs kx v W2 e2 hv=>h2 W2 (e1.trans e2) _ ((Cn kx).imp fun ys ky u W3 e3 hu=>by
  obtain⟨c1,vs,rfl,a1,b1⟩:=SrcE.mono hv e3;obtain⟨c2,us,rfl,a2,b2⟩:=hu;refine⟨c1,c2,vs,us,rfl,a1 W3<|.refl _,a2 W3<|.refl _,ky _ W3 (e2.trans e3) fun W4 e4=>⟨fun i ab hab=>?_,?_⟩⟩
  ·rw[EB]at hab;obtain⟨x,hx,rx⟩:=b1.get hab.1;obtain⟨y,hy,ry⟩:=b2.get hab.2;refine⟨⟨vs,us,x,y,a1 W4 e4,a2 W4 e4,hx,hy⟩,fun z H'⟨p,x',y',hp,z0,z1,z2,z3⟩=>⟨W4.new p<|.tup [x',y'],by rw[z3];rfl,.new _ hp,p,x',y',z0,IG ai,?_,?_⟩⟩
   ·have:=z1 vs<|a1 W4 e4;rw[hx]at this;cases this;exact Cp (e4.g.trans (Ib _ hp).g) rx
   ·have:=z2 us<|a2 W4 e4;rw[hy]at this;cases this;exact Cp (e4.g.trans (Ib _ hp).g) ry
  ·refine⟨vs,us,a1 W4 e4,a2 W4 e4,?_⟩;rw[FP,b1.1,b2.1];omega))
end
end Wb
namespace Mi
noncomputable section
abbrev hX:Type:=List<|Tx×Int
abbrev dw:=Dat×(List Cd)×(List Int)×(List Int)×hX×(Option<|List Pl)
abbrev Z03:=Int×dw×(List dw)×(List dw)
@[irreducible]noncomputable def Ao(Z0C:List Int)(l_k:Int):Res Int:=if(decide<|l_k<(Z0C.length:Int))then kF Z0C l_k else(nI ((l_k*48271)+(11:Int))<|(Z0C.length:Int)+(7:Int)).bind fun y8=>CB<|y8%1000003
def iO(Z0C:List Int)(l_k:Int):Res Int:=Ao Z0C l_k
@[irreducible]noncomputable def yX(Z0u:Int)(Z1S:Int)(a19:Int)(s20:(Int×Int×(List Int))):Res (Int×Int×(List Int)):=((if(decide<|(1000000000000000000:Int)<=cH Z0u)then CB (decide<|(0:Int)<s20.2.1)else CB false).bind fun y45=>(if y45 then((lu s20.2.1 Z1S).bind fun y56=>fI s20.2.2 y56).bind fun y55=>(oS s20.2.1 Z1S).bind fun y59=>CB (y59,y55)else((((nI ((((s20.1*48271)+(7919:Int))+a19)%2147483647)<|(((s20.1*48271)+(7919:Int))+a19)%2147483647).bind fun y63=>CB<|y63%1000003).bind fun y64=>lu y64 Z1S).bind fun y69=>fI s20.2.2 y69).bind fun y68=>CB (s20.2.1,y68):Res (Int×(List Int)))).bind fun s70=>CB (((((s20.1*48271)+(7919:Int))+a19)%2147483647),s70.1,s70.2)
@[irreducible]noncomputable def Ap(Z0u:Int)(Z1l:Int)(Z1S:Int):Res (List Int):=((fP Z1l).bind fun y78=>bJ (yX Z0u Z1S) y78 (((cH Z0u)%2147483647),cH Z0u,([]:List Int))).bind fun s79=>CB s79.2.2
def mZ(Z0u:Int)(Z1l:Int)(Z1S:Int):Res (List Int):=Ap Z0u Z1l Z1S
@[irreducible]noncomputable def yY(y3:Int)(y8:List Int)(a15:Int)(s16:Tx):Res Tx:=(((((kF y8 (4:Int)).bind fun y39=>((lu a15 y3).bind fun y38=>CB<|y38*7).bind fun y40=>CB<|y39+y40).bind fun y41=>CB<|y41%26).bind fun y42=>fO ([97,98,99,100,101,102,103,104,105,106,107,108,109,110,111,112,113,114,115,116,117,118,119,120,121,122]:Tx) y42).bind fun y43=>fe s16 y43).bind fun y44=>CB y44
@[irreducible]noncomputable def Aq(mZ:Int->Int->Int->Res (List Int))(Z0u:Int):Res Tx:=(kF [(1:Int),(2:Int),(3:Int),(4:Int),(26:Int)]<|Z0u%5).bind fun y3=>(mZ (Z0u/5) (5:Int) (26:Int)).bind fun y8=>(bJ (yY y3 y8) (cut y8 none<|some (4:Int)) ([]:Tx)).bind fun s47=>CB s47
def wG(Z0u:Int):Res Tx:=Aq mZ Z0u
@[irreducible]noncomputable def Ar(wG:Int->Res Tx)(Z0u:Int):Res Cd:=(fO ([83,90]:Tx)<|Z0u%2).bind fun y1=>(wG<|Z0u/8).bind fun y2=>CB (y1,y2,((Z0u/2)%4))
def uY(Z0u:Int):Res Cd:=Ar wG Z0u
@[irreducible]noncomputable def As(uY:Int->Res Cd)(iO:List Int->Int->Res Int)(Z0C:List Int)(Z21:Int)(Z3O:Int):Res (List Cd):=(fP Z3O).bind fun y12=>bo y12<|fun(a1:Int)=>(iO Z0C<|Z21+a1).bind fun y9=>uY y9
def uZ(Z0C:List Int)(Z21:Int)(Z3O:Int):Res (List Cd):=As uY iO Z0C Z21 Z3O
@[irreducible]noncomputable def Au(draft:List Cd)(spools:List (Tx×Int)):Res dw:=(((tZ [(0:Int)] (draft.length:Int)).bind fun y2=>((tZ [(0:Int)] (draft.length:Int)).bind fun y1=>CB (y1,(spools,(none:Option (List Pl))))).bind fun y3=>CB (y2,y3)).bind fun y4=>CB (draft,y4)).bind fun y5=>CB (Ky,y5)
def wH(draft:List Cd)(spools:List (Tx×Int)):Res dw:=Au draft spools
@[irreducible]noncomputable def zU(wH:(List Cd)->hX->Res dw)(draft:List Cd)(most:Int)(spools:List (Tx×Int)):Res Z03:=(wH draft spools).bind fun y7=>CB (most,y7,([]:List dw),([]:List dw))
def wI(draft:List Cd)(most:Int)(spools:List (Tx×Int)):Res Z03:=zU wH draft most spools
@[irreducible]noncomputable def Av(mZ:Int->Int->Int->Res (List Int))(Z0u:Int)(Z1l:Int):Res Tx:=if(decide<|(Z0u%7)=(3:Int))then(fO ([102,98,105]:Tx)<|(Z0u/7)%3).bind fun y3=>xX y3 Z1l else((mZ (Z0u/7) Z1l (3:Int)).bind fun y18=>bo y18<|fun(a9:Int)=>fO ([102,98,105]:Tx) a9).bind fun y19=>iK y19
def pF(Z0u:Int)(Z1l:Int):Res Tx:=Av mZ Z0u Z1l
@[irreducible]noncomputable def yZ(self:Z03):Res dw:=if(!self.2.2.1.isEmpty)then kF self.2.2.1 (-(1:Int))else CB self.2.1
def Z0d(self:Z03):Res dw:=yZ self
@[irreducible]noncomputable def Aw(text:Tx)(width:Int):Res Bool:=((xY text).bind fun y1=>CB<|decide<|y1=width).bind fun y12=>if y12 then(bo (aF text)<|fun(a2:Tx)=>Bn a2 ([102,98,105]:Tx)).bind fun y11=>CB (y11.all id)else CB false
def va(text:Tx)(width:Int):Res Bool:=Aw text width
@[irreducible]noncomputable def Ax(tablet:Cd)(turn:Tx):Res Int:=(getD ([([102],1),([98],(-1)),([105],0)]:List (Tx×Int)) turn).bind fun y3=>if(decide<|tablet.1=([83]:Tx))then CB y3 else CB (-y3)
def mI(tablet:Cd)(turn:Tx):Res Int:=Ax tablet turn
@[irreducible]noncomputable def zV(a7:Cd×Tx)(a37:Tx)(s38:hX):Res hX:=(((if(decide<|a7.2=([105]:Tx))then CB (1:Int)else CB (2:Int)).bind fun y59=>CB<|getZ s38 a37 (0:Int)+y59).bind fun y63=>iT s38 a37 y63).bind fun y64=>CB y64
@[irreducible]noncomputable def zW(a7:Cd×Tx)(s8:hX):Res hX:=(bJ (zV a7) (aF a7.1.2.1) s8).bind fun s65=>CB s65
@[irreducible]noncomputable def Ay(draft:List Cd)(row:Tx):Res hX:=(bJ zW (draft.zip<|aF row) ([]:List (Tx×Int))).bind fun s69=>CB s69
def vb(draft:List Cd)(row:Tx):Res hX:=Ay draft row
@[irreducible]noncomputable def yw(a7:Tx×Int)(s8:hX):Res hX:=if(decide<|getZ s8 a7.1 (0:Int)<a7.2)then(((fe ([]:Tx) [116,104,101,32,115,112,111,111,108,32,111,102,32]).bind fun y38=>(fe y38 a7.1).bind fun y39=>(fe y39 [32,102,97,108,108,115,32,115,104,111,114,116]).bind fun y41=>CB y41).bind w9).bind fun y42=>Jn 6 else((getD s8 a7.1).bind fun a47=>iT s8 a7.1<|a47-a7.2).bind fun y46=>CB y46
@[irreducible]noncomputable def Az(spools:List (Tx×Int))(lengths:List (Tx×Int)):Res hX:=(bJ yw lengths spools).bind fun s48=>CB s48
def wJ(spools:List (Tx×Int))(lengths:List (Tx×Int)):Res hX:=Az spools lengths
@[irreducible]noncomputable def AA(tablet:Cd)(turn:Tx):Res Cd:=(((getD ([([102],1),([98],(-1)),([105],0)]:List (Tx×Int)) turn).bind fun y11=>CB<|tablet.2.2+y11).bind fun y12=>CB<|y12%4).bind fun y13=>CB (tablet.1,tablet.2.1,y13)
def uo(tablet:Cd)(turn:Tx):Res Cd:=AA tablet turn
@[irreducible]noncomputable def pG(tablet:Cd):Res Tx:=fO tablet.2.1<|tablet.2.2%4
def i0(tablet:Cd):Res Tx:=pG tablet
@[irreducible]noncomputable def AB(tablet:Cd):Res Tx:=fO tablet.2.1<|(tablet.2.2+(2:Int))%4
def wK(tablet:Cd):Res Tx:=AB tablet
@[irreducible]noncomputable def AD(i0:Cd->Res Tx)(wK:Cd->Res Tx)(mI:Cd->Tx->Res Int)(tablet:Cd)(turn:Tx):Res Pl:=(i0 tablet).bind fun y2=>(wK tablet).bind fun y3=>((mI tablet turn).bind fun y1=>getD ([(1,[115]),((-1),[122]),(0,[111])]:List (Int×Tx)) y1).bind fun y4=>CB (y2,y3,y4)
def vc(tablet:Cd)(turn:Tx):Res Pl:=AD i0 wK mI tablet turn
@[irreducible]noncomputable def AE(va:Tx->Int->Res Bool)(mI:Cd->Tx->Res Int)(wJ:hX->hX->Res hX)(vb:(List Cd)->Tx->Res hX)(uo:Cd->Tx->Res Cd)(vc:Cd->Tx->Res Pl)(stage:dw)(row:Tx)(most:Int):Res dw:=((va row (stage.2.1.length:Int)).bind fun y1=>CB<|!y1).bind fun y2=>if y2 then Jn 1 else(bo (stage.2.2.1.zip<|stage.2.1.zip<|aF row)<|fun(a7:Int×Cd×Tx)=>(mI a7.2.1 a7.2.2).bind fun y18=>CB<|a7.1+y18).bind fun y21=>((bo y21<|fun(a24:Int)=>CB<|decide<|most<cH a24).bind fun y33=>CB<|y33.any id).bind fun y34=>if y34 then Jn 5 else((vb stage.2.1 row).bind fun y39=>wJ stage.2.2.2.2.1 y39).bind fun y40=>(bo (stage.2.2.2.1.zip y21) (fun(a45:Ii)=>CB (if cH a45.2>a45.1 then cH a45.2 else a45.1))).bind fun y56=>(bo (stage.2.1.zip<|aF row)<|fun(a61:Cd×Tx)=>uo a61.1 a61.2).bind fun y72=>(bo (y72.zip<|aF row)<|fun(a77:Cd×Tx)=>vc a77.1 a77.2).bind fun y88=>CB (Ip [GA (([114,111,119]:Tx),row).1,GA (([114,111,119]:Tx),row).2],(y72,(y21,(y56,(y40,some y88)))))
def vd(stage:dw)(row:Tx)(most:Int):Res dw:=AE va mI wJ vb uo vc stage row most
@[irreducible]noncomputable def zX(self:Z03)(stages:List dw):Res (Z03×Unit):=if(!stages.isEmpty)then((wj self.2.2.1 stages).bind fun b=>CB<|(self.1,self.2.1,b,self.2.2.2)).bind fun y3=>CB ((y3.1,y3.2.1,y3.2.2.1,([]:List dw)),())else CB (self,())
def mJ(self:Z03)(stages:List dw):Res (Z03×Unit):=zX self stages
@[irreducible]noncomputable def zY(vd:dw->Tx->Int->Res dw)(Z0d:Z03->Res dw)(mJ:Z03->(List dw)->Res (Z03×Unit))(self:Z03)(row:Tx):Res (Z03×(List Pl)):=((Z0d self).bind fun y3=>vd y3 row self.1).bind fun y4=>(mJ self [y4]).bind fun y9=>(qu y4.2.2.2.2.2).bind fun y10=>CB (y9.1,y10)
def pH(self:Z03)(row:Tx):Res (Z03×(List Pl)):=zY vd Z0d mJ self row
@[irreducible]noncomputable def AF(Z0v:Tx):Res Tx:=(bo (aF Z0v)<|fun(a1:Tx)=>(sJ ([98,105,102]:Tx) a1).bind fun y8=>fO ([102,105,98]:Tx) y8).bind fun y11=>iK y11
def n0(Z0v:Tx):Res Tx:=AF Z0v
@[irreducible]noncomputable def zZ(draft:List Cd)(k:Int):Res Unit:=(if(decide<|k<(0:Int))then CB true else CB (decide<|(draft.length:Int)<=k)).bind fun y1=>if y1 then(((fe ([]:Tx) [116,104,101,114,101,32,105,115,32,110,111,32,116,97,98,108,101,116,32]).bind fun y4=>(yh k).bind fun y6=>(fe y4 y6).bind fun y5=>CB y5).bind w9).bind fun y7=>Jn 7 else CB ()
def ur(draft:List Cd)(k:Int):Res Unit:=zZ draft k
@[irreducible]noncomputable def AG(tablet:Cd):Res Cd:=((((fO tablet.2.1 (0:Int)).bind fun y13=>(fO tablet.2.1 (3:Int)).bind fun y14=>fe y13 y14).bind fun y15=>(fO tablet.2.1 (2:Int)).bind fun y16=>fe y15 y16).bind fun y17=>(fO tablet.2.1 (1:Int)).bind fun y18=>fe y17 y18).bind fun y19=>(getD ([([83],[90]),([90],[83])]:List (Tx×Tx)) tablet.1).bind fun y22=>CB (y22,y19,(((4:Int)-tablet.2.2)%4))
def wL(tablet:Cd):Res Cd:=AG tablet
@[irreducible]noncomputable def AH(ur:(List Cd)->Int->Res Unit)(wL:Cd->Res Cd)(stage:dw)(k:Int):Res dw:=(ur stage.2.1 k).bind fun y1=>(((kF stage.2.1 k).bind fun y12=>wL y12).bind fun y16=>jq stage.2.1 k y16).bind fun y17=>CB (Ip [GA (([102,108,105,112]:Tx),k).1,Dat.i (([102,108,105,112]:Tx),k).2],(y17,(stage.2.2.1,(stage.2.2.2.1,(stage.2.2.2.2.1,(none:Option (List Pl)))))))
def rA(stage:dw)(k:Int):Res dw:=AH ur wL stage k
@[irreducible]noncomputable def z6(mJ:Z03->(List dw)->Res (Z03×Unit))(rA:dw->Int->Res dw)(Z0d:Z03->Res dw)(self:Z03)(k:Int):Res (Z03×Unit):=(((((Z0d self).bind fun y1=>rA y1 k).bind fun y2=>CB [y2]).bind fun y6=>CB (y6,())).bind fun a7=>mJ self a7.1).bind fun y5=>CB (y5.1,())
def rB(self:Z03)(k:Int):Res (Z03×Unit):=z6 mJ rA Z0d self k
@[irreducible]noncomputable def z7(rB:Z03->Int->Res (Z03×Unit))(Z16:Z03)(l_k:Int):Res (Z03×Dat):=(Res.tryR<|(rB Z16 l_k).bind fun r9=>CB (r9.1,Ky)).bind fun r5=>match r5 with| .inr j7=>CB (Z16,qH [114,101,102,117,115,101,100] j7)| .inl y6=>CB (y6.1,Ip [GA (([102,108,105,112,112,101,100]:Tx),y6.2).1,(([102,108,105,112,112,101,100]:Tx),y6.2).2])
def n5(Z16:Z03)(l_k:Int):Res (Z03×Dat):=z7 rB Z16 l_k
@[irreducible]noncomputable def A0(self:Z03):Res (List Dat):=bo self.2.2.1<|fun(a1:dw)=>CB a1.1
def wM(self:Z03):Res (List Dat):=A0 self
@[irreducible]noncomputable def A1(self:Z03):Res (List<|List Pl):=jr self.2.2.1 (fun(a1:dw)=>if a1.2.2.2.2.2.isSome then(qu a1.2.2.2.2.2).bind fun y11=>CB (some y11)else CB none)
def wO(self:Z03):Res (List<|List Pl):=A1 self
@[irreducible]noncomputable def AI(Z1n:Tx):Res Int:=(sJ ([98,105,102]:Tx) Z1n).bind fun y1=>CB<|y1-(1:Int)
def n6(Z1n:Tx):Res Int:=AI Z1n
@[irreducible]noncomputable def AJ(n6:Tx->Res Int)(Z0e:Cd)(Z1n:Tx):Res Cd:=(((n6 Z1n).bind fun y1=>CB<|Z0e.2.2+y1).bind fun y2=>CB<|y2%4).bind fun y3=>CB (Z0e.1,Z0e.2.1,y3)
def i4(Z0e:Cd)(Z1n:Tx):Res Cd:=AJ n6 Z0e Z1n
@[irreducible]noncomputable def AK(n6:Tx->Res Int)(Z0e:Cd)(Z1n:Tx):Res Int:=if(decide<|Z0e.1=([83]:Tx))then n6 Z1n else(n6 Z1n).bind fun y8=>CB<|(0:Int)-y8
def fT(Z0e:Cd)(Z1n:Tx):Res Int:=AK n6 Z0e Z1n
@[irreducible]noncomputable def z8(i4:Cd->Tx->Res Cd)(fT:Cd->Tx->Res Int)(a7:Tx)(s8:(Cd×(List Pl))):Res (Cd×(List Pl)):=(i4 s8.1 a7).bind fun y34=>(((fT y34 a7).bind fun y39=>CB<|y39+(1:Int)).bind fun y40=>fO ([122,111,115]:Tx) y40).bind fun y41=>(((fO y34.2.1 y34.2.2).bind fun y44=>(fO y34.2.1<|(y34.2.2+(2:Int))%4).bind fun y45=>CB (y44,y45,y41)).bind fun y50=>fI s8.2 y50).bind fun y49=>CB (y34,y49)
@[irreducible]noncomputable def AL(i4:Cd->Tx->Res Cd)(fT:Cd->Tx->Res Int)(Z0e:Cd)(Z0v:List Tx):Res (List Pl):=(bJ (z8 i4 fT) Z0v (Z0e,([]:List Pl))).bind fun s51=>CB s51.2
def uu(Z0e:Cd)(Z0v:List Tx):Res (List Pl):=AL i4 fT Z0e Z0v
@[irreducible]noncomputable def AM(uu:Cd->(List Tx)->Res (List Pl))(Z0T:List Cd)(Z1o:List Tx):Res (List<|List Pl):=(bo (gB Z0T)<|fun(a3:Int×Cd)=>(bo Z1o<|fun(a13:Tx)=>fO a13 a3.1).bind fun y22=>uu a3.2 y22).bind fun y25=>(gS Z1o).bind fun y47=>bo y47<|fun(a28:Int)=>bo y25<|fun(a36:List Pl)=>kF a36 a28
def ve(Z0T:List Cd)(Z1o:List Tx):Res (List<|List Pl):=AM uu Z0T Z1o
@[irreducible]noncomputable def A2(Z0d:Z03->Res dw)(self:Z03)(k:Int):Res Int:=((Z0d self).bind fun y1=>CB y1.2.2.1).bind fun y2=>kF y2 k
def pI(self:Z03)(k:Int):Res Int:=A2 Z0d self k
@[irreducible]noncomputable def A3(Z0d:Z03->Res dw)(self:Z03)(k:Int):Res Int:=((Z0d self).bind fun y1=>CB y1.2.2.2.1).bind fun y2=>kF y2 k
def pJ(self:Z03)(k:Int):Res Int:=A3 Z0d self k
@[irreducible]noncomputable def AN(fT:Cd->Tx->Res Int)(Z0e:Cd)(a9:Tx)(s10:Ii):Res Ii:=((fT Z0e a9).bind fun y32=>CB<|s10.1+y32).bind fun y33=>CB (y33,(if cH y33>s10.2 then cH y33 else s10.2))
@[irreducible]noncomputable def AO(fT:Cd->Tx->Res Int)(Z0e:Cd)(Z0v:Tx):Res Int:=(bJ (AN fT Z0e) (aF Z0v) ((0:Int),(0:Int))).bind fun s40=>CB s40.2
def pK(Z0e:Cd)(Z0v:Tx):Res Int:=AO fT Z0e Z0v
@[irreducible]noncomputable def AQ(Z0e:Cd):Res Cd:=((sJ ([83,90]:Tx) Z0e.1).bind fun y5=>fO ([90,83]:Tx) y5).bind fun y12=>((((fO Z0e.2.1 (0:Int)).bind fun y6=>(fO Z0e.2.1 (3:Int)).bind fun y7=>fe y6 y7).bind fun y8=>(fO Z0e.2.1 (2:Int)).bind fun y9=>fe y8 y9).bind fun y10=>(fO Z0e.2.1 (1:Int)).bind fun y11=>fe y10 y11).bind fun y13=>CB (y12,y13,(((0:Int)-Z0e.2.2)%4))
def pL(Z0e:Cd):Res Cd:=AQ Z0e
@[irreducible]noncomputable def A4(Z0d:Z03->Res dw)(self:Z03):Res (List Cd):=(Z0d self).bind fun y1=>CB y1.2.1
def uv(self:Z03):Res (List Cd):=A4 Z0d self
@[irreducible]noncomputable def A5(i4:Cd->Tx->Res Cd)(a84:Tx)(s85:Cd):Res Cd:=(i4 s85 a84).bind fun y110=>CB y110
@[irreducible]noncomputable def A6(pI:Z03->Int->Res Int)(fT:Cd->Tx->Res Int)(pJ:Z03->Int->Res Int)(pK:Cd->Tx->Res Int)(i4:Cd->Tx->Res Cd)(pL:Cd->Res Cd)(Z16:Z03)(Z1o:List Tx)(Z2O:List Bool)(a7:Int×Cd)(s8:(List Cd)):Res (Fl Bool<|List Cd):=((bo Z1o<|fun(a40:Tx)=>fO a40 a7.1).bind fun y49=>iK y49).bind fun y50=>(((pI Z16 a7.1).bind fun y64=>((bo (aF y50)<|fun(a53:Tx)=>fT a7.2 a53).bind fun y63=>CB y63.sum).bind fun y65=>xZ y64 y65).bind fun y66=>CB<|!y66).bind fun y67=>if y67 then CB (.rt false)else(((pJ Z16 a7.1).bind fun y74=>(pK a7.2 y50).bind fun y75=>xZ y74 y75).bind fun y76=>CB<|!y76).bind fun y77=>if y77 then CB (.rt false)else(bJ (A5 i4) (aF y50) a7.2).bind fun s113=>((kF Z2O a7.1).bind fun y117=>(if y117 then(pL s113).bind fun y126=>CB y126 else CB s113:Res Cd)).bind fun s130=>(fI s8 s130).bind fun y143=>CB<|.nx y143
@[irreducible]noncomputable def A7(pI:Z03->Int->Res Int)(fT:Cd->Tx->Res Int)(pJ:Z03->Int->Res Int)(pK:Cd->Tx->Res Int)(i4:Cd->Tx->Res Cd)(pL:Cd->Res Cd)(uv:Z03->Res (List Cd))(Z16:Z03)(Z0T:List Cd)(Z1o:List Tx)(Z2O:List Bool):Res Bool:=(il (A6 pI fT pJ pK i4 pL Z16 Z1o Z2O) (gB Z0T) ([]:List Cd)).bind (fun | .nx s144=>((uv Z16).bind fun y153=>xZ y153 s144)| .rt r=>CB r| .bk _=>Lb)
def vf(Z16:Z03)(Z0T:List Cd)(Z1o:List Tx)(Z2O:List Bool):Res Bool:=A7 pI fT pJ pK i4 pL uv Z16 Z0T Z1o Z2O
@[irreducible]noncomputable def fg(a19:Tx)(s20:hX):Res hX:=(iT s20 a19 (999999999:Int)).bind fun y44=>CB y44
@[irreducible]noncomputable def fh(iO:List Int->Int->Res Int)(pF:Int->Int->Res Tx)(pH:Z03->Tx->Res (Z03×(List Pl)))(n0:Tx->Res Tx)(n5:Z03->Int->Res (Z03×Dat))(Z0C:List Int)(y5:Int)(a78:Int)(s79:(Z03×(List Bool)×(List Tx)×(List Dat))):Res (Fl Bool<|Z03×(List Bool)×(List Tx)×(List Dat)):=(iO Z0C<|(10:Int)+a78).bind fun y105=>if(decide<|(0:Int)<(y105%3))then(pF (y105/3) y5).bind fun y112=>(pH s79.1 y112).bind fun y117=>(fI s79.2.2.2<|Ip [GA (([114,111,119]:Tx),y112).1,GA (([114,111,119]:Tx),y112).2]).bind fun y118=>(((bo ((aF y112).zip s79.2.1) (fun(a121:Tx×Bool)=>if a121.2 then n0 a121.1 else CB a121.1)).bind fun y132=>iK y132).bind fun y133=>fI s79.2.2.1 y133).bind fun y134=>CB (.nx (y117.1,s79.2.1,y134,y118))else(lu (y105/3) y5).bind fun y139=>(if(decide<|((y105/3)%7)=(1:Int))then(kF [y5,((0:Int)-(1:Int)),(100000000000000000000:Int),((0:Int)-y5),(y5+(5:Int))]<|(y105/21)%5).bind fun y150=>CB y150 else CB y139:Res Int).bind fun s154=>((if(decide<|(0:Int)<=s154)then CB (decide<|s154<y5)else CB false).bind fun y165=>(if y165 then(((kF s79.2.1 s154).bind fun y176=>CB<|!y176).bind fun y177=>jq s79.2.1 s154 y177).bind fun y178=>(fI s79.2.2.2<|Ip [GA (([102,108,105,112]:Tx),s154).1,Dat.i (([102,108,105,112]:Tx),s154).2]).bind fun y181=>CB ((fun(z:Tx×(Option Unit))=>Ip [GA z.1,w5 (fun(z:Unit)=>Ky) z.2]) (([102,108,105,112,112,101,100]:Tx),none),y178,y181)else CB ((fun(z:Tx×(List Tx))=>Ip [GA z.1,JB<|z.2.map fun(z:Tx)=>GA z]) (([114,101,102,117,115,101,100]:Tx),[([78,111,84,97,98,108,101,116]:Tx)]),s79.2.1,s79.2.2.2):Res (Dat×(List Bool)×(List Dat)))).bind fun s185=>(((CB s154).bind fun a=>(CB ()).bind fun b=>CB (a,b)).bind fun a=>(n5 s79.1 a.1).bind fun y=>(CB s185.1).bind fun b=>(rp y.2 b).bind fun c=>CB (y.1,c)).bind fun y197=>if y197.2 then CB (.nx (y197.1,s185.2.1,s79.2.2.1,s185.2.2))else CB (.rt false)
@[irreducible]noncomputable def pM(iO:List Int->Int->Res Int)(uZ:List Int->Int->Int->Res (List Cd))(wI:(List Cd)->Int->hX->Res Z03)(pF:Int->Int->Res Tx)(pH:Z03->Tx->Res (Z03×(List Pl)))(n0:Tx->Res Tx)(n5:Z03->Int->Res (Z03×Dat))(wM:Z03->Res (List Dat))(wO:Z03->Res (List<|List Pl))(ve:(List Cd)->(List Tx)->Res (List<|List Pl))(vf:Z03->(List Cd)->(List Tx)->(List Bool)->Res Bool)(Z0C:List Int):Res Bool:=(((iO Z0C (0:Int)).bind fun y3=>CB<|y3%8).bind fun y4=>CB<|(1:Int)+y4).bind fun y5=>(uZ Z0C (1:Int) y5).bind fun y10=>(bJ fg (aF ([97,98,99,100,101,102,103,104,105,106,107,108,109,110,111,112,113,114,115,116,117,118,119,120,121,122]:Tx)) ([]:List (Tx×Int))).bind fun s45=>(wI y10 (999999999:Int) s45).bind fun y53=>(bo y10<|fun(a57:Cd)=>CB false).bind fun y66=>((((iO Z0C (9:Int)).bind fun y76=>CB<|y76%41).bind fun y77=>fP y77).bind fun y205=>il (fh iO pF pH n0 n5 Z0C y5) y205 (y53,y66,([]:List Tx),([]:List Dat))).bind (fun | .nx s206=>((((((wM s206.1).bind fun y222=>CB<|(fun(z:List Dat)=>JB<|z.map fun(z:Dat)=>z) y222).bind fun y223=>rp y223<|(fun(z:List Dat)=>JB<|z.map fun(z:Dat)=>z) s206.2.2.2).bind fun y224=>CB<|!y224).bind fun y228=>if y228 then CB true else((wO s206.1).bind fun y225=>(ve y10 s206.2.2.1).bind fun y226=>xZ y225 y226).bind fun y227=>CB<|!y227).bind fun y229=>if y229 then CB false else vf s206.1 y10 s206.2.2.1 s206.2.1)| .rt r=>CB r| .bk _=>Lb)
def uw(Z0C:List Int):Res Bool:=pM iO uZ wI pF pH n0 n5 wM wO ve vf Z0C
end
end Mi
namespace Wb
open PySem L2 Mi
def tp(i:Nat):Stmt:=Gq.main.body.getD i<|.Pass ⟨0,0,0,0⟩
def tq(i j:Nat):Stmt:=match tp i with
 | .ClassDef _ _ _ b _ _ _ _ _ _ _=>b.getD j<|.Pass ⟨0,0,0,0⟩
 |s=>s
abbrev kW:=isDk (fun(a:Tx)=>DF<|sOf a) isI
abbrev gM(K:Cq)(Z00:Addr):Rfl dw:=(fC "deed" (isU K)<|fC "standing" (isL<|isT3 K isS isS isI)<|fC "reached" (isL isI)<|fC "highest" (isL isI)<|fC "lengths" kW<|f1 "pick"<|isO<|isL<|isT3 K isS isS isS)
abbrev aD(K:Cq)(Z00:Addr):Rp dw:=isOb Z00<|gM K Z00
theorem mK{K:Cq}{Z00:Addr}:ug (gM K Z00) "deed" (isU K) (fun a=>a.1):=uh
theorem bI{K:Cq}{Z00:Addr}:ug (gM K Z00) "standing" (isL<|isT3 K isS isS isI) (fun a=>a.2.1):=(gK uh)
theorem eM{K:Cq}{Z00:Addr}:ug (gM K Z00) "reached" (isL isI) (fun a=>a.2.2.1):=(gK<|gK uh)
theorem eO{K:Cq}{Z00:Addr}:ug (gM K Z00) "highest" (isL isI) (fun a=>a.2.2.2.1):=(gK<|gK<|gK uh)
theorem fU{K:Cq}{Z00:Addr}:ug (gM K Z00) "lengths" kW (fun a=>a.2.2.2.2.1):=(gK<|gK<|gK<|gK uh)
theorem fV{K:Cq}{Z00:Addr}:ug (gM K Z00) "pick" (isO<|isL<|isT3 K isS isS isS) (fun a=>a.2.2.2.2.2):=(gK<|gK<|gK<|gK<|gK Ba)
abbrev dF(K:Cq)(Z00:Addr):Rfo Z03:=(oC "most" (fz isI)<|oC "start" (fz<|aD K Z00)<|oC "course" (oL<|fz<|aD K Z00)<|o1 "undone"<|oL<|fz<|aD K Z00)
abbrev a8(K:Cq)(Z00:Addr)(Z01:Addr):Rf Z03:=oOb Z01<|dF K Z00
theorem Za6{K:Cq}{Z00:Addr}:FLn (dF K Z00) "most" (fz isI) (fun a=>a.1) (fun a b=>(b,a.2.1,a.2.2.1,a.2.2.2)):=yn
theorem Z94{K:Cq}{Z00:Addr}:FLn (dF K Z00) "start" (fz<|aD K Z00) (fun a=>a.2.1) (fun a b=>(a.1,b,a.2.2.1,a.2.2.2)):=(yo yn)
theorem Z1I{K:Cq}{Z00:Addr}:FLn (dF K Z00) "course" (oL<|fz<|aD K Z00) (fun a=>a.2.2.1) (fun a b=>(a.1,a.2.1,b,a.2.2.2)):=(yo<|yo yn)
theorem jE{K:Cq}{Z00:Addr}:zR (dF K Z00) "undone" (oL<|fz<|aD K Z00) (fun a b=>(a.1,a.2.1,a.2.2.1,b)):=(yp<|yp<|yp Bb)
theorem le_loom{K:Cq}{Z00:Addr}:FLe (dF K Z00) 4:=(yu<|yu<|yu Bd)
theorem iU:bootBuiltins "ValueError"=some (.type "ValueError"):=by decide +kernel
section
variable{P:CQ}{w:D4}{K:Cq}{mg:Str->Option Cr}{base:Heap}
def eP(j n:Nat):List (Tx×Bool):=L9 n [([66,97,100,84,97,98,108,101,116],decide<|0=j),([66,97,100,82,111,119],decide<|1=j),([66,97,100,84,101,120,116],decide<|2=j),([66,97,100,77,97,114,107],decide<|3=j),([84,111,111,76,111,110,103],decide<|4=j),([84,111,111,84,105,103,104,116],decide<|5=j),([83,112,111,111,108,68,114,121],decide<|6=j),([78,111,84,97,98,108,101,116],decide<|7=j),([78,111,116,104,105,110,103,76,101,102,116],decide<|8=j),([85,110,108,105,107,101],decide<|9=j),([83,101,101,110,84,104,114,101,97,100],decide<|10=j),([78,111,83,117,99,104,87,97,121],decide<|11=j),([66,97,114,114,101,100],decide<|12=j),([110,111,32,66,97,110,100,69,114,114,111,114],false),([110,111,32,86,97,108,117,101,69,114,114,111,114],false)]
theorem di{Er:Nat->Prop}{K:Cq}{x C:Addr}{σ:St}{W:Wd}{v:V}{c:Cr}{b:Bool}(h0:σ[0]? =some (some<|.ref x))(hv:kv v=some c)(hk:Dp K (.ref C) c=some b):
  EV Er (dR (fun xs H Q=>∃v c b,xs=[.ref x,v]/\kv v=some c/\Dp K (.ref C) c=some b/\Q (.bl b) H)<|ah (aU 0)<|ah (tC v) aE) σ W (sh isB) (.ok b):=fun W1 e1 Q k=>
 ⟨.ref x,h0,v,c,b,rfl,hv,hk,k (.bl b) W1 (.refl _) rfl⟩
def wQ(a:Tx×Bool):Res (Option Tx):=if a.2 then CB (some a.1)else CB none
theorem o4:∀j,j<13->jr (eP j 15) wQ=.ok [kindN.getD j []]:=by
 intro j hj
 match j,hj with
 |0,_=>rfl
 |1,_=>rfl
 |2,_=>rfl
 |3,_=>rfl
 |4,_=>rfl
 |5,_=>rfl
 |6,_=>rfl
 |7,_=>rfl
 |8,_=>rfl
 |9,_=>rfl
 |10,_=>rfl
 |11,_=>rfl
 |12,_=>rfl
theorem ux{f:Addr}{fd:CP}(F:Fun K "_law_kinds" "_law_kinds" (tp 58) f fd)(Z0j:mg "isinstance"=none)(Z3S:mg "ValueError"=none){Z06 Z0i Z0f Z0g Z0h Z09 Z0a Z0b Z04 Z0l Z05 Z07 Z0m Z08:Addr}(Z4V:mg "BadTablet"=some (.ref Z06))(Z35:mg "BadRow"=some (.ref Z0i))(Z6B:mg "BadText"=some (.ref Z0f))(Z6C:mg "BadMark"=some (.ref Z0g))(Z6D:mg "TooLong"=some (.ref Z0h))(Z2d:mg "TooTight"=some (.ref Z09))(Z2e:mg "SpoolDry"=some (.ref Z0a))(Z2f:mg "NoTablet"=some (.ref Z0b))(Z3t:mg "NothingLeft"=some (.ref Z04))(Z7z:mg "Unlike"=some (.ref Z0l))(Z3T:mg "SeenThread"=some (.ref Z05))(Z4W:mg "NoSuchWay"=some (.ref Z07))(Z7A:mg "Barred"=some (.ref Z0m))(Z1V:mg "BandError"=some (.ref Z08)):
  FnOkH P w K mg base 1 f fd ["_law_e"] (gm K [Z06,Z0i,Z0f,Z0g,Z0h,Z09,Z0a,Z0b,Z04,Z0l,Z05,Z07,Z0m] Z08):=by
 have SC:FnScope ["_law_e","_law_known"] ["_law_e"] (defScope<|tp 58):=⟨rfl,rfl,rfl,by decide +kernel,rfl,by decide +kernel,by decide +kernel⟩
 refine Fun.okH F SC (fun x C vs H Q E h=>?_)<|fun x C cdv A outer s H vs Q E hE hr h=>?_;·obtain⟨_,_,_,rfl,_⟩:=h;rfl
 ·obtain⟨W0,j,rfl,rfl,hZ,hj,hc,hB,hV,hq⟩:=h
  refine⟨_,(a6 (fk (i:=1) SC.nd rfl (by first|exact G4 rfl|exact FR rfl) (bM (a4 (bg (a4 aA (a4 (aj (aQ (K:=K) rfl hE hZ) (by rfl) Z0j Cz (a4 (pv 0) (a4 (bf (v:=.ref Z06) (by rfl) Z4V rfl) a5))) a5))) (a4 (bg (a4 aA (a4 (aj (aQ (K:=K) rfl hE hZ) (by rfl) Z0j Cz (a4 (pv 0) (a4 (bf (v:=.ref Z0i) (by rfl) Z35 rfl) a5))) a5))) a5))))
   (a6 (fk (i:=1) SC.nd rfl (by first|exact G4 rfl|exact FR rfl) (ao gD (pv 1) (bM (a4 (bg (a4 aA (a4 (aj (aQ (K:=K) rfl hE hZ) (by rfl) Z0j Cz (a4 (pv 0) (a4 (bf (v:=.ref Z0f) (by rfl) Z6B rfl) a5))) a5))) (a4 (bg (a4 aA (a4 (aj (aQ (K:=K) rfl hE hZ) (by rfl) Z0j Cz (a4 (pv 0) (a4 (bf (v:=.ref Z0g) (by rfl) Z6C rfl) a5))) a5))) a5)))))
   (a6 (fk (i:=1) SC.nd rfl (by first|exact G4 rfl|exact FR rfl) (ao gD (pv 1) (bM (a4 (bg (a4 aA (a4 (aj (aQ (K:=K) rfl hE hZ) (by rfl) Z0j Cz (a4 (pv 0) (a4 (bf (v:=.ref Z0h) (by rfl) Z6D rfl) a5))) a5))) (a4 (bg (a4 aA (a4 (aj (aQ (K:=K) rfl hE hZ) (by rfl) Z0j Cz (a4 (pv 0) (a4 (bf (v:=.ref Z09) (by rfl) Z2d rfl) a5))) a5))) a5)))))
   (a6 (fk (i:=1) SC.nd rfl (by first|exact G4 rfl|exact FR rfl) (ao gD (pv 1) (bM (a4 (bg (a4 aA (a4 (aj (aQ (K:=K) rfl hE hZ) (by rfl) Z0j Cz (a4 (pv 0) (a4 (bf (v:=.ref Z0a) (by rfl) Z2e rfl) a5))) a5))) (a4 (bg (a4 aA (a4 (aj (aQ (K:=K) rfl hE hZ) (by rfl) Z0j Cz (a4 (pv 0) (a4 (bf (v:=.ref Z0b) (by rfl) Z2f rfl) a5))) a5))) a5)))))
   (a6 (fk (i:=1) SC.nd rfl (by first|exact G4 rfl|exact FR rfl) (ao gD (pv 1) (bM (a4 (bg (a4 aA (a4 (aj (aQ (K:=K) rfl hE hZ) (by rfl) Z0j Cz (a4 (pv 0) (a4 (bf (v:=.ref Z04) (by rfl) Z3t rfl) a5))) a5))) (a4 (bg (a4 aA (a4 (aj (aQ (K:=K) rfl hE hZ) (by rfl) Z0j Cz (a4 (pv 0) (a4 (bf (v:=.ref Z0l) (by rfl) Z7z rfl) a5))) a5))) a5)))))
   (a6 (fk (i:=1) SC.nd rfl (by first|exact G4 rfl|exact FR rfl) (ao gD (pv 1) (bM (a4 (bg (a4 aA (a4 (aj (aQ (K:=K) rfl hE hZ) (by rfl) Z0j Cz (a4 (pv 0) (a4 (bf (v:=.ref Z05) (by rfl) Z3T rfl) a5))) a5))) (a4 (bg (a4 aA (a4 (aj (aQ (K:=K) rfl hE hZ) (by rfl) Z0j Cz (a4 (pv 0) (a4 (bf (v:=.ref Z07) (by rfl) Z4W rfl) a5))) a5))) a5)))))
   (a6 (fk (i:=1) SC.nd rfl (by first|exact G4 rfl|exact FR rfl) (ao gD (pv 1) (bM (a4 (bg (a4 aA (a4 (aj (aQ (K:=K) rfl hE hZ) (by rfl) Z0j Cz (a4 (pv 0) (a4 (bf (v:=.ref Z0m) (by rfl) Z7A rfl) a5))) a5))) (a4 (bg (a4 aA (a4 (l7 (aj (aQ (K:=K) rfl hE hZ) (by rfl) Z0j Cz (a4 (pv 0) (a4 (bf (v:=.ref Z08) (by rfl) Z1V rfl) a5)))) a5))) a5)))))
   (a6 (fk (i:=1) SC.nd rfl (by first|exact G4 rfl|exact FR rfl) (ao gD (pv 1) (bM (a4 (bg (a4 aA (a4 (l7 (aj (aQ (K:=K) rfl hE hZ) (by rfl) Z0j Cz (a4 (pv 0) (a4 (cZ (v:=.ty "ValueError") (by rfl) Z3S iU rfl) a5)))) a5))) a5))))
   (ae (au (tR (N:=["_law_name","_law_so"]) (cap:=[none,none]) (fb rfl (by decide +kernel) rfl (by decide +kernel) (by rfl) (by rfl)) hE.hdx (tQ (K:=K) rfl (pv 1)) (fun _ _ _ _ hx=>(wa (K:=K) (n:=2) rfl hx (av (aP (i:=0) (show Ds (["_law_name","_law_so"]:List Str) by decide +kernel) rfl (by first|exact G4 rfl|exact FR rfl)) (av (aP (i:=1) (show Ds (["_law_name","_law_so"]:List Str) by decide +kernel) rfl (by first|exact G4 rfl|exact FR rfl)) cq)))) (fun _ _ _ _=>(oP (cC (pv 1)))) (fun _ _ _ _=>(pv 0))))))))))))),?_⟩
  have E0:Ext W0 W0:=.refl W0;rw[show L2.start ["_law_e","_law_known"] [.ref x]=[some (.ref x),none]from rfl];refine aq (Er:=fun _=>False) (i:=1) (R:=sh<|isL<|isT2 K isS isB) (m:=.ok<|eP j 2) (σ':=fun v=>[some (.ref x),some v]) (Eh (df (aR (br (K:=K) (aG (x:=Cv "BadTablet") (l:=[66,97,100,84,97,98,108,101,116]) (dW _ _ (by decide +kernel)))<|di (K:=K) (C:=C) (v:=.ref Z06) (c:=.ref Z06) (b:=decide<|0=j) rfl rfl<|hc 0 _ rfl) (aR (br (K:=K) (aG (x:=Cv "BadRow") (l:=[66,97,100,82,111,119]) (dW _ _ (by decide +kernel)))<|di (K:=K) (C:=C) (v:=.ref Z0i) (c:=.ref Z0i) (b:=decide<|1=j) rfl rfl<|hc 1 _ rfl)<|de (R:=isT2 K isS isB)))))<|fun v0 W1 e0 h0=>?_;have E0:=E0.trans e0;refine aq (Er:=fun _=>False) (i:=1) (R:=sh<|isL<|isT2 K isS isB) (m:=.ok<|eP j 4) (σ':=fun v=>[some (.ref x),some v]) (Eh (fw (Fy<|bq (R:=sh<|isL<|isT2 K isS isB) h0) (FE (df (aR (br (K:=K) (aG (x:=Cv "BadText") (l:=[66,97,100,84,101,120,116]) (dW _ _ (by decide +kernel)))<|di (K:=K) (C:=C) (v:=.ref Z0f) (c:=.ref Z0f) (b:=decide<|2=j) rfl rfl<|hc 2 _ rfl) (aR (br (K:=K) (aG (x:=Cv "BadMark") (l:=[66,97,100,77,97,114,107]) (dW _ _ (by decide +kernel)))<|di (K:=K) (C:=C) (v:=.ref Z0g) (c:=.ref Z0g) (b:=decide<|3=j) rfl rfl<|hc 3 _ rfl)<|de (R:=isT2 K isS isB)))))))<|fun v1 W2 e1 h1=>?_;have E0:=E0.trans e1;refine aq (Er:=fun _=>False) (i:=1) (R:=sh<|isL<|isT2 K isS isB) (m:=.ok<|eP j 6) (σ':=fun v=>[some (.ref x),some v]) (Eh (fw (Fy<|bq (R:=sh<|isL<|isT2 K isS isB) h1) (FE (df (aR (br (K:=K) (aG (x:=Cv "TooLong") (l:=[84,111,111,76,111,110,103]) (dW _ _ (by decide +kernel)))<|di (K:=K) (C:=C) (v:=.ref Z0h) (c:=.ref Z0h) (b:=decide<|4=j) rfl rfl<|hc 4 _ rfl) (aR (br (K:=K) (aG (x:=Cv "TooTight") (l:=[84,111,111,84,105,103,104,116]) (dW _ _ (by decide +kernel)))<|di (K:=K) (C:=C) (v:=.ref Z09) (c:=.ref Z09) (b:=decide<|5=j) rfl rfl<|hc 5 _ rfl)<|de (R:=isT2 K isS isB)))))))<|fun v2 W3 e2 h2=>?_;have E0:=E0.trans e2;refine aq (Er:=fun _=>False) (i:=1) (R:=sh<|isL<|isT2 K isS isB) (m:=.ok<|eP j 8) (σ':=fun v=>[some (.ref x),some v]) (Eh (fw (Fy<|bq (R:=sh<|isL<|isT2 K isS isB) h2) (FE (df (aR (br (K:=K) (aG (x:=Cv "SpoolDry") (l:=[83,112,111,111,108,68,114,121]) (dW _ _ (by decide +kernel)))<|di (K:=K) (C:=C) (v:=.ref Z0a) (c:=.ref Z0a) (b:=decide<|6=j) rfl rfl<|hc 6 _ rfl) (aR (br (K:=K) (aG (x:=Cv "NoTablet") (l:=[78,111,84,97,98,108,101,116]) (dW _ _ (by decide +kernel)))<|di (K:=K) (C:=C) (v:=.ref Z0b) (c:=.ref Z0b) (b:=decide<|7=j) rfl rfl<|hc 7 _ rfl)<|de (R:=isT2 K isS isB)))))))<|fun v3 W4 e3 h3=>?_;have E0:=E0.trans e3;refine aq (Er:=fun _=>False) (i:=1) (R:=sh<|isL<|isT2 K isS isB) (m:=.ok<|eP j 10) (σ':=fun v=>[some (.ref x),some v]) (Eh (fw (Fy<|bq (R:=sh<|isL<|isT2 K isS isB) h3) (FE (df (aR (br (K:=K) (aG (x:=Cv "NothingLeft") (l:=[78,111,116,104,105,110,103,76,101,102,116]) (dW _ _ (by decide +kernel)))<|di (K:=K) (C:=C) (v:=.ref Z04) (c:=.ref Z04) (b:=decide<|8=j) rfl rfl<|hc 8 _ rfl) (aR (br (K:=K) (aG (x:=Cv "Unlike") (l:=[85,110,108,105,107,101]) (dW _ _ (by decide +kernel)))<|di (K:=K) (C:=C) (v:=.ref Z0l) (c:=.ref Z0l) (b:=decide<|9=j) rfl rfl<|hc 9 _ rfl)<|de (R:=isT2 K isS isB)))))))<|fun v4 W5 e4 h4=>?_;have E0:=E0.trans e4;refine aq (Er:=fun _=>False) (i:=1) (R:=sh<|isL<|isT2 K isS isB) (m:=.ok<|eP j 12) (σ':=fun v=>[some (.ref x),some v]) (Eh (fw (Fy<|bq (R:=sh<|isL<|isT2 K isS isB) h4) (FE (df (aR (br (K:=K) (aG (x:=Cv "SeenThread") (l:=[83,101,101,110,84,104,114,101,97,100]) (dW _ _ (by decide +kernel)))<|di (K:=K) (C:=C) (v:=.ref Z05) (c:=.ref Z05) (b:=decide<|10=j) rfl rfl<|hc 10 _ rfl) (aR (br (K:=K) (aG (x:=Cv "NoSuchWay") (l:=[78,111,83,117,99,104,87,97,121]) (dW _ _ (by decide +kernel)))<|di (K:=K) (C:=C) (v:=.ref Z07) (c:=.ref Z07) (b:=decide<|11=j) rfl rfl<|hc 11 _ rfl)<|de (R:=isT2 K isS isB)))))))<|fun v5 W6 e5 h5=>?_;have E0:=E0.trans e5;refine aq (Er:=fun _=>False) (i:=1) (R:=sh<|isL<|isT2 K isS isB) (m:=.ok<|eP j 14) (σ':=fun v=>[some (.ref x),some v]) (Eh (fw (Fy<|bq (R:=sh<|isL<|isT2 K isS isB) h5) (FE (df (aR (br (K:=K) (aG (x:=Cv "Barred") (l:=[66,97,114,114,101,100]) (dW _ _ (by decide +kernel)))<|di (K:=K) (C:=C) (v:=.ref Z0m) (c:=.ref Z0m) (b:=decide<|12=j) rfl rfl<|hc 12 _ rfl) (aR (br (K:=K) (aG (x:=Cv "no BandError") (l:=[110,111,32,66,97,110,100,69,114,114,111,114]) (dW _ _ (by decide +kernel)))<|nL<|di (K:=K) (C:=C) (v:=.ref Z08) (c:=.ref Z08) (b:=true) rfl rfl hB)<|de (R:=isT2 K isS isB)))))))<|fun v6 W7 e6 h6=>?_;have E0:=E0.trans e6;refine aq (Er:=fun _=>False) (i:=1) (R:=sh<|isL<|isT2 K isS isB) (m:=.ok<|eP j 15) (σ':=fun v=>[some (.ref x),some v]) (Eh (fw (Fy<|bq (R:=sh<|isL<|isT2 K isS isB) h6) (FE (df (aR (br (K:=K) (aG (x:=Cv "no ValueError") (l:=[110,111,32,86,97,108,117,101,69,114,114,111,114]) (dW _ _ (by decide +kernel)))<|nL<|di (K:=K) (C:=C) (v:=.ty "ValueError") (c:=.type "ValueError") (b:=true) rfl rfl hV)<|de (R:=isT2 K isS isB))))))<|fun v7 W8 e7 h7=>?_;have E0:=E0.trans e7;refine gh (Er:=fun _=>False) (m:=.ok [kindN.getD j []]) (o4 j hj▸(sT (R:=isT2 K isS isB) (R':=isS) (m:=.ok<|eP j 15) (f:=wQ) (dX<|bq (R:=sh<|isL<|isT2 K isS isB) h7) fun W3 a1 v2 e4 h5 Q12 k13=>?_:EVo (fun _=>False) _ _ _ isS ((CB<|eP j 15).bind fun xs=>jr xs wQ)))<|fun p W e hp o=>hq p W (E0.trans e) (none_of E0.h hp) o;refine lF h5 fun v6 v8 h7 h9=>?_;cases h7;cases h9;refine⟨by simp[Keep,aW],((jR<|bq (R:=sh isB) (a:=a1.2) (v:=.bl a1.2) rfl):TV (fun _=>False) _ [some (.str<|sOf a1.1),some<|.bl a1.2] _ _) _ (.refl _) _ ?_⟩;intro W15 e16;unfold wQ at k13;cases hb:a1.2 with
  |false=>rw[hb]at k13;exact k13 none _ e16 trivial
  |true=>
   rw[hb]at k13;rw[if_pos rfl];exact((bq (R:=sh isS) (a:=a1.1) (v:=.str<|sOf a1.1) rfl):EV (fun _=>False) _ [some (.str<|sOf a1.1),some<|.bl true] _ _ _) W15 (.refl _) _ (fun u W18 e19 h21=>k13 (some u) _ (e16.trans e19) h21)
end
end Wb
local macro_rules | `(tactic|walk_at "L")=>`(tactic|first | exact G4 rfl | exact FR rfl)
local macro_rules | `(tactic|walk_at "F")=>`(tactic|exact⟨rfl,rfl,rfl,by decide +kernel,rfl,by decide +kernel,by decide +kernel⟩)
namespace Wb
open PySem L2 Mi
section
variable{P:CQ}{w:D4}{K:Cq}{mg:Str->Option Cr}{base:Heap}
theorem BD{f:Addr}{fd:CP}(F:Fun K "_law_at" "_law_at" (tp 43) f fd)(Z15:mg "len"=none):FnOk P w K mg base CX0 (1) f fd ["_law_script","_law_k"] (bS (isScr K) isI (rs isI)<|Ao):=by
 have SC:FnScope ["_law_script","_law_k"] ["_law_script","_law_k"] (defScope<|tp 43):=by walk_at "F"
 refine F.ok SC (fun vs H Q E h=>?_)<|fun cdv A outer s H vs Q E hr h=>?_;·obtain⟨_,_,_,_,_,_,rfl,_⟩:=h;rfl
 ·obtain⟨W0,Z0C,l_k,Z0Y,_,rfl,rfl,Z02,z_l_k,Er,hq⟩:=h;cases z_l_k
  refine⟨_,(a6 (cI (bQ oA (pv 1) (aj (cB (K:=K) rfl) (by rfl) Z15 Ey<|a4 (pv 0) a5)<|bG _) (ae<|au<|aY (cP (K:=K) rfl) (pv 0) (pv 1)<|fun _ _=>rfl) bt)
   (ae (au (ao bE (ao je (ao cN (ao je (pv 1) af) af) (ao cN (aj (cB (K:=K) rfl) (by rfl) Z15 Ey (a4 (pv 0) a5)) af)) af)))),?_⟩
  have E0:Ext W0 W0:=.refl W0;unfold Ao at hq;refine dY (Er:=Er) (cM<|eX bU<|kJ<|bH Z02)<|fun W1 e2=>?_;have E0:=E0.trans e2;have Z02:=Cp e2.g Z02;by_cases hb13:(decide<|l_k<(Z0C.length:Int))=true
  ·rw[if_pos hb13]at hq ⊢;exact aV (Er:=Er) (t9 (bH Z02) bU)<|D8 hq fun y3 hq v4 W5 e6 h7=>hq v4 W5 (E0.trans e6) h7
  ·rw[if_neg hb13]at hq ⊢
   try dsimp only[aM]
   exact aV (Er:=Er) (aX (fun _=>by decide) (sM (bO (aX (fun _=>.inr ⟨by decide,by decide⟩) bU) ar)<|bO (kJ<|bH Z02) ar))<|D8 hq fun y9 hq v10 W11 e12 h13=>hq v10 W11 (E0.trans e12) h13
theorem BE{f:Addr}{fd:CP}(F:Fun K "_law_row" "_law_row" (tp 40) f fd)(Z3o:mg "abs"=none)(Z1t:mg "range"=none):FnOk P w K mg base CX0 (1) f fd ["_law_cell","_law_many","_law_base"] (mj isI isI isI (ro isI)<|Ap):=by
 have SC:FnScope ["_law_cell","_law_many","_law_base","_law_now","_law_far","_law_mix","_law_out","_law_k"] ["_law_cell","_law_many","_law_base"] (defScope<|tp 40):=by walk_at "F"
 refine F.ok SC (fun vs H Q E h=>?_)<|fun cdv A outer s H vs Q E hr h=>?_;·obtain⟨_,_,_,_,_,_,_,_,rfl,_⟩:=h;rfl
 ·obtain⟨W0,Z0u,Z1l,Z1S,_,_,_,rfl,rfl,Z2y,Z7B,ZeP,Er,hq⟩:=h;cases Z2y;cases Z7B;cases ZeP
  refine⟨_,(a6 (eY 3 (aj gQ (by rfl) Z3o Fu<|a4 (pv 0) a5))
   (a6 (eY 4<|eS xi (pv 3) (ao rK af af)<|bG _)
   (a6 (eY 5<|ao bE (pv 3) af)
   (a6 (eY 6<|bM a5)
   (a6 (dM E7 rfl (gb rfl Z1t<|a4 (pv 1) a5) (iN 7) (a6 (eY 5<|ao bE (ao cN (ao cN (ao je (pv 5) af) af)<|pv 7) af)
   (ae (cI (Ke<|l5 (cC<|pv 4)<|iW<|bQ rN (pv 3) af<|bG _) (a6 (d4<|dg (K:=K) rfl (pv 6)<|a4 (ao bE (pv 3)<|pv 2) a5)
   (ae (eY 3 (ao dC (pv 3) (pv 2))))) (ae (d4 (dg (K:=K) rfl (pv 6) (a4 (ao bE (ao bE (ao je (pv 5) (pv 5)) af) (pv 2)) a5))))))))
   (ae (au (pv 6)))))))),?_⟩
  have E0:Ext W0 W0:=.refl W0;unfold Ap at hq;refine aq (Er:=Er) (lC bU)<|fun v3 W1 e2 h4=>?_;cases h4;have E0:=E0.trans e2;refine aq (Er:=Er) (eX bU (oY (r:=1000000000000000000) (by decide) (by decide)))<|fun v7 W5 e6 h8=>?_;cases h8;have E0:=E0.trans e6;refine aq (Er:=Er) (aX (fun _=>by decide) bU)<|fun v11 W9 e10 h12=>?_;cases h12;have E0:=E0.trans e10;refine gi (Er:=Er) (lB (R:=isI))<|fun p15 W13 e14 hp16 o17=>?_;have fr18:=none_of E0.h hp16;have E0:=E0.trans e14;refine dH (Er:=Er) (f:=(yX Z0u Z1S)) (s0:=(((cH Z0u)%2147483647),cH Z0u,([]:List Int))) (Iv:=fun(s21:(Int×Int×(List Int)))(W22:Wd)(g23:St)=>∃(d25:Option V),g23=[some (.int Z0u),some<|.int Z1l,some<|.int Z1S,some<|.int s21.2.1,some<|.bl<|decide<|(1000000000000000000:Int)<=cH Z0u,some<|.int s21.1,some<|.ref p15,d25]/\Ext W0 W22/\Ow isI W22 p15 s21.2.2) (gV bU) (Cn hq) ?_ ?_ ?_
  ·intro W37 e38;have E0:=E0.trans e38;have o17:=o17.mono e38;exact⟨_,rfl,E0,o17⟩
  ·intro Wb26 W27 W28 a19 v29 s20 sg30 P31 hW32 hB33 iv e34 h35 hq;obtain⟨d25,rfl,E0,o24⟩:=iv;have E0:=E0.trans e34;have hB33:=hB33.trans e34.g;have o24:=o24.mono e34;cases h35;refine gn (σ':=[some (.int Z0u),some<|.int Z1l,some<|.int Z1S,some<|.int s20.2.1,some<|.bl<|decide<|(1000000000000000000:Int)<=cH Z0u,some<|.int s20.1,some<|.ref p15,some<|.int a19]) ?_;unfold yX at hq;refine aq (Er:=Er) (aX (fun _=>by decide) (bO (bO (aX (fun _=>.inr ⟨by decide,by decide⟩) bU) ar) bU))<|fun v43 W41 e42 h44=>?_;cases h44;have E0:=E0.trans e42;have hB33:=hB33.trans e42.g;have o24:=o24.mono e42;refine sW (Er:=Er) (Iv:=fun(s74:(Int×(List Int)))(W75:Wd)(g76:St)=>g76=[some (.int Z0u),some<|.int Z1l,some<|.int Z1S,some<|.int s74.1,some<|.bl<|decide<|(1000000000000000000:Int)<=cH Z0u,some<|.int<|(((s20.1*48271)+(7919:Int))+a19)%2147483647,some<|.ref p15,some<|.int a19]/\Ext W0 W75/\Ow isI W75 p15 s74.2) (sO (jR Bp)<|cM<|eX bU ar) (Cn hq) ?_ ?_ ?_
   ·intro W46 N49 e47 hN50 hq;have hs51:=e47.g;have E0:=E0.trans e47;have hB33:=hB33.trans e47.g;have o24:=o24.mono e47;refine sZ (Er:=Er) o24 (ly bU bU)<|(Cn hq).imp fun y55 hq W52 mu53 o54=>?_;have E0:=mu53.e _ E0 fr18;have hB33:=hB33.trans mu53.g;have hs51:=hs51.trans mu53.g;refine gJ (Er:=Er) (vN bU bU)<|(Cn hq).imp fun y59 hq v60 W57 e58 h61=>?_;cases h61;have E0:=E0.trans e58;have hB33:=hB33.trans e58.g;have hs51:=hs51.trans e58.g;have o54:=o54.mono e58;exact hN50 (y59,y55) W57 _ hs51 ⟨rfl,E0,o54⟩ hq
   ·intro W46 N49 e47 hN50 hq;have hs62:=e47.g;have E0:=E0.trans e47;have hB33:=hB33.trans e47.g;have o24:=o24.mono e47;refine lG (Er:=Er) o24 (ly (aX (fun _=>by decide)<|sM bU bU) bU)<|(Cn hq).imp fun y68 hq W65 mu66 o67=>?_;have E0:=mu66.e _ E0 fr18;have hB33:=hB33.trans mu66.g;have hs62:=hs62.trans mu66.g;exact hN50 (s20.2.1,y68) W65 _ hs62 ⟨rfl,E0,o67⟩ hq
   ·intro s70 W71 sg72 hS73 iv hq;obtain⟨rfl,E0,o77⟩:=iv;have hB33:=hB33.trans hS73
    try dsimp only
    refine dP (W:=W71) (((((s20.1*48271)+(7919:Int))+a19)%2147483647),s70.1,s70.2) hB33 ?_ hq;exact⟨_,rfl,E0,o77⟩
  ·intro s79 W80 sg81 hS82 iv hq;obtain⟨d25,rfl,E0,o24⟩:=iv;exact⟨.ref p15,rfl,hq p15 W80 E0 fr18 o24⟩
theorem BF{f:Addr}{fd:CP}(F:Fun K "_law_holes" "_law_holes" (tp 41) f fd){mZ:Int->Int->Int->Res (List Int)}(Z2g:Cal P w K mg base "_law_row" ["_law_cell","_law_many","_law_base"] (1) (mj isI isI isI (ro isI) mZ)):FnOk P w K mg base CX0 (2) f fd ["_law_cell"] (dG isI (rs isS)<|Aq mZ):=by
 have SC:FnScope ["_law_cell","_law_size","_law_draws","_law_out","_law_d"] ["_law_cell"] (defScope<|tp 41):=by walk_at "F"
 refine F.ok SC (fun vs H Q E h=>?_)<|fun cdv A outer s H vs Q E hr h=>?_;·obtain⟨_,_,_,_,rfl,_⟩:=h;rfl
 ·obtain⟨W0,Z0u,_,rfl,rfl,Z2y,Er,hq⟩:=h;cases Z2y;refine⟨_,(a6 (eY 1<|aY (cP (K:=K) rfl) (bM<|a4 af<|a4 af<|a4 af<|a4 af<|a4 af a5) (ao bE (pv 0) af)<|fun _ _=>rfl)
   (a6 (eY 2<|ff Z2g<|a4 (ao dC (pv 0) af)<|a4 af<|a4 af a5)
   (a6 (eY 3 aA)
   (a6 (dM E7 rfl (cW (K:=K) rfl<|rX (sE (K:=K) rfl) (pv 2) vv<|vz af) (iN 4)<|ae<|eY 3<|ao d9 (pv 3)<|aY bW aA (ao bE (ao cN (aY (cP (K:=K) rfl) (pv 2) af<|fun _ _=>rfl)<|ao je (ao bE (pv 4)<|pv 1) af) af)<|fun _ _=>rfl)
   (ae (au (pv 3))))))),?_⟩
  have E0:Ext W0 W0:=.refl W0;unfold Aq at hq;refine aq (Er:=Er) (fQ (FE<|df<|aR ar<|aR ar<|aR ar<|aR ar<|aR ar<|de (R:=isI)) (aX (fun _=>by decide) bU))<|(Cn hq).imp fun y3 hq v4 W1 e2 h5=>?_;cases h5;have E0:=E0.trans e2;refine aq (Er:=Er) (Eh (ip (aX (fun _=>⟨by decide,by decide⟩) bU) ar ar))<|(Cn hq).imp fun y8 hq v9 W6 e7 h10=>?_;have E0:=E0.trans e7;refine aq (Er:=Er) (aG (x:=Cv "") (l:=[]) (dW _ _ (by decide +kernel)))<|fun v13 W11 e12 h14=>?_;cases h14;have E0:=E0.trans e12;have h10:=Cp e12.g h10;refine dH (Er:=Er) (f:=(yY y3 y8)) (s0:=([]:Tx)) (Iv:=fun(s17:Tx)(W18:Wd)(g19:St)=>∃(d20:Option V),g19=[some (.int Z0u),some<|.int y3,some v9,some<|.str<|sOf s17,d20]/\Ext W0 W18) (dX<|Eh<|vS (Fy<|bH h10) zz<|zA ar) (Cn hq) ?_ ?_ ?_
  ·intro W32 e33;have E0:=E0.trans e33;have h10:=Cp e33.g h10;exact⟨_,rfl,E0⟩
  ·intro Wb21 W22 W23 a15 v24 s16 sg25 P26 hW27 hB28 iv e29 h30 hq;obtain⟨d20,rfl,E0⟩:=iv;have h10:=Cp hW27 h10;have E0:=E0.trans e29;have hB28:=hB28.trans e29.g;have h10:=Cp e29.g h10;cases h30;refine gn (σ':=[some (.int Z0u),some<|.int y3,some v9,some<|.str<|sOf s16,some<|.int a15]) ?_;unfold yY at hq;refine gJ (Er:=Er) (ft dh (bY (aG (x:=Cv "abcdefghijklmnopqrstuvwxyz") (l:=[97,98,99,100,101,102,103,104,105,106,107,108,109,110,111,112,113,114,115,116,117,118,119,120,121,122]) (dW _ _ (by decide +kernel))) (aX (fun _=>by decide) (bO (fQ (Fy<|bH h10) ar) (aX (fun _=>.inr ⟨by decide,by decide⟩)<|ly bU bU)))))<|(Cn hq).imp fun y44 hq v45 W36 e37 h46=>?_;cases h46;have E0:=E0.trans e37;have hB28:=hB28.trans e37.g;have h10:=Cp e37.g h10
   try dsimp only
   refine dP (W:=W36) y44 hB28 ?_ hq;exact⟨_,rfl,E0⟩
  ·intro s47 W48 sg49 hS50 iv hq;obtain⟨d20,rfl,E0⟩:=iv;exact aV (Er:=Er) dh<|fun v51 W52 e53 h54=>hq v51 W52 (E0.trans e53) h54
theorem BG{f:Addr}{fd:CP}(F:Fun K "_law_card" "_law_card" (tp 42) f fd){wG:Int->Res Tx}(Z3U:Cal P w K mg base "_law_holes" ["_law_cell"] (2) (dG isI (rs isS) wG)):FnOk P w K mg base CX0 (3) f fd ["_law_cell"] (dG isI (rs<|qA K)<|Ar wG):=by
 have SC:FnScope ["_law_cell"] ["_law_cell"] (defScope<|tp 42):=by walk_at "F"
 refine F.ok SC (fun vs H Q E h=>?_)<|fun cdv A outer s H vs Q E hr h=>?_;·obtain⟨_,_,_,_,rfl,_⟩:=h;rfl
 ·obtain⟨W0,Z0u,_,rfl,rfl,Z2y,Er,hq⟩:=h;cases Z2y;refine⟨_,(ae<|au<|bg<|a4 (aY bW aA (ao bE (pv 0) af)<|fun _ _=>rfl)<|a4 (ff Z3U<|a4 (ao dC (pv 0) af) a5)<|a4 (ao bE (ao dC (pv 0) af) af) a5),?_⟩;have E0:Ext W0 W0:=.refl W0;unfold Ar at hq;exact aV (Er:=Er) (fu (K:=K) (bY (aG (x:=Cv "SZ") (l:=[83,90]) (dW _ _ (by decide +kernel))) (aX (fun _=>by decide) bU)) (cY (aX (fun _=>⟨by decide,by decide⟩) bU)) (aX (fun _=>by decide) (aX (fun _=>⟨by decide,by decide⟩) bU)))<|D8 hq fun y3 hq v4 W5 e6 h7=>hq v4 W5 (E0.trans e6) h7
theorem BH{f:Addr}{fd:CP}(F:Fun K "_law_draft" "_law_draft" (tp 44) f fd){uY:Int->Res Cd}{iO:List Int->Int->Res Int}(Z4X:Cal P w K mg base "_law_card" ["_law_cell"] (3) (dG isI (rs<|qA K) uY))(Z1P:Cal P w K mg base "_law_at" ["_law_script","_law_k"] (1) (bS (isScr K) isI (rs isI) iO))(Z1t:mg "range"=none):FnOk P w K mg base CX0 (4) f fd ["_law_script","_law_at_here","_law_width"] (mj (isScr K) isI isI (ro<|qA K)<|As uY iO):=by
 have SC:FnScope ["_law_script","_law_at_here","_law_width"] ["_law_script","_law_at_here","_law_width"] (defScope<|tp 44):=by walk_at "F"
 refine F.ok SC (fun vs H Q E h=>?_)<|fun cdv A outer s H vs Q E hr h=>?_;·obtain⟨_,_,_,_,_,_,_,_,rfl,_⟩:=h;rfl
 ·obtain⟨W0,Z0C,Z21,Z3O,Z0Y,_,_,rfl,rfl,Z02,ZbH,ZdQ,Er,hq⟩:=h;cases ZbH;cases ZdQ;refine⟨_,(ae (au (cJ (N:=["_law_k","_law_script","_law_at_here"]) (cap:=[none,some 0,some 1]) (fb rfl (by decide +kernel) rfl (by decide +kernel) (by rfl) (by rfl)) rfl (gb rfl Z1t<|a4 (pv 2) a5) (fun _ _ _ _=>(aP (i:=0) (show Ds (["_law_k","_law_script","_law_at_here"]:List Str) by decide +kernel) rfl (by walk_at "L"))) (fun _ _ _ _=>bR)<|fun _ _ _ _=>(ff Z4X<|a4 (ff Z1P<|a4 (pv 1)<|a4 (ao cN (pv 2)<|pv 0) a5) a5)))),?_⟩;have E0:Ext W0 W0:=.refl W0;rw[show L2.start ["_law_script","_law_at_here","_law_width"] [Z0Y,.int Z21,.int Z3O]=[some Z0Y,some<|.int Z21,some<|.int Z3O]from rfl];unfold As at hq;exact gh (Er:=Er) (cf (gV bU) fun W3 a1 v2 e4 h5 Q10 k11=>by
   have h6:=Dx (R:=sh (isScr K)) e4 Z02;cases h5;refine gn ?_;exact⟨by simp[Keep,aW],((cY (bC (bH h6) (bO bU bU))):EV Er _ [some (.int a1),some Z0Y,some (.int Z21)] _ _ _) _ (.refl _) _ k11⟩) (D8 hq fun y13 hq p14 W15 e16 hp17 o18=>hq p14 W15 (E0.trans e16) (none_of E0.h hp17) o18)
theorem BI{f:Addr}{fd:CP}{Z00:Addr}(F:Fun K "__init__" "Stage.__init__" (tq 31 0) f fd)(Z0k:Cls K Z00)(Z1J:NoAttr K Z00 "deed")(Z0t:NoAttr K Z00 "standing")(Z0A:NoAttr K Z00 "reached")(Z0B:NoAttr K Z00 "highest")(Z0S:NoAttr K Z00 "lengths")(Z12:NoAttr K Z00 "pick"):FnOk P w K mg base CX0 (1) f fd ["self","deed","standing","reached","highest","lengths","pick"] (qS Z00 ["deed","standing","reached","highest","lengths","pick"]):=by
 have SC:FnScope ["self","deed","standing","reached","highest","lengths","pick"] ["self","deed","standing","reached","highest","lengths","pick"] (defScope<|tq 31 0):=by walk_at "F"
 refine F.ok SC (fun vs H Q E h=>?_)<|fun cdv A outer s H vs Q E hr h=>?_;·obtain⟨_,_,us,rfl,hl,_⟩:=h;rw[Dr,hl];rfl
 ·obtain⟨aa,dx,us,rfl,hl,ha,hq⟩:=h
  match us,hl,hq with
  | [u0,u1,u2,u3,u4,u5],_,hq=>
   refine⟨_,(a6 (en (pv 0) (pv 1) rfl)
   (a6 (en (pv 0) (pv 2) rfl)
   (a6 (en (pv 0) (pv 3) rfl)
   (a6 (en (pv 0) (pv 4) rfl)
   (a6 (en (pv 0) (pv 5) rfl)
   (ae (en (pv 0) (pv 6) rfl))))))),?_⟩
   refine⟨u0,rfl,.ref aa,rfl,aa,Z00,dx,_,rfl,ha,Z0k,Z1J,(by show 0<1000;decide),⟨u1,rfl,.ref aa,rfl,aa,Z00,dx,_,rfl,ai,Z0k,Z0t,(by show 1<1000;decide),⟨u2,rfl,.ref aa,rfl,aa,Z00,dx,_,rfl,ai,Z0k,Z0A,(by show 2<1000;decide),⟨u3,rfl,.ref aa,rfl,aa,Z00,dx,_,rfl,ai,Z0k,Z0B,(by show 3<1000;decide),⟨u4,rfl,.ref aa,rfl,aa,Z00,dx,_,rfl,ai,Z0k,Z0S,(by show 4<1000;decide),⟨u5,rfl,.ref aa,rfl,aa,Z00,dx,_,rfl,ai,Z0k,Z12,(by show 5<1000;decide),?_⟩⟩⟩⟩⟩⟩;show Q .non _
   repeat rw[oo]
   exact hq
theorem BJ{f:Addr}{fd:CP}(F:Fun K "first_stage" "first_stage" (tp 32) f fd){Z00:Addr}(Z2h:CalI P w K mg base "Stage" Z00 ["self","deed","standing","reached","highest","lengths","pick"] (1) (qS Z00 ["deed","standing","reached","highest","lengths","pick"]))(Z0k:Cls K Z00)(Z5Q:mg "dict"=none)(Z15:mg "len"=none)(Z1a:mg "list"=none):FnOk P w K mg base CX0 (3) f fd ["draft","spools"] (bS (isL<|qA K) kW (rs<|aD K Z00)<|Au):=by
 have SC:FnScope ["draft","spools"] ["draft","spools"] (defScope<|tp 32):=by walk_at "F"
 refine F.ok SC (fun vs H Q E h=>?_)<|fun cdv A outer s H vs Q E hr h=>?_;·obtain⟨_,_,_,_,_,_,rfl,_⟩:=h;rfl
 ·obtain⟨W0,draft,spools,Z36,Z60,rfl,rfl,Z0D,Z0U,Er,hq⟩:=h;refine⟨_,(ae (au (ja Z2h (hr.mono (by decide)) (by rfl) (a4 i8 (a4 (dz (cX (K:=K) rfl) (by rfl) Z1a Ec<|a4 (pv 0) a5) (a4 (ao rY (bM<|a4 af a5) (aj (cB (K:=K) rfl) (by rfl) Z15 Ey<|a4 (pv 0) a5)) (a4 (ao rY (bM<|a4 af a5) (aj (cB (K:=K) rfl) (by rfl) Z15 Ey<|a4 (pv 0) a5)) (a4 (ym (dz kT (by rfl) Z5Q HB<|a4 (pv 1) a5))<|a4 i8 a5)))))))),?_⟩;have E0:Ext W0 W0:=.refl W0;unfold Au at hq;exact aV (Er:=Er) (jD (gL<|gL<|gL<|gL<|gL yt)<|bc (eL (K:=K) tL ya)<|bc (Eh<|fR<|Fy<|bH Z0D)<|bc (Eh<|pq (FE<|df<|aR ar<|de (R:=isI))<|gU<|Fy<|bH Z0D)<|bc (Eh<|pq (FE<|df<|aR ar<|de (R:=isI))<|gU<|Fy<|bH Z0D)<|bc (EVd.ev<|mD<|EV.pkD<|bH Z0U)<|jC<|lx (R:=(qD K)))<|D8 hq fun y6 hq v7 W8 e9 h10=>hq v7 W8 (E0.trans e9) h10
theorem BK{f:Addr}{fd:CP}(F:Fun K "__init__" "Loom.__init__" (tq 38 0) f fd){wH:(List Cd)->hX->Res dw}{Z00 Z01:Addr}(Z3u:Cal P w K mg base "first_stage" ["draft","spools"] (3) (bS (isL<|qA K) kW (rs<|aD K Z00) wH))(Z0p:Cls K Z01)(Z0x:NoAttr K Z01 "course")(Z1W:NoAttr K Z01 "most")(Z1K:NoAttr K Z01 "start")(Z1u:NoAttr K Z01 "undone"):FnOk P w K mg base CX0 (4) f fd ["self","draft","most","spools"] (pE Z01 (dF K Z00) (wC (sh<|isL<|qA K)<|wC (sh isI)<|wC (sh kW) wN)<|fun a=>zU wH a.1 a.2.1 a.2.2.1):=by
 have SC:FnScope ["self","draft","most","spools"] ["self","draft","most","spools"] (defScope<|tq 38 0):=by walk_at "F"
 refine F.ok SC (fun vs H Q E h=>?_)<|fun cdv A outer s H vs Q E hr h=>?_;·obtain⟨_,_,_,_,_,us,_,rfl,_,_,_,_,_,_,_,_,ra,_⟩:=h;obtain⟨_,us,rfl,_,ra⟩:=ra;obtain⟨_,us,rfl,_,ra⟩:=ra;obtain⟨_,us,rfl,_,ra⟩:=ra;cases ra;rfl
 ·obtain⟨W0,W,aa,dx,ax,us,rfl,rfl,E0,n1,n2,nd,ga,gd,ha,hd,ra,Er,hq⟩:=h;obtain⟨draft,most,spools,_⟩:=ax;obtain⟨Z36,us,rfl,Z0D,ra⟩:=ra;replace Z0D:(sh<|isL<|qA K) W0 draft Z36:=Z0D;obtain⟨Zfk,us,rfl,Za7,ra⟩:=ra;replace Za7:(sh isI) W0 most Zfk:=Za7;obtain⟨Z60,us,rfl,Z0U,ra⟩:=ra;replace Z0U:(sh kW) W0 spools Z60:=Z0U;cases ra;have Z0D:=Cp E0.g Z0D;cases Za7;have Z0U:=Cp E0.g Z0U;replace hq:(zU wH draft most spools).OkE Er (fun b=>∀W' F,Ext W0 W'->(∀q,F q->W0.H q=none)->oOb Z01 (dF K Z00) W' F b (.ref aa)->Q .non W'.H):=hq;refine⟨_,(a6 (en (pv 0) (pv 2) rfl)
   (a6 (en (pv 0) (ff Z3u<|a4 (pv 1)<|a4 (pv 3) a5) rfl)
   (a6 (en (pv 0) (bM a5) rfl)
   (ae (en (pv 0) (bM a5) rfl))))),?_⟩
  have S:Sep W0 W [tc (oRaw Z01 aa dx []) () (.ref aa)]:=Jo (R:=oRaw Z01 aa dx []) (F:=fun q=>q=aa\/q=dx) ⟨rfl,ga,gd,ha,hd,nd,fun q=>GD⟩ (fun q hq=>hq.elim (fun z=>by rw[z];exact n1) fun z=>by rw[z];exact n2);unfold zU at hq;refine jB (Er:=Er) Z0p Z1W (by show 0<1000;decide) S E0 (EV.trf bU)<|fun u1 W2 E0 hS3 S=>?_;rw[hW]at S;have S:Sep W0 W2 [tc (oRaw Z01 aa dx [("most",u1)]) () (.ref aa),tc (fz isI) most u1]:=S;have Z0D:=Cp hS3 Z0D;have Z0U:=Cp hS3 Z0U;refine jB (Er:=Er) Z0p Z1K (by show 1<1000;decide) S E0 (EV.trf<|bC (bH Z0D)<|bH Z0U)<|(Cn hq).imp fun y7 hq u4 W5 E0 hS6 S=>?_;rw[gs (by decide),hW]at S;have S:Sep W0 W5 [tc (oRaw Z01 aa dx [("most",u1),("start",u4)]) () (.ref aa),tc (fz isI) most u1,tc (fz<|aD K Z00) y7 u4]:=S;have Z0D:=Cp hS6 Z0D;have Z0U:=Cp hS6 Z0U;refine jB (Er:=Er) Z0p Z0x (by show 2<1000;decide) S E0 (fS (R:=(fz<|aD K Z00)))<|fun u8 W9 E0 hS10 S=>?_;rw[gs (by decide),gs (by decide),hW]at S;have S:Sep W0 W9 [tc (oRaw Z01 aa dx [("most",u1),("start",u4),("course",u8)]) () (.ref aa),tc (fz isI) most u1,tc (fz<|aD K Z00) y7 u4,tc (oL<|fz<|aD K Z00) ([]:List dw) u8]:=S;have Z0D:=Cp hS10 Z0D;have Z0U:=Cp hS10 Z0U;refine uk (Er:=Er) Z0p Z1u (by show 3<1000;decide) S E0 (fS (R:=(fz<|aD K Z00)))<|fun u11 W12 E0 hS13 S=>?_;rw[gs (by decide),gs (by decide),gs (by decide),hW]at S;have S:Sep W0 W12 [tc (oRaw Z01 aa dx [("most",u1),("start",u4),("course",u8),("undone",u11)]) () (.ref aa),tc (fz isI) most u1,tc (fz<|aD K Z00) y7 u4,tc (oL<|fz<|aD K Z00) ([]:List dw) u8,tc (oL<|fz<|aD K Z00) ([]:List dw) u11]:=S;have Z0D:=Cp hS13 Z0D;have Z0U:=Cp hS13 Z0U;obtain⟨F,hF,t⟩:=Bc S;exact hq _ F E0 hF t
theorem BL{f:Addr}{fd:CP}(F:Fun K "_law_turns" "_law_turns" (tp 45) f fd){mZ:Int->Int->Int->Res (List Int)}(Z2g:Cal P w K mg base "_law_row" ["_law_cell","_law_many","_law_base"] (1) (mj isI isI isI (ro isI) mZ)):FnOk P w K mg base CX0 (2) f fd ["_law_cell","_law_many"] (bS isI isI (rs isS)<|Av mZ):=by
 have SC:FnScope ["_law_cell","_law_many"] ["_law_cell","_law_many"] (defScope<|tp 45):=by walk_at "F"
 refine F.ok SC (fun vs H Q E h=>?_)<|fun cdv A outer s H vs Q E hr h=>?_;·obtain⟨_,_,_,_,_,_,rfl,_⟩:=h;rfl
 ·obtain⟨W0,Z0u,Z1l,_,_,rfl,rfl,Z2y,Z7B,Er,hq⟩:=h;cases Z2y;cases Z7B;refine⟨_,(a6 (cI (bQ gA (ao bE (pv 0) af) af<|bG _) (ae<|au<|ao nE (aY bW aA (ao bE (ao dC (pv 0) af) af)<|fun _ _=>rfl)<|pv 1) bt)
   (ae (au (gX (K:=K) rfl aA (a4 (cJ (N:=["_law_d"]) (cap:=[none]) (fb rfl (by decide +kernel) rfl (by decide +kernel) (by rfl) (by rfl)) rfl (cW (K:=K) rfl (ff Z2g (a4 (ao dC (pv 0) af) (a4 (pv 1) (a4 af a5))))) (fun _ _ _ _=>(aP (i:=0) (show Ds (["_law_d"]:List Str) by decide +kernel) rfl (by walk_at "L"))) (fun _ _ _ _=>bR) (fun _ _ _ _=>(aY bW aA (pv 0) (fun _ _=>rfl)))) a5))))),?_⟩
  have E0:Ext W0 W0:=.refl W0;rw[show L2.start ["_law_cell","_law_many"] [.int Z0u,.int Z1l]=[some (.int Z0u),some<|.int Z1l]from rfl];unfold Av at hq;refine dY (Er:=Er) (cM (nJ (aX (fun _=>by decide) bU) ar))<|fun W1 e2=>?_;have E0:=E0.trans e2;by_cases hb24:(decide<|(Z0u%7)=(3:Int))=true
  ·rw[if_pos hb24]at hq ⊢;exact aV (Er:=Er) (vP (bY (aG (x:=Cv "fbi") (l:=[102,98,105]) (dW _ _ (by decide +kernel))) (aX (fun _=>by decide) (aX (fun _=>⟨by decide,by decide⟩) bU))) bU)<|D8 hq fun y4 hq v5 W6 e7 h8=>hq v5 W6 (E0.trans e7) h8
  ·rw[if_neg hb24]at hq ⊢
   try dsimp only[aM]
   exact aV (Er:=Er) (iY (dW _ _ (by decide +kernel)) (FE (cf (dX (Eh (ip (aX (fun _=>⟨by decide,by decide⟩) bU) bU ar))) fun W11 a9 v10 e12 h13 Q16 k17=>by
    cases h13;refine gn ?_;exact⟨by simp[Keep,aW],((bY (aG (x:=Cv "fbi") (l:=[102,98,105]) (dW _ _ (by decide +kernel))) bU):EV Er _ [some (.int a9)] _ _ _) _ (.refl _) _ k17⟩))) (D8 hq fun y20 hq v21 W22 e23 h24=>hq v21 W22 (E0.trans e23) h24)
theorem BM{f:Addr}{fd:CP}(F:Fun K "now" "Loom.now" (tq 38 1) f fd){Z00 Z01:Addr}(Z0p:Cls K Z01)(Z0x:NoAttr K Z01 "course")(Z1K:NoAttr K Z01 "start"):FnOk P w K mg base CX0 (1) f fd ["self"] (i7 (wC (vw<|a8 K Z00 Z01) wN) (rs<|aD K Z00)<|fun a=>yZ a.1):=by
 have SC:FnScope ["self"] ["self"] (defScope<|tq 38 1):=by walk_at "F"
 refine F.ok SC (fun vs H Q E h=>?_)<|fun cdv A outer s H vs Q E hr h=>?_;·obtain⟨_,_,_,ra,_⟩:=h;obtain⟨_,us,rfl,_,ra⟩:=ra;cases ra;rfl
 ·obtain⟨W0,aa,rfl,ra,Er,hq⟩:=h;obtain⟨self,_⟩:=aa;obtain⟨Z0I,us,rfl,Z0O,ra⟩:=ra;replace Z0O:(vw<|a8 K Z00 Z01) W0 self Z0I:=Z0O;cases ra;replace hq:(yZ self).OkE Er (fun r=>(rs<|aD K Z00) W0 r Q):=hq;refine⟨_,(ae<|au<|gO (kU (K:=K) rfl<|aZ (K:=K) rfl (pv 0) rfl) (aY (cP (K:=K) rfl) (aZ (K:=K) rfl (pv 0) rfl) (xh rL af)<|fun _ _=>rfl)<|aZ (K:=K) rfl (pv 0) rfl),?_⟩;have E0:Ext W0 W0:=.refl W0;unfold yZ at hq;exact aV (Er:=Er) (oV (pC (K:=K)<|j8<|gr Z0p Z0x Z1I.at_<|bq (R:=(vw<|a8 K Z00 Z01))<|Dx E0 Z0O) (j6<|pw (gr Z0p Z0x Z1I.at_<|bq (R:=(vw<|a8 K Z00 Z01))<|Dx E0 Z0O)<|sN ar)<|j6<|gr Z0p Z1K Z94.at_<|bq (R:=(vw<|a8 K Z00 Z01))<|Dx E0 Z0O)<|D8 hq fun y1 hq v2 W3 e4 h5=>hq v2 W3 (E0.trans e4) h5
theorem BN{f:Addr}{fd:CP}(F:Fun K "is_row" "is_row" (tp 28) f fd)(ZcS:mg "all"=none)(Z15:mg "len"=none){Z8t:Tok}(Z8u:mg "TURNS"=some (.str (Cv "fbi") Z8t)):FnOk P w K mg base CX0 (1) f fd ["text","width"] (bS isS isI (rs isB)<|Aw):=by
 have SC:FnScope ["text","width"] ["text","width"] (defScope<|tp 28):=by walk_at "F"
 refine F.ok SC (fun vs H Q E h=>?_)<|fun cdv A outer s H vs Q E hr h=>?_;·obtain⟨_,_,_,_,_,_,rfl,_⟩:=h;rfl
 ·obtain⟨W0,text,width,_,_,rfl,rfl,Zfl,Zfd,Er,hq⟩:=h;cases Zfl;cases Zfd;refine⟨_,(ae (au (jd (eS gA (aj (cB (K:=K) rfl) (by rfl) Z15 Ey<|a4 (pv 0) a5) (pv 1)<|bG _) (l6 (aj (qz (K:=K) rfl rfl) (by rfl) ZcS Km (a4 (cJ (N:=["sign"]) (cap:=[none]) (fb rfl (by decide +kernel) rfl (by decide +kernel) (by rfl) (by rfl)) rfl (gE<|pv 0) (fun _ _ _ _=>(aP (i:=0) (show Ds (["sign"]:List Str) by decide +kernel) rfl (by walk_at "L"))) (fun _ _ _ _=>bR) (fun _ _ _ _=>(eS qa (pv 0) (bf (v:=.str<|Cv "fbi") (by rfl) Z8u ⟨_,rfl⟩) (by with_unfolding_all rfl)))) a5)))))),?_⟩;have E0:Ext W0 W0:=.refl W0;rw[show L2.start ["text","width"] [.str (sOf text),.int width]=[some (.str<|sOf text),some<|.int width]from rfl];unfold Aw at hq;exact aV (Er:=Er) (yb (nJ (vT dh) bU) (yf (FE (cf (gH dh) fun W4 a2 v3 e5 h6 Q9 k10=>by
   cases h6;refine gn ?_;exact⟨by simp[Keep,aW],((yc dh (aG (x:=Cv "fbi") (l:=[102,98,105]) (dW _ _ (by decide +kernel)))):EV Er _ [some (.str (sOf a2))] _ _ _) _ (.refl _) _ k10⟩)))) (D8 hq fun y13 hq v14 W15 e16 h17=>hq v14 W15 (E0.trans e16) h17)
theorem BO{f:Addr}{fd:CP}(F:Fun K "twisting" "twisting" (tp 23) f fd){Z1X:Addr}(Z3P:mg "STEPS"=some (.ref Z1X))(Z3Q:DictK K w Z1X [(DF<|Cv "f",.int<|1),(DF<|Cv "b",.int<|-1),(DF<|Cv "i",.int<|0)]):FnOk P w K mg base CX0 (1) f fd ["tablet","turn"] (bS (qA K) isS (rs isI)<|Ax):=by
 have SC:FnScope ["tablet","turn","step"] ["tablet","turn"] (defScope<|tp 23):=by walk_at "F"
 refine F.ok SC (fun vs H Q E h=>?_)<|fun cdv A outer s H vs Q E hr h=>?_;·obtain⟨_,_,_,_,_,_,rfl,_⟩:=h;rfl
 ·obtain⟨W0,tablet,turn,Z3V,_,rfl,rfl,Z14,Z6E,Er,hq⟩:=h;cases Z6E
  refine⟨_,(a6 (eY 2 (gc (K:=K) (w:=w) rfl rfl (bf (v:=.ref _) (by rfl) Z3P rfl) (pv 1)<|fun _ _=>rfl))
   (ae (au (gO (bQ gA (aY (cS (K:=K) rfl) (pv 0) af (fun _ _=>rfl)) aA (bG _)) (pv 2) (xh rL (pv 2)))))),?_⟩
  have E0:Ext W0 W0:=.refl W0;unfold Ax at hq;refine aq (Er:=Er) (kK Z3Q (by decide +kernel) dh)<|(Cn hq).imp fun y3 hq v4 W1 e2 h5=>?_;cases h5;have E0:=E0.trans e2;have Z14:=Cp e2.g Z14;exact aV (Er:=Er) (oV (cM (nK (dA (f:=fun(b:Cd)=>b.1) vQ<|bH Z14) (aG (x:=Cv "S") (l:=[83]) (dW _ _ (by decide +kernel))))) bU<|sN bU)<|D8 hq fun y6 hq v7 W8 e9 h10=>hq v7 W8 (E0.trans e9) h10
theorem BP{f:Addr}{fd:CP}(F:Fun K "taken" "taken" (tp 36) f fd)(Z1R:mg "zip"=none):FnOk P w K mg base CX0 (1) f fd ["draft","row"] (bS (isL<|qA K) isS (rs kW)<|Ay):=by
 have SC:FnScope ["draft","row","lengths","tablet","turn","colour"] ["draft","row"] (defScope<|tp 36):=by walk_at "F"
 refine F.ok SC (fun vs H Q E h=>?_)<|fun cdv A outer s H vs Q E hr h=>?_;·obtain⟨_,_,_,_,_,_,rfl,_⟩:=h;rfl
 ·obtain⟨W0,draft,row,Z36,_,rfl,rfl,Z0D,z_row,Er,hq⟩:=h;cases z_row;refine⟨_,(a6 (eY 2 lY)
   (a6 (dM E7 rfl (gf (K:=K) rfl rfl Z1R<|a4 (pv 0)<|a4 (pv 1) a5) (cK (K:=K) (n:=2) rfl rfl<|av (iN 3)<|av (iN 4) cq)<|ae<|dM E7 rfl (gE<|aY (cS (K:=K) rfl) (pv 3) af<|fun _ _=>rfl) (iN 5)<|ae<|oM (jn hr) (pv 2) (pv 5) (ao cN (lZ (jn hr) (pv 2) (pv 5) af ⟨rfl,rfl,rfl,rfl⟩)<|gO (bQ gA (pv 4) aA<|bG _) af af) rfl)
   (ae (ua (i:=2) (au (pv 2)))))),?_⟩
  have E0:Ext W0 W0:=.refl W0;unfold Ay at hq;refine iy (Er:=Er) (p6 (g:=(fun(a:Tx)=>DF<|sOf a)) (R:=isI))<|fun p3 W1 e2 hp4 o5=>?_;have fr6:=none_of E0.h hp4;have E0:=E0.trans e2;have Z0D:=Cp e2.g Z0D;refine dH (Er:=Er) (f:=zW) (s0:=([]:List (Tx×Int))) (Iv:=fun(s9:hX)(W10:Wd)(g11:St)=>∃(d13:Option V)(d14:Option V)(d15:Option V),g11=[some Z36,some<|.str<|sOf row,some<|.ref p3,d14,d15,d13]/\Ext W0 W10/\OwD (fun(a:Tx)=>DF<|sOf a) isI W10 p3 s9) (lE (gI<|bH Z0D)<|ju dh) (Cn hq) ?_ ?_ ?_
  ·intro W27 e28;have E0:=E0.trans e28;have o5:=o5.mono e28;exact⟨_,_,_,rfl,E0,o5⟩
  ·intro Wb16 W17 W18 a7 v19 s8 sg20 P21 hW22 hB23 iv e24 h25 hq;obtain⟨d13,d14,d15,rfl,E0,o12⟩:=iv;have E0:=E0.trans e24;have hB23:=hB23.trans e24.g;have o12:=o12.mono e24;refine lF h25 fun v33 v35 h34 h36=>?_;cases h36;unfold zW at hq;refine sY (Er:=Er) (f:=(zV a7)) (s0:=s8) (Iv:=fun(s39:hX)(W40:Wd)(g41:St)=>∃(d43:Option V),g41=[some Z36,some<|.str<|sOf row,some<|.ref p3,some v33,some<|.str<|sOf a7.2,d43]/\Ext W0 W40/\OwD (fun(a:Tx)=>DF<|sOf a) isI W40 p3 s39) (gH<|dA (f:=fun(b:Cd)=>b.2.1) sP<|bH h34) (Cn hq) ?_ ?_ ?_
   ·intro W55 e56;have E0:=E0.trans e56;have hB23:=hB23.trans e56.g;have o12:=o12.mono e56;have h34:=Cp e56.g h34;exact⟨_,rfl,E0,o12⟩
   ·intro Wb44 W45 W46 a37 v47 s38 sg48 P49 hW50 hB51 iv e52 h53 hq;obtain⟨d43,rfl,E0,o42⟩:=iv;have hB23:=hB23.trans hW50;have h34:=Cp hW50 h34;have E0:=E0.trans e52;have hB23:=hB23.trans e52.g;have hB51:=hB51.trans e52.g;have o42:=o42.mono e52;have h34:=Cp e52.g h34;cases h53;refine gn (σ':=[some Z36,some<|.str<|sOf row,some<|.ref p3,some v33,some<|.str<|sOf a7.2,some<|.str<|sOf a37]) ?_;unfold zV at hq;refine p9 (Er:=Er) nM kS o42 (bO (mC nM kS (pA o42) dh ar) (oV (cM (nK dh (aG (x:=Cv "i") (l:=[105]) (dW _ _ (by decide +kernel))))) ar ar)) dh<|(Cn hq).imp fun y64 hq W60 mu61 o62=>?_;have E0:=mu61.e _ E0 fr6;have hB23:=hB23.trans mu61.g;have hB51:=hB51.trans mu61.g;have h34:=Cp mu61.g h34
    try dsimp only
    refine dP (W:=W60) y64 hB51 ?_ hq;exact⟨_,rfl,E0,o62⟩
   ·intro s65 W66 sg67 hS68 iv hq;obtain⟨d43,rfl,E0,o42⟩:=iv;have hB23:=hB23.trans hS68;have h34:=Cp hS68 h34
    try dsimp only
    refine dP (W:=W66) s65 hB23 ?_ hq;exact⟨_,_,_,rfl,E0,o42⟩
  ·intro s69 W70 sg71 hS72 iv hq;obtain⟨d13,d14,d15,rfl,E0,o12⟩:=iv;refine ue o12 E0 fr6 fun W73 E0 hS74 h76 hk75=>?_;exact aV (Er:=Er) (bH h76)<|fun v77 W78 e79 h80=>hq v77 W78 (E0.trans e79) h80
theorem BQ{f:Addr}{fd:CP}(F:Fun K "drawn_off" "drawn_off" (tp 37) f fd){Z06 Z0i Z0f Z0g Z0h Z09 Z0a Z0b Z04 Z0l Z05 Z07 Z0m:Addr}(Z5Q:mg "dict"=none)(Z2e:mg "SpoolDry"=some (.ref Z0a))(Z61:Ecl base Z0a):FnOk P w K mg base (CXR P w) (1) f fd ["spools","lengths"] (jX kW kW [Z06,Z0i,Z0f,Z0g,Z0h,Z09,Z0a,Z0b,Z04,Z0l,Z05,Z07,Z0m] (rs kW)<|Az):=by
 have SC:FnScope ["spools","lengths","left","colour","length"] ["spools","lengths"] (defScope<|tp 37):=by walk_at "F"
 refine F.okR SC (fun vs H Q E h=>?_)<|fun cdv A outer s H vs Q E hr h=>?_;·obtain⟨_,_,_,_,_,_,rfl,_⟩:=h;rfl
 ·obtain⟨W0,spools,lengths,Z60,ZdS,rfl,rfl,Z0U,Z6F,Er,hEr,hq⟩:=h
  refine⟨_,(a6 (eY 2 (dz kT (by rfl) Z5Q HB<|a4 (pv 0) a5))
   (a6 (dM PassesOwn.leaving rfl (ud<|pv 1) (cK (K:=K) (n:=2) rfl rfl<|av (iN 3)<|av (iN 4) cq) (a6 (cI (bQ oA (lZ (jn hr) (pv 2) (pv 3) af ⟨rfl,rfl,rfl,rfl⟩) (pv 4)<|bG _) (ae (gZ Z61 (by rfl) Z2e<|a4 (kP<|nU<|tX (pv 3)<|nU tW) a5)) bt)
   (ae (vG (jn hr) (pv 2) (pv 3) (pv 4) wD (fun _ _ _=>rfl)))))
   (ae (ua (i:=2) (au (pv 2)))))),?_⟩
  have E0:Ext W0 W0:=.refl W0;unfold Az at hq;refine iy (Er:=Er) (mD<|EV.pkD<|bH Z0U)<|fun p3 W1 e2 hp4 o5=>?_;have fr6:=none_of E0.h hp4;have E0:=E0.trans e2;have Z6F:=Cp e2.g Z6F;refine dH (Er:=Er) (f:=yw) (s0:=spools) (Iv:=fun(s9:hX)(W10:Wd)(g11:St)=>∃(d13:Option V)(d14:Option V),g11=[some Z60,some ZdS,some<|.ref p3,d13,d14]/\Ext W0 W10/\OwD (fun(a:Tx)=>DF<|sOf a) isI W10 p3 s9) (uf (K:=K) BB<|bH Z6F) (Cn hq) ?_ ?_ ?_
  ·intro W26 e27;have E0:=E0.trans e27;have o5:=o5.mono e27;exact⟨_,_,rfl,E0,o5⟩
  ·intro Wb15 W16 W17 a7 v18 s8 sg19 P20 hW21 hB22 iv e23 h24 hq;obtain⟨d13,d14,rfl,E0,o12⟩:=iv;have E0:=E0.trans e23;have hB22:=hB22.trans e23.g;have o12:=o12.mono e23;refine lF h24 fun v32 v34 h33 h35=>?_;cases h33;cases h35;unfold yw at hq;refine dY (Er:=Er) (cM<|eX (mC nM kS (pA o12) dh ar) bU)<|fun W36 e37=>?_;have E0:=E0.trans e37;have hB22:=hB22.trans e37.g;have o12:=o12.mono e37;by_cases hb47:(decide<|getZ s8 a7.1 (0:Int)<a7.2)=true
   ·rw[if_pos hb47]at hq ⊢;exact hJ (Er:=Er) (j:=6) (hEr.mono E0) rfl (kQ (nV (x:=Cv "the spool of ") (l:=[116,104,101,32,115,112,111,111,108,32,111,102,32]) (dW _ _ (by decide +kernel)) (we dh (nV (x:=Cv " falls short") (l:=[32,102,97,108,108,115,32,115,104,111,114,116]) (dW _ _ (by decide +kernel)) tY)))) hq
   ·rw[if_neg hb47]at hq ⊢
    try dsimp only[aM]
    refine wz (Er:=Er) (f:=fun i j=>i-j) nM kS o12 dh bU<|(Cn hq).imp fun y46 hq W43 mu44 o45=>?_;have E0:=mu44.e _ E0 fr6;have hB22:=hB22.trans mu44.g
    try dsimp only
    refine dP (W:=W43) y46 hB22 ?_ hq;exact⟨_,_,rfl,E0,o45⟩
  ·intro s48 W49 sg50 hS51 iv hq;obtain⟨d13,d14,rfl,E0,o12⟩:=iv;refine ue o12 E0 fr6 fun W52 E0 hS53 h55 hk54=>?_;exact aV (Er:=Er) (bH h55)<|fun v56 W57 e58 h59=>hq v56 W57 (E0.trans e58) h59
theorem BR{f:Addr}{fd:CP}(F:Fun K "turned" "turned" (tp 24) f fd){Z2i:Tok}(Z1k:mg "HOLES"=some (.int 4 Z2i)){Z1X:Addr}(Z3P:mg "STEPS"=some (.ref Z1X))(Z3Q:DictK K w Z1X [(DF<|Cv "f",.int<|1),(DF<|Cv "b",.int<|-1),(DF<|Cv "i",.int<|0)]):FnOk P w K mg base CX0 (1) f fd ["tablet","turn"] (bS (qA K) isS (rs<|qA K)<|AA):=by
 have SC:FnScope ["tablet","turn","lay","holes","stand"] ["tablet","turn"] (defScope<|tp 24):=by walk_at "F"
 refine F.ok SC (fun vs H Q E h=>?_)<|fun cdv A outer s H vs Q E hr h=>?_;·obtain⟨_,_,_,_,_,_,rfl,_⟩:=h;rfl
 ·obtain⟨W0,tablet,turn,Z3V,_,rfl,rfl,Z14,Z6E,Er,hq⟩:=h;cases Z6E;refine⟨_,(a6 (ia (pv 0)<|cK (K:=K) (n:=3) rfl rfl<|av (iN 2)<|av (iN 3)<|av (iN 4) cq)
   (ae (au (bg (a4 (pv 2) (a4 (pv 3) (a4 (ao bE (ao cN (pv 4) (gc (K:=K) (w:=w) rfl rfl (bf (v:=.ref _) (by rfl) Z3P rfl) (pv 1) (fun _ _=>rfl))) (bf (v:=.int 4) (by rfl) Z1k ⟨_,rfl⟩)) a5))))))),?_⟩
  have E0:Ext W0 W0:=.refl W0;unfold AA at hq;refine gW (Er:=Er) (bH Z14)<|fun v1 W2 e3 h4=>?_;have E0:=E0.trans e3;refine sU h4 fun v5 v7 v9 h6 h8 h10=>?_;cases h6;cases h8;cases h10;exact aV (Er:=Er) (fu (K:=K) dh dh (aX (fun _=>by decide) (bO bU (kK Z3Q (by decide +kernel) dh))))<|D8 hq fun y14 hq v15 W16 e17 h18=>hq v15 W16 (E0.trans e17) h18
theorem A8{f:Addr}{fd:CP}(F:Fun K "top" "top" (tp 21) f fd){Z2i:Tok}(Z1k:mg "HOLES"=some (.int 4 Z2i)):FnOk P w K mg base CX0 (1) f fd ["tablet"] (dG (qA K) (rs isS)<|pG):=by
 have SC:FnScope ["tablet","lay","holes","stand"] ["tablet"] (defScope<|tp 21):=by walk_at "F"
 refine F.ok SC (fun vs H Q E h=>?_)<|fun cdv A outer s H vs Q E hr h=>?_;·obtain⟨_,_,_,_,rfl,_⟩:=h;rfl
 ·obtain⟨W0,tablet,Z3V,rfl,rfl,Z14,Er,hq⟩:=h;refine⟨_,(a6 (ia (pv 0)<|cK (K:=K) (n:=3) rfl rfl<|av (iN 1)<|av (iN 2)<|av (iN 3) cq)
   (ae (au (aY bW (pv 2) (ao bE (pv 3) (bf (v:=.int 4) (by rfl) Z1k ⟨_,rfl⟩)) (fun _ _=>rfl))))),?_⟩
  have E0:Ext W0 W0:=.refl W0;unfold pG at hq;refine gW (Er:=Er) (bH Z14)<|fun v1 W2 e3 h4=>?_;have E0:=E0.trans e3;refine sU h4 fun v5 v7 v9 h6 h8 h10=>?_;cases h6;cases h8;cases h10;exact aV (Er:=Er) (bY dh (aX (fun _=>by decide) bU))<|D8 hq fun y11 hq v12 W13 e14 h15=>hq v12 W13 (E0.trans e14) h15
theorem BS{f:Addr}{fd:CP}(F:Fun K "bottom" "bottom" (tp 22) f fd){Z2i:Tok}(Z1k:mg "HOLES"=some (.int 4 Z2i)):FnOk P w K mg base CX0 (1) f fd ["tablet"] (dG (qA K) (rs isS)<|AB):=by
 have SC:FnScope ["tablet","lay","holes","stand"] ["tablet"] (defScope<|tp 22):=by walk_at "F"
 refine F.ok SC (fun vs H Q E h=>?_)<|fun cdv A outer s H vs Q E hr h=>?_;·obtain⟨_,_,_,_,rfl,_⟩:=h;rfl
 ·obtain⟨W0,tablet,Z3V,rfl,rfl,Z14,Er,hq⟩:=h;refine⟨_,(a6 (ia (pv 0)<|cK (K:=K) (n:=3) rfl rfl<|av (iN 1)<|av (iN 2)<|av (iN 3) cq)
   (ae (au (aY bW (pv 2) (ao bE (ao cN (pv 3) af) (bf (v:=.int 4) (by rfl) Z1k ⟨_,rfl⟩)) (fun _ _=>rfl))))),?_⟩
  have E0:Ext W0 W0:=.refl W0;unfold AB at hq;refine gW (Er:=Er) (bH Z14)<|fun v1 W2 e3 h4=>?_;have E0:=E0.trans e3;refine sU h4 fun v5 v7 v9 h6 h8 h10=>?_;cases h6;cases h8;cases h10;exact aV (Er:=Er) (bY dh (aX (fun _=>by decide)<|bO bU ar))<|D8 hq fun y11 hq v12 W13 e14 h15=>hq v12 W13 (E0.trans e14) h15
theorem BU{f:Addr}{fd:CP}(F:Fun K "left_place" "left_place" (tp 29) f fd){i0:Cd->Res Tx}{wK:Cd->Res Tx}{mI:Cd->Tx->Res Int}(C_top:Cal P w K mg base "top" ["tablet"] (1) (dG (qA K) (rs isS) i0))(Z7D:Cal P w K mg base "bottom" ["tablet"] (1) (dG (qA K) (rs isS) wK))(Z2j:Cal P w K mg base "twisting" ["tablet","turn"] (1) (bS (qA K) isS (rs isI) mI)){Z2z:Addr}(Z7E:mg "SLANTS"=some (.ref Z2z))(Z7F:DictK K w Z2z [(F9<|1,.str<|Cv "s"),(F9<|-1,.str<|Cv "z"),(F9<|0,.str<|Cv "o")]):FnOk P w K mg base CX0 (2) f fd ["tablet","turn"] (bS (qA K) isS (rs<|qB K)<|AD i0 wK mI):=by
 have SC:FnScope ["tablet","turn"] ["tablet","turn"] (defScope<|tp 29):=by walk_at "F"
 refine F.ok SC (fun vs H Q E h=>?_)<|fun cdv A outer s H vs Q E hr h=>?_;·obtain⟨_,_,_,_,_,_,rfl,_⟩:=h;rfl
 ·obtain⟨W0,tablet,turn,Z3V,_,rfl,rfl,Z14,Z6E,Er,hq⟩:=h;cases Z6E;refine⟨_,(ae (au (bg (a4 (ff C_top<|a4 (pv 0) a5) (a4 (ff Z7D<|a4 (pv 0) a5) (a4 (gc (K:=K) (w:=w) rfl rfl (bf (v:=.ref _) (by rfl) Z7E rfl) (ff Z2j<|a4 (pv 0)<|a4 (pv 1) a5)<|fun _ _=>rfl) a5)))))),?_⟩;have E0:Ext W0 W0:=.refl W0;unfold AD at hq;exact aV (Er:=Er) (fu (K:=K) (cY<|bH Z14) (cY<|bH Z14) (qF Z7F (by decide +kernel)<|bC (bH Z14) dh))<|D8 hq fun y5 hq v6 W7 e8 h9=>hq v6 W7 (E0.trans e8) h9
theorem BV{f:Addr}{fd:CP}(F:Fun K "woven_stage" "woven_stage" (tp 33) f fd){va:Tx->Int->Res Bool}{mI:Cd->Tx->Res Int}{wJ:hX->hX->Res hX}{vb:(List Cd)->Tx->Res hX}{uo:Cd->Tx->Res Cd}{vc:Cd->Tx->Res Pl}{Z06 Z0i Z0f Z0g Z0h Z09 Z0a Z0b Z04 Z0l Z05 Z07 Z0m:Addr}{Z00:Addr}(Z7G:Cal P w K mg base "is_row" ["text","width"] (1) (bS isS isI (rs isB) va))(Z2j:Cal P w K mg base "twisting" ["tablet","turn"] (1) (bS (qA K) isS (rs isI) mI))(Z4Y:CalR P w K mg base "drawn_off" ["spools","lengths"] (1) (jX kW kW [Z06,Z0i,Z0f,Z0g,Z0h,Z09,Z0a,Z0b,Z04,Z0l,Z05,Z07,Z0m] (rs kW) wJ))(Z8v:Cal P w K mg base "taken" ["draft","row"] (1) (bS (isL<|qA K) isS (rs kW) vb))(Z7H:Cal P w K mg base "turned" ["tablet","turn"] (1) (bS (qA K) isS (rs<|qA K) uo))(Z3W:Cal P w K mg base "left_place" ["tablet","turn"] (2) (bS (qA K) isS (rs<|qB K) vc))(Z2h:CalI P w K mg base "Stage" Z00 ["self","deed","standing","reached","highest","lengths","pick"] (1) (qS Z00 ["deed","standing","reached","highest","lengths","pick"]))(Z0k:Cls K Z00)(Z0B:NoAttr K Z00 "highest")(Z0S:NoAttr K Z00 "lengths")(Z0A:NoAttr K Z00 "reached")(Z0t:NoAttr K Z00 "standing")(Z3o:mg "abs"=none)(ZcU:mg "any"=none)(Z15:mg "len"=none)(Z7h:mg "max"=none)(Z1R:mg "zip"=none)(Z35:mg "BadRow"=some (.ref Z0i))(Z7I:Ecl base Z0i)(Z2d:mg "TooTight"=some (.ref Z09))(Z62:Ecl base Z09):FnOk P w K mg base (CXR P w) (3) f fd ["stage","row","most"] (wb (aD K Z00) isS isI [Z06,Z0i,Z0f,Z0g,Z0h,Z09,Z0a,Z0b,Z04,Z0l,Z05,Z07,Z0m] (rs<|aD K Z00)<|AE va mI wJ vb uo vc):=by
 have SC:FnScope ["stage","row","most","reached","lengths","highest","standing","pick"] ["stage","row","most"] (defScope<|tp 33):=by walk_at "F"
 refine F.okR SC (fun vs H Q E h=>?_)<|fun cdv A outer s H vs Q E hr h=>?_;·obtain⟨_,_,_,_,_,_,_,_,rfl,_⟩:=h;rfl
 ·obtain⟨W0,stage,row,most,Z8w,_,_,rfl,rfl,Z0w,z_row,Zfm,Er,hEr,hq⟩:=h;cases z_row;cases Zfm
  refine⟨_,(a6 (cI (fj (cC (ff Z7G (a4 (pv 1) (a4 (aj (cB (K:=K) rfl) (by rfl) Z15 Ey<|a4 (aZ (K:=K) rfl (pv 0) rfl) a5) a5))))) (ae (gZ Z7I (by rfl) Z35<|a4 aA a5)) bt)
   (a6 (eA (i:=3) SC.nd rfl (by walk_at "L") (N:=["twist","tablet","turn"]) (cap:=[none,none,none]) (fb rfl (by decide +kernel) rfl (by decide +kernel) (by rfl) (by rfl)) rfl (vK (K:=K) rfl rfl Z1R<|a4 (aZ (K:=K) rfl (pv 0) rfl)<|a4 (aZ (K:=K) rfl (pv 0) rfl)<|a4 (pv 1) a5) (fun _ _ _ _=>(cK (K:=K) (n:=3) rfl rfl (av (aP (i:=0) (show Ds (["twist","tablet","turn"]:List Str) by decide +kernel) rfl (by walk_at "L")) (av (aP (i:=1) (show Ds (["twist","tablet","turn"]:List Str) by decide +kernel) rfl (by walk_at "L")) (av (aP (i:=2) (show Ds (["twist","tablet","turn"]:List Str) by decide +kernel) rfl (by walk_at "L")) cq))))) (fun _ _ _ _=>bR)<|fun _ _ _ _=>(ao cN (pv 0)<|ff Z2j<|a4 (pv 1)<|a4 (pv 2) a5))
   (a6 (cI (cC (aj (qC (K:=K) rfl rfl) (by rfl) ZcU Kn (a4 (cJ (N:=["twist","most"]) (cap:=[none,some 2]) (fb rfl (by decide +kernel) rfl (by decide +kernel) (by rfl) (by rfl)) rfl (cW (K:=K) rfl<|pv 3) (fun _ _ _ _=>(aP (i:=0) (show Ds (["twist","most"]:List Str) by decide +kernel) rfl (by walk_at "L"))) (fun _ _ _ _=>bR) (fun _ _ _ _=>(eS rN (aj gQ (by rfl) Z3o Fu<|a4 (pv 0) a5) (pv 1)<|bG _))) a5))) (ae (gZ Z62 (by rfl) Z2d<|a4 aA a5)) bt)
   (a6 (eY 4 (j5 Z4Y pj (hr.mono (by decide)) (by rfl)<|a4 (aZ (K:=K) rfl (pv 0) rfl)<|a4 (ff Z8v<|a4 (aZ (K:=K) rfl (pv 0) rfl)<|a4 (pv 1) a5) a5))
   (a6 (eA (i:=5) SC.nd rfl (by walk_at "L") (N:=["peak","twist"]) (cap:=[none,none]) (fb rfl (by decide +kernel) rfl (by decide +kernel) (by rfl) (by rfl)) rfl (gf (K:=K) rfl rfl Z1R<|a4 (aZ (K:=K) rfl (pv 0) rfl)<|a4 (pv 3) a5) (fun _ _ _ _=>(cK (K:=K) (n:=2) rfl rfl (av (aP (i:=0) (show Ds (["peak","twist"]:List Str) by decide +kernel) rfl (by walk_at "L")) (av (aP (i:=1) (show Ds (["peak","twist"]:List Str) by decide +kernel) rfl (by walk_at "L")) cq)))) (fun _ _ _ _=>bR) (fun _ _ _ _=>(aj (k4 rfl) (by rfl) Z7h HN (a4 (pv 0) (a4 (aj gQ (by rfl) Z3o Fu<|a4 (pv 1) a5) a5)))))
   (a6 (eA (i:=6) SC.nd rfl (by walk_at "L") (N:=["tablet","turn"]) (cap:=[none,none]) (fb rfl (by decide +kernel) rfl (by decide +kernel) (by rfl) (by rfl)) rfl (gf (K:=K) rfl rfl Z1R<|a4 (aZ (K:=K) rfl (pv 0) rfl)<|a4 (pv 1) a5) (fun _ _ _ _=>(cK (K:=K) (n:=2) rfl rfl (av (aP (i:=0) (show Ds (["tablet","turn"]:List Str) by decide +kernel) rfl (by walk_at "L")) (av (aP (i:=1) (show Ds (["tablet","turn"]:List Str) by decide +kernel) rfl (by walk_at "L")) cq)))) (fun _ _ _ _=>bR)<|fun _ _ _ _=>(ff Z7H<|a4 (pv 0)<|a4 (pv 1) a5))
   (a6 (eA (i:=7) SC.nd rfl (by walk_at "L") (N:=["tablet","turn"]) (cap:=[none,none]) (fb rfl (by decide +kernel) rfl (by decide +kernel) (by rfl) (by rfl)) rfl (gf (K:=K) rfl rfl Z1R<|a4 (pv 6)<|a4 (pv 1) a5) (fun _ _ _ _=>(cK (K:=K) (n:=2) rfl rfl (av (aP (i:=0) (show Ds (["tablet","turn"]:List Str) by decide +kernel) rfl (by walk_at "L")) (av (aP (i:=1) (show Ds (["tablet","turn"]:List Str) by decide +kernel) rfl (by walk_at "L")) cq)))) (fun _ _ _ _=>bR)<|fun _ _ _ _=>(ff Z3W<|a4 (pv 0)<|a4 (pv 1) a5))
   (ae (au (ja Z2h (hr.mono (by decide)) (by rfl) (a4 (bg (a4 aA (a4 (pv 1) a5))) (a4 (pv 6) (a4 (pv 3) (a4 (pv 5) (a4 (pv 4) (a4 (pv 7) a5)))))))))))))))),?_⟩
  have E0:Ext W0 W0:=.refl W0;rw[show L2.start ["stage","row","most","reached","lengths","highest","standing","pick"] [Z8w,.str<|sOf row,.int most]=[some Z8w,some<|.str<|sOf row,some<|.int most,none,none,none,none,none]from rfl];unfold AE at hq;refine dY (Er:=Er) (jt<|jR<|bC dh<|gU<|Fy<|cv Z0k Z0t bI<|bH Z0w)<|(Cn hq).imp fun y2 hq W3 e4=>?_;have E0:=E0.trans e4;have Z0w:=Cp e4.g Z0w;by_cases hb94:y2=true
  ·rw[if_pos hb94]at hq ⊢;exact hJ (Er:=Er) (j:=1) (hEr.mono E0) rfl (aG (x:=Cv "a row has one turn for each tablet") (l:=[97,32,114,111,119,32,104,97,115,32,111,110,101,32,116,117,114,110,32,102,111,114,32,101,97,99,104,32,116,97,98,108,101,116]) (dW _ _ (by decide +kernel))) hq
  ·rw[if_neg hb94]at hq ⊢
   try dsimp only[aM]
   refine aq (Er:=Er) (Eh (cf (vX (gI<|cv Z0k Z0A eM<|bH Z0w) (gI<|cv Z0k Z0t bI<|bH Z0w)<|ju dh) fun W9 a7 v8 e10 h11 Q19 k20=>by
    refine sU h11 fun v12 v14 v16 h13 h15 h17=>?_;cases h13;cases h17;exact⟨by simp[Keep,aW],((bO bU (bC (bH h15) dh)):EV Er _ [some (.int a7.1),some v14,some (.str (sOf a7.2.2))] _ _ _) _ (.refl _) _ k20⟩)) ((Cn hq).imp fun y21 hq v22 W5 e6 h23=>?_)
   have E0:=E0.trans e6;have Z0w:=Cp e6.g Z0w;refine dY (Er:=Er) (jR (yg (FE (cf (dX<|bH h23) fun W26 a24 v25 e27 h28 Q31 k32=>by
    cases h28;refine gn ?_;exact⟨by simp[Keep,aW],((eX (lC bU) bU):EV Er _ [some (.int a24),some (.int most)] _ _ _) _ (.refl _) _ k32⟩)))) ((Cn hq).imp fun y34 hq W35 e36=>?_)
   have E0:=E0.trans e36;have Z0w:=Cp e36.g Z0w;have h23:=Cp e36.g h23;by_cases hb94:y34=true
   ·rw[if_pos hb94]at hq ⊢;exact hJ (Er:=Er) (j:=5) (hEr.mono E0) rfl (aG (x:=Cv "a tablet would be twisted too far") (l:=[97,32,116,97,98,108,101,116,32,119,111,117,108,100,32,98,101,32,116,119,105,115,116,101,100,32,116,111,111,32,102,97,114]) (dW _ _ (by decide +kernel))) hq
   ·rw[if_neg hb94]at hq ⊢
    try dsimp only[aM]
    refine aq (Er:=Er) (iz (hEr.mono E0) (cv Z0k Z0S fU<|bH Z0w)<|bC (cv Z0k Z0t bI<|bH Z0w) dh)<|(Cn hq).imp fun y40 hq v41 W37 e38 h42=>?_;have E0:=E0.trans e38;have Z0w:=Cp e38.g Z0w;have h23:=Cp e38.g h23;refine aq (Er:=Er) (Eh (cf (lE (gI<|cv Z0k Z0B eO<|bH Z0w)<|gI<|bH h23) fun W47 a45 v46 e48 h49 Q54 k55=>by
     refine lF h49 fun v50 v52 h51 h53=>?_;cases h51;cases h53;exact⟨by simp[Keep,aW],((oZ bU (lC bU)):EV Er _ [some (.int a45.1),some (.int a45.2)] _ _ _) _ (.refl _) _ k55⟩)) ((Cn hq).imp fun y56 hq v57 W43 e44 h58=>?_)
    have E0:=E0.trans e44;have Z0w:=Cp e44.g Z0w;have h23:=Cp e44.g h23;have h42:=Cp e44.g h42;refine aq (Er:=Er) (Eh (cf (lE (gI<|cv Z0k Z0t bI<|bH Z0w)<|ju dh) fun W63 a61 v62 e64 h65 Q70 k71=>by
     refine lF h65 fun v66 v68 h67 h69=>?_;cases h69;exact⟨by simp[Keep,aW],((bC (bH h67) dh):EV Er _ [some v66,some (.str (sOf a61.2))] _ _ _) _ (.refl _) _ k71⟩)) ((Cn hq).imp fun y72 hq v73 W59 e60 h74=>?_)
    have E0:=E0.trans e60;have h23:=Cp e60.g h23;have h42:=Cp e60.g h42;have h58:=Cp e60.g h58;refine aq (Er:=Er) (Eh (cf (lE (gI<|bH h74)<|ju dh) fun W79 a77 v78 e80 h81 Q86 k87=>by
     refine lF h81 fun v82 v84 h83 h85=>?_;cases h85;exact⟨by simp[Keep,aW],((bC (bH h83) dh):EV Er _ [some v82,some (.str (sOf a77.2))] _ _ _) _ (.refl _) _ k87⟩)) ((Cn hq).imp fun y88 hq v89 W75 e76 h90=>?_)
    have E0:=E0.trans e76;have h23:=Cp e76.g h23;have h42:=Cp e76.g h42;have h58:=Cp e76.g h58;have h74:=Cp e76.g h74;exact aV (Er:=Er) (jD (gL<|gL<|gL<|gL<|gL yt) (bc (eL (K:=K) (iM fE fE) (br (K:=K) (aG (x:=Cv "row") (l:=[114,111,119]) (dW _ _ (by decide +kernel))) dh))<|bc (bH h74)<|bc (bH h23)<|bc (bH h58)<|bc (bH h42)<|jC<|tm<|bH h90))<|fun v91 W92 e93 h94=>hq v91 W92 (E0.trans e93) h94
theorem BW{f:Addr}{fd:CP}(F:Fun K "go_on" "Loom.go_on" (tq 38 2) f fd){Z00 Z01:Addr}(Z0p:Cls K Z01)(Z0x:NoAttr K Z01 "course")(Z1u:NoAttr K Z01 "undone"):FnOk P w K mg base CX0 (1) f fd ["self","stages"] (rq (a8 K Z00 Z01) (aC (isL<|aD K Z00) aN) isN<|fun st a=>zX st a.1):=by
 have SC:FnScope ["self","stages"] ["self","stages"] (defScope<|tq 38 2):=by walk_at "F"
 refine F.ok SC (fun vs H Q E h=>?_)<|fun cdv A outer s H vs Q E hr h=>?_;·obtain⟨_,_,_,_,_,_,us,_,rfl,_,_,_,ra,_⟩:=h;obtain⟨_,us,rfl,_,ra⟩:=ra;cases ra;rfl
 ·obtain⟨W0,W,F,self,Z0I,aa,us,rfl,rfl,E0,nF,Z6G,ra,Er,hq⟩:=h;obtain⟨stages,_⟩:=aa;obtain⟨ZeU,us,rfl,Z37,ra⟩:=ra;replace Z37:(isL<|aD K Z00) W.G stages ZeU:=Z37;cases ra;replace hq:(zX self stages).OkE Er (EndO W0 W (a8 K Z00 Z01) isN Z0I Q):=hq;refine⟨_,(ae (cI (kU (K:=K) rfl<|pv 1) (a6 (d4<|lq (K:=K) rfl Hh HJ PySem.F.type_list_extend qf (aZ (K:=K) rfl (pv 0) rfl)<|a4 (pv 1) a5)
   (ae (en (pv 0) (bM a5) rfl))) bt)),?_⟩
  have hS0:Same W.G W.G:=.refl _;have EW:Ext W W:=.refl _;have S:Sep W0 W [tc (a8 K Z00 Z01) self Z0I]:=Jo Z6G nF;unfold zX at hq;refine sV (Er:=Er) (pC (K:=K)<|Fy<|bH Z37)<|fun W1 e2=>?_;have S:=S.ext e2;have E0:=E0.trans e2;have EW:=EW.trans e2;have hS0:=hS0.trans e2.g;have Z37:=Cp e2.g Z37;by_cases hb7:(!stages.isEmpty)=true
  ·rw[if_pos hb7]at hq ⊢;refine qR (Er:=Er) (K:=K) E0 (wA Z0p Z0x Z1I<|nW (R:=(a8 K Z00 Z01)) (C:=fun bb=>[tc (a8 K Z00 Z01) bb Z0I]) (k:=0) S E0) (Fy<|bH Z37)<|(Cn hq).imp fun y3 hq W4 hS5 E0 S=>?_;have S:Sep W0 W4 [tc (a8 K Z00 Z01) y3 Z0I]:=S;have hS0:=hS0.trans hS5;refine qQ (Er:=Er) (k:=0) Z0p Z1u (le_loom.lt) jE S E0 rfl (fS (R:=(fz<|aD K Z00)))<|fun W6 hS7 E0 S=>?_;have S:Sep W0 W6 [tc (a8 K Z00 Z01) (y3.1,y3.2.1,y3.2.2.1,([]:List dw)) Z0I]:=S;have hS0:=hS0.trans hS7;exact L6 (k:=0) S rfl E0 hS0 rfl hq
  ·rw[if_neg hb7]at hq ⊢
   try dsimp only[aM]
   exact L6 (k:=0) S rfl E0 hS0 rfl hq
theorem BX{f:Addr}{fd:CP}(F:Fun K "weave" "Loom.weave" (tq 38 3) f fd){vd:dw->Tx->Int->Res dw}{Z0d:Z03->Res dw}{mJ:Z03->(List dw)->Res (Z03×Unit)}{Z06 Z0i Z0f Z0g Z0h Z09 Z0a Z0b Z04 Z0l Z05 Z07 Z0m:Addr}{Z00 Z01:Addr}(Z3v:CalR P w K mg base "woven_stage" ["stage","row","most"] (3) (wb (aD K Z00) isS isI [Z06,Z0i,Z0f,Z0g,Z0h,Z09,Z0a,Z0b,Z04,Z0l,Z05,Z07,Z0m] (rs<|aD K Z00) vd))(Z0N:CalM P w K mg base CX0 Z01 "now" ["self"] (1) (i7 (wC (vw<|a8 K Z00 Z01) wN) (rs<|aD K Z00)<|fun a=>Z0d a.1))(Z1L:CalM P w K mg base CX0 Z01 "go_on" ["self","stages"] (1) (rq (a8 K Z00 Z01) (aC (isL<|aD K Z00) aN) isN<|fun st a=>mJ st a.1))(Z0p:Cls K Z01)(Z0k:Cls K Z00)(Z1W:NoAttr K Z01 "most")(Z12:NoAttr K Z00 "pick")(Z1a:mg "list"=none):FnOk P w K mg base (CXR P w) (4) f fd ["self","row"] (uX (a8 K Z00 Z01) (aC isS aN) [Z06,Z0i,Z0f,Z0g,Z0h,Z09,Z0a,Z0b,Z04,Z0l,Z05,Z07,Z0m] (qD K)<|fun st a=>zY vd Z0d mJ st a.1):=by
 have SC:FnScope ["self","row","stage"] ["self","row"] (defScope<|tq 38 3):=by walk_at "F"
 refine F.okR SC (fun vs H Q E h=>?_)<|fun cdv A outer s H vs Q E hr h=>?_;·obtain⟨_,_,_,_,_,_,us,_,rfl,_,_,_,ra,_⟩:=h;obtain⟨_,us,rfl,_,ra⟩:=ra;cases ra;rfl
 ·obtain⟨W0,W,F,self,Z0I,aa,us,rfl,rfl,E0,nF,Z6G,ra,Er,hEr,hq⟩:=h;obtain⟨row,_⟩:=aa;obtain⟨v_row,us,rfl,z_row,ra⟩:=ra;replace z_row:isS W.G row v_row:=z_row;cases ra;replace hq:(zY vd Z0d mJ self row).OkE Er (EndO W0 W (a8 K Z00 Z01) (qD K) Z0I Q):=hq;cases z_row
  refine⟨_,(a6 (eY 2 (j5 Z3v pj (hr.mono (by decide)) (by rfl) (a4 (dJ Z0N (hr.mono (by decide))<|pv 0)<|a4 (pv 1)<|a4 (aZ (K:=K) rfl (pv 0) rfl) a5)))
   (a6 (d4 (j9 Z1L (hr.mono (by decide)) (pv 0)<|a4 (bM<|a4 (pv 2) a5) a5))
   (ae (au (dz (cX (K:=K) rfl) (by rfl) Z1a Ec (a4 (aZ (K:=K) rfl (pv 2) rfl) a5)))))),?_⟩
  have hS0:Same W.G W.G:=.refl _;have EW:Ext W W:=.refl _;have S:Sep W0 W [tc (a8 K Z00 Z01) self Z0I]:=Jo Z6G nF;unfold zY at hq;refine aq (Er:=Er) (qM (hEr.mono EW) (jA (bZ<|bZ<|bZ hU) (eV (R:=(a8 K Z00 Z01)) (k:=0) S) d5) dh<|j6<|gr Z0p Z1W Za6.at_<|eV (R:=(a8 K Z00 Z01)) (k:=0) S)<|(Cn hq).imp fun y4 hq v5 W1 e2 h6=>?_;have S:=S.ext e2;have E0:=E0.trans e2;have EW:=EW.trans e2;have hS0:=hS0.trans e2.g;refine nZ (Er:=Er) (k:=0) (pD<|bZ<|bZ<|bZ hU) S E0 rfl rfl (bc (Eh<|df<|aR (bH h6)<|de (R:=(aD K Z00))) hR)<|(Cn hq).imp fun y9 hq W7 hS8 E0 S=>?_;have S:Sep W0 W7 [tc (a8 K Z00 Z01) y9.1 Z0I]:=S;have hS0:=hS0.trans hS8;have h6:=Cp hS8 h6;exact kR (Er:=Er) (k:=0) S rfl E0 hS0 (Eh<|fR<|Fy<|tu<|cv Z0k Z12 fV<|bH h6) hq
theorem BY{f:Addr}{fd:CP}(F:Fun K "_law_back" "_law_back" (tp 56) f fd):FnOk P w K mg base CX0 (1) f fd ["_law_turns_here"] (dG isS (rs isS)<|AF):=by
 have SC:FnScope ["_law_turns_here"] ["_law_turns_here"] (defScope<|tp 56):=by walk_at "F"
 refine F.ok SC (fun vs H Q E h=>?_)<|fun cdv A outer s H vs Q E hr h=>?_;·obtain⟨_,_,_,_,rfl,_⟩:=h;rfl
 ·obtain⟨W0,Z0v,_,rfl,rfl,Z38,Er,hq⟩:=h;cases Z38;refine⟨_,(ae (au (gX (K:=K) rfl aA (a4 (cJ (N:=["_law_turn"]) (cap:=[none]) (fb rfl (by decide +kernel) rfl (by decide +kernel) (by rfl) (by rfl)) rfl (gE<|pv 0) (fun _ _ _ _=>(aP (i:=0) (show Ds (["_law_turn"]:List Str) by decide +kernel) rfl (by walk_at "L"))) (fun _ _ _ _=>bR)<|fun _ _ _ _=>(aY bW aA (iq (K:=K) rfl rfl aA<|a4 (pv 0) a5)<|fun _ _=>rfl)) a5)))),?_⟩;have E0:Ext W0 W0:=.refl W0;rw[show L2.start ["_law_turns_here"] [.str (sOf Z0v)]=[some (.str<|sOf Z0v)]from rfl];unfold AF at hq;exact aV (Er:=Er) (iY (dW _ _ (by decide +kernel)) (FE (cf (gH dh) fun W3 a1 v2 e4 h5 Q9 k10=>by
   cases h5;refine gn ?_;exact⟨by simp[Keep,aW],((bY (aG (x:=Cv "fib") (l:=[102,105,98]) (dW _ _ (by decide +kernel))) (lA (aG (x:=Cv "bif") (l:=[98,105,102]) (dW _ _ (by decide +kernel))) dh)):EV Er _ [some (.str (sOf a1))] _ _ _) _ (.refl _) _ k10⟩))) (D8 hq fun y12 hq v13 W14 e15 h16=>hq v13 W14 (E0.trans e15) h16)
theorem BZ{f:Addr}{fd:CP}(F:Fun K "check_tablet" "check_tablet" (tp 35) f fd){Z06 Z0i Z0f Z0g Z0h Z09 Z0a Z0b Z04 Z0l Z05 Z07 Z0m:Addr}(Z15:mg "len"=none)(Z2f:mg "NoTablet"=some (.ref Z0b))(Z63:Ecl base Z0b):FnOk P w K mg base (CXR P w) (1) f fd ["draft","k"] (jX (isL<|qA K) isI [Z06,Z0i,Z0f,Z0g,Z0h,Z09,Z0a,Z0b,Z04,Z0l,Z05,Z07,Z0m] (rs isN)<|zZ):=by
 have SC:FnScope ["draft","k"] ["draft","k"] (defScope<|tp 35):=by walk_at "F"
 refine F.okR SC (fun vs H Q E h=>?_)<|fun cdv A outer s H vs Q E hr h=>?_;·obtain⟨_,_,_,_,_,_,rfl,_⟩:=h;rfl
 ·obtain⟨W0,draft,k,Z36,_,rfl,rfl,Z0D,z_k,Er,hEr,hq⟩:=h;cases z_k;refine⟨_,(ae (cI (Ke (oq (bQ oA (pv 1) af<|bG _) (ng (bQ xi (pv 1) (aj (cB (K:=K) rfl) (by rfl) Z15 Ey<|a4 (pv 0) a5)<|bG _)))) (ae (gZ Z63 (by rfl) Z2f<|a4 (kP<|nU<|tX (pv 1) tW) a5)) bt)),?_⟩;have E0:Ext W0 W0:=.refl W0;unfold zZ at hq;refine sV (Er:=Er) (xq (cM<|eX bU ar)<|cM<|eX bU<|gU<|Fy<|bH Z0D)<|(Cn hq).imp fun y1 hq W2 e3=>?_;have E0:=E0.trans e3;have Z0D:=Cp e3.g Z0D;by_cases hb7:y1=true
  ·rw[if_pos hb7]at hq ⊢;exact hJ (Er:=Er) (j:=7) (hEr.mono E0) rfl (kQ (nV (x:=Cv "there is no tablet ") (l:=[116,104,101,114,101,32,105,115,32,110,111,32,116,97,98,108,101,116,32]) (dW _ _ (by decide +kernel))<|wg bU tY)) hq
  ·rw[if_neg hb7]at hq ⊢
   try dsimp only[aM]
   exact hq .non W2 E0 rfl
theorem C0{f:Addr}{fd:CP}(F:Fun K "flipped" "flipped" (tp 25) f fd){Z2i:Tok}(Z1k:mg "HOLES"=some (.int 4 Z2i)){Z1p:Addr}(Z3X:mg "OTHER_LAYS"=some (.ref Z1p))(Z3Y:DictK K w Z1p [(DF<|Cv "S",.str<|Cv "Z"),(DF<|Cv "Z",.str<|Cv "S")]):FnOk P w K mg base CX0 (1) f fd ["tablet"] (dG (qA K) (rs<|qA K)<|AG):=by
 have SC:FnScope ["tablet","lay","holes","stand","mirrored"] ["tablet"] (defScope<|tp 25):=by walk_at "F"
 refine F.ok SC (fun vs H Q E h=>?_)<|fun cdv A outer s H vs Q E hr h=>?_;·obtain⟨_,_,_,_,rfl,_⟩:=h;rfl
 ·obtain⟨W0,tablet,Z3V,rfl,rfl,Z14,Er,hq⟩:=h;refine⟨_,(a6 (ia (pv 0)<|cK (K:=K) (n:=3) rfl rfl<|av (iN 1)<|av (iN 2)<|av (iN 3) cq)
   (a6 (eY 4<|ao d9 (ao d9 (ao d9 (aY bW (pv 2) af<|fun _ _=>rfl)<|aY bW (pv 2) af<|fun _ _=>rfl)<|aY bW (pv 2) af<|fun _ _=>rfl)<|aY bW (pv 2) af<|fun _ _=>rfl)
   (ae (au (bg (a4 (gc (K:=K) (w:=w) rfl rfl (bf (v:=.ref _) (by rfl) Z3X rfl) (pv 1) (fun _ _=>rfl)) (a4 (pv 4) (a4 (ao bE (ao ic (bf (v:=.int 4) (by rfl) Z1k ⟨_,rfl⟩) (pv 3)) (bf (v:=.int 4) (by rfl) Z1k ⟨_,rfl⟩)) a5)))))))),?_⟩
  have E0:Ext W0 W0:=.refl W0;unfold AG at hq;refine gW (Er:=Er) (bH Z14)<|fun v1 W2 e3 h4=>?_;have E0:=E0.trans e3;refine sU h4 fun v5 v7 v9 h6 h8 h10=>?_;cases h6;cases h8;cases h10;refine aq (Er:=Er) (ft (ft (ft (bY dh ar)<|bY dh ar)<|bY dh ar)<|bY dh ar)<|(Cn hq).imp fun y19 hq v20 W11 e12 h21=>?_;cases h21;have E0:=E0.trans e12;exact aV (Er:=Er) (fu (K:=K) (qE Z3Y (by decide +kernel) dh) dh (aX (fun _=>by decide)<|bO ar bU))<|D8 hq fun y23 hq v24 W25 e26 h27=>hq v24 W25 (E0.trans e26) h27
theorem C1{f:Addr}{fd:CP}(F:Fun K "flipped_stage" "flipped_stage" (tp 34) f fd){ur:(List Cd)->Int->Res Unit}{wL:Cd->Res Cd}{Z06 Z0i Z0f Z0g Z0h Z09 Z0a Z0b Z04 Z0l Z05 Z07 Z0m:Addr}{Z00:Addr}(Z39:CalR P w K mg base "check_tablet" ["draft","k"] (1) (jX (isL<|qA K) isI [Z06,Z0i,Z0f,Z0g,Z0h,Z09,Z0a,Z0b,Z04,Z0l,Z05,Z07,Z0m] (rs isN) ur))(Z6H:Cal P w K mg base "flipped" ["tablet"] (1) (dG (qA K) (rs<|qA K) wL))(Z2h:CalI P w K mg base "Stage" Z00 ["self","deed","standing","reached","highest","lengths","pick"] (1) (qS Z00 ["deed","standing","reached","highest","lengths","pick"]))(Z0k:Cls K Z00)(Z0B:NoAttr K Z00 "highest")(Z0S:NoAttr K Z00 "lengths")(Z0A:NoAttr K Z00 "reached")(Z0t:NoAttr K Z00 "standing")(Z1a:mg "list"=none):FnOk P w K mg base (CXR P w) (3) f fd ["stage","k"] (jX (aD K Z00) isI [Z06,Z0i,Z0f,Z0g,Z0h,Z09,Z0a,Z0b,Z04,Z0l,Z05,Z07,Z0m] (rs<|aD K Z00)<|AH ur wL):=by
 have SC:FnScope ["stage","k","standing"] ["stage","k"] (defScope<|tp 34):=by walk_at "F"
 refine F.okR SC (fun vs H Q E h=>?_)<|fun cdv A outer s H vs Q E hr h=>?_;·obtain⟨_,_,_,_,_,_,rfl,_⟩:=h;rfl
 ·obtain⟨W0,stage,k,Z8w,_,rfl,rfl,Z0w,z_k,Er,hEr,hq⟩:=h;cases z_k
  refine⟨_,(a6 (d4 (j5 Z39 pj (hr.mono (by decide)) (by rfl)<|a4 (aZ (K:=K) rfl (pv 0) rfl)<|a4 (pv 1) a5))
   (a6 (eY 2 (dz (cX (K:=K) rfl) (by rfl) Z1a Ec<|a4 (aZ (K:=K) rfl (pv 0) rfl) a5))
   (a6 (ia (ff Z6H<|a4 (aY (cP (K:=K) rfl) (pv 2) (pv 1)<|fun _ _=>rfl) a5)<|rF (pv 2) (pv 1) lT)
   (ae (au (ja Z2h (hr.mono (by decide)) (by rfl) (a4 (bg (a4 aA (a4 (pv 1) a5))) (a4 (pv 2) (a4 (aZ (K:=K) rfl (pv 0) rfl) (a4 (aZ (K:=K) rfl (pv 0) rfl) (a4 (aZ (K:=K) rfl (pv 0) rfl) (a4 i8 a5)))))))))))),?_⟩
  have E0:Ext W0 W0:=.refl W0;unfold AH at hq;refine qx (Er:=Er) (iz (hEr.mono E0) (cv Z0k Z0t bI<|bH Z0w) bU)<|(Cn hq).imp fun y1 hq v2 W3 e4 h5=>?_;have E0:=E0.trans e4;have Z0w:=Cp e4.g Z0w;refine gi (Er:=Er) (fR<|Fy<|cv Z0k Z0t bI<|bH Z0w)<|fun p8 W6 e7 hp9 o10=>?_;have fr11:=none_of E0.h hp9;have E0:=E0.trans e7;have Z0w:=Cp e7.g Z0w;refine qy (Er:=Er) o10 (cY<|fQ (vM o10) bU) bU<|(Cn hq).imp fun y17 hq W13 mu14 o15=>?_;have E0:=mu14.e _ E0 fr11;have Z0w:=Cp mu14.g Z0w;obtain⟨W18,hH19,E0,hS20,h22,hk21⟩:=o15.frz E0 fr11;rw[<-hH19];have Z0w:=Cp hS20 Z0w;exact aV (Er:=Er) (jD (gL<|gL<|gL<|gL<|gL yt) (bc (eL (K:=K) (iM fE xr) (br (K:=K) (aG (x:=Cv "flip") (l:=[102,108,105,112]) (dW _ _ (by decide +kernel))) bU))<|bc (bH h22)<|bc (cv Z0k Z0A eM<|bH Z0w)<|bc (cv Z0k Z0B eO<|bH Z0w)<|bc (cv Z0k Z0S fU<|bH Z0w)<|jC<|lx (R:=(qD K))))<|fun v23 W24 e25 h26=>hq v23 W24 (E0.trans e25) h26
theorem C2{f:Addr}{fd:CP}(F:Fun K "flip" "Loom.flip" (tq 38 4) f fd){mJ:Z03->(List dw)->Res (Z03×Unit)}{rA:dw->Int->Res dw}{Z0d:Z03->Res dw}{Z06 Z0i Z0f Z0g Z0h Z09 Z0a Z0b Z04 Z0l Z05 Z07 Z0m:Addr}{Z00 Z01:Addr}(Z1L:CalM P w K mg base CX0 Z01 "go_on" ["self","stages"] (1) (rq (a8 K Z00 Z01) (aC (isL<|aD K Z00) aN) isN<|fun st a=>mJ st a.1))(Z2P:CalR P w K mg base "flipped_stage" ["stage","k"] (3) (jX (aD K Z00) isI [Z06,Z0i,Z0f,Z0g,Z0h,Z09,Z0a,Z0b,Z04,Z0l,Z05,Z07,Z0m] (rs<|aD K Z00) rA))(Z0N:CalM P w K mg base CX0 Z01 "now" ["self"] (1) (i7 (wC (vw<|a8 K Z00 Z01) wN) (rs<|aD K Z00)<|fun a=>Z0d a.1))(Z0p:Cls K Z01):FnOk P w K mg base (CXR P w) (4) f fd ["self","k"] (uX (a8 K Z00 Z01) (aC isI aN) [Z06,Z0i,Z0f,Z0g,Z0h,Z09,Z0a,Z0b,Z04,Z0l,Z05,Z07,Z0m] isN<|fun st a=>z6 mJ rA Z0d st a.1):=by
 have SC:FnScope ["self","k"] ["self","k"] (defScope<|tq 38 4):=by walk_at "F"
 refine F.okR SC (fun vs H Q E h=>?_)<|fun cdv A outer s H vs Q E hr h=>?_;·obtain⟨_,_,_,_,_,_,us,_,rfl,_,_,_,ra,_⟩:=h;obtain⟨_,us,rfl,_,ra⟩:=ra;cases ra;rfl
 ·obtain⟨W0,W,F,self,Z0I,aa,us,rfl,rfl,E0,nF,Z6G,ra,Er,hEr,hq⟩:=h;obtain⟨k,_⟩:=aa;obtain⟨v_k,us,rfl,z_k,ra⟩:=ra;replace z_k:isI W.G k v_k:=z_k;cases ra;replace hq:(z6 mJ rA Z0d self k).OkE Er (EndO W0 W (a8 K Z00 Z01) isN Z0I Q):=hq;cases z_k;refine⟨_,(ae (d4 (j9 Z1L (hr.mono (by decide)) (pv 0) (a4 (bM (a4 (j5 Z2P pj (hr.mono (by decide)) (by rfl) (a4 (dJ Z0N (hr.mono (by decide))<|pv 0)<|a4 (pv 1) a5)) a5)) a5)))),?_⟩;have hS0:Same W.G W.G:=.refl _;have EW:Ext W W:=.refl _;have S:Sep W0 W [tc (a8 K Z00 Z01) self Z0I]:=Jo Z6G nF;unfold z6 at hq;refine mE (Er:=Er) (k:=0) (pD<|bZ<|bZ<|bZ hU) S E0 rfl rfl (bc (Eh<|df<|aR (iz (hEr.mono EW) (jA (bZ<|bZ<|bZ hU) (eV (R:=(a8 K Z00 Z01)) (k:=0) S) d5) bU)<|de (R:=(aD K Z00))) hR)<|(Cn hq).imp fun y5 hq W3 hS4 E0 S=>?_;have S:Sep W0 W3 [tc (a8 K Z00 Z01) y5.1 Z0I]:=S;have hS0:=hS0.trans hS4;exact L6 (k:=0) S rfl E0 hS0 rfl hq
theorem C3{f:Addr}{fd:CP}(F:Fun K "_law_tried" "_law_tried" (tp 59) f fd){rB:Z03->Int->Res (Z03×Unit)}{Z06 Z0i Z0f Z0g Z0h Z09 Z0a Z0b Z04 Z0l Z05 Z07 Z0m Z08:Addr}{Z00 Z01:Addr}(Z4Z:CalM P w K mg base (CXR P w) Z01 "flip" ["self","k"] (4) (uX (a8 K Z00 Z01) (aC isI aN) [Z06,Z0i,Z0f,Z0g,Z0h,Z09,Z0a,Z0b,Z04,Z0l,Z05,Z07,Z0m] isN<|fun st a=>rB st a.1))(Z0p:Cls K Z01)(Z:Kin K base [Z06,Z0i,Z0f,Z0g,Z0h,Z09,Z0a,Z0b,Z04,Z0l,Z05,Z07,Z0m] Z08)(Z1V:mg "BandError"=some (.ref Z08))(Z3Z:CalH P w K mg base "_law_kinds" ["_law_e"] 1 (gm K [Z06,Z0i,Z0f,Z0g,Z0h,Z09,Z0a,Z0b,Z04,Z0l,Z05,Z07,Z0m] Z08)):FnOk P w K mg base CX0 (5) f fd ["_law_loom","_law_k"] (rq (a8 K Z00 Z01) (aC isI aN) (isU K)<|fun st a=>z7 rB st a.1):=by
 have SC:FnScope ["_law_loom","_law_k","_law_found","_law_e"] ["_law_loom","_law_k"] (defScope<|tp 59):=by walk_at "F"
 obtain⟨bmB,XB⟩:=Z.top;refine F.ok SC (fun vs H Q E h=>?_)<|fun cdv A outer s H vs Q E hr h=>?_;·obtain⟨_,_,_,_,_,_,us,_,rfl,_,_,_,ra,_⟩:=h;obtain⟨_,us,rfl,_,ra⟩:=ra;cases ra;rfl
 ·obtain⟨W0,W,F,Z16,Z1b,aa,us,rfl,rfl,E0,nF,ZeW,ra,Er,hq⟩:=h;obtain⟨l_k,_⟩:=aa;obtain⟨v_l_k,us,rfl,z_l_k,ra⟩:=ra;replace z_l_k:isI W.G l_k v_l_k:=z_l_k;cases ra;replace hq:(z7 rB Z16 l_k).OkE Er (EndO W0 W (a8 K Z00 Z01) (isU K) Z1b Q):=hq;cases z_l_k
  refine⟨_,(a6 (yi (i:=3) (E:=EX K [Z06,Z0i,Z0f,Z0g,Z0h,Z09,Z0a,Z0b,Z04,Z0l,Z05,Z07,Z0m] [114,101,102,117,115,101,100] W Q) ⟨rfl,rfl⟩ (fun _=>(ae (eY 2 (my Z4Z zF (hr.mono (by decide)) (pv 0)<|a4 (pv 1) a5)))) (by rfl) Z1V XB (EX.cl Z) SC.nd rfl rfl (fun x C od oe hh=>(ae (au (bg (a4 aA (a4 (wc Z3Z hh ((hr.mono (by decide)).h _) rfl (CJ ..) (by rfl)<|a4 (pv 3) a5) a5)))))))
   (ae (au (bg (a4 aA (a4 (pv 2) a5)))))),?_⟩
  have hS0:Same W.G W.G:=.refl _;have EW:Ext W W:=.refl _;have S:Sep W0 W [tc (a8 K Z00 Z01) Z16 Z1b]:=Jo ZeW nF;rw[show L2.start ["_law_loom","_law_k","_law_found","_law_e"] [Z1b,.int l_k]=[some Z1b,some<|.int l_k,none,none]from rfl];unfold z7 at hq;refine wx (Er:=Er) (K:=K) (base:=base) (RR:=(isU K)) (k:=0) (s:=[114,101,102,117,115,101,100]) (σ':=fun v1=>[some Z1b,some<|.int l_k,some v1,none]) S E0 hS0 rfl Z (dW _ _ (by decide +kernel)) rfl (fun Er hE8 D hq=>?_)<|(Cn hq).imp fun r5 hq=>?_
  ·have eT:Ext W W:=.refl _;exact um (Er:=Er) (K:=K) (k:=0) (j:=2) (u:=fun(z:Unit)=>Ky) tL (pD<|bZ<|bZ<|bZ hU) S E0 rfl rfl (bc bU hR) hE8<|hq.imp fun r kr u W' e hs S' hr=>kr u W' e (eT.g.trans hs) S' hr
  ·cases r5 with
   |inr j7=>exact hq
   |inl y6=>
    intro v1 W2 E0 hS3 S h4;dsimp only at hq;have S:Sep W0 W2 [tc (a8 K Z00 Z01) y6.1 Z1b]:=S;have hS0:=hS0.trans hS3;exact kR (Er:=Er) (k:=0) S rfl E0 hS0 (eL (K:=K) (iM fE tM) (br (K:=K) (aG (x:=Cv "flipped") (l:=[102,108,105,112,112,101,100]) (dW _ _ (by decide +kernel)))<|bH h4)) hq
theorem C4{f:Addr}{fd:CP}(F:Fun K "deeds" "Loom.deeds" (tq 38 10) f fd){Z00 Z01:Addr}(Z0p:Cls K Z01)(Z0k:Cls K Z00)(Z0x:NoAttr K Z01 "course")(Z1J:NoAttr K Z00 "deed"):FnOk P w K mg base CX0 (1) f fd ["self"] (i7 (wC (vw<|a8 K Z00 Z01) wN) (ro<|isU K)<|fun a=>A0 a.1):=by
 have SC:FnScope ["self"] ["self"] (defScope<|tq 38 10):=by walk_at "F"
 refine F.ok SC (fun vs H Q E h=>?_)<|fun cdv A outer s H vs Q E hr h=>?_;·obtain⟨_,_,_,ra,_⟩:=h;obtain⟨_,us,rfl,_,ra⟩:=ra;cases ra;rfl
 ·obtain⟨W0,aa,rfl,ra,Er,hq⟩:=h;obtain⟨self,_⟩:=aa;obtain⟨Z0I,us,rfl,Z0O,ra⟩:=ra;replace Z0O:(vw<|a8 K Z00 Z01) W0 self Z0I:=Z0O;cases ra;replace hq:(A0 self).OkE Er (fun r=>(ro<|isU K) W0 r Q):=hq;refine⟨_,(ae (au (cJ (N:=["stage"]) (cap:=[none]) (fb rfl (by decide +kernel) rfl (by decide +kernel) (by rfl) (by rfl)) rfl (cW (K:=K) rfl<|aZ (K:=K) rfl (pv 0) rfl) (fun _ _ _ _=>(aP (i:=0) (show Ds (["stage"]:List Str) by decide +kernel) rfl (by walk_at "L"))) (fun _ _ _ _=>bR)<|fun _ _ _ _=>(aZ (K:=K) rfl (pv 0) rfl)))),?_⟩;have E0:Ext W0 W0:=.refl W0;rw[show L2.start ["self"] [Z0I]=[some Z0I]from rfl];unfold A0 at hq;exact gh (Er:=Er) (mG (mF (K:=K)<|j8<|gr Z0p Z0x Z1I.at_<|bq (R:=(vw<|a8 K Z00 Z01))<|Dx E0 Z0O) fun W3 a1 v2 e4 h5 Q8 k9=>by
   refine gn ?_;exact⟨by simp[Keep,aW],((cv Z0k Z1J mK (bH h5)):EV Er _ [some v2] _ _ _) _ (.refl _) _ k9⟩) (D8 hq fun y10 hq p11 W12 e13 hp14 o15=>hq p11 W12 (E0.trans e13) (none_of E0.h hp14) o15)
theorem C5{f:Addr}{fd:CP}(F:Fun K "band" "Loom.band" (tq 38 9) f fd){Z00 Z01:Addr}(Z0p:Cls K Z01)(Z0k:Cls K Z00)(Z0x:NoAttr K Z01 "course")(Z12:NoAttr K Z00 "pick")(Z1a:mg "list"=none):FnOk P w K mg base CX0 (1) f fd ["self"] (i7 (wC (vw<|a8 K Z00 Z01) wN) (ro<|qD K)<|fun a=>A1 a.1):=by
 have SC:FnScope ["self"] ["self"] (defScope<|tq 38 9):=by walk_at "F"
 refine F.ok SC (fun vs H Q E h=>?_)<|fun cdv A outer s H vs Q E hr h=>?_;·obtain⟨_,_,_,ra,_⟩:=h;obtain⟨_,us,rfl,_,ra⟩:=ra;cases ra;rfl
 ·obtain⟨W0,aa,rfl,ra,Er,hq⟩:=h;obtain⟨self,_⟩:=aa;obtain⟨Z0I,us,rfl,Z0O,ra⟩:=ra;replace Z0O:(vw<|a8 K Z00 Z01) W0 self Z0I:=Z0O;cases ra;replace hq:(A1 self).OkE Er (fun r=>(ro<|qD K) W0 r Q):=hq;refine⟨_,(ae (au (cJ (N:=["stage"]) (cap:=[none]) (fb rfl (by decide +kernel) rfl (by decide +kernel) (by rfl) (by rfl)) rfl (cW (K:=K) rfl<|aZ (K:=K) rfl (pv 0) rfl) (fun _ _ _ _=>(aP (i:=0) (show Ds (["stage"]:List Str) by decide +kernel) rfl (by walk_at "L"))) (fun _ _ _ _=>(oP<|bQ vm (aZ (K:=K) rfl (pv 0) rfl) i8<|bG _)) (fun _ _ _ _=>(dz (cX (K:=K) rfl) (by rfl) Z1a Ec<|a4 (aZ (K:=K) rfl (pv 0) rfl) a5))))),?_⟩;have E0:Ext W0 W0:=.refl W0;rw[show L2.start ["self"] [Z0I]=[some Z0I]from rfl];unfold A1 at hq;exact gh (Er:=Er) (qT (mF (K:=K)<|j8<|gr Z0p Z0x Z1I.at_<|bq (R:=(vw<|a8 K Z00 Z01))<|Dx E0 Z0O) fun W3 a1 v2 e4 h5 Q8 k9=>by
   refine gn ?_;refine⟨by simp[Keep,aW],((cM<|vO<|cv Z0k Z12 fV<|bH h5):TV Er _ [some v2] _ _) _ (.refl _) _ (D8 (P:=fun b10=>(if b10=true then((qu a1.2.2.2.2.2).bind fun y11=>CB<|some y11)else CB none:Res (Option<|List Pl)).OkE Er _) (Bz k9) fun b10 k14 W12 e13=>?_)⟩;cases b10 with
   |false=>exact k14 none _ e13 trivial
   |true=>
    rw[if_pos rfl];refine EV.go (Er:=Er) (σ:=[some v2]) (W1:=W12) e13 (Eh (fR (Fy (tu (cv Z0k Z12 fV (bH h5)))))) ?_;exact(Cn (show(Res.bind _ _).OkE Er _ from k14)).imp fun x19 k20 u17 W15 e16 h18=>k20 (some u17) _ (e13.trans e16) h18) (D8 hq fun y21 hq p22 W23 e24 hp25 o26=>hq p22 W23 (E0.trans e24) (none_of E0.h hp25) o26)
theorem C6{f:Addr}{fd:CP}(F:Fun K "_law_go" "_law_go" (tp 49) f fd):FnOk P w K mg base CX0 (1) f fd ["_law_turn"] (dG isS (rs isI)<|AI):=by
 have SC:FnScope ["_law_turn"] ["_law_turn"] (defScope<|tp 49):=by walk_at "F"
 refine F.ok SC (fun vs H Q E h=>?_)<|fun cdv A outer s H vs Q E hr h=>?_;·obtain⟨_,_,_,_,rfl,_⟩:=h;rfl
 ·obtain⟨W0,Z1n,_,rfl,rfl,Z40,Er,hq⟩:=h;cases Z40;refine⟨_,(ae<|au<|ao ic (iq (K:=K) rfl rfl aA<|a4 (pv 0) a5) af),?_⟩;have E0:Ext W0 W0:=.refl W0;unfold AI at hq;exact aV (Er:=Er) (bO (lA (aG (x:=Cv "bif") (l:=[98,105,102]) (dW _ _ (by decide +kernel))) dh) ar)<|D8 hq fun y2 hq v3 W4 e5 h6=>hq v3 W4 (E0.trans e5) h6
theorem C7{f:Addr}{fd:CP}(F:Fun K "_law_behind" "_law_behind" (tp 50) f fd){n6:Tx->Res Int}(Z26:Cal P w K mg base "_law_go" ["_law_turn"] (1) (dG isS (rs isI) n6)):FnOk P w K mg base CX0 (2) f fd ["_law_card_here","_law_turn"] (bS (qA K) isS (rs<|qA K)<|AJ n6):=by
 have SC:FnScope ["_law_card_here","_law_turn"] ["_law_card_here","_law_turn"] (defScope<|tp 50):=by walk_at "F"
 refine F.ok SC (fun vs H Q E h=>?_)<|fun cdv A outer s H vs Q E hr h=>?_;·obtain⟨_,_,_,_,_,_,rfl,_⟩:=h;rfl
 ·obtain⟨W0,Z0e,Z1n,Z1v,_,rfl,rfl,Z0c,Z40,Er,hq⟩:=h;cases Z40;refine⟨_,(ae<|au<|bg<|a4 (aY (cS (K:=K) rfl) (pv 0) af<|fun _ _=>rfl)<|a4 (aY (cS (K:=K) rfl) (pv 0) af<|fun _ _=>rfl)<|a4 (ao bE (ao cN (aY (cS (K:=K) rfl) (pv 0) af<|fun _ _=>rfl)<|ff Z26<|a4 (pv 1) a5) af) a5),?_⟩;have E0:Ext W0 W0:=.refl W0;unfold AJ at hq;exact aV (Er:=Er) (fu (K:=K) (dA (f:=fun(b:Cd)=>b.1) vQ<|bH Z0c) (dA (f:=fun(b:Cd)=>b.2.1) sP<|bH Z0c) (aX (fun _=>by decide)<|bO (dA (f:=fun(b:Cd)=>b.2.2) vR<|bH Z0c)<|cY dh))<|D8 hq fun y4 hq v5 W6 e7 h8=>hq v5 W6 (E0.trans e7) h8
theorem C8{f:Addr}{fd:CP}(F:Fun K "_law_twist" "_law_twist" (tp 51) f fd){n6:Tx->Res Int}(Z26:Cal P w K mg base "_law_go" ["_law_turn"] (1) (dG isS (rs isI) n6)):FnOk P w K mg base CX0 (2) f fd ["_law_card_here","_law_turn"] (bS (qA K) isS (rs isI)<|AK n6):=by
 have SC:FnScope ["_law_card_here","_law_turn"] ["_law_card_here","_law_turn"] (defScope<|tp 51):=by walk_at "F"
 refine F.ok SC (fun vs H Q E h=>?_)<|fun cdv A outer s H vs Q E hr h=>?_;·obtain⟨_,_,_,_,_,_,rfl,_⟩:=h;rfl
 ·obtain⟨W0,Z0e,Z1n,Z1v,_,rfl,rfl,Z0c,Z40,Er,hq⟩:=h;cases Z40;refine⟨_,(a6 (cI (bQ gA (aY (cS (K:=K) rfl) (pv 0) af<|fun _ _=>rfl) aA<|bG _) (ae<|au<|ff Z26<|a4 (pv 1) a5) bt)
   (ae (au (ao ic af (ff Z26 (a4 (pv 1) a5)))))),?_⟩
  have E0:Ext W0 W0:=.refl W0;unfold AK at hq;refine dY (Er:=Er) (cM (nK (dA (f:=fun(b:Cd)=>b.1) vQ<|bH Z0c) (aG (x:=Cv "S") (l:=[83]) (dW _ _ (by decide +kernel)))))<|fun W1 e2=>?_;have E0:=E0.trans e2;have Z0c:=Cp e2.g Z0c;by_cases hb13:(decide<|Z0e.1=([83]:Tx))=true
  ·rw[if_pos hb13]at hq ⊢;exact aV (Er:=Er) (cY dh)<|D8 hq fun y3 hq v4 W5 e6 h7=>hq v4 W5 (E0.trans e6) h7
  ·rw[if_neg hb13]at hq ⊢
   try dsimp only[aM]
   exact aV (Er:=Er) (bO ar<|cY dh)<|D8 hq fun y9 hq v10 W11 e12 h13=>hq v10 W11 (E0.trans e12) h13
theorem C9{f:Addr}{fd:CP}(F:Fun K "_law_places" "_law_places" (tp 52) f fd){i4:Cd->Tx->Res Cd}{fT:Cd->Tx->Res Int}(Z1w:Cal P w K mg base "_law_behind" ["_law_card_here","_law_turn"] (2) (bS (qA K) isS (rs<|qA K) i4))(Z1c:Cal P w K mg base "_law_twist" ["_law_card_here","_law_turn"] (2) (bS (qA K) isS (rs isI) fT)):FnOk P w K mg base CX0 (3) f fd ["_law_card_here","_law_turns_here"] (bS (qA K) (isL isS) (ro<|qB K)<|AL i4 fT):=by
 have SC:FnScope ["_law_card_here","_law_turns_here","_law_out","_law_turn","_law_slant"] ["_law_card_here","_law_turns_here"] (defScope<|tp 52):=by walk_at "F"
 refine F.ok SC (fun vs H Q E h=>?_)<|fun cdv A outer s H vs Q E hr h=>?_;·obtain⟨_,_,_,_,_,_,rfl,_⟩:=h;rfl
 ·obtain⟨W0,Z0e,Z0v,Z1v,Z5R,rfl,rfl,Z0c,Z3a,Er,hq⟩:=h;refine⟨_,(a6 (eY 2<|bM a5)
   (a6 (dM E7 rfl (cW (K:=K) rfl<|pv 1) (iN 3) (a6 (eY 0<|ff Z1w<|a4 (pv 0)<|a4 (pv 3) a5)
   (a6 (eY 4<|aY bW aA (ao cN (ff Z1c<|a4 (pv 0)<|a4 (pv 3) a5) af)<|fun _ _=>rfl)
   (ae (d4 (dg (K:=K) rfl (pv 2) (a4 (bg (a4 (aY bW (aY (cS (K:=K) rfl) (pv 0) af (fun _ _=>rfl)) (aY (cS (K:=K) rfl) (pv 0) af (fun _ _=>rfl)) (fun _ _=>rfl)) (a4 (aY bW (aY (cS (K:=K) rfl) (pv 0) af (fun _ _=>rfl)) (ao bE (ao cN (aY (cS (K:=K) rfl) (pv 0) af (fun _ _=>rfl)) af) af) (fun _ _=>rfl)) (a4 (pv 4) a5)))) a5)))))))
   (ae (au (pv 2))))),?_⟩
  have E0:Ext W0 W0:=.refl W0;unfold AL at hq;refine gi (Er:=Er) (lB (R:=(qB K)))<|fun p3 W1 e2 hp4 o5=>?_;have fr6:=none_of E0.h hp4;have E0:=E0.trans e2;have Z0c:=Cp e2.g Z0c;have Z3a:=Cp e2.g Z3a;refine dH (Er:=Er) (f:=(z8 i4 fT)) (s0:=(Z0e,([]:List Pl))) (Iv:=fun(s9:(Cd×(List Pl)))(W10:Wd)(g11:St)=>∃(v12:V)(d15:Option V)(d16:Option V),g11=[some v12,some Z5R,some<|.ref p3,d16,d15]/\Ext W0 W10/\(qA K) W10.G s9.1 v12/\Ow (qB K) W10 p3 s9.2) (dX<|bH Z3a) (Cn hq) ?_ ?_ ?_
  ·intro W28 e29;have E0:=E0.trans e29;have Z0c:=Cp e29.g Z0c;have o5:=o5.mono e29;exact⟨_,_,_,rfl,E0,Z0c,o5⟩
  ·intro Wb17 W18 W19 a7 v20 s8 sg21 P22 hW23 hB24 iv e25 h26 hq;obtain⟨v12,d15,d16,rfl,E0,h13,o14⟩:=iv;have E0:=E0.trans e25;have hB24:=hB24.trans e25.g;have o14:=o14.mono e25;have h13:=Cp e25.g h13;cases h26;refine gn (σ':=[some v12,some Z5R,some<|.ref p3,some<|.str<|sOf a7,d15]) ?_;unfold z8 at hq;refine aq (Er:=Er) (bC (bH h13) dh)<|(Cn hq).imp fun y34 hq v35 W32 e33 h36=>?_;have E0:=E0.trans e33;have hB24:=hB24.trans e33.g;have o14:=o14.mono e33;refine aq (Er:=Er) (bY (aG (x:=Cv "zos") (l:=[122,111,115]) (dW _ _ (by decide +kernel)))<|bO (bC (bH h36) dh) ar)<|(Cn hq).imp fun y41 hq v42 W37 e38 h43=>?_;cases h43;have E0:=E0.trans e38;have hB24:=hB24.trans e38.g;have o14:=o14.mono e38;have h36:=Cp e38.g h36;refine lG (Er:=Er) o14 (fu (K:=K) (bY (dA (f:=fun(b:Cd)=>b.2.1) sP<|bH h36)<|dA (f:=fun(b:Cd)=>b.2.2) vR<|bH h36) (bY (dA (f:=fun(b:Cd)=>b.2.1) sP<|bH h36) (aX (fun _=>by decide)<|bO (dA (f:=fun(b:Cd)=>b.2.2) vR<|bH h36) ar)) dh)<|(Cn hq).imp fun y49 hq W46 mu47 o48=>?_;have E0:=mu47.e _ E0 fr6;have hB24:=hB24.trans mu47.g;have h36:=Cp mu47.g h36
   try dsimp only
   refine dP (W:=W46) (y34,y49) hB24 ?_ hq;exact⟨_,_,_,rfl,E0,h36,o48⟩
  ·intro s51 W52 sg53 hS54 iv hq;obtain⟨v12,d15,d16,rfl,E0,h13,o14⟩:=iv;exact⟨.ref p3,rfl,hq p3 W52 E0 fr6 o14⟩
theorem Ca{f:Addr}{fd:CP}(F:Fun K "_law_band" "_law_band" (tp 53) f fd){uu:Cd->(List Tx)->Res (List Pl)}(Z3w:Cal P w K mg base "_law_places" ["_law_card_here","_law_turns_here"] (3) (bS (qA K) (isL isS) (ro<|qB K) uu))(Z1Y:mg "enumerate"=none)(Z15:mg "len"=none)(Z1t:mg "range"=none):FnOk P w K mg base CX0 (4) f fd ["_law_draft_here","_law_plan"] (bS (isL<|qA K) (isL isS) (ro<|qD K)<|AM uu):=by
 have SC:FnScope ["_law_draft_here","_law_plan","_law_cols"] ["_law_draft_here","_law_plan"] (defScope<|tp 53):=by walk_at "F"
 refine F.ok SC (fun vs H Q E h=>?_)<|fun cdv A outer s H vs Q E hr h=>?_;·obtain⟨_,_,_,_,_,_,rfl,_⟩:=h;rfl
 ·obtain⟨W0,Z0T,Z1o,Z0P,Z1q,rfl,rfl,Z1f,Z0o,Er,hq⟩:=h
  refine⟨_,(a6 (eY 2 (cJ (N:=["_law_k","_law_card_here","_law_plan"]) (cap:=[none,none,some 1]) (fb rfl (by decide +kernel) rfl (by decide +kernel) (by rfl) (by rfl)) rfl (oQ (K:=K) rfl rfl Z1Y<|a4 (pv 0) a5) (fun _ _ _ _=>(cK (K:=K) (n:=2) rfl rfl (av (aP (i:=0) (show Ds (["_law_k","_law_card_here","_law_plan"]:List Str) by decide +kernel) rfl (by walk_at "L")) (av (aP (i:=1) (show Ds (["_law_k","_law_card_here","_law_plan"]:List Str) by decide +kernel) rfl (by walk_at "L")) cq)))) (fun _ _ _ _=>bR) (fun _ _ _ _=>(ff Z3w (a4 (pv 1) (a4 (cJ (N:=["_law_row_here","_law_k"]) (cap:=[none,some 0]) (fb rfl (by decide +kernel) rfl (by decide +kernel) (by rfl) (by rfl)) rfl (cW (K:=K) rfl<|pv 2) (fun _ _ _ _=>(aP (i:=0) (show Ds (["_law_row_here","_law_k"]:List Str) by decide +kernel) rfl (by walk_at "L"))) (fun _ _ _ _=>bR)<|fun _ _ _ _=>(aY bW (pv 0) (pv 1)<|fun _ _=>rfl)) a5))))))
   (ae (au (cJ (N:=["_law_at_here","_law_cols"]) (cap:=[none,some 2]) (fb rfl (by decide +kernel) rfl (by decide +kernel) (by rfl) (by rfl)) rfl (gb rfl Z1t (a4 (aj (cB (K:=K) rfl) (by rfl) Z15 Ey (a4 (pv 1) a5)) a5)) (fun _ _ _ _=>(aP (i:=0) (show Ds (["_law_at_here","_law_cols"]:List Str) by decide +kernel) rfl (by walk_at "L"))) (fun _ _ _ _=>bR) (fun _ _ _ _=>(cJ (N:=["_law_places_here","_law_at_here"]) (cap:=[none,some 0]) (fb rfl (by decide +kernel) rfl (by decide +kernel) (by rfl) (by rfl)) rfl (cW (K:=K) rfl (pv 1)) (fun _ _ _ _=>(aP (i:=0) (show Ds (["_law_places_here","_law_at_here"]:List Str) by decide +kernel) rfl (by walk_at "L"))) (fun _ _ _ _=>bR) (fun _ _ _ _=>(aY (cP (K:=K) rfl) (pv 0) (pv 1) (fun _ _=>rfl))))))))),?_⟩
  have E0:Ext W0 W0:=.refl W0;rw[show L2.start ["_law_draft_here","_law_plan","_law_cols"] [Z0P,Z1q]=[some Z0P,some Z1q,none]from rfl];unfold AM at hq;refine aq (Er:=Er) (Eh (cf (oX<|bH Z1f) fun W5 a3 v4 e6 h7 Q23 k24=>by
   have h8:=Dx (R:=sh<|isL isS) e6 Z0o;refine lF h7 fun v9 v11 h10 h12=>?_;cases h10;exact⟨by simp[Keep,aW],((Eh (kG (bH h12) (Eh (cf (dX<|bH h8) fun W15 a13 v14 e16 h17 Q20 k21=>by
    cases h17;refine gn ?_;exact⟨by simp[Keep,aW],((bY dh bU):EV Er _ [some (.str (sOf a13)),some (.int a3.1)] _ _ _) _ (.refl _) _ k21⟩)))):EV Er _ [some (.int a3.1),some v11,some Z1q] _ _ _) _ (.refl _) _ k24⟩)) ((Cn hq).imp fun y25 hq v26 W1 e2 h27=>?_)
  have E0:=E0.trans e2;have Z0o:=Cp e2.g Z0o;exact gh (Er:=Er) (cf (nO<|Fy<|bH Z0o) fun W30 a28 v29 e31 h32 Q45 k46=>by
   have h33:=Dx (R:=sh<|isL<|qD K) e31 h27;cases h32;refine gn ?_;exact⟨by simp[Keep,aW],((Eh (cf (dX<|bH h33) fun W38 a36 v37 e39 h40 Q43 k44=>by
    refine gn ?_;exact⟨by simp[Keep,aW],((fQ (Fy (bH h40)) bU):EV Er _ [some v37,some (.int a28)] _ _ _) _ (.refl _) _ k44⟩)):EV Er _ [some (.int a28),some v26] _ _ _) _ (.refl _) _ k46⟩) (D8 hq fun y48 hq p49 W50 e51 hp52 o53=>hq p49 W50 (E0.trans e51) (none_of E0.h hp52) o53)
theorem Cb{f:Addr}{fd:CP}(F:Fun K "twist" "Loom.twist" (tq 38 11) f fd){Z0d:Z03->Res dw}{Z00 Z01:Addr}(Z0N:CalM P w K mg base CX0 Z01 "now" ["self"] (1) (i7 (wC (vw<|a8 K Z00 Z01) wN) (rs<|aD K Z00)<|fun a=>Z0d a.1))(Z0p:Cls K Z01)(Z0k:Cls K Z00)(Z0A:NoAttr K Z00 "reached"):FnOk P w K mg base CX0 (2) f fd ["self","k"] (i7 (wC (vw<|a8 K Z00 Z01)<|wC (sh isI) wN) (rs isI)<|fun a=>A2 Z0d a.1 a.2.1):=by
 have SC:FnScope ["self","k"] ["self","k"] (defScope<|tq 38 11):=by walk_at "F"
 refine F.ok SC (fun vs H Q E h=>?_)<|fun cdv A outer s H vs Q E hr h=>?_;·obtain⟨_,_,_,ra,_⟩:=h;obtain⟨_,us,rfl,_,ra⟩:=ra;obtain⟨_,us,rfl,_,ra⟩:=ra;cases ra;rfl
 ·obtain⟨W0,aa,rfl,ra,Er,hq⟩:=h;obtain⟨self,k,_⟩:=aa;obtain⟨Z0I,us,rfl,Z0O,ra⟩:=ra;replace Z0O:(vw<|a8 K Z00 Z01) W0 self Z0I:=Z0O;obtain⟨v_k,us,rfl,z_k,ra⟩:=ra;replace z_k:(sh isI) W0 k v_k:=z_k;cases ra;replace hq:(A2 Z0d self k).OkE Er (fun r=>(rs isI) W0 r Q):=hq;cases z_k;refine⟨_,(ae (au (aY (cP (K:=K) rfl) (aZ (K:=K) rfl (dJ Z0N (hr.mono (by decide))<|pv 0) rfl) (pv 1)<|fun _ _=>rfl))),?_⟩;have E0:Ext W0 W0:=.refl W0;unfold A2 at hq;exact aV (Er:=Er) (fQ (Fy<|cv Z0k Z0A eM<|jA (bZ<|bZ<|bZ hU) (bq (R:=(vw<|a8 K Z00 Z01))<|Dx E0 Z0O) d5) bU)<|D8 hq fun y3 hq v4 W5 e6 h7=>hq v4 W5 (E0.trans e6) h7
theorem Cc{f:Addr}{fd:CP}(F:Fun K "peak" "Loom.peak" (tq 38 12) f fd){Z0d:Z03->Res dw}{Z00 Z01:Addr}(Z0N:CalM P w K mg base CX0 Z01 "now" ["self"] (1) (i7 (wC (vw<|a8 K Z00 Z01) wN) (rs<|aD K Z00)<|fun a=>Z0d a.1))(Z0p:Cls K Z01)(Z0k:Cls K Z00)(Z0B:NoAttr K Z00 "highest"):FnOk P w K mg base CX0 (2) f fd ["self","k"] (i7 (wC (vw<|a8 K Z00 Z01)<|wC (sh isI) wN) (rs isI)<|fun a=>A3 Z0d a.1 a.2.1):=by
 have SC:FnScope ["self","k"] ["self","k"] (defScope<|tq 38 12):=by walk_at "F"
 refine F.ok SC (fun vs H Q E h=>?_)<|fun cdv A outer s H vs Q E hr h=>?_;·obtain⟨_,_,_,ra,_⟩:=h;obtain⟨_,us,rfl,_,ra⟩:=ra;obtain⟨_,us,rfl,_,ra⟩:=ra;cases ra;rfl
 ·obtain⟨W0,aa,rfl,ra,Er,hq⟩:=h;obtain⟨self,k,_⟩:=aa;obtain⟨Z0I,us,rfl,Z0O,ra⟩:=ra;replace Z0O:(vw<|a8 K Z00 Z01) W0 self Z0I:=Z0O;obtain⟨v_k,us,rfl,z_k,ra⟩:=ra;replace z_k:(sh isI) W0 k v_k:=z_k;cases ra;replace hq:(A3 Z0d self k).OkE Er (fun r=>(rs isI) W0 r Q):=hq;cases z_k;refine⟨_,(ae (au (aY (cP (K:=K) rfl) (aZ (K:=K) rfl (dJ Z0N (hr.mono (by decide))<|pv 0) rfl) (pv 1)<|fun _ _=>rfl))),?_⟩;have E0:Ext W0 W0:=.refl W0;unfold A3 at hq;exact aV (Er:=Er) (fQ (Fy<|cv Z0k Z0B eO<|jA (bZ<|bZ<|bZ hU) (bq (R:=(vw<|a8 K Z00 Z01))<|Dx E0 Z0O) d5) bU)<|D8 hq fun y3 hq v4 W5 e6 h7=>hq v4 W5 (E0.trans e6) h7
theorem Ce{f:Addr}{fd:CP}(F:Fun K "_law_peak" "_law_peak" (tp 54) f fd){fT:Cd->Tx->Res Int}(Z1c:Cal P w K mg base "_law_twist" ["_law_card_here","_law_turn"] (2) (bS (qA K) isS (rs isI) fT))(Z3o:mg "abs"=none)(Z7h:mg "max"=none):FnOk P w K mg base CX0 (3) f fd ["_law_card_here","_law_turns_here"] (bS (qA K) isS (rs isI)<|AO fT):=by
 have SC:FnScope ["_law_card_here","_law_turns_here","_law_now","_law_far","_law_turn"] ["_law_card_here","_law_turns_here"] (defScope<|tp 54):=by walk_at "F"
 refine F.ok SC (fun vs H Q E h=>?_)<|fun cdv A outer s H vs Q E hr h=>?_;·obtain⟨_,_,_,_,_,_,rfl,_⟩:=h;rfl
 ·obtain⟨W0,Z0e,Z0v,Z1v,_,rfl,rfl,Z0c,Z38,Er,hq⟩:=h;cases Z38;refine⟨_,(a6 (eY 2 af)
   (a6 (eY 3 af)
   (a6 (dM E7 rfl (gE<|pv 1) (iN 4) (a6 (eY 2<|ao cN (pv 2)<|ff Z1c<|a4 (pv 0)<|a4 (pv 4) a5)
   (ae (eY 3 (aj (k4 rfl) (by rfl) Z7h HN (a4 (pv 3) (a4 (aj gQ (by rfl) Z3o Fu (a4 (pv 2) a5)) a5)))))))
   (ae (au (pv 3)))))),?_⟩
  have E0:Ext W0 W0:=.refl W0;unfold AO at hq;refine aq (Er:=Er) ar<|fun v3 W1 e2 h4=>?_;cases h4;have E0:=E0.trans e2;have Z0c:=Cp e2.g Z0c;refine aq (Er:=Er) ar<|fun v7 W5 e6 h8=>?_;cases h8;have E0:=E0.trans e6;have Z0c:=Cp e6.g Z0c;refine dH (Er:=Er) (f:=(AN fT Z0e)) (s0:=((0:Int),(0:Int))) (Iv:=fun(s11:Ii)(W12:Wd)(g13:St)=>∃(d14:Option V),g13=[some Z1v,some<|.str<|sOf Z0v,some<|.int s11.1,some<|.int s11.2,d14]/\Ext W0 W12) (gH dh) (Cn hq) ?_ ?_ ?_
  ·intro W26 e27;have E0:=E0.trans e27;have Z0c:=Cp e27.g Z0c;exact⟨_,rfl,E0⟩
  ·intro Wb15 W16 W17 a9 v18 s10 sg19 P20 hW21 hB22 iv e23 h24 hq;obtain⟨d14,rfl,E0⟩:=iv;have Z0c:=Cp hW21 Z0c;have E0:=E0.trans e23;have hB22:=hB22.trans e23.g;have Z0c:=Cp e23.g Z0c;cases h24;refine gn (σ':=[some Z1v,some<|.str<|sOf Z0v,some<|.int s10.1,some<|.int s10.2,some<|.str<|sOf a9]) ?_;unfold AN at hq;refine aq (Er:=Er) (bO bU<|bC (bH Z0c) dh)<|(Cn hq).imp fun y33 hq v34 W30 e31 h35=>?_;cases h35;have E0:=E0.trans e31;have hB22:=hB22.trans e31.g;have Z0c:=Cp e31.g Z0c;refine gJ (Er:=Er) (oZ bU<|lC bU)<|fun v38 W36 e37 h39=>?_;cases h39;have E0:=E0.trans e37;have hB22:=hB22.trans e37.g;have Z0c:=Cp e37.g Z0c
   try dsimp only
   refine dP (W:=W36) (y33,(if cH y33>s10.2 then cH y33 else s10.2)) hB22 ?_ hq;exact⟨_,rfl,E0⟩
  ·intro s40 W41 sg42 hS43 iv hq;obtain⟨d14,rfl,E0⟩:=iv;exact aV (Er:=Er) bU<|fun v44 W45 e46 h47=>hq v44 W45 (E0.trans e46) h47
theorem Cf{f:Addr}{fd:CP}(F:Fun K "_law_turnover" "_law_turnover" (tp 55) f fd):FnOk P w K mg base CX0 (1) f fd ["_law_card_here"] (dG (qA K) (rs<|qA K)<|AQ):=by
 have SC:FnScope ["_law_card_here","_law_holes_here"] ["_law_card_here"] (defScope<|tp 55):=by walk_at "F"
 refine F.ok SC (fun vs H Q E h=>?_)<|fun cdv A outer s H vs Q E hr h=>?_;·obtain⟨_,_,_,_,rfl,_⟩:=h;rfl
 ·obtain⟨W0,Z0e,Z1v,rfl,rfl,Z0c,Er,hq⟩:=h;refine⟨_,(a6 (eY 1<|aY (cS (K:=K) rfl) (pv 0) af<|fun _ _=>rfl)
   (ae (au (bg (a4 (aY bW aA (iq (K:=K) rfl rfl aA (a4 (aY (cS (K:=K) rfl) (pv 0) af (fun _ _=>rfl)) a5)) (fun _ _=>rfl)) (a4 (ao d9 (ao d9 (ao d9 (aY bW (pv 1) af (fun _ _=>rfl)) (aY bW (pv 1) af (fun _ _=>rfl))) (aY bW (pv 1) af (fun _ _=>rfl))) (aY bW (pv 1) af (fun _ _=>rfl))) (a4 (ao bE (ao ic af (aY (cS (K:=K) rfl) (pv 0) af (fun _ _=>rfl))) af) a5))))))),?_⟩
  have E0:Ext W0 W0:=.refl W0;unfold AQ at hq;refine aq (Er:=Er) (dA (f:=fun(b:Cd)=>b.2.1) sP<|bH Z0c)<|fun v3 W1 e2 h4=>?_;cases h4;have E0:=E0.trans e2;have Z0c:=Cp e2.g Z0c;exact aV (Er:=Er) (fu (K:=K) (bY (aG (x:=Cv "ZS") (l:=[90,83]) (dW _ _ (by decide +kernel))) (lA (aG (x:=Cv "SZ") (l:=[83,90]) (dW _ _ (by decide +kernel)))<|dA (f:=fun(b:Cd)=>b.1) vQ<|bH Z0c)) (ft (ft (ft (bY dh ar)<|bY dh ar)<|bY dh ar)<|bY dh ar) (aX (fun _=>by decide)<|bO ar<|dA (f:=fun(b:Cd)=>b.2.2) vR<|bH Z0c))<|D8 hq fun y14 hq v15 W16 e17 h18=>hq v15 W16 (E0.trans e17) h18
theorem Cg{f:Addr}{fd:CP}(F:Fun K "tablets" "Loom.tablets" (tq 38 8) f fd){Z0d:Z03->Res dw}{Z00 Z01:Addr}(Z0N:CalM P w K mg base CX0 Z01 "now" ["self"] (1) (i7 (wC (vw<|a8 K Z00 Z01) wN) (rs<|aD K Z00)<|fun a=>Z0d a.1))(Z0p:Cls K Z01)(Z0k:Cls K Z00)(Z0t:NoAttr K Z00 "standing")(Z1a:mg "list"=none):FnOk P w K mg base CX0 (2) f fd ["self"] (i7 (wC (vw<|a8 K Z00 Z01) wN) (ro<|qA K)<|fun a=>A4 Z0d a.1):=by
 have SC:FnScope ["self"] ["self"] (defScope<|tq 38 8):=by walk_at "F"
 refine F.ok SC (fun vs H Q E h=>?_)<|fun cdv A outer s H vs Q E hr h=>?_;·obtain⟨_,_,_,ra,_⟩:=h;obtain⟨_,us,rfl,_,ra⟩:=ra;cases ra;rfl
 ·obtain⟨W0,aa,rfl,ra,Er,hq⟩:=h;obtain⟨self,_⟩:=aa;obtain⟨Z0I,us,rfl,Z0O,ra⟩:=ra;replace Z0O:(vw<|a8 K Z00 Z01) W0 self Z0I:=Z0O;cases ra;replace hq:(A4 Z0d self).OkE Er (fun r=>(ro<|qA K) W0 r Q):=hq;refine⟨_,(ae (au (dz (cX (K:=K) rfl) (by rfl) Z1a Ec (a4 (aZ (K:=K) rfl (dJ Z0N (hr.mono (by decide))<|pv 0) rfl) a5)))),?_⟩;have E0:Ext W0 W0:=.refl W0;unfold A4 at hq;exact gh (Er:=Er) (fR<|Fy<|cv Z0k Z0t bI<|jA (bZ<|bZ<|bZ hU) (bq (R:=(vw<|a8 K Z00 Z01))<|Dx E0 Z0O) d5)<|D8 hq fun y2 hq p3 W4 e5 hp6 o7=>hq p3 W4 (E0.trans e5) (none_of E0.h hp6) o7
theorem Ci{f:Addr}{fd:CP}(F:Fun K "_law_ends" "_law_ends" (tp 60) f fd){pI:Z03->Int->Res Int}{fT:Cd->Tx->Res Int}{pJ:Z03->Int->Res Int}{pK:Cd->Tx->Res Int}{i4:Cd->Tx->Res Cd}{pL:Cd->Res Cd}{uv:Z03->Res (List Cd)}{Z00 Z01:Addr}(Z0X:Cal P w K mg base "_law_same" ["_law_found","_law_due"] 26 (dZ K 26))(Z41:CalM P w K mg base CX0 Z01 "twist" ["self","k"] (2) (i7 (wC (vw<|a8 K Z00 Z01)<|wC (sh isI) wN) (rs isI)<|fun a=>pI a.1 a.2.1))(Z1c:Cal P w K mg base "_law_twist" ["_law_card_here","_law_turn"] (2) (bS (qA K) isS (rs isI) fT))(Z50:CalM P w K mg base CX0 Z01 "peak" ["self","k"] (2) (i7 (wC (vw<|a8 K Z00 Z01)<|wC (sh isI) wN) (rs isI)<|fun a=>pJ a.1 a.2.1))(Z51:Cal P w K mg base "_law_peak" ["_law_card_here","_law_turns_here"] (3) (bS (qA K) isS (rs isI) pK))(Z1w:Cal P w K mg base "_law_behind" ["_law_card_here","_law_turn"] (2) (bS (qA K) isS (rs<|qA K) i4))(Z2Q:Cal P w K mg base "_law_turnover" ["_law_card_here"] (1) (dG (qA K) (rs<|qA K) pL))(Z3b:CalM P w K mg base CX0 Z01 "tablets" ["self"] (2) (i7 (wC (vw<|a8 K Z00 Z01) wN) (ro<|qA K)<|fun a=>uv a.1))(Z0p:Cls K Z01)(Z1Y:mg "enumerate"=none)(ZcX:mg "sum"=none):FnOk P w K mg base CX0 (27) f fd ["_law_loom","_law_draft_here","_law_plan","_law_over"] (i7 (wC (vw<|a8 K Z00 Z01)<|wC (sh<|isL<|qA K)<|wC (sh<|isL isS)<|wC (sh<|isL isB) wN) (rs isB)<|fun a=>A7 pI fT pJ pK i4 pL uv a.1 a.2.1 a.2.2.1 a.2.2.2.1):=by
 have SC:FnScope ["_law_loom","_law_draft_here","_law_plan","_law_over","_law_cards","_law_k","_law_card_here","_law_turns_here","_law_turn"] ["_law_loom","_law_draft_here","_law_plan","_law_over"] (defScope<|tp 60):=by walk_at "F"
 refine F.ok SC (fun vs H Q E h=>?_)<|fun cdv A outer s H vs Q E hr h=>?_;·obtain⟨_,_,_,ra,_⟩:=h;obtain⟨_,us,rfl,_,ra⟩:=ra;obtain⟨_,us,rfl,_,ra⟩:=ra;obtain⟨_,us,rfl,_,ra⟩:=ra;obtain⟨_,us,rfl,_,ra⟩:=ra;cases ra;rfl
 ·obtain⟨W0,aa,rfl,ra,Er,hq⟩:=h;obtain⟨Z16,Z0T,Z1o,Z2O,_⟩:=aa;obtain⟨Z1b,us,rfl,Z42,ra⟩:=ra;replace Z42:(vw<|a8 K Z00 Z01) W0 Z16 Z1b:=Z42;obtain⟨Z0P,us,rfl,Z1f,ra⟩:=ra;replace Z1f:(sh<|isL<|qA K) W0 Z0T Z0P:=Z1f;obtain⟨Z1q,us,rfl,Z0o,ra⟩:=ra;replace Z0o:(sh<|isL isS) W0 Z1o Z1q:=Z0o;obtain⟨Z2A,us,rfl,Z0r,ra⟩:=ra;replace Z0r:(sh<|isL isB) W0 Z2O Z2A:=Z0r;cases ra;replace hq:(A7 pI fT pJ pK i4 pL uv Z16 Z0T Z1o Z2O).OkE Er (fun r=>(rs isB) W0 r Q):=hq;refine⟨_,(a6 (eY 4<|bM a5)
   (a6 (dM E7 rfl (oQ (K:=K) rfl rfl Z1Y<|a4 (pv 1) a5) (cK (K:=K) (n:=2) rfl rfl<|av (iN 5)<|av (iN 6) cq) (a6 (eY 7 (gX (K:=K) rfl aA (a4 (cJ (N:=["_law_row_here","_law_k"]) (cap:=[none,some 5]) (fb rfl (by decide +kernel) rfl (by decide +kernel) (by rfl) (by rfl)) rfl (cW (K:=K) rfl<|pv 2) (fun _ _ _ _=>(aP (i:=0) (show Ds (["_law_row_here","_law_k"]:List Str) by decide +kernel) rfl (by walk_at "L"))) (fun _ _ _ _=>bR)<|fun _ _ _ _=>(aY bW (pv 0) (pv 1)<|fun _ _=>rfl)) a5)))
   (a6 (cI (fj (cC (ff Z0X (a4 (j9 Z41 (hr.mono (by decide)) (pv 0)<|a4 (pv 5) a5) (a4 (aj (qp (K:=K) rfl rfl) (by rfl) ZcX Ko (a4 (cJ (N:=["_law_turn","_law_card_here"]) (cap:=[none,some 6]) (fb rfl (by decide +kernel) rfl (by decide +kernel) (by rfl) (by rfl)) rfl (gE<|pv 7) (fun _ _ _ _=>(aP (i:=0) (show Ds (["_law_turn","_law_card_here"]:List Str) by decide +kernel) rfl (by walk_at "L"))) (fun _ _ _ _=>bR)<|fun _ _ _ _=>(ff Z1c<|a4 (pv 1)<|a4 (pv 0) a5)) a5)) a5))))) (ae<|au fy) bt)
   (a6 (cI (fj (cC (ff Z0X (a4 (j9 Z50 (hr.mono (by decide)) (pv 0)<|a4 (pv 5) a5)<|a4 (ff Z51<|a4 (pv 6)<|a4 (pv 7) a5) a5)))) (ae<|au fy) bt)
   (a6 (dM E7 rfl (gE<|pv 7) (iN 8)<|ae<|eY 6<|ff Z1w<|a4 (pv 6)<|a4 (pv 8) a5)
   (a6 (cI (cC<|aY (cP (K:=K) rfl) (pv 3) (pv 5)<|fun _ _=>rfl) (ae<|eY 6<|ff Z2Q<|a4 (pv 6) a5) bt)
   (ae (d4 (dg (K:=K) rfl (pv 4) (a4 (pv 6) a5))))))))))
   (ae (au (ff Z0X (a4 (dJ Z3b (hr.mono (by decide)) (pv 0)) (a4 (pv 4) a5))))))),?_⟩
  have E0:Ext W0 W0:=.refl W0;rw[show L2.start ["_law_loom","_law_draft_here","_law_plan","_law_over","_law_cards","_law_k","_law_card_here","_law_turns_here","_law_turn"] [Z1b,Z0P,Z1q,Z2A]=[some Z1b,some Z0P,some Z1q,some Z2A,none,none,none,none,none]from rfl];unfold A7 at hq;refine gi (Er:=Er) (lB (R:=(qA K)))<|fun p3 W1 e2 hp4 o5=>?_;have fr6:=none_of E0.h hp4;have E0:=E0.trans e2;have Z1f:=Cp e2.g Z1f;have Z0o:=Cp e2.g Z0o;have Z0r:=Cp e2.g Z0r;refine kI (Er:=Er) (f:=(A6 pI fT pJ pK i4 pL Z16 Z1o Z2O)) (s0:=([]:List Cd)) (Iv:=fun(s9:(List Cd))(W10:Wd)(g11:St)=>∃(d13:Option V)(d14:Option V)(d15:Option V)(d16:Option V),g11=[some Z1b,some Z0P,some Z1q,some Z2A,some<|.ref p3,d16,d15,d13,d14]/\Ext W0 W10/\Ow (qA K) W10 p3 s9) (oX<|bH Z1f) (Cn hq) ?_ ?_ ?_
  ·intro W28 e29;have E0:=E0.trans e29;have Z0o:=Cp e29.g Z0o;have Z0r:=Cp e29.g Z0r;have o5:=o5.mono e29;exact⟨_,_,_,_,rfl,E0,o5⟩
  ·intro Wb17 W18 W19 a7 v20 s8 sg21 P22 hW23 hB24 iv e25 h26 hrt27 hq;obtain⟨d13,d14,d15,d16,rfl,E0,o12⟩:=iv;have Z0o:=Cp hW23 Z0o;have Z0r:=Cp hW23 Z0r;have E0:=E0.trans e25;have hB24:=hB24.trans e25.g;have Z0o:=Cp e25.g Z0o;have Z0r:=Cp e25.g Z0r;have o12:=o12.mono e25;refine lF h26 fun v34 v36 h35 h37=>?_;cases h35;unfold A6 at hq;refine aq (Er:=Er) (iY (dW _ _ (by decide +kernel)) (FE (cf (dX<|bH Z0o) fun W42 a40 v41 e43 h44 Q47 k48=>by
    cases h44;refine gn ?_;exact⟨by simp[Keep,aW],((bY dh bU):EV Er _ [some (.str (sOf a40)),some (.int a7.1)] _ _ _) _ (.refl _) _ k48⟩))) ((Cn hq).imp fun y50 hq v51 W38 e39 h52=>?_)
   cases h52;have E0:=E0.trans e39;have hB24:=hB24.trans e39.g;have Z0o:=Cp e39.g Z0o;have Z0r:=Cp e39.g Z0r;have o12:=o12.mono e39;have h37:=Cp e39.g h37;refine dY (Er:=Er) (jt (jR (gY (by decide) (jA (bZ<|bZ<|bZ hU) (bq (R:=(vw<|a8 K Z00 Z01))<|Dx E0 Z42)<|dv (R:=(sh isI)) bU d5) (ye (FE (cf (gH dh) fun W55 a53 v54 e56 h57 Q61 k62=>by
    have h58:=Dx (R:=sh (qA K)) e56 h37;cases h57;refine gn ?_;exact⟨by simp[Keep,aW],((bC (bH h58) dh):EV Er _ [some (.str (sOf a53)),some v36] _ _ _) _ (.refl _) _ k62⟩)))))) ((Cn hq).imp fun y67 hq W68 e69=>?_)
   have E0:=E0.trans e69;have hB24:=hB24.trans e69.g;have Z0o:=Cp e69.g Z0o;have Z0r:=Cp e69.g Z0r;have o12:=o12.mono e69;have h37:=Cp e69.g h37;by_cases hb143:y67=true
   ·rw[if_pos hb143]at hq ⊢;exact aV (Er:=Er) me<|fun v70 W71 e72 h73=>(hrt27 _ hq) v70 W71 (E0.trans e72) h73
   ·rw[if_neg hb143]at hq ⊢
    try dsimp only[aM]
    refine dY (Er:=Er) (jt (jR (gY (by decide) (jA (bZ<|bZ<|bZ hU) (bq (R:=(vw<|a8 K Z00 Z01))<|Dx E0 Z42)<|dv (R:=(sh isI)) bU d5)<|bC (bH h37) dh)))<|(Cn hq).imp fun y77 hq W78 e79=>?_;have E0:=E0.trans e79;have hB24:=hB24.trans e79.g;have Z0o:=Cp e79.g Z0o;have Z0r:=Cp e79.g Z0r;have o12:=o12.mono e79;have h37:=Cp e79.g h37;by_cases hb143:y77=true
    ·rw[if_pos hb143]at hq ⊢;exact aV (Er:=Er) me<|fun v80 W81 e82 h83=>(hrt27 _ hq) v80 W81 (E0.trans e82) h83
    ·rw[if_neg hb143]at hq ⊢
     try dsimp only[aM]
     refine dH (Er:=Er) (f:=(A5 i4)) (s0:=a7.2) (Iv:=fun(s86:Cd)(W87:Wd)(g88:St)=>∃(v89:V)(d91:Option V),g88=[some Z1b,some Z0P,some Z1q,some Z2A,some<|.ref p3,some<|.int a7.1,some v89,some<|.str<|sOf y50,d91]/\Ext W0 W87/\(qA K) W87.G s86 v89/\Ow (qA K) W87 p3 s8) (gH dh) (Cn hq) ?_ ?_ ?_
     ·intro W104 e105;have E0:=E0.trans e105;have hB24:=hB24.trans e105.g;have Z0o:=Cp e105.g Z0o;have Z0r:=Cp e105.g Z0r;have o12:=o12.mono e105;have h37:=Cp e105.g h37;exact⟨_,_,rfl,E0,h37,o12⟩
     ·intro Wb93 W94 W95 a84 v96 s85 sg97 P98 hW99 hB100 iv e101 h102 hq;obtain⟨v89,d91,rfl,E0,h90,o92⟩:=iv;have hB24:=hB24.trans hW99;have Z0o:=Cp hW99 Z0o;have Z0r:=Cp hW99 Z0r;have E0:=E0.trans e101;have hB24:=hB24.trans e101.g;have hB100:=hB100.trans e101.g;have Z0o:=Cp e101.g Z0o;have Z0r:=Cp e101.g Z0r;have o92:=o92.mono e101;have h90:=Cp e101.g h90;cases h102;refine gn (σ':=[some Z1b,some Z0P,some Z1q,some Z2A,some<|.ref p3,some<|.int a7.1,some v89,some<|.str<|sOf y50,some<|.str<|sOf a84]) ?_;unfold A5 at hq;refine gJ (Er:=Er) (bC (bH h90) dh)<|(Cn hq).imp fun y110 hq v111 W108 e109 h112=>?_;have E0:=E0.trans e109;have hB24:=hB24.trans e109.g;have hB100:=hB100.trans e109.g;have Z0o:=Cp e109.g Z0o;have Z0r:=Cp e109.g Z0r;have o92:=o92.mono e109
      try dsimp only
      refine dP (W:=W108) y110 hB100 ?_ hq;exact⟨_,_,rfl,E0,h112,o92⟩
     ·intro s113 W114 sg115 hS116 iv hq;obtain⟨v89,d91,rfl,E0,h90,o92⟩:=iv;have hB24:=hB24.trans hS116;have Z0o:=Cp hS116 Z0o;have Z0r:=Cp hS116 Z0r;refine jw (Er:=Er) (Iv:=fun(s134:Cd)(W135:Wd)(g136:St)=>∃(v137:V),g136=[some Z1b,some Z0P,some Z1q,some Z2A,some<|.ref p3,some<|.int a7.1,some v137,some<|.str<|sOf y50,d91]/\Ext W0 W135/\(qA K) W135.G s134 v137/\Ow (qA K) W135 p3 s8) (jR<|fQ (Fy<|bH Z0r) bU) (Cn hq) ?_ ?_ ?_
      ·intro W118 N121 e119 hN122 hq;have hs123:=e119.g;have E0:=E0.trans e119;have hB24:=hB24.trans e119.g;have Z0o:=Cp e119.g Z0o;have Z0r:=Cp e119.g Z0r;have o92:=o92.mono e119;have h90:=Cp e119.g h90;refine gJ (Er:=Er) (cY<|bH h90)<|(Cn hq).imp fun y126 hq v127 W124 e125 h128=>?_;have E0:=E0.trans e125;have hB24:=hB24.trans e125.g;have hs123:=hs123.trans e125.g;have Z0o:=Cp e125.g Z0o;have Z0r:=Cp e125.g Z0r;have o92:=o92.mono e125;exact hN122 y126 W124 _ hs123 ⟨_,rfl,E0,h128,o92⟩ hq
      ·intro W118 N121 e119 hN122 hq;have hs129:=e119.g;have E0:=E0.trans e119;have hB24:=hB24.trans e119.g;have Z0o:=Cp e119.g Z0o;have Z0r:=Cp e119.g Z0r;have o92:=o92.mono e119;have h90:=Cp e119.g h90
       try dsimp only[aM]
       exact hN122 s113 W118 _ hs129 ⟨_,rfl,E0,h90,o92⟩ hq
      ·intro s130 W131 sg132 hS133 iv hq;obtain⟨v137,rfl,E0,h138,o139⟩:=iv;have hB24:=hB24.trans hS133;have Z0o:=Cp hS133 Z0o;have Z0r:=Cp hS133 Z0r;refine lG (Er:=Er) o139 (bH h138)<|(Cn hq).imp fun y143 hq W140 mu141 o142=>?_;have E0:=mu141.e _ E0 fr6;have hB24:=hB24.trans mu141.g;have Z0o:=Cp mu141.g Z0o;have Z0r:=Cp mu141.g Z0r;have h138:=Cp mu141.g h138
       try dsimp only
       refine dP (W:=W140) y143 hB24 ?_ hq;exact⟨_,_,_,_,rfl,E0,o142⟩
  ·intro s144 W145 sg146 hS147 iv hq;obtain⟨d13,d14,d15,d16,rfl,E0,o12⟩:=iv;obtain⟨W148,hH149,E0,hS150,h152,hk151⟩:=o12.frz E0 fr6;rw[<-hH149];exact aV (Er:=Er) (gY (by decide) (Eh<|nY (bZ<|bZ<|bZ hU) (bq (R:=(vw<|a8 K Z00 Z01))<|Dx E0 Z42) d5)<|bH h152)<|D8 hq fun y154 hq v155 W156 e157 h158=>hq v155 W156 (E0.trans e157) h158
theorem A9{f:Addr}{fd:CP}(F:Fun K "law" "law" (tp 61) f fd){iO:List Int->Int->Res Int}{uZ:List Int->Int->Int->Res (List Cd)}{wI:(List Cd)->Int->hX->Res Z03}{pF:Int->Int->Res Tx}{pH:Z03->Tx->Res (Z03×(List Pl))}{n0:Tx->Res Tx}{n5:Z03->Int->Res (Z03×Dat)}{wM:Z03->Res (List Dat)}{wO:Z03->Res (List<|List Pl)}{ve:(List Cd)->(List Tx)->Res (List<|List Pl)}{vf:Z03->(List Cd)->(List Tx)->(List Bool)->Res Bool}{Z00 Z01:Addr}(Z1P:Cal P w K mg base "_law_at" ["_law_script","_law_k"] (1) (bS (isScr K) isI (rs isI) iO))(Z43:Cal P w K mg base "_law_draft" ["_law_script","_law_at_here","_law_width"] (4) (mj (isScr K) isI isI (ro<|qA K) uZ))(Zae:CalI P w K mg base "Loom" Z01 ["self","draft","most","spools"] (4) (pE Z01 (dF K Z00) (wC (sh<|isL<|qA K)<|wC (sh isI)<|wC (sh kW) wN)<|fun a=>wI a.1 a.2.1 a.2.2.1))(Z44:Cal P w K mg base "_law_turns" ["_law_cell","_law_many"] (2) (bS isI isI (rs isS) pF))(Z45:CalM P w K mg base (CXR P w) Z01 "weave" ["self","row"] (4) (uX (a8 K Z00 Z01) (aC isS aN) [Z06,Z0i,Z0f,Z0g,Z0h,Z09,Z0a,Z0b,Z04,Z0l,Z05,Z07,Z0m] (qD K)<|fun st a=>pH st a.1))(Z52:Cal P w K mg base "_law_back" ["_law_turns_here"] (1) (dG isS (rs isS) n0))(Z0X:Cal P w K mg base "_law_same" ["_law_found","_law_due"] 26 (dZ K 26))(Z46:Cal P w K mg base "_law_tried" ["_law_loom","_law_k"] (5) (rq (a8 K Z00 Z01) (aC isI aN) (isU K)<|fun st a=>n5 st a.1))(Z47:CalM P w K mg base CX0 Z01 "deeds" ["self"] (1) (i7 (wC (vw<|a8 K Z00 Z01) wN) (ro<|isU K)<|fun a=>wM a.1))(Z53:CalM P w K mg base CX0 Z01 "band" ["self"] (1) (i7 (wC (vw<|a8 K Z00 Z01) wN) (ro<|qD K)<|fun a=>wO a.1))(Z54:Cal P w K mg base "_law_band" ["_law_draft_here","_law_plan"] (4) (bS (isL<|qA K) (isL isS) (ro<|qD K) ve))(Z55:Cal P w K mg base "_law_ends" ["_law_loom","_law_draft_here","_law_plan","_law_over"] (27) (i7 (wC (vw<|a8 K Z00 Z01)<|wC (sh<|isL<|qA K)<|wC (sh<|isL isS)<|wC (sh<|isL isB) wN) (rs isB)<|fun a=>vf a.1 a.2.1 a.2.2.1 a.2.2.2.1))(Z0p:Cls K Z01)(Z1t:mg "range"=none)(Z1R:mg "zip"=none):FnOk P w K mg base CX0 (28) f fd ["_law_script"] (zL (isScr K) (rs isB)<|pM iO uZ wI pF pH n0 n5 wM wO ve vf):=by
 have SC:FnScope ["_law_script","_law_width","_law_draft_here","_law_spools","_law_colour","_law_loom","_law_over","_law_plan","_law_done","_law_k","_law_cell","_law_row_here","_law_at_here","_law_due"] ["_law_script"] (defScope<|tp 61):=by walk_at "F"
 refine F.ok SC (fun vs H Q E h=>?_)<|fun cdv A outer s H vs Q E hr h=>?_;·obtain⟨_,_,_,_,rfl,_⟩:=h;rfl
 ·obtain⟨W0,Z0C,Z0Y,rfl,rfl,Z02,Er,hEr,hq⟩:=h;refine⟨_,(a6 (eY 1<|ao cN af<|ao bE (ff Z1P<|a4 (pv 0)<|a4 af a5) af)
   (a6 (eY 2<|ff Z43<|a4 (pv 0)<|a4 af<|a4 (pv 1) a5)
   (a6 (eY 3 lY)
   (a6 (dM E7 rfl (gE aA) (iN 4)<|ae<|oM (jn hr) (pv 3) (pv 4) af rfl)
   (a6 (ua (i:=3) (eY 5 (ja Zae (hr.mono (by decide)) (by rfl)<|a4 (pv 2)<|a4 af<|a4 (pv 3) a5)))
   (a6 (eA (i:=6) SC.nd rfl (by walk_at "L") (N:=["_law_card_here"]) (cap:=[none]) (fb rfl (by decide +kernel) rfl (by decide +kernel) (by rfl) (by rfl)) rfl (cW (K:=K) rfl<|pv 2) (fun _ _ _ _=>(aP (i:=0) (show Ds (["_law_card_here"]:List Str) by decide +kernel) rfl (by walk_at "L"))) (fun _ _ _ _=>bR)<|fun _ _ _ _=>fy)
   (a6 (eY 7<|bM a5)
   (a6 (eY 8<|bM a5)
   (a6 (dM E7 rfl (gb rfl Z1t<|a4 (ao bE (ff Z1P<|a4 (pv 0)<|a4 af a5) af) a5) (iN 9) (a6 (eY 10<|ff Z1P<|a4 (pv 0)<|a4 (ao cN af<|pv 9) a5)
   (ae (cI (bQ rN (ao bE (pv 10) af) af<|bG _) (a6 (eY 11<|ff Z44<|a4 (ao dC (pv 10) af)<|a4 (pv 1) a5)
   (a6 (d4 (my Z45 zK (hr.mono (by decide)) (pv 5)<|a4 (pv 11) a5))
   (a6 (d4<|dg (K:=K) rfl (pv 8)<|a4 (bg<|a4 aA<|a4 (pv 11) a5) a5)
   (ae (d4 (dg (K:=K) rfl (pv 7) (a4 (gX (K:=K) rfl aA (a4 (cJ (N:=["_law_turn","_law_odd"]) (cap:=[none,none]) (fb rfl (by decide +kernel) rfl (by decide +kernel) (by rfl) (by rfl)) rfl (gf (K:=K) rfl rfl Z1R (a4 (pv 11) (a4 (pv 6) a5))) (fun _ _ _ _=>(cK (K:=K) (n:=2) rfl rfl (av (aP (i:=0) (show Ds (["_law_turn","_law_odd"]:List Str) by decide +kernel) rfl (by walk_at "L")) (av (aP (i:=1) (show Ds (["_law_turn","_law_odd"]:List Str) by decide +kernel) rfl (by walk_at "L")) cq)))) (fun _ _ _ _=>bR) (fun _ _ _ _=>(gO (cC (pv 1)) (ff Z52 (a4 (pv 0) a5)) (pv 0)))) a5)) a5))))))) (a6 (eY 12 (ao bE (ao dC (pv 10) af) (pv 1)))
   (a6 (cI (bQ gA (ao bE (ao dC (pv 10) af) af) af<|bG _) (ae<|eY 12<|aY (cP (K:=K) rfl) (bM<|a4 (pv 1)<|a4 (ao ic af af)<|a4 (ao rK af af)<|a4 (ao ic af<|pv 1)<|a4 (ao cN (pv 1) af) a5) (ao bE (ao dC (pv 10) af) af)<|fun _ _=>rfl) bt)
   (a6 (eY 13<|bg<|a4 aA<|a4 (bM<|a4 aA a5) a5)
   (a6 (cI (Ke<|l5 (bQ zg af (pv 12)<|bG _)<|iW<|bQ oA (pv 12) (pv 1)<|bG _) (a6 (eY 13<|bg<|a4 aA<|a4 i8 a5)
   (a6 (ia (l7<|aY (cP (K:=K) rfl) (pv 6) (pv 12)<|fun _ _=>rfl)<|rF (pv 6) (pv 12) lT)
   (ae (d4 (dg (K:=K) rfl (pv 8) (a4 (bg (a4 aA (a4 (pv 12) a5))) a5)))))) bt)
   (ae (cI (fj (cC (ff Z0X (a4 (ff Z46 (a4 (pv 5) (a4 (pv 12) a5))) (a4 (pv 13) a5))))) (ae (au fy)) bt))))))))))
   (a6 (cI (Ke (oq (fj (cC (ff Z0X (a4 (dJ Z47 (hr.mono (by decide))<|pv 5)<|a4 (pv 8) a5)))) (ng (fj (cC (ff Z0X (a4 (dJ Z53 (hr.mono (by decide))<|pv 5)<|a4 (ff Z54<|a4 (pv 2)<|a4 (pv 7) a5) a5))))))) (ae<|au fy) bt)
   (ae (au (ff Z55 (a4 (pv 5) (a4 (pv 2) (a4 (pv 7) (a4 (pv 6) a5))))))))))))))))),?_⟩
  have E0:Ext W0 W0:=.refl W0;rw[show L2.start ["_law_script","_law_width","_law_draft_here","_law_spools","_law_colour","_law_loom","_law_over","_law_plan","_law_done","_law_k","_law_cell","_law_row_here","_law_at_here","_law_due"] [Z0Y]=[some Z0Y,none,none,none,none,none,none,none,none,none,none,none,none,none]from rfl];unfold pM at hq;refine aq (Er:=Er) (bO ar (aX (fun _=>by decide)<|bC (bH Z02) ar))<|(Cn hq).imp fun y5 hq v6 W1 e2 h7=>?_;cases h7;have E0:=E0.trans e2;have Z02:=Cp e2.g Z02;refine aq (Er:=Er) (Eh<|ip (bH Z02) ar bU)<|(Cn hq).imp fun y10 hq v11 W8 e9 h12=>?_;have E0:=E0.trans e9;have Z02:=Cp e9.g Z02;refine iy (Er:=Er) (p6 (g:=(fun(a:Tx)=>DF<|sOf a)) (R:=isI))<|fun p15 W13 e14 hp16 o17=>?_;have fr18:=none_of E0.h hp16;have E0:=E0.trans e14;have Z02:=Cp e14.g Z02;have h12:=Cp e14.g h12;refine dH (Er:=Er) (f:=fg) (s0:=([]:List (Tx×Int))) (Iv:=fun(s21:hX)(W22:Wd)(g23:St)=>∃(d25:Option V),g23=[some Z0Y,some<|.int y5,some v11,some<|.ref p15,d25,none,none,none,none,none,none,none,none,none]/\Ext W0 W22/\OwD (fun(a:Tx)=>DF<|sOf a) isI W22 p15 s21) (gH (aG (x:=Cv "abcdefghijklmnopqrstuvwxyz") (l:=[97,98,99,100,101,102,103,104,105,106,107,108,109,110,111,112,113,114,115,116,117,118,119,120,121,122]) (dW _ _ (by decide +kernel)))) (by rw[Ct,Ct];exact Cn hq) ?_ ?_ ?_
  ·intro W37 e38;have E0:=E0.trans e38;have Z02:=Cp e38.g Z02;have h12:=Cp e38.g h12;have o17:=o17.mono e38;exact⟨_,rfl,E0,o17⟩
  ·intro Wb26 W27 W28 a19 v29 s20 sg30 P31 hW32 hB33 iv e34 h35 hq;obtain⟨d25,rfl,E0,o24⟩:=iv;have Z02:=Cp hW32 Z02;have h12:=Cp hW32 h12;have E0:=E0.trans e34;have hB33:=hB33.trans e34.g;have Z02:=Cp e34.g Z02;have h12:=Cp e34.g h12;have o24:=o24.mono e34;cases h35;refine gn (σ':=[some Z0Y,some<|.int y5,some v11,some<|.ref p15,some<|.str<|sOf a19,none,none,none,none,none,none,none,none,none]) ?_;unfold fg at hq;refine p9 (Er:=Er) nM kS o24 ar dh<|(Cn hq).imp fun y44 hq W41 mu42 o43=>?_;have E0:=mu42.e _ E0 fr18;have hB33:=hB33.trans mu42.g;have Z02:=Cp mu42.g Z02;have h12:=Cp mu42.g h12
   try dsimp only
   refine dP (W:=W41) y44 hB33 ?_ hq;exact⟨_,rfl,E0,o43⟩
  ·intro s45 W46 sg47 hS48 iv hq;obtain⟨d25,rfl,E0,o24⟩:=iv;have Z02:=Cp hS48 Z02;have h12:=Cp hS48 h12;refine wy o24 E0 fr18 fun W49 E0 hS50 h52 hk51=>?_;have Z02:=Cp hS50 Z02;have h12:=Cp hS50 h12;have S:Sep W0 W49 []:=Sep.nil;refine gq (Er:=Er) S E0 (uj<|dv (R:=(sh<|isL<|qA K)) (bH h12)<|dv (R:=(sh isI)) ar<|dv (R:=(sh kW)) (bH h52) d5)<|(Cn hq).imp fun y53 hq v54 W55 e56 S=>?_;have E0:=E0.trans e56;have Z02:=Cp e56.g Z02;have h12:=Cp e56.g h12;have S:Sep W0 W55 [tc (a8 K Z00 Z01) y53 v54]:=S;refine gq (Er:=Er) S E0 (EVo.tr (cf (dX<|bH h12) fun W59 a57 v58 e60 h61 Q64 k65=>by
    refine gn ?_;exact⟨by simp[Keep,aW],(me:EV Er _ [some v58] _ _ _) _ (.refl _) _ k65⟩)) ((Cn hq).imp fun y66 hq v67 W68 e69 S=>?_)
   have E0:=E0.trans e69;have Z02:=Cp e69.g Z02;have h12:=Cp e69.g h12;have S:Sep W0 W68 [tc (a8 K Z00 Z01) y53 v54,tc (oL<|fz isB) y66 v67]:=S;refine gq (Er:=Er) S E0 (fS (R:=(fz isS)))<|fun v70 W71 e72 S=>?_;have E0:=E0.trans e72;have Z02:=Cp e72.g Z02;have h12:=Cp e72.g h12;have S:Sep W0 W71 [tc (a8 K Z00 Z01) y53 v54,tc (oL<|fz isB) y66 v67,tc (oL<|fz isS) ([]:List Tx) v70]:=S;refine gq (Er:=Er) S E0 (fS (R:=(fz<|isU K)))<|fun v73 W74 e75 S=>?_;have E0:=E0.trans e75;have Z02:=Cp e75.g Z02;have h12:=Cp e75.g h12;have S:Sep W0 W74 [tc (a8 K Z00 Z01) y53 v54,tc (oL<|fz isB) y66 v67,tc (oL<|fz isS) ([]:List Tx) v70,tc (oL<|fz<|isU K) ([]:List Dat) v73]:=S;refine kI (Er:=Er) (f:=(fh iO pF pH n0 n5 Z0C y5)) (s0:=(y53,y66,([]:List Tx),([]:List Dat))) (Iv:=fun(s80:(Z03×(List Bool)×(List Tx)×(List Dat)))(W81:Wd)(g82:St)=>∃(d83:Option V)(d84:Option V)(d85:Option V)(d86:Option V)(d87:Option V),g82=[some Z0Y,some<|.int y5,some v11,some<|.ref p15,d25,some v54,some v67,some v70,some v73,d87,d83,d84,d85,d86]/\Ext W0 W81/\Sep W0 W81 [tc (a8 K Z00 Z01) s80.1 v54,tc (oL<|fz isB) s80.2.1 v67,tc (oL<|fz isS) s80.2.2.1 v70,tc (oL<|fz<|isU K) s80.2.2.2 v73]) (gV (aX (fun _=>by decide)<|bC (bH Z02) ar)) (Cn hq) ?_ ?_ ?_
   ·intro W99 e100;have S:=S.ext e100;have E0:=E0.trans e100;have Z02:=Cp e100.g Z02;have h12:=Cp e100.g h12;exact⟨_,_,_,_,_,rfl,E0,S⟩
   ·intro Wb88 W89 W90 a78 v91 s79 sg92 P93 hW94 hB95 iv e96 h97 hrt98 hq;obtain⟨d83,d84,d85,d86,d87,rfl,E0,S⟩:=iv;have Z02:=Cp hW94 Z02;have h12:=Cp hW94 h12;have S:=S.ext e96;have E0:=E0.trans e96;have hB95:=hB95.trans e96.g;have Z02:=Cp e96.g Z02;have h12:=Cp e96.g h12;cases h97;refine gn (σ':=[some Z0Y,some<|.int y5,some v11,some<|.ref p15,d25,some v54,some v67,some v70,some v73,some<|.int a78,d83,d84,d85,d86]) ?_;unfold fh at hq;refine aq (Er:=Er) (bC (bH Z02)<|bO ar bU)<|(Cn hq).imp fun y105 hq v106 W103 e104 h107=>?_;cases h107;have S:=S.ext e104;have E0:=E0.trans e104;have hB95:=hB95.trans e104.g;have Z02:=Cp e104.g Z02;have h12:=Cp e104.g h12;refine sV (Er:=Er) (cM (eX (aX (fun _=>by decide) bU) ar))<|fun W108 e109=>?_;have S:=S.ext e109;have E0:=E0.trans e109;have hB95:=hB95.trans e109.g;have Z02:=Cp e109.g Z02;have h12:=Cp e109.g h12;by_cases hb204:(decide<|(0:Int)<(y105%3))=true
    ·rw[if_pos hb204]at hq ⊢;refine aq (Er:=Er) (bC (aX (fun _=>⟨by decide,by decide⟩) bU) bU)<|(Cn hq).imp fun y112 hq v113 W110 e111 h114=>?_;cases h114;have S:=S.ext e111;have E0:=E0.trans e111;have hB95:=hB95.trans e111.g;have Z02:=Cp e111.g Z02;have h12:=Cp e111.g h12;refine mH (Er:=Er) (k:=0) (pD<|bZ<|bZ<|bZ hU) S E0 rfl rfl (bc dh hR) (B8 hEr)<|(Cn hq).imp fun y117 hq W115 hS116 E0 S=>?_;have S:Sep W0 W115 [tc (a8 K Z00 Z01) y117.1 v54,tc (oL<|fz isB) s79.2.1 v67,tc (oL<|fz isS) s79.2.2.1 v70,tc (oL<|fz<|isU K) s79.2.2.2 v73]:=S;have hB95:=hB95.trans hS116;have Z02:=Cp hS116 Z02;have h12:=Cp hS116 h12;refine qN (Er:=Er) (K:=K) (C:=fun bb=>[tc (a8 K Z00 Z01) y117.1 v54,tc (oL<|fz isB) s79.2.1 v67,tc (oL<|fz isS) s79.2.2.1 v70,tc (oL<|fz<|isU K) bb v73]) (k:=3) (i:=8) S E0 (eL (K:=K) (iM fE fE) (br (K:=K) (aG (x:=Cv "row") (l:=[114,111,119]) (dW _ _ (by decide +kernel))) dh))<|(Cn hq).imp fun y118 hq W119 hS120 E0 S=>?_;have S:Sep W0 W119 [tc (a8 K Z00 Z01) y117.1 v54,tc (oL<|fz isB) s79.2.1 v67,tc (oL<|fz isS) s79.2.2.1 v70,tc (oL<|fz<|isU K) y118 v73]:=S;have hB95:=hB95.trans hS120;have Z02:=Cp hS120 Z02;have h12:=Cp hS120 h12;refine lK (Er:=Er) (K:=K) (C:=fun bb=>[tc (a8 K Z00 Z01) y117.1 v54,tc (oL<|fz isB) s79.2.1 v67,tc (oL<|fz isS) bb v70,tc (oL<|fz<|isU K) y118 v73]) (k:=2) (i:=7) S E0 (iY (dW _ _ (by decide +kernel)) (FE (mG (wF (K:=K) (SV.e<|ju dh)<|yv<|j8<|eV (R:=(oL<|fz isB)) (k:=1) S) fun W123 a121 v122 e124 h125 Q130 k131=>by
      refine lF h125 fun v126 v128 h127 h129=>?_;cases h127;cases h129;exact⟨by simp[Keep,aW],((oV (jR Bp) (cY dh) dh):EV Er _ [some (.str (sOf a121.1)),some (.bl a121.2)] _ _ _) _ (.refl _) _ k131⟩))) ((Cn hq).imp fun y134 hq W135 hS136 E0 S=>?_)
     have S:Sep W0 W135 [tc (a8 K Z00 Z01) y117.1 v54,tc (oL<|fz isB) s79.2.1 v67,tc (oL<|fz isS) y134 v70,tc (oL<|fz<|isU K) y118 v73]:=S;have hB95:=hB95.trans hS136;have Z02:=Cp hS136 Z02;have h12:=Cp hS136 h12
     try dsimp only
     refine dP (W:=W135) (y117.1,s79.2.1,y134,y118) hB95 ?_ hq;exact⟨_,_,_,_,_,rfl,E0,S⟩
    ·rw[if_neg hb204]at hq ⊢;refine aq (Er:=Er) (ly (aX (fun _=>⟨by decide,by decide⟩) bU) bU)<|(Cn hq).imp fun y139 hq v140 W137 e138 h141=>?_;cases h141;have S:=S.ext e138;have E0:=E0.trans e138;have hB95:=hB95.trans e138.g;have Z02:=Cp e138.g Z02;have h12:=Cp e138.g h12;refine jw (Er:=Er) (Iv:=fun(s158:Int)(W159:Wd)(g160:St)=>g160=[some Z0Y,some<|.int y5,some v11,some<|.ref p15,d25,some v54,some v67,some v70,some v73,some<|.int a78,some<|.int y105,d84,some<|.int s158,d86]/\Ext W0 W159/\Sep W0 W159 [tc (a8 K Z00 Z01) s79.1 v54,tc (oL<|fz isB) s79.2.1 v67,tc (oL<|fz isS) s79.2.2.1 v70,tc (oL<|fz<|isU K) s79.2.2.2 v73]) (cM (nJ (aX (fun _=>by decide) (aX (fun _=>⟨by decide,by decide⟩) bU)) ar)) (Cn hq) ?_ ?_ ?_
     ·intro W142 N145 e143 hN146 hq;have hs147:=e143.g;have S:=S.ext e143;have E0:=E0.trans e143;have hB95:=hB95.trans e143.g;have Z02:=Cp e143.g Z02;have h12:=Cp e143.g h12;refine gJ (Er:=Er) (fQ (FE (df (aR bU (aR (bO ar ar) (aR (oY (r:=100000000000000000000) (by decide) (by decide))<|aR (bO ar bU)<|aR (bO bU ar)<|de (R:=isI)))))) (aX (fun _=>by decide) (aX (fun _=>⟨by decide,by decide⟩) bU)))<|(Cn hq).imp fun y150 hq v151 W148 e149 h152=>?_;cases h152;have S:=S.ext e149;have E0:=E0.trans e149;have hB95:=hB95.trans e149.g;have hs147:=hs147.trans e149.g;have Z02:=Cp e149.g Z02;have h12:=Cp e149.g h12;exact hN146 y150 W148 _ hs147 ⟨rfl,E0,S⟩ hq
     ·intro W142 N145 e143 hN146 hq;have hs153:=e143.g;have S:=S.ext e143;have E0:=E0.trans e143;have hB95:=hB95.trans e143.g;have Z02:=Cp e143.g Z02;have h12:=Cp e143.g h12
      try dsimp only[aM]
      exact hN146 y139 W142 _ hs153 ⟨rfl,E0,S⟩ hq
     ·intro s154 W155 sg156 hS157 iv hq;obtain⟨rfl,E0,S⟩:=iv;have hB95:=hB95.trans hS157;have Z02:=Cp hS157 Z02;have h12:=Cp hS157 h12;refine aq (Er:=Er) (eL (K:=K) (u:=fun(z:Tx×(List Tx))=>Ip [GA z.1,JB<|z.2.map fun(z:Tx)=>GA z]) (iM fE<|p5 (u:=fun(z:Tx)=>GA z) fE) (br (K:=K) (aG (x:=Cv "refused") (l:=[114,101,102,117,115,101,100]) (dW _ _ (by decide +kernel))) (Eh (df (aR (aG (x:=Cv "NoTablet") (l:=[78,111,84,97,98,108,101,116]) (dW _ _ (by decide +kernel)))<|de (R:=isS))))))<|fun v163 W161 e162 h164=>?_;have S:=S.ext e162;have E0:=E0.trans e162;have hB95:=hB95.trans e162.g;have Z02:=Cp e162.g Z02;have h12:=Cp e162.g h12;refine jw (Er:=Er) (Iv:=fun(s189:(Dat×(List Bool)×(List Dat)))(W190:Wd)(g191:St)=>∃(v192:V),g191=[some Z0Y,some<|.int y5,some v11,some<|.ref p15,d25,some v54,some v67,some v70,some v73,some<|.int a78,some<|.int y105,d84,some<|.int s154,some v192]/\Ext W0 W190/\(isU K) W190.G s189.1 v192/\Sep W0 W190 [tc (a8 K Z00 Z01) s79.1 v54,tc (oL<|fz isB) s189.2.1 v67,tc (oL<|fz isS) s79.2.2.1 v70,tc (oL<|fz<|isU K) s189.2.2 v73]) (sO (cM<|eX ar bU)<|cM<|eX bU bU) (Cn hq) ?_ ?_ ?_
      ·intro W166 N169 e167 hN170 hq;have hs171:=e167.g;have S:=S.ext e167;have E0:=E0.trans e167;have hB95:=hB95.trans e167.g;have Z02:=Cp e167.g Z02;have h12:=Cp e167.g h12;have h164:=Cp e167.g h164;refine aq (Er:=Er) (eL (K:=K) (u:=fun(z:Tx×(Option Unit))=>Ip [GA z.1,w5 (fun(z:Unit)=>Ky) z.2]) (iM fE<|zE tL) (br (K:=K) (aG (x:=Cv "flipped") (l:=[102,108,105,112,112,101,100]) (dW _ _ (by decide +kernel))) lx))<|fun v174 W172 e173 h175=>?_;have S:=S.ext e173;have E0:=E0.trans e173;have hB95:=hB95.trans e173.g;have hs171:=hs171.trans e173.g;have Z02:=Cp e173.g Z02;have h12:=Cp e173.g h12;refine qO (Er:=Er) (C:=fun bb=>[tc (a8 K Z00 Z01) s79.1 v54,tc (oL<|fz isB) bb v67,tc (oL<|fz isS) s79.2.2.1 v70,tc (oL<|fz<|isU K) s79.2.2.2 v73]) (k:=1) (i:=6) S E0 (nL<|j6<|pw (eV (R:=(oL<|fz isB)) (k:=1) S) bU) bU<|(Cn hq).imp fun y178 hq W179 hS180 E0 S=>?_;have S:Sep W0 W179 [tc (a8 K Z00 Z01) s79.1 v54,tc (oL<|fz isB) y178 v67,tc (oL<|fz isS) s79.2.2.1 v70,tc (oL<|fz<|isU K) s79.2.2.2 v73]:=S;have hB95:=hB95.trans hS180;have hs171:=hs171.trans hS180;have Z02:=Cp hS180 Z02;have h12:=Cp hS180 h12;have h175:=Cp hS180 h175;refine lK (Er:=Er) (K:=K) (C:=fun bb=>[tc (a8 K Z00 Z01) s79.1 v54,tc (oL<|fz isB) y178 v67,tc (oL<|fz isS) s79.2.2.1 v70,tc (oL<|fz<|isU K) bb v73]) (k:=3) (i:=8) S E0 (eL (K:=K) (iM fE xr) (br (K:=K) (aG (x:=Cv "flip") (l:=[102,108,105,112]) (dW _ _ (by decide +kernel))) bU))<|(Cn hq).imp fun y181 hq W182 hS183 E0 S=>?_;have S:Sep W0 W182 [tc (a8 K Z00 Z01) s79.1 v54,tc (oL<|fz isB) y178 v67,tc (oL<|fz isS) s79.2.2.1 v70,tc (oL<|fz<|isU K) y181 v73]:=S;have hB95:=hB95.trans hS183;have hs171:=hs171.trans hS183;have Z02:=Cp hS183 Z02;have h12:=Cp hS183 h12;have h175:=Cp hS183 h175;exact hN170 ((fun(z:Tx×(Option Unit))=>Ip [GA z.1,w5 (fun(z:Unit)=>Ky) z.2]) (([102,108,105,112,112,101,100]:Tx),none),y178,y181) W182 _ hs171 ⟨_,rfl,E0,h175,S⟩ hq
      ·intro W166 N169 e167 hN170 hq;have hs184:=e167.g;have S:=S.ext e167;have E0:=E0.trans e167;have hB95:=hB95.trans e167.g;have Z02:=Cp e167.g Z02;have h12:=Cp e167.g h12;have h164:=Cp e167.g h164
       try dsimp only[aM]
       exact hN170 ((fun(z:Tx×(List Tx))=>Ip [GA z.1,JB<|z.2.map fun(z:Tx)=>GA z]) (([114,101,102,117,115,101,100]:Tx),[([78,111,84,97,98,108,101,116]:Tx)]),s79.2.1,s79.2.2.2) W166 _ hs184 ⟨_,rfl,E0,h164,S⟩ hq
      ·intro s185 W186 sg187 hS188 iv hq;obtain⟨v192,rfl,E0,h193,S⟩:=iv;have hB95:=hB95.trans hS188;have Z02:=Cp hS188 Z02;have h12:=Cp hS188 h12;refine qP (Er:=Er) (K:=K) (k:=0) (by decide) S E0 rfl rfl (bc bU hR) (fun W194 hS195=>(have h196:=Cp (R:=(isU K)) hS195 h193;(bH h196)))<|(Cn hq).imp fun y197 hq W198 E0 hS199 S=>?_;have S:Sep W0 W198 [tc (a8 K Z00 Z01) y197.1 v54,tc (oL<|fz isB) s185.2.1 v67,tc (oL<|fz isS) s79.2.2.1 v70,tc (oL<|fz<|isU K) s185.2.2 v73]:=S;have hB95:=hB95.trans hS199;have Z02:=Cp hS199 Z02;have h12:=Cp hS199 h12;have h193:=Cp hS199 h193;by_cases hb200:y197.2=true
       ·rw[if_pos hb200]at hq ⊢
        try dsimp only[aM]
        try dsimp only
        refine dP (W:=W198) (y197.1,s185.2.1,s79.2.2.1,s185.2.2) hB95 ?_ hq;exact⟨_,_,_,_,_,rfl,E0,S⟩
       ·rw[if_neg hb200]at hq ⊢;exact aV (Er:=Er) me<|fun v201 W202 e203 h204=>(hrt98 _ hq) v201 W202 (E0.trans e203) h204
   ·intro s206 W207 sg208 hS209 iv hq;obtain⟨d83,d84,d85,d86,d87,rfl,E0,S⟩:=iv;have h12:=Cp hS209 h12;obtain⟨W211,hH212,E0,hS213,S,h214⟩:=L5 (R:=(oL<|fz<|isU K)) (i:=3) S E0 rfl;rw[<-hH212];have S:Sep W0 W211 [tc (a8 K Z00 Z01) s206.1 v54,tc (oL<|fz isB) s206.2.1 v67,tc (oL<|fz isS) s206.2.2.1 v70]:=S;have h12:=Cp hS213 h12;obtain⟨W218,hH219,E0,hS220,S,h221⟩:=L5 (R:=(oL<|fz isS)) (i:=2) S E0 rfl;rw[<-hH219];have S:Sep W0 W218 [tc (a8 K Z00 Z01) s206.1 v54,tc (oL<|fz isB) s206.2.1 v67]:=S;have h12:=Cp hS220 h12;have h214:=Cp hS220 h214;refine dY (Er:=Er) (xq (jt (jR (mr (by decide) (eL (K:=K) (u:=fun(z:List Dat)=>JB<|z.map fun(z:Dat)=>z) (p5 (u:=fun(z:Dat)=>z) tM)<|Eh<|nY (bZ<|bZ<|bZ hU) (eV (R:=(a8 K Z00 Z01)) (k:=0) S) d5)<|eL (K:=K) (u:=fun(z:List Dat)=>JB<|z.map fun(z:Dat)=>z) (p5 (u:=fun(z:Dat)=>z) tM)<|bH h214))) (jt (jR (gY (by decide) (Eh<|nY (bZ<|bZ<|bZ hU) (eV (R:=(a8 K Z00 Z01)) (k:=0) S) d5)<|Eh<|kG (bH h12)<|bH h221))))<|(Cn hq).imp fun y229 hq W230 e231=>?_;have S:=S.ext e231;have E0:=E0.trans e231;have h12:=Cp e231.g h12;have h221:=Cp e231.g h221;have h214:=Cp e231.g h214;by_cases hb244:y229=true
    ·rw[if_pos hb244]at hq ⊢;exact aV (Er:=Er) me<|fun v232 W233 e234 h235=>hq v232 W233 (E0.trans e234) h235
    ·rw[if_neg hb244]at hq ⊢
     try dsimp only[aM]
     obtain⟨W236,hH237,E0,hS238,S,h239⟩:=L5 (R:=(oL<|fz isB)) (i:=1) S E0 rfl;rw[<-hH237];have S:Sep W0 W236 [tc (a8 K Z00 Z01) s206.1 v54]:=S;have h12:=Cp hS238 h12;have h221:=Cp hS238 h221;exact aV (Er:=Er) (ui<|dv (R:=(vw<|a8 K Z00 Z01)) (eV (R:=(a8 K Z00 Z01)) (k:=0) S)<|dv (R:=(sh<|isL<|qA K)) (bH h12)<|dv (R:=(sh<|isL isS)) (bH h221)<|dv (R:=(sh<|isL isB)) (bH h239) d5)<|D8 hq fun y240 hq v241 W242 e243 h244=>hq v241 W242 (E0.trans e243) h244
end
end Wb
namespace Wb
open PySem L2
section
variable{P:CQ}{w:D4}{K:Cq}{mg:Str->Option Cr}{base:Heap}
theorem wR{f:Addr}{fd:CP}{ps:List Str}{k:Nat}:FnOk P w K mg base CX0 k f fd ps (dZ K 0):=⟨fun _ _ _ _ h=>h.elim,fun _ _ _ _ _ _ _ _ _ _ _ _ _ h=>h.elim⟩
theorem kit{K:Cq}(a b:String)(r:Bool)(h:Dp [] (.type a) (.type b)=some r):Dp K (.type a) (.type b)=some r:=by first|exact h|(rw[<-h];rfl)
theorem fW{c:TT}{t rest:TS}{D:Ends}{σ:St}{H:Hp}(h:∀Q:Bool->Hp->Prop,Q false H->c σ H Q)(k:rest D σ H):dt (i9 c t aM) rest D σ H:=h _ k
theorem mL{c:TT}{t rest:TS}{D:Ends}{σ:St}{H:Hp}(h:∀Q:Bool->Hp->Prop,Q true H->c σ H Q)(k:t {D with nx:=rest D} σ H):dt (i9 c t aM) rest D σ H:=h _ k
local macro_rules | `(tactic|walk_at "S0")=>`(tactic|simp only[cz,bz,dq,aU,tC,dR,ah,aE,cg,aM,bD,aH,cj,ba,cx,tB,fA,rU,eQ,rI,cm,cu,aI,aT,fG,cD,fF,cw,bw,bx,fH,bA,az,dU,bB,aS,fB,fJ,cE,cG,cn,cy,cF,aw,aK,L2.start,Dy,FF,Hl,FL,Dh,Dr,FN,CI,GQ,GR,FX,FY,GZ,exists_eq_left',exists_eq_left,exists_and_left,exists_eq',exists_const,G8.injEq,Kw.injEq,FZ.injEq,V.ref.injEq,V.ty.injEq,HE,and_true,true_and,reduceCtorEq,false_and,and_false,exists_false,or_false,false_or,decide_eq_true_eq,H9,decide_eq_false_iff_not,if_true,if_false,Ej,ite_true,ite_false,Il,HX,Im,Io,and_assoc])
local macro_rules | `(tactic|walk_at "S1")=>`(tactic|simp only[cz,dt,i9,bz,dq,aU,tC,dR,ah,aE,cg,aM,bD,aH,cj,ba,cx,tB,fA,rU,eQ,rI,cm,cu,aI,aT,fG,cD,fF,cw,bw,bx,fH,bA,az,dU,bB,aS,fB,fJ,cE,cG,cn,cy,cF,aw,aK,L2.start,Dy,FF,Hl,FL,Dh,Dr,FN,CI,GQ,GR,FX,FY,GZ,exists_eq_left',exists_eq_left,exists_and_left,exists_eq',exists_const,G8.injEq,Kw.injEq,FZ.injEq,V.ref.injEq,V.ty.injEq,HE,and_true,true_and,reduceCtorEq,false_and,and_false,exists_false,or_false,false_or,decide_eq_true_eq,H9,decide_eq_false_iff_not,if_true,if_false,Ej,ite_true,ite_false,Il,HX,Im,Io,and_assoc])
theorem uy{f:Addr}{fd:CP}(F:Fun K "_law_same" "_law_same" (tp 57) f fd)(Z15:mg "len"=none)(Z0j:mg "isinstance"=none)(Z6I:mg "bool"=none)(Za4:mg "int"=none)(Za5:mg "str"=none)(Z1a:mg "list"=none)(Z7i:mg "tuple"=none)(Z1R:mg "zip"=none){n:Nat}
  (Z0X:Cal P w K mg base "_law_same" ["_law_found","_law_due"] n (dZ K n)):FnOk P w K mg base CX0 (n+1) f fd ["_law_found","_law_due"] (dZ K<|n+1):=by
 have SC:FnScope ["_law_found","_law_due","_law_one","_law_other"] ["_law_found","_law_due"] (defScope<|tp 57):=by walk_at "F"
 refine F.ok SC (fun vs H Q E h=>?_)<|fun cdv A outer s H vs Q E hr h=>?_;·obtain⟨v,u,rfl,_⟩:=h;rfl
 ·obtain⟨v,u,rfl,h⟩:=h;have hr:Room n _:=hr
  refine⟨_,(a6 (cI (Ke<|oq (bQ (op_isN.or ji) (pv 1) i8<|bG _)<|oq (bQ (op_isN.or ji) (pv 1) fy<|bG _)<|ng<|bQ (op_isN.or ji) (pv 1) fy<|bG _) (ae (au (jd (eS gA (aj (bj (K:=K) rfl) (by rfl) Z0j Cz (a4 (pv 0) (a4 (cZ (v:=.ty "bool") (by rfl) Z6I G6 rfl) a5))) (aj (bj (K:=K) rfl) (by rfl) Z0j Cz (a4 (pv 1) (a4 (cZ (v:=.ty "bool") (by rfl) Z6I G6 rfl) a5)))<|bG _)<|l6<|eS gA (pv 0) (pv 1)<|bG _))) bt)
   (a6 (cI (cC (aj (bj (K:=K) rfl) (by rfl) Z0j Cz (a4 (pv 1) (a4 (cZ (v:=.ty "int") (by rfl) Za4 HP rfl) a5)))) (ae (au (jd (aj (bj (K:=K) rfl) (by rfl) Z0j Cz (a4 (pv 0) (a4 (cZ (v:=.ty "int") (by rfl) Za4 HP rfl) a5))) (jd (l7 (aj (bj (K:=K) rfl) (by rfl) Z0j Cz (a4 (pv 0) (a4 (cZ (v:=.ty "bool") (by rfl) Z6I G6 rfl) a5))))<|l6<|eS gA (pv 0) (pv 1)<|bG _)))) bt)
   (a6 (cI (cC (aj (bj (K:=K) rfl) (by rfl) Z0j Cz (a4 (pv 1) (a4 (cZ (v:=.ty "str") (by rfl) Za5 HQ rfl) a5)))) (ae (au (jd (aj (bj (K:=K) rfl) (by rfl) Z0j Cz (a4 (pv 0) (a4 (cZ (v:=.ty "str") (by rfl) Za5 HQ rfl) a5)))<|l6<|eS gA (pv 0) (pv 1)<|bG _))) bt)
   (a6 (cI (Ke (l5 (cC (aj (bj (K:=K) rfl) (by rfl) Z0j Cz (a4 (pv 1) (a4 (cZ (v:=.ty "list") (by rfl) Z1a Ec rfl) a5)))) (iW (fj (cC (aj (bj (K:=K) rfl) (by rfl) Z0j Cz (a4 (pv 0) (a4 (cZ (v:=.ty "list") (by rfl) Z1a Ec rfl) a5)))))))) (ae<|au fy) bt)
   (a6 (cI (Ke (l5 (cC (aj (bj (K:=K) rfl) (by rfl) Z0j Cz (a4 (pv 1) (a4 (cZ (v:=.ty "tuple") (by rfl) Z7i Hm rfl) a5)))) (iW (fj (cC (aj (bj (K:=K) rfl) (by rfl) Z0j Cz (a4 (pv 0) (a4 (cZ (v:=.ty "tuple") (by rfl) Z7i Hm rfl) a5)))))))) (ae<|au fy) bt)
   (a6 (cI (bQ zf (aj (cB (K:=K) rfl) (by rfl) Z15 Ey<|a4 (pv 0) a5) (aj (cB (K:=K) rfl) (by rfl) Z15 Ey<|a4 (pv 1) a5)<|bG _) (ae<|au fy) bt)
   (a6 (dM E7 rfl (gf (K:=K) rfl rfl Z1R<|a4 (pv 0)<|a4 (pv 1) a5) (cK (K:=K) (n:=2) rfl rfl (av (aP (i:=2) SC.nd rfl (by walk_at "L")) (av (aP (i:=3) SC.nd rfl (by walk_at "L")) cq))) (ae (cI (fj (cC (sC Z0X hr (by rfl)<|a4 (pv 2)<|a4 (pv 3) a5))) (ae<|au fy) bt)))
   (ae (au fy))))))))),?_⟩
  rcases h with⟨he,q⟩|⟨x,y,rfl,rfl,q⟩
  rotate_left
  ·refine fW (fun Q q=>?_)<|fW (fun Q q=>?_)<|mL (fun Q q=>?_) ?_;·walk_at "S0";exact q
   ·walk_at "S0";exact⟨_,.str _,_,kit "str" "int" false rfl,q⟩
   ·walk_at "S0";exact⟨_,.str _,_,kit "str" "str" true rfl,q⟩
   ·walk_at "S0";refine⟨_,.str _,_,kit "str" "str" true rfl,?_⟩;walk_at "S0";simpa using q
  have fl:∀v,L2.flat v=true->(∀H',Same H H'->Q (.bl true) H')->(v=.non\/(∃b,v=.bl b)\/(∃i,v=.int i)\/∃x,v=.str x):=fun v hv _=>by
   cases v with
   |non=>exact .inl rfl
   |bl b=>exact .inr<|.inl ⟨b,rfl⟩
   |int b=>exact .inr<|.inr<|.inl ⟨b,rfl⟩
   |str b=>exact .inr<|.inr<|.inr ⟨b,rfl⟩
   |_=>cases hv
  have he':(v=u/\L2.flat v=true)\/∃m p q xs ys,n=m+1/\v=.ref p/\u=.ref q/\((H p=some (.lst xs)/\H q=some (.lst ys))\/(SqT K H p xs/\SqT K H q ys))/\xs.length=ys.length/\∀(i:Nat)(x y:V),xs[i]? =some x->ys[i]? =some y->EqK K H m x y:=by
   cases n with
   |zero=>exact .inl he
   |succ m=>rcases he with z|⟨p,q,xs,ys,z⟩;exact .inl z;exact .inr ⟨m,p,q,xs,ys,rfl,z⟩
  rcases he' with⟨rfl,hf⟩|⟨m,p,q',xs,ys,hnm,rfl,rfl,hk,hl,hi⟩
  ·rcases fl v hf q with rfl | ⟨b,rfl⟩ | ⟨i,rfl⟩ | ⟨x,rfl⟩
   ·refine mL (fun Q q=>?_) ?_;·walk_at "S0";exact q
    ·walk_at "S0";refine⟨_,.non,_,kit "NoneType" "bool" false rfl,_,.non,_,kit "NoneType" "bool" false rfl,?_⟩;walk_at "S0";exact q H<|.refl H
   ·refine mL (fun Q q=>?_) ?_;·cases b<;>walk_at "S0"<;>exact q
    ·walk_at "S0";refine⟨_,.bl _,_,kit "bool" "bool" true rfl,_,.bl _,_,kit "bool" "bool" true rfl,?_⟩;walk_at "S0";exact q H<|.refl H
   ·refine fW (fun Q q=>?_)<|mL (fun Q q=>?_) ?_;·walk_at "S0";exact q
    ·walk_at "S0";exact⟨_,.int _,_,kit "int" "int" true rfl,q⟩
    ·walk_at "S0";refine⟨_,.int _,_,kit "int" "int" true rfl,?_⟩;walk_at "S0";refine⟨_,.int _,_,kit "int" "bool" false rfl,?_⟩;walk_at "S0";exact q H<|.refl H
   ·refine fW (fun Q q=>?_)<|fW (fun Q q=>?_)<|mL (fun Q q=>?_) ?_;·walk_at "S0";exact q
    ·walk_at "S0";exact⟨_,.str _,_,kit "str" "int" false rfl,q⟩
    ·walk_at "S0";exact⟨_,.str _,_,kit "str" "str" true rfl,q⟩
    ·walk_at "S0";refine⟨_,.str _,_,kit "str" "str" true rfl,?_⟩;walk_at "S0";exact q H<|.refl H
  ·subst hnm;obtain⟨T,tp1,tp2,tl,src1,src2,h1,h2,e1,e2⟩:∃(T:String)(tp1:TyOf K H (.ref p) (.type T))(tp2:TyOf K H (.ref q') (.type T))(tl:(T="list"/\SqL K H p xs/\SqL K H q' ys)\/(T="tuple"/\SqT K H p xs/\SqT K H q' ys))(src1 src2:Src),(∀H',Same H H'->src1.has K H' xs)/\(∀H',Same H H'->src2.has K H' ys)/\src1.val=.ref p/\src2.val=.ref q':=by
    rcases hk with⟨a,b⟩|⟨a,b⟩
    ·exact⟨"list",.lst a,.lst b,.inl ⟨rfl,Ep a,Ep b⟩,.lst p,.lst q',fun H' e=>Ep<|e _ _ a,fun H' e=>Ep<|e _ _ b,rfl,rfl⟩
    ·exact⟨"tuple",.tup a,.tup b,.inr ⟨rfl,a,b⟩,.tup p,.tup q',fun H' e=>J7 e a,fun H' e=>J7 e b,rfl,rfl⟩
   have hi0:Dp K (.type T) (.type "int")=some false:=by rcases tl with⟨rfl,_⟩|⟨rfl,_⟩;exact kit _ _ _ rfl;exact kit _ _ _ rfl
   have hs0:Dp K (.type T) (.type "str")=some false:=by rcases tl with⟨rfl,_⟩|⟨rfl,_⟩;exact kit _ _ _ rfl;exact kit _ _ _ rfl
   obtain⟨bl,hl0,hl1⟩:∃bl,Dp K (.type T) (.type "list")=some bl/\Dp K (.type T) (.type "tuple")=some (!bl):=by rcases tl with⟨rfl,_⟩|⟨rfl,_⟩;exact⟨true,kit _ _ _ rfl,kit _ _ _ rfl⟩;exact⟨false,kit _ _ _ rfl,kit _ _ _ rfl⟩
   have ln1:lQ K (.ref p) H xs.length:=by rcases tl with⟨_,t1,_⟩|⟨_,t1,_⟩;exact .inl ⟨_,t1,rfl⟩;exact .inr ⟨_,t1,rfl⟩
   have ln2:lQ K (.ref q') H ys.length:=by rcases tl with⟨_,_,t2⟩|⟨_,_,t2⟩;exact .inl ⟨_,t2,rfl⟩;exact .inr ⟨_,t2,rfl⟩
   refine fW (fun Q q=>?_)<|fW (fun Q q=>?_)<|fW (fun Q q=>?_)<|fW (fun Q q=>?_)<|fW (fun Q q=>?_)<|fW (fun Q q=>?_) ?_;·walk_at "S0";exact q
   ·walk_at "S0";exact⟨_,tp2,_,hi0,q⟩
   ·walk_at "S0";exact⟨_,tp2,_,hs0,q⟩
   ·walk_at "S0";refine⟨_,tp2,_,hl0,?_⟩;cases bl with
    |false=>exact q
    |true=>walk_at "S0";exact⟨_,tp1,_,hl0,q⟩
   ·walk_at "S0";refine⟨_,tp2,_,hl1,?_⟩;cases bl with
    |true=>exact q
    |false=>walk_at "S0";exact⟨_,tp1,_,hl1,q⟩
   ·walk_at "S0";refine⟨_,ln1,_,ln2,?_⟩;simp only[hl,cz,bz,dq,aU,tC,dR,ah,aE,cg,aM,bD,aH,cj,ba,cx,tB,fA,rU,eQ,rI,cm,cu,aI,aT,fG,cD,fF,cw,bw,bx,fH,bA,az,dU,bB,aS,fB,fJ,cE,cG,cn,cy,cF,aw,aK,L2.start,Dy,FF,Hl,FL,Dh,Dr,FN,CI,GQ,GR,FX,FY,GZ,exists_eq_left',exists_eq_left,exists_and_left,exists_eq',exists_const,G8.injEq,Kw.injEq,FZ.injEq,V.ref.injEq,V.ty.injEq,HE,and_true,true_and,reduceCtorEq,false_and,and_false,exists_false,or_false,false_or,decide_eq_true_eq,H9,decide_eq_false_iff_not,if_true,if_false,Ej,ite_true,ite_false,Il,HX,Im,Io,and_assoc];exact q
   ·walk_at "S1";refine⟨_,rfl,_,rfl,src1,src2,xs,ys,by rw[e1,e2],h1 H<|.refl H,h2 H<|.refl H,vJ (fun i σ H2=>Same H H2/\∃a b,σ=[some (.ref p),some<|.ref q',a,b]) ⟨.refl H,none,none,rfl⟩ (fun i σ H2⟨e,_⟩=>⟨h1 H2 e,h2 H2 e⟩) hl ?_ ?_⟩
    ·rintro i x y r σ H2 hx hy hr' ⟨e,a,b,rfl⟩;walk_at "S1";refine⟨_,IG ai,rfl,?_⟩;walk_at "S1";refine⟨x,y,rfl,.inl ⟨(hi i x y hx hy).same (e.trans<|cV hr'),fun H3 e3=>?_⟩⟩;walk_at "S1";exact e.trans<|(cV hr').trans e3
    ·rintro σ H2 ⟨e,a,b,rfl⟩;walk_at "S1";exact q H2 e
def pN(K:Cq):Sp:=fun vs H Q _=>∃(a:Addr)(ns:List Int),vs=[.ref a]/\SqL K H a (ns.map G8)/\ns.length<=63/\∀H',Q (.bl true) H'
end
end Wb
namespace Mi
theorem pO{s:List Int}(hs:s.length<=63)(k:Nat)(hk:k<=200):∃n,iO s (k:Int)=.ok n:=by
 unfold iO Ao;by_cases h:(k:Int)<(s.length:Int)
 ·rw[if_pos (by simpa using h)];obtain⟨x,e,_⟩:=dE (xs:=s) (i:=(k:Int)) (by omega) h;exact⟨x,e⟩
 ·rw[if_neg (by simpa using h),tG (by omega) (by omega)];exact⟨_,rfl⟩
theorem yx(c b:Int)(hb:1<=b)(hb2:b<1073741824)(k:Nat)(s:Int×Int×List Int)(h1:0<=s.2.1)(hl:s.2.2.length<100000):∃s':Int×Int×List Int,yX c b (k:Int) s=.ok s'/\0<=s'.2.1/\∃v,0<=v/\v<b/\s'.2.2=s.2.2++[v]:=by
 unfold yX;have hm0:=DG (s.1*48271+7919+(k:Int)) (show(2147483647:Int)≠0 by decide);have hm1:=Dw (s.1*48271+7919+(k:Int)) (show(0:Int)<2147483647 by decide);generalize (s.1*48271+7919+(k:Int))%2147483647=mx at*
 have other:∀z:Int,0<=z%b/\z%b<b:=fun z=>⟨DG _ (by omega),Dw _ (by omega)⟩
 have A:∀z:Int,fI s.2.2 z=.ok (s.2.2++[z]):=fun z=>gj hl;have e2:((((nI mx mx).bind fun y63=>CB<|y63%1000003).bind fun y64=>lu y64 b).bind fun y69=>fI s.2.2 y69)=.ok (s.2.2++[mx*mx%1000003%b]):=by
  rw[tF (by omega) (by omega)];simp only[Ct];rw[iZ (by omega)];exact A _
 have e1:((lu s.2.1 b).bind fun y56=>fI s.2.2 y56)=.ok (s.2.2++[s.2.1%b]):=by rw[iZ (by omega)];exact A _
 by_cases hf:(1000000000000000000:Int)<=cH c
 ·rw[decide_eq_true hf];by_cases hp:0<s.2.1
  ·rw[decide_eq_true hp];simp only[if_true,Ct,e1,tE (show 0<b by omega) hb2];exact⟨_,rfl,Int.ediv_nonneg h1 (by omega),_,(other _).1,(other _).2,rfl⟩
  ·rw[decide_eq_false hp];simp only[if_true,Ct,Ej,if_false,e2];exact⟨_,rfl,h1,_,(other _).1,(other _).2,rfl⟩
 ·rw[decide_eq_false hf];simp only[Ct,Ej,if_false,e2];exact⟨_,rfl,h1,_,(other _).1,(other _).2,rfl⟩
theorem uz(c:Int)(n:Nat)(b:Int)(hn:n<=1000)(hb:1<=b)(hb2:b<1073741824):∃ns,mZ c (n:Int) b=.ok ns/\ns.length=n/\∀x∈ns,0<=x/\x<b:=by
 unfold mZ Ap;rw[ir (by omega),Ct];obtain⟨s,e,h0,hl,hb⟩:=jy (f:=yX c b) (fun pre(s:Int×Int×List Int)=>0<=s.2.1/\s.2.2.length=pre.length/\∀x∈s.2.2,0<=x/\x<b) ((EM n).map fun(i:Nat)=>(i:Int)) ((cH c)%2147483647,cH c,[]) ⟨w4 c,rfl,by simp⟩ (by
  intro pre a post s e ⟨h0,hl,hb'⟩;have hlen:pre.length<n:=by have:=congrArg FA e;simp at this;omega
  obtain⟨k,rfl⟩:∃k:Nat,a=(k:Int):=by
   have:a∈(EM n).map fun(i:Nat)=>(i:Int):=by rw[e];simp
   obtain⟨k,_,hk⟩:=CU.mp this;exact⟨k,hk.symm⟩
  obtain⟨s',e',h0',v,v0,v1,ev⟩:=yx c b hb hb2 k s h0 (by omega);refine⟨s',e',h0',by rw[ev];simp[hl],fun x hx=>?_⟩;rw[ev]at hx;rcases E3.mp hx with z|z;·exact hb' x z
  ·rw[Ek.mp z];exact⟨v0,v1⟩)
 rw[e];exact⟨_,rfl,by rw[hl];simp,hb⟩
def isTurn(c:Nat):Prop:=c=102\/c=98\/c=105
instance zkeep85(c:Nat):Decidable (isTurn c):=by unfold isTurn;infer_instance
def Turns(t:Tx):Prop:=∀c∈t,isTurn c
structure Card(t:Cd):Prop where
 lay:t.1=[83]\/t.1=[90]
 four:t.2.1.length=4
 col:∀c∈t.2.1,97<=c/\c<=122
 low:0<=t.2.2
 high:t.2.2<4
abbrev Sp:=List<|Tx×Int
def ky(d:Sp):List Tx:=d.map (·.1)
theorem uA(d:Sp)(k k':Tx)(a:Int):look (eJ d k a) k'=if k'=k then some a else look d k':=by
 unfold eJ;by_cases h:(d.any fun p=>decide<|p.1=k)=true
 ·rw[if_pos h]
  induction d with
  |nil=>cases h
  |cons p d ih=>
   rw[Dy];by_cases e:p.1=k
   ·rw[if_pos e];by_cases e2:k'=k;·rw[if_pos e2];unfold look;rw[Ex (by simp[e,e2])];rfl
    ·rw[if_neg e2];have n1:¬p.1=k':=fun z=>e2<|z.symm.trans e;unfold look;rw[DD (by simpa using n1),DD (by simpa using n1)];by_cases h2:(d.any fun p=>decide<|p.1=k)=true
     ·have:=ih h2;rw[if_neg e2]at this;exact this
     ·have:(d.map fun kv=>if kv.1=k then(kv.1,a)else kv)=d:=by
       rw[DA (g:=id),List.map_id];intro q hq;rw[if_neg fun z=>h2 (Hn.mpr ⟨q,hq,by simpa using z⟩)];rfl
      rw[this]
   ·rw[if_neg e];have h2:(d.any fun p=>decide<|p.1=k)=true:=by simpa [e] using h
    have:=ih h2;unfold look at this ⊢;by_cases e3:p.1=k';·rw[Ex (by simpa using e3),Ex (by simpa using e3),if_neg fun z=>e<|e3.trans z]
    ·rw[DD (by simpa using e3),DD (by simpa using e3)];exact this
 ·rw[if_neg h];unfold look;rw[List.find?_append];by_cases e2:k'=k
  ·subst e2;have:d.find? (fun p=>decide<|p.1=k')=none:=IF.mpr fun p hp z=>h<|Hn.mpr ⟨p,hp,z⟩;rw[this,if_pos rfl];simp
  ·rw[if_neg e2];cases q:d.find? (fun p=>decide<|p.1=k')with
   |some x=>rfl
   |none=>
    rw[Option.none_or,DD (by simpa using fun z=>e2 z.symm)];rfl
theorem uB(d:Sp)(k:Tx):(d.any fun p=>decide<|p.1=k)=true↔k∈ky d:=by
 unfold ky;rw[Hn,CU];simp
theorem jF(d:Sp)(k:Tx)(a:Int):ky (eJ d k a)=if k∈ky d then ky d else ky d++[k]:=by
 unfold eJ;by_cases h:k∈ky d
 ·rw[if_pos<|(uB d k).mpr h,if_pos h];unfold ky;rw[DL];refine DA fun p _=>?_;show(if p.1=k then(p.1,a)else p).1=p.1;split<;>rfl
 ·rw[if_neg fun z=>h<|(uB d k).mp z,if_neg h];unfold ky;simp
theorem look_mem{d:Sp}{k:Tx}:k∈ky d↔∃v,look d k=some v:=by
 unfold look;constructor
 ·intro h;obtain⟨p,h1,h2⟩:=CU.mp h;cases q:d.find? (fun p=>decide<|p.1=k)with
  |some x=>exact⟨x.2,rfl⟩
  |none=>exact absurd (IF.mp q p h1) (by simpa using h2)
 ·rintro ⟨v,h⟩;obtain⟨p,h1,h2⟩:=ER.mp h;exact CU.mpr ⟨p,List.mem_of_find?_eq_some h1,by simpa using List.find?_some h1⟩
theorem wU{d:Sp}(nd:(ky d).Nodup){p:Tx×Int}(h:p∈d):look d p.1=some p.2:=by
 induction d with
 |nil=>cases h
 |cons q d ih=>
  have nd':q.1∉ky d/\(ky d).Nodup:=DP.mp nd;unfold look;rcases CM.mp h with rfl|h
  ·rw[Ex (by simp)];rfl
  ·have:¬q.1=p.1:=fun z=>nd'.1<|z▸CU.mpr ⟨p,h,rfl⟩;rw[DD (by simpa using this)];exact ih nd'.2 h
theorem jG(d:Sp)(k k':Tx)(a:Int):getZ (eJ d k a) k' 0=if k'=k then a else getZ d k' 0:=by
 unfold getZ;rw[uA];split<;>rfl
theorem jH{d:Sp}{k:Tx}(h:k∉ky d):getZ d k 0=0:=by
 unfold getZ;cases q:look d k with
 |none=>rfl
 |some v=>exact absurd (look_mem.mpr ⟨v,q⟩) h
theorem gu{d:Sp}(nd:(ky d).Nodup){p:Tx×Int}(h:p∈d):getZ d p.1 0=p.2:=by
 unfold getZ;rw[wU nd h];rfl
theorem pP(d:Sp)(k:Tx)(a:Int):(eJ d k a).length<=d.length+1:=by unfold eJ;split<;>simp
theorem uC{d:Sp}(nd:(ky d).Nodup)(k:Tx)(a:Int):(ky<|eJ d k a).Nodup:=by
 rw[jF];split;·exact nd
 ·rename_i h;refine List.nodup_append.mpr ⟨nd,by simp,fun x hx y hy e=>?_⟩;have:y=k:=by simpa using hy
  subst this;subst e;exact h hx
def iV(L:Sp)(k:Tx):Int:=(L.map fun p=>if p.1=k then p.2 else 0).sum
theorem gw(p:Tx×Int)(L:Sp)(k:Tx):iV (p::L) k=(if p.1=k then p.2 else 0)+iV L k:=by unfold iV;simp
theorem pQ{L:Sp}(h:∀p∈L,0<=p.2)(k:Tx):0<=iV L k:=by
 induction L with
 |nil=>exact HY _
 |cons p L ih=>
  rw[gw];have h1:=h p<|CJ ..;have h2:=ih fun q hq=>h q<|CG _ hq;split<;>omega
theorem uD{L:Sp}(h:∀p∈L,0<p.2){k:Tx}(hk:k∈ky L):0<iV L k:=by
 induction L with
 |nil=>cases hk
 |cons p L ih=>
  rw[gw];have h1:=h p<|CJ ..;have h2:=pQ (L:=L) (fun q hq=>by have:=h q<|CG _ hq;omega) k;by_cases z:p.1=k;·rw[if_pos z];omega
  ·have:k∈ky L:=by
    rcases CM.mp hk with e|e;·exact absurd e.symm z
    ·exact e
   have:=ih (fun q hq=>h q<|CG _ hq) this;rw[if_neg z];omega
def wV(p:Tx×Int)(s:Sp):Res Sp:=iT s p.1<|getZ s p.1 0+p.2
theorem uE:∀(L s:Sp),(ky s).Nodup->s.length+L.length<1000->∃r,bJ wV L s=.ok r/\(ky r).Nodup/\(∀k,getZ r k 0=getZ s k 0+iV L k)/\(∀k,k∈ky r↔k∈ky s\/k∈ky L)/\r.length<=s.length+L.length/\((∀p∈L,p.1∈ky s)->ky r=ky s)
 | [],s,nd,hl=>⟨s,rfl,nd,fun k=>by unfold iV;simp,fun k=>by unfold ky;simp,by simp,fun _=>rfl⟩
 |p::L,s,nd,hl=>by
  simp only[Dr]at hl;have hp:=pP s p.1<|getZ s p.1 0+p.2;obtain⟨r,e,h1,h2,h3,h4,h5⟩:=uE L (eJ s p.1<|getZ s p.1 0+p.2) (uC nd _ _) (by omega);refine⟨r,?_,h1,fun k=>?_,fun k=>?_,by simp only[Dr];omega,fun h=>?_⟩
  ·show(wV p s).bind _=_;rw[show wV p s=.ok (eJ s p.1<|getZ s p.1 0+p.2)from bu (by show s.length<100000;omega),Ct];exact e
  ·rw[h2,jG,gw];by_cases z:k=p.1;·subst z;rw[if_pos rfl,if_pos rfl];omega
   ·rw[if_neg z,if_neg<|E8 z];omega
  ·rw[h3,jF];have:k∈ky (p::L)↔k=p.1\/k∈ky L:=CM;rw[this];split
   ·rename_i z;constructor
    ·rintro (h | h);·exact .inl h
     ·exact .inr<|.inr h
    ·rintro (h | rfl | h);·exact .inl h
     ·exact .inl z
     ·exact .inr h
   ·rw[E3,Ek,or_assoc]
  ·have hin:p.1∈ky s:=h p<|CJ ..;have e2:ky (eJ s p.1<|getZ s p.1 0+p.2)=ky s:=by rw[jF,if_pos hin]
   rw[h5 fun q hq=>by rw[e2];exact h q<|CG _ hq,e2]
theorem mM{α S:Type}{f:α->S->Res S}:∀(l r:List α)(s:S),bJ f (l++r) s=(bJ f l s).bind (bJ f r)
 | [],r,s=>rfl
 |a::l,r,s=>by
  show(f a s).bind _=((f a s).bind _).bind _;cases f a s with
  |ok b=>exact mM l r b
  |err j=>rfl
  |stuck=>rfl
theorem kX{α β S:Type}{f:β->S->Res S}{g:α->List β}:∀(l:List α)(s:S),bJ f (l.flatMap g) s=bJ (fun a s=>bJ f (g a) s) l s
 | [],s=>rfl
 |a::l,s=>by
  rw[List.flatMap_cons,mM];show _=(bJ f (g a) s).bind _;congr 1;funext b;exact kX l b
theorem gN{α S:Type}{f g:α->S->Res S}:∀(l:List α)(s:S),(∀a∈l,∀s,f a s=g a s)->bJ f l s=bJ g l s
 | [],s,_=>rfl
 |a::l,s,h=>by
  show(f a s).bind _=(g a s).bind _;rw[h a<|CJ ..];congr 1;funext b;exact gN l b fun x hx=>h x<|CG _ hx
theorem fi{α β S:Type}{f:β->S->Res S}{g:α->β}:∀(l:List α)(s:S),bJ f (l.map g) s=bJ (fun a s=>f (g a) s) l s
 | [],s=>rfl
 |a::l,s=>by
  show(f (g a) s).bind _=(f (g a) s).bind _;congr 1;funext b;exact fi l b
theorem mO:∀(T s:Sp),(ky T).Nodup->(ky s).Nodup->s.length<1000->(∀p∈T,0<p.2/\p.1.length<=100)->(∀p∈T,p.2<=getZ s p.1 0)->∃r,bJ yw T s=.ok r/\ky r=ky s/\∀k,getZ r k 0=getZ s k 0-getZ T k 0
 | [],s,_,_,_,_,_=>⟨s,rfl,rfl,fun k=>by show _=_-0;omega⟩
 |p::T,s,ndT,nds,hl,hp,hg=>by
  have nd':p.1∉ky T/\(ky T).Nodup:=DP.mp ndT;have h1:=hg p<|CJ ..;have h2:=(hp p<|CJ ..).1;have hin:p.1∈ky s:=FH fun z=>by rw[jH z]at h1;omega
  obtain⟨v,hv⟩:=look_mem.mp hin;have gv:getZ s p.1 0=v:=by unfold getZ;rw[hv];rfl
  have e1:yw p s=.ok (eJ s p.1<|v-p.2):=by
   unfold yw;rw[if_neg (by simpa using h1),show getD s p.1=.ok v from by unfold getD;rw[hv];rfl,Ct,show iT s p.1 (v-p.2)=.ok _ from bu (by show s.length<100000;omega)];rfl
  have ek:ky (eJ s p.1<|v-p.2)=ky s:=by rw[jF,if_pos hin]
  have ne:∀q∈T,q.1≠p.1:=fun q hq z=>nd'.1<|z▸CU.mpr ⟨q,hq,rfl⟩;have el:(eJ s p.1<|v-p.2).length=s.length:=by
   have:=congrArg FA ek;unfold ky at this;simpa using this
  obtain⟨r,e,k1,k2⟩:=mO T (eJ s p.1<|v-p.2) nd'.2 (by rw[ek];exact nds) (by omega) (fun q hq=>hp q<|CG _ hq) (fun q hq=>by rw[jG,if_neg<|ne q hq];exact hg q<|CG _ hq);refine⟨r,?_,k1.trans ek,fun k=>?_⟩
  ·show(yw p s).bind _=_;rw[e1,Ct];exact e
  ·rw[k2,jG];by_cases z:k=p.1
   ·subst z;rw[if_pos rfl,jH nd'.1,gv,gu ndT<|CJ ..];omega
   ·have:getZ (p::T) k 0=getZ T k 0:=by
     unfold getZ look;rw[DD (by simpa using fun y=>z y.symm)]
    rw[if_neg z,this]
def go(c:Nat):Int:=if c=102 then 1 else if c=98 then -1 else 0
def tw(t:Cd)(c:Nat):Int:=if t.1=[83]then go c else -go c
def eZ(t:Cd)(i:Int):Nat:=t.2.1[i.toNat]?.getD 0
def uF(i:Int):Nat:=if i=1 then 115 else if i= -1 then 122 else 111
def behind(t:Cd)(c:Nat):Cd:=(t.1,t.2.1,(t.2.2+go c)%4)
def dQ(t:Cd)(c:Nat):Pl:=([eZ t t.2.2],[eZ t ((t.2.2+2)%4)],[uF (tw t c)])
theorem Aa(c:Nat): -1<=go c/\go c<=1:=by unfold go;split;omega;split<;>omega
theorem uG(t:Cd)(c:Nat): -1<=tw t c/\tw t c<=1:=by have:=Aa c;unfold tw;split<;>omega
theorem Card.behind{t:Cd}(h:Card t)(c:Nat):Card (behind t c):=⟨h.lay,h.four,h.col,DG _ (by decide),Dw _ (by decide)⟩
theorem xw{c:Nat}(h:isTurn c):n6 [c]=.ok (go c):=by
 unfold n6 AI;rcases h with rfl|rfl|rfl<;>rfl
theorem kY{t:Cd}{c:Nat}(h:isTurn c):i4 t [c]=.ok (behind t c):=by
 unfold i4 AJ;rw[xw h];rfl
theorem jI{t:Cd}{c:Nat}(h:isTurn c):fT t [c]=.ok (tw t c):=by
 unfold fT AK;rw[xw h];by_cases z:t.1=[83]
 ·rw[if_pos (by simpa using z)];unfold tw;rw[if_pos z]
 ·rw[if_neg (by simpa using z)];unfold tw;rw[if_neg z];simp only[Ct];congr 1;omega
theorem d6{t:Cd}(h:Card t){i:Int}(h0:0<=i)(h1:i<4):fO t.2.1 i=.ok [eZ t i]:=tH h0 (by rw[h.four];exact h1) (by rw[h.four];decide)
theorem mP(i:Int):0<=i%4/\i%4<4:=⟨DG _ (by decide),Dw _ (by decide)⟩
theorem yy{i:Int}(h: -1<=i/\i<=1):fO ([122,111,115]:Tx) (i+1)=.ok [uF i]:=by
 have:i= -1\/i=0\/i=1:=by omega
 rcases this with rfl|rfl|rfl<;>rfl
def cU:Cd->Tx->List Pl
 |_,[]=>[]
 |t,c::r=>dQ (behind t c) c::cU (behind t c) r
def ends:Cd->Tx->Cd
 |t,[]=>t
 |t,c::r=>ends (behind t c) r
theorem fx(t:Cd)(x:Tx):(cU t x).length=x.length:=by
 induction x generalizing t with
 |nil=>rfl
 |cons c r ih=>simp[cU,ih]
theorem jJ(x:Tx):∀(t:Cd)(c:Nat),cU t (x++[c])=cU t x++[dQ (behind (ends t x) c) c]:=by
 induction x with
 |nil=>intro t c;rfl
 |cons d r ih=>intro t c;simp[cU,ends,ih]
theorem mQ(x:Tx):∀(t:Cd)(c:Nat),ends t (x++[c])=behind (ends t x) c:=by
 induction x with
 |nil=>intro t c;rfl
 |cons d r ih=>intro t c;simp[ends,ih]
theorem Card.ends{t:Cd}(h:Card t)(x:Tx):Card (ends t x):=by
 induction x generalizing t with
 |nil=>exact h
 |cons c r ih=>exact ih<|h.behind c
theorem yz{t:Cd}(h:Card t):i0 t=.ok [eZ t t.2.2]:=by
 unfold i0 pG;rw[show t.2.2%4=t.2.2 from Int.emod_eq_of_lt h.low h.high,d6 h h.low h.high]
theorem qV{t:Cd}(h:Card t):wK t=.ok [eZ t ((t.2.2+2)%4)]:=by
 unfold wK AB;rw[d6 h (mP _).1 (mP _).2]
theorem iP{t:Cd}{c:Nat}(h:isTurn c):mI t [c]=.ok (tw t c):=by
 unfold mI Ax;have e:getD ([([102],1),([98],(-1)),([105],0)]:List (Tx×Int)) [c]=.ok (go c):=by rcases h with rfl|rfl|rfl<;>rfl
 rw[e,Ct];by_cases z:t.1=[83]
 ·rw[if_pos (by simpa using z)];unfold tw;rw[if_pos z]
 ·rw[if_neg (by simpa using z)];unfold tw;rw[if_neg z]
theorem qW{i:Int}(h: -1<=i/\i<=1):getD ([(1,[115]),((-1),[122]),(0,[111])]:List (Int×Tx)) i=.ok [uF i]:=by
 have:i= -1\/i=0\/i=1:=by omega
 rcases this with rfl|rfl|rfl<;>rfl
theorem wW{t:Cd}(h:Card t){c:Nat}(hc:isTurn c):vc t [c]=.ok (dQ t c):=by
 unfold vc AD;simp only[yz h,qV h,iP hc,Ct,qW<|uG t c];rfl
def pR(c:Nat):Bool:=decide<|isTurn c
theorem turnB_iff{c:Nat}:pR c=true↔isTurn c:=decide_eq_true_iff
def yA(x:Tx)(n:Nat):Bool:=decide (x.length=n)&&x.all pR
theorem jY(c:Nat):([102,98,105]:Tx).contains c=pR c:=by
 rw[Ez,turnB_iff];simp[isTurn]
theorem qX{x:Tx}(hl:x.length<=10000)(n:Nat):va x (n:Int)=.ok (yA x n):=by
 unfold va Aw yA;rw[vY (by omega)];simp only[Ct];by_cases z:x.length=n
 ·rw[if_pos (by simp[z]),bN (g:=fun t:Tx=>pR<|t.headD 0) (by show(aF x).length<=100000;simp[aF];omega) (fun t ht=>by
   obtain⟨c,hc,rfl⟩:=iu ht;show CB _=_;rw[jY];rfl),Ct,decide_eq_true z,Bool.true_and]
  congr 1;simp[aF,List.all_map,Function.comp_def]
  try rfl
 ·rw[if_neg (by simp;omega),decide_eq_false z];rfl
theorem four{x:Tx}(h:x.length=4):∃a b c d,x=[a,b,c,d]:=by
 match x,h with
 | [a,b,c,d],_=>exact⟨a,b,c,d,rfl⟩
def bT(t:Cd):Cd:=(if t.1=[83]then [90]else [83],[eZ t 0,eZ t 3,eZ t 2,eZ t 1],(0-t.2.2)%4)
def iC(c:Nat):Nat:=if c=102 then 98 else if c=98 then 102 else c
theorem mR{t:Cd}(h:Card t):pL t=.ok (bT t):=by
 unfold pL AQ;have e1:((sJ ([83,90]:Tx) t.1).bind fun y5=>fO ([90,83]:Tx) y5)=.ok (if t.1=[83]then [90]else [83]):=by
  rcases h.lay with e|e<;>rw[e]<;>rfl
 rw[e1];simp only[Ct,d6 h (show(0:Int)<=0 by decide) (by decide),d6 h (show(0:Int)<=3 by decide) (by decide),d6 h (show(0:Int)<=2 by decide) (by decide),d6 h (show(0:Int)<=1 by decide) (by decide)];rfl
theorem yB{t:Cd}(h:Card t){x:Tx}(e:∀c∈x,∃i:Int,0<=i/\i<4/\c=eZ t i):∀c∈x,97<=c/\c<=122:=fun c hc=>by
 obtain⟨i,h0,h1,rfl⟩:=e c hc;unfold eZ;have:i.toNat<t.2.1.length:=by rw[h.four];omega
 simp only[Dz this,El];exact h.col _<|FG this
theorem Card.flip{t:Cd}(h:Card t):Card (bT t):=by
 refine⟨?_,rfl,yB h fun c hc=>?_,(mP _).1,(mP _).2⟩
 ·unfold bT;split;·exact .inr rfl
  ·exact .inl rfl
 ·have:c=eZ t 0\/c=eZ t 3\/c=eZ t 2\/c=eZ t 1:=by simpa [bT] using hc
  rcases this with rfl|rfl|rfl|rfl;·exact⟨0,by decide,by decide,rfl⟩
  ·exact⟨3,by decide,by decide,rfl⟩
  ·exact⟨2,by decide,by decide,rfl⟩
  ·exact⟨1,by decide,by decide,rfl⟩
theorem jK{c:Nat}(h:isTurn c):isTurn (iC c):=by
 unfold iC;rcases h with rfl|rfl|rfl
 ·exact .inr<|.inl rfl
 ·exact .inl rfl
 ·exact .inr<|.inr rfl
theorem uH(sz:Int)(ds:List Int)(hsz:1<=sz)(hd:ds.length=5)(a:Int)(t:Tx)(ht:t.length<1000):∃c,97<=c/\c<=122/\yY sz ds a t=.ok (t++[c]):=by
 unfold yY;obtain⟨x,e,_⟩:=dE (xs:=ds) (i:=4) (by decide) (by rw[hd];decide);rw[e];simp only[Ct,iZ (show 0<sz by omega)];have h0:=DG (x+a%sz*7) (show(26:Int)≠0 by decide);have h1:=Dw (x+a%sz*7) (show(0:Int)<26 by decide);generalize (x+a%sz*7)%26=r at h0 h1;obtain⟨c,e2,h2⟩:=j0 (x:=([97,98,99,100,101,102,103,104,105,106,107,108,109,110,111,112,113,114,115,116,117,118,119,120,121,122]:Tx)) (i:=r) h0 (by simp;omega) (by decide);rw[e2];simp only[Ct,lI (show t.length+[c].length<=100000 by simp;omega)];have hc:c∈([97,98,99,100,101,102,103,104,105,106,107,108,109,110,111,112,113,114,115,116,117,118,119,120,121,122]:Tx):=DC h2;have:∀c∈([97,98,99,100,101,102,103,104,105,106,107,108,109,110,111,112,113,114,115,116,117,118,119,120,121,122]:Tx),97<=c/\c<=122:=by decide
 exact⟨c,(this c hc).1,(this c hc).2,rfl⟩
theorem uI(c:Int):∃t,wG c=.ok t/\t.length=4/\∀x∈t,97<=x/\x<=122:=by
 unfold wG Aq;have h0:=DG c (show(5:Int)≠0 by decide);have h1:=Dw c (show(0:Int)<5 by decide);obtain⟨sz,e,h2⟩:=dE (xs:=[(1:Int),2,3,4,26]) (i:=c%5) h0 (by simp;omega);have hsz:1<=sz:=by
  have:∀x∈[(1:Int),2,3,4,26],1<=x:=by decide
  exact this sz<|DC h2
 rw[e,Ct];obtain⟨ds,e2,hd,_⟩:=uz (c/5) 5 26 (by decide) (by decide) (by decide);rw[show mZ (c/5) 5 26=CB ds from e2,Ct,show cut ds none (some 4)=ds.take 4 from tK ds 4];obtain⟨t,e3,h3,h4⟩:=jy (f:=yY sz ds) (fun pre t=>t.length=pre.length/\∀x∈t,97<=x/\x<=122) (ds.take 4) [] ⟨rfl,by simp⟩ (by
  intro pre a post t e ⟨hl,hb⟩;have hlen:pre.length<5:=by have:=congrArg FA e;simp at this;omega
  obtain⟨c,c0,c1,ec⟩:=uH sz ds hsz hd a t (by omega);refine⟨_,ec,by simp[hl],fun x hx=>?_⟩;rcases E3.mp hx with z|z;·exact hb x z
  ·rw[Ek.mp z];exact⟨c0,c1⟩)
 rw[e3];exact⟨t,rfl,by rw[h3,Hc];omega,h4⟩
theorem wX(c:Int):∃t,uY c=.ok t/\Card t:=by
 unfold uY Ar;have h0:=DG c (show(2:Int)≠0 by decide);have h1:=Dw c (show(0:Int)<2 by decide);obtain⟨y,e,h2⟩:=j0 (x:=([83,90]:Tx)) (i:=c%2) h0 (by simp;omega) (by decide);obtain⟨t,e2,hl,hb⟩:=uI<|c/8;rw[e,Ct,e2,Ct];refine⟨_,rfl,?_,hl,hb,DG _ (by decide),Dw _ (by decide)⟩;have:y=83\/y=90:=by simpa using DC h2
 rcases this with rfl|rfl;·exact .inl rfl
 ·exact .inr rfl
theorem uJ(d:Int)(h0:0<=d)(h1:d<3):∃c,fO ([102,98,105]:Tx) d=.ok [c]/\isTurn c:=by
 obtain⟨c,e,h⟩:=j0 (x:=([102,98,105]:Tx)) (i:=d) h0 (by simp;omega) (by decide);refine⟨c,e,?_⟩;have:=DC h;simpa [isTurn] using this
theorem uK(c:Int)(n:Nat)(hn:n<=1000):∃t,pF c (n:Int)=.ok t/\t.length=n/\Turns t:=by
 unfold pF Av;by_cases h:c%7=3
 ·rw[if_pos (by simpa using h)];obtain⟨y,e,hy⟩:=uJ (c/7%3) (DG _ (by decide)) (Dw _ (by decide));rw[e,Ct,vZ (by omega) (by omega)];refine⟨_,rfl,by simp,fun x hx=>?_⟩;rw[List.eq_of_mem_replicate hx];exact hy
 ·rw[if_neg (by simpa using h)];obtain⟨ds,e,hl,hb⟩:=uz (c/7) n 3 hn (by decide) (by decide);rw[e,Ct];have key:∃t:List Nat,bo ds (fun(a9:Int)=>fO ([102,98,105]:Tx) a9)=.ok (t.map fun c=>[c])/\t.length=n/\Turns t:=by
   have:∀d∈ds,∃c:Nat,fO ([102,98,105]:Tx) d=.ok [c]/\isTurn c:=fun d hd=>uJ d (hb d hd).1 (hb d hd).2;have hf:∀d∈ds,fO ([102,98,105]:Tx) d=.ok ((fun d=>[if d=0 then 102 else if d=1 then 98 else 105]) d):=fun d hd=>by
    have h1:=hb d hd;have:d=0\/d=1\/d=2:=by omega
    rcases this with rfl|rfl|rfl<;>rfl
   rw[bN (by show ds.length<=100000;omega) hf];refine⟨ds.map fun d=>if d=0 then 102 else if d=1 then 98 else 105,by simp,by simp[hl],fun x hx=>?_⟩;obtain⟨d,_,rfl⟩:=CU.mp hx;unfold isTurn;split;·exact .inl rfl
   ·split;·exact .inr<|.inl rfl
    ·exact .inr<|.inr rfl
  obtain⟨t,e2,hl2,ht⟩:=key;rw[e2,Ct,jx (by rw[kM];omega),kM];exact⟨t,rfl,hl2,ht⟩
theorem Ab{c:Nat}(h:isTurn c):getD ([([102],1),([98],(-1)),([105],0)]:List (Tx×Int)) [c]=.ok (go c):=by rcases h with rfl|rfl|rfl<;>rfl
theorem qY{t:Cd}{c:Nat}(hc:isTurn c):uo t [c]=.ok (behind t c):=by
 unfold uo AA;rw[Ab hc];rfl
theorem o6{t:Cd}(h:Card t):wL t=.ok (bT t):=by
 unfold wL AG;have c2:∀a b:Nat,fe [a] [b]=.ok [a,b]:=fun a b=>rfl;have c3:∀a b c:Nat,fe [a,b] [c]=.ok [a,b,c]:=fun a b c=>rfl;have c4:∀a b c d:Nat,fe [a,b,c] [d]=.ok [a,b,c,d]:=fun a b c d=>rfl;have hl:getD ([([83],[90]),([90],[83])]:List (Tx×Tx)) t.1=.ok (if t.1=[83]then [90]else [83]):=by rcases h.lay with e|e<;>rw[e]<;>rfl
 simp only[d6 h (show(0:Int)<=0 by decide) (by decide),d6 h (show(0:Int)<=3 by decide) (by decide),d6 h (show(0:Int)<=2 by decide) (by decide),d6 h (show(0:Int)<=1 by decide) (by decide),Ct,c2,c3,c4,hl];unfold bT;have:(4-t.2.2)%4=(0-t.2.2)%4:=by omega
 rw[this]
theorem kZ{t:Cd}(h:Int)(h0:0<=h)(h1:h<4):eZ (bT t) ((0-h)%4)=eZ t h:=by
 have:h=0\/h=1\/h=2\/h=3:=by omega
 rcases this with rfl|rfl|rfl|rfl<;>rfl
theorem o8{c:Nat}(h:isTurn c):go (iC c)= -go c:=by rcases h with rfl|rfl|rfl<;>rfl
theorem mS{t:Cd}{c:Nat}(hc:isTurn c):behind (bT t) (iC c)=bT (behind t c):=by
 unfold behind bT;rw[o8 hc];simp only[Prod.mk.injEq,true_and];refine⟨rfl,?_⟩;show((0-t.2.2)%4+ -go c)%4=(0-(t.2.2+go c)%4)%4;omega
theorem o9{t:Cd}(h:Card t){c:Nat}(hc:isTurn c):dQ (bT t) (iC c)=dQ t c:=by
 unfold dQ;have e1:eZ (bT t) (bT t).2.2=eZ t t.2.2:=kZ _ h.low h.high;have e2:eZ (bT t) (((bT t).2.2+2)%4)=eZ t ((t.2.2+2)%4):=by
  have:=kZ (t:=t) ((t.2.2+2)%4) (mP _).1 (mP _).2;rw[<-this];congr 1;show((0-t.2.2)%4+2)%4=_;omega
 have e3:tw (bT t) (iC c)=tw t c:=by
  unfold tw;rw[o8 hc];rcases h.lay with q|q
  ·rw[if_pos q,if_neg (by show ¬(if t.1=[83]then([90]:Tx)else [83])=[83];rw[if_pos q];decide)];omega
  ·have q':¬t.1=[83]:=by rw[q];decide
   rw[if_neg q',if_pos (by show(if t.1=[83]then([90]:Tx)else [83])=[83];rw[if_neg q'])]
 rw[e1,e2,e3]
abbrev STT:=List Cd×List Int×List Int×List (Tx×Int)
theorem l0{α:Type}(l:List α)(x:Tx):l.zip (aF x)=(l.zip x).map fun p=>(p.1,[p.2]):=by
 unfold aF;rw[List.zip_map_right];rfl
def rC(c:Nat):Int:=if c=105 then 1 else 2
theorem wY(c:Nat):0<rC c:=by unfold rC;split<;>omega
def n9(cards:List Cd)(x:Tx):List (Tx×Int):=(cards.zip x).flatMap fun p=>p.1.2.1.map fun h=>([h],rC p.2)
theorem wZ{cards:List Cd}{x:Tx}:∀p∈n9 cards x,0<p.2/\p.1.length<=100:=fun p hp=>by
 obtain⟨q,_,hq⟩:=Ho.mp hp;obtain⟨h,_,rfl⟩:=CU.mp hq;exact⟨wY _,by simp⟩
theorem x5{cards:List Cd}(hc:∀t∈cards,Card t)(x:Tx):(n9 cards x).length<=4*cards.length:=by
 unfold n9;rw[List.length_flatMap];have:∀(l:List (Cd×Nat)),(∀p∈l,Card p.1)->(l.map fun p=>(p.1.2.1.map fun h=>(([h]:Tx),rC p.2)).length).sum=4*l.length:=by
  intro l
  induction l with
  |nil=>intro _;rfl
  |cons p l ih=>
   intro h;rw[Dy,List.sum_cons,ih fun q hq=>h q<|CG _ hq,E6,(h p<|CJ ..).four];simp;omega
 rw[this _ fun p hp=>hc p.1 (EA hp).1];simp[FP];omega
theorem uL(cards:List Cd)(x:Tx):vb cards x=bJ wV (n9 cards x) []:=by
 unfold vb Ay n9;rw[l0,fi,kX];have:(bJ (fun(a:Cd×Nat)s=>zW (a.1,[a.2]) s) (cards.zip x) [])=bJ (fun(a:Cd×Nat)s=>bJ wV (a.1.2.1.map fun h=>(([h]:Tx),rC a.2)) s) (cards.zip x) []:=by
  refine gN _ _ fun a _ s=>?_;unfold zW aF;rw[fi,fi];have:bJ (fun(c:Nat)s=>zV (a.1,[a.2]) [c] s) a.1.2.1 s=bJ (fun(c:Nat)s=>wV ([c],rC a.2) s) a.1.2.1 s:=by
   refine gN _ _ fun c _ s=>?_;unfold zV wV rC;by_cases z:a.2=105
   ·rw[if_pos (by simp[z]),Ct,Ct,if_pos z];show(iT s [c]<|getZ s [c] 0+1).bind (fun y64=>CB y64)=_;cases iT s [c] (getZ s [c] 0+1)<;>rfl
   ·rw[if_neg (by simp[z]),Ct,Ct,if_neg z];show(iT s [c]<|getZ s [c] 0+2).bind (fun y64=>CB y64)=_;cases iT s [c] (getZ s [c] 0+2)<;>rfl
  rw[this];cases bJ (fun(c:Nat)s=>wV ([c],rC a.2) s) a.1.2.1 s<;>rfl
 rw[this];cases bJ (fun(a:Cd×Nat)s=>bJ wV (a.1.2.1.map fun h=>(([h]:Tx),rC a.2)) s) (cards.zip x) []<;>rfl
structure StOk(w:Nat)(s:STT):Prop where
 len:s.1.length=w
 card:∀t∈s.1,Card t
 now:s.2.1.length=w
 far:s.2.2.1.length=w
 nd:(ky s.2.2.2).Nodup
 nn:∀p∈s.2.2.2,0<=p.2
 sm:s.2.2.2.length<=100
def iQ(cards:List Cd)(x:Tx):List Pl:=(cards.zip x).map fun p=>dQ p.1 p.2
def NW(s:STT)(x:Tx):List Int:=(s.2.1.zip<|s.1.zip<|aF x).map fun a=>a.1+tw a.2.1 (a.2.2.headD 0)
def CW(s:STT)(x:Tx):List Cd:=(s.1.zip<|aF x).map fun a=>behind a.1<|a.2.headD 0
def FW(s:STT)(x:Tx):List Int:=(s.2.2.1.zip<|NW s x).map fun a=>if cH a.2>a.1 then cH a.2 else a.1
theorem jL{α:Type}{l:List α}{x:Tx}(hx:Turns x){a:α×Tx}(h:a∈l.zip (aF x)):a.1∈l/\∃c,isTurn c/\a.2=[c]:=by
 have:=EA h;obtain⟨c,hc,e⟩:=iu this.2;exact⟨this.1,c,hx c hc,e⟩
theorem dm(x:Tx):(aF x).length=x.length:=by unfold aF;simp
section
variable{w:Nat}{s:STT}{x:Tx}
theorem og(h:StOk w s)(hl:x.length=w):(NW s x).length=w:=by unfold NW;simp[dm,h.len,h.now,hl]
theorem uM(h:StOk w s)(hl:x.length=w):(CW s x).length=w:=by unfold CW;simp[dm,h.len,hl]
theorem yC(h:StOk w s)(hl:x.length=w):(FW s x).length=w:=by unfold FW;simp[og h hl,h.far]
theorem pS(h:StOk w s):∀t∈CW s x,Card t:=fun t ht=>by
 obtain⟨a,ha,rfl⟩:=CU.mp ht;exact(h.card _ (EA ha).1).behind _
theorem yD(h:StOk w s)(hw:w<=100)(hx:Turns x)(hl:x.length=w):bo (s.2.1.zip<|s.1.zip<|aF x) (fun(a:Int×Cd×Tx)=>(mI a.2.1 a.2.2).bind fun y56=>CB<|a.1+y56)=.ok (NW s x):=by
 unfold NW;refine bN (by simp[dm,h.len,h.now];show _<=100000;omega) fun a ha=>?_;obtain⟨_,c,hc,e⟩:=jL hx (EA ha).2;rw[e,iP hc];rfl
theorem yE(h:StOk w s)(hw:w<=100)(hx:Turns x)(hl:x.length=w):bo (s.1.zip<|aF x) (fun(a:Cd×Tx)=>uo a.1 a.2)=.ok (CW s x):=by
 unfold CW;refine bN (by simp[dm,h.len];show _<=100000;omega) fun a ha=>?_;obtain⟨_,c,hc,e⟩:=jL hx ha;rw[e,qY hc];rfl
theorem Ac(h:StOk w s)(hw:w<=100)(hl:x.length=w):bo (s.2.2.1.zip<|NW s x) (fun(a:Int×Int)=>CB (if cH a.2>a.1 then cH a.2 else a.1))=.ok (FW s x):=bN (by simp[h.far];show _<=100000;omega) fun a _=>rfl
theorem Ad(h:StOk w s)(hw:w<=100)(hx:Turns x)(hl:x.length=w):bo ((CW s x).zip (aF x)) (fun(a:Cd×Tx)=>vc a.1 a.2)=.ok (iQ (CW s x) x):=by
 have:iQ (CW s x) x=((CW s x).zip (aF x)).map fun a=>dQ a.1 (a.2.headD 0):=by
  unfold iQ;rw[l0,DL];rfl
 rw[this];refine bN (by simp[dm,uM h hl];show _<=100000;omega) fun a ha=>?_;obtain⟨h1,c,hc,e⟩:=jL hx ha;rw[e,wW (pS h _ h1) hc];rfl
end
abbrev Be:Tx:=[114,111,119]
abbrev Ae:Tx:=[102,108,105,112]
def uN(x:Tx):Dat:=.t [.s Be,.s x]
def jM(k:Int):Dat:=.t [.s Ae,.i k]
def stg(s:STT)(d:Dat)(p:Option (List Pl)):dw:=(d,s.1,s.2.1,s.2.2.1,s.2.2.2,p)
def Nu(i:Int):Prop:=(-100<=i/\i<100)\/i=100000000000000000000
theorem qZ:∀n:Nat,n<200->(qI<|(n:Int)-100).length<=30/\((n:Int)-100).natAbs.log2<1920:=by decide +kernel
theorem x6:(qI 100000000000000000000).length<=30/\(100000000000000000000:Int).natAbs.log2<1920:=by decide +kernel
theorem Nu.num{i:Int}(h:Nu i):(qI i).length<=30/\i.natAbs.log2<1920:=by
 rcases h with⟨h0,h1⟩|rfl
 ·have:=qZ (i+100).toNat (by omega);rw[show(((i+100).toNat:Nat):Int)-100=i by omega]at this;exact this
 ·exact x6
def i5(s:STT)(k:Int):STT:=(s.1.set k.toNat<|bT<|s.1[k.toNat]?.getD ([],[],0),s.2.1,s.2.2.1,s.2.2.2)
theorem mT{w:Nat}{s:STT}(h:StOk w s)(k:Int)(h0:0<=k)(h1:k<w):StOk w (i5 s k)/\∃t,Card t/\kF s.1 k=.ok t/\jq s.1 k (bT t)=.ok (i5 s k).1:=by
 have hk:k<s.1.length:=by rw[h.len];exact h1
 obtain⟨t,e1,e2⟩:=dE h0 hk;have hc:=h.card t<|DC e2;refine⟨⟨by unfold i5;simp[h.len],fun u hu=>?_,h.now,h.far,h.nd,h.nn,h.sm⟩,t,hc,e1,?_⟩
 ·unfold i5 at hu;rcases List.mem_or_eq_of_mem_set hu with z|z
  ·exact h.card u z
  ·rw[z,e2,El];exact hc.flip
 ·rw[p4 h0 hk];unfold i5;rw[e2,El]
theorem uO{w:Nat}{s:STT}(h:StOk w s){k:Int}(n:Nu k)(hk:k<0\/(w:Int)<=k):ur s.1 k=.err 7:=by
 have hn:=n.num;unfold ur zZ;have:(if decide (k<0)=true then CB true else CB (decide<|(s.1.length:Int)<=k))=CB true:=by
  by_cases z:k<0;·rw[if_pos (by simpa using z)]
  ·rw[if_neg (by simpa using z),h.len,decide_eq_true (by omega)]
 rw[this,Ct,if_pos rfl,lI (by simp),Ct,show yh k=.ok (qI k)from bu hn.2,Ct,lI (by simp;omega),Ct,Ct,show w9 _=CB _ from bu (by unfold cap;simp;omega),Ct]
theorem uP{w:Nat}{s:STT}(h:StOk w s){k:Int}(h0:0<=k)(h1:k<w):ur s.1 k=.ok ():=by
 unfold ur zZ;rw[if_neg (by simp;omega),Ct,if_neg (by rw[h.len];simp;omega)]
theorem pT{w:Nat}{s:STT}(h:StOk w s){k:Int}(n:Nu k)(d:Dat)(p:Option (List Pl)):((k<0\/(w:Int)<=k)/\rA (stg s d p) k=.err 7)\/((0<=k/\k<w)/\rA (stg s d p) k=.ok (stg (i5 s k) (jM k) none)):=by
 unfold rA AH;rw[show(stg s d p).2.1=s.1 from rfl];by_cases z:k<0\/(w:Int)<=k;·left;exact⟨z,by rw[uO h n z];rfl⟩
 ·right;have hk:0<=k/\k<w:=by omega
  refine⟨hk,?_⟩;obtain⟨_,t,hc,e1,e2⟩:=mT h k hk.1 hk.2;rw[uP h hk.1 hk.2,Ct,e1,Ct,o6 hc,Ct,e2,Ct];rfl
theorem x8{L:Sp}(h:∀p∈L,0<=p.2/\p.2<=2)(k:Tx):iV L k<=2*L.length:=by
 induction L with
 |nil=>exact HY _
 |cons p L ih=>
  rw[gw];have:=ih fun q hq=>h q<|CG _ hq;have:=h p<|CJ ..;simp only[Dr];split<;>omega
theorem uQ{cards:List Cd}{x:Tx}:∀p∈n9 cards x,0<=p.2/\p.2<=2:=fun p hp=>by
 obtain⟨q,_,hq⟩:=Ho.mp hp;obtain⟨h,_,rfl⟩:=CU.mp hq;show 0<=rC q.2/\rC q.2<=2;unfold rC;split<;>omega
theorem pU{cards:List Cd}(hc:∀t∈cards,Card t){x:Tx}{k:Tx}(h:k∈ky (n9 cards x)):∃c,k=[c]/\97<=c/\c<=122:=by
 obtain⟨p,hp,rfl⟩:=CU.mp h;obtain⟨q,h1,hq⟩:=Ho.mp hp;obtain⟨c,h2,rfl⟩:=CU.mp hq;have:=(hc _ (EA h1).1).col c h2;exact⟨c,rfl,this⟩
theorem oh{w:Nat}(hw0:1<=w)(hw:w<=100){s:STT}(h:StOk w s){x:Tx}(hx:Turns x)(hl:x.length=w){most:Int}(hm:∀v∈NW s x,cH v<=most)(hsp:∀c:Nat,97<=c->c<=122->8*(w:Int)<=getZ s.2.2.2 [c] 0)(d:Dat)(p:Option (List Pl)):
  ∃R,vd (stg s d p) x most=.ok (stg (CW s x,NW s x,FW s x,R) (uN x)<|some<|iQ (CW s x) x)/\StOk w (CW s x,NW s x,FW s x,R)/\∀k,getZ s.2.2.2 k 0-8*(w:Int)<=getZ R k 0:=by
 have hL:=x5 h.card x;rw[h.len]at hL;have sm:=h.sm;obtain⟨T,eT,t1,t2,t3,t4,_⟩:=uE (n9 s.1 x) [] JA (by simp;omega);have tn:∀k,getZ T k 0=iV (n9 s.1 x) k:=fun k=>by
  rw[t2];have g0:getZ ([]:Sp) k 0=0:=rfl;omega
 have nb:∀k,0<=iV (n9 s.1 x) k/\iV (n9 s.1 x) k<=8*(w:Int):=fun k=>by
  have a:=x8 (L:=n9 s.1 x) uQ k;exact⟨pQ (fun q hq=>(uQ q hq).1) k,by omega⟩
 have tz:∀q∈T,q.2=iV (n9 s.1 x) q.1:=fun q hq=>by rw[<-tn,gu t1 hq]
 have tk:∀k,k∈ky T↔k∈ky (n9 s.1 x):=fun k=>by rw[t3];simp[ky]
 have tp:∀q∈T,0<q.2/\q.1.length<=100:=fun q hq=>by
  have hk:q.1∈ky (n9 s.1 x):=(tk _).mp (CU.mpr ⟨q,hq,rfl⟩);obtain⟨c,e,_⟩:=pU h.card hk;exact⟨by rw[tz q hq];exact uD (fun z hz=>(wZ z hz).1) hk,by rw[e];simp⟩
 have good:∀q∈T,q.2<=getZ s.2.2.2 q.1 0:=fun q hq=>by
  have hk:q.1∈ky (n9 s.1 x):=(tk _).mp (CU.mpr ⟨q,hq,rfl⟩);obtain⟨c,e,c0,c1⟩:=pU h.card hk;have a:=hsp c c0 c1;have b:=(nb q.1).2;rw[tz q hq];rw[<-e]at a;omega
 obtain⟨D,eD,d1,d2⟩:=mO T s.2.2.2 t1 h.nd (by omega) tp good;have ndD:(ky D).Nodup:=by rw[d1];exact h.nd
 have lD:D.length=s.2.2.2.length:=by
  have:=congrArg FA d1;unfold ky at this;simpa using this
 have nn:∀q∈D,0<=q.2:=fun q hq=>by
  have g1:=gu ndD hq;rw[d2]at g1;have kp:q.1∈ky s.2.2.2:=by rw[<-d1];exact CU.mpr ⟨q,hq,rfl⟩
  obtain⟨r,hr,e⟩:=CU.mp kp;have e:r.1=q.1:=e;have g2:=gu h.nd hr;have g3:=h.nn r hr;rw[e]at g2;by_cases z:q.1∈ky T
  ·obtain⟨u,hu,e2⟩:=CU.mp z;have e2:u.1=q.1:=e2;have g4:=good u hu;have g5:=gu t1 hu;rw[e2]at g4 g5;omega
  ·rw[jH z]at g1;omega
 refine⟨D,?_,⟨uM h hl,pS h,og h hl,yC h hl,ndD,nn,by show D.length<=100;omega⟩,fun k=>by have:=(nb k).2;rw[d2,tn];omega⟩;unfold vd AE;have er:va x ((stg s d p).2.1.length:Int)=.ok true:=by
  rw[show(stg s d p).2.1.length=w from h.len,qX (by omega) w];congr 1;unfold yA;rw[Bool.and_eq_true,decide_eq_true_iff,Gf];exact⟨hl,fun c hc=>turnB_iff.mpr<|hx c hc⟩
 rw[er,Ct,Ct,show(!true)=false from rfl,if_neg (by decide)];rw[show bo ((stg s d p).2.2.1.zip ((stg s d p).2.1.zip (aF x))) (fun(a7:Int×Cd×Tx)=>(mI a7.2.1 a7.2.2).bind fun y18=>CB<|a7.1+y18)=CB (NW s x)from yD h hw hx hl,Ct];have nl:=og h hl;have ta:((bo (NW s x)<|fun(a24:Int)=>CB<|decide<|most<cH a24).bind fun y33=>CB<|y33.any id)=.ok false:=by
  rw[bN (g:=fun a=>decide<|most<cH a) (by show _<=100000;omega)<|fun _ _=>rfl,Ct];congr 1;rw[IJ];intro b hb;obtain⟨a,ha,rfl⟩:=CU.mp hb;have:=hm a ha;simp;omega
 rw[ta,Ct,if_neg (by decide)];have eK:vb (stg s d p).2.1 x=CB T:=by rw[show(stg s d p).2.1=s.1 from rfl,uL,eT]
 rw[eK,Ct,show wJ (stg s d p).2.2.2.2.1 T=CB D from by unfold wJ Az;rw[show(stg s d p).2.2.2.2.1=s.2.2.2 from rfl,eD];rfl,Ct];rw[show bo ((stg s d p).2.2.2.1.zip (NW s x)) (fun(a45:Int×Int)=>CB (if cH a45.2>a45.1 then cH a45.2 else a45.1))=CB (FW s x)from Ac h hw hl,Ct,show bo ((stg s d p).2.1.zip (aF x)) (fun(a61:Cd×Tx)=>uo a61.1 a61.2)=CB (CW s x)from yE h hw hx hl,Ct,Ad h hw hx hl,Ct];rfl
abbrev Bf:Tx:=[114,101,102,117,115,101,100]
def mU(n:Tx):Dat:=.t [.s Bf,.l [.s n]]
abbrev yF:Tx:=[78,111,84,97,98,108,101,116]
theorem mV:∀(n:Nat)(d:Dat),d.le n->d.le (n+1)
 |0,d,h=>by
  cases d with
  |t xs=>exact h.elim
  |l xs=>exact h.elim
  |_=>trivial
 |n+1,d,h=>by
  cases d with
  |t xs=>exact fun x hx=>mV n x<|h x hx
  |l xs=>exact fun x hx=>mV n x<|h x hx
  |_=>trivial
theorem mW{L:Z03}{g:dw}(h:L.2.2.1.length<=1000):mJ L [g]=.ok ((L.1,L.2.1,L.2.2.1++[g],[]),()):=by
 unfold mJ zX;rw[if_pos (show(![g].isEmpty)=true from rfl),show wj L.2.2.1 [g]=.ok (L.2.2.1++[g])from bu (by show _<=100000;simp;omega),Ct,Ct]
theorem x9(n:Tx):(mU n).le 24:=by unfold mU;simp[Kk]
section
variable{w:Nat}{most:Int}{n:Nat}{L:Z03}{st und:List EN}
theorem r0{α:Type}(l:List α)(a:α):kF (l++[a]) (-(1:Int))=.ok a:=by
 unfold kF sG;have:ixN (l++[a]).length (-(1:Int))=some l.length:=by
  unfold ixN;rw[if_neg (by decide),if_pos (by simp;omega)];congr 1;simp;omega
 rw[this];simp[qu]
end
abbrev RM{α:Type}(w:Nat)(f:Nat->α):List α:=(EM w).map f
theorem uR{α:Type}{w:Nat}{f g:Nat->α}(h:∀k,k<w->f k=g k):RM w f=RM w g:=DA fun k hk=>h k<|DN.mp hk
theorem iD{α β:Type}{w:Nat}(f:Nat->α)(g:Nat->β):(RM w f).zip (RM w g)=RM w fun k=>(f k,g k):=List.zip_map' ..
theorem f6{α:Type}{w:Nat}{f:Nat->α}{k:Nat}(h:k<w):(RM w f)[k]? =some (f k):=by simp[RM,h]
theorem xx{x:Tx}{w:Nat}(h:x.length=w):x=RM w fun k=>x[k]?.getD 0:=by
 apply EK;intro i;by_cases z:i<w
 ·rw[f6 z];have:i<x.length:=by omega
  simp[this]
 ·simp[RM,z];omega
theorem jN{x:Tx}{w:Nat}(h:x.length=w):aF x=RM w fun k=>[x[k]?.getD 0]:=by
 have:=xx h;unfold aF
 conv=>lhs;rw[this]
 rw[DL];rfl
def col(k:Nat)(plan:List Tx):Tx:=plan.map fun r=>r[k]?.getD 0
theorem i6(k:Nat)(plan:List Tx)(r:Tx):col k (plan++[r])=col k plan++[r[k]?.getD 0]:=by simp[col]
def Af(t:Cd)(s:Int×Int)(c:Nat):Int×Int:=(s.1+tw t c,if cH (s.1+tw t c)>s.2 then cH (s.1+tw t c)else s.2)
def pk(t:Cd)(x:Tx):Int×Int:=x.foldl (Af t) (0,0)
theorem lL(t:Cd)(x:Tx)(c:Nat):pk t (x++[c])=Af t (pk t x) c:=by simp[pk]
theorem mX{α:Type}{P:List α->Prop}(h0:P [])(h1:∀l a,P l->P (l++[a]))(l:List α):P l:=by
 rw[<-List.reverse_reverse l]
 induction l.reverse with
 |nil=>exact h0
 |cons a r ih=>rw[List.reverse_cons];exact h1 _ _ ih
theorem yG(t:Cd)(x:Tx):(pk t x).1=(x.map<|tw t).sum:=by
 induction x using mX with
 |h0=>rfl
 |h1 l a ih=>rw[lL,Gy,List.sum_append,<-ih];simp[Af]
theorem Ag(t:Cd)(x:Tx): -(x.length:Int)<=(pk t x).1/\(pk t x).1<=x.length:=by
 induction x using mX with
 |h0=>exact⟨HY 0,HY 0⟩
 |h1 l a ih=>
  rw[lL];have:=uG t a;simp only[Af,CY,EC];omega
theorem pV{c:Nat}(h:isTurn c):iC (iC c)=c:=by rcases h with rfl|rfl|rfl<;>rfl
theorem xa(t:Cd)(x:Tx)(c:Nat):tw (ends t x) c=tw t c:=by
 have:(ends t x).1=t.1:=by
  induction x generalizing t with
  |nil=>rfl
  |cons d r ih=>exact ih _
 unfold tw;rw[this]
theorem Cj{t:Cd}{c:Nat}(h:isTurn c):tw (bT t) c=tw t (iC c):=by
 unfold tw;rw[o8 h];by_cases z:t.1=[83]
 ·rw[if_pos z,if_neg (by unfold bT;simp[z])]
 ·rw[if_neg z,if_pos (by unfold bT;simp[z])];omega
theorem mY{t:Cd}{c:Nat}(h:isTurn c):behind (bT t) c=bT (behind t<|iC c):=by
 have:=mS (t:=t)<|jK h;rw[pV h]at this;exact this
theorem oi{t:Cd}(ht:Card t){c:Nat}(h:isTurn c):dQ (bT t) c=dQ t (iC c):=by
 have:=o9 ht<|jK h;rw[pV h]at this;exact this
def ov(over:List Bool)(k:Nat):Bool:=over[k]?.getD false
def fc(b:Bool)(t:Cd):Cd:=if b=true then bT t else t
def oc(b:Bool)(c:Nat):Nat:=if b=true then iC c else c
theorem r6{b:Bool}{t:Cd}{c:Nat}(h:isTurn c):behind (fc b t) c=fc b (behind t<|oc b c):=by
 cases b;·rfl
 ·exact mY h
theorem Ah{b:Bool}{t:Cd}{c:Nat}(h:isTurn c):tw (fc b t) c=tw t (oc b c):=by
 cases b;·rfl
 ·exact Cj h
theorem uS{b:Bool}{t:Cd}(ht:Card t){c:Nat}(h:isTurn c):dQ (fc b t) c=dQ t (oc b c):=by
 cases b;·rfl
 ·exact oi ht h
theorem Ck{b:Bool}{c:Nat}(h:isTurn c):isTurn (oc b c):=by
 cases b;·exact h
 ·exact jK h
def bandOf(w:Nat)(D:Nat->Cd)(plan:List Tx):List (List Pl):=RM plan.length fun i=>RM w fun k=>(cU (D k)<|col k plan)[i]?.getD ([],[],[])
def eR(w:Nat)(over:List Bool)(x:Tx):Tx:=RM w fun k=>oc (ov over k)<|x[k]?.getD 0
theorem oj{w:Nat}{D:Nat->Cd}{plan:List Tx}{r:Tx}(hr:r.length=w):bandOf w D (plan++[r])=bandOf w D plan++[RM w fun k=>dQ (ends (D k)<|col k<|plan++[r])<|r[k]?.getD 0]:=by
 unfold bandOf;rw[CY,EC];unfold RM;rw[List.range_succ,Gy];have cl:∀k,(col k plan).length=plan.length:=fun k=>by simp[col]
 congr 1
 ·refine DA fun i hi=>DA fun k hk=>?_;have hi:=DN.mp hi;rw[i6,jJ,Dg (by rw[fx,cl];exact hi)]
 ·simp only[Dy,FF];congr 1;refine DA fun k hk=>?_;rw[i6,jJ,mQ,Dc (by rw[fx,cl];exact CK _),fx,cl,Nat.sub_self];rfl
structure Flat(w:Nat)(D:Nat->Cd)(n:Nat)(L:Z03)(over:List Bool)(plan:List Tx)(done:List Dat):Prop where
 most:L.1=999999999
 und:L.2.2.2=[]
 len:L.2.2.1.length<=n
 pl:plan.length<=n
 ovl:over.length=w
 rows:∀r∈plan,Turns r/\r.length=w
 ex:∃s d p,Z0d L=.ok (stg s d p)/\StOk w s/\s.1=(RM w fun k=>fc (ov over k)<|ends (D k)<|col k plan)/\s.2.1=(RM w fun k=>(pk (D k)<|col k plan).1)/\s.2.2.1=(RM w fun k=>(pk (D k)<|col k plan).2)/\∀c:Nat,97<=c->c<=122->999999999-64*(n:Int)<=getZ s.2.2.2 [c] 0
 dn:L.2.2.1.map (·.1)=done
 dle:∀d∈done,d.le 20
 band:L.2.2.1.filterMap (·.2.2.2.2.2)=bandOf w D plan
theorem pW(a:Int)(b g:dw)(c u:List dw):Z0d (a,b,c++[g],u)=.ok g:=by
 unfold Z0d yZ;rw[if_pos (by cases c<;>rfl)];exact r0 c g
section
variable{w:Nat}{D:Nat->Cd}{n:Nat}{L:Z03}{over:List Bool}{plan:List Tx}{done:List Dat}
theorem gy{x:Tx}(hx:Turns x)(hl:x.length=w){k:Nat}(hk:k<w):isTurn (x[k]?.getD 0):=by
 have:k<x.length:=by omega
 rw[Dz this,El];exact hx _<|FG this
theorem lM{x:Tx}{k:Nat}(hk:k<w):(eR w over x)[k]?.getD 0=oc (ov over k) (x[k]?.getD 0):=by
 unfold eR;rw[f6 hk];rfl
theorem uT(hw0:1<=w)(hw:w<=8)(hn:n<=900)(hD:∀k,k<w->Card (D k))(S:Flat w D n L over plan done){x:Tx}(hx:Turns x)(hl:x.length=w):∃L' picks,pH L x=.ok (L',picks)/\Flat w D (n+1) L' over (plan++[eR w over x]) (done++[uN x]):=by
 obtain⟨s,d,p,e1,hs,c1,c2,c3,c4⟩:=S.ex;have pl:=S.pl;have eC:CW s x=RM w fun k=>fc (ov over k) (ends (D k)<|col k<|plan++[eR w over x]):=by
  unfold CW;rw[c1,jN hl,iD];unfold RM;rw[DL];refine DA fun k hk=>?_;have hk:=DN.mp hk;show behind (fc (ov over k)<|ends (D k)<|col k plan) (x[k]?.getD 0)=_;rw[r6<|gy hx hl hk,i6,mQ,lM hk]
 have eN:NW s x=RM w fun k=>(pk (D k)<|col k<|plan++[eR w over x]).1:=by
  unfold NW;rw[c2,c1,jN hl,iD,iD];unfold RM;rw[DL];refine DA fun k hk=>?_;have hk:=DN.mp hk;show(pk (D k)<|col k plan).1+tw (fc (ov over k)<|ends (D k)<|col k plan) (x[k]?.getD 0)=_;rw[Ah<|gy hx hl hk,xa,i6,lL,lM hk];rfl
 have eF:FW s x=RM w fun k=>(pk (D k)<|col k<|plan++[eR w over x]).2:=by
  unfold FW;rw[c3,eN,iD];unfold RM;rw[DL];refine DA fun k hk=>?_;show(if cH (pk (D k)<|col k<|plan++[eR w over x]).1>(pk (D k)<|col k plan).2 then cH (pk (D k)<|col k<|plan++[eR w over x]).1 else(pk (D k)<|col k plan).2)=_;rw[i6,lL];rfl
 have hm:∀v∈NW s x,cH v<=999999999:=fun v hv=>by
  rw[eN]at hv;obtain⟨k,_,rfl⟩:=CU.mp hv;have:=Ag (D k)<|col k<|plan++[eR w over x];simp only[col,E6,CY,EC]at this;show cH (pk (D k)<|col k<|plan++[eR w over x]).1<=_;unfold cH;unfold col;split<;>omega
 obtain⟨R,f1,f2,f3⟩:=oh hw0 (by omega) hs hx hl hm (fun c c0 c1'=>by have:=c4 c c0 c1';omega) d p;have ePk:iQ (CW s x) x=RM w fun k=>dQ (ends (D k)<|col k<|plan++[eR w over x]) ((eR w over x)[k]?.getD 0):=by
  unfold iQ;rw[eC]
  conv=>lhs;rw[show(RM w fun k=>fc (ov over k)<|ends (D k)<|col k<|plan++[eR w over x]).zip x=(RM w fun k=>fc (ov over k)<|ends (D k)<|col k<|plan++[eR w over x]).zip (RM w fun k=>x[k]?.getD 0)from congrArg _<|xx hl,iD]
  unfold RM;rw[DL];refine DA fun k hk=>?_;have hk:=DN.mp hk;show dQ (fc (ov over k)<|ends (D k)<|col k<|plan++[eR w over x]) (x[k]?.getD 0)=_;rw[uS ((hD k hk).ends _)<|gy hx hl hk,lM hk]
 have hnl:(eR w over x).length=w:=by simp[eR]
 refine⟨(L.1,L.2.1,L.2.2.1++[stg (CW s x,NW s x,FW s x,R) (uN x) (some<|iQ (CW s x) x)],[]),iQ (CW s x) x,?_,⟨S.most,rfl,?_,?_,S.ovl,?_,⟨_,_,_,pW ..,f2,eC,eN,eF,fun c c0 c1'=>?_⟩,?_,?_,?_⟩⟩
 ·unfold pH zY;rw[e1,Ct,S.most,f1,Ct,mW (by have:=S.len;omega),Ct];rw[S.most];rfl
 ·have:=S.len;simp;exact this
 ·simp;exact pl
 ·intro r hr;rcases E3.mp hr with z|z
  ·exact S.rows r z
  ·rw[Ek.mp z];refine⟨fun c hc=>?_,hnl⟩;obtain⟨k,hk,rfl⟩:=CU.mp hc;exact Ck<|gy hx hl<|DN.mp hk
 ·have a:=c4 c c0 c1';have b:=f3 [c];show _<=getZ R [c] 0;omega
 ·show(L.2.2.1++ [_]).map _=_;rw[Gy,S.dn];rfl
 ·intro e he;rcases E3.mp he with z|z
  ·exact S.dle e z
  ·rw[Ek.mp z];unfold uN;simp[Kk]
 ·show(L.2.2.1++ [_]).filterMap _=_;rw[HR,S.band,oj hnl,<-ePk];rfl
theorem rf{t:Cd}(h:Card t):bT (bT t)=t:=by
 obtain⟨a,b,c,d,e⟩:=four h.four;obtain⟨l,hs,k⟩:=t;have e:hs=[a,b,c,d]:=e;subst e;have h0:=h.low;have h1:=h.high;have h0:0<=k:=h0;have h1:k<4:=h1;have ek:(0-(0-k)%4)%4=k:=by omega
 rcases h.lay with z|z
 ·have z:l=[83]:=z;subst z;show(([83]:Tx),[a,b,c,d],(0-(0-k)%4)%4)=_;rw[ek]
 ·have z:l=[90]:=z;subst z;show(([90]:Tx),[a,b,c,d],(0-(0-k)%4)%4)=_;rw[ek]
theorem Cm{b:Bool}{t:Cd}(h:Card t):bT (fc b t)=fc (!b) t:=by
 cases b;·rfl
 ·exact rf h
theorem rg(hw:w<=8)(hn:n<=900)(hD:∀k,k<w->Card (D k))(S:Flat w D n L over plan done){i:Int}(h0:0<=i)(h1:i<w):∃L',rB L i=.ok (L',())/\Flat w D (n+1) L' (over.set i.toNat<|!ov over i.toNat) plan (done++[jM i]):=by
 obtain⟨s,d,p,e1,hs,c1,c2,c3,c4⟩:=S.ex;have pl:=S.pl;have hk:i.toNat<w:=by omega
 obtain⟨f,_⟩:=mT hs i h0 h1;have e2:rA (stg s d p) i=.ok (stg (i5 s i) (jM i) none):=by
  rcases pT hs (k:=i) (.inl ⟨by omega,by omega⟩) d p with⟨z,_⟩|⟨_,z⟩
  ·omega
  ·exact z
 have eC:(i5 s i).1=RM w fun k=>fc (ov (over.set i.toNat<|!ov over i.toNat) k) (ends (D k)<|col k plan):=by
  show s.1.set i.toNat (bT<|s.1[i.toNat]?.getD ([],[],0))=_;rw[c1,f6 hk,El,Cm<|(hD _ hk).ends _];apply EK;intro j;by_cases z:j<w
  ·rw[f6 z,Fx];by_cases y:i.toNat=j
   ·subst y;rw[if_pos rfl,if_pos (by simp[hk])];have:ov (over.set i.toNat<|!ov over i.toNat) i.toNat= !ov over i.toNat:=by
     conv=>lhs;unfold ov
     rw[EO (by rw[S.ovl];exact hk)];rfl
    rw[this]
   ·rw[if_neg y,f6 z];have:ov (over.set i.toNat<|!ov over i.toNat) j=ov over j:=by
     unfold ov;rw[Fz y]
    rw[this]
  ·rw[HS (by simp;omega),HS (by simp;omega)]
 refine⟨(L.1,L.2.1,L.2.2.1++[stg (i5 s i) (jM i) none],[]),?_,⟨S.most,rfl,?_,by omega,by simp[S.ovl],S.rows,⟨_,_,_,pW ..,f,eC,c2,c3,fun c c0 c1'=>?_⟩,?_,?_,?_⟩⟩
 ·unfold rB z6;rw[e1,Ct,e2,Ct,Ct,Ct,mW (by have:=S.len;omega),Ct]
 ·have:=S.len;simp;exact this
 ·have a:=c4 c c0 c1';show _<=getZ s.2.2.2 [c] 0;omega
 ·show(L.2.2.1++ [_]).map _=_;rw[Gy,S.dn];rfl
 ·intro e he;rcases E3.mp he with z|z
  ·exact S.dle e z
  ·rw[Ek.mp z];unfold jM;simp[Kk]
 ·show(L.2.2.1++ [_]).filterMap _=_;rw[HR,S.band];exact Dh _
end
theorem yH{w:Nat}(h:w<=100):tZ [(0:Int)] (w:Int)=.ok (CI w 0):=by
 have:∀n:Nat,(CI n [(0:Int)]).flatten=CI n 0:=by
  intro n
  induction n with
  |zero=>rfl
  |succ n ih=>rw[DS,Eu,ih,DS];rfl
 rw[show tZ [(0:Int)] (w:Int)=.ok (CI (w:Int).toNat [(0:Int)]).flatten from bu ⟨by omega,by omega,by show 1*_<=100000;omega⟩,this];rfl
def AR(dr:List Cd)(sp:Sp):STT:=(dr,CI dr.length 0,CI dr.length 0,sp)
theorem xb{dr:List Cd}(h:dr.length<=8)(most:Int)(sp:Sp):wI dr most sp=.ok (most,stg (AR dr sp) .n none,[],[]):=by
 unfold wI zU wH Au;rw[yH (by omega)];rfl
theorem rh{t:Cd}(h:Card t){c:Nat}(hc:isTurn c){out:List Pl}(ho:out.length<100000):z8 i4 fT [c] (t,out)=.ok (behind t c,out++[dQ (behind t c) c]):=by
 unfold z8;have hb:=h.behind c;simp only[kY hc,Ct,jI hc,yy<|uG _ _,d6 hb hb.low hb.high,d6 hb (mP _).1 (mP _).2];rw[gj ho];rfl
theorem rj{t:Cd}(h:Card t){x:Tx}(hx:Turns x)(hl:x.length<=10000):uu t (aF x)=.ok (cU t x):=by
 unfold uu AL;have key:∀(x:Tx)(t:Cd)(out:List Pl),Card t->Turns x->out.length+x.length<=10000->bJ (z8 i4 fT) (aF x) (t,out)=.ok (ends t x,out++cU t x):=by
  intro x
  induction x with
  |nil=>intro t out _ _ _;simp[aF,bJ,ends,cU]
  |cons c r ih=>
   intro t out h hx hl;simp only[Dr]at hl;show bJ _ ([c]::aF r) _=_;unfold bJ;rw[rh h (hx c (by simp)) (by omega),Ct,ih _ _ (h.behind c) (fun d hd=>hx d (by simp[hd])) (by simp;omega)];simp[ends,cU]
 rw[key x t [] h hx (by simpa using hl)];simp
def Gd(d:Sp):Prop:=(ky d).Nodup/\∀p∈d,0<=p.2
theorem xc{d:Sp}{k:Tx}{v:Int}{p:Tx×Int}(h:p∈eJ d k v):p∈d\/p.2=v:=by
 unfold eJ at h;split at h
 ·obtain⟨q,hq,e⟩:=CU.mp h;by_cases z:q.1=k;·rw[if_pos z]at e;right;rw[<-e]
  ·rw[if_neg z]at e;left;rw[<-e];exact hq
 ·rcases E3.mp h with z | z;·exact .inl z
  ·right;rw[Ek.mp z]
theorem yI{d:Sp}{k:Tx}{a:Int}(h:d.length<100000):iT d k a=.ok (eJ d k a):=bu h
theorem uU{s:List Int}(hs:s.length<=63)(k n:Nat)(h:k+n<=200):(uZ s (k:Int) (n:Int)).Ok fun l=>l.length=n/\∀t∈l,Card t:=by
 unfold uZ As;rw[ir (by omega),Ct];obtain⟨ys,e,hl,hp⟩:=tJ (f:=fun(a1:Int)=>(iO s<|(k:Int)+a1).bind fun y9=>uY y9) (P:=fun _ t=>Card t) (xs:=(EM n).map fun(i:Nat)=>(i:Int)) (by simp;omega) (fun x hx=>by
  obtain⟨i,hi,rfl⟩:=CU.mp hx;have:=DN.mp hi;obtain⟨c,ec⟩:=pO hs (k+i) (by omega);rw[show(k:Int)+(i:Int)=((k+i:Nat):Int)from rfl,ec,Ct];exact wX c)
 rw[e];simp only[E6,G7]at hl;refine okR ⟨hl,fun t ht=>?_⟩;obtain⟨i,hi⟩:=HL.mp ht;have:i<n:=by
  have:=(Cy.mp hi).1;omega
 exact hp i (i:Int) t (by simp[this]) hi
theorem om{α:Type}(d:α){x:List α}{w:Nat}(h:x.length=w):x=RM w fun k=>x[k]?.getD d:=by
 apply EK;intro i;by_cases z:i<w
 ·rw[f6 z];have:i<x.length:=by omega
  simp[this]
 ·simp[RM,z];omega
theorem pX{α:Type}{w:Nat}{f:Nat->α}:gB (RM w f)=RM w fun k=>((k:Int),f k):=by
 apply EK;intro i;unfold gB;rw[HM];by_cases z:i<w
 ·rw[f6 z,f6 z];simp[z]
 ·simp[RM,z]
theorem rk(x:Tx):∀t:Cd,ends t x=x.foldl behind t:=by
 induction x with
 |nil=>intro t;rfl
 |cons c r ih=>intro t;exact ih _
theorem yJ{t:Cd}{x:Tx}(hx:Turns x):pK t x=.ok (pk t x).2:=by
 unfold pK AO aF;rw[fi,kL (g:=Af t) x (0,0) (fun c hc s=>by
  unfold AN;rw[jI (hx c hc)];rfl)]
 rfl
theorem yK{c:Nat}(h:isTurn c):n0 [c]=.ok [iC c]:=by
 unfold n0 AF;rcases h with rfl|rfl|rfl<;>rfl
section
variable{w:Nat}{D:Nat->Cd}{n:Nat}{L:Z03}{over:List Bool}{plan:List Tx}{done:List Dat}
theorem l3(h:∀r∈plan,Turns r/\r.length=w){k:Nat}(hk:k<w):Turns (col k plan):=fun c hc=>by
 obtain⟨r,hr,rfl⟩:=CU.mp hc;exact gy (h r hr).1 (h r hr).2 hk
theorem uV(hw:w<=8)(hn:plan.length<=1000)(h:∀r∈plan,Turns r/\r.length=w){k:Nat}(hk:k<w):bo plan (fun(a13:Tx)=>fO a13 (k:Int))=.ok (aF<|col k plan):=by
 rw[bN (g:=fun r:Tx=>([r[k]?.getD 0]:Tx)) (by show _<=100000;omega) (fun r hr=>by
  have:=(h r hr).2;exact tH (by omega) (by omega) (by omega))]
 unfold aF col;rw[DL];rfl
theorem rl(hw:w<=8)(hD:∀k,k<w->Card (D k))(hn:plan.length<=1000)(h:∀r∈plan,Turns r/\r.length=w):ve (RM w D) plan=.ok (bandOf w D plan):=by
 unfold ve AM;have e1:bo (gB<|RM w D) (fun(a3:Int×Cd)=>(bo plan<|fun(a13:Tx)=>fO a13 a3.1).bind fun y22=>uu a3.2 y22)=.ok (RM w fun k=>cU (D k)<|col k plan):=by
  rw[pX,bN (g:=fun a:Int×Cd=>cU a.2<|col a.1.toNat plan) (by simp;show _<=100000;omega) (fun a ha=>by
   obtain⟨k,hk,rfl⟩:=CU.mp ha;have hk:=DN.mp hk;show((bo plan (fun(a13:Tx)=>fO a13 (k:Int))).bind fun y22=>uu (D k) y22)=.ok (cU (D k) (col k plan));rw[uV hw hn h hk,Ct,rj (hD k hk) (l3 h hk) (by simp[col];omega)])]
  unfold RM;rw[DL];rfl
 rw[e1,Ct,js (by show _<=100000;omega),Ct,bN (g:=fun(i:Int)=>RM w fun k=>(cU (D k)<|col k plan)[i.toNat]?.getD ([],[],[])) (by simp[eI];show _<=100000;omega) (fun i hi=>by
  unfold eI at hi;obtain⟨j,hj,rfl⟩:=CU.mp hi;have hj:=DN.mp hj;rw[bN (g:=fun l:List Pl=>l[((j:Int)).toNat]?.getD ([],[],[])) (by simp;show _<=100000;omega) (fun l hl=>by
   obtain⟨k,hk,rfl⟩:=CU.mp hl;obtain⟨v,ev,hv⟩:=dE (xs:=cU (D k) (col k plan)) (i:=(j:Int)) (by omega) (by rw[fx];simp[col];omega);rw[ev,hv];rfl)]
  unfold RM;rw[DL];rfl)]
 unfold eI bandOf;rw[DL];rfl
theorem yL(hn:n<=900)(S:Flat w D n L over plan done):wO L=.ok (bandOf w D plan):=by
 have:=S.len;unfold wO A1;rw[tI (g:=fun a:dw=>a.2.2.2.2.2) (by omega) (fun a _=>by
  cases q:a.2.2.2.2.2 with
  |none=>rfl
  |some v=>rfl),S.band]
theorem xf(hn:n<=900)(S:Flat w D n L over plan done):wM L=.ok done:=by
 have:=S.len;unfold wM A0;rw[bN (g:=fun a:dw=>a.1) (by show _<=100000;omega)<|fun a _=>rfl,S.dn]
theorem yM(hw:w<=8)(hn:n<=900)(hD:∀k,k<w->Card (D k))(S:Flat w D n L over plan done):vf L (RM w D) plan over=.ok true:=by
 obtain⟨s,d,p,e1,hs,c1,c2,c3,c4⟩:=S.ex;have pl:=S.pl;unfold vf A7;rw[pX];obtain⟨r,er,hr⟩:=mn (f:=A6 pI fT pJ pK i4 pL L plan over) (fun pre(s:List Cd)=>s=pre.map fun a:Int×Cd=>fc (ov over a.1.toNat)<|ends a.2<|col a.1.toNat plan) (RM w fun k=>((k:Int),D k)) [] rfl (by
  intro pre a post st e hst;have hlen:pre.length<w:=by have:=congrArg FA e;simp at this;omega
  obtain⟨k,hk,rfl⟩:∃k:Nat,k<w/\a=((k:Int),D k):=by
   have:a∈RM w fun k=>((k:Int),D k):=by rw[e];simp
   obtain⟨k,hk,e⟩:=CU.mp this;exact⟨k,DN.mp hk,e.symm⟩
  have ct:=l3 S.rows hk;have cl:(col k plan).length=plan.length:=by simp[col]
  refine⟨st++[fc (ov over k) (ends (D k)<|col k plan)],?_,by rw[hst];simp⟩;unfold A6;have ej:iK (aF<|col k plan)=.ok (col k plan):=by
   unfold aF;rw[jx (by rw[kM];omega),kM]
  have t1:pI L (k:Int)=.ok (pk (D k)<|col k plan).1:=by
   unfold pI A2;obtain⟨v,ev,hv⟩:=dE (xs:=s.2.1) (i:=(k:Int)) (by omega) (by rw[hs.now];omega);rw[e1,Ct,Ct,show(stg s d p).2.2.1=s.2.1 from rfl,ev];rw[c2,show((k:Int)).toNat=k from rfl,f6 hk]at hv;cases hv;rfl
  have t2:pJ L (k:Int)=.ok (pk (D k)<|col k plan).2:=by
   unfold pJ A3;obtain⟨v,ev,hv⟩:=dE (xs:=s.2.2.1) (i:=(k:Int)) (by omega) (by rw[hs.far];omega);rw[e1,Ct,Ct,show(stg s d p).2.2.2.1=s.2.2.1 from rfl,ev];rw[c3,show((k:Int)).toNat=k from rfl,f6 hk]at hv;cases hv;rfl
  have t3:bo (aF<|col k plan) (fun(a53:Tx)=>fT (D k) a53)=.ok ((col k plan).map (tw<|D k)):=by
   rw[bN (g:=fun t:Tx=>tw (D k)<|t.headD 0) (by rw[dm];show _<=100000;omega) (fun t ht=>by
    obtain⟨c,hc,rfl⟩:=iu ht;exact jI (ct c hc))]
   unfold aF;rw[DL];rfl
  have t4:bJ (A5 i4) (aF<|col k plan) (D k)=.ok (ends (D k)<|col k plan):=by
   unfold aF;rw[fi,kL (g:=behind) (col k plan) (D k) (fun c hc s=>by
    unfold A5;rw[kY (ct c hc)];rfl),rk]
  obtain⟨b,eb,hb⟩:=dE (xs:=over) (i:=(k:Int)) (by omega) (by rw[S.ovl];omega);have hov:ov over k=b:=by
   unfold ov;rw[show over[k]? =some b from hb];rfl
  dsimp only;rw[uV hw (by omega) S.rows hk,Ct,ej,Ct,t1,Ct,t3,Ct,Ct,lJ<|yG _ _,Ct,Ct,if_neg (by decide),t2,Ct,yJ ct,Ct,lJ rfl,Ct,Ct,if_neg (by decide),t4,Ct,eb,Ct,hov];have happ:∀t:Cd,fI st t=.ok (st++[t]):=fun t=>gj (by rw[hst];simp;omega);cases b
  ·rw[if_neg (by decide),Ct,happ];rfl
  ·rw[if_pos rfl,mR ((hD k hk).ends _),Ct,Ct,happ];rfl)
 rw[er,Ct];show(uv L).bind _=_;have a1:uv L=.ok s.1:=by unfold uv A4;rw[e1];rfl
 rw[a1,Ct];refine lJ ?_;rw[hr,c1];unfold RM;rw[DL];rfl
end
abbrev Bg:Tx:=[97,98,99,100,101,102,103,104,105,106,107,108,109,110,111,112,113,114,115,116,117,118,119,120,121,122]
theorem yN:∃sp:Sp,bJ fg (aF Bg) []=.ok sp/\Gd sp/\sp.length<=26/\∀c:Nat,97<=c->c<=122->getZ sp [c] 0=999999999:=by
 obtain⟨sp,e,h1,h2,h3,h4⟩:=jy (f:=fg) (fun pre(s:Sp)=>(ky s).Nodup/\(∀p∈s,p.2=999999999)/\s.length<=pre.length/\∀t∈pre,t∈ky s) (aF Bg) [] ⟨JA,fun _ z=>(nomatch z),CK _,fun _ z=>(nomatch z)⟩ (by
  intro pre a post s e ⟨h1,h2,h3,h4⟩;have hl:pre.length<26:=by have:=congrArg FA e;rw[dm]at this;simp at this;omega
  refine⟨eJ s a 999999999,?_,uC h1 _ _,fun p hp=>?_,?_,fun t ht=>?_⟩
  ·unfold fg;rw[yI (by omega)];rfl
  ·rcases xc hp with z | z;·exact h2 p z
   ·exact z
  ·have:=pP s a 999999999;simp;omega
  ·rw[jF];rcases E3.mp ht with z|z
   ·have:=h4 t z;split;·exact this
    ·exact DW _ this
   ·rw[Ek.mp z];split;·assumption
    ·simp)
 rw[dm]at h3;refine⟨sp,e,⟨h1,fun p hp=>by rw[h2 p hp];decide⟩,h3,fun c c0 c1=>?_⟩;have hc:c∈Bg:=by simp;omega
 have:=h4 [c]<|CU.mpr ⟨c,hc,rfl⟩;obtain⟨p,hp,ep⟩:=CU.mp this;have ep:p.1=[c]:=ep;rw[<-ep,gu h1 hp];exact h2 p hp
abbrev vg:Cd:=([],[],0)
theorem Ai{dr:List Cd}(h8:dr.length<=8)(hc:∀t∈dr,Card t){sp:Sp}(hg:Gd sp)(hl:sp.length<=26)(hs:∀c:Nat,97<=c->c<=122->getZ sp [c] 0=999999999):Flat dr.length (fun k=>dr[k]?.getD vg) 0 (999999999,stg (AR dr sp) .n none,[],[]) (CI dr.length false) [] []:=by
 refine⟨rfl,rfl,CK _,CK _,Ft,fun _ z=>(nomatch z),⟨AR dr sp,.n,none,by unfold Z0d yZ;rfl,⟨rfl,hc,Ft,Ft,hg.1,hg.2,by show sp.length<=100;omega⟩,?_,?_,?_,fun c c0 c1=>?_⟩,rfl,fun _ z=>(nomatch z),rfl⟩
 ·show dr=_
  conv=>lhs;rw[om vg (x:=dr) rfl]
  refine uR fun k hk=>?_;have:ov (CI dr.length false) k=false:=by
   unfold ov;rw[Hd];split<;>rfl
  rw[this];rfl
 ·show CI dr.length (0:Int)=_;unfold RM;rw[show(fun k=>(pk (dr[k]?.getD vg)<|col k []).1)=fun _=>(0:Int)from rfl,HF,G7]
 ·show CI dr.length (0:Int)=_;unfold RM;rw[show(fun k=>(pk (dr[k]?.getD vg)<|col k []).2)=fun _=>(0:Int)from rfl,HF,G7]
 ·show _<=getZ sp [c] 0;rw[hs c c0 c1];decide
abbrev Bh:Tx:=[102,108,105,112,112,101,100]
def fldD:Dat:=.t [.s Bh,.n]
theorem yO:fldD.le 24:=by unfold fldD;simp[Kk]
section
variable{w:Nat}{D:Nat->Cd}{n:Nat}{L:Z03}{over:List Bool}{plan:List Tx}{done:List Dat}
theorem rm(S:Flat w D n L over plan done){k:Int}(hk:Nu k)(h:k<0\/(w:Int)<=k):n5 L k=.ok (L,mU yF):=by
 obtain⟨s,d,p,e1,hs,_⟩:=S.ex;unfold n5 z7 rB z6;rw[e1,Ct];rcases pT hs hk d p with⟨_,z⟩|⟨z,_⟩
 ·rw[z];rfl
 ·omega
theorem uW{L':Z03}{k:Int}(h:rB L k=.ok (L',())):n5 L k=.ok (L',fldD):=by
 unfold n5 z7;rw[h];rfl
theorem yP(S:Flat w D n L over plan done)(hw:w<=8){x:Tx}(hx:Turns x)(hl:x.length=w):((bo ((aF x).zip over) (fun(a121:Tx×Bool)=>if a121.2 then n0 a121.1 else CB a121.1)).bind fun y132=>iK y132)=.ok (eR w over x):=by
 have eo:over=RM w (ov over):=om false S.ovl;have e1:(aF x).zip over=RM w fun k=>([x[k]?.getD 0],ov over k):=by
  conv=>lhs;rw[jN hl,eo]
  exact iD _ _
 rw[e1,bN (g:=fun a:Tx×Bool=>([oc a.2 (a.1.headD 0)]:Tx)) (by simp;show _<=100000;omega) (fun a ha=>by
  obtain⟨k,hk,rfl⟩:=CU.mp ha;have ht:=gy hx hl<|DN.mp hk;show(if ov over k=true then n0 [x[k]?.getD 0]else CB [x[k]?.getD 0])=.ok [oc (ov over k) (x[k]?.getD 0)];cases ov over k;·rfl
  ·rw[if_pos rfl,yK ht];rfl),Ct]
 have e2:(RM w fun k=>(([x[k]?.getD 0]:Tx),ov over k)).map (fun a:Tx×Bool=>([oc a.2 (a.1.headD 0)]:Tx))=(eR w over x).map fun c=>[c]:=by
  unfold eR RM;rw[DL,DL];rfl
 rw[e2,jx (by rw[kM];simp[eR];omega),kM]
end
theorem yQ{ns:List Int}(h:ns.length<=63){w:Nat}{D:Nat->Cd}(hw0:1<=w)(hw:w<=8)(hD:∀k,k<w->Card (D k)){k n:Nat}(hk:k<=100)(hn:n<=800){s:Z03×List Bool×List Tx×List Dat}(hdl:s.2.2.2.length<=800)(S:Flat w D n s.1 s.2.1 s.2.2.1 s.2.2.2):
  ∃s':Z03×List Bool×List Tx×List Dat,fh iO pF pH n0 n5 ns (w:Int) (k:Int) s=.ok (.nx s')/\Flat w D (n+1) s'.1 s'.2.1 s'.2.2.1 s'.2.2.2/\s'.2.2.2.length<=s.2.2.2.length+1:=by
 obtain⟨L,over,plan,done⟩:=s;have S:Flat w D n L over plan done:=S;have hdl:done.length<=800:=hdl;have pl:=S.pl;unfold fh;obtain⟨c,ec⟩:=pO h (10+k) (by omega);rw[show iO ns ((10:Int)+(k:Int))=.ok c from ec,Ct];by_cases z:(0:Int)<c%3
 ·rw[if_pos<|decide_eq_true z];obtain⟨x,ex,hl,hx⟩:=uK (c/3) w (by omega);obtain⟨L',pc,el,S'⟩:=uT hw0 hw (by omega) hD S hx hl;refine⟨(L',over,plan++[eR w over x],done++[uN x]),?_,S',by simp⟩;dsimp only;rw[ex,Ct,el,Ct,gj (by omega),Ct,yP S hw hx hl,Ct,gj (by omega),Ct];rfl
 ·rw[if_neg (by simpa using z)];have b0:=DG (c/3) (show(w:Int)≠0 by omega);have b1:=Dw (c/3) (show(0:Int)<w by omega);rw[iZ (by omega),Ct];have hi:(if(decide<|((c/3)%7)=(1:Int))=true then(kF [(w:Int),((0:Int)-(1:Int)),(100000000000000000000:Int),((0:Int)-(w:Int)),((w:Int)+(5:Int))]<|(c/21)%5).bind fun y150=>CB y150 else CB (c/3%(w:Int)):Res Int).Ok Nu:=by
   refine By (fun _=>?_) fun _=>okR (.inl (by omega));have z0:=DG (c/21) (show(5:Int)≠0 by decide);have z1:=Dw (c/21) (show(0:Int)<5 by decide);obtain⟨v,ev,hm⟩:=dE (xs:=[(w:Int),((0:Int)-(1:Int)),(100000000000000000000:Int),((0:Int)-(w:Int)),((w:Int)+(5:Int))]) (i:=c/21%5) z0 (by simp;omega);rw[ev,Ct];have:=DC hm;simp only[CM,D9,or_false]at this;refine okR ?_;rcases this with z|z|z|z|z
   ·exact .inl (by omega)
   ·exact .inl (by omega)
   ·exact .inr z
   ·exact .inl (by omega)
   ·exact .inl (by omega)
  obtain⟨i,ei,hi⟩:=hi.ex;rw[ei,Ct];dsimp only;by_cases y:0<=i/\i<(w:Int)
  ·obtain⟨L',el,S'⟩:=rg hw (by omega) hD S y.1 y.2;obtain⟨b,eb,hb⟩:=dE (xs:=over) (i:=i) y.1 (by rw[S.ovl];exact y.2);have hov:ov over i.toNat=b:=by
    unfold ov;rw[hb];rfl
   refine⟨(L',over.set i.toNat<|!ov over i.toNat,plan,done++[jM i]),?_,S',by simp⟩;rw[if_pos<|decide_eq_true y.1,Ct,decide_eq_true y.2,if_pos rfl,eb,Ct,Ct,p4 y.1 (by rw[S.ovl];exact y.2),Ct,gj (by omega),Ct,Ct,Ct,Ct,Ct,uW el,Ct,Ct,<-hov];show(((rp fldD fldD).bind fun c=>CB (L',c)).bind fun y197=>if y197.2=true then CB (Fl.nx (y197.1,over.set i.toNat<|!ov over i.toNat,plan,done++[jM i]))else CB (Fl.rt false))=_;rw[nP rfl yO];rfl
  ·refine⟨(L,over,plan,done),?_,?_,by simp⟩
   ·have e0:(if(decide<|(0:Int)<=i)=true then CB (decide<|i<(w:Int))else CB false)=CB false:=by
     by_cases q:0<=i;·rw[if_pos<|decide_eq_true q,decide_eq_false (by omega)]
     ·rw[if_neg (by simpa using q)]
    rw[e0,Ct,if_neg (by decide),Ct,Ct,Ct,Ct,rm S hi (by omega),Ct,Ct];show(((rp (mU yF)<|mU yF).bind fun c=>CB (L,c)).bind fun y197=>if y197.2=true then CB (Fl.nx (y197.1,over,plan,done))else CB (Fl.rt false))=_;rw[nP rfl<|x9 _];rfl
   ·obtain⟨s,d,p,q1,q2,q3,q4,q5,q6⟩:=S.ex;exact⟨S.most,S.und,by have:=S.len;show L.2.2.1.length<=n+1;omega,by show plan.length<=n+1;omega,S.ovl,S.rows,⟨s,d,p,q1,q2,q3,q4,q5,fun c c0 c1=>by have:=q6 c c0 c1;omega⟩,S.dn,S.dle,S.band⟩
theorem yR(ns:List Int)(h:ns.length<=63):(uw ns).Ok (· =true):=by
 unfold uw pM;obtain⟨c0,e0⟩:=pO h 0 (by decide);rw[show iO ns 0=.ok c0 from e0,Ct,Ct,Ct];have z0:=DG c0 (show(8:Int)≠0 by decide);have z1:=Dw c0 (show(0:Int)<8 by decide);obtain⟨w,hw⟩:∃w:Nat,1+c0%8=(w:Int):=⟨(1+c0%8).toNat,by omega⟩
 rw[hw];have w1:1<=w:=by omega
 have w8:w<=8:=by omega
 refine Bx ((show(uZ ns (1:Int) (w:Int)).Ok _ from uU h 1 w (by omega)).imp fun dr zz=>?_);obtain⟨hl,hc⟩:=zz;obtain⟨sp,es,hg,hsl,hsv⟩:=yN;rw[es,Ct,xb (by omega),Ct,bN (g:=fun _=>false) (by show _<=100000;omega)<|fun _ _=>rfl,Ct];obtain⟨c9,e9⟩:=pO h 9 (by decide);rw[show iO ns 9=.ok c9 from e9,Ct,Ct];have y0:=DG c9 (show(41:Int)≠0 by decide);have y1:=Dw c9 (show(0:Int)<41 by decide);obtain⟨m,hm⟩:∃m:Nat,c9%41=(m:Int):=⟨(c9%41).toNat,by omega⟩
 rw[hm]at y0 y1 ⊢;rw[ir (by omega),Ct,HF,hl];have hD:∀k,k<w->Card ((fun k=>dr[k]?.getD vg) k):=fun k hk=>by
  have:k<dr.length:=by omega
  show Card (dr[k]?.getD vg);rw[Dz this,El];exact hc _<|FG this
 have F0:=Ai (dr:=dr) (by omega) hc hg hsl hsv;rw[hl]at F0;obtain⟨s,ef,hs⟩:=mn (f:=fh iO pF pH n0 n5 ns (w:Int)) (fun pre(s:Z03×List Bool×List Tx×List Dat)=>Flat w (fun k=>dr[k]?.getD vg) pre.length s.1 s.2.1 s.2.2.1 s.2.2.2/\s.2.2.2.length<=pre.length) ((EM m).map fun(i:Nat)=>(i:Int)) ((999999999,stg (AR dr sp) .n none,[],[]),CI w false,[],[]) ⟨F0,CK _⟩ (by
  intro pre a post s e ⟨S,hd⟩;have hlen:pre.length<m:=by have:=congrArg FA e;simp at this;omega
  obtain⟨k,hk,rfl⟩:∃k:Nat,k<m/\a=(k:Int):=by
   have:a∈(EM m).map fun(i:Nat)=>(i:Int):=by rw[e];simp
   obtain⟨k,hk,e⟩:=CU.mp this;exact⟨k,DN.mp hk,e.symm⟩
  obtain⟨s',e',S',hd'⟩:=yQ h w1 w8 hD (k:=k) (by omega) (by omega) (by omega) S;exact⟨s',e',by rw[CY];exact S',by rw[CY,EC];omega⟩)
 rw[E6,G7]at hs;obtain⟨S,_⟩:=hs;rw[ef,Ct];have hle:(JB<|s.2.2.2.map fun(z:Dat)=>z).le 24:=by
  show ∀x∈s.2.2.2.map fun(z:Dat)=>z,Kk 23 x;intro x hx;rw[List.map_id']at hx;exact mV 22 _<|mV 21 _<|mV 20 _<|S.dle x hx
 have edr:dr=RM w fun k=>dr[k]?.getD vg:=om vg hl;have eb:ve dr s.2.2.1=.ok (bandOf w (fun k=>dr[k]?.getD vg) s.2.2.1):=by
  conv=>lhs;rw[edr]
  exact rl w8 hD (by have:=S.pl;omega) S.rows
 have ee:vf s.1 dr s.2.2.1 s.2.1=.ok true:=by
  conv=>lhs;rw[edr]
  exact yM w8 (by omega) hD S
 show(Res.bind _ _).Ok _;rw[xf (by omega) S,Ct,Ct,nP rfl hle,Ct,Ct,if_neg (by decide),yL (by omega) S,Ct,eb,Ct,lJ rfl,Ct,Ct,if_neg (by decide),ee];exact rfl
end Mi
namespace PySem.W.Fast
def tw861502493610598483:=()
def tw10556090788074862103:=()
def tw7774113678449685934:=()
def tw3104164581258916895:=()
def tw12063395154255005496:=()
def tw15997187109081770382:=()
def tw16011428029765260039:=()
def tw18400553757987027518:=()
def tw10470340158578859262:=()
def tw621824258390432152:=()
def tw12709975386306396992:=()
def tw11341313602254236906:=()
def tw5407970635648715744:=()
def tw18425444933858846725:=()
def tw17137270108147033825:=()
def tw3328118118096588273:=()
def tw10576836333797772347:=()
def tw11898465464335795678:=()
def tw6056707288978253535:=()
def tw2399617604181995578:=()
def tw14154597600763967237:=()
def tw14808909156504927330:=()
def tw17829434514381053950:=()
def tw14819390147424179368:=()
def tw14736888041290939073:=()
def tw17410218998227585676:=()
def tw6880980288501444468:=()
def tw14334995849660946996:=()
def tw13813548295540068894:=()
def tw2595585439558603231:=()
def tw6008232320854092231:=()
def tw3374319085511977134:=()
def tw13053770412826190925:=()
def tw13034982811429478159:=()
def tw2479909634843643777:=()
def tw3592811809046731828:=()
def tw9320515035125037321:=()
def tw16159750380562633221:=()
def tw8356303796347215682:=()
def tw5037459499596335280:=()
def tw8115137120850386438:=()
def tw1840220198017710270:=()
def tw7155359931933253843:=()
def tw4290864757253303354:=()
def tw6084841979344569690:=()
def tw13813618637161013713:=()
def tw10326336056695345397:=()
def tw12145756527313086355:=()
def tw12884060626414724322:=()
def tw8919978131948313185:=()
def tw14061609134260724683:=()
def tw6162269159774324313:=()
def tw740290905518256060:=()
def tw15279809834360698895:=()
def tw1599053048872161195:=()
def tw16822532161544500889:=()
def tw8535803893964050539:=()
def tw14520296925931582552:=()
def tw14454166528178196959:=()
def tw17592209452093105858:=()
def tw14939612678797562433:=()
def tw15401437161963490237:=()
def tw14329579894275425762:=()
def tw14553807712399142462:=()
def tw3671519592330383864:=()
def tw14833712730911297017:=()
def tw9689729476882780088:=()
def tw3507769193172341495:=()
def tw17518593693041627797:=()
def tw11692469974320434101:=()
def tw9003107776662980439:=()
def tw6128106870883400570:=()
def tw11373181179767321252:=()
def tw14538725608371270373:=()
def tw14849461344987154502:=()
def tw12188032599808994241:=()
def tw12020253756985099128:=()
def tw11589282660436910429:=()
def tw7164969610272591079:=()
def tw13367274342830030513:=()
end PySem.W.Fast
section
open PySem PySem.W PyProof.Rows
set_option maxHeartbeats 0 in
open_top hd for PySem.Challenge.rw_wornband_k44_whole_flips_on_the_loom
end
namespace Wb
open PySem L2 Mi
theorem xg{K:Cq}:∀vs H Q E,pN K vs H Q E->zL (isScr K) (rs isB) uw vs H Q E:=fun vs H Q E⟨a,ns,h1,h2,h3,h4⟩=>
 ⟨⟨H,H,.refl _⟩,ns,.ref a,rfl,h1,⟨a,rfl,h2⟩,fun _=>False,fun _ h=>h,Res.Ok.e ((yR ns h3).imp fun r hr u W' _ hu=>by cases hr;cases hu;exact h4 _)⟩
local macro_rules | `(tactic|walk_at "B1")=>`(tactic|exact fun _ _ _ _ _ _ us hl=>match us,hl with | [_],_=>rfl)
local macro_rules | `(tactic|walk_at "B2")=>`(tactic|exact fun _ _ _ _ _ _ us hl=>match us,hl with | [_,_],_=>rfl)
local macro_rules | `(tactic|walk_at "B4")=>`(tactic|exact fun _ _ _ _ _ _ us hl=>match us,hl with | [_,_,_,_],_=>rfl)
local macro_rules | `(tactic|walk_at "B7")=>`(tactic|exact fun _ _ _ _ _ _ us hl=>match us,hl with | [_,_,_,_,_,_,_],_=>rfl)
theorem fin_mk{l:Gk}{w:D4}{K:Cq}{h:Heap}{mg:Str->Option Cr}{fa:Addr}{Z00:Addr}{Z01:Addr}{Z2q:Addr}{Zaf Zag:Option Addr}{Zah:Array (Option Cr)}{Zai Zaj Zak Zal Z6J Zam:Cr}{Z1r:Addr}{Z7j Z7k:Option Addr}{Z7l:Array (Option Cr)}{Z7m Z7n Z7o Z7p Z3J Z7q:Cr}{Z1A:Addr}{Z7J Z7K:Option Addr}{Z7L:Array (Option Cr)}{Z7M Z7N Z7O Z7P Z48 Z7Q:Cr}{Z2R:Addr}{ZbM ZbN:Option Addr}{ZbO:Array (Option Cr)}{ZbP ZbQ ZbR ZbS Z7r ZbT:Cr}{Z27:Addr}{Z97 Z98:Option Addr}{Z99:Array (Option Cr)}{Z9a Z9b Z9c Z9d Z6v Z9e:Cr}{Z28:Addr}{Z9f Z9g:Option Addr}{Z9h:Array (Option Cr)}{Z9i Z9j Z9k Z9l Z6w Z9m:Cr}{Z2r:Addr}{Zan Zao:Option Addr}{Zap:Array (Option Cr)}{Zaq Zar Zas Zat Z6K Zau:Cr}{Z29:Addr}{Z9n Z9o:Option Addr}{Z9p:Array (Option Cr)}{Z9q Z9r Z9s Z9t Z6x Z9u:Cr}{Z2s:Addr}{Zav Zaw:Option Addr}{Zax:Array (Option Cr)}{Zay Zaz ZaA ZaB Z6L ZaC:Cr}{Z2a:Addr}{Z9v Z9w:Option Addr}{Z9x:Array (Option Cr)}{Z9y Z9z Z9A Z9B Z6y Z9C:Cr}{Z2t:Addr}{ZaD ZaE:Option Addr}{ZaF:Array (Option Cr)}{ZaG ZaH ZaI ZaJ Z6M ZaK:Cr}{Z1M:Addr}{Z8g Z8h:Option Addr}{Z8i:Array (Option Cr)}{Z8j Z8k Z8l Z8m Z4T Z8n:Cr}{f_law:Addr}{od_law an_law:Option Addr}{sl_law:Array (Option Cr)}{oc_law kV_law dc_law pm_law cd_law ct_law:Cr}{Z2S:Addr}{Z9D Z9E:Option Addr}{Z9F:Array (Option Cr)}{Z9G Z9H Z9I Z9J Z6z Z9K:Cr}{Z2i:Tok}{Z1p:Addr}{ZaL:Nat}{Z9L Z9M Z9N Z9O:Tok}{Z2z:Addr}{Zf0:Nat}{ZdW ZdX ZdY ZdZ Ze0 Ze1:Tok}{Z1X:Addr}{Zfi:Nat}{Zf1 Zf2 Zf3 Zf4 Zf5 Zf6:Tok}{Z8t:Tok}{Z08 Z56:Addr}{ZaM ZbU:Str}{ZaN ZaO:List Cr}{ZaP ZaQ:Bool}{ZaR:List Str}{ZaS:Option Bool}{ZaT:Option Addr}{ZaU ZaV ZaW ZaX ZaY:Option Cr}{ZaZ:Cr}{Zb0:Option Addr}{Z49:Array EI}{Zb1:Nat}{Zb2:Array (Option Cr)}{Z06 Z7s:Addr}{Zb3 ZbV:Str}{Zb4 Zb5:List Cr}{Zb6 Zb7:Bool}{Zb8:List Str}{Zb9:Option Bool}{Zba:Option Addr}{Zbb Zbc Zbd Zbe Zbf:Option Cr}{Z0i Z7R:Addr}{Ze2 Zf7:Str}{Ze3 Ze4:List Cr}{Ze5 Ze6:Bool}{Ze7:List Str}{Ze8:Option Bool}{Ze9:Option Addr}{Zea Zeb Zec Zed Zee:Option Cr}{Zef:Cr}{Zeg:Option Addr}{Z6N:Array EI}{Zeh:Nat}{Zei:Array (Option Cr)}{Z0f Z91:Addr}{ZcY Zej:Str}{ZcZ Zd0:List Cr}{Zd1 Zd2:Bool}{Zd3:List Str}{Zd4:Option Bool}{Zd5:Option Addr}{Zd6 Zd7 Zd8 Zd9 Zda:Option Cr}{Z0g Z92:Addr}{Zdb Zek:Str}{Zdc Zdd:List Cr}{Zde Zdf:Bool}{Zdg:List Str}{Zdh:Option Bool}{Zdi:Option Addr}{Zdj Zdk Zdl Zdm Zdn:Option Cr}{Z0h Z93:Addr}{Zdo Zel:Str}{Zdp Zdq:List Cr}{Zdr Zds:Bool}{Zdt:List Str}{Zdu:Option Bool}{Zdv:Option Addr}{Zdw Zdx Zdy Zdz ZdA:Option Cr}{Z09 Z64:Addr}{ZbW ZdB:Str}{ZbX ZbY:List Cr}{ZbZ Zc0:Bool}{Zc1:List Str}{Zc2:Option Bool}{Zc3:Option Addr}{Zc4 Zc5 Zc6 Zc7 Zc8:Option Cr}{Zc9:Cr}{Zca:Option Addr}{Z57:Array EI}{Zcb:Nat}{Zcc:Array (Option Cr)}{Z0a Z65:Addr}{Zcd ZdC:Str}{Zce Zcf:List Cr}{Zcg Zch:Bool}{Zci:List Str}{Zcj:Option Bool}{Zck:Option Addr}{Zcl Zcm Zcn Zco Zcp:Option Cr}{Zcq:Cr}{Zcr:Option Addr}{Z58:Array EI}{Zcs:Nat}{Zct:Array (Option Cr)}{Z0b Z66:Addr}{Zcu ZdD:Str}{Zcv Zcw:List Cr}{Zcx Zcy:Bool}{Zcz:List Str}{ZcA:Option Bool}{ZcB:Option Addr}{ZcC ZcD ZcE ZcF ZcG:Option Cr}{ZcH:Cr}{ZcI:Option Addr}{Z59:Array EI}{ZcJ:Nat}{ZcK:Array (Option Cr)}{Z04 Z6A:Addr}{Z8z Z9P:Str}{Z8A Z8B:List Cr}{Z8C Z8D:Bool}{Z8E:List Str}{Z8F:Option Bool}{Z8G:Option Addr}{Z8H Z8I Z8J Z8K Z8L:Option Cr}{Z0l Zbg:Addr}{Zem Zf8:Str}{Zen Zeo:List Cr}{Zep Zeq:Bool}{Zer:List Str}{Zes:Option Bool}{Zet:Option Addr}{Zeu Zev Zew Zex Zey:Option Cr}{Z05 Z6O:Addr}{Z9Q Zbh:Str}{Z9R Z9S:List Cr}{Z9T Z9U:Bool}{Z9V:List Str}{Z9W:Option Bool}{Z9X:Option Addr}{Z9Y Z9Z Za0 Za1 Za2:Option Cr}{Z07 Z7t:Addr}{Zbi ZcL:Str}{Zbj Zbk:List Cr}{Zbl Zbm:Bool}{Zbn:List Str}{Zbo:Option Bool}{Zbp:Option Addr}{Zbq Zbr Zbs Zbt Zbu:Option Cr}{Z0m Zbv:Addr}{Zez Zf9:Str}{ZeA ZeB:List Cr}{ZeC ZeD:Bool}{ZeE:List Str}{ZeF:Option Bool}{ZeG:Option Addr}{ZeH ZeI ZeJ ZeK ZeL:Option Cr}(X:K.In h)(G:h.Ns mainGlobals mg)(hfa:mg "law"=some (.ref fa))
  (Z8M:CL K mainGlobals "Stage"=some (some<|.ref Z00)) (Z7S:Fc K Z00 I9=true) (Z6P:Fw K Z00=true) (Z7T:G2 K Z00=true) (Z7U:Cw K (.ref Z00) "__setattr__"=some (some<|.builtin "object.__setattr__")) (Z7V:Gs K Z00=true) (Z7W:CZ K (.ref Z00)=true)
  (Z3x:Cw K (.ref Z00) "deed"=some none)
  (Z2l:Cw K (.ref Z00) "standing"=some none)
  (Z2B:Cw K (.ref Z00) "reached"=some none)
  (Z2C:Cw K (.ref Z00) "highest"=some none)
  (Z2D:Cw K (.ref Z00) "lengths"=some none)
  (Z3y:Cw K (.ref Z00) "pick"=some none)
  (Zbw:CL K mainGlobals "Loom"=some (some<|.ref Z01)) (Z8N:Fc K Z01 I9=true) (Z7X:Fw K Z01=true) (Z8O:G2 K Z01=true) (Z8P:Cw K (.ref Z01) "__setattr__"=some (some<|.builtin "object.__setattr__")) (Z8Q:Gs K Z01=true) (Z8R:CZ K (.ref Z01)=true)
  (Z4a:Cw K (.ref Z01) "most"=some none)
  (Z3z:Cw K (.ref Z01) "start"=some none)
  (Z3c:Cw K (.ref Z01) "course"=some none)
  (Z3d:Cw K (.ref Z01) "undone"=some none)
  (Z3p:CL K mainGlobals "_law_same"=some (some<|.ref Z2q))
  (Z5a:K.lookup Z2q=some ⟨Zai,Zaf,.func<|Dm "_law_same" "_law_same" (defArgs<|tp 57) (defBody<|tp 57) (defScope<|tp 57) .none Zaj Zak Zal Zag Z6J Zam,Zah⟩)
  (Z5b:Dt K Z6J "_law_same"=true)
  (Z2u:CZ K (.ref Z2q)=true)
  (Z6Q:DI K "_law_at" (tp 43) ["_law_script","_law_k"])
  (Z67:DI K "_law_row" (tp 40) ["_law_cell","_law_many","_law_base"])
  (Z4b:DI K "_law_holes" (tp 41) ["_law_cell"])
  (Z5c:DI K "_law_card" (tp 42) ["_law_cell"])
  (Z4c:DI K "_law_draft" (tp 44) ["_law_script","_law_at_here","_law_width"])
  (Z2E:Cw K (.ref Z00) "__init__"=some (some<|.ref Z1r)) (Z2F:E9 K (.ref Z1r)=true)
  (Z2G:K.lookup Z1r=some ⟨Z7m,Z7j,.func<|Dm "__init__" "Stage.__init__" (defArgs<|tq 31 0) (defBody<|tq 31 0) (defScope<|tq 31 0) .none Z7n Z7o Z7p Z7k Z3J Z7q,Z7l⟩)
  (Z2H:Dt K Z3J "Stage.__init__"=true)
  (Z2I:CZ K (.ref Z1r)=true)
  (Z3A:DI K "first_stage" (tp 32) ["draft","spools"])
  (Z2T:Cw K (.ref Z01) "__init__"=some (some<|.ref Z1A)) (Z2U:E9 K (.ref Z1A)=true)
  (Z2V:K.lookup Z1A=some ⟨Z7M,Z7J,.func<|Dm "__init__" "Loom.__init__" (defArgs<|tq 38 0) (defBody<|tq 38 0) (defScope<|tq 38 0) .none Z7N Z7O Z7P Z7K Z48 Z7Q,Z7L⟩)
  (Z2W:Dt K Z48 "Loom.__init__"=true)
  (Z2X:CZ K (.ref Z1A)=true)
  (Z4d:DI K "_law_turns" (tp 45) ["_law_cell","_law_many"])
  (Z68:Cw K (.ref Z01) "now"=some (some<|.ref Z2R)) (Z69:E9 K (.ref Z2R)=true)
  (Z6a:K.lookup Z2R=some ⟨ZbP,ZbM,.func<|Dm "now" "Loom.now" (defArgs<|tq 38 1) (defBody<|tq 38 1) (defScope<|tq 38 1) .none ZbQ ZbR ZbS ZbN Z7r ZbT,ZbO⟩)
  (Z6b:Dt K Z7r "Loom.now"=true)
  (Z3N:CZ K (.ref Z2R)=true)
  (Z7Y:DI K "is_row" (tp 28) ["text","width"])
  (Z6c:DI K "twisting" (tp 23) ["tablet","turn"])
  (Z8S:DI K "taken" (tp 36) ["draft","row"])
  (Z5d:DI K "drawn_off" (tp 37) ["spools","lengths"])
  (Z7Z:DI K "turned" (tp 24) ["tablet","turn"])
  (d_top:DI K "top" (tp 21) ["tablet"])
  (Z80:DI K "bottom" (tp 22) ["tablet"])
  (Z4e:DI K "left_place" (tp 29) ["tablet","turn"])
  (Z3B:DI K "woven_stage" (tp 33) ["stage","row","most"])
  (Z4f:Cw K (.ref Z01) "go_on"=some (some<|.ref Z27)) (Z4g:E9 K (.ref Z27)=true)
  (Z4h:K.lookup Z27=some ⟨Z9a,Z97,.func<|Dm "go_on" "Loom.go_on" (defArgs<|tq 38 2) (defBody<|tq 38 2) (defScope<|tq 38 2) .none Z9b Z9c Z9d Z98 Z6v Z9e,Z99⟩)
  (Z4i:Dt K Z6v "Loom.go_on"=true)
  (Z2Y:CZ K (.ref Z27)=true)
  (Z4j:Cw K (.ref Z01) "weave"=some (some<|.ref Z28)) (Z4k:E9 K (.ref Z28)=true)
  (Z4l:K.lookup Z28=some ⟨Z9i,Z9f,.func<|Dm "weave" "Loom.weave" (defArgs<|tq 38 3) (defBody<|tq 38 3) (defScope<|tq 38 3) .none Z9j Z9k Z9l Z9g Z6w Z9m,Z9h⟩)
  (Z4m:Dt K Z6w "Loom.weave"=true)
  (Z2Z:CZ K (.ref Z28)=true)
  (Z5e:DI K "_law_back" (tp 56) ["_law_turns_here"])
  (Z3e:DI K "check_tablet" (tp 35) ["draft","k"])
  (Z6R:DI K "flipped" (tp 25) ["tablet"])
  (Z30:DI K "flipped_stage" (tp 34) ["stage","k"])
  (Z5f:Cw K (.ref Z01) "flip"=some (some<|.ref Z2r)) (Z5g:E9 K (.ref Z2r)=true)
  (Z5h:K.lookup Z2r=some ⟨Zaq,Zan,.func<|Dm "flip" "Loom.flip" (defArgs<|tq 38 4) (defBody<|tq 38 4) (defScope<|tq 38 4) .none Zar Zas Zat Zao Z6K Zau,Zap⟩)
  (Z5i:Dt K Z6K "Loom.flip"=true)
  (Z3q:CZ K (.ref Z2r)=true)
  (Z4n:DI K "_law_tried" (tp 59) ["_law_loom","_law_k"])
  (Z4o:Cw K (.ref Z01) "deeds"=some (some<|.ref Z29)) (Z4p:E9 K (.ref Z29)=true)
  (Z4q:K.lookup Z29=some ⟨Z9q,Z9n,.func<|Dm "deeds" "Loom.deeds" (defArgs<|tq 38 10) (defBody<|tq 38 10) (defScope<|tq 38 10) .none Z9r Z9s Z9t Z9o Z6x Z9u,Z9p⟩)
  (Z4r:Dt K Z6x "Loom.deeds"=true)
  (Z31:CZ K (.ref Z29)=true)
  (Z5j:Cw K (.ref Z01) "band"=some (some<|.ref Z2s)) (Z5k:E9 K (.ref Z2s)=true)
  (Z5l:K.lookup Z2s=some ⟨Zay,Zav,.func<|Dm "band" "Loom.band" (defArgs<|tq 38 9) (defBody<|tq 38 9) (defScope<|tq 38 9) .none Zaz ZaA ZaB Zaw Z6L ZaC,Zax⟩)
  (Z5m:Dt K Z6L "Loom.band"=true)
  (Z3r:CZ K (.ref Z2s)=true)
  (Z6S:DI K "_law_go" (tp 49) ["_law_turn"])
  (Z3C:DI K "_law_behind" (tp 50) ["_law_card_here","_law_turn"])
  (Z4s:DI K "_law_twist" (tp 51) ["_law_card_here","_law_turn"])
  (Z3D:DI K "_law_places" (tp 52) ["_law_card_here","_law_turns_here"])
  (Z5n:DI K "_law_band" (tp 53) ["_law_draft_here","_law_plan"])
  (Z4t:Cw K (.ref Z01) "twist"=some (some<|.ref Z2a)) (Z4u:E9 K (.ref Z2a)=true)
  (Z4v:K.lookup Z2a=some ⟨Z9y,Z9v,.func<|Dm "twist" "Loom.twist" (defArgs<|tq 38 11) (defBody<|tq 38 11) (defScope<|tq 38 11) .none Z9z Z9A Z9B Z9w Z6y Z9C,Z9x⟩)
  (Z4w:Dt K Z6y "Loom.twist"=true)
  (Z32:CZ K (.ref Z2a)=true)
  (Z5o:Cw K (.ref Z01) "peak"=some (some<|.ref Z2t)) (Z5p:E9 K (.ref Z2t)=true)
  (Z5q:K.lookup Z2t=some ⟨ZaG,ZaD,.func<|Dm "peak" "Loom.peak" (defArgs<|tq 38 12) (defBody<|tq 38 12) (defScope<|tq 38 12) .none ZaH ZaI ZaJ ZaE Z6M ZaK,ZaF⟩)
  (Z5r:Dt K Z6M "Loom.peak"=true)
  (Z3s:CZ K (.ref Z2t)=true)
  (Z5s:DI K "_law_peak" (tp 54) ["_law_card_here","_law_turns_here"])
  (Z33:DI K "_law_turnover" (tp 55) ["_law_card_here"])
  (Z3f:Cw K (.ref Z01) "tablets"=some (some<|.ref Z1M)) (Z3g:E9 K (.ref Z1M)=true)
  (Z3h:K.lookup Z1M=some ⟨Z8j,Z8g,.func<|Dm "tablets" "Loom.tablets" (defArgs<|tq 38 8) (defBody<|tq 38 8) (defScope<|tq 38 8) .none Z8k Z8l Z8m Z8h Z4T Z8n,Z8i⟩)
  (Z3i:Dt K Z4T "Loom.tablets"=true)
  (Z2k:CZ K (.ref Z1M)=true)
  (Z5t:DI K "_law_ends" (tp 60) ["_law_loom","_law_draft_here","_law_plan","_law_over"])
  (a_law:CL K mainGlobals "law"=some (some<|.ref f_law))
  (l_law:K.lookup f_law=some ⟨oc_law,od_law,.func<|Dm "law" "law" (defArgs<|tp 61) (defBody<|tp 61) (defScope<|tp 61) .none kV_law dc_law pm_law an_law cd_law ct_law,sl_law⟩)
  (c_law:Dt K cd_law "law"=true)
  (k_law:CZ K (.ref f_law)=true)
  (Z4x:CL K mainGlobals "_law_kinds"=some (some<|.ref Z2S))
  (Z4y:K.lookup Z2S=some ⟨Z9G,Z9D,.func<|Dm "_law_kinds" "_law_kinds" (defArgs<|tp 58) (defBody<|tp 58) (defScope<|tp 58) .none Z9H Z9I Z9J Z9E Z6z Z9K,Z9F⟩)
  (Z4z:Dt K Z6z "_law_kinds"=true)
  (Z34:CZ K (.ref Z2S)=true)
  (Z4A:CL K mainGlobals "ValueError"=some none)
  (ZdE:CL K mainGlobals "abs"=some none)
  (ZdF:CL K mainGlobals "all"=some none)
  (ZdG:CL K mainGlobals "any"=some none)
  (Zbx:CL K mainGlobals "bool"=some none)
  (Zby:CL K mainGlobals "dict"=some none)
  (Z5u:CL K mainGlobals "enumerate"=some none)
  (ZdH:CL K mainGlobals "int"=some none)
  (Z4B:CL K mainGlobals "isinstance"=some none)
  (ZdI:CL K mainGlobals "len"=some none)
  (Zbz:CL K mainGlobals "list"=some none)
  (ZdJ:CL K mainGlobals "max"=some none)
  (Z8T:CL K mainGlobals "range"=some none)
  (ZdK:CL K mainGlobals "str"=some none)
  (ZdL:CL K mainGlobals "sum"=some none)
  (Z8U:CL K mainGlobals "tuple"=some none)
  (ZdM:CL K mainGlobals "zip"=some none)
  (Z8V:CL K mainGlobals "HOLES"=some (some<|.int 4 Z2i))
  (Z4C:CL K mainGlobals "OTHER_LAYS"=some (some<|.ref Z1p))
  (Z4D:K.lookup Z1p=some {cls:=.type "dict",data:=.dict #[⟨F5 w.params<|Cv "S",.str (Cv "S") Z9L,.str (Cv "Z") Z9M⟩,⟨F5 w.params<|Cv "Z",.str (Cv "Z") Z9N,.str (Cv "S") Z9O⟩] ZaL})
  (Z4E:(Z1p==sysModules)=false)
  (Z81:CL K mainGlobals "SLANTS"=some (some<|.ref Z2z))
  (Z82:K.lookup Z2z=some {cls:=.type "dict",data:=.dict #[⟨hashInt<|1,.int (1) ZdW,.str (Cv "s") ZdX⟩,⟨hashInt<|-1,.int (-1) ZdY,.str (Cv "z") ZdZ⟩,⟨hashInt<|0,.int (0) Ze0,.str (Cv "o") Ze1⟩] Zf0})
  (Z83:(Z2z==sysModules)=false)
  (Z8W:CL K mainGlobals "STEPS"=some (some<|.ref Z1X))
  (Z8X:K.lookup Z1X=some {cls:=.type "dict",data:=.dict #[⟨F5 w.params<|Cv "f",.str (Cv "f") Zf1,.int (1) Zf2⟩,⟨F5 w.params<|Cv "b",.str (Cv "b") Zf3,.int (-1) Zf4⟩,⟨F5 w.params<|Cv "i",.str (Cv "i") Zf5,.int (0) Zf6⟩] Zfi})
  (Z8Y:(Z1X==sysModules)=false)
  (Z8Z:CL K mainGlobals "TURNS"=some (some<|.str (Cv "fbi") Z8t))
  (Z5v:CL K mainGlobals "BandError"=some (some<|.ref Z08))
  (Z5w:K.lookup Z08=some (excClassObj ZaM ZbU Z08 Z56 ZaN [.type "ValueError",.type "Exception",.type "BaseException",.type "object"] ZaP ZaR ZaO ZaQ ZaS ZaT ZaU ZaV ZaW ZaX ZaY "ValueError.__new__"))
  (Z1Z:K.lookup Z56=some ⟨ZaZ,Zb0,.dict Z49 Zb1,Zb2⟩) (Z1N:HA Z49) (Z1O:nsFind Z49 "__init__"=none)
  (Z5x:CL K mainGlobals "BadTablet"=some (some<|.ref Z06))
  (Z5y:K.lookup Z06=some (excClassObj Zb3 ZbV Z06 Z7s Zb4 [.ref Z08,.type "ValueError",.type "Exception",.type "BaseException",.type "object"] Zb6 Zb8 Zb5 Zb7 Zb9 Zba Zbb Zbc Zbd Zbe Zbf "ValueError.__new__"))
  (Z4F:Cw K (.ref Z06) "__getattribute__"=some (some<|.builtin "BaseException.__getattribute__")) (Z4G:Cw K (.ref Z06) "__getattr__"=some none) (Z4H:Cw K (.ref Z06) "__class__"=some (some<|.builtin "object.__class__"))
  (Z84:CL K mainGlobals "BadRow"=some (some<|.ref Z0i))
  (Z85:K.lookup Z0i=some (excClassObj Ze2 Zf7 Z0i Z7R Ze3 [.ref Z08,.type "ValueError",.type "Exception",.type "BaseException",.type "object"] Ze5 Ze7 Ze4 Ze6 Ze8 Ze9 Zea Zeb Zec Zed Zee "ValueError.__new__"))
  (Z6T:Cw K (.ref Z0i) "__getattribute__"=some (some<|.builtin "BaseException.__getattribute__")) (Z6U:Cw K (.ref Z0i) "__getattr__"=some none) (Z6V:Cw K (.ref Z0i) "__class__"=some (some<|.builtin "object.__class__"))
  (Z86:K.lookup Z7R=some ⟨Zef,Zeg,.dict Z6N Zeh,Zei⟩) (Z6W:HA Z6N) (Z6X:nsFind Z6N "__init__"=none)
  (Z6Y:CL K mainGlobals "BadText"=some (some<|.ref Z0f))
  (Z6Z:K.lookup Z0f=some (excClassObj ZcY Zej Z0f Z91 ZcZ [.ref Z08,.type "ValueError",.type "Exception",.type "BaseException",.type "object"] Zd1 Zd3 Zd0 Zd2 Zd4 Zd5 Zd6 Zd7 Zd8 Zd9 Zda "ValueError.__new__"))
  (Z6d:Cw K (.ref Z0f) "__getattribute__"=some (some<|.builtin "BaseException.__getattribute__")) (Z6e:Cw K (.ref Z0f) "__getattr__"=some none) (Z6f:Cw K (.ref Z0f) "__class__"=some (some<|.builtin "object.__class__"))
  (Z70:CL K mainGlobals "BadMark"=some (some<|.ref Z0g))
  (Z71:K.lookup Z0g=some (excClassObj Zdb Zek Z0g Z92 Zdc [.ref Z08,.type "ValueError",.type "Exception",.type "BaseException",.type "object"] Zde Zdg Zdd Zdf Zdh Zdi Zdj Zdk Zdl Zdm Zdn "ValueError.__new__"))
  (Z6g:Cw K (.ref Z0g) "__getattribute__"=some (some<|.builtin "BaseException.__getattribute__")) (Z6h:Cw K (.ref Z0g) "__getattr__"=some none) (Z6i:Cw K (.ref Z0g) "__class__"=some (some<|.builtin "object.__class__"))
  (Z72:CL K mainGlobals "TooLong"=some (some<|.ref Z0h))
  (Z73:K.lookup Z0h=some (excClassObj Zdo Zel Z0h Z93 Zdp [.ref Z08,.type "ValueError",.type "Exception",.type "BaseException",.type "object"] Zdr Zdt Zdq Zds Zdu Zdv Zdw Zdx Zdy Zdz ZdA "ValueError.__new__"))
  (Z6j:Cw K (.ref Z0h) "__getattribute__"=some (some<|.builtin "BaseException.__getattribute__")) (Z6k:Cw K (.ref Z0h) "__getattr__"=some none) (Z6l:Cw K (.ref Z0h) "__class__"=some (some<|.builtin "object.__class__"))
  (Z6m:CL K mainGlobals "TooTight"=some (some<|.ref Z09))
  (Z6n:K.lookup Z09=some (excClassObj ZbW ZdB Z09 Z64 ZbX [.ref Z08,.type "ValueError",.type "Exception",.type "BaseException",.type "object"] ZbZ Zc1 ZbY Zc0 Zc2 Zc3 Zc4 Zc5 Zc6 Zc7 Zc8 "ValueError.__new__"))
  (Z5z:Cw K (.ref Z09) "__getattribute__"=some (some<|.builtin "BaseException.__getattribute__")) (Z5A:Cw K (.ref Z09) "__getattr__"=some none) (Z5B:Cw K (.ref Z09) "__class__"=some (some<|.builtin "object.__class__"))
  (Z6o:K.lookup Z64=some ⟨Zc9,Zca,.dict Z57 Zcb,Zcc⟩) (Z5C:HA Z57) (Z5D:nsFind Z57 "__init__"=none)
  (Z6p:CL K mainGlobals "SpoolDry"=some (some<|.ref Z0a))
  (Z6q:K.lookup Z0a=some (excClassObj Zcd ZdC Z0a Z65 Zce [.ref Z08,.type "ValueError",.type "Exception",.type "BaseException",.type "object"] Zcg Zci Zcf Zch Zcj Zck Zcl Zcm Zcn Zco Zcp "ValueError.__new__"))
  (Z5E:Cw K (.ref Z0a) "__getattribute__"=some (some<|.builtin "BaseException.__getattribute__")) (Z5F:Cw K (.ref Z0a) "__getattr__"=some none) (Z5G:Cw K (.ref Z0a) "__class__"=some (some<|.builtin "object.__class__"))
  (Z6r:K.lookup Z65=some ⟨Zcq,Zcr,.dict Z58 Zcs,Zct⟩) (Z5H:HA Z58) (Z5I:nsFind Z58 "__init__"=none)
  (Z6s:CL K mainGlobals "NoTablet"=some (some<|.ref Z0b))
  (Z6t:K.lookup Z0b=some (excClassObj Zcu ZdD Z0b Z66 Zcv [.ref Z08,.type "ValueError",.type "Exception",.type "BaseException",.type "object"] Zcx Zcz Zcw Zcy ZcA ZcB ZcC ZcD ZcE ZcF ZcG "ValueError.__new__"))
  (Z5J:Cw K (.ref Z0b) "__getattribute__"=some (some<|.builtin "BaseException.__getattribute__")) (Z5K:Cw K (.ref Z0b) "__getattr__"=some none) (Z5L:Cw K (.ref Z0b) "__class__"=some (some<|.builtin "object.__class__"))
  (Z6u:K.lookup Z66=some ⟨ZcH,ZcI,.dict Z59 ZcJ,ZcK⟩) (Z5M:HA Z59) (Z5N:nsFind Z59 "__init__"=none)
  (Z3E:CL K mainGlobals "NothingLeft"=some (some<|.ref Z04))
  (Z3F:K.lookup Z04=some (excClassObj Z8z Z9P Z04 Z6A Z8A [.ref Z08,.type "ValueError",.type "Exception",.type "BaseException",.type "object"] Z8C Z8E Z8B Z8D Z8F Z8G Z8H Z8I Z8J Z8K Z8L "ValueError.__new__"))
  (Z3j:Cw K (.ref Z04) "__getattribute__"=some (some<|.builtin "BaseException.__getattribute__")) (Z3k:Cw K (.ref Z04) "__getattr__"=some none) (Z3l:Cw K (.ref Z04) "__class__"=some (some<|.builtin "object.__class__"))
  (Z87:CL K mainGlobals "Unlike"=some (some<|.ref Z0l))
  (Z88:K.lookup Z0l=some (excClassObj Zem Zf8 Z0l Zbg Zen [.ref Z08,.type "ValueError",.type "Exception",.type "BaseException",.type "object"] Zep Zer Zeo Zeq Zes Zet Zeu Zev Zew Zex Zey "ValueError.__new__"))
  (Z74:Cw K (.ref Z0l) "__getattribute__"=some (some<|.builtin "BaseException.__getattribute__")) (Z75:Cw K (.ref Z0l) "__getattr__"=some none) (Z76:Cw K (.ref Z0l) "__class__"=some (some<|.builtin "object.__class__"))
  (Z4I:CL K mainGlobals "SeenThread"=some (some<|.ref Z05))
  (Z4J:K.lookup Z05=some (excClassObj Z9Q Zbh Z05 Z6O Z9R [.ref Z08,.type "ValueError",.type "Exception",.type "BaseException",.type "object"] Z9T Z9V Z9S Z9U Z9W Z9X Z9Y Z9Z Za0 Za1 Za2 "ValueError.__new__"))
  (Z3G:Cw K (.ref Z05) "__getattribute__"=some (some<|.builtin "BaseException.__getattribute__")) (Z3H:Cw K (.ref Z05) "__getattr__"=some none) (Z3I:Cw K (.ref Z05) "__class__"=some (some<|.builtin "object.__class__"))
  (Z5O:CL K mainGlobals "NoSuchWay"=some (some<|.ref Z07))
  (Z5P:K.lookup Z07=some (excClassObj Zbi ZcL Z07 Z7t Zbj [.ref Z08,.type "ValueError",.type "Exception",.type "BaseException",.type "object"] Zbl Zbn Zbk Zbm Zbo Zbp Zbq Zbr Zbs Zbt Zbu "ValueError.__new__"))
  (Z4K:Cw K (.ref Z07) "__getattribute__"=some (some<|.builtin "BaseException.__getattribute__")) (Z4L:Cw K (.ref Z07) "__getattr__"=some none) (Z4M:Cw K (.ref Z07) "__class__"=some (some<|.builtin "object.__class__"))
  (Z89:CL K mainGlobals "Barred"=some (some<|.ref Z0m))
  (Z8a:K.lookup Z0m=some (excClassObj Zez Zf9 Z0m Zbv ZeA [.ref Z08,.type "ValueError",.type "Exception",.type "BaseException",.type "object"] ZeC ZeE ZeB ZeD ZeF ZeG ZeH ZeI ZeJ ZeK ZeL "ValueError.__new__"))
  (Z77:Cw K (.ref Z0m) "__getattribute__"=some (some<|.builtin "BaseException.__getattribute__")) (Z78:Cw K (.ref Z0m) "__getattr__"=some none) (Z79:Cw K (.ref Z0m) "__class__"=some (some<|.builtin "object.__class__"))
  (hn1:IK K (.builtin "object.__class__") "__get__"=some (some<|.builtin "getset_descriptor.__get__")) (ht1:Jg K (.builtin "object.__class__")=some true) (nd1:(Z08::[Z06,Z0i,Z0f,Z0g,Z0h,Z09,Z0a,Z0b,Z04,Z0l,Z05,Z07,Z0m]).Nodup)
  :∃fd:CP,(∀(s:Cu)(v:Cr),Ia s fd ⟨[v],[]⟩ [("_law_script",v)])/\∀base:Heap,K.In base->base.Ns mainGlobals mg->FnOk l.prog w K mg base CX0 28 fa fd ["_law_script"] (pN K):=by
 have e:=hfa.symm.trans<|D0 X G a_law;cases e;have Z7u:=cT (st:=tp 57) Z5a Z5b Z2u;have Z7v:=Z7u.binds (ps:=["_law_found","_law_due"]) (by walk_at "B2");have Z4N:=cT (st:=tq 31 0) Z2G Z2H Z2I;have Z8b:=Z4N.binds (ps:=["self","deed","standing","reached","highest","lengths","pick"]) (by walk_at "B7");have Z4U:=cT (st:=tq 38 0) Z2V Z2W Z2X;have Z8o:=Z4U.binds (ps:=["self","draft","most","spools"]) (by walk_at "B4");have Z8p:=cT (st:=tq 38 1) Z6a Z6b Z3N;have ZdN:=Z8p.binds (ps:=["self"]) (by walk_at "B1");have Z7a:=cT (st:=tq 38 2) Z4h Z4i Z2Y;have ZbA:=Z7a.binds (ps:=["self","stages"]) (by walk_at "B2");have Z7b:=cT (st:=tq 38 3) Z4l Z4m Z2Z;have ZbB:=Z7b.binds (ps:=["self","row"]) (by walk_at "B2");have Z7w:=cT (st:=tq 38 4) Z5h Z5i Z3q;have ZcM:=Z7w.binds (ps:=["self","k"]) (by walk_at "B2");have Z7c:=cT (st:=tq 38 10) Z4q Z4r Z31;have ZbC:=Z7c.binds (ps:=["self"]) (by walk_at "B1");have Z7x:=cT (st:=tq 38 9) Z5l Z5m Z3r;have ZcN:=Z7x.binds (ps:=["self"]) (by walk_at "B1");have Z7d:=cT (st:=tq 38 11) Z4v Z4w Z32;have ZbD:=Z7d.binds (ps:=["self","k"]) (by walk_at "B2");have Z7y:=cT (st:=tq 38 12) Z5q Z5r Z3s;have ZcO:=Z7y.binds (ps:=["self","k"]) (by walk_at "B2");have Z5S:=cT (st:=tq 38 8) Z3h Z3i Z2k;have Z90:=Z5S.binds (ps:=["self"]) (by walk_at "B1");have F_law:=cT (st:=tp 61) l_law c_law k_law;have b_law:=F_law.binds (ps:=["_law_script"]) (by walk_at "B1");have Z7e:=cT (st:=tp 58) Z4y Z4z Z34;have ZbE:=Z7e.binds (ps:=["_law_e"]) (by walk_at "B1");have Z0k:Cls K Z00:=⟨Z7S,Z6P,Z7T,Z7U⟩
 have Z1J:NoAttr K Z00 "deed":=Z3x;have Z0t:NoAttr K Z00 "standing":=Z2l;have Z0A:NoAttr K Z00 "reached":=Z2B;have Z0B:NoAttr K Z00 "highest":=Z2C;have Z0S:NoAttr K Z00 "lengths":=Z2D;have Z12:NoAttr K Z00 "pick":=Z3y;have Z0p:Cls K Z01:=⟨Z8N,Z7X,Z8O,Z8P⟩
 have Z1W:NoAttr K Z01 "most":=Z4a;have Z1K:NoAttr K Z01 "start":=Z3z;have Z0x:NoAttr K Z01 "course":=Z3c;have Z1u:NoAttr K Z01 "undone":=Z3d;have Z3S:=D7 X G Z4A;have Z3o:=D7 X G ZdE;have ZcS:=D7 X G ZdF;have ZcU:=D7 X G ZdG;have Z6I:=D7 X G Zbx;have Z5Q:=D7 X G Zby;have Z1Y:=D7 X G Z5u;have Za4:=D7 X G ZdH;have Z0j:=D7 X G Z4B;have Z15:=D7 X G ZdI;have Z1a:=D7 X G Zbz;have Z7h:=D7 X G ZdJ;have Z1t:=D7 X G Z8T;have Za5:=D7 X G ZdK;have ZcX:=D7 X G ZdL;have Z7i:=D7 X G Z8U;have Z1R:=D7 X G ZdM;have Z1k:=D0 X G Z8V;have Z3X:=D0 X G Z4C;have Z3Y:DictK K w Z1p [(DF<|Cv "S",.str<|Cv "Z"),(DF<|Cv "Z",.str<|Cv "S")]:=⟨by decide,Z4E,by decide +kernel,_,_,Z4D,(.cons ⟨ed _ _,rfl,⟨_,rfl⟩⟩<|.cons ⟨ed _ _,rfl,⟨_,rfl⟩⟩ .nil)⟩
 have Z7E:=D0 X G Z81;have Z7F:DictK K w Z2z [(F9<|1,.str<|Cv "s"),(F9<|-1,.str<|Cv "z"),(F9<|0,.str<|Cv "o")]:=⟨by decide,Z83,by decide +kernel,_,_,Z82,(.cons ⟨fX _ _,rfl,⟨_,rfl⟩⟩<|.cons ⟨fX _ _,rfl,⟨_,rfl⟩⟩<|.cons ⟨fX _ _,rfl,⟨_,rfl⟩⟩ .nil)⟩
 have Z3P:=D0 X G Z8W;have Z3Q:DictK K w Z1X [(DF<|Cv "f",.int<|1),(DF<|Cv "b",.int<|-1),(DF<|Cv "i",.int<|0)]:=⟨by decide,Z8Y,by decide +kernel,_,_,Z8X,(.cons ⟨ed _ _,rfl,⟨_,rfl⟩⟩<|.cons ⟨ed _ _,rfl,⟨_,rfl⟩⟩<|.cons ⟨ed _ _,rfl,⟨_,rfl⟩⟩ .nil)⟩
 have Z8u:=D0 X G Z8Z;refine⟨Dm "law" "law" (defArgs<|tp 61) (defBody<|tp 61) (defScope<|tp 61) .none kV_law dc_law pm_law an_law cd_law ct_law,fun s v=>.of_eq rfl,fun base KB _=>?_⟩;have Z1V:=D0 X G Z5v;have Z2v:XcK K Z08 Z56 vE:=⟨_,_,_,_,_,_,_,_,_,_,_,_,_,_,Z5w⟩
 have Z4V:=D0 X G Z5x;have ZcP:XcK K Z06 Z7s (.ref Z08::vE):=⟨_,_,_,_,_,_,_,_,_,_,_,_,_,_,Z5y⟩
 have Z35:=D0 X G Z84;have ZbF:XcK K Z0i Z7R (.ref Z08::vE):=⟨_,_,_,_,_,_,_,_,_,_,_,_,_,_,Z85⟩
 have Z6B:=D0 X G Z6Y;have ZeM:XcK K Z0f Z91 (.ref Z08::vE):=⟨_,_,_,_,_,_,_,_,_,_,_,_,_,_,Z6Z⟩
 have Z6C:=D0 X G Z70;have ZeN:XcK K Z0g Z92 (.ref Z08::vE):=⟨_,_,_,_,_,_,_,_,_,_,_,_,_,_,Z71⟩
 have Z6D:=D0 X G Z72;have ZeO:XcK K Z0h Z93 (.ref Z08::vE):=⟨_,_,_,_,_,_,_,_,_,_,_,_,_,_,Z73⟩
 have Z2d:=D0 X G Z6m;have Z8q:XcK K Z09 Z64 (.ref Z08::vE):=⟨_,_,_,_,_,_,_,_,_,_,_,_,_,_,Z6n⟩
 have Z2e:=D0 X G Z6p;have Z8r:XcK K Z0a Z65 (.ref Z08::vE):=⟨_,_,_,_,_,_,_,_,_,_,_,_,_,_,Z6q⟩
 have Z2f:=D0 X G Z6s;have Z8s:XcK K Z0b Z66 (.ref Z08::vE):=⟨_,_,_,_,_,_,_,_,_,_,_,_,_,_,Z6t⟩
 have Z3t:=D0 X G Z3E;have Za3:XcK K Z04 Z6A (.ref Z08::vE):=⟨_,_,_,_,_,_,_,_,_,_,_,_,_,_,Z3F⟩
 have Z7z:=D0 X G Z87;have Zfa:XcK K Z0l Zbg (.ref Z08::vE):=⟨_,_,_,_,_,_,_,_,_,_,_,_,_,_,Z88⟩
 have Z3T:=D0 X G Z4I;have ZbG:XcK K Z05 Z6O (.ref Z08::vE):=⟨_,_,_,_,_,_,_,_,_,_,_,_,_,_,Z4J⟩
 have Z4W:=D0 X G Z5O;have ZcQ:XcK K Z07 Z7t (.ref Z08::vE):=⟨_,_,_,_,_,_,_,_,_,_,_,_,_,_,Z5P⟩
 have Z7A:=D0 X G Z89;have Zfb:XcK K Z0m Zbv (.ref Z08::vE):=⟨_,_,_,_,_,_,_,_,_,_,_,_,_,_,Z8a⟩
 have Z:Kin K base [Z06,Z0i,Z0f,Z0g,Z0h,Z09,Z0a,Z0b,Z04,Z0l,Z05,Z07,Z0m] Z08:=Kin.of KB hn1 ht1 rfl nd1 Z2v (Dl.mpr ⟨⟨⟨_,ZcP⟩,Z4F,Z4G,Z4H⟩,Dl.mpr ⟨⟨⟨_,ZbF⟩,Z6T,Z6U,Z6V⟩,Dl.mpr ⟨⟨⟨_,ZeM⟩,Z6d,Z6e,Z6f⟩,Dl.mpr ⟨⟨⟨_,ZeN⟩,Z6g,Z6h,Z6i⟩,Dl.mpr ⟨⟨⟨_,ZeO⟩,Z6j,Z6k,Z6l⟩,Dl.mpr ⟨⟨⟨_,Z8q⟩,Z5z,Z5A,Z5B⟩,Dl.mpr ⟨⟨⟨_,Z8r⟩,Z5E,Z5F,Z5G⟩,Dl.mpr ⟨⟨⟨_,Z8s⟩,Z5J,Z5K,Z5L⟩,Dl.mpr ⟨⟨⟨_,Za3⟩,Z3j,Z3k,Z3l⟩,Dl.mpr ⟨⟨⟨_,Zfa⟩,Z74,Z75,Z76⟩,Dl.mpr ⟨⟨⟨_,ZbG⟩,Z3G,Z3H,Z3I⟩,Dl.mpr ⟨⟨⟨_,ZcQ⟩,Z4K,Z4L,Z4M⟩,Dl.mpr ⟨⟨⟨_,Zfb⟩,Z77,Z78,Z79⟩,fun _ h=>nomatch h⟩⟩⟩⟩⟩⟩⟩⟩⟩⟩⟩⟩⟩);have Z7I:Ecl base Z0i:=KP KB ZbF Z2v Z86 rfl Z6W Z6X Z1Z rfl Z1N Z1O;have Z63:Ecl base Z0b:=KP KB Z8s Z2v Z6u rfl Z5M Z5N Z1Z rfl Z1N Z1O;have Z61:Ecl base Z0a:=KP KB Z8r Z2v Z6r rfl Z5H Z5I Z1Z rfl Z1N Z1O;have Z62:Ecl base Z09:=KP KB Z8q Z2v Z6o rfl Z5C Z5D Z1Z rfl Z1N Z1O;have Z3Z:CalH l.prog w K mg base "_law_kinds" ["_law_e"] 1 (gm K [Z06,Z0i,Z0f,Z0g,Z0h,Z09,Z0a,Z0b,Z04,Z0l,Z05,Z07,Z0m] Z08):=⟨Z2S,_,ux Z7e Z0j Z3S Z4V Z35 Z6B Z6C Z6D Z2d Z2e Z2f Z3t Z7z Z3T Z4W Z7A Z1V,D0 X G Z4x,Z34,ZbE⟩
 have SA:∀n:Nat,Cal l.prog w K mg base "_law_same" ["_law_found","_law_due"] n (dZ K n):=fun n=>by
  induction n with
  |zero=>exact⟨Z2q,_,wR,D0 X G Z3p,Z2u,Z7v⟩
  |succ n ih=>exact⟨Z2q,_,uy Z7u Z15 Z0j Z6I Za4 Za5 Z1a Z7i Z1R ih,D0 X G Z3p,Z2u,Z7v⟩
 have Z0X:=SA 26;have Z1P:Cal l.prog w K mg base _ _ _ (bS _ _ _ iO):=Z6Q.cal X G fun F=>BD F Z15;have Z2g:Cal l.prog w K mg base _ _ _ (mj _ _ _ _ mZ):=Z67.cal X G fun F=>BE F Z3o Z1t;have Z3U:Cal l.prog w K mg base _ _ _ (dG _ _ wG):=Z4b.cal X G fun F=>BF F Z2g;have Z4X:Cal l.prog w K mg base _ _ _ (dG _ _ uY):=Z5c.cal X G fun F=>BG F Z3U;have Z43:Cal l.prog w K mg base _ _ _ (mj _ _ _ _ uZ):=Z4c.cal X G fun F=>BH F Z4X Z1P Z1t;have Z2h:CalI l.prog w K mg base "Stage" Z00 ["self","deed","standing","reached","highest","lengths","pick"] (1) (qS Z00 ["deed","standing","reached","highest","lengths","pick"]):=⟨⟨Z1r,_,⟨Z7V,Z2E,Z2F,Z7W⟩,BI Z4N Z0k Z1J Z0t Z0A Z0B Z0S Z12,D0 X G Z8M,Z8b⟩⟩
 have Z3u:Cal l.prog w K mg base _ _ _ (bS _ _ _ wH):=Z3A.cal X G fun F=>BJ F Z2h Z0k Z5Q Z15 Z1a;have Zae:CalI l.prog w K mg base "Loom" Z01 ["self","draft","most","spools"] (4) (pE Z01 (dF K Z00) (wC (sh<|isL<|qA K)<|wC (sh isI)<|wC (sh kW) wN)<|fun a=>wI a.1 a.2.1 a.2.2.1):=⟨⟨Z1A,_,⟨Z8Q,Z2T,Z2U,Z8R⟩,BK Z4U Z3u Z0p Z0x Z1W Z1K Z1u,D0 X G Zbw,Z8o⟩⟩
 have Z44:Cal l.prog w K mg base _ _ _ (bS _ _ _ pF):=Z4d.cal X G fun F=>BL F Z2g;have Z0N:CalM l.prog w K mg base CX0 Z01 "now" ["self"] (1) (i7 (wC (vw<|a8 K Z00 Z01) wN) (rs<|aD K Z00)<|fun a=>Z0d a.1):=⟨⟨Z2R,_,BM Z8p Z0p Z0x Z1K,⟨Z68,Z69,Z3N⟩,Z0p,ZdN⟩⟩
 have Z7G:Cal l.prog w K mg base _ _ _ (bS _ _ _ va):=Z7Y.cal X G fun F=>BN F ZcS Z15 Z8u;have Z2j:Cal l.prog w K mg base _ _ _ (bS _ _ _ mI):=Z6c.cal X G fun F=>BO F Z3P Z3Q;have Z8v:Cal l.prog w K mg base _ _ _ (bS _ _ _ vb):=Z8S.cal X G fun F=>BP F Z1R;have Z4Y:CalR l.prog w K mg base _ _ _ (jX kW kW [Z06,Z0i,Z0f,Z0g,Z0h,Z09,Z0a,Z0b,Z04,Z0l,Z05,Z07,Z0m] (rs kW) wJ):=Z5d.calR X G fun F=>BQ F Z5Q Z2e Z61;have Z7H:Cal l.prog w K mg base _ _ _ (bS _ _ _ uo):=Z7Z.cal X G fun F=>BR F Z1k Z3P Z3Q;have C_top:Cal l.prog w K mg base _ _ _ (dG _ _ i0):=d_top.cal X G fun F=>A8 F Z1k;have Z7D:Cal l.prog w K mg base _ _ _ (dG _ _ wK):=Z80.cal X G fun F=>BS F Z1k;have Z3W:Cal l.prog w K mg base _ _ _ (bS _ _ _ vc):=Z4e.cal X G fun F=>BU F C_top Z7D Z2j Z7E Z7F;have Z3v:CalR l.prog w K mg base _ _ _ (wb (aD K Z00) isS isI [Z06,Z0i,Z0f,Z0g,Z0h,Z09,Z0a,Z0b,Z04,Z0l,Z05,Z07,Z0m] (rs<|aD K Z00) vd):=Z3B.calR X G fun F=>BV F Z7G Z2j Z4Y Z8v Z7H Z3W Z2h Z0k Z0B Z0S Z0A Z0t Z3o ZcU Z15 Z7h Z1R Z35 Z7I Z2d Z62;have Z1L:CalM l.prog w K mg base CX0 Z01 "go_on" ["self","stages"] (1) (rq (a8 K Z00 Z01) (aC (isL<|aD K Z00) aN) isN<|fun st a=>mJ st a.1):=⟨⟨Z27,_,BW Z7a Z0p Z0x Z1u,⟨Z4f,Z4g,Z2Y⟩,Z0p,ZbA⟩⟩
 have Z45:CalM l.prog w K mg base (CXR l.prog w) Z01 "weave" ["self","row"] (4) (uX (a8 K Z00 Z01) (aC isS aN) [Z06,Z0i,Z0f,Z0g,Z0h,Z09,Z0a,Z0b,Z04,Z0l,Z05,Z07,Z0m] (qD K)<|fun st a=>pH st a.1):=⟨⟨Z28,_,BX Z7b Z3v Z0N Z1L Z0p Z0k Z1W Z12 Z1a,⟨Z4j,Z4k,Z2Z⟩,Z0p,ZbB⟩⟩
 have Z52:Cal l.prog w K mg base _ _ _ (dG _ _ n0):=Z5e.cal X G fun F=>BY F;have Z39:CalR l.prog w K mg base _ _ _ (jX (isL<|qA K) isI [Z06,Z0i,Z0f,Z0g,Z0h,Z09,Z0a,Z0b,Z04,Z0l,Z05,Z07,Z0m] (rs isN) ur):=Z3e.calR X G fun F=>BZ F Z15 Z2f Z63;have Z6H:Cal l.prog w K mg base _ _ _ (dG _ _ wL):=Z6R.cal X G fun F=>C0 F Z1k Z3X Z3Y;have Z2P:CalR l.prog w K mg base _ _ _ (jX (aD K Z00) isI [Z06,Z0i,Z0f,Z0g,Z0h,Z09,Z0a,Z0b,Z04,Z0l,Z05,Z07,Z0m] (rs<|aD K Z00) rA):=Z30.calR X G fun F=>C1 F Z39 Z6H Z2h Z0k Z0B Z0S Z0A Z0t Z1a;have Z4Z:CalM l.prog w K mg base (CXR l.prog w) Z01 "flip" ["self","k"] (4) (uX (a8 K Z00 Z01) (aC isI aN) [Z06,Z0i,Z0f,Z0g,Z0h,Z09,Z0a,Z0b,Z04,Z0l,Z05,Z07,Z0m] isN<|fun st a=>rB st a.1):=⟨⟨Z2r,_,C2 Z7w Z1L Z2P Z0N Z0p,⟨Z5f,Z5g,Z3q⟩,Z0p,ZcM⟩⟩
 have Z46:Cal l.prog w K mg base _ _ _ (rq (a8 K Z00 Z01) (aC isI aN) (isU K)<|fun st a=>n5 st a.1):=Z4n.cal X G fun F=>C3 F Z4Z Z0p Z Z1V Z3Z;have Z47:CalM l.prog w K mg base CX0 Z01 "deeds" ["self"] (1) (i7 (wC (vw<|a8 K Z00 Z01) wN) (ro<|isU K)<|fun a=>wM a.1):=⟨⟨Z29,_,C4 Z7c Z0p Z0k Z0x Z1J,⟨Z4o,Z4p,Z31⟩,Z0p,ZbC⟩⟩
 have Z53:CalM l.prog w K mg base CX0 Z01 "band" ["self"] (1) (i7 (wC (vw<|a8 K Z00 Z01) wN) (ro<|qD K)<|fun a=>wO a.1):=⟨⟨Z2s,_,C5 Z7x Z0p Z0k Z0x Z12 Z1a,⟨Z5j,Z5k,Z3r⟩,Z0p,ZcN⟩⟩
 have Z26:Cal l.prog w K mg base _ _ _ (dG _ _ n6):=Z6S.cal X G fun F=>C6 F;have Z1w:Cal l.prog w K mg base _ _ _ (bS _ _ _ i4):=Z3C.cal X G fun F=>C7 F Z26;have Z1c:Cal l.prog w K mg base _ _ _ (bS _ _ _ fT):=Z4s.cal X G fun F=>C8 F Z26;have Z3w:Cal l.prog w K mg base _ _ _ (bS _ _ _ uu):=Z3D.cal X G fun F=>C9 F Z1w Z1c;have Z54:Cal l.prog w K mg base _ _ _ (bS _ _ _ ve):=Z5n.cal X G fun F=>Ca F Z3w Z1Y Z15 Z1t;have Z41:CalM l.prog w K mg base CX0 Z01 "twist" ["self","k"] (2) (i7 (wC (vw<|a8 K Z00 Z01)<|wC (sh isI) wN) (rs isI)<|fun a=>pI a.1 a.2.1):=⟨⟨Z2a,_,Cb Z7d Z0N Z0p Z0k Z0A,⟨Z4t,Z4u,Z32⟩,Z0p,ZbD⟩⟩
 have Z50:CalM l.prog w K mg base CX0 Z01 "peak" ["self","k"] (2) (i7 (wC (vw<|a8 K Z00 Z01)<|wC (sh isI) wN) (rs isI)<|fun a=>pJ a.1 a.2.1):=⟨⟨Z2t,_,Cc Z7y Z0N Z0p Z0k Z0B,⟨Z5o,Z5p,Z3s⟩,Z0p,ZcO⟩⟩
 have Z51:Cal l.prog w K mg base _ _ _ (bS _ _ _ pK):=Z5s.cal X G fun F=>Ce F Z1c Z3o Z7h;have Z2Q:Cal l.prog w K mg base _ _ _ (dG _ _ pL):=Z33.cal X G fun F=>Cf F;have Z3b:CalM l.prog w K mg base CX0 Z01 "tablets" ["self"] (2) (i7 (wC (vw<|a8 K Z00 Z01) wN) (ro<|qA K)<|fun a=>uv a.1):=⟨⟨Z1M,_,Cg Z5S Z0N Z0p Z0k Z0t Z1a,⟨Z3f,Z3g,Z2k⟩,Z0p,Z90⟩⟩
 have Z55:Cal l.prog w K mg base _ _ _ (i7 (wC (vw<|a8 K Z00 Z01)<|wC (sh<|isL<|qA K)<|wC (sh<|isL isS)<|wC (sh<|isL isB) wN) (rs isB)<|fun a=>vf a.1 a.2.1 a.2.2.1 a.2.2.2.1):=Z5t.cal X G fun F=>Ci F Z0X Z41 Z1c Z50 Z51 Z1w Z2Q Z3b Z0p Z1Y ZcX;exact FnOk.imp (A9 F_law Z1P Z43 Zae Z44 Z45 Z52 Z0X Z46 Z47 Z53 Z54 Z55 Z0p Z1t Z1R) xg
theorem walk{l:Gk}{q:CQ}{loose:List Str}{XP:(Str->Option Cr)->Heap->Prop}{YP:D4->Heap->Prop}{d:DefRec}{K:KL->Cq}(hn:l.most=some 63)(hdf:d.params.defaults=[])(hY:∀(w:D4)(h:Heap),YP w h->(K w.params).In h)
  (F:∀(w:D4)(mg:Str->Option Cr)(fa:Addr)(h:Heap),(K w.params).In h->h.Ns mainGlobals mg->mg d.name=some (.ref fa)->∃fd:CP,(∀(s:Cu)(u:Cr),Ia s fd ⟨[u],[]⟩ [("_law_script",u)])/\∀base:Heap,(K w.params).In base->base.Ns mainGlobals mg->FnOk l.prog w (K w.params) mg base CX0 28 fa fd ["_law_script"] (pN<|K w.params)):
  Jl q loose XP YP l.row.toRowW d [] (fun f vs=>Jx f vs):=
 L2.walk_of (n:=63) (k:=28) (x:="_law_script") (CX:=fun _=>CX0) (sp:=fun w=>pN<|K w.params) hn (by decide) hdf ⟨rfl,by decide,by decide⟩ hY F (fun _ _ a ns hl _ hS=>⟨a,ns,rfl,hS,hl,fun _=>rfl⟩) fun _ _ _ _ _ z=>z
end Wb
local macro_rules | `(tactic| walk_at "D") => `(tactic| (apply Wb.DI.mk; (case da => k_is); (case dl => k_is); (case dc => k_is); (case dk => k_is); exact fun _ _ _ _ _ _ _ => rfl))
open PySem PySem.W PyProof.Rows
set_option maxRecDepth 100000 in
set_option maxHeartbeats 0 in
theorem PySem.Challenge.cw_wornband_k44_whole_flips_on_the_loom_holds : PySem.Challenge.rw_wornband_k44_whole_flips_on_the_loom.Holds := by
 refine hd ?_
 k_fill
 refine Wb.walk (l:=DM) rfl rfl (fun w h Y=>PySem.W.kIn_of Y) ?F
 case F=>
  intro w mg fa h KX G hmg
  refine' Wb.fin_mk KX G hmg ?Z8M ?Z7S ?Z6P ?Z7T ?Z7U ?Z7V ?Z7W ?Z3x ?Z2l ?Z2B ?Z2C ?Z2D ?Z3y ?Zbw ?Z8N ?Z7X ?Z8O ?Z8P ?Z8Q ?Z8R ?Z4a ?Z3z ?Z3c ?Z3d ?Z3p ?Z5a ?Z5b ?Z2u ?Z6Q ?Z67 ?Z4b ?Z5c ?Z4c ?Z2E ?Z2F ?Z2G ?Z2H ?Z2I ?Z3A ?Z2T ?Z2U ?Z2V ?Z2W ?Z2X ?Z4d ?Z68 ?Z69 ?Z6a ?Z6b ?Z3N ?Z7Y ?Z6c ?Z8S ?Z5d ?Z7Z ?d_top ?Z80 ?Z4e ?Z3B ?Z4f ?Z4g ?Z4h ?Z4i ?Z2Y ?Z4j ?Z4k ?Z4l ?Z4m ?Z2Z ?Z5e ?Z3e ?Z6R ?Z30 ?Z5f ?Z5g ?Z5h ?Z5i ?Z3q ?Z4n ?Z4o ?Z4p ?Z4q ?Z4r ?Z31 ?Z5j ?Z5k ?Z5l ?Z5m ?Z3r ?Z6S ?Z3C ?Z4s ?Z3D ?Z5n ?Z4t ?Z4u ?Z4v ?Z4w ?Z32 ?Z5o ?Z5p ?Z5q ?Z5r ?Z3s ?Z5s ?Z33 ?Z3f ?Z3g ?Z3h ?Z3i ?Z2k ?Z5t ?a_law ?l_law ?c_law ?k_law ?Z4x ?Z4y ?Z4z ?Z34 ?Z4A ?ZdE ?ZdF ?ZdG ?Zbx ?Zby ?Z5u ?ZdH ?Z4B ?ZdI ?Zbz ?ZdJ ?Z8T ?ZdK ?ZdL ?Z8U ?ZdM ?Z8V ?Z4C ?Z4D ?Z4E ?Z81 ?Z82 ?Z83 ?Z8W ?Z8X ?Z8Y ?Z8Z ?Z5v ?Z5w ?Z1Z ?Z1N ?Z1O ?Z5x ?Z5y ?Z4F ?Z4G ?Z4H ?Z84 ?Z85 ?Z6T ?Z6U ?Z6V ?Z86 ?Z6W ?Z6X ?Z6Y ?Z6Z ?Z6d ?Z6e ?Z6f ?Z70 ?Z71 ?Z6g ?Z6h ?Z6i ?Z72 ?Z73 ?Z6j ?Z6k ?Z6l ?Z6m ?Z6n ?Z5z ?Z5A ?Z5B ?Z6o ?Z5C ?Z5D ?Z6p ?Z6q ?Z5E ?Z5F ?Z5G ?Z6r ?Z5H ?Z5I ?Z6s ?Z6t ?Z5J ?Z5K ?Z5L ?Z6u ?Z5M ?Z5N ?Z3E ?Z3F ?Z3j ?Z3k ?Z3l ?Z87 ?Z88 ?Z74 ?Z75 ?Z76 ?Z4I ?Z4J ?Z3G ?Z3H ?Z3I ?Z5O ?Z5P ?Z4K ?Z4L ?Z4M ?Z89 ?Z8a ?Z77 ?Z78 ?Z79 ?hn1 ?ht1 ?nd1
  (case Z8M|Z7S|Z6P|Z7T|Z7U|Z7V|Z7W|Z3x|Z2l|Z2B|Z2C|Z2D|Z3y|Zbw|Z8N|Z7X|Z8O|Z8P|Z8Q|Z8R|Z4a|Z3z|Z3c|Z3d|Z3p|Z5a|Z5b|Z2u=>k_is)
  (case Z6Q|Z67|Z4b|Z5c|Z4c=>walk_at "D")
  (case Z2E|Z2F|Z2G|Z2H|Z2I=>k_is)
  (case Z3A=>walk_at "D")
  (case Z2T|Z2U|Z2V|Z2W|Z2X=>k_is)
  (case Z4d=>walk_at "D")
  (case Z68|Z69|Z6a|Z6b|Z3N=>k_is)
  (case Z7Y|Z6c|Z8S|Z5d|Z7Z|d_top|Z80|Z4e|Z3B=>walk_at "D")
  (case Z4f|Z4g|Z4h|Z4i|Z2Y|Z4j|Z4k|Z4l|Z4m|Z2Z=>k_is)
  (case Z5e|Z3e|Z6R|Z30=>walk_at "D")
  (case Z5f|Z5g|Z5h|Z5i|Z3q=>k_is)
  (case Z4n=>walk_at "D")
  (case Z4o|Z4p|Z4q|Z4r|Z31|Z5j|Z5k|Z5l|Z5m|Z3r=>k_is)
  (case Z6S|Z3C|Z4s|Z3D|Z5n=>walk_at "D")
  (case Z4t|Z4u|Z4v|Z4w|Z32|Z5o|Z5p|Z5q|Z5r|Z3s=>k_is)
  (case Z5s|Z33=>walk_at "D")
  (case Z3f|Z3g|Z3h|Z3i|Z2k=>k_is)
  (case Z5t=>walk_at "D")
  (case a_law|l_law|c_law|k_law|Z4x|Z4y|Z4z|Z34|Z4A|ZdE|ZdF|ZdG|Zbx|Zby|Z5u|ZdH|Z4B|ZdI|Zbz|ZdJ|Z8T|ZdK|ZdL|Z8U|ZdM|Z8V|Z4C|Z4D=>k_is)
  (case Z4E=>rfl)
  (case Z81|Z82=>k_is)
  (case Z83=>rfl)
  (case Z8W|Z8X=>k_is)
  (case Z8Y=>rfl)
  (case Z8Z|Z5v|Z5w|Z1Z=>k_is)
  (case Z1N=>exact Wb.strKeys_of rfl)
  (case Z1O=>first|rfl|kernel_rfl)
  (case Z5x|Z5y|Z4F|Z4G|Z4H|Z84|Z85|Z6T|Z6U|Z6V|Z86=>k_is)
  (case Z6W=>exact Wb.strKeys_of rfl)
  (case Z6X=>first|rfl|kernel_rfl)
  (case Z6Y|Z6Z|Z6d|Z6e|Z6f|Z70|Z71|Z6g|Z6h|Z6i|Z72|Z73|Z6j|Z6k|Z6l|Z6m|Z6n|Z5z|Z5A|Z5B|Z6o=>k_is)
  (case Z5C=>exact Wb.strKeys_of rfl)
  (case Z5D=>first|rfl|kernel_rfl)
  (case Z6p|Z6q|Z5E|Z5F|Z5G|Z6r=>k_is)
  (case Z5H=>exact Wb.strKeys_of rfl)
  (case Z5I=>first|rfl|kernel_rfl)
  (case Z6s|Z6t|Z5J|Z5K|Z5L|Z6u=>k_is)
  (case Z5M=>exact Wb.strKeys_of rfl)
  (case Z5N=>first|rfl|kernel_rfl)
  (case Z3E|Z3F|Z3j|Z3k|Z3l|Z87|Z88|Z74|Z75|Z76|Z4I|Z4J|Z3G|Z3H|Z3I|Z5O|Z5P|Z4K|Z4L|Z4M|Z89|Z8a|Z77|Z78|Z79|hn1|ht1=>k_is)
  (case nd1=>decide)
