import PyProof.Rows.All
import Wide.All
import OpenK.AllK
import Wide.FinOn
import PyProof.EqAt
import PyProof.EqKinds
import PyProof.TupleCall
import KE.KDictSum
import KE.KRevIter
import KE.KRevSl
import KE.KDictLaws
import PyProof.StrLawsFirst
import KE.LcSums
import PyProof.EnumMake
import PyProof.TupleIter
import PyProof.StationsW
import PyProof.Rows.Own
import PyProof.NsDelKeeps
import PyProof.RulesAs
import PyProof.ExcAttrAll.ValueError
import KE.KIsAll
import PyProof.ExcBaseAll.ValueError
import PyProof.Rows.FStr
import PyProof.FString
import PyProof.Rows.StrNews
import PyProof.StrLawsTight
import PyProof.StrLawsChain
import PyProof.ExcInit
import PyProof.ExcClass3
import PyProof.InstStoreFacts
import PySem.SetTable
import PySem.SetOps
import PyProof.TupleKey
import PyProof.SetKind
import PyProof.IsRules
import KE.KSortTup
import PyProof.Rows.SortRun
import PyProof.Rows.SortShell
import PyProof.DictWalks
import PyProof.DictTruth
import PyProof.NeKinds
import PyProof.Rows.TupTab
import PyProof.Rows.SetFrom
import PyProof.SetRoads
import PyProof.AutoListH
import PyProof.DictItems
import KE.KEqDict
import PyProof.Rows.SortStr
import PyProof.Rows.StrLen
import PySem.Challenge.RW_wornband_k32_whole_numbering
set_option compiler.extract_closed false
local macro_rules|`(⋯)=>`(by decide +kernel)
set_option hygiene false in
local macro_rules | `(tactic|walk_at "L")=>`(tactic|first | exact LM rfl | exact Lv rfl)
set_option hygiene false in
local macro_rules | `(tactic|walk_at "F")=>`(tactic|exact⟨rfl,rfl,rfl,by decide +kernel,rfl,by decide +kernel,by decide +kernel⟩)
set_option hygiene false in
local macro_rules | `(tactic|walk_at "S0")=>`(tactic|simp only[cw,br,d9,bH,tC,dM,aj,aU,bX,az,bT,aW,cf,bf,cv,tB,eV,rU,dZ,rI,cg,bY,aO,bj,ff,cx,fe,cy,bp,cz,bq,eW,bo,aF,eH,f9,eZ,f6,cA,cC,cm,cn,cB,aE,aP,L2.start,Hm,KC,M4,Kl,Im,Ja,Ls,Ju,Lz,MJ,Js,IZ,N1,exists_eq_left',exists_eq_left,exists_and_left,exists_eq',exists_const,Kx.injEq,Se.injEq,LS.injEq,V.ref.injEq,V.ty.injEq,NK,and_true,true_and,reduceCtorEq,false_and,and_false,exists_false,or_false,false_or,decide_eq_true_eq,N2,decide_eq_false_iff_not,if_true,if_false,Hg,ite_true,ite_false,KO,MK,OF,OG,and_assoc])
set_option hygiene false in
local macro_rules | `(tactic|walk_at "S1")=>`(tactic|simp only[cw,eI,ik,br,d9,bH,tC,dM,aj,aU,bX,az,bT,aW,cf,bf,cv,tB,eV,rU,dZ,rI,cg,bY,aO,bj,ff,cx,fe,cy,bp,cz,bq,eW,bo,aF,eH,f9,eZ,f6,cA,cC,cm,cn,cB,aE,aP,L2.start,Hm,KC,M4,Kl,Im,Ja,Ls,Ju,Lz,MJ,Js,IZ,N1,exists_eq_left',exists_eq_left,exists_and_left,exists_eq',exists_const,Kx.injEq,Se.injEq,LS.injEq,V.ref.injEq,V.ty.injEq,NK,and_true,true_and,reduceCtorEq,false_and,and_false,exists_false,or_false,false_or,decide_eq_true_eq,N2,decide_eq_false_iff_not,if_true,if_false,Hg,ite_true,ite_false,KO,MK,OF,OG,and_assoc])
open Lean in
set_option hygiene false in
local macro_rules|`($f $a*)=>match f.raw.isNatLit? with|none=>Macro.throwUnsupported|some n=>let g i:Term:=⟨a.raw.getD i default⟩;let x:=g 0;let y:=g 1;let z:=g 2;let u:=g 3;let v:=g 4;let w:=g 5;let s:=g 6;do let l<-`([$x=some $y,$x=`o,$x=$y/\$z/\$u,some<|.int $x,Gm $x a0,EV Er $x Z W (sh $y) $z,List<|$x×$y,$x=`j,⟨_,($x),$y⟩,PE X $x $y,Gm $x a1,$x->$y->Prop,$x=`K,(($x).bind $y).bind $z,(Gp $x).imp $y,⟨`a,$x⟩,79 $x a8,Gs _ $x,ah $x (pv $y) aa,a5 $x a8,$x->$y->$z->$u->$v,0 (H $x) $y,0 (s.heap.get? $x) $y,aw $x $y $z<|ax _,some<|.ref $x,2 $x $y $z<|$u/\$v/\$w,aJ $x (pv $y) $z `ah,some<|88 $x,7<|mg $x,aK $x $y<|dH $z $u ⋯,eval $x `D,aM (Er:=Er) $x $y,⟨($x),`a,$y⟩,aN $x `C $y $z $u $v fp,$x->$y->$z->$u->$v->$w,0 (h.get? $x) $y,14 hq $x,1<|L (at' $x $y)<|at' $z $u,Inv $x Z_ $y $z $u,Ext W0 $x,aq (λ_=>`ac) $x,7<|H $x,⟨_,$x⟩,5 $x isI $y,($x).OkE Er $y,isT2 K $x $y,hq $x $y (E0.trans $z) $u,af<|au $x,itM t.mask $x $y,$x->Prop,Ext W $x,at' $x i,8 $x ?_,a5 $x<|19 $y,Fun $x $y $z (tp $u) $v $w,FnScope $x $y<|defScope<|tp $z,ah $x $y aa,wpAny $x $y $z $u $v s,0 $x<|some $y,DI $x $y (tp $z) $u,wpAny (model $x w) $y $z $u $v $w,cnt $x `e `f $y $z,bh<|70 $x<|36 $y,F.ok $x (λvs H Q E h=>$y) λZ9 A outer s H vs Q E hr h=>$z,$x->$y->Res $z,79 $x<|79 $y $z,0 (h'.get? $x) $y,starEach $x `D,11 $x Gx,$x<=sizeLine,ao (Er:=Er) $x $y,87 $x $y $z<|79 $u<|19 $v,ar (fF $x) $y,bM $x $y (rs $z) $u,ma.bind λa=>$x,Res<|List $x,aq (λ_=>$x) $y,aY $x (47 $y) $z,RelV $x u,a5 (pv $x) $y,bV $x `e `f $y $z,hf $x<|ch $y $z,$x->$y->$z->Prop,ae (cO $x $y)<|ae $z $u,cW $x<|65 $y $z $u,102 `r $x $y $z $u $v,GD $x `a,ai $x `T $y $z $u,.str<|sOf $x,`bk+$x,0 (mg $x)<|.ref $y,bw $x `T $y $z,102 `S $x $y $z $u $v,Same W.G $x,$x<=100000,0 (X.env.cells.lookup $x) $y,cS $x `e `f $y $z $u,bu $x $y `g,js $x $y `e `f $z,Vals $x us,($x)++b.extract $y $z,bF $x `T $y $z $u,57 (model $x $y) $z $u $v $w,(($x).trans $y).trans $z,λ_=>okR $x,bK (K:=K) $x $y,gV $x $y `e `f $z,14 $x λa ka x W2 e2 hx=>$y,λW1 e1 Q k=>ha $x $y $z $u,tupleKeyHash knd $x,hf $x `g,(`v).extract $x $y,∀b∈fp,FpOk $x $y $z $u,bQ (K:=K) $x $y $z $u,ub $x `b,dF $x $y<|.lst $z,.inl ⟨($x),$y⟩,`ba+$x,mb.bind λb=>$x,cu (Er:=Er) $x $y,bL (K:=K) $x,$x=`t,t.place.getD $x 0,.Call (.Name $x $y) $z $u $v,backTo $x<|67 $y,0 (($x).get? $y) $z,bD (K:=K) $x,(hs.2 $x $y).trans $z,absurd (GF $x $y) $z,cb (Er:=Er) $x $y $z $u $v $w,bR `b $x,no $x `g,b3.extBut _ $x $y $z,⟨by simp[Keep,bU],$x⟩,λW1 e1 Q k=>h $x $y $z $u,absurd $x `b,0 (X.base.get? $x) $y,cE $x λv s1 zz=>$y,HH $x `g $y,Ki $x $y $z $u .ellipsis,∀b∈fp,7 $x,OpR $x (compareOp $y) $z,0 (K.lookup $x) $y,14 $x λa ka v W2 e2 hv=>$y,hB' $x `b,$x≠X.env.locals,Jb $x mainGlobals $y,0 (X.env.scope.names.lookup $x) $y,∀x∈scope.names,$x->$y,SqT $x $y $z [.int k.1,.int k.2],`bk<=$x,14 $x λb kb y W3 e3 hy=>$y,envOfC $x $y `bk $z $u,0 (X.s₀.heap.get? $x) $y,cellsFrom $x scope.names $y,I1.fpOk $x<|I1.hok.fresh $y,($x).eraseIdxIfInBounds<|($y)+$z,0 (env.cells.lookup $x) $y,foldedSetIterable iter $x $y,cE $x λus s1⟨vs,H1,I1,r1,q1⟩=>$y,∀Q:Option Int->Hp->Prop,$x->$y,∀(i:Nat)(Z_:List (Addr×Obj))(s:Gx)(Z:St)(H:Hp)(E:Gu->Gx->Prop),20 $x $y $z $u $v,∀(i:Nat)(q:(Int×Int)×V)(x:(Int×Int)×S),$x->$y->$z]);match l.raw[1].getSepArgs[n]? with|some r=>pure r|none=>Macro.throwUnsupported
open Lean in
set_option hygiene false in
local macro_rules|`($x:quotedName)=>match x.raw[0].isNameLit? with|none=>Macro.throwUnsupported|some n=>do let l<-`([rfl,by omega,Int,base,loose,bound,by simp,List Pl,s.heap,none,strip,Rp S,`c×`c,38 X Z H s,true,a.size,qA K,prog,.refl _,xs.length,b.size,arrOf st,GC _,Res Bool,List Str,List S,68 Gu,Gv ?_,scope,X.env,List V,Array GR,outer,Res `c,Res Tx,aV a0,false,e1.trans e2,Option Gu,6 Addr Obj,.ref p,List `c,ak t s c,List Addr,X.prog,by rfl,l.prog,x.length,arrOf st',.inl `a,.refl W0,39 W0,tablet,"tablet",by decide,es.size,Option Nat,List Expr,l.length,λ_ _=>`a,.ref a,xs.size,"loose","bound",e2.trans e3,.ref it,aR (K:=K) `a,Card t,List Gu,6 `c `c,Res S,Gp hq,42 `a,49 Nat,uu _ `b,ua _ `b,out.push x,Rp β,qB K,qC K,⟨`ac,`ac⟩,pv 1,pv 0,75 S,pre.length,Option `c,.ref C,Mono R,vs.length,Res β,model `S X.w,Gn ?_,a0.length,strip.length,"_law_card_here",Gw `K,.ref b,aV a1,.ref z,aG (K:=K) `a,Option Addr,Z3 `a,75 `c,Z4 ⋯,s1.heap.objs.size,E0.trans e2,λQ q=>?_,.ref x,.ref D,pendingOf st',isTurn c,ps.length,.type "list",its.toArray,s.heap.objs.size,Z4<|by simpa using z,λb hb=>?_,s2.heap.objs.size,.type "tuple",Array Gu,.inr `a,List Nat,"_law_strip",defScope st,I.ok.hd hc,λ_ _=>False,1 X.calm,"_law_cell",Z4 `b,pendingOf st,List Env,1 `K,by simpa using hb,"StopIteration","_law_loose","_law_bound",λx hx=>?_,λ_=>False,.builtin "object.__class__",Z3<|by simpa using z,s.heap.push o1,by simpa using h,t.probeStart h,e3.trans e4,E0.trans a4,["tablet","strip","loose","bound"],Gy "__next__",λ_ _ _ _=>dz,mem_onw.mp hc,by simpa using e,["_law_card_here","_law_turn"],["_law_found","_law_due"],λ_ _ h'=>h'.elim,by simpa using hl,.ref `bk,λb o e n hb hx=>?_,decide_eq_true z,["tablet","turn"],X.s₀.heap.objs.size,["_law_card_here","_law_turns_here"],["_law_cell","_law_many","_law_base"],.builtin "getset_descriptor.__get__","BaseException.__getattribute__",["_law_cell","_law_many"],["tablet","state","turn","mark"]]);match l.raw[1].getSepArgs[n.toString.toList.foldl (λa c=>a*52+(if c<'a' then c.toNat-38 else c.toNat-96)) 0-1]? with|some r=>pure r|none=>Macro.throwUnsupported

theorem Z4{c:Prop}{h:Decidable c}(n:¬c){S:Sort u}{t e:S}:ite c t e=e:=if_neg n
theorem Z3{c:Prop}{h:Decidable c}(n:c){S:Sort u}{t e:S}:ite c t e=t:=if_pos n
open And renaming intro->Pq
open Array renaming getElem?_toList->GP,getElem?_eq_getElem->Hb,length_toList->HC,getD_eq_getD_getElem?->HS,toList_append->HV,getElem?_eq_some_iff->HZ,toList_push->JS,getD->JU,getElem?_eq_none->KG,toList_setIfInBounds->La,getElem?_setIfInBounds_ne->LV,toList_eraseIdxIfInBounds->LW,toList_reverse->Mg,size_setIfInBounds->Na,replicate->NI,mem_toList_iff->O0,forIn_toList->OT,toList_map->Pw,toList_inj->Py,toList->R9
open Bool renaming false_ne_true->GL,false_eq_true->Hg,and_eq_true->IF,eq_iff_iff->Jz,not_true->KO,true_and->Lp,not_false->MK,not_eq_true'->N2,or_eq_true->PN,false_and->Q3
open Classical renaming not_forall->Me,byContradiction->MN,not_imp->MW
open False renaming elim->J5
open ForInStep renaming done->Hs,yield->HB
open Int renaming emod_lt_of_pos->Hh,emod_nonneg->Hx,toNat_natCast->Ia,toNat_of_nonneg->Mq,le_refl->Oj,emod_eq_of_lt->Pg,zero_add->Rf,ediv_one->Rg,add_zero->Rh
open List renaming getElem?_eq_some_iff->GA,getElem?_eq_getElem->GB,mem_cons->GI,getElem?_map->GK,size_toArray->GN,mem_cons_self->GO,mem_cons_of_mem->GS,mem_of_getElem?->H9,not_mem_nil->Hc,mem_append_right->Hd,getElem?_append_right->He,append_assoc->Hj,map_cons->Hm,length_map->Ho,getElem?_append_left->Hr,mem_append->HA,length_append->HG,mem_map->HK,forall_mem_cons->HM,getElem?_take_of_lt->HW,nodup_iff_pairwise_ne->I9,Nodup->Ig,getElem?_eq_none->Ij,drop_eq_getElem_cons->Il,append_nil->Im,nodup_cons->Io,pairwise_append->Iu,range->Iw,getElem?_drop->Iy,getD_eq_getElem?_getD->IH,getElem?_eq_none_iff->IJ,getElem?_cons_succ->IZ,getElem_mem->J9,length_cons->Ja,ext_getElem?->Jh,sum_cons->Jm,find?_cons->Jo,mem_singleton->Jq,lookup_cons->Jr,getElem?_cons_zero->Js,replicate->Ju,filterMap_cons->Jy,length->JA,length_zip->JB,pairwise_iff_getElem->JC,all_eq_true->JF,mem_reverse->JG,map_map->JK,mem_append_left->JN,mem_iff_getElem->JP,getElem?_range->JW,getElem?_set_self->JX,take_of_length_le->K0,length_take->K8,length_drop->K9,getElem?_reverse->Kf,perm_append_comm->Kg,getElem?_zip_eq_some->Kj,of_mem_zip->Kk,nil_append->Kl,pairwise_map->Kn,length_eq_zero_iff->Ks,zipIdx_cons->Kt,drop_length->Ku,map_nil->KC,drop_eq_nil_of_le->KD,pairwise_cons->KH,forIn_cons->KJ,length_singleton->KR,mem_iff_getElem?->KU,mem_range->L6,forIn_nil->L8,length_erase_of_mem->Ln,zipIdx_nil->Lr,length_nil->Ls,mem_filterMap->Lu,set_cons_zero->Lz,pairwise_singleton->LC,nodup_nil->LQ,mem_of_mem_erase->LX,length_filter_le->M0,cons_append->M4,any_cons->M7,getElem?_set_ne->Ma,foldl_cons->Mk,length_reverse->Mp,drop_zero->Mz,zip_cons_cons->MI,set_cons_succ->MJ,mem_or_eq_of_mem_set->MP,length_range->MX,filterMap_cons_some->N9,pairwise_mergeSort->Nf,pairwise_lt_range->NA,mem_filter->ND,getElem?_zipWith->NP,take_append_drop->NQ,mem_of_mem_drop->Oe,mem_of_mem_take->Of,length_eraseIdx->Oi,mergeSort_perm->Oq,findSome?_cons->Ot,reverse_append->Oz,lookup_append->OP,contains_cons->OR,reverse_cons->P8,nodup_append->Pe,perm_middle->Px,map_snd_zip->Pz,length_set->PL,map_append->PR,drop_drop->Qa,all_cons->QH,take->QY,sum_nil->Ri,map_id->RD,headD->S0,map->Si
open List.Nodup renaming not_mem_erase->Lm,length_le_of_subset->M6
open List.Pairwise renaming nil->KY,filter->RF,map->S7
open List.Perm renaming append_right->IK,append_left->IW,eq_of_pairwise->N7
open List.cons renaming inj->KQ,injEq->NK
open Nat renaming le_refl->GC,lt_of_lt_of_le->GF,ne_of_lt->GY,zero_le->Hq,lt_irrefl->HI,le_add_right->HU,le_trans->Ip,ne_of_gt->JY,zero_add->K7,le_of_lt->Lf,lt_succ_self->Lh,sub_self->LN,le_succ->Md,mod_lt->MF,add_sub_cancel->ML,lt_succ_of_lt->MT,le_succ_of_le->MY,lt_trans->Nv,div_div_eq_div_mul->Nz,reduceAdd->OF,reduceSub->OG,lt_or_ge->Pf,div_eq_of_lt->Pu,strongRecOn->PQ,not_lt_zero->PX,add_assoc->QQ
open Ne renaming symm->JI
open Option renaming map_eq_some_iff->HX,map_some->KL,getD_some->M3,ne_none_iff_exists'->MC,isSome_iff_exists->N3,getD_none->Nd,bind_eq_some_iff->Nh,bind_some->Ni,isSome->OC,isSome_some->ON,map->RY
open Option.some renaming inj->Ha,injEq->N1
open Or renaming inr->Lv,inl->LM
open Prod renaming ext->ME
open Prod.mk renaming injEq->QU
open PyProof.Rows renaming boot_isinstance->Gz,wpS_bind->GH,wpS_pure->GQ,Keyed->GR,callWith_type1->Ie,wpS_forRange->IB,boot_bool->IL,boot_int->IX,SortSt->Jf,wpS_modify->Jp,boot_list->Jx,boot_tuple->JT,boot_str->Kh,wpS_mono->Kw,mem_zip_self->Lj,boot_sorted->Lo,wpS_get->LP,boot_abs->LY,boot_max->LZ,SortKind->Mf,AllBare->Ms,wpS_lift->Nk,subscriptTail_builtinR->Nr,boot_all->NV,boot_sum->NW,slot_tupleiter_next->Oy,listUpdate_at->OE,Subscript_->OL,IntsAre->P4,callWith_builtin1->Po,seqEpoch_at->PH,Call_->QW,tail_any->Rx,boot_zip->RC,TupTab->RH,IsTup->S5
open PyProof.Rows.SortSt renaming mk'->Lc
open PySem renaming wpAny_bind->Gn,Value->Gu,wpAny_pure->Gv,Shared->Gx,Program->GJ,FuncData->GV,World->GW,wpAny_field->Hf,Around->Hk,wpAny_callSpecial?_slot->Hu,wpAny_call_entry->Hv,wpAny_seqItems->Hy,wpAny_setField_rec->HH,boot_len->HJ,wpAny_holding->HN,wpAny_newObj_type->HR,Spec->Ib,wpAny_mono->Ic,sizeLine_eq->Iq,wpAny_setField->Ir,SetTable->ID,wpAny_isInstance->IG,wpAny_passesOwn->IM,wpAny_attempt->IU,Builtin->J4,wpAny_rule->J7,mem_of_lookup->Jd,wpAny_setState_of->Ji,wpAny_onRaise->Jk,isSubtype_stop->Jl,DictEntry->JE,wpAny_standAt->JJ,wpAny_comprehension_free->JM,wpAny_typeNameOfWhole_keyiter->JQ,Scope->Ka,IsTupleKey->Kc,IsZip->Ki,wpAny_truthy_bool->Km,wpAny_typeNameOf_keyiter->Ko,NameKind->Kr,wpAny_askSetting->Kv,wpAny_letGo->Ky,wpAny_Call_Name_kw->Kz,wpAny_execs_nil->KI,IsPair->KS,wpAny_isSame_ref_self->KW,wpAny_updateSeq_pair->L9,codeAny_mono->Lg,wpAny_pyIter_zip->Li,wpAny_letOwnedTupleGo_zip->Lk,wpAny_specialOf->Lq,slot_listiter_next->Lx,wpAny_pyIter_rangeiter->LG,wpAny_pyIter_list->LH,wpAny_pyIter_slot->LO,pushCells_keeps->Ml,wpAny_ite_split->Mm,wpAny_setEntries_of->Mr,Model->Mv,wpAny_newFunctionEnv_cells->My,wpAny_fieldsOf->MH,slot_list_getitem->MS,wpAny_of_eq->MV,wpAny_dictEntries->MZ,wpAny_getItem_list_slice->N5,wpAny_handled->N6,Comprehension->N8,wpAny_eqBool_int->Nc,wpAny_forIn_list->Nj,wpAny_pyNext_list_item->Nm,wpAny_pyNext_range_end->Np,wpAny_call->Nq,Keyword->Nt,wpAny_Call_method_late->Nu,signature?_of->NH,wpAny_dictEpoch->NJ,codeAny_call_function->NL,builtinLookup_eq_fast->NR,wpAny_isOneOf_keyiter->NT,wpAny_loadName_local->NX,IsRangeIter->NY,sliceRange_one->O8,wpAny_throw->Ob,wpAny_newTuple->Od,codeAny_call_builtin->Og,isSubtype_type->Oh,BindsTo->Ol,wpAny_loadName_cell->Om,codeAny_forLoop_any->Oo,wpAny_isSubtype_exc->Ov,entry_listiter_next->Ox,evalPart_none->OA,wpAny_pyIter_ascii->OO,args_listiter_next->OS,tupleKind_room_in1->OU,wpAny_assign_Name->OX,seqIndex_neg->P5,wpAny_pyIter_wide->P6,wpAny_pyIter_enum->P7,wpAny_loadPart_at->P9,wpAny_storeSet_of->Pb,wpAny_execs_cons->Pm,seqIndex_of->PD,typeLookup_type->PU,StrKeys->PZ,wpAny_Name->Q2,Result->Q4,typeIs_str->Q5,call->Q6,entryFor_alias->Qb,intBits_le_64->Qt,call_list_seq->QI,eval_ListComp->QJ,wpAny_newList->QR,PassesOwn->QV,Within->R8,CellsOk->Rc,Operator->Ru,putAt->RE,Params->RW
open PySem.Around renaming frames_deeper->O1
open PySem.Builtin.Dict renaming showsAll->NS,dictSlotNone->Qr
open PySem.Builtin.Dict_items renaming ownsTuple->Mn
open PySem.Builtin.Frozenset renaming oneOther->Qc,sizeOf->QP,addrOf->QS,slot0->R7
open PySem.Builtin.List renaming listLengthHint->Mt
open PySem.Builtin.Range renaming rangeFitsLong->IA,rangeSize->IE,rangeFields->MO
open PySem.Builtin.SmallTypes renaming nextOf->GX,ownedTupleIsFree->Hn,ownedTupleHandOut->Je,refuseKeywords->OW
open PySem.Builtin.Str renaming strSliceIndices->Jt,occurrences->LB,tooLong->RQ
open PySem.Calls renaming Name_function_global->Mw,evalArgs_plain->O9,spliced_cons->OJ,spliced_nil->P0
open PySem.Challenge renaming rw_wornband_k32_whole_numbering->Jj,pw_wornband_k32_whole_numbering->N0
open PySem.Data renaming cell->KN,fields->Mb,seq->Oa
open PySem.EntryCells renaming newEntry->Ou
open PySem.EqMixed renaming eq_bool_str->Qk,eq_str_bool->Ql,ne_bool_str->Qp,ne_str_bool->Qq,eq_int_str->Qy,eq_str_int->QA,ne_int_str->QE,ne_str_int->QG
open PySem.EqNone renaming eq_none_none->Qh,eq_none_bool->Qi,eq_bool_none->Qj,ne_none_none->Qm,ne_none_bool->Qn,ne_bool_none->Qo,eq_none_int->Qu,eq_none_str->Qw,eq_int_none->Qx,eq_str_none->Qz,ne_none_int->QB,ne_none_str->QC,ne_int_none->QD,ne_str_none->QF
open PySem.F renaming slot_zip_next->Ih,slot_dict_keyiterator_next->IS,slot_tuple_iterator_next->Jv,args_zip_next_1->JR,entry_zip_next->K1,args_tuple_iterator_next_1->Lw,entry_tuple_iterator_next->LF,args_dict_keyiterator_next_1->M5,entry_dict_keyiterator_next->Mh,slot_dict_keyiterator_iter->Mo,excAttr_ValueError->MD,slot_dict_getitem->MM,plainAttrs_str->Nw,slot_list_append->NM,entry_zip_new->NO,slot_range_reversed->NU,called_zip->OQ,slot_dict_iter->PC,slot_set_iter->PV
open PySem.Heap renaming get?_push_of_some->Gs,get?_push_size->GD,lt_size->GG,SameBut->GU,get?_update_other->Ht,get?_update_self->HP,size_push->HQ,ExtBut->Jg,get?_none_of_le->M8,size_update->Ng,get?_push_ne->Pd
open PySem.Heap.IsSliceOf renaming new->OM
open PySem.Heap.Ns renaming new->RB
open PySem.Heap.SameBut renaming update->Ik
open PySem.Heap.SetOf renaming objOf->Sb
open PySem.IsRange renaming new->Rv
open PySem.NameKind renaming free->IT,cell->OB
open PySem.Obj renaming mapFields->HY,data_mapFields->J6,isFreed_of_fields->JD,mapSeq->Kb,putSet->MG,cls_mapFields->MU
open PySem.PassesOwn renaming never->Hw
open PySem.PyData renaming keyHash->Mj
open PySem.SeqAt renaming EqAt->RT
open PySem.SeqAt.EqAt renaming int_str->OH,str_int->OI,none_bool->Ry,bool_none->Rz,bool_bool->RA,none_int->RI,none_str->RJ,bool_int->RK,bool_str->RL,int_none->RM,int_bool->RN,str_none->RO,str_bool->RP,int_int->RU,str_str->RV,same->Sh
open PySem.SeqAt.RcAt renaming lists_lengths->QT,lists->Sd
open PySem.SeqAt.RcNeAt renaming lists_lengths->Qe,lists->RZ
open PySem.SetTable renaming leap->Hz,bits->HE,runEnd->HL,below->IQ,insertAt->IY,turns->J8,grown->Lb,sizeAbove->Ly,fill->OD,has->Pa,fresh->Qd,slot->QM,laid->QN,fits->QO
open PySem.SetTable.below renaming go->KZ
open PySem.SetTable.layClean renaming free->Jw
open PySem.SetTable.probe renaming go->L5
open PySem.Str renaming ofString->Gy,empty->QX,length->RS
open PySem.Txt renaming find->MA,slice->Pp,mul->S6
open PySem.Value renaming ref->GZ,none->Hl,type->M1,int->Nb,str->Pk,bool->Q0,isStrOf->Qs,builtin->QL,isInt->Rm,float->Rr
open PySem.Value.ref renaming inj->QK
open PySem.W renaming Frag->Gr,kitOne->HD,mg_of->HF,kia_one->IP,nsIn->Jb,keepIn->JO,fnOf->JZ,cellsFrom_some->KA,InstAt->LJ,findIn->LK,codeIn->LL,OpenLaw->Mc,callWith_K->Mx,methodObj->MQ,specialIn->MR,looks_findIn->Ny,instObj->NC,takesIn->NF,lookIn->NZ,codeRec_of->OK,kitx_list->OY,kitx_dict->OZ,plainGet->Pn,looks_mroIn->PF,kitMeta->PM,WalkO->PY,looks_find->Q7,notCls->Q8,class_get->QZ
open PySem.W.WData renaming int->Sa
open PySem.W.WShape renaming has->RX
open PySem.pickOrder renaming go->Pc
open Sum renaming inl->Kp,inr->Kq
open Sum.inl renaming inj->Ro
open Sum.inr renaming inj->Rq
open True renaming intro->L7
set_option Elab.async false
set_option linter.all false
set_option maxRecDepth 100000
namespace L2
open PySem PySem.Spec PyProof.Rows
abbrev Key:=Sum `c Str
def ij:Key->Gu->Bool
 | .inl k,v=>Rm k v
 | .inr x,v=>Qs x v
def vT(w:GW):Key->`c
 | .inl k=>hashInt k
 | .inr x=>hashStr w x
theorem cN:∀{k:Key}{v:Gu},1 (ij k v)->(∃i t,k=Kp i/\v=Nb i t)\/(∃x t,k=Kq x/\v=Pk x t)
 | .inl i,v,h=>by
  obtain⟨t,e⟩:=Value.isInt_shape (k:=i) (v:=v) h;exact .inl ⟨i,t,`a,e⟩
 | .inr x,v,h=>by
  obtain⟨t,e⟩:=Value.isStrOf_shape (x:=x) (v:=v) h;exact .inr ⟨x,t,`a,e⟩
theorem iO(i:Int)(t:Tok):1 (ij (.inl i)<|.int i t):=by simp[ij,Rm]
theorem iP(x:Str)(t:Tok):1 (ij (.inr x)<|.str x t):=by simp[ij,Qs]
theorem B9(a b:Int):decide ((Kp a:Key)=Kp b)=(a==b):=by
 by_cases e:a=b;·subst e;simp
 ·have h:¬(Kp a:Key)=Kp b:=λq=>e (Ro q);rw[decide_eq_false h];exact(beq_eq_false_iff_ne.mpr e).symm
theorem Ba(a b:Str):decide ((Kq a:Key)=Kq b)=decide (a=b):=by
 by_cases e:a=b;·subst e;simp
 ·have h:¬(Kq a:Key)=Kq b:=λq=>e (Rq q);rw[decide_eq_false h,decide_eq_false e]
theorem Bb(a:Int)(b:Str):decide ((Kp a:Key)=Kq b)=false:=decide_eq_false (λq=>nomatch q)
theorem Bc(a:Str)(b:Int):decide ((Kq a:Key)=Kp b)=false:=decide_eq_false (λq=>nomatch q)
def mixKind(prog:GJ)(w:GW):PySem.KeyKind prog w Key where
 is:=ij
 hash:=vT w
 inj:=λv a b ha hb=>by
  rcases cN ha with⟨i,t,rfl,rfl⟩|⟨x,t,rfl,rfl⟩
  ·rcases cN hb with⟨j,u,rfl,e⟩ | ⟨y,u,rfl,e⟩
   ·injection e with e1 _;rw[e1]
   ·exact nomatch e
  ·rcases cN hb with⟨j,u,rfl,e⟩ | ⟨y,u,rfl,e⟩
   ·exact nomatch e
   ·injection e with e1 _;rw[e1]
 byValue:=λk v h=>by
  rcases cN h with⟨i,t,rfl,rfl⟩|⟨x,t,rfl,rfl⟩<;>rfl
 pyHash:=λhv h=>by
  rcases cN hv with⟨i,t,rfl,rfl⟩|⟨x,t,rfl,rfl⟩
  ·exact wpAny_pyHash_int h
  ·exact wpAny_pyHash_str h
 eqBool:=λhu hv h=>by
  rcases cN hu with⟨i,t,rfl,rfl⟩|⟨x,t,rfl,rfl⟩
  ·rcases cN hv with⟨j,u,rfl,rfl⟩ | ⟨y,u,rfl,rfl⟩
   ·rw[B9]at h;exact Nc h
   ·rw[Bb]at h;exact OH i t y u _ _ _ _ h
  ·rcases cN hv with⟨j,u,rfl,rfl⟩ | ⟨y,u,rfl,rfl⟩
   ·rw[Bc]at h;exact OI x t j u _ _ _ _ h
   ·rw[Ba]at h;exact wpAny_eqBool_str h
 «strs»:=λk x t v h=>by
  rcases cN h with⟨i,u,rfl,e⟩|⟨y,u,rfl,e⟩
  ·exact nomatch e
  ·injection e with e1 _;subst e1;cases v<;>rfl
theorem pA(prog:GJ)(w:GW)(i:Int)(t:Tok):1 ((mixKind `r w).is (.inl i)<|.int i t):=iO i t
theorem pD(prog:GJ)(w:GW)(x:Str)(t:Tok):1 ((mixKind `r w).is (.inr x)<|.str x t):=iP x t
inductive V where
 |non|bl (b:Bool)|int (i:Int)|str (x:Str)|byt (b:Array UInt8)|flt (b:UInt64)|ref (a:Addr)|ty (n:String)
 deriving DecidableEq
def RelV:11 V Gu
 | .non,u=>u=Hl
 | .bl b,u=>u=Q0 b
 | .int i,u=>∃t,u=Nb i t
 | .str x,u=>∃t,u=Pk x t
 | .byt b,u=>∃t,u=Value.bytes b t
 | .flt b,u=>∃t,u=Rr b t
 | .ref a,u=>u=GZ a
 | .ty n,u=>u=M1 n
abbrev Vals:11 `E `aq:=Paired RelV
theorem Vals.length{xs:`E}{us:`aq}(r:99 xs):`t=us.length:=Paired.length r
theorem Vals.get:∀{xs:List V}{us:List Gu}{i:Nat}{x:V},99 xs->0 xs[i]? x->∃u,0 us[i]? u/\78 x
 |_,_,_,_,.nil,e=>by simp at e
 |_,_,0,_,.cons r _,e=>by simp at e;subst e;exact 8 `a r
 |_,_,i+1,x, .cons _ t,e=>by
  obtain⟨u,h1,h2⟩:=Vals.get (i:=i) (x:=x) t `bT;exact⟨u,by simpa using h1,h2⟩
theorem Vals.set{x:V}{u:Gu}(r:78 x):∀{xs:List V}{us:List Gu}(i:Nat),99 xs->Vals (xs.set i x) (us.set i u)
 |_,_,_,.nil=>.nil
 |_,_,0,.cons _ t=>.cons r t
 |_,_,i+1,.cons q t=>.cons q (Vals.set r i t)
theorem Vals.append:∀{xs ys:List V}{us ws:List Gu},99 xs->Vals ys ws->Vals (xs++ys) (us++ws)
 |_,_,_,_,.nil,s=>s
 |_,_,_,_,.cons r t,s=>.cons r (Vals.append t s)
theorem Vals.take:∀{xs:List V}{us:List Gu}(n:Nat),99 xs->Vals (xs.take n) (us.take n)
 |_,_,0,_=>.nil
 |_,_,_+1,.nil=>.nil
 |_,_,n+1,.cons r t=>.cons r (Vals.take n t)
theorem Vals.drop:∀{xs:List V}{us:List Gu}(n:Nat),99 xs->Vals (xs.drop n) (us.drop n)
 |_,_,0,r=>r
 |_,_,_+1,.nil=>.nil
 |_,_,n+1,.cons _ t=>Vals.drop n t
def RelO:11 (Option V) `M
 |some v,some u=>78 v
 |none,none=>True
 |_,_=>False
def KV{κ:Type}:11 (6 κ V) (6 κ Gu):=Paired λ(p:κ×V)(q:κ×Gu)=>p.1=q.1/\RelV p.2 q.2
def kV:Key->V
 | .inl i=>.int i
 | .inr x=>.str x
inductive HO where
 |lst (xs:`E)
 |tup (xs:`E)
 |dK (kvs:6 Key V)|dT (kvs:6 (List Key) V)
 |set (Z1:`c->Bool) (n:Nat)
 |ins (C dx:Addr) (fs:6 Str V)
 |own (x:Addr)
 |xd (fs:6 Str V)
 |met (f x:Addr)
 |rng (lo hi:Int)
 |frz (o:Obj) (u:HO)
 |tbl (ps:`bp)
 |ext (φ:49 Heap)
abbrev Hp:=Addr->Option HO
def dF(H:Hp)(a:Addr)(o:HO):Hp:=λb=>if b=a then some o else H b
theorem aS{H:Hp}{a:Addr}{o:HO}:0 (dF H a o a) o:=by unfold dF;rw[`aX]
theorem aH{H:Hp}{a b:Addr}{o:HO}(h:b≠a):dF H a o b=H b:=by unfold dF;rw[Z4 h]
theorem df{H:Hp}{a b:Addr}{o:HO}(h:21 a o)(h':41 b):a≠b:=by
 intro e;subst e;rw[h]at h';cases h'
def IsTupD(h:Heap)(a:Addr)(items:`bp):Prop:=∃o,35 a o/\(o.cls=`bo/\7 o.dict)/\∃n,o.data=.seq items n
theorem IsTupD.tup{h:Heap}{a:Addr}{items:`bp}(t:IsTupD h a items):S5 h a items:=let ⟨o,e,c,n,d⟩:=t;⟨o,e,c.1,n,d⟩
theorem IsTupD.new(h:Heap)(items:`bp):IsTupD (h.push {cls:=`bo,data:=.seq items}) h.objs.size items:=⟨_,86 h,15 `a,0,`a⟩
section
variable(P:GJ)(w:GW)
def ObjOk(H:Hp)(h:Heap)(a:Addr):49 HO
 | .lst xs=>xs.length<=sizeLine/\∃(its:`aq)(n:Nat),Vals xs its/\h.get? a=some {cls:=`bi,data:=.seq `bj n}
 | .tup xs=>69 `t/\∃its:List Gu,Vals xs its/\IsTupD h a `bj
 | .dK kvs=>69 kvs.length/\12 (a==sysModules)/\∃vs,KV kvs vs/\h.DictOf (mixKind P w) a vs
 | .dT kvs=>69 kvs.length/\12 (a==sysModules)/\∃xs:List (List Key×Addr×Gu),Paired (λ(p:List Key×V)(q:List Key×Addr×Gu)=>2 p.1 q.1 (21 q.2.1<|.tup<|p.1.map kV)<|RelV p.2 q.2.2) kvs xs/\∃o es ep,35 a o/\o.ExactDict/\2 o.data (.dict es ep) (es.toList=xs.map (entryOfKey<|tupleKind<|mixKind P w)) (xs.map (·.1)).Nodup
 | .set Z1 n=>h.SetOf (intKind P w) a Z1 n
 | .ins C dx fs=>21 dx (.own a)/\fs.length<=1000/\dx≠a/\35 a (NC C dx)/\∃mA,h.Ns1 dx mA/\(∀f,RelO (fs.lookup f)<|mA f)/\R8 mA (fs.map (·.1))
 | .own _=>∃o,35 a o
 | .xd fs=>∃mA,h.Ns1 a mA/\∀f,RelO (fs.lookup f) (mA f)
 | .rng lo hi=>∃t u v,h.get? a=some {cls:=.type "range",data:=.fields #[.int lo t,.int hi u,.int 1 v]}
 | .frz o u=>35 a o/\ObjOk H h a u
 | .tbl ps=>h.get? a=some {cls:=.none,data:=.fields ps}
 | .met f x=>35 a (MQ (.ref f) `bd)
 | .ext φ=>φ h/\(∃o,35 a o)/\∀h1 h2:Heap,φ h1->(∀o,0 (h1.get? a) o->0 (h2.get? a) o)->φ h2
def HOk(H:Hp)(h:Heap):Prop:=∀a o,21 a o->ObjOk P w H h a o
end
section
variable{P:GJ}{w:GW}{H H':Hp}{h h':Heap}{a:Addr}{o:HO}
theorem ObjOk.lt(x:ObjOk P w H h a o):a<h.objs.size:=by
 cases o with
 |lst xs=>obtain⟨_,_,_,_,e⟩:=x;exact GG e
 |tup xs=>obtain⟨_,_,_,p⟩:=x;exact p.tup.lt
 |dK kvs=>obtain⟨_,_,_,_,o,_,_,e,_⟩:=x;exact GG e
 |dT kvs=>obtain⟨_,_,_,_,o,_,_,e,_⟩:=x;exact GG e
 |set Z1 n=>obtain⟨o,_,_,_,e,_⟩:=x;exact GG e
 |ins C dx fs=>obtain⟨_,_,_,e,_⟩:=x;exact GG e
 |own y=>obtain⟨_,e⟩:=x;exact GG e
 |xd fs=>obtain⟨_,⟨_,_,_,e,_⟩,_⟩:=x;exact GG e
 |rng lo hi=>obtain⟨_,_,_,e⟩:=x;exact GG e
 |frz ob u=>obtain⟨e,_⟩:=x;exact GG e
 |tbl ps=>exact GG (show 35 a _ from x)
 |met f y=>exact GG (show 35 a _ from x)
 |ext φ=>obtain⟨_,⟨_,e⟩,_⟩:=x;exact GG e
theorem Paired.mapP{S β:Type}{F G:11 S β}:∀{l₁:List S}{l₂:List β},Paired F l₁ l₂->(∀a b,F a b->G a b)->Paired G l₁ l₂
 |_,_,.nil,_=>.nil
 |_,_,.cons r t,f=>.cons (f _ _ r) (Paired.mapP t f)
theorem ObjOk.stay(x:ObjOk P w H h a o)(k:∀b u,b=a\/21 b (.own a)->35 b u->66 b u)
  (ho:∀b,21 b (.own a)->0 (H' b) (.own a)) (ht:∀b xs,21 b (.tup xs)->0 (H' b) (.tup xs)):ObjOk P w H' h' a o:=by
 induction o with
 |lst xs=>obtain⟨z,its,n,r,e⟩:=x;exact⟨z,its,n,r,k _ _ `X e⟩
 |tup xs=>obtain⟨z,its,r,ob,e,c⟩:=x;exact⟨z,its,r,ob,k _ _ `X e,c⟩
 |dK kvs=>obtain⟨z,y,vs,r,ob,es,ep,e,c⟩:=x;exact⟨z,y,vs,r,ob,es,ep,k _ _ `X e,c⟩
 |dT kvs=>
  obtain⟨z,y,xs,r,ob,es,ep,e,c⟩:=x;exact⟨z,y,xs,Paired.mapP r λp q z=>⟨z.1,ht _ _ z.2.1,z.2.2⟩,ob,es,ep,k _ _ `X e,c⟩
 |set Z1 n=>obtain⟨ob,es,ep,t,e,c⟩:=x;exact⟨ob,es,ep,t,k _ _ `X e,c⟩
 |ins C dx fs=>
  obtain⟨d,z,ne,e,mA,⟨od,es,ep,e2,c⟩,r⟩:=x;exact⟨ho _ d,z,ne,k _ _ `X e,mA,⟨od,es,ep,k _ _ (.inr d) e2,c⟩,r⟩
 |own y=>obtain⟨ob,e⟩:=x;exact⟨ob,k _ _ `X e⟩
 |xd fs=>obtain⟨mA,⟨od,es,ep,e,c⟩,r⟩:=x;exact⟨mA,⟨od,es,ep,k _ _ `X e,c⟩,r⟩
 |rng lo hi=>obtain⟨t,u,v,e⟩:=x;exact⟨t,u,v,k _ _ `X e⟩
 |frz ob u ih=>obtain⟨e,q⟩:=x;exact⟨k _ _ `X e,ih q⟩
 |tbl ps=>
  have e:h.get? a=some {cls:=.none,data:=.fields ps}:=x;show h'.get? a=some {cls:=.none,data:=.fields ps};exact k a _ `X e
 |met f y=>
  have e:35 a (MQ (.ref f)<|.ref y):=x;show 66 a (MQ (.ref f)<|.ref y);exact k a _ `X e
 |ext φ=>obtain⟨p,⟨o,e⟩,st⟩:=x;exact⟨st _ _ p λo q=>k _ _ `X q,⟨o,k _ _ `X e⟩,st⟩
theorem HOk.lt(x:HOk P w H h)(e:21 a o):a<h.objs.size:=(x a o e).lt
theorem HOk.fresh(x:HOk P w H h)(e:h.objs.size<=a):41 a:=by
 cases q:H a with
 |none=>rfl
 |some u=>exact 128 (x.lt q) e (HI _)
theorem HOk.kept(x:HOk P w H h)(k:∀b u,35 b u->66 b u):HOk P w H h':=λa o e=>(x a o e).stay (λb u _ q=>k b u q) (λ_ q=>q) λ_ _ q=>q
theorem HOk.laid(x:HOk P w H h)(k:∀b u,35 b u->66 b u)(hp:h.objs.size<=a)(new:ObjOk P w (dF H a o) h' a o):HOk P w (dF H a o) h':=λb u e=>by
 have hn:=x.fresh hp;by_cases hb:b=a;·subst hb;rw[aS]at e;cases e;exact new
 ·rw[aH hb]at e;exact(x b u e).stay (λc v _ q=>k c v q) (λc q=>by rw[aH (df q hn)];exact q) λc xs q=>by rw[aH (df q hn)];exact q
end
def Rd(H:Hp)(a:Addr)(u:HO):Prop:=21 a u\/∃o,21 a (.frz o u)
theorem Rd.ok{P:GJ}{w:GW}{H:Hp}{h:Heap}{a:Addr}{u:HO}(r:Rd H a u)(x:HOk P w H h):ObjOk P w H h a u:=by
 rcases r with r|⟨o,r⟩
 ·exact x a u r
 ·obtain⟨_,q⟩:=x a _ r;exact q
def CD:49 (Option HO)
 |some (.lst _)=>True
 |some (.dK _)=>True
 |some (.dT _)=>True
 |some (.set _ _)=>True
 |some (.ins _ _ _)=>True
 |some (.ext _)=>True
 |_=>False
section
variable{P:GJ}{w:GW}{H:Hp}{h h':Heap}{x e:Addr}{o':HO}
theorem HOk.write(ok:HOk P w H h)(mu:CD (H x))(he:e=x\/21 e (.own x))(k:∀b u,b≠e->35 b u->66 b u)(heo:∃u,66 e u)
  (new:ObjOk P w (dF H x o') h' x o'):HOk P w (dF H x o') h':=λb u q=>by
 have nown:∀c y,21 c (.own y)->c≠x:=λc y r z=>by subst z;rw[r]at mu;exact mu
 have ntup:∀c xs,21 c (.tup xs)->c≠x:=λc xs r z=>by subst z;rw[r]at mu;exact mu
 by_cases hb:b=x;·subst hb;rw[aS]at q;cases q;exact new
 ·rw[aH hb]at q;by_cases hbe:b=e
  ·have q':21 b (.own x):=by
    rcases he with z|z;·exact absurd (hbe.trans z) hb
    ·rw[hbe];exact z
   rw[q]at q';cases q';obtain⟨v,hv⟩:=heo;exact⟨v,by rw[hbe];exact hv⟩
  ·refine(ok b u q).stay (λc v hc r=>k c v ?_ r) (λc r=>by rw[aH (nown c b r)];exact r) λc xs r=>by rw[aH (ntup c xs r)];exact r
   rcases hc with rfl|hc;·exact hbe
   ·rintro rfl;rcases he with z|z;·exact nown c b hc z
    ·rw[hc]at z;cases z;exact hb `a
end
structure Un(fs ex:`R)(H H':Hp)(h h':Heap):Prop where
 keep:∀b o,20 (35 b o) (41 b) (b∉fs) (b∉ex) (66 b o)
 slot:∀b o,h.get? b=some o->H b=none->b∈fs->b∉ex->∃sl,h'.get? b=some {o with slots:=sl}
 free:∀b o,35 b o->41 b->b∉ex->7 (H' b)
 there:∀b o,35 b o->b∉ex->∃o',66 b o'
 tups:∀b xs,21 b (.tup xs)->0 (H' b) (.tup xs)
 frzs:∀b o u,21 b (.frz o u)->0 (H' b) (.frz o u)
 tbls:∀b ps,21 b (.tbl ps)->∃more,0 (H' b) (.tbl<|ps++more)
section
variable{fs fs' ex ex':`R}{H H1 H2:Hp}{h h1 h2 h':Heap}{a x e:Addr}{o:HO}
theorem Un.any(u:Un fs ex H H1 h h1){b:Addr}{ob:Obj}(q:35 b ob)(n:41 b)(hx:b∉ex):∃sl,h1.get? b=some {ob with slots:=sl}:=by
 by_cases hb:b∈fs;·exact u.slot b ob q n hb hx
 ·exact⟨ob.slots,u.keep b ob q n hb hx⟩
theorem Un.kept(k:∀b u,35 b u->66 b u):Un fs ex H H h h':=
 ⟨λb ob q _ _ _=>k b ob q,λb ob q _ _ _=>⟨ob.slots,k b ob q⟩,λ_ _ _ n _=>n,λb ob q _=>⟨ob,k b ob q⟩,λ_ _ q=>q,λ_ _ _ q=>q,λ_ ps q=>⟨#[],by rw[q];simp⟩⟩
theorem Un.refl:Un fs ex H H h h:=Un.kept λ_ _ q=>q
theorem Un.laid(k:∀b u,35 b u->66 b u)(hp:h.objs.size<=a)(hn:41 a):Un fs ex H (dF H a o) h h' where
 keep:=λb u q _ _ _=>k b u q
 slot:=λb u q _ _ _=>⟨u.slots,k b u q⟩
 free:=λb u q n _=>by rw[aH (GY<|GF (GG q) hp)];exact n
 there:=λb u q _=>⟨u,k b u q⟩
 tups:=λb xs q=>by rw[aH (df q hn)];exact q
 frzs:=λb u xs q=>by rw[aH (df q hn)];exact q
 tbls:=λb ps q=>⟨#[],by rw[aH (df q hn),q];simp⟩
theorem Un.write(mu:CD (H x))(he:e=x\/21 e (.own x))(k:∀b u,b≠e->35 b u->66 b u)(heo:∃u,66 e u):Un fs ex H (dF H x o) h h':=by
 have hx:∀b,41 b->b≠x:=λb n z=>by subst z;rw[n]at mu;exact mu
 have hb:∀b,41 b->b≠e:=λb n z=>by
  subst z;rcases he with r|r
  ·exact hx b n r
  ·rw[n]at r;cases r
 have hm:∀b u,H b=some u->¬CD (some u)->b≠x:=λb u q nm z=>by subst z;rw[q]at mu;exact nm mu
 refine⟨λb u q n _ _=>k b u (hb b n) q,λb u q n _ _=>⟨u.slots,k b u (hb b n) q⟩,λb u q n _=>by rw[aH (hx b n)];exact n,λb u q _=>?_,
  λb xs q=>by rw[aH (hm b _ q λz=>z)];exact q,λb u xs q=>by rw[aH (hm b _ q λz=>z)];exact q,λb ps q=>⟨#[],by rw[aH (hm b _ q λz=>z),q];simp⟩⟩
 by_cases hbe:b=e;·subst hbe;exact heo
 ·exact⟨u,k b u hbe q⟩
end
def gv(h:Heap)(H:Hp):`R:=(Iw h.objs.size).filter λa=>(H a).isSome
def o7(h:Heap)(H:Hp):Heap:=PySem.W.hideAll h (gv h H)
theorem um(h:Heap)(H:Hp):(o7 h H).objs.size=h.objs.size:=PySem.W.hideAll_size _ _
theorem vU{h:Heap}{H:Hp}{b:Addr}{o:Obj}(e:35 b o)(n:41 b):125 (o7 h H) b o:=
 PySem.W.hideAll_get _ e λhm=>by
  have q:1 (H b).isSome:=(ND.mp hm).2;rw[n]at q;simp at q
theorem yT{h:Heap}{H:Hp}{b:Addr}{o:Obj}(e:125 (o7 h H) b o):35 b o/\41 b:=by
 have e':35 b o:=PySem.W.of_hideAll (gv h H) e;refine⟨e',?_⟩;cases q:H b with
 |none=>rfl
 |some x=>
  have hm:b∈gv h H:=ND.mpr ⟨L6.mpr<|GG e',by simp[q]⟩;have z:7 ((o7 h H).get? b):=PySem.W.hideAll_none (gv h H) hm;rw[z]at e;cases e
structure Mod(K:Gr)(mg:Str->`M)(base:Heap):Prop where
 kin:K.In `d
 glob:base.Ns mainGlobals mg
 blt:∃mb,base.Ns builtinsNs mb/\∀x:Str,x≠"__name__"->mb x=bootBuiltins x
 nolimit:base.NoLimit
structure Cx where
 prog:GJ
 w:GW
 K:Gr
 mg:Str->`M
 base:Heap
 A:Hk
 N:`y
 s₀:Gx
 H₀:Hp
 env:Env
 outer:`bA
 stack:`bA
 ex:`R
 fn:Str->Bool
 calm:Bool
 pn:`N
 xe:`A
def frs(l:`bA):`R:=l.filterMap (·.frame)
abbrev Cx.fs(X:Cx):`R:=frs X.outer
def Vis(sc:Ka)(x:Str):Prop:=0 (sc.names.lookup x) .local\/0 (sc.names.lookup x) .cell\/0 (sc.names.lookup x) .free
def AF(sc:Ka)(x:Str):Prop:=0 (sc.names.lookup x) .local\/0 (sc.names.lookup x) .cell
def Look(env:Env)(h:Heap)(m:Str->`M)(x:Str)(u:Gu):Prop:=
 0 (env.kindOf x) .local/\0 (m x) u\/(0 (env.kindOf x) .cell\/0 (env.kindOf x) .free)/\∃c,157 x c/\h.IsCell c (some u)
structure Cx.Ok(X:Cx):Prop where
 mod:Mod X.K X.mg X.base
 kind:X.env.scope.kind=.function
 glob:X.env.globals=mainGlobals
 blt:X.env.builtins=builtinsNs
 above:`cc<=X.env.locals
 inj:∀x y c,95 x c->95 y c->x=y
 has:∀x,0 (X.env.kindOf x) .cell\/0 (X.env.kindOf x) .free->∃c,95 x c
 cab:∀x c,1 (X.fn x)->95 x c->`cc<=c
 hd:`bw->7 X.A.handled
 frames:0 X.A.frames X.stack
 stk:X.stack=X.outer\/X.stack=`D::X.outer/\0 X.env.frame X.env.locals
 exf:∀b∈X.ex,145 b/\∀x c,95 x c->c≠b
 bs:∀b o,136 b o->153 b o/\7 (X.H₀ b)
 bsz:X.base.objs.size<=`cc
 noex:∀b o,136 b o->b∉X.ex
 exfs:∀b∈X.ex,b∉X.fs
 funs:X.s₀.heap.FunFrames X.base X.outer
 frf:∀b∈X.fs,7 (X.H₀ b)
structure Inv(X:Cx)(Z_:`N)(Z:List (Option V))(H:Hp)(s:Gx):Prop where
 ok:X.Ok
 os:s.os=X.s₀.os
 bare:Ms s.gens
 base:Un X.fs X.ex X.H₀ H X.s₀.heap `i
 loc:∃m,s.heap.Ns X.env.locals m/\∀(i:Nat)(x:Str)(v:V),0 X.N[i]? x->58 Z[i]? v->Vis X.env.scope x->∃u,78 v/\Look `D `i m x u
 cell:∀x c,95 x c->∃v,s.heap.IsCell c v
 free:41 X.env.locals
 freeC:∀x c,95 x c->41 c
 pin:∀p∈X.pn++Z_,22 p.1 p.2/\41 p.1/\145 p.1/\p.1∉X.fs/\∀v,p.2.data≠.cell v
 hok:HOk `S X.w H `i
 len:Z.length=X.N.length
section
variable{X:Cx}{Z_:`N}{Z:List (Option V)}{H H':Hp}{s:Gx}{h':Heap}
theorem Cx.Ok.nofr(ok:X.Ok){b:Addr}{o:Obj}(e:136 b o):b∉X.fs:=λhb=>by
 have:=(ok.funs.mem hb).1;rw[e]at this;cases this
theorem Inv.bs(I:`n):∀b o,136 b o->22 b o/\41 b:=λb o e=>⟨I.base.keep b o (I.ok.bs b o e).1 (I.ok.bs b o e).2 (I.ok.nofr e)<|I.ok.noex b o e,I.base.free b o (I.ok.bs b o e).1 (I.ok.bs b o e).2<|I.ok.noex b o e⟩
theorem Inv.bk(I:`n):∀b o,136 b o->22 b o:=λb o e=>(I.bs b o e).1
theorem Inv.mod(I:`n):Mod X.K X.mg X.base:=I.ok.mod
theorem Inv.kIn(I:`n):X.K.In `i:=I.ok.mod.kin.keeps I.bk
theorem Inv.lt(I:`n):X.env.locals<`bk:=let ⟨_,hn,_⟩:=I.loc;hn.lt
theorem Inv.sz(I:`n):`cc<=`bk:=Ip I.ok.above (Lf I.lt)
theorem Inv.nofs(I:`n){a:Addr}(h:150 a):a∉X.fs:=λhb=>by
 obtain⟨_,o,ho,_⟩:=I.ok.funs.mem hb;exact 128 (GG ho) (Ip I.sz h) (HI _)
theorem Inv.cne(I:`n):∀x c,95 x c->145 c:=λx c e z=>by
 obtain⟨v,o,ho,hd⟩:=I.cell x c e;obtain⟨m,⟨o',es,ep,ho',hd',_⟩,_⟩:=I.loc;rw[z,ho']at ho;cases ho;rw[hd']at hd;cases hd
theorem Inv.funs(I:`n):s.heap.FunFrames X.base X.outer:=by
 have all:∀(l:List Env),(∀b∈frs l,b∈X.fs)->X.s₀.heap.FunFrames X.base l->s.heap.FunFrames X.base l:=by
  intro l
  induction l with
  |nil=>intro _ _;trivial
  |cons env r ih=>
   intro hs hl;obtain⟨hk,⟨L,o,hf,hn,ho,hd⟩,hr⟩:=hl;have hL:L∈X.fs:=hs L (by unfold frs;rw[Jy,hf];exact GO);obtain⟨sl,e⟩:=I.base.slot L o ho (I.ok.frf L hL) hL λz=>I.ok.exfs L z hL;exact⟨hk,⟨L,_,hf,hn,e,hd⟩,ih (λb hb=>hs b (by unfold frs;rw[Jy,hf];exact GS _ hb)) hr⟩
 exact all X.outer (λ_ hb=>hb) I.ok.funs
theorem Inv.stack(I:`n):s.heap.FunFrames X.base X.stack:=by
 rcases I.ok.stk with e|⟨e,hf⟩
 ·rw[e];exact I.funs
 ·rw[e];obtain⟨m,hn,_⟩:=I.loc;refine .cons (by rw[I.ok.kind];decide) hf hn ?_ I.funs;exact M8 (Ip I.ok.bsz I.ok.above)
theorem Inv.stkSub(I:`n):∀b∈frs X.stack,b∈X.env.locals::X.fs:=λb hb=>by
 rcases I.ok.stk with e|⟨e,hf⟩
 ·rw[e]at hb;exact GS _ hb
 ·rw[e]at hb;unfold frs at hb;rw[Jy,hf]at hb;exact hb
theorem Inv.stkFree(I:`n):∀b∈frs X.stack,41 b:=λb hb=>by
 rcases GI.mp (I.stkSub b hb)with e|hb;·rw[e];exact I.free
 ·obtain⟨_,o,ho,_⟩:=I.ok.funs.mem hb;exact I.base.free b o ho (I.ok.frf b hb) λz=>I.ok.exfs b z hb
theorem Inv.step{g':Array GenState}{t':Nat}{d':Drawn}{ch:`R}(I:`n)
  (hch:∀b∈ch,(b∈X.ex\/`cc<=b)/\145 b/\(∀x c,95 x c->c≠b)/\∀p∈X.pn++Z_,p.1≠b)
  (keep:∀b o,34 (145 b) (b∉X.fs) (b∉ch) (22 b o) (41 b) (66 b o))
  (slot:∀b o,b≠X.env.locals->b∈X.fs->b∉ch->s.heap.get? b=some o->H b=none->∃sl,h'.get? b=some {o with slots:=sl}) (free:∀b o,b∉ch->22 b o->41 b->7 (H' b))
  (there:∀b o,b∉ch->22 b o->∃o',66 b o')
  (tups:∀b xs,21 b (.tup xs)->0 (H' b) (.tup xs)) (frzs:∀b o u,21 b (.frz o u)->0 (H' b) (.frz o u)) (tbls:∀b ps,21 b (.tbl ps)->∃more,0 (H' b) (.tbl<|ps++more))
  (ns:∀m,s.heap.Ns X.env.locals m->h'.Ns X.env.locals m) (hok:HOk `S X.w H' h') (hg:Ms g'):
  Inv X Z_ Z H' {s with heap:=h',gens:=g',drawn:=d',toks:=t'}:=by
 have neL:∀b o,153 b o->145 b:=λb o e=>GY (GF (GG e) I.ok.above);have neC:∀b o,153 b o->b∉X.ex->b∉ch:=λb o e hx hb=>by
  rcases (hch b hb).1 with z|z;·exact hx z
  ·exact 128 (GG e) z (HI _)
 have cellK:∀x c,95 x c->∀v,s.heap.IsCell c v->h'.IsCell c v:=λx c e v⟨o,ho,hd⟩=>by
  have nch:c∉ch:=λz=>(hch c z).2.2.1 x c e `a;by_cases hc:c∈X.fs
  ·obtain⟨sl,q⟩:=slot c o (I.cne x c e) hc nch ho (I.freeC x c e);exact 8 q hd
  ·exact⟨o,keep c o (I.cne x c e) hc nch ho<|I.freeC x c e,hd⟩
 refine⟨I.ok,I.os,hg,⟨`bZ,`bZ,λb o e n hx=>?_,λb o e hx=>?_,λb xs e=>tups b xs<|I.base.tups b xs e,λb o xs e=>frzs b o xs<|I.base.frzs b o xs e,λb ps e=>?_⟩,?_,λx c e=>?_,?_,λx c e=>?_,λp hp=>?_,hok,I.len⟩;·exact keep b o (neL b o e) hb (neC b o e hx) (I.base.keep b o e n hb hx) (I.base.free b o e n hx)
 ·obtain⟨sl,e1⟩:=I.base.slot b o e n hb hx;obtain⟨sl',e2⟩:=slot b _ (neL b o e) hb (neC b o e hx) e1 (I.base.free b o e n hx);exact⟨sl',e2⟩
 ·obtain⟨o',e1⟩:=I.base.there b o e hx;exact free b o' (neC b o e hx) e1 (I.base.free b o e n hx)
 ·obtain⟨o',e1⟩:=I.base.there b o e hx;exact there b o' (neC b o e hx) e1
 ·obtain⟨m1,e1⟩:=I.base.tbls b ps e;obtain⟨m2,e2⟩:=tbls b _ e1;exact⟨m1++m2,by rw[e2,Array.append_assoc]⟩
 ·obtain⟨m,hn,hl⟩:=I.loc;refine⟨m,ns m hn,λi x v e1 e2 e3=>?_⟩;obtain⟨u,r,l⟩:=hl i x v e1 e2 e3;refine⟨u,r,?_⟩;rcases l with l|⟨k,c,e,z⟩
  ·exact .inl l
  ·exact .inr ⟨k,c,e,cellK x c e _ z⟩
 ·obtain⟨v,z⟩:=I.cell x c e;exact⟨v,cellK x c e v z⟩
 ·obtain⟨m,⟨o,_,_,ho,_⟩,_⟩:=I.loc;exact free _ o (λz=>(hch _ z).2.1 `a) ho I.free
 ·obtain⟨v,o,ho,hd⟩:=I.cell x c e;exact free c o (λz=>(hch c z).2.2.1 x c e `a) ho (I.freeC x c e)
 ·obtain⟨e,n,ne,nf,d⟩:=I.pin p hp;have nch:p.1∉ch:=λz=>(hch p.1 z).2.2.2 p hp `a;exact⟨keep p.1 p.2 ne nf nch e n,free p.1 p.2 nch e n,ne,nf,d⟩
theorem Inv.un{t':Nat}(I:`n)(u:Un X.fs [] H H' `i h')(hok:HOk `S X.w H' h'):Inv X Z_ Z H' {s with heap:=h',toks:=t'}:=by
 obtain⟨m,⟨o,es,ep,ho,r⟩,_⟩:=id I.loc;obtain⟨sl,hL⟩:=u.any ho I.free `g;exact I.step (g':=s.gens) (d':=s.drawn) (ch:=[]) (λ_ z=>nomatch z) (λb o _ hb _ e n=>u.keep b o e n hb `g) (λb o _ hb _ e n=>u.slot b o e n hb `g) (λb o _ e n=>u.free b o e n `g) (λb o _ e=>u.there b o e `g) u.tups u.frzs u.tbls (λm' hm=>by
  obtain⟨o',es',ep',ho',r'⟩:=hm;rw[ho]at ho';cases ho';exact⟨_,es',ep',hL,r'⟩) hok I.bare
theorem Inv.call{g':Array GenState}{t':Nat}{d':Drawn}{ch:`R}(I:`n)(u:Un (frs X.stack) ch H H' `i h')(hok:HOk `S X.w H' h')(hg:Ms g')
  (hch:∀b∈ch,(b∈X.ex\/`cc<=b)/\145 b/\(∀x c,95 x c->c≠b)/\∀p∈X.pn++Z_,p.1≠b):
  Inv X Z_ Z H' {s with heap:=h',gens:=g',drawn:=d',toks:=t'}:=by
 obtain⟨m,⟨o,es,ep,ho,r⟩,_⟩:=id I.loc;obtain⟨sl,hL⟩:=u.any ho I.free λz=>(hch _ z).2.1 `a;exact I.step (ch:=ch) hch (λb o hL hb hc e n=>u.keep b o e n (λz=>(GI.mp<|I.stkSub b z).elim hL hb) hc) (λb o _ _ hc e n=>u.any e n hc) (λb o hc e n=>u.free b o e n hc) (λb o hc e=>u.there b o e hc) u.tups u.frzs u.tbls (λm' hm=>by
  obtain⟨o',es',ep',ho',r'⟩:=hm;rw[ho]at ho';cases ho';exact⟨_,es',ep',hL,r'⟩) hok hg
theorem Inv.turned{t':Nat}{it:Addr}(I:`n)(k:∀b o,b≠it->22 b o->66 b o)(hn:41 it)(hL:145 it)
  (h1:it∈X.ex\/`cc<=it) (h2:∀x c,95 x c->c≠it) (h3:∀p∈X.pn++Z_,p.1≠it):Inv X Z_ Z H {s with heap:=h',toks:=t'}:=by
 have nit:∀b u,21 b u->b≠it:=λb u e z=>by rw[z,hn]at e;cases e
 refine I.step (g':=s.gens) (d':=s.drawn) (ch:=[it]) `bm (λb o _ _ hc e _=>k b o (λz=>hc<|by simp[z]) e) (λb o _ _ hc e _=>⟨o.slots,k b o (λz=>hc<|by simp[z]) e⟩) (λ_ _ _ _ n=>n) (λb o hc e=>⟨o,k b o (λz=>hc<|by simp[z]) e⟩) (λ_ _ e=>e) (λ_ _ _ e=>e) (λb ps e=>⟨#[],by rw[e];simp⟩) (λm hm=>?_) (λb u e=>?_) I.bare
 ·have e:b=it:=`bC
  subst e;exact⟨h1,hL,h2,h3⟩
 ·obtain⟨o,es,ep,ho,r⟩:=hm;exact⟨o,es,ep,k _ o (JI hL) ho,r⟩
 ·refine(I.hok b u e).stay (λc v hc q=>k c v ?_ q) (λ_ q=>q) λ_ _ q=>q;rcases hc with z|z
  ·rw[z];exact nit b u e
  ·exact nit c _ z
theorem Inv.tok(I:`n)(t:Nat):Inv X Z_ Z H {s with toks:=t}:=I.un (h':=s.heap) (t':=t) Un.refl I.hok
theorem Inv.kept{t':Nat}(I:`n)(k:∀b u,22 b u->66 b u):Inv X Z_ Z H {s with heap:=h',toks:=t'}:=I.un (Un.kept k) (I.hok.kept k)
theorem Inv.laid{a:Addr}{o:HO}{t':Nat}(I:`n)(k:∀b u,22 b u->66 b u)(hp:150 a)(new:ObjOk `S X.w (dF H a o) h' a o):
  Inv X Z_ Z (dF H a o) {s with heap:=h',toks:=t'}:=I.un (Un.laid k hp<|I.hok.fresh hp) (I.hok.laid k hp new)
theorem Inv.write{x e:Addr}{o:HO}{t':Nat}(I:`n)(mu:CD (H x))(he:e=x\/21 e (.own x))(k:∀b u,b≠e->22 b u->66 b u)(heo:∃u,66 e u)
  (new:ObjOk `S X.w (dF H x o) h' x o):Inv X Z_ Z (dF H x o) {s with heap:=h',toks:=t'}:=I.un (Un.write mu he k heo) (I.hok.write mu he k heo new)
theorem Inv.weak{σ':List (Option V)}(I:`n)(hl:σ'.length=Z.length)(w:∀(i:Nat)v,58 σ'[i]? v->58 Z[i]? v):38 X σ' H s:=
 ⟨I.ok,I.os,I.bare,I.base,let ⟨m,hn,hl'⟩:=I.loc;⟨m,hn,λi x v e1 e2 e3=>hl' i x v e1 (w i v e2) e3⟩,I.cell,I.free,I.freeC,I.pin,I.hok,hl.trans I.len⟩
theorem Inv.pins_of{pins':`N}(I:`n)(h:∀p∈pins',22 p.1 p.2/\41 p.1/\145 p.1/\p.1∉X.fs/\∀v,p.2.data≠.cell v):Inv X pins' Z H s:=
 ⟨I.ok,I.os,I.bare,I.base,I.loc,I.cell,I.free,I.freeC,λp hp=>(HA.mp hp).elim (λz=>I.pin p<|JN _ z)<|h p,I.hok,I.len⟩
theorem lg{N:`y}(hN:N.Nodup){i j:Nat}{x:Str}(a:0 N[i]? x)(b:0 N[j]? x):i=j:=by
 obtain⟨h1,e1⟩:=GA.mp a;obtain⟨h2,e2⟩:=GA.mp b;exact(List.getElem_inj hN).mp (e1.trans e2.symm)
theorem mX{M:Mv}{A:Hk}{E:`A}{i:Nat}{x:Str}{v:V}{u:Gu}{Q:68 Unit}(I:`n)(hN:X.N.Nodup)(hi:0 X.N[i]? x)(hx:AF X.env.scope x)(r:78 v)
  (h:∀s',38 X (Z.set i<|some v) H s'->(∃a,GU a `i s'.heap/\(a=X.env.locals\/95 x a))->Q () s') (hf:1 (X.fn x)\/147 x .local:=by first|exact .inl rfl|exact .inr rfl|assumption):57 M A (storeName `D x u) Q E:=by
 obtain⟨m,hn,hl⟩:=id I.loc;have hcls:12 (X.env.scope.kind==.class||X.env.scope.kind==.module&&X.env.locals !=X.env.globals):=by rw[I.ok.kind];rfl
 have hiσ:i<Z.length:=by rw[I.len];exact(GA.mp hi).1
 have cne:=I.cne;have tracked:∀{a:Addr}{h':Heap},(∃o,22 a o/\41 a)->GU a `i h'->HOk `S X.w H h':=λ{a h'}ha hs b ob e=>by
  obtain⟨_,_,hfree⟩:=ha;refine(I.hok b ob e).stay (λc w' hc q=>127 c ?_ q) (λ_ q=>q) λ_ _ q=>q;rintro rfl;rcases hc with rfl|hc
  ·rw[hfree]at e;cases e
  ·rw[hfree]at hc;cases hc
 rcases hx with hk|hk
 ·refine wpAny_storeName_local hk hn (λh' hn' hs=>?_) hcls;obtain⟨oL,_,_,hoL,_⟩:=id hn;refine h _ ⟨I.ok,I.os,I.bare,⟨`bZ,`bZ,I.base.free,λb o e hx=>?_,I.base.tups,I.base.frzs,I.base.tbls⟩,8 hn' λj y v' e1 e2 e3=>?_,λy c e=>?_,I.free,I.freeC,λp hp=>?_,tracked ⟨oL,hoL,I.free⟩ hs,by simpa using I.len⟩ (8 hs `X);·exact 127 b (GY<|GF (GG e) I.ok.above) (I.base.keep b o e n hb hx)
  ·obtain⟨sl,e1⟩:=I.base.slot b o e n hb hx;exact⟨sl,127 b (GY<|GF (GG e) I.ok.above) e1⟩
  ·obtain⟨o',e1⟩:=I.base.there b o e hx;exact⟨o',127 b (GY<|GF (GG e) I.ok.above) e1⟩
  ·by_cases hj:j=i
   ·subst hj;rw[hi]at e1;cases e1;rw[JX hiσ]at e2;cases e2;exact⟨u,r,116 hk `g⟩
   ·rw[Ma (JI hj)]at e2;obtain⟨u',r',q⟩:=hl j y v' e1 e2 e3;refine⟨u',r',?_⟩;rcases q with⟨k,e⟩|⟨k,c,e,z⟩
    ·refine 116 k ?_;have:y≠x:=λe=>hj<|lg hN e1<|e▸hi;simp[this,e]
    ·exact .inr ⟨k,c,e,z.sameBut hs<|cne y c e⟩
  ·obtain⟨w',z⟩:=I.cell y c e;exact⟨w',z.sameBut hs<|cne y c e⟩
  ·obtain⟨e,n,ne,nf,d⟩:=I.pin p hp;exact⟨127 p.1 ne e,n,ne,nf,d⟩
 ·have hfn:1 (X.fn x):=by
   rcases hf with z|z;·exact z
   ·rw[z]at hk;cases hk
  obtain⟨c,hc⟩:=I.ok.has x (.inl hk);obtain⟨w',z⟩:=I.cell x c hc;refine wpAny_storeName_cell I.ok.kind hk hc z λh' hc' hs=>?_;obtain⟨oc,hoc,hocd⟩:=id z;refine h {s with heap:=h'} ⟨I.ok,I.os,I.bare,⟨`bZ,`bZ,I.base.free,λb o e hx=>?_,I.base.tups,I.base.frzs,I.base.tbls⟩,⟨m,hn.sameBut hs<|JI<|cne x c hc,λj y v' e1 e2 e3=>?_⟩,λy c' e=>?_,I.free,I.freeC,λp hp=>?_,tracked ⟨oc,hoc,I.freeC x c hc⟩ hs,by simpa using I.len⟩ ⟨c,hs,.inr hc⟩;·exact 127 b (GY<|GF (GG e)<|I.ok.cab x c hfn hc) (I.base.keep b o e n hb hx)
  ·obtain⟨sl,e1⟩:=I.base.slot b o e n hb hx;exact⟨sl,127 b (GY<|GF (GG e)<|I.ok.cab x c hfn hc) e1⟩
  ·obtain⟨o',e1⟩:=I.base.there b o e hx;exact⟨o',127 b (GY<|GF (GG e)<|I.ok.cab x c hfn hc) e1⟩
  ·by_cases hj:j=i
   ·subst hj;rw[hi]at e1;cases e1;rw[JX hiσ]at e2;cases e2;exact⟨u,r,.inr ⟨.inl hk,c,hc,hc'⟩⟩
   ·rw[Ma (JI hj)]at e2;obtain⟨u',r',q⟩:=hl j y v' e1 e2 e3;refine⟨u',r',?_⟩;rcases q with q|⟨k,c',e,z'⟩
    ·exact .inl q
    ·refine .inr ⟨k,c',e,z'.sameBut hs ?_⟩;rintro rfl;exact hj<|lg hN e1<|I.ok.inj _ _ _ e hc▸hi
  ·by_cases hcc:c'=c;·subst hcc;exact 42 hc'
   ·obtain⟨w2,z2⟩:=I.cell y c' e;exact⟨w2,z2.sameBut hs hcc⟩
  ·obtain⟨e,n,ne,nf,d⟩:=I.pin p hp;refine⟨127 p.1 ?_ e,n,ne,nf,d⟩;intro q;rw[q,hoc]at e;have q':oc=p.2:=Ha e;exact d w' (by rw[<-q'];exact hocd)
theorem ju{M:Mv}{A:Hk}{E:`A}{i:Nat}{x:Str}{v:V}{u:Gu}{Q:68 Unit}(I:`n)(hN:X.N.Nodup)(hi:0 X.N[i]? x)(hx:AF X.env.scope x)(r:78 v)
  (h:∀s',38 X (Z.set i<|some v) H s'->Q () s') (hf:1 (X.fn x)\/147 x .local:=by first|exact .inl rfl|exact .inr rfl|assumption):57 M A (storeName `D x u) Q E:=
 mX I hN hi hx r (λs' I' _=>h s' I') hf
theorem Inv.call'{s':Gx}{ch:`R}(I:`n)(ho:s'.os=s.os)(u:Un (frs X.stack) ch H H' `i s'.heap)(hok:HOk `S X.w H' s'.heap)(hg:Ms s'.gens)
  (hch:∀b∈ch,(b∈X.ex\/`cc<=b)/\145 b/\(∀x c,95 x c->c≠b)/\∀p∈X.pn++Z_,p.1≠b):38 X Z H' s':=by
 obtain⟨h',g',d',t',o'⟩:=s';have e:o'=s.os:=ho;subst e;exact I.call (g':=g') (t':=t') (d':=d') u hok hg hch
end
abbrev XK:=82 Gu `aW Hp
abbrev St:=List (Option V)
abbrev VK:=11 V Hp
abbrev TE:=82 St Hp VK
abbrev TT:=82 St Hp (11 Bool Hp)
abbrev TA:=82 St Hp (11 `E Hp)
structure Ends where
 nx:11 St Hp
 rt:VK
 bk:11 St Hp:=`bv
 ct:11 St Hp:=`bv
abbrev TS:=82 Ends St Hp
def EP(X:Cx)(Z_:`N)(Z:St)(Q:VK)(u:Gu)(s':Gx):Prop:=∃v H',38 X Z H' s'/\78 v/\Q v H'
def TP(X:Cx)(Z_:`N)(Z:St)(Q:11 Bool Hp)(b:Bool)(s':Gx):Prop:=∃H',38 X Z H' s'/\Q b H'
def AP(X:Cx)(Z_:`N)(Z:St)(Q:11 `E Hp)(us:`aq)(s':Gx):Prop:=∃vs H',38 X Z H' s'/\99 vs/\Q vs H'
def SP(X:Cx)(Z_:`N)(D:Ends)(f:Flow)(s':Gx):Prop:=
 match f with
 | .next=>∃σ' H',38 X σ' H' s'/\D.nx σ' H'
 | .brk=>∃σ' H',38 X σ' H' s'/\D.bk σ' H'
 | .cont=>∃σ' H',38 X σ' H' s'/\D.ct σ' H'
 | .ret u=>∃v σ' H',38 X σ' H' s'/\78 v/\D.rt v H'
def PE(X:Cx)(e:Expr)(t:TE):Prop:=
 ∀(Z_:List (Addr×Obj))(s:Gx)(Z:St)(H:Hp)(Q:VK),`n->t Z H Q->92 X.w X.A (30 e) (EP X Z_ Z Q) X.xe
def PT(X:Cx)(e:Expr)(t:TT):Prop:=
 ∀(Z_:List (Addr×Obj))(s:Gx)(Z:St)(H:Hp)(Q:Bool->Hp->Prop),`n->t Z H Q->92 X.w X.A (isTrue e `D<|30 e) (TP X Z_ Z Q) X.xe
def PW(X:Cx)(e:Expr)(t:TT):Prop:=
 ∀(whole:Sem Gu)(Z_:List (Addr×Obj))(s:Gx)(Z:St)(H:Hp)(Q:Bool->Hp->Prop),`n->t Z H Q->92 X.w X.A (isTrue e `D whole) (TP X Z_ Z Q) X.xe
theorem PW.pt{X:Cx}{e:Expr}{t:TT}(h:PW X e t):PT X e t:=h _
def PA(X:Cx)(es:`af)(t:TA):Prop:=
 ∀(pos:Pos)(Z_:List (Addr×Obj))(s:Gx)(Z:St)(H:Hp)(Q:List V->Hp->Prop),`n->t Z H Q->92 X.w X.A (spliced<|124 pos es) (AP X Z_ Z Q) X.xe
def PS(X:Cx)(st:Stmt)(t:TS):Prop:=
 ∀(Z_:List (Addr×Obj))(s:Gx)(Z:St)(H:Hp)(D:Ends),`n->t D Z H->92 X.w X.A (exec st `D) (SP X Z_ D) X.xe
def PSs(X:Cx)(st:List Stmt)(t:TS):Prop:=
 ∀(Z_:List (Addr×Obj))(s:Gx)(Z:St)(H:Hp)(D:Ends),`n->t D Z H->92 X.w X.A (execs st `D) (SP X Z_ D) X.xe
theorem cE{S:Type}{t:Sem S}{Q Q':68 S}{M:Mv}{A:Hk}{E:`A}{s:Gx}(h:57 M A t Q E)(hQ:∀a s,Q a s->Q' a s):57 M A t Q' E:=Ic h hQ λ_ _ x=>x
section
variable{X:Cx}
def bH(i:Nat):TE:=λZ H Q=>∃v,58 Z[i]? v/\Q v H
def tC(v:V):TE:=λ_ H Q=>Q v H
theorem Bd{i:Nat}{x:Str}{pos:Pos}(hN:0 X.N[i]? x)(hv:Vis X.env.scope x)(hd:12 (x==("__debug__" :Str)):=by decide)(hcd:12 (x==("__classdict__" :Str)):=by decide):9 (.Name x pos) (bH i):=by
 intro Z_ s Z H Q I h;obtain⟨v,e,h⟩:=h;obtain⟨m,hn,hl⟩:=I.loc;obtain⟨u,r,l⟩:=hl i x v hN e hv;have fin:EP X Z_ Z Q u s:=⟨v,H,I,r,h⟩
 rcases l with⟨hk,hm⟩|⟨hk,c,hc,hcell⟩
 ·exact Q2 (NX I.ok.kind hk hn hm fin) hd
 ·rcases hk with hk | hk;·exact Q2 (Om I.ok.kind hk hc hcell fin) hd
  ·exact Q2 (wpAny_loadName_free I.ok.kind hk hc hcell fin hcd) hd
theorem aa{i j pos}:9 (.Constant (.int i) j pos) (tC<|.int i):=λ_ _ _ H _ I h=>wpAny_Constant_int ⟨.int i,H,I.tok _,`au,h⟩
theorem cQ{b j pos}:9 (.Constant (.bool b) j pos) (tC<|.bl b):=λ_ _ _ H _ I h=>Constant_bool ⟨.bl b,H,I,`a,h⟩
theorem vV{j pos}:9 (.Constant .none j pos) (tC .non):=λ_ _ _ H _ I h=>Constant_none ⟨.non,H,I,`a,h⟩
theorem aL{x j pos}:9 (.Constant (.str x) j pos) (tC<|.str x):=λ_ _ _ H _ I h=>Calls.Constant_str ⟨.str x,H,I.tok _,`au,h⟩
def Gl(X:Cx)(x:Str):Prop:=0 (X.env.kindOf x) .globalImplicit
theorem iQ{E:`A}{Z_:`N}{s:Gx}{Z:St}{H:Hp}{x:Str}{u:Gu}{pos:Pos}{Q:`A}(I:`n)(hg:Gl X x)(hm:0 (X.mg x) u)(h:Q u s)
  (hd:12 (x==("__debug__" :Str)):=by decide):92 X.w X.A (30<|.Name x pos) Q E:=
 Mw I.ok.kind hg (Calls.loadGlobal_global (by rw[I.ok.glob];exact I.mod.glob.keeps I.bk) hm h) hd
theorem gD{E:`A}{Z_:`N}{s:Gx}{Z:St}{H:Hp}{x:Str}{u:Gu}{pos:Pos}{Q:`A}(I:`n)(hg:Gl X x)(hm:7 (X.mg x))(hv:0 (bootBuiltins x) u)(h:Q u s)
  (hn:x≠"__name__":=by decide) (hd:12 (x==("__debug__" :Str)):=by decide):92 X.w X.A (30<|.Name x pos) Q E:=by
 obtain⟨mb,h1,h2⟩:=I.mod.blt;exact Mw I.ok.kind hg (Calls.loadGlobal_builtin (by rw[I.ok.glob];exact I.mod.glob.keeps I.bk) hm (by rw[I.ok.blt];exact h1.keeps I.bk) ((h2 x hn).trans hv) h) hd
theorem bw{x:Str}{v:V}{u:Gu}{pos:Pos}(hg:Gl X x)(hm:0 (X.mg x) u)(r:78 v)(hd:12 (x==("__debug__" :Str)):=by decide):9 (.Name x pos) (tC v):=
 λ_ _ _ H _ I h=>iQ I hg hm ⟨v,H,I,r,h⟩ hd
theorem bF{x:Str}{v:V}{u:Gu}{pos:Pos}(hg:Gl X x)(hm:7 (X.mg x))(hv:0 (bootBuiltins x) u)(r:78 v)(hn:x≠"__name__":=by decide)(hd:12 (x==("__debug__" :Str)):=by decide):9 (.Name x pos) (tC v):=
 λ_ _ _ H _ I h=>gD I hg hm hv ⟨v,H,I,r,h⟩ hn hd
variable{a b:Expr}{ta tb:TE}{pos:Pos}
def tB(t:TE):TT:=λZ H Q=>t Z H λx H1=>∃c,x=.bl c/\Q c H1
theorem bN{e:Expr}{t:TE}(h:9 e t)(he:∀whole,isTrue e `D whole=(do let v <-whole;standAt e.pos;holding [v] (truthy v)):=by intro _;rfl):PT X e (tB t):=by
 intro Z_ s Z H Q I hw;refine isTrue_plain (cE (h Z_ s Z H _ I hw) λv s1⟨x,H1,I1,r1,q1⟩=>?_) (he _);obtain⟨d,rfl,q⟩:=q1;cases r1;exact Km ⟨H1,I1,q⟩
variable{tA tB':TT}{rest:`af}
def cx(t u:TT):TT:=λZ H Q=>t Z H λc H1=>if 1 c then u Z H1 Q else Q `K H1
def fe(t u:TT):TT:=λZ H Q=>t Z H λc H1=>if 1 c then Q `o H1 else u Z H1 Q
def cy(t:TT):TT:=λZ H Q=>t Z H λc H1=>Q (!c) H1
theorem dg(ha:PT X a tA):PW X (.BoolOp .And [a] pos) tA:=by
 intro wh Z_ s Z H Q I h;refine isTrue_and (cE (ha Z_ s Z H Q I h) λc s1 e=>?_);cases c with
 |true=>exact isTrue_and_nil e
 |false=>exact e
theorem gW(ha:PT X a tA):PW X (.BoolOp .Or [a] pos) tA:=by
 intro wh Z_ s Z H Q I h;refine isTrue_or (cE (ha Z_ s Z H Q I h) λc s1 e=>?_);cases c with
 |false=>exact isTrue_or_nil e
 |true=>exact e
theorem dw(ha:PT X a tA)(hb:PW X (.BoolOp .And (b::rest) pos) tB'):PW X (.BoolOp .And (a::b::rest) pos) (cx tA tB'):=by
 intro wh Z_ s Z H Q I h;refine isTrue_and (cE (ha Z_ s Z H _ I h) λc s1 zz=>?_);obtain⟨H1,I1,q1⟩:=zz;cases c with
 |true=>exact hb wh Z_ s1 Z H1 Q I1 q1
 |false=>exact⟨H1,I1,q1⟩
theorem gJ(ha:PT X a tA)(hb:PW X (.BoolOp .Or (b::rest) pos) tB'):PW X (.BoolOp .Or (a::b::rest) pos) (fe tA tB'):=by
 intro wh Z_ s Z H Q I h;refine isTrue_or (cE (ha Z_ s Z H _ I h) λc s1 zz=>?_);obtain⟨H1,I1,q1⟩:=zz;cases c with
 |true=>exact⟨H1,I1,q1⟩
 |false=>exact hb wh Z_ s1 Z H1 Q I1 q1
theorem dG(ha:PT X a tA):PT X (.UnaryOp .Not a pos) (cy tA):=by
 intro Z_ s Z H Q I h;exact isTrue_not (ha Z_ s Z H (λc H1=>Q (!c) H1) I h)
def bp(ta tb:TE):TE:=λZ H Q=>ta Z H λx H1=>∃c,x=.bl c/\if 1 c then tb Z H1 Q else Q (.bl `K) H1
def cz(ta tb:TE):TE:=λZ H Q=>ta Z H λx H1=>∃c,x=.bl c/\if 1 c then Q (.bl `o) H1 else tb Z H1 Q
def bq(ta:TE):TE:=λZ H Q=>ta Z H λx H1=>∃c,x=.bl c/\Q (.bl<|!c) H1
theorem gE{op}{t:TE}(h:9 a t):9 (.BoolOp op [a] pos) t:=λZ_ s Z H Q I hw=>BoolOp_one (h Z_ s Z H Q I hw)
theorem fC(ha:9 a ta)(hb:9 (.BoolOp .And (b::rest) pos) tb):9 (.BoolOp .And (a::b::rest) pos) (bp ta tb):=by
 intro Z_ s Z H Q I h;refine BoolOp_and (137 (ha Z_ s Z H _ I h) ?_);obtain⟨x,H1,I1,r1,q1⟩:=zz;obtain⟨c,rfl,q1⟩:=q1;cases r1;refine Km ?_;cases c with
 |true=>exact hb Z_ s1 Z H1 Q I1 q1
 |false=>exact⟨.bl `K,H1,I1,`a,q1⟩
theorem CF(ha:9 a ta)(hb:9 (.BoolOp .Or (b::rest) pos) tb):9 (.BoolOp .Or (a::b::rest) pos) (cz ta tb):=by
 intro Z_ s Z H Q I h;refine BoolOp_or (137 (ha Z_ s Z H _ I h) ?_);obtain⟨x,H1,I1,r1,q1⟩:=zz;obtain⟨c,rfl,q1⟩:=q1;cases r1;refine Km ?_;cases c with
 |false=>exact hb Z_ s1 Z H1 Q I1 q1
 |true=>exact⟨.bl `o,H1,I1,`a,q1⟩
theorem o9(ha:9 a ta):9 (.UnaryOp .Not a pos) (bq ta):=by
 intro Z_ s Z H Q I h;refine UnaryOp_ (137 (ha Z_ s Z H _ I h) ?_);obtain⟨x,H1,I1,r1,q1⟩:=zz;obtain⟨c,rfl,q1⟩:=q1;cases r1;exact not_of (Km ⟨.bl<|!c,H1,I1,rfl,q1⟩)
def ff(t:TT)(ta tb:TE):TE:=λZ H Q=>t Z H λc H1=>if 1 c then ta Z H1 Q else tb Z H1 Q
theorem gK{c:Expr}(hc:PT X c tA)(ha:9 a ta)(hb:9 b tb):9 (.IfExp c a b pos) (ff tA ta tb):=by
 intro Z_ s Z H Q I h;refine wpAny_IfExp (cE (hc Z_ s Z H _ I h) λd s1 zz=>?_);obtain⟨H1,I1,q1⟩:=zz;cases d with
 |true=>exact ha Z_ s1 Z H1 Q I1 q1
 |false=>exact hb Z_ s1 Z H1 Q I1 q1
end
def SqL(K:Gr)(H:Hp)(a:Addr)(xs:`E):Prop:=
 Rd H a (.lst xs)\/∃(o:Obj)(its:Array Gu)(n:Nat),142 a o/\o.cls=`bi/\2 o.dict `j (o.data=.seq its n) (69 its.size/\Vals xs its.toList)
def SqT(K:Gr)(H:Hp)(a:Addr)(xs:`E):Prop:=
 Rd H a (.tup xs)\/∃(o:Obj)(its:Array Gu)(n:Nat),142 a o/\(o.cls=`bo/\7 o.dict)/\2 o.data (.seq its n) (69 its.size) (Vals xs its.toList)
def EL:Gu->Option V
 | .none=>some .non
 | .bool b=>some (.bl b)
 | .int i _=>3 i
 | .str x _=>some (.str x)
 | .bytes b _=>some (.byt b)
 | .float b _=>some (.flt b)
 | .ref a=>24 a
 | .type n=>some (.ty n)
 |_=>none
theorem RelV.abs{x:V}{u:Gu}(r:78 x):0 (EL u) x:=by
 cases x with
 |non=>cases r;rfl
 |bl _=>cases r;rfl
 |int _=>obtain⟨t,rfl⟩:=r;rfl
 |str _=>obtain⟨t,rfl⟩:=r;rfl
 |byt _=>obtain⟨t,rfl⟩:=r;rfl
 |flt _=>obtain⟨t,rfl⟩:=r;rfl
 |ref _=>cases r;rfl
 |ty _=>cases r;rfl
theorem RelV.inj{x y:V}{u:Gu}(r:78 x)(q:78 y):x=y:=Ha (r.abs.symm.trans q.abs)
theorem Vals.inj:∀{xs ys:List V}{us:List Gu},99 xs->99 ys->xs=ys
 |_,_,_,.nil,.nil=>rfl
 |_,_,_,.cons r t,.cons r' t'=>by rw[r.inj r',Vals.inj t t']
section
variable{X:Cx}{Z_:`N}{Z:St}{H:Hp}{s:Gx}{a:Addr}{xs ys:`E}
theorem SqL.of{K:Gr}(h:21 a (.lst xs)):SqL K H a xs:=.inl (.inl h)
theorem SqT.of{K:Gr}(h:21 a (.tup xs)):SqT K H a xs:=.inl (.inl h)
theorem Inv.list(I:`n)(h:SqL X.K H a xs):∃its:List Gu,Vals xs its/\PlainL `i a `bj/\69 `t:=by
 rcases h with h|⟨o,its,n,hk,hc,hd,hs,hz,r⟩
 ·obtain⟨z,its,n,r,e⟩:=h.ok I.hok;exact⟨its,r,⟨_,n,e,`a,`a,`a⟩,z⟩
 ·refine⟨its.toList,r,⟨o,n,I.kIn a o hk,hc,hd,by simpa using hs⟩,?_⟩;have e:=r.length;simp only[HC]at e;omega
theorem Inv.tuple(I:`n)(h:SqT X.K H a xs):∃its:List Gu,Vals xs its/\S5 `i a `bj/\69 `t:=by
 rcases h with h|⟨o,its,n,hk,hc,hs,hz,r⟩
 ·obtain⟨z,its,r,p⟩:=h.ok I.hok;exact⟨its,r,p.tup,z⟩
 ·refine⟨its.toList,r,⟨o,I.kIn a o hk,hc.1,n,by simpa using hs⟩,?_⟩;have e:=r.length;simp only[HC]at e;omega
theorem Inv.list_inj(I:`n)(h:SqL X.K H a xs)(h':SqL X.K H a ys):xs=ys:=by
 obtain⟨its,r,⟨o,n,e,_,_,d⟩,_⟩:=I.list h;obtain⟨its',r',⟨o',n',e',_,_,d'⟩,_⟩:=I.list h';rw[e]at e';cases e';rw[d]at d';injection d' with d1 _;have:its=its':=by simpa using congrArg R9 d1
 subst this;exact r.inj r'
theorem Inv.tuple_inj(I:`n)(h:SqT X.K H a xs)(h':SqT X.K H a ys):xs=ys:=by
 obtain⟨its,r,⟨o,e,_,n,d⟩,_⟩:=I.tuple h;obtain⟨its',r',⟨o',e',_,n',d'⟩,_⟩:=I.tuple h';rw[e]at e';cases e';rw[d]at d';injection d' with d1 _;have:its=its':=by simpa using congrArg R9 d1
 subst this;exact r.inj r'
end
abbrev Cx.wish(X:Cx)(E:`A):Cx:={X with xe:=E}
abbrev Cx.nox(X:Cx):Cx:=X.wish `bv
theorem Cx.Ok.wish{X:Cx}(ok:X.Ok)(E:`A):(X.wish E).Ok:=
 ⟨ok.mod,ok.kind,ok.glob,ok.blt,ok.above,ok.inj,ok.has,ok.cab,ok.hd,ok.frames,ok.stk,ok.exf,ok.bs,ok.bsz,ok.noex,ok.exfs,ok.funs,ok.frf⟩
theorem Cx.Ok.unwish{X:Cx}{E:`A}(ok:(X.wish E).Ok):X.Ok:=
 ⟨ok.mod,ok.kind,ok.glob,ok.blt,ok.above,ok.inj,ok.has,ok.cab,ok.hd,ok.frames,ok.stk,ok.exf,ok.bs,ok.bsz,ok.noex,ok.exfs,ok.funs,ok.frf⟩
section
variable{X:Cx}{Z_:`N}{Z:St}{H:Hp}{s:Gx}{E:`A}
theorem Inv.wish(I:`n)(E:`A):38 (X.wish E) Z H s:=⟨I.ok.wish E,I.os,I.bare,I.base,I.loc,I.cell,I.free,I.freeC,I.pin,I.hok,I.len⟩
theorem Inv.unwish(I:38 (X.wish E) Z H s):`n:=⟨I.ok.unwish,I.os,I.bare,I.base,I.loc,I.cell,I.free,I.freeC,I.pin,I.hok,I.len⟩
theorem SP.unwish{D:Ends}{f:Flow}{s':Gx}(h:SP (X.wish E) Z_ D f s'):SP X Z_ D f s':=by
 cases f with
 |next=>obtain⟨σ',H',I,q⟩:=h;exact⟨σ',H',I.unwish,q⟩
 |brk=>obtain⟨σ',H',I,q⟩:=h;exact⟨σ',H',I.unwish,q⟩
 |cont=>obtain⟨σ',H',I,q⟩:=h;exact⟨σ',H',I.unwish,q⟩
 |ret u=>obtain⟨v,σ',H',I,r,q⟩:=h;exact⟨v,σ',H',I.unwish,r,q⟩
theorem PSs.nox{st:List Stmt}{t:TS}(h:PSs X.nox st t):PSs X st t:=λZ_ s Z H D I hw=>Ic (h Z_ s Z H D (I.wish _) hw) (λ_ _ q=>q.unwish) λ_ _ z=>J5 z
end
section
variable{X:Cx}{st:Stmt}{rest:List Stmt}{t u:TS}{e:Expr}{te:TE}{pos:Pos}
def az:TS:=λD Z H=>D.nx Z H
def eI(t u:TS):TS:=λD Z H=>t {D with nx:=u D} Z H
theorem aA:PSs X [] az:=λ_ _ Z H _ I h=>KI ⟨Z,H,I,h⟩
theorem ae(h1:PS X st t)(h2:PSs X rest u):PSs X (st::rest) (eI t u):=by
 intro Z_ s Z H D I h;refine Pm (cE (h1 Z_ s Z H {D with nx:=u D} I h) λf s1 q=>?_);cases f with
 |next=>
  obtain⟨σ',H',I',q⟩:=q;exact h2 Z_ s1 σ' H' D I' q
 |ret v=>exact q
 |brk=>exact q
 |cont=>exact q
theorem af(h1:PS X st t):PSs X [st] t:=by
 intro Z_ s Z H D I h;refine Pm (cE (h1 Z_ s Z H D I h) λf s1 q=>?_);cases f with
 |next=>exact KI q
 |ret v=>exact q
 |brk=>exact q
 |cont=>exact q
theorem Inv.quiet{Z_:`N}{Z:St}{H:Hp}{s:Gx}(I:`n):12 (interactive `D):=by simp[interactive,I.ok.kind]
def bj(te:TE):TS:=λD Z H=>te Z H λ_ H1=>D.nx Z H1
theorem fk(he:9 e te)(hs:swapsWith e `j pos.line `D=pure `K:=by rfl):PS X (.Expr e pos) (bj te):=by
 intro Z_ s Z H D I h;exact wpAny_Expr_any (cE (he Z_ s Z H _ I h) λv s1⟨x,H1,I1,r1,q1⟩=>⟨Z,H1,I1,q1⟩) I.quiet hs
def bX(te:TE):TS:=λD Z H=>te Z H D.rt
theorem au(he:9 e te):PS X (.Return (some e) pos) (bX te):=by
 intro Z_ s Z H D I h;refine wpAny_Return_some (137 (he Z_ s Z H _ I h) ?_);obtain⟨x,H1,I1,r1,q1⟩:=zz;exact⟨x,Z,H1,I1,r1,q1⟩
def ik(c:TT)(t u:TS):TS:=λD Z H=>c Z H λb H1=>if 1 b then t D Z H1 else u D Z H1
theorem aY{c:Expr}{a b:List Stmt}{tc:TT}(hc:PT X c tc)(ha:PSs X a t)(hb:PSs X b u):PS X (.If c a b pos) (ik tc t u):=by
 intro Z_ s Z H D I h;refine wpAny_If (cE (hc Z_ s Z H _ I h) λd s1 zz=>?_);obtain⟨H1,I1,q1⟩:=zz;cases d with
 |true=>exact ha Z_ s1 Z H1 D I1 q1
 |false=>exact hb Z_ s1 Z H1 D I1 q1
end
abbrev TG:=V->St->11 Hp (11 St Hp)
abbrev yV:=`E->St->11 Hp (11 St Hp)
def PG(X:Cx)(target:Expr)(t:TG):Prop:=
 ∀(Z_:List (Addr×Obj))(s:Gx)(Z:St)(H:Hp)(v:V)(u:Gu)(Q:St->Hp->Prop),`n->78 v->t v Z H Q->92 X.w X.A (assign target `D u) (λ_ s'=>∃σ' H',38 X σ' H' s'/\Q σ' H') X.xe
def Ck(X:Cx)(ts:`af)(t:yV):Prop:=
 ∀(Z_:List (Addr×Obj))(s:Gx)(Z:St)(H:Hp)(vs:List V)(us:List Gu)(Q:St->Hp->Prop),`n->99 vs->t vs Z H Q->92 X.w X.A (assignInOrder ((assignEach ts `D).map (·.2)) us) (λ_ s'=>∃σ' H',38 X σ' H' s'/\Q σ' H') X.xe
abbrev Be:=34 V V V Hp (49 Hp) Prop
def CG(X:Cx)(t:Be):Prop:=
 ∀(Z_:List (Addr×Obj))(s:Gx)(Z:St)(H:Hp)(o i v:V)(ov iv u:Gu)(Q:Hp->Prop),34 `n (RelV o ov) (RelV i iv) (78 v) (t o i v H Q) (92 X.w X.A (setItem ov iv u) (λ_ s'=>∃H',38 X Z H' s'/\Q H') X.xe)
abbrev CH:=V->V->11 Hp VK
def DP(X:Cx)(op:Ru)(t:CH):Prop:=
 ∀(Z_:List (Addr×Obj))(s:Gx)(Z:St)(H:Hp)(x y:V)(v u:Gu)(Q:VK),20 `n (RelV x v) (78 y) (t x y H Q) (92 X.w X.A (inplaceOp op v u) (EP X Z_ Z Q) X.xe)
section
variable{X:Cx}{pos:Pos}
def aW(i:Nat):TG:=λv Z H Q=>Q (Z.set i<|some v) H
theorem bC{i:Nat}{x:Str}(hN:X.N.Nodup)(hi:0 X.N[i]? x)(hx:AF X.env.scope x)(hf:1 (X.fn x)\/147 x .local:=by first|exact .inl rfl|exact .inr rfl|assumption):PG X (.Name x pos) (aW i):=by
 intro Z_ s Z H v u Q I r h;exact OX (ju I hN hi hx r (λs' I'=>⟨_,H,I',h⟩) hf)
def cv:yV:=λvs Z H Q=>vs=[]/\Q Z H
def bf(t:TG)(u:yV):yV:=λvs Z H Q=>∃v r,vs=v::r/\t v Z H λσ' H'=>u r σ' H' Q
theorem bI:Ck X [] cv:=by
 intro Z_ s Z H vs us Q I r h;obtain⟨e,h⟩:=h;subst e;cases r;exact assignInOrder_nil ⟨Z,H,I,h⟩
theorem ar{e:Expr}{es:`af}{t:TG}{u:yV}(h1:PG X e t)(h2:Ck X es u)
  (hs:(assignEach (e::es) `D).map (·.2)=assign e `D::(assignEach es `D).map (·.2):=by rfl):Ck X (e::es) (bf t u):=by
 intro Z_ s Z H vs us Q I r h;obtain⟨v,vr,e1,h⟩:=h;subst e1;cases r with
 |cons r rr=>
  rw[hs];refine assignInOrder_cons (cE (h1 Z_ s Z H _ _ _ I r h) λ_ s1 zz=>?_);obtain⟨σ1,H1,I1,q1⟩:=zz;exact h2 Z_ s1 σ1 H1 _ _ Q I1 rr q1
def cf(K:Gr)(n:Nat)(t:yV):TG:=λv Z H Q=>∃a xs,2 v `ai (SqT K H a xs) (`t=n/\t xs Z H Q)
theorem Bf{es:`af}{k:Nat}{t:yV}{n:Nat}(hc:`bw)(h:Ck X es t)
  (hn:(assignEach es `D).length=n:=by rfl) (hst:7 ((assignEach es `D).findIdx? (·.1)):=by rfl):PG X (.Tuple es k pos) (cf X.K n t):=by
 intro Z_ s Z H v u Q I r hw;obtain⟨a,xs,e1,hq,hl,hw⟩:=hw;subst e1;cases r;obtain⟨its,rv,ht,hz⟩:=I.tuple hq;refine assign_Tuple_tuple `bu ht (by simp[hn,<-hl,rv.length]) hst λh' hx=>?_;have I1:Inv X Z_ Z H {s with heap:=h'}:=I.kept (t':=s.toks) λb o e=>hx b o (GY<|GG e) e;exact h Z_ _ Z H xs _ Q I1 (by simpa using rv) hw
def CI(to ti:TE)(t:Be):TG:=λv Z H Q=>to Z H λo H1=>ti Z H1 λi H2=>t o i v H2 λH3=>Q Z H3
theorem qX{o i:Expr}{to ti:TE}{t:Be}(ho:9 o to)(hi:9 i ti)(hs:CG X t)
  (ha:∀v,assign (.Subscript o i pos) `D v=(do
   let ov <-holding [v] (30 o)
   let iv <-holding [v,ov] (30 i)
   standAt pos
   holding [v,ov,iv] (setItem ov iv v)
   release [v,ov,iv] []):=by intro _;rfl):PG X (.Subscript o i pos) (CI to ti t):=by
 intro Z_ s Z H v u Q I r h;rw[ha];refine Gn (HN<|cE (ho Z_ s Z H _ I h) λov s1 zz=>?_);obtain⟨x,H1,I1,r1,q1⟩:=zz;refine Gn (HN<|cE (hi Z_ s1 Z H1 _ I1 q1) λiv s2 zz=>?_);obtain⟨y,H2,I2,r2,q2⟩:=zz;refine Gn (JJ<|Gn<|HN<|cE (hs Z_ s2 Z H2 x y v ov iv u _ I2 r1 r2 r q2) λ_ s3 zz=>?_);obtain⟨H3,I3,q3⟩:=zz;exact wpAny_release ⟨Z,H3,I3,q3⟩
def bT(te:TE)(g:TG):TS:=λD Z H=>te Z H λx H1=>g x Z H1 D.nx
theorem fD{tg e:Expr}{te:TE}{g:TG}(he:9 e te)(hg:PG X tg g)(hs:swapsWithSole [tg] e pos.line `D=pure `K:=by rfl)(hw:swappedStores [tg] e `D=pure `j:=by rfl)
  (h1:(assignEach [tg] `D).map (·.2)=[assign tg X.env]:=by rfl):PS X (.Assign [tg] e pos) (bT te g):=by
 intro Z_ s Z H D I h;refine wpAny_Assign_stores (cE (he Z_ s Z H _ I h) λv s1⟨x,H1,I1,r1,q1⟩=>?_) hs hw;rw[h1];exact cE (hg Z_ s1 Z H1 x v _ I1 r1 q1) λ_ s2 q=>q
theorem gX{i:Nat}{x:Str}{e:Expr}{te:TE}{pos':Pos}(hN:X.N.Nodup)(hi:0 X.N[i]? x)(hx:AF X.env.scope x)(he:9 e te)(hs:swapsWith e (some<|.Name x pos') pos.line `D=pure `K:=by rfl)(hf:1 (X.fn x)\/147 x .local:=by first|exact .inl rfl|exact .inr rfl|assumption):
  PS X (.Assign [.Name x pos'] e pos) (bT te<|aW i):=by
 intro Z_ s Z H D I h;refine wpAny_Assign_Name (cE (he Z_ s Z H _ I h) λv s1⟨y,H1,I1,r1,q1⟩=>?_) hs;exact ju I1 hN hi hx r1 (λs2 I2=>⟨_,H1,I2,q1⟩) hf
def yW(i:Nat)(te:TE)(ti:CH):TS:=λD Z H=>∃x,58 Z[i]? x/\te Z H λy H1=>ti x y H1 λz H2=>D.nx (Z.set i<|some z) H2
theorem og{i:Nat}{x:Str}{e:Expr}{te:TE}{op:Ru}{ti:CH}{pos':Pos}(hN:X.N.Nodup)(hi:0 X.N[i]? x)(hx:AF X.env.scope x)(he:9 e te)(ho:DP X op ti)(hf:1 (X.fn x)\/147 x .local:=by first|exact .inl rfl|exact .inr rfl|assumption):
  PS X (.AugAssign (.Name x pos') op e pos) (yW i te ti):=by
 intro Z_ s Z H D I h;obtain⟨v,e1,h⟩:=h;obtain⟨m,hn,hl⟩:=I.loc;have Co:Vis X.env.scope x:=by rcases hx with k|k;exact .inl k;exact .inr (.inl k)
 obtain⟨u,r,l⟩:=hl i x v hi e1 Co;refine wpAny_AugAssign_Name ?_;have go:92 X.w X.A (30 e) (λw s₂=>wpAny `aM X.A (inplaceOp op u w) (λr s₃=>wpAny `aM X.A (storeName `D x r) (λ_=>SP X Z_ D .next) X.xe s₃) X.xe s₂) X.xe:=by
  refine cE (he Z_ s Z H _ I h) λw s1 zz=>?_;obtain⟨y,H1,I1,r1,q1⟩:=zz;refine cE (ho Z_ s1 Z H1 v y u w _ I1 r r1 q1) λz s2 zz=>?_;obtain⟨zv,H2,I2,r2,q2⟩:=zz;exact ju I2 hN hi hx r2 (λs3 I3=>⟨_,H2,I3,q2⟩) hf
 rcases l with⟨hk,hm⟩|⟨hk,c,hc,hcell⟩
 ·exact NX I.ok.kind hk hn hm go
 ·rcases hk with hk | hk;·exact Om I.ok.kind hk hc hcell go
  ·rcases hx with k | k
   ·have:147 x .free:=hk;rw[k]at this;cases this
   ·have:147 x .free:=hk;rw[k]at this;cases this
def DQ(f:`c->`c->`c):CH:=λx y H Q=>∃i j,2 x (.int i) (y=.int j) (Q (.int<|f i j) H)
theorem vW:DP X .Add (DQ λi j=>i+j):=by
 intro Z_ s Z H x y v u Q I r1 r2 h;obtain⟨i,j,e1,e2,q⟩:=h;subst e1;subst e2;obtain⟨t,rfl⟩:=r1;obtain⟨t',rfl⟩:=r2;exact iadd_int ⟨.int _,H,I.tok _,`au,q⟩
theorem Bg:DP X .Sub (DQ λi j=>i-j):=by
 intro Z_ s Z H x y v u Q I r1 r2 h;obtain⟨i,j,e1,e2,q⟩:=h;subst e1;subst e2;obtain⟨t,rfl⟩:=r1;obtain⟨t',rfl⟩:=r2;exact isub_int ⟨.int _,H,I.tok _,`au,q⟩
end
section
variable{X:Cx}{pos:Pos}
def qY(c:TT)(tb:TS):TS:=λD Z H=>∃W:Nat->St->Hp->Prop,(∃m,W m Z H)/\∀m Z H,W m Z H->
 c Z H λb H1=>if 1 b then ∃N:St->Hp->Prop,(∀σ' H',N σ' H'->∃m',m'<m/\W m' σ' H')/\tb {D with nx:=N,ct:=N,bk:=D.nx} Z H1 else D.nx Z H1
theorem vX{c:Expr}{body:List Stmt}{tc:TT}{tb:TS}(hp:QV `aM X.A `D X.xe)(hc:PT X c tc)(hb:PSs X body tb):PS X (.While c body [] pos) (qY tc tb):=by
 intro Z_ s Z H D I h;obtain⟨W,⟨m0,w0⟩,turn⟩:=h;refine wpAny_While (codeAny_whileLoop (λn s'=>∃σ' H',38 X σ' H' s'/\W n σ' H') ?_ m0 ⟨Z,H,I,w0⟩);rintro n s1 ⟨σ1,H1,I1,w1⟩;refine IM hp (cE (hc Z_ s1 σ1 H1 _ I1<|turn n σ1 H1 w1) λb s2 zz=>?_);obtain⟨H2,I2,q2⟩:=zz;cases b with
 |true=>
  obtain⟨N,hN,q2⟩:=q2;rw[`aX];refine IM hp (cE (hb Z_ s2 σ1 H2 _ I2 q2) λf s3 q3=>?_);cases f with
  |next=>
   obtain⟨σ3,H3,I3,n3⟩:=q3;obtain⟨m',hm,w3⟩:=hN σ3 H3 n3;exact⟨m',hm,σ3,H3,I3,w3⟩
  |cont=>
   obtain⟨σ3,H3,I3,n3⟩:=q3;obtain⟨m',hm,w3⟩:=hN σ3 H3 n3;exact⟨m',hm,σ3,H3,I3,w3⟩
  |brk=>exact q3
  |ret v=>exact q3
 |false=>
  rw[Z4 GL];exact KI ⟨σ1,H2,I2,q2⟩
end
structure It where
 go:11 Nat Hp
 yld:Nat->Hp->11 V Hp
 stop:11 Nat Hp
def FpOk(X:Cx)(Z_:`N)(H:Hp)(b:Addr):Prop:=
 25 (H b) `j (145 b) (b∉X.fs) (b∈X.ex\/`cc<=b) ((∀x c,95 x c->c≠b)/\∀p∈X.pn++Z_,p.1≠b)
theorem Inv.fpOk{X:Cx}{Z_:`N}{Z:St}{H H':Hp}{s:Gx}{b:Addr}(I:`n)(hb:150 b)(hn:7 (H' b)):FpOk X Z_ H' b:=by
 refine⟨hn,JY<|GF I.lt hb,I.nofs hb,.inr<|Ip I.sz hb,λx c e z=>?_,λp hp z=>?_⟩
 ·obtain⟨v,q⟩:=I.cell x c e;exact 128 q.lt (by rw[z];exact hb) (HI _)
 ·exact 128 (GG (I.pin p hp).1) (by rw[z];exact hb) (HI _)
structure Turn(P:GJ)(w:GW)(K:Gr)(tg:Expr)(J:It)(fp:`R)(it:Addr)(tn:11 Nat Heap):Prop where
 mem:it∈fp
 obj:∀i h,tn i h->∀b∈fp,∃o,35 b o/\∀v,o.data≠.cell v
 keep:∀i h h',tn i h->(∀b∈fp,∀o,35 b o->66 b o)->tn i h'
 item:∀(X:Cx),20 (`S=P) (X.w=w) (X.K=K) `bw (161 `n (112 X Z_ H b) (tn i `i) (J.go i H)<|102 P w X.A (pyNext `an) (λr s1=>∃u,0 r u/\60 P X.A (letOwnedTupleGo tg `an u) (λ_ s2=>∃x H',38 X Z H' s2/\78 x/\J.yld i H x H'/\tn (i+1) s2.heap/\140 (H' b)) E s1) E)
 done:∀(X:Cx),20 (`S=P) (X.w=w) (X.K=K) `bw (161 `n (112 X Z_ H b) (tn i `i) (J.stop i H)<|102 P w X.A (pyNext `an) (λr s1=>7 r/\38 X Z H s1) E)
 self:∀(A:Hk)(i:Nat)(s:Gx)(Q:Gu->Gx->Prop)(E:Gu->Gx->Prop),tn i `i->Q `an s->102 P w A (pyIter `an) Q E
abbrev TI:=82 St Hp (11 It Hp)
def EM(X:Cx)(Z_:`N)(Z:St)(tg:Expr)(R:11 It Hp)(itv:Gu)(s2:Gx):Prop:=
 ∃(it:Addr)(fp:List Addr)(tn:Nat->Heap->Prop)(J:It)(H':Hp),25 itv `an (38 X Z H' s2) (Turn `S X.w X.K tg J fp it tn) (tn 0 s2.heap) (112 X Z_ H' b/\R J H')
def PI(X:Cx)(tg iter:Expr)(wi:TI):Prop:=
 ∀(Z_:List (Addr×Obj))(s:Gx)(Z:St)(H:Hp)(R:It->Hp->Prop),`n->wi Z H R->92 X.w X.A (30 iter) (λv s1=>wpAny `aM X.A (pyIter v) (EM X Z_ Z tg R) X.xe s1) X.xe
theorem mY{M:Mv}{A:Hk}{E:`A}{s:Gx}{tg:Expr}{it:Addr}{u:Gu}{o:Obj}{n:String}{vs:`bp}{Q:68 Unit}(ho:22 it o)(hc:o.cls=.type n)(hd:o.data=.fields vs)
    (hn:12 (["enumerate","zip","dict_itemiterator","dict_reverseitemiterator","odict_iterator","itertools.zip_longest","itertools.pairwise"].contains n)) (hQ:Q () s):57 M A (letOwnedTupleGo tg `an u) Q E:=by
  unfold letOwnedTupleGo
  cases tg<;>first
    |exact Gv hQ
    |(cases u<;>first
        |exact Gv hQ
        | (refine Gn (wpAny_load ho ?_)
           rw[hc,hd];show 57 M A (if 1 (["enumerate","zip","dict_itemiterator","dict_reverseitemiterator","odict_iterator","itertools.zip_longest","itertools.pairwise"].contains n&&vs[0]? ==some (rawInt _)) then _ else _) Q E;rw[Z4 (by intro h;rw[hn,Q3]at h;cases h)];exact Gv hQ))
def EN(K:Gr)(a:Addr):It:=
 ⟨λi H=>∃xs x,SqL K H a xs/\0 xs[i]? x,λi H x H'=>H'=H/\∀xs,SqL K H a xs->0 xs[i]? x,λi H=>∃xs,SqL K H a xs/\`t<=i⟩
def EO(lo:Int)(n:Nat):It:=⟨λi _=>i<n,λi H x H'=>H'=H/\x=.int (lo+i),λi _=>n<=i⟩
theorem iR{P:GJ}{w:GW}{K:Gr}{tg:Expr}(a it:Addr):Turn P w K tg (EN K a) [it] it (λi h=>h.IsListIter it a i) where
 mem:=`g
 obj:=λi h st b hb=>by
  have e:b=it:=`bC
  subst e;obtain⟨o,e,c,d⟩:=st;exact⟨o,e,λv z=>by rw[d]at z;cases z⟩
 keep:=λi h h' st k=>st.at λo e=>k it `g o e
 item:=by
  intro X hP hw hK hc i Z_ s Z H E I hf st hg;subst hP hw hK;obtain⟨xs,x,hq,hx⟩:=hg;obtain⟨its,rv,p,hz⟩:=I.list hq;obtain⟨u,hu,ru⟩:=rv.get hx;obtain⟨f0,f1,f2,f3,f4,f5⟩:=110 it;refine Nm st p.isList (x:=u) (by simpa using hu) λh' st' sb=>?_;have I1:Inv X Z_ Z H {s with heap:=h'}:=I.turned (t':=s.toks) (λb o hb e=>(sb.2 b hb).trans e) f0 f1 f3 f4 f5;obtain⟨o,e,c,d⟩:=id st';exact 32 u (mY (s:={s with heap:=h'}) e c d ⋯ ⟨x,H,I1,ru,15 λys hy=>by rw[I.list_inj hy hq];exact hx,st',λb hb=>(hf b hb).1⟩)
 done:=by
  intro X hP hw hK hc i Z_ s Z H E I hf st hg;subst hP hw hK;obtain⟨xs,hq,hx⟩:=hg;obtain⟨its,rv,p,hz⟩:=I.list hq;obtain⟨f0,f1,f2,f3,f4,f5⟩:=110 it;have hl:=rv.length;exact wpAny_pyNext_list_end `bu st p.isList (by simp;omega) λh' eb=>15 (I.turned (t':=s.toks) (λb o hb e=>eb b o hb e) f0 f1 f3 f4 f5)
 self:=λ_ _ _ _ _ st h=>wpAny_pyIter_listiter st h
theorem qZ{P:GJ}{w:GW}{K:Gr}{tg:Expr}(it:Addr)(lo:Int)(n:Nat):Turn P w K tg (EO lo n) [it] it (λi h=>NY h it (lo+(i:Nat)*1) ((n:Int)-(i:Nat)) 1) where
 mem:=`g
 obj:=λi h st b hb=>by
  have e:b=it:=`bC
  subst e;exact 8 st λv z=>by
   have z':Mb _=KN v:=z;cases z'
 keep:=λi h h' st k=>k it `g _ st
 item:=by
  intro X hP hw hK hc i Z_ s Z H E I hf st hg;subst hP hw hK;obtain⟨f0,f1,f2,f3,f4,f5⟩:=110 it;have W:=Walks.range (prog:=X.prog) (w:=X.w) `bu it lo 1 n;refine W.item i s _ _ hg st λv h' tk hv st' kk=>?_;obtain⟨t,rfl⟩:=hv;have I1:Inv X Z_ Z H {s with heap:=h',toks:=tk}:=I.turned (λb o hb e=>kk b o `bC e) f0 f1 f3 f4 f5;refine 8 `a (mY (s:={s with heap:=h',toks:=tk}) (n:="range_iterator") st' `a `a ⋯ ⟨.int<|lo+i,H,I1,⟨t,?_⟩,15 `a,st',λb hb=>(hf b hb).1⟩);rw[Int.mul_one]
 done:=by
  intro X hP hw hK hc i Z_ s Z H E I hf st hg;subst hP hw hK;obtain⟨f0,f1,f2,f3,f4,f5⟩:=110 it;exact Np `bu st (by have:n<=i:=hg;omega) λh' eb=>15 (I.turned (t':=s.toks) (λb o hb e=>eb b o hb e) f0 f1 f3 f4 f5)
 self:=λ_ _ _ _ _ st h=>LG st h
section
variable{X:Cx}{tg:Expr}
def sE(K:Gr)(tl:TE):TI:=λZ H R=>tl Z H λx H1=>∃a,2 x `ai (∃xs,SqL K H1 a xs) (R (EN K a) H1)
theorem yX{l:Expr}{tl:TE}(hl:9 l tl):PI X tg l (sE X.K tl):=by
 intro Z_ s Z H R I h;refine 137 (hl Z_ s Z H _ I h) ?_;obtain⟨x,H1,I1,r1,q1⟩:=zz;obtain⟨a,e,⟨xs,hq⟩,q⟩:=q1;subst e;cases r1;obtain⟨its,rv,p,hz⟩:=I1.list hq;refine LH p.isList ?_;refine⟨`ba,[s1.heap.objs.size],_,_,H1,`a,I1.kept (t':=s1.toks) λb o e=>17 e,iR a _,⟨_,86 _,`a,`a⟩,`bm,q⟩;have e:b=`ba:=`bC
 subst e;exact 155 `w `w
theorem vY{Z_:`N}{Z:St}{H:Hp}{s:Gx}{R:11 It Hp}{E:`A}{lo hi:Int}{t u v:Tok}{tk:Nat}(I:`n)(h1: -(2^62)<=lo)(h2:lo<2^62)(h3: -(2^62)<=hi)(h4:hi<2^62)
  (q:R (EO lo (hi-lo).toNat) H):wpAny (`aM) X.A (pyIter `bY) (EM X Z_ Z tg R) E {s with heap:=s.heap.push {cls:=.type "range",data:=.fields #[.int lo t,.int hi u,.int 1 v]},toks:=tk}:=by
 refine wpAny_pyIter_range (Rv ..) (small_one h1 h2 h3 h4) ?_;have I1:Inv X Z_ Z H {s with heap:=s.heap.push {cls:=.type "range",data:=.fields #[.int lo t,.int hi u,.int 1 v]},toks:=tk}:=I.kept λb o e=>17 e;refine⟨(s.heap.push {cls:=.type "range",data:=.fields #[.int lo t,.int hi u,.int 1 v]}).objs.size,[(s.heap.push {cls:=.type "range",data:=.fields #[.int lo t,.int hi u,.int 1 v]}).objs.size],_,_,H,`a,I1.kept (t':=tk) λb o e=>17 e,qZ _ lo (hi-lo).toNat,?_,`bm,q⟩
 ·have e1:lo+((0:Nat):Int)*1=lo:=`g
  have e2:(((hi-lo).toNat:Nat):Int)-((0:Nat):Int)=IE lo hi 1:=by rw[rangeSize_one];split<;>omega
  show NY _ _ (lo+((0:Nat):Int)*1) ((((hi-lo).toNat:Nat):Int)-((0:Nat):Int)) 1;rw[e1,e2];exact 86 _
 ·have e:b=(s.heap.push {cls:=.type "range",data:=.fields #[.int lo t,.int hi u,.int 1 v]}).objs.size:=`bC
  subst e;exact 155 `w `w
def AG(ta:TA):TI:=λZ H R=>ta Z H λvs H1=>∃j:Int,vs=[.int j]/\ -(2^62)<=j/\j<2^62/\R (EO 0 j.toNat) H1
theorem jU{a:Expr}{ta:TA}{p pos:Pos}(hg:Gl X "range")(hm:7 (X.mg "range"))(ha:PA X [a] ta)(hs:67 [a]=[(false,30 a)]:=by rfl):PI X tg (123 "range" p [a] [] pos) (AG ta):=by
 intro Z_ s Z H R I h;refine QW (gD I hg hm boot_range<|Ie (159 (ha pos Z_ s Z H _ I h) ?_) hs `a);obtain⟨j,e,q1,q2,q⟩:=q1;subst e;cases r1 with
 |cons r rr=>
  cases rr;obtain⟨t,rfl⟩:=r;exact call_range_1 (vY I1 `b `b q1 q2<|by simpa using q)
def uo(wi:TI)(g:TG)(tb:TS):TS:=λD Z H=>wi Z H λJ H1=>∃W:Nat->Nat->St->Hp->Prop,(∃m,W 0 m Z H1)/\∀i m Z H,W i m Z H->J.stop i H/\D.nx Z H\/(J.go i H/\∃N:St->Hp->Prop,(∀σ' H',N σ' H'->∃m',m'<m/\W (i+1) m' σ' H')/\∀x H',J.yld i H x H'->g x Z H' λσ2 H2=>tb {D with nx:=N,ct:=N,bk:=D.nx} σ2 H2)
def jh(fp:`R)(h:Heap):`N:=fp.filterMap λb=>(h.get? b).map λo=>(b,o)
theorem dY{fp:`R}{h:Heap}{b:Addr}{o:Obj}(hb:b∈fp)(e:35 b o):(b,o)∈jh fp h:=Lu.mpr ⟨b,hb,by rw[e];rfl⟩
theorem ur{fp:`R}{h:Heap}{p:Addr×Obj}(hp:p∈jh fp h):p.1∈fp/\35 p.1 p.2:=by
 obtain⟨b,hb,e⟩:=Lu.mp hp;cases q:h.get? b with
 |none=>rw[q]at e;cases e
 |some o=>
  rw[q]at e;have e':(b,o)=p:=Ha e;subst e';exact⟨hb,q⟩
theorem Inv.pinned{Z_:`N}{Z:St}{H:Hp}{s:Gx}{fp:`R}(I:`n)(hf:112 X Z_ H b)(ho:∀b∈fp,∃o,22 b o/\∀v,o.data≠.cell v):Inv X (Z_++jh fp `i) Z H s:=
 I.pins_of λp hp=>(HA.mp hp).elim (λz=>I.pin p<|Hd _ z) λz=>by
  obtain⟨hb,e⟩:=ur z;obtain⟨f0,f1,f2,_⟩:=hf p.1 hb;obtain⟨o,e',d⟩:=ho p.1 hb;rw[e]at e';cases e';exact⟨e,f0,f1,f2,d⟩
theorem Inv.unpinned{Z_ pl:`N}{Z:St}{H:Hp}{s:Gx}(I:Inv X (Z_++pl) Z H s):`n:=I.pins_of λp hp=>I.pin p (Hd _<|JN _ hp)
theorem cY{iter:Expr}{body:List Stmt}{wi:TI}{g:TG}{tb:TS}{pos:Pos}(hp:QV `aM X.A `D X.xe)(hc:`bw)(hi:PI X tg iter wi)(hg:PG X tg g)(hb:PSs X body tb)
  (hs:∀x,158 `D x=pure x:=by intro _;rfl):PS X (.For tg iter body [] pos) (uo wi g tb):=by
 intro Z_ s Z H D I h;refine wpAny_For (cE (hi Z_ s Z H _ I h) λv s1 h1=>cE h1 λitv s2 h2=>?_) hs;obtain⟨it,fp,tn,J,H2,e,I2,T,st2,f2,W,⟨m0,w0⟩,turn⟩:=h2;subst e;have stat:∀{H':Hp},140 (H' b)->112 X Z_ H' b:=λhn b hb=>⟨hn b hb,(f2 b hb).2⟩
 refine Oo (λn s'=>∃i σ' H',38 X σ' H' s'/\tn i s'.heap/\140 (H' b)/\W i n σ' H') ?_ m0 ⟨0,Z,H2,I2,st2,λb hb=>(f2 b hb).1,w0⟩;rintro n s3 ⟨i,σ3,H3,I3,st3,fr3,w3⟩;rcases turn i n σ3 H3 w3 with⟨stop,qn⟩|⟨go,N,hN,step⟩
 ·refine IM hp (cE (T.done X `a `a `a hc i Z_ s3 σ3 H3 X.xe I3 (stat fr3) st3 stop) λr s4 zz=>?_);obtain⟨hr,I4⟩:=zz;subst hr;exact KI ⟨σ3,H3,I4,qn⟩
 ·refine IM hp (cE (T.item X `a `a `a hc i Z_ s3 σ3 H3 X.xe I3 (stat fr3) st3 go) λr s4 zz=>?_);obtain⟨u,hr,h4⟩:=zz;subst hr;refine IM hp (cE h4 λ_ s5 zz=>?_);obtain⟨x,H5,I5,r5,y5,st5,fr5⟩:=zz;have I5':=I5.pinned (stat fr5) (T.obj _ _ st5);refine IM hp (cE (hg _ s5 σ3 H5 x u _ I5' r5<|step x H5 y5) λ_ s6 zz=>?_);obtain⟨σ6,H6,I6,q6⟩:=zz;refine IM hp (cE (hb _ s6 σ6 H6 _ I6 q6) λf s7 q7=>?_);have again:∀{σ7:St}{H7:Hp},Inv X (Z_++jh fp s5.heap) σ7 H7 s7->N σ7 H7->∃m,m<n/\∃i σ' H',38 X σ' H' s7/\tn i s7.heap/\140 (H' b)/\W i m σ' H':=λ{σ7 H7}I7 n7=>by
   obtain⟨m',hm,w7⟩:=hN σ7 H7 n7;refine⟨m',hm,i+1,σ7,H7,I7.unpinned,T.keep _ _ _ st5 λb hb o e=>(I7.pin (b,o)<|Hd _<|Hd _<|dY hb e).1,`bm,w7⟩;obtain⟨o,e,d⟩:=T.obj _ _ st5 b hb;exact(I7.pin (b,o)<|Hd _<|Hd _<|dY hb e).2.1
  cases f with
  |next=>obtain⟨σ7,H7,I7,n7⟩:=q7;exact again I7 n7
  |cont=>obtain⟨σ7,H7,I7,n7⟩:=q7;exact again I7 n7
  |brk=>obtain⟨σ7,H7,I7,q7⟩:=q7;exact⟨σ7,H7,I7.unpinned,q7⟩
  |ret v=>obtain⟨x7,σ7,H7,I7,r7,q7⟩:=q7;exact⟨x7,σ7,H7,I7.unpinned,r7,q7⟩
end
abbrev R2:=V->V->11 Hp VK
def OpR(X:Cx)(f:Gu->Gu->Sem Gu)(r:R2):Prop:=
 ∀(Z_:List (Addr×Obj))(s:Gx)(Z:St)(H:Hp)(x y:V)(v u:Gu)(Q:VK),20 `n (RelV x v) (78 y) (r x y H Q) (92 X.w X.A (f v u) (EP X Z_ Z Q) X.xe)
def ER(X:Cx)(f:Gu->Sem Gu)(r:82 V Hp VK):Prop:=
 ∀(Z_:List (Addr×Obj))(s:Gx)(Z:St)(H:Hp)(x:V)(v:Gu)(Q:VK),`n->RelV x v->r x H Q->92 X.w X.A (f v) (EP X Z_ Z Q) X.xe
def eY(X:Cx)(f:Gu)(r:82 `E Hp VK):Prop:=
 ∀(Z_:List (Addr×Obj))(s:Gx)(Z:St)(H:Hp)(xs:List V)(us:List Gu)(Q:VK),`n->99 xs->r xs H Q->92 X.w X.A (call f us) (EP X Z_ Z Q) X.xe
def d9(r:R2)(ta tb:TE):TE:=λZ H Q=>ta Z H λx H1=>tb Z H1 λy H2=>r x y H2 Q
def eV(r:82 V Hp VK)(ta:TE):TE:=λZ H Q=>ta Z H λx H1=>r x H1 Q
def rI(C:11 `c `c)(g:`c->`c->V):R2:=λx y H Q=>∃i j,2 x (.int i) (y=.int j) (C i j/\Q (g i j) H)
def dZ(g:`c->`c->V):R2:=λx y H Q=>∃i j,2 x (.int i) (y=.int j) (Q (g i j) H)
def rU(g:`c->V):82 V Hp VK:=λx H Q=>∃i,x=.int i/\Q (g i) H
section
variable{X:Cx}{a b c:Expr}{ta tb tc:TE}{pos:Pos}
theorem Bh(ha:9 a ta)(hb:9 b tb){Z_:`N}{s:Gx}{Z:St}{H:Hp}{R:82 V V Hp}(I:`n)
  (h:ta Z H λx H1=>tb Z H1 λy H2=>R x y H2) {Q:`A} {f:Gu->Gu->Sem Gu}
  (hf:∀v u s2 x y H2,20 (38 X Z H2 s2) (RelV x v) (78 y) (R x y H2) (wpAny `aM X.A (f v u) Q X.xe s2)):
  92 X.w X.A (30 a) (λv s₁=>wpAny `aM X.A (30 b) (λu s₂=>wpAny `aM X.A (f v u) Q X.xe s₂) X.xe s₁) X.xe:=by
 refine 137 (ha Z_ s Z H _ I h) ?_;obtain⟨x,H1,I1,r1,q1⟩:=zz;refine cE (hb Z_ s1 Z H1 _ I1 q1) λu s2 zz=>?_;obtain⟨y,H2,I2,r2,q2⟩:=zz;exact hf v u s2 x y H2 I2 r1 r2 q2
theorem ah{op:Ru}{r:R2}(ho:OpR X (binaryOp op) r)(ha:9 a ta)(hb:9 b tb):9 (.BinOp a op b pos) (d9 r ta tb):=by
 intro Z_ s Z H Q I h;exact wpAny_BinOp (Bh ha hb I h λv u s2 x y H2 I2 rx ry q=>ho Z_ s2 Z H2 x y v u Q I2 rx ry q)
theorem kE{op:UnaryOp}{r:82 V Hp VK}(ho:ER X (unaryOp op) r)(ha:9 a ta):9 (.UnaryOp op a pos) (eV r ta):=by
 intro Z_ s Z H Q I h;refine UnaryOp_ (137 (ha Z_ s Z H _ I h) ?_);obtain⟨x,H1,I1,r1,q1⟩:=zz;exact ho Z_ s1 Z H1 x v Q I1 r1 q1
theorem DR{f:Gu->Gu->Sem Gu}{C:11 `c `c}{g:`c->`c->`c}
  (rule:∀(i j:Int)(t u:Tok)(s:Gx)(Q:`A)(E:`A),C i j->Q (.int (g i j) s.toks) {s with toks:=s.toks+1}->wpAny (`aM) X.A (f (.int i t)<|.int j u) Q E s):
  OpR X f (rI C λi j=>.int<|g i j):=by
 intro Z_ s Z H x y v u Q I rx ry h;obtain⟨i,j,rfl,rfl,hc,q⟩:=h;obtain⟨t,rfl⟩:=rx;obtain⟨t',rfl⟩:=ry;exact rule i j t t' s _ _ hc ⟨.int<|g i j,H,I.tok _,`au,q⟩
theorem CJ{f:Gu->Gu->Sem Gu}{g:`c->`c->`c}
  (rule:∀(i j:Int)(t u:Tok)(s:Gx)(Q:`A)(E:`A),Q (.int (g i j) s.toks) {s with toks:=s.toks+1}->wpAny (`aM) X.A (f (.int i t)<|.int j u) Q E s):
  OpR X f (dZ λi j=>.int<|g i j):=by
 intro Z_ s Z H x y v u Q I rx ry h;obtain⟨i,j,rfl,rfl,q⟩:=h;obtain⟨t,rfl⟩:=rx;obtain⟨t',rfl⟩:=ry;exact rule i j t t' s _ _ ⟨.int<|g i j,H,I.tok _,`au,q⟩
theorem yY{f:Gu->Gu->Sem Gu}{g:`c->`c->Bool}
  (rule:∀(i j:Int)(t u:Tok)(s:Gx)(Q:Gu->Gx->Prop)(E:Gu->Gx->Prop),Q (.bool<|g i j) s->92 X.w X.A (f (.int i t)<|.int j u) Q E):
  OpR X f (dZ λi j=>.bl<|g i j):=by
 intro Z_ s Z H x y v u Q I rx ry h;obtain⟨i,j,rfl,rfl,q⟩:=h;obtain⟨t,rfl⟩:=rx;obtain⟨t',rfl⟩:=ry;exact rule i j t t' s _ _ ⟨.bl<|g i j,H,I,`a,q⟩
def CK(i j:Int):Prop:=0<j/\j<1073741824
def CL(i j:Int):Prop:=0<=j/\j<=1000000/\i.natAbs<2^64
def CMul(i j:Int):Prop:=(-(2^64)<i/\i<2^64)\/(-(2^64)<j/\j<2^64)
theorem CMul.ok{i j:Int}(h:CMul i j):IntMulOk i j:=by
 rcases h with⟨h1,h2⟩|⟨h1,h2⟩
 ·exact .of_left (Qt h1 h2)
 ·exact .of_right (Qt h1 h2)
theorem bz:OpR X (binaryOp .Add) (dZ λi j=>.int<|i+j):=CJ λ_ _ _ _ _ _ _ q=>add_int q
theorem ip:OpR X (binaryOp .Sub) (dZ λi j=>.int<|i-j):=CJ λ_ _ _ _ _ _ _ q=>sub_int q
theorem gF:OpR X (binaryOp .Mult) (rI CMul λi j=>.int<|i*j):=DR λ_ _ _ _ _ _ _ hc q=>mul_int q hc.ok
theorem bg:OpR X (binaryOp .FloorDiv) (rI CK λi j=>.int<|i/j):=DR λi j _ _ _ _ _ hc q=>by
 have h1:(0:Int)<j:=hc.1;have h2:j<1073741824:=hc.2;exact floordiv_int `b (by rw[Int.fdiv_eq_ediv_of_nonneg i `b];exact q) (.inl<|PyProof.noPylong_small `b)
theorem aI:OpR X (binaryOp .Mod) (rI (λ_ j=>0<j) λi j=>.int<|i%j):=DR λi j _ _ _ _ _ hc q=>by
 have h1:(0:Int)<j:=hc;exact mod_int' `b (by rw[Int.fmod_eq_emod_of_nonneg i `b];exact q)
theorem vZ:OpR X (binaryOp .Pow) (rI CL λi j=>.int<|i^j.toNat):=DR λ_ _ _ _ _ _ _ hc q=>pow_int_small hc.1 hc.2.1 hc.2.2 q
theorem Fu{f:Gu->Sem Gu}{g:`c->`c}
  (rule:∀(i:Int)(t:Tok)(s:Gx)(Q:`A)(E:`A),Q (.int (g i) s.toks) {s with toks:=s.toks+1}->wpAny (`aM) X.A (f<|.int i t) Q E s):
  ER X f (rU λi=>.int<|g i):=by
 intro Z_ s Z H x v Q I rx h;obtain⟨i,rfl,q⟩:=h;obtain⟨t,rfl⟩:=rx;exact rule i t s _ _ ⟨.int<|g i,H,I.tok _,`au,q⟩
theorem iq:ER X (unaryOp .USub) (rU λi=>.int<|-i):=Fu λ_ _ _ _ _ q=>neg_int q
end
def cA:V->V->Bool
 | .non,.non=>true| .non,.int _=>true| .int _,.non=>true| .non,.bl _=>true| .bl _,.non=>true| .non,.str _=>true| .str _,.non=>true
 | .int _,.int _=>true| .bl _,.bl _=>true| .str _,.str _=>true| .byt _,.byt _=>true
 | .int _,.str _=>true| .str _,.int _=>true| .bl _,.str _=>true| .str _,.bl _=>true
 |_,_=>false
def eZ:R2:=λx y H Q=>1 (cA x y)/\Q (.bl<|decide<|x=y) H
def f6:R2:=λx y H Q=>1 (cA x y)/\Q (.bl<|!decide (x=y)) H
theorem sF{i j:Int}:decide (V.int i=V.int j)=(i==j):=by
 rw[Jz];simp
theorem w4{i j:Bool}:decide (V.bl i=V.bl j)=(i==j):=by
 rw[Jz];simp
theorem sG{i j:Str}:decide (V.str i=V.str j)=(i==j):=by
 rw[Jz];simp
theorem sH{i j:Array UInt8}:decide (V.byt i=V.byt j)=(i.toList==j.toList):=by
 rw[Jz];cases i;cases j;simp
section
variable{X:Cx}{a b c:Expr}{ta tb tc:TE}{pos:Pos}
theorem bu{Z_:`N}{Z:St}{H:Hp}{s:Gx}{Q:VK}{k k':Bool}(I:`n)(q:Q (.bl k) H)(e:k=k'):EP X Z_ Z Q (.bool k') s:=by
 subst e;exact⟨.bl k,H,I,`a,q⟩
theorem bS:141 X .Eq eZ:=by
 intro Z_ s Z H x y v u Q I rx ry h;obtain⟨hs,q⟩:=h;cases x with
 |non=>
  cases rx;cases y with
  |non=>cases ry;exact Qh (97 I q)
  |bl j=>cases ry;exact Qi (97 I q)
  |int j=>obtain⟨t',rfl⟩:=ry;exact Qu (97 I q)
  |str j=>obtain⟨t',rfl⟩:=ry;exact Qw (97 I q)
  |_=>exact absurd (show `bB from hs) GL
 |bl i=>
  cases rx;cases y with
  |non=>cases ry;exact Qj (97 I q)
  |bl j=>cases ry;exact eq_bool (bu I q w4)
  |str j=>obtain⟨t',rfl⟩:=ry;exact Qk (97 I q)
  |_=>exact absurd (show `bB from hs) GL
 |int i=>
  obtain⟨t,rfl⟩:=rx;cases y with
  |non=>cases ry;exact Qx (97 I q)
  |int j=>obtain⟨t',rfl⟩:=ry;exact eq_int (bu I q sF)
  |str j=>obtain⟨t',rfl⟩:=ry;exact Qy (97 I q)
  |_=>exact absurd (show `bB from hs) GL
 |str i=>
  obtain⟨t,rfl⟩:=rx;cases y with
  |non=>cases ry;exact Qz (97 I q)
  |bl j=>cases ry;exact Ql (97 I q)
  |int j=>obtain⟨t',rfl⟩:=ry;exact QA (97 I q)
  |str j=>obtain⟨t',rfl⟩:=ry;exact eq_str (bu I q sG)
  |_=>exact absurd (show `bB from hs) GL
 |byt i=>
  obtain⟨t,rfl⟩:=rx;cases y with
  |byt j=>obtain⟨t',rfl⟩:=ry;exact PySem.W.eq_bytes (bu I q sH)
  |_=>exact absurd (show `bB from hs) GL
 |_=>cases y<;>exact absurd (show `bB from hs) GL
theorem ir:141 X .NotEq f6:=by
 intro Z_ s Z H x y v u Q I rx ry h;obtain⟨hs,q⟩:=h;cases x with
 |non=>
  cases rx;cases y with
  |non=>cases ry;exact Qm (97 I q)
  |bl j=>cases ry;exact Qn (97 I q)
  |int j=>obtain⟨t',rfl⟩:=ry;exact QB (97 I q)
  |str j=>obtain⟨t',rfl⟩:=ry;exact QC (97 I q)
  |_=>exact absurd (show `bB from hs) GL
 |bl i=>
  cases rx;cases y with
  |non=>cases ry;exact Qo (97 I q)
  |bl j=>cases ry;exact ne_bool (bu I q<|congrArg not w4)
  |str j=>obtain⟨t',rfl⟩:=ry;exact Qp (97 I q)
  |_=>exact absurd (show `bB from hs) GL
 |int i=>
  obtain⟨t,rfl⟩:=rx;cases y with
  |non=>cases ry;exact QD (97 I q)
  |int j=>obtain⟨t',rfl⟩:=ry;exact ne_int (bu I q<|congrArg not sF)
  |str j=>obtain⟨t',rfl⟩:=ry;exact QE (97 I q)
  |_=>exact absurd (show `bB from hs) GL
 |str i=>
  obtain⟨t,rfl⟩:=rx;cases y with
  |non=>cases ry;exact QF (97 I q)
  |bl j=>cases ry;exact Qq (97 I q)
  |int j=>obtain⟨t',rfl⟩:=ry;exact QG (97 I q)
  |str j=>obtain⟨t',rfl⟩:=ry;exact ne_str (bu I q<|congrArg not sG)
  |_=>exact absurd (show `bB from hs) GL
 |byt i=>
  obtain⟨t,rfl⟩:=rx;cases y with
  |byt j=>obtain⟨t',rfl⟩:=ry;exact PySem.W.ne_bytes (bu I q<|congrArg not sH)
  |_=>exact absurd (show `bB from hs) GL
 |_=>cases y<;>exact absurd (show `bB from hs) GL
theorem i9:141 X .Lt (dZ λi j=>.bl<|decide<|i<j):=yY λ_ _ _ _ _ _ _ q=>lt_int q
theorem w5:141 X .LtE (dZ λi j=>.bl<|decide<|i<=j):=yY λ_ _ _ _ _ _ _ q=>le_int q
theorem pE:141 X .Gt (dZ λi j=>.bl<|decide<|j<i):=yY λ_ _ _ _ _ _ _ q=>gt_int q
theorem mZ:141 X .GtE (dZ λi j=>.bl<|decide<|j<=i):=yY λ_ _ _ _ _ _ _ q=>ge_int q
theorem uv:141 X .In (λx y H Q=>∃i j,2 x (.str i) (y=.str j)<|Q (.bl<|!(LB j i 0 j.length 1).isEmpty) H):=by
 intro Z_ s Z H x y v u Q I rx ry h;obtain⟨i,j,rfl,rfl,q⟩:=h;obtain⟨t,rfl⟩:=rx;obtain⟨t',rfl⟩:=ry;exact in_str (bu I q `a)
theorem op_isN:141 X .Is (λx y H Q=>y=.non/\Q (.bl<|decide<|x=.non) H):=by
 intro Z_ s Z H x y v u Q I rx ry h;obtain⟨rfl,q⟩:=h;cases ry;refine is_none_gen (bu I q ?_)
 cases x<;>first
  |(cases rx;rfl)
  |(obtain⟨t,rfl⟩:=rx;rfl)
theorem OpR.or{f:Gu->Gu->Sem Gu}{r r':R2}(h:OpR X f r)(h':OpR X f r'):OpR X f (λx y H Q=>r x y H Q\/r' x y H Q):=by
 intro Z_ s Z H x y v u Q I rx ry q;rcases q with q|q
 ·exact h Z_ s Z H x y v u Q I rx ry q
 ·exact h' Z_ s Z H x y v u Q I rx ry q
theorem ax(b:Expr){op:CmpOp}(h:op≠.In:=by decide)(h2:op≠.NotIn:=by decide):12 (behindInMarks op b):=by
 have e1:12 (op==CmpOp.In):=by cases op<;>first|rfl|exact absurd `a h
 have e2:12 (op==CmpOp.NotIn):=by cases op<;>first|rfl|exact absurd `a h2
 cases b<;>simp[behindInMarks,e1,e2]
theorem cM{op:CmpOp}{r:R2}(ho:141 X op r)(ha:9 a ta)(hb:9 b tb)(hm:12 (behindInMarks op b)):9 (.Compare a [op] [b] pos) (d9 r ta tb):=by
 intro Z_ s Z H Q I h;exact wpAny_Compare1 (Bh ha hb I h λv u s2 x y H2 I2 rx ry q=>ho Z_ s2 Z H2 x y v u Q I2 rx ry q) hm
def br(t:TE):TT:=λZ H Q=>t Z H λx H'=>∃k,x=.bl k/\Q k H'
theorem aw{op:CmpOp}{r:R2}(ho:141 X op r)(ha:9 a ta)(hb:9 b tb)(hm:12 (behindInMarks op b)):PT X (.Compare a [op] [b] pos) (br<|d9 r ta tb):=by
 intro Z_ s Z H Q I h;refine wpAny_isTrue_Compare1 (cE (ha Z_ s Z H _ I h) λv s1⟨x,H1,I1,r1,q1⟩=>cE (hb Z_ s1 Z H1 _ I1 q1) λu s2⟨y,H2,I2,r2,q2⟩=>cE (ho Z_ s2 Z H2 x y v u _ I2 r1 r2 q2) λc s3⟨z,H3,I3,r3,k,e,q3⟩=>?_) hm
 subst e;cases r3;exact Km ⟨H3,I3,q3⟩
theorem lh:(sizeLine:Nat)<2^63:=by rw[Iq];decide
theorem bb:OpR X (binaryOp .Add) (λx y H Q=>∃i j,2 x (.str i) (y=.str j)<|69 (i.length+j.length)/\Q (.str<|i++j) H):=by
 intro Z_ s Z H x y v u Q I rx ry h;obtain⟨i,j,rfl,rfl,hz,q⟩:=h;obtain⟨t,rfl⟩:=rx;obtain⟨t',rfl⟩:=ry;exact add_str (λt' tk=>⟨.str<|i++j,H,I.tok _,`au,q⟩) hz
theorem pF:OpR X (inplaceOp .Add) (λx y H Q=>∃i j,2 x (.str i) (y=.str j)<|69 (i.length+j.length)/\Q (.str<|i++j) H):=by
 intro Z_ s Z H x y v u Q I rx ry h;obtain⟨i,j,rfl,rfl,hz,q⟩:=h;obtain⟨t,rfl⟩:=rx;obtain⟨t',rfl⟩:=ry;exact iadd_str (λt' tk=>⟨.str<|i++j,H,I.tok _,`au,q⟩) hz
theorem gL{x:V}{us:`aq}(r:99 [x]):∃u,us=[u]/\78 x:=by
 cases r with
 |cons r1 r2=>cases r2;exact 8 `a r1
theorem pG{x y:V}{us:`aq}(r:99 [x,y]):∃u w',2 us [u,w'] (78 x) (RelV y w'):=by
 cases r with
 |cons r1 r2=>
  cases r2 with
  |cons r3 r4=>cases r4;exact⟨_,_,`a,r1,r3⟩
theorem lj:eY X (.builtin "abs") λxs H Q=>∃i,xs=[.int i]/\Q (.int (if i<0 then -i else i)) H:=by
 intro Z_ s Z H xs us Q I r h;obtain⟨i,rfl,q⟩:=h;obtain⟨u,rfl,t,rfl⟩:=gL r;exact call_abs_int λu tk=>⟨.int (if i<0 then -i else i),H,I.tok _,`au,q⟩
theorem jV(hc:`bw):eY X (.builtin "max") λxs H Q=>∃i j,xs=[.int i,.int j]/\Q (.int (if j>i then j else i)) H:=by
 intro Z_ s Z H xs us Q I r h;obtain⟨i,j,rfl,q⟩:=h;obtain⟨u,w',rfl,⟨t,rfl⟩,⟨t',rfl⟩⟩:=pG r;refine max_two_ints `bu λh' tk k=>⟨_,H,I.kept k,?_,q⟩
 by_cases hj:j>i;·rw[Z3 hj,Z3 hj];exact `au
 ·rw[Z4 hj,Z4 hj];exact `au
theorem n6:eY X (.type "int") λxs H Q=>(∃i,xs=[.int i]/\Q (.int i) H)\/∃k,xs=[.bl k]/\Q (.int (if k then 1 else 0)) H:=by
 intro Z_ s Z H xs us Q I r h;rcases h with⟨i,rfl,q⟩|⟨k,rfl,q⟩
 ·obtain⟨u,rfl,t,rfl⟩:=gL r;exact call_int_int ⟨.int i,H,I,`au,q⟩
 ·obtain⟨u,rfl,r1⟩:=gL r;cases r1;exact call_int_bool ⟨.int (if k then 1 else 0),H,I.tok _,`au,q⟩
def r0(K:Gr)(x:V)(H:Hp)(n:Nat):Prop:=
 match x with
 | .str y=>69 y.length/\n=y.length
 | .byt y=>69 y.size/\n=y.size
 | .ref p=>(∃xs,SqL K H p xs/\121 n)\/∃xs,SqT K H p xs/\121 n
 |_=>False
theorem w6:eY X (.builtin "len") λxs H Q=>∃x n,2 xs [x] (r0 X.K x H n) (Q (.int n) H):=by
 intro Z_ s Z H xs us Q I r h;obtain⟨x,n,rfl,e,q⟩:=h;obtain⟨u,rfl,rx⟩:=gL r;have hl:=lh;have hs:sizeLine=16777216:=Iq;cases x with
 |str y=>
  obtain⟨t,rfl⟩:=rx;obtain⟨hy,e'⟩:69 y.length/\n=y.length:=e;subst e';exact len_str `b ⟨.int _,H,I.tok _,`au,q⟩
 |byt y=>
  obtain⟨t,rfl⟩:=rx;obtain⟨hy,e'⟩:69 y.size/\n=y.size:=e;subst e';exact PySem.W.len_bytes `b ⟨.int _,H,I.tok _,`au,q⟩
 |ref p=>
  cases rx;have e':(∃xs,SqL X.K H p xs/\121 n)\/∃xs,SqT X.K H p xs/\121 n:=e;rcases e' with⟨xs,hx,e'⟩|⟨xs,hx,e'⟩
  ·subst e';obtain⟨its,r',pl,hz⟩:=I.list hx;have hlen:=r'.length;exact Calls.call_len_list pl.isList (by simp only[GN];omega) ⟨.int `t,H,I.tok _,42<|by simp only[GN];rw[hlen],q⟩
  ·subst e';obtain⟨its,r',pl,hz⟩:=I.tuple hx;have hlen:=r'.length;exact len_tuple pl (by simp only[GN];omega) ⟨.int `t,H,I.tok _,42<|by simp only[GN];rw[hlen],q⟩
 |_=>exact(show False from e).elim
end
structure ObjM(h:Heap)(x dx C:Addr)(mA:Str->`M):Prop where
 obj:35 x (NC C dx)
 ns:h.Ns1 dx mA
 ne:dx≠x
theorem uw{h:Heap}{dx:Addr}{mA:Str->`M}(n:h.Ns1 dx mA):∃od,35 dx od/\∀name,0 (NZ name od) (mA name):=by
 obtain⟨o,es,ep,ho,hd,hk,_,hm⟩:=n;refine⟨o,ho,λname=>?_⟩;have e:=hm name;unfold nsFind findBy at e;rw[<-Array.find?_toList]at e;unfold NZ;rw[hd];dsimp only;split
 ·rename_i y q;rw[q]at e;exact congrArg some e
 ·rename_i q;rw[q]at e;have a:12 (es.toList.any (·.refKey)):=by
   rw[List.any_eq_false];intro y hy;obtain⟨z,t,hkey⟩:=hk y (O0.mp hy);simp[DictEntry.refKey,hkey]
  have a':¬es.toList.any (·.refKey)=true:=by rw[a];exact GL
  rw[Z4 a'];exact congrArg some e
theorem ObjM.look{h:Heap}{x dx C:Addr}{mA:Str->`M}(I:ObjM h x dx C mA):∃od,LJ h x (NC C dx) C (some od)/\∀name,0 (NZ name od) (mA name):=
 let ⟨od,ho,hl⟩:=uw I.ns
 ⟨od,⟨I.obj,`a,`a,ho⟩,hl⟩
theorem RelO.some_of{v:V}{o:`M}(r:RelO (some v) o):∃u,0 o u/\78 v:=by
 cases o with
 |none=>exact(show False from r).elim
 |some u=>exact 32 u r
section
variable{P:GJ}{w:GW}{H H':Hp}{h h':Heap}{a C dx:Addr}{fs fs':6 Str V}
theorem yZ(hok:HOk P w H h)(e:21 a (.ins C dx fs)):∃mA,ObjM h a dx C mA/\(∀f,RelO (fs.lookup f)<|mA f)/\R8 mA (fs.map (·.1))/\fs.length<=1000/\21 dx (.own a):=by
 obtain⟨d,z,ne,ob,mA,n,r,q⟩:=(show ObjOk P w H h a (.ins C dx fs)from hok a _ e)
 exact⟨mA,⟨ob,n,ne⟩,r,q,z,d⟩
end
structure Cls(K:Gr)(C:Addr):Prop where
 pg:1 (Pn K C QX)
 hd:1 (PySem.W.hasDictIn K C)
 po:1 (PySem.W.plainOver K C)
 sa:58 (LK K `aI "__setattr__") (.builtin "object.__setattr__")
theorem Cls.get{K:Gr}{C:Addr}(c:Cls K C)(f:Str):1 (Pn K C f):=c.pg
section
variable{X:Cx}{Z_:`N}{Z:St}{H:Hp}{s:Gx}{A:Hk}{E:`A}{Q:`A}{c:Gu}{b:Bool}
inductive TyOf(K:Gr)(H:Hp):V->Gu->Prop where
 |non:TyOf K H .non (.type "NoneType")
 |bl (x:Bool):TyOf K H (.bl x) (.type "bool")
 |int (i:Int):TyOf K H (.int i) (.type "int")
 |str (x:Str):TyOf K H (.str x) (.type "str")
 |flt (x:UInt64):TyOf K H (.flt x) (.type "float")
 |lst {a:Addr} {xs:`E} (e:21 a (.lst xs)):TyOf K H `ai `bi
 |frz {a:Addr} {o:Obj} {xs:`E} (e:21 a (.frz o<|.lst xs)):TyOf K H `ai `bi
 |tup {a:Addr} {xs:`E} (e:SqT K H a xs):TyOf K H `ai `bo
 |dK {a:Addr} {kvs:6 Key V} (e:21 a (.dK kvs)):TyOf K H `ai (.type "dict")
 |dT {a:Addr} {kvs:6 (List Key) V} (e:21 a (.dT kvs)):TyOf K H `ai (.type "dict")
 | ins {a C dx:Addr} {fs:6 Str V} (e:21 a (.ins C dx fs)) (cl:Cls K C) (ha:58 (LK K `aI "__class__") `bI)
   (hn:58 (MR K `bI "__get__") `cf) (htk:0 (NF K `bI) `o)
   (hm:0 (PySem.W.mroIn K C<|.type "object") `o):TyOf K H `ai `aI
theorem ux{x:V}{u t:Gu}(I:`n)(rx:78 x)(ty:TyOf X.K H x t)(e:0 (HD X.K t c) b)(h:∀tk,Q (.bool b) {s with toks:=tk}):
  92 X.w A (call (.builtin "isinstance") [u,c]) Q E:=by
 cases ty with
 |non=>cases (show u=Hl from rx);exact IP PySem.W.kitx_none I.kIn L7 e (λz=>nomatch z) h
 |bl y=>cases (show u=Q0 y from rx);exact IP PySem.W.kitx_bool I.kIn L7 e (λz=>nomatch z) h
 |int i=>obtain⟨t,q⟩:=(show ∃t,u=Nb i t from rx);cases q;exact IP PySem.W.kitx_int I.kIn L7 e (λz=>nomatch z) h
 |str y=>obtain⟨t,q⟩:=(show ∃t,u=Pk y t from rx);cases q;exact IP PySem.W.kitx_str I.kIn L7 e (λz=>nomatch z) h
 |flt y=>obtain⟨t,q⟩:=(show ∃t,u=Rr y t from rx);cases q;exact IP PySem.W.kitx_float I.kIn L7 e (λz=>nomatch z) h
 | @lst a xs ea=>
  cases (show u=GZ a from rx);obtain⟨_,_,n,_,h1⟩:=(show ObjOk `S X.w H `i a (.lst xs)from I.hok a _ ea)
  exact IP OY I.kIn (8 h1 `a) e (λz=>nomatch z) h
 | @frz a ob xs ea=>
  cases (show u=GZ a from rx);obtain⟨_,_,_,n,_,h1⟩:=(show ObjOk `S X.w H `i a (.frz ob<|.lst xs)from I.hok a _ ea)
  exact IP OY I.kIn (8 h1 `a) e (λz=>nomatch z) h
 | @tup a xs ea=>
  cases (show u=GZ a from rx);obtain⟨_,_,p,_⟩:=I.tuple ea;obtain⟨o,h1,h2,_⟩:=p;exact IP PySem.W.kitx_tuple I.kIn ⟨o,h1,h2⟩ e (λz=>nomatch z) h
 | @dK a kvs ea=>
  cases (show u=GZ a from rx);obtain⟨_,_,vs,_,p⟩:=(show ObjOk `S X.w H `i a (.dK kvs)from I.hok a _ ea)
  obtain⟨o,es,ep,h1,h2,_⟩:=p;exact IP OZ I.kIn ⟨o,h1,h2.1⟩ e (λz=>nomatch z) h
 | @dT a kvs ea=>
  cases (show u=GZ a from rx);obtain⟨_,_,xs,_,o,es,ep,h1,h2,_⟩:=(show ObjOk `S X.w H `i a (.dT kvs)from I.hok a _ ea)
  exact IP OZ I.kIn ⟨o,h1,h2.1⟩ e (λz=>nomatch z) h
 | @ins a C dx fs ea cl ha hn htk hm=>
  cases (show u=GZ a from rx);obtain⟨mA,O,_⟩:=yZ I.hok ea;obtain⟨od,J,_⟩:=O.look;exact IP (PySem.W.kitx_own (cl.get _) cl.hd ha hn htk hm) I.kIn J e (λz=>nomatch z) h
end
structure Room(k:Nat)(A:Hk):Prop where
 hd:7 A.handled
 dp:A.depth+3*k+5<recursionLimit
 un:A.units+16*k+200<cLine
theorem Room.mono{j k:Nat}{A:Hk}(r:Room k A)(h:j<=k):Room j A:=⟨r.hd,by have:=r.dp;omega,by have:=r.un;omega⟩
theorem Room.deeper{k:Nat}{A:Hk}(r:Room (k+1) A)(env:Env):Room k (A.deeper env):=
 ⟨r.hd,by have:=r.dp;show A.depth+1+3*k+5<_;omega,by have:=r.un;show A.units+3+16*k+200<_;omega⟩
theorem Room.depth{k:Nat}{A:Hk}(r:Room k A):A.depth<recursionLimit:=by have:=r.dp;omega
theorem Room.units0{k:Nat}{A:Hk}(r:Room k A):A.units<cLine:=by have:=r.un;omega
def aU:TA:=λ_ H Q=>Q [] H
def aj(ta:TE)(tr:TA):TA:=λZ H Q=>ta Z H λx H1=>tr Z H1 λxs H2=>Q (x::xs) H2
section
variable{X:Cx}{e:Expr}{es:`af}{te:TE}{t:TA}{pos:Pos}
theorem a8:PA X [] aU:=λ_ _ _ _ H Q I h=>P0 ⟨[],H,I,.nil,h⟩
theorem a5(ha:9 e te)(hr:PA X es t)(hs:67 (e::es)=(false,30 e)::67 es:=by rfl):PA X (e::es) (aj te t):=by
 intro pos Z_ s Z H Q I h;rw[hs];show 57 _ _ (spliced<|(false,30 e)::124 pos es) _ _;refine OJ (cE (ha Z_ s Z H _ I h) λu s1 zz=>?_);obtain⟨x,H1,I1,r1,q1⟩:=zz;refine cE (hr pos Z_ s1 Z H1 _ I1 q1) λus s2 zz=>?_;obtain⟨xs,H2,I2,r2,q2⟩:=zz;exact⟨x::xs,H2,I2,.cons r1 r2,q2⟩
def cg(t:TA):TE:=λZ H Q=>t Z H λxs H1=>69 `t/\∀p,7 (H1 p)->Q `O (dF H1 p<|.tup xs)
def bY(t:TA):TE:=λZ H Q=>t Z H λxs H1=>69 `t/\∀p,7 (H1 p)->Q `O (115 H1 p xs)
theorem bt{x1}(h:PA X es t):9 (.Tuple es x1 pos) (cg t):=by
 intro Z_ s Z H Q I hq;refine wpAny_Tuple_spliced (cE (h pos Z_ s Z H _ I hq) λus s1⟨xs,H1,I1,r,z,q⟩=>⟨by rw[<-r.length];exact z,?_⟩);have hf:7 (H1 `ba):=I1.hok.fresh `w;refine⟨.ref `ba,dF H1 `ba<|.tup xs,I1.laid (t':=s1.toks) (λb u e=>17 e) `w ?_,`a,q _ hf⟩;exact⟨z,us,r,⟨_,86 _,15 `a,_,`a⟩⟩
theorem cj(h:PA X es t):9 (.List es pos) (bY t):=by
 intro Z_ s Z H Q I hq;refine wpAny_List_spliced (cE (h pos Z_ s Z H _ I hq) λus s1⟨xs,H1,I1,r,z,q⟩=>⟨by rw[<-r.length];exact z,?_⟩);have hf:7 (H1 `ba):=I1.hok.fresh `w;refine⟨.ref `ba,115 H1 `ba xs,I1.laid (t':=s1.toks) (λb u e=>17 e) `w ?_,`a,q _ hf⟩;exact⟨z,us,0,r,86 _⟩
end
abbrev Sp:=`E->Hp->11 VK XK
abbrev CXT:=20 `bA Hp Gx XK `A
structure Env0(P:GJ)(w:GW)(K:Gr)(mg:Str->`M)(base:Heap)(A:Hk)(outer:`bA)(s:Gx)(H:Hp):Prop where
 frames:0 A.frames `G
 mod:Mod K mg `d
 bs:∀b o,0 (base.get? b) o->22 b o/\41 b
 bsz:base.objs.size<=`bk
 funs:s.heap.FunFrames `d `G
 frf:∀b∈frs outer,41 b
 hok:HOk P w H `i
 bare:Ms s.gens
def CE(outer:`bA)(P:GJ)(w:GW)(H:Hp)(s:Gx)(Q:VK)(u:Gu)(s':Gx):Prop:=
 ∃v H',25 s'.os s.os (Ms s'.gens) (Un (frs `G) [] H H' `i s'.heap) (HOk P w H' s'.heap) (78 v/\Q v H')
def CR(CX:CXT)(outer:`bA)(P:GJ)(w:GW)(H:Hp)(s:Gx)(Q:VK)(E:XK)(r:Q4)(s':Gx):Prop:=
 match r with
 | .ok (.ret u)=>CE `G P w H s Q u s'
 | .ok _=>False
 | .error e=>CX `G H s E e s'
structure FnOk(P:GJ)(w:GW)(K:Gr)(mg:Str->`M)(base:Heap)(CX:CXT)(k:Nat)(f:Addr)(fd:GV)(ps:`y)(sp:Sp):Prop where
 len:∀vs H Q E,sp vs H Q E->`aK=`bh
 run:∀(A:Hk)(outer:List Env)(s:Gx)(H:Hp)(args:Args)(us:List Gu)(vs:List V)(Q:VK)(E:XK),34 (Room k A) (Env0 P w K mg `d A `G s H) (Ol s fd args<|ps.zip us) (99 vs) (sp vs H Q E) (codeAny (model P w) A (.call (.ref f) args) (CR CX `G P w H s Q E) s)
theorem FnOk.imp{P:GJ}{w:GW}{K:Gr}{mg:Str->`M}{base:Heap}{CX:CXT}{k:Nat}{f:Addr}{fd:GV}{ps:`y}{sp sp':Sp}(F:FnOk P w K mg `d CX k f fd ps sp)
  (h:∀vs H Q E,sp' vs H Q E->sp vs H Q E):FnOk P w K mg `d CX k f fd ps sp':=
 ⟨λvs H Q E q=>F.len vs H Q E<|h _ _ _ _ q,λA outer s H args us vs Q E hr he hb hv hs=>F.run A `G s H args us vs Q E hr he hb hv<|h _ _ _ _ hs⟩
section
variable{X:Cx}{Z_:`N}{Z:St}{H:Hp}{s s':Gx}
theorem Inv.env0(I:`n):Env0 `S X.w X.K X.mg X.base X.A X.stack s H:=
 ⟨I.ok.frames,I.ok.mod,I.bs,Ip I.ok.bsz I.sz,I.stack,I.stkFree,I.hok,I.bare⟩
theorem Inv.after{Q:VK}{u:Gu}(I:`n)(h:CE X.stack `S X.w H s Q u s'):EP X Z_ Z Q u s':=by
 obtain⟨v,H',os,bare,un,hok,r,q⟩:=h;obtain⟨hh,g,d,t,os'⟩:=s';obtain rfl:os'=s.os:=os;exact⟨v,H',I.call (h':=hh) (g':=g) (d':=d) (t':=t) (ch:=[]) un hok bare λb z=>absurd z `g,r,q⟩
end
def aO(sp:Sp)(dvs:`E)(E:XK)(t:TA):TE:=λZ H Q=>t Z H λvs H1=>sp (vs++dvs) H1 Q E
def Binds(K:Gr)(fd:GV)(ps:`y)(ds:`aq):Prop:=
 ∀(s:Gx)(us:List Gu),K.In `i->(us++ds).length=`bh->Ol s fd ⟨us,[]⟩ (ps.zip<|us++ds)
theorem Binds.all{K:Gr}{fd:GV}{ps:`y}(h:∀us:List Gu,us.length=`bh->bindArgs fd ⟨us,[]⟩=pure (ps.zip us)):Binds K fd ps []:=λs us _ hl=>by
 rw[Im]at hl ⊢;exact .of_eq (h us hl)
def jW(CX:CXT)(X:Cx)(E:XK):Prop:=∀(Z_:List (Addr×Obj))(Z:St)(H:Hp)(s:Gx)(e:Gu)(s':Gx),`n->CX X.stack H s E e s'->X.xe e s'
section
variable{X:Cx}{CX:CXT}{k:Nat}{f C:Addr}{fd:GV}{ps:`y}{sp:Sp}{dvs:`E}{ds:`aq}{E:XK}{x m:Str}{p pos Z7:Pos}{e o:Expr}{es:`af}{ta:TE}{t:TA}
theorem Bi{Z_:`N}{Z:St}{H:Hp}{s:Gx}{Q:VK}{us:`aq}{vs:`E}(F:FnOk `S X.w X.K X.mg X.base CX k f fd ps sp)(hr:Room k X.A)(hb:Binds X.K fd ps ds)(hd:Vals dvs ds)(hx:jW CX X E)
  (I:`n) (r:99 vs) (h:sp (vs++dvs) H Q E):92 X.w X.A (call (.ref f) us) (EP X Z_ Z Q) X.xe:=by
 have r2:Vals (vs++dvs) (us++ds):=r.append hd;have hl:(us++ds).length=`bh:=by rw[<-r2.length];exact F.len _ _ _ _ h
 refine Nq (Lg (F.run X.A X.stack s H ⟨us,[]⟩ (us++ds) (vs++dvs) Q E hr I.env0 (hb s us I.kIn hl) r2 h) λr s' hq=>?_);cases r with
 |error e=>exact hx Z_ Z H s e s' I hq
 |ok fl=>
  cases fl with
  |ret u=>exact I.after hq
  |next=>exact J5 hq
  |brk=>exact J5 hq
  |cont=>exact J5 hq
theorem sI(F:FnOk `S X.w X.K X.mg X.base CX k f fd ps sp)(hr:Room k X.A)(hg:Gl X x)(hm:0 (X.mg x) (.ref f))(hk:1 (JO X.K<|.ref f))(hb:Binds X.K fd ps ds)(hd:Vals dvs ds)(hx:jW CX X E)
  (ha:PA X (e::es) t) (hdb:12 (x==("__debug__" :Str)):=by decide) (he:67 (e::es)=(false,30 e)::67 es:=by rfl) (hpl:12 ((124 pos es).any (·.1)):=by rfl):
  9 (123 x p (e::es) [] pos) (aO sp dvs E t):=by
 intro Z_ s Z H Q I h;refine Kz (iQ I hg hm ?_ hdb);refine Mx (h₀:=X.base) I.ok.mod.kin hk (cE (ha pos Z_ s Z H _ I h) λus s1⟨vs,H1,I1,r,q⟩=>⟨I1.kIn,?_⟩) he hpl;exact Bi F hr hb hd hx I1 r q
end
structure FnScope(N P:`y)(sc:Ka):Prop where
 kind:sc.kind=.function
 co:12 sc.isCoroutine
 gen:12 sc.isGenerator
 nd:N.Nodup
 pre:N.take P.length=P
 par:∀x∈P,0 (sc.names.lookup x) .local\/0 (sc.names.lookup x) .cell
 nofree:∀y∈sc.names,y.2≠.free
theorem n9{kindOf:Str->Option Kr}{x:Str}:∀{binds:List (Str×Gu)}{m:Str->Option Gu},(∀v,(x,v)∉binds)->bindL kindOf binds m x=m x
 | [],_,_=>rfl
 |(n,v)::r,m,h=>by
  unfold bindL;rw[n9 λw hw=>h w (GS _ hw)];split
  ·have:x≠n:=by rintro rfl;exact h v GO
   simp[this]
  ·rfl
theorem ng{kindOf:Str->Option Kr}{x:Str}:∀{binds:List (Str×Gu)}{m:Str->Option Gu},(∀v,(x,v)∉binds)->bindC kindOf binds m x=m x
 | [],_,_=>rfl
 |(n,v)::r,m,h=>by
  unfold bindC;rw[ng λw hw=>h w (GS _ hw)];split;·rfl
  ·have:x≠n:=by rintro rfl;exact h v GO
   simp[this]
theorem nh{kindOf:Str->Option Kr}{x:Str}{v:Gu}:∀{P:List Str}{vs:List Gu}{i:Nat}{m:Str->Option Gu},20 P.Nodup (0 P[i]? x) (0 vs[i]? v) (0 (kindOf x) .local) (0 (bindL kindOf (P.zip vs) m x) v)
 | [],_,_,_,_,h,_,_=>by simp at h
 |_::_,[],_,_,_,_,h,_=>by simp at h
 |p::P,w::vs,0,m,nd,h1,h2,hk=>by
  simp at h1 h2;subst h1;subst h2;show bindL kindOf ((p,w)::P.zip vs) m p=_;unfold bindL;rw[n9 λv hv=>(Io.mp nd).1 (Kk hv).1,Z3 hk];simp
 |p::P,w::vs,i+1,m,nd,h1,h2,hk=>by
  show bindL kindOf ((p,w)::P.zip vs) m x=_;unfold bindL;exact nh (i:=i) (Io.mp nd).2 (by simpa using h1) (by simpa using h2) hk
theorem nj{kindOf:Str->Option Kr}{x:Str}{v:Gu}:∀{P:List Str}{vs:List Gu}{i:Nat}{m:Str->Option Gu},20 P.Nodup (0 P[i]? x) (0 vs[i]? v) (kindOf x≠some .local) (0 (bindC kindOf (P.zip vs) m x) v)
 | [],_,_,_,_,h,_,_=>by simp at h
 |_::_,[],_,_,_,_,h,_=>by simp at h
 |p::P,w::vs,0,m,nd,h1,h2,hk=>by
  simp at h1 h2;subst h1;subst h2;show bindC kindOf ((p,w)::P.zip vs) m p=_;unfold bindC;rw[ng λv hv=>(Io.mp nd).1 (Kk hv).1,Z4 hk];simp
 |p::P,w::vs,i+1,m,nd,h1,h2,hk=>by
  show bindC kindOf ((p,w)::P.zip vs) m x=_;unfold bindC;exact nj (i:=i) (Io.mp nd).2 (by simpa using h1) (by simpa using h2) hk
def start(N:`y)(vs:`E):St:=vs.map some++Ju (N.length-`aK) `j
def mI(CX:CXT)(P:GJ)(w:GW)(K:Gr)(mg:Str->`M)(base:Heap)(N:`y)(Z6:Str)(scope:Ka)(f:Addr)(cd:Gu)(A:Hk)(outer:`bA)(s:Gx)(H:Hp)(E:XK):Cx where
 prog:=P
 w:=w
 K:=K
 mg:=mg
 base:=base
 A:=A.deeper (152 Z6 `C f cd)
 N:=N
 s₀:=s
 H₀:=H
 env:=152 Z6 `C f cd
 outer:=outer
 stack:=152 Z6 `C f cd::`G
 ex:=[]
 calm:=true
 fn:=λ_=>`o
 pn:=[]
 xe:=λe s'=>60 P (A.deeper<|152 Z6 `C f cd) (leaving (152 Z6 `C f cd) e) (λ_ s''=>CX `G H s E e s'') (λe' s''=>CX `G H s E e' s'') s'
theorem pH{sc:Ka}{n:Nat}{x:Str}(h:0 (sc.names.lookup x) .cell):∃c,0 ((cellsFrom n sc.names []).lookup x) c:=by
 have q:=KA sc.names n [] (.inl h);exact N3.mp q
theorem nk{CX:CXT}{P:GJ}{w:GW}{K:Gr}{mg:Str->`M}{base:Heap}{N ps:`y}{Z6:Str}{scope:Ka}{f:Addr}{cd:Gu}{A:Hk}{outer:`bA}{s s1:Gx}{H:Hp}{E:XK}{us:`aq}{vs:`E}
  (Z1:FnScope N ps `C) (hd:7 A.handled) (e0:Env0 P w K mg `d A `G s H) (hl:`aK=`bh) (r:99 vs)
  (x:InCallC s `bk (bindL (152 Z6 `C f cd).kindOf (ps.zip us) λ_=>`j) (154 (89 1) []) (bindC (152 Z6 `C f cd).kindOf (ps.zip us) λ_=>`j) s1):
  Inv (mI CX P w K mg `d N Z6 `C f cd A `G s H E) [] (start N vs) H s1:=by
 have hpl:`bh<=N.length:=by have:=congrArg JA Z1.pre;rw[K8]at this;omega
 obtain⟨h1,tk,rfl,hk⟩:=x.done;have noA:∀b:Addr,b∉(mI CX P w K mg `d N Z6 `C f cd A `G s H E).ex:=λb z=>absurd (show b∈([]:`R)from z) `g;refine⟨⟨e0.mod,Z1.kind,`a,`a,`w,λy z c h1 h2=>?_,λy hy=>?_,λy c _ h=>?_,λ_=>hd,O1 e0.frames,.inr<|15 `a,λb z=>absurd z<|noA b,e0.bs,e0.bsz,λb _ _=>noA b,λb z=>absurd z<|noA b,e0.funs,e0.frf⟩,`a,e0.bare,Un.kept hk,8 x.toInCall.ns λi y v h1 h2 h3=>?_,λy c h=>42<|x.cell y c h,e0.hok.fresh `w,λy c h=>?_,λp hp=>absurd (show p∈([]:`N)from hp) `g,e0.hok.kept hk,?_⟩
 ·exact name_of_addr x.apart (Jd h1) (Jd h2)
 ·have hy:0 (scope.names.lookup y) .cell\/0 (scope.names.lookup y) .free:=hy;rcases hy with hy|hy
  ·exact pH hy
  ·exact absurd `a (Z1.nofree _<|Jd hy)
 ·exact Lf (x.above y c<|Jd h)
 ·have hi:i<`aK:=by
   unfold start at h2;by_cases hi:i<`aK;·exact hi
   ·rw[He (by simpa using hi)]at h2;rw[List.getElem?_replicate]at h2;split at h2<;>cases h2
  have ha:0 vs[i]? v:=by
   unfold start at h2;rw[Hr (by simpa using hi),GK]at h2;cases e:vs[i]? with
   |none=>rw[e]at h2;cases h2
   |some a=>rw[e]at h2;cases h2;rfl
  obtain⟨u,hu,rv⟩:=r.get ha;have hp:0 ps[i]? y:=by
   rw[<-Z1.pre,HW `b];exact h1
  have ndP:ps.Nodup:=by rw[<-Z1.pre];exact Z1.nd.sublist (List.take_sublist _ _)
  refine⟨u,rv,?_⟩;rcases Z1.par y (H9 hp)with k|k
  ·exact 116 k (nh ndP hp hu k)
  ·obtain⟨c,e⟩:=pH (n:=89 1) k;refine .inr ⟨.inl k,c,e,?_⟩;have q:=x.cell y c e;rw[nj ndP hp hu (by show scope.names.lookup y≠_;rw[k];decide)]at q;exact q
 ·exact e0.hok.fresh (Lf<|x.above y c<|Jd h)
 ·unfold start;show _=N.length;rw[HG,Ho,List.length_replicate];omega
theorem AH{CX:CXT}{P:GJ}{w:GW}{K:Gr}{mg:Str->`M}{base:Heap}{k:Nat}{f:Addr}{name Z6:Str}{params:Arguments}{body:List Stmt}{scope:Ka}{dV kV doc pm Z9 ct oc:Gu}{an od:`aW}
  {osl:Array `M} {N ps:`y} {sp:Sp} (lk:142 f ⟨oc,od,.func<|JZ name Z6 params body `C dV kV doc pm an Z9 ct,osl⟩) (hcd:1 (LL K Z9 Z6)) (Z1:FnScope N ps `C)
  (len:∀vs H Q E,sp vs H Q E->`aK=`bh)
  (hbody:∀(A:Hk) (outer:`bA) (s:Gx) (H:Hp) (vs:`E) (Q:VK) (E:XK),Room k (A.deeper<|152 Z6 `C f Z9)->sp vs H Q E->
   ∃t,PSs (mI CX P w K mg `d N Z6 `C f Z9 A `G s H E) body t/\t {nx:=λ_ H'=>Q .non H',rt:=Q} (start N vs) H):
  FnOk P w K mg `d CX (k+1) f (JZ name Z6 params body `C dV kV doc pm an Z9 ct) ps sp:=by
 refine⟨len,λA outer s H args us vs Q E hr e0 hb r hsp=>?_⟩;have hl:=len _ _ _ _ hsp;have KX:K.In `i:=e0.mod.kin.keeps λb o e=>(e0.bs b o e).1;have lim:s.heap.NoLimit:=e0.mod.nolimit.keeps λb o e=>(e0.bs b o e).1;have hkind:∀y∈ps.zip us,0 (scope.names.lookup y.1) .local\/0 (scope.names.lookup y.1) .cell/\1 ((154 (89 1) []).lookup y.1).isSome:=λ⟨n,v⟩hy=>by
  rcases Z1.par n (Kk hy).1 with q|q;·exact .inl q
  ·exact .inr ⟨q,KA _ _ _<|.inl q⟩
 refine NL hr.depth (KX _ _ lk) `a Z1.co Z1.gen `a (OK KX hcd) (hb _ _ _ _ ?_);refine My Z1.kind hkind λenv he s1 x=>?_;subst he;refine⟨lim.keeps x.toInCall.keep,codeAny_func ?_⟩;obtain⟨t,ht,hq⟩:=hbody A `G s H vs Q E (hr.deeper _) hsp;have I:Inv (mI CX P w K mg `d N Z6 `C f Z9 A `G s H E) [] (start N vs) H s1:=nk Z1 hr.hd e0 hl r x;refine Ic (ht [] s1 (start N vs) H _ I hq) (λfl s' hs=>?_) λe s' hs=>hs;have fin:∀{σ':St}{H':Hp}{v:V}{u:Gu},Inv (mI CX P w K mg `d N Z6 `C f Z9 A `G s H E) [] σ' H' s'->78 v->Q v H'->CE `G P w H s Q u s':=
  λ{σ' H' v u}J rv q=>⟨v,H',J.os,J.bare,J.base,J.hok,rv,q⟩
 cases fl with
 |ret u=>
  obtain⟨v,σ',H',J,rv,q⟩:=hs;exact fin J rv q
 |next=>
  obtain⟨σ',H',J,q⟩:=hs;exact fin (v:=V.non) (u:=Hl) J `a q
 |brk=>
  obtain⟨_,_,_,q⟩:=hs;exact J5 q
 |cont=>
  obtain⟨_,_,_,q⟩:=hs;exact J5 q
section
variable{X:Cx}{x:Str}{p pos:Pos}{e:Expr}{es:`af}{t:TA}{id T:String}{r:82 `E Hp VK}
def dM(r:82 `E Hp VK)(t:TA):TE:=λZ H Q=>t Z H λvs H1=>r vs H1 Q
theorem ai(hc:eY X (.builtin id) r)(hg:Gl X x)(hm:7 (X.mg x))(hv:0 (bootBuiltins x) (.builtin id))(ha:PA X (e::es) t)(hn:x≠"__name__":=by decide)(hdb:12 (x==("__debug__" :Str)):=by decide)
  (he:67 (e::es)=(false,30 e)::67 es:=by rfl) (hpl:12 ((124 pos es).any (·.1)):=by rfl):9 (123 x p (e::es) [] pos) (dM r t):=by
 intro Z_ s Z H Q I h;refine Kz (gD I hg hm hv ?_ hn hdb);exact Po (159 (ha pos Z_ s Z H _ I h)<|hc Z_ s1 Z H1 vs us Q I1 r1 q1) he hpl
theorem gM(hc:eY X (.type T) r)(hg:Gl X x)(hm:7 (X.mg x))(hv:0 (bootBuiltins x) (.type T))(ha:PA X (e::es) t)(hn:x≠"__name__":=by decide)(hdb:12 (x==("__debug__" :Str)):=by decide)
  (he:67 (e::es)=(false,30 e)::67 es:=by rfl) (hpl:12 ((124 pos es).any (·.1)):=by rfl):9 (123 x p (e::es) [] pos) (dM r t):=by
 intro Z_ s Z H Q I h;refine Kz (gD I hg hm hv ?_ hn hdb);exact Ie (159 (ha pos Z_ s Z H _ I h)<|hc Z_ s1 Z H1 vs us Q I1 r1 q1) he hpl
end
end L2
open L2.FnScope renaming nd->S4
open L2.PW renaming pt->Ld
open L2.RelO renaming some_of->Rj
open L2.SqL renaming of->Jc
open L2.SqT renaming of->OV
open L2.V renaming int->Kx,str->LS,bl->Se
namespace HT
open PySem PyProof.Rows
section
variable{prog:GJ}{w:GW}{A:Hk}{E:`A}{s:Gx}
def sIx(n d:Nat):`aH->Nat
 |none=>d
 |some v=>if v<0 then(v+(n:Int)).toNat else min v.toNat n
theorem sIx_le(n d:Nat)(hd:d<=n)(o:`aH):sIx n d o<=n:=by
 cases o with
 |none=>exact hd
 |some v=>
  show(if v<0 then(v+(n:Int)).toNat else min v.toNat n)<=n;by_cases hv:v<0;·rw[Z3 hv];omega
  ·rw[Z4 hv];exact Nat.min_le_right _ _
end
end HT
namespace L2
open PySem PySem.Spec PyProof.Rows
abbrev TO:=82 St Hp (11 `aH Hp)
def PO(X:Cx)(e:Option Expr)(t:TO):Prop:=
 ∀(Z_:List (Addr×Obj))(s:Gx)(Z:St)(H:Hp)(Q:Option Int->Hp->Prop),`n->t Z H Q->92 X.w X.A (evalPart e `D) (λu s'=>∃o H',38 X Z H' s'/\IsPart u o/\Q o H') X.xe
def aF:TO:=λ_ H Q=>Q `j H
def bo(t:TE):TO:=λZ H Q=>t Z H λx H1=>∃i,x=.int i/\Q (some i) H1
theorem ll{ns:`P}:∀{us:List Gu},99 (ns.map Kx)->P4 us ns:=by
 induction ns with
 |nil=>intro us r;rw[KC]at r;cases r;exact .nil
 |cons n ns ih=>
  intro us r;rw[Hm]at r;cases r with
  |cons r1 r2=>
   obtain⟨t,e⟩:=r1;subst e;exact .cons n t (ih r2)
section
variable{X:Cx}{e:Expr}{te:TE}{lo hi:Option Expr}{tl th:TO}{pos p2:Pos}
theorem cP:PO X `j aF:=by
 intro Z_ s Z H Q I h;rw[OA];exact Gv ⟨`j,H,I,.none,h⟩
theorem bP(h:9 e te):PO X (some e) (bo te):=by
 intro Z_ s Z H Q I hw;rw[evalPart_some];refine cE (h Z_ s Z H _ I hw) λu s1 zz=>?_;obtain⟨x,H1,I1,r1,q1⟩:=zz;obtain⟨i,rfl,q⟩:=q1;obtain⟨t,rfl⟩:=r1;exact⟨some i,H1,I1,.int i t,q⟩
def DS(X:Cx)(r:34 V `aH `aH Hp VK Prop):Prop:=
 ∀(Z_:List (Addr×Obj))(s:Gx)(Z:St)(H:Hp)(x:V)(v vl vu:Gu)(lo hi:Option Int)(sl:Addr)(Q:VK),20 `n (RelV x v) (s.heap.IsSliceOf sl vl vu .none) (IsPart vl lo) (IsPart vu hi->r x lo hi H Q->∃T id,2 (typeLookup (.type T) "__getitem__") (pure<|some<|.builtin id) (s.TypeIs v T) (92 X.w X.A (getItem v<|.ref sl) (EP X Z_ Z Q) X.xe))
def eW(r:34 V `aH `aH Hp VK Prop)(te:TE)(tl th:TO):TE:=λZ H Q=>te Z H λx H1=>tl Z H1 λl H2=>th Z H2 λu H3=>r x l u H3 Q
theorem bO{r:34 V `aH `aH Hp VK Prop}(hr:DS X r)(he:9 e te)(hl:PO X lo tl)(hu:PO X hi th):9 (.Subscript e (.Slice lo hi `j p2) pos) (eW r te tl th):=by
 intro Z_ s Z H Q I h;refine OL (137 (he Z_ s Z H _ I h) ?_);obtain⟨x,H1,I1,r1,q1⟩:=zz;refine wpAny_Slice (cE (hl Z_ s1 Z H1 _ I1 q1) λvl s2 zz=>?_);obtain⟨l,H2,I2,pl,q2⟩:=zz;refine cE (hu Z_ s2 Z H2 _ I2 q2) λvu s3 zz=>?_;obtain⟨u,H3,I3,pu,q3⟩:=zz;rw[OA];refine `B;have I4:Inv X Z_ Z H3 {s3 with heap:=s3.heap.push {cls:=.type "slice",data:=.fields #[vl,vu,.none]}}:=I3.kept (t':=s3.toks) λb ob q=>17 q;obtain⟨T,id,hT,ht,hg⟩:=hr Z_ {s3 with heap:=s3.heap.push {cls:=.type "slice",data:=.fields #[vl,vu,.none]}} Z H3 x v vl vu l u s3.heap.objs.size Q I4 r1 (OM ..) pl pu q3;show wpAny (`aM) X.A (subscriptTail e (.Slice lo hi `j p2) v<|.ref s3.heap.objs.size) (EP X Z_ Z Q) X.xe {s3 with heap:=s3.heap.push {cls:=.type "slice",data:=.fields #[vl,vu,.none]}};exact Rx (ops:=[.ref s3.heap.objs.size,v]) ht hT hg (by with_unfolding_all rfl)
def r9(xs:`E)(lo hi:`aH):`E:=(xs.drop<|HT.sIx `t 0 lo).take (HT.sIx `t `t hi-HT.sIx `t 0 lo)
theorem pI(xs:`E)(lo hi:`aH):(r9 xs lo hi).length<=`t:=by
 unfold r9;rw[K8,K9];omega
end
def ixN(n:Nat)(i:Int):`ae:=if 0<=i then(if i<n then some i.toNat else none)else if -(n:Int)<=i then some (i+n).toNat else none
def atI{S:Type}(xs:`z)(i:Int):Option S:=(ixN `t i).bind λj=>xs[j]?
theorem sJ{n:Nat}{i:Int}{j:Nat}(h:0 (ixN n i) j):seqIndex? i n=some j/\j<n/\ -(n:Int)<=i/\i<n:=by
 unfold ixN at h;by_cases h0:0<=i
 ·rw[Z3 h0]at h;by_cases h1:i<n
  ·rw[Z3 h1]at h;have e:i.toNat=j:=Ha h;exact⟨by rw[PD h0 h1,e],`b,`b,h1⟩
  ·rw[Z4 h1]at h;cases h
 ·rw[Z4 h0]at h;by_cases h1: -(n:Int)<=i
  ·rw[Z3 h1]at h;have e:(i+n).toNat=j:=Ha h;exact⟨by rw[P5 (by omega) h1,e],`b,h1,`b⟩
  ·rw[Z4 h1]at h;cases h
theorem oh{S:Type}{xs:`z}{i:Int}{v:S}(h:0 (atI xs i) v):∃j,seqIndex? i xs.length=some j/\xs[j]? =some v/\j<xs.length/\ -(xs.length:Int)<=i/\i<xs.length:=by
 unfold atI at h;cases e:ixN xs.length i with
 |none=>rw[e]at h;cases h
 |some j=>
  rw[e]at h;obtain⟨h1,h2,h3,h4⟩:=sJ e;exact⟨j,h1,h,h2,h3,h4⟩
def z6(b:Expr):Prop:=∀o i,subscripted b `K o i=operate [o,i] (getItem o i)
def Cm(X:Cx)(r:R2):Prop:=
 ∀(value slice:Expr)(Z_:List (Addr×Obj))(s:Gx)(Z:St)(H:Hp)(x y:V)(v u:Gu)(Q:VK),34 `n (RelV x v) (78 y) (r x y H Q) (subscripted slice `K v u=operate [v,u] (getItem v u)) (92 X.w X.A (subscriptTail value slice v u) (EP X Z_ Z Q) X.xe)
def CM(X:Cx)(id:String)(r:V->`E->11 Hp VK):Prop:=
 ∀(Z_:List (Addr×Obj))(s:Gx)(Z:St)(H:Hp)(x:V)(xs:List V)(v:Gu)(us:List Gu)(Q:VK),20 `n (RelV x v) (99 xs) (r x xs H Q) (92 X.w X.A (call (.builtin id)<|v::us) (EP X Z_ Z Q) X.xe)
section
variable{X:Cx}{a b:Expr}{ta tb:TE}{pos:Pos}
theorem aJ{r:R2}(hr:Cm X r)(ha:9 a ta)(hb:9 b tb)(hs:z6 b):9 (.Subscript a b pos) (d9 r ta tb):=by
 intro Z_ s Z H Q I h;exact OL (Bh ha hb I h λv u s2 x y H2 I2 rx ry q=>hr a b Z_ s2 Z H2 x y v u Q I2 rx ry q<|hs _ _)
def cm(K:Gr):R2:=λx y H Q=>∃p xs i v,25 x `O (y=.int i) (SqL K H p xs) (0 (atI xs i) v) (Q v H)
def cn(K:Gr):R2:=λx y H Q=>∃p xs i v,25 x `O (y=.int i) (SqT K H p xs) (0 (atI xs i) v) (Q v H)
def cB:R2:=λx y H Q=>∃z i c,25 x (.str z) (y=.int i) (69 z.length) (0 (atI z.cps.toList i) c) (Q (.str ⟨#[c]⟩) H)
theorem z7:Cm X (cm X.K):=by
 intro value slice Z_ s Z H x y v u Q I rx ry h hs;obtain⟨p,xs,i,z,rfl,rfl,hq,he,q⟩:=h;cases rx;obtain⟨t,rfl⟩:=ry;obtain⟨its,r,pl,hz⟩:=I.list hq;obtain⟨j,h1,h2,h3,h4,h5⟩:=oh he;obtain⟨w,ew,rw'⟩:=r.get h2;have hl:=r.length;have hn:=lh;have fin:EP X Z_ Z Q w s:=⟨z,H,I,rw',q⟩
 by_cases h0:0<=i
 ·have hj:i.toNat=j:=by
   rw[PD h0 h5]at h1;exact Ha h1
  exact item_listR pl.isList h0 `b (by rw[hj];simpa using ew) fin hs
 ·have hj:(i+(its.toArray.size:Int)).toNat=j:=by
   rw[P5 `b h4]at h1;rw[GN,<-hl];exact Ha h1
  exact Nr (x:=w) pl.isList.typeIs MS.lookup (wpAny_getItem_list_neg (Q:=λr s'=>r=w/\EP X Z_ Z Q r s') pl.isList `b (by rw[GN]<;>omega) `b (by rw[hj];simpa using ew)<|15 fin) hs
theorem Bj:Cm X (cn X.K):=by
 intro value slice Z_ s Z H x y v u Q I rx ry h hs;obtain⟨p,xs,i,z,rfl,rfl,hq,he,q⟩:=h;cases rx;obtain⟨t,rfl⟩:=ry;obtain⟨its,r,pl,hz⟩:=I.tuple hq;obtain⟨j,h1,h2,h3,h4,h5⟩:=oh he;obtain⟨w,ew,rw'⟩:=r.get h2;have hl:=r.length;have hn:=lh;have fin:EP X Z_ Z Q w s:=⟨z,H,I,rw',q⟩
 exact Nr (x:=w) pl.typeIs slot_tuple_getitem.lookup (getItem_tuple (j:=j) (Q:=λr s'=>r=w/\EP X Z_ Z Q r s') pl `b `b (by rw[GN,<-hl];exact h1) (by simpa using ew)<|15 fin) hs
theorem cI:Cm X cB:=by
 intro value slice Z_ s Z H x y v u Q I rx ry h hs;obtain⟨z,i,c,rfl,rfl,hz,he,q⟩:=h;obtain⟨t,rfl⟩:=rx;obtain⟨t',rfl⟩:=ry;obtain⟨j,h1,h2,h3,h4,h5⟩:=oh he;have hl:z.cps.toList.length=z.length:=by simp[RS]
 rw[hl]at h1 h4 h5;have hn:=lh;exact Rx (Q5 s z t) slot_str_getitem.lookup (getItem_str (c:=c) (by
  have e1:decide (i< -(2^63:Int))=false:=decide_eq_false `b;have e2:decide (i≥2^63)=false:=decide_eq_false `b;rw[e1,e2,Bool.or_false]) (by rw[h1];simpa using h2) ⟨.str ⟨#[c]⟩,H,I.tok _,`au,q⟩) hs
theorem rd(its:`aq)(n j:Nat)(u:Gu):Kb (·.setIfInBounds j u) {cls:=`bi,data:=.seq `bj n}={cls:=`bi,data:=.seq (its.set j u).toArray n}:=by
 simp[Kb]
theorem Inv.lst{Z_:`N}{Z:St}{H:Hp}{s:Gx}{p:Addr}{xs:`E}(I:`n)(h:21 p (.lst xs)):
  ∃(its:`aq)(n:Nat),Vals xs its/\s.heap.get? p=some {cls:=`bi,data:=.seq `bj n}/\xs.length<=sizeLine:=by
 obtain⟨z,its,n,r,e⟩:=I.hok p _ h;exact⟨its,n,r,e,z⟩
theorem Inv.lstUpd{Z_:`N}{Z:St}{H:Hp}{s:Gx}{p:Addr}{xs ys:`E}{its its':`aq}{n n':Nat}{f:Obj->Obj}(I:`n)(h:21 p (.lst xs))
  (ho:s.heap.get? p=some {cls:=`bi,data:=.seq `bj n}) (hf:f {cls:=`bi,data:=.seq `bj n}={cls:=`bi,data:=.seq its'.toArray n'}) (r:Vals ys its') (hz:69 ys.length) (t:Nat):
  Inv X Z_ Z (115 H p ys) {s with heap:=s.heap.update p f,toks:=t}:=by
 have e:(s.heap.update p f).get? p=some {cls:=`bi,data:=.seq its'.toArray n'}:=by
  rw[HP f ho (by rw[hf]<;>rfl),hf]
 refine I.write (x:=p) (e:=p) (by rw[h];trivial) `X (λb u hb q=>(Ht _ _<|JI hb).trans q) (42 e) ?_;exact⟨hz,its',n',r,e⟩
def AI:34 V V V Hp (49 Hp) Prop:=λo i v H Q=>∃p xs k j,25 o `O (i=.int k) (21 p<|.lst xs) (0 (ixN `t k) j) (Q<|115 H p<|xs.set j v)
theorem lq:CG X AI:=by
 intro Z_ s Z H o i v ov iv u Q I ro ri rv h;obtain⟨p,xs,k,j,rfl,rfl,hp,hj,q⟩:=h;cases ro;obtain⟨t,rfl⟩:=ri;obtain⟨its,n,r,ho,hz⟩:=I.lst hp;obtain⟨h1,h2,h3,h4⟩:=sJ hj;have hl:=r.length;have hn:=lh;have I':Inv X Z_ Z (115 H p<|xs.set j v) {s with heap:=s.heap.update p (Kb (·.setIfInBounds j u))}:=
  I.lstUpd hp ho (rd its n j u) (r.set rv j) (by rw[PL];exact hz) s.toks
 by_cases h0:0<=k
 ·have hk:k.toNat=j:=by
   rw[PD h0 h4]at h1;exact Ha h1
  exact PySem.W.ki_setAt ho h0 `b (by rw[GN,<-hl];exact h4) (by rw[hk];exact 8 I' q)
 ·have hk:(k+(its.toArray.size:Int)).toNat=j:=by
   rw[P5 `b h3]at h1;rw[GN,<-hl];exact Ha h1
  exact PySem.W.ki_setBack ho `b (by rw[GN,<-hl];exact h3) `b (by rw[hk];exact 8 I' q)
theorem oi(lo hi:`aH)(n:Nat):2 (sliceBounds lo hi `j n).1 ((HT.sIx n 0 lo:Nat):Int) ((sliceBounds lo hi `j n).2.1=((HT.sIx n n hi:Nat):Int)) ((sliceBounds lo hi `j n).2.2=1):=by
 refine⟨?_,?_,`a⟩
 ·cases lo with
  |none=>simp[sliceBounds,HT.sIx]
  |some i=>
   simp only[sliceBounds,HT.sIx,Nd,show(1:Int)>0 by decide,if_true];by_cases h:i<0;·simp only[h,if_true]<;>omega
   ·simp only[h,if_false]<;>omega
 ·cases hi with
  |none=>simp[sliceBounds,HT.sIx]
  |some i=>
   simp only[sliceBounds,HT.sIx,Nd,show(1:Int)>0 by decide,if_true];by_cases h:i<0;·simp only[h,if_true]<;>omega
   ·simp only[h,if_false]<;>omega
theorem mJ(its:`aq)(lo hi:`aH):slicePick `bj lo hi `j=((its.drop<|HT.sIx its.length 0 lo).take<|HT.sIx its.length its.length hi-HT.sIx its.length 0 lo).toArray:=by
 obtain⟨h1,h2,h3⟩:=oi lo hi its.toArray.size;unfold slicePick;rw[h1,h2,h3];simp only[O8,pick_run,GN]<;>rfl
def cw(K:Gr):34 V `aH `aH Hp VK Prop:=λx lo hi H Q=>∃a xs,2 x `ai (SqL K H a xs) (∀p,41 p->Q `O (115 H p<|r9 xs lo hi))
theorem z8:DS X (cw X.K):=by
 intro Z_ s Z H x v vl vu lo hi sl Q I rx hs pl pu h;obtain⟨a,xs,rfl,hx,q⟩:=h;cases rx;obtain⟨its,r,ht,hz⟩:=I.list hx;have hlen:=r.length;refine⟨"list",_,MS.lookup,ht.isList.typeIs,?_⟩;refine N5 ht.isList hs pl pu .none `g ?_ (by rw[GN]<;>omega);rw[mJ,<-hlen];refine⟨`bY,_,I.laid (t':=s.toks) (o:=.lst (r9 xs lo hi)) (λb ob q=>17 q) `w ?_,`a,q _<|I.hok.fresh `w⟩;exact⟨Ip (pI xs lo hi) hz,_,0,(r.drop<|HT.sIx `t 0 lo).take<|HT.sIx `t `t hi-HT.sIx `t 0 lo,86 _⟩
def flatV:V->Bool
 | .non=>true
 | .bl _=>true
 | .int _=>true
 | .str _=>true
 |_=>false
def eqV:V->V->Bool
 | .non,.non=>true
 | .bl a,.bl b=>a==b
 | .bl a,.int b=>(if a then 1 else 0)==b
 | .int a,.bl b=>a==(if b then 1 else 0)
 | .int a,.int b=>a==b
 | .str a,.str b=>a==b
 |_,_=>false
theorem Bk{A:Hk}{s:Gx}{y x:V}{u v:Gu}(ry:78 y)(rx:RelV x v)(fy:1 (flatV y))(fx:1 (flatV x)):RT A s u v (eqV y x):=by
 cases y with
 |non=>
  cases ry;cases x with
  |non=>cases rx;exact Sh _
  |bl b=>cases rx;exact Ry b
  |int b=>obtain⟨t,rfl⟩:=rx;exact RI b t
  |str b=>obtain⟨t,rfl⟩:=rx;exact RJ b t
  |_=>exact absurd (show `bB from fx) GL
 |bl a=>
  cases ry;cases x with
  |non=>cases rx;exact Rz a
  |bl b=>cases rx;exact RA a b
  |int b=>obtain⟨t,rfl⟩:=rx;exact RK a b t
  |str b=>obtain⟨t,rfl⟩:=rx;exact RL a b t
  |_=>exact absurd (show `bB from fx) GL
 |int a=>
  obtain⟨t',rfl⟩:=ry;cases x with
  |non=>cases rx;exact RM a t'
  |bl b=>cases rx;exact RN a t' b
  |int b=>obtain⟨t,rfl⟩:=rx;exact RU a t' b t
  |str b=>obtain⟨t,rfl⟩:=rx;exact OH a t' b t
  |_=>exact absurd (show `bB from fx) GL
 |str a=>
  obtain⟨t',rfl⟩:=ry;cases x with
  |non=>cases rx;exact RO a t'
  |bl b=>cases rx;exact RP a t' b
  |int b=>obtain⟨t,rfl⟩:=rx;exact OI a t' b t
  |str b=>obtain⟨t,rfl⟩:=rx;exact RV a t' b t
  |_=>exact absurd (show `bB from fx) GL
 |_=>exact absurd (show `bB from fy) GL
def z9(x:V)(u:Gu):Bool:=match u with
 | .none=>eqV .non x
 | .bool b=>eqV (.bl b) x
 | .int i _=>eqV (.int i) x
 | .str z _=>eqV (.str z) x
 |_=>false
theorem w8{x y:V}{u:Gu}(r:78 y)(f:1 (flatV y)):z9 x u=eqV y x:=by
 cases y with
 |non=>cases r;rfl
 |bl b=>cases r;rfl
 |int i=>obtain⟨t,rfl⟩:=r;rfl
 |str z=>obtain⟨t,rfl⟩:=r;rfl
 |_=>exact absurd (show `bB from f) GL
theorem oj{x:V}:∀{xs:List V}{us:List Gu},99 xs->1 (xs.all flatV)->us.any (z9 x)=xs.any λy=>eqV y x
 |_,_,.nil,_=>rfl
 |y::xs,u::us, .cons r t,f=>by
  rw[QH,IF]at f;rw[M7,M7,w8 r f.1,oj t f.2]
theorem lu{A:Hk}{s:Gx}{x:V}{v:Gu}(rx:RelV x v)(fx:1 (flatV x)):∀{xs:List V}{us:List Gu},99 xs->1 (xs.all flatV)->∀u∈us,RT A s u v (z9 x u)
 |_,_,.nil,_=>λu hu=>by cases hu
 |y::xs,u::us, .cons r t,f=>λu' hu=>by
  rw[QH,IF]at f;rcases GI.mp hu with rfl|hu
  ·rw[w8 r f.1];exact Bk r rx f.1 fx
  ·exact lu rx fx t f.2 u' hu
def DT(x:V)(xs:`E):Bool:=xs.any λy=>eqV y x
def f9(K:Gr)(neg:Bool):R2:=λx y H Q=>∃p xs,25 y `O (SqL K H p xs\/SqT K H p xs) (1<|flatV x) (1<|xs.all flatV) (Q (.bl (if neg then !DT x xs else DT x xs)) H)
theorem om:141 X .NotIn (f9 X.K `o):=by
 intro Z_ s Z H x y v u Q I rx ry h;obtain⟨p,xs,rfl,hq,fx,fs,q⟩:=h;cases ry;rcases hq with hq|hq
 ·obtain⟨its,r,pl,hz⟩:=I.list hq;refine SeqAt.notIn_listAt (z9 x) pl.isList (λw hw=>lu rx fx r fs w<|by simpa using hw) ⟨.bl _,H,I,`a,?_⟩;rw[show its.toArray.any (z9 x)=its.any (z9 x) by simp,oj r fs];exact q
 ·obtain⟨its,r,pl,hz⟩:=I.tuple hq;refine SeqAt.notIn_tupleAt (z9 x) pl (λw hw=>lu rx fx r fs w<|by simpa using hw) ⟨.bl _,H,I,`a,?_⟩;rw[show its.toArray.any (z9 x)=its.any (z9 x) by simp,oj r fs];exact q
theorem oo:eY X `bi λxs H Q=>∃p ys,2 xs [.ref p] (SqL X.K H p ys\/SqT X.K H p ys) (∀l,41 l->Q (.ref l) (115 H l ys)):=by
 intro Z_ s Z H xs us Q I r h;obtain⟨p,ys,rfl,hq,q⟩:=h;obtain⟨u,rfl,rx⟩:=gL r;cases rx;have fin:∀(its:`aq),Vals ys its->ys.length<=sizeLine->∀(h':Heap)(c':Nat),(∀b o',22 b o'->66 b o')->
   h'.get? s.heap.objs.size=some {cls:=`bi,dict:=none,data:=.seq `bj c',slots:= #[]}->EP X Z_ Z Q (`bY) {s with heap:=h'}:=λits r' hz h' c' kp e=>⟨`bY,_,I.laid (t':=s.toks) kp `w (show ObjOk `S X.w _ h' _ (.lst ys)from⟨hz,its,c',r',e⟩),`a,q _<|I.hok.fresh `w⟩
 rcases hq with hq|hq
 ·obtain⟨its,r',pl,hz⟩:=I.list hq;have hlen:=r'.length;obtain⟨o,ho,hc,n,hd⟩:=pl.isList;exact QI p `X ho hc hd (λh' c' kp e=>fin its r' hz h' c' kp e) (by simp only[GN]<;>omega)
 ·obtain⟨its,r',pl,hz⟩:=I.tuple hq;have hlen:=r'.length;obtain⟨o,ho,hc,n,hd⟩:=pl;exact QI p `bq ho hc hd (λh' c' kp e=>fin its r' hz h' c' kp e) (by simp only[GN]<;>omega)
theorem mK:eY X `bo λxs H Q=>∃p ys,xs=[.ref p]/\((SqL X.K H p ys/\∀l,41 l->Q (.ref l) (dF H l<|.tup ys))\/SqT X.K H p ys/\Q `O H):=by
 intro Z_ s Z H xs us Q I r h;obtain⟨p,ys,rfl,h⟩:=h;obtain⟨u,rfl,rx⟩:=gL r;cases rx;rcases h with⟨hq,q⟩|⟨hq,q⟩
 ·obtain⟨its,r',pl,hz⟩:=I.list hq;have hlen:=r'.length;refine call_tuple_list pl.isList (λh' kp=>?_) (by simp only[GN]<;>omega);have I1:Inv X Z_ Z H {s with heap:=h'}:=I.kept (t':=s.toks) kp;have I2:Inv X Z_ Z (dF H h'.objs.size<|.tup ys) {s with heap:=h'.push {cls:=.type "tuple",data:=.seq its.toArray}}:=
   I1.laid (t':=s.toks) (λb o e=>17 e) `w (show ObjOk `S X.w _ _ _ (.tup ys)from⟨hz,its,r',IsTupD.new _ _⟩)
  exact⟨.ref h'.objs.size,_,I2,`a,q _<|I1.hok.fresh `w⟩
 ·obtain⟨its,r',pl,hz⟩:=I.tuple hq;exact call_tuple_same pl ⟨`O,H,I,`a,q⟩
def ES(K:Gr)(T:String)(x:V)(H:Hp):Prop:=match x with
 | .str _=>T="str"
 | .int _=>T="int"
 | .ref p=>(T="list"/\∃xs,SqL K H p xs)\/(T="tuple"/\((∃o,142 p o/\o.cls=`bo/\7 o.dict)\/∃xs,SqT K H p xs))\/(T="dict"/\((∃kvs,21 p<|.dK kvs)\/∃kvs,21 p (.dT kvs)))\/T="set"/\∃Z1 n,21 p (.set Z1 n)
 |_=>False
theorem Bl{Z_:`N}{Z:St}{H:Hp}{s:Gx}{T:String}{x:V}{v:Gu}(I:`n)(r:RelV x v)(ty:ES X.K T x H):
  s.TypeIs v T/\∀a,v=`ai->∃ob,22 a ob/\7 ob.dict:=by
 cases x with
 |str z=>
  obtain⟨t,rfl⟩:=r;cases (show T="str" from ty);exact⟨Q5 s z t,λ_ e=>nomatch e⟩
 |int i=>
  obtain⟨t,rfl⟩:=r;cases (show T="int" from ty);exact⟨typeIs_int s i t,λ_ e=>nomatch e⟩
 |ref p=>
  cases r;rcases ty with⟨rfl,xs,hq⟩|⟨rfl,⟨o,hk,hc,hd⟩|⟨xs,hq⟩⟩|⟨rfl,hk⟩|⟨rfl,Z1,n,hk⟩
  ·obtain⟨its,_,pl,_⟩:=I.list hq;refine⟨pl.isList.typeIs,λa e=>?_⟩;cases e;obtain⟨o,n,e,c,hd,_⟩:=pl;exact⟨o,e,hd⟩
  ·refine⟨⟨o,I.kIn p o hk,hc⟩,λa e=>?_⟩;cases e;exact⟨o,I.kIn _ o hk,hd⟩
  ·obtain⟨o,e1,c1,d1⟩:∃o,22 p o/\o.cls=`bo/\7 o.dict:=by
    rcases hq with hq|⟨o,its,n,hk,hc,_⟩
    ·obtain⟨_,_,_,o,e1,⟨c1,d1⟩,_⟩:=hq.ok I.hok;exact⟨o,e1,c1,d1⟩
    ·exact⟨o,I.kIn p o hk,hc.1,hc.2⟩
   refine⟨⟨o,e1,c1⟩,λa e=>?_⟩;cases e;exact⟨o,e1,d1⟩
  ·have z:∃o,22 p o/\o.ExactDict:=by
    rcases hk with⟨kvs,hk⟩|⟨kvs,hk⟩
    ·obtain⟨_,_,_,_,o,_,_,e,ex,_⟩:=I.hok p _ hk;exact⟨o,e,ex⟩
    ·obtain⟨_,_,_,_,o,_,_,e,ex,_⟩:=I.hok p _ hk;exact⟨o,e,ex⟩
   obtain⟨o,e,ex⟩:=z;refine⟨⟨o,e,ex.1⟩,λa e2=>?_⟩;cases e2;exact⟨o,e,ex.2.1⟩
  ·obtain⟨o,_,_,_,e,ex,_⟩:=I.hok p _ hk;refine⟨⟨o,e,ex.1⟩,λa e2=>?_⟩;cases e2;exact⟨o,e,ex.2.1⟩
 |_=>exact J5 ty
def eH(K:Gr)(T:String)(r:V->`E->11 Hp VK)(to:TE)(t:TA):TE:=λZ H Q=>to Z H λx H1=>ES K T x H1/\t Z H1 λxs H2=>r x xs H2 Q
variable{o e:Expr}{es:`af}{to:TE}{t:TA}{name:Str}{Z7 Z8:Pos}{T id:String}{r:V->`E->11 Hp VK}
theorem CN(pa:PlainAttrs T)(slot:Slot T name id)(hty:typeOf (.builtin id)=pure (.type "method_descriptor"))(hm:CM X id r)(ho:9 o to)(ha:PA X (e::es) t)
  (hbase:attributeBase o name `D (30 o)=30 o:=by rfl)
  (hfew:1 ((124 Z8<|e::es).all (λx=> !x.1) && (backToKw Z8<|keywordEach [] `D).all (λx=>x.1.isSome)
   &&decide ((e::es).length+([]:List Nt).length+(if([]:List Nt).isEmpty then 0 else 1)<30)):=by rfl)
  (hline:1 (Z7.endLine==Z8.line):=by rfl) (hs:67 (e::es)=(false,30 e)::67 es:=by rfl) (hplain:12 ((124 Z8 es).any (·.1)):=by rfl):
  9 (.Call (.Attribute o name Z7) (e::es) [] Z8) (eH X.K T r to t):=by
 intro Z_ s Z H Q I h;refine Nu hbase hfew hline `a (137 (ho Z_ s Z H _ I h) ?_);obtain⟨x,H1,I1,r1,ty,q1⟩:=zz;obtain⟨h1,h2⟩:=Bl I1 r1 ty;refine⟨T,id,pa,slot,hty,h1,h2,?_⟩;have hA:=ha Z8 Z_ s1 Z H1 _ I1 q1;rw[hs]at hA ⊢;refine Calls.callWith_builtin (by show 12 (`K||(124 Z8 es).any (·.1));rw[hplain]<;>rfl) (O9 ?_);refine cE hA λus s2 zz=>?_;obtain⟨vs,H2,I2,r2,q2⟩:=zz;exact hm Z_ s2 Z H2 x vs v us Q I2 r1 r2 q2
end
def Fv(X:Cx)(id:String)(r:V->`E->11 Hp VK):Prop:=
 ∀(Z_:List (Addr×Obj))(s:Gx)(Z:St)(H:Hp)(x:V)(xs:List V)(v:Gu)(us:List Gu)(Q:VK),20 `n (RelV x v) (99 xs) (r x xs H Q) (92 X.w X.A (call (.builtin id)<|v::us) (EP X Z_ Z Q) X.xe)
theorem Vals.one:∀{x:V}{us:List Gu},99 [x]->∃u,us=[u]/\78 x
 |_,_,.cons r .nil=>8 `a r
section
variable{X:Cx}{Z_:`N}{Z:St}{H:Hp}{s:Gx}{l b:Addr}{xs ys zs:`E}
theorem Inv.lset{its its':`aq}{n:Nat}{f:`bp->`bp}{t':Nat}(I:`n)(hH:21 l (.lst xs))
  (e:s.heap.get? l=some {cls:=`bi,data:=.seq `bj n}) (hf:f `bj=its'.toArray) (hv:Vals ys its') (hz:69 ys.length):
  Inv X Z_ Z (115 H l ys) {s with heap:=s.heap.update l<|Kb f,toks:=t'}:=by
 have q:=PySem.IsL.update e f;rw[hf]at q;refine I.write (x:=l) (e:=l) (by rw[hH];exact trivial) `X (λb' u hb hu=>(Ht `i (Kb f)<|JI hb).trans hu) (42 q) ?_;exact⟨hz,its',_,hv,q⟩
theorem Inv.lnew{its:`aq}{t':Nat}(I:`n)(hv:Vals ys its)(hz:69 ys.length):
  Inv X Z_ Z (115 H `bk ys) {s with heap:=s.heap.push {cls:=.type "list",data:=.seq its.toArray},toks:=t'}:=
 I.laid (λ_ _ q=>17 q) `w ⟨hz,its,0,hv,86 _⟩
theorem Inv.fresh(I:`n):41 `bk:=I.hok.fresh `w
theorem Inv.lstM(I:`n)(hH:21 l (.lst xs)):xs.length<=sizeLine/\∃(its:`aq)(n:Nat),Vals xs its/\xs.length=its.length/\s.heap.get? l=some {cls:=`bi,data:=.seq `bj n}:=by
 obtain⟨z,its,n,r,e⟩:=I.hok l _ hH;exact⟨z,its,n,r,r.length,e⟩
end
section
variable{X:Cx}
def aE:V->`E->11 Hp VK:=λx vs H Q=>∃l xs y,25 x (.ref l) (vs=[y]) (21 l<|.lst xs) (`t<sizeLine) (Q .non<|115 H l<|xs++[y])
theorem uy:Fv X "list.append" aE:=by
 intro Z_ s Z H x vs v us Q I rx rv h;obtain⟨l,xs,y,rfl,rfl,hH,hz,q⟩:=h;cases rx;obtain⟨u,rfl,ru⟩:=rv.one;obtain⟨z,its,n,r,hl,e⟩:=I.lstM hH;refine call_meets NM (8 e `a) F.entry_list_append (F.args_list_append_2 _ _) (PySem.list_append l `bj n u (by rw[GN];omega)) ⟨e,?_⟩;refine⟨.non,_,I.lset (its':=its++[u]) hH e `g (r.append<|.cons ru .nil) ?_,`a,q⟩;rw[HG,KR];omega
def cC:R2:=λx y H Q=>∃l b xs zs,25 x (.ref l) (y=`aS) (21 l<|.lst xs) (21 b<|.lst zs) (69 (`t+zs.length)/\∀p,41 p->Q `O (115 H p<|xs++zs))
theorem ji:OpR X (binaryOp .Add) cC:=by
 intro Z_ s Z H x y v u Q I rx ry h;obtain⟨l,b,xs,zs,rfl,rfl,hH,hB,hz,q⟩:=h;cases rx;cases ry;obtain⟨z,its,n,r,hl,e⟩:=I.lstM hH;obtain⟨z2,its2,n2,r2,hl2,e2⟩:=I.lstM hB;refine PySem.P.add_list e e2 ?_ (by rw[GN,GN];omega);have ea:`bj++its2.toArray=(its++its2).toArray:=`g
 rw[ea];exact⟨.ref _,_,I.lnew (t':=s.toks) (r.append r2) (by rw[HG];omega),`a,q _ I.fresh⟩
end
section
variable{κ:Type}[DecidableEq κ]
def jj(kvs:6 κ V)(k:κ):Option V:=(kvs.find? λkv=>decide<|kv.1=k).map (·.2)
def uz(kvs:6 κ V)(k:κ)(v:V):6 κ V:=
 if 1 (kvs.any λkv=>decide<|kv.1=k) then kvs.map (λkv=>if kv.1=k then(kv.1,v)else kv)else kvs++[(k,v)]
theorem iu{p:κ×V}{r:6 κ V}{k:κ}(e:p.1=k):0 (jj (p::r) k) p.2:=by simp[jj,Jo,e]
theorem iw{p:κ×V}{r:6 κ V}{k:κ}(e:¬p.1=k):jj (p::r) k=jj r k:=by simp[jj,Jo,e]
theorem pJ(k:κ):∀kvs:List (κ×V),(kvs.any λkv=>decide<|kv.1=k)=(jj kvs k).isSome
 | []=>rfl
 |p::r=>by
  rw[M7];by_cases e:p.1=k;·simp only[iu e,decide_eq_true e,Bool.true_or,ON]
  ·rw[iw e,decide_eq_false e,Bool.false_or];exact pJ k r
theorem RelO.isSome_eq{o:Option V}{u:`M}(r:RelO o u):o.isSome=u.isSome:=by
 cases o with
 |none=>cases u with
  |none=>rfl
  |some _=>exact(show False from r).elim
 |some _=>cases u with
  |none=>exact(show False from r).elim
  |some _=>rfl
theorem KV.val{kvs:6 κ V}{vs:6 κ Gu}(r:KV kvs vs)(k:κ):RelO (jj kvs k) (valueAt vs k):=by
 unfold KV at r
 induction r with
 |nil=>exact L7
 | @cons p q ps qs h t ih=>
  obtain⟨h1,h2⟩:=h;by_cases e:p.1=k
  ·have e':q.1=k:=h1.symm.trans e;have b:0 (valueAt (q::qs) k) q.2:=by simp[valueAt,Jo,e']
   rw[iu e,b];exact h2
  ·have e':¬q.1=k:=λz=>e (h1.trans z);have b:valueAt (q::qs) k=valueAt qs k:=by simp[valueAt,Jo,e']
   rw[iw e,b];exact ih
end
theorem AJ{P:GJ}{w:GW}{k:Key}{u:Gu}(r:78 (kV k)):1 ((mixKind P w).is k u):=by
 cases k with
 |inl i=>obtain⟨t,e⟩:=(show ∃t,u=Nb i t from r);subst e;exact pA P w i t
 |inr x=>obtain⟨t,e⟩:=(show ∃t,u=Pk x t from r);subst e;exact pD P w x t
theorem nq{P:GJ}{w:GW}:∀{ks:List Key}{us:List Gu},99 (ks.map kV)->ItemsAre (mixKind P w) ks us
 | [],_,r=>by rw[KC]at r;cases r;exact .nil
 |k::ks,_,r=>by
  rw[Hm]at r;cases r with
  |cons h t=>exact .cons (AJ h) (nq t)
section
variable{X:Cx}{Z_:`N}{Z:St}{H:Hp}{s:Gx}{a:Addr}{y v:V}{u r:Gu}{o:Option V}{A:Hk}{E:`A}
theorem Inv.big(I:`n):sysModules<`bk:=by
 have h:mainGlobals<`bk:=(I.mod.glob.keeps I.bk).lt;exact Nv ⋯ h
theorem zc{h':Heap}{t':Nat}{ob:HO}(I:`n)(mu:CD (H a))(hs:GU a `i h')(he:∃q,66 a q)(new:ObjOk `S X.w (dF H a ob) h' a ob):
  Inv X Z_ Z (dF H a ob) {s with heap:=h',toks:=t'}:=
 I.write (x:=a) (e:=a) mu `X (λb q hb z=>127 b hb z) he new
end
def w9(i:Expr):Prop:=∀ov iv,subscripted i `K ov iv=operate [ov,iv] (getItem ov iv)
theorem sL{prog:GJ}{w:GW}{A:Hk}{E:`A}{s:Gx}{env:Env}{value slice:Expr}{pos:Pos}{T id:String}{Q:`A}
  (hl:typeLookup (.type T) "__getitem__"=pure (some<|.builtin id)) (hs:w9 slice)
  (h:85 w A (eval value env) (λo s₁=>60 `r A (eval slice env) (λi s₂=>s₂.TypeIs o T/\60 `r A (getItem o i) Q E s₂) E s₁) E):
  85 w A (eval (.Subscript value slice pos) env) Q E:=by
 refine OL (Ic h (λo s₁ h₁=>Ic h₁ (λi s₂ h₂=>?_) λ_ _ x=>x) λ_ _ x=>x);obtain⟨hT,h₂⟩:=h₂;unfold subscriptTail;refine `aN;rw[getitemInPython_of_ne hT.not_modules];refine Gn (Lq hT hl ?_);have fin:60 `r A (subscripted slice `K o i) (λr s₃=>60 `r A (letTemporaryGo value o r>>=λ_=>pure r) Q E s₃) E s₂:=by
  rw[hs o i];exact wpAny_operating (Ic h₂ (λr s₃ h₃=>Gn<|wpAny_letTemporaryGo<|Gv h₃) λ_ _ x=>x)
 first
  |exact Gv (Gn fin)
  |exact Gn (Gv<|Gn fin)
  |exact Gn fin
end L2
namespace Att
open PySem PySem.W PySem.Calls PyProof.Rows
theorem kM{P:RW}{h:Heap}:∀(ns:List Int)(vs:List Gu),WellAll P h vs (ns.map Sa)->P4 vs ns:=by
 intro ns
 induction ns with
 |nil=>
  intro vs w;rw[KC]at w;cases w;exact .nil
 |cons n ns ih=>
  intro vs w;rw[Hm]at w;cases w with
  |cons a b=>
   cases a;exact .cons _ _ (ih _ b)
theorem uA{l:Mc}{n:Nat}(hn:0 l.most n){P:RW}{h:Heap}{args:List WData}{vals:`aq}
  (hpre:1 (l.row.toRowW.claim.pre args)) (hwl:WellAll P h vals args):
  ∃a vs ns,vals=[GZ a]/\args=[WData.list (ns.map Sa)]/\h.get? a=some {cls:=`bi,data:=.seq vs.toArray}/\P4 vs ns/\ns.length<=n:=by
 have hsh:1 (WShape.hasAll [] args [.list .int]):=(pre_splitW hpre).1;have hc:l.pre.holds [] {args:=args}=true:=(pre_splitW hpre).2;obtain⟨d,r,rfl,h1,h2⟩:=hasAllW_cons hsh;obtain rfl:=hasAllW_nil h2;obtain⟨xs,rfl,h3⟩:=hasW_list h1;obtain⟨ns,rfl⟩:=items_int h3;have hlen:ns.length<=n:=by
  unfold OpenLaw.pre at hc;have h4:(WTm.not<|.lt (.lit<|.int (n:Int))<|.len<|.arg 0).holds [] {args:=[.list (ns.map .int)]}=true:=by
   have h4:=(holds_andW hc).1;rw[hn]at h4;exact h4
  have h5:=condW_of h4 (w_not<|w_lt w_lit<|w_len_list<|w_arg `a);rw[Ho]at h5;refine Nat.le_of_not_lt λq=>?_;have q':(n:Int)<((ns.length:Nat):Int):=`b
  first
   |(rw[decide_eq_true q']at h5;exact absurd h5 ⋯)
   |(simp at h5;omega)
 cases hwl with
 |cons w1 w2=>
  cases w2;cases w1 with
  |list ho hall=>exact⟨_,_,ns,`a,`a,ho,kM ns _ hall,hlen⟩
theorem uB(l:Mc)(args:List WData):1 (l.row.toRowW.claim.post args (.bool `o) args):=
 postW_of (r:=l.row.toRowW) (X:=`o==`o) (show RX [] (.bool `o) .bool=true by first|rfl|decide|simp[RX,WShape.arms,WShape.armsAll]) (show(WTm.eq .res<|.lit<|.bool `o).value [] {args:=args,res:=some (.bool `o),after:=args}=some (.bool<|`o==`o)from w_eq_bool (w_res `a) w_lit) `a
theorem attach_call{l:Mc}{n:Nat}{q:GJ}{loose:`y}{XP:11 (Str->`M) Heap}{YP:11 GW Heap}{d:DefRec}
  (hn:0 l.most n) (hdf:d.params.defaults=[])
  (call:∀(w:GW) (s₀ s₁:Gx) (mg mb:Str->`M) (fa:Addr) (o:Obj) (pm cd doc:Gu) (a:Addr) (vs:`aq) (ns:`P),
   Ground q loose [] XP w s₀ mg mb s₁.heap->YP w s₁.heap->
   s₁.heap.get? fa=some o->o.data=.func (docDef d.name d.params d.body d.scope pm cd doc)->s₁.heap.CodeRec cd d.name->mg d.name=some (.ref fa)->
   s₁.heap.get? a=some {cls:=`bi,data:=.seq vs.toArray}->P4 vs ns->ns.length<=n->s₁.gens= #[]->
   codeAny (model `U w) callerA (.call (.ref fa) ⟨[.ref a],[]⟩) (λr s'=>2 r (.ok<|.ret<|.bool `o) (OldK s₁.heap s'.heap)<|s'.os=s₁.os/\Ms s'.gens) s₁):
  PY q `e XP YP l.row.toRowW d [] (λf vs=>Q6 f vs):=by
 intro w s₀ s₁ mg mb G Y fa o pm cd doc dV kV ho hd hcd hD hmg hg args vals as hpre hlay hrd hwl hlo;obtain rfl:dV=.none:=Dflts.none hD hdf;obtain rfl:kV=.none:=Dflts.noKw hD;obtain⟨a,vs,ns,rfl,rfl,hobj,hints,hlen⟩:=uA hn hpre hwl;refine enter_call (Lg (call w s₀ s₁ mg mb fa o pm cd doc a vs ns G Y ho (fd_plain hd) hcd hmg hobj hints hlen hg) λr s' hq=>?_);obtain⟨rfl,h2,h3,h4⟩:=hq;exact⟨.inl ⟨.bool `o,.bool `o,[],`a,λ_=>`a,.bool `o,uB l _,λ_=>⟨KY,λ_ hm=>(nomatch hm)⟩⟩,h2,h3,h4⟩
end Att
namespace L2
open PySem PySem.Spec PyProof.Rows
theorem jX:∀{vs:List Gu}{ns:List Int},P4 vs ns->Vals (ns.map Kx) vs
 |_,_,.nil=>.nil
 |_,_,.cons n t h=>.cons ⟨t,`a⟩ (jX h)
def Bm(H:Hp):Prop:=∀b,41 b\/∃o xs,21 b (.frz o<|.lst xs)
theorem wa{P:GJ}{w:GW}{K:Gr}{mg mb:Str->`M}{CX:CXT}{k:Nat}{fa a:Addr}{fd:GV}{x:Str}{sp:Sp}{s₁:Gx}{vs:`aq}{ns:`P}
  (KX:K.In s₁.heap) (hns:s₁.heap.Ns mainGlobals mg) (hb:s₁.heap.Ns builtinsNs mb) (hbb:∀x:Str,x≠"__name__"->mb x=bootBuiltins x) (hlim:s₁.heap.NoLimit) (hg:s₁.gens=#[])
  (ha:s₁.heap.get? a=some {cls:=`bi,data:=.seq vs.toArray}) (hi:P4 vs ns) (hl:69 ns.length) (hr:Room k callerA)
  (F:∀base:Heap,K.In `d->base.Ns mainGlobals mg->FnOk P w K mg `d CX k fa fd [x] sp) (hbind:∀(s:Gx)(u:Gu),Ol s fd ⟨[u],[]⟩ [(x,u)])
  (hsp:∀H:Hp,Bm H->SqL K H a (ns.map Kx)->sp [.ref a] H (λv _=>v=.bl `o) λ_ _ _=>False)
  (hCX:∀H e s',CX [] H s₁ (λ_ _ _=>False) e s'->False):
  codeAny (model P w) callerA (.call (.ref fa) ⟨[.ref a],[]⟩) (λr s'=>2 r (.ok<|.ret<|.bool `o) (OldK s₁.heap s'.heap)<|s'.os=s₁.os/\Ms s'.gens) s₁:=by
 have rv:=jX hi;have lenV:=hi.length;have core:∀H:Hp,34 (Bm H) (SqL K H a<|ns.map Kx) (HOk P w H s₁.heap) (∀b,H b≠`j->b=a) (H a≠`j->7 (K.lookup a)) (codeAny (model P w) callerA (.call (.ref fa) ⟨[.ref a],[]⟩) (λr s'=>2 r (.ok<|.ret<|.bool `o) (OldK s₁.heap s'.heap)<|s'.os=s₁.os/\Ms s'.gens) s₁):=by
  intro H hO hS hok hA hK;have base_of:∀{b:Addr}{o:Obj},0 (s₁.heap.get? b) o->41 b->125 (o7 s₁.heap H) b o:=λe n=>vU e n;have noA:∀{b:Addr}{o:Obj}{es:Array JE}{ep:Nat},0 (s₁.heap.get? b) o->o.data=.dict es ep->41 b:=λ{b o es ep}e d=>by
   cases q:H b with
   |none=>rfl
   |some u=>
    have e':b=a:=hA b (by rw[q];simp);subst e';rw[ha]at e;cases e;have d':Oa vs.toArray _=Data.dict es ep:=d;cases d'
  have nsK:∀{b:Addr}{m:Str->Option Gu},s₁.heap.Ns b m->(o7 s₁.heap H).Ns b m:=λ{b m}⟨o,es,ep,e,d,r⟩=>⟨o,es,ep,base_of e<|noA e d,d,r⟩
  have hKb:K.In (o7 s₁.heap H):=λb o e=>base_of (KX b o e) (by
   cases q:H b with
   |none=>rfl
   |some u=>
    have e':b=a:=hA b (by rw[q];simp);subst e';rw[hK (by rw[q];simp)]at e;cases e)
  have hM:Mod K mg (o7 s₁.heap H):=⟨hKb,nsK hns,⟨mb,nsK hb,hbb⟩,let ⟨mc,h1,h2⟩:=hlim;⟨mc,nsK h1,h2⟩⟩
  have e0:Env0 P w K mg (o7 s₁.heap H) callerA [] s₁ H:=⟨rfl,hM,λb o e=>yT e,Nat.le_of_eq (um _ _),trivial,λb hb=>absurd (show b∈([]:`R)from hb) `g,hok,.of_eq hg⟩
  refine Lg ((F _ hKb<|nsK hns).run callerA [] s₁ H ⟨[.ref a],[]⟩ [.ref a] [.ref a] _ _ hr e0 (hbind s₁ `ai) (.cons `a .nil)<|hsp H hO hS) λr s' h=>?_;cases r with
  |error e=>exact(hCX H e s' h).elim
  |ok fl=>
   cases fl with
   |next=>exact J5 h
   |brk=>exact J5 h
   |cont=>exact J5 h
   |ret u=>
    obtain⟨v,H',os,bare,un,hok',r',q⟩:=h;have q':v=.bl `o:=q;subst q';obtain rfl:u=Q0 `o:=r';refine⟨`a,OldK.of_keep λb o e=>?_,os,bare⟩;cases q:H b with
    |none=>exact un.keep b o e q (by intro z;exact absurd (show b∈([]:`R)from z) `g) `g
    |some u=>
     rcases hO b with z|⟨ob,xs,z⟩
     ·rw[q]at z;cases z
     ·have z2:=un.frzs b ob _ z;obtain⟨e1,_⟩:=hok b _ z;obtain⟨e2,_⟩:=hok' b _ z2;rw[e]at e1;cases e1;exact e2
 cases hk:K.lookup a with
 |some o=>
  have e:=KX a o hk;rw[ha]at e;cases e;refine core (λ_=>`j) (λ_=>`X) (.inr ⟨_,vs.toArray,_,hk,rfl,rfl,rfl,by rw[GN,lenV];exact hl,by simpa using rv⟩) (λb u z=>by have z':0 (none:Option HO) u:=z;cases z') (λb z=>absurd `a z) λz=>absurd `a z
 |none=>
  refine core (λb=>if b=a then some (.frz {cls:=`bi,data:=.seq vs.toArray}<|.lst<|ns.map Kx)else none) (λb=>?_) (.inl<|.inr ⟨{cls:=`bi,data:=.seq vs.toArray},`aX⟩) (λb u z=>?_) (λb z=>?_) λ_=>hk
  ·by_cases hb:b=a;·exact .inr (8 _<|Z3 hb)
   ·exact .inl (Z4 hb)
  ·by_cases hb:b=a
   ·have z':=(Z3 hb).symm.trans z;cases z';subst hb;exact⟨ha,by rw[Ho];exact hl,vs,_,rv,ha⟩
   ·have z':=(Z4 hb).symm.trans z;cases z'
  ·by_cases hb:b=a;·exact hb
   ·exact absurd (Z4 hb) z
theorem walk_of{l:Mc}{n k:Nat}{q:GJ}{loose:`y}{XP:11 (Str->`M) Heap}{YP:11 GW Heap}{d:DefRec}{K:RW->Gr}{CX:GW->CXT}{sp:GW->Sp}{x:Str}
  (hn:0 l.most n) (hn2:69 n) (hdf:d.params.defaults=[]) (hr:Room k callerA)
  (hY:∀(w:GW)(h:Heap),YP w h->(K w.params).In h)
  (F:∀(w:GW) (mg:Str->Option Gu) (fa:Addr) (h:Heap),(K w.params).In h->h.Ns mainGlobals mg->90 d.name fa->∃fd:GV,(∀(s:Gx)(u:Gu),Ol s fd ⟨[u],[]⟩ [(x,u)])/\∀base:Heap,(K w.params).In `d->base.Ns mainGlobals mg->FnOk `U w (K w.params) mg `d (CX w) k fa fd [x] (sp w))
  (hsp:∀(w:GW)(H:Hp)(a:Addr)(ns:List Int),ns.length<=n->Bm H->SqL (K w.params) H a (ns.map Kx)->sp w [.ref a] H (λv _=>v=.bl `o) λ_ _ _=>False)
  (hCX:∀(w:GW)(H:Hp)(s:Gx)(e:Gu)(s':Gx),CX w [] H s (λ_ _ _=>False) e s'->False):
  PY q `e XP YP l.row.toRowW d [] (λf vs=>Q6 f vs):=by
 refine Att.attach_call hn hdf λw s₀ s₁ mg mb fa o pm cd doc a vs ns G Y ho hd hcd hmg hobj hints hlen hg=>?_;have KX:=hY w _ Y;obtain⟨fd,hb,hF⟩:=F w mg fa _ KX G.T.g hmg;exact wa KX G.T.g G.T.b G.T.builtins G.T.nolimit hg hobj hints (Ip hlen hn2) hr hF hb (λH hO hS=>hsp w H a ns hlen hO hS) λH e s'=>hCX w H s₁ e s'
def defArgs(s:Stmt):Arguments:=match s with
 | .FunctionDef _ a _ _ _ _ _ _ _ _=>a
 |_=>{posonlyargs:=[],args:=[],vararg:=none,kwonlyargs:=[],kw_defaults:=[],kwarg:=none,defaults:=[]}
def defBody(s:Stmt):List Stmt:=match s with
 | .FunctionDef _ _ b _ _ _ _ _ _ _=>b
 |_=>[]
def defScope(s:Stmt):Ka:=match s with
 | .FunctionDef _ _ _ _ _ _ sc _ _ _=>sc
 |_=>{kind:=.function,names:=[],isGenerator:=false,isCoroutine:=false}
abbrev CX0:CXT:=λ_ _ _ _ _ _=>False
abbrev E0:XK:=λ_ _ _=>False
theorem CO{X:Cx}:jW CX0 X E0:=λ_ _ _ _ _ _ _ h=>h.elim
structure Fun(K:Gr)(x Z6:Str)(st:Stmt)(f:Addr)(fd:GV):Prop where
 ex:∃(oc:Gu)(od:Option Addr)(kV doc pm:Gu)(an:Option Addr)(Z9 ct:Gu)(osl:Array (Option Gu)),2 fd (JZ x Z6 (defArgs st) (defBody st) `bt .none kV doc pm an Z9 ct) (142 f ⟨oc,od,.func fd,osl⟩) (1<|LL K Z9 Z6)
 kp:1 (JO K<|.ref f)
section
variable{P:GJ}{w:GW}{K:Gr}{mg:Str->`M}{base:Heap}
theorem Fun.ok{x Z6:Str}{st:Stmt}{f:Addr}{fd:GV}{N ps:`y}{k:Nat}{sp:Sp}(F:Fun K x Z6 st f fd)(Z1:FnScope N ps (defScope st))(len:∀vs H Q E,sp vs H Q E->`aK=`bh)
  (hbody:∀(Z9:Gu) (A:Hk) (outer:`bA) (s:Gx) (H:Hp) (vs:`E) (Q:VK) (E:XK),Room k (A.deeper<|152 Z6 `bt f Z9)->sp vs H Q E->
   ∃t,PSs (mI CX0 P w K mg `d N Z6 `bt f Z9 A `G s H E).nox (defBody st) t/\t {nx:=λ_ H'=>Q .non H',rt:=Q} (start N vs) H):FnOk P w K mg `d CX0 (k+1) f fd ps sp:=by
 obtain⟨oc,od,kV,doc,pm,an,Z9,ct,osl,rfl,lk,hcd⟩:=F.ex;refine AH lk hcd Z1 len λA outer s H vs Q E hr hsp=>?_;obtain⟨t,h,q⟩:=hbody Z9 A `G s H vs Q E hr hsp;exact⟨t,h.nox,q⟩
theorem Fun.binds{x Z6:Str}{st:Stmt}{f:Addr}{fd:GV}{ps:`y}(F:Fun K x Z6 st f fd)
  (h:∀(kV doc pm:Gu)(an:Option Addr)(Z9 ct:Gu)(us:List Gu),us.length=`bh->bindArgs (JZ x Z6 (defArgs st) (defBody st) `bt .none kV doc pm an Z9 ct) ⟨us,[]⟩=pure (ps.zip us)):Binds K fd ps []:=by
 obtain⟨oc,od,kV,doc,pm,an,Z9,ct,osl,rfl,lk,hcd⟩:=F.ex;exact .all (h kV doc pm an Z9 ct)
theorem rf{x Z6:Str}{st:Stmt}{f:Addr}{oc:Gu}{od an:`aW}{osl:Array `M}{kV doc pm Z9 ct:Gu}(l:142 f ⟨oc,od,.func<|JZ x Z6 (defArgs st) (defBody st) `bt .none kV doc pm an Z9 ct,osl⟩)
  (c:1 (LL K Z9 Z6)) (k:1 (JO K<|.ref f)):Fun K x Z6 st f (JZ x Z6 (defArgs st) (defBody st) `bt .none kV doc pm an Z9 ct):=⟨⟨oc,od,kV,doc,pm,an,Z9,ct,osl,`a,l,c⟩,k⟩
end
section
variable{X:Cx}
theorem pv(i:Nat){x:Str}{pos:Pos}(hN:0 X.N[i]? x:=by rfl)(hv:Vis X.env.scope x:=by first|exact LM rfl|exact Lv (LM `a)|exact Lv (Lv `a))(hd:12 (x==("__debug__" :Str)):=by decide)
  (hcd:12 (x==("__classdict__" :Str)):=by decide):9 (.Name x pos) (bH i):=Bd hN hv hd hcd
end
def Same(H H':Hp):Prop:=∀b o,21 b o->0 (H' b) o
theorem Same.refl(H:Hp):Same H H:=λ_ _ h=>h
theorem Same.trans{H H1 H2:Hp}(a:Same H H1)(b:Same H1 H2):Same H H2:=λc o h=>b c o (a c o h)
theorem Same.seq{K:Gr}{H H':Hp}{a:Addr}{xs:`E}(e:Same H H')(h:SqL K H a xs):SqL K H' a xs:=by
 rcases h with(h|⟨o,h⟩)|h;·exact .inl (.inl<|e _ _ h)
 ·exact .inl (.inr ⟨o,e _ _ h⟩)
 ·exact .inr h
end L2
set_option maxHeartbeats 4000000
namespace L2
open PySem PySem.Spec PyProof.Rows
abbrev sOf(l:`br):Str:=⟨l.toArray⟩
theorem dh(l:`br):(sOf l).length=`ag:=by simp[RS,sOf]
theorem oq(l:`br):(sOf l).cps.toList=l:=by simp[sOf]
theorem gY(a b:`br):sOf a++sOf b=sOf (a++b):=by
 apply PySem.Str.ext';rw[PySem.Str.cps_append];simp[sOf]
theorem sM{a b:`br}(h:sOf a=sOf b):a=b:=by
 have:=congrArg (λx=>x.cps.toList) h;simpa [sOf] using this
theorem wb(x:Str):x=sOf x.cps.toList:=by cases x;simp[sOf]
def DictK(K:Gr)(w:GW)(a:Addr)(kvs:6 Key V):Prop:=
 kvs.length<=1000/\(a==sysModules)=false/\(kvs.map (·.1)).Nodup/\∃(es:Array JE)(ep:Nat),K.lookup a=some {cls:=.type "dict",data:=.dict es ep}/\
  Paired (λ(p:Key×V)(e:JE)=>1 (ij p.1 e.key)/\e.hash=vT w p.1/\RelV p.2 e.val) kvs es.toList
theorem pK{P:GJ}{w:GW}{kvs:6 Key V}{es:List JE}(r:Paired (λ(p:Key×V)(e:JE)=>1 (ij p.1 e.key)/\e.hash=vT w p.1/\RelV p.2 e.val) kvs es):
  ∀e∈es,∃k,1 (ij k e.key)/\e.hash=vT w k:=by
 induction r with
 |nil=>intro e h;cases h
 | @cons p e ps es h t ih=>
  intro e' h';rcases GI.mp h' with rfl|h'
  ·exact⟨p.1,h.1,h.2.1⟩
  ·exact ih e' h'
theorem ou{P:GJ}{w:GW}{kvs:6 Key V}{es:List JE}(r:Paired (λ(p:Key×V)(e:JE)=>1 (ij p.1 e.key)/\e.hash=vT w p.1/\RelV p.2 e.val) kvs es):
  ∃vs,KV kvs vs/\Pairs (mixKind P w) es vs/\vs.map (·.1)=kvs.map (·.1):=by
 induction r with
 |nil=>exact⟨[],.nil,.nil,`a⟩
 | @cons p e ps es h t ih=>
  obtain⟨vs,h1,h2,h3⟩:=ih;exact⟨(p.1,e.val)::vs,.cons (15 h.2.2) h1,.cons h.1 `a h2,by simp[h3]⟩
theorem DictK.of{P:GJ}{w:GW}{K:Gr}{a:Addr}{kvs:6 Key V}{h:Heap}(d:DictK K w a kvs)(x:K.In h):12 (a==sysModules)/\∃vs,KV kvs vs/\h.DictOf (mixKind P w) a vs:=by
 obtain⟨hz,hs,nd,es,ep,lk,r⟩:=d;obtain⟨vs,h1,h2,h3⟩:=ou (P:=P) r;refine⟨hs,vs,h1,_,es,ep,x _ _ lk,32 `a `a,`a,λe he=>pK (P:=P) r e<|by simpa using he,h2,by rw[h3];exact nd⟩
section
variable{X:Cx}{o i e:Expr}{pos:Pos}{td ty:TE}
def aP(K:Gr)(w:GW)(td ty:TE):TE:=λZ H Q=>td Z H λx H1=>ty Z H1 λy H2=>∃a kvs k v,2 x `ai (DictK K w a kvs) (2 y (kV k) (0 (jj kvs k) v)<|Q v H2)
theorem wc(ho:9 o td)(hi:9 i ty)(hs:w9 i):9 (.Subscript o i pos) (aP X.K X.w td ty):=by
 intro Z_ s Z H Q I h;refine sL MM.lookup hs (cE (ho Z_ s Z H _ I h) λu s1 zz=>?_);obtain⟨x,H1,I1,rx,q1⟩:=zz;refine cE (hi Z_ s1 Z H1 _ I1 q1) λiv s2 zz=>?_;obtain⟨y,H2,I2,ry,a,kvs,k,v,ex,dk,ey,ev,q2⟩:=zz;subst ex ey;obtain rfl:u=GZ a:=rx;obtain⟨hd,vs,rel,dd⟩:=dk.of (P:=X.prog) I2.kIn;refine⟨dd.typeIs,?_⟩;obtain⟨w',hw,rw'⟩:=Rj (v:=v) (o:=valueAt vs k) (by rw[<-ev];exact rel.val k);exact wpAny_getItem_of (AJ ry) dd.mapOf hw ⟨v,H2,I2.tok _,rw',q2⟩
end
section
variable{X:Cx}
theorem gN:141 X .Is (λx y H Q=>∃c,y=.bl c/\Q (.bl<|decide<|x=.bl c) H):=by
 intro Z_ s Z H x y v u Q I rx ry h;obtain⟨c,rfl,q⟩:=h;cases ry;cases x with
 |bl b=>cases rx;exact is_bool (bu I q (by cases b<;>cases c<;>simp))
 |non=>cases rx;exact Gv (97 I q)
 |int i=>obtain⟨t,rfl⟩:=rx;exact Gv (97 I q)
 |str i=>obtain⟨t,rfl⟩:=rx;exact Gv (97 I q)
 |byt i=>obtain⟨t,rfl⟩:=rx;exact Gv (97 I q)
 |flt i=>obtain⟨t,rfl⟩:=rx;exact Gv (97 I q)
 |ref a=>cases rx;exact Gv (97 I q)
 |ty a=>cases rx;exact Gv (97 I q)
theorem rg:OpR X (binaryOp .Mult) (λx y H Q=>∃c n,25 x (88 [c]) (y=.int n) (0<=n) (94 n)<|Q (88<|Ju n.toNat c) H):=by
 intro Z_ s Z H x y v u Q I rx ry h;obtain⟨c,n,rfl,rfl,h0,h1,q⟩:=h;obtain⟨t,rfl⟩:=rx;obtain⟨t',rfl⟩:=ry;have hl:(sOf [c]).length=1:=dh [c];refine SB.mul ?_ λt' k=>?_
 ·refine⟨?_,λ_ _=>?_,λ_ _=>?_⟩
  ·have e1:decide (n< -(2^63:Int))=false:=decide_eq_false `b;have e2:decide (n≥2^63)=false:=decide_eq_false `b;rw[e1,e2];rfl
  ·rw[hl];have h2:1<=n:=`b
   have:(1:Int)<=(2^63-1)/n:=(Int.le_ediv_iff_mul_le `b).mpr `b;omega
  ·rw[hl];unfold RQ;have:=Iq;simp;omega
 ·have e:S6 (sOf [c]) n=sOf (Ju n.toNat c):=by
   rw[wb (S6 (sOf [c]) n)];show sOf (S6 ⟨#[c]⟩ n).cps.toList=_;rw[mul_one_list]
  exact⟨.str _,H,I.tok _,⟨t',`a⟩,by rw[e];exact q⟩
end
section
variable{X:Cx}
def kN(l:`br)(lo hi:`aH):`br:=(l.drop<|HT.sIx `ag 0 lo).take (HT.sIx `ag `ag hi-HT.sIx `ag 0 lo)
theorem lx(lo hi:`aH)(n:Nat):Jt lo hi 1 n=sliceRange ((HT.sIx n 0 lo:Nat):Int) ((HT.sIx n n hi:Nat):Int) 1:=by
 unfold Jt;have e1:(match lo with|none=>(0:Int)|some i=>max 0 (min (if i<0 then i+(n:Int)else i) n))=((HT.sIx n 0 lo:Nat):Int):=by
  cases lo with
  |none=>simp[HT.sIx]
  |some i=>simp only[HT.sIx];by_cases h:i<0<;>simp only[h,if_true,if_false]<;>omega
 have e2:(match hi with|none=>(n:Int)|some i=>max 0 (min (if i<0 then i+(n:Int)else i) n))=((HT.sIx n n hi:Nat):Int):=by
  cases hi with
  |none=>simp[HT.sIx]
  |some i=>simp only[HT.sIx];by_cases h:i<0<;>simp only[h,if_true,if_false]<;>omega
 simp only[show(1:Int)>0 by decide,if_true];rw[<-e1,<-e2];cases lo<;>cases hi<;>rfl
theorem uC(l:`br)(lo hi:`aH):Pp (sOf l) lo hi=sOf (kN l lo hi):=by
 have hn:(sOf l).length=`ag:=dh l;have hk:(Jt lo hi 1 `ag).filterMap ((sOf l).cps[·]?)=kN l lo hi:=by
  rw[lx,O8,pick_run];simp[kN]
 have hlen:(Jt lo hi 1 `ag).length=(kN l lo hi).length:=by
  rw[lx,O8];have h1:=HT.sIx_le `ag 0 (Hq _) lo;have h2:=HT.sIx_le `ag `ag `w hi;simp[kN];omega
 unfold Pp;rw[hn];split
 ·rename_i h;have h:(Jt lo hi 1 `ag).length=`ag:=`bL
  have hl:=hlen.symm.trans h;have e:kN l lo hi=l:=by
   have h3:(kN l lo hi).length<=(l.drop<|HT.sIx `ag 0 lo).length:=by unfold kN;simp;omega
   have h4:HT.sIx `ag 0 lo=0\/`ag=0:=by
    rw[K9]at h3;omega
   rcases h4 with h4|h4
   ·unfold kN at hl ⊢;rw[h4]at hl ⊢;rw[Mz]at hl ⊢;rw[K8]at hl;exact K0 `b
   ·have:l=[]:=Ks.mp h4;subst this;simp[kN]
  rw[e]
 ·rw[hk]
theorem cZ:DS X (λx lo hi H Q=>∃l,2 x (88 l) (69 `ag)<|Q (88<|kN l lo hi) H):=by
 intro Z_ s Z H x v vl vu lo hi sl Q I rx hs pl pu h;obtain⟨l,rfl,hz,q⟩:=h;obtain⟨t,rfl⟩:=rx;obtain⟨a1,rfl,e1⟩:∃a:Option (Int×Tok),vl=partValue a/\a.map (·.1)=lo:=by
  cases pl with
  |none=>exact 32 `j `a
  |int i t=>exact 32 (some (i,t)) `a
 obtain⟨a2,rfl,e2⟩:∃a:Option (Int×Tok),vu=partValue a/\a.map (·.1)=hi:=by
  cases pu with
  |none=>exact 32 `j `a
  |int i t=>exact 32 (some (i,t)) `a
 have hle:69 (Pp (sOf l) lo hi).length:=Ip (Txt.slice_le _ _ _) (by rw[dh];exact hz);refine⟨"str",_,PySem.F.slot_str_getitem.lookup,Q5 _ _ _,wpAny_getItem_str_slice (l:=a1) (u:=a2) (st:=none) hs `a ?_⟩;subst e1 e2;refine post_val_or_str ⟨hle,λt' k=>⟨.str _,H,I.tok _,⟨t',`a⟩,?_⟩⟩;have:=uC l (a1.map (·.1)) (a2.map (·.1));unfold Pp at this;show Q (.str (if _ then _ else _)) H;exact this▸q
theorem wd(hc:`bw):CM X "str.index" (λx xs H Q=>∃a b,2 x (.str a) (xs=[.str b])<|0<=MA a b/\Q (.int<|MA a b) H):=by
 intro Z_ s Z H x xs v us Q I rx rs h;obtain⟨a,b,rfl,rfl,h0,q⟩:=h;obtain⟨t,rfl⟩:=rx;obtain⟨u,rfl,t',rfl⟩:=gL rs;refine index_or `bu (λe=>?_) λ_ _=>⟨.int _,H,I.tok _,`au,q⟩
 omega
theorem rh{ys:List `br}:∀{us:List Gu},99 (ys.map λy=>LS<|sOf y)->StrsAre us (ys.map sOf):=by
 induction ys with
 |nil=>intro us r;cases r;exact .nil
 |cons y ys ih=>
  intro us r;cases r with
  |cons r1 r2=>
   obtain⟨t,e⟩:=r1;subst e;exact .cons _ t (ih r2)
theorem rj(ys:List `br):Txt.join (sOf []) (ys.map sOf)=sOf ys.flatten:=by
 have key:∀(r:List (List Nat))(acc:List Nat),(r.map sOf).foldl (λacc p=>acc++(sOf []).cps++p.cps) acc.toArray=(acc++r.flatten).toArray:=by
  intro r
  induction r with
  |nil=>intro acc;simp
  |cons a r ih=>
   intro acc;rw[Hm,Mk,List.flatten_cons,<-Hj,<-ih (acc++a)];simp[sOf]
 cases ys with
 |nil=>rfl
 |cons a r=>
  show Str.mk ((r.map sOf).foldl (λacc p=>acc++(sOf []).cps++p.cps) a.toArray)=_;rw[key];rfl
theorem zd:CM X "str.join" (λx xs H Q=>∃(p:Addr)(ys:List (List Nat)),25 x (88 []) (xs=[.ref p]) (SqL X.K H p<|ys.map λy=>LS<|sOf y) (94 ys.flatten.length)<|Q (88 ys.flatten) H):=by
 intro Z_ s Z H x xs v us Q I rx rs h;obtain⟨p,ys,rfl,rfl,hp,hl,q⟩:=h;obtain⟨t,rfl⟩:=rx;obtain⟨u,rfl,r1⟩:=gL rs;cases r1;obtain⟨its,r,pl,hz⟩:=I.list hp;refine join_list pl.isList (by simpa using rh r) ?_ λt' k=>⟨.str _,H,I.tok _,⟨t',`a⟩,by rw[rj];exact q⟩
 have e:((ys.map sOf).map (·.length)).sum=ys.flatten.length:=by
  rw[JK,List.length_flatten];congr 1
  all_goals exact List.map_congr_left λy _=>dh y
 have e2:(sOf []).length=0:=dh [];rw[e,e2];omega
theorem pL:eY X (.builtin "isinstance") λxs H Q=>∃x T t b,2 xs [x,.ty T] (TyOf X.K H x t) (0 (HD X.K t<|.type T) b/\Q (.bl b) H):=by
 intro Z_ s Z H xs us Q I r h;obtain⟨x,T,t,b,rfl,ty,e,q⟩:=h;obtain⟨u,w',rfl,rx,rT⟩:=pG r;obtain rfl:w'=.type T:=rT;exact ux I rx ty e λtk=>⟨.bl b,H,I.tok _,`a,q⟩
def Fh(l:`br):It:=⟨λi _=>i<`ag,λi H x H'=>H'=H/\∃c,0 l[i]? c/\x=88 [c],λi _=>`ag<=i⟩
def CP(tl:TE):TI:=λZ H R=>tl Z H λx H1=>∃l,x=88 l/\R (Fh l) H1
end
theorem we{P:GJ}{w:GW}{K:Gr}{tg:Expr}(l:`br)(it:Addr)(ty:String)(t:Tok)(hty:ty="str_ascii_iterator"\/ty="str_iterator")
  (W:∀A':Hk,7 A'.handled->Walks P w A' it [it] [it] `ag (SignAt<|sOf l) (λi h=>h.IsStrIter it ty (sOf l) t i)):
  Turn P w K tg (Fh l) [it] it (λi h=>i<=`ag/\h.IsStrIter it ty (sOf l) t i) where
 mem:=`g
 obj:=λi h st b hb=>by
  have e:b=it:=`bC
  subst e;obtain⟨_,o,e,c,d⟩:=st;exact⟨o,e,λv z=>by rw[d]at z;cases z⟩
 keep:=λi h h' st k=>⟨st.1,by obtain⟨o,e,r⟩:=st.2;exact⟨o,k it `g o e,r⟩⟩
 item:=by
  intro X hP hw hK hc i Z_ s Z H E I hf st hg;subst hP hw hK;obtain⟨f0,f1,f2,f3,f4,f5⟩:=110 it;refine(W X.A `bu).item i s _ _ hg st.2 λv h' tk hv st' kk=>?_;obtain⟨c,u,hc',rfl⟩:=hv;have I1:Inv X Z_ Z H {s with heap:=h',toks:=tk}:=I.turned (λb o hb e=>kk b o `bC e) f0 f1 f3 f4 f5;obtain⟨o,e,c1,d⟩:=id st';refine 8 `a (mY (s:={s with heap:=h',toks:=tk}) (n:=ty) e c1 d (by rcases hty with rfl|rfl<;>decide) ⟨88 [c],H,I1,⟨u,`a⟩,⟨`a,c,?_,`a⟩,⟨hg,st'⟩,λb hb=>(hf b hb).1⟩);simpa [sOf] using hc'
 done:=by
  intro X hP hw hK hc i Z_ s Z H E I hf st hg;subst hP hw hK;obtain⟨f0,f1,f2,f3,f4,f5⟩:=110 it;have e:i=`ag:=Nat.le_antisymm st.1 hg;subst e;exact(W X.A `bu).done s _ _ st.2 λh' tk kk=>15 (I.turned (λb o hb e=>kk b o `bC e) f0 f1 f3 f4 f5)
 self:=λA i s Q E st h=>by
  rcases hty with rfl|rfl;·exact wpAny_pyIter_striter_ascii st.2 h
  ·exact wpAny_pyIter_striter_wide st.2 h
theorem jY{X:Cx}{tg l:Expr}{tl:TE}(hl:9 l tl):PI X tg l (CP tl):=by
 intro Z_ s Z H R I h;refine 137 (hl Z_ s Z H _ I h) ?_;obtain⟨x,H1,I1,r1,q1⟩:=zz;obtain⟨y,e,q⟩:=q1;subst e;obtain⟨t,rfl⟩:=r1;have hn:(sOf y).cps.size=y.length:=by simp[sOf]
 have fin:∀(ob:Obj)(ty:String),(ty="str_ascii_iterator"\/ty="str_iterator")->(∀A':Hk,7 A'.handled->Walks `S X.w A' `ba [s1.heap.objs.size] [s1.heap.objs.size] y.length (SignAt<|sOf y) (λi h=>h.IsStrIter `ba ty (sOf y) t i))->
   (s1.heap.push ob).IsStrIter s1.heap.objs.size ty (sOf y) t 0->EM X Z_ Z tg R (.ref `ba) {s1 with heap:=s1.heap.push ob}:=λob ty hty W st=>by
  refine⟨`ba,[s1.heap.objs.size],_,_,H1,`a,I1.kept (t':=s1.toks) λb o e=>17 e,we y _ ty t hty W,⟨Hq _,st⟩,`bm,q⟩;have e:b=`ba:=`bC
  subst e;exact 155 `w `w
 cases ha:(sOf y).cps.all (· <128);·exact P6 ha (fin _ "str_iterator" `bq (λA' hA=>hn▸Walks.strWide hA _ (sOf y) t) ⟨_,86 _,`a,`a⟩)
 ·exact OO ha (fin _ "str_ascii_iterator" `X (λA' hA=>hn▸Walks.strAscii hA _ (sOf y) t) ⟨_,86 _,`a,`a⟩)
def cX(env:Env):6 Str Kr->6 Str Addr->6 Str Addr
 | [],acc=>acc
 |(n,k)::r,acc=>cX env r (if 1 (k==.free) then(n,(env.cells.lookup n).getD 0)::acc else acc)
theorem dW{scope:Ka}{env:Env}(h:148 (x.2=.free) (∃c,157 x.1 c)):closureFor `C env=pure (cX env scope.names []):=by
 simp only[closureFor];have key:∀(names:List (Str×Kr))(acc:List (Str×Addr)),(∀x∈names,x.2=.free->∃c,157 x.1 c)->(forIn names acc λ(x:Str×Kr)(cs:6 Str Addr)=>if 1 (x.2==.free) then(do let a <-cellOf env x.1;pure (HB<|(x.1,a)::cs))else pure (HB cs))=(pure (cX env names acc):Sem _):=by
  intro names
  induction names with
  |nil=>intro acc _;rfl
  |cons x r ih=>
   intro acc hx;obtain⟨n,k⟩:=x;rw[KJ];have hr:∀y∈r,y.2=.free->∃c,157 y.1 c:=λy hy=>hx y (GS _ hy);unfold cX;by_cases hk:1 (k==IT)
   ·obtain⟨c,hc⟩:=hx (n,k) GO (by simpa using hk);have hc:157 n c:=hc;simp only[hk,if_true];unfold cellOf;simp only[hc,M3];exact ih _ hr
   ·simp only[hk,if_false];exact ih _ hr
 have:=key scope.names [] h;rw[this];rfl
theorem ix{env:Env}{x:Str}{c:Addr}:∀(names:List (Str×Kr))(acc:List (Str×Addr)),(∀y∈names,y.2=.free->∃c,157 y.1 c)->0 ((cX env names acc).lookup x) c->(x,IT)∈names/\157 x c\/0 (acc.lookup x) c
 | [],_,_,h=>.inr h
 |(n,k)::r,acc,hx,h=>by
  unfold cX at h;rcases ix r _ (λy hy=>hx y<|GS _ hy) h with⟨q1,q2⟩|q
  ·exact 116 (GS _ q1) q2
  ·by_cases hk:1 (k==IT)
   ·rw[Z3 hk]at q;have hk':k=.free:=by simpa using hk
    subst hk';rw[Jr]at q;cases hb:x==n with
    |true=>
     rw[hb]at q;have e:x=n:=beq_iff_eq.mp hb;subst e;obtain⟨c',hc⟩:=hx (x,.free) GO `a;have hc:157 x c':=hc;rw[hc]at q;simp at q;subst q;exact 116 GO hc
    |false=>rw[hb]at q;exact .inr q
   ·rw[Z4 hk]at q;exact .inr q
theorem kF{env:Env}{x:Str}{c:Addr}:∀(names:List (Str×Kr))(acc:List (Str×Addr)),0 (acc.lookup x) c->157 x c->0 ((cX env names acc).lookup x) c
 | [],_,h,_=>h
 |(n,k)::r,acc,h,he=>by
  unfold cX;refine kF r _ ?_ he;by_cases hk:1 (k==IT)
  ·rw[Z3 hk,Jr];cases hb:x==n with
   |true=>
    have e:x=n:=beq_iff_eq.mp hb;subst e;simp[he]
   |false=>exact h
  ·rw[Z4 hk];exact h
theorem kG{env:Env}{x:Str}{c:Addr}:∀(names:List (Str×Kr))(acc:List (Str×Addr)),(x,IT)∈names->157 x c->0 ((cX env names acc).lookup x) c
 |(n,k)::r,acc,h,he=>by
  unfold cX;rcases GI.mp h with e|h
  ·cases e;exact kF r _ (by simp[he]) he
  ·exact kG r _ h he
theorem dv:∀(names:List (Str×Kr))(n:Nat)(acc:List (Str×Addr)),cellsFrom n names acc=cellsFrom n names []++acc
 | [],_,_=>rfl
 |(x,k)::r,n,acc=>by
  unfold cellsFrom;split;·rw[dv r _ ((x,n)::acc),dv r _ [(x,n)],Hj];rfl
  ·exact dv r n acc
theorem fE:∀(names:List (Str×Kr))(n:Nat){x:Str}{c:Addr},(x,c)∈cellsFrom n names []->(x,OB)∈names
 | [],_,_,_,h=>by cases h
 |(y,k)::r,n,x,c,h=>by
  unfold cellsFrom at h;split at h
  ·rename_i hk;rw[dv]at h;rcases HA.mp h with h|h
   ·exact GS _ (fE r _ h)
   ·have e:(x,c)=(y,n):=`bL
    cases e;have hk':k=.cell:=by simpa using hk
    subst hk';exact GO
  ·exact GS _ (fE r _ h)
theorem ly{M:Mv}{A:Hk}{E:`A}{s:Gx}{scope:Ka}{env:Env}{cl:6 Str Addr}{Q:68 Env}
  (hQ:Q (newEnv `C `bk env.globals (154 (89 1) cl) env.qual `j .none (some env) builtinsNs) {s with heap:=pushCells (s.heap.push {cls:=.type "dict",data:=.dict #[]}) scope.names}):
  57 M A (newFunctionEnv `C env.globals cl [] env.qual `j .none<|some env) Q E:=by
 simp only[newFunctionEnv,ON,if_true];refine Gn (wpAny_alloc ?_);refine Gn (wpAny_layCells _ (λname kind cells=>by cases hkc:kind==OB<;>simp[hkc]) _ _ _ _ ?_);rw[show({s with heap:=s.heap.push {cls:=.type "dict",data:=.dict #[]}}:Gx).heap.objs.size=89 1 from HQ ..];simp only[L8];exact Gn (Gv<|Gv hQ)
section
variable{prog:GJ}{w:GW}{A:Hk}{R:68 Q4}{s:Gx}
theorem oz{Z5 target iter:Expr}{ifs:`af}{scope:Ka}{pos:Pos}{it acc:Gu}{env:Env}(I:68 Nat)
  (turn:∀n s,I n s->85 w A (pyNext it) (λr s₁=>match r with
   |none=>R (.ok .next) s₁
   | some v=>60 `r A (letOwnedTupleGo target it v) (λ_ s₁'=>60 `r A (assign target env v) (λ_ s₂=>60 `r A (forIn ifs true λc r=>if 1 r then do let ok <-isTrue c env (eval c env);pure (HB ok)else pure (HB r)) (λok s₃=>
      if 1 ok then 60 `r A (eval Z5 env) (λx s₄=>60 `r A (call (.builtin "list.append") [acc,x]) (λ_ s₅=>∃m,m<n/\I m s₅) `bv s₄) `bv s₃
      else ∃m,m<n/\I m s₃) `bv s₂) `bv s₁') `bv s₁) `bv)
  (n:Nat) (h:I n s):codeAny (model `r w) A (.compLoop (.ListComp Z5 [⟨target,iter,ifs,0⟩] `C pos) 0 it acc env) R s:=by
 refine codeAny_loop `a I (λn s hI=>?_) n h;show 57 _ A ((compTurn (.ListComp Z5 [⟨target,iter,ifs,0⟩] `C pos) 0 it acc env).onRaise (λx=>do noteFrame x env;theTreesLotGoes x)) _ _;refine wpAny_noted ?_;rw[compTurn_list];refine Gn (JJ<|Gn<|Ic (turn n s hI) (λr s₁ h₁=>?_) `bW);cases r with
 |none=>exact Gv h₁
 |some v=>
  refine Gn (Ic h₁ (λ_ s₁' h₁'=>?_) `bW);refine Gn (Ic h₁' (λ_ s₂ h₂=>Gn<|Ic h₂ (λok s₃ h₃=>?_) `bW) `bW);cases ok with
  |true=>
   rw[`aX]at h₃;exact Gn (Gn<|Ic h₃ (λx s₄ h₄=>Gn<|Ic h₄ (λ_ s₅ h₅=>Gv<|Gv<|15 h₅) `bW) `bW)
  |false=>
   rw[Z4 GL]at h₃;exact Gv (15 h₃)
end
def wg(scope:Ka)(x:Str):Bool:=scope.names.lookup x==some .local||scope.names.lookup x==some .cell
def aN(X:Cx)(scope:Ka)(N:`y)(s:Gx)(H:Hp)(C:Addr)(fp:`R):Cx:=
 {X with N:=N,s₀:=s,H₀:=H,env:=compEnvC scope (cellsFrom (C+1) scope.names<|cX X.env scope.names []) C X.env,outer:=X.stack,ex:=fp,fn:=wg scope,pn:=[],xe:=λ_ _=>False}
def bU(cap:List `ae)(Z:St):St:=cap.map λo=>o.bind λj=>(Z[j]?).bind id
structure CompScope(X:Cx)(scope:Ka)(N:`y)(cap:List `ae):Prop where
 kind:scope.kind=.function
 nd:N.Nodup
 len:cap.length=N.length
 uniq:(scope.names.map (·.1)).Nodup
 free:148 (x.2=.free) (0 (X.env.kindOf x.1) .cell\/0 (X.env.kindOf x.1) .free)
 cap:∀(k:Nat)(x:Str)(j:Nat),0 N[k]? x->58 cap[k]? j->0 X.N[j]? x/\(x,IT)∈scope.names
theorem dN{S:Type}:∀{l:List (Str×S)}{x:Str}{k:S},(l.map (·.1)).Nodup->(x,k)∈l->0 (l.lookup x) k
 |(y,j)::r,x,k,nd,h=>by
  obtain⟨n1,n2⟩:=Io.mp (show(y::r.map (·.1)).Nodup from nd);rw[Jr];rcases GI.mp h with e|h;·cases e;simp
  ·have:12 (x==y):=beq_eq_false_iff_ne.mpr λe=>n1<|e▸HK.mpr ⟨(x,k),h,`a⟩;rw[this];exact dN n2 h
theorem fW{env:Env}:∀{names:6 Str Kr}{x:Str},(names.map λ(p:Str×Kr)=>if 1 (p.2==IT&&env.scope.kind==.function&&env.kindOf p.1==some .cell) then(p.1,OB)else(p.1,p.2)).lookup x=
  (names.lookup x).map λk=>if 1 (k==IT&&env.scope.kind==.function&&env.kindOf x==some .cell) then .cell else k
 | [],_=>rfl
 |(n,k)::r,x=>by
  rw[Hm];have ih:= @fW env r x;by_cases hx:x=n
  ·subst hx;by_cases hc:1 (k==IT&&env.scope.kind==.function&&env.kindOf x==some .cell);·simp only[hc,if_true,Jr,beq_self_eq_true,KL]
   ·rw[Z4 hc,Jr,Jr,beq_self_eq_true];simp only[KL];rw[Z4 hc]
  ·have hb:12 (x==n):=beq_eq_false_iff_ne.mpr hx;by_cases hc:1 (k==IT&&env.scope.kind==.function&&env.kindOf n==some .cell);·simp only[hc,if_true,Jr,hb];exact ih
   ·rw[Z4 hc,Jr,Jr,hb];exact ih
def uD(X:Cx)(ifs:`af)(t:TT):Prop:=
 ∀(Z_:List (Addr×Obj))(s:Gx)(Z:St)(H:Hp)(Q:Bool->Hp->Prop),`n->t Z H Q->92 X.w X.A (forIn ifs true λc r=>if 1 r then do let ok <-isTrue c X.env (30 c);pure (HB ok)else pure (HB r)) (TP X Z_ Z Q) X.xe
def Bn:TT:=λ_ H Q=>Q `o H
theorem dz{X:Cx}:uD X [] Bn:=λ_ _ _ H _ I h=>wpAny_tests_nil ⟨H,I,h⟩
theorem oA{X:Cx}{c:Expr}{t:TT}(h:PT X c t):uD X [c] t:=λZ_ s Z H Q I hq=>wpAny_tests_one (h Z_ s Z H Q I hq)
def Keep:11 St St
 | [],_=>True
 |none::a,_::b=>Keep a b
 |some v::a,some u::b=>v=u/\Keep a b
 |_,_=>False
theorem Keep.get:∀{a b:St}{j:Nat}{v:V},Keep a b->58 a[j]? v->58 b[j]? v
 | [],_,_,_,_,h=>by simp at h
 |none::a,_::b,0,_,_,h=>by simp at h
 |none::a,_::b,j+1,v,k,h=>Keep.get (j:=j) (a:=a) (b:=b) k h
 |some w::a,some u::b,0,v,k,h=>by
  have e:w=u:=k.1;subst e;exact h
 |some w::a,some u::b,j+1,v,k,h=>Keep.get (j:=j) (a:=a) (b:=b) k.2 h
 |none::_,[],_,_,k,_=>k.elim
 |some _::_,[],_,_,k,_=>k.elim
 |some _::_,none::_,_,_,k,_=>k.elim
def CQ(cap:List `ae)(g:TG)(tf:TT)(te:TE)(Z:St)(H1:Hp)(Q:VK)(J:It):Prop:=∃W:Nat->Nat->List V->Hp->Prop,(∃m,W 0 m [] H1)/\∀i m ys H,W i m ys H->ys.length<sizeLine/\((J.stop i H/\∀D,41 D->Q `be (115 H D ys))\/(J.go i H/\∃N:List V->Hp->Prop,(∀ys' H',N ys' H'->∃m',m'<m/\W (i+1) m' ys' H')/\∀x H',J.yld i H x H'->g x (bU cap Z) H' λσ2 H2=>Keep (bU cap Z) σ2/\tf σ2 H2 λb H3=>if 1 b then te σ2 H3 λy H4=>N (ys++[y]) H4 else N ys H3))
def pM(cap:List `ae)(wi:TI)(g:TG)(tf:TT)(te:TE):TE:=λZ H Q=>wi Z H λJ H1=>CQ cap g tf te Z H1 Q J
theorem ee{X:Cx}{scope:Ka}{C:Addr}{x:Str}{c:Addr}(frc:148 (x.2=.free) (∃c,95 x.1 c))
  (h:0 ((154 (C+1)<|cX `D scope.names []).lookup x) c):(x,c)∈154 (C+1) []\/(x,IT)∈scope.names/\95 x c:=by
 rw[dv,OP]at h;cases e:(cellsFrom (C+1) scope.names []).lookup x with
 |some d=>
  rw[e]at h;have h:0 (some d) c:=h;cases h;exact .inl (Jd e)
 |none=>
  rw[e]at h;have h:0 ((cX `D scope.names []).lookup x) c:=h;rcases ix _ _ frc h with q|q
  ·exact .inr q
  ·cases q
theorem pN{X:Cx}{scope:Ka}{C:Addr}{x:Str}{c:Addr}(uq:(scope.names.map (·.1)).Nodup)(hx:(x,IT)∈scope.names)(hc:95 x c):
  0 ((154 (C+1)<|cX `D scope.names []).lookup x) c:=by
 rw[dv,OP];cases e:(cellsFrom (C+1) scope.names []).lookup x with
 |some d=>
  have h1:=dN uq (fE _ _<|Jd e);have h2:=dN uq hx;rw[h1]at h2;cases h2
 |none=>exact kG _ _ hx hc
section
variable{X:Cx}{scope:Ka}{N:`y}{cap:List `ae}{Z_:`N}{Z:St}{H:Hp}{s:Gx}{C:Addr}{fp:`R}
theorem uE{h4:Heap}(Z1:CompScope X `C N cap)(I:`n)(hC:150 C)(ck:Rc h4 (C+1) (154 (C+1) []))
  (hf:112 X Z_ H b) (hlt:∀b∈fp,b<C):(33 X N s H C).Ok:=by
 have frc:148 (x.2=.free) (∃c,95 x.1 c):=λx hx hk=>I.ok.has x.1 (Z1.free x hx hk);have old:∀x c,95 x c->c<C:=λx c e=>by
  obtain⟨v,q⟩:=I.cell x c e;exact GF q.lt hC
 have own:∀x c,(x,c)∈154 (C+1) []->C<c:=λx c e=>(ck.empty x c e).2;refine⟨I.ok.mod,Z1.kind,I.ok.glob,I.ok.blt,hC,λx y c h1 h2=>?_,`bG,λx c hfn h=>?_,I.ok.hd,I.ok.frames,`X,λb hb=>⟨GY<|hlt b hb,λx c h=>?_⟩,I.bs,Ip I.ok.bsz I.sz,λb o e hb=>?_,λb hb z=>?_,I.stack,I.stkFree⟩
 ·rcases ee frc h1 with a | ⟨a1,a2⟩ <;> rcases ee frc h2 with b | ⟨b1,b2⟩
  ·exact name_of_addr ck.apart a b
  ·exact absurd (Nv (own x c a)<|old y c b2) (HI _)
  ·exact absurd (Nv (own y c b)<|old x c a2) (HI _)
  ·exact I.ok.inj x y c a2 b2
 ·have hx:0 ((relabel `C `D).names.lookup x) .cell\/0 ((relabel `C `D).names.lookup x) .free:=hx;have e:(relabel `C `D).names.lookup x=_:=fW (env:=X.env) (names:=scope.names) (x:=x);rw[e]at hx;cases q:scope.names.lookup x with
  |none=>rw[q]at hx;rcases hx with z|z<;>cases z
  |some k=>
   have hm:=Jd q;by_cases hk:k=.free
   ·subst hk;obtain⟨c,hc⟩:=frc _ hm `a;exact⟨c,pN Z1.uniq hm hc⟩
   ·have hk':12 (k==IT):=by simpa using hk
    rw[q]at hx;simp only[KL,hk',Q3,Hg,if_false]at hx;have hkc:k=.cell:=by
     rcases hx with z|z;·exact Ha z
     ·exact absurd (Ha z) hk
    subst hkc;exact N3.mp (KA scope.names (C+1) _<|.inl q)
 ·rcases ee frc h with a | ⟨a1,a2⟩
  ·exact Ip hC (Lf<|own x c a)
  ·have q:=dN Z1.uniq a1;have z:1 (wg `C x):=hfn;unfold wg at z;rw[q]at z;exact absurd z ⋯
 ·rcases ee frc h with a | ⟨a1,a2⟩
  ·exact JY (Nv (hlt b hb)<|own x c a)
  ·exact(hf b hb).2.2.2.2.1 x c a2
 ·rcases (hf b hb).2.2.2.1 with z | z;·exact I.ok.noex b o e z
  ·exact 128 (GF (GG e) I.ok.bsz) z (HI _)
 ·rcases GI.mp (I.stkSub b z)with q | q;·exact(hf b hb).2.1 q
  ·exact(hf b hb).2.2.1 q
theorem lA{s4:Gx}(Z1:CompScope X `C N cap)(I:`n)(hC:150 C)(ck:Rc s4.heap (C+1) (154 (C+1) []))
  (hf:112 X Z_ H b) (hlt:∀b∈fp,b<C) (h4:∃h' tk,s4={s with heap:=h',toks:=tk}) (hn:s4.heap.Ns C λ_=>`j) (hk:∀b o,22 b o->0 (s4.heap.get? b) o):
  Inv (33 X N s H C) [] (bU cap Z) H s4:=by
 have frc:148 (x.2=.free) (∃c,95 x.1 c):=λx hx hk=>I.ok.has x.1 (Z1.free x hx hk);obtain⟨h',tk,rfl⟩:=h4;refine⟨uE Z1 I hC ck hf hlt,`a,I.bare,Un.kept hk,8 hn λi x v e1 e2 e3=>?_,λx c h=>?_,I.hok.fresh hC,λx c h=>?_,λp hp=>absurd (show p∈([]:`N)from hp) `g,I.hok.kept hk,?_⟩
 ·have e1:0 N[i]? x:=e1;unfold bU at e2;rw[GK]at e2;cases q:cap[i]? with
  |none=>rw[q]at e2;cases e2
  |some o=>
   cases o with
   |none=>rw[q]at e2;cases e2
   |some j=>
    rw[q]at e2;obtain⟨hj,hm⟩:=Z1.cap i x j e1 q;have e2:0 (Z[j]?.bind id) v:=Ha e2;have e2':58 Z[j]? v:=by
     cases z:Z[j]? with
     |none=>rw[z]at e2;cases e2
     |some o=>rw[z]at e2;exact congrArg some e2
    have kd:=Z1.free _ hm `a;obtain⟨m,_,hl⟩:=I.loc;obtain⟨u,r,lk⟩:=hl j x v hj e2' (by rcases kd with z|z;exact .inr (.inl z);exact .inr (.inr z));refine⟨u,r,.inr ?_⟩;rcases lk with⟨z,_⟩|⟨_,c,hc,hcell⟩
    ·rcases kd with q|q<;> ·rw[show X.env.kindOf x=_ from q]at z;cases z
    ·refine⟨?_,c,pN Z1.uniq hm hc,hcell.keeps hk⟩;have e:(relabel `C `D).names.lookup x=_:=fW (env:=X.env) (names:=scope.names) (x:=x);rw[dN Z1.uniq hm]at e;simp only[KL]at e;show 0 ((relabel `C `D).names.lookup x) .cell\/0 ((relabel `C `D).names.lookup x) .free;rw[e];split;·exact `X
     ·exact `bq
 ·rcases ee frc h with a | ⟨a1,a2⟩
  ·exact 42 (ck.empty x c a).1
  ·obtain⟨v,q⟩:=I.cell x c a2;exact⟨v,q.keeps hk⟩
 ·rcases ee frc h with a | ⟨a1,a2⟩
  ·exact I.hok.fresh (Ip hC<|Lf (ck.empty x c a).2)
  ·exact I.freeC x c a2
 ·show(bU cap Z).length=N.length;unfold bU;rw[Ho,Z1.len]
end
abbrev jk(its:`aq)(k:Nat):Obj:={cls:=`bi,data:=.seq `bj k}
section
variable{X:Cx}{scope:Ka}{N:`y}{cap:List `ae}{tg iter Z5:Expr}{ifs:`af}{pos:Pos}{wi:TI}{g:TG}{tf:TT}{te:TE}
structure TurnX(X:Cx)(tg:Expr)(g:TG)(J:It)(fp:`R)(it:Addr)(tn:11 Nat Heap):Prop where
 obj:∀i h,tn i h->∀b∈fp,∃o,35 b o/\∀v,o.data≠.cell v
 keep:∀i h h',tn i h->(∀b∈fp,∀o,35 b o->66 b o)->tn i h'
 self:∀(A:Hk)(i:Nat)(s:Gx)(Q:Gu->Gx->Prop)(E:Gu->Gx->Prop),tn i `i->Q `an s->92 X.w A (pyIter `an) Q E
 item:161 `n (112 X Z_ H b) (tn i `i) (J.go i H) (92 X.w X.A (pyNext `an) (λr s1=>∃u,0 r u/\wpAny `aM X.A (letOwnedTupleGo tg `an u) (λ_ s2=>∃x H',38 X Z H' s2/\78 x/\J.yld i H x H'/\tn (i+1) s2.heap/\140 (H' b)) E s1) E)
 done:161 `n (112 X Z_ H b) (tn i `i) (J.stop i H) (92 X.w X.A (pyNext `an) (λr s1=>7 r/\38 X Z H s1) E)
 tgt:PG X tg g
theorem jl(Z1:CompScope X `C N cap)(hf:∀s H C fp,uD (33 X N s H C) ifs tf)(he:∀s H C fp,PE (33 X N s H C) Z5 te)
  {Z_:`N} {Z:St} {H2:Hp} {s2:Gx} {it:Addr} {fp:`R} {tn:11 Nat Heap} {J:It} {Qv:VK} {E:`A} {RR:Gu->Addr->68 Q4}
  (I2:38 X Z H2 s2) (T:∀C,TurnX (33 X N s2 H2 C) tg g J fp it tn) (st2:tn 0 s2.heap) (f2:112 X Z_ H2 b) {W:Nat->Nat->11 `E Hp} (w0:∃m,W 0 m [] H2)
  (turn:∀i m ys H,W i m ys H->ys.length<sizeLine/\((J.stop i H/\∀D,41 D->Qv `be (115 H D ys))\/(J.go i H/\∃N:List V->Hp->Prop,(∀ys' H',N ys' H'->∃m',m'<m/\W (i+1) m' ys' H')/\∀x H',J.yld i H x H'->g x (bU cap Z) H' λσ2 H2=>Keep (bU cap Z) σ2/\tf σ2 H2 λb H3=>if 1 b then te σ2 H3 λy H4=>N (ys++[y]) H4 else N ys H3)))
  (fin:∀(D C:Addr) (σ':St) (H':Hp) (s':Gx) (its:List Gu) (k:Nat) (ys:List V),20 (`bn<=D) (`bn<=C) (D≠C) (Inv (33 X N s2 H2 C) [(D,jk its k)] σ' H' s') (Vals ys its->69 ys.length->Qv `be (115 H' D ys)->RR `be C (.ok .next) s')):
  wpAny `aM X.A (newList []) (λacc s₃=>wpAny `aM X.A (newFunctionEnv `C X.env.globals (cX `D scope.names []) [] X.env.qual `j .none<|some `D) (λcenv s₄=>codeAny `aM X.A (.compStart (.ListComp Z5 [⟨tg,iter,ifs,0⟩] `C pos) 0 (`an) acc {cenv with scope:=relabel scope X.env}) (RR acc cenv.locals) s₄) E s₃) E s2:=by
 refine HR (ly ?_);generalize hD:s2.heap.objs.size=D;generalize hH3:s2.heap.push {cls:=.type "list",dict:=none,data:=.seq ([]:List Gu).toArray}=h3;have hz3:h3.objs.size=D+1:=by rw[<-hH3,HQ,hD]
 dsimp only;have eC:({s2 with heap:=h3}:Gx).heap.objs.size=D+1:=hz3;rw[show h3.objs.size=D+1 from hz3];generalize hH4:pushCells (h3.push {cls:=.type "dict",data:=.dict #[]}) scope.names=h4;have hz3':(h3.push {cls:=.type "dict",data:=.dict #[]}).objs.size=D+1+1:=by rw[HQ,hz3]
 have ck:Rc h4 (D+1+1) (154 (D+1+1) []):=by
  have:=cellsFrom_ok scope.names (h3.push {cls:=.type "dict",data:=.dict #[]}) (D+1+1) [] ⟨λ_ _ hm=>(nomatch hm),KY⟩ (by rw[hz3'];exact `w);rw[hz3',hH4]at this;exact this
 have a1:∀b o,0 (s2.heap.get? b) o->0 (h3.get? b) o:=λb o e=>by rw[<-hH3];exact 17 e
 have a0:∀b o,0 (h3.get? b) o->0 (h4.get? b) o:=λb o e=>by rw[<-hH4];exact Ml _ _ b o (17 e)
 have hD4:0 (h4.get? D) (jk [] 0):=a0 _ _ (by rw[<-hH3,<-hD];exact 86 _);have hn4:h4.Ns (D+1) λ_=>`j:=by
  rw[<-hH4,<-hz3];exact(RB h3<|.type "dict").keeps (Ml _ _)
 have fpD:∀b∈fp,b<D:=λb hb=>by
  obtain⟨o,e,_⟩:=(T 0).obj _ _ st2 b hb;rw[<-hD];exact GG e
 have hlt:∀b∈fp,b<D+1:=λb hb=>MT (fpD b hb);have hDC:`bn<=D+1:=by rw[hD];exact Md _
 have hDs:`bn<=D:=by rw[hD];exact `w
 have IC:Inv (33 X N s2 H2<|D+1) [] (bU cap Z) H2 {s2 with heap:=h4}:=
  lA Z1 I2 hDC ck f2 hlt (8 _ `a) hn4 λb o e=>a0 b o (a1 b o e)
 have okC:=IC.ok;have nfs:∀{b:Addr},`bn<=b->b∉frs X.stack:=λ{b}hb hm=>by
  obtain⟨_,o,ho,_⟩:=I2.stack.mem hm;exact 128 (GG ho) hb (HI _)
 have frc:148 (x.2=.free) (∃c,95 x.1 c):=λx hx hk=>I2.ok.has x.1 (Z1.free x hx hk);have cellsD:∀x c,0 ((33 X N s2 H2<|D+1).env.cells.lookup x) c->c≠D:=λx c e=>by
  rcases ee frc e with a|⟨_,a⟩
  ·have q:D+1+1<=c:=(ck.empty x c a).2;exact JY (GF (GF (Lh D)<|Md _) q)
  ·obtain⟨v,q⟩:=I2.cell x c a;have:=q.lt;rw[hD]at this;exact GY this
 have fpO:∀{H':Hp}{its:List Gu}{k:Nat},140 (H' b)->112 (33 X N s2 H2<|D+1) [(D,jk its k)] H' b:=λ{H' its k}hn b hb=>⟨hn b hb,GY<|hlt b hb,okC.exfs b hb,.inl hb,(okC.exf b hb).2,λp hp=>by
   have e:p=(D,jk its k):=by simpa [aN] using hp
   subst e;exact JY (fpD b hb)⟩
 have pinD:∀{σ':St}{H':Hp}{s':Gx}{its:List Gu}{k:Nat},Inv (33 X N s2 H2<|D+1) [] σ' H' s'->0 (s'.heap.get? D) (jk its k)->7 (H' D)->Inv (33 X N s2 H2<|D+1) [(D,jk its k)] σ' H' s':=λ{σ' H' s' its k}J e n=>
  J.pins_of λp hp=>by
   have e':p=(D,jk its k):=by simpa using hp
   subst e';exact⟨e,n,GY<|Lh _,nfs hDs,λv z=>by
    have z':Oa `bj k=KN v:=z;cases z'⟩
 have loop:codeAny (`aM) X.A (.compLoop (.ListComp Z5 [⟨tg,iter,ifs,0⟩] `C pos) 0 `an `be (33 X N s2 H2<|D+1).env) (RR `be<|D+1) {s2 with heap:=h4}:=by
  obtain⟨m0,w0⟩:=w0;refine oz (λn s'=>∃i ys its k σ' H',Inv (33 X N s2 H2<|D+1) [(D,jk its k)] σ' H' s'/\tn i s'.heap/\140 (H' b)/\Vals ys its/\(∀(j:Nat)(v:V),58 (bU cap Z)[j]? v->58 σ'[j]? v)/\W i n ys H') ?_ m0 ⟨0,[],[],0,bU cap Z,H2,pinD IC hD4<|I2.hok.fresh hDs,(T 0).keep _ _ _ st2 λb hb o e=>a0 b o<|a1 b o e,λb hb=>(f2 b hb).1,.nil,λ_ _ e=>e,w0⟩
  rintro n s3 ⟨i,ys,its,k,σ3,H3,I3,st3,fr3,rv,kp,w3⟩;obtain⟨hyl,tr⟩:=turn i n ys H3 w3;have pin3:=I3.pin (D,jk its k) (Hd _ GO);rcases tr with⟨stop,qn⟩|⟨go,NN,hNN,step⟩
  ·refine cE ((T _).done i _ s3 σ3 H3 _ I3 (fpO fr3) st3 stop) λr s4 zz=>?_;obtain⟨hr,I4⟩:=zz;subst hr;exact fin D (D+1) σ3 H3 s4 its k ys hDs hDC (GY<|Lh _) I4 rv (Lf hyl) (qn D pin3.2.1)
  ·have I3':Inv (33 X N s2 H2<|D+1) [(D,jk its k)] (bU cap Z) H3 s3:=I3.weak (by rw[I3.len,IC.len]) kp;refine cE ((T _).item i _ s3 _ H3 _ I3' (fpO fr3) st3 go) λr s4 zz=>?_;obtain⟨u,hr,h4⟩:=zz;subst hr;refine cE h4 λ_ s5 zz=>?_;obtain⟨x,H5,I5,r5,y5,st5,fr5⟩:=zz;have I5':=I5.pinned (fpO fr5) ((T 0).obj _ _ st5);refine cE ((T _).tgt _ s5 _ H5 x u _ I5' r5<|step x H5 y5) λ_ s6 zz=>?_;obtain⟨σ6,H6,I6,kp6,q6⟩:=zz;refine cE (hf _ _ _ _ _ s6 σ6 H6 _ I6 q6) λok s7 zz=>?_;obtain⟨H7,I7,q7⟩:=zz;have back:∀{s8:Gx}{H8:Hp},Inv (33 X N s2 H2<|D+1) ([(D,jk its k)]++jh fp s5.heap) σ6 H8 s8->tn (i+1) s8.heap/\140 (H8 b)/\0 (s8.heap.get? D) (jk its k)/\7 (H8 D):=λ{s8 H8}I8=>by
    have at_:∀b∈fp,∀o,0 (s5.heap.get? b) o->0 (s8.heap.get? b) o/\7 (H8 b):=λb hb o e=>by
     have z:=I8.pin (b,o) (Hd _<|Hd _<|dY hb e);exact⟨z.1,z.2.1⟩
    have pd:=I8.pin (D,jk its k) (Hd _<|JN _ GO);refine⟨(T 0).keep _ _ _ st5 λb hb o e=>(at_ b hb o e).1,`bm,pd.1,pd.2.1⟩;obtain⟨o,e,d⟩:=(T 0).obj _ _ st5 b hb;exact(at_ b hb o e).2
   cases ok with
   |false=>
    rw[Z4 GL]at q7 ⊢;obtain⟨m',hm,w'⟩:=hNN _ _ q7;obtain⟨t7,f7,d7,n7⟩:=back I7;exact⟨m',hm,i+1,ys,its,k,σ6,H7,I7.unpinned,t7,f7,rv,λj v e=>Keep.get kp6 e,w'⟩
   |true=>
    rw[`aX]at q7 ⊢;refine cE (he _ _ _ _ _ s7 σ6 H7 _ I7 q7) λy8 s8 zz=>?_;obtain⟨y,H8,I8,r8,q8⟩:=zz;obtain⟨m',hm,w'⟩:=hNN _ _ q8;obtain⟨t8,f8,d8,n8⟩:=back I8;refine append_at (D:=D) (its:=its.toArray) (n:=k) d8 (λh' hs' hD'=>?_) (by rw[GN,<-rv.length];exact Lf hyl);have J0:Inv (33 X N s2 H2<|D+1) [] σ6 H8 s8:=I8.pins_of λp hp=>by cases hp
    have J1:Inv (33 X N s2 H2<|D+1) [] σ6 H8 {s8 with heap:=h'}:=J0.turned (it:=D) (t':=s8.toks) (λb o hb e=>(hs'.2 b hb).trans e) n8 (GY<|Lh _) (.inr hDs) cellsD λp hp=>by
     have:p∈([]:`N):=hp;cases this
    refine⟨m',hm,i+1,ys++[y],its++[y8],k+1,σ6,H8,pinD J1 (by simpa using hD') n8,(T 0).keep _ _ _ t8 λb hb o e=>(hs'.2 b<|GY<|fpD b hb).trans e,f8,rv.append<|.cons r8 .nil,λj v e=>Keep.get kp6 e,w'⟩
 exact codeAny_compStart_list loop (Ic ((T 0).self _ 0 _ _ _ ((T 0).keep _ _ _ st2 λb hb o e=>a0 b o<|a1 b o e) loop) (λ_ _ h=>h) λ_ _ h=>h)
theorem Turn.x{fp:`R}{it:Addr}{tn:11 Nat Heap}{J:It}{s2:Gx}{H2:Hp}(T:Turn `S X.w X.K tg J fp it tn)(hc:`bw)(hg:∀s H C fp,PG (33 X N s H C) tg g)(C:Addr):TurnX (33 X N s2 H2 C) tg g J fp it tn:=⟨T.obj,T.keep,T.self,T.item _ `a `a `a hc,T.done _ `a `a `a hc,hg _ _ _ _⟩
end
section
variable{X:Cx}{scope:Ka}{N:`y}{cap:List `ae}{tg iter Z5:Expr}{ifs:`af}{pos:Pos}{wi:TI}{g:TG}{tf:TT}{te:TE}
theorem lB{Z_:`N}{Z σ':St}{H2 H':Hp}{s2 s':Gx}{fp:`R}{D C:Addr}{its:`aq}{k:Nat}{ys:`E}{h':Heap}(I2:38 X Z H2 s2)(f2:112 X Z_ H2 b)
  (hD:`bn<=D) (hC:`bn<=C) (hDC:D≠C) (I':Inv (33 X N s2 H2 C) [(D,jk its k)] σ' H' s') (rv:Vals ys its) (hl:69 ys.length) (hs:GU C s'.heap h'):
  Inv X Z_ Z (115 H' D ys) {s' with heap:=h'}:=by
 have pd:=I'.pin (D,jk its k) (Hd _ GO);have nD:7 (H' D):=pd.2.1;have nC:7 (H' C):=I'.free;have lt2:∀b o,0 (s2.heap.get? b) o->b≠D/\b≠C:=λb o e=>⟨GY<|GF (GG e) hD,GY<|GF (GG e) hC⟩
 have hk:∀b o,b≠C->0 (s'.heap.get? b) o->66 b o:=λb o hb e=>127 b hb e;have B:Un (frs X.stack) fp H2 H' s2.heap s'.heap:=I'.base;have tr:∀b u,0 (H' b) u->b≠D/\b≠C:=λb u e=>⟨λz=>(by rw[z,nD]at e;cases e),λz=>(by rw[z,nC]at e;cases e)⟩
 refine I2.call' (ch:=fp) I'.os ⟨`bZ,`bZ,λb o e n hx=>?_,λb o e hx=>?_,λb xs e=>?_,λb o u e=>?_,λb ps e=>?_⟩ (λb u e=>?_) I'.bare λb hb=>⟨(f2 b hb).2.2.2.1,(f2 b hb).2.1,(f2 b hb).2.2.2.2.1,(f2 b hb).2.2.2.2.2⟩
 ·exact hk b o (lt2 b o e).2 (B.keep b o e n hb hx)
 ·obtain⟨sl,q⟩:=B.slot b o e n hb hx;exact⟨sl,hk b _ (lt2 b o e).2 q⟩
 ·rw[aH (lt2 b o e).1];exact B.free b o e n hx
 ·obtain⟨o',q⟩:=B.there b o e hx;exact⟨o',hk b _ (lt2 b o e).2 q⟩
 ·rw[aH (tr b _<|B.tups b xs e).1];exact B.tups b xs e
 ·rw[aH (tr b _<|B.frzs b o u e).1];exact B.frzs b o u e
 ·obtain⟨more,q⟩:=B.tbls b ps e;exact⟨more,by rw[aH (tr b _ q).1];exact q⟩
 ·by_cases hb:b=D
  ·subst hb;rw[aS]at e;cases e;exact⟨hl,its,k,rv,hk _ _ hDC pd.1⟩
  ·rw[aH hb]at e;refine(I'.hok b u e).stay (λc w' hc q=>hk c w' ?_ q) (λc q=>by rw[aH (tr c _ q).1];exact q) λc xs q=>by rw[aH (tr c _ q).1];exact q
   rcases hc with z|z;·rw[z];exact(tr b u e).2
   ·exact(tr c _ z).2
theorem fX(Z1:CompScope X `C N cap):148 (x.2=.local) (0 (scope.names.lookup x.1) .local):=λx hx hl=>dN Z1.uniq (by rw[<-hl];exact hx)
theorem fo(Z1:CompScope X `C N cap)(hc:`bw)(hi:PI X tg iter wi)
  (hg:∀s H C fp,PG (33 X N s H C) tg g) (hf:∀s H C fp,uD (33 X N s H C) ifs tf) (he:∀s H C fp,PE (33 X N s H C) Z5 te)
  (hs:∀x,158 `D x=pure x:=by intro _;rfl):9 (.ListComp Z5 [⟨tg,iter,ifs,0⟩] `C pos) (pM cap wi g tf te):=by
 intro Z_ s Z H Q I h;rw[QJ];have frc:148 (x.2=.free) (∃c,95 x.1 c):=λx hx hk=>I.ok.has x.1 (Z1.free x hx hk);refine JM (use:=none) `a hs (dW frc) Z1.kind (fX Z1) (cE (hi Z_ s Z H _ I h) λv s1 h1=>cE h1 λitv s2 h2=>?_);obtain⟨it,fp,tn,J,H2,rfl,I2,T,st2,f2,W,w0,turn⟩:=h2;refine jl (RR:=λacc C=>compPost `aM X.A X.xe `j (EP X Z_ Z Q) acc C) Z1 hf he I2 (T.x hc hg) st2 f2 w0 turn λD C σ' H' s' its k ys hD hC hDC I' rv hl q=>?_;obtain⟨m,hn,_⟩:=I'.loc;exact⟨m,hn,λh' hs'=>⟨`be,_,lB I2 f2 hD hC hDC I' rv hl hs',`a,q⟩⟩
end
section
variable{X:Cx}{scope:Ka}{N:`y}{cap:List `ae}{tg iter Z5:Expr}{ifs:`af}{pos spos py:Pos}{wi:TI}{g:TG}{tf:TT}{te:TE}{i:Nat}{y:Str}
theorem rk(hN:X.N.Nodup)(hi':0 X.N[i]? y)(hy:AF X.env.scope y)(Z1:CompScope X `C N cap)(hc:`bw)(hi:PI X tg iter wi)
  (hg:∀s H C fp,PG (33 X N s H C) tg g) (hf:∀s H C fp,uD (33 X N s H C) ifs tf) (he:∀s H C fp,PE (33 X N s H C) Z5 te)
  (hsw:swapsWith (.ListComp Z5 [⟨tg,iter,ifs,0⟩] `C pos) (some<|.Name y py) spos.line `D=pure `o:=by rfl)
  (hs:∀x,158 `D x=pure x:=by intro _;rfl) (hfn:1 (X.fn y)\/147 y .local:=by first|exact .inl rfl|exact .inr rfl|assumption):
  PS X (.Assign [.Name y py] (.ListComp Z5 [⟨tg,iter,ifs,0⟩] `C pos) spos) (bT (pM cap wi g tf te)<|aW i):=by
 intro Z_ s Z H D I h;rw[exec_Assign_Name_used _ _ _ _ hsw];refine Gn (JJ `aN);show 57 _ X.A (do let _ <-comprehension (.ListComp Z5 [⟨tg,iter,ifs,0⟩] `C pos) scope X.env _ (newList []) false (30 iter) (some<|assign (.Name y py) `D)) _ _;have frc:148 (x.2=.free) (∃c,95 x.1 c):=λx hx hk=>I.ok.has x.1 (Z1.free x hx hk);refine Gn (Ic (JM (use:=some (assign (.Name y py) `D)) (Q:=λ_ s'=>SP X Z_ D .next s') `a hs (dW frc) Z1.kind (fX Z1)<|cE (hi Z_ s Z H _ I h) λv s1 h1=>cE h1 λitv s2 h2=>?_) (λ_ s' hq=>Gv<|Gv hq) λ_ _ e=>e);obtain⟨it,fp,tn,J,H2,rfl,I2,T,st2,f2,W,w0,turn⟩:=h2;refine jl (Qv:=λx H1=>aW i x Z H1 D.nx) (RR:=λacc C=>compPost `aM X.A X.xe (some<|assign (.Name y py) `D) (λ_ s'=>SP X Z_ D .next s') acc C) Z1 hf he I2 (T.x hc hg) st2 f2 w0 turn λd C σ' H' s' its k ys hD hC hDC I' rv hl q=>?_;obtain⟨m,hn,_⟩:=I'.loc;have I3:38 X Z (115 H' d ys) s':=lB (h':=s'.heap) I2 f2 hD hC hDC I' rv hl<|.refl ..;have nC:7 ((115 H' d ys) C):=by rw[aH (JI hDC)];exact I'.free
 have cL:145 C:=λz=>128 I2.lt hC (by rw[z];exact HI _);have cc:∀x c,95 x c->c≠C:=λx c e z=>by
  obtain⟨v,q⟩:=I2.cell x c e;exact 128 q.lt hC (by rw[z];exact HI _)
 show wpAny _ X.A (assign (.Name y py) `D<|.ref d) _ _ _;refine OX (mX (v:=.ref d) I3 hN hi' hy `a (λs4 I4⟨a,sb,ha⟩=>?_) hfn);have aC:C≠a:=by
  rcases ha with z|z;·rw[z];exact cL
  ·exact JI (cc _ _ z)
 refine⟨m,hn.sameBut sb aC,λh' hs'=>?_⟩;exact⟨_,_,I4.turned (it:=C) (t':=s4.toks) (λb o hb e=>(hs'.2 b hb).trans e) nC cL (.inr<|Ip I2.sz hC) cc (λp hp z=>128 (GG (I2.pin p hp).1) hC (by rw[z];exact HI _)),q⟩
end
inductive Src where
 |lst (a:Addr)|tup (a:Addr)|str (l:`br)
def Src.has(K:Gr)(H:Hp):11 Src `E
 | .lst a,xs=>SqL K H a xs
 | .tup a,xs=>SqT K H a xs
 | .str l,xs=>xs=l.map λc=>LS (sOf [c])
def Src.at(it:Addr)(i:Nat)(h:Heap):49 Src
 | .lst a=>h.IsListIter it a i
 | .tup a=>h.IsTupleIter it a i
 | .str l=>∃t,h.IsStrIter it "str_ascii_iterator" (sOf l) t i\/h.IsStrIter it "str_iterator" (sOf l) t i
def Src.val:Src->V
 | .lst a=>`ai
 | .tup a=>`ai
 | .str l=>88 l
section
variable{P:GJ}{w:GW}{A:Hk}{E:`A}{s:Gx}
theorem oC{j a:Addr}{k:Nat}{us:`bp}{x:Gu}{Q:`A}(g:s.heap.IsTupleIter j a k)(ga:s.heap.IsTuple a us)(gx:0 us[k]? x)
  (q:∀h',h'.IsTupleIter j a (k+1)->GU j s.heap h'->Q x {s with heap:=h'}):102 P w A (GX<|.ref j) Q E:=by
 obtain⟨ob,e1,e2,e3⟩:=id g;obtain⟨ot,f1,_,nn,f3⟩:=ga;unfold GX;refine Gn (Hu (name:=`bQ) g.typeIs Jv<|Hv Jv g.typeIs LF ?_<|Lw _);show 102 P w _ (field (.ref j) 0>>=_) _ _;refine Gn (Hf e1 e3 (x:=`ai) `a ?_);show 102 P w _ (if 1 (GZ a==Hl) then _ else _) _ _;rw[Z4 (show ¬(1<|GZ a==Hl)from GL)];show 102 P w _ (field (.ref j) 1>>=_) _ _;refine Gn (Hf e1 e3 (x:=.int k 0) `a ?_);show 102 P w _ (seqItems? (`ai)>>=_) _ _;refine Gn (Hy f1 f3 ?_);simp only[Ia,gx];refine Gn (Ir e1 e3 `g<|Gv<|32 x<|Gv (q _ ⟨_,HP _ e1<|JD<|J6 e3 _,(MU ..).trans e2,(by rw[J6 e3];simp[rawInt])⟩<|Ik ..))
theorem pO{j a:Addr}{k:Nat}{us:`bp}{Q:`A}(hh:7 A.handled)(g:s.heap.IsTupleIter j a k)(ga:s.heap.IsTuple a us)(gx:7 us[k]?)
  (q:∀h' e,Jg j s.heap h'->(∃o,66 e o/\o.cls=.type `bD)->E (.ref e) {s with heap:=h'}):102 P w A (GX<|.ref j) Q E:=by
 obtain⟨ob,e1,e2,e3⟩:=id g;obtain⟨ot,f1,_,nn,f3⟩:=ga;unfold GX;refine Gn (Hu (name:=`bQ) g.typeIs Jv<|Hv Jv g.typeIs LF ?_<|Lw _);show 102 P w _ (field (.ref j) 0>>=_) _ _;refine Gn (Hf e1 e3 (x:=`ai) `a ?_);show 102 P w _ (if 1 (GZ a==Hl) then _ else _) _ _;rw[Z4 (show ¬(1<|GZ a==Hl)from GL)];show 102 P w _ (field (.ref j) 1>>=_) _ _;refine Gn (Hf e1 e3 (x:=.int k 0) `a ?_);show 102 P w _ (seqItems? (`ai)>>=_) _ _;refine Gn (Hy f1 f3 ?_);simp only[Ia,gx];refine Gn (J7<|Gn<|Ir e1 e3 `g ?_);show 60 P _ (newExc (.type `bD) []>>=_) _ _ _;refine `aN;simp only[newExc,newTuple];refine Gn (HR (Gn (m:=firstArgMember _ _)<|MV (a:=Hl) (by first|rfl|(simp only[firstArgMember];rfl)) (HR ?_ (by size_fits))) (by size_fits));simp only[raiseNew];refine Gn (N6 ?_)
 first|rw[show 7 A.in1.handled from hh]|rw[hh]
 exact Gn (Gv<|Ob<|q _ _ (((Ik ..).extBut.push _).push _)<|8 (86 _) `a)
theorem wj(hh:7 A.handled)(j a:Addr)(ne:a≠j)(us:`bp):Draws P w A j [j,a] us.size (λk v=>0 us[k]? v) (λk h=>h.IsTupleIter j a k/\h.IsTuple a us) where
 live:=λ_ _ st=>by obtain⟨⟨o,e,_⟩,_⟩:=st;exact⟨o,e⟩
 frame:=λ_ _ _ st hk=>⟨st.1.at λo e=>hk j `g o e,by obtain⟨o,e,r⟩:=st.2;exact⟨o,hk a `g o e,r⟩⟩
 item:=λk s Q E hk st q=>oC st.1 st.2 (x:=us[k]) (by simp[hk]) λh' g' sb=>q _ h' s.toks (by simp[hk]) ⟨g',by obtain⟨o,e,r⟩:=st.2;exact⟨o,(sb.2 a ne).trans e,r⟩⟩ sb
 done:=λs Q E st q=>pO hh st.1 st.2 `g q
theorem Src.draws{X:Cx}{Z_:`N}{Z:St}{H:Hp}{s0:Gx}{c:Src}{xs:`E}{it:Addr}{i:Nat}(hh:7 A.handled)(I:38 X Z H s0)(hs:c.has X.K H xs)(ht:c.at it i s0.heap)(hit:41 it):
  ∃(fp:List Addr)(Pt:Nat->Gu->Prop)(St:Nat->Heap->Prop),Draws `S X.w A it fp `t Pt St/\St i s0.heap/\(∀k v,Pt k v->∃x,0 xs[k]? x/\RelV x v)/\(∀k h,St k h->c.at it k h)/\it∈fp/\∀b∈fp,b=it\/H b≠`j\/∃o,136 b o:=by
 cases c with
 |lst a=>
  obtain⟨its,rv,p,hz⟩:=I.list hs;have ne:a≠it:=λz=>by
   obtain⟨o,e,c1,_⟩:=(show s0.heap.IsListIter it a i from ht)
   obtain⟨o2,e2,c2,_⟩:=p.isList;rw[z,e]at e2;cases e2;rw[c1]at c2;exact absurd c2 ⋯
  have dr:=Draws.list (prog:=X.prog) (w:=X.w) hh it a ne `bj;rw[GN,<-rv.length]at dr;refine⟨_,_,_,dr,⟨ht,p.isList⟩,λk v e=>?_,λk h st=>st.1,`g,`bm⟩
  ·have e:0 its[k]? v:=`bT
   have hk:k<`t:=by rw[rv.length];exact(GA.mp e).1
   obtain⟨u,hu,ru⟩:=rv.get (i:=k) (x:=xs[k]) (by simp[hk]);rw[e]at hu;cases hu;exact 8 (by simp[hk]) ru
  ·rcases GI.mp hb with z | z;·exact .inl z
   ·have z:b=a:=by simpa using z
    subst z;rcases (show SqL X.K H b xs from hs)with(z|⟨o,z⟩)|⟨o,_,_,z,_⟩
    ·exact .inr (.inl (by rw[z];simp))
    ·exact .inr (.inl (by rw[z];simp))
    ·exact .inr (.inr<|42<|I.mod.kin _ _ z)
 |tup a=>
  obtain⟨its,rv,p,hz⟩:=I.tuple hs;have p:s0.heap.IsTuple a `bj:=p;have ne:a≠it:=λz=>by
   obtain⟨o,e,c1,_⟩:=(show s0.heap.IsTupleIter it a i from ht)
   obtain⟨o2,e2,c2,_⟩:=id p;rw[z,e]at e2;cases e2;rw[c1]at c2;exact absurd c2 ⋯
  have dr:=wj (P:=X.prog) (w:=X.w) hh it a ne `bj;rw[GN,<-rv.length]at dr;refine⟨_,_,_,dr,⟨ht,p⟩,λk v e=>?_,λk h st=>st.1,`g,`bm⟩
  ·have e:0 its[k]? v:=`bT
   have hk:k<`t:=by rw[rv.length];exact(GA.mp e).1
   obtain⟨u,hu,ru⟩:=rv.get (i:=k) (x:=xs[k]) (by simp[hk]);rw[e]at hu;cases hu;exact 8 (by simp[hk]) ru
  ·rcases GI.mp hb with z | z;·exact .inl z
   ·have z:b=a:=by simpa using z
    subst z;rcases (show SqT X.K H b xs from hs)with(z|⟨o,z⟩)|⟨o,_,_,z,_⟩
    ·exact .inr (.inl (by rw[z];simp))
    ·exact .inr (.inl (by rw[z];simp))
    ·exact .inr (.inr<|42<|I.mod.kin _ _ z)
 |str l=>
  have hs:xs=l.map λc=>LS (sOf [c]):=hs;obtain⟨t,ht⟩:=(show ∃t,s0.heap.IsStrIter it "str_ascii_iterator" (sOf l) t i\/s0.heap.IsStrIter it "str_iterator" (sOf l) t i from ht)
  have hn:121 (sOf l).cps.size:=by rw[hs];simp[sOf]
  have sg:∀(k:Nat)(v:Gu),(∃c u,0 (sOf l).cps[k]? c/\v=.str ⟨#[c]⟩ u)->∃x,0 xs[k]? x/\RelV x v:=λk v⟨c,u,e,ev⟩=>by
   have e:0 l[k]? c:=by simpa [sOf] using e
   exact⟨88 [c],by rw[hs];simp[e],⟨u,ev⟩⟩
  rcases ht with ht|ht;·exact⟨_,_,_,hn▸Draws.strAscii hh it (sOf l) t,ht,sg,λk h st=>⟨t,.inl st⟩,`g,λb hb=>.inl `bC⟩
  ·exact⟨_,_,_,hn▸Draws.strWide hh it (sOf l) t,ht,sg,λk h st=>⟨t,.inr st⟩,`g,λb hb=>.inl `bC⟩
end
def fY(v:Gu)(h:Heap)(o:Obj):Prop:=∀(prog:GJ)(w:GW)(A:Hk)(E:`A)(Q:`A)(s:Gx),s.heap=h->Q (.ref h.objs.size) {s with heap:=h.push o}->wpAny (model `r w) A (pyIter v) Q E s
def CS(h:Heap)(o1 o2:Obj):Heap:=((h.push o1).push o2).push {cls:=`bo,data:=.seq #[.ref h.objs.size,.ref (h.push o1).objs.size]}
def CT(h:Heap)(o1 o2:Obj):Heap:=(CS h o1 o2).push {cls:=`bo,data:=.seq #[.none,.none]}
def Cn(h:Heap)(o1 o2:Obj):Heap:=(CT h o1 o2).push {cls:=.type "zip",data:=.fields #[.none,.bool `K,.bool `K,.ref ((h.push o1).push o2).objs.size,.ref (CS h o1 o2).objs.size]}
theorem oD(v1 v2:Gu)(o1 o2:Obj):Meets (J4.«zip.__new__» ⟨[.type "zip",v1,v2],[]⟩) (λ_ R s=>fY v1 s.heap o1/\fY v2 (`bK) o2/\R (.ok<|.ret<|.ref (CT `i o1 o2).objs.size) {s with heap:=Cn s.heap o1 o2}):=
 .of_wp λprog w A R s h=>by
  obtain⟨hp,g,d,tk,os⟩:=s;obtain⟨i1,i2,h⟩:=h;have hsub:=sub_zip;have j1:=λ(A:Hk)(E:Gu->Gx->Prop)(Q:Gu->Gx->Prop)(q:Q _ _)=>i1 `r w A E Q ⟨hp,g,d,tk,os⟩ `a q;have j2:=λ(A:Hk)(E:`A)(Q:`A)(q:Q _ _)=>i2 prog w A E Q ⟨hp.push o1,g,d,tk,os⟩ rfl q
  wp_walk using j1 _ _ _,j2 _ _ _
  exact 8 `a h
theorem nr{P:GJ}{w:GW}{A:Hk}{E:`A}{s:Gx}{v1 v2:Gu}{o1 o2:Obj}{Q:`A}(i1:fY v1 `i o1)(i2:fY v2 `bK o2)
  (f1:12 o1.isFreed) (f2:12 o2.isFreed)
  (q:∀h',Ki h' (89 4) (89 2) (89 3) .none->KS h' (89 2) (`bY) (.ref<|89 1)->KS h' (89 3) .none .none->
   h'.get? s.heap.objs.size=some o1->h'.get? (89 1)=some o2->(∀c o,22 c o->66 c o)->Q (.ref<|89 4) {s with heap:=h'}):
  102 P w A (call (.type "zip") [v1,v2]) Q E:=by
 refine callType_new OQ ⋯ (PySem.F.typeCall_zip_2 _ _) (PySem.F.newCall_zip_2 _ _) (λobj=>PySem.F.args_object_init_3 obj _ _) NO (oD v1 v2 o1 o2) ⟨i1,i2,?_⟩;have z1:(`bK).objs.size=89 1:=HQ ..;have z2:((`bK).push o2).objs.size=89 2:=by rw[HQ,z1]
 have z3:(CS `i o1 o2).objs.size=89 3:=by unfold CS;rw[HQ,z2]
 have z4:(CT `i o1 o2).objs.size=89 4:=by unfold CT;rw[HQ,z3]
 have g5:125 (Cn `i o1 o2) (CT `i o1 o2).objs.size _:=86 _;have g4:125 (Cn `i o1 o2) (CS `i o1 o2).objs.size _:=17 (86 _);have g3:125 (Cn `i o1 o2) ((`bK).push o2).objs.size _:=17 (17<|86 _);have g2:125 (Cn `i o1 o2) (`bK).objs.size o2:=17 (17<|17<|GD _ f2);have g1:125 (Cn `i o1 o2) `bk o1:=17 (17<|17<|17<|GD _ f1);show _/\_;rw[z2,z3,z4]at g5;rw[z1,z2]at g3;rw[z3]at g4;rw[z1]at g2;rw[z4];exact⟨8 g5 `a,q _ g5 g3 g4 g1 g2 λc o x=>17<|17<|17<|17<|17 x⟩
theorem Src.iter{X:Cx}{Z_:`N}{Z:St}{H:Hp}{s:Gx}{c:Src}{xs:`E}{v:Gu}{h:Heap}(I:`n)(hs:c.has X.K H xs)(rv:RelV c.val v)(k:∀b o,22 b o->35 b o):
  ∃o,fY v h o/\12 o.isFreed/\(∀h':Heap,66 h.objs.size o->c.at h.objs.size 0 h'):=by
 cases c with
 |lst a=>
  obtain⟨its,r,p,hz⟩:=I.list hs;cases (show v=.ref a from rv);obtain⟨o,e,r2⟩:=p.isList;refine⟨{cls:=.type "list_iterator",data:=.fields #[`ai,.int 0 0]},λprog w A E Q s' e' q=>?_,rfl,λh' e'=>⟨_,e',`a,`a⟩⟩;subst e';exact LH ⟨o,k a o e,r2⟩ q
 |tup a=>
  obtain⟨its,r,p,hz⟩:=I.tuple hs;cases (show v=.ref a from rv);obtain⟨o,e,r2⟩:=p;refine⟨{cls:=.type "tuple_iterator",data:=.fields #[`ai,.int 0 0]},λprog w A E Q s' e' q=>?_,rfl,λh' e'=>⟨_,e',`a,`a⟩⟩;subst e';exact wpAny_pyIter_tuple ⟨o,k a o e,r2⟩ q
 |str l=>
  obtain⟨t,rfl⟩:=(show ∃t,v=.str (sOf l) t from rv)
  cases ha:(sOf l).cps.all (· <128);·exact⟨{cls:=.type "str_iterator",data:=.fields #[.str (sOf l) t,.int 0 0]},λprog w A E Q s' e' q=>by subst e';exact P6 ha q,rfl,λh' e'=>⟨t,.inr ⟨_,e',`a,`a⟩⟩⟩
  ·exact⟨{cls:=.type "str_ascii_iterator",data:=.fields #[.str (sOf l) t,.int 0 0]},λprog w A E Q s' e' q=>by subst e';exact OO ha q,rfl,λh' e'=>⟨t,.inl ⟨_,e',`a,`a⟩⟩⟩
section
variable{P:GJ}{w:GW}{A:Hk}{E:`A}{s:Gx}{z TI TO i1 i2:Addr}{fp1 fp2:`R}{n1 n2 k:Nat}{P1 P2:11 Nat Gu}{S1 S2:11 Nat Heap}{a b:Gu}
structure ZApart(z TI TO i1 i2:Addr)(fp1 fp2:`R):Prop where
 c1:TI≠z
 c2:TO≠z
 c3:i1≠z
 c4:i2≠z
 c5:TI≠TO
 c6:TI≠i1
 c7:TI≠i2
 c8:TO≠i1
 c9:TO≠i2
 d1:z∉fp1/\TO∉fp1/\i2∉fp1
 d2:z∉fp2/\TO∉fp2/\i1∉fp2
theorem aD{n:Nat}{it:Addr}{fp:`R}{Pt:11 Nat Gu}{Z1:11 Nat Heap}(D:Draws P w A it fp n Pt Z1){j:Nat}{h h':Heap}{c:Addr}(st:Z1 j h)(sb:GU c h h')(hc:c∉fp):Z1 j h':=
 D.frame _ _ _ st λb hb o e=>(sb.2 b λq=>hc<|q▸hb).trans e
theorem nt{Q:68 `M}(D1:Draws P w A.in1 i1 fp1 n1 P1 S1)(D2:Draws P w A.in1 i2 fp2 n2 P2 S2)(Z2:ZApart z TI TO i1 i2 fp1 fp2)(h1:k<n1)(h2:k<n2)(hz:Ki `i z TI TO .none)
  (hI:KS `i TI (.ref i1) (.ref i2)) (hO:KS `i TO a b) (t1:S1 k `i) (t2:S2 k `i)
  (q:∀x y h' tk T,P1 k x->P2 k y->T=s.heap.objs.size->Ki h' z TI TO (rawInt T)->KS h' TO x y->S1 (k+1) h'->S2 (k+1) h'->KS h' T x y->
   (∀c o,34 (c≠z) (c≠TO) (c≠i1) (c≠i2) (22 c o)<|66 c o)->Q (24 T) {s with heap:=h',toks:=tk}):
  102 P w A (pyNext `aU) Q E:=by
 have hT:s.TypeIs `aU "zip":=8 hz `a
 unfold pyNext;refine Gn (IU<|Hu (name:=`bQ) hT Ih<|Hv Ih hT K1 ?_<|JR _);obtain⟨hp,gg,dd,tk0,os⟩:=s;show 60 P _ (field (`aU) 2>>=_) _ _ _;refine Gn (Hf hz `a (x:=.bool `K) `a ?_);show 60 P _ (field (`aU) 3>>=_) _ _ _;refine Gn (Hf hz `a (x:=.ref TI) `a<|Gn<|Hy hI `a ?_);show 60 P _ (Hn (`aU)>>=_) _ _ _;refine `aN;unfold Hn;refine Gn (Hf hz `a (x:=.none) `a `B);simp only[if_true];refine Gn (J7<|Gn<|Hf hz `a (x:=.ref TO) `a<|Gn<|138 hz λg1 y1 b1=>?_);replace y1:139 g1 z TI TO:=y1;replace b1:GU z hp g1:=b1;refine `aN;simp only[Kt,Lr,KJ,L8];refine Gn (Gn<|Jk ?_);show 60 P _ (GX (.ref i1)>>=_) _ _ _;refine Gn (D1.item k _ _ _ h1 (aD D1 t1 b1 Z2.d1.1) λx g2 tk2 px u1 b2=>`B);replace b2:GU i1 g1 g2:=b2;have O2:KS g2 TO a b:=b2.extBut _ _ Z2.c8 (b1.extBut _ _ Z2.c2 hO);refine Gn (Hy O2 `a<|Gn<|L9 O2 λg3 O3 b3=>?_);replace O3:KS g3 TO x b:=O3;replace b3:GU TO g2 g3:=b3;refine Gn (Ky<|Gv<|Gn<|Gn<|Jk ?_);show 60 P _ (GX (.ref i2)>>=_) _ _ _;refine Gn (D2.item k _ _ _ h2 (aD D2 (aD D2 (aD D2 t2 b1 Z2.d2.1) b2 Z2.d2.2.2) b3 Z2.d2.2.1) λy g4 tk4 py u2 b4=>`B);replace b4:GU i2 g3 g4:=b4;have O4:KS g4 TO x b:=b4.extBut _ _ Z2.c9 O3;refine Gn (Hy O4 `a<|Gn<|L9 O4 λg5 O5 b5=>?_);replace O5:KS g5 TO x y:=O5;replace b5:GU TO g4 g5:=b5;refine Gn (Ky<|Gv<|Gv<|Gn<|Hy O5 `a<|Gn<|Od ?_);have sz:g5.objs.size=hp.objs.size:=by rw[b5.1,b4.1,b3.1,b2.1,b1.1]
 have y5:139 g5 z TI TO:=b5.extBut _ _ Z2.c2.symm (b4.extBut _ _ Z2.c4.symm<|132 _ Z2.c2.symm<|b2.extBut _ _ Z2.c3.symm y1);have k5:∀c o,34 (c≠z) (c≠TO) (c≠i1) (c≠i2) (0 (hp.get? c) o) (0 (g5.get? c) o):=λc o e1 e2 e3 e4 e=>b5.extBut _ _ e2 (b4.extBut _ _ e4<|132 _ e2<|b2.extBut _ _ e3<|b1.extBut _ _ e1 e);have v1:S1 (k+1) g5:=aD D1 (aD D1 (aD D1 u1 b3 Z2.d1.2.1) b4 Z2.d1.2.2) b5 Z2.d1.2.1;have v2:S2 (k+1) g5:=aD D2 u2 b5 Z2.d2.2.1;have lz:z<g5.objs.size:=GG y5;show 60 P _ (Je (`aU) (.ref g5.objs.size)>>=_) _ _ _;refine `aN;unfold Je;have y6:139 (g5.push {cls:=`bo,data:=.seq #[x,y]}) z TI TO:=17 y5;refine Gn (138 y6 λg7 y7 b7=>?_);replace y7:Ki g7 z TI TO (rawInt g5.objs.size):=y7;replace b7:GU z (g5.push {cls:=`bo,data:=.seq #[x,y]}) g7:=b7;refine 138 y7 λg8 y8 b8=>?_;replace y8:Ki g8 z TI TO (rawInt g5.objs.size):=y8;replace b8:GU z g7 g8:=b8;have up:∀c o,c≠z->0 (g5.get? c) o->0 (g8.get? c) o:=λc o e1 e=>b8.extBut _ _ e1 (b7.extBut _ _ e1<|17 e);have T8:KS g8 g5.objs.size x y:=b8.extBut _ _ (JY lz) (b7.extBut _ _ (JY lz)<|86 _);refine Gv (8 `a<|Gv<|q x y g8 _ g5.objs.size px py sz y8 (up _ _ Z2.c2 O5) (D1.frame _ _ _ v1 λb hb o e=>up b o (λq=>Z2.d1.1<|q▸hb) e) (D2.frame _ _ _ v2 λb hb o e=>up b o (λq=>Z2.d2.1<|q▸hb) e) T8 λc o e1 e2 e3 e4 e=>up c o e1<|k5 c o e1 e2 e3 e4 e)
theorem wk{Q:68 `M}(hh:7 A.handled)(D1:Draws P w A.in1 i1 fp1 n1 P1 S1)(D2:Draws P w A.in1 i2 fp2 n2 P2 S2)(Z2:ZApart z TI TO i1 i2 fp1 fp2)(hk:k=n1\/k<n1/\k=n2)(hz:Ki `i z TI TO .none)
  (hI:KS `i TI (.ref i1) (.ref i2)) (hO:KS `i TO a b) (t1:S1 k `i) (t2:S2 k `i)
  (q:∀h' tk,(∀c o,34 (c≠z) (c≠TO) (c≠i1) (c≠i2) (22 c o)<|66 c o)->Q none {s with heap:=h',toks:=tk}):
  102 P w A (pyNext `aU) Q E:=by
 have hT:s.TypeIs `aU "zip":=8 hz `a
 unfold pyNext;refine Gn (IU<|Hu (name:=`bQ) hT Ih<|Hv Ih hT K1 ?_<|JR _);obtain⟨hp,gg,dd,tk0,os⟩:=s;show 60 P _ (field (`aU) 2>>=_) _ _ _;refine Gn (Hf hz `a (x:=.bool `K) `a ?_);show 60 P _ (field (`aU) 3>>=_) _ _ _;refine Gn (Hf hz `a (x:=.ref TI) `a<|Gn<|Hy hI `a ?_);show 60 P _ (Hn (`aU)>>=_) _ _ _;refine `aN;unfold Hn;refine Gn (Hf hz `a (x:=.none) `a `B);simp only[if_true];refine Gn (J7<|Gn<|Hf hz `a (x:=.ref TO) `a<|Gn<|138 hz λg1 y1 b1=>?_);replace y1:139 g1 z TI TO:=y1;replace b1:GU z hp g1:=b1;refine `aN;simp only[Kt,Lr,KJ,L8];refine Gn (Gn<|Jk ?_);show 60 P _ (GX (.ref i1)>>=_) _ _ _;rcases hk with hk|⟨hk1,hk2⟩
 ·subst hk;refine Gn (D1.done _ _ _ (aD D1 t1 b1 Z2.d1.1) λg2 e b2 he=>?_);obtain⟨oe,hoe,hce⟩:=he;replace b2:Jg i1 g1 g2:=b2;have y2:139 g2 z TI TO:=b2 _ _ Z2.c3.symm y1;have ez:e≠z:=λx=>by subst x;rw[y2]at hoe;cases hoe;simp at hce
  refine 138 y2 λg3 _ b3=>?_;exact Gn (IG (T:=`bD) (b:=true) ⟨oe,132 _ ez hoe,hce⟩ Jl<|Gv<|q g3 _ λc o e1 _ e3 _ x=>132 _ e1<|b2 _ _ e3<|b1.extBut _ _ e1 x)
 ·subst hk2;refine Gn (D1.item k _ _ _ hk1 (aD D1 t1 b1 Z2.d1.1) λx g2 tk2 px u1 b2=>`B);replace b2:GU i1 g1 g2:=b2;have O2:KS g2 TO a b:=b2.extBut _ _ Z2.c8 (b1.extBut _ _ Z2.c2 hO);refine Gn (Hy O2 `a<|Gn<|L9 O2 λg3 O3 b3=>?_);replace b3:GU TO g2 g3:=b3;refine Gn (Ky<|Gv<|Gn<|Gn<|Jk ?_);show 60 P _ (GX (.ref i2)>>=_) _ _ _;refine Gn (D2.done _ _ _ (aD D2 (aD D2 (aD D2 t2 b1 Z2.d2.1) b2 Z2.d2.2.2) b3 Z2.d2.2.1) λg4 e b4 he=>?_);obtain⟨oe,hoe,hce⟩:=he;replace b4:Jg i2 g3 g4:=b4;have y4:139 g4 z TI TO:=b4 _ _ Z2.c4.symm (132 _ Z2.c2.symm<|b2.extBut _ _ Z2.c3.symm y1);have ez:e≠z:=λx=>by subst x;rw[y4]at hoe;cases hoe;simp at hce
  refine 138 y4 λg5 _ b5=>?_;exact Gn (IG (T:=`bD) (b:=true) ⟨oe,b5.extBut _ _ ez hoe,hce⟩ Jl<|Gv<|q g5 _ λc o e1 e2 e3 e4 x=>b5.extBut _ _ e1<|b4 _ _ e4<|132 _ e2<|b2.extBut _ _ e3<|b1.extBut _ _ e1 x)
end
def Bo(K:Gr)(c1 c2:Src):It:=
  ⟨λi H=>∃xs ys x y,c1.has K H xs/\c2.has K H ys/\0 xs[i]? x/\0 ys[i]? y,λi H v H'=>∃p x y,25 (H p) `j (v=`O) (∀xs,c1.has K H xs->0 xs[i]? x) (∀ys,c2.has K H ys->0 ys[i]? y)<|H'=dF H p (.tup [x,y]),λi H=>∃xs ys,c1.has K H xs/\c2.has K H ys/\(121 i\/i<`t/\i=ys.length)⟩
theorem Src.inj{X:Cx}{Z_:`N}{Z:St}{H:Hp}{s:Gx}{c:Src}{xs ys:`E}(I:`n)(h1:c.has X.K H xs)(h2:c.has X.K H ys):xs=ys:=by
 cases c with
 |lst a=>exact I.list_inj h1 h2
 |tup a=>exact I.tuple_inj h1 h2
 |str l=>exact Eq.trans h1 (Eq.symm h2)
theorem Src.at_keep{c:Src}{it:Addr}{i:Nat}{h h':Heap}(st:c.at it i h)(k:∀o,35 it o->66 it o):c.at it i h':=by
 cases c with
 |lst a=>obtain⟨o,e,r⟩:=st;exact⟨o,k o e,r⟩
 |tup a=>obtain⟨o,e,r⟩:=st;exact⟨o,k o e,r⟩
 |str l=>
  obtain⟨t,st⟩:=st;rcases st with⟨o,e,r⟩|⟨o,e,r⟩
  ·exact⟨t,.inl ⟨o,k o e,r⟩⟩
  ·exact⟨t,.inr ⟨o,k o e,r⟩⟩
theorem Src.at_obj{c:Src}{it:Addr}{i:Nat}{h:Heap}(st:c.at it i h):∃o,35 it o/\∃vs,o.data=.fields vs:=by
 cases c with
 |lst a=>obtain⟨o,e,_,r⟩:=st;exact⟨o,e,_,r⟩
 |tup a=>obtain⟨o,e,_,r⟩:=st;exact⟨o,e,_,r⟩
 |str l=>
  obtain⟨t,st⟩:=st;rcases st with⟨o,e,_,r⟩|⟨o,e,_,r⟩
  ·exact⟨o,e,_,r⟩
  ·exact⟨o,e,_,r⟩
def Fi(c1 c2:Src)(z TI TO i1 i2:Addr)(i:Nat)(h:Heap):Prop:=Ki h z TI TO .none/\KS h TI (.ref i1) (.ref i2)/\(∃a b,KS h TO a b)/\c1.at i1 i h/\c2.at i2 i h
structure ZIds(z TI TO i1 i2:Addr):Prop where
 c1:TI≠z
 c2:TO≠z
 c3:i1≠z
 c4:i2≠z
 c5:TI≠TO
 c6:TI≠i1
 c7:TI≠i2
 c8:TO≠i1
 c9:TO≠i2
 c10:i1≠i2
theorem rl{X:Cx}{Z_:`N}{Z:St}{H:Hp}{s:Gx}{z TI TO i1 i2:Addr}{fp1 fp2:`R}(I:`n)(Z2:ZIds z TI TO i1 i2)(hf:∀b∈[z,TI,TO,i1,i2],FpOk X Z_ H b)
  (g1:∀b∈fp1,b=i1\/H b≠`j\/∃o,136 b o) (g2:∀b∈fp2,b=i2\/H b≠`j\/∃o,136 b o):ZApart z TI TO i1 i2 fp1 fp2:=by
 have no:∀b∈[z,TI,TO,i1,i2],¬(H b≠`j\/∃o,136 b o):=λb hb q=>by
  rcases q with q|⟨o,q⟩
  ·exact q (hf b hb).1
  ·rcases (hf b hb).2.2.2.1 with y | y;·exact I.ok.noex b o q y
   ·exact 128 (GF (GG q) I.ok.bsz) y (HI _)
 refine⟨Z2.c1,Z2.c2,Z2.c3,Z2.c4,Z2.c5,Z2.c6,Z2.c7,Z2.c8,Z2.c9,⟨λm=>?_,λm=>?_,λm=>?_⟩,⟨λm=>?_,λm=>?_,λm=>?_⟩⟩;·exact(g1 _ m).elim (λe=>Z2.c3 e.symm) (131 z)
 ·exact(g1 _ m).elim (λe=>Z2.c8 e) (131 TO)
 ·exact(g1 _ m).elim (λe=>Z2.c10 e.symm) (131 i2)
 ·exact(g2 _ m).elim (λe=>Z2.c4 e.symm) (131 z)
 ·exact(g2 _ m).elim (λe=>Z2.c9 e) (131 TO)
 ·exact(g2 _ m).elim (λe=>Z2.c10 e) (131 i1)
theorem jv{P:GJ}{w:GW}{K:Gr}{elts:`af}{kk:Nat}{tp:Pos}(c1 c2:Src)(z TI TO i1 i2:Addr)(Z2:ZIds z TI TO i1 i2):
  Turn P w K (.Tuple elts kk tp) (Bo K c1 c2) [z,TI,TO,i1,i2] z (Fi c1 c2 z TI TO i1 i2) where
 mem:=`g
 obj:=λi h st b hb=>by
  obtain⟨hz,hI,⟨a,b',hO⟩,t1,t2⟩:=st;obtain⟨o1,e1,v1,d1⟩:=Src.at_obj t1;obtain⟨o2,e2,v2,d2⟩:=Src.at_obj t2;simp only[GI,Hc,or_false]at hb;rcases hb with rfl|rfl|rfl|rfl|rfl;·exact 8 hz λv q=>by cases (show Mb _=KN v from q)
  ·exact 8 hI λv q=>by cases (show Oa _ _=KN v from q)
  ·exact 8 hO λv q=>by cases (show Oa _ _=KN v from q)
  ·exact 8 e1 λv q=>by rw[d1]at q;cases q
  ·exact 8 e2 λv q=>by rw[d2]at q;cases q
 keep:=λi h h' st k=>by
  obtain⟨hz,hI,⟨a,b',hO⟩,t1,t2⟩:=st;exact⟨k z `g _ hz,k TI `g _ hI,⟨a,b',k TO `g _ hO⟩,Src.at_keep t1<|k i1 `g,Src.at_keep t2<|k i2 `g⟩
 item:=by
  intro X hP hw hK hc i Z_ s Z H E I hf st hg;subst hP hw hK;obtain⟨xs,ys,x,y,hx,hy,ex,ey⟩:=hg;obtain⟨hz,hI,⟨a,b',hO⟩,t1,t2⟩:=st;have hh:7 X.A.in1.handled:=`bu;obtain⟨fp1,P1,S1,D1,u1,r1,a1,_,g1⟩:=Src.draws (A:=X.A.in1) hh I hx t1 (110 i1).1;obtain⟨fp2,P2,S2,D2,u2,r2,a2,_,g2⟩:=Src.draws (A:=X.A.in1) hh I hy t2 (110 i2).1;have ZA:=rl I Z2 hf g1 g2;refine nt D1 D2 ZA (GA.mp ex).1 (GA.mp ey).1 hz hI hO u1 u2 λvx vy h' tk T px py hT hz' hO' w1 w2 hTp kp=>?_;obtain⟨x',ex',rx⟩:=r1 i vx px;obtain⟨y',ey',ry⟩:=r2 i vy py;rw[ex]at ex';cases ex';rw[ey]at ey';cases ey';have nT:41 T:=by rw[hT];exact I.hok.fresh `w
  refine 8 `a (Lk hz' λh2 hz2 sb=>?_);have lt:∀{c o},22 c o->c≠T:=λe=>by rw[hT];exact GY (GG e)
  have up:∀c o,c≠z->66 c o->0 (h2.get? c) o:=λc o hc e=>(sb.2 c hc).trans e;have kp2:∀b o,b∉[z,TO,i1,i2]->22 b o->0 (h2.get? b) o:=λb o hb e=>by
   simp only[GI,Hc,or_false,not_or]at hb;exact up b o hb.1 (kp b o hb.1 hb.2.1 hb.2.2.1 hb.2.2.2 e)
  have ch:∀b∈[z,TO,i1,i2],b∈[z,TI,TO,i1,i2]:=λb hb=>by
   simp only[GI,Hc,or_false]at hb ⊢;rcases hb with h|h|h|h<;>simp[h]
  have gv:∀b u,21 b u->b∉[z,TO,i1,i2]/\b≠T:=λb u e=>⟨λhb=>(by rw[(81 b b hb).1]at e;cases e),λq=>(by rw[q,nT]at e;cases e)⟩
  have I2:Inv X Z_ Z (dF H T<|.tup [x,y]) {s with heap:=h2,gens:=s.gens,drawn:=s.drawn,toks:=tk}:=by
   refine I.step (g':=s.gens) (d':=s.drawn) (t':=tk) (ch:=[z,TO,i1,i2]) (λb hb=>⟨(81 b b hb).2.2.2.1,(81 b b hb).2.1,(81 b b hb).2.2.2.2.1,(81 b b hb).2.2.2.2.2⟩) (λb o _ _ hb e _=>kp2 b o hb e) (λb o _ _ hb e _=>⟨o.slots,kp2 b o hb e⟩) (λb o hb e n=>by rw[aH (lt e)];exact n) (λb o hb e=>⟨o,kp2 b o hb e⟩) (λb xs e=>by rw[aH (gv b _ e).2];exact e) (λb o u e=>by rw[aH (gv b _ e).2];exact e) (λb ps e=>⟨#[],by rw[aH (gv b _ e).2,e];simp⟩) (λm hm=>?_) (λb u e=>?_) I.bare
   ·obtain⟨o,es,ep,ho,r⟩:=hm;exact⟨o,es,ep,kp2 _ o (λhb=>(81 _ _ hb).2.1 `a) ho,r⟩
   ·by_cases hb:b=T
    ·subst hb;rw[aS]at e;cases e;refine⟨(by show 69 2;rw[Iq];decide),[vx,vy],.cons rx<|.cons ry .nil,⟨_,up _ _ ?_ hTp,15 `a,_,`a⟩⟩;exact λq=>lt hz q.symm
    ·rw[aH hb]at e;refine(I.hok b u e).stay (λc v hc q=>kp2 c v ?_ q) (λc q=>by rw[aH (gv c _ q).2];exact q) λc xs q=>by rw[aH (gv c _ q).2];exact q
     rcases hc with q|q;·rw[q];exact(gv b u e).1
     ·exact(gv c _ q).1
  refine⟨.ref T,_,I2,`a,⟨T,x,y,nT,rfl,λxs' h=>by rw[Src.inj I h hx];exact ex,λys' h=>by rw[Src.inj I h hy];exact ey,rfl⟩,⟨hz2,up _ _ Z2.c1<|kp _ _ Z2.c1 Z2.c5 Z2.c6 Z2.c7 hI,8 _<|up _ _ Z2.c2 hO',Src.at_keep (a1 _ _ w1) λo e=>up _ o Z2.c3 e,Src.at_keep (a2 _ _ w2) λo e=>up _ o Z2.c4 e⟩,`bm⟩;have hbT:b≠T:=by
   obtain⟨o,e⟩:∃o,22 b o:=by
    obtain⟨o1,e1,_⟩:=Src.at_obj t1;obtain⟨o2,e2,_⟩:=Src.at_obj t2;simp only[GI,Hc,or_false]at hb;rcases hb with rfl|rfl|rfl|rfl|rfl;·exact 42 hz
    ·exact 42 hI
    ·exact 42 hO
    ·exact 42 e1
    ·exact 42 e2
   exact lt e
  rw[aH hbT];exact(hf b hb).1
 done:=by
  intro X hP hw hK hc i Z_ s Z H E I hf st hg;subst hP hw hK;obtain⟨xs,ys,hx,hy,hend⟩:=hg;obtain⟨hz,hI,⟨a,b',hO⟩,t1,t2⟩:=st;have hh:7 X.A.in1.handled:=`bu;obtain⟨fp1,P1,S1,D1,u1,r1,a1,_,g1⟩:=Src.draws (A:=X.A.in1) hh I hx t1 (110 i1).1;obtain⟨fp2,P2,S2,D2,u2,r2,a2,_,g2⟩:=Src.draws (A:=X.A.in1) hh I hy t2 (110 i2).1;have ZA:=rl I Z2 hf g1 g2;have ch:∀b∈[z,TO,i1,i2],b∈[z,TI,TO,i1,i2]:=λb hb=>by
   simp only[GI,Hc,or_false]at hb ⊢;rcases hb with h|h|h|h<;>simp[h]
  refine wk hh D1 D2 ZA hend hz hI hO u1 u2 λh2 tk kp=>15 ?_
  have kp2:∀b o,b∉[z,TO,i1,i2]->22 b o->0 (h2.get? b) o:=λb o hb e=>by
   simp only[GI,Hc,or_false,not_or]at hb;exact kp b o hb.1 hb.2.1 hb.2.2.1 hb.2.2.2 e
  refine I.step (g':=s.gens) (d':=s.drawn) (t':=tk) (ch:=[z,TO,i1,i2]) (λb hb=>⟨(81 b b hb).2.2.2.1,(81 b b hb).2.1,(81 b b hb).2.2.2.2.1,(81 b b hb).2.2.2.2.2⟩) (λb o _ _ hb e _=>kp2 b o hb e) (λb o _ _ hb e _=>⟨o.slots,kp2 b o hb e⟩) (λb o hb e n=>n) (λb o hb e=>⟨o,kp2 b o hb e⟩) (λb xs e=>e) (λb o u e=>e) (λb ps e=>⟨#[],by rw[e];simp⟩) (λm hm=>?_) (λb u e=>?_) I.bare
  ·obtain⟨o,es,ep,ho,r⟩:=hm;exact⟨o,es,ep,kp2 _ o (λhb=>(81 _ _ hb).2.1 `a) ho,r⟩
  ·have gv:∀b u,21 b u->b∉[z,TO,i1,i2]:=λb u e hb=>by rw[(81 b b hb).1]at e;cases e
   refine(I.hok b u e).stay (λc v hc q=>kp2 c v ?_ q) (λc q=>q) λc xs q=>q;rcases hc with q|q
   ·rw[q];exact gv b u e
   ·exact gv c _ q
 self:=λ_ _ _ _ _ st h=>Li st.1 h
theorem ig(n a b:Nat)(h:a≠b): @Ne Nat (n+a) (n+b):=λe=>h (Nat.add_left_cancel e)
def Bp(K:Gr)(t:TA):TI:=λZ H R=>t Z H λvs H1=>∃c1 c2 xs ys,2 vs [c1.val,c2.val] (c1.has K H1 xs) (c2.has K H1 ys/\R (Bo K c1 c2) H1)
theorem Bq{X:Cx}{a b:Expr}{ta:TA}{p pos tp:Pos}{elts:`af}{kk:Nat}(hg:Gl X "zip")(hm:7 (X.mg "zip"))(ha:PA X [a,b] ta)
  (hs:67 [a,b]=[(false,30 a),(false,30 b)]:=by rfl) (hs2:67 [b]=[(false,30 b)]:=by rfl):PI X (.Tuple elts kk tp) (123 "zip" p [a,b] [] pos) (Bp X.K ta):=by
 intro Z_ s Z H R I h;refine QW (gD I hg hm RC (Ie (159 (ha pos Z_ s Z H _ I h) ?_) (by rw[hs,hs2]) (by rw[hs2];rfl)));obtain⟨c1,c2,xs,ys,e,h1,h2,q⟩:=q1;subst e;obtain⟨v1,v2,rfl,ra,rb⟩:=pG r1;obtain⟨o1,i1,f1,n1⟩:=Src.iter I1 h1 ra λ_ _ e=>e;obtain⟨o2,i2,f2,n2⟩:=Src.iter (h:=s1.heap.push o1) I1 h2 rb λ_ _ e=>17 e;have z1:(s1.heap.push o1).objs.size=117 1:=HQ ..;rw[z1]at n2;refine nr i1 i2 f1 f2 λh' hz hI hO e1 e2 kp=>?_;refine Li hz ?_;have zi:∀n:Nat,ZIds (n+4) (n+2) (n+3) n (n+1):=λn=>⟨ig n 2 4 ⋯,ig n 3 4 ⋯,ig n 0 4 ⋯,ig n 1 4 ⋯,ig n 2 3 ⋯,ig n 2 0 ⋯,ig n 2 1 ⋯,ig n 3 0 ⋯,ig n 3 1 ⋯,ig n 0 1 ⋯⟩
 refine⟨117 4,[117 4,117 2,117 3,s1.heap.objs.size,117 1],_,_,H1,`a,I1.kept (t':=s1.toks) kp,jv c1 c2 _ _ _ _ _<|zi `ba,⟨hz,hI,8 _ hO,n1 h' e1,n2 h' e2⟩,`bm,q⟩;have hb':`ba<=b:=by
  simp only[GI,Hc,or_false]at hb;rcases hb with z|z|z|z|z<;>rw[z]
  ·exact HU _ 4
  ·exact HU _ 2
  ·exact HU _ 3
  ·exact `w
  ·exact HU _ 1
 exact 155 hb' hb'
theorem sN{K:Gr}{c1 c2:Src}{xs ys:`E}{g:TG}{tb:TS}{D:Ends}{Z:St}{H:Hp}(Pv:82 Nat St Hp)(h0:Pv 0 Z H)(hl:∀i Z H,Pv i Z H->c1.has K H xs/\c2.has K H ys)(hn:`t=ys.length)
  (hs:∀i x y p Z H,xs[i]? =some x->ys[i]? =some y->H p=none->Pv i Z H->g (`O) Z (dF H p<|.tup [x,y]) λσ2 H2=>tb {D with nx:=Pv<|i+1,ct:=Pv<|i+1,bk:=D.nx} σ2 H2) (hd:∀Z H,Pv `t Z H->D.nx Z H):
  ∃W:Nat->Nat->St->Hp->Prop,(∃m,W 0 m Z H)/\∀i m Z H,W i m Z H->(Bo K c1 c2).stop i H/\D.nx Z H\/((Bo K c1 c2).go i H/\∃N:St->Hp->Prop,(∀σ' H',N σ' H'->∃m',m'<m/\W (i+1) m' σ' H')/\∀x H',(Bo K c1 c2).yld i H x H'->g x Z H' λσ2 H2=>tb {D with nx:=N,ct:=N,bk:=D.nx} σ2 H2):=by
 refine⟨λi m Z H=>2 m (`t-i) (i<=`t)<|Pv i Z H,⟨`t,`g,Hq _,h0⟩,?_⟩;rintro i m Z H ⟨rfl,hi,p⟩;obtain⟨q1,q2⟩:=hl i Z H p;by_cases hlt:i<`t
 ·refine .inr ⟨⟨xs,ys,xs[i],ys[i],q1,q2,by simp[hlt],by simp[<-hn,hlt]⟩,Pv<|i+1,λσ' H' p'=>⟨`t-(i+1),`b,`a,hlt,p'⟩,λv H' ⟨a,x,y,na,ev,ex,ey,eh⟩=>?_⟩;subst ev eh;exact hs i x y a Z H (ex xs q1) (ey ys q2) na p
 ·have e:121 i:=`b
  subst e;exact 116 ⟨xs,ys,q1,q2,`X⟩ (hd Z H p)
structure Cal(P:GJ)(w:GW)(K:Gr)(mg:Str->`M)(base:Heap)(x:Str)(ps:`y)(k:Nat)(sp:Sp):Prop where
 ex:∃(f:Addr)(fd:GV),FnOk P w K mg `d CX0 k f fd ps sp/\90 x f/\1 (JO K<|.ref f)/\Binds K fd ps []
theorem wm{X:Cx}{x:Str}{ps:`y}{k:Nat}{sp:Sp}{p pos:Pos}{e:Expr}{es:`af}{t:TA}(C:Cal `S X.w X.K X.mg X.base x ps k sp)(hr:Room k X.A)(hg:Gl X x)(ha:PA X (e::es) t)
  (hdb:12 (x==("__debug__" :Str)):=by decide) (he:67 (e::es)=(false,30 e)::67 es:=by rfl) (hpl:12 ((124 pos es).any (·.1)):=by rfl):
  9 (123 x p (e::es) [] pos) (aO sp [] E0 t):=by
 obtain⟨f,fd,F,hm,hk,hb⟩:=C.ex;exact sI F hr hg hm hk hb .nil CO ha hdb he hpl
theorem j6{X:Cx}{scope:Ka}{N:`y}{cap:List `ae}(kind:scope.kind=.function)(nd:N.Nodup)(len:cap.length=N.length)(uniq:(scope.names.map (·.1)).Nodup)
  (fr:1 (scope.names.all λx=>x.2 !=.free||(X.env.kindOf x.1==some .cell||X.env.kindOf x.1==some .free)))
  (cp:1 ((N.zip cap).all λp=>match p.2 with|none=>true|some j=>X.N[j]? ==some p.1&&scope.names.contains (p.1,IT))):CompScope X `C N cap:=by
 refine⟨kind,nd,len,uniq,λx hx hk=>?_,λk x j h1 h2=>?_⟩
 ·have:=JF.mp fr x hx;rw[hk]at this;simpa using this
 ·have hm:(x,some j)∈N.zip cap:=by
   rw[KU];exact⟨k,by rw[Kj];exact⟨h1,h2⟩⟩
  have:=JF.mp cp _ hm;simpa using this
def flat:V->Bool
 | .non=>true
 | .bl _=>true
 | .int _=>true
 | .str _=>true
 |_=>false
theorem dq{H:Hp}{p:Addr}{o:HO}(h:41 p):Same H (dF H p o):=λb u e=>by rw[aH (df e h)];exact e
theorem dH(x:String)(l:`br)(h:(Gy x).cps.toList=l):Gy x=sOf l:=by rw[wb<|Gy x,h]
section
variable{X:Cx}{K:Gr}{w:GW}
theorem aR(h:X.K=K):Cm X (cn K):=h▸Bj
theorem bL(h:X.K=K):Cm X (cm K):=h▸z7
theorem bD(h:X.K=K):eY X (.builtin "len") λxs H Q=>∃x n,2 xs [x] (r0 K x H n) (Q (.int n) H):=h▸w6
theorem aG(h:X.K=K):eY X (.builtin "isinstance") λxs H Q=>∃x T t b,2 xs [x,.ty T] (TyOf K H x t) (0 (HD K t<|.type T) b/\Q (.bl b) H):=h▸pL
theorem wo(h:X.K=K):CM X "str.join" (λx xs H Q=>∃(p:Addr)(ys:List (List Nat)),25 x (88 []) (xs=[.ref p]) (SqL K H p<|ys.map λy=>LS<|sOf y) (94 ys.flatten.length)<|Q (88 ys.flatten) H):=h▸zd
theorem wq(h:X.K=K):DS X (cw K):=h▸z8
theorem nu(h:X.K=K)(hw:X.w=w){o i:Expr}{pos:Pos}{td ty:TE}(ho:9 o td)(hi:9 i ty)(hs:w9 i):9 (.Subscript o i pos) (aP K w td ty):=h▸hw▸wc ho hi hs
theorem bQ(h:X.K=K){pos:Pos}{es:`af}{k:Nat}{t:yV}{n:Nat}(hc:`bw)(hg:Ck X es t)(hn:(assignEach es `D).length=n:=by rfl)(hst:7 ((assignEach es `D).findIdx? (·.1)):=by rfl):PG X (.Tuple es k pos) (cf K n t):=h▸Bf hc hg hn hst
theorem d4(h:X.K=K){tg l:Expr}{tl:TE}(hl:9 l tl):PI X tg l (sE K tl):=h▸yX hl
theorem fG(h:X.K=K){a b:Expr}{ta:TA}{p pos tp:Pos}{elts:`af}{kk:Nat}(hg:Gl X "zip")(hm:7 (X.mg "zip"))(ha:PA X [a,b] ta)
  (hs:67 [a,b]=[(false,30 a),(false,30 b)]:=by rfl) (hs2:67 [b]=[(false,30 b)]:=by rfl):PI X (.Tuple elts kk tp) (123 "zip" p [a,b] [] pos) (Bp K ta):=h▸Bq hg hm ha hs hs2
theorem rm(h:X.K=K){o e:Expr}{es:`af}{to:TE}{t:TA}{name:Str}{Z7 Z8:Pos}{T id:String}{r:V->`E->11 Hp VK}(pa:PlainAttrs T)(slot:Slot T name id)(hty:typeOf (.builtin id)=pure (.type "method_descriptor"))(hm:CM X id r)(ho:9 o to)(ha:PA X (e::es) t)
  (hbase:attributeBase o name `D (30 o)=30 o:=by rfl)
  (hfew:1 ((124 Z8<|e::es).all (λx=> !x.1)&&(backToKw Z8<|keywordEach [] `D).all (λx=>x.1.isSome)&&decide ((e::es).length+([]:List Nt).length+(if([]:List Nt).isEmpty then 0 else 1)<30)):=by rfl)
  (hline:1 (Z7.endLine==Z8.line):=by rfl) (hs:67 (e::es)=(false,30 e)::67 es:=by rfl) (hplain:12 ((124 Z8 es).any (·.1)):=by rfl):
  9 (.Call (.Attribute o name Z7) (e::es) [] Z8) (eH K T r to t):=h▸CN pa slot hty hm ho ha hbase hfew hline hs hplain
end
def Fj(K:Gr)(a:Addr):It:=
  ⟨λi H=>∃xs x,SqL K H a xs/\0 xs[i]? x,λi H v H'=>∃p x,2 (H p) `j (v=`O)<|(∀xs,SqL K H a xs->0 xs[i]? x)/\H'=dF H p (.tup [.int i,x]),λi H=>∃xs,SqL K H a xs/\`t=i⟩
def Fw(a e it:Addr)(i:Nat)(h:Heap):Prop:=(∃old,IsEnum h e it i old)/\h.IsListIter it a i
theorem uF{P:GJ}{w:GW}{K:Gr}{elts:`af}{kk:Nat}{tp:Pos}(a e it:Addr)(ne:e≠it):Turn P w K (.Tuple elts kk tp) (Fj K a) [e,it] e (Fw a e it) where
 mem:=`g
 obj:=λi h st b hb=>by
  obtain⟨⟨old,he⟩,t1⟩:=st;obtain⟨o1,e1,v1,d1⟩:=Src.at_obj (c:=.lst a) t1;simp only[GI,Hc,or_false]at hb;rcases hb with rfl|rfl;·exact 8 he λv q=>by cases (show Mb _=KN v from q)
  ·exact 8 e1 λv q=>by rw[d1]at q;cases q
 keep:=λi h h' st k=>by
  obtain⟨⟨old,he⟩,t1⟩:=st;exact⟨⟨old,k e `g _ he⟩,Src.at_keep (c:=.lst a) t1<|k it `g⟩
 item:=by
  intro X hP hw hK hc i Z_ s Z H E I hf st hg;subst hP hw hK;obtain⟨xs,x,hx,ex⟩:=hg;obtain⟨⟨old,he⟩,t1⟩:=st;have hh:7 X.A.in1.handled:=`bu;obtain⟨fp1,P1,S1,D1,u1,r1,a1,_,g1⟩:=Src.draws (A:=X.A.in1) (c:=.lst a) hh I hx t1 (110 it).1;have nof:e∉fp1:=λm=>by
   rcases g1 e m with q|q|⟨o,q⟩
   ·exact ne q
   ·exact q (110 e).1
   ·rcases (hf e (by simp)).2.2.2.1 with y | y;·exact I.ok.noex e o q y
    ·exact 128 (GF (GG q) I.ok.bsz) y (HI _)
  refine wpAny_pyNext_enum_itemD D1 he u1 (GA.mp ex).1 ne nof λvx h' tk px ho w1 hTp hsz kp=>?_;obtain⟨x',ex',rx⟩:=r1 i vx px;rw[ex]at ex';cases ex';have nT:41 `bk:=I.hok.fresh `w;refine 8 `a (wpAny_letOwnedTupleGo_enum ho λh2 he2 sb=>?_);have lt:∀{c o},22 c o->c≠`bk:=λe=>GY (GG e);have kp2:∀b o,b∉[e,it]->22 b o->0 (h2.get? b) o:=λb o hb q=>by
   simp only[GI,Hc,or_false,not_or]at hb;exact(sb.2 b hb.1).trans (kp b o hb.1 hb.2 q)
  have gv:∀b u,21 b u->b∉[e,it]/\b≠`bk:=λb u q=>⟨λhb=>(by rw[(hf b hb).1]at q;cases q),λz=>(by rw[z,nT]at q;cases q)⟩
  have I2:Inv X Z_ Z (dF H `bk<|.tup [.int i,x]) {s with heap:=h2,gens:=s.gens,drawn:=s.drawn,toks:=tk+1}:=by
   refine I.step (g':=s.gens) (d':=s.drawn) (t':=tk+1) (ch:=[e,it]) (λb hb=>⟨(hf b hb).2.2.2.1,(hf b hb).2.1,(hf b hb).2.2.2.2.1,(hf b hb).2.2.2.2.2⟩) (λb o _ _ hb q _=>kp2 b o hb q) (λb o _ _ hb q _=>⟨o.slots,kp2 b o hb q⟩) (λb o hb q n=>by rw[aH (lt q)];exact n) (λb o hb q=>⟨o,kp2 b o hb q⟩) (λb xs q=>by rw[aH (gv b _ q).2];exact q) (λb o u q=>by rw[aH (gv b _ q).2];exact q) (λb ps q=>⟨#[],by rw[aH (gv b _ q).2,q];simp⟩) (λm hm=>?_) (λb u q=>?_) I.bare
   ·obtain⟨o,es,ep,ho',r⟩:=hm;exact⟨o,es,ep,kp2 _ o (λhb=>(hf _ hb).2.1 `a) ho',r⟩
   ·by_cases hb:b=`bk
    ·subst hb;rw[aS]at q;cases q;refine⟨(by show 69 2;rw[Iq];decide),[.int i tk,vx],.cons `au<|.cons rx .nil,⟨_,(sb.2 _ ?_).trans hTp,15 `a,_,`a⟩⟩;exact λz=>lt he z.symm
    ·rw[aH hb]at q;refine(I.hok b u q).stay (λc v hc z=>kp2 c v ?_ z) (λc z=>by rw[aH (gv c _ z).2];exact z) λc xs z=>by rw[aH (gv c _ z).2];exact z
     rcases hc with z|z;·rw[z];exact(gv b u q).1
     ·exact(gv c _ z).1
  refine⟨`bY,_,I2,`a,⟨_,x,nT,rfl,λxs' h=>by rw[I.list_inj h hx];exact ex,rfl⟩,⟨42<|by simpa using he2,Src.at_keep (c:=.lst a) (a1 _ _ w1) λo q=>(sb.2 _<|JI ne).trans q⟩,`bm⟩;have hbT:b≠`bk:=by
   obtain⟨o1,e1,_⟩:=Src.at_obj (c:=.lst a) t1;simp only[GI,Hc,or_false]at hb;rcases hb with rfl|rfl;·exact lt he
   ·exact lt e1
  rw[aH hbT];exact(hf b hb).1
 done:=by
  intro X hP hw hK hc i Z_ s Z H E I hf st hg;subst hP hw hK;obtain⟨xs,hx,hl⟩:=hg;obtain⟨⟨old,he⟩,t1⟩:=st;have hh:7 X.A.in1.handled:=`bu;obtain⟨fp1,P1,S1,D1,u1,r1,a1,_,g1⟩:=Src.draws (A:=X.A.in1) (c:=.lst a) hh I hx t1 (110 it).1;subst hl;obtain⟨f0,f1,f2,f3,f4,f5⟩:=110 it;exact wpAny_pyNext_enum_endD D1 he u1 λh' hx'=>15 (I.turned (t':=s.toks) (λb o hb q=>hx' b o hb q) f0 f1 f3 f4 f5)
 self:=λ_ _ _ _ _ st h=>by obtain⟨⟨old,he⟩,_⟩:=st;exact P7 he h
def AK(K:Gr)(t:TA):TI:=λZ H R=>t Z H λvs H1=>∃a xs,2 vs [.ref a] (SqL K H1 a xs) (R (Fj K a) H1)
theorem sO{X:Cx}{K:Gr}(hK:X.K=K){b:Expr}{ta:TA}{p pos tp:Pos}{elts:`af}{kk:Nat}(hg:Gl X "enumerate")(hm:7 (X.mg "enumerate"))(ha:PA X [b] ta)(hs:67 [b]=[(false,30 b)]:=by rfl):
  PI X (.Tuple elts kk tp) (123 "enumerate" p [b] [] pos) (AK K ta):=by
 subst hK;intro Z_ s Z H R I h;refine QW (gD I hg hm boot_enumerate<|Ie (159 (ha pos Z_ s Z H _ I h) ?_) hs `a);obtain⟨a,xs,e,h1,q⟩:=q1;subst e;obtain⟨v1,rfl,ra⟩:=gL r1;cases ra;obtain⟨its,rv,pl,hz⟩:=I1.list h1;refine call_enumerate_list pl.isList λh' he hi hsz kp=>?_;refine P7 he ?_;refine⟨117 1,[117 1,s1.heap.objs.size],_,_,H1,`a,I1.kept (t':=s1.toks) kp,uF a _ _<|ig `ba 1 0 ⋯,⟨42 he,hi⟩,`bm,q⟩;have hb':`ba<=b:=by
  simp only[GI,Hc,or_false]at hb;rcases hb with z|z<;>rw[z]
  ·exact HU _ 1
  ·exact `w
 exact 155 hb' hb'
end L2
open L2.Src renaming at_keep->Le,at_obj->LA,draws->Nl,iter->Ph,inj->S8
namespace Wb
open PySem L2
abbrev Rp(S:Type):=82 Hp S V
class Mono{S:Type}(R:`l):Prop where
 mono:∀{H H':Hp}{m:S}{v:V},Same H H'->R H m v->R H' m v
def LR{S:Type}(R:`l)(H:Hp)(ms:`z)(vs:`E):Prop:=`aK=ms.length/\∀(i:Nat)(v:V)(m:S),0 vs[i]? v->0 ms[i]? m->R H m v
theorem LR.nil{S:Type}{R:`l}{H:Hp}:LR R H [] []:=15 λi v m e=>by simp at e
theorem LR.same{S:Type}{R:`l}[`aJ]{H H':Hp}{ms:`z}{vs:`E}(h:LR R H ms vs)(e:Same H H'):LR R H' ms vs:=⟨h.1,λi v m a b=>Mono.mono e<|h.2 i v m a b⟩
theorem LR.snoc{S:Type}{R:`l}{H:Hp}{ms:`z}{vs:`E}{m:S}{v:V}(h:LR R H ms vs)(r:R H m v):LR R H (ms++[m]) (vs++[v]):=by
 refine⟨by simp[h.1],λi v' m' a b=>?_⟩;by_cases hi:i<`aK
 ·rw[Hr hi]at a;rw[Hr (by rw[<-h.1];exact hi)]at b;exact h.2 i v' m' a b
 ·rw[He `b]at a;rw[He (by rw[<-h.1];omega)]at b;rw[<-h.1]at b;cases e:i-vs.length with
  |zero=>rw[e]at a b;simp at a b;subst a b;exact r
  |succ n=>rw[e]at a;simp at a
theorem LR.get{S:Type}{R:`l}{H:Hp}{ms:`z}{vs:`E}{i:Nat}{m:S}(h:LR R H ms vs)(e:0 ms[i]? m):∃v,0 vs[i]? v/\R H m v:=by
 have hi:i<`aK:=by rw[h.1];exact(GA.mp e).1
 exact⟨vs[i],by simp[hi],h.2 i _ m (by simp[hi]) e⟩
theorem LR.got{S:Type}{R:`l}{H:Hp}{ms:`z}{vs:`E}{i:Nat}{v:V}(h:LR R H ms vs)(e:0 vs[i]? v):∃m,0 ms[i]? m/\R H m v:=by
 have hi:i<ms.length:=by rw[<-h.1];exact(GA.mp e).1
 exact⟨ms[i],by simp[hi],h.2 i v _ e<|by simp[hi]⟩
def isL{S:Type}(R:`l):Rp `z:=λH ms v=>∃p vs,2 v `O (21 p<|.lst vs) (LR R H ms vs)
instance zkeep1{S:Type}{R:`l}[`aJ]:Mono (isL R):=⟨λe⟨p,vs,h1,h2,h3⟩=>⟨p,vs,h1,e _ _ h2,h3.same e⟩⟩
def isS:Rp `br:=λ_ l v=>v=88 l
instance zkeep2:Mono isS:=⟨λ_ h=>h⟩
def isI:Rp `c:=λ_ l v=>v=.int l
instance zkeep4:Mono isI:=⟨λ_ h=>h⟩
theorem LR.str{H:Hp}{ms:List `br}{vs:`E}(h:LR isS H ms vs):vs=ms.map λl=>LS (sOf l):=by
 refine Jh λi=>?_;rw[GK];cases e:ms[i]? with
 |none=>rw[IJ]at e;rw[IJ.mpr (by rw[h.1];exact e)];rfl
 |some m=>obtain⟨v,a,b⟩:=h.get e;rw[a];cases b;rfl
end Wb
open Wb.Mono renaming mono->Gm
namespace L2
open PySem PySem.Spec PyProof.Rows
section
variable{X:Cx}{K:Gr}{w:GW}
theorem jd(h:X.K=K):eY X `bi λxs H Q=>∃p ys,2 xs [.ref p] (SqL K H p ys\/SqT K H p ys) (∀l,41 l->Q (.ref l) (115 H l ys)):=h▸oo
end
end L2
namespace Wb
open PySem L2
theorem LR.take{S:Type}{R:`l}{H:Hp}{ms:`z}{vs:`E}(h:LR R H ms vs)(k:Nat):LR R H (ms.take k) (vs.take k):=by
 refine⟨by simp[h.1],λi v m a b=>?_⟩;rw[List.getElem?_take]at a b;split at a;·rw[Z3 (by assumption)]at b;exact h.2 i v m a b
 ·cases a
theorem LR.drop{S:Type}{R:`l}{H:Hp}{ms:`z}{vs:`E}(h:LR R H ms vs)(k:Nat):LR R H (ms.drop k) (vs.drop k):=by
 refine⟨by simp[h.1],λi v m a b=>?_⟩;rw[Iy]at a b;exact h.2 _ v m a b
theorem bJ{H H':Hp}{p:Addr}(e:Same H H')(h:7 (H' p)):41 p:=by
 cases z:H p with
 |none=>rfl
 |some x=>have:=e _ _ z;rw[h]at this;cases this
theorem uG{H H3:Hp}{p:Addr}{o:HO}(e:Same H H3)(h:41 p):Same H (dF H3 p o):=λa u z=>by
 rw[aH (df z h)];exact e _ _ z
end Wb
namespace L2
open PySem PySem.Spec PyProof.Rows
section
variable{X:Cx}{K:Gr}{w:GW}
theorem ny(hc:`bw)(h:X.K=K):eY X (.builtin "sum") λxs H Q=>∃(p:Addr)(ns:List Int),2 xs [.ref p] (SqL K H p<|ns.map Kx) (Q (.int ns.sum) H):=by
 subst h;intro Z_ s Z H xs us Q I r h;obtain⟨p,ns,rfl,hq,q⟩:=h;obtain⟨u,rfl,rx⟩:=gL r;cases rx;obtain⟨its,r',pl,hz⟩:=I.list hq;have hi:=ll r';obtain⟨xs,hx⟩:=hi.allInts.items;have hl':s.heap.IsList p (intItems xs):=hx▸pl.isList;refine sum_intListG `bu hl' λh' tk t' hk=>?_;have e1:ns=xs.toList.map (·.1):=by
  rw[<-nums_intItems,<-hx];exact(show numsOf its.toArray.toList=ns from hi.numsOf).symm
 have e2:preSum (numAt xs) `aj=ns.sum:=by
  rw[preSum_eq,K0 `g,e1]
 rw[e2];exact⟨.int ns.sum,H,I.kept hk,`au,q⟩
end
theorem pP:∀(xs:List V)(us:List Gu),121 us.length->(∀(j:Nat)(x:V)(u:Gu),0 xs[j]? x->0 us[j]? u->78 x)->99 xs
 | [],[],_,_=>.nil
 |x::xs,u::us,hl,h=>.cons (h 0 x u `a `a) (pP xs us `bX λj x u a b=>h (j+1) x u (by simpa using a)<|by simpa using b)
 | [],_::_,hl,_=>by simp at hl
 |_::_,[],hl,_=>by simp at hl
theorem jZ{S β:Type}{F:11 S β}:∀{l₁:List S}{l₂:List β},Paired F l₁ l₂->∀{j:Nat}{b:β},0 l₂[j]? b->∃a,0 l₁[j]? a/\F a b
 |_,_,.nil,j,b,h=>by simp at h
 |_,_,.cons r rs,0,b,h=>by simp at h;subst h;exact 8 `a r
 |_,_,.cons r rs,j+1,b,h=>by simp at h;obtain⟨a,h1,h2⟩:=jZ rs h;exact⟨a,by simpa using h1,h2⟩
section
variable{X:Cx}{K:Gr}{w:GW}
theorem jw(h:X.K=K):eY X (.builtin "sorted") λxs H Q=>∃(p:Addr)(ns:List Int),2 xs [.ref p] (SqL K H p<|ns.map Kx) (ns.length<64/\∀(q:Addr)(ns':List Int),41 q->ns'.Perm ns->ns'.Pairwise (· <= ·)->Q (.ref q) (115 H q<|ns'.map Kx)):=by
 subst h;intro Z_ s Z H xs us Q I r h;obtain⟨p,ns,rfl,hq,a0,q⟩:=h;obtain⟨u,rfl,rx⟩:=gL r;cases rx;obtain⟨its,r',pl,hz⟩:=I.list hq;have hi:=ll r';have hlen:=IntsAre.length hi;refine sorted_ints pl.isList hi `b λout ns' a1 a2 a3=>?_;obtain⟨e,he⟩:=sortedAll_at `i its out;have hl':=a2.length_eq;refine⟨.ref<|89 1,_,I.laid (t':=s.toks) (λ_ _=>sortedAll_old) (Md _) (show ObjOk `S X.w _ _ _ (.lst<|ns'.map Kx)from⟨by rw[Ho,Iq];omega,out.toList,e,jX a1,by rw[Array.toArray_toList];exact he⟩),`a,q _ ns' (I.hok.fresh<|Md _) a2 a3⟩
theorem je(h:X.K=K):141 X .NotIn (f9 K `o):=h▸om
end
end L2
namespace L2
theorem fZ{k:Nat}{A:Hk}(r:Room k A):A.units+1<PySem.cLine:=by have:=r.un;omega
end L2
namespace L2
open PySem PySem.Spec PyProof.Rows
def wt(K:Gr)(te:TE)(tk:TO):TE:=λZ H Q=>te Z H λx H1=>tk Z H1 λk H2=>∃a xs,2 x `ai (0 k (-1)) (SqL K H2 a xs/\∀p,7 (H2 p)->Q `O (115 H2 p xs.reverse))
theorem wu{xs:`E}{us:`aq}(r:99 xs):Vals xs.reverse us.reverse:=by
 induction r with
 |nil=>exact .nil
 |cons h t ih=>rw[P8,P8];exact Paired.snoc ih h
theorem pQ{X:Cx}{K:Gr}(hK:X.K=K){e st:Expr}{te:TE}{tk:TO}{pos p2:Pos}(ops:Addr->Addr->`aq)(hs:∀a b:Addr,subscripted (.Slice `j `j (some st) p2) `K `ai `aS=operate (ops a b) (getItem `ai `aS))(he:9 e te)(hk:PO X (some st) tk):9 (.Subscript e (.Slice `j `j (some st) p2) pos) (wt K te tk):=by
 subst hK;intro Z_ s Z H Q I h;refine OL (137 (he Z_ s Z H _ I h) ?_);obtain⟨x,H1,I1,r1,q1⟩:=zz;refine wpAny_Slice ?_;rw[OA];refine `B;refine `B;refine cE (hk Z_ s1 Z H1 _ I1 q1) λvk s3 zz=>?_;obtain⟨k,H3,I3,pk,q3⟩:=zz;obtain⟨a,xs,rfl,rfl,hx,q⟩:=q3;cases r1;have I4:Inv X Z_ Z H3 {s3 with heap:=s3.heap.push {cls:=.type "slice",data:=.fields #[.none,.none,vk]}}:=I3.kept (t':=s3.toks) λb ob q=>17 q;obtain⟨its,r,ht,hz⟩:=I4.list hx;have hlen:=r.length;show wpAny (`aM) X.A (subscriptTail e (.Slice `j `j (some st) p2) `ai<|.ref s3.heap.objs.size) (EP X Z_ Z Q) X.xe {s3 with heap:=s3.heap.push {cls:=.type "slice",data:=.fields #[.none,.none,vk]}};refine Rx (ops:=ops a s3.heap.objs.size) ht.isList.typeIs MS.lookup ?_ (hs _ _);refine N5 ht.isList (OM ..) .none .none pk ⋯ ?_ (by rw[GN];omega);rw[PySem.W.krv_pick];refine⟨.ref _,_,I4.laid (t':=s3.toks) (o:=.lst xs.reverse) (λb ob q=>17 q) `w ?_,`a,q _<|I4.hok.fresh `w⟩;exact⟨by rw[Mp];exact hz,_,0,wu r,86 _⟩
abbrev cT(h:Heap)(T:Addr)(a b c:Gu):Prop:=h.get? T=some {cls:=`bo,data:=.seq #[a,b,c]}
def CU(h:Heap)(o1 o2 o3:Obj):Heap:=(((h.push o1).push o2).push o3).push {cls:=`bo,data:=.seq #[.ref h.objs.size,.ref (h.push o1).objs.size,.ref ((h.push o1).push o2).objs.size]}
def CV(h:Heap)(o1 o2 o3:Obj):Heap:=(CU h o1 o2 o3).push {cls:=`bo,data:=.seq #[.none,.none,.none]}
def Br(h:Heap)(o1 o2 o3:Obj):Heap:=(CV h o1 o2 o3).push {cls:=.type "zip",data:=.fields #[.none,.bool `K,.bool `K,.ref (((h.push o1).push o2).push o3).objs.size,.ref (CU h o1 o2 o3).objs.size]}
theorem mL(v1 v2 v3:Gu)(o1 o2 o3:Obj):Meets (J4.«zip.__new__» ⟨[.type "zip",v1,v2,v3],[]⟩) (λ_ R s=>fY v1 s.heap o1/\fY v2 (`bK) o2/\fY v3 ((`bK).push o2) o3/\R (.ok<|.ret<|.ref (CV `i o1 o2 o3).objs.size) {s with heap:=Br s.heap o1 o2 o3}):=
 .of_wp λprog w A R s h=>by
  obtain⟨hp,g,d,tk,os⟩:=s;obtain⟨i1,i2,i3,h⟩:=h;have hsub:=sub_zip;have j1:=λ(A:Hk)(E:Gu->Gx->Prop)(Q:Gu->Gx->Prop)(q:Q _ _)=>i1 `r w A E Q ⟨hp,g,d,tk,os⟩ `a q;have j2:=λ(A:Hk)(E:Gu->Gx->Prop)(Q:Gu->Gx->Prop)(q:Q _ _)=>i2 `r w A E Q ⟨hp.push o1,g,d,tk,os⟩ `a q;have j3:=λ(A:Hk)(E:`A)(Q:`A)(q:Q _ _)=>i3 prog w A E Q ⟨(hp.push o1).push o2,g,d,tk,os⟩ rfl q
  wp_walk using j1 _ _ _,j2 _ _ _,j3 _ _ _
  exact 8 `a h
theorem lC(a b c:Gu):checkTypeCall "zip" ⟨[a,b,c],[]⟩=pure ():=by kernel_rfl
theorem mM(a b c:Gu):checkBuiltinCall "zip.__new__" ⟨[.type "zip",a,b,c],[]⟩=pure ():=by kernel_rfl
theorem jm(a b c d:Gu):argsOk "object.__init__" ⟨[a,b,c,d],[]⟩:=by
 unfold argsOk;rw[NH (id:="object.__init__") (n:=['_','_','t','i','n','i','_','_']) (o:=['t','c','e','j','b','o']) (by kernel_rfl) PySem.F.owner_object];kernel_rfl
theorem uH{P:GJ}{w:GW}{A:Hk}{E:`A}{s:Gx}{v1 v2 v3:Gu}{o1 o2 o3:Obj}{Q:`A}(i1:fY v1 `i o1)(i2:fY v2 `bK o2)(i3:fY v3 ((`bK).push o2) o3)
  (f1:12 o1.isFreed) (f2:12 o2.isFreed) (f3:12 o3.isFreed)
  (q:∀h',Ki h' (89 5) (89 3) (89 4) .none->cT h' (89 3) (`bY) (.ref<|89 1) (.ref<|89 2)->cT h' (89 4) .none .none .none->
   h'.get? s.heap.objs.size=some o1->h'.get? (89 1)=some o2->h'.get? (89 2)=some o3->(∀c o,22 c o->66 c o)->Q (.ref<|89 5) {s with heap:=h'}):
  102 P w A (call (.type "zip") [v1,v2,v3]) Q E:=by
 refine callType_new OQ ⋯ (lC _ _ _) (mM _ _ _) (λobj=>jm obj _ _ _) NO (mL v1 v2 v3 o1 o2 o3) ⟨i1,i2,i3,?_⟩;have z1:(`bK).objs.size=89 1:=HQ ..;have z2:((`bK).push o2).objs.size=89 2:=by rw[HQ,z1]
 have z3:(((`bK).push o2).push o3).objs.size=89 3:=by rw[HQ,z2]
 have z4:(CU `i o1 o2 o3).objs.size=89 4:=by unfold CU;rw[HQ,z3]
 have z5:(CV `i o1 o2 o3).objs.size=89 5:=by unfold CV;rw[HQ,z4]
 have g6:125 (Br `i o1 o2 o3) (CV `i o1 o2 o3).objs.size _:=86 _;have g5:125 (Br `i o1 o2 o3) (CU `i o1 o2 o3).objs.size _:=17 (86 _);have g4:125 (Br `i o1 o2 o3) (((`bK).push o2).push o3).objs.size _:=17 (17<|86 _);have g3:125 (Br `i o1 o2 o3) ((`bK).push o2).objs.size o3:=17 (17<|17<|GD _ f3);have g2:125 (Br `i o1 o2 o3) (`bK).objs.size o2:=17 (17<|17<|17<|GD _ f2);have g1:125 (Br `i o1 o2 o3) `bk o1:=17 (17<|17<|17<|17<|GD _ f1);show _/\_;rw[z3,z4,z5]at g6;rw[z1,z2,z3]at g4;rw[z4]at g5;rw[z2]at g3;rw[z1]at g2;rw[z5];exact⟨8 g6 `a,q _ g6 g4 g5 g1 g2 g3 λc o x=>17<|17<|17<|17<|17<|17 x⟩
section
variable{P:GJ}{w:GW}{A:Hk}{E:`A}{s:Gx}{z TI TO i1 i2 i3:Addr}{fp1 fp2 fp3:`R}{n1 n2 n3 k:Nat}{P1 P2 P3:11 Nat Gu}{S1 S2 S3:11 Nat Heap}{a b c:Gu}
theorem cF{T:Addr}{a b c x:Gu}{k:Nat}{Q:68 Unit}(hT:cT `i T a b c)
  (h:∀h',h'.get? T=some {cls:=`bo,data:=.seq ((#[a,b,c]:`bp).setIfInBounds k x)}->GU T s.heap h'->Q () {s with heap:=h'}):
  102 P w A (updateSeq T (·.setIfInBounds k x)) Q E:=by
 refine wpAny_updateSeq hT rfl<|h _ ?_<|Ik ..;rw[HP _ hT `a];simp[Kb]
structure ZApart3(z TI TO i1 i2 i3:Addr)(fp1 fp2 fp3:`R):Prop where
 c1:TI≠z
 c2:TO≠z
 c3:i1≠z
 c4:i2≠z
 c4':i3≠z
 c5:TI≠TO
 c6:TI≠i1
 c7:TI≠i2
 c7':TI≠i3
 c8:TO≠i1
 c9:TO≠i2
 c9':TO≠i3
 d1:z∉fp1/\TO∉fp1/\i2∉fp1/\i3∉fp1
 d2:z∉fp2/\TO∉fp2/\i1∉fp2/\i3∉fp2
 d3:z∉fp3/\TO∉fp3/\i1∉fp3/\i2∉fp3
theorem uI{Q:68 `M}(D1:Draws P w A.in1 i1 fp1 n1 P1 S1)(D2:Draws P w A.in1 i2 fp2 n2 P2 S2)(D3:Draws P w A.in1 i3 fp3 n3 P3 S3)(Z2:ZApart3 z TI TO i1 i2 i3 fp1 fp2 fp3)(h1:k<n1)(h2:k<n2)(h3:k<n3)(hz:Ki `i z TI TO .none)
  (hI:cT `i TI (.ref i1) (.ref i2) (.ref i3)) (hO:cT `i TO a b c) (t1:S1 k `i) (t2:S2 k `i) (t3:S3 k `i)
  (q:∀x y u h' tk T,P1 k x->P2 k y->P3 k u->T=s.heap.objs.size->Ki h' z TI TO (rawInt T)->cT h' TO x y u->S1 (k+1) h'->S2 (k+1) h'->S3 (k+1) h'->cT h' T x y u->
   (∀c o,20 (c≠z) (c≠TO) (c≠i1) (c≠i2)<|c≠i3->22 c o->66 c o)->Q (24 T) {s with heap:=h',toks:=tk}):
  102 P w A (pyNext `aU) Q E:=by
 have hT:s.TypeIs `aU "zip":=8 hz `a
 unfold pyNext;refine Gn (IU<|Hu (name:=`bQ) hT Ih<|Hv Ih hT K1 ?_<|JR _);obtain⟨hp,gg,dd,tk0,os⟩:=s;show 60 P _ (field (`aU) 2>>=_) _ _ _;refine Gn (Hf hz `a (x:=.bool `K) `a ?_);show 60 P _ (field (`aU) 3>>=_) _ _ _;refine Gn (Hf hz `a (x:=.ref TI) `a<|Gn<|Hy hI `a ?_);show 60 P _ (Hn (`aU)>>=_) _ _ _;refine `aN;unfold Hn;refine Gn (Hf hz `a (x:=.none) `a `B);simp only[if_true];refine Gn (J7<|Gn<|Hf hz `a (x:=.ref TO) `a<|Gn<|138 hz λg1 y1 b1=>?_);replace y1:139 g1 z TI TO:=y1;replace b1:GU z hp g1:=b1;refine `aN;simp only[Kt,Lr,KJ,L8];refine Gn (Gn<|Jk ?_);show 60 P _ (GX (.ref i1)>>=_) _ _ _;refine Gn (D1.item k _ _ _ h1 (aD D1 t1 b1 Z2.d1.1) λx g2 tk2 px u1 b2=>`B);replace b2:GU i1 g1 g2:=b2;have O2:cT g2 TO a b c:=b2.extBut _ _ Z2.c8 (b1.extBut _ _ Z2.c2 hO);refine Gn (Hy O2 `a<|Gn<|cF O2 λg3 O3 b3=>?_);replace O3:cT g3 TO x b c:=O3;replace b3:GU TO g2 g3:=b3;refine Gn (Ky<|Gv<|Gn<|Gn<|Jk ?_);show 60 P _ (GX (.ref i2)>>=_) _ _ _;refine Gn (D2.item k _ _ _ h2 (aD D2 (aD D2 (aD D2 t2 b1 Z2.d2.1) b2 Z2.d2.2.2.1) b3 Z2.d2.2.1) λy g4 tk4 py u2 b4=>`B);replace b4:GU i2 g3 g4:=b4;have O4:cT g4 TO x b c:=b4.extBut _ _ Z2.c9 O3;refine Gn (Hy O4 `a<|Gn<|cF O4 λg5 O5 b5=>?_);replace O5:cT g5 TO x y c:=O5;replace b5:GU TO g4 g5:=b5;refine Gn (Ky<|Gv<|Gn<|Gn<|Jk ?_);show 60 P _ (GX (.ref i3)>>=_) _ _ _;refine Gn (D3.item k _ _ _ h3 (aD D3 (aD D3 (aD D3 (aD D3 (aD D3 t3 b1 Z2.d3.1) b2 Z2.d3.2.2.1) b3 Z2.d3.2.1) b4 Z2.d3.2.2.2) b5 Z2.d3.2.1) λu g6 tk6 pu u3 b6=>`B);replace b6:GU i3 g5 g6:=b6;have O6:cT g6 TO x y c:=b6.extBut _ _ Z2.c9' O5;refine Gn (Hy O6 `a<|Gn<|cF O6 λg7 O7 b7=>?_);replace O7:cT g7 TO x y u:=O7;replace b7:GU TO g6 g7:=b7;refine Gn (Ky<|Gv<|Gv<|Gn<|Hy O7 `a<|Gn<|Od ?_);have sz:g7.objs.size=hp.objs.size:=by rw[b7.1,b6.1,b5.1,b4.1,b3.1,b2.1,b1.1]
 have y7:139 g7 z TI TO:=b7.extBut _ _ Z2.c2.symm (b6.extBut _ _ Z2.c4'.symm<|b5.extBut _ _ Z2.c2.symm<|b4.extBut _ _ Z2.c4.symm<|132 _ Z2.c2.symm<|b2.extBut _ _ Z2.c3.symm y1);have k7:∀c o,20 (c≠z) (c≠TO) (c≠i1) (c≠i2) (c≠i3->0 (hp.get? c) o->0 (g7.get? c) o):=λc o e1 e2 e3 e4 e5 e=>b7.extBut _ _ e2 (b6.extBut _ _ e5<|b5.extBut _ _ e2<|b4.extBut _ _ e4<|132 _ e2<|b2.extBut _ _ e3<|b1.extBut _ _ e1 e);have v1:S1 (k+1) g7:=aD D1 (aD D1 (aD D1 (aD D1 (aD D1 u1 b3 Z2.d1.2.1) b4 Z2.d1.2.2.1) b5 Z2.d1.2.1) b6 Z2.d1.2.2.2) b7 Z2.d1.2.1;have v2:S2 (k+1) g7:=aD D2 (aD D2 (aD D2 u2 b5 Z2.d2.2.1) b6 Z2.d2.2.2.2) b7 Z2.d2.2.1;have v3:S3 (k+1) g7:=aD D3 u3 b7 Z2.d3.2.1;have lz:z<g7.objs.size:=GG y7;show 60 P _ (Je (`aU) (.ref g7.objs.size)>>=_) _ _ _;refine `aN;unfold Je;have y8:139 (g7.push {cls:=`bo,data:=.seq #[x,y,u]}) z TI TO:=17 y7;refine Gn (138 y8 λg9 y9 b9=>?_);replace y9:Ki g9 z TI TO (rawInt g7.objs.size):=y9;replace b9:GU z (g7.push {cls:=`bo,data:=.seq #[x,y,u]}) g9:=b9;refine 138 y9 λa0 a2 a1=>?_;replace a2:Ki a0 z TI TO (rawInt g7.objs.size):=a2;replace a1:GU z g9 a0:=a1;have up:∀c o,c≠z->0 (g7.get? c) o->0 (a0.get? c) o:=λc o e1 e=>a1.extBut _ _ e1 (b9.extBut _ _ e1<|17 e);have T8:cT a0 g7.objs.size x y u:=a1.extBut _ _ (JY lz) (b9.extBut _ _ (JY lz)<|86 _);refine Gv (8 `a<|Gv<|q x y u a0 _ g7.objs.size px py pu sz a2 (up _ _ Z2.c2 O7) (D1.frame _ _ _ v1 λb hb o e=>up b o (λq=>Z2.d1.1<|q▸hb) e) (D2.frame _ _ _ v2 λb hb o e=>up b o (λq=>Z2.d2.1<|q▸hb) e) (D3.frame _ _ _ v3 λb hb o e=>up b o (λq=>Z2.d3.1<|q▸hb) e) T8 λc o e1 e2 e3 e4 e5 e=>up c o e1<|k7 c o e1 e2 e3 e4 e5 e)
theorem wx{Q:68 `M}(hh:7 A.handled)(D1:Draws P w A.in1 i1 fp1 n1 P1 S1)(D2:Draws P w A.in1 i2 fp2 n2 P2 S2)(D3:Draws P w A.in1 i3 fp3 n3 P3 S3)(Z2:ZApart3 z TI TO i1 i2 i3 fp1 fp2 fp3)(hk:k=n1\/k<n1/\k=n2\/k<n1/\k<n2/\k=n3)(hz:Ki `i z TI TO .none)
  (hI:cT `i TI (.ref i1) (.ref i2) (.ref i3)) (hO:cT `i TO a b c) (t1:S1 k `i) (t2:S2 k `i) (t3:S3 k `i)
  (q:∀h' tk,(∀c o,20 (c≠z) (c≠TO) (c≠i1) (c≠i2)<|c≠i3->22 c o->66 c o)->Q none {s with heap:=h',toks:=tk}):
  102 P w A (pyNext `aU) Q E:=by
 have hT:s.TypeIs `aU "zip":=8 hz `a
 unfold pyNext;refine Gn (IU<|Hu (name:=`bQ) hT Ih<|Hv Ih hT K1 ?_<|JR _);obtain⟨hp,gg,dd,tk0,os⟩:=s;show 60 P _ (field (`aU) 2>>=_) _ _ _;refine Gn (Hf hz `a (x:=.bool `K) `a ?_);show 60 P _ (field (`aU) 3>>=_) _ _ _;refine Gn (Hf hz `a (x:=.ref TI) `a<|Gn<|Hy hI `a ?_);show 60 P _ (Hn (`aU)>>=_) _ _ _;refine `aN;unfold Hn;refine Gn (Hf hz `a (x:=.none) `a `B);simp only[if_true];refine Gn (J7<|Gn<|Hf hz `a (x:=.ref TO) `a<|Gn<|138 hz λg1 y1 b1=>?_);replace y1:139 g1 z TI TO:=y1;replace b1:GU z hp g1:=b1;refine `aN;simp only[Kt,Lr,KJ,L8];refine Gn (Gn<|Jk ?_);show 60 P _ (GX (.ref i1)>>=_) _ _ _;rcases hk with hk|hk
 ·subst hk;refine Gn (D1.done _ _ _ (aD D1 t1 b1 Z2.d1.1) λg2 e b2 he=>?_);obtain⟨oe,hoe,hce⟩:=he;replace b2:Jg i1 g1 g2:=b2;have y2:139 g2 z TI TO:=b2 _ _ Z2.c3.symm y1;have ez:e≠z:=λx=>by subst x;rw[y2]at hoe;cases hoe;simp at hce
  refine 138 y2 λg3 _ b3=>?_;exact Gn (IG (T:=`bD) (b:=true) ⟨oe,132 _ ez hoe,hce⟩ Jl<|Gv<|q g3 _ λc o e1 _ e3 _ _ x=>132 _ e1<|b2 _ _ e3<|b1.extBut _ _ e1 x)
 ·have hk1:k<n1:=by rcases hk with z | z <;> exact z.1
  refine Gn (D1.item k _ _ _ hk1 (aD D1 t1 b1 Z2.d1.1) λx g2 tk2 px u1 b2=>`B);replace b2:GU i1 g1 g2:=b2;have O2:cT g2 TO a b c:=b2.extBut _ _ Z2.c8 (b1.extBut _ _ Z2.c2 hO);refine Gn (Hy O2 `a<|Gn<|cF O2 λg3 O3 b3=>?_);replace b3:GU TO g2 g3:=b3;replace O3:cT g3 TO x b c:=O3;refine Gn (Ky<|Gv<|Gn<|Gn<|Jk ?_);show 60 P _ (GX (.ref i2)>>=_) _ _ _;rcases hk with⟨_,hk2⟩|⟨_,hk2,hk3⟩
  ·subst hk2;refine Gn (D2.done _ _ _ (aD D2 (aD D2 (aD D2 t2 b1 Z2.d2.1) b2 Z2.d2.2.2.1) b3 Z2.d2.2.1) λg4 e b4 he=>?_);obtain⟨oe,hoe,hce⟩:=he;replace b4:Jg i2 g3 g4:=b4;have y4:139 g4 z TI TO:=b4 _ _ Z2.c4.symm (132 _ Z2.c2.symm<|b2.extBut _ _ Z2.c3.symm y1);have ez:e≠z:=λx=>by subst x;rw[y4]at hoe;cases hoe;simp at hce
   refine 138 y4 λg5 _ b5=>?_;exact Gn (IG (T:=`bD) (b:=true) ⟨oe,b5.extBut _ _ ez hoe,hce⟩ Jl<|Gv<|q g5 _ λc o e1 e2 e3 e4 _ x=>b5.extBut _ _ e1<|b4 _ _ e4<|132 _ e2<|b2.extBut _ _ e3<|b1.extBut _ _ e1 x)
  ·subst hk3;refine Gn (D2.item k _ _ _ hk2 (aD D2 (aD D2 (aD D2 t2 b1 Z2.d2.1) b2 Z2.d2.2.2.1) b3 Z2.d2.2.1) λy g4 tk4 py u2 b4=>`B);replace b4:GU i2 g3 g4:=b4;have O4:cT g4 TO x b c:=b4.extBut _ _ Z2.c9 O3;refine Gn (Hy O4 `a<|Gn<|cF O4 λg5 O5 b5=>?_);replace b5:GU TO g4 g5:=b5;refine Gn (Ky<|Gv<|Gn<|Gn<|Jk ?_);show 60 P _ (GX (.ref i3)>>=_) _ _ _;refine Gn (D3.done _ _ _ (aD D3 (aD D3 (aD D3 (aD D3 (aD D3 t3 b1 Z2.d3.1) b2 Z2.d3.2.2.1) b3 Z2.d3.2.1) b4 Z2.d3.2.2.2) b5 Z2.d3.2.1) λg6 e b6 he=>?_);obtain⟨oe,hoe,hce⟩:=he;replace b6:Jg i3 g5 g6:=b6;have y6:139 g6 z TI TO:=b6 _ _ Z2.c4'.symm (b5.extBut _ _ Z2.c2.symm<|b4.extBut _ _ Z2.c4.symm<|132 _ Z2.c2.symm<|b2.extBut _ _ Z2.c3.symm y1);have ez:e≠z:=λx=>by subst x;rw[y6]at hoe;cases hoe;simp at hce
   refine 138 y6 λg7 _ b7=>?_;exact Gn (IG (T:=`bD) (b:=true) ⟨oe,b7.extBut _ _ ez hoe,hce⟩ Jl<|Gv<|q g7 _ λc o e1 e2 e3 e4 e5 x=>b7.extBut _ _ e1<|b6 _ _ e5<|b5.extBut _ _ e2<|b4.extBut _ _ e4<|132 _ e2<|b2.extBut _ _ e3<|b1.extBut _ _ e1 x)
end
def CW(K:Gr)(c1 c2 c3:Src):It:=
  ⟨λi H=>∃xs ys us x y u,c1.has K H xs/\c2.has K H ys/\c3.has K H us/\0 xs[i]? x/\0 ys[i]? y/\0 us[i]? u,λi H v H'=>∃p x y u,25 (H p) `j (v=`O) (∀xs,c1.has K H xs->0 xs[i]? x) (∀ys,c2.has K H ys->0 ys[i]? y)<|(∀us,c3.has K H us->0 us[i]? u)/\H'=dF H p (.tup [x,y,u]),λi H=>∃xs ys us,c1.has K H xs/\c2.has K H ys/\c3.has K H us/\(121 i\/i<`t/\i=ys.length\/i<`t/\i<ys.length/\i=us.length)⟩
def ET(c1 c2 c3:Src)(z TI TO i1 i2 i3:Addr)(i:Nat)(h:Heap):Prop:=Ki h z TI TO .none/\cT h TI (.ref i1) (.ref i2) (.ref i3)/\(∃a b c,cT h TO a b c)/\c1.at i1 i h/\c2.at i2 i h/\c3.at i3 i h
structure ZIds3(z TI TO i1 i2 i3:Addr):Prop where
 c1:TI≠z
 c2:TO≠z
 c3:i1≠z
 c4:i2≠z
 c4':i3≠z
 c5:TI≠TO
 c6:TI≠i1
 c7:TI≠i2
 c7':TI≠i3
 c8:TO≠i1
 c9:TO≠i2
 c9':TO≠i3
 c10:i1≠i2
 c11:i1≠i3
 c12:i2≠i3
theorem sP{X:Cx}{Z_:`N}{Z:St}{H:Hp}{s:Gx}{z TI TO i1 i2 i3:Addr}{fp1 fp2 fp3:`R}(I:`n)(Z2:ZIds3 z TI TO i1 i2 i3)(hf:∀b∈[z,TI,TO,i1,i2,i3],FpOk X Z_ H b)
  (g1:∀b∈fp1,b=i1\/H b≠`j\/∃o,136 b o) (g2:∀b∈fp2,b=i2\/H b≠`j\/∃o,136 b o) (g3:∀b∈fp3,b=i3\/H b≠`j\/∃o,136 b o):ZApart3 z TI TO i1 i2 i3 fp1 fp2 fp3:=by
 have no:∀b∈[z,TI,TO,i1,i2,i3],¬(H b≠`j\/∃o,136 b o):=λb hb q=>by
  rcases q with q|⟨o,q⟩
  ·exact q (hf b hb).1
  ·rcases (hf b hb).2.2.2.1 with y | y;·exact I.ok.noex b o q y
   ·exact 128 (GF (GG q) I.ok.bsz) y (HI _)
 refine⟨Z2.c1,Z2.c2,Z2.c3,Z2.c4,Z2.c4',Z2.c5,Z2.c6,Z2.c7,Z2.c7',Z2.c8,Z2.c9,Z2.c9',⟨λm=>?_,λm=>?_,λm=>?_,λm=>?_⟩,⟨λm=>?_,λm=>?_,λm=>?_,λm=>?_⟩,⟨λm=>?_,λm=>?_,λm=>?_,λm=>?_⟩⟩;·exact(g1 _ m).elim (λe=>Z2.c3 e.symm) (131 z)
 ·exact(g1 _ m).elim (λe=>Z2.c8 e) (131 TO)
 ·exact(g1 _ m).elim (λe=>Z2.c10 e.symm) (131 i2)
 ·exact(g1 _ m).elim (λe=>Z2.c11 e.symm) (131 i3)
 ·exact(g2 _ m).elim (λe=>Z2.c4 e.symm) (131 z)
 ·exact(g2 _ m).elim (λe=>Z2.c9 e) (131 TO)
 ·exact(g2 _ m).elim (λe=>Z2.c10 e) (131 i1)
 ·exact(g2 _ m).elim (λe=>Z2.c12 e.symm) (131 i3)
 ·exact(g3 _ m).elim (λe=>Z2.c4' e.symm) (131 z)
 ·exact(g3 _ m).elim (λe=>Z2.c9' e) (131 TO)
 ·exact(g3 _ m).elim (λe=>Z2.c11 e) (131 i1)
 ·exact(g3 _ m).elim (λe=>Z2.c12 e) (131 i2)
theorem uJ{P:GJ}{w:GW}{K:Gr}{elts:`af}{kk:Nat}{tp:Pos}(c1 c2 c3:Src)(z TI TO i1 i2 i3:Addr)(Z2:ZIds3 z TI TO i1 i2 i3):
  Turn P w K (.Tuple elts kk tp) (CW K c1 c2 c3) [z,TI,TO,i1,i2,i3] z (ET c1 c2 c3 z TI TO i1 i2 i3) where
 mem:=`g
 obj:=λi h st b hb=>by
  obtain⟨hz,hI,⟨a,b',c',hO⟩,t1,t2,t3⟩:=st;obtain⟨o1,e1,v1,d1⟩:=LA t1;obtain⟨o2,e2,v2,d2⟩:=LA t2;obtain⟨o3,e3,v3,d3⟩:=LA t3;simp only[GI,Hc,or_false]at hb;rcases hb with rfl|rfl|rfl|rfl|rfl|rfl;·exact 8 hz λv q=>by cases (show Mb _=KN v from q)
  ·exact 8 hI λv q=>by cases (show Oa _ _=KN v from q)
  ·exact 8 hO λv q=>by cases (show Oa _ _=KN v from q)
  ·exact 8 e1 λv q=>by rw[d1]at q;cases q
  ·exact 8 e2 λv q=>by rw[d2]at q;cases q
  ·exact 8 e3 λv q=>by rw[d3]at q;cases q
 keep:=λi h h' st k=>by
  obtain⟨hz,hI,⟨a,b',c',hO⟩,t1,t2,t3⟩:=st;exact⟨k z `g _ hz,k TI `g _ hI,⟨a,b',c',k TO `g _ hO⟩,Le t1<|k i1 `g,Le t2<|k i2 `g,Le t3<|k i3 `g⟩
 item:=by
  intro X hP hw hK hc i Z_ s Z H E I hf st hg;subst hP hw hK;obtain⟨xs,ys,us,x,y,u,hx,hy,hu,ex,ey,eu⟩:=hg;obtain⟨hz,hI,⟨a,b',c',hO⟩,t1,t2,t3⟩:=st;have hh:7 X.A.in1.handled:=`bu;obtain⟨fp1,P1,S1,D1,u1,r1,a1,_,g1⟩:=Nl (A:=X.A.in1) hh I hx t1 (110 i1).1;obtain⟨fp2,P2,S2,D2,u2,r2,a2,_,g2⟩:=Nl (A:=X.A.in1) hh I hy t2 (110 i2).1;obtain⟨fp3,P3,S3,D3,u3,r3,a3,_,g3⟩:=Nl (A:=X.A.in1) hh I hu t3 (110 i3).1;have ZA:=sP I Z2 hf g1 g2 g3;refine uI D1 D2 D3 ZA (GA.mp ex).1 (GA.mp ey).1 (GA.mp eu).1 hz hI hO u1 u2 u3 λvx vy vu h' tk T px py pu hT hz' hO' w1 w2 w3 hTp kp=>?_;obtain⟨x',ex',rx⟩:=r1 i vx px;obtain⟨y',ey',ry⟩:=r2 i vy py;obtain⟨u',eu',ru⟩:=r3 i vu pu;rw[ex]at ex';cases ex';rw[ey]at ey';cases ey';rw[eu]at eu';cases eu';have nT:41 T:=by rw[hT];exact I.hok.fresh `w
  refine 8 `a (Lk hz' λh2 hz2 sb=>?_);have lt:∀{c o},22 c o->c≠T:=λe=>by rw[hT];exact GY (GG e)
  have up:∀c o,c≠z->66 c o->0 (h2.get? c) o:=λc o hc e=>(sb.2 c hc).trans e;have kp2:∀b o,b∉[z,TO,i1,i2,i3]->22 b o->0 (h2.get? b) o:=λb o hb e=>by
   simp only[GI,Hc,or_false,not_or]at hb;exact up b o hb.1 (kp b o hb.1 hb.2.1 hb.2.2.1 hb.2.2.2.1 hb.2.2.2.2 e)
  have ch:∀b∈[z,TO,i1,i2,i3],b∈[z,TI,TO,i1,i2,i3]:=λb hb=>by
   simp only[GI,Hc,or_false]at hb ⊢;rcases hb with h|h|h|h|h<;>simp[h]
  have gv:∀b u,21 b u->b∉[z,TO,i1,i2,i3]/\b≠T:=λb u e=>⟨λhb=>(by rw[(81 b b hb).1]at e;cases e),λq=>(by rw[q,nT]at e;cases e)⟩
  have I2:Inv X Z_ Z (dF H T<|.tup [x,y,u]) {s with heap:=h2,gens:=s.gens,drawn:=s.drawn,toks:=tk}:=by
   refine I.step (g':=s.gens) (d':=s.drawn) (t':=tk) (ch:=[z,TO,i1,i2,i3]) (λb hb=>⟨(81 b b hb).2.2.2.1,(81 b b hb).2.1,(81 b b hb).2.2.2.2.1,(81 b b hb).2.2.2.2.2⟩) (λb o _ _ hb e _=>kp2 b o hb e) (λb o _ _ hb e _=>⟨o.slots,kp2 b o hb e⟩) (λb o hb e n=>by rw[aH (lt e)];exact n) (λb o hb e=>⟨o,kp2 b o hb e⟩) (λb xs e=>by rw[aH (gv b _ e).2];exact e) (λb o u e=>by rw[aH (gv b _ e).2];exact e) (λb ps e=>⟨#[],by rw[aH (gv b _ e).2,e];simp⟩) (λm hm=>?_) (λb u e=>?_) I.bare
   ·obtain⟨o,es,ep,ho,r⟩:=hm;exact⟨o,es,ep,kp2 _ o (λhb=>(81 _ _ hb).2.1 `a) ho,r⟩
   ·by_cases hb:b=T
    ·subst hb;rw[aS]at e;cases e;refine⟨(by show 69 3;rw[Iq];decide),[vx,vy,vu],.cons rx<|.cons ry<|.cons ru .nil,⟨_,up _ _ ?_ hTp,15 `a,_,`a⟩⟩;exact λq=>lt hz q.symm
    ·rw[aH hb]at e;refine(I.hok b u e).stay (λc v hc q=>kp2 c v ?_ q) (λc q=>by rw[aH (gv c _ q).2];exact q) λc xs q=>by rw[aH (gv c _ q).2];exact q
     rcases hc with q|q;·rw[q];exact(gv b u e).1
     ·exact(gv c _ q).1
  refine⟨.ref T,_,I2,`a,⟨T,x,y,u,nT,rfl,λxs' h=>by rw[S8 I h hx];exact ex,λys' h=>by rw[S8 I h hy];exact ey,λus' h=>by rw[S8 I h hu];exact eu,rfl⟩,⟨hz2,up _ _ Z2.c1<|kp _ _ Z2.c1 Z2.c5 Z2.c6 Z2.c7 Z2.c7' hI,⟨_,_,_,up _ _ Z2.c2 hO'⟩,Le (a1 _ _ w1) λo e=>up _ o Z2.c3 e,Le (a2 _ _ w2) λo e=>up _ o Z2.c4 e,Le (a3 _ _ w3) λo e=>up _ o Z2.c4' e⟩,`bm⟩;have hbT:b≠T:=by
   obtain⟨o,e⟩:∃o,22 b o:=by
    obtain⟨o1,e1,_⟩:=LA t1;obtain⟨o2,e2,_⟩:=LA t2;obtain⟨o3,e3,_⟩:=LA t3;simp only[GI,Hc,or_false]at hb;rcases hb with rfl|rfl|rfl|rfl|rfl|rfl;·exact 42 hz
    ·exact 42 hI
    ·exact 42 hO
    ·exact 42 e1
    ·exact 42 e2
    ·exact 42 e3
   exact lt e
  rw[aH hbT];exact(hf b hb).1
 done:=by
  intro X hP hw hK hc i Z_ s Z H E I hf st hg;subst hP hw hK;obtain⟨xs,ys,us,hx,hy,hu,hend⟩:=hg;obtain⟨hz,hI,⟨a,b',c',hO⟩,t1,t2,t3⟩:=st;have hh:7 X.A.in1.handled:=`bu;obtain⟨fp1,P1,S1,D1,u1,r1,a1,_,g1⟩:=Nl (A:=X.A.in1) hh I hx t1 (110 i1).1;obtain⟨fp2,P2,S2,D2,u2,r2,a2,_,g2⟩:=Nl (A:=X.A.in1) hh I hy t2 (110 i2).1;obtain⟨fp3,P3,S3,D3,u3,r3,a3,_,g3⟩:=Nl (A:=X.A.in1) hh I hu t3 (110 i3).1;have ZA:=sP I Z2 hf g1 g2 g3;have ch:∀b∈[z,TO,i1,i2,i3],b∈[z,TI,TO,i1,i2,i3]:=λb hb=>by
   simp only[GI,Hc,or_false]at hb ⊢;rcases hb with h|h|h|h|h<;>simp[h]
  refine wx hh D1 D2 D3 ZA hend hz hI hO u1 u2 u3 λh2 tk kp=>15 ?_
  have kp2:∀b o,b∉[z,TO,i1,i2,i3]->22 b o->0 (h2.get? b) o:=λb o hb e=>by
   simp only[GI,Hc,or_false,not_or]at hb;exact kp b o hb.1 hb.2.1 hb.2.2.1 hb.2.2.2.1 hb.2.2.2.2 e
  refine I.step (g':=s.gens) (d':=s.drawn) (t':=tk) (ch:=[z,TO,i1,i2,i3]) (λb hb=>⟨(81 b b hb).2.2.2.1,(81 b b hb).2.1,(81 b b hb).2.2.2.2.1,(81 b b hb).2.2.2.2.2⟩) (λb o _ _ hb e _=>kp2 b o hb e) (λb o _ _ hb e _=>⟨o.slots,kp2 b o hb e⟩) (λb o hb e n=>n) (λb o hb e=>⟨o,kp2 b o hb e⟩) (λb xs e=>e) (λb o u e=>e) (λb ps e=>⟨#[],by rw[e];simp⟩) (λm hm=>?_) (λb u e=>?_) I.bare
  ·obtain⟨o,es,ep,ho,r⟩:=hm;exact⟨o,es,ep,kp2 _ o (λhb=>(81 _ _ hb).2.1 `a) ho,r⟩
  ·have gv:∀b u,21 b u->b∉[z,TO,i1,i2,i3]:=λb u e hb=>by rw[(81 b b hb).1]at e;cases e
   refine(I.hok b u e).stay (λc v hc q=>kp2 c v ?_ q) (λc q=>q) λc xs q=>q;rcases hc with q|q
   ·rw[q];exact gv b u e
   ·exact gv c _ q
 self:=λ_ _ _ _ _ st h=>Li st.1 h
theorem CY{x y z:V}{us:`aq}(r:99 [x,y,z]):∃u v w',2 us [u,v,w'] (78 x) (RelV y v/\RelV z w'):=by
 cases r with
 |cons h1 r=>cases r with
  |cons h2 r=>cases r with
   |cons h3 r=>cases r;exact⟨_,_,_,`a,h1,h2,h3⟩
def AL(K:Gr)(t:TA):TI:=λZ H R=>t Z H λvs H1=>∃c1 c2 c3 xs ys us,25 vs [c1.val,c2.val,c3.val] (c1.has K H1 xs) (c2.has K H1 ys) (c3.has K H1 us) (R (CW K c1 c2 c3) H1)
theorem ze{X:Cx}{K:Gr}(hK:X.K=K){a b c:Expr}{ta:TA}{p pos tp:Pos}{elts:`af}{kk:Nat}(hg:Gl X "zip")(hm:7 (X.mg "zip"))(ha:PA X [a,b,c] ta)
  (hs:67 [a,b,c]=[(false,30 a),(false,30 b),(false,30 c)]:=by rfl) (hs2:67 [b,c]=[(false,30 b),(false,30 c)]:=by rfl):PI X (.Tuple elts kk tp) (123 "zip" p [a,b,c] [] pos) (AL K ta):=by
 subst hK;intro Z_ s Z H R I h;refine QW (gD I hg hm RC (Ie (159 (ha pos Z_ s Z H _ I h) ?_) (by rw[hs,hs2]) (by rw[hs2];rfl)));obtain⟨c1,c2,c3,xs,ys,zs,e,h1,h2,h3,q⟩:=q1;subst e;obtain⟨v1,v2,v3,rfl,ra,rb,rc⟩:=CY r1;obtain⟨o1,i1,f1,n1⟩:=Ph I1 h1 ra λ_ _ e=>e;obtain⟨o2,i2,f2,n2⟩:=Ph (h:=s1.heap.push o1) I1 h2 rb λ_ _ e=>17 e;obtain⟨o3,i3,f3,n3⟩:=Ph (h:=(s1.heap.push o1).push o2) I1 h3 rc λ_ _ e=>17 (17 e);have z1:(s1.heap.push o1).objs.size=117 1:=HQ ..;have z2:((s1.heap.push o1).push o2).objs.size=117 2:=by rw[HQ,z1]
 rw[z1]at n2;rw[z2]at n3;refine uH i1 i2 i3 f1 f2 f3 λh' hz hI hO e1 e2 e3 kp=>?_;refine Li hz ?_;have zi:∀n:Nat,ZIds3 (n+5) (n+3) (n+4) n (n+1) (n+2):=λn=>⟨ig n 3 5 ⋯,ig n 4 5 ⋯,ig n 0 5 ⋯,ig n 1 5 ⋯,ig n 2 5 ⋯,ig n 3 4 ⋯,ig n 3 0 ⋯,ig n 3 1 ⋯,ig n 3 2 ⋯,ig n 4 0 ⋯,ig n 4 1 ⋯,ig n 4 2 ⋯,ig n 0 1 ⋯,ig n 0 2 ⋯,ig n 1 2 ⋯⟩
 refine⟨117 5,[117 5,117 3,117 4,s1.heap.objs.size,117 1,117 2],_,_,H1,`a,I1.kept (t':=s1.toks) kp,uJ c1 c2 c3 _ _ _ _ _ _<|zi `ba,⟨hz,hI,⟨_,_,_,hO⟩,n1 h' e1,n2 h' e2,n3 h' e3⟩,`bm,q⟩;have hb':`ba<=b:=by
  simp only[GI,Hc,or_false]at hb;rcases hb with z|z|z|z|z|z<;>rw[z]
  ·exact HU _ 5
  ·exact HU _ 3
  ·exact HU _ 4
  ·exact `w
  ·exact HU _ 1
  ·exact HU _ 2
 exact 155 hb' hb'
end L2
namespace Mi
inductive Res(S:Type) where
 |ok (a:S)|err (j:Nat)|stuck
namespace Res
variable{S β:Type}
def Ok(m:`as)(P:49 S):Prop:=match m with| .ok a=>P a|_=>False
def bind(m:`as)(f:S->`aL):`aL:=match m with| .ok a=>f a| .err j=>.err j| .stuck=>.stuck
theorem bind_ok{m:`as}{f:S->`aL}{P:49 β}(h:m.Ok λa=>(f a).Ok P):(m.bind f).Ok P:=by cases m<;>exact h
theorem Ok.imp{m:`as}{P Q:49 S}(h:m.Ok P)(k:∀a,P a->Q a):m.Ok Q:=by cases m<;>first|exact k _ h|exact h
theorem Ok.ex{m:`as}{P:49 S}(h:m.Ok P):∃a,m=.ok a/\P a:=by
 cases m with
 |ok a=>exact 32 a h
 |err j=>exact h.elim
 |stuck=>exact h.elim
def OkE(m:`as)(Er:`av)(P:49 S):Prop:=match m with| .ok a=>P a| .err j=>Er j| .stuck=>False
theorem okE_bind{m:`as}{f:S->`aL}{Er:`av}{P:49 β}(h:44 (m.bind f) P):m.OkE Er λa=>44 (f a) P:=by cases m<;>exact h
theorem OkE.imp{m:`as}{Er:`av}{P Q:49 S}(h:m.OkE Er P)(k:∀a,P a->Q a):m.OkE Er Q:=by cases m<;>first|exact k _ h|exact h
theorem Ok.e{m:`as}{Er:`av}{P:49 S}(h:m.Ok P):m.OkE Er P:=by
 cases m with
 |ok a=>exact h
 |err j=>exact h.elim
 |stuck=>exact h.elim
def tryR(m:`as):Res (S⊕Nat):=match m with| .ok a=>.ok (.inl a)| .err j=>.ok (.inr j)| .stuck=>.stuck
theorem tryR_OkE{m:`as}{Er:`av}{P:49 (S⊕Nat)}(h:44 (tryR m) P):m.OkE (λj=>P<|.inr j) λa=>P (.inl a):=by cases m<;>exact h
@[simp] theorem bind_ok'(a:S)(f:S->`aL):(Res.ok a).bind f=f a:=rfl
end Res
abbrev cap:Nat:=100000
def fH(b:Prop)[Decidable b]{S:Type}(a:S):`as:=if b then .ok a else .stuck
theorem bZ{b:Prop}[Decidable b]{S:Type}{a:S}(h:b):fH b a=.ok a:=Z3 h
theorem bE{b:Prop}[Decidable b]{S:Type}{a:S}{Er:`av}{P:49 S}(h:44 (fH b a) P):b/\P a:=by
 unfold fH at h;by_cases hb:b;·rw[Z3 hb]at h;exact⟨hb,h⟩
 ·rw[Z4 hb]at h;exact h.elim
def rn{S:Type}:Option S->`as
 |some a=>.ok a
 |none=>.stuck
theorem fI{S:Type}{o:Option S}{Er:`av}{P:49 S}(h:44 (rn o) P):∃a,0 o a/\P a:=by
 cases o with
 |none=>exact h.elim
 |some a=>exact 32 a h
abbrev Tx:=`br
def fv(i:Int):Int:=if i<0 then -i else i
def lD(i j:Int):`H:=fH ((-(2^64)<i/\i<2^64)\/(-(2^64)<j/\j<2^64)) (i*j)
def lE(i j:Int):`H:=fH (0<j/\j<1073741824)<|i/j
def j7(i j:Int):`H:=fH (0<j)<|i%j
def ixN(n:Nat)(i:Int):`ae:=if 0<=i then(if i<n then some i.toNat else none)else if -(n:Int)<=i then some (i+n).toNat else none
def uK{S:Type}(xs:`z)(i:Int):Option S:=(ixN `t i).bind λj=>xs[j]?
theorem sQ{S:Type}{xs:`z}{j:Nat}{v:S}(h:0 xs[j]? v):0 (uK xs (j:Int)) v:=by
 have hl:j<`t:=(GA.mp h).1;unfold uK ixN;rw[Z3 `b,Z3 `b,Ia];exact h
theorem wy{S:Type}{xs:`z}{i:Int}(h0:0<=i)(h1:i<`t):∃h:i.toNat<xs.length,0 (uK xs i) xs[i.toNat]:=by
 have h2:i.toNat<`t:=`b
 refine⟨h2,?_⟩;have:=sQ (xs:=xs) (j:=i.toNat) (v:=xs[i.toNat]) (by simp[h2]);rw[Mq h0]at this;exact this
def gr{S:Type}(xs:`z)(i:Int):`as:=rn (uK xs i)
def gw(x:Tx)(i:Int):`I:=(fH (`V<=cap) x).bind λx=>(rn<|uK x i).bind λc=>.ok [c]
def dO(a b:Tx):`I:=fH (a.length+b.length<=cap) (a++b)
def EU{S:Type}(a b:`z):`aF:=fH (a.length+b.length<=cap) (a++b)
def jx{S:Type}(a:`z)(x:S):`aF:=fH (a.length<cap) (a++[x])
def Bs(a:Tx)(n:Int):`I:=match a with
 | [c]=>fH (0<=n/\n<=cap) (Ju n.toNat c)
 |_=>.stuck
def pR(x:Tx):`H:=fH (`V<=cap) (x.length:Int)
def sIx(n d:Nat):`aH->Nat
 |none=>d
 |some v=>if v<0 then(v+(n:Int)).toNat else min v.toNat n
def cut{S:Type}(l:`z)(lo hi:`aH):`z:=(l.drop<|sIx `ag 0 lo).take (sIx `ag `ag hi-sIx `ag 0 lo)
def fJ(x:Tx)(lo hi:`aH):`I:=fH (`V<=cap) (cut x lo hi)
def lF{S:Type}(xs:`z)(i:Int)(x:S):`aF:=(rn<|ixN `t i).bind λj=>.ok (xs.set j x)
def wz(x:Tx)(c:Nat):`ae:=x.findIdx? (· ==c)
def j9(x y:Tx):`H:=match y with
 | [c]=>(rn<|wz x c).bind λj=>.ok (j:Int)
 |_=>.stuck
def pS(xs:List Tx):`I:=fH (xs.flatten.length<=cap) xs.flatten
def look{κ S:Type}[DecidableEq κ](kvs:6 κ S)(k:κ):Option S:=(kvs.find? λp=>decide<|p.1=k).map (·.2)
def getD{κ S:Type}[DecidableEq κ](kvs:6 κ S)(k:κ):`as:=rn (look kvs k)
def kO{S β:Type}(f:S->`aL):`z->75 β
 | []=>.ok []
 |a::r=>(f a).bind λb=>(kO f r).bind λbs=>.ok (b::bs)
def fw{S β:Type}(xs:`z)(f:S->`aL):75 β:=(fH (`t<=cap) xs).bind λxs=>kO f xs
def jy{S β:Type}(f:S->Res (Option β)):`z->75 β
 | []=>.ok []
 |a::r=>(f a).bind λb=>(jy f r).bind λbs=>.ok (match b with|some b=>b::bs|none=>bs)
def lG{S β:Type}(xs:`z)(f:S->Res (Option β)):75 β:=(fH (`t<=cap) xs).bind λxs=>jy f xs
def cK{S Z1:Type}(f:64 S Z1 Z1):64 `z Z1 Z1
 | [],s=>.ok s
 |a::r,s=>(f a s).bind λs=>cK f r s
inductive Fl(γ Z1:Type) where
 |nx (s:Z1)|bk (s:Z1)|rt (r:γ)
def wA{Z1 γ:Type}(k:Z1->Res (Fl γ Z1)):Fl γ Z1->Res (Fl γ Z1)
 | .nx s=>k s
 | .bk s=>.ok (.nx s)
 | .rt x=>.ok (.rt x)
def eJ{S Z1 γ:Type}(f:64 S Z1 (Fl γ Z1)):64 `z Z1 (Fl γ Z1)
 | [],s=>.ok (.nx s)
 |a::r,s=>(f a s).bind (wA<|eJ f r)
def gG(n:Int):`P:=(Iw n.toNat).map λ(i:Nat)=>(i:Int)
def iy(n:Int):`aY:=fH (-(2^62)<=n/\n<2^62) (gG n)
def iz{S:Type}(xs:`z):6 `c S:=(Iw `t).zipWith (λ(i:Nat)x=>((i:Int),x)) xs
def bG(x:Tx):List Tx:=x.map λc=>[c]
def jn(xs:`P):`P:=xs.mergeSort λa b=>decide<|a<=b
theorem iA(xs:`P):(jn xs).Perm xs:=Oq _ _
theorem nz(xs:`P):(jn xs).Pairwise (· <= ·):=by
 have:=Nf (le:=λa b:Int=>decide<|a<=b) (λa b c h1 h2=>by simp at *;omega) (λa b=>by simp;omega) xs;exact this.imp λh=>`bL
theorem uL{xs ys:`P}(h:ys.Perm xs)(hs:ys.Pairwise (· <= ·)):ys=jn xs:=
 N7 (le:=(· <= ·)) (λa b _ _ h1 h2=>`b) hs (nz xs) (h.trans (iA xs).symm)
def sR(xs:`P):`aY:=fH (`t<64) (jn xs)
def Fm(x y:Tx):`x:=match x with
 | [c]=>.ok (y.contains c)
 |_=>.stuck
def CZ{S:Type}[DecidableEq S](a b:S):`x:=if a=b then .ok `o else .stuck
def Bt{S:Type}:`z->Res (S×S×S)
 | [a,b,c]=>.ok (a,b,c)
 |_=>.stuck
theorem sS{S β:Type}{f:S->`aL}{g:S->β}:∀{xs:List S},(∀x∈xs,f x=.ok (g x))->kO f xs=.ok (xs.map g)
 | [],_=>rfl
 |a::r,h=>by
  unfold kO;rw[h a<|GO ..,Res.bind_ok',sS λx hx=>h x (GS _ hx)];rfl
theorem gb{S β:Type}{f:S->`aL}{g:S->β}{xs:`z}(hl:`t<=cap)(h:∀x∈xs,f x=.ok (g x)):fw xs f=.ok (xs.map g):=by
 unfold fw;rw[bZ hl,Res.bind_ok',sS h]
end Mi
open Mi.Res renaming okE_bind->Gp,bind_ok'->Gq,ok->Gw,stuck->LD,tryR->Qf,tryR_OkE->Rl,bind->RG,err->S9
open Mi.Res.Ok renaming imp->Iz
open Mi.Res.OkE renaming imp->Hi
namespace Wb
open PySem L2 Mi
variable{Er:`av}
structure Wd where
 G:Hp
 H:Hp
 ok:Same G H
structure Ext(W W':Wd):Prop where
 g:93 W'.G
 h:Same W.H W'.H
 k:∀p,W.H p≠`j->W'.G p=W.G p
theorem Ext.refl(W:Wd):50 W:=⟨`s,`s,`ah⟩
theorem Ext.trans{W W1 W2:Wd}(a:50 W1)(b:Ext W1 W2):50 W2:=⟨a.g.trans b.g,a.h.trans b.h,λp hp=>by
 obtain⟨o,ho⟩:=MC.mp hp;rw[b.k p (by rw[a.h p o ho];exact λz=>nomatch z),a.k p hp]⟩
theorem Same.upd2{G H:Hp}(h:Same G H)(p:Addr)(o:HO):Same (dF G p o) (dF H p o):=λa u e=>by
 by_cases z:a=p;·subst z;rw[aS]at e ⊢;exact e
 ·rw[aH z]at e ⊢;exact h _ _ e
def Wd.new(W:Wd)(p:Addr)(o:HO):Wd:=⟨dF W.G p o,dF W.H p o,Same.upd2 W.ok p o⟩
theorem Wd.gnone(W:Wd){p:Addr}(h:7 (W.H p)):7 (W.G p):=bJ W.ok h
theorem Ext.new{W:Wd}{p:Addr}(o:HO)(h:7 (W.H p)):50 (W.new p o):=⟨dq (W.gnone h),dq h,λq hq=>aH λz=>hq<|z▸h⟩
def Wd.mut(W:Wd)(p:Addr)(o:HO)(h:7 (W.G p)):Wd:=⟨W.G,dF W.H p o,uG W.ok h⟩
theorem Ext.own{W:Wd}{p:Addr}(o:HO)(h:7 (W.H p)):50 (W.mut p o<|W.gnone h):=⟨`s,dq h,`ah⟩
def Wd.frz(W:Wd)(p:Addr)(o:HO)(h:0 (W.H p) o):Wd:=⟨dF W.G p o,W.H,λa u e=>by
 by_cases z:a=p;·subst z;rw[aS]at e;cases e;exact h
 ·rw[aH z]at e;exact W.ok _ _ e⟩
theorem Ext.mut{W0 W:Wd}{p:Addr}{o:HO}(e:39 W)(hp:7 (W0.H p))(h:7 (W.G p)):39 (W.mut p o h):=
 ⟨e.g,λa u z=>by show dF W.H p o a=_;rw[aH (df z hp)];exact e.h _ _ z,e.k⟩
theorem Ext.frz{W0 W:Wd}{p:Addr}{o:HO}(e:39 W)(hp:7 (W0.H p))(h:0 (W.H p) o)(hg:7 (W.G p)):39 (W.frz p o h):=
 ⟨e.g.trans<|dq hg,e.h,λq hq=>by show dF W.G p o q=_;rw[aH (λz=>hq (by rw[z];exact hp))];exact e.k q hq⟩
abbrev Rw(S:Type):=82 Wd S V
class MonoW{S:Type}(R:Rw S):Prop where
 mono:∀{W W':Wd}{a:S}{v:V},50 W'->R W a v->R W' a v
def sh{S:Type}(R:`l):Rw S:=λW a v=>R W.G a v
instance zkeep8{S:Type}{R:`l}[`aJ]:MonoW (sh R):=⟨λe h=>Gm (R:=R) e.g h⟩
def pk{S:Type}(R:`l):Rw `z:=λW xs v=>∃p vs,2 v `O (0 (W.H p)<|.lst vs) (LR R W.G xs vs)
instance zkeep9{S:Type}{R:`l}[`aJ]:MonoW (pk R):=⟨λe⟨p,vs,a,b,c⟩=>⟨p,vs,a,e.h _ _ b,c.same e.g⟩⟩
theorem pk.of{S:Type}{R:`l}{W:Wd}{xs:`z}{v:V}(h:isL R W.G xs v):pk R W xs v:=by
 obtain⟨p,vs,a,b,c⟩:=h;exact⟨p,vs,a,W.ok _ _ b,c⟩
structure Ow{S:Type}(R:`l)(W:Wd)(p:Addr)(xs:`z):Prop where
 g:7 (W.G p)
 h:∃vs,0 (W.H p) (.lst vs)/\LR R W.G xs vs
theorem Ow.mono{S:Type}{R:`l}[`aJ]{W W':Wd}{p:Addr}{xs:`z}(o:Ow R W p xs)(e:50 W'):Ow R W' p xs:=by
 obtain⟨vs,a,b⟩:=o.h;exact⟨by rw[e.k p (by rw[a];exact λz=>nomatch z)];exact o.g,vs,e.h _ _ a,b.same e.g⟩
theorem Ow.pk{S:Type}{R:`l}{W:Wd}{p:Addr}{xs:`z}(o:Ow R W p xs):pk R W xs `O:=by
 obtain⟨vs,a,b⟩:=o.h;exact⟨p,vs,`a,a,b⟩
theorem Ow.frz{S:Type}{R:`l}[`aJ]{W0 W:Wd}{p:Addr}{xs:`z}(o:Ow R W p xs)(e:39 W)(hp:7 (W0.H p)):
  ∃W',25 W'.H W.H (39 W') (93 W'.G) (isL R W'.G xs `O) (∀q,q≠p->W'.G q=W.G q):=by
 obtain⟨vs,a,b⟩:=o.h;exact⟨W.frz p _ a,`a,e.frz hp a o.g,dq o.g,⟨p,vs,`a,aS,b.same<|dq o.g⟩,λq hq=>aH hq⟩
theorem Ow.keep{S:Type}{R:`l}[`aJ]{W W':Wd}{q:Addr}{xs:`z}(o:Ow R W q xs)(hH:W'.H q=W.H q)(hs:93 W'.G)(hg:W'.G q=W.G q):Ow R W' q xs:=by
 obtain⟨vs,a,b⟩:=o.h;exact⟨by rw[hg];exact o.g,vs,by rw[hH];exact a,b.same hs⟩
def EV(Er:`av){S:Type}(t:TE)(Z:St)(W:Wd)(R:Rw S)(m:`as):Prop:=∀W1,50 W1->∀Q:VK,(m.OkE Er λa=>∀v W2,Ext W1 W2->R W2 a v->Q v W2.H)->t Z W1.H Q
def EVo(Er:`av){S:Type}(t:TE)(Z:St)(W:Wd)(R:`l)(m:`aF):Prop:=∀W1,50 W1->∀Q:VK,(m.OkE Er λxs=>∀p W2,Ext W1 W2->7 (W1.H p)->Ow R W2 p xs->Q `O W2.H)->t Z W1.H Q
def TV(Er:`av)(t:TT)(Z:St)(W:Wd)(m:`x):Prop:=∀W1,50 W1->∀Q:Bool->Hp->Prop,(m.OkE Er λb=>∀W2,Ext W1 W2->Q b W2.H)->t Z W1.H Q
section
variable{S β γ:Type}{t ta tb:TE}{Z:St}{W W0 W':Wd}{K:Gr}
theorem EV.imp{R R':Rw S}{m:`as}(h:EV Er t Z W R m)(f:∀W a v,R W a v->R' W a v):EV Er t Z W R' m:=134 W1 e1 Q (k.imp λa ka v W2 e2 r=>ka v W2 e2<|f _ _ _ r)
theorem EVo.ev{R:`l}[`aJ]{m:`aF}(h:EVo Er t Z W R m):5 t (isL R) m:=134 W1 e1 Q (k.imp λxs kx p W2 e2 hp o=>by
 obtain⟨W3,hH,e3,_,r,_⟩:=o.frz e2 hp;rw[<-hH];exact kx `O W3 e3 r)
theorem EVo.pk{R:`l}[`aJ]{m:`aF}(h:EVo Er t Z W R m):EV Er t Z W (pk R) m:=134 W1 e1 Q (k.imp λxs kx p W2 e2 hp o=>kx `O W2 e2 o.pk)
theorem EV.pk{R:`l}{m:`aF}(h:5 t (isL R) m):EV Er t Z W (pk R) m:=h.imp λ_ _ _ r=>pk.of r
theorem dU{R:Rw S}[MonoW R]{i:Nat}{v:V}{a:S}(r:R W a v)(h:58 Z[i]? v:=by rfl):EV Er (bH i) Z W R (.ok a):=λW1 e1 Q k=>⟨v,h,k v W1 `s<|MonoW.mono e1 r⟩
theorem dP{R:`l}[`aJ]{i:Nat}{p:Addr}{a:`z}(r:Ow R W p a)(h:0 Z[i]? (24 p):=by rfl):EV Er (bH i) Z W (pk R) (.ok a):=dU r.pk h
def isB:Rp Bool:=λ_ b v=>v=.bl b
instance zkeep10:Mono isB:=⟨λ_ h=>h⟩
theorem ag{i:Int}:43 (tC<|.int i) (.ok i):=λW1 _ Q k=>k _ W1 `s `a
theorem aK{x:Str}{l:Tx}(h:x=sOf l):5 (tC<|.str x) isS (.ok l):=λW1 _ Q k=>k _ W1 `s (by rw[h];rfl)
theorem gc{b:Bool}:5 (tC<|.bl b) isB (.ok b):=λW1 _ Q k=>k _ W1 `s `a
theorem rp{r:R2}{Ra:Rw S}[MonoW Ra]{Rb:Rw β}{R:Rw γ}{ma:`as}{mb:`aL}{f:64 S β γ}(ha:EV Er ta Z W Ra ma)(hb:EV Er tb Z W Rb mb)
  (h:∀W a b x y Q,Ra W a x->Rb W b y->(44 (f a b) λc=>∀v W2,50 W2->R W2 c v->Q v W2.H)->r x y W.H Q):EV Er (d9 r ta tb) Z W R (74<|118<|f a b):=λW1 e1 Q k=>by
 refine ha W1 e1 _ (107 k ?_);refine hb W2 `L _ (151 ka ?_);exact h W3 a b x y Q (MonoW.mono e3 hx) hy (kb.imp λc kc v W4 e4 hv=>kc v W4 ((`am).trans e4) hv)
theorem Fx{r:82 V Hp VK}{Ra:Rw S}{R:Rw γ}{ma:`as}{f:S->Res γ}(ha:EV Er ta Z W Ra ma)
  (h:∀W a x Q,Ra W a x->(44 (f a) λc=>∀v W2,50 W2->R W2 c v->Q v W2.H)->r x W.H Q):EV Er (eV r ta) Z W R (ma.bind f):=λW1 e1 Q k=>by
 refine ha W1 e1 _ (107 k ?_);exact h W2 a x Q hx (ka.imp λc kc v W4 e4 hv=>kc v W4 (e2.trans e4) hv)
section
variable{ma mb:`H}
theorem aZ{g:`c->`c->`c}(ha:43 ta ma)(hb:43 tb mb):43 (d9 (dZ λi j=>.int<|g i j) ta tb) (74<|118<|.ok<|g a b):=
 rp ha hb λW a b x y Q hx hy k=>by cases hx;cases hy;exact⟨a,b,`a,`a,k _ W `s `a⟩
theorem wB{C:11 `c `c}{g:`c->`c->`c}{f:`c->`c->`H}(hf:∀a b P,44 (f a b) P->C a b/\P (g a b))(ha:43 ta ma)(hb:43 tb mb):
  43 (d9 (rI C λi j=>.int<|g i j) ta tb) (74<|118<|f a b):=
 rp ha hb λW a b x y Q hx hy k=>by cases hx;cases hy;exact⟨a,b,`a,`a,(hf a b _ k).1,(hf a b _ k).2 _ W `s `a⟩
theorem lH(ha:43 ta ma)(hb:43 tb mb):43 (d9 (rI CMul λi j=>.int<|i*j) ta tb) (74<|118<|lD a b):=wB (λa b P h=>by unfold lD at h;obtain⟨h1,h2⟩:=bE h;exact⟨h1,h2⟩) ha hb
theorem sT(ha:43 ta ma)(hb:43 tb mb):43 (d9 (rI CK λi j=>.int<|i/j) ta tb) (74<|118<|lE a b):=wB (λa b P h=>by unfold lE at h;obtain⟨h1,h2⟩:=bE h;exact⟨h1,h2⟩) ha hb
theorem gd(ha:43 ta ma)(hb:43 tb mb):43 (d9 (rI (λ_ j=>0<j) λi j=>.int<|i%j) ta tb) (74<|118<|j7 a b):=wB (λa b P h=>by unfold j7 at h;obtain⟨h1,h2⟩:=bE h;exact⟨h1,h2⟩) ha hb
theorem aq{C:11 `c `c}{g:`c->`c->`c}{n:Int}(hn:∀a,C a n)(ha:43 ta ma):43 (d9 (rI C λi j=>.int<|g i j) ta<|tC<|.int n) (74<|.ok<|g a n):=
 108 W1 e1 _ (107 k<|by cases hx;exact⟨a,n,`a,`a,hn a,ka _ W2 e2 `a⟩)
end
end
section
variable{S β γ δ:Type}{t ta tb tc:TE}{Z:St}{W W0 W':Wd}{K:Gr}
theorem oE{n:Nat}(h:n<=cap):69 n:=by rw[Iq];unfold cap at h;omega
section
variable{ma mb:`H}
theorem jo(ha:43 ta ma):43 (eV (rU λi=>.int<|-i) ta) (ma.bind λa=>.ok<|-a):=
 Fx ha λW a x Q hx k=>by cases hx;exact 32 a (k _ W `s `a)
theorem cG{g:`c->`c->Bool}(ha:43 ta ma)(hb:43 tb mb):5 (d9 (dZ λi j=>.bl<|g i j) ta tb) isB (74<|118<|.ok<|g a b):=
 rp ha hb λW a b x y Q hx hy k=>by cases hx;cases hy;exact⟨a,b,`a,`a,k _ W `s `a⟩
end
theorem dI{a b:Int}:decide (Kx a=Kx b)=decide (a=b):=by rw[Jz];simp
theorem dS{a b:Tx}:decide (LS (sOf a)=LS (sOf b))=decide (a=b):=by
 rw[Jz,decide_eq_true_eq,decide_eq_true_eq];exact⟨λh=>sM<|LS.inj h,λh=>by rw[h]⟩
theorem cD{ma mb:`H}(ha:43 ta ma)(hb:43 tb mb):5 (d9 eZ ta tb) isB (ma.bind λa=>mb.bind λb=>.ok<|decide<|a=b):=
 rp ha hb λW a b x y Q hx hy k=>by cases hx;cases hy;exact 15 (by rw[dI];exact k _ W `s `a)
theorem jq{ma mb:`I}(ha:5 ta isS ma)(hb:5 tb isS mb):5 (d9 eZ ta tb) isB (ma.bind λa=>mb.bind λb=>.ok<|decide<|a=b):=
 rp ha hb λW a b x y Q hx hy k=>by cases hx;cases hy;exact 15 (by rw[dS];exact k _ W `s `a)
theorem wC{ma mb:`H}(ha:43 ta ma)(hb:43 tb mb):5 (d9 f6 ta tb) isB (ma.bind λa=>mb.bind λb=>.ok<|!decide (a=b)):=
 rp ha hb λW a b x y Q hx hy k=>by cases hx;cases hy;exact 15 (by rw[dI];exact k _ W `s `a)
theorem jr{ma mb:`I}(ha:5 ta isS ma)(hb:5 tb isS mb):5 (d9 f6 ta tb) isB (ma.bind λa=>mb.bind λb=>.ok<|!decide (a=b)):=
 rp ha hb λW a b x y Q hx hy k=>by cases hx;cases hy;exact 15 (by rw[dS];exact k _ W `s `a)
theorem ay{m:`x}(h:5 t isB m):TV Er (br t) Z W m:=134 W1 e1 _ (k.imp λb kb v W2 e2 hv=>⟨b,hv,kb W2 e2⟩)
theorem gZ{m:`x}(h:5 t isB m):TV Er (tB t) Z W m:=134 W1 e1 _ (k.imp λb kb v W2 e2 hv=>⟨b,hv,kb W2 e2⟩)
theorem gf{t:TT}{m:`x}(h:TV Er t Z W m):TV Er (cy t) Z W (m.bind λb=>.ok<|!b):=134 W1 e1 _ (14 k λb kb W2 e2=>kb W2 e2)
theorem eK{t u:TT}{m n:`x}(h:TV Er t Z W m)(g:TV Er u Z W n):TV Er (cx t u) Z W (m.bind λb=>if b then n else .ok `K):=134 W1 e1 _ (14 k λb kb W2 e2=>by
 cases b with
 |true=>exact g W2 `L _ (kb.imp λc kc W3 e3=>kc W3 `am)
 |false=>exact kb W2 e2)
theorem jz{t u:TT}{m n:`x}(h:TV Er t Z W m)(g:TV Er u Z W n):TV Er (fe t u) Z W (m.bind λb=>if b then .ok `o else n):=134 W1 e1 _ (14 k λb kb W2 e2=>by
 cases b with
 |true=>exact kb W2 e2
 |false=>exact g W2 `L _ (kb.imp λc kc W3 e3=>kc W3 `am))
theorem oF{m n:`x}(h:5 ta isB m)(g:5 tb isB n):5 (bp ta tb) isB (m.bind λb=>if b then n else .ok `K):=134 W1 e1 _ (14 k λb kb v W2 e2 hv=>⟨b,hv,by
 cases b with
 |true=>exact g W2 `L _ (kb.imp λc kc v W3 e3 hv=>kc v W3 `am hv)
 |false=>exact kb _ W2 e2 `a⟩)
theorem D0{m n:`x}(h:5 ta isB m)(g:5 tb isB n):5 (cz ta tb) isB (m.bind λb=>if b then .ok `o else n):=134 W1 e1 _ (14 k λb kb v W2 e2 hv=>⟨b,hv,by
 cases b with
 |true=>exact kb _ W2 e2 `a
 |false=>exact g W2 `L _ (kb.imp λc kc v W3 e3 hv=>kc v W3 `am hv)⟩)
theorem wD{m:`x}(h:5 ta isB m):5 (bq ta) isB (m.bind λb=>.ok<|!b):=134 W1 e1 _ (14 k λb kb v W2 e2 hv=>⟨b,hv,kb _ W2 e2 `a⟩)
theorem nA{R:Rw S}{c:TT}{mc:`x}{m n:`as}(hc:TV Er c Z W mc)(h:EV Er ta Z W R m)(g:EV Er tb Z W R n):EV Er (ff c ta tb) Z W R (mc.bind λb=>if b then m else n):=λW1 e1 Q k=>hc W1 e1 _ (14 k λb kb W2 e2=>by
 cases b with
 |true=>exact h W2 `L _ (kb.imp λc kc v W3 e3 hv=>kc v W3 `am hv)
 |false=>exact g W2 `L _ (kb.imp λc kc v W3 e3 hv=>kc v W3 `am hv))
theorem cq{ma mb:`I}(ha:5 ta isS ma)(hb:5 tb isS mb):5 (d9 (λx y H Q=>∃i j,2 x (.str i) (y=.str j)<|69 (i.length+j.length)/\Q (.str<|i++j) H) ta tb) isS (74<|118<|dO a b):=
 rp ha hb λW a b x y Q hx hy k=>by
  cases hx;cases hy;obtain⟨h1,h2⟩:=bE k;exact⟨_,_,rfl,rfl,by rw[dh,dh];exact oE h1,by rw[gY];exact h2 _ W `s `a⟩
theorem zf{ma:`I}{mb:`H}(ha:5 ta isS ma)(hb:43 tb mb):5 (d9 (λx y H Q=>∃c n,25 x (88 [c]) (y=.int n) (0<=n) (94 n)<|Q (88<|Ju n.toNat c) H) ta tb) isS (74<|118<|Bs a b):=
 rp ha hb λW a b x y Q hx hy k=>by
  cases hx;cases hy
  match a,k with
  | [c],k=>
   obtain⟨h1,h2⟩:=bE k;exact⟨c,b,`a,`a,h1.1,h1.2,h2 _ W `s `a⟩
theorem cJ{ma:`I}{mb:`H}(ha:5 ta isS ma)(hb:43 tb mb):5 (d9 cB ta tb) isS (74<|118<|gw a b):=
 rp ha hb λW a b x y Q hx hy k=>by
  cases hx;cases hy;obtain⟨h1,h2⟩:=bE (Gp k);obtain⟨c,h3,h4⟩:=fI (Gp h2);exact⟨_,b,c,rfl,rfl,by rw[dh];exact oE h1,by rw[oq];exact h3,h4 _ W `s `a⟩
theorem D4{R:Rw S}{r:34 V `aH `aH Hp VK Prop}{Ra:Rw β}[MonoW Ra]{ma:`aL}{tl th:TO}{ml mh:Res `aH}{f:β->`aH->`aH->`as}(ha:EV Er ta Z W Ra ma)
  (hl:∀W1,50 W1->160 (ml.OkE Er λo=>∀W2,Ext W1 W2->Q o W2.H) (tl Z W1.H Q)) (hh:∀W1,50 W1->160 (mh.OkE Er λo=>∀W2,Ext W1 W2->Q o W2.H) (th Z W1.H Q))
  (h:∀W a x lo hi Q,Ra W a x->(44 (f a lo hi) λc=>∀v W2,50 W2->R W2 c v->Q v W2.H)->r x lo hi W.H Q):EV Er (eW r ta tl th) Z W R (74<|ml.bind λlo=>mh.bind λhi=>f a lo hi):=108 W1 e1 _ (107 k<|hl W2 `L _<|14 ka λlo kl W3 e3=>hh W3 ((`L).trans e3) _<|14 kl λhi kh W4 e4=>h W4 a x lo hi Q (MonoW.mono `bN hx)<|kh.imp λc kc v W5 e5 hv=>kc v W5 (103 `am e4 e5) hv)
theorem fb:∀W1,50 W1->160 (44 (Gw (none:`aH)) λo=>∀W2,Ext W1 W2->Q o W2.H) (aF Z W1.H Q):=λW1 _ Q k=>k W1 `s
theorem dA{m:`H}(h:43 t m):∀W1,50 W1->160 (44 (m.bind λi=>.ok<|some i) λo=>∀W2,Ext W1 W2->Q o W2.H) (bo t Z W1.H Q):=134 W1 e1 _ (14 k λi ki v W2 e2 hv=>⟨i,hv,ki W2 e2⟩)
theorem cH{ma:`I}{tl th:TO}{ml mh:Res `aH}(ha:5 ta isS ma)
  (hl:∀W1,50 W1->160 (ml.OkE Er λo=>∀W2,Ext W1 W2->Q o W2.H) (tl Z W1.H Q)) (hh:∀W1,50 W1->160 (mh.OkE Er λo=>∀W2,Ext W1 W2->Q o W2.H) (th Z W1.H Q)):
  5 (eW (λx lo hi H Q=>∃l,2 x (88 l) (69 `ag)<|Q (88<|kN l lo hi) H) ta tl th) isS (74<|ml.bind λlo=>mh.bind λhi=>fJ a lo hi):=
 D4 ha hl hh λW a x lo hi Q hx k=>by
  cases hx;obtain⟨h1,h2⟩:=bE k;exact⟨a,`a,oE h1,h2 _ W `s `a⟩
theorem D5(x:Tx)(c j:Nat)(h:0 (wz x c) j):MA (sOf x) (sOf [c])=(j:Int):=by
 unfold wz at h;rw[List.findIdx?_eq_some_iff_getElem]at h;obtain⟨hj,h1,h2⟩:=h;have hat:∀i,StrLaws.At (sOf x) (sOf [c]) (sOf x).length i↔0 x[i]? c:=λi=>by
  have:=StrLaws.subAt_one (sOf x) c i;rw[oq]at this;exact this
 unfold MA;rcases StrLaws.occ_head (sOf x) (sOf [c]) 1 (GC _)with⟨_,hn⟩|⟨i,r,e,hi,hk⟩
 ·exact absurd ((hat j).mpr (by rw[GB hj];simpa using h1)) (hn j)
 ·rw[e];have e2:=(hat i).mp hi;obtain⟨hil,e3⟩:=GA.mp e2;have:i=j:=by
   rcases Nat.lt_trichotomy i j with z|z|z;·exact absurd e3 (by simpa using h2 i z)
   ·exact z
   ·exact absurd ((hat j).mpr (by rw[GB hj];simpa using h1)) (hk j z)
  rw[this]
theorem fK{ma mb:`I}{K:Gr}(ha:5 ta isS ma)(hb:5 tb isS mb):43 (eH K "str" (λx xs H Q=>∃a b,2 x (.str a) (xs=[.str b])<|0<=MA a b/\Q (.int<|MA a b) H) ta<|aj tb aU) (74<|118<|j9 a b):=108 W1 e1 _ (107 k<|by
  cases hx;refine 15 (hb W2 `L _<|151 ka ?_);cases hy
  match b,kb with
  | [c],kb=>
   obtain⟨j,h1,h2⟩:=fI (Gp kb);have e:=D5 a c j h1;exact⟨_,_,rfl,rfl,by rw[e];omega,by rw[e];exact h2 _ W3 `am `a⟩)
theorem Bu{ma mb:`I}(ha:5 ta isS ma)(hb:5 tb isS mb):5 (d9 (λx y H Q=>∃i j,2 x (.str i) (y=.str j)<|Q (.bl<|!(LB j i 0 j.length 1).isEmpty) H) ta tb) isB (74<|118<|Fm a b):=
 rp ha hb λW a b x y Q hx hy k=>by
  cases hx;cases hy
  match a,k with
  | [c],k=>
   refine⟨_,_,`a,`a,?_⟩;have e:(!(LB (sOf b) (sOf [c]) 0 (sOf b).length 1).isEmpty)=b.contains c:=by
    have:=StrLaws.found_one (sOf b) c;rw[oq]at this;rw[this,Jz];simp
   rw[e];exact k _ W `s `a
theorem Same.tup{H H':Hp}{a:Addr}{xs:`E}(e:Same H H')(h:SqT K H a xs):SqT K H' a xs:=by
 rcases h with(h|⟨o,h⟩)|h;·exact .inl (.inl<|e _ _ h)
 ·exact .inl (.inr ⟨o,e _ _ h⟩)
 ·exact .inr h
def isT2(K:Gr)(R1:`l)(R2:`az):Rp (S×β):=λH a v=>∃p x y,2 v `O (SqT K H p [x,y]) (R1 H a.1 x/\R2 H a.2 y)
def isT3(K:Gr)(R1:`l)(R2:`az)(R3:Rp γ):Rp (S×β×γ):=λH a v=>∃p x y z,25 v `O (SqT K H p [x,y,z]) (R1 H a.1 x) (R2 H a.2.1 y) (R3 H a.2.2 z)
instance zkeep14{R1:`l}{R2:`az}[Mono R1][Mono R2]:Mono (45 R1 R2):=⟨λe⟨p,x,y,h0,h,h1,h2⟩=>⟨p,x,y,h0,Same.tup e h,Gm e h1,Gm e h2⟩⟩
instance zkeep15{R1:`l}{R2:`az}{R3:Rp γ}[Mono R1][Mono R2][Mono R3]:Mono (isT3 K R1 R2 R3):=⟨λe⟨p,x,y,z,h0,h,h1,h2,h3⟩=>⟨p,x,y,z,h0,Same.tup e h,Gm e h1,Gm e h2,Gm e h3⟩⟩
theorem bK{R1:`l}{R2:`az}[Mono R1][Mono R2]{ma:`as}{mb:`aL}(ha:5 ta R1 ma)(hb:5 tb R2 mb):5 (cg<|aj ta<|aj tb aU) (45 R1 R2) (74<|118<|.ok (a,b)):=108 W1 e1 _ (107 k<|hb W2 `L _<|151 ka ⟨(by show 69 2;decide),λp hp=>kb `O (W3.new p<|.tup [x,y]) ((`am).trans<|.new _ hp) ⟨p,x,y,`a,OV aS,Gm (Ext.new _ hp).g<|Gm (R:=R1) e3.g hx,Gm (R:=R2) (Ext.new _ hp).g hy⟩⟩)
theorem dC{R1:`l}{R2:`az}{R3:Rp γ}[Mono R1][Mono R2][Mono R3]{ma:`as}{mb:`aL}{mc:Res γ}(ha:5 ta R1 ma)(hb:5 tb R2 mb)(hc:5 tc R3 mc):
  5 (cg<|aj ta<|aj tb<|aj tc aU) (isT3 K R1 R2 R3) (74<|118<|mc.bind λc=>.ok (a,b,c)):=108 W1 e1 _ (107 k<|hb W2 `L _<|151 ka<|hc W3 ((`L).trans e3) _<|14 kb λc kc z W4 e4 hz=>⟨(by show 69 3;decide),λp hp=>kc `O (W4.new p<|.tup [x,y,z]) (103 `am e4<|.new _ hp) ⟨p,x,y,z,`a,OV aS,Gm (Ext.new _ hp).g<|Gm (R:=R1) (`bN).g hx,Gm (R:=R2) (Ext.new _ hp).g<|Gm (R:=R2) e4.g hy,Gm (R:=R3) (Ext.new _ hp).g hz⟩⟩)
theorem bB{R:`l}{Rt:`az}{m:`aL}{i:Int}{f:β->S}(h:∀H b v,Rt H b v->∃p xs x,2 v `O (SqT K H p xs) (0 (L2.atI xs i) x/\R H (f b) x))(ha:5 ta Rt m):5 (d9 (cn K) ta<|tC<|.int i) R (m.bind λb=>.ok<|f b):=108 W1 e1 _ (14 k λb kb v W2 e2 hv=>by
  obtain⟨p,xs,x,h1,h2,h3,h4⟩:=h _ _ _ hv;exact⟨p,xs,i,x,h1,`a,Same.tup W2.ok h2,h3,kb _ W2 e2 h4⟩)
theorem Bv{R1:`l}{R2:`az}:∀H b v,isT2 K R1 R2 H b v->∃p xs x,2 v `O (SqT K H p xs) (0 (L2.atI xs 0) x/\R1 H b.1 x):=λ_ _ _⟨p,x,y,h0,h,h1,h2⟩=>⟨p,_,x,h0,h,`a,h1⟩
theorem zg{R1:`l}{R2:`az}:∀H b v,isT2 K R1 R2 H b v->∃p xs x,2 v `O (SqT K H p xs) (0 (L2.atI xs 1) x/\R2 H b.2 x):=λ_ _ _⟨p,x,y,h0,h,h1,h2⟩=>⟨p,_,y,h0,h,`a,h2⟩
theorem oG{R1:`l}{R2:`az}{R3:Rp γ}:∀H b v,isT3 K R1 R2 R3 H b v->∃p xs x,2 v `O (SqT K H p xs) (0 (L2.atI xs 0) x/\R1 H b.1 x):=λ_ _ _⟨p,x,y,z,h0,h,h1,h2,h3⟩=>⟨p,_,x,h0,h,`a,h1⟩
theorem kP{R1:`l}{R2:`az}{R3:Rp γ}:∀H b v,isT3 K R1 R2 R3 H b v->∃p xs x,2 v `O (SqT K H p xs) (0 (L2.atI xs 1) x/\R2 H b.2.1 x):=λ_ _ _⟨p,x,y,z,h0,h,h1,h2,h3⟩=>⟨p,_,y,h0,h,`a,h2⟩
theorem mO{R1:`l}{R2:`az}{R3:Rp γ}:∀H b v,isT3 K R1 R2 R3 H b v->∃p xs x,2 v `O (SqT K H p xs) (0 (L2.atI xs 2) x/\R3 H b.2.2 x):=λ_ _ _⟨p,x,y,z,h0,h,h1,h2,h3⟩=>⟨p,_,z,h0,h,`a,h3⟩
theorem oH{R:`l}{H:Hp}{as:`z}{xs:`E}(h:LR R H as xs){i:Int}{a:S}(e:0 (uK as i) a):∃x,0 (L2.atI xs i) x/\R H a x:=by
 unfold uK at e;unfold L2.atI;rw[h.1];cases z:Mi.ixN as.length i with
 |none=>rw[z]at e;cases e
 |some j=>
  rw[z]at e;obtain⟨x,h1,h2⟩:=h.get (i:=j) e;exact⟨x,by show(L2.ixN as.length i).bind _=_;rw[show L2.ixN as.length i=Mi.ixN as.length i from rfl,z];exact h1,h2⟩
theorem LR.three{R:`l}{H:Hp}{a b c:S}{x y z:V}(h1:R H a x)(h2:R H b y)(h3:R H c z):LR R H [a,b,c] [x,y,z]:=⟨rfl,λi v m e1 e2=>by
 match i,e1,e2 with
 |0,e1,e2=>cases e1;cases e2;exact h1
 |1,e1,e2=>cases e1;cases e2;exact h2
 |2,e1,e2=>cases e1;cases e2;exact h3⟩
theorem cU{R:`l}[`aJ]{ma:`aF}{mb:`H}(ha:EV Er ta Z W (pk R) ma)(hb:43 tb mb):5 (d9 (cm K) ta tb) R (74<|118<|gr a b):=
 rp ha hb λW a b x y Q hx hy k=>by
  cases hy;obtain⟨p,vs,rfl,h,h1⟩:=hx;obtain⟨c,h4,h5⟩:=fI k;obtain⟨z,h6,h7⟩:=oH h1 h4;exact⟨p,_,b,z,`a,`a,Jc h,h6,h5 _ W `s h7⟩
theorem hW{R:`l}:EVo Er (bY aU) Z W R (.ok []):=λW1 e1 Q k=>⟨`ac,λp hp=>k p (W1.mut p (.lst [])<|W1.gnone hp) (.own _ hp) hp ⟨W1.gnone hp,[],aS,.nil⟩⟩
def AV(Er:`av)(t:TA)(Z:St)(W:Wd)(R:`l)(n:Nat)(m:`aF):Prop:=∀W1,50 W1->∀Q:List V->Hp->Prop,(m.OkE Er λas=>∀vs W2,Ext W1 W2->`aK=n->LR R W2.G as vs->Q vs W2.H)->t Z W1.H Q
theorem di{R:`l}:AV Er aU Z W R 0 (.ok []):=λW1 _ Q k=>k [] W1 `s `a .nil
theorem LR.cons{R:`l}{H:Hp}{a:S}{v:V}{as:`z}{vs:`E}(h:R H a v)(r:LR R H as vs):LR R H (a::as) (v::vs):=⟨by simp[r.1],λi x m e1 e2=>by
 cases i with
 |zero=>cases e1;cases e2;exact h
 |succ j=>exact r.2 j x m e1 e2⟩
theorem aX{R:`l}[`aJ]{n:Nat}{ts:TA}{m:`as}{ms:`aF}(h:5 t R m)(g:AV Er ts Z W R n ms):AV Er (aj t ts) Z W R (n+1) (m.bind λa=>ms.bind λas=>.ok<|a::as):=134 W1 e1 _ (143 k<|g W2 `L _<|14 ka λas kas vs W3 e3 hn hvs=>kas (v::vs) W3 `am (by simp[hn])<|.cons (Gm (R:=R) e3.g hv) hvs)
theorem dj{R:`l}[`aJ]{n:Nat}{ts:TA}{ms:`aF}(g:AV Er ts Z W R n ms)(hn:n<=cap:=by decide):EVo Er (bY ts) Z W R ms:=λW1 e1 Q k=>g W1 e1 _ (k.imp λas ka vs W2 e2 hv hvs=>⟨by rw[hv];exact oE hn,λp hp=>ka p (W2.mut p (.lst vs)<|W2.gnone hp) (e2.trans<|.own _ hp) (bJ e2.h hp) ⟨W2.gnone hp,vs,aS,hvs⟩⟩)
theorem hX{R:`l}[`aJ]{ma mb:`aF}(ha:EV Er ta Z W (pk R) ma)(hb:EV Er tb Z W (pk R) mb):EVo Er (d9 cC ta tb) Z W R (74<|118<|EU a b):=108 W1 e1 _ (107 k<|hb W2 `L _ (151 ka<|by
  obtain⟨p,vs,rfl,h1,h2⟩:=MonoW.mono e3 hx;obtain⟨q,us,rfl,h3,h4⟩:=hy;obtain⟨h5,h6⟩:=bE kb;refine⟨p,q,vs,us,rfl,rfl,h1,h3,by rw[h2.1,h4.1];exact oE h5,λr hr=>h6 r (W3.mut r (.lst<|vs++us)<|W3.gnone hr) ((`am).trans<|.own _ hr) (bJ (`am).h hr) ⟨W3.gnone hr,_,aS,?_⟩⟩;exact⟨by rw[HG,HG,h2.1,h4.1],λi v m q1 q2=>by
   by_cases hi:i<`aK
   ·rw[Hr hi]at q1;rw[Hr (by rw[<-h2.1];exact hi)]at q2;exact h2.2 i v m q1 q2
   ·rw[He `b]at q1;rw[He (by rw[<-h2.1];omega)]at q2;rw[<-h2.1]at q2;exact h4.2 _ v m q1 q2⟩))
theorem LR.cut{R:`l}{H:Hp}{as:`z}{vs:`E}(h:LR R H as vs)(lo hi:`aH):LR R H (Mi.cut as lo hi) (r9 vs lo hi):=by
 unfold Mi.cut r9;rw[h.1];exact(h.drop _).take _
theorem zh{R:`l}[`aJ]{ma:`aF}{tl th:TO}{ml mh:Res `aH}(ha:EV Er ta Z W (pk R) ma)
  (hl:∀W1,50 W1->160 (ml.OkE Er λo=>∀W2,Ext W1 W2->Q o W2.H) (tl Z W1.H Q)) (hh:∀W1,50 W1->160 (mh.OkE Er λo=>∀W2,Ext W1 W2->Q o W2.H) (th Z W1.H Q)):
  EVo Er (eW (cw K) ta tl th) Z W R (74<|ml.bind λlo=>mh.bind λhi=>.ok<|Mi.cut a lo hi):=108 W1 e1 _ (107 k<|hl W2 `L _<|14 ka λlo kl W3 e3=>hh W3 ((`L).trans e3) _ (14 kl λhi kh W4 e4=>by
  obtain⟨p,vs,rfl,h1,h2⟩:=MonoW.mono `bN hx;have e5:=(`am).trans e4;exact⟨p,vs,`a,Jc h1,λr hr=>kh r (W4.mut r (.lst<|r9 vs lo hi)<|W4.gnone hr) (e5.trans<|.own _ hr) (bJ e5.h hr) ⟨W4.gnone hr,_,aS,h2.cut lo hi⟩⟩))
theorem rq{ma:`H}(ha:43 ta ma):43 (dM (λxs H Q=>∃i,xs=[.int i]/\Q (.int (if i<0 then -i else i)) H)<|aj ta aU) (74<|.ok<|fv a):=108 W1 e1 _ (107 k<|by cases hx;exact 32 a (ka _ W2 e2 `a))
theorem fL{R:`l}{ma:`aF}(ha:EV Er ta Z W (pk R) ma):43 (dM (λxs H Q=>∃x n,2 xs [x] (r0 K x H n)<|Q (.int n) H)<|aj ta aU) (74<|.ok (a.length:Int)):=108 W1 e1 _ (107 k<|by
  obtain⟨p,vs,rfl,h1,h2⟩:=hx;exact⟨_,a.length,`a,.inl ⟨vs,Jc h1,h2.1.symm⟩,ka _ W2 e2 `a⟩)
theorem iS{ma:`I}(ha:5 ta isS ma):43 (dM (λxs H Q=>∃x n,2 xs [x] (r0 K x H n)<|Q (.int n) H)<|aj ta aU) (74<|pR a):=108 W1 e1 _ (107 k<|by
  cases hx;obtain⟨h1,h2⟩:=bE ka;exact⟨_,a.length,`a,⟨by rw[dh];exact oE h1,by rw[dh]⟩,h2 _ W2 e2 `a⟩)
theorem oI{ma:75 Tx}{x:Str}(hx:x=sOf [])(ha:EV Er ta Z W (pk isS) ma):5 (eH K "str" (λx xs H Q=>∃(p:Addr)(ys:List (List Nat)),25 x (88 []) (xs=[.ref p]) (SqL K H p<|ys.map λy=>LS<|sOf y) (94 ys.flatten.length)<|Q (88 ys.flatten) H) (tC<|.str x)<|aj ta aU) isS (74<|pS a):=λW1 e1 Q k=>⟨by show ES K "str" (.str x) W1.H;rfl,ha W1 e1 _ (143 k<|by
  obtain⟨p,vs,rfl,h1,h2⟩:=hv;obtain⟨h3,h4⟩:=bE ka;exact⟨p,a,by rw[hx],`a,Jc<|by rw[h1,h2.str],h3,h4 _ W2 e2 `a⟩)⟩
end
abbrev Rt(β:Type):=82 Wd β VK
def rs{β:Type}(R:`az):Rt β:=λW r Q=>∀u W',50 W'->R W'.G r u->Q u W'.H
def ro{β:Type}(R:`az):Rt (List β):=λW r Q=>∀p W',50 W'->7 (W.H p)->Ow R W' p r->Q `O W'.H
section
variable{S β γ δ ε ζ:Type}
def fz(R1:`l)(rt:Rt β)(m:S->`aL):Sp:=λvs H Q _=>∃(W:Wd)(a:S)(v:V),2 W.H H (vs=[v]) (R1 W.G a v/\∃Er:Nat->Prop,44 (m a) λr=>rt W r Q)
def bM(R1:`l)(R2:Rp γ)(rt:Rt β)(m:64 S γ β):Sp:=λvs H Q _=>∃(W:Wd)(a:S)(b:γ)(v u:V),25 W.H H (vs=[v,u]) (R1 W.G a v) (R2 W.G b u) (∃Er:Nat->Prop,44 (m a b) λr=>rt W r Q)
def eX(R1:`l)(R2:Rp γ)(R3:Rp δ)(rt:Rt β)(m:S->γ->δ->`aL):Sp:=λvs H Q _=>∃(W:Wd)(a:S)(b:γ)(c:δ)(v u w:V),25 W.H H (vs=[v,u,w]) (R1 W.G a v) (R2 W.G b u) (R3 W.G c w/\∃Er:Nat->Prop,44 (m a b c) λr=>rt W r Q)
def iC(R1:`l)(R2:Rp γ)(R3:Rp δ)(R4:Rp ε)(rt:Rt β)(m:20 S γ δ ε `aL):Sp:=λvs H Q _=>∃(W:Wd)(a:S)(b:γ)(c:δ)(d:ε)(v u w x:V),25 W.H H (vs=[v,u,w,x]) (R1 W.G a v) (R2 W.G b u) (R3 W.G c w/\R4 W.G d x/\∃Er:Nat->Prop,44 (m a b c d) λr=>rt W r Q)
def gh(R1:`l)(R2:Rp γ)(R3:Rp δ)(R4:Rp ε)(R5:Rp ζ)(rt:Rt β)(m:34 S γ δ ε ζ `aL):Sp:=λvs H Q _=>∃(W:Wd)(a:S)(b:γ)(c:δ)(d:ε)(e:ζ)(v u w x y:V),25 W.H H (vs=[v,u,w,x,y]) (R1 W.G a v) (R2 W.G b u) (R3 W.G c w/\R4 W.G d x/\R5 W.G e y/\∃Er:Nat->Prop,44 (m a b c d e) λr=>rt W r Q)
variable{t t1 t2 t3 t4 t5:TE}{Z:St}{W W0 W':Wd}{K:Gr}
section
variable{R1:`l}{R2:Rp γ}{R3:Rp δ}{R4:Rp ε}{R5:Rp ζ}[Mono R1][Mono R2][Mono R3][Mono R4][Mono R5]{m1:`as}{m2:Res γ}{m3:Res δ}{m4:Res ε}{m5:Res ζ}{E:XK}
theorem dJ{R:`az}{m:S->`aL}(h1:5 t1 R1 m1):5 (aO (fz R1 (rs R) m) [] E<|aj t1 aU) R (m1.bind λa=>m a):=λW1 e1 Q k=>h1 W1 e1 _ (143 k ⟨W2,a,v,`a,`a,hv,Er,ka.imp λr kr u W' e hu=>kr u W' (e2.trans e) hu⟩)
theorem aT{R:`az}{m:64 S γ β}(h1:5 t1 R1 m1)(h2:5 t2 R2 m2):5 (aO (73 R1 R2 R m) [] E<|aj t1<|aj t2 aU) R (m1.bind λa=>m2.bind λb=>m a b):=λW1 e1 Q k=>h1 W1 e1 _ (143 k<|h2 W2 `L _<|14 ka λb kb u W3 e3 hu=>⟨W3,a,b,v,u,`a,`a,MonoW.mono (R:=sh R1) e3 hv,hu,Er,kb.imp λr kr u W' e hu=>kr u W' ((`am).trans e) hu⟩)
theorem iT{R:`az}{m:S->γ->75 β}(h1:5 t1 R1 m1)(h2:5 t2 R2 m2):EVo Er (aO (bM R1 R2 (ro R) m) [] E<|aj t1<|aj t2 aU) Z W R (m1.bind λa=>m2.bind λb=>m a b):=λW1 e1 Q k=>h1 W1 e1 _ (143 k<|h2 W2 `L _<|14 ka λb kb u W3 e3 hu=>⟨W3,a,b,v,u,`a,`a,MonoW.mono (R:=sh R1) e3 hv,hu,Er,kb.imp λr kr p W' e hp o=>kr p W' ((`am).trans e) (bJ (`am).h hp) o⟩)
theorem eM{R:`az}{m:S->γ->δ->`aL}(h1:5 t1 R1 m1)(h2:5 t2 R2 m2)(h3:5 t3 R3 m3):5 (aO (eX R1 R2 R3 (rs R) m) [] E<|aj t1<|aj t2<|aj t3 aU) R (m1.bind λa=>m2.bind λb=>m3.bind λc=>m a b c):=λW1 e1 Q k=>h1 W1 e1 _ (143 k<|h2 W2 `L _<|14 ka λb kb u W3 e3 hu=>h3 W3 ((`L).trans e3) _<|14 kb λc kc w W4 e4 hw=>⟨W4,a,b,c,v,u,w,`a,`a,MonoW.mono (R:=sh R1) `bN hv,MonoW.mono (R:=sh R2) e4 hu,hw,Er,kc.imp λr kr u W' e hu=>kr u W' (103 `am e4 e) hu⟩)
theorem fT{R:`az}{m:S->γ->δ->75 β}(h1:5 t1 R1 m1)(h2:5 t2 R2 m2)(h3:5 t3 R3 m3):EVo Er (aO (eX R1 R2 R3 (ro R) m) [] E<|aj t1<|aj t2<|aj t3 aU) Z W R (m1.bind λa=>m2.bind λb=>m3.bind λc=>m a b c):=λW1 e1 Q k=>h1 W1 e1 _ (143 k<|h2 W2 `L _<|14 ka λb kb u W3 e3 hu=>h3 W3 ((`L).trans e3) _<|14 kb λc kc w W4 e4 hw=>⟨W4,a,b,c,v,u,w,`a,`a,MonoW.mono (R:=sh R1) `bN hv,MonoW.mono (R:=sh R2) e4 hu,hw,Er,kc.imp λr kr p W' e hp o=>kr p W' (103 `am e4 e) (bJ ((`am).trans e4).h hp) o⟩)
theorem lI{R:`az}{m:20 S γ δ ε `aL}(h1:5 t1 R1 m1)(h2:5 t2 R2 m2)(h3:5 t3 R3 m3)(h4:5 t4 R4 m4):5 (aO (iC R1 R2 R3 R4 (rs R) m) [] E<|aj t1<|aj t2<|aj t3<|aj t4 aU) R (m1.bind λa=>m2.bind λb=>m3.bind λc=>m4.bind λd=>m a b c d):=λW1 e1 Q k=>h1 W1 e1 _ (143 k<|h2 W2 `L _<|14 ka λb kb u W3 e3 hu=>h3 W3 ((`L).trans e3) _<|14 kb λc kc w W4 e4 hw=>h4 W4 (103 `L e3 e4) _<|14 kc λd kd x W5 e5 hx=>⟨W5,a,b,c,d,v,u,w,x,`a,`a,MonoW.mono (R:=sh R1) ((`bN).trans e5) hv,MonoW.mono (R:=sh R2) (e4.trans e5) hu,MonoW.mono (R:=sh R3) e5 hw,hx,Er,kd.imp λr kr u W' e hu=>kr u W' (103 ((`am).trans e4) e5 e) hu⟩)
theorem iU{R:`az}{m:20 S γ δ ε (75 β)}(h1:5 t1 R1 m1)(h2:5 t2 R2 m2)(h3:5 t3 R3 m3)(h4:5 t4 R4 m4):EVo Er (aO (iC R1 R2 R3 R4 (ro R) m) [] E<|aj t1<|aj t2<|aj t3<|aj t4 aU) Z W R (m1.bind λa=>m2.bind λb=>m3.bind λc=>m4.bind λd=>m a b c d):=λW1 e1 Q k=>h1 W1 e1 _ (143 k<|h2 W2 `L _<|14 ka λb kb u W3 e3 hu=>h3 W3 ((`L).trans e3) _<|14 kb λc kc w W4 e4 hw=>h4 W4 (103 `L e3 e4) _<|14 kc λd kd x W5 e5 hx=>⟨W5,a,b,c,d,v,u,w,x,`a,`a,MonoW.mono (R:=sh R1) ((`bN).trans e5) hv,MonoW.mono (R:=sh R2) (e4.trans e5) hu,MonoW.mono (R:=sh R3) e5 hw,hx,Er,kd.imp λr kr p W' e hp o=>kr p W' (103 ((`am).trans e4) e5 e) (bJ (103 `am e4 e5).h hp) o⟩)
theorem gO{R:`az}{m:34 S γ δ ε ζ `aL}(h1:5 t1 R1 m1)(h2:5 t2 R2 m2)(h3:5 t3 R3 m3)(h4:5 t4 R4 m4)(h5:5 t5 R5 m5):5 (aO (gh R1 R2 R3 R4 R5 (rs R) m) [] E<|aj t1<|aj t2<|aj t3<|aj t4<|aj t5 aU) R (m1.bind λa=>m2.bind λb=>m3.bind λc=>m4.bind λd=>m5.bind λe=>m a b c d e):=λW1 e1 Q k=>h1 W1 e1 _ (143 k<|h2 W2 `L _<|14 ka λb kb u W3 e3 hu=>h3 W3 ((`L).trans e3) _<|14 kb λc kc w W4 e4 hw=>h4 W4 (103 `L e3 e4) _<|14 kc λd kd x W5 e5 hx=>h5 W5 (103 ((`L).trans e3) e4 e5) _<|14 kd λe ke y W6 e6 hy=>⟨W6,a,b,c,d,e,v,u,w,x,y,`a,`a,MonoW.mono (R:=sh R1) (103 `bN e5 e6) hv,MonoW.mono (R:=sh R2) ((e4.trans e5).trans e6) hu,MonoW.mono (R:=sh R3) (e5.trans e6) hw,MonoW.mono (R:=sh R4) e6 hx,hy,Er,ke.imp λr kr u W' e hu=>kr u W' (103 (103 `am e4 e5) e6 e) hu⟩)
theorem gP{R:`az}{m:34 S γ δ ε ζ (75 β)}(h1:5 t1 R1 m1)(h2:5 t2 R2 m2)(h3:5 t3 R3 m3)(h4:5 t4 R4 m4)(h5:5 t5 R5 m5):EVo Er (aO (gh R1 R2 R3 R4 R5 (ro R) m) [] E<|aj t1<|aj t2<|aj t3<|aj t4<|aj t5 aU) Z W R (m1.bind λa=>m2.bind λb=>m3.bind λc=>m4.bind λd=>m5.bind λe=>m a b c d e):=λW1 e1 Q k=>h1 W1 e1 _ (143 k<|h2 W2 `L _<|14 ka λb kb u W3 e3 hu=>h3 W3 ((`L).trans e3) _<|14 kb λc kc w W4 e4 hw=>h4 W4 (103 `L e3 e4) _<|14 kc λd kd x W5 e5 hx=>h5 W5 (103 ((`L).trans e3) e4 e5) _<|14 kd λe ke y W6 e6 hy=>⟨W6,a,b,c,d,e,v,u,w,x,y,`a,`a,MonoW.mono (R:=sh R1) (103 `bN e5 e6) hv,MonoW.mono (R:=sh R2) ((e4.trans e5).trans e6) hu,MonoW.mono (R:=sh R3) (e5.trans e6) hw,MonoW.mono (R:=sh R4) e6 hx,hy,Er,ke.imp λr kr p W' e hp o=>kr p W' (103 (103 `am e4 e5) e6 e) (bJ (103 ((`am).trans e4) e5 e6).h hp) o⟩)
end
def Yl(J:It)(W:Wd)(R:`l)(xs:`z):Prop:=∀W1:Wd,93 W1.G->(∀(i:Nat)(a:S),0 xs[i]? a->J.go i W1.H/\∀x H',J.yld i W1.H x H'->∃W2:Wd,2 W2.H H' (Ext W1 W2) (R W2.G a x))/\J.stop `t W1.H
def IV(Er:`av)(wi:TI)(Z:St)(W:Wd)(R:`l)(m:`aF):Prop:=∀W1,50 W1->∀P:It->Hp->Prop,(m.OkE Er λxs=>∀J W2,Ext W1 W2->Yl J W2 R xs->P J W2.H)->wi Z W1.H P
theorem dD{R:`l}[`aJ]{m:`aF}(h:5 t (isL R) m):IV Er (sE K t) Z W R m:=λW1 e1 P k=>h W1 e1 _ (k.imp λxs kx v W2 e2 hv=>by
  obtain⟨p,vs,rfl,h1,h2⟩:=hv;refine⟨p,`a,⟨vs,Jc<|W2.ok _ _ h1⟩,kx _ W2 e2 λW3 e3=>⟨λi a ha=>?_,vs,Jc<|W3.ok _ _<|e3 _ _ h1,by rw[h2.1];exact `w⟩⟩;obtain⟨x,hx,hr⟩:=h2.get ha;refine⟨⟨vs,x,Jc<|W3.ok _ _<|e3 _ _ h1,hx⟩,λy H'⟨z1,z2⟩=>⟨W3,z1.symm,`s,?_⟩⟩;have:=z2 vs (Jc<|W3.ok _ _<|e3 _ _ h1);rw[hx]at this;cases this;exact Gm e3 hr)
theorem k9{m:`I}(h:5 t isS m):IV Er (CP t) Z W isS (m.bind λx=>.ok<|bG x):=λW1 e1 P k=>h W1 e1 _ (14 k λx kx v W2 e2 hv=>by
  cases hv;refine 32 x (kx _ W2 e2 λW3 e3=>⟨λi a ha=>?_,by show `V<=(bG x).length;simp[bG]⟩);unfold bG at ha;rw[GK]at ha;cases hc:x[i]? with
  |none=>rw[hc]at ha;cases ha
  |some c=>
   rw[hc]at ha;cases ha;refine⟨(GA.mp hc).1,λy H'⟨z1,c',z2,z3⟩=>⟨W3,z1.symm,`s,?_⟩⟩;rw[hc]at z2;cases z2;exact z3)
theorem lJ{m:`H}(h:43 t m):IV Er (AG<|aj t aU) Z W isI (m.bind λn=>iy n):=λW1 e1 P k=>h W1 e1 _ (14 k λn kn v W2 e2 hv=>by
  cases hv;obtain⟨hb,kn⟩:=bE kn;refine⟨n,`a,hb.1,hb.2,kn _ W2 e2 λW3 e3=>⟨λi a ha=>?_,by show n.toNat<=(gG n).length;simp[gG]⟩⟩;unfold gG at ha;rw[GK]at ha;have hi:i<n.toNat:=by
   refine MN λz=>?_;rw[IJ.mpr (by simp;omega)]at ha;cases ha
  rw[JW hi]at ha;cases ha;exact⟨hi,λy H'⟨z1,z2⟩=>⟨W3,z1.symm,`s,by rw[z2];show Kx (0+(i:Int))=.int (i:Int);rw[Rf]⟩⟩)
def SrcR(K:Gr)(W:Wd)(R:`l)(xs:`z)(v:V):Prop:=∃(c:Src)(vs:List V),2 v c.val (∀W1:Wd,93 W1.G->c.has K W1.H vs) (LR R W.G xs vs)
theorem SrcR.mono{R:`l}[`aJ]{xs:`z}{v:V}(h:SrcR K W R xs v)(e:93 W'.G):SrcR K W' R xs v:=by
 obtain⟨c,vs,h1,h2,h3⟩:=h;exact⟨c,vs,h1,λW1 e1=>h2 W1<|e.trans e1,h3.same e⟩
def SV(Er:`av)(t:TE)(Z:St)(W:Wd)(K:Gr)(R:`l)(m:`aF):Prop:=EV Er t Z W (λW xs v=>SrcR K W R xs v) m
theorem gi{R:`l}[`aJ]{m:`aF}(h:5 t (isL R) m):SV Er t Z W K R m:=h.imp λW xs v⟨p,vs,h0,h1,h2⟩=>⟨.lst p,vs,h0,λW1 e1=>Jc<|W1.ok _ _<|e1 _ _ h1,h2⟩
theorem wF{H:Hp}(x:Tx):LR isS H (bG x) (x.map λc=>LS<|sOf [c]):=⟨by simp[bG],λi v m e1 e2=>by
 unfold bG at e2;rw[GK]at e1 e2;cases hc:x[i]? with
 |none=>rw[hc]at e1;cases e1
 |some c=>rw[hc]at e1 e2;cases e1;cases e2;rfl⟩
theorem oJ{m:`I}(h:5 t isS m):SV Er t Z W K isS (m.bind λx=>.ok<|bG x):=134 W1 e1 _ (14 k λx kx v W2 e2 hv=>by cases hv;exact kx _ W2 e2 ⟨.str x,_,`a,`ah,wF x⟩)
theorem kT{R:`l}{m:Res (S×S×S)}(h:5 t (isT3 K R R R) m):SV Er t Z W K R (m.bind λx=>.ok [x.1,x.2.1,x.2.2]):=134 W1 e1 _ (14 k λx kx v W2 e2 hv=>by
  obtain⟨p,a,b,c,h0,h,h1,h2,h3⟩:=hv;exact kx _ W2 e2 ⟨.tup p,_,h0,λW3 e3=>Same.tup (e3.trans W3.ok) h,LR.three h1 h2 h3⟩)
theorem iD{R1:`l}{R2:`az}[Mono R1][Mono R2]{m1:`aF}{m2:75 β}(h1:SV Er t1 Z W K R1 m1)(h2:SV Er t2 Z W K R2 m2):IV Er (Bp K<|aj t1<|aj t2 aU) Z W (45 R1 R2) (m1.bind λxs=>m2.bind λys=>.ok<|xs.zip ys):=λW1 e1 P k=>h1 W1 e1 _ (14 k λxs kx v W2 e2 hv=>h2 W2 `L _ (14 kx λys ky u W3 e3 hu=>by
  obtain⟨c1,vs,rfl,a1,b1⟩:=SrcR.mono hv e3.g;obtain⟨c2,us,rfl,a2,b2⟩:=hu;refine⟨c1,c2,vs,us,`a,a1 W3 `s,a2 W3 `s,ky _ W3 `am λW4 e4=>⟨λi ab hab=>?_,?_⟩⟩
  ·rw[Kj]at hab;obtain⟨x,hx,rx⟩:=b1.get hab.1;obtain⟨y,hy,ry⟩:=b2.get hab.2;refine⟨⟨vs,us,x,y,a1 W4 e4,a2 W4 e4,hx,hy⟩,λz H'⟨p,x',y',hp,z0,z1,z2,z3⟩=>⟨W4.new p (.tup [x',y']),by rw[z3];rfl,.new _ hp,p,x',y',z0,OV aS,?_,?_⟩⟩
   ·have:=z1 vs (a1 W4 e4);rw[hx]at this;cases this;exact Gm (e4.trans (Ext.new _ hp).g) rx
   ·have:=z2 us (a2 W4 e4);rw[hy]at this;cases this;exact Gm (e4.trans (Ext.new _ hp).g) ry
  ·refine⟨vs,us,a1 W4 e4,a2 W4 e4,?_⟩;rw[JB,b1.1,b2.1];omega))
theorem wG{xs:`z}{i:Nat}{p:`c×S}(h:0 (iz xs)[i]? p):p.1=(i:Int)/\0 xs[i]? p.2:=by
 unfold iz at h;rw[NP]at h;cases h1:(Iw xs.length)[i]? with
 |none=>rw[h1]at h;cases h
 |some j=>
  cases h2:xs[i]? with
  |none=>rw[h1,h2]at h;cases h
  |some x=>
   rw[h1,h2]at h;cases h;have hi:=(GA.mp h2).1;rw[JW hi]at h1;cases h1;exact 15 `a
theorem wH{xs:`z}:121 (iz xs).length:=by simp[iz]
theorem sU{R:`l}[`aJ]{m:`aF}(h:5 t (isL R) m):IV Er (AK K<|aj t aU) Z W (45 isI R) (m.bind λxs=>.ok<|iz xs):=λW1 e1 P k=>h W1 e1 _ (14 k λxs kx v W2 e2 hv=>by
  obtain⟨p,vs,rfl,h1,h2⟩:=hv;refine⟨p,vs,`a,Jc<|W2.ok _ _ h1,kx _ W2 e2 λW3 e3=>⟨λi ab hab=>?_,vs,Jc<|W3.ok _ _<|e3 _ _ h1,by rw[wH,h2.1]⟩⟩;obtain⟨hi,ha⟩:=wG hab;obtain⟨x,hx,rx⟩:=h2.get ha;refine⟨⟨vs,x,Jc<|W3.ok _ _<|e3 _ _ h1,hx⟩,λz H'⟨q,x',hq,z0,z1,z2⟩=>⟨W3.new q (.tup [.int i,x']),by rw[z2];rfl,.new _ hq,q,_,x',z0,OV aS,by rw[hi];rfl,?_⟩⟩;have:=z1 vs (Jc<|W3.ok _ _<|e3 _ _ h1);rw[hx]at this;cases this;exact Gm (e3.trans (Ext.new _ hq).g) rx)
theorem uM{f:S->`aL}{xs:`z}{i:Nat}{a:S}(h:0 xs[i]? a):kO f (xs.drop i)=(f a).bind λb=>(kO f<|xs.drop<|i+1).bind λbs=>.ok (b::bs):=by
 obtain⟨hi,e⟩:=GA.mp h;rw[Il hi,e];rfl
theorem rA{f:S->Res (Option β)}{xs:`z}{i:Nat}{a:S}(h:0 xs[i]? a):jy f (xs.drop i)=(f a).bind λb=>(jy f<|xs.drop<|i+1).bind λbs=>.ok (match b with|some b=>b::bs|none=>bs):=by
 obtain⟨hi,e⟩:=GA.mp h;rw[Il hi,e];rfl
theorem fM{cap:List `ae}{wi:TI}{g:TG}{te:TE}{R:`l}{R':`az}[Mono R']{m:`aF}{f:S->`aL}(hi:IV Er wi Z W R m)
  (hb:∀(W1:Wd)(a:S)(v:V),50 W1->R W1.G a v->∀Q:VK,(44 (f a) λb=>∀u W2,Ext W1 W2->R' W2.G b u->Q u W2.H)->g v (bU cap Z) W1.H λσ2 H2=>Keep (bU cap Z) σ2/\te σ2 H2 Q):
  EVo Er (pM cap wi g Bn te) Z W R' (m.bind λxs=>fw xs f):=λW1 e1 Q k=>by
 refine hi W1 e1 _ (14 k λxs kx J W2 e2 hy=>?_);obtain⟨hl,kx⟩:=bE (Gp kx);refine⟨λi n ys H=>2 n (`t-i) (i<=`t)<|ys.length<=i/\∃(W3:Wd)(bs:List β),2 W3.H H (Ext W2 W3) (LR R' W3.G bs ys/\44 (kO f<|xs.drop i) (λr=>∀p W4,Ext W1 W4->7 (W1.H p)->Ow R' W4 p (bs++r)->Q `O W4.H)),⟨`t,`g,`g,`g,W2,[],`a,`s,.nil,?_⟩,?_⟩;·simpa using kx
 ·rintro i n ys H ⟨rfl,hi1,hyl,W3,bs,rfl,e3,lr,q⟩;refine⟨by rw[Iq];unfold Mi.cap at hl;omega,?_⟩;by_cases hlt:i<`t
  ·obtain⟨a,ha⟩:∃a,0 xs[i]? a:=⟨xs[i],by simp[hlt]⟩
   obtain⟨h1,h2⟩:=(hy W3 e3.g).1 i a ha;refine .inr ⟨h1,λys' H'=>ys'.length<=i+1/\∃(W3:Wd)(bs:List β),2 W3.H H' (Ext W2 W3) (LR R' W3.G bs ys'/\44 (kO f<|xs.drop<|i+1) (λr=>∀p W4,Ext W1 W4->7 (W1.H p)->Ow R' W4 p (bs++r)->Q `O W4.H)),λys' H'⟨z1,z2⟩=>⟨`t-(i+1),`b,`a,hlt,z1,z2⟩,λx H' hx=>?_⟩;obtain⟨W4,rfl,e4,rx⟩:=h2 x H' hx;rw[uM ha]at q;have:=hb W4 a x (e1.trans<|(`am).trans e4) rx (λy H4=>(ys++[y]).length<=i+1/\∃(W3:Wd)(bs:List β),2 W3.H H4 (Ext W2 W3) (LR R' W3.G bs (ys++[y])/\44 (kO f<|xs.drop<|i+1) (λr=>∀p W4,Ext W1 W4->7 (W1.H p)->Ow R' W4 p (bs++r)->Q `O W4.H)))
    (14 q λb kb u W5 e5 hu=>⟨by simp;exact hyl,W5,bs++[b],rfl,(`bN).trans e5,(lr.same (e4.trans e5).g).snoc hu,14 kb λr kr=>by rw[Hj];exact kr⟩)
   exact this
  ·have e:121 i:=`b
   subst e;rw[Ku]at q;refine 116 (hy W3 e3.g).2 λD hD=>?_;have a0:=`am;have:=q D (W3.mut D (.lst ys)<|W3.gnone hD) (a0.trans<|.own _ hD) (bJ a0.h hD) ⟨W3.gnone hD,ys,aS,by rw[Im];exact lr⟩;exact this
theorem lK{cap:List `ae}{wi:TI}{g:TG}{tf:TT}{te:TE}{R:`l}{R':`az}[Mono R']{m:`aF}{f:S->Res (Option β)}(hi:IV Er wi Z W R m)
    (hb:∀(W1:Wd)(a:S)(v:V),Ext W W1->R W1.G a v->∀Q:Option V->Hp->Prop,(f a).OkE Er (λb=>∀u W2,Ext W1 W2->(match b,u with|some b,some u=>R' W2.G b u|none,none=>True|_,_=>False)->Q u W2.H)->g v (bU cap Z) W1.H λσ2 H2=>Keep (bU cap Z) σ2/\tf σ2 H2 λb H3=>if 1 b then te σ2 H3 (λy H4=>Q (some y) H4)else Q `j H3):
    EVo Er (pM cap wi g tf te) Z W R' (m.bind λxs=>lG xs f):=λW1 e1 Q k=>by
  refine hi W1 e1 _ (14 k λxs kx J W2 e2 hy=>?_);obtain⟨hl,kx⟩:=bE (Gp kx);refine⟨λi n ys H=>2 n (`t-i) (i<=`t)<|ys.length<=i/\∃(W3:Wd)(bs:List β),2 W3.H H (Ext W2 W3) (LR R' W3.G bs ys/\44 (jy f<|xs.drop i) (λr=>∀p W4,Ext W1 W4->7 (W1.H p)->Ow R' W4 p (bs++r)->Q `O W4.H)),⟨`t,`g,`g,`g,W2,[],`a,`s,.nil,?_⟩,?_⟩;·simpa using kx
  · rintro i n ys H ⟨rfl,hi1,hyl,W3,bs,rfl,e3,lr,q⟩;refine⟨by rw[Iq];unfold Mi.cap at hl;omega,?_⟩;by_cases hlt:i<`t
    · obtain⟨a,ha⟩:∃a,0 xs[i]? a:=⟨xs[i],by simp[hlt]⟩
      obtain⟨h1,h2⟩:=(hy W3 e3.g).1 i a ha;refine .inr ⟨h1,λys' H'=>ys'.length<=i+1/\∃(W3:Wd)(bs:List β),2 W3.H H' (Ext W2 W3) (LR R' W3.G bs ys'/\44 (jy f<|xs.drop<|i+1) (λr=>∀p W4,Ext W1 W4->7 (W1.H p)->Ow R' W4 p (bs++r)->Q `O W4.H)),λys' H'⟨z1,z2⟩=>⟨`t-(i+1),`b,`a,hlt,z1,z2⟩,λx H' hx=>?_⟩;obtain⟨W4,rfl,e4,rx⟩:=h2 x H' hx;rw[rA ha]at q
      have:=hb W4 a x (e1.trans<|(`am).trans e4) rx (λy H4=>(match y with|some y=>ys++[y]|none=>ys).length<=i+1/\∃(W3:Wd)(bs:List β),2 W3.H H4 (Ext W2 W3) (LR R' W3.G bs (match y with|some y=>ys++[y]|none=>ys)/\44 (jy f<|xs.drop<|i+1) (λr=>∀p W4,Ext W1 W4->7 (W1.H p)->Ow R' W4 p (bs++r)->Q `O W4.H))) (14 q λb kb u W5 e5 hu=>by
          match b,u,hu,kb with
          |some b,some u,hu,kb=>exact⟨by simp;exact hyl,W5,bs++[b],rfl,(`bN).trans e5,(lr.same (e4.trans e5).g).snoc hu,14 kb λr kr=>by rw[Hj];exact kr⟩
          |none,none,hu,kb=>exact⟨by show ys.length<=i+1;omega,W5,bs,rfl,(`bN).trans e5,lr.same (e4.trans e5).g,14 kb λr kr=>kr⟩)
      exact this
    · have e:121 i:=`b
      subst e;rw[Ku]at q;refine 116 (hy W3 e3.g).2 λD hD=>?_;have a0:=`am;have:=q D (W3.mut D (.lst ys)<|W3.gnone hD) (a0.trans<|.own _ hD) (bJ a0.h hD) ⟨W3.gnone hD,ys,aS,by rw[Im];exact lr⟩;exact this
end
section
variable{S β γ δ:Type}{t u:TS}{te ti:TE}{g:TG}{D:Ends}{Z:St}{W W0 W':Wd}{K:Gr}{i j k n:Nat}{P:11 St Hp}{H:Hp}{v:V}
theorem gn{σ':St}(h:P σ' H)(hσ:Z.set i (some v)=σ':=by rfl):aW i v Z H P:=by subst hσ;exact h
theorem i4{σ':V->V->St}{R1:`l}{R2:`az}{ab:S×β}(h:isT2 K R1 R2 W.G ab v)(q:∀x y,R1 W.G ab.1 x->R2 W.G ab.2 y->P (σ' x y) W.H)(hσ:∀x y,(Z.set i<|some x).set j (some y)=σ' x y:=by intro _ _;rfl):cf K 2 (bf (aW i)<|bf (aW j) cv) v Z W.H P:=by
 obtain⟨p,x,y,h0,h,h1,h2⟩:=h;exact⟨p,_,h0,Same.tup W.ok h,`a,x,_,`a,y,_,`a,`a,by have:=q x y h1 h2;rw[<-hσ]at this;exact this⟩
theorem uN{σ':V->V->V->St}{R1:`l}{R2:`az}{R3:Rp γ}{ab:S×β×γ}(h:isT3 K R1 R2 R3 W.G ab v)(q:∀x y z,R1 W.G ab.1 x->R2 W.G ab.2.1 y->R3 W.G ab.2.2 z->P (σ' x y z) W.H)(hσ:∀x y z,((Z.set i<|some x).set j<|some y).set k (some z)=σ' x y z:=by intro _ _ _;rfl):cf K 3 (bf (aW i)<|bf (aW j)<|bf (aW k) cv) v Z W.H P:=by
 obtain⟨p,x,y,z,h0,h,h1,h2,h3⟩:=h;exact⟨p,_,h0,Same.tup W.ok h,`a,x,_,`a,y,_,`a,z,_,`a,`a,by have:=q x y z h1 h2 h3;rw[<-hσ]at this;exact this⟩
theorem bh{t r:TS}{D:Ends}{Z:St}{H:Hp}(h:t {D with nx:=r D} Z H):eI t r D Z H:=h
theorem ao{kk k2 k3:11 St Hp}{k1:VK}{σ':V->St}{R:Rw S}{m:`as}(h:EV Er te Z W R m)(q:m.OkE Er λa=>∀v W',50 W'->R W' a v->kk (σ' v) W'.H)(hσ:∀v,Z.set i (some v)=σ' v:=by intro _;rfl):bT te (aW i) ⟨kk,k1,k2,k3⟩ Z W.H:=h W `s _ (q.imp λa k v W' e r=>by have:=k v W' e r;rw[<-hσ]at this;exact this)
theorem fN{kk k2 k3:11 St Hp}{k1:VK}{σ':Addr->St}{R:`l}{m:`aF}(h:EVo Er te Z W R m)(q:m.OkE Er λa=>∀p W',50 W'->7 (W.H p)->Ow R W' p a->kk (σ' p) W'.H)(hσ:∀p,Z.set i (24 p)=σ' p:=by intro _;rfl):bT te (aW i) ⟨kk,k1,k2,k3⟩ Z W.H:=h W `s _ (q.imp λa k p W' e hp r=>by have:=k p W' e hp r;rw[<-hσ]at this;exact this)
theorem aM{R:Rw S}{m:`as}(h:EV Er te Z W R m)(q:m.OkE Er λa=>∀v W',50 W'->R W' a v->D.rt v W'.H):bX te D Z W.H:=h W `s _ q
theorem jA{R:`l}{m:`aF}(h:EVo Er te Z W R m)(q:m.OkE Er λa=>∀p W',50 W'->7 (W.H p)->Ow R W' p a->D.rt `O W'.H):bX te D Z W.H:=h W `s _ q
theorem pT{c:TT}{m:`x}(h:TV Er c Z W m)(q:m.OkE Er λb=>∀W',Ext W W'->if 1 b then t D Z W'.H else u D Z W'.H):ik c t u D Z W.H:=h W `s _ q
theorem oK{Z1:Type}{c:TT}{m:`x}{mA mB:Res Z1}{P:49 Z1}(Iv:82 Z1 Wd St)(h:TV Er c Z W m)(q:44 (m.bind λb=>if b then mA else mB) P)
  (hA:∀W'(N:11 St Hp),Ext W W'->(∀s W1 σ1,93 W1.G->Iv s W1 σ1->P s->N σ1 W1.H)->mA.OkE Er P->t {D with nx:=N} Z W'.H)
  (hB:∀W'(N:11 St Hp),Ext W W'->(∀s W1 σ1,93 W1.G->Iv s W1 σ1->P s->N σ1 W1.H)->mB.OkE Er P->u {D with nx:=N} Z W'.H)
  (hd:∀s W1 σ1,93 W1.G->Iv s W1 σ1->P s->D.nx σ1 W1.H):ik c t u D Z W.H:=h W `s _ (14 q λb kb W' e=>by
 cases b with
 |true=>exact hA W' D.nx e hd kb
 |false=>exact hB W' D.nx e hd kb)
theorem Ow.ne{R:`l}{p q:Addr}{ys:`z}(o:Ow R W q ys)(hp:7 (W.H p)):q≠p:=by
 obtain⟨vs,a,b⟩:=o.h;exact df a hp
structure Mu(W W':Wd)(p:Addr):Prop where
 g:93 W'.G
 e:∀W0:Wd,39 W->7 (W0.H p)->39 W'
 h:∀q,q≠p->W.H q≠`j->W'.H q=W.H q/\W'.G q=W.G q
theorem Mu.of{W1:Wd}{p:Addr}{o:HO}(e1:50 W1)(hg:7 (W1.G p)):Mu W (W1.mut p o hg) p:=⟨e1.g,λW0 e0 hp=>(e0.trans e1).mut hp hg,λq hq hn=>by
 obtain⟨o',ho⟩:=MC.mp hn;exact⟨by show dF W1.H p o q=_;rw[aH hq,e1.h _ _ ho,ho],e1.k q hn⟩⟩
theorem Mu.ow{R:`l}[`aJ]{p q:Addr}{ys:`z}(m:Mu W W' p)(hq:q≠p)(o:Ow R W q ys):Ow R W' q ys:=by
 obtain⟨vs,a,b⟩:=o.h;obtain⟨h1,h2⟩:=m.h q hq (by rw[a];exact λz=>nomatch z);exact⟨by rw[h2];exact o.g,vs,by rw[h1];exact a,b.same m.g⟩
theorem i5{kk k2 k3:11 St Hp}{k1:VK}{R:`l}[`aJ]{p:Addr}{xs:`z}{m:`as}(o:Ow R W p xs)(h:5 te R m)(q:44 (m.bind λa=>jx xs a) λys=>∀W',Mu W W' p->Ow R W' p ys->kk Z W'.H)(hi:0 Z[i]? (24 p):=by rfl):bj (eH K "list" aE (bH i)<|aj te aU) ⟨kk,k1,k2,k3⟩ Z W.H:=by
 obtain⟨vs,h1,h2⟩:=o.h;refine⟨`O,hi,.inl ⟨`a,vs,Jc h1⟩,h W `s _<|143 q ?_⟩;obtain⟨h3,h4⟩:=bE ka;have hg:=(o.mono e2).g;refine⟨p,vs,v,rfl,rfl,e2.h _ _ h1,by rw[h2.1,Iq];unfold Mi.cap at h3;omega,h4 (W2.mut p (.lst<|vs++[v]) hg) (.of e2 hg) ⟨hg,_,aS,(h2.same e2.g).snoc hv⟩⟩
theorem LR.set{R:`l}{H:Hp}{as:`z}{vs:`E}{a:S}{v:V}(h:LR R H as vs)(r:R H a v)(j:Nat):LR R H (as.set j a) (vs.set j v):=⟨by simp[h.1],λi x m e1 e2=>by
 rw[List.getElem?_set]at e1 e2;by_cases z:j=i
 ·rw[Z3 z]at e1 e2;split at e1
  ·split at e2;·cases e1;cases e2;exact r
   ·cases e2
  ·cases e1
 ·rw[Z4 z]at e1 e2;exact h.2 i x m e1 e2⟩
theorem oM{R:`l}[`aJ]{p:Addr}{xs:`z}{m:`as}{mi:`H}(o:Ow R W p xs)(h:5 te R m)(hj:43 ti mi)(q:44 (m.bind λa=>mi.bind λj=>lF xs j a) λys=>∀W',Mu W W' p->Ow R W' p ys->D.nx Z W'.H)(hi:0 Z[i]? (24 p):=by rfl):bT te (CI (bH i) ti AI) D Z W.H:=by
 obtain⟨vs,h1,h2⟩:=o.h;refine h W `s _ (143 q ⟨`O,hi,hj W2 e2 _<|14 ka λj kj x W3 e3 hx=>?_⟩);cases hx;obtain⟨l,h3,h4⟩:=fI (Gp kj);have e:=`am;have hg:=(o.mono e).g;exact⟨p,vs,j,l,rfl,rfl,e.h _ _ h1,by rw[h2.1];exact h3,h4 (W3.mut p (.lst<|vs.set l v) hg) (.of e hg) ⟨hg,_,aS,(h2.same e.g).set (Gm (R:=R) e3.g hv) l⟩⟩
def qU{Z1:Type}(W:Wd)(Iv:82 Z1 Wd St)(P:49 Z1):11 St Hp:=λσ' H'=>∃s' W',2 W'.H H' (93 W'.G) (Iv s' W' σ'/\P s')
theorem nE{Z1:Type}{f:64 S Z1 Z1}{xs:`z}{i:Nat}{a:S}{s:Z1}(h:0 xs[i]? a):cK f (xs.drop i) s=(f a s).bind λs=>cK f (xs.drop<|i+1) s:=by
 obtain⟨hi,e⟩:=GA.mp h;rw[Il hi,e];rfl
theorem rB{Z1:Type}{wi:TI}{tb:TS}{R:`l}{m:`aF}{f:64 S Z1 Z1}{s0:Z1}{P:49 Z1}(Iv:82 Z1 Wd St)(hi:IV Er wi Z W R m)(q:44 (m.bind λxs=>cK f xs s0) P)
  (h0:∀W1,50 W1->Iv s0 W1 Z)
  (hs:∀Wb W1 W2 a v s σ1 P',Same W.G W1.G->Same Wb.G W1.G->Iv s W1 σ1->Ext W1 W2->R W2.G a v->(f a s).OkE Er P'->g v σ1 W2.H λσ2 H2=>tb {D with nx:=qU Wb Iv P',ct:=qU Wb Iv P',bk:=D.nx} σ2 H2)
  (hd:∀s W1 σ1,93 W1.G->Iv s W1 σ1->P s->D.nx σ1 W1.H):uo wi g tb D Z W.H:=by
 refine hi W `s _ (14 q λxs kx J W1 e1 hy=>?_);refine⟨λi n σ' H'=>2 n (`t-i) (i<=`t)<|∃s' W',2 W'.H H' (Same W1.G W'.G)<|Iv s' W' σ'/\44 (cK f (xs.drop i) s') P,⟨`t,`g,`g,s0,W1,`a,`s,h0 W1 e1,by simpa using kx⟩,?_⟩;rintro i n σ1 H1 ⟨rfl,hi1,s,W2,rfl,e2,iv,k⟩;by_cases hlt:i<`t
 ·obtain⟨a,ha⟩:∃a,0 xs[i]? a:=⟨xs[i],by simp[hlt]⟩
  obtain⟨h1,h2⟩:=(hy W2 e2).1 i a ha;refine .inr ⟨h1,qU W1 Iv λs'=>44 (cK f (xs.drop<|i+1) s') P,λσ' H'⟨s',W',z1,z2,z3,z4⟩=>⟨`t-(i+1),`b,`a,hlt,s',W',z1,z2,z3,z4⟩,λx H' hx=>?_⟩;obtain⟨W3,rfl,e3,rx⟩:=h2 x H' hx;rw[nE ha]at k;exact hs W1 W2 W3 a x s σ1 (λs'=>44 (cK f (xs.drop<|i+1) s') P) (e1.g.trans e2) e2 iv e3 rx (Gp k)
 ·have e:121 i:=`b
  subst e;rw[Ku]at k;exact 116 (hy W2 e2).2 (hd s W2 σ1 (e1.g.trans e2) iv k)
theorem uO{Z1:Type}{f:64 S Z1 (Fl γ Z1)}{xs:`z}{i:Nat}{a:S}{s:Z1}(h:0 xs[i]? a):eJ f (xs.drop i) s=(f a s).bind (wA<|eJ f<|xs.drop<|i+1):=by
 obtain⟨hi,e⟩:=GA.mp h;rw[Il hi,e];rfl
theorem sV{Z1:Type}{wi:TI}{tb:TS}{R:`l}{m:`aF}{f:64 S Z1 (Fl γ Z1)}{s0:Z1}{P:49 (Fl γ Z1)}(Iv:82 Z1 Wd St)(hi:IV Er wi Z W R m)(q:44 (m.bind λxs=>eJ f xs s0) P)
  (h0:∀W1,50 W1->Iv s0 W1 Z)
  (hs:∀Wb W1 W2 a v s σ1 P',Same W.G W1.G->Same Wb.G W1.G->Iv s W1 σ1->Ext W1 W2->R W2.G a v->(∀r,P' (.rt r)->P (.rt r))->(f a s).OkE Er P'->g v σ1 W2.H λσ2 H2=>tb {D with nx:=qU Wb Iv λs'=>P'<|.nx s',ct:=qU Wb Iv λs'=>P'<|.nx s',bk:=D.nx} σ2 H2)
  (hd:∀s W1 σ1,93 W1.G->Iv s W1 σ1->P (.nx s)->D.nx σ1 W1.H):uo wi g tb D Z W.H:=by
 refine hi W `s _ (14 q λxs kx J W1 e1 hy=>?_);refine⟨λi n σ' H'=>2 n (`t-i) (i<=`t)<|∃s' W',2 W'.H H' (Same W1.G W'.G)<|Iv s' W' σ'/\44 (eJ f (xs.drop i) s') P,⟨`t,`g,`g,s0,W1,`a,`s,h0 W1 e1,by simpa using kx⟩,?_⟩;rintro i n σ1 H1 ⟨rfl,hi1,s,W2,rfl,e2,iv,k⟩;by_cases hlt:i<`t
 ·obtain⟨a,ha⟩:∃a,0 xs[i]? a:=⟨xs[i],by simp[hlt]⟩
  obtain⟨h1,h2⟩:=(hy W2 e2).1 i a ha;refine .inr ⟨h1,qU W1 Iv λs'=>44 (eJ f (xs.drop<|i+1) s') P,λσ' H'⟨s',W',z1,z2,z3,z4⟩=>⟨`t-(i+1),`b,`a,hlt,s',W',z1,z2,z3,z4⟩,λx H' hx=>?_⟩;obtain⟨W3,rfl,e3,rx⟩:=h2 x H' hx;rw[uO ha]at k;exact hs W1 W2 W3 a x s σ1 (λfl=>match fl with| .nx s'=>(eJ f (xs.drop<|i+1) s').OkE Er P| .bk s'=>P (.nx s')| .rt r=>P<|.rt r) (e1.g.trans e2) e2 iv e3 rx (λr h=>h) (14 k λfl h=>by cases fl<;>exact h)
 ·have e:121 i:=`b
  subst e;rw[Ku]at k;exact 116 (hy W2 e2).2 (hd s W2 σ1 (e1.g.trans e2) iv k)
section
variable{r:TS}
theorem eN{R:Rw S}{m:`as}(h:EV Er te Z W R m)(q:m.OkE Er λa=>∀v W',50 W'->R W' a v->g v Z W'.H (r D)):eI (bT te g) r D Z W.H:=h W `s _ q
theorem cu{c:TT}{m:`x}(h:TV Er c Z W m)(q:m.OkE Er λb=>∀W',Ext W W'->if 1 b then t {D with nx:=r D} Z W'.H else u {D with nx:=r D} Z W'.H):eI (ik c t u) r D Z W.H:=h W `s _ q
theorem cb{Z1:Type}{c:TT}{m:`x}{mA mB:Res Z1}{P:49 Z1}(Iv:82 Z1 Wd St)(h:TV Er c Z W m)(q:44 (m.bind λb=>if b then mA else mB) P)
  (hA:∀W'(N:11 St Hp),Ext W W'->(∀s W1 σ1,93 W1.G->Iv s W1 σ1->P s->N σ1 W1.H)->mA.OkE Er P->t {D with nx:=N} Z W'.H)
  (hB:∀W'(N:11 St Hp),Ext W W'->(∀s W1 σ1,93 W1.G->Iv s W1 σ1->P s->N σ1 W1.H)->mB.OkE Er P->u {D with nx:=N} Z W'.H)
  (hd:∀s W1 σ1,93 W1.G->Iv s W1 σ1->P s->r D σ1 W1.H):eI (ik c t u) r D Z W.H:=oK (D:={D with nx:=r D}) Iv h q hA hB hd
theorem dX{Z1:Type}{wi:TI}{tb:TS}{R:`l}{m:`aF}{f:64 S Z1 Z1}{s0:Z1}{P:49 Z1}(Iv:82 Z1 Wd St)(hi:IV Er wi Z W R m)(q:44 (m.bind λxs=>cK f xs s0) P)
  (h0:∀W1,50 W1->Iv s0 W1 Z)
  (hs:∀Wb W1 W2 a v s σ1 P',Same W.G W1.G->Same Wb.G W1.G->Iv s W1 σ1->Ext W1 W2->R W2.G a v->(f a s).OkE Er P'->g v σ1 W2.H λσ2 H2=>tb {D with nx:=qU Wb Iv P',ct:=qU Wb Iv P',bk:=r D} σ2 H2)
  (hd:∀s W1 σ1,93 W1.G->Iv s W1 σ1->P s->r D σ1 W1.H):eI (uo wi g tb) r D Z W.H:=rB (D:={D with nx:=r D}) Iv hi q h0 hs hd
theorem fU{Z1:Type}{wi:TI}{tb:TS}{R:`l}{m:`aF}{f:64 S Z1 (Fl γ Z1)}{s0:Z1}{P:49 (Fl γ Z1)}(Iv:82 Z1 Wd St)(hi:IV Er wi Z W R m)(q:44 (m.bind λxs=>eJ f xs s0) P)
  (h0:∀W1,50 W1->Iv s0 W1 Z)
  (hs:∀Wb W1 W2 a v s σ1 P',Same W.G W1.G->Same Wb.G W1.G->Iv s W1 σ1->Ext W1 W2->R W2.G a v->(∀r,P' (.rt r)->P (.rt r))->(f a s).OkE Er P'->g v σ1 W2.H λσ2 H2=>tb {D with nx:=qU Wb Iv λs'=>P'<|.nx s',ct:=qU Wb Iv λs'=>P'<|.nx s',bk:=r D} σ2 H2)
  (hd:∀s W1 σ1,93 W1.G->Iv s W1 σ1->P (.nx s)->r D σ1 W1.H):eI (uo wi g tb) r D Z W.H:=sV (D:={D with nx:=r D}) Iv hi q h0 hs hd
end
theorem cV{Z1:Type}{Wb W:Wd}{Iv:82 Z1 Wd St}{P:49 Z1}(s:Z1)(hs:Same Wb.G W.G)(iv:Iv s W Z)(hq:P s):qU Wb Iv P Z W.H:=⟨s,W,`a,hs,iv,hq⟩
end
end Wb
open Wb.EV renaming pk->Kd
open Wb.EVo renaming ev->II,pk->Ll
open Wb.Ext renaming new->Pj
open Wb.MonoW renaming mono->Ke
open Wb.Same renaming tup->Jn
open Wb.SrcR renaming mono->Sf
namespace L2
open PySem PySem.Spec PyProof.Rows
section
variable{X:Cx}{K:Gr}{w:GW}
theorem pU{ns:List Bool}:∀{us:List Gu},99 (ns.map Se)->LSm.BoolsAre us ns:=by
 induction ns with
 |nil=>intro us r;cases r;exact .nil
 |cons b r ih=>intro us h;cases h with|cons h1 h2=>cases h1;exact .cons b (ih h2)
theorem nF(hc:`bw)(hK:X.K=K):eY X (.builtin "all") λxs H Q=>∃(p:Addr)(bs:List Bool),2 xs [.ref p] (SqL K H p<|bs.map Se) (Q (.bl<|bs.all id) H):=by
 subst hK;intro Z_ s Z H xs us Q I r h;obtain⟨p,bs,rfl,hq,q⟩:=h;obtain⟨u,rfl,rx⟩:=gL r;cases rx;obtain⟨its,r',pl,hz⟩:=I.list hq;have hb:=pU r';have hl:=pl.isList;have hlt:p<`bk:=by obtain⟨_,e,_⟩:=hl;exact GG e
 refine call_all_walk (LH hl ?_);refine⟨`bk,[s.heap.objs.size,p],[s.heap.objs.size],its.toArray.size,_,_,λi=>(bs[i]?).getD `o,`a,Walks.list (A:=X.A.in1) `bu _ p (GY hlt) `bj,⟨⟨_,86 _,`a,`a⟩,hl.push _⟩,λi v s' Q' E' hP hQ=>?_,λh' tk hk=>?_⟩
 ·obtain⟨b,e,rfl⟩:=hb.get i v (by simpa using hP);simp only[e,M3]at hQ;exact Km hQ
 ·have e:((Iw its.toArray.size).all λi=>(bs[i]?).getD `o)=bs.all id:=by
   rw[GN,hb.length];exact LSm.range_all bs
  rw[e];exact⟨.bl _,H,I.kept<|LSm.kept_iter hk,`a,q⟩
end
end L2
namespace Wb
open PySem L2 Mi
variable{Er:`av}
section
variable{S β γ δ:Type}{t ta tb tc:TE}{Z:St}{W W0 W':Wd}{K:Gr}{w:GW}
theorem sW{a n r:Int}(hc:0<=n/\n<=1000000/\a.natAbs<2^64)(hr:a^n.toNat=r):43 (d9 (rI CL λi j=>.int<|i^j.toNat) (tC<|.int a)<|tC<|.int n) (.ok r):=λW1 e1 Q k=>⟨a,n,`a,`a,hc,by show Q (.int<|a^n.toNat) W1.H;rw[hr];exact k _ W1 `s `a⟩
def isScr(K:Gr):Rp `P:=λH ns v=>∃a,v=`ai/\SqL K H a (ns.map Kx)
instance zkeep17:Mono (isScr K):=⟨λe⟨a,h1,h2⟩=>⟨a,h1,e.seq h2⟩⟩
theorem nG{ma:`aY}(ha:5 ta (isScr K) ma):43 (dM (λxs H Q=>∃x n,2 xs [x] (r0 K x H n)<|Q (.int n) H)<|aj ta aU) (74<|.ok (a.length:Int)):=108 W1 e1 _ (107 k<|by
  obtain⟨p,rfl,h1⟩:=hx;exact⟨_,a.length,`a,.inl<|8 (W2.ok.seq h1) `g,ka _ W2 e2 `a⟩)
theorem wI{ma:`aY}{mb:`H}(ha:5 ta (isScr K) ma)(hb:43 tb mb):43 (d9 (cm K) ta tb) (74<|118<|gr a b):=
 rp ha hb λW a b x y Q hx hy k=>by
  cases hy;obtain⟨p,rfl,h1⟩:=hx;obtain⟨c,h4,h5⟩:=fI k;have lr:LR isI W.G a (a.map Kx):=⟨`g,λi v m e1 e2=>by rw[GK,e2]at e1;cases e1;rfl⟩
  obtain⟨z,h6,h7⟩:=oH lr h4;exact⟨p,_,b,z,`a,`a,W.ok.seq h1,h6,h5 _ W `s h7⟩
theorem sX{ma:`x}(ha:5 ta isB ma):43 (dM (λxs H Q=>(∃i,xs=[.int i]/\Q (.int i) H)\/∃k,xs=[.bl k]/\Q (.int (if k then 1 else 0)) H)<|aj ta aU) (74<|.ok (if a then(1:Int)else 0)):=108 W1 e1 _ (107 k<|by cases hx;exact .inr (32 a<|ka _ W2 e2 `a))
theorem rC{R:`l}{W1 W2:Wd}{xs:`z}{vs:`E}{Q:VK}(h:LR R W2.G xs vs)(e:Ext W1 W2)(k:∀p W2,Ext W1 W2->7 (W1.H p)->Ow R W2 p xs->Q `O W2.H)(r:Addr)(hr:7 (W2.H r)):Q (.ref r) (115 W2.H r vs):=
 k r (W2.mut r (.lst vs)<|W2.gnone hr) (e.trans<|.own _ hr) (bJ e.h hr) ⟨W2.gnone hr,vs,aS,h⟩
theorem pV{R:`l}{ma:`aF}(ha:EV Er ta Z W (pk R) ma):EVo Er (dM (λxs H Q=>∃p ys,2 xs [.ref p] (SqL K H p ys\/SqT K H p ys)<|∀l,41 l->Q (.ref l) (115 H l ys))<|aj ta aU) Z W R ma:=108 W1 e1 _ (k.imp λa ka x W2 e2 hx=>by
  obtain⟨p,vs,rfl,h1,h2⟩:=hx;exact⟨p,vs,`a,.inl<|Jc h1,λl hl=>rC h2 e2 ka l hl⟩)
theorem LR.ints{H:Hp}{ns:`P}{vs:`E}(h:LR isI H ns vs):vs=ns.map Kx:=by
 refine Jh λi=>?_;rw[GK];cases e:ns[i]? with
 |none=>rw[IJ]at e;rw[IJ.mpr (by rw[h.1];exact e)];rfl
 |some m=>obtain⟨v,a,b⟩:=h.get e;rw[a];cases b;rfl
theorem LR.bools{H:Hp}{ns:List Bool}{vs:`E}(h:LR isB H ns vs):vs=ns.map Se:=by
 refine Jh λi=>?_;rw[GK];cases e:ns[i]? with
 |none=>rw[IJ]at e;rw[IJ.mpr (by rw[h.1];exact e)];rfl
 |some m=>obtain⟨v,a,b⟩:=h.get e;rw[a];cases b;rfl
theorem wJ{ma:`aY}(ha:EV Er ta Z W (pk isI) ma):43 (dM (λxs H Q=>∃(p:Addr)(ns:List Int),2 xs [.ref p] (SqL K H p<|ns.map Kx)<|Q (.int ns.sum) H)<|aj ta aU) (74<|.ok a.sum):=108 W1 e1 _ (107 k<|by
  obtain⟨p,vs,rfl,h1,h2⟩:=hx;exact⟨p,a,`a,Jc<|by rw[h1,h2.ints],ka _ W2 e2 `a⟩)
theorem wK{ma:75 Bool}(ha:EV Er ta Z W (pk isB) ma):5 (dM (λxs H Q=>∃(p:Addr)(bs:List Bool),2 xs [.ref p] (SqL K H p<|bs.map Se)<|Q (.bl<|bs.all id) H)<|aj ta aU) isB (74<|.ok<|a.all id):=108 W1 e1 _ (107 k<|by
  obtain⟨p,vs,rfl,h1,h2⟩:=hx;exact⟨p,a,`a,Jc<|by rw[h1,h2.bools],ka _ W2 e2 `a⟩)
theorem oN{ma mb:`H}(ha:43 ta ma)(hb:43 tb mb):43 (dM (λxs H Q=>∃i j,xs=[.int i,.int j]/\Q (.int (if j>i then j else i)) H)<|aj ta<|aj tb aU) (74<|118<|.ok (if b>a then b else a)):=108 W1 e1 _ (107 k<|hb W2 `L _ (151 ka<|by cases hx;cases hy;exact⟨a,b,`a,kb _ W3 `am `a⟩))
theorem wL{f:S->V}{g:β->Key}[DecidableEq β](hg:∀a b,g a=g b->a=b)(kvs:6 β S)(k:β):jj (kvs.map λp=>(g p.1,f p.2)) (g k)=(look kvs k).map f:=by
 induction kvs with
 |nil=>rfl
 |cons p r ih=>
  unfold look at ih ⊢;rw[Hm];by_cases z:p.1=k;·rw[iu (by rw[z]),List.find?_cons_of_pos (by simpa using z)];rfl
  ·rw[iw λe=>z (hg _ _ e),ih,List.find?_cons_of_neg (by simpa using z)]
theorem sY{R:`l}{Rk:`az}[DecidableEq β]{d:Addr}{kv:6 Key V}{kvs:6 β S}{f:S->V}{g:β->Key}(hg:∀a b,g a=g b->a=b)(hf:∀H a,R H a (f a))(hk:∀H b v,Rk H b v->v=kV (g b))(D:DictK K w d kv)(e:kv=kvs.map λp=>(g p.1,f p.2)){m:`aL}(h:5 t Rk m):
  5 (aP K w (tC<|.ref d) t) R (m.bind λk=>getD kvs k):=134 W1 e1 _ (14 k λb kb v W2 e2 hv=>by
  obtain⟨a,h1,h2⟩:=fI kb;refine⟨d,kv,g b,f a,`a,D,hk _ _ _ hv,?_,h2 _ W2 e2<|hf _ _⟩;rw[e,wL hg,h1];rfl)
theorem EW:∀a b:Tx,(Kq (sOf a):Key)=Kq (sOf b)->a=b:=λa b e=>sM (Rq e)
theorem EY:∀a b:Int,(Kp a:Key)=Kp b->a=b:=λa b e=>Ro e
theorem uP{d:Addr}{kv:6 Key V}{kvs:6 Tx `c}(D:DictK K w d kv)(e:kv=kvs.map λp=>(Kq (sOf p.1),Kx p.2)){m:`I}(h:5 t isS m):43 (aP K w (tC<|.ref d) t) (m.bind λk=>getD kvs k):=sY (R:=isI) (f:=Kx) (g:=λa=>Kq (sOf a)) EW `ah (λ_ _ _ h=>h) D e h
theorem uQ{d:Addr}{kv:6 Key V}{kvs:6 `c Tx}(D:DictK K w d kv)(e:kv=kvs.map λp=>(Kp p.1,LS (sOf p.2))){m:`H}(h:43 t m):5 (aP K w (tC<|.ref d) t) isS (m.bind λk=>getD kvs k):=sY (R:=isS) (f:=λa=>LS (sOf a)) (g:=λa=>Kp a) EY `ah (λ_ _ _ h=>h) D e h
theorem lL{ma:`H}{mb:`aY}(ha:43 ta ma)(hb:EV Er tb Z W (pk isI) mb):5 (d9 (f9 K `o) ta tb) isB (ma.bind λa=>mb.bind λb=>.ok<|!b.contains a):=
 rp ha hb λW a b x y Q hx hy k=>by
  cases hx;obtain⟨p,vs,rfl,h1,h2⟩:=hy;refine⟨p,vs,rfl,.inl (Jc h1),rfl,by rw[h2.ints];simp[L2.flatV],?_⟩;have e:DT (.int a) vs=b.contains a:=by
   rw[h2.ints];unfold DT;rw[List.any_map,Jz];simp[L2.eqV]
   try exact⟨λ⟨x,h,e⟩=>by subst e;exact h,λh=>⟨a,h,`a⟩⟩
  rw[`aX,e];exact k _ W `s `a
theorem wM{R:`l}[`aJ]{ma:`aF}(ha:EV Er ta Z W (pk R) ma):5 (dM (λxs H Q=>∃p ys,xs=[.ref p]/\((SqL K H p ys/\∀l,41 l->Q (.ref l) (dF H l<|.tup ys))\/SqT K H p ys/\Q `O H))<|aj ta aU) (isT3 K R R R) (74<|Bt a):=108 W1 e1 _ (107 k<|by
  obtain⟨p,vs,rfl,h1,h2⟩:=hx
  match a,ka,h2 with
  | [a,b,c],ka,h2=>
   match vs,h2.1,h2,h1 with
   | [x,y,z],_,h2,h1=>
    refine⟨p,_,`a,116 (Jc h1) λl hl=>ka (.ref l) (W2.new l<|.tup [x,y,z]) (e2.trans<|.new _ hl) ⟨l,x,y,z,`a,OV aS,?_,?_,?_⟩⟩;·exact Gm (Pj _ hl).g (h2.2 0 x a `a `a)
    ·exact Gm (Pj _ hl).g (h2.2 1 y b `a `a)
    ·exact Gm (Pj _ hl).g (h2.2 2 z c `a `a))
def EqK(K:Gr)(H:Hp):82 Nat V V
  |0,v,u=>v=u/\1 (flat v)
  |n+1,v,u=>v=u/\1 (flat v)\/∃p q xs ys,25 v `O (u=.ref q) (21 p (.lst xs)/\21 q (.lst ys)\/SqT K H p xs/\SqT K H q ys) (`t=ys.length) (∀(i:Nat)(x y:V),0 xs[i]? x->0 ys[i]? y->EqK K H n x y)
theorem EqK.same{H H':Hp}(e:Same H H'):∀{n:Nat}{v u:V},EqK K H n v u->EqK K H' n v u
 |0,_,_,h=>h
 |n+1,_,_,h=>by
  rcases h with h|⟨p,q,xs,ys,h1,h2,h3,h4,h5⟩
  ·exact .inl h
  ·refine .inr ⟨p,q,xs,ys,h1,h2,?_,h4,λi x y e1 e2=>EqK.same e<|h5 i x y e1 e2⟩;rcases h3 with⟨a,b⟩|⟨a,b⟩
   ·exact 116 (e _ _ a) (e _ _ b)
   ·exact .inr ⟨Jn e a,Jn e b⟩
theorem EqK.flat{H:Hp}{n:Nat}{v:V}(h:1 (L2.flat v)):EqK K H n v v:=by cases n with|zero=>exact⟨rfl,h⟩|succ n=>exact .inl ⟨rfl,h⟩
class EqR(K:Gr){S:Type}(R:`l)(n:outParam Nat):Prop where
 eq:∀H a v u m,n<=m->R H a v->R H a u->EqK K H m v u
instance zkeep19:EqR K isS 0:=⟨λH a v u m _ h1 h2=>by cases h1;cases h2;exact .flat `a⟩
instance zkeep23{R:`l}{n:Nat}[EqR K R n]:EqR K (isL R) (n+1):=⟨λH a v u m hm⟨p,vs,h1,h2,h3⟩⟨q,us,g1,g2,g3⟩=>by
 cases m with
 |zero=>omega
 |succ m=>
  refine .inr ⟨p,q,vs,us,h1,g1,116 h2 g2,by rw[h3.1,g3.1],λi x y e1 e2=>?_⟩;obtain⟨b,hb,rb⟩:=h3.got e1;exact EqR.eq H b x y m `b rb (g3.2 i y b e2 hb)⟩
instance zkeep25{R1:`l}{R2:`az}{R3:Rp γ}{n k l:Nat}[EqR K R1 n][EqR K R2 k][EqR K R3 l]:EqR K (isT3 K R1 R2 R3) (max n (max k l)+1):=⟨λH a v u m hm⟨p,x,y,z,h0,h,h1,h2,h3⟩⟨q,x',y',z',g0,g,g1,g2,g3⟩=>by
 cases m with
 |zero=>omega
 |succ m=>
  refine .inr ⟨p,q,_,_,h0,g0,.inr ⟨h,g⟩,`a,λi w w' e1 e2=>?_⟩
  match i,e1,e2 with
  |0,e1,e2=>cases e1;cases e2;exact EqR.eq H _ _ _ m `b h1 g1
  |1,e1,e2=>cases e1;cases e2;exact EqR.eq H _ _ _ m `b h2 g2
  |2,e1,e2=>cases e1;cases e2;exact EqR.eq H _ _ _ m `b h3 g3⟩
end
end Wb
namespace L2
open PySem PySem.Spec PyProof.Rows
section
variable{X:Cx}{K:Gr}{w:GW}{o e:Expr}{to:TE}{t:TA}{Z7 Z8:Pos}
def D6(K:Gr):V->`E->11 Hp VK:=λx xs H Q=>∃(p:Addr)(ys:List (List Nat)),25 x (88 []) (xs=[.ref p]) (SqL K H p<|ys.map λy=>LS<|sOf y) (94 ys.flatten.length) (Q (88 ys.flatten) H)
def D7:V->`E->11 Hp VK:=λx xs H Q=>∃a b,2 x (.str a) (xs=[.str b]) (0<=MA a b/\Q (.int<|MA a b) H)
abbrev EZ(X:Cx)(Z8:Pos)(e:Expr):Prop:=1 ((124 Z8 [e]).all (λx=> !x.1)&&(backToKw Z8<|keywordEach [] `D).all (λx=>x.1.isSome)&&decide ([e].length+([]:List Nt).length+(if([]:List Nt).isEmpty then 0 else 1)<30))
theorem lM(h:X.K=K):eY X `bo λxs H Q=>∃p ys,xs=[.ref p]/\((SqL K H p ys/\∀l,41 l->Q (.ref l) (dF H l<|.tup ys))\/SqT K H p ys/\Q `O H):=h▸mK
theorem lN(h:X.K=K)(ho:9 o to)(ha:PA X [e] t)(hbase:attributeBase o "join" `D (30 o)=30 o:=by rfl)(hfew:EZ X Z8 e:=by rfl)(hline:1 (Z7.endLine==Z8.line):=by rfl)(hs:67 [e]=(false,30 e)::67 []:=by rfl)(hplain:12 ((124 Z8 []).any (·.1)):=by rfl):
  9 (.Call (.Attribute o "join" Z7) [e] [] Z8) (eH K "str" (D6 K) to t):=rm (K:=K) h Nw PySem.F.slot_str_join PySem.F.type_str_join (wo (K:=K) h) ho ha hbase hfew hline hs hplain
theorem dQ(h:X.K=K)(hc:`bw)(ho:9 o to)(ha:PA X [e] t)(hbase:attributeBase o "index" `D (30 o)=30 o:=by rfl)(hfew:EZ X Z8 e:=by rfl)(hline:1 (Z7.endLine==Z8.line):=by rfl)(hs:67 [e]=(false,30 e)::67 []:=by rfl)(hplain:12 ((124 Z8 []).any (·.1)):=by rfl):
  9 (.Call (.Attribute o "index" Z7) [e] [] Z8) (eH K "str" D7 to t):=rm (K:=K) h Nw PySem.F.slot_str_index PySem.F.type_str_index (wd hc) ho ha hbase hfew hline hs hplain
theorem dn(h:X.K=K)(ho:9 o to)(ha:PA X [e] t)(hbase:attributeBase o "append" `D (30 o)=30 o:=by rfl)(hfew:EZ X Z8 e:=by rfl)(hline:1 (Z7.endLine==Z8.line):=by rfl)(hs:67 [e]=(false,30 e)::67 []:=by rfl)(hplain:12 ((124 Z8 []).any (·.1)):=by rfl):
  9 (.Call (.Attribute o "append" Z7) [e] [] Z8) (eH K "list" aE to t):=rm (K:=K) h PySem.F.plainAttrs_list NM PySem.F.type_list_append uy ho ha hbase hfew hline hs hplain
end
end L2
namespace Wb
open PySem L2 Mi
variable{Er:`av}
section
variable{S β γ δ:Type}{t t1 t2 t3 ta tb tc:TE}{Z:St}{W W0 W':Wd}{K:Gr}{w:GW}
theorem wN{xs:`z}{ys:List β}{zs:List γ}{i:Nat}{p:S×β×γ}(h:0 (xs.zip<|ys.zip zs)[i]? p):0 xs[i]? p.1/\0 ys[i]? p.2.1/\0 zs[i]? p.2.2:=by
 rw[Kj]at h;obtain⟨h1,h2⟩:=h;rw[Kj]at h2;exact⟨h1,h2.1,h2.2⟩
theorem zj{R1:`l}{R2:`az}{R3:Rp γ}[Mono R1][Mono R2][Mono R3]{m1:`aF}{m2:75 β}{m3:75 γ}(h1:SV Er t1 Z W K R1 m1)(h2:SV Er t2 Z W K R2 m2)(h3:SV Er t3 Z W K R3 m3):IV Er (AL K<|aj t1<|aj t2<|aj t3 aU) Z W (isT3 K R1 R2 R3) (m1.bind λxs=>m2.bind λys=>m3.bind λzs=>.ok<|xs.zip<|ys.zip zs):=λW1 e1 P k=>h1 W1 e1 _ (14 k λxs kx v W2 e2 hv=>h2 W2 `L _<|14 kx λys ky u W3 e3 hu=>h3 W3 ((`L).trans e3) _ (14 ky λzs kz r W4 e4 hr=>by
  obtain⟨c1,vs,rfl,a1,b1⟩:=Sf hv (`bN).g;obtain⟨c2,us,rfl,a2,b2⟩:=Sf hu e4.g;obtain⟨c3,rs,rfl,a3,b3⟩:=hr;refine⟨c1,c2,c3,vs,us,rs,`a,a1 W4 `s,a2 W4 `s,a3 W4 `s,kz _ W4 ((`am).trans e4) λW5 e5=>⟨λi ab hab=>?_,?_⟩⟩
  ·obtain⟨q1,q2,q3⟩:=wN hab;obtain⟨x,hx,rx⟩:=b1.get q1;obtain⟨y,hy,ry⟩:=b2.get q2;obtain⟨z,hz,rz⟩:=b3.get q3;refine⟨⟨vs,us,rs,x,y,z,a1 W5 e5,a2 W5 e5,a3 W5 e5,hx,hy,hz⟩,λo H'⟨p,x',y',z',hp,z0,z1,z2,z3,z4⟩=>⟨W5.new p (.tup [x',y',z']),by rw[z4];rfl,.new _ hp,p,x',y',z',z0,OV aS,?_,?_,?_⟩⟩
   ·have:=z1 vs (a1 W5 e5);rw[hx]at this;cases this;exact Gm (e5.trans (Pj _ hp).g) rx
   ·have:=z2 us (a2 W5 e5);rw[hy]at this;cases this;exact Gm (e5.trans (Pj _ hp).g) ry
   ·have:=z3 rs (a3 W5 e5);rw[hz]at this;cases this;exact Gm (e5.trans (Pj _ hp).g) rz
  ·refine⟨vs,us,rs,a1 W5 e5,a2 W5 e5,a3 W5 e5,?_⟩;rw[JB,JB,b1.1,b2.1,b3.1];omega))
theorem pW{ma:`aY}(ha:EV Er ta Z W (pk isI) ma):EVo Er (dM (λxs H Q=>∃(p:Addr)(ns:List Int),2 xs [.ref p] (SqL K H p<|ns.map Kx)<|ns.length<64/\∀(q:Addr)(ns':List Int),41 q->ns'.Perm ns->ns'.Pairwise (· <= ·)->Q (.ref q) (115 H q<|ns'.map Kx))<|aj ta aU) Z W isI (74<|sR a):=108 W1 e1 _ (107 k<|by
  obtain⟨p,vs,rfl,h1,h2⟩:=hx;obtain⟨h3,h4⟩:=bE ka;refine⟨p,a,`a,Jc<|by rw[h1,h2.ints],h3,λq ns' hq hp hs=>?_⟩;rw[uL hp hs];exact rC (vs:=(jn a).map Kx) ⟨`g,λi v m e1 e2=>by rw[GK,e2]at e1;cases e1;rfl⟩ e2 h4 q hq)
theorem gj{R1:`l}{R2:`az}{d:Addr}{x y:V}{a:S}{b:β}(T:∀H,SqT K H d [x,y])(h1:∀H,R1 H a x)(h2:∀H,R2 H b y):5 (tC<|.ref d) (45 R1 R2) (.ok (a,b)):=λW1 _ Q k=>k _ W1 `s ⟨d,x,y,`a,T _,h1 _,h2 _⟩
theorem gI(i:Int):∀H,isI H i (.int i):=λ_=>`a
end
end Wb
namespace Mi
theorem eO{a b:Int}(h:0<b):j7 a b=.ok (a%b):=bZ h
theorem pX{a b:Int}(h1:0<b)(h2:b<1073741824):lE a b=.ok (a/b):=bZ ⟨h1,h2⟩
theorem lO{a b:Int}(h1: -18446744073709551616<a)(h2:a<18446744073709551616):lD a b=.ok (a*b):=bZ (116 h1 h2)
theorem wO{a b:Int}(h1: -18446744073709551616<b)(h2:b<18446744073709551616):lD a b=.ok (a*b):=bZ (.inr ⟨h1,h2⟩)
theorem gy{S:Type}{xs:`z}{x:S}(h:`t<100000):jx xs x=.ok (xs++[x]):=bZ h
theorem dE{a b:Tx}(h:94 (a.length+b.length)):dO a b=.ok (a++b):=bZ h
theorem iV{a:Tx}(h:94 a.length):pR a=.ok (a.length:Int):=bZ h
theorem zk{c:Nat}{n:Int}(h0:0<=n)(h1:94 n):Bs [c] n=.ok (Ju n.toNat c):=bZ ⟨h0,h1⟩
theorem iW{a:Tx}{lo hi:`aH}(h:94 a.length):fJ a lo hi=.ok (cut a lo hi):=bZ h
theorem pY{xs:List Tx}(h:94 xs.flatten.length):pS xs=.ok xs.flatten:=bZ h
theorem uR{n:Nat}(h:94 n):iy (n:Int)=.ok ((Iw n).map λ(i:Nat)=>(i:Int)):=by
 unfold iy;rw[bZ ⟨`b,`b⟩];simp[gG]
theorem kU{S:Type}{xs:`z}{i:Int}(h0:0<=i)(h1:i<`t):∃x,gr xs i=.ok x/\0 xs[i.toNat]? x:=by
 obtain⟨h,e⟩:=wy h0 h1;exact⟨xs[i.toNat],by unfold gr;rw[e];rfl,by simp[h]⟩
theorem gz{x:Tx}{i:Int}(h0:0<=i)(h1:i<`V)(h2:94 `V):∃c,gw x i=.ok [c]/\0 x[i.toNat]? c:=by
 obtain⟨h,e⟩:=wy h0 h1;refine⟨x[i.toNat],?_,by simp[h]⟩;unfold gw;rw[bZ h2];show(rn<|uK x i).bind _=_;rw[e];rfl
theorem Bw{x:Tx}{i:Int}(h0:0<=i)(h1:i<`V)(h2:94 `V):gw x i=.ok [x[i.toNat]?.getD 0]:=by
 obtain⟨c,e,h⟩:=gz h0 h1 h2;rw[e,h];rfl
theorem zl{S:Type}{xs:`z}{i:Int}{x:S}(h0:0<=i)(h1:i<`t):lF xs i x=.ok (xs.set i.toNat x):=by
 unfold lF ixN;rw[Z3 h0,Z3 h1];rfl
theorem Bx{S:Type}[DecidableEq S]{a b:S}(h:a=b):CZ a b=.ok `o:=Z3 h
theorem pZ{xs:`P}(h:`t<64):sR xs=.ok (jn xs):=bZ h
theorem eP{S Z1:Type}{f:64 S Z1 Z1}(I:11 `z Z1)(xs:`z)(s0:Z1)(h0:I [] s0)(step:∀pre a post s,xs=pre++a::post->I pre s->∃s',f a s=.ok s'/\I (pre++[a]) s'):
  ∃s,cK f xs s0=.ok s/\I xs s:=by
 have key:∀(post pre:List S)(s:Z1),xs=pre++post->I pre s->∃s',cK f post s=.ok s'/\I xs s':=by
  intro post
  induction post with
  |nil=>intro pre s e h;rw[Im]at e;subst e;exact 32 s h
  |cons a r ih=>
   intro pre s e h;obtain⟨s1,e1,h1⟩:=step pre a r s e h;obtain⟨s2,e2,h2⟩:=ih (pre++[a]) s1 (by rw[e];simp) h1;exact⟨s2,by unfold cK;rw[e1];exact e2,h2⟩
 exact key xs [] s0 `a h0
theorem wQ{S Z1 γ:Type}{f:64 S Z1 (Fl γ Z1)}(I:11 `z Z1)(xs:`z)(s0:Z1)(h0:I [] s0)(step:∀pre a post s,xs=pre++a::post->I pre s->∃s',f a s=.ok (.nx s')/\I (pre++[a]) s'):
  ∃s,eJ f xs s0=.ok (.nx s)/\I xs s:=by
 have key:∀(post pre:List S)(s:Z1),xs=pre++post->I pre s->∃s',eJ f post s=.ok (.nx s')/\I xs s':=by
  intro post
  induction post with
  |nil=>intro pre s e h;rw[Im]at e;subst e;exact 32 s h
  |cons a r ih=>
   intro pre s e h;obtain⟨s1,e1,h1⟩:=step pre a r s e h;obtain⟨s2,e2,h2⟩:=ih (pre++[a]) s1 (by rw[e];simp) h1;exact⟨s2,by unfold eJ;rw[e1];exact e2,h2⟩
 exact key xs [] s0 `a h0
theorem nH{S γ:Type}{f:64 S Unit (Fl γ Unit)}{g:S->Option γ}(xs:`z)(step:∀a∈xs,f a ()=.ok (match g a with|some r=>.rt r|none=>.nx ())):eJ f xs ()=.ok (match xs.findSome? g with|some r=>.rt r|none=>.nx ()):=by
 induction xs with
 |nil=>rfl
 |cons a r ih=>
  unfold eJ;rw[step a<|GO ..];cases h:g a with
  |some z=>simp[h,wA]
  |none=>simp only[Gq,wA,Ot,h];exact ih λb hb=>step b (GS _ hb)
theorem q9{S β:Type}{f:S->Res (Option β)}{g:S->Option β}:∀{xs:List S},(∀x∈xs,f x=.ok (g x))->jy f xs=.ok (xs.filterMap g)
 | [],_=>rfl
 |a::r,h=>by
  unfold jy;rw[h a<|GO ..,Gq,q9 λx hx=>h x (GS _ hx),Gq,Jy];cases g a<;>rfl
theorem qa{S β:Type}{f:S->Res (Option β)}{g:S->Option β}{xs:`z}(hl:94 `t)(h:∀x∈xs,f x=.ok (g x)):lG xs f=.ok (xs.filterMap g):=by
 unfold lG;rw[bZ hl,Gq,q9 h]
theorem wR{S β:Type}{f:S->`aL}{P:11 S β}{xs:`z}(hl:94 `t)(h:∀x∈xs,∃y,f x=.ok y/\P x y):∃ys,2 (fw xs f) (.ok ys) (121 ys.length) (∀(i:Nat)x y,0 xs[i]? x->0 ys[i]? y->P x y):=by
 unfold fw;rw[bZ hl,Gq];clear hl
 induction xs with
 |nil=>exact⟨[],`a,`a,λi x y e=>by simp at e⟩
 |cons a r ih=>
  obtain⟨b,e,hb⟩:=h a<|GO ..;obtain⟨bs,e2,hl2,h2⟩:=ih λx hx=>h x (GS _ hx);refine⟨b::bs,by unfold kO;rw[e,Gq,e2];rfl,by simp[hl2],λi x y e3 e4=>?_⟩;cases i with
  |zero=>cases e3;cases e4;exact hb
  |succ j=>exact h2 j x y e3 e4
theorem sZ(l:`br):((l.map λc=>[c]):List Tx).flatten=l:=by induction l with|nil=>rfl|cons a r ih=>simp[ih]
theorem jB{S:Type}(l:`z)(k:Nat):cut l `j (some (k:Int))=l.take k:=by
 unfold cut sIx;simp only[];rw[`by,Ia];simp[List.take_eq_take_iff]
theorem lP{S:Type}(l:`z)(k:Nat):cut l (some (k:Int)) `j=l.drop k:=by
 unfold cut sIx;simp only[];rw[`by,Ia];by_cases h:k<=`ag;·rw[Nat.min_eq_left h,K0 `g]
 ·rw[Nat.min_eq_right `b,KD `b,KD `b];simp
theorem fg{x:Tx}{t:Tx}(h:t∈bG x):∃c∈x,t=[c]:=by
 unfold bG at h;obtain⟨c,hc,e⟩:=HK.mp h;exact⟨c,hc,e.symm⟩
theorem zm(a:Int):0<=fv a:=by unfold fv;split<;>omega
section
variable{S β:Type}{P:49 S}{Q:49 β}
theorem ja{m:`as}{f:S->`aL}(h:m.Ok λa=>(f a).Ok Q):(m.bind f).Ok Q:=Res.bind_ok h
theorem DU{b:Bool}{A B:`as}(h1:1 b->A.Ok P)(h2:12 b->B.Ok P):(if 1 b then A else B).Ok P:=by
 cases b with
 |true=>exact h1 `a
 |false=>exact h2 `a
theorem kH{c:Prop}[Decidable c]{A B:`as}(h1:c->A.Ok P)(h2:¬c->B.Ok P):(if decide c=true then A else B).Ok P:=by
 by_cases h:c;·rw[decide_eq_true h];exact h1 h
 ·rw[decide_eq_false h];exact h2 h
theorem okR{a:S}(h:P a):(Gw a).Ok P:=h
theorem F0{m:`as}{a:S}(e:m=.ok a)(h:P a):m.Ok P:=by rw[e];exact h
end
theorem D8{x:Tx}{lo hi:`aH}{c:Nat}(h:c∈cut x lo hi):c∈x:=by
 unfold cut at h;exact Oe (Of h)
theorem t9{S:Type}(x:`z)(lo hi:`aH):(cut x lo hi).length<=`V:=by
 unfold cut;rw[K8,K9];omega
inductive Dat where
 |n|b (x:Bool)|i (x:Int)|s (x:Tx)|t (xs:List Dat)|l (xs:List Dat)
noncomputable instance zkeep38:DecidableEq Dat:=λ_ _=>Classical.propDecidable _
def Dat.le:11 Nat Dat
 |0,d=>match d with| .t _=>False| .l _=>False|_=>True
 |k+1,d=>match d with| .t xs=>∀x∈xs,Dat.le k x| .l xs=>∀x∈xs,Dat.le k x|_=>True
open Classical in
noncomputable def Dc(a b:Dat):`x:=if a=b/\a.le 24 then .ok `o else .stuck
theorem wU{a b:Dat}(h:a=b)(hl:a.le 24):Dc a b=.ok `o:=Z3 ⟨h,hl⟩
def tj(d:Dat)(i:Int):Res Dat:=match d with| .t xs=>rn (uK xs i)|_=>.stuck
def de(k:Nat)(d:Dat):Bool:=match d,k with
 | .b _,0=>true| .b _,1=>true| .i _,1=>true| .s _,2=>true| .l _,3=>true| .t _,4=>true|_,_=>false
def Dd:Dat->`aH| .i x=>some x|_=>none
def F1:Dat->Option Tx| .s x=>some x|_=>none
def tm(a b:Tx):`x:=.ok<|decide<|a=b
def qb{κ S:Type}[DecidableEq κ](kvs:6 κ S)(k:κ)(a:S):6 κ S:=
 if 1 (kvs.any λkv=>decide<|kv.1=k) then kvs.map (λkv=>if kv.1=k then(kv.1,a)else kv)else kvs++[(k,a)]
end Mi
open Mi.Dat renaming s->LU,t->PK,i->Qg,l->Sl
namespace Wb
open PySem L2 Mi
variable{Er:`av}
inductive isU(K:Gr)(H:Hp):Dat->V->Prop where
 |n:isU K H .n .non
 |b {x:Bool}:isU K H (.b x) (.bl x)
 |i {x:Int}:isU K H (.i x) (.int x)
 |s {x:Tx}:isU K H (.s x) (88 x)
 |t {p:Addr} {xs:List Dat} {vs:`E} (h:SqT K H p vs) (hl:121 `aK) (r:∀(j:Nat)x v,0 xs[j]? x->0 vs[j]? v->isU K H x v):isU K H (.t xs) `O
 |l {p:Addr} {xs:List Dat} {vs:`E} (h:21 p (.lst vs)) (hl:121 `aK) (r:∀(j:Nat)x v,0 xs[j]? x->0 vs[j]? v->isU K H x v):isU K H (.l xs) `O
section
variable{S β γ δ:Type}{t t1 t2 t3 t4 ta tb tc td:TE}{Z:St}{W W0 W':Wd}{K:Gr}{w:GW}
theorem isU.same{H H':Hp}{d:Dat}{v:V}(e:Same H H')(h:isU K H d v):isU K H' d v:=by
 induction h with
 |n=>exact .n
 |b=>exact .b
 |i=>exact .i
 |s=>exact .s
 |t h hl r ih=>exact .t (Jn e h) hl ih
 |l h hl r ih=>exact .l (e _ _ h) hl ih
instance zkeep39:Mono (isU K):=⟨λe h=>isU.same e h⟩
theorem isU.eqk{H:Hp}:∀(n:Nat)(d:Dat)(v u:V),d.le n->isU K H d v->isU K H d u->EqK K H n v u:=by
 intro n
 induction n with
 |zero=>
  intro d v u hd h1 h2;cases h1 with
  |n=>cases h2;exact .flat `a
  |b=>cases h2;exact .flat `a
  |i=>cases h2;exact .flat `a
  |s=>cases h2;exact .flat `a
  |t h hl r=>exact hd.elim
  |l h hl r=>exact hd.elim
 |succ n ih=>
  intro d v u hd h1 h2;cases h1 with
  |n=>cases h2;exact .flat `a
  |b=>cases h2;exact .flat `a
  |i=>cases h2;exact .flat `a
  |s=>cases h2;exact .flat `a
  | @t p xs vs h hl r=>
   cases h2 with
   | @t q _ us h' hl' r'=>
    refine .inr ⟨p,q,vs,us,`a,`a,.inr ⟨h,h'⟩,by rw[hl,hl'],λi x y e1 e2=>?_⟩;have hi:i<`t:=by rw[<-hl];exact(GA.mp e1).1
    have e3:0 xs[i]? xs[i]:=GB hi;exact ih xs[i] x y (hd _<|J9 hi) (r i _ x e3 e1) (r' i _ y e3 e2)
  | @l p xs vs h hl r=>
   cases h2 with
   | @l q _ us h' hl' r'=>
    refine .inr ⟨p,q,vs,us,`a,`a,116 h h',by rw[hl,hl'],λi x y e1 e2=>?_⟩;have hi:i<`t:=by rw[<-hl];exact(GA.mp e1).1
    have e3:0 xs[i]? xs[i]:=GB hi;exact ih xs[i] x y (hd _<|J9 hi) (r i _ x e3 e1) (r' i _ y e3 e2)
def vQ(K:Gr)(R:`l)(u:S->Dat):Prop:=∀H a v,R H a v->isU K H (u a) v
theorem tq:vQ K isI .i:=λ_ _ _ h=>by cases h;exact .i
theorem iE:vQ K isS .s:=λ_ _ _ h=>by cases h;exact .s
theorem wV{R:`l}{u:S->Dat}(h:vQ K R u):vQ K (isL R) (λxs=>.l<|xs.map u):=λH xs v⟨p,vs,h0,h1,h2⟩=>by
 subst h0;refine .l h1 (by rw[Ho,h2.1]) λj x v e1 e2=>?_;rw[GK]at e1;obtain⟨a,ha,rfl⟩:=HX.mp e1;exact h _ _ _ (h2.2 j v a e2 ha)
theorem qc{R1:`l}{R2:`az}{u1:S->Dat}{u2:β->Dat}(h1:vQ K R1 u1)(h2:vQ K R2 u2):vQ K (45 R1 R2) (λx=>.t [u1 x.1,u2 x.2]):=λH a v⟨p,x,y,h0,h,r1,r2⟩=>by
 subst h0;refine .t h `a λj d v e1 e2=>?_
 match j,e1,e2 with
 |0,e1,e2=>cases e1;cases e2;exact h1 _ _ _ r1
 |1,e1,e2=>cases e1;cases e2;exact h2 _ _ _ r2
theorem De{R1:`l}{R2:`az}{R3:Rp γ}{u1:S->Dat}{u2:β->Dat}{u3:γ->Dat}(h1:vQ K R1 u1)(h2:vQ K R2 u2)(h3:vQ K R3 u3):vQ K (isT3 K R1 R2 R3) (λx=>.t [u1 x.1,u2 x.2.1,u3 x.2.2]):=λH a v⟨p,x,y,z,h0,h,r1,r2,r3⟩=>by
 subst h0;refine .t h `a λj d v e1 e2=>?_
 match j,e1,e2 with
 |0,e1,e2=>cases e1;cases e2;exact h1 _ _ _ r1
 |1,e1,e2=>cases e1;cases e2;exact h2 _ _ _ r2
 |2,e1,e2=>cases e1;cases e2;exact h3 _ _ _ r3
theorem iF{R:`l}{u:S->Dat}{m:`as}(h:vQ K R u)(e:5 t R m):5 t (isU K) (m.bind λa=>.ok<|u a):=λW1 e1 Q k=>e W1 e1 _ (143 k<|ka v W2 e2<|h _ _ _ hv)
def F2(K:Gr)(R:`l)(f:Dat->Option S):Prop:=∀H d v a,isU K H d v->0 (f d) a->R H a v
theorem wW:F2 K isI Dd:=λ_ _ _ _ h e=>by cases h<;>cases e;rfl
theorem Df:F2 K isS F1:=λ_ _ _ _ h e=>by cases h<;>cases e;rfl
theorem oO{R:`l}{f:Dat->Option S}{m:Res Dat}(h:F2 K R f)(e:5 t (isU K) m):5 t R (m.bind λd=>rn<|f d):=λW1 e1 Q k=>e W1 e1 _ (14 k λd kd v W2 e2 hv=>by
  obtain⟨a,h1,h2⟩:=fI kd;exact h2 v W2 e2 (h _ _ _ _ hv h1))
theorem kf{ma:Res Dat}{mb:`H}(ha:5 ta (isU K) ma)(hb:43 tb mb):5 (d9 (cn K) ta tb) (isU K) (74<|118<|tj a b):=
 rp ha hb λW a b x y Q hx hy k=>by
  cases hy;unfold tj at k;cases hx with
  | @t p xs vs h hl r=>
   obtain⟨c,h4,h5⟩:=fI k;obtain⟨z,h6,h7⟩:=oH (R:=isU K) (H:=W.G) (as:=xs) (xs:=vs) ⟨hl,λi v m e1 e2=>r i m v e2 e1⟩ h4;exact⟨p,_,b,z,`a,`a,Jn W.ok h,h6,h5 _ W `s h7⟩
  |_=>exact k.elim
theorem uS{K:Gr}(a b:String)(r:Bool)(h:0 (HD [] (.type a)<|.type b) r):0 (HD K (.type a)<|.type b) r:=by first|exact h|(rw[<-h];rfl)
def Dg:Nat->String|0=>"bool"|1=>"int"|2=>"str"|3=>"list"|_=>"tuple"
theorem iG{ma:Res Dat}{j:Nat}(hj:j<5)(ha:5 ta (isU K) ma):5 (dM (λxs H Q=>∃x T t b,2 xs [x,.ty T] (TyOf K H x t)<|0 (HD K t<|.type T) b/\Q (.bl b) H)<|aj ta<|aj (tC<|.ty<|Dg j) aU) isB (74<|.ok<|de j a):=108 W1 e1 _ (107 k<|by
    have hj':j=0\/j=1\/j=2\/j=3\/j=4:=by omega
    cases hx with
    | n => refine ⟨_,_,_,`K,`a,.non,?_,?_⟩
           ·rcases hj' with rfl|rfl|rfl|rfl|rfl<;>exact uS _ _ _ rfl
           · have:=ka (.bl<|de j .n) W2 e2 `a;rcases hj' with rfl|rfl|rfl|rfl|rfl<;>exact this
    | b => rename_i x
           refine⟨_,_,_,de j<|.b x,`a,.bl _,?_,ka _ W2 e2 `a⟩;rcases hj' with rfl|rfl|rfl|rfl|rfl<;>exact uS _ _ _ rfl
    | i => rename_i x
           refine⟨_,_,_,de j<|.i x,`a,.int _,?_,ka _ W2 e2 `a⟩;rcases hj' with rfl|rfl|rfl|rfl|rfl<;>exact uS _ _ _ rfl
    | s => rename_i x
           refine⟨_,_,_,de j<|.s x,`a,.str _,?_,ka _ W2 e2 `a⟩;rcases hj' with rfl|rfl|rfl|rfl|rfl<;>exact uS _ _ _ rfl
    | @t p xs vs h hl r=>
           refine⟨_,_,_,de j<|.t xs,`a,.tup<|Jn W2.ok h,?_,ka _ W2 e2 `a⟩;rcases hj' with rfl|rfl|rfl|rfl|rfl<;>exact uS _ _ _ rfl
    | @l p xs vs h hl r=>
           refine⟨_,_,_,de j<|.l xs,`a,.lst<|W2.ok _ _ h,?_,ka _ W2 e2 `a⟩;rcases hj' with rfl|rfl|rfl|rfl|rfl<;>exact uS _ _ _ rfl)
def fP(K:Gr):Nat->Sp
 |0=>λ_ _ _ _=>False
 |n+1=>λvs H Q _=>∃v u,vs=[v,u]/\((EqK K H n v u/\∀H',Same H H'->Q (.bl `o) H')\/∃x y,2 v (.str x) (u=.str y) (Q (.bl<|decide<|LS x=LS y) H))
theorem wX[DecidableEq S]{R:`l}[`aJ]{n N:Nat}[EqR K R n]{E:XK}{ma mb:`as}(hn:n<N)(ha:5 ta R ma)(hb:5 tb R mb):5 (aO (fP K N) [] E<|aj ta<|aj tb aU) isB (74<|118<|CZ a b):=108 W1 e1 _ (107 k<|hb W2 `L _ (151 ka<|by
  unfold CZ at kb;by_cases z:a=b
  ·rw[Z3 z]at kb;subst z;cases N with
   |zero=>omega
   |succ N=>
    refine⟨x,y,`a,116 (EqR.eq W3.H a x y N `b (Gm W3.ok<|Gm (R:=R) e3.g hx)<|Gm W3.ok hy) λH' hs=>?_⟩;exact kb (.bl `o) ⟨W3.G,H',W3.ok.trans hs⟩ ⟨e2.g.trans e3.g,(e2.h.trans e3.h).trans hs,λp hp=>(`am).k p hp⟩ `a
  ·rw[Z4 z]at kb;exact kb.elim))
theorem qd{N:Nat}{E:XK}{ma mb:Res Dat}(hn:24<N)(ha:5 ta (isU K) ma)(hb:5 tb (isU K) mb):5 (aO (fP K N) [] E<|aj ta<|aj tb aU) isB (74<|118<|Dc a b):=108 W1 e1 _ (107 k<|hb W2 `L _ (151 ka<|by
    unfold Dc at kb;by_cases z:a=b/\a.le 24
    · rw[Z3 z]at kb;obtain⟨z,hz⟩:=z;subst z;cases N with
      |zero=>omega
      | succ N =>
        have up:∀(m n:Nat)(d:Dat),n<=m->d.le n->d.le m:=by
          intro m
          induction m with
          | zero => intro n d h1 h2; have : n=0 := by omega
                    subst this;exact h2
          | succ m ih =>
            intro n d h1 h2;cases n with
            | zero => cases d with
              |t xs=>exact h2.elim
              |l xs=>exact h2.elim
              |_=>trivial
            | succ n => cases d with
              |t xs=>exact λx hx=>ih n x `b (h2 x hx)
              |l xs=>exact λx hx=>ih n x `b (h2 x hx)
              |_=>trivial
        refine⟨x,y,`a,116 (isU.eqk N a x y (up N 24 a `b hz) (isU.same W3.ok<|isU.same e3.g hx)<|isU.same W3.ok hy) λH' hs=>?_⟩;exact kb (.bl `o) ⟨W3.G,H',W3.ok.trans hs⟩ ⟨e2.g.trans e3.g,(e2.h.trans e3.h).trans hs,λp hp=>(`am).k p hp⟩ `a
    ·rw[Z4 z]at kb;exact kb.elim))
theorem wY{N:Nat}{E:XK}{ma mb:`I}(hn:0<N)(ha:5 ta isS ma)(hb:5 tb isS mb):5 (aO (fP K N) [] E<|aj ta<|aj tb aU) isB (74<|118<|tm a b):=108 W1 e1 _ (107 k<|hb W2 `L _ (151 ka<|by
  cases hx;cases hy;cases N with
  |zero=>omega
  |succ N=>exact⟨_,_,`a,.inr ⟨_,_,`a,`a,by rw[dS];exact kb _ W3 `am `a⟩⟩))
theorem tu{D:Ends}{i:Nat}{te:TE}{a:Int}{m:`H}{f:`c->`c->`c}{σ':`c->St}(h:43 te m)(q:m.OkE Er λb=>∀W',50 W'->D.nx (σ'<|f a b) W'.H)(hi:0 Z[i]? (3 a):=by rfl)(hσ:∀c,Z.set i (3 c)=σ' c:=by intro _;rfl):yW i te (DQ f) D Z W.H:=
 ⟨.int a,hi,h W `s _ (q.imp λb kb v W' e hv=>by cases hv;exact⟨a,b,`a,`a,by have:=kb W' e;rw[<-hσ]at this;exact this⟩)⟩
theorem nI{D:Ends}{r:TS}{i:Nat}{te:TE}{a:Int}{m:`H}{f:`c->`c->`c}{σ':`c->St}(h:43 te m)(q:m.OkE Er λb=>∀W',50 W'->r D (σ'<|f a b) W'.H)(hi:0 Z[i]? (3 a):=by rfl)(hσ:∀c,Z.set i (3 c)=σ' c:=by intro _;rfl):eI (yW i te<|DQ f) r D Z W.H:=tu (D:={D with nx:=r D}) h q hi hσ
theorem EV.go{W1:Wd}{R:Rw S}{m:`as}{Q:VK}(e:50 W1)(h:EV Er t Z W R m)(k:m.OkE Er λa=>∀v W2,Ext W1 W2->R W2 a v->Q v W2.H):t Z W1.H Q:=h W1 e Q k
end
end Wb
namespace Mi
def kindN:List Tx:=[[66,97,100,84,97,98,108,101,116],[66,97,100,82,111,119],[66,97,100,84,101,120,116],[66,97,100,77,97,114,107],[84,111,111,76,111,110,103],[84,111,111,84,105,103,104,116],[83,112,111,111,108,68,114,121],[78,111,84,97,98,108,101,116],[78,111,116,104,105,110,103,76,101,102,116],[85,110,108,105,107,101],[83,101,101,110,84,104,114,101,97,100],[78,111,83,117,99,104,87,97,121],[66,97,114,114,101,100]]
def rD(s:Tx)(j:Nat):Dat:=.t [.s s,.l [.s (kindN.getD j [])]]
def wZ(i:Int):Tx:=(toString i).toList.map Char.toNat
def By(i:Int):`I:=fH (i.natAbs.log2<1920) (wZ i)
def Bz(x:Tx):`I:=fH (`V<=cap) x
end Mi
namespace L2
open PySem PySem.Spec PyProof.Rows
def XV(x:Addr):`aW->Gu
 |none=>`bd
 |some d=>.int (Int.ofNat d) 0
theorem uT{f:`bp->`bp}{o:Obj}:(HY f o).dict=o.dict:=by
 unfold HY;split<;>rfl
structure Fly(h:Heap)(H:Hp)(lim:Heap)(e C:Addr)(od:`aW):Prop where
 he:41 e
 hl:7 (lim.get? e)
 ob:∃(oe:Obj)(vs:Array Gu),35 e oe/\(oe.cls=`aI/\oe.dict=od)/\2 oe.data (.fields vs) (0 vs[2]? .none) (0 vs[1]? .none\/∃(T:Addr)(oT:Obj)(ts:Array Gu),0 vs[1]? (.ref T)/\T≠e/\25 (H T) `j (7<|lim.get? T) (35 T oT) (oT.data=.fields ts) (0 ts[3]? .none))
structure Gone(fs:`R)(H:Hp)(lim:Heap)(e:Addr)(h h':Heap):Prop where
 keep:∀b o,20 (35 b o) (b∉fs) (b≠e) (H b≠`j\/lim.get? b≠`j) (66 b o)
 slot:∀b o,h.get? b=some o->b∈fs->∃sl,h'.get? b=some {o with slots:=sl}
 there:∀b o,35 b o->∃o',66 b o'
theorem Gone.trans{fs:`R}{H:Hp}{lim:Heap}{e:Addr}{h h1 h2:Heap}(a:Gone fs H lim e h h1)(b:Gone fs H lim e h1 h2):Gone fs H lim e h h2:=
 ⟨λc o q n m k=>b.keep c o (a.keep c o q n m k) n m k,λc o q n=>by
  obtain⟨sl,z⟩:=a.slot c o q n;obtain⟨sl',z'⟩:=b.slot c _ z n;exact⟨sl',z'⟩,λc o q=>by
  obtain⟨o',z⟩:=a.there c o q;exact b.there c o' z⟩
section
variable{M:Mv}{A:Hk}{E:`A}{s:Gx}{base lim:Heap}{H:Hp}{env:Env}{outer:`bA}{L e C:Addr}{od:`aW}
abbrev DV(head:Gu)(L:Addr)(pl:`aq):Obj:={cls:=.type "traceback",dict:=none,data:=.fields ([head,.ref L,.none,rawInt L,.none]++(if pl.isEmpty then Ju 6 Hl else pl)).toArray}
theorem tD{head:Gu}{hn:Bool}{oe:Obj}{vs:`bp}{Q:68 Unit}(hfr:0 A.frames (env::`G))(hfn:s.heap.FunFrames `d (env::`G))(hf:0 env.frame L)
  (he:22 e oe) (hd:oe.data=.fields vs) (hc:oe.cls=`aI/\oe.dict=od) (h2:0 vs[2]? .none) (hH:41 e) (hlm:7 (lim.get? e))
  (hfree:∀b,150 b->41 b/\7 (lim.get? b))
  (h:∀h',Gone (frs<|env::`G) H lim e s.heap h'->Fly h' H lim e C od->Q () {s with heap:=h'}):
  57 M A (do let a <-frameOf env;let pl <-entryPlaceOf L hn;let b <-Ou head a .none (rawInt L) .none pl;setField (.ref e) 1 b) (λ_ s'=>wpAny M A (setFlight (.ref e) `j) Q E s') E:=by
 have hsz:1<vs.size:=by have:=(HZ.mp h2).1;omega
 have nfr:e∉(env::`G).filterMap (·.frame):=λhm=>by
  obtain⟨_,o,ho,hnf⟩:=hfn.mem hm;rw[he]at ho;exact hnf vs (by rw[<-Ha ho];exact hd)
 refine Gn (wpAny_frameOf_fun hfr hfn hf λh1 hs1=>?_);refine Gn (wpAny_entryPlaceOf λpl hpl=>?_);unfold Ou newFields;refine Gn (HR ?_<|hpl.sizeOk5 _ _ _ _ _);have g1:0 (h1.get? e) oe:=(hs1.2.1 e nfr).trans he;have g2:125 (h1.push<|DV head L pl) e oe:=17 g1;refine Ir g2 hd hsz ?_;have ne:h1.objs.size≠e:=JY (GG g1);have d3:=J6 hd (·.setIfInBounds 1 (GZ h1.objs.size));have g3:=HP (HY (·.setIfInBounds 1 (GZ h1.objs.size))) g2 (JD d3);have gT:=(Ht (h1.push<|DV head L pl) (HY (·.setIfInBounds 1 (GZ h1.objs.size)))<|JI ne).trans (86 h1);unfold setFlight;refine Gn (Hf g3 d3 (x:=.ref h1.objs.size) (by simp[hsz]) ?_);rw[Z3 (show 1 (GZ h1.objs.size !=Hl) from `g)];refine Ir gT `a (by simp only[GN,HG,Ja,Ls]<;>omega) ?_;have keep1:∀b o,b≠e->0 (h1.get? b) o->125 (((h1.push<|DV head L pl).update e<|HY (·.setIfInBounds 1 (GZ h1.objs.size))).update h1.objs.size<|HY (·.setIfInBounds 3 ((none:`aW).elim Hl λf=>rawInt f))) b o:=λb o hb hq=>by
  rw[Ht _ _ (JY<|GG hq),Ht _ _ (JI hb)];exact 17 hq
 have ge:125 (((h1.push<|DV head L pl).update e<|HY (·.setIfInBounds 1 (GZ h1.objs.size))).update h1.objs.size<|HY (·.setIfInBounds 3 ((none:`aW).elim Hl λf=>rawInt f))) e (HY (·.setIfInBounds 1 (GZ h1.objs.size)) oe):=by
  rw[Ht _ _ ne];exact g3
 have big:150 h1.objs.size:=hs1.1▸GC _;refine h _ ⟨λb o q n m _=>keep1 b o m<|(hs1.2.1 b n).trans q,λb o q n=>?_,λb o q=>?_⟩ ⟨hH,hlm,_,_,ge,⟨by rw[MU];exact hc.1,by rw[uT];exact hc.2⟩,d3,by rw[LV ⋯];exact h2,.inr ⟨h1.objs.size,_,_,by simp[hsz],ne,(hfree _ big).1,(hfree _ big).2,HP _ gT<|JD<|J6 `a _,J6 `a _,?_⟩⟩
 ·obtain⟨sl,z⟩:=hs1.2.2 b o q;exact⟨sl,keep1 b _ (λy=>nfr<|y▸n) z⟩
 ·by_cases y:b=e;·rw[y];exact 42 ge
  ·obtain⟨sl,z⟩:=hs1.2.2 b o q;exact 42 (keep1 b _ y z)
 ·first|(simp;done)|(rcases hpl with rfl|⟨_,_,_,_,_,_,_,rfl⟩<;>simp)
theorem tE{Q:68 Unit}(hfr:0 A.frames (env::`G))(hfn:s.heap.FunFrames `d (env::`G))(hf:0 env.frame L)(x:Fly `i H lim e C od)
  (hfree:∀b,150 b->41 b/\7 (lim.get? b))
  (h:∀h',Gone (frs<|env::`G) H lim e s.heap h'->Fly h' H lim e C od->Q () {s with heap:=h'}):57 M A (noteFrame (.ref e) env) (λ_ s'=>wpAny M A (setFlight (.ref e) `j) Q E s') E:=by
 obtain⟨hH,hlm,oe,vs,he,hc,hd,h2,h1⟩:=x;unfold noteFrame;simp only[hf];rcases h1 with h1|⟨T,oT,ts,h1,hTe,hT0,hTl,hT,hdT,h3⟩
 ·refine Gn (Hf he hd h1 ?_);rw[`aZ];exact tD hfr hfn hf he hd hc h2 hH hlm hfree h
 ·refine Gn (Hf he hd h1 ?_);rw[Z3 (show 1 (GZ T !=Hl) from `g)];refine Gn (Hf hT hdT h3 ?_);rw[Z4 (show ¬(1<|Hl==rawInt L)from by simp[rawInt])];refine Gn (Ir hT hdT (HZ.mp h3).1 ?_);have other:∀b,b≠T->(s.heap.update T<|HY (·.setIfInBounds 3 Hl)).get? b=s.heap.get? b:=λb hb=>Ht _ _ (JI hb);have nT:∀b o,22 b o->(∀vs,o.data≠.fields vs)->b≠T:=λb o q hn z=>by
   rw[z,hT]at q;exact hn ts (by rw[<-Ha q];exact hdT)
  have g0:Gone (frs<|env::`G) H lim e `i (s.heap.update T<|HY (·.setIfInBounds 3 Hl)):=⟨λb o q n m k=>(other b λz=>by
    rw[z,hT0,hTl]at k;rcases k with k|k<;>exact k rfl).trans q,λb o q n=>⟨o.slots,(other b (by
    obtain⟨_,o',ho,hnf⟩:=hfn.mem n;exact nT b o' ho hnf)).trans q⟩,λb o q=>by
    by_cases z:b=T;·rw[z];exact 42 (HP _ hT<|JD<|J6 hdT _)
    ·exact⟨o,(other b z).trans q⟩⟩
  have sz:(s.heap.update T<|HY (·.setIfInBounds 3 Hl)).objs.size=`bk:=Ng ..;refine tD (s:={s with heap:=s.heap.update T (HY (·.setIfInBounds 3 Hl))}) hfr (hfn.of_keeps λb o q hn=>⟨o,(other b<|nT b o q hn).trans q,`a⟩) hf ((other e<|JI hTe).trans he) hd hc h2 hH hlm (λb hb=>hfree b (by rw[<-sz];exact hb)) λh' g1 f1=>h h' (g0.trans g1) f1
theorem uU{Q:68 Unit}(hfr:0 A.frames (env::`G))(hfn:s.heap.FunFrames `d (env::`G))(hf:0 env.frame L)(x:Fly `i H lim e C od)
  (hfree:∀b,150 b->41 b/\7 (lim.get? b))
  (h:∀h',Gone (frs<|env::`G) H lim e s.heap h'->Fly h' H lim e C od->Q () {s with heap:=h'}):57 M A (leaving env<|.ref e) Q E:=by
 unfold leaving;exact Gn (tE hfr hfn hf x hfree h)
theorem x4{Q:68 Unit}(hfn:s.heap.FunFrames `d (env::`G))(x:Fly `i H lim e C od)
  (h:∀h',Gone (frs<|env::`G) H lim e s.heap h'->Fly h' H lim e C od->Q () {s with heap:=h'}):57 M A (setFlight (.ref e) `j) Q E:=by
 obtain⟨hH,hlm,oe,vs,he,hc,hd,h2,h1⟩:=x;unfold setFlight;rcases h1 with h1|⟨T,oT,ts,h1,hTe,hT0,hTl,hT,hdT,h3⟩
 ·refine Gn (Hf he hd h1 ?_);rw[`aZ];exact Gv (h `i ⟨λb o q _ _ _=>q,λb o q _=>⟨o.slots,q⟩,λb o q=>⟨o,q⟩⟩ ⟨hH,hlm,oe,vs,he,hc,hd,h2,.inl h1⟩)
 ·refine Gn (Hf he hd h1 ?_);rw[Z3 (show 1 (GZ T !=Hl) from `g)];refine Ir hT hdT (HZ.mp h3).1 ?_;have other:∀b,b≠T->(s.heap.update T<|HY (·.setIfInBounds 3 ((none:`aW).elim Hl λf=>rawInt f))).get? b=s.heap.get? b:=λb hb=>Ht _ _ (JI hb);have gT:=HP (HY (·.setIfInBounds 3 ((none:`aW).elim Hl λf=>rawInt f))) hT (JD<|J6 hdT _);refine h _ ⟨λb o q n m k=>(other b λz=>by
    rw[z,hT0,hTl]at k;rcases k with k|k<;>exact k rfl).trans q,λb o q n=>⟨o.slots,(other b (by
    obtain⟨_,o',ho,hnf⟩:=hfn.mem n;intro z;rw[z,hT]at ho;exact hnf ts (by rw[<-Ha ho];exact hdT))).trans q⟩,λb o q=>by
    by_cases z:b=T;·rw[z];exact 42 gT
    ·exact⟨o,(other b z).trans q⟩⟩ ⟨hH,hlm,oe,vs,(other e<|JI hTe).trans he,hc,hd,h2,.inr ⟨T,_,_,h1,hTe,hT0,hTl,gT,J6 hdT _,?_⟩⟩
  have:=(HZ.mp h3).1;simp[this]
end
def CXR(P:GJ)(w:GW):CXT:=λouter H s E e s'=>∃(x C:Addr)(H':Hp)(od:Option Addr),2 e `bd (Fly s'.heap H' `i x C od) (25 s'.os s.os (Ms s'.gens) (Un (frs `G) [] H H' `i s'.heap) (HOk P w H' s'.heap)<|E (XV x od) (some C) H')
section
variable{P:GJ}{w:GW}{K:Gr}{mg:Str->`M}{base:Heap}{N:`y}{Z6:Str}{scope:Ka}{f:Addr}{cd:Gu}{A:Hk}{outer:`bA}{s0 s:Gx}{H0 H:Hp}{E:XK}{Z_:`N}{Z:St}{e C:Addr}{od:`aW}
abbrev uV(P:GJ)(w:GW)(K:Gr)(mg:Str->`M)(base:Heap)(N:`y)(Z6:Str)(scope:Ka)(f:Addr)(cd:Gu)(A:Hk)(outer:`bA)(s0:Gx)(H0:Hp)(E:XK):Cx:=mI (CXR P w) P w K mg `d N Z6 `C f cd A `G s0 H0 E
theorem Dh(I:38 (uV P w K mg `d N Z6 `C f cd A `G s0 H0 E) Z H s)(x:Fly `i H s0.heap e C od)(q:E (XV e od) (some C) H):(uV P w K mg `d N Z6 `C f cd A `G s0 H0 E).xe (.ref e) s:=by
 have hsz:s0.heap.objs.size<=`bk:=I.sz;have hfree:∀b,150 b->41 b/\7 (s0.heap.get? b):=λb hb=>⟨I.hok.fresh hb,M8<|Ip hsz hb⟩
 refine uU (base:=base) (env:=envOfC Z6 `C s0.heap.objs.size f cd) (outer:=outer) (L:=s0.heap.objs.size) (H:=H) (lim:=s0.heap) I.ok.frames I.stack `a x hfree λh' g fl=>?_;have stk:∀b,b∈frs (envOfC Z6 `C s0.heap.objs.size f cd::`G)->41 b:=I.stkFree;have low:∀b o,0 (s0.heap.get? b) o->b∉frs `G->b∉frs (envOfC Z6 `C s0.heap.objs.size f cd::`G):=λb o q n m=>by
  have:b=s0.heap.objs.size\/b∈frs `G:=GI.mp (show b∈s0.heap.objs.size::frs `G from m);rcases this with z|z
  ·have:=GG q;rw[z]at this;exact HI _ this
  ·exact n z
 have sub:∀b,b∈frs `G->b∈frs (envOfC Z6 `C s0.heap.objs.size f cd::`G):=λb m=>by
  show b∈s0.heap.objs.size::frs `G;exact GS _ m
 have ne0:∀b o,0 (s0.heap.get? b) o->b≠e:=λb o q z=>by rw[z,x.hl]at q;cases q
 have U:=I.base;refine⟨e,C,H,od,`a,fl,I.os,I.bare,⟨λb o q1 n hb hx=>g.keep b o (U.keep b o q1 n hb hx) (low b o q1 hb) (ne0 b o q1) (.inr (by rw[q1];exact λz=>nomatch z)),λb o q1 n hb hx=>?_,U.free,λb o q1 hx=>?_,U.tups,U.frzs,U.tbls⟩,λb u hb=>?_,q⟩
 ·obtain⟨sl,z⟩:=U.slot b o q1 n hb hx;obtain⟨sl',z'⟩:=g.slot b _ z (sub b hb);exact⟨sl',z'⟩
 ·obtain⟨o',z⟩:=U.there b o q1 hx;exact g.there b o' z
 ·refine(I.hok b u hb).stay (λc v hc q1=>?_) (λ_ q1=>q1) λ_ _ q1=>q1;have hn:H c≠`j:=by
   rcases hc with z|z
   ·rw[z,hb];exact λz=>nomatch z
   ·rw[z];exact λz=>nomatch z
  exact g.keep c v q1 (λm=>hn<|stk c m) (λz=>hn (by rw[z];exact x.he)) (.inl hn)
end
section
variable{X:Cx}{Z_:`N}{Z:St}{H:Hp}{s:Gx}
theorem Inv.to_nox(I:`n):38 X.nox Z H s:=⟨⟨I.ok.mod,I.ok.kind,I.ok.glob,I.ok.blt,I.ok.above,I.ok.inj,I.ok.has,I.ok.cab,I.ok.hd,I.ok.frames,I.ok.stk,I.ok.exf,I.ok.bs,I.ok.bsz,I.ok.noex,I.ok.exfs,I.ok.funs,I.ok.frf⟩,I.os,I.bare,I.base,I.loc,I.cell,I.free,I.freeC,I.pin,I.hok,I.len⟩
theorem Inv.of_nox(I:38 X.nox Z H s):`n:=⟨⟨I.ok.mod,I.ok.kind,I.ok.glob,I.ok.blt,I.ok.above,I.ok.inj,I.ok.has,I.ok.cab,I.ok.hd,I.ok.frames,I.ok.stk,I.ok.exf,I.ok.bs,I.ok.bsz,I.ok.noex,I.ok.exfs,I.ok.funs,I.ok.frf⟩,I.os,I.bare,I.base,I.loc,I.cell,I.free,I.freeC,I.pin,I.hok,I.len⟩
theorem BA{D:Ends}{fl:Flow}{s':Gx}(h:SP X.nox Z_ D fl s'):SP X Z_ D fl s':=by
 cases fl with
 |next=>obtain⟨σ',H',J,z⟩:=h;exact⟨σ',H',J.of_nox,z⟩
 |ret u=>obtain⟨v,σ',H',J,r,z⟩:=h;exact⟨v,σ',H',J.of_nox,r,z⟩
 |brk=>obtain⟨σ',H',J,z⟩:=h;exact⟨σ',H',J.of_nox,z⟩
 |cont=>obtain⟨σ',H',J,z⟩:=h;exact⟨σ',H',J.of_nox,z⟩
theorem x5{st:Stmt}{t:TS}(h:PS X.nox st t):PS X st t:=λZ_ s Z H D I q=>Ic (h Z_ s Z H D I.to_nox q) (λfl s' z=>BA z) λ_ _ z=>z.elim
end
theorem ObjOk.ex{P:GJ}{w:GW}{H:Hp}{h:Heap}{a:Addr}:∀{o:HO},ObjOk P w H h a o->∃ob,35 a ob:=by
 intro o
 induction o with
 |lst xs=>intro x;obtain⟨_,its,n,r,e⟩:=x;exact 42 e
 |tup xs=>intro x;obtain⟨_,its,r,ob,e,c⟩:=x;exact 42 e
 |dK kvs=>intro x;obtain⟨_,_,vs,r,ob,es,ep,e,c⟩:=x;exact 42 e
 |dT kvs=>intro x;obtain⟨_,_,xs,r,ob,es,ep,e,c⟩:=x;exact 42 e
 |set Z1 n=>intro x;obtain⟨o,e,_⟩:=Sb x;exact 42 e
 |ins C dx fs=>intro x;obtain⟨_,_,_,e,_⟩:=x;exact 42 e
 |own y=>intro x;exact x
 |xd fs=>intro x;obtain⟨mA,hn,_⟩:=x;obtain⟨o,es,ep,e,_⟩:=hn;exact 42 e
 |rng lo hi=>intro x;obtain⟨t,u,v,e⟩:=x;exact 42 e
 |frz o u=>intro x;exact 42 x.1
 |tbl ps=>intro x;exact 42 x
 |met f y=>intro x;exact 42 x
 |ext φ=>intro x;exact x.2.1
def Ecl(h:Heap)(C:Addr):Prop:=∃nm q N bs bm hdct sn sub ab col dd k0 k1 k2 k3 k5 newId mN B initId bmB,35 C (excClassObj nm q C N bs bm hdct sn sub ab col dd k0 k1 k2 k3 k5 newId)/\h.Ns N mN/\2 (mN "__init__") `j (OwnTail h bmB bm) (ExcBaseFacts B newId initId bmB)
def x6(E:XK)(C:Addr)(t:TA):TS:=λ_ Z H=>t Z H λvs H1=>69 `aK/\∀x,7 (H1 x)->E `bd (some C) H1
section
variable{P:GJ}{w:GW}{K:Gr}{mg:Str->`M}{base:Heap}{N:`y}{Z6:Str}{scope:Ka}{f:Addr}{cd:Gu}{A:Hk}{outer:`bA}{s0:Gx}{H0:Hp}{E:XK}{C:Addr}
theorem qe{x:Str}{np Z8 pos:Pos}{e:Expr}{es:`af}{t:TA}(cl:Ecl `d C)(hg:Gl (uV P w K mg `d N Z6 `C f cd A `G s0 H0 E) x)(hm:90 x C)(ha:PA (uV P w K mg `d N Z6 `C f cd A `G s0 H0 E) (e::es) t)
  (hdb:12 (x==("__debug__" :Str)):=by decide) (he:starEach (e::es) (uV P w K mg `d N Z6 `C f cd A `G s0 H0 E).env=(false,eval e (uV P w K mg `d N Z6 `C f cd A `G s0 H0 E).env)::starEach es (uV P w K mg `d N Z6 `C f cd A `G s0 H0 E).env:=by rfl) (hpl:12 ((backTo Z8<|starEach es (uV P w K mg `d N Z6 `C f cd A `G s0 H0 E).env).any (·.1)):=by rfl):
  PS (uV P w K mg `d N Z6 `C f cd A `G s0 H0 E) (.Raise (some<|123 x np (e::es) [] Z8) `j pos) (x6 E C t):=by
 intro Z_ s Z H D I h;obtain⟨nm,q,Nn,bs,bm,hdct,sn,sub,ab,col,dd,k0,k1,k2,k3,k5,newId,mN,B,initId,bmB,hC,hN,hni,T,F⟩:=cl;refine wpAny_Raise_call_subT (C:=C) (nm:=nm) (q:=q) (N:=Nn) (bs:=bs) (bm:=bm) (hdct:=hdct) (sn:=sn) (sub:=sub) (ab:=ab) (col:=col) (dd:=dd) (k0:=k0) (k1:=k1) (k2:=k2) (k3:=k3) (k5:=k5) F (mN:=mN) (T.hasType F.hasBase) (I.ok.hd `a) (by rw[he];show 12 (`K||(backTo Z8<|starEach es _).any (·.1));rw[hpl];rfl) hni (iQ I hg hm (15 ?_) hdb);rw[he];refine O9 ?_;show wpAny _ _ (spliced<|backTo Z8<|(false,eval e (uV P w K mg `d N Z6 `C f cd A `G s0 H0 E).env)::starEach es (uV P w K mg `d N Z6 `C f cd A `G s0 H0 E).env) _ _ _;rw[<-he];refine cE (ha Z8 Z_ s Z H _ I h) λus s1⟨vs,H1,I1,r,hz,q1⟩=>⟨rfl,by rw[<-r.length];exact hz,I1.bk _ _ hC,hN.keeps I1.bk,T.keeps I1.bk,λh' y hy=>?_⟩
 obtain⟨t0,h1,h2,h3⟩:=hy.there;have I2:Inv (uV P w K mg `d N Z6 `C f cd A `G s0 H0 E) Z_ Z H1 {s1 with heap:=h'}:=I1.kept (t':=s1.toks) hy.keeps;have n1:7 (H1 y):=by
  cases z:H1 y with
  |none=>rfl
  |some o=>obtain⟨ob,hb⟩:=(I1.hok y o z).ex;rw[hy.new]at hb;cases hb
 have n2:7 (s0.heap.get? y):=by
  cases z:s0.heap.get? y with
  |none=>rfl
  |some o=>obtain⟨ob,hb⟩:=I1.base.there y o z (by simp[mI]);rw[hy.new]at hb;cases hb
 exact Dh (od:=none) I2 ⟨n1,n2,_,_,h1,15 `a,`a,`a,`X⟩ (q1 y n1)
end
def Xcl(h:Heap)(C:Addr)(bm:`aq):Prop:=∃nm q N bs hdct sn sub ab col dd k0 k1 k2 k3 k5 newId,35 C (excClassObj nm q C N bs bm hdct sn sub ab col dd k0 k1 k2 k3 k5 newId)/\1 (bm.contains<|.type "BaseException")
theorem Xcl.keeps{h h':Heap}{C:Addr}{bm:`aq}(x:Xcl h C bm)(k:∀b o,35 b o->66 b o):Xcl h' C bm:=by
 obtain⟨nm,q,N,bs,hdct,sn,sub,ab,col,dd,k0,k1,k2,k3,k5,newId,e,hb⟩:=x;exact⟨nm,q,N,bs,hdct,sn,sub,ab,col,dd,k0,k1,k2,k3,k5,newId,k _ _ e,hb⟩
section
variable{M:Mv}{A:Hk}{E:`A}
theorem mP{s:Gx}{e C D:Addr}{bmC bmD:`aq}{oe:Obj}{Q:68 Bool}(hC:Xcl `i C bmC)(hD:Xcl `i D bmD)(he:22 e oe)(hcls:oe.cls=`aI)(hq:Q ((GZ C::bmC).contains `be) s):57 M A (excMatches (.ref e) `be) Q E:=by
 obtain⟨h,g,d,t,os⟩:=s;obtain⟨nm,q,N,bs,hdct,sn,sub,ab,col,dd,k0,k1,k2,k3,k5,newId,hC,hbase⟩:=hC;obtain⟨nm',q',N',bs',hdct',sn',sub',ab',col',dd',k0',k1',k2',k3',k5',newId',hD,hbase'⟩:=hD;have hcB:1 ((GZ D::bmD).contains<|.type "BaseException"):=by rw[OR,hbase',Bool.or_true]
 have f:=tc_notTuple;generalize hb:(GZ C::bmC).contains (.ref D)=b at hq;unfold excMatches
 repeat (first|(with_reducible refine P9 he ?_;rw[hcls])|with_reducible refine P9 hD ?_|(with_reducible refine Ov hD ?_;rw[hcB])|(with_reducible refine Ov hC ?_;rw[hb])|wp_step)
 first|exact hq|(cases b<;>(wp_walk;exact hq))
end
structure Big(X:Cx)(Z_:`N)(lim:Heap):Prop where
 old:∀b o,153 b o->b∉X.ex->lim.get? b≠`j
 loc:lim.get? X.env.locals≠`j
 cell:∀x c,95 x c->lim.get? c≠`j
 pin:∀p∈X.pn++Z_,lim.get? p.1≠`j
def Own(X:Cx):Prop:=X.stack=`D::X.outer/\0 X.env.frame X.env.locals
section
variable{X:Cx}{Z_:`N}{Z:St}{H:Hp}{s:Gx}{lim h':Heap}{e C:Addr}{od:`aW}{oe:Obj}
theorem Own.frs(o:Own X):frs X.stack=X.env.locals::X.fs:=by
 rw[o.1];unfold L2.frs;rw[Jy,o.2];rfl
theorem Inv.bigX(I:`n):Big X Z_ `i:=by
 refine⟨λb o q n=>?_,?_,λx c q=>?_,λp hp=>?_⟩
 ·obtain⟨o',z⟩:=I.base.there b o q n;rw[z];exact λz=>nomatch z
 ·obtain⟨m,⟨o,es,ep,ho,_⟩,_⟩:=I.loc;rw[ho];exact λz=>nomatch z
 ·obtain⟨v,o,ho,_⟩:=I.cell x c q;rw[ho];exact λz=>nomatch z
 ·rw[(I.pin p hp).1];exact λz=>nomatch z
theorem Inv.gone(I:`n)(w:Own X)(x:Fly `i H lim e C od)(B:Big X Z_ lim)(g:Gone (frs X.stack) H lim e `i h'):Inv X Z_ Z H {s with heap:=h'}:=by
 have hf:=w.frs;have ne:∀b,lim.get? b≠`j->b≠e:=λb hb z=>hb (by rw[z];exact x.hl);have low:∀b o,153 b o->b∉X.fs->b∉frs X.stack:=λb o q n m=>by
  rw[hf]at m;rcases GI.mp m with z|z
  ·have:=GG q;rw[z]at this;exact 128 this I.ok.above (HI _)
  ·exact n z
 have cellK:∀y c,95 y c->∀v,s.heap.IsCell c v->h'.IsCell c v:=λy c q v⟨o,ho,hd⟩=>by
  by_cases m:c∈frs X.stack
  ·obtain⟨sl,z⟩:=g.slot c o ho m;exact 8 z hd
  ·exact⟨o,g.keep c o ho m (ne c<|B.cell y c q)<|.inr<|B.cell y c q,hd⟩
 refine⟨I.ok,I.os,I.bare,⟨λb o q n hb hx=>?_,λb o q n hb hx=>?_,I.base.free,λb o q hx=>?_,I.base.tups,I.base.frzs,I.base.tbls⟩,?_,λy c q=>?_,I.free,I.freeC,λp hp=>?_,λb u hb=>?_,I.len⟩;·exact g.keep b o (I.base.keep b o q n hb hx) (low b o q hb) (ne b<|B.old b o q hx) (.inr<|B.old b o q hx)
 ·obtain⟨sl,z⟩:=I.base.slot b o q n hb hx;obtain⟨sl',z'⟩:=g.slot b _ z (by rw[hf];exact GS _ hb);exact⟨sl',z'⟩
 ·obtain⟨o',z⟩:=I.base.there b o q hx;exact g.there b o' z
 ·obtain⟨m,⟨o,es,ep,ho,hd,hk,hm⟩,hl⟩:=I.loc;obtain⟨sl,z⟩:=g.slot _ o ho (by rw[hf];exact GO ..);refine⟨m,⟨_,es,ep,z,hd,hk,hm⟩,λi y v q1 q2 q3=>?_⟩;obtain⟨u,r,l⟩:=hl i y v q1 q2 q3;refine⟨u,r,?_⟩;rcases l with l|⟨k,c,q,z⟩
  ·exact .inl l
  ·exact .inr ⟨k,c,q,cellK y c q _ z⟩
 ·obtain⟨v,z⟩:=I.cell y c q;exact⟨v,cellK y c q v z⟩
 ·obtain⟨q,n,nl,nf,d⟩:=I.pin p hp;exact⟨g.keep p.1 p.2 q (λm=>by
   rw[hf]at m;rcases GI.mp m with z|z
   ·exact nl z
   ·exact nf z) (ne _<|B.pin p hp)<|.inr<|B.pin p hp,n,nl,nf,d⟩
 ·refine(I.hok b u hb).stay (λc v hc q1=>?_) (λ_ q1=>q1) λ_ _ q1=>q1;have hn:H c≠`j:=by
   rcases hc with z|z
   ·rw[z,hb];exact λz=>nomatch z
   ·rw[z];exact λz=>nomatch z
  exact g.keep c v q1 (λm=>hn<|I.stkFree c m) (λz=>hn (by rw[z];exact x.he)) (.inl hn)
abbrev Cx.held(X:Cx)(e:Addr)(oe:Obj):Cx:={X with A:=X.A.mark<|some<|.ref e,calm:=false,pn:=(e,oe)::X.pn,xe:=λ_ _=>False}
theorem Inv.held(I:`n)(q:22 e oe)(n:41 e)(nl:145 e)(nf:e∉X.fs)(d:∀v,oe.data≠.cell v):38 (X.held e oe) Z H s:=
 ⟨⟨I.ok.mod,I.ok.kind,I.ok.glob,I.ok.blt,I.ok.above,I.ok.inj,I.ok.has,I.ok.cab,λz=>(nomatch z),I.ok.frames,I.ok.stk,I.ok.exf,I.ok.bs,I.ok.bsz,I.ok.noex,I.ok.exfs,I.ok.funs,I.ok.frf⟩,I.os,I.bare,I.base,I.loc,I.cell,I.free,I.freeC,λp hp=>by
  rcases GI.mp hp with z|z;·subst z;exact⟨q,n,nl,nf,d⟩
  ·exact I.pin p z,I.hok,I.len⟩
theorem Inv.unheld(ok:X.Ok)(I:38 (X.held e oe) Z H s):`n:=⟨ok,I.os,I.bare,I.base,I.loc,I.cell,I.free,I.freeC,λp hp=>I.pin p<|GS _ hp,I.hok,I.len⟩
abbrev Cx.pinsX(X:Cx)(ps:`N):Cx:={X with pn:=X.pn++ps}
theorem Inv.pinnedX(I:`n):Inv (X.pinsX Z_) [] Z H s:=⟨⟨I.ok.mod,I.ok.kind,I.ok.glob,I.ok.blt,I.ok.above,I.ok.inj,I.ok.has,I.ok.cab,I.ok.hd,I.ok.frames,I.ok.stk,I.ok.exf,I.ok.bs,I.ok.bsz,I.ok.noex,I.ok.exfs,I.ok.funs,I.ok.frf⟩,I.os,I.bare,I.base,I.loc,I.cell,I.free,I.freeC,λp hp=>I.pin p<|by simpa using hp,I.hok,I.len⟩
theorem Inv.unpinnedX{pins':`N}(ok:X.Ok)(I:Inv (X.pinsX Z_) pins' Z H s):`n:=⟨ok,I.os,I.bare,I.base,I.loc,I.cell,I.free,I.freeC,λp hp=>I.pin p<|JN _ hp,I.hok,I.len⟩
def x8(X:Cx)(E:XK)(v:Gu)(s:Gx):Prop:=∃(Z_:List (Addr×Obj))(Z:St)(H:Hp)(x C:Addr)(lim:Heap)(od:Option Addr),25 v `bd `n (Fly `i H lim x C od) (Big X Z_ lim) ((∀b,150 b->7 (lim.get? b))/\E (XV x od) (some C) H)
theorem AM{E:XK}:jW (CXR `S X.w) (X.wish<|x8 X E) E:=λZ_ Z H s v s' I⟨x,C,H',od,hv,fl,os,bare,un,hok,q⟩=>by
 subst hv;have I0:`n:=I.unwish;have I':38 X Z H' s':=I0.call' os un hok bare λb z=>absurd z `g;refine⟨Z_,Z,H',x,C,`i,od,`a,I',fl,I0.bigX,`bm,q⟩;cases z:s.heap.get? b with
 |none=>rfl
 |some o=>
  obtain⟨o',z'⟩:=un.there b o z `g;exact 128 (GG z') hb (HI _)
end
section
variable{X:Cx}{Z_:`N}{Z:St}{H:Hp}{s:Gx}{lim h':Heap}{e C:Addr}{oe:Obj}{M:Mv}{A:Hk}{E:`A}
theorem kW{i:Nat}{x:Str}{pos:Pos}{Q:68 Unit}(I:`n)(hN:X.N.Nodup)(hi:0 X.N[i]? x)(hk:147 x .local)
  (h:∀s',38 X (Z.set i `j) H s'->Q () s'):57 M A (do bindName X.env x .none;unbindBehindTheSuite X.env x pos) Q E:=by
 obtain⟨m,hn,hl⟩:=id I.loc;have hcls:12 (X.env.scope.kind==.class||X.env.scope.kind==.module&&X.env.locals !=X.env.globals):=by rw[I.ok.kind];rfl
 have hiσ:i<Z.length:=by rw[I.len];exact(GA.mp hi).1
 have cne:=I.cne;obtain⟨oL,_,_,hoL,_⟩:=id hn;refine wpAny_nameGoes_keeps hk hn hcls λh' v hn' hs=>?_;have tracked:HOk `S X.w H h':=λb ob q=>by
  refine(I.hok b ob q).stay (λc w' hc q'=>127 c ?_ q') (λ_ q=>q) λ_ _ q=>q;rintro rfl;rcases hc with rfl|hc
  ·rw[I.free]at q;cases q
  ·rw[I.free]at hc;cases hc
 refine h _ ⟨I.ok,I.os,I.bare,⟨λb o q n hb hx=>?_,λb o q n hb hx=>?_,I.base.free,λb o q hx=>?_,I.base.tups,I.base.frzs,I.base.tbls⟩,8 hn' λj y v' e1 e2 e3=>?_,λy c q=>?_,I.free,I.freeC,λp hp=>?_,tracked,by simpa using I.len⟩;·exact 127 b (GY<|GF (GG q) I.ok.above) (I.base.keep b o q n hb hx)
 ·obtain⟨sl,q1⟩:=I.base.slot b o q n hb hx;exact⟨sl,127 b (GY<|GF (GG q) I.ok.above) q1⟩
 ·obtain⟨o',q1⟩:=I.base.there b o q hx;exact⟨o',127 b (GY<|GF (GG q) I.ok.above) q1⟩
 ·by_cases hj:j=i
  ·subst hj;rw[JX hiσ]at e2;cases e2
  ·rw[Ma (JI hj)]at e2;obtain⟨u',r',q⟩:=hl j y v' e1 e2 e3;refine⟨u',r',?_⟩;rcases q with⟨k,q⟩|⟨k,c,q,z⟩
   ·refine 116 k ?_;have:y≠x:=λz=>hj<|lg hN e1<|z▸hi;simp[this,q]
   ·exact .inr ⟨k,c,q,z.sameBut hs<|cne y c q⟩
 ·obtain⟨w',z⟩:=I.cell y c q;exact⟨w',z.sameBut hs<|cne y c q⟩
 ·obtain⟨q,n,ne,nf,d⟩:=I.pin p hp;exact⟨127 p.1 ne q,n,ne,nf,d⟩
end
def Held(oe:Obj)(C:Addr)(od:`aW):Prop:=(oe.cls=`aI/\oe.dict=od)/\∃vs:Array Gu,oe.data=.fields vs/\0 vs[2]? .none
def BB(E:XK)(i:Nat)(tb:TS)(ts:20 Addr Addr `aW Obj TS):TS:=λD Z H=>tb D Z H/\∀(x C:Addr)(od:`aW)(oe:Obj)(σ':St)(H':Hp),E (XV x od) (some C) H'->H' x=none->Held oe C od->σ'.length=Z.length->ts x C od oe {nx:=λσ'' H''=>D.nx (σ''.set i `j) H'',rt:=D.rt,bk:=λσ'' H''=>D.bk (σ''.set i `j) H'',ct:=λσ'' H''=>D.ct (σ''.set i `j) H''} (σ'.set i<|24 x) H'
section
variable{X:Cx}{E:XK}{D:Addr}{bmD:`aq}{body suite:List Stmt}{b₀:Stmt}{xn n:Str}{i:Nat}{np pos pos':Pos}{tb:TS}{ts:20 Addr Addr `aW Obj TS}
theorem x9(w:Own X)(hb:∀ps,PSs ((X.pinsX ps).wish<|x8 (X.pinsX ps) E) body tb)(hg:Gl X xn)(hm:0 (X.mg xn) (.ref D))(hD:Xcl X.base D bmD)
  (hcl:∀v C H,E v (some C) H->∃bmC,Xcl X.base C bmC/\1 ((GZ C::bmC).contains `be))
  (hN:X.N.Nodup) (hi:0 X.N[i]? n) (hk:147 n .local) (hsu:∀x C od oe,Held oe C od->PSs (X.held x oe) (b₀::suite) (ts x C od oe))
  (hdb:12 (xn==("__debug__" :Str)):=by decide):
  PS X (.Try body [.ExceptHandler (some<|.Name xn np) (some n) (b₀::suite) pos] [] [] pos') (BB E i tb ts):=by
 intro Z_ s Z H Dn I h;refine wpAny_Try_except (Ic (hb Z_ [] s Z H Dn (I.pinnedX.wish _) h.1) (λf s1 q=>?_) λv s1 q=>?_)
 ·cases f with
  |next=>
   obtain⟨σ1,H1,J,z⟩:=q;exact KI ⟨σ1,H1,J.unwish.unpinnedX I.ok,z⟩
  |brk=>obtain⟨σ1,H1,J,z⟩:=q;exact⟨σ1,H1,J.unwish.unpinnedX I.ok,z⟩
  |cont=>obtain⟨σ1,H1,J,z⟩:=q;exact⟨σ1,H1,J.unwish.unpinnedX I.ok,z⟩
  |ret u=>obtain⟨v,σ1,H1,J,r,z⟩:=q;exact⟨v,σ1,H1,J.unwish.unpinnedX I.ok,r,z⟩
 ·obtain⟨pins1,σ1,H1,x,C,lim,od,rfl,J0,fl,B0,hsz,hE⟩:=q;have J:38 X σ1 H1 s1:=J0.unpinnedX I.ok;have B:Big X Z_ lim:=⟨B0.old,B0.loc,B0.cell,λp hp=>B0.pin p<|JN _ hp⟩
  have hfr:0 X.A.frames (`D::X.outer):=w.1▸I.ok.frames;refine tE (base:=X.base) (H:=H1) (lim:=lim) (C:=C) hfr (w.1▸J.stack) w.2 fl (λb hb=>⟨J.hok.fresh hb,hsz b hb⟩) λh2 g2 fl2=>?_;have J2:Inv X Z_ σ1 H1 {s1 with heap:=h2}:=J.gone w fl B (by rw[w.1];exact g2);obtain⟨bmC,hC,hup⟩:=hcl _ _ _ hE;have nl:145 x:=λz=>B.loc (by rw[<-z];exact fl.hl);have nf:x∉X.fs:=λz=>by
   obtain⟨_,o,ho,_⟩:=I.ok.funs.mem z;exact B.old x o ho (λy=>I.ok.exfs x y z) fl.hl
  have held:∀{s':Gx},38 X σ1 H1 s'->Fly s'.heap H1 lim x C od->∃oe,Held oe C od/\0 (s'.heap.get? x) oe/\38 (X.held x oe) σ1 H1 s':=λ{s'}J' f'=>by
   obtain⟨_,_,oe,vs,h1,h2,h3,h4,_⟩:=id f';exact⟨oe,⟨h2,vs,h3,h4⟩,h1,J'.held h1 f'.he nl nf λv z=>by rw[h3]at z;cases z⟩
  obtain⟨oe2,hh2,ge2,K2⟩:=held J2 fl2;refine wpAny_handleBy_cons (codeAny_handlers_test ?_) (by intro q;cases q);refine iQ K2 hg hm ?_ hdb;refine mP (C:=C) (D:=D) (bmC:=bmC) (bmD:=bmD) (hC.keeps J2.bk) (hD.keeps J2.bk) ge2 hh2.1.1 ?_;rw[hup];refine codeAny_handlers_suite_as ?_;refine x4 (base:=X.base) (env:=X.env) (outer:=X.outer) (H:=H1) (lim:=lim) (C:=C) (w.1▸J2.stack) fl2 λh3 g3 fl3=>?_;have J3:Inv X Z_ σ1 H1 {s1 with heap:=h3}:=J2.gone w fl2 B (by rw[w.1];exact g3);obtain⟨oe,hh,ge,K3⟩:=held J3 fl3;refine ju (X:=X.held x oe) (i:=i) (v:=`bd) K3 hN hi (.inl hk) `a (λs4 K4=>?_) (.inr hk);refine Ic (hsu x C od oe hh Z_ s4 _ H1 _ K4<|h.2 x C od oe σ1 H1 hE fl.he hh<|by rw[J.len,I.len]) (λf s5 q=>?_) λ_ _ z=>z.elim;show wpAny _ _ (do bindName X.env n .none;unbindBehindTheSuite X.env n pos) _ _ _;cases f with
  |next=>obtain⟨σ5,H5,K5,z⟩:=q;exact kW (K5.unheld I.ok) hN hi hk λs6 K6=>⟨_,H5,K6,z⟩
  |brk=>obtain⟨σ5,H5,K5,z⟩:=q;exact kW (K5.unheld I.ok) hN hi hk λs6 K6=>⟨_,H5,K6,z⟩
  |cont=>obtain⟨σ5,H5,K5,z⟩:=q;exact kW (K5.unheld I.ok) hN hi hk λs6 K6=>⟨_,H5,K6,z⟩
  |ret u=>obtain⟨v,σ5,H5,K5,r,z⟩:=q;exact kW (K5.unheld I.ok) hN hi hk λs6 K6=>⟨v,_,H5,K6,r,z⟩
end
theorem mQ:1 (plainId "proto.unchain"):=by decide +kernel
theorem mR:entryFor table "proto.unchain"=some J4.«proto.unchain»:=entryFor_of_fast (by kernel_rfl)
def Hdl(A:Hk)(h:Heap):Prop:=∃(x C:Addr)(od:Option Addr)(oe:Obj),0 A.handled (.ref x)/\35 x oe/\Held oe C od
theorem Hdl.keeps{A:Hk}{h h':Heap}(x:Hdl A h)(k:∀b o C,35 b o->o.cls=`aI->66 b o):Hdl A h':=by
 obtain⟨a,C,od,oe,h1,h2,h3⟩:=x;exact⟨a,C,od,oe,h1,k a oe C h2 h3.1.1,h3⟩
section
variable{prog:GJ}{w:GW}{A:Hk}{E:`A}{s:Gx}
theorem mS{S:Type}{a:Addr}{oa:Obj}{vs:`bp}{T:String}{Q:68 S}(hh:Hdl A `i)(ha:22 a oa)(hc:oa.cls=.type T)(hd:oa.data=.fields vs)(h2:2<vs.size)
  (h:∀h',h'.get? a=some (HY (·.setIfInBounds 2 (A.handled.getD .none)) oa)->GU a s.heap h'->E (`ai) {s with heap:=h'}):85 w A (raiseNew (`ai):Sem S) Q E:=by
 obtain⟨x,C,od,oe,e1,e2,⟨e3,_⟩,us,e4,e5⟩:=hh;have ne:x≠a:=λz=>by
  rw[z,ha]at e2;rw[Ha e2,e3]at hc;cases hc
 unfold raiseNew;refine Gn (N6 ?_);rw[e1];show wpAny _ _ (if 1 (GZ x !=GZ a) then _ else _) _ _ _;rw[Z3 (bne_iff_ne.mpr λz=>ne<|QK z)];refine Gn (HN<|wpAny_runValue<|codeAny_builtin mR ?_);rw[Around.under_plainId mQ _];unfold J4.«proto.unchain»;refine Gn (Hf e2 e4 e5 ?_);rw[Z3 ⋯];refine Gn `B;refine `B;refine Gn (Ir ha hd h2<|Ob ?_);refine h _ ?_<|Ik ..;rw[e1];exact HP _ ha (JD<|J6 hd _)
theorem kg{S:Type}{Q:68 S}(hh:Hdl A `i)
  (h:∀a h',({s with heap:=h'}:Gx).TypeIs (`ai) "StopIteration"->s.heap.get? a=none->(∀b o,22 b o->66 b o)->E (`ai) {s with heap:=h'}):
  85 w A (do let e <-newExc (.type `bD) [];raiseNew e:Sem S) Q E:=by
 refine `aN;simp only[newExc,newTuple];refine Gn (HR ?_ (by size_fits));refine Gn (m:=firstArgMember _ _) (MV (a:=Hl) (by first|rfl|(simp only[firstArgMember];rfl)) ?_);refine HR ?_ (by size_fits);generalize hg:s.heap.push _=h1;have k1:∀b o,22 b o->0 (h1.get? b) o:=λb o q=>by rw[<-hg];exact 17 q
 have z1:150 h1.objs.size:=by rw[<-hg,HQ];exact Md _
 refine mS (T:=`bD) (hh.keeps λb o C q _=>17<|k1 b o q) (86 _) `a `a (by simp[ownMembersOf]) λh' e1 hs=>?_;refine h _ _ (8 e1<|by rw[MU]) (M8 z1) λb o q=>127 b (λz=>?_) (17<|k1 b o q);exact absurd (GG<|k1 b o q) (by rw[z];exact HI _)
theorem mT{it l:Addr}{i:Nat}{items:`bp}{Q:68 `M}(hh:Hdl A `i)(hit:s.heap.IsListIter it l i)(hl:s.heap.IsList l items)(hx:7 items[i]?)
  (hQ:∀h',Jg it s.heap h'->Q none {s with heap:=h'}):85 w A (pyNext `an) Q E:=by
 obtain⟨o,ho,hc,hd⟩:=id hit;obtain⟨ol,hol,_,nl,hdl⟩:=hl;unfold pyNext;refine Gn (IU<|Hu (name:=`bQ) hit.typeIs Lx<|Hv Lx hit.typeIs Ox ?_<|OS _);show 57 _ _ (field (`an) 0>>=_) _ _;refine Gn (Hf ho hd (x:=.ref l) `a ?_);show 57 _ _ (if 1 (GZ l==Hl) then _ else _) _ _;rw[Z4 (show ¬(1<|GZ l==Hl)from GL)];show 57 _ _ (field (`an) 1>>=_) _ _;refine Gn (Hf ho hd (x:=.int i 0) `a ?_);show 57 _ _ (seqItems? (.ref l)>>=_) _ _;refine Gn (Hy hol hdl ?_);simp only[Ia,hx];refine Gn (J7<|Gn<|Ir ho hd `g ?_);refine kg (A:=A.in1) ?_ λa h' tp nw hk=>?_
 ·exact Hdl.keeps (A:=A.in1) hh λb ob C q z=>(Ht _ _ λy=>by
   rw[<-y,ho]at q;rw[<-Ha q,hc]at z;cases z).trans q
 ·refine Gn (IG (T:=`bD) (b:=true) tp Jl ?_);exact Gv (hQ _ λb ob hb q=>hk b ob<|(Ht _ _<|JI hb).trans q)
theorem lQ{it l:Addr}{i:Nat}{items:`bp}{Q:68 `M}(hh:Hdl A `i)(hit:IsTupIter `i it l i)(hl:S5 `i l items)(hx:7 items[i]?)
  (hQ:∀h',Jg it s.heap h'->Q none {s with heap:=h'}):85 w A (pyNext `an) Q E:=by
 obtain⟨o,ho,hc,hd⟩:=id hit;obtain⟨ol,hol,_,nl,hdl⟩:=hl;unfold pyNext;refine Gn (IU<|Hu (name:=`bQ) hit.typeIs Oy<|Hv Oy hit.typeIs entry_tupleiter_next ?_<|args_tupleiter_next _);show 57 _ _ (field (`an) 0>>=_) _ _;refine Gn (Hf ho hd (x:=.ref l) `a ?_);show 57 _ _ (if 1 (GZ l==Hl) then _ else _) _ _;rw[Z4 (show ¬(1<|GZ l==Hl)from GL)];show 57 _ _ (field (`an) 1>>=_) _ _;refine Gn (Hf ho hd (x:=.int i 0) `a ?_);show 57 _ _ (seqItems? (.ref l)>>=_) _ _;refine Gn (Hy hol hdl ?_);simp only[Ia,hx];refine Gn (J7<|Gn<|Ir ho hd `g ?_);refine kg (A:=A.in1) ?_ λa h' tp nw hk=>?_
 ·exact Hdl.keeps (A:=A.in1) hh λb ob C q z=>(Ht _ _ λy=>by
   rw[<-y,ho]at q;rw[<-Ha q,hc]at z;cases z).trans q
 ·refine Gn (IG (T:=`bD) (b:=true) tp Jl ?_);exact Gv (hQ _ λb ob hb q=>hk b ob<|(Ht _ _<|JI hb).trans q)
theorem qf{t:Addr}{items:`bp}{Q:68 `aq}(hh:Hdl A `i)(ht:S5 `i t items)
  (hQ:∀h',Jg s.heap.objs.size s.heap h'->Q items.toList {s with heap:=h'}):85 w A (unpackItems (.ref t) items.size `j) Q E:=by
 have hlt:t≠`bk:=by obtain⟨o,ho,_⟩:=ht;exact GY (GG ho)
 unfold unpackItems;refine `aN;unfold notIterableAtAll;refine Gn (Lq ht.typeIs slot_tuple_iter.lookup `B);simp only[Hg,if_false];refine Gn (HN<|iter_tuple ht ?_);refine Gn (HN<|draw_tuple hlt items.size 0 _ _ ⟨_,86 _,`a,`a⟩ (ht.push _) `b λh1 hit1 hs1=>?_);rw[show QY items.size (List.drop 0 items.toList)=items.toList by rw[Mz];exact K0 `g,Z4 `g];have kp:∀b o,22 b o->0 (h1.get? b) o:=λb o q=>(hs1.2 b<|GY<|GG q).trans (17 q);refine Gn (HN<|lQ (hh.keeps λb o C q _=>kp b o q) hit1 ((ht.push _).extBut hs1.extBut hlt) `g λh2 he2=>?_);simp only[Option.isSome_none,Hg,if_false];exact Gv (hQ h2 λb o hb q=>he2 b o hb<|kp b o q)
theorem jC{env:Env}{elts:`af}{x1}{pos:Pos}{t:Addr}{items:`bp}{Q:68 Unit}(hh:Hdl A `i)(ht:S5 `i t items)
  (hn:(assignEach elts env).length=items.size) (hstar:7 ((assignEach elts env).findIdx? (·.1)))
  (h:∀h',Jg s.heap.objs.size s.heap h'->wpAny (model `r w) A (assignInOrder ((assignEach elts env).map (·.2)) items.toList) Q E {s with heap:=h'}):
  85 w A (assign (.Tuple elts x1 pos) env<|.ref t) Q E:=by
 rw[assign_Tuple];refine Gn (JJ ?_);unfold unpack;rw[hn,hstar];exact Gn (HN<|qf hh ht h)
end
def HdX(X:Cx):Prop:=∃(x C:Addr)(od:Option Addr)(oe:Obj),0 X.A.handled (.ref x)/\Held oe C od/\153 x oe/\7 (X.H₀ x)/\x∉X.fs/\x∉X.ex
section
variable{X:Cx}{Z_:`N}{Z:St}{H:Hp}{s:Gx}
theorem Inv.hdl(I:`n)(x:HdX X):Hdl X.A `i:=by
 obtain⟨a,C,od,oe,h1,h2,h3,h4,h5,h6⟩:=x;exact⟨a,C,od,oe,h1,I.base.keep a oe h3 h4 h5 h6,h2⟩
theorem HdX.comp{scope:Ka}{N:`y}{C:Addr}{fp:`R}(x:HdX X)(I:`n)(f:112 X Z_ H b):HdX (33 X N s H C):=by
 obtain⟨a,C',od,oe,h1,h2,h3,h4,h5,h6⟩:=x;refine⟨a,C',od,oe,h1,h2,I.base.keep a oe h3 h4 h5 h6,I.base.free a oe h3 h4 h6,λm=>?_,λm=>?_⟩
 ·rcases GI.mp (I.stkSub a m)with z | z
  ·have:=GG h3;rw[z]at this;exact 128 this I.ok.above (HI _)
  ·exact h5 z
 ·rcases (f a m).2.2.2.1 with z | z;·exact h6 z
  ·exact 128 (GG h3) z (HI _)
end
structure TurnH(P:GJ)(w:GW)(K:Gr)(A:Hk)(tg:Expr)(J:It)(fp:`R)(it:Addr)(tn:11 Nat Heap):Prop where
 obj:∀i h,tn i h->∀b∈fp,∃o,35 b o/\∀v,o.data≠.cell v
 keep:∀i h h',tn i h->(∀b∈fp,∀o,35 b o->66 b o)->tn i h'
 item:∀(X:Cx),34 (`S=P) (X.w=w) (X.K=K) (X.A=A) (HdX X) (161 `n (112 X Z_ H b) (tn i `i) (J.go i H)<|102 P w X.A (pyNext `an) (λr s1=>∃u,0 r u/\60 P X.A (letOwnedTupleGo tg `an u) (λ_ s2=>∃x H',38 X Z H' s2/\78 x/\J.yld i H x H'/\tn (i+1) s2.heap/\140 (H' b)) E s1) E)
 done:∀(X:Cx),34 (`S=P) (X.w=w) (X.K=K) (X.A=A) (HdX X) (161 `n (112 X Z_ H b) (tn i `i) (J.stop i H)<|102 P w X.A (pyNext `an) (λr s1=>7 r/\38 X Z H s1) E)
 self:∀(A:Hk)(i:Nat)(s:Gx)(Q:Gu->Gx->Prop)(E:Gu->Gx->Prop),tn i `i->Q `an s->102 P w A (pyIter `an) Q E
theorem rE{P:GJ}{w:GW}{K:Gr}{A:Hk}{tg:Expr}(a it:Addr):TurnH P w K A tg (EN K a) [it] it (λi h=>h.IsListIter it a i) where
 obj:=(iR (P:=P) (w:=w) (K:=K) (tg:=tg) a it).obj
 keep:=(iR (P:=P) (w:=w) (K:=K) (tg:=tg) a it).keep
 self:=(iR (P:=P) (w:=w) (K:=K) (tg:=tg) a it).self
 item:=by
  intro X hP hw hK hA hx i Z_ s Z H E I hf st hg;subst hP hw hK hA;obtain⟨xs,x,hq,hx⟩:=hg;obtain⟨its,rv,p,hz⟩:=I.list hq;obtain⟨u,hu,ru⟩:=rv.get hx;obtain⟨f0,f1,f2,f3,f4,f5⟩:=110 it;refine Nm st p.isList (x:=u) (by simpa using hu) λh' st' sb=>?_;have I1:Inv X Z_ Z H {s with heap:=h'}:=I.turned (t':=s.toks) (λb o hb e=>(sb.2 b hb).trans e) f0 f1 f3 f4 f5;obtain⟨o,e,c,d⟩:=id st';exact 32 u (mY (s:={s with heap:=h'}) e c d ⋯ ⟨x,H,I1,ru,15 λys hy=>by rw[I.list_inj hy hq];exact hx,st',λb hb=>(hf b hb).1⟩)
 done:=by
  intro X hP hw hK hA hx i Z_ s Z H E I hf st hg;subst hP hw hK hA;obtain⟨xs,hq,hl'⟩:=hg;obtain⟨its,rv,p,hz⟩:=I.list hq;obtain⟨f0,f1,f2,f3,f4,f5⟩:=110 it;have hl:=rv.length;exact mT (I.hdl hx) st p.isList (by simp;omega) λh' eb=>15 (I.turned (t':=s.toks) (λb o hb e=>eb b o hb e) f0 f1 f3 f4 f5)
def DW(X:Cx)(tg iter:Expr)(wi:TI):Prop:=
 ∀(Z_:List (Addr×Obj))(s:Gx)(Z:St)(H:Hp)(R:It->Hp->Prop),`n->wi Z H R->92 X.w X.A (30 iter) (λv s1=>wpAny `aM X.A (pyIter v) (λitv s2=>∃(it:Addr)(fp:List Addr)(tn:Nat->Heap->Prop)(J:It)(H':Hp),25 itv `an (38 X Z H' s2) (TurnH `S X.w X.K X.A tg J fp it tn) (tn 0 s2.heap)<|112 X Z_ H' b/\R J H') X.xe s1) X.xe
section
variable{X:Cx}{tg:Expr}{K:Gr}
theorem xb{l:Expr}{tl:TE}(hK:X.K=K)(hl:9 l tl):DW X tg l (sE K tl):=by
 subst hK;intro Z_ s Z H R I h;refine 137 (hl Z_ s Z H _ I h) ?_;obtain⟨x,H1,I1,r1,q1⟩:=zz;obtain⟨a,e,⟨xs,hq⟩,q⟩:=q1;subst e;cases r1;obtain⟨its,rv,p,hz⟩:=I1.list hq;refine LH p.isList ?_;refine⟨`ba,[s1.heap.objs.size],_,_,H1,`a,I1.kept (t':=s1.toks) λb o e=>17 e,rE a _,⟨_,86 _,`a,`a⟩,`bm,q⟩;have e:b=`ba:=`bC
 subst e;exact 155 `w `w
theorem tF{pos:Pos}{es:`af}{k:Nat}{t:yV}{n:Nat}(hK:X.K=K)(hx:HdX X)(h:Ck X es t)
  (hn:(assignEach es `D).length=n:=by rfl) (hst:7 ((assignEach es `D).findIdx? (·.1)):=by rfl):PG X (.Tuple es k pos) (cf K n t):=by
 subst hK;intro Z_ s Z H v u Q I r hw;obtain⟨a,xs,e1,hq,hl,hw⟩:=hw;subst e1;cases r;obtain⟨its,rv,ht,hz⟩:=I.tuple hq;refine jC (I.hdl hx) ht (by simp[hn,<-hl,rv.length]) hst λh' hx=>?_;have I1:Inv X Z_ Z H {s with heap:=h'}:=I.kept (t':=s.toks) λb o e=>hx b o (GY<|GG e) e;exact h Z_ _ Z H xs _ Q I1 (by simpa using rv) hw
end
section
variable{X:Cx}{scope:Ka}{N:`y}{cap:List `ae}{tg iter Z5:Expr}{ifs:`af}{pos:Pos}{wi:TI}{g:TG}{tf:TT}{te:TE}
theorem TurnH.x{Z_:`N}{Z:St}{fp:`R}{it:Addr}{tn:11 Nat Heap}{J:It}{s2:Gx}{H2:Hp}(T:TurnH `S X.w X.K X.A tg J fp it tn)(hx:HdX X)(I2:38 X Z H2 s2)(f2:112 X Z_ H2 b)(hg:∀s H C fp,HdX (33 X N s H C)->PG (33 X N s H C) tg g)(C:Addr):TurnX (33 X N s2 H2 C) tg g J fp it tn:=⟨T.obj,T.keep,T.self,T.item _ `a `a `a `a<|hx.comp I2 f2,T.done _ `a `a `a `a<|hx.comp I2 f2,hg _ _ _ _<|hx.comp I2 f2⟩
theorem xc(Z1:CompScope X `C N cap)(hx:HdX X)(hi:DW X tg iter wi)
  (hg:∀s H C fp,HdX (33 X N s H C)->PG (33 X N s H C) tg g) (hf:∀s H C fp,uD (33 X N s H C) ifs tf) (he:∀s H C fp,PE (33 X N s H C) Z5 te)
  (hs:∀x,158 `D x=pure x:=by intro _;rfl):9 (.ListComp Z5 [⟨tg,iter,ifs,0⟩] `C pos) (pM cap wi g tf te):=by
 intro Z_ s Z H Q I h;rw[QJ];have frc:148 (x.2=.free) (∃c,95 x.1 c):=λx hx hk=>I.ok.has x.1 (Z1.free x hx hk);refine JM (use:=none) `a hs (dW frc) Z1.kind (fX Z1) (cE (hi Z_ s Z H _ I h) λv s1 h1=>cE h1 λitv s2 h2=>?_);obtain⟨it,fp,tn,J,H2,rfl,I2,T,st2,f2,W,w0,turn⟩:=h2;refine jl (RR:=λacc C=>compPost `aM X.A X.xe `j (EP X Z_ Z Q) acc C) Z1 hf he I2 (T.x hx I2 f2 hg) st2 f2 w0 turn λD C σ' H' s' its k ys hD hC hDC I' rv hl q=>?_;obtain⟨m,hn,_⟩:=I'.loc;exact⟨m,hn,λh' hs'=>⟨`be,_,lB I2 f2 hD hC hDC I' rv hl hs',`a,q⟩⟩
end
end L2
namespace L2
open PySem PySem.Spec PySem.Calls PyProof.Rows
open PySem.W (findIn findObj mroIn looks_findIn looks_find looks_mroIn class_get KitX clsIn Frag)
structure XK1(K:Frag)(C:Addr):Prop where
 ga:58 (findIn K `aI "__getattribute__") (.builtin `cg)
 gt:0 (findIn K `aI "__getattr__") `j
 cl:∀od,0 (findObj K C od "__class__") (.bind `cf `bI)
 ob:0 (mroIn K C<|.type "object") `o
 be:0 (mroIn K C<|.type "BaseException") `o
section
variable{prog:GJ}{w:GW}{A:Hk}{E:`A}{s:Gx}{K:Frag}{x C:Addr}{ox:Obj}{od:Option Obj}
theorem uW{Q:68 `M}(Z2:XK1 K C)(X:K.In `i)(I:LJ `i x ox C od)(h:Q (24 C) {s with toks:=s.toks+1}):85 w A (getAttr? `bd "__class__") Q E:=by
 obtain⟨hh,g,d,t,os⟩:=s;have L0:=I.type (M:=model `r w);have L1:=Ny (M:=model `r w) X Z2.ga;have L2:=Ny (M:=model `r w) X Z2.gt;have L3:=Q7 (M:=model `r w) X I (Z2.cl od);have L4:=PF (M:=model `r w) X Z2.be;unfold getAttr? getAttrBy? getAttrBy;refine Gn (wpAny_mkText<|Gn<|IU<|HN<|Gn<|L0.at<|Gn<|L1.at ?_);dsimp only;rw[show 12 (QL `cg==QL "object.__getattribute__") from by decide +kernel,Bool.and_false,`aZ];unfold getAttrByItsOwn hookBefore;rw[Z3 (show 1 (onTheHeap<|GZ C) from rfl)];refine Gn (L2.at ?_);refine Gn (IU<|HN ?_);unfold callGetattribute;rw[Z4 `g];unfold boundAndCalled;rw[MD.ga.bind];have LI:PySem.W.Looks (model `r w) hh (isInstance `bd<|.type "BaseException") `o:=L0.andThen L4;have chk:∀{A':Hk}{E':Gu->Gx->Prop}{Q':Unit->Gx->Prop}{tk:Nat},Q' () ⟨hh,g,d,tk,os⟩->60 `r A' (checkBuiltinCall `cg ⟨[.ref x,.str "__class__" t],[]⟩) Q' E' ⟨hh,g,d,tk,os⟩:=λ{A' E' Q' tk}hq=>by
  have hk:0 (builtinKind `cg) .slot:=by decide +kernel
  have hsplit:0 (splitId `cg) ("BaseException","__getattribute__"):=by decide +kernel
  have ha:=F.args_bexc_ga `bd (.str "__class__" t);simp only[checkBuiltinCall,hk,hsplit];refine Gn (LI.at ?_)
  repeat wp_step
  exact hq
 refine Gn (Gv<|Nq<|Og MD.ga.plain F.entry_bexc_ga<|chk ?_);refine Gn (m:=slotArgs _ _ _) `B;refine Gn (Gv<|Gn<|L0.at<|Gn<|L3.at ?_);show wpAny _ _ (holding [`bI] (call `cf [`bI,`bd,`aI])>>=ret) _ _ _;refine Gn (HN<|Nq<|QZ (s:=⟨hh,g,d,t+1,os⟩) (ox:=ox) (od:=od) X I Z2.ob `B);exact PySem.W.handed_on `a (Gv h)
theorem xf(Z2:XK1 K C):KitX K (`bd) (`aI) (λh=>LJ h x ox C od) where
 ty:=λ_ _ _ I=>I.type
 it:=λ_ _ X _=>by
  obtain⟨cd,a,_⟩:=Nh.mp Z2.ob;unfold clsIn at a;split at a
  ·rename_i c' d' cd' sl' ho;intro A' Q' E' s' k q;unfold isType loadHead;exact Gn (wpAny_loadPart (k _ _<|X _ _ ho)<|Gv q)
  ·cases a
 ne:=λh tp dd its n sl X htp=>by
  obtain⟨cd,a,_⟩:=Nh.mp Z2.ob;refine Bool.eq_false_iff.mpr λq=>?_;have e:C=tp:=QK (beq_iff_eq.mp q);subst e;unfold clsIn at a;split at a
  ·rename_i c' d' cd' sl' ho;have z:=(X _ _ ho).symm.trans htp;cases z
  ·cases a
 ca:=λX I k=>uW Z2 X I k
theorem rF{c:Gu}{b:Bool}{Q:`A}(Z2:XK1 K C)(X:K.In `i)(I:LJ `i x ox C od)(e:0 (HD K `aI c) b)(h:∀tk,Q (.bool b) {s with toks:=tk}):
  85 w A (call (.builtin "isinstance") [.ref x,c]) Q E:=IP (xf Z2) X I e (λz=>by cases z) h
end
end L2
namespace L2
open PySem PySem.Spec PySem.Calls PyProof.Rows
def HdE(X:Cx)(x C:Addr):Prop:=∃(oe:Obj)(od:Option Addr),(∀d,0 od d->∃o u,0 (X.H₀ d) (.frz o u))/\0 X.A.handled (.ref x)/\Held oe C od/\153 x oe/\2 (X.H₀ x) `j (x∉X.fs) (x∉X.ex)
theorem HdE.hdx{X:Cx}{x C:Addr}(h:HdE X x C):HdX X:=let ⟨oe,od,_,z⟩:=h;⟨x,C,od,oe,z⟩
theorem Inv.inst{X:Cx}{Z_:`N}{Z:St}{H:Hp}{s:Gx}{x C:Addr}(I:`n)(h:HdE X x C):∃ox od,LJ `i x ox C od:=by
 obtain⟨oe,od,hf,h1,⟨⟨h2,h2'⟩,vs,h7,h8⟩,h3,h4,h5,h6⟩:=h;have nc:1 (Q8 oe):=by unfold Q8;rw[h7]
 have hk:=I.base.keep x oe h3 h4 h5 h6;cases od with
 |none=>exact⟨oe,`j,hk,h2,nc,by rw[h2'];trivial⟩
 |some d=>
  obtain⟨o,u,z⟩:=hf d `a;have:=I.hok d _ (I.base.frzs d o u z);exact⟨oe,some o,hk,h2,nc,by rw[h2'];exact this.1⟩
def kv:V->`M
 | .ref D=>24 D
 | .ty T=>some (.type T)
 |_=>none
section
variable{X:Cx}{K:Gr}{x C:Addr}
theorem bA(hK:X.K=K)(h:HdE X x C)(Z2:XK1 K C):eY X (.builtin "isinstance") λxs H Q=>∃v c b,2 xs [.ref x,v] (0 (kv v) c) (0 (HD K `aI c) b/\Q (.bl b) H):=by
 subst hK;intro Z_ s Z H xs us Q I r q;obtain⟨v,c,b,rfl,hv,e,q⟩:=q;obtain⟨u,w',rfl,rx,rv⟩:=pG r;obtain rfl:u=`bd:=rx;have hw:w'=c:=by
  unfold kv at hv;split at hv;·cases hv;exact rv
  ·cases hv;exact rv
  ·cases hv
 subst hw;obtain⟨ox,od,J⟩:=I.inst h;exact rF Z2 I.kIn J e λtk=>⟨.bl b,H,I.tok _,`a,q⟩
end
structure RoomH(k:Nat)(A:Hk):Prop where
 dp:A.depth+3*k+5<recursionLimit
 un:A.units+16*k+200<cLine
theorem Room.h{k:Nat}{A:Hk}(r:Room k A)(v:`M):RoomH k (A.mark v):=⟨r.dp,r.un⟩
abbrev Di(P:GJ)(w:GW)(K:Gr)(mg:Str->`M)(base:Heap)(N:`y)(Z6:Str)(scope:Ka)(f:Addr)(cd:Gu)(A:Hk)(outer:`bA)(s0:Gx)(H0:Hp)(E:XK):Cx:={mI CX0 P w K mg base N Z6 scope f cd A outer s0 H0 E with calm:=false,xe:=λ_ _=>False}
structure FnOkH(P:GJ)(w:GW)(K:Gr)(mg:Str->`M)(base:Heap)(k:Nat)(f:Addr)(fd:GV)(ps:`y)(sp:Addr->Addr->Sp):Prop where
 len:∀x C vs H Q E,sp x C vs H Q E->`aK=`bh
 run:∀(x C:Addr)(od:Option Addr)(oe:Obj)(A:Hk)(outer:List Env)(s:Gx)(H:Hp)(args:Args)(us:List Gu)(vs:List V)(Q:VK)(E:XK),20 (RoomH k A) (0 A.handled<|.ref x) (Held oe C od) (∀d,0 od d->∃o u,21 d (.frz o u)) (20 (22 x oe) (41 x) (x∉frs `G) (Env0 P w K mg `d A `G s H)<|Ol s fd args (ps.zip us)->99 vs->sp x C vs H Q E->codeAny (model P w) A (.call (.ref f) args) (CR CX0 `G P w H s Q E) s)
section
variable{P:GJ}{w:GW}{K:Gr}{mg:Str->`M}{base:Heap}
theorem Fun.okH{x0 Z6:Str}{st:Stmt}{f:Addr}{fd:GV}{N ps:`y}{k:Nat}{sp:Addr->Addr->Sp}(F:Fun K x0 Z6 st f fd)(Z1:FnScope N ps (defScope st))(len:∀x C vs H Q E,sp x C vs H Q E->`aK=`bh)
  (hbody:∀(x C:Addr) (Z9:Gu) (A:Hk) (outer:`bA) (s:Gx) (H:Hp) (vs:`E) (Q:VK) (E:XK),HdE (Di P w K mg `d N Z6 `bt f Z9 A `G s H E) x C->RoomH k (A.deeper<|152 Z6 `bt f Z9)->sp x C vs H Q E->
   ∃t,PSs (Di P w K mg `d N Z6 `bt f Z9 A `G s H E) (defBody st) t/\t {nx:=λ_ H'=>Q .non H',rt:=Q} (start N vs) H):FnOkH P w K mg `d (k+1) f fd ps sp:=by
 obtain⟨oc,od,kV,doc,pm,an,Z9,ct,osl,rfl,lk,hcd⟩:=F.ex;refine⟨len,λx C od oe A outer s H args us vs Q E hr hA hh hfz hx hHx hxo e0 hb r hsp=>?_⟩;have hl:=len _ _ _ _ _ _ hsp;have KX:K.In `i:=e0.mod.kin.keeps λb o e=>(e0.bs b o e).1;have lim:s.heap.NoLimit:=e0.mod.nolimit.keeps λb o e=>(e0.bs b o e).1;have hkind:∀y∈ps.zip us,0 ((`bt).names.lookup y.1) .local\/0 ((`bt).names.lookup y.1) .cell/\1 ((cellsFrom (89 1) (`bt).names []).lookup y.1).isSome:=λ⟨n,v⟩hy=>by
  rcases Z1.par n (Kk hy).1 with q|q;·exact .inl q
  ·exact .inr ⟨q,KA _ _ _<|.inl q⟩
 refine NL (by have:=hr.dp;omega) (KX _ _ lk) `a Z1.co Z1.gen `a (OK KX hcd) (hb _ _ _ _ ?_);refine My Z1.kind hkind λenv he s1 z=>?_;subst he;refine⟨lim.keeps z.toInCall.keep,codeAny_func ?_⟩;have hE:HdE (Di P w K mg `d N Z6 `bt f Z9 A `G s H E) x C:=⟨oe,od,hfz,hA,hh,hx,hHx,hxo,λm=>absurd (show x∈([]:`R)from m) `g⟩
 obtain⟨t,ht,hq⟩:=hbody x C Z9 A `G s H vs Q E hE ⟨by have:=hr.dp;show A.depth+1+3*k+5<_;omega,by have:=hr.un;show A.units+3+16*k+200<_;omega⟩ hsp;have e0':Env0 P w K mg base {A with handled:=none} outer s H:=⟨e0.frames,e0.mod,e0.bs,e0.bsz,e0.funs,e0.frf,e0.hok,e0.bare⟩
 have I0:Inv (mI CX0 P w K mg base N Z6 (`bt) f Z9 {A with handled:=none} outer s H E) [] (start N vs) H s1:=nk Z1 `a e0' hl r z;have I:Inv (Di P w K mg `d N Z6 `bt f Z9 A `G s H E) [] (start N vs) H s1:=
  ⟨⟨I0.ok.mod,I0.ok.kind,I0.ok.glob,I0.ok.blt,I0.ok.above,I0.ok.inj,I0.ok.has,I0.ok.cab,λz=>(nomatch z),O1 e0.frames,I0.ok.stk,I0.ok.exf,I0.ok.bs,I0.ok.bsz,I0.ok.noex,I0.ok.exfs,I0.ok.funs,I0.ok.frf⟩,I0.os,I0.bare,I0.base,I0.loc,I0.cell,I0.free,I0.freeC,I0.pin,I0.hok,I0.len⟩
 refine Ic (ht [] s1 (start N vs) H _ I hq) (λfl s' hs=>?_) λe s' hs=>hs.elim;have fin:∀{σ':St}{H':Hp}{v:V}{u:Gu},Inv (Di P w K mg `d N Z6 `bt f Z9 A `G s H E) [] σ' H' s'->78 v->Q v H'->CE `G P w H s Q u s':=
  λ{σ' H' v u}J rv q=>⟨v,H',J.os,J.bare,J.base,J.hok,rv,q⟩
 cases fl with
 |ret u=>obtain⟨v,σ',H',J,rv,q⟩:=hs;exact fin J rv q
 |next=>obtain⟨σ',H',J,q⟩:=hs;exact fin (v:=V.non) (u:=Hl) J `a q
 |brk=>obtain⟨_,_,_,q⟩:=hs;exact J5 q
 |cont=>obtain⟨_,_,_,q⟩:=hs;exact J5 q
end
def zo(od:`aW)(sp:Sp):Sp:=λvs H Q E=>(∀d,0 od d->∃o u,21 d (.frz o u))/\sp vs H Q E
section
variable{X:Cx}{k:Nat}{f x C:Addr}{od:`aW}{oe:Obj}{fd:GV}{ps:`y}{sp:Addr->Addr->Sp}{xn:Str}{p pos:Pos}{e:Expr}{es:`af}{t:TA}
theorem xg(F:FnOkH `S X.w X.K X.mg X.base k f fd ps sp)(hr:RoomH k X.A)(hA:0 X.A.handled (.ref x))(hh:Held oe C od)(hp:(x,oe)∈X.pn)(hg:Gl X xn)(hm:0 (X.mg xn) (.ref f))(hk:1 (JO X.K<|.ref f))(hb:Binds X.K fd ps [])
  (ha:PA X (e::es) t) (hdb:12 (xn==("__debug__" :Str)):=by decide) (he:67 (e::es)=(false,30 e)::67 es:=by rfl) (hpl:12 ((124 pos es).any (·.1)):=by rfl):
  9 (123 xn p (e::es) [] pos) (aO (zo od<|sp x C) [] E0 t):=by
 intro Z_ s Z H Q I h;refine Kz (iQ I hg hm ?_ hdb);refine Mx (h₀:=X.base) I.ok.mod.kin hk (cE (ha pos Z_ s Z H _ I h) λus s1⟨vs,H1,I1,r,q⟩=>⟨I1.kIn,?_⟩) he hpl;obtain⟨g1,g2,g3,g4,_⟩:=I1.pin (x,oe) (JN _ hp);have hfr:x∉frs X.stack:=λm=>by
  rcases GI.mp (I1.stkSub x m)with z|z;·exact g3 z
  ·exact g4 z
 have q:zo od (sp x C) (vs++[]) H1 Q E0:=q;rw[Im]at q;obtain⟨hfz,q⟩:=q;rw[Kl];have hl:us.length=`bh:=by rw[<-r.length];exact F.len _ _ _ _ _ _ q
 refine Nq (Lg (F.run x C od oe X.A X.stack s1 H1 ⟨us,[]⟩ us vs Q E0 hr hA hh hfz g1 g2 hfr I1.env0 (by have:=hb s1 us I1.kIn `bX;simpa using this) r q) λr s' hq=>?_);cases r with
 |error e=>exact hq.elim
 |ok fl=>
  cases fl with
  |ret u=>exact I1.after hq
  |next=>exact J5 hq
  |brk=>exact J5 hq
  |cont=>exact J5 hq
end
end L2
namespace L2
open PySem PySem.Spec PySem.Calls PyProof.Rows Mi
section
variable{P:GJ}{w:GW}{K:Gr}{mg:Str->`M}{base:Heap}
theorem Fun.okR{x Z6:Str}{st:Stmt}{f:Addr}{fd:GV}{N ps:`y}{k:Nat}{sp:Sp}(F:Fun K x Z6 st f fd)(Z1:FnScope N ps (defScope st))(len:∀vs H Q E,sp vs H Q E->`aK=`bh)
  (hbody:∀(Z9:Gu) (A:Hk) (outer:`bA) (s:Gx) (H:Hp) (vs:`E) (Q:VK) (E:XK),Room k (A.deeper<|152 Z6 `bt f Z9)->sp vs H Q E->
   ∃t,PSs (uV P w K mg `d N Z6 `bt f Z9 A `G s H E) (defBody st) t/\t {nx:=λ_ H'=>Q .non H',rt:=Q} (start N vs) H):FnOk P w K mg `d (CXR P w) (k+1) f fd ps sp:=by
 obtain⟨oc,od,kV,doc,pm,an,Z9,ct,osl,rfl,lk,hcd⟩:=F.ex;exact AH lk hcd Z1 len λA outer s H vs Q E hr hsp=>hbody Z9 A `G s H vs Q E hr hsp
end
end L2
namespace Wb
open PySem L2 Mi
def Esc(Er:`av)(cs:`R)(E:XK)(W:Wd):Prop:=∀j,Er j->∀x W',50 W'->7 (W'.H x)->E `bd cs[j]? W'.H
theorem Esc.mono{Er:`av}{cs:`R}{E:XK}{W W':Wd}(h:Esc Er cs E W)(e:50 W'):Esc Er cs E W':=λj hj x W1 e1 hx=>h j hj x W1 (e.trans e1) hx
section
variable{Er:`av}{S β γ δ ε ζ η:Type}
def qg(R1:`l)(R2:Rp γ)(R3:Rp δ)(R4:Rp ε)(R5:Rp ζ)(cs:`R)(rt:Rt β)(m:34 S γ δ ε ζ `aL):Sp:=λvs H Q E=>∃(W:Wd)(a:S)(b:γ)(c:δ)(d:ε)(e:ζ)(v u w x y:V),25 W.H H (vs=[v,u,w,x,y]) (R1 W.G a v) (R2 W.G b u) (R3 W.G c w/\R4 W.G d x/\R5 W.G e y/\∃Er:Nat->Prop,Esc Er cs E W/\44 (m a b c d e) λr=>rt W r Q)
variable{t1 t2 t3 t4 t5 t6:TE}{Z:St}{W W0 W':Wd}{cs:`R}{E:XK}{R1:`l}{R2:Rp γ}{R3:Rp δ}{R4:Rp ε}{R5:Rp ζ}{R6:Rp η}[Mono R1][Mono R2][Mono R3][Mono R4][Mono R5][Mono R6]{m1:`as}{m2:Res γ}{m3:Res δ}{m4:Res ε}{m5:Res ζ}{m6:Res η}
theorem iX{R:`az}{m:34 S γ δ ε ζ `aL}(hE:Esc Er cs E W)(h1:5 t1 R1 m1)(h2:5 t2 R2 m2)(h3:5 t3 R3 m3)(h4:5 t4 R4 m4)(h5:5 t5 R5 m5):5 (aO (qg R1 R2 R3 R4 R5 cs (rs R) m) [] E<|aj t1<|aj t2<|aj t3<|aj t4<|aj t5 aU) R (m1.bind λa=>m2.bind λb=>m3.bind λc=>m4.bind λd=>m5.bind λe=>m a b c d e):=λW1 e1 Q k=>h1 W1 e1 _ (14 k λa0 ka v0 W2 e2 r1=>h2 W2 `L _<|14 ka λb0 kb u0 W3 e3 r2=>h3 W3 ((`L).trans e3) _<|14 kb λc0 kc w0 W4 e4 r3=>h4 W4 (103 `L e3 e4) _<|14 kc λd0 kd x0 W5 e5 r4=>h5 W5 (103 ((`L).trans e3) e4 e5) _<|14 kd λe0 ke y0 W6 e6 r5=>⟨W6,a0,b0,c0,d0,e0,v0,u0,w0,x0,y0,`a,`a,Ke (R:=sh R1) (103 `bN e5 e6) r1,Ke (R:=sh R2) ((e4.trans e5).trans e6) r2,Ke (R:=sh R3) (e5.trans e6) r3,Ke (R:=sh R4) e6 r4,r5,Er,hE.mono<|103 (103 `L e3 e4) e5 e6,ke.imp λr kr u W' e hu=>kr u W' (103 (103 `am e4 e5) e6 e) hu⟩)
end
theorem qh{S:Type}{Er:`av}{cs:`R}{E:XK}{C:Addr}{te:TE}{R:Rw S}{m:`as}{D:Ends}{Z:St}{W:Wd}{j:Nat}{β:Type}{P:49 β}(hE:Esc Er cs E W)(hc:0 cs[j]? C)(h:EV Er te Z W R m)(q:44 (m.bind λ_=>(S9 j:`aL)) P):x6 E C (aj te aU) D Z W.H:=
 h W `s _ (14 q λa(ka:Er j)v W2 e2 hv=>⟨show 1<=sizeLine by decide,λx hx=>by rw[<-hc];exact hE j ka x W2 e2 hx⟩)
structure CalR(P:GJ)(w:GW)(K:Gr)(mg:Str->`M)(base:Heap)(x:Str)(ps:`y)(k:Nat)(sp:Sp):Prop where
 ex:∃(f:Addr)(fd:GV),FnOk P w K mg `d (CXR P w) k f fd ps sp/\90 x f/\1 (JO K<|.ref f)/\Binds K fd ps []
theorem kX{X:Cx}{x:Str}{ps:`y}{k:Nat}{sp:Sp}{E:XK}{p pos:Pos}{e:Expr}{es:`af}{t:TA}(C:CalR `S X.w X.K X.mg X.base x ps k sp)(hx:jW (CXR `S X.w) X E)(hr:Room k X.A)(hg:Gl X x)(ha:PA X (e::es) t)
  (hdb:12 (x==("__debug__" :Str)):=by decide) (he:67 (e::es)=(false,30 e)::67 es:=by rfl) (hpl:12 ((124 pos es).any (·.1)):=by rfl):
  9 (123 x p (e::es) [] pos) (aO sp [] E t):=by
 obtain⟨f,fd,F,hm,hk,hb⟩:=C.ex;exact sI F hr hg hm hk hb .nil hx ha hdb he hpl
structure CalH(P:GJ)(w:GW)(K:Gr)(mg:Str->`M)(base:Heap)(x:Str)(ps:`y)(k:Nat)(sp:Addr->Addr->Sp):Prop where
 ex:∃(f:Addr)(fd:GV),FnOkH P w K mg `d k f fd ps sp/\90 x f/\1 (JO K<|.ref f)/\Binds K fd ps []
theorem oP{X:Cx}{xn:Str}{ps:`y}{k:Nat}{sp:Addr->Addr->Sp}{x C:Addr}{od:`aW}{oe:Obj}{p pos:Pos}{e:Expr}{es:`af}{t:TA}(F:CalH `S X.w X.K X.mg X.base xn ps k sp)(hh:Held oe C od)(hr:RoomH k X.A)(hA:0 X.A.handled (.ref x))(hp:(x,oe)∈X.pn)(hg:Gl X xn)(ha:PA X (e::es) t)
  (hdb:12 (xn==("__debug__" :Str)):=by decide) (he:67 (e::es)=(false,30 e)::67 es:=by rfl) (hpl:12 ((124 pos es).any (·.1)):=by rfl):
  9 (123 xn p (e::es) [] pos) (aO (zo od<|sp x C) [] E0 t):=by
 obtain⟨f,fd,F,hm,hk,hb⟩:=F.ex;exact xg F hr hA hh hp hg hm hk hb ha hdb he hpl
def fQ(K:Gr)(cs:`R)(aB:Addr)(x C:Addr):Sp:=λvs H Q _=>∃(W:Wd)(j:Nat),25 W.H H (vs=[.ref x]) (XK1 K C) (j<13) ((∀i a,0 cs[i]? a->0 (HD K `aI `ai) (decide<|i=j))/\0 (HD K `aI<|.ref aB) `o/\0 (HD K `aI<|.type "ValueError") `o/\∀p W',50 W'->7 (W.H p)->Ow isS W' p [kindN.getD j []]->Q `O W'.H)
structure Kin(K:Gr)(base:Heap)(cs:`R)(aB:Addr):Prop where
 len:cs.length=13
 top:∃bm,Xcl `d aB bm
 one:∀(j:Nat)(C:Addr),0 cs[j]? C->XK1 K C/\(∀(i:Nat)(a:Addr),0 cs[i]? a->0 (HD K `aI `ai) (decide<|i=j))/\0 (HD K `aI<|.ref aB) `o/\0 (HD K `aI<|.type "ValueError") `o/\∃bm,Xcl `d C bm/\1 ((GZ C::bm).contains<|.ref aB)
def EX(K:Gr)(cs:`R)(s:Tx)(W0:Wd)(Q:VK):XK:=λv C H'=>(∃x,v=`bd)/\∃(j:Nat)(W':Wd),2 C cs[j]? (W'.H=H') (39 W'/\rs (isU K) W0 (rD s j) Q)
section
variable{K:Gr}{base:Heap}{cs:`R}{aB:Addr}{W0 W:Wd}{Q:VK}{s:Tx}{ie:Nat}{Z:St}{D:Ends}
theorem EX.cl(Z2:Kin K `d cs aB):∀v C H,EX K cs s W0 Q v (some C) H->∃bmC,Xcl `d C bmC/\1 ((GZ C::bmC).contains<|.ref aB):=λv C H⟨_,j,W',h,_⟩=>(Z2.one j C h.symm).2.2.2.2
theorem xh(Z2:Kin K `d cs aB){x C:Addr}{od:`aW}{H':Hp}{σ':St}{xs:Str}(hs:xs=sOf s)(hD:D.rt=Q)(h:EX K cs s W0 Q (XV x od) (some C) H')(hi:ie<σ'.length):
  bX (cg<|aj (tC<|.str xs)<|aj (aO (zo od<|fQ K cs aB x C) [] E0<|aj (bH ie) aU) aU) D (σ'.set ie<|24 x) H':=by
 obtain⟨⟨x',hx'⟩,j,W',hj,rfl,e,q⟩:=h;have ho:7 od:=by cases od with|none=>rfl|some d=>cases hx'
 obtain⟨z1,z2,z3,z4,_⟩:=Z2.one j C hj.symm;have hj':j<13:=by rw[<-Z2.len];exact(GA.mp hj.symm).1
 have hk:EVo `bH (aO (zo od<|fQ K cs aB x C) [] E0<|aj (bH ie) aU) (σ'.set ie<|24 x) W' isS (.ok [kindN.getD j []]):=λW1 e1 Q1 k=>⟨`bd,by rw[JX hi],(λd z=>by rw[ho]at z;cases z),W1,j,`a,`a,z1,hj',z2,z3,z4,λp W2 e2 hp o=>k p W2 e2 hp o⟩
 refine aM (R:=sh (isU K)) (m:=.ok (rD s j)) (iF (K:=K) (qc iE<|wV iE)<|105 (aK (x:=xs) (l:=s) hs)<|II hk) λv W2 e2 hv=>?_;rw[hD];exact q v W2 (e.trans e2) hv
end
section
variable{S β γ δ:Type}{K:Gr}{base:Heap}{cs:`R}{aB:Addr}{W0 W:Wd}{Q:VK}{s:Tx}{ie i:Nat}{Z:St}{D:Ends}{t1 t2 t3:TE}{R1:`l}{R2:Rp γ}{R3:Rp δ}{R:`az}[Mono R1][Mono R2][Mono R3]{m1:`as}{m2:Res γ}{m3:Res δ}{rest:TS}{σ':V->St}{xs:Str}
abbrev BC(K:Gr)(cs:`R)(aB:Addr)(ie:Nat)(xs:Str):20 Addr Addr `aW Obj TS:=λx C od _=>bX (cg<|aj (tC<|.str xs)<|aj (aO (zo od<|fQ K cs aB x C) [] E0<|aj (bH ie) aU) aU)
def F3(K:Gr)(W0 W:Wd)(Q:VK)(s:Tx)(R:`az)(D:Ends)(rest:TS)(σ':V->St):49 (β⊕Nat)
 | .inl y=>∀v W',50 W'->R W'.G y v->rest D (σ' v) W'.H
 | .inr j=>rs (isU K) W0 (rD s j) Q
end
end Wb
namespace Wb
open PySem L2 Mi
open PySem.W (findIn findObj mroIn kitOne kitCls clsIn typeIn subIn specialIn takesIn Frag)
def vE:`aq:=[.type "ValueError",.type "Exception",.type "BaseException",.type "object"]
def XcK(K:Frag)(C N:Addr)(bm:`aq):Prop:=∃nm q bs hdct sn sub ab col dd k0 k1 k2 k3 k5,142 C (excClassObj nm q C N bs bm hdct sn sub ab col dd k0 k1 k2 k3 k5 "ValueError.__new__")
structure Cx1(K:Frag)(aB C:Addr):Prop where
 at_:∃N,XcK K C N (.ref aB::vE)
 ga:58 (findIn K `aI "__getattribute__") (.builtin `cg)
 gt:0 (findIn K `aI "__getattr__") `j
 cl:58 (findIn K `aI "__class__") `bI
section
variable{K:Frag}{base:Heap}{C D N:Addr}{bm bm':`aq}
theorem XcK.cls(x:XcK K C N bm):∃cd,0 (clsIn K C) cd/\cd.mro=`aI::bm/\0 (typeIn K `aI) (.type "type"):=by
 obtain⟨nm,q,bs,hdct,sn,sub,ab,col,dd,k0,k1,k2,k3,k5,e⟩:=x;refine⟨{name:=nm,bases:=bs,mro:=`aI::bm,ns:=N,qualname:=q,hasDict:=hdct,slotNames:=sn,subclasses:=sub,abstract:=ab,collection:=col,hasDel:=false},?_,rfl,?_⟩;·unfold clsIn;rw[e]
 ·show RY (λx=>x.cls) (List.lookup C K)=_;rw[e];rfl
theorem XcK.xcl(x:XcK K C N bm)(X:K.In `d)(hb:1 (bm.contains<|.type "BaseException")):Xcl `d C bm:=by
 obtain⟨nm,q,bs,hdct,sn,sub,ab,col,dd,k0,k1,k2,k3,k5,e⟩:=x;exact⟨nm,q,N,bs,hdct,sn,sub,ab,col,dd,k0,k1,k2,k3,k5,_,X _ _ e,hb⟩
theorem XcK.mro(x:XcK K C N bm)(v:Gu):0 (mroIn K C v) ((GZ C::bm).contains v):=by
 obtain⟨cd,h1,h2,_⟩:=x.cls;unfold mroIn;rw[h1,Ni,h2];rfl
theorem XcK.kit{N':Addr}(x:XcK K C N bm)(y:XcK K D N' bm'):0 (kitOne K `aI `be) ((GZ C::bm).contains `be):=by
 obtain⟨cd,h1,h2,h3⟩:=y.cls;unfold kitOne;by_cases e:1 (GZ C==GZ D)
 ·rw[Z3 e];rw[beq_iff_eq.mp e,OR];simp
 ·rw[Z4 e];show(if 1 ((clsIn K D).isSome&&typeIn K `be==some (.type "type")) then subIn K `aI `be else none)=_;rw[h1,h3,Z3 `g];exact x.mro _
theorem XcK.kitT{T:String}(x:XcK K C N bm)(hT:1 (PM T)):0 (kitOne K `aI<|.type T) ((GZ C::bm).contains<|.type T):=by
 unfold kitOne;rw[Z4 (by intro z;cases beq_iff_eq.mp z)];show(if 1 (PM T) then subIn K `aI (.type T)else none)=_;rw[Z3 hT];exact x.mro _
end
theorem Cx1.xk{K:Frag}{aB C:Addr}(x:Cx1 K aB C)(hn:58 (specialIn K `bI "__get__") `cf)(ht:0 (takesIn K `bI) `o):XK1 K C:=by
 obtain⟨N,h⟩:=x.at_;refine⟨x.ga,x.gt,?_,?_,?_⟩
 ·intro od;obtain⟨cd,h1,h2,h3⟩:=h.cls;unfold findObj;rw[h1,Ni,x.cl,Ni];simp[hn,ht]
 ·rw[h.mro];simp[vE]
 ·rw[h.mro];simp[vE]
theorem nJ{S:Type}:∀{l:List S},l.Nodup->∀{i j:Nat}{x:S},0 l[i]? x->0 l[j]? x->i=j
 | [],_,i,j,x,a,_=>by simp at a
 |y::r,nd,0,0,x,a,b=>rfl
 |y::r,nd,0,j+1,x,a,b=>by
  simp at a b;subst a;exact absurd (H9 b) (Io.mp nd).1
 |y::r,nd,i+1,0,x,a,b=>by
  simp at a b;subst b;exact absurd (H9 a) (Io.mp nd).1
 |y::r,nd,i+1,j+1,x,a,b=>by
  simp at a b;rw[nJ (Io.mp nd).2 a b]
theorem Kin.of{K:Frag}{base:Heap}{cs:`R}{aB NB:Addr}(X:K.In `d)(hn:58 (specialIn K `bI "__get__") `cf)(ht:0 (takesIn K `bI) `o)
  (len:cs.length=13) (nd:(aB::cs).Nodup) (top:XcK K aB NB vE) (all:∀C∈cs,Cx1 K aB C):Kin K `d cs aB:=by
 have one:∀(j:Nat)(C:Addr),0 cs[j]? C->C∈cs:=λj C h=>H9 h;refine⟨len,⟨vE,top.xcl X ⋯⟩,λj C h=>?_⟩;have hC:=all C (one j C h);obtain⟨N,hx⟩:=hC.at_;refine⟨hC.xk hn ht,λi a hi=>?_,?_,?_,.ref aB::vE,hx.xcl X<|by simp[vE],`g⟩
 ·have ha:=all a (one i a hi);obtain⟨N',hy⟩:=ha.at_;rw[hx.kit hy];have nB:a≠aB:=λz=>(Io.mp nd).1 (z▸one i a hi);have nd':=(Io.mp nd).2;have key:a=C↔i=j:=by
   constructor
   ·intro z;subst z;obtain⟨l1,e1⟩:=GA.mp hi;obtain⟨l2,e2⟩:=GA.mp h;exact nJ nd' hi h
   ·intro z;subst z;rw[hi]at h;exact Ha h
  by_cases z:i=j
  ·have:=key.mpr z;subst this;simp[z]
  ·have:¬a=C:=λy=>z (key.mp y);simp[z,this,nB,vE]
 ·rw[hx.kit top];simp
 ·rw[hx.kitT ⋯];simp[vE]
theorem Ecl.of{K:Frag}{base:Heap}{aB C N NB:Addr}{o oB:Obj}{es eB:Array JE}{ep pB:Nat}(X:K.In `d)(h:XcK K C N (.ref aB::vE))(hB:XcK K aB NB vE)(n:142 N o)(d:o.data=.dict es ep)(k:PZ es)(i:7 (nsFind es "__init__"))
  (nB:142 NB oB) (dB:oB.data=.dict eB pB) (kB:PZ eB) (iB:7 (nsFind eB "__init__")):Ecl `d C:=by
 obtain⟨nm,q,bs,hdct,sn,sub,ab,col,dd,k0,k1,k2,k3,k5,e⟩:=h;obtain⟨nm',q',bs',hdct',sn',sub',ab',col',dd',k0',k1',k2',k3',k5',e'⟩:=hB;exact⟨nm,q,N,bs,.ref aB::vE,hdct,sn,sub,ab,col,dd,k0,k1,k2,k3,k5,_,λx=>nsFind es x,"ValueError",_,vE,X _ _ e,⟨o,es,ep,X _ _ n,d,k,λ_=>`a⟩,i,.own (X _ _ e') ⟨oB,eB,pB,X _ _ nB,dB,kB,λ_=>`a⟩ iB .base,PySem.F.excBase_ValueError⟩
def xi:Gu->Bool
 | .str _ _=>true
 |_=>false
theorem strKeys_of{es:Array JE}(h:1 (es.toList.all λe=>xi e.key)):PZ es:=λe he=>by
 have:=JF.mp h e (O0.mpr he);unfold xi at this;split at this;·rename_i n t q;exact⟨n,t,q⟩
 ·cases this
end Wb
namespace L2
open PySem PySem.Spec PyProof.Rows
abbrev TJ:=Str->St->11 Hp (11 Str Hp)
def PJ(X:Cx)(es:`af)(t:TJ):Prop:=∀(acc:Str)(Z_:List (Addr×Obj))(s:Gx)(Z:St)(H:Hp)(Q:Str->Hp->Prop),`n->t acc Z H Q->Joins `aM X.A X.xe (evalEach es `D) acc (λout s1=>∃H1,38 X Z H1 s1/\Q out H1) s
def Dj:TJ:=λacc _ H Q=>Q acc H
def Dk(x:Str)(t:TJ):TJ:=λacc Z H Q=>69 (acc++x).length/\t (acc++x) Z H Q
def Dl(te:TE)(t:TJ):TJ:=λacc Z H Q=>te Z H λv H1=>∃y:Str,(v=.str y/\69 y.length\/∃i:Int,2 v (.int i) (i.natAbs.log2<1920) (y=Gy (toString i)))/\69 (acc++y).length/\t (acc++y) Z H1 Q
def AN(t:TJ):TE:=λZ H Q=>t QX Z H λout H1=>69 out.length/\Q (.str out) H1
section
variable{X:Cx}{e:Expr}{es:`af}{te:TE}{t:TJ}{pos:Pos}
theorem BD:PJ X [] Dj:=λacc Z_ s Z H Q I h=>⟨H,I,h⟩
theorem BE{x:Str}{k}(ht:PJ X es t):PJ X (.Constant (.str x) k pos::es) (Dk x t):=λacc Z_ s Z H Q I h=>by
 have:=(aL (X:=X) (pos:=pos) (j:=k) (x:=x)) Z_ s Z H (λv H1=>v=.str x/\H1=H) I (15 `a);refine 137 this ?_;obtain⟨u,H1,I1,r,e1,e2⟩:=zz;rw[e1]at r;rw[e2]at I1;obtain⟨tk,rfl⟩:=r;exact⟨x,_,`a,h.1,ht _ Z_ s1 Z H Q I1 h.2⟩
theorem BF(he:9 e te)(ht:PJ X es t):PJ X (.FormattedValue e (-1) `j pos::es) (Dl te t):=λacc Z_ s Z H Q I h=>by
 show wpAny _ _ (30<|.FormattedValue e (-1) `j pos) _ _ _;refine wpAny_FormattedValue_plain (137 (he Z_ s Z H _ I h) ?_);obtain⟨u,H1,I1,r,y,hy,hl,q⟩:=zz;rcases hy with⟨rfl,hz⟩|⟨i,rfl,hz,rfl⟩
 ·obtain⟨tk,rfl⟩:=r;refine wpAny_formatField_str ?_ ?_ hz;·exact⟨y,_,`a,hl,ht _ Z_ _ Z H1 Q I1 q⟩
  ·exact⟨y,_,`a,hl,ht _ Z_ _ Z H1 Q (I1.tok _) q⟩
 ·obtain⟨tk,rfl⟩:=r;refine wpAny_formatField_int hz ?_;exact⟨_,_,`a,hl,ht _ Z_ _ Z H1 Q (I1.tok _) q⟩
theorem uX{e1 e2:Expr}(ht:PJ X (e1::e2::es) t):9 (.JoinedStr (e1::e2::es) pos) (AN t):=λZ_ s Z H Q I h=>by
 refine wpAny_JoinedStr ?_;have mono:∀(es:List (Sem Gu))(acc:Str)(P P':Str->Gx->Prop)(s:Gx),(∀o s,P o s->P' o s)->Joins `aM X.A X.xe es acc P s->Joins `aM X.A X.xe es acc P' s:=by
  intro es
  induction es with
  |nil=>intro acc P P' s k h;exact k _ _ h
  |cons a r ih=>intro acc P P' s k h;exact cE h λv s1⟨y,t,e,l,q⟩=>⟨y,t,e,l,ih _ _ _ _ k q⟩
 refine mono _ _ _ _ _ (λo s1⟨H1,I1,hz,q⟩=>⟨hz,.str o,H1,I1.tok _,`au,q⟩) (ht QX Z_ s Z H _ I h)
end
end L2
namespace Wb
open PySem L2 Mi
theorem zp(i:Int):Gy (toString i)=sOf (wZ i):=by rw[Str.ofString_eq_toList];rfl
def JV(Er:`av)(t:TJ)(Z:St)(W:Wd)(f:Tx->`I):Prop:=∀W1,50 W1->∀(acc:Tx)(Q:Str->Hp->Prop),(44 (f acc) λout=>∀W2,Ext W1 W2->Q (sOf out) W2.H)->t (sOf acc) Z W1.H Q
section
variable{Er:`av}{te:TE}{t:TJ}{Z:St}{W:Wd}{f:Tx->`I}
theorem BG:JV Er Dj Z W λacc=>.ok acc:=λW1 _ acc Q k=>k W1 `s
theorem BH{x:Str}{l:Tx}(hx:x=sOf l)(h:JV Er t Z W f):JV Er (Dk x t) Z W λacc=>(dO acc l).bind f:=λW1 e1 acc Q k=>by
 obtain⟨h1,h2⟩:=bE (Gp k);subst hx;refine⟨?_,?_⟩<;>rw[gY];·rw[dh,HG];exact oE h1
 ·exact h W1 e1 _ Q h2
theorem zq{m:`H}(he:43 te m)(h:JV Er t Z W f):JV Er (Dl te t) Z W λacc=>m.bind λi=>(By i).bind λy=>(dO acc y).bind f:=λW1 e1 acc Q k=>he W1 e1 _ (14 k λi ki v W2 e2 hv=>by
  cases hv;obtain⟨h0,ky⟩:=bE (Gp ki);obtain⟨h1,h2⟩:=bE (Gp ky);refine⟨Gy<|toString i,.inr ⟨i,`a,h0,`a⟩,?_,?_⟩<;>rw[zp,gY];·rw[dh,HG];exact oE h1
  ·exact h W2 `L _ Q (h2.imp λout ko W3 e3=>ko W3 `am))
theorem uY(h:JV Er t Z W f):5 (AN t) isS ((f []).bind Bz):=λW1 e1 Q k=>h W1 e1 [] _ (14 k λout ko W2 e2=>by
  obtain⟨h1,h2⟩:=bE ko;exact⟨by rw[dh];exact oE h1,h2 _ W2 e2 `a⟩)
end
end Wb
namespace Mi
def iH{Z1:Type}(c:Z1->`x)(f:Z1->Res Z1):64 Nat Z1 Z1
 |0,_=>.stuck
 |n+1,s=>(c s).bind λb=>if b then(f s).bind λs'=>iH c f n s' else .ok s
end Mi
namespace Wb
open PySem L2 Mi
section
variable{Er:`av}{K:Gr}{W0 W W':Wd}{p:Addr}{s:List Fr}{te:TE}{Z:St}{D:Ends}{i a b:Nat}{r:TS}{E:XK}
theorem xj{Z1:Type}{tc:TT}{tb:TS}{c:Z1->`x}{f:Z1->Res Z1}{s0:Z1}{P:49 Z1}{n:Nat}(Iv:82 Z1 Wd St)(q:44 (iH c f n s0) P)(h0:Iv s0 W Z)
  (hm:∀W1 W2 s σ1,Ext W1 W2->Iv s W1 σ1->Iv s W2 σ1)
  (hc:∀W1 s σ1,93 W1.G->Iv s W1 σ1->TV Er tc σ1 W1 (c s))
  (hs:∀Wb W1 s σ1 P',Same W.G W1.G->Same Wb.G W1.G->Iv s W1 σ1->(f s).OkE Er P'->tb {D with nx:=qU Wb Iv P',ct:=qU Wb Iv P',bk:=D.nx} σ1 W1.H)
  (hd:∀s W1 σ1,93 W1.G->Iv s W1 σ1->P s->D.nx σ1 W1.H):qY tc tb D Z W.H:=by
 refine⟨λm σ' H'=>∃s' W',2 W'.H H' (93 W'.G)<|Iv s' W' σ'/\44 (iH c f m s') P,⟨n,s0,W,`a,`s,h0,q⟩,?_⟩;rintro m σ1 H1 ⟨s,W1,rfl,e1,iv,k⟩;cases m with
 |zero=>exact k.elim
 |succ m=>
  refine hc W1 s σ1 e1 iv W1 `s _ (14 k λb kb W2 e2=>?_);cases b with
  |true=>
   refine⟨qU W Iv λs'=>44 (iH c f m s') P,λσ' H'⟨s',W',z1,z2,z3,z4⟩=>⟨m,Lh _,s',W',z1,z2,z3,z4⟩,?_⟩;exact hs W W2 s σ1 _ (e1.trans e2.g) (e1.trans e2.g) (hm W1 W2 s σ1 e2 iv) (Gp kb)
  |false=>exact hd s W2 σ1 (e1.trans e2.g) (hm W1 W2 s σ1 e2 iv) kb
section
variable{r:TS}
theorem rG{Z1:Type}{tc:TT}{tb:TS}{c:Z1->`x}{f:Z1->Res Z1}{s0:Z1}{P:49 Z1}{n:Nat}(Iv:82 Z1 Wd St)(q:44 (iH c f n s0) P)(h0:Iv s0 W Z)
  (hm:∀W1 W2 s σ1,Ext W1 W2->Iv s W1 σ1->Iv s W2 σ1)
  (hc:∀W1 s σ1,93 W1.G->Iv s W1 σ1->TV Er tc σ1 W1 (c s))
  (hs:∀Wb W1 s σ1 P',Same W.G W1.G->Same Wb.G W1.G->Iv s W1 σ1->(f s).OkE Er P'->tb {D with nx:=qU Wb Iv P',ct:=qU Wb Iv P',bk:=r D} σ1 W1.H)
  (hd:∀s W1 σ1,93 W1.G->Iv s W1 σ1->P s->r D σ1 W1.H):eI (qY tc tb) r D Z W.H:=xj (D:={D with nx:=r D}) Iv q h0 hm hc hs hd
end
end
section
variable{Er:`av}{S β:Type}{K:Gr}{W W0:Wd}{p:Addr}{ta tb te:TE}{Z:St}{D:Ends}{i:Nat}{r:TS}{base:Heap}
theorem LR.rev{R:`l}{H:Hp}{as:`z}{vs:`E}(h:LR R H as vs):LR R H as.reverse vs.reverse:=⟨by simp[h.1],λi v m q1 q2=>by
 have hi:i<`aK:=by have:=(GA.mp q1).1;simpa using this
 rw[Kf hi]at q1;rw[Kf (by rw[<-h.1];exact hi),<-h.1]at q2;exact h.2 _ v m q1 q2⟩
theorem zr{R:`l}[`aJ]{ma:`aF}(ha:EV Er ta Z W (pk R) ma):EVo Er (wt K ta<|bo<|eV (rU λi=>.int<|-i)<|tC<|.int 1) Z W R (74<|.ok a.reverse):=108 W1 e1 _ (107 k<|by
  obtain⟨p,vs,rfl,h1,h2⟩:=hx;refine⟨1,rfl, -1,rfl,p,vs,rfl,rfl,Jc h1,λq hq=>ka q (W2.mut q (.lst vs.reverse)<|W2.gnone hq) (e2.trans<|.own _ hq) (bJ e2.h hq) ⟨W2.gnone hq,_,aS,LR.rev h2⟩⟩)
end
end Wb
namespace L2
open PySem PySem.Spec PyProof.Rows
theorem AO{X:Cx}:jW (CXR `S X.w) X E0:=λ_ _ _ _ _ _ _⟨_,_,_,_,_,_,_,_,_,_,q⟩=>q.elim
end L2
namespace Wb
open PySem L2 Mi
theorem Dm{Er:`av}{cs:`R}{E:XK}{W:Wd}(n:∀j,¬Er j):Esc Er cs E W:=λj h=>(n j h).elim
def Dp{S β:Type}(R1:`l)(rt:Rt β)(m:S->`aL):Sp:=λvs H Q _=>∃(W:Wd)(a:S)(v:V),2 W.H H (vs=[v]) (R1 W.G a v/\∃Er:Nat->Prop,(∀j,¬Er j)/\44 (m a) λr=>rt W r Q)
end Wb
namespace L2
open PySem PySem.Spec PyProof.Rows
noncomputable def fA(tg iter:Expr)(ifs:`af)(body:Sem Unit)(it:Gu)(env:Env)(c:Code):Sem Fin:=do
 standAt iter.pos
 match <-pyNext it with
 |none=>pure (.done .next)
 |some v=>
  letOwnedTupleGo tg it v
  assign tg env v
  let mut ok:=true
  for c in ifs do
   if ok then ok <-isTrue c env (eval c env)
  if ok then body
  again c
structure CompE(e:Expr):Prop where
 a:∀(A:Hk)(d:Nat)(it acc:Gu)(env:Env),A.under (.compLoop e d it acc env)=A
 b:∀(A:Hk)(d:Nat)(it acc:Gu)(env:Env),A.under (.compStart e d it acc env)=A
 c:∀(prog:GJ)(w:GW)(d:Nat)(it acc:Gu)(env:Env),(model `r w).den (.compLoop e d it acc env)=(compTurn e d it acc env).onRaise (λx=>do noteFrame x env;theTreesLotGoes x)
 d:∀(prog:GJ)(w:GW)(d:Nat)(it acc:Gu)(env:Env),(model `r w).den (.compStart e d it acc env)=(compStart e d it acc env).onRaise (λx=>do noteFrame x env;standAt theWindowsPlace)
theorem CompE.dict{k v:Expr}{gs:List N8}{sc:Ka}{pos:Pos}:CompE (.DictComp k v gs sc pos):=⟨λ_ _ _ _ _=>`a,λ_ _ _ _ _=>`a,λ_ _ _ _ _ _=>`a,λ_ _ _ _ _ _=>`a⟩
theorem CompE.set{k:Expr}{gs:List N8}{sc:Ka}{pos:Pos}:CompE (.SetComp k gs sc pos):=⟨λ_ _ _ _ _=>`a,λ_ _ _ _ _=>`a,λ_ _ _ _ _ _=>`a,λ_ _ _ _ _ _=>`a⟩
section
variable{prog:GJ}{w:GW}{A:Hk}{R:68 Q4}{s:Gx}
theorem mU{e:Expr}(ce:CompE e){d:Nat}{tg iter:Expr}{ifs:`af}{it acc:Gu}{env:Env}{body:Sem Unit}(ht:compTurn e d it acc env=fA tg iter ifs body it env (.compLoop e d it acc env))(I:68 Nat)
  (turn:∀n s,I n s->85 w A (pyNext it) (λr s₁=>match r with
   |none=>R (.ok .next) s₁
   | some v=>60 `r A (letOwnedTupleGo tg it v) (λ_ s₁'=>60 `r A (assign tg env v) (λ_ s₂=>60 `r A (forIn ifs true λc r=>if 1 r then do let ok <-isTrue c env (eval c env);pure (HB ok)else pure (HB r)) (λok s₃=>
      if 1 ok then 60 `r A body (λ_ s₅=>∃m,m<n/\I m s₅) `bv s₃
      else ∃m,m<n/\I m s₃) `bv s₂) `bv s₁') `bv s₁) `bv)
  (n:Nat) (h:I n s):codeAny (model `r w) A (.compLoop e d it acc env) R s:=by
 refine codeAny_loop `a I (λn s hI=>?_) n h;rw[ce.a,ce.c];refine wpAny_noted ?_;rw[ht];unfold fA;refine Gn (JJ<|Gn<|Ic (turn n s hI) (λr s₁ h₁=>?_) `bW);cases r with
 |none=>exact Gv h₁
 |some v=>
  refine Gn (Ic h₁ (λ_ s₁' h₁'=>?_) `bW);refine Gn (Ic h₁' (λ_ s₂ h₂=>Gn<|Ic h₂ (λok s₃ h₃=>?_) `bW) `bW);cases ok with
  |true=>
   rw[`aX]at h₃;exact Gn (Ic h₃ (λ_ s₄ h₄=>Gv<|15 h₄) `bW)
  |false=>
   rw[Z4 GL]at h₃;exact Gv (15 h₃)
theorem jf{e:Expr}(ce:CompE e){d:Nat}{g:N8}{it acc:Gu}{env:Env}(hg:0 (clausesOf e)[d]? g)(ha:g.is_async=0)
  (h0:codeAny (model `r w) A (.compLoop e d it acc env) R s)
  (h:85 w A (pyIter it) (λit' s'=>codeAny (model `r w) A (.compLoop e d it' acc env) R s') (notedBy (model `r w) A env λx s'=>R (.error x) s')):
  codeAny (model `r w) A (.compStart e d it acc env) R s:=by
 refine codeAny_of_tree ?_;rw[ce.b,ce.d];refine wpAny_notedAt ?_;unfold compStart;rw[hg];simp only[Option.elim_some,ha,bne_self_eq_false,Hg,if_false];refine Gn (Kv<|wpAny_ite ?_);split
 ·first
   |exact Gn (Gv<|Gv<|Pq `a h0)
   |exact Gv (Pq `a h0)
 ·first
   |exact Gn<|J7<|Gn<|JJ<|Gn<|Ic h (λit' s' h'=>Gv<|Pq rfl h') λ_ _ x=>x
   |(refine Gn (J7 ?_);exact Gn (JJ<|Gn<|Ic h (λit' s' h'=>Gv<|Pq `a h') λ_ _ x=>x))
end
noncomputable def AQ(kx vx:Expr)(env:Env)(acc:Gu):Sem Unit:=do
        let kv <-eval kx env
        let vv <-holding [kv] (eval vx env)
        match acc with
        | .ref d => do
          standAt {kx.pos with endLine:=vx.pos.endLine,endCol:=vx.pos.endCol}
          holding [kv,vv] (dictSet d kv vv)
        |_=>unsupported "internal:dictcomp"
noncomputable def zt(iter:Expr)(e:Expr)(d:Nat)(env:Env)(acc:Gu):Sem Unit:=do
        let x <-eval iter env
        standAt iter.pos
        let x <-foldedSetIterable iter env x
        let _ <-runOwn (.compStart e d (<-holding [x] (pyIter x)) acc env) env
abbrev TB:=Addr->St->11 Hp (49 Hp)
def PB(Y:Cx)(body:Gu->Sem Unit)(tb:TB):Prop:=∀(D:Addr)(Z_:List (Addr×Obj))(s:Gx)(Z:St)(H:Hp)(N:Hp->Prop),38 Y Z H s->tb D Z H N->102 Y.prog Y.w Y.A (body `be) (λ_ s'=>∃σ' H',38 Y σ' H' s'/\(∀(j:Nat)(v:V),58 Z[j]? v->58 σ'[j]? v)/\N H') `bv
def uZ(g:TG)(tf:TT)(tb:TB)(D:Addr)(Z:St)(H1:Hp)(N:49 Hp)(J:It):Prop:=∃W:Nat->Nat->Hp->Prop,(∃m,W 0 m H1)/\∀i m H,W i m H->J.stop i H/\N H\/(J.go i H/\∃M:Hp->Prop,(∀H',M H'->∃m',m'<m/\W (i+1) m' H')/\∀x H',J.yld i H x H'->g x Z H' λσ2 H2=>Keep Z σ2/\tf σ2 H2 λb H3=>if 1 b then tb D σ2 H3 M else M H3)
def BI(wi:TI)(g:TG)(tf:TT)(tb:TB):TB:=λD Z H N=>wi Z H λJ H1=>uZ g tf tb D Z H1 N J
section
variable{Y:Cx}{tg iter Z5 kx vx:Expr}{ifs:`af}{g:TG}{tf:TT}{tb:TB}{body:Gu->Sem Unit}{te tk tv:TE}{wi:TI}
theorem qi(hc:1 Y.calm)(hxe:Y.xe=`bv)(hg:PG Y tg g)(hf:uD Y ifs tf)(hb:PB Y body tb){e:Expr}(ce:CompE e){d:Nat}{it:Addr}{fp:`R}{tn:11 Nat Heap}{J:It}(T:Turn Y.prog Y.w Y.K tg J fp it tn)
  {Z_:`N} {s:Gx} {Z:St} {H:Hp} {D:Addr} {N:49 Hp} {R:68 Q4} (I:38 Y Z H s) (st:tn 0 `i) (f:112 Y Z_ H b) (w:uZ g tf tb D Z H N J)
  (ht:compTurn e d `an `be Y.env=fA tg iter ifs (body `be) `an Y.env (.compLoop e d `an `be Y.env))
  (fin:∀σ' H' s',38 Y σ' H' s'->(∀(j:Nat)(v:V),58 Z[j]? v->58 σ'[j]? v)->N H'->R (.ok .next) s'):
  codeAny (model Y.prog Y.w) Y.A (.compLoop e d `an `be Y.env) R s:=by
 obtain⟨W,⟨m0,w0⟩,turn⟩:=w;have stat:∀{H':Hp},140 (H' b)->112 Y Z_ H' b:=λhn b hb=>⟨hn b hb,(f b hb).2⟩
 refine mU ce ht (λn s'=>∃i σ' H',38 Y σ' H' s'/\tn i s'.heap/\140 (H' b)/\(∀(j:Nat)(v:V),58 Z[j]? v->58 σ'[j]? v)/\W i n H') ?_ m0 ⟨0,Z,H,I,st,λb hb=>(f b hb).1,λ_ _ e=>e,w0⟩;rintro n s3 ⟨i,σ3,H3,I3,st3,fr3,kp,w3⟩;rcases turn i n H3 w3 with⟨stop,qn⟩|⟨go,M,hM,step⟩
 ·refine cE (T.done Y `a `a `a hc i Z_ s3 σ3 H3 _ I3 (stat fr3) st3 stop) λr s4 zz=>?_;obtain⟨hr,I4⟩:=zz;subst hr;exact fin σ3 H3 s4 I4 kp qn
 ·have I3':38 Y Z H3 s3:=I3.weak (by rw[I3.len,I.len]) kp;refine cE (T.item Y `a `a `a hc i Z_ s3 Z H3 _ I3' (stat fr3) st3 go) λr s4 zz=>?_;obtain⟨u,hr,h4⟩:=zz;subst hr;refine cE h4 λ_ s5 zz=>?_;obtain⟨x,H5,I5,r5,y5,st5,fr5⟩:=zz;have I5':=I5.pinned (stat fr5) (T.obj _ _ st5);have hg':=hg _ s5 Z H5 x u _ I5' r5 (step x H5 y5);rw[hxe]at hg';refine cE hg' λ_ s6 zz=>?_;obtain⟨σ6,H6,I6,kp6,q6⟩:=zz;have hf':=hf _ s6 σ6 H6 _ I6 q6;rw[hxe]at hf';refine cE hf' λok s7 zz=>?_;obtain⟨H7,I7,q7⟩:=zz;have again:∀{s8:Gx}{σ7:St}{H7:Hp},Inv Y (Z_++jh fp s5.heap) σ7 H7 s8->(∀(j:Nat)(v:V),58 σ6[j]? v->58 σ7[j]? v)->M H7->∃m,m<n/\∃i σ' H',38 Y σ' H' s8/\tn i s8.heap/\140 (H' b)/\(∀(j:Nat)(v:V),58 Z[j]? v->58 σ'[j]? v)/\W i m H':=λ{s8 σ7 H7}I7 k7 n7=>by
   obtain⟨m',hm,w7⟩:=hM H7 n7;refine⟨m',hm,i+1,σ7,H7,I7.unpinned,T.keep _ _ _ st5 λb hb o e=>(I7.pin (b,o)<|Hd _<|Hd _<|dY hb e).1,`bm,λj v e=>k7 j v<|Keep.get kp6 e,w7⟩;obtain⟨o,e,d⟩:=T.obj _ _ st5 b hb;exact(I7.pin (b,o)<|Hd _<|Hd _<|dY hb e).2.1
  cases ok with
  |false=>
   rw[Z4 GL]at q7 ⊢;exact again I7 (λ_ _ e=>e) q7
  |true=>
   rw[`aX]at q7 ⊢;refine cE (hb D _ s7 σ6 H7 _ I7 q7) λ_ s8 zz=>?_;obtain⟨σ8,H8,I8,k8,q8⟩:=zz;exact again I8 k8 q8
theorem BJ(hc:1 Y.calm)(hxe:Y.xe=`bv)(hi:PI Y tg iter wi)(hg:PG Y tg g)(hf:uD Y ifs tf){body:Env->Gu->Sem Unit}(hb:PB Y (body Y.env) tb){e:Expr}(ce:CompE e){d:Nat}(hcl:0 (clausesOf e)[d]? ⟨tg,iter,ifs,0⟩)
  (ht:∀env it acc,compTurn e d it acc env=fA tg iter ifs (body env acc) it env (.compLoop e d it acc env):=by intro _ _ _;rfl) (hs:∀x,158 Y.env x=pure x:=by intro _;rfl):
  PB Y (zt iter e d Y.env) (BI wi g tf tb):=by
 intro D Z_ s Z H N I h;have hi':=hi Z_ s Z H _ I h;rw[hxe]at hi';refine Gn (cE hi' λv s1 h1=>Gn<|JJ<|Gn<|MV (hs v)<|Gn<|HN<|cE h1 λitv s2 h2=>?_);obtain⟨it,fp,tn,J,H2,rfl,I2,T,st2,f2,w⟩:=h2;have lp:codeAny (model Y.prog Y.w) Y.A (.compLoop e d `an `be Y.env) (λr s'=>match r with| .ok f=>(∃σ' H',Inv Y Z_ σ' H' s'/\(∀(j:Nat)(v:V),Z[j]? =some (some v)->σ'[j]? =some (some v))/\N H')| .error x=>cameBackBy (model Y.prog Y.w) Y.A Y.env (λ_ _=>False) x s') s2:=
  qi hc hxe hg hf hb ce T I2 st2 f2 w (ht _ _ _) λσ' H' s' I' k' n'=>⟨σ',H',I',k',n'⟩
 refine Gn (wpAny_runOwn<|jf ce hcl `a ?_ ?_)
 ·exact Lg lp λr s' h=>by
   cases r with
   |ok f=>exact Gv h
   |error x=>exact h
 ·refine T.self _ 0 _ _ _ st2 (Lg lp λr s' h=>by
   cases r with
   |ok f=>exact Gv h
   |error x=>exact h)
end
section
variable{X:Cx}{scope:Ka}{N:`y}{cap:List `ae}{tg iter:Expr}{ifs:`af}{pos:Pos}{wi:TI}{g:TG}{tf:TT}{tb:TB}{body:Env->Gu->Sem Unit}
theorem nK{Z_:`N}{Z σ':St}{H2 H':Hp}{s2 s':Gx}{fp:`R}{C:Addr}{h':Heap}(I2:38 X Z H2 s2)(f2:112 X Z_ H2 b)
  (hC:`bn<=C) (I':Inv (33 X N s2 H2 C) [] σ' H' s') (hs:GU C s'.heap h'):Inv X Z_ Z H' {s' with heap:=h'}:=by
 have nC:7 (H' C):=I'.free;have lt2:∀b o,0 (s2.heap.get? b) o->b≠C:=λb o e=>GY (GF (GG e) hC);have hk:∀b o,b≠C->0 (s'.heap.get? b) o->66 b o:=λb o hb e=>127 b hb e;have B:Un (frs X.stack) fp H2 H' s2.heap s'.heap:=I'.base;have tr:∀b u,0 (H' b) u->b≠C:=λb u e z=>by rw[z,nC]at e;cases e
 refine I2.call' (ch:=fp) I'.os ⟨`bZ,`bZ,λb o e n hx=>?_,λb o e hx=>?_,λb xs e=>?_,λb o u e=>?_,λb ps e=>?_⟩ (λb u e=>?_) I'.bare λb hb=>⟨(f2 b hb).2.2.2.1,(f2 b hb).2.1,(f2 b hb).2.2.2.2.1,(f2 b hb).2.2.2.2.2⟩
 ·exact hk b o (lt2 b o e) (B.keep b o e n hb hx)
 ·obtain⟨sl,q⟩:=B.slot b o e n hb hx;exact⟨sl,hk b _ (lt2 b o e) q⟩
 ·exact B.free b o e n hx
 ·obtain⟨o',q⟩:=B.there b o e hx;exact⟨o',hk b _ (lt2 b o e) q⟩
 ·exact B.tups b xs e
 ·exact B.frzs b o u e
 ·exact B.tbls b ps e
 ·refine(I'.hok b u e).stay (λc w' hc q=>hk c w' ?_ q) (λc q=>q) λc xs q=>q;rcases hc with z|z
  ·rw[z];exact tr b u e
  ·exact tr c _ z
theorem lR(Z1:CompScope X `C N cap)(hc:`bw){e:Expr}(ce:CompE e)(hcl:0 (clausesOf e)[0]? ⟨tg,iter,ifs,0⟩)
    (hg:∀s H C fp,PG (33 X N s H C) tg g) (hf:∀s H C fp,uD (33 X N s H C) ifs tf) (hb:∀s H C fp,PB (33 X N s H C) (body (33 X N s H C).env) tb)
    (ht:∀env it acc,compTurn e 0 it acc env=fA tg iter ifs (body env acc) it env (.compLoop e 0 it acc env))
    {Z_:`N} {Z:St} {H3:Hp} {s3:Gx} {it D:Addr} {fp:`R} {tn:11 Nat Heap} {J:It} {Qv:49 Hp} {E:`A} {RR:82 Addr Q4 Gx}
    (I3:38 X Z H3 s3) (T:Turn `S X.w X.K tg J fp it tn) (st3:tn 0 s3.heap) (f3:112 X Z_ H3 b) (w:uZ g tf tb D (bU cap Z) H3 Qv J)
    (fin:∀(C:Addr)(σ':St)(H':Hp)(s':Gx),s3.heap.objs.size<=C->Inv (33 X N s3 H3 C) [] σ' H' s'->Qv H'->RR C (.ok .next) s'):
    wpAny `aM X.A (newFunctionEnv `C X.env.globals (cX `D scope.names []) [] X.env.qual `j .none<|some `D) (λcenv s₄=>codeAny `aM X.A (.compStart e 0 (`an) (`be) {cenv with scope:=relabel scope X.env}) (RR cenv.locals) s₄) E s3:=by
  refine ly ?_;generalize hC:s3.heap.objs.size=C;generalize hH4:pushCells (s3.heap.push {cls:=.type "dict",data:=.dict #[]}) scope.names=h4;have hz3':(s3.heap.push {cls:=.type "dict",data:=.dict #[]}).objs.size=C+1:=by rw[HQ,hC]
  have ck:Rc h4 (C+1) (154 (C+1) []):=by
    have:=cellsFrom_ok scope.names (s3.heap.push {cls:=.type "dict",data:=.dict #[]}) (C+1) [] ⟨λ_ _ hm=>(nomatch hm),KY⟩ (by rw[hz3'];exact `w);rw[hz3',hH4]at this;exact this
  have a0:∀b o,0 (s3.heap.get? b) o->0 (h4.get? b) o:=λb o e=>by rw[<-hH4];exact Ml _ _ b o (17 e)
  have hn4:h4.Ns C λ_=>`j:=by
    rw[<-hH4,<-hC];exact(RB s3.heap<|.type "dict").keeps (Ml _ _)
  have hlt:∀b∈fp,b<C:=λb hb=>by
    obtain⟨o,e,_⟩:=T.obj _ _ st3 b hb;rw[<-hC];exact GG e
  have hCs:s3.heap.objs.size<=C:=by rw[hC];exact `w
  have IC:Inv (33 X N s3 H3 C) [] (bU cap Z) H3 {s3 with heap:=h4}:=
    lA Z1 I3 hCs ck f3 hlt (8 _ `a) hn4 λb o e=>a0 b o e
  have okC:=IC.ok;have fO:112 (33 X N s3 H3 C) [] H3 b:=λb hb=>⟨(f3 b hb).1,GY<|hlt b hb,okC.exfs b hb,.inl hb,(okC.exf b hb).2,λp hp=>by
      have:p∈([]:`N):=hp;cases this⟩
  have st4:tn 0 h4:=T.keep _ _ _ st3 λb hb o e=>a0 b o e;have loop:codeAny (`aM) X.A (.compLoop e 0 `an `be (33 X N s3 H3 C).env) (RR C) {s3 with heap:=h4}:=
    qi (Y:=33 X N s3 H3 C) hc `a (hg _ _ _ _) (hf _ _ _ _) (hb _ _ _ _) ce T IC st4 fO w (ht _ _ _) λσ' H' s' I' _ q=>fin C σ' H' s' hCs I' q
  exact jf ce hcl `a loop (T.self _ 0 _ _ _ st4 loop)
theorem va{it acc:Gu}{env:Env}{e iter2:Expr}{d:Nat}{c:Code}:fA tg iter ifs (zt iter2 e d env acc) it env c=(do
 standAt iter.pos
 match <-pyNext it with
 |none=>pure (.done .next)
 |some v=>
  letOwnedTupleGo tg it v
  assign tg env v
  let mut ok:=true
  for c in ifs do
   if ok then ok <-isTrue c env (eval c env)
  if ok then
    let x <-eval iter2 env
    standAt iter2.pos
    let x <-foldedSetIterable iter2 env x
    let _ <-runOwn (.compStart e d (<-holding [x] (pyIter x)) acc env) env
  again c):=by
 unfold fA zt;simp only[bind_assoc,pure_bind]
 all_goals rfl
variable{kx vx Z5 tg2 iter2 tg3 iter3:Expr}{ifs2 ifs3:`af}{wi2 wi3:TI}{g2 g3:TG}{tf2 tf3:TT}{te tk tv:TE}{mk:HO}
end
end L2
open L2.CompE renaming set->Sg
namespace Wb
open PySem L2 Mi
section
variable{Er:`av}{S β γ Z1:Type}{K:Gr}{W W' W0 Wb W1 W2:Wd}{Z:St}{t ta tb te ti tk tv:TE}{i:Nat}{O:82 Wd Addr Z1}
theorem xl{t:TB}{D:Addr}{H:Hp}{M:49 Hp}(h:t D Z H M):Bn Z H λb H3=>if 1 b then t D Z H3 M else M H3:=by
 show(if 1 `o then t D Z H M else M H);rw[`aX];exact h
def BV(Er:`av)(t:TB)(Z:St)(Wb W:Wd)(O:82 Wd Addr Z1)(D:Addr)(m:Z1->Res Z1):Prop:=∀W1 s(N:Hp->Prop),50 W1->O W1 D s->(44 (m s) λs'=>∀W',Same W1.G W'.G->Ext Wb W'->O W' D s'->N W'.H)->t D Z W1.H N
theorem oQ{R:`l}{J:It}{xs:`z}{g:TG}{tf:TT}{t:TB}{f:64 S Z1 Z1}{D:Addr}{N:49 Hp}{s0:Z1}(hy:Yl J W R xs)(h0:50 W1\/93 W1.G)(eb:Ext Wb W1)(o:O W1 D s0)
  (hs:∀W2 a v s(M:49 Hp),Same W.G W2.G->Ext Wb W2->O W2 D s->R W2.G a v->(f a s).OkE Er (λs'=>∀W',Same W2.G W'.G->Ext Wb W'->O W' D s'->M W'.H)->g v Z W2.H λσ2 H2=>Keep Z σ2/\tf σ2 H2 λb H3=>if 1 b then t D σ2 H3 M else M H3)
  (mono:∀W W' s,50 W'->O W D s->O W' D s)
  (k:44 (cK f xs s0) λs'=>∀W',93 W'.G->Ext Wb W'->O W' D s'->N W'.H):uZ g tf t D Z W1.H N J:=by
 have hs1:93 W1.G:=h0.elim (λe=>e.g) id;refine⟨λi n H=>2 n (`t-i) (i<=`t)<|∃(W3:Wd)(s:Z1),25 W3.H H (93 W3.G) (Ext Wb W3) (O W3 D s)<|44 (cK f (xs.drop i) s) λs'=>∀W',93 W'.G->Ext Wb W'->O W' D s'->N W'.H,⟨`t,`g,`g,W1,s0,`a,hs1,eb,o,by simpa using k⟩,?_⟩;rintro i n H ⟨rfl,hi1,W3,s,rfl,e3,eb3,o3,q⟩;by_cases hlt:i<`t
 ·obtain⟨a,ha⟩:∃a,0 xs[i]? a:=⟨xs[i],by simp[hlt]⟩
  obtain⟨h1,h2⟩:=(hy W3 e3).1 i a ha;refine .inr ⟨h1,λH'=>∃(W3:Wd)(s:Z1),25 W3.H H' (93 W3.G) (Ext Wb W3) (O W3 D s)<|44 (cK f (xs.drop<|i+1) s) λs'=>∀W',93 W'.G->Ext Wb W'->O W' D s'->N W'.H,λH' z=>⟨`t-(i+1),`b,`a,hlt,z⟩,λx H' hx=>?_⟩;obtain⟨W4,rfl,e4,rx⟩:=h2 x H' hx;rw[nE ha]at q;exact hs W4 a x s _ (e3.trans e4.g) (eb3.trans e4) (mono _ _ _ e4 o3) rx (14 q λs' ks W' z1 z2 z3=>⟨W',s',`a,(e3.trans e4.g).trans z1,z2,z3,ks⟩)
 ·have e:121 i:=`b
  subst e;rw[Ku]at q;exact 116 (hy W3 e3).2 (q W3 e3 eb3 o3)
theorem BK{R:`l}{wi:TI}{g:TG}{tf:TT}{t:TB}{mi:`aF}{f:64 S Z1 Z1}{D:Addr}(eb:Ext Wb W)(hi:IV Er wi Z W R mi)(mono:∀W W' s,50 W'->O W D s->O W' D s)
  (hs:∀W2 a v s(M:49 Hp),Same W.G W2.G->Ext Wb W2->O W2 D s->R W2.G a v->(f a s).OkE Er (λs'=>∀W',Same W2.G W'.G->Ext Wb W'->O W' D s'->M W'.H)->g v Z W2.H λσ2 H2=>Keep Z σ2/\tf σ2 H2 λb H3=>if 1 b then t D σ2 H3 M else M H3):
  BV Er (BI wi g tf t) Z Wb W O D (λs=>mi.bind λxs=>cK f xs s):=λW1 s N e1 o k=>hi W1 e1 _ (14 k λxs kx J W2 e2 hy=>oQ (W:=W2) (Wb:=Wb) hy (.inl `s) ((eb.trans e1).trans e2) (mono _ _ _ e2 o) (λW3 a v s M e3 eb3 o3 r k3=>hs W3 a v s M ((`L).g.trans e3) eb3 o3 r k3) mono<|kx.imp λs' ks W' z1 z2 z3=>ks W' (e2.g.trans z1) z2 z3)
end
end Wb
namespace L2
open PySem PySem.Spec PySem.Calls PyProof.Rows
open PySem.W (findIn findObj mroIn looks_findIn looks_find looks_mroIn class_get KitX clsIn Frag InstAt lookIn)
def XO(a:Addr)(o:Obj):HO:=.ext λh=>35 a o
section
variable{P:GJ}{w:GW}{H:Hp}{h:Heap}{a d:Addr}{o:Obj}{fs:6 Str V}{mA:Str->`M}
theorem XO.ok(e:35 a o):ObjOk P w H h a (XO a o):=⟨e,42 e,λ_ _ p k=>k _ p⟩
end
end L2
open L2.XO renaming ok->Sj
namespace Mi
def BL(a b:`m):Bool:=decide (a.1<b.1)||(decide (a.1=b.1)&&decide (a.2<=b.2))
theorem kY{a b:`m}:1 (BL a b)↔a.1<b.1\/a.1=b.1/\a.2<=b.2:=by unfold BL;simp
def gA(xs:`ar):`ar:=xs.mergeSort BL
theorem fR(xs:`ar):(gA xs).Perm xs:=Oq _ _
theorem lS(xs:`ar):(gA xs).Pairwise (λa b=>1<|BL a b):=
 Nf (le:=BL) (λa b c h1 h2=>by rw[kY]at *;omega) (λa b=>by simp only[PN,kY];omega) xs
theorem lT{xs ys:`ar}(h:ys.Perm xs)(hs:ys.Pairwise (λa b=>1<|BL a b)):ys=gA xs:=
 N7 (le:=λa b=>1 (BL a b)) (λa b _ _ h1 h2=>by rw[kY]at *;exact ME `b `b) hs (lS xs) (h.trans (fR xs).symm)
def vb(ks:`ar)(k:`m):Res `ar:=fH (ks.length<1000) (if k∈ks then ks else k::ks)
def xm(ks:`ar):Res `ar:=fH (ks.length<=1000) (gA ks)
end Mi
namespace Wb
open PySem
theorem lU{xs:Array Nat}{j:Nat}(up:∀a b,a<b->b<`aj->xs.getD a 0<xs.getD b 0):∀(f lo hi:Nat),34 (hi-lo<=f) (lo<=hi) (hi<=`aj) (∀a,a<lo->xs.getD a 0<j) (∀a,hi<=a->a<`aj->j<=xs.getD a 0) (KZ xs j f lo hi<=`aj/\(∀a,a<KZ xs j f lo hi->xs.getD a 0<j)/\(∀a,KZ xs j f lo hi<=a->a<`aj->j<=xs.getD a 0))
 |0,lo,hi,h,hl,hs,h1,h2=>by
  unfold KZ;exact⟨`b,h1,λa ha=>h2 a `b⟩
 |f+1,lo,hi,h,hl,hs,h1,h2=>by
  unfold KZ;by_cases z:lo<hi
  ·rw[Z3 z];have hm:(lo+hi)/2<hi:=`b
   have hm2:lo<=(lo+hi)/2:=`b
   have e:∀d d':Nat,xs.getD ((lo+hi)/2) d=xs.getD ((lo+hi)/2) d':=λd d'=>by
    simp[JU,show(lo+hi)/2<xs.size by omega]
   dsimp only;generalize hM:(lo+hi)/2=m at*
   by_cases y:xs.getD m j<j
   ·rw[Z3 y];refine lU up f (m+1) hi `b `b hs (λa ha=>?_) h2;by_cases q:a=m;·subst q;rw[e 0 j];exact y
    ·have:=up a m `b `b;rw[e 0 j]at this;omega
   ·rw[Z4 y];refine lU up f lo m `b hm2 `b h1 λa ha hb=>?_;by_cases q:a=m;·subst q;rw[e 0 j];omega
    ·have:=up m a `b hb;rw[e 0 j]at this;omega
  ·rw[Z4 z];exact⟨`b,h1,λa ha=>h2 a `b⟩
def Up(xs:Array Nat):Prop:=∀a b,a<b->b<`aj->xs.getD a 0<xs.getD b 0
theorem jD{xs:Array Nat}(up:Up xs)(j:Nat):IQ xs j<=`aj/\(∀a,a<IQ xs j->xs.getD a 0<j)/\(∀a,IQ xs j<=a->a<`aj->j<=xs.getD a 0):=by
 unfold IQ;exact lU up `aj 0 `aj `b `b `b (λa ha=>`b) (λa ha hb=>`b)
abbrev Pr:=SetTable.Probe
def ic(mask:Nat)(p:Pr):Pr:=if p.more>0 then {p with j:=p.j+1,more:=p.more-1} else {p with j:=(Hz mask p.i p.perturb).1,more:=HL mask (Hz mask p.i p.perturb).1-(Hz mask p.i p.perturb).1,i:=(Hz mask p.i p.perturb).1,perturb:=(Hz mask p.i p.perturb).2}
theorem lV(t:ID)(p:Pr):t.advance p=ic t.mask p:=by unfold SetTable.advance ic;rfl
def itM(mask:Nat):Nat->Pr->Pr
 |0,p=>p
 |n+1,p=>itM mask n (ic mask p)
theorem gB(mask:Nat):∀(a b:Nat)(p:Pr),itM mask (a+b) p=itM mask b (itM mask a p)
 |0,b,p=>by rw[K7];rfl
 |a+1,b,p=>by rw[show a+1+b=(a+b)+1 by omega];exact gB mask a b (ic mask p)
theorem xo(mask n:Nat)(p:Pr):itM mask (n+1) p=ic mask (itM mask n p):=by rw[gB];rfl
def vR(mask i pt:Nat):Pr:={j:=i,more:=HL mask i-i,i,perturb:=pt,dummy:=none}
theorem kZ(mask:Nat):∀(n:Nat)(p:Pr),p.more=n->7 p.dummy->itM mask (n+1) p=vR mask (Hz mask p.i p.perturb).1 (Hz mask p.i p.perturb).2
 |0,p,h,hd=>by
  show ic mask p=_;unfold ic vR;rw[`by];cases p;simp at hd;subst hd;rfl
 |n+1,p,h,hd=>by
  show itM mask (n+1) (ic mask p)=_;have e:ic mask p={p with j:=p.j+1,more:=p.more-1}:=by unfold ic;rw[Z3 `b]
  rw[e];exact kZ mask n _ (by show p.more-1=n;omega) hd
theorem tG(mask i:Nat):HL mask i-i<=9:=by unfold HL;split<;>omega
def pj(mask:Nat):Nat->Nat×Nat->Nat×Nat
 |0,x=>x
 |n+1,x=>pj mask n (Hz mask x.1 x.2)
theorem xp(mask:Nat):∀(n i pt:Nat),∃k,k<=10*n/\itM mask k (vR mask i pt)=vR mask (pj mask n (i,pt)).1 (pj mask n (i,pt)).2
 |0,i,pt=>⟨0,`b,`a⟩
 |n+1,i,pt=>by
  obtain⟨k,hk,e⟩:=xp mask n (Hz mask i pt).1 (Hz mask i pt).2;have r:=kZ mask _ (vR mask i pt) `a `a;have m:=tG mask i;refine⟨(vR mask i pt).more+1+k,?_,?_⟩
  ·have:(vR mask i pt).more<=9:=m;omega
  ·rw[gB,r];exact e
theorem tH(mask:Nat):∀(a b:Nat)(x:Nat×Nat),pj mask (a+b) x=pj mask b (pj mask a x)
 |0,b,x=>by rw[K7];rfl
 |a+1,b,x=>by rw[show a+1+b=(a+b)+1 by omega];exact tH mask a b _
theorem xq(mask:Nat):∀(n:Nat)(x:Nat×Nat),(pj mask n x).2=x.2/32^n
 |0,x=>by simp[pj]
 |n+1,x=>by
  show(pj mask n<|Hz mask x.1 x.2).2=_;rw[xq mask n];show x.2/32/32^n=_;rw[Nz,Nat.pow_succ,Nat.mul_comm]
theorem BM(mask:Nat):∀(n:Nat)(x:Nat×Nat),x.1<=mask->(pj mask n x).1<=mask
 |0,x,h=>h
 |n+1,x,h=>BM mask n _ (by show(x.1*5+1+x.2/32)%(mask+1)<=mask;have:=MF (x.1*5+1+x.2/32) (show 0<mask+1 by omega);omega)
def yN(mask:Nat):Nat->Nat->Nat
 |0,i=>i
 |n+1,i=>yN mask n<|(i*5+1)%(mask+1)
theorem xr(mask:Nat):∀(n i:Nat),pj mask n (i,0)=(yN mask n i,0)
 |0,i=>rfl
 |n+1,i=>by
  show pj mask n (Hz mask i 0)=_;rw[show Hz mask i 0=((i*5+1)%(mask+1),0) by simp[Hz],xr mask n];rfl
theorem l0(mask:Nat):∀(a b i:Nat),yN mask (a+b) i=yN mask b (yN mask a i)
 |0,b,i=>by rw[K7];rfl
 |a+1,b,i=>by rw[show a+1+b=(a+b)+1 by omega];exact l0 mask a b _
def isMask(m:Nat):Prop:=m=7\/m=31\/m=127\/m=511\/m=2047
def Co(m:Nat):Nat->Nat->Nat->Nat
 |0,_,acc=>acc
 |n+1,i,acc=>Co m n ((i*5+1)%(m+1))<|acc|||2^i
theorem tI(m:Nat):∀(n i acc e:Nat),1 ((Co m n i acc).testBit e)->1 (acc.testBit e)\/∃k,k<n/\yN m k i=e
 |0,i,acc,e,h=>.inl h
 |n+1,i,acc,e,h=>by
  rcases tI m n _ _ e h with q|⟨k,hk,q⟩
  ·rw[Nat.testBit_or,PN]at q;rcases q with q|q
   ·exact .inl q
   ·rw[Nat.testBit_two_pow,decide_eq_true_eq]at q;exact .inr ⟨0,`b,q⟩
  ·exact .inr ⟨k+1,`b,q⟩
theorem F4{m:Nat}(h:isMask m):(∀e,e<m+1->∃k,k<m+1/\yN m k 0=e)/\yN m (m+1) 0=0:=by
 have key:∀m,Co m (m+1) 0 0=2^(m+1)-1->∀e,e<m+1->∃k,k<m+1/\yN m k 0=e:=λm hv e he=>by
  have hb:1 ((Co m (m+1) 0 0).testBit e):=by rw[hv,Nat.testBit_two_pow_sub_one];simpa using he
  rcases tI m _ _ _ e hb with q|q;·simp at q
  ·exact q
 rcases h with rfl|rfl|rfl|rfl|rfl;·exact⟨key 7 ⋯,by decide +kernel⟩
 ·exact⟨key 31 ⋯,by decide +kernel⟩
 ·exact⟨key 127 ⋯,by decide +kernel⟩
 ·exact⟨key 511 ⋯,by decide +kernel⟩
 ·exact⟨key 2047 ⋯,by decide +kernel⟩
theorem xt{m:Nat}(h:isMask m){i e:Nat}(hi:i<=m)(he:e<=m):∃n,n<=m/\yN m n i=e:=by
 obtain⟨h1,h2⟩:=F4 h;obtain⟨a,ha,ea⟩:=h1 i `b;obtain⟨b,hb,eb⟩:=h1 e `b;by_cases z:a<=b
 ·refine⟨b-a,`b,?_⟩;rw[<-ea,<-l0,show a+(b-a)=b by omega,eb]
 ·refine⟨m+1-a+b,`b,?_⟩;rw[<-ea,<-l0,show a+(m+1-a+b)=(m+1)+b by omega,l0,h2,eb]
theorem Dq{m:Nat}(h:isMask m){p:Pr}(hd:7 p.dummy)(hm:p.more<=9)(hp:p.perturb<2^64){e:Nat}(he:e<=m):∃k,k<10*J8 m/\(itM m k p).j=e:=by
 have r:=kZ m p.more p `a hd;obtain⟨k1,hk1,e1⟩:=xp m 12 (Hz m p.i p.perturb).1 (Hz m p.i p.perturb).2;have z:(pj m 12 ((Hz m p.i p.perturb).1,(Hz m p.i p.perturb).2)).2=0:=by
  rw[xq];show p.perturb/32/32^12=0;rw[Nz];exact Pu `b
 have i0:(Hz m p.i p.perturb).1<=m:=by
  show(p.i*5+1+p.perturb/32)%(m+1)<=m;have:=MF (p.i*5+1+p.perturb/32) (show 0<m+1 by omega);omega
 have i1:=BM m 12 ((Hz m p.i p.perturb).1,(Hz m p.i p.perturb).2) i0;rw[z]at e1;generalize (pj m 12 ((Hz m p.i p.perturb).1,(Hz m p.i p.perturb).2)).1=i at*
 obtain⟨n,hn,en⟩:=xt h i1 he;obtain⟨k2,hk2,e2⟩:=xp m n i 0;rw[xr,en]at e2;refine⟨p.more+1+k1+k2,?_,?_⟩;·unfold J8;omega
 ·rw[gB,gB,r,e1,e2];rfl
def InP(xs:Array Nat)(j:Nat):Prop:=∃a,a<`aj/\xs.getD a 0=j
theorem qj{xs:Array Nat}{a:Nat}(h:a<`aj):0 xs[a]? (xs.getD a 0):=by simp[JU,h]
theorem iI{xs:Array Nat}(up:Up xs){a:Nat}(h:a<`aj):IQ xs (xs.getD a 0)=a:=by
 obtain⟨h0,h1,h2⟩:=jD up (xs.getD a 0);generalize IQ xs (xs.getD a 0)=b at*
 by_cases z:a<b;·have:=h1 a z;omega
 ·by_cases y:b<a
  ·have:=up b a y h;have:=h2 b `b `b;omega
  ·omega
theorem vc{xs:Array Nat}(up:Up xs){j:Nat}(h:¬InP xs j):12 (xs[IQ xs j]? ==some j):=by
 obtain⟨h0,h1,h2⟩:=jD up j;by_cases z:IQ xs j<`aj
 ·rw[qj z];rw[beq_eq_false_iff_ne];intro e;injection e with e;exact h (8 z e)
 ·rw[KG `b];rfl
structure Tp(t:ID)(hs:`P):Prop where
 dm:t.dummies=#[]
 sz:t.place.size=hs.length
 up:Up t.place
 le:∀j,InP t.place j->j<=t.mask
 msk:isMask t.mask
 reach:∀i h,0 hs[i]? h->∃k,(48 k `bM).j=122 i/\∀k',k'<k->InP t.place (48 k' `bM).j
structure Tb(t:ID)(hs:`P):Prop extends Tp t hs where
 room:hs.length*5<t.mask*3
section
variable{t:ID}{hs:`P}
theorem Tb.live(T:Tb t hs){i:Nat}(h:i<t.place.size):t.slot (122 i)=.live i:=by
 unfold QM;dsimp only;rw[iI T.up h,qj h];simp
theorem Tb.empty(T:Tb t hs){j:Nat}(h:¬InP t.place j):t.slot j=.empty:=by
 unfold QM;dsimp only;rw[Z4 (by rw[vc T.up h];decide)];unfold Pa;rw[T.dm];rfl
theorem xu(t:ID)(h:Int):(`bM).dummy=none/\(`bM).more<=9/\(`bM).perturb<2^64:=by
 refine⟨`a,tG _ _,?_⟩;show(h%(2^64:Int)).toNat<2^64;omega
theorem BN{xs:Array Nat}(up:Up xs){m:Nat}(h:`aj<=m):∃j,j<=m/\¬InP xs j:=by
 have base:∀n,n<=`aj->(∀j,j<n->InP xs j)->∀a,a<n->xs.getD a 0=a:=by
  intro n hn hin a
  induction a using PQ with
  |_ a ih=>
   intro ha;obtain⟨b,hb,eb⟩:=hin a ha;have lo:∀a,a<`aj->a<=xs.getD a 0:=by
    intro a
    induction a with
    |zero=>intro _;omega
    |succ a ih=>intro h;have:=ih `b;have:=up a (a+1) `b h;omega
   have:=lo b hb;by_cases z:b=a;·rw[<-z];rw[z]at eb;rw[z];exact eb
   ·have:=ih b `b `b;omega
 by_cases hall:∀j,j<`aj->InP xs j
 ·refine⟨`aj,h,λ⟨a,ha,ea⟩=>?_⟩;have:=`d `aj `b hall a ha;omega
 ·have ⟨j,hj⟩:=Me.mp hall;have ⟨h1,h2⟩:=MW.mp hj;exact⟨j,`b,h2⟩
theorem Tb.gap(T:Tb t hs){p:Pr}(hp:p.dummy=none/\p.more<=9/\p.perturb<2^64):∃k,k<10*J8 t.mask/\¬InP t.place (48 k p).j/\∀k',k'<k->InP t.place (48 k' p).j:=by
 obtain⟨e,he,hn⟩:=BN T.up (m:=t.mask) (by have:=T.sz;have:=T.room;omega);obtain⟨k,hk,ek⟩:=Dq T.msk hp.1 hp.2.1 hp.2.2 he;rw[<-ek]at hn;clear ek
 induction k using PQ with
 |_ k ih=>
  by_cases z:∀k',k'<k->InP t.place (48 k' p).j;·exact⟨k,hk,hn,z⟩
  ·have ⟨k',h'⟩:=Me.mp z;have ⟨h1,h2⟩:=MW.mp h';exact ih k' h1 h2 `b
theorem Tb.go(T:Tb t hs){hashAt:Nat->`c}(hA:∀i h,0 hs[i]? h->hashAt i=h)(h:Int):∀(E fuel:Nat)(p:Pr),p.dummy=none->E<fuel->¬InP t.place (48 E p).j->(∀k',k'<E->InP t.place (48 k' p).j)->
  (∃k i,k<E/\i<hs.length/\2 (122 i) (48 k p).j (0 hs[i]? h) (0 (L5 t hashAt h fuel p) (.candidate (48 k p).j i<|48 (k+1) p)/\∀k',k'<k->∀i,122 i=(48 k' p).j->i<hs.length->hs[i]?≠some h))\/
  (0 (L5 t hashAt h fuel p) (.empty (48 E p).j `j)/\∀k',k'<E->∀i,122 i=(48 k' p).j->i<hs.length->hs[i]?≠some h)
 |0,fuel+1,p,hd,hf,hn,ha=>by
  refine .inr ⟨?_,λk' hk=>135 hk⟩;unfold L5;rw[T.empty (j:=p.j) hn,hd];rfl
 |E+1,fuel+1,p,hd,hf,hn,ha=>by
  obtain⟨a,h1,h2⟩:=ha 0 `b;have h2':122 a=p.j:=h2;have one:∀i,122 i=p.j->i<hs.length->i=a:=λi hi hl=>by
   have hi':i<t.place.size:=by have:=T.sz;omega
   rw[<-iI T.up hi',hi,<-h2',iI T.up h1]
  unfold L5;rw[<-h2',T.live h1];dsimp only;have hl:a<hs.length:=by have:=T.sz;omega
  by_cases z:hashAt a=h
  ·refine .inl ⟨0,a,`b,hl,h2,?_,?_,λk' hk=>135 hk⟩
   ·have e:=hA a hs[a] (GB hl);rw[GB hl,<-e,z]
   ·rw[`bJ,lV,h2'];rfl
  ·rw[`bl,lV];have hne:∀i,122 i=p.j->i<hs.length->hs[i]?≠some h:=λi hi hl' e=>z (by rw[one i hi hl']at e;exact hA a h e);have hd':7 (ic t.mask p).dummy:=by unfold ic;split<;>exact hd
   rcases Tb.go T hA h E fuel (ic t.mask p) hd' (by omega) hn (λk' hk=>ha (k'+1) (by omega))with⟨k,i,g1,g2,g3,g4,g5,g6⟩|⟨g1,g2⟩
   ·refine .inl ⟨k+1,i,`b,g2,g3,g4,g5,λk' hk=>?_⟩;cases k' with
    |zero=>exact hne
    |succ k'=>exact g6 k' `b
   ·refine .inr ⟨g1,λk' hk=>?_⟩;cases k' with
    |zero=>exact hne
    |succ k'=>exact g2 k' `b
theorem lW{S:Type}(xs:Array S)(p:Nat)(x:S):(IY xs p x).toList=xs.toList.take p++x::xs.toList.drop p:=by
 unfold IY;simp[HV,JS,K0]
theorem gk{S:Type}(xs:Array S){p:Nat}(h:p<=`aj)(x:S):(IY xs p x).size=`aj+1:=by
 rw[<-HC,lW];simp;omega
theorem zu{S:Type}(xs:Array S){p:Nat}(h:p<=`aj)(x:S)(a:Nat):(IY xs p x)[a]? =if a<p then xs[a]? else if a=p then some x else xs[a-1]? :=by
 rw[<-GP,lW];by_cases z:a<p;·rw[Z3 z,Hr (by simp;omega),HW z,GP]
 ·rw[Z4 z,He (by simp;omega)];have hl:(QY p xs.toList).length=p:=by simp;omega
  rw[hl];by_cases y:a=p;·rw[Z3 y,y];simp
  ·rw[Z4 y,show a- p=(a-p-1)+1 by omega,IZ,Iy,GP];congr 1;omega
theorem jE(xs:Array Nat){p:Nat}(h:p<=`aj)(x:Nat)(a:Nat):(IY xs p x).getD a 0=if a<p then xs.getD a 0 else if a=p then x else xs.getD (a-1) 0:=by
 rw[HS,zu xs h];split;·rw[HS]
 ·split;·rfl
  ·rw[HS]
theorem tJ{xs:Array Nat}{p:Nat}(h:p<=`aj){x j:Nat}:InP (IY xs p x) j↔j=x\/InP xs j:=by
 constructor
 ·rintro ⟨a,ha,e⟩;rw[gk xs h]at ha;rw[jE xs h]at e;by_cases z:a<p;·rw[Z3 z]at e;exact .inr ⟨a,`b,e⟩
  ·rw[Z4 z]at e;by_cases y:a=p;·rw[Z3 y]at e;exact .inl e.symm
   ·rw[Z4 y]at e;exact .inr ⟨a-1,`b,e⟩
 ·rintro (rfl | ⟨a,ha,e⟩);·exact⟨p,by rw[gk xs h];omega,by rw[jE xs h,Z4 (by omega),Z3 rfl]⟩
  ·by_cases z:a<p;·exact⟨a,by rw[gk xs h];omega,by rw[jE xs h,Z3 z,e]⟩
   ·exact⟨a+1,by rw[gk xs h];omega,by rw[jE xs h,`by,`by];exact e⟩
theorem Tb.put(T:Tb t hs){h:Int}{E:Nat}(hn:¬InP t.place (48 E `bM).j)(hj:(48 E `bM).j<=t.mask)(ha:∀k',k'<E->InP t.place (48 k' `bM).j):
  (t.put (48 E `bM).j).2<=hs.length/\(t.put (48 E `bM).j).1.mask=t.mask/\Tp (t.put (48 E `bM).j).1 (hs.take (t.put (48 E `bM).j).2++h::hs.drop (t.put (48 E `bM).j).2):=by
 obtain⟨b0,b1,b2⟩:=jD T.up (48 E `bM).j;generalize hJ:(itM t.mask E<|t.probeStart h).j=j at*
 have hp2:(t.put j).2=IQ t.place j:=rfl;have hpl:(t.put j).1.place=IY t.place (IQ t.place j) j:=rfl;have hmk:(t.put j).1.mask=t.mask:=rfl;have hst:∀h,(t.put j).1.probeStart h=`bM:=λ_=>`a;have hsz:=T.sz;generalize IQ t.place j=p at*
 rw[hp2];refine⟨`b,`a,?_,?_,?_,?_,T.msk,?_⟩
 ·show(if Pa t.dummies j then _ else t.dummies)=#[];unfold Pa;rw[T.dm];rfl
 ·rw[hpl,gk _ b0];simp;omega
 ·rw[hpl];intro a b hab hb;rw[gk _ b0]at hb;rw[jE _ b0,jE _ b0];have gt:∀a,p<=a->a<t.place.size->j<122 a:=λa h1 h2=>by
   have:=b2 a h1 h2;by_cases z:122 a=j;·exact absurd ⟨a,h2,z⟩ hn
   ·omega
  by_cases z1:a<p
  ·rw[Z3 z1];by_cases z2:b<p;·rw[Z3 z2];exact T.up a b hab `b
   ·rw[Z4 z2];by_cases z3:b=p;·rw[Z3 z3];exact b1 a z1
    ·rw[Z4 z3];have:=b1 a z1;have:=gt (b-1) `b `b;omega
  ·rw[Z4 z1,Z4 (show ¬b< p by omega),Z4 (show ¬b=p by omega)];by_cases z3:a=p;·rw[Z3 z3];exact gt (b-1) `b `b
   ·rw[Z4 z3];exact T.up (a-1) (b-1) `b `b
 ·intro q hq;rw[hpl,tJ b0]at hq;rcases hq with rfl|hq
  ·exact hj
  ·exact T.le q hq
 ·intro i g hg;rw[hmk,hst,hpl];have mono:∀q,InP t.place q->InP (IY t.place p j) q:=λq hq=>(tJ b0).mpr (.inr hq);have hl:(hs.take p).length=p:=by simp;omega
  by_cases z1:i<p
  ·rw[Hr `b,HW z1]at hg;obtain⟨k,ek,hk⟩:=T.reach i g hg;exact⟨k,by rw[ek,jE _ b0,Z3 z1],λk' h'=>mono _<|hk k' h'⟩
  ·rw[He `b,hl]at hg;by_cases z2:i=p
   ·rw[z2,LN,Js]at hg;cases hg;exact⟨E,by rw[hJ,jE _ b0,Z4 z1,Z3 z2],λk' h'=>mono _<|ha k' h'⟩
   ·rw[show i- p=(i-p-1)+1 by omega,IZ,Iy]at hg;rw[show p+(i-p-1)=i-1 by omega]at hg;obtain⟨k,ek,hk⟩:=T.reach (i-1) g hg;exact⟨k,by rw[ek,jE _ b0,Z4 z1,Z4 z2],λk' h'=>mono _<|hk k' h'⟩
end
def Oc(ow:Array `ae)(j:Nat):Prop:=1 (ow.getD j<|some 0).isSome
theorem oR(m i pt:Nat):∀k,k<=HL m i-i->itM m k (vR m i pt)={j:=i+k,more:=HL m i-i-k,i:=i,perturb:=pt,dummy:=none}
 |0,_=>rfl
 |k+1,h=>by
  rw[xo,oR m i pt k `b];unfold ic;rw[Z3 (by show HL m i-i-k>0;omega)];rfl
theorem vd(m i:Nat):i<=HL m i:=by unfold HL;split<;>omega
theorem tK{m:Nat}(ow:Array `ae):∀(f i pt n:Nat),n<f->¬Oc ow (pj m n (i,pt)).1->
  ∃j E,Jw m ow f i pt=some j/\(itM m E<|vR m i pt).j=j/\¬Oc ow j/\∀k',k'<E->Oc ow (itM m k'<|vR m i pt).j
 |0,_,_,_,h,_=>135 h
 |f+1,i,pt,n,h,hn=>by
  have hr:=vd m i;unfold Jw;cases hf:(Iw<|HL m i+1-i).find? λk=>(ow.getD (i+k)<|some 0).isNone with
  |some k=>
   have hk:=L6.mp (List.mem_of_find?_eq_some hf);have hp:=List.find?_some hf;have hb:=(List.find?_range_eq_some.mp hf).2.2;refine⟨i+k,k,`a,by rw[oR m i pt k (by omega)],?_,λk' hk'=>?_⟩;·unfold Oc;simp at hp ⊢;exact hp
   ·rw[oR m i pt k' `b];have:=hb k' hk';unfold Oc;simpa using this
  |none=>
   have hall:=List.find?_eq_none.mp hf;have occ:∀k,k<=HL m i-i->Oc ow (i+k):=λk hk=>by
    have:=hall k (L6.mpr `b);unfold Oc;cases q:ow.getD (i+k) (some 0)with
    |none=>rw[q]at this;exact absurd `a this
    |some a=>rfl
   cases n with
   |zero=>exact absurd (occ 0 `b) hn
   |succ n=>
    obtain⟨j,E,e1,e2,e3,e4⟩:=tK ow f (Hz m i pt).1 (Hz m i pt).2 n `b hn;have r:=kZ m (HL m i-i) (vR m i pt) `a `a;refine⟨j,HL m i-i+1+E,e1,?_,e3,λk' hk'=>?_⟩;·rw[gB,r];exact e2
    ·by_cases z:k'<=HL m i-i;·rw[oR m i pt k' z];exact occ k' z
     ·rw[show k'=(HL m i-i)+1+(k'-(HL m i-i+1)) by omega,gB,r];exact e4 _ `b
abbrev stM(m:Nat)(h:Int):Pr:=vR m (HE h%(m+1)) (HE h)
theorem zw(h:Int):HE h<2^64:=by show(h%(2^64:Int)).toNat<2^64;omega
theorem zx{m:Nat}(hm:isMask m)(ow:Array `ae)(h:Int){e:Nat}(he:e<=m)(hn:¬Oc ow e):
  ∃j E,Jw m ow (J8 m) (HE h%(m+1)) (HE h)=some j/\(itM m E<|stM m h).j=j/\¬Oc ow j/\∀k',k'<E->Oc ow (itM m k'<|stM m h).j:=by
 have i0:HE h%(m+1)<=m:=by have:=MF (HE h) (show 0<m+1 by omega);omega
 have z:(pj m 13 (HE h%(m+1),HE h)).2=0:=by
  rw[xq];exact Pu (by have:=zw h;show HE h<32^13;omega)
 have i1:=BM m 13 (HE h%(m+1),HE h) i0;obtain⟨n,hn',en⟩:=xt hm i1 he;refine tK ow _ _ _ (13+n) (by unfold J8;omega) ?_;rw[tH,show pj m 13 (HE h%(m+1),HE h)=((pj m 13 (HE h%(m+1),HE h)).1,0)from ME `a z,xr,en];exact hn
structure Lay(m:Nat)(hs:`P)(ow:Array `ae)(k:Nat):Prop where
 sz:ow.size=m+1
 cnt:ow.toList.countP OC=k
 inj:∀(j j' i:Nat),58 ow[j]? i->58 ow[j']? i->j=j'
 lt:∀(j i:Nat),58 ow[j]? i->i<k
 reach:∀(j i:Nat)(h:Int),58 ow[j]? i->0 hs[i]? h->∃n,(itM m n<|stM m h).j=j/\∀n',n'<n->Oc ow (itM m n'<|stM m h).j
theorem jF{ow:Array `ae}{j:Nat}(hj:j<ow.size):Oc ow j↔∃i,58 ow[j]? i:=by
 unfold Oc;simp[JU,hj];cases ow[j]<;>simp
theorem Lay.gap{m:Nat}{hs:`P}{ow:Array `ae}{k:Nat}(L:Lay m hs ow k)(h:k<=m):∃e,e<=m/\¬Oc ow e:=by
 by_cases z:∀e,e<=m->Oc ow e
 ·exfalso;have:ow.toList.countP OC=ow.toList.length:=List.countP_eq_length.mpr λa ha=>by
   obtain⟨j,hj,e⟩:=JP.mp ha;have hj':j<ow.size:=by simpa using hj
   obtain⟨i,hi⟩:=(jF hj').mp (z j (by have:=L.sz;omega));rw[<-e];have:0 ow.toList[j] i:=by
    have q:58 ow.toList[j]? i:=by rw[GP];exact hi
    rw[GB hj]at q;injection q
   rw[this];rfl
  rw[L.cnt,HC,L.sz]at this;omega
 ·have ⟨e,he⟩:=Me.mp z;have ⟨h1,h2⟩:=MW.mp he;exact⟨e,h1,h2⟩
theorem Dr{ow:Array `ae}{j:Nat}(h:¬Oc ow j):j<ow.size:=by
 by_cases z:j<ow.size;·exact z
 ·exact absurd (by unfold Oc;simp[JU,z]) h
theorem Lay.step{m:Nat}(hm:isMask m){hs:`P}{ow:Array `ae}{k:Nat}(L:Lay m hs ow k)(hk:k<=m){h:Int}(hh:0 hs[k]? h):
  ∃j,0 (Jw m ow (J8 m) (HE h%(m+1))<|HE h) j/\Lay m hs (ow.setIfInBounds j<|some k) (k+1):=by
 obtain⟨e,he,hn⟩:=L.gap hk;obtain⟨j,E,e1,e2,e3,e4⟩:=zx hm ow h he hn;have hj:=Dr e3;refine⟨j,e1,?_⟩;have none_j:0 ow[j]? `j:=by
  have:¬∃i,ow[j]? =some (some i):=λz=>e3 ((jF hj).mpr z);rw[Hb hj]at this ⊢;cases q:ow[j]with
  |none=>rfl
  |some i=>exact absurd ⟨i,by rw[q]⟩ this
 have at_:∀q,(ow.setIfInBounds j<|some k)[q]? =if q=j then some (some k)else ow[q]? :=λq=>by
  rw[Array.getElem?_setIfInBounds];by_cases z:j=q;·subst z;simp[hj]
  ·rw[Z4 z,Z4 (JI z)]
 have oc:∀q,Oc ow q->Oc (ow.setIfInBounds j<|some k) q:=λq hq=>by
  by_cases hs':q<ow.size
  ·obtain⟨i,hi⟩:=(jF hs').mp hq;refine(jF (by simpa using hs')).mpr ?_;rw[at_];by_cases z:q=j;·exact⟨k,by rw[Z3 z]⟩
   ·exact⟨i,by rw[Z4 z];exact hi⟩
  ·unfold Oc;simp[JU,hs']
 refine⟨by simp[L.sz],?_,?_,?_,?_⟩
 ·have hj2:j<ow.toList.length:=by simpa using hj
  have q:7 ow.toList[j]:=by
   have:=none_j;rw[<-GP,GB hj2]at this;injection this
  rw[La,List.countP_set hj2,q,L.cnt];simp
 ·intro a b i ha hb;rw[at_]at ha hb;by_cases z1:a=j
  ·rw[Z3 z1]at ha;injection ha with ha;injection ha with ha;by_cases z2:b=j;·rw[z1,z2]
   ·rw[Z4 z2]at hb;have:=L.lt b i hb;omega
  ·rw[Z4 z1]at ha;by_cases z2:b=j
   ·rw[Z3 z2]at hb;injection hb with hb;injection hb with hb;have:=L.lt a i ha;omega
   ·rw[Z4 z2]at hb;exact L.inj a b i ha hb
 ·intro a i ha;rw[at_]at ha;by_cases z1:a=j
  ·rw[Z3 z1]at ha;injection ha with ha;injection ha with ha;omega
  ·rw[Z4 z1]at ha;have:=L.lt a i ha;omega
 ·intro a i g ha hg;rw[at_]at ha;by_cases z1:a=j
  ·rw[Z3 z1]at ha;injection ha with ha;injection ha with ha;subst ha;rw[hh]at hg;cases hg;exact⟨E,by rw[z1];exact e2,λn' h'=>oc _ (e4 n' h')⟩
  ·rw[Z4 z1]at ha;obtain⟨n,q1,q2⟩:=L.reach a i g ha hg;exact⟨n,q1,λn' h'=>oc _<|q2 n' h'⟩
theorem ve(m:Nat)(hs:`P):Lay m hs (NI (m+1) `j) 0:=by
 have no:∀(j i:Nat),58 (NI (m+1) (none:`ae))[j]? i->False:=λj i h=>by
  rw[Array.getElem?_replicate]at h;split at h<;>simp at h
 refine⟨`g,?_,λj j' i h _=>(no j i h).elim,λj i h=>(no j i h).elim,λj i _ h _=>(no j i h).elim⟩;rw[Array.toList_replicate,List.countP_replicate];rfl
abbrev oS(m:Nat)(acc:Option (Array `ae×Nat))(h:Int):Option (Array `ae×Nat):=do
 let (owner,k) <-acc
 let j <-Jw m owner (J8 m) (HE h%(m+1)) (HE h)
 pure (owner.setIfInBounds j (some k),k+1)
theorem qk{m:Nat}(hm:isMask m)(hs:`P):∀(r:List Int)(ow:Array (Option Nat))(k:Nat),20 (Lay m hs ow k) (hs.drop k=r) (hs.length<=m) (k<=hs.length) (∃ow',0 (r.foldl (oS m)<|some (ow,k)) (ow',hs.length)/\Lay m hs ow' hs.length)
 | [],ow,k,L,hd,hl,hk=>by
  have:k=hs.length:=by
   have:=congrArg JA hd;simp at this;omega
  subst this;exact 32 ow L
 |h::r,ow,k,L,hd,hl,hk=>by
  have hk2:k<hs.length:=by
   have:=congrArg JA hd;simp at this;omega
  have hh:0 hs[k]? h:=by
   have:0 (hs.drop k)[0]? h:=by rw[hd];rfl
   rw[Iy]at this;exact this
  obtain⟨j,e,L'⟩:=L.step hm `b hh;have e':0 (oS m (some (ow,k)) h) (ow.setIfInBounds j (some k),k+1):=by
   show(Jw m ow (J8 m) (HE h%(m+1))<|HE h).bind _=_;rw[e];rfl
  rw[Mk,e'];exact qk hm hs r _ _ L' (by rw[<-Qa,hd];rfl) hl `b
theorem ql{m:Nat}(hm:isMask m){hs:Array `c}(hl:hs.size<=m):∃ow,0 (SetTable.layClean m hs) ow/\Lay m hs.toList ow hs.size:=by
 obtain⟨ow,e,L⟩:=qk hm hs.toList hs.toList _ 0 (ve m hs.toList) `a `bX `g;refine⟨ow,?_,by simpa using L⟩;show RY (·.1) (hs.foldl (oS m)<|some (NI (m+1) `j,0))=_;rw[<-Array.foldl_toList,e];rfl
abbrev eA(m:Nat)(ow:Array `ae):6 Nat Nat:=(Iw<|m+1).filterMap λj=>(ow.getD j `j).map (j, ·)
theorem gQ{m:Nat}{ow:Array `ae}(hs:ow.size=m+1){j i:Nat}:(j,i)∈eA m ow↔58 ow[j]? i:=by
 unfold eA;rw[Lu];constructor
 ·rintro ⟨q,hq,e⟩;rw[HX]at e;obtain⟨a,e1,e2⟩:=e;injection e2 with e2 e3;subst e2;subst e3;have:=L6.mp hq;have hq':q<ow.size:=`b
  simp[JU,hq']at e1;rw[Hb hq',e1]
 ·intro h;have hj:j<ow.size:=(HZ.mp h).1;refine⟨j,L6.mpr `b,?_⟩;rw[HS,h];rfl
theorem oU{f:Nat->`ae}:∀{l:List Nat},l.Pairwise (· < ·)->((l.filterMap λj=>(f j).map (j, ·)).map (·.1)).Pairwise (· < ·)
 | [],_=>`g
 |a::l,h=>by
  have ih:=oU (f:=f) (KH.mp h).2;cases e:f a with
  |none=>simpa [e] using ih
  |some b=>
   rw[N9 (b:=(a,b)) (by rw[e];rfl),Hm];refine KH.mpr ⟨λq hq=>?_,ih⟩;obtain⟨x,hx,rfl⟩:=HK.mp hq;obtain⟨c,hc,e2⟩:=Lu.mp hx;rw[HX]at e2;obtain⟨_,_,rfl⟩:=e2;exact(KH.mp h).1 c hc
theorem xv{f:Nat->`ae}:∀(l:List Nat),(l.filterMap λj=>(f j).map (j, ·)).length=(l.map f).countP OC
 | []=>rfl
 |a::l=>by
  have ih:=xv (f:=f) l;cases e:f a with
  |none=>rw[List.filterMap_cons_none (by rw[e];rfl),ih];simp[e]
  |some b=>rw[N9 (b:=(a,b)) (by rw[e];rfl)];simp[e,ih]
theorem xw{m k:Nat}{hs:`P}{ow:Array `ae}(L:Lay m hs ow k):(eA m ow).length=k:=by
 unfold eA;rw[xv (f:=λj=>ow.getD j `j),<-L.cnt];congr 1;refine List.ext_getElem (by simp[L.sz]) λi h1 h2=>?_;simp at h1 h2;simp[JU,h2]
theorem xx:∀(n:Nat)(l:List Nat),l.Nodup->(∀x∈l,x<n)->`ag<=n
 |0,l,_,h=>by
  cases l with
  |nil=>simp
  |cons a l=>exact 135 (h a<|GO ..)
 |n+1,l,nd,h=>by
  by_cases z:n∈l
  ·have:=xx n (l.erase n) (nd.erase n) λx hx=>by
    have h1:=h x (LX hx);have h2:x≠n:=λe=>by subst e;exact(Lm nd) hx
    omega
   rw[Ln z]at this;omega
  ·have:=xx n l nd λx hx=>by
    have h1:=h x hx;have h2:x≠n:=λe=>z<|e▸hx;omega
   omega
theorem tL:∀(n:Nat)(l:List Nat),l.Nodup->(∀x∈l,x<n)->`ag=n->l.Perm (Iw n)
 |0,l,_,_,h=>by rw[Ks.mp h];exact `s
 |n+1,l,nd,h,hl=>by
  have z:n∈l:=by
   by_cases z:n∈l;·exact z
   ·have:=xx n l nd λx hx=>by
     have h1:=h x hx;have h2:x≠n:=λe=>z<|e▸hx;omega
    omega
  have:=tL n (l.erase n) (nd.erase n) (λx hx=>by
    have h1:=h x (LX hx);have h2:x≠n:=λe=>by subst e;exact(Lm nd) hx
    omega) (by rw[Ln z];omega)
  rw[List.range_succ];exact(List.perm_cons_erase z).trans ((List.Perm.cons n this).trans (List.perm_append_singleton n _).symm)
theorem zy{l:`br}(h:l.Pairwise (· < ·)):Up l.toArray:=λa b hab hb=>by
 have hb':b<`ag:=`bC
 have:=JC.mp h a b `b hb' hab;simpa [JU,show a<l.length by omega,hb'] using this
theorem nL{m i:Nat}(h:i<=m):i+(HL m i-i)<=m:=by unfold HL;split<;>omega
theorem Ds{m:Nat}{p:Pr}(h:p.j+p.more<=m):(ic m p).j+(ic m p).more<=m:=by
 unfold ic;split;·show p.j+1+(p.more-1)<=m;omega
 ·refine nL ?_;show(p.i*5+1+p.perturb/32)%(m+1)<=m;have:=MF (p.i*5+1+p.perturb/32) (show 0<m+1 by omega);omega
theorem Dt{m:Nat}:∀(n:Nat){p:Pr},p.j+p.more<=m->(itM m n p).j+(itM m n p).more<=m
 |0,_,h=>h
 |n+1,_,h=>Dt n (Ds h)
theorem AR{m:Nat}{h:Int}(n:Nat):(itM m n<|stM m h).j<=m:=by
 have:=Dt (m:=m) n (p:=stM m h) (nL (i:=HE h%(m+1)) (by have:=MF (HE h) (show 0<m+1 by omega);omega));omega
theorem zA{m:Nat}(hm:isMask m){hs:Array `c}(hl:hs.size<=m)(fi mo:Nat)(led plain:Bool):
  ∃t order,0 (QN m fi mo led plain hs) (t,order)/\t.mask=m/\2 t.led led (t.plain=plain) (order.toList.Perm (Iw hs.size)/\Tp t (order.toList.map λi=>hs.toList.getD i 0)):=by
 obtain⟨ow,e,L⟩:=ql hm hl;refine⟨_,_,by unfold QN;rw[e];rfl,rfl,rfl,rfl,?_,?_⟩
 ·show((eA m ow).map (·.2)).toArray.toList.Perm _;have len:=xw L;have inc:=oU (f:=λj=>ow.getD j `j) (NA (n:=m+1));have nd1:((eA m ow).map (·.1)).Nodup:=inc.imp λh=>GY h;refine tL hs.size _ ?_ `bG (by simpa using len)
  ·show((eA m ow).map (·.2)).Nodup;rw[I9,Kn];rw[I9,Kn]at nd1;refine nd1.imp_of_mem λ{a b}ha hb hne e=>hne ?_;have h1:=(gQ L.sz (j:=a.1) (i:=a.2)).mp ha;have h2:=(gQ L.sz (j:=b.1) (i:=b.2)).mp hb;rw[<-e]at h2;exact L.inj _ _ _ h1 h2
  ·obtain⟨y,hy,rfl⟩:=HK.mp (show x∈(eA m ow).map (·.2)from hx);exact L.lt _ _ ((gQ L.sz (j:=y.1) (i:=y.2)).mp hy)
 ·have inc:=oU (f:=λj=>ow.getD j `j) (NA (n:=m+1));have inp:∀j,InP ((eA m ow).map (·.1)).toArray j↔∃i,58 ow[j]? i:=λj=>by
   constructor
   ·rintro ⟨a,ha,e⟩;have ha':a<(eA m ow).length:=by simpa using ha
    have:((eA m ow)[a]).1=j:=by simpa [JU,ha'] using e
    have mem:=J9 ha';rw[<-this];exact 42 ((gQ L.sz (j:=(eA m ow)[a].1) (i:=(eA m ow)[a].2)).mp mem)
   ·rintro ⟨i,hi⟩;have mem:=(gQ L.sz).mpr hi;obtain⟨a,ha,e⟩:=JP.mp mem;exact⟨a,by simpa using ha,by simp[JU,ha,e]⟩
  have ocp:∀j,j<=m->Oc ow j->InP ((eA m ow).map (·.1)).toArray j:=λj hj h=>(inp j).mpr ((jF (by have:=L.sz;omega)).mp h);refine⟨`a,?_,zy inc,?_,hm,?_⟩
  ·show((eA m ow).map (·.1)).toArray.size=(Si _ ((eA m ow).map (·.2)).toArray.toList).length;simp
  ·intro j hj;obtain⟨i,hi⟩:=(inp j).mp hj;have:=(HZ.mp hi).1;have:=L.sz;show j<=m;omega
  ·intro a h ha;have ha2:0 (((eA m ow)[a]?).map λy=>hs.toList.getD y.2 0) h:=by
    have:0 (((eA m ow).map (·.2)).map λi=>hs.toList.getD i 0)[a]? h:=ha;rw[JK,GK]at this;exact this
   obtain⟨y,hy,e⟩:=HX.mp ha2;have mem:=H9 hy;have at_:=(gQ L.sz (j:=y.1) (i:=y.2)).mp mem;have lt:=L.lt _ _ at_;have hh:0 hs.toList[y.2]? h:=by
    have hlt:y.2<hs.toList.length:=by simpa using lt
    rw[IH,GB hlt]at e;rw[GB hlt];exact congrArg some e
   obtain⟨n,q1,q2⟩:=L.reach _ _ _ at_ hh;have hla:a<(eA m ow).length:=(GA.mp hy).1;refine⟨n,?_,λn' h'=>?_⟩
   ·show(itM m n<|stM m h).j=((eA m ow).map (·.1)).toArray.getD a 0;rw[q1,HS];simp only[List.getElem?_toArray,GK,hy];rfl
   ·refine ocp _ ?_ (q2 n' h');by_cases z:(itM m n'<|stM m h).j<=m;·exact z
    ·exfalso;exact z (AR n')
section
variable{prog:GJ}{w:GW}{K:Type}[DecidableEq K]{knd:KeyKind `r w K}{A:Hk}{E:`A}{s:Gx}
structure TupsOf(knd:KeyKind `r w K)(h:Heap)(es:6 `c Gu)(ks:List (List K)):Prop where
 len:es.length=ks.length
 at_:∀(i:Nat)(e:Int×Gu),0 es[i]? e->∃k b,0 ks[i]? k/\e.2=`aS/\Kc knd h k b/\e.1=109 k
theorem Tb.fits{t:ID}{es:Array (`c×Gu)}(T:Tb t (es.toList.map (·.1))):1 (t.fits `ad):=by
 have h1:=T.sz;have h2:=T.room;have h3:=T.dm;simp at h1 h2;unfold QO OD;rw[h3];simp;omega
theorem xA{m:Nat}(h:isMask m):12 (m%2==0):=by rcases h with rfl|rfl|rfl|rfl|rfl<;>rfl
theorem AS{m:Nat}:∀(k:Nat){p:Pr},7 p.dummy->7 (itM m k p).dummy
 |0,_,h=>h
 |k+1,p,h=>AS k (by unfold ic;split<;>exact h)
theorem rH{adding:Bool}{a x:Addr}{o:Obj}{es:Array (`c×Gu)}{ep:Nat}{t:ID}{ks:List (List K)}{kx:List K}(hu:A.units<cLine)(ho:22 a o)(hd:o.data=.set es ep t)(T:Tb t (es.toList.map (·.1)))(hk:TupsOf knd `i es.toList ks)(hx:Kc knd `i kx x)
  (seen:∀(l:List Gu)(Q:Bool->Gx->Prop),(∀y∈l,∃e∈es.toList,y=e.2)->Q `K s->85 w A (searchCouldBeSeen `bd l) Q E) {Q:68 SetFound}:
  ∀(fuel G:Nat)(st:Option Pr),(st.getD<|t.probeStart<|109 kx).dummy=none->G<fuel->G<10*J8 t.mask-> ¬InP t.place (48 G<|st.getD<|t.probeStart<|109 kx).j->(∀k',k'<G->InP t.place (48 k'<|st.getD<|t.probeStart<|109 kx).j)->
   ((∃k i,k<G/\122 i=(48 k<|st.getD<|t.probeStart<|109 kx).j/\0 ks[i]? kx)->∀r:Option Nat,r.isSome= !adding->Q (.there r) s)->
   ((∀k i,k<G->122 i=(48 k<|st.getD<|t.probeStart<|109 kx).j->i<`ad->ks[i]?≠some kx)->Q (.free (48 G<|st.getD<|t.probeStart<|109 kx).j `K) s)->
   wpAny (model `r w) A (setSearchFrom a `bd (109 kx) adding fuel st) Q E s:=by
 intro fuel
 induction fuel with
 |zero=>intro G st _ h;exact 135 h
 |succ fuel ih=>
  intro G st hdm hG hGt hn ha h1 h2;unfold setSearchFrom;refine Gn (Ji ho hd T.fits ?_);dsimp only;rw[Z4 (by unfold SetTable.gaveWay;rw[xA T.msk];decide)];generalize hp:st.getD (t.probeStart<|tupleKeyHash knd kx)=p at*
  have hA:∀(i:Nat)(h:Int),0 (es.toList.map (·.1))[i]? h->(λ(i:Nat)=>(es[i]?.map λ(e:Int×Gu)=>e.1).getD 0) i=h:=λi h hh=>by
   rw[GK,GP]at hh;show(es[i]?.map λ(e:Int×Gu)=>e.1).getD 0=h;rw[hh];rfl
  have go:=T.go hA (109 kx) G (10*J8 t.mask) p hdm hGt hn ha;have hpr:t.probe (λ(i:Nat)=>(es[i]?.map λ(e:Int×Gu)=>e.1).getD 0) (109 kx) p=L5 t (λ(i:Nat)=>(es[i]?.map λ(e:Int×Gu)=>e.1).getD 0) (109 kx) (10*J8 t.mask) p:=rfl;rw[<-hpr]at go;rcases go with⟨k,i,g1,g2,g3,g4,g5,g6⟩|⟨g1,g2⟩
  ·have e:∀f,(f=(λ(i:Nat)=>(es[i]?.map λ(e:Int×Gu)=>e.1).getD 0))->0 (t.probe f (109 kx) p) (.candidate (48 k p).j i<|48 (k+1) p):=λf hf=>by rw[hf];exact g5
   have hi:i<`ad:=by simpa using g2
   obtain⟨ky,b,q1,q2,q3,q4⟩:=hk.at_ i es[i] (by rw[GP,Hb hi]);have hei:0 es[i]? (es[i].1,`aS):=by rw[Hb hi,<-q2]
   have key_ne:∀k' i',k'<k->122 i'=(48 k' p).j->i'<`ad->ks[i']?≠some kx:=λk' i' hk' hi' hl hq=>by
    have hl':i'<es.toList.length:=`bX
    obtain⟨kz,c,z1,z2,z3,z4⟩:=hk.at_ i' es.toList[i'] (GB hl');rw[z1]at hq;cases hq;refine g6 k' hk' i' hi' `bX ?_;rw[GK,GB hl',<-z4];rfl
   have one:∀i',122 i'=(48 k p).j->i'<`ad->i'=i:=λi' hi' hl=>by
    have h1':i'<t.place.size:=by have:=T.sz;simp at this;omega
    have h2':i<t.place.size:=by have:=T.sz;simp at this;omega
    rw[<-iI T.up h1',hi',<-g3,iI T.up h2']
   have again:ky≠kx->85 w A (setSearchFrom a `bd (109 kx) adding fuel<|some<|48 (k+1) p) Q E:=λhne=>by
    have ad:∀n,48 n (48 (k+1) p)=48 (k+1+n) p:=λn=>(gB t.mask (k+1) n p).symm;refine ih (G-(k+1)) (some<|48 (k+1) p) ?_ `b `b ?_ ?_ ?_ ?_;·exact AS (k+1) hdm
    ·show ¬InP t.place (48 _<|48 (k+1) p).j;rw[ad,show k+1+(G-(k+1))=G by omega];exact hn
    ·intro k' hk';show InP t.place (48 _<|48 (k+1) p).j;rw[ad];exact ha _ `b
    ·rintro ⟨k',i',r1,r2,r3⟩ r hr;have r2':122 i'=(48 k'<|48 (k+1) p).j:=r2;rw[ad]at r2';exact h1 ⟨k+1+k',i',`b,r2',r3⟩ r hr
    ·intro r;show Q (.free (48 _<|48 (k+1) p).j `K) s;rw[ad,show k+1+(G-(k+1))=G by omega];refine h2 λk' i' z1 z2 z3=>?_;by_cases y1:k'<k;·exact key_ne k' i' y1 z2 z3
     ·by_cases y2:k'=k
      ·subst y2;rw[one i' z2 z3,q1];intro z;injection z with z;exact hne z
      ·refine r (k'-(k+1)) i' `b ?_ z3;show 122 i'=(48 _<|48 (k+1) p).j;rw[ad,show k+1+(k'-(k+1))=k' by omega];exact z2
   have hlive:t.slot (48 k p).j=.live i:=by rw[<-g3];exact T.live (by have:=T.sz;simp at this;omega)
   have hmem:0 (t.sameMemory t.moves t.mask) `o:=by unfold SetTable.sameMemory;simp
   rw[e]
   ·dsimp only;simp only[hei];by_cases hl:1 t.led
    ·rw[Z4 (by simp[hl])];refine Gn (HN<|(tupleKind knd).eqBool hu q3 hx ?_);refine Gn (Ji ho hd T.fits ?_);dsimp only;by_cases hq:ky=kx
     ·rw[decide_eq_true hq];have hw:∃k i,k<G/\122 i=(48 k p).j/\0 ks[i]? kx:=⟨k,i,g1,g3,hq▸q1⟩
      cases adding with
      |true=>
       rw[Z3 ⋯];exact Gv (h1 hw `j `a)
      |false=>
       rw[`aZ,hmem];dsimp only;rw[`aX,hlive];dsimp only;rw[hei];dsimp only;refine Gn (KW ?_);refine Gn `B;exact Gv (h1 hw (some i) `a)
     ·rw[decide_eq_false hq,Z4 (by cases adding <;> decide),hmem];dsimp only;rw[`aX,hlive];dsimp only;rw[hei];dsimp only;refine Gn (KW ?_);refine Gn `B;exact again hq
    ·rw[Z3 (by simp[hl])];refine Gn (seen _ _ (λy hy=>?_) ?_)
     ·obtain⟨z,hz,rfl⟩:=HK.mp hy;exact⟨z,by simp at hz;simpa using hz.1,rfl⟩
     rw[`aZ];refine Gn (HN<|(tupleKind knd).eqBool hu q3 hx ?_);refine Gn (Ji ho hd T.fits ?_);dsimp only;by_cases hq:ky=kx
     ·rw[decide_eq_true hq];have hw:∃k i,k<G/\122 i=(48 k p).j/\0 ks[i]? kx:=⟨k,i,g1,g3,hq▸q1⟩
      cases adding with
      |true=>
       rw[Z3 ⋯];exact Gv (h1 hw `j `a)
      |false=>
       rw[`aZ,hmem];dsimp only;rw[`aX,hlive];dsimp only;rw[hei];dsimp only;refine Gn (KW ?_);refine Gn `B;exact Gv (h1 hw (some i) `a)
     ·rw[decide_eq_false hq,Z4 (by cases adding <;> decide),hmem];dsimp only;rw[`aX,hlive];dsimp only;rw[hei];dsimp only;refine Gn (KW ?_);refine Gn `B;exact again hq
   ·rfl
  ·have e:∀f,(f=(λ(i:Nat)=>(es[i]?.map λ(e:Int×Gu)=>e.1).getD 0))->0 (t.probe f (109 kx) p) (.empty (48 G p).j `j):=λf hf=>by rw[hf];exact g1
   rw[e]
   ·refine Gv (h2 λk i hk' hi hl hq=>?_);have hl':i<es.toList.length:=`bX
    obtain⟨ky,b,q1,q2,q3,q4⟩:=hk.at_ i es.toList[i] (GB hl');rw[q1]at hq;cases hq;refine g2 k hk' i hi `bX ?_;rw[GK,GB hl',<-q4];rfl
   ·rfl
end
section
variable{prog:GJ}{w:GW}{K:Type}[DecidableEq K]{knd:KeyKind `r w K}{A:Hk}{E:`A}{s:Gx}
theorem vf{n:Nat}{v:Gu}(h:1 (carriedByValue v)):ofAClassStatement n v=pure `K:=by
 cases v<;>first|(cases n<;>rfl)|(exfalso;revert h;simp[carriedByValue])
theorem nM{ks:List K}{a:Addr}{Q:68 Bool}(hk:Kc knd `i ks a)(h:Q `K s):85 w A (ofAClassStatement 8 `ai) Q E:=by
 have hT:=hk.typeIs;obtain⟨o,items,n,ho,_,hd,hi⟩:=hk;unfold ofAClassStatement;refine Gn (wpAny_typeOf hT ?_);dsimp only;rw[Z3 `T];refine Gn `B;rw[`aZ];refine Gn (Hy ho hd ?_);dsimp only;refine `aN;show 57 _ _ (forIn items _ _) _ _;rw[<-OT];refine Nj _ (λrest r s'=>2 r.1 `j (s'=s)<|∀v∈rest,1<|carriedByValue v) _ ?_ ?_ _ _ (32 `a hi.byValue)
 ·rintro v rest r s' ⟨hr,rfl,hall⟩;rw[vf (hall v GO)];refine Gn `B;simp only[Hg,if_false];exact Gv (32 `a λu hu'=>hall u<|GS _ hu')
 ·rintro ⟨r1,r2⟩ s' ⟨hr,rfl,_⟩;simp only at hr;subst hr;exact Gv h
theorem xB{kx:List K}{x:Addr}(hx:Kc knd `i kx x):∀(l:List Gu){Q:Bool->Gx->Prop},(∀y∈l,∃k b,y=`aS/\Kc knd `i k b)->Q `K s->85 w A (searchCouldBeSeen `bd l) Q E:=by
 intro l Q hl h;unfold searchCouldBeSeen;refine `aN;refine Nj _ (λrest r s'=>2 r.1 `j (s'=s)<|∀y∈rest,∃k b,y=`aS/\Kc knd `i k b) _ ?_ ?_ _ _ (32 `a hl)
 ·rintro v rest r s' ⟨hr,rfl,hall⟩;obtain⟨k,b,rfl,hb⟩:=hall v GO;dsimp only;by_cases z:x=b
  ·rw[Z3 (by simp[z])];exact Gv (32 `a λu hu'=>hall u<|GS _ hu')
  ·rw[Z4 (by simp[z,carriedByValue])];refine Gn ((tupleKind knd).quiet hx ?_);simp only[KO,Hg,if_false];refine Gn ((tupleKind knd).quiet hb ?_);simp only[KO,Hg,if_false];refine Gn (nM hx ?_);simp only[Hg,if_false];refine Gn (nM hb ?_);simp only[Hg,if_false];exact Gv (32 `a λu hu'=>hall u<|GS _ hu')
 ·rintro ⟨r1,r2⟩ s' ⟨hr,rfl,_⟩;simp only at hr;subst hr;exact Gv h
end
section
variable{prog:GJ}{w:GW}{K:Type}[DecidableEq K]{knd:KeyKind `r w K}
theorem qm{h h':Heap}{a b:Addr}{o:Obj}{es:Array (`c×Gu)}{ep:Nat}{t:ID}{k:List K}(hk:Kc knd h k b)(ho:35 a o)(hd:o.data=.set es ep t)(hs:GU a h h'):Kc knd h' k b:=by
 obtain⟨ob,items,n,h1,h2,h3,h4⟩:=hk;have ne:b≠a:=λz=>by
  subst z;rw[ho]at h1;cases h1;rw[hd]at h3;cases h3
 exact⟨ob,items,n,127 b ne h1,h2,h3,h4⟩
theorem TupsOf.keep{h h':Heap}{a:Addr}{o:Obj}{es:Array (`c×Gu)}{ep:Nat}{t:ID}{l:6 `c Gu}{ks:List (List K)}(T:TupsOf knd h l ks)(ho:35 a o)(hd:o.data=.set es ep t)(hs:GU a h h'):TupsOf knd h' l ks:=
 ⟨T.len,λi e he=>let ⟨k,b,q1,q2,q3,q4⟩:=T.at_ i e he;⟨k,b,q1,q2,qm q3 ho hd hs,q4⟩⟩
end
section
variable{prog:GJ}{w:GW}{K:Type}[DecidableEq K]{knd:KeyKind `r w K}{A:Hk}{E:`A}{s:Gx}
theorem xC{ks:List K}{a:Addr}{Q:68 Bool}(hI:∀k∈ks,∀v,1 (knd.is k v)->∃i t,v=.int i t)(hk:Kc knd `i ks a)(h:Q `o s):85 w A (hashByValue 8 `ai) Q E:=by
 have hT:=hk.typeIs;obtain⟨o,items,n,ho,_,hd,hi⟩:=hk;unfold hashByValue;refine Gn (Lq hT F.slot_tuple_hash.lookup ?_);show 57 _ _ (seqItems? (`ai)>>=_) _ _;refine Gn (Hy ho hd ?_);dsimp only;refine `aN;show 57 _ _ (forIn items _ _) _ _;rw[<-OT];have hall:∀v∈items.toList,∃i t,v=.int i t:=by
  clear hd ho;generalize items.toList=l at hi
  induction hi with
  |nil=>intro v hv;cases hv
  |cons h1 _ ih=>
   intro v hv;rcases GI.mp hv with rfl|hv
   ·exact hI _ (GO ..) _ h1
   ·exact ih (λk hk=>hI k<|GS _ hk) v hv
 refine Nj _ (λrest r s'=>2 r.1 `j (s'=s)<|∀v∈rest,∃i t,v=Nb i t) _ ?_ ?_ _ _ (32 `a hall)
 ·rintro v rest r s' ⟨hr,rfl,hall⟩;obtain⟨i,t,rfl⟩:=hall v GO;show wpAny _ _ (hashByValue 7 (.int i t)>>=_) _ _ _;rw[show hashByValue 7 (.int i t)=pure `o from rfl];refine Gn `B;exact Gv (32 `a λu hu'=>hall u<|GS _ hu')
 ·rintro ⟨r1,r2⟩ s' ⟨hr,rfl,_⟩;simp only at hr;subst hr;exact Gv h
structure SetT(knd:KeyKind `r w K)(h:Heap)(a:Addr)(led:Bool)(ks:List (List K))(o:Obj)(es:Array (`c×Gu))(ep:Nat)(t:ID):Prop where
 at_:35 a o
 ex:o.ExactSet
 dat:o.data=.set es ep t
 tab:Tb t (es.toList.map (·.1))
 tup:TupsOf knd h es.toList ks
 nd:ks.Nodup
 led:t.led=led
 pl:1 t.plain
theorem Tp.fits{t:ID}{es:Array (`c×Gu)}(T:Tp t (es.toList.map (·.1)))(h:`ad<=t.mask):1 (t.fits `ad):=by
 have h1:=T.sz;have h3:=T.dm;simp at h1;unfold QO OD;rw[h3];simp;omega
theorem Tp.full{t:ID}{es:Array (`c×Gu)}(T:Tp t (es.toList.map (·.1))):t.tooFull=decide (`ad*5≥t.mask*3):=by
 have h1:=T.sz;simp at h1;unfold SetTable.tooFull OD;rw[T.dm,h1];simp
theorem zB{es:Array (`c×Gu)}{order:Array Nat}(h:order.toList.Perm (Iw `ad)):(order.filterMap (es[·]?)).toList=order.toList.map λi=>es.toList.getD i (0,.none):=by
 rw[Array.toList_filterMap];have:∀i∈order.toList,i<`ad:=λi hi=>by have:=h.mem_iff.mp hi;simpa using this
 generalize order.toList=l at this;clear h
 induction l with
 |nil=>rfl
 |cons i l ih=>
  have hi:=this i<|GO ..;rw[Jy,Hb hi,Hm,ih λj hj=>this j (GS _ hj)];congr 1;rw[IH,GB (by simpa using hi)];rfl
theorem nN{S:Type}(l:`z)(d:S):((Iw `ag).map λi=>l.getD i d)=l:=by
 apply Jh;intro i;rw[GK];by_cases z:i<`ag
 ·rw[JW z,GB z];simp[IH,z]
 ·rw[Ij (by simpa using z),Ij (by simpa using z)];rfl
theorem TupsOf.order{h:Heap}{es:6 `c Gu}{ks:List (List K)}(U:TupsOf knd h es ks){l:`br}(hl:l.Perm (Iw es.length)):TupsOf knd h (l.map λi=>es.getD i (0,.none)) (l.map λi=>ks.getD i []):=by
 refine⟨`g,λi e he=>?_⟩;rw[GK]at he;obtain⟨j,hj,e1⟩:=HX.mp he;have hlt:j<es.length:=by have:=hl.mem_iff.mp (H9 hj);simpa using this
 obtain⟨k,b,q1,q2,q3,q4⟩:=U.at_ j es[j] (GB hlt);have e2:e=es[j]:=by rw[<-e1,IH,GB hlt];rfl
 subst e2;refine⟨k,b,?_,q2,q3,q4⟩;rw[GK,hj];simp[IH,q1]
theorem xD{a:Addr}{o:Obj}{es es1:Array (`c×Gu)}{ep n:Nat}{t t1:ID}{led:Bool}{ks1:List (List K)}(ho:22 a o)(hex:o.ExactSet)(hd:o.data=.set es ep t)(T1:Tp t1 (es1.toList.map (·.1)))(U1:TupsOf knd `i es1.toList ks1)(nd1:ks1.Nodup)(hl:t1.led=led)(hpl:1 t1.plain)(hn:es1.size=n)(h0:0<n)(a0:n<=1000)(hr:(n-1)*5<t1.mask*3){Q:68 Bool}
  (h:∀h' ks' o' es' ep' t',GU a s.heap h'->SetT knd h' a led ks' o' es' ep' t'->ks'.Perm ks1->es'.toList.Perm es1.toList->Q true {s with heap:=h'}):
  85 w A (do
    storeSet a es1 t1
    if 1 (!false&&t1.tooFull) then setRelay a (Lb n)
    pure true) Q E:=by
 have put:∀(s:Gx)(o:Obj)es ep t(es':Array (`c×Gu))(t':ID),s.heap.get? a=some o->o.data=.set es ep t->(s.heap.update a<|MG es' t').get? a=some {o with data:=.set es' (ep+1) t'}:=λs o es ep t es' t' ho hd=>by
  have:=HP (MG es' t') ho (by rw[putSet_of es' t' hd];rfl);rw[putSet_of es' t' hd]at this;exact this
 have big:69 1000:=by rw[Iq];omega
 have mk:=T1.msk;refine Gn (Pb ho hd ?_ `b);have ho1:=put s o es ep t es1 t1 ho hd;have sb1:=Ik `i a (MG es1 t1);have U2:=U1.keep ho hd sb1;rw[T1.full];by_cases z:es1.size*5≥t1.mask*3
 ·rw[`ca,Z3 `T];unfold setRelay;refine Gn (Gn<|Ji ho1 `a (T1.fits (by rcases mk with y|y|y|y|y<;>omega)) ?_);dsimp only;have hw:Ly (Lb n)<=2048/\isMask (Ly (Lb n)-1)/\n*5<(Ly (Lb n)-1)*3:=by
   rcases mk with y|y|y|y|y
   ·have:n=5:=`b
    subst this;exact⟨`ac,.inr<|.inl ⋯,`ac⟩
   ·have:n=19:=`b
    subst this;exact⟨`ac,.inr<|.inr<|.inl ⋯,`ac⟩
   ·have:n=77:=`b
    subst this;exact⟨`ac,.inr<|.inr<|.inr<|.inl ⋯,`ac⟩
   ·have:n=307:=`b
    subst this;exact⟨`ac,.inr<|.inr<|.inr<|.inr ⋯,`ac⟩
   ·omega
  rw[Z4 (by have:=hw.1;rw[Iq];omega)];obtain⟨t2,order,e2,m2,l2,p2,pm,T2⟩:=zA hw.2.1 (hs:=es1.map (·.1)) (by simp;omega) t1.finger (t1.movedTo<|Ly (Lb n)-1) t1.led t1.plain;have er:0 (t1.relaid (es1.map (·.1))<|Lb n) (t2,order):=e2;have pm':order.toList.Perm (Iw es1.size):=by simpa using pm
  have fm:=zB (es:=es1) pm';have fs:(order.filterMap (es1[·]?)).size=es1.size:=by
   rw[<-HC,fm,Ho,pm'.length_eq,MX]
  rw[er];have key:∀(f:Array (Int×Gu)->Option (ID×Array Nat)->Sem (Array (Int×Gu)×ID))(R:(Array (Int×Gu)×ID)->Gx->Prop)(s:Gx),(∀es l,f es l=(do
     let some (t,order):=l|unsupported "internal:set-table-without-room"
     let es':=order.filterMap (es[·]?)
     if es'.size !=`ad then unsupported "internal:set-table-lost-an-element"
     pure (es',t)))->R (order.filterMap (es1[·]?),t2) s->85 w A (f es1<|some (t2,order)) R E:=λf R s hf hR=>by
   rw[hf];dsimp only;rw[Z4 (by rw[fs];simp)];exact Gv hR
  refine Gn (key _ _ _ `ah ?_);dsimp only;refine Pb ho1 `a ?_ (by rw[fs];omega);have ho2:=put {s with heap:=s.heap.update a (MG es1 t1)} _ _ _ _ (order.filterMap (es1[·]?)) t2 ho1 rfl;have sb2:=Ik (s.heap.update a<|MG es1 t1) a (MG (order.filterMap (es1[·]?)) t2);have U3:=U2.order (l:=order.toList) (by simpa using pm');rw[<-fm]at U3;have U4:=U3.keep ho1 `a sb2;have pk:(order.toList.map λi=>ks1.getD i []).Perm ks1:=by
   have:=pm'.map λi=>ks1.getD i [];have hl:es1.size=ks1.length:=by have:=U1.len;simpa using this
   rw[hl,nN]at this;exact this
  have pe:(order.filterMap (es1[·]?)).toList.Perm es1.toList:=by
   rw[fm];have:=pm'.map λi=>es1.toList.getD i (0,Hl);have hl:es1.size=es1.toList.length:=`g
   rw[hl,nN]at this;exact this
  refine Gv (h _ _ _ _ _ _ (sb1.trans sb2) ⟨ho2,hex,rfl,⟨?_,?_⟩,U4,pk.nodup_iff.mpr nd1,by rw[l2];exact hl,by rw[p2];exact hpl⟩ pk pe)
  ·rw[fm,JK];have:((λx:Int×Gu=>x.1)∘λi=>es1.toList.getD i (0,.none))=λi=>(es1.map (·.1)).toList.getD i 0:=funext λi=>by
    simp only[Function.comp,IH,Pw,GK];cases es1.toList[i]? <;>rfl
   rw[this];exact T2
  ·rw[Ho,HC,fs,m2];have:=hw.2.2;omega
 ·rw[decide_eq_false z,`aZ];refine Gv (h _ _ _ _ _ _ sb1 ⟨ho1,hex,`a,⟨T1,by simp;omega⟩,U2,nd1,hl,hpl⟩ `s `s)
theorem zC{a x:Addr}{o:Obj}{es:Array (`c×Gu)}{ep:Nat}{t:ID}{led:Bool}{ks:List (List K)}{kx:List K}(hu:A.units<cLine)(Z1:SetT knd `i a led ks o es ep t)(hn:`ad<1000)(hx:Kc knd `i kx x)(hI:∀k∈kx,∀v,1 (knd.is k v)->∃i t,v=.int i t)
  {Q:68 Bool} {fuel:Nat}
  (h1:kx∈ks->Q `K s) (h2:kx∉ks->∀h' ks' o' es' ep' t',GU a s.heap h'->SetT knd h' a led ks' o' es' ep' t'->ks'.Perm (kx::ks)->es'.toList.Perm ((109 kx,`bd)::es.toList)->Q true {s with heap:=h'}):
  85 w A (setAddHashedIn a `bd (109 kx)<|fuel+1) Q E:=by
 unfold setAddHashedIn;refine Gn (Ji Z1.at_ Z1.dat Z1.tab.fits ?_);dsimp only;rw[Z4 (by unfold byScan;simp[Value.scannable])];obtain⟨G,g1,g2,g3⟩:=Z1.tab.gap (xu t<|109 kx);have mem:∀i,i<`ad->0 ks[i]? kx->∃k,k<G/\122 i=(48 k<|t.probeStart<|109 kx).j:=λi hi z=>by
  have hi':i<es.toList.length:=by simpa using hi
  obtain⟨k,b,q1,q2,q3,q4⟩:=Z1.tup.at_ i es.toList[i] (GB hi');rw[q1]at z;cases z;obtain⟨n,r1,r2⟩:=Z1.tab.reach i (109 kx) (by rw[GK,GB hi',<-q4];rfl);refine⟨n,?_,r1.symm⟩;by_cases y:n<G;·exact y
  ·by_cases y2:n=G
   ·subst y2;refine absurd ?_ g2;rw[r1];exact⟨i,by have:=Z1.tab.sz;simp at this;omega,rfl⟩
   ·exact absurd (r2 G `b) g2
 refine `aN;unfold setSearch;have ht:t.mask<=2047:=by rcases Z1.tab.msk with z|z|z|z|z<;>omega
 refine rH (knd:=knd) hu Z1.at_ Z1.dat Z1.tab Z1.tup hx (λl Q hl h=>xB hx l (λy hy=>?_) h) 100000 G `j `a (by unfold J8 at g1;omega) g1 g2 g3 ?_ ?_
 ·obtain⟨e,he,rfl⟩:=hl y hy;obtain⟨i,hi,rfl⟩:=JP.mp he;obtain⟨k,b,q1,q2,q3,q4⟩:=Z1.tup.at_ i es.toList[i] (GB hi);exact⟨k,b,q2,q3⟩
 ·rintro ⟨k,i,_,_,hq⟩ r hr;exact Gv (h1<|H9 hq)
 ·intro hall;have nin:kx∉ks:=λhm=>by
   obtain⟨i,hi,e⟩:=JP.mp hm;have hi':i<`ad:=by have:=Z1.tup.len;simp at this;omega
   have hq:0 ks[i]? kx:=by rw[GB hi,e]
   obtain⟨k,q1,q2⟩:=mem i hi' hq;exact hall k i q1 q2 hi' hq
  refine Gn (Ji Z1.at_ Z1.dat Z1.tab.fits ?_);dsimp only;have jle:(48 G<|t.probeStart<|109 kx).j<=t.mask:=AR (m:=t.mask) (h:=109 kx) G;obtain⟨p1,p2,p3⟩:=Z1.tab.put g2 jle g3;have led1:(t.put (48 G<|t.probeStart<|109 kx).j).1.led=t.led:=rfl;simp only[Nd];generalize hP:t.put (itM t.mask G<|t.probeStart<|tupleKeyHash knd kx).j=P at*
  obtain⟨t1,p⟩:=P;dsimp only at p1 p2 p3 led1;have hp:p<=`ad:=by simpa using p1
  have il:=lW es p (109 kx,GZ x);have T1:Tp t1 ((IY es p (109 kx,GZ x)).toList.map (·.1)):=by
   rw[il,PR,Hm,List.map_take,List.map_drop];exact p3
  have U1:TupsOf knd `i (IY es p (109 kx,GZ x)).toList (ks.take p++kx::ks.drop p):=by
   have hlen:=Z1.tup.len;have hp2:p<=ks.length:=by simp at hlen;omega
   rw[il];refine⟨by simp[hlen],λi e he=>?_⟩;have l1:(es.toList.take p).length=p:=by simp;omega
   have l2:(ks.take p).length=p:=by simp;omega
   by_cases z:i<p
   ·rw[Hr `b,HW z]at he;obtain⟨k,b,q⟩:=Z1.tup.at_ i e he;exact⟨k,b,by rw[Hr `b,HW z];exact q.1,q.2⟩
   ·rw[He `b,l1]at he;rw[He `b,l2];by_cases y:i=p
    ·rw[y,LN,Js]at he ⊢;cases he;exact⟨kx,x,`a,`a,hx,`a⟩
    ·rw[show i- p=(i-p-1)+1 by omega,IZ,Iy]at he ⊢;exact Z1.tup.at_ _ e he
  have pk:(ks.take p++kx::ks.drop p).Perm (kx::ks):=Px.trans (.cons kx<|by rw[NQ]);have nd1:(ks.take p++kx::ks.drop p).Nodup:=pk.nodup_iff.mpr (Io.mpr ⟨nin,Z1.nd⟩);have room:=Z1.tab.room;have pl1:1 t1.plain:=by have:=Z1.pl;rw[<-this];have e:=congrArg (λz:ID×Nat=>z.1.plain) hP;exact e.symm
  rw[Z3 pl1];refine Gn (xC hI hx ?_);exact xD Z1.at_ Z1.ex Z1.dat T1 U1 nd1 (led1.trans Z1.led) pl1 (gk es hp _) `b `b (by rw[p2];simpa using room) λh' ks' o' es' ep' t' a1 a2 a3 a4=>h2 nin h' ks' o' es' ep' t' a1 a2 (a3.trans pk) (a4.trans (by rw[il];exact Px.trans (.cons _<|by rw[NQ])))
end
end Wb
namespace Wb
open PySem PySem.W PySem.Calls PyProof.Rows
theorem sl_next:Slot "set_iterator" "__next__" "set_iterator.__next__":=
 .of (owner:="set_iterator") (n:="__next__") (by rw[PU,NR];kernel_rfl) ⋯ ⋯ ⋯ (by first|exact .inl ⋯|exact .inr ⋯) (by rw[Oh];kernel_rfl)
theorem tM:Slot "set_iterator" "__iter__" "set_iterator.__iter__":=
 .of (owner:="set_iterator") (n:="__iter__") (by rw[PU,NR];kernel_rfl) ⋯ ⋯ ⋯ (by first|exact .inl ⋯|exact .inr ⋯) (by rw[Oh];kernel_rfl)
theorem tN:entryFor table "set_iterator.__next__"=some J4.«set_iterator.__next__»:=entryFor_of_tree (by kernel_rfl)
theorem zD:entryFor table "set_iterator.__iter__"=some J4.«dict_keyiterator.__iter__»:=Qb (id':="dict_keyiterator.__iter__") (by kernel_rfl) `a ⋯ (by kernel_rfl)
theorem BO:entryFor table "set.__iter__"=some J4.«frozenset.__iter__»:=Qb (id':="frozenset.__iter__") (by kernel_rfl) `a ⋯ (by kernel_rfl)
theorem tO:0 (Manifest.owners.lookup<|String.ofList ['r','o','t','a','r','e','t','i','_','t','e','s'].reverse) Manifest.sig_set_iterator:=by kernel_rfl
theorem tP(a:Gu):argsOk "set_iterator.__next__" ⟨[a],[]⟩:=by
 unfold argsOk;rw[NH (id:="set_iterator.__next__") (n:=['_','_','t','x','e','n','_','_']) (o:=['r','o','t','a','r','e','t','i','_','t','e','s']) (by kernel_rfl) tO];kernel_rfl
theorem zE(a:Gu):argsOk "set_iterator.__iter__" ⟨[a],[]⟩:=by
 unfold argsOk;rw[NH (id:="set_iterator.__iter__") (n:=['_','_','r','e','t','i','_','_']) (o:=['r','o','t','a','r','e','t','i','_','t','e','s']) (by kernel_rfl) tO];kernel_rfl
theorem lX{S:Type}:∀(l:List S)(i:Nat)(h:i<l.length),(l[i]::l.eraseIdx i).Perm l
 |a::l,0,_=>`s
 |a::l,i+1,h=>by
  have h2:i<`ag:=`bL
  exact(List.Perm.swap a l[i]<|l.eraseIdx i).trans (.cons a<|lX l i h2)
theorem nO{S:Type}(next:Nat->Nat):∀(fuel k:Nat)(left:List S)(out:Array S),fuel=left.length->(Pc next fuel k left out).toList.Perm (out.toList++left)
 |0,k,left,out,h=>by
  have:left=[]:=Ks.mp h.symm;subst this;unfold Pc;simp
 |fuel+1,k,left,out,h=>by
  unfold Pc;have hl:next k%left.length<left.length:=MF _ `b
  rw[GB hl];dsimp only;refine(nO next fuel (k+1) _ _ (by rw[Oi];simp[hl];omega)).trans ?_;rw[JS,Hj];refine IW _ ?_;exact lX left _ hl
def fc(w:GW)(a:Addr)(ep:Nat)(es:Array (`c×Gu)):Array (`c×Gu):=if 1 (w.params.followText "set-order") then pickOrder (w.params.setOrder a ep) es else es
theorem jG(w:GW)(a:Addr)(ep:Nat)(es:Array (`c×Gu)):(fc w a ep es).toList.Perm es.toList:=by
 unfold fc;split
 ·have:=nO (w.params.setOrder a ep) `ad 0 es.toList #[] `g;simp only[Kl]at this;exact this
 ·exact `s
def d5(w:GW)(t:ID)(i:Nat):Int:=if 1 (w.params.followText "set-order") then 0 else if i=0 then 0 else(t.place.getD (i-1) 0:Int)+1
theorem rJ{w:GW}{t:ID}{hs:`P}(T:Tp t hs)(hb:¬w.params.followText "set-order"=true){i:Nat}(hi:i<=t.place.size):IQ t.place (d5 w t i).toNat=i:=by
 obtain⟨b0,b1,b2⟩:=jD T.up (d5 w t i).toNat;generalize hB:IQ t.place (d5 w t i).toNat=b at*
 have e:(d5 w t i).toNat=if i=0 then 0 else 122 (i-1)+1:=by
  unfold d5;rw[Z4 hb];split<;>omega
 rw[e]at b1 b2;by_cases z:i=0
 ·rw[Z3 z]at b1;by_cases y:b=0;·omega
  ·have:=b1 0 `b;omega
 ·rw[Z4 z]at b1 b2;by_cases y:b<i
  ·have:=b2 (i-1) `b `b;omega
  ·by_cases y2:i<b
   ·have h1:=b1 i y2;have h2:=T.up (i-1) i `b `b;omega
   ·omega
def lY(w:GW)(a:Addr)(t:ID)(n ep i:Nat):Obj:={cls:=.type "set_iterator",dict:=none,data:=.fields #[.int (d5 w t i) 0,.int i 0,`ai,.int n 0,.int ep 0],slots:= #[]}
section
variable{prog:GJ}{w:GW}{A:Hk}{E:`A}{s:Gx}{a I:Addr}{o:Obj}{es:Array (`c×Gu)}{ep:Nat}{t:ID}
theorem qo{i:Nat}{Q:68 (Option<|Gu×Nat)}(ho:22 a o)(hd:o.data=.set es ep t)(T:Tp t (es.toList.map (·.1)))(hf:1 (t.fits `ad))(hl:t.led= !w.params.followText "set-order")(hp:1 t.plain)(hi:i<=`ad)
  (h:Q (((fc w a ep es)[i]?).map λe=>(e.2,(d5 w t<|i+1).toNat)) s):85 w A (setNext a (d5 w t i).toNat i ep) Q E:=by
 have hsz:t.place.size=`ad:=by have:=T.sz;simpa using this
 unfold setNext;refine Gn (Ji ho hd hf ?_);dsimp only;unfold setsByText;refine Gn (Gn<|Kv `B);show 85 w A (if 1 (w.params.followText "set-order") then _ else _) Q E;by_cases z:1 (w.params.followText "set-order")
 ·rw[Z3 z,Z4 `g];unfold setWalk;refine Gn (Gn<|Ji ho hd hf ?_);dsimp only;unfold setsByText;refine Gn (Gn<|Kv `B);show 85 w A (if 1 (w.params.followText "set-order") then _ else _) _ E;rw[Z3 z];refine Gn (Kv<|Gv `B);unfold fc d5 at h;rw[Z3 z,Z3 z]at h;unfold d5;rw[Z3 z];exact h
 ·rw[Z4 z];refine Mm (λhab=>absurd hab (show ¬(1 (!t.plain&&decide (`ad>1))) by rw[hp];simp)) λ_=>?_;show wpAny _ _ ((if 1 (!t.led&& !es.isEmpty) then unsupported _ else pure ())>>=_) _ _ _;rw[Z4 (by rw[hl];simp[z])];refine Gn `B;rw[rJ T z `b];unfold fc at h;rw[Z4 z]at h;by_cases y:i<`ad
  ·have y2:i<t.place.size:=`b
   rw[Hb y]at h ⊢;rw[Hb y2];have e:(d5 w t<|i+1).toNat=t.place[i]+1:=by
    unfold d5;rw[Z4 z,`by,show i+1-1=i by omega];have:122 i=t.place[i]:=by simp[JU,y2]
    omega
   simp only[KL,e]at h;exact Gv h
  ·rw[KG `b]at h ⊢;exact Gv h
end
section
variable{prog:GJ}{w:GW}{A:Hk}{E:`A}{s:Gx}{a I:Addr}{o:Obj}{es:Array (`c×Gu)}{ep:Nat}{t:ID}
theorem lZ{n i:Nat}(h:22 I (lY w a t n ep i)):s.TypeIs (.ref I) "set_iterator":=8 h `a
structure SetR(w:GW)(o:Obj)(es:Array (`c×Gu))(ep:Nat)(t:ID):Prop where
 ex:o.ExactSet
 dat:o.data=.set es ep t
 tab:Tb t (es.toList.map (·.1))
 led:t.led= !w.params.followText "set-order"
 pl:1 t.plain
theorem xE{Q:`A}(R:SetR w o es ep t)(ho:22 a o)(h:Q (`bY) {s with heap:=s.heap.push (lY w a t es.size ep 0)}):85 w A (pyIter `ai) Q E:=by
 have hT:s.TypeIs `ai "set":=⟨o,ho,R.ex.1⟩
 refine LO hT PV (Hv PV hT BO ?_<|F.args_set_iter_1 _);unfold J4.«frozenset.__iter__»;refine Gn (m:=R7 _ _) `B;unfold QP;refine Gn (Gn<|Mr ho R.dat R.tab.fits `B);unfold setDrawn;refine Gn (Gn<|Ji ho R.dat R.tab.fits ?_);dsimp only;unfold setsByText;refine Gn (Gn<|Kv<|Gv `B);refine Mm (λhab=>absurd hab (show ¬(1 (!w.params.followText "set-order"&&(!t.plain&&decide (`ad>1)))) by rw[R.pl];simp)) λ_=>?_;refine Gn `B;refine Gn (wpAny_setEpoch_of ho R.dat R.tab.fits ?_);have e0:d5 w t 0=0:=by unfold d5;split<;>rfl
 refine Gn (HR<|Gv ⟨_,`a,"set_iterator",_,8 (86 _) `a,sl_next.lookup,?_⟩);unfold lY at h;rw[e0]at h;exact h
theorem vg{i:Nat}{Q:68 `M}(R:SetR w o es ep t)(ho:22 a o)(hne:a≠I)(hI:22 I (lY w a t `ad ep i)){e:`c×Gu}(he:0 (fc w a ep es)[i]? e)
  (h:∀h',h'.get? I=some (lY w a t `ad ep<|i+1)->GU I s.heap h'->Q (some e.2) {s with heap:=h'}):85 w A (pyNext<|.ref I) Q E:=by
 have hsz:(fc w a ep es).size=`ad:=by have:=(jG w a ep es).length_eq;simpa using this
 have hi:i<`ad:=by have:=(HZ.mp he).1;omega
 have hT:=lZ hI;unfold pyNext;refine Gn (IU<|Hu (name:=`bQ) hT sl_next<|Hv sl_next hT tN ?_<|tP _)
 unfold J4.«set_iterator.__next__»;refine Gn (m:=slotArgs _ _ _) `B;refine Gn (MH hI `a ?_);dsimp only;refine Gn (Mr ho R.dat R.tab.fits ?_);rw[Z4 `g];show wpAny _ _ (setNext a (d5 w t i).toNat ((i:Int).toNat) ((ep:Int).toNat)>>=_) _ _ _;rw[Ia,Ia];refine Gn (qo ho R.dat R.tab.toTp R.tab.fits R.led R.pl `b ?_);rw[he];dsimp only[KL];refine Gn (Ir hI `a `g ?_);have hI1:=HP (HY (·.setIfInBounds 0 (rawInt ((d5 w t<|i+1).toNat:Int)))) hI `a;refine Gn (Ir hI1 `a `g ?_);have hI2:=HP (HY (·.setIfInBounds 1 (rawInt<|(i:Int)+1))) hI1 `a;refine Gv (8 `a<|Gv<|h _ (hI2.trans ?_)<|(Ik ..).trans (Ik ..));have e1:((d5 w t<|i+1).toNat:Int)=d5 w t (i+1):=by unfold d5;split<;>(try split)<;>omega
 rw[e1];rfl
theorem xF{Q:68 `M}(hh:7 A.handled)(R:SetR w o es ep t)(ho:22 a o)(hne:a≠I)(hI:22 I (lY w a t `ad ep `ad))
  (h:∀h',Jg I s.heap h'->Q none {s with heap:=h'}):85 w A (pyNext<|.ref I) Q E:=by
 have hsz:(fc w a ep es).size=`ad:=by have:=(jG w a ep es).length_eq;simpa using this
 have hT:=lZ hI;unfold pyNext;refine Gn (IU<|Hu (name:=`bQ) hT sl_next<|Hv sl_next hT tN ?_<|tP _)
 unfold J4.«set_iterator.__next__»;refine Gn (m:=slotArgs _ _ _) `B;refine Gn (MH hI `a ?_);dsimp only;refine Gn (Mr ho R.dat R.tab.fits ?_);rw[Z4 `g];show wpAny _ _ (setNext a (d5 w t `ad).toNat ((es.size:Int).toNat) ((ep:Int).toNat)>>=_) _ _ _;rw[Ia,Ia];refine Gn (qo ho R.dat R.tab.toTp R.tab.fits R.led R.pl `b ?_);rw[KG `b];dsimp only[Option.map_none];refine Gn (Ir hI `a `g ?_);show wpAny _ _ (newExc (.type `bD) []>>=_) _ _ _;refine `aN;simp only[newExc,newTuple];refine Gn (HR ?_ (by size_fits));refine Gn (m:=firstArgMember _ _) (MV (a:=Hl) (by first|rfl|(simp only[firstArgMember];rfl)) ?_);refine HR ?_ (by size_fits);simp only[raiseNew];refine Gn (N6 ?_);rw[show 7 A.in1.handled from hh];refine Gn (Gv<|Ob ?_);refine Gn (IG (T:=`bD) (b:=true) (8 (86 _) `a) Jl ?_);exact Gv (h _<|((Ik ..).extBut.push _).push _)
theorem Walks.setOf(hh:7 A.handled)(I a:Addr)(hne:a≠I)(R:SetR w o es ep t):
  Walks prog w A I [I,a] [I] es.size (λi v=>∃e,0 (fc w a ep es)[i]? e/\v=e.2) (λi h=>35 I (lY w a t `ad ep i)/\35 a o) where
 sub:=λb hb=>by simp at hb;simp[hb]
 frame:=λ_ _ _ st hk=>⟨hk I `g _ st.1,hk a `g _ st.2⟩
 item:=λi s Q E hi st hQ=>by
  have hsz:(fc w a ep es).size=`ad:=by have:=(jG w a ep es).length_eq;simpa using this
  have he:0 (fc w a ep es)[i]? (fc w a ep es)[i]:=Hb `b;refine vg R st.2 hne st.1 he λh' hI' hs'=>?_;exact hQ _ h' s.toks (8 he `a) ⟨hI',hs'.extBut a _ hne st.2⟩ λb o hb e=>hs'.extBut b o (λh=>hb<|by simp[h]) e
 done:=λs Q E st hQ=>xF hh R st.2 hne st.1 λh' he'=>hQ h' s.toks λb o hb e=>he' b o (λh=>hb<|by simp[h]) e
 self:=λi s Q E st hQ=>by
  refine LO (lZ st.1) tM (Hv tM (lZ st.1) zD ?_<|zE _);show 57 _ _ (ret<|.ref I) _ _;exact Gv ⟨_,`a,"set_iterator",_,lZ st.1,sl_next.lookup,hQ⟩
theorem xG{Q:68 Bool}(hT:s.TypeIs `ai "set")(h:Q `K s):85 w A (Mt `ai) Q E:=by
 unfold Mt;refine Gn (Lq hT F.slot_set_len.lookup ?_);generalize hid:("set.__len__" :String)=id0
 wp_delta
 rw[show 0 (splitId id0) ("set","__len__")from by subst hid;decide +kernel];subst hid;refine Gn (IG (T:="set") (b:=true) hT (by rw[Oh];kernel_rfl) ?_);refine Mm (λhab=>absurd hab ⋯) λ_=>?_;refine Mm (λ_=>?_) (λhab=>absurd ⋯ hab);refine Gn (wpAny_typeOf hT ?_);exact Gv h
theorem zF(R:SetR w o es ep t):KdlSrc prog w "set" a a es.size (λi v=>∃e,0 (fc w a ep es)[i]? e/\v=e.2) (λh=>35 a o) where
 type:=λ_ hm=>⟨o,hm,R.ex.1⟩
 there:=λ_ hm=>⟨GG hm,GG hm⟩
 keep:=λ_ _ hm hk=>hk a `X o hm
 notList:=`ac
 notTuple:=`ac
 hint:=λ_ _ _ _ hm hq=>xG ⟨o,hm,R.ex.1⟩ hq
 iter:=λ_ _ hh hm=>⟨_,_,λ_ _ hq=>xE R hm hq,Walks.setOf hh _ a (GY<|GG hm) R,⟨86 _,17 hm⟩⟩
end
def PairAt(h:Heap)(v:Gu)(k:`m):Prop:=∃b o t1 t2 n,2 v `aS (35 b o) (o.cls=`bo/\o.data=.seq #[.int k.1 t1,.int k.2 t2] n)
def pq(a b:`m):Bool:=decide (a.1<b.1)||(decide (a.1=b.1)&&decide (a.2<b.2))
theorem l4{a b:`m}:1 (pq a b)↔a.1<b.1\/a.1=b.1/\a.2<b.2:=by unfold pq;simp
theorem BP{a b c:`m}(h:1 (pq a b))(h':1 (pq b c)):1 (pq a c):=by rw[l4]at *;omega
theorem zG{a b:`m}(hn:a≠b)(h:12 (pq a b)):1 (pq b a):=by
 have h2:¬pq a b=true:=by rw[h];decide
 rw[l4]at h2;rw[l4];by_cases z:a.1=b.1
 ·have:a.2≠b.2:=λe=>hn (ME z e);omega
 ·omega
theorem tQ(a:`m):12 (pq a a):=by unfold pq;simp
structure PairsAt(h:Heap)(vs:`aq)(ks:`ar):Prop where
 len:`aK=ks.length
 at_:∀(i:Nat)(v:Gu),0 vs[i]? v->∃k,0 ks[i]? k/\PairAt h v k
section
variable{prog:GJ}{w:GW}{A:Hk}{E:`A}{s:Gx}
theorem zH{x y:Gu}{k l:`m}{Q:68 Bool}(hx:PairAt `i x k)(hy:PairAt `i y l)(h:Q (pq k l) s):85 w A (keyLt' (tuples' `o) x y) Q E:=by
 obtain⟨bx,ox,t1,t2,n,rfl,hx,_,dx⟩:=hx;obtain⟨by_,oy,u1,u2,m,rfl,hy,_,dy⟩:=hy;refine kat_lt hx dx hy dy (kat_cons<|Nc<|kat_go (λe=>kat_yes<|kat_cons<|Nc<|kat_go (λe'=>kat_yes<|kat_nil ?_) λe'=>kat_no<|kat_one _ _<|lt_int ?_) λe=>kat_no<|oneLt_int ?_)
 ·have e1:k.1=l.1:=`bT
  have e2:k.2=l.2:=by simpa using e'
  have:k=l:=ME e1 e2;subst this;rw[tQ]at h;simpa using h
 ·have e1:k.1=l.1:=`bT
  show Q (decide<|k.2<l.2) s;unfold pq at h;simpa [e1] using h
 ·have e1:¬k.1=l.1:=`bT
  unfold pq at h;simpa [e1] using h
theorem tR{h:Heap}:∀{vs:List Gu}{ks:List (Int×Int)},PairsAt h vs ks->∃fs,2 fs.length `aK (KatTups h vs fs) (∀f∈fs,∃i t,f=Nb i t)
 | [],ks,P=>⟨[],rfl,trivial,λf hf=>by cases hf⟩
 |v::vs,ks,P=>by
  obtain⟨k,q1,b,o,t1,t2,n,rfl,q3,q4,q5⟩:=P.at_ 0 v `a;obtain⟨fs,l1,l2,l3⟩:=tR (h:=h) (vs:=vs) (ks:=ks.drop 1) ⟨by have:=P.len;simp at this ⊢;omega,λi v e=>by
   obtain⟨k,a1,a2⟩:=P.at_ (i+1) v `bT;exact⟨k,by rw[Iy,Nat.add_comm];exact a1,a2⟩⟩
  refine⟨.int k.1 t1::fs,by simp[l1],.cons q3 q4 q5 `g l2,λf hf=>?_⟩;rcases GI.mp hf with rfl|hf
  ·exact 8 _ `a
  ·exact l3 f hf
end
end Wb
namespace Wb
open PySem PyProof.Rows
abbrev at'(xs:`F)(i:Nat):GR:=xs.getD i (Hl,Hl)
structure LtOk(M:Mv)(A:Hk)(E:`A)(s:Gx)(κ:Mf)(U:49 GR)(L:GR->GR->Bool):Prop where
 lt:∀(x y:GR)(st:Jf)(Q:Option Bool->Jf->Prop),20 (U x) (U y) (kindOf st=κ) (Q (some<|L x y) st) (wpS M A E s (lt' x y) Q st)
 tr:∀x y z,34 (U x) (U y) (U z) (1<|L x y) (1<|L y z) (1<|L x z)
 tot:∀x y,20 (U x) (U y) (x≠y) (12<|L x y) (1<|L y x)
 irr:∀x,12 (L x x)
structure SB(κ:Mf)(a0:List GR)(st:Jf):Prop where
 kind:kindOf st=κ
 failed:7 (failedOf st)
 perm:(`v).toList.Perm a0
def Sr(L:GR->GR->Bool)(xs:`F)(a b:Nat):Prop:=∀i j,a<=i->i<j->j<b->37 xs i xs j
theorem eQ{xs:`F}{i:Nat}(h:i<`aj):0 xs[i]? (51 xs):=by simp[JU,h]
theorem gC{xs:`F}{i:Nat}(h:i<`aj):at' xs i=xs.toList[i]'(`bL):=by simp[JU,h]
section
variable{M:Mv}{A:Hk}{E:`A}{s:Gx}{κ:Mf}{U:49 GR}{L:GR->GR->Bool}{a0:List GR}{st:Jf}
theorem SB.size(B:SB κ a0 st):(`v).size=`aO:=by rw[<-HC];exact B.perm.length_eq
theorem SB.u(B:SB κ a0 st)(hU:∀x∈a0,U x){i:Nat}(hi:i<`aO):U (51 `v):=by
 have h:=B.size;rw[gC `b];exact hU _ (B.perm.mem_iff.mp<|J9 _)
theorem Du{xs:`F}(nd:xs.toList.Nodup){i j:Nat}(hi:i<`aj)(hj:j<`aj)(hij:i≠j):51 xs≠at' xs j:=by
 rw[gC hi,gC hj];have pw:=JC.mp (I9.mp nd);rcases Nat.lt_or_gt_of_ne hij with z|z
 ·exact pw i j _ _ z
 ·exact λe=>pw j i _ _ z e.symm
theorem SB.ne(B:SB κ a0 st)(nd:a0.Nodup){i j:Nat}(hi:i<`aO)(hj:j<`aO)(hij:i≠j):51 `v≠at' `v j:=by
 have h:=B.size;exact Du (B.perm.nodup_iff.mpr nd) `b `b hij
theorem SB.set(B:SB κ a0 st){xs:`F}(h:xs.Perm `v):SB κ a0 (setArr st xs):=⟨B.kind,B.failed,(Array.perm_iff_toList_perm.mp h).trans B.perm⟩
theorem bR{arr:`F}{i:Nat}{Q:11 GR Jf}(hi:i<arr.size)(h:Q (51 arr) st):wpS M A E s (elem' arr i) Q st:=by
 rw[elem'_eq,eQ hi];exact GQ h
theorem jH(O:LtOk M A E s κ U L)(hU:∀x∈a0,U x)(B:SB κ a0 st){i j:Nat}{Q:11 (Option Bool) Jf}(hi:i<`aO)(hj:j<`aO)(h:Q (some<|L (at' `v i)<|at' `v j) st):wpS M A E s (ltAt' i j) Q st:=by
 have hs:=B.size;rw[ltAt'_eq];refine GH (LP<|GH<|130<|GH<|130 ?_);exact O.lt _ _ _ _ (B.u hU hi) (B.u hU hj) B.kind h
theorem vh{xs:`F}{src d:Nat}(hs:src<`aj)(hd:d<=src)(k:Nat):at' (bubble xs src d) k=if k=src-d then at' xs src else if src-d<k/\k<=src then at' xs (k-1)else at' xs k:=by
 simp only[at',HS];rw[getElem?_bubble hs _ hd];split;·rfl
 ·split<;>rfl
theorem vi{xs:`F}{i j:Nat}(hj:j<=`aj)(k:Nat):at' (mirror xs i j<|(j-i)/2) k=if i<=k/\k<j then at' xs (i+j-1-k)else at' xs k:=by
 simp only[at',HS];rw[getElem?_mirror_all hj];split<;>rfl
theorem zI(O:LtOk M A E s κ U L)(hU:∀x∈a0,U x)(nd:a0.Nodup){lo n ok:Nat}{Q:11 Bool Jf}(hn:lo+n<=`aO)(hok:ok<=n)(B:SB κ a0 st)(hs:Sr L `v lo (lo+ok))
  (h:∀st',20 (SB κ a0 st') (`bf=`bz) (Sr L `W lo<|lo+n) (∀i,i<lo\/lo+n<=i->51 `W=51 `v) (Q `o st')):wpS M A E s (binarySort' lo n ok) Q st:=by
 rw[binarySort'_eq];refine GH (Kw (IB (I:=λk c st'=>2 c (none,()) (SB κ a0 st') (2 `bf `bz (Sr L `W lo<|lo+min k n)<|∀i,i<lo\/lo+n<=i->51 `W=51 `v))
  (Q:=λc st'=>2 c (none,()) (SB κ a0 st') (2 `bf `bz (Sr L `W lo<|lo+n)<|∀i,i<lo\/lo+n<=i->51 `W=51 `v)) ?step ?fin ?init) ?post)
 case post=>
  rintro c st' ⟨rfl,h1,h2,h3,h4⟩;exact GQ (h st' h1 h2 h3 h4)
 case init=>
  refine⟨`a,B,`a,λi j h1 h2 h3=>?_,λi _=>`a⟩;exact hs i j h1 h2 `b
 case fin=>
  rintro c st' ⟨hc,h1,h2,h3,h4⟩;rw[show min (max (max ok 1) n) n=n by omega]at h3;exact⟨hc,h1,h2,h3,h4⟩
 case step=>
  rintro k c st' hak hkn ⟨rfl,B',hp,hs',hout⟩;rw[show min k n=k by omega]at hs';have hsz:=B'.size;refine GH (Kw (IB (I:=λx c st''=>st''=st'/\∃l r,25 c (none,l,r) (l<=r) (r<=k) (r-l<=k-x) ((∀i,i<l->37 `W (lo+i) `W (lo+k))/\(∀i,r<=i->i<k->37 `W (lo+k) `W (lo+i))))
   (Q:=λc st''=>st''=st'/\∃l r,2 c (none,l,r) (l<=k) ((∀i,i<l->37 `W (lo+i) `W (lo+k))/\(∀i,l<=i->i<k->37 `W (lo+k) `W (lo+i)))) ?istep ?ifin ?iinit) ?ipost)
  case iinit=>exact⟨`a,0,k,`a,`b,`b,`b,λi hi=>`b,λi h1 h2=>`b⟩
  case ifin=>
   rintro c st'' ⟨rfl,l,r,rfl,hlr,hrk,hm,hlo,hhi⟩;have:l=r:=`b
   subst this;exact⟨`a,l,l,`a,hrk,hlo,hhi⟩
  case istep=>
   rintro x c st'' _ hxk ⟨rfl,l,r,rfl,hlr,hrk,hm,hlo,hhi⟩;dsimp only;by_cases hge:l≥r
   ·rw[Z3 hge];have:l=r:=`b
    subst this;exact GQ ⟨`a,l,l,`a,hrk,hlo,hhi⟩
   ·rw[Z4 hge];refine GH (jH O hU B' `b `b ?_);have uu:∀i,i<=k->U (at' (arrOf st'')<|lo+i):=λi hi=>B'.u hU `b;cases hless:L (at' (arrOf st'')<|lo+k) (at' (arrOf st'')<|lo+(l+r)/2)with
    |true=>
     simp only[if_true];refine GQ ⟨rfl,l,(l+r)/2,rfl,`b,`b,`b,hlo,λi h1 h2=>?_⟩;by_cases y:i=(l+r)/2;·rw[y];exact hless
     ·exact O.tr _ _ _ `aw `aw `aw hless (hs' _ _ `b `b `b)
    |false=>
     simp only[Hg,if_false];have q:=O.tot _ _ `aw `aw (B'.ne nd `b `b `b) hless;refine GQ ⟨rfl,(l+r)/2+1,r,rfl,`b,`b,`b,λi h1=>?_,hhi⟩;by_cases y:i=(l+r)/2;·rw[y];exact q
     ·exact O.tr _ _ _ `aw `aw `aw (hs' _ _ `b `b `b) q
  case ipost=>
   rintro c st'' ⟨rfl,l,r,rfl,hlk,hlo,hhi⟩;show wpS _ _ _ _ (do moveDown' (lo+k) (lo+l);pure (HB (none,()))) _ _;rw[moveDown'_eq];have e1:∀i,at' (bubble (arrOf st'') (lo+k)<|lo+k-(lo+l)) i=if i=lo+l then at' (arrOf st'') (lo+k)else if lo+l<i/\i<=lo+k then at' (arrOf st'') (i-1)else 51 (arrOf st''):=λi=>by
    rw[vh `b `b,show lo+k-(lo+k-(lo+l))=lo+l by omega]
   refine GH (Jp<|GQ ⟨`a,B'.set<|bubble_perm _ _ _,hp,?_,λi hi=>?_⟩)
   ·rw[show min (k+1) n=k+1 by omega];intro i j h1 h2 h3;show 37 (bubble (arrOf st'') (lo+k)<|lo+k-(lo+l)) i (bubble (arrOf st'') (lo+k)<|lo+k-(lo+l)) j;rw[e1,e1];have hlo':∀i,lo<=i->i<lo+l->37 (arrOf st'') i (arrOf st'') (lo+k):=λi h1 h2=>by
     have:=hlo (i-lo) `b;rwa [show lo+(i-lo)=i by omega]at this
    have hhi':∀i,lo+l<=i->i<lo+k->37 (arrOf st'') (lo+k) (arrOf st'') i:=λi h1 h2=>by
     have:=hhi (i-lo) `b `b;rwa [show lo+(i-lo)=i by omega]at this
    repeat' split
    all_goals first
     |(exfalso;omega)
     |exact hlo' _ `b `b
     |exact hhi' _ `b `b
     |exact hs' _ _ `b `b `b
   ·show 51 (bubble (arrOf st'') (lo+k)<|lo+k-(lo+l))=_;rw[e1,`by,`by];exact hout i hi
end
section
variable{M:Mv}{A:Hk}{E:`A}{s:Gx}{κ:Mf}{U:49 GR}{L:GR->GR->Bool}{a0:List GR}{st:Jf}
theorem Dv(O:LtOk M A E s κ U L)(hU:∀x∈a0,U x)(nd:a0.Nodup){lo nrem n0:Nat}{Q:11 (Option `ae×Nat) Jf}(hn:lo+nrem<=`aO)(h1:1<=n0)(h2:n0<=nrem)(B:SB κ a0 st)(hs:Sr L `v lo (lo+n0))
  (h:∀n,20 (n0<=n) (n<=nrem) (Sr L `v lo<|lo+n) (n=nrem\/37 `v (lo+n) `v (lo+n-1)) (Q (none,n) st)):
  wpS M A E s (forIn [n0:nrem] ((none:Option `ae),n0) λ_ c=>do
   let some smaller <-ltAt' (lo+c.2) (lo+c.2-1)|pure (Hs (some `j,c.2))
   if 1 smaller then pure (Hs (none,c.2))else pure (HB (none,c.2+1))) Q st:=by
 refine IB (I:=λx c st'=>25 st' st (c=(none,x)) (n0<=x) (x<=nrem) (Sr L `v lo<|lo+x)) ?step ?fin ⟨`a,`a,`w,h2,hs⟩
 case fin=>
  rintro c st' ⟨rfl,rfl,q1,q2,q3⟩;rw[show max n0 nrem=nrem by omega]at q3 ⊢;exact h nrem h2 `w q3 `X
 case step=>
  rintro x c st' hx1 hx2 ⟨rfl,rfl,q1,q2,q3⟩;dsimp only;have uu:∀i,i<`aO->U (51 `W):=λi hi=>B.u hU hi;refine GH (jH O hU B `b `b ?_);cases hless:L (at' (arrOf st')<|lo+x) (at' (arrOf st')<|lo+x-1)with
  |true=>
   dsimp only;rw[`aX];exact GQ (h x q1 q2 q3<|.inr hless)
  |false=>
   dsimp only;rw[`aZ];have q:=O.tot _ _ `aw `aw (B.ne nd `b `b `b) hless;refine GQ ⟨`a,`a,`b,`b,λi j g1 g2 g3=>?_⟩;by_cases z:j<lo+x;·exact q3 i j g1 g2 z
   ·have:j=lo+x:=`b
    subst this;by_cases y:i=lo+x-1;·rw[y];exact q
    ·exact O.tr _ _ _ `aw `aw `aw (q3 i (lo+x-1) g1 `b `b) q
theorem Dw(O:LtOk M A E s κ U L)(hU:∀x∈a0,U x)(nd:a0.Nodup){lo nrem n0:Nat}{Q:11 (Option `ae×Nat×Nat) Jf}(hn:lo+nrem<=`aO)(h1:2<=n0)(h2:n0<=nrem)(B:SB κ a0 st)(hs:∀i j,lo<=i->i<j->j<lo+n0->37 `v j `v i)
  (h:∀n,n0<=n->n<=nrem->(∀i j,lo<=i->i<j->j<lo+n->37 `v j `v i)->Q (none,n,0) st):
  wpS M A E s (forIn [n0:nrem] ((none:Option `ae),n0,0) λ_ c=>do
   let some smaller <-ltAt' (lo+c.2.1) (lo+c.2.1-1)|pure (Hs (some `j,c.2.1,c.2.2))
   if 1 smaller then
    if c.2.2>0 then
     reverseSlice' (lo+c.2.1-(c.2.2+1)) (lo+c.2.1)
     pure (HB (none,c.2.1+1,0))
    else pure (HB (none,c.2.1+1,0))
   else
    let some larger <-ltAt' (lo+c.2.1-1) (lo+c.2.1)|pure (Hs (some `j,c.2.1,c.2.2))
    if 1 larger then pure (Hs (none,c.2.1,c.2.2))else pure (HB (none,c.2.1+1,c.2.2+1))) Q st:=by
 refine IB (I:=λx c st'=>25 st' st (c=(none,x,0)) (n0<=x) (x<=nrem) (∀i j,lo<=i->i<j->j<lo+x->37 `v j `v i)) ?step ?fin ⟨`a,`a,`w,h2,hs⟩
 case fin=>
  rintro c st' ⟨rfl,rfl,q1,q2,q3⟩;rw[show max n0 nrem=nrem by omega]at q3 ⊢;exact h nrem h2 `w q3
 case step=>
  rintro x c st' hx1 hx2 ⟨rfl,rfl,q1,q2,q3⟩;dsimp only;have uu:∀i,i<`aO->U (51 `W):=λi hi=>B.u hU hi;refine GH (jH O hU B `b `b ?_);cases hless:L (at' (arrOf st')<|lo+x) (at' (arrOf st')<|lo+x-1)with
  |true=>
   dsimp only;rw[`aX,`by];refine GQ ⟨`a,`a,`b,`b,λi j g1 g2 g3=>?_⟩;by_cases z:j<lo+x;·exact q3 i j g1 g2 z
   ·have:j=lo+x:=`b
    subst this;by_cases y:i=lo+x-1;·rw[y];exact hless
    ·exact O.tr _ _ _ `aw `aw `aw hless (q3 i (lo+x-1) g1 `b `b)
  |false=>
   dsimp only;rw[`aZ];have q:=O.tot _ _ `aw `aw (B.ne nd `b `b `b) hless;refine GH (jH O hU B `b `b ?_);rw[q];dsimp only;rw[`aX];exact GQ (h x q1 q2 q3)
theorem BQ(O:LtOk M A E s κ U L)(hU:∀x∈a0,U x)(nd:a0.Nodup){lo nrem:Nat}{Q:11 `ae Jf}(hn:lo+nrem<=`aO)(h1:1<=nrem)(B:SB κ a0 st)
  (h:∀n st',20 (1<=n) (n<=nrem) (SB κ a0 st') (`bf=`bz) (Sr L `W lo (lo+n)->(∀i,i<lo\/lo+nrem<=i->51 `W=51 `v)->Q (some n) st')):wpS M A E s (countRun' lo nrem) Q st:=by
 rw[countRun'_eq];refine GH (Dv O hU nd hn `w h1 B (λi j g1 g2 g3=>`b) λn n1 n2 n3 n4=>?_);dsimp only;by_cases z:n=nrem
 ·rw[`bJ];exact GQ (h n st n1 n2 B `a n3 `ah)
 rw[`bl];have n5:37 `v (lo+n) `v (lo+n-1):=n4.resolve_left z;by_cases y:n>1
 ·rw[Z3 y];refine GH (jH O hU B `b `b ?_);rw[n3 lo (lo+n-1) `w `b `b];dsimp only;rw[`aX];exact GQ (h n st n1 n2 B `a n3 `ah)
 rw[Z4 y];have:n=1:=`b
 subst this;refine GH (Nk<|J7<|15 ?_);refine GH (Dw O hU nd hn `w `b B (λi j g1 g2 g3=>?_) λm m1 m2 m3=>?_)
 ·have:i=lo/\j=lo+1:=`b
  rw[this.1,this.2];exact n5
 dsimp only;rw[`by];rw[reverseSlice'_eq];refine GH (Jp ?_);have hsz:=B.size;have e1:∀k,at' (mirror (`v) lo (lo+m)<|(lo+m-lo)/2) k=if lo<=k/\k<lo+m then at' `v (lo+(lo+m)-1-k)else at' `v k:=λk=>vi `b k;have B2:SB κ a0 (setArr st<|mirror (`v) lo (lo+m)<|(lo+m-lo)/2):=B.set (mirror_perm _ _ _ _);refine GH (Dv O hU nd hn `b m2 B2 (λi j g1 g2 g3=>?_) λk k1 k2 k3 k4=>?_)
 ·show 37 (mirror (`v) lo (lo+m)<|(lo+m-lo)/ 2) i (mirror (`v) lo (lo+m)<|(lo+m-lo)/ 2) j;rw[e1,e1,Z3 `b,Z3 `b];exact m3 _ _ `b `b `b
 ·dsimp only;refine GQ (h k _ `b k2 B2 `a k3 λi hi=>?_);show 51 (mirror (`v) lo (lo+m)<|(lo+m-lo)/2)=_;rw[e1,`by]
end
def fq:20 Bool GR `F Nat (Nat->Nat->StateT Jf Sem `ae):=sortPriv%PySem.Builtin.gallop
def AU(left:Bool)(key:GR)(arr:`F)(base i:Nat):StateT Jf Sem (Option Bool):=do
    let x <-elem' arr (`d+i)
    if left then lt' x key else return (<-lt' key x).map (!·)
theorem rK(left:Bool)(key:GR)(arr:`F)(base n hint:Nat):fq left key arr base n hint=(do
 let mut lastofs:=0
 let mut ofs:=1
 let mut lo:=0
 let mut hi:=0
 let some right <-AU left key arr base hint|return none
 if right then
  let maxofs:=n-hint
  for _ in [0:n]do
   if ofs≥maxofs then break
   let some more <-AU left key arr base (hint+ofs)|return none
   if !more then break
   lastofs:=ofs
   ofs:=2*ofs+1
  lo:=hint+lastofs+1
  hi:=hint+min ofs maxofs
 else
  let maxofs:=hint+1
  for _ in [0:n]do
   if ofs≥maxofs then break
   let some found <-AU left key arr base (hint-ofs)|return none
   if found then break
   lastofs:=ofs
   ofs:=2*ofs+1
  lo:=hint+1-min ofs maxofs
  hi:=hint-lastofs
 for _ in [0:n]do
  if lo≥hi then break
  let m:=lo+(hi-lo)/2
  let some more <-AU left key arr base m|return none
  if more then lo:=m+1 else hi:=m
 return some hi):=rfl
section
variable{M:Mv}{A:Hk}{E:`A}{s:Gx}{κ:Mf}{U:49 GR}{L:GR->GR->Bool}{st:Jf}
def B'(L:GR->GR->Bool)(left:Bool)(key:GR)(arr:`F)(base i:Nat):Bool:=if left then L (at' arr<|`d+i) key else !L key (at' arr<|`d+i)
theorem BR(O:LtOk M A E s κ U L){left:Bool}{key:GR}{arr:`F}{base i:Nat}{Q:11 (Option Bool) Jf}(hk:U key)(hu:U (at' arr<|`d+i))(hi:`d+i<arr.size)(kd:kindOf st=κ)(h:Q (some<|B' L left key arr base i) st):wpS M A E s (AU left key arr base i) Q st:=by
 unfold AU;refine GH (bR hi ?_);unfold B' at h;cases left with
 |true=>exact O.lt _ _ _ _ hu hk kd h
 |false=>exact GH (O.lt _ _ _ _ hk hu kd<|GQ h)
theorem eD(O:LtOk M A E s κ U L){left:Bool}{key:GR}{arr:`F}{base n hint:Nat}{Q:11 `ae Jf}(hk:U key)(hu:∀i,i<n->U (at' arr<|`d+i))(hz:`d+n<=arr.size)(hh:hint<n)(kd:kindOf st=κ)
  (mono:∀i j,i<j->j<n->B' L left key arr base j=true->B' L left key arr base i=true)
  (h:∀k,k<=n->(∀i,i<n->(B' L left key arr base i=true↔i<k))->Q (some k) st):wpS M A E s (fq left key arr base n hint) Q st:=by
 rw[rK];have ask:∀i(R:Option Bool->Jf->Prop),i<n->R (some<|B' L left key arr base i) st->wpS M A E s (AU left key arr base i) R st:=λi R hi hR=>BR O hk (hu i hi) `b kd hR;generalize hB:B' L left key arr base=B at*
 have fin:∀lo hi,20 (lo<=hi) (hi<=n) (∀i,i<lo->1 (B i)) (∀i,hi<=i->i<n->12 (B i)) (∀k:Option (Option Nat)×Nat×Nat->StateT Jf Sem (Option Nat),(∀l r,k (none,l,r)=pure (some r))->wpS M A E s (do
   let c <-forIn [0:n] ((none:Option `ae),lo,hi) λ_ c=>do
    if c.2.1≥c.2.2 then pure (Hs (none,c.2.1,c.2.2))else
     let some more <-AU left key arr base (c.2.1+(c.2.2-c.2.1)/2)|pure (Hs (some `j,c.2.1,c.2.2))
     if 1 more then pure (HB (none,c.2.1+(c.2.2-c.2.1)/2+1,c.2.2))else pure (HB (none,c.2.1,c.2.1+(c.2.2-c.2.1)/2))
   k c) Q st):=by
  intro lo hi hlo hhi h1 h2 k hk';refine GH (IB (I:=λx c st'=>st'=st/\∃l r,25 c (none,l,r) (l<=r) (r<=n) (r-l<=n-x) ((∀i,i<l->1 (B i))/\∀i,r<=i->i<n->12 (B i))) ?step ?fin ⟨`a,lo,hi,`a,hlo,hhi,`b,h1,h2⟩)
  case fin=>
   rintro c st' ⟨rfl,l,r,rfl,q1,q2,q3,q4,q5⟩;have:l=r:=`b
   subst this;rw[hk'];refine GQ (h l q2 λi hi=>⟨λz=>?_,q4 i⟩);by_cases y:i<l;·exact y
   ·rw[q5 i `b hi]at z;cases z
  case step=>
   rintro x c st' _ hx ⟨rfl,l,r,rfl,q1,q2,q3,q4,q5⟩;dsimp only;by_cases z:l≥r
   ·rw[Z3 z];have:l=r:=`b
    subst this;refine GQ ?_;show wpS M A E s (k (none,l,l)) Q st';rw[hk'];refine GQ (h l q2 λi hi=>⟨λz=>?_,q4 i⟩);by_cases y:i<l;·exact y
    ·rw[q5 i `b hi]at z;cases z
   ·rw[Z4 z];refine GH (ask _ _ `b ?_);cases hm:B (l+(r-l)/2)with
    |true=>
     dsimp only;rw[`aX];refine GQ ⟨`a,_,_,`a,`b,q2,`b,λi hi=>?_,q5⟩;by_cases y:i=l+(r-l)/2;·rw[y];exact hm
     ·exact mono i _ `b `b hm
    |false=>
     dsimp only;rw[`aZ];refine GQ ⟨`a,_,_,`a,`b,`b,`b,q4,λi h1 h2=>?_⟩;cases e:B i with
     |false=>rfl
     |true=>
      by_cases y:i=l+(r-l)/2;·rw[y]at e;rw[e]at hm;exact hm
      ·rw[mono _ i `b h2 e]at hm;exact hm
 refine GH (ask hint _ hh ?_);cases hr:B hint with
 |true=>
  dsimp only;rw[`aX];refine GH<|Kw (IB (I:=λx c st'=>st'=st/\∃la o,25 c (none,la,o) (la<o) (x<o) (hint+la<n) (1<|B<|hint+la)) (Q:=λc st'=>st'=st/\∃la o,25 c (none,la,o) (la<o) (hint+la<n) (1<|B<|hint+la) (o≥n-hint\/hint+o<n/\12 (B<|hint+o))) ?step ?fin ?init) ?post
  case init=>exact⟨`a,0,1,`a,`b,`b,`b,by simpa using hr⟩
  case fin=>
   rintro c st' ⟨rfl,la,o,rfl,q1,q2,q3,q4⟩;exact⟨`a,la,o,`a,q1,q3,q4,.inl `b⟩
  case step=>
   rintro x c st' _ hx ⟨rfl,la,o,rfl,q1,q2,q3,q4⟩;dsimp only;by_cases z:o≥n-hint
   ·rw[Z3 z];exact GQ ⟨`a,la,o,`a,q1,q3,q4,.inl z⟩
   ·rw[Z4 z];refine GH (ask _ _ `b ?_);cases hm:B (hint+o)with
    |true=>exact GQ ⟨`a,o,2*o+1,`a,`b,`b,`b,hm⟩
    |false=>exact GQ ⟨`a,la,o,`a,q1,q3,q4,.inr ⟨`b,hm⟩⟩
  case post=>
   rintro c st' ⟨rfl,la,o,rfl,q1,q3,q4,q5⟩;dsimp only;have k1:∀i,i<hint+la+1->1 (B i):=λi hi=>by
    by_cases y:i=hint+la;·rw[y];exact q4
    ·exact mono i _ `b q3 q4
   refine fin (hint+la+1) (hint+min o (n-hint)) `b `b k1 (λi h1 h2=>?_) _ `ah;rcases q5 with q5|⟨q5,q6⟩
   ·omega
   ·cases e:B i with
    |false=>rfl
    |true=>
     by_cases y:i=hint+o;·rw[y]at e;rw[e]at q6;exact q6
     ·rw[mono _ i `b h2 e]at q6;exact q6
 |false=>
  dsimp only;rw[`aZ];refine GH<|Kw (IB (I:=λx c st'=>st'=st/\∃la o,25 c (none,la,o) (la<o) (x<o) (la<=hint) (12<|B<|hint-la)) (Q:=λc st'=>st'=st/\∃la o,25 c (none,la,o) (la<o) (la<=hint) (12<|B<|hint-la) (o≥hint+1\/o<=hint/\1 (B<|hint-o))) ?step ?fin ?init) ?post
  case init=>exact⟨`a,0,1,`a,`b,`b,`b,by simpa using hr⟩
  case fin=>
   rintro c st' ⟨rfl,la,o,rfl,q1,q2,q3,q4⟩;exact⟨`a,la,o,`a,q1,q3,q4,.inl `b⟩
  case step=>
   rintro x c st' _ hx ⟨rfl,la,o,rfl,q1,q2,q3,q4⟩;dsimp only;by_cases z:o≥hint+1
   ·rw[Z3 z];exact GQ ⟨`a,la,o,`a,q1,q3,q4,.inl z⟩
   ·rw[Z4 z];refine GH (ask _ _ `b ?_);cases hm:B (hint-o)with
    |true=>exact GQ ⟨`a,la,o,`a,q1,q3,q4,.inr ⟨`b,hm⟩⟩
    |false=>exact GQ ⟨`a,o,2*o+1,`a,`b,`b,`b,hm⟩
  case post=>
   rintro c st' ⟨rfl,la,o,rfl,q1,q3,q4,q5⟩;dsimp only;refine fin (hint+1-min o (hint+1)) (hint-la) `b `b (λi hi=>?_) (λi h1 h2=>?_) _ `ah
   ·rcases q5 with q5 | ⟨q5,q6⟩
    ·omega
    ·by_cases y:i=hint-o;·rw[y];exact q6
     ·exact mono i _ `b `b q6
   ·cases e:B i with
    |false=>rfl
    |true=>
     by_cases y:i=hint-la;·rw[y]at e;rw[e]at q4;exact q4
     ·rw[mono _ i `b h2 e]at q4;exact q4
end
def ext'(xs:`F)(a b:Nat):List GR:=(xs.extract a b).toList
theorem fh(xs:`F)(a b:Nat):ext' xs a b=(xs.toList.drop a).take (b-a):=by unfold ext';rw[Array.toList_extract,List.extract_eq_drop_take]
theorem cR{xs:`F}{a b:Nat}(hb:b<=`aj){x:GR}:x∈ext' xs a b↔∃i,a<=i/\i<b/\x=51 xs:=by
 rw[fh,KU];constructor
 ·rintro ⟨i,hi⟩;have hlt:i<b-a:=by
   have:=(GA.mp hi).1;simp at this;omega
  rw[HW hlt,Iy,GP,eQ `b]at hi;cases hi;exact⟨a+i,`b,`b,`a⟩
 ·rintro ⟨i,h1,h2,rfl⟩;refine⟨i-a,?_⟩;rw[HW `b,Iy,GP,show a+(i-a)=i by omega,eQ `b]
theorem iJ{L:GR->GR->Bool}{xs:`F}{a b lo hi:Nat}(h:Sr L xs lo hi)(ha:lo<=a)(hb:b<=hi)(hs:hi<=`aj):(ext' xs a b).Pairwise (λx y=>1<|L x y):=by
 rw[fh,JC];intro i j hi' hj hij;have hj':j<b-a:=by simp at hj;omega
 have e:∀k,k<b-a->(h':k<((xs.toList.drop a).take<|b-a).length)->((xs.toList.drop a).take<|b-a)[k]=at' xs (a+k):=λk hk h'=>by
  have:=GB h';rw[HW hk,Iy,GP,eQ `b]at this;exact(Ha this).symm
 rw[e i `b,e j hj'];exact h _ _ `b `b `b
theorem gR{xs:`F}{a b:Nat}(hb:b<`aj)(hab:a<=b):ext' xs a (b+1)=ext' xs a b++[at' xs b]:=by
 rw[fh,fh,show b+1-a=(b-a)+1 by omega,List.take_succ,Iy,GP,show a+(b-a)=b by omega,eQ hb];rfl
theorem eR{xs:`F}{a b c:Nat}(h1:a<=b)(h2:b<=c):ext' xs a c=ext' xs a b++ext' xs b c:=by
 rw[fh,fh,fh,show c-a=(b-a)+(c-b) by omega,List.take_add,Qa,show a+(b-a)=b by omega]
theorem jI(xs:`F):ext' xs 0 `aj=xs.toList:=by rw[fh,Mz,Nat.sub_zero,<-HC,List.take_length]
theorem ft(xs:`F)(a:Nat):ext' xs a a=[]:=by rw[fh];simp
structure JL(L:GR->GR->Bool)(a b out:`F)(ia ib:Nat):Prop where
 pm:out.toList.Perm (ext' a 0 ia++ext' b 0 ib)
 so:out.toList.Pairwise (λx y=>1<|L x y)
 lo:∀x∈out.toList,(∀i,ia<=i->i<`p->1 (L x<|51 a))/\∀j,ib<=j->j<`u->1 (L x<|at' b j)
section
variable{L:GR->GR->Bool}{a b out:`F}{ia ib:Nat}
theorem JL.takeA(J:JL L a b out ia ib)(sa:Sr L a 0 `p){k:Nat}(hk:ia+k<=`p)(h:∀i,ia<=i->i<ia+k->∀j,ib<=j->j<`u->37 a i b j){out':`F}(ho:out'.toList=out.toList++ext' a ia (ia+k)):JL L a b out' (ia+k) ib:=by
 refine⟨?_,?_,`bG⟩
 ·rw[ho,eR (xs:=a) (Hq ia) (HU ia k),Hj];refine(IK _ J.pm).trans ?_;rw[Hj];exact IW _ Kg
 ·rw[ho,Iu];refine⟨J.so,iJ sa (Hq _) `b `w,λx hx y hy=>?_⟩;obtain⟨i,h1,h2,rfl⟩:=(cR `b).mp hy;exact(J.lo x hx).1 i h1 `b
 ·rw[ho]at hx;rcases HA.mp hx with hx|hx
  ·exact⟨λi h1 h2=>(J.lo x hx).1 i `b h2,(J.lo x hx).2⟩
  ·obtain⟨i,h1,h2,rfl⟩:=(cR `b).mp hx;exact⟨λi' h3 h4=>sa i i' `b `b h4,h i h1 h2⟩
theorem JL.takeB(J:JL L a b out ia ib)(sb:Sr L b 0 `u){k:Nat}(hk:ib+k<=`u)(h:∀j,ib<=j->j<ib+k->∀i,ia<=i->i<`p->37 b j a i){out':`F}(ho:out'.toList=out.toList++ext' b ib (ib+k)):JL L a b out' ia (ib+k):=by
 refine⟨?_,?_,`bG⟩
 ·rw[ho,eR (xs:=b) (Hq ib) (HU ib k),<-Hj];exact IK _ J.pm
 ·rw[ho,Iu];refine⟨J.so,iJ sb (Hq _) `b `w,λx hx y hy=>?_⟩;obtain⟨i,h1,h2,rfl⟩:=(cR `b).mp hy;exact(J.lo x hx).2 i h1 `b
 ·rw[ho]at hx;rcases HA.mp hx with hx|hx
  ·exact⟨(J.lo x hx).1,λi h1 h2=>(J.lo x hx).2 i `b h2⟩
  ·obtain⟨i,h1,h2,rfl⟩:=(cR `b).mp hx;exact⟨h i h1 h2,λi' h3 h4=>sb i i' `b `b h4⟩
theorem JL.fin(J:JL L a b out ia ib)(sa:Sr L a 0 `p)(sb:Sr L b 0 `u)(ha:ia<=`p)(hb:ib<=`u)(h:∀j,ib<=j->j<`u->∀i,ia<=i->i<`p->37 b j a i){r:List GR}(hr:r=out.toList++ext' b ib `u++ext' a ia `p):
  r.Perm (a.toList++b.toList)/\r.Pairwise (λx y=>1<|L x y):=by
 subst hr;constructor
 ·have e1:a.toList=ext' a 0 ia++ext' a ia `p:=by rw[<-eR (Hq _) ha,jI]
  have e2:b.toList=ext' b 0 ib++ext' b ib `u:=by rw[<-eR (Hq _) hb,jI]
  rw[e1,e2];refine(IK _<|IK _ J.pm).trans ?_;generalize ext' a 0 ia=p;generalize ext' a ia a.size=q;generalize ext' b 0 ib=u;generalize ext' b ib b.size=v;rw[Hj p,Hj p,Hj p];refine IW _ ?_;exact Kg
 ·rw[Hj,Iu,Iu];refine⟨J.so,⟨iJ sb (Hq _) `w `w,iJ sa (Hq _) `w `w,λx hx y hy=>?_⟩,λx hx y hy=>?_⟩
  ·obtain⟨j,h1,h2,rfl⟩:=(cR `w).mp hx;obtain⟨i,h3,h4,rfl⟩:=(cR `w).mp hy;exact h j h1 h2 i h3 h4
  ·rcases HA.mp hy with hy | hy
   ·obtain⟨j,h1,h2,rfl⟩:=(cR `w).mp hy;exact(J.lo x hx).2 j h1 h2
   ·obtain⟨j,h1,h2,rfl⟩:=(cR `w).mp hy;exact(J.lo x hx).1 j h1 h2
end
def m7:`F->`F->StateT Jf Sem `F:=sortPriv%PySem.Builtin.mergeLo
def jJ(g:Nat):StateT Jf Sem Unit:=modify λst=>Lc (kindOf st) `v `bz g (failedOf st)
theorem qp(a b:`F):m7 a b=(do
 rule "list.sort.merge-lo"
 let total:=`p+`u
 let done (out:`F) (ia ib:Nat):=100 (out++a.extract ia `p) ib `u
 let lastOfA (out:`F) (ia ib:Nat):=100 out ib `u++a.extract ia `p
 let mut out:`F:= #[<-elem' b 0]
 let mut ia:=0
 let mut ib:=1
 if ib==`u then return done out ia ib
 if ia+1==`p then return lastOfA out ia ib
 let mut minGallop:=gallopOf (<-get)
 for _ in [0:total]do
  let mut acount:=0
  let mut bcount:=0
  for _ in [0:total]do
   let some bWins <-lt' (<-elem' b ib) (<-elem' a ia)|return done out ia ib
   if bWins then
    out:=out.push<|<-elem' b ib;ib:=ib+1;bcount:=bcount+1;acount:=0
    if ib==`u then return done out ia ib
    if bcount≥minGallop then break
   else
    out:=out.push<|<-elem' a ia;ia:=ia+1;acount:=acount+1;bcount:=0
    if ia+1==`p then return lastOfA out ia ib
    if acount≥minGallop then break
  rule "list.sort.gallop"
  minGallop:=minGallop+1
  for _ in [0:total]do
   if minGallop>1 then minGallop:=minGallop-1
   jJ minGallop
   let some k <-fq false (<-elem' b ib) a ia (`p-ia) 0|return done out ia ib
   acount:=k
   if k>0 then
    out:=out++a.extract ia (ia+k);ia:=ia+k
    if ia+1==`p then return lastOfA out ia ib
    if ia==`p then return done out ia ib
   out:=out.push<|<-elem' b ib;ib:=ib+1
   if ib==`u then return done out ia ib
   let some k <-fq true (<-elem' a ia) b ib (`u-ib) 0|return done out ia ib
   bcount:=k
   if k>0 then
    out:=100 out ib (ib+k);ib:=ib+k
    if ib==`u then return done out ia ib
   out:=out.push<|<-elem' a ia;ia:=ia+1
   if ia+1==`p then return lastOfA out ia ib
   if acount<7&&bcount<7 then break
  minGallop:=minGallop+1
  jJ minGallop
 unsupported "internal:list.sort.merge-bound"):=rfl
section
variable{M:Mv}{A:Hk}{E:`A}{s:Gx}{κ:Mf}{U:49 GR}{L:GR->GR->Bool}{st:Jf}
def dt(st st':Jf):Prop:=2 (kindOf st') (kindOf st) (`W=`v) (`bf=`bz/\failedOf st'=failedOf st)
theorem rL(O:LtOk M A E s κ U L){a b:`F}{Q:11 `F Jf}(kd:kindOf st=κ)(ua:∀i,i<`p->U (51 a))(ub:∀i,i<`u->U (51 b))(na:0<`p)(nb:0<`u)(sa:Sr L a 0 `p)(sb:Sr L b 0 `u)
  (ne:∀i j,i<`p->j<`u->51 a≠at' b j) (h0:37 b 0 a 0) (h1:∀j,j<`u->37 b j a (`p-1))
  (h:∀r st',dt st st'->r.toList.Perm (a.toList++b.toList)->(r.toList.Pairwise λx y=>1<|L x y)->Q r st'):wpS M A E s (m7 a b) Q st:=by
 rw[qp];refine GH (Nk<|J7<|15 ?_);dsimp only;refine GH (bR nb ?_);have J0:JL L a b #[at' b 0] 0 1:=by
  refine⟨?_,LC _ _,`bG⟩;·rw[ft,gR (a:=0) (b:=0) nb `w,ft];exact `s
  ·have:x=at' b 0:=by simpa using hx
   subst this;refine⟨λi h2 h3=>?_,λj h2 h3=>sb 0 j `w `b h3⟩;by_cases z:i=0;·rw[z];exact h0
   ·exact O.tr _ _ _ (ub 0 nb) (ua 0 na) (ua i h3) h0 (sa 0 i `w `b h3)
 have endB:∀(out:Array GR)ia ib st',20 (dt st st') (JL L a b out ia ib) (ia<=`p) (ib=`u) (Q (100 (out++a.extract ia `p) ib `u) st'):=λout ia ib st' al J h2 h3=>by
  subst h3;have:=J.fin sa sb h2 `w (λj h3 h4=>`b) (r:=(100 (out++a.extract ia `p) `u `u).toList) (by
   rw[HV,HV];show out.toList++ext' a ia `p++ext' b `u `u=_;rw[ft,Im,Im])
  exact h _ st' al this.1 this.2
 have endA:∀(out:Array GR)ia ib st',20 (dt st st') (JL L a b out ia ib) (ib<=`u) (ia+1=`p) (Q (100 out ib `u++a.extract ia `p) st'):=λout ia ib st' al J h2 h3=>by
  have:=J.fin sa sb `b h2 (λj h4 h5 i h6 h7=>by
   have:i=`p-1:=by omega
   rw[this];exact h1 j h5) (r:=(100 out ib `u++a.extract ia `p).toList) (by rw[HV,HV];rfl)
  exact h _ st' al this.1 this.2
 have al0:dt st st:=⟨`a,`a,`a,`a⟩
 by_cases z1:1=`u
 ·rw[Z3 (by simpa using z1)];exact GQ (endB _ 0 1 st al0 J0 (Hq _) z1)
 rw[Z4 (by simpa using z1)];by_cases z2:0+1=`p
 ·rw[Z3 (by simpa using z2)];exact GQ (endA _ 0 1 st al0 J0 `b z2)
 rw[Z4 (by simpa using z2)];refine GH (LP ?_);refine GH<|Kw (IB (I:=λx c st'=>dt st st'/\∃out ia ib g,25 c (none,out,ia,ib,g) (JL L a b out ia ib) (ia+1<`p) (ib<`u) (x+1<=ia+ib)) (Q:=λc st'=>dt st st'/\∃r rest,c=(some r,rest)/\Q r st') ?step ?fin ?init) ?post
 case init=>exact⟨al0,_,_,_,_,`a,J0,`b,`b,`b⟩
 case fin=>
  rintro c st' ⟨al,out,ia,ib,g,rfl,J,q1,q2,q3⟩;omega
 case post=>
  rintro c st' ⟨al,r,rest,rfl,hq⟩;exact GQ hq
 case step=>
  rintro x c st1 _ hx ⟨al,out,ia,ib,g,rfl,J,q1,q2,q3⟩;dsimp only;refine GH (Kw (IB (I:=λy c st'=>st'=st1/\∃out ia ib ac bc,25 c (none,out,ia,ib,ac,bc) (JL L a b out ia ib) (ia+1<`p) (ib<`u) (x+1+y<=ia+ib))
   (Q:=λc st'=>st'=st1/\((∃r rest,c=(some r,rest)/\Q r st')\/∃out ia ib ac bc,25 c (none,out,ia,ib,ac,bc) (JL L a b out ia ib) (ia+1<`p) (ib<`u) (x+2<=ia+ib))) ?step1 ?fin1 ?init1) ?post1)
  case init1=>exact⟨`a,_,_,_,_,_,`a,J,q1,q2,`b⟩
  case fin1=>
   rintro c st' ⟨rfl,out,ia,ib,ac,bc,rfl,J,q1,q2,q3⟩;exact 15 (.inr ⟨_,_,_,_,_,`a,J,q1,q2,`b⟩)
  case step1=>
   rintro y c st' _ hy ⟨rfl,out,ia,ib,ac,bc,rfl,J,q1,q2,q3⟩;dsimp only;refine GH (bR q2<|GH<|130<|GH<|O.lt _ _ _ _ (ub _ q2) `ax (al.1.trans kd) ?_);cases hw:L (at' b ib) (at' a ia)with
   |true=>
    dsimp only;rw[`aX];refine GH (bR q2 ?_);have J':JL L a b (out.push<|at' b ib) ia (ib+1):=J.takeB sb (k:=1) `b (λj h2 h3 i h4 h5=>by
     have:j=ib:=by omega
     subst this;by_cases z:i=ia;·rw[z];exact hw
     ·exact O.tr _ _ _ (ub _ q2) `ax (ua _ h5) hw (sa ia i `b `b h5)) (by rw[JS,gR q2 `w,ft];rfl)
    by_cases z:ib+1=`u
    ·rw[`bJ];exact GQ (15<|.inl ⟨_,_,`a,endB _ ia (ib+1) _ al J' `b z⟩)
    ·rw[`bl];by_cases w:bc+1≥g;·rw[Z3 w];exact GQ (15<|.inr ⟨_,_,_,_,_,`a,J',q1,`b,`b⟩)
     ·rw[Z4 w];exact GQ ⟨`a,_,_,_,_,_,`a,J',q1,`b,`b⟩
   |false=>
    dsimp only;rw[`aZ];refine GH (130 ?_);have hw':=O.tot _ _ (ub _ q2) `ax (λe=>ne ia ib `b q2 e.symm) hw;have J':JL L a b (out.push<|at' a ia) (ia+1) ib:=J.takeA sa (k:=1) `b (λi h2 h3 j h4 h5=>by
     have:i=ia:=by omega
     subst this;by_cases z:j=ib;·rw[z];exact hw'
     ·exact O.tr _ _ _ `ax (ub _ q2) (ub _ h5) hw' (sb ib j `b `b h5)) (by rw[JS,gR `b `w,ft];rfl)
    by_cases z:ia+1+1=`p
    ·rw[`bJ];exact GQ (15<|.inl ⟨_,_,`a,endA _ (ia+1) ib _ al J' `b z⟩)
    ·rw[`bl];by_cases w:ac+1≥g;·rw[Z3 w];exact GQ (15<|.inr ⟨_,_,_,_,_,`a,J',`b,`b,`b⟩)
     ·rw[Z4 w];exact GQ ⟨`a,_,_,_,_,_,`a,J',`b,`b,`b⟩
  case post1=>
   rintro c st' ⟨rfl,⟨r,rest,rfl,hq⟩|⟨out,ia,ib,ac,bc,rfl,J,q1,q2,q3⟩⟩;·exact GQ ⟨al,_,_,`a,hq⟩
   dsimp only;refine GH (Nk<|J7<|15 ?_);refine GH (Kw (IB (I:=λy c st'=>dt st st'/\∃out ia ib g ac bc,25 c (none,out,ia,ib,g,ac,bc) (JL L a b out ia ib) (ia+1<`p) (ib<`u) (x+2<=ia+ib))
    (Q:=λc st'=>dt st st'/\((∃r rest,c=(some r,rest)/\Q r st')\/∃out ia ib g ac bc,25 c (none,out,ia,ib,g,ac,bc) (JL L a b out ia ib) (ia+1<`p) (ib<`u) (x+2<=ia+ib))) ?step2 ?fin2 ?init2) ?post2)
   case init2=>exact⟨al,_,_,_,_,_,_,`a,J,q1,q2,q3⟩
   case fin2=>exact λc st'⟨al,out,ia,ib,g,ac,bc,e,J,q1,q2,q3⟩=>⟨al,.inr ⟨out,ia,ib,g,ac,bc,e,J,q1,q2,q3⟩⟩
   case post2=>
    rintro c st' ⟨al,⟨r,rest,rfl,hq⟩|⟨out,ia,ib,g,ac,bc,rfl,J,q1,q2,q3⟩⟩;·exact GQ ⟨al,_,_,`a,hq⟩
    ·dsimp only;refine GH (Jp<|GQ ⟨al,_,_,_,_,`a,J,q1,q2,`b⟩)
   case step2=>
    rintro y c st' _ hy ⟨al,out,ia,ib,g,ac,bc,rfl,J,q1,q2,q3⟩;dsimp only
    let C:=Option `F×`F×Nat×Nat×Nat×Nat×Nat
    let R:11 (ForInStep C) Jf:=λr st'=>match r with
     | .done c=>dt st st'/\((∃r rest,c=(some r,rest)/\Q r st')\/∃out ia ib g ac bc,25 c (none,out,ia,ib,g,ac,bc) (JL L a b out ia ib) (ia+1<`p) (ib<`u) (x+2<=ia+ib))
     | .yield c=>dt st st'/\∃out ia ib g ac bc,25 c (none,out,ia,ib,g,ac,bc) (JL L a b out ia ib) (ia+1<`p) (ib<`u) (x+2<=ia+ib)
    have pC:∀(out:Array GR)ia ib g k k1 st',20 (dt st st') (JL L a b out ia ib) (ia+1<`p) (ib<`u) (x+2<=ia+ib->37 a ia b ib->wpS M A E s (do
      let x <-elem' a ia
      if 1 (ia+1+1==`p) then pure (Hs (some (100 `ay ib `u++a.extract (ia+1) `p),`ay,ia+1,ib,g,k,k1))
      else if 1 (decide (k<7)&&decide (k1<7)) then pure (Hs (none,`ay,ia+1,ib,g,k,k1))
      else pure (HB (none,`ay,ia+1,ib,g,k,k1))) R st'):=by
     intro out ia ib g k k1 st' al J q1 q2 q3 hab;refine GH (130 ?_);have J':JL L a b (out.push<|at' a ia) (ia+1) ib:=J.takeA sa (k:=1) `b (λi h2 h3 j h4 h5=>by
      have:i=ia:=by omega
      subst this;by_cases z:j=ib;·rw[z];exact hab
      ·exact O.tr _ _ _ `ax (ub _ q2) (ub _ h5) hab (sb ib j `b `b h5)) (by rw[JS,gR `b `w,ft];rfl)
     by_cases z:ia+1+1=`p
     ·rw[`bJ];exact GQ ⟨al,.inl ⟨_,_,`a,endA _ (ia+1) ib _ al J' `b z⟩⟩
     ·rw[`bl];by_cases w:1 (decide (k<7)&&decide (k1<7));·rw[Z3 w];exact GQ ⟨al,.inr ⟨_,_,_,_,_,_,`a,J',`b,`b,`b⟩⟩
      ·rw[Z4 w];exact GQ ⟨al,_,_,_,_,_,_,`a,J',`b,`b,`b⟩
    have pB:∀(out:Array GR)ia ib g k bc st',20 (dt st st') (JL L a b out ia ib) (ia+1<`p) (ib<`u) (x+2<=ia+ib->37 b ib a ia->wpS M A E s (do
      let x <-elem' b ib
      if 1 (ib+1==`u) then pure (Hs (some (100 (`ay++a.extract ia `p) (ib+1) `u),`ay,ia,ib+1,g,k,bc))
      else
       let y <-elem' a ia
       let some k1 <-fq true y b (ib+1) (`u-(ib+1)) 0|pure (Hs (some (100 (`ay++a.extract ia `p) (ib+1) `u),`ay,ia,ib+1,g,k,bc))
       if k1>0 then
        if 1 (ib+1+k1==`u) then pure (Hs (some (100 (100 `ay (ib+1) (ib+1+k1)++a.extract ia `p) (ib+1+k1) `u),100 `ay (ib+1) (ib+1+k1),ia,ib+1+k1,g,k,k1))
        else
         let z <-elem' a ia
         if 1 (ia+1+1==`p) then pure (Hs (some (100 ((100 `ay (ib+1)<|ib+1+k1).push z) (ib+1+k1) `u++a.extract (ia+1) `p),(100 `ay (ib+1)<|ib+1+k1).push z,ia+1,ib+1+k1,g,k,k1))
         else if 1 (decide (k<7)&&decide (k1<7)) then pure (Hs (none,(100 `ay (ib+1)<|ib+1+k1).push z,ia+1,ib+1+k1,g,k,k1))
         else pure (HB (none,(100 `ay (ib+1)<|ib+1+k1).push z,ia+1,ib+1+k1,g,k,k1))
       else
        let z <-elem' a ia
        if 1 (ia+1+1==`p) then pure (Hs (some (100 ((`ay).push z) (ib+1) `u++a.extract (ia+1) `p),(`ay).push z,ia+1,ib+1,g,k,k1))
        else if 1 (decide (k<7)&&decide (k1<7)) then pure (Hs (none,(`ay).push z,ia+1,ib+1,g,k,k1))
        else pure (HB (none,(`ay).push z,ia+1,ib+1,g,k,k1))) R st'):=by
     intro out ia ib g k bc st' al J q1 q2 q3 hba;refine GH (bR q2 ?_);have J':JL L a b (out.push<|at' b ib) ia (ib+1):=J.takeB sb (k:=1) `b (λj h2 h3 i h4 h5=>by
      have:j=ib:=by omega
      subst this;by_cases z:i=ia;·rw[z];exact hba
      ·exact O.tr _ _ _ (ub _ q2) `ax (ua _ h5) hba (sa ia i `b `b h5)) (by rw[JS,gR q2 `w,ft];rfl)
     by_cases z:ib+1=`u
     ·rw[`bJ];exact GQ ⟨al,.inl ⟨_,_,`a,endB _ ia (ib+1) _ al J' `b z⟩⟩
     rw[`bl];refine GH (130<|GH<|eD O `ax (λi hi=>114 _) `b `b (al.1.trans kd) (λi j hij hj hB=>?_) λk1 hk1 hB=>?_)
     ·show 37 b (ib+1+i) a ia;exact O.tr _ _ _ (114 _) (114 _) `ax (sb (ib+1+i) (ib+1+j) `b `b `b) hB
     have hB':∀i,i<`u-(ib+1)->(37 b (ib+1+i) a ia↔i<k1):=hB;dsimp only;have J2:JL L a b (100 (out.push<|at' b ib) (ib+1)<|ib+1+k1) ia (ib+1+k1):=J'.takeB sb `b (λj h2 h3 i h4 h5=>by
      have e:=(144<|j-(ib+1)).mpr `b;rw[show ib+1+(j-(ib+1))=j by omega]at e;by_cases w:i=ia;·rw[w];exact e
      ·exact O.tr _ _ _ (114 _) `ax (ua _ h5) e (sa ia i `b `b h5)) (by rw[HV];rfl)
     have ab:ib+1+k1<`u->37 a ia b (ib+1+k1):=λhlt=>by
      refine O.tot _ _ (ub _ hlt) `ax (λe=>ne ia _ `b hlt e.symm) ?_;cases e:L (at' b<|ib+1+k1) (at' a ia)with
      |false=>rfl
      |true=>exact 135 ((144 k1).mp e)
     by_cases w:k1>0
     ·rw[Z3 w];by_cases v:ib+1+k1=`u
      ·rw[Z3 (by simpa using v)];exact GQ ⟨al,.inl ⟨_,_,`a,endB _ ia (ib+1+k1) _ al J2 `b v⟩⟩
      ·rw[Z4 (by simpa using v)];exact pC _ _ _ _ _ _ _ al J2 q1 `b `b (ab `b)
     ·rw[Z4 w];have:k1=0:=`b
      subst this;exact pC _ _ _ _ _ _ _ al J' q1 `b `b (ab `b)
    by_cases w:g>1
    ·rw[Z3 w];refine GH (Jp<|GH<|bR q2<|GH<|eD O (ub _ q2) (λi hi=>`ax) `b `b (al.1.trans kd) (λi j hij hj hB=>?_) λk hk hB=>?_)
     ·have hB':1 (!L (at' b ib) (at' a<|ia+j)):=hB;show 1 (!L (at' b ib) (at' a<|ia+i));cases e:L (at' b ib) (at' a<|ia+i)with
      |false=>rfl
      |true=>
       rw[O.tr _ _ _ (ub _ q2) `ax `ax e (sa (ia+i) (ia+j) `b `b `b)]at hB';exact hB'
     have hB':∀i,i<`p-ia->(1 (!L (at' b ib) (at' a<|ia+i))↔i<k):=hB;have hk1:ia+k+1<=`p:=by
      by_cases v:`p-1-ia<k
      ·have e:=(144<|`p-1-ia).mpr v;rw[show ia+(`p-1-ia)=a.size-1 by omega,h1 ib q2]at e;cases e
      ·omega
     dsimp only;have J1:JL L a b (out++a.extract ia (ia+k)) (ia+k) ib:=J.takeA sa `b (λi h2 h3 j h4 h5=>by
      have e:=(144<|i-ia).mpr `b;rw[show ia+(i-ia)=i by omega]at e;have e2:=O.tot _ _ (ub _ q2) `ax (λe=>ne i ib `b q2 e.symm) `bT;by_cases v:j=ib;·rw[v];exact e2
      ·exact O.tr _ _ _ `ax (ub _ q2) (ub _ h5) e2 (sb ib j `b `b h5)) (by rw[HV];rfl)
     have hba:37 b ib a (ia+k):=by
      cases e:L (at' b ib) (at' a<|ia+k)with
      |true=>rfl
      |false=>exact 135 ((144 k).mp (by rw[e];rfl))
     by_cases v:k>0
     ·rw[Z3 v];by_cases u:ia+k+1=`p
      ·rw[Z3 (by simpa using u)];exact GQ ⟨al,.inl ⟨_,_,`a,endA _ (ia+k) ib _ al J1 `b u⟩⟩
      ·rw[Z4 (by simpa using u),Z4 (by simp;omega)];exact pB _ _ _ _ _ _ _ al J1 `b q2 `b hba
     ·rw[Z4 v];have:k=0:=`b
      subst this;exact pB _ _ _ _ _ _ _ al J q1 q2 `b hba
    ·rw[Z4 w];refine GH (Jp<|GH<|bR q2<|GH<|eD O (ub _ q2) (λi hi=>`ax) `b `b (al.1.trans kd) (λi j hij hj hB=>?_) λk hk hB=>?_)
     ·have hB':1 (!L (at' b ib) (at' a<|ia+j)):=hB;show 1 (!L (at' b ib) (at' a<|ia+i));cases e:L (at' b ib) (at' a<|ia+i)with
      |false=>rfl
      |true=>
       rw[O.tr _ _ _ (ub _ q2) `ax `ax e (sa (ia+i) (ia+j) `b `b `b)]at hB';exact hB'
     have hB':∀i,i<`p-ia->(1 (!L (at' b ib) (at' a<|ia+i))↔i<k):=hB;have hk1:ia+k+1<=`p:=by
      by_cases v:`p-1-ia<k
      ·have e:=(144<|`p-1-ia).mpr v;rw[show ia+(`p-1-ia)=a.size-1 by omega,h1 ib q2]at e;cases e
      ·omega
     dsimp only;have J1:JL L a b (out++a.extract ia (ia+k)) (ia+k) ib:=J.takeA sa `b (λi h2 h3 j h4 h5=>by
      have e:=(144<|i-ia).mpr `b;rw[show ia+(i-ia)=i by omega]at e;have e2:=O.tot _ _ (ub _ q2) `ax (λe=>ne i ib `b q2 e.symm) `bT;by_cases v:j=ib;·rw[v];exact e2
      ·exact O.tr _ _ _ `ax (ub _ q2) (ub _ h5) e2 (sb ib j `b `b h5)) (by rw[HV];rfl)
     have hba:37 b ib a (ia+k):=by
      cases e:L (at' b ib) (at' a<|ia+k)with
      |true=>rfl
      |false=>exact 135 ((144 k).mp (by rw[e];rfl))
     by_cases v:k>0
     ·rw[Z3 v];by_cases u:ia+k+1=`p
      ·rw[Z3 (by simpa using u)];exact GQ ⟨al,.inl ⟨_,_,`a,endA _ (ia+k) ib _ al J1 `b u⟩⟩
      ·rw[Z4 (by simpa using u),Z4 (by simp;omega)];exact pB _ _ _ _ _ _ _ al J1 `b q2 `b hba
     ·rw[Z4 v];have:k=0:=`b
      subst this;exact pB _ _ _ _ _ _ _ al J q1 q2 `b hba
end
def m8:`F->`F->StateT Jf Sem `F:=sortPriv%PySem.Builtin.mergeHi
theorem qr(a b:`F):m8 a b=(do
 rule "list.sort.merge-hi"
 let total:=`p+`u
 let done (out:`F) (na nb:Nat):=100 (a.extract 0 na) 0 nb++out.reverse
 let firstOfB (out:`F) (na nb:Nat):=b.extract 0 nb++a.extract 0 na++out.reverse
 let mut na:=`p-1
 let mut nb:=b.size
 let mut out:`F:= #[<-elem' a na]
 if na==0 then return done out na nb
 if nb==1 then return firstOfB out na nb
 let mut minGallop:=gallopOf (<-get)
 for _ in [0:total]do
  let mut acount:=0
  let mut bcount:=0
  for _ in [0:total]do
   let some aWins <-lt' (<-elem' b (nb-1)) (<-elem' a (na-1))|return done out na nb
   if aWins then
    na:=na-1;out:=out.push<|<-elem' a na;acount:=acount+1;bcount:=0
    if na==0 then return done out na nb
    if acount≥minGallop then break
   else
    nb:=nb-1;out:=out.push<|<-elem' b nb;bcount:=bcount+1;acount:=0
    if nb==1 then return firstOfB out na nb
    if bcount≥minGallop then break
  rule "list.sort.gallop"
  minGallop:=minGallop+1
  for _ in [0:total]do
   if minGallop>1 then minGallop:=minGallop-1
   jJ minGallop
   let some at_ <-fq false (<-elem' b (nb-1)) a 0 na (na-1)|return done out na nb
   let k:=na-at_
   acount:=k
   if k>0 then
    out:=out++(a.extract at_ na).reverse;na:=at_
    if na==0 then return done out na nb
   nb:=nb-1;out:=out.push (<-elem' b nb)
   if nb==1 then return firstOfB out na nb
   let some at_ <-fq true (<-elem' a (na-1)) b 0 nb (nb-1)|return done out na nb
   let k:=nb-at_
   bcount:=k
   if k>0 then
    out:=out++(b.extract at_ nb).reverse;nb:=at_
    if nb==1 then return firstOfB out na nb
    if nb==0 then return done out na nb
   na:=na-1;out:=out.push (<-elem' a na)
   if na==0 then return done out na nb
   if acount<7&&bcount<7 then break
  minGallop:=minGallop+1
  jJ minGallop
 unsupported "internal:list.sort.merge-bound"):=rfl
structure JH(L:GR->GR->Bool)(a b out:`F)(na nb:Nat):Prop where
 pm:out.toList.reverse.Perm (ext' a na `p++ext' b nb `u)
 so:out.toList.reverse.Pairwise (λx y=>1<|L x y)
 hi:∀x∈out.toList,(∀i,i<na->1 (L (at' a i) x))/\∀j,j<nb->1 (L (at' b j) x)
section
variable{L:GR->GR->Bool}{a b out:`F}{na nb:Nat}
theorem JH.takeA(J:JH L a b out na nb)(sa:Sr L a 0 `p)(hn:na<=`p){m:Nat}(hm:m<=na)(h:∀i,m<=i->i<na->∀j,j<nb->37 b j a i){out':`F}(ho:out'.toList.reverse=ext' a m na++out.toList.reverse):JH L a b out' m nb:=by
 have mem:∀x,x∈out'.toList↔x∈ext' a m na\/x∈out.toList:=λx=>by rw[<-JG,ho,HA,JG]
 refine⟨?_,?_,`bG⟩
 ·rw[ho,eR (xs:=a) hm hn,Hj];exact IW _ J.pm
 ·rw[ho,Iu];refine⟨iJ sa (Hq _) hn `w,J.so,λx hx y hy=>?_⟩;obtain⟨i,h1,h2,rfl⟩:=(cR hn).mp hx;exact(J.hi y<|JG.mp hy).1 i h2
 ·rcases (mem x).mp hx with hx | hx
  ·obtain⟨i,h1,h2,rfl⟩:=(cR hn).mp hx;exact⟨λi' h3=>sa i' i (Hq _) `b `b,h i h1 h2⟩
  ·exact⟨λi h1=>(J.hi x hx).1 i `b,(J.hi x hx).2⟩
theorem JH.takeB(J:JH L a b out na nb)(sb:Sr L b 0 `u)(hn:nb<=`u){m:Nat}(hm:m<=nb)(h:∀j,m<=j->j<nb->∀i,i<na->37 a i b j){out':`F}(ho:out'.toList.reverse=ext' b m nb++out.toList.reverse):JH L a b out' na m:=by
 have mem:∀x,x∈out'.toList↔x∈ext' b m nb\/x∈out.toList:=λx=>by rw[<-JG,ho,HA,JG]
 refine⟨?_,?_,`bG⟩
 ·rw[ho,eR (xs:=b) hm hn];refine(IW _ J.pm).trans ?_;rw[<-Hj,<-Hj];exact IK _ Kg
 ·rw[ho,Iu];refine⟨iJ sb (Hq _) hn `w,J.so,λx hx y hy=>?_⟩;obtain⟨i,h1,h2,rfl⟩:=(cR hn).mp hx;exact(J.hi y<|JG.mp hy).2 i h2
 ·rcases (mem x).mp hx with hx | hx
  ·obtain⟨i,h1,h2,rfl⟩:=(cR hn).mp hx;exact⟨h i h1 h2,λi' h3=>sb i' i (Hq _) `b `b⟩
  ·exact⟨(J.hi x hx).1,λi h1=>(J.hi x hx).2 i `b⟩
theorem JH.fin(J:JH L a b out na nb)(sa:Sr L a 0 `p)(sb:Sr L b 0 `u)(ha:na<=`p)(hb:nb<=`u)(h:∀j,j<nb->∀i,i<na->37 b j a i){r:List GR}(hr:r=ext' b 0 nb++ext' a 0 na++out.toList.reverse):
  r.Perm (a.toList++b.toList)/\r.Pairwise (λx y=>1<|L x y):=by
 subst hr;constructor
 ·have e1:a.toList=ext' a 0 na++ext' a na `p:=by rw[<-eR (Hq _) ha,jI]
  have e2:b.toList=ext' b 0 nb++ext' b nb `u:=by rw[<-eR (Hq _) hb,jI]
  rw[e1,e2];refine(IW _ J.pm).trans ?_;generalize ext' a 0 na=p;generalize ext' a na a.size=q;generalize ext' b 0 nb=u;generalize ext' b nb b.size=v;refine(IK (q++v)<|Kg (l₁:=u) (l₂:=p)).trans ?_;rw[Hj,Hj];refine IW _ ?_;rw[<-Hj,<-Hj];exact IK _ Kg
 ·rw[Hj,Iu,Iu];refine⟨iJ sb (Hq _) hb `w,⟨iJ sa (Hq _) ha `w,J.so,λx hx y hy=>?_⟩,λx hx y hy=>?_⟩
  ·obtain⟨i,h1,h2,rfl⟩:=(cR ha).mp hx;exact(J.hi y<|JG.mp hy).1 i h2
  ·obtain⟨j,h1,h2,rfl⟩:=(cR hb).mp hx;rcases HA.mp hy with hy|hy
   ·obtain⟨i,h3,h4,rfl⟩:=(cR ha).mp hy;exact h j h2 i h4
   ·exact(J.hi y<|JG.mp hy).2 j h2
end
section
variable{M:Mv}{A:Hk}{E:`A}{s:Gx}{κ:Mf}{U:49 GR}{L:GR->GR->Bool}{st:Jf}
theorem qt(out:`F)(x:GR):(`ay).toList.reverse=x::out.toList.reverse:=by rw[JS,Oz];rfl
theorem oV(out xs:`F):(out++xs.reverse).toList.reverse=xs.toList++out.toList.reverse:=by rw[HV,Oz,Mg,List.reverse_reverse]
theorem oW{xs:`F}{i:Nat}(h:0<i)(hi:i<=`aj):ext' xs (i-1) i=[at' xs (i-1)]:=by
 have:=gR (xs:=xs) (a:=i-1) (b:=i-1) `b `w;rw[show i-1+1=i by omega,ft]at this;exact this
theorem rM(O:LtOk M A E s κ U L){a b:`F}{Q:11 `F Jf}(kd:kindOf st=κ)(ua:∀i,i<`p->U (51 a))(ub:∀i,i<`u->U (51 b))(za:0<`p)(zb:0<`u)(sa:Sr L a 0 `p)(sb:Sr L b 0 `u)
  (ne:∀i j,i<`p->j<`u->51 a≠at' b j) (h0:37 b 0 a 0) (h1:∀j,j<`u->37 b j a (`p-1))
  (h:∀r st',dt st st'->r.toList.Perm (a.toList++b.toList)->(r.toList.Pairwise λx y=>1<|L x y)->Q r st'):wpS M A E s (m8 a b) Q st:=by
 have b0:∀i,i<`p->37 b 0 a i:=λi hi=>by
  by_cases z:i=0;·rw[z];exact h0
  ·exact O.tr _ _ _ (ub 0 zb) (ua 0 za) (ua i hi) h0 (sa 0 i `w `b hi)
 rw[qr];refine GH (Nk<|J7<|15 ?_);dsimp only;refine GH (130 ?_);have J0:JH L a b #[at' a (`p-1)] (`p-1) `u:=by
  refine⟨?_,LC _ _,`bG⟩;·rw[oW za `w,ft];exact `s
  ·have:x=at' a (`p-1):=by simpa using hx
   subst this;exact⟨λi h2=>sa i _ (Hq _) h2 `b,λj h2=>h1 j h2⟩
 have endA:∀(out:Array GR)na nb st',20 (dt st st') (JH L a b out na nb) (nb<=`u) (na=0) (Q (100 (a.extract 0 na) 0 nb++out.reverse) st'):=λout na nb st' al J h2 h3=>by
  subst h3;have:=J.fin sa sb (Hq _) h2 (λj h3 i h4=>`b) (r:=(100 (a.extract 0 0) 0 nb++out.reverse).toList) (by
   rw[HV,HV,Mg];show ext' a 0 0++ext' b 0 nb++out.toList.reverse=_;rw[ft,Kl,Im])
  exact h _ st' al this.1 this.2
 have endB:∀(out:Array GR)na nb st',20 (dt st st') (JH L a b out na nb) (na<=`p) (nb=1) (Q (b.extract 0 nb++a.extract 0 na++out.reverse) st'):=λout na nb st' al J h2 h3=>by
  have:=J.fin sa sb h2 `b (λj h4 i h5=>by
   have:j=0:=by omega
   rw[this];exact b0 i `b) (r:=(b.extract 0 nb++a.extract 0 na++out.reverse).toList) (by rw[HV,HV,Mg];rfl)
  exact h _ st' al this.1 this.2
 have al0:dt st st:=⟨`a,`a,`a,`a⟩
 by_cases z1:`p-1=0
 ·rw[Z3 (by simpa using z1)];exact GQ (endA _ _ _ st al0 J0 `w z1)
 rw[Z4 (by simpa using z1)];by_cases z2:`u=1
 ·rw[Z3 (by simpa using z2)];exact GQ (endB _ _ _ st al0 J0 `b z2)
 rw[Z4 (by simpa using z2)];refine GH (LP ?_);refine GH<|Kw (IB (I:=λx c st'=>dt st st'/\∃na nb out g,25 c (none,na,nb,out,g) (JH L a b out na nb) (0<na) (1<nb) (na<=`p/\nb<=`u/\na+nb+x+1<=`p+`u)) (Q:=λc st'=>dt st st'/\∃r rest,c=(some r,rest)/\Q r st') ?step ?fin ?init) ?post
 case init=>exact⟨al0,_,_,_,_,`a,J0,`b,`b,`b,`b,`b⟩
 case fin=>
  rintro c st' ⟨al,na,nb,out,g,rfl,J,q1,q2,q3,q4,q5⟩;omega
 case post=>
  rintro c st' ⟨al,r,rest,rfl,hq⟩;exact GQ hq
 case step=>
  rintro x c st1 _ hx ⟨al,na,nb,out,g,rfl,J,q1,q2,q3,q4,q5⟩;dsimp only;have ta:∀(out:Array GR)na nb,20 (JH L a b out na nb) (0<na) (na<=`p) (0<nb) (nb<=`u->37 b (nb-1) a (na-1)->JH L a b (out.push<|at' a<|na-1) (na-1) nb):=λout na nb J q1 q3 q2 q4 hw=>J.takeA sa q3 (m:=na-1) `b (λi h2 h3 j h4=>by
    have:i=na-1:=by omega
    subst this;by_cases z:j=nb-1;·rw[z];exact hw
    ·exact O.tr _ _ _ (114 _) (114 _) `ax (sb j (nb-1) (Hq _) `b `b) hw) (by rw[qt,oW q1 q3];rfl)
  have tb:∀(out:Array GR)na nb,34 (JH L a b out na nb) (0<nb) (nb<=`u) (na<=`p) (∀i,i<na->37 a i b (nb-1)) (JH L a b (out.push<|at' b<|nb-1) na<|nb-1):=λout na nb J q1 q3 q4 hw=>J.takeB sb q3 (m:=nb-1) `b (λj h2 h3 i h4=>by
    have:j=nb-1:=by omega
    subst this;exact hw i h4) (by rw[qt,oW q1 q3];rfl)
  refine GH (Kw (IB (I:=λy c st'=>st'=st1/\∃na nb out ac bc,25 c (none,na,nb,out,ac,bc) (JH L a b out na nb) (0<na) (1<nb) (na<=`p/\nb<=`u/\na+nb+x+y+1<=`p+`u))
   (Q:=λc st'=>st'=st1/\((∃r rest,c=(some r,rest)/\Q r st')\/∃na nb out ac bc,25 c (none,na,nb,out,ac,bc) (JH L a b out na nb) (0<na) (1<nb) (na<=`p/\nb<=`u/\na+nb+x+2<=`p+`u))) ?step1 ?fin1 ?init1) ?post1)
  case init1=>exact⟨`a,_,_,_,_,_,`a,J,q1,q2,q3,q4,`b⟩
  case fin1=>
   rintro c st' ⟨rfl,na,nb,out,ac,bc,rfl,J,q1,q2,q3,q4,q5⟩;exact 15 (.inr ⟨_,_,_,_,_,`a,J,q1,q2,q3,q4,`b⟩)
  case step1=>
   rintro y c st' _ hy ⟨rfl,na,nb,out,ac,bc,rfl,J,q1,q2,q3,q4,q5⟩;dsimp only;refine GH (130<|GH<|130<|GH<|O.lt _ _ _ _ (114 _) `ax (al.1.trans kd) ?_);cases hw:L (at' b<|nb-1) (at' a<|na-1)with
   |true=>
    dsimp only;rw[`aX];refine GH (130 ?_);have J':=ta out na nb J q1 q3 `b q4 hw;by_cases z:na-1=0
    ·rw[`bJ];exact GQ (15<|.inl ⟨_,_,`a,endA _ _ _ _ al J' q4 z⟩)
    ·rw[`bl];by_cases w:ac+1≥g;·rw[Z3 w];exact GQ (15<|.inr ⟨_,_,_,_,_,`a,J',`b,q2,`b,q4,`b⟩)
     ·rw[Z4 w];exact GQ ⟨`a,_,_,_,_,_,`a,J',`b,q2,`b,q4,`b⟩
   |false=>
    dsimp only;rw[`aZ];refine GH (130 ?_);have hw':=O.tot _ _ (114 _) `ax (λe=>ne (na-1) (nb-1) `b `b e.symm) hw;have J':=tb out na nb J `b q4 q3 (λi hi=>by
     by_cases z:i=na-1;·rw[z];exact hw'
     ·exact O.tr _ _ _ `ax `ax (114 _) (sa i (na-1) (Hq _) `b `b) hw')
    by_cases z:nb-1=1
    ·rw[`bJ];exact GQ (15<|.inl ⟨_,_,`a,endB _ _ _ _ al J' q3 z⟩)
    ·rw[`bl];by_cases w:bc+1≥g;·rw[Z3 w];exact GQ (15<|.inr ⟨_,_,_,_,_,`a,J',q1,`b,q3,`b,`b⟩)
     ·rw[Z4 w];exact GQ ⟨`a,_,_,_,_,_,`a,J',q1,`b,q3,`b,`b⟩
  case post1=>
   rintro c st' ⟨rfl,⟨r,rest,rfl,hq⟩|⟨na,nb,out,ac,bc,rfl,J,q1,q2,q3,q4,q5⟩⟩;·exact GQ ⟨al,_,_,`a,hq⟩
   dsimp only;refine GH (Nk<|J7<|15 ?_);refine GH (Kw (IB (I:=λy c st'=>dt st st'/\∃na nb out g ac bc,25 c (none,na,nb,out,g,ac,bc) (JH L a b out na nb) (0<na) (1<nb) (na<=`p/\nb<=`u/\na+nb+x+2<=`p+`u))
    (Q:=λc st'=>dt st st'/\((∃r rest,c=(some r,rest)/\Q r st')\/∃na nb out g ac bc,25 c (none,na,nb,out,g,ac,bc) (JH L a b out na nb) (0<na) (1<nb) (na<=`p/\nb<=`u/\na+nb+x+2<=`p+`u))) ?step2 ?fin2 ?init2) ?post2)
   case init2=>exact⟨al,_,_,_,_,_,_,`a,J,q1,q2,q3,q4,q5⟩
   case fin2=>exact λc st'⟨al,na,nb,out,g,ac,bc,e,J,q⟩=>⟨al,.inr ⟨na,nb,out,g,ac,bc,e,J,q⟩⟩
   case post2=>
    rintro c st' ⟨al,⟨r,rest,rfl,hq⟩|⟨na,nb,out,g,ac,bc,rfl,J,q1,q2,q3,q4,q5⟩⟩;·exact GQ ⟨al,_,_,`a,hq⟩
    ·dsimp only;refine GH (Jp<|GQ ⟨al,_,_,_,_,`a,J,q1,q2,q3,q4,`b⟩)
   case step2=>
    rintro y c st' _ hy ⟨al,na,nb,out,g,ac,bc,rfl,J,q1,q2,q3,q4,q5⟩;dsimp only
    let C:=Option `F×Nat×Nat×`F×Nat×Nat×Nat
    let R:11 (ForInStep C) Jf:=λr st'=>match r with
     | .done c=>dt st st'/\((∃r rest,c=(some r,rest)/\Q r st')\/∃na nb out g ac bc,25 c (none,na,nb,out,g,ac,bc) (JH L a b out na nb) (0<na) (1<nb) (na<=`p/\nb<=`u/\na+nb+x+2<=`p+`u))
     | .yield c=>dt st st'/\∃na nb out g ac bc,25 c (none,na,nb,out,g,ac,bc) (JH L a b out na nb) (0<na) (1<nb) (na<=`p/\nb<=`u/\na+nb+x+2<=`p+`u)
    have pC:∀(out:Array GR)na nb g k k1 st',20 (dt st st') (JH L a b out na nb) (0<na) (1<nb) (20 (na<=`p) (nb<=`u) (na+nb+x+2<=`p+`u) (37 b (nb-1) a<|na-1)<|wpS M A E s (do
      let x <-elem' a (na-1)
      if 1 (na-1==0) then pure (Hs (some (100 (a.extract 0<|na-1) 0 nb++(`ay).reverse),na-1,nb,`ay,g,k,k1))
      else if 1 (decide (k<7)&&decide (k1<7)) then pure (Hs (none,na-1,nb,`ay,g,k,k1))
      else pure (HB (none,na-1,nb,`ay,g,k,k1))) R st'):=by
     intro out na nb g k k1 st' al J q1 q2 q3 q4 q5 hba;refine GH (130 ?_);have J':=ta out na nb J q1 q3 `b q4 hba;by_cases z:na-1=0
     ·rw[`bJ];exact GQ ⟨al,.inl ⟨_,_,`a,endA _ _ _ _ al J' q4 z⟩⟩
     ·rw[`bl];by_cases w:1 (decide (k<7)&&decide (k1<7));·rw[Z3 w];exact GQ ⟨al,.inr ⟨_,_,_,_,_,_,`a,J',`b,q2,`b,q4,`b⟩⟩
      ·rw[Z4 w];exact GQ ⟨al,_,_,_,_,_,_,`a,J',`b,q2,`b,q4,`b⟩
    have pB:∀(out:Array GR)na nb g k bc st',20 (dt st st') (JH L a b out na nb) (0<na) (1<nb) (20 (na<=`p) (nb<=`u) (na+nb+x+2<=`p+`u) (∀i,i<na->37 a i b (nb-1))<|wpS M A E s (do
      let x <-elem' b (nb-1)
      if 1 (nb-1==1) then pure (Hs (some (b.extract 0 (nb-1)++a.extract 0 na++(`ay).reverse),na,nb-1,`ay,g,k,bc))
      else
       let y <-elem' a (na-1)
       let some m <-fq true y b 0 (nb-1) (nb-1-1)|pure (Hs (some (100 (a.extract 0 na) 0 (nb-1)++(`ay).reverse),na,nb-1,`ay,g,k,bc))
       if nb-1-m>0 then
        if 1 (m==1) then pure (Hs (some (b.extract 0 m++a.extract 0 na++(`ay++(b.extract m<|nb-1).reverse).reverse),na,m,`ay++(b.extract m<|nb-1).reverse,g,k,nb-1-m))
        else if 1 (m==0) then pure (Hs (some (100 (a.extract 0 na) 0 m++(`ay++(b.extract m<|nb-1).reverse).reverse),na,m,`ay++(b.extract m<|nb-1).reverse,g,k,nb-1-m))
        else
         let z <-elem' a (na-1)
         if 1 (na-1==0) then pure (Hs (some (100 (a.extract 0<|na-1) 0 m++((`ay++(b.extract m<|nb-1).reverse).push z).reverse),na-1,m,(`ay++(b.extract m<|nb-1).reverse).push z,g,k,nb-1-m))
         else if 1 (decide (k<7)&&decide (nb-1-m<7)) then pure (Hs (none,na-1,m,(`ay++(b.extract m<|nb-1).reverse).push z,g,k,nb-1-m))
         else pure (HB (none,na-1,m,(`ay++(b.extract m<|nb-1).reverse).push z,g,k,nb-1-m))
       else
        let z <-elem' a (na-1)
        if 1 (na-1==0) then pure (Hs (some (100 (a.extract 0<|na-1) 0 (nb-1)++((`ay).push z).reverse),na-1,nb-1,(`ay).push z,g,k,nb-1-m))
        else if 1 (decide (k<7)&&decide (nb-1-m<7)) then pure (Hs (none,na-1,nb-1,(`ay).push z,g,k,nb-1-m))
        else pure (HB (none,na-1,nb-1,(`ay).push z,g,k,nb-1-m))) R st'):=by
     intro out na nb g k bc st' al J q1 q2 q3 q4 q5 hab;refine GH (130 ?_);have J':=tb out na nb J `b q4 q3 hab;by_cases z:nb-1=1
     ·rw[`bJ];exact GQ ⟨al,.inl ⟨_,_,`a,endB _ _ _ _ al J' q3 z⟩⟩
     rw[`bl];refine GH (130<|GH<|eD O `ax (λi hi=>114 _) `b `b (al.1.trans kd) (λi j hij hj hB=>?_) λm hm hB=>?_)
     ·have hB':37 b (0+j) a (na-1):=hB;show 37 b (0+i) a (na-1);rw[K7]at hB' ⊢;exact O.tr _ _ _ (114 _) (114 _) `ax (sb i j (Hq _) hij `b) hB'
     have hB':∀i,i<nb-1->(37 b i a (na-1)↔i<m):=λi hi=>by
      have e:37 b (0+i) a (na-1)↔i<m:=hB i hi
      rwa [K7]at e
     have m1:1<=m:=(144 0).mp (b0 _ `b);dsimp only;have J2:JH L a b (out.push (at' b<|nb-1)++(b.extract m<|nb-1).reverse) na m:=J'.takeB sb `b hm (λj h2 h3 i h4=>by
      have e:12 (L (at' b j)<|at' a<|na-1):=by
       cases e:L (at' b j) (at' a<|na-1)with
       |false=>rfl
       |true=>exact 135 ((hB' j h3).mp e)
      have e2:=O.tot _ _ (114 _) `ax (λe=>ne (na-1) j `b `b e.symm) e;by_cases w:i=na-1;·rw[w];exact e2
      ·exact O.tr _ _ _ `ax `ax (114 _) (sa i (na-1) (Hq _) `b `b) e2) (by rw[oV];rfl)
     have ba:37 b (m-1) a (na-1):=(144<|m-1).mpr `b;by_cases w:nb-1-m>0
     ·rw[Z3 w];by_cases v:m=1
      ·rw[Z3 (by simpa using v)];exact GQ ⟨al,.inl ⟨_,_,`a,endB _ _ _ _ al J2 q3 v⟩⟩
      ·rw[Z4 (by simpa using v),Z4 (by simp;omega)];exact pC _ _ _ _ _ _ _ al J2 q1 `b q3 `b `b ba
     ·rw[Z4 w];have:m=nb-1:=`b
      subst this;exact pC _ _ _ _ _ _ _ al J' q1 `b q3 `b `b ba
    by_cases w:g>1
    ·rw[Z3 w];refine GH (Jp<|GH<|130<|GH<|eD O (114 _) (λi hi=>`ax) `b `b (al.1.trans kd) (λi j hij hj hB=>?_) λm hm hB=>?_)
     ·have hB':1 (!L (at' b<|nb-1) (at' a<|0+j)):=hB;show 1 (!L (at' b<|nb-1) (at' a<|0+i));rw[K7]at hB' ⊢;cases e:L (at' b<|nb-1) (at' a i)with
      |false=>rfl
      |true=>
       rw[O.tr _ _ _ (114 _) `ax `ax e (sa i j (Hq _) hij `b)]at hB';exact hB'
     have hB':∀i,i<na->(1 (!L (at' b<|nb-1) (51 a))↔i<m):=λi hi=>by
      have e:1 (!L (at' b<|nb-1) (at' a<|0+i))↔i<m:=hB i hi
      rwa [K7]at e
     dsimp only;have J1:JH L a b (out++(a.extract m na).reverse) m nb:=J.takeA sa q3 hm (λi h2 h3 j h4=>by
      have e:37 b (nb-1) a i:=by
       cases e:L (at' b<|nb-1) (at' a i)with
       |true=>rfl
       |false=>exact 135 ((hB' i h3).mp (by rw[e];rfl))
      by_cases v:j=nb-1;·rw[v];exact e
      ·exact O.tr _ _ _ (114 _) (114 _) `ax (sb j (nb-1) (Hq _) `b `b) e) (by rw[oV];rfl)
     have hab:∀i,i<m->37 a i b (nb-1):=λi hi=>by
      have e:=(144 i).mpr hi;exact O.tot _ _ (114 _) `ax (λe=>ne i (nb-1) `b `b e.symm) `bT
     by_cases v:na-m>0
     ·rw[Z3 v];by_cases u:m=0
      ·rw[Z3 (by simpa using u)];exact GQ ⟨al,.inl ⟨_,_,`a,endA _ _ _ _ al J1 q4 u⟩⟩
      ·rw[Z4 (by simpa using u)];exact pB _ _ _ _ _ _ _ al J1 `b q2 `b q4 `b hab
     ·rw[Z4 v];have:m=na:=`b
      subst this;exact pB _ _ _ _ _ _ _ al J q1 q2 q3 q4 `b hab
    ·rw[Z4 w];refine GH (Jp<|GH<|130<|GH<|eD O (114 _) (λi hi=>`ax) `b `b (al.1.trans kd) (λi j hij hj hB=>?_) λm hm hB=>?_)
     ·have hB':1 (!L (at' b<|nb-1) (at' a<|0+j)):=hB;show 1 (!L (at' b<|nb-1) (at' a<|0+i));rw[K7]at hB' ⊢;cases e:L (at' b<|nb-1) (at' a i)with
      |false=>rfl
      |true=>
       rw[O.tr _ _ _ (114 _) `ax `ax e (sa i j (Hq _) hij `b)]at hB';exact hB'
     have hB':∀i,i<na->(1 (!L (at' b<|nb-1) (51 a))↔i<m):=λi hi=>by
      have e:1 (!L (at' b<|nb-1) (at' a<|0+i))↔i<m:=hB i hi
      rwa [K7]at e
     dsimp only;have J1:JH L a b (out++(a.extract m na).reverse) m nb:=J.takeA sa q3 hm (λi h2 h3 j h4=>by
      have e:37 b (nb-1) a i:=by
       cases e:L (at' b<|nb-1) (at' a i)with
       |true=>rfl
       |false=>exact 135 ((hB' i h3).mp (by rw[e];rfl))
      by_cases v:j=nb-1;·rw[v];exact e
      ·exact O.tr _ _ _ (114 _) (114 _) `ax (sb j (nb-1) (Hq _) `b `b) e) (by rw[oV];rfl)
     have hab:∀i,i<m->37 a i b (nb-1):=λi hi=>by
      have e:=(144 i).mpr hi;exact O.tot _ _ (114 _) `ax (λe=>ne i (nb-1) `b `b e.symm) `bT
     by_cases v:na-m>0
     ·rw[Z3 v];by_cases u:m=0
      ·rw[Z3 (by simpa using u)];exact GQ ⟨al,.inl ⟨_,_,`a,endA _ _ _ _ al J1 q4 u⟩⟩
      ·rw[Z4 (by simpa using u)];exact pB _ _ _ _ _ _ _ al J1 `b q2 `b q4 `b hab
     ·rw[Z4 v];have:m=na:=`b
      subst this;exact pB _ _ _ _ _ _ _ al J q1 q2 q3 q4 `b hab
end
def iK:Nat->StateT Jf Sem Bool:=sortPriv%PySem.Builtin.mergeAt
def putAt(xs:`F)(off:Nat)(m:`F):`F:=m.toList.zipIdx.foldl (λa(x:GR×Nat)=>a.setIfInBounds (off+x.2) x.1) xs
theorem qu(i:Nat):iK i=(do
 let s <-get
 let (some (sa,na,power),some (sb,nb,_)):=((pendingOf s)[i]?,(pendingOf s)[i+1]?)|unsupported "internal:list.sort.pending"
 set (Lc (kindOf s) (arrOf s) (156 ((pendingOf s).setIfInBounds i (sa,na+nb,power)) i 1) (gallopOf s)<|failedOf s)
 let some k <-fq false (<-elem' (arrOf s) sb) (arrOf s) sa na 0|return false
 let (sa,na):=(sa+k,na-k)
 if na==0 then return true
 let some nb <-fq true (<-elem' (arrOf s) (sa+na-1)) (arrOf s) sb nb (nb-1)|return false
 if nb==0 then return true
 let x:=(arrOf s).extract sa sb
 let y:=(arrOf s).extract sb (sb+nb)
 let merged <-if na<=nb then m7 x y else m8 x y
 modify λs=>setArr s (putAt (arrOf s) sa merged)
 return (failedOf (<-get)).isNone):=rfl
theorem xH:∀(m:List GR)(off j0:Nat)(xs:`F),off+j0+m.length<=xs.size->
  ((m.zipIdx j0).foldl (λa(x:GR×Nat)=>a.setIfInBounds (off+x.2) x.1) xs).size=xs.size/\∀i,at' ((m.zipIdx j0).foldl (λa(x:GR×Nat)=>a.setIfInBounds (off+x.2) x.1) xs) i=if off+j0<=i/\i<off+j0+m.length then m.getD (i-(off+j0)) (Hl,Hl)else 51 xs
 | [],off,j0,xs,h=>15 λi=>by rw[Z4 `g];rfl
 |x::m,off,j0,xs,h=>by
  simp only[Ja]at h;have ih:=xH m off (j0+1) (xs.setIfInBounds (off+j0) x) (by rw[Na];omega);rw[Kt,Mk];refine⟨ih.1.trans<|Na ..,λi=>?_⟩;rw[ih.2];have e:at' (xs.setIfInBounds (off+j0) x) i=if i=off+j0 then x else 51 xs:=by
   simp only[at',HS];by_cases z:i=off+j0;·rw[Z3 z,z,Array.getElem?_setIfInBounds_self_of_lt `b];rfl
   ·rw[Z4 z,LV `b]
  by_cases z1:off+(j0+1)<=i/\i<off+(j0+1)+m.length
  ·rw[Z3 z1,Z3 (by simp;omega),show i- (off+j0)=(i-(off+(j0+1)))+1 by omega];rfl
  ·rw[Z4 z1,e];by_cases z2:i=off+j0;·rw[Z3 z2,Z3 (by simp;omega),z2,LN];rfl
   ·rw[Z4 z2,Z4 (by simp;omega)]
theorem xI{xs m:`F}{off:Nat}(h:off+m.size<=`aj):(putAt xs off m).size=xs.size/\∀i,at' (putAt xs off m) i=if off<=i/\i<off+m.size then at' m (i-off)else 51 xs:=by
 have:=xH m.toList off 0 xs `bL;refine⟨this.1,λi=>?_⟩;have e:=this.2 i;simp only[Nat.add_zero,HC]at e;refine e.trans ?_;by_cases z:off<=i/\i<off+m.size
 ·rw[Z3 z,Z3 z];simp[at',HS,IH]
 ·rw[Z4 z,Z4 z]
theorem xJ{xs m:`F}{off:Nat}(h:off+m.size<=`aj):(putAt xs off m).toList=ext' xs 0 off++m.toList++ext' xs (off+m.size) `aj:=by
 obtain⟨hs,ha⟩:=xI h;apply Jh;intro i;have l1:(ext' xs 0 off).length=off:=by rw[fh];simp;omega
 by_cases z:i<`aj
 ·rw[GP,eQ `b,ha];by_cases z1:i<off;·rw[`by,Hj,Hr `b,fh,Mz,HW `b,GP,eQ z]
  ·by_cases z2:i<off+m.size;·rw[Z3 `b,Hj,He `b,l1,Hr (by simpa using (by omega:i-off<m.size)),GP,eQ `b]
   ·rw[`by,He (by simp[l1];omega),fh];have:(ext' xs 0 off++m.toList).length=off+m.size:=by simp[l1]
    rw[this,HW `b,Iy,GP,show off+m.size+(i-(off+m.size))=i by omega,eQ z]
 ·have l2:(ext' xs (off+m.size) `aj).length=`aj-(off+m.size):=by rw[fh];simp
  rw[Ij (by simp;omega),Ij (by simp[l1,l2];omega)]
theorem xK{xs:`F}{a b i:Nat}(hb:b<=`aj)(hi:i<b-a):51 (xs.extract a b)=at' xs (a+i):=by
 have h1:i<(xs.extract a b).size:=by simp;omega
 have e:=eQ h1;rw[Array.getElem?_extract_of_lt `b]at e;have e2:=eQ (xs:=xs) (i:=a+i) `b;rw[Hb `b]at e2;exact(Ha e).symm.trans (Ha e2)
theorem xM{xs:`F}{a b:Nat}(hb:b<=`aj):(xs.extract a b).size=b-a:=by simp;omega
section
variable{M:Mv}{A:Hk}{E:`A}{s:Gx}{κ:Mf}{U:49 GR}{L:GR->GR->Bool}{a0:List GR}{st:Jf}
theorem rN(O:LtOk M A E s κ U L)(hU:∀x∈a0,U x)(nd:a0.Nodup){i sa na sb nb pw pw':Nat}{Q:11 Bool Jf}(B:SB κ a0 st)(p1:0 (`bz)[i]? (sa,na,pw))(p2:0 (`bz)[i+1]? (sb,nb,pw'))(hsb:sb=sa+na)(z1:0<na)(z2:0<nb)(hz:sb+nb<=`aO)
  (s1:Sr L `v sa sb) (s2:Sr L `v sb (sb+nb))
  (h:∀st',20 (SB κ a0 st') (`bf=156 ((`bz).setIfInBounds i (sa,na+nb,pw)) i 1) (Sr L `W sa<|sb+nb) (∀i,i<sa\/sb+nb<=i->51 `W=51 `v) (Q `o st')):wpS M A E s (iK i) Q st:=by
 have hs:=B.size;have uu:∀i,i<`aO->U (51 `v):=λi hi=>B.u hU hi;have nn:∀i j,i<`aO->j<`aO->i≠j->51 `v≠at' `v j:=λi j hi hj hij=>B.ne nd hi hj hij;rw[qu];refine GH (LP ?_);rw[p1,p2];dsimp only;refine GH (Jp (f:=λ_=>Lc (kindOf st) `v (156 ((`bz).setIfInBounds i (sa,na+nb,pw)) i 1) (gallopOf st) (failedOf st)) ?_);have B1:SB κ a0 (Lc (kindOf st) `v (156 ((`bz).setIfInBounds i (sa,na+nb,pw)) i 1) (gallopOf st)<|failedOf st):=⟨B.kind,B.failed,B.perm⟩
 refine GH (130<|GH<|eD O `aw (λi hi=>`aw) `b z1 B.kind (λi j hij hj hB=>?_) λk hk hB=>?_)
 ·have hB':1 (!L (at' `v sb) (at' `v<|sa+j)):=hB;show 1 (!L (at' `v sb) (at' `v<|sa+i));cases e:L (at' (arrOf st) sb) (at' (arrOf st)<|sa+i)with
  |false=>rfl
  |true=>
   rw[O.tr _ _ _ `aw `aw `aw e (s1 (sa+i) (sa+j) `b `b `b)]at hB';exact hB'
 have hB':∀i,i<na->(1 (!L (at' `v sb) (at' `v<|sa+i))↔i<k):=hB;have lo:∀i,sa<=i->i<sa+k->37 `v i `v sb:=λi h2 h3=>by
  have e:=(144<|i-sa).mpr `b;rw[show sa+(i-sa)=i by omega]at e;exact O.tot _ _ `aw `aw (nn _ _ `b `b `b) `bT
 have hi:∀i,sa+k<=i->i<sb->37 `v sb `v i:=λi h2 h3=>by
  cases e:L (at' (arrOf st) sb) (at' (arrOf st) i)with
  |true=>rfl
  |false=>exact 135 ((144<|i-sa).mp (by rw[show sa+(i-sa)=i by omega,e];rfl))
 have lob:∀i j,20 (sa<=i) (i<sa+k) (sb<=j) (j<sb+nb) (37 `v i `v j):=λi j h2 h3 h4 h5=>by
  by_cases y:j=sb;·rw[y];exact lo i h2 h3
  ·exact O.tr _ _ _ `aw `aw `aw (lo i h2 h3) (s2 sb j `w `b h5)
 dsimp only;by_cases y0:na-k=0
 ·rw[Z3 (by simpa using y0)];refine GQ (h _ B1 `a (λi j h2 h3 h4=>?_) `ah);show 37 `v i `v j;by_cases y1:j<sb;·exact s1 i j h2 h3 y1
  ·by_cases y2:sb<=i;·exact s2 i j y2 h3 h4
   ·exact lob i j h2 `b `b h4
 rw[Z4 (by simpa using y0)];have elast:sa+k+(na-k)-1=sb-1:=`b
 refine GH (130<|GH<|eD O `aw (λi hi=>`aw) `b `b B.kind (λi j hij hj hB=>?_) λm hm hM=>?_)
 ·have hB2:37 `v (sb+j) `v (sa+k+(na-k)-1):=hB;show 37 `v (sb+i) `v (sa+k+(na-k)-1);exact O.tr _ _ _ `aw `aw `aw (s2 (sb+i) (sb+j) `b `b `b) hB2
 have hM':∀i,i<nb->(37 `v (sb+i) `v (sb-1)↔i<m):=λi hi=>by
  have e:37 `v (sb+i) `v (sa+k+(na-k)-1)↔i<m:=hM i hi
  rwa [elast]at e
 have m1:0<m:=(hM' 0 z2).mp (hi _ `b `b);dsimp only;rw[Z4 (by simp;omega)];have xz:(111 (sa+k) sb).size=na-k:=by rw[xM `b];omega
 have yz:(111 sb<|sb+m).size=m:=by rw[xM `b];omega
 have xa:∀i,i<na-k->51 (111 (sa+k) sb)=at' `v (sa+k+i):=λi hi=>xK `b `b;have ya:∀i,i<m->51 (111 sb<|sb+m)=at' `v (sb+i):=λi hi=>xK `b `b;have fin:∀(r:Array GR)st',dt (Lc (kindOf st) `v (156 ((`bz).setIfInBounds i (sa,na+nb,pw)) i 1) (gallopOf st)<|failedOf st) st'->r.toList.Perm ((111 (sa+k) sb).toList++(111 sb<|sb+m).toList)->(r.toList.Pairwise λx y=>1<|L x y)->wpS M A E s (do
    modify λs=>setArr s (putAt (arrOf s) (sa+k) r)
    return (failedOf (<-get)).isNone) Q st':=by
  intro r st' al pm so;have e1:`W=`v:=al.2.1;have rz:r.size=na-k+m:=by
   have:=pm.length_eq;rw[HG,HC,HC,HC,xz,yz]at this;exact this
  have bd:sa+k+r.size<=(`W).size:=by rw[e1];omega
  obtain⟨pz,pa⟩:=xI bd;have pl:=xJ bd;refine GH (Jp<|GH<|LP<|GQ ?_);have ef:1 (failedOf<|setArr st'<|putAt `W (sa+k) r).isNone:=by
   show 1 (failedOf st').isNone;rw[al.2.2.2];show 1 (failedOf st).isNone;rw[B.failed];rfl
  rw[ef];have mem:∀i,sa+k<=i->i<sb+m->∃j,sa+k<=j/\j<sb+m/\at' r (i-(sa+k))=at' `v j:=λi h2 h3=>by
   have hr:at' r (i-(sa+k))∈r.toList:=by rw[gC `b];exact J9 _
   rcases HA.mp (pm.mem_iff.mp hr)with q|q
   ·obtain⟨j,q1,q2,q3⟩:=(cR (xs:=`v) `b).mp q;exact⟨j,q1,`b,q3⟩
   ·obtain⟨j,q1,q2,q3⟩:=(cR (xs:=`v) `b).mp q;exact⟨j,`b,q2,q3⟩
  refine h _ ⟨al.1.trans B.kind,by show 7 (failedOf st');rw[al.2.2.2];exact B.failed,?_⟩ al.2.2.1 (λi j h2 h3 h4=>?_) λi h2=>?_
  ·show(putAt `W (sa+k) r).toList.Perm a0;rw[pl,e1];refine List.Perm.trans ?_ B.perm;have ea:(`v).toList=ext' `v 0 (sa+k)++((111 (sa+k) sb).toList++(111 sb<|sb+m).toList)++ext' `v (sa+k+r.size) (`v).size:=by
    show _=ext' `v 0 (sa+k)++(ext' `v (sa+k) sb++ext' `v sb (sb+m))++ext' `v (sa+k+r.size) (`v).size;rw[show sa+k+r.size=sb+m by omega,<-eR (`b) (`b),<-eR (`b) (`b),<-eR (`b) (`b),jI]
   rw[ea];exact IK _ (IW _ pm)
  ·show 37 (putAt `W (sa+k) r) i (putAt `W (sa+k) r) j;rw[pa,pa,e1];have hib:∀x y,20 (sa+k<=x) (x<sb+m) (sb+m<=y) (y<sb+nb) (37 `v x `v y):=λx y g1 g2 g3 g4=>by
    have ey:37 `v (sb-1) `v y:=by
     refine O.tot _ _ `aw `aw (nn _ _ `b `b `b) ?_;cases e:L (at' (arrOf st) y) (at' (arrOf st)<|sb-1)with
     |false=>rfl
     |true=>exact 135 ((hM' (y-sb) `b).mp (by rw[show sb+(y-sb)=y by omega];exact e))
    by_cases g5:sb<=x;·exact s2 x y g5 `b g4
    ·by_cases g6:x=sb-1;·rw[g6];exact ey
     ·exact O.tr _ _ _ `aw `aw `aw (s1 x (sb-1) `b `b `b) ey
   by_cases c1:i<sa+k
   ·rw[`by];by_cases c2:sa+k<=j/\j<sa+k+r.size
    ·rw[Z3 c2];obtain⟨q,q1,q2,q3⟩:=mem j c2.1 `b;rw[q3];by_cases c3:q<sb;·exact s1 i q h2 `b c3
     ·exact lob i q h2 c1 `b `b
    ·rw[Z4 c2];by_cases c3:j<sb;·exact s1 i j h2 h3 c3
     ·exact lob i j h2 c1 `b h4
   ·by_cases c4:i<sa+k+r.size
    ·rw[Z3 `b];by_cases c5:j<sa+k+r.size
     ·rw[Z3 `b,gC `b,gC `b];exact JC.mp so _ _ _ _ `b
     ·rw[`by];obtain⟨q,q1,q2,q3⟩:=mem i `b `b;rw[q3];exact hib q j q1 q2 `b h4
    ·rw[`by,`by];exact s2 i j `b h3 h4
  ·show 51 (putAt `W (sa+k) r)=_;rw[pa,`by,e1]
 have xU:∀i,i<(111 (sa+k) sb).size->U (51<|111 (sa+k) sb):=λi hi=>by rw[xa i `b];exact `aw
 have yU:∀i,i<(111 sb<|sb+m).size->U (51<|111 sb<|sb+m):=λi hi=>by rw[ya i `b];exact `aw
 have xS:Sr L (111 (sa+k) sb) 0 (111 (sa+k) sb).size:=λi j g1 g2 g3=>by rw[xa i `b,xa j `b];exact s1 _ _ `b `b `b
 have yS:Sr L (111 sb<|sb+m) 0 (111 sb<|sb+m).size:=λi j g1 g2 g3=>by rw[ya i `b,ya j `b];exact s2 _ _ `b `b `b
 have xy:∀i j,i<(111 (sa+k) sb).size->j<(111 sb<|sb+m).size->51 (111 (sa+k) sb)≠at' (111 sb<|sb+m) j:=λi j g1 g2=>by rw[xa i `b,ya j `b];exact nn _ _ `b `b `b
 have f0:37 (111 sb<|sb+m) 0 (111 (sa+k) sb) 0:=by rw[xa 0 `b,ya 0 m1];exact hi _ `b `b
 have f1:∀j,j<(111 sb<|sb+m).size->37 (111 sb<|sb+m) j (111 (sa+k) sb) ((111 (sa+k) sb).size-1):=λj g1=>by
  rw[xa _ `b,ya j `b,xz,show sa+k+(na-k-1)=sb-1 by omega];exact(hM' j `b).mpr `b
 by_cases w:na-k<=m
 ·rw[Z3 w];exact GH (rL O B.kind xU yU `b `b xS yS xy f0 f1 fin)
 ·rw[Z4 w];exact GH (rM O B.kind xU yU `b `b xS yS xy f0 f1 fin)
end
def tS:Nat->Nat->Nat->Nat:=sortPriv%PySem.Builtin.minRun
def rO:20 Nat Nat Nat Nat Nat:=sortPriv%PySem.Builtin.power
theorem oX:sortRuns'=(do
 let size:=(arrOf<|<-get).size
 let minrun:=tS size size 0
 let mut lo:=0
 for _ in [0:size]do
  if lo≥size then break
  let some found <-countRun' lo (size-lo)|return
  let mut n:=found
  if n<minrun then
   rule "list.sort.binary-insertion"
   let force:=min (size-lo) minrun
   if !(<-binarySort' lo force n)then return
   n:=force
  if let some (s1,n1,_):=(pendingOf<|<-get).back? then
   let pw:=rO size (2*s1+n1) (2*s1+n1+n1+n) size
   for _ in [0:size]do
    let p:=pendingOf (<-get)
    let some (_,_,older):=(if p.size>1 then p[p.size-2]? else none)|break
    if older<=pw then break
    if !(<-iK (p.size-2))then return
   modify λs=>Lc (kindOf s) (arrOf s) ((pendingOf s).modify ((pendingOf s).size-1) λ(st,len,_)=>(st,len,pw)) (gallopOf s) (failedOf s)
  modify λs=>Lc (kindOf s) (arrOf s) ((pendingOf s).push (lo,n,0)) (gallopOf s) (failedOf s)
  lo:=lo+n
 for _ in [0:size]do
  let p:=pendingOf (<-get)
  if p.size<=1 then break
  let i:=p.size-2
  let before:=if i>0 then p[i-1]?.map (·.2.1)else none
  let i:=if before.any (· <(p[i+1]?.elim 0 (·.2.1)))then i-1 else i
  if !(<-iK i)then return):=rfl
def rsP(p:Array (Nat×Nat×Nat)):6 Nat Nat:=p.toList.map λt=>(t.1,t.2.1)
def Chain:82 Nat (6 Nat Nat) Nat
 |a,[],b=>a=b
 |a,t::r,b=>2 t.1 a (0<t.2) (Chain (a+t.2) r b)
theorem fV:∀(l r:List (Nat×Nat))(a b:Nat),Chain a (l++r) b↔∃c,Chain a l c/\Chain c r b
 | [],r,a,b=>⟨λh=>32 a h,λ⟨c,h1,h2⟩=>by cases h1;exact h2⟩
 |t::l,r,a,b=>by
  constructor
  ·rintro ⟨h1,h2,h3⟩;obtain⟨c,h4,h5⟩:=(fV l r _ b).mp h3;exact⟨c,⟨h1,h2,h4⟩,h5⟩
  ·rintro ⟨c,⟨h1,h2,h4⟩,h5⟩;exact⟨h1,h2,(fV l r _ b).mpr ⟨c,h4,h5⟩⟩
theorem gS:∀{l:List (Nat×Nat)}{a b:Nat},Chain a l b->a+`ag<=b/\∀t∈l,a<=t.1/\t.1+t.2<=b
 | [],a,b,h=>by cases h;exact⟨`g,λt ht=>by cases ht⟩
 |t::l,a,b,⟨h1,h2,h3⟩=>by
  have ih:=gS h3;refine⟨by have:=ih.1;simp;omega,λu hu=>?_⟩;rcases GI.mp hu with rfl|hu
  ·have:=ih.1;omega
  ·have:=ih.2 u hu;omega
structure Rn(L:GR->GR->Bool)(p:Array (Nat×Nat×Nat))(xs:`F)(lo:Nat):Prop where
 ch:Chain 0 (rsP p) lo
 so:∀t∈rsP p,Sr L xs t.1 (t.1+t.2)
theorem oY{S:Type}:∀(l:List S)(i:Nat)(x y:S),0 l[i]? x->0 l[i+1]? y->l=l.take i++x::y::l.drop (i+2)
 | [],i,x,y,h,_=>by simp at h
 |a::l,0,x,y,h1,h2=>by
  cases l with
  |nil=>simp at h2
  |cons b l=>
   simp at h1 h2;subst h1 h2;simp
 |a::l,i+1,x,y,h1,h2=>by
  have:=oY l i x y (by simpa using h1) (by simpa using h2);simp only[List.take_succ_cons,List.drop_succ_cons,M4];exact congrArg (a:: ·) this
theorem qv{p:Array (Nat×Nat×Nat)}{i:Nat}{x y z:Nat×Nat×Nat}(h1:0 p[i]? x)(h2:0 p[i+1]? y):(156 (p.setIfInBounds i z) i 1).toList=p.toList.take i++z::p.toList.drop (i+2):=by
 have hl:i+1<p.size:=(HZ.mp h2).1;have e:=oY p.toList i x y (by rw[GP];exact h1) (by rw[GP];exact h2);have e1:(156 (p.setIfInBounds i z) i 1).toList=(p.toList.set i z).eraseIdx (i+1):=by
  rw[LW,La]
 rw[e1];have tl:(p.toList.take i).length=i:=by simp;omega
 conv=>lhs;rw[e]
 rw[List.set_append_right _ _ `b,tl,LN,Lz,List.eraseIdx_append_of_length_le `b,tl,show i+1-i=1 by omega];rfl
theorem Rn.merge{L:GR->GR->Bool}{p:Array (Nat×Nat×Nat)}{xs xs':`F}{lo i sa na pw sb nb pw':Nat}(R:Rn L p xs lo)(h1:0 p[i]? (sa,na,pw))(h2:0 p[i+1]? (sb,nb,pw'))
  (hs:Sr L xs' sa (sb+nb)) (ho:∀i,i<sa\/sb+nb<=i->51 xs'=51 xs):Rn L (156 (p.setIfInBounds i (sa,na+nb,pw)) i 1) xs' lo/\sb=sa+na/\0<na/\0<nb/\sb+nb<=lo:=by
 have e:=oY p.toList i _ _ (by rw[GP];exact h1) (by rw[GP];exact h2);have er:rsP p=((p.toList.take i).map λt=>(t.1,t.2.1))++(sa,na)::(sb,nb)::(p.toList.drop<|i+2).map (λt=>(t.1,t.2.1)):=by
  unfold rsP;conv=>lhs;rw[e]
  simp
 have er2:rsP (156 (p.setIfInBounds i (sa,na+nb,pw)) i 1)=((p.toList.take i).map λt=>(t.1,t.2.1))++(sa,na+nb)::(p.toList.drop<|i+2).map (λt=>(t.1,t.2.1)):=by
  unfold rsP;rw[qv h1 h2];simp
 have ch:=R.ch;have so:=R.so;rw[er]at ch so;generalize (p.toList.take i).map (λt=>(t.1,t.2.1))=l1 at*
 generalize (p.toList.drop<|i+2).map (λt=>(t.1,t.2.1))=l2 at*
 obtain⟨c,c1,c2,c3,c4,c5,c6⟩:=(fV _ _ _ _).mp ch;dsimp only at c2 c3 c4 c5 c6;subst c2;have l6:=gS c6;have l1':=gS c1;refine⟨⟨?_,λt ht=>?_⟩,`b,c3,c5,`b⟩
 ·rw[er2];exact(fV _ _ _ _).mpr ⟨sa,c1,rfl,by show 0<na+nb;omega,by show Chain (sa+(na+nb)) l2 lo;rw[<-QQ];exact c6⟩
 ·rw[er2]at ht;have keep:∀t:Nat×Nat,Sr L xs t.1 (t.1+t.2)->t.1+t.2<=sa\/sb+nb<=t.1->Sr L xs' t.1 (t.1+t.2):=λt h h3 i j g1 g2 g3=>by
   rw[ho i `b,ho j `b];exact h i j g1 g2 g3
  rcases HA.mp ht with ht|ht;·exact keep t (so t<|by simp[ht]) (.inl (l1'.2 t ht).2)
  ·rcases GI.mp ht with rfl | ht
   ·show Sr L xs' sa (sa+(na+nb));rw[<-QQ,<-c4];exact hs
   ·exact keep t (so t<|by simp[ht]) (.inr (by have:=(l6.2 t ht).1;omega))
theorem Rn.two{L:GR->GR->Bool}{p:Array (Nat×Nat×Nat)}{xs:`F}{lo i sa na pw sb nb pw':Nat}(R:Rn L p xs lo)(h1:0 p[i]? (sa,na,pw))(h2:0 p[i+1]? (sb,nb,pw')):25 sb (sa+na) (0<na) (0<nb) (sb+nb<=lo) (Sr L xs sa sb/\Sr L xs sb (sb+nb)):=by
 have e:=oY p.toList i _ _ (by rw[GP];exact h1) (by rw[GP];exact h2);have er:rsP p=((p.toList.take i).map λt=>(t.1,t.2.1))++(sa,na)::(sb,nb)::(p.toList.drop<|i+2).map (λt=>(t.1,t.2.1)):=by
  unfold rsP;conv=>lhs;rw[e]
  simp
 have ch:=R.ch;have so:=R.so;rw[er]at ch so;obtain⟨c,c1,c2,c3,c4,c5,c6⟩:=(fV _ _ _ _).mp ch;dsimp only at c2 c3 c4 c5 c6;have l6:=gS c6;have s1:Sr L xs sa (sa+na):=so (sa,na) `g;have s2:Sr L xs sb (sb+nb):=so (sb,nb) `g;exact⟨`b,c3,c5,`b,by rw[show sb=sa+na by omega];exact s1,s2⟩
theorem Rn.keep{L:GR->GR->Bool}{p:Array (Nat×Nat×Nat)}{xs xs':`F}{lo:Nat}(R:Rn L p xs lo)(ho:∀i,i<lo->51 xs'=51 xs):Rn L p xs' lo:=
 ⟨R.ch,λt ht i j g1 g2 g3=>by
  have:=(gS R.ch).2 t ht;rw[ho i `b,ho j `b];exact R.so t ht i j g1 g2 g3⟩
theorem Rn.push{L:GR->GR->Bool}{p:Array (Nat×Nat×Nat)}{xs:`F}{lo n w:Nat}(R:Rn L p xs lo)(hn:0<n)(hs:Sr L xs lo (lo+n)):Rn L (p.push (lo,n,w)) xs (lo+n):=by
 have e:rsP (p.push (lo,n,w))=rsP p++[(lo,n)]:=by unfold rsP;simp
 refine⟨by rw[e];exact(fV _ _ _ _).mpr ⟨lo,R.ch,`a,hn,`a⟩,λt ht=>?_⟩;rw[e]at ht;rcases HA.mp ht with ht|ht
 ·exact R.so t ht
 ·have:t=(lo,n):=by simpa using ht
  subst this;exact hs
theorem m9(p:Array (Nat×Nat×Nat))(i w:Nat):rsP (p.modify i λ(st,len,_)=>(st,len,w))=rsP p:=by
 unfold rsP;apply Jh;intro j;rw[GK,GK,GP,GP,Array.getElem?_modify];by_cases z:i=j
 ·rw[Z3 z];cases p[j]? <;>rfl
 ·rw[Z4 z]
theorem Rn.mod{L:GR->GR->Bool}{p:Array (Nat×Nat×Nat)}{xs:`F}{lo:Nat}(R:Rn L p xs lo)(i w:Nat):Rn L (p.modify i λ(st,len,_)=>(st,len,w)) xs lo:=⟨by rw[m9];exact R.ch,by rw[m9];exact R.so⟩
theorem tU(p:Array (Nat×Nat×Nat)):(rsP p).length=p.size:=by unfold rsP;simp
theorem vj{p:Array (Nat×Nat×Nat)}{i:Nat}{z:Nat×Nat×Nat}(h:i+1<p.size):(156 (p.setIfInBounds i z) i 1).size=p.size-1:=by
 rw[<-HC,LW,La,Oi,PL,HC,Z3 h]
section
variable{M:Mv}{A:Hk}{E:`A}{s:Gx}{κ:Mf}{U:49 GR}{L:GR->GR->Bool}{a0:List GR}{st:Jf}
theorem rP(O:LtOk M A E s κ U L)(hU:∀x∈a0,U x)(nd:a0.Nodup){i lo:Nat}{Q:11 Bool Jf}(B:SB κ a0 st)(R:Rn L `bz `v lo)(hi:i+1<(`bz).size)(hlo:lo<=`aO)
  (h:∀st',20 (SB κ a0 st') (Rn L `bf `W lo) ((`bf).size=(`bz).size-1) (∀i,lo<=i->51 `W=51 `v) (Q `o st')):wpS M A E s (iK i) Q st:=by
 obtain⟨⟨sa,na,pw⟩,h1⟩:∃t,0 (`bz)[i]? t:=42 (Hb `b)
 obtain⟨⟨sb,nb,pw'⟩,h2⟩:∃t,0 (`bz)[i+1]? t:=42 (Hb hi)
 obtain⟨t1,t2,t3,t4,t5,t6⟩:=R.two h1 h2;refine rN O hU nd B h1 h2 t1 t2 t3 `b t5 t6 λst' B' ep s' o'=>?_;have:=(R.merge h1 h2 s' o').1;refine h st' B' (by rw[ep];exact this) (by rw[ep];exact vj hi) λi hi=>o' i (.inr `b)
theorem qw(O:LtOk M A E s κ U L)(hU:∀x∈a0,U x)(nd:a0.Nodup){Q:11 Unit Jf}(B:SB κ a0 st)(hp:`bz=#[])(h:∀st',SB κ a0 st'->Sr L `W 0 `aO->Q () st'):wpS M A E s sortRuns' Q st:=by
 have hs:=B.size;rw[oX];refine GH (LP ?_);dsimp only;rw[hs];generalize tS a0.length a0.length 0=mr;refine GH<|Kw (IB (I:=λx c st'=>SB κ a0 st'/\∃lo,2 c (none,lo) (x<=lo) (lo<=`aO/\Rn L `bf `W lo)) (Q:=λc st'=>SB κ a0 st'/\∃lo,c=(none,lo)/\Rn L `bf `W `aO) ?step ?fin ?init) ?post
 case init=>exact⟨B,0,`a,`w,Hq _,by rw[hp];exact 15 λt ht=>by cases ht⟩
 case fin=>
  rintro c st' ⟨B',lo,rfl,q1,q2,R⟩;have:lo=`aO:=`b
  subst this;exact⟨B',_,`a,R⟩
 case post=>
  rintro c st1 ⟨B1,lo,rfl,R1⟩;dsimp only;refine GH<|Kw (IB (I:=λx c st'=>2 c (none,()) (SB κ a0 st') (Rn L `bf `W `aO/\((`bf).size<=1\/(`bf).size+x<=`aO))) (Q:=λc st'=>2 c (none,()) (SB κ a0 st') (Rn L `bf `W `aO/\(`bf).size<=1)) ?fstep ?ffin ?finit) ?fpost
  case finit=>
   refine⟨`a,B1,R1,.inr ?_⟩;have:=(gS R1.ch).1;rw[tU]at this;omega
  case ffin=>
   rintro c st' ⟨rfl,B',R',q⟩;exact⟨`a,B',R',`b⟩
  case fstep=>
   rintro x c st' _ hx ⟨rfl,B',R',q⟩;refine GH (LP ?_);by_cases z:(`bf).size<=1;·rw[Z3 z];exact GQ ⟨`a,B',R',z⟩
   ·rw[Z4 z];have hb:∀(c:Prop)[Decidable c],(if c then(`bf).size-2-1 else(`bf).size-2)+1<(`bf).size:=λc _=>by split<;>omega
    refine GH (rP O hU nd B' R' (hb _) `w λst2 B2 R2 e2 _=>?_);exact GQ ⟨`a,B2,R2,`b⟩
  case fpost=>
   rintro c st' ⟨rfl,B',R',q⟩;refine GQ (h st' B' ?_);have ch:=R'.ch;have so:=R'.so;have hl:=tU `bf;generalize rsP (pendingOf st')=l at*
   match l,hl with
   | [],_=>
    have:0=`aO:=ch;intro i j g1 g2 g3;omega
   | [t],_=>
    obtain⟨c1,c2,c3⟩:=ch;have c4:0+t.2=`aO:=c3;have:=so t `g;rw[c1,c4]at this;exact this
   |_::_::_,hl=>simp at hl;omega
 case step=>
  rintro x c st1 _ hx ⟨B1,lo,rfl,q1,q2,R1⟩;dsimp only;by_cases z:lo≥`aO
  ·rw[Z3 z];have:lo=`aO:=`b
   subst this;exact GQ ⟨B1,_,`a,R1⟩
  rw[Z4 z];refine GH (BQ O hU nd `b `b B1 λn st2 n1 n2 B2 e2 s2 o2=>?_);dsimp only;by_cases y:n<mr
  ·rw[Z3 y];refine GH (Nk<|J7<|15 ?_);refine GH (zI O hU nd `b `b B2 s2 λst3 B3 e3' s3 o3'=>?_);rw[`aZ];have e3:pendingOf st3=pendingOf st1:=e3'.trans e2;have o3:∀i,i<lo->51 (arrOf st3)=51 (arrOf st1):=λi hi=>(o3' i<|.inl hi).trans (o2 i<|.inl hi);refine GH (LP ?_);have R3:Rn L (pendingOf st3) (arrOf st3) lo:=by rw[e3];exact R1.keep o3
   cases hb:(pendingOf st3).back? with
   |none=>
    dsimp only;exact GH (Jp<|GQ ⟨⟨B3.kind,B3.failed,B3.perm⟩,lo+min (`aO-lo) mr,`a,`b,`b,R3.push `b s3⟩)
   |some t=>
    obtain⟨t1,t2,t3⟩:=t;dsimp only;generalize rO a0.length (2*t1+t2) (2*t1+t2+t2+min (a0.length-lo) mr) a0.length=pw;refine GH<|Kw (IB (I:=λy c st'=>2 c (none,()) (SB κ a0 st') (Rn L `bf `W lo/\Sr L `W lo (lo+min (`aO-lo) mr))) (Q:=λc st'=>2 c (none,()) (SB κ a0 st') (Rn L `bf `W lo/\Sr L `W lo (lo+min (`aO-lo) mr))) ?ms ?mf ?mi) ?mp
    case mi=>exact⟨`a,B3,R3,s3⟩
    case mf=>exact λc st' h=>h
    case ms=>
     rintro y c st4 _ hy ⟨rfl,B4,R4,s4⟩;refine GH (LP ?_);by_cases w:(pendingOf st4).size>1
     ·rw[Z3 w];obtain⟨⟨u1,u2,u3⟩,hu⟩:∃t,0 (pendingOf st4)[(pendingOf st4).size-2]? t:=42 (Hb `b)
      rw[hu];dsimp only;by_cases v:u3<=pw;·rw[Z3 v];exact GQ ⟨`a,B4,R4,s4⟩
      ·rw[Z4 v];refine GH (rP O hU nd B4 R4 `b `b λst5 B5 R5 _ o5=>?_);exact GQ ⟨`a,B5,R5,λi j g1 g2 g3=>by rw[o5 i g1,o5 j `b];exact s4 i j g1 g2 g3⟩
     ·rw[Z4 w];exact GQ ⟨`a,B4,R4,s4⟩
    case mp=>
     rintro c st4 ⟨rfl,B4,R4,s4⟩;dsimp only;exact GH (Jp<|GH<|Jp<|GQ ⟨⟨B4.kind,B4.failed,B4.perm⟩,lo+min (`aO-lo) mr,`a,`b,`b,(R4.mod _ _).push `b s4⟩)
  ·rw[Z4 y];have B3:=B2;have s3:=s2;have e3:=e2;have o3:∀i,i<lo->51 (arrOf st2)=51 (arrOf st1):=λi hi=>o2 i (.inl hi);refine GH (LP ?_);have R3:Rn L (pendingOf st2) (arrOf st2) lo:=by rw[e3];exact R1.keep o3
   cases hb:(pendingOf st2).back? with
   |none=>
    dsimp only;exact GH (Jp<|GQ ⟨⟨B3.kind,B3.failed,B3.perm⟩,lo+n,`a,`b,`b,R3.push `b s3⟩)
   |some t=>
    obtain⟨t1,t2,t3⟩:=t;dsimp only;generalize rO a0.length (2*t1+t2) (2*t1+t2+t2+n) a0.length=pw;refine GH<|Kw (IB (I:=λy c st'=>2 c (none,()) (SB κ a0 st') (Rn L `bf `W lo/\Sr L `W lo (lo+n))) (Q:=λc st'=>2 c (none,()) (SB κ a0 st') (Rn L `bf `W lo/\Sr L `W lo (lo+n))) ?ms ?mf ?mi) ?mp
    case mi=>exact⟨`a,B3,R3,s3⟩
    case mf=>exact λc st' h=>h
    case ms=>
     rintro y c st4 _ hy ⟨rfl,B4,R4,s4⟩;refine GH (LP ?_);by_cases w:(pendingOf st4).size>1
     ·rw[Z3 w];obtain⟨⟨u1,u2,u3⟩,hu⟩:∃t,0 (pendingOf st4)[(pendingOf st4).size-2]? t:=42 (Hb `b)
      rw[hu];dsimp only;by_cases v:u3<=pw;·rw[Z3 v];exact GQ ⟨`a,B4,R4,s4⟩
      ·rw[Z4 v];refine GH (rP O hU nd B4 R4 `b `b λst5 B5 R5 _ o5=>?_);exact GQ ⟨`a,B5,R5,λi j g1 g2 g3=>by rw[o5 i g1,o5 j `b];exact s4 i j g1 g2 g3⟩
     ·rw[Z4 w];exact GQ ⟨`a,B4,R4,s4⟩
    case mp=>
     rintro c st4 ⟨rfl,B4,R4,s4⟩;dsimp only;exact GH (Jp<|GH<|Jp<|GQ ⟨⟨B4.kind,B4.failed,B4.perm⟩,lo+n,`a,`b,`b,(R4.mod _ _).push `b s4⟩)
end
end Wb
namespace Wb
open PySem PySem.W PySem.Calls PyProof.Rows
theorem tV{S β:Type}{f:S->β}:∀{l:List S},(l.map f).Nodup->∀{x y:S},x∈l->y∈l->f x=f y->x=y
 | [],_,x,_,hx,_,_=>by cases hx
 |a::l,nd,x,y,hx,hy,e=>by
  rw[Hm,Io]at nd;rcases GI.mp hx with q|q
  ·rcases GI.mp hy with q' | q';·rw[q,q']
   ·exact absurd (HK.mpr ⟨y,q',by rw[<-e,q]⟩) nd.1
  ·rcases GI.mp hy with q' | q';·exact absurd (HK.mpr ⟨x,q,by rw[e,q']⟩) nd.1
   ·exact tV nd.2 q q' e
theorem oZ{S:Type}(l:`z):l.zip l=l.map λx=>(x,x):=by
 induction l with
 |nil=>rfl
 |cons a l ih=>rw[MI,ih];rfl
section
variable{prog:GJ}{w:GW}{A:Hk}{E:`A}{s:Gx}
theorem Dx{key:Gu->`m}{vs:`aq}(hp:∀v∈vs,PairAt `i v (key v))(nd:(vs.map key).Nodup):LtOk (model `r w) A E s (tuples' `o) (λx=>x∈vs.zip vs) (λx y=>pq (key x.1)<|key y.1) where
 lt:=λx y st Q hx hy kd h=>by
  have h1:=hp _ (Lj hx).2;have h2:=hp _ (Lj hy).2;rw[lt'_eq];refine GH (LP<|GH<|Nk<|IU ?_);rw[kd];exact zH h1 h2 (15<|GQ h)
 tr:=λx y z _ _ _ h1 h2=>BP h1 h2
 tot:=λx y hx hy hne h=>zG (λe=>hne (by
  have e1:=tV nd (Lj hx).2 (Lj hy).2 e;have:=(Lj hx).1;have:=(Lj hy).1;exact ME e1 (by simp_all))) h
 irr:=λx=>tQ _
theorem xN{a:Addr}{vs:`aq}{key:Gu->`m}{n:Nat}{P:68 PySem.Fin}(ho:22 a (seqObj "list" vs.toArray n))(hp:∀v∈vs,PairAt `i v (key v))(nd:(vs.map key).Nodup)(hl:69 `aK)
  (h:∀out:List Gu,out.Perm vs->(out.map key).Pairwise (λx y=>1<|pq x y)->P (.done<|.ret .none) {s with heap:=sortedHeap s.heap a vs out.toArray}):
  85 w A (J4.«list.sort» ⟨[.ref a],[]⟩) P E:=by
 rw[list_sort_plain];have ha:a<`bk:=GG ho;refine Gn (listItems_at ho `a ?_);refine Gn (OE ho `a ?_ (by rw[GN];exact hl)<|Hq _);obtain⟨e1,ho1⟩:∃e1,125 (s.heap.update a<|Kb λ_=>#[]) a (seqObj "list" #[] e1):=42 (get?_update_seq ho λ_=>#[])
 refine Gn (PH ho1 `a ?_);refine Gn (Od ?_ (by show `aK<=_;exact hl));refine Gn (QR ?_<|Hq _);refine HN ?_;have ho6:125 (((s.heap.update a<|Kb λ_=>#[]).push<|seqObj "tuple" vs.toArray 0).push<|seqObj "list" #[] 0) a (seqObj "list" #[] e1):=by
  rw[Pd _ _ _ (by rw[size_push',Ng];exact GY (MT ha)),Pd _ _ _ (by rw[Ng];exact GY ha)];exact ho1
 show wpAny (model `r w) A _ P E {s with heap:=((s.heap.update a<|Kb λ_=> #[]).push (seqObj "tuple" vs.toArray 0)).push (seqObj "list" #[] 0)};dsimp only;by_cases h2:vs.toArray.size<2
 ·rw[Z3 h2,Z3 h2];refine Gn `B;rw[StateT.run_pure];refine Gn `B;dsimp only;refine Gn (PH ho6 `a ?_);have e:(arrOf<|Lc general' (vs.toArray.zip vs.toArray) #[] 7 `j).map (·.2)=vs.toArray:=by
   show(vs.toArray.zip vs.toArray).map (·.2)=_;apply Py.mp;simp only[Pw,Array.toList_zip,Pz,GC]
  rw[e];refine Gn (OE ho6 `a ?_ (Hq _) (by rw[GN];exact MY hl));simp only[bne_self_eq_false,Hg,if_false];refine Gv (h vs `s ?_);have h3:`aK<2:=by simpa using h2
  match vs,h3 with
  | [],_=>exact KY
  | [v],_=>exact LC _ _
  |_::_::_,h3=>simp at h3;omega
 ·rw[Z4 h2,Z4 h2];have hp2:∀v∈vs,PairAt (((s.heap.update a<|Kb λ_=>#[]).push<|seqObj "tuple" vs.toArray 0).push<|seqObj "list" #[] 0) v (key v):=λv hv=>by
   obtain⟨b,o,t1,t2,m,q2,q3,q4,q5⟩:=hp v hv;have hb:b≠a:=λz=>by subst z;rw[ho]at q3;cases q3;exact absurd q4 (by show ¬(M1 "list"=M1 "tuple");decide)
   exact⟨b,o,t1,t2,m,q2,17<|17<|(Ht _ _<|JI hb).trans q3,q4,q5⟩
  obtain⟨fs,l1,l2,l3⟩:=tR (h:=((s.heap.update a<|Kb λ_=>#[]).push<|seqObj "tuple" vs.toArray 0).push (seqObj "list" #[] 0)) (vs:=vs) (ks:=vs.map key) ⟨`g,λi v e=>⟨key v,by rw[GK,e];rfl,hp2 v (H9 e)⟩⟩;have h3:2<=`aK:=by simp at h2;exact h2
  refine Gn (kat_kind (T:=.type "int") l2 (by rw[l1];omega) (λv hv=>?_) ⋯ ?_)
  ·obtain⟨i,t,rfl⟩:=l3 v hv;exact .now
  rw[show 1 (M1 "int" !=M1 "tuple") from `ac];have O:=Dx (prog:=prog) (w:=w) (A:=A) (E:=E) (s:={s with heap:=((s.heap.update a<|Kb λ_=> #[]).push (seqObj "tuple" vs.toArray 0)).push (seqObj "list" #[] 0)}) hp2 nd;have za:(vs.toArray.zip vs.toArray).toList=vs.zip vs:=`g
  have ndz:(vs.zip vs).Nodup:=by
   rw[oZ,I9,Kn];have nv:vs.Nodup:=I9.mpr ((Kn.mp<|I9.mp nd).imp λh e=>h<|by rw[e]);exact(I9.mp nv).imp λh e=>h (congrArg Prod.fst e)
  have lz:(vs.zip vs).length=`aK:=`g
  refine Gn (Ic (qw (Q:=λ_ st'=>SB (tuples' `o) (vs.zip vs) st'/\Sr (λx y=>pq (key x.1)<|key y.1) `W 0 (vs.zip vs).length) O (λx hx=>hx) ndz (st:=Lc (tuples' `o) (vs.toArray.zip vs.toArray) #[] 7 `j) (32 `a<|by show(vs.toArray.zip vs.toArray).toList.Perm _;rw[za]) `a λst' B Z1=>⟨B,Z1⟩) ?_ λ_ _ e=>e);rintro ⟨⟨⟩,st'⟩ s' ⟨rfl,B,Z1⟩;dsimp only at B Z1 ⊢;have hz:=B.size;have mem:∀x∈(arrOf st').toList,x.1=x.2:=λx hx=>(Lj<|B.perm.mem_iff.mp hx).1;refine Gn (PH ho6 `a ?_);refine Gn (OE ho6 `a ?_ (Hq _) (by rw[Array.size_map,hz,lz];exact MY hl));rw[B.failed];simp only[bne_self_eq_false,Hg,if_false];have eo:(`W).map (·.2)=((`W).toList.map λx:GR=>x.2).toArray:=by apply Py.mp;simp
  rw[eo];refine Gv (h ((`W).toList.map λx:GR=>x.2) ?_ ?_)
  ·have:=B.perm.map (·.2);rw[Pz `w]at this;exact this
  ·rw[JK,Kn,JC];intro i j hi hj hij;have hj2:j<(`W).size:=by simpa using hj
   have:=Z1 i j (Hq _) hij `b;rw[gC (by simpa using hi),gC (by simpa using hj)]at this;show 1 (pq (key ((`W).toList[i]).2)<|key ((`W).toList[j]).2);rw[<-mem _ (J9 hi),<-mem _ (J9 hj)];exact this
end
section
variable{prog:GJ}{w:GW}{K:Type}[DecidableEq K]{knd:KeyKind `r w K}{A:Hk}{E:`A}{s:Gx}
theorem vm{a x:Addr}{o:Obj}{es:Array (`c×Gu)}{ep:Nat}{t:ID}{led:Bool}{ks:List (List K)}{kx:List K}(hu:A.units+1<cLine)(Z1:SetT knd `i a led ks o es ep t)(hn:`ad<1000)(hx:Kc knd `i kx x)(hI:∀k∈kx,∀v,1 (knd.is k v)->∃i t,v=.int i t){Q:`A}
  (h1:kx∈ks->∀tk,Q .none {s with toks:=tk}) (h2:kx∉ks->∀tk h' ks' o' es' ep' t',GU a s.heap h'->SetT knd h' a led ks' o' es' ep' t'->ks'.Perm (kx::ks)->es'.toList.Perm ((109 kx,`bd)::es.toList)->Q .none {s with heap:=h',toks:=tk}):
  85 w A (call (.builtin "set.add") [.ref a,.ref x]) Q E:=by
 have hT:s.TypeIs `ai "set":=⟨o,Z1.at_,Z1.ex.1⟩
 refine Hv F.slot_set_add hT F.entry_set_add ?_ (F.args_set_add_2 _ _);unfold J4.«set.add» Qc;simp only[List.isEmpty_nil,bind_assoc];unfold QS setAdd;refine Gn `B
 try dsimp only
 refine Gn `B
 try dsimp only
 refine `aN;refine HN ?_;refine Gn (wpAny_pyHash_tuple (show A.in1.units<cLine from hu) hx ?_);unfold setAddHashed;refine HN (zC (s:={s with toks:=s.toks+(kx.length+1)}) (show A.in1.units<cLine from hu) Z1 hn hx hI (λhm=>?_) λhm h' ks' o' es' ep' t' a1 a2 a3 a4=>?_)
 ·show wpAny _ _ (ret Hl) _ _ _;exact Gv (8 `a<|h1 hm _)
 ·show wpAny _ _ (ret Hl) _ _ _;exact Gv (8 `a<|h2 hm _ h' ks' o' es' ep' t' a1 a2 a3 a4)
end
end Wb
namespace L2
open PySem PySem.Spec PyProof.Rows Wb
structure TupsH(prog:GJ)(w:GW)(K:Gr)(H:Hp)(es:6 `c Gu)(ks:`ar):Prop where
 len:es.length=ks.length
 at_:∀(i:Nat)(e:Int×Gu),0 es[i]? e->∃k b,0 ks[i]? k/\e.2=`aS/\149 K H b/\e.1=tupleKeyHash (mixKind `r w) [.inl k.1,.inl k.2]
def SetH(prog:GJ)(w:GW)(K:Gr)(H:Hp)(o:Obj)(ks:`ar):Prop:=∃es ep t,SetR w o es ep t/\TupsH `r w K H es.toList ks/\ks.Nodup
def kI(k:`m):List Key:=[.inl k.1,.inl k.2]
theorem l5{a b:`m}(h:kI a=kI b):a=b:=by
 unfold kI at h;injection h with h1 h2;injection h2 with h2 _;injection h1 with h1;injection h2 with h2;exact ME h1 h2
def vn:List Key->`m
 | [.inl a,.inl b]=>(a,b)
 |_=>(0,0)
theorem tW(k:`m):vn (kI k)=k:=rfl
noncomputable def AW(Z5:Expr)(env:Env)(acc:Gu):Sem Unit:=do
 let v <-eval Z5 env
 standAt Z5.pos
 let _ <-call (.builtin "set.add") [acc,v]
def rQ(prog:GJ)(w:GW)(K:Gr)(te:TE):TB:=λD Z H N=>te Z H λy H'=>∃G o ks b k,Same G H'/\0 (H' D) (XO D o)/\SetH `r w K G o ks/\ks.length<1000/\2 y `aS (149 K G b) ((k∈ks->N H')/\(k∉ks->∀o' ks',SetH `r w K G o' ks'->ks'.Perm (k::ks)->N (dF H' D<|XO D o')))
section
variable{Y X:Cx}{Z5:Expr}{te:TE}
theorem i6{Z_:`N}{Z:St}{H:Hp}{s:Gx}{b:Addr}{k:`m}(I:`n)(h:149 X.K H b):Kc (mixKind `S X.w) `i (kI k) b:=by
 obtain⟨its,r,⟨o,h1,h2,n,h3⟩,_⟩:=I.tuple h;exact⟨o,`bj,n,h1,h2,h3,by simpa using nq (ks:=kI k) r⟩
theorem F5{k:`m}:∀q∈kI k,∀v,1 ((mixKind `S X.w).is q v)->∃i t,v=.int i t:=λq hq v hv=>by
 have:q=.inl k.1\/q=.inl k.2:=by simpa [kI] using hq
 rcases cN (show ij q v=true from hv)with⟨i,t,e1,rfl⟩|⟨x,t,e1,rfl⟩
 ·exact⟨i,t,`a⟩
 ·rcases this with z|z<;>(rw[z]at e1;cases e1)
theorem BS(hxe:Y.xe=`bv)(hu:Y.A.units+1<cLine)(he:PE Y Z5 te):PB Y (AW Z5 Y.env) (rQ Y.prog Y.w Y.K te):=by
 intro D Z_ s Z H N I h;have he':=he Z_ s Z H _ I h;rw[hxe]at he';refine Gn (cE he' λu s1 zz=>?_);obtain⟨y,H1,I1,r1,G,o,ks,b,k,eG,hD,hS,hl,ey,hb,h1,h2⟩:=zz;subst ey;obtain rfl:u=`aS:=r1;refine Gn (JJ ?_);obtain⟨es,ep,t,R,T,nd⟩:=hS;have hDo:0 (s1.heap.get? D) o:=(I1.hok D _ hD).1;have hsz:`ad=ks.length:=by have:=T.len;simpa using this
 have U:TupsOf (mixKind Y.prog Y.w) s1.heap es.toList (ks.map kI):=⟨by rw[Ho];exact T.len,λi e hi=>by
  obtain⟨k,b,q1,q2,q3,q4⟩:=T.at_ i e hi;exact⟨kI k,b,by rw[GK,q1];rfl,q2,i6 I1 (Jn eG q3),q4⟩⟩
 have Z1:SetT (mixKind Y.prog Y.w) s1.heap D (!Y.w.params.followText "set-order") (ks.map kI) o es ep t:=⟨hDo,R.ex,R.dat,R.tab,U,S7 _ (λa b hab e=>hab<|l5 e) nd,R.led,R.pl⟩
 refine Gn (vm hu Z1 `b (i6 I1<|Jn eG hb) F5 (λhm tk=>?_) λhm tk h' ks' o' es' ep' t' a1 a2 a3 a4=>?_)
 ·obtain⟨k',m1,m2⟩:=HK.mp hm;cases l5 m2;exact Gv ⟨Z,H1,I1.kept λ_ _ z=>z,λ_ _ e=>e,h1 m1⟩
 ·have nm:k∉ks:=λz=>hm (HK.mpr ⟨k,z,`a⟩);have pk:(ks'.map vn).Perm (k::ks):=by
   have:=a3.map vn;rw[Hm,JK,show(vn∘kI)=id from funext tW,RD,tW]at this;exact this
  have TH:TupsH Y.prog Y.w Y.K G es'.toList (ks'.map vn):=⟨by rw[Ho];exact a2.tup.len,λi e hi=>by
   obtain⟨kk,b',q1,q2,q3,q4⟩:=a2.tup.at_ i e hi;have src:∃k0:Int×Int,SqT Y.K G b' [.int k0.1,.int k0.2]:=by
    rcases GI.mp (a4.mem_iff.mp<|H9 hi)with z|z;·rw[z]at q2;cases q2;exact⟨k,hb⟩
    ·obtain⟨j,hj,ej⟩:=JP.mp z;obtain⟨k0,b0,r1,r2,r3,r4⟩:=T.at_ j e (by rw[GB hj,ej]);rw[r2]at q2;cases q2;exact⟨k0,r3⟩
   obtain⟨k0,hk0⟩:=src;have e0:kk=kI k0:=q3.inj (qm (i6 I1<|Jn eG hk0) hDo R.dat a1);subst e0;exact⟨k0,b',by rw[GK,q1];rfl,q2,hk0,q4⟩⟩
  refine Gv ⟨Z,_,?_,λ_ _ e=>e,h2 nm o' (ks'.map vn) ⟨es',ep',t',⟨a2.ex,a2.dat,a2.tab,a2.led,a2.pl⟩,TH,pk.nodup_iff.mpr<|Io.mpr ⟨nm,nd⟩⟩ pk⟩;exact I1.write (x:=D) (e:=D) (by rw[hD];exact L7) `X (λb u hb' z=>(a1.2 b hb').trans z) ⟨o',a2.at_⟩ (Sj a2.at_)
theorem xO{Z_:`N}{Z:St}{H:Hp}{s:Gx}{b:Addr}{k l:`m}(I:`n)(h:149 X.K H b)(h':SqT X.K H b [.int l.1,.int l.2]):k=l:=by
 have:=I.tuple_inj h h';injection this with e1 e2;injection e2 with e2 _;injection e1 with e1;injection e2 with e2;exact ME e1 e2
open Classical in
noncomputable def gH(K:Gr)(H:Hp)(e:`c×Gu):`m:=if h:∃k:Int×Int,∃b,e.2=`aS/\149 K H b then h.choose else(0,0)
theorem tX{Z_:`N}{Z:St}{G H:Hp}{s:Gx}{b:Addr}{k:`m}{e:`c×Gu}(eG:Same G H)(I:`n)(h:149 X.K G b)(he:e.2=`aS):gH X.K G e=k:=by
 have ex:∃k:Int×Int,∃b,e.2=`aS/\149 X.K G b:=⟨k,b,he,h⟩
 unfold gH;rw[dif_pos ex];obtain⟨b',e1,e2⟩:=ex.choose_spec;rw[he]at e1;cases e1;exact xO I (Jn eG e2) (Jn eG h)
def F6:Gu->V
 | .ref b=>`aS
 |_=>.non
def xP(prog:GJ)(w:GW)(K:Gr):82 `E Hp VK:=λxs H Q=>∃(G:Hp)(p:Addr)(o:Obj)(ks:List (Int×Int)),25 xs [.ref p] (Same G H) (21 p<|XO p o) (SetH `r w K G o ks) (ks.length<=1000/\∀(q:Addr)(us:List V)(ks':List (Int×Int)),34 (41 q) (ks'.Perm ks) (ks'.Pairwise λa b=>1<|pq a b) (us.length=ks'.length) (∀(i:Nat)(v:V)(k:Int×Int),0 us[i]? v->0 ks'[i]? k->∃b,v=`aS/\149 K G b) (Q (.ref q)<|115 H q us))
theorem p4(hc:`bw):eY X (.builtin "sorted") (xP `S X.w X.K):=by
 intro Z_ s Z H xs us Q I r h;obtain⟨G,p,o,ks,rfl,eG,hp,⟨es,ep,t,R,T,nd⟩,a0,q⟩:=h;obtain⟨u,rfl,rx⟩:=gL r;cases rx;have hpo:22 p o:=(I.hok p _ hp).1;have hsz:`ad=ks.length:=by have:=T.len;simpa using this
 have op:=jG X.w p ep es;have osz:(fc X.w p ep es).size=`ad:=by have:=op.length_eq;simpa using this
 have ek:es.toList.map (gH X.K G)=ks:=by
  apply Jh;intro i;rw[GK];by_cases z:i<es.toList.length
  ·obtain⟨k,b,q1,q2,q3,q4⟩:=T.at_ i es.toList[i] (GB z);rw[GB z,q1];exact congrArg some (tX eG I q3 q2)
  ·rw[Ij `b,Ij (by have:=T.len;omega)];rfl
 have mem:∀e∈(fc X.w p ep es).toList,∃b,e.2=`aS/\SqT X.K G b [.int (gH X.K G e).1,.int (gH X.K G e).2]:=λe he=>by
  obtain⟨j,hj,ej⟩:=JP.mp (op.mem_iff.mp he);obtain⟨k0,b0,r1,r2,r3,r4⟩:=T.at_ j e (by rw[GB hj,ej]);exact⟨b0,r2,by rw[tX eG I r3 r2];exact r3⟩
 have kzp:((fc X.w p ep es).toList.map<|gH X.K G).Perm ks:=by
  have:=op.map (gH X.K G);rw[ek]at this;exact this
 refine Calls.call_function_entry kind_sorted plain_sorted entry_sorted (args_sorted1 _) ?_;unfold J4.«sorted»;refine Gn (m:=checkCount "sorted" 1 1 _) `B;refine Gn (PySem.W.kdu_collect (A:=X.A.in1) (zF (a:=p) R) `bu hpo (by rw[Iq];omega) λh' tk acc hk hacc=>?_);have av:acc.toList=(fc X.w p ep es).toList.map (·.2):=by
  apply Jh;intro i;rw[GK];by_cases z:i<acc.size
  ·have z2:i<acc.toList.length:=by simpa using z
   obtain⟨e,q1,q2⟩:=hacc.2 i acc.toList[i] (by rw[<-GP];exact GB z2);rw[GB z2,GP,q1,q2];rfl
  ·have:=hacc.1;rw[Ij (by simp;omega),Ij (by simp;omega)];rfl
 have hal:acc.toList.length=ks.length:=by rw[HC,hacc.1,hsz]
 have I':=I.kept (t':=tk) hk;refine Gn (QR ?_ (by rw[hal,Iq];omega));have hoL:125 (h'.push<|seqObj "list" acc.toList.toArray 0) h'.objs.size (seqObj "list" acc.toList.toArray 0):=86 _;have src:∀v∈acc.toList,∃b,v=`aS/\SqT X.K G b [.int (gH X.K G (0,v)).1,.int (gH X.K G (0,v)).2]:=λv hv=>by
  rw[av]at hv;obtain⟨e,he,rfl⟩:=HK.mp hv;obtain⟨b,h2,h3⟩:=mem e he;exact⟨b,h2,by rw[show gH X.K G (0,e.2)=gH X.K G e from rfl];exact h3⟩
 have km:(acc.toList.map λv=>gH X.K G (0,v))=(fc X.w p ep es).toList.map (gH X.K G):=by rw[av,JK];rfl
 refine Gn (HN<|Hv slot_list_sort (8 hoL `a) entry_list_sort (xN (key:=λv=>gH X.K G (0,v)) hoL (λv hv=>?_) (by rw[km];exact kzp.nodup_iff.mpr nd) (by rw[hal,Iq];omega) λout op' pw=>52 `a)<|args_list_sort _)
 ·obtain⟨b,rfl,h3⟩:=src v hv;obtain⟨its,rr,⟨ob,g1,g2,n,g3⟩,_⟩:=I'.tuple (Jn eG h3);obtain⟨u1,u2,e1,⟨t1,e2⟩,t2,e3⟩:∃u1 u2,2 its [u1,u2] (RelV (.int (gH X.K G (0,`aS)).1) u1) (RelV (.int (gH X.K G (0,`aS)).2) u2):=by
   cases rr with
   |cons a b=>cases b with
    |cons c d=>cases d with
     |nil=>exact⟨_,_,`a,a,c⟩
  subst e1;rw[e2,e3]at g3;exact⟨b,ob,t1,t2,n,`a,17 g1,g2,g3⟩
 obtain⟨e,he⟩:=sortedHeap_at (h:=h'.push (seqObj "list" acc.toList.toArray 0)) (a:=h'.objs.size) (vs:=acc.toList) (out:=out.toArray) (n:=0) hoL;have at_:∀v∈out,∃b,v=`aS/\SqT X.K G b [.int (gH X.K G (0,v)).1,.int (gH X.K G (0,v)).2]:=λv hv=>src v (op'.mem_iff.mp hv);have pkz:(out.map λv=>gH X.K G (0,v)).Perm ks:=by
  have:=op'.map λv=>gH X.K G (0,v);rw[km]at this;exact this.trans kzp
 have ol:out.length=ks.length:=by rw[op'.length_eq];exact hal
 refine Gv ⟨_,`a,.ref h'.objs.size,_,I'.laid (t':=tk) (λb o z=>?_) `w (show ObjOk `S X.w _ _ _ (.lst<|out.map F6)from⟨by rw[Ho,Iq];omega,out,e,?_,he⟩),`a,q _ _ (out.map λv=>gH X.K G (0,v)) (I'.hok.fresh `w) pkz pw (by rw[Ho,Ho]) λi v k h1 h2=>?_⟩
 ·show 125 (sortedHeap _ _ _ _) b o;rw[sortedHeap_old (GY<|GG z) (by rw[size_push'];exact MT (GG z))];exact 17 z
 ·refine pP _ _ (by rw[Ho]) λj x u hx hu=>?_;rw[GK,hu]at hx;cases hx;obtain⟨b,rfl,_⟩:=at_ u (H9 hu);rfl
 ·rw[GK]at h1 h2;obtain⟨u,hu,rfl⟩:=HX.mp h1;rw[hu]at h2;cases h2;obtain⟨b,rfl,h4⟩:=at_ u (H9 hu);exact 32 b h4
end
def rR(w:GW):Obj:={cls:=.type "set",dict:=none,data:=.set #[] 0<|.fresh 0 0<|!w.params.followText "set-order",slots:= #[]}
theorem zJ(prog:GJ)(w:GW)(K:Gr)(H:Hp):SetH `r w K H (rR w) []:=
 ⟨#[],0,.fresh 0 0<|!w.params.followText "set-order",⟨32 `a `a,`a,⟨⟨rfl,rfl,λa b _ hb=>by simp[Qd]at hb,λj⟨a,ha,_⟩=>by simp[Qd]at ha,`X,λi h e=>by simp at e⟩,by show 0*5<7*3;decide⟩,`a,`a⟩,15 λi e he=>by simp at he,KY⟩
def rS(w:GW)(cap:List `ae)(wi:TI)(g:TG)(tf:TT)(tb:TB):TE:=λZ H Q=>wi Z H λJ H1=>∀D,7 (H1 D)->uZ g tf tb D (bU cap Z) (dF H1 D<|XO D<|rR w) (λH'=>Q `be H') J
section
variable{X:Cx}{scope:Ka}{N:`y}{cap:List `ae}{tg iter:Expr}{ifs:`af}{pos:Pos}{wi:TI}{g:TG}{tf:TT}{tb:TB}{body:Env->Gu->Sem Unit}
theorem xQ(Z1:CompScope X `C N cap)(hc:`bw){Z5:Expr}{gs:List N8}(hi:PI X tg iter wi)
  (hg:∀s H C fp,PG (33 X N s H C) tg g) (hf:∀s H C fp,uD (33 X N s H C) ifs tf) (hb:∀s H C fp,PB (33 X N s H C) (body (33 X N s H C).env) tb)
  (ht:∀env it acc,compTurn (.SetComp Z5 (⟨tg,iter,ifs,0⟩::gs) `C pos) 0 it acc env=fA tg iter ifs (body env acc) it env (.compLoop (.SetComp Z5 (⟨tg,iter,ifs,0⟩::gs) `C pos) 0 it acc env):=by intro _ _ _;rfl)
  (hs:∀x,158 `D x=pure x:=by intro _;rfl):9 (.SetComp Z5 (⟨tg,iter,ifs,0⟩::gs) `C pos) (rS X.w cap wi g tf tb):=by
 intro Z_ s Z H Q I h;rw[arm_eval_SetComp];have frc:148 (x.2=.free) (∃c,95 x.1 c):=λx hx hk=>I.ok.has x.1 (Z1.free x hx hk);refine JM (use:=none) `a hs (dW frc) Z1.kind (fX Z1) (cE (hi Z_ s Z H _ I h) λv s1 h1=>cE h1 λitv s2 h2=>?_);obtain⟨it,fp,tn,J,H2,rfl,I2,T,st2,f2,w⟩:=h2;unfold newSet setsByText;refine Gn (Gn<|Kv `B);refine HR ?_;have hz:7 (H2 `bn):=I2.hok.fresh `w;have I3:Inv X Z_ Z (dF H2 `bn<|XO `bn<|rR X.w) {s2 with heap:=s2.heap.push (rR X.w)}:=
  I2.laid (a:=s2.heap.objs.size) (t':=s2.toks) (λ_ _ q=>17 q) `w (Sj<|86 _)
 have nD:∀b∈fp,b≠`bn:=λb hb=>by
  obtain⟨o,e,_⟩:=T.obj _ _ st2 b hb;exact GY (GG e)
 have f3:112 X Z_ (dF H2 `bn<|XO `bn<|rR X.w) b:=λb hb=>⟨by rw[aH (nD b hb)];exact(f2 b hb).1,(f2 b hb).2⟩
 refine lR (RR:=λC=>compPost `aM X.A X.xe `j (EP X Z_ Z Q) (.ref `bn) C) Z1 hc Sg `a hg hf hb ht I3 T (T.keep _ _ _ st2 λb hb o e=>17 e) f3 (w _ hz) λC σ' H' s' hC I' q=>?_;obtain⟨m,hn,_⟩:=I'.loc;exact⟨m,hn,λh' hs'=>⟨.ref _,H',nK I3 f3 hC I' hs',`a,q⟩⟩
variable{kx vx Z5 tg2 iter2:Expr}{ifs2:`af}{wi2:TI}{g2:TG}{tf2:TT}{te:TE}
theorem vo(hu:X.A.units+1<cLine)(Z1:CompScope X `C N cap)(hc:`bw)(hi:PI X tg iter wi)
  (hg:∀s H C fp,PG (33 X N s H C) tg g) (hf:∀s H C fp,uD (33 X N s H C) ifs tf)
  (hi2:∀s H C fp,PI (33 X N s H C) tg2 iter2 wi2) (hg2:∀s H C fp,PG (33 X N s H C) tg2 g2) (hf2:∀s H C fp,uD (33 X N s H C) ifs2 tf2) (he:∀s H C fp,PE (33 X N s H C) Z5 te)
  (hs:∀x,158 `D x=pure x:=by intro _;rfl) (hs2:∀env x,foldedSetIterable iter2 env x=pure x:=by intro _ _;rfl):9 (.SetComp Z5 [⟨tg,iter,ifs,0⟩,⟨tg2,iter2,ifs2,0⟩] `C pos) (rS X.w cap wi g tf<|BI wi2 g2 tf2<|rQ `S X.w X.K te):=
 xQ Z1 hc hi hg hf (body:=zt iter2 (.SetComp Z5 [⟨tg,iter,ifs,0⟩,⟨tg2,iter2,ifs2,0⟩] `C pos) 1) (λs H C fp=>BJ (Y:=33 X N s H C) hc `a (hi2 s H C fp) (hg2 s H C fp) (hf2 s H C fp) (body:=AW Z5) (BS (Y:=33 X N s H C) `a hu<|he s H C fp) Sg `a (λ_ _ _=>`a)<|hs2 _) (λ_ _ _=>by rw[va];rfl) hs
end
end L2
namespace Wb
open PySem L2 Mi
section
variable{Er:`av}{S:Type}{prog:GJ}{w:GW}{K:Gr}{W W' W0 Wb W1 W2:Wd}{Z:St}{te:TE}
structure OwS2(prog:GJ)(w:GW)(K:Gr)(W:Wd)(p:Addr)(ks:`ar):Prop where
 g:7 (W.G p)
 h:∃o ks0,0 (W.H p) (XO p o)/\SetH `r w K W.G o ks0/\ks0.Perm ks
theorem vp{G G':Hp}{o:Obj}{ks:`ar}(h:SetH `r w K G o ks)(e:Same G G'):SetH `r w K G' o ks:=
 let ⟨es,ep,t,R,T,nd⟩:=h
 ⟨es,ep,t,R,⟨T.len,λi x hx=>let ⟨k,b,q1,q2,q3,q4⟩:=T.at_ i x hx;⟨k,b,q1,q2,Jn e q3,q4⟩⟩,nd⟩
theorem OwS2.mono{p:Addr}{ks:`ar}(o:OwS2 `r w K W p ks)(e:50 W'):OwS2 `r w K W' p ks:=by
 obtain⟨x,k0,a,b,c⟩:=o.h;exact⟨by rw[e.k p (by rw[a];exact λz=>nomatch z)];exact o.g,x,k0,e.h _ _ a,vp b e.g,c⟩
theorem BU{me:Res `m}{D:Addr}(eb:Ext Wb W)(hD:7 (Wb.H D))(h:5 te (45 isI isI) me):BV Er (rQ `r w K te) Z Wb W (OwS2 `r w K) D (λks=>me.bind λy=>vb ks y):=λW1 ks N e1 o k=>h W1 e1 _ (14 k λy ky v W2 e2 hv=>by
  obtain⟨h3,h4⟩:=bE ky;have o2:=o.mono e2;obtain⟨ob,ks0,q1,q2,q3⟩:=o2.h;obtain⟨p,x1,x2,rfl,t1,r1,r2⟩:=hv;cases r1;cases r2;refine⟨W2.G,ob,ks0,p,y,W2.ok,q1,q2,by rw[q3.length_eq];exact h3,rfl,t1,λhm=>?_,λhm o' ks' s' p'=>?_⟩
  ·rw[Z3 (q3.mem_iff.mp hm)]at h4;exact h4 W2 e2.g ((eb.trans e1).trans e2) o2
  ·rw[Z4 (λz=>hm<|q3.mem_iff.mpr z)]at h4;exact h4 (W2.mut D (XO D o') o2.g) e2.g (((eb.trans e1).trans e2).mut hD o2.g) ⟨o2.g,o',ks',aS,s',p'.trans<|.cons _ q3⟩)
theorem xR{R:`l}{cap:List `ae}{wi:TI}{g:TG}{tf:TT}{t:TB}{mi:`aF}{f:64 S `ar `ar}(hi:IV Er wi Z W R mi)
  (hs:∀Wb D W2 a v s(M:49 Hp),Same W.G W2.G->Ext W Wb->Wb.H D=none->Ext Wb W2->OwS2 prog w K W2 D s->R W2.G a v->(f a s).OkE Er (λs'=>∀W',Same W2.G W'.G->Ext Wb W'->OwS2 `r w K W' D s'->M W'.H)->g v (bU cap Z) W2.H λσ2 H2=>Keep (bU cap Z) σ2/\tf σ2 H2 λb H3=>if 1 b then t D σ2 H3 M else M H3):
  EVo Er (dM (xP `r w K)<|aj (rS w cap wi g tf t) aU) Z W (45 isI isI) ((mi.bind λxs=>cK f xs []).bind λks=>xm ks):=λW1 e1 Q k=>by
 refine hi W1 e1 _ (14 (Gp k) λxs kx J W2 e2 hy D hD=>?_);refine oQ (W:=W2) (W1:=W2.mut D (XO D<|rR w) (W2.gnone hD)) (Wb:=W2) (O:=OwS2 `r w K) (s0:=[]) hy (.inr `s) (.own _ hD) ⟨W2.gnone hD,rR w,[],aS,zJ ..,`s⟩ (λW3 a v s M e3 eb3 o3 r k3=>hs W2 D W3 a v s M ((`L).g.trans e3) `L hD eb3 o3 r k3) (λ_ _ _ e o=>o.mono e) ?_;exact kx.imp λks kk W' z1 z2 z3=>by
  obtain⟨h3,h4⟩:=bE kk;obtain⟨o,ks0,q1,q2,q3⟩:=z3.h;refine⟨W'.G,D,o,ks0,rfl,W'.ok,q1,q2,by rw[q3.length_eq];exact h3,λq us ks1 hq p1 p2 l1 at_=>?_⟩;have e:ks1=gA ks:=lT (p1.trans q3) (p2.imp λ{a b}h=>by rw[l4]at h;rw[kY];omega);rw[<-e]at h4;exact rC (W2:=W') (vs:=us) ⟨l1,λi v m e1 e2=>by
   obtain⟨b,rfl,hb⟩:=at_ i v m e1 e2;exact⟨b,_,_,`a,hb,`a,`a⟩⟩ (e2.trans z2) h4 q hq
end
end Wb
namespace L2
open PySem PySem.Spec PyProof.Rows Wb
def Dy:R2:=λx y H Q=>∃p q xs,25 x `O (y=.ref q) (21 p<|.lst xs) (21 q<|.lst []) (Q (.bl xs.isEmpty) H)
theorem BW{X:Cx}(hu:X.A.units<cLine):141 X .Eq Dy:=by
 intro Z_ s Z H x y v u Q I rx ry h;obtain⟨p,q,xs,rfl,rfl,h1,h2,hq⟩:=h;cases rx;cases ry;obtain⟨i1,r1,t1,z1⟩:=I.list (Jc (K:=X.K) h1);obtain⟨i2,r2,t2,z2⟩:=I.list (Jc (K:=X.K) h2);have l1:=r1.length;have l2:=r2.length;have key:SeqAt.RcAt X.A s `O (.ref q) xs.isEmpty:=by
  cases xs with
  |nil=>
   have:=Sd (A:=X.A) (s:=s) (e:=λ_=>`o) t1.isList t2.isList (by rw[GN,GN,<-l1,<-l2]) hu (λj h1' h2'=>by
    have:j<i1.length:=by simpa using h1'
    rw[<-l1]at this;exact absurd this (PX _))
   have e0:i1.toArray.size=0:=by rw[GN,<-l1];rfl
   rw[e0]at this;exact this
  |cons a r=>exact QT t1.isList t2.isList (by simp at l1 l2 ⊢;omega) hu
 exact key _ _ _ _ ⟨.bl _,H,I,`a,hq⟩
end L2
namespace Wb
open PySem L2 Mi
section
variable{Er:`av}{S:Type}{W:Wd}{Z:St}{ta:TE}
theorem BX{R:`l}{ma:`aF}(ha:EV Er ta Z W (pk R) ma):5 (d9 Dy ta<|bY aU) isB (74<|.ok a.isEmpty):=108 W1 e1 _ (107 k<|by
  obtain⟨p,vs,rfl,h1,h2⟩:=hx;refine⟨`ac,λq hq=>⟨p,q,vs,`a,`a,?_,aS,?_⟩⟩;·rw[aH (λz=>by rw[z]at h1;rw[hq]at h1;cases h1)];exact h1
  ·have:vs.isEmpty=a.isEmpty:=by
    have:=h2.1;cases vs<;>cases a<;>simp at this ⊢
   rw[this];exact ka (.bl a.isEmpty) (W2.mut q (.lst [])<|W2.gnone hq) (e2.trans<|.own _ hq) `a)
end
end Wb
namespace Mi
def mj{S:Type}(kvs:6 `m S)(k:`m)(a:S):Res (6 `m S):=fH (kvs.length<1000) (qb kvs k a)
end Mi
namespace Wb
open PySem PySem.W PySem.Calls PyProof.Rows
def qx(d:Addr)(n ep i:Nat):Obj:={cls:=.type "dict_keyiterator",dict:=none,data:=.fields #[.ref d,.int i 0,.int n 0,.int ep 0],slots:= #[]}
section
variable{prog:GJ}{w:GW}{A:Hk}{E:`A}{s:Gx}{d it:Addr}{o:Obj}{es:Array JE}{ep:Nat}
theorem vq{Q:`A}(hd:12 (d==sysModules))(ho:22 d o)(hx:o.ExactDict)(hdat:o.data=.dict es ep)(hQ:Q (`bY) {s with heap:=s.heap.push (qx d es.size ep 0)}):85 w A (pyIter<|.ref d) Q E:=by
 have hT:s.TypeIs (.ref d) "dict":=⟨o,ho,hx.1⟩
 refine LO hT PC (Hv PC hT F.entry_dict_iter ?_<|F.args_dict_iter_1 _);unfold J4.«dict.__iter__»;refine `aN;unfold Qr;refine Gn (wpAny_notOrdered_dict hT ?_);show 57 _ _ (pure<|GZ d) _ _;refine `B;show 57 _ _ (NS d>>=_) _ _;unfold NS;rw[Z4 (by rw[hd];exact GL)];refine Gn `B;refine Gn (MZ ho hdat ?_);refine Gn (NJ ho hdat ?_);refine Gn (HR<|Gv ⟨_,`a,"dict_keyiterator",_,8 (86 _) `a,IS.lookup,?_⟩);exact hQ
theorem vt{i:Nat}{Q:68 `M}(hit:22 it (qx d `ad ep i))(ho:22 d o)(hdat:o.data=.dict es ep)(hi:i<`ad)
  (hQ:∀h',h'.get? it=some (qx d `ad ep<|i+1)->GU it s.heap h'->Q (some es[i].key) {s with heap:=h'}):85 w A (pyNext `an) Q E:=by
 have hT:s.TypeIs `an "dict_keyiterator":=8 hit `a
 unfold pyNext;refine Gn (IU<|Hu (name:=`bQ) hT IS<|Hv IS hT Mh ?_<|M5 _)
 refine Gn `B;refine `aN;refine `aN
 first|refine Gn (JQ hT `B)|refine Gn (Ko hT `B)
 refine Gn (MH hit `a ?_);have hown:12 (Mn "dict_keyiterator"):=`ac
 simp only[hown,Hg,if_false];show 57 _ _ (if 1 (GZ d==Hl) then _ else _) _ _;rw[Z4 (show ¬(1<|GZ d==Hl)from GL)];refine Gn `B;refine Gn (MZ ho hdat ?_);rw[Z4 `g];refine Gn `B;refine Gn (NJ ho hdat ?_);rw[Z4 `g];refine `B;simp only[show ¬((i:Int)<0)from by omega,if_false,Ia,Hb hi];refine `aN
 first|refine Gn (JQ hT `B)|refine Gn (Ko hT `B)
 refine Gn (NT hT ?_);show 57 _ _ (setField (`an) 1 (rawInt<|(i:Int)+1)>>=_) _ _;refine Gn (Ir hit `a `g ?_);have hit':=HP (HY (·.setIfInBounds 1 (rawInt<|(i:Int)+1))) hit `a;refine Gn (HN ?_);refine Gn (NT (s:={s with heap:=s.heap.update it (HY (·.setIfInBounds 1 (rawInt<|(i:Int)+1)))}) (8 hit' `a) ?_);show wpAny _ _ (pure es[i].key) _ _ _;exact Gv (Gv ⟨_,rfl,Gv<|hQ _ (hit'.trans `a)<|Ik ..⟩)
theorem xT{Q:68 `M}(hh:7 A.handled)(hit:22 it (qx d `ad ep `ad))(ho:22 d o)(hdat:o.data=.dict es ep)
  (hQ:∀h',Jg it s.heap h'->Q none {s with heap:=h'}):85 w A (pyNext `an) Q E:=by
 have hT:s.TypeIs `an "dict_keyiterator":=8 hit `a
 unfold pyNext;refine Gn (IU<|Hu (name:=`bQ) hT IS<|Hv IS hT Mh ?_<|M5 _)
 refine Gn `B;refine `aN;refine `aN
 first|refine Gn (JQ hT `B)|refine Gn (Ko hT `B)
 refine Gn (MH hit `a ?_);have hown:12 (Mn "dict_keyiterator"):=`ac
 simp only[hown,Hg,if_false];show 57 _ _ (if 1 (GZ d==Hl) then _ else _) _ _;rw[Z4 (show ¬(1<|GZ d==Hl)from GL)];refine Gn `B;refine Gn (MZ ho hdat ?_);rw[Z4 `g];refine Gn `B;refine Gn (NJ ho hdat ?_);rw[Z4 `g];refine `B;simp only[show ¬((es.size:Int)<0)from by omega,if_false,Ia,KG<|GC es.size];refine `aN
 first|refine Gn (JQ hT `B)|refine Gn (Ko hT `B)
 show 57 _ _ (setField (`an) 0 .none>>=_) _ _;refine Gn (Ir hit `a `g ?_);show wpAny _ _ (newExc (.type `bD) []>>=_) _ _ _;refine `aN;simp only[newExc,newTuple];refine Gn (HR ?_ (by size_fits));refine Gn (m:=firstArgMember _ _) (MV (a:=Hl) (by first|rfl|(simp only[firstArgMember];rfl)) ?_);refine HR ?_ (by size_fits);simp only[raiseNew];refine Gn (N6 ?_);rw[show 7 A.in1.handled from hh];refine Gn (Gv<|Ob ?_);refine Gn (IG (T:=`bD) (b:=true) (8 (86 _) `a) Jl ?_);exact Gv (hQ _<|((Ik ..).extBut.push _).push _)
end
end Wb
namespace L2
open PySem PySem.Spec PyProof.Rows Wb
def KP(K:Gr)(G:Hp):11 (6 `m V) (6 (List Key)<|Addr×Gu):=Paired λ(p:(Int×Int)×V)(q:List Key×Addr×Gu)=>2 (kI p.1) q.1 (SqT K G q.2.1 [.int p.1.1,.int p.1.2]) (RelV p.2 q.2.2)
section
variable{K:Gr}{G G':Hp}{kvs:6 `m V}{xs:6 (List Key) (Addr×Gu)}
theorem KP.val(r:KP K G kvs xs)(k:`m):RelO (jj kvs k) ((atKey xs<|kI k).map (·.2)):=by
 unfold KP at r
 induction r with
 |nil=>exact L7
 | @cons p q ps qs h t ih=>
  obtain⟨h1,_,h2⟩:=h;by_cases e:p.1=k
  ·have e':q.1=kI k:=by rw[<-h1,e]
   have b:0 (atKey (q::qs)<|kI k) q.2:=by simp[atKey,Jo,e']
   rw[iu e,b];exact h2
  ·have e':¬q.1=kI k:=λz=>e (l5<|h1.trans z);have b:atKey (q::qs) (kI k)=atKey qs (kI k):=by simp[atKey,Jo,e']
   rw[iw e,b];exact ih
theorem KP.repl(r:KP K G kvs xs)(k:`m){y:V}{u:Gu}(ry:78 y):KP K G (kvs.map λkv=>if kv.1=k then(kv.1,y)else kv) (xs.map<|RE (kI k) u):=by
 unfold KP at r ⊢
 induction r with
 |nil=>exact .nil
 | @cons p q ps qs h t ih=>
  rw[Hm,Hm];refine .cons ?_ ih;obtain⟨h1,h2,h3⟩:=h;unfold RE;by_cases e:p.1=k;·rw[Z3 e,Z3 (by rw[<-h1,e])];exact⟨h1,h2,ry⟩
  ·rw[Z4 e,Z4 λz=>e (l5<|h1.trans z)];exact⟨h1,h2,h3⟩
theorem KP.put(r:KP K G kvs xs)(k:`m){b:Addr}{y:V}{u:Gu}(hb:149 K G b)(ry:78 y):KP K G (uz kvs k y) (storedH xs (kI k) b u):=by
 have e:(kvs.any λkv=>decide<|kv.1=k)=(atKey xs<|kI k).isSome:=by rw[pJ,(r.val k).isSome_eq,Option.isSome_map]
 unfold uz storedH;rw[e];by_cases q:1 (atKey xs<|kI k).isSome;·rw[Z3 q,Z3 q];exact r.repl k ry
 ·rw[Z4 q,Z4 q];exact Paired.snoc r ⟨`a,hb,ry⟩
theorem KP.same(r:KP K G kvs xs)(e:Same G G'):KP K G' kvs xs:=Paired.mapP r λ_ _ z=>⟨z.1,Jn e z.2.1,z.2.2⟩
end
def DictP(prog:GJ)(w:GW)(K:Gr)(G:Hp)(o:Obj)(kvs:6 `m V):Prop:=∃es ep xs,o.ExactDict/\o.data=.dict es ep/\2 es.toList (xs.map<|entryOfKey<|tupleKind<|mixKind `r w) (xs.map (·.1)).Nodup (KP K G kvs xs)
def PDa(prog:GJ)(w:GW)(K:Gr)(G H:Hp)(a:Addr)(kvs:6 `m V):Prop:=∃o,Same G H/\21 a (XO a o)/\2 (a==sysModules) `K (DictP `r w K G o kvs) (kvs.length<=1000)
def mm:Obj:={cls:=.type "dict",dict:=none,data:=.dict #[],slots:= #[]}
section
variable{X:Cx}{K:Gr}{pos pos':Pos}{o i value:Expr}{td ty tv:TE}{Z_:`N}{Z:St}{H:Hp}{s:Gx}
theorem xV(prog:GJ)(w:GW)(K:Gr)(G:Hp):DictP `r w K G mm []:=⟨#[],0,[],32 `a `a,`a,`a,LQ,.nil⟩
theorem PDa.h{G:Hp}{a:Addr}{kvs:6 `m V}(I:`n)(g:PDa `S X.w X.K G H a kvs):∃xs,KP X.K G kvs xs/\s.heap.DictOfH (tupleKind<|mixKind `S X.w) a xs/\`t<=1000:=by
 obtain⟨o,eG,ha,lo,⟨es,ep,xs,ex,dat,he,nd,r⟩,hl⟩:=g;have hl2:121 kvs.length:=Paired.length r;refine⟨xs,r,⟨o,es,ep,(I.hok a _ ha).1,ex,dat,he,`bG,nd⟩,`b⟩;obtain⟨j,hj⟩:=KU.mp hx;obtain⟨p,hp,h1,h2,h3⟩:=jZ r hj;rw[<-h1];exact i6 I (Jn eG h2)
end
end L2
namespace Wb
open PySem L2 Mi
section
variable{Er:`av}{S:Type}{prog:GJ}{w:GW}{K:Gr}{W W' W0 W1 W2:Wd}{Z:St}{te ti ta:TE}{R:`l}{i:Nat}{p:Addr}{D:Ends}{r:TS}
structure OwP(prog:GJ)(w:GW)(K:Gr)(R:`l)(W:Wd)(p:Addr)(kvs:6 `m S):Prop where
 g:7 (W.G p)
 h:∃o vs,0 (W.H p) (XO p o)/\12 (p==sysModules)/\DictP `r w K W.G o vs/\`aK<=1000/\`aK=kvs.length/\162 (0 vs[i]? q) (0 kvs[i]? x) (q.1=x.1/\R W.G x.2 q.2)
theorem dictP_same{G G':Hp}{o:Obj}{kvs:6 `m V}(h:DictP `r w K G o kvs)(e:Same G G'):DictP `r w K G' o kvs:=
 let ⟨es,ep,xs,a,b,c,d,r⟩:=h
 ⟨es,ep,xs,a,b,c,d,r.same e⟩
theorem OwP.mono[`aJ]{kvs:6 `m S}(o:OwP `r w K R W p kvs)(e:50 W'):OwP `r w K R W' p kvs:=by
 obtain⟨x,vs,a,lo,b,hl,c,d⟩:=o.h;exact⟨by rw[e.k p (by rw[a];exact λz=>nomatch z)];exact o.g,x,vs,e.h _ _ a,lo,dictP_same b e.g,hl,c,λi q y h1 h2=>⟨(d i q y h1 h2).1,Gm e.g (d i q y h1 h2).2⟩⟩
theorem xW{H:Hp}{vs:6 `m V}{xs:6 `m S}(hl:121 `aK)(h:162 (0 vs[i]? q) (0 xs[i]? x) (q.1=x.1/\R H x.2 q.2)){k:`m}{a:S}{v:V}(hv:R H a v):
  (uz vs k v).length=(qb xs k a).length/\162 (0 (uz vs k v)[i]? q) (0 (qb xs k a)[i]? x) (q.1=x.1/\R H x.2 q.2):=by
 have key:∀(vs:List ((Int×Int)×V))(xs:List ((Int×Int)×S)),121 `aK->162 (0 vs[i]? q) (0 xs[i]? x) (q.1=x.1/\R H x.2 q.2)->(vs.any λp=>decide<|p.1=k)=(xs.any λp=>decide<|p.1=k):=by
  intro vs
  induction vs with
  |nil=>intro xs hl _;cases xs with|nil=>rfl|cons _ _=>cases hl
  |cons q vs ih=>
   intro xs hl h;cases xs with
   |nil=>cases hl
   |cons x xs=>rw[M7,M7,ih xs `bX λi q x h1 h2=>h (i+1) q x h1 h2,(h 0 q x `a `a).1]
 unfold uz qb;rw[key vs xs hl h];by_cases z:1 (xs.any λp=>decide<|p.1=k)
 ·rw[Z3 z,Z3 z];refine⟨by rw[Ho,Ho];exact hl,λi q x h1 h2=>?_⟩;rw[GK]at h1 h2;obtain⟨q',h3,rfl⟩:=HX.mp h1;obtain⟨x',h4,rfl⟩:=HX.mp h2;have:=h i q' x' h3 h4;by_cases y:x'.1=k;·rw[Z3 y,Z3 (this.1.trans y)];exact⟨this.1,hv⟩
  ·rw[Z4 y,Z4 λe=>y (this.1.symm.trans e)];exact this
 ·rw[Z4 z,Z4 z];refine⟨by simp[hl],λi q x h1 h2=>?_⟩;by_cases y:i<`aK
  ·rw[Hr y]at h1;rw[Hr `b]at h2;exact h i q x h1 h2
  ·rw[He `b]at h1;rw[He `b,<-hl]at h2;cases e:i-vs.length with
   |zero=>rw[e]at h1 h2;cases h1;cases h2;exact 15 hv
   |succ n=>rw[e]at h1;simp at h1
theorem xX{kvs:6 `m S}{k:`m}{a:S}:(qb kvs k a).length<=kvs.length+1:=by unfold qb;split<;>simp
def EVp(prog:GJ)(w:GW)(K:Gr)(Er:`av)(t:TE)(Z:St)(W:Wd)(R:`l)(m:Res (6 `m S)):Prop:=∀W1,50 W1->∀Q:VK,(m.OkE Er λxs=>∀p W2,Ext W1 W2->7 (W1.H p)->OwP `r w K R W2 p xs->Q `O W2.H)->t Z W1.H Q
end
end Wb
namespace Mi
abbrev Cd:=Tx×Tx×`c
abbrev Pl:=Tx×Tx×Tx
abbrev Ii:=`m
def mn{κ S:Type}[DecidableEq κ](kvs:6 κ S)(k:κ)(z:S):S:=(look kvs k).getD z
def p5(n:Int):`aY:=fH (-(2^61)<=n/\n<2^61) (gG n).reverse
end Mi
namespace L2
open PySem PySem.Spec PyProof.Rows Wb
def Fn(a:Addr)(o:Obj)(es:Array JE):It:=⟨λi H=>21 a (XO a o)/\i<`ad,λi H x H'=>H'=H/\∃e,0 es[i]? e/\RelV x e.key,λi H=>21 a (XO a o)/\i=`ad⟩
theorem rV{P:GJ}{w:GW}{K:Gr}{tg:Expr}{a it:Addr}{o:Obj}{es:Array JE}{ep:Nat}(hdat:o.data=.dict es ep)(hx:o.ExactDict)(hr:∀(i:Nat)(e:JE),0 es[i]? e->∃b,e.key=`aS):Turn P w K tg (Fn a o es) [it] it (λi h=>35 it<|qx a `ad ep i) where
 mem:=`g
 obj:=λi h st b hb=>by
  have e:b=it:=`bC
  subst e;exact 8 st λv z=>by
   have z':Mb _=KN v:=z;cases z'
 keep:=λi h h' st k=>k it `g _ st
 item:=by
  intro X hP hw hK hc i Z_ s Z H E I hf st hg;subst hP hw hK;obtain⟨ha,hi⟩:=hg;obtain⟨f0,f1,f2,f3,f4,f5⟩:=110 it;have ho:22 a o:=(I.hok a _ ha).1;refine vt st ho hdat hi λh' st' sb=>?_;have I1:Inv X Z_ Z H {s with heap:=h'}:=I.turned (t':=s.toks) (λb o hb e=>(sb.2 b hb).trans e) f0 f1 f3 f4 f5;obtain⟨b,hb⟩:=hr i _ (Hb hi);exact 8 `a (mY (s:={s with heap:=h'}) (n:="dict_keyiterator") st' `a `a ⋯ ⟨`aS,H,I1,by rw[hb];rfl,⟨`a,_,Hb hi,by rw[hb];rfl⟩,st',λb hb=>(hf b hb).1⟩)
 done:=by
  intro X hP hw hK hc i Z_ s Z H E I hf st hg;subst hP hw hK;obtain⟨ha,hi⟩:=hg;subst hi;obtain⟨f0,f1,f2,f3,f4,f5⟩:=110 it;have ho:22 a o:=(I.hok a _ ha).1;exact xT `bu st ho hdat λh' eb=>15 (I.turned (t':=s.toks) (λb o hb e=>eb b o hb e) f0 f1 f3 f4 f5)
 self:=λA i s Q E st hQ=>by
  have hT:s.TypeIs `an "dict_keyiterator":=8 st `a
  refine LO hT Mo (Hv Mo hT F.entry_dict_keyiterator_iter ?_<|F.args_dict_keyiterator_iter_1 _);show 57 _ _ (ret `an) _ _;exact Gv ⟨_,`a,"dict_keyiterator",_,hT,IS.lookup,hQ⟩
def rW(prog:GJ)(w:GW)(K:Gr)(tl:TE):TI:=λZ H R=>tl Z H λx H1=>∃G a o kvs,25 x `ai (Same G H1) (0 (H1 a)<|XO a o) (12<|a==sysModules) (DictP `r w K G o kvs/\∀es ep,o.data=.dict es ep->`ad=kvs.length->(∀(i:Nat)(e:JE)(p:(Int×Int)×V),0 es[i]? e->0 kvs[i]? p->∃b,e.key=`aS/\SqT K G b [.int p.1.1,.int p.1.2])->R (Fn a o es) H1)
theorem DictP.ents{prog:GJ}{w:GW}{K:Gr}{G:Hp}{o:Obj}{kvs:6 `m V}(h:DictP `r w K G o kvs):∃es ep,o.ExactDict/\o.data=.dict es ep/\`ad=kvs.length/\∀(i:Nat)(e:JE)(p:(Int×Int)×V),0 es[i]? e->0 kvs[i]? p->∃b,e.key=`aS/\SqT K G b [.int p.1.1,.int p.1.2]:=by
 obtain⟨es,ep,ys,hx,hdat,he,nd,rel⟩:=h;refine⟨es,ep,hx,hdat,by rw[<-HC,he,Ho];exact(Paired.length rel).symm,λi e p h1 h2=>?_⟩;rw[<-GP,he,GK]at h1;obtain⟨y,h3,rfl⟩:=HX.mp h1;obtain⟨p',h4,h5,h6,h7⟩:=jZ rel h3;rw[h2]at h4;cases h4;exact 32 y.2.1 h6
section
variable{X:Cx}{K:Gr}{pos pos':Pos}{o i e tg l:Expr}{td ty tv tl tk:TE}{Z_:`N}{Z:St}{H:Hp}{s:Gx}
theorem xY(hl:9 l tl):PI X tg l (rW `S X.w X.K tl):=by
 intro Z_ s Z H R I h;refine 137 (hl Z_ s Z H _ I h) ?_;obtain⟨x,H1,I1,r1,q1⟩:=zz;obtain⟨G,a,ob,kvs,e,eG,ha,lo,d,q⟩:=q1;subst e;cases r1;obtain⟨es,ep,hx,hdat,hs,at_⟩:=d.ents;have ho:0 (s1.heap.get? a) ob:=(I1.hok a _ ha).1;refine vq lo ho hx hdat ?_;refine⟨`ba,[s1.heap.objs.size],_,_,H1,`a,I1.kept (t':=s1.toks) λb o e=>17 e,rV hdat hx λi e he=>?_,86 _,`bm,q es ep hdat hs at_⟩
 ·have hi:i<kvs.length:=by have:=(HZ.mp he).1;omega
  obtain⟨b,hb,_⟩:=at_ i e _ he (GB hi);exact⟨b,hb⟩
 ·have e:b=`ba:=`bC
  subst e;exact 155 `w `w
def xZ(prog:GJ)(w:GW)(K:Gr)(td ty:TE):TE:=λZ H Q=>td Z H λx H1=>ty Z H1 λy H2=>∃G a kvs b k v,2 x `ai (PDa `r w K G H2 a kvs) (2 y `aS (149 K G b)<|0 (jj kvs k) v/\Q v H2)
theorem zK(hu:X.A.units+1<cLine)(ho:9 o td)(hi:9 i ty)(hs:w9 i):9 (.Subscript o i pos) (xZ `S X.w X.K td ty):=by
 intro Z_ s Z H Q I h;refine sL MM.lookup hs (cE (ho Z_ s Z H _ I h) λu s1 zz=>?_);obtain⟨x,H1,I1,rx,q1⟩:=zz;refine cE (hi Z_ s1 Z H1 _ I1 q1) λiv s2 zz=>?_;obtain⟨y,H2,I2,ry,G,a,kvs,b,k,v,ex,g,ey,hb,ev,q2⟩:=zz;subst ex ey;obtain rfl:u=GZ a:=rx;obtain rfl:iv=GZ b:=ry;obtain⟨xs,rel,dd,hx⟩:=g.h I2;obtain⟨ob,eG,ha,lo,_,_⟩:=g;have hT:s2.TypeIs `ai "dict":=by
  obtain⟨od,es,ep,h1,h2,_⟩:=id dd;exact⟨od,h1,h2.1⟩
 refine⟨hT,?_⟩;obtain⟨w',hw,rw'⟩:=Rj (v:=v) (o:=(atKey xs<|kI k).map (·.2)) (by rw[<-ev];exact rel.val k);obtain⟨p,hp,rfl⟩:=HX.mp hw;exact wpAny_getItem_heap (OU hu) (i6 I2<|Jn eG hb) dd hp ⟨v,H2,I2.tok _,rw',q2⟩
def yb(prog:GJ)(w:GW)(K:Gr)(td ty tv:TE):TE:=λZ H Q=>td Z H λx H1=>∃a,2 x `ai (ty Z H1 λy H2=>tv Z H2 λz H3=>∃G kvs b k,PDa `r w K G H3 a kvs/\y=`aS/\149 K G b/\Q ((jj kvs k).getD z) H3) (∃o kvs G,Same G H1/\0 (H1 a) (XO a o)/\12 (a==sysModules)/\DictP `r w K G o kvs)
theorem vw{x:Option V}{y:`M}{z:V}{u:Gu}(r:RelO x y)(rz:78 z):RelV (x.getD z) (y.getD u):=by
 cases x<;>cases y;·exact rz
 ·exact r.elim
 ·exact r.elim
 ·exact r
theorem qy{Z7 Z8:Pos}{k d:Expr}(hu:X.A.units+1<cLine)(ho:9 o td)(hk:9 k tk)(hd:9 d tv)
  (hbase:attributeBase o (Gy "get") `D (30 o)=30 o:=by rfl)
  (hfew:1 ((124 Z8 [k,d]).all (λx=> !x.1) && (backToKw Z8<|keywordEach [] `D).all (λx=>x.1.isSome)
   &&decide (([k,d]:`af).length+([]:List Nt).length+(if([]:List Nt).isEmpty then 0 else 1)<30)):=by rfl)
  (hline:1 (Z7.endLine==Z8.line):=by rfl) (hs:67 [k,d]=[(false,30 k),(false,30 d)]:=by rfl):
  9 (.Call (.Attribute o (Gy "get") Z7) [k,d] [] Z8) (yb `S X.w X.K td tk tv):=by
 intro Z_ s Z H Q I h;refine Nu hbase hfew hline `a (137 (ho Z_ s Z H _ I h) ?_);obtain⟨x,H1,I1,r1,a,e,q1,ob,kvs,G,eG,ha,lo,dp⟩:=zz;subst e;cases r1;obtain⟨es,ep,hx,hdat,_⟩:=dp.ents;have hob:0 (s1.heap.get? a) ob:=(I1.hok a _ ha).1;refine⟨"dict","dict.get",PySem.F.plainAttrs_dict,PySem.F.slot_dict_get,PySem.F.type_dict_get,⟨ob,hob,hx.1⟩,λb e2=>?_,?_⟩
 ·cases e2;exact⟨ob,hob,hx.2.1⟩
 ·rw[hs];refine wpAny_dict_get2_heap (knd:=tupleKind (mixKind `S X.w)) (OU hu) lo (cE (hk Z_ s1 Z H1 _ I1 q1) λu s2 zz=>?_);obtain⟨y,H2,I2,r2,q2⟩:=zz;refine cE (hd Z_ s2 Z H2 _ I2 q2) λt s3 zz=>?_;obtain⟨z,H3,I3,r3,G3,kvs3,b,kk,g3,ey,hb,q3⟩:=zz;subst ey;obtain rfl:u=GZ b:=r2;obtain⟨xs,rel,dd,hz⟩:=g3.h I3;obtain⟨_,eG3,_⟩:=g3;exact⟨b,kI kk,xs,`a,i6 I3<|Jn eG3 hb,dd,_,H3,I3.tok _,vw (rel.val kk) r3,q3⟩
def yc(cap:List `ae)(wi:TI)(g:TG)(tf:TT)(tb:TB):TE:=λZ H Q=>wi Z H λJ H1=>∀D,7 (H1 D)->12 (D==sysModules)->uZ g tf tb D (bU cap Z) (dF H1 D<|XO D mm) (λH'=>Q `be H') J
def rX(prog:GJ)(w:GW)(K:Gr)(tk tv:TE):TB:=λD Z H N=>tk Z H λy H1=>tv Z H1 λv H2=>∃G kvs b k,PDa `r w K G H2 D kvs/\kvs.length<1000/\2 y `aS (149 K G b) (∀o',DictP `r w K G o' (uz kvs k v)->N (dF H2 D<|XO D o'))
theorem yd{Y:Cx}{kx vx:Expr}(hxe:Y.xe=`bv)(hu:Y.A.units+1<cLine)(hk:PE Y kx tk)(hv:PE Y vx tv):PB Y (AQ kx vx Y.env) (rX Y.prog Y.w Y.K tk tv):=by
 intro D Z_ s Z H N I h;have hk':=hk Z_ s Z H _ I h;rw[hxe]at hk';refine Gn (cE hk' λu s1 zz=>?_);obtain⟨x,H1,I1,r1,q1⟩:=zz;have hv':=hv Z_ s1 Z H1 _ I1 q1;rw[hxe]at hv';refine Gn (HN<|cE hv' λr s2 zz=>?_);obtain⟨y,H2,I2,r2,G,kvs,b,k,g,hl,ex,hb,q⟩:=zz;subst ex;obtain rfl:u=GZ b:=r1;obtain⟨xs,rel,dd,hx⟩:=g.h I2;obtain⟨ob,eG,ha,lo,_,_⟩:=g;refine Gn (JJ<|HN<|wpAny_dictSet_heap (hsz:=by rw[Iq];omega) (show(tupleKind<|mixKind Y.prog Y.w).room Y.A from Nat.lt_of_succ_lt hu) (i6 I2<|Jn eG hb) dd λh' dd' hs=>?_);obtain⟨o',es,ep,hq,h2,h3,h4,_,h5⟩:=dd';exact⟨Z,_,zc I2 (by rw[ha];exact L7) hs ⟨o',hq⟩<|Sj hq,λ_ _ e=>e,q o' ⟨es,ep,_,h2,h3,h4,h5,rel.put k hb r2⟩⟩
variable{scope:Ka}{N:`y}{cap:List `ae}{iter kx vx:Expr}{ifs:`af}{wi:TI}{g:TG}{tf:TT}{tb:TB}{body:Env->Gu->Sem Unit}
theorem kq(hu:X.A.units+1<cLine)(Z1:CompScope X `C N cap)(hc:`bw)(hi:PI X tg iter wi)
  (hg:∀s H C fp,PG (33 X N s H C) tg g) (hf:∀s H C fp,uD (33 X N s H C) ifs tf) (hk:∀s H C fp,PE (33 X N s H C) kx tk) (hv:∀s H C fp,PE (33 X N s H C) vx tv)
  (hs:∀x,158 `D x=pure x:=by intro _;rfl):9 (.DictComp kx vx [⟨tg,iter,ifs,0⟩] `C pos) (yc cap wi g tf<|rX `S X.w X.K tk tv):=by
 intro Z_ s Z H Q I h;rw[arm_eval_DictComp];have frc:148 (x.2=.free) (∃c,95 x.1 c):=λx hx hk=>I.ok.has x.1 (Z1.free x hx hk);refine JM (use:=none) `a hs (dW frc) Z1.kind (fX Z1) (cE (hi Z_ s Z H _ I h) λv s1 h1=>cE h1 λitv s2 h2=>?_);obtain⟨it,fp,tn,J,H2,rfl,I2,T,st2,f2,w⟩:=h2;refine HR ?_;have hz:7 (H2 `bn):=I2.hok.fresh `w;have I3:Inv X Z_ Z (dF H2 `bn<|XO `bn mm) {s2 with heap:=s2.heap.push {cls:=.type "dict",dict:=none,data:=.dict #[]}}:=
  I2.laid (a:=s2.heap.objs.size) (t':=s2.toks) (λ_ _ q=>17 q) `w (Sj (o:=mm)<|86 _)
 have nD:∀b∈fp,b≠`bn:=λb hb=>by
  obtain⟨o,e,_⟩:=T.obj _ _ st2 b hb;exact GY (GG e)
 have f3:112 X Z_ (dF H2 `bn<|XO `bn mm) b:=λb hb=>⟨by rw[aH (nD b hb)];exact(f2 b hb).1,(f2 b hb).2⟩
 refine lR (RR:=λC=>compPost `aM X.A X.xe `j (EP X Z_ Z Q) (.ref `bn) C) (body:=AQ kx vx) Z1 hc CompE.dict `a hg hf (λs H C fp=>yd (Y:=33 X N s H C) `a hu (hk s H C fp)<|hv s H C fp) (λ_ _ _=>`a) I3 T (T.keep _ _ _ st2 λb hb o e=>17 e) f3 (w _ hz<|beq_eq_false_iff_ne.mpr<|JI<|GY I2.big) λC σ' H' s' hC I' q=>?_;obtain⟨m,hn,_⟩:=I'.loc;exact⟨m,hn,λh' hs'=>⟨.ref _,H',nK I3 f3 hC I' hs',`a,q⟩⟩
end
end L2
namespace Wb
open PySem L2 Mi
section
variable{Er:`av}{S β:Type}{prog:GJ}{w:GW}{K:Gr}{W W' W0 Wb W1 W2:Wd}{Z:St}{t te tk tv td ti ta:TE}{R:`l}{i:Nat}{p:Addr}{D:Ends}{r:TS}
def isPD(prog:GJ)(w:GW)(K:Gr)(R:`l):Rp (6 `m S):=λG kvs v=>∃p o vs,2 v `O (0 (G p)<|XO p o) (25 (p==sysModules) `K (DictP `r w K G o vs) (`aK<=1000) (`aK=kvs.length)<|162 (0 vs[i]? q) (0 kvs[i]? x)<|q.1=x.1/\R G x.2 q.2)
instance zkeep68[`aJ]:Mono (isPD `r w K R):=⟨λe⟨p,o,vs,h0,h1,h2,h3,h4,h5,h6⟩=>⟨p,o,vs,h0,e _ _ h1,h2,dictP_same h3 e,h4,h5,λi q x a b=>⟨(h6 i q x a b).1,Gm e (h6 i q x a b).2⟩⟩⟩
theorem OwP.frz[`aJ]{kvs:6 `m S}(o:OwP `r w K R W p kvs)(e:39 W)(hp:7 (W0.H p)):
  ∃W',25 W'.H W.H (39 W') (93 W'.G) (isPD `r w K R W'.G kvs `O) (∀q,q≠p->W'.G q=W.G q):=by
 obtain⟨ob,vs,a,lo,b,hl,c,d⟩:=o.h;exact⟨W.frz p _ a,`a,e.frz hp a o.g,dq o.g,⟨p,ob,vs,`a,aS,lo,dictP_same b<|dq o.g,hl,c,λi q x h1 h2=>⟨(d i q x h1 h2).1,Gm (dq o.g) (d i q x h1 h2).2⟩⟩,λq hq=>aH hq⟩
theorem EVp.ev[`aJ]{m:Res (6 `m S)}(h:EVp `r w K Er t Z W R m):5 t (isPD `r w K R) m:=134 W1 e1 Q (k.imp λxs kx p W2 e2 hp o=>by
 obtain⟨W3,hH,e3,_,r,_⟩:=o.frz e2 hp;rw[<-hH];exact kx `O W3 e3 r)
theorem mq[`aJ]{mk:Res `m}{mv:`as}{D:Addr}(eb:Ext Wb W)(hD:7 (Wb.H D))(h:5 tk (45 isI isI) mk)(h':5 tv R mv):BV Er (rX `r w K tk tv) Z Wb W (OwP `r w K R) D (λkvs=>mk.bind λk=>mv.bind λa=>mj kvs k a):=λW1 xs N e1 o k=>h W1 e1 _ (14 k λb kb x W2 e2 hx=>h' W2 `L _ (14 kb λa ka v W3 e3 hv=>by
  obtain⟨h3,h4⟩:=bE ka;have o':=o.mono `am;obtain⟨ob,vs,o1,lo,o2,hl,o3,o4⟩:=o'.h;obtain⟨p1,p2⟩:=xW o3 o4 (k:=b) hv;have e:=(`L).trans e3;obtain⟨q,x1,x2,rfl,t1,r1,r2⟩:=hx;cases r1;cases r2;refine⟨W3.G,vs,q,b,⟨ob,W3.ok,o1,lo,o2,hl⟩,`b,`a,Jn e3.g t1,λo2' d'=>?_⟩;exact h4 (W3.mut D (XO D o2') o'.g) (`am).g ((eb.trans e).mut hD o'.g) ⟨o'.g,o2',_,aS,lo,d',by have:=xX (kvs:=xs) (k:=b) (a:=a);omega,p1,p2⟩))
theorem mw{R0:`az}[`aJ]{cap:List `ae}{wi:TI}{g:TG}{tf:TT}{t:TB}{mi:75 β}{f:64 β (6 `m S) (6 `m S)}(hi:IV Er wi Z W R0 mi)
  (hs:∀Wb D W2 a v s(M:49 Hp),Same W.G W2.G->Ext W Wb->Wb.H D=none->Ext Wb W2->OwP prog w K R W2 D s->R0 W2.G a v->(f a s).OkE Er (λs'=>∀W',Same W2.G W'.G->Ext Wb W'->OwP `r w K R W' D s'->M W'.H)->g v (bU cap Z) W2.H λσ2 H2=>Keep (bU cap Z) σ2/\tf σ2 H2 λb H3=>if 1 b then t D σ2 H3 M else M H3):
  EVp `r w K Er (yc cap wi g tf t) Z W R (mi.bind λxs=>cK f xs []):=λW1 e1 Q k=>hi W1 e1 _ (14 k λxs kx J W2 e2 hy D hD lo=>by
  refine oQ (W:=W2) (W1:=W2.mut D (XO D mm) (W2.gnone hD)) (Wb:=W2) (O:=OwP `r w K R) (s0:=[]) hy (.inr `s) (.own _ hD) ⟨W2.gnone hD,mm,[],aS,lo,xV ..,`ac,rfl,λi q x h=>by simp at h⟩ (λW3 a v s M e3 eb3 o3 r k3=>hs W2 D W3 a v s M ((`L).g.trans e3) `L hD eb3 o3 r k3) (λ_ _ _ e o=>o.mono e) ?_;exact kx.imp λs' ks W' z1 z2 z3=>ks D W' (e2.trans z2) (bJ e2.h hD) z3)
theorem my{H:Hp}:∀(vs:List ((Int×Int)×V))(kvs:List ((Int×Int)×S)),`aK=kvs.length->162 (0 vs[i]? q) (0 kvs[i]? x) (q.1=x.1/\R H x.2 q.2)->∀k,(match look kvs k with|none=>jj vs k=none|some a=>∃v,jj vs k=some v/\R H a v)
 | [],[],_,_,k=>rfl
 | [],_::_,h,_,_=>by simp at h
 |_::_,[],h,_,_=>by simp at h
 |q::vs,x::kvs,hl,h,k=>by
  obtain⟨h1,h2⟩:=h 0 q x `a `a;have ih:=my vs kvs `bX (λi q x a b=>h (i+1) q x a b) k;by_cases e:x.1=k
  ·have a:0 (look (x::kvs) k) x.2:=by simp[look,Jo,e]
   rw[a,iu (h1.trans e)];exact 32 q.2 h2
  ·have a:look (x::kvs) k=look kvs k:=by simp[look,Jo,e]
   rw[a,iw λz=>e (h1.symm.trans z)];exact ih
theorem jK[`aJ]{md:Res (6 `m S)}{mk:Res `m}(hd:5 td (isPD `r w K R) md)(hk:5 tk (45 isI isI) mk):5 (xZ `r w K td tk) R (md.bind λd=>mk.bind λk=>getD d k):=λW1 e1 Q k=>hd W1 e1 _ (14 k λd kd x W2 e2 hx=>hk W2 `L _ (151 kd<|by
  obtain⟨p,o,vs,rfl,h1,h2,h3,h4,h5,h6⟩:=Gm (R:=isPD `r w K R) e3.g hx
  obtain⟨q,x1,x2,rfl,t1,r1,r2⟩:=hy;cases r1;cases r2;obtain⟨a,ha,ka⟩:=fI kb;have lr:=my vs d h5 h6 b;rw[ha]at lr;obtain⟨v,hv,rv⟩:=lr;exact⟨W3.G,p,vs,q,b,v,`a,⟨o,W3.ok,W3.ok _ _ h1,h2,h3,h4⟩,`a,t1,hv,ka v W3 `am rv⟩))
theorem qz[`aJ]{md:Res (6 `m S)}{mk:Res `m}{mz:`as}(hd:5 td (isPD `r w K R) md)(hk:5 tk (45 isI isI) mk)(hz:5 tv R mz):5 (yb `r w K td tk tv) R (md.bind λd=>mk.bind λk=>mz.bind λz=>.ok<|mn d k z):=λW1 e1 Q k=>hd W1 e1 _ (14 k λd kd x W2 e2 hx=>by
  obtain⟨p,o,vs,rfl,h1,h2,h3,h4,h5,h6⟩:=id hx;refine⟨p,`a,hk W2 `L _<|151 kd<|hz W3 ((`L).trans e3) _<|14 kb λz kz u W4 e4 hu=>?_,o,vs,W2.G,⟨W2.ok,W2.ok _ _ h1,h2,h3⟩⟩;have a0:=`bN;obtain⟨q,x1,x2,rfl,t1,r1,r2⟩:=hy;cases r1;cases r2;have lr:=my vs d h5 (λi q x a b=>⟨(h6 i q x a b).1,Gm (R:=R) a0.g (h6 i q x a b).2⟩) b;refine⟨W4.G,vs,q,b,⟨o,W4.ok,W4.ok _ _<|a0.g _ _ h1,h2,dictP_same h3 a0.g,h4⟩,`a,Jn e4.g t1,?_⟩;have kz:∀v W',Ext W1 W'->sh R W' (mn d b z) v->Q v W'.H:=kz;refine kz _ W4 (e2.trans a0) ?_;unfold mn;cases ha:look d b with
  |none=>
   rw[ha]at lr;have lr:7 (jj vs b):=lr;rw[lr];exact hu
  |some a=>
   rw[ha]at lr;obtain⟨v,hv,rv⟩:=lr;rw[hv];exact rv)
theorem ye[`aJ]{m:Res (6 `m S)}(h:5 t (isPD `r w K R) m):IV Er (rW `r w K t) Z W (45 isI isI) (m.bind λd=>.ok<|d.map (·.1)):=λW1 e1 P k=>h W1 e1 _ (14 k λd kd x W2 e2 hx=>by
  obtain⟨p,o,vs,rfl,h1,h2,h3,h4,h5,h6⟩:=hx;refine⟨W2.G,p,o,vs,`a,W2.ok,W2.ok _ _ h1,h2,h3,λes ep hdat hs at_=>kd _ W2 e2 λW3 e3=>⟨λi a ha=>?_,W3.ok _ _<|e3 _ _ h1,by rw[Ho,hs,h5]⟩⟩;rw[GK]at ha;obtain⟨x,hx,rfl⟩:=HX.mp ha;have hi:i<`ad:=by have:=(GA.mp hx).1;omega
  have hv:i<`aK:=by omega
  refine⟨⟨W3.ok _ _<|e3 _ _ h1,hi⟩,λy H'⟨z1,e,he,ry⟩=>⟨W3,z1.symm,`s,?_⟩⟩;obtain⟨b,hb,hq⟩:=at_ i e _ he (GB hv);have:=(h6 i _ x (GB hv) hx).1;rw[this]at hq;rw[hb]at ry;have:y=`aS:=by
   cases y<;>first|(cases ry;rfl)|(obtain⟨_,z⟩:=ry;cases z)|cases ry
  subst this;exact⟨b,_,_,`a,Jn e3 hq,`a,`a⟩)
end
end Wb
open Wb.EVp renaming ev->Sk
namespace L2
open PySem PySem.Spec PyProof.Rows Wb
theorem BY:isSubtype (M1 "range_iterator") (M1 "reversed")=pure `K:=`T
section
variable{prog:GJ}{w:GW}{A:Hk}{E:`A}{s:Gx}
theorem jb{r:Addr}{n:Int}{t u v:Tok}{Q:`A}(hr:IsRange `i r 0 n 1 t u v)(h0: -(2^61)<=n)(h1:n<2^61)
  (hQ:Q (`bY) {s with heap:=s.heap.push {cls:=.type "range_iterator",data:=.fields #[rawInt (0+(IE 0 n 1-1)*1),rawInt<|IE 0 n 1,rawInt<|-1]}}):85 w A (call (.type "reversed") [.ref r]) Q E:=by
 have hT:s.TypeIs (.ref r) "range":=8 hr `a
 refine callType_other (U:="range_iterator") (Q₁:=λobj s1=>s1.TypeIs obj "range_iterator"/\Q obj s1) `a F.create_reversed (8 _ F.mro_reversed) F.made_reversed BY (F.typeCall_reversed_1 _) (Og F.plain_reversed_new F.entry_reversed_new ?_) λobj s1 h=>h;rw[F.newCall_reversed_1];refine `B;unfold J4.«reversed.__new__»;rw[newClass_reversed];refine Gn `B;show 57 _ _ (OW "reversed" _ _>>=_) _ _;refine Gn `B;refine Gn (m:=checkCount "reversed" 1 1 _) `B;show 57 _ _ (specialOf (.ref r) (Gy "__reversed__")>>=_) _ _;refine Gn (Lq hT NU.lookup ?_);show 57 _ _ (bindSpecial (.builtin "range.__reversed__") (.ref r)>>=_) _ _;have hb:bindSpecial (.builtin "range.__reversed__") (.ref r)=pure (.builtin "range.__reversed__",[.ref r]):=by
  unfold bindSpecial;rw[F.type_range_reversed];rfl
 rw[hb];refine Gn `B;show 57 _ _ (rule "reversed.__new__.own-method">>=_) _ _;refine Gn (J7 ?_);show 57 _ _ (call (.builtin "range.__reversed__") [.ref r]>>=_) _ _;refine Gn (Hv NU hT F.entry_range_reversed ?_<|F.args_range_reversed_1 _);unfold J4.«range.__reversed__»;refine Gn (m:=selfOnly "range.__reversed__" _) `B;show 57 _ _ (MO (.ref r)>>=_) _ _;refine `aN;unfold MO;refine Gn (Hf hr `a (x:=.int 0 t) `a<|Gn (m:=asInt? _) `B);refine Gn (Hf hr `a (x:=.int n u) `a<|Gn (m:=asInt? _) `B);refine Gn (Hf hr `a (x:=.int 1 v) `a<|Gn (m:=asInt? _) `B);refine `B;have hs:1 (IA 0&&IA n&&IA 1&&IA (-1)&&IA (0-1)&&IA (IE 0 n 1)):=by
  have e:IE 0 n 1=if 0<n then n else 0:=by
   unfold IE;rw[Z3 ⋯];split;·rw[Rg];omega
   ·rfl
  unfold IA;rw[e];simp only[IF,decide_eq_true_eq];refine⟨⟨⟨⟨⟨`ac,`b,`b⟩,`ac⟩,`ac⟩,`ac⟩,?_,?_⟩<;>split<;>omega
 dsimp only;rw[hs];show 57 _ _ (newFields "range_iterator" _>>=_) _ _;unfold newFields;refine Gn (HR<|Gv<|8 `a `B);exact⟨8 (86 _) `a,hQ⟩
end
section
variable{X:Cx}{tg:Expr}
def Dz(n:Nat):It:=⟨λi _=>i<n,λi H x H'=>H'=H/\x=.int ((n:Int)-1-i),λi _=>n<=i⟩
theorem qF{P:GJ}{w:GW}{K:Gr}{tg:Expr}(it:Addr)(n:Nat):Turn P w K tg (Dz n) [it] it (λi h=>NY h it ((n:Int)-1+i*(-1)) ((n:Int)-i)<|-1) where
 mem:=`g
 obj:=λi h st b hb=>by
  have e:b=it:=`bC
  subst e;exact 8 st λv z=>by
   have z':Mb _=KN v:=z;cases z'
 keep:=λi h h' st k=>k it `g _ st
 item:=by
  intro X hP hw hK hc i Z_ s Z H E I hf st hg;subst hP hw hK;obtain⟨f0,f1,f2,f3,f4,f5⟩:=110 it;have W:=Walks.range (prog:=X.prog) (w:=X.w) `bu it ((n:Int)-1) (-1) n;refine W.item i s _ _ hg st λv h' tk hv st' kk=>?_;obtain⟨t,rfl⟩:=hv;have I1:Inv X Z_ Z H {s with heap:=h',toks:=tk}:=I.turned (λb o hb e=>kk b o `bC e) f0 f1 f3 f4 f5;refine 8 `a (mY (s:={s with heap:=h',toks:=tk}) (n:="range_iterator") st' `a `a ⋯ ⟨.int<|(n:Int)-1-i,H,I1,⟨t,?_⟩,15 `a,st',λb hb=>(hf b hb).1⟩);congr 1;omega
 done:=by
  intro X hP hw hK hc i Z_ s Z H E I hf st hg;subst hP hw hK;obtain⟨f0,f1,f2,f3,f4,f5⟩:=110 it;exact Np `bu st (by have:n<=i:=hg;omega) λh' eb=>15 (I.turned (t':=s.toks) (λb o hb e=>eb b o hb e) f0 f1 f3 f4 f5)
 self:=λ_ _ _ _ _ st h=>LG st h
theorem iL{P:GJ}{w:GW}{K:Gr}{o i:Expr}{pos:Pos}{td ty:TE}(hP:`S=P)(hw:X.w=w)(hK:X.K=K)(hu:X.A.units+1<cLine)(ho:9 o td)(hi:9 i ty)(hs:w9 i):9 (.Subscript o i pos) (xZ P w K td ty):=by
 subst hP hw hK;exact zK hu ho hi hs
theorem vz{P:GJ}{w:GW}{K:Gr}{l:Expr}{tl:TE}(hP:`S=P)(hw:X.w=w)(hK:X.K=K)(hl:9 l tl):PI X tg l (rW P w K tl):=by
 subst hP hw hK;exact xY hl
def AX(ta:TA):TI:=λZ H R=>ta Z H λvs H1=>∃j:Int,vs=[.int j]/\ -(2^61)<=j/\j<2^61/\R (Dz j.toNat) H1
theorem rY(n:Int):IE 0 n 1=(n.toNat:Int):=by
 unfold IE;rw[Z3 ⋯];split;·rw[Rg];omega
 ·omega
theorem vA{a:Expr}{ta:TA}{p p2 pos pos2:Pos}(hg:Gl X "reversed")(hm:7 (X.mg "reversed"))(hg2:Gl X "range")(hm2:7 (X.mg "range"))(ha:PA X [a] ta)
  (hs0:67 [123 "range" p2 [a] [] pos2]=[(false,30 (123 "range" p2 [a] [] pos2))]:=by rfl)
  (hs:67 [a]=[(false,30 a)]:=by rfl):PI X tg (123 "reversed" p [123 "range" p2 [a] [] pos2] [] pos) (AX ta):=by
 intro Z_ s Z H R I h;refine QW (gD I hg hm boot_reversed<|Ie ?_ hs0 `a);rw[hs0];show 57 _ _ (spliced<|(false,30 (123 "range" p2 [a] [] pos2))::[]) _ _;refine OJ ?_;refine QW (gD I hg2 hm2 boot_range<|Ie (159 (ha pos2 Z_ s Z H _ I h) ?_) hs `a);obtain⟨j,e,q1,q2,q⟩:=q1;subst e;cases r1 with
 |cons r rr=>
  cases rr;obtain⟨t,rfl⟩:=r;refine call_range_1 (P0 ?_);refine jb (Rv ..) q1 q2 ?_;rw[rY];have st:∀h:Heap,NY (h.push {cls:=.type "range_iterator",data:=.fields #[rawInt (0+((j.toNat:Int)-1)*1),rawInt (j.toNat:Int),rawInt<|-1]}) h.objs.size ((j.toNat:Int)-1+((0:Nat):Int)*(-1)) ((j.toNat:Int)-((0:Nat):Int)) (-1):=λh=>by
   have e1:(j.toNat:Int)-1+((0:Nat):Int)*(-1)=0+((j.toNat:Int)-1)*1:=`b
   have e2:(j.toNat:Int)-((0:Nat):Int)=(j.toNat:Int):=`b
   rw[e1,e2];exact 86 _
  refine LG (st _) ?_;refine⟨_,[_],_,_,H1,`a,I1.kept λb o e=>17<|17 e,qF _ j.toNat,st _,`bm,q⟩;have e:=Jq.mp hb;subst e;have hle:∀o:Obj,`ba<=(s1.heap.push o).objs.size:=λo=>by rw[HQ];exact Md _
  exact 155 (hle _) (hle _)
end
end L2
namespace Wb
open PySem L2 Mi
section
variable{Er:`av}{W:Wd}{Z:St}{ta:TE}
theorem vB{m:`H}(h:43 ta m):IV Er (AX<|aj ta aU) Z W isI (m.bind λi=>p5 i):=λW1 e1 P k=>h W1 e1 _ (14 k λi ki v W2 e2 hv=>by
  cases hv;obtain⟨⟨h1,h2⟩,h3⟩:=bE ki;refine⟨i,`a,h1,h2,h3 _ W2 e2 λW3 e3=>⟨λj a ha=>?_,?_⟩⟩
  ·unfold gG at ha;have hj:j<i.toNat:=by
    have:=(GA.mp ha).1;simpa using this
   rw[Kf (by simpa using hj),Ho,MX,GK,JW `b]at ha;cases ha;refine⟨hj,λy H'⟨z1,z2⟩=>⟨W3,z1.symm,`s,?_⟩⟩;rw[z2];show Kx _=Kx ((i.toNat-1-j:Nat):Int);congr 1;omega
  ·show i.toNat<=(gG i).reverse.length;unfold gG;simp)
end
end Wb
namespace L2
open PySem PySem.Spec PyProof.Rows
def Fo:CH:=λx y H Q=>∃i j,2 x (.str i) (y=.str j) (69 (i.length+j.length)/\Q (.str<|i++j) H)
theorem zL{X:Cx}:DP X .Add Fo:=pF
section
variable{X:Cx}
theorem fF(i:Nat){x:Str}{pos:Pos}(hN:X.N.Nodup:=by exact S4 (by assumption))(hi:0 X.N[i]? x:=by rfl)(hx:AF X.env.scope x:=by first|exact LM rfl|exact Lv `a)(hf:1 (X.fn x)\/147 x .local:=by first|exact .inl rfl|exact .inr rfl|assumption):PG X (.Name x pos) (aW i):=bC hN hi hx hf
theorem cO(i:Nat){x:Str}{e:Expr}{te:TE}{pos pos':Pos}(he:9 e te)(hN:X.N.Nodup:=by exact S4 (by assumption))(hi:0 X.N[i]? x:=by rfl)(hx:AF X.env.scope x:=by first|exact LM rfl|exact Lv `a)(hs:swapsWith e (some<|.Name x pos') pos.line `D=pure `K:=by rfl)(hf:1 (X.fn x)\/147 x .local:=by first|exact .inl rfl|exact .inr rfl|assumption):PS X (.Assign [.Name x pos'] e pos) (bT te<|aW i):=gX hN hi hx he hs hf
theorem cW{x:Str}{ps:`y}{k:Nat}{sp:Sp}{p pos:Pos}{e:Expr}{es:`af}{t:TA}(C:Cal `S X.w X.K X.mg X.base x ps k sp)(ha:PA X (e::es) t)(hr:Room k X.A:=by exact Room.mono (by assumption) ⋯)(hg:Gl X x:=by rfl)
  (hdb:12 (x==("__debug__" :Str)):=by decide) (he:67 (e::es)=(false,30 e)::67 es:=by rfl) (hpl:12 ((124 pos es).any (·.1)):=by rfl):9 (123 x p (e::es) [] pos) (aO sp [] E0 t):=wm C hr hg ha hdb he hpl
end
end L2
namespace Wb
open PySem L2 Mi
section
variable{Er:`av}{W:Wd}{Z:St}{te:TE}{D:Ends}{r:TS}{i:Nat}
theorem zM{a:Tx}{m:`I}{σ':Tx->St}(h:5 te isS m)(q:44 (m.bind λb=>dO a b) λc=>∀W',50 W'->D.nx (σ' c) W'.H)(hi:0 Z[i]? (27 a):=by rfl)(hσ:∀c,Z.set i (27 c)=σ' c:=by intro _;rfl):yW i te Fo D Z W.H:=
 ⟨88 a,hi,h W `s _ (14 q λb kb v W' e hv=>by
  cases hv;obtain⟨h3,h4⟩:=bE kb;refine⟨sOf a,sOf b,`a,`a,?_,?_⟩;·rw[dh,dh,Iq];unfold Mi.cap at h3;omega
  ·have:=h4 W' e;rw[<-hσ,<-gY]at this;exact this)⟩
theorem aQ{i:Nat}{a:Int}(h:0 Z[i]? (3 a):=by rfl):43 (bH i) (.ok a):=dU (R:=sh isI) (v:=.int a) `a h
theorem bW{i:Nat}{a:Tx}(h:0 Z[i]? (27 a):=by rfl):5 (bH i) isS (.ok a):=dU (R:=sh isS) (v:=88 a) `a h
theorem DX{i:Nat}{a:Bool}(h:58 Z[i]? (.bl a):=by rfl):5 (bH i) isB (.ok a):=dU (R:=sh isB) (v:=.bl a) `a h
theorem aV{S:Type}{R:`l}[`aJ]{i:Nat}{a:S}{v:V}(r:R W.G a v)(h:58 Z[i]? v:=by rfl):5 (bH i) R (.ok a):=dU (R:=sh R) r h
end
abbrev qA(K:Gr):=isT3 K isS isS isI
abbrev qB(K:Gr):=isT3 K isS isS isS
abbrev qC(K:Gr):=45 isI isI
abbrev qD(K:Gr):=isL `aA
abbrev qE(K:Gr):=isL `aB
def DI(K:Gr)(x:Str)(st:Stmt)(ps:`y):Prop:=∃f fd,Fun K x x st f fd/\0 (146 K x) (24 f)/\Binds K fd ps []
section
variable{P:GJ}{w:GW}{K:Gr}{mg:Str->`M}{base h:Heap}{x:Str}{st:Stmt}{ps:`y}{n:Nat}{sp:Sp}{f:Addr}
def DA:`y->`aq->`aq
 | [],_=>[]
 |_::r,us=>us.headD .none::DA r us.tail
theorem yf:∀(ps:List Str)(us:List Gu),us.length=`bh->DA ps us=us
 | [],us,h=>(List.eq_nil_of_length_eq_zero h).symm
 |_::r,[],h=>by cases h
 |_::r,a::us,h=>by
  show a::DA r us=_;rw[yf r us (Nat.succ.inj h)]
theorem DI.mk{oc:Gu}{od an:`aW}{osl:Array `M}{kV doc pm Z9 ct:Gu}(da:0 (146 K x) (24 f))(dl:142 f ⟨oc,od,.func<|JZ x x (defArgs st) (defBody st) `bt .none kV doc pm an Z9 ct,osl⟩)
  (dc:1 (LL K Z9 x)) (dk:1 (JO K<|.ref f)) (db:∀(kV doc pm:Gu)(an:Option Addr)(Z9 ct:Gu)(us:List Gu),bindArgs (JZ x x (defArgs st) (defBody st) `bt .none kV doc pm an Z9 ct) ⟨DA ps us,[]⟩=pure (ps.zip<|DA ps us)):DI K x st ps:=
 ⟨f,_,rf dl dc dk,da,(rf dl dc dk).binds λkV doc pm an Z9 ct us hl=>by
  have:=db kV doc pm an Z9 ct us;rw[yf ps us hl]at this;exact this⟩
theorem DI.cal(d:DI K x st ps)(X:K.In h)(G:h.Ns mainGlobals mg)(r:∀{f fd},Fun K x x st f fd->FnOk P w K mg `d CX0 n f fd ps sp):Cal P w K mg `d x ps n sp:=by
 obtain⟨f,fd,F,a,b⟩:=d;exact⟨f,fd,r F,HF X G a,F.kp,b⟩
theorem DI.calR(d:DI K x st ps)(X:K.In h)(G:h.Ns mainGlobals mg)(r:∀{f fd},Fun K x x st f fd->FnOk P w K mg `d (CXR P w) n f fd ps sp):CalR P w K mg `d x ps n sp:=by
 obtain⟨f,fd,F,a,b⟩:=d;exact⟨f,fd,r F,HF X G a,F.kp,b⟩
end
end Wb
namespace L2
open PySem PySem.Spec PyProof.Rows Wb
def DB:R2:=λx y H Q=>∃p q xs,25 x `O (y=.ref q) (21 p<|.lst xs) (21 q<|.lst []) (Q (.bl<|!xs.isEmpty) H)
theorem BZ{X:Cx}(hu:X.A.units<cLine):141 X .NotEq DB:=by
 intro Z_ s Z H x y v u Q I rx ry h;obtain⟨p,q,xs,rfl,rfl,h1,h2,hq⟩:=h;cases rx;cases ry;obtain⟨i1,r1,t1,z1⟩:=I.list (Jc (K:=X.K) h1);obtain⟨i2,r2,t2,z2⟩:=I.list (Jc (K:=X.K) h2);have l1:=r1.length;have l2:=r2.length;have key:SeqAt.RcNeAt X.A s `O (.ref q) (!xs.isEmpty):=by
  cases xs with
  |nil=>
   have:=RZ (A:=X.A) (s:=s) (e:=λ_=>`o) t1.isList t2.isList (by rw[GN,GN,<-l1,<-l2]) hu (λj h1' h2'=>by
    have:j<i1.length:=by simpa using h1'
    rw[<-l1]at this;exact absurd this (PX _))
   have e0:i1.toArray.size=0:=by rw[GN,<-l1];rfl
   rw[e0]at this;exact this
  |cons a r=>exact Qe t1.isList t2.isList (by simp at l1 l2 ⊢;omega) hu
 exact key _ _ _ _ ⟨.bl _,H,I,`a,hq⟩
end L2
namespace Wb
open PySem L2 Mi
section
variable{Er:`av}{S:Type}{P:GJ}{w:GW}{K:Gr}{W:Wd}{Z:St}{t ta tb:TE}{R:`l}
theorem C0{ma:`aF}(ha:EV Er ta Z W (pk R) ma):5 (d9 DB ta<|bY aU) isB (ma.bind λa=>.ok<|!a.isEmpty):=108 W1 e1 _ (107 k<|by
  obtain⟨p,vs,rfl,h1,h2⟩:=hx;refine⟨`ac,λq hq=>⟨p,q,vs,`a,`a,?_,aS,?_⟩⟩;·rw[aH (λz=>by rw[z]at h1;rw[hq]at h1;cases h1)];exact h1
  ·have:vs.isEmpty=a.isEmpty:=by
    have:=h2.1;cases vs<;>cases a<;>simp at this ⊢
   rw[this];exact ka (.bl (!a.isEmpty)) (W2.mut q (.lst [])<|W2.gnone hq) (e2.trans<|.own _ hq) `a)
end
section
variable{P:GJ}{w:GW}{K:Gr}{mg:Str->`M}{base h:Heap}{x q m:Str}{st:Stmt}{ps:`y}{n:Nat}{sp:Sp}{f C aB N:Addr}{CX:CXT}
theorem DI.calH{sp:Addr->Addr->Sp}(d:DI K x st ps)(X:K.In h)(G:h.Ns mainGlobals mg)(r:∀{f fd},Fun K x x st f fd->FnOkH P w K mg `d n f fd ps sp):CalH P w K mg `d x ps n sp:=by
 obtain⟨f,fd,F,a,b⟩:=d;exact⟨f,fd,r F,HF X G a,F.kp,b⟩
def NB(K:Gr):49 `y
 | []=>True
 |x::r=>0 (146 K x) `j/\NB K r
def NG(mg:Str->`M):49 `y
 | []=>True
 |x::r=>28 x/\NG mg r
theorem NB.cons{l:`y}(a:0 (146 K x) `j)(b:NB K l):NB K (x::l):=⟨a,b⟩
theorem NB.nil:NB K []:=trivial
theorem NB.all(X:K.In h)(G:h.Ns mainGlobals mg):∀{l:List Str},NB K l->NG mg l
 | [],_=>trivial
 |_::_,z=>⟨PySem.W.mg_none_of X G z.1,NB.all X G z.2⟩
def XB(K:Gr)(x:Str)(aB C:Addr):Prop:=0 (146 K x) (24 C)/\Cx1 K aB C
section
variable{nm qq:Str}{bs su:`aq}{hd ab:Bool}{sn:`y}{co:Option Bool}{dd:`aW}{k0 k1 k2 k3 k5:`M}
theorem XB.mk(u:0 (146 K x) (24 C))(v:142 C (excClassObj nm qq C N bs [.ref aB,.type "ValueError",.type "Exception",.type "BaseException",.type "object"] hd sn su ab co dd k0 k1 k2 k3 k5 "ValueError.__new__"))
  (ga:58 (LK K `aI "__getattribute__") (.builtin `cg)) (gt:0 (LK K `aI "__getattr__") `j) (cl:58 (LK K `aI "__class__") `bI):XB K x aB C:=
 ⟨u,⟨_,_,_,_,_,_,_,_,_,_,_,_,_,_,_,v⟩,ga,gt,cl⟩
def XN(K:Gr)(C:Addr)(bm:`aq):Prop:=∃N o es ep,XcK K C N bm/\142 N o/\2 o.data (.dict es ep) (PZ es) (7<|nsFind es "__init__")
theorem XN.mk{bm:`aq}{o1:Gu}{o2:`aW}{es:Array JE}{ep:Nat}{o3:Array `M}(v:142 C (excClassObj nm qq C N bs bm hd sn su ab co dd k0 k1 k2 k3 k5 "ValueError.__new__"))(nn:142 N ⟨o1,o2,.dict es ep,o3⟩)(sk:PZ es)(ni:7 (nsFind es "__init__")):XN K C bm:=
 ⟨N,_,es,ep,⟨_,_,_,_,_,_,_,_,_,_,_,_,_,_,v⟩,nn,`a,sk,ni⟩
end
theorem XN.ecl(X:K.In `d)(a:XN K C (.ref aB::vE))(t:XN K aB vE):Ecl `d C:=by
 obtain⟨N,o,es,ep,h1,h2,h3,h4,h5⟩:=a;obtain⟨N',o',es',ep',g1,g2,g3,g4,g5⟩:=t;exact Ecl.of X h1 g1 h2 h3 h4 h5 g2 g3 g4 g5
theorem XN.kin{cs:`R}(t:XN K aB vE)(X:K.In `d)(hn:58 (MR K `bI "__get__") `cf)(ht:0 (NF K `bI) `o)(len:cs.length=13)(nd:(aB::cs).Nodup)(all:∀C∈cs,Cx1 K aB C):Kin K `d cs aB:=by
 obtain⟨N,_,_,_,h,_⟩:=t;exact Kin.of X hn ht len nd h all
end
end Wb
namespace L2
open PySem PySem.Spec PyProof.Rows
section
variable{prog:GJ}{w:GW}{A:Hk}{E:`A}{s:Gx}
theorem ku{it l:Addr}{i:Nat}{items:`bp}{Q:`A}(hh:Hdl A `i)(hit:s.heap.IsListIter it l i)(hl:s.heap.IsList l items)(hx:7 items[i]?)
  (hE:∀h' e,Jg it s.heap h'->(∃o,66 e o/\o.cls=.type `bD)->E (.ref e) {s with heap:=h'}):85 w A (GX `an) Q E:=by
 obtain⟨o,ho,hc,hd⟩:=id hit;obtain⟨ol,hol,_,nl,hdl⟩:=hl;unfold GX;refine Gn (Hu (name:=`bQ) hit.typeIs Lx<|Hv Lx hit.typeIs Ox ?_<|OS _);show 57 _ _ (field (`an) 0>>=_) _ _;refine Gn (Hf ho hd (x:=.ref l) `a ?_);show 57 _ _ (if 1 (GZ l==Hl) then _ else _) _ _;rw[Z4 (show ¬(1<|GZ l==Hl)from GL)];show 57 _ _ (field (`an) 1>>=_) _ _;refine Gn (Hf ho hd (x:=.int i 0) `a ?_);show 57 _ _ (seqItems? (.ref l)>>=_) _ _;refine Gn (Hy hol hdl ?_);simp only[Ia,hx];refine Gn (J7<|Gn<|Ir ho hd `g ?_);refine kg (A:=A.in1) ?_ λa h' tp nw hk=>?_
 ·exact Hdl.keeps (A:=A.in1) hh λb ob C q z=>(Ht _ _ λy=>by
   rw[<-y,ho]at q;rw[<-Ha q,hc]at z;cases z).trans q
 ·exact hE _ _ (λb ob hb q=>hk b ob<|(Ht _ _<|JI hb).trans q) tp
theorem Draws.listH{x C:Addr}{od:`aW}{oe:Obj}(hA:0 A.handled (.ref x))(hh:Held oe C od)(it l:Addr)(hne:l≠it)(items:`bp):
  Draws prog w A it [x,it,l] items.size (λi v=>0 items[i]? v) (λi h=>(h.IsListIter it l i/\h.IsList l items)/\35 x oe) where
 live:=λ_ _ st=>let ⟨o,ho,_⟩:=st.1.1;⟨o,ho⟩
 frame:=λ_ _ _ st hk=>⟨⟨st.1.1.at λo e=>hk it `g o e,st.1.2.at λo e=>hk l `g o e⟩,hk x `g _ st.2⟩
 item:=λi s Q E hi st hQ=>by
  have nx:x≠it:=λz=>by
   obtain⟨o,ho,hc,_⟩:=id st.1.1;have:=st.2;rw[z,ho]at this;rw[Ha this,hh.1.1]at hc;cases hc
  refine wpAny_nextOf_list_item st.1.1 st.1.2 (x:=items[i]) (by simp[hi]) λh' hit' hs'=>?_;exact hQ _ h' s.toks (by simp[hi]) ⟨⟨hit',st.1.2.extBut hs'.extBut hne⟩,(hs'.2 x nx).trans st.2⟩ hs'
 done:=λs Q E st hE=>ku ⟨x,C,od,oe,hA,st.2,hh⟩ st.1.1 st.1.2 `g hE
end
section
variable{X:Cx}{Z_:`N}{Z:St}{H:Hp}{s:Gx}{z TI TO i1 i2 a b:Addr}{xs ys:`E}{i:Nat}
theorem p7(hx:HdX X)(I:`n)(hs:SqL X.K H a xs)(ht:s.heap.IsListIter i1 a i):
  ∃(x:Addr)(Pt:Nat->Gu->Prop)(St:Nat->Heap->Prop),Draws `S X.w X.A.in1 i1 [x,i1,a] `t Pt St/\St i `i/\(∀k v,Pt k v->∃x,0 xs[k]? x/\RelV x v)/\(∀k h,St k h->h.IsListIter i1 a k)/\(a=i1\/H a≠`j\/∃o,136 a o)/\∃oe,153 x oe/\x∉X.ex:=by
 obtain⟨x,C,od,oe,h1,h2,h3,h4,h5,h6⟩:=hx;obtain⟨its,rv,p,hz⟩:=I.list hs;have ne:a≠i1:=λz=>by
  obtain⟨o,e,c1,_⟩:=id ht;obtain⟨o2,e2,c2,_⟩:=p.isList;rw[z,e]at e2;cases e2;rw[c1]at c2;exact absurd c2 ⋯
 have dr:=Draws.listH (prog:=X.prog) (w:=X.w) (A:=X.A.in1) (x:=x) h1 h2 i1 a ne `bj;rw[GN,<-rv.length]at dr;refine⟨x,_,_,dr,⟨⟨ht,p.isList⟩,I.base.keep x oe h3 h4 h5 h6⟩,λk v e=>?_,λk h st=>st.1.1,?_,oe,h3,h6⟩
 ·have e:0 its[k]? v:=`bT
  have hk:k<`t:=by rw[rv.length];exact(GA.mp e).1
  obtain⟨u,hu,ru⟩:=rv.get (i:=k) (x:=xs[k]) (by simp[hk]);rw[e]at hu;cases hu;exact 8 (by simp[hk]) ru
 ·rcases hs with(z | ⟨o,z⟩) | ⟨o,_,_,z,_⟩
  ·exact .inr (.inl (by rw[z];simp))
  ·exact .inr (.inl (by rw[z];simp))
  ·exact .inr (.inr<|42<|I.mod.kin _ _ z)
theorem DC{x y:Addr}(I:`n)(Z2:ZIds z TI TO i1 i2)(hf:∀b∈[z,TI,TO,i1,i2],FpOk X Z_ H b)(g1:a=i1\/H a≠`j\/∃o,136 a o)(g2:b=i2\/H b≠`j\/∃o,136 b o)
  (hx:∃oe,153 x oe/\x∉X.ex) (hy:∃oe,153 y oe/\y∉X.ex):ZApart z TI TO i1 i2 [x,i1,a] [y,i2,b]:=by
 have no:∀c∈[z,TI,TO,i1,i2],∀x,(∃oe,153 x oe/\x∉X.ex)->c≠x:=λc hc x⟨oe,e,n⟩q=>by
  subst q;rcases (hf c hc).2.2.2.1 with q|q
  ·exact n q
  ·exact 128 (GG e) q (HI _)
 have ZA:=rl (fp1:=[i1,a]) (fp2:=[i2,b]) I Z2 hf (λc hc=>by
  simp only[GI,Hc,or_false]at hc;rcases hc with rfl|rfl
  ·exact `X
  ·exact g1) (λc hc=>by
  simp only[GI,Hc,or_false]at hc;rcases hc with rfl|rfl
  ·exact `X
  ·exact g2)
 have up:∀{c v:Addr}{l:List Addr},c≠v->c∉l->c∉v::l:=λh1 h2 m=>(GI.mp m).elim h1 h2;exact⟨Z2.c1,Z2.c2,Z2.c3,Z2.c4,Z2.c5,Z2.c6,Z2.c7,Z2.c8,Z2.c9,⟨up (no _ `g _ hx) ZA.d1.1,up (no _ `g _ hx) ZA.d1.2.1,up (no _ `g _ hx) ZA.d1.2.2⟩,⟨up (no _ `g _ hy) ZA.d2.1,up (no _ `g _ hy) ZA.d2.2.1,up (no _ `g _ hy) ZA.d2.2.2⟩⟩
end
section
variable{P:GJ}{w:GW}{A:Hk}{E:`A}{s:Gx}{z TI TO i1 i2:Addr}{fp1 fp2:`R}{n1 n2 k:Nat}{P1 P2:11 Nat Gu}{S1 S2:11 Nat Heap}{a b:Gu}
theorem vC{Q:68 `M}(D1:Draws P w A.in1 i1 fp1 n1 P1 S1)(D2:Draws P w A.in1 i2 fp2 n2 P2 S2)(Z2:ZApart z TI TO i1 i2 fp1 fp2)(hk:k=n1\/k<n1/\k=n2)(hz:Ki `i z TI TO .none)
  (hI:KS `i TI (.ref i1) (.ref i2)) (hO:KS `i TO a b) (t1:S1 k `i) (t2:S2 k `i)
  (q:∀h' tk,(∀c o,34 (c≠z) (c≠TO) (c≠i1) (c≠i2) (22 c o)<|66 c o)->Q none {s with heap:=h',toks:=tk}):
  102 P w A (pyNext `aU) Q E:=by
 have hT:s.TypeIs `aU "zip":=8 hz `a
 unfold pyNext;refine Gn (IU<|Hu (name:=`bQ) hT Ih<|Hv Ih hT K1 ?_<|JR _);obtain⟨hp,gg,dd,tk0,os⟩:=s;show 60 P _ (field (`aU) 2>>=_) _ _ _;refine Gn (Hf hz `a (x:=.bool `K) `a ?_);show 60 P _ (field (`aU) 3>>=_) _ _ _;refine Gn (Hf hz `a (x:=.ref TI) `a<|Gn<|Hy hI `a ?_);show 60 P _ (Hn (`aU)>>=_) _ _ _;refine `aN;unfold Hn;refine Gn (Hf hz `a (x:=.none) `a `B);simp only[if_true];refine Gn (J7<|Gn<|Hf hz `a (x:=.ref TO) `a<|Gn<|138 hz λg1 y1 b1=>?_);replace y1:139 g1 z TI TO:=y1;replace b1:GU z hp g1:=b1;refine `aN;simp only[Kt,Lr,KJ,L8];refine Gn (Gn<|Jk ?_);show 60 P _ (GX (.ref i1)>>=_) _ _ _;rcases hk with hk|⟨hk1,hk2⟩
 ·subst hk;refine Gn (D1.done _ _ _ (aD D1 t1 b1 Z2.d1.1) λg2 e b2 he=>?_);obtain⟨oe,hoe,hce⟩:=he;replace b2:Jg i1 g1 g2:=b2;have y2:139 g2 z TI TO:=b2 _ _ Z2.c3.symm y1;have ez:e≠z:=λx=>by subst x;rw[y2]at hoe;cases hoe;simp at hce
  refine 138 y2 λg3 _ b3=>?_;exact Gn (IG (T:=`bD) (b:=true) ⟨oe,132 _ ez hoe,hce⟩ Jl<|Gv<|q g3 _ λc o e1 _ e3 _ x=>132 _ e1<|b2 _ _ e3<|b1.extBut _ _ e1 x)
 ·subst hk2;refine Gn (D1.item k _ _ _ hk1 (aD D1 t1 b1 Z2.d1.1) λx g2 tk2 px u1 b2=>`B);replace b2:GU i1 g1 g2:=b2;have O2:KS g2 TO a b:=b2.extBut _ _ Z2.c8 (b1.extBut _ _ Z2.c2 hO);refine Gn (Hy O2 `a<|Gn<|L9 O2 λg3 O3 b3=>?_);replace b3:GU TO g2 g3:=b3;refine Gn (Ky<|Gv<|Gn<|Gn<|Jk ?_);show 60 P _ (GX (.ref i2)>>=_) _ _ _;refine Gn (D2.done _ _ _ (aD D2 (aD D2 (aD D2 t2 b1 Z2.d2.1) b2 Z2.d2.2.2) b3 Z2.d2.2.1) λg4 e b4 he=>?_);obtain⟨oe,hoe,hce⟩:=he;replace b4:Jg i2 g3 g4:=b4;have y4:139 g4 z TI TO:=b4 _ _ Z2.c4.symm (132 _ Z2.c2.symm<|b2.extBut _ _ Z2.c3.symm y1);have ez:e≠z:=λx=>by subst x;rw[y4]at hoe;cases hoe;simp at hce
  refine 138 y4 λg5 _ b5=>?_;exact Gn (IG (T:=`bD) (b:=true) ⟨oe,b5.extBut _ _ ez hoe,hce⟩ Jl<|Gv<|q g5 _ λc o e1 e2 e3 e4 x=>b5.extBut _ _ e1<|b4 _ _ e4<|132 _ e2<|b2.extBut _ _ e3<|b1.extBut _ _ e1 x)
end
theorem vD{P:GJ}{w:GW}{K:Gr}{A:Hk}{elts:`af}{kk:Nat}{tp:Pos}(a1 a2 z TI TO i1 i2:Addr)(Z2:ZIds z TI TO i1 i2):
  TurnH P w K A (.Tuple elts kk tp) (Bo K (.lst a1)<|.lst a2) [z,TI,TO,i1,i2] z (Fi (.lst a1) (.lst a2) z TI TO i1 i2) where
 obj:=(jv (P:=P) (w:=w) (K:=K) (elts:=elts) (kk:=kk) (tp:=tp) (.lst a1) (.lst a2) z TI TO i1 i2 Z2).obj
 keep:=(jv (P:=P) (w:=w) (K:=K) (elts:=elts) (kk:=kk) (tp:=tp) (.lst a1) (.lst a2) z TI TO i1 i2 Z2).keep
 self:=(jv (P:=P) (w:=w) (K:=K) (elts:=elts) (kk:=kk) (tp:=tp) (.lst a1) (.lst a2) z TI TO i1 i2 Z2).self
 item:=by
  intro X hP hw hK hA hh i Z_ s Z H E I hf st hg;subst hP hw hK hA;obtain⟨xs,ys,x,y,hx,hy,ex,ey⟩:=hg;obtain⟨hz,hI,⟨a,b',hO⟩,t1,t2⟩:=st;obtain⟨x1,P1,S1,D1,u1,r1,a1,g1,o1⟩:=p7 hh I hx t1;obtain⟨x2,P2,S2,D2,u2,r2,a2,g2,o2⟩:=p7 hh I hy t2;have ZA:=DC I Z2 hf g1 g2 o1 o2;refine nt D1 D2 ZA (GA.mp ex).1 (GA.mp ey).1 hz hI hO u1 u2 λvx vy h' tk T px py hT hz' hO' w1 w2 hTp kp=>?_;obtain⟨x',ex',rx⟩:=r1 i vx px;obtain⟨y',ey',ry⟩:=r2 i vy py;rw[ex]at ex';cases ex';rw[ey]at ey';cases ey';have nT:41 T:=by rw[hT];exact I.hok.fresh `w
  refine 8 `a (Lk hz' λh2 hz2 sb=>?_);have lt:∀{c o},22 c o->c≠T:=λe=>by rw[hT];exact GY (GG e)
  have up:∀c o,c≠z->66 c o->0 (h2.get? c) o:=λc o hc e=>(sb.2 c hc).trans e;have kp2:∀b o,b∉[z,TO,i1,i2]->22 b o->0 (h2.get? b) o:=λb o hb e=>by
   simp only[GI,Hc,or_false,not_or]at hb;exact up b o hb.1 (kp b o hb.1 hb.2.1 hb.2.2.1 hb.2.2.2 e)
  have ch:∀b∈[z,TO,i1,i2],b∈[z,TI,TO,i1,i2]:=λb hb=>by
   simp only[GI,Hc,or_false]at hb ⊢;rcases hb with h|h|h|h<;>simp[h]
  have gv:∀b u,21 b u->b∉[z,TO,i1,i2]/\b≠T:=λb u e=>⟨λhb=>(by rw[(81 b b hb).1]at e;cases e),λq=>(by rw[q,nT]at e;cases e)⟩
  have I2:Inv X Z_ Z (dF H T<|.tup [x,y]) {s with heap:=h2,gens:=s.gens,drawn:=s.drawn,toks:=tk}:=by
   refine I.step (g':=s.gens) (d':=s.drawn) (t':=tk) (ch:=[z,TO,i1,i2]) (λb hb=>⟨(81 b b hb).2.2.2.1,(81 b b hb).2.1,(81 b b hb).2.2.2.2.1,(81 b b hb).2.2.2.2.2⟩) (λb o _ _ hb e _=>kp2 b o hb e) (λb o _ _ hb e _=>⟨o.slots,kp2 b o hb e⟩) (λb o hb e n=>by rw[aH (lt e)];exact n) (λb o hb e=>⟨o,kp2 b o hb e⟩) (λb xs e=>by rw[aH (gv b _ e).2];exact e) (λb o u e=>by rw[aH (gv b _ e).2];exact e) (λb ps e=>⟨#[],by rw[aH (gv b _ e).2,e];simp⟩) (λm hm=>?_) (λb u e=>?_) I.bare
   ·obtain⟨o,es,ep,ho,r⟩:=hm;exact⟨o,es,ep,kp2 _ o (λhb=>(81 _ _ hb).2.1 `a) ho,r⟩
   ·by_cases hb:b=T
    ·subst hb;rw[aS]at e;cases e;refine⟨(by show 69 2;rw[Iq];decide),[vx,vy],.cons rx<|.cons ry .nil,⟨_,up _ _ ?_ hTp,15 `a,_,`a⟩⟩;exact λq=>lt hz q.symm
    ·rw[aH hb]at e;refine(I.hok b u e).stay (λc v hc q=>kp2 c v ?_ q) (λc q=>by rw[aH (gv c _ q).2];exact q) λc xs q=>by rw[aH (gv c _ q).2];exact q
     rcases hc with q|q;·rw[q];exact(gv b u e).1
     ·exact(gv c _ q).1
  refine⟨.ref T,_,I2,`a,⟨T,x,y,nT,rfl,λxs' h=>by rw[I.list_inj h hx];exact ex,λys' h=>by rw[I.list_inj h hy];exact ey,rfl⟩,⟨hz2,up _ _ Z2.c1<|kp _ _ Z2.c1 Z2.c5 Z2.c6 Z2.c7 hI,8 _<|up _ _ Z2.c2 hO',Le (a1 _ _ w1) λo e=>up _ o Z2.c3 e,Le (a2 _ _ w2) λo e=>up _ o Z2.c4 e⟩,`bm⟩;have hbT:b≠T:=by
   obtain⟨o,e⟩:∃o,22 b o:=by
    obtain⟨o1,e1,_⟩:=LA t1;obtain⟨o2,e2,_⟩:=LA t2;simp only[GI,Hc,or_false]at hb;rcases hb with rfl|rfl|rfl|rfl|rfl;·exact 42 hz
    ·exact 42 hI
    ·exact 42 hO
    ·exact 42 e1
    ·exact 42 e2
   exact lt e
  rw[aH hbT];exact(hf b hb).1
 done:=by
  intro X hP hw hK hA hh i Z_ s Z H E I hf st hg;subst hP hw hK hA;obtain⟨xs,ys,hx,hy,hend⟩:=hg;obtain⟨hz,hI,⟨a,b',hO⟩,t1,t2⟩:=st;obtain⟨x1,P1,S1,D1,u1,r1,a1,g1,o1⟩:=p7 hh I hx t1;obtain⟨x2,P2,S2,D2,u2,r2,a2,g2,o2⟩:=p7 hh I hy t2;have ZA:=DC I Z2 hf g1 g2 o1 o2;have ch:∀b∈[z,TO,i1,i2],b∈[z,TI,TO,i1,i2]:=λb hb=>by
   simp only[GI,Hc,or_false]at hb ⊢;rcases hb with h|h|h|h<;>simp[h]
  refine vC D1 D2 ZA hend hz hI hO u1 u2 λh2 tk kp=>15 ?_
  have kp2:∀b o,b∉[z,TO,i1,i2]->22 b o->0 (h2.get? b) o:=λb o hb e=>by
   simp only[GI,Hc,or_false,not_or]at hb;exact kp b o hb.1 hb.2.1 hb.2.2.1 hb.2.2.2 e
  refine I.step (g':=s.gens) (d':=s.drawn) (t':=tk) (ch:=[z,TO,i1,i2]) (λb hb=>⟨(81 b b hb).2.2.2.1,(81 b b hb).2.1,(81 b b hb).2.2.2.2.1,(81 b b hb).2.2.2.2.2⟩) (λb o _ _ hb e _=>kp2 b o hb e) (λb o _ _ hb e _=>⟨o.slots,kp2 b o hb e⟩) (λb o hb e n=>n) (λb o hb e=>⟨o,kp2 b o hb e⟩) (λb xs e=>e) (λb o u e=>e) (λb ps e=>⟨#[],by rw[e];simp⟩) (λm hm=>?_) (λb u e=>?_) I.bare
  ·obtain⟨o,es,ep,ho,r⟩:=hm;exact⟨o,es,ep,kp2 _ o (λhb=>(81 _ _ hb).2.1 `a) ho,r⟩
  ·have gv:∀b u,21 b u->b∉[z,TO,i1,i2]:=λb u e hb=>by rw[(81 b b hb).1]at e;cases e
   refine(I.hok b u e).stay (λc v hc q=>kp2 c v ?_ q) (λc q=>q) λc xs q=>q;rcases hc with q|q
   ·rw[q];exact gv b u e
   ·exact gv c _ q
def DD(K:Gr)(t:TA):TI:=λZ H R=>t Z H λvs H1=>∃a b xs ys,2 vs [.ref a,.ref b] (SqL K H1 a xs) (SqL K H1 b ys/\R (Bo K (.lst a)<|.lst b) H1)
theorem zN{X:Cx}{K:Gr}(hK:X.K=K){a b:Expr}{ta:TA}{p pos tp:Pos}{elts:`af}{kk:Nat}(hg:Gl X "zip")(hm:7 (X.mg "zip"))(ha:PA X [a,b] ta)
  (hs:67 [a,b]=[(false,30 a),(false,30 b)]:=by rfl) (hs2:67 [b]=[(false,30 b)]:=by rfl):DW X (.Tuple elts kk tp) (123 "zip" p [a,b] [] pos) (DD K ta):=by
 subst hK;intro Z_ s Z H R I h;refine QW (gD I hg hm RC (Ie (159 (ha pos Z_ s Z H _ I h) ?_) (by rw[hs,hs2]) (by rw[hs2];rfl)));obtain⟨c1,c2,xs,ys,e,h1,h2,q⟩:=q1;subst e;obtain⟨v1,v2,rfl,ra,rb⟩:=pG r1;obtain⟨o1,i1,f1,n1⟩:=Ph (c:=.lst c1) I1 h1 ra λ_ _ e=>e;obtain⟨o2,i2,f2,n2⟩:=Ph (c:=.lst c2) (h:=s1.heap.push o1) I1 h2 rb λ_ _ e=>17 e;have z1:(s1.heap.push o1).objs.size=117 1:=HQ ..;rw[z1]at n2;refine nr i1 i2 f1 f2 λh' hz hI hO e1 e2 kp=>?_;refine Li hz ?_;have zi:∀n:Nat,ZIds (n+4) (n+2) (n+3) n (n+1):=λn=>⟨ig n 2 4 ⋯,ig n 3 4 ⋯,ig n 0 4 ⋯,ig n 1 4 ⋯,ig n 2 3 ⋯,ig n 2 0 ⋯,ig n 2 1 ⋯,ig n 3 0 ⋯,ig n 3 1 ⋯,ig n 0 1 ⋯⟩
 refine⟨117 4,[117 4,117 2,117 3,s1.heap.objs.size,117 1],_,_,H1,`a,I1.kept (t':=s1.toks) kp,vD c1 c2 _ _ _ _ _<|zi `ba,⟨hz,hI,8 _ hO,n1 h' e1,n2 h' e2⟩,`bm,q⟩;have hb':`ba<=b:=by
  simp only[GI,Hc,or_false]at hb;rcases hb with z|z|z|z|z<;>rw[z]
  ·exact HU _ 4
  ·exact HU _ 2
  ·exact HU _ 3
  ·exact `w
  ·exact HU _ 1
 exact 155 hb' hb'
theorem zO{X:Cx}{tg iter:Expr}{body:List Stmt}{wi:TI}{g:TG}{tb:TS}{pos:Pos}(hp:QV `aM X.A `D X.xe)(hx:HdX X)(hi:DW X tg iter wi)(hg:PG X tg g)(hb:PSs X body tb)
  (hs:∀x,158 `D x=pure x:=by intro _;rfl):PS X (.For tg iter body [] pos) (uo wi g tb):=by
 intro Z_ s Z H D I h;refine wpAny_For (cE (hi Z_ s Z H _ I h) λv s1 h1=>cE h1 λitv s2 h2=>?_) hs;obtain⟨it,fp,tn,J,H2,e,I2,T,st2,f2,W,⟨m0,w0⟩,turn⟩:=h2;subst e;have stat:∀{H':Hp},140 (H' b)->112 X Z_ H' b:=λhn b hb=>⟨hn b hb,(f2 b hb).2⟩
 refine Oo (λn s'=>∃i σ' H',38 X σ' H' s'/\tn i s'.heap/\140 (H' b)/\W i n σ' H') ?_ m0 ⟨0,Z,H2,I2,st2,λb hb=>(f2 b hb).1,w0⟩;rintro n s3 ⟨i,σ3,H3,I3,st3,fr3,w3⟩;rcases turn i n σ3 H3 w3 with⟨stop,qn⟩|⟨go,N,hN,step⟩
 ·refine IM hp (cE (T.done X `a `a `a `a hx i Z_ s3 σ3 H3 X.xe I3 (stat fr3) st3 stop) λr s4 zz=>?_);obtain⟨hr,I4⟩:=zz;subst hr;exact KI ⟨σ3,H3,I4,qn⟩
 ·refine IM hp (cE (T.item X `a `a `a `a hx i Z_ s3 σ3 H3 X.xe I3 (stat fr3) st3 go) λr s4 zz=>?_);obtain⟨u,hr,h4⟩:=zz;subst hr;refine IM hp (cE h4 λ_ s5 zz=>?_);obtain⟨x,H5,I5,r5,y5,st5,fr5⟩:=zz;have I5':=I5.pinned (stat fr5) (T.obj _ _ st5);refine IM hp (cE (hg _ s5 σ3 H5 x u _ I5' r5<|step x H5 y5) λ_ s6 zz=>?_);obtain⟨σ6,H6,I6,q6⟩:=zz;refine IM hp (cE (hb _ s6 σ6 H6 _ I6 q6) λf s7 q7=>?_);have again:∀{σ7:St}{H7:Hp},Inv X (Z_++jh fp s5.heap) σ7 H7 s7->N σ7 H7->∃m,m<n/\∃i σ' H',38 X σ' H' s7/\tn i s7.heap/\140 (H' b)/\W i m σ' H':=λ{σ7 H7}I7 n7=>by
   obtain⟨m',hm,w7⟩:=hN σ7 H7 n7;refine⟨m',hm,i+1,σ7,H7,I7.unpinned,T.keep _ _ _ st5 λb hb o e=>(I7.pin (b,o)<|Hd _<|Hd _<|dY hb e).1,`bm,w7⟩;obtain⟨o,e,d⟩:=T.obj _ _ st5 b hb;exact(I7.pin (b,o)<|Hd _<|Hd _<|dY hb e).2.1
  cases f with
  |next=>obtain⟨σ7,H7,I7,n7⟩:=q7;exact again I7 n7
  |cont=>obtain⟨σ7,H7,I7,n7⟩:=q7;exact again I7 n7
  |brk=>obtain⟨σ7,H7,I7,q7⟩:=q7;exact⟨σ7,H7,I7.unpinned,q7⟩
  |ret v=>obtain⟨x7,σ7,H7,I7,r7,q7⟩:=q7;exact⟨x7,σ7,H7,I7.unpinned,r7,q7⟩
end L2
namespace Wb
open PySem L2 Mi
section
open PySem.Spec PySem.Calls PyProof.Rows
theorem zP{X:Cx}{k:Nat}{x C:Addr}{ps:`y}{sp:Addr->Addr->Sp}{xn:Str}{p pos:Pos}{e:Expr}{es:`af}{t:TA}(F:CalH `S X.w X.K X.mg X.base xn ps k sp)(hE:HdE X x C)(hr:RoomH k X.A)(hg:Gl X xn)
  (ha:PA X (e::es) t) (hdb:12 (xn==("__debug__" :Str)):=by decide) (he:67 (e::es)=(false,30 e)::67 es:=by rfl) (hpl:12 ((124 pos es).any (·.1)):=by rfl):
  9 (123 xn p (e::es) [] pos) (aO (sp x C) [] E0 t):=by
 obtain⟨f,fd,F,hm,hk,hb⟩:=F.ex;obtain⟨oe,od,hf,hA,hh,h3,h4,h5,h6⟩:=hE;intro Z_ s Z H Q I h;refine Kz (iQ I hg hm ?_ hdb);refine Mx (h₀:=X.base) I.ok.mod.kin hk (cE (ha pos Z_ s Z H _ I h) λus s1⟨vs,H1,I1,r,q⟩=>⟨I1.kIn,?_⟩) he hpl;have hfr:x∉frs X.stack:=λm=>by
  rcases GI.mp (I1.stkSub x m)with z|z
  ·have:=GG h3;rw[z]at this;exact 128 this I1.ok.above (HI _)
  ·exact h5 z
 have q:sp x C (vs++[]) H1 Q E0:=q;rw[Im]at q;rw[Kl];have hl:us.length=`bh:=by rw[<-r.length];exact F.len _ _ _ _ _ _ q
 refine Nq (Lg (F.run x C od oe X.A X.stack s1 H1 ⟨us,[]⟩ us vs Q E0 hr hA hh (λd hd=>let ⟨o,u,z⟩:=hf d hd;⟨o,u,I1.base.frzs d o u z⟩) (I1.base.keep x oe h3 h4 h5 h6) (I1.base.free x oe h3 h4 h6) hfr I1.env0 (by have:=hb s1 us I1.kIn `bX;simpa using this) r q) λr s' hq=>?_);cases r with
 |error e=>exact hq.elim
 |ok fl=>
  cases fl with
  |ret u=>exact I1.after hq
  |next=>exact J5 hq
  |brk=>exact J5 hq
  |cont=>exact J5 hq
end
def nP:Nat->Addr->Addr->Sp
 |0=>λ_ _ _ _ _ _=>False
 |n+1=>λ_ _ vs H Q _=>(∃s,vs=[.str s,.str s]/\Q (.bl `o) H)\/∃m p q xs,25 n (m+1) (vs=[.ref p,.ref q]) (21 p<|.lst xs) (21 q<|.lst xs) ((∀x∈xs,∃s,x=LS s)/\∀H',Same H H'->Q (.bl `o) H')
theorem yg{P:GJ}{w:GW}{K:Gr}{mg:Str->`M}{base:Heap}{f:Addr}{fd:GV}{ps:`y}{k:Nat}:FnOkH P w K mg `d k f fd ps (nP 0):=⟨λ_ _ _ _ _ _ h=>h.elim,λ_ _ _ _ _ _ _ _ _ _ _ _ _ _ _ _ _ _ _ _ _ _ _ h=>h.elim⟩
section
variable{β:Type}{K:Gr}{base:Heap}{cs:`R}{aB:Addr}{W0 W:Wd}{Q:VK}{s:Tx}{ie i:Nat}{Z:St}{D:Ends}{R:`az}{rest:TS}{σ':V->St}{xs:Str}{Er:`av}{p:`av}
theorem zQ{a b c:TS}(Z2:Kin K `d cs aB)(hs:xs=sOf s)(hD:D.rt=Q)(h:eI a (eI b<|eI c rest) D Z W.H)(hi:ie<Z.length:=by first|decide|simp):
  eI (BB (EX K cs s W0 Q) ie (eI a<|eI b c)<|BC K cs aB ie xs) rest D Z W.H:=⟨h,λx C od oe σ1 H1 hE hx hh hl=>xh Z2 hs hD hE (by rw[hl];exact hi)⟩
theorem vF{te:TE}{m:`aL}(e0:39 W)(h:∀Er',Esc Er' cs (EX K cs s W0 Q) W->EV Er' te Z W (sh R) m)
  (q:44 (Qf m) (F3 K W0 W Q s R D rest σ')) (hσ:∀v,Z.set i (some v)=σ' v:=by intro _;rfl):eI (bT te<|aW i) rest D Z W.H:=by
 refine h (λj=>rs (isU K) W0 (rD s j) Q) (λj hj x W' e hx=>⟨⟨x,`a⟩,j,W',`a,`a,e0.trans e,hj⟩) W `s _ ((Rl q).imp λy ky v W' e hr=>?_);have:=ky v W' e hr;rw[<-hσ]at this;exact this
def EXP(cs:`R)(W0:Wd)(p:`av):XK:=λv C H'=>(∃x,v=`bd)/\∃(j:Nat)(W':Wd),2 C cs[j]? (W'.H=H') (39 W'/\p j)
theorem EXP.cl(Z2:Kin K `d cs aB):∀v C H,EXP cs W0 p v (some C) H->∃bmC,Xcl `d C bmC/\1 ((GZ C::bmC).contains<|.ref aB):=λv C H⟨_,j,W',h,_⟩=>(Z2.one j C h.symm).2.2.2.2
abbrev pOne(W0:Wd)(Q:VK)(s:Tx)(j:Nat):Prop:=kindN.getD j []=s/\rs isB W0 `o Q
theorem pOne.of{j:Nat}(h:44 (if kindN.getD j []=s then Gw `o else LD:`x) λb=>rs isB W0 b Q):pOne W0 Q s j:=by
 by_cases z:kindN.getD j []=s;·rw[Z3 z]at h;exact⟨z,h⟩
 ·rw[Z4 z]at h;exact h.elim
theorem zR{te:TE}{m:`aL}(e0:39 W)(Z2:Kin K `d cs aB)(hs:xs=sOf s)(hD:D.rt=Q)(h:∀Er',Esc Er' cs (EXP cs W0<|pOne W0 Q s) W->EV Er' te Z W (sh R) m)
  (q:(Qf m).OkE Er λr=>match r with| .inl _=>∀W',Ext W W'->rest D Z W'.H| .inr j=>pOne W0 Q s j) (hi:ie<Z.length:=by first|decide|simp):
  eI (BB (EXP cs W0<|pOne W0 Q s) ie (bj te) λx C od _=>bX<|aO (zo od<|nP 2 x C) [] E0<|aj (aO (zo od<|fQ K cs aB x C) [] E0<|aj (bH ie) aU)<|aj (bY<|aj (tC<|.str xs) aU) aU) rest D Z W.H:=by
 refine⟨h (pOne W0 Q s) (λj hj x W' e hx=>⟨⟨x,`a⟩,j,W',`a,`a,e0.trans e,hj⟩) W `s _<|(Rl q).imp λy ky v W' e hr=>ky W' e,λx C od oe σ1 H1 hE hx hh hl=>?_⟩;obtain⟨⟨x',hx'⟩,j,W',hj,rfl,e,hk,q⟩:=hE;have ho:7 od:=by cases od with|none=>rfl|some d=>cases hx'
 have hi:ie<σ1.length:=by rw[hl];exact hi
 obtain⟨z1,z2,z3,z4,_⟩:=Z2.one j C hj.symm;have hj':j<13:=by rw[<-Z2.len];exact(GA.mp hj.symm).1
 have hkk:EVo `bH (aO (zo od<|fQ K cs aB x C) [] E0<|aj (bH ie) aU) (σ1.set ie<|24 x) W' isS (.ok [kindN.getD j []]):=λW1 e1 Q1 k=>⟨`bd,by rw[JX hi],(λd z=>by rw[ho]at z;cases z),W1,j,`a,`a,z1,hj',z2,z3,z4,λp W2 e2 hp o=>k p W2 e2 hp o⟩
 have ha:=II hkk;have hb:=λW1 e1=>II (dj (Er:=`bH) (Z:=σ1.set ie (24 x)) (W:=W')<|aX (aK (x:=xs) (l:=s) hs)<|di (R:=isS)) W1 e1;rw[hk]at ha;refine aM (Er:=`bH) (R:=sh isB) (m:=.ok `o) (λW1 e1 Q1 k=>ha W1 e1 _ ?_) (λv W2 e2 hv=>by rw[hD];exact q v W2 (e.trans e2) hv);intro x1 W2 e2 hx1;refine hb W2 `L _ λy1 W3 e3 hy1=>?_;obtain⟨p1,v1,rfl,g1,r1⟩:=hx1;obtain⟨p2,v2,rfl,g2,r2⟩:=hy1;have E1:v1=[88 s]:=r1.str;have E2:v2=[88 s]:=r2.str;refine⟨(λd z=>by rw[ho]at z;cases z),.inr ⟨0,p1,p2,v1,rfl,rfl,W3.ok _ _ (e3.g _ _ g1),by rw[E1,<-E2];exact W3.ok _ _ g2,?_,λH' hs=>?_⟩⟩;·intro x hx;rw[E1]at hx;exact 42 (by simpa using hx)
 ·exact k (.bl `o) ⟨W3.G,H',W3.ok.trans hs⟩ ⟨e2.g.trans e3.g,(e2.h.trans e3.h).trans hs,λp hp=>(`am).k p hp⟩ `a
end
end Wb
namespace Mi
noncomputable section
@[irreducible]noncomputable def DY(Z0p:`P)(l_k:Int):`H:=if(decide<|l_k<(Z0p.length:Int))then gr Z0p l_k else(lD (l_k*48271+(11:Int))<|(Z0p.length:Int)+(7:Int)).bind λy8=>Gw<|y8%1000003
def i7(Z0p:`P)(l_k:Int):`H:=DY Z0p l_k
@[irreducible]noncomputable def Cp(Z03:Int)(Z1Q:Int)(a19:Int)(s20:`c×`c×`P):Res (`c×`c×`P):=13 (if(decide<|(1000000000000000000:Int)<=fv Z03)then Gw (decide<|(0:Int)<s20.2.1)else `aR) (λy45=>(if y45 then 13 (j7 s20.2.1 Z1Q) (λy56=>jx s20.2.2 y56) λy55=>(lE s20.2.1 Z1Q).bind λy59=>Gw (y59,y55)else(13 ((lD ((s20.1*48271+(7919:Int)+a19)%2147483647)<|(s20.1*48271+(7919:Int)+a19)%2147483647).bind λy63=>Gw<|y63%1000003) (λy64=>j7 y64 Z1Q) λy69=>jx s20.2.2 y69).bind λy68=>Gw (s20.2.1,y68):Res (`c×`P))) λs70=>Gw (((s20.1*48271+(7919:Int)+a19)%2147483647),s70.1,s70.2)
@[irreducible]noncomputable def DZ(Z03:Int)(Z0Q:Int)(Z1Q:Int):`aY:=13 (iy Z0Q) (λy78=>cK (Cp Z03 Z1Q) y78 (((fv Z03)%2147483647),fv Z03,([]:`P))) λs79=>Gw s79.2.2
def iY(Z03:Int)(Z0Q:Int)(Z1Q:Int):`aY:=DZ Z03 Z0Q Z1Q
@[irreducible]noncomputable def Cq(y3:Int)(y8:`P)(a15:Int)(s16:Tx):`I:=13 ((((gr y8 (4:Int)).bind λy39=>13 (j7 a15 y3) (λy38=>Gw<|y38*7) λy40=>Gw<|y39+y40).bind λy41=>Gw<|y41%26).bind λy42=>gw ([97,98,99,100,101,102,103,104,105,106,107,108,109,110,111,112,113,114,115,116,117,118,119,120,121,122]:Tx) y42) (λy43=>dO s16 y43) λy44=>Gw y44
@[irreducible]noncomputable def E3(iY:`c->`c->`c->`aY)(Z03:Int):`I:=(gr [(1:Int),(2:Int),(3:Int),(4:Int),(26:Int)]<|Z03%5).bind λy3=>(iY (Z03/5) (5:Int) (26:Int)).bind λy8=>(cK (Cq y3 y8) (cut y8 `j<|some (4:Int)) ([]:Tx)).bind λs47=>Gw s47
def zS(Z03:Int):`I:=E3 iY Z03
@[irreducible]noncomputable def E4(zS:`c->`I)(Z03:Int):Res Cd:=(gw ([83,90]:Tx)<|Z03%2).bind λy1=>(zS<|Z03/8).bind λy2=>Gw (y1,y2,((Z03/2)%4))
def yO(Z03:Int):Res Cd:=E4 zS Z03
@[irreducible]noncomputable def E5(iY:`c->`c->`c->`aY)(Z03:Int)(Z0Q:Int):`I:=if(decide<|(Z03%7)=(3:Int))then(gw ([102,98,105]:Tx)<|(Z03/7)%3).bind λy3=>Bs y3 Z0Q else 13 (iY (Z03/7) Z0Q (3:Int)) (λy18=>fw y18 λ(a9:Int)=>gw ([102,98,105]:Tx) a9) λy19=>pS y19
def rZ(Z03:Int)(Z0Q:Int):`I:=E5 iY Z03 Z0Q
@[irreducible]noncomputable def E6(Z1j:Tx):`H:=(j9 ([98,105,102]:Tx) Z1j).bind λy1=>Gw (y1-(1:Int))
def qV(Z1j:Tx):`H:=E6 Z1j
@[irreducible]noncomputable def E7(qV:Tx->`H)(Z04:Cd)(Z1j:Tx):Res Cd:=(((qV Z1j).bind λy1=>Gw<|Z04.2.2+y1).bind λy2=>Gw<|y2%4).bind λy3=>Gw (Z04.1,Z04.2.1,y3)
def l7(Z04:Cd)(Z1j:Tx):Res Cd:=E7 qV Z04 Z1j
@[irreducible]noncomputable def E8(qV:Tx->`H)(Z04:Cd)(Z1j:Tx):`H:=if(decide<|Z04.1=([83]:Tx))then qV Z1j else(qV Z1j).bind λy8=>Gw ((0:Int)-y8)
def kQ(Z04:Cd)(Z1j:Tx):`H:=E8 qV Z04 Z1j
@[irreducible]noncomputable def Cr(l7:64 Cd Tx Cd)(kQ:Cd->Tx->`H)(a7:Tx)(s8:Cd×`h):Res (Cd×`h):=(l7 s8.1 a7).bind λy34=>13 ((kQ y34 a7).bind λy39=>Gw<|y39+(1:Int)) (λy40=>gw ([122,111,115]:Tx) y40) λy41=>13 ((gw y34.2.1 y34.2.2).bind λy44=>(gw y34.2.1<|(y34.2.2+(2:Int))%4).bind λy45=>Gw (y44,y45,y41)) (λy50=>jx s8.2 y50) λy49=>Gw (y34,y49)
@[irreducible]noncomputable def E9(l7:64 Cd Tx Cd)(kQ:Cd->Tx->`H)(Z04:Cd)(Z0d:Tx):Res `h:=(cK (Cr l7 kQ) (bG Z0d) (Z04,([]:`h))).bind λs51=>Gw s51.2
def sd(Z04:Cd)(Z0d:Tx):Res `h:=E9 l7 kQ Z04 Z0d
@[irreducible]noncomputable def Cs(a16:Pl×`c)(s17:`c×`h):Res (`c×`h):=13 (if(decide<|a16.2=(5:Int))then Gw (decide<|s17.1<(6:Int))else `aR) (λy45=>(if y45 then Gw (s17.1+(1:Int),(([63]:Tx),a16.1.2.1,([63]:Tx)))else Gw (s17.1,a16.1):Res (`c×Pl))) λs61=>(jx s17.2 s61.2).bind λy74=>Gw (s61.1,y74)
@[irreducible]noncomputable def Ea(iY:`c->`c->`c->`aY)(Z0K:`h)(Z03:Int):Res `h:=(iY (Z03/3) (Z0K.length:Int) (11:Int)).bind λy13=>(cK Cs (Z0K.zip y13) ((0:Int),([]:`h))).bind λs75=>(if(decide<|(Z03%3)=(2:Int))then(j7 (Z03/3) (Z0K.length:Int)).bind λy87=>13 (13 (gr s75.2 y87) (λy90=>Gw y90.1) λy92=>13 (gr s75.2 y87) (λy91=>Gw y91.2.1) λy93=>(gw ([115,122,111]:Tx)<|(Z03/7)%3).bind λy94=>Gw (y92,y93,y94)) (λy98=>lF s75.2 y87 y98) λy99=>Gw y99 else Gw s75.2:Res `h).bind λs101=>Gw s101
def zT(Z0K:`h)(Z03:Int):Res `h:=Ea iY Z0K Z03
@[irreducible]noncomputable def Ct(Z03:Int)(a14:Pl×`c)(s15:`h):Res `h:=(if(decide<|(Z03%5)=(0:Int))then Gw ((a14.2/8)*8)else Gw a14.2:`H).bind λs56=>(if(decide<|(Z03%5)=(1:Int))then Gw ((s56/8)*8+(7:Int))else Gw s56:`H).bind λs75=>13 (if(decide<|(56:Int)<=s75)then Gw (decide<|(s75%3)<(2:Int))else `aR) (λy90=>(if y90 then 13 (13 ((gr [a14.1.1,a14.1.2.1,a14.1.2.2]<|s75%3).bind λy101=>j9 ([97,98,99,100,101,102,103,104,105,106,107,108,109,110,111,112,113,114,115,116,117,118,119,120,121,122,97]:Tx) y101) (λy102=>Gw<|y102+(1:Int)) λy103=>gw ([97,98,99,100,101,102,103,104,105,106,107,108,109,110,111,112,113,114,115,116,117,118,119,120,121,122,97]:Tx) y103) (λy107=>lF [a14.1.1,a14.1.2.1,a14.1.2.2] (s75%3) y107) λy108=>Gw y108 else Gw [a14.1.1,a14.1.2.1,a14.1.2.2]:75 Tx)) λs110=>13 (if(decide<|(56:Int)<=s75)then Gw (decide<|(s75%3)=(2:Int))else `aR) (λy120=>(if y120 then 13 (13 (gr s110 (2:Int)) (λy127=>j9 ([115,122,111]:Tx) y127) λy128=>gw ([122,111,115]:Tx) y128) (λy132=>lF s110 (2:Int) y132) λy133=>Gw y133 else Gw s110:75 Tx)) λs135=>13 ((fw (s135.zip [(1:Int),(2:Int),(4:Int)]) (λ(a149:Tx×`c)=>(((lE s75 a149.2).bind λy158=>Gw<|y158%2).bind λy159=>Gw<|decide<|y159=(1:Int)).bind λy160=>if y160 then Gw a149.1 else Gw ([63]:Tx))).bind λy163=>Bt y163) (λy168=>jx s15 y168) λy167=>Gw y167
@[irreducible]noncomputable def Eb(iY:`c->`c->`c->`aY)(Z0K:`h)(Z03:Int)(Z23:Bool):Res `h:=13 ((lD (8:Int) (if Z23 then(1:Int)else 0)).bind λy9=>Gw<|(56:Int)+y9) (λy10=>iY (Z03/5) (Z0K.length:Int) y10) λy11=>(cK (Ct Z03) (Z0K.zip y11) ([]:`h)).bind λs169=>Gw s169
def zU(Z0K:`h)(Z03:Int)(Z23:Bool):Res `h:=Eb iY Z0K Z03 Z23
@[irreducible]noncomputable def Ec(Z04:Cd):Res Cd:=13 (j9 ([83,90]:Tx) Z04.1) (λy5=>gw ([90,83]:Tx) y5) λy12=>13 (13 (gw Z04.2.1 (0:Int)) (λy6=>(gw Z04.2.1 (3:Int)).bind λy7=>dO y6 y7) λy8=>(gw Z04.2.1 (2:Int)).bind λy9=>dO y8 y9) (λy10=>(gw Z04.2.1 (1:Int)).bind λy11=>dO y10 y11) λy13=>Gw (y12,y13,(((0:Int)-Z04.2.2)%4))
def zV(Z04:Cd):Res Cd:=Ec Z04
@[irreducible]noncomputable def Ed(Z0d:Tx):`I:=(fw (bG Z0d) λ(a1:Tx)=>(j9 ([98,105,102]:Tx) a1).bind λy8=>gw ([102,105,98]:Tx) y8).bind λy11=>pS y11
def zW(Z0d:Tx):`I:=Ed Z0d
@[irreducible]noncomputable def Ee(Z04:Cd)(Z0Q:Int):Res Cd:=13 ((iy (4:Int)).bind λy13=>fw y13<|λ(a3:Int)=>gw Z04.2.1<|(a3-Z0Q)%4) (λy14=>pS y14) λy15=>Gw (Z04.1,y15,((Z04.2.2+Z0Q)%4))
def zX(Z04:Cd)(Z0Q:Int):Res Cd:=Ee Z04 Z0Q
@[irreducible]noncomputable def Cu(a37:Int)(s38:`P):`aY:=(if(!s38.contains a37)then(jx s38 a37).bind λy68=>Gw y68 else Gw s38:`aY).bind λs70=>Gw s70
@[irreducible]noncomputable def DE(l7:64 Cd Tx Cd)(a7:Tx)(s8:Cd×`P):Res (Cd×`P):=(l7 s8.1 a7).bind λy34=>(cK Cu [y34.2.2,((y34.2.2+(2:Int))%4)] s8.2).bind λs78=>Gw (y34,s78)
@[irreducible]noncomputable def Ef(l7:64 Cd Tx Cd)(Z04:Cd)(Z0d:Tx):`aY:=(cK (DE l7) (bG Z0d) (Z04,([]:`P))).bind λs82=>sR s82.2
def zY(Z04:Cd)(Z0d:Tx):`aY:=Ef l7 Z04 Z0d
@[irreducible]noncomputable def Cv(Z03:Int)(y40:`P)(a43:Int)(s44:Cd):Res Cd:=(if(!y40.contains a43)then 13 (((lD (5:Int) a43).bind λy75=>Gw<|(Z03/16)+y75).bind λy76=>Gw<|y76%26) (λy77=>gw ([97,98,99,100,101,102,103,104,105,106,107,108,109,110,111,112,113,114,115,116,117,118,119,120,121,122]:Tx) y77) λy78=>13 (13 (fJ s44.2.1 `j<|some a43) (λy83=>dO y83 y78) λy84=>(fJ s44.2.1 (some<|a43+(1:Int)) `j).bind λy85=>dO y84 y85) (λy86=>Gw (s44.1,y86,s44.2.2)) λy87=>Gw y87 else Gw s44:Res Cd).bind λs91=>Gw s91
@[irreducible]noncomputable def Eg(zV:Cd->Res Cd)(zW:Tx->`I)(zX:64 Cd `c Cd)(zY:Cd->Tx->`aY)(Z04:Cd)(Z0d:Tx)(Z03:Int):Res (Cd×Tx):=(if(decide<|(Z03%2)=(1:Int))then(zV Z04).bind λy9=>(zW Z0d).bind λy14=>Gw (y9,y14)else Gw (Z04,Z0d):Res (Cd×Tx)).bind λs18=>(zX s18.1<|(Z03/2)%4).bind λy29=>(if(decide<|((Z03/8)%2)=(1:Int))then(zY y29 s18.2).bind λy40=>13 (iy (4:Int)) (λy101=>cK (Cv Z03 y40) y101 y29) λs102=>Gw s102 else Gw y29:Res Cd).bind λs107=>Gw (s107,s18.2)
def zZ(Z04:Cd)(Z0d:Tx)(Z03:Int):Res (Cd×Tx):=Eg zV zW zX zY Z04 Z0d Z03
@[irreducible]noncomputable def Eh(yO:`c->Res Cd)(i7:`P->`c->`H)(rZ:`c->`c->`I)(sd:64 Cd Tx `h)(zT:64 `h `c `h)(zU:`h->`c->Bool->Res `h)(zZ:Cd->Tx->`c->Res (Cd×Tx))(Z0p:`P)(Z2f:Int):Res (Cd×`h×`c):=13 (i7 Z0p (0:Int)) (λy3=>yO y3) λy4=>(i7 Z0p (2:Int)).bind λy9=>(i7 Z0p (3:Int)).bind λy14=>(j7 y9<|Z2f+(1:Int)).bind λy19=>(if(decide<|((y9/13)%6)=(1:Int))then Gw ((25:Int)+((y9/78)%36))else Gw y19:`H).bind λs33=>(if(decide<|((y9/13)%6)=(3:Int))then Gw ((13:Int)+((y9/78)%12))else Gw s33:`H).bind λs51=>13 (i7 Z0p (1:Int)) (λy60=>rZ y60 s51) λy61=>(sd y4 y61).bind λy66=>(if(decide<|Z2f<s51)then(zT y66 y14).bind λy77=>Gw y77 else(zU y66 (y14/3)<|decide<|(y14%3)=(2:Int)).bind λy83=>Gw y83:Res `h).bind λs86=>((i7 Z0p (4:Int)).bind λy97=>Gw<|y97/4).bind λy98=>(if(decide<|(y98%6)=(1:Int))then 13 (zZ y4 y61<|y98/6) (λy109=>Gw y109.1) λy110=>Gw y110 else Gw y4:Res Cd).bind λs114=>(if(decide<|(y98%6)=(2:Int))then(yO<|y98/6).bind λy131=>Gw y131 else Gw s114:Res Cd).bind λs135=>((i7 Z0p (4:Int)).bind λy144=>Gw<|y144%4).bind λy145=>Gw (s135,s86,y145)
def yP(Z0p:`P)(Z2f:Int):Res (Cd×`h×`c):=Eh yO i7 rZ sd zT zU zZ Z0p Z2f
@[irreducible]noncomputable def Ei(iY:`c->`c->`c->`aY)(Z0D:`h)(Z03:Int):Res `h:=(if(decide<|(Z0D.length:Int)<(13:Int))then Gw `o else Gw (!decide ((Z03%8)=(3:Int)))).bind λy1=>if y1 then Gw Z0D else(iY (Z03/8) (Z0D.length:Int) (5:Int)).bind λy10=>fw (Z0D.zip y10) (λ(a17:Pl×`c)=>if(decide<|(1:Int)<a17.2)then Gw (([63]:Tx),([63]:Tx),([63]:Tx))else Gw a17.1)
def yh(Z0D:`h)(Z03:Int):Res `h:=Ei iY Z0D Z03
@[irreducible]noncomputable def Ej(state:Ii)(loose:Int)(bound:Int):`x:=if(decide<|fv state.1<=bound)then Gw (decide<|state.2<=loose)else `aR
def jL(state:Ii)(loose:Int)(bound:Int):`x:=Ej state `e `f
@[irreducible]noncomputable def Ek(tablet:Cd)(turn:Tx):`H:=(getD ([([102],1),([98],(-1)),([105],0)]:6 Tx `c) turn).bind λy3=>if(decide<|tablet.1=([83]:Tx))then Gw y3 else Gw (-y3)
def se(tablet:Cd)(turn:Tx):`H:=Ek `aa turn
@[irreducible]noncomputable def El(se:Cd->Tx->`H)(tablet:Cd)(state:Ii)(turn:Tx):Res Ii:=13 (se `aa turn) (λy9=>Gw<|state.1+y9) λy10=>(if(decide<|turn=([105]:Tx))then Gw (state.2+(1:Int))else Gw (0:Int)).bind λy11=>Gw (y10,y11)
def jc(tablet:Cd)(state:Ii)(turn:Tx):Res Ii:=El se `aa state turn
@[irreducible]noncomputable def Em(tablet:Cd)(twist:Int):Res Cd:=((if(decide<|tablet.1=([83]:Tx))then Gw (tablet.2.2+twist)else Gw (tablet.2.2-twist)).bind λy11=>Gw<|y11%4).bind λy12=>Gw (tablet.1,tablet.2.1,y12)
def A0(tablet:Cd)(twist:Int):Res Cd:=Em `aa twist
@[irreducible]noncomputable def tY(tablet:Cd):`I:=gw tablet.2.1<|tablet.2.2%4
def jM(tablet:Cd):`I:=tY `aa
@[irreducible]noncomputable def En(tablet:Cd):`I:=gw tablet.2.1<|(tablet.2.2+(2:Int))%4
def A1(tablet:Cd):`I:=En `aa
@[irreducible]noncomputable def Eo(jM:Cd->`I)(A1:Cd->`I)(se:Cd->Tx->`H)(tablet:Cd)(turn:Tx):Res Pl:=(jM `aa).bind λy2=>(A1 `aa).bind λy3=>13 (se `aa turn) (λy1=>getD ([(1,[115]),((-1),[122]),(0,[111])]:6 `c Tx) y1) λy4=>Gw (y2,y3,y4)
def A2(tablet:Cd)(turn:Tx):Res Pl:=Eo jM A1 se `aa turn
@[irreducible]noncomputable def Ep(sign:Tx)(left:Tx):`x:=if(decide<|left=([63]:Tx))then Gw `o else Gw (decide<|left=sign)
def yQ(sign:Tx)(left:Tx):`x:=Ep sign left
@[irreducible]noncomputable def Es(yQ:Tx->Tx->`x)(place:Pl)(mark:Pl):`x:=(fw ([place.1,place.2.1,place.2.2].zip [mark.1,mark.2.1,mark.2.2]) λ(a1:Tx×Tx)=>yQ a1.1 a1.2).bind λy12=>Gw (y12.all id)
def A3(place:Pl)(mark:Pl):`x:=Es yQ place mark
@[irreducible]noncomputable def Et(A3:Pl->Pl->`x)(A2:64 Cd Tx Pl)(A0:64 Cd `c Cd)(tablet:Cd)(state:Ii)(turn:Tx)(mark:Pl):`x:=13 (A0 `aa state.1) (λy1=>A2 y1 turn) λy2=>A3 y2 mark
def mH(tablet:Cd)(state:Ii)(turn:Tx)(mark:Pl):`x:=Et A3 A2 A0 `aa state turn mark
@[irreducible]noncomputable def Eu(jc:Cd->Ii->Tx->Res Ii)(jL:Ii->`c->`c->`x)(mH:20 Cd Ii Tx Pl `x)(tablet:Cd)(mark:Pl)(loose:Int)(bound:Int)(state:Ii):Res (6 Tx Ii):=(fw (bG ([102,98,105]:Tx)) λ(a3:Tx)=>(jc `aa state a3).bind λy12=>Gw (a3,y12)).bind λy15=>lG y15 (λ(a18:Tx×Ii)=>((jL a18.2 `e `f).bind λy31=>if y31 then mH `aa a18.2 a18.1 mark else `aR).bind λy33=>if y33 then Gw (some (a18.1,a18.2))else Gw `j)
def gu(tablet:Cd)(mark:Pl)(loose:Int)(bound:Int)(state:Ii):Res (6 Tx Ii):=Eu jc jL mH `aa mark `e `f state
@[irreducible]noncomputable def Ew(gu:34 Cd Pl `c `c Ii (Res<|6 Tx Ii))(tablet:Cd)(mark:Pl)(loose:Int)(bound:Int)(states:List Ii):75 Ii:=(cK (λ(a6:Ii)(s8:List Ii)=>(gu `aa mark `e `f a6).bind λy36=>cK (λ(a20:Tx×Ii)(s22:List Ii)=>vb s22 a20.2) y36 s8) states ([]:List Ii)).bind λk37=>xm k37
def sf(tablet:Cd)(mark:Pl)(loose:Int)(bound:Int)(states:List Ii):75 Ii:=Ew gu `aa mark `e `f states
@[irreducible]noncomputable def AY(sf:34 Cd Pl `c `c (List Ii) (75 Ii))(tablet:Cd)(loose:Int)(bound:Int)(a10:Pl)(s11:List (List Ii)):Res (Fl (List<|List Ii)<|List<|List Ii):=((gr s11<|-(1:Int)).bind λy32=>Gw y32.isEmpty).bind λy33=>if y33 then Gw (.rt s11)else 13 ((gr s11<|-(1:Int)).bind λy36=>sf `aa a10 `e `f y36) (λy41=>jx s11 y41) λy40=>Gw (.nx y40)
@[irreducible]noncomputable def Ex(jL:Ii->`c->`c->`x)(sf:34 Cd Pl `c `c (List Ii) (75 Ii))(tablet:Cd)(strip:`h)(loose:Int)(bound:Int):75 (List Ii):=13 ((jL (0,0) `e `f).bind λy3=>if y3 then Gw [(0,0)]else Gw ([]:List Ii)) (λy4=>Gw [y4]) λy5=>(eJ (AY sf `aa `e `f) `k y5).bind (λ| .nx s42=>(Gw s42)| .rt r=>Gw r| .bk _=>LD)
def A4(tablet:Cd)(strip:`h)(loose:Int)(bound:Int):75 (List Ii):=Ex jL sf `aa `k `e `f
@[irreducible]noncomputable def Cw(gu:34 Cd Pl `c `c Ii (Res<|6 Tx Ii))(tablet:Cd)(strip:`h)(loose:Int)(bound:Int)(y3:List (List Ii))(a31:Int)(s32:List (6 Ii `c)):75 (6 Ii `c):=(gr s32<|-(1:Int)).bind λy57=>13 (gr y3 a31) (λy82=>cK (λ(a67:Ii)(s69:List (Ii×(List<|Tx×Ii)))=>13 (gr `k a31) (λy80=>gu `aa y80 `e `f a67) λy81=>mj s69 a67 y81) y82 ([]:6 Ii (6 Tx Ii))) λy83=>13 (cK (λ(a91:Ii)(s93:List (Ii×Int))=>13 ((getD y83 a91).bind λy116=>fw y116 λ(a104:Tx×Ii)=>getD y57 a104.2) (λy117=>Gw y117.sum) λy118=>mj s93 a91 y118) (y83.map (·.1)) ([]:6 Ii `c)) (λy123=>jx s32 y123) λy122=>Gw y122
@[irreducible]noncomputable def Ey(A4:20 Cd `h `c `c (75<|List Ii))(gu:34 Cd Pl `c `c Ii (Res<|6 Tx Ii))(tablet:Cd)(strip:`h)(loose:Int)(bound:Int):75 (6 Ii `c):=(A4 `aa `k `e `f).bind λy3=>13 ((gr y3<|-(1:Int)).bind λy24=>cK (λ(a13:Ii)(s15:List (Ii×Int))=>mj s15 a13 (1:Int)) y24 ([]:6 Ii `c)) (λy25=>Gw [y25]) λy26=>13 (p5<|(y3.length:Int)-(1:Int)) (λy124=>cK (Cw gu `aa `k `e `f y3) y124 y26) λs125=>Gw s125.reverse
def mV(tablet:Cd)(strip:`h)(loose:Int)(bound:Int):75 (6 Ii `c):=Ey A4 gu `aa `k `e `f
@[irreducible]noncomputable def Ez(mV:20 Cd `h `c `c (75<|6 Ii `c))(tablet:Cd)(strip:`h)(loose:Int)(bound:Int):`H:=13 (mV `aa `k `e `f) (λy1=>gr y1 (0:Int)) λy2=>Gw (mn y2 (0,0) (0:Int))
def A5(tablet:Cd)(strip:`h)(loose:Int)(bound:Int):`H:=Ez mV `aa `k `e `f
@[irreducible]noncomputable def Cy(moves:6 Tx Ii)(counts:6 Ii `c)(s6:Ii):`x:=(13 (gr moves s6.2) (λy18=>Gw y18.2) λy19=>getD counts y19).bind λy20=>Gw<|decide<|y20<=s6.1
@[irreducible]noncomputable def Cz(moves:6 Tx Ii)(counts:6 Ii `c)(s6:Ii):Res Ii:=13 ((gr moves s6.2).bind λy21=>Gw y21.2) (λy22=>getD counts y22) λy23=>Gw (s6.1-y23,s6.2+(1:Int))
@[irreducible]noncomputable def EA(moves:6 Tx Ii)(counts:6 Ii `c)(number:Int):Res (Tx×Ii×`c):=(iH (Cy moves counts) (Cz moves counts) cap (number,(0:Int))).bind λs28=>(gr moves s28.2).bind λy32=>Gw (y32.1,y32.2,s28.1)
def si(moves:6 Tx Ii)(counts:6 Ii `c)(number:Int):Res (Tx×Ii×`c):=EA moves counts number
@[irreducible]noncomputable def gm(si:6 Tx Ii->6 Ii `c->`c->Res (Tx×Ii×`c))(gu:34 Cd Pl `c `c Ii (Res<|6 Tx Ii))(tablet:Cd)(loose:Int)(bound:Int)(y3:List (6 Ii `c))(a23:`c×Pl)(s24:Ii×`c×Tx):Res (Ii×`c×Tx):=13 (gu `aa a23.2 `e `f s24.1) (λy54=>(gr y3<|a23.1+(1:Int)).bind λy55=>si y54 y55 s24.2.1) λy56=>(dO s24.2.2 y56.1).bind λy69=>Gw (y56.2.1,y56.2.2,y69)
@[irreducible]noncomputable def qG(mV:20 Cd `h `c `c (75<|6 Ii `c))(si:6 Tx Ii->6 Ii `c->`c->Res (Tx×Ii×`c))(gu:34 Cd Pl `c `c Ii (Res<|6 Tx Ii))(tablet:Cd)(strip:`h)(loose:Int)(bound:Int)(number:Int):`I:=(mV `aa `k `e `f).bind λy3=>(if(decide<|number<(0:Int))then Gw `o else((gr y3 (0:Int)).bind λy6=>Gw<|mn y6 (0,0) (0:Int)).bind λy7=>Gw<|decide<|y7<=number).bind λy8=>if y8 then 13 ((dO ([]:Tx) [110,111,32,99,111,108,117,109,110,32,104,97,115,32,116,104,101,32,110,117,109,98,101,114,32]).bind λy11=>(By number).bind λy13=>(dO y11 y13).bind λy12=>Gw y12) Bz λy14=>S9 11 else(cK (gm si gu `aa `e `f y3) (iz `k) ((0,0),number,([]:Tx))).bind λs70=>Gw s70.2.2
def dR(tablet:Cd)(strip:`h)(loose:Int)(bound:Int)(number:Int):`I:=qG mV si gu `aa `k `e `f number
@[irreducible]noncomputable def EB(a9:Tx)(s10:Unit):Res (Fl Bool Unit):=(if(!decide (a9=([102]:Tx)))then if(!decide (a9=([98]:Tx)))then Gw (!decide (a9=([105]:Tx)))else `aR else `aR).bind λy30=>if y30 then Gw (.rt `K)else Gw (.nx ())
@[irreducible]noncomputable def DF(a103:Tx×Tx)(s104:Unit):Res (Fl Bool Unit):=(if(!decide (a103.2=([63]:Tx)))then Gw (!decide (a103.2=a103.1))else `aR).bind λy131=>if y131 then Gw (.rt `K)else Gw (.nx ())
@[irreducible]noncomputable def CA(kQ:Cd->Tx->`H)(Z04:Cd)(Z0F:Int)(Z0G:Int)(a50:Tx×Pl×Pl)(s51:Ii):Res (Fl Bool Ii):=((kQ Z04 a50.1).bind λy87=>Gw<|s51.1+y87).bind λy88=>(lD (s51.2+(1:Int)) (if(decide<|a50.1=([105]:Tx))then(1:Int)else 0)).bind λy93=>(if(decide<|Z0G<fv y88)then Gw `o else Gw (decide<|Z0F<y93)).bind λy96=>if y96 then Gw (.rt `K)else(eJ DF ([a50.2.1.1,a50.2.1.2.1,a50.2.1.2.2].zip [a50.2.2.1,a50.2.2.2.1,a50.2.2.2.2]) ()).bind (λ| .nx s138=>(Gw<|.nx (y88,y93))| .rt r=>Gw (.rt r)| .bk _=>LD)
@[irreducible]noncomputable def EC(sd:64 Cd Tx `h)(kQ:Cd->Tx->`H)(Z04:Cd)(Z0D:`h)(Z0F:Int)(Z0G:Int)(Z0A:Tx):`x:=((pR Z0A).bind λy1=>Gw<|!decide (y1=(Z0D.length:Int))).bind λy2=>if y2 then `aR else(eJ EB (bG Z0A) ()).bind (λ| .nx s37=>(13 ((sd Z04 Z0A).bind λy49=>Gw<|(bG Z0A).zip<|y49.zip Z0D) (λy142=>eJ (CA kQ Z04 Z0F Z0G) y142 ((0:Int),(0:Int))) (λ| .nx s143=>(Gw `o)| .rt r=>Gw r| .bk _=>LD))| .rt r=>Gw r| .bk _=>LD)
def tZ(Z04:Cd)(Z0D:`h)(Z0F:Int)(Z0G:Int)(Z0A:Tx):`x:=EC sd kQ Z04 Z0D Z0F Z0G Z0A
@[irreducible]noncomputable def ED(text:Tx)(width:Int):`x:=((pR text).bind λy1=>Gw<|decide<|y1=width).bind λy12=>if y12 then(fw (bG text) λ(a2:Tx)=>Fm a2 ([102,98,105]:Tx)).bind λy11=>Gw (y11.all id)else `aR
def A6(text:Tx)(width:Int):`x:=ED text width
@[irreducible]noncomputable def CC(jL:Ii->`c->`c->`x)(jc:Cd->Ii->Tx->Res Ii)(mH:20 Cd Ii Tx Pl `x)(tablet:Cd)(loose:Int)(bound:Int)(a18:Tx×Pl)(s19:Ii×Bool):Res (Ii×Bool):=(jc `aa s19.1 a18.1).bind λy50=>(if s19.2 then(jL y50 `e `f).bind λy55=>if y55 then mH `aa y50 a18.1 a18.2 else `aR else `aR).bind λy56=>Gw (y50,y56)
@[irreducible]noncomputable def EE(A6:Tx->`c->`x)(jL:Ii->`c->`c->`x)(jc:Cd->Ii->Tx->Res Ii)(mH:20 Cd Ii Tx Pl `x)(tablet:Cd)(strip:`h)(loose:Int)(bound:Int)(text:Tx):`x:=((A6 text (strip.length:Int)).bind λy1=>Gw<|!y1).bind λy2=>if y2 then `aR else(jL (0,0) `e `f).bind λy15=>(cK (CC jL jc mH `aa `e `f) ((bG text).zip `k) ((0,0),y15)).bind λs59=>Gw s59.2
def A7(tablet:Cd)(strip:`h)(loose:Int)(bound:Int)(text:Tx):`x:=EE A6 jL jc mH `aa `k `e `f text
@[irreducible]noncomputable def EF(turn:Tx)(other:Tx):`x:=(j9 ([102,98,105]:Tx) turn).bind λy1=>(j9 ([102,98,105]:Tx) other).bind λy2=>Gw<|decide<|y1<y2
def sj(turn:Tx)(other:Tx):`x:=EF turn other
@[irreducible]noncomputable def C1(gu:34 Cd Pl `c `c Ii (Res<|6 Tx Ii))(sj:Tx->Tx->`x)(jc:Cd->Ii->Tx->Res Ii)(tablet:Cd)(loose:Int)(bound:Int)(text:Tx)(y7:List (6 Ii `c))(a18:`c×Pl)(s19:`c×Ii):Res (`c×Ii):=(gu `aa a18.2 `e `f s19.2).bind λy51=>13 (lG y51 (λ(a54:Tx×Ii)=>((gw text a18.1).bind λy67=>sj a54.1 y67).bind λy70=>if y70 then 13 (gr y7<|a18.1+(1:Int)) (λy64=>getD y64 a54.2) λy69=>Gw (some y69)else Gw `j)) (λy80=>Gw y80.sum) λy81=>13 (gw text a18.1) (λy86=>jc `aa s19.2 y86) λy87=>Gw (s19.1+y81,y87)
@[irreducible]noncomputable def DG(A7:34 Cd `h `c `c Tx `x)(mV:20 Cd `h `c `c (75<|6 Ii `c))(gu:34 Cd Pl `c `c Ii (Res<|6 Tx Ii))(sj:Tx->Tx->`x)(jc:Cd->Ii->Tx->Res Ii)(tablet:Cd)(strip:`h)(loose:Int)(bound:Int)(text:Tx):`H:=((A7 `aa `k `e `f text).bind λy1=>Gw<|!y1).bind λy2=>if y2 then S9 11 else(mV `aa `k `e `f).bind λy7=>(cK (C1 gu sj jc `aa `e `f text y7) (iz `k) ((0:Int),(0,0))).bind λs90=>Gw s90.1
def vS(tablet:Cd)(strip:`h)(loose:Int)(bound:Int)(text:Tx):`H:=DG A7 mV gu sj jc `aa `k `e `f text
@[irreducible]noncomputable def DH(vS:34 Cd `h `c `c Tx `H)(Z04:Cd)(Z0D:`h)(Z0F:Int)(Z0G:Int)(Z0A:Tx):Res Dat:=(Qf<|vS Z04 Z0D Z0F Z0G Z0A).bind λr6=>match r6 with| .inr j8=>Gw (rD [114,101,102,117,115,101,100] j8)| .inl y7=>((CZ Z0D Z0D).bind λy13=>Gw<|!y13).bind λy14=>if y14 then Gw ((λ(z:Tx×(List Pl))=>PK [LU z.1,Sl<|z.2.map λ(z:Pl)=>PK [LU z.1,LU z.2.1,LU z.2.2]]) (([99,104,97,110,103,101,100]:Tx),Z0D))else Gw (PK [LU (([114,97,110,107]:Tx),y7).1,Qg (([114,97,110,107]:Tx),y7).2])
def qW(Z04:Cd)(Z0D:`h)(Z0F:Int)(Z0G:Int)(Z0A:Tx):Res Dat:=DH vS Z04 Z0D Z0F Z0G Z0A
@[irreducible]noncomputable def yR(a1:Tx×Tx)(s2:Unit):Res (Fl Bool Unit):=if(!decide (a1.1=a1.2))then((j9 ([102,98,105]:Tx) a1.1).bind λy31=>(j9 ([102,98,105]:Tx) a1.2).bind λy32=>Gw<|decide<|y31<y32).bind λy33=>Gw (.rt y33)else Gw (.nx ())
@[irreducible]noncomputable def EG(Z4b:Tx)(Z3g:Tx):`x:=(eJ yR ((bG Z4b).zip<|bG Z3g) ()).bind (λ| .nx s38=>(`aR)| .rt r=>Gw r| .bk _=>LD)
def u4(Z4b:Tx)(Z3g:Tx):`x:=EG Z4b Z3g
@[irreducible]noncomputable def EH(dR:34 Cd `h `c `c `c `I)(Z04:Cd)(Z0D:`h)(Z0F:Int)(Z0G:Int)(Z2u:Int):`x:=(Qf<|dR Z04 Z0D Z0F Z0G Z2u).bind λr2=>match r2 with| .inr j4=>(if kindN.getD j4 []=[78,111,83,117,99,104,87,97,121]then Gw true else LD)| .inl _=>Gw false
def qH(Z04:Cd)(Z0D:`h)(Z0F:Int)(Z0G:Int)(Z2u:Int):`x:=EH dR Z04 Z0D Z0F Z0G Z2u
@[irreducible]noncomputable def EI(Z0C:Cd×Tx)(Z03:Int):Res (Cd×Tx):=13 ((pR Z0C.2).bind λy11=>Gw (if y11>(1:Int)then y11 else(1:Int))) (λy12=>j7 (Z03/4) y12) λy13=>(gw ([102,98,105]:Tx)<|(Z03/7)%3).bind λy18=>(if(decide<|(Z03%4)=(1:Int))then 13 ((fJ Z0C.2 `j<|some y13).bind λy29=>dO y29 y18) (λy30=>(fJ Z0C.2 (some<|y13+(1:Int)) `j).bind λy31=>dO y30 y31) λy32=>Gw y32 else Gw Z0C.2:`I).bind λs36=>(if(decide<|(Z03%4)=(2:Int))then(gw ([97,98,99,100,101,102,103,104,105,106,107,108,109,110,111,112,113,114,115,116,117,118,119,120,121,122]:Tx)<|(Z03/16)%26).bind λy55=>13 (13 (fJ Z0C.1.2.1 none<|some<|(Z03/4)%4) (λy60=>dO y60 y55) λy61=>(fJ Z0C.1.2.1 (some<|((Z03/4)%4)+(1:Int)) `j).bind λy62=>dO y61 y62) (λy63=>Gw (Z0C.1.1,y63,Z0C.1.2.2)) λy64=>Gw y64 else Gw Z0C.1:Res Cd).bind λs68=>13 (if(decide<|(Z03%4)=(3:Int))then if(decide<|((Z03/4)%2)=(0:Int))then(pR s36).bind λy79=>Gw (decide<|y79<(240:Int))else `aR else `aR) (λy80=>(if y80 then(dO s36 y18).bind λy89=>Gw y89 else Gw s36:`I)) λs93=>13 (if(decide<|(Z03%4)=(3:Int))then Gw (decide<|((Z03/4)%2)=(1:Int))else `aR) (λy100=>(if y100 then 13 (13 ((pR s93).bind λy109=>Gw<|y109+(1:Int)) (λy110=>j7 (Z03/8) y110) λy111=>Gw<|some y111) (λy112=>fJ s93 `j y112) λy113=>Gw y113 else Gw s93:`I)) λs117=>Gw (s68,s117)
def A8(Z0C:Cd×Tx)(Z03:Int):Res (Cd×Tx):=EI Z0C Z03
@[irreducible]noncomputable def EJ(Z03:Int):`I:=(dO ([32,33,34,35,36,38,39,40,41,42,43,44,45,46,47,48,49,50,51,52,53,54,55,56,57,58,59,60,61,62,63,64,65,66,67,68,69,70,71,72,73,74,75,76,77,78,79,80,81,82,83,84,85,86,87,88,89,90,91,92,93,94,95,96]:Tx) ([97,98,99,100,101,102,103,104,105,106,107,108,109,110,111,112,113,114,115,116,117,118,119,120,121,122,123,124,125,126,10]:Tx)).bind λy7=>gw y7<|Z03%95
def A9(Z03:Int):`I:=EJ Z03
@[irreducible]noncomputable def EK(A9:`c->`I)(Z0A:Tx)(Z03:Int):`I:=(13 (pR Z0A) (λy3=>Gw<|y3+(1:Int)) λy4=>j7 (Z03/5) y4).bind λy5=>(A9<|Z03/7).bind λy10=>if(decide<|(Z03%5)=(0:Int))then 13 (fJ Z0A `j<|some y5) (λy15=>dO y15 y10) λy16=>(fJ Z0A (some y5) `j).bind λy17=>dO y16 y17 else if(decide<|(Z03%5)=(1:Int))then(fJ Z0A `j<|some y5).bind λy25=>(fJ Z0A (some<|y5+(1:Int)) `j).bind λy26=>dO y25 y26 else if(decide<|(Z03%5)=(2:Int))then 13 (fJ Z0A `j<|some y5) (λy34=>dO y34 y10) λy35=>(fJ Z0A (some<|y5+(1:Int)) `j).bind λy36=>dO y35 y36 else if(decide<|(Z03%5)=(3:Int))then 13 (fJ Z0A `j<|some y5) (λy44=>(fJ Z0A (some y5)<|some<|y5+(1:Int)).bind λy45=>dO y44 y45) λy46=>(fJ Z0A (some y5) `j).bind λy47=>dO y46 y47 else 13 (fJ Z0A (some<|y5+(1:Int))<|some<|y5+(2:Int)) (λy55=>(fJ Z0A (some y5)<|some<|y5+(1:Int)).bind λy56=>dO y55 y56) λy57=>13 (fJ Z0A `j<|some y5) (λy60=>dO y60 y57) λy61=>(fJ Z0A (some<|y5+(2:Int)) `j).bind λy62=>dO y61 y62
def Aa(Z0A:Tx)(Z03:Int):`I:=EK A9 Z0A Z03
@[irreducible]noncomputable def iM(dR:34 Cd `h `c `c `c `I)(tZ:34 Cd `h `c `c Tx `x)(qW:34 Cd `h `c `c Tx (Res Dat))(u4:Tx->Tx->`x)(y1:Cd×`h×`c)(y15:`h)(s35:Int)(y44:Int)(a72:Int)(s73:6 `c Tx):Res (Fl Bool<|6 `c Tx):=(if(decide<|(0:Int)<=a72)then Gw (decide<|a72<y44)else `aR).bind λy95=>if y95 then(dR y1.1 y15 y1.2.2 s35 a72).bind λy100=>(if(!(de 2<|LU y100))then Gw `o else(tZ y1.1 y15 y1.2.2 s35 y100).bind λy103=>Gw<|!y103).bind λy104=>if y104 then Gw (.rt `K)else(((qW y1.1 y15 y1.2.2 s35 y100).bind λy111=>Dc y111<|PK [LU (([114,97,110,107]:Tx),a72).1,Qg (([114,97,110,107]:Tx),a72).2]).bind λy112=>Gw<|!y112).bind λy113=>if y113 then Gw (.rt `K)else(if(!s73.isEmpty)then(((gr s73<|-(1:Int)).bind λy120=>Gw y120.1).bind λy121=>Gw<|decide<|y121<a72).bind λy125=>if y125 then 13 ((gr s73<|-(1:Int)).bind λy122=>Gw y122.2) (λy123=>u4 y123 y100) λy124=>Gw (!y124)else `aR else `aR).bind λy126=>if y126 then Gw (.rt `K)else(jx s73 (a72,y100)).bind λy136=>Gw (.nx y136)else Gw (.nx s73)
@[irreducible]noncomputable def eS(qH:34 Cd `h `c `c `c `x)(y1:Cd×`h×`c)(y15:`h)(s35:Int)(a147:Int)(s148:Unit):Res (Fl Bool Unit):=((qH y1.1 y15 y1.2.2 s35 a147).bind λy168=>Gw<|!y168).bind λy169=>if y169 then Gw (.rt `K)else Gw (.nx ())
@[irreducible]noncomputable def u5(yP:64 `P `c (Cd×`h×`c))(yh:64 `h `c `h)(i7:`P->`c->`H)(A5:20 Cd `h `c `c `H)(dR:34 Cd `h `c `c `c `I)(tZ:34 Cd `h `c `c Tx `x)(qW:34 Cd `h `c `c Tx (Res Dat))(u4:Tx->Tx->`x)(qH:34 Cd `h `c `c `c `x)(A8:64 (Cd×Tx) `c (Cd×Tx))(rZ:`c->`c->`I)(Aa:Tx->`c->`I)(Z0p:`P):`x:=(yP Z0p (12:Int)).bind λy1=>((i7 Z0p (9:Int)).bind λy14=>yh y1.2.1 y14).bind λy15=>((i7 Z0p (5:Int)).bind λy20=>Gw<|y20%14).bind λy21=>(if(decide<|y21=(13:Int))then Gw (60:Int)else Gw y21:`H).bind λs35=>(A5 y1.1 y15 y1.2.2 s35).bind λy44=>(if(!(de 1<|Qg y44))then Gw `o else if de 0 (Qg y44)then Gw `o else Gw (decide<|y44<(0:Int))).bind λy47=>if y47 then `aR else 13 (13 ((i7 Z0p (6:Int)).bind λy56=>j7 y56 (if(1:Int)>y44 then(1:Int)else y44)) (λy59=>13 ((i7 Z0p (7:Int)).bind λy57=>j7 y57 (if(1:Int)>y44 then(1:Int)else y44)) (λy58=>Gw<|y58::([]:`P)) λy60=>Gw<|y59::y60) λy61=>Gw<|(y44-(1:Int))::y61) (λy62=>Gw<|(0:Int)::y62) λy63=>13 (sR y63) (λy137=>eJ (iM dR tZ qW u4 y1 y15 s35 y44) y137 ([]:6 `c Tx)) (λ| .nx s138=>(13 (13 (13 ((i7 Z0p (6:Int)).bind λy142=>j7 y142 (100000000000000000000:Int)) (λy143=>Gw<|y44+y143) λy144=>Gw<|y144::([]:`P)) (λy145=>Gw<|y44::y145) λy146=>Gw<|((0:Int)-(1:Int))::y146) (λy176=>eJ (eS qH y1 y15 s35) y176 ()) (λ| .nx s177=>((13 (13 (i7 Z0p (1:Int)) (λy183=>rZ y183 (y15.length:Int)) λy184=>Gw (y1.1,y184)) (λy185=>(i7 Z0p (8:Int)).bind λy186=>A8 y185 y186) λy187=>Gw y187.2).bind λy188=>((((i7 Z0p (8:Int)).bind λy191=>Gw<|y191%4).bind λy192=>Gw<|decide<|y192=(2:Int)).bind λy193=>(if y193 then 13 ((i7 Z0p (8:Int)).bind λy202=>Gw<|y202/4) (λy203=>Aa y188 y203) λy204=>Gw y204 else Gw y188:`I)).bind λs208=>(qW y1.1 y15 y1.2.2 s35 s208).bind λy217=>((tZ y1.1 y15 y1.2.2 s35 s208).bind λy220=>Gw<|!y220).bind λy221=>if y221 then Dc y217 ((λ(z:Tx×(List Tx))=>PK [LU z.1,Sl (z.2.map λ(z:Tx)=>LU z)]) (([114,101,102,117,115,101,100]:Tx),[([78,111,83,117,99,104,87,97,121]:Tx)]))else((((tj y217 (0:Int)).bind λy229=>rn<|F1 y229).bind λy230=>Gw<|!decide (y230=([114,97,110,107]:Tx))).bind λy235=>if y235 then Gw `o else(((tj y217 (1:Int)).bind λy231=>Gw<|de 1 y231).bind λy232=>Gw<|!y232).bind λy234=>if y234 then Gw `o else(tj y217 (1:Int)).bind λy233=>Gw (de 0 y233)).bind λy236=>if y236 then `aR else((((tj y217 (1:Int)).bind λy243=>rn<|Dd y243).bind λy244=>Gw<|decide<|y244<(0:Int)).bind λy247=>if y247 then Gw `o else((tj y217 (1:Int)).bind λy245=>rn<|Dd y245).bind λy246=>Gw<|decide<|y44<=y246).bind λy248=>if y248 then `aR else 13 ((tj y217 (1:Int)).bind λy255=>rn<|Dd y255) (λy256=>dR y1.1 y15 y1.2.2 s35 y256) λy257=>tm y257 s208)| .rt r=>Gw r| .bk _=>LD))| .rt r=>Gw r| .bk _=>LD)
def yi(Z0p:`P):`x:=u5 yP yh i7 A5 dR tZ qW u4 qH A8 rZ Aa Z0p
end
end Mi
namespace Wb
open PySem L2 Mi
def tp(i:Nat):Stmt:=N0.main.body.getD i (.Pass ⟨0,0,0,0⟩)
theorem kR:0 (bootBuiltins "ValueError") (.type "ValueError"):=by decide +kernel
section
variable{P:GJ}{w:GW}{K:Gr}{mg:Str->`M}{base:Heap}
def gp(j n:Nat):6 Tx Bool:=QY n [([66,97,100,84,97,98,108,101,116],decide<|0=j),([66,97,100,82,111,119],decide<|1=j),([66,97,100,84,101,120,116],decide<|2=j),([66,97,100,77,97,114,107],decide<|3=j),([84,111,111,76,111,110,103],decide<|4=j),([84,111,111,84,105,103,104,116],decide<|5=j),([83,112,111,111,108,68,114,121],decide<|6=j),([78,111,84,97,98,108,101,116],decide<|7=j),([78,111,116,104,105,110,103,76,101,102,116],decide<|8=j),([85,110,108,105,107,101],decide<|9=j),([83,101,101,110,84,104,114,101,97,100],decide<|10=j),([78,111,83,117,99,104,87,97,121],decide<|11=j),([66,97,114,114,101,100],decide<|12=j),([110,111,32,66,97,110,100,69,114,114,111,114],false),([110,111,32,86,97,108,117,101,69,114,114,111,114],false)]
theorem eg{Er:`av}{K:Gr}{x C:Addr}{Z:St}{W:Wd}{v:V}{c:Gu}{b:Bool}(h0:0 Z[0]? (24 x))(hv:0 (kv v) c)(hk:0 (HD K `aI c) b):
  5 (dM (λxs H Q=>∃v c b,2 xs [.ref x,v] (0 (kv v) c)<|0 (HD K `aI c) b/\Q (.bl b) H)<|aj (bH 0)<|aj (tC v) aU) isB (.ok b):=λW1 e1 Q k=>⟨`bd,h0,v,c,b,`a,hv,hk,k (.bl b) W1 `s `a⟩
def Ab(a:Tx×Bool):Res (Option Tx):=if a.2 then Gw (some a.1)else Gw `j
theorem sm:∀j,j<13->lG (gp j 15) Ab=.ok [kindN.getD j []]:=by
 intro j hj
 match j,hj with
 |0,_=>rfl
 |1,_=>rfl
 |2,_=>rfl
 |3,_=>rfl
 |4,_=>rfl
 |5,_=>rfl
 |6,_=>rfl
 |7,_=>rfl
 |8,_=>rfl
 |9,_=>rfl
 |10,_=>rfl
 |11,_=>rfl
 |12,_=>rfl
theorem yj{f:Addr}{fd:GV}(F:54 K "_law_kinds" "_law_kinds" 70 f fd)(a0:28 "isinstance")(c0:28 "ValueError"){a2 a3 a4 a6 a7 a9 b0 b1 b2 b3 b4 b5 b6 b7:Addr}(c1:90 "BadTablet" a2)(c2:90 "BadRow" a3)(c3:90 "BadText" a4)(c4:90 "BadMark" a6)(c5:90 "TooLong" a7)(c6:90 "TooTight" a9)(c7:90 "SpoolDry" b0)(c8:90 "NoTablet" b1)(c9:90 "NothingLeft" b2)(d0:90 "Unlike" b3)(d1:90 "SeenThread" b4)(d2:90 "NoSuchWay" b5)(d3:90 "Barred" b6)(d4:90 "BandError" b7):
  FnOkH P w K mg `d 1 f fd ["_law_e"] (fQ K [a2,a3,a4,a6,a7,a9,b0,b1,b2,b3,b4,b5,b6] b7):=by
 have SC:55 ["_law_e","_law_known"] ["_law_e"] 70:=⟨rfl,rfl,rfl,by decide +kernel,rfl,by decide +kernel,by decide +kernel⟩
 refine Fun.okH F SC (λx C vs H Q E h=>?_) λx C Z9 A outer s H vs Q E hE hr h=>?_;·obtain⟨_,_,_,rfl,_⟩:=h;rfl
 ·obtain⟨W0,j,rfl,rfl,hZ,hj,hc,hB,hV,hq⟩:=h
  refine 52 (ae (gX (i:=1) SC.nd `a (by first|exact LM rfl|exact Lv `a)<|cj<|53 (bt<|53 aL<|71 (bA (K:=K) `a hE hZ) a0 Gz 0<|91 (v:=.ref a2) c1 `a)<|bt<|53 aL<|71 (bA (K:=K) `a hE hZ) a0 Gz 0<|91 (v:=.ref a3) c2 `a)<|ae (gX (i:=1) SC.nd `a (by first|exact LM rfl|exact Lv `a)<|ah ji (pv 1)<|cj<|53 (bt<|53 aL<|71 (bA (K:=K) `a hE hZ) a0 Gz 0<|91 (v:=.ref a4) c3 `a)<|bt<|53 aL<|71 (bA (K:=K) `a hE hZ) a0 Gz 0<|91 (v:=.ref a6) c4 `a)<|ae (gX (i:=1) SC.nd `a (by first|exact LM rfl|exact Lv `a)<|ah ji (pv 1)<|cj<|53 (bt<|53 aL<|71 (bA (K:=K) `a hE hZ) a0 Gz 0<|91 (v:=.ref a7) c5 `a)<|bt<|53 aL<|71 (bA (K:=K) `a hE hZ) a0 Gz 0<|91 (v:=.ref a9) c6 `a)<|ae (gX (i:=1) SC.nd `a (by first|exact LM rfl|exact Lv `a)<|ah ji (pv 1)<|cj<|53 (bt<|53 aL<|71 (bA (K:=K) `a hE hZ) a0 Gz 0<|91 (v:=.ref b0) c7 `a)<|bt<|53 aL<|71 (bA (K:=K) `a hE hZ) a0 Gz 0<|91 (v:=.ref b1) c8 `a)<|ae (gX (i:=1) SC.nd `a (by first|exact LM rfl|exact Lv `a)<|ah ji (pv 1)<|cj<|53 (bt<|53 aL<|71 (bA (K:=K) `a hE hZ) a0 Gz 0<|91 (v:=.ref b2) c9 `a)<|bt<|53 aL<|71 (bA (K:=K) `a hE hZ) a0 Gz 0<|91 (v:=.ref b3) d0 `a)<|ae (gX (i:=1) SC.nd `a (by first|exact LM rfl|exact Lv `a)<|ah ji (pv 1)<|cj<|53 (bt<|53 aL<|71 (bA (K:=K) `a hE hZ) a0 Gz 0<|91 (v:=.ref b4) d1 `a)<|bt<|53 aL<|71 (bA (K:=K) `a hE hZ) a0 Gz 0<|91 (v:=.ref b5) d2 `a)<|ae (gX (i:=1) SC.nd `a (by first|exact LM rfl|exact Lv `a)<|ah ji (pv 1)<|cj<|53 (bt<|53 aL<|71 (bA (K:=K) `a hE hZ) a0 Gz 0<|91 (v:=.ref b6) d3 `a)<|bt<|53 aL<|o9<|71 (bA (K:=K) `a hE hZ) a0 Gz 0<|91 (v:=.ref b7) d4 `a)<|ae (gX (i:=1) SC.nd `a (by first|exact LM rfl|exact Lv `a)<|ah ji (pv 1)<|cj<|19<|bt<|53 aL<|o9<|71 (bA (K:=K) `a hE hZ) a0 Gz 0<|101 (v:=.ty "ValueError") c0 kR `a)<|47<|xc (N:=["_law_name","_law_so"]) (cap:=[none,none]) (j6 `a ⋯ `a ⋯ `T `T) hE.hdx (xb (K:=K) `a `aD) (λ_ _ _ _ hx=>tF (K:=K) (n:=2) `a hx<|ar (bC (i:=0) (show Ig (["_law_name","_law_so"]:`y) by decide +kernel) `a (by first|exact LM rfl|exact Lv `a))<|ar (bC (i:=1) (show Ig (["_law_name","_law_so"]:`y) by decide +kernel) `a (by first|exact LM rfl|exact Lv `a)) bI) (λ_ _ _ _=>oA<|bN `aD) λ_ _ _ _=>`aE)
  have E0:`Z:=`Y;rw[show L2.start ["_law_e","_law_known"] [.ref x]=[24 x,none]from rfl];refine bh (ao (Er:=`bH) (i:=1) (R:=sh (isL<|45 isS isB)) (m:=.ok (gp j 2)) (σ':=λv=>[24 x,some v]) (II<|dj<|aX (105 (29 (x:=Gy "BadTablet") (l:=[66,97,100,84,97,98,108,101,116]) _ _)<|eg (K:=K) (C:=C) (v:=.ref a2) (c:=.ref a2) (b:=decide<|0=j) `a `a<|hc 0 _ `a)<|aX (105 (29 (x:=Gy "BadRow") (l:=[66,97,100,82,111,119]) _ _)<|eg (K:=K) (C:=C) (v:=.ref a3) (c:=.ref a3) (b:=decide<|1=j) `a `a<|hc 1 _ `a)<|di (R:=45 isS isB)) λv0 W1 e0 h0=>?_)
  have E0:=E0.trans e0;refine bh (ao (Er:=`bH) (i:=1) (R:=sh (isL<|45 isS isB)) (m:=.ok (gp j 4)) (σ':=λv=>[24 x,some v]) (II<|hX (Kd<|dU (R:=sh (isL<|45 isS isB)) h0)<|Ll<|dj<|aX (105 (29 (x:=Gy "BadText") (l:=[66,97,100,84,101,120,116]) _ _)<|eg (K:=K) (C:=C) (v:=.ref a4) (c:=.ref a4) (b:=decide<|2=j) `a `a<|hc 2 _ `a)<|aX (105 (29 (x:=Gy "BadMark") (l:=[66,97,100,77,97,114,107]) _ _)<|eg (K:=K) (C:=C) (v:=.ref a6) (c:=.ref a6) (b:=decide<|3=j) `a `a<|hc 3 _ `a)<|di (R:=45 isS isB)) λv1 W2 e1 h1=>?_)
  have E0:=E0.trans e1;refine bh (ao (Er:=`bH) (i:=1) (R:=sh (isL<|45 isS isB)) (m:=.ok (gp j 6)) (σ':=λv=>[24 x,some v]) (II<|hX (Kd<|dU (R:=sh (isL<|45 isS isB)) h1)<|Ll<|dj<|aX (105 (29 (x:=Gy "TooLong") (l:=[84,111,111,76,111,110,103]) _ _)<|eg (K:=K) (C:=C) (v:=.ref a7) (c:=.ref a7) (b:=decide<|4=j) `a `a<|hc 4 _ `a)<|aX (105 (29 (x:=Gy "TooTight") (l:=[84,111,111,84,105,103,104,116]) _ _)<|eg (K:=K) (C:=C) (v:=.ref a9) (c:=.ref a9) (b:=decide<|5=j) `a `a<|hc 5 _ `a)<|di (R:=45 isS isB)) λv2 W3 e2 h2=>?_)
  have E0:=`bb;refine bh (ao (Er:=`bH) (i:=1) (R:=sh (isL<|45 isS isB)) (m:=.ok (gp j 8)) (σ':=λv=>[24 x,some v]) (II<|hX (Kd<|dU (R:=sh (isL<|45 isS isB)) h2)<|Ll<|dj<|aX (105 (29 (x:=Gy "SpoolDry") (l:=[83,112,111,111,108,68,114,121]) _ _)<|eg (K:=K) (C:=C) (v:=.ref b0) (c:=.ref b0) (b:=decide<|6=j) `a `a<|hc 6 _ `a)<|aX (105 (29 (x:=Gy "NoTablet") (l:=[78,111,84,97,98,108,101,116]) _ _)<|eg (K:=K) (C:=C) (v:=.ref b1) (c:=.ref b1) (b:=decide<|7=j) `a `a<|hc 7 _ `a)<|di (R:=45 isS isB)) λv3 W4 e3 h3=>?_)
  have E0:=E0.trans e3;refine bh (ao (Er:=`bH) (i:=1) (R:=sh (isL<|45 isS isB)) (m:=.ok (gp j 10)) (σ':=λv=>[24 x,some v]) (II<|hX (Kd<|dU (R:=sh (isL<|45 isS isB)) h3)<|Ll<|dj<|aX (105 (29 (x:=Gy "NothingLeft") (l:=[78,111,116,104,105,110,103,76,101,102,116]) _ _)<|eg (K:=K) (C:=C) (v:=.ref b2) (c:=.ref b2) (b:=decide<|8=j) `a `a<|hc 8 _ `a)<|aX (105 (29 (x:=Gy "Unlike") (l:=[85,110,108,105,107,101]) _ _)<|eg (K:=K) (C:=C) (v:=.ref b3) (c:=.ref b3) (b:=decide<|9=j) `a `a<|hc 9 _ `a)<|di (R:=45 isS isB)) λv4 W5 e4 h4=>?_)
  have E0:=E0.trans e4;refine bh (ao (Er:=`bH) (i:=1) (R:=sh (isL<|45 isS isB)) (m:=.ok (gp j 12)) (σ':=λv=>[24 x,some v]) (II<|hX (Kd<|dU (R:=sh (isL<|45 isS isB)) h4)<|Ll<|dj<|aX (105 (29 (x:=Gy "SeenThread") (l:=[83,101,101,110,84,104,114,101,97,100]) _ _)<|eg (K:=K) (C:=C) (v:=.ref b4) (c:=.ref b4) (b:=decide<|10=j) `a `a<|hc 10 _ `a)<|aX (105 (29 (x:=Gy "NoSuchWay") (l:=[78,111,83,117,99,104,87,97,121]) _ _)<|eg (K:=K) (C:=C) (v:=.ref b5) (c:=.ref b5) (b:=decide<|11=j) `a `a<|hc 11 _ `a)<|di (R:=45 isS isB)) λv5 W6 e5 h5=>?_)
  have E0:=E0.trans e5;refine bh (ao (Er:=`bH) (i:=1) (R:=sh (isL<|45 isS isB)) (m:=.ok (gp j 14)) (σ':=λv=>[24 x,some v]) (II<|hX (Kd<|dU (R:=sh (isL<|45 isS isB)) h5)<|Ll<|dj<|aX (105 (29 (x:=Gy "Barred") (l:=[66,97,114,114,101,100]) _ _)<|eg (K:=K) (C:=C) (v:=.ref b6) (c:=.ref b6) (b:=decide<|12=j) `a `a<|hc 12 _ `a)<|aX (105 (29 (x:=Gy "no BandError") (l:=[110,111,32,66,97,110,100,69,114,114,111,114]) _ _)<|wD<|eg (K:=K) (C:=C) (v:=.ref b7) (c:=.ref b7) (b:=true) `a `a hB)<|di (R:=45 isS isB)) λv6 W7 e6 h6=>?_)
  have E0:=E0.trans e6;refine bh (ao (Er:=`bH) (i:=1) (R:=sh (isL<|45 isS isB)) (m:=.ok (gp j 15)) (σ':=λv=>[24 x,some v]) (II<|hX (Kd<|dU (R:=sh (isL<|45 isS isB)) h6)<|Ll<|dj<|aX (105 (29 (x:=Gy "no ValueError") (l:=[110,111,32,86,97,108,117,101,69,114,114,111,114]) _ _)<|wD<|eg (K:=K) (C:=C) (v:=.ty "ValueError") (c:=.type "ValueError") (b:=true) `a `a hV)<|di (R:=45 isS isB)) λv7 W8 e7 h7=>?_)
  have E0:=E0.trans e7;refine jA (Er:=`bH) (m:=.ok [kindN.getD j []]) (sm j hj▸(lK (R:=45 isS isB) (R':=isS) (m:=.ok (gp j 15)) (f:=Ab) (dD<|dU (R:=sh (isL<|45 isS isB)) h7) λW3 a1 v2 e4 h5 d8 b8=>?_:EVo `bH _ _ _ isS ((Gw<|gp j 15).bind λxs=>lG xs Ab))) λp W e hp o=>hq p W (E0.trans e) (bJ E0.h hp) o;refine i4 h5 λv6 v8 h7 h9=>?_;cases h7;cases h9;refine 133 (((gZ<|dU (R:=sh isB) (a:=a1.2) (v:=.bl a1.2) `a):TV `bH _ [27 a1.1,some (.bl a1.2)] _ _) _ `s _ ?_);intro d5 b9;unfold Ab at b8;cases hb:a1.2 with
  |false=>rw[hb]at b8;exact b8 none _ b9 trivial
  |true=>
   rw[hb]at b8;rw[`aX];exact((dU (R:=sh isS) (a:=a1.1) (v:=88 a1.1) `a):EV `bH _ [27 a1.1,some (.bl `o)] _ _ _) d5 `s _ (λu d9 d6 d7=>b8 (some u) _ (b9.trans d6) d7)
end
end Wb
namespace Wb
open PySem L2 Mi
section
variable{P:GJ}{w:GW}{K:Gr}{mg:Str->`M}{base:Heap}
theorem Fy{f:Addr}{fd:GV}(F:54 K "_law_at" "_law_at" 51 f fd)(a1:28 "len"):FnOk P w K mg `d CX0 (1) f fd ["_law_script","_law_k"] (73 (isScr K) isI isI DY):=by
 have SC:55 ["_law_script","_law_k"] ["_law_script","_law_k"] 51:=by walk_at "F"
 refine 63 SC ?_ ?_;·obtain⟨_,_,_,_,_,_,rfl,_⟩:=h;rfl
 ·obtain⟨W0,a3,l_k,b0,_,rfl,rfl,a0,z_l_k,Er,hq⟩:=h;cases z_l_k
  refine 52 (ae (77 (23 i9 `aD<|87 (126 `a) a1 HJ<|16 0) (26 (120 `a) 0 `aD) aA)<|47<|56 aI<|ah gF (56 bz<|18 gF 1)<|56 bz<|87 (126 `a) a1 HJ<|16 0)
  have E0:`Z:=`Y;unfold DY at hq;refine 119 (ay<|cG aQ<|nG `J) λW1 e2=>?_;have E0:=`bb;have a0:=4 e2.g;by_cases a2:1 (decide<|l_k<(a3.length:Int))
  ·rw[Z3 a2]at hq ⊢;exact 31 (wI `J aQ) (Hi hq λy3 hq v4 W5 e6 h7=>46 v4 W5 e6 h7)
  ·rw[Z4 a2]at hq ⊢
   try dsimp only[az]
   exact 31 (40<|lH (aZ (76 (.inr `aC) aQ) ag)<|aZ (nG `J) ag) (Hi hq λy9 hq a4 a6 a7 a9=>46 a4 a6 a7 a9)
theorem Fz{f:Addr}{fd:GV}(F:54 K "_law_row" "_law_row" 47 f fd)(c9:28 "abs")(d0:28 "range"):FnOk P w K mg `d CX0 (1) f fd `ce (eX isI isI isI (ro isI) DZ):=by
 have SC:55 [`bx,"_law_many","_law_base","_law_now","_law_far","_law_mix","_law_out","_law_k"] `ce 47:=by walk_at "F"
 refine 63 SC ?_ ?_;·obtain⟨_,_,_,_,_,_,_,_,rfl,_⟩:=h;rfl
 ·obtain⟨W0,a2,b2,a9,_,_,_,rfl,rfl,d1,d2,d3,Er,hq⟩:=h;cases d1;cases d2;cases d3
  refine 52 (83 3 (87 lj c9 LY<|16 0) (cO 4<|cM mZ (pv 3) (56 vZ aa)<|ax _)<|83 5 (18 aI 3) (cO 6<|cj a8)<|ae (cY Hw `a (jU `a d0<|16 1) (fF 7)<|ae (cO 5<|56 aI<|ah bz (56 bz<|18 gF 5)<|pv 7)<|af<|aY (Ld<|dw (bN<|pv 4)<|dg<|23 pE (pv 3) aa) (ae (fk<|dn (K:=K) `a (pv 6)<|19<|ah aI (pv 3)<|pv 2)<|af<|cO 3<|ah bg (pv 3)<|pv 2)<|af<|fk<|dn (K:=K) `a (pv 6)<|19<|ah aI (56 aI<|ah gF (pv 5)<|pv 5)<|pv 2)<|47<|pv 6)
  have E0:`Z:=`Y;unfold DZ at hq;refine bh (70 (rq aQ) λv3 W1 e2 h4=>?_)
  cases h4;have E0:=`bb;refine bh (70 (cG aQ<|sW (r:=1000000000000000000) ⋯ ⋯) λv7 W5 e6 h8=>?_)
  cases h8;have E0:=E0.trans e6;refine bh (70 (40 aQ) λf7 W9 d4 d5=>?_)
  cases d5;have E0:=E0.trans d4;refine bh (fN (Er:=Er) (hW (R:=isI)) λa4 f8 d6 d7 b3=>?_)
  have b4:=bJ E0.h d7;have E0:=E0.trans d6;refine dX (Er:=Er) (f:=Cp a2 a9) (s0:=(((fv a2)%2147483647),fv a2,([]:`P))) (Iv:=λ(b5:(Int×Int×(List Int)))(c4:Wd)(d8:St)=>∃(b6:Option V),2 d8 [3 a2,3 b2,3 a9,3 b5.2.1,some<|.bl<|decide<|(1000000000000000000:Int)<=fv a2,3 b5.1,24 a4,b6] (39 c4) (Ow isI c4 a4 b5.2.2)) (lJ aQ) `at ?_ ?_ ?_
  ·intro f9 c5;have E0:=E0.trans c5;have b3:=b3.mono c5;exact⟨_,`a,E0,b3⟩
  ·intro g0 g1 g2 b0 g3 a6 g4 g5 g6 a0 iv b7 d9 hq;obtain⟨b6,rfl,E0,a1⟩:=iv;have E0:=E0.trans b7;have a0:=a0.trans b7.g;have a1:=a1.mono b7;cases d9;refine gn (σ':=[3 a2,3 b2,3 a9,3 a6.2.1,some<|.bl<|decide<|(1000000000000000000:Int)<=fv a2,3 a6.1,24 a4,3 b0]) ?_;unfold Cp at hq;refine bh (70 (40<|aZ (aZ (76 (.inr `aC) aQ) ag) aQ) λg7 g8 b8 e0=>?_)
   cases e0;have E0:=E0.trans b8;have a0:=a0.trans b8.g;have a1:=a1.mono b8;refine oK (Er:=Er) (Iv:=λ(c6:(Int×(List Int)))(c7:Wd)(e1:St)=>2 e1 [3 a2,3 b2,3 a9,3 c6.1,some<|.bl<|decide<|(1000000000000000000:Int)<=fv a2,some<|.int<|(a6.1*48271+(7919:Int)+b0)%2147483647,24 a4,3 b0] (39 c7) (Ow isI c7 a4 c6.2)) (eK (gZ DX)<|ay<|cG aQ ag) `at ?_ ?_ ?_
   ·intro e3 e4 a3 b9 hq;have a7:=a3.g;have E0:=E0.trans a3;have a0:=a0.trans a3.g;have a1:=a1.mono a3;refine bh (i5 (Er:=Er) a1 (gd aQ aQ)<|36 λe5 hq g9 c0 c1=>?_)
    have E0:=c0.e _ E0 b4;have a0:=a0.trans c0.g;have a7:=a7.trans c0.g;refine 70 (sT aQ aQ) (36 λe7 hq h0 e8 b1 e9=>?_);cases e9;have E0:=E0.trans b1;have a0:=a0.trans b1.g;have a7:=a7.trans b1.g;have c1:=c1.mono b1;exact b9 (e7,e5) e8 _ a7 ⟨`a,E0,c1⟩ hq
   ·intro e3 e4 a3 b9 hq;have c2:=a3.g;have E0:=E0.trans a3;have a0:=a0.trans a3.g;have a1:=a1.mono a3;refine i5 (Er:=Er) a1 (gd (40<|lH aQ aQ) aQ) (36 λf0 hq f1 c3 f2=>?_);have E0:=c3.e _ E0 b4;have a0:=a0.trans c3.g;have c2:=c2.trans c3.g;exact b9 (a6.2.1,f0) f1 _ c2 ⟨`a,E0,f2⟩ hq
   ·intro c8 f3 h1 f4 iv hq;obtain⟨rfl,E0,f5⟩:=iv;have a0:=a0.trans f4
    try dsimp only
    refine cV (W:=f3) (((a6.1*48271+(7919:Int)+b0)%2147483647),c8.1,c8.2) a0 ?_ hq;exact⟨_,`a,E0,f5⟩
  ·intro h2 f6 h3 h5 iv hq;obtain⟨b6,rfl,E0,a1⟩:=iv;exact 32 (.ref a4) (hq a4 f6 E0 b4 a1)
theorem FA{f:Addr}{fd:GV}(F:54 K "_law_holes" "_law_holes" 48 f fd){iY:`c->`c->`c->`aY}(b0:Cal P w K mg `d "_law_row" `ce (1) (eX isI isI isI (ro isI) iY)):FnOk P w K mg `d CX0 (2) f fd ["_law_cell"] (fz isI (rs isS)<|E3 iY):=by
 have SC:55 [`bx,"_law_size","_law_draws","_law_out","_law_d"] ["_law_cell"] 48:=by walk_at "F"
 refine 63 SC ?_ ?_;·obtain⟨_,_,_,_,rfl,_⟩:=h;rfl
 ·obtain⟨W0,a6,_,rfl,rfl,b1,Er,hq⟩:=h;cases b1;refine 52 (83 1 (aJ (120 `a) (cj<|a5 aa<|a5 aa<|a5 aa<|53 aa aa) (18 aI 0) `ah) (cO 2<|cW b0<|a5 (18 bg 0)<|53 aa aa)<|83 3 aL (cY Hw `a (d4 (K:=K) `a<|bO (wq (K:=K) `a) (pv 2) cP<|bP aa) (fF 4)<|af<|cO 3<|ah bb (pv 3)<|aJ cI aL (56 aI<|ah bz (26 (120 `a) 2 aa)<|56 gF<|ah aI (pv 4) `aD) `ah)<|47<|pv 3)
  have E0:`Z:=`Y;unfold E3 at hq;refine 62 (cU (Ll<|dj<|aX ag<|aX ag<|aX ag<|aX ag<|aX ag<|di (R:=isI))<|40 aQ) λy3 hq v4 W1 e2 h5=>?_
  cases h5;have E0:=`bb;refine 62 (II<|fT (76 `aC aQ) ag ag) λy8 hq v9 W6 e7 a0=>?_
  have E0:=E0.trans e7;refine bh (70 (29 (x:=Gy "") (l:=[]) _ _) λc7 c8 a7 b2=>?_)
  cases b2;have E0:=E0.trans a7;have a0:=4 a7.g;refine dX (Er:=Er) (f:=Cq y3 y8) (s0:=([]:Tx)) (Iv:=λ(b3:Tx)(b4:Wd)(b5:St)=>∃(a2:Option V),b5=[3 a6,3 y3,some v9,27 b3,a2]/\39 b4) (dD<|II<|zh (Kd `J) fb<|dA ag) `at ?_ ?_ ?_
  ·intro c9 a9;have E0:=E0.trans a9;have a0:=4 a9.g;exact 8 `a E0
  ·intro d0 d1 d2 b6 d3 b7 d5 d6 b8 a1 iv a3 b9 hq;obtain⟨a2,rfl,E0⟩:=iv;have a0:=4 b8;have E0:=E0.trans a3;have a1:=a1.trans a3.g;have a0:=4 a3.g;cases b9;refine gn (σ':=[3 a6,3 y3,some v9,27 b7,3 b6]) ?_;unfold Cq at hq;refine 70 (cq bW<|cJ (29 (x:=Gy "abcdefghijklmnopqrstuvwxyz") (l:=[97,98,99,100,101,102,103,104,105,106,107,108,109,110,111,112,113,114,115,116,117,118,119,120,121,122]) _ _)<|40<|aZ (cU (Kd `J) ag)<|76 (.inr `aC)<|gd aQ aQ) (36 λc0 hq d7 c1 a4 c2=>?_);cases c2;have E0:=`bO;have a1:=a1.trans a4.g;have a0:=4 a4.g
   try dsimp only
   refine cV (W:=c1) c0 a1 ?_ hq;exact 8 `a E0
  ·intro d8 d9 e0 e1 iv hq;obtain⟨a2,rfl,E0⟩:=iv;exact 31 bW λc3 c4 c5 c6=>46 c3 c4 c5 c6
theorem FC{f:Addr}{fd:GV}(F:54 K "_law_card" "_law_card" 49 f fd){zS:`c->`I}(a0:Cal P w K mg `d "_law_holes" ["_law_cell"] (2) (fz isI (rs isS) zS)):FnOk P w K mg `d CX0 (3) f fd ["_law_cell"] (fz isI (rs `q)<|E4 zS):=by
 have SC:55 ["_law_cell"] ["_law_cell"] 49:=by walk_at "F"
 refine 63 SC ?_ ?_;·obtain⟨_,_,_,_,rfl,_⟩:=h;rfl
 ·obtain⟨W0,a2,_,rfl,rfl,a1,Er,hq⟩:=h;cases a1;refine 52 (47<|bt<|a5 (aJ cI aL (18 aI 0) `ah)<|53 (cW a0<|19<|18 bg 0)<|56 aI<|18 bg 0);have E0:`Z:=`Y;unfold E4 at hq;exact 31 (dC (K:=K) (cJ (29 (x:=Gy "SZ") (l:=[83,90]) _ _)<|40 aQ) (dJ<|76 `aC aQ)<|40<|76 `aC aQ) (Hi hq λy3 hq v4 W5 e6 h7=>46 v4 W5 e6 h7)
theorem FD{f:Addr}{fd:GV}(F:54 K "_law_turns" "_law_turns" 50 f fd){iY:`c->`c->`c->`aY}(a3:Cal P w K mg `d "_law_row" `ce (1) (eX isI isI isI (ro isI) iY)):FnOk P w K mg `d CX0 (2) f fd `ch (73 isI isI isS<|E5 iY):=by
 have SC:55 `ch `ch 50:=by walk_at "F"
 refine 63 SC ?_ ?_;·obtain⟨_,_,_,_,_,_,rfl,_⟩:=h;rfl
 ·obtain⟨W0,a0,a1,_,_,rfl,rfl,a4,a6,Er,hq⟩:=h;cases a4;cases a6;refine 52 (ae (77 (23 bS (18 aI 0) aa) (ah rg (aJ cI aL (56 aI<|18 bg 0) `ah) `aD) aA)<|47<|lN (K:=K) `a aL<|19<|fo (N:=["_law_d"]) (cap:=[none]) (j6 `a ⋯ `a ⋯ `T `T) `a (d4 (K:=K) `a<|cW a3<|a5 (18 bg 0)<|79 1<|19 aa) (λ_ _ _ _=>(bC (i:=0) (show Ig (["_law_d"]:`y) by decide +kernel) `a (by walk_at "L"))) `bR λ_ _ _ _=>aJ cI aL `aE `ah)
  have E0:`Z:=`Y;rw[show L2.start `ch [.int a0,.int a1]=[3 a0,3 a1]from rfl];unfold E5 at hq;refine 119 (ay<|cD (40 aQ) ag) λW1 e2=>?_;have E0:=`bb;by_cases a2:1 (decide<|(a0%7)=(3:Int))
  ·rw[Z3 a2]at hq ⊢;exact 31 (zf (cJ (29 (x:=Gy "fbi") (l:=[102,98,105]) _ _)<|40<|76 `aC aQ) aQ) (Hi hq λy4 hq v5 W6 e7 h8=>46 v5 W6 e7 h8)
  ·rw[Z4 a2]at hq ⊢
   try dsimp only[az]
   exact 31 (oI (dH _ _ ⋯)<|Ll (fM (dD<|II<|fT (76 `aC aQ) aQ ag) λb5 a9 b6 b7 a7 b8 b0=>by
    cases a7;refine gn ?_;exact 133 (((cJ (29 (x:=Gy "fbi") (l:=[102,98,105]) _ _) aQ):EV Er _ [3 a9] _ _ _) _ `s _ b0))) (Hi hq λb9 hq b1 b2 b3 b4=>46 b1 b2 b3 b4)
theorem FE{f:Addr}{fd:GV}(F:54 K "_law_go" "_law_go" 53 f fd):FnOk P w K mg `d CX0 (1) f fd ["_law_turn"] (fz isS (rs isI) E6):=by
 have SC:55 ["_law_turn"] ["_law_turn"] 53:=by walk_at "F"
 refine 63 SC ?_ ?_;·obtain⟨_,_,_,_,rfl,_⟩:=h;rfl
 ·obtain⟨W0,a1,_,rfl,rfl,a0,Er,hq⟩:=h;cases a0;refine 52 (47<|56 ip<|dQ (K:=K) `a `a aL<|16 0);have E0:`Z:=`Y;unfold E6 at hq;exact 31 (aZ (fK (29 (x:=Gy "bif") (l:=[98,105,102]) _ _) bW) ag) (Hi hq λy2 hq v3 W4 e5 h6=>46 v3 W4 e5 h6)
theorem FF{f:Addr}{fd:GV}(F:54 K "_law_behind" "_law_behind" 54 f fd){qV:Tx->`H}(a1:Cal P w K mg `d "_law_go" ["_law_turn"] (1) (fz isS (rs isI) qV)):FnOk P w K mg `d CX0 (2) f fd `bU (73 `q isS `q<|E7 qV):=by
 have SC:55 `bU `bU 54:=by walk_at "F"
 refine 63 SC ?_ ?_;·obtain⟨_,_,_,_,_,_,rfl,_⟩:=h;rfl
 ·obtain⟨W0,a3,a4,a6,_,rfl,rfl,a0,a2,Er,hq⟩:=h;cases a2;refine 52 (47<|bt<|a5 (26 `ao 0 aa)<|53 (26 `ao 0 aa)<|56 aI<|ah bz (26 `ao 0 aa)<|cW a1<|16 1);have E0:`Z:=`Y;unfold E7 at hq;exact 31 (dC (K:=K) (bB (f:=λ(b:Cd)=>b.1) oG `J) (bB (f:=λ(b:Cd)=>b.2.1) kP `J)<|40<|aZ (bB (f:=λ(b:Cd)=>b.2.2) mO `J)<|dJ bW) (Hi hq λy4 hq v5 W6 e7 h8=>46 v5 W6 e7 h8)
theorem FG{f:Addr}{fd:GV}(F:54 K "_law_twist" "_law_twist" 55 f fd){qV:Tx->`H}(a1:Cal P w K mg `d "_law_go" ["_law_turn"] (1) (fz isS (rs isI) qV)):FnOk P w K mg `d CX0 (2) f fd `bU (73 `q isS isI<|E8 qV):=by
 have SC:55 `bU `bU 55:=by walk_at "F"
 refine 63 SC ?_ ?_;·obtain⟨_,_,_,_,_,_,rfl,_⟩:=h;rfl
 ·obtain⟨W0,a3,b1,b2,_,rfl,rfl,a0,a4,Er,hq⟩:=h;cases a4;refine 52 (ae (77 (23 bS (26 `ao 0 aa) aL) (cW a1<|16 1) aA)<|47<|ah ip aa<|cW a1<|16 1)
  have E0:`Z:=`Y;unfold E8 at hq;refine 119 (ay<|jq (bB (f:=λ(b:Cd)=>b.1) oG `J)<|29 (x:=Gy "S") (l:=[83]) _ _) λW1 e2=>?_;have E0:=`bb;have a0:=4 e2.g;by_cases a2:1 (decide<|a3.1=([83]:Tx))
  ·rw[Z3 a2]at hq ⊢;exact 31 (dJ bW) (Hi hq λy3 hq v4 W5 e6 h7=>46 v4 W5 e6 h7)
  ·rw[Z4 a2]at hq ⊢
   try dsimp only[az]
   exact 31 (aZ ag<|dJ bW) (Hi hq λy9 hq a6 a7 a9 b0=>46 a6 a7 a9 b0)
theorem FH{f:Addr}{fd:GV}(F:54 K "_law_places" "_law_places" 56 f fd){l7:64 Cd Tx Cd}{kQ:Cd->Tx->`H}(b8:Cal P w K mg `d "_law_behind" `bU (2) (73 `q isS `q l7))(b9:Cal P w K mg `d "_law_twist" `bU (2) (73 `q isS isI kQ)):FnOk P w K mg `d CX0 (3) f fd `cd (bM `q isS (ro `aA)<|E9 l7 kQ):=by
 have SC:55 [`aQ,"_law_turns_here","_law_out","_law_turn","_law_slant"] `cd 56:=by walk_at "F"
 refine 63 SC ?_ ?_;·obtain⟨_,_,_,_,_,_,rfl,_⟩:=h;rfl
 ·obtain⟨W0,c0,b7,d0,_,rfl,rfl,a3,c1,Er,hq⟩:=h;cases c1;refine 52 (83 2 (cj a8) (cY Hw `a (jY `aD) (fF 3)<|83 0 (84 b8 0 3 a8) (cO 4<|aJ cI aL (56 bz<|84 b9 0 3 a8) `ah)<|af<|fk<|dn (K:=K) `a (pv 2)<|19<|bt<|a5 (aJ cI (26 `ao 0 aa) (26 `ao 0 aa) `ah)<|a5 (aJ cI (26 `ao 0 aa) (56 aI<|56 bz<|26 `ao 0 aa) `ah)<|16 4)<|47<|pv 2)
  have E0:`Z:=`Y;unfold E9 at hq;refine bh (fN (Er:=Er) (hW (R:=`aA)) λp3 W1 e2 hp4 o5=>?_)
  have fr6:=bJ E0.h hp4;have E0:=`bb;have a3:=Gm e2.g a3;refine dX (Er:=Er) (f:=Cr l7 kQ) (s0:=(c0,([]:`h))) (Iv:=λ(s9:(Cd×(List Pl)))(b2:Wd)(c2:St)=>∃(a4:V)(a6:Option V)(b3:Option V),2 c2 [some a4,27 b7,24 p3,b3,a6] (39 b2) (`q b2.G s9.1 a4/\Ow `aA b2 p3 s9.2)) (k9 bW) `at ?_ ?_ ?_
  ·intro d1 b4;have E0:=E0.trans b4;have a3:=Gm b4.g a3;have o5:=o5.mono b4;exact⟨_,_,_,`a,E0,a3,o5⟩
  ·intro d2 d3 d4 a7 d5 s8 d6 d7 d8 a1 iv a9 c3 hq;obtain⟨a4,a6,b3,rfl,E0,b0,a2⟩:=iv;have E0:=E0.trans a9;have a1:=a1.trans a9.g;have a2:=a2.mono a9;have b0:=Gm a9.g b0;cases c3;refine gn (σ':=[some a4,27 b7,24 p3,27 a7,a6]) ?_;unfold Cr at hq;refine 62 (aT (aV b0) bW) λc4 hq d9 e0 b5 a0=>?_
   have E0:=E0.trans b5;have a1:=a1.trans b5.g;have a2:=a2.mono b5;refine 62 (cJ (29 (x:=Gy "zos") (l:=[122,111,115]) _ _)<|aZ (aT `J bW) ag) λe1 hq e3 e4 b1 c5=>?_
   cases c5;have E0:=E0.trans b1;have a1:=a1.trans b1.g;have a2:=a2.mono b1;have a0:=4 b1.g;refine i5 (Er:=Er) a2 (dC (K:=K) (cJ (bB (f:=λ(b:Cd)=>b.2.1) kP `J)<|bB (f:=λ(b:Cd)=>b.2.2) mO `J) (cJ (bB (f:=λ(b:Cd)=>b.2.1) kP `J)<|40<|aZ (bB (f:=λ(b:Cd)=>b.2.2) mO `J) ag) bW) (36 λc6 hq c7 b6 c8=>?_);have E0:=b6.e _ E0 fr6;have a1:=a1.trans b6.g;have a0:=4 b6.g
   try dsimp only
   refine cV (W:=c7) (c4,c6) a1 ?_ hq;exact⟨_,_,_,`a,E0,a0,c8⟩
  ·intro e5 c9 e6 e7 iv hq;obtain⟨a4,a6,b3,rfl,E0,b0,a2⟩:=iv;exact 32 (.ref p3) (hq p3 c9 E0 fr6 a2)
theorem FI{f:Addr}{fd:GV}(F:54 K "_law_long" "_law_long" 58 f fd){iY:`c->`c->`c->`aY}(e0:Cal P w K mg `d "_law_row" `ce (1) (eX isI isI isI (ro isI) iY))(c9:28 "len")(e1:28 "zip"):FnOk P w K mg `d CX0 (2) f fd ["_law_places_here","_law_cell"] (bM (qD K) isI (ro `aA)<|Ea iY):=by
 have SC:55 ["_law_places_here",`bx,"_law_out","_law_worn","_law_draws","_law_place","_law_d","_law_at_here"] ["_law_places_here","_law_cell"] 58:=by walk_at "F"
 refine 63 SC ?_ ?_;·obtain⟨_,_,_,_,_,_,rfl,_⟩:=h;rfl
 ·obtain⟨W0,h3,b6,b7,_,rfl,rfl,a0,e3,Er,hq⟩:=h;cases e3;refine 52 (83 2 (cj a8) (cO 3 aa)<|83 4 (cW e0<|a5 (18 bg 1)<|53 (87 (126 `a) c9 HJ<|16 0) aa) (cY Hw `a (fG (K:=K) `a `a e1<|65 0 4 a8) (113 (n:=2) `a `a<|72 5<|72 6 bI)<|ae (aY (Ld<|dw (23 bS (pv 6) aa)<|dg<|23 i9 (pv 3) aa) (ae (cO 3<|18 bz 3)<|af<|cO 5<|bt<|a5 aL<|53 (26 `ao 5 aa) aL) aA)<|af<|fk<|dn (K:=K) `a (pv 2)<|16 5)<|ae (aY (23 bS (18 aI 1) aa) (ae (cO 7<|ah aI (18 bg 1)<|87 (126 `a) c9 HJ<|16 0)<|af<|fD (bt<|a5 (aJ `ao (26 (120 `a) 2<|pv 7) aa `ah)<|53 (aJ `ao (26 (120 `a) 2<|pv 7) aa `ah)<|aJ cI aL (56 aI<|18 bg 1) `ah)<|qX (pv 2) (pv 7) lq) aA)<|47<|pv 2)
  have E0:`Z:=`Y;unfold Ea at hq;refine bh (fN (Er:=Er) (hW (R:=`aA)) λp3 W1 e2 hp4 o5=>?_)
  have fr6:=bJ E0.h hp4;have E0:=`bb;have a0:=4 e2.g;refine bh (70 ag λv9 W7 e8 e4=>?_)
  cases e4;have E0:=E0.trans e8;have a0:=4 e8.g;have o5:=o5.mono e8;refine 62 (II<|fT (76 `aC aQ) (fL<|Kd `J) ag) λh4 hq b8 h5 b9 e5=>?_
  have E0:=E0.trans b9;have a0:=4 b9.g;have o5:=o5.mono b9;refine dX (Er:=Er) (f:=Cs) (s0:=((0:Int),([]:`h))) (Iv:=λ(d0:(Int×(List Pl)))(d1:Wd)(e6:St)=>∃(b2:Option V)(b3:Option V),2 e6 [some b7,3 b6,24 p3,3 d0.1,some b8,b2,b3,none] (39 d1) (Ow `aA d1 p3 d0.2)) (iD (gi `J)<|gi<|aV e5) `at ?_ ?_ ?_
  ·intro h6 c0;have E0:=E0.trans c0;have a0:=4 c0.g;have o5:=o5.mono c0;exact⟨_,_,`a,E0,o5⟩
  ·intro h7 h8 h9 c1 i0 c2 i1 i2 e7 a2 iv b4 e9 hq;obtain⟨b2,b3,rfl,E0,a1⟩:=iv;have a0:=4 e7;have E0:=E0.trans b4;have a2:=a2.trans b4.g;have a0:=4 b4.g;have a1:=a1.mono b4;refine i4 e9 λi3 i6 a6 f0=>?_;cases f0;unfold Cs at hq;refine 129 (Iv:=λ(d2:(Int×Pl))(c3:Wd)(f1:St)=>∃(c4:V),2 f1 [some b7,3 b6,24 p3,3 d2.1,some b8,some c4,3 c1.2,none] (39 c3) (`aA c3.G d2.2 c4/\Ow `aA c3 p3 c2.2)) (eK (ay<|cD aQ ag)<|ay<|cG aQ ag) `at ?_ ?_ ?_
   ·intro d3 f2 a3 c5 hq;have a9:=a3.g;have E0:=E0.trans a3;have a2:=a2.trans a3.g;have a0:=4 a3.g;have a1:=a1.mono a3;have a6:=Gm a3.g a6;refine bh (70 (aZ aQ ag) λi7 i8 a7 f3=>?_)
    cases f3;have E0:=E0.trans a7;have a2:=a2.trans a7.g;have a9:=a9.trans a7.g;have a0:=4 a7.g;have a1:=a1.mono a7;have a6:=Gm a7.g a6;refine 70 (dC (K:=K) (29 (x:=Gy "?") (l:=[63]) _ _) (bB (f:=λ(b:Pl)=>b.2.1) kP<|aV a6)<|29 (x:=Gy "?") (l:=[63]) _ _) λj0 f4 b0 f5=>?_;have E0:=E0.trans b0;have a2:=a2.trans b0.g;have a9:=a9.trans b0.g;have a0:=4 b0.g;have a1:=a1.mono b0;exact c5 (c2.1+(1:Int),(([63]:Tx),c1.1.2.1,([63]:Tx))) f4 _ a9 ⟨_,`a,E0,f5,a1⟩ hq
   ·intro d3 f2 a3 c5 hq;have f6:=a3.g;have E0:=E0.trans a3;have a2:=a2.trans a3.g;have a0:=4 a3.g;have a1:=a1.mono a3;have a6:=Gm a3.g a6
    try dsimp only[az]
    exact c5 (c2.1,c1.1) d3 _ f6 ⟨_,`a,E0,a6,a1⟩ hq
   ·intro f7 j1 j2 d4 iv hq;obtain⟨c4,rfl,E0,c6,f8⟩:=iv;have a2:=a2.trans d4;have a0:=4 d4;refine i5 (Er:=Er) f8 (aV c6) (36 λf9 hq g0 b5 g1=>?_);have E0:=b5.e _ E0 fr6;have a2:=a2.trans b5.g;have a0:=4 b5.g;have c6:=Gm b5.g c6
    try dsimp only
    refine cV (W:=g0) (f7.1,f9) a2 ?_ hq;exact⟨_,_,`a,E0,g1⟩
  ·intro d5 j3 j4 g2 iv hq;obtain⟨b2,b3,rfl,E0,a1⟩:=iv;have a0:=4 g2;refine 129 (Iv:=λ(g3:(List Pl))(d6:Wd)(g4:St)=>∃(d7:Option V),2 g4 [some b7,3 b6,24 p3,3 d5.1,some b8,b2,b3,d7] (39 d6) (Ow `aA d6 p3 g3)) (ay<|cD (40 aQ) ag) `at ?_ ?_ ?_
   ·intro d8 g5 a4 c7 hq;have b1:=a4.g;have E0:=`bO;have a0:=4 a4.g;have a1:=a1.mono a4;refine 62 (gd (76 `aC aQ)<|fL<|Kd `J) λj5 hq j6 j7 c8 g6=>?_
    cases g6;have E0:=E0.trans c8;have b1:=b1.trans c8.g;have a1:=a1.mono c8;refine oM (Er:=Er) a1 (dC (K:=K) (bB (f:=λ(b:Pl)=>b.1) oG<|cU (dP a1) aQ) (bB (f:=λ(b:Pl)=>b.2.1) kP<|cU (dP a1) aQ)<|cJ (29 (x:=Gy "szo") (l:=[115,122,111]) _ _)<|40<|76 `aC aQ) aQ (36 λg7 hq g8 d9 g9=>?_);have E0:=d9.e _ E0 fr6;have b1:=b1.trans d9.g;exact c7 g7 g8 _ b1 ⟨_,`a,E0,g9⟩ hq
   ·intro d8 g5 a4 c7 hq;have h0:=a4.g;have E0:=`bO;have a0:=4 a4.g;have a1:=a1.mono a4
    try dsimp only[az]
    exact c7 d5.2 d8 _ h0 ⟨_,`a,E0,a1⟩ hq
   ·intro j8 h1 j9 k0 iv hq;obtain⟨d7,rfl,E0,h2⟩:=iv;exact 32 (.ref p3) (hq p3 h1 E0 fr6 h2)
theorem FJ{f:Addr}{fd:GV}(F:54 K "_law_marks" "_law_marks" 57 f fd){iY:`c->`c->`c->`aY}(h1:Cal P w K mg `d "_law_row" `ce (1) (eX isI isI isI (ro isI) iY))(h2:28 "int")(h3:28 "len")(h4:28 "tuple")(f4:28 "zip"):FnOk P w K mg `d CX0 (2) f fd ["_law_places_here",`bx,"_law_lies"] (eX (qD K) isI isB (ro `aA)<|Eb iY):=by
 have SC:55 ["_law_places_here",`bx,"_law_lies","_law_out","_law_draws","_law_place","_law_d","_law_mark","_law_letters"] ["_law_places_here",`bx,"_law_lies"] 57:=by walk_at "F"
 refine 63 SC ?_ ?_;·obtain⟨_,_,_,_,_,_,_,_,rfl,_⟩:=h;rfl
 ·obtain⟨W0,m4,b1,b4,b5,_,_,rfl,rfl,b7,h5,h6,Er,hq⟩:=h;cases h5;cases h6;refine 52 (83 3 (cj a8) (cO 4<|cW h1<|a5 (18 bg 1)<|53 (87 (126 `a) h3 HJ<|16 0)<|ah bz aa<|ah gF aa<|gM n6 `T h2 IX<|16 2)<|ae (cY Hw `a (fG (K:=K) `a `a f4<|65 0 4 a8) (113 (n:=2) `a `a<|72 5<|72 6 bI)<|ae (aY (23 bS (18 aI 1) aa) (af<|cO 6<|56 gF<|18 bg 6) aA)<|ae (aY (23 bS (18 aI 1) aa) (af<|cO 6<|56 bz<|56 gF<|18 bg 6) aA)<|83 7 (cj<|a5 (26 `ao 5 aa)<|53 (26 `ao 5 aa)<|26 `ao 5 aa) (aY (Ld<|dw (23 mZ (pv 6) aa)<|dg<|23 i9 (18 aI 6) aa) (ae (cO 8 aL)<|af<|fD (26 cI 8<|56 bz<|dQ (K:=K) `a `a (pv 8)<|19<|26 (120 `a) 7<|18 aI 6)<|qX (pv 7) (18 aI 6) lq) aA)<|ae (aY (Ld<|dw (23 mZ (pv 6) aa)<|dg<|23 bS (18 aI 6) aa) (af<|fD (aJ cI aL (dQ (K:=K) `a `a aL<|19<|26 (120 `a) 7 aa) `ah)<|qX (pv 7) aa lq) aA)<|af<|fk<|dn (K:=K) `a (pv 3)<|19<|gM (lM (K:=K) `a) `T h4 JT<|19<|fo (N:=["_law_sign_here","_law_part","_law_d"]) (cap:=[none,none,some 6]) (j6 `a ⋯ `a ⋯ `T `T) `a (fG (K:=K) `a `a f4<|79 7<|19<|cj<|a5 aa<|53 aa aa) (λ_ _ _ _=>113 (n:=2) `a `a<|ar (bC (i:=0) (show Ig (["_law_sign_here","_law_part","_law_d"]:`y) by decide +kernel) `a (by walk_at "L"))<|ar (bC (i:=1) (show Ig (["_law_sign_here","_law_part","_law_d"]:`y) by decide +kernel) `a (by walk_at "L")) bI) `bR λ_ _ _ _=>gK (23 bS (56 aI<|ah bg (pv 2) `aD) aa) `aE aL)<|47<|pv 3)
  have E0:`Z:=`Y;rw[show L2.start ["_law_places_here",`bx,"_law_lies","_law_out","_law_draws","_law_place","_law_d","_law_mark","_law_letters"] [b5,.int b1,.bl b4]=[some b5,3 b1,some (.bl b4),none,none,none,none,none,none]from rfl];unfold Eb at hq;refine bh (fN (Er:=Er) (hW (R:=`aA)) λp3 W1 e2 hp4 o5=>?_)
  have fr6:=bJ E0.h hp4;have E0:=`bb;have b7:=Gm e2.g b7;refine 62 (II<|fT (76 `aC aQ) (fL<|Kd<|aV b7)<|aZ ag<|lH ag<|sX DX) λm5 hq b9 W7 e8 h7=>?_
  have E0:=E0.trans e8;have b7:=Gm e8.g b7;have o5:=o5.mono e8;refine dX (Er:=Er) (f:=Ct b1) (s0:=([]:`h)) (Iv:=λ(h8:(List Pl))(f5:Wd)(h9:St)=>∃(d3:Option V)(c0:Option V)(c1:Option V)(d4:Option V),2 h9 [some b5,3 b1,some (.bl b4),24 p3,some b9,d4,d3,c0,c1] (39 f5) (Ow `aA f5 p3 h8)) (iD (gi<|aV b7)<|gi<|aV h7) `at ?_ ?_ ?_
  ·intro m6 f6;have E0:=E0.trans f6;have o5:=o5.mono f6;exact⟨_,_,_,_,`a,E0,o5⟩
  ·intro m7 m8 m9 c2 n0 c8 n1 n2 n3 a0 iv d5 i0 hq;obtain⟨d3,c0,c1,d4,rfl,E0,a6⟩:=iv;have E0:=E0.trans d5;have a0:=a0.trans d5.g;have a6:=a6.mono d5;refine i4 i0 λc9 n4 a1 i1=>?_;cases i1;unfold Ct at hq;refine 129 (Iv:=λ(i2:Int)(f7:Wd)(i3:St)=>2 i3 [some b5,3 b1,some (.bl b4),24 p3,some b9,some c9,3 i2,c0,c1] (39 f7) (Ow `aA f7 p3 c8)) (ay<|cD (40 aQ) ag) `at ?_ ?_ ?_
   ·intro f8 i6 a7 d6 hq;have d7:=a7.g;have E0:=E0.trans a7;have a0:=a0.trans a7.g;have a6:=a6.mono a7;have a1:=10 a7.g;refine 70 (76 (.inr `aC)<|76 `aC aQ) λn5 i7 c3 i8=>?_;cases i8;have E0:=E0.trans c3;have a0:=a0.trans c3.g;have d7:=d7.trans c3.g;have a6:=a6.mono c3;have a1:=10 c3.g;exact d6 ((c2.2/8)*8) i7 _ d7 ⟨`a,E0,a6⟩ hq
   ·intro f8 i6 a7 d6 hq;have j0:=a7.g;have E0:=E0.trans a7;have a0:=a0.trans a7.g;have a6:=a6.mono a7;have a1:=10 a7.g
    try dsimp only[az]
    exact d6 c2.2 f8 _ j0 ⟨`a,E0,a6⟩ hq
   ·intro f9 n7 n8 g0 iv hq;obtain⟨rfl,E0,b2⟩:=iv;have a0:=a0.trans g0;have a1:=10 g0;refine 129 (Iv:=λ(j1:Int)(g1:Wd)(j2:St)=>2 j2 [some b5,3 b1,some (.bl b4),24 p3,some b9,some c9,3 j1,c0,c1] (39 g1) (Ow `aA g1 p3 c8)) (ay<|cD (40 aQ) ag) `at ?_ ?_ ?_
    ·intro g2 j3 a9 d8 hq;have d9:=a9.g;have E0:=E0.trans a9;have a0:=a0.trans a9.g;have b2:=b2.mono a9;have a1:=10 a9.g;refine 70 (aZ (76 (.inr `aC)<|76 `aC aQ) ag) λn9 j4 c4 j5=>?_;cases j5;have E0:=E0.trans c4;have a0:=a0.trans c4.g;have d9:=d9.trans c4.g;have b2:=b2.mono c4;have a1:=10 c4.g;exact d8 ((f9/8)*8+(7:Int)) j4 _ d9 ⟨`a,E0,b2⟩ hq
    ·intro g2 j3 a9 d8 hq;have j7:=a9.g;have E0:=E0.trans a9;have a0:=a0.trans a9.g;have b2:=b2.mono a9;have a1:=10 a9.g
     try dsimp only[az]
     exact d8 f9 g2 _ j7 ⟨`a,E0,b2⟩ hq
    ·intro e0 o0 o1 g3 iv hq;obtain⟨rfl,E0,a2⟩:=iv;have a0:=a0.trans g3;have a1:=10 g3;refine bh (fN (Er:=Er) (dj<|aX (bB (f:=λ(b:Pl)=>b.1) oG `aT)<|aX (bB (f:=λ(b:Pl)=>b.2.1) kP `aT)<|aX (bB (f:=λ(b:Pl)=>b.2.2) mO `aT)<|di (R:=isS)) λd0 o2 d1 g4 b0=>?_)
     have e1:=a2.ne g4;have e3:=bJ E0.h g4;have E0:=E0.trans d1;have a0:=a0.trans d1.g;have a2:=a2.mono d1;have a1:=10 d1.g;refine 129 (Iv:=λ(j8:(List Tx))(e4:Wd)(j9:St)=>∃(e5:Option V),2 j9 [some b5,3 b1,some (.bl b4),24 p3,some b9,some c9,3 e0,24 d0,e5] (39 e4) (Ow isS e4 d0 j8/\Ow `aA e4 p3 c8)) (eK (ay<|cG aQ ag)<|ay<|cG (40 aQ) ag) `at ?_ ?_ ?_
     ·intro g5 k0 a3 e6 hq;have c5:=a3.g;have E0:=E0.trans a3;have a0:=a0.trans a3.g;have a2:=a2.mono a3;have a1:=10 a3.g;have b0:=b0.mono a3;refine bh (70 (29 (x:=Gy "abcdefghijklmnopqrstuvwxyza") (l:=[97,98,99,100,101,102,103,104,105,106,107,108,109,110,111,112,113,114,115,116,117,118,119,120,121,122,97]) _ _) λo3 o4 b8 k1=>?_)
      cases k1;have E0:=E0.trans b8;have a0:=a0.trans b8.g;have c5:=c5.trans b8.g;have a2:=a2.mono b8;have a1:=10 b8.g;have b0:=b0.mono b8;refine oM (Er:=Er) b0 (cJ bW<|aZ (fK bW<|cU (dP b0)<|40 aQ) ag) (40 aQ) (36 λk2 hq k3 c6 k4=>?_);have E0:=c6.e _ E0 e3;have a0:=a0.trans c6.g;have c5:=c5.trans c6.g;have a2:=c6.ow e1 a2;have a1:=10 c6.g;exact e6 k2 k3 _ c5 ⟨_,`a,E0,k4,a2⟩ hq
     ·intro g5 k0 a3 e6 hq;have k5:=a3.g;have E0:=E0.trans a3;have a0:=a0.trans a3.g;have a2:=a2.mono a3;have a1:=10 a3.g;have b0:=b0.mono a3
      try dsimp only[az]
      exact e6 [c2.1.1,c2.1.2.1,c2.1.2.2] g5 _ k5 ⟨_,`a,E0,b0,a2⟩ hq
     ·intro k6 o6 o7 g6 iv hq;obtain⟨e5,rfl,E0,b6,b3⟩:=iv;have a0:=a0.trans g6;have a1:=10 g6;refine 129 (Iv:=λ(k7:(List Tx))(e7:Wd)(k8:St)=>2 k8 [some b5,3 b1,some (.bl b4),24 p3,some b9,some c9,3 e0,24 d0,e5] (39 e7) (Ow isS e7 d0 k7/\Ow `aA e7 p3 c8)) (eK (ay<|cG aQ ag)<|ay<|cD (40 aQ) ag) `at ?_ ?_ ?_
      ·intro g7 k9 a4 e9 hq;have f0:=a4.g;have E0:=`bO;have a0:=a0.trans a4.g;have b3:=b3.mono a4;have a1:=10 a4.g;have b6:=b6.mono a4;refine oM (Er:=Er) b6 (cJ (29 (x:=Gy "zos") (l:=[122,111,115]) _ _)<|fK (29 (x:=Gy "szo") (l:=[115,122,111]) _ _)<|cU (dP b6) ag) ag (36 λl0 hq l1 c7 l2=>?_);have E0:=c7.e _ E0 e3;have a0:=a0.trans c7.g;have f0:=f0.trans c7.g;have b3:=c7.ow e1 b3;have a1:=10 c7.g;exact e9 l0 l1 _ f0 ⟨`a,E0,l2,b3⟩ hq
      ·intro g7 k9 a4 e9 hq;have l3:=a4.g;have E0:=`bO;have a0:=a0.trans a4.g;have b3:=b3.mono a4;have a1:=10 a4.g;have b6:=b6.mono a4
       try dsimp only[az]
       exact e9 k6 g7 _ l3 ⟨`a,E0,b6,b3⟩ hq
      ·intro o8 o9 p0 g8 iv hq;obtain⟨rfl,E0,l4,f1⟩:=iv;have a0:=a0.trans g8;have a1:=10 g8;obtain⟨p1,g9,E0,f2,f3,l5⟩:=l4.frz E0 e3;rw[<-g9];have a0:=a0.trans f2;have f1:=f1.keep (by rw[g9]) f2 (l5 _ e1);have a1:=10 f2;refine i5 (Er:=Er) f1 (wM<|Ll (fM (iD (gi<|aV f3)<|gi<|II<|dj<|aX ag<|aX ag<|aX ag<|di (R:=isI)) λp2 h0 p4 p5 l6 p6 l7=>by
        refine i4 l6 λp7 p8 l8 l9=>?_;cases l8;cases l9;exact 133 (((nA (ay<|cD (40<|sT aQ aQ) ag) bW<|29 (x:=Gy "?") (l:=[63]) _ _):EV Er _ [27 h0.1,3 h0.2,3 e0] _ _ _) _ `s _ l7))) (36 λm0 hq m1 d2 m2=>?_)
       have E0:=d2.e _ E0 fr6;have a0:=a0.trans d2.g;have a1:=10 d2.g;have f3:=Gm d2.g f3
       try dsimp only
       refine cV (W:=m1) m0 a0 ?_ hq;exact⟨_,_,_,_,`a,E0,m2⟩
  ·intro p9 m3 q0 q1 iv hq;obtain⟨d3,c0,c1,d4,rfl,E0,a6⟩:=iv;exact 32 (.ref p3) (hq p3 m3 E0 fr6 a6)
theorem FK{f:Addr}{fd:GV}(F:54 K "_law_turnover" "_law_turnover" 59 f fd):FnOk P w K mg `d CX0 (1) f fd ["_law_card_here"] (fz `q (rs `q) Ec):=by
 have SC:55 ["_law_card_here","_law_holes_here"] ["_law_card_here"] 59:=by walk_at "F"
 refine 63 SC ?_ ?_;·obtain⟨_,_,_,_,rfl,_⟩:=h;rfl
 ·obtain⟨W0,a6,a7,rfl,rfl,a0,Er,hq⟩:=h;refine 52 (ae (cO 1<|26 `ao 0 aa)<|47<|bt<|a5 (aJ cI aL (dQ (K:=K) `a `a aL<|19<|26 `ao 0 aa) `ah)<|53 (ah bb (ah bb (ah bb (26 cI 1 aa)<|26 cI 1 aa)<|26 cI 1 aa)<|26 cI 1 aa)<|56 aI<|ah ip aa<|26 `ao 0 aa)
  have E0:`Z:=`Y;unfold Ec at hq;refine bh (70 (bB (f:=λ(b:Cd)=>b.2.1) kP `J) λv3 W1 e2 h4=>?_)
  cases h4;have E0:=`bb;have a0:=4 e2.g;exact 31 (dC (K:=K) (cJ (29 (x:=Gy "ZS") (l:=[90,83]) _ _)<|fK (29 (x:=Gy "SZ") (l:=[83,90]) _ _)<|bB (f:=λ(b:Cd)=>b.1) oG `J) (cq (cq (cq (cJ bW ag)<|cJ bW ag)<|cJ bW ag)<|cJ bW ag)<|40<|aZ ag<|bB (f:=λ(b:Cd)=>b.2.2) mO `J) (Hi hq λa9 hq a1 a2 a3 a4=>46 a1 a2 a3 a4)
theorem FL{f:Addr}{fd:GV}(F:54 K "_law_back" "_law_back" 60 f fd):FnOk P w K mg `d CX0 (1) f fd ["_law_turns_here"] (fz isS (rs isS) Ed):=by
 have SC:55 ["_law_turns_here"] ["_law_turns_here"] 60:=by walk_at "F"
 refine 63 SC ?_ ?_;·obtain⟨_,_,_,_,rfl,_⟩:=h;rfl
 ·obtain⟨W0,a0,_,rfl,rfl,a2,Er,hq⟩:=h;cases a2;refine 52 (47<|lN (K:=K) `a aL<|19<|fo (N:=["_law_turn"]) (cap:=[none]) (j6 `a ⋯ `a ⋯ `T `T) `a (jY `aE) (λ_ _ _ _=>(bC (i:=0) (show Ig (["_law_turn"]:`y) by decide +kernel) `a (by walk_at "L"))) `bR λ_ _ _ _=>aJ cI aL (dQ (K:=K) `a `a aL<|16 0) `ah);have E0:`Z:=`Y;rw[show L2.start ["_law_turns_here"] [88 a0]=[27 a0]from rfl];unfold Ed at hq;exact 31 (oI (dH _ _ ⋯)<|Ll (fM (k9 bW) λW3 a1 v2 e4 h5 Q9 a3=>by
   cases h5;refine gn ?_;exact 133 (((cJ (29 (x:=Gy "fib") (l:=[102,105,98]) _ _)<|fK (29 (x:=Gy "bif") (l:=[98,105,102]) _ _) bW):EV Er _ [27 a1] _ _ _) _ `s _ a3))) (Hi hq λb0 hq a4 a6 a7 a9=>46 a4 a6 a7 a9)
theorem FN{f:Addr}{fd:GV}(F:54 K "_law_roll" "_law_roll" 61 f fd)(a4:28 "range"):FnOk P w K mg `d CX0 (1) f fd ["_law_card_here","_law_many"] (73 `q isI `q Ee):=by
 have SC:55 [`aQ,"_law_many","_law_holes_here"] ["_law_card_here","_law_many"] 61:=by walk_at "F"
 refine 63 SC ?_ ?_;·obtain⟨_,_,_,_,_,_,rfl,_⟩:=h;rfl
 ·obtain⟨W0,b4,a1,a2,_,rfl,rfl,a0,a6,Er,hq⟩:=h;cases a6
  refine 52 (ae (cO 2<|lN (K:=K) `a aL<|19<|fo (N:=["_law_k",`aQ,"_law_many"]) (cap:=[none,some 0,some 1]) (j6 `a ⋯ `a ⋯ `T `T) `a (jU `a a4<|19 aa) (λ_ _ _ _=>(bC (i:=0) (show Ig (["_law_k",`aQ,"_law_many"]:`y) by decide +kernel) `a (by walk_at "L"))) `bR λ_ _ _ _=>aJ cI (26 `ao 1 aa) (56 aI<|ah ip (pv 0)<|pv 2) `ah)<|47<|bt<|a5 (26 `ao 0 aa)<|79 2<|19<|56 aI<|ah bz (26 `ao 0 aa) `aD)
  have E0:`Z:=`Y;rw[show L2.start [`aQ,"_law_many","_law_holes_here"] [a2,.int a1]=[some a2,3 a1,none]from rfl];unfold Ee at hq;refine 62 (oI (dH _ _ ⋯)<|Ll (fM (lJ ag) λW5 a3 v4 e6 h7 b5 a7=>by
   have h8:=Ke (R:=sh `q) e6 a0;cases h7;refine gn ?_;exact 133 (((cJ (bB (f:=λ(b:Cd)=>b.2.1) kP<|aV h8)<|40<|aZ aQ aQ):EV Er _ [3 a3,some a2,3 a1] _ _ _) _ `s _ a7))) λb6 hq b7 W1 e2 a9=>?_
  cases a9;have E0:=`bb;have a0:=4 e2.g;exact 31 (dC (K:=K) (bB (f:=λ(b:Cd)=>b.1) oG `J) bW<|40<|aZ (bB (f:=λ(b:Cd)=>b.2.2) mO `J) aQ) λb0 b1 b2 b3=>46 b0 b1 b2 b3
theorem FO{f:Addr}{fd:GV}(F:54 K "_law_seen" "_law_seen" 62 f fd){l7:64 Cd Tx Cd}(d3:Cal P w K mg `d "_law_behind" `bU (2) (73 `q isS `q l7))(d5:28 "sorted"):FnOk P w K mg `d CX0 (3) f fd `cd (bM `q isS (ro isI)<|Ef l7):=by
 have SC:55 [`aQ,"_law_turns_here","_law_out","_law_turn","_law_hole"] `cd 62:=by walk_at "F"
 refine 63 SC ?_ ?_;·obtain⟨_,_,_,_,_,_,rfl,_⟩:=h;rfl
 ·obtain⟨W0,d6,a9,g3,_,rfl,rfl,b0,d7,Er,hq⟩:=h;cases d7;refine 52 (83 2 (cj a8) (cY Hw `a (jY `aD) (fF 3)<|ae (cO 0<|84 d3 0 3 a8)<|af<|cY Hw `a (d4 (K:=K) `a<|cj<|53 (26 `ao 0 aa)<|56 aI<|56 bz<|26 `ao 0 aa) (fF 4)<|af<|aY (aw (je (K:=K) `a) (pv 4) (pv 2) (by with_unfolding_all rfl)) (af<|fk<|dn (K:=K) `a (pv 2)<|16 4) aA)<|47<|87 (jw (K:=K) `a) d5 Lo<|16 2)
  have E0:`Z:=`Y;unfold Ef at hq;refine bh (fN (Er:=Er) (hW (R:=isI)) λp3 W1 e2 hp4 o5=>?_)
  have fr6:=bJ E0.h hp4;have E0:=`bb;have b0:=Gm e2.g b0;refine dX (Er:=Er) (f:=DE l7) (s0:=(d6,([]:`P))) (Iv:=λ(s9:(Cd×(List Int)))(b8:Wd)(d8:St)=>∃(b1:V)(b4:Option V)(b9:Option V),2 d8 [some b1,27 a9,24 p3,b9,b4] (39 b8) (`q b8.G s9.1 b1/\Ow isI b8 p3 s9.2)) (k9 bW) `at ?_ ?_ ?_
  ·intro g4 c0;have E0:=E0.trans c0;have b0:=Gm c0.g b0;have o5:=o5.mono c0;exact⟨_,_,_,`a,E0,b0,o5⟩
  ·intro g5 g6 g7 a7 g8 s8 g9 h0 h1 a0 iv b5 d9 hq;obtain⟨b1,b4,b9,rfl,E0,b6,a6⟩:=iv;have E0:=E0.trans b5;have a0:=a0.trans b5.g;have a6:=a6.mono b5;have b6:=Gm b5.g b6;cases d9;refine gn (σ':=[some b1,27 a9,24 p3,27 a7,b4]) ?_;unfold DE at hq;refine 62 (aT (aV b6) bW) λe0 hq c1 h2 c2 a1=>?_
   have E0:=E0.trans c2;have a0:=a0.trans c2.g;have a6:=a6.mono c2;refine rB (Er:=Er) (f:=Cu) (s0:=s8.2) (Iv:=λ(e1:(List Int))(c7:Wd)(e3:St)=>∃(c3:Option V),2 e3 [some c1,27 a9,24 p3,27 a7,c3] (39 c7) (Ow isI c7 p3 e1)) (dD<|II<|dj<|aX (bB (f:=λ(b:Cd)=>b.2.2) mO `aT)<|aX (40<|aZ (bB (f:=λ(b:Cd)=>b.2.2) mO `aT) ag)<|di (R:=isI)) `at ?_ ?_ ?_
   ·intro h3 b7;have E0:=E0.trans b7;have a0:=a0.trans b7.g;have a6:=a6.mono b7;have a1:=10 b7.g;exact⟨_,`a,E0,a6⟩
   ·intro h4 h5 h6 c8 h7 e4 h8 h9 c9 a3 iv b2 e5 hq;obtain⟨c3,rfl,E0,a4⟩:=iv;have a0:=a0.trans c9;have a1:=10 c9;have E0:=E0.trans b2;have a0:=a0.trans b2.g;have a3:=a3.trans b2.g;have a4:=a4.mono b2;have a1:=10 b2.g;cases e5;refine gn (σ':=[some c1,27 a9,24 p3,27 a7,3 c8]) ?_;unfold Cu at hq;refine oK (Er:=Er) (Iv:=λ(e6:(List Int))(d0:Wd)(e7:St)=>2 e7 [some c1,27 a9,24 p3,27 a7,3 c8] (39 d0) (Ow isI d0 p3 e6)) (ay<|lL aQ<|dP a4) `at ?_ ?_ ?_
    ·intro d1 e8 a2 c4 hq;have c5:=a2.g;have E0:=E0.trans a2;have a0:=a0.trans a2.g;have a3:=a3.trans a2.g;have a4:=a4.mono a2;have a1:=10 a2.g;refine i5 (Er:=Er) a4 aQ (36 λe9 hq f0 b3 f1=>?_);have E0:=b3.e _ E0 fr6;have a0:=a0.trans b3.g;have a3:=a3.trans b3.g;have c5:=c5.trans b3.g;have a1:=10 b3.g;exact c4 e9 f0 _ c5 ⟨`a,E0,f1⟩ hq
    ·intro d1 e8 a2 c4 hq;have f2:=a2.g;have E0:=E0.trans a2;have a0:=a0.trans a2.g;have a3:=a3.trans a2.g;have a4:=a4.mono a2;have a1:=10 a2.g
     try dsimp only[az]
     exact c4 e4 d1 _ f2 ⟨`a,E0,a4⟩ hq
    ·intro f3 f4 i0 c6 iv hq;obtain⟨rfl,E0,f5⟩:=iv;have a0:=a0.trans c6;have a3:=a3.trans c6;have a1:=10 c6
     try dsimp only
     refine cV (W:=f4) f3 a3 ?_ hq;exact⟨_,`a,E0,f5⟩
   ·intro f6 f7 i1 d2 iv hq;obtain⟨c3,rfl,E0,a4⟩:=iv;have a0:=a0.trans d2;have a1:=10 d2
    try dsimp only
    refine cV (W:=f7) (e0,f6) a0 ?_ hq;exact⟨_,_,_,`a,E0,a1,a4⟩
  ·intro i2 i3 i4 i6 iv hq;obtain⟨b1,b4,b9,rfl,E0,b6,a6⟩:=iv;exact jA (Er:=Er) (pW<|dP a6) (Hi hq λi7 hq f8 f9 g0 g1 g2=>hq f8 f9 (E0.trans g0) (bJ E0.h g1) g2)
theorem FP{f:Addr}{fd:GV}(F:54 K "_law_kin" "_law_kin" 63 f fd){zV:Cd->Res Cd}{zW:Tx->`I}{zX:64 Cd `c Cd}{zY:Cd->Tx->`aY}(e5:Cal P w K mg `d "_law_turnover" ["_law_card_here"] (1) (fz `q (rs `q) zV))(e6:Cal P w K mg `d "_law_back" ["_law_turns_here"] (1) (fz isS (rs isS) zW))(e7:Cal P w K mg `d "_law_roll" ["_law_card_here","_law_many"] (1) (73 `q isI `q zX))(e9:Cal P w K mg `d "_law_seen" `cd (3) (bM `q isS (ro isI) zY))(f0:28 "range"):FnOk P w K mg `d CX0 (4) f fd [`aQ,"_law_turns_here",`bx] (eX `q isS isI (rs<|45 `q isS)<|Eg zV zW zX zY):=by
 have SC:55 [`aQ,"_law_turns_here",`bx,"_law_known","_law_hole","_law_colour"] [`aQ,"_law_turns_here",`bx] 63:=by walk_at "F"
 refine 63 SC ?_ ?_;·obtain⟨_,_,_,_,_,_,_,_,rfl,_⟩:=h;rfl
 ·obtain⟨W0,f1,f2,a9,j0,_,_,rfl,rfl,b0,f3,f4,Er,hq⟩:=h;cases f3;cases f4;refine 52 (ae (aY (23 bS (18 aI 2) aa) (ae (cO 0<|cW e5<|16 0)<|af<|cO 1<|cW e6<|16 1) aA)<|ae (cO 0<|cW e7<|79 0<|19<|56 aI<|18 bg 2)<|ae (aY (23 bS (56 aI<|18 bg 2) aa) (ae (cO 3<|84 e9 0 1 a8)<|af<|cY Hw `a (jU `a f0<|19 aa) (fF 4)<|af<|aY (aw (je (K:=K) `a) (pv 4) (pv 3) (by with_unfolding_all rfl)) (ae (cO 5<|aJ cI aL (56 aI<|ah bz (18 bg 2)<|ah gF aa<|pv 4) `ah)<|af<|cO 0<|bt<|a5 (26 `ao 0 aa)<|53 (ah bb (ah bb (bO cZ (26 `ao 0 aa) cP<|bP<|pv 4)<|pv 5)<|bO cZ (26 `ao 0 aa) (bP<|18 bz 4) cP)<|26 `ao 0 aa) aA) aA)<|47<|bt<|65 0 1 a8)
  have E0:`Z:=`Y;unfold Eg at hq;refine 129 (Iv:=λ(d0:(Cd×Tx))(d1:Wd)(f5:St)=>∃(b9:V),2 f5 [some b9,27 d0.2,3 a9,none,none,none] (39 d1) (`q d1.G d0.1 b9)) (ay<|cD (40 aQ) ag) `at ?_ ?_ ?_
  ·intro W1 N4 e2 hN5 hq;have hs6:=e2.g;have E0:=`bb;have b0:=Gm e2.g b0;refine 62 (dJ<|aV b0) λy9 hq j1 W7 e8 c0=>?_
   have E0:=E0.trans e8;have hs6:=hs6.trans e8.g;refine 70 (dJ bW) (36 λf6 hq j2 f7 c1 f8=>?_);cases f8;have E0:=E0.trans c1;have hs6:=hs6.trans c1.g;have c0:=Gm c1.g c0;exact hN5 (y9,f6) f7 _ hs6 ⟨_,`a,E0,c0⟩ hq
  ·intro W1 N4 e2 hN5 hq;have f9:=e2.g;have E0:=`bb;have b0:=Gm e2.g b0
   try dsimp only[az]
   exact hN5 (f1,f2) W1 _ f9 ⟨_,`a,E0,b0⟩ hq
  ·intro b6 j3 j4 j5 iv hq;obtain⟨b9,rfl,E0,g0⟩:=iv;refine 62 (aT (aV g0)<|40<|76 `aC aQ) λd2 hq j6 j7 g1 a6=>?_
   have E0:=E0.trans g1;refine 129 (Iv:=λ(g2:Cd)(d3:Wd)(g3:St)=>∃(c2:V)(d4:Option V)(d5:Option V)(d6:Option V),2 g3 [some c2,27 b6.2,3 a9,d4,d5,d6] (39 d3) (`q d3.G g2 c2)) (ay<|cD (40<|76 `aC aQ) ag) `at ?_ ?_ ?_
   ·intro d7 g4 a7 c3 hq;have a0:=a7.g;have E0:=E0.trans a7;have a6:=Gm a7.g a6;refine 62 (II<|iT (aV a6) bW) λg5 hq c4 j8 c5 a1=>?_
    have E0:=E0.trans c5;have a0:=a0.trans c5.g;have a6:=Gm c5.g a6;refine rB (Er:=Er) (f:=Cv a9 g5) (s0:=d2) (Iv:=λ(g6:Cd)(d8:Wd)(g7:St)=>∃(b2:V)(b7:Option V)(c6:Option V),2 g7 [some b2,27 b6.2,3 a9,some c4,c6,b7] (39 d8) (`q d8.G g6 b2)) (lJ ag) `at ?_ ?_ ?_
    ·intro j9 b8;have E0:=E0.trans b8;have a0:=a0.trans b8.g;have a6:=Gm b8.g a6;have a1:=10 b8.g;exact⟨_,_,_,`a,E0,a6⟩
    ·intro k0 k1 k2 d9 k3 g8 k4 k5 e0 a3 iv b3 g9 hq;obtain⟨b2,b7,c6,rfl,E0,a2⟩:=iv;have a0:=a0.trans e0;have a1:=10 e0;have E0:=E0.trans b3;have a0:=a0.trans b3.g;have a3:=a3.trans b3.g;have a1:=10 b3.g;have a2:=Gm b3.g a2;cases g9;refine gn (σ':=[some b2,27 b6.2,3 a9,some c4,3 d9,b7]) ?_;unfold Cv at hq;refine oK (Er:=Er) (Iv:=λ(h0:Cd)(e1:Wd)(h1:St)=>∃(c7:V)(e3:Option V),2 h1 [some c7,27 b6.2,3 a9,some c4,3 d9,e3] (39 e1) (`q e1.G h0 c7)) (ay<|lL aQ<|Kd `aT) `at ?_ ?_ ?_
     ·intro e4 h2 a4 c8 hq;have b4:=a4.g;have E0:=`bO;have a0:=a0.trans a4.g;have a3:=a3.trans a4.g;have a1:=10 a4.g;have a2:=Gm a4.g a2;refine 62 (cJ (29 (x:=Gy "abcdefghijklmnopqrstuvwxyz") (l:=[97,98,99,100,101,102,103,104,105,106,107,108,109,110,111,112,113,114,115,116,117,118,119,120,121,122]) _ _)<|40<|aZ (76 `aC aQ)<|lH ag aQ) λk6 hq k7 k8 b1 h3=>?_
      cases h3;have E0:=E0.trans b1;have a0:=a0.trans b1.g;have a3:=a3.trans b1.g;have b4:=b4.trans b1.g;have a1:=10 b1.g;have a2:=Gm b1.g a2;refine 70 (dC (K:=K) (bB (f:=λ(b:Cd)=>b.1) oG<|aV a2) (cq (cq (cH (bB (f:=λ(b:Cd)=>b.2.1) kP<|aV a2) fb<|dA aQ) bW)<|cH (bB (f:=λ(b:Cd)=>b.2.1) kP<|aV a2) (dA<|aZ aQ ag) fb)<|bB (f:=λ(b:Cd)=>b.2.2) mO<|aV a2) (36 λh4 hq k9 h5 b5 h6=>?_);have E0:=E0.trans b5;have a0:=a0.trans b5.g;have a3:=a3.trans b5.g;have b4:=b4.trans b5.g;have a1:=10 b5.g;exact c8 h4 h5 _ b4 ⟨_,_,`a,E0,h6⟩ hq
     ·intro e4 h2 a4 c8 hq;have h7:=a4.g;have E0:=`bO;have a0:=a0.trans a4.g;have a3:=a3.trans a4.g;have a1:=10 a4.g;have a2:=Gm a4.g a2
      try dsimp only[az]
      exact c8 g8 e4 _ h7 ⟨_,_,`a,E0,a2⟩ hq
     ·intro h8 h9 l0 c9 iv hq;obtain⟨c7,e3,rfl,E0,i0⟩:=iv;have a0:=a0.trans c9;have a3:=a3.trans c9;have a1:=10 c9
      try dsimp only
      refine cV (W:=h9) h8 a3 ?_ hq;exact⟨_,_,_,`a,E0,i0⟩
    ·intro i1 i2 l1 i3 iv hq;obtain⟨b2,b7,c6,rfl,E0,a2⟩:=iv;have a0:=a0.trans i3;exact c3 i1 i2 _ a0 ⟨_,_,_,_,`a,E0,a2⟩ hq
   ·intro d7 g4 a7 c3 hq;have i4:=a7.g;have E0:=E0.trans a7;have a6:=Gm a7.g a6
    try dsimp only[az]
    exact c3 d2 d7 _ i4 ⟨_,_,_,_,`a,E0,a6⟩ hq
   ·intro l2 l3 l4 l5 iv hq;obtain⟨c2,d4,d5,d6,rfl,E0,i5⟩:=iv;exact 31 (105 (aV i5) bW) λi6 i7 i8 i9=>46 i6 i7 i8 i9
theorem FQ{f:Addr}{fd:GV}(F:54 K "_law_case" "_law_case" 64 f fd){yO:`c->Res Cd}{i7:`P->`c->`H}{rZ:`c->`c->`I}{sd:64 Cd Tx `h}{zT:64 `h `c `h}{zU:`h->`c->Bool->Res `h}{zZ:Cd->Tx->`c->Res (Cd×Tx)}(e4:Cal P w K mg `d "_law_card" ["_law_cell"] (3) (fz isI (rs `q) yO))(a9:Cal P w K mg `d "_law_at" ["_law_script","_law_k"] (1) (73 (isScr K) isI isI i7))(f9:Cal P w K mg `d "_law_turns" `ch (2) (73 isI isI isS rZ))(g0:Cal P w K mg `d "_law_places" `cd (3) (bM `q isS (ro `aA) sd))(g1:Cal P w K mg `d "_law_long" ["_law_places_here","_law_cell"] (2) (bM (qD K) isI (ro `aA) zT))(g2:Cal P w K mg `d "_law_marks" ["_law_places_here",`bx,"_law_lies"] (2) (eX (qD K) isI isB (ro `aA) zU))(g3:Cal P w K mg `d "_law_kin" [`aQ,"_law_turns_here",`bx] (4) (eX `q isS isI (rs<|45 `q isS) zZ)):FnOk P w K mg `d CX0 (5) f fd ["_law_script","_law_most"] (73 (isScr K) isI (isT3 K `q (qD K) isI)<|Eh yO i7 rZ sd zT zU zZ):=by
 have SC:55 ["_law_script","_law_most",`aQ,"_law_size",`bx,"_law_many","_law_turns_here","_law_places_here",`bs,"_law_side"] ["_law_script","_law_most"] 64:=by walk_at "F"
 refine 63 SC ?_ ?_;·obtain⟨_,_,_,_,_,_,rfl,_⟩:=h;rfl
 ·obtain⟨W0,l8,b1,b2,_,rfl,rfl,a0,g4,Er,hq⟩:=h;cases g4;refine 52 (83 2 (cW e4<|19<|cW a9<|79 0<|19 aa) (cO 3<|cW a9<|79 0<|19 aa)<|83 4 (cW a9<|79 0<|19 aa) (cO 5<|ah aI (pv 3)<|18 bz 1)<|ae (aY (23 bS (56 aI<|18 bg 3) aa) (af<|cO 5<|ah bz aa<|56 aI<|18 bg 3) aA)<|ae (aY (23 bS (56 aI<|18 bg 3) aa) (af<|cO 5<|ah bz aa<|56 aI<|18 bg 3) aA)<|83 6 (cW f9<|a5 (cW a9<|79 0<|19 aa)<|16 5) (cO 7<|84 g0 2 6 a8)<|ae (aY (23 pE (pv 5) `aD) (af<|cO 8<|84 g1 7 4 a8)<|af<|cO 8<|cW g2<|79 7<|53 (18 bg 4)<|cM bS (18 aI 4) aa<|ax _)<|ae (cO 9<|56 bg<|cW a9<|79 0<|19 aa)<|ae (aY (23 bS (18 aI 9) aa) (af<|cO 2<|aJ `ao (84 g3 2 6<|19<|18 bg 9) aa `ah) aA)<|ae (aY (23 bS (18 aI 9) aa) (af<|cO 2<|cW e4<|19<|18 bg 9) aA)<|47<|bt<|65 2 8<|19<|56 aI<|cW a9<|79 0<|19 aa)
  have E0:`Z:=`Y;unfold Eh at hq;refine 62 (dJ<|aT `J ag) λy4 hq v5 W1 e2 h6=>?_
  have E0:=`bb;have a0:=4 e2.g;refine 62 (aT `J ag) λy9 hq l9 W7 e8 g5=>?_
  cases g5;have E0:=E0.trans e8;have a0:=4 e8.g;have h6:=Gm e8.g h6;refine 62 (aT `J ag) λb3 hq m0 m1 c3 g6=>?_
  cases g6;have E0:=E0.trans c3;have a0:=4 c3.g;have h6:=Gm c3.g h6;refine 62 (gd aQ<|aZ aQ ag) λg7 hq m2 m3 c4 g8=>?_
  cases g8;have E0:=E0.trans c4;have a0:=4 c4.g;have h6:=Gm c4.g h6;refine 129 (Iv:=λ(g9:Int)(h0:Wd)(h1:St)=>h1=[some b2,3 b1,some v5,3 y9,3 b3,3 g9,none,none,none,none]/\39 h0) (ay<|cD (40<|76 `aC aQ) ag) `at ?_ ?_ ?_
  ·intro e5 h2 a6 c5 hq;have c6:=a6.g;have E0:=E0.trans a6;have a0:=4 a6.g;have h6:=Gm a6.g h6;refine 70 (aZ ag<|40<|76 `aC aQ) λm4 h3 b6 h4=>?_;cases h4;have E0:=E0.trans b6;have c6:=c6.trans b6.g;have a0:=4 b6.g;have h6:=Gm b6.g h6;exact c5 ((25:Int)+((y9/78)%36)) h3 _ c6 (15 E0) hq
  ·intro e5 h2 a6 c5 hq;have h5:=a6.g;have E0:=E0.trans a6;have a0:=4 a6.g;have h6:=Gm a6.g h6
   try dsimp only[az]
   exact c5 g7 e5 _ h5 (15 E0) hq
  ·intro h7 m5 m6 e6 iv hq;obtain⟨rfl,E0⟩:=iv;have a0:=4 e6;have h6:=Gm e6 h6;refine 129 (Iv:=λ(h8:Int)(h9:Wd)(i0:St)=>i0=[some b2,3 b1,some v5,3 y9,3 b3,3 h8,none,none,none,none]/\39 h9) (ay<|cD (40<|76 `aC aQ) ag) `at ?_ ?_ ?_
   ·intro e7 i1 a7 c7 hq;have c8:=a7.g;have E0:=E0.trans a7;have a0:=4 a7.g;have h6:=Gm a7.g h6;refine 70 (aZ ag<|40<|76 `aC aQ) λm7 i2 b7 i3=>?_;cases i3;have E0:=E0.trans b7;have c8:=c8.trans b7.g;have a0:=4 b7.g;have h6:=Gm b7.g h6;exact c7 ((13:Int)+((y9/78)%12)) i2 _ c8 (15 E0) hq
   ·intro e7 i1 a7 c7 hq;have i4:=a7.g;have E0:=E0.trans a7;have a0:=4 a7.g;have h6:=Gm a7.g h6
    try dsimp only[az]
    exact c7 h7 e7 _ i4 (15 E0) hq
   ·intro c9 m8 m9 e9 iv hq;obtain⟨rfl,E0⟩:=iv;have a0:=4 e9;have h6:=Gm e9 h6;refine 62 (aT (aT `J ag) aQ) λd0 hq n0 n1 d1 i5=>?_
    cases i5;have E0:=E0.trans d1;have a0:=4 d1.g;have h6:=Gm d1.g h6;refine 62 (II<|iT (aV h6) bW) λn2 hq d2 n3 d3 b0=>?_
    have E0:=E0.trans d3;have a0:=4 d3.g;have h6:=Gm d3.g h6;refine 129 (Iv:=λ(i6:(List Pl))(f0:Wd)(i8:St)=>∃(b4:V),2 i8 [some b2,3 b1,some v5,3 y9,3 b3,3 c9,27 d0,some d2,some b4,none] (39 f0) ((qD K) f0.G i6 b4)) (ay<|cG aQ aQ) `at ?_ ?_ ?_
    ·intro i9 j0 a2 d4 hq;have d5:=a2.g;have E0:=E0.trans a2;have a0:=4 a2.g;have h6:=Gm a2.g h6;have b0:=Gm a2.g b0;refine 70 (II<|iT (aV b0) aQ) (36 λj1 hq n4 j2 b8 j3=>?_);have E0:=E0.trans b8;have d5:=d5.trans b8.g;have a0:=4 b8.g;have h6:=Gm b8.g h6;exact d4 j1 j2 _ d5 ⟨_,`a,E0,j3⟩ hq
    ·intro i9 j0 a2 d4 hq;have d6:=a2.g;have E0:=E0.trans a2;have a0:=4 a2.g;have h6:=Gm a2.g h6;have b0:=Gm a2.g b0;refine 70 (II<|fT (aV b0) (76 `aC aQ)<|cD (40 aQ) ag) (36 λj4 hq n5 j5 b9 j6=>?_);have E0:=E0.trans b9;have d6:=d6.trans b9.g;have a0:=4 b9.g;have h6:=Gm b9.g h6;exact d4 j4 j5 _ d6 ⟨_,`a,E0,j6⟩ hq
    ·intro n6 n7 n8 f1 iv hq;obtain⟨b4,rfl,E0,a1⟩:=iv;have a0:=4 f1;have h6:=Gm f1 h6;refine 62 (76 `aC<|aT `J ag) λf2 hq n9 o0 c0 j7=>?_
     cases j7;have E0:=E0.trans c0;have a0:=4 c0.g;have h6:=Gm c0.g h6;have a1:=10 c0.g;refine 129 (Iv:=λ(j8:Cd)(f3:Wd)(j9:St)=>∃(d7:V),2 j9 [some b2,3 b1,some d7,3 y9,3 b3,3 c9,27 d0,some d2,some b4,3 f2] (39 f3) (`q f3.G j8 d7)) (ay<|cD (40 aQ) ag) `at ?_ ?_ ?_
     ·intro f4 k0 a3 d8 hq;have d9:=a3.g;have E0:=E0.trans a3;have a0:=4 a3.g;have h6:=Gm a3.g h6;have a1:=10 a3.g;refine 70 (bB (f:=λ(b:Cd×Tx)=>b.1) Bv<|eM (aV h6) bW<|76 `aC aQ) (36 λk1 hq o1 k2 c1 k3=>?_);have E0:=E0.trans c1;have d9:=d9.trans c1.g;have a0:=4 c1.g;have a1:=10 c1.g;exact d8 k1 k2 _ d9 ⟨_,`a,E0,k3⟩ hq
     ·intro f4 k0 a3 d8 hq;have k4:=a3.g;have E0:=E0.trans a3;have a0:=4 a3.g;have h6:=Gm a3.g h6;have a1:=10 a3.g
      try dsimp only[az]
      exact d8 y4 f4 _ k4 ⟨_,`a,E0,h6⟩ hq
     ·intro k5 o2 o3 f5 iv hq;obtain⟨d7,rfl,E0,b5⟩:=iv;have a0:=4 f5;have a1:=10 f5;refine 129 (Iv:=λ(k6:Cd)(f6:Wd)(k7:St)=>∃(e0:V),2 k7 [some b2,3 b1,some e0,3 y9,3 b3,3 c9,27 d0,some d2,some b4,3 f2] (39 f6) (`q f6.G k6 e0)) (ay<|cD (40 aQ) ag) `at ?_ ?_ ?_
      ·intro f7 k8 a4 e1 hq;have e3:=a4.g;have E0:=`bO;have a0:=4 a4.g;have a1:=10 a4.g;have b5:=Gm a4.g b5;refine 70 (dJ<|76 `aC aQ) (36 λk9 hq o4 l0 c2 l1=>?_);have E0:=E0.trans c2;have e3:=e3.trans c2.g;have a0:=4 c2.g;have a1:=10 c2.g;exact e1 k9 l0 _ e3 ⟨_,`a,E0,l1⟩ hq
      ·intro f7 k8 a4 e1 hq;have l2:=a4.g;have E0:=`bO;have a0:=4 a4.g;have a1:=10 a4.g;have b5:=Gm a4.g b5
       try dsimp only[az]
       exact e1 k5 f7 _ l2 ⟨_,`a,E0,b5⟩ hq
      ·intro o5 o6 o7 f8 iv hq;obtain⟨e0,rfl,E0,l3⟩:=iv;have a0:=4 f8;have a1:=10 f8;exact 31 (dC (K:=K) (aV l3) `aT<|40<|aT `J ag) (Hi hq λo8 hq l4 l5 l6 l7=>46 l4 l5 l6 l7)
theorem FR{f:Addr}{fd:GV}(F:54 K "_law_faded" "_law_faded" 71 f fd){iY:`c->`c->`c->`aY}(a9:Cal P w K mg `d "_law_row" `ce (1) (eX isI isI isI (ro isI) iY))(a3:28 "len")(b0:28 "zip"):FnOk P w K mg `d CX0 (2) f fd ["_law_strip","_law_cell"] (73 (qD K) isI (qD K)<|Ei iY):=by
 have SC:55 [`bs,`bx,"_law_draws","_law_worn"] ["_law_strip","_law_cell"] 71:=by walk_at "F"
 refine 63 SC ?_ ?_;·obtain⟨_,_,_,_,_,_,rfl,_⟩:=h;rfl
 ·obtain⟨W0,c6,a4,a6,_,rfl,rfl,a0,b1,Er,hq⟩:=h;cases b1
  refine 52 (ae (77 (Ld<|gJ (23 i9 (87 (126 `a) a3 HJ<|16 0) aa)<|gW<|23 ir (18 aI 1) aa) `aE aA)<|ae (cO 2<|cW a9<|a5 (18 bg 1)<|53 (87 (126 `a) a3 HJ<|16 0) aa)<|ae (cO 3<|bt<|a5 aL<|53 aL aL)<|47<|fo (N:=["_law_mark","_law_d","_law_worn"]) (cap:=[none,none,some 3]) (j6 `a ⋯ `a ⋯ `T `T) `a (fG (K:=K) `a `a b0<|65 0 2 a8) (λ_ _ _ _=>113 (n:=2) `a `a<|ar (bC (i:=0) (show Ig (["_law_mark","_law_d","_law_worn"]:`y) by decide +kernel) `a (by walk_at "L"))<|ar (bC (i:=1) (show Ig (["_law_mark","_law_d","_law_worn"]:`y) by decide +kernel) `a (by walk_at "L")) bI) `bR λ_ _ _ _=>gK (23 pE `aD aa) (pv 2) `aE)
  have E0:`Z:=`Y;rw[show L2.start [`bs,`bx,"_law_draws","_law_worn"] [a6,.int a4]=[some a6,3 a4,none,none]from rfl];unfold Ei at hq;refine 119 (jz (ay<|cG (fL<|Kd `J) ag)<|ay<|wC (40 aQ) ag) (36 λy1 hq W2 e3=>?_);have E0:=E0.trans e3;have a0:=4 e3.g;by_cases a7:1 y1
  ·rw[Z3 a7]at hq ⊢;exact 31 `J λv4 W5 e6 h7=>46 v4 W5 e6 h7
  ·rw[Z4 a7]at hq ⊢
   try dsimp only[az]
   refine 62 (II<|fT (76 `aC aQ) (fL<|Kd `J) ag) λc7 hq c8 W8 e9 a1=>?_
   have E0:=E0.trans e9;have a0:=4 e9.g;refine bh (70 (dC (K:=K) (29 (x:=Gy "?") (l:=[63]) _ _) (29 (x:=Gy "?") (l:=[63]) _ _)<|29 (x:=Gy "?") (l:=[63]) _ _) λb2 c9 a2 b3=>?_)
   have E0:=E0.trans a2;have a0:=4 a2.g;have a1:=10 a2.g;exact 31 (II (fM (iD (gi `J)<|gi `aT) λd0 b4 d1 b5 b6 d2 b7=>by
    have b8:=Ke (R:=sh `aA) b5 b3;refine i4 b6 λb9 d3 c0 c1=>?_;cases c1;exact 133 (((nA (ay<|cG aQ ag) (aV b8)<|aV c0):EV Er _ [some b9,3 b4.2,some b2] _ _ _) _ `s _ b7))) (Hi hq λd4 hq c2 c3 c4 c5=>46 c2 c3 c4 c5)
theorem FT{f:Addr}{fd:GV}(F:54 K "within" "within" 34 f fd)(a0:28 "abs"):FnOk P w K mg `d CX0 (1) f fd ["state","loose","bound"] (eX `aB isI isI (rs isB) Ej):=by
 have SC:55 ["state",`ak,`al,"twist","idle"] ["state","loose","bound"] 34:=by walk_at "F"
 refine 63 SC ?_ ?_;·obtain⟨_,_,_,_,_,_,_,_,rfl,_⟩:=h;rfl
 ·obtain⟨W0,state,loose,bound,b0,_,_,rfl,rfl,a1,a2,a3,Er,hq⟩:=h;cases a2;cases a3;refine 52 (ae (fD `aE<|113 (n:=2) `a `a<|72 3<|72 4 bI)<|47<|fC (cM w5 (87 lj a0 LY<|16 3) (pv 2)<|ax _)<|gE<|cM w5 (pv 4) `aD<|ax _)
  have E0:`Z:=`Y;unfold Ej at hq;refine eN (Er:=Er) `aT λv1 W2 e3 h4=>?_;have E0:=E0.trans e3;refine i4 h4 λv5 v7 h6 h8=>?_;cases h6;cases h8;exact 31 (oF (cG (rq aQ) aQ)<|cG aQ aQ) (Hi hq λy9 hq a4 a6 a7 a9=>46 a4 a6 a7 a9)
theorem FU{f:Addr}{fd:GV}(F:54 K "twisting" "twisting" 21 f fd){a1:Addr}(a2:90 "STEPS" a1)(a3:DictK K w a1 [(Kq (Gy "f"),.int 1),(Kq (Gy "b"),.int<|-1),(Kq (Gy "i"),.int 0)]):FnOk P w K mg `d CX0 (1) f fd `cb (73 `q isS isI Ek):=by
 have SC:55 ["tablet","turn","step"] `cb 21:=by walk_at "F"
 refine 63 SC ?_ ?_;·obtain⟨_,_,_,_,_,_,rfl,_⟩:=h;rfl
 ·obtain⟨W0,tablet,turn,a6,_,rfl,rfl,a0,a4,Er,hq⟩:=h;cases a4
  refine 52 (ae (cO 2<|nu (K:=K) (w:=w) `a `a (91 (v:=.ref _) a2 `a) `aD `ah)<|47<|gK (23 bS (26 `ao 0 aa) aL) (pv 2)<|kE iq<|pv 2)
  have E0:`Z:=`Y;unfold Ek at hq;refine 62 (uP a3 ⋯ bW) λy3 hq v4 W1 e2 h5=>?_
  cases h5;have E0:=`bb;have a0:=4 e2.g;exact 31 (nA (ay<|jq (bB (f:=λ(b:Cd)=>b.1) oG `J)<|29 (x:=Gy "S") (l:=[83]) _ _) aQ<|jo aQ) (Hi hq λy6 hq v7 W8 e9 a5=>46 v7 W8 e9 a5)
theorem FV{f:Addr}{fd:GV}(F:54 K "state_behind" "state_behind" 33 f fd){se:Cd->Tx->`H}(a1:Cal P w K mg `d "twisting" `cb (1) (73 `q isS isI se)):FnOk P w K mg `d CX0 (2) f fd ["tablet","state","turn"] (eX `q `aB isS (rs `aB)<|El se):=by
 have SC:55 [`ab,"state","turn","twist","idle"] ["tablet","state","turn"] 33:=by walk_at "F"
 refine 63 SC ?_ ?_;·obtain⟨_,_,_,_,_,_,_,_,rfl,_⟩:=h;rfl
 ·obtain⟨W0,tablet,state,turn,b0,b1,_,rfl,rfl,a0,a2,a3,Er,hq⟩:=h;cases a3;refine 52 (ae (fD `aD<|113 (n:=2) `a `a<|72 3<|72 4 bI)<|47<|bt<|53 (ah bz (pv 3)<|84 a1 0 2 a8)<|gK (23 bS (pv 2) aL) (18 bz 4) aa)
  have E0:`Z:=`Y;unfold El at hq;refine eN (Er:=Er) (aV a2) λv1 W2 e3 h4=>?_;have E0:=E0.trans e3;have a0:=4 e3.g;refine i4 h4 λv5 v7 h6 h8=>?_;cases h6;cases h8;exact 31 (105 (aZ aQ<|aT `J bW)<|nA (ay<|jq bW<|29 (x:=Gy "i") (l:=[105]) _ _) (aZ aQ ag) ag) (Hi hq λb2 hq a4 a6 a7 a9=>46 a4 a6 a7 a9)
theorem FW{f:Addr}{fd:GV}(F:54 K "twisted" "twisted" 32 f fd){a0:Tok}(a1:0 (mg "HOLES") (.int 4 a0)):FnOk P w K mg `d CX0 (1) f fd ["tablet","twist"] (73 `q isI `q Em):=by
 have SC:55 [`ab,"twist","lay","holes","stand"] ["tablet","twist"] 32:=by walk_at "F"
 refine 63 SC ?_ ?_;·obtain⟨_,_,_,_,_,_,rfl,_⟩:=h;rfl
 ·obtain⟨W0,tablet,twist,b1,_,rfl,rfl,a2,a3,Er,hq⟩:=h;cases a3;refine 52 (ae (fD `aE<|113 (n:=3) `a `a<|72 2<|72 3<|72 4 bI)<|47<|bt<|65 2 3<|19<|ah aI (gK (23 bS (pv 2) aL) (ah bz (pv 4) `aD)<|ah ip (pv 4) `aD)<|91 (v:=.int 4) a1 `au)
  have E0:`Z:=`Y;unfold Em at hq;refine eN (Er:=Er) (aV a2) λv1 W2 e3 h4=>?_;have E0:=E0.trans e3;refine uN h4 λv5 v7 v9 h6 h8 a4=>?_;cases h6;cases h8;cases a4;exact 31 (dC (K:=K) bW bW<|40<|nA (ay<|jq bW<|29 (x:=Gy "S") (l:=[83]) _ _) (aZ aQ aQ)<|aZ aQ aQ) (Hi hq λb2 hq a6 a7 a9 b0=>46 a6 a7 a9 b0)
theorem DJ{f:Addr}{fd:GV}(F:54 K "top" "top" 19 f fd){a0:Tok}(a1:0 (mg "HOLES") (.int 4 a0)):FnOk P w K mg `d CX0 (1) f fd ["tablet"] (fz `q (rs isS) tY):=by
 have SC:55 ["tablet","lay","holes","stand"] ["tablet"] 19:=by walk_at "F"
 refine 63 SC ?_ ?_;·obtain⟨_,_,_,_,rfl,_⟩:=h;rfl
 ·obtain⟨W0,tablet,a8,rfl,rfl,a2,Er,hq⟩:=h;refine 52 (ae (fD `aE<|113 (n:=3) `a `a<|72 1<|72 2<|72 3 bI)<|47<|26 cI 2<|ah aI (pv 3)<|91 (v:=.int 4) a1 `au)
  have E0:`Z:=`Y;unfold tY at hq;refine eN (Er:=Er) (aV a2) λv1 W2 e3 h4=>?_;have E0:=E0.trans e3;refine uN h4 λv5 v7 v9 h6 h8 a3=>?_;cases h6;cases h8;cases a3;exact 31 (cJ bW<|40 aQ) (Hi hq λa9 hq a4 a5 a6 a7=>46 a4 a5 a6 a7)
theorem FX{f:Addr}{fd:GV}(F:54 K "bottom" "bottom" 20 f fd){a0:Tok}(a1:0 (mg "HOLES") (.int 4 a0)):FnOk P w K mg `d CX0 (1) f fd ["tablet"] (fz `q (rs isS) En):=by
 have SC:55 ["tablet","lay","holes","stand"] ["tablet"] 20:=by walk_at "F"
 refine 63 SC ?_ ?_;·obtain⟨_,_,_,_,rfl,_⟩:=h;rfl
 ·obtain⟨W0,tablet,a8,rfl,rfl,a2,Er,hq⟩:=h;refine 52 (ae (fD `aE<|113 (n:=3) `a `a<|72 1<|72 2<|72 3 bI)<|47<|26 cI 2<|ah aI (18 bz 3)<|91 (v:=.int 4) a1 `au)
  have E0:`Z:=`Y;unfold En at hq;refine eN (Er:=Er) (aV a2) λv1 W2 e3 h4=>?_;have E0:=E0.trans e3;refine uN h4 λv5 v7 v9 h6 h8 a3=>?_;cases h6;cases h8;cases a3;exact 31 (cJ bW<|40<|aZ aQ ag) (Hi hq λa9 hq a4 a5 a6 a7=>46 a4 a5 a6 a7)
theorem FY{f:Addr}{fd:GV}(F:54 K "left_place" "left_place" 25 f fd){jM:Cd->`I}{A1:Cd->`I}{se:Cd->Tx->`H}(C_top:Cal P w K mg `d "top" ["tablet"] (1) (fz `q (rs isS) jM))(a2:Cal P w K mg `d "bottom" ["tablet"] (1) (fz `q (rs isS) A1))(a3:Cal P w K mg `d "twisting" `cb (1) (73 `q isS isI se)){a1:Addr}(a4:90 "SLANTS" a1)(a6:DictK K w a1 [(Kp 1,.str (Gy "s")),(Kp<|-1,.str (Gy "z")),(Kp 0,.str (Gy "o"))]):FnOk P w K mg `d CX0 (2) f fd `cb (73 `q isS `aA<|Eo jM A1 se):=by
 have SC:55 `cb `cb 25:=by walk_at "F"
 refine 63 SC ?_ ?_;·obtain⟨_,_,_,_,_,_,rfl,_⟩:=h;rfl
 ·obtain⟨W0,tablet,turn,a9,_,rfl,rfl,a0,a7,Er,hq⟩:=h;cases a7;refine 52 (47<|bt<|a5 (cW C_top<|16 0)<|53 (cW a2<|16 0)<|nu (K:=K) (w:=w) `a `a (91 (v:=.ref _) a4 `a) (84 a3 0 1 a8) `ah);have E0:`Z:=`Y;unfold Eo at hq;exact 31 (dC (K:=K) (dJ `J) (dJ `J)<|uQ a6 ⋯<|aT `J bW) (Hi hq λy5 hq v6 W7 e8 h9=>46 v6 W7 e8 h9)
theorem FZ{f:Addr}{fd:GV}(F:54 K "suits" "suits" 29 f fd){a0:Tok}(a1:0 (mg "WORN") (.str (Gy "?") a0)):FnOk P w K mg `d CX0 (1) f fd ["sign","left"] (73 isS isS isB Ep):=by
 have SC:55 ["sign","left"] ["sign","left"] 29:=by walk_at "F"
 refine 63 SC ?_ ?_;·obtain⟨_,_,_,_,_,_,rfl,_⟩:=h;rfl
 ·obtain⟨W0,sign,left,_,_,rfl,rfl,a2,a3,Er,hq⟩:=h;cases a2;cases a3;refine 52 (47<|CF (cM bS `aD (91 (v:=.str (Gy "?")) a1 `au)<|ax _)<|gE<|cM bS `aD `aE<|ax _);have E0:`Z:=`Y;unfold Ep at hq;exact 31 (D0 (jq bW<|29 (x:=Gy "?") (l:=[63]) _ _)<|jq bW bW) (Hi hq λy1 hq v2 W3 e4 h5=>46 v2 W3 e4 h5)
theorem G0{f:Addr}{fd:GV}(F:54 K "agrees" "agrees" 28 f fd){yQ:Tx->Tx->`x}(a3:Cal P w K mg `d "suits" ["sign","left"] (1) (73 isS isS isB yQ))(a4:28 "all")(a6:28 "zip"):FnOk P w K mg `d CX0 (2) f fd ["place","mark"] (73 `aA `aA isB<|Es yQ):=by
 have SC:55 ["place","mark"] ["place","mark"] 28:=by walk_at "F"
 refine 63 SC ?_ ?_;·obtain⟨_,_,_,_,_,_,rfl,_⟩:=h;rfl
 ·obtain⟨W0,place,mark,a0,a2,rfl,rfl,a7,a9,Er,hq⟩:=h;refine 52 (47<|87 (nF (K:=K) `a `a) a4 NV<|19<|fo (N:=["sign","left"]) (cap:=[none,none]) (j6 `a ⋯ `a ⋯ `T `T) `a (fG (K:=K) `a `a a6<|65 0 1 a8) (λ_ _ _ _=>113 (n:=2) `a `a<|ar (bC (i:=0) (show Ig (["sign","left"]:`y) by decide +kernel) `a (by walk_at "L"))<|ar (bC (i:=1) (show Ig (["sign","left"]:`y) by decide +kernel) `a (by walk_at "L")) bI) `bR λ_ _ _ _=>84 a3 0 1 a8);have E0:`Z:=`Y;rw[show L2.start ["place","mark"] [a0,a2]=[some a0,some a2]from rfl];unfold Es at hq;exact 31 (wK<|Ll (fM (f:=λ(a1:Tx×Tx)=>yQ a1.1 a1.2) (iD (kT<|aV a7)<|kT<|aV a9) λW3 a1 v2 e4 h5 b5 b0=>by
   refine i4 h5 λv6 v8 h7 h9=>?_;cases h7;cases h9;exact 133 (((aT bW bW):EV Er _ [27 a1.1,27 a1.2] _ _ _) _ `s _ b0))) (Hi hq λb6 hq b1 b2 b3 b4=>46 b1 b2 b3 b4)
theorem G1{f:Addr}{fd:GV}(F:54 K "leaves" "leaves" 35 f fd){A3:Pl->Pl->`x}{A2:64 Cd Tx Pl}{A0:64 Cd `c Cd}(a0:Cal P w K mg `d "agrees" ["place","mark"] (2) (73 `aA `aA isB A3))(a1:Cal P w K mg `d "left_place" `cb (2) (73 `q isS `aA A2))(a2:Cal P w K mg `d "twisted" ["tablet","twist"] (1) (73 `q isI `q A0)):FnOk P w K mg `d CX0 (3) f fd `ci (iC `q `aB isS `aA (rs isB)<|Et A3 A2 A0):=by
 have SC:55 `ci `ci 35:=by walk_at "F"
 refine 63 SC ?_ ?_;·obtain⟨_,_,_,_,_,_,_,_,_,_,rfl,_⟩:=h;rfl
 ·obtain⟨W0,tablet,state,turn,mark,a9,b0,_,b1,rfl,rfl,a3,a4,a6,a7,Er,hq⟩:=h;cases a6;refine 52 (47<|cW a0<|a5 (cW a1<|a5 (cW a2<|79 0<|19<|26 `ao 1 aa)<|16 2)<|16 3);have E0:`Z:=`Y;unfold Et at hq;exact 31 (aT (aT (aT (aV a3)<|bB (f:=λ(b:Ii)=>b.1) Bv<|aV a4) bW)<|aV a7) (Hi hq λy3 hq v4 W5 e6 h7=>46 v4 W5 e6 h7)
theorem G2{f:Addr}{fd:GV}(F:54 K "onward" "onward" 36 f fd){jc:Cd->Ii->Tx->Res Ii}{jL:Ii->`c->`c->`x}{mH:20 Cd Ii Tx Pl `x}(b5:Cal P w K mg `d "state_behind" ["tablet","state","turn"] (2) (eX `q `aB isS (rs `aB) jc))(b6:Cal P w K mg `d "within" ["state","loose","bound"] (1) (eX `aB isI isI (rs isB) jL))(b7:Cal P w K mg `d "leaves" `ci (3) (iC `q `aB isS `aA (rs isB) mH)){b8:Tok}(b9:0 (mg "TURNS") (.str (Gy "fbi") b8)):FnOk P w K mg `d CX0 (4) f fd [`ab,"mark",`ak,`al,"state"] (gh `q `aA isI isI `aB (ro<|45 isS `aB)<|Eu jc jL mH):=by
 have SC:55 [`ab,"mark",`ak,`al,"state","moves"] [`ab,"mark",`ak,`al,"state"] 36:=by walk_at "F"
 refine 63 SC ?_ ?_;·obtain⟨_,_,_,_,_,_,_,_,_,_,_,_,rfl,_⟩:=h;rfl
 ·obtain⟨W0,tablet,mark,loose,bound,state,a1,a2,_,_,a6,rfl,rfl,a4,a7,c0,c1,c2,Er,hq⟩:=h;cases c0;cases c1
  refine 52 (ae (rk (i:=5) SC.nd `a (by walk_at "L") (N:=["turn",`ab,"state"]) (cap:=[none,some 0,some 4]) (j6 `a ⋯ `a ⋯ `T `T) `a (jY<|91 (v:=.str (Gy "fbi")) b9 `au) (λ_ _ _ _=>(bC (i:=0) (show Ig (["turn",`ab,"state"]:`y) by decide +kernel) `a (by walk_at "L"))) `bR λ_ _ _ _=>bt<|79 0<|19<|84 b5 1 2<|16 0)<|47<|fo (N:=["turn","after",`ak,`al,`ab,"mark"]) (cap:=[none,none,some 2,some 3,some 0,some 1]) (j6 `a ⋯ `a ⋯ `T `T) `a (d4 (K:=K) `a<|pv 5) (λ_ _ _ _=>113 (n:=2) `a `a<|ar (bC (i:=0) (show Ig (["turn","after",`ak,`al,`ab,"mark"]:`y) by decide +kernel) `a (by walk_at "L"))<|ar (bC (i:=1) (show Ig (["turn","after",`ak,`al,`ab,"mark"]:`y) by decide +kernel) `a (by walk_at "L")) bI) (λ_ _ _ _=>oA<|Ld<|dw (bN<|84 b6 1 2<|16 3)<|dg<|bN<|84 b7 4 1<|65 0 5 a8) λ_ _ _ _=>bt<|65 0 1 a8)
  have E0:`Z:=`Y;rw[show L2.start [`ab,"mark",`ak,`al,"state","moves"] [a1,a2,.int loose,.int bound,a6]=[some a1,some a2,3 `e,3 `f,some a6,none]from rfl];unfold Eu at hq;refine 62 (II (fM (f:=λ(a3:Tx)=>(jc `aa state a3).bind λc3=>Gw (a3,c3)) (k9<|29 (x:=Gy "fbi") (l:=[102,98,105]) _ _) λW5 a3 v4 e6 h7 e4 c4=>by
   have h8:=Ke (R:=sh `q) e6 a4;have h9:=Ke (R:=sh `aB) e6 c2;cases h7;refine gn ?_;exact 133 (((105 bW<|eM (aV h8) (aV h9) bW):EV Er _ [27 a3,some a1,some a6] _ _ _) _ `s _ c4))) λe5 hq e7 W1 e2 c5=>?_
  have E0:=`bb;have a4:=Gm e2.g a4;have a7:=Gm e2.g a7;exact jA (Er:=Er) (lK (f:=λ(a0:Tx×Ii)=>((jL a0.2 `e `f).bind λc6=>if c6 then mH `aa a0.2 a0.1 mark else `aR).bind λc7=>if c7 then Gw (some (a0.1,a0.2))else Gw `j) (dD<|aV c5) λe8 a0 e9 b2 c8 f0 c9=>by
   have d0:=Ke (R:=sh `q) b2 a4;have d1:=Ke (R:=sh `aA) b2 a7;refine i4 c8 λf1 b3 d2 a9=>?_;cases d2;refine 133 (((eK (gZ<|eM (aV a9) aQ aQ)<|gZ<|lI (aV d0) (aV a9) bW<|aV d1):TV Er _ [27 a0.1,some b3,3 `e,3 `f,some a1,some a2] _ _) _ `s _<|Hi (P:=λb0=>44 (if 1 b0 then Gw (some (a0.1,a0.2))else Gw none:Res (Option<|Tx×Ii)) _) (Gp c9) λb0 b4 d3 b1=>?_);cases b0 with
   |false=>exact b4 none _ b1 trivial
   |true=>
    rw[`aX];refine EV.go (Er:=Er) (Z:=[27 a0.1,some b3,3 `e,3 `f,some a1,some a2]) (W1:=d3) b1 (105 bW<|aV a9) ?_;exact λd5 f2 d6 d7=>b4 (some d5) _ (b1.trans d6) d7) (Hi hq λf3 hq d8 d9 e0 e1 e3=>hq d8 d9 (E0.trans e0) (bJ E0.h e1) e3)
theorem G4{f:Addr}{fd:GV}(F:54 K "states_behind" "states_behind" 39 f fd){gu:34 Cd Pl `c `c Ii (Res<|6 Tx Ii)}(b1:Cal P w K mg `d "onward" [`ab,"mark",`ak,`al,"state"] (4) (gh `q `aA isI isI `aB (ro<|45 isS `aB) gu))(b2:28 "sorted"):FnOk P w K mg `d CX0 (5) f fd [`ab,"mark",`ak,`al,"states"] (gh `q `aA isI isI (qE K) (ro `aB)<|Ew gu):=by
 have SC:55 [`ab,"mark",`ak,`al,"states"] [`ab,"mark",`ak,`al,"states"] 39:=by walk_at "F"
 refine 63 SC ?_ ?_;·obtain⟨_,_,_,_,_,_,_,_,_,_,_,_,rfl,_⟩:=h;rfl
 ·obtain⟨W0,tablet,mark,loose,bound,states,a0,a1,_,_,a3,rfl,rfl,b3,b4,b5,b6,b7,Er,hq⟩:=h;cases b5;cases b6;refine 52 (47<|87 (p4 `a) b2 Lo<|19<|vo (fZ hr) (N:=["state","turn","after",`ab,"mark",`ak,`al]) (cap:=[none,none,none,some 0,some 1,some 2,some 3]) (j6 `a ⋯ `a ⋯ `T `T) `a (d4 (K:=K) `a<|pv 4) (λ_ _ _ _=>(bC (i:=0) (show Ig (["state","turn","after",`ab,"mark",`ak,`al]:`y) by decide +kernel) `a (by walk_at "L"))) `bR (λ_ _ _ _=>d4 (K:=K) `a<|84 b1 3 4<|65 5 6<|16 0) (λ_ _ _ _=>113 (n:=2) `a `a<|ar (bC (i:=1) (show Ig (["state","turn","after",`ab,"mark",`ak,`al]:`y) by decide +kernel) `a (by walk_at "L"))<|ar (bC (i:=2) (show Ig (["state","turn","after",`ab,"mark",`ak,`al]:`y) by decide +kernel) `a (by walk_at "L")) bI) `bR λ_ _ _ _=>pv 2);have E0:`Z:=`Y;rw[show L2.start [`ab,"mark",`ak,`al,"states"] [a0,a1,.int loose,.int bound,a3]=[some a0,some a1,3 `e,3 `f,some a3]from rfl];unfold Ew at hq;exact jA (Er:=Er) (xR (dD<|aV b7) (λW1 D2 W5 a6 v7 s8 M9 a4 e3 h4 b8 b9 a7 c0=>by
   have a9:=Gm a4 b3;have b0:=Gm a4 b4;refine gn ?_;exact 133 (xl<|((BK b8 (dD<|II<|gP (aV a9) (aV b0) aQ aQ<|aV a7) (λ_ _ _ e o=>o.mono e) (λd5 c1 d6 d7 d8 a2 c2 c3 c4 c5=>by
    have d9:=Gm a2 a9;have e0:=Gm a2 b0;have e1:=Gm a2 a7;refine i4 c4 λe2 c6 c7 c8=>?_;cases c7;exact 133 (xl<|((BU c2 h4<|aV c8):BV Er _ [some v7,27 c1.1,some c6,some a0,some a1,3 `e,3 `f] _ _ _ _ _) _ _ _ `s c3 c5))):BV Er _ [some v7,none,none,some a0,some a1,3 `e,3 `f] _ _ _ _ _) _ _ _ `s b9 c0))) (Hi hq λe4 hq c9 d0 d1 d2 d3=>hq c9 d0 (E0.trans d1) (bJ E0.h d2) d3)
theorem G5{f:Addr}{fd:GV}(F:54 K "search" "search" 38 f fd){jL:Ii->`c->`c->`x}{sf:34 Cd Pl `c `c (List Ii) (75 Ii)}(b9:Cal P w K mg `d "within" ["state","loose","bound"] (1) (eX `aB isI isI (rs isB) jL))(c0:Cal P w K mg `d "states_behind" [`ab,"mark",`ak,`al,"states"] (5) (gh `q `aA isI isI (qE K) (ro `aB) sf)){b2:Addr}(b3:90 "START" b2)(b4:∀H,SqT K H b2 [.int (0),.int 0]):FnOk P w K mg `d CX0 (6) f fd `bP (iC `q (qD K) isI isI (ro<|qE K)<|Ex jL sf):=by
 have SC:55 [`ab,"strip",`ak,`al,"lists","mark"] `bP 38:=by walk_at "F"
 refine 63 SC ?_ ?_;·obtain⟨_,_,_,_,_,_,_,_,_,_,rfl,_⟩:=h;rfl
 ·obtain⟨W0,tablet,strip,loose,bound,b5,b6,_,_,rfl,rfl,a0,a9,c1,c2,Er,hq⟩:=h;cases c1;cases c2
  refine 52 (83 4 (cj<|19<|gK (bN<|cW b9<|a5 (91 (v:=.ref _) b3 `a)<|65 2 3 a8) (cj<|19<|91 (v:=.ref _) b3 `a)<|cj a8) (cY Hw `a (d4 (K:=K) `a `aD) (fF 5)<|ae (77 (23 (BW hr.units0) (26 (120 `a) 4<|kE iq aa)<|cj a8) (pv 4) aA)<|af<|fk<|dn (K:=K) `a (pv 4)<|19<|84 c0 0 5<|65 2 3<|19<|26 (120 `a) 4<|kE iq aa)<|47<|pv 4)
  have E0:`Z:=`Y;unfold Ex at hq;refine bh (fN (Er:=Er) (dj<|aX (nA (gZ<|eM (gj b4 (gI _)<|gI _) aQ aQ) (II<|dj<|aX (gj b4 (gI _)<|gI _)<|di (R:=`aB))<|II<|hW (R:=`aB))<|di (R:=qE K))<|36 λy5 hq p6 W1 e2 hp7 o8=>?_)
  have fr9:=bJ E0.h hp7;have E0:=`bb;have a0:=4 e2.g;have a9:=Gm e2.g a9;refine fU (Er:=Er) (f:=AY sf `aa `e `f) (s0:=y5) (Iv:=λ(c3:(List<|List Ii))(b7:Wd)(c4:St)=>∃(b0:Option V),2 c4 [some b5,some b6,3 `e,3 `f,24 p6,b0] (39 b7) (Ow (qE K) b7 p6 c3)) (dD<|aV a9) `at ?_ ?_ ?_
  ·intro d3 b1;have E0:=E0.trans b1;have a0:=4 b1.g;have o8:=o8.mono b1;exact⟨_,`a,E0,o8⟩
  ·intro d5 d6 d7 d8 c5 d9 e0 e1 c6 a2 iv a6 a3 hrt27 hq;obtain⟨b0,rfl,E0,a1⟩:=iv;have a0:=4 c6;have E0:=E0.trans a6;have a2:=a2.trans a6.g;have a0:=4 a6.g;have a1:=a1.mono a6;refine gn (σ':=[some b5,some b6,3 `e,3 `f,24 p6,some c5]) ?_;unfold AY at hq;refine 119 (ay<|BX<|Kd<|cU (dP a1)<|jo ag) (36 λc7 hq c8 a4=>?_);have E0:=`bO;have a2:=a2.trans a4.g;have a0:=4 a4.g;have a1:=a1.mono a4;have a3:=Gm a4.g a3;by_cases b8:1 c7
   ·rw[Z3 b8]at hq ⊢;exact 32 (.ref p6) ((hrt27 _ hq) p6 c8 E0 fr9 a1)
   ·rw[Z4 b8]at hq ⊢
    try dsimp only[az]
    refine i5 (Er:=Er) a1 (II<|gP `J (aV a3) aQ aQ<|cU (dP a1)<|jo ag) (36 λc9 hq d0 a7 d1=>?_);have E0:=a7.e _ E0 fr9;have a2:=a2.trans a7.g;have a0:=4 a7.g;have a3:=Gm a7.g a3
    try dsimp only
    refine cV (W:=d0) c9 a2 ?_ hq;exact⟨_,`a,E0,d1⟩
  ·intro e3 d2 e4 e5 iv hq;obtain⟨b0,rfl,E0,a1⟩:=iv;exact 32 (.ref p6) (hq p6 d2 E0 fr9 a1)
theorem G6{f:Addr}{fd:GV}(F:54 K "tails" "tails" 40 f fd){A4:20 Cd `h `c `c (75<|List Ii)}{gu:34 Cd Pl `c `c Ii (Res<|6 Tx Ii)}(d0:Cal P w K mg `d "search" `bP (6) (iC `q (qD K) isI isI (ro<|qE K) A4))(d1:Cal P w K mg `d "onward" [`ab,"mark",`ak,`al,"state"] (4) (gh `q `aA isI isI `aB (ro<|45 isS `aB) gu))(d2:28 "len")(d3:28 "range")(d5:28 "reversed")(d6:28 "sum"):FnOk P w K mg `d CX0 (7) f fd `bP (iC `q (qD K) isI isI (ro<|isPD P w K isI)<|Ey A4 gu):=by
 have SC:55 [`ab,"strip",`ak,`al,"lists","counts","at","ahead","moves"] `bP 40:=by walk_at "F"
 refine 63 SC ?_ ?_;·obtain⟨_,_,_,_,_,_,_,_,_,_,rfl,_⟩:=h;rfl
 ·obtain⟨W0,tablet,strip,loose,bound,b0,b1,_,_,rfl,rfl,a0,a1,d7,d8,Er,hq⟩:=h;cases d7;cases d8;refine 52 (83 4 (84 d0 0 1<|65 2 3 a8) (cO 5<|cj<|19<|kq (fZ hr) (N:=["state"]) (cap:=[none]) (j6 `a ⋯ `a ⋯ `T `T) `a (d4 (K:=K) `a<|26 (120 `a) 4<|kE iq aa) (λ_ _ _ _=>(bC (i:=0) (show Ig (["state"]:`y) by decide +kernel) `a (by walk_at "L"))) `bR (λ_ _ _ _=>`aE) λ_ _ _ _=>aa)<|ae (cY Hw `a (vA `a d5 `a d3<|19<|56 ip<|87 (126 `a) d2 HJ<|16 4) (fF 6)<|83 7 (26 (120 `a) 5<|kE iq aa) (cO 8<|kq (fZ hr) (N:=["state",`ab,"strip","at",`ak,`al]) (cap:=[none,some 0,some 1,some 6,some 2,some 3]) (j6 `a ⋯ `a ⋯ `T `T) `a (d4 (K:=K) `a<|26 (120 `a) 4<|pv 6) (λ_ _ _ _=>(bC (i:=0) (show Ig (["state",`ab,"strip","at",`ak,`al]:`y) by decide +kernel) `a (by walk_at "L"))) `bR (λ_ _ _ _=>`aE) λ_ _ _ _=>cW d1<|79 1<|a5 (26 (120 `a) 2<|pv 3)<|65 4 5<|16 0)<|af<|fk<|dn (K:=K) `a (pv 5)<|19<|kq (fZ hr) (N:=["state","moves","ahead"]) (cap:=[none,some 8,some 7]) (j6 `a ⋯ `a ⋯ `T `T) `a (vz (P:=P) (w:=w) (K:=K) `a `a `a<|pv 8) (λ_ _ _ _=>(bC (i:=0) (show Ig (["state","moves","ahead"]:`y) by decide +kernel) `a (by walk_at "L"))) `bR (λ_ _ _ _=>`aE) λ_ _ _ _=>87 (ny (K:=K) `a `a) d6 NW<|19<|fo (N:=["turn","after","ahead"]) (cap:=[none,none,some 2]) (j6 `a ⋯ `a ⋯ `T `T) `a (d4 (K:=K) `a<|iL (P:=P) (w:=w) (K:=K) `a `a `a (fZ hr) `aD `aE `ah) (λ_ _ _ _=>113 (n:=2) `a `a<|ar (bC (i:=0) (show Ig (["turn","after","ahead"]:`y) by decide +kernel) `a (by walk_at "L"))<|ar (bC (i:=1) (show Ig (["turn","after","ahead"]:`y) by decide +kernel) `a (by walk_at "L")) bI) `bR λ_ _ _ _=>iL (P:=P) (w:=w) (K:=K) `a `a `a (fZ hr) (pv 2) `aD `ah)<|47<|pQ (K:=K) `a (λa b=>[.ref a,.ref b]) `ah (pv 5)<|bP<|kE iq aa)
  have E0:`Z:=`Y;rw[show L2.start [`ab,"strip",`ak,`al,"lists","counts","at","ahead","moves"] [b0,b1,.int loose,.int bound]=[some b0,some b1,3 `e,3 `f,none,none,none,none,none]from rfl];unfold Ey at hq;refine 62 (II<|iU `J `aT aQ aQ) λy3 hq v4 W1 e2 h5=>?_
  have E0:=`bb;have a0:=4 e2.g;have a1:=10 e2.g;refine bh (fN (Er:=Er) (dj<|aX (Sk (mw (R:=isI) (dD<|cU (Kd<|aV h5)<|jo ag) (λW8 D9 i9 j0 d9 j1 j2 j3 j4 e0 e1 e3 e4 e5=>by
   refine gn ?_;exact 133 (xl<|((mq e1 e0 (aV e4) ag):BV Er _ [some d9] _ _ _ _ _) _ _ _ `s e3 e5))))<|di (R:=isPD P w K isI))<|36 λe6 hq b7 W6 e7 e8 b8=>?_)
  have e9:=bJ E0.h e8;have E0:=E0.trans e7;have a0:=4 e7.g;have a1:=10 e7.g;have h5:=Gm e7.g h5;refine dX (Er:=Er) (f:=Cw gu `aa `k `e `f y3) (s0:=e6) (Iv:=λ(f0:(List<|List<|Ii×Int))(c3:Wd)(f1:St)=>∃(b4:Option V)(b5:Option V)(b9:Option V),2 f1 [some b0,some b1,3 `e,3 `f,some v4,24 b7,b9,b4,b5] (39 c3) (Ow (isPD P w K isI) c3 b7 f0)) (vB<|aZ (fL<|Kd<|aV h5) ag) `at ?_ ?_ ?_
  ·intro j5 b2;have E0:=E0.trans b2;have a0:=4 b2.g;have a1:=10 b2.g;have h5:=Gm b2.g h5;have b8:=b8.mono b2;exact⟨_,_,_,`a,E0,b8⟩
  ·intro j7 j8 j9 c0 k0 k1 k2 k3 c1 a3 iv a7 f2 hq;obtain⟨b4,b5,b9,rfl,E0,a2⟩:=iv;have a0:=4 c1;have a1:=10 c1;have h5:=Gm c1 h5;have E0:=E0.trans a7;have a3:=a3.trans a7.g;have a0:=4 a7.g;have a1:=10 a7.g;have h5:=Gm a7.g h5;have a2:=a2.mono a7;cases f2;refine gn (σ':=[some b0,some b1,3 `e,3 `f,some v4,24 b7,3 c0,b4,b5]) ?_;unfold Cw at hq;refine 62 (cU (dP a2)<|jo ag) λk4 hq c4 k5 a9 b3=>?_
   have E0:=E0.trans a9;have a3:=a3.trans a9.g;have a0:=4 a9.g;have a1:=10 a9.g;have h5:=Gm a9.g h5;have a2:=a2.mono a9;refine 62 (Sk (mw (R:=isL (45 isS `aB)) (f:=λ(c2:Ii)(c5:List (Ii×(List<|Tx×Ii)))=>13 (gr `k c0) (λf3=>gu `aa f3 `e `f c2) λf4=>mj c5 c2 f4) (dD<|cU (Kd<|aV h5) aQ) (λk6 k7 k8 c2 f5 c5 k9 c6 l0 f6 f7 f8 c7 f9=>by
    have g0:=4 c6;have g1:=10 c6;refine gn ?_;exact 133 (xl<|((mq f7 f6 (aV c7)<|II<|gP (aV g0) (cU (Kd<|aV g1) aQ) aQ aQ<|aV c7):BV Er _ [some f5,some b0,some b1,3 c0,3 `e,3 `f] _ _ _ _ _) _ _ _ `s f8 f9)))) λl1 hq g2 l2 a4 b6=>?_
   have E0:=`bO;have a3:=a3.trans a4.g;have a0:=4 a4.g;have a1:=10 a4.g;have h5:=Gm a4.g h5;have a2:=a2.mono a4;have b3:=Gm a4.g b3;refine i5 (Er:=Er) a2 (Sk (mw (R:=isI) (ye<|aV b6) (λl3 l4 l5 l6 g3 l7 l8 c8 l9 g4 g5 g6 c9 g7=>by
    have g8:=Gm c8 b6;have g9:=Gm c8 b3;refine gn ?_;exact 133 (xl<|((mq g5 g4 (aV c9)<|wJ<|Ll (fM (dD<|jK (aV g8)<|aV c9) λm0 h0 m1 h1 h2 m2 h3=>by
     have h4:=Ke (R:=sh (isPD P w K isI)) h1 g9;refine i4 h2 λm3 h6 h7 h8=>?_;cases h7;exact 133 (((jK (aV h4)<|aV h8):EV Er _ [27 h0.1,some h6,some c4] _ _ _) _ `s _ h3))):BV Er _ [some g3,some g2,some c4] _ _ _ _ _) _ _ _ `s g6 g7)))) (36 λh9 hq i0 a6 i1=>?_)
   have E0:=a6.e _ E0 e9;have a3:=a3.trans a6.g;have a0:=4 a6.g;have a1:=10 a6.g;have h5:=Gm a6.g h5;have b3:=Gm a6.g b3;have b6:=Gm a6.g b6
   try dsimp only
   refine cV (W:=i0) h9 a3 ?_ hq;exact⟨_,_,_,`a,E0,i1⟩
  ·intro m4 m5 m6 m7 iv hq;obtain⟨b4,b5,b9,rfl,E0,a2⟩:=iv;exact jA (Er:=Er) (zr<|dP a2) λi2 i3 i6 i7 i8=>hq i2 i3 (E0.trans i6) (bJ E0.h i7) i8
theorem G7{f:Addr}{fd:GV}(F:54 K "ways" "ways" 41 f fd){mV:20 Cd `h `c `c (75<|6 Ii `c)}(a1:Cal P w K mg `d "tails" `bP (7) (iC `q (qD K) isI isI (ro<|isPD P w K isI) mV)){a0:Addr}(a2:90 "START" a0)(a3:∀H,SqT K H a0 [.int (0),.int 0]):FnOk P w K mg `d CX0 (8) f fd `bP (iC `q (qD K) isI isI (rs isI)<|Ez mV):=by
 have SC:55 `bP `bP 41:=by walk_at "F"
 refine 63 SC ?_ ?_;·obtain⟨_,_,_,_,_,_,_,_,_,_,rfl,_⟩:=h;rfl
 ·obtain⟨W0,tablet,strip,loose,bound,b0,b1,_,_,rfl,rfl,a4,a6,a7,a9,Er,hq⟩:=h;cases a7;cases a9;refine 52 (47<|qy (fZ hr) (aJ (120 `a) (84 a1 0 1<|65 2 3 a8) aa `ah) (91 (v:=.ref _) a2 `a) aa);have E0:`Z:=`Y;unfold Ez at hq;exact 31 (qz (cU (Ll<|iU (aV a4) (aV a6) aQ aQ) ag) (gj a3 (gI _)<|gI _) ag) (Hi hq λy3 hq v4 W5 e6 h7=>46 v4 W5 e6 h7)
theorem G8{f:Addr}{fd:GV}(F:54 K "chosen" "chosen" 43 f fd):FnOk P w K mg `d CX0 (1) f fd ["moves","counts","number"] (eX (isL<|45 isS `aB) (isPD P w K isI) isI (rs<|isT3 K isS `aB isI) EA):=by
 have SC:55 ["moves","counts","number","at","turn","state"] ["moves","counts","number"] 43:=by walk_at "F"
 refine 63 SC ?_ ?_;·obtain⟨_,_,_,_,_,_,_,_,rfl,_⟩:=h;rfl
 ·obtain⟨W0,moves,counts,number,b0,b1,_,rfl,rfl,a0,a1,b2,Er,hq⟩:=h;cases b2;refine 52 (83 3 aa (vX Hw (23 mZ (pv 2)<|iL (P:=P) (w:=w) (K:=K) `a `a `a (fZ hr) `aD (aJ `ao (26 (120 `a) 0<|pv 3) aa `ah) `ah)<|ae (og (i:=2) SC.nd `a (by walk_at "L") (iL (P:=P) (w:=w) (K:=K) `a `a `a (fZ hr) `aD (aJ `ao (26 (120 `a) 0<|pv 3) aa `ah) `ah) Bg)<|af<|og (i:=3) SC.nd `a (by walk_at "L") aa vW)<|ae (fD (26 (120 `a) 0<|pv 3)<|113 (n:=2) `a `a<|72 4<|72 5 bI)<|47<|bt<|65 4 5<|16 2)
  have E0:`Z:=`Y;unfold EA at hq;refine bh (70 ag λv3 W1 e2 h4=>?_)
  cases h4;have E0:=`bb;have a0:=4 e2.g;have a1:=10 e2.g;refine rG (Er:=Er) (c:=Cy moves counts) (f:=Cz moves counts) (s0:=(number,(0:Int))) (n:=cap) (Iv:=λ(s7:Ii)(W8:Wd)(g9:St)=>g9=[some b0,some b1,3 s7.1,3 s7.2,none,none]/\39 W8) `at ?_ ?_ ?_ ?_ ?_;·exact 15 E0
  ·intro a7 c5 s6 a9 b3 iv;obtain⟨rfl,E0⟩:=iv;have E0:=E0.trans b3;exact 15 E0
  ·intro a7 s6 a9 a2 iv;obtain⟨rfl,E0⟩:=iv;have a0:=4 a2;have a1:=10 a2;unfold Cy;exact ay (cG aQ<|jK `aT<|bB (f:=λ(b:Tx×Ii)=>b.2) zg<|cU (Kd `J) aQ)
  ·intro c6 a7 s6 a9 c7 a2 a3 iv hq;obtain⟨rfl,E0⟩:=iv;have a0:=4 a2;have a1:=10 a2;unfold Cz at hq;refine nI (Er:=Er) (a:=s6.1) (jK `aT<|bB (f:=λ(b:Tx×Ii)=>b.2) zg<|cU (Kd `J) aQ) (36 λb4 hq c8 a4=>?_);have E0:=`bO;have a3:=a3.trans a4.g;have a0:=4 a4.g;have a1:=10 a4.g;refine tu (Er:=Er) (a:=s6.2) ag λb5 a6=>?_;have E0:=E0.trans a6;have a3:=a3.trans a6.g;have a0:=4 a6.g;have a1:=10 a6.g
   try dsimp only
   refine cV (W:=b5) (s6.1-b4,s6.2+(1:Int)) a3 ?_ hq;exact 15 E0
  ·intro c9 d0 d1 b6 iv hq;obtain⟨rfl,E0⟩:=iv;have a0:=4 b6;refine eN (Er:=Er) (cU (Kd `J) aQ) (36 λd2 hq d3 d4 b7 b8=>?_);have E0:=E0.trans b7;refine i4 b8 λd5 d6 b9 c0=>?_;cases b9;exact 31 (dC (K:=K) bW (aV c0) aQ) λc1 c2 c3 c4=>46 c1 c2 c3 c4
theorem DK{f:Addr}{fd:GV}(F:54 K "way" "way" 42 f fd){mV:20 Cd `h `c `c (75<|6 Ii `c)}{si:6 Tx Ii->6 Ii `c->`c->Res (Tx×Ii×`c)}{gu:34 Cd Pl `c `c Ii (Res<|6 Tx Ii)}{c9 d0 d1 d2 d3 d4 d5 d6 d7 d8 d9 b5 e0:Addr}(e1:Cal P w K mg `d "tails" `bP (7) (iC `q (qD K) isI isI (ro<|isPD P w K isI) mV))(e3:Cal P w K mg `d "chosen" ["moves","counts","number"] (1) (eX (isL<|45 isS `aB) (isPD P w K isI) isI (rs<|isT3 K isS `aB isI) si))(e4:Cal P w K mg `d "onward" [`ab,"mark",`ak,`al,"state"] (4) (gh `q `aA isI isI `aB (ro<|45 isS `aB) gu))(e5:28 "enumerate"){c2:Addr}(c3:90 "START" c2)(c4:∀H,SqT K H c2 [.int (0),.int 0])(e6:90 "NoSuchWay" b5)(e7:Ecl `d b5):FnOk P w K mg `d (CXR P w) (8) f fd [`ab,"strip",`ak,`al,"number"] (qg `q (qD K) isI isI isI [c9,d0,d1,d2,d3,d4,d5,d6,d7,d8,d9,b5,e0] (rs isS)<|qG mV si gu):=by
 have SC:55 [`ab,"strip",`ak,`al,"number","counts","column","state","at","mark","turn"] [`ab,"strip",`ak,`al,"number"] 42:=by walk_at "F"
 refine F.okR SC (λvs H Q E h=>?_) λZ9 A outer s H vs Q E hr h=>?_;·obtain⟨_,_,_,_,_,_,_,_,_,_,_,_,rfl,_⟩:=h;rfl
 ·obtain⟨W0,tablet,strip,loose,bound,number,e8,e9,_,_,_,rfl,rfl,a0,a1,f0,f1,f2,Er,hEr,hq⟩:=h;cases f0;cases f1;cases f2;refine 52 (83 5 (84 e1 0 1<|65 2 3 a8) (aY (Ld<|gJ (23 i9 (pv 4) aa)<|gW<|23 mZ (pv 4)<|qy (fZ hr) (26 (120 `a) 5 aa) (91 (v:=.ref _) c3 `a) aa) (af<|qe e7 `T e6<|19<|uX<|BE<|BF (pv 4) BD) aA)<|83 6 aL (cO 7<|91 (v:=.ref _) c3 `a)<|ae (x5<|cY Hw `a (sO (K:=K) `a `a e5<|16 1) (113 (n:=2) `a `a<|72 8<|72 9 bI)<|ae (fD (cW e3<|a5 (84 e4 0 9<|65 2 3<|16 7)<|a5 (26 (120 `a) 5<|18 bz 8)<|16 4)<|113 (n:=3) `a `a<|72 10<|72 7<|72 4 bI)<|af<|og (i:=6) SC.nd `a (by walk_at "L") (pv 10) zL)<|47<|pv 6)
  have E0:`Z:=`Y;unfold qG at hq;refine 62 (II<|iU `J `aT aQ aQ) λy3 hq v4 W1 e2 h5=>?_
  have E0:=`bb;have a0:=4 e2.g;have a1:=10 e2.g;refine 119 (jz (ay<|cG aQ ag)<|ay<|cG aQ<|qz (cU (Kd<|aV h5) ag) (gj c4 (gI _)<|gI _) ag) (36 λy8 hq W9 a9=>?_);have E0:=E0.trans a9;have a0:=4 a9.g;have a1:=10 a9.g;have h5:=Gm a9.g h5;by_cases c5:1 y8
  ·rw[Z3 c5]at hq ⊢;exact qh (Er:=Er) (j:=11) (hEr.mono E0) `a (uY<|BH (x:=Gy "no column has the number ") (l:=[110,111,32,99,111,108,117,109,110,32,104,97,115,32,116,104,101,32,110,117,109,98,101,114,32]) (dH _ _ ⋯)<|zq aQ BG) hq
  ·rw[Z4 c5]at hq ⊢
   try dsimp only[az]
   refine bh (70 (29 (x:=Gy "") (l:=[]) _ _) λg7 g8 b0 f3=>?_)
   cases f3;have E0:=E0.trans b0;have a0:=4 b0.g;have a1:=10 b0.g;have h5:=Gm b0.g h5;refine bh (70 (gj c4 (gI _)<|gI _) λg9 h0 b1 b6=>?_)
   have E0:=E0.trans b1;have a0:=4 b1.g;have a1:=10 b1.g;have h5:=Gm b1.g h5;refine dX (Er:=Er) (f:=gm si gu `aa `e `f y3) (s0:=((0,0),number,([]:Tx))) (Iv:=λ(b7:(Ii×Int×Tx))(c6:Wd)(f4:St)=>∃(b2:V)(b8:Option V)(b9:Option V)(c0:Option V),2 f4 [some e8,some e9,3 `e,3 `f,3 b7.2.1,some v4,27 b7.2.2,some b2,b9,c0,b8] (39 c6) (`aB c6.G b7.1 b2)) (sU `aT) `at ?_ ?_ ?_
   ·intro h1 b3;have E0:=E0.trans b3;have a0:=4 b3.g;have h5:=Gm b3.g h5;have b6:=Gm b3.g b6;exact⟨_,_,_,_,`a,E0,b6⟩
   ·intro h2 h3 h4 h6 h7 f5 h8 h9 c7 a2 iv a4 f6 hq;obtain⟨b2,b8,b9,c0,rfl,E0,b4⟩:=iv;have a0:=4 c7;have h5:=Gm c7 h5;have E0:=`bO;have a2:=a2.trans a4.g;have a0:=4 a4.g;have h5:=Gm a4.g h5;have b4:=Gm a4.g b4;refine i4 f6 λi0 i1 f7 a6=>?_;cases f7;unfold gm at hq;refine eN (Er:=Er) (eM (II<|gP `J (aV a6) aQ aQ<|aV b4) (cU (Kd<|aV h5)<|aZ aQ ag) aQ) (36 λc8 hq i2 i3 a7 f8=>?_);have E0:=E0.trans a7;have a2:=a2.trans a7.g;have a0:=4 a7.g;have h5:=Gm a7.g h5;have a6:=Gm a7.g a6;refine uN f8 λi5 i6 i7 f9 c1 g0=>?_;cases f9;cases g0;refine zM (Er:=Er) (a:=f5.2.2) bW (36 λg1 hq g2 a3=>?_);have E0:=E0.trans a3;have a2:=a2.trans a3.g;have a0:=4 a3.g;have h5:=Gm a3.g h5;have a6:=Gm a3.g a6;have c1:=Gm a3.g c1
    try dsimp only
    refine cV (W:=g2) (c8.2.1,c8.2.2,g1) a2 ?_ hq;exact⟨_,_,_,_,`a,E0,c1⟩
   ·intro i8 j0 j1 j2 iv hq;obtain⟨b2,b8,b9,c0,rfl,E0,b4⟩:=iv;exact 31 bW λg3 g4 g5 g6=>46 g3 g4 g5 g6
theorem G9{f:Addr}{fd:GV}(F:54 K "_law_does" "_law_does" 65 f fd){sd:64 Cd Tx `h}{kQ:Cd->Tx->`H}(f1:Cal P w K mg `d "_law_places" `cd (3) (bM `q isS (ro `aA) sd))(f2:Cal P w K mg `d "_law_twist" `bU (2) (73 `q isS isI kQ))(f3:28 "abs")(f4:28 "int")(d7:28 "len")(d8:28 "zip"):FnOk P w K mg `d CX0 (4) f fd [`aQ,`bs,`bE,`bF,"_law_text"] (gh `q (qD K) isI isI isS (rs isB)<|EC sd kQ):=by
 have SC:55 [`aQ,`bs,`bE,`bF,"_law_text","_law_turn","_law_now","_law_idle","_law_place","_law_mark","_law_sign_here","_law_left"] [`aQ,`bs,`bE,`bF,"_law_text"] 65:=by walk_at "F"
 refine 63 SC ?_ ?_;·obtain⟨_,_,_,_,_,_,_,_,_,_,_,_,rfl,_⟩:=h;rfl
 ·obtain⟨W0,f5,k3,b0,b1,b8,b9,c0,_,_,_,rfl,rfl,a0,a2,f6,f7,f8,Er,hq⟩:=h;cases f6;cases f7;cases f8
  refine 52 (ae (77 (23 ir (87 (126 `a) d7 HJ<|16 4)<|87 (126 `a) d7 HJ<|16 1) cQ aA)<|ae (cY Hw `a (jY<|pv 4) (fF 5)<|af<|77 (Ld<|dw (23 ir (pv 5) aL)<|dw (23 ir (pv 5) aL)<|dg<|23 ir (pv 5) aL) cQ aA)<|83 6 aa (cO 7 aa)<|ae (cY Hw `a (ze (K:=K) `a `a d8<|79 4<|a5 (84 f1 0 4 a8)<|16 1) (113 (n:=3) `a `a<|72 5<|72 8<|72 9 bI)<|83 6 (ah bz (pv 6)<|84 f2 0 5 a8) (cO 7<|ah gF (18 bz 7)<|gM n6 `T f4 IX<|19<|cM bS (pv 5) aL<|ax _)<|ae (77 (Ld<|gJ (23 pE (87 lj f3 LY<|16 6)<|pv 3)<|gW<|23 pE (pv 7)<|pv 2) cQ aA)<|af<|cY Hw `a (fG (K:=K) `a `a d8<|65 8 9 a8) (113 (n:=2) `a `a<|72 10<|72 11 bI)<|af<|77 (Ld<|dw (23 ir (pv 11) aL)<|dg<|23 ir (pv 11)<|pv 10) cQ aA)<|47 cQ)
  have E0:`Z:=`Y;unfold EC at hq;refine 119 (ay<|wC (iS bW)<|fL<|Kd<|aV a2) (36 λy2 hq W3 e4=>?_);have E0:=E0.trans e4;have a0:=4 e4.g;have a2:=Gm e4.g a2;by_cases d9:1 y2
  ·rw[Z3 d9]at hq ⊢;exact 31 gc λv5 W6 e7 h8=>46 v5 W6 e7 h8
  ·rw[Z4 d9]at hq ⊢
   try dsimp only[az]
   refine fU (Er:=Er) (f:=EB) (s0:=()) (Iv:=λ(k4:Unit)(f9:Wd)(g0:St)=>∃(c5:Option V),g0=[some b9,some c0,3 b0,3 b1,27 b8,c5,none,none,none,none,none,none]/\39 f9) (k9 bW) `at ?_ ?_ ?_
   ·intro k5 c6;have E0:=E0.trans c6;have a0:=4 c6.g;have a2:=Gm c6.g a2;exact 8 `a E0
   ·intro k6 k7 k8 a9 l0 l1 l2 l3 e0 b2 iv c1 g1 hrt25 hq;obtain⟨c5,rfl,E0⟩:=iv;have a0:=4 e0;have a2:=Gm e0 a2;have E0:=E0.trans c1;have b2:=b2.trans c1.g;have a0:=4 c1.g;have a2:=Gm c1.g a2;cases g1;refine gn (σ':=[some b9,some c0,3 b0,3 b1,27 b8,27 a9,none,none,none,none,none,none]) ?_;unfold EB at hq;refine pT (Er:=Er) (eK (ay<|jr bW<|29 (x:=Gy "f") (l:=[102]) _ _)<|eK (ay<|jr bW<|29 (x:=Gy "b") (l:=[98]) _ _)<|ay<|jr bW<|29 (x:=Gy "i") (l:=[105]) _ _) (36 λg2 hq g3 c2=>?_);have E0:=E0.trans c2;have b2:=b2.trans c2.g;have a0:=4 c2.g;have a2:=Gm c2.g a2;by_cases e1:1 g2
    ·rw[Z3 e1]at hq ⊢;exact 31 gc λg4 g5 g6 g7=>(hrt25 _ hq) g4 g5 (E0.trans g6) g7
    ·rw[Z4 e1]at hq ⊢
     try dsimp only[az]
     try dsimp only
     refine cV (W:=g3) () b2 ?_ hq;exact 8 `a E0
   ·intro l4 l5 l6 e2 iv hq;obtain⟨c5,rfl,E0⟩:=iv;have a0:=4 e2;have a2:=Gm e2 a2;refine bh (70 ag λl7 l8 c7 g8=>?_)
    cases g8;have E0:=E0.trans c7;have a0:=4 c7.g;have a2:=Gm c7.g a2;refine bh (70 ag λl9 m0 c8 g9=>?_)
    cases g9;have E0:=E0.trans c8;have a0:=4 c8.g;have a2:=Gm c8.g a2;refine fU (Er:=Er) (f:=CA kQ f5 b0 b1) (s0:=((0:Int),(0:Int))) (Iv:=λ(e3:Ii)(h0:Wd)(h1:St)=>∃(c9:Option V)(d0:Option V)(d1:Option V)(d2:Option V)(d3:Option V),h1=[some b9,some c0,3 b0,3 b1,27 b8,d1,3 e3.1,3 e3.2,d2,d3,c9,d0]/\39 h0) (zj (oJ bW) (gi<|II<|iT `J bW)<|gi<|aV a2) `at ?_ ?_ ?_
    ·intro m1 e5;have E0:=E0.trans e5;have a0:=4 e5.g;exact⟨_,_,_,_,_,`a,E0⟩
    ·intro m2 m3 m4 h2 m5 m6 m7 m8 h3 a1 iv d4 h4 hrt70 hq;obtain⟨c9,d0,d1,d2,d3,rfl,E0⟩:=iv;have a0:=4 h3;have E0:=E0.trans d4;have a1:=a1.trans d4.g;have a0:=4 d4.g;refine uN h4 λm9 h5 h6 h7 a3 a4=>?_;cases h7;unfold CA at hq;refine 62 (aZ aQ<|aT `J bW) λe6 hq n0 n1 b3 h9=>?_
     cases h9;have E0:=E0.trans b3;have a1:=a1.trans b3.g;have a0:=4 b3.g;have a3:=Gm b3.g a3;have a4:=Gm b3.g a4;refine 62 (lH (aZ aQ ag)<|sX<|jq bW<|29 (x:=Gy "i") (l:=[105]) _ _) λe8 hq n2 n3 b4 i0=>?_
     cases i0;have E0:=E0.trans b4;have a1:=a1.trans b4.g;have a0:=4 b4.g;have a3:=Gm b4.g a3;have a4:=Gm b4.g a4;refine 119 (jz (ay<|cG (rq aQ) aQ)<|ay<|cG aQ aQ) (36 λi1 hq n4 b5=>?_);have E0:=E0.trans b5;have a1:=a1.trans b5.g;have a0:=4 b5.g;have a3:=Gm b5.g a3;have a4:=Gm b5.g a4;by_cases e9:1 i1
     ·rw[Z3 e9]at hq ⊢;exact 31 gc λi2 i3 i5 i6=>(hrt70 _ hq) i2 i3 (E0.trans i5) i6
     ·rw[Z4 e9]at hq ⊢
      try dsimp only[az]
      refine sV (Er:=Er) (f:=DF) (s0:=()) (Iv:=λ(n5:Unit)(i7:Wd)(i8:St)=>∃(d5:Option V)(d6:Option V),i8=[some b9,some c0,3 b0,3 b1,27 b8,27 h2.1,3 e6,3 e8,some h5,some h6,d5,d6]/\39 i7) (iD (kT<|aV a3)<|kT<|aV a4) `at ?_ ?_ ?_
      ·intro n7 b6;have E0:=E0.trans b6;have a1:=a1.trans b6.g;have a0:=4 b6.g;have a3:=Gm b6.g a3;have a4:=Gm b6.g a4;exact⟨_,_,`a,E0⟩
      ·intro n8 n9 o0 o1 o2 o3 o4 o5 c3 b7 iv a6 i9 hrt120 hq;obtain⟨d5,d6,rfl,E0⟩:=iv;have a1:=a1.trans c3;have a0:=4 c3;have a3:=Gm c3 a3;have a4:=Gm c3 a4;have E0:=E0.trans a6;have a1:=a1.trans a6.g;have b7:=b7.trans a6.g;have a0:=4 a6.g;have a3:=Gm a6.g a3;have a4:=Gm a6.g a4;refine i4 i9 λo6 o7 j0 j1=>?_;cases j0;cases j1;unfold DF at hq;refine pT (Er:=Er) (eK (ay<|jr bW<|29 (x:=Gy "?") (l:=[63]) _ _)<|ay<|jr bW bW) (36 λj2 hq j3 a7=>?_);have E0:=E0.trans a7;have a1:=a1.trans a7.g;have b7:=b7.trans a7.g;have a0:=4 a7.g;have a3:=Gm a7.g a3;have a4:=Gm a7.g a4;by_cases f0:1 j2
       ·rw[Z3 f0]at hq ⊢;exact 31 gc λj4 j5 j6 j7=>(hrt70 _<|hrt120 _ hq) j4 j5 (E0.trans j6) j7
       ·rw[Z4 f0]at hq ⊢
        try dsimp only[az]
        try dsimp only
        refine cV (W:=j3) () b7 ?_ hq;exact⟨_,_,`a,E0⟩
      ·intro o8 j8 o9 c4 iv hq;obtain⟨d5,d6,rfl,E0⟩:=iv;have a1:=a1.trans c4;have a0:=4 c4;have a3:=Gm c4 a3;have a4:=Gm c4 a4
       try dsimp only
       refine cV (W:=j8) (e6,e8) a1 ?_ hq;exact⟨_,_,_,_,_,`a,E0⟩
    ·intro p0 p1 p2 p3 iv hq;obtain⟨c9,d0,d1,d2,d3,rfl,E0⟩:=iv;exact 31 gc λj9 k0 k1 k2=>46 j9 k0 k1 k2
theorem Ga{f:Addr}{fd:GV}(F:54 K "is_row" "is_row" 24 f fd)(a0:28 "all")(a1:28 "len"){a3:Tok}(a4:0 (mg "TURNS") (.str (Gy "fbi") a3)):FnOk P w K mg `d CX0 (1) f fd ["text","width"] (73 isS isI isB ED):=by
 have SC:55 ["text","width"] ["text","width"] 24:=by walk_at "F"
 refine 63 SC ?_ ?_;·obtain⟨_,_,_,_,_,_,rfl,_⟩:=h;rfl
 ·obtain⟨W0,text,width,_,_,rfl,rfl,a6,a7,Er,hq⟩:=h;cases a6;cases a7;refine 52 (47<|fC (cM bS (87 (126 `a) a1 HJ<|16 0) `aD<|ax _)<|gE<|87 (nF (K:=K) `a `a) a0 NV<|19 (fo (N:=["sign"]) (cap:=[none]) (j6 `a ⋯ `a ⋯ `T `T) `a (jY `aE) (λ_ _ _ _=>(bC (i:=0) (show Ig (["sign"]:`y) by decide +kernel) `a (by walk_at "L"))) `bR (λ_ _ _ _=>(cM uv `aE (91 (v:=.str (Gy "fbi")) a4 `au) (by with_unfolding_all rfl)))));have E0:`Z:=`Y;rw[show L2.start ["text","width"] [88 text,.int width]=[27 text,3 width]from rfl];unfold ED at hq;exact 31 (oF (cD (iS bW) aQ)<|wK<|Ll (fM (k9 bW) λW4 a2 v3 e5 h6 Q9 a9=>by
   cases h6;refine gn ?_;exact 133 (((Bu bW<|29 (x:=Gy "fbi") (l:=[102,98,105]) _ _):EV Er _ [27 a2] _ _ _) _ `s _ a9))) (Hi hq λb4 hq b0 b1 b2 b3=>46 b0 b1 b2 b3)
theorem Gb{f:Addr}{fd:GV}(F:54 K "does" "does" 37 f fd){A6:Tx->`c->`x}{jL:Ii->`c->`c->`x}{jc:Cd->Ii->Tx->Res Ii}{mH:20 Cd Ii Tx Pl `x}(c3:Cal P w K mg `d "is_row" ["text","width"] (1) (73 isS isI isB A6))(b8:Cal P w K mg `d "within" ["state","loose","bound"] (1) (eX `aB isI isI (rs isB) jL))(c4:Cal P w K mg `d "state_behind" ["tablet","state","turn"] (2) (eX `q `aB isS (rs `aB) jc))(c5:Cal P w K mg `d "leaves" `ci (3) (iC `q `aB isS `aA (rs isB) mH))(c6:28 "len")(c7:28 "zip"){b9:Addr}(c8:90 "START" b9)(c9:∀H,SqT K H b9 [.int (0),.int 0]):FnOk P w K mg `d CX0 (4) f fd [`ab,"strip",`ak,`al,"text"] (gh `q (qD K) isI isI isS (rs isB)<|EE A6 jL jc mH):=by
 have SC:55 [`ab,"strip",`ak,`al,"text","state","kept","turn","mark"] [`ab,"strip",`ak,`al,"text"] 37:=by walk_at "F"
 refine 63 SC ?_ ?_;·obtain⟨_,_,_,_,_,_,_,_,_,_,_,_,rfl,_⟩:=h;rfl
 ·obtain⟨W0,tablet,strip,loose,bound,text,d0,d1,_,_,_,rfl,rfl,a0,a1,d2,d3,d4,Er,hq⟩:=h;cases d2;cases d3;cases d4
  refine 52 (ae (77 (dG<|bN<|cW c3<|79 4<|19<|87 (126 `a) c6 HJ<|16 1) cQ aA)<|ae (cO 5<|91 (v:=.ref _) c8 `a)<|83 6 (84 b8 5 2<|16 3) (cY Hw `a (fG (K:=K) `a `a c7<|65 4 1 a8) (113 (n:=2) `a `a<|72 7<|72 8 bI)<|ae (cO 5<|84 c4 0 5<|16 7)<|af<|cO 6<|fC (pv 6)<|fC (84 b8 5 2<|16 3)<|gE<|84 c5 0 5<|65 7 8 a8)<|47<|pv 6)
  have E0:`Z:=`Y;unfold EE at hq;refine 119 (gf<|gZ<|aT bW<|fL<|Kd `aT) (36 λy2 hq W3 e4=>?_);have E0:=E0.trans e4;have a0:=4 e4.g;have a1:=10 e4.g;by_cases c0:1 y2
  ·rw[Z3 c0]at hq ⊢;exact 31 gc λv5 W6 e7 h8=>46 v5 W6 e7 h8
  ·rw[Z4 c0]at hq ⊢
   try dsimp only[az]
   refine bh (70 (gj c9 (gI _)<|gI _) λf1 W9 b4 a3=>?_)
   have E0:=E0.trans b4;have a0:=4 b4.g;have a1:=10 b4.g;refine 62 (eM (aV a3) aQ aQ) λd5 hq f2 f3 a9 d6=>?_
   cases d6;have E0:=E0.trans a9;have a0:=4 a9.g;have a1:=10 a9.g;have a3:=Gm a9.g a3;refine dX (Er:=Er) (f:=CC jL jc mH `aa `e `f) (s0:=((0,0),d5)) (Iv:=λ(c1:(Ii×Bool))(c2:Wd)(d7:St)=>∃(b0:V)(b5:Option V)(b6:Option V),2 d7 [some d0,some d1,3 `e,3 `f,27 text,some b0,some (.bl c1.2),b5,b6] (39 c2) (`aB c2.G c1.1 b0)) (iD (oJ bW)<|gi `aT) `at ?_ ?_ ?_
   ·intro f4 b7;have E0:=E0.trans b7;have a0:=4 b7.g;have a3:=Gm b7.g a3;exact⟨_,_,_,`a,E0,a3⟩
   ·intro f5 f6 f7 f8 f9 g0 g1 g2 d8 a2 iv b1 d9 hq;obtain⟨b0,b5,b6,rfl,E0,b2⟩:=iv;have a0:=4 d8;have E0:=E0.trans b1;have a2:=a2.trans b1.g;have a0:=4 b1.g;have b2:=Gm b1.g b2;refine i4 d9 λg3 g4 e0 a4=>?_;cases e0;unfold CC at hq;refine 62 (eM `J (aV b2) bW) λe1 hq g5 g6 b3 a6=>?_
    have E0:=E0.trans b3;have a2:=a2.trans b3.g;have a0:=4 b3.g;have a4:=Gm b3.g a4;refine 70 (oF DX<|oF (eM (aV a6) aQ aQ)<|lI `J (aV a6) bW<|aV a4) (36 λe2 hq g7 e3 a7 e5=>?_);cases e5;have E0:=E0.trans a7;have a2:=a2.trans a7.g;have a0:=4 a7.g;have a4:=Gm a7.g a4;have a6:=Gm a7.g a6
    try dsimp only
    refine cV (W:=e3) (e1,e2) a2 ?_ hq;exact⟨_,_,_,`a,E0,a6⟩
   ·intro g8 g9 h0 h1 iv hq;obtain⟨b0,b5,b6,rfl,E0,b2⟩:=iv;exact 31 DX λe6 e8 e9 f0=>46 e6 e8 e9 f0
theorem Gd{f:Addr}{fd:GV}(F:54 K "comes_ahead" "comes_ahead" 45 f fd){a1:Tok}(a0:0 (mg "TURNS") (.str (Gy "fbi") a1)):FnOk P w K mg `d CX0 (1) f fd ["turn","other"] (73 isS isS isB EF):=by
 have SC:55 ["turn","other"] ["turn","other"] 45:=by walk_at "F"
 refine 63 SC ?_ ?_;·obtain⟨_,_,_,_,_,_,rfl,_⟩:=h;rfl
 ·obtain⟨W0,turn,other,_,_,rfl,rfl,a2,a3,Er,hq⟩:=h;cases a2;cases a3;refine 52 (47<|cM i9 (dQ (K:=K) `a `a (91 (v:=.str (Gy "fbi")) a0 `au)<|16 0) (dQ (K:=K) `a `a (91 (v:=.str (Gy "fbi")) a0 `au)<|16 1)<|ax _);have E0:`Z:=`Y;unfold EF at hq;exact 31 (cG (fK (29 (x:=Gy "fbi") (l:=[102,98,105]) _ _) bW)<|fK (29 (x:=Gy "fbi") (l:=[102,98,105]) _ _) bW) (Hi hq λy3 hq v4 W5 e6 h7=>46 v4 W5 e6 h7)
theorem Ge{f:Addr}{fd:GV}(F:54 K "rank" "rank" 44 f fd){A7:34 Cd `h `c `c Tx `x}{mV:20 Cd `h `c `c (75<|6 Ii `c)}{gu:34 Cd Pl `c `c Ii (Res<|6 Tx Ii)}{sj:Tx->Tx->`x}{jc:Cd->Ii->Tx->Res Ii}{d6 d7 d8 d9 e0 e1 e2 e3 e5 e7 e8 b6 e9:Addr}(f0:Cal P w K mg `d "does" [`ab,"strip",`ak,`al,"text"] (4) (gh `q (qD K) isI isI isS (rs isB) A7))(f1:Cal P w K mg `d "tails" `bP (7) (iC `q (qD K) isI isI (ro<|isPD P w K isI) mV))(f2:Cal P w K mg `d "onward" [`ab,"mark",`ak,`al,"state"] (4) (gh `q `aA isI isI `aB (ro<|45 isS `aB) gu))(f3:Cal P w K mg `d "comes_ahead" ["turn","other"] (1) (73 isS isS isB sj))(f4:Cal P w K mg `d "state_behind" ["tablet","state","turn"] (2) (eX `q `aB isS (rs `aB) jc))(f5:28 "enumerate")(f6:28 "sum"){c7:Addr}(f7:90 "START" c7)(f8:∀H,SqT K H c7 [.int (0),.int 0])(f9:90 "NoSuchWay" b6)(g0:Ecl `d b6):FnOk P w K mg `d (CXR P w) (8) f fd [`ab,"strip",`ak,`al,"text"] (qg `q (qD K) isI isI isS [d6,d7,d8,d9,e0,e1,e2,e3,e5,e7,e8,b6,e9] (rs isI)<|DG A7 mV gu sj jc):=by
 have SC:55 [`ab,"strip",`ak,`al,"text","counts","number","state","at","mark","moves"] [`ab,"strip",`ak,`al,"text"] 44:=by walk_at "F"
 refine F.okR SC (λvs H Q E h=>?_) λZ9 A outer s H vs Q E hr h=>?_;·obtain⟨_,_,_,_,_,_,_,_,_,_,_,_,rfl,_⟩:=h;rfl
 ·obtain⟨W0,tablet,strip,loose,bound,text,b7,b8,_,_,_,rfl,rfl,a0,a1,g1,g2,g3,Er,hEr,hq⟩:=h;cases g1;cases g2;cases g3
  refine 52 (ae (aY (dG<|bN<|84 f0 0 1<|65 2 3<|16 4) (af<|qe g0 `T f9<|19 aL) aA)<|ae (cO 5<|84 f1 0 1<|65 2 3 a8)<|83 6 aa (cO 7<|91 (v:=.ref _) f7 `a)<|ae (x5<|cY Hw `a (sO (K:=K) `a `a f5<|16 1) (113 (n:=2) `a `a<|72 8<|72 9 bI)<|83 10 (84 f2 0 9<|65 2 3<|16 7) (og (i:=6) SC.nd `a (by walk_at "L") (87 (ny (K:=K) `a `a) f6 NW<|19<|fo (N:=["turn","after","counts","at","text"]) (cap:=[none,none,some 5,some 8,some 4]) (j6 `a ⋯ `a ⋯ `T `T) `a (d4 (K:=K) `a<|pv 10) (λ_ _ _ _=>113 (n:=2) `a `a<|ar (bC (i:=0) (show Ig (["turn","after","counts","at","text"]:`y) by decide +kernel) `a (by walk_at "L"))<|ar (bC (i:=1) (show Ig (["turn","after","counts","at","text"]:`y) by decide +kernel) `a (by walk_at "L")) bI) (λ_ _ _ _=>oA<|bN<|cW f3<|79 0<|19<|26 cI 4<|pv 3) λ_ _ _ _=>iL (P:=P) (w:=w) (K:=K) `a `a `a (fZ hr) (26 (120 `a) 2<|18 bz 3) `aD `ah) vW)<|af<|cO 7<|84 f4 0 7<|19<|26 cI 4<|pv 8)<|47<|pv 6)
  have E0:`Z:=`Y;rw[show L2.start [`ab,"strip",`ak,`al,"text","counts","number","state","at","mark","moves"] [b7,b8,.int `e,.int `f,88 text]=[some b7,some b8,3 `e,3 `f,27 text,none,none,none,none,none,none]from rfl];unfold DG at hq;refine 119 (gf<|gZ<|gO `J `aT aQ aQ bW) (36 λy2 hq W3 e4=>?_);have E0:=E0.trans e4;have a0:=4 e4.g;have a1:=10 e4.g;by_cases c8:1 y2
  ·rw[Z3 c8]at hq ⊢;exact qh (Er:=Er) (j:=11) (hEr.mono E0) `a (29 (x:=Gy "this column does not do") (l:=[116,104,105,115,32,99,111,108,117,109,110,32,100,111,101,115,32,110,111,116,32,100,111]) _ _) hq
  ·rw[Z4 c8]at hq ⊢
   try dsimp only[az]
   refine 62 (II<|iU `J `aT aQ aQ) λy7 hq v8 W5 e6 h9=>?_
   have E0:=E0.trans e6;have a0:=4 e6.g;have a1:=10 e6.g;refine bh (70 ag λj1 j2 b2 g4=>?_)
   cases g4;have E0:=E0.trans b2;have a0:=4 b2.g;have a1:=10 b2.g;have h9:=Gm b2.g h9;refine bh (70 (gj f8 (gI _)<|gI _) λj3 j4 b3 b9=>?_)
   have E0:=E0.trans b3;have a0:=4 b3.g;have a1:=10 b3.g;have h9:=Gm b3.g h9;refine dX (Er:=Er) (f:=C1 gu sj jc `aa `e `f text y7) (s0:=((0:Int),(0,0))) (Iv:=λ(c9:(Int×Ii))(d0:Wd)(g5:St)=>∃(b4:V)(c0:Option V)(c1:Option V)(c2:Option V),2 g5 [some b7,some b8,3 `e,3 `f,27 text,some v8,3 c9.1,some b4,c1,c2,c0] (39 d0) (`aB d0.G c9.2 b4)) (sU `aT) `at ?_ ?_ ?_
   ·intro j5 b5;have E0:=E0.trans b5;have a0:=4 b5.g;have h9:=Gm b5.g h9;have b9:=Gm b5.g b9;exact⟨_,_,_,_,`a,E0,b9⟩
   ·intro j7 j8 j9 c3 k0 d1 k1 k2 d2 a2 iv b0 g6 hq;obtain⟨b4,c0,c1,c2,rfl,E0,a3⟩:=iv;have a0:=4 d2;have h9:=Gm d2 h9;have E0:=E0.trans b0;have a2:=a2.trans b0.g;have a0:=4 b0.g;have h9:=Gm b0.g h9;have a3:=Gm b0.g a3;refine i4 g6 λk3 k4 g7 a4=>?_;cases g7;unfold C1 at hq;refine 62 (II<|gP `J (aV a4) aQ aQ<|aV a3) λk5 hq k6 k7 a7 b1=>?_
    have E0:=E0.trans a7;have a2:=a2.trans a7.g;have a0:=4 a7.g;have h9:=Gm a7.g h9;have a3:=Gm a7.g a3;have a4:=Gm a7.g a4;refine nI (Er:=Er) (a:=d1.1) (wJ<|Ll (lK (dD<|aV b1) λk8 c4 k9 g8 g9 l0 h0=>by
     have h1:=Ke (R:=sh (isL<|isPD P w K isI)) g8 h9;refine i4 g9 λl1 d3 h2 h3=>?_;cases h2;refine 133 (((gZ<|aT bW<|cJ bW aQ):TV Er _ [27 c4.1,some d3,some v8,3 c3.1,27 text] _ _) _ `s _<|Hi (P:=λc5=>44 (if 1 c5 then 13 (gr y7<|c3.1+(1:Int)) (λh4=>getD h4 c4.2) λh5=>Gw (some h5)else Gw none:Res `aH) _) (Gp h0) λc5 d5 h6 c6=>?_);cases c5 with
     |false=>exact d5 none _ c6 trivial
     |true=>
      rw[`aX];refine EV.go (Er:=Er) (Z:=[27 c4.1,some d3,some v8,3 c3.1,27 text]) (W1:=h6) c6 (jK (cU (Kd<|aV h1)<|aZ aQ ag)<|aV h3) ?_;exact 14 (show 44 (RG _ _) _ from d5) λl2 h7 h8 l3 i0 i1=>h7 (some h8) _ (c6.trans i0) i1)) (36 λi2 hq l4 a6=>?_)
    have E0:=E0.trans a6;have a2:=a2.trans a6.g;have a0:=4 a6.g;have h9:=Gm a6.g h9;have a3:=Gm a6.g a3;have a4:=Gm a6.g a4;have b1:=Gm a6.g b1;refine 70 (eM `J (aV a3)<|cJ bW aQ) (36 λi3 hq l5 i5 a9 i6=>?_);have E0:=E0.trans a9;have a2:=a2.trans a9.g;have a0:=4 a9.g;have h9:=Gm a9.g h9;have a4:=Gm a9.g a4;have b1:=Gm a9.g b1
    try dsimp only
    refine cV (W:=i5) (d1.1+i2,i3) a2 ?_ hq;exact⟨_,_,_,_,`a,E0,i6⟩
   ·intro l6 l7 l8 l9 iv hq;obtain⟨b4,c0,c1,c2,rfl,E0,a3⟩:=iv;exact 31 aQ λi7 i8 i9 j0=>46 i7 i8 i9 j0
theorem Gf{f:Addr}{fd:GV}(F:54 K "_law_tried" "_law_tried" 72 f fd){vS:34 Cd `h `c `c Tx `H}{a1 a2 a3 a4 a6 a7 a9 b0 b1 b2 b3 b4 b5 b6:Addr}(c6:CalR P w K mg `d "rank" [`ab,"strip",`ak,`al,"text"] (8) (qg `q (qD K) isI isI isS [a1,a2,a3,a4,a6,a7,a9,b0,b1,b2,b3,b4,b5] (rs isI) vS))(c7:Cal P w K mg `d "_law_same" `bV 26 (fP K 26))(Z2:Kin K `d [a1,a2,a3,a4,a6,a7,a9,b0,b1,b2,b3,b4,b5] b6)(c8:90 "BandError" b6)(c9:CalH P w K mg `d "_law_kinds" ["_law_e"] 1 (fQ K [a1,a2,a3,a4,a6,a7,a9,b0,b1,b2,b3,b4,b5] b6))(d0:28 "list"):FnOk P w K mg `d CX0 (27) f fd [`aQ,`bs,`bE,`bF,"_law_text"] (gh `q (qD K) isI isI isS (rs<|isU K)<|DH vS):=by
 have SC:55 [`aQ,`bs,`bE,`bF,"_law_text","_law_hand","_law_found","_law_e"] [`aQ,`bs,`bE,`bF,"_law_text"] 72:=by walk_at "F"
 obtain⟨bmB,XB⟩:=Z2.top;refine 63 SC ?_ ?_;·obtain⟨_,_,_,_,_,_,_,_,_,_,_,_,rfl,_⟩:=h;rfl
 ·obtain⟨W0,e5,e6,c0,c1,c2,c3,c4,_,_,_,rfl,rfl,b7,a0,d1,d2,d3,Er,hq⟩:=h;cases d1;cases d2;cases d3
  refine 52 (ae (x9 (i:=7) (E:=EX K [a1,a2,a3,a4,a6,a7,a9,b0,b1,b2,b3,b4,b5] [114,101,102,117,115,101,100] W0 Q) (15 `a) (λ_=>83 5 (gM (jd (K:=K) `a) `T d0 Jx<|16 1) (cO 6<|kX c6 AM (hr.mono ⋯) `T<|65 0 5<|65 2 3<|16 4)<|af<|77 (dG<|bN<|84 c7 5 1 a8) (bt<|a5 aL<|16 5) aA) `T c8 XB (EX.cl Z2) SC.nd `a `a λx C od oe hh=>47<|bt<|53 aL<|oP c9 hh ((hr.mono ⋯).h _) `a (GO ..) `T<|16 7)<|47<|bt<|a5 aL<|16 6)
  have E0:`Z:=`Y;rw[show L2.start [`aQ,`bs,`bE,`bF,"_law_text","_law_hand","_law_found","_law_e"] [c3,c4,.int c0,.int c1,88 c2]=[some c3,some c4,3 c0,3 c1,27 c2,none,none,none]from rfl];unfold DH at hq;refine zQ (K:=K) (base:=base) (s:=[114,101,102,117,115,101,100]) Z2 (dH _ _ ⋯) `a ?_;refine bh (70 (II<|pV<|Kd `J) λv3 W1 e2 h4=>?_)
  have E0:=`bb;have b7:=Gm e2.g b7;have a0:=4 e2.g;refine vF (Er:=Er) (K:=K) (cs:=[a1,a2,a3,a4,a6,a7,a9,b0,b1,b2,b3,b4,b5]) (s:=[114,101,102,117,115,101,100]) (R:=isI) (i:=6) E0 (λEr hE5=>iX hE5 (aV b7) (aV h4) aQ aQ bW) (36 λr6 hq=>?_);cases r6 with
  |inr j8=>exact hq
  |inl y7=>
   intro v9 e7 b8 d4;cases d4;have E0:=E0.trans b8;have a0:=4 b8.g;have h4:=Gm b8.g h4;refine 119 (gf<|gZ<|wX ⋯ (aV h4) `J) (36 λd5 hq e8 b9=>?_);have E0:=E0.trans b9;have a0:=4 b9.g;have h4:=Gm b9.g h4;by_cases c5:1 d5
   ·rw[Z3 c5]at hq ⊢;exact 31 (iF (K:=K) (u:=λ(z:Tx×(List Pl))=>PK [LU z.1,Sl (z.2.map λ(z:Pl)=>PK [LU z.1,LU z.2.1,LU z.2.2])]) (qc iE<|wV (u:=λ(z:Pl)=>PK [LU z.1,LU z.2.1,LU z.2.2])<|De iE iE iE)<|105 (29 (x:=Gy "changed") (l:=[99,104,97,110,103,101,100]) _ _)<|aV h4) λd6 d7 d8 d9=>46 d6 d7 d8 d9
   ·rw[Z4 c5]at hq ⊢
    try dsimp only[az]
    exact 31 (iF (K:=K) (qc iE tq)<|105 (29 (x:=Gy "rank") (l:=[114,97,110,107]) _ _) aQ) λe0 e1 e3 e4=>46 e0 e1 e3 e4
theorem Gg{f:Addr}{fd:GV}(F:54 K "_law_later" "_law_later" 74 f fd)(a6:28 "zip"):FnOk P w K mg `d CX0 (1) f fd ["_law_one","_law_other"] (73 isS isS isB EG):=by
 have SC:55 ["_law_one","_law_other","_law_a","_law_b"] ["_law_one","_law_other"] 74:=by walk_at "F"
 refine 63 SC ?_ ?_;·obtain⟨_,_,_,_,_,_,rfl,_⟩:=h;rfl
 ·obtain⟨W0,a7,a9,_,_,rfl,rfl,b0,b1,Er,hq⟩:=h;cases b0;cases b1;refine 52 (ae (cY Hw `a (fG (K:=K) `a `a a6<|65 0 1 a8) (113 (n:=2) `a `a<|72 2<|72 3 bI)<|af<|77 (23 ir (pv 2)<|pv 3) (cM i9 (dQ (K:=K) `a `a aL<|16 2) (dQ (K:=K) `a `a aL<|16 3)<|ax _) aA)<|47 cQ)
  have E0:`Z:=`Y;unfold EG at hq;refine fU (Er:=Er) (f:=yR) (s0:=()) (Iv:=λ(s3:Unit)(W4:Wd)(g5:St)=>∃(d6:Option V)(d7:Option V),g5=[27 a7,27 a9,d6,d7]/\39 W4) (iD (oJ bW)<|oJ bW) `at ?_ ?_ ?_
  ·intro c5 b2;have E0:=E0.trans b2;exact⟨_,_,`a,E0⟩
  ·intro Wb8 W9 c6 a1 c7 s2 c8 c9 d0 a0 iv a2 b3 hrt18 hq;obtain⟨d6,d7,rfl,E0⟩:=iv;have E0:=E0.trans a2;have a0:=a0.trans a2.g;refine i4 b3 λd1 d2 b4 b5=>?_;cases b4;cases b5;unfold yR at hq;refine pT (Er:=Er) (ay<|jr bW bW) λb6 a3=>?_;have E0:=E0.trans a3;have a0:=a0.trans a3.g;by_cases a4:1 (!decide (a1.1=a1.2))
   ·rw[Z3 a4]at hq ⊢;exact 31 (cG (fK (29 (x:=Gy "fbi") (l:=[102,98,105]) _ _) bW)<|fK (29 (x:=Gy "fbi") (l:=[102,98,105]) _ _) bW) (36 λd3 hq b7 b8 b9 c0=>(hrt18 _ hq) b7 b8 (E0.trans b9) c0)
   ·rw[Z4 a4]at hq ⊢
    try dsimp only[az]
    try dsimp only
    refine cV (W:=b6) () a0 ?_ hq;exact⟨_,_,`a,E0⟩
  ·intro d4 d5 d8 d9 iv hq;obtain⟨d6,d7,rfl,E0⟩:=iv;exact 31 gc λc1 c2 c3 c4=>46 c1 c2 c3 c4
theorem Gh{f:Addr}{fd:GV}(F:54 K "_law_none" "_law_none" 73 f fd){dR:34 Cd `h `c `c `c `I}{a0 a1 a2 a3 a4 a6 a7 a9 b0 b1 b2 b3 b4 b5:Addr}(C_way:CalR P w K mg `d "way" [`ab,"strip",`ak,`al,"number"] (8) (qg `q (qD K) isI isI isI [a0,a1,a2,a3,a4,a6,a7,a9,b0,b1,b2,b3,b4] (rs isS) dR))(Z2:Kin K `d [a0,a1,a2,a3,a4,a6,a7,a9,b0,b1,b2,b3,b4] b5)(c1:90 "BandError" b5)(c2:CalH P w K mg `d "_law_kinds" ["_law_e"] 1 (fQ K [a0,a1,a2,a3,a4,a6,a7,a9,b0,b1,b2,b3,b4] b5))(C__law_sameH:CalH P w K mg `d "_law_same" `bV 2 (nP 2))(c3:28 "list"):FnOk P w K mg `d CX0 (9) f fd [`aQ,`bs,`bE,`bF,"_law_number"] (gh `q (qD K) isI isI isI (rs isB)<|EH dR):=by
 have SC:55 [`aQ,`bs,`bE,`bF,"_law_number","_law_e"] [`aQ,`bs,`bE,`bF,"_law_number"] 73:=by walk_at "F"
 obtain⟨bmB,XB⟩:=Z2.top;refine 63 SC ?_ ?_;·obtain⟨_,_,_,_,_,_,_,_,_,_,_,_,rfl,_⟩:=h;rfl
 ·obtain⟨W0,d0,d1,b6,b7,b8,b9,c0,_,_,_,rfl,rfl,c4,c5,c6,c7,c8,Er,hq⟩:=h;cases c6;cases c7;cases c8
  refine 52 (ae (x9 (i:=5) (E:=EXP [a0,a1,a2,a3,a4,a6,a7,a9,b0,b1,b2,b3,b4] W0 (pOne W0 Q [78,111,83,117,99,104,87,97,121])) (15 `a) (λ_=>af<|fk<|kX C_way AM (hr.mono ⋯) `T<|79 0<|a5 (gM (jd (K:=K) `a) `T c3 Jx<|16 1)<|65 2 3<|16 4) `T c1 XB (EXP.cl Z2) SC.nd `a `a λx C od oe hh=>47<|oP C__law_sameH hh ((hr.mono ⋯).h _) `a (GO ..) `T<|53 (oP c2 hh ((hr.mono ⋯).h _) `a (GO ..) `T<|16 5)<|cj<|19 aL)<|47 cQ)
  have E0:`Z:=`Y;rw[show L2.start [`aQ,`bs,`bE,`bF,"_law_number","_law_e"] [b9,c0,.int b6,.int b7,.int b8]=[some b9,some c0,3 b6,3 b7,3 b8,none]from rfl];unfold EH at hq;refine zR (Er:=Er) (K:=K) (base:=base) (R:=isS) (s:=[78,111,83,117,99,104,87,97,121]) E0 Z2 (dH _ _ ⋯) `a (λEr hE1=>iX hE1 (aV c4) (II<|pV<|Kd<|aV c5) aQ aQ aQ) (36 λr2 hq=>?_);cases r2 with
  |inr j4=>exact pOne.of hq
  |inl y3=>
   intro W5 e6;have E0:=E0.trans e6;exact 31 gc λv7 W8 e9 c9=>46 v7 W8 e9 c9
theorem Gi{f:Addr}{fd:GV}(F:54 K "_law_hurt" "_law_hurt" 66 f fd)(b5:28 "len")(d8:28 "max"):FnOk P w K mg `d CX0 (1) f fd ["_law_strand_here","_law_cell"] (73 (45 `q isS) isI (45 `q isS) EI):=by
 have SC:55 ["_law_strand_here",`bx,`aQ,"_law_turns_here","_law_at_here","_law_turn","_law_hole","_law_colour"] ["_law_strand_here","_law_cell"] 66:=by walk_at "F"
 refine 63 SC ?_ ?_;·obtain⟨_,_,_,_,_,_,rfl,_⟩:=h;rfl
 ·obtain⟨W0,c8,a9,b0,_,rfl,rfl,d9,e0,Er,hq⟩:=h;cases e0;refine 52 (ae (fD `aE<|113 (n:=2) `a `a<|72 2<|72 3 bI)<|ae (cO 4<|ah aI (18 bg 1)<|87 (jV `a) d8 LZ<|53 aa<|87 (126 `a) b5 HJ<|16 3)<|83 5 (aJ cI aL (56 aI<|18 bg 1) `ah) (aY (23 bS (18 aI 1) aa) (af<|cO 3<|ah bb (ah bb (bO cZ (pv 3) cP<|bP<|pv 4)<|pv 5)<|bO cZ (pv 3) (bP<|18 bz 4) cP) aA)<|ae (aY (23 bS (18 aI 1) aa) (83 6 (56 aI<|18 bg 1) (cO 7<|aJ cI aL (56 aI<|18 bg 1) `ah)<|af<|cO 2<|bt<|a5 (26 `ao 2 aa)<|53 (ah bb (ah bb (bO cZ (26 `ao 2 aa) cP<|bP<|pv 6)<|pv 7)<|bO cZ (26 `ao 2 aa) (bP<|18 bz 6) cP)<|26 `ao 2 aa) aA)<|ae (aY (Ld<|dw (23 bS (18 aI 1) aa)<|dw (23 bS (56 aI<|18 bg 1) aa)<|dg<|23 i9 (87 (126 `a) b5 HJ<|16 3) aa) (af<|cO 3<|ah bb (pv 3)<|pv 5) aA)<|ae (aY (Ld<|dw (23 bS (18 aI 1) aa)<|dg<|23 bS (56 aI<|18 bg 1) aa) (af<|cO 3<|bO cZ (pv 3) cP<|bP<|ah aI (18 bg 1)<|56 bz<|87 (126 `a) b5 HJ<|16 3) aA)<|47<|bt<|65 2 3 a8)
  have E0:`Z:=`Y;unfold EI at hq;refine eN (Er:=Er) (aV d9) λv1 W2 e3 h4=>?_;have E0:=E0.trans e3;refine i4 h4 λv5 v7 h6 h8=>?_;cases h8;refine 62 (gd (76 `aC aQ)<|oN ag<|iS bW) λb1 hq j0 W9 c9 e1=>?_
  cases e1;have E0:=E0.trans c9;have h6:=Gm c9.g h6;refine 62 (cJ (29 (x:=Gy "fbi") (l:=[102,98,105]) _ _)<|40<|76 `aC aQ) λb2 hq j1 j2 d0 e2=>?_
  cases e2;have E0:=E0.trans d0;have h6:=Gm d0.g h6;refine 129 (Iv:=λ(e4:Tx)(e5:Wd)(e6:St)=>e6=[some b0,3 a9,some v5,27 e4,3 b1,27 b2,none,none]/\39 e5) (ay<|cD (40 aQ) ag) `at ?_ ?_ ?_
  ·intro d1 e7 a1 b6 hq;have b7:=a1.g;have E0:=E0.trans a1;have h6:=Gm a1.g h6;refine 70 (cq (cq (cH bW fb<|dA aQ) bW)<|cH bW (dA<|aZ aQ ag) fb) (36 λe8 hq j3 e9 b8 f0=>?_);cases f0;have E0:=E0.trans b8;have b7:=b7.trans b8.g;have h6:=Gm b8.g h6;exact b6 e8 e9 _ b7 (15 E0) hq
  ·intro d1 e7 a1 b6 hq;have f1:=a1.g;have E0:=E0.trans a1;have h6:=Gm a1.g h6
   try dsimp only[az]
   exact b6 c8.2 d1 _ f1 (15 E0) hq
  ·intro d2 j4 j5 f2 iv hq;obtain⟨rfl,E0⟩:=iv;have h6:=Gm f2 h6;refine 129 (Iv:=λ(f3:Cd)(d3:Wd)(f4:St)=>∃(a7:V)(b3:Option V)(b4:Option V),2 f4 [some b0,3 a9,some a7,27 d2,3 b1,27 b2,b3,b4] (39 d3) (`q d3.G f3 a7)) (ay<|cD (40 aQ) ag) `at ?_ ?_ ?_
   ·intro d4 f5 a2 b9 hq;have a3:=a2.g;have E0:=E0.trans a2;have h6:=Gm a2.g h6;refine bh (70 (40<|76 `aC aQ) λj6 j7 c0 f6=>?_)
    cases f6;have E0:=E0.trans c0;have a3:=a3.trans c0.g;have h6:=Gm c0.g h6;refine 62 (cJ (29 (x:=Gy "abcdefghijklmnopqrstuvwxyz") (l:=[97,98,99,100,101,102,103,104,105,106,107,108,109,110,111,112,113,114,115,116,117,118,119,120,121,122]) _ _)<|40<|76 `aC aQ) λj8 hq j9 k0 c1 f7=>?_
    cases f7;have E0:=E0.trans c1;have a3:=a3.trans c1.g;have h6:=Gm c1.g h6;refine 70 (dC (K:=K) (bB (f:=λ(b:Cd)=>b.1) oG<|aV h6) (cq (cq (cH (bB (f:=λ(b:Cd)=>b.2.1) kP<|aV h6) fb<|dA aQ) bW)<|cH (bB (f:=λ(b:Cd)=>b.2.1) kP<|aV h6) (dA<|aZ aQ ag) fb)<|bB (f:=λ(b:Cd)=>b.2.2) mO<|aV h6) (36 λf8 hq k1 f9 d5 g0=>?_);have E0:=E0.trans d5;have a3:=a3.trans d5.g;exact b9 f8 f9 _ a3 ⟨_,_,_,`a,E0,g0⟩ hq
   ·intro d4 f5 a2 b9 hq;have g1:=a2.g;have E0:=E0.trans a2;have h6:=Gm a2.g h6
    try dsimp only[az]
    exact b9 c8.1 d4 _ g1 ⟨_,_,_,`a,E0,h6⟩ hq
   ·intro k2 k3 k4 k5 iv hq;obtain⟨a7,b3,b4,rfl,E0,a0⟩:=iv;refine 129 (Iv:=λ(g2:Tx)(g3:Wd)(g4:St)=>g4=[some b0,3 a9,some a7,27 g2,3 b1,27 b2,b3,b4]/\39 g3) (eK (ay<|cD (40 aQ) ag)<|eK (ay<|cD (40<|76 `aC aQ) ag)<|ay<|cG (iS bW) ag) `at ?_ ?_ ?_
    ·intro d6 g5 a4 c2 hq;have c3:=a4.g;have E0:=`bO;have a0:=4 a4.g;refine 70 (cq bW bW) (36 λg6 hq k6 g7 c4 g8=>?_);cases g8;have E0:=E0.trans c4;have c3:=c3.trans c4.g;have a0:=4 c4.g;exact c2 g6 g7 _ c3 (15 E0) hq
    ·intro d6 g5 a4 c2 hq;have g9:=a4.g;have E0:=`bO;have a0:=4 a4.g
     try dsimp only[az]
     exact c2 d2 d6 _ g9 (15 E0) hq
    ·intro h0 k7 k8 h1 iv hq;obtain⟨rfl,E0⟩:=iv;have a0:=4 h1;refine 129 (Iv:=λ(h2:Tx)(h3:Wd)(h5:St)=>h5=[some b0,3 a9,some a7,27 h2,3 b1,27 b2,b3,b4]/\39 h3) (eK (ay<|cD (40 aQ) ag)<|ay<|cD (40<|76 `aC aQ) ag) `at ?_ ?_ ?_
     ·intro d7 h7 a6 c5 hq;have c6:=a6.g;have E0:=E0.trans a6;have a0:=4 a6.g;refine 70 (cH bW fb<|dA<|gd (76 `aC aQ)<|aZ (iS bW) ag) (36 λh9 hq k9 i0 c7 i1=>?_);cases i1;have E0:=E0.trans c7;have c6:=c6.trans c7.g;have a0:=4 c7.g;exact c5 h9 i0 _ c6 (15 E0) hq
     ·intro d7 h7 a6 c5 hq;have i2:=a6.g;have E0:=E0.trans a6;have a0:=4 a6.g
      try dsimp only[az]
      exact c5 h0 d7 _ i2 (15 E0) hq
     ·intro l0 l1 l2 i3 iv hq;obtain⟨rfl,E0⟩:=iv;have a0:=4 i3;exact 31 (105 `J bW) λi5 i6 i7 i8=>46 i5 i6 i7 i8
theorem Gj{f:Addr}{fd:GV}(F:54 K "_law_sign" "_law_sign" 67 f fd):FnOk P w K mg `d CX0 (1) f fd ["_law_cell"] (fz isI (rs isS) EJ):=by
 have SC:55 ["_law_cell","_law_some"] ["_law_cell"] 67:=by walk_at "F"
 refine 63 SC ?_ ?_;·obtain⟨_,_,_,_,rfl,_⟩:=h;rfl
 ·obtain⟨W0,a5,_,rfl,rfl,a0,Er,hq⟩:=h;cases a0;refine 52 (83 1 aL (cO 1<|ah bb (pv 1) aL)<|47<|26 cI 1<|18 aI 0)
  have E0:`Z:=`Y;unfold EJ at hq;refine bh (ao (Er := Er) (29 (x := Gy " !\"#$&'()*+,-./0123456789:;<=>?@ABCDEFGHIJKLMNOPQRSTUVWXYZ[\\]^_`") (l := [32, 33, 34, 35, 36, 38, 39, 40, 41, 42, 43, 44, 45, 46, 47, 48, 49, 50, 51, 52, 53, 54, 55, 56, 57, 58, 59, 60, 61, 62, 63, 64, 65, 66, 67, 68, 69, 70, 71, 72, 73, 74, 75, 76, 77, 78, 79, 80, 81, 82, 83, 84, 85, 86, 87, 88, 89, 90, 91, 92, 93, 94, 95, 96]) _ _) (λv3 W1 e2 h4 => ?_))
  cases h4;have E0:=`bb;refine 62 (cq (dU (R:=sh isS) (a:=([32,33,34,35,36,38,39,40,41,42,43,44,45,46,47,48,49,50,51,52,53,54,55,56,57,58,59,60,61,62,63,64,65,66,67,68,69,70,71,72,73,74,75,76,77,78,79,80,81,82,83,84,85,86,87,88,89,90,91,92,93,94,95,96]:Tx)) (v:=88 ([32,33,34,35,36,38,39,40,41,42,43,44,45,46,47,48,49,50,51,52,53,54,55,56,57,58,59,60,61,62,63,64,65,66,67,68,69,70,71,72,73,74,75,76,77,78,79,80,81,82,83,84,85,86,87,88,89,90,91,92,93,94,95,96]:Tx)) `a)<|29 (x:=Gy "abcdefghijklmnopqrstuvwxyz{|}~\n") (l:=[97,98,99,100,101,102,103,104,105,106,107,108,109,110,111,112,113,114,115,116,117,118,119,120,121,122,123,124,125,126,10]) _ _) λy7 hq v8 W5 e6 h9=>?_
  cases h9;have E0:=E0.trans e6;exact 31 (cJ bW<|40 aQ) (Hi hq λa6 hq a1 a2 a3 a4=>46 a1 a2 a3 a4)
theorem Gk{f:Addr}{fd:GV}(F:54 K "_law_spoil" "_law_spoil" 68 f fd){A9:`c->`I}(a2:Cal P w K mg `d "_law_sign" ["_law_cell"] (1) (fz isI (rs isS) A9))(a3:28 "len"):FnOk P w K mg `d CX0 (2) f fd ["_law_text","_law_cell"] (73 isS isI isS<|EK A9):=by
 have SC:55 ["_law_text",`bx,"_law_at_here","_law_sign_here","_law_twin"] ["_law_text","_law_cell"] 68:=by walk_at "F"
 refine 63 SC ?_ ?_;·obtain⟨_,_,_,_,_,_,rfl,_⟩:=h;rfl
 ·obtain⟨W0,d5,a1,_,_,rfl,rfl,a4,a6,Er,hq⟩:=h;cases a4;cases a6
  refine 52 (83 2 (ah aI (18 bg 1)<|56 bz<|87 (126 `a) a3 HJ<|16 0) (cO 3<|cW a2<|19<|18 bg 1)<|ae (77 (23 bS (18 aI 1) aa) (ah bb (ah bb (bO cZ `aE cP<|bP<|pv 2)<|pv 3)<|bO cZ `aE (bP<|pv 2) cP) aA)<|ae (77 (23 bS (18 aI 1) aa) (ah bb (bO cZ `aE cP<|bP<|pv 2)<|bO cZ `aE (bP<|18 bz 2) cP) aA)<|ae (77 (23 bS (18 aI 1) aa) (ah bb (ah bb (bO cZ `aE cP<|bP<|pv 2)<|pv 3)<|bO cZ `aE (bP<|18 bz 2) cP) aA)<|ae (77 (23 bS (18 aI 1) aa) (ah bb (ah bb (bO cZ `aE cP<|bP<|pv 2)<|bO cZ `aE (bP<|pv 2)<|bP<|18 bz 2)<|bO cZ `aE (bP<|pv 2) cP) aA)<|ae (cO 4<|ah bb (bO cZ `aE (bP<|18 bz 2)<|bP<|18 bz 2)<|bO cZ `aE (bP<|pv 2)<|bP<|18 bz 2)<|47<|ah bb (ah bb (bO cZ `aE cP<|bP<|pv 2)<|pv 4)<|bO cZ `aE (bP<|18 bz 2) cP)
  have E0:`Z:=`Y;unfold EK at hq;refine 62 (gd (76 `aC aQ)<|aZ (iS bW) ag) λy5 hq v6 W1 e2 h7=>?_
  cases h7;have E0:=`bb;refine 62 (dJ<|76 `aC aQ) λd6 hq d7 W8 e9 a7=>?_
  cases a7;have E0:=E0.trans e9;refine 119 (ay<|cD (40 aQ) ag) λd8 a9=>?_;have E0:=E0.trans a9;by_cases a0:1 (decide<|(a1%5)=(0:Int))
  ·rw[Z3 a0]at hq ⊢;exact 31 (cq (cq (cH bW fb<|dA aQ) bW)<|cH bW (dA aQ) fb) (Hi hq λd9 hq b0 b1 b2 b3=>46 b0 b1 b2 b3)
  ·rw[Z4 a0]at hq ⊢
   try dsimp only[az]
   refine 119 (ay<|cD (40 aQ) ag) λe0 b4=>?_;have E0:=E0.trans b4;by_cases a0:1 (decide<|(a1%5)=(1:Int))
   ·rw[Z3 a0]at hq ⊢;exact 31 (cq (cH bW fb<|dA aQ)<|cH bW (dA<|aZ aQ ag) fb) (Hi hq λe1 hq b5 b6 b7 b8=>46 b5 b6 b7 b8)
   ·rw[Z4 a0]at hq ⊢
    try dsimp only[az]
    refine 119 (ay<|cD (40 aQ) ag) λe3 b9=>?_;have E0:=E0.trans b9;by_cases a0:1 (decide<|(a1%5)=(2:Int))
    ·rw[Z3 a0]at hq ⊢;exact 31 (cq (cq (cH bW fb<|dA aQ) bW)<|cH bW (dA<|aZ aQ ag) fb) (Hi hq λe4 hq c0 c1 c2 c3=>46 c0 c1 c2 c3)
    ·rw[Z4 a0]at hq ⊢
     try dsimp only[az]
     refine 119 (ay<|cD (40 aQ) ag) λe5 c4=>?_;have E0:=E0.trans c4;by_cases a0:1 (decide<|(a1%5)=(3:Int))
     ·rw[Z3 a0]at hq ⊢;exact 31 (cq (cq (cH bW fb<|dA aQ)<|cH bW (dA aQ)<|dA<|aZ aQ ag)<|cH bW (dA aQ) fb) (Hi hq λe6 hq c5 c6 c7 c8=>46 c5 c6 c7 c8)
     ·rw[Z4 a0]at hq ⊢
      try dsimp only[az]
      refine 62 (cq (cH bW (dA<|aZ aQ ag)<|dA<|aZ aQ ag)<|cH bW (dA aQ)<|dA<|aZ aQ ag) λe7 hq e8 f0 c9 d0=>?_
      cases d0;have E0:=E0.trans c9;exact 31 (cq (cq (cH bW fb<|dA aQ) bW)<|cH bW (dA<|aZ aQ ag) fb) (Hi hq λf1 hq d1 d2 d3 d4=>46 d1 d2 d3 d4)
theorem DL{f:Addr}{fd:GV}(F:54 K "law" "law" 75 f fd){yP:64 `P `c (Cd×`h×`c)}{yh:64 `h `c `h}{i7:`P->`c->`H}{A5:20 Cd `h `c `c `H}{dR:34 Cd `h `c `c `c `I}{tZ:34 Cd `h `c `c Tx `x}{qW:34 Cd `h `c `c Tx (Res Dat)}{u4:Tx->Tx->`x}{qH:34 Cd `h `c `c `c `x}{A8:64 (Cd×Tx) `c (Cd×Tx)}{rZ:`c->`c->`I}{Aa:Tx->`c->`I}{h2 h3 h4 h6 h8 i0 i1 i2 i3 i4 i6 i8 j0:Addr}(j1:Cal P w K mg `d "_law_case" ["_law_script","_law_most"] (5) (73 (isScr K) isI (isT3 K `q (qD K) isI) yP))(j2:Cal P w K mg `d "_law_faded" ["_law_strip","_law_cell"] (2) (73 (qD K) isI (qD K) yh))(b1:Cal P w K mg `d "_law_at" ["_law_script","_law_k"] (1) (73 (isScr K) isI isI i7))(j3:Cal P w K mg `d "ways" `bP (8) (iC `q (qD K) isI isI (rs isI) A5))(C_way:CalR P w K mg `d "way" [`ab,"strip",`ak,`al,"number"] (8) (qg `q (qD K) isI isI isI [h2,h3,h4,h6,h8,i0,i1,i2,i3,i4,i6,i8,j0] (rs isS) dR))(g1:Cal P w K mg `d "_law_does" [`aQ,`bs,`bE,`bF,"_law_text"] (4) (gh `q (qD K) isI isI isS (rs isB) tZ))(e6:Cal P w K mg `d "_law_same" `bV 26 (fP K 26))(g2:Cal P w K mg `d "_law_tried" [`aQ,`bs,`bE,`bF,"_law_text"] (27) (gh `q (qD K) isI isI isS (rs<|isU K) qW))(j4:Cal P w K mg `d "_law_later" ["_law_one","_law_other"] (1) (73 isS isS isB u4))(j5:Cal P w K mg `d "_law_none" [`aQ,`bs,`bE,`bF,"_law_number"] (9) (gh `q (qD K) isI isI isI (rs isB) qH))(j6:Cal P w K mg `d "_law_hurt" ["_law_strand_here","_law_cell"] (1) (73 (45 `q isS) isI (45 `q isS) A8))(j7:Cal P w K mg `d "_law_turns" `ch (2) (73 isI isI isS rZ))(j8:Cal P w K mg `d "_law_spoil" ["_law_text","_law_cell"] (2) (73 isS isI isS Aa))(g3:28 "bool")(g4:28 "int")(c4:28 "isinstance")(j9:28 "len")(g5:28 "max")(k0:28 "sorted")(k1:28 "str"):FnOk P w K mg `d CX0 (28) f fd ["_law_script"] (Dp (isScr K) (rs isB)<|u5 yP yh i7 A5 dR tZ qW u4 qH A8 rZ Aa):=by
 have SC:55 ["_law_script",`aQ,`bs,`bE,`bF,"_law_many","_law_numbers","_law_done","_law_number","_law_text","_law_found"] ["_law_script"] 75:=by walk_at "F"
 refine 63 SC ?_ ?_;·obtain⟨_,_,_,_,rfl,_⟩:=h;rfl
 ·obtain⟨W0,s6,b3,rfl,rfl,a1,Er,hEr,hq⟩:=h;refine 52 (ae (fD (cW j1<|79 0<|19 aa)<|113 (n:=3) `a `a<|72 1<|72 2<|72 3 bI)<|ae (cO 2<|cW j2<|79 2<|19<|cW b1<|79 0<|19 aa)<|83 4 (56 aI<|cW b1<|79 0<|19 aa) (aY (23 bS (pv 4) aa) (af<|cO 4 aa) aA)<|83 5 (84 j3 1 2<|65 3 4 a8) (77 (Ld<|gJ (dG<|bN<|71 `aV c4 Gz 5<|101 (v:=.ty "int") g4 IX `a)<|gJ (bN<|71 `aV c4 Gz 5<|101 (v:=.ty "bool") g3 IL `a)<|gW<|23 i9 (pv 5) aa) cQ aA)<|83 6 (cj<|a5 aa<|a5 (18 ip 5)<|53 (ah aI (cW b1<|79 0<|19 aa)<|71 (jV `a) g5 LZ 5 aa)<|ah aI (cW b1<|79 0<|19 aa)<|71 (jV `a) g5 LZ 5 aa) (cO 7<|cj a8)<|ae (cY Hw `a (d4 (K:=K) `a<|87 (jw (K:=K) `a) k0 Lo<|16 6) (fF 8)<|af<|aY (Ld<|dw (23 w5 aa<|pv 8)<|dg<|23 i9 (pv 8)<|pv 5) (83 9 (kX C_way AO (hr.mono ⋯) `T<|65 1 2<|65 3 4<|16 8) (77 (Ld<|gJ (dG<|bN<|71 `aV c4 Gz 9<|101 (v:=.ty "str") k1 Kh `a)<|gW<|dG<|bN<|84 g1 1 2<|65 3 4<|16 9) cQ aA)<|ae (77 (dG<|bN<|cW e6<|53 (84 g2 1 2<|65 3 4<|16 9)<|bt<|a5 aL<|16 8) cQ aA)<|ae (77 (Ld<|dw (23 (BZ hr.units0) (pv 7)<|cj a8)<|dw (23 i9 (aJ `ao (26 (120 `a) 7<|kE iq aa) aa `ah)<|pv 8)<|dg<|dG<|bN<|cW j4<|a5 (aJ `ao (26 (120 `a) 7<|kE iq aa) aa `ah)<|16 9) cQ aA)<|af<|fk<|dn (K:=K) `a (pv 7)<|19<|bt<|65 8 9 a8) aA)<|ae (cY Hw `a (d4 (K:=K) `a<|cj<|a5 (56 ip aa)<|79 5<|19<|ah bz (pv 5)<|ah aI (cW b1<|79 0<|19 aa)<|56 vZ aa) (fF 8)<|af<|77 (dG<|bN<|84 j5 1 2<|65 3 4<|16 8) cQ aA)<|83 9 (aJ `ao (cW j6<|53 (bt<|79 1<|19<|cW j7<|53 (cW b1<|79 0<|19 aa)<|87 (126 `a) j9 HJ<|16 2)<|cW b1<|79 0<|19 aa) aa `ah) (aY (23 bS (56 aI<|cW b1<|79 0<|19 aa) aa) (af<|cO 9<|cW j8<|79 9<|19<|56 bg<|cW b1<|79 0<|19 aa) aA)<|83 10 (84 g2 1 2<|65 3 4<|16 9) (77 (dG<|bN<|84 g1 1 2<|65 3 4<|16 9) (cW e6<|79 10<|19<|bt<|53 aL<|cj<|19 aL) aA)<|ae (77 (Ld<|gJ (23 ir (26 `ao 10 aa) aL)<|gJ (dG<|bN<|87 `aV c4 Gz<|53 (26 `ao 10 aa)<|101 (v:=.ty "int") g4 IX `a)<|gW<|bN<|87 `aV c4 Gz<|53 (26 `ao 10 aa)<|101 (v:=.ty "bool") g3 IL `a) cQ aA)<|ae (77 (Ld<|gJ (23 i9 (26 `ao 10 aa) aa)<|gW<|23 mZ (26 `ao 10 aa)<|pv 5) cQ aA)<|47<|cW e6<|a5 (kX C_way AO (hr.mono ⋯) `T<|65 1 2<|65 3 4<|19<|26 `ao 10 aa)<|16 9)
  have E0:`Z:=`Y;unfold u5 at hq;refine eN (Er:=Er) (aT `aT ag) (36 λy1 hq v2 W3 e4 h5=>?_);have E0:=E0.trans e4;have a1:=10 e4.g;refine uN h5 λv6 v8 s7 h7 h9 k2=>?_;cases k2;refine 62 (aT (aV h9)<|aT `aT ag) λg6 hq b4 s8 e7 a0=>?_
  have E0:=E0.trans e7;have a1:=10 e7.g;have h7:=Gm e7.g h7;refine 62 (40<|aT `aT ag) λk3 hq s9 t0 d3 k4=>?_
  cases k4;have E0:=E0.trans d3;have a1:=10 d3.g;have h7:=Gm d3.g h7;have a0:=4 d3.g;refine 129 (Iv:=λ(k5:Int)(k6:Wd)(k7:St)=>k7=[some b3,some v6,some b4,3 y1.2.2,3 k5,none,none,none,none,none,none]/\39 k6) (ay<|cD aQ ag) `at ?_ ?_ ?_
  ·intro g7 k8 a6 e8 hq;have e9:=a6.g;have E0:=E0.trans a6;have a1:=10 a6.g;have h7:=Gm a6.g h7;have a0:=4 a6.g;refine 70 ag λt1 k9 c5 l0=>?_;cases l0;have E0:=E0.trans c5;have e9:=e9.trans c5.g;have a1:=10 c5.g;have h7:=Gm c5.g h7;have a0:=4 c5.g;exact e8 (60:Int) k9 _ e9 (15 E0) hq
  ·intro g7 k8 a6 e8 hq;have l1:=a6.g;have E0:=E0.trans a6;have a1:=10 a6.g;have h7:=Gm a6.g h7;have a0:=4 a6.g
   try dsimp only[az]
   exact e8 k3 g7 _ l1 (15 E0) hq
  ·intro b2 t2 t3 f0 iv hq;obtain⟨rfl,E0⟩:=iv;have a1:=10 f0;have h7:=Gm f0 h7;have a0:=4 f0;refine 62 (lI (aV h7) `J aQ aQ) λb5 hq t4 t5 d5 l2=>?_
   cases l2;have E0:=E0.trans d5;have a1:=10 d5.g;have h7:=Gm d5.g h7;have a0:=4 d5.g;refine 119 (jz (gf<|gZ<|iG (j:=1) ⋯<|iF (K:=K) tq aQ)<|jz (gZ<|iG (j:=0) ⋯<|iF (K:=K) tq aQ)<|ay<|cG aQ ag) (36 λl3 hq t6 d6=>?_);have E0:=E0.trans d6;have a1:=10 d6.g;have h7:=Gm d6.g h7;have a0:=4 d6.g;by_cases a7:1 l3
   ·rw[Z3 a7]at hq ⊢;exact 31 gc λl4 l5 l6 l7=>46 l4 l5 l6 l7
   ·rw[Z4 a7]at hq ⊢
    try dsimp only[az]
    refine 62 (II<|dj<|aX ag<|aX (aZ aQ ag)<|aX (gd (aT `aT ag)<|oN aQ ag)<|aX (gd (aT `aT ag)<|oN aQ ag)<|di (R:=isI)) λt7 hq c6 t8 d7 f1=>?_
    have E0:=E0.trans d7;have a1:=10 d7.g;have h7:=Gm d7.g h7;have a0:=4 d7.g;refine bh (fN (Er:=Er) (hW (R:=45 isI isS)) λb6 t9 c7 l8 f2=>?_)
    have l9:=bJ E0.h l8;have E0:=E0.trans c7;have a1:=10 c7.g;have h7:=Gm c7.g h7;have a0:=4 c7.g;have f1:=Gm c7.g f1;refine fU (Er:=Er) (f:=iM dR tZ qW u4 y1 g6 b2 b5) (s0:=([]:6 `c Tx)) (Iv:=λ(m0:(List<|Int×Tx))(g8:Wd)(m1:St)=>∃(b7:Option V)(f3:Option V),2 m1 [some b3,some v6,some b4,3 y1.2.2,3 b2,3 b5,some c6,24 b6,f3,b7,none] (39 g8) (Ow (45 isI isS) g8 b6 m0)) (dD<|II<|pW<|Kd<|aV f1) `at ?_ ?_ ?_
    ·intro u0 c8;have E0:=E0.trans c8;have a1:=10 c8.g;have h7:=Gm c8.g h7;have a0:=4 c8.g;have f2:=f2.mono c8;exact⟨_,_,`a,E0,f2⟩
    ·intro u1 u2 u3 m2 u6 m3 u7 u8 f4 a3 iv b8 m4 hrt90 hq;obtain⟨b7,f3,rfl,E0,a2⟩:=iv;have a1:=10 f4;have h7:=Gm f4 h7;have a0:=4 f4;have E0:=E0.trans b8;have a3:=a3.trans b8.g;have a1:=10 b8.g;have h7:=Gm b8.g h7;have a0:=4 b8.g;have a2:=a2.mono b8;cases m4;refine gn (σ':=[some b3,some v6,some b4,3 y1.2.2,3 b2,3 b5,some c6,24 b6,3 m2,b7,none]) ?_;unfold iM at hq;refine pT (Er:=Er) (eK (ay<|cG ag aQ)<|ay<|cG aQ aQ) (36 λm5 hq m6 b9=>?_);have E0:=E0.trans b9;have a3:=a3.trans b9.g;have a1:=10 b9.g;have h7:=Gm b9.g h7;have a0:=4 b9.g;have a2:=a2.mono b9;by_cases a9:1 m5
     ·rw[Z3 a9]at hq ⊢;refine 62 (iX (Dm hEr) (aV h7) `J aQ aQ aQ) λu9 hq v0 v1 c0 m7=>?_
      cases m7;have E0:=E0.trans c0;have a3:=a3.trans c0.g;have a1:=10 c0.g;have h7:=Gm c0.g h7;have a0:=4 c0.g;have a2:=a2.mono c0;refine 119 (jz (gf<|gZ<|iG (j:=2) ⋯<|iF (K:=K) iE bW)<|gf<|gZ<|gO (aV h7) `J aQ aQ bW) (36 λm8 hq v3 c1=>?_);have E0:=E0.trans c1;have a3:=a3.trans c1.g;have a1:=10 c1.g;have h7:=Gm c1.g h7;have a0:=4 c1.g;have a2:=a2.mono c1;by_cases a9:1 m8
      ·rw[Z3 a9]at hq ⊢;exact 31 gc λm9 n0 n1 n2=>(hrt90 _ hq) m9 n0 (E0.trans n1) n2
      ·rw[Z4 a9]at hq ⊢
       try dsimp only[az]
       refine 119 (gf<|gZ<|qd ⋯ (gO (aV h7) `J aQ aQ bW)<|iF (K:=K) (qc iE tq)<|105 (29 (x:=Gy "rank") (l:=[114,97,110,107]) _ _) aQ) (36 λn3 hq v4 c2=>?_);have E0:=E0.trans c2;have a3:=a3.trans c2.g;have a1:=10 c2.g;have h7:=Gm c2.g h7;have a0:=4 c2.g;have a2:=a2.mono c2;by_cases a9:1 n3
       ·rw[Z3 a9]at hq ⊢;exact 31 gc λn4 n5 n6 n7=>(hrt90 _ hq) n4 n5 (E0.trans n6) n7
       ·rw[Z4 a9]at hq ⊢
        try dsimp only[az]
        refine 119 (eK (ay<|C0<|dP a2)<|eK (ay<|cG (bB (f:=λ(b:Int×Tx)=>b.1) Bv<|cU (dP a2)<|jo ag) aQ)<|gf<|gZ<|aT (bB (f:=λ(b:Int×Tx)=>b.2) zg<|cU (dP a2)<|jo ag) bW) (36 λn8 hq v5 c3=>?_);have E0:=E0.trans c3;have a3:=a3.trans c3.g;have a1:=10 c3.g;have h7:=Gm c3.g h7;have a0:=4 c3.g;have a2:=a2.mono c3;by_cases a9:1 n8
        ·rw[Z3 a9]at hq ⊢;exact 31 gc λn9 o0 o1 o2=>(hrt90 _ hq) n9 o0 (E0.trans o1) o2
        ·rw[Z4 a9]at hq ⊢
         try dsimp only[az]
         refine i5 (Er:=Er) a2 (105 aQ bW) (36 λo3 hq o4 c9 o5=>?_);have E0:=c9.e _ E0 l9;have a3:=a3.trans c9.g;have a1:=10 c9.g;have h7:=Gm c9.g h7;have a0:=4 c9.g
         try dsimp only
         refine cV (W:=o4) o3 a3 ?_ hq;exact⟨_,_,`a,E0,o5⟩
     ·rw[Z4 a9]at hq ⊢
      try dsimp only[az]
      try dsimp only
      refine cV (W:=m6) m3 a3 ?_ hq;exact⟨_,_,`a,E0,a2⟩
    ·intro v7 v9 w0 f5 iv hq;obtain⟨b7,f3,rfl,E0,a2⟩:=iv;have a1:=10 f5;have h7:=Gm f5 h7;have a0:=4 f5;refine fU (Er:=Er) (f:=eS qH y1 g6 b2) (s0:=()) (Iv:=λ(w1:Unit)(o6:Wd)(o7:St)=>∃(d8:Option V),o7=[some b3,some v6,some b4,3 y1.2.2,3 b2,3 b5,some c6,24 b6,d8,b7,none]/\39 o6) (dD<|II<|dj<|aX (aZ ag ag)<|aX aQ<|aX (aZ aQ<|gd (aT `aT ag)<|sW (r:=100000000000000000000) ⋯ ⋯)<|di (R:=isI)) `at ?_ ?_ ?_
     ·intro w2 d9;have E0:=E0.trans d9;have a1:=10 d9.g;have h7:=Gm d9.g h7;have a0:=4 d9.g;exact 8 `a E0
     ·intro w3 w4 w6 o8 w7 w8 w9 x0 f6 d0 iv d1 o9 hrt163 hq;obtain⟨d8,rfl,E0⟩:=iv;have a1:=10 f6;have h7:=Gm f6 h7;have a0:=4 f6;have E0:=E0.trans d1;have d0:=d0.trans d1.g;have a1:=10 d1.g;have h7:=Gm d1.g h7;have a0:=4 d1.g;cases o9;refine gn (σ':=[some b3,some v6,some b4,3 y1.2.2,3 b2,3 b5,some c6,24 b6,3 o8,b7,none]) ?_;unfold eS at hq;refine pT (Er:=Er) (gf<|gZ<|gO (aV h7) `J aQ aQ aQ) (36 λp0 hq p1 d2=>?_);have E0:=E0.trans d2;have d0:=d0.trans d2.g;have a1:=10 d2.g;have h7:=Gm d2.g h7;have a0:=4 d2.g;by_cases g9:1 p0
      ·rw[Z3 g9]at hq ⊢;exact 31 gc λp2 p3 p4 p5=>(hrt163 _ hq) p2 p3 (E0.trans p4) p5
      ·rw[Z4 g9]at hq ⊢
       try dsimp only[az]
       try dsimp only
       refine cV (W:=p1) () d0 ?_ hq;exact 8 `a E0
     ·intro x1 x2 x3 f7 iv hq;obtain⟨d8,rfl,E0⟩:=iv;have a1:=10 f7;have h7:=Gm f7 h7;have a0:=4 f7;refine 62 (bB (f:=λ(b:Cd×Tx)=>b.2) zg<|aT (105 (aV h7)<|aT (aT `aT ag)<|fL<|Kd `J)<|aT `aT ag) λp6 hq x4 x5 e0 p7=>?_
      cases p7;have E0:=E0.trans e0;have a1:=10 e0.g;have h7:=Gm e0.g h7;have a0:=4 e0.g;refine 129 (Iv:=λ(p8:Tx)(p9:Wd)(q0:St)=>q0=[some b3,some v6,some b4,3 y1.2.2,3 b2,3 b5,some c6,24 b6,d8,27 p8,none]/\39 p9) (ay<|cD (40<|aT `aT ag) ag) `at ?_ ?_ ?_
      ·intro h0 q1 b0 f8 hq;have f9:=b0.g;have E0:=E0.trans b0;have a1:=10 b0.g;have h7:=Gm b0.g h7;have a0:=4 b0.g;refine 70 (aT bW<|76 `aC<|aT `aT ag) (36 λq2 hq x6 q3 e1 q4=>?_);cases q4;have E0:=E0.trans e1;have f9:=f9.trans e1.g;have h7:=Gm e1.g h7;have a0:=4 e1.g;exact f8 q2 q3 _ f9 (15 E0) hq
      ·intro h0 q1 b0 f8 hq;have q5:=b0.g;have E0:=E0.trans b0;have a1:=10 b0.g;have h7:=Gm b0.g h7;have a0:=4 b0.g
       try dsimp only[az]
       exact f8 p6 h0 _ q5 (15 E0) hq
      ·intro x7 x8 x9 h1 iv hq;obtain⟨rfl,E0⟩:=iv;have h7:=Gm h1 h7;have a0:=4 h1;refine 62 (gO (aV h7) `J aQ aQ bW) λy0 hq y2 y3 g0 a4=>?_
       have E0:=E0.trans g0;have h7:=Gm g0.g h7;have a0:=4 g0.g;refine 119 (gf<|gZ<|gO (aV h7) `J aQ aQ bW) (36 λq6 hq y4 e2=>?_);have E0:=`bb;have h7:=Gm e2.g h7;have a0:=4 e2.g;have a4:=Gm e2.g a4;by_cases a7:1 q6
       ·rw[Z3 a7]at hq ⊢;exact 31 (qd ⋯ (aV a4)<|iF (K:=K) (u:=λ(z:Tx×(List Tx))=>PK [LU z.1,Sl (z.2.map λ(z:Tx)=>LU z)]) (qc iE<|wV (u:=λ(z:Tx)=>LU z) iE)<|105 (29 (x:=Gy "refused") (l:=[114,101,102,117,115,101,100]) _ _)<|II<|dj<|aX (29 (x:=Gy "NoSuchWay") (l:=[78,111,83,117,99,104,87,97,121]) _ _)<|di (R:=isS)) (Hi hq λy5 hq q7 q8 q9 r0=>46 q7 q8 q9 r0)
       ·rw[Z4 a7]at hq ⊢
        try dsimp only[az]
        refine 119 (jz (ay<|jr (oO (K:=K) Df<|kf (aV a4) ag)<|29 (x:=Gy "rank") (l:=[114,97,110,107]) _ _)<|jz (gf<|gZ<|iG (j:=1) ⋯<|kf (aV a4) ag)<|gZ<|iG (j:=0) ⋯<|kf (aV a4) ag) (36 λr1 hq y6 e3=>?_);have E0:=E0.trans e3;have h7:=Gm e3.g h7;have a0:=4 e3.g;have a4:=Gm e3.g a4;by_cases a7:1 r1
        ·rw[Z3 a7]at hq ⊢;exact 31 gc λr2 r3 r4 r5=>46 r2 r3 r4 r5
        ·rw[Z4 a7]at hq ⊢
         try dsimp only[az]
         refine 119 (jz (ay<|cG (oO (K:=K) wW<|kf (aV a4) ag) ag)<|ay<|cG (oO (K:=K) wW<|kf (aV a4) ag) aQ) (36 λr6 hq y7 e5=>?_);have E0:=E0.trans e5;have h7:=Gm e5.g h7;have a0:=4 e5.g;have a4:=Gm e5.g a4;by_cases a7:1 r6
         ·rw[Z3 a7]at hq ⊢;exact 31 gc λr7 r8 r9 s1=>46 r7 r8 r9 s1
         ·rw[Z4 a7]at hq ⊢
          try dsimp only[az]
          exact 31 (wY ⋯ (iX (Dm hEr) (aV h7) `J aQ aQ<|oO (K:=K) wW<|kf (aV a4) ag) bW) (Hi hq λy8 hq s2 s3 s4 s5=>46 s2 s3 s4 s5)
end
end Wb
namespace Wb
open PySem L2
section
variable{P:GJ}{w:GW}{K:Gr}{mg:Str->`M}{base:Heap}
theorem Ac{f:Addr}{fd:GV}{ps:`y}{k:Nat}:FnOk P w K mg `d CX0 k f fd ps (fP K 0):=⟨λ_ _ _ _ h=>h.elim,λ_ _ _ _ _ _ _ _ _ _ _ _ _ h=>h.elim⟩
theorem kit{K:Gr}(a b:String)(r:Bool)(h:0 (HD [] (.type a)<|.type b) r):0 (HD K (.type a)<|.type b) r:=by first|exact h|(rw[<-h];rfl)
theorem eT{c:TT}{t rest:TS}{D:Ends}{Z:St}{H:Hp}(h:∀Q:Bool->Hp->Prop,Q `K H->c Z H Q)(k:rest D Z H):eI (ik c t az) rest D Z H:=h _ k
theorem nQ{c:TT}{t rest:TS}{D:Ends}{Z:St}{H:Hp}(h:∀Q:Bool->Hp->Prop,Q `o H->c Z H Q)(k:t {D with nx:=rest D} Z H):eI (ik c t az) rest D Z H:=h _ k
theorem yk{f:Addr}{fd:GV}(F:54 K "_law_same" "_law_same" 69 f fd)(a2:28 "len")(a0:28 "isinstance")(a1:28 "bool")(a3:28 "int")(a4:28 "str")(a6:28 "list")(a7:28 "tuple")(a9:28 "zip"){n:Nat}
  (b0:Cal P w K mg `d "_law_same" `bV n (fP K n)):FnOk P w K mg `d CX0 (n+1) f fd `bV (fP K<|n+1):=by
 have SC:55 ["_law_found","_law_due","_law_one","_law_other"] `bV 69:=by walk_at "F"
 refine 63 SC ?_ ?_;·obtain⟨v,u,rfl,_⟩:=h;rfl
 ·obtain⟨v,u,rfl,h⟩:=h;have hr:Room n _:=hr
  refine 52 (ae (77 (Ld<|gJ (23 (op_isN.or gN) `aD vV)<|gJ (23 (op_isN.or gN) `aD cQ)<|gW<|23 (op_isN.or gN) `aD cQ) (fC (cM bS (71 `aV a0 Gz 0<|101 (v:=.ty "bool") a1 IL `a) (71 `aV a0 Gz 1<|101 (v:=.ty "bool") a1 IL `a)<|ax _)<|gE<|cM bS `aE `aD<|ax _) aA)<|ae (77 (bN<|71 `aV a0 Gz 1<|101 (v:=.ty "int") a3 IX `a) (fC (71 `aV a0 Gz 0<|101 (v:=.ty "int") a3 IX `a)<|fC (o9<|71 `aV a0 Gz 0<|101 (v:=.ty "bool") a1 IL `a)<|gE<|cM bS `aE `aD<|ax _) aA)<|ae (77 (bN<|71 `aV a0 Gz 1<|101 (v:=.ty "str") a4 Kh `a) (fC (71 `aV a0 Gz 0<|101 (v:=.ty "str") a4 Kh `a)<|gE<|cM bS `aE `aD<|ax _) aA)<|ae (77 (Ld<|dw (bN<|71 `aV a0 Gz 1<|101 (v:=.ty "list") a6 Jx `a)<|dg<|dG<|bN<|71 `aV a0 Gz 0<|101 (v:=.ty "list") a6 Jx `a) cQ aA)<|ae (77 (Ld<|dw (bN<|71 `aV a0 Gz 1<|101 (v:=.ty "tuple") a7 JT `a)<|dg<|dG<|bN<|71 `aV a0 Gz 0<|101 (v:=.ty "tuple") a7 JT `a) cQ aA)<|ae (77 (23 ir (87 (126 `a) a2 HJ<|16 0)<|87 (126 `a) a2 HJ<|16 1) cQ aA)<|ae (cY Hw `a (fG (K:=K) `a `a a9<|65 0 1 a8) (113 (n:=2) `a `a<|ar (bC (i:=2) SC.nd `a (by walk_at "L"))<|ar (bC (i:=3) SC.nd `a (by walk_at "L")) bI)<|af<|77 (dG<|bN<|wm b0 hr `T<|65 2 3 a8) cQ aA)<|47 cQ)
  rcases h with⟨he,q⟩|⟨x,y,rfl,rfl,q⟩
  rotate_left
  ·refine eT `bc (eT `bc<|nQ `bc ?_);·walk_at "S0";exact q
   ·walk_at "S0";exact⟨_,.str _,_,kit "str" "int" `K `a,q⟩
   ·walk_at "S0";exact⟨_,.str _,_,kit "str" "str" `o `a,q⟩
   ·walk_at "S0";refine⟨_,.str _,_,kit "str" "str" `o `a,?_⟩;walk_at "S0";simpa using q
  have fl:∀v,1 (L2.flat v)->(∀H',Same H H'->Q (.bl `o) H')->v=.non\/(∃b,v=.bl b)\/(∃i,v=.int i)\/∃x,v=.str x:=λv hv _=>by
   cases v with
   |non=>exact `X
   |bl b=>exact .inr (116 b `a)
   |int b=>exact .inr (.inr<|116 b `a)
   |str b=>exact .inr (.inr<|.inr ⟨b,`a⟩)
   |_=>cases hv
  have he':v=u/\1 (L2.flat v)\/∃m p q xs ys,2 n (m+1) (v=`O) (2 u (.ref q) (21 p (.lst xs)/\21 q (.lst ys)\/SqT K H p xs/\SqT K H q ys)<|`t=ys.length/\∀(i:Nat)(x y:V),0 xs[i]? x->0 ys[i]? y->EqK K H m x y):=by
   cases n with
   |zero=>exact .inl he
   |succ m=>rcases he with z|⟨p,q,xs,ys,z⟩;exact .inl z;exact .inr ⟨m,p,q,xs,ys,`a,z⟩
  rcases he' with⟨rfl,hf⟩|⟨m,p,q',xs,ys,hnm,rfl,rfl,hk,hl,hi⟩
  ·rcases fl v hf q with rfl | ⟨b,rfl⟩ | ⟨i,rfl⟩ | ⟨x,rfl⟩
   ·refine nQ `bc ?_;·walk_at "S0";exact q
    ·walk_at "S0";refine⟨_,.non,_,kit "NoneType" "bool" `K `a,_,.non,_,kit "NoneType" "bool" `K `a,?_⟩;walk_at "S0";exact q H (.refl H)
   ·refine nQ `bc ?_;·cases b<;>walk_at "S0"<;>exact q
    ·walk_at "S0";refine⟨_,.bl _,_,kit "bool" "bool" `o `a,_,.bl _,_,kit "bool" "bool" `o `a,?_⟩;walk_at "S0";exact q H (.refl H)
   ·refine eT `bc (nQ `bc ?_);·walk_at "S0";exact q
    ·walk_at "S0";exact⟨_,.int _,_,kit "int" "int" `o `a,q⟩
    ·walk_at "S0";refine⟨_,.int _,_,kit "int" "int" `o `a,?_⟩;walk_at "S0";refine⟨_,.int _,_,kit "int" "bool" `K `a,?_⟩;walk_at "S0";exact q H (.refl H)
   ·refine eT `bc (eT `bc<|nQ `bc ?_);·walk_at "S0";exact q
    ·walk_at "S0";exact⟨_,.str _,_,kit "str" "int" `K `a,q⟩
    ·walk_at "S0";exact⟨_,.str _,_,kit "str" "str" `o `a,q⟩
    ·walk_at "S0";refine⟨_,.str _,_,kit "str" "str" `o `a,?_⟩;walk_at "S0";exact q H (.refl H)
  ·subst hnm;obtain⟨T,tp1,tp2,tl,src1,src2,h1,h2,e1,e2⟩:∃(T:String)(tp1:TyOf K H (.ref p) (.type T))(tp2:TyOf K H (.ref q') (.type T))(tl:(T="list"/\SqL K H p xs/\SqL K H q' ys)\/(T="tuple"/\SqT K H p xs/\SqT K H q' ys))(src1 src2:Src),(∀H',Same H H'->src1.has K H' xs)/\(∀H',Same H H'->src2.has K H' ys)/\src1.val=`O/\src2.val=.ref q':=by
    rcases hk with⟨a,b⟩|⟨a,b⟩
    ·exact⟨"list",.lst a,.lst b,.inl ⟨`a,Jc a,Jc b⟩,.lst p,.lst q',λH' e=>Jc<|e _ _ a,λH' e=>Jc<|e _ _ b,`a,`a⟩
    ·exact⟨"tuple",.tup a,.tup b,.inr ⟨`a,a,b⟩,.tup p,.tup q',λH' e=>Jn e a,λH' e=>Jn e b,`a,`a⟩
   have hi0:0 (HD K (.type T)<|.type "int") `K:=by rcases tl with⟨rfl,_⟩|⟨rfl,_⟩;exact kit _ _ _ `a;exact kit _ _ _ `a
   have hs0:0 (HD K (.type T)<|.type "str") `K:=by rcases tl with⟨rfl,_⟩|⟨rfl,_⟩;exact kit _ _ _ `a;exact kit _ _ _ `a
   obtain⟨bl,hl0,hl1⟩:∃bl,0 (HD K (.type T) `bi) bl/\0 (HD K (.type T) `bo) (!bl):=by rcases tl with⟨rfl,_⟩|⟨rfl,_⟩;exact⟨`o,kit _ _ _ `a,kit _ _ _ `a⟩;exact⟨`K,kit _ _ _ `a,kit _ _ _ `a⟩
   have ln1:r0 K `O H `t:=by rcases tl with⟨_,t1,_⟩|⟨_,t1,_⟩;exact .inl (8 t1 `a);exact .inr (8 t1 `a)
   have ln2:r0 K (.ref q') H ys.length:=by rcases tl with⟨_,_,t2⟩|⟨_,_,t2⟩;exact .inl (8 t2 `a);exact .inr (8 t2 `a)
   refine eT `bc (eT `bc<|eT `bc<|eT `bc<|eT `bc<|eT `bc ?_);·walk_at "S0";exact q
   ·walk_at "S0";exact⟨_,tp2,_,hi0,q⟩
   ·walk_at "S0";exact⟨_,tp2,_,hs0,q⟩
   ·walk_at "S0";refine⟨_,tp2,_,hl0,?_⟩;cases bl with
    |false=>exact q
    |true=>walk_at "S0";exact⟨_,tp1,_,hl0,q⟩
   ·walk_at "S0";refine⟨_,tp2,_,hl1,?_⟩;cases bl with
    |true=>exact q
    |false=>walk_at "S0";exact⟨_,tp1,_,hl1,q⟩
   ·walk_at "S0";refine⟨_,ln1,_,ln2,?_⟩;simp only[hl,cw,br,d9,bH,tC,dM,aj,aU,bX,az,bT,aW,cf,bf,cv,tB,eV,rU,dZ,rI,cg,bY,aO,bj,ff,cx,fe,cy,bp,cz,bq,eW,bo,aF,eH,f9,eZ,f6,cA,cC,cm,cn,cB,aE,aP,L2.start,Hm,KC,M4,Kl,Im,Ja,Ls,Ju,Lz,MJ,Js,IZ,N1,exists_eq_left',exists_eq_left,exists_and_left,exists_eq',exists_const,Kx.injEq,Se.injEq,LS.injEq,V.ref.injEq,V.ty.injEq,NK,and_true,true_and,reduceCtorEq,false_and,and_false,exists_false,or_false,false_or,decide_eq_true_eq,N2,decide_eq_false_iff_not,if_true,if_false,Hg,ite_true,ite_false,KO,MK,OF,OG,and_assoc];exact q
   ·walk_at "S1";refine⟨_,`a,_,`a,src1,src2,xs,ys,by rw[e1,e2],h1 H<|.refl H,h2 H<|.refl H,sN (λi Z H2=>Same H H2/\∃a b,Z=[24 p,24 q',a,b]) ⟨.refl H,`j,`j,`a⟩ (λi Z H2⟨e,_⟩=>⟨h1 H2 e,h2 H2 e⟩) hl ?_ ?_⟩
    ·rintro i x y r Z H2 hx hy hr' ⟨e,a,b,rfl⟩;walk_at "S1";refine⟨_,OV aS,`a,?_⟩;walk_at "S1";refine⟨x,y,`a,116 ((hi i x y hx hy).same<|e.trans<|dq hr') λH3 e3=>?_⟩;walk_at "S1";exact e.trans ((dq hr').trans e3)
    ·rintro Z H2 ⟨e,a,b,rfl⟩;walk_at "S1";exact q H2 e
theorem yl{f:Addr}{fd:GV}(F:54 K "_law_same" "_law_same" 69 f fd)(a2:28 "len")(a0:28 "isinstance")(a1:28 "bool")(a3:28 "int")(a4:28 "str")(a6:28 "list")(a7:28 "tuple")(a9:28 "zip"){n:Nat}
  (b0:CalH P w K mg `d "_law_same" `bV n (nP n)):FnOkH P w K mg `d (n+1) f fd `bV (nP<|n+1):=by
 have SC:55 ["_law_found","_law_due","_law_one","_law_other"] `bV 69:=by walk_at "F"
 refine Fun.okH F SC (λx C vs H Q E h=>?_) λx C Z9 A outer s H vs Q E hE hr h=>?_;·rcases h with⟨_,rfl,_⟩|⟨_,_,_,_,_,rfl,_⟩<;>rfl
 ·refine 52 (ae (77 (Ld<|gJ (23 (op_isN.or gN) `aD vV)<|gJ (23 (op_isN.or gN) `aD cQ)<|gW<|23 (op_isN.or gN) `aD cQ) (fC (cM bS (71 `aV a0 Gz 0<|101 (v:=.ty "bool") a1 IL `a) (71 `aV a0 Gz 1<|101 (v:=.ty "bool") a1 IL `a)<|ax _)<|gE<|cM bS `aE `aD<|ax _) aA)<|ae (77 (bN<|71 `aV a0 Gz 1<|101 (v:=.ty "int") a3 IX `a) (fC (71 `aV a0 Gz 0<|101 (v:=.ty "int") a3 IX `a)<|fC (o9<|71 `aV a0 Gz 0<|101 (v:=.ty "bool") a1 IL `a)<|gE<|cM bS `aE `aD<|ax _) aA)<|ae (77 (bN<|71 `aV a0 Gz 1<|101 (v:=.ty "str") a4 Kh `a) (fC (71 `aV a0 Gz 0<|101 (v:=.ty "str") a4 Kh `a)<|gE<|cM bS `aE `aD<|ax _) aA)<|ae (77 (Ld<|dw (bN<|71 `aV a0 Gz 1<|101 (v:=.ty "list") a6 Jx `a)<|dg<|dG<|bN<|71 `aV a0 Gz 0<|101 (v:=.ty "list") a6 Jx `a) cQ aA)<|ae (77 (Ld<|dw (bN<|71 `aV a0 Gz 1<|101 (v:=.ty "tuple") a7 JT `a)<|dg<|dG<|bN<|71 `aV a0 Gz 0<|101 (v:=.ty "tuple") a7 JT `a) cQ aA)<|ae (77 (23 ir (87 (126 `a) a2 HJ<|16 0)<|87 (126 `a) a2 HJ<|16 1) cQ aA)<|ae (zO Hw hE.hdx (zN (K:=K) `a `a a9<|65 0 1 a8) (tF (K:=K) (n:=2) `a hE.hdx<|ar (bC (i:=2) SC.nd `a (by walk_at "L"))<|ar (bC (i:=3) SC.nd `a (by walk_at "L")) bI)<|af<|77 (dG<|bN<|zP b0 hE hr `T<|65 2 3 a8) cQ aA)<|47 cQ)
  rcases h with⟨t,rfl,q⟩|⟨m,p,q',xs,hnm,rfl,a,b,hs,q⟩
  ·refine eT `bc (eT `bc<|nQ `bc ?_);·walk_at "S0";exact q
   ·walk_at "S0";exact⟨_,.str _,_,kit "str" "int" `K `a,q⟩
   ·walk_at "S0";exact⟨_,.str _,_,kit "str" "str" `o `a,q⟩
   ·walk_at "S0";refine⟨_,.str _,_,kit "str" "str" `o `a,?_⟩;walk_at "S0";exact q
  ·subst hnm;refine eT `bc (eT `bc<|eT `bc<|eT `bc<|eT `bc<|eT `bc ?_);·walk_at "S0";exact q
   ·walk_at "S0";exact⟨_,.lst b,_,kit "list" "int" `K `a,q⟩
   ·walk_at "S0";exact⟨_,.lst b,_,kit "list" "str" `K `a,q⟩
   ·walk_at "S0";refine⟨_,.lst b,_,kit "list" "list" `o `a,?_⟩;walk_at "S0";exact⟨_,.lst a,_,kit "list" "list" `o `a,q⟩
   ·walk_at "S0";exact⟨_,.lst b,_,kit "list" "tuple" `K `a,q⟩
   ·walk_at "S0";refine⟨_,.inl<|8 (Jc a) `a,_,.inl<|8 (Jc b) `a,?_⟩;walk_at "S0";exact q
   ·walk_at "S1";refine⟨_,`a,_,`a,p,q',xs,xs,`a,Jc a,Jc b,sN (c1:=.lst p) (c2:=.lst q') (λi Z H2=>Same H H2/\∃a b,Z=[24 p,24 q',a,b]) ⟨.refl H,`j,`j,`a⟩ (λi Z H2⟨e,_⟩=>⟨Jc<|e _ _ a,Jc<|e _ _ b⟩) `a ?_ ?_⟩
    ·rintro i x y r Z H2 hx hy hr' ⟨e,a,b,rfl⟩;obtain⟨t,rfl⟩:=hs x (H9 hx);rw[hx]at hy;cases hy;walk_at "S1";refine⟨_,OV aS,`a,?_⟩;walk_at "S1";refine .inl (32 t ?_);walk_at "S1";exact e.trans (dq hr')
    ·rintro Z H2 ⟨e,a,b,rfl⟩;walk_at "S1";exact q H2 e
def u6(K:Gr):Sp:=λvs H Q _=>∃(a:Addr)(ns:List Int),2 vs [.ref a] (SqL K H a<|ns.map Kx) (ns.length<=63/\∀H',Q (.bl `o) H')
end
end Wb
namespace Mi
theorem iN{s:`P}(hs:s.length<=63)(k:Nat)(hk:k<=200):∃n,i7 s (k:Int)=.ok n:=by
 unfold i7 DY;by_cases h:(k:Int)<(s.length:Int)
 ·rw[Z3 `bL];obtain⟨x,e,_⟩:=kU (xs:=s) (i:=(k:Int)) `b h;exact⟨x,e⟩
 ·rw[Z4 `bL,wO `b `b];exact `au
theorem C2(c b:Int)(hb:1<=b)(hb2:b<1073741824)(k:Nat)(s:`c×`c×`P)(h1:0<=s.2.1)(hl:s.2.2.length<100000):∃s':Int×Int×List Int,2 (Cp c b (k:Int) s) (.ok s') (0<=s'.2.1) (∃v,0<=v/\v<b/\s'.2.2=s.2.2++[v]):=by
 unfold Cp;have hm0:=Hx (s.1*48271+7919+(k:Int)) (show(2147483647:Int)≠0 by decide);have hm1:=Hh (s.1*48271+7919+(k:Int)) (show(0:Int)<2147483647 by decide);generalize (s.1*48271+7919+(k:Int))%2147483647=mx at*
 have other:∀z:Int,0<=z%b/\z%b<b:=λz=>⟨Hx _ `b,Hh _ `b⟩
 have A:∀z:Int,jx s.2.2 z=.ok (s.2.2++[z]):=λz=>gy hl;have e2:(13 ((lD mx mx).bind λa0=>Gw<|a0%1000003) (λa1=>j7 a1 b) λa2=>jx s.2.2 a2)=.ok (s.2.2++[mx*mx%1000003%b]):=by
  rw[lO `b `b];simp only[Gq];rw[eO `b];exact A _
 have e1:((j7 s.2.1 b).bind λa3=>jx s.2.2 a3)=.ok (s.2.2++[s.2.1%b]):=by rw[eO `b];exact A _
 by_cases hf:(1000000000000000000:Int)<=fv c
 ·rw[decide_eq_true hf];by_cases hp:0<s.2.1
  ·rw[decide_eq_true hp];simp only[if_true,Gq,e1,pX (show 0<b by omega) hb2];exact⟨_,`a,Int.ediv_nonneg h1 `b,_,(other _).1,(other _).2,`a⟩
  ·rw[decide_eq_false hp];simp only[if_true,Gq,Hg,if_false,e2];exact⟨_,`a,h1,_,(other _).1,(other _).2,`a⟩
 ·rw[decide_eq_false hf];simp only[Gq,Hg,if_false,e2];exact⟨_,`a,h1,_,(other _).1,(other _).2,`a⟩
theorem mC(c:Int)(n:Nat)(b:Int)(hn:n<=1000)(hb:1<=b)(hb2:b<1073741824):∃ns,2 (iY c (n:Int) b) (.ok ns) (ns.length=n) (∀x∈ns,0<=x/\x<b):=by
 unfold iY DZ;rw[uR `b,Gq];obtain⟨s,e,h0,hl,hb⟩:=eP (f:=Cp c b) (λpre(s:Int×Int×List Int)=>0<=s.2.1/\s.2.2.length=`aG/\∀x∈s.2.2,0<=x/\x<b) ((Iw n).map λ(i:Nat)=>(i:Int)) ((fv c)%2147483647,fv c,[]) (32 (zm c) `g) (by
  intro pre a post s e ⟨h0,hl,hb'⟩;have hlen:`aG<n:=by have:=congrArg JA e;simp at this;omega
  obtain⟨k,rfl⟩:∃k:Nat,a=(k:Int):=by
   have:a∈(Iw n).map λ(i:Nat)=>(i:Int):=by rw[e];simp
   obtain⟨k,_,hk⟩:=HK.mp this;exact⟨k,hk.symm⟩
  obtain⟨s',e',h0',v,v0,v1,ev⟩:=C2 c b hb hb2 k s h0 `b;refine⟨s',e',h0',by rw[ev];simp[hl],`bG⟩;rw[ev]at hx;rcases HA.mp hx with z|z;·exact hb' x z
  ·rw[Jq.mp z];exact⟨v0,v1⟩)
 rw[e];exact⟨_,rfl,by rw[hl];simp,hb⟩
def isTurn(c:Nat):Prop:=c=102\/c=98\/c=105
instance zkeep89(c:Nat):Decidable `bg:=by unfold isTurn;infer_instance
def du(t:Tx):Prop:=∀c∈t,`bg
structure Card(t:Cd):Prop where
 lay:t.1=[83]\/t.1=[90]
 four:t.2.1.length=4
 col:∀c∈t.2.1,97<=c/\c<=122
 low:0<=t.2.2
 high:t.2.2<4
theorem ym(sz:Int)(ds:`P)(hsz:1<=sz)(hd:ds.length=5)(a:Int)(t:Tx)(ht:t.length<1000):∃c,97<=c/\c<=122/\Cq sz ds a t=.ok (t++[c]):=by
 unfold Cq;obtain⟨x,e,_⟩:=kU (xs:=ds) (i:=4) ⋯ (by rw[hd];decide);rw[e];simp only[Gq,eO (show 0<sz by omega)];have h0:=Hx (x+a%sz*7) (show(26:Int)≠0 by decide);have h1:=Hh (x+a%sz*7) (show(0:Int)<26 by decide);generalize (x+a%sz*7)%26=r at h0 h1;obtain⟨c,e2,h2⟩:=gz (x:=([97,98,99,100,101,102,103,104,105,106,107,108,109,110,111,112,113,114,115,116,117,118,119,120,121,122]:Tx)) (i:=r) h0 (by simp;omega) ⋯;rw[e2];simp only[Gq,dE (show t.length+[c].length<=100000 by simp;omega)];have hc:c∈([97,98,99,100,101,102,103,104,105,106,107,108,109,110,111,112,113,114,115,116,117,118,119,120,121,122]:Tx):=H9 h2;have:∀c∈([97,98,99,100,101,102,103,104,105,106,107,108,109,110,111,112,113,114,115,116,117,118,119,120,121,122]:Tx),97<=c/\c<=122:=`ac
 exact⟨c,(this c hc).1,(this c hc).2,`a⟩
theorem yn(c:Int):∃t,2 (zS c) (.ok t) (t.length=4) (∀x∈t,97<=x/\x<=122):=by
 unfold zS E3;have h0:=Hx c (show(5:Int)≠0 by decide);have h1:=Hh c (show(0:Int)<5 by decide);obtain⟨sz,e,h2⟩:=kU (xs:=[(1:Int),2,3,4,26]) (i:=c%5) h0 (by simp;omega);have hsz:1<=sz:=by
  have:∀x∈[(1:Int),2,3,4,26],1<=x:=`ac
  exact this sz (H9 h2)
 rw[e,Gq];obtain⟨ds,e2,hd,_⟩:=mC (c/5) 5 26 ⋯ ⋯ ⋯;rw[show iY (c/5) 5 26=Gw ds from e2,Gq,show cut ds `j (some 4)=ds.take 4 from jB ds 4];obtain⟨t,e3,h3,h4⟩:=eP (f:=Cq sz ds) (λpre t=>t.length=`aG/\∀x∈t,97<=x/\x<=122) (ds.take 4) [] (15 `g) (by
  intro pre a post t e ⟨hl,hb⟩;have hlen:`aG<5:=by have:=congrArg JA e;simp at this;omega
  obtain⟨c,c0,c1,ec⟩:=ym sz ds hsz hd a t `b;refine⟨_,ec,by simp[hl],`bG⟩;rcases HA.mp hx with z|z;·exact hb x z
  ·rw[Jq.mp z];exact⟨c0,c1⟩)
 rw[e3];exact⟨t,rfl,by rw[h3,K8];omega,h4⟩
theorem u7(c:Int):∃t,yO c=.ok t/\`ap:=by
 unfold yO E4;have h0:=Hx c (show(2:Int)≠0 by decide);have h1:=Hh c (show(0:Int)<2 by decide);obtain⟨y,e,h2⟩:=gz (x:=([83,90]:Tx)) (i:=c%2) h0 (by simp;omega) ⋯;obtain⟨t,e2,hl,hb⟩:=yn<|c/8;rw[e,Gq,e2,Gq];refine⟨_,`a,?_,hl,hb,Hx _ ⋯,Hh _ ⋯⟩;have:y=83\/y=90:=by simpa using H9 h2
 rcases this with rfl|rfl;·exact `X
 ·exact `bq
theorem sq(d:Int)(h0:0<=d)(h1:d<3):∃c,gw ([102,98,105]:Tx) d=.ok [c]/\`bg:=by
 obtain⟨c,e,h⟩:=gz (x:=([102,98,105]:Tx)) (i:=d) h0 (by simp;omega) ⋯;refine⟨c,e,?_⟩;have:=H9 h;simpa [isTurn] using this
theorem qI(c:Int)(n:Nat)(hn:n<=1000):∃t,2 (rZ c (n:Int)) (.ok t) (t.length=n) (du t):=by
 unfold rZ E5;by_cases h:c%7=3
 ·rw[Z3 `bL];obtain⟨y,e,hy⟩:=sq (c/7%3) (Hx _ ⋯) (Hh _ ⋯);rw[e,Gq,zk `b `b];refine⟨_,`a,`g,`bG⟩;rw[List.eq_of_mem_replicate hx];exact hy
 ·rw[Z4 `bL];obtain⟨ds,e,hl,hb⟩:=mC (c/7) n 3 hn ⋯ ⋯;rw[e,Gq];have key:∃t:List Nat,2 (fw ds λ(a9:Int)=>gw ([102,98,105]:Tx) a9) (.ok<|t.map λc=>[c]) (t.length=n) (du t):=by
   have:∀d∈ds,∃c:Nat,gw ([102,98,105]:Tx) d=.ok [c]/\`bg:=λd hd=>sq d (hb d hd).1 (hb d hd).2;have hf:∀d∈ds,gw ([102,98,105]:Tx) d=.ok ((λd=>[if d=0 then 102 else if d=1 then 98 else 105]) d):=λd hd=>by
    have h1:=hb d hd;have:d=0\/d=1\/d=2:=`b
    rcases this with rfl|rfl|rfl<;>rfl
   rw[gb (by show 94 ds.length;omega) hf];refine⟨ds.map λd=>if d=0 then 102 else if d=1 then 98 else 105,`g,by simp[hl],`bG⟩;obtain⟨d,_,rfl⟩:=HK.mp hx;unfold isTurn;split;·exact `X
   ·split;·exact .inr `X
    ·exact .inr `bq
  obtain⟨t,e2,hl2,ht⟩:=key;rw[e2,Gq,pY (by rw[sZ];omega),sZ];exact⟨t,`a,hl2,ht⟩
def go(c:Nat):Int:=if c=102 then 1 else if c=98 then -1 else 0
def tw(t:Cd)(c:Nat):Int:=if t.1=[83]then go c else -go c
def fB(t:Cd)(i:Int):Nat:=t.2.1[i.toNat]?.getD 0
def qJ(i:Int):Nat:=if i=1 then 115 else if i= -1 then 122 else 111
def behind(t:Cd)(c:Nat):Cd:=(t.1,t.2.1,(t.2.2+go c)%4)
def place(t:Cd)(c:Nat):Pl:=([fB t t.2.2],[fB t ((t.2.2+2)%4)],[qJ (tw t c)])
theorem DM(c:Nat): -1<=go c/\go c<=1:=by unfold go;split;omega;split<;>omega
theorem AZ(t:Cd)(c:Nat): -1<=tw t c/\tw t c<=1:=by have:=DM c;unfold tw;split<;>omega
theorem Card.behind{t:Cd}(h:`ap)(c:Nat):Card (behind t c):=⟨h.lay,h.four,h.col,Hx _ ⋯,Hh _ ⋯⟩
theorem B6{c:Nat}(h:`bg):qV [c]=.ok (go c):=by
 unfold qV E6;rcases h with rfl|rfl|rfl<;>rfl
theorem nR{t:Cd}{c:Nat}(h:`bg):l7 t [c]=.ok (behind t c):=by
 unfold l7 E7;rw[B6 h];rfl
theorem qK{t:Cd}{c:Nat}(h:`bg):kQ t [c]=.ok (tw t c):=by
 unfold kQ E8;rw[B6 h];by_cases z:t.1=[83]
 ·rw[`bJ];unfold tw;rw[Z3 z]
 ·rw[`bl];unfold tw;rw[Z4 z];simp only[Gq];congr 1;omega
theorem fS{t:Cd}(h:`ap){i:Int}(h0:0<=i)(h1:i<4):gw t.2.1 i=.ok [fB t i]:=Bw h0 (by rw[h.four];exact h1) (by rw[h.four];decide)
theorem i8(i:Int):0<=i%4/\i%4<4:=⟨Hx _ ⋯,Hh _ ⋯⟩
theorem C3{i:Int}(h: -1<=i/\i<=1):gw ([122,111,115]:Tx) (i+1)=.ok [qJ i]:=by
 have:i= -1\/i=0\/i=1:=`b
 rcases this with rfl|rfl|rfl<;>rfl
def fj:Cd->Tx->`h
 |_,[]=>[]
 |t,c::r=>place (behind t c) c::fj (behind t c) r
def ends:Cd->Tx->Cd
 |t,[]=>t
 |t,c::r=>ends (behind t c) r
theorem sr(t:Cd)(x:Tx):(fj t x).length=`V:=by
 induction x generalizing t with
 |nil=>rfl
 |cons c r ih=>simp[fj,ih]
theorem yo(x:Tx):∀(t:Cd)(c:Nat),ends t (x++[c])=behind (ends t x) c:=by
 induction x with
 |nil=>intro t c;rfl
 |cons d r ih=>intro t c;simp[ends,ih]
theorem Card.ends{t:Cd}(h:`ap)(x:Tx):Card (ends t x):=by
 induction x generalizing t with
 |nil=>exact h
 |cons c r ih=>exact ih (h.behind c)
theorem vG{t:Cd}(h:`ap){c:Nat}(hc:`bg){out:`h}(ho:out.length<100000):Cr l7 kQ [c] (t,out)=.ok (behind t c,out++[place (behind t c) c]):=by
 unfold Cr;have hb:=h.behind c;simp only[nR hc,Gq,qK hc,C3<|AZ _ _,fS hb hb.low hb.high,fS hb (i8 _).1 (i8 _).2];rw[gy ho];rfl
theorem nS{t:Cd}(h:`ap){x:Tx}(hx:du x)(hl:`V<=10000):sd t x=.ok (fj t x):=by
 unfold sd E9;have key:∀(x:Tx)(t:Cd)(out:List Pl),`ap->du x->out.length+`V<=10000->cK (Cr l7 kQ) (bG x) (t,out)=.ok (ends t x,out++fj t x):=by
  intro x
  induction x with
  |nil=>intro t out _ _ _;simp[bG,cK,ends,fj]
  |cons c r ih=>
   intro t out h hx hl;simp only[Ja]at hl;show cK _ ([c]::bG r) _=_;unfold cK;rw[vG h (hx c `g) `b,Gq,ih _ _ (h.behind c) (λd hd=>hx d<|by simp[hd]) (by simp;omega)];simp[ends,fj]
 rw[key x t [] h hx `bX];simp
def isCol(c:Nat):Prop:=97<=c/\c<=122
def isSl(c:Nat):Prop:=c=115\/c=122\/c=111
structure Mark(m:Pl):Prop where
 a:∃c,m.1=[c]/\(isCol c\/c=63)
 b:∃c,m.2.1=[c]/\(isCol c\/c=63)
 s:∃c,m.2.2=[c]/\(isSl c\/c=63)
structure Whole(m:Pl):Prop where
 a:∃c,m.1=[c]/\isCol c
 b:∃c,m.2.1=[c]/\isCol c
 s:∃c,m.2.2=[c]/\isSl c
theorem Whole.mark{m:Pl}(h:Whole m):Mark m:=by
 obtain⟨⟨a,h1,h2⟩,⟨b,h3,h4⟩,⟨s,h5,h6⟩⟩:=h;exact⟨⟨a,h1,.inl h2⟩,⟨b,h3,.inl h4⟩,⟨s,h5,.inl h6⟩⟩
theorem qL{t:Cd}(h:`ap){i:Int}(h0:0<=i)(h1:i<4):isCol (fB t i):=by
 unfold fB;have:i.toNat<t.2.1.length:=by rw[h.four];omega
 simp only[GB this,M3];exact h.col _ (J9 this)
theorem yp(i:Int):isSl (qJ i):=by unfold qJ isSl;split;exact `X;split;exact .inr `X;exact .inr `bq
theorem qM{t:Cd}(h:`ap)(c:Nat):Whole (place t c):=⟨8 `a<|qL h h.low h.high,8 `a<|qL h (i8 _).1 (i8 _).2,8 `a<|yp _⟩
theorem p8{t:Cd}(h:`ap)(x:Tx):∀m∈fj t x,Whole m:=by
 induction x generalizing t with
 |nil=>intro m hm;simp[fj]at hm
 |cons c r ih=>
  intro m hm;rcases GI.mp hm with rfl|hm
  ·exact qM (h.behind c) c
  ·exact ih (h.behind c) m hm
theorem qN{c:Nat}(h:isCol c):∃j d,isCol d/\j9 ([97,98,99,100,101,102,103,104,105,106,107,108,109,110,111,112,113,114,115,116,117,118,119,120,121,122,97]:Tx) [c]=.ok j/\gw ([97,98,99,100,101,102,103,104,105,106,107,108,109,110,111,112,113,114,115,116,117,118,119,120,121,122,97]:Tx) (j+1)=.ok [d]:=by
 have key:∀k:Fin 26,1 (match j9 ([97,98,99,100,101,102,103,104,105,106,107,108,109,110,111,112,113,114,115,116,117,118,119,120,121,122,97]:Tx) [97+k.1]with| .ok j=>(match gw ([97,98,99,100,101,102,103,104,105,106,107,108,109,110,111,112,113,114,115,116,117,118,119,120,121,122,97]:Tx) (j+1)with| .ok [d]=>decide (97<=d/\d<=122)|_=>false)|_=>false):=`ac
 obtain⟨k,rfl⟩:∃k:Fin 26,c=97+k.1:=⟨⟨c-97,by have:=h.1;have:=h.2;omega⟩,by have:=h.1;show c=97+(c-97);omega⟩
 have:=key k;split at this
 ·rename_i j e;split at this
  ·rename_i d e2;exact⟨j,d,by simpa [isCol] using this,e,e2⟩
  ·cases this
 ·cases this
theorem Ad{c:Nat}(h:isSl c):∃j d,isSl d/\j9 ([115,122,111]:Tx) [c]=.ok j/\gw ([122,111,115]:Tx) j=.ok [d]:=by
 rcases h with rfl|rfl|rfl;·exact⟨0,122,.inr `X,`a,`a⟩
 ·exact⟨1,111,.inr `bq,`a,`a⟩
 ·exact⟨2,115,`X,`a,`a⟩
def Ae(l:List Tx):Prop:=∃a b c,2 l [[a],[b],[c]] (isCol a) (isCol b/\isSl c)
theorem yq(cell:Int){p:Pl}(hp:Whole p){d:Int}(h0:0<=d)(h1:d<64){out:`h}(ho:out.length<1000):(Ct cell (p,d) out).Ok λr=>∃m,Mark m/\r=out++[m]:=by
 unfold Ct;obtain⟨⟨a,ea,ha⟩,⟨b,eb,hb⟩,⟨s,es,hs⟩⟩:=hp;simp only[ea,eb,es];refine ja (Iz (P:=λd'=>0<=d'/\d'<64) (kH (104 ⟨`b,`b⟩)<|104 ⟨h0,h1⟩) λd1 hd1=>?_);refine ja (Iz (P:=λd'=>0<=d'/\d'<64) (kH (104 ⟨`b,`b⟩)<|104 hd1) λd2 hd2=>?_);have hm0:=Hx d2 (show(3:Int)≠0 by decide);have hm1:=Hh d2 (show(0:Int)<3 by decide);have step1:((if(decide<|(56:Int)<=d2)then Gw (decide<|(d2%3)<(2:Int))else `aR).bind λa4=>(if a4 then 13 (13 ((gr [[a],[b],[s]]<|d2%3).bind λa5=>j9 ([97,98,99,100,101,102,103,104,105,106,107,108,109,110,111,112,113,114,115,116,117,118,119,120,121,122,97]:Tx) a5) (λa6=>Gw<|a6+(1:Int)) λa7=>gw ([97,98,99,100,101,102,103,104,105,106,107,108,109,110,111,112,113,114,115,116,117,118,119,120,121,122,97]:Tx) a7) (λa8=>lF [[a],[b],[s]] (d2%3) a8) λa9=>Gw a9 else Gw [[a],[b],[s]]:75 Tx)).Ok Ae:=by
  have dflt:Ae [[a],[b],[s]]:=⟨a,b,s,`a,ha,hb,hs⟩
  refine ja (kH (104 ?_)<|104 dflt);refine kH (λh2=>?_) (104 dflt);generalize d2%3=r at*
  have:r=0\/r=1:=`b
  rcases this with rfl|rfl
  ·obtain⟨j,d,hd,e1,e2⟩:=qN ha;simp only[show gr [[a],[b],[s]] 0=Gw [a]from rfl,Gq,e1,e2,show lF [[a],[b],[s]] 0 [d]=Gw [[d],[b],[s]]from rfl];exact okR ⟨d,b,s,`a,hd,hb,hs⟩
  ·obtain⟨j,d,hd,e1,e2⟩:=qN hb;simp only[show gr [[a],[b],[s]] 1=Gw [b]from rfl,Gq,e1,e2,show lF [[a],[b],[s]] 1 [d]=Gw [[a],[d],[s]]from rfl];exact okR ⟨a,d,s,`a,ha,hd,hs⟩
 refine ja (step1.imp λl1 ht=>?_);obtain⟨a,b,s,rfl,ha,hb,hs⟩:=ht;have step2:((if(decide<|(56:Int)<=d2)then Gw (decide<|(d2%3)=(2:Int))else `aR).bind λb0=>(if b0 then 13 (13 (gr [[a],[b],[s]] (2:Int)) (λb1=>j9 ([115,122,111]:Tx) b1) λb2=>gw ([122,111,115]:Tx) b2) (λb3=>lF [[a],[b],[s]] (2:Int) b3) λb4=>Gw b4 else Gw [[a],[b],[s]]:75 Tx)).Ok Ae:=by
  have dflt:Ae [[a],[b],[s]]:=⟨a,b,s,`a,ha,hb,hs⟩
  refine ja (kH (104 ?_)<|104 dflt);refine kH (λh2=>?_) (104 dflt);obtain⟨j,d,hd,e1,e2⟩:=Ad hs;simp only[show gr [[a],[b],[s]] 2=Gw [s]from rfl,Gq,e1,e2,show lF [[a],[b],[s]] 2 [d]=Gw [[a],[b],[d]]from rfl];exact okR ⟨a,b,d,`a,ha,hb,hd⟩
 refine ja (step2.imp λl2 ht=>?_);obtain⟨a,b,s,rfl,ha,hb,hs⟩:=ht;have cell1:∀(x:Nat)(k:Int),0<k->k<10->∃y,((((lE d2 k).bind λa0=>Gw<|a0%2).bind λa1=>Gw<|decide<|a1=(1:Int)).bind λa2=>if a2 then Gw [x]else Gw ([63]:Tx))=.ok [y]/\(y=x\/y=63):=λx k k0 k1=>by
  rw[pX k0 `b];simp only[Gq];by_cases h:d2/k%2=1;·rw[Z3 `bL];exact 32 x `X
  ·rw[Z4 `bL];exact 32 63 `bq
 obtain⟨x,ex,hx⟩:=cell1 a 1 ⋯ ⋯;obtain⟨y,ey,hy⟩:=cell1 b 2 ⋯ ⋯;obtain⟨z,ez,hz⟩:=cell1 s 4 ⋯ ⋯;have ec:fw ([[a],[b],[s]].zip [(1:Int),2,4]) (λ(a3:Tx×`c)=>(((lE d2 a3.2).bind λa0=>Gw<|a0%2).bind λa1=>Gw<|decide<|a1=(1:Int)).bind λa2=>if a2 then Gw a3.1 else Gw ([63]:Tx))=.ok [[x],[y],[z]]:=by
  unfold fw;rw[bZ (show([[a],[b],[s]].zip [(1:Int),2,4]).length<=cap from(by show 94 3;decide)),Gq];show kO _ [([a],(1:Int)),([b],2),([s],4)]=_;simp only[kO,ex,ey,ez,Gq]
 simp only[ec,Gq,Bt,gy (show out.length<100000 by omega)];refine 8 ⟨32 x ?_,32 y ?_,32 z ?_⟩ `a
 ·rcases hx with rfl | rfl;·exact .inl ha
  ·exact `bq
 ·rcases hy with rfl | rfl;·exact .inl hb
  ·exact `bq
 ·rcases hz with rfl | rfl;·exact .inl hs
  ·exact `bq
def Marks(n:Nat)(l:`h):Prop:=`ag=n/\∀m∈l,Mark m
theorem jN{S β:Type}{xs:`z}{ys:List β}{p:S×β}(h:p∈xs.zip ys):p.1∈xs/\p.2∈ys:=⟨(Kk h).1,(Kk h).2⟩
theorem yr{ps:`h}(hp:∀p∈ps,Whole p)(hl:`bh<=900)(cell:Int)(lies:Bool):(zU ps cell lies).Ok (Marks `bh):=by
 unfold zU Eb;have e0:∃b:Int,2 ((lD (8:Int) (if lies then(1:Int)else 0)).bind λy9=>Gw<|(56:Int)+y9) (.ok b) (56<=b) (b<=64):=by
  cases lies;·exact⟨56,`a,`ac,`ac⟩
  ·exact⟨64,`a,`ac,`ac⟩
 obtain⟨b,eb,hb0,hb1⟩:=e0;rw[eb,Gq];obtain⟨ns,en,hn,hns⟩:=mC (cell/5) `bh b `b `b `b;rw[en,Gq];obtain⟨r,er,hr⟩:=eP (f:=Ct cell) (λpre r=>Marks `aG r) (ps.zip ns) [] (15 `g) (by
  intro pre a post s e ⟨h1,h2⟩;have ha:a∈ps.zip ns:=by rw[e];simp
  have hlen:`aG<900:=by have:=congrArg JA e;simp[JB,hn]at this;omega
  obtain⟨r,er,m,hm,rfl⟩:=(yq cell (hp _ (jN ha).1) (hns _ (jN ha).2).1 (by have:=(hns _ (jN ha).2).2;omega) (out:=s) `b).ex;refine⟨_,er,by simp[h1],`bG⟩;rcases HA.mp hx with z|z;·exact h2 x z
  ·rw[Jq.mp z];exact hm)
 rw[er];refine⟨by rw[hr.1,JB,hn];omega,hr.2⟩
theorem Marks.get{n:Nat}{l:`h}(h:Marks n l){i:Int}(h0:0<=i)(h1:i<n):∃m,gr l i=.ok m/\Mark m:=by
 obtain⟨m,e,g⟩:=kU (xs:=l) h0 (by rw[h.1];exact h1);exact⟨m,e,h.2 m<|H9 g⟩
theorem vH{p:Pl}(h:Mark p):Mark ([63],p.2.1,[63]):=⟨32 63 `bq,h.b,32 63 `bq⟩
theorem Af{p:Pl}(hp:Mark p){d k:Int}{out:`h}(ho:out.length<1000):(Cs (p,d) (k,out)).Ok λr=>∃m,Mark m/\r.2=out++[m]:=by
 unfold Cs;refine ja (Iz (P:=λr:Int×Pl=>Mark r.2) (ja<|Iz (P:=λ_=>True) (kH (λ_=>okR trivial) λ_=>okR trivial) λb _=>DU (104<|vH hp)<|104 hp) λr hr=>?_);rw[gy (show(k,out).2.length<100000 from(by show out.length<100000;omega))];exact 8 hr `a
theorem C4(d:Int)(h0:0<=d)(h1:d<3):∃c,gw ([115,122,111]:Tx) d=.ok [c]/\isSl c:=by
 obtain⟨c,e,h⟩:=gz (x:=([115,122,111]:Tx)) (i:=d) h0 (by simp;omega) ⋯;exact⟨c,e,by simpa [isSl] using H9 h⟩
theorem Ag{ps:`h}(hp:∀p∈ps,Whole p)(hl:`bh<=900)(h1:1<=`bh)(cell:Int):(zT ps cell).Ok (Marks `bh):=by
 unfold zT Ea;obtain⟨ns,en,hn,hns⟩:=mC (cell/3) `bh 11 `b ⋯ ⋯;rw[en,Gq];obtain⟨r,er,hr⟩:=eP (f:=Cs) (λpre(r:Int×List Pl)=>Marks `aG r.2) (ps.zip ns) (0,[]) (15 `g) (by
  intro pre a post s e ⟨h1,h2⟩;have ha:a∈ps.zip ns:=by rw[e];simp
  have hlen:`aG<900:=by have:=congrArg JA e;simp[JB,hn]at this;omega
  obtain⟨k,out⟩:=s;obtain⟨r,er,m,hm,e2⟩:=(Af (hp _ (jN ha).1).mark (d:=a.2) (k:=k) (out:=out) (by have:out.length=`aG:=h1;omega)).ex;refine⟨r,er,by rw[e2];simp;exact h1,`bG⟩;rw[e2]at hx;rcases HA.mp hx with z|z;·exact h2 x z
  ·rw[Jq.mp z];exact hm)
 rw[er,Gq];have hr:Marks `bh r.2:=⟨by rw[hr.1,JB,hn];omega,hr.2⟩
 refine ja (Iz (P:=Marks `bh) (kH (λ_=>?_)<|104 hr) λr h=>okR h);rw[eO `b,Gq];have b0:=Hx (cell/3) (show(ps.length:Int)≠0 by omega);have b1:=Hh (cell/3) (show(0:Int)<(ps.length:Int) by omega);generalize cell/3%(ps.length:Int)=i at b0 b1;obtain⟨m,em,hm⟩:=hr.get b0 `b;obtain⟨c,ec,hc⟩:=C4 (cell/7%3) (Hx _ ⋯) (Hh _ ⋯);simp only[em,Gq,ec,zl b0 (show i<r.2.length by rw[hr.1];exact b1)];refine⟨by simp[hr.1],`bG⟩;rcases MP hx with z|z
 ·exact hr.2 x z
 ·rw[z];exact⟨hm.a,hm.b,32 c<|.inl hc⟩
theorem yt{n:Nat}{l:`h}(h:Marks n l)(hn:n<=900)(cell:Int):(yh l cell).Ok (Marks n):=by
 unfold yh Ei;refine ja (Iz (P:=λ_=>True) (kH (λ_=>okR trivial) λ_=>okR trivial) λb _=>DU (104 h) λ_=>?_);obtain⟨ns,en,hl,hns⟩:=mC (cell/8) `ag 5 (by rw[h.1];omega) ⋯ ⋯;rw[en,Gq];obtain⟨ys,ey,hy,hP⟩:=wR (xs:=l.zip ns) (P:=λx y=>Mark x.1->Mark y) (f:=λ(a0:(Tx×Tx×Tx)×`c)=>if(decide<|(1:Int)<a0.2)then Gw (([63]:Tx),([63]:Tx),([63]:Tx))else Gw a0.1) (by rw[JB,hl,h.1];omega) (by
  intro x _;by_cases z:1<x.2;·exact 8 `bJ λ_=>⟨32 63 `bq,32 63 `bq,32 63 `bq⟩
  ·exact 8 `bl λh=>h)
 rw[ey];refine⟨by rw[hy,JB,hl,h.1];omega,λm hm=>?_⟩;obtain⟨i,hi⟩:=KU.mp hm;have hil:=(GA.mp hi).1;rw[hy]at hil;have e:=GB hil;exact hP i _ m e hi (h.2 _ (jN<|J9 hil).1)
def u9(t:Cd):Cd:=(if t.1=[83]then [90]else [83],[fB t 0,fB t 3,fB t 2,fB t 1],(0-t.2.2)%4)
def sv(c:Nat):Nat:=if c=102 then 98 else if c=98 then 102 else c
def uc(t:Cd)(k:Int):Cd:=(t.1,[fB t ((0-k)%4),fB t<|(1-k)%4,fB t<|(2-k)%4,fB t<|(3-k)%4],(t.2.2+k)%4)
theorem qO{t:Cd}(h:`ap):zV t=.ok (u9 t):=by
 unfold zV Ec;have e1:((j9 ([83,90]:Tx) t.1).bind λy5=>gw ([90,83]:Tx) y5)=.ok (if t.1=[83]then [90]else [83]):=by
  rcases h.lay with e|e<;>rw[e]<;>rfl
 rw[e1];simp only[Gq,fS h (show(0:Int)<=0 by decide) ⋯,fS h (show(0:Int)<=3 by decide) ⋯,fS h (show(0:Int)<=2 by decide) ⋯,fS h (show(0:Int)<=1 by decide) ⋯];rfl
theorem yu{t:Cd}(h:`ap){x:Tx}(e:∀c∈x,∃i:Int,0<=i/\i<4/\c=fB t i):∀c∈x,97<=c/\c<=122:=λc hc=>by
 obtain⟨i,h0,h1,rfl⟩:=e c hc;unfold fB;have:i.toNat<t.2.1.length:=by rw[h.four];omega
 simp only[GB this,M3];exact h.col _ (J9 this)
theorem Card.flip{t:Cd}(h:`ap):Card (u9 t):=by
 refine⟨?_,`a,yu h λc hc=>?_,(i8 _).1,(i8 _).2⟩
 ·unfold u9;split;·exact `bq
  ·exact `X
 ·have:c=fB t 0\/c=fB t 3\/c=fB t 2\/c=fB t 1:=by simpa [u9] using hc
  rcases this with rfl|rfl|rfl|rfl;·exact⟨0,`ac,`ac,`a⟩
  ·exact⟨3,`ac,`ac,`a⟩
  ·exact⟨2,`ac,`ac,`a⟩
  ·exact⟨1,`ac,`ac,`a⟩
theorem Card.roll{t:Cd}(h:`ap)(k:Int):Card (uc t k):=by
 refine⟨h.lay,`a,yu h λc hc=>?_,(i8 _).1,(i8 _).2⟩;have:c=fB t ((0-k)%4)\/c=fB t ((1-k)%4)\/c=fB t ((2-k)%4)\/c=fB t ((3-k)%4):=by simpa [uc] using hc
 rcases this with rfl|rfl|rfl|rfl<;>exact⟨_,(i8 _).1,(i8 _).2,rfl⟩
theorem Ah{t:Cd}(h:`ap)(k:Int):zX t k=.ok (uc t k):=by
 unfold zX Ee;rw[show iy (4:Int)=Gw [(0:Int),1,2,3]from rfl,Gq];rw[gb (g:=λi:Int=>[fB t ((i-k)%4)]) ⋯ λi _=>fS h (i8 _).1 (i8 _).2];rfl
theorem yv{c:Nat}(h:`bg):isTurn (sv c):=by
 unfold sv;rcases h with rfl|rfl|rfl
 ·exact .inr `X
 ·exact `X
 ·exact .inr `bq
theorem Ai{x:Tx}(h:du x)(hl:`V<=10000):zW x=.ok (x.map sv):=by
 unfold zW Ed;rw[gb (g:=λt:Tx=>[sv (t.headD 0)]) (by show 94 (bG x).length;simp[bG];omega) (λt ht=>by
  obtain⟨c,hc,rfl⟩:=fg ht;rcases h c hc with rfl|rfl|rfl<;>rfl),Gq]
 have e:((bG x).map λt:Tx=>[sv (t.headD 0)])=(x.map sv).map λc=>[c]:=by simp[bG]
 rw[e,pY (by rw[sZ];simp;omega),sZ]
theorem sx{x:Tx}(h:du x):du (x.map sv):=λc hc=>by
 obtain⟨d,hd,rfl⟩:=HK.mp hc;exact yv (h d hd)
theorem ud(i:Int)(l:`P)(hl:`ag<1000):∃l',2 (Cu i l) (.ok l') (∀x,x∈l'↔x∈l\/x=i) ((l.Nodup->l'.Nodup)/\l'.length<=`ag+1):=by
 unfold Cu;by_cases h:i∈l
 ·refine⟨l,?_,λx=>⟨.inl,λz=>z.elim id λe=>e▸h⟩,id,`b⟩;rw[Z4 (by simp[h])];rfl
 ·refine⟨l++[i],?_,λx=>`g,λhn=>?_,`g⟩;·rw[Z3 (by simp[h]),gy `b];rfl
  ·rw[Pe];exact⟨hn,`g,λa ha b hb=>by simp at hb;subst hb;intro e;subst e;exact h ha⟩
def B7(t:Cd)(x:Tx)(i:Int):Prop:=∃k,0<k/\k<=`V/\(i=(ends t<|x.take k).2.2\/i=((ends t<|x.take k).2.2+2)%4)
theorem Aj{t:Cd}(h:`ap){x:Tx}(hx:du x)(hl:`V<=900):∃l,25 (zY t x) (.ok l) (l.Pairwise (· <= ·)) l.Nodup (∀i∈l,0<=i/\i<4) (∀i,i∈l↔B7 t x i):=by
 unfold zY Ef;obtain⟨s,e,h1,h2,h3,h4⟩:=eP (f:=DE l7) (λpre(s:Cd×List Int)=>2 s.1 (ends t<|x.take `aG) s.2.Nodup<|(∀i∈s.2,0<=i/\i<4)/\∀i,i∈s.2↔∃k,0<k/\k<=`aG/\(i=(ends t<|x.take k).2.2\/i=((ends t<|x.take k).2.2+2)%4)) (bG x) (t,[]) ⟨by simp[ends],`g,`g,λi=>⟨λz=>by simp at z,λ⟨k,a,b,_⟩=>by simp at b;omega⟩⟩ (by
  intro pre a post s e ⟨h1,h2,h3,h4⟩;have ha:a∈bG x:=by rw[e];simp
  obtain⟨c,hc,rfl⟩:=fg ha;have hlen:`aG<`V:=by have:=congrArg JA e;simp[bG]at this;omega
  have hget:0 x[pre.length]? c:=by
   have:=congrArg (λl=>l[pre.length]?) e;simp only[bG,GK,He<|GC _,LN,Js]at this;cases z:x[pre.length]? with
   |none=>rw[z]at this;cases this
   |some d=>rw[z]at this;simp at this;rw[this]
  have htake:x.take (`aG+1)=x.take `aG++[c]:=by
   rw[List.take_add_one,hget];rfl
  have small:s.2.length<=4:=by
   have hsub:s.2 ⊆ [(0:Int),1,2,3]:=λi hi=>by
    have:=h3 i hi;have:i=0\/i=1\/i=2\/i=3:=by omega
    simpa using this
   exact M6 h2 hsub
  unfold DE;rw[h1,nR (hx c hc),Gq];have hB:Card (behind (ends t<|x.take `aG) c):=(h.ends _).behind c;generalize hbe:behind (ends t<|x.take pre.length) c=B at hB ⊢;obtain⟨l1,e1,m1,n1,k1⟩:=ud B.2.2 s.2 `b;obtain⟨l2,e2,m2,n2,k2⟩:=ud ((B.2.2+2)%4) l1 `b;have el:cK Cu [B.2.2,(B.2.2+2)%4] s.2=.ok l2:=by simp only[cK,e1,e2,Gq]
  rw[el];have hE:ends t (x.take<|`aG+1)=B:=by rw[htake,yo,hbe]
  refine⟨(B,l2),`a,by simp[hE],n2<|n1 h2,λi hi=>?_,λi=>?_⟩
  ·rcases (m2 i).mp hi with z | z
   ·rcases (m1 i).mp z with z | z;·exact h3 i z
    ·rw[z];exact⟨hB.low,hB.high⟩
   ·rw[z];exact i8 _
  ·rw[m2,m1,h4];constructor
   ·rintro ((⟨k,a,b,z⟩ | z) | z);·exact⟨k,a,by simp;omega,z⟩
    ·exact⟨`aG+1,`b,`g,.inl (by rw[hE];exact z)⟩
    ·exact⟨`aG+1,`b,`g,.inr (by rw[hE];exact z)⟩
   ·rintro ⟨k,a,b,z⟩;simp at b;rcases Pf k (pre.length+1)with q|q;·exact .inl (.inl ⟨k,a,`b,z⟩)
    ·have:k=`aG+1:=by omega
     subst this;rw[hE]at z;rcases z with z|z
     ·exact .inl (.inr z)
     ·exact .inr z)
 rw[e,Gq];have hsub:s.2 ⊆ [(0:Int),1,2,3]:=λi hi=>by
  have:=h3 i hi;have:i=0\/i=1\/i=2\/i=3:=`b
  simpa using this
 have small:=M6 h2 hsub
 simp only[Ja,Ls]at small;rw[pZ `b];have pm:=iA s.2;refine⟨_,`a,nz _,pm.nodup_iff.mpr h2,λi hi=>h3 i<|pm.mem_iff.mp hi,λi=>?_⟩;rw[pm.mem_iff,h4];unfold B7;simp[bG]
theorem yw(d:Int)(h0:0<=d)(h1:d<26):∃c,2 (gw ([97,98,99,100,101,102,103,104,105,106,107,108,109,110,111,112,113,114,115,116,117,118,119,120,121,122]:Tx) d) (.ok [c]) (97<=c) (c<=122):=by
 obtain⟨c,e,h⟩:=gz (x:=([97,98,99,100,101,102,103,104,105,106,107,108,109,110,111,112,113,114,115,116,117,118,119,120,121,122]:Tx)) (i:=d) h0 (by simp;omega) ⋯;have:∀c∈([97,98,99,100,101,102,103,104,105,106,107,108,109,110,111,112,113,114,115,116,117,118,119,120,121,122]:Tx),97<=c/\c<=122:=`ac
 exact⟨c,e,this c<|H9 h⟩
def Ak(t:Cd)(i:Nat)(c:Nat):Cd:=(t.1,t.2.1.set i c,t.2.2)
theorem Card.dye{t:Cd}(h:`ap)(i:Nat){c:Nat}(h0:97<=c)(h1:c<=122):Card (Ak t i c):=⟨h.lay,by simp[Ak,h.four],λx hx=>by
 rcases MP hx with z|z;·exact h.col x z
 ·rw[z];exact⟨h0,h1⟩,h.low,h.high⟩
theorem Al{x:Tx}{i c:Nat}(h:i<`V):x.take i++[c]++x.drop (i+1)=x.set i c:=by
 rw[List.set_eq_take_append_cons_drop,Z3 h];simp
theorem yx{t:Cd}(h:`ap){i:Nat}(hi:i<4)(c:Nat):(13 ((fJ t.2.1 `j<|some (i:Int)).bind λa0=>dO a0 [c]) (λa1=>(fJ t.2.1 (some<|(i:Int)+(1:Int)) `j).bind λa2=>dO a1 a2) λa3=>Gw (t.1,a3,t.2.2))=.ok (Ak t i c):=by
 have hl:94 t.2.1.length:=by rw[h.four];decide
 rw[iW hl,jB,Gq,dE (by simp;have:=h.four;omega),Gq,show(i:Int)+1=((i+1:Nat):Int)from rfl,iW hl,lP,Gq,dE (by simp;have:=h.four;omega),Gq,Al (by rw[h.four];exact hi)];rfl
theorem C5(cell:Int)(l:`P){t:Cd}(h:`ap){i:Nat}(hi:i<4):∃t',2 (Cv cell l (i:Int) t) (.ok t') (Card t') (t'=t\/(i:Int)∉l/\∃c,t'=Ak t i c):=by
 unfold Cv;by_cases z:(i:Int)∈l;·rw[Z4 (by simp[z])];exact⟨t,`a,h,`X⟩
 ·rw[Z3 (by simp[z]),lO `b `b];simp only[Gq];obtain⟨c,e,h0,h1⟩:=yw ((cell/16+5*(i:Int))%26) (Hx _ ⋯) (Hh _ ⋯);rw[e];simp only[Gq];have:=yx h hi c;rw[this];exact⟨_,`a,h.dye i h0 h1,.inr ⟨z,c,`a⟩⟩
theorem C6{t:Cd}(h:`ap){x:Tx}(hx:du x)(hl:`V<=900)(cell:Int):(zZ t x cell).Ok λr=>Card r.1/\du r.2/\r.2.length=`V:=by
 unfold zZ Eg;refine ja (Iz (P:=λr:Cd×Tx=>Card r.1/\du r.2/\r.2.length=`V) (kH (λ_=>?_)<|104 ⟨h,hx,`a⟩) λr⟨h1,h2,h3⟩=>?_)
 ·rw[qO h,Gq,Ai hx `b,Gq];exact⟨h.flip,sx hx,`g⟩
 ·rw[Ah h1,Gq];have hr:=h1.roll<|cell/2%4;generalize uc r.1 (cell/2%4)=R at hr ⊢;refine ja (Iz (P:=Card) (kH (λ_=>?_)<|104 hr) λc hc=>okR ⟨hc,h2,h3⟩);obtain⟨l,el,_⟩:=Aj hr h2 `b;rw[el,Gq,show iy (4:Int)=Gw ((Iw 4).map λ(i:Nat)=>(i:Int))from rfl,Gq];obtain⟨s,es,hs⟩:=eP (f:=Cv cell l) (λpre s=>Card s) ((Iw 4).map λ(i:Nat)=>(i:Int)) R hr (by
   intro pre a post s e hs;have ha:a∈(Iw 4).map λ(i:Nat)=>(i:Int):=by rw[e];simp
   obtain⟨i,hi,rfl⟩:=HK.mp ha;obtain⟨t',e',h',_⟩:=C5 cell l hs (L6.mp hi);exact⟨t',e',h'⟩)
  rw[es];exact hs
theorem Am{s:`P}(hs:s.length<=63)(most:Nat)(hm:most<=24):(yP s (most:Int)).Ok λr=>Card r.1/\(∃n,n<=60/\Marks n r.2.1)/\0<=r.2.2/\r.2.2<4:=by
 unfold yP Eh;obtain⟨c0,e0⟩:=iN hs 0 ⋯;obtain⟨c1,e1⟩:=iN hs 1 ⋯;obtain⟨c2,e2⟩:=iN hs 2 ⋯;obtain⟨c3,e3⟩:=iN hs 3 ⋯;obtain⟨c4,e4⟩:=iN hs 4 ⋯;obtain⟨t,et,ht⟩:=u7 c0;rw[show i7 s 0=.ok c0 from e0,show i7 s 1=.ok c1 from e1,show i7 s 2=.ok c2 from e2,show i7 s 3=.ok c3 from e3,show i7 s 4=.ok c4 from e4];simp only[Gq,et];rw[eO `b,Gq];have z0:=Hx c2 (show(most:Int)+1≠0 by omega);have z1:=Hh c2 (show(0:Int)<(most:Int)+1 by omega);refine ja (Iz (P:=λd=>0<=d/\d<=60) (kH (104 ⟨`b,`b⟩)<|104 ⟨z0,`b⟩) λd1 hd1=>?_);refine ja (Iz (P:=λd=>0<=d/\d<=60) (kH (104 ⟨`b,`b⟩)<|104 hd1) λd2 hd2=>?_);obtain⟨n,rfl⟩:∃n:Nat,d2=(n:Int):=⟨d2.toNat,`b⟩
 obtain⟨x,ex,hxl,hx⟩:=qI c1 n `b;rw[ex];simp only[Gq,nS ht hx (show x.length<=10000 by omega)];have hw:=p8 ht x;have hpl:=sr t x;refine ja (Iz (P:=Marks n) (kH (λz=>?_) λ_=>?_) λl hl=>?_)
 ·refine ja (Iz (Ag hw `b `b c3) λr hr=>okR ?_);rw[hpl,hxl]at hr;exact hr
 ·refine ja (Iz (yr hw `b (c3/ 3) _) λr hr=>okR ?_);rw[hpl,hxl]at hr;exact hr
 ·refine ja (Iz (P:=Card) (kH (λ_=>?_)<|104 ht) λt1 h1=>?_);·exact ja (ja<|(C6 ht hx `b _).imp λr hr=>okR<|okR hr.1)
  ·refine ja (Iz (P:=Card) (kH (λ_=>?_)<|104 h1) λt2 h2=>?_)
   ·obtain⟨t',e',h'⟩:=u7<|c4/ 4/ 6;rw[e'];exact h'
   ·exact⟨h2,⟨n,`b,hl⟩,(i8 _).1,(i8 _).2⟩
def standAt(t:Cd)(i:Int):Cd:=(t.1,t.2.1,(if t.1=[83]then t.2.2+i else t.2.2-i)%4)
def fits(p m:Pl):Bool:=(decide (m.1=[63])||decide (m.1=p.1))&&((decide (m.2.1=[63])||decide (m.2.1=p.2.1))&&(decide (m.2.2=[63])||decide (m.2.2=p.2.2)))
theorem Card.standAt{t:Cd}(h:`ap)(i:Int):Card (standAt t i):=⟨h.lay,h.four,h.col,(i8 _).1,(i8 _).2⟩
theorem C7{t:Cd}(h:`ap):jM t=.ok [fB t t.2.2]:=by
 unfold jM tY;rw[show t.2.2%4=t.2.2 from Pg h.low h.high,fS h h.low h.high]
theorem vI{t:Cd}(h:`ap):A1 t=.ok [fB t ((t.2.2+2)%4)]:=by
 unfold A1 En;rw[fS h (i8 _).1 (i8 _).2]
theorem kJ{t:Cd}{c:Nat}(h:`bg):se t [c]=.ok (tw t c):=by
 unfold se Ek;have e:getD ([([102],1),([98],(-1)),([105],0)]:6 Tx `c) [c]=.ok (go c):=by rcases h with rfl|rfl|rfl<;>rfl
 rw[e,Gq];by_cases z:t.1=[83]
 ·rw[`bJ];unfold tw;rw[Z3 z]
 ·rw[`bl];unfold tw;rw[Z4 z]
theorem vJ{i:Int}(h: -1<=i/\i<=1):getD ([(1,[115]),((-1),[122]),(0,[111])]:6 `c Tx) i=.ok [qJ i]:=by
 have:i= -1\/i=0\/i=1:=`b
 rcases this with rfl|rfl|rfl<;>rfl
theorem An{t:Cd}(h:`ap){c:Nat}(hc:`bg):A2 t [c]=.ok (place t c):=by
 unfold A2 Eo;simp only[C7 h,vI h,kJ hc,Gq,vJ<|AZ t c];rfl
theorem sy(t:Cd)(i:Int):A0 t i=.ok (standAt t i):=by
 unfold A0 Em standAt;by_cases z:t.1=[83]
 ·rw[`bJ,Z3 z];rfl
 ·rw[`bl,Z4 z];rfl
theorem yy(a b:Tx):yQ a b=.ok (decide (b=[63])||decide (b=a)):=by
 unfold yQ Ep;by_cases z:b=[63]
 ·rw[`bJ,`ca];rfl
 ·rw[`bl,decide_eq_false z];rfl
theorem vK(p m:Pl):A3 p m=.ok (fits p m):=by
 unfold A3 Es;rw[gb (g:=λa1:Tx×Tx=>decide (a1.2=[63])||decide (a1.2=a1.1)) (by show 94 3;decide) λx _=>yy x.1 x.2,Gq];congr 1;simp[fits]
theorem nU{t:Cd}(h:`ap)(s:`m){c:Nat}(hc:`bg)(m:Pl):mH t s [c] m=.ok (fits (place (standAt t s.1) c) m):=by
 unfold mH Et;simp only[sy,Gq,An (h.standAt _) hc,vK]
def ak(t:Cd)(s:`m)(c:Nat):`m:=(s.1+tw t c,if c=105 then s.2+1 else 0)
theorem mD{t:Cd}(s:`m){c:Nat}(hc:`bg):jc t s [c]=.ok `Q:=by
 unfold jc El ak;simp only[kJ hc,Gq];by_cases z:c=105;·rw[Z3 (by simp[z]),Z3 z];rfl
 ·rw[Z4 (by simp[z]),Z4 z];rfl
def eU(s:`m)(loose bound:Int):Bool:=decide (fv s.1<=`f)&&decide (s.2<=`e)
theorem iZ(s:`m)(loose bound:Int):jL s `e `f=.ok (eU s `e `f):=by
 unfold jL Ej eU;by_cases z:fv s.1<=`f;·rw[`bJ,`ca];rfl
 ·rw[`bl,decide_eq_false z];rfl
def cS(t:Cd)(loose bound:Int)(s:`m)(c:Nat)(m:Pl):Bool:=eU `Q `e `f&&fits (place (standAt t (`Q).1) c) m
def eE(t:Cd)(loose bound:Int):`m->6 Nat Pl->Bool
 |_,[]=>true
 |s,(c,m)::r=>96 t s c m&&eE t `e `f `Q r
def jg(c:Nat):Bool:=decide<|isTurn c
theorem turnB_iff{c:Nat}:1 (jg c)↔`bg:=decide_eq_true_iff
def gU(x:Tx)(n:Nat):Bool:=decide (`V=n)&&x.all jg
theorem mW(c:Nat):([102,98,105]:Tx).contains c=jg c:=by
 rw[Jz,turnB_iff];simp[isTurn]
theorem vL{x:Tx}(hl:`V<=10000)(n:Nat):A6 x (n:Int)=.ok (gU x n):=by
 unfold A6 ED gU;rw[iV `b];simp only[Gq];by_cases z:`V=n
 ·rw[Z3 (by simp[z]),gb (g:=λt:Tx=>jg (t.headD 0)) (by show 94 (bG x).length;simp[bG];omega) (λt ht=>by
   obtain⟨c,hc,rfl⟩:=fg ht;show Gw _=_;rw[mW];rfl),Gq,`ca,Lp]
  congr 1;simp[bG,List.all_map,Function.comp_def]
  try rfl
 ·rw[Z4 (by simp;omega),decide_eq_false z];rfl
theorem sA{x:Tx}{n:Nat}(h:1 (gU x n)):`V=n/\du x:=by
 unfold gU at h;simp only[IF,decide_eq_true_eq,JF]at h;exact⟨h.1,λc hc=>turnB_iff.mp<|h.2 c hc⟩
theorem vM{β:Type}(x:Tx)(l:List β):(bG x).zip l=(x.zip l).map λp=>([p.1],p.2):=by
 unfold bG;rw[List.zip_map_left];rfl
theorem nV{t:Cd}(h:`ap)(loose bound:Int):∀(l:List (Nat×Pl)),(∀p∈l,isTurn p.1)->∀(s:Int×Int)(b:Bool),∃s',cK (CC jL jc mH t `e `f) (l.map λp=>([p.1],p.2)) (s,b)=.ok (s',b&&eE t `e `f s l)
 | [],_,s,b=>⟨s,by simp[cK,eE]⟩
 |(c,m)::r,hl,s,b=>by
  have hc:=hl (c,m) `g;obtain⟨s',e⟩:=nV h `e `f r (λp hp=>hl p<|by simp[hp]) `Q (b&&96 t s c m);refine⟨s',?_⟩;rw[Hm];unfold cK;have e1:CC jL jc mH t `e `f ([c],m) (s,b)=.ok (`Q,b&&96 t s c m):=by
   unfold CC;simp only[mD s hc,Gq,iZ,nU h _ hc];cases b with
   |false=>rfl
   |true=>
    simp only[if_true,Lp];unfold cS;cases z:eU (ak t s c) loose bound<;>rfl
  rw[e1,Gq,e];simp[eE,Bool.and_assoc]
theorem ue{t:Cd}(h:`ap)(strip:`h){loose bound:Int}(h0:0<=`e)(h1:0<=`f){x:Tx}(hl:`V<=10000):A7 t `k `e `f x=.ok (gU x `aP&&eE t `e `f (0,0) (x.zip `k)):=by
 unfold A7 EE;rw[vL hl];simp only[Gq];cases z:gU x strip.length with
 |false=>rfl
 |true=>
  obtain⟨_,hx⟩:=sA z;obtain⟨s',e⟩:=nV h `e `f (x.zip `k) (λp hp=>hx _ (Kk hp).1) (0,0) `o;have w:1 (eU (0,0) `e `f):=by unfold eU fv;simp[h0,h1]
  simp only[KO,Hg,if_false,iZ,w,Gq,vM,e,Lp]
theorem Ao(p m:Pl):eJ DF ([p.1,p.2.1,p.2.2].zip [m.1,m.2.1,m.2.2]) ()=.ok (if fits p m then .nx ()else .rt `K):=by
 rw[nH (g:=λa:Tx×Tx=>if decide (a.2=[63])||decide (a.2=a.1)then none else some `K) _ (λa _=>by
  unfold DF;by_cases z:a.2=[63]
  ·simp[z]
  ·by_cases y:a.2=a.1;·simp[z,y]
   ·simp[z,y])]
 congr 1;unfold fits;simp only[MI,List.zip_nil_right,Ot,List.findSome?_nil];cases decide (m.1=[63])||decide (m.1=p.1)<;>cases decide (m.2.1=[63])||decide (m.2.1=p.2.1)<;>cases decide (m.2.2=[63])||decide (m.2.2=p.2.2)<;>rfl
theorem Ap{t:Cd}(loose bound:Int)(s:`m)(hs: -1000000<s.2/\s.2<1000000){c:Nat}(hc:`bg)(m:Pl):CA kQ t `e `f ([c],place (standAt t (`Q).1) c,m) s=.ok (if 96 t s c m then .nx `Q else .rt `K):=by
 unfold CA;simp only[qK hc,Gq,Ao];rw[lO `b `b];simp only[Gq];have e:(s.2+1)*(if decide (([c]:Tx)=[105])=true then(1:Int)else 0)=(`Q).2:=by
  unfold ak;by_cases z:c=105;·simp[z]
  ·simp[z]
 rw[e];have e1:s.1+tw t c=(`Q).1:=rfl;rw[e1];unfold cS eU;by_cases z:`f<fv (`Q).1
 ·have:¬fv (`Q).1<=bound:=`b
  simp[z,this]
 ·have:fv (`Q).1<=`f:=`b
  by_cases y:`e<(`Q).2
  ·have:¬(`Q).2<=loose:=`b
   simp[*]
  ·have:(`Q).2<=`e:=`b
   simp only[z,y,decide_false,Hg,if_false,Gq,decide_eq_true ‹fv (ak t s c).1<=bound›,decide_eq_true ‹(ak t s c).2<=loose›,Bool.and_self,Lp];cases fits (place (standAt t (ak t s c).1) c) m<;>rfl
theorem p9(t:Cd)(i:Int)(c:Nat):behind (standAt t i) c=standAt t (i+tw t c):=by
 unfold behind standAt tw;split;·simp only[QU,true_and];omega
 ·simp only[QU,true_and];omega
theorem C8{t:Cd}(h:`ap):standAt t 0=t:=by
 unfold standAt;have:=h.low;have:=h.high;rw[Rh,Int.sub_zero,ite_self,Pg h.low h.high]
theorem nW{t:Cd}(loose bound:Int):∀(x:Tx)(strip:List Pl),du x->∀(s:Int×Int),0<=s.2->s.2+`V<100000->eJ (CA kQ t `e `f) ((bG x).zip<|(fj (standAt t s.1) x).zip `k) s=.ok (if eE t `e `f s (x.zip `k)then .nx ((x.zip `k).foldl (λs p=>ak t s p.1) s)else .rt `K)
 | [],strip,_,s,_,_=>by simp[bG,eJ,eE]
 |c::r,[],_,s,_,_=>by simp[bG,eJ,eE]
 |c::r,m::ms,hx,s,h0,h1=>by
  have hc:=hx c `g;simp only[Ja]at h1;have e:(bG<|c::r).zip ((fj (standAt t s.1)<|c::r).zip<|m::ms)=([c],place (standAt t (`Q).1) c,m)::(bG r).zip ((fj (standAt t (`Q).1) r).zip ms):=by
   simp only[fj,p9];rfl
  rw[e];unfold eJ;rw[Ap `e `f s ⟨`b,`b⟩ hc m,Gq];have b2:(`Q).2=s.2+1\/(`Q).2=0:=by unfold ak;split<;>simp
  have ih:=nW (t:=t) `e `f r ms (λd hd=>hx d<|by simp[hd]) `Q `b `b;simp only[MI,eE,Mk];cases z:cS t loose bound s c m with
  |false=>rfl
  |true=>simp only[if_true,wA,ih,Lp]
theorem nX{t:Cd}(h:`ap)(strip:`h)(loose bound:Int){x:Tx}(hl:`V<=10000):tZ t `k `e `f x=.ok (gU x `aP&&eE t `e `f (0,0) (x.zip `k)):=by
 unfold tZ EC;rw[iV `b];simp only[Gq];by_cases z:`V=`aP
 ·rw[Z4 (by simp[z])];rw[nH (g:=λt:Tx=>cond (jg<|t.headD 0) `j (some `K)) _ (λt ht=>by
   obtain⟨c,hc,rfl⟩:=fg ht;unfold EB;simp only[List.headD_cons];by_cases q:`bg;·rcases q with rfl|rfl|rfl<;>rfl
   ·rw[show 12 (jg c) from decide_eq_false q];have q1:c≠102:=λe=>q (.inl e);have q2:c≠98:=λe=>q (.inr<|.inl e);have q3:c≠105:=λe=>q (.inr<|.inr e);simp[q1,q2,q3]),Gq]
  cases hf:(bG x).findSome? λt:Tx=>cond (jg<|t.headD 0) none (some false)with
  |some r=>
   obtain⟨t',ht',e⟩:=List.exists_of_findSome?_eq_some hf;obtain⟨c,hc,rfl⟩:=fg ht';have q:12 (jg c):=by
    cases z:jg c with
    |false=>rfl
    |true=>simp[z]at e
   have:12 r:=by simpa [q] using e.symm
   subst this;have:12 (gU x `aP):=by
    unfold gU;rw[Bool.and_eq_false_iff];right;rw[List.all_eq_false];exact⟨c,hc,by simp[q]⟩
   simp[this]
  |none=>
   rw[List.findSome?_eq_none_iff]at hf;have hx:du x:=λc hc=>by
    have:=hf [c] (by unfold bG;exact HK.mpr ⟨c,hc,`a⟩);refine MN λq=>?_;simp[show jg c=false from decide_eq_false q]at this
   have hr:1 (gU x `aP):=by
    unfold gU;simp only[IF,decide_eq_true_eq,JF];exact⟨z,λc hc=>turnB_iff.mpr<|hx c hc⟩
   simp only[nS h hx hl,Gq];have w:=nW (t:=t) `e `f x `k hx (0,0) ⋯ (by show(0:Int)+_<_;omega);rw[show standAt t ((0,0):`m).1=t from C8 h]at w;rw[w,Gq,hr,Lp];cases eE t loose bound (0,0) (x.zip strip)<;>rfl
 ·rw[Z3 (by simp;omega)];have:12 (gU x `aP):=by unfold gU;simp[z]
  simp[this]
theorem absI_le{i b:Int}:fv i<=b↔ -b<=i/\i<=b:=by unfold fv;split<;>omega
def gV(t:Cd)(mk:Pl)(loose bound:Int)(s:`m):`br:=[102,98,105].filter λc=>96 t s c mk
theorem mem_onw{t:Cd}{mk:Pl}{loose bound:Int}{s:`m}{c:Nat}:c∈106 t mk s↔`bg/\1 (96 t s c mk):=by
 unfold gV;rw[ND];simp[isTurn]
theorem j5{t:Cd}(h:`ap)(mk:Pl)(loose bound:Int)(s:`m):gu t mk `e `f s=.ok ((106 t mk s).map λc=>([c],`Q)):=by
 unfold gu Eu gV;rw[gb (g:=λa:Tx=>(a,ak t s (a.headD 0))) (by show 94 3;decide) (λa ha=>by
  obtain⟨c,hc,rfl⟩:=fg ha;have ht:`bg:=by simpa [isTurn] using hc
  rw[mD s ht];rfl),Gq]
 rw[qa (g:=λa:Tx×(Int×Int)=>if 1 (96 t s (a.1.headD 0) mk) then some a else none) (by show 94 3;decide) (λa ha=>by
  obtain⟨x,hx,rfl⟩:=HK.mp ha;obtain⟨c,hc,rfl⟩:=fg hx;have ht:`bg:=by simpa [isTurn] using hc
  show((jL `Q `e `f).bind λy=>if y then mH t `Q [c] mk else `aR).bind (λy=>if y then Gw (some ([c],`Q))else Gw `j)=_;rw[iZ,Gq,nU h _ ht];show _=Gw (if 1 (96 t s c mk) then some ([c],`Q)else none);unfold cS;cases eU (ak t s c) loose bound<;>cases fits (place (standAt t (ak t s c).1) c) mk<;>rfl)]
 show Gw (List.filterMap _ [([102],ak t s 102),([98],ak t s 98),([105],ak t s 105)])=_;cases h1:cS t loose bound s 102 mk<;>cases h2:cS t loose bound s 98 mk<;>cases h3:cS t loose bound s 105 mk<;>simp[h1,h2,h3]
theorem sC:∀(n:Nat)(l:List Nat),l.Nodup->(∀x∈l,x<n)->`ag<=n
 |0,l,_,h=>by
  cases l with
  |nil=>simp
  |cons a l=>exact 135 (h a<|GO ..)
 |n+1,l,nd,h=>by
  by_cases z:n∈l
  ·have:=sC n (l.erase n) (nd.erase n) λx hx=>by
    have h1:=h x (LX hx);have h2:x≠n:=λe=>by subst e;exact(Lm nd) hx
    omega
   rw[Ln z]at this;omega
  ·have:=sC n l nd λx hx=>by
    have h1:=h x hx;have h2:x≠n:=λe=>z<|e▸hx;omega
   omega
theorem l8{S:Type}(pre:`z)(a:S):gr (pre++[a]) (-(1:Int))=.ok a:=by
 have e:0 (uK (pre++[a]) (-1)) a:=by
  unfold uK ixN;rw[`aZ,Z3 (by simp;omega)];show 0 (pre++[a])[_]? a;have:(-1+((pre++[a]).length:Int)).toNat=`aG:=by simp;omega
  rw[this];simp
 unfold gr;rw[e];rfl
def qP(p:`m):Prop:= -60<=p.1/\p.1<=60/\0<=p.2/\p.2<=3
theorem l9{l:`ar}(nd:l.Nodup)(h:∀p∈l,qP p):`ag<=484:=by
 have nd2:(l.map λp=>((p.1+60)*4+p.2).toNat).Nodup:=by
  rw[I9,Kn];refine(I9.mp nd).imp_of_mem λ{a b}ha hb hne e=>hne ?_;have h1:=h a ha;have h2:=h b hb;unfold qP at h1 h2;exact ME `b `b
 have:=sC 484 _ nd2 λx hx=>by
  obtain⟨p,hp,rfl⟩:=HK.mp hx;have h1:=h p hp;unfold qP at h1;omega
 simpa using this
theorem uf{t:Cd}{mk:Pl}{loose bound:Int}(hl:`e<=3)(hb:`f<=60){s:`m}(hs:qP s){c:Nat}(h:1 (96 t s c mk)):qP `Q:=by
 unfold cS eU at h;simp only[IF,decide_eq_true_eq]at h;have h1:=absI_le.mp h.1.1;have h2:=h.1.2;unfold qP at hs ⊢;refine⟨`b,`b,?_,`b⟩;unfold ak;dsimp only;split<;>omega
def Nx(t:Cd)(mk:Pl)(loose bound:Int)(l:`ar)(p:`m):Prop:=∃s∈l,∃c,`bg/\1 (96 t s c mk)/\p=`Q
theorem Nx.inb{t:Cd}{mk:Pl}{loose bound:Int}(hl:`e<=3)(hb:`f<=60){l:`ar}(h:∀p∈l,qP p){p:`m}(n:Nx t mk `e `f l p):qP p:=by
 obtain⟨s,hs,c,_,hm,rfl⟩:=n;exact uf hl hb (h s hs) hm
theorem C9{t:Cd}{mk:Pl}{loose bound:Int}{p:`m}:¬Nx t mk loose bound [] p:=λ⟨s,hs,_⟩=>by cases hs
theorem Aq{t:Cd}{mk:Pl}{loose bound:Int}{l:`ar}{a p:`m}:Nx t mk `e `f (l++[a]) p↔Nx t mk `e `f l p\/∃c∈gV t mk loose bound a,p=ak t a c:=by
 constructor
 ·rintro ⟨q,hq,c,hc,hm,rfl⟩;rcases HA.mp hq with hq|hq;·exact .inl ⟨q,hq,c,hc,hm,`a⟩
  ·have:q=a:=by simpa using hq
   subst this;exact .inr ⟨c,mem_onw.mpr ⟨hc,hm⟩,`a⟩
 ·rintro (⟨q,hq,z⟩ | ⟨c,hc,rfl⟩);·exact⟨q,by simp[hq],z⟩
  ·exact⟨a,`g,c,(`bS).1,(`bS).2,`a⟩
def pb(ks:`ar)(k:`m):`ar:=if k∈ks then ks else k::ks
theorem addP_mem{ks:`ar}{k p:`m}:p∈pb ks k↔p∈ks\/p=k:=by
 unfold pb;split
 ·rename_i z;exact⟨.inl,λh=>h.elim id λe=>e▸z⟩
 ·rw[GI];exact⟨λh=>h.symm,λh=>h.symm⟩
theorem ug{ks:`ar}(h:ks.Nodup)(k:`m):(pb ks k).Nodup:=by
 unfold pb;split;·exact h
 ·rename_i z;exact Io.mpr ⟨z,h⟩
def vN(l ks:`ar):`ar:=l.foldl pb ks
theorem jO:∀(l ks:List (Int×Int)),ks.Nodup->(vN l ks).Nodup/\∀p,p∈vN l ks↔p∈ks\/p∈l
 | [],ks,h=>⟨h,λp=>by simp[vN]⟩
 |a::l,ks,h=>by
  have ih:=jO l (pb ks a) (ug h a);refine⟨ih.1,λp=>?_⟩;show p∈vN l (pb ks a)↔_;rw[ih.2,addP_mem,GI,or_assoc]
def js(t:Cd)(mk:Pl)(loose bound:Int)(l:`ar):`ar:=gA (vN (l.flatMap λs=>(106 t mk s).map<|ak t s) [])
theorem qQ{t:Cd}{mk:Pl}{loose bound:Int}{l:`ar}{p:`m}:(p∈l.flatMap λs=>(106 t mk s).map (ak t s))↔Nx t mk `e `f l p:=by
 rw[List.mem_flatMap];constructor
 ·rintro ⟨s,hs,h⟩;obtain⟨c,hc,rfl⟩:=HK.mp h;exact⟨s,hs,c,(`bS).1,(`bS).2,`a⟩
 ·rintro ⟨s,hs,c,h1,h2,rfl⟩;exact⟨s,hs,HK.mpr ⟨c,mem_onw.mpr ⟨h1,h2⟩,`a⟩⟩
theorem mem_nxt{t:Cd}{mk:Pl}{loose bound:Int}{l:`ar}{p:`m}:p∈98 t mk l↔Nx t mk `e `f l p:=by
 unfold js;rw[(fR _).mem_iff,(jO _ [] LQ).2,qQ];simp
theorem Ca{t:Cd}{mk:Pl}{loose bound:Int}{l Z1:`ar}(nd:Z1.Nodup)(h:∀p,p∈Z1↔Nx t mk `e `f l p):gA Z1=98 t mk l:=by
 refine lT ((fR Z1).trans ?_) (lS Z1);have g:=jO (l.flatMap λs=>(106 t mk s).map<|ak t s) [] LQ;exact(List.perm_ext_iff_of_nodup nd g.1).mpr λp=>by rw[h,g.2,qQ];simp
theorem yA(ys:6 Tx `m)(s0:`ar)(nd:s0.Nodup)(h0:∀p∈s0,qP p)(hy:∀a∈ys,qP a.2):
  cK (λ(a:Tx×(Int×Int))(s:List (Int×Int))=>vb s a.2) ys s0=.ok (vN (ys.map (·.2)) s0):=by
 induction ys generalizing s0 with
 |nil=>rfl
 |cons a ys ih=>
  have hl:=l9 nd h0;show(vb s0 a.2).bind _=_;rw[show vb s0 a.2=.ok (pb s0 a.2)from bZ `b,Gq];exact ih (pb s0 a.2) (ug nd _) (λp hp=>by
   rcases addP_mem.mp hp with z|z;·exact h0 p z
   ·rw[z];exact hy a (GO ..)) λb hb=>hy b (GS _ hb)
theorem yB{t:Cd}(h:`ap)(mk:Pl){loose bound:Int}(hl:`e<=3)(hb:`f<=60){states:`ar}(hs:∀p∈states,qP p):sf t mk `e `f states=.ok (98 t mk states):=by
 unfold sf Ew;obtain⟨s,e,h1,h2⟩:=eP (f:=λ(a:Int×Int)(s:List (Int×Int))=>(gu t mk `e `f a).bind λy=>cK (λ(a:Tx×(Int×Int))(s:List (Int×Int))=>vb s a.2) y s) (λpre s=>s.Nodup/\∀p,p∈s↔Nx t mk `e `f pre p) states [] ⟨LQ,λp=>⟨λz=>(by cases z),λz=>absurd z C9⟩⟩ (by
  intro pre a post s e ⟨h1,h2⟩;have ha:qP a:=hs a (by rw[e];simp);have hp:∀p∈pre,qP p:=λp hp=>hs p (by rw[e];simp[hp]);rw[j5 h,Gq,yA _ s h1 (λp hq=>((h2 p).mp hq).inb hl hb hp) (λb hb'=>by
   obtain⟨c,hc,rfl⟩:=HK.mp hb';exact uf hl hb ha (`bS).2)]
  have g:=jO (((106 t mk a).map λc=>(([c]:Tx),ak t a c)).map (·.2)) s h1;refine⟨_,`a,g.1,λp=>?_⟩;rw[g.2,h2,Aq,JK,HK];exact or_congr Iff.rfl ⟨λ⟨c,h1,h2⟩=>⟨c,h1,h2.symm⟩,λ⟨c,h1,h2⟩=>⟨c,h1,h2.symm⟩⟩)
 have hlen:=l9 h1 λp hp=>((h2 p).mp hp).inb hl hb hs;rw[show cK _ states []=Gw s from e,Gq,show xm s=.ok (gA s)from bZ `b,Ca h1 h2]
def bV(t:Cd)(loose bound:Int):`h->`ar->List `ar
 | [],cur=>[cur]
 |m::r,cur=>match cur with
  | []=>[[]]
  |a::q=>(a::q)::80 t r (98 t m<|a::q)
theorem eF{t:Cd}{loose bound:Int}(l:`h)(cur:`ar):∃r,80 t l cur=cur::r:=by
 cases l with
 |nil=>exact `au
 |cons m l=>cases cur with
  |nil=>exact `au
  |cons a q=>exact `au
theorem jP{t:Cd}(h:`ap){loose bound:Int}(hl:`e<=3)(hb:`f<=60):∀(strip:List Pl)(pre:List (List<|Int×Int))(cur:List (Int×Int)),`aG+`aP<=1000->(∀p∈cur,qP p)->∃r,eJ (AY sf t `e `f) `k (pre++[cur])=.ok r/\(r=.nx (pre++80 t `k cur)\/r=.rt (pre++80 t `k cur))
 | [],pre,cur,_,_=>8 `a `X
 |m::strip,pre,cur,hp,hc=>by
  simp only[Ja]at hp;show ∃r,(AY sf t `e `f m<|pre++[cur]).bind _=.ok r/\_;cases cur with
  |nil=>
   refine⟨.rt<|pre++[[]],?_,`bq⟩;unfold AY;rw[l8];rfl
  |cons a q=>
   have e1:AY sf t `e `f m (pre++[a::q])=.ok (.nx<|pre++[a::q]++[98 t m (a::q)]):=by
    unfold AY;rw[l8,Gq,Gq,Z4 `g,Gq,yB h m hl hb hc,Gq,gy (by simp;omega)];rfl
   rw[e1,Gq];obtain⟨r,er,hr⟩:=jP h hl hb `k (pre++[a::q]) (98 t m<|a::q) (by simp;omega) λp hp=>(mem_nxt.mp hp).inb hl hb hc;refine⟨r,er,?_⟩;have e2:pre++80 t (m::`k) (a::q)=pre++[a::q]++80 t `k (98 t m<|a::q):=by
    rw[Hj];rfl
   rw[e2];exact hr
theorem Cb:∀p∈[((0:Int),(0:Int))],qP p:=λp hp=>by
 have:p=(0,0):=by simpa using hp
 subst this;exact⟨`ac,`ac,`ac,`ac⟩
theorem Ar{t:Cd}(h:`ap){loose bound:Int}(h0:0<=`e)(h1:0<=`f)(hl:`e<=3)(hb:`f<=60)(strip:`h)(hs:`aP<=1000):A4 t `k `e `f=.ok (80 t `k [(0,0)]):=by
 unfold A4 Ex;have w:1 (eU (0,0) `e `f):=by
  unfold eU fv;simp;omega
 rw[iZ,w,Gq,`aX,Gq,Gq];obtain⟨r,er,hr⟩:=jP h hl hb `k [] [(0,0)] (by simpa using hs) Cb;rw[show eJ _ `k [[((0:Int),(0:Int))]]=Gw r from er,Gq];rcases hr with rfl|rfl<;>rfl
def cnt(t:Cd)(loose bound:Int):`h->`m->`c
 | [],_=>1
 |m::r,s=>((106 t m s).map λc=>61 t r `Q).sum
def vO(b:Bool)(i:Int):Int:=if 1 b then i else 0
theorem kA{t:Cd}{loose bound:Int}{m:Pl}{r:`h}{s:`m}:61 t (m::r) s=vO (96 t s 102 m) (61 t r<|ak t s 102)+vO (96 t s 98 m) (61 t r<|ak t s 98)+vO (96 t s 105 m) (61 t r<|ak t s 105):=by
 show((106 t m s).map λc=>61 t r `Q).sum=_;unfold gV vO;cases h1:cS t loose bound s 102 m<;>cases h2:cS t loose bound s 98 m<;>cases h3:cS t loose bound s 105 m<;>simp[h1,h2,h3]<;>omega
theorem kC{b:Bool}{i:Int}(h:0<=i):0<=vO b i:=by unfold vO;split<;>omega
theorem gq{t:Cd}{loose bound:Int}:∀(l:List Pl)(s:Int×Int),0<=61 t l s
 | [],_=>by show(0:Int)<=1;decide
 |m::r,s=>by
  rw[kA];have h1:=kC (b:=96 t s 102 m) (gq (t:=t) (loose:=loose) (bound:=bound) r<|ak t s 102);have h2:=kC (b:=96 t s 98 m) (gq (t:=t) (loose:=loose) (bound:=bound) r<|ak t s 98);have h3:=kC (b:=96 t s 105 m) (gq (t:=t) (loose:=loose) (bound:=bound) r<|ak t s 105);omega
theorem cnt_pos{t:Cd}{loose bound:Int}{m:Pl}{r:`h}{s:`m}:61 t (m::r) s=0↔∀c,`bg->1 (96 t s c m)->61 t r `Q=0:=by
 rw[kA];have n1:=gq (t:=t) (loose:=loose) (bound:=bound) r (ak t s 102);have n2:=gq (t:=t) (loose:=loose) (bound:=bound) r (ak t s 98);have n3:=gq (t:=t) (loose:=loose) (bound:=bound) r (ak t s 105);have h1:=kC (b:=96 t s 102 m) n1;have h2:=kC (b:=96 t s 98 m) n2;have h3:=kC (b:=96 t s 105 m) n3;constructor
 ·intro h c hc hm;rcases hc with rfl|rfl|rfl
  ·have:vO (96 t s 102 m) (61 t r<|ak t s 102)=0:=`b
   rw[hm]at this;exact this
  ·have:vO (96 t s 98 m) (61 t r<|ak t s 98)=0:=`b
   rw[hm]at this;exact this
  ·have:vO (96 t s 105 m) (61 t r<|ak t s 105)=0:=`b
   rw[hm]at this;exact this
 ·intro h;have key:∀c,`bg->vO (96 t s c m) (61 t r `Q)=0:=λc hc=>by
   unfold vO;split;·rename_i z;exact h c hc z
   ·rfl
  rw[key 102 `X,key 98 (.inr `X),key 105 (.inr `bq)];rfl
theorem jQ{t:Cd}{loose bound:Int}(l:`h)(cur:`ar):0<(80 t l cur).length:=by
 obtain⟨r,hr⟩:=eF (t:=t) (loose:=loose) (bound:=bound) l cur;rw[hr];simp
theorem nY{t:Cd}{loose bound:Int}:∀(l:List Pl)(cur:List (Int×Int)),(80 t l cur).length<=`ag+1
 | [],cur=>`w
 |m::r,[]=>by show 1<=_;omega
 |m::r,a::q=>by
  have:=nY (t:=t) (loose:=loose) (bound:=bound) r (98 t m<|a::q);show(80 t r<|98 t m<|a::q).length+1<=r.length+1+1;omega
theorem jR{t:Cd}{loose bound:Int}:∀(l:List Pl)(cur:List (Int×Int))(i:Nat),i+1<(80 t l cur).length->∃m L,0 l[i]? m/\0 (80 t l cur)[i]? L/\0 (80 t l cur)[i+1]? (98 t m L)
 | [],cur,i,h=>absurd h (by show ¬i+1<1;omega)
 |m::r,[],i,h=>absurd h (by show ¬i+1<1;omega)
 |m::r,a::q,0,h=>by
  obtain⟨z,hz⟩:=eF (t:=t) (loose:=loose) (bound:=bound) r (98 t m<|a::q);refine⟨m,a::q,`a,`a,?_⟩;show(80 t r<|98 t m<|a::q)[0]? =_;rw[hz];rfl
 |m::r,a::q,i+1,h=>by
  have h':i+1<(80 t r<|98 t m<|a::q).length:=by
   have:i+1+1<(80 t r<|98 t m<|a::q).length+1:=h;omega
  exact jR r (98 t m<|a::q) i h'
theorem Cc{t:Cd}{m:Pl}{loose bound:Int}{l:`ar}:(98 t m l).Nodup:=(fR _).nodup_iff.mpr (jO _ [] LQ).1
theorem kD{t:Cd}{loose bound:Int}(hl:`e<=3)(hb:`f<=60):∀(l:List Pl)(cur:List (Int×Int)),cur.Nodup->(∀p∈cur,qP p)->∀L∈bV t loose bound l cur,L.Nodup/\∀p∈L,qP p
 | [],cur,h1,h2,L,hL=>by
  have:L=cur:=by simpa [bV] using hL
  rw[this];exact⟨h1,h2⟩
 |m::r,[],h1,h2,L,hL=>by
  have:L=[]:=by simpa [bV] using hL
  rw[this];exact⟨h1,h2⟩
 |m::r,a::q,h1,h2,L,hL=>by
  rcases GI.mp (show L∈(a::q)::bV t loose bound r (js t m loose bound (a::q))from hL)with rfl|hL;·exact⟨h1,h2⟩
  ·exact kD hl hb r _ Cc (λp hp=>(mem_nxt.mp hp).inb hl hb h2) L hL
theorem jt{t:Cd}{loose bound:Int}:∀(l:List Pl)(cur:List (Int×Int)),∃L,0 (80 t l cur)[(80 t l cur).length-1]? L/\(L=[]\/(80 t l cur).length=`ag+1)/\(L=[]↔∀s∈cur,61 t l s=0)
 | [],cur=>⟨cur,rfl, `bq,by
  constructor
  ·intro h;rw[h];exact λs hs=>by cases hs
  ·intro h;cases cur with
   |nil=>rfl
   |cons a q=>exact absurd (h a (GO ..)) (by show ¬(1:Int)=0;decide)⟩
 |m::r,[]=>⟨[],`a,`X,`g⟩
 |m::r,a::q=>by
  obtain⟨L,h1,h2,h3⟩:=jt (t:=t) (loose:=loose) (bound:=bound) r (98 t m<|a::q);have hp:=jQ (t:=t) (loose:=loose) (bound:=bound) r (98 t m<|a::q);refine⟨L,?_,?_,?_⟩
  ·show 0 ((a::q)::80 t r (98 t m<|a::q))[(80 t r<|98 t m<|a::q).length+1-1]? L;rw[ML];have e:(80 t r<|98 t m<|a::q).length=(80 t r<|98 t m<|a::q).length-1+1:=`b
   rw[e,IZ];exact h1
  ·refine h2.imp id λh=>?_;show(80 t r<|98 t m<|a::q).length+1=_;rw[h];rfl
  ·rw[h3];constructor
   ·intro h s hs;exact cnt_pos.mpr λc hc hm=>h _ (mem_nxt.mpr ⟨s,hs,c,hc,hm,`a⟩)
   ·intro h p hp;obtain⟨s,hs,c,hc,hm,rfl⟩:=mem_nxt.mp hp;exact cnt_pos.mp (h s hs) c hc hm
theorem yC{S:Type}{xs:`z}{a:S}(h:0 xs[`t-1]? a):gr xs (-(1:Int))=.ok a:=by
 have hl:`t-1<`t:=(GA.mp h).1;have e:0 (uK xs (-1)) a:=by
  unfold uK ixN;rw[`aZ,Z3 `b];show 0 xs[_]? a;have:(-1+(xs.length:Int)).toNat=`t-1:=`b
  rw[this];exact h
 unfold gr;rw[e];rfl
theorem fu{S:Type}{xs:`z}{i:Nat}{a:S}(h:0 xs[i]? a):gr xs (i:Int)=.ok a:=by
 unfold gr;rw[sQ h];rfl
theorem yD{S:Type}{kvs:6 `m S}{k:`m}{a:S}(h:∀q∈kvs,q.1≠k):qb kvs k a=kvs++[(k,a)]:=by
 unfold qb;rw[Z4];intro z;obtain⟨q,h1,h2⟩:=List.any_eq_true.mp z;exact h q h1 (by simpa using h2)
theorem pf{S:Type}{f:64 `m (6 `m S) (6 `m S)}{g:`m->S}{ks:`ar}(nd:ks.Nodup)(hl:ks.length<=900)(h:∀k∈ks,∀s:List ((Int×Int)×S),f k s=mj s k (g k)):cK f ks []=.ok (ks.map λk=>(k,g k)):=by
 obtain⟨s,e,h1⟩:=eP (f:=f) (λpre s=>s=pre.map λk=>(k,g k)) ks [] `a (by
  intro pre a post s e h1;have hp:`aG<=900:=by rw[e]at hl;simp at hl;omega
  rw[h a (by rw[e];simp),h1];refine 52 (bZ (by rw[Ho];omega));rw[yD λq hq=>?_];·simp
  ·obtain⟨k,hk,rfl⟩:=HK.mp hq;intro z;have z:k=a:=z;subst z;rw[e,Pe]at nd;exact nd.2.2 k hk k (GO ..) `a)
 rw[e,h1]
theorem qR{S:Type}{g:`m->S}{k:`m}:∀{ks:List (Int×Int)},k∈ks->0 (look (ks.map λk=>(k,g k)) k) (g k)
 |a::ks,h=>by
  by_cases e:a=k;·subst e;simp[look,Jo]
  ·have:k∈ks:=by
    rcases GI.mp h with z|z;·exact absurd z.symm e
    ·exact z
   have ih:=qR (g:=g) this;simp only[look,Hm,Jo,decide_eq_false e]at ih ⊢;exact ih
theorem jS{S:Type}{g:`m->S}{k:`m}{ks:`ar}(h:k∈ks):getD (ks.map λk=>(k,g k)) k=.ok (g k):=by
 unfold getD;rw[qR h];rfl
def dc(t:Cd)(strip:`h)(loose bound:Int)(i:Nat):6 `m `c:=((80 t `k [(0,0)])[i]?.getD []).map λs=>(s,61 t (strip.drop i) s)
theorem yE{t:Cd}(h:`ap){strip:`h}{loose bound:Int}(hl:`e<=3)(hb:`f<=60){i:Nat}{m:Pl}{L:`ar}(h1:0 `k[i]? m)(h2:0 (80 t `k [(0,0)])[i]? L)(h3:0 (80 t `k [(0,0)])[i+1]? (98 t m L))
  {pre:List (6 `m `c)} (hp:`aG<=900):Cw gu t `k `e `f (80 t `k [(0,0)]) (i:Int) (pre++[dc t `k `e `f (i+1)])=.ok (pre++[dc t `k `e `f (i+1)]++[dc t strip loose bound i]):=by
 have all:=kD (t:=t) hl hb `k [(0,0)] `g Cb L (H9 h2);have len:=l9 all.1 all.2;have ed:dc t `k `e `f (i+1)=(98 t m L).map λs=>(s,61 t (strip.drop<|i+1) s):=by unfold dc;rw[h3];rfl
 have ei:dc t `k `e `f i=L.map λs=>(s,61 t (strip.drop i) s):=by unfold dc;rw[h2];rfl
 have dr:strip.drop i=m::strip.drop (i+1):=by
  obtain⟨hi,e⟩:=GA.mp h1;rw[Il hi,e]
 unfold Cw;rw[l8,Gq,fu h2,Gq];rw[pf (g:=λs=>(106 t m s).map λc=>(([c]:Tx),`Q)) all.1 `b (λk hk s=>by
  rw[fu h1,Gq,j5 h,Gq]),Gq,JK]
 rw[show Si ((λx:(Int×Int)×List (Tx×(Int×Int))=>x.1)∘λk=>(k,(106 t m k).map λc=>(([c]:Tx),ak t k c))) L=L from by
  rw[show((λx:(Int×Int)×List (Tx×(Int×Int))=>x.1)∘λk=>(k,(106 t m k).map λc=>(([c]:Tx),ak t k c)))=id from rfl,RD]]
 rw[pf (g:=λs=>61 t (strip.drop i) s) all.1 `b (λk hk s=>by
  rw[jS hk,Gq,gb (g:=λa:Tx×(Int×Int)=>61 t (strip.drop<|i+1) a.2) (by rw[Ho];unfold gV cap;refine Ip (M0 _ _) ⋯) (λa ha=>by
   obtain⟨c,hc,rfl⟩:=HK.mp ha;rw[ed];exact jS (mem_nxt.mpr ⟨k,hk,c,(`bS).1,(`bS).2,`a⟩)),Gq,Gq,JK]
  congr 1;rw[dr];rfl),Gq,gy (by simp;omega),Gq,ei]
theorem jT{t:Cd}(h:`ap){strip:`h}(hs:`aP<=60){loose bound:Int}(h0:0<=`e)(hl:`e<=3)(hb0:0<=`f)(hb:`f<=60):∃D,2 (mV t `k `e `f) (.ok D) (D.length=(80 t `k [(0,0)]).length) (∀i,i<D.length->0 D[i]? (dc t `k `e `f i)):=by
 unfold mV Ey;rw[Ar h h0 hb0 hl hb `k `b,Gq];obtain⟨L,hL,hE,_⟩:=jt (t:=t) (loose:=loose) (bound:=bound) `k [(0,0)];have hpos:=jQ (t:=t) (loose:=loose) (bound:=bound) `k [(0,0)];have hlen:=nY (t:=t) (loose:=loose) (bound:=bound) `k [(0,0)];have all:=kD (t:=t) hl hb `k [(0,0)] `g Cb L (H9 hL);have len:=l9 all.1 all.2;obtain⟨k,hk⟩:∃k,(80 t `k [(0,0)]).length=k+1:=42 (Nat.sub_add_cancel hpos).symm
 rw[hk,ML]at hL;have e1:cK (λ(a:Int×Int)(s:List ((Int×Int)×Int))=>mj s a (1:Int)) L []=.ok (dc t `k `e `f k):=by
  rw[pf (g:=λ_=>(1:Int)) all.1 `b λ_ _ _=>`a];unfold dc;rw[hL];show Gw (L.map _)=Gw (L.map _);rcases hE with rfl|hE
  ·rfl
  ·have:k=`aP:=`b
   subst this;rw[Ku];rfl
 rw[yC (a:=L) (by rw[hk];exact hL),Gq,e1,Gq,Gq];have er:p5 (((80 t `k [(0,0)]).length:Int)-1)=.ok ((Iw k).map λ(i:Nat)=>(i:Int)).reverse:=by
  rw[hk];have e:((k+1:Nat):Int)-1=(k:Int):=`b
  rw[e];unfold p5 gG;rw[bZ ⟨`b,`b⟩];rfl
 rw[er,Gq];obtain⟨s,es,h1,h2⟩:=eP (f:=Cw gu t `k `e `f (80 t `k [(0,0)])) (λpre s=>s.length=`aG+1/\∀j,j<=`aG->0 s[j]? (dc t `k `e `f<|k-j)) ((Iw k).map λ(i:Nat)=>(i:Int)).reverse [dc t strip loose bound k] (15 λj hj=>by
  have:j=0:=Nat.le_zero.mp hj;subst this;rfl) (by
  intro pre a post s e ⟨h1,h2⟩;have hlen2:`aG<k:=by have:=congrArg JA e;simp at this;omega
  have ha:a=((k-1-pre.length:Nat):Int):=by
   have:0 ((Iw k).map λ(i:Nat)=>(i:Int)).reverse[pre.length]? a:=by rw[e];simp
   rw[Kf (by simpa using hlen2),Ho,MX,GK,JW `b]at this;exact(Ha this).symm
  obtain⟨m,L',q1,q2,q3⟩:=jR (t:=t) (loose:=loose) (bound:=bound) `k [(0,0)] (k-1-`aG) `b;have hs2:s=s.dropLast++[dc t `k `e `f (k-1-`aG+1)]:=by
   have hne:s≠[]:=λz=>by rw[z]at h1;simp at h1
   have hl2:=h2 `aG `w;have e3:k-1-`aG+1=k-`aG:=by omega
   rw[e3];have:s.getLast hne=dc t `k `e `f (k-`aG):=by
    have h5:=List.getLast?_eq_getElem? (l:=s);rw[h1,ML,hl2,List.getLast?_eq_some_getLast hne]at h5;exact Ha h5
   rw[<-this];exact(List.dropLast_concat_getLast hne).symm
  rw[ha,hs2,yE h hl hb q1 q2 q3 (by rw[List.length_dropLast];omega),<-hs2];refine⟨_,`a,by simp[h1],λj hj=>?_⟩;rw[HG,KR]at hj;by_cases z:j<=`aG
  ·rw[Hr `b];exact h2 j z
  ·have ej:j=`aG+1:=by omega
   subst ej;rw[He `b,h1,LN];show 0 (some _) _;congr 2;omega)
 rw[es,Gq];have hsl:s.length=k+1:=by simpa using h1
 refine⟨_,rfl,by rw[Mp,hk];exact hsl,λi hi=>?_⟩;rw[Mp]at hi;rw[Kf hi,h2 _ (by simp;omega)];congr 2;omega
theorem As{t:Cd}(h:`ap){strip:`h}(hs:`aP<=60){loose bound:Int}(h0:0<=`e)(hl:`e<=3)(hb0:0<=`f)(hb:`f<=60):A5 t `k `e `f=.ok (61 t `k (0,0)):=by
 unfold A5 Ez;obtain⟨D,e,h1,h2⟩:=jT h hs h0 hl hb0 hb;have hpos:=jQ (t:=t) (loose:=loose) (bound:=bound) `k [(0,0)];rw[e,Gq,show gr D (0:Int)=.ok (dc t `k `e `f 0)from fu (i:=0) (h2 0 `b),Gq];obtain⟨r,hr⟩:=eF (t:=t) (loose:=loose) (bound:=bound) `k [(0,0)];congr 1;unfold dc mn;rw[hr];rfl
theorem kK{moves:6 Tx `m}{counts:6 `m `c}{f:Tx×`m->`c}(hf:∀a∈moves,getD counts a.2=.ok (f a)):∀(post pre:List (Tx×(Int×Int)))(n:Int)(fuel:Nat),20 (moves=pre++post) (0<=n) (n<(post.map f).sum) (post.length<fuel) (∃p a q n',2 post (p++a::q) (iH (Cy moves counts) (Cz moves counts) fuel (n,(pre.length:Int))=.ok (n',((pre.length+p.length:Nat):Int)))<|2 n ((p.map f).sum+n') (0<=n')<|n'<f a)
 | [],pre,n,fuel,_,h0,h1,_=>absurd h1 (by simp;omega)
 |a::post,pre,n,0,_,_,_,h=>135 h
 |a::post,pre,n,fuel+1,hm,h0,h1,hl=>by
  have ha:0 moves[pre.length]? a:=by rw[hm];simp
  have hf':=hf a (by rw[hm];simp);have e1:Cy moves counts (n,(pre.length:Int))=.ok (decide<|f a<=n):=by
   unfold Cy;rw[fu ha,Gq,Gq,hf',Gq]
  unfold iH;rw[e1,Gq];by_cases z:f a<=n
  ·have e2:Cz moves counts (n,(pre.length:Int))=.ok (n-f a,(((pre++[a]).length:Nat):Int)):=by
    unfold Cz;rw[fu ha,Gq,Gq,hf',Gq];simp
   rw[Z3 `ca,e2,Gq];rw[Hm,Jm]at h1;obtain⟨p,b,q,n',g1,g2,g3,g4,g5⟩:=kK hf post (pre++[a]) (n-f a) fuel (by rw[hm];simp) `b `b (by simp at hl;omega);refine⟨a::p,b,q,n',by rw[g1];rfl,?_,by rw[Hm,Jm];omega,g4,g5⟩;rw[g2];congr 2;simp;omega
  ·rw[`bl];exact⟨[],a,post,n,`a,`a,`g,h0,`b⟩
def IsWay(t:Cd)(loose bound:Int):`h->`m->11 `c Tx
 | [],_,n,x=>x=[]/\n=0
 |m::r,s,n,x=>∃p c q n' y,2 (106 t m s) (p++c::q) (x=c::y) (2 n ((p.map λc=>61 t r `Q).sum+n') (0<=n')<|n'<61 t r `Q/\IsWay t `e `f r `Q n' y)
theorem vP{t:Cd}{m:Pl}{loose bound:Int}{s:`m}{r:`h}{L:`ar}(hL:∀c∈gV t m loose bound s,`Q∈L){n:Int}(h0:0<=n)(h1:n<61 t (m::r) s):
  ∃p c q n',2 (106 t m s) (p++c::q) (si ((106 t m s).map λc=>([c],`Q)) (L.map λs=>(s,61 t r s)) n=.ok ([c],`Q,n')) (2 n ((p.map λc=>61 t r `Q).sum+n') (0<=n')<|n'<61 t r `Q):=by
 unfold si EA;have hs:(((106 t m s).map λc=>(([c]:Tx),`Q)).map λa=>61 t r a.2)=(106 t m s).map λc=>61 t r `Q:=by rw[JK];rfl
 obtain⟨p,a,q,n',g1,g2,g3,g4,g5⟩:=kK (moves:=(106 t m s).map λc=>(([c]:Tx),`Q)) (counts:=L.map λs=>(s,61 t r s)) (f:=λa=>61 t r a.2) (λa ha=>by
  obtain⟨c,hc,rfl⟩:=HK.mp ha;exact jS (hL c hc)) _ [] n cap `a h0 (by rw[hs];exact h1) (by rw[Ho];unfold gV cap;exact Nat.lt_of_le_of_lt (M0 _ _) ⋯)
 obtain⟨P,R,e1,e2,e3⟩:=List.map_eq_append_iff.mp g1;obtain⟨c,Q,e4,e5,e6⟩:=List.map_eq_cons_iff.mp e3;subst e2 e5;refine⟨P,c,Q,n',by rw[e1,e4],?_,?_,g4,g5⟩
 ·have e7:0 ((106 t m s).map λc=>(([c]:Tx),`Q))[(([]:6 Tx `m).length+(P.map λc=>(([c]:Tx),`Q)).length:Nat)]? ([c],`Q):=by
   rw[e1,e4];simp
  rw[show((0:Int))=(([]:6 Tx `m).length:Int)from rfl,g2,Gq,fu e7,Gq]
 ·rw[g3,JK];rfl
def eL{S:Type}(i:Nat):`z->6 `c S
 | []=>[]
 |a::r=>((i:Int),a)::eL (i+1) r
theorem yF{S:Type}:∀(i:Nat)(xs:List S),121 (eL i xs).length
 |_,[]=>rfl
 |i,a::r=>by show(eL (i+1) r).length+1=r.length+1;rw[yF]
theorem B8{S:Type}:∀(i:Nat)(xs:List S)(j:Nat)(h:j<xs.length),0 (eL i xs)[j]? (((i+j:Nat):Int),xs[j])
 |i,a::r,0,_=>rfl
 |i,a::r,j+1,h=>by
  show(eL (i+1) r)[j]? =_;rw[B8 (i+1) r j `bL];show 0 (some (((i+1+j:Nat):Int),r[j]'(`bL))) (((i+(j+1):Nat):Int),r[j]'(`bL));rw[show i+1+j=i+(j+1) by omega]
theorem uh{S:Type}(xs:`z):iz xs=eL 0 xs:=by
 refine Jh λj=>?_;by_cases h:j<`t
 ·rw[B8 0 xs j h];unfold iz;rw[NP,JW h,GB h,K7]
 ·rw[Ij (show(iz xs).length<=j by simp[iz];omega),Ij (by rw[yF];omega)]
theorem qS{t:Cd}(h:`ap){strip:`h}{loose bound:Int}(hw:(80 t `k [(0,0)]).length=`aP+1){D:List (6 `m `c)}(hl:D.length=`aP+1)(hD:∀i,i<D.length->0 D[i]? (dc t `k `e `f i)):∀(post:List Pl)(i:Nat)(s:Int×Int)(n:Int)(x:Tx),20 (strip.drop i=post) (i<=`aP) (s∈(80 t `k [(0,0)])[i]?.getD []) (0<=n) (n<61 t post s->`V+post.length<=1000->∃s' n' y,cK (gm si gu t `e `f D) (eL i post) (s,n,x)=.ok (s',n',x++y)/\IsWay t `e `f post s n y)
 | [],i,s,n,x,_,_,_,h0,h1,_=>⟨s,n,[],by rw [Im];rfl,rfl,by
  have:n<1:=h1;omega⟩
 |m::r,i,s,n,x,hd,hi,hs,h0,h1,hx=>by
  have hi':i<`aP:=by
   rcases Pf i strip.length with z|z;·exact z
   ·rw[KD z]at hd;cases hd
  rw[Il hi']at hd;obtain⟨hd1,hd2⟩:=KQ hd;obtain⟨m',L,q1,q2,q3⟩:=jR (t:=t) (loose:=loose) (bound:=bound) `k [(0,0)] i `b;have hm:m'=m:=by rw[GB hi',hd1]at q1;exact(Ha q1).symm
  subst hm;rw[q2]at hs;have hs:s∈L:=hs;have hnx:∀c∈gV t m' loose bound s,`Q∈98 t m' L:=λc hc=>mem_nxt.mpr ⟨s,hs,c,(`bS).1,(`bS).2,`a⟩;obtain⟨p,c,q,n',g1,g2,g3,g4,g5⟩:=vP (r:=r) hnx h0 h1;have e1:gm si gu t `e `f D ((i:Int),m') (s,n,x)=.ok (`Q,n',x++[c]):=by
   unfold gm;dsimp only;rw[j5 h,Gq,show(i:Int)+1=((i+1:Nat):Int) by omega,fu (hD (i+1) `b),Gq];rw[show dc t strip loose bound (i+1)=(98 t m' L).map λs=>(s,61 t r s) by unfold dc;rw[q3,hd2];rfl,g2,Gq,dE (by simp at hx ⊢;omega),Gq]
  show ∃s' n' y,(gm si gu t `e `f D ((i:Int),m') (s,n,x)).bind _=_/\_;rw[e1,Gq];obtain⟨s',n'',y,f1,f2⟩:=qS h hw hl hD r (i+1) `Q n' (x++[c]) hd2 `b (by rw[q3];exact hnx c (by rw[g1];simp)) g4 g5 (by simp at hx ⊢;omega);exact⟨s',n'',c::y,by rw[f1];simp,p,c,q,n',y,g1,rfl,g3,g4,g5,f2⟩
theorem mE{t:Cd}{loose bound:Int}{strip:`h}(h:61 t `k (0,0)≠0):(80 t `k [(0,0)]).length=`aP+1:=by
 obtain⟨L,_,h2,h3⟩:=jt (t:=t) (loose:=loose) (bound:=bound) `k [(0,0)];rcases h2 with z|z;·exact absurd (h3.mp z (0,0)<|GO ..) h
 ·exact z
theorem yG{t:Cd}(h:`ap){strip:`h}(hs:`aP<=60){loose bound:Int}(h0:0<=`e)(hl:`e<=3)(hb0:0<=`f)(hb:`f<=60){n:Int}(n0:0<=n)(n1:n<61 t `k (0,0)):∃x,dR t `k `e `f n=.ok x/\IsWay t `e `f `k (0,0) n x:=by
 unfold dR qG;obtain⟨D,e,h1,h2⟩:=jT h hs h0 hl hb0 hb;have hw:=mE (t:=t) (loose:=loose) (bound:=bound) (strip:=strip) `b;obtain⟨r,hr⟩:=eF (t:=t) (loose:=loose) (bound:=bound) `k [(0,0)];have ez:mn (dc t `k `e `f 0) ((0:Int),(0:Int)) (0:Int)=61 t `k (0,0):=by
  unfold dc mn;rw[hr];rfl
 rw[e,Gq,Z4 (by simpa using n0),show gr D (0:Int)=.ok (dc t `k `e `f 0)from fu (i:=0) (h2 0 `b),Gq,Gq,ez,Gq,Z4 (by simp;omega)];obtain⟨s',n',y,f1,f2⟩:=qS h hw `b h2 `k 0 (0,0) n [] `a `b (by rw[hr];simp) n0 n1 (by simp;omega);rw[uh,f1,Gq];exact 32 y f2
theorem IsWay.does{t:Cd}{loose bound:Int}:∀{l:List Pl}{s:Int×Int}{n:Int}{x:Tx},IsWay t `e `f l s n x->25 `V `ag (du x) (1<|eE t `e `f s<|x.zip l) (0<=n) (n<61 t l s)
 | [],s,n,x,h=>by
  obtain⟨e1,e2⟩:=h;subst e1 e2;exact⟨`a,(λc(hc:c∈[])=>nomatch hc),`a,Oj _,(by decide:(0:Int)<1)⟩
 |m::r,s,n,x,h=>by
  obtain⟨p,c,q,n',y,g1,g2,g3,g4,g5,g6⟩:=h;obtain⟨f1,f2,f3,f4,f5⟩:=g6.does;subst g2;have hc:c∈106 t m s:=by rw[g1];simp
  obtain⟨c1,c2⟩:=`bS;have nn:∀l:List Nat,0<=(l.map λc=>61 t r `Q).sum:=λl=>by
   induction l with
   |nil=>exact Oj _
   |cons a l ih=>rw[Hm,Jm];have:=gq (t:=t) (loose:=loose) (bound:=bound) r (ak t s a);omega
  refine⟨by simp[f1],λd hd=>?_,?_,?_,?_⟩
  ·rcases GI.mp hd with z | z;·rw[z];exact c1
   ·exact f2 d z
  ·show 1 (96 t s c m&&eE t `e `f `Q (y.zip r));rw[c2,f3];rfl
  ·have:=nn p;omega
  ·show n<((106 t m s).map λc=>61 t r `Q).sum;rw[g1,PR,List.sum_append,Hm,Jm];have:=nn q;omega
def kS(c:Nat):Int:=if c=102 then 0 else if c=98 then 1 else 2
theorem yH{c d:Nat}(hc:`bg)(hd:isTurn d):sj [c] [d]=.ok (decide<|kS c<kS d):=by
 unfold sj EF;rcases hc with rfl|rfl|rfl<;>rcases hd with rfl|rfl|rfl<;>rfl
theorem Au{t:Cd}{m:Pl}{loose bound:Int}{s:`m}{c:Nat}(h:c∈106 t m s):∃q,106 t m s=((106 t m s).filter λd=>decide<|kS d<kS c)++c::q:=by
 have hc:=mem_onw.mp h;unfold gV at h ⊢;rcases hc.1 with rfl|rfl|rfl<;>cases h1:cS t loose bound s 102 m<;>cases h2:cS t loose bound s 98 m<;>cases h3:cS t loose bound s 105 m<;>simp[h1,h2,h3,kS]at hc ⊢
theorem nZ{t:Cd}(h:`ap){strip:`h}{loose bound:Int}(hw:(80 t `k [(0,0)]).length=`aP+1){D:List (6 `m `c)}(hl:D.length=`aP+1)(hD:∀i,i<D.length->0 D[i]? (dc t `k `e `f i)){text:Tx}(ht:text.length=`aP)(a0:`aP<=1000):∀(post:List Pl)(i:Nat)(s:Int×Int)(k:Int)(x:Tx),20 (strip.drop i=post) (text.drop i=x) (i<=`aP) (s∈(80 t `k [(0,0)])[i]?.getD []) (du x->1 (eE t `e `f s<|x.zip post)->∃s' n,cK (C1 gu sj jc t `e `f text D) (eL i post) (k,s)=.ok (k+n,s')/\IsWay t `e `f post s n x)
 | [],i,s,k,x,hd,hx,hi,_,_,_=>⟨s,0,by rw [Rh];rfl,by
  have h1:=congrArg JA hd;have h2:=congrArg JA hx;simp at h1 h2;exact Ks.mp `b,rfl⟩
 |m::r,i,s,k,x,hd,hx,hi,hs,hT,hdo=>by
  have hi':i<`aP:=by
   rcases Pf i strip.length with z|z;·exact z
   ·rw[KD z]at hd;cases hd
  rw[Il hi']at hd;obtain⟨hd1,hd2⟩:=KQ hd;have hit:i<text.length:=`b
  rw[Il hit]at hx;subst hx;have hcT:isTurn text[i]:=hT _<|GO ..;have hdo:1 (96 t s text[i] m&&eE t `e `f (ak t s text[i]) ((text.drop<|i+1).zip r)):=hdo;rw[IF]at hdo;obtain⟨m',L,q1,q2,q3⟩:=jR (t:=t) (loose:=loose) (bound:=bound) `k [(0,0)] i `b;have hm:m'=m:=by rw[GB hi',hd1]at q1;exact(Ha q1).symm
  subst hm;rw[q2]at hs;have hs:s∈L:=hs;have hnx:∀c∈gV t m' loose bound s,`Q∈98 t m' L:=λc hc=>mem_nxt.mpr ⟨s,hs,c,(`bS).1,(`bS).2,`a⟩;have hon:text[i]∈106 t m' s:=mem_onw.mpr ⟨hcT,hdo.1⟩;obtain⟨q,hq⟩:=Au hon;have ei:gw text (i:Int)=.ok [text[i]]:=by
   obtain⟨c,e1,e2⟩:=gz (x:=text) (i:=(i:Int)) `b `b `b;rw[e1];have:0 text[i]? c:=e2;rw[GB hit]at this;rw[Ha this]
  have e1:C1 gu sj jc t `e `f text D ((i:Int),m') (k,s)=.ok (k+(((106 t m' s).filter λd=>decide<|kS d<kS text[i]).map λc=>61 t r `Q).sum,ak t s text[i]):=by
   unfold C1;dsimp only;rw[j5 h,Gq,ei,Gq,mD s hcT];rw[qa (g:=λa:Tx×(Int×Int)=>if kS (a.1.headD 0)<kS text[i]then some (61 t r a.2)else none) (by rw[Ho];unfold gV;exact Ip (M0 _ _) (by show 94 3;decide)) (λa ha=>by
    obtain⟨c,hc,rfl⟩:=HK.mp ha;rw[Gq,yH (`bS).1 hcT,Gq];show _=Gw (if kS c<kS text[i]then _ else _);by_cases z:kS c<kS text[i]
    ·rw[Z3 `ca,Z3 z,show(i:Int)+1=((i+1:Nat):Int) by omega,fu (hD (i+1) `b),Gq];rw[show dc t strip loose bound (i+1)=(98 t m' L).map λs=>(s,61 t r s) by unfold dc;rw[q3,hd2];rfl,jS (hnx c hc),Gq]
    ·rw[`bl,Z4 z]),Gq,Gq,Gq]
   congr 3;generalize gV t m' loose bound s=O
   induction O with
   |nil=>rfl
   |cons a O ih=>
    rw[Hm,Jy,List.filter_cons];by_cases z:kS a<kS text[i]
    ·rw[Z3 (show kS (S0 ([a],ak t s a).1 0)<kS text[i]from z),Z3 `ca,Hm];exact(Jm ..).trans ((congrArg (cnt t loose bound r (ak t s a)+ ·) ih).trans (Jm ..).symm)
    ·rw[Z4 (show ¬kS (S0 ([a],ak t s a).1 0)<kS text[i]from z),`bl,<-ih]
  show ∃s' n,(C1 gu sj jc t `e `f text D ((i:Int),m') (k,s)).bind _=_/\_;rw[e1,Gq];obtain⟨s',n,f1,f2⟩:=nZ h hw hl hD ht a0 r (i+1) (ak t s text[i]) (k+(((106 t m' s).filter λd=>decide<|kS d<kS text[i]).map λc=>61 t r `Q).sum) (text.drop<|i+1) hd2 `a `b (by rw[q3];exact hnx _ hon) (λc hc=>hT c<|GS _ hc) hdo.2;have f3:=f2.does;refine⟨s',_,by rw[f1,Int.add_assoc],_,text[i],q,n,text.drop<|i+1,hq,`a,`a,f3.2.2.2.1,f3.2.2.2.2,f2⟩
theorem kL{t:Cd}{loose bound:Int}:∀{l:List Pl}{s:Int×Int}{x:Tx},`V=`ag->du x->1 (eE t `e `f s<|x.zip l)->61 t l s≠0
 | [],s,x,_,_,_=>by show(1:Int)≠0;decide
 |m::r,s,[],h,_,_=>by cases h
 |m::r,s,c::y,h,hT,hd=>by
  have hd:1 (96 t s c m&&eE t `e `f `Q (y.zip r)):=hd;rw[IF]at hd;intro z;exact kL `bL (λd hd=>hT d<|GS _ hd) hd.2 (cnt_pos.mp z c (hT c<|GO ..) hd.1)
theorem ui{t:Cd}(h:`ap){strip:`h}(hs:`aP<=60){loose bound:Int}(h0:0<=`e)(hl:`e<=3)(hb0:0<=`f)(hb:`f<=60){x:Tx}(hx:`V=`aP)(hT:du x)(hd:1 (eE t `e `f (0,0)<|x.zip `k)):∃n,vS t `k `e `f x=.ok n/\IsWay t `e `f `k (0,0) n x:=by
 unfold vS DG;obtain⟨D,e,h1,h2⟩:=jT h hs h0 hl hb0 hb;have hw:=mE (kL hx hT hd);obtain⟨r,hr⟩:=eF (t:=t) (loose:=loose) (bound:=bound) `k [(0,0)];have er:1 (gU x `aP):=by
  unfold gU;rw[IF,decide_eq_true_iff,JF];exact⟨hx,λc hc=>turnB_iff.mpr<|hT c hc⟩
 rw[ue h `k h0 hb0 `b,er,hd,Gq,Gq,`aZ,e,Gq];obtain⟨s',n,f1,f2⟩:=nZ h hw `b h2 hx `b `k 0 (0,0) 0 x `a `a `b (by rw[hr];simp) hT hd;rw[uh,f1,Gq,Rf];exact 32 n f2
theorem qT{f:Nat->`c}(hf:∀c,0<=f c):∀{p q p' q':List Nat}{c c':Nat}{n n':Int},20 (p++c::q=p'++c'::q') (0<=n) (n<f c) (0<=n') (n'<f c'->(p.map f).sum+n=(p'.map f).sum+n'->c=c'/\n=n')
 | [],q,[],q',c,c',n,n',e,_,_,_,_,h=>by
  refine⟨(KQ e).1,?_⟩;simpa using h
 | [],q,a::p',q',c,c',n,n',e,h1,h2,h3,h4,h=>by
  have ha:c=a:=(KQ e).1;subst ha;have nn:0<=(p'.map f).sum:=by
   clear h e
   induction p' with
   |nil=>exact Oj _
   |cons b l ih=>rw[Hm,Jm];have:=hf b;omega
  rw[Hm,Jm,KC,Ri]at h;omega
 |a::p,q,[],q',c,c',n,n',e,h1,h2,h3,h4,h=>by
  have ha:a=c':=(KQ e).1;subst ha;have nn:0<=(p.map f).sum:=by
   clear h e
   induction p with
   |nil=>exact Oj _
   |cons b l ih=>rw[Hm,Jm];have:=hf b;omega
  rw[Hm,Jm,KC,Ri]at h;omega
 |a::p,q,b::p',q',c,c',n,n',e,h1,h2,h3,h4,h=>by
  have hab:=KQ e;rw[Hm,Jm,Hm,Jm,hab.1]at h;exact qT hf hab.2 h1 h2 h3 h4 `b
theorem IsWay.uniq{t:Cd}{loose bound:Int}:∀{l:List Pl}{s:Int×Int}{n:Int}{x y:Tx},IsWay t `e `f l s n x->IsWay t `e `f l s n y->x=y
 | [],_,_,_,_,h1,h2=>by rw[h1.1,h2.1]
 |m::r,s,n,x,y,h1,h2=>by
  obtain⟨p,c,q,n',z,g1,g2,g3,g4,g5,g6⟩:=h1;obtain⟨p',c',q',n'',z',k1,k2,k3,k4,k5,k6⟩:=h2;have u:=qT (f:=λc=>61 t r `Q) (λc=>gq r _) (g1.symm.trans k1) g4 g5 k4 k5 (g3.symm.trans k3);obtain⟨u1,u2⟩:=u;subst u1 u2;rw[g2,k2,g6.uniq k6]
theorem Av{t:Cd}(h:`ap){x:Tx}(hx:du x)(hl:`V<=900)(c:Int):(A8 (t,x) c).Ok λr=>Card r.1/\du r.2/\r.2.length<=`V+2:=by
 unfold A8 EI;have hx0:94 `V:=`b
 rw[iV hx0];simp only[Gq];rw[eO (by split<;>omega),Gq];obtain⟨k,ek,hk⟩:=sq (c/7%3) (Hx _ ⋯) (Hh _ ⋯);rw[ek,Gq];have b0:0<=c/4%(if(x.length:Int)>1 then(x.length:Int)else 1):=Hx _ (by split<;>omega);have b1:c/4%(if(x.length:Int)>1 then(x.length:Int)else 1)<(if(x.length:Int)>1 then(x.length:Int)else 1):=Hh _ (by split<;>omega);obtain⟨i,hi⟩:∃i:Nat,c/4%(if(x.length:Int)>1 then(x.length:Int)else 1)=(i:Int):=42 (Mq b0).symm
 rw[hi]at b1 ⊢;have hi2:i<`V\/i=0/\`V=0:=by split at b1<;>omega
 have T:∀lo hi,du (cut x lo hi):=λlo hi d hd=>hx d (D8 hd);refine ja (Iz (P:=λy=>du y/\y.length<=`V+1) (kH (λ_=>?_)<|104 ⟨hx,`b⟩) λy hy=>?_)
 ·rw[iW hx0,Gq,jB,dE (by simp;omega),Gq,show(i:Int)+1=((i+1:Nat):Int)from rfl,iW hx0,Gq,lP,dE (by simp;omega),Gq];refine⟨λd hd=>?_,by simp;omega⟩;rcases HA.mp hd with z|z
  ·rcases HA.mp z with z | z;·exact hx d (Of z)
   ·rw[Jq.mp z];exact hk
  ·exact hx d (Oe z)
 ·refine ja (Iz (P:=Card) (kH (λ_=>?_)<|104 h) λt2 h2=>?_)
  ·obtain⟨q,eq,q0,q1⟩:=yw (c/ 16% 26) (Hx _ ⋯) (Hh _ ⋯);rw[eq,Gq];have c0:=Hx (c/4) (show(4:Int)≠0 by decide);have c1:=Hh (c/4) (show(0:Int)<4 by decide);obtain⟨j,hj⟩:∃j:Nat,c/4%4=(j:Int):=42 (Mq c0).symm
   rw[hj]at c1 ⊢;exact ja (F0 (yx h `b q)<|okR<|h.dye j q0 q1)
  ·have hy0:94 y.length:=`b
   refine ja (Iz (P:=λz=>du z/\z.length<=`V+2) ?_ λz hz=>?_)
   ·refine ja (Iz (P:=λ_=>True) (kH (λ_=>kH (λ_=>?_) λ_=>okR trivial) λ_=>okR trivial) λb _=>DU (λ_=>?_)<|104 ⟨hy.1,`b⟩);·rw[iV hy0];exact trivial
    ·rw[dE (by simp;omega),Gq];refine⟨λd hd=>?_,by simp;omega⟩;rcases HA.mp hd with z|z
     ·exact hy.1 d z
     ·rw[Jq.mp z];exact hk
   ·have hz0:94 z.length:=`b
    refine ja (Iz (P:=λz=>du z/\z.length<=`V+2) ?_ λz hz=>okR ⟨h2,hz⟩);refine ja (Iz (P:=λ_=>True) (kH (λ_=>okR trivial) λ_=>okR trivial) λb _=>DU (λ_=>?_)<|104 hz);rw[iV hz0];simp only[Gq];rw[eO `b];simp only[Gq,iW hz0];exact⟨λd hd=>hz.1 d<|D8 hd,Ip (t9 _ _ _) hz.2⟩
theorem Aw(c:Int):∃k,A9 c=.ok [k]:=by
 unfold A9 EJ;rw[dE ⋯,Gq];obtain⟨k,e,_⟩:=gz (x:=([32,33,34,35,36,38,39,40,41,42,43,44,45,46,47,48,49,50,51,52,53,54,55,56,57,58,59,60,61,62,63,64,65,66,67,68,69,70,71,72,73,74,75,76,77,78,79,80,81,82,83,84,85,86,87,88,89,90,91,92,93,94,95,96]:Tx)++([97,98,99,100,101,102,103,104,105,106,107,108,109,110,111,112,113,114,115,116,117,118,119,120,121,122,123,124,125,126,10]:Tx)) (i:=c%95) (Hx _ ⋯) (Int.lt_of_lt_of_le (Hh _ ⋯) ⋯) ⋯;exact⟨k,e⟩
theorem lb{a b c:Tx}{n:Nat}(h:a.length+b.length+c.length<=n)(hn:94 n):((dO a b).bind λy=>dO y c).Ok λy=>y.length<=n:=by
 rw[dE `b,Gq,dE (by rw[HG];omega)];show JA _<=_;rw[HG,HG];exact h
theorem yI{x:Tx}(hl:`V<=10000)(c:Int):(Aa x c).Ok λy=>y.length<=`V+2:=by
 unfold Aa EK;obtain⟨k,ek⟩:=Aw<|c/7;have L:∀lo hi,(cut x lo hi).length<=`V:=λlo hi=>t9 x lo hi;have hx:94 `V:=`b
 rw[iV hx];simp only[Gq];rw[eO `b];simp only[Gq,ek,iW hx];have b0:=Hx (c/5) (show(x.length:Int)+1≠0 by omega);have b1:=Hh (c/5) (show(0:Int)<(x.length:Int)+1 by omega);obtain⟨i,hi⟩:∃i:Nat,c/5%((x.length:Int)+1)=(i:Int):=⟨(c/5%((x.length:Int)+1)).toNat,`b⟩
 rw[hi]at b1 ⊢;have ei:i<=`V:=`b
 rw[show(i:Int)+1=((i+1:Nat):Int)from rfl,show(i:Int)+2=((i+2:Nat):Int)from rfl];simp only[jB,lP];have mid:∀a b:Nat,(cut x (some (a:Int))<|some (b:Int)).length<=b-a:=λa b=>by
  unfold cut sIx;simp only[K8,K9];split<;>split<;>omega
 have m1:=mid i (i+1);have m2:=mid (i+1) (i+2);generalize cut x (some (i:Int)) (some ((i+1:Nat):Int))=u at*
 generalize cut x (some ((i+1:Nat):Int)) (some ((i+2:Nat):Int))=v at*
 clear b0 b1 hi L mid ek;have tk:(x.take i).length=i:=by rw[K8];omega
 have d0:(x.drop i).length=`V-i:=K9 ..;have d1:(x.drop<|i+1).length=`V-(i+1):=K9 ..;have d2:(x.drop<|i+2).length=`V-(i+2):=K9 ..;have n0:94 (`V+2):=`b
 refine kH (λ_=>?_) λ_=>kH (λ_=>?_) λ_=>kH (λ_=>?_) λ_=>kH (λ_=>?_) λ_=>?_;·exact lb (by rw[tk,d0,KR];omega) n0
 ·rw[dE (by rw[tk,d1];omega)];show JA _<=_;rw[HG,tk,d1];omega
 ·exact lb (by rw[tk,d1,KR];omega) n0
 ·exact lb (by rw[tk,d0];omega) n0
 ·rw[dE `b,Gq];exact lb (by rw[tk,d2,HG];omega) n0
theorem Ax{a:Nat}(h:a<10^42):a.log2<1920:=by
 by_cases z:a=0;·rw[z];decide
 ·rw[Nat.log2_lt z];exact GF h ⋯
theorem Ay{n:Int}(h: -(10^41)<n)(h2:n<10^42):(wZ n).length<=44:=by
 have key:∀m:Nat,m<10^42->(Nat.repr m).toList.length<=42:=λm hm=>by
  rw[Nat.toList_repr];exact(Nat.length_toDigits_le_iff ⋯ ⋯).mpr hm
 unfold wZ;rw[Ho];cases n with
 |ofNat m=>exact Ip (key m (by have h2:(m:Int)<10^42:=h2;omega)) ⋯
 |negSucc m=>
  show("-"++Nat.repr (m+1)).toList.length<=44;rw[String.toList_append,HG];have:=key (m+1) (by have h: -(10^41)<Int.negSucc m:=h;omega);show 1+_<=44;omega
theorem Az{n:Int}(h: -(10^41)<n)(h2:n<10^42):By n=.ok (wZ n):=bZ (Ax `b)
theorem DN(a b:Dat):tj (.t [a,b]) 0=.ok a:=rfl
theorem DO(a b:Dat):tj (.t [a,b]) 1=.ok b:=rfl
theorem Fp(a b c:Dat):tj (.t [a,b,c]) 0=.ok a:=rfl
theorem Fq(a b c:Dat):tj (.t [a,b,c]) 1=.ok b:=rfl
theorem Fs(a b c:Dat):tj (.t [a,b,c]) 2=.ok c:=rfl
theorem Ft(a:Dat):tj (.t [a]) 0=.ok a:=rfl
theorem F7(x:Int):12 (de 0<|.i x):=rfl
theorem F8(x:Int):1 (de 1<|.i x):=rfl
theorem F9(x:Int):12 (de 2<|.i x):=rfl
theorem Fb(x:Tx):12 (de 0<|.s x):=rfl
theorem Fc(x:Tx):12 (de 1<|.s x):=rfl
theorem Fd(x:Tx):1 (de 2<|.s x):=rfl
theorem Fe(x:List Dat):1 (de 4<|.t x):=rfl
theorem Ff(x:List Dat):1 (de 3<|.l x):=rfl
theorem Fg(x:List Dat):12 (de 4<|.l x):=rfl
theorem yJ(x:Int):rn (Dd<|.i x)=.ok x:=rfl
theorem yK(x:Tx):rn (F1<|.s x)=.ok x:=rfl
theorem sD{b:Bool}{i x:Int}(h:i<=x)(h0:0<=x):vO b i<=x:=by unfold vO;split<;>omega
theorem ph{t:Cd}{loose bound:Int}:∀(l:`h)(s:`m),cnt t loose bound l s<=3^l.length
 | [],_=>by show(1:Int)<=1;decide
 |m::r,s=>by
  have p0:(0:Int)<=3^r.length:=Int.pow_nonneg ⋯;have h1:=sD (b:=96 t s 102 m) (ph (t:=t) (loose:=loose) (bound:=bound) r<|ak t s 102) p0;have h2:=sD (b:=96 t s 98 m) (ph (t:=t) (loose:=loose) (bound:=bound) r<|ak t s 98) p0;have h3:=sD (b:=96 t s 105 m) (ph (t:=t) (loose:=loose) (bound:=bound) r<|ak t s 105) p0;rw[kA,Ja,Int.pow_succ];omega
theorem AA{t:Cd}{loose bound:Int}{l:`h}(h:`ag<=60)(s:`m):cnt t loose bound l s<=10^41:=by
 refine Int.le_trans (ph l s) ?_;have:(3:Nat)^l.length<=3^60:=Nat.pow_le_pow_right ⋯ h;have e:(3:Int)^l.length=((3^l.length:Nat):Int):=`g
 rw[e];have z:(3:Nat)^60<=10^41:=by decide +kernel
 have y:(10:Int)^41=((10^41:Nat):Int):=`g
 rw[y];exact Int.ofNat_le.mpr (Ip this z)
theorem Ce{t:Cd}(h:`ap){strip:`h}(hs:`aP<=60){loose bound:Int}(h0:0<=`e)(hl:`e<=3)(hb0:0<=`f)(hb:`f<=60){n:Int}(n1: -(10^41)<n)(n2:n<10^42)(hn:n<0\/61 t `k (0,0)<=n):dR t `k `e `f n=.err 11:=by
 unfold dR qG;obtain⟨D,e,h1,h2⟩:=jT h hs h0 hl hb0 hb;have hpos:=jQ (t:=t) (loose:=loose) (bound:=bound) `k [(0,0)];obtain⟨r,hr⟩:=eF (t:=t) (loose:=loose) (bound:=bound) `k [(0,0)];have ez:mn (dc t `k `e `f 0) ((0:Int),(0:Int)) (0:Int)=61 t `k (0,0):=by
  unfold dc mn;rw[hr];rfl
 have hl':=Ay n1 n2;have e2:(if(decide<|n<(0:Int))then Gw `o else((gr D (0:Int)).bind λy6=>Gw<|mn y6 (0,0) (0:Int)).bind λy7=>Gw (decide<|y7<=n):`x)=.ok `o:=by
  by_cases z:n<0;·rw[Z3 `ca]
  ·rw[`bl,show gr D (0:Int)=.ok (dc t `k `e `f 0)from fu (i:=0) (h2 0 `b),Gq,Gq,ez];congr 1;exact decide_eq_true `b
 rw[e,Gq,e2,Gq,`aX,dE `g,Gq,Az n1 n2,Gq,dE (by simp;omega),Gq,Gq,show Bz _=_ from bZ (by simp;unfold cap;omega),Gq]
theorem AB{t:Cd}(h:`ap){strip:`h}(hs:`aP<=60){loose bound:Int}(h0:0<=`e)(hl:`e<=3)(hb0:0<=`f)(hb:`f<=60){n:Int}(n1: -(10^41)<n)(n2:n<10^42)(hn:n<0\/61 t `k (0,0)<=n):qH t `k `e `f n=.ok `o:=by
 unfold qH EH;rw[Ce h hs h0 hl hb0 hb n1 n2 hn];rfl
theorem yL{t:Cd}(h:`ap)(strip:`h){loose bound:Int}(h0:0<=`e)(hb0:0<=`f){x:Tx}(hx:`V<=10000)(hf:12 (gU x `aP&&eE t `e `f (0,0) (x.zip `k))):qW t `k `e `f x=.ok (rD [114,101,102,117,115,101,100] 11):=by
 unfold qW DH;have:vS t `k `e `f x=.err 11:=by
  unfold vS DG;rw[ue h `k h0 hb0 hx,hf,Gq,Gq,Z3 ⋯]
 rw[this];rfl
theorem o6{t:Cd}{strip:`h}{loose bound n:Int}{x:Tx}(e:vS t `k `e `f x=.ok n):qW t `k `e `f x=.ok (.t [.s [114,97,110,107],.i n]):=by
 unfold qW DH;rw[e];show((13 (CZ `k `k) _ _):Res Dat)=_;rw[Bx `a];rfl
theorem uj{t:Cd}{m:Pl}{loose bound:Int}{s:`m}:(106 t m s).Pairwise λa b=>kS a<kS b:=RF _ ⋯
theorem uk{f:Nat->`c}(hf:∀c,0<=f c):∀p:List Nat,0<=(p.map f).sum
 | []=>`g
 |a::p=>by have:=uk hf p;have:=hf a;simp;omega
theorem mF{f:Nat->`c}(hf:∀c,0<=f c):∀{p q p' q':List Nat}{c c':Nat}{n n':Int},20 (p++c::q=p'++c'::q') (0<=n) (n'<f c') ((p.map f).sum+n<(p'.map f).sum+n') (c=c'/\n<n'\/c'∈q)
 | [],q,[],q',c,c',n,n',h,_,_,l=>by
  simp at h l;exact 116 h.1 l
 | [],q,d::p',q',c,c',n,n',h,_,_,l=>by
  simp at h;exact .inr (by rw[h.2];simp)
 |d::p,q,[],q',c,c',n,n',h,h0,h1,l=>by
  simp at h l;have:=uk hf p;rw[h.1]at l;omega
 |d::p,q,d'::p',q',c,c',n,n',h,h0,h1,l=>by
  simp at h l;rw[h.1]at l;exact mF hf h.2 h0 h1 `b
theorem Cf{c d:Nat}(hc:`bg)(hd:isTurn d)(h:kS c<kS d):yR ([c],[d]) ()=.ok (.rt `o):=by
 unfold yR;rcases hc with rfl|rfl|rfl<;>rcases hd with rfl|rfl|rfl<;>first|rfl|exact absurd h ⋯
theorem mG{t:Cd}{loose bound:Int}:∀(l:List Pl)(s:Int×Int)(n n':Int)(x y:Tx),IsWay t `e `f l s n x->IsWay t `e `f l s n' y->n<n'->eJ yR ((bG x).zip<|bG y) ()=.ok (.rt `o)
 | [],s,n,n',x,y,⟨_,h1⟩,⟨_,h2⟩,h=>`b
 |m::r,s,n,n',x,y,⟨p,c,q,n1,x1,g1,g2,g3,g4,g5,g6⟩,⟨p',c',q',n1',y1,k1,k2,k3,k4,k5,k6⟩,h=>by
  subst g2 k2;have hc:=(mem_onw.mp (show c∈gV t m loose bound s by rw[g1];simp)).1;have hd:=(mem_onw.mp (show c'∈gV t m loose bound s by rw[k1];simp)).1;rcases mF (f:=λc=>cnt t loose bound r<|ak t s c) (λc=>gq _ _) (g1.symm.trans k1) g4 k5 (by rw[<-g3,<-k3];exact h)with⟨rfl,z⟩|z
  ·show(yR ([c],[c]) ()).bind _=_;rw[show yR ([c],[c]) ()=.ok (.nx ())from by unfold yR;rw[Z4 `g]];exact mG r _ _ _ _ _ g6 k6 z
  ·have hp:=uj (t:=t) (m:=m) (loose:=loose) (bound:=bound) (s:=s);rw[g1]at hp;have:=(KH.mp (Iu.mp hp).2.1).1 c' z;show(yR ([c],[c']) ()).bind _=_;rw[Cf hc hd this];rfl
theorem yM{t:Cd}{loose bound:Int}{l:`h}{s:`m}{n n':Int}{x y:Tx}(h:IsWay t `e `f l s n x)(h':IsWay t `e `f l s n' y)(hn:n<n'):u4 x y=.ok `o:=by
 unfold u4 EG;rw[mG l s n n' x y h h' hn];rfl
theorem IsWay.num{t:Cd}{loose bound:Int}:∀{l:`h}{s:`m}{n n':Int}{x:Tx},IsWay t loose bound l s n x->IsWay t loose bound l s n' x->¬n<n'
 | [],s,n,n',x,⟨_,h1⟩,⟨_,h2⟩=>`b
 |m::r,s,n,n',x,⟨p,c,q,n1,x1,g1,g2,g3,g4,g5,g6⟩,⟨p',c',q',n1',y1,k1,k2,k3,k4,k5,k6⟩=>λh=>by
  rw[g2]at k2;obtain⟨rfl,rfl⟩:=KQ k2;rcases mF (f:=λc=>cnt t loose bound r<|ak t s c) (λc=>gq _ _) (g1.symm.trans k1) g4 k5 (by rw[<-g3,<-k3];exact h)with⟨_,z⟩|z
  ·exact IsWay.num g6 k6 z
  ·have hp:=uj (t:=t) (m:=m) (loose:=loose) (bound:=bound) (s:=s);rw[g1]at hp;exact 135 ((KH.mp (Iu.mp hp).2.1).1 c z)
theorem AD{x:Tx}{n:Nat}(h1:`V=n)(h2:du x):1 (gU x n):=by
 unfold gU;rw[IF,decide_eq_true_iff,JF];exact⟨h1,λc hc=>turnB_iff.mpr<|h2 c hc⟩
def Cg(t:Cd)(loose bound:Int)(strip:`h)(pre:`P)(s:6 `c Tx):Prop:=s.length<=`aG/\∀e∈s,IsWay t `e `f `k (0,0) e.1 e.2
theorem Ci{y:Cd×`h×`c}(hc:Card y.1){strip:`h}(hs:`aP<=60)(g0:0<=y.2.2)(g1:y.2.2<4){b:Int}(b0:0<=b)(b1:b<=60)(a:Int){pre:`P}{s:6 `c Tx}(hl:`aG<=60)(h:Cg y.1 y.2.2 b `k pre s):
  ∃s',iM dR tZ qW u4 y `k b (cnt y.1 y.2.2 b `k (0,0)) a s=.ok (.nx s')/\Cg y.1 y.2.2 b `k (pre++[a]) s':=by
 unfold iM;by_cases q:0<=a/\a<cnt y.1 y.2.2 b `k (0,0)
 ·obtain⟨x,ex,hx⟩:=yG hc hs g0 (show y.2.2<=3 by omega) b0 b1 q.1 q.2;obtain⟨x1,x2,x3,_⟩:=hx.does;obtain⟨n',en,hn'⟩:=ui hc hs g0 (show y.2.2<=3 by omega) b0 b1 x1 x2 x3;have e1:=hn'.num hx;have e2:=hx.num hn';have:n'=a:=`b
  subst this;have eL:(if(!s.isEmpty)then(((gr s<|-(1:Int)).bind λa0=>Gw a0.1).bind λa1=>Gw<|decide<|a1<n').bind λa2=>if a2 then 13 ((gr s<|-(1:Int)).bind λa3=>Gw a3.2) (λa4=>u4 a4 x) λa5=>Gw (!a5)else `aR else Gw false:`x)=.ok `K:=by
   rcases List.eq_nil_or_concat s with rfl|⟨i,e,rfl⟩
   ·rfl
   ·have he:=h.2 e `g;rw[List.concat_eq_append,Z3 `g,l8,Gq,Gq,Gq,Gq,Gq];by_cases z:e.1<n'
    ·rw[Z3 `ca,yM he hx z];rfl
    ·rw[`bl]
  refine⟨s++[(n',x)],?_,by simp;exact h.1,λe he=>?_⟩
  ·rw[Z3 (decide_eq_true q.1),Gq,Z3 (decide_eq_true q.2),ex,Gq,show 1 (de 2<|LU x) from rfl,`aZ,nX hc `k _ _ `b,AD x1 x2,x3,Gq,Gq,`aZ,o6 en,Gq,wU `a (by simp[Dat.le]),Gq,Gq,`aZ,eL,Gq,`aZ,gy (by have:=h.1;omega)];rfl
  ·rcases HA.mp he with z | z;·exact h.2 e z
   ·rw[Jq.mp z];exact hx
 ·refine⟨s,?_,by simp;exact MY h.1,h.2⟩;have:(if(decide<|(0:Int)<=a)then Gw (decide<|a<cnt y.1 y.2.2 b strip (0,0))else Gw false:`x)=.ok `K:=by
   by_cases z:0<=a;·rw[Z3 `ca,decide_eq_false `b]
   ·rw[`bl]
  rw[this];rfl
theorem Cj(ns:`P)(h:ns.length<=63):(yi ns).Ok (· =true):=by
 unfold yi u5;refine ja ((show(yP ns (12:Int)).Ok _ from Am h 12 ⋯).imp λy zz=>?_);obtain⟨hc,⟨n,hn,hm⟩,g0,g1⟩:=zz;have hl:y.2.1.length=n:=hm.1;obtain⟨c1,e1⟩:=iN h 1 ⋯;obtain⟨c5,e5⟩:=iN h 5 ⋯;obtain⟨c6,e6⟩:=iN h 6 ⋯;obtain⟨c7,e7⟩:=iN h 7 ⋯;obtain⟨c8,e8⟩:=iN h 8 ⋯;obtain⟨c9,e9⟩:=iN h 9 ⋯;obtain⟨strip,es,hsm⟩:∃r,yh y.2.1 c9=.ok r/\Marks n r:=by
  have:=yt hm `b c9;cases hq:yh y.2.1 c9 with
  |ok r=>rw[hq]at this;exact 32 r this
  |err j=>rw[hq]at this;exact this.elim
  |stuck=>rw[hq]at this;exact this.elim
 have a3:`aP<=60:=by have:=hsm.1;omega
 obtain⟨b,eb,b0,b1⟩:∃b,2 (if decide (c5%14=(13:Int))then Gw (60:Int)else Gw (c5%14):`H) (.ok b) (0<=b) (b<=60):=by
  have:=Hx c5 (show(14:Int)≠0 by decide);have:=Hh c5 (show(0:Int)<14 by decide);by_cases z:c5%14=13;·exact⟨60,by rw[Z3<|decide_eq_true z],`ac,`ac⟩
  ·exact⟨_,by rw[Z4 (by simpa using z)],`b,`b⟩
 rw[show i7 ns 9=.ok c9 from e9,Gq,es,Gq,show i7 ns 5=.ok c5 from e5,Gq,Gq,eb,Gq,As hc a3 g0 `b b0 b1,Gq];have k0:=gq (t:=y.1) (loose:=y.2.2) (bound:=b) `k (0,0);have k1:=AA (t:=y.1) (loose:=y.2.2) (bound:=b) a3 (0,0);have hst:= @Ci y hc strip a3 g0 g1 b b0 b1;have hno:= @AB y.1 hc strip a3 y.2.2 b g0 (`b) b0 b1;have hwy:=λn=> @yG y.1 hc strip a3 y.2.2 b g0 (`b) b0 b1 n;have hpos:0<(if(1:Int)>cnt y.1 y.2.2 b `k (0,0)then(1:Int)else cnt y.1 y.2.2 b `k (0,0)):=by split<;>omega
 have hdn:∀{z:Tx}{k:Int},IsWay y.1 y.2.2 b `k (0,0) k z->0<=k/\k<cnt y.1 y.2.2 b `k (0,0):=λhz=>hz.does.2.2.2;generalize cnt y.1 y.2.2 b strip (0,0)=k at*
 rw[show 1 (de 1<|Qg k) from rfl,show 12 (de 0<|Qg k) from rfl,`aZ,`aZ,decide_eq_false `b,Gq,`aZ];rw[show i7 ns 6=.ok c6 from e6,show i7 ns 7=.ok c7 from e7,Gq,Gq,eO hpos,eO hpos,Gq,Gq,Gq,Gq,Gq,Gq,pZ `g,Gq];have pm:=(iA [0,k-1,c6%(if(1:Int)>k then(1:Int)else k),c7%(if(1:Int)>k then(1:Int)else k)]).length_eq;obtain⟨s1,es1,_⟩:=wQ (Cg y.1 y.2.2 b `k) (jn [0,k-1,c6%(if(1:Int)>k then(1:Int)else k),c7%(if(1:Int)>k then(1:Int)else k)]) [] ⟨`w,λe he=>nomatch he⟩ (λpre a post s e hI=>hst a (by rw[e]at pm;simp at pm;omega) hI);rw[es1,Gq];have m0:0<=c6%(100000000000000000000:Int):=Hx _ ⋯;have m1:c6%(100000000000000000000:Int)<100000000000000000000:=Hh _ ⋯;have e2:∀z:Int,0<=z->z<100000000000000000000->eJ (eS qH y `k b) [(0:Int)-1,k,k+z] ()=.ok (.nx ()):=λz z0 z1=>by
  have step:∀a:Int, -(10^41)<a->a<10^42->(a<0\/k<=a)->eS qH y strip b a ()=.ok (.nx ()):=λa a0 a1 a2=>by
   unfold eS;rw[hno a0 a1 a2];rfl
  show(eS qH y `k b _ ()).bind _=_;rw[step _ `b `b `b,Gq];show(eS qH y `k b _ ()).bind _=_;rw[step _ `b `b `b,Gq];show(eS qH y `k b _ ()).bind _=_;rw[step _ `b `b `b,Gq];rfl
 show Res.Ok (RG _ _) _;rw[Gq,eO ⋯,Gq,Gq,Gq,Gq,Gq,e2 _ m0 m1,Gq];obtain⟨tx,et,tl,tT⟩:=qI c1 `aP `b;show Res.Ok (RG _ _) _;rw[show i7 ns 1=.ok c1 from e1,show i7 ns 8=.ok c8 from e8,Gq,et,Gq,Gq,Gq];refine ja ((ja ((Av hc tT `b c8).imp λr hr=>okR (P:=λz:Tx=>z.length<=100) (by have:=hr.2.2;omega))).imp `bG);rw[Gq,Gq,Gq,Gq];refine ja (Iz (P:=λz:Tx=>z.length<=200) (kH (λ_=>ja<|(yI `b _).imp λz hz=>okR `b)<|104 `b) λz hz=>?_);rw[nX hc `k _ _ `b];cases hf:(gU z strip.length&&eE y.1 y.2.2 b (0,0) (z.zip strip))with
 |false=>
  rw[yL hc `k g0 b0 `b hf,Gq,Gq,Gq,Z3 ⋯];exact F0 (wU `T<|by simp[rD,Dat.le]) `a
 |true=>
  rw[IF]at hf;have hr:=hf.1;unfold gU at hr;rw[IF,decide_eq_true_iff,JF]at hr;obtain⟨n',en,hn'⟩:=ui hc a3 g0 (show y.2.2<=3 by omega) b0 b1 hr.1 (λc hc=>turnB_iff.mp<|hr.2 c hc) hf.2;have hd:=hdn hn';obtain⟨x',ex,hx'⟩:=hwy n' hd.1 hd.2;have exx:=hx'.uniq hn';subst exx;rw[o6 en,Gq,Gq,Gq,`aZ];simp only[DN,DO,yK,yJ,Gq,show de 1 (Qg n')=true from rfl,show de 0 (Qg n')=false from rfl,decide_true,decide_false,KO,MK,Hg,if_false,decide_eq_false (show ¬n'<0 by omega),decide_eq_false (show ¬k<=n' by omega),ex];exact F0 (show tm _ _=.ok `o from by unfold tm;rw[decide_eq_true `a]) `a
end Mi
namespace PySem.W.Fast
def tw861502493610598483:=()
def tw6751848408627861421:=()
def tw7774113678449685934:=()
def tw17426491299859156930:=()
def tw2412309844586964686:=()
def tw16592619640548467951:=()
def tw16626521671886133394:=()
def tw12003660372656728261:=()
def tw17833075098285167662:=()
def tw10276846922893749604:=()
def tw4038046598495731775:=()
def tw9780540709794827781:=()
def tw2629151800749243262:=()
def tw14019881755177166336:=()
def tw890339118813698166:=()
def tw8933551595104133173:=()
def tw256976265262469064:=()
def tw6702445572142316249:=()
def tw12798174099139212305:=()
def tw3778530596728393105:=()
def tw4607425872040536859:=()
def tw14179244583298268729:=()
def tw6216382948874008006:=()
def tw16493865465440409018:=()
def tw17267597263503486738:=()
def tw2576523973992343609:=()
def tw1864683662541468164:=()
def tw10888863842102328177:=()
def tw9399754086935153974:=()
def tw514280064592716601:=()
def tw6248682570935725439:=()
def tw9113380124883318265:=()
def tw866652123128751154:=()
def tw11853640710764476214:=()
def tw13951883219540855227:=()
def tw7933485763601977624:=()
def tw10842938092177581297:=()
def tw6060609690816243450:=()
def tw9950792792127014553:=()
def tw6782663255696616371:=()
def tw14903569129155370506:=()
def tw5872530126848033075:=()
def tw2474200967059427378:=()
def tw13444670453868202053:=()
def tw10341888390210383824:=()
def tw17426987436379436081:=()
def tw977512076041815475:=()
def tw12405761042648551022:=()
def tw14782954611325821827:=()
def tw12408111787983249662:=()
def tw2399617604181995578:=()
def tw1719895430356276633:=()
def tw5274481202262711730:=()
def tw9806118890596472461:=()
def tw4903002758410956813:=()
def tw17659185236578331656:=()
def tw6557801498797044033:=()
def tw15018716904364860632:=()
def tw15240619367488684849:=()
def tw15685335758407661847:=()
def tw4323258101793500111:=()
def tw7220529860990300233:=()
def tw16636501806038632012:=()
def tw12740759652641322565:=()
def tw991626836265849350:=()
def tw14565471765716263578:=()
def tw11692469974320434101:=()
def tw6607644564249050058:=()
def tw13394580363473044415:=()
def tw4046790133079468173:=()
def tw18367749455379333440:=()
def tw3615178456390077923:=()
def tw14074196154385387334:=()
def tw2466311954974566718:=()
def tw10297410513487048360:=()
def tw17883462748017686043:=()
def tw13669536469129627823:=()
def tw15227483606004533461:=()
def tw3998647374267775353:=()
def tw16226643914720891334:=()
def tw11521511281804667912:=()
def tw17724038513149304489:=()
def tw1478030337931831861:=()
def tw2786648768249225349:=()
def tw15163409612377130007:=()
def tw17653592248189364939:=()
def tw13114645530532618160:=()
def tw11066385474520676512:=()
def tw15621415185263527259:=()
def tw15805137534098808535:=()
def tw14172470266813156586:=()
def tw209982475168477708:=()
def tw2135409205425526673:=()
def tw15861351967447197489:=()
def tw8285278889055680438:=()
def tw6278996535519779258:=()
def tw4096438862311573950:=()
def tw8159993647027272844:=()
def tw11033627544408312984:=()
def tw6427576097997697322:=()
def tw4309217394794523951:=()
def tw4699756791338806529:=()
def tw1725486776273817318:=()
def tw3365755272349913518:=()
def tw13855379610559885079:=()
def tw16756451883985382160:=()
def tw16248296213531012650:=()
def tw3681537716864247207:=()
def tw3374319085511977134:=()
def tw14226173905949225808:=()
def tw13421457143807847188:=()
def tw1467881925912835984:=()
def tw9197174079833555027:=()
def tw3592811809046731828:=()
def tw819570635367399668:=()
def tw13053770412826190925:=()
def tw1979317910248211280:=()
def tw5217270863462422736:=()
def tw12652081859355081885:=()
def tw17590705303994421779:=()
def tw9402243437249704421:=()
def tw2228412568605170491:=()
def tw12188032599808994241:=()
def tw10295913840692754127:=()
def tw5285915839522022235:=()
def tw18073898193381586223:=()
def tw15438627641174518403:=()
def tw5002640475654186023:=()
def tw15166322114958858414:=()
def tw7867829370405329436:=()
def tw17435391645217708394:=()
def tw14847308668706973960:=()
def tw14196522196718054806:=()
def tw2827255003249426055:=()
def tw6128145076113358165:=()
def tw8115137120850386438:=()
def tw12960429369202013873:=()
def tw13674586047789940208:=()
def tw5000232492035539693:=()
def tw17318462890700432884:=()
def tw15173544498738437827:=()
def tw8432719020341155521:=()
def tw17338325484393633139:=()
def tw13437419889732721216:=()
def tw18183970276198133131:=()
def tw14961746396406840608:=()
def tw9461873434466728008:=()
def tw14383893971135437652:=()
def tw10042083083395451092:=()
def tw15752536640612570366:=()
def tw14746253646979254834:=()
def tw9947508896943372755:=()
def tw13953587524928339648:=()
def tw4493901809537577575:=()
def tw16773468814595293053:=()
def tw4804111812005502284:=()
def tw16753820520455620202:=()
def tw8865387616306378214:=()
def tw2694234056635809718:=()
def tw15433366417846715934:=()
def tw3919386906821981792:=()
def tw3308634892276815127:=()
def tw2570914705882880060:=()
def tw17214186515701724070:=()
def tw10510056951384868246:=()
def tw446995266069924076:=()
def tw6356304189028158447:=()
def tw3419001889969749887:=()
def tw3300454383303005205:=()
def tw16279288168775177219:=()
def tw14842496431369740429:=()
def tw16723463757517087524:=()
def tw1000662321505670351:=()
def tw2483420100392427323:=()
def tw3300257896294614128:=()
def tw14993981098963755598:=()
def tw9972681490609642005:=()
def tw18418582437962087742:=()
def tw4734895289157585001:=()
def tw11266997524610791606:=()
def tw4547051000311932777:=()
def tw1378205811072252300:=()
def tw9879335643197240621:=()
def tw6229817132586351632:=()
def tw3382625519597670723:=()
def tw2789304352393801511:=()
def tw2646887283097553488:=()
def tw18157406047293677543:=()
def tw16902440903046159558:=()
def tw14904681115217272601:=()
def tw12903330217458380548:=()
def tw12269216009862288129:=()
def tw2261719852989239553:=()
def tw13135312941875745310:=()
def tw140001813534094272:=()
def tw2084650752826471497:=()
def tw2107523057676978006:=()
def tw8739830900816887780:=()
def tw5101696844757716304:=()
def tw4075453323654395381:=()
def tw15402603294489630176:=()
def tw11898673842065290130:=()
def tw14827714588952709054:=()
def tw5537553045615171315:=()
def tw16864618592142003386:=()
def tw14424681132571578402:=()
def tw87601786513091389:=()
def tw8733291241859026926:=()
def tw9860861378791804195:=()
def tw3239113980409921550:=()
def tw2941924889016668590:=()
def tw12382822922155266910:=()
def tw4548300405975405348:=()
def tw11564986514327137767:=()
def tw3543459598558145280:=()
def tw14935467056822913822:=()
def tw1205274952441263945:=()
def tw10159399881129095643:=()
def tw17170472223608059050:=()
def tw1937721966566455358:=()
def tw8318101203651539667:=()
def tw6408400580700104982:=()
def tw14963028359598502718:=()
def tw8997383693586321770:=()
def tw14022695629967993375:=()
def tw8422229294311615681:=()
def tw28018229315631829:=()
def tw15925456577456769635:=()
def tw8186657734068701312:=()
def tw1158361714356455011:=()
def tw14560624547652848805:=()
def tw6575520176995025181:=()
def tw17678831435119133177:=()
def tw1342123614928995077:=()
def tw12770481643036789091:=()
def tw16654469307462801742:=()
def tw18031968618487185184:=()
def tw10551173667578312727:=()
def tw8752102160057688731:=()
def tw7374399212775623666:=()
end PySem.W.Fast
section
open PySem PySem.W PyProof.Rows
set_option maxHeartbeats 0 in
open_top hd for PySem.Challenge.rw_wornband_k32_whole_numbering
end
namespace Wb
open PySem L2 Mi
theorem AE{K:Gr}:∀vs H Q E,u6 K vs H Q E->Dp (isScr K) (rs isB) yi vs H Q E:=λvs H Q E⟨a,ns,h1,h2,h3,h4⟩=>⟨⟨H,H,`s⟩,ns,`ai,`a,h1,32 a h2,`bH,λ_ h=>h,Res.Ok.e ((Cj ns h3).imp λr hr u W' _ hu=>by cases hr;cases hu;exact h4 _)⟩
theorem fin_mk{l:Mc}{w:GW}{K:Gr}{h:Heap}{mg:Str->`M}{fa a0 a4 a5 a6 a7 a8 a9 b0 b1 b2 b3 b4 a3 b5 f_law:Addr}{od_law an_law:`aW}{sl_law:Array `M}{oc_law kV_law dc_law pm_law cd_law ct_law:Gu}{g9:Tok}{c0:Addr}{h0:Nat}{h1 h2 h3 h4 h5 h6:Tok}{c7:Addr}{h7:Nat}{h8 h9:Tok}{c1:Addr}{i0:Nat}{i1 i2 i3 i4 i5 i6:Tok}{i8:Tok}{i9:Tok}(X:K.In h)(G:h.Ns mainGlobals mg)(hfa:90 "law" fa)
  (c2:59 K "_law_same" 69 `bV)
  (j0:59 K "_law_at" 51 ["_law_script","_law_k"])
  (j1:59 K "_law_row" 47 `ce)
  (j2:59 K "_law_holes" 48 ["_law_cell"])
  (j3:59 K "_law_card" 49 ["_law_cell"])
  (j4:59 K "_law_turns" 50 `ch)
  (j5:59 K "_law_go" 53 ["_law_turn"])
  (j6:59 K "_law_behind" 54 `bU)
  (j7:59 K "_law_twist" 55 `bU)
  (j8:59 K "_law_places" 56 `cd)
  (j9:59 K "_law_long" 58 ["_law_places_here","_law_cell"])
  (k0:59 K "_law_marks" 57 ["_law_places_here",`bx,"_law_lies"])
  (k1:59 K "_law_turnover" 59 ["_law_card_here"])
  (k2:59 K "_law_back" 60 ["_law_turns_here"])
  (k3:59 K "_law_roll" 61 ["_law_card_here","_law_many"])
  (k4:59 K "_law_seen" 62 `cd)
  (k5:59 K "_law_kin" 63 [`aQ,"_law_turns_here",`bx])
  (k6:59 K "_law_case" 64 ["_law_script","_law_most"])
  (k7:59 K "_law_faded" 71 ["_law_strip","_law_cell"])
  (k8:59 K "within" 34 ["state","loose","bound"])
  (k9:59 K "twisting" 21 `cb)
  (l0:59 K "state_behind" 33 ["tablet","state","turn"])
  (l1:59 K "twisted" 32 ["tablet","twist"])
  (d_top:59 K "top" 19 ["tablet"])
  (l2:59 K "bottom" 20 ["tablet"])
  (l3:59 K "left_place" 25 `cb)
  (l4:59 K "suits" 29 ["sign","left"])
  (l5:59 K "agrees" 28 ["place","mark"])
  (l6:59 K "leaves" 35 `ci)
  (l8:59 K "onward" 36 [`ab,"mark",`ak,`al,"state"])
  (l9:59 K "states_behind" 39 [`ab,"mark",`ak,`al,"states"])
  (m0:59 K "search" 38 `bP)
  (m1:59 K "tails" 40 `bP)
  (m2:59 K "ways" 41 `bP)
  (m3:59 K "chosen" 43 ["moves","counts","number"])
  (d_way:59 K "way" 42 [`ab,"strip",`ak,`al,"number"])
  (m4:59 K "_law_does" 65 [`aQ,`bs,`bE,`bF,"_law_text"])
  (m5:59 K "is_row" 24 ["text","width"])
  (m6:59 K "does" 37 [`ab,"strip",`ak,`al,"text"])
  (m7:59 K "comes_ahead" 45 ["turn","other"])
  (m8:59 K "rank" 44 [`ab,"strip",`ak,`al,"text"])
  (m9:59 K "_law_tried" 72 [`aQ,`bs,`bE,`bF,"_law_text"])
  (n0:59 K "_law_later" 74 ["_law_one","_law_other"])
  (n1:59 K "_law_none" 73 [`aQ,`bs,`bE,`bF,"_law_number"])
  (n2:59 K "_law_hurt" 66 ["_law_strand_here","_law_cell"])
  (n3:59 K "_law_sign" 67 ["_law_cell"])
  (n4:59 K "_law_spoil" 68 ["_law_text","_law_cell"])
  (a_law:0 (146 K "law") (24 f_law)) (l_law:142 f_law ⟨oc_law,od_law,.func<|JZ "law" "law" (defArgs<|tp 75) (defBody<|tp 75) (defScope<|tp 75) .none kV_law dc_law pm_law an_law cd_law ct_law,sl_law⟩) (c_law:1 (LL K cd_law "law")) (k_law:1 (JO K<|.ref f_law))
  (n5:59 K "_law_kinds" 70 ["_law_e"])
  (zz:NB K ["ValueError","abs","all","bool","enumerate","int","isinstance","len","list","max","range","reversed","sorted","str","sum","tuple","zip"])
  (n6:58 (146 K "HOLES") (.int 4 g9))
  (n7:0 (146 K "SLANTS") (24 c0))
  (n8:K.lookup c0=some {cls:=.type "dict",data:=.dict #[⟨hashInt 1,.int (1) h1,.str (Gy "s") h2⟩,⟨hashInt<|-1,.int (-1) h3,.str (Gy "z") h4⟩,⟨hashInt 0,.int (0) h5,.str (Gy "o") h6⟩] h0})
  (n9:12 (c0==sysModules))
  (o0:0 (146 K "START") (24 c7))
  (o1:K.lookup c7=some {cls:=`bo,data:=.seq #[.int (0) h8,.int (0) h9] h7})
  (o2:0 (146 K "STEPS") (24 c1))
  (o3:K.lookup c1=some {cls:=.type "dict",data:=.dict #[⟨Mj w.params<|Gy "f",.str (Gy "f") i1,.int (1) i2⟩,⟨Mj w.params<|Gy "b",.str (Gy "b") i3,.int (-1) i4⟩,⟨Mj w.params<|Gy "i",.str (Gy "i") i5,.int (0) i6⟩] i0})
  (o4:12 (c1==sysModules))
  (o5:58 (146 K "TURNS") (.str (Gy "fbi") i8))
  (o6:58 (146 K "WORN") (.str (Gy "?") i9))
  (o7:0 (146 K "BandError") (24 a0)) (e0:XN K a0 vE)
  (e1:XB K "BadTablet" a0 a4)
  (e2:XB K "BadRow" a0 a5)
  (e3:XB K "BadText" a0 a6)
  (e4:XB K "BadMark" a0 a7)
  (e5:XB K "TooLong" a0 a8)
  (e6:XB K "TooTight" a0 a9)
  (e7:XB K "SpoolDry" a0 b0)
  (e8:XB K "NoTablet" a0 b1)
  (e9:XB K "NothingLeft" a0 b2)
  (f0:XB K "Unlike" a0 b3)
  (f1:XB K "SeenThread" a0 b4)
  (f2:XB K "NoSuchWay" a0 a3)
  (f3:XB K "Barred" a0 b5)
  (o8:XN K a3 (.ref a0::vE))
  (hn1:58 (MR K `bI "__get__") `cf) (ht1:0 (NF K `bI) `o) (nd1:(a0::[a4,a5,a6,a7,a8,a9,b0,b1,b2,b3,b4,a3,b5]).Nodup)
  :∃fd:GV,(∀(s:Gx)(v:Gu),Ol s fd ⟨[v],[]⟩ [("_law_script",v)])/\∀base:Heap,K.In `d->base.Ns mainGlobals mg->FnOk `U w K mg `d CX0 28 fa fd ["_law_script"] (u6 K):=by
 have e:=hfa.symm.trans (HF X G a_law);cases e;obtain⟨o9,c8,f4,c9,f5,b6,c3,a1,c4,f6,c5,p0,d0,d1,f7,d2,a2,_⟩:=NB.all X G zz;have d3:=HF X G n6;have p1:=HF X G n7;have p2:DictK K w c0 [(Kp 1,.str (Gy "s")),(Kp<|-1,.str (Gy "z")),(Kp 0,.str (Gy "o"))]:=⟨`ac,n9,by decide +kernel,_,_,n8,.cons (32 (iO _ _) `au) (.cons (32 (iO _ _) `au)<|.cons (32 (iO _ _) `au) .nil)⟩
 have b7:=HF X G o0;have b8:∀H,SqT K H c7 [.int (0),.int 0]:=λH=>.inr ⟨_,_,_,o1,15 `a,`a,(by show 69 2;decide),.cons `au<|.cons `au .nil⟩;have p3:=HF X G o2;have p4:DictK K w c1 [(Kq (Gy "f"),.int 1),(Kq (Gy "b"),.int<|-1),(Kq (Gy "i"),.int 0)]:=⟨`ac,o4,by decide +kernel,_,_,o3,.cons (32 (iP _ _) `au) (.cons (32 (iP _ _) `au)<|.cons (32 (iP _ _) `au) .nil)⟩
 have d4:=HF X G o5;have p5:=HF X G o6;have d5:=HF X G o7;have p6:=HF X G e1.1;have p7:=HF X G e2.1;have p8:=HF X G e3.1;have p9:=HF X G e4.1;have q0:=HF X G e5.1;have q1:=HF X G e6.1;have q2:=HF X G e7.1;have q3:=HF X G e8.1;have q4:=HF X G e9.1;have q5:=HF X G f0.1;have q6:=HF X G f1.1;have d6:=HF X G f2.1;have q7:=HF X G f3.1;refine⟨JZ "law" "law" (defArgs<|tp 75) (defBody<|tp 75) (defScope<|tp 75) .none kV_law dc_law pm_law an_law cd_law ct_law,λs v=>.of_eq `a,λbase KB _=>?_⟩;have Z2:Kin K `d [a4,a5,a6,a7,a8,a9,b0,b1,b2,b3,b4,a3,b5] a0:=e0.kin KB hn1 ht1 `a nd1 (HM.mpr ⟨e1.2,HM.mpr ⟨e2.2,HM.mpr ⟨e3.2,HM.mpr ⟨e4.2,HM.mpr ⟨e5.2,HM.mpr ⟨e6.2,HM.mpr ⟨e7.2,HM.mpr ⟨e8.2,HM.mpr ⟨e9.2,HM.mpr ⟨f0.2,HM.mpr ⟨f1.2,HM.mpr ⟨f2.2,HM.mpr ⟨f3.2,λ_ h=>nomatch h⟩⟩⟩⟩⟩⟩⟩⟩⟩⟩⟩⟩⟩);have f8:=XN.ecl KB o8 e0;have f9:CalH `U w K mg `d _ _ _ (fQ K [a4,a5,a6,a7,a8,a9,b0,b1,b2,b3,b4,a3,b5] a0):=n5.calH X G λF=>yj F c3 o9 p6 p7 p8 p9 q0 q1 q2 q3 q4 q5 q6 d6 q7 d5;have SA:∀n:Nat,Cal `U w K mg `d "_law_same" `bV n (fP K n):=λn=>by
  induction n with
  |zero=>exact c2.cal X G λ_=>Ac
  |succ n ih=>exact c2.cal X G λF=>yk F a1 c3 c9 b6 d1 c4 d2 a2 ih
 have g0:=SA 26;have SH:∀n:Nat,CalH `U w K mg `d "_law_same" `bV n (nP n):=λn=>by
  induction n with
  |zero=>exact c2.calH X G λ_=>yg
  |succ n ih=>exact c2.calH X G λF=>yl F a1 c3 c9 b6 d1 c4 d2 a2 ih
 have C__law_sameH:=SH 2;have g1:Cal `U w K mg `d _ _ _ (bM _ _ _ i7):=j0.cal X G λF=>Fy F a1;have b9:Cal `U w K mg `d _ _ _ (eX _ _ _ _ iY):=j1.cal X G λF=>Fz F c8 c5;have q8:Cal `U w K mg `d _ _ _ (fz _ _ zS):=j2.cal X G λF=>FA F b9;have q9:Cal `U w K mg `d _ _ _ (fz _ _ yO):=j3.cal X G λF=>FC F q8;have g2:Cal `U w K mg `d _ _ _ (bM _ _ _ rZ):=j4.cal X G λF=>FD F b9;have g3:Cal `U w K mg `d _ _ _ (fz _ _ qV):=j5.cal X G λF=>FE F;have g4:Cal `U w K mg `d _ _ _ (bM _ _ _ l7):=j6.cal X G λF=>FF F g3;have g5:Cal `U w K mg `d _ _ _ (bM _ _ _ kQ):=j7.cal X G λF=>FG F g3;have g6:Cal `U w K mg `d _ _ _ (bM _ _ _ sd):=j8.cal X G λF=>FH F g4 g5;have r0:Cal `U w K mg `d _ _ _ (bM _ _ _ zT):=j9.cal X G λF=>FI F b9 a1 a2;have r1:Cal `U w K mg `d _ _ _ (eX _ _ _ _ zU):=k0.cal X G λF=>FJ F b9 b6 a1 d2 a2;have r2:Cal `U w K mg `d _ _ _ (fz _ _ zV):=k1.cal X G λF=>FK F;have r3:Cal `U w K mg `d _ _ _ (fz _ _ zW):=k2.cal X G λF=>FL F;have r4:Cal `U w K mg `d _ _ _ (bM _ _ _ zX):=k3.cal X G λF=>FN F c5;have r5:Cal `U w K mg `d _ _ _ (bM _ _ _ zY):=k4.cal X G λF=>FO F g4 d0;have r6:Cal `U w K mg `d _ _ _ (eX _ _ _ _ zZ):=k5.cal X G λF=>FP F r2 r3 r4 r5 c5;have r7:Cal `U w K mg `d _ _ _ (bM _ _ _ yP):=k6.cal X G λF=>FQ F q9 g1 g2 g6 r0 r1 r6;have r8:Cal `U w K mg `d _ _ _ (bM _ _ _ yh):=k7.cal X G λF=>FR F b9 a1 a2;have d7:Cal `U w K mg `d _ _ _ (eX _ _ _ _ jL):=k8.cal X G λF=>FT F c8;have g7:Cal `U w K mg `d _ _ _ (bM _ _ _ se):=k9.cal X G λF=>FU F p3 p4;have d8:Cal `U w K mg `d _ _ _ (eX _ _ _ _ jc):=l0.cal X G λF=>FV F g7;have r9:Cal `U w K mg `d _ _ _ (bM _ _ _ A0):=l1.cal X G λF=>FW F d3;have C_top:Cal `U w K mg `d _ _ _ (fz _ _ jM):=d_top.cal X G λF=>DJ F d3;have s0:Cal `U w K mg `d _ _ _ (fz _ _ A1):=l2.cal X G λF=>FX F d3;have s1:Cal `U w K mg `d _ _ _ (bM _ _ _ A2):=l3.cal X G λF=>FY F C_top s0 g7 p1 p2;have s2:Cal `U w K mg `d _ _ _ (bM _ _ _ yQ):=l4.cal X G λF=>FZ F p5;have s3:Cal `U w K mg `d _ _ _ (bM _ _ _ A3):=l5.cal X G λF=>G0 F s2 f4 a2;have g8:Cal `U w K mg `d _ _ _ (iC _ _ _ _ _ mH):=l6.cal X G λF=>G1 F s3 s1 r9;have c6:Cal `U w K mg `d _ _ _ (gh _ _ _ _ _ _ gu):=l8.cal X G λF=>G2 F d8 d7 g8 d4;have s4:Cal `U w K mg `d _ _ _ (gh _ _ _ _ _ _ sf):=l9.cal X G λF=>G4 F c6 d0;have s5:Cal `U w K mg `d _ _ _ (iC _ _ _ _ _ A4):=m0.cal X G λF=>G5 F d7 s4 b7 b8;have d9:Cal `U w K mg `d _ _ _ (iC _ _ _ _ _ mV):=m1.cal X G λF=>G6 F s5 c6 a1 c5 p0 f7;have s6:Cal `U w K mg `d _ _ _ (iC _ _ _ _ _ A5):=m2.cal X G λF=>G7 F d9 b7 b8;have s7:Cal `U w K mg `d _ _ _ (eX _ _ _ _ si):=m3.cal X G λF=>G8 F;have C_way:CalR `U w K mg `d _ _ _ (qg `q (qD K) isI isI isI [a4,a5,a6,a7,a8,a9,b0,b1,b2,b3,b4,a3,b5] (rs isS) dR):=d_way.calR X G λF=>DK F d9 s7 c6 f5 b7 b8 d6 f8;have s8:Cal `U w K mg `d _ _ _ (gh _ _ _ _ _ _ tZ):=m4.cal X G λF=>G9 F g6 g5 c8 b6 a1 a2;have s9:Cal `U w K mg `d _ _ _ (bM _ _ _ A6):=m5.cal X G λF=>Ga F f4 a1 d4;have t0:Cal `U w K mg `d _ _ _ (gh _ _ _ _ _ _ A7):=m6.cal X G λF=>Gb F s9 d7 d8 g8 a1 a2 b7 b8;have t1:Cal `U w K mg `d _ _ _ (bM _ _ _ sj):=m7.cal X G λF=>Gd F d4;have t2:CalR `U w K mg `d _ _ _ (qg `q (qD K) isI isI isS [a4,a5,a6,a7,a8,a9,b0,b1,b2,b3,b4,a3,b5] (rs isI) vS):=m8.calR X G λF=>Ge F t0 d9 c6 t1 d8 f5 f7 b7 b8 d6 f8;have t3:Cal `U w K mg `d _ _ _ (gh _ _ _ _ _ _ qW):=m9.cal X G λF=>Gf F t2 g0 Z2 d5 f9 c4;have t4:Cal `U w K mg `d _ _ _ (bM _ _ _ u4):=n0.cal X G λF=>Gg F a2;have t5:Cal `U w K mg `d _ _ _ (gh _ _ _ _ _ _ qH):=n1.cal X G λF=>Gh F C_way Z2 d5 f9 C__law_sameH c4;have t6:Cal `U w K mg `d _ _ _ (bM _ _ _ A8):=n2.cal X G λF=>Gi F a1 f6;have t7:Cal `U w K mg `d _ _ _ (fz _ _ A9):=n3.cal X G λF=>Gj F;have t8:Cal `U w K mg `d _ _ _ (bM _ _ _ Aa):=n4.cal X G λF=>Gk F t7 a1;exact FnOk.imp (DL (rf (st:=tp 75) l_law c_law k_law) r7 r8 g1 s6 C_way s8 g0 t3 t4 t5 t6 g2 t8 c9 b6 c3 a1 f6 d0 d1) AE
theorem walk{l:Mc}{q:GJ}{loose:`y}{XP:11 (Str->`M) Heap}{YP:11 GW Heap}{d:DefRec}{K:RW->Gr}(hn:0 l.most 63)(hdf:d.params.defaults=[])(hY:∀(w:GW)(h:Heap),YP w h->(K w.params).In h)
  (F:∀(w:GW)(mg:Str->Option Gu)(fa:Addr)(h:Heap),(K w.params).In h->h.Ns mainGlobals mg->90 d.name fa->∃fd:GV,(∀(s:Gx)(u:Gu),Ol s fd ⟨[u],[]⟩ [("_law_script",u)])/\∀base:Heap,(K w.params).In `d->base.Ns mainGlobals mg->FnOk `U w (K w.params) mg `d CX0 28 fa fd ["_law_script"] (u6<|K w.params)):
  PY q `e XP YP l.row.toRowW d [] (λf vs=>Q6 f vs):=
 L2.walk_of (n:=63) (k:=28) (x:="_law_script") (CX:=λ_=>CX0) (sp:=λw=>u6 (K w.params)) hn ⋯ hdf ⟨`a,`ac,`ac⟩ hY F (λ_ _ a ns hl _ hS=>⟨a,ns,`a,hS,hl,λ_=>`a⟩) λ_ _ _ _ _ z=>z
end Wb
open PySem PySem.W PyProof.Rows
set_option maxRecDepth 100000 in
set_option maxHeartbeats 0 in
theorem PySem.Challenge.cw_wornband_k32_whole_numbering_holds : PySem.Challenge.rw_wornband_k32_whole_numbering.Holds := by
 refine hd ?_
 k_fill
 refine Wb.walk (l:=Jj) rfl rfl (λw h Y=>PySem.W.kIn_of Y) ?F
 case F=>
  intro w mg fa h KX G hmg
  refine' Wb.fin_mk KX G hmg ..
  all_goals first|(apply Wb.DI.mk;(case da=>k_is);(case dl=>k_is);(case dc=>k_is);(case dk=>k_is);exact λ_ _ _ _ _ _ _=>rfl)|(apply Wb.MB.mk;(case da=>k_is);(case dy=>k_is);(case dl=>k_is);(case dc=>k_is);(case dk=>k_is);exact λ_ _ _ _ _ _ _=>rfl)|(apply Wb.CB.mk;all_goals k_is)|((repeat (apply Wb.NB.cons;(case a=>k_is)));exact Wb.NB.nil)|(apply Wb.XB.mk;(case u=>k_is);(case v=>k_is);(case ga=>k_is);(case gt=>k_is);(case cl=>k_is))|(apply Wb.XN.mk;(case v=>k_is);(case nn=>k_is);(case sk=>exact Wb.strKeys_of rfl);(case ni=>first|rfl|kernel_rfl))|k_is|rfl|decide|skip
