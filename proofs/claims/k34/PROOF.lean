import PyProof.Rows.All
import Wide.All
import OpenK.AllK
import Wide.FinOn
import PyProof.EqAt
import PyProof.EqKinds
import PyProof.TupleCall
import KE.KDictSum
import KE.KRevIter
import KE.KRevSl
import KE.KDictLaws
import PyProof.StrLawsFirst
import KE.LcSums
import PyProof.EnumMake
import PyProof.TupleIter
import PyProof.StationsW
import PyProof.Rows.Own
import PyProof.NsDelKeeps
import PyProof.RulesAs
import PyProof.ExcAttrAll.ValueError
import KE.KIsAll
import PyProof.ExcBaseAll.ValueError
import PyProof.Rows.FStr
import PyProof.FString
import PyProof.Rows.StrNews
import PyProof.StrLawsTight
import PyProof.StrLawsChain
import PyProof.ExcInit
import PyProof.ExcClass3
import PyProof.InstStoreFacts
import PySem.SetTable
import PySem.SetOps
import PyProof.TupleKey
import PyProof.SetKind
import PyProof.IsRules
import KE.KSortTup
import PyProof.Rows.SortRun
import PyProof.Rows.SortShell
import PyProof.DictWalks
import PyProof.DictTruth
import PySem.Challenge.RW_wornband_k34_more_room_more_ways
open And renaming intro→FR
open Array renaming getElem?_toList→zC,getElem?_eq_getElem→zM,length_toList→A4,getD_eq_getD_getElem?→Ab,toList_append→Ae,getElem?_eq_some_iff→Bn,toList_push→Bw,getD→Bx,getElem?_eq_none→Cb,toList_setIfInBounds→Cq,toList_eraseIdxIfInBounds→CZ,toList_reverse→Dm,size_setIfInBounds→Ec,replicate→EC,forIn_toList→Fp,toList_map→FU,toList_inj→FX,toList→GK
open Bool renaming false_ne_true→zF,false_eq_true→A5,and_eq_true→Be,eq_iff_iff→BI,or_eq_true→Cg,not_true→Dh,not_eq_true'→E3,not_false→F0,false_and→Gg
open Classical renaming not_forall→Dk,not_imp→DY,not_not→E4
open False renaming elim→C9
open ForInStep renaming done→zV,yield→A3
open Int renaming emod_lt_of_pos→A6,emod_nonneg→Af,toNat_natCast→AA,le_refl→C8,toNat_of_nonneg→F2,ediv_one→GN,le_trans→GO
open List renaming getElem?_eq_getElem→zu,getElem?_map→zA,getElem?_eq_some_iff→zB,size_toArray→zK,getElem?_append_right→zN,append_assoc→zO,mem_cons_self→zP,mem_cons_of_mem→zR,getElem?_append_left→zT,mem_cons→zU,mem_of_getElem?→zW,mem_append_right→A0,length_map→A2,mem_append→Ac,getElem?_take_of_lt→Ag,mem_map→Ah,nodup_iff_pairwise_ne→Aj,map_cons→An,getElem?_drop→Ar,getD_eq_getElem?_getD→Az,getElem?_eq_none_iff→AB,range→AD,getElem?_eq_none→AL,getElem?_cons_succ→AO,pairwise_append→AS,Nodup→AU,drop_eq_getElem_cons→AY,append_nil→Ba,find?_cons→Bb,lookup_cons→Bf,getElem?_cons_zero→Bg,ext_getElem?→Bl,nodup_cons→Bo,pairwise_iff_getElem→Bp,length_append→Br,mem_reverse→Bs,replicate→Bt,mem_iff_getElem→Bu,not_mem_nil→Bz,getElem_mem→BA,length_cons→BB,getElem?_reverse→BF,perm_append_comm→BG,map_map→BL,pairwise_map→BN,filterMap_cons→BX,length_eq_zero_iff→BZ,drop_length→C2,length→C7,take_of_length_le→Ca,mem_singleton→Cc,mem_range→Cp,getElem?_range→Cz,length_erase_of_mem→CB,of_mem_zip→CC,length_zip→CD,nil_append→CF,mem_filterMap→CG,set_cons_zero→CJ,pairwise_singleton→CK,map_nil→CN,nodup_nil→CT,mem_iff_getElem?→D0,mem_of_mem_erase→D3,take_append_drop→D4,length_take→D7,cons_append→Dc,any_cons→Dg,mem_append_left→Di,length_nil→Dw,length_reverse→Dx,pairwise_cons→DK,set_cons_succ→DN,getElem?_zip_eq_some→DP,mem_or_eq_of_mem_set→DR,length_range→DZ,filterMap_cons_some→Ea,zipIdx_cons→Eh,pairwise_mergeSort→Ei,getElem?_set_self→El,drop_eq_nil_of_le→Et,pairwise_lt_range→Ew,mem_filter→Ex,foldl_cons→Ez,forIn_cons→EA,length_singleton→EF,getElem?_set_ne→EN,drop_zero→EU,forIn_nil→EW,length_eraseIdx→EZ,mergeSort_perm→F3,reverse_append→F4,lookup_append→Fn,reverse_cons→Fz,nodup_append→FH,length_drop→FN,all_eq_true→FQ,perm_middle→FV,map_snd_zip→FY,isEmpty_iff→G0,length_set→G8,zipIdx_nil→G9,drop_drop→Gn,all_cons→Gw,map_id→Hd,map→HB
open List.Nodup renaming not_mem_erase→CA,length_le_of_subset→De
open List.Pairwise renaming nil→Ck,map→Hv
open List.Perm renaming append_right→AE,append_left→AM,eq_of_pairwise→E8
open List.cons renaming injEq→EE
open Nat renaming le_refl→zw,lt_of_lt_of_le→zJ,zero_le→zS,ne_of_lt→zX,lt_irrefl→AW,le_trans→B9,zero_add→BM,le_add_right→C1,le_of_lt→Ct,lt_succ_self→Cu,ne_of_gt→CL,sub_self→CP,mod_lt→DJ,add_sub_cancel→DO,lt_succ_of_lt→DV,le_succ→DW,lt_trans→Es,div_div_eq_div_mul→Eu,reduceAdd→Fc,reduceSub→Fd,le_succ_of_le→FG,div_eq_of_lt→FT,strongRecOn→Ga,add_assoc→GD
open Ne renaming symm→Df
open Option renaming map_eq_some_iff→Al,map_some→Cf,getD_some→D8,ne_none_iff_exists'→DH,isSome_iff_exists→E5,getD_none→Eg,isSome→F8,isSome_some→Fj
open Option.some renaming inj→Ad,injEq→E2
open Or renaming inr→zG,inl→zH
open Prod renaming ext→DI
open PyProof.Rows renaming wpS_bind→zy,wpS_pure→zD,Keyed→zE,boot_isinstance→zZ,wpS_forRange→Av,SortSt→B0,wpS_modify→Bc,callWith_type1→Bh,wpS_mono→C4,boot_tuple→C5,mem_zip_self→Cw,wpS_get→CS,boot_list→CU,boot_bool→CV,boot_int→D5,SortKind→Dl,AllBare→DS,boot_sorted→Ed,wpS_lift→Ek,subscriptTail_builtinR→En,boot_abs→EL,boot_str→EM,listUpdate_at→Fb,Subscript_→Fh,IntsAre→Fw,callWith_builtin1→FL,seqEpoch_at→G6,boot_all→GR,boot_sum→GS,tail_any→H0
open PyProof.Rows.SortSt renaming mk'→Cs
open PySem renaming wpAny_bind→zh,Value→zl,wpAny_pure→zo,Shared→zq,Program→zL,World→zQ,FuncData→zY,Around→Ai,wpAny_call_entry→Ak,wpAny_newObj_type→Ap,wpAny_mono→Aq,wpAny_callSpecial?_slot→Ay,SetTable→AG,sizeLine_eq→AQ,wpAny_holding→AX,wpAny_field→B6,wpAny_setState_of→B7,wpAny_seqItems→Bk,wpAny_typeNameOfWhole_keyiter→Bv,wpAny_standAt→By,wpAny_rule→BC,wpAny_setField_rec→BD,IsTupleKey→BE,wpAny_passesOwn→BH,DictEntry→BJ,wpAny_truthy_bool→BK,wpAny_comprehension_free→BQ,wpAny_typeNameOf_keyiter→BR,NameKind→BY,wpAny_setField→C0,wpAny_askSetting→C3,Scope→Ce,wpAny_attempt→Ci,Builtin→Cm,wpAny_isInstance→Cv,IsPair→CH,wpAny_pyIter_rangeiter→CM,wpAny_pyIter_slot→CQ,wpAny_updateSeq_pair→Dj,wpAny_execs_nil→Dq,wpAny_specialOf→Dr,pushCells_keeps→Ds,wpAny_ite_split→Dt,wpAny_setEntries_of→Dy,codeAny_mono→Dz,wpAny_Call_Name_kw→DE,isSubtype_stop→DG,wpAny_fieldsOf→DM,wpAny_pyIter_list→DT,slot_list_getitem→DU,wpAny_dictEntries→E1,wpAny_getItem_list_slice→E6,wpAny_onRaise→E7,Comprehension→E9,wpAny_eqBool_int→Ef,wpAny_forIn_list→Ej,wpAny_pyNext_range_end→Em,Keyword→Eo,wpAny_Call_method_late→Ep,Model→Ey,IsZip→EB,wpAny_dictEpoch→ED,wpAny_isSame_ref_self→EG,builtinLookup_eq_fast→EH,wpAny_isOneOf_keyiter→EJ,wpAny_loadName_local→EO,IsRangeIter→ER,sliceRange_one→ET,wpAny_of_eq→EX,isSubtype_type→EY,wpAny_loadName_cell→F1,evalPart_none→F5,wpAny_handled→F7,wpAny_pyIter_ascii→Fm,tupleKind_room_in1→Fq,wpAny_assign_Name→Ft,BindsTo→Fv,seqIndex_neg→Fx,wpAny_pyIter_wide→Fy,wpAny_storeSet_of→FD,wpAny_execs_cons→FK,wpAny_pyIter_zip→FP,seqIndex_of→G1,wpAny_throw→G2,wpAny_letGo→G4,wpAny_loadPart'→G7,typeLookup_type→Gb,wpAny_Name→Gf,Result→Gh,typeIs_str→Gi,wpAny_newTuple→Gk,entryFor_alias→Gp,intBits_le_64→Gv,call_list_seq→Gx,signature?_of→GB,wpAny_newList→GF,Draws→GI,CellsOk→GL,Operator→GY,Params→Hs
open PySem.Builtin.Dict renaming showsAll→EI,dictSlotNone→Gs
open PySem.Builtin.Dict_items renaming ownsTuple→Du
open PySem.Builtin.Frozenset renaming oneOther→Gq,sizeOf→GC,addrOf→GG,slot0→GJ
open PySem.Builtin.List renaming listLengthHint→DA
open PySem.Builtin.Range renaming rangeFitsLong→Au,rangeSize→Ax,rangeFields→DQ
open PySem.Builtin.SmallTypes renaming nextOf→Ao,ownedTupleIsFree→B8,ownedTupleHandOut→Cy,refuseKeywords→Fs
open PySem.Builtin.Str renaming strSliceIndices→Bi,tooLong→Hm
open PySem.Calls renaming Name_function_global→DD,spliced_cons→Fg,spliced_nil→Fu
open PySem.Data renaming cell→DC,fields→ES,seq→Gj
open PySem.F renaming slot_dict_keyiterator_next→AH,args_dict_keyiterator_next_1→Dd,entry_dict_keyiterator_next→Dn,slot_dict_keyiterator_iter→Dv,slot_range_reversed→EK,slot_dict_iter→FZ,slot_set_iter→Gd
open PySem.Heap renaming get?_push_of_some→zr,get?_push_size→zz,lt_size→zI,SameBut→A9,size_push→Bj,get?_update_self→Bq,get?_update_other→CO,ExtBut→DX,get?_push_ne→FF,size_update→FW
open PySem.Heap.IsSliceOf renaming new→Fi
open PySem.Heap.Ns renaming new→Hc
open PySem.Heap.SameBut renaming update→AK
open PySem.IsRange renaming new→GZ
open PySem.NameKind renaming free→AJ,cell→F6
open PySem.Obj renaming mapSeq→BP,putSet→DL,mapFields→Eb,data_mapFields→Fo
open PySem.PassesOwn renaming never→AI
open PySem.SeqAt renaming EqAt→Ho
open PySem.SeqAt.EqAt renaming int_str→Fe,str_int→Ff,none_bool→H9,bool_none→Ha,bool_bool→Hb,none_int→He,none_str→Hf,bool_int→Hg,bool_str→Hh,int_none→Hi,int_bool→Hj,str_none→Hk,str_bool→Hl,int_int→Hq,str_str→Hr,same→HA
open PySem.SeqAt.RcAt renaming lists_lengths→GH,lists→Hx
open PySem.SetTable renaming leap→A1,bits→A8,runEnd→Aa,below→AF,insertAt→AN,turns→AR,grown→Cr,sizeAbove→CI,fill→F9,has→FC,fresh→Gr,slot→Gy,laid→Gz,fits→GA
open PySem.SetTable.below renaming go→Cn
open PySem.SetTable.layClean renaming free→Bm
open PySem.SetTable.probe renaming go→Co
open PySem.Str renaming ofString→zx,length→Hn
open PySem.Txt renaming find→DF,slice→FO,mul→Hu
open PySem.Value renaming ref→As,none→Aw,type→D6,int→Ee,str→FJ,bool→Ge,isStrOf→Gu,isInt→GU,float→GX
open PySem.W renaming looks_findIn→FA,looks_mroIn→G5,looks_find→Gm
open PySem.W.WData renaming int→Hw
open PySem.W.WShape renaming has→Ht
open PySem.pickOrder renaming go→FE
open Sum renaming inl→BU,inr→BW
open Sum.inl renaming inj→GV
open Sum.inr renaming inj→GW
open True renaming intro→BO
set_option Elab.async false
set_option linter.all false
set_option maxRecDepth 100000
namespace L2
open PySem PySem.Spec PyProof.Rows
abbrev Key:=Sum Int Str
def f6:Key→zl→Bool
 | .inl k,v=>GU k v
 | .inr x,v=>Gu x v
def qj (w:zQ):Key→Int
 | .inl k=>hashInt k
 | .inr x=>hashStr w x
theorem bv:∀{k:Key} {v:zl},f6 k v=true→(∃i t,k=BU i∧v=Ee i t)∨(∃x t,k=BW x∧v=FJ x t)
 | .inl i, v, h => by
  obtain⟨t,e⟩:=Value.isInt_shape (k:=i) (v:=v) h
  exact .inl ⟨i,t,rfl,e⟩
 | .inr x, v, h => by
  obtain⟨t,e⟩:=Value.isStrOf_shape (x:=x) (v:=v) h
  exact .inr ⟨x,t,rfl,e⟩
theorem fE (i:Int) (t:Tok):f6 (.inl i) (.int i t)=true:=by simp[f6,GU]
theorem fF (x:Str) (t:Tok):f6 (.inr x) (.str x t)=true:=by simp[f6,Gu]
theorem vd (a b:Int):decide ((BU a:Key)=BU b)=(a == b):=by
 by_cases e:a=b
 ·subst e;simp
 ·have h:¬(BU a:Key)=BU b:=fun q=>e (GV q)
  rw[decide_eq_false h]
  exact(beq_eq_false_iff_ne.mpr e).symm
theorem ve (a b:Str):decide ((BW a:Key)=BW b)=decide (a=b):=by
 by_cases e:a=b
 ·subst e;simp
 ·have h:¬(BW a:Key)=BW b:=fun q=>e (GW q)
  rw[decide_eq_false h,decide_eq_false e]
theorem vf (a:Int) (b:Str):decide ((BU a:Key)=BW b)=false:=decide_eq_false (fun q=>nomatch q)
theorem vg (a:Str) (b:Int):decide ((BW a:Key)=BU b)=false:=decide_eq_false (fun q=>nomatch q)
def mixKind (prog:zL) (w:zQ):PySem.KeyKind prog w Key where
 is:=f6
 hash:=qj w
 inj:=fun v a b ha hb=>by
  rcases bv ha with⟨i,t,rfl,rfl⟩ | ⟨x,t,rfl,rfl⟩
  ·rcases bv hb with⟨j,u,rfl,e⟩ | ⟨y,u,rfl,e⟩
   ·injection e with e1 _;rw[e1]
   ·exact nomatch e
  ·rcases bv hb with⟨j,u,rfl,e⟩ | ⟨y,u,rfl,e⟩
   ·exact nomatch e
   ·injection e with e1 _;rw[e1]
 byValue:=fun k v h=>by
  rcases bv h with⟨i,t,rfl,rfl⟩ | ⟨x,t,rfl,rfl⟩ <;> rfl
 pyHash:=fun hv h=>by
  rcases bv hv with⟨i,t,rfl,rfl⟩ | ⟨x,t,rfl,rfl⟩
  ·exact wpAny_pyHash_int h
  ·exact wpAny_pyHash_str h
 eqBool:=fun hu hv h=>by
  rcases bv hu with⟨i,t,rfl,rfl⟩ | ⟨x,t,rfl,rfl⟩
  ·rcases bv hv with⟨j,u,rfl,rfl⟩ | ⟨y,u,rfl,rfl⟩
   ·rw[vd]at h;exact Ef h
   ·rw[vf]at h;exact Fe i t y u _ _ _ _ h
  ·rcases bv hv with⟨j,u,rfl,rfl⟩ | ⟨y,u,rfl,rfl⟩
   ·rw[vg]at h;exact Ff x t j u _ _ _ _ h
   ·rw[ve]at h;exact wpAny_eqBool_str h
 «strs» :=fun k x t v h=>by
  rcases bv h with⟨i,u,rfl,e⟩ | ⟨y,u,rfl,e⟩
  ·exact nomatch e
  ·injection e with e1 _
   subst e1
   cases v <;> rfl
theorem kR (prog:zL) (w:zQ) (i:Int) (t:Tok):(mixKind prog w).is (.inl i) (.int i t)=true:=fE i t
theorem kS (prog:zL) (w:zQ) (x:Str) (t:Tok):(mixKind prog w).is (.inr x) (.str x t)=true:=fF x t
inductive V where
 | non | bl (b:Bool) | int (i:Int) | str (x:Str) | byt (b:Array UInt8) | flt (b:UInt64) | ref (a:Addr) | ty (n:String)
 deriving DecidableEq
def RelV:V→zl→Prop
 | .non,u=>u=Aw
 | .bl b,u=>u=Ge b
 | .int i,u=>∃t,u=Ee i t
 | .str x,u=>∃t,u=FJ x t
 | .byt b,u=>∃t,u=Value.bytes b t
 | .flt b,u=>∃t,u=GX b t
 | .ref a,u=>u=As a
 | .ty n,u=>u=D6 n
abbrev Vals:List V→List zl→Prop:=Paired RelV
theorem Vals.length {xs:List V} {us:List zl} (r:Vals xs us):xs.length=us.length:=Paired.length r
theorem Vals.get:∀{xs:List V} {us:List zl} {i:Nat} {x:V},Vals xs us→xs[i]? =some x→∃u,us[i]? =some u∧RelV x u
 | _,_,_,_,.nil,e=>by simp at e
 | _,_,0,_,.cons r _,e=>by simp at e;subst e;exact⟨_,rfl,r⟩
 | _, _, i + 1, x, .cons _ t, e => by
  obtain⟨u,h1,h2⟩:=Vals.get (i:=i) (x:=x) t (by simpa using e)
  exact⟨u,by simpa using h1,h2⟩
theorem Vals.set {x:V} {u:zl} (r:RelV x u):∀{xs:List V} {us:List zl} (i:Nat),Vals xs us→Vals (xs.set i x) (us.set i u)
 | _,_,_,.nil=>.nil
 | _,_,0,.cons _ t=>.cons r t
 | _,_,i+1,.cons q t=>.cons q (Vals.set r i t)
theorem Vals.append:∀{xs ys:List V} {us ws:List zl},Vals xs us→Vals ys ws→Vals (xs++ys) (us++ws)
 | _,_,_,_,.nil,s=>s
 | _,_,_,_,.cons r t,s=>.cons r (Vals.append t s)
theorem Vals.take:∀{xs:List V} {us:List zl} (n:Nat),Vals xs us→Vals (xs.take n) (us.take n)
 | _,_,0,_=>.nil
 | _,_,_+1,.nil=>.nil
 | _,_,n+1,.cons r t=>.cons r (Vals.take n t)
theorem Vals.drop:∀{xs:List V} {us:List zl} (n:Nat),Vals xs us→Vals (xs.drop n) (us.drop n)
 | _,_,0,r=>r
 | _,_,_+1,.nil=>.nil
 | _,_,n+1,.cons _ t=>Vals.drop n t
def RelO:Option V→Option zl→Prop
 | some v,some u=>RelV v u
 | none,none=>True
 | _,_=>False
def KV {κ:Type} :List (κ×V)→List (κ×zl)→Prop:=Paired fun(p:κ×V) (q:κ×zl)=>p.1=q.1∧RelV p.2 q.2
def kV:Key→V
 | .inl i=>.int i
 | .inr x=>.str x
inductive HO where
 | lst (xs:List V)
 | tup (xs:List V)
 | dK (kvs:List (Key×V)) | dT (kvs:List (List Key×V))
 | set (S:Int→Bool) (n:Nat)
 | ins (C dx:Addr) (fs:List (Str×V))
 | own (x:Addr)
 | xd (fs:List (Str×V))
 | met (f x:Addr)
 | rng (lo hi:Int)
 | frz (o:Obj) (u:HO)
 | tbl (ps:Array zl)
 | ext (φ:Heap→Prop)
abbrev Hp:=Addr→Option HO
def cA (H:Hp) (a:Addr) (o:HO):Hp:=fun b=>if b=a then some o else H b
theorem aI {H:Hp} {a:Addr} {o:HO} :cA H a o a=some o:=by unfold cA;rw[if_pos rfl]
theorem aJ {H:Hp} {a b:Addr} {o:HO} (h:b≠a):cA H a o b=H b:=by unfold cA;rw[if_neg h]
theorem bM {H:Hp} {a b:Addr} {o:HO} (h:H a=some o) (h':H b=none):a≠b:=by
 intro e;subst e;rw[h]at h';cases h'
def IsTupD (h:Heap) (a:Addr) (items:Array zl):Prop:=∃o,h.get? a=some o∧(o.cls=.type "tuple" ∧o.dict=none)∧∃n,o.data=.seq items n
theorem IsTupD.tup {h:Heap} {a:Addr} {items:Array zl} (t:IsTupD h a items):IsTup h a items:=let ⟨o,e,c,n,d⟩:=t;⟨o,e,c.1,n,d⟩
theorem IsTupD.new (h:Heap) (items:Array zl):IsTupD (h.push {cls:=.type "tuple",data:=.seq items}) h.objs.size items:=⟨_,zz h rfl,⟨rfl,rfl⟩,0,rfl⟩
section
variable (P:zL) (w:zQ)
def ObjOk (H:Hp) (h:Heap) (a:Addr):HO→Prop
 | .lst xs=>xs.length≤sizeLine∧∃(its:List zl) (n:Nat),Vals xs its∧h.get? a=some {cls:=.type "list",data:=.seq its.toArray n}
 | .tup xs=>xs.length≤sizeLine∧∃its:List zl,Vals xs its∧IsTupD h a its.toArray
 | .dK kvs=>kvs.length≤sizeLine∧(a == sysModules)=false∧∃vs,KV kvs vs∧h.DictOf (mixKind P w) a vs
 | .dT kvs=>kvs.length≤sizeLine∧(a == sysModules)=false∧∃xs:List (List Key×Addr×zl),
   Paired (fun(p:List Key×V) (q:List Key×Addr×zl)=>p.1=q.1∧H q.2.1=some (.tup (p.1.map kV))∧RelV p.2 q.2.2) kvs xs∧
   ∃o es ep,h.get? a=some o∧o.ExactDict∧o.data=.dict es ep∧es.toList=xs.map (entryOfKey (tupleKind (mixKind P w)))∧(xs.map (·.1)).Nodup
 | .set S n=>h.SetOf (intKind P w) a S n
 | .ins C dx fs=>H dx=some (.own a)∧fs.length≤1000∧dx≠a∧h.get? a=some (PySem.W.instObj C dx)∧
   ∃mA,h.Ns1 dx mA∧(∀f,RelO (fs.lookup f) (mA f))∧PySem.Within mA (fs.map (·.1))
 | .own _=>∃o,h.get? a=some o
 | .xd fs=>∃mA,h.Ns1 a mA∧∀f,RelO (fs.lookup f) (mA f)
 | .rng lo hi=>∃t u v,h.get? a=some {cls:=.type "range",data:=.fields #[.int lo t,.int hi u,.int 1 v]}
 | .frz o u=>h.get? a=some o∧ObjOk H h a u
 | .tbl ps=>h.get? a=some {cls:=.none,data:=.fields ps}
 | .met f x=>h.get? a=some (PySem.W.methodObj (.ref f) (.ref x))
 | .ext φ=>φ h∧(∃o,h.get? a=some o)∧∀h1 h2:Heap,φ h1→(∀o,h1.get? a=some o→h2.get? a=some o)→φ h2
def HOk (H:Hp) (h:Heap):Prop:=∀a o,H a=some o→ObjOk P w H h a o
end
section
variable {P:zL} {w:zQ} {H H':Hp} {h h':Heap} {a:Addr} {o:HO}
theorem ObjOk.lt (x:ObjOk P w H h a o):a< h.objs.size:=by
 cases o with
 | lst xs=>obtain⟨_,_,_,_,e⟩:=x;exact zI e
 | tup xs=>obtain⟨_,_,_,p⟩:=x;exact p.tup.lt
 | dK kvs=>obtain⟨_,_,_,_,o,_,_,e,_⟩:=x;exact zI e
 | dT kvs=>obtain⟨_,_,_,_,o,_,_,e,_⟩:=x;exact zI e
 | set S n=>obtain⟨o,_,_,_,e,_⟩:=x;exact zI e
 | ins C dx fs=>obtain⟨_,_,_,e,_⟩:=x;exact zI e
 | own y=>obtain⟨_,e⟩:=x;exact zI e
 | xd fs=>obtain⟨_,⟨_,_,_,e,_⟩,_⟩:=x;exact zI e
 | rng lo hi=>obtain⟨_,_,_,e⟩:=x;exact zI e
 | frz ob u=>obtain⟨e,_⟩:=x;exact zI e
 | tbl ps=>exact zI (show h.get? a=some _ from x)
 | met f y=>exact zI (show h.get? a=some _ from x)
 | ext φ=>obtain⟨_,⟨_,e⟩,_⟩:=x;exact zI e
theorem Paired.mapP {α β:Type} {F G:α→β→Prop} :∀{l₁:List α} {l₂:List β},Paired F l₁ l₂→(∀a b,F a b→G a b)→Paired G l₁ l₂
 | _,_,.nil,_=>.nil
 | _,_,.cons r t,f=>.cons (f _ _ r) (Paired.mapP t f)
theorem ObjOk.stay (x:ObjOk P w H h a o) (k:∀b u,(b=a∨H b=some (.own a))→h.get? b=some u→h'.get? b=some u)
  (ho:∀b,H b=some (.own a)→H' b=some (.own a)) (ht:∀b xs,H b=some (.tup xs)→H' b=some (.tup xs)):ObjOk P w H' h' a o:=by
 induction o with
 | lst xs=>obtain⟨z,its,n,r,e⟩:=x;exact⟨z,its,n,r,k _ _ (.inl rfl) e⟩
 | tup xs=>obtain⟨z,its,r,ob,e,c⟩:=x;exact⟨z,its,r,ob,k _ _ (.inl rfl) e,c⟩
 | dK kvs=>obtain⟨z,y,vs,r,ob,es,ep,e,c⟩:=x;exact⟨z,y,vs,r,ob,es,ep,k _ _ (.inl rfl) e,c⟩
 | dT kvs =>
  obtain⟨z,y,xs,r,ob,es,ep,e,c⟩:=x
  exact⟨z,y,xs,Paired.mapP r fun p q z=>⟨z.1,ht _ _ z.2.1,z.2.2⟩,ob,es,ep,k _ _ (.inl rfl) e,c⟩
 | set S n=>obtain⟨ob,es,ep,t,e,c⟩:=x;exact⟨ob,es,ep,t,k _ _ (.inl rfl) e,c⟩
 | ins C dx fs =>
  obtain⟨d,z,ne,e,mA,⟨od,es,ep,e2,c⟩,r⟩:=x
  exact⟨ho _ d,z,ne,k _ _ (.inl rfl) e,mA,⟨od,es,ep,k _ _ (.inr d) e2,c⟩,r⟩
 | own y=>obtain⟨ob,e⟩:=x;exact⟨ob,k _ _ (.inl rfl) e⟩
 | xd fs=>obtain⟨mA,⟨od,es,ep,e,c⟩,r⟩:=x;exact⟨mA,⟨od,es,ep,k _ _ (.inl rfl) e,c⟩,r⟩
 | rng lo hi=>obtain⟨t,u,v,e⟩:=x;exact⟨t,u,v,k _ _ (.inl rfl) e⟩
 | frz ob u ih=>obtain⟨e,q⟩:=x;exact⟨k _ _ (.inl rfl) e,ih q⟩
 | tbl ps =>
  have e:h.get? a=some {cls:=.none,data:=.fields ps} :=x
  show h'.get? a=some {cls:=.none,data:=.fields ps}
  exact k a _ (.inl rfl) e
 | met f y =>
  have e:h.get? a=some (PySem.W.methodObj (.ref f) (.ref y)):=x
  show h'.get? a=some (PySem.W.methodObj (.ref f) (.ref y))
  exact k a _ (.inl rfl) e
 | ext φ=>obtain⟨p,⟨o,e⟩,st⟩:=x;exact⟨st _ _ p fun o q=>k _ _ (.inl rfl) q,⟨o,k _ _ (.inl rfl) e⟩,st⟩
theorem HOk.lt (x:HOk P w H h) (e:H a=some o):a< h.objs.size:=(x a o e).lt
theorem HOk.fresh (x:HOk P w H h) (e:h.objs.size≤a):H a=none:=by
 cases q:H a with
 | none=>rfl
 | some u=>exact absurd (zJ (x.lt q) e) (AW _)
theorem HOk.kept (x:HOk P w H h) (k:∀b u,h.get? b=some u→h'.get? b=some u):HOk P w H h':=fun a o e=>
 (x a o e).stay (fun b u _ q=>k b u q) (fun _ q=>q) fun _ _ q=>q
theorem HOk.laid (x:HOk P w H h) (k:∀b u,h.get? b=some u→h'.get? b=some u) (hp:h.objs.size≤a) (new:ObjOk P w (cA H a o) h' a o):HOk P w (cA H a o) h':=fun b u e=>by
 have hn:=x.fresh hp
 by_cases hb:b=a
 ·subst hb;rw[aI]at e;cases e;exact new
 ·rw[aJ hb]at e
  exact(x b u e).stay (fun c v _ q=>k c v q) (fun c q=>by rw[aJ (bM q hn)];exact q) fun c xs q=>by rw[aJ (bM q hn)];exact q
end
def Rd (H:Hp) (a:Addr) (u:HO):Prop:=H a=some u∨∃o,H a=some (.frz o u)
theorem Rd.ok {P:zL} {w:zQ} {H:Hp} {h:Heap} {a:Addr} {u:HO} (r:Rd H a u) (x:HOk P w H h):ObjOk P w H h a u:=by
 rcases r with r | ⟨o,r⟩
 ·exact x a u r
 ·obtain⟨_,q⟩:=x a _ r
  exact q
def wA:Option HO→Prop
 | some (.lst _)=>True
 | some (.dK _)=>True
 | some (.dT _)=>True
 | some (.set _ _)=>True
 | some (.ins _ _ _)=>True
 | some (.ext _)=>True
 | _=>False
section
variable {P:zL} {w:zQ} {H:Hp} {h h':Heap} {x e:Addr} {o':HO}
theorem HOk.write (ok:HOk P w H h) (mu:wA (H x)) (he:e=x∨H e=some (.own x)) (k:∀b u,b≠e→h.get? b=some u→h'.get? b=some u) (heo:∃u,h'.get? e=some u)
  (new:ObjOk P w (cA H x o') h' x o'):HOk P w (cA H x o') h':=fun b u q=>by
 have nown:∀c y,H c=some (.own y)→c≠x:=fun c y r z=>by subst z;rw[r]at mu;exact mu
 have ntup:∀c xs,H c=some (.tup xs)→c≠x:=fun c xs r z=>by subst z;rw[r]at mu;exact mu
 by_cases hb:b=x
 ·subst hb;rw[aI]at q;cases q;exact new
 ·rw[aJ hb]at q
  by_cases hbe:b=e
  ·have q':H b=some (.own x):=by
    rcases he with z | z
    ·exact absurd (hbe.trans z) hb
    ·rw[hbe];exact z
   rw[q]at q';cases q'
   obtain⟨v,hv⟩:=heo
   exact⟨v,by rw[hbe];exact hv⟩
  ·refine(ok b u q).stay (fun c v hc r=>k c v ?_ r) (fun c r=>by rw[aJ (nown c b r)];exact r) fun c xs r=>by rw[aJ (ntup c xs r)];exact r
   rcases hc with rfl | hc
   ·exact hbe
   ·rintro rfl
    rcases he with z | z
    ·exact nown c b hc z
    ·rw[hc]at z;cases z;exact hb rfl
end
structure Un (fs ex:List Addr) (H H':Hp) (h h':Heap):Prop where
 keep:∀b o,h.get? b=some o→H b=none→b∉fs→b∉ex→h'.get? b=some o
 slot:∀b o,h.get? b=some o→H b=none→b∈fs→b∉ex→∃sl,h'.get? b=some {o with slots:=sl}
 free:∀b o,h.get? b=some o→H b=none→b∉ex→H' b=none
 there:∀b o,h.get? b=some o→b∉ex→∃o',h'.get? b=some o'
 tups:∀b xs,H b=some (.tup xs)→H' b=some (.tup xs)
 frzs:∀b o u,H b=some (.frz o u)→H' b=some (.frz o u)
 tbls:∀b ps,H b=some (.tbl ps)→∃more,H' b=some (.tbl (ps++more))
section
variable {fs fs' ex ex':List Addr} {H H1 H2:Hp} {h h1 h2 h':Heap} {a x e:Addr} {o:HO}
theorem Un.any (u:Un fs ex H H1 h h1) {b:Addr} {ob:Obj} (q:h.get? b=some ob) (n:H b=none) (hx:b∉ex):∃sl,h1.get? b=some {ob with slots:=sl} :=by
 by_cases hb:b∈fs
 ·exact u.slot b ob q n hb hx
 ·exact⟨ob.slots,u.keep b ob q n hb hx⟩
theorem Un.kept (k:∀b u,h.get? b=some u→h'.get? b=some u):Un fs ex H H h h':=
 ⟨fun b ob q _ _ _=>k b ob q,fun b ob q _ _ _=>⟨ob.slots,k b ob q⟩,fun _ _ _ n _=>n,fun b ob q _=>⟨ob,k b ob q⟩,fun _ _ q=>q,fun _ _ _ q=>q,fun _ ps q=>⟨#[],by rw[q];simp⟩⟩
theorem Un.refl:Un fs ex H H h h:=Un.kept fun _ _ q=>q
theorem Un.laid (k:∀b u,h.get? b=some u→h'.get? b=some u) (hp:h.objs.size≤a) (hn:H a=none):Un fs ex H (cA H a o) h h' where
 keep:=fun b u q _ _ _=>k b u q
 slot:=fun b u q _ _ _=>⟨u.slots,k b u q⟩
 free:=fun b u q n _=>by rw[aJ (zX (zJ (zI q) hp))];exact n
 there:=fun b u q _=>⟨u,k b u q⟩
 tups:=fun b xs q=>by rw[aJ (bM q hn)];exact q
 frzs:=fun b u xs q=>by rw[aJ (bM q hn)];exact q
 tbls:=fun b ps q=>⟨#[],by rw[aJ (bM q hn),q];simp⟩
theorem Un.write (mu:wA (H x)) (he:e=x∨H e=some (.own x)) (k:∀b u,b≠e→h.get? b=some u→h'.get? b=some u) (heo:∃u,h'.get? e=some u):Un fs ex H (cA H x o) h h':=by
 have hx:∀b,H b=none→b≠x:=fun b n z=>by subst z;rw[n]at mu;exact mu
 have hb:∀b,H b=none→b≠e:=fun b n z=>by
  subst z
  rcases he with r | r
  ·exact hx b n r
  ·rw[n]at r;cases r
 have hm:∀b u,H b=some u→¬wA (some u)→b≠x:=fun b u q nm z=>by subst z;rw[q]at mu;exact nm mu
 refine⟨fun b u q n _ _=>k b u (hb b n) q,fun b u q n _ _=>⟨u.slots,k b u (hb b n) q⟩,fun b u q n _=>by rw[aJ (hx b n)];exact n,fun b u q _=>?_,
  fun b xs q=>by rw[aJ (hm b _ q fun z=>z)];exact q,fun b u xs q=>by rw[aJ (hm b _ q fun z=>z)];exact q,fun b ps q=>⟨#[],by rw[aJ (hm b _ q fun z=>z),q];simp⟩⟩
 by_cases hbe:b=e
 ·subst hbe;exact heo
 ·exact⟨u,k b u hbe q⟩
end
def mm (h:Heap) (H:Hp):List Addr:=(AD h.objs.size).filter fun a=>(H a).isSome
def jL (h:Heap) (H:Hp):Heap:=PySem.W.hideAll h (mm h H)
theorem oO (h:Heap) (H:Hp):(jL h H).objs.size=h.objs.size:=PySem.W.hideAll_size _ _
theorem qk {h:Heap} {H:Hp} {b:Addr} {o:Obj} (e:h.get? b=some o) (n:H b=none):(jL h H).get? b=some o:=
 PySem.W.hideAll_get _ e fun hm=>by
  have q:(H b).isSome=true:=(Ex.mp hm).2
  rw[n]at q;simp at q
theorem sY {h:Heap} {H:Hp} {b:Addr} {o:Obj} (e:(jL h H).get? b=some o):h.get? b=some o∧H b=none:=by
 have e':h.get? b=some o:=PySem.W.of_hideAll (mm h H) e
 refine⟨e',?_⟩
 cases q:H b with
 | none=>rfl
 | some x =>
  have hm:b∈mm h H:=Ex.mpr ⟨Cp.mpr (zI e'),by simp[q]⟩
  have z:(jL h H).get? b=none:=PySem.W.hideAll_none (mm h H) hm
  rw[z]at e;cases e
structure Mod (K:PySem.W.Frag) (mg:Str→Option zl) (base:Heap):Prop where
 kin:K.In base
 glob:base.Ns mainGlobals mg
 blt:∃mb,base.Ns builtinsNs mb∧∀x:Str,x≠"__name__" →mb x=bootBuiltins x
 nolimit:base.NoLimit
structure Cx where
 prog:zL
 w:zQ
 K:PySem.W.Frag
 mg:Str→Option zl
 base:Heap
 A:Ai
 N:List Str
 s₀:zq
 H₀:Hp
 env:Env
 outer:List Env
 stack:List Env
 ex:List Addr
 fn:Str→Bool
 calm:Bool
 pn:List (Addr×Obj)
 xe:zl→zq→Prop
def frs (l:List Env):List Addr:=l.filterMap (·.frame)
abbrev Cx.fs (X:Cx):List Addr:=frs X.outer
def Vis (sc:Ce) (x:Str):Prop:=sc.names.lookup x=some .local∨sc.names.lookup x=some .cell∨sc.names.lookup x=some .free
def wl (sc:Ce) (x:Str):Prop:=sc.names.lookup x=some .local∨sc.names.lookup x=some .cell
def Look (env:Env) (h:Heap) (m:Str→Option zl) (x:Str) (u:zl):Prop:=
 (env.kindOf x=some .local∧m x=some u)∨((env.kindOf x=some .cell∨env.kindOf x=some .free)∧∃c,env.cells.lookup x=some c∧h.IsCell c (some u))
structure Cx.Ok (X:Cx):Prop where
 mod:Mod X.K X.mg X.base
 kind:X.env.scope.kind=.function
 glob:X.env.globals=mainGlobals
 blt:X.env.builtins=builtinsNs
 above:X.s₀.heap.objs.size≤X.env.locals
 inj:∀x y c,X.env.cells.lookup x=some c→X.env.cells.lookup y=some c→x=y
 has:∀x,(X.env.kindOf x=some .cell∨X.env.kindOf x=some .free)→∃c,X.env.cells.lookup x=some c
 cab:∀x c,X.fn x=true→X.env.cells.lookup x=some c→X.s₀.heap.objs.size≤c
 hd:X.calm=true→X.A.handled=none
 frames:X.A.frames=some X.stack
 stk:X.stack=X.outer∨(X.stack=X.env::X.outer∧X.env.frame=some X.env.locals)
 exf:∀b∈X.ex,b≠X.env.locals∧∀x c,X.env.cells.lookup x=some c→c≠b
 bs:∀b o,X.base.get? b=some o→X.s₀.heap.get? b=some o∧X.H₀ b=none
 bsz:X.base.objs.size≤X.s₀.heap.objs.size
 noex:∀b o,X.base.get? b=some o→b∉X.ex
 exfs:∀b∈X.ex,b∉X.fs
 funs:X.s₀.heap.FunFrames X.base X.outer
 frf:∀b∈X.fs,X.H₀ b=none
structure Inv (X:Cx) (pins:List (Addr×Obj)) (σ:List (Option V)) (H:Hp) (s:zq):Prop where
 ok:X.Ok
 os:s.os=X.s₀.os
 bare:DS s.gens
 base:Un X.fs X.ex X.H₀ H X.s₀.heap s.heap
 loc:∃m,s.heap.Ns X.env.locals m∧∀(i:Nat) (x:Str) (v:V),X.N[i]? =some x→σ[i]? =some (some v)→Vis X.env.scope x→∃u,RelV v u∧Look X.env s.heap m x u
 cell:∀x c,X.env.cells.lookup x=some c→∃v,s.heap.IsCell c v
 free:H X.env.locals=none
 freeC:∀x c,X.env.cells.lookup x=some c→H c=none
 pin:∀p∈X.pn++pins,s.heap.get? p.1=some p.2∧H p.1=none∧p.1≠X.env.locals∧p.1∉X.fs∧∀v,p.2.data≠.cell v
 hok:HOk X.prog X.w H s.heap
 len:σ.length=X.N.length
section
variable {X:Cx} {pins:List (Addr×Obj)} {σ:List (Option V)} {H H':Hp} {s:zq} {h':Heap}
theorem Cx.Ok.nofr (ok:X.Ok) {b:Addr} {o:Obj} (e:X.base.get? b=some o):b∉X.fs:=fun hb=>by
 have:=(ok.funs.mem hb).1
 rw[e]at this;cases this
theorem Inv.bs (I:Inv X pins σ H s):∀b o,X.base.get? b=some o→s.heap.get? b=some o∧H b=none:=fun b o e=>
 ⟨I.base.keep b o (I.ok.bs b o e).1 (I.ok.bs b o e).2 (I.ok.nofr e) (I.ok.noex b o e),I.base.free b o (I.ok.bs b o e).1 (I.ok.bs b o e).2 (I.ok.noex b o e)⟩
theorem Inv.bk (I:Inv X pins σ H s):∀b o,X.base.get? b=some o→s.heap.get? b=some o:=fun b o e=>(I.bs b o e).1
theorem Inv.mod (I:Inv X pins σ H s):Mod X.K X.mg X.base:=I.ok.mod
theorem Inv.kIn (I:Inv X pins σ H s):X.K.In s.heap:=I.ok.mod.kin.keeps I.bk
theorem Inv.lt (I:Inv X pins σ H s):X.env.locals< s.heap.objs.size:=let ⟨_,hn,_⟩:=I.loc;hn.lt
theorem Inv.sz (I:Inv X pins σ H s):X.s₀.heap.objs.size≤s.heap.objs.size:=B9 I.ok.above (Ct I.lt)
theorem Inv.nofs (I:Inv X pins σ H s) {a:Addr} (h:s.heap.objs.size≤a):a∉X.fs:=fun hb=>by
 obtain⟨_,o,ho,_⟩:=I.ok.funs.mem hb
 exact absurd (zJ (zI ho) (B9 I.sz h)) (AW _)
theorem Inv.cne (I:Inv X pins σ H s):∀x c,X.env.cells.lookup x=some c→c≠X.env.locals:=fun x c e z=>by
 obtain⟨v,o,ho,hd⟩:=I.cell x c e
 obtain⟨m,⟨o',es,ep,ho',hd',_⟩,_⟩:=I.loc
 rw[z,ho']at ho;cases ho;rw[hd']at hd;cases hd
theorem Inv.funs (I:Inv X pins σ H s):s.heap.FunFrames X.base X.outer:=by
 have all:∀(l:List Env),(∀b∈frs l,b∈X.fs)→X.s₀.heap.FunFrames X.base l→s.heap.FunFrames X.base l:=by
  intro l
  induction l with
  | nil=>intro _ _;trivial
  | cons env r ih =>
   intro hs hl
   obtain⟨hk,⟨L,o,hf,hn,ho,hd⟩,hr⟩:=hl
   have hL:L∈X.fs:=hs L (by unfold frs;rw[BX,hf];exact zP)
   obtain⟨sl,e⟩:=I.base.slot L o ho (I.ok.frf L hL) hL fun z=>I.ok.exfs L z hL
   exact⟨hk,⟨L,_,hf,hn,e,hd⟩,ih (fun b hb=>hs b (by unfold frs;rw[BX,hf];exact zR _ hb)) hr⟩
 exact all X.outer (fun _ hb=>hb) I.ok.funs
theorem Inv.stack (I:Inv X pins σ H s):s.heap.FunFrames X.base X.stack:=by
 rcases I.ok.stk with e | ⟨e,hf⟩
 ·rw[e];exact I.funs
 ·rw[e]
  obtain⟨m,hn,_⟩:=I.loc
  refine .cons (by rw[I.ok.kind];decide) hf hn ?_ I.funs
  exact Heap.get?_none_of_le (B9 I.ok.bsz I.ok.above)
theorem Inv.stkSub (I:Inv X pins σ H s):∀b∈frs X.stack,b∈X.env.locals::X.fs:=fun b hb=>by
 rcases I.ok.stk with e | ⟨e,hf⟩
 ·rw[e]at hb;exact zR _ hb
 ·rw[e]at hb
  unfold frs at hb
  rw[BX,hf]at hb
  exact hb
theorem Inv.stkFree (I:Inv X pins σ H s):∀b∈frs X.stack,H b=none:=fun b hb=>by
 rcases zU.mp (I.stkSub b hb)with e | hb
 ·rw[e];exact I.free
 ·obtain⟨_,o,ho,_⟩:=I.ok.funs.mem hb
  exact I.base.free b o ho (I.ok.frf b hb) fun z=>I.ok.exfs b z hb
theorem Inv.step {g':Array GenState} {t':Nat} {d':Drawn} {ch:List Addr} (I:Inv X pins σ H s)
  (hch:∀b∈ch,(b∈X.ex∨X.s₀.heap.objs.size≤b)∧b≠X.env.locals∧(∀x c,X.env.cells.lookup x=some c→c≠b)∧∀p∈X.pn++pins,p.1≠b)
  (keep:∀b o,b≠X.env.locals→b∉X.fs→b∉ch→s.heap.get? b=some o→H b=none→h'.get? b=some o)
  (slot:∀b o,b≠X.env.locals→b∈X.fs→b∉ch→s.heap.get? b=some o→H b=none→∃sl,h'.get? b=some {o with slots:=sl}) (free:∀b o,b∉ch→s.heap.get? b=some o→H b=none→H' b=none)
  (there:∀b o,b∉ch→s.heap.get? b=some o→∃o',h'.get? b=some o')
  (tups:∀b xs,H b=some (.tup xs)→H' b=some (.tup xs)) (frzs:∀b o u,H b=some (.frz o u)→H' b=some (.frz o u)) (tbls:∀b ps,H b=some (.tbl ps)→∃more,H' b=some (.tbl (ps++more)))
  (ns:∀m,s.heap.Ns X.env.locals m→h'.Ns X.env.locals m) (hok:HOk X.prog X.w H' h') (hg:DS g'):
  Inv X pins σ H' {s with heap:=h',gens:=g',drawn:=d',toks:=t'} :=by
 have neL:∀b o,X.s₀.heap.get? b=some o→b≠X.env.locals:=fun b o e=>zX (zJ (zI e) I.ok.above)
 have neC:∀b o,X.s₀.heap.get? b=some o→b∉X.ex→b∉ch:=fun b o e hx hb=>by
  rcases (hch b hb).1 with z | z
  ·exact hx z
  ·exact absurd (zJ (zI e) z) (AW _)
 have cellK:∀x c,X.env.cells.lookup x=some c→∀v,s.heap.IsCell c v→h'.IsCell c v:=fun x c e v ⟨o,ho,hd⟩=>by
  have nch:c∉ch:=fun z=>(hch c z).2.2.1 x c e rfl
  by_cases hc:c∈X.fs
  ·obtain⟨sl,q⟩:=slot c o (I.cne x c e) hc nch ho (I.freeC x c e)
   exact⟨_,q,hd⟩
  ·exact⟨o,keep c o (I.cne x c e) hc nch ho (I.freeC x c e),hd⟩
 refine⟨I.ok,I.os,hg,⟨fun b o e n hb hx=>?_,fun b o e n hb hx=>?_,fun b o e n hx=>?_,fun b o e hx=>?_,fun b xs e=>tups b xs (I.base.tups b xs e),fun b o xs e=>frzs b o xs (I.base.frzs b o xs e),fun b ps e=>?_⟩,?_,fun x c e=>?_,?_,fun x c e=>?_,fun p hp=>?_,hok,I.len⟩
 ·exact keep b o (neL b o e) hb (neC b o e hx) (I.base.keep b o e n hb hx) (I.base.free b o e n hx)
 ·obtain⟨sl,e1⟩:=I.base.slot b o e n hb hx
  obtain⟨sl',e2⟩:=slot b _ (neL b o e) hb (neC b o e hx) e1 (I.base.free b o e n hx)
  exact⟨sl',e2⟩
 ·obtain⟨o',e1⟩:=I.base.there b o e hx
  exact free b o' (neC b o e hx) e1 (I.base.free b o e n hx)
 ·obtain⟨o',e1⟩:=I.base.there b o e hx
  exact there b o' (neC b o e hx) e1
 ·obtain⟨m1,e1⟩:=I.base.tbls b ps e
  obtain⟨m2,e2⟩:=tbls b _ e1
  exact⟨m1++m2,by rw[e2,Array.append_assoc]⟩
 ·obtain⟨m,hn,hl⟩:=I.loc
  refine⟨m,ns m hn,fun i x v e1 e2 e3=>?_⟩
  obtain⟨u,r,l⟩:=hl i x v e1 e2 e3
  refine⟨u,r,?_⟩
  rcases l with l | ⟨k,c,e,z⟩
  ·exact .inl l
  ·exact .inr ⟨k,c,e,cellK x c e _ z⟩
 ·obtain⟨v,z⟩:=I.cell x c e
  exact⟨v,cellK x c e v z⟩
 ·obtain⟨m,⟨o,_,_,ho,_⟩,_⟩:=I.loc
  exact free _ o (fun z=>(hch _ z).2.1 rfl) ho I.free
 ·obtain⟨v,o,ho,hd⟩:=I.cell x c e
  exact free c o (fun z=>(hch c z).2.2.1 x c e rfl) ho (I.freeC x c e)
 ·obtain⟨e,n,ne,nf,d⟩:=I.pin p hp
  have nch:p.1∉ch:=fun z=>(hch p.1 z).2.2.2 p hp rfl
  exact⟨keep p.1 p.2 ne nf nch e n,free p.1 p.2 nch e n,ne,nf,d⟩
theorem Inv.un {t':Nat} (I:Inv X pins σ H s) (u:Un X.fs [] H H' s.heap h') (hok:HOk X.prog X.w H' h'):Inv X pins σ H' {s with heap:=h',toks:=t'} :=by
 obtain⟨m,⟨o,es,ep,ho,r⟩,_⟩:=id I.loc
 obtain⟨sl,hL⟩:=u.any ho I.free (by simp)
 exact I.step (g':=s.gens) (d':=s.drawn) (ch:=[]) (fun _ z=>nomatch z) (fun b o _ hb _ e n=>u.keep b o e n hb (by simp)) (fun b o _ hb _ e n=>u.slot b o e n hb (by simp)) (fun b o _ e n=>u.free b o e n (by simp)) (fun b o _ e=>u.there b o e (by simp)) u.tups u.frzs u.tbls (fun m' hm=>by
  obtain⟨o',es',ep',ho',r'⟩:=hm
  rw[ho]at ho';cases ho'
  exact⟨_,es',ep',hL,r'⟩) hok I.bare
theorem Inv.call {g':Array GenState} {t':Nat} {d':Drawn} {ch:List Addr} (I:Inv X pins σ H s) (u:Un (frs X.stack) ch H H' s.heap h') (hok:HOk X.prog X.w H' h') (hg:DS g')
  (hch:∀b∈ch,(b∈X.ex∨X.s₀.heap.objs.size≤b)∧b≠X.env.locals∧(∀x c,X.env.cells.lookup x=some c→c≠b)∧∀p∈X.pn++pins,p.1≠b):
  Inv X pins σ H' {s with heap:=h',gens:=g',drawn:=d',toks:=t'} :=by
 obtain⟨m,⟨o,es,ep,ho,r⟩,_⟩:=id I.loc
 obtain⟨sl,hL⟩:=u.any ho I.free fun z=>(hch _ z).2.1 rfl
 exact I.step (ch:=ch) hch (fun b o hL hb hc e n=>u.keep b o e n (fun z=>(zU.mp (I.stkSub b z)).elim hL hb) hc) (fun b o _ _ hc e n=>u.any e n hc) (fun b o hc e n=>u.free b o e n hc) (fun b o hc e=>u.there b o e hc) u.tups u.frzs u.tbls (fun m' hm=>by
  obtain⟨o',es',ep',ho',r'⟩:=hm
  rw[ho]at ho';cases ho'
  exact⟨_,es',ep',hL,r'⟩) hok hg
theorem Inv.turned {t':Nat} {it:Addr} (I:Inv X pins σ H s) (k:∀b o,b≠it→s.heap.get? b=some o→h'.get? b=some o) (hn:H it=none) (hL:it≠X.env.locals)
  (h1:it∈X.ex∨X.s₀.heap.objs.size≤it) (h2:∀x c,X.env.cells.lookup x=some c→c≠it) (h3:∀p∈X.pn++pins,p.1≠it):Inv X pins σ H {s with heap:=h',toks:=t'} :=by
 have nit:∀b u,H b=some u→b≠it:=fun b u e z=>by rw[z,hn]at e;cases e
 refine I.step (g':=s.gens) (d':=s.drawn) (ch:=[it]) (fun b hb=>?_) (fun b o _ _ hc e _=>k b o (fun z=>hc (by simp[z])) e) (fun b o _ _ hc e _=>⟨o.slots,k b o (fun z=>hc (by simp[z])) e⟩) (fun _ _ _ _ n=>n)
  (fun b o hc e=>⟨o,k b o (fun z=>hc (by simp[z])) e⟩) (fun _ _ e=>e) (fun _ _ _ e=>e) (fun b ps e=>⟨#[],by rw[e];simp⟩) (fun m hm=>?_) (fun b u e=>?_) I.bare
 ·have e:b=it:=by simpa using hb
  subst e
  exact⟨h1,hL,h2,h3⟩
 ·obtain⟨o,es,ep,ho,r⟩:=hm
  exact⟨o,es,ep,k _ o (Df hL) ho,r⟩
 ·refine(I.hok b u e).stay (fun c v hc q=>k c v ?_ q) (fun _ q=>q) fun _ _ q=>q
  rcases hc with z | z
  ·rw[z];exact nit b u e
  ·exact nit c _ z
theorem Inv.tok (I:Inv X pins σ H s) (t:Nat):Inv X pins σ H {s with toks:=t} :=I.un (h':=s.heap) (t':=t) Un.refl I.hok
theorem Inv.kept {t':Nat} (I:Inv X pins σ H s) (k:∀b u,s.heap.get? b=some u→h'.get? b=some u):Inv X pins σ H {s with heap:=h',toks:=t'} :=I.un (Un.kept k) (I.hok.kept k)
theorem Inv.laid {a:Addr} {o:HO} {t':Nat} (I:Inv X pins σ H s) (k:∀b u,s.heap.get? b=some u→h'.get? b=some u) (hp:s.heap.objs.size≤a) (new:ObjOk X.prog X.w (cA H a o) h' a o):
  Inv X pins σ (cA H a o) {s with heap:=h',toks:=t'} :=I.un (Un.laid k hp (I.hok.fresh hp)) (I.hok.laid k hp new)
theorem Inv.write {x e:Addr} {o:HO} {t':Nat} (I:Inv X pins σ H s) (mu:wA (H x)) (he:e=x∨H e=some (.own x)) (k:∀b u,b≠e→s.heap.get? b=some u→h'.get? b=some u) (heo:∃u,h'.get? e=some u)
  (new:ObjOk X.prog X.w (cA H x o) h' x o):Inv X pins σ (cA H x o) {s with heap:=h',toks:=t'} :=I.un (Un.write mu he k heo) (I.hok.write mu he k heo new)
theorem Inv.weak {σ':List (Option V)} (I:Inv X pins σ H s) (hl:σ'.length=σ.length) (w:∀(i:Nat) v,σ'[i]? =some (some v)→σ[i]? =some (some v)):Inv X pins σ' H s:=
 ⟨I.ok,I.os,I.bare,I.base,let ⟨m,hn,hl'⟩:=I.loc;⟨m,hn,fun i x v e1 e2 e3=>hl' i x v e1 (w i v e2) e3⟩,I.cell,I.free,I.freeC,I.pin,I.hok,hl.trans I.len⟩
theorem Inv.pins_of {pins':List (Addr×Obj)} (I:Inv X pins σ H s) (h:∀p∈pins',s.heap.get? p.1=some p.2∧H p.1=none∧p.1≠X.env.locals∧p.1∉X.fs∧∀v,p.2.data≠.cell v):Inv X pins' σ H s:=
 ⟨I.ok,I.os,I.bare,I.base,I.loc,I.cell,I.free,I.freeC,fun p hp=>(Ac.mp hp).elim (fun z=>I.pin p (Di _ z)) (h p),I.hok,I.len⟩
theorem kT {N:List Str} (hN:N.Nodup) {i j:Nat} {x:Str} (a:N[i]? =some x) (b:N[j]? =some x):i=j:=by
 obtain⟨h1,e1⟩:=zB.mp a
 obtain⟨h2,e2⟩:=zB.mp b
 exact(List.getElem_inj hN).mp (e1.trans e2.symm)
theorem jp {M:Ey} {A:Ai} {E:zl→zq→Prop} {i:Nat} {x:Str} {v:V} {u:zl} {Q:Unit→zq→Prop} (I:Inv X pins σ H s) (hN:X.N.Nodup) (hi:X.N[i]? =some x) (hx:wl X.env.scope x) (r:RelV v u)
  (h:∀s',Inv X pins (σ.set i (some v)) H s'→(∃a,A9 a s.heap s'.heap∧(a=X.env.locals∨X.env.cells.lookup x=some a))→Q () s') (hf:X.fn x=true∨X.env.scope.names.lookup x=some .local:=by first | exact .inl rfl | exact .inr rfl | assumption):wpAny M A (storeName X.env x u) Q E s:=by
 obtain⟨m,hn,hl⟩:=id I.loc
 have hcls:(X.env.scope.kind == .class || (X.env.scope.kind == .module && X.env.locals != X.env.globals))=false:=by rw[I.ok.kind];rfl
 have hiσ:i< σ.length:=by rw[I.len];exact(zB.mp hi).1
 have cne:=I.cne
 have tracked:∀{a:Addr} {h':Heap},(∃o,s.heap.get? a=some o∧H a=none)→A9 a s.heap h'→HOk X.prog X.w H h':=fun {a h'} ha hs b ob e=>by
  obtain⟨_,_,hfree⟩:=ha
  refine(I.hok b ob e).stay (fun c w' hc q=>(hs.2 c ?_).trans q) (fun _ q=>q) fun _ _ q=>q
  rintro rfl
  rcases hc with rfl | hc
  ·rw[hfree]at e;cases e
  ·rw[hfree]at hc;cases hc
 rcases hx with hk | hk
 ·refine wpAny_storeName_local hk hn (fun h' hn' hs=>?_) hcls
  obtain⟨oL,_,_,hoL,_⟩:=id hn
  refine h _ ⟨I.ok,I.os,I.bare,⟨fun b o e n hb hx=>?_,fun b o e n hb hx=>?_,I.base.free,fun b o e hx=>?_,I.base.tups,I.base.frzs,I.base.tbls⟩,⟨_,hn',fun j y v' e1 e2 e3=>?_⟩,fun y c e=>?_,I.free,I.freeC,fun p hp=>?_,tracked ⟨oL,hoL,I.free⟩ hs,by simpa using I.len⟩ ⟨_,hs,.inl rfl⟩
  ·exact(hs.2 b (zX (zJ (zI e) I.ok.above))).trans (I.base.keep b o e n hb hx)
  ·obtain⟨sl,e1⟩:=I.base.slot b o e n hb hx
   exact⟨sl,(hs.2 b (zX (zJ (zI e) I.ok.above))).trans e1⟩
  ·obtain⟨o',e1⟩:=I.base.there b o e hx
   exact⟨o',(hs.2 b (zX (zJ (zI e) I.ok.above))).trans e1⟩
  ·by_cases hj:j=i
   ·subst hj
    rw[hi]at e1;cases e1
    rw[El hiσ]at e2
    cases e2
    exact⟨u,r,.inl ⟨hk,by simp⟩⟩
   ·rw[EN (Df hj)]at e2
    obtain⟨u',r',q⟩:=hl j y v' e1 e2 e3
    refine⟨u',r',?_⟩
    rcases q with⟨k,e⟩ | ⟨k,c,e,z⟩
    ·refine .inl ⟨k,?_⟩
     have:y≠x:=fun e=>hj (kT hN e1 (e▸hi))
     simp[this,e]
    ·exact .inr ⟨k,c,e,z.sameBut hs (cne y c e)⟩
  ·obtain⟨w',z⟩:=I.cell y c e
   exact⟨w',z.sameBut hs (cne y c e)⟩
  ·obtain⟨e,n,ne,nf,d⟩:=I.pin p hp
   exact⟨(hs.2 p.1 ne).trans e,n,ne,nf,d⟩
 ·have hfn:X.fn x=true:=by
   rcases hf with z | z
   ·exact z
   ·rw[z]at hk;cases hk
  obtain⟨c,hc⟩:=I.ok.has x (.inl hk)
  obtain⟨w',z⟩:=I.cell x c hc
  refine wpAny_storeName_cell I.ok.kind hk hc z (fun h' hc' hs=>?_)
  obtain⟨oc,hoc,hocd⟩:=id z
  refine h {s with heap:=h'} ⟨I.ok,I.os,I.bare,⟨fun b o e n hb hx=>?_,fun b o e n hb hx=>?_,I.base.free,fun b o e hx=>?_,I.base.tups,I.base.frzs,I.base.tbls⟩,⟨m,hn.sameBut hs (Df (cne x c hc)),fun j y v' e1 e2 e3=>?_⟩,fun y c' e=>?_,I.free,I.freeC,fun p hp=>?_,tracked ⟨oc,hoc,I.freeC x c hc⟩ hs,by simpa using I.len⟩ ⟨c,hs,.inr hc⟩
  ·exact(hs.2 b (zX (zJ (zI e) (I.ok.cab x c hfn hc)))).trans (I.base.keep b o e n hb hx)
  ·obtain⟨sl,e1⟩:=I.base.slot b o e n hb hx
   exact⟨sl,(hs.2 b (zX (zJ (zI e) (I.ok.cab x c hfn hc)))).trans e1⟩
  ·obtain⟨o',e1⟩:=I.base.there b o e hx
   exact⟨o',(hs.2 b (zX (zJ (zI e) (I.ok.cab x c hfn hc)))).trans e1⟩
  ·by_cases hj:j=i
   ·subst hj
    rw[hi]at e1;cases e1
    rw[El hiσ]at e2
    cases e2
    exact⟨u,r,.inr ⟨.inl hk,c,hc,hc'⟩⟩
   ·rw[EN (Df hj)]at e2
    obtain⟨u',r',q⟩:=hl j y v' e1 e2 e3
    refine⟨u',r',?_⟩
    rcases q with q | ⟨k,c',e,z'⟩
    ·exact .inl q
    ·refine .inr ⟨k,c',e,z'.sameBut hs ?_⟩
     rintro rfl
     exact hj (kT hN e1 (I.ok.inj _ _ _ e hc▸hi))
  ·by_cases hcc:c'=c
   ·subst hcc;exact⟨_,hc'⟩
   ·obtain⟨w2,z2⟩:=I.cell y c' e
    exact⟨w2,z2.sameBut hs hcc⟩
  ·obtain⟨e,n,ne,nf,d⟩:=I.pin p hp
   refine⟨(hs.2 p.1 ?_).trans e,n,ne,nf,d⟩
   intro q
   rw[q,hoc]at e
   have q':oc=p.2:=Ad e
   exact d w' (by rw[←q'];exact hocd)
theorem iu {M:Ey} {A:Ai} {E:zl→zq→Prop} {i:Nat} {x:Str} {v:V} {u:zl} {Q:Unit→zq→Prop} (I:Inv X pins σ H s) (hN:X.N.Nodup) (hi:X.N[i]? =some x) (hx:wl X.env.scope x) (r:RelV v u)
  (h:∀s',Inv X pins (σ.set i (some v)) H s'→Q () s') (hf:X.fn x=true∨X.env.scope.names.lookup x=some .local:=by first | exact .inl rfl | exact .inr rfl | assumption):wpAny M A (storeName X.env x u) Q E s:=
 jp I hN hi hx r (fun s' I' _=>h s' I') hf
theorem Inv.call' {s':zq} {ch:List Addr} (I:Inv X pins σ H s) (ho:s'.os=s.os) (u:Un (frs X.stack) ch H H' s.heap s'.heap) (hok:HOk X.prog X.w H' s'.heap) (hg:DS s'.gens)
  (hch:∀b∈ch,(b∈X.ex∨X.s₀.heap.objs.size≤b)∧b≠X.env.locals∧(∀x c,X.env.cells.lookup x=some c→c≠b)∧∀p∈X.pn++pins,p.1≠b):Inv X pins σ H' s':=by
 obtain⟨h',g',d',t',o'⟩:=s'
 have e:o'=s.os:=ho
 subst e
 exact I.call (g':=g') (t':=t') (d':=d') u hok hg hch
end
abbrev XK:=zl→Option Addr→Hp→Prop
abbrev St:=List (Option V)
abbrev VK:=V→Hp→Prop
abbrev TE:=St→Hp→VK→Prop
abbrev TT:=St→Hp→(Bool→Hp→Prop)→Prop
abbrev TA:=St→Hp→(List V→Hp→Prop)→Prop
structure Ends where
 nx:St→Hp→Prop
 rt:VK
 bk:St→Hp→Prop:=fun _ _=>False
 ct:St→Hp→Prop:=fun _ _=>False
abbrev TS:=Ends→St→Hp→Prop
def EP (X:Cx) (pins:List (Addr×Obj)) (σ:St) (Q:VK) (u:zl) (s':zq):Prop:=∃v H',Inv X pins σ H' s'∧RelV v u∧Q v H'
def TP (X:Cx) (pins:List (Addr×Obj)) (σ:St) (Q:Bool→Hp→Prop) (b:Bool) (s':zq):Prop:=∃H',Inv X pins σ H' s'∧Q b H'
def AP (X:Cx) (pins:List (Addr×Obj)) (σ:St) (Q:List V→Hp→Prop) (us:List zl) (s':zq):Prop:=∃vs H',Inv X pins σ H' s'∧Vals vs us∧Q vs H'
def SP (X:Cx) (pins:List (Addr×Obj)) (D:Ends) (f:Flow) (s':zq):Prop:=
 match f with
 | .next=>∃σ' H',Inv X pins σ' H' s'∧D.nx σ' H'
 | .brk=>∃σ' H',Inv X pins σ' H' s'∧D.bk σ' H'
 | .cont=>∃σ' H',Inv X pins σ' H' s'∧D.ct σ' H'
 | .ret u=>∃v σ' H',Inv X pins σ' H' s'∧RelV v u∧D.rt v H'
def PE (X:Cx) (e:Expr) (t:TE):Prop:=
 ∀(pins:List (Addr×Obj)) (s:zq) (σ:St) (H:Hp) (Q:VK),Inv X pins σ H s→t σ H Q→wpAny (model X.prog X.w) X.A (eval e X.env) (EP X pins σ Q) X.xe s
def PT (X:Cx) (e:Expr) (t:TT):Prop:=
 ∀(pins:List (Addr×Obj)) (s:zq) (σ:St) (H:Hp) (Q:Bool→Hp→Prop),Inv X pins σ H s→t σ H Q→wpAny (model X.prog X.w) X.A (isTrue e X.env (eval e X.env)) (TP X pins σ Q) X.xe s
def PW (X:Cx) (e:Expr) (t:TT):Prop:=
 ∀(whole:Sem zl) (pins:List (Addr×Obj)) (s:zq) (σ:St) (H:Hp) (Q:Bool→Hp→Prop),Inv X pins σ H s→t σ H Q→wpAny (model X.prog X.w) X.A (isTrue e X.env whole) (TP X pins σ Q) X.xe s
theorem PW.pt {X:Cx} {e:Expr} {t:TT} (h:PW X e t):PT X e t:=h _
def PA (X:Cx) (es:List Expr) (t:TA):Prop:=
 ∀(pos:Pos) (pins:List (Addr×Obj)) (s:zq) (σ:St) (H:Hp) (Q:List V→Hp→Prop),Inv X pins σ H s→t σ H Q→wpAny (model X.prog X.w) X.A (spliced (backTo pos (starEach es X.env))) (AP X pins σ Q) X.xe s
def PS (X:Cx) (st:Stmt) (t:TS):Prop:=
 ∀(pins:List (Addr×Obj)) (s:zq) (σ:St) (H:Hp) (D:Ends),Inv X pins σ H s→t D σ H→wpAny (model X.prog X.w) X.A (exec st X.env) (SP X pins D) X.xe s
def PSs (X:Cx) (st:List Stmt) (t:TS):Prop:=
 ∀(pins:List (Addr×Obj)) (s:zq) (σ:St) (H:Hp) (D:Ends),Inv X pins σ H s→t D σ H→wpAny (model X.prog X.w) X.A (execs st X.env) (SP X pins D) X.xe s
theorem bz {α:Type} {t:Sem α} {Q Q':α→zq→Prop} {M:Ey} {A:Ai} {E:zl→zq→Prop} {s:zq} (h:wpAny M A t Q E s) (hQ:∀a s,Q a s→Q' a s):wpAny M A t Q' E s:=Aq h hQ fun _ _ x=>x
section
variable {X:Cx}
def bD (i:Nat):TE:=fun σ H Q=>∃v,σ[i]? =some (some v)∧Q v H
def tC (v:V):TE:=fun _ H Q=>Q v H
theorem vh {i:Nat} {x:Str} {pos:Pos} (hN:X.N[i]? =some x) (hv:Vis X.env.scope x) (hd:(x == ("__debug__" :Str))=false:=by decide) (hcd:(x == ("__classdict__" :Str))=false:=by decide):PE X (.Name x pos) (bD i):=by
 intro pins s σ H Q I h
 obtain⟨v,e,h⟩:=h
 obtain⟨m,hn,hl⟩:=I.loc
 obtain⟨u,r,l⟩:=hl i x v hN e hv
 have fin:EP X pins σ Q u s:=⟨v,H,I,r,h⟩
 rcases l with⟨hk,hm⟩ | ⟨hk,c,hc,hcell⟩
 ·exact Gf (EO I.ok.kind hk hn hm fin) hd
 ·rcases hk with hk | hk
  ·exact Gf (F1 I.ok.kind hk hc hcell fin) hd
  ·exact Gf (wpAny_loadName_free I.ok.kind hk hc hcell fin hcd) hd
theorem aa {i j pos} :PE X (.Constant (.int i) j pos) (tC (.int i)):=fun _ _ _ H _ I h=>wpAny_Constant_int ⟨.int i,H,I.tok _,⟨_,rfl⟩,h⟩
theorem f9 {b j pos} :PE X (.Constant (.bool b) j pos) (tC (.bl b)):=fun _ _ _ H _ I h=>Constant_bool ⟨.bl b,H,I,rfl,h⟩
theorem mn {j pos} :PE X (.Constant .none j pos) (tC .non):=fun _ _ _ H _ I h=>Constant_none ⟨.non,H,I,rfl,h⟩
theorem bm {x j pos} :PE X (.Constant (.str x) j pos) (tC (.str x)):=fun _ _ _ H _ I h=>Calls.Constant_str ⟨.str x,H,I.tok _,⟨_,rfl⟩,h⟩
def Gl (X:Cx) (x:Str):Prop:=X.env.kindOf x=some .globalImplicit
theorem nw {E:zl→zq→Prop} {pins:List (Addr×Obj)} {s:zq} {σ:St} {H:Hp} {x:Str} {u:zl} {pos:Pos} {Q:zl→zq→Prop} (I:Inv X pins σ H s) (hg:Gl X x) (hm:X.mg x=some u) (h:Q u s)
  (hd:(x == ("__debug__" :Str))=false:=by decide):wpAny (model X.prog X.w) X.A (eval (.Name x pos) X.env) Q E s:=
 DD I.ok.kind hg (Calls.loadGlobal_global (by rw[I.ok.glob];exact I.mod.glob.keeps I.bk) hm h) hd
theorem fX {E:zl→zq→Prop} {pins:List (Addr×Obj)} {s:zq} {σ:St} {H:Hp} {x:Str} {u:zl} {pos:Pos} {Q:zl→zq→Prop} (I:Inv X pins σ H s) (hg:Gl X x) (hm:X.mg x=none) (hv:bootBuiltins x=some u) (h:Q u s)
  (hn:x≠"__name__" :=by decide) (hd:(x == ("__debug__" :Str))=false:=by decide):wpAny (model X.prog X.w) X.A (eval (.Name x pos) X.env) Q E s:=by
 obtain⟨mb,h1,h2⟩:=I.mod.blt
 exact DD I.ok.kind hg (Calls.loadGlobal_builtin (by rw[I.ok.glob];exact I.mod.glob.keeps I.bk) hm (by rw[I.ok.blt];exact h1.keeps I.bk) ((h2 x hn).trans hv) h) hd
theorem cY {x:Str} {v:V} {u:zl} {pos:Pos} (hg:Gl X x) (hm:X.mg x=some u) (r:RelV v u) (hd:(x == ("__debug__" :Str))=false:=by decide):PE X (.Name x pos) (tC v):=
 fun _ _ _ H _ I h=>nw I hg hm ⟨v,H,I,r,h⟩ hd
theorem cM {x:Str} {v:V} {u:zl} {pos:Pos} (hg:Gl X x) (hm:X.mg x=none) (hv:bootBuiltins x=some u) (r:RelV v u) (hn:x≠"__name__" :=by decide) (hd:(x == ("__debug__" :Str))=false:=by decide):PE X (.Name x pos) (tC v):=
 fun _ _ _ H _ I h=>fX I hg hm hv ⟨v,H,I,r,h⟩ hn hd
variable {a b:Expr} {ta tb:TE} {pos:Pos}
def tB (t:TE):TT:=fun σ H Q=>t σ H fun x H1=>∃c,x=.bl c∧Q c H1
theorem df {e:Expr} {t:TE} (h:PE X e t) (he:∀whole,isTrue e X.env whole=(do let v ←whole;standAt e.pos;holding [v] (truthy v)):=by intro _;rfl):PT X e (tB t):=by
 intro pins s σ H Q I hw
 refine isTrue_plain (bz (h pins s σ H _ I hw) fun v s1 ⟨x,H1,I1,r1,q1⟩=>?_) (he _)
 obtain⟨d,rfl,q⟩:=q1
 cases r1
 exact BK ⟨H1,I1,q⟩
variable {tA tB':TT} {rest:List Expr}
def ca (t u:TT):TT:=fun σ H Q=>t σ H fun c H1=>if c=true then u σ H1 Q else Q false H1
def eY (t u:TT):TT:=fun σ H Q=>t σ H fun c H1=>if c=true then Q true H1 else u σ H1 Q
def cb (t:TT):TT:=fun σ H Q=>t σ H fun c H1=>Q (!c) H1
theorem di (ha:PT X a tA):PW X (.BoolOp .And [a] pos) tA:=by
 intro wh pins s σ H Q I h
 refine isTrue_and (bz (ha pins s σ H Q I h) fun c s1 e=>?_)
 cases c with
 | true=>exact isTrue_and_nil e
 | false=>exact e
theorem vi (ha:PT X a tA):PW X (.BoolOp .Or [a] pos) tA:=by
 intro wh pins s σ H Q I h
 refine isTrue_or (bz (ha pins s σ H Q I h) fun c s1 e=>?_)
 cases c with
 | false=>exact isTrue_or_nil e
 | true=>exact e
theorem eE (ha:PT X a tA) (hb:PW X (.BoolOp .And (b::rest) pos) tB'):PW X (.BoolOp .And (a::b::rest) pos) (ca tA tB'):=by
 intro wh pins s σ H Q I h
 refine isTrue_and (bz (ha pins s σ H _ I h) fun c s1 ⟨H1,I1,q1⟩=>?_)
 cases c with
 | true=>exact hb wh pins s1 σ H1 Q I1 q1
 | false=>exact⟨H1,I1,q1⟩
theorem uO (ha:PT X a tA) (hb:PW X (.BoolOp .Or (b::rest) pos) tB'):PW X (.BoolOp .Or (a::b::rest) pos) (eY tA tB'):=by
 intro wh pins s σ H Q I h
 refine isTrue_or (bz (ha pins s σ H _ I h) fun c s1 ⟨H1,I1,q1⟩=>?_)
 cases c with
 | true=>exact⟨H1,I1,q1⟩
 | false=>exact hb wh pins s1 σ H1 Q I1 q1
theorem jM (ha:PT X a tA):PT X (.UnaryOp .Not a pos) (cb tA):=by
 intro pins s σ H Q I h
 exact isTrue_not (ha pins s σ H (fun c H1=>Q (!c) H1) I h)
def bf (ta tb:TE):TE:=fun σ H Q=>ta σ H fun x H1=>∃c,x=.bl c∧if c=true then tb σ H1 Q else Q (.bl false) H1
def cf (ta tb:TE):TE:=fun σ H Q=>ta σ H fun x H1=>∃c,x=.bl c∧if c=true then Q (.bl true) H1 else tb σ H1 Q
def bo (ta:TE):TE:=fun σ H Q=>ta σ H fun x H1=>∃c,x=.bl c∧Q (.bl (!c)) H1
theorem fY {op} {t:TE} (h:PE X a t):PE X (.BoolOp op [a] pos) t:=fun pins s σ H Q I hw=>BoolOp_one (h pins s σ H Q I hw)
theorem fZ (ha:PE X a ta) (hb:PE X (.BoolOp .And (b::rest) pos) tb):PE X (.BoolOp .And (a::b::rest) pos) (bf ta tb):=by
 intro pins s σ H Q I h
 refine BoolOp_and (bz (ha pins s σ H _ I h) fun v s1 ⟨x,H1,I1,r1,q1⟩=>?_)
 obtain⟨c,rfl,q1⟩:=q1
 cases r1
 refine BK ?_
 cases c with
 | true=>exact hb pins s1 σ H1 Q I1 q1
 | false=>exact⟨.bl false,H1,I1,rfl,q1⟩
theorem wB (ha:PE X a ta) (hb:PE X (.BoolOp .Or (b::rest) pos) tb):PE X (.BoolOp .Or (a::b::rest) pos) (cf ta tb):=by
 intro pins s σ H Q I h
 refine BoolOp_or (bz (ha pins s σ H _ I h) fun v s1 ⟨x,H1,I1,r1,q1⟩=>?_)
 obtain⟨c,rfl,q1⟩:=q1
 cases r1
 refine BK ?_
 cases c with
 | false=>exact hb pins s1 σ H1 Q I1 q1
 | true=>exact⟨.bl true,H1,I1,rfl,q1⟩
theorem vj (ha:PE X a ta):PE X (.UnaryOp .Not a pos) (bo ta):=by
 intro pins s σ H Q I h
 refine UnaryOp_ (bz (ha pins s σ H _ I h) fun v s1 ⟨x,H1,I1,r1,q1⟩=>?_)
 obtain⟨c,rfl,q1⟩:=q1
 cases r1
 exact not_of (BK ⟨.bl (!c),H1,I1,rfl,q1⟩)
def eU (t:TT) (ta tb:TE):TE:=fun σ H Q=>t σ H fun c H1=>if c=true then ta σ H1 Q else tb σ H1 Q
theorem fb {c:Expr} (hc:PT X c tA) (ha:PE X a ta) (hb:PE X b tb):PE X (.IfExp c a b pos) (eU tA ta tb):=by
 intro pins s σ H Q I h
 refine wpAny_IfExp (bz (hc pins s σ H _ I h) fun d s1 ⟨H1,I1,q1⟩=>?_)
 cases d with
 | true=>exact ha pins s1 σ H1 Q I1 q1
 | false=>exact hb pins s1 σ H1 Q I1 q1
end
def SqL (K:PySem.W.Frag) (H:Hp) (a:Addr) (xs:List V):Prop:=
 Rd H a (.lst xs)∨
  ∃(o:Obj) (its:Array zl) (n:Nat),K.lookup a=some o∧o.cls=.type "list" ∧o.dict=none∧o.data=.seq its n∧its.size≤sizeLine∧Vals xs its.toList
def SqT (K:PySem.W.Frag) (H:Hp) (a:Addr) (xs:List V):Prop:=
 Rd H a (.tup xs)∨
  ∃(o:Obj) (its:Array zl) (n:Nat),K.lookup a=some o∧(o.cls=.type "tuple" ∧o.dict=none)∧o.data=.seq its n∧its.size≤sizeLine∧Vals xs its.toList
def yd:zl→Option V
 | .none=>some .non
 | .bool b=>some (.bl b)
 | .int i _=>some (.int i)
 | .str x _=>some (.str x)
 | .bytes b _=>some (.byt b)
 | .float b _=>some (.flt b)
 | .ref a=>some (.ref a)
 | .type n=>some (.ty n)
 | _=>none
theorem RelV.abs {x:V} {u:zl} (r:RelV x u):yd u=some x:=by
 cases x with
 | non=>cases r;rfl
 | bl _=>cases r;rfl
 | int _=>obtain⟨t,rfl⟩:=r;rfl
 | str _=>obtain⟨t,rfl⟩:=r;rfl
 | byt _=>obtain⟨t,rfl⟩:=r;rfl
 | flt _=>obtain⟨t,rfl⟩:=r;rfl
 | ref _=>cases r;rfl
 | ty _=>cases r;rfl
theorem RelV.inj {x y:V} {u:zl} (r:RelV x u) (q:RelV y u):x=y:=Ad (r.abs.symm.trans q.abs)
theorem Vals.inj:∀{xs ys:List V} {us:List zl},Vals xs us→Vals ys us→xs=ys
 | _,_,_,.nil,.nil=>rfl
 | _,_,_,.cons r t,.cons r' t'=>by rw[r.inj r',Vals.inj t t']
section
variable {X:Cx} {pins:List (Addr×Obj)} {σ:St} {H:Hp} {s:zq} {a:Addr} {xs ys:List V}
theorem SqL.of {K:PySem.W.Frag} (h:H a=some (.lst xs)):SqL K H a xs:=.inl (.inl h)
theorem SqT.of {K:PySem.W.Frag} (h:H a=some (.tup xs)):SqT K H a xs:=.inl (.inl h)
theorem Inv.list (I:Inv X pins σ H s) (h:SqL X.K H a xs):∃its:List zl,Vals xs its∧PlainL s.heap a its.toArray∧xs.length≤sizeLine:=by
 rcases h with h | ⟨o,its,n,hk,hc,hd,hs,hz,r⟩
 ·obtain⟨z,its,n,r,e⟩:=h.ok I.hok
  exact⟨its,r,⟨_,n,e,rfl,rfl,rfl⟩,z⟩
 ·refine⟨its.toList,r,⟨o,n,I.kIn a o hk,hc,hd,by simpa using hs⟩,?_⟩
  have e:=r.length
  simp only[A4]at e
  omega
theorem Inv.tuple (I:Inv X pins σ H s) (h:SqT X.K H a xs):∃its:List zl,Vals xs its∧IsTup s.heap a its.toArray∧xs.length≤sizeLine:=by
 rcases h with h | ⟨o,its,n,hk,hc,hs,hz,r⟩
 ·obtain⟨z,its,r,p⟩:=h.ok I.hok
  exact⟨its,r,p.tup,z⟩
 ·refine⟨its.toList,r,⟨o,I.kIn a o hk,hc.1,n,by simpa using hs⟩,?_⟩
  have e:=r.length
  simp only[A4]at e
  omega
theorem Inv.list_inj (I:Inv X pins σ H s) (h:SqL X.K H a xs) (h':SqL X.K H a ys):xs=ys:=by
 obtain⟨its,r,⟨o,n,e,_,_,d⟩,_⟩:=I.list h
 obtain⟨its',r',⟨o',n',e',_,_,d'⟩,_⟩:=I.list h'
 rw[e]at e';cases e'
 rw[d]at d'
 injection d' with d1 _
 have:its=its':=by simpa using congrArg GK d1
 subst this
 exact r.inj r'
theorem Inv.tuple_inj (I:Inv X pins σ H s) (h:SqT X.K H a xs) (h':SqT X.K H a ys):xs=ys:=by
 obtain⟨its,r,⟨o,e,_,n,d⟩,_⟩:=I.tuple h
 obtain⟨its',r',⟨o',e',_,n',d'⟩,_⟩:=I.tuple h'
 rw[e]at e';cases e'
 rw[d]at d'
 injection d' with d1 _
 have:its=its':=by simpa using congrArg GK d1
 subst this
 exact r.inj r'
end
abbrev Cx.wish (X:Cx) (E:zl→zq→Prop):Cx:={X with xe:=E}
abbrev Cx.nox (X:Cx):Cx:=X.wish fun _ _=>False
theorem Cx.Ok.wish {X:Cx} (ok:X.Ok) (E:zl→zq→Prop):(X.wish E).Ok:=
 ⟨ok.mod,ok.kind,ok.glob,ok.blt,ok.above,ok.inj,ok.has,ok.cab,ok.hd,ok.frames,ok.stk,ok.exf,ok.bs,ok.bsz,ok.noex,ok.exfs,ok.funs,ok.frf⟩
theorem Cx.Ok.unwish {X:Cx} {E:zl→zq→Prop} (ok:(X.wish E).Ok):X.Ok:=
 ⟨ok.mod,ok.kind,ok.glob,ok.blt,ok.above,ok.inj,ok.has,ok.cab,ok.hd,ok.frames,ok.stk,ok.exf,ok.bs,ok.bsz,ok.noex,ok.exfs,ok.funs,ok.frf⟩
section
variable {X:Cx} {pins:List (Addr×Obj)} {σ:St} {H:Hp} {s:zq} {E:zl→zq→Prop}
theorem Inv.wish (I:Inv X pins σ H s) (E:zl→zq→Prop):Inv (X.wish E) pins σ H s:=⟨I.ok.wish E,I.os,I.bare,I.base,I.loc,I.cell,I.free,I.freeC,I.pin,I.hok,I.len⟩
theorem Inv.unwish (I:Inv (X.wish E) pins σ H s):Inv X pins σ H s:=⟨I.ok.unwish,I.os,I.bare,I.base,I.loc,I.cell,I.free,I.freeC,I.pin,I.hok,I.len⟩
theorem SP.unwish {D:Ends} {f:Flow} {s':zq} (h:SP (X.wish E) pins D f s'):SP X pins D f s':=by
 cases f with
 | next=>obtain⟨σ',H',I,q⟩:=h;exact⟨σ',H',I.unwish,q⟩
 | brk=>obtain⟨σ',H',I,q⟩:=h;exact⟨σ',H',I.unwish,q⟩
 | cont=>obtain⟨σ',H',I,q⟩:=h;exact⟨σ',H',I.unwish,q⟩
 | ret u=>obtain⟨v,σ',H',I,r,q⟩:=h;exact⟨v,σ',H',I.unwish,r,q⟩
theorem PSs.nox {st:List Stmt} {t:TS} (h:PSs X.nox st t):PSs X st t:=fun pins s σ H D I hw=>
 Aq (h pins s σ H D (I.wish _) hw) (fun _ _ q=>q.unwish) fun _ _ z=>C9 z
end
section
variable {X:Cx} {st:Stmt} {rest:List Stmt} {t u:TS} {e:Expr} {te:TE} {pos:Pos}
def aF:TS:=fun D σ H=>D.nx σ H
def eV (t u:TS):TS:=fun D σ H=>t {D with nx:=u D} σ H
theorem aL:PSs X [] aF:=fun _ _ σ H _ I h=>Dq ⟨σ,H,I,h⟩
theorem af (h1:PS X st t) (h2:PSs X rest u):PSs X (st::rest) (eV t u):=by
 intro pins s σ H D I h
 refine FK (bz (h1 pins s σ H {D with nx:=u D} I h) fun f s1 q=>?_)
 cases f with
 | next =>
  obtain⟨σ',H',I',q⟩:=q
  exact h2 pins s1 σ' H' D I' q
 | ret v=>exact q
 | brk=>exact q
 | cont=>exact q
theorem ag (h1:PS X st t):PSs X [st] t:=by
 intro pins s σ H D I h
 refine FK (bz (h1 pins s σ H D I h) fun f s1 q=>?_)
 cases f with
 | next=>exact Dq q
 | ret v=>exact q
 | brk=>exact q
 | cont=>exact q
theorem Inv.quiet {pins:List (Addr×Obj)} {σ:St} {H:Hp} {s:zq} (I:Inv X pins σ H s):interactive X.env=false:=by simp[interactive,I.ok.kind]
def bb (te:TE):TS:=fun D σ H=>te σ H fun _ H1=>D.nx σ H1
theorem dE (he:PE X e te) (hs:swapsWith e none pos.line X.env=pure false:=by rfl):PS X (.Expr e pos) (bb te):=by
 intro pins s σ H D I h
 exact wpAny_Expr_any (bz (he pins s σ H _ I h) fun v s1 ⟨x,H1,I1,r1,q1⟩=>⟨σ,H1,I1,q1⟩) I.quiet hs
def bR (te:TE):TS:=fun D σ H=>te σ H D.rt
theorem au (he:PE X e te):PS X (.Return (some e) pos) (bR te):=by
 intro pins s σ H D I h
 exact wpAny_Return_some (bz (he pins s σ H _ I h) fun v s1 ⟨x,H1,I1,r1,q1⟩=>⟨x,σ,H1,I1,r1,q1⟩)
def iw (c:TT) (t u:TS):TS:=fun D σ H=>c σ H fun b H1=>if b=true then t D σ H1 else u D σ H1
theorem br {c:Expr} {a b:List Stmt} {tc:TT} (hc:PT X c tc) (ha:PSs X a t) (hb:PSs X b u):PS X (.If c a b pos) (iw tc t u):=by
 intro pins s σ H D I h
 refine wpAny_If (bz (hc pins s σ H _ I h) fun d s1 ⟨H1,I1,q1⟩=>?_)
 cases d with
 | true=>exact ha pins s1 σ H1 D I1 q1
 | false=>exact hb pins s1 σ H1 D I1 q1
end
abbrev TG:=V→St→Hp→(St→Hp→Prop)→Prop
abbrev uP:=List V→St→Hp→(St→Hp→Prop)→Prop
def PG (X:Cx) (target:Expr) (t:TG):Prop:=
 ∀ (pins : List (Addr × Obj)) (s : zq) (σ : St) (H : Hp) (v : V) (u : zl) (Q : St → Hp → Prop), Inv X pins σ H s → RelV v u → t v σ H Q →
  wpAny (model X.prog X.w) X.A (assign target X.env u) (fun _ s'=>∃σ' H',Inv X pins σ' H' s'∧Q σ' H') X.xe s
def wC (X:Cx) (ts:List Expr) (t:uP):Prop:=
 ∀ (pins : List (Addr × Obj)) (s : zq) (σ : St) (H : Hp) (vs : List V) (us : List zl) (Q : St → Hp → Prop), Inv X pins σ H s → Vals vs us → t vs σ H Q →
  wpAny (model X.prog X.w) X.A (assignInOrder ((assignEach ts X.env).map (·.2)) us) (fun _ s'=>∃σ' H',Inv X pins σ' H' s'∧Q σ' H') X.xe s
abbrev vm:=V→V→V→Hp→(Hp→Prop)→Prop
def wD (X:Cx) (t:vm):Prop:=
 ∀ (pins : List (Addr × Obj)) (s : zq) (σ : St) (H : Hp) (o i v : V) (ov iv u : zl) (Q : Hp → Prop), Inv X pins σ H s → RelV o ov → RelV i iv → RelV v u → t o i v H Q →
  wpAny (model X.prog X.w) X.A (setItem ov iv u) (fun _ s'=>∃H',Inv X pins σ H' s'∧Q H') X.xe s
abbrev xm:=V→V→Hp→VK→Prop
def yo (X:Cx) (op:GY) (t:xm):Prop:=
 ∀ (pins : List (Addr × Obj)) (s : zq) (σ : St) (H : Hp) (x y : V) (v u : zl) (Q : VK), Inv X pins σ H s → RelV x v → RelV y u → t x y H Q →
  wpAny (model X.prog X.w) X.A (inplaceOp op v u) (EP X pins σ Q) X.xe s
section
variable {X:Cx} {pos:Pos}
def aO (i:Nat):TG:=fun v σ H Q=>Q (σ.set i (some v)) H
theorem aq {i:Nat} {x:Str} (hN:X.N.Nodup) (hi:X.N[i]? =some x) (hx:wl X.env.scope x) (hf:X.fn x=true∨X.env.scope.names.lookup x=some .local:=by first | exact .inl rfl | exact .inr rfl | assumption):PG X (.Name x pos) (aO i):=by
 intro pins s σ H v u Q I r h
 exact Ft (iu I hN hi hx r (fun s' I'=>⟨_,H,I',h⟩) hf)
def bS:uP:=fun vs σ H Q=>vs=[]∧Q σ H
def aY (t:TG) (u:uP):uP:=fun vs σ H Q=>∃v r,vs=v::r∧t v σ H fun σ' H'=>u r σ' H' Q
theorem cm:wC X [] bS:=by
 intro pins s σ H vs us Q I r h
 obtain⟨e,h⟩:=h
 subst e
 cases r
 exact assignInOrder_nil ⟨σ,H,I,h⟩
theorem aB {e:Expr} {es:List Expr} {t:TG} {u:uP} (h1:PG X e t) (h2:wC X es u)
  (hs:(assignEach (e::es) X.env).map (·.2)=assign e X.env::(assignEach es X.env).map (·.2):=by rfl):wC X (e::es) (aY t u):=by
 intro pins s σ H vs us Q I r h
 obtain⟨v,vr,e1,h⟩:=h
 subst e1
 cases r with
 | cons r rr =>
  rw[hs]
  refine assignInOrder_cons (bz (h1 pins s σ H _ _ _ I r h) fun _ s1 ⟨σ1,H1,I1,q1⟩=>?_)
  exact h2 pins s1 σ1 H1 _ _ Q I1 rr q1
def bN (K:PySem.W.Frag) (n:Nat) (t:uP):TG:=fun v σ H Q=>∃a xs,v=.ref a∧SqT K H a xs∧xs.length=n∧t xs σ H Q
theorem vn {es:List Expr} {k:Nat} {t:uP} {n:Nat} (hc:X.calm=true) (h:wC X es t)
  (hn:(assignEach es X.env).length=n:=by rfl) (hst:(assignEach es X.env).findIdx? (·.1)=none:=by rfl):PG X (.Tuple es k pos) (bN X.K n t):=by
 intro pins s σ H v u Q I r hw
 obtain⟨a,xs,e1,hq,hl,hw⟩:=hw
 subst e1
 cases r
 obtain⟨its,rv,ht,hz⟩:=I.tuple hq
 refine assign_Tuple_tuple (I.ok.hd hc) ht (by simp[hn,←hl,rv.length]) hst fun h' hx=>?_
 have I1:Inv X pins σ H {s with heap:=h'} :=I.kept (t':=s.toks) fun b o e=>hx b o (zX (zI e)) e
 exact h pins _ σ H xs _ Q I1 (by simpa using rv) hw
def vo (to ti:TE) (t:vm):TG:=fun v σ H Q=>to σ H fun o H1=>ti σ H1 fun i H2=>t o i v H2 fun H3=>Q σ H3
theorem jN {o i:Expr} {to ti:TE} {t:vm} (ho:PE X o to) (hi:PE X i ti) (hs:wD X t)
  (ha:∀v,assign (.Subscript o i pos) X.env v=(do
   let ov ←holding [v] (eval o X.env)
   let iv ←holding [v,ov] (eval i X.env)
   standAt pos
   holding [v,ov,iv] (setItem ov iv v)
   release [v,ov,iv] []):=by intro _;rfl):PG X (.Subscript o i pos) (vo to ti t):=by
 intro pins s σ H v u Q I r h
 rw[ha]
 refine zh (AX (bz (ho pins s σ H _ I h) fun ov s1 ⟨x,H1,I1,r1,q1⟩=>?_))
 refine zh (AX (bz (hi pins s1 σ H1 _ I1 q1) fun iv s2 ⟨y,H2,I2,r2,q2⟩=>?_))
 refine zh (By (zh (AX (bz (hs pins s2 σ H2 x y v ov iv u _ I2 r1 r2 r q2) fun _ s3 ⟨H3,I3,q3⟩=>?_))))
 exact wpAny_release ⟨σ,H3,I3,q3⟩
def bA (te:TE) (g:TG):TS:=fun D σ H=>te σ H fun x H1=>g x σ H1 D.nx
theorem dP {tg e:Expr} {te:TE} {g:TG} (he:PE X e te) (hg:PG X tg g) (hs:swapsWithSole [tg] e pos.line X.env=pure false:=by rfl) (hw:swappedStores [tg] e X.env=pure none:=by rfl)
  (h1:(assignEach [tg] X.env).map (·.2)=[assign tg X.env]:=by rfl):PS X (.Assign [tg] e pos) (bA te g):=by
 intro pins s σ H D I h
 refine wpAny_Assign_stores (bz (he pins s σ H _ I h) fun v s1 ⟨x,H1,I1,r1,q1⟩=>?_) hs hw
 rw[h1]
 exact bz (hg pins s1 σ H1 x v _ I1 r1 q1) fun _ s2 q=>q
theorem ao {i:Nat} {x:Str} {e:Expr} {te:TE} {pos':Pos} (hN:X.N.Nodup) (hi:X.N[i]? =some x) (hx:wl X.env.scope x) (he:PE X e te) (hs:swapsWith e (some (.Name x pos')) pos.line X.env=pure false:=by rfl) (hf:X.fn x=true∨X.env.scope.names.lookup x=some .local:=by first | exact .inl rfl | exact .inr rfl | assumption):
  PS X (.Assign [.Name x pos'] e pos) (bA te (aO i)):=by
 intro pins s σ H D I h
 refine wpAny_Assign_Name (bz (he pins s σ H _ I h) fun v s1 ⟨y,H1,I1,r1,q1⟩=>?_) hs
 exact iu I1 hN hi hx r1 (fun s2 I2=>⟨_,H1,I2,q1⟩) hf
def wE (i:Nat) (te:TE) (ti:xm):TS:=fun D σ H=>∃x,σ[i]? =some (some x)∧te σ H fun y H1=>ti x y H1 fun z H2=>D.nx (σ.set i (some z)) H2
theorem vp {i:Nat} {x:Str} {e:Expr} {te:TE} {op:GY} {ti:xm} {pos':Pos} (hN:X.N.Nodup) (hi:X.N[i]? =some x) (hx:wl X.env.scope x) (he:PE X e te) (ho:yo X op ti) (hf:X.fn x=true∨X.env.scope.names.lookup x=some .local:=by first | exact .inl rfl | exact .inr rfl | assumption):
  PS X (.AugAssign (.Name x pos') op e pos) (wE i te ti):=by
 intro pins s σ H D I h
 obtain⟨v,e1,h⟩:=h
 obtain⟨m,hn,hl⟩:=I.loc
 have wq:Vis X.env.scope x:=by rcases hx with k | k;exact .inl k;exact .inr (.inl k)
 obtain⟨u,r,l⟩:=hl i x v hi e1 wq
 refine wpAny_AugAssign_Name ?_
 have go:wpAny (model X.prog X.w) X.A (eval e X.env) (fun w s₂=>wpAny (model X.prog X.w) X.A (inplaceOp op u w) (fun r s₃=>wpAny (model X.prog X.w) X.A (storeName X.env x r) (fun _=>SP X pins D .next) X.xe s₃) X.xe s₂) X.xe s:=by
  refine bz (he pins s σ H _ I h) fun w s1 ⟨y,H1,I1,r1,q1⟩=>?_
  refine bz (ho pins s1 σ H1 v y u w _ I1 r r1 q1) fun z s2 ⟨zv,H2,I2,r2,q2⟩=>?_
  exact iu I2 hN hi hx r2 (fun s3 I3=>⟨_,H2,I3,q2⟩) hf
 rcases l with⟨hk,hm⟩ | ⟨hk,c,hc,hcell⟩
 ·exact EO I.ok.kind hk hn hm go
 ·rcases hk with hk | hk
  ·exact F1 I.ok.kind hk hc hcell go
  ·rcases hx with k | k
   ·have:X.env.scope.names.lookup x=some .free:=hk
    rw[k]at this;cases this
   ·have:X.env.scope.names.lookup x=some .free:=hk
    rw[k]at this;cases this
def yp (f:Int→Int→Int):xm:=fun x y H Q=>∃i j,x=.int i∧y=.int j∧Q (.int (f i j)) H
theorem vq:yo X .Add (yp fun i j=>i+j):=by
 intro pins s σ H x y v u Q I r1 r2 h
 obtain⟨i,j,e1,e2,q⟩:=h
 subst e1;subst e2
 obtain⟨t,rfl⟩:=r1
 obtain⟨t',rfl⟩:=r2
 exact iadd_int ⟨.int _,H,I.tok _,⟨_,rfl⟩,q⟩
end
section
variable {X:Cx} {pos:Pos}
def mq (c:TT) (tb:TS):TS:=fun D σ H=>∃W:Nat→St→Hp→Prop,(∃m,W m σ H)∧∀m σ H,W m σ H→
 c σ H fun b H1=>if b=true then ∃N:St→Hp→Prop,(∀σ' H',N σ' H'→∃m',m'< m∧W m' σ' H')∧tb {D with nx:=N,ct:=N,bk:=D.nx} σ H1 else D.nx σ H1
theorem ql {c:Expr} {body:List Stmt} {tc:TT} {tb:TS} (hp:PassesOwn (model X.prog X.w) X.A X.env X.xe) (hc:PT X c tc) (hb:PSs X body tb):PS X (.While c body [] pos) (mq tc tb):=by
 intro pins s σ H D I h
 obtain⟨W,⟨m0,w0⟩,turn⟩:=h
 refine wpAny_While (codeAny_whileLoop (fun n s'=>∃σ' H',Inv X pins σ' H' s'∧W n σ' H') ?_ m0 ⟨σ,H,I,w0⟩)
 rintro n s1 ⟨σ1,H1,I1,w1⟩
 refine BH hp (bz (hc pins s1 σ1 H1 _ I1 (turn n σ1 H1 w1)) fun b s2 ⟨H2,I2,q2⟩=>?_)
 cases b with
 | true =>
  obtain⟨N,hN,q2⟩:=q2
  rw[if_pos rfl]
  refine BH hp (bz (hb pins s2 σ1 H2 _ I2 q2) fun f s3 q3=>?_)
  cases f with
  | next =>
   obtain⟨σ3,H3,I3,n3⟩:=q3
   obtain⟨m',hm,w3⟩:=hN σ3 H3 n3
   exact⟨m',hm,σ3,H3,I3,w3⟩
  | cont =>
   obtain⟨σ3,H3,I3,n3⟩:=q3
   obtain⟨m',hm,w3⟩:=hN σ3 H3 n3
   exact⟨m',hm,σ3,H3,I3,w3⟩
  | brk=>exact q3
  | ret v=>exact q3
 | false =>
  rw[if_neg zF]
  exact Dq ⟨σ1,H2,I2,q2⟩
end
structure It where
 go:Nat→Hp→Prop
 yld:Nat→Hp→V→Hp→Prop
 stop:Nat→Hp→Prop
def FpOk (X:Cx) (pins:List (Addr×Obj)) (H:Hp) (b:Addr):Prop:=
 H b=none∧b≠X.env.locals∧b∉X.fs∧(b∈X.ex∨X.s₀.heap.objs.size≤b)∧(∀x c,X.env.cells.lookup x=some c→c≠b)∧∀p∈X.pn++pins,p.1≠b
theorem Inv.fpOk {X:Cx} {pins:List (Addr×Obj)} {σ:St} {H H':Hp} {s:zq} {b:Addr} (I:Inv X pins σ H s) (hb:s.heap.objs.size≤b) (hn:H' b=none):FpOk X pins H' b:=by
 refine⟨hn,CL (zJ I.lt hb),I.nofs hb,.inr (B9 I.sz hb),fun x c e z=>?_,fun p hp z=>?_⟩
 ·obtain⟨v,q⟩:=I.cell x c e
  exact absurd (zJ q.lt (by rw[z];exact hb)) (AW _)
 ·exact absurd (zJ (zI (I.pin p hp).1) (by rw[z];exact hb)) (AW _)
structure Turn (P:zL) (w:zQ) (K:PySem.W.Frag) (tg:Expr) (J:It) (fp:List Addr) (it:Addr) (tn:Nat→Heap→Prop):Prop where
 mem:it∈fp
 obj:∀i h,tn i h→∀b∈fp,∃o,h.get? b=some o∧∀v,o.data≠.cell v
 keep:∀i h h',tn i h→(∀b∈fp,∀o,h.get? b=some o→h'.get? b=some o)→tn i h'
 item:∀(X:Cx),X.prog=P→X.w=w→X.K=K→X.calm=true→∀(i:Nat) (pins:List (Addr×Obj)) (s:zq) (σ:St) (H:Hp) (E:zl→zq→Prop),Inv X pins σ H s→(∀b∈fp,FpOk X pins H b)→tn i s.heap→J.go i H→
  wpAny (model P w) X.A (pyNext (.ref it)) (fun r s1=>∃u,r=some u∧
   wpAny (model P w) X.A (letOwnedTupleGo tg (.ref it) u) (fun _ s2=>∃x H',Inv X pins σ H' s2∧RelV x u∧J.yld i H x H'∧tn (i+1) s2.heap∧∀b∈fp,H' b=none) E s1) E s
 done:∀(X:Cx),X.prog=P→X.w=w→X.K=K→X.calm=true→∀(i:Nat) (pins:List (Addr×Obj)) (s:zq) (σ:St) (H:Hp) (E:zl→zq→Prop),Inv X pins σ H s→(∀b∈fp,FpOk X pins H b)→tn i s.heap→J.stop i H→
  wpAny (model P w) X.A (pyNext (.ref it)) (fun r s1=>r=none∧Inv X pins σ H s1) E s
 self:∀(A:Ai) (i:Nat) (s:zq) (Q:zl→zq→Prop) (E:zl→zq→Prop),tn i s.heap→Q (.ref it) s→wpAny (model P w) A (pyIter (.ref it)) Q E s
abbrev TI:=St→Hp→(It→Hp→Prop)→Prop
def ye (X:Cx) (pins:List (Addr×Obj)) (σ:St) (tg:Expr) (R:It→Hp→Prop) (itv:zl) (s2:zq):Prop:=
 ∃(it:Addr) (fp:List Addr) (tn:Nat→Heap→Prop) (J:It) (H':Hp),itv=.ref it∧Inv X pins σ H' s2∧Turn X.prog X.w X.K tg J fp it tn∧tn 0 s2.heap∧(∀b∈fp,FpOk X pins H' b)∧R J H'
def PI (X:Cx) (tg iter:Expr) (wi:TI):Prop:=
 ∀ (pins : List (Addr × Obj)) (s : zq) (σ : St) (H : Hp) (R : It → Hp → Prop), Inv X pins σ H s → wi σ H R →
  wpAny (model X.prog X.w) X.A (eval iter X.env) (fun v s1=>wpAny (model X.prog X.w) X.A (pyIter v) (ye X pins σ tg R) X.xe s1) X.xe s
theorem kU {M:Ey} {A:Ai} {E:zl→zq→Prop} {s:zq} {tg:Expr} {it:Addr} {u:zl} {o:Obj} {n:String} {vs:Array zl} {Q:Unit→zq→Prop} (ho:s.heap.get? it=some o) (hc:o.cls=.type n) (hd:o.data=.fields vs)
    (hn: ["enumerate","zip","dict_itemiterator","dict_reverseitemiterator","odict_iterator","itertools.zip_longest","itertools.pairwise"].contains n=false) (hQ:Q () s):wpAny M A (letOwnedTupleGo tg (.ref it) u) Q E s:=by
  unfold letOwnedTupleGo
  cases tg <;> first
    | exact zo hQ
    | (cases u <;> first
        | exact zo hQ
        | (refine zh (wpAny_load ho ?_)
           rw[hc,hd]
           show wpAny M A (if(["enumerate","zip","dict_itemiterator","dict_reverseitemiterator","odict_iterator","itertools.zip_longest","itertools.pairwise"].contains n && vs[0]? == some (rawInt _))=true then _ else _) Q E s
           rw[if_neg (by intro h;rw[hn,Gg]at h;cases h)]
           exact zo hQ))
def yq (K:PySem.W.Frag) (a:Addr):It:=
 ⟨fun i H=>∃xs x,SqL K H a xs∧xs[i]? =some x,fun i H x H'=>H'=H∧∀xs,SqL K H a xs→xs[i]? =some x,fun i H=>∃xs,SqL K H a xs∧xs.length≤i⟩
def yf (lo:Int) (n:Nat):It:=⟨fun i _=>i< n,fun i H x H'=>H'=H∧x=.int (lo+i),fun i _=>n≤i⟩
theorem oP {P:zL} {w:zQ} {K:PySem.W.Frag} {tg:Expr} (a it:Addr):Turn P w K tg (yq K a) [it] it (fun i h=>h.IsListIter it a i) where
 mem:=by simp
 obj:=fun i h st b hb=>by
  have e:b=it:=by simpa using hb
  subst e
  obtain⟨o,e,c,d⟩:=st
  exact⟨o,e,fun v z=>by rw[d]at z;cases z⟩
 keep:=fun i h h' st k=>st.at fun o e=>k it (by simp) o e
 item:=by
  intro X hP hw hK hc i pins s σ H E I hf st hg
  subst hP hw hK
  obtain⟨xs,x,hq,hx⟩:=hg
  obtain⟨its,rv,p,hz⟩:=I.list hq
  obtain⟨u,hu,ru⟩:=rv.get hx
  obtain⟨f0,f1,f2,f3,f4,f5⟩:=hf it (by simp)
  refine wpAny_pyNext_list_item st p.isList (x:=u) (by simpa using hu) fun h' st' sb=>?_
  have I1:Inv X pins σ H {s with heap:=h'} :=I.turned (t':=s.toks) (fun b o hb e=>(sb.2 b hb).trans e) f0 f1 f3 f4 f5
  obtain⟨o,e,c,d⟩:=id st'
  exact⟨u,rfl,kU (s:={s with heap:=h'}) e c d (by decide) ⟨x,H,I1,ru,⟨rfl,fun ys hy=>by rw[I.list_inj hy hq];exact hx⟩,st',fun b hb=>(hf b hb).1⟩⟩
 done:=by
  intro X hP hw hK hc i pins s σ H E I hf st hg
  subst hP hw hK
  obtain⟨xs,hq,hx⟩:=hg
  obtain⟨its,rv,p,hz⟩:=I.list hq
  obtain⟨f0,f1,f2,f3,f4,f5⟩:=hf it (by simp)
  have hl:=rv.length
  exact wpAny_pyNext_list_end (I.ok.hd hc) st p.isList (by simp;omega) fun h' eb=>⟨rfl,I.turned (t':=s.toks) (fun b o hb e=>eb b o hb e) f0 f1 f3 f4 f5⟩
 self:=fun _ _ _ _ _ st h=>wpAny_pyIter_listiter st h
theorem mt {P:zL} {w:zQ} {K:PySem.W.Frag} {tg:Expr} (it:Addr) (lo:Int) (n:Nat):Turn P w K tg (yf lo n) [it] it (fun i h=>ER h it (lo+(i:Nat)*1) ((n:Int)- (i:Nat)) 1) where
 mem:=by simp
 obj:=fun i h st b hb=>by
  have e:b=it:=by simpa using hb
  subst e
  exact⟨_,st,fun v z=>by
   have z':ES _=DC v:=z
   cases z'⟩
 keep:=fun i h h' st k=>k it (by simp) _ st
 item:=by
  intro X hP hw hK hc i pins s σ H E I hf st hg
  subst hP hw hK
  obtain⟨f0,f1,f2,f3,f4,f5⟩:=hf it (by simp)
  have W:=Walks.range (prog:=X.prog) (w:=X.w) (I.ok.hd hc) it lo 1 n
  refine W.item i s _ _ hg st fun v h' tk hv st' kk=>?_
  obtain⟨t,rfl⟩:=hv
  have I1:Inv X pins σ H {s with heap:=h',toks:=tk} :=I.turned (fun b o hb e=>kk b o (by simpa using hb) e) f0 f1 f3 f4 f5
  refine⟨_,rfl,kU (s:={s with heap:=h',toks:=tk}) (n:="range_iterator") st' rfl rfl (by decide) ⟨.int (lo+i),H,I1,⟨t,?_⟩,⟨rfl,rfl⟩,st',fun b hb=>(hf b hb).1⟩⟩
  rw[Int.mul_one]
 done:=by
  intro X hP hw hK hc i pins s σ H E I hf st hg
  subst hP hw hK
  obtain⟨f0,f1,f2,f3,f4,f5⟩:=hf it (by simp)
  exact Em (I.ok.hd hc) st (by have:n≤i:=hg;omega) fun h' eb=>⟨rfl,I.turned (t':=s.toks) (fun b o hb e=>eb b o hb e) f0 f1 f3 f4 f5⟩
 self:=fun _ _ _ _ _ st h=>CM st h
section
variable {X:Cx} {tg:Expr}
def qm (K:PySem.W.Frag) (tl:TE):TI:=fun σ H R=>tl σ H fun x H1=>∃a,x=.ref a∧(∃xs,SqL K H1 a xs)∧R (yq K a) H1
theorem sZ {l:Expr} {tl:TE} (hl:PE X l tl):PI X tg l (qm X.K tl):=by
 intro pins s σ H R I h
 refine bz (hl pins s σ H _ I h) fun v s1 ⟨x,H1,I1,r1,q1⟩=>?_
 obtain⟨a,e,⟨xs,hq⟩,q⟩:=q1
 subst e
 cases r1
 obtain⟨its,rv,p,hz⟩:=I1.list hq
 refine DT p.isList ?_
 refine⟨s1.heap.objs.size,[s1.heap.objs.size],_,_,H1,rfl,I1.kept (t':=s1.toks) fun b o e=>zr _ e,oP a _,⟨_,zz _ rfl,rfl,rfl⟩,fun b hb=>?_,q⟩
 have e:b=s1.heap.objs.size:=by simpa using hb
 subst e
 exact I1.fpOk (zw _) (I1.hok.fresh (zw _))
theorem qo {pins:List (Addr×Obj)} {σ:St} {H:Hp} {s:zq} {R:It→Hp→Prop} {E:zl→zq→Prop} {lo hi:Int} {t u v:Tok} {tk:Nat} (I:Inv X pins σ H s) (h1: -(2^62)≤lo) (h2:lo< 2^62) (h3: -(2^62)≤hi) (h4:hi< 2^62)
  (q:R (yf lo (hi- lo).toNat) H):wpAny (model X.prog X.w) X.A (pyIter (.ref s.heap.objs.size)) (ye X pins σ tg R) E {s with heap:=s.heap.push {cls:=.type "range",data:=.fields #[.int lo t,.int hi u,.int 1 v]},toks:=tk} :=by
 refine wpAny_pyIter_range (GZ ..) (small_one h1 h2 h3 h4) ?_
 have I1:Inv X pins σ H {s with heap:=s.heap.push {cls:=.type "range",data:=.fields #[.int lo t,.int hi u,.int 1 v]},toks:=tk} :=I.kept fun b o e=>zr _ e
 refine⟨(s.heap.push {cls:=.type "range",data:=.fields #[.int lo t,.int hi u,.int 1 v]}).objs.size,[(s.heap.push {cls:=.type "range",data:=.fields #[.int lo t,.int hi u,.int 1 v]}).objs.size],_,_,H,rfl,
  I1.kept (t':=tk) fun b o e=>zr _ e,mt _ lo (hi- lo).toNat,?_,fun b hb=>?_,q⟩
 ·have e1:lo+((0:Nat):Int)*1=lo:=by simp
  have e2:(((hi- lo).toNat:Nat):Int)- ((0:Nat):Int)=Ax lo hi 1:=by rw[rangeSize_one];split <;> omega
  show ER _ _ (lo+((0:Nat):Int)*1) ((((hi- lo).toNat:Nat):Int)- ((0:Nat):Int)) 1
  rw[e1,e2]
  exact zz _ rfl
 ·have e:b=(s.heap.push {cls:=.type "range",data:=.fields #[.int lo t,.int hi u,.int 1 v]}).objs.size:=by simpa using hb
  subst e
  exact I1.fpOk (zw _) (I1.hok.fresh (zw _))
def uQ (ta:TA):TI:=fun σ H R=>ta σ H fun vs H1=>∃j:Int,vs=[.int j]∧ -(2^62)≤j∧j< 2^62∧R (yf 0 j.toNat) H1
theorem gG {a:Expr} {ta:TA} {p pos:Pos} (hg:Gl X "range") (hm:X.mg "range" =none) (ha:PA X [a] ta) (hs:starEach [a] X.env=[(false,eval a X.env)]:=by rfl):PI X tg (.Call (.Name "range" p) [a] [] pos) (uQ ta):=by
 intro pins s σ H R I h
 refine Call_ (fX I hg hm boot_range (Bh (bz (ha pos pins s σ H _ I h) fun us s1 ⟨vs,H1,I1,r1,q1⟩=>?_) hs rfl))
 obtain⟨j,e,q1,q2,q⟩:=q1
 subst e
 cases r1 with
 | cons r rr =>
  cases rr
  obtain⟨t,rfl⟩:=r
  exact call_range_1 (qo I1 (by omega) (by omega) q1 q2 (by simpa using q))
def qp (wi:TI) (g:TG) (tb:TS):TS:=fun D σ H=>wi σ H fun J H1=>∃W:Nat→Nat→St→Hp→Prop,(∃m,W 0 m σ H1)∧∀i m σ H,W i m σ H→
 (J.stop i H∧D.nx σ H)∨(J.go i H∧∃N:St→Hp→Prop,(∀σ' H',N σ' H'→∃m',m'< m∧W (i+1) m' σ' H')∧∀x H',J.yld i H x H'→g x σ H' fun σ2 H2=>tb {D with nx:=N,ct:=N,bk:=D.nx} σ2 H2)
def gH (fp:List Addr) (h:Heap):List (Addr×Obj):=fp.filterMap fun b=>(h.get? b).map fun o=>(b,o)
theorem dt {fp:List Addr} {h:Heap} {b:Addr} {o:Obj} (hb:b∈fp) (e:h.get? b=some o):(b,o)∈gH fp h:=CG.mpr ⟨b,hb,by rw[e];rfl⟩
theorem oQ {fp:List Addr} {h:Heap} {p:Addr×Obj} (hp:p∈gH fp h):p.1∈fp∧h.get? p.1=some p.2:=by
 obtain⟨b,hb,e⟩:=CG.mp hp
 cases q:h.get? b with
 | none=>rw[q]at e;cases e
 | some o =>
  rw[q]at e
  have e':(b,o)=p:=Ad e
  subst e'
  exact⟨hb,q⟩
theorem Inv.pinned {pins:List (Addr×Obj)} {σ:St} {H:Hp} {s:zq} {fp:List Addr} (I:Inv X pins σ H s) (hf:∀b∈fp,FpOk X pins H b) (ho:∀b∈fp,∃o,s.heap.get? b=some o∧∀v,o.data≠.cell v):Inv X (pins++gH fp s.heap) σ H s:=
 I.pins_of fun p hp=>(Ac.mp hp).elim (fun z=>I.pin p (A0 _ z)) fun z=>by
  obtain⟨hb,e⟩:=oQ z
  obtain⟨f0,f1,f2,_⟩:=hf p.1 hb
  obtain⟨o,e',d⟩:=ho p.1 hb
  rw[e]at e';cases e'
  exact⟨e,f0,f1,f2,d⟩
theorem Inv.unpinned {pins pl:List (Addr×Obj)} {σ:St} {H:Hp} {s:zq} (I:Inv X (pins++pl) σ H s):Inv X pins σ H s:=I.pins_of fun p hp=>I.pin p (A0 _ (Di _ hp))
theorem du {iter:Expr} {body:List Stmt} {wi:TI} {g:TG} {tb:TS} {pos:Pos} (hp:PassesOwn (model X.prog X.w) X.A X.env X.xe) (hc:X.calm=true) (hi:PI X tg iter wi) (hg:PG X tg g) (hb:PSs X body tb)
  (hs:∀x,foldedSetIterable iter X.env x=pure x:=by intro _;rfl):PS X (.For tg iter body [] pos) (qp wi g tb):=by
 intro pins s σ H D I h
 refine wpAny_For (bz (hi pins s σ H _ I h) fun v s1 h1=>bz h1 fun itv s2 h2=>?_) hs
 obtain⟨it,fp,tn,J,H2,e,I2,T,st2,f2,W,⟨m0,w0⟩,turn⟩:=h2
 subst e
 have stat:∀{H':Hp},(∀b∈fp,H' b=none)→∀b∈fp,FpOk X pins H' b:=fun hn b hb=>⟨hn b hb,(f2 b hb).2⟩
 refine codeAny_forLoop_any (fun n s'=>∃i σ' H',Inv X pins σ' H' s'∧tn i s'.heap∧(∀b∈fp,H' b=none)∧W i n σ' H') ?_ m0 ⟨0,σ,H2,I2,st2,fun b hb=>(f2 b hb).1,w0⟩
 rintro n s3 ⟨i,σ3,H3,I3,st3,fr3,w3⟩
 rcases turn i n σ3 H3 w3 with⟨stop,qn⟩ | ⟨go,N,hN,step⟩
 ·refine BH hp (bz (T.done X rfl rfl rfl hc i pins s3 σ3 H3 X.xe I3 (stat fr3) st3 stop) fun r s4 ⟨hr,I4⟩=>?_)
  subst hr
  exact Dq ⟨σ3,H3,I4,qn⟩
 ·refine BH hp (bz (T.item X rfl rfl rfl hc i pins s3 σ3 H3 X.xe I3 (stat fr3) st3 go) fun r s4 ⟨u,hr,h4⟩=>?_)
  subst hr
  refine BH hp (bz h4 fun _ s5 ⟨x,H5,I5,r5,y5,st5,fr5⟩=>?_)
  have I5':=I5.pinned (stat fr5) (T.obj _ _ st5)
  refine BH hp (bz (hg _ s5 σ3 H5 x u _ I5' r5 (step x H5 y5)) fun _ s6 ⟨σ6,H6,I6,q6⟩=>?_)
  refine BH hp (bz (hb _ s6 σ6 H6 _ I6 q6) fun f s7 q7=>?_)
  have again:∀{σ7:St} {H7:Hp},Inv X (pins++gH fp s5.heap) σ7 H7 s7→N σ7 H7→∃m,m< n∧∃i σ' H',Inv X pins σ' H' s7∧tn i s7.heap∧(∀b∈fp,H' b=none)∧W i m σ' H':=fun {σ7 H7} I7 n7=>by
   obtain⟨m',hm,w7⟩:=hN σ7 H7 n7
   refine⟨m',hm,i+1,σ7,H7,I7.unpinned,T.keep _ _ _ st5 fun b hb o e=>(I7.pin (b,o) (A0 _ (A0 _ (dt hb e)))).1,fun b hb=>?_,w7⟩
   obtain⟨o,e,d⟩:=T.obj _ _ st5 b hb
   exact(I7.pin (b,o) (A0 _ (A0 _ (dt hb e)))).2.1
  cases f with
  | next=>obtain⟨σ7,H7,I7,n7⟩:=q7;exact again I7 n7
  | cont=>obtain⟨σ7,H7,I7,n7⟩:=q7;exact again I7 n7
  | brk=>obtain⟨σ7,H7,I7,q7⟩:=q7;exact⟨σ7,H7,I7.unpinned,q7⟩
  | ret v=>obtain⟨x7,σ7,H7,I7,r7,q7⟩:=q7;exact⟨x7,σ7,H7,I7.unpinned,r7,q7⟩
end
abbrev R2:=V→V→Hp→VK→Prop
def OpR (X:Cx) (f:zl→zl→Sem zl) (r:R2):Prop:=
 ∀ (pins : List (Addr × Obj)) (s : zq) (σ : St) (H : Hp) (x y : V) (v u : zl) (Q : VK), Inv X pins σ H s → RelV x v → RelV y u → r x y H Q →
  wpAny (model X.prog X.w) X.A (f v u) (EP X pins σ Q) X.xe s
def yg (X:Cx) (f:zl→Sem zl) (r:V→Hp→VK→Prop):Prop:=
 ∀ (pins : List (Addr × Obj)) (s : zq) (σ : St) (H : Hp) (x : V) (v : zl) (Q : VK), Inv X pins σ H s → RelV x v → r x H Q →
  wpAny (model X.prog X.w) X.A (f v) (EP X pins σ Q) X.xe s
def dh (X:Cx) (f:zl) (r:List V→Hp→VK→Prop):Prop:=
 ∀ (pins : List (Addr × Obj)) (s : zq) (σ : St) (H : Hp) (xs : List V) (us : List zl) (Q : VK), Inv X pins σ H s → Vals xs us → r xs H Q →
  wpAny (model X.prog X.w) X.A (call f us) (EP X pins σ Q) X.xe s
def cK (r:R2) (ta tb:TE):TE:=fun σ H Q=>ta σ H fun x H1=>tb σ H1 fun y H2=>r x y H2 Q
def eF (r:V→Hp→VK→Prop) (ta:TE):TE:=fun σ H Q=>ta σ H fun x H1=>r x H1 Q
def rI (C:Int→Int→Prop) (g:Int→Int→V):R2:=fun x y H Q=>∃i j,x=.int i∧y=.int j∧C i j∧Q (g i j) H
def dD (g:Int→Int→V):R2:=fun x y H Q=>∃i j,x=.int i∧y=.int j∧Q (g i j) H
def rU (g:Int→V):V→Hp→VK→Prop:=fun x H Q=>∃i,x=.int i∧Q (g i) H
section
variable {X:Cx} {a b c:Expr} {ta tb tc:TE} {pos:Pos}
theorem vt (ha:PE X a ta) (hb:PE X b tb) {pins:List (Addr×Obj)} {s:zq} {σ:St} {H:Hp} {R:V→V→Hp→Prop} (I:Inv X pins σ H s)
  (h:ta σ H fun x H1=>tb σ H1 fun y H2=>R x y H2) {Q:zl→zq→Prop} {f:zl→zl→Sem zl}
  (hf:∀v u s2 x y H2,Inv X pins σ H2 s2→RelV x v→RelV y u→R x y H2→wpAny (model X.prog X.w) X.A (f v u) Q X.xe s2):
  wpAny (model X.prog X.w) X.A (eval a X.env) (fun v s₁=>wpAny (model X.prog X.w) X.A (eval b X.env) (fun u s₂=>wpAny (model X.prog X.w) X.A (f v u) Q X.xe s₂) X.xe s₁) X.xe s:=by
 refine bz (ha pins s σ H _ I h) fun v s1 ⟨x,H1,I1,r1,q1⟩=>?_
 refine bz (hb pins s1 σ H1 _ I1 q1) fun u s2 ⟨y,H2,I2,r2,q2⟩=>?_
 exact hf v u s2 x y H2 I2 r1 r2 q2
theorem ai {op:GY} {r:R2} (ho:OpR X (binaryOp op) r) (ha:PE X a ta) (hb:PE X b tb):PE X (.BinOp a op b pos) (cK r ta tb):=by
 intro pins s σ H Q I h
 exact wpAny_BinOp (vt ha hb I h fun v u s2 x y H2 I2 rx ry q=>ho pins s2 σ H2 x y v u Q I2 rx ry q)
theorem gh {op:UnaryOp} {r:V→Hp→VK→Prop} (ho:yg X (unaryOp op) r) (ha:PE X a ta):PE X (.UnaryOp op a pos) (eF r ta):=by
 intro pins s σ H Q I h
 exact UnaryOp_ (bz (ha pins s σ H _ I h) fun v s1 ⟨x,H1,I1,r1,q1⟩=>ho pins s1 σ H1 x v Q I1 r1 q1)
theorem xn {f:zl→zl→Sem zl} {C:Int→Int→Prop} {g:Int→Int→Int}
  (rule:∀(i j:Int) (t u:Tok) (s:zq) (Q:zl→zq→Prop) (E:zl→zq→Prop),C i j→Q (.int (g i j) s.toks) {s with toks:=s.toks+1}→wpAny (model X.prog X.w) X.A (f (.int i t) (.int j u)) Q E s):
  OpR X f (rI C fun i j=>.int (g i j)):=by
 intro pins s σ H x y v u Q I rx ry h
 obtain⟨i,j,rfl,rfl,hc,q⟩:=h
 obtain⟨t,rfl⟩:=rx
 obtain⟨t',rfl⟩:=ry
 exact rule i j t t' s _ _ hc ⟨.int (g i j),H,I.tok _,⟨_,rfl⟩,q⟩
theorem wF {f:zl→zl→Sem zl} {g:Int→Int→Int}
  (rule:∀(i j:Int) (t u:Tok) (s:zq) (Q:zl→zq→Prop) (E:zl→zq→Prop),Q (.int (g i j) s.toks) {s with toks:=s.toks+1}→wpAny (model X.prog X.w) X.A (f (.int i t) (.int j u)) Q E s):
  OpR X f (dD fun i j=>.int (g i j)):=by
 intro pins s σ H x y v u Q I rx ry h
 obtain⟨i,j,rfl,rfl,q⟩:=h
 obtain⟨t,rfl⟩:=rx
 obtain⟨t',rfl⟩:=ry
 exact rule i j t t' s _ _ ⟨.int (g i j),H,I.tok _,⟨_,rfl⟩,q⟩
theorem t0 {f:zl→zl→Sem zl} {g:Int→Int→Bool}
  (rule:∀(i j:Int) (t u:Tok) (s:zq) (Q:zl→zq→Prop) (E:zl→zq→Prop),Q (.bool (g i j)) s→wpAny (model X.prog X.w) X.A (f (.int i t) (.int j u)) Q E s):
  OpR X f (dD fun i j=>.bl (g i j)):=by
 intro pins s σ H x y v u Q I rx ry h
 obtain⟨i,j,rfl,rfl,q⟩:=h
 obtain⟨t,rfl⟩:=rx
 obtain⟨t',rfl⟩:=ry
 exact rule i j t t' s _ _ ⟨.bl (g i j),H,I,rfl,q⟩
def wG (i j:Int):Prop:=0< j∧j< 1073741824
def wH (i j:Int):Prop:=0≤j∧j≤1000000∧i.natAbs< 2^64
def CMul (i j:Int):Prop:=(-(2^64)< i∧i< 2^64)∨(-(2^64)< j∧j< 2^64)
theorem CMul.ok {i j:Int} (h:CMul i j):IntMulOk i j:=by
 rcases h with⟨h1,h2⟩ | ⟨h1,h2⟩
 ·exact .of_left (Gv h1 h2)
 ·exact .of_right (Gv h1 h2)
theorem bn:OpR X (binaryOp .Add) (dD fun i j=>.int (i+j)):=wF fun _ _ _ _ _ _ _ q=>add_int q
theorem gJ:OpR X (binaryOp .Sub) (dD fun i j=>.int (i- j)):=wF fun _ _ _ _ _ _ _ q=>sub_int q
theorem eH:OpR X (binaryOp .Mult) (rI CMul fun i j=>.int (i*j)):=xn fun _ _ _ _ _ _ _ hc q=>mul_int q hc.ok
theorem aZ:OpR X (binaryOp .FloorDiv) (rI wG fun i j=>.int (i/ j)):=xn fun i j _ _ _ _ _ hc q=>by
 have h1:(0:Int)< j:=hc.1
 have h2:j< 1073741824:=hc.2
 exact floordiv_int (by omega) (by rw[Int.fdiv_eq_ediv_of_nonneg i (by omega)];exact q) (.inl (PyProof.noPylong_small (by omega)))
theorem aD:OpR X (binaryOp .Mod) (rI (fun _ j=>0< j) fun i j=>.int (i% j)):=xn fun i j _ _ _ _ _ hc q=>by
 have h1:(0:Int)< j:=hc
 exact mod_int' (by omega) (by rw[Int.fmod_eq_emod_of_nonneg i (by omega)];exact q)
theorem vw:OpR X (binaryOp .Pow) (rI wH fun i j=>.int (i^j.toNat)):=xn fun _ _ _ _ _ _ _ hc q=>pow_int_small hc.1 hc.2.1 hc.2.2 q
theorem yv {f:zl→Sem zl} {g:Int→Int}
  (rule:∀(i:Int) (t:Tok) (s:zq) (Q:zl→zq→Prop) (E:zl→zq→Prop),Q (.int (g i) s.toks) {s with toks:=s.toks+1}→wpAny (model X.prog X.w) X.A (f (.int i t)) Q E s):
  yg X f (rU fun i=>.int (g i)):=by
 intro pins s σ H x v Q I rx h
 obtain⟨i,rfl,q⟩:=h
 obtain⟨t,rfl⟩:=rx
 exact rule i t s _ _ ⟨.int (g i),H,I.tok _,⟨_,rfl⟩,q⟩
theorem eI:yg X (unaryOp .USub) (rU fun i=>.int (-i)):=yv fun _ _ _ _ _ q=>neg_int q
end
def cg:V→V→Bool
 | .non,.non=>true | .non,.int _=>true | .int _,.non=>true | .non,.bl _=>true | .bl _,.non=>true | .non,.str _=>true | .str _,.non=>true
 | .int _,.int _=>true | .bl _,.bl _=>true | .str _,.str _=>true | .byt _,.byt _=>true
 | .int _,.str _=>true | .str _,.int _=>true | .bl _,.str _=>true | .str _,.bl _=>true
 | _,_=>false
def eR:R2:=fun x y H Q=>cg x y=true∧Q (.bl (decide (x=y))) H
def eZ:R2:=fun x y H Q=>cg x y=true∧Q (.bl (!decide (x=y))) H
theorem ny {i j:Int} :decide (V.int i=V.int j)=(i == j):=by
 rw[BI]
 simp
theorem qq {i j:Bool} :decide (V.bl i=V.bl j)=(i == j):=by
 rw[BI]
 simp
theorem nz {i j:Str} :decide (V.str i=V.str j)=(i == j):=by
 rw[BI]
 simp
theorem nA {i j:Array UInt8} :decide (V.byt i=V.byt j)=(i.toList == j.toList):=by
 rw[BI]
 cases i
 cases j
 simp
section
variable {X:Cx} {a b c:Expr} {ta tb tc:TE} {pos:Pos}
theorem aN {pins:List (Addr×Obj)} {σ:St} {H:Hp} {s:zq} {Q:VK} {k k':Bool} (I:Inv X pins σ H s) (q:Q (.bl k) H) (e:k=k'):EP X pins σ Q (.bool k') s:=by
 subst e
 exact⟨.bl k,H,I,rfl,q⟩
theorem bT:OpR X (compareOp .Eq) eR:=by
 intro pins s σ H x y v u Q I rx ry h
 obtain⟨hs,q⟩:=h
 cases x with
 | non =>
  cases rx
  cases y with
  | non=>cases ry;exact PySem.EqNone.eq_none_none (aN I q (by simp))
  | bl j=>cases ry;exact PySem.EqNone.eq_none_bool (aN I q (by simp))
  | int j=>obtain⟨t',rfl⟩:=ry;exact PySem.EqNone.eq_none_int (aN I q (by simp))
  | str j=>obtain⟨t',rfl⟩:=ry;exact PySem.EqNone.eq_none_str (aN I q (by simp))
  | _=>exact absurd (show false=true from hs) zF
 | bl i =>
  cases rx
  cases y with
  | non=>cases ry;exact PySem.EqNone.eq_bool_none (aN I q (by simp))
  | bl j=>cases ry;exact eq_bool (aN I q qq)
  | str j=>obtain⟨t',rfl⟩:=ry;exact PySem.EqMixed.eq_bool_str (aN I q (by simp))
  | _=>exact absurd (show false=true from hs) zF
 | int i =>
  obtain⟨t,rfl⟩:=rx
  cases y with
  | non=>cases ry;exact PySem.EqNone.eq_int_none (aN I q (by simp))
  | int j=>obtain⟨t',rfl⟩:=ry;exact eq_int (aN I q ny)
  | str j=>obtain⟨t',rfl⟩:=ry;exact PySem.EqMixed.eq_int_str (aN I q (by simp))
  | _=>exact absurd (show false=true from hs) zF
 | str i =>
  obtain⟨t,rfl⟩:=rx
  cases y with
  | non=>cases ry;exact PySem.EqNone.eq_str_none (aN I q (by simp))
  | bl j=>cases ry;exact PySem.EqMixed.eq_str_bool (aN I q (by simp))
  | int j=>obtain⟨t',rfl⟩:=ry;exact PySem.EqMixed.eq_str_int (aN I q (by simp))
  | str j=>obtain⟨t',rfl⟩:=ry;exact eq_str (aN I q nz)
  | _=>exact absurd (show false=true from hs) zF
 | byt i =>
  obtain⟨t,rfl⟩:=rx
  cases y with
  | byt j=>obtain⟨t',rfl⟩:=ry;exact PySem.W.eq_bytes (aN I q nA)
  | _=>exact absurd (show false=true from hs) zF
 | _=>cases y <;> exact absurd (show false=true from hs) zF
theorem wI:OpR X (compareOp .NotEq) eZ:=by
 intro pins s σ H x y v u Q I rx ry h
 obtain⟨hs,q⟩:=h
 cases x with
 | non =>
  cases rx
  cases y with
  | non=>cases ry;exact PySem.EqNone.ne_none_none (aN I q (by simp))
  | bl j=>cases ry;exact PySem.EqNone.ne_none_bool (aN I q (by simp))
  | int j=>obtain⟨t',rfl⟩:=ry;exact PySem.EqNone.ne_none_int (aN I q (by simp))
  | str j=>obtain⟨t',rfl⟩:=ry;exact PySem.EqNone.ne_none_str (aN I q (by simp))
  | _=>exact absurd (show false=true from hs) zF
 | bl i =>
  cases rx
  cases y with
  | non=>cases ry;exact PySem.EqNone.ne_bool_none (aN I q (by simp))
  | bl j=>cases ry;exact ne_bool (aN I q (congrArg not qq))
  | str j=>obtain⟨t',rfl⟩:=ry;exact PySem.EqMixed.ne_bool_str (aN I q (by simp))
  | _=>exact absurd (show false=true from hs) zF
 | int i =>
  obtain⟨t,rfl⟩:=rx
  cases y with
  | non=>cases ry;exact PySem.EqNone.ne_int_none (aN I q (by simp))
  | int j=>obtain⟨t',rfl⟩:=ry;exact ne_int (aN I q (congrArg not ny))
  | str j=>obtain⟨t',rfl⟩:=ry;exact PySem.EqMixed.ne_int_str (aN I q (by simp))
  | _=>exact absurd (show false=true from hs) zF
 | str i =>
  obtain⟨t,rfl⟩:=rx
  cases y with
  | non=>cases ry;exact PySem.EqNone.ne_str_none (aN I q (by simp))
  | bl j=>cases ry;exact PySem.EqMixed.ne_str_bool (aN I q (by simp))
  | int j=>obtain⟨t',rfl⟩:=ry;exact PySem.EqMixed.ne_str_int (aN I q (by simp))
  | str j=>obtain⟨t',rfl⟩:=ry;exact ne_str (aN I q (congrArg not nz))
  | _=>exact absurd (show false=true from hs) zF
 | byt i =>
  obtain⟨t,rfl⟩:=rx
  cases y with
  | byt j=>obtain⟨t',rfl⟩:=ry;exact PySem.W.ne_bytes (aN I q (congrArg not nA))
  | _=>exact absurd (show false=true from hs) zF
 | _=>cases y <;> exact absurd (show false=true from hs) zF
theorem jq:OpR X (compareOp .Lt) (dD fun i j=>.bl (decide (i< j))):=t0 fun _ _ _ _ _ _ _ q=>lt_int q
theorem qr:OpR X (compareOp .LtE) (dD fun i j=>.bl (decide (i≤j))):=t0 fun _ _ _ _ _ _ _ q=>le_int q
theorem nB:OpR X (compareOp .Gt) (dD fun i j=>.bl (decide (j< i))):=t0 fun _ _ _ _ _ _ _ q=>gt_int q
theorem nE:OpR X (compareOp .GtE) (dD fun i j=>.bl (decide (j≤i))):=t0 fun _ _ _ _ _ _ _ q=>ge_int q
theorem op_isN:OpR X (compareOp .Is) (fun x y H Q=>y=.non∧Q (.bl (decide (x=.non))) H):=by
 intro pins s σ H x y v u Q I rx ry h
 obtain⟨rfl,q⟩:=h
 cases ry
 refine is_none_gen (aN I q ?_)
 cases x <;> first
  | (cases rx;rfl)
  | (obtain⟨t,rfl⟩:=rx;rfl)
theorem OpR.or {f:zl→zl→Sem zl} {r r':R2} (h:OpR X f r) (h':OpR X f r'):OpR X f (fun x y H Q=>r x y H Q∨r' x y H Q):=by
 intro pins s σ H x y v u Q I rx ry q
 rcases q with q | q
 ·exact h pins s σ H x y v u Q I rx ry q
 ·exact h' pins s σ H x y v u Q I rx ry q
theorem ax (b:Expr) {op:CmpOp} (h:op≠.In:=by decide) (h2:op≠.NotIn:=by decide):behindInMarks op b=false:=by
 have e1:(op == CmpOp.In)=false:=by cases op <;> first | rfl | exact absurd rfl h
 have e2:(op == CmpOp.NotIn)=false:=by cases op <;> first | rfl | exact absurd rfl h2
 cases b <;> simp[behindInMarks,e1,e2]
theorem cn {op:CmpOp} {r:R2} (ho:OpR X (compareOp op) r) (ha:PE X a ta) (hb:PE X b tb) (hm:behindInMarks op b=false):PE X (.Compare a [op] [b] pos) (cK r ta tb):=by
 intro pins s σ H Q I h
 exact wpAny_Compare1 (vt ha hb I h fun v u s2 x y H2 I2 rx ry q=>ho pins s2 σ H2 x y v u Q I2 rx ry q) hm
def bg (t:TE):TT:=fun σ H Q=>t σ H fun x H'=>∃k,x=.bl k∧Q k H'
theorem ay {op:CmpOp} {r:R2} (ho:OpR X (compareOp op) r) (ha:PE X a ta) (hb:PE X b tb) (hm:behindInMarks op b=false):PT X (.Compare a [op] [b] pos) (bg (cK r ta tb)):=by
 intro pins s σ H Q I h
 refine wpAny_isTrue_Compare1 (bz (ha pins s σ H _ I h) fun v s1 ⟨x,H1,I1,r1,q1⟩=>bz (hb pins s1 σ H1 _ I1 q1) fun u s2 ⟨y,H2,I2,r2,q2⟩=>
  bz (ho pins s2 σ H2 x y v u _ I2 r1 r2 q2) fun c s3 ⟨z,H3,I3,r3,k,e,q3⟩=>?_) hm
 subst e
 cases r3
 exact BK ⟨H3,I3,q3⟩
theorem ix:(sizeLine:Nat)< 2^63:=by rw[AQ];decide
theorem cW:OpR X (binaryOp .Add) (fun x y H Q=>∃i j,x=.str i∧y=.str j∧i.length+j.length≤sizeLine∧Q (.str (i++j)) H):=by
 intro pins s σ H x y v u Q I rx ry h
 obtain⟨i,j,rfl,rfl,hz,q⟩:=h
 obtain⟨t,rfl⟩:=rx
 obtain⟨t',rfl⟩:=ry
 exact add_str (fun t' tk=>⟨.str (i++j),H,I.tok _,⟨_,rfl⟩,q⟩) hz
theorem eS {x:V} {us:List zl} (r:Vals [x] us):∃u,us=[u]∧RelV x u:=by
 cases r with
 | cons r1 r2=>cases r2;exact⟨_,rfl,r1⟩
theorem uR {x y:V} {us:List zl} (r:Vals [x,y] us):∃u w',us=[u,w']∧RelV x u∧RelV y w':=by
 cases r with
 | cons r1 r2 =>
  cases r2 with
  | cons r3 r4=>cases r4;exact⟨_,_,rfl,r1,r3⟩
theorem kW:dh X (.builtin "abs") (fun xs H Q=>∃i,xs=[.int i]∧Q (.int (if i< 0 then -i else i)) H):=by
 intro pins s σ H xs us Q I r h
 obtain⟨i,rfl,q⟩:=h
 obtain⟨u,rfl,t,rfl⟩:=eS r
 exact call_abs_int fun u tk=>⟨.int (if i< 0 then -i else i),H,I.tok _,⟨_,rfl⟩,q⟩
theorem oR:dh X (.type "int") (fun xs H Q=>(∃i,xs=[.int i]∧Q (.int i) H)∨∃k,xs=[.bl k]∧Q (.int (if k then 1 else 0)) H):=by
 intro pins s σ H xs us Q I r h
 rcases h with⟨i,rfl,q⟩ | ⟨k,rfl,q⟩
 ·obtain⟨u,rfl,t,rfl⟩:=eS r
  exact call_int_int ⟨.int i,H,I,⟨_,rfl⟩,q⟩
 ·obtain⟨u,rfl,r1⟩:=eS r
  cases r1
  exact call_int_bool ⟨.int (if k then 1 else 0),H,I.tok _,⟨_,rfl⟩,q⟩
def oS (K:PySem.W.Frag) (x:V) (H:Hp) (n:Nat):Prop:=
 match x with
 | .str y=>y.length≤sizeLine∧n=y.length
 | .byt y=>y.size≤sizeLine∧n=y.size
 | .ref p=>(∃xs,SqL K H p xs∧n=xs.length)∨∃xs,SqT K H p xs∧n=xs.length
 | _=>False
theorem qt:dh X (.builtin "len") (fun xs H Q=>∃x n,xs=[x]∧oS X.K x H n∧Q (.int n) H):=by
 intro pins s σ H xs us Q I r h
 obtain⟨x,n,rfl,e,q⟩:=h
 obtain⟨u,rfl,rx⟩:=eS r
 have hl:=ix
 have hs:sizeLine=16777216:=AQ
 cases x with
 | str y =>
  obtain⟨t,rfl⟩:=rx
  obtain⟨hy,e'⟩:y.length≤sizeLine∧n=y.length:=e
  subst e'
  exact len_str (by omega) ⟨.int _,H,I.tok _,⟨_,rfl⟩,q⟩
 | byt y =>
  obtain⟨t,rfl⟩:=rx
  obtain⟨hy,e'⟩:y.size≤sizeLine∧n=y.size:=e
  subst e'
  exact PySem.W.len_bytes (by omega) ⟨.int _,H,I.tok _,⟨_,rfl⟩,q⟩
 | ref p =>
  cases rx
  have e':(∃xs,SqL X.K H p xs∧n=xs.length)∨∃xs,SqT X.K H p xs∧n=xs.length:=e
  rcases e' with⟨xs,hx,e'⟩ | ⟨xs,hx,e'⟩
  ·subst e'
   obtain⟨its,r',pl,hz⟩:=I.list hx
   have hlen:=r'.length
   exact Calls.call_len_list pl.isList (by simp only[zK];omega) ⟨.int xs.length,H,I.tok _,⟨_,by simp only[zK];rw[hlen]⟩,q⟩
  ·subst e'
   obtain⟨its,r',pl,hz⟩:=I.tuple hx
   have hlen:=r'.length
   exact len_tuple pl (by simp only[zK];omega) ⟨.int xs.length,H,I.tok _,⟨_,by simp only[zK];rw[hlen]⟩,q⟩
 | _=>exact(show False from e).elim
end
structure ObjM (h:Heap) (x dx C:Addr) (mA:Str→Option zl):Prop where
 obj:h.get? x=some (PySem.W.instObj C dx)
 ns:h.Ns1 dx mA
 ne:dx≠x
theorem oT {h:Heap} {dx:Addr} {mA:Str→Option zl} (n:h.Ns1 dx mA):∃od,h.get? dx=some od∧∀name,PySem.W.lookIn name od=some (mA name):=by
 obtain⟨o,es,ep,ho,hd,hk,_,hm⟩:=n
 refine⟨o,ho,fun name=>?_⟩
 have e:=hm name
 unfold nsFind findBy at e
 rw[←Array.find?_toList]at e
 unfold PySem.W.lookIn
 rw[hd]
 dsimp only
 split
 ·rename_i y q
  rw[q]at e
  exact congrArg some e
 ·rename_i q
  rw[q]at e
  have a:es.toList.any (·.refKey)=false:=by
   rw[List.any_eq_false]
   intro y hy
   obtain⟨z,t,hkey⟩:=hk y (Array.mem_toList_iff.mp hy)
   simp[DictEntry.refKey,hkey]
  have a':¬es.toList.any (·.refKey)=true:=by rw[a];exact zF
  rw[if_neg a']
  exact congrArg some e
theorem ObjM.look {h:Heap} {x dx C:Addr} {mA:Str→Option zl} (I:ObjM h x dx C mA):∃od,PySem.W.InstAt h x (PySem.W.instObj C dx) C (some od)∧∀name,PySem.W.lookIn name od=some (mA name):=
 let ⟨od,ho,hl⟩:=oT I.ns
 ⟨od,⟨I.obj,rfl,rfl,ho⟩,hl⟩
theorem RelO.some_of {v:V} {o:Option zl} (r:RelO (some v) o):∃u,o=some u∧RelV v u:=by
 cases o with
 | none=>exact(show False from r).elim
 | some u=>exact⟨u,rfl,r⟩
section
variable {P:zL} {w:zQ} {H H':Hp} {h h':Heap} {a C dx:Addr} {fs fs':List (Str×V)}
theorem t9 (hok:HOk P w H h) (e:H a=some (.ins C dx fs)):∃mA,ObjM h a dx C mA∧(∀f,RelO (fs.lookup f) (mA f))∧PySem.Within mA (fs.map (·.1))∧fs.length≤1000∧H dx=some (.own a):=by
 obtain⟨d,z,ne,ob,mA,n,r,q⟩:=(show ObjOk P w H h a (.ins C dx fs)from hok a _ e)
 exact⟨mA,⟨ob,n,ne⟩,r,q,z,d⟩
end
structure Cls (K:PySem.W.Frag) (C:Addr):Prop where
 pg:PySem.W.plainGet K C Str.empty=true
 hd:PySem.W.hasDictIn K C=true
 po:PySem.W.plainOver K C=true
 sa:PySem.W.findIn K (.ref C) "__setattr__" =some (some (.builtin "object.__setattr__"))
theorem Cls.get {K:PySem.W.Frag} {C:Addr} (c:Cls K C) (f:Str):PySem.W.plainGet K C f=true:=c.pg
section
variable {X:Cx} {pins:List (Addr×Obj)} {σ:St} {H:Hp} {s:zq} {A:Ai} {E:zl→zq→Prop} {Q:zl→zq→Prop} {c:zl} {b:Bool}
inductive TyOf (K:PySem.W.Frag) (H:Hp):V→zl→Prop where
 | non:TyOf K H .non (.type "NoneType")
 | bl (x:Bool):TyOf K H (.bl x) (.type "bool")
 | int (i:Int):TyOf K H (.int i) (.type "int")
 | str (x:Str):TyOf K H (.str x) (.type "str")
 | flt (x:UInt64):TyOf K H (.flt x) (.type "float")
 | lst {a:Addr} {xs:List V} (e:H a=some (.lst xs)):TyOf K H (.ref a) (.type "list")
 | frz {a:Addr} {o:Obj} {xs:List V} (e:H a=some (.frz o (.lst xs))):TyOf K H (.ref a) (.type "list")
 | tup {a:Addr} {xs:List V} (e:SqT K H a xs):TyOf K H (.ref a) (.type "tuple")
 | dK {a:Addr} {kvs:List (Key×V)} (e:H a=some (.dK kvs)):TyOf K H (.ref a) (.type "dict")
 | dT {a:Addr} {kvs:List (List Key×V)} (e:H a=some (.dT kvs)):TyOf K H (.ref a) (.type "dict")
 | ins {a C dx:Addr} {fs:List (Str×V)} (e:H a=some (.ins C dx fs)) (cl:Cls K C) (ha:PySem.W.findIn K (.ref C) "__class__" =some (some (.builtin "object.__class__")))
   (hn:PySem.W.specialIn K (.builtin "object.__class__") "__get__" =some (some (.builtin "getset_descriptor.__get__"))) (htk:PySem.W.takesIn K (.builtin "object.__class__")=some true)
   (hm:PySem.W.mroIn K C (.type "object")=some true):TyOf K H (.ref a) (.ref C)
theorem oU {x:V} {u t:zl} (I:Inv X pins σ H s) (rx:RelV x u) (ty:TyOf X.K H x t) (e:PySem.W.kitOne X.K t c=some b) (h:∀tk,Q (.bool b) {s with toks:=tk}):
  wpAny (model X.prog X.w) A (call (.builtin "isinstance") [u,c]) Q E s:=by
 cases ty with
 | non=>cases (show u=Aw from rx);exact PySem.W.kia_one PySem.W.kitx_none I.kIn BO e (fun z=>nomatch z) h
 | bl y=>cases (show u=Ge y from rx);exact PySem.W.kia_one PySem.W.kitx_bool I.kIn BO e (fun z=>nomatch z) h
 | int i=>obtain⟨t,q⟩:=(show ∃t,u=Ee i t from rx);cases q;exact PySem.W.kia_one PySem.W.kitx_int I.kIn BO e (fun z=>nomatch z) h
 | str y=>obtain⟨t,q⟩:=(show ∃t,u=FJ y t from rx);cases q;exact PySem.W.kia_one PySem.W.kitx_str I.kIn BO e (fun z=>nomatch z) h
 | flt y=>obtain⟨t,q⟩:=(show ∃t,u=GX y t from rx);cases q;exact PySem.W.kia_one PySem.W.kitx_float I.kIn BO e (fun z=>nomatch z) h
 | @lst a xs ea =>
  cases (show u=As a from rx)
  obtain⟨_,_,n,_,h1⟩:=(show ObjOk X.prog X.w H s.heap a (.lst xs)from I.hok a _ ea)
  exact PySem.W.kia_one PySem.W.kitx_list I.kIn ⟨_,h1,rfl⟩ e (fun z=>nomatch z) h
 | @frz a ob xs ea =>
  cases (show u=As a from rx)
  obtain⟨_,_,_,n,_,h1⟩:=(show ObjOk X.prog X.w H s.heap a (.frz ob (.lst xs))from I.hok a _ ea)
  exact PySem.W.kia_one PySem.W.kitx_list I.kIn ⟨_,h1,rfl⟩ e (fun z=>nomatch z) h
 | @tup a xs ea =>
  cases (show u=As a from rx)
  obtain⟨_,_,p,_⟩:=I.tuple ea
  obtain⟨o,h1,h2,_⟩:=p
  exact PySem.W.kia_one PySem.W.kitx_tuple I.kIn ⟨o,h1,h2⟩ e (fun z=>nomatch z) h
 | @dK a kvs ea =>
  cases (show u=As a from rx)
  obtain⟨_,_,vs,_,p⟩:=(show ObjOk X.prog X.w H s.heap a (.dK kvs)from I.hok a _ ea)
  obtain⟨o,es,ep,h1,h2,_⟩:=p
  exact PySem.W.kia_one PySem.W.kitx_dict I.kIn ⟨o,h1,h2.1⟩ e (fun z=>nomatch z) h
 | @dT a kvs ea =>
  cases (show u=As a from rx)
  obtain⟨_,_,xs,_,o,es,ep,h1,h2,_⟩:=(show ObjOk X.prog X.w H s.heap a (.dT kvs)from I.hok a _ ea)
  exact PySem.W.kia_one PySem.W.kitx_dict I.kIn ⟨o,h1,h2.1⟩ e (fun z=>nomatch z) h
 | @ins a C dx fs ea cl ha hn htk hm =>
  cases (show u=As a from rx)
  obtain⟨mA,O,_⟩:=t9 I.hok ea
  obtain⟨od,J,_⟩:=O.look
  exact PySem.W.kia_one (PySem.W.kitx_own (cl.get _) cl.hd ha hn htk hm) I.kIn J e (fun z=>nomatch z) h
end
structure Room (k:Nat) (A:Ai):Prop where
 hd:A.handled=none
 dp:A.depth+3*k+5< recursionLimit
 un:A.units+16*k+200< cLine
theorem Room.mono {j k:Nat} {A:Ai} (r:Room k A) (h:j≤k):Room j A:=⟨r.hd,by have:=r.dp;omega,by have:=r.un;omega⟩
theorem Room.deeper {k:Nat} {A:Ai} (r:Room (k+1) A) (env:Env):Room k (A.deeper env):=
 ⟨r.hd,by have:=r.dp;show A.depth+1+3*k+5< _;omega,by have:=r.un;show A.units+3+16*k+200< _;omega⟩
theorem Room.depth {k:Nat} {A:Ai} (r:Room k A):A.depth< recursionLimit:=by have:=r.dp;omega
theorem Room.units0 {k:Nat} {A:Ai} (r:Room k A):A.units< cLine:=by have:=r.un;omega
def aU:TA:=fun _ H Q=>Q [] H
def am (ta:TE) (tr:TA):TA:=fun σ H Q=>ta σ H fun x H1=>tr σ H1 fun xs H2=>Q (x::xs) H2
section
variable {X:Cx} {e:Expr} {es:List Expr} {te:TE} {t:TA} {pos:Pos}
theorem ae:PA X [] aU:=fun _ _ _ _ H Q I h=>Fu ⟨[],H,I,.nil,h⟩
theorem a5 (ha:PE X e te) (hr:PA X es t) (hs:starEach (e::es) X.env=(false,eval e X.env)::starEach es X.env:=by rfl):PA X (e::es) (am te t):=by
 intro pos pins s σ H Q I h
 rw[hs]
 show wpAny _ _ (spliced ((false,eval e X.env)::backTo pos (starEach es X.env))) _ _ s
 refine Fg (bz (ha pins s σ H _ I h) fun u s1 ⟨x,H1,I1,r1,q1⟩=>?_)
 exact bz (hr pos pins s1 σ H1 _ I1 q1) fun us s2 ⟨xs,H2,I2,r2,q2⟩=>⟨x::xs,H2,I2,.cons r1 r2,q2⟩
def bU (t:TA):TE:=fun σ H Q=>t σ H fun xs H1=>xs.length≤sizeLine∧∀p,H1 p=none→Q (.ref p) (cA H1 p (.tup xs))
def bO (t:TA):TE:=fun σ H Q=>t σ H fun xs H1=>xs.length≤sizeLine∧∀p,H1 p=none→Q (.ref p) (cA H1 p (.lst xs))
theorem cE {x1} (h:PA X es t):PE X (.Tuple es x1 pos) (bU t):=by
 intro pins s σ H Q I hq
 refine wpAny_Tuple_spliced (bz (h pos pins s σ H _ I hq) fun us s1 ⟨xs,H1,I1,r,z,q⟩=>⟨by rw[←r.length];exact z,?_⟩)
 have hf:H1 s1.heap.objs.size=none:=I1.hok.fresh (zw _)
 refine⟨.ref s1.heap.objs.size,cA H1 s1.heap.objs.size (.tup xs),I1.laid (t':=s1.toks) (fun b u e=>zr _ e) (zw _) ?_,rfl,q _ hf⟩
 exact⟨z,us,r,⟨_,zz _ rfl,⟨rfl,rfl⟩,_,rfl⟩⟩
theorem bP (h:PA X es t):PE X (.List es pos) (bO t):=by
 intro pins s σ H Q I hq
 refine wpAny_List_spliced (bz (h pos pins s σ H _ I hq) fun us s1 ⟨xs,H1,I1,r,z,q⟩=>⟨by rw[←r.length];exact z,?_⟩)
 have hf:H1 s1.heap.objs.size=none:=I1.hok.fresh (zw _)
 refine⟨.ref s1.heap.objs.size,cA H1 s1.heap.objs.size (.lst xs),I1.laid (t':=s1.toks) (fun b u e=>zr _ e) (zw _) ?_,rfl,q _ hf⟩
 exact⟨z,us,0,r,zz _ rfl⟩
end
abbrev Sp:=List V→Hp→VK→XK→Prop
abbrev CXT:=List Env→Hp→zq→XK→zl→zq→Prop
structure Env0 (P:zL) (w:zQ) (K:PySem.W.Frag) (mg:Str→Option zl) (base:Heap) (A:Ai) (outer:List Env) (s:zq) (H:Hp):Prop where
 frames:A.frames=some outer
 mod:Mod K mg base
 bs:∀b o,base.get? b=some o→s.heap.get? b=some o∧H b=none
 bsz:base.objs.size≤s.heap.objs.size
 funs:s.heap.FunFrames base outer
 frf:∀b∈frs outer,H b=none
 hok:HOk P w H s.heap
 bare:DS s.gens
def CE (outer:List Env) (P:zL) (w:zQ) (H:Hp) (s:zq) (Q:VK) (u:zl) (s':zq):Prop:=
 ∃v H',s'.os=s.os∧DS s'.gens∧Un (frs outer) [] H H' s.heap s'.heap∧HOk P w H' s'.heap∧RelV v u∧Q v H'
def CR (CX:CXT) (outer:List Env) (P:zL) (w:zQ) (H:Hp) (s:zq) (Q:VK) (E:XK) (r:Gh) (s':zq):Prop:=
 match r with
 | .ok (.ret u)=>CE outer P w H s Q u s'
 | .ok _=>False
 | .error e=>CX outer H s E e s'
structure FnOk (P:zL) (w:zQ) (K:PySem.W.Frag) (mg:Str→Option zl) (base:Heap) (CX:CXT) (k:Nat) (f:Addr) (fd:zY) (ps:List Str) (sp:Sp):Prop where
 len:∀vs H Q E,sp vs H Q E→vs.length=ps.length
 run:∀(A:Ai) (outer:List Env) (s:zq) (H:Hp) (args:Args) (us:List zl) (vs:List V) (Q:VK) (E:XK),Room k A→Env0 P w K mg base A outer s H→Fv s fd args (ps.zip us)→Vals vs us→sp vs H Q E→
  codeAny (model P w) A (.call (.ref f) args) (CR CX outer P w H s Q E) s
theorem FnOk.imp {P:zL} {w:zQ} {K:PySem.W.Frag} {mg:Str→Option zl} {base:Heap} {CX:CXT} {k:Nat} {f:Addr} {fd:zY} {ps:List Str} {sp sp':Sp} (F:FnOk P w K mg base CX k f fd ps sp)
  (h:∀vs H Q E,sp' vs H Q E→sp vs H Q E):FnOk P w K mg base CX k f fd ps sp':=
 ⟨fun vs H Q E q=>F.len vs H Q E (h _ _ _ _ q),fun A outer s H args us vs Q E hr he hb hv hs=>F.run A outer s H args us vs Q E hr he hb hv (h _ _ _ _ hs)⟩
section
variable {X:Cx} {pins:List (Addr×Obj)} {σ:St} {H:Hp} {s s':zq}
theorem Inv.env0 (I:Inv X pins σ H s):Env0 X.prog X.w X.K X.mg X.base X.A X.stack s H:=
 ⟨I.ok.frames,I.ok.mod,I.bs,B9 I.ok.bsz I.sz,I.stack,I.stkFree,I.hok,I.bare⟩
theorem Inv.after {Q:VK} {u:zl} (I:Inv X pins σ H s) (h:CE X.stack X.prog X.w H s Q u s'):EP X pins σ Q u s':=by
 obtain⟨v,H',os,bare,un,hok,r,q⟩:=h
 obtain⟨hh,g,d,t,os'⟩:=s'
 obtain rfl:os'=s.os:=os
 exact⟨v,H',I.call (h':=hh) (g':=g) (d':=d) (t':=t) (ch:=[]) un hok bare (fun b z=>absurd z (by simp)),r,q⟩
end
def aS (sp:Sp) (dvs:List V) (E:XK) (t:TA):TE:=fun σ H Q=>t σ H fun vs H1=>sp (vs++dvs) H1 Q E
def Binds (K:PySem.W.Frag) (fd:zY) (ps:List Str) (ds:List zl):Prop:=
 ∀(s:zq) (us:List zl),K.In s.heap→(us++ds).length=ps.length→Fv s fd ⟨us,[]⟩ (ps.zip (us++ds))
theorem Binds.all {K:PySem.W.Frag} {fd:zY} {ps:List Str} (h:∀us:List zl,us.length=ps.length→bindArgs fd ⟨us,[]⟩=pure (ps.zip us)):Binds K fd ps []:=fun s us _ hl=>by
 rw[Ba]at hl ⊢
 exact .of_eq (h us hl)
def mw (CX:CXT) (X:Cx) (E:XK):Prop:=∀(pins:List (Addr×Obj)) (σ:St) (H:Hp) (s:zq) (e:zl) (s':zq),Inv X pins σ H s→CX X.stack H s E e s'→X.xe e s'
section
variable {X:Cx} {CX:CXT} {k:Nat} {f C:Addr} {fd:zY} {ps:List Str} {sp:Sp} {dvs:List V} {ds:List zl} {E:XK} {x m:Str} {p pos apos:Pos} {e o:Expr} {es:List Expr} {ta:TE} {t:TA}
theorem vz {pins:List (Addr×Obj)} {σ:St} {H:Hp} {s:zq} {Q:VK} {us:List zl} {vs:List V} (F:FnOk X.prog X.w X.K X.mg X.base CX k f fd ps sp) (hr:Room k X.A) (hb:Binds X.K fd ps ds) (hd:Vals dvs ds) (hx:mw CX X E)
  (I:Inv X pins σ H s) (r:Vals vs us) (h:sp (vs++dvs) H Q E):wpAny (model X.prog X.w) X.A (call (.ref f) us) (EP X pins σ Q) X.xe s:=by
 have r2:Vals (vs++dvs) (us++ds):=r.append hd
 have hl:(us++ds).length=ps.length:=by rw[←r2.length];exact F.len _ _ _ _ h
 refine wpAny_call (Dz (F.run X.A X.stack s H ⟨us,[]⟩ (us++ds) (vs++dvs) Q E hr I.env0 (hb s us I.kIn hl) r2 h) fun r s' hq=>?_)
 cases r with
 | error e=>exact hx pins σ H s e s' I hq
 | ok fl =>
  cases fl with
  | ret u=>exact I.after hq
  | next=>exact C9 hq
  | brk=>exact C9 hq
  | cont=>exact C9 hq
theorem tj (F:FnOk X.prog X.w X.K X.mg X.base CX k f fd ps sp) (hr:Room k X.A) (hg:Gl X x) (hm:X.mg x=some (.ref f)) (hk:PySem.W.keepIn X.K (.ref f)=true) (hb:Binds X.K fd ps ds) (hd:Vals dvs ds) (hx:mw CX X E)
  (ha:PA X (e::es) t) (hdb:(x == ("__debug__" :Str))=false:=by decide) (he:starEach (e::es) X.env=(false,eval e X.env)::starEach es X.env:=by rfl) (hpl:(backTo pos (starEach es X.env)).any (·.1)=false:=by rfl):
  PE X (.Call (.Name x p) (e::es) [] pos) (aS sp dvs E t):=by
 intro pins s σ H Q I h
 refine DE (nw I hg hm ?_ hdb)
 refine PySem.W.callWith_K (h₀:=X.base) I.ok.mod.kin hk (bz (ha pos pins s σ H _ I h) fun us s1 ⟨vs,H1,I1,r,q⟩=>⟨I1.kIn,?_⟩) he hpl
 exact vz F hr hb hd hx I1 r q
end
structure FnScope (N P:List Str) (sc:Ce):Prop where
 kind:sc.kind=.function
 co:sc.isCoroutine=false
 gen:sc.isGenerator=false
 nd:N.Nodup
 pre:N.take P.length=P
 par:∀x∈P,sc.names.lookup x=some .local∨sc.names.lookup x=some .cell
 nofree:∀y∈sc.names,y.2≠.free
theorem jr {kindOf:Str→Option BY} {x:Str} :∀{binds:List (Str×zl)} {m:Str→Option zl},(∀v,(x,v)∉binds)→bindL kindOf binds m x=m x
 | [],_,_=>rfl
 | (n, v) :: r, m, h => by
  unfold bindL
  rw[jr fun w hw=>h w (zR _ hw)]
  split
  ·have:x≠n:=by rintro rfl;exact h v zP
   simp[this]
  ·rfl
theorem js {kindOf:Str→Option BY} {x:Str} :∀{binds:List (Str×zl)} {m:Str→Option zl},(∀v,(x,v)∉binds)→bindC kindOf binds m x=m x
 | [],_,_=>rfl
 | (n, v) :: r, m, h => by
  unfold bindC
  rw[js fun w hw=>h w (zR _ hw)]
  split
  ·rfl
  ·have:x≠n:=by rintro rfl;exact h v zP
   simp[this]
theorem jt {kindOf:Str→Option BY} {x:Str} {v:zl} :∀{P:List Str} {vs:List zl} {i:Nat} {m:Str→Option zl},P.Nodup→P[i]? =some x→vs[i]? =some v→kindOf x=some .local→
  bindL kindOf (P.zip vs) m x=some v
 | [],_,_,_,_,h,_,_=>by simp at h
 | _::_,[],_,_,_,_,h,_=>by simp at h
 | p :: P, w :: vs, 0, m, nd, h1, h2, hk => by
  simp at h1 h2;subst h1;subst h2
  show bindL kindOf ((p,w)::P.zip vs) m p=_
  unfold bindL
  rw[jr fun v hv=>(Bo.mp nd).1 (CC hv).1,if_pos hk]
  simp
 | p :: P, w :: vs, i + 1, m, nd, h1, h2, hk => by
  show bindL kindOf ((p,w)::P.zip vs) m x=_
  unfold bindL
  exact jt (i:=i) (Bo.mp nd).2 (by simpa using h1) (by simpa using h2) hk
theorem ju {kindOf:Str→Option BY} {x:Str} {v:zl} :∀{P:List Str} {vs:List zl} {i:Nat} {m:Str→Option zl},P.Nodup→P[i]? =some x→vs[i]? =some v→kindOf x≠some .local→
  bindC kindOf (P.zip vs) m x=some v
 | [],_,_,_,_,h,_,_=>by simp at h
 | _::_,[],_,_,_,_,h,_=>by simp at h
 | p :: P, w :: vs, 0, m, nd, h1, h2, hk => by
  simp at h1 h2;subst h1;subst h2
  show bindC kindOf ((p,w)::P.zip vs) m p=_
  unfold bindC
  rw[js fun v hv=>(Bo.mp nd).1 (CC hv).1,if_neg hk]
  simp
 | p :: P, w :: vs, i + 1, m, nd, h1, h2, hk => by
  show bindC kindOf ((p,w)::P.zip vs) m x=_
  unfold bindC
  exact ju (i:=i) (Bo.mp nd).2 (by simpa using h1) (by simpa using h2) hk
def start (N:List Str) (vs:List V):St:=vs.map some++Bt (N.length- vs.length) none
def oV (CX:CXT) (P:zL) (w:zQ) (K:PySem.W.Frag) (mg:Str→Option zl) (base:Heap) (N:List Str) (qual:Str) (scope:Ce) (f:Addr) (cd:zl) (A:Ai) (outer:List Env) (s:zq) (H:Hp) (E:XK):Cx where
 prog:=P
 w:=w
 K:=K
 mg:=mg
 base:=base
 A:=A.deeper (envOfC qual scope s.heap.objs.size f cd)
 N:=N
 s₀:=s
 H₀:=H
 env:=envOfC qual scope s.heap.objs.size f cd
 outer:=outer
 stack:=envOfC qual scope s.heap.objs.size f cd::outer
 ex:=[]
 calm:=true
 fn:=fun _=>true
 pn:=[]
 xe:=fun e s'=>wpAny (model P w) (A.deeper (envOfC qual scope s.heap.objs.size f cd)) (leaving (envOfC qual scope s.heap.objs.size f cd) e) (fun _ s''=>CX outer H s E e s'') (fun e' s''=>CX outer H s E e' s'') s'
theorem kX {sc:Ce} {n:Nat} {x:Str} (h:sc.names.lookup x=some .cell):∃c,(cellsFrom n sc.names []).lookup x=some c:=by
 have q:=PySem.W.cellsFrom_some sc.names n [] (.inl h)
 exact E5.mp q
theorem oW {CX:CXT} {P:zL} {w:zQ} {K:PySem.W.Frag} {mg:Str→Option zl} {base:Heap} {N ps:List Str} {qual:Str} {scope:Ce} {f:Addr} {cd:zl} {A:Ai} {outer:List Env} {s s1:zq} {H:Hp} {E:XK} {us:List zl} {vs:List V}
  (S:FnScope N ps scope) (hd:A.handled=none) (e0:Env0 P w K mg base A outer s H) (hl:vs.length=ps.length) (r:Vals vs us)
  (x:InCallC s s.heap.objs.size (bindL (envOfC qual scope s.heap.objs.size f cd).kindOf (ps.zip us) fun _=>none) (cellsFrom (s.heap.objs.size+1) scope.names []) (bindC (envOfC qual scope s.heap.objs.size f cd).kindOf (ps.zip us) fun _=>none) s1):
  Inv (oV CX P w K mg base N qual scope f cd A outer s H E) [] (start N vs) H s1:=by
 have hpl:ps.length≤N.length:=by have:=congrArg C7 S.pre;rw[D7]at this;omega
 obtain⟨h1,tk,rfl,hk⟩:=x.done
 have noA:∀b:Addr,b∉(oV CX P w K mg base N qual scope f cd A outer s H E).ex:=fun b z=>absurd (show b∈([]:List Addr)from z) (by simp)
 refine⟨⟨e0.mod,S.kind,rfl,rfl,zw _,fun y z c h1 h2=>?_,fun y hy=>?_,fun y c _ h=>?_,fun _=>hd,Around.frames_deeper e0.frames,.inr ⟨rfl,rfl⟩,fun b z=>absurd z (noA b),e0.bs,e0.bsz,fun b _ _=>noA b,fun b z=>absurd z (noA b),e0.funs,e0.frf⟩,
  rfl,e0.bare,Un.kept hk,⟨_,x.toInCall.ns,fun i y v h1 h2 h3=>?_⟩,fun y c h=>⟨_,x.cell y c h⟩,e0.hok.fresh (zw _),fun y c h=>?_,fun p hp=>absurd (show p∈([]:List (Addr×Obj))from hp) (by simp),e0.hok.kept hk,?_⟩
 ·exact name_of_addr x.apart (PySem.mem_of_lookup h1) (PySem.mem_of_lookup h2)
 ·have hy:scope.names.lookup y=some .cell∨scope.names.lookup y=some .free:=hy
  rcases hy with hy | hy
  ·exact kX hy
  ·exact absurd rfl (S.nofree _ (PySem.mem_of_lookup hy))
 ·exact Ct (x.above y c (PySem.mem_of_lookup h))
 ·have hi:i< vs.length:=by
   unfold start at h2
   by_cases hi:i< vs.length
   ·exact hi
   ·rw[zN (by simpa using hi)]at h2
    rw[List.getElem?_replicate]at h2
    split at h2 <;> cases h2
  have ha:vs[i]? =some v:=by
   unfold start at h2
   rw[zT (by simpa using hi),zA]at h2
   cases e:vs[i]? with
   | none=>rw[e]at h2;cases h2
   | some a=>rw[e]at h2;cases h2;rfl
  obtain⟨u,hu,rv⟩:=r.get ha
  have hp:ps[i]? =some y:=by
   rw[←S.pre,Ag (by omega)];exact h1
  have ndP:ps.Nodup:=by rw[←S.pre];exact S.nd.sublist (List.take_sublist _ _)
  refine⟨u,rv,?_⟩
  rcases S.par y (zW hp)with k | k
  ·exact .inl ⟨k,jt ndP hp hu k⟩
  ·obtain⟨c,e⟩:=kX (n:=s.heap.objs.size+1) k
   refine .inr ⟨.inl k,c,e,?_⟩
   have q:=x.cell y c e
   rw[ju ndP hp hu (by show scope.names.lookup y≠_;rw[k];decide)]at q
   exact q
 ·exact e0.hok.fresh (Ct (x.above y c (PySem.mem_of_lookup h)))
 ·unfold start
  show _=N.length
  rw[Br,A2,List.length_replicate]
  omega
theorem wJ {CX:CXT} {P:zL} {w:zQ} {K:PySem.W.Frag} {mg:Str→Option zl} {base:Heap} {k:Nat} {f:Addr} {name qual:Str} {params:Arguments} {body:List Stmt} {scope:Ce} {dV kV doc pm cdv ct oc:zl} {an od:Option Addr}
  {osl:Array (Option zl)} {N ps:List Str} {sp:Sp} (lk:K.lookup f=some ⟨oc,od,.func (PySem.W.fnOf name qual params body scope dV kV doc pm an cdv ct),osl⟩) (hcd:PySem.W.codeIn K cdv qual=true) (S:FnScope N ps scope)
  (len:∀vs H Q E,sp vs H Q E→vs.length=ps.length)
  (hbody:∀(A:Ai) (outer:List Env) (s:zq) (H:Hp) (vs:List V) (Q:VK) (E:XK),Room k (A.deeper (envOfC qual scope s.heap.objs.size f cdv))→sp vs H Q E→
   ∃t,PSs (oV CX P w K mg base N qual scope f cdv A outer s H E) body t∧t {nx:=fun _ H'=>Q .non H',rt:=Q} (start N vs) H):
  FnOk P w K mg base CX (k+1) f (PySem.W.fnOf name qual params body scope dV kV doc pm an cdv ct) ps sp:=by
 refine⟨len,fun A outer s H args us vs Q E hr e0 hb r hsp=>?_⟩
 have hl:=len _ _ _ _ hsp
 have KX:K.In s.heap:=e0.mod.kin.keeps fun b o e=>(e0.bs b o e).1
 have lim:s.heap.NoLimit:=e0.mod.nolimit.keeps fun b o e=>(e0.bs b o e).1
 have hkind:∀y∈ps.zip us,scope.names.lookup y.1=some .local∨(scope.names.lookup y.1=some .cell∧((cellsFrom (s.heap.objs.size+1) scope.names []).lookup y.1).isSome=true):=fun⟨n,v⟩ hy=>by
  rcases S.par n (CC hy).1 with q | q
  ·exact .inl q
  ·exact .inr ⟨q,PySem.W.cellsFrom_some _ _ _ (.inl q)⟩
 refine codeAny_call_function hr.depth (KX _ _ lk) rfl S.co S.gen rfl (PySem.W.codeRec_of KX hcd) (hb _ _ _ _ ?_)
 refine wpAny_newFunctionEnv_cells S.kind hkind fun env he s1 x=>?_
 subst he
 refine⟨lim.keeps x.toInCall.keep,codeAny_func ?_⟩
 obtain⟨t,ht,hq⟩:=hbody A outer s H vs Q E (hr.deeper _) hsp
 have I:Inv (oV CX P w K mg base N qual scope f cdv A outer s H E) [] (start N vs) H s1:=oW S hr.hd e0 hl r x
 refine Aq (ht [] s1 (start N vs) H _ I hq) (fun fl s' hs=>?_) fun e s' hs=>hs
 have fin:∀{σ':St} {H':Hp} {v:V} {u:zl},Inv (oV CX P w K mg base N qual scope f cdv A outer s H E) [] σ' H' s'→RelV v u→Q v H'→CE outer P w H s Q u s':=
  fun {σ' H' v u} J rv q=>⟨v,H',J.os,J.bare,J.base,J.hok,rv,q⟩
 cases fl with
 | ret u =>
  obtain⟨v,σ',H',J,rv,q⟩:=hs
  exact fin J rv q
 | next =>
  obtain⟨σ',H',J,q⟩:=hs
  exact fin (v:=V.non) (u:=Aw) J rfl q
 | brk =>
  obtain⟨_,_,_,q⟩:=hs
  exact C9 q
 | cont =>
  obtain⟨_,_,_,q⟩:=hs
  exact C9 q
section
variable {X:Cx} {x:Str} {p pos:Pos} {e:Expr} {es:List Expr} {t:TA} {id T:String} {r:List V→Hp→VK→Prop}
def dv (r:List V→Hp→VK→Prop) (t:TA):TE:=fun σ H Q=>t σ H fun vs H1=>r vs H1 Q
theorem aK (hc:dh X (.builtin id) r) (hg:Gl X x) (hm:X.mg x=none) (hv:bootBuiltins x=some (.builtin id)) (ha:PA X (e::es) t) (hn:x≠"__name__" :=by decide) (hdb:(x == ("__debug__" :Str))=false:=by decide)
  (he:starEach (e::es) X.env=(false,eval e X.env)::starEach es X.env:=by rfl) (hpl:(backTo pos (starEach es X.env)).any (·.1)=false:=by rfl):PE X (.Call (.Name x p) (e::es) [] pos) (dv r t):=by
 intro pins s σ H Q I h
 refine DE (fX I hg hm hv ?_ hn hdb)
 exact FL (bz (ha pos pins s σ H _ I h) fun us s1 ⟨vs,H1,I1,r1,q1⟩=>hc pins s1 σ H1 vs us Q I1 r1 q1) he hpl
theorem fG (hc:dh X (.type T) r) (hg:Gl X x) (hm:X.mg x=none) (hv:bootBuiltins x=some (.type T)) (ha:PA X (e::es) t) (hn:x≠"__name__" :=by decide) (hdb:(x == ("__debug__" :Str))=false:=by decide)
  (he:starEach (e::es) X.env=(false,eval e X.env)::starEach es X.env:=by rfl) (hpl:(backTo pos (starEach es X.env)).any (·.1)=false:=by rfl):PE X (.Call (.Name x p) (e::es) [] pos) (dv r t):=by
 intro pins s σ H Q I h
 refine DE (fX I hg hm hv ?_ hn hdb)
 exact Bh (bz (ha pos pins s σ H _ I h) fun us s1 ⟨vs,H1,I1,r1,q1⟩=>hc pins s1 σ H1 vs us Q I1 r1 q1) he hpl
end
end L2
open L2.PW renaming pt→FI
open L2.RelO renaming some_of→GQ
open L2.SqL renaming of→BS
open L2.SqT renaming of→GP
open L2.V renaming int→C6,str→Dp,bl→Hy
namespace HT
open PySem PyProof.Rows
section
open PySem.SeqAt
open PySem.AutoSeq1 (wpAny_loadPart')
open PySem.MeetsSeq PySem.MeetsSeq2 PySem.MeetsSeq3
end
section
variable {prog:zL} {w:zQ} {A:Ai} {E:zl→zq→Prop} {s:zq}
def sIx (n d:Nat):Option Int→Nat
 | none=>d
 | some v=>if v< 0 then(v+(n:Int)).toNat else min v.toNat n
theorem sIx_le (n d:Nat) (hd:d≤n) (o:Option Int):sIx n d o≤n:=by
 cases o with
 | none=>exact hd
 | some v =>
  show(if v< 0 then(v+(n:Int)).toNat else min v.toNat n)≤n
  by_cases hv:v< 0
  ·rw[if_pos hv];omega
  ·rw[if_neg hv];exact Nat.min_le_right _ _
end
end HT
namespace L2
open PySem PySem.Spec PyProof.Rows
abbrev TO:=St→Hp→(Option Int→Hp→Prop)→Prop
def PO (X:Cx) (e:Option Expr) (t:TO):Prop:=
 ∀ (pins : List (Addr × Obj)) (s : zq) (σ : St) (H : Hp) (Q : Option Int → Hp → Prop), Inv X pins σ H s → t σ H Q →
  wpAny (model X.prog X.w) X.A (evalPart e X.env) (fun u s'=>∃o H',Inv X pins σ H' s'∧IsPart u o∧Q o H') X.xe s
def aG:TO:=fun _ H Q=>Q none H
def be (t:TE):TO:=fun σ H Q=>t σ H fun x H1=>∃i,x=.int i∧Q (some i) H1
theorem iy {ns:List Int} :∀{us:List zl},Vals (ns.map C6) us→Fw us ns:=by
 induction ns with
 | nil=>intro us r;rw[CN]at r;cases r;exact .nil
 | cons n ns ih =>
  intro us r
  rw[An]at r
  cases r with
  | cons r1 r2 =>
   obtain⟨t,e⟩:=r1
   subst e
   exact .cons n t (ih r2)
section
variable {X:Cx} {e:Expr} {te:TE} {lo hi:Option Expr} {tl th:TO} {pos p2:Pos}
theorem gi:PO X none aG:=by
 intro pins s σ H Q I h
 rw[F5]
 exact zo ⟨none,H,I,.none,h⟩
theorem fH (h:PE X e te):PO X (some e) (be te):=by
 intro pins s σ H Q I hw
 rw[evalPart_some]
 refine bz (h pins s σ H _ I hw) fun u s1 ⟨x,H1,I1,r1,q1⟩=>?_
 obtain⟨i,rfl,q⟩:=q1
 obtain⟨t,rfl⟩:=r1
 exact⟨some i,H1,I1,.int i t,q⟩
def xo (X:Cx) (r:V→Option Int→Option Int→Hp→VK→Prop):Prop:=
 ∀ (pins : List (Addr × Obj)) (s : zq) (σ : St) (H : Hp) (x : V) (v vl vu : zl) (lo hi : Option Int) (sl : Addr) (Q : VK), Inv X pins σ H s → RelV x v → s.heap.IsSliceOf sl vl vu .none → IsPart vl lo → IsPart vu hi → r x lo hi H Q →
  ∃T id,typeLookup (.type T) "__getitem__" =pure (some (.builtin id))∧s.TypeIs v T∧wpAny (model X.prog X.w) X.A (getItem v (.ref sl)) (EP X pins σ Q) X.xe s
def eJ (r:V→Option Int→Option Int→Hp→VK→Prop) (te:TE) (tl th:TO):TE:=fun σ H Q=>te σ H fun x H1=>tl σ H1 fun l H2=>th σ H2 fun u H3=>r x l u H3 Q
theorem fc {r:V→Option Int→Option Int→Hp→VK→Prop} (hr:xo X r) (he:PE X e te) (hl:PO X lo tl) (hu:PO X hi th):PE X (.Subscript e (.Slice lo hi none p2) pos) (eJ r te tl th):=by
 intro pins s σ H Q I h
 refine Fh (bz (he pins s σ H _ I h) fun v s1 ⟨x,H1,I1,r1,q1⟩=>?_)
 refine wpAny_Slice (bz (hl pins s1 σ H1 _ I1 q1) fun vl s2 ⟨l,H2,I2,pl,q2⟩=>bz (hu pins s2 σ H2 _ I2 q2) fun vu s3 ⟨u,H3,I3,pu,q3⟩=>?_)
 rw[F5]
 refine zo ?_
 have I4:Inv X pins σ H3 {s3 with heap:=s3.heap.push {cls:=.type "slice",data:=.fields #[vl,vu,.none]}} :=I3.kept (t':=s3.toks) fun b ob q=>zr _ q
 obtain⟨T,id,hT,ht,hg⟩:=hr pins {s3 with heap:=s3.heap.push {cls:=.type "slice",data:=.fields #[vl,vu,.none]}} σ H3 x v vl vu l u s3.heap.objs.size Q I4 r1 (Fi ..) pl pu q3
 show wpAny (model X.prog X.w) X.A (subscriptTail e (.Slice lo hi none p2) v (.ref s3.heap.objs.size)) (EP X pins σ Q) X.xe {s3 with heap:=s3.heap.push {cls:=.type "slice",data:=.fields #[vl,vu,.none]}}
 exact H0 (ops:=[.ref s3.heap.objs.size,v]) ht hT hg (by with_unfolding_all rfl)
def my (xs:List V) (lo hi:Option Int):List V:=(xs.drop (HT.sIx xs.length 0 lo)).take (HT.sIx xs.length xs.length hi- HT.sIx xs.length 0 lo)
theorem kY (xs:List V) (lo hi:Option Int):(my xs lo hi).length≤xs.length:=by
 unfold my
 rw[D7,FN]
 omega
end
def ixN (n:Nat) (i:Int):Option Nat:=if 0≤i then(if i< n then some i.toNat else none)else if -(n:Int)≤i then some (i+n).toNat else none
def atI {α:Type} (xs:List α) (i:Int):Option α:=(ixN xs.length i).bind fun j=>xs[j]?
theorem nF {n:Nat} {i:Int} {j:Nat} (h:ixN n i=some j):seqIndex? i n=some j∧j< n∧ -(n:Int)≤i∧i< n:=by
 unfold ixN at h
 by_cases h0:0≤i
 ·rw[if_pos h0]at h
  by_cases h1:i< n
  ·rw[if_pos h1]at h
   have e:i.toNat=j:=Ad h
   exact⟨by rw[G1 h0 h1,e],by omega,by omega,h1⟩
  ·rw[if_neg h1]at h;cases h
 ·rw[if_neg h0]at h
  by_cases h1: -(n:Int)≤i
  ·rw[if_pos h1]at h
   have e:(i+n).toNat=j:=Ad h
   exact⟨by rw[Fx (by omega) h1,e],by omega,h1,by omega⟩
  ·rw[if_neg h1]at h;cases h
theorem jO {α:Type} {xs:List α} {i:Int} {v:α} (h:atI xs i=some v):∃j,seqIndex? i xs.length=some j∧xs[j]? =some v∧j< xs.length∧ -(xs.length:Int)≤i∧i< xs.length:=by
 unfold atI at h
 cases e:ixN xs.length i with
 | none=>rw[e]at h;cases h
 | some j =>
  rw[e]at h
  obtain⟨h1,h2,h3,h4⟩:=nF e
  exact⟨j,h1,h,h2,h3,h4⟩
def tm (b:Expr):Prop:=∀o i,subscripted b false o i=operate [o,i] (getItem o i)
def wm (X:Cx) (r:R2):Prop:=
 ∀ (value slice : Expr) (pins : List (Addr × Obj)) (s : zq) (σ : St) (H : Hp) (x y : V) (v u : zl) (Q : VK), Inv X pins σ H s → RelV x v → RelV y u → r x y H Q →
  subscripted slice false v u=operate [v,u] (getItem v u)→wpAny (model X.prog X.w) X.A (subscriptTail value slice v u) (EP X pins σ Q) X.xe s
def wK (X:Cx) (id:String) (r:V→List V→Hp→VK→Prop):Prop:=
 ∀ (pins : List (Addr × Obj)) (s : zq) (σ : St) (H : Hp) (x : V) (xs : List V) (v : zl) (us : List zl) (Q : VK), Inv X pins σ H s → RelV x v → Vals xs us → r x xs H Q →
  wpAny (model X.prog X.w) X.A (call (.builtin id) (v::us)) (EP X pins σ Q) X.xe s
section
variable {X:Cx} {a b:Expr} {ta tb:TE} {pos:Pos}
theorem az {r:R2} (hr:wm X r) (ha:PE X a ta) (hb:PE X b tb) (hs:tm b):PE X (.Subscript a b pos) (cK r ta tb):=by
 intro pins s σ H Q I h
 exact Fh (vt ha hb I h fun v u s2 x y H2 I2 rx ry q=>hr a b pins s2 σ H2 x y v u Q I2 rx ry q (hs _ _))
def bQ (K:PySem.W.Frag):R2:=fun x y H Q=>∃p xs i v,x=.ref p∧y=.int i∧SqL K H p xs∧atI xs i=some v∧Q v H
def bV (K:PySem.W.Frag):R2:=fun x y H Q=>∃p xs i v,x=.ref p∧y=.int i∧SqT K H p xs∧atI xs i=some v∧Q v H
def ci:R2:=fun x y H Q=>∃z i c,x=.str z∧y=.int i∧z.length≤sizeLine∧atI z.cps.toList i=some c∧Q (.str ⟨#[c]⟩) H
theorem tq:wm X (bQ X.K):=by
 intro value slice pins s σ H x y v u Q I rx ry h hs
 obtain⟨p,xs,i,z,rfl,rfl,hq,he,q⟩:=h
 cases rx
 obtain⟨t,rfl⟩:=ry
 obtain⟨its,r,pl,hz⟩:=I.list hq
 obtain⟨j,h1,h2,h3,h4,h5⟩:=jO he
 obtain⟨w,ew,rw'⟩:=r.get h2
 have hl:=r.length
 have hn:=ix
 have fin:EP X pins σ Q w s:=⟨z,H,I,rw',q⟩
 by_cases h0:0≤i
 ·have hj:i.toNat=j:=by
   rw[G1 h0 h5]at h1
   exact Ad h1
  exact item_listR pl.isList h0 (by omega) (by rw[hj];simpa using ew) fin hs
 ·have hj:(i+(its.toArray.size:Int)).toNat=j:=by
   rw[Fx (by omega) h4]at h1
   rw[zK,←hl]
   exact Ad h1
  exact En (x:=w) pl.isList.typeIs DU.lookup
   (wpAny_getItem_list_neg (Q:=fun r s'=>r=w∧EP X pins σ Q r s') pl.isList (by omega) (by rw[zK] <;> omega) (by omega) (by rw[hj];simpa using ew) ⟨rfl,fin⟩) hs
theorem vA:wm X (bV X.K):=by
 intro value slice pins s σ H x y v u Q I rx ry h hs
 obtain⟨p,xs,i,z,rfl,rfl,hq,he,q⟩:=h
 cases rx
 obtain⟨t,rfl⟩:=ry
 obtain⟨its,r,pl,hz⟩:=I.tuple hq
 obtain⟨j,h1,h2,h3,h4,h5⟩:=jO he
 obtain⟨w,ew,rw'⟩:=r.get h2
 have hl:=r.length
 have hn:=ix
 have fin:EP X pins σ Q w s:=⟨z,H,I,rw',q⟩
 exact En (x:=w) pl.typeIs slot_tuple_getitem.lookup
  (getItem_tuple (j:=j) (Q:=fun r s'=>r=w∧EP X pins σ Q r s') pl (by omega) (by omega) (by rw[zK,←hl];exact h1) (by simpa using ew) ⟨rfl,fin⟩) hs
theorem bG:wm X ci:=by
 intro value slice pins s σ H x y v u Q I rx ry h hs
 obtain⟨z,i,c,rfl,rfl,hz,he,q⟩:=h
 obtain⟨t,rfl⟩:=rx
 obtain⟨t',rfl⟩:=ry
 obtain⟨j,h1,h2,h3,h4,h5⟩:=jO he
 have hl:z.cps.toList.length=z.length:=by simp[Hn]
 rw[hl]at h1 h4 h5
 have hn:=ix
 exact H0 (Gi s z t) slot_str_getitem.lookup (getItem_str (c:=c) (by
  have e1:decide (i< -(2^63:Int))=false:=decide_eq_false (by omega)
  have e2:decide (i≥2^63)=false:=decide_eq_false (by omega)
  rw[e1,e2,Bool.or_false]) (by rw[h1];simpa using h2) ⟨.str ⟨#[c]⟩,H,I.tok _,⟨_,rfl⟩,q⟩) hs
theorem mC (its:List zl) (n j:Nat) (u:zl):BP (·.setIfInBounds j u) {cls:=.type "list",data:=.seq its.toArray n} ={cls:=.type "list",data:=.seq (its.set j u).toArray n} :=by
 simp[BP]
theorem Inv.lst {pins:List (Addr×Obj)} {σ:St} {H:Hp} {s:zq} {p:Addr} {xs:List V} (I:Inv X pins σ H s) (h:H p=some (.lst xs)):
  ∃(its:List zl) (n:Nat),Vals xs its∧s.heap.get? p=some {cls:=.type "list",data:=.seq its.toArray n}∧xs.length≤sizeLine:=by
 obtain⟨z,its,n,r,e⟩:=I.hok p _ h
 exact⟨its,n,r,e,z⟩
theorem Inv.lstUpd {pins:List (Addr×Obj)} {σ:St} {H:Hp} {s:zq} {p:Addr} {xs ys:List V} {its its':List zl} {n n':Nat} {f:Obj→Obj} (I:Inv X pins σ H s) (h:H p=some (.lst xs))
  (ho:s.heap.get? p=some {cls:=.type "list",data:=.seq its.toArray n}) (hf:f {cls:=.type "list",data:=.seq its.toArray n} ={cls:=.type "list",data:=.seq its'.toArray n'}) (r:Vals ys its') (hz:ys.length≤sizeLine) (t:Nat):
  Inv X pins σ (cA H p (.lst ys)) {s with heap:=s.heap.update p f,toks:=t} :=by
 have e:(s.heap.update p f).get? p=some {cls:=.type "list",data:=.seq its'.toArray n'} :=by
  rw[Bq f ho (by rw[hf] <;> rfl),hf]
 refine I.write (x:=p) (e:=p) (by rw[h];trivial) (.inl rfl) (fun b u hb q=>(CO _ _ (Df hb)).trans q) ⟨_,e⟩ ?_
 exact⟨hz,its',n',r,e⟩
def qu:V→V→V→Hp→(Hp→Prop)→Prop:=fun o i v H Q=>∃p xs k j,o=.ref p∧i=.int k∧H p=some (.lst xs)∧ixN xs.length k=some j∧Q (cA H p (.lst (xs.set j v)))
theorem gj:wD X qu:=by
 intro pins s σ H o i v ov iv u Q I ro ri rv h
 obtain⟨p,xs,k,j,rfl,rfl,hp,hj,q⟩:=h
 cases ro
 obtain⟨t,rfl⟩:=ri
 obtain⟨its,n,r,ho,hz⟩:=I.lst hp
 obtain⟨h1,h2,h3,h4⟩:=nF hj
 have hl:=r.length
 have hn:=ix
 have I':Inv X pins σ (cA H p (.lst (xs.set j v))) {s with heap:=s.heap.update p (BP (·.setIfInBounds j u))} :=
  I.lstUpd hp ho (mC its n j u) (r.set rv j) (by rw[G8];exact hz) s.toks
 by_cases h0:0≤k
 ·have hk:k.toNat=j:=by
   rw[G1 h0 h4]at h1
   exact Ad h1
  exact PySem.W.ki_setAt ho h0 (by omega) (by rw[zK,←hl];exact h4) (by rw[hk];exact⟨_,I',q⟩)
 ·have hk:(k+(its.toArray.size:Int)).toNat=j:=by
   rw[Fx (by omega) h3]at h1
   rw[zK,←hl]
   exact Ad h1
  exact PySem.W.ki_setBack ho (by omega) (by rw[zK,←hl];exact h3) (by omega) (by rw[hk];exact⟨_,I',q⟩)
theorem jP (lo hi:Option Int) (n:Nat):(sliceBounds lo hi none n).1=((HT.sIx n 0 lo:Nat):Int)∧(sliceBounds lo hi none n).2.1=((HT.sIx n n hi:Nat):Int)∧(sliceBounds lo hi none n).2.2=1:=by
 refine⟨?_,?_,rfl⟩
 ·cases lo with
  | none=>simp[sliceBounds,HT.sIx]
  | some i =>
   simp only[sliceBounds,HT.sIx,Eg,show(1:Int)> 0 by decide,if_true]
   by_cases h:i< 0
   ·simp only[h,if_true] <;> omega
   ·simp only[h,if_false] <;> omega
 ·cases hi with
  | none=>simp[sliceBounds,HT.sIx]
  | some i =>
   simp only[sliceBounds,HT.sIx,Eg,show(1:Int)> 0 by decide,if_true]
   by_cases h:i< 0
   ·simp only[h,if_true] <;> omega
   ·simp only[h,if_false] <;> omega
theorem jh (its:List zl) (lo hi:Option Int):slicePick its.toArray lo hi none=((its.drop (HT.sIx its.length 0 lo)).take (HT.sIx its.length its.length hi- HT.sIx its.length 0 lo)).toArray:=by
 obtain⟨h1,h2,h3⟩:=jP lo hi its.toArray.size
 unfold slicePick
 rw[h1,h2,h3]
 simp only[ET,pick_run,zK] <;> rfl
def bW (K:PySem.W.Frag):V→Option Int→Option Int→Hp→VK→Prop:=fun x lo hi H Q=>∃a xs,x=.ref a∧SqL K H a xs∧∀p,H p=none→Q (.ref p) (cA H p (.lst (my xs lo hi)))
theorem tt:xo X (bW X.K):=by
 intro pins s σ H x v vl vu lo hi sl Q I rx hs pl pu h
 obtain⟨a,xs,rfl,hx,q⟩:=h
 cases rx
 obtain⟨its,r,ht,hz⟩:=I.list hx
 have hlen:=r.length
 refine⟨"list",_,DU.lookup,ht.isList.typeIs,?_⟩
 refine E6 ht.isList hs pl pu .none (by simp) ?_ (by rw[zK] <;> omega)
 rw[jh,←hlen]
 refine⟨.ref s.heap.objs.size,_,I.laid (t':=s.toks) (o:=.lst (my xs lo hi)) (fun b ob q=>zr _ q) (zw _) ?_,rfl,q _ (I.hok.fresh (zw _))⟩
 exact⟨B9 (kY xs lo hi) hz,_,0,(r.drop (HT.sIx xs.length 0 lo)).take (HT.sIx xs.length xs.length hi- HT.sIx xs.length 0 lo),zz _ rfl⟩
def flatV:V→Bool
 | .non=>true
 | .bl _=>true
 | .int _=>true
 | .str _=>true
 | _=>false
def eqV:V→V→Bool
 | .non,.non=>true
 | .bl a,.bl b=>a == b
 | .bl a,.int b=>(if a then 1 else 0) == b
 | .int a,.bl b=>a == (if b then 1 else 0)
 | .int a,.int b=>a == b
 | .str a,.str b=>a == b
 | _,_=>false
theorem vB {A:Ai} {s:zq} {y x:V} {u v:zl} (ry:RelV y u) (rx:RelV x v) (fy:flatV y=true) (fx:flatV x=true):Ho A s u v (eqV y x):=by
 cases y with
 | non =>
  cases ry
  cases x with
  | non=>cases rx;exact HA _
  | bl b=>cases rx;exact H9 b
  | int b=>obtain⟨t,rfl⟩:=rx;exact He b t
  | str b=>obtain⟨t,rfl⟩:=rx;exact Hf b t
  | _=>exact absurd (show false=true from fx) zF
 | bl a =>
  cases ry
  cases x with
  | non=>cases rx;exact Ha a
  | bl b=>cases rx;exact Hb a b
  | int b=>obtain⟨t,rfl⟩:=rx;exact Hg a b t
  | str b=>obtain⟨t,rfl⟩:=rx;exact Hh a b t
  | _=>exact absurd (show false=true from fx) zF
 | int a =>
  obtain⟨t',rfl⟩:=ry
  cases x with
  | non=>cases rx;exact Hi a t'
  | bl b=>cases rx;exact Hj a t' b
  | int b=>obtain⟨t,rfl⟩:=rx;exact Hq a t' b t
  | str b=>obtain⟨t,rfl⟩:=rx;exact Fe a t' b t
  | _=>exact absurd (show false=true from fx) zF
 | str a =>
  obtain⟨t',rfl⟩:=ry
  cases x with
  | non=>cases rx;exact Hk a t'
  | bl b=>cases rx;exact Hl a t' b
  | int b=>obtain⟨t,rfl⟩:=rx;exact Ff a t' b t
  | str b=>obtain⟨t,rfl⟩:=rx;exact Hr a t' b t
  | _=>exact absurd (show false=true from fx) zF
 | _=>exact absurd (show false=true from fy) zF
def tu (x:V) (u:zl):Bool:=match u with
 | .none=>eqV .non x
 | .bool b=>eqV (.bl b) x
 | .int i _=>eqV (.int i) x
 | .str z _=>eqV (.str z) x
 | _=>false
theorem qv {x y:V} {u:zl} (r:RelV y u) (f:flatV y=true):tu x u=eqV y x:=by
 cases y with
 | non=>cases r;rfl
 | bl b=>cases r;rfl
 | int i=>obtain⟨t,rfl⟩:=r;rfl
 | str z=>obtain⟨t,rfl⟩:=r;rfl
 | _=>exact absurd (show false=true from f) zF
theorem jQ {x:V} :∀{xs:List V} {us:List zl},Vals xs us→xs.all flatV=true→us.any (tu x)=xs.any fun y=>eqV y x
 | _,_,.nil,_=>rfl
 | y :: xs, u :: us, .cons r t, f => by
  rw[Gw,Be]at f
  rw[Dg,Dg,qv r f.1,jQ t f.2]
theorem iz {A:Ai} {s:zq} {x:V} {v:zl} (rx:RelV x v) (fx:flatV x=true):∀{xs:List V} {us:List zl},Vals xs us→xs.all flatV=true→∀u∈us,Ho A s u v (tu x u)
 | _,_,.nil,_=>fun u hu=>by cases hu
 | y :: xs, u :: us, .cons r t, f => fun u' hu => by
  rw[Gw,Be]at f
  rcases zU.mp hu with rfl | hu
  ·rw[qv r f.1];exact vB r rx f.1 fx
  ·exact iz rx fx t f.2 u' hu
def xp (x:V) (xs:List V):Bool:=xs.any fun y=>eqV y x
def eT (K:PySem.W.Frag) (neg:Bool):R2:=fun x y H Q=>∃p xs,y=.ref p∧(SqL K H p xs∨SqT K H p xs)∧flatV x=true∧xs.all flatV=true∧Q (.bl (if neg then !xp x xs else xp x xs)) H
theorem jR:OpR X (compareOp .NotIn) (eT X.K true):=by
 intro pins s σ H x y v u Q I rx ry h
 obtain⟨p,xs,rfl,hq,fx,fs,q⟩:=h
 cases ry
 rcases hq with hq | hq
 ·obtain⟨its,r,pl,hz⟩:=I.list hq
  refine SeqAt.notIn_listAt (tu x) pl.isList (fun w hw=>iz rx fx r fs w (by simpa using hw)) ⟨.bl _,H,I,rfl,?_⟩
  rw[show its.toArray.any (tu x)=its.any (tu x) by simp,jQ r fs]
  exact q
 ·obtain⟨its,r,pl,hz⟩:=I.tuple hq
  refine SeqAt.notIn_tupleAt (tu x) pl (fun w hw=>iz rx fx r fs w (by simpa using hw)) ⟨.bl _,H,I,rfl,?_⟩
  rw[show its.toArray.any (tu x)=its.any (tu x) by simp,jQ r fs]
  exact q
theorem jS:dh X (.type "list") (fun xs H Q=>∃p ys,xs=[.ref p]∧(SqL X.K H p ys∨SqT X.K H p ys)∧∀l,H l=none→Q (.ref l) (cA H l (.lst ys))):=by
 intro pins s σ H xs us Q I r h
 obtain⟨p,ys,rfl,hq,q⟩:=h
 obtain⟨u,rfl,rx⟩:=eS r
 cases rx
 have fin:∀(its:List zl),Vals ys its→ys.length≤sizeLine→∀(h':Heap) (c':Nat),(∀b o',s.heap.get? b=some o'→h'.get? b=some o')→
   h'.get? s.heap.objs.size=some {cls:=.type "list",dict:=none,data:=.seq its.toArray c',slots:= #[]}→EP X pins σ Q (.ref s.heap.objs.size) {s with heap:=h'} :=fun its r' hz h' c' kp e=>
  ⟨.ref s.heap.objs.size,_,I.laid (t':=s.toks) kp (zw _) (show ObjOk X.prog X.w _ h' _ (.lst ys)from⟨hz,its,c',r',e⟩),rfl,q _ (I.hok.fresh (zw _))⟩
 rcases hq with hq | hq
 ·obtain⟨its,r',pl,hz⟩:=I.list hq
  have hlen:=r'.length
  obtain⟨o,ho,hc,n,hd⟩:=pl.isList
  exact Gx p (.inl rfl) ho hc hd (fun h' c' kp e=>fin its r' hz h' c' kp e) (by simp only[zK] <;> omega)
 ·obtain⟨its,r',pl,hz⟩:=I.tuple hq
  have hlen:=r'.length
  obtain⟨o,ho,hc,n,hd⟩:=pl
  exact Gx p (.inr rfl) ho hc hd (fun h' c' kp e=>fin its r' hz h' c' kp e) (by simp only[zK] <;> omega)
theorem ji:dh X (.type "tuple") (fun xs H Q=>∃p ys,xs=[.ref p]∧((SqL X.K H p ys∧∀l,H l=none→Q (.ref l) (cA H l (.tup ys)))∨(SqT X.K H p ys∧Q (.ref p) H))):=by
 intro pins s σ H xs us Q I r h
 obtain⟨p,ys,rfl,h⟩:=h
 obtain⟨u,rfl,rx⟩:=eS r
 cases rx
 rcases h with⟨hq,q⟩ | ⟨hq,q⟩
 ·obtain⟨its,r',pl,hz⟩:=I.list hq
  have hlen:=r'.length
  refine call_tuple_list pl.isList (fun h' kp=>?_) (by simp only[zK] <;> omega)
  have I1:Inv X pins σ H {s with heap:=h'} :=I.kept (t':=s.toks) kp
  have I2:Inv X pins σ (cA H h'.objs.size (.tup ys)) {s with heap:=h'.push {cls:=.type "tuple",data:=.seq its.toArray}} :=
   I1.laid (t':=s.toks) (fun b o e=>zr _ e) (zw _) (show ObjOk X.prog X.w _ _ _ (.tup ys)from⟨hz,its,r',IsTupD.new _ _⟩)
  exact⟨.ref h'.objs.size,_,I2,rfl,q _ (I1.hok.fresh (zw _))⟩
 ·obtain⟨its,r',pl,hz⟩:=I.tuple hq
  exact call_tuple_same pl ⟨.ref p,H,I,rfl,q⟩
def yh (K:PySem.W.Frag) (T:String) (x:V) (H:Hp):Prop:=match x with
 | .str _=>T="str"
 | .int _=>T="int"
 | .ref p=>(T="list" ∧∃xs,SqL K H p xs)∨(T="tuple" ∧((∃o,K.lookup p=some o∧o.cls=.type "tuple" ∧o.dict=none)∨∃xs,SqT K H p xs))∨
   (T="dict" ∧((∃kvs,H p=some (.dK kvs))∨∃kvs,H p=some (.dT kvs)))∨(T="set" ∧∃S n,H p=some (.set S n))
 | _=>False
theorem vC {pins:List (Addr×Obj)} {σ:St} {H:Hp} {s:zq} {T:String} {x:V} {v:zl} (I:Inv X pins σ H s) (r:RelV x v) (ty:yh X.K T x H):
  s.TypeIs v T∧∀a,v=.ref a→∃ob,s.heap.get? a=some ob∧ob.dict=none:=by
 cases x with
 | str z =>
  obtain⟨t,rfl⟩:=r
  cases (show T="str" from ty)
  exact⟨Gi s z t,fun _ e=>nomatch e⟩
 | int i =>
  obtain⟨t,rfl⟩:=r
  cases (show T="int" from ty)
  exact⟨typeIs_int s i t,fun _ e=>nomatch e⟩
 | ref p =>
  cases r
  rcases ty with⟨rfl,xs,hq⟩ | ⟨rfl,⟨o,hk,hc,hd⟩ | ⟨xs,hq⟩⟩ | ⟨rfl,hk⟩ | ⟨rfl,S,n,hk⟩
  ·obtain⟨its,_,pl,_⟩:=I.list hq
   refine⟨pl.isList.typeIs,fun a e=>?_⟩
   cases e
   obtain⟨o,n,e,c,hd,_⟩:=pl
   exact⟨o,e,hd⟩
  ·refine⟨⟨o,I.kIn p o hk,hc⟩,fun a e=>?_⟩
   cases e
   exact⟨o,I.kIn _ o hk,hd⟩
  ·obtain⟨o,e1,c1,d1⟩:∃o,s.heap.get? p=some o∧o.cls=.type "tuple" ∧o.dict=none:=by
    rcases hq with hq | ⟨o,its,n,hk,hc,_⟩
    ·obtain⟨_,_,_,o,e1,⟨c1,d1⟩,_⟩:=hq.ok I.hok
     exact⟨o,e1,c1,d1⟩
    ·exact⟨o,I.kIn p o hk,hc.1,hc.2⟩
   refine⟨⟨o,e1,c1⟩,fun a e=>?_⟩
   cases e
   exact⟨o,e1,d1⟩
  ·have z:∃o,s.heap.get? p=some o∧o.ExactDict:=by
    rcases hk with⟨kvs,hk⟩ | ⟨kvs,hk⟩
    ·obtain⟨_,_,_,_,o,_,_,e,ex,_⟩:=I.hok p _ hk
     exact⟨o,e,ex⟩
    ·obtain⟨_,_,_,_,o,_,_,e,ex,_⟩:=I.hok p _ hk
     exact⟨o,e,ex⟩
   obtain⟨o,e,ex⟩:=z
   refine⟨⟨o,e,ex.1⟩,fun a e2=>?_⟩
   cases e2
   exact⟨o,e,ex.2.1⟩
  ·obtain⟨o,_,_,_,e,ex,_⟩:=I.hok p _ hk
   refine⟨⟨o,e,ex.1⟩,fun a e2=>?_⟩
   cases e2
   exact⟨o,e,ex.2.1⟩
 | _=>exact C9 ty
def dF (K:PySem.W.Frag) (T:String) (r:V→List V→Hp→VK→Prop) (to:TE) (t:TA):TE:=fun σ H Q=>to σ H fun x H1=>yh K T x H1∧t σ H1 fun xs H2=>r x xs H2 Q
variable {o e:Expr} {es:List Expr} {to:TE} {t:TA} {name:Str} {apos cpos:Pos} {T id:String} {r:V→List V→Hp→VK→Prop}
theorem wL (pa:PlainAttrs T) (slot:Slot T name id) (hty:typeOf (.builtin id)=pure (.type "method_descriptor")) (hm:wK X id r) (ho:PE X o to) (ha:PA X (e::es) t)
  (hbase:attributeBase o name X.env (eval o X.env)=eval o X.env:=by rfl)
  (hfew:((backTo cpos (starEach (e::es) X.env)).all (fun x=> !x.1) && (backToKw cpos (keywordEach [] X.env)).all (fun x=>x.1.isSome)
   && decide ((e::es).length+([]:List Eo).length+(if([]:List Eo).isEmpty then 0 else 1)< 30))=true:=by rfl)
  (hline:(apos.endLine == cpos.line)=true:=by rfl) (hs:starEach (e::es) X.env=(false,eval e X.env)::starEach es X.env:=by rfl) (hplain:(backTo cpos (starEach es X.env)).any (·.1)=false:=by rfl):
  PE X (.Call (.Attribute o name apos) (e::es) [] cpos) (dF X.K T r to t):=by
 intro pins s σ H Q I h
 refine Ep hbase hfew hline rfl (bz (ho pins s σ H _ I h) fun v s1 ⟨x,H1,I1,r1,ty,q1⟩=>?_)
 obtain⟨h1,h2⟩:=vC I1 r1 ty
 refine⟨T,id,pa,slot,hty,h1,h2,?_⟩
 have hA:=ha cpos pins s1 σ H1 _ I1 q1
 rw[hs]at hA ⊢
 refine Calls.callWith_builtin (by show(false || (backTo cpos (starEach es X.env)).any (·.1))=false;rw[hplain] <;> rfl) (Calls.evalArgs_plain ?_)
 exact bz hA fun us s2 ⟨vs,H2,I2,r2,q2⟩=>hm pins s2 σ H2 x vs v us Q I2 r1 r2 q2
end
def yw (X:Cx) (id:String) (r:V→List V→Hp→VK→Prop):Prop:=
 ∀ (pins : List (Addr × Obj)) (s : zq) (σ : St) (H : Hp) (x : V) (xs : List V) (v : zl) (us : List zl) (Q : VK), Inv X pins σ H s → RelV x v → Vals xs us → r x xs H Q →
  wpAny (model X.prog X.w) X.A (call (.builtin id) (v::us)) (EP X pins σ Q) X.xe s
theorem Vals.one:∀{x:V} {us:List zl},Vals [x] us→∃u,us=[u]∧RelV x u
 | _,_,.cons r .nil=>⟨_,rfl,r⟩
section
variable {X:Cx} {pins:List (Addr×Obj)} {σ:St} {H:Hp} {s:zq} {l b:Addr} {xs ys zs:List V}
theorem Inv.lset {its its':List zl} {n:Nat} {f:Array zl→Array zl} {t':Nat} (I:Inv X pins σ H s) (hH:H l=some (.lst xs))
  (e:s.heap.get? l=some {cls:=.type "list",data:=.seq its.toArray n}) (hf:f its.toArray=its'.toArray) (hv:Vals ys its') (hz:ys.length≤sizeLine):
  Inv X pins σ (cA H l (.lst ys)) {s with heap:=s.heap.update l (BP f),toks:=t'} :=by
 have q:=PySem.IsL.update e f
 rw[hf]at q
 refine I.write (x:=l) (e:=l) (by rw[hH];exact trivial) (.inl rfl) (fun b' u hb hu=>(CO s.heap (BP f) (Df hb)).trans hu) ⟨_,q⟩ ?_
 exact⟨hz,its',_,hv,q⟩
theorem Inv.lnew {its:List zl} {t':Nat} (I:Inv X pins σ H s) (hv:Vals ys its) (hz:ys.length≤sizeLine):
  Inv X pins σ (cA H s.heap.objs.size (.lst ys)) {s with heap:=s.heap.push {cls:=.type "list",data:=.seq its.toArray},toks:=t'} :=
 I.laid (fun _ _ q=>zr _ q) (zw _) ⟨hz,its,0,hv,zz _ rfl⟩
theorem Inv.fresh (I:Inv X pins σ H s):H s.heap.objs.size=none:=I.hok.fresh (zw _)
theorem Inv.lstM (I:Inv X pins σ H s) (hH:H l=some (.lst xs)):xs.length≤sizeLine∧∃(its:List zl) (n:Nat),Vals xs its∧xs.length=its.length∧s.heap.get? l=some {cls:=.type "list",data:=.seq its.toArray n} :=by
 obtain⟨z,its,n,r,e⟩:=I.hok l _ hH
 exact⟨z,its,n,r,r.length,e⟩
end
section
variable {X:Cx}
def aA:V→List V→Hp→VK→Prop:=fun x vs H Q=>∃l xs y,x=.ref l∧vs=[y]∧H l=some (.lst xs)∧xs.length< sizeLine∧Q .non (cA H l (.lst (xs++ [y])))
theorem oX:yw X "list.append" aA:=by
 intro pins s σ H x vs v us Q I rx rv h
 obtain⟨l,xs,y,rfl,rfl,hH,hz,q⟩:=h
 cases rx
 obtain⟨u,rfl,ru⟩:=rv.one
 obtain⟨z,its,n,r,hl,e⟩:=I.lstM hH
 refine call_meets F.slot_list_append ⟨_,e,rfl⟩ F.entry_list_append (F.args_list_append_2 _ _) (PySem.list_append l its.toArray n u (by rw[zK];omega)) ⟨e,?_⟩
 refine⟨.non,_,I.lset (its':=its++ [u]) hH e (by simp) (r.append (.cons ru .nil)) ?_,rfl,q⟩
 rw[Br,EF]
 omega
def cj:R2:=fun x y H Q=>∃l b xs zs,x=.ref l∧y=.ref b∧H l=some (.lst xs)∧H b=some (.lst zs)∧xs.length+zs.length≤sizeLine∧∀p,H p=none→Q (.ref p) (cA H p (.lst (xs++zs)))
theorem qw:OpR X (binaryOp .Add) cj:=by
 intro pins s σ H x y v u Q I rx ry h
 obtain⟨l,b,xs,zs,rfl,rfl,hH,hB,hz,q⟩:=h
 cases rx
 cases ry
 obtain⟨z,its,n,r,hl,e⟩:=I.lstM hH
 obtain⟨z2,its2,n2,r2,hl2,e2⟩:=I.lstM hB
 refine PySem.P.add_list e e2 ?_ (by rw[zK,zK];omega)
 have ea:its.toArray++its2.toArray=(its++its2).toArray:=by simp
 rw[ea]
 exact⟨.ref _,_,I.lnew (t':=s.toks) (r.append r2) (by rw[Br];omega),rfl,q _ I.fresh⟩
end
section
variable {κ:Type} [DecidableEq κ]
def g9 (kvs:List (κ×V)) (k:κ):Option V:=(kvs.find? fun kv=>decide (kv.1=k)).map (·.2)
def oY (kvs:List (κ×V)) (k:κ) (v:V):List (κ×V):=
 if(kvs.any fun kv=>decide (kv.1=k))=true then kvs.map (fun kv=>if kv.1=k then(kv.1,v)else kv)else kvs++ [(k,v)]
theorem fe {p:κ×V} {r:List (κ×V)} {k:κ} (e:p.1=k):g9 (p::r) k=some p.2:=by simp[g9,Bb,e]
theorem ff {p:κ×V} {r:List (κ×V)} {k:κ} (e:¬p.1=k):g9 (p::r) k=g9 r k:=by simp[g9,Bb,e]
theorem kZ (k:κ):∀kvs:List (κ×V),(kvs.any fun kv=>decide (kv.1=k))=(g9 kvs k).isSome
 | []=>rfl
 | p :: r => by
  rw[Dg]
  by_cases e:p.1=k
  ·simp only[fe e,decide_eq_true e,Bool.true_or,Fj]
  ·rw[ff e,decide_eq_false e,Bool.false_or];exact kZ k r
theorem RelO.isSome_eq {o:Option V} {u:Option zl} (r:RelO o u):o.isSome=u.isSome:=by
 cases o with
 | none => cases u with
  | none=>rfl
  | some _=>exact(show False from r).elim
 | some _ => cases u with
  | none=>exact(show False from r).elim
  | some _=>rfl
theorem KV.val {kvs:List (κ×V)} {vs:List (κ×zl)} (r:KV kvs vs) (k:κ):RelO (g9 kvs k) (valueAt vs k):=by
 unfold KV at r
 induction r with
 | nil=>exact BO
 | @cons p q ps qs h t ih =>
  obtain⟨h1,h2⟩:=h
  by_cases e:p.1=k
  ·have e':q.1=k:=h1.symm.trans e
   have b:valueAt (q::qs) k=some q.2:=by simp[valueAt,Bb,e']
   rw[fe e,b];exact h2
  ·have e':¬q.1=k:=fun z=>e (h1.trans z)
   have b:valueAt (q::qs) k=valueAt qs k:=by simp[valueAt,Bb,e']
   rw[ff e,b];exact ih
end
theorem uS {P:zL} {w:zQ} {k:Key} {u:zl} (r:RelV (kV k) u):(mixKind P w).is k u=true:=by
 cases k with
 | inl i=>obtain⟨t,e⟩:=(show ∃t,u=Ee i t from r);subst e;exact kR P w i t
 | inr x=>obtain⟨t,e⟩:=(show ∃t,u=FJ x t from r);subst e;exact kS P w x t
theorem jv {P:zL} {w:zQ} :∀{ks:List Key} {us:List zl},Vals (ks.map kV) us→ItemsAre (mixKind P w) ks us
 | [],_,r=>by rw[CN]at r;cases r;exact .nil
 | k :: ks, _, r => by
  rw[An]at r
  cases r with
  | cons h t=>exact .cons (uS h) (jv t)
section
variable {X:Cx} {pins:List (Addr×Obj)} {σ:St} {H:Hp} {s:zq} {a:Addr} {y v:V} {u r:zl} {o:Option V} {A:Ai} {E:zl→zq→Prop}
theorem Inv.big (I:Inv X pins σ H s):sysModules< s.heap.objs.size:=by
 have h:mainGlobals< s.heap.objs.size:=(I.mod.glob.keeps I.bk).lt
 exact Es (by decide) h
theorem tx {h':Heap} {t':Nat} {ob:HO} (I:Inv X pins σ H s) (mu:wA (H a)) (hs:A9 a s.heap h') (he:∃q,h'.get? a=some q) (new:ObjOk X.prog X.w (cA H a ob) h' a ob):
  Inv X pins σ (cA H a ob) {s with heap:=h',toks:=t'} :=
 I.write (x:=a) (e:=a) mu (.inl rfl) (fun b q hb z=>(hs.2 b hb).trans z) he new
end
def qx (i:Expr):Prop:=∀ov iv,subscripted i false ov iv=operate [ov,iv] (getItem ov iv)
theorem nG {prog:zL} {w:zQ} {A:Ai} {E:zl→zq→Prop} {s:zq} {env:Env} {value slice:Expr} {pos:Pos} {T id:String} {Q:zl→zq→Prop}
  (hl:typeLookup (.type T) "__getitem__" =pure (some (.builtin id))) (hs:qx slice)
  (h:wpAny (model prog w) A (eval value env) (fun o s₁=>wpAny (model prog w) A (eval slice env) (fun i s₂=>s₂.TypeIs o T∧wpAny (model prog w) A (getItem o i) Q E s₂) E s₁) E s):
  wpAny (model prog w) A (eval (.Subscript value slice pos) env) Q E s:=by
 refine Fh (Aq h (fun o s₁ h₁=>Aq h₁ (fun i s₂ h₂=>?_) fun _ _ x=>x) fun _ _ x=>x)
 obtain⟨hT,h₂⟩:=h₂
 unfold subscriptTail
 refine zh ?_
 rw[getitemInPython_of_ne hT.not_modules]
 refine zh (Dr hT hl ?_)
 have fin:wpAny (model prog w) A (subscripted slice false o i) (fun r s₃=>wpAny (model prog w) A (letTemporaryGo value o r >>= fun _=>pure r) Q E s₃) E s₂:=by
  rw[hs o i]
  exact wpAny_operating (Aq h₂ (fun r s₃ h₃=>zh (wpAny_letTemporaryGo (zo h₃))) fun _ _ x=>x)
 first
  | exact zo (zh fin)
  | exact zh (zo (zh fin))
  | exact zh fin
end L2
namespace Att
open PySem PySem.W PySem.Calls PyProof.Rows
theorem i4 {P:Hs} {h:Heap} :∀(ns:List Int) (vs:List zl),WellAll P h vs (ns.map Hw)→Fw vs ns:=by
 intro ns
 induction ns with
 | nil =>
  intro vs w
  rw[CN]at w
  cases w
  exact .nil
 | cons n ns ih =>
  intro vs w
  rw[An]at w
  cases w with
  | cons a b =>
   cases a
   exact .cons _ _ (ih _ b)
theorem oZ {l:OpenLaw} {n:Nat} (hn:l.most=some n) {P:Hs} {h:Heap} {args:List WData} {vals:List zl}
  (hpre:l.row.toRowW.claim.pre args=true) (hwl:WellAll P h vals args):
  ∃a vs ns,vals=[As a]∧args=[WData.list (ns.map Hw)]∧h.get? a=some {cls:=.type "list",data:=.seq vs.toArray}∧Fw vs ns∧ns.length≤n:=by
 have hsh:WShape.hasAll [] args [.list .int]=true:=(pre_splitW hpre).1
 have hc:l.pre.holds [] {args:=args} =true:=(pre_splitW hpre).2
 obtain⟨d,r,rfl,h1,h2⟩:=hasAllW_cons hsh
 obtain rfl:=hasAllW_nil h2
 obtain⟨xs,rfl,h3⟩:=hasW_list h1
 obtain⟨ns,rfl⟩:=items_int h3
 have hlen:ns.length≤n:=by
  unfold OpenLaw.pre at hc
  have h4:(WTm.not (.lt (.lit (.int (n:Int))) (.len (.arg 0)))).holds [] {args:=[.list (ns.map .int)]} =true:=by
   have h4:=(holds_andW hc).1
   rw[hn]at h4
   exact h4
  have h5:=condW_of h4 (w_not (w_lt w_lit (w_len_list (w_arg rfl))))
  rw[A2]at h5
  refine Nat.le_of_not_lt fun q=>?_
  have q':(n:Int)< ((ns.length:Nat):Int):=by omega
  first
   | (rw[decide_eq_true q']at h5;exact absurd h5 (by decide))
   | (simp at h5;omega)
 cases hwl with
 | cons w1 w2 =>
  cases w2
  cases w1 with
  | list ho hall=>exact⟨_,_,ns,rfl,rfl,ho,i4 ns _ hall,hlen⟩
theorem p0 (l:OpenLaw) (args:List WData):l.row.toRowW.claim.post args (.bool true) args=true:=
 postW_of (r:=l.row.toRowW) (X:=(true == true))
  (show Ht [] (.bool true) .bool=true by first | rfl | decide | simp[Ht,WShape.arms,WShape.armsAll])
  (show(WTm.eq .res (.lit (.bool true))).value [] {args:=args,res:=some (.bool true),after:=args} =some (.bool (true == true))from w_eq_bool (w_res rfl) w_lit) rfl
theorem attach_call {l:OpenLaw} {n:Nat} {q:zL} {loose:List Str} {XP:(Str→Option zl)→Heap→Prop} {YP:zQ→Heap→Prop} {d:DefRec}
  (hn:l.most=some n) (hdf:d.params.defaults=[])
  (call:∀(w:zQ) (s₀ s₁:zq) (mg mb:Str→Option zl) (fa:Addr) (o:Obj) (pm cd doc:zl) (a:Addr) (vs:List zl) (ns:List Int),
   Ground q loose [] XP w s₀ mg mb s₁.heap→YP w s₁.heap→
   s₁.heap.get? fa=some o→o.data=.func (docDef d.name d.params d.body d.scope pm cd doc)→s₁.heap.CodeRec cd d.name→mg d.name=some (.ref fa)→
   s₁.heap.get? a=some {cls:=.type "list",data:=.seq vs.toArray}→Fw vs ns→ns.length≤n→s₁.gens= #[]→
   codeAny (model l.prog w) callerA (.call (.ref fa) ⟨[.ref a],[]⟩) (fun r s'=>r=.ok (.ret (.bool true))∧OldK s₁.heap s'.heap∧s'.os=s₁.os∧DS s'.gens) s₁):
  WalkO q loose XP YP l.row.toRowW d [] (fun f vs=>PySem.call f vs):=by
 intro w s₀ s₁ mg mb G Y fa o pm cd doc dV kV ho hd hcd hD hmg hg args vals as hpre hlay hrd hwl hlo
 obtain rfl:dV=.none:=Dflts.none hD hdf
 obtain rfl:kV=.none:=Dflts.noKw hD
 obtain⟨a,vs,ns,rfl,rfl,hobj,hints,hlen⟩:=oZ hn hpre hwl
 refine enter_call (Dz (call w s₀ s₁ mg mb fa o pm cd doc a vs ns G Y ho (fd_plain hd) hcd hmg hobj hints hlen hg) fun r s' hq=>?_)
 obtain⟨rfl,h2,h3,h4⟩:=hq
 exact⟨.inl ⟨.bool true,.bool true,[],rfl,fun _=>rfl,.bool true,p0 l _,fun _=>⟨Ck,fun _ hm=>(nomatch hm)⟩⟩,h2,h3,h4⟩
end Att
namespace L2
open PySem PySem.Spec PyProof.Rows
theorem gK:∀{vs:List zl} {ns:List Int},Fw vs ns→Vals (ns.map C6) vs
 | _,_,.nil=>.nil
 | _,_,.cons n t h=>.cons ⟨t,rfl⟩ (gK h)
def vD (H:Hp):Prop:=∀b,H b=none∨∃o xs,H b=some (.frz o (.lst xs))
theorem qy {P:zL} {w:zQ} {K:PySem.W.Frag} {mg mb:Str→Option zl} {CX:CXT} {k:Nat} {fa a:Addr} {fd:zY} {x:Str} {sp:Sp} {s₁:zq} {vs:List zl} {ns:List Int}
  (KX:K.In s₁.heap) (hns:s₁.heap.Ns mainGlobals mg) (hb:s₁.heap.Ns builtinsNs mb) (hbb:∀x:Str,x≠"__name__" →mb x=bootBuiltins x) (hlim:s₁.heap.NoLimit) (hg:s₁.gens= #[])
  (ha:s₁.heap.get? a=some {cls:=.type "list",data:=.seq vs.toArray}) (hi:Fw vs ns) (hl:ns.length≤sizeLine) (hr:Room k callerA)
  (F:∀base:Heap,K.In base→base.Ns mainGlobals mg→FnOk P w K mg base CX k fa fd [x] sp) (hbind:∀(s:zq) (u:zl),Fv s fd ⟨[u],[]⟩ [(x,u)])
  (hsp:∀H:Hp,vD H→SqL K H a (ns.map C6)→sp [.ref a] H (fun v _=>v=.bl true) fun _ _ _=>False)
  (hCX:∀H e s',CX [] H s₁ (fun _ _ _=>False) e s'→False):
  codeAny (model P w) callerA (.call (.ref fa) ⟨[.ref a],[]⟩) (fun r s'=>r=.ok (.ret (.bool true))∧OldK s₁.heap s'.heap∧s'.os=s₁.os∧DS s'.gens) s₁:=by
 have rv:=gK hi
 have lenV:=hi.length
 have core:∀H:Hp,vD H→SqL K H a (ns.map C6)→HOk P w H s₁.heap→(∀b,H b≠none→b=a)→(H a≠none→K.lookup a=none)→
   codeAny (model P w) callerA (.call (.ref fa) ⟨[.ref a],[]⟩) (fun r s'=>r=.ok (.ret (.bool true))∧OldK s₁.heap s'.heap∧s'.os=s₁.os∧DS s'.gens) s₁:=by
  intro H hO hS hok hA hK
  have base_of:∀{b:Addr} {o:Obj},s₁.heap.get? b=some o→H b=none→(jL s₁.heap H).get? b=some o:=fun e n=>qk e n
  have noA:∀{b:Addr} {o:Obj} {es:Array BJ} {ep:Nat},s₁.heap.get? b=some o→o.data=.dict es ep→H b=none:=fun {b o es ep} e d=>by
   cases q:H b with
   | none=>rfl
   | some u =>
    have e':b=a:=hA b (by rw[q];simp)
    subst e'
    rw[ha]at e;cases e
    have d':Gj vs.toArray _=Data.dict es ep:=d
    cases d'
  have nsK:∀{b:Addr} {m:Str→Option zl},s₁.heap.Ns b m→(jL s₁.heap H).Ns b m:=fun {b m} ⟨o,es,ep,e,d,r⟩=>⟨o,es,ep,base_of e (noA e d),d,r⟩
  have hKb:K.In (jL s₁.heap H):=fun b o e=>base_of (KX b o e) (by
   cases q:H b with
   | none=>rfl
   | some u =>
    have e':b=a:=hA b (by rw[q];simp)
    subst e'
    rw[hK (by rw[q];simp)]at e;cases e)
  have hM:Mod K mg (jL s₁.heap H):=⟨hKb,nsK hns,⟨mb,nsK hb,hbb⟩,let ⟨mc,h1,h2⟩:=hlim;⟨mc,nsK h1,h2⟩⟩
  have e0:Env0 P w K mg (jL s₁.heap H) callerA [] s₁ H:=⟨rfl,hM,fun b o e=>sY e,Nat.le_of_eq (oO _ _),trivial,fun b hb=>absurd (show b∈([]:List Addr)from hb) (by simp),hok,.of_eq hg⟩
  refine Dz ((F _ hKb (nsK hns)).run callerA [] s₁ H ⟨[.ref a],[]⟩ [.ref a] [.ref a] _ _ hr e0 (hbind s₁ (.ref a)) (.cons rfl .nil) (hsp H hO hS)) fun r s' h=>?_
  cases r with
  | error e=>exact(hCX H e s' h).elim
  | ok fl =>
   cases fl with
   | next=>exact C9 h
   | brk=>exact C9 h
   | cont=>exact C9 h
   | ret u =>
    obtain⟨v,H',os,bare,un,hok',r',q⟩:=h
    have q':v=.bl true:=q
    subst q'
    obtain rfl:u=Ge true:=r'
    refine⟨rfl,OldK.of_keep fun b o e=>?_,os,bare⟩
    cases q:H b with
    | none=>exact un.keep b o e q (by intro z;exact absurd (show b∈([]:List Addr)from z) (by simp)) (by simp)
    | some u =>
     rcases hO b with z | ⟨ob,xs,z⟩
     ·rw[q]at z;cases z
     ·have z2:=un.frzs b ob _ z
      obtain⟨e1,_⟩:=hok b _ z
      obtain⟨e2,_⟩:=hok' b _ z2
      rw[e]at e1;cases e1
      exact e2
 cases hk:K.lookup a with
 | some o =>
  have e:=KX a o hk
  rw[ha]at e
  cases e
  refine core (fun _=>none) (fun _=>.inl rfl) (.inr ⟨_,vs.toArray,_,hk,rfl,rfl,rfl,by rw[zK,lenV];exact hl,by simpa using rv⟩) (fun b u z=>by have z':(none:Option HO)=some u:=z;cases z') (fun b z=>absurd rfl z) fun z=>absurd rfl z
 | none =>
  refine core (fun b=>if b=a then some (.frz {cls:=.type "list",data:=.seq vs.toArray} (.lst (ns.map C6)))else none) (fun b=>?_) (.inl (.inr ⟨{cls:=.type "list",data:=.seq vs.toArray},if_pos rfl⟩)) (fun b u z=>?_) (fun b z=>?_) fun _=>hk
  ·by_cases hb:b=a
   ·exact .inr ⟨_,_,if_pos hb⟩
   ·exact .inl (if_neg hb)
  ·by_cases hb:b=a
   ·have z':=(if_pos hb).symm.trans z
    cases z'
    subst hb
    exact⟨ha,by rw[A2];exact hl,vs,_,rv,ha⟩
   ·have z':=(if_neg hb).symm.trans z
    cases z'
  ·by_cases hb:b=a
   ·exact hb
   ·exact absurd (if_neg hb) z
theorem walk_of {l:PySem.W.OpenLaw} {n k:Nat} {q:zL} {loose:List Str} {XP:(Str→Option zl)→Heap→Prop} {YP:zQ→Heap→Prop} {d:DefRec} {K:Hs→PySem.W.Frag} {CX:zQ→CXT} {sp:zQ→Sp} {x:Str}
  (hn:l.most=some n) (hn2:n≤sizeLine) (hdf:d.params.defaults=[]) (hr:Room k callerA)
  (hY:∀(w:zQ) (h:Heap),YP w h→(K w.params).In h)
  (F:∀(w:zQ) (mg:Str→Option zl) (fa:Addr) (h:Heap),(K w.params).In h→h.Ns mainGlobals mg→mg d.name=some (.ref fa)→
   ∃ fd : zY, (∀ (s : zq) (u : zl), Fv s fd ⟨[u], []⟩ [(x, u)]) ∧
    ∀base:Heap,(K w.params).In base→base.Ns mainGlobals mg→FnOk l.prog w (K w.params) mg base (CX w) k fa fd [x] (sp w))
  (hsp:∀(w:zQ) (H:Hp) (a:Addr) (ns:List Int),ns.length≤n→vD H→SqL (K w.params) H a (ns.map C6)→sp w [.ref a] H (fun v _=>v=.bl true) fun _ _ _=>False)
  (hCX:∀(w:zQ) (H:Hp) (s:zq) (e:zl) (s':zq),CX w [] H s (fun _ _ _=>False) e s'→False):
  PySem.W.WalkO q loose XP YP l.row.toRowW d [] (fun f vs=>PySem.call f vs):=by
 refine Att.attach_call hn hdf fun w s₀ s₁ mg mb fa o pm cd doc a vs ns G Y ho hd hcd hmg hobj hints hlen hg=>?_
 have KX:=hY w _ Y
 obtain⟨fd,hb,hF⟩:=F w mg fa _ KX G.T.g hmg
 exact qy KX G.T.g G.T.b G.T.builtins G.T.nolimit hg hobj hints (B9 hlen hn2) hr hF hb (fun H hO hS=>hsp w H a ns hlen hO hS) fun H e s'=>hCX w H s₁ e s'
def defArgs (s:Stmt):Arguments:=match s with
 | .FunctionDef _ a _ _ _ _ _ _ _ _=>a
 | _=>{posonlyargs:=[],args:=[],vararg:=none,kwonlyargs:=[],kw_defaults:=[],kwarg:=none,defaults:=[]}
def defBody (s:Stmt):List Stmt:=match s with
 | .FunctionDef _ _ b _ _ _ _ _ _ _=>b
 | _=>[]
def defScope (s:Stmt):Ce:=match s with
 | .FunctionDef _ _ _ _ _ _ sc _ _ _=>sc
 | _=>{kind:=.function,names:=[],isGenerator:=false,isCoroutine:=false}
abbrev CX0:CXT:=fun _ _ _ _ _ _=>False
abbrev E0:XK:=fun _ _ _=>False
theorem wM {X:Cx} :mw CX0 X E0:=fun _ _ _ _ _ _ _ h=>h.elim
structure Fun (K:PySem.W.Frag) (x qual:Str) (st:Stmt) (f:Addr) (fd:zY):Prop where
 ex:∃(oc:zl) (od:Option Addr) (kV doc pm:zl) (an:Option Addr) (cdv ct:zl) (osl:Array (Option zl)),
  fd=PySem.W.fnOf x qual (defArgs st) (defBody st) (defScope st) .none kV doc pm an cdv ct∧K.lookup f=some ⟨oc,od,.func fd,osl⟩∧PySem.W.codeIn K cdv qual=true
 kp:PySem.W.keepIn K (.ref f)=true
section
variable {P:zL} {w:zQ} {K:PySem.W.Frag} {mg:Str→Option zl} {base:Heap}
theorem Fun.ok {x qual:Str} {st:Stmt} {f:Addr} {fd:zY} {N ps:List Str} {k:Nat} {sp:Sp} (F:Fun K x qual st f fd) (S:FnScope N ps (defScope st)) (len:∀vs H Q E,sp vs H Q E→vs.length=ps.length)
  (hbody:∀(cdv:zl) (A:Ai) (outer:List Env) (s:zq) (H:Hp) (vs:List V) (Q:VK) (E:XK),Room k (A.deeper (envOfC qual (defScope st) s.heap.objs.size f cdv))→sp vs H Q E→
   ∃t,PSs (oV CX0 P w K mg base N qual (defScope st) f cdv A outer s H E).nox (defBody st) t∧t {nx:=fun _ H'=>Q .non H',rt:=Q} (start N vs) H):FnOk P w K mg base CX0 (k+1) f fd ps sp:=by
 obtain⟨oc,od,kV,doc,pm,an,cdv,ct,osl,rfl,lk,hcd⟩:=F.ex
 refine wJ lk hcd S len fun A outer s H vs Q E hr hsp=>?_
 obtain⟨t,h,q⟩:=hbody cdv A outer s H vs Q E hr hsp
 exact⟨t,h.nox,q⟩
theorem Fun.binds {x qual:Str} {st:Stmt} {f:Addr} {fd:zY} {ps:List Str} (F:Fun K x qual st f fd)
  (h:∀(kV doc pm:zl) (an:Option Addr) (cdv ct:zl) (us:List zl),us.length=ps.length→bindArgs (PySem.W.fnOf x qual (defArgs st) (defBody st) (defScope st) .none kV doc pm an cdv ct) ⟨us,[]⟩=pure (ps.zip us)):Binds K fd ps []:=by
 obtain⟨oc,od,kV,doc,pm,an,cdv,ct,osl,rfl,lk,hcd⟩:=F.ex
 exact .all (h kV doc pm an cdv ct)
theorem aQ {x qual:Str} {st:Stmt} {f:Addr} {oc:zl} {od an:Option Addr} {osl:Array (Option zl)} {kV doc pm cdv ct:zl} (l:K.lookup f=some ⟨oc,od,.func (PySem.W.fnOf x qual (defArgs st) (defBody st) (defScope st) .none kV doc pm an cdv ct),osl⟩)
  (c:PySem.W.codeIn K cdv qual=true) (k:PySem.W.keepIn K (.ref f)=true):Fun K x qual st f (PySem.W.fnOf x qual (defArgs st) (defBody st) (defScope st) .none kV doc pm an cdv ct):=⟨⟨oc,od,kV,doc,pm,an,cdv,ct,osl,rfl,l,c⟩,k⟩
end
section
variable {X:Cx}
theorem pv (i:Nat) {x:Str} {pos:Pos} (hN:X.N[i]? =some x:=by rfl) (hv:Vis X.env.scope x:=by first | exact zH rfl | exact zG (zH rfl) | exact zG (zG rfl)) (hd:(x == ("__debug__" :Str))=false:=by decide)
  (hcd:(x == ("__classdict__" :Str))=false:=by decide):PE X (.Name x pos) (bD i):=vh hN hv hd hcd
end
def Same (H H':Hp):Prop:=∀b o,H b=some o→H' b=some o
theorem Same.refl (H:Hp):Same H H:=fun _ _ h=>h
theorem Same.trans {H H1 H2:Hp} (a:Same H H1) (b:Same H1 H2):Same H H2:=fun c o h=>b c o (a c o h)
theorem Same.seq {K:PySem.W.Frag} {H H':Hp} {a:Addr} {xs:List V} (e:Same H H') (h:SqL K H a xs):SqL K H' a xs:=by
 rcases h with(h | ⟨o,h⟩) | h
 ·exact .inl (.inl (e _ _ h))
 ·exact .inl (.inr ⟨o,e _ _ h⟩)
 ·exact .inr h
end L2
set_option maxHeartbeats 4000000
namespace L2
open PySem PySem.Spec PyProof.Rows
abbrev ar (l:List Nat):Str:=⟨l.toArray⟩
theorem dG (l:List Nat):(ar l).length=l.length:=by simp[Hn,ar]
theorem nH (l:List Nat):(ar l).cps.toList=l:=by simp[ar]
theorem mD (a b:List Nat):ar a++ar b=ar (a++b):=by
 apply PySem.Str.ext'
 rw[PySem.Str.cps_append]
 simp[ar]
theorem nI {a b:List Nat} (h:ar a=ar b):a=b:=by
 have:=congrArg (fun x=>x.cps.toList) h
 simpa [ar] using this
theorem qz (x:Str):x=ar x.cps.toList:=by cases x;simp[ar]
def DictK (K:PySem.W.Frag) (w:zQ) (a:Addr) (kvs:List (Key×V)):Prop:=
 kvs.length≤1000∧(a == sysModules)=false∧(kvs.map (·.1)).Nodup∧∃(es:Array BJ) (ep:Nat),K.lookup a=some {cls:=.type "dict",data:=.dict es ep}∧
  Paired (fun(p:Key×V) (e:BJ)=>f6 p.1 e.key=true∧e.hash=qj w p.1∧RelV p.2 e.val) kvs es.toList
theorem l0 {P:zL} {w:zQ} {kvs:List (Key×V)} {es:List BJ} (r:Paired (fun(p:Key×V) (e:BJ)=>f6 p.1 e.key=true∧e.hash=qj w p.1∧RelV p.2 e.val) kvs es):
  ∀e∈es,∃k,f6 k e.key=true∧e.hash=qj w k:=by
 induction r with
 | nil=>intro e h;cases h
 | @cons p e ps es h t ih =>
  intro e' h'
  rcases zU.mp h' with rfl | h'
  ·exact⟨p.1,h.1,h.2.1⟩
  ·exact ih e' h'
theorem jT {P:zL} {w:zQ} {kvs:List (Key×V)} {es:List BJ} (r:Paired (fun(p:Key×V) (e:BJ)=>f6 p.1 e.key=true∧e.hash=qj w p.1∧RelV p.2 e.val) kvs es):
  ∃vs,KV kvs vs∧Pairs (mixKind P w) es vs∧vs.map (·.1)=kvs.map (·.1):=by
 induction r with
 | nil=>exact⟨[],.nil,.nil,rfl⟩
 | @cons p e ps es h t ih =>
  obtain⟨vs,h1,h2,h3⟩:=ih
  exact⟨(p.1,e.val)::vs,.cons ⟨rfl,h.2.2⟩ h1,.cons h.1 rfl h2,by simp[h3]⟩
theorem DictK.of {P:zL} {w:zQ} {K:PySem.W.Frag} {a:Addr} {kvs:List (Key×V)} {h:Heap} (d:DictK K w a kvs) (x:K.In h):(a == sysModules)=false∧∃vs,KV kvs vs∧h.DictOf (mixKind P w) a vs:=by
 obtain⟨hz,hs,nd,es,ep,lk,r⟩:=d
 obtain⟨vs,h1,h2,h3⟩:=jT (P:=P) r
 refine⟨hs,vs,h1,_,es,ep,x _ _ lk,⟨rfl,rfl,rfl⟩,rfl,fun e he=>l0 (P:=P) r e (by simpa using he),h2,by rw[h3];exact nd⟩
section
variable {X:Cx} {o i e:Expr} {pos:Pos} {td ty:TE}
def aM (K:PySem.W.Frag) (w:zQ) (td ty:TE):TE:=fun σ H Q=>td σ H fun x H1=>ty σ H1 fun y H2=>∃a kvs k v,x=.ref a∧DictK K w a kvs∧y=kV k∧g9 kvs k=some v∧Q v H2
theorem qA (ho:PE X o td) (hi:PE X i ty) (hs:qx i):PE X (.Subscript o i pos) (aM X.K X.w td ty):=by
 intro pins s σ H Q I h
 refine nG PySem.F.slot_dict_getitem.lookup hs (bz (ho pins s σ H _ I h) fun u s1 ⟨x,H1,I1,rx,q1⟩=>bz (hi pins s1 σ H1 _ I1 q1) fun iv s2 ⟨y,H2,I2,ry,a,kvs,k,v,ex,dk,ey,ev,q2⟩=>?_)
 subst ex ey
 obtain rfl:u=As a:=rx
 obtain⟨hd,vs,rel,dd⟩:=dk.of (P:=X.prog) I2.kIn
 refine⟨dd.typeIs,?_⟩
 obtain⟨w',hw,rw'⟩:=GQ (v:=v) (o:=valueAt vs k) (by rw[←ev];exact rel.val k)
 exact wpAny_getItem_of (uS ry) dd.mapOf hw ⟨v,H2,I2.tok _,rw',q2⟩
end
section
variable {X:Cx}
theorem iA:OpR X (compareOp .Is) (fun x y H Q=>∃c,y=.bl c∧Q (.bl (decide (x=.bl c))) H):=by
 intro pins s σ H x y v u Q I rx ry h
 obtain⟨c,rfl,q⟩:=h
 cases ry
 cases x with
 | bl b=>cases rx;exact is_bool (aN I q (by cases b <;> cases c <;> simp))
 | non=>cases rx;exact zo (aN I q (by simp))
 | int i=>obtain⟨t,rfl⟩:=rx;exact zo (aN I q (by simp))
 | str i=>obtain⟨t,rfl⟩:=rx;exact zo (aN I q (by simp))
 | byt i=>obtain⟨t,rfl⟩:=rx;exact zo (aN I q (by simp))
 | flt i=>obtain⟨t,rfl⟩:=rx;exact zo (aN I q (by simp))
 | ref a=>cases rx;exact zo (aN I q (by simp))
 | ty a=>cases rx;exact zo (aN I q (by simp))
theorem mE:OpR X (binaryOp .Mult) (fun x y H Q=>∃c n,x=.str (ar [c])∧y=.int n∧0≤n∧n≤100000∧Q (.str (ar (Bt n.toNat c))) H):=by
 intro pins s σ H x y v u Q I rx ry h
 obtain⟨c,n,rfl,rfl,h0,h1,q⟩:=h
 obtain⟨t,rfl⟩:=rx
 obtain⟨t',rfl⟩:=ry
 have hl:(ar [c]).length=1:=dG [c]
 refine SB.mul ?_ fun t' k=>?_
 ·refine⟨?_,fun _ _=>?_,fun _ _=>?_⟩
  ·have e1:decide (n< -(2^63:Int))=false:=decide_eq_false (by omega)
   have e2:decide (n≥2^63)=false:=decide_eq_false (by omega)
   rw[e1,e2];rfl
  ·rw[hl]
   have h2:1≤n:=by omega
   have:(1:Int)≤(2^63- 1)/ n:=(Int.le_ediv_iff_mul_le (by omega)).mpr (by omega)
   omega
  ·rw[hl]
   unfold Hm
   have:=AQ
   simp
   omega
 ·have e:Hu (ar [c]) n=ar (Bt n.toNat c):=by
   rw[qz (Hu (ar [c]) n)]
   show ar ((Hu ⟨#[c]⟩ n).cps.toList)=_
   rw[mul_one_list]
  exact⟨.str _,H,I.tok _,⟨t',rfl⟩,by rw[e];exact q⟩
end
section
variable {X:Cx}
def i5 (l:List Nat) (lo hi:Option Int):List Nat:=(l.drop (HT.sIx l.length 0 lo)).take (HT.sIx l.length l.length hi- HT.sIx l.length 0 lo)
theorem iB (lo hi:Option Int) (n:Nat):Bi lo hi 1 n=sliceRange ((HT.sIx n 0 lo:Nat):Int) ((HT.sIx n n hi:Nat):Int) 1:=by
 unfold Bi
 have e1:(match lo with | none=>(0:Int) | some i=>max 0 (min (if i< 0 then i+(n:Int)else i) n))=((HT.sIx n 0 lo:Nat):Int):=by
  cases lo with
  | none=>simp[HT.sIx]
  | some i=>simp only[HT.sIx];by_cases h:i< 0 <;> simp only[h,if_true,if_false] <;> omega
 have e2:(match hi with | none=>(n:Int) | some i=>max 0 (min (if i< 0 then i+(n:Int)else i) n))=((HT.sIx n n hi:Nat):Int):=by
  cases hi with
  | none=>simp[HT.sIx]
  | some i=>simp only[HT.sIx];by_cases h:i< 0 <;> simp only[h,if_true,if_false] <;> omega
 simp only[show(1:Int)> 0 by decide,if_true]
 rw[←e1,←e2]
 cases lo <;> cases hi <;> rfl
theorem p4 (l:List Nat) (lo hi:Option Int):FO (ar l) lo hi=ar (i5 l lo hi):=by
 have hn:(ar l).length=l.length:=dG l
 have hk:(Bi lo hi 1 l.length).filterMap ((ar l).cps[·]?)=i5 l lo hi:=by
  rw[iB,ET,pick_run]
  simp[i5]
 have hlen:(Bi lo hi 1 l.length).length=(i5 l lo hi).length:=by
  rw[iB,ET]
  have h1:=HT.sIx_le l.length 0 (zS _) lo
  have h2:=HT.sIx_le l.length l.length (zw _) hi
  simp[i5]
  omega
 unfold FO
 rw[hn]
 split
 ·rename_i h
  have h:(Bi lo hi 1 l.length).length=l.length:=by simpa using h
  have hl:=hlen.symm.trans h
  have e:i5 l lo hi=l:=by
   have h3:(i5 l lo hi).length≤(l.drop (HT.sIx l.length 0 lo)).length:=by unfold i5;simp;omega
   have h4:HT.sIx l.length 0 lo=0∨l.length=0:=by
    rw[FN]at h3;omega
   rcases h4 with h4 | h4
   ·unfold i5 at hl ⊢
    rw[h4]at hl ⊢
    rw[EU]at hl ⊢
    rw[D7]at hl
    exact Ca (by omega)
   ·have:l=[]:=BZ.mp h4
    subst this
    simp[i5]
  rw[e]
 ·rw[hk]
theorem qB:xo X (fun x lo hi H Q=>∃l,x=.str (ar l)∧l.length≤sizeLine∧Q (.str (ar (i5 l lo hi))) H):=by
 intro pins s σ H x v vl vu lo hi sl Q I rx hs pl pu h
 obtain⟨l,rfl,hz,q⟩:=h
 obtain⟨t,rfl⟩:=rx
 obtain⟨a1,rfl,e1⟩:∃a:Option (Int×Tok),vl=partValue a∧a.map (·.1)=lo:=by
  cases pl with
  | none=>exact⟨none,rfl,rfl⟩
  | int i t=>exact⟨some (i,t),rfl,rfl⟩
 obtain⟨a2,rfl,e2⟩:∃a:Option (Int×Tok),vu=partValue a∧a.map (·.1)=hi:=by
  cases pu with
  | none=>exact⟨none,rfl,rfl⟩
  | int i t=>exact⟨some (i,t),rfl,rfl⟩
 have hle:(FO (ar l) lo hi).length≤sizeLine:=B9 (Txt.slice_le _ _ _) (by rw[dG];exact hz)
 refine⟨"str",_,PySem.F.slot_str_getitem.lookup,Gi _ _ _,wpAny_getItem_str_slice (l:=a1) (u:=a2) (st:=none) hs rfl ?_⟩
 subst e1 e2
 refine post_val_or_str ⟨hle,fun t' k=>⟨.str _,H,I.tok _,⟨t',rfl⟩,?_⟩⟩
 have:=p4 l (a1.map (·.1)) (a2.map (·.1))
 unfold FO at this
 show Q (.str (if _ then _ else _)) H
 exact this▸q
theorem qC (hc:X.calm=true):wK X "str.index" (fun x xs H Q=>∃a b,x=.str a∧xs=[.str b]∧0≤DF a b∧Q (.int (DF a b)) H):=by
 intro pins s σ H x xs v us Q I rx rs h
 obtain⟨a,b,rfl,rfl,h0,q⟩:=h
 obtain⟨t,rfl⟩:=rx
 obtain⟨u,rfl,t',rfl⟩:=eS rs
 refine index_or (I.ok.hd hc) (fun e=>?_) fun _ _=>⟨.int _,H,I.tok _,⟨_,rfl⟩,q⟩
 omega
theorem mF {ys:List (List Nat)} :∀{us:List zl},Vals (ys.map fun y=>Dp (ar y)) us→StrsAre us (ys.map ar):=by
 induction ys with
 | nil=>intro us r;cases r;exact .nil
 | cons y ys ih =>
  intro us r
  cases r with
  | cons r1 r2 =>
   obtain⟨t,e⟩:=r1
   subst e
   exact .cons _ t (ih r2)
theorem mG (ys:List (List Nat)):Txt.join (ar []) (ys.map ar)=ar ys.flatten:=by
 have key:∀(r:List (List Nat)) (acc:List Nat),(r.map ar).foldl (fun acc p=>acc++(ar []).cps++p.cps) acc.toArray=(acc++r.flatten).toArray:=by
  intro r
  induction r with
  | nil=>intro acc;simp
  | cons a r ih =>
   intro acc
   rw[An,Ez,List.flatten_cons,←zO,←ih (acc++a)]
   simp[ar]
 cases ys with
 | nil=>rfl
 | cons a r =>
  show Str.mk (((r.map ar)).foldl (fun acc p=>acc++(ar []).cps++p.cps) a.toArray)=_
  rw[key]
  rfl
theorem tz:wK X "str.join" (fun x xs H Q=>∃(p:Addr) (ys:List (List Nat)),x=.str (ar [])∧xs=[.ref p]∧SqL X.K H p (ys.map fun y=>Dp (ar y))∧ys.flatten.length≤100000∧Q (.str (ar ys.flatten)) H):=by
 intro pins s σ H x xs v us Q I rx rs h
 obtain⟨p,ys,rfl,rfl,hp,hl,q⟩:=h
 obtain⟨t,rfl⟩:=rx
 obtain⟨u,rfl,r1⟩:=eS rs
 cases r1
 obtain⟨its,r,pl,hz⟩:=I.list hp
 refine join_list pl.isList (by simpa using mF r) ?_ fun t' k=>⟨.str _,H,I.tok _,⟨t',rfl⟩,by rw[mG];exact q⟩
 have e:((ys.map ar).map (·.length)).sum=ys.flatten.length:=by
  rw[BL,List.length_flatten]
  congr 1
  all_goals exact List.map_congr_left fun y _=>dG y
 have e2:(ar []).length=0:=dG []
 rw[e,e2]
 omega
theorem l4:dh X (.builtin "isinstance") (fun xs H Q=>∃x T t b,xs=[x,.ty T]∧TyOf X.K H x t∧PySem.W.kitOne X.K t (.type T)=some b∧Q (.bl b) H):=by
 intro pins s σ H xs us Q I r h
 obtain⟨x,T,t,b,rfl,ty,e,q⟩:=h
 obtain⟨u,w',rfl,rx,rT⟩:=uR r
 obtain rfl:w'=.type T:=rT
 exact oU I rx ty e fun tk=>⟨.bl b,H,I.tok _,rfl,q⟩
def yr (l:List Nat):It:=⟨fun i _=>i< l.length,fun i H x H'=>H'=H∧∃c,l[i]? =some c∧x=.str (ar [c]),fun i _=>l.length≤i⟩
def wN (tl:TE):TI:=fun σ H R=>tl σ H fun x H1=>∃l,x=.str (ar l)∧R (yr l) H1
end
theorem qD {P:zL} {w:zQ} {K:PySem.W.Frag} {tg:Expr} (l:List Nat) (it:Addr) (ty:String) (t:Tok) (hty:ty="str_ascii_iterator" ∨ty="str_iterator")
  (W:∀A':Ai,A'.handled=none→Walks P w A' it [it] [it] l.length (SignAt (ar l)) (fun i h=>h.IsStrIter it ty (ar l) t i)):
  Turn P w K tg (yr l) [it] it (fun i h=>i≤l.length∧h.IsStrIter it ty (ar l) t i) where
 mem:=by simp
 obj:=fun i h st b hb=>by
  have e:b=it:=by simpa using hb
  subst e
  obtain⟨_,o,e,c,d⟩:=st
  exact⟨o,e,fun v z=>by rw[d]at z;cases z⟩
 keep:=fun i h h' st k=>⟨st.1,by obtain⟨o,e,r⟩:=st.2;exact⟨o,k it (by simp) o e,r⟩⟩
 item:=by
  intro X hP hw hK hc i pins s σ H E I hf st hg
  subst hP hw hK
  obtain⟨f0,f1,f2,f3,f4,f5⟩:=hf it (by simp)
  refine(W X.A (I.ok.hd hc)).item i s _ _ hg st.2 fun v h' tk hv st' kk=>?_
  obtain⟨c,u,hc',rfl⟩:=hv
  have I1:Inv X pins σ H {s with heap:=h',toks:=tk} :=I.turned (fun b o hb e=>kk b o (by simpa using hb) e) f0 f1 f3 f4 f5
  obtain⟨o,e,c1,d⟩:=id st'
  refine⟨_,rfl,kU (s:={s with heap:=h',toks:=tk}) (n:=ty) e c1 d (by rcases hty with rfl | rfl <;> decide) ⟨.str (ar [c]),H,I1,⟨u,rfl⟩,⟨rfl,c,?_,rfl⟩,⟨hg,st'⟩,fun b hb=>(hf b hb).1⟩⟩
  simpa [ar] using hc'
 done:=by
  intro X hP hw hK hc i pins s σ H E I hf st hg
  subst hP hw hK
  obtain⟨f0,f1,f2,f3,f4,f5⟩:=hf it (by simp)
  have e:i=l.length:=Nat.le_antisymm st.1 hg
  subst e
  exact(W X.A (I.ok.hd hc)).done s _ _ st.2 fun h' tk kk=>⟨rfl,I.turned (fun b o hb e=>kk b o (by simpa using hb) e) f0 f1 f3 f4 f5⟩
 self:=fun A i s Q E st h=>by
  rcases hty with rfl | rfl
  ·exact wpAny_pyIter_striter_ascii st.2 h
  ·exact wpAny_pyIter_striter_wide st.2 h
theorem jU {X:Cx} {tg l:Expr} {tl:TE} (hl:PE X l tl):PI X tg l (wN tl):=by
 intro pins s σ H R I h
 refine bz (hl pins s σ H _ I h) fun v s1 ⟨x,H1,I1,r1,q1⟩=>?_
 obtain⟨y,e,q⟩:=q1
 subst e
 obtain⟨t,rfl⟩:=r1
 have hn:(ar y).cps.size=y.length:=by simp[ar]
 have fin:∀(ob:Obj) (ty:String),(ty="str_ascii_iterator" ∨ty="str_iterator")→(∀A':Ai,A'.handled=none→Walks X.prog X.w A' s1.heap.objs.size [s1.heap.objs.size] [s1.heap.objs.size] y.length (SignAt (ar y)) (fun i h=>h.IsStrIter s1.heap.objs.size ty (ar y) t i))→
   (s1.heap.push ob).IsStrIter s1.heap.objs.size ty (ar y) t 0→ye X pins σ tg R (.ref s1.heap.objs.size) {s1 with heap:=s1.heap.push ob} :=fun ob ty hty W st=>by
  refine⟨s1.heap.objs.size,[s1.heap.objs.size],_,_,H1,rfl,I1.kept (t':=s1.toks) fun b o e=>zr _ e,qD y _ ty t hty W,⟨zS _,st⟩,fun b hb=>?_,q⟩
  have e:b=s1.heap.objs.size:=by simpa using hb
  subst e
  exact I1.fpOk (zw _) (I1.hok.fresh (zw _))
 cases ha:(ar y).cps.all (· <128)
 ·exact Fy ha (fin _ "str_iterator" (.inr rfl) (fun A' hA=>hn▸Walks.strWide hA _ (ar y) t) ⟨_,zz _ rfl,rfl,rfl⟩)
 ·exact Fm ha (fin _ "str_ascii_iterator" (.inl rfl) (fun A' hA=>hn▸Walks.strAscii hA _ (ar y) t) ⟨_,zz _ rfl,rfl,rfl⟩)
def bF (env:Env):List (Str×BY)→List (Str×Addr)→List (Str×Addr)
 | [],acc=>acc
 | (n,k)::r,acc=>bF env r (if(k == .free)=true then(n,(env.cells.lookup n).getD 0)::acc else acc)
theorem cZ {scope:Ce} {env:Env} (h:∀x∈scope.names,x.2=.free→∃c,env.cells.lookup x.1=some c):closureFor scope env=pure (bF env scope.names []):=by
 simp only[closureFor]
 have key:∀(names:List (Str×BY)) (acc:List (Str×Addr)),(∀x∈names,x.2=.free→∃c,env.cells.lookup x.1=some c)→
   (forIn names acc fun(x:Str×BY) (cs:List (Str×Addr))=>if(x.2 == .free)=true then(do let a ←cellOf env x.1;pure (A3 ((x.1,a)::cs)))else pure (A3 cs))=(pure (bF env names acc):Sem _):=by
  intro names
  induction names with
  | nil=>intro acc _;rfl
  | cons x r ih =>
   intro acc hx
   obtain⟨n,k⟩:=x
   rw[EA]
   have hr:∀y∈r,y.2=.free→∃c,env.cells.lookup y.1=some c:=fun y hy=>hx y (zR _ hy)
   unfold bF
   by_cases hk:(k == AJ)=true
   ·obtain⟨c,hc⟩:=hx (n,k) zP (by simpa using hk)
    have hc:env.cells.lookup n=some c:=hc
    simp only[hk,if_true]
    unfold cellOf
    simp only[hc,D8]
    exact ih _ hr
   ·simp only[hk,if_false]
    exact ih _ hr
 have:=key scope.names [] h
 rw[this]
 rfl
theorem fg {env:Env} {x:Str} {c:Addr} :∀(names:List (Str×BY)) (acc:List (Str×Addr)),(∀y∈names,y.2=.free→∃c,env.cells.lookup y.1=some c)→(bF env names acc).lookup x=some c→
  ((x,AJ)∈names∧env.cells.lookup x=some c)∨acc.lookup x=some c
 | [],_,_,h=>.inr h
 | (n, k) :: r, acc, hx, h => by
  unfold bF at h
  rcases fg r _ (fun y hy=>hx y (zR _ hy)) h with⟨q1,q2⟩ | q
  ·exact .inl ⟨zR _ q1,q2⟩
  ·by_cases hk:(k == AJ)=true
   ·rw[if_pos hk]at q
    have hk':k=.free:=by simpa using hk
    subst hk'
    rw[Bf]at q
    cases hb:x == n with
    | true =>
     rw[hb]at q
     have e:x=n:=beq_iff_eq.mp hb
     subst e
     obtain⟨c',hc⟩:=hx (x,.free) zP rfl
     have hc:env.cells.lookup x=some c':=hc
     rw[hc]at q
     simp at q
     subst q
     exact .inl ⟨zP,hc⟩
    | false=>rw[hb]at q;exact .inr q
   ·rw[if_neg hk]at q;exact .inr q
theorem gY {env:Env} {x:Str} {c:Addr} :∀(names:List (Str×BY)) (acc:List (Str×Addr)),acc.lookup x=some c→env.cells.lookup x=some c→(bF env names acc).lookup x=some c
 | [],_,h,_=>h
 | (n, k) :: r, acc, h, he => by
  unfold bF
  refine gY r _ ?_ he
  by_cases hk:(k == AJ)=true
  ·rw[if_pos hk,Bf]
   cases hb:x == n with
   | true =>
    have e:x=n:=beq_iff_eq.mp hb
    subst e
    simp[he]
   | false=>exact h
  ·rw[if_neg hk];exact h
theorem gZ {env:Env} {x:Str} {c:Addr} :∀(names:List (Str×BY)) (acc:List (Str×Addr)),(x,AJ)∈names→env.cells.lookup x=some c→(bF env names acc).lookup x=some c
 | (n, k) :: r, acc, h, he => by
  unfold bF
  rcases zU.mp h with e | h
  ·cases e
   exact gY r _ (by simp[he]) he
  ·exact gZ r _ h he
theorem bY:∀(names:List (Str×BY)) (n:Nat) (acc:List (Str×Addr)),cellsFrom n names acc=cellsFrom n names []++acc
 | [],_,_=>rfl
 | (x, k) :: r, n, acc => by
  unfold cellsFrom
  split
  ·rw[bY r _ ((x,n)::acc),bY r _ [(x,n)],zO];rfl
  ·exact bY r n acc
theorem dg:∀(names:List (Str×BY)) (n:Nat) {x:Str} {c:Addr},(x,c)∈cellsFrom n names []→(x,F6)∈names
 | [],_,_,_,h=>by cases h
 | (y, k) :: r, n, x, c, h => by
  unfold cellsFrom at h
  split at h
  ·rename_i hk
   rw[bY]at h
   rcases Ac.mp h with h | h
   ·exact zR _ (dg r _ h)
   ·have e:(x,c)=(y,n):=by simpa using h
    cases e
    have hk':k=.cell:=by simpa using hk
    subst hk'
    exact zP
  ·exact zR _ (dg r _ h)
theorem iC {M:Ey} {A:Ai} {E:zl→zq→Prop} {s:zq} {scope:Ce} {env:Env} {cl:List (Str×Addr)} {Q:Env→zq→Prop}
  (hQ:Q (newEnv scope s.heap.objs.size env.globals (cellsFrom (s.heap.objs.size+1) scope.names cl) env.qual none .none (some env) builtinsNs) {s with heap:=pushCells (s.heap.push {cls:=.type "dict",data:=.dict #[]}) scope.names}):
  wpAny M A (newFunctionEnv scope env.globals cl [] env.qual none .none (some env)) Q E s:=by
 simp only[newFunctionEnv,Fj,if_true]
 refine zh (wpAny_alloc ?_)
 refine zh (wpAny_layCells _ (fun name kind cells=>by cases hkc:kind == F6 <;> simp[hkc]) _ _ _ _ ?_)
 rw[show({s with heap:=s.heap.push {cls:=.type "dict",data:=.dict #[]}} :zq).heap.objs.size=s.heap.objs.size+1 from Bj ..]
 simp only[EW]
 exact zh (zo (zo hQ))
section
variable {prog:zL} {w:zQ} {A:Ai} {R:Gh→zq→Prop} {s:zq}
theorem jV {elt target iter:Expr} {ifs:List Expr} {scope:Ce} {pos:Pos} {it acc:zl} {env:Env} (I:Nat→zq→Prop)
  (turn:∀n s,I n s→wpAny (model prog w) A (pyNext it) (fun r s₁=>match r with
   | none=>R (.ok .next) s₁
   | some v=>wpAny (model prog w) A (letOwnedTupleGo target it v) (fun _ s₁'=>wpAny (model prog w) A (assign target env v) (fun _ s₂=>
     wpAny (model prog w) A (forIn ifs true fun c r=>if r=true then do let ok ←isTrue c env (eval c env);pure (A3 ok)else pure (A3 r)) (fun ok s₃=>
      if ok=true then wpAny (model prog w) A (eval elt env) (fun x s₄=>
       wpAny (model prog w) A (call (.builtin "list.append") [acc,x]) (fun _ s₅=>∃m,m< n∧I m s₅) (fun _ _=>False) s₄) (fun _ _=>False) s₃
      else ∃m,m< n∧I m s₃) (fun _ _=>False) s₂) (fun _ _=>False) s₁') (fun _ _=>False) s₁) (fun _ _=>False) s)
  (n:Nat) (h:I n s):codeAny (model prog w) A (.compLoop (.ListComp elt [⟨target,iter,ifs,0⟩] scope pos) 0 it acc env) R s:=by
 refine codeAny_loop rfl I (fun n s hI=>?_) n h
 show wpAny _ A ((compTurn (.ListComp elt [⟨target,iter,ifs,0⟩] scope pos) 0 it acc env).onRaise (fun x=>do noteFrame x env;theTreesLotGoes x)) _ _ s
 refine wpAny_noted ?_
 rw[compTurn_list]
 refine zh (By (zh (Aq (turn n s hI) (fun r s₁ h₁=>?_) fun _ _ h'=>h'.elim)))
 cases r with
 | none=>exact zo h₁
 | some v =>
  refine zh (Aq h₁ (fun _ s₁' h₁'=>?_) fun _ _ h'=>h'.elim)
  refine zh (Aq h₁' (fun _ s₂ h₂=>zh (Aq h₂ (fun ok s₃ h₃=>?_) fun _ _ h'=>h'.elim)) fun _ _ h'=>h'.elim)
  cases ok with
  | true =>
   rw[if_pos rfl]at h₃
   exact zh (zh (Aq h₃ (fun x s₄ h₄=>zh (Aq h₄ (fun _ s₅ h₅=>zo (zo ⟨rfl,h₅⟩)) fun _ _ h'=>h'.elim)) fun _ _ h'=>h'.elim))
  | false =>
   rw[if_neg zF]at h₃
   exact zo ⟨rfl,h₃⟩
end
def qE (scope:Ce) (x:Str):Bool:=scope.names.lookup x == some .local || scope.names.lookup x == some .cell
def aw (X:Cx) (scope:Ce) (N:List Str) (s:zq) (H:Hp) (C:Addr) (fp:List Addr):Cx:=
 {X with N:=N,s₀:=s,H₀:=H,env:=compEnvC scope (cellsFrom (C+1) scope.names (bF X.env scope.names [])) C X.env,outer:=X.stack,ex:=fp,fn:=qE scope,pn:=[],xe:=fun _ _=>False}
def bh (cap:List (Option Nat)) (σ:St):St:=cap.map fun o=>o.bind fun j=>(σ[j]?).bind id
structure CompScope (X:Cx) (scope:Ce) (N:List Str) (cap:List (Option Nat)):Prop where
 kind:scope.kind=.function
 nd:N.Nodup
 len:cap.length=N.length
 uniq:(scope.names.map (·.1)).Nodup
 free:∀x∈scope.names,x.2=.free→(X.env.kindOf x.1=some .cell∨X.env.kindOf x.1=some .free)
 cap:∀(k:Nat) (x:Str) (j:Nat),N[k]? =some x→cap[k]? =some (some j)→X.N[j]? =some x∧(x,AJ)∈scope.names
theorem cx {α:Type} :∀{l:List (Str×α)} {x:Str} {k:α},(l.map (·.1)).Nodup→(x,k)∈l→l.lookup x=some k
 | (y, j) :: r, x, k, nd, h => by
  obtain⟨n1,n2⟩:=Bo.mp (show(y::r.map (·.1)).Nodup from nd)
  rw[Bf]
  rcases zU.mp h with e | h
  ·cases e;simp
  ·have:(x == y)=false:=beq_eq_false_iff_ne.mpr fun e=>n1 (e▸Ah.mpr ⟨(x,k),h,rfl⟩)
   rw[this]
   exact cx n2 h
theorem dw {env:Env} :∀{names:List (Str×BY)} {x:Str},(names.map fun(p:Str×BY)=>if(p.2 == AJ && env.scope.kind == .function && env.kindOf p.1 == some .cell)=true then(p.1,F6)else(p.1,p.2)).lookup x=
  (names.lookup x).map fun k=>if(k == AJ && env.scope.kind == .function && env.kindOf x == some .cell)=true then .cell else k
 | [],_=>rfl
 | (n, k) :: r, x => by
  rw[An]
  have ih:= @dw env r x
  by_cases hx:x=n
  ·subst hx
   by_cases hc:(k == AJ && env.scope.kind == .function && env.kindOf x == some .cell)=true
   ·simp only[hc,if_true,Bf,beq_self_eq_true,Cf]
   ·rw[if_neg hc,Bf,Bf,beq_self_eq_true];simp only[Cf];rw[if_neg hc]
  ·have hb:(x == n)=false:=beq_eq_false_iff_ne.mpr hx
   by_cases hc:(k == AJ && env.scope.kind == .function && env.kindOf n == some .cell)=true
   ·simp only[hc,if_true,Bf,hb];exact ih
   ·rw[if_neg hc,Bf,Bf,hb];exact ih
def qf (X:Cx) (ifs:List Expr) (t:TT):Prop:=
 ∀ (pins : List (Addr × Obj)) (s : zq) (σ : St) (H : Hp) (Q : Bool → Hp → Prop), Inv X pins σ H s → t σ H Q →
  wpAny (model X.prog X.w) X.A (forIn ifs true fun c r=>if r=true then do let ok ←isTrue c X.env (eval c X.env);pure (A3 ok)else pure (A3 r)) (TP X pins σ Q) X.xe s
def vE:TT:=fun _ H Q=>Q true H
theorem cD {X:Cx} :qf X [] vE:=fun _ _ _ H _ I h=>wpAny_tests_nil ⟨H,I,h⟩
theorem tD {X:Cx} {c:Expr} {t:TT} (h:PT X c t):qf X [c] t:=fun pins s σ H Q I hq=>wpAny_tests_one (h pins s σ H Q I hq)
def Keep:St→St→Prop
 | [],_=>True
 | none::a,_::b=>Keep a b
 | some v::a,some u::b=>v=u∧Keep a b
 | _,_=>False
theorem Keep.get:∀{a b:St} {j:Nat} {v:V},Keep a b→a[j]? =some (some v)→b[j]? =some (some v)
 | [],_,_,_,_,h=>by simp at h
 | none::a,_::b,0,_,_,h=>by simp at h
 | none::a,_::b,j+1,v,k,h=>Keep.get (j:=j) (a:=a) (b:=b) k h
 | some w :: a, some u :: b, 0, v, k, h => by
  have e:w=u:=k.1
  subst e
  exact h
 | some w::a,some u::b,j+1,v,k,h=>Keep.get (j:=j) (a:=a) (b:=b) k.2 h
 | none::_,[],_,_,k,_=>k.elim
 | some _::_,[],_,_,k,_=>k.elim
 | some _::_,none::_,_,_,k,_=>k.elim
def wO (cap:List (Option Nat)) (g:TG) (tf:TT) (te:TE) (σ:St) (H1:Hp) (Q:VK) (J:It):Prop:=∃W:Nat→Nat→List V→Hp→Prop,(∃m,W 0 m [] H1)∧∀i m ys H,W i m ys H→ys.length< sizeLine∧
  ((J.stop i H∧∀D,H D=none→Q (.ref D) (cA H D (.lst ys)))∨
   (J.go i H∧∃N:List V→Hp→Prop,(∀ys' H',N ys' H'→∃m',m'< m∧W (i+1) m' ys' H')∧∀x H',J.yld i H x H'→g x (bh cap σ) H' fun σ2 H2=>Keep (bh cap σ) σ2∧tf σ2 H2 fun b H3=>if b=true then te σ2 H3 fun y H4=>N (ys++ [y]) H4 else N ys H3))
def nJ (cap:List (Option Nat)) (wi:TI) (g:TG) (tf:TT) (te:TE):TE:=fun σ H Q=>wi σ H fun J H1=>wO cap g tf te σ H1 Q J
theorem cF {X:Cx} {scope:Ce} {C:Addr} {x:Str} {c:Addr} (frc:∀x∈scope.names,x.2=.free→∃c,X.env.cells.lookup x.1=some c)
  (h:(cellsFrom (C+1) scope.names (bF X.env scope.names [])).lookup x=some c):(x,c)∈cellsFrom (C+1) scope.names []∨((x,AJ)∈scope.names∧X.env.cells.lookup x=some c):=by
 rw[bY,Fn]at h
 cases e:(cellsFrom (C+1) scope.names []).lookup x with
 | some d =>
  rw[e]at h
  have h:some d=some c:=h
  cases h
  exact .inl (PySem.mem_of_lookup e)
 | none =>
  rw[e]at h
  have h:(bF X.env scope.names []).lookup x=some c:=h
  rcases fg _ _ frc h with q | q
  ·exact .inr q
  ·cases q
theorem l5 {X:Cx} {scope:Ce} {C:Addr} {x:Str} {c:Addr} (uq:(scope.names.map (·.1)).Nodup) (hx:(x,AJ)∈scope.names) (hc:X.env.cells.lookup x=some c):
  (cellsFrom (C+1) scope.names (bF X.env scope.names [])).lookup x=some c:=by
 rw[bY,Fn]
 cases e:(cellsFrom (C+1) scope.names []).lookup x with
 | some d =>
  have h1:=cx uq (dg _ _ (PySem.mem_of_lookup e))
  have h2:=cx uq hx
  rw[h1]at h2;cases h2
 | none=>exact gZ _ _ hx hc
section
variable {X:Cx} {scope:Ce} {N:List Str} {cap:List (Option Nat)} {pins:List (Addr×Obj)} {σ:St} {H:Hp} {s:zq} {C:Addr} {fp:List Addr}
theorem p5 {h4:Heap} (S:CompScope X scope N cap) (I:Inv X pins σ H s) (hC:s.heap.objs.size≤C) (ck:GL h4 (C+1) (cellsFrom (C+1) scope.names []))
  (hf:∀b∈fp,FpOk X pins H b) (hlt:∀b∈fp,b< C):(aw X scope N s H C fp).Ok:=by
 have frc:∀x∈scope.names,x.2=.free→∃c,X.env.cells.lookup x.1=some c:=fun x hx hk=>I.ok.has x.1 (S.free x hx hk)
 have old:∀x c,X.env.cells.lookup x=some c→c< C:=fun x c e=>by
  obtain⟨v,q⟩:=I.cell x c e
  exact zJ q.lt hC
 have own:∀x c,(x,c)∈cellsFrom (C+1) scope.names []→C< c:=fun x c e=>(ck.empty x c e).2
 refine⟨I.ok.mod,S.kind,I.ok.glob,I.ok.blt,hC,fun x y c h1 h2=>?_,fun x hx=>?_,fun x c hfn h=>?_,I.ok.hd,I.ok.frames,.inl rfl,fun b hb=>⟨zX (hlt b hb),fun x c h=>?_⟩,I.bs,B9 I.ok.bsz I.sz,fun b o e hb=>?_,fun b hb z=>?_,I.stack,I.stkFree⟩
 ·rcases cF frc h1 with a | ⟨a1,a2⟩ <;> rcases cF frc h2 with b | ⟨b1,b2⟩
  ·exact name_of_addr ck.apart a b
  ·exact absurd (Es (own x c a) (old y c b2)) (AW _)
  ·exact absurd (Es (own y c b) (old x c a2)) (AW _)
  ·exact I.ok.inj x y c a2 b2
 ·have hx:(relabel scope X.env).names.lookup x=some .cell∨(relabel scope X.env).names.lookup x=some .free:=hx
  have e:(relabel scope X.env).names.lookup x=_:=dw (env:=X.env) (names:=scope.names) (x:=x)
  rw[e]at hx
  cases q:scope.names.lookup x with
  | none=>rw[q]at hx;rcases hx with z | z <;> cases z
  | some k =>
   have hm:=PySem.mem_of_lookup q
   by_cases hk:k=.free
   ·subst hk
    obtain⟨c,hc⟩:=frc _ hm rfl
    exact⟨c,l5 S.uniq hm hc⟩
   ·have hk':(k == AJ)=false:=by simpa using hk
    rw[q]at hx
    simp only[Cf,hk',Gg,A5,if_false]at hx
    have hkc:k=.cell:=by
     rcases hx with z | z
     ·exact Ad z
     ·exact absurd (Ad z) hk
    subst hkc
    exact E5.mp (PySem.W.cellsFrom_some scope.names (C+1) _ (.inl q))
 ·rcases cF frc h with a | ⟨a1,a2⟩
  ·exact B9 hC (Ct (own x c a))
  ·have q:=cx S.uniq a1
   have z:qE scope x=true:=hfn
   unfold qE at z
   rw[q]at z
   exact absurd z (by decide)
 ·rcases cF frc h with a | ⟨a1,a2⟩
  ·exact CL (Es (hlt b hb) (own x c a))
  ·exact(hf b hb).2.2.2.2.1 x c a2
 ·rcases (hf b hb).2.2.2.1 with z | z
  ·exact I.ok.noex b o e z
  ·exact absurd (zJ (zJ (zI e) I.ok.bsz) z) (AW _)
 ·rcases zU.mp (I.stkSub b z)with q | q
  ·exact(hf b hb).2.1 q
  ·exact(hf b hb).2.2.1 q
theorem iD {s4:zq} (S:CompScope X scope N cap) (I:Inv X pins σ H s) (hC:s.heap.objs.size≤C) (ck:GL s4.heap (C+1) (cellsFrom (C+1) scope.names []))
  (hf:∀b∈fp,FpOk X pins H b) (hlt:∀b∈fp,b< C) (h4:∃h' tk,s4={s with heap:=h',toks:=tk}) (hn:s4.heap.Ns C fun _=>none) (hk:∀b o,s.heap.get? b=some o→s4.heap.get? b=some o):
  Inv (aw X scope N s H C fp) [] (bh cap σ) H s4:=by
 have frc:∀x∈scope.names,x.2=.free→∃c,X.env.cells.lookup x.1=some c:=fun x hx hk=>I.ok.has x.1 (S.free x hx hk)
 obtain⟨h',tk,rfl⟩:=h4
 refine⟨p5 S I hC ck hf hlt,rfl,I.bare,Un.kept hk,⟨_,hn,fun i x v e1 e2 e3=>?_⟩,fun x c h=>?_,I.hok.fresh hC,fun x c h=>?_,fun p hp=>absurd (show p∈([]:List (Addr×Obj))from hp) (by simp),I.hok.kept hk,?_⟩
 ·have e1:N[i]? =some x:=e1
  unfold bh at e2
  rw[zA]at e2
  cases q:cap[i]? with
  | none=>rw[q]at e2;cases e2
  | some o =>
   cases o with
   | none=>rw[q]at e2;cases e2
   | some j =>
    rw[q]at e2
    obtain⟨hj,hm⟩:=S.cap i x j e1 q
    have e2:σ[j]?.bind id=some v:=Ad e2
    have e2':σ[j]? =some (some v):=by
     cases z:σ[j]? with
     | none=>rw[z]at e2;cases e2
     | some o=>rw[z]at e2;exact congrArg some e2
    have kd:=S.free _ hm rfl
    obtain⟨m,_,hl⟩:=I.loc
    obtain⟨u,r,lk⟩:=hl j x v hj e2' (by rcases kd with z | z;exact .inr (.inl z);exact .inr (.inr z))
    refine⟨u,r,.inr ?_⟩
    rcases lk with⟨z,_⟩ | ⟨_,c,hc,hcell⟩
    ·rcases kd with q | q <;> · rw[show X.env.kindOf x=_ from q]at z;cases z
    ·refine⟨?_,c,l5 S.uniq hm hc,hcell.keeps hk⟩
     have e:(relabel scope X.env).names.lookup x=_:=dw (env:=X.env) (names:=scope.names) (x:=x)
     rw[cx S.uniq hm]at e
     simp only[Cf]at e
     show(relabel scope X.env).names.lookup x=some .cell∨(relabel scope X.env).names.lookup x=some .free
     rw[e]
     split
     ·exact .inl rfl
     ·exact .inr rfl
 ·rcases cF frc h with a | ⟨a1,a2⟩
  ·exact⟨_,(ck.empty x c a).1⟩
  ·obtain⟨v,q⟩:=I.cell x c a2
   exact⟨v,q.keeps hk⟩
 ·rcases cF frc h with a | ⟨a1,a2⟩
  ·exact I.hok.fresh (B9 hC (Ct (ck.empty x c a).2))
  ·exact I.freeC x c a2
 ·show(bh cap σ).length=N.length
  unfold bh
  rw[A2,S.len]
end
abbrev gb (its:List zl) (k:Nat):Obj:={cls:=.type "list",data:=.seq its.toArray k}
section
variable {X:Cx} {scope:Ce} {N:List Str} {cap:List (Option Nat)} {tg iter elt:Expr} {ifs:List Expr} {pos:Pos} {wi:TI} {g:TG} {tf:TT} {te:TE}
theorem jw (S:CompScope X scope N cap) (hc:X.calm=true)
  (hg:∀s H C fp,PG (aw X scope N s H C fp) tg g) (hf:∀s H C fp,qf (aw X scope N s H C fp) ifs tf) (he:∀s H C fp,PE (aw X scope N s H C fp) elt te)
  {pins:List (Addr×Obj)} {σ:St} {H2:Hp} {s2:zq} {it:Addr} {fp:List Addr} {tn:Nat→Heap→Prop} {J:It} {Qv:VK} {E:zl→zq→Prop} {RR:zl→Addr→Gh→zq→Prop}
  (I2:Inv X pins σ H2 s2) (T:Turn X.prog X.w X.K tg J fp it tn) (st2:tn 0 s2.heap) (f2:∀b∈fp,FpOk X pins H2 b) {W:Nat→Nat→List V→Hp→Prop} (w0:∃m,W 0 m [] H2)
  (turn:∀i m ys H,W i m ys H→ys.length< sizeLine∧((J.stop i H∧∀D,H D=none→Qv (.ref D) (cA H D (.lst ys)))∨
   (J.go i H∧∃N:List V→Hp→Prop,(∀ys' H',N ys' H'→∃m',m'< m∧W (i+1) m' ys' H')∧∀x H',J.yld i H x H'→g x (bh cap σ) H' fun σ2 H2=>Keep (bh cap σ) σ2∧tf σ2 H2 fun b H3=>if b=true then te σ2 H3 fun y H4=>N (ys++ [y]) H4 else N ys H3)))
  (fin:∀(D C:Addr) (σ':St) (H':Hp) (s':zq) (its:List zl) (k:Nat) (ys:List V),s2.heap.objs.size≤D→s2.heap.objs.size≤C→D≠C→Inv (aw X scope N s2 H2 C fp) [(D,gb its k)] σ' H' s'→Vals ys its→ys.length≤sizeLine→
   Qv (.ref D) (cA H' D (.lst ys))→RR (.ref D) C (.ok .next) s'):
  wpAny (model X.prog X.w) X.A (newList []) (fun acc s₃=>wpAny (model X.prog X.w) X.A (newFunctionEnv scope X.env.globals (bF X.env scope.names []) [] X.env.qual none .none (some X.env)) (fun cenv s₄=>
   codeAny (model X.prog X.w) X.A (.compStart (.ListComp elt [⟨tg,iter,ifs,0⟩] scope pos) 0 (.ref it) acc {cenv with scope:=relabel scope X.env}) (RR acc cenv.locals) s₄) E s₃) E s2:=by
 refine Ap (iC ?_)
 generalize hD:s2.heap.objs.size=D
 generalize hH3:s2.heap.push {cls:=.type "list",dict:=none,data:=.seq ([]:List zl).toArray} =h3
 have hz3:h3.objs.size=D+1:=by rw[←hH3,Bj,hD]
 dsimp only
 have eC:({s2 with heap:=h3} :zq).heap.objs.size=D+1:=hz3
 rw[show h3.objs.size=D+1 from hz3]
 generalize hH4:pushCells (h3.push {cls:=.type "dict",data:=.dict #[]}) scope.names=h4
 have hz3':(h3.push {cls:=.type "dict",data:=.dict #[]}).objs.size=D+1+1:=by rw[Bj,hz3]
 have ck:GL h4 (D+1+1) (cellsFrom (D+1+1) scope.names []):=by
  have:=cellsFrom_ok scope.names (h3.push {cls:=.type "dict",data:=.dict #[]}) (D+1+1) [] ⟨fun _ _ hm=>(nomatch hm),Ck⟩ (by rw[hz3'];exact zw _)
  rw[hz3',hH4]at this
  exact this
 have k23:∀b o,s2.heap.get? b=some o→h3.get? b=some o:=fun b o e=>by rw[←hH3];exact zr _ e
 have k34:∀b o,h3.get? b=some o→h4.get? b=some o:=fun b o e=>by rw[←hH4];exact Ds _ _ b o (zr _ e)
 have hD4:h4.get? D=some (gb [] 0):=k34 _ _ (by rw[←hH3,←hD];exact zz _ rfl)
 have hn4:h4.Ns (D+1) fun _=>none:=by
  rw[←hH4,←hz3]
  exact(Hc h3 (.type "dict")).keeps (Ds _ _)
 have fpD:∀b∈fp,b< D:=fun b hb=>by
  obtain⟨o,e,_⟩:=T.obj _ _ st2 b hb
  rw[←hD];exact zI e
 have hlt:∀b∈fp,b< D+1:=fun b hb=>DV (fpD b hb)
 have hDC:s2.heap.objs.size≤D+1:=by rw[hD];exact DW _
 have hDs:s2.heap.objs.size≤D:=by rw[hD];exact zw _
 have IC:Inv (aw X scope N s2 H2 (D+1) fp) [] (bh cap σ) H2 {s2 with heap:=h4} :=
  iD S I2 hDC ck f2 hlt ⟨_,_,rfl⟩ hn4 fun b o e=>k34 b o (k23 b o e)
 have okC:=IC.ok
 have nfs:∀{b:Addr},s2.heap.objs.size≤b→b∉frs X.stack:=fun {b} hb hm=>by
  obtain⟨_,o,ho,_⟩:=I2.stack.mem hm
  exact absurd (zJ (zI ho) hb) (AW _)
 have frc:∀x∈scope.names,x.2=.free→∃c,X.env.cells.lookup x.1=some c:=fun x hx hk=>I2.ok.has x.1 (S.free x hx hk)
 have cellsD:∀x c,(aw X scope N s2 H2 (D+1) fp).env.cells.lookup x=some c→c≠D:=fun x c e=>by
  rcases cF frc e with a | ⟨_,a⟩
  ·have q:D+1+1≤c:=(ck.empty x c a).2
   exact CL (zJ (zJ (Cu D) (DW _)) q)
  ·obtain⟨v,q⟩:=I2.cell x c a
   have:=q.lt
   rw[hD]at this
   exact zX this
 have fpO:∀{H':Hp} {its:List zl} {k:Nat},(∀b∈fp,H' b=none)→∀b∈fp,FpOk (aw X scope N s2 H2 (D+1) fp) [(D,gb its k)] H' b:=fun {H' its k} hn b hb=>
  ⟨hn b hb,zX (hlt b hb),okC.exfs b hb,.inl hb,(okC.exf b hb).2,fun p hp=>by
   have e:p=(D,gb its k):=by simpa [aw] using hp
   subst e
   exact CL (fpD b hb)⟩
 have pinD:∀{σ':St} {H':Hp} {s':zq} {its:List zl} {k:Nat},Inv (aw X scope N s2 H2 (D+1) fp) [] σ' H' s'→s'.heap.get? D=some (gb its k)→H' D=none→Inv (aw X scope N s2 H2 (D+1) fp) [(D,gb its k)] σ' H' s':=fun {σ' H' s' its k} J e n=>
  J.pins_of fun p hp=>by
   have e':p=(D,gb its k):=by simpa using hp
   subst e'
   exact⟨e,n,zX (Cu _),nfs hDs,fun v z=>by
    have z':Gj its.toArray k=DC v:=z
    cases z'⟩
 have loop:codeAny (model X.prog X.w) X.A (.compLoop (.ListComp elt [⟨tg,iter,ifs,0⟩] scope pos) 0 (.ref it) (.ref D) (aw X scope N s2 H2 (D+1) fp).env) (RR (.ref D) (D+1)) {s2 with heap:=h4} :=by
  obtain⟨m0,w0⟩:=w0
  refine jV (fun n s'=>∃i ys its k σ' H',Inv (aw X scope N s2 H2 (D+1) fp) [(D,gb its k)] σ' H' s'∧tn i s'.heap∧(∀b∈fp,H' b=none)∧Vals ys its∧(∀(j:Nat) (v:V),(bh cap σ)[j]? =some (some v)→σ'[j]? =some (some v))∧W i n ys H') ?_ m0
   ⟨0,[],[],0,bh cap σ,H2,pinD IC hD4 (I2.hok.fresh hDs),T.keep _ _ _ st2 fun b hb o e=>k34 b o (k23 b o e),fun b hb=>(f2 b hb).1,.nil,fun _ _ e=>e,w0⟩
  rintro n s3 ⟨i,ys,its,k,σ3,H3,I3,st3,fr3,rv,kp,w3⟩
  obtain⟨hyl,tr⟩:=turn i n ys H3 w3
  have pin3:=I3.pin (D,gb its k) (A0 _ zP)
  rcases tr with⟨stop,qn⟩ | ⟨go,NN,hNN,step⟩
  ·refine bz (T.done (aw X scope N s2 H2 (D+1) fp) rfl rfl rfl hc i _ s3 σ3 H3 _ I3 (fpO fr3) st3 stop) fun r s4 ⟨hr,I4⟩=>?_
   subst hr
   exact fin D (D+1) σ3 H3 s4 its k ys hDs hDC (zX (Cu _)) I4 rv (Ct hyl) (qn D pin3.2.1)
  ·have I3':Inv (aw X scope N s2 H2 (D+1) fp) [(D,gb its k)] (bh cap σ) H3 s3:=I3.weak (by rw[I3.len,IC.len]) kp
   refine bz (T.item (aw X scope N s2 H2 (D+1) fp) rfl rfl rfl hc i _ s3 _ H3 _ I3' (fpO fr3) st3 go) fun r s4 ⟨u,hr,h4⟩=>?_
   subst hr
   refine bz h4 fun _ s5 ⟨x,H5,I5,r5,y5,st5,fr5⟩=>?_
   have I5':=I5.pinned (fpO fr5) (T.obj _ _ st5)
   refine bz (hg _ _ _ _ _ s5 _ H5 x u _ I5' r5 (step x H5 y5)) fun _ s6 ⟨σ6,H6,I6,kp6,q6⟩=>?_
   refine bz (hf _ _ _ _ _ s6 σ6 H6 _ I6 q6) fun ok s7 ⟨H7,I7,q7⟩=>?_
   have back:∀{s8:zq} {H8:Hp},Inv (aw X scope N s2 H2 (D+1) fp) ([(D,gb its k)]++gH fp s5.heap) σ6 H8 s8→tn (i+1) s8.heap∧(∀b∈fp,H8 b=none)∧s8.heap.get? D=some (gb its k)∧H8 D=none:=fun {s8 H8} I8=>by
    have at_:∀b∈fp,∀o,s5.heap.get? b=some o→s8.heap.get? b=some o∧H8 b=none:=fun b hb o e=>by
     have z:=I8.pin (b,o) (A0 _ (A0 _ (dt hb e)))
     exact⟨z.1,z.2.1⟩
    have pd:=I8.pin (D,gb its k) (A0 _ (Di _ zP))
    refine⟨T.keep _ _ _ st5 fun b hb o e=>(at_ b hb o e).1,fun b hb=>?_,pd.1,pd.2.1⟩
    obtain⟨o,e,d⟩:=T.obj _ _ st5 b hb
    exact(at_ b hb o e).2
   cases ok with
   | false =>
    rw[if_neg zF]at q7 ⊢
    obtain⟨m',hm,w'⟩:=hNN _ _ q7
    obtain⟨t7,f7,d7,n7⟩:=back I7
    exact⟨m',hm,i+1,ys,its,k,σ6,H7,I7.unpinned,t7,f7,rv,fun j v e=>Keep.get kp6 e,w'⟩
   | true =>
    rw[if_pos rfl]at q7 ⊢
    refine bz (he _ _ _ _ _ s7 σ6 H7 _ I7 q7) fun y8 s8 ⟨y,H8,I8,r8,q8⟩=>?_
    obtain⟨m',hm,w'⟩:=hNN _ _ q8
    obtain⟨t8,f8,d8,n8⟩:=back I8
    refine append_at (D:=D) (its:=its.toArray) (n:=k) d8 (fun h' hs' hD'=>?_) (by rw[zK,←rv.length];exact Ct hyl)
    have J0:Inv (aw X scope N s2 H2 (D+1) fp) [] σ6 H8 s8:=I8.pins_of fun p hp=>by cases hp
    have J1:Inv (aw X scope N s2 H2 (D+1) fp) [] σ6 H8 {s8 with heap:=h'} :=J0.turned (it:=D) (t':=s8.toks) (fun b o hb e=>(hs'.2 b hb).trans e) n8 (zX (Cu _)) (.inr hDs) cellsD fun p hp=>by
     have:p∈([]:List (Addr×Obj)):=hp
     cases this
    refine⟨m',hm,i+1,ys++ [y],its++ [y8],k+1,σ6,H8,pinD J1 (by simpa using hD') n8,T.keep _ _ _ t8 fun b hb o e=>(hs'.2 b (zX (fpD b hb))).trans e,f8,rv.append (.cons r8 .nil),fun j v e=>Keep.get kp6 e,w'⟩
 exact codeAny_compStart_list loop (Aq (T.self _ 0 _ _ _ (T.keep _ _ _ st2 fun b hb o e=>k34 b o (k23 b o e)) loop) (fun _ _ h=>h) fun _ _ h=>h)
end
section
variable {X:Cx} {scope:Ce} {N:List Str} {cap:List (Option Nat)} {tg iter elt:Expr} {ifs:List Expr} {pos:Pos} {wi:TI} {g:TG} {tf:TT} {te:TE}
theorem l7 {pins:List (Addr×Obj)} {σ σ':St} {H2 H':Hp} {s2 s':zq} {fp:List Addr} {D C:Addr} {its:List zl} {k:Nat} {ys:List V} {h':Heap} (I2:Inv X pins σ H2 s2) (f2:∀b∈fp,FpOk X pins H2 b)
  (hD:s2.heap.objs.size≤D) (hC:s2.heap.objs.size≤C) (hDC:D≠C) (I':Inv (aw X scope N s2 H2 C fp) [(D,gb its k)] σ' H' s') (rv:Vals ys its) (hl:ys.length≤sizeLine) (hs:A9 C s'.heap h'):
  Inv X pins σ (cA H' D (.lst ys)) {s' with heap:=h'} :=by
 have pd:=I'.pin (D,gb its k) (A0 _ zP)
 have nD:H' D=none:=pd.2.1
 have nC:H' C=none:=I'.free
 have lt2:∀b o,s2.heap.get? b=some o→b≠D∧b≠C:=fun b o e=>⟨zX (zJ (zI e) hD),zX (zJ (zI e) hC)⟩
 have hk:∀b o,b≠C→s'.heap.get? b=some o→h'.get? b=some o:=fun b o hb e=>(hs.2 b hb).trans e
 have B:Un (frs X.stack) fp H2 H' s2.heap s'.heap:=I'.base
 have tr:∀b u,H' b=some u→b≠D∧b≠C:=fun b u e=>⟨fun z=>(by rw[z,nD]at e;cases e),fun z=>(by rw[z,nC]at e;cases e)⟩
 refine I2.call' (ch:=fp) I'.os ⟨fun b o e n hb hx=>?_,fun b o e n hb hx=>?_,fun b o e n hx=>?_,fun b o e hx=>?_,fun b xs e=>?_,fun b o u e=>?_,fun b ps e=>?_⟩ (fun b u e=>?_) I'.bare fun b hb=>⟨(f2 b hb).2.2.2.1,(f2 b hb).2.1,(f2 b hb).2.2.2.2.1,(f2 b hb).2.2.2.2.2⟩
 ·exact hk b o (lt2 b o e).2 (B.keep b o e n hb hx)
 ·obtain⟨sl,q⟩:=B.slot b o e n hb hx
  exact⟨sl,hk b _ (lt2 b o e).2 q⟩
 ·rw[aJ (lt2 b o e).1];exact B.free b o e n hx
 ·obtain⟨o',q⟩:=B.there b o e hx
  exact⟨o',hk b _ (lt2 b o e).2 q⟩
 ·rw[aJ (tr b _ (B.tups b xs e)).1];exact B.tups b xs e
 ·rw[aJ (tr b _ (B.frzs b o u e)).1];exact B.frzs b o u e
 ·obtain⟨more,q⟩:=B.tbls b ps e
  exact⟨more,by rw[aJ (tr b _ q).1];exact q⟩
 ·by_cases hb:b=D
  ·subst hb
   rw[aI]at e;cases e
   exact⟨hl,its,k,rv,hk _ _ hDC pd.1⟩
  ·rw[aJ hb]at e
   refine(I'.hok b u e).stay (fun c w' hc q=>hk c w' ?_ q) (fun c q=>by rw[aJ (tr c _ q).1];exact q) fun c xs q=>by rw[aJ (tr c _ q).1];exact q
   rcases hc with z | z
   ·rw[z];exact(tr b u e).2
   ·exact(tr c _ z).2
theorem eK (S:CompScope X scope N cap):∀x∈scope.names,x.2=.local→scope.names.lookup x.1=some .local:=fun x hx hl=>cx S.uniq (by rw[←hl];exact hx)
theorem eL (S:CompScope X scope N cap) (hc:X.calm=true) (hi:PI X tg iter wi)
  (hg:∀s H C fp,PG (aw X scope N s H C fp) tg g) (hf:∀s H C fp,qf (aw X scope N s H C fp) ifs tf) (he:∀s H C fp,PE (aw X scope N s H C fp) elt te)
  (hs:∀x,foldedSetIterable iter X.env x=pure x:=by intro _;rfl):PE X (.ListComp elt [⟨tg,iter,ifs,0⟩] scope pos) (nJ cap wi g tf te):=by
 intro pins s σ H Q I h
 rw[eval_ListComp]
 have frc:∀x∈scope.names,x.2=.free→∃c,X.env.cells.lookup x.1=some c:=fun x hx hk=>I.ok.has x.1 (S.free x hx hk)
 refine BQ (use:=none) rfl hs (cZ frc) S.kind (eK S) (bz (hi pins s σ H _ I h) fun v s1 h1=>bz h1 fun itv s2 h2=>?_)
 obtain⟨it,fp,tn,J,H2,rfl,I2,T,st2,f2,W,w0,turn⟩:=h2
 refine jw (RR:=fun acc C=>compPost (model X.prog X.w) X.A X.xe none (EP X pins σ Q) acc C) S hc hg hf he I2 T st2 f2 w0 turn fun D C σ' H' s' its k ys hD hC hDC I' rv hl q=>?_
 obtain⟨m,hn,_⟩:=I'.loc
 exact⟨m,hn,fun h' hs'=>⟨.ref D,_,l7 I2 f2 hD hC hDC I' rv hl hs',rfl,q⟩⟩
end
section
variable {X:Cx} {scope:Ce} {N:List Str} {cap:List (Option Nat)} {tg iter elt:Expr} {ifs:List Expr} {pos spos py:Pos} {wi:TI} {g:TG} {tf:TT} {te:TE} {i:Nat} {y:Str}
theorem mH (hN:X.N.Nodup) (hi':X.N[i]? =some y) (hy:wl X.env.scope y) (S:CompScope X scope N cap) (hc:X.calm=true) (hi:PI X tg iter wi)
  (hg:∀s H C fp,PG (aw X scope N s H C fp) tg g) (hf:∀s H C fp,qf (aw X scope N s H C fp) ifs tf) (he:∀s H C fp,PE (aw X scope N s H C fp) elt te)
  (hsw:swapsWith (.ListComp elt [⟨tg,iter,ifs,0⟩] scope pos) (some (.Name y py)) spos.line X.env=pure true:=by rfl)
  (hs:∀x,foldedSetIterable iter X.env x=pure x:=by intro _;rfl) (hfn:X.fn y=true∨X.env.scope.names.lookup y=some .local:=by first | exact .inl rfl | exact .inr rfl | assumption):
  PS X (.Assign [.Name y py] (.ListComp elt [⟨tg,iter,ifs,0⟩] scope pos) spos) (bA (nJ cap wi g tf te) (aO i)):=by
 intro pins s σ H D I h
 rw[exec_Assign_Name_used _ _ _ _ hsw]
 refine zh (By (zh ?_))
 show wpAny _ X.A (do let _ ←comprehension (.ListComp elt [⟨tg,iter,ifs,0⟩] scope pos) scope X.env _ (newList []) false (eval iter X.env) (some (assign (.Name y py) X.env))) _ _ s
 have frc:∀x∈scope.names,x.2=.free→∃c,X.env.cells.lookup x.1=some c:=fun x hx hk=>I.ok.has x.1 (S.free x hx hk)
 refine zh (Aq (BQ (use:=some (assign (.Name y py) X.env)) (Q:=fun _ s'=>SP X pins D .next s') rfl hs (cZ frc) S.kind (eK S) (bz (hi pins s σ H _ I h) fun v s1 h1=>bz h1 fun itv s2 h2=>?_)) (fun _ s' hq=>zo (zo hq)) fun _ _ e=>e)
 obtain⟨it,fp,tn,J,H2,rfl,I2,T,st2,f2,W,w0,turn⟩:=h2
 refine jw (Qv:=fun x H1=>aO i x σ H1 D.nx) (RR:=fun acc C=>compPost (model X.prog X.w) X.A X.xe (some (assign (.Name y py) X.env)) (fun _ s'=>SP X pins D .next s') acc C) S hc hg hf he I2 T st2 f2 w0 turn fun d C σ' H' s' its k ys hD hC hDC I' rv hl q=>?_
 obtain⟨m,hn,_⟩:=I'.loc
 have I3:Inv X pins σ (cA H' d (.lst ys)) s':=l7 (h':=s'.heap) I2 f2 hD hC hDC I' rv hl (.refl ..)
 have nC:(cA H' d (.lst ys)) C=none:=by rw[aJ (Df hDC)];exact I'.free
 have cL:C≠X.env.locals:=fun z=>absurd (zJ I2.lt hC) (by rw[z];exact AW _)
 have cc:∀x c,X.env.cells.lookup x=some c→c≠C:=fun x c e z=>by
  obtain⟨v,q⟩:=I2.cell x c e
  exact absurd (zJ q.lt hC) (by rw[z];exact AW _)
 show wpAny _ X.A (assign (.Name y py) X.env (.ref d)) _ _ _
 refine Ft (jp (v:=.ref d) I3 hN hi' hy rfl (fun s4 I4 ⟨a,sb,ha⟩=>?_) hfn)
 have aC:C≠a:=by
  rcases ha with z | z
  ·rw[z];exact cL
  ·exact Df (cc _ _ z)
 refine⟨m,hn.sameBut sb aC,fun h' hs'=>?_⟩
 exact⟨_,_,I4.turned (it:=C) (t':=s4.toks) (fun b o hb e=>(hs'.2 b hb).trans e) nC cL (.inr (B9 I2.sz hC)) cc (fun p hp z=>absurd (zJ (zI (I2.pin p hp).1) hC) (by rw[z];exact AW _)),q⟩
end
inductive Src where
 | lst (a:Addr) | tup (a:Addr) | str (l:List Nat)
def Src.has (K:PySem.W.Frag) (H:Hp):Src→List V→Prop
 | .lst a,xs=>SqL K H a xs
 | .tup a,xs=>SqT K H a xs
 | .str l,xs=>xs=l.map fun c=>Dp (ar [c])
def Src.at (it:Addr) (i:Nat) (h:Heap):Src→Prop
 | .lst a=>h.IsListIter it a i
 | .tup a=>h.IsTupleIter it a i
 | .str l=>∃t,h.IsStrIter it "str_ascii_iterator" (ar l) t i∨h.IsStrIter it "str_iterator" (ar l) t i
def Src.val:Src→V
 | .lst a=>.ref a
 | .tup a=>.ref a
 | .str l=>.str (ar l)
section
variable {P:zL} {w:zQ} {A:Ai} {E:zl→zq→Prop} {s:zq}
theorem jW {j a:Addr} {k:Nat} {us:Array zl} {x:zl} {Q:zl→zq→Prop} (g:s.heap.IsTupleIter j a k) (ga:s.heap.IsTuple a us) (gx:us[k]? =some x)
  (q:∀h',h'.IsTupleIter j a (k+1)→A9 j s.heap h'→Q x {s with heap:=h'}):wpAny (model P w) A (Ao (.ref j)) Q E s:=by
 obtain⟨ob,e1,e2,e3⟩:=id g;obtain⟨ot,f1,_,nn,f3⟩:=ga
 unfold Ao
 refine zh (Ay (name:=zx "__next__") g.typeIs PySem.F.slot_tuple_iterator_next (Ak PySem.F.slot_tuple_iterator_next g.typeIs PySem.F.entry_tuple_iterator_next ?_ (PySem.F.args_tuple_iterator_next_1 _)))
 show wpAny (model P w) _ (field (.ref j) 0 >>= _) _ _ s
 refine zh (B6 e1 e3 (x:=.ref a) rfl ?_)
 show wpAny (model P w) _ (if(As a == Aw)=true then _ else _) _ _ s
 rw[if_neg (show ¬((As a == Aw)=true)from zF)]
 show wpAny (model P w) _ (field (.ref j) 1 >>= _) _ _ s
 refine zh (B6 e1 e3 (x:=.int k 0) rfl ?_)
 show wpAny (model P w) _ (seqItems? (.ref a) >>= _) _ _ s
 refine zh (Bk f1 f3 ?_)
 simp only[AA,gx]
 refine zh (C0 e1 e3 (by simp) (zo ⟨x,rfl,zo (q _ ⟨_,Bq _ e1 (Obj.isFreed_of_fields (Fo e3 _)),(Obj.cls_mapFields ..).trans e2,(by rw[Fo e3];simp[rawInt])⟩ (AK ..))⟩))
theorem l8 {j a:Addr} {k:Nat} {us:Array zl} {Q:zl→zq→Prop} (hh:A.handled=none) (g:s.heap.IsTupleIter j a k) (ga:s.heap.IsTuple a us) (gx:us[k]? =none)
  (q:∀h' e,DX j s.heap h'→(∃o,h'.get? e=some o∧o.cls=.type "StopIteration")→E (.ref e) {s with heap:=h'}):wpAny (model P w) A (Ao (.ref j)) Q E s:=by
 obtain⟨ob,e1,e2,e3⟩:=id g;obtain⟨ot,f1,_,nn,f3⟩:=ga
 unfold Ao
 refine zh (Ay (name:=zx "__next__") g.typeIs PySem.F.slot_tuple_iterator_next (Ak PySem.F.slot_tuple_iterator_next g.typeIs PySem.F.entry_tuple_iterator_next ?_ (PySem.F.args_tuple_iterator_next_1 _)))
 show wpAny (model P w) _ (field (.ref j) 0 >>= _) _ _ s
 refine zh (B6 e1 e3 (x:=.ref a) rfl ?_)
 show wpAny (model P w) _ (if(As a == Aw)=true then _ else _) _ _ s
 rw[if_neg (show ¬((As a == Aw)=true)from zF)]
 show wpAny (model P w) _ (field (.ref j) 1 >>= _) _ _ s
 refine zh (B6 e1 e3 (x:=.int k 0) rfl ?_)
 show wpAny (model P w) _ (seqItems? (.ref a) >>= _) _ _ s
 refine zh (Bk f1 f3 ?_)
 simp only[AA,gx]
 refine zh (BC (zh (C0 e1 e3 (by simp) ?_)))
 show wpAny (model P w) _ (newExc (.type "StopIteration") [] >>= _) _ _ _
 refine zh ?_;simp only[newExc,newTuple]
 refine zh (Ap (zh (m:=firstArgMember _ _) (EX (a:=Aw) (by first | rfl | (simp only[firstArgMember];rfl)) (Ap ?_ (by size_fits)))) (by size_fits))
 simp only[raiseNew];refine zh (F7 ?_)
 first | rw[show A.in1.handled=none from hh] | rw[hh]
 exact zh (zo (G2 (q _ _ (((AK ..).extBut.push _).push _) ⟨_,zz _ rfl,rfl⟩)))
theorem qF (hh:A.handled=none) (j a:Addr) (ne:a≠j) (us:Array zl):GI P w A j [j,a] us.size (fun k v=>us[k]? =some v) (fun k h=>h.IsTupleIter j a k∧h.IsTuple a us) where
 live:=fun _ _ st=>by obtain⟨⟨o,e,_⟩,_⟩:=st;exact⟨o,e⟩
 frame:=fun _ _ _ st hk=>⟨st.1.at fun o e=>hk j (by simp) o e,by obtain⟨o,e,r⟩:=st.2;exact⟨o,hk a (by simp) o e,r⟩⟩
 item:=fun k s Q E hk st q=>jW st.1 st.2 (x:=us[k]) (by simp[hk]) fun h' g' sb=>q _ h' s.toks (by simp[hk]) ⟨g',by obtain⟨o,e,r⟩:=st.2;exact⟨o,(sb.2 a ne).trans e,r⟩⟩ sb
 done:=fun s Q E st q=>l8 hh st.1 st.2 (by simp) q
theorem Src.draws {X:Cx} {pins:List (Addr×Obj)} {σ:St} {H:Hp} {s0:zq} {c:Src} {xs:List V} {it:Addr} {i:Nat} (hh:A.handled=none) (I:Inv X pins σ H s0) (hs:c.has X.K H xs) (ht:c.at it i s0.heap) (hit:H it=none):
  ∃ (fp : List Addr) (Pt : Nat → zl → Prop) (St : Nat → Heap → Prop), GI X.prog X.w A it fp xs.length Pt St ∧ St i s0.heap ∧ (∀ k v, Pt k v → ∃ x, xs[k]? = some x ∧ RelV x v) ∧ (∀ k h, St k h → c.at it k h) ∧ it ∈ fp ∧
   ∀b∈fp,b=it∨H b≠none∨∃o,X.base.get? b=some o:=by
 cases c with
 | lst a =>
  obtain⟨its,rv,p,hz⟩:=I.list hs
  have ne:a≠it:=fun z=>by
   obtain⟨o,e,c1,_⟩:=(show s0.heap.IsListIter it a i from ht)
   obtain⟨o2,e2,c2,_⟩:=p.isList
   rw[z,e]at e2;cases e2;rw[c1]at c2;exact absurd c2 (by decide)
  have dr:=Draws.list (prog:=X.prog) (w:=X.w) hh it a ne its.toArray
  rw[zK,←rv.length]at dr
  refine⟨_,_,_,dr,⟨ht,p.isList⟩,fun k v e=>?_,fun k h st=>st.1,by simp,fun b hb=>?_⟩
  ·have e:its[k]? =some v:=by simpa using e
   have hk:k< xs.length:=by rw[rv.length];exact(zB.mp e).1
   obtain⟨u,hu,ru⟩:=rv.get (i:=k) (x:=xs[k]) (by simp[hk])
   rw[e]at hu;cases hu
   exact⟨_,by simp[hk],ru⟩
  ·rcases zU.mp hb with z | z
   ·exact .inl z
   ·have z:b=a:=by simpa using z
    subst z
    rcases (show SqL X.K H b xs from hs)with(z | ⟨o,z⟩) | ⟨o,_,_,z,_⟩
    ·exact .inr (.inl (by rw[z];simp))
    ·exact .inr (.inl (by rw[z];simp))
    ·exact .inr (.inr ⟨_,I.mod.kin _ _ z⟩)
 | tup a =>
  obtain⟨its,rv,p,hz⟩:=I.tuple hs
  have p:s0.heap.IsTuple a its.toArray:=p
  have ne:a≠it:=fun z=>by
   obtain⟨o,e,c1,_⟩:=(show s0.heap.IsTupleIter it a i from ht)
   obtain⟨o2,e2,c2,_⟩:=id p
   rw[z,e]at e2;cases e2;rw[c1]at c2;exact absurd c2 (by decide)
  have dr:=qF (P:=X.prog) (w:=X.w) hh it a ne its.toArray
  rw[zK,←rv.length]at dr
  refine⟨_,_,_,dr,⟨ht,p⟩,fun k v e=>?_,fun k h st=>st.1,by simp,fun b hb=>?_⟩
  ·have e:its[k]? =some v:=by simpa using e
   have hk:k< xs.length:=by rw[rv.length];exact(zB.mp e).1
   obtain⟨u,hu,ru⟩:=rv.get (i:=k) (x:=xs[k]) (by simp[hk])
   rw[e]at hu;cases hu
   exact⟨_,by simp[hk],ru⟩
  ·rcases zU.mp hb with z | z
   ·exact .inl z
   ·have z:b=a:=by simpa using z
    subst z
    rcases (show SqT X.K H b xs from hs)with(z | ⟨o,z⟩) | ⟨o,_,_,z,_⟩
    ·exact .inr (.inl (by rw[z];simp))
    ·exact .inr (.inl (by rw[z];simp))
    ·exact .inr (.inr ⟨_,I.mod.kin _ _ z⟩)
 | str l =>
  have hs:xs=l.map fun c=>Dp (ar [c]):=hs
  obtain⟨t,ht⟩:=(show ∃t,s0.heap.IsStrIter it "str_ascii_iterator" (ar l) t i∨s0.heap.IsStrIter it "str_iterator" (ar l) t i from ht)
  have hn:(ar l).cps.size=xs.length:=by rw[hs];simp[ar]
  have sg:∀(k:Nat) (v:zl),(∃c u,(ar l).cps[k]? =some c∧v=.str ⟨#[c]⟩ u)→∃x,xs[k]? =some x∧RelV x v:=fun k v ⟨c,u,e,ev⟩=>by
   have e:l[k]? =some c:=by simpa [ar] using e
   exact⟨.str (ar [c]),by rw[hs];simp[e],⟨u,ev⟩⟩
  rcases ht with ht | ht
  ·exact⟨_,_,_,hn▸Draws.strAscii hh it (ar l) t,ht,sg,fun k h st=>⟨t,.inl st⟩,by simp,fun b hb=>.inl (by simpa using hb)⟩
  ·exact⟨_,_,_,hn▸Draws.strWide hh it (ar l) t,ht,sg,fun k h st=>⟨t,.inr st⟩,by simp,fun b hb=>.inl (by simpa using hb)⟩
end
def iE (v:zl) (h:Heap) (o:Obj):Prop:=∀(prog:zL) (w:zQ) (A:Ai) (E:zl→zq→Prop) (Q:zl→zq→Prop) (s:zq),s.heap=h→Q (.ref h.objs.size) {s with heap:=h.push o}→wpAny (model prog w) A (pyIter v) Q E s
def wP (h:Heap) (o1 o2:Obj):Heap:=((h.push o1).push o2).push {cls:=.type "tuple",data:=.seq #[.ref h.objs.size,.ref (h.push o1).objs.size]}
def wQ (h:Heap) (o1 o2:Obj):Heap:=(wP h o1 o2).push {cls:=.type "tuple",data:=.seq #[.none,.none]}
def wn (h:Heap) (o1 o2:Obj):Heap:=(wQ h o1 o2).push {cls:=.type "zip",data:=.fields #[.none,.bool false,.bool false,.ref ((h.push o1).push o2).objs.size,.ref (wP h o1 o2).objs.size]}
theorem jX (v1 v2:zl) (o1 o2:Obj):Meets (Cm.«zip.__new__» ⟨[.type "zip",v1,v2],[]⟩) (fun _ R s=>iE v1 s.heap o1∧iE v2 (s.heap.push o1) o2∧R (.ok (.ret (.ref (wQ s.heap o1 o2).objs.size))) {s with heap:=wn s.heap o1 o2}):=
 .of_wp fun prog w A R s h=>by
  obtain⟨hp,g,d,tk,os⟩:=s;obtain⟨i1,i2,h⟩:=h
  have hsub:=sub_zip
  have j1:=fun(A:Ai) (E:zl→zq→Prop) (Q:zl→zq→Prop) (q:Q _ _)=>i1 prog w A E Q ⟨hp,g,d,tk,os⟩ rfl q
  have j2:=fun(A:Ai) (E:zl→zq→Prop) (Q:zl→zq→Prop) (q:Q _ _)=>i2 prog w A E Q ⟨hp.push o1,g,d,tk,os⟩ rfl q
  wp_walk using j1 _ _ _,j2 _ _ _
  exact⟨_,rfl,h⟩
theorem p7 {P:zL} {w:zQ} {A:Ai} {E:zl→zq→Prop} {s:zq} {v1 v2:zl} {o1 o2:Obj} {Q:zl→zq→Prop} (i1:iE v1 s.heap o1) (i2:iE v2 (s.heap.push o1) o2)
  (f1:o1.isFreed=false) (f2:o2.isFreed=false)
  (q:∀h',EB h' (s.heap.objs.size+4) (s.heap.objs.size+2) (s.heap.objs.size+3) .none→CH h' (s.heap.objs.size+2) (.ref s.heap.objs.size) (.ref (s.heap.objs.size+1))→CH h' (s.heap.objs.size+3) .none .none→
   h'.get? s.heap.objs.size=some o1→h'.get? (s.heap.objs.size+1)=some o2→(∀c o,s.heap.get? c=some o→h'.get? c=some o)→Q (.ref (s.heap.objs.size+4)) {s with heap:=h'}):
  wpAny (model P w) A (call (.type "zip") [v1,v2]) Q E s:=by
 refine callType_new PySem.F.called_zip (by decide) (PySem.F.typeCall_zip_2 _ _) (PySem.F.newCall_zip_2 _ _) (fun obj=>PySem.F.args_object_init_3 obj _ _) PySem.F.entry_zip_new (jX v1 v2 o1 o2) ⟨i1,i2,?_⟩
 have z1:(s.heap.push o1).objs.size=s.heap.objs.size+1:=Bj ..
 have z2:((s.heap.push o1).push o2).objs.size=s.heap.objs.size+2:=by rw[Bj,z1]
 have z3:(wP s.heap o1 o2).objs.size=s.heap.objs.size+3:=by unfold wP;rw[Bj,z2]
 have z4:(wQ s.heap o1 o2).objs.size=s.heap.objs.size+4:=by unfold wQ;rw[Bj,z3]
 have g5:(wn s.heap o1 o2).get? (wQ s.heap o1 o2).objs.size=some _:=zz _ rfl
 have g4:(wn s.heap o1 o2).get? (wP s.heap o1 o2).objs.size=some _:=zr _ (zz _ rfl)
 have g3:(wn s.heap o1 o2).get? ((s.heap.push o1).push o2).objs.size=some _:=zr _ (zr _ (zz _ rfl))
 have g2:(wn s.heap o1 o2).get? (s.heap.push o1).objs.size=some o2:=zr _ (zr _ (zr _ (zz _ f2)))
 have g1:(wn s.heap o1 o2).get? s.heap.objs.size=some o1:=zr _ (zr _ (zr _ (zr _ (zz _ f1))))
 show _∧_
 rw[z2,z3,z4]at g5
 rw[z1,z2]at g3
 rw[z3]at g4
 rw[z1]at g2
 rw[z4]
 exact⟨⟨_,g5,rfl⟩,q _ g5 g3 g4 g1 g2 fun c o x=>zr _ (zr _ (zr _ (zr _ (zr _ x))))⟩
theorem Src.iter {X:Cx} {pins:List (Addr×Obj)} {σ:St} {H:Hp} {s:zq} {c:Src} {xs:List V} {v:zl} {h:Heap} (I:Inv X pins σ H s) (hs:c.has X.K H xs) (rv:RelV c.val v) (k:∀b o,s.heap.get? b=some o→h.get? b=some o):
  ∃o,iE v h o∧o.isFreed=false∧(∀h':Heap,h'.get? h.objs.size=some o→c.at h.objs.size 0 h'):=by
 cases c with
 | lst a =>
  obtain⟨its,r,p,hz⟩:=I.list hs
  cases (show v=.ref a from rv)
  obtain⟨o,e,r2⟩:=p.isList
  refine⟨{cls:=.type "list_iterator",data:=.fields #[.ref a,.int 0 0]},fun prog w A E Q s' e' q=>?_,rfl,fun h' e'=>⟨_,e',rfl,rfl⟩⟩
  subst e'
  exact DT ⟨o,k a o e,r2⟩ q
 | tup a =>
  obtain⟨its,r,p,hz⟩:=I.tuple hs
  cases (show v=.ref a from rv)
  obtain⟨o,e,r2⟩:=p
  refine⟨{cls:=.type "tuple_iterator",data:=.fields #[.ref a,.int 0 0]},fun prog w A E Q s' e' q=>?_,rfl,fun h' e'=>⟨_,e',rfl,rfl⟩⟩
  subst e'
  exact wpAny_pyIter_tuple ⟨o,k a o e,r2⟩ q
 | str l =>
  obtain⟨t,rfl⟩:=(show ∃t,v=.str (ar l) t from rv)
  cases ha:(ar l).cps.all (· <128)
  ·exact⟨{cls:=.type "str_iterator",data:=.fields #[.str (ar l) t,.int 0 0]},fun prog w A E Q s' e' q=>by subst e';exact Fy ha q,rfl,fun h' e'=>⟨t,.inr ⟨_,e',rfl,rfl⟩⟩⟩
  ·exact⟨{cls:=.type "str_ascii_iterator",data:=.fields #[.str (ar l) t,.int 0 0]},fun prog w A E Q s' e' q=>by subst e';exact Fm ha q,rfl,fun h' e'=>⟨t,.inl ⟨_,e',rfl,rfl⟩⟩⟩
section
variable {P:zL} {w:zQ} {A:Ai} {E:zl→zq→Prop} {s:zq} {z TI TO i1 i2:Addr} {fp1 fp2:List Addr} {n1 n2 k:Nat} {P1 P2:Nat→zl→Prop} {S1 S2:Nat→Heap→Prop} {a b:zl}
structure ZApart (z TI TO i1 i2:Addr) (fp1 fp2:List Addr):Prop where
 c1:TI≠z
 c2:TO≠z
 c3:i1≠z
 c4:i2≠z
 c5:TI≠TO
 c6:TI≠i1
 c7:TI≠i2
 c8:TO≠i1
 c9:TO≠i2
 d1:z∉fp1∧TO∉fp1∧i2∉fp1
 d2:z∉fp2∧TO∉fp2∧i1∉fp2
theorem bH {n:Nat} {it:Addr} {fp:List Addr} {Pt:Nat→zl→Prop} {S:Nat→Heap→Prop} (D:GI P w A it fp n Pt S) {j:Nat} {h h':Heap} {c:Addr} (st:S j h) (sb:A9 c h h') (hc:c∉fp):S j h':=
 D.frame _ _ _ st fun b hb o e=>(sb.2 b fun q=>hc (q▸hb)).trans e
theorem p8 {Q:Option zl→zq→Prop} (D1:GI P w A.in1 i1 fp1 n1 P1 S1) (D2:GI P w A.in1 i2 fp2 n2 P2 S2) (Z:ZApart z TI TO i1 i2 fp1 fp2) (h1:k< n1) (h2:k< n2) (hz:EB s.heap z TI TO .none)
  (hI:CH s.heap TI (.ref i1) (.ref i2)) (hO:CH s.heap TO a b) (t1:S1 k s.heap) (t2:S2 k s.heap)
  (q:∀x y h' tk T,P1 k x→P2 k y→T=s.heap.objs.size→EB h' z TI TO (rawInt T)→CH h' TO x y→S1 (k+1) h'→S2 (k+1) h'→CH h' T x y→
   (∀c o,c≠z→c≠TO→c≠i1→c≠i2→s.heap.get? c=some o→h'.get? c=some o)→Q (some (.ref T)) {s with heap:=h',toks:=tk}):
  wpAny (model P w) A (pyNext (.ref z)) Q E s:=by
 have hT:s.TypeIs (.ref z) "zip" :=⟨_,hz,rfl⟩
 unfold pyNext
 refine zh (Ci (Ay (name:=zx "__next__") hT PySem.F.slot_zip_next (Ak PySem.F.slot_zip_next hT PySem.F.entry_zip_next ?_ (PySem.F.args_zip_next_1 _))))
 obtain⟨hp,gg,dd,tk0,os⟩:=s
 show wpAny (model P w) _ (field (.ref z) 2 >>= _) _ _ _
 refine zh (B6 hz rfl (x:=.bool false) rfl ?_)
 show wpAny (model P w) _ (field (.ref z) 3 >>= _) _ _ _
 refine zh (B6 hz rfl (x:=.ref TI) rfl (zh (Bk hI rfl ?_)))
 show wpAny (model P w) _ (B8 (.ref z) >>= _) _ _ _
 refine zh ?_;unfold B8
 refine zh (B6 hz rfl (x:=.none) rfl (zo ?_));simp only[if_true]
 refine zh (BC (zh (B6 hz rfl (x:=.ref TO) rfl (zh (BD hz (by simp) fun g1 y1 b1=>?_)))))
 replace y1:EB g1 z TI TO .ellipsis:=y1
 replace b1:A9 z hp g1:=b1
 refine zh ?_;simp only[Eh,G9,EA,EW]
 refine zh (zh (E7 ?_))
 show wpAny (model P w) _ (Ao (.ref i1) >>= _) _ _ _
 refine zh (D1.item k _ _ _ h1 (bH D1 t1 b1 Z.d1.1) fun x g2 tk2 px u1 b2=>zo ?_)
 replace b2:A9 i1 g1 g2:=b2
 have O2:CH g2 TO a b:=b2.extBut _ _ Z.c8 (b1.extBut _ _ Z.c2 hO)
 refine zh (Bk O2 rfl (zh (Dj O2 fun g3 O3 b3=>?_)))
 replace O3:CH g3 TO x b:=O3
 replace b3:A9 TO g2 g3:=b3
 refine zh (G4 (zo (zh (zh (E7 ?_)))))
 show wpAny (model P w) _ (Ao (.ref i2) >>= _) _ _ _
 refine zh (D2.item k _ _ _ h2 (bH D2 (bH D2 (bH D2 t2 b1 Z.d2.1) b2 Z.d2.2.2) b3 Z.d2.2.1) fun y g4 tk4 py u2 b4=>zo ?_)
 replace b4:A9 i2 g3 g4:=b4
 have O4:CH g4 TO x b:=b4.extBut _ _ Z.c9 O3
 refine zh (Bk O4 rfl (zh (Dj O4 fun g5 O5 b5=>?_)))
 replace O5:CH g5 TO x y:=O5
 replace b5:A9 TO g4 g5:=b5
 refine zh (G4 (zo (zo (zh (Bk O5 rfl (zh (Gk ?_)))))))
 have sz:g5.objs.size=hp.objs.size:=by rw[b5.1,b4.1,b3.1,b2.1,b1.1]
 have y5:EB g5 z TI TO .ellipsis:=b5.extBut _ _ Z.c2.symm (b4.extBut _ _ Z.c4.symm (b3.extBut _ _ Z.c2.symm (b2.extBut _ _ Z.c3.symm y1)))
 have k5:∀c o,c≠z→c≠TO→c≠i1→c≠i2→hp.get? c=some o→g5.get? c=some o:=fun c o e1 e2 e3 e4 e=>b5.extBut _ _ e2 (b4.extBut _ _ e4 (b3.extBut _ _ e2 (b2.extBut _ _ e3 (b1.extBut _ _ e1 e))))
 have v1:S1 (k+1) g5:=bH D1 (bH D1 (bH D1 u1 b3 Z.d1.2.1) b4 Z.d1.2.2) b5 Z.d1.2.1
 have v2:S2 (k+1) g5:=bH D2 u2 b5 Z.d2.2.1
 have lz:z< g5.objs.size:=zI y5
 show wpAny (model P w) _ (Cy (.ref z) (.ref g5.objs.size) >>= _) _ _ _
 refine zh ?_;unfold Cy
 have y6:EB (g5.push {cls:=.type "tuple",data:=.seq #[x,y]}) z TI TO .ellipsis:=zr _ y5
 refine zh (BD y6 (by simp) fun g7 y7 b7=>?_)
 replace y7:EB g7 z TI TO (rawInt g5.objs.size):=y7
 replace b7:A9 z (g5.push {cls:=.type "tuple",data:=.seq #[x,y]}) g7:=b7
 refine BD y7 (by simp) fun g8 y8 b8=>?_
 replace y8:EB g8 z TI TO (rawInt g5.objs.size):=y8
 replace b8:A9 z g7 g8:=b8
 have up:∀c o,c≠z→g5.get? c=some o→g8.get? c=some o:=fun c o e1 e=>b8.extBut _ _ e1 (b7.extBut _ _ e1 (zr _ e))
 have T8:CH g8 g5.objs.size x y:=b8.extBut _ _ (CL lz) (b7.extBut _ _ (CL lz) (zz _ rfl))
 refine zo ⟨_,rfl,zo (q x y g8 _ g5.objs.size px py sz y8 (up _ _ Z.c2 O5) (D1.frame _ _ _ v1 fun b hb o e=>up b o (fun q=>Z.d1.1 (q▸hb)) e) (D2.frame _ _ _ v2 fun b hb o e=>up b o (fun q=>Z.d2.1 (q▸hb)) e) T8 fun c o e1 e2 e3 e4 e=>up c o e1 (k5 c o e1 e2 e3 e4 e))⟩
theorem qG {Q:Option zl→zq→Prop} (hh:A.handled=none) (D1:GI P w A.in1 i1 fp1 n1 P1 S1) (D2:GI P w A.in1 i2 fp2 n2 P2 S2) (Z:ZApart z TI TO i1 i2 fp1 fp2) (hk:k=n1∨(k< n1∧k=n2)) (hz:EB s.heap z TI TO .none)
  (hI:CH s.heap TI (.ref i1) (.ref i2)) (hO:CH s.heap TO a b) (t1:S1 k s.heap) (t2:S2 k s.heap)
  (q:∀h' tk,(∀c o,c≠z→c≠TO→c≠i1→c≠i2→s.heap.get? c=some o→h'.get? c=some o)→Q none {s with heap:=h',toks:=tk}):
  wpAny (model P w) A (pyNext (.ref z)) Q E s:=by
 have hT:s.TypeIs (.ref z) "zip" :=⟨_,hz,rfl⟩
 unfold pyNext
 refine zh (Ci (Ay (name:=zx "__next__") hT PySem.F.slot_zip_next (Ak PySem.F.slot_zip_next hT PySem.F.entry_zip_next ?_ (PySem.F.args_zip_next_1 _))))
 obtain⟨hp,gg,dd,tk0,os⟩:=s
 show wpAny (model P w) _ (field (.ref z) 2 >>= _) _ _ _
 refine zh (B6 hz rfl (x:=.bool false) rfl ?_)
 show wpAny (model P w) _ (field (.ref z) 3 >>= _) _ _ _
 refine zh (B6 hz rfl (x:=.ref TI) rfl (zh (Bk hI rfl ?_)))
 show wpAny (model P w) _ (B8 (.ref z) >>= _) _ _ _
 refine zh ?_;unfold B8
 refine zh (B6 hz rfl (x:=.none) rfl (zo ?_));simp only[if_true]
 refine zh (BC (zh (B6 hz rfl (x:=.ref TO) rfl (zh (BD hz (by simp) fun g1 y1 b1=>?_)))))
 replace y1:EB g1 z TI TO .ellipsis:=y1
 replace b1:A9 z hp g1:=b1
 refine zh ?_;simp only[Eh,G9,EA,EW]
 refine zh (zh (E7 ?_))
 show wpAny (model P w) _ (Ao (.ref i1) >>= _) _ _ _
 rcases hk with hk | ⟨hk1,hk2⟩
 ·subst hk
  refine zh (D1.done _ _ _ (bH D1 t1 b1 Z.d1.1) fun g2 e b2 he=>?_)
  obtain⟨oe,hoe,hce⟩:=he
  replace b2:DX i1 g1 g2:=b2
  have y2:EB g2 z TI TO .ellipsis:=b2 _ _ Z.c3.symm y1
  have ez:e≠z:=fun x=>by subst x;rw[y2]at hoe;cases hoe;simp at hce
  refine BD y2 (by simp) fun g3 _ b3=>?_
  exact zh (Cv (T:="StopIteration") (b:=true) ⟨oe,b3.extBut _ _ ez hoe,hce⟩ DG (zo (q g3 _ fun c o e1 _ e3 _ x=>b3.extBut _ _ e1 (b2 _ _ e3 (b1.extBut _ _ e1 x)))))
 ·subst hk2
  refine zh (D1.item k _ _ _ hk1 (bH D1 t1 b1 Z.d1.1) fun x g2 tk2 px u1 b2=>zo ?_)
  replace b2:A9 i1 g1 g2:=b2
  have O2:CH g2 TO a b:=b2.extBut _ _ Z.c8 (b1.extBut _ _ Z.c2 hO)
  refine zh (Bk O2 rfl (zh (Dj O2 fun g3 O3 b3=>?_)))
  replace b3:A9 TO g2 g3:=b3
  refine zh (G4 (zo (zh (zh (E7 ?_)))))
  show wpAny (model P w) _ (Ao (.ref i2) >>= _) _ _ _
  refine zh (D2.done _ _ _ (bH D2 (bH D2 (bH D2 t2 b1 Z.d2.1) b2 Z.d2.2.2) b3 Z.d2.2.1) fun g4 e b4 he=>?_)
  obtain⟨oe,hoe,hce⟩:=he
  replace b4:DX i2 g3 g4:=b4
  have y4:EB g4 z TI TO .ellipsis:=b4 _ _ Z.c4.symm (b3.extBut _ _ Z.c2.symm (b2.extBut _ _ Z.c3.symm y1))
  have ez:e≠z:=fun x=>by subst x;rw[y4]at hoe;cases hoe;simp at hce
  refine BD y4 (by simp) fun g5 _ b5=>?_
  exact zh (Cv (T:="StopIteration") (b:=true) ⟨oe,b5.extBut _ _ ez hoe,hce⟩ DG (zo (q g5 _ fun c o e1 e2 e3 e4 x=>b5.extBut _ _ e1 (b4 _ _ e4 (b3.extBut _ _ e2 (b2.extBut _ _ e3 (b1.extBut _ _ e1 x)))))))
end
def wR (K:PySem.W.Frag) (c1 c2:Src):It:=
  ⟨fun i H=>∃xs ys x y,c1.has K H xs∧c2.has K H ys∧xs[i]? =some x∧ys[i]? =some y,
   fun i H v H'=>∃p x y,H p=none∧v=.ref p∧(∀xs,c1.has K H xs→xs[i]? =some x)∧(∀ys,c2.has K H ys→ys[i]? =some y)∧H'=cA H p (.tup [x,y]),
   fun i H=>∃xs ys,c1.has K H xs∧c2.has K H ys∧(i=xs.length∨(i< xs.length∧i=ys.length))⟩
theorem Src.inj {X:Cx} {pins:List (Addr×Obj)} {σ:St} {H:Hp} {s:zq} {c:Src} {xs ys:List V} (I:Inv X pins σ H s) (h1:c.has X.K H xs) (h2:c.has X.K H ys):xs=ys:=by
 cases c with
 | lst a=>exact I.list_inj h1 h2
 | tup a=>exact I.tuple_inj h1 h2
 | str l=>exact Eq.trans h1 (Eq.symm h2)
theorem Src.at_keep {c:Src} {it:Addr} {i:Nat} {h h':Heap} (st:c.at it i h) (k:∀o,h.get? it=some o→h'.get? it=some o):c.at it i h':=by
 cases c with
 | lst a=>obtain⟨o,e,r⟩:=st;exact⟨o,k o e,r⟩
 | tup a=>obtain⟨o,e,r⟩:=st;exact⟨o,k o e,r⟩
 | str l =>
  obtain⟨t,st⟩:=st
  rcases st with⟨o,e,r⟩ | ⟨o,e,r⟩
  ·exact⟨t,.inl ⟨o,k o e,r⟩⟩
  ·exact⟨t,.inr ⟨o,k o e,r⟩⟩
theorem Src.at_obj {c:Src} {it:Addr} {i:Nat} {h:Heap} (st:c.at it i h):∃o,h.get? it=some o∧∃vs,o.data=.fields vs:=by
 cases c with
 | lst a=>obtain⟨o,e,_,r⟩:=st;exact⟨o,e,_,r⟩
 | tup a=>obtain⟨o,e,_,r⟩:=st;exact⟨o,e,_,r⟩
 | str l =>
  obtain⟨t,st⟩:=st
  rcases st with⟨o,e,_,r⟩ | ⟨o,e,_,r⟩
  ·exact⟨o,e,_,r⟩
  ·exact⟨o,e,_,r⟩
def yx (c1 c2:Src) (z TI TO i1 i2:Addr) (i:Nat) (h:Heap):Prop:=EB h z TI TO .none∧CH h TI (.ref i1) (.ref i2)∧(∃a b,CH h TO a b)∧c1.at i1 i h∧c2.at i2 i h
structure ZIds (z TI TO i1 i2:Addr):Prop where
 c1:TI≠z
 c2:TO≠z
 c3:i1≠z
 c4:i2≠z
 c5:TI≠TO
 c6:TI≠i1
 c7:TI≠i2
 c8:TO≠i1
 c9:TO≠i2
 c10:i1≠i2
theorem qH {X:Cx} {pins:List (Addr×Obj)} {σ:St} {H:Hp} {s:zq} {z TI TO i1 i2:Addr} {fp1 fp2:List Addr} (I:Inv X pins σ H s) (Z:ZIds z TI TO i1 i2) (hf:∀b∈[z,TI,TO,i1,i2],FpOk X pins H b)
  (g1:∀b∈fp1,b=i1∨H b≠none∨∃o,X.base.get? b=some o) (g2:∀b∈fp2,b=i2∨H b≠none∨∃o,X.base.get? b=some o):ZApart z TI TO i1 i2 fp1 fp2:=by
 have no:∀b∈[z,TI,TO,i1,i2],¬(H b≠none∨∃o,X.base.get? b=some o):=fun b hb q=>by
  rcases q with q | ⟨o,q⟩
  ·exact q (hf b hb).1
  ·rcases (hf b hb).2.2.2.1 with y | y
   ·exact I.ok.noex b o q y
   ·exact absurd (zJ (zJ (zI q) I.ok.bsz) y) (AW _)
 refine⟨Z.c1,Z.c2,Z.c3,Z.c4,Z.c5,Z.c6,Z.c7,Z.c8,Z.c9,⟨fun m=>?_,fun m=>?_,fun m=>?_⟩,⟨fun m=>?_,fun m=>?_,fun m=>?_⟩⟩
 ·exact(g1 _ m).elim (fun e=>Z.c3 e.symm) (no z (by simp))
 ·exact(g1 _ m).elim (fun e=>Z.c8 e) (no TO (by simp))
 ·exact(g1 _ m).elim (fun e=>Z.c10 e.symm) (no i2 (by simp))
 ·exact(g2 _ m).elim (fun e=>Z.c4 e.symm) (no z (by simp))
 ·exact(g2 _ m).elim (fun e=>Z.c9 e) (no TO (by simp))
 ·exact(g2 _ m).elim (fun e=>Z.c10 e) (no i1 (by simp))
theorem qI {P:zL} {w:zQ} {K:PySem.W.Frag} {elts:List Expr} {kk:Nat} {tp:Pos} (c1 c2:Src) (z TI TO i1 i2:Addr) (Z:ZIds z TI TO i1 i2):
  Turn P w K (.Tuple elts kk tp) (wR K c1 c2) [z,TI,TO,i1,i2] z (yx c1 c2 z TI TO i1 i2) where
 mem:=by simp
 obj:=fun i h st b hb=>by
  obtain⟨hz,hI,⟨a,b',hO⟩,t1,t2⟩:=st
  obtain⟨o1,e1,v1,d1⟩:=Src.at_obj t1
  obtain⟨o2,e2,v2,d2⟩:=Src.at_obj t2
  simp only[zU,Bz,or_false]at hb
  rcases hb with rfl | rfl | rfl | rfl | rfl
  ·exact⟨_,hz,fun v q=>by cases (show ES _=DC v from q)⟩
  ·exact⟨_,hI,fun v q=>by cases (show Gj _ _=DC v from q)⟩
  ·exact⟨_,hO,fun v q=>by cases (show Gj _ _=DC v from q)⟩
  ·exact⟨_,e1,fun v q=>by rw[d1]at q;cases q⟩
  ·exact⟨_,e2,fun v q=>by rw[d2]at q;cases q⟩
 keep:=fun i h h' st k=>by
  obtain⟨hz,hI,⟨a,b',hO⟩,t1,t2⟩:=st
  exact⟨k z (by simp) _ hz,k TI (by simp) _ hI,⟨a,b',k TO (by simp) _ hO⟩,Src.at_keep t1 (k i1 (by simp)),Src.at_keep t2 (k i2 (by simp))⟩
 item:=by
  intro X hP hw hK hc i pins s σ H E I hf st hg
  subst hP hw hK
  obtain⟨xs,ys,x,y,hx,hy,ex,ey⟩:=hg
  obtain⟨hz,hI,⟨a,b',hO⟩,t1,t2⟩:=st
  have hh:X.A.in1.handled=none:=I.ok.hd hc
  obtain⟨fp1,P1,S1,D1,u1,r1,a1,_,g1⟩:=Src.draws (A:=X.A.in1) hh I hx t1 (hf i1 (by simp)).1
  obtain⟨fp2,P2,S2,D2,u2,r2,a2,_,g2⟩:=Src.draws (A:=X.A.in1) hh I hy t2 (hf i2 (by simp)).1
  have ZA:=qH I Z hf g1 g2
  refine p8 D1 D2 ZA (zB.mp ex).1 (zB.mp ey).1 hz hI hO u1 u2 fun vx vy h' tk T px py hT hz' hO' w1 w2 hTp kp=>?_
  obtain⟨x',ex',rx⟩:=r1 i vx px
  obtain⟨y',ey',ry⟩:=r2 i vy py
  rw[ex]at ex';cases ex'
  rw[ey]at ey';cases ey'
  have nT:H T=none:=by rw[hT];exact I.hok.fresh (zw _)
  refine⟨_,rfl,wpAny_letOwnedTupleGo_zip hz' fun h2 hz2 sb=>?_⟩
  have lt:∀{c o},s.heap.get? c=some o→c≠T:=fun e=>by rw[hT];exact zX (zI e)
  have up:∀c o,c≠z→h'.get? c=some o→h2.get? c=some o:=fun c o hc e=>(sb.2 c hc).trans e
  have kp2:∀b o,b∉[z,TO,i1,i2]→s.heap.get? b=some o→h2.get? b=some o:=fun b o hb e=>by
   simp only[zU,Bz,or_false,not_or]at hb
   exact up b o hb.1 (kp b o hb.1 hb.2.1 hb.2.2.1 hb.2.2.2 e)
  have ch:∀b∈[z,TO,i1,i2],b∈[z,TI,TO,i1,i2]:=fun b hb=>by
   simp only[zU,Bz,or_false]at hb ⊢
   rcases hb with h | h | h | h <;> simp[h]
  have mm:∀b u,H b=some u→b∉[z,TO,i1,i2]∧b≠T:=fun b u e=>⟨fun hb=>(by rw[(hf b (ch b hb)).1]at e;cases e),fun q=>(by rw[q,nT]at e;cases e)⟩
  have I2:Inv X pins σ (cA H T (.tup [x,y])) {s with heap:=h2,gens:=s.gens,drawn:=s.drawn,toks:=tk} :=by
   refine I.step (g':=s.gens) (d':=s.drawn) (t':=tk) (ch:=[z,TO,i1,i2]) (fun b hb=>⟨(hf b (ch b hb)).2.2.2.1,(hf b (ch b hb)).2.1,(hf b (ch b hb)).2.2.2.2.1,(hf b (ch b hb)).2.2.2.2.2⟩) (fun b o _ _ hb e _=>kp2 b o hb e) (fun b o _ _ hb e _=>⟨o.slots,kp2 b o hb e⟩)
    (fun b o hb e n=>by rw[aJ (lt e)];exact n) (fun b o hb e=>⟨o,kp2 b o hb e⟩) (fun b xs e=>by rw[aJ (mm b _ e).2];exact e) (fun b o u e=>by rw[aJ (mm b _ e).2];exact e) (fun b ps e=>⟨#[],by rw[aJ (mm b _ e).2,e];simp⟩) (fun m hm=>?_) (fun b u e=>?_) I.bare
   ·obtain⟨o,es,ep,ho,r⟩:=hm
    exact⟨o,es,ep,kp2 _ o (fun hb=>(hf _ (ch _ hb)).2.1 rfl) ho,r⟩
   ·by_cases hb:b=T
    ·subst hb
     rw[aI]at e;cases e
     refine⟨(by show 2≤sizeLine;rw[AQ];decide),[vx,vy],.cons rx (.cons ry .nil),⟨_,up _ _ ?_ hTp,⟨rfl,rfl⟩,_,rfl⟩⟩
     exact fun q=>lt hz q.symm
    ·rw[aJ hb]at e
     refine(I.hok b u e).stay (fun c v hc q=>kp2 c v ?_ q) (fun c q=>by rw[aJ (mm c _ q).2];exact q) fun c xs q=>by rw[aJ (mm c _ q).2];exact q
     rcases hc with q | q
     ·rw[q];exact(mm b u e).1
     ·exact(mm c _ q).1
  refine⟨.ref T,_,I2,rfl,⟨T,x,y,nT,rfl,fun xs' h=>by rw[Src.inj I h hx];exact ex,fun ys' h=>by rw[Src.inj I h hy];exact ey,rfl⟩,⟨hz2,up _ _ Z.c1 (kp _ _ Z.c1 Z.c5 Z.c6 Z.c7 hI),⟨_,_,up _ _ Z.c2 hO'⟩,Src.at_keep (a1 _ _ w1) fun o e=>up _ o Z.c3 e,Src.at_keep (a2 _ _ w2) fun o e=>up _ o Z.c4 e⟩,fun b hb=>?_⟩
  have hbT:b≠T:=by
   obtain⟨o,e⟩:∃o,s.heap.get? b=some o:=by
    obtain⟨o1,e1,_⟩:=Src.at_obj t1
    obtain⟨o2,e2,_⟩:=Src.at_obj t2
    simp only[zU,Bz,or_false]at hb
    rcases hb with rfl | rfl | rfl | rfl | rfl
    ·exact⟨_,hz⟩
    ·exact⟨_,hI⟩
    ·exact⟨_,hO⟩
    ·exact⟨_,e1⟩
    ·exact⟨_,e2⟩
   exact lt e
  rw[aJ hbT]
  exact(hf b hb).1
 done:=by
  intro X hP hw hK hc i pins s σ H E I hf st hg
  subst hP hw hK
  obtain⟨xs,ys,hx,hy,hend⟩:=hg
  obtain⟨hz,hI,⟨a,b',hO⟩,t1,t2⟩:=st
  have hh:X.A.in1.handled=none:=I.ok.hd hc
  obtain⟨fp1,P1,S1,D1,u1,r1,a1,_,g1⟩:=Src.draws (A:=X.A.in1) hh I hx t1 (hf i1 (by simp)).1
  obtain⟨fp2,P2,S2,D2,u2,r2,a2,_,g2⟩:=Src.draws (A:=X.A.in1) hh I hy t2 (hf i2 (by simp)).1
  have ZA:=qH I Z hf g1 g2
  have ch:∀b∈[z,TO,i1,i2],b∈[z,TI,TO,i1,i2]:=fun b hb=>by
   simp only[zU,Bz,or_false]at hb ⊢
   rcases hb with h | h | h | h <;> simp[h]
  refine qG hh D1 D2 ZA hend hz hI hO u1 u2 fun h2 tk kp=>⟨rfl,?_⟩
  have kp2:∀b o,b∉[z,TO,i1,i2]→s.heap.get? b=some o→h2.get? b=some o:=fun b o hb e=>by
   simp only[zU,Bz,or_false,not_or]at hb
   exact kp b o hb.1 hb.2.1 hb.2.2.1 hb.2.2.2 e
  refine I.step (g':=s.gens) (d':=s.drawn) (t':=tk) (ch:=[z,TO,i1,i2]) (fun b hb=>⟨(hf b (ch b hb)).2.2.2.1,(hf b (ch b hb)).2.1,(hf b (ch b hb)).2.2.2.2.1,(hf b (ch b hb)).2.2.2.2.2⟩) (fun b o _ _ hb e _=>kp2 b o hb e) (fun b o _ _ hb e _=>⟨o.slots,kp2 b o hb e⟩)
   (fun b o hb e n=>n) (fun b o hb e=>⟨o,kp2 b o hb e⟩) (fun b xs e=>e) (fun b o u e=>e) (fun b ps e=>⟨#[],by rw[e];simp⟩) (fun m hm=>?_) (fun b u e=>?_) I.bare
  ·obtain⟨o,es,ep,ho,r⟩:=hm
   exact⟨o,es,ep,kp2 _ o (fun hb=>(hf _ (ch _ hb)).2.1 rfl) ho,r⟩
  ·have mm:∀b u,H b=some u→b∉[z,TO,i1,i2]:=fun b u e hb=>by rw[(hf b (ch b hb)).1]at e;cases e
   refine(I.hok b u e).stay (fun c v hc q=>kp2 c v ?_ q) (fun c q=>q) fun c xs q=>q
   rcases hc with q | q
   ·rw[q];exact mm b u e
   ·exact mm c _ q
 self:=fun _ _ _ _ _ st h=>FP st.1 h
theorem sS (n a b:Nat) (h:a≠b): @Ne Nat (n+a) (n+b):=fun e=>h (Nat.add_left_cancel e)
def vF (K:PySem.W.Frag) (t:TA):TI:=fun σ H R=>t σ H fun vs H1=>∃c1 c2 xs ys,vs=[c1.val,c2.val]∧c1.has K H1 xs∧c2.has K H1 ys∧R (wR K c1 c2) H1
theorem vG {X:Cx} {a b:Expr} {ta:TA} {p pos tp:Pos} {elts:List Expr} {kk:Nat} (hg:Gl X "zip") (hm:X.mg "zip" =none) (ha:PA X [a,b] ta)
  (hs:starEach [a,b] X.env=[(false,eval a X.env),(false,eval b X.env)]:=by rfl) (hs2:starEach [b] X.env=[(false,eval b X.env)]:=by rfl):PI X (.Tuple elts kk tp) (.Call (.Name "zip" p) [a,b] [] pos) (vF X.K ta):=by
 intro pins s σ H R I h
 refine Call_ (fX I hg hm boot_zip (Bh (bz (ha pos pins s σ H _ I h) fun us s1 ⟨vs,H1,I1,r1,q1⟩=>?_) (by rw[hs,hs2]) (by rw[hs2];rfl)))
 obtain⟨c1,c2,xs,ys,e,h1,h2,q⟩:=q1
 subst e
 obtain⟨v1,v2,rfl,ra,rb⟩:=uR r1
 obtain⟨o1,i1,f1,n1⟩:=Src.iter I1 h1 ra fun _ _ e=>e
 obtain⟨o2,i2,f2,n2⟩:=Src.iter (h:=s1.heap.push o1) I1 h2 rb fun _ _ e=>zr _ e
 have z1:(s1.heap.push o1).objs.size=s1.heap.objs.size+1:=Bj ..
 rw[z1]at n2
 refine p7 i1 i2 f1 f2 fun h' hz hI hO e1 e2 kp=>?_
 refine FP hz ?_
 have zi:∀n:Nat,ZIds (n+4) (n+2) (n+3) n (n+1):=fun n=>⟨(sS n 2 4 (by decide)),(sS n 3 4 (by decide)),(sS n 0 4 (by decide)),(sS n 1 4 (by decide)),(sS n 2 3 (by decide)),(sS n 2 0 (by decide)),(sS n 2 1 (by decide)),(sS n 3 0 (by decide)),(sS n 3 1 (by decide)),(sS n 0 1 (by decide))⟩
 refine⟨s1.heap.objs.size+4,[s1.heap.objs.size+4,s1.heap.objs.size+2,s1.heap.objs.size+3,s1.heap.objs.size,s1.heap.objs.size+1],_,_,H1,rfl,I1.kept (t':=s1.toks) kp,qI c1 c2 _ _ _ _ _ (zi s1.heap.objs.size),⟨hz,hI,⟨_,_,hO⟩,n1 h' e1,n2 h' e2⟩,fun b hb=>?_,q⟩
 have hb':s1.heap.objs.size≤b:=by
  simp only[zU,Bz,or_false]at hb
  rcases hb with z | z | z | z | z <;> rw[z]
  ·exact C1 _ 4
  ·exact C1 _ 2
  ·exact C1 _ 3
  ·exact zw _
  ·exact C1 _ 1
 exact I1.fpOk hb' (I1.hok.fresh hb')
theorem tE {K:PySem.W.Frag} {c1 c2:Src} {xs ys:List V} {g:TG} {tb:TS} {D:Ends} {σ:St} {H:Hp} (Pv:Nat→St→Hp→Prop) (h0:Pv 0 σ H) (hl:∀i σ H,Pv i σ H→c1.has K H xs∧c2.has K H ys) (hn:xs.length=ys.length)
  (hs:∀i x y p σ H,xs[i]? =some x→ys[i]? =some y→H p=none→Pv i σ H→g (.ref p) σ (cA H p (.tup [x,y])) fun σ2 H2=>tb {D with nx:=Pv (i+1),ct:=Pv (i+1),bk:=D.nx} σ2 H2) (hd:∀σ H,Pv xs.length σ H→D.nx σ H):
  ∃ W : Nat → Nat → St → Hp → Prop, (∃ m, W 0 m σ H) ∧ ∀ i m σ H, W i m σ H →
   ((wR K c1 c2).stop i H∧D.nx σ H)∨((wR K c1 c2).go i H∧∃N:St→Hp→Prop,(∀σ' H',N σ' H'→∃m',m'< m∧W (i+1) m' σ' H')∧∀x H',(wR K c1 c2).yld i H x H'→g x σ H' fun σ2 H2=>tb {D with nx:=N,ct:=N,bk:=D.nx} σ2 H2):=by
 refine⟨fun i m σ H=>m=xs.length- i∧i≤xs.length∧Pv i σ H,⟨xs.length,by simp,zS _,h0⟩,?_⟩
 rintro i m σ H ⟨rfl,hi,p⟩
 obtain⟨q1,q2⟩:=hl i σ H p
 by_cases hlt:i< xs.length
 ·refine .inr ⟨⟨xs,ys,xs[i],ys[i],q1,q2,by simp[hlt],by simp[←hn,hlt]⟩,Pv (i+1),fun σ' H' p'=>⟨xs.length- (i+1),by omega,rfl,hlt,p'⟩,fun v H' ⟨a,x,y,na,ev,ex,ey,eh⟩=>?_⟩
  subst ev eh
  exact hs i x y a σ H (ex xs q1) (ey ys q2) na p
 ·have e:i=xs.length:=by omega
  subst e
  exact .inl ⟨⟨xs,ys,q1,q2,.inl rfl⟩,hd σ H p⟩
structure Cal (P:zL) (w:zQ) (K:PySem.W.Frag) (mg:Str→Option zl) (base:Heap) (x:Str) (ps:List Str) (k:Nat) (sp:Sp):Prop where
 ex:∃(f:Addr) (fd:zY),FnOk P w K mg base CX0 k f fd ps sp∧mg x=some (.ref f)∧PySem.W.keepIn K (.ref f)=true∧Binds K fd ps []
theorem ak {X:Cx} {x:Str} {ps:List Str} {k:Nat} {sp:Sp} {p pos:Pos} {e:Expr} {es:List Expr} {t:TA} (C:Cal X.prog X.w X.K X.mg X.base x ps k sp) (hr:Room k X.A) (hg:Gl X x) (ha:PA X (e::es) t)
  (hdb:(x == ("__debug__" :Str))=false:=by decide) (he:starEach (e::es) X.env=(false,eval e X.env)::starEach es X.env:=by rfl) (hpl:(backTo pos (starEach es X.env)).any (·.1)=false:=by rfl):
  PE X (.Call (.Name x p) (e::es) [] pos) (aS sp [] E0 t):=by
 obtain⟨f,fd,F,hm,hk,hb⟩:=C.ex
 exact tj F hr hg hm hk hb .nil wM ha hdb he hpl
theorem i6 {X:Cx} {scope:Ce} {N:List Str} {cap:List (Option Nat)} (kind:scope.kind=.function) (nd:N.Nodup) (len:cap.length=N.length) (uniq:(scope.names.map (·.1)).Nodup)
  (fr:(scope.names.all fun x=>x.2 != .free || (X.env.kindOf x.1 == some .cell || X.env.kindOf x.1 == some .free))=true)
  (cp:((N.zip cap).all fun p=>match p.2 with | none=>true | some j=>X.N[j]? == some p.1 && scope.names.contains (p.1,AJ))=true):CompScope X scope N cap:=by
 refine⟨kind,nd,len,uniq,fun x hx hk=>?_,fun k x j h1 h2=>?_⟩
 ·have:=FQ.mp fr x hx
  rw[hk]at this
  simpa using this
 ·have hm:(x,some j)∈N.zip cap:=by
   rw[D0]
   exact⟨k,by rw[DP];exact⟨h1,h2⟩⟩
  have:=FQ.mp cp _ hm
  simpa using this
def flat:V→Bool
 | .non=>true
 | .bl _=>true
 | .int _=>true
 | .str _=>true
 | _=>false
theorem cr {H:Hp} {p:Addr} {o:HO} (h:H p=none):Same H (cA H p o):=fun b u e=>by rw[aJ (bM e h)];exact e
theorem gk (x:String) (l:List Nat) (h:(zx x).cps.toList=l):zx x=ar l:=by rw[qz (zx x),h]
section
variable {X:Cx} {K:PySem.W.Frag} {w:zQ}
theorem aP (h:X.K=K):wm X (bV K):=h▸vA
theorem bi (h:X.K=K):wm X (bQ K):=h▸tq
theorem bZ (h:X.K=K):dh X (.builtin "len") (fun xs H Q=>∃x n,xs=[x]∧oS K x H n∧Q (.int n) H):=h▸qt
theorem b6 (h:X.K=K):dh X (.builtin "isinstance") (fun xs H Q=>∃x T t b,xs=[x,.ty T]∧TyOf K H x t∧PySem.W.kitOne K t (.type T)=some b∧Q (.bl b) H):=h▸l4
theorem qJ (h:X.K=K):wK X "str.join" (fun x xs H Q=>∃(p:Addr) (ys:List (List Nat)),x=.str (ar [])∧xs=[.ref p]∧SqL K H p (ys.map fun y=>Dp (ar y))∧ys.flatten.length≤100000∧Q (.str (ar ys.flatten)) H):=h▸tz
theorem iF (h:X.K=K):xo X (bW K):=h▸tt
theorem jx (h:X.K=K) (hw:X.w=w) {o i:Expr} {pos:Pos} {td ty:TE} (ho:PE X o td) (hi:PE X i ty) (hs:qx i):PE X (.Subscript o i pos) (aM K w td ty):=h▸hw▸qA ho hi hs
theorem cq (h:X.K=K) {pos:Pos} {es:List Expr} {k:Nat} {t:uP} {n:Nat} (hc:X.calm=true) (hg:wC X es t) (hn:(assignEach es X.env).length=n:=by rfl) (hst:(assignEach es X.env).findIdx? (·.1)=none:=by rfl):PG X (.Tuple es k pos) (bN K n t):=h▸vn hc hg hn hst
theorem cC (h:X.K=K) {tg l:Expr} {tl:TE} (hl:PE X l tl):PI X tg l (qm K tl):=h▸sZ hl
theorem gl (h:X.K=K) {a b:Expr} {ta:TA} {p pos tp:Pos} {elts:List Expr} {kk:Nat} (hg:Gl X "zip") (hm:X.mg "zip" =none) (ha:PA X [a,b] ta)
  (hs:starEach [a,b] X.env=[(false,eval a X.env),(false,eval b X.env)]:=by rfl) (hs2:starEach [b] X.env=[(false,eval b X.env)]:=by rfl):PI X (.Tuple elts kk tp) (.Call (.Name "zip" p) [a,b] [] pos) (vF K ta):=h▸vG hg hm ha hs hs2
theorem mI (h:X.K=K) {o e:Expr} {es:List Expr} {to:TE} {t:TA} {name:Str} {apos cpos:Pos} {T id:String} {r:V→List V→Hp→VK→Prop} (pa:PlainAttrs T) (slot:Slot T name id) (hty:typeOf (.builtin id)=pure (.type "method_descriptor")) (hm:wK X id r) (ho:PE X o to) (ha:PA X (e::es) t)
  (hbase:attributeBase o name X.env (eval o X.env)=eval o X.env:=by rfl)
  (hfew:((backTo cpos (starEach (e::es) X.env)).all (fun x=> !x.1) && (backToKw cpos (keywordEach [] X.env)).all (fun x=>x.1.isSome) && decide ((e::es).length+([]:List Eo).length+(if([]:List Eo).isEmpty then 0 else 1)< 30))=true:=by rfl)
  (hline:(apos.endLine == cpos.line)=true:=by rfl) (hs:starEach (e::es) X.env=(false,eval e X.env)::starEach es X.env:=by rfl) (hplain:(backTo cpos (starEach es X.env)).any (·.1)=false:=by rfl):
  PE X (.Call (.Attribute o name apos) (e::es) [] cpos) (dF K T r to t):=h▸wL pa slot hty hm ho ha hbase hfew hline hs hplain
end
end L2
namespace Wb
open PySem L2
abbrev Rp (α:Type):=Hp→α→V→Prop
class Mono {α:Type} (R:Rp α):Prop where
 mono:∀{H H':Hp} {m:α} {v:V},Same H H'→R H m v→R H' m v
def LR {α:Type} (R:Rp α) (H:Hp) (ms:List α) (vs:List V):Prop:=vs.length=ms.length∧∀(i:Nat) (v:V) (m:α),vs[i]? =some v→ms[i]? =some m→R H m v
theorem LR.nil {α:Type} {R:Rp α} {H:Hp} :LR R H [] []:=⟨rfl,fun i v m e=>by simp at e⟩
theorem LR.same {α:Type} {R:Rp α} [Mono R] {H H':Hp} {ms:List α} {vs:List V} (h:LR R H ms vs) (e:Same H H'):LR R H' ms vs:=⟨h.1,fun i v m a b=>Mono.mono e (h.2 i v m a b)⟩
theorem LR.snoc {α:Type} {R:Rp α} {H:Hp} {ms:List α} {vs:List V} {m:α} {v:V} (h:LR R H ms vs) (r:R H m v):LR R H (ms++ [m]) (vs++ [v]):=by
 refine⟨by simp[h.1],fun i v' m' a b=>?_⟩
 by_cases hi:i< vs.length
 ·rw[zT hi]at a
  rw[zT (by rw[←h.1];exact hi)]at b
  exact h.2 i v' m' a b
 ·rw[zN (by omega)]at a
  rw[zN (by rw[←h.1];omega)]at b
  rw[←h.1]at b
  cases e:i- vs.length with
  | zero=>rw[e]at a b;simp at a b;subst a b;exact r
  | succ n=>rw[e]at a;simp at a
theorem LR.get {α:Type} {R:Rp α} {H:Hp} {ms:List α} {vs:List V} {i:Nat} {m:α} (h:LR R H ms vs) (e:ms[i]? =some m):∃v,vs[i]? =some v∧R H m v:=by
 have hi:i< vs.length:=by rw[h.1];exact(zB.mp e).1
 exact⟨vs[i],by simp[hi],h.2 i _ m (by simp[hi]) e⟩
def isL {α:Type} (R:Rp α):Rp (List α):=fun H ms v=>∃p vs,v=.ref p∧H p=some (.lst vs)∧LR R H ms vs
instance zkeep1 {α:Type} {R:Rp α} [Mono R]:Mono (isL R):=⟨fun e ⟨p,vs,h1,h2,h3⟩=>⟨p,vs,h1,e _ _ h2,h3.same e⟩⟩
def isS:Rp (List Nat):=fun _ l v=>v=.str (ar l)
instance zkeep2:Mono isS:=⟨fun _ h=>h⟩
def isI:Rp Int:=fun _ l v=>v=.int l
instance zkeep4:Mono isI:=⟨fun _ h=>h⟩
theorem LR.str {H:Hp} {ms:List (List Nat)} {vs:List V} (h:LR isS H ms vs):vs=ms.map fun l=>Dp (ar l):=by
 refine Bl fun i=>?_
 rw[zA]
 cases e:ms[i]? with
 | none=>rw[AB]at e;rw[AB.mpr (by rw[h.1];exact e)];rfl
 | some m=>obtain⟨v,a,b⟩:=h.get e;rw[a];cases b;rfl
end Wb
open Wb.Mono renaming mono→zk
namespace L2
open PySem PySem.Spec PyProof.Rows
section
variable {X:Cx} {K:PySem.W.Frag} {w:zQ}
theorem jj (h:X.K=K):dh X (.type "list") (fun xs H Q=>∃p ys,xs=[.ref p]∧(SqL K H p ys∨SqT K H p ys)∧∀l,H l=none→Q (.ref l) (cA H l (.lst ys))):=h▸jS
end
end L2
namespace Wb
open PySem L2
theorem LR.take {α:Type} {R:Rp α} {H:Hp} {ms:List α} {vs:List V} (h:LR R H ms vs) (k:Nat):LR R H (ms.take k) (vs.take k):=by
 refine⟨by simp[h.1],fun i v m a b=>?_⟩
 rw[List.getElem?_take]at a b
 split at a
 ·rw[if_pos (by assumption)]at b;exact h.2 i v m a b
 ·cases a
theorem LR.drop {α:Type} {R:Rp α} {H:Hp} {ms:List α} {vs:List V} (h:LR R H ms vs) (k:Nat):LR R H (ms.drop k) (vs.drop k):=by
 refine⟨by simp[h.1],fun i v m a b=>?_⟩
 rw[Ar]at a b
 exact h.2 _ v m a b
theorem aT {H H':Hp} {p:Addr} (e:Same H H') (h:H' p=none):H p=none:=by
 cases z:H p with
 | none=>rfl
 | some x=>have:=e _ _ z;rw[h]at this;cases this
theorem p9 {H H3:Hp} {p:Addr} {o:HO} (e:Same H H3) (h:H p=none):Same H (cA H3 p o):=fun a u z=>by
 rw[aJ (bM z h)];exact e _ _ z
end Wb
namespace L2
open PySem PySem.Spec PyProof.Rows
section
variable {X:Cx} {K:PySem.W.Frag} {w:zQ}
theorem pb (hc:X.calm=true) (h:X.K=K):dh X (.builtin "sum") (fun xs H Q=>∃(p:Addr) (ns:List Int),xs=[.ref p]∧SqL K H p (ns.map C6)∧Q (.int ns.sum) H):=by
 subst h
 intro pins s σ H xs us Q I r h
 obtain⟨p,ns,rfl,hq,q⟩:=h
 obtain⟨u,rfl,rx⟩:=eS r
 cases rx
 obtain⟨its,r',pl,hz⟩:=I.list hq
 have hi:=iy r'
 obtain⟨xs,hx⟩:=hi.allInts.items
 have hl':s.heap.IsList p (intItems xs):=hx▸pl.isList
 refine sum_intListG (I.ok.hd hc) hl' fun h' tk t' hk=>?_
 have e1:ns=xs.toList.map (·.1):=by
  rw[←nums_intItems,←hx]
  exact(show numsOf its.toArray.toList=ns from hi.numsOf).symm
 have e2:preSum (numAt xs) xs.size=ns.sum:=by
  rw[preSum_eq,Ca (by simp),e1]
 rw[e2]
 exact⟨.int ns.sum,H,I.kept hk,⟨_,rfl⟩,q⟩
end
theorem l9:∀(xs:List V) (us:List zl),us.length=xs.length→(∀(j:Nat) (x:V) (u:zl),xs[j]? =some x→us[j]? =some u→RelV x u)→Vals xs us
 | [],[],_,_=>.nil
 | x::xs,u::us,hl,h=>.cons (h 0 x u rfl rfl) (l9 xs us (by simpa using hl) fun j x u a b=>h (j+1) x u (by simpa using a) (by simpa using b))
 | [],_::_,hl,_=>by simp at hl
 | _::_,[],hl,_=>by simp at hl
theorem gL {α β:Type} {F:α→β→Prop} :∀{l₁:List α} {l₂:List β},Paired F l₁ l₂→∀{j:Nat} {b:β},l₂[j]? =some b→∃a,l₁[j]? =some a∧F a b
 | _,_,.nil,j,b,h=>by simp at h
 | _,_,.cons r rs,0,b,h=>by simp at h;subst h;exact⟨_,rfl,r⟩
 | _,_,.cons r rs,j+1,b,h=>by simp at h;obtain⟨a,h1,h2⟩:=gL rs h;exact⟨a,by simpa using h1,h2⟩
section
variable {X:Cx} {K:PySem.W.Frag} {w:zQ}
theorem jY (h:X.K=K):dh X (.builtin "sorted") (fun xs H Q=>∃(p:Addr) (ns:List Int),xs=[.ref p]∧SqL K H p (ns.map C6)∧ns.length< 64∧∀(q:Addr) (ns':List Int),H q=none→ns'.Perm ns→ns'.Pairwise (· ≤ ·)→Q (.ref q) (cA H q (.lst (ns'.map C6)))):=by
 subst h
 intro pins s σ H xs us Q I r h
 obtain⟨p,ns,rfl,hq,h64,q⟩:=h
 obtain⟨u,rfl,rx⟩:=eS r
 cases rx
 obtain⟨its,r',pl,hz⟩:=I.list hq
 have hi:=iy r'
 have hlen:=IntsAre.length hi
 refine sorted_ints pl.isList hi (by omega) fun out ns' a1 a2 a3=>?_
 obtain⟨e,he⟩:=sortedAll_at s.heap its out
 have hl':=a2.length_eq
 refine⟨.ref (s.heap.objs.size+1),_,I.laid (t':=s.toks) (fun _ _=>sortedAll_old) (DW _) (show ObjOk X.prog X.w _ _ _ (.lst (ns'.map C6))from⟨by rw[A2,AQ];omega,out.toList,e,gK a1,by rw[Array.toArray_toList];exact he⟩),rfl,q _ ns' (I.hok.fresh (DW _)) a2 a3⟩
theorem fU (h:X.K=K):OpR X (compareOp .NotIn) (eT K true):=h▸jR
end
end L2
namespace L2
theorem gc {k:Nat} {A:PySem.Around} (r:Room k A):A.units+1< PySem.cLine:=by have:=r.un;omega
end L2
namespace L2
open PySem PySem.Spec PyProof.Rows
def qK (K:PySem.W.Frag) (te:TE) (tk:TO):TE:=fun σ H Q=>te σ H fun x H1=>tk σ H1 fun k H2=>∃a xs,x=.ref a∧k=some (-1)∧SqL K H2 a xs∧∀p,H2 p=none→Q (.ref p) (cA H2 p (.lst xs.reverse))
theorem qL {xs:List V} {us:List zl} (r:Vals xs us):Vals xs.reverse us.reverse:=by
 induction r with
 | nil=>exact .nil
 | cons h t ih=>rw[Fz,Fz];exact Paired.snoc ih h
theorem lb {X:Cx} {K:PySem.W.Frag} (hK:X.K=K) {e st:Expr} {te:TE} {tk:TO} {pos p2:Pos} (ops:Addr→Addr→List zl) (hs:∀a b:Addr,subscripted (.Slice none none (some st) p2) false (.ref a) (.ref b)=operate (ops a b) (getItem (.ref a) (.ref b))) (he:PE X e te) (hk:PO X (some st) tk):PE X (.Subscript e (.Slice none none (some st) p2) pos) (qK K te tk):=by
 subst hK
 intro pins s σ H Q I h
 refine Fh (bz (he pins s σ H _ I h) fun v s1 ⟨x,H1,I1,r1,q1⟩=>?_)
 refine wpAny_Slice ?_
 rw[F5]
 refine zo ?_
 refine zo ?_
 refine bz (hk pins s1 σ H1 _ I1 q1) fun vk s3 ⟨k,H3,I3,pk,q3⟩=>?_
 obtain⟨a,xs,rfl,rfl,hx,q⟩:=q3
 cases r1
 have I4:Inv X pins σ H3 {s3 with heap:=s3.heap.push {cls:=.type "slice",data:=.fields #[.none,.none,vk]}} :=I3.kept (t':=s3.toks) fun b ob q=>zr _ q
 obtain⟨its,r,ht,hz⟩:=I4.list hx
 have hlen:=r.length
 show wpAny (model X.prog X.w) X.A (subscriptTail e (.Slice none none (some st) p2) (.ref a) (.ref s3.heap.objs.size)) (EP X pins σ Q) X.xe {s3 with heap:=s3.heap.push {cls:=.type "slice",data:=.fields #[.none,.none,vk]}}
 refine H0 (ops:=ops a s3.heap.objs.size) ht.isList.typeIs DU.lookup ?_ (hs _ _)
 refine E6 ht.isList (Fi ..) .none .none pk (by decide) ?_ (by rw[zK];omega)
 rw[PySem.W.krv_pick]
 refine⟨.ref _,_,I4.laid (t':=s3.toks) (o:=.lst xs.reverse) (fun b ob q=>zr _ q) (zw _) ?_,rfl,q _ (I4.hok.fresh (zw _))⟩
 exact⟨by rw[Dx];exact hz,_,0,qL r,zz _ rfl⟩
end L2
namespace Wb
open PySem L2
end Wb
namespace L2
open PySem PySem.Spec PyProof.Rows Wb
end L2
namespace L2
open PySem PySem.Spec PyProof.Rows
end L2
namespace Mi
inductive Res (α:Type) where
 | ok (a:α) | err (j:Nat) | stuck
namespace Res
variable {α β:Type}
def Ok (m:Res α) (P:α→Prop):Prop:=match m with | .ok a=>P a | _=>False
def bind (m:Res α) (f:α→Res β):Res β:=match m with | .ok a=>f a | .err j=>.err j | .stuck=>.stuck
theorem bind_ok {m:Res α} {f:α→Res β} {P:β→Prop} (h:m.Ok fun a=>(f a).Ok P):(m.bind f).Ok P:=by cases m <;> exact h
theorem Ok.imp {m:Res α} {P Q:α→Prop} (h:m.Ok P) (k:∀a,P a→Q a):m.Ok Q:=by cases m <;> first | exact k _ h | exact h
theorem Ok.ex {m:Res α} {P:α→Prop} (h:m.Ok P):∃a,m=.ok a∧P a:=by
 cases m with
 | ok a=>exact⟨a,rfl,h⟩
 | err j=>exact h.elim
 | stuck=>exact h.elim
def OkE (m:Res α) (Er:Nat→Prop) (P:α→Prop):Prop:=match m with | .ok a=>P a | .err j=>Er j | .stuck=>False
theorem okE_bind {m:Res α} {f:α→Res β} {Er:Nat→Prop} {P:β→Prop} (h:(m.bind f).OkE Er P):m.OkE Er fun a=>(f a).OkE Er P:=by cases m <;> exact h
theorem OkE.imp {m:Res α} {Er:Nat→Prop} {P Q:α→Prop} (h:m.OkE Er P) (k:∀a,P a→Q a):m.OkE Er Q:=by cases m <;> first | exact k _ h | exact h
theorem Ok.e {m:Res α} {Er:Nat→Prop} {P:α→Prop} (h:m.Ok P):m.OkE Er P:=by
 cases m with
 | ok a=>exact h
 | err j=>exact h.elim
 | stuck=>exact h.elim
@[simp] theorem bind_ok' (a:α) (f:α→Res β):(Res.ok a).bind f=f a:=rfl
end Res
abbrev cap:Nat:=100000
def dQ (b:Prop) [Decidable b] {α:Type} (a:α):Res α:=if b then .ok a else .stuck
theorem bt {b:Prop} [Decidable b] {α:Type} {a:α} (h:b):dQ b a=.ok a:=if_pos h
theorem bj {b:Prop} [Decidable b] {α:Type} {a:α} {Er:Nat→Prop} {P:α→Prop} (h:(dQ b a).OkE Er P):b∧P a:=by
 unfold dQ at h
 by_cases hb:b
 ·rw[if_pos hb]at h;exact⟨hb,h⟩
 ·rw[if_neg hb]at h;exact h.elim
def tF {α:Type} :Option α→Res α
 | some a=>.ok a
 | none=>.stuck
theorem dH {α:Type} {o:Option α} {Er:Nat→Prop} {P:α→Prop} (h:(tF o).OkE Er P):∃a,o=some a∧P a:=by
 cases o with
 | none=>exact h.elim
 | some a=>exact⟨a,rfl,h⟩
abbrev Tx:=List Nat
def cy (i:Int):Int:=if i< 0 then -i else i
def jk (i j:Int):Res Int:=dQ ((-(2^64)< i∧i< 2^64)∨(-(2^64)< j∧j< 2^64)) (i*j)
def hV (i j:Int):Res Int:=dQ (0< j∧j< 1073741824) (i/ j)
def iG (i j:Int):Res Int:=dQ (0< j) (i% j)
def ixN (n:Nat) (i:Int):Option Nat:=if 0≤i then(if i< n then some i.toNat else none)else if -(n:Int)≤i then some (i+n).toNat else none
def qg {α:Type} (xs:List α) (i:Int):Option α:=(ixN xs.length i).bind fun j=>xs[j]?
theorem nK {α:Type} {xs:List α} {j:Nat} {v:α} (h:xs[j]? =some v):qg xs (j:Int)=some v:=by
 have hl:j< xs.length:=(zB.mp h).1
 unfold qg ixN
 rw[if_pos (by omega),if_pos (by omega),AA]
 exact h
theorem qM {α:Type} {xs:List α} {i:Int} (h0:0≤i) (h1:i< xs.length):∃h:i.toNat< xs.length,qg xs i=some xs[i.toNat]:=by
 have h2:i.toNat< xs.length:=by omega
 refine⟨h2,?_⟩
 have:=nK (xs:=xs) (j:=i.toNat) (v:=xs[i.toNat]) (by simp[h2])
 rw[F2 h0]at this
 exact this
def eW {α:Type} (xs:List α) (i:Int):Res α:=tF (qg xs i)
def dX (x:Tx) (i:Int):Res Tx:=(dQ (x.length≤cap) x).bind fun x=>(tF (qg x i)).bind fun c=>.ok [c]
def jl (a b:Tx):Res Tx:=dQ (a.length+b.length≤cap) (a++b)
def tG {α:Type} (a b:List α):Res (List α):=dQ (a.length+b.length≤cap) (a++b)
def gm {α:Type} (a:List α) (x:α):Res (List α):=dQ (a.length< cap) (a++ [x])
def vH (a:Tx) (n:Int):Res Tx:=match a with
 | [c]=>dQ (0≤n∧n≤cap) (Bt n.toNat c)
 | _=>.stuck
def sIx (n d:Nat):Option Int→Nat
 | none=>d
 | some v=>if v< 0 then(v+(n:Int)).toNat else min v.toNat n
def cut {α:Type} (l:List α) (lo hi:Option Int):List α:=(l.drop (sIx l.length 0 lo)).take (sIx l.length l.length hi- sIx l.length 0 lo)
def pc (x:Tx) (lo hi:Option Int):Res Tx:=dQ (x.length≤cap) (cut x lo hi)
def fR {α:Type} (xs:List α) (i:Int) (x:α):Res (List α):=(tF (ixN xs.length i)).bind fun j=>.ok (xs.set j x)
def qN (x:Tx) (c:Nat):Option Nat:=x.findIdx? (· == c)
def gM (x y:Tx):Res Int:=match y with
 | [c]=>(tF (qN x c)).bind fun j=>.ok (j:Int)
 | _=>.stuck
def lc (xs:List Tx):Res Tx:=dQ (xs.flatten.length≤cap) xs.flatten
def look {κ α:Type} [DecidableEq κ] (kvs:List (κ×α)) (k:κ):Option α:=(kvs.find? fun p=>decide (p.1=k)).map (·.2)
def getD {κ α:Type} [DecidableEq κ] (kvs:List (κ×α)) (k:κ):Res α:=tF (look kvs k)
def iH {α β:Type} (f:α→Res β):List α→Res (List β)
 | []=>.ok []
 | a::r=>(f a).bind fun b=>(iH f r).bind fun bs=>.ok (b::bs)
def dJ {α β:Type} (xs:List α) (f:α→Res β):Res (List β):=(dQ (xs.length≤cap) xs).bind fun xs=>iH f xs
def gp {α β:Type} (f:α→Res (Option β)):List α→Res (List β)
 | []=>.ok []
 | a::r=>(f a).bind fun b=>(gp f r).bind fun bs=>.ok (match b with | some b=>b::bs | none=>bs)
def nL {α β:Type} (xs:List α) (f:α→Res (Option β)):Res (List β):=(dQ (xs.length≤cap) xs).bind fun xs=>gp f xs
def bE {α S:Type} (f:α→S→Res S):List α→S→Res S
 | [],s=>.ok s
 | a::r,s=>(f a s).bind fun s=>bE f r s
inductive Fl (γ S:Type) where
 | nx (s:S) | bk (s:S) | rt (r:γ)
def wS {S γ:Type} (k:S→Res (Fl γ S)):Fl γ S→Res (Fl γ S)
 | .nx s=>k s
 | .bk s=>.ok (.nx s)
 | .rt x=>.ok (.rt x)
def iI {α S γ:Type} (f:α→S→Res (Fl γ S)):List α→S→Res (Fl γ S)
 | [],s=>.ok (.nx s)
 | a::r,s=>(f a s).bind (wS (iI f r))
def dR (n:Int):List Int:=(AD n.toNat).map fun(i:Nat)=>(i:Int)
def fh (n:Int):Res (List Int):=dQ (-(2^62)≤n∧n< 2^62) (dR n)
def cB (x:Tx):List Tx:=x.map fun c=>[c]
def gN (xs:List Int):List Int:=xs.mergeSort fun a b=>decide (a≤b)
theorem hW (xs:List Int):(gN xs).Perm xs:=F3 _ _
theorem jy (xs:List Int):(gN xs).Pairwise (· ≤ ·):=by
 have:=Ei (le:=fun a b:Int=>decide (a≤b)) (fun a b c h1 h2=>by simp at *;omega) (fun a b=>by simp;omega) xs
 exact this.imp fun h=>by simpa using h
theorem pf {xs ys:List Int} (h:ys.Perm xs) (hs:ys.Pairwise (· ≤ ·)):ys=gN xs:=
 E8 (le:=(· ≤ ·)) (fun a b _ _ h1 h2=>by omega) hs (jy xs) (h.trans (hW xs).symm)
def qO (xs:List Int):Res (List Int):=dQ (xs.length< 64) (gN xs)
def wo {α:Type} [DecidableEq α] (a b:α):Res Bool:=if a=b then .ok true else .stuck
def qP {α:Type} :List α→Res (α×α×α)
 | [a,b,c]=>.ok (a,b,c)
 | _=>.stuck
theorem nM {α β:Type} {f:α→Res β} {g:α→β} :∀{xs:List α},(∀x∈xs,f x=.ok (g x))→iH f xs=.ok (xs.map g)
 | [],_=>rfl
 | a :: r, h => by
  unfold iH
  rw[h a (zP ..),Res.bind_ok',nM fun x hx=>h x (zR _ hx)]
  rfl
theorem dY {α β:Type} {f:α→Res β} {g:α→β} {xs:List α} (hl:xs.length≤cap) (h:∀x∈xs,f x=.ok (g x)):dJ xs f=.ok (xs.map g):=by
 unfold dJ;rw[bt hl,Res.bind_ok',nM h]
end Mi
open Mi.Res renaming okE_bind→zj,bind_ok'→zm,ok→zt
open Mi.Res.Ok renaming imp→Bd
open Mi.Res.OkE renaming imp→A7
namespace Wb
open PySem L2 Mi
variable {Er:Nat→Prop}
structure Wd where
 G:Hp
 H:Hp
 ok:Same G H
structure Ext (W W':Wd):Prop where
 g:Same W.G W'.G
 h:Same W.H W'.H
 k:∀p,W.H p≠none→W'.G p=W.G p
theorem Ext.refl (W:Wd):Ext W W:=⟨.refl _,.refl _,fun _ _=>rfl⟩
theorem Ext.trans {W W1 W2:Wd} (a:Ext W W1) (b:Ext W1 W2):Ext W W2:=⟨a.g.trans b.g,a.h.trans b.h,fun p hp=>by
 obtain⟨o,ho⟩:=DH.mp hp
 rw[b.k p (by rw[a.h p o ho];exact fun z=>nomatch z),a.k p hp]⟩
theorem Same.upd2 {G H:Hp} (h:Same G H) (p:Addr) (o:HO):Same (cA G p o) (cA H p o):=fun a u e=>by
 by_cases z:a=p
 ·subst z;rw[aI]at e ⊢;exact e
 ·rw[aJ z]at e ⊢;exact h _ _ e
def Wd.new (W:Wd) (p:Addr) (o:HO):Wd:=⟨cA W.G p o,cA W.H p o,Same.upd2 W.ok p o⟩
theorem Wd.gnone (W:Wd) {p:Addr} (h:W.H p=none):W.G p=none:=aT W.ok h
theorem Ext.new {W:Wd} {p:Addr} (o:HO) (h:W.H p=none):Ext W (W.new p o):=⟨cr (W.gnone h),cr h,fun q hq=>aJ fun z=>hq (z▸h)⟩
def Wd.mut (W:Wd) (p:Addr) (o:HO) (h:W.G p=none):Wd:=⟨W.G,cA W.H p o,p9 W.ok h⟩
theorem Ext.own {W:Wd} {p:Addr} (o:HO) (h:W.H p=none):Ext W (W.mut p o (W.gnone h)):=⟨.refl _,cr h,fun _ _=>rfl⟩
def Wd.frz (W:Wd) (p:Addr) (o:HO) (h:W.H p=some o):Wd:=⟨cA W.G p o,W.H,fun a u e=>by
 by_cases z:a=p
 ·subst z;rw[aI]at e;cases e;exact h
 ·rw[aJ z]at e;exact W.ok _ _ e⟩
theorem Ext.mut {W0 W:Wd} {p:Addr} {o:HO} (e:Ext W0 W) (hp:W0.H p=none) (h:W.G p=none):Ext W0 (W.mut p o h):=
 ⟨e.g,fun a u z=>by show cA W.H p o a=_;rw[aJ (bM z hp)];exact e.h _ _ z,e.k⟩
theorem Ext.frz {W0 W:Wd} {p:Addr} {o:HO} (e:Ext W0 W) (hp:W0.H p=none) (h:W.H p=some o) (hg:W.G p=none):Ext W0 (W.frz p o h):=
 ⟨e.g.trans (cr hg),e.h,fun q hq=>by show cA W.G p o q=_;rw[aJ (fun z=>hq (by rw[z];exact hp))];exact e.k q hq⟩
abbrev Rw (α:Type):=Wd→α→V→Prop
class MonoW {α:Type} (R:Rw α):Prop where
 mono:∀{W W':Wd} {a:α} {v:V},Ext W W'→R W a v→R W' a v
def sh {α:Type} (R:Rp α):Rw α:=fun W a v=>R W.G a v
instance zkeep8 {α:Type} {R:Rp α} [Mono R]:MonoW (sh R):=⟨fun e h=>zk (R:=R) e.g h⟩
def pk {α:Type} (R:Rp α):Rw (List α):=fun W xs v=>∃p vs,v=.ref p∧W.H p=some (.lst vs)∧LR R W.G xs vs
instance zkeep9 {α:Type} {R:Rp α} [Mono R]:MonoW (pk R):=⟨fun e ⟨p,vs,a,b,c⟩=>⟨p,vs,a,e.h _ _ b,c.same e.g⟩⟩
theorem pk.of {α:Type} {R:Rp α} {W:Wd} {xs:List α} {v:V} (h:isL R W.G xs v):pk R W xs v:=by
 obtain⟨p,vs,a,b,c⟩:=h
 exact⟨p,vs,a,W.ok _ _ b,c⟩
structure Ow {α:Type} (R:Rp α) (W:Wd) (p:Addr) (xs:List α):Prop where
 g:W.G p=none
 h:∃vs,W.H p=some (.lst vs)∧LR R W.G xs vs
theorem Ow.mono {α:Type} {R:Rp α} [Mono R] {W W':Wd} {p:Addr} {xs:List α} (o:Ow R W p xs) (e:Ext W W'):Ow R W' p xs:=by
 obtain⟨vs,a,b⟩:=o.h
 exact⟨by rw[e.k p (by rw[a];exact fun z=>nomatch z)];exact o.g,vs,e.h _ _ a,b.same e.g⟩
theorem Ow.pk {α:Type} {R:Rp α} {W:Wd} {p:Addr} {xs:List α} (o:Ow R W p xs):pk R W xs (.ref p):=by
 obtain⟨vs,a,b⟩:=o.h
 exact⟨p,vs,rfl,a,b⟩
theorem Ow.frz {α:Type} {R:Rp α} [Mono R] {W0 W:Wd} {p:Addr} {xs:List α} (o:Ow R W p xs) (e:Ext W0 W) (hp:W0.H p=none):
  ∃W',W'.H=W.H∧Ext W0 W'∧Same W.G W'.G∧isL R W'.G xs (.ref p)∧∀q,q≠p→W'.G q=W.G q:=by
 obtain⟨vs,a,b⟩:=o.h
 exact⟨W.frz p _ a,rfl,e.frz hp a o.g,cr o.g,⟨p,vs,rfl,aI,b.same (cr o.g)⟩,fun q hq=>aJ hq⟩
theorem Ow.keep {α:Type} {R:Rp α} [Mono R] {W W':Wd} {q:Addr} {xs:List α} (o:Ow R W q xs) (hH:W'.H q=W.H q) (hs:Same W.G W'.G) (hg:W'.G q=W.G q):Ow R W' q xs:=by
 obtain⟨vs,a,b⟩:=o.h
 exact⟨by rw[hg];exact o.g,vs,by rw[hH];exact a,b.same hs⟩
def EV (Er:Nat→Prop) {α:Type} (t:TE) (σ:St) (W:Wd) (R:Rw α) (m:Res α):Prop:=∀W1,Ext W W1→∀Q:VK,m.OkE Er (fun a=>∀v W2,Ext W1 W2→R W2 a v→Q v W2.H)→t σ W1.H Q
def EVo (Er:Nat→Prop) {α:Type} (t:TE) (σ:St) (W:Wd) (R:Rp α) (m:Res (List α)):Prop:=∀W1,Ext W W1→∀Q:VK,m.OkE Er (fun xs=>∀p W2,Ext W1 W2→W1.H p=none→Ow R W2 p xs→Q (.ref p) W2.H)→t σ W1.H Q
def TV (Er:Nat→Prop) (t:TT) (σ:St) (W:Wd) (m:Res Bool):Prop:=∀W1,Ext W W1→∀Q:Bool→Hp→Prop,m.OkE Er (fun b=>∀W2,Ext W1 W2→Q b W2.H)→t σ W1.H Q
section
variable {α β γ:Type} {t ta tb:TE} {σ:St} {W W0 W':Wd} {K:PySem.W.Frag}
theorem EV.imp {R R':Rw α} {m:Res α} (h:EV Er t σ W R m) (f:∀W a v,R W a v→R' W a v):EV Er t σ W R' m:=fun W1 e1 Q k=>h W1 e1 Q (k.imp fun a ka v W2 e2 r=>ka v W2 e2 (f _ _ _ r))
theorem EVo.ev {R:Rp α} [Mono R] {m:Res (List α)} (h:EVo Er t σ W R m):EV Er t σ W (sh (isL R)) m:=fun W1 e1 Q k=>h W1 e1 Q (k.imp fun xs kx p W2 e2 hp o=>by
 obtain⟨W3,hH,e3,_,r,_⟩:=o.frz e2 hp
 rw[←hH]
 exact kx (.ref p) W3 e3 r)
theorem EVo.pk {R:Rp α} [Mono R] {m:Res (List α)} (h:EVo Er t σ W R m):EV Er t σ W (pk R) m:=fun W1 e1 Q k=>h W1 e1 Q (k.imp fun xs kx p W2 e2 hp o=>kx (.ref p) W2 e2 o.pk)
theorem EV.pk {R:Rp α} {m:Res (List α)} (h:EV Er t σ W (sh (isL R)) m):EV Er t σ W (pk R) m:=h.imp fun _ _ _ r=>pk.of r
theorem a8 {R:Rw α} [MonoW R] {i:Nat} {v:V} {a:α} (r:R W a v) (h:σ[i]? =some (some v):=by rfl):EV Er (bD i) σ W R (.ok a):=fun W1 e1 Q k=>⟨v,h,k v W1 (.refl _) (MonoW.mono e1 r)⟩
theorem cN {R:Rp α} [Mono R] {i:Nat} {p:Addr} {a:List α} (r:Ow R W p a) (h:σ[i]? =some (some (.ref p)):=by rfl):EV Er (bD i) σ W (pk R) (.ok a):=a8 r.pk h
def isB:Rp Bool:=fun _ b v=>v=.bl b
instance zkeep10:Mono isB:=⟨fun _ h=>h⟩
def isO (R:Rp α):Rp (Option α):=fun H o v=>match o with | none=>v=.non | some a=>R H a v∧v≠.non
instance zkeep12 {R:Rp α} [Mono R]:Mono (isO R):=⟨fun {H H' m v} e h=>by
 cases m with
 | none=>exact h
 | some a=>exact⟨zk e h.1,h.2⟩⟩
theorem ah {i:Int} :EV Er (tC (.int i)) σ W (sh isI) (.ok i):=fun W1 _ Q k=>k _ W1 (.refl _) rfl
theorem bq {x:Str} {l:Tx} (h:x=ar l):EV Er (tC (.str x)) σ W (sh isS) (.ok l):=fun W1 _ Q k=>k _ W1 (.refl _) (by rw[h];rfl)
theorem nN {b:Bool} :EV Er (tC (.bl b)) σ W (sh isB) (.ok b):=fun W1 _ Q k=>k _ W1 (.refl _) rfl
theorem tH {R:Rp α} :EV Er (tC .non) σ W (sh (isO R)) (.ok none):=fun W1 _ Q k=>k _ W1 (.refl _) rfl
theorem qQ {r:R2} {Ra:Rw α} [MonoW Ra] {Rb:Rw β} {R:Rw γ} {ma:Res α} {mb:Res β} {f:α→β→Res γ} (ha:EV Er ta σ W Ra ma) (hb:EV Er tb σ W Rb mb)
  (h:∀W a b x y Q,Ra W a x→Rb W b y→(f a b).OkE Er (fun c=>∀v W2,Ext W W2→R W2 c v→Q v W2.H)→r x y W.H Q):EV Er (cK r ta tb) σ W R (ma.bind fun a=>mb.bind fun b=>f a b):=fun W1 e1 Q k=>by
 refine ha W1 e1 _ ((zj k).imp fun a ka x W2 e2 hx=>?_)
 refine hb W2 (e1.trans e2) _ ((zj ka).imp fun b kb y W3 e3 hy=>?_)
 exact h W3 a b x y Q (MonoW.mono e3 hx) hy (kb.imp fun c kc v W4 e4 hv=>kc v W4 ((e2.trans e3).trans e4) hv)
theorem yy {r:V→Hp→VK→Prop} {Ra:Rw α} {R:Rw γ} {ma:Res α} {f:α→Res γ} (ha:EV Er ta σ W Ra ma)
  (h:∀W a x Q,Ra W a x→(f a).OkE Er (fun c=>∀v W2,Ext W W2→R W2 c v→Q v W2.H)→r x W.H Q):EV Er (eF r ta) σ W R (ma.bind f):=fun W1 e1 Q k=>by
 refine ha W1 e1 _ ((zj k).imp fun a ka x W2 e2 hx=>?_)
 exact h W2 a x Q hx (ka.imp fun c kc v W4 e4 hv=>kc v W4 (e2.trans e4) hv)
section
variable {ma mb:Res Int}
theorem aV {g:Int→Int→Int} (ha:EV Er ta σ W (sh isI) ma) (hb:EV Er tb σ W (sh isI) mb):EV Er (cK (dD fun i j=>.int (g i j)) ta tb) σ W (sh isI) (ma.bind fun a=>mb.bind fun b=>.ok (g a b)):=
 qQ ha hb fun W a b x y Q hx hy k=>by cases hx;cases hy;exact⟨a,b,rfl,rfl,k _ W (.refl _) rfl⟩
theorem qR {C:Int→Int→Prop} {g:Int→Int→Int} {f:Int→Int→Res Int} (hf:∀a b P,(f a b).OkE Er P→C a b∧P (g a b)) (ha:EV Er ta σ W (sh isI) ma) (hb:EV Er tb σ W (sh isI) mb):
  EV Er (cK (rI C fun i j=>.int (g i j)) ta tb) σ W (sh isI) (ma.bind fun a=>mb.bind fun b=>f a b):=
 qQ ha hb fun W a b x y Q hx hy k=>by cases hx;cases hy;exact⟨a,b,rfl,rfl,(hf a b _ k).1,(hf a b _ k).2 _ W (.refl _) rfl⟩
theorem jZ (ha:EV Er ta σ W (sh isI) ma) (hb:EV Er tb σ W (sh isI) mb):EV Er (cK (rI CMul fun i j=>.int (i*j)) ta tb) σ W (sh isI) (ma.bind fun a=>mb.bind fun b=>jk a b):=qR (fun a b P h=>by unfold jk at h;obtain⟨h1,h2⟩:=bj h;exact⟨h1,h2⟩) ha hb
theorem nO (ha:EV Er ta σ W (sh isI) ma) (hb:EV Er tb σ W (sh isI) mb):EV Er (cK (rI wG fun i j=>.int (i/ j)) ta tb) σ W (sh isI) (ma.bind fun a=>mb.bind fun b=>hV a b):=qR (fun a b P h=>by unfold hV at h;obtain⟨h1,h2⟩:=bj h;exact⟨h1,h2⟩) ha hb
theorem gO (ha:EV Er ta σ W (sh isI) ma) (hb:EV Er tb σ W (sh isI) mb):EV Er (cK (rI (fun _ j=>0< j) fun i j=>.int (i% j)) ta tb) σ W (sh isI) (ma.bind fun a=>mb.bind fun b=>iG a b):=qR (fun a b P h=>by unfold iG at h;obtain⟨h1,h2⟩:=bj h;exact⟨h1,h2⟩) ha hb
theorem aj {C:Int→Int→Prop} {g:Int→Int→Int} {n:Int} (hn:∀a,C a n) (ha:EV Er ta σ W (sh isI) ma):EV Er (cK (rI C fun i j=>.int (g i j)) ta (tC (.int n))) σ W (sh isI) (ma.bind fun a=>.ok (g a n)):=
 fun W1 e1 Q k=>ha W1 e1 _ ((zj k).imp fun a ka x W2 e2 hx=>by cases hx;exact⟨a,n,rfl,rfl,hn a,ka _ W2 e2 rfl⟩)
end
end
end Wb
open Wb.EV renaming pk→CY
open Wb.EVo renaming ev→Cj,pk→CW
open Wb.Ext renaming new→DB
open Wb.MonoW renaming mono→Am
namespace Wb
open PySem L2 Mi
variable {Er:Nat→Prop}
section
variable {α β γ δ:Type} {t ta tb tc:TE} {σ:St} {W W0 W':Wd} {K:PySem.W.Frag}
theorem qS {n:Nat} (h:n≤cap):n≤sizeLine:=by rw[AQ];unfold cap at h;omega
section
variable {ma mb:Res Int}
theorem fj (ha:EV Er ta σ W (sh isI) ma):EV Er (eF (rU fun i=>.int (-i)) ta) σ W (sh isI) (ma.bind fun a=>.ok (-a)):=
 yy ha fun W a x Q hx k=>by cases hx;exact⟨a,rfl,k _ W (.refl _) rfl⟩
theorem cu {g:Int→Int→Bool} (ha:EV Er ta σ W (sh isI) ma) (hb:EV Er tb σ W (sh isI) mb):EV Er (cK (dD fun i j=>.bl (g i j)) ta tb) σ W (sh isB) (ma.bind fun a=>mb.bind fun b=>.ok (g a b)):=
 qQ ha hb fun W a b x y Q hx hy k=>by cases hx;cases hy;exact⟨a,b,rfl,rfl,k _ W (.refl _) rfl⟩
end
theorem dI {a b:Int} :decide (C6 a=C6 b)=decide (a=b):=by rw[BI];simp
theorem dS {a b:Tx} :decide (Dp (ar a)=Dp (ar b))=decide (a=b):=by
 rw[BI,decide_eq_true_eq,decide_eq_true_eq]
 exact⟨fun h=>nI (Dp.inj h),fun h=>by rw[h]⟩
theorem cG {ma mb:Res Int} (ha:EV Er ta σ W (sh isI) ma) (hb:EV Er tb σ W (sh isI) mb):EV Er (cK eR ta tb) σ W (sh isB) (ma.bind fun a=>mb.bind fun b=>.ok (decide (a=b))):=
 qQ ha hb fun W a b x y Q hx hy k=>by cases hx;cases hy;exact⟨rfl,by rw[dI];exact k _ W (.refl _) rfl⟩
theorem gP {ma mb:Res Tx} (ha:EV Er ta σ W (sh isS) ma) (hb:EV Er tb σ W (sh isS) mb):EV Er (cK eR ta tb) σ W (sh isB) (ma.bind fun a=>mb.bind fun b=>.ok (decide (a=b))):=
 qQ ha hb fun W a b x y Q hx hy k=>by cases hx;cases hy;exact⟨rfl,by rw[dS];exact k _ W (.refl _) rfl⟩
theorem vI {R:Rp α} {ma:Res (Option α)} (ha:EV Er ta σ W (sh (isO R)) ma):EV Er (cK (fun x y H Q=>y=.non∧Q (.bl (decide (x=.non))) H) ta (tC .non)) σ W (sh isB) (ma.bind fun a=>.ok a.isNone):=fun W1 e1 Q k=>
 ha W1 e1 _ ((zj k).imp fun a ka x W2 e2 hx=>⟨rfl,by
  have e:decide (x=V.non)=a.isNone:=by
   cases a with
   | none=>cases hx;rfl
   | some b=>rw[decide_eq_false hx.2];rfl
  rw[e];exact ka _ W2 e2 rfl⟩)
theorem aH {m:Res Bool} (h:EV Er t σ W (sh isB) m):TV Er (bg t) σ W m:=fun W1 e1 Q k=>h W1 e1 _ (k.imp fun b kb v W2 e2 hv=>⟨b,hv,kb W2 e2⟩)
theorem qT {m:Res Bool} (h:EV Er t σ W (sh isB) m):TV Er (tB t) σ W m:=fun W1 e1 Q k=>h W1 e1 _ (k.imp fun b kb v W2 e2 hv=>⟨b,hv,kb W2 e2⟩)
theorem vJ {t:TT} {m:Res Bool} (h:TV Er t σ W m):TV Er (cb t) σ W (m.bind fun b=>.ok (!b)):=fun W1 e1 Q k=>h W1 e1 _ ((zj k).imp fun b kb W2 e2=>kb W2 e2)
theorem gd {t u:TT} {m n:Res Bool} (h:TV Er t σ W m) (g:TV Er u σ W n):TV Er (ca t u) σ W (m.bind fun b=>if b then n else .ok false):=fun W1 e1 Q k=>h W1 e1 _ ((zj k).imp fun b kb W2 e2=>by
 cases b with
 | true=>exact g W2 (e1.trans e2) _ (kb.imp fun c kc W3 e3=>kc W3 (e2.trans e3))
 | false=>exact kb W2 e2)
theorem mJ {m n:Res Bool} (h:EV Er ta σ W (sh isB) m) (g:EV Er tb σ W (sh isB) n):EV Er (bf ta tb) σ W (sh isB) (m.bind fun b=>if b then n else .ok false):=fun W1 e1 Q k=>h W1 e1 _ ((zj k).imp fun b kb v W2 e2 hv=>⟨b,hv,by
 cases b with
 | true=>exact g W2 (e1.trans e2) _ (kb.imp fun c kc v W3 e3 hv=>kc v W3 (e2.trans e3) hv)
 | false=>exact kb _ W2 e2 rfl⟩)
theorem wT {m n:Res Bool} (h:EV Er ta σ W (sh isB) m) (g:EV Er tb σ W (sh isB) n):EV Er (cf ta tb) σ W (sh isB) (m.bind fun b=>if b then .ok true else n):=fun W1 e1 Q k=>h W1 e1 _ ((zj k).imp fun b kb v W2 e2 hv=>⟨b,hv,by
 cases b with
 | true=>exact kb _ W2 e2 rfl
 | false=>exact g W2 (e1.trans e2) _ (kb.imp fun c kc v W3 e3 hv=>kc v W3 (e2.trans e3) hv)⟩)
theorem ld {R:Rw α} {c:TT} {mc:Res Bool} {m n:Res α} (hc:TV Er c σ W mc) (h:EV Er ta σ W R m) (g:EV Er tb σ W R n):EV Er (eU c ta tb) σ W R (mc.bind fun b=>if b then m else n):=fun W1 e1 Q k=>hc W1 e1 _ ((zj k).imp fun b kb W2 e2=>by
 cases b with
 | true=>exact h W2 (e1.trans e2) _ (kb.imp fun c kc v W3 e3 hv=>kc v W3 (e2.trans e3) hv)
 | false=>exact g W2 (e1.trans e2) _ (kb.imp fun c kc v W3 e3 hv=>kc v W3 (e2.trans e3) hv))
theorem fI {ma mb:Res Tx} (ha:EV Er ta σ W (sh isS) ma) (hb:EV Er tb σ W (sh isS) mb):EV Er (cK (fun x y H Q=>∃i j,x=.str i∧y=.str j∧i.length+j.length≤sizeLine∧Q (.str (i++j)) H) ta tb) σ W (sh isS) (ma.bind fun a=>mb.bind fun b=>jl a b):=
 qQ ha hb fun W a b x y Q hx hy k=>by
  cases hx;cases hy
  obtain⟨h1,h2⟩:=bj k
  exact⟨_,_,rfl,rfl,by rw[dG,dG];exact qS h1,by rw[mD];exact h2 _ W (.refl _) rfl⟩
theorem tI {ma:Res Tx} {mb:Res Int} (ha:EV Er ta σ W (sh isS) ma) (hb:EV Er tb σ W (sh isI) mb):EV Er (cK (fun x y H Q=>∃c n,x=.str (ar [c])∧y=.int n∧0≤n∧n≤100000∧Q (.str (ar (Bt n.toNat c))) H) ta tb) σ W (sh isS) (ma.bind fun a=>mb.bind fun b=>vH a b):=
 qQ ha hb fun W a b x y Q hx hy k=>by
  cases hx;cases hy
  match a,k with
  | [c], k =>
   obtain⟨h1,h2⟩:=bj k
   exact⟨c,b,rfl,rfl,h1.1,h1.2,h2 _ W (.refl _) rfl⟩
theorem bI {ma:Res Tx} {mb:Res Int} (ha:EV Er ta σ W (sh isS) ma) (hb:EV Er tb σ W (sh isI) mb):EV Er (cK ci ta tb) σ W (sh isS) (ma.bind fun a=>mb.bind fun b=>dX a b):=
 qQ ha hb fun W a b x y Q hx hy k=>by
  cases hx;cases hy
  obtain⟨h1,h2⟩:=bj (zj k)
  obtain⟨c,h3,h4⟩:=dH (zj h2)
  exact⟨_,b,c,rfl,rfl,by rw[dG];exact qS h1,by rw[nH];exact h3,h4 _ W (.refl _) rfl⟩
theorem wU {R:Rw α} {r:V→Option Int→Option Int→Hp→VK→Prop} {Ra:Rw β} [MonoW Ra] {ma:Res β} {tl th:TO} {ml mh:Res (Option Int)} {f:β→Option Int→Option Int→Res α} (ha:EV Er ta σ W Ra ma)
  (hl:∀W1,Ext W W1→∀Q:Option Int→Hp→Prop,ml.OkE Er (fun o=>∀W2,Ext W1 W2→Q o W2.H)→tl σ W1.H Q) (hh:∀W1,Ext W W1→∀Q:Option Int→Hp→Prop,mh.OkE Er (fun o=>∀W2,Ext W1 W2→Q o W2.H)→th σ W1.H Q)
  (h:∀W a x lo hi Q,Ra W a x→(f a lo hi).OkE Er (fun c=>∀v W2,Ext W W2→R W2 c v→Q v W2.H)→r x lo hi W.H Q):EV Er (eJ r ta tl th) σ W R (ma.bind fun a=>ml.bind fun lo=>mh.bind fun hi=>f a lo hi):=fun W1 e1 Q k=>
 ha W1 e1 _ ((zj k).imp fun a ka x W2 e2 hx=>hl W2 (e1.trans e2) _ ((zj ka).imp fun lo kl W3 e3=>hh W3 ((e1.trans e2).trans e3) _ ((zj kl).imp fun hi kh W4 e4=>
  h W4 a x lo hi Q (Am (e3.trans e4) hx) (kh.imp fun c kc v W5 e5 hv=>kc v W5 (((e2.trans e3).trans e4).trans e5) hv))))
theorem lf:∀W1,Ext W W1→∀Q:Option Int→Hp→Prop,(zt (none:Option Int)).OkE Er (fun o=>∀W2,Ext W1 W2→Q o W2.H)→aG σ W1.H Q:=fun W1 _ Q k=>k W1 (.refl _)
theorem lg {m:Res Int} (h:EV Er t σ W (sh isI) m):∀W1,Ext W W1→∀Q:Option Int→Hp→Prop,(m.bind fun i=>.ok (some i)).OkE Er (fun o=>∀W2,Ext W1 W2→Q o W2.H)→be t σ W1.H Q:=fun W1 e1 Q k=>
 h W1 e1 _ ((zj k).imp fun i ki v W2 e2 hv=>⟨i,hv,ki W2 e2⟩)
theorem nP {ma:Res Tx} {tl th:TO} {ml mh:Res (Option Int)} (ha:EV Er ta σ W (sh isS) ma)
  (hl:∀W1,Ext W W1→∀Q:Option Int→Hp→Prop,ml.OkE Er (fun o=>∀W2,Ext W1 W2→Q o W2.H)→tl σ W1.H Q) (hh:∀W1,Ext W W1→∀Q:Option Int→Hp→Prop,mh.OkE Er (fun o=>∀W2,Ext W1 W2→Q o W2.H)→th σ W1.H Q):
  EV Er (eJ (fun x lo hi H Q=>∃l,x=.str (ar l)∧l.length≤sizeLine∧Q (.str (ar (i5 l lo hi))) H) ta tl th) σ W (sh isS) (ma.bind fun a=>ml.bind fun lo=>mh.bind fun hi=>pc a lo hi):=
 wU ha hl hh fun W a x lo hi Q hx k=>by
  cases hx
  obtain⟨h1,h2⟩:=bj k
  exact⟨a,rfl,qS h1,h2 _ W (.refl _) rfl⟩
theorem wV (x:Tx) (c j:Nat) (h:qN x c=some j):DF (ar x) (ar [c])=(j:Int):=by
 unfold qN at h
 rw[List.findIdx?_eq_some_iff_getElem]at h
 obtain⟨hj,h1,h2⟩:=h
 have hat:∀i,StrLaws.At (ar x) (ar [c]) (ar x).length i↔x[i]? =some c:=fun i=>by
  have:=StrLaws.subAt_one (ar x) c i
  rw[nH]at this
  exact this
 unfold DF
 rcases StrLaws.occ_head (ar x) (ar [c]) 1 (zw _)with⟨_,hn⟩ | ⟨i,r,e,hi,hk⟩
 ·exact absurd ((hat j).mpr (by rw[zu hj];simpa using h1)) (hn j)
 ·rw[e]
  have e2:=(hat i).mp hi
  obtain⟨hil,e3⟩:=zB.mp e2
  have:i=j:=by
   rcases Nat.lt_trichotomy i j with z | z | z
   ·exact absurd e3 (by simpa using h2 i z)
   ·exact z
   ·exact absurd ((hat j).mpr (by rw[zu hj];simpa using h1)) (hk j z)
  rw[this]
theorem gq {ma mb:Res Tx} {K:PySem.W.Frag} (ha:EV Er ta σ W (sh isS) ma) (hb:EV Er tb σ W (sh isS) mb):EV Er (dF K "str" (fun x xs H Q=>∃a b,x=.str a∧xs=[.str b]∧0≤DF a b∧Q (.int (DF a b)) H) ta (am tb aU)) σ W (sh isI) (ma.bind fun a=>mb.bind fun b=>gM a b):=fun W1 e1 Q k=>
 ha W1 e1 _ ((zj k).imp fun a ka x W2 e2 hx=>by
  cases hx
  refine⟨rfl,hb W2 (e1.trans e2) _ ((zj ka).imp fun b kb y W3 e3 hy=>?_)⟩
  cases hy
  match b,kb with
  | [c], kb =>
   obtain⟨j,h1,h2⟩:=dH (zj kb)
   have e:=wV a c j h1
   exact⟨_,_,rfl,rfl,by rw[e];omega,by rw[e];exact h2 _ W3 (e2.trans e3) rfl⟩)
theorem Same.tup {H H':Hp} {a:Addr} {xs:List V} (e:Same H H') (h:SqT K H a xs):SqT K H' a xs:=by
 rcases h with(h | ⟨o,h⟩) | h
 ·exact .inl (.inl (e _ _ h))
 ·exact .inl (.inr ⟨o,e _ _ h⟩)
 ·exact .inr h
def isT2 (K:PySem.W.Frag) (R1:Rp α) (R2:Rp β):Rp (α×β):=fun H a v=>∃p x y,v=.ref p∧SqT K H p [x,y]∧R1 H a.1 x∧R2 H a.2 y
def isT3 (K:PySem.W.Frag) (R1:Rp α) (R2:Rp β) (R3:Rp γ):Rp (α×β×γ):=fun H a v=>∃p x y z,v=.ref p∧SqT K H p [x,y,z]∧R1 H a.1 x∧R2 H a.2.1 y∧R3 H a.2.2 z
instance zkeep14 {R1:Rp α} {R2:Rp β} [Mono R1] [Mono R2]:Mono (isT2 K R1 R2):=⟨fun e ⟨p,x,y,h0,h,h1,h2⟩=>⟨p,x,y,h0,Same.tup e h,zk e h1,zk e h2⟩⟩
instance zkeep15 {R1:Rp α} {R2:Rp β} {R3:Rp γ} [Mono R1] [Mono R2] [Mono R3]:Mono (isT3 K R1 R2 R3):=⟨fun e ⟨p,x,y,z,h0,h,h1,h2,h3⟩=>⟨p,x,y,z,h0,Same.tup e h,zk e h1,zk e h2,zk e h3⟩⟩
theorem i7 {R1:Rp α} {R2:Rp β} [Mono R1] [Mono R2] {ma:Res α} {mb:Res β} (ha:EV Er ta σ W (sh R1) ma) (hb:EV Er tb σ W (sh R2) mb):EV Er (bU (am ta (am tb aU))) σ W (sh (isT2 K R1 R2)) (ma.bind fun a=>mb.bind fun b=>.ok (a,b)):=fun W1 e1 Q k=>
 ha W1 e1 _ ((zj k).imp fun a ka x W2 e2 hx=>hb W2 (e1.trans e2) _ ((zj ka).imp fun b kb y W3 e3 hy=>⟨(by show 2≤sizeLine;decide),fun p hp=>
  kb (.ref p) (W3.new p (.tup [x,y])) ((e2.trans e3).trans (.new _ hp)) ⟨p,x,y,rfl,GP aI,zk (DB _ hp).g (zk (R:=R1) e3.g hx),zk (R:=R2) (DB _ hp).g hy⟩⟩))
theorem cO {R1:Rp α} {R2:Rp β} {R3:Rp γ} [Mono R1] [Mono R2] [Mono R3] {ma:Res α} {mb:Res β} {mc:Res γ} (ha:EV Er ta σ W (sh R1) ma) (hb:EV Er tb σ W (sh R2) mb) (hc:EV Er tc σ W (sh R3) mc):
  EV Er (bU (am ta (am tb (am tc aU)))) σ W (sh (isT3 K R1 R2 R3)) (ma.bind fun a=>mb.bind fun b=>mc.bind fun c=>.ok (a,b,c)):=fun W1 e1 Q k=>
 ha W1 e1 _ ((zj k).imp fun a ka x W2 e2 hx=>hb W2 (e1.trans e2) _ ((zj ka).imp fun b kb y W3 e3 hy=>hc W3 ((e1.trans e2).trans e3) _ ((zj kb).imp fun c kc z W4 e4 hz=>⟨(by show 3≤sizeLine;decide),fun p hp=>
  kc (.ref p) (W4.new p (.tup [x,y,z])) (((e2.trans e3).trans e4).trans (.new _ hp)) ⟨p,x,y,z,rfl,GP aI,zk (DB _ hp).g (zk (R:=R1) (e3.trans e4).g hx),zk (R:=R2) (DB _ hp).g (zk (R:=R2) e4.g hy),zk (R:=R3) (DB _ hp).g hz⟩⟩)))
theorem b9 {R:Rp α} {Rt:Rp β} {m:Res β} {i:Int} {f:β→α} (h:∀H b v,Rt H b v→∃p xs x,v=.ref p∧SqT K H p xs∧L2.atI xs i=some x∧R H (f b) x) (ha:EV Er ta σ W (sh Rt) m):EV Er (cK (bV K) ta (tC (.int i))) σ W (sh R) (m.bind fun b=>.ok (f b)):=fun W1 e1 Q k=>
 ha W1 e1 _ ((zj k).imp fun b kb v W2 e2 hv=>by
  obtain⟨p,xs,x,h1,h2,h3,h4⟩:=h _ _ _ hv
  exact⟨p,xs,i,x,h1,rfl,Same.tup W2.ok h2,h3,kb _ W2 e2 h4⟩)
theorem wW {R1:Rp α} {R2:Rp β} :∀H b v,isT2 K R1 R2 H b v→∃p xs x,v=.ref p∧SqT K H p xs∧L2.atI xs 0=some x∧R1 H b.1 x:=fun _ _ _ ⟨p,x,y,h0,h,h1,h2⟩=>⟨p,_,x,h0,h,rfl,h1⟩
theorem lh {R1:Rp α} {R2:Rp β} {R3:Rp γ} :∀H b v,isT3 K R1 R2 R3 H b v→∃p xs x,v=.ref p∧SqT K H p xs∧L2.atI xs 0=some x∧R1 H b.1 x:=fun _ _ _ ⟨p,x,y,z,h0,h,h1,h2,h3⟩=>⟨p,_,x,h0,h,rfl,h1⟩
theorem jm {R1:Rp α} {R2:Rp β} {R3:Rp γ} :∀H b v,isT3 K R1 R2 R3 H b v→∃p xs x,v=.ref p∧SqT K H p xs∧L2.atI xs 1=some x∧R2 H b.2.1 x:=fun _ _ _ ⟨p,x,y,z,h0,h,h1,h2,h3⟩=>⟨p,_,y,h0,h,rfl,h2⟩
theorem k6 {R1:Rp α} {R2:Rp β} {R3:Rp γ} :∀H b v,isT3 K R1 R2 R3 H b v→∃p xs x,v=.ref p∧SqT K H p xs∧L2.atI xs 2=some x∧R3 H b.2.2 x:=fun _ _ _ ⟨p,x,y,z,h0,h,h1,h2,h3⟩=>⟨p,_,z,h0,h,rfl,h3⟩
theorem nQ {R:Rp α} {H:Hp} {as:List α} {xs:List V} (h:LR R H as xs) {i:Int} {a:α} (e:qg as i=some a):∃x,L2.atI xs i=some x∧R H a x:=by
 unfold qg at e
 unfold L2.atI
 rw[h.1]
 cases z:Mi.ixN as.length i with
 | none=>rw[z]at e;cases e
 | some j =>
  rw[z]at e
  obtain⟨x,h1,h2⟩:=h.get (i:=j) e
  exact⟨x,by show(L2.ixN as.length i).bind _=_;rw[show L2.ixN as.length i=Mi.ixN as.length i from rfl,z];exact h1,h2⟩
theorem LR.three {R:Rp α} {H:Hp} {a b c:α} {x y z:V} (h1:R H a x) (h2:R H b y) (h3:R H c z):LR R H [a,b,c] [x,y,z]:=⟨rfl,fun i v m e1 e2=>by
 match i,e1,e2 with
 | 0,e1,e2=>cases e1;cases e2;exact h1
 | 1,e1,e2=>cases e1;cases e2;exact h2
 | 2,e1,e2=>cases e1;cases e2;exact h3⟩
theorem cv {R:Rp α} [Mono R] {ma:Res (List α)} {mb:Res Int} (ha:EV Er ta σ W (pk R) ma) (hb:EV Er tb σ W (sh isI) mb):EV Er (cK (bQ K) ta tb) σ W (sh R) (ma.bind fun a=>mb.bind fun b=>eW a b):=
 qQ ha hb fun W a b x y Q hx hy k=>by
  cases hy
  obtain⟨p,vs,rfl,h,h1⟩:=hx
  obtain⟨c,h4,h5⟩:=dH k
  obtain⟨z,h6,h7⟩:=nQ h1 h4
  exact⟨p,_,b,z,rfl,rfl,BS h,h6,h5 _ W (.refl _) h7⟩
theorem fJ {R:Rp α} :EVo Er (bO aU) σ W R (.ok []):=fun W1 e1 Q k=>⟨by decide,fun p hp=>k p (W1.mut p (.lst []) (W1.gnone hp)) (.own _ hp) hp ⟨W1.gnone hp,[],aI,.nil⟩⟩
def AV (Er:Nat→Prop) (t:TA) (σ:St) (W:Wd) (R:Rp α) (n:Nat) (m:Res (List α)):Prop:=∀W1,Ext W W1→∀Q:List V→Hp→Prop,m.OkE Er (fun as=>∀vs W2,Ext W1 W2→vs.length=n→LR R W2.G as vs→Q vs W2.H)→t σ W1.H Q
theorem fk {R:Rp α} :AV Er aU σ W R 0 (.ok []):=fun W1 _ Q k=>k [] W1 (.refl _) rfl .nil
theorem LR.cons {R:Rp α} {H:Hp} {a:α} {v:V} {as:List α} {vs:List V} (h:R H a v) (r:LR R H as vs):LR R H (a::as) (v::vs):=⟨by simp[r.1],fun i x m e1 e2=>by
 cases i with
 | zero=>cases e1;cases e2;exact h
 | succ j=>exact r.2 j x m e1 e2⟩
theorem bB {R:Rp α} [Mono R] {n:Nat} {ts:TA} {m:Res α} {ms:Res (List α)} (h:EV Er t σ W (sh R) m) (g:AV Er ts σ W R n ms):AV Er (am t ts) σ W R (n+1) (m.bind fun a=>ms.bind fun as=>.ok (a::as)):=fun W1 e1 Q k=>
 h W1 e1 _ ((zj k).imp fun a ka v W2 e2 hv=>g W2 (e1.trans e2) _ ((zj ka).imp fun as kas vs W3 e3 hn hvs=>kas (v::vs) W3 (e2.trans e3) (by simp[hn]) (.cons (zk (R:=R) e3.g hv) hvs)))
theorem fo {R:Rp α} [Mono R] {n:Nat} {ts:TA} {ms:Res (List α)} (g:AV Er ts σ W R n ms) (hn:n≤cap:=by decide):EVo Er (bO ts) σ W R ms:=fun W1 e1 Q k=>
 g W1 e1 _ (k.imp fun as ka vs W2 e2 hv hvs=>⟨by rw[hv];exact qS hn,fun p hp=>ka p (W2.mut p (.lst vs) (W2.gnone hp)) (e2.trans (.own _ hp)) (aT e2.h hp) ⟨W2.gnone hp,vs,aI,hvs⟩⟩)
theorem nR {R:Rp α} [Mono R] {ma mb:Res (List α)} (ha:EV Er ta σ W (pk R) ma) (hb:EV Er tb σ W (pk R) mb):EVo Er (cK cj ta tb) σ W R (ma.bind fun a=>mb.bind fun b=>tG a b):=fun W1 e1 Q k=>
 ha W1 e1 _ ((zj k).imp fun a ka x W2 e2 hx=>hb W2 (e1.trans e2) _ ((zj ka).imp fun b kb y W3 e3 hy=>by
  obtain⟨p,vs,rfl,h1,h2⟩:=Am e3 hx
  obtain⟨q,us,rfl,h3,h4⟩:=hy
  obtain⟨h5,h6⟩:=bj kb
  refine⟨p,q,vs,us,rfl,rfl,h1,h3,by rw[h2.1,h4.1];exact qS h5,fun r hr=>h6 r (W3.mut r (.lst (vs++us)) (W3.gnone hr)) ((e2.trans e3).trans (.own _ hr)) (aT (e2.trans e3).h hr) ⟨W3.gnone hr,_,aI,?_⟩⟩
  exact⟨by rw[Br,Br,h2.1,h4.1],fun i v m q1 q2=>by
   by_cases hi:i< vs.length
   ·rw[zT hi]at q1
    rw[zT (by rw[←h2.1];exact hi)]at q2
    exact h2.2 i v m q1 q2
   ·rw[zN (by omega)]at q1
    rw[zN (by rw[←h2.1];omega)]at q2
    rw[←h2.1]at q2
    exact h4.2 _ v m q1 q2⟩))
theorem LR.cut {R:Rp α} {H:Hp} {as:List α} {vs:List V} (h:LR R H as vs) (lo hi:Option Int):LR R H (Mi.cut as lo hi) (my vs lo hi):=by
 unfold Mi.cut my
 rw[h.1]
 exact(h.drop _).take _
theorem k9 {R:Rp α} [Mono R] {ma:Res (List α)} {tl th:TO} {ml mh:Res (Option Int)} (ha:EV Er ta σ W (pk R) ma)
  (hl:∀W1,Ext W W1→∀Q:Option Int→Hp→Prop,ml.OkE Er (fun o=>∀W2,Ext W1 W2→Q o W2.H)→tl σ W1.H Q) (hh:∀W1,Ext W W1→∀Q:Option Int→Hp→Prop,mh.OkE Er (fun o=>∀W2,Ext W1 W2→Q o W2.H)→th σ W1.H Q):
  EVo Er (eJ (bW K) ta tl th) σ W R (ma.bind fun a=>ml.bind fun lo=>mh.bind fun hi=>.ok (Mi.cut a lo hi)):=fun W1 e1 Q k=>
 ha W1 e1 _ ((zj k).imp fun a ka x W2 e2 hx=>hl W2 (e1.trans e2) _ ((zj ka).imp fun lo kl W3 e3=>hh W3 ((e1.trans e2).trans e3) _ ((zj kl).imp fun hi kh W4 e4=>by
  obtain⟨p,vs,rfl,h1,h2⟩:=Am (e3.trans e4) hx
  have e5:=(e2.trans e3).trans e4
  exact⟨p,vs,rfl,BS h1,fun r hr=>kh r (W4.mut r (.lst (my vs lo hi)) (W4.gnone hr)) (e5.trans (.own _ hr)) (aT e5.h hr) ⟨W4.gnone hr,_,aI,h2.cut lo hi⟩⟩)))
theorem qU {ma:Res Int} (ha:EV Er ta σ W (sh isI) ma):EV Er (dv (fun xs H Q=>∃i,xs=[.int i]∧Q (.int (if i< 0 then -i else i)) H) (am ta aU)) σ W (sh isI) (ma.bind fun a=>.ok (cy a)):=fun W1 e1 Q k=>
 ha W1 e1 _ ((zj k).imp fun a ka x W2 e2 hx=>by cases hx;exact⟨a,rfl,ka _ W2 e2 rfl⟩)
theorem fK {R:Rp α} {ma:Res (List α)} (ha:EV Er ta σ W (pk R) ma):EV Er (dv (fun xs H Q=>∃x n,xs=[x]∧oS K x H n∧Q (.int n) H) (am ta aU)) σ W (sh isI) (ma.bind fun a=>.ok (a.length:Int)):=fun W1 e1 Q k=>
 ha W1 e1 _ ((zj k).imp fun a ka x W2 e2 hx=>by
  obtain⟨p,vs,rfl,h1,h2⟩:=hx
  exact⟨_,a.length,rfl,.inl ⟨vs,BS h1,h2.1.symm⟩,ka _ W2 e2 rfl⟩)
theorem kf {ma:Res (List Tx)} {x:Str} (hx:x=ar []) (ha:EV Er ta σ W (pk isS) ma):EV Er (dF K "str" (fun x xs H Q=>∃(p:Addr) (ys:List (List Nat)),x=.str (ar [])∧xs=[.ref p]∧SqL K H p (ys.map fun y=>Dp (ar y))∧ys.flatten.length≤100000∧Q (.str (ar ys.flatten)) H) (tC (.str x)) (am ta aU)) σ W (sh isS) (ma.bind fun a=>lc a):=fun W1 e1 Q k=>
 ⟨by show yh K "str" (.str x) W1.H;rfl,ha W1 e1 _ ((zj k).imp fun a ka v W2 e2 hv=>by
  obtain⟨p,vs,rfl,h1,h2⟩:=hv
  obtain⟨h3,h4⟩:=bj ka
  exact⟨p,a,by rw[hx],rfl,BS (by rw[h1,h2.str]),h3,h4 _ W2 e2 rfl⟩)⟩
end
end Wb
open Wb.Same renaming tup→AZ
namespace Wb
open PySem L2 Mi
variable {Er:Nat→Prop}
abbrev Rt (β:Type):=Wd→β→VK→Prop
def rs {β:Type} (R:Rp β):Rt β:=fun W r Q=>∀u W',Ext W W'→R W'.G r u→Q u W'.H
def ro {β:Type} (R:Rp β):Rt (List β):=fun W r Q=>∀p W',Ext W W'→W.H p=none→Ow R W' p r→Q (.ref p) W'.H
section
variable {α β γ δ ε ζ:Type}
def cU (R1:Rp α) (rt:Rt β) (m:α→Res β):Sp:=fun vs H Q _=>∃(W:Wd) (a:α) (v:V),W.H=H∧vs=[v]∧R1 W.G a v∧∃Er:Nat→Prop,(m a).OkE Er fun r=>rt W r Q
def bw (R1:Rp α) (R2:Rp γ) (rt:Rt β) (m:α→γ→Res β):Sp:=fun vs H Q _=>∃(W:Wd) (a:α) (b:γ) (v u:V),W.H=H∧vs=[v,u]∧R1 W.G a v∧R2 W.G b u∧∃Er:Nat→Prop,(m a b).OkE Er fun r=>rt W r Q
def dj (R1:Rp α) (R2:Rp γ) (R3:Rp δ) (rt:Rt β) (m:α→γ→δ→Res β):Sp:=fun vs H Q _=>∃(W:Wd) (a:α) (b:γ) (c:δ) (v u w:V),W.H=H∧vs=[v,u,w]∧R1 W.G a v∧R2 W.G b u∧R3 W.G c w∧∃Er:Nat→Prop,(m a b c).OkE Er fun r=>rt W r Q
def fS (R1:Rp α) (R2:Rp γ) (R3:Rp δ) (R4:Rp ε) (rt:Rt β) (m:α→γ→δ→ε→Res β):Sp:=fun vs H Q _=>∃(W:Wd) (a:α) (b:γ) (c:δ) (d:ε) (v u w x:V),W.H=H∧vs=[v,u,w,x]∧R1 W.G a v∧R2 W.G b u∧R3 W.G c w∧R4 W.G d x∧∃Er:Nat→Prop,(m a b c d).OkE Er fun r=>rt W r Q
def li (R1:Rp α) (R2:Rp γ) (R3:Rp δ) (R4:Rp ε) (R5:Rp ζ) (rt:Rt β) (m:α→γ→δ→ε→ζ→Res β):Sp:=fun vs H Q _=>∃(W:Wd) (a:α) (b:γ) (c:δ) (d:ε) (e:ζ) (v u w x y:V),W.H=H∧vs=[v,u,w,x,y]∧R1 W.G a v∧R2 W.G b u∧R3 W.G c w∧R4 W.G d x∧R5 W.G e y∧∃Er:Nat→Prop,(m a b c d e).OkE Er fun r=>rt W r Q
variable {t t1 t2 t3 t4 t5:TE} {σ:St} {W W0 W':Wd} {K:PySem.W.Frag}
section
variable {R1:Rp α} {R2:Rp γ} {R3:Rp δ} {R4:Rp ε} {R5:Rp ζ} [Mono R1] [Mono R2] [Mono R3] [Mono R4] [Mono R5] {m1:Res α} {m2:Res γ} {m3:Res δ} {m4:Res ε} {m5:Res ζ} {E:XK}
theorem bJ {R:Rp β} {m:α→Res β} (h1:EV Er t1 σ W (sh R1) m1):EV Er (aS (cU R1 (rs R) m) [] E (am t1 aU)) σ W (sh R) (m1.bind fun a=>m a):=fun W1 e1 Q k=>
 h1 W1 e1 _ ((zj k).imp fun a ka v W2 e2 hv=>⟨W2,a,v,rfl,rfl,hv,Er,ka.imp fun r kr u W' e hu=>kr u W' (e2.trans e) hu⟩)
theorem aW {R:Rp β} {m:α→γ→Res β} (h1:EV Er t1 σ W (sh R1) m1) (h2:EV Er t2 σ W (sh R2) m2):EV Er (aS (bw R1 R2 (rs R) m) [] E (am t1 (am t2 aU))) σ W (sh R) (m1.bind fun a=>m2.bind fun b=>m a b):=fun W1 e1 Q k=>
 h1 W1 e1 _ ((zj k).imp fun a ka v W2 e2 hv=>h2 W2 (e1.trans e2) _ ((zj ka).imp fun b kb u W3 e3 hu=>⟨W3,a,b,v,u,rfl,rfl,Am (R:=sh R1) e3 hv,hu,Er,kb.imp fun r kr u W' e hu=>kr u W' ((e2.trans e3).trans e) hu⟩))
theorem gQ {R:Rp β} {m:α→γ→Res (List β)} (h1:EV Er t1 σ W (sh R1) m1) (h2:EV Er t2 σ W (sh R2) m2):EVo Er (aS (bw R1 R2 (ro R) m) [] E (am t1 (am t2 aU))) σ W R (m1.bind fun a=>m2.bind fun b=>m a b):=fun W1 e1 Q k=>
 h1 W1 e1 _ ((zj k).imp fun a ka v W2 e2 hv=>h2 W2 (e1.trans e2) _ ((zj ka).imp fun b kb u W3 e3 hu=>⟨W3,a,b,v,u,rfl,rfl,Am (R:=sh R1) e3 hv,hu,Er,kb.imp fun r kr p W' e hp o=>kr p W' ((e2.trans e3).trans e) (aT (e2.trans e3).h hp) o⟩))
theorem dz {R:Rp β} {m:α→γ→δ→Res β} (h1:EV Er t1 σ W (sh R1) m1) (h2:EV Er t2 σ W (sh R2) m2) (h3:EV Er t3 σ W (sh R3) m3):EV Er (aS (dj R1 R2 R3 (rs R) m) [] E (am t1 (am t2 (am t3 aU)))) σ W (sh R) (m1.bind fun a=>m2.bind fun b=>m3.bind fun c=>m a b c):=fun W1 e1 Q k=>
 h1 W1 e1 _ ((zj k).imp fun a ka v W2 e2 hv=>h2 W2 (e1.trans e2) _ ((zj ka).imp fun b kb u W3 e3 hu=>h3 W3 ((e1.trans e2).trans e3) _ ((zj kb).imp fun c kc w W4 e4 hw=>
  ⟨W4,a,b,c,v,u,w,rfl,rfl,Am (R:=sh R1) (e3.trans e4) hv,Am (R:=sh R2) e4 hu,hw,Er,kc.imp fun r kr u W' e hu=>kr u W' (((e2.trans e3).trans e4).trans e) hu⟩)))
theorem dZ {R:Rp β} {m:α→γ→δ→Res (List β)} (h1:EV Er t1 σ W (sh R1) m1) (h2:EV Er t2 σ W (sh R2) m2) (h3:EV Er t3 σ W (sh R3) m3):EVo Er (aS (dj R1 R2 R3 (ro R) m) [] E (am t1 (am t2 (am t3 aU)))) σ W R (m1.bind fun a=>m2.bind fun b=>m3.bind fun c=>m a b c):=fun W1 e1 Q k=>
 h1 W1 e1 _ ((zj k).imp fun a ka v W2 e2 hv=>h2 W2 (e1.trans e2) _ ((zj ka).imp fun b kb u W3 e3 hu=>h3 W3 ((e1.trans e2).trans e3) _ ((zj kb).imp fun c kc w W4 e4 hw=>
  ⟨W4,a,b,c,v,u,w,rfl,rfl,Am (R:=sh R1) (e3.trans e4) hv,Am (R:=sh R2) e4 hu,hw,Er,kc.imp fun r kr p W' e hp o=>kr p W' (((e2.trans e3).trans e4).trans e) (aT ((e2.trans e3).trans e4).h hp) o⟩)))
theorem fq {R:Rp β} {m:α→γ→δ→ε→Res β} (h1:EV Er t1 σ W (sh R1) m1) (h2:EV Er t2 σ W (sh R2) m2) (h3:EV Er t3 σ W (sh R3) m3) (h4:EV Er t4 σ W (sh R4) m4):EV Er (aS (fS R1 R2 R3 R4 (rs R) m) [] E (am t1 (am t2 (am t3 (am t4 aU))))) σ W (sh R) (m1.bind fun a=>m2.bind fun b=>m3.bind fun c=>m4.bind fun d=>m a b c d):=fun W1 e1 Q k=>
 h1 W1 e1 _ ((zj k).imp fun a ka v W2 e2 hv=>h2 W2 (e1.trans e2) _ ((zj ka).imp fun b kb u W3 e3 hu=>h3 W3 ((e1.trans e2).trans e3) _ ((zj kb).imp fun c kc w W4 e4 hw=>h4 W4 (((e1.trans e2).trans e3).trans e4) _ ((zj kc).imp fun d kd x W5 e5 hx=>
  ⟨W5,a,b,c,d,v,u,w,x,rfl,rfl,Am (R:=sh R1) ((e3.trans e4).trans e5) hv,Am (R:=sh R2) (e4.trans e5) hu,Am (R:=sh R3) e5 hw,hx,Er,kd.imp fun r kr u W' e hu=>kr u W' ((((e2.trans e3).trans e4).trans e5).trans e) hu⟩))))
theorem ee {R:Rp β} {m:α→γ→δ→ε→Res (List β)} (h1:EV Er t1 σ W (sh R1) m1) (h2:EV Er t2 σ W (sh R2) m2) (h3:EV Er t3 σ W (sh R3) m3) (h4:EV Er t4 σ W (sh R4) m4):EVo Er (aS (fS R1 R2 R3 R4 (ro R) m) [] E (am t1 (am t2 (am t3 (am t4 aU))))) σ W R (m1.bind fun a=>m2.bind fun b=>m3.bind fun c=>m4.bind fun d=>m a b c d):=fun W1 e1 Q k=>
 h1 W1 e1 _ ((zj k).imp fun a ka v W2 e2 hv=>h2 W2 (e1.trans e2) _ ((zj ka).imp fun b kb u W3 e3 hu=>h3 W3 ((e1.trans e2).trans e3) _ ((zj kb).imp fun c kc w W4 e4 hw=>h4 W4 (((e1.trans e2).trans e3).trans e4) _ ((zj kc).imp fun d kd x W5 e5 hx=>
  ⟨W5,a,b,c,d,v,u,w,x,rfl,rfl,Am (R:=sh R1) ((e3.trans e4).trans e5) hv,Am (R:=sh R2) (e4.trans e5) hu,Am (R:=sh R3) e5 hw,hx,Er,kd.imp fun r kr p W' e hp o=>kr p W' ((((e2.trans e3).trans e4).trans e5).trans e) (aT (((e2.trans e3).trans e4).trans e5).h hp) o⟩))))
theorem gR {R:Rp β} {m:α→γ→δ→ε→ζ→Res (List β)} (h1:EV Er t1 σ W (sh R1) m1) (h2:EV Er t2 σ W (sh R2) m2) (h3:EV Er t3 σ W (sh R3) m3) (h4:EV Er t4 σ W (sh R4) m4) (h5:EV Er t5 σ W (sh R5) m5):EVo Er (aS (li R1 R2 R3 R4 R5 (ro R) m) [] E (am t1 (am t2 (am t3 (am t4 (am t5 aU)))))) σ W R (m1.bind fun a=>m2.bind fun b=>m3.bind fun c=>m4.bind fun d=>m5.bind fun e=>m a b c d e):=fun W1 e1 Q k=>
 h1 W1 e1 _ ((zj k).imp fun a ka v W2 e2 hv=>h2 W2 (e1.trans e2) _ ((zj ka).imp fun b kb u W3 e3 hu=>h3 W3 ((e1.trans e2).trans e3) _ ((zj kb).imp fun c kc w W4 e4 hw=>h4 W4 (((e1.trans e2).trans e3).trans e4) _ ((zj kc).imp fun d kd x W5 e5 hx=>h5 W5 ((((e1.trans e2).trans e3).trans e4).trans e5) _ ((zj kd).imp fun e ke y W6 e6 hy=>
  ⟨W6,a,b,c,d,e,v,u,w,x,y,rfl,rfl,Am (R:=sh R1) (((e3.trans e4).trans e5).trans e6) hv,Am (R:=sh R2) ((e4.trans e5).trans e6) hu,Am (R:=sh R3) (e5.trans e6) hw,Am (R:=sh R4) e6 hx,hy,Er,ke.imp fun r kr p W' e hp o=>kr p W' (((((e2.trans e3).trans e4).trans e5).trans e6).trans e) (aT ((((e2.trans e3).trans e4).trans e5).trans e6).h hp) o⟩)))))
end
def Yl (J:It) (W:Wd) (R:Rp α) (xs:List α):Prop:=∀W1:Wd,Same W.G W1.G→(∀(i:Nat) (a:α),xs[i]? =some a→J.go i W1.H∧∀x H',J.yld i W1.H x H'→∃W2:Wd,W2.H=H'∧Ext W1 W2∧R W2.G a x)∧J.stop xs.length W1.H
def IV (Er:Nat→Prop) (wi:TI) (σ:St) (W:Wd) (R:Rp α) (m:Res (List α)):Prop:=∀W1,Ext W W1→∀P:It→Hp→Prop,m.OkE Er (fun xs=>∀J W2,Ext W1 W2→Yl J W2 R xs→P J W2.H)→wi σ W1.H P
theorem d5 {R:Rp α} [Mono R] {m:Res (List α)} (h:EV Er t σ W (sh (isL R)) m):IV Er (qm K t) σ W R m:=fun W1 e1 P k=>
 h W1 e1 _ (k.imp fun xs kx v W2 e2 hv => by
  obtain⟨p,vs,rfl,h1,h2⟩:=hv
  refine⟨p,rfl,⟨vs,BS (W2.ok _ _ h1)⟩,kx _ W2 e2 fun W3 e3=>⟨fun i a ha=>?_,vs,BS (W3.ok _ _ (e3 _ _ h1)),by rw[h2.1];exact zw _⟩⟩
  obtain⟨x,hx,hr⟩:=h2.get ha
  refine⟨⟨vs,x,BS (W3.ok _ _ (e3 _ _ h1)),hx⟩,fun y H' ⟨z1,z2⟩=>⟨W3,z1.symm,.refl _,?_⟩⟩
  have:=z2 vs (BS (W3.ok _ _ (e3 _ _ h1)))
  rw[hx]at this
  cases this
  exact zk e3 hr)
theorem kg {m:Res Tx} (h:EV Er t σ W (sh isS) m):IV Er (wN t) σ W isS (m.bind fun x=>.ok (cB x)):=fun W1 e1 P k=>
 h W1 e1 _ ((zj k).imp fun x kx v W2 e2 hv => by
  cases hv
  refine⟨x,rfl,kx _ W2 e2 fun W3 e3=>⟨fun i a ha=>?_,by show x.length≤(cB x).length;simp[cB]⟩⟩
  unfold cB at ha
  rw[zA]at ha
  cases hc:x[i]? with
  | none=>rw[hc]at ha;cases ha
  | some c =>
   rw[hc]at ha;cases ha
   refine⟨(zB.mp hc).1,fun y H' ⟨z1,c',z2,z3⟩=>⟨W3,z1.symm,.refl _,?_⟩⟩
   rw[hc]at z2;cases z2
   exact z3)
theorem iJ {m:Res Int} (h:EV Er t σ W (sh isI) m):IV Er (uQ (am t aU)) σ W isI (m.bind fun n=>fh n):=fun W1 e1 P k=>
 h W1 e1 _ ((zj k).imp fun n kn v W2 e2 hv => by
  cases hv
  obtain⟨hb,kn⟩:=bj kn
  refine⟨n,rfl,hb.1,hb.2,kn _ W2 e2 fun W3 e3=>⟨fun i a ha=>?_,by show n.toNat≤(dR n).length;simp[dR]⟩⟩
  unfold dR at ha
  rw[zA]at ha
  have hi:i< n.toNat:=by
   refine Classical.byContradiction fun z=>?_
   rw[AB.mpr (by simp;omega)]at ha;cases ha
  rw[Cz hi]at ha
  cases ha
  exact⟨hi,fun y H' ⟨z1,z2⟩=>⟨W3,z1.symm,.refl _,by rw[z2];show C6 (0+(i:Int))=.int (i:Int);rw[Int.zero_add]⟩⟩)
def SrcR (K:PySem.W.Frag) (W:Wd) (R:Rp α) (xs:List α) (v:V):Prop:=∃(c:Src) (vs:List V),v=c.val∧(∀W1:Wd,Same W.G W1.G→c.has K W1.H vs)∧LR R W.G xs vs
theorem SrcR.mono {R:Rp α} [Mono R] {xs:List α} {v:V} (h:SrcR K W R xs v) (e:Same W.G W'.G):SrcR K W' R xs v:=by
 obtain⟨c,vs,h1,h2,h3⟩:=h
 exact⟨c,vs,h1,fun W1 e1=>h2 W1 (e.trans e1),h3.same e⟩
def SV (Er:Nat→Prop) (t:TE) (σ:St) (W:Wd) (K:PySem.W.Frag) (R:Rp α) (m:Res (List α)):Prop:=EV Er t σ W (fun W xs v=>SrcR K W R xs v) m
theorem gS {R:Rp α} [Mono R] {m:Res (List α)} (h:EV Er t σ W (sh (isL R)) m):SV Er t σ W K R m:=h.imp fun W xs v ⟨p,vs,h0,h1,h2⟩=>⟨.lst p,vs,h0,fun W1 e1=>BS (W1.ok _ _ (e1 _ _ h1)),h2⟩
theorem nS {R:Rp α} {m:Res (α×α×α)} (h:EV Er t σ W (sh (isT3 K R R R)) m):SV Er t σ W K R (m.bind fun x=>.ok [x.1,x.2.1,x.2.2]):=fun W1 e1 Q k=>
 h W1 e1 _ ((zj k).imp fun x kx v W2 e2 hv => by
  obtain⟨p,a,b,c,h0,h,h1,h2,h3⟩:=hv
  exact kx _ W2 e2 ⟨.tup p,_,h0,fun W3 e3=>AZ (e3.trans W3.ok) h,LR.three h1 h2 h3⟩)
theorem ko {R1:Rp α} {R2:Rp β} [Mono R1] [Mono R2] {m1:Res (List α)} {m2:Res (List β)} (h1:SV Er t1 σ W K R1 m1) (h2:SV Er t2 σ W K R2 m2):IV Er (vF K (am t1 (am t2 aU))) σ W (isT2 K R1 R2) (m1.bind fun xs=>m2.bind fun ys=>.ok (xs.zip ys)):=fun W1 e1 P k=>
 h1 W1 e1 _ ((zj k).imp fun xs kx v W2 e2 hv=>h2 W2 (e1.trans e2) _ ((zj kx).imp fun ys ky u W3 e3 hu=>by
  obtain⟨c1,vs,rfl,a1,b1⟩:=SrcR.mono hv e3.g
  obtain⟨c2,us,rfl,a2,b2⟩:=hu
  refine⟨c1,c2,vs,us,rfl,a1 W3 (.refl _),a2 W3 (.refl _),ky _ W3 (e2.trans e3) fun W4 e4=>⟨fun i ab hab=>?_,?_⟩⟩
  ·rw[DP]at hab
   obtain⟨x,hx,rx⟩:=b1.get hab.1
   obtain⟨y,hy,ry⟩:=b2.get hab.2
   refine⟨⟨vs,us,x,y,a1 W4 e4,a2 W4 e4,hx,hy⟩,fun z H' ⟨p,x',y',hp,z0,z1,z2,z3⟩=>⟨W4.new p (.tup [x',y']),by rw[z3];rfl,.new _ hp,p,x',y',z0,GP aI,?_,?_⟩⟩
   ·have:=z1 vs (a1 W4 e4);rw[hx]at this;cases this
    exact zk (e4.trans (DB _ hp).g) rx
   ·have:=z2 us (a2 W4 e4);rw[hy]at this;cases this
    exact zk (e4.trans (DB _ hp).g) ry
  ·refine⟨vs,us,a1 W4 e4,a2 W4 e4,?_⟩
   rw[CD,b1.1,b2.1]
   omega))
theorem ph {f:α→Res β} {xs:List α} {i:Nat} {a:α} (h:xs[i]? =some a):iH f (xs.drop i)=(f a).bind fun b=>(iH f (xs.drop (i+1))).bind fun bs=>.ok (b::bs):=by
 obtain⟨hi,e⟩:=zB.mp h
 rw[AY hi,e]
 rfl
theorem mK {f:α→Res (Option β)} {xs:List α} {i:Nat} {a:α} (h:xs[i]? =some a):gp f (xs.drop i)=(f a).bind fun b=>(gp f (xs.drop (i+1))).bind fun bs=>.ok (match b with | some b=>b::bs | none=>bs):=by
 obtain⟨hi,e⟩:=zB.mp h
 rw[AY hi,e]
 rfl
theorem eM {cap:List (Option Nat)} {wi:TI} {g:TG} {te:TE} {R:Rp α} {R':Rp β} [Mono R'] {m:Res (List α)} {f:α→Res β} (hi:IV Er wi σ W R m)
  (hb:∀(W1:Wd) (a:α) (v:V),Ext W W1→R W1.G a v→∀Q:VK,(f a).OkE Er (fun b=>∀u W2,Ext W1 W2→R' W2.G b u→Q u W2.H)→g v (bh cap σ) W1.H fun σ2 H2=>Keep (bh cap σ) σ2∧te σ2 H2 Q):
  EVo Er (nJ cap wi g vE te) σ W R' (m.bind fun xs=>dJ xs f):=fun W1 e1 Q k=>by
 refine hi W1 e1 _ ((zj k).imp fun xs kx J W2 e2 hy=>?_)
 obtain⟨hl,kx⟩:=bj (zj kx)
 refine⟨fun i n ys H=>n=xs.length- i∧i≤xs.length∧ys.length≤i∧∃(W3:Wd) (bs:List β),W3.H=H∧Ext W2 W3∧LR R' W3.G bs ys∧(iH f (xs.drop i)).OkE Er (fun r=>∀p W4,Ext W1 W4→W1.H p=none→Ow R' W4 p (bs++r)→Q (.ref p) W4.H),⟨xs.length,by simp,by simp,by simp,W2,[],rfl,.refl _,.nil,?_⟩,?_⟩
 ·simpa using kx
 ·rintro i n ys H ⟨rfl,hi1,hyl,W3,bs,rfl,e3,lr,q⟩
  refine⟨by rw[AQ];unfold Mi.cap at hl;omega,?_⟩
  by_cases hlt:i< xs.length
  ·obtain⟨a,ha⟩:∃a,xs[i]? =some a:=⟨xs[i],by simp[hlt]⟩
   obtain⟨h1,h2⟩:=(hy W3 e3.g).1 i a ha
   refine .inr ⟨h1,fun ys' H'=>ys'.length≤i+1∧∃(W3:Wd) (bs:List β),W3.H=H'∧Ext W2 W3∧LR R' W3.G bs ys'∧(iH f (xs.drop (i+1))).OkE Er (fun r=>∀p W4,Ext W1 W4→W1.H p=none→Ow R' W4 p (bs++r)→Q (.ref p) W4.H),fun ys' H' ⟨z1,z2⟩=>⟨xs.length- (i+1),by omega,rfl,hlt,z1,z2⟩,fun x H' hx=>?_⟩
   obtain⟨W4,rfl,e4,rx⟩:=h2 x H' hx
   rw[ph ha]at q
   have:=hb W4 a x (e1.trans ((e2.trans e3).trans e4)) rx (fun y H4=>(ys++ [y]).length≤i+1∧∃(W3:Wd) (bs:List β),W3.H=H4∧Ext W2 W3∧LR R' W3.G bs (ys++ [y])∧(iH f (xs.drop (i+1))).OkE Er (fun r=>∀p W4,Ext W1 W4→W1.H p=none→Ow R' W4 p (bs++r)→Q (.ref p) W4.H))
    ((zj q).imp fun b kb u W5 e5 hu=>⟨by simp;exact hyl,W5,bs++ [b],rfl,(e3.trans e4).trans e5,(lr.same (e4.trans e5).g).snoc hu,(zj kb).imp fun r kr=>by rw[zO];exact kr⟩)
   exact this
  ·have e:i=xs.length:=by omega
   subst e
   rw[C2]at q
   refine .inl ⟨(hy W3 e3.g).2,fun D hD=>?_⟩
   have e13:=e2.trans e3
   have:=q D (W3.mut D (.lst ys) (W3.gnone hD)) (e13.trans (.own _ hD)) (aT e13.h hD) ⟨W3.gnone hD,ys,aI,by rw[Ba];exact lr⟩
   exact this
theorem qV {cap:List (Option Nat)} {wi:TI} {g:TG} {tf:TT} {te:TE} {R:Rp α} {R':Rp β} [Mono R'] {m:Res (List α)} {f:α→Res (Option β)} (hi:IV Er wi σ W R m)
    (hb:∀(W1:Wd) (a:α) (v:V),Ext W W1→R W1.G a v→∀Q:Option V→Hp→Prop,(f a).OkE Er (fun b=>∀u W2,Ext W1 W2→(match b,u with | some b,some u=>R' W2.G b u | none,none=>True | _,_=>False)→Q u W2.H)→g v (bh cap σ) W1.H fun σ2 H2=>Keep (bh cap σ) σ2∧tf σ2 H2 fun b H3=>if b=true then te σ2 H3 (fun y H4=>Q (some y) H4)else Q none H3):
    EVo Er (nJ cap wi g tf te) σ W R' (m.bind fun xs=>nL xs f):=fun W1 e1 Q k=>by
  refine hi W1 e1 _ ((zj k).imp fun xs kx J W2 e2 hy=>?_)
  obtain⟨hl,kx⟩:=bj (zj kx)
  refine⟨fun i n ys H=>n=xs.length- i∧i≤xs.length∧ys.length≤i∧∃(W3:Wd) (bs:List β),W3.H=H∧Ext W2 W3∧LR R' W3.G bs ys∧(gp f (xs.drop i)).OkE Er (fun r=>∀p W4,Ext W1 W4→W1.H p=none→Ow R' W4 p (bs++r)→Q (.ref p) W4.H),⟨xs.length,by simp,by simp,by simp,W2,[],rfl,.refl _,.nil,?_⟩,?_⟩
  · simpa using kx
  · rintro i n ys H ⟨rfl,hi1,hyl,W3,bs,rfl,e3,lr,q⟩
    refine⟨by rw[AQ];unfold Mi.cap at hl;omega,?_⟩
    by_cases hlt:i< xs.length
    · obtain⟨a,ha⟩:∃a,xs[i]? =some a:=⟨xs[i],by simp[hlt]⟩
      obtain⟨h1,h2⟩:=(hy W3 e3.g).1 i a ha
      refine .inr ⟨h1,fun ys' H'=>ys'.length≤i+1∧∃(W3:Wd) (bs:List β),W3.H=H'∧Ext W2 W3∧LR R' W3.G bs ys'∧(gp f (xs.drop (i+1))).OkE Er (fun r=>∀p W4,Ext W1 W4→W1.H p=none→Ow R' W4 p (bs++r)→Q (.ref p) W4.H),fun ys' H' ⟨z1,z2⟩=>⟨xs.length- (i+1),by omega,rfl,hlt,z1,z2⟩,fun x H' hx=>?_⟩
      obtain⟨W4,rfl,e4,rx⟩:=h2 x H' hx
      rw[mK ha]at q
      have:=hb W4 a x (e1.trans ((e2.trans e3).trans e4)) rx (fun y H4=>(match y with | some y=>ys++ [y] | none=>ys).length≤i+1∧∃(W3:Wd) (bs:List β),W3.H=H4∧Ext W2 W3∧LR R' W3.G bs (match y with | some y=>ys++ [y] | none=>ys)∧(gp f (xs.drop (i+1))).OkE Er (fun r=>∀p W4,Ext W1 W4→W1.H p=none→Ow R' W4 p (bs++r)→Q (.ref p) W4.H))
        ((zj q).imp fun b kb u W5 e5 hu=>by
          match b,u,hu,kb with
          | some b,some u,hu,kb=>exact⟨by simp;exact hyl,W5,bs++ [b],rfl,(e3.trans e4).trans e5,(lr.same (e4.trans e5).g).snoc hu,(zj kb).imp fun r kr=>by rw[zO];exact kr⟩
          | none,none,hu,kb=>exact⟨by show ys.length≤i+1;omega,W5,bs,rfl,(e3.trans e4).trans e5,lr.same (e4.trans e5).g,(zj kb).imp fun r kr=>kr⟩)
      exact this
    · have e:i=xs.length:=by omega
      subst e
      rw[C2]at q
      refine .inl ⟨(hy W3 e3.g).2,fun D hD=>?_⟩
      have e13:=e2.trans e3
      have:=q D (W3.mut D (.lst ys) (W3.gnone hD)) (e13.trans (.own _ hD)) (aT e13.h hD) ⟨W3.gnone hD,ys,aI,by rw[Ba];exact lr⟩
      exact this
end
end Wb
namespace Wb
open PySem L2 Mi
variable {Er:Nat→Prop}
section
variable {α β γ δ:Type} {t u:TS} {te ti:TE} {g:TG} {D:Ends} {σ:St} {W W0 W':Wd} {K:PySem.W.Frag} {i j k n:Nat} {P:St→Hp→Prop} {H:Hp} {v:V}
theorem gn {σ':St} (h:P σ' H) (hσ:σ.set i (some v)=σ':=by rfl):aO i v σ H P:=by subst hσ;exact h
theorem kq {σ':V→V→St} {R1:Rp α} {R2:Rp β} {ab:α×β} (h:isT2 K R1 R2 W.G ab v) (q:∀x y,R1 W.G ab.1 x→R2 W.G ab.2 y→P (σ' x y) W.H) (hσ:∀x y,(σ.set i (some x)).set j (some y)=σ' x y:=by intro _ _;rfl):bN K 2 (aY (aO i) (aY (aO j) bS)) v σ W.H P:=by
 obtain⟨p,x,y,h0,h,h1,h2⟩:=h
 exact⟨p,_,h0,AZ W.ok h,rfl,x,_,rfl,y,_,rfl,rfl,by have:=q x y h1 h2;rw[←hσ]at this;exact this⟩
theorem tJ {σ':V→V→V→St} {R1:Rp α} {R2:Rp β} {R3:Rp γ} {ab:α×β×γ} (h:isT3 K R1 R2 R3 W.G ab v) (q:∀x y z,R1 W.G ab.1 x→R2 W.G ab.2.1 y→R3 W.G ab.2.2 z→P (σ' x y z) W.H) (hσ:∀x y z,((σ.set i (some x)).set j (some y)).set k (some z)=σ' x y z:=by intro _ _ _;rfl):bN K 3 (aY (aO i) (aY (aO j) (aY (aO k) bS))) v σ W.H P:=by
 obtain⟨p,x,y,z,h0,h,h1,h2,h3⟩:=h
 exact⟨p,_,h0,AZ W.ok h,rfl,x,_,rfl,y,_,rfl,z,_,rfl,rfl,by have:=q x y z h1 h2 h3;rw[←hσ]at this;exact this⟩
theorem cP {σ':V→St} {R:Rw α} {m:Res α} (h:EV Er te σ W R m) (q:m.OkE Er fun a=>∀v W',Ext W W'→R W' a v→D.nx (σ' v) W'.H) (hσ:∀v,σ.set i (some v)=σ' v:=by intro _;rfl):bA te (aO i) D σ W.H:=h W (.refl _) _ (q.imp fun a k v W' e r=>by have:=k v W' e r;rw[←hσ]at this;exact this)
theorem tK {σ':Addr→St} {R:Rp α} {m:Res (List α)} (h:EVo Er te σ W R m) (q:m.OkE Er fun a=>∀p W',Ext W W'→W.H p=none→Ow R W' p a→D.nx (σ' p) W'.H) (hσ:∀p,σ.set i (some (.ref p))=σ' p:=by intro _;rfl):bA te (aO i) D σ W.H:=h W (.refl _) _ (q.imp fun a k p W' e hp r=>by have:=k p W' e hp r;rw[←hσ]at this;exact this)
theorem aR {R:Rw α} {m:Res α} (h:EV Er te σ W R m) (q:m.OkE Er fun a=>∀v W',Ext W W'→R W' a v→D.rt v W'.H):bR te D σ W.H:=h W (.refl _) _ q
theorem i8 {R:Rp α} {m:Res (List α)} (h:EVo Er te σ W R m) (q:m.OkE Er fun a=>∀p W',Ext W W'→W.H p=none→Ow R W' p a→D.rt (.ref p) W'.H):bR te D σ W.H:=h W (.refl _) _ q
theorem kt {S:Type} {c:TT} {m:Res Bool} {mA mB:Res S} {P:S→Prop} (Iv:S→Wd→St→Prop) (h:TV Er c σ W m) (q:(m.bind fun b=>if b then mA else mB).OkE Er P)
  (hA:∀W' (N:St→Hp→Prop),Ext W W'→(∀s W1 σ1,Same W.G W1.G→Iv s W1 σ1→P s→N σ1 W1.H)→mA.OkE Er P→t {D with nx:=N} σ W'.H)
  (hB:∀W' (N:St→Hp→Prop),Ext W W'→(∀s W1 σ1,Same W.G W1.G→Iv s W1 σ1→P s→N σ1 W1.H)→mB.OkE Er P→u {D with nx:=N} σ W'.H)
  (hd:∀s W1 σ1,Same W.G W1.G→Iv s W1 σ1→P s→D.nx σ1 W1.H):iw c t u D σ W.H:=h W (.refl _) _ ((zj q).imp fun b kb W' e=>by
 cases b with
 | true=>exact hA W' D.nx e hd kb
 | false=>exact hB W' D.nx e hd kb)
theorem Ow.ne {R:Rp α} {p q:Addr} {ys:List α} (o:Ow R W q ys) (hp:W.H p=none):q≠p:=by
 obtain⟨vs,a,b⟩:=o.h
 exact bM a hp
structure Mu (W W':Wd) (p:Addr):Prop where
 g:Same W.G W'.G
 e:∀W0:Wd,Ext W0 W→W0.H p=none→Ext W0 W'
 h:∀q,q≠p→W.H q≠none→W'.H q=W.H q∧W'.G q=W.G q
theorem Mu.of {W1:Wd} {p:Addr} {o:HO} (e1:Ext W W1) (hg:W1.G p=none):Mu W (W1.mut p o hg) p:=⟨e1.g,fun W0 e0 hp=>(e0.trans e1).mut hp hg,fun q hq hn=>by
 obtain⟨o',ho⟩:=DH.mp hn
 exact⟨by show cA W1.H p o q=_;rw[aJ hq,e1.h _ _ ho,ho],e1.k q hn⟩⟩
theorem Mu.ow {R:Rp α} [Mono R] {p q:Addr} {ys:List α} (m:Mu W W' p) (hq:q≠p) (o:Ow R W q ys):Ow R W' q ys:=by
 obtain⟨vs,a,b⟩:=o.h
 obtain⟨h1,h2⟩:=m.h q hq (by rw[a];exact fun z=>nomatch z)
 exact⟨by rw[h2];exact o.g,vs,by rw[h1];exact a,b.same m.g⟩
theorem ft {R:Rp α} [Mono R] {p:Addr} {xs:List α} {m:Res α} (o:Ow R W p xs) (h:EV Er te σ W (sh R) m) (q:(m.bind fun a=>gm xs a).OkE Er fun ys=>∀W',Mu W W' p→Ow R W' p ys→D.nx σ W'.H) (hi:σ[i]? =some (some (.ref p)):=by rfl):bb (dF K "list" aA (bD i) (am te aU)) D σ W.H:=by
 obtain⟨vs,h1,h2⟩:=o.h
 refine⟨.ref p,hi,.inl ⟨rfl,vs,BS h1⟩,h W (.refl _) _ ((zj q).imp fun a ka v W2 e2 hv=>?_)⟩
 obtain⟨h3,h4⟩:=bj ka
 have hg:=(o.mono e2).g
 refine⟨p,vs,v,rfl,rfl,e2.h _ _ h1,by rw[h2.1,AQ];unfold Mi.cap at h3;omega,h4 (W2.mut p (.lst (vs++ [v])) hg) (.of e2 hg) ⟨hg,_,aI,(h2.same e2.g).snoc hv⟩⟩
theorem LR.set {R:Rp α} {H:Hp} {as:List α} {vs:List V} {a:α} {v:V} (h:LR R H as vs) (r:R H a v) (j:Nat):LR R H (as.set j a) (vs.set j v):=⟨by simp[h.1],fun i x m e1 e2=>by
 rw[List.getElem?_set]at e1 e2
 by_cases z:j=i
 ·rw[if_pos z]at e1 e2
  split at e1
  ·split at e2
   ·cases e1;cases e2;exact r
   ·cases e2
  ·cases e1
 ·rw[if_neg z]at e1 e2
  exact h.2 i x m e1 e2⟩
theorem i9 {R:Rp α} [Mono R] {p:Addr} {xs:List α} {m:Res α} {mi:Res Int} (o:Ow R W p xs) (h:EV Er te σ W (sh R) m) (hj:EV Er ti σ W (sh isI) mi) (q:(m.bind fun a=>mi.bind fun j=>fR xs j a).OkE Er fun ys=>∀W',Mu W W' p→Ow R W' p ys→D.nx σ W'.H) (hi:σ[i]? =some (some (.ref p)):=by rfl):bA te (vo (bD i) ti qu) D σ W.H:=by
 obtain⟨vs,h1,h2⟩:=o.h
 refine h W (.refl _) _ ((zj q).imp fun a ka v W2 e2 hv=>⟨.ref p,hi,hj W2 e2 _ ((zj ka).imp fun j kj x W3 e3 hx=>?_)⟩)
 cases hx
 obtain⟨l,h3,h4⟩:=dH (zj kj)
 have e:=e2.trans e3
 have hg:=(o.mono e).g
 exact⟨p,vs,j,l,rfl,rfl,e.h _ _ h1,by rw[h2.1];exact h3,h4 (W3.mut p (.lst (vs.set l v)) hg) (.of e hg) ⟨hg,_,aI,(h2.same e.g).set (zk (R:=R) e3.g hv) l⟩⟩
def m8 {S:Type} (W:Wd) (Iv:S→Wd→St→Prop) (P:S→Prop):St→Hp→Prop:=fun σ' H'=>∃s' W',W'.H=H'∧Same W.G W'.G∧Iv s' W' σ'∧P s'
theorem jz {S:Type} {f:α→S→Res S} {xs:List α} {i:Nat} {a:α} {s:S} (h:xs[i]? =some a):bE f (xs.drop i) s=(f a s).bind fun s=>bE f (xs.drop (i+1)) s:=by
 obtain⟨hi,e⟩:=zB.mp h
 rw[AY hi,e]
 rfl
theorem mL {S:Type} {wi:TI} {tb:TS} {R:Rp α} {m:Res (List α)} {f:α→S→Res S} {s0:S} {P:S→Prop} (Iv:S→Wd→St→Prop) (hi:IV Er wi σ W R m) (q:(m.bind fun xs=>bE f xs s0).OkE Er P)
  (h0:∀W1,Ext W W1→Iv s0 W1 σ)
  (hs:∀Wb W1 W2 a v s σ1 P',Same W.G W1.G→Same Wb.G W1.G→Iv s W1 σ1→Ext W1 W2→R W2.G a v→(f a s).OkE Er P'→g v σ1 W2.H fun σ2 H2=>tb {D with nx:=m8 Wb Iv P',ct:=m8 Wb Iv P',bk:=D.nx} σ2 H2)
  (hd:∀s W1 σ1,Same W.G W1.G→Iv s W1 σ1→P s→D.nx σ1 W1.H):qp wi g tb D σ W.H:=by
 refine hi W (.refl _) _ ((zj q).imp fun xs kx J W1 e1 hy=>?_)
 refine⟨fun i n σ' H'=>n=xs.length- i∧i≤xs.length∧∃s' W',W'.H=H'∧Same W1.G W'.G∧Iv s' W' σ'∧(bE f (xs.drop i) s').OkE Er P,⟨xs.length,by simp,by simp,s0,W1,rfl,.refl _,h0 W1 e1,by simpa using kx⟩,?_⟩
 rintro i n σ1 H1 ⟨rfl,hi1,s,W2,rfl,e2,iv,k⟩
 by_cases hlt:i< xs.length
 ·obtain⟨a,ha⟩:∃a,xs[i]? =some a:=⟨xs[i],by simp[hlt]⟩
  obtain⟨h1,h2⟩:=(hy W2 e2).1 i a ha
  refine .inr ⟨h1,m8 W1 Iv fun s'=>(bE f (xs.drop (i+1)) s').OkE Er P,fun σ' H' ⟨s',W',z1,z2,z3,z4⟩=>⟨xs.length- (i+1),by omega,rfl,hlt,s',W',z1,z2,z3,z4⟩,fun x H' hx=>?_⟩
  obtain⟨W3,rfl,e3,rx⟩:=h2 x H' hx
  rw[jz ha]at k
  exact hs W1 W2 W3 a x s σ1 (fun s'=>(bE f (xs.drop (i+1)) s').OkE Er P) (e1.g.trans e2) e2 iv e3 rx (zj k)
 ·have e:i=xs.length:=by omega
  subst e
  rw[C2]at k
  exact .inl ⟨(hy W2 e2).2,hd s W2 σ1 (e1.g.trans e2) iv k⟩
theorem pi {S:Type} {f:α→S→Res (Fl γ S)} {xs:List α} {i:Nat} {a:α} {s:S} (h:xs[i]? =some a):iI f (xs.drop i) s=(f a s).bind (wS (iI f (xs.drop (i+1)))):=by
 obtain⟨hi,e⟩:=zB.mp h
 rw[AY hi,e]
 rfl
theorem tL {S:Type} {wi:TI} {tb:TS} {R:Rp α} {m:Res (List α)} {f:α→S→Res (Fl γ S)} {s0:S} {P:Fl γ S→Prop} (Iv:S→Wd→St→Prop) (hi:IV Er wi σ W R m) (q:(m.bind fun xs=>iI f xs s0).OkE Er P)
  (h0:∀W1,Ext W W1→Iv s0 W1 σ)
  (hs:∀Wb W1 W2 a v s σ1 P',Same W.G W1.G→Same Wb.G W1.G→Iv s W1 σ1→Ext W1 W2→R W2.G a v→(∀r,P' (.rt r)→P (.rt r))→(f a s).OkE Er P'→g v σ1 W2.H fun σ2 H2=>tb {D with nx:=m8 Wb Iv fun s'=>P' (.nx s'),ct:=m8 Wb Iv fun s'=>P' (.nx s'),bk:=D.nx} σ2 H2)
  (hd:∀s W1 σ1,Same W.G W1.G→Iv s W1 σ1→P (.nx s)→D.nx σ1 W1.H):qp wi g tb D σ W.H:=by
 refine hi W (.refl _) _ ((zj q).imp fun xs kx J W1 e1 hy=>?_)
 refine⟨fun i n σ' H'=>n=xs.length- i∧i≤xs.length∧∃s' W',W'.H=H'∧Same W1.G W'.G∧Iv s' W' σ'∧(iI f (xs.drop i) s').OkE Er P,⟨xs.length,by simp,by simp,s0,W1,rfl,.refl _,h0 W1 e1,by simpa using kx⟩,?_⟩
 rintro i n σ1 H1 ⟨rfl,hi1,s,W2,rfl,e2,iv,k⟩
 by_cases hlt:i< xs.length
 ·obtain⟨a,ha⟩:∃a,xs[i]? =some a:=⟨xs[i],by simp[hlt]⟩
  obtain⟨h1,h2⟩:=(hy W2 e2).1 i a ha
  refine .inr ⟨h1,m8 W1 Iv fun s'=>(iI f (xs.drop (i+1)) s').OkE Er P,fun σ' H' ⟨s',W',z1,z2,z3,z4⟩=>⟨xs.length- (i+1),by omega,rfl,hlt,s',W',z1,z2,z3,z4⟩,fun x H' hx=>?_⟩
  obtain⟨W3,rfl,e3,rx⟩:=h2 x H' hx
  rw[pi ha]at k
  exact hs W1 W2 W3 a x s σ1 (fun fl=>match fl with | .nx s'=>(iI f (xs.drop (i+1)) s').OkE Er P | .bk s'=>P (.nx s') | .rt r=>P (.rt r)) (e1.g.trans e2) e2 iv e3 rx (fun r h=>h) ((zj k).imp fun fl h=>by cases fl <;> exact h)
 ·have e:i=xs.length:=by omega
  subst e
  rw[C2]at k
  exact .inl ⟨(hy W2 e2).2,hd s W2 σ1 (e1.g.trans e2) iv k⟩
section
variable {r:TS}
theorem ap {σ':V→St} {R:Rw α} {m:Res α} (h:EV Er te σ W R m) (q:m.OkE Er fun a=>∀v W',Ext W W'→R W' a v→r D (σ' v) W'.H) (hσ:∀v,σ.set i (some v)=σ' v:=by intro _;rfl):eV (bA te (aO i)) r D σ W.H:=cP (D:={D with nx:=r D}) h q hσ
theorem cz {σ':Addr→St} {R:Rp α} {m:Res (List α)} (h:EVo Er te σ W R m) (q:m.OkE Er fun a=>∀p W',Ext W W'→W.H p=none→Ow R W' p a→r D (σ' p) W'.H) (hσ:∀p,σ.set i (some (.ref p))=σ' p:=by intro _;rfl):eV (bA te (aO i)) r D σ W.H:=tK (D:={D with nx:=r D}) h q hσ
theorem eg {R:Rw α} {m:Res α} (h:EV Er te σ W R m) (q:m.OkE Er fun a=>∀v W',Ext W W'→R W' a v→g v σ W'.H (r D)):eV (bA te g) r D σ W.H:=h W (.refl _) _ q
theorem cQ {c:TT} {m:Res Bool} (h:TV Er c σ W m) (q:m.OkE Er fun b=>∀W',Ext W W'→if b=true then t {D with nx:=r D} σ W'.H else u {D with nx:=r D} σ W'.H):eV (iw c t u) r D σ W.H:=h W (.refl _) _ q
theorem bK {S:Type} {c:TT} {m:Res Bool} {mA mB:Res S} {P:S→Prop} (Iv:S→Wd→St→Prop) (h:TV Er c σ W m) (q:(m.bind fun b=>if b then mA else mB).OkE Er P)
  (hA:∀W' (N:St→Hp→Prop),Ext W W'→(∀s W1 σ1,Same W.G W1.G→Iv s W1 σ1→P s→N σ1 W1.H)→mA.OkE Er P→t {D with nx:=N} σ W'.H)
  (hB:∀W' (N:St→Hp→Prop),Ext W W'→(∀s W1 σ1,Same W.G W1.G→Iv s W1 σ1→P s→N σ1 W1.H)→mB.OkE Er P→u {D with nx:=N} σ W'.H)
  (hd:∀s W1 σ1,Same W.G W1.G→Iv s W1 σ1→P s→r D σ1 W1.H):eV (iw c t u) r D σ W.H:=kt (D:={D with nx:=r D}) Iv h q hA hB hd
theorem qW {R:Rp α} [Mono R] {p:Addr} {xs:List α} {m:Res α} (o:Ow R W p xs) (h:EV Er te σ W (sh R) m) (q:(m.bind fun a=>gm xs a).OkE Er fun ys=>∀W',Mu W W' p→Ow R W' p ys→r D σ W'.H) (hi:σ[i]? =some (some (.ref p)):=by rfl):eV (bb (dF K "list" aA (bD i) (am te aU))) r D σ W.H:=ft (D:={D with nx:=r D}) o h q hi
theorem pj {R:Rp α} [Mono R] {p:Addr} {xs:List α} {m:Res α} {mi:Res Int} (o:Ow R W p xs) (h:EV Er te σ W (sh R) m) (hj:EV Er ti σ W (sh isI) mi) (q:(m.bind fun a=>mi.bind fun j=>fR xs j a).OkE Er fun ys=>∀W',Mu W W' p→Ow R W' p ys→r D σ W'.H) (hi:σ[i]? =some (some (.ref p)):=by rfl):eV (bA te (vo (bD i) ti qu)) r D σ W.H:=i9 (D:={D with nx:=r D}) o h hj q hi
theorem dA {S:Type} {wi:TI} {tb:TS} {R:Rp α} {m:Res (List α)} {f:α→S→Res S} {s0:S} {P:S→Prop} (Iv:S→Wd→St→Prop) (hi:IV Er wi σ W R m) (q:(m.bind fun xs=>bE f xs s0).OkE Er P)
  (h0:∀W1,Ext W W1→Iv s0 W1 σ)
  (hs:∀Wb W1 W2 a v s σ1 P',Same W.G W1.G→Same Wb.G W1.G→Iv s W1 σ1→Ext W1 W2→R W2.G a v→(f a s).OkE Er P'→g v σ1 W2.H fun σ2 H2=>tb {D with nx:=m8 Wb Iv P',ct:=m8 Wb Iv P',bk:=r D} σ2 H2)
  (hd:∀s W1 σ1,Same W.G W1.G→Iv s W1 σ1→P s→r D σ1 W1.H):eV (qp wi g tb) r D σ W.H:=mL (D:={D with nx:=r D}) Iv hi q h0 hs hd
theorem pp {S:Type} {wi:TI} {tb:TS} {R:Rp α} {m:Res (List α)} {f:α→S→Res (Fl γ S)} {s0:S} {P:Fl γ S→Prop} (Iv:S→Wd→St→Prop) (hi:IV Er wi σ W R m) (q:(m.bind fun xs=>iI f xs s0).OkE Er P)
  (h0:∀W1,Ext W W1→Iv s0 W1 σ)
  (hs:∀Wb W1 W2 a v s σ1 P',Same W.G W1.G→Same Wb.G W1.G→Iv s W1 σ1→Ext W1 W2→R W2.G a v→(∀r,P' (.rt r)→P (.rt r))→(f a s).OkE Er P'→g v σ1 W2.H fun σ2 H2=>tb {D with nx:=m8 Wb Iv fun s'=>P' (.nx s'),ct:=m8 Wb Iv fun s'=>P' (.nx s'),bk:=r D} σ2 H2)
  (hd:∀s W1 σ1,Same W.G W1.G→Iv s W1 σ1→P (.nx s)→r D σ1 W1.H):eV (qp wi g tb) r D σ W.H:=tL (D:={D with nx:=r D}) Iv hi q h0 hs hd
end
theorem dB {S:Type} {Wb W:Wd} {Iv:S→Wd→St→Prop} {P:S→Prop} (s:S) (hs:Same Wb.G W.G) (iv:Iv s W σ) (hq:P s):m8 Wb Iv P σ W.H:=⟨s,W,rfl,hs,iv,hq⟩
end
end Wb
namespace L2
open PySem PySem.Spec PyProof.Rows
section
variable {X:Cx} {K:PySem.W.Frag} {w:zQ}
theorem lj {ns:List Bool} :∀{us:List zl},Vals (ns.map Hy) us→LSm.BoolsAre us ns:=by
 induction ns with
 | nil=>intro us r;cases r;exact .nil
 | cons b r ih=>intro us h;cases h with | cons h1 h2=>cases h1;exact .cons b (ih h2)
theorem pq (hc:X.calm=true) (hK:X.K=K):dh X (.builtin "all") (fun xs H Q=>∃(p:Addr) (bs:List Bool),xs=[.ref p]∧SqL K H p (bs.map Hy)∧Q (.bl (bs.all id)) H):=by
 subst hK
 intro pins s σ H xs us Q I r h
 obtain⟨p,bs,rfl,hq,q⟩:=h
 obtain⟨u,rfl,rx⟩:=eS r
 cases rx
 obtain⟨its,r',pl,hz⟩:=I.list hq
 have hb:=lj r'
 have hl:=pl.isList
 have hlt:p< s.heap.objs.size:=by obtain⟨_,e,_⟩:=hl;exact zI e
 refine call_all_walk (DT hl ?_)
 refine⟨s.heap.objs.size,[s.heap.objs.size,p],[s.heap.objs.size],its.toArray.size,_,_,fun i=>(bs[i]?).getD true,rfl,Walks.list (A:=X.A.in1) (I.ok.hd hc) _ p (zX hlt) its.toArray,
  ⟨⟨_,zz _ rfl,rfl,rfl⟩,hl.push _⟩,fun i v s' Q' E' hP hQ=>?_,fun h' tk hk=>?_⟩
 ·obtain⟨b,e,rfl⟩:=hb.get i v (by simpa using hP)
  simp only[e,D8]at hQ
  exact BK hQ
 ·have e:((AD its.toArray.size).all fun i=>(bs[i]?).getD true)=bs.all id:=by
   rw[zK,hb.length];exact LSm.range_all bs
  rw[e]
  exact⟨.bl _,H,I.kept (LSm.kept_iter hk),rfl,q⟩
end
end L2
namespace Wb
open PySem L2 Mi
variable {Er:Nat→Prop}
section
variable {α β γ δ:Type} {t ta tb tc:TE} {σ:St} {W W0 W':Wd} {K:PySem.W.Frag} {w:zQ}
theorem tM {a n r:Int} (hc:0≤n∧n≤1000000∧a.natAbs< 2^64) (hr:a^n.toNat=r):EV Er (cK (rI wH fun i j=>.int (i^j.toNat)) (tC (.int a)) (tC (.int n))) σ W (sh isI) (.ok r):=fun W1 e1 Q k=>⟨a,n,rfl,rfl,hc,by show Q (.int (a^n.toNat)) W1.H;rw[hr];exact k _ W1 (.refl _) rfl⟩
def isScr (K:PySem.W.Frag):Rp (List Int):=fun H ns v=>∃a,v=.ref a∧SqL K H a (ns.map C6)
instance zkeep17:Mono (isScr K):=⟨fun e ⟨a,h1,h2⟩=>⟨a,h1,e.seq h2⟩⟩
theorem jA {ma:Res (List Int)} (ha:EV Er ta σ W (sh (isScr K)) ma):EV Er (dv (fun xs H Q=>∃x n,xs=[x]∧oS K x H n∧Q (.int n) H) (am ta aU)) σ W (sh isI) (ma.bind fun a=>.ok (a.length:Int)):=fun W1 e1 Q k=>
 ha W1 e1 _ ((zj k).imp fun a ka x W2 e2 hx=>by
  obtain⟨p,rfl,h1⟩:=hx
  exact⟨_,a.length,rfl,.inl ⟨_,W2.ok.seq h1,by simp⟩,ka _ W2 e2 rfl⟩)
theorem qX {ma:Res (List Int)} {mb:Res Int} (ha:EV Er ta σ W (sh (isScr K)) ma) (hb:EV Er tb σ W (sh isI) mb):EV Er (cK (bQ K) ta tb) σ W (sh isI) (ma.bind fun a=>mb.bind fun b=>eW a b):=
 qQ ha hb fun W a b x y Q hx hy k=>by
  cases hy
  obtain⟨p,rfl,h1⟩:=hx
  obtain⟨c,h4,h5⟩:=dH k
  have lr:LR isI W.G a (a.map C6):=⟨by simp,fun i v m e1 e2=>by rw[zA,e2]at e1;cases e1;rfl⟩
  obtain⟨z,h6,h7⟩:=nQ lr h4
  exact⟨p,_,b,z,rfl,rfl,W.ok.seq h1,h6,h5 _ W (.refl _) h7⟩
theorem tN {ma:Res Bool} (ha:EV Er ta σ W (sh isB) ma):EV Er (dv (fun xs H Q=>(∃i,xs=[.int i]∧Q (.int i) H)∨∃k,xs=[.bl k]∧Q (.int (if k then 1 else 0)) H) (am ta aU)) σ W (sh isI) (ma.bind fun a=>.ok (if a then(1:Int)else 0)):=fun W1 e1 Q k=>
 ha W1 e1 _ ((zj k).imp fun a ka x W2 e2 hx=>by cases hx;exact .inr ⟨a,rfl,ka _ W2 e2 rfl⟩)
theorem qY {R:Rp α} {W1 W2:Wd} {xs:List α} {vs:List V} {Q:VK} (h:LR R W2.G xs vs) (e:Ext W1 W2) (k:∀p W2,Ext W1 W2→W1.H p=none→Ow R W2 p xs→Q (.ref p) W2.H) (r:Addr) (hr:W2.H r=none):Q (.ref r) (cA W2.H r (.lst vs)):=
 k r (W2.mut r (.lst vs) (W2.gnone hr)) (e.trans (.own _ hr)) (aT e.h hr) ⟨W2.gnone hr,vs,aI,h⟩
theorem LR.ints {H:Hp} {ns:List Int} {vs:List V} (h:LR isI H ns vs):vs=ns.map C6:=by
 refine Bl fun i=>?_
 rw[zA]
 cases e:ns[i]? with
 | none=>rw[AB]at e;rw[AB.mpr (by rw[h.1];exact e)];rfl
 | some m=>obtain⟨v,a,b⟩:=h.get e;rw[a];cases b;rfl
theorem LR.bools {H:Hp} {ns:List Bool} {vs:List V} (h:LR isB H ns vs):vs=ns.map Hy:=by
 refine Bl fun i=>?_
 rw[zA]
 cases e:ns[i]? with
 | none=>rw[AB]at e;rw[AB.mpr (by rw[h.1];exact e)];rfl
 | some m=>obtain⟨v,a,b⟩:=h.get e;rw[a];cases b;rfl
theorem vK {ma:Res (List Int)} (ha:EV Er ta σ W (pk isI) ma):EV Er (dv (fun xs H Q=>∃(p:Addr) (ns:List Int),xs=[.ref p]∧SqL K H p (ns.map C6)∧Q (.int ns.sum) H) (am ta aU)) σ W (sh isI) (ma.bind fun a=>.ok a.sum):=fun W1 e1 Q k=>
 ha W1 e1 _ ((zj k).imp fun a ka x W2 e2 hx=>by
  obtain⟨p,vs,rfl,h1,h2⟩:=hx
  exact⟨p,a,rfl,BS (by rw[h1,h2.ints]),ka _ W2 e2 rfl⟩)
theorem vL {ma:Res (List Bool)} (ha:EV Er ta σ W (pk isB) ma):EV Er (dv (fun xs H Q=>∃(p:Addr) (bs:List Bool),xs=[.ref p]∧SqL K H p (bs.map Hy)∧Q (.bl (bs.all id)) H) (am ta aU)) σ W (sh isB) (ma.bind fun a=>.ok (a.all id)):=fun W1 e1 Q k=>
 ha W1 e1 _ ((zj k).imp fun a ka x W2 e2 hx=>by
  obtain⟨p,vs,rfl,h1,h2⟩:=hx
  exact⟨p,a,rfl,BS (by rw[h1,h2.bools]),ka _ W2 e2 rfl⟩)
theorem qZ {f:α→V} {g:β→Key} [DecidableEq β] (hg:∀a b,g a=g b→a=b) (kvs:List (β×α)) (k:β):g9 (kvs.map fun p=>(g p.1,f p.2)) (g k)=(look kvs k).map f:=by
 induction kvs with
 | nil=>rfl
 | cons p r ih =>
  unfold look at ih ⊢
  rw[An]
  by_cases z:p.1=k
  ·rw[fe (by rw[z]),List.find?_cons_of_pos (by simpa using z)];rfl
  ·rw[ff (fun e=>z (hg _ _ e)),ih,List.find?_cons_of_neg (by simpa using z)]
theorem nU {R:Rp α} {Rk:Rp β} [DecidableEq β] {d:Addr} {kv:List (Key×V)} {kvs:List (β×α)} {f:α→V} {g:β→Key} (hg:∀a b,g a=g b→a=b) (hf:∀H a,R H a (f a)) (hk:∀H b v,Rk H b v→v=kV (g b)) (D:DictK K w d kv) (e:kv=kvs.map fun p=>(g p.1,f p.2)) {m:Res β} (h:EV Er t σ W (sh Rk) m):
  EV Er (aM K w (tC (.ref d)) t) σ W (sh R) (m.bind fun k=>getD kvs k):=fun W1 e1 Q k=>
 h W1 e1 _ ((zj k).imp fun b kb v W2 e2 hv => by
  obtain⟨a,h1,h2⟩:=dH kb
  refine⟨d,kv,g b,f a,rfl,D,hk _ _ _ hv,?_,h2 _ W2 e2 (hf _ _)⟩
  rw[e,qZ hg,h1];rfl)
theorem yi:∀a b:Tx,(BW (ar a):Key)=BW (ar b)→a=b:=fun a b e=>nI (GW e)
theorem yj:∀a b:Int,(BU a:Key)=BU b→a=b:=fun a b e=>GV e
theorem pr {d:Addr} {kv:List (Key×V)} {kvs:List (Tx×Int)} (D:DictK K w d kv) (e:kv=kvs.map fun p=>(BW (ar p.1),C6 p.2)) {m:Res Tx} (h:EV Er t σ W (sh isS) m):EV Er (aM K w (tC (.ref d)) t) σ W (sh isI) (m.bind fun k=>getD kvs k):=nU (R:=isI) (f:=C6) (g:=fun a=>BW (ar a)) yi (fun _ _=>rfl) (fun _ _ _ h=>h) D e h
theorem pA {d:Addr} {kv:List (Key×V)} {kvs:List (Int×Tx)} (D:DictK K w d kv) (e:kv=kvs.map fun p=>(BU p.1,Dp (ar p.2))) {m:Res Int} (h:EV Er t σ W (sh isI) m):EV Er (aM K w (tC (.ref d)) t) σ W (sh isS) (m.bind fun k=>getD kvs k):=nU (R:=isS) (f:=fun a=>Dp (ar a)) (g:=fun a=>BU a) yj (fun _ _=>rfl) (fun _ _ _ h=>h) D e h
theorem iK {ma:Res Int} {mb:Res (List Int)} (ha:EV Er ta σ W (sh isI) ma) (hb:EV Er tb σ W (pk isI) mb):EV Er (cK (eT K true) ta tb) σ W (sh isB) (ma.bind fun a=>mb.bind fun b=>.ok (!b.contains a)):=
 qQ ha hb fun W a b x y Q hx hy k=>by
  cases hx
  obtain⟨p,vs,rfl,h1,h2⟩:=hy
  refine⟨p,vs,rfl,.inl (BS h1),rfl,by rw[h2.ints];simp[L2.flatV],?_⟩
  have e:xp (.int a) vs=b.contains a:=by
   rw[h2.ints];unfold xp
   rw[List.any_map,BI]
   simp[L2.eqV]
   try exact⟨fun⟨x,h,e⟩=>by subst e;exact h,fun h=>⟨a,h,rfl⟩⟩
  rw[if_pos rfl,e]
  exact k _ W (.refl _) rfl
theorem ll {R:Rp α} [Mono R] {ma:Res (List α)} (ha:EV Er ta σ W (pk R) ma):EV Er (dv (fun xs H Q=>∃p ys,xs=[.ref p]∧((SqL K H p ys∧∀l,H l=none→Q (.ref l) (cA H l (.tup ys)))∨(SqT K H p ys∧Q (.ref p) H))) (am ta aU)) σ W (sh (isT3 K R R R)) (ma.bind fun a=>qP a):=fun W1 e1 Q k=>
 ha W1 e1 _ ((zj k).imp fun a ka x W2 e2 hx=>by
  obtain⟨p,vs,rfl,h1,h2⟩:=hx
  match a,ka,h2 with
  | [a, b, c], ka, h2 =>
   match vs,h2.1,h2,h1 with
   | [x, y, z], _, h2, h1 =>
    refine⟨p,_,rfl,.inl ⟨BS h1,fun l hl=>ka (.ref l) (W2.new l (.tup [x,y,z])) (e2.trans (.new _ hl)) ⟨l,x,y,z,rfl,GP aI,?_,?_,?_⟩⟩⟩
    ·exact zk (DB _ hl).g (h2.2 0 x a rfl rfl)
    ·exact zk (DB _ hl).g (h2.2 1 y b rfl rfl)
    ·exact zk (DB _ hl).g (h2.2 2 z c rfl rfl))
def EqK (K:PySem.W.Frag) (H:Hp):Nat→V→V→Prop
  | 0,v,u=>v=u∧flat v=true
  | n + 1, v, u => (v = u ∧ flat v = true) ∨ ∃ p q xs ys, v = .ref p ∧ u = .ref q ∧ ((H p = some (.lst xs) ∧ H q = some (.lst ys)) ∨ (SqT K H p xs ∧ SqT K H q ys)) ∧ xs.length = ys.length ∧
      ∀(i:Nat) (x y:V),xs[i]? =some x→ys[i]? =some y→EqK K H n x y
theorem EqK.same {H H':Hp} (e:Same H H'):∀{n:Nat} {v u:V},EqK K H n v u→EqK K H' n v u
 | 0,_,_,h=>h
 | n + 1, _, _, h => by
  rcases h with h | ⟨p,q,xs,ys,h1,h2,h3,h4,h5⟩
  ·exact .inl h
  ·refine .inr ⟨p,q,xs,ys,h1,h2,?_,h4,fun i x y e1 e2=>EqK.same e (h5 i x y e1 e2)⟩
   rcases h3 with⟨a,b⟩ | ⟨a,b⟩
   ·exact .inl ⟨e _ _ a,e _ _ b⟩
   ·exact .inr ⟨AZ e a,AZ e b⟩
theorem EqK.flat {H:Hp} {n:Nat} {v:V} (h:L2.flat v=true):EqK K H n v v:=by cases n with | zero=>exact⟨rfl,h⟩ | succ n=>exact .inl ⟨rfl,h⟩
class EqR (K:PySem.W.Frag) {α:Type} (R:Rp α) (n:outParam Nat):Prop where
 eq:∀H a v u m,n≤m→R H a v→R H a u→EqK K H m v u
instance zkeep18:EqR K isI 0:=⟨fun H a v u m _ h1 h2=>by cases h1;cases h2;exact .flat rfl⟩
instance zkeep20:EqR K isB 0:=⟨fun H a v u m _ h1 h2=>by cases h1;cases h2;exact .flat rfl⟩
end
end Wb
namespace L2
open PySem PySem.Spec PyProof.Rows
section
variable {X:Cx} {K:PySem.W.Frag} {w:zQ} {o e:Expr} {to:TE} {t:TA} {apos cpos:Pos}
def wX (K:PySem.W.Frag):V→List V→Hp→VK→Prop:=fun x xs H Q=>∃(p:Addr) (ys:List (List Nat)),x=.str (ar [])∧xs=[.ref p]∧SqL K H p (ys.map fun y=>Dp (ar y))∧ys.flatten.length≤100000∧Q (.str (ar ys.flatten)) H
def wY:V→List V→Hp→VK→Prop:=fun x xs H Q=>∃a b,x=.str a∧xs=[.str b]∧0≤DF a b∧Q (.int (DF a b)) H
abbrev yk (X:Cx) (cpos:Pos) (e:Expr):Prop:=((backTo cpos (starEach [e] X.env)).all (fun x=> !x.1) && (backToKw cpos (keywordEach [] X.env)).all (fun x=>x.1.isSome) && decide ([e].length+([]:List Eo).length+(if([]:List Eo).isEmpty then 0 else 1)< 30))=true
theorem fu (h:X.K=K):dh X (.type "tuple") (fun xs H Q=>∃p ys,xs=[.ref p]∧((SqL K H p ys∧∀l,H l=none→Q (.ref l) (cA H l (.tup ys)))∨(SqT K H p ys∧Q (.ref p) H))):=h▸ji
theorem iL (h:X.K=K) (ho:PE X o to) (ha:PA X [e] t) (hbase:attributeBase o "join" X.env (eval o X.env)=eval o X.env:=by rfl) (hfew:yk X cpos e:=by rfl) (hline:(apos.endLine == cpos.line)=true:=by rfl) (hs:starEach [e] X.env=(false,eval e X.env)::starEach [] X.env:=by rfl) (hplain:(backTo cpos (starEach [] X.env)).any (·.1)=false:=by rfl):
  PE X (.Call (.Attribute o "join" apos) [e] [] cpos) (dF K "str" (wX K) to t):=mI (K:=K) h PySem.F.plainAttrs_str PySem.F.slot_str_join PySem.F.type_str_join (qJ (K:=K) h) ho ha hbase hfew hline hs hplain
theorem eu (h:X.K=K) (hc:X.calm=true) (ho:PE X o to) (ha:PA X [e] t) (hbase:attributeBase o "index" X.env (eval o X.env)=eval o X.env:=by rfl) (hfew:yk X cpos e:=by rfl) (hline:(apos.endLine == cpos.line)=true:=by rfl) (hs:starEach [e] X.env=(false,eval e X.env)::starEach [] X.env:=by rfl) (hplain:(backTo cpos (starEach [] X.env)).any (·.1)=false:=by rfl):
  PE X (.Call (.Attribute o "index" apos) [e] [] cpos) (dF K "str" wY to t):=mI (K:=K) h PySem.F.plainAttrs_str PySem.F.slot_str_index PySem.F.type_str_index (qC hc) ho ha hbase hfew hline hs hplain
theorem cw (h:X.K=K) (ho:PE X o to) (ha:PA X [e] t) (hbase:attributeBase o "append" X.env (eval o X.env)=eval o X.env:=by rfl) (hfew:yk X cpos e:=by rfl) (hline:(apos.endLine == cpos.line)=true:=by rfl) (hs:starEach [e] X.env=(false,eval e X.env)::starEach [] X.env:=by rfl) (hplain:(backTo cpos (starEach [] X.env)).any (·.1)=false:=by rfl):
  PE X (.Call (.Attribute o "append" apos) [e] [] cpos) (dF K "list" aA to t):=mI (K:=K) h PySem.F.plainAttrs_list PySem.F.slot_list_append PySem.F.type_list_append oX ho ha hbase hfew hline hs hplain
end
end L2
namespace Wb
open PySem L2 Mi
variable {Er:Nat→Prop}
section
variable {α β γ δ:Type} {t t1 t2 t3 ta tb tc:TE} {σ:St} {W W0 W':Wd} {K:PySem.W.Frag} {w:zQ}
class NN {α:Type} (R:Rp α):Prop where
 nn:∀H a v,R H a v→v≠.non
instance zkeep26:NN isI:=⟨fun _ _ _ h=>by cases h;exact fun z=>nomatch z⟩
theorem r0 {R:Rp α} [NN R] {m:Res α} (h:EV Er t σ W (sh R) m):EV Er t σ W (sh (isO R)) (m.bind fun a=>.ok (some a)):=fun W1 e1 Q k=>
 h W1 e1 _ ((zj k).imp fun a ka v W2 e2 hv=>ka v W2 e2 ⟨hv,NN.nn _ _ _ hv⟩)
theorem vM {R:Rp α} {m:Res (Option α)} (h:EV Er t σ W (sh (isO R)) m):EV Er t σ W (sh R) (m.bind fun a=>tF a):=fun W1 e1 Q k=>
 h W1 e1 _ ((zj k).imp fun a ka v W2 e2 hv => by
  obtain⟨b,rfl,hb⟩:=dH ka
  exact hb v W2 e2 hv.1)
theorem r6 {ma:Res (List Int)} (ha:EV Er ta σ W (pk isI) ma):EVo Er (dv (fun xs H Q=>∃(p:Addr) (ns:List Int),xs=[.ref p]∧SqL K H p (ns.map C6)∧ns.length< 64∧∀(q:Addr) (ns':List Int),H q=none→ns'.Perm ns→ns'.Pairwise (· ≤ ·)→Q (.ref q) (cA H q (.lst (ns'.map C6)))) (am ta aU)) σ W isI (ma.bind fun a=>qO a):=fun W1 e1 Q k=>
 ha W1 e1 _ ((zj k).imp fun a ka x W2 e2 hx=>by
  obtain⟨p,vs,rfl,h1,h2⟩:=hx
  obtain⟨h3,h4⟩:=bj ka
  refine⟨p,a,rfl,BS (by rw[h1,h2.ints]),h3,fun q ns' hq hp hs=>?_⟩
  rw[pf hp hs]
  exact qY (vs:=(gN a).map C6) ⟨by simp,fun i v m e1 e2=>by rw[zA,e2]at e1;cases e1;rfl⟩ e2 h4 q hq)
theorem iM {R1:Rp α} {R2:Rp β} {d:Addr} {x y:V} {a:α} {b:β} (T:∀H,SqT K H d [x,y]) (h1:∀H,R1 H a x) (h2:∀H,R2 H b y):EV Er (tC (.ref d)) σ W (sh (isT2 K R1 R2)) (.ok (a,b)):=fun W1 _ Q k=>k _ W1 (.refl _) ⟨d,x,y,rfl,T _,h1 _,h2 _⟩
theorem gI (i:Int):∀H,isI H i (.int i):=fun _=>rfl
end
end Wb
namespace Mi
theorem fL {a b:Int} (h:0< b):iG a b=.ok (a% b):=bt h
theorem lm {a b:Int} (h1:0< b) (h2:b< 1073741824):hV a b=.ok (a/ b):=bt ⟨h1,h2⟩
theorem ln {a b:Int} (h1: -18446744073709551616< a) (h2:a< 18446744073709551616):jk a b=.ok (a*b):=bt (.inl ⟨h1,h2⟩)
theorem r9 {a b:Int} (h1: -18446744073709551616< b) (h2:b< 18446744073709551616):jk a b=.ok (a*b):=bt (.inr ⟨h1,h2⟩)
theorem eN {α:Type} {xs:List α} {x:α} (h:xs.length< 100000):gm xs x=.ok (xs++ [x]):=bt h
theorem ku {a b:Tx} (h:a.length+b.length≤100000):jl a b=.ok (a++b):=bt h
theorem nV {α:Type} {a b:List α} (h:a.length+b.length≤100000):tG a b=.ok (a++b):=bt h
theorem tO {c:Nat} {n:Int} (h0:0≤n) (h1:n≤100000):vH [c] n=.ok (Bt n.toNat c):=bt ⟨h0,h1⟩
theorem nW {a:Tx} {lo hi:Option Int} (h:a.length≤100000):pc a lo hi=.ok (cut a lo hi):=bt h
theorem lq {xs:List Tx} (h:xs.flatten.length≤100000):lc xs=.ok xs.flatten:=bt h
theorem pD {n:Nat} (h:n≤100000):fh (n:Int)=.ok ((AD n).map fun(i:Nat)=>(i:Int)):=by
 unfold fh;rw[bt ⟨by omega,by omega⟩];simp[dR]
theorem ic {α:Type} {xs:List α} {i:Int} (h0:0≤i) (h1:i< xs.length):∃x,eW xs i=.ok x∧xs[i.toNat]? =some x:=by
 obtain⟨h,e⟩:=qM h0 h1
 exact⟨xs[i.toNat],by unfold eW;rw[e];rfl,by simp[h]⟩
theorem fM {x:Tx} {i:Int} (h0:0≤i) (h1:i< x.length) (h2:x.length≤100000):∃c,dX x i=.ok [c]∧x[i.toNat]? =some c:=by
 obtain⟨h,e⟩:=qM h0 h1
 refine⟨x[i.toNat],?_,by simp[h]⟩
 unfold dX;rw[bt h2];show(tF (qg x i)).bind _=_;rw[e];rfl
theorem vN {x:Tx} {i:Int} (h0:0≤i) (h1:i< x.length) (h2:x.length≤100000):dX x i=.ok [x[i.toNat]?.getD 0]:=by
 obtain⟨c,e,h⟩:=fM h0 h1 h2
 rw[e,h];rfl
theorem tP {α:Type} {xs:List α} {i:Int} {x:α} (h0:0≤i) (h1:i< xs.length):fR xs i x=.ok (xs.set i.toNat x):=by
 unfold fR ixN;rw[if_pos h0,if_pos h1];rfl
theorem mM {α:Type} [DecidableEq α] {a b:α} (h:a=b):wo a b=.ok true:=if_pos h
theorem rc {xs:List Int} (h:xs.length< 64):qO xs=.ok (gN xs):=bt h
theorem cR {α S:Type} {f:α→S→Res S} (I:List α→S→Prop) (xs:List α) (s0:S) (h0:I [] s0) (step:∀pre a post s,xs=pre++a::post→I pre s→∃s',f a s=.ok s'∧I (pre++ [a]) s'):
  ∃s,bE f xs s0=.ok s∧I xs s:=by
 have key:∀(post pre:List α) (s:S),xs=pre++post→I pre s→∃s',bE f post s=.ok s'∧I xs s':=by
  intro post
  induction post with
  | nil=>intro pre s e h;rw[Ba]at e;subst e;exact⟨s,rfl,h⟩
  | cons a r ih =>
   intro pre s e h
   obtain⟨s1,e1,h1⟩:=step pre a r s e h
   obtain⟨s2,e2,h2⟩:=ih (pre++ [a]) s1 (by rw[e];simp) h1
   exact⟨s2,by unfold bE;rw[e1];exact e2,h2⟩
 exact key xs [] s0 rfl h0
theorem ls {α β:Type} {f:α→Res (Option β)} {g:α→Option β} :∀{xs:List α},(∀x∈xs,f x=.ok (g x))→gp f xs=.ok (xs.filterMap g)
 | [],_=>rfl
 | a :: r, h => by
  unfold gp
  rw[h a (zP ..),zm,ls fun x hx=>h x (zR _ hx),zm,BX]
  cases g a <;> rfl
theorem rd {α β:Type} {f:α→Res (Option β)} {g:α→Option β} {xs:List α} (hl:xs.length≤100000) (h:∀x∈xs,f x=.ok (g x)):nL xs f=.ok (xs.filterMap g):=by
 unfold nL;rw[bt hl,zm,ls h]
theorem nX (l:List Nat):((l.map fun c=>[c]):List Tx).flatten=l:=by induction l with | nil=>rfl | cons a r ih=>simp[ih]
theorem iN {α:Type} (l:List α) (k:Nat):cut l none (some (k:Int))=l.take k:=by
 unfold cut sIx;simp only[]
 rw[if_neg (by omega),AA];simp[List.take_eq_take_iff]
theorem lu {α:Type} (l:List α) (k:Nat):cut l (some (k:Int)) none=l.drop k:=by
 unfold cut sIx;simp only[]
 rw[if_neg (by omega),AA]
 by_cases h:k≤l.length
 ·rw[Nat.min_eq_left h,Ca (by simp)]
 ·rw[Nat.min_eq_right (by omega),Et (by omega),Et (by omega)];simp
theorem fN {x:Tx} {t:Tx} (h:t∈cB x):∃c∈x,t=[c]:=by
 unfold cB at h;obtain⟨c,hc,e⟩:=Ah.mp h;exact⟨c,hc,e.symm⟩
theorem tQ (a:Int):0≤cy a:=by unfold cy;split <;> omega
section
variable {α β:Type} {P:α→Prop} {Q:β→Prop}
theorem iO {m:Res α} {f:α→Res β} (h:m.Ok fun a=>(f a).Ok Q):(m.bind f).Ok Q:=Res.bind_ok h
theorem yt {b:Bool} {A B:Res α} (h1:b=true→A.Ok P) (h2:b=false→B.Ok P):(if b=true then A else B).Ok P:=by
 cases b with
 | true=>exact h1 rfl
 | false=>exact h2 rfl
theorem lv {c:Prop} [Decidable c] {A B:Res α} (h1:c→A.Ok P) (h2:¬c→B.Ok P):(if decide c=true then A else B).Ok P:=by
 by_cases h:c
 ·rw[decide_eq_true h];exact h1 h
 ·rw[decide_eq_false h];exact h2 h
theorem fV {a:α} (h:P a):(zt a).Ok P:=h
theorem yA {m:Res α} {a:α} (e:m=.ok a) (h:P a):m.Ok P:=by rw[e];exact h
end
end Mi
namespace L2
open PySem PySem.Spec PyProof.Rows Wb
end L2
namespace L2
open PySem PySem.Spec PyProof.Rows
end L2
namespace Wb
open PySem L2 Mi
variable {Er:Nat→Prop}
end Wb
namespace Mi
def lw {κ α:Type} [DecidableEq κ] (kvs:List (κ×α)) (k:κ) (a:α):List (κ×α):=
 if(kvs.any fun kv=>decide (kv.1=k))=true then kvs.map (fun kv=>if kv.1=k then(kv.1,a)else kv)else kvs++ [(k,a)]
end Mi
namespace PySem
open Sem (wp)
open AutoSeq1 (wpAny_loadPart')
end PySem
namespace L2
open PySem PySem.Spec PyProof.Rows
end L2
namespace L2
end L2
namespace Wb
open PySem L2 Mi
variable {Er:Nat→Prop}
section
variable {α β γ δ:Type} {t t1 t2 t3 t4 ta tb tc td:TE} {σ:St} {W W0 W':Wd} {K:PySem.W.Frag} {w:zQ}
def fP (K:PySem.W.Frag):Nat→Sp
 | 0=>fun _ _ _ _=>False
 | n+1=>fun vs H Q _=>∃v u,vs=[v,u]∧((EqK K H n v u∧∀H',Same H H'→Q (.bl true) H')∨∃x y,v=.str x∧u=.str y∧Q (.bl (decide (Dp x=Dp y))) H)
theorem iP [DecidableEq α] {R:Rp α} [Mono R] {n N:Nat} [EqR K R n] {E:XK} {ma mb:Res α} (hn:n< N) (ha:EV Er ta σ W (sh R) ma) (hb:EV Er tb σ W (sh R) mb):EV Er (aS (fP K N) [] E (am ta (am tb aU))) σ W (sh isB) (ma.bind fun a=>mb.bind fun b=>wo a b):=fun W1 e1 Q k=>
 ha W1 e1 _ ((zj k).imp fun a ka x W2 e2 hx=>hb W2 (e1.trans e2) _ ((zj ka).imp fun b kb y W3 e3 hy=>by
  unfold wo at kb
  by_cases z:a=b
  ·rw[if_pos z]at kb
   subst z
   cases N with
   | zero=>omega
   | succ N =>
    refine⟨x,y,rfl,.inl ⟨EqR.eq W3.H a x y N (by omega) (zk W3.ok (zk (R:=R) e3.g hx)) (zk W3.ok hy),fun H' hs=>?_⟩⟩
    exact kb (.bl true) ⟨W3.G,H',W3.ok.trans hs⟩ ⟨e2.g.trans e3.g,(e2.h.trans e3.h).trans hs,fun p hp=>(e2.trans e3).k p hp⟩ rfl
  ·rw[if_neg z]at kb;exact kb.elim))
theorem tR {D:Ends} {i:Nat} {te:TE} {a:Int} {m:Res Int} {f:Int→Int→Int} {σ':Int→St} (h:EV Er te σ W (sh isI) m) (q:m.OkE Er fun b=>∀W',Ext W W'→D.nx (σ' (f a b)) W'.H) (hi:σ[i]? =some (some (.int a)):=by rfl) (hσ:∀c,σ.set i (some (.int c))=σ' c:=by intro _;rfl):wE i te (yp f) D σ W.H:=
 ⟨.int a,hi,h W (.refl _) _ (q.imp fun b kb v W' e hv=>by cases hv;exact⟨a,b,rfl,rfl,by have:=kb W' e;rw[←hσ]at this;exact this⟩)⟩
theorem EV.go {W1:Wd} {R:Rw α} {m:Res α} {Q:VK} (e:Ext W W1) (h:EV Er t σ W R m) (k:m.OkE Er fun a=>∀v W2,Ext W1 W2→R W2 a v→Q v W2.H):t σ W1.H Q:=h W1 e Q k
end
end Wb
namespace Mi
end Mi
namespace L2
open PySem PySem.Spec PyProof.Rows
end L2
namespace L2
open PySem PySem.Spec PySem.Calls PyProof.Rows
open PySem.W (findIn findObj mroIn looks_findIn looks_find looks_mroIn class_get KitX clsIn Frag)
end L2
namespace L2
open PySem PySem.Spec PySem.Calls PyProof.Rows
end L2
namespace L2
open PySem PySem.Spec PySem.Calls PyProof.Rows Mi
end L2
namespace Wb
open PySem L2 Mi
end Wb
namespace Wb
open PySem L2 Mi
open PySem.W (findIn findObj mroIn kitOne kitCls clsIn typeIn subIn specialIn takesIn Frag)
end Wb
namespace Wb
open PySem L2 Mi
end Wb
namespace L2
open PySem PySem.Spec PyProof.Rows
end L2
namespace Wb
open PySem L2 Mi
end Wb
namespace Mi
def fv {S:Type} (c:S→Res Bool) (f:S→Res S):Nat→S→Res S
 | 0,_=>.stuck
 | n+1,s=>(c s).bind fun b=>if b then(f s).bind fun s'=>fv c f n s' else .ok s
end Mi
namespace Wb
open PySem L2 Mi
section
variable {Er:Nat→Prop} {K:PySem.W.Frag} {W0 W W':Wd} {p:Addr} {s:List Fr} {te:TE} {σ:St} {D:Ends} {i a b:Nat} {r:TS} {E:XK}
theorem re {S:Type} {tc:TT} {tb:TS} {c:S→Res Bool} {f:S→Res S} {s0:S} {P:S→Prop} {n:Nat} (Iv:S→Wd→St→Prop) (q:(fv c f n s0).OkE Er P) (h0:Iv s0 W σ)
  (hm:∀W1 W2 s σ1,Ext W1 W2→Iv s W1 σ1→Iv s W2 σ1)
  (hc:∀W1 s σ1,Same W.G W1.G→Iv s W1 σ1→TV Er tc σ1 W1 (c s))
  (hs:∀Wb W1 s σ1 P',Same W.G W1.G→Same Wb.G W1.G→Iv s W1 σ1→(f s).OkE Er P'→tb {D with nx:=m8 Wb Iv P',ct:=m8 Wb Iv P',bk:=D.nx} σ1 W1.H)
  (hd:∀s W1 σ1,Same W.G W1.G→Iv s W1 σ1→P s→D.nx σ1 W1.H):mq tc tb D σ W.H:=by
 refine⟨fun m σ' H'=>∃s' W',W'.H=H'∧Same W.G W'.G∧Iv s' W' σ'∧(fv c f m s').OkE Er P,⟨n,s0,W,rfl,.refl _,h0,q⟩,?_⟩
 rintro m σ1 H1 ⟨s,W1,rfl,e1,iv,k⟩
 cases m with
 | zero=>exact k.elim
 | succ m =>
  refine hc W1 s σ1 e1 iv W1 (.refl _) _ ((zj k).imp fun b kb W2 e2=>?_)
  cases b with
  | true =>
   refine⟨m8 W Iv fun s'=>(fv c f m s').OkE Er P,fun σ' H' ⟨s',W',z1,z2,z3,z4⟩=>⟨m,Cu _,s',W',z1,z2,z3,z4⟩,?_⟩
   exact hs W W2 s σ1 _ (e1.trans e2.g) (e1.trans e2.g) (hm W1 W2 s σ1 e2 iv) (zj kb)
  | false=>exact hd s W2 σ1 (e1.trans e2.g) (hm W1 W2 s σ1 e2 iv) kb
section
variable {r:TS}
theorem mN {S:Type} {tc:TT} {tb:TS} {c:S→Res Bool} {f:S→Res S} {s0:S} {P:S→Prop} {n:Nat} (Iv:S→Wd→St→Prop) (q:(fv c f n s0).OkE Er P) (h0:Iv s0 W σ)
  (hm:∀W1 W2 s σ1,Ext W1 W2→Iv s W1 σ1→Iv s W2 σ1)
  (hc:∀W1 s σ1,Same W.G W1.G→Iv s W1 σ1→TV Er tc σ1 W1 (c s))
  (hs:∀Wb W1 s σ1 P',Same W.G W1.G→Same Wb.G W1.G→Iv s W1 σ1→(f s).OkE Er P'→tb {D with nx:=m8 Wb Iv P',ct:=m8 Wb Iv P',bk:=r D} σ1 W1.H)
  (hd:∀s W1 σ1,Same W.G W1.G→Iv s W1 σ1→P s→r D σ1 W1.H):eV (mq tc tb) r D σ W.H:=re (D:={D with nx:=r D}) Iv q h0 hm hc hs hd
end
end
end Wb
namespace L2
open PySem PySem.Spec PyProof.Rows
end L2
namespace Wb
open PySem L2 Mi
section
variable {Er:Nat→Prop} {α β:Type} {K:PySem.W.Frag} {W W0:Wd} {p:Addr} {ta tb te:TE} {σ:St} {D:Ends} {i:Nat} {r:TS} {base:Heap}
theorem LR.rev {R:Rp α} {H:Hp} {as:List α} {vs:List V} (h:LR R H as vs):LR R H as.reverse vs.reverse:=⟨by simp[h.1],fun i v m q1 q2=>by
 have hi:i< vs.length:=by have:=(zB.mp q1).1;simpa using this
 rw[BF hi]at q1
 rw[BF (by rw[←h.1];exact hi),←h.1]at q2
 exact h.2 _ v m q1 q2⟩
theorem tS {R:Rp α} [Mono R] {ma:Res (List α)} (ha:EV Er ta σ W (pk R) ma):EVo Er (qK K ta (be (eF (rU fun i=>.int (-i)) (tC (.int 1))))) σ W R (ma.bind fun a=>.ok a.reverse):=fun W1 e1 Q k=>
 ha W1 e1 _ ((zj k).imp fun a ka x W2 e2 hx=>by
  obtain⟨p,vs,rfl,h1,h2⟩:=hx
  refine⟨1,rfl, -1,rfl,p,vs,rfl,rfl,BS h1,fun q hq=>ka q (W2.mut q (.lst vs.reverse) (W2.gnone hq)) (e2.trans (.own _ hq)) (aT e2.h hq) ⟨W2.gnone hq,_,aI,LR.rev h2⟩⟩)
end
end Wb
namespace L2
open PySem PySem.Spec PySem.Calls PyProof.Rows Mi
end L2
namespace Wb
open PySem L2 Mi
end Wb
namespace L2
open PySem PySem.Spec PyProof.Rows
end L2
namespace Wb
open PySem L2 Mi
end Wb
namespace L2
open PySem PySem.Spec PyProof.Rows
end L2
namespace Wb
open PySem L2 Mi
end Wb
namespace Mi
end Mi
namespace Wb
open PySem L2 Mi
end Wb
namespace L2
open PySem PySem.Spec PyProof.Rows
def da (tg iter:Expr) (ifs:List Expr) (body:Sem Unit) (it:zl) (env:Env) (c:Code):Sem Fin:=do
 standAt iter.pos
 match ←pyNext it with
 | none=>pure (.done .next)
 | some v =>
  letOwnedTupleGo tg it v
  assign tg env v
  let mut ok:=true
  for c in ifs do
   if ok then ok ←isTrue c env (eval c env)
  if ok then body
  again c
structure CompE (e:Expr):Prop where
 a:∀(A:Ai) (d:Nat) (it acc:zl) (env:Env),A.under (.compLoop e d it acc env)=A
 b:∀(A:Ai) (d:Nat) (it acc:zl) (env:Env),A.under (.compStart e d it acc env)=A
 c:∀(prog:zL) (w:zQ) (d:Nat) (it acc:zl) (env:Env),(model prog w).den (.compLoop e d it acc env)=(compTurn e d it acc env).onRaise (fun x=>do noteFrame x env;theTreesLotGoes x)
 d:∀(prog:zL) (w:zQ) (d:Nat) (it acc:zl) (env:Env),(model prog w).den (.compStart e d it acc env)=(compStart e d it acc env).onRaise (fun x=>do noteFrame x env;standAt theWindowsPlace)
theorem CompE.dict {k v:Expr} {gs:List E9} {sc:Ce} {pos:Pos} :CompE (.DictComp k v gs sc pos):=⟨fun _ _ _ _ _=>rfl,fun _ _ _ _ _=>rfl,fun _ _ _ _ _ _=>rfl,fun _ _ _ _ _ _=>rfl⟩
theorem CompE.set {k:Expr} {gs:List E9} {sc:Ce} {pos:Pos} :CompE (.SetComp k gs sc pos):=⟨fun _ _ _ _ _=>rfl,fun _ _ _ _ _=>rfl,fun _ _ _ _ _ _=>rfl,fun _ _ _ _ _ _=>rfl⟩
section
variable {prog:zL} {w:zQ} {A:Ai} {R:Gh→zq→Prop} {s:zq}
theorem jn {e:Expr} (ce:CompE e) {d:Nat} {tg iter:Expr} {ifs:List Expr} {it acc:zl} {env:Env} {body:Sem Unit} (ht:compTurn e d it acc env=da tg iter ifs body it env (.compLoop e d it acc env)) (I:Nat→zq→Prop)
  (turn:∀n s,I n s→wpAny (model prog w) A (pyNext it) (fun r s₁=>match r with
   | none=>R (.ok .next) s₁
   | some v=>wpAny (model prog w) A (letOwnedTupleGo tg it v) (fun _ s₁'=>wpAny (model prog w) A (assign tg env v) (fun _ s₂=>
     wpAny (model prog w) A (forIn ifs true fun c r=>if r=true then do let ok ←isTrue c env (eval c env);pure (A3 ok)else pure (A3 r)) (fun ok s₃=>
      if ok=true then wpAny (model prog w) A body (fun _ s₅=>∃m,m< n∧I m s₅) (fun _ _=>False) s₃
      else ∃m,m< n∧I m s₃) (fun _ _=>False) s₂) (fun _ _=>False) s₁') (fun _ _=>False) s₁) (fun _ _=>False) s)
  (n:Nat) (h:I n s):codeAny (model prog w) A (.compLoop e d it acc env) R s:=by
 refine codeAny_loop rfl I (fun n s hI=>?_) n h
 rw[ce.a,ce.c]
 refine wpAny_noted ?_
 rw[ht]
 unfold da
 refine zh (By (zh (Aq (turn n s hI) (fun r s₁ h₁=>?_) fun _ _ h'=>h'.elim)))
 cases r with
 | none=>exact zo h₁
 | some v =>
  refine zh (Aq h₁ (fun _ s₁' h₁'=>?_) fun _ _ h'=>h'.elim)
  refine zh (Aq h₁' (fun _ s₂ h₂=>zh (Aq h₂ (fun ok s₃ h₃=>?_) fun _ _ h'=>h'.elim)) fun _ _ h'=>h'.elim)
  cases ok with
  | true =>
   rw[if_pos rfl]at h₃
   exact zh (Aq h₃ (fun _ s₄ h₄=>zo ⟨rfl,h₄⟩) fun _ _ h'=>h'.elim)
  | false =>
   rw[if_neg zF]at h₃
   exact zo ⟨rfl,h₃⟩
theorem fW {e:Expr} (ce:CompE e) {d:Nat} {g:E9} {it acc:zl} {env:Env} (hg:(clausesOf e)[d]? =some g) (ha:g.is_async=0)
  (h0:codeAny (model prog w) A (.compLoop e d it acc env) R s)
  (h:wpAny (model prog w) A (pyIter it) (fun it' s'=>codeAny (model prog w) A (.compLoop e d it' acc env) R s') (notedBy (model prog w) A env fun x s'=>R (.error x) s') s):
  codeAny (model prog w) A (.compStart e d it acc env) R s:=by
 refine codeAny_of_tree ?_
 rw[ce.b,ce.d]
 refine wpAny_notedAt ?_
 unfold compStart
 rw[hg]
 simp only[Option.elim_some,ha,bne_self_eq_false,A5,if_false]
 refine zh (C3 (wpAny_ite ?_))
 split
 ·first
   | exact zh (zo (zo (FR rfl h0)))
   | exact zo (FR rfl h0)
 ·first
   | exact zh (BC (zh (By (zh (Aq h (fun it' s' h'=>zo (FR rfl h')) fun _ _ x=>x)))))
   | (refine zh (BC ?_);exact zh (By (zh (Aq h (fun it' s' h'=>zo (FR rfl h')) fun _ _ x=>x))))
end
def uT (kx vx:Expr) (env:Env) (acc:zl):Sem Unit:=do
        let kv ←eval kx env
        let vv ←holding [kv] (eval vx env)
        match acc with
        | .ref d => do
          standAt {kx.pos with endLine:=vx.pos.endLine,endCol:=vx.pos.endCol}
          holding [kv,vv] (dictSet d kv vv)
        | _=>unsupported "internal:dictcomp"
def tT (iter:Expr) (e:Expr) (d:Nat) (env:Env) (acc:zl):Sem Unit:=do
        let x ←eval iter env
        standAt iter.pos
        let x ←foldedSetIterable iter env x
        let _ ←runOwn (.compStart e d (←holding [x] (pyIter x)) acc env) env
abbrev TB:=Addr→St→Hp→(Hp→Prop)→Prop
def PB (Y:Cx) (body:zl→Sem Unit) (tb:TB):Prop:=∀(D:Addr) (pins:List (Addr×Obj)) (s:zq) (σ:St) (H:Hp) (N:Hp→Prop),Inv Y pins σ H s→tb D σ H N→
 wpAny (model Y.prog Y.w) Y.A (body (.ref D)) (fun _ s'=>∃σ' H',Inv Y pins σ' H' s'∧(∀(j:Nat) (v:V),σ[j]? =some (some v)→σ'[j]? =some (some v))∧N H') (fun _ _=>False) s
def pE (g:TG) (tf:TT) (tb:TB) (D:Addr) (σ:St) (H1:Hp) (N:Hp→Prop) (J:It):Prop:=∃W:Nat→Nat→Hp→Prop,(∃m,W 0 m H1)∧∀i m H,W i m H→
 ((J.stop i H∧N H)∨(J.go i H∧∃M:Hp→Prop,(∀H',M H'→∃m',m'< m∧W (i+1) m' H')∧∀x H',J.yld i H x H'→g x σ H' fun σ2 H2=>Keep σ σ2∧tf σ2 H2 fun b H3=>if b=true then tb D σ2 H3 M else M H3))
def vO (wi:TI) (g:TG) (tf:TT) (tb:TB):TB:=fun D σ H N=>wi σ H fun J H1=>pE g tf tb D σ H1 N J
section
variable {Y:Cx} {tg iter elt kx vx:Expr} {ifs:List Expr} {g:TG} {tf:TT} {tb:TB} {body:zl→Sem Unit} {te tk tv:TE} {wi:TI}
theorem lx (hc:Y.calm=true) (hxe:Y.xe=fun _ _=>False) (hg:PG Y tg g) (hf:qf Y ifs tf) (hb:PB Y body tb) {e:Expr} (ce:CompE e) {d:Nat} {it:Addr} {fp:List Addr} {tn:Nat→Heap→Prop} {J:It} (T:Turn Y.prog Y.w Y.K tg J fp it tn)
  {pins:List (Addr×Obj)} {s:zq} {σ:St} {H:Hp} {D:Addr} {N:Hp→Prop} {R:Gh→zq→Prop} (I:Inv Y pins σ H s) (st:tn 0 s.heap) (f:∀b∈fp,FpOk Y pins H b) (w:pE g tf tb D σ H N J)
  (ht:compTurn e d (.ref it) (.ref D) Y.env=da tg iter ifs (body (.ref D)) (.ref it) Y.env (.compLoop e d (.ref it) (.ref D) Y.env))
  (fin:∀σ' H' s',Inv Y pins σ' H' s'→(∀(j:Nat) (v:V),σ[j]? =some (some v)→σ'[j]? =some (some v))→N H'→R (.ok .next) s'):
  codeAny (model Y.prog Y.w) Y.A (.compLoop e d (.ref it) (.ref D) Y.env) R s:=by
 obtain⟨W,⟨m0,w0⟩,turn⟩:=w
 have stat:∀{H':Hp},(∀b∈fp,H' b=none)→∀b∈fp,FpOk Y pins H' b:=fun hn b hb=>⟨hn b hb,(f b hb).2⟩
 refine jn ce ht (fun n s'=>∃i σ' H',Inv Y pins σ' H' s'∧tn i s'.heap∧(∀b∈fp,H' b=none)∧(∀(j:Nat) (v:V),σ[j]? =some (some v)→σ'[j]? =some (some v))∧W i n H') ?_ m0 ⟨0,σ,H,I,st,fun b hb=>(f b hb).1,fun _ _ e=>e,w0⟩
 rintro n s3 ⟨i,σ3,H3,I3,st3,fr3,kp,w3⟩
 rcases turn i n H3 w3 with⟨stop,qn⟩ | ⟨go,M,hM,step⟩
 ·refine bz (T.done Y rfl rfl rfl hc i pins s3 σ3 H3 _ I3 (stat fr3) st3 stop) fun r s4 ⟨hr,I4⟩=>?_
  subst hr
  exact fin σ3 H3 s4 I4 kp qn
 ·have I3':Inv Y pins σ H3 s3:=I3.weak (by rw[I3.len,I.len]) kp
  refine bz (T.item Y rfl rfl rfl hc i pins s3 σ H3 _ I3' (stat fr3) st3 go) fun r s4 ⟨u,hr,h4⟩=>?_
  subst hr
  refine bz h4 fun _ s5 ⟨x,H5,I5,r5,y5,st5,fr5⟩=>?_
  have I5':=I5.pinned (stat fr5) (T.obj _ _ st5)
  have hg':=hg _ s5 σ H5 x u _ I5' r5 (step x H5 y5)
  rw[hxe]at hg'
  refine bz hg' fun _ s6 ⟨σ6,H6,I6,kp6,q6⟩=>?_
  have hf':=hf _ s6 σ6 H6 _ I6 q6
  rw[hxe]at hf'
  refine bz hf' fun ok s7 ⟨H7,I7,q7⟩=>?_
  have again:∀{s8:zq} {σ7:St} {H7:Hp},Inv Y (pins++gH fp s5.heap) σ7 H7 s8→(∀(j:Nat) (v:V),σ6[j]? =some (some v)→σ7[j]? =some (some v))→M H7→∃m,m< n∧∃i σ' H',Inv Y pins σ' H' s8∧tn i s8.heap∧(∀b∈fp,H' b=none)∧(∀(j:Nat) (v:V),σ[j]? =some (some v)→σ'[j]? =some (some v))∧W i m H':=fun {s8 σ7 H7} I7 k7 n7=>by
   obtain⟨m',hm,w7⟩:=hM H7 n7
   refine⟨m',hm,i+1,σ7,H7,I7.unpinned,T.keep _ _ _ st5 fun b hb o e=>(I7.pin (b,o) (A0 _ (A0 _ (dt hb e)))).1,fun b hb=>?_,fun j v e=>k7 j v (Keep.get kp6 e),w7⟩
   obtain⟨o,e,d⟩:=T.obj _ _ st5 b hb
   exact(I7.pin (b,o) (A0 _ (A0 _ (dt hb e)))).2.1
  cases ok with
  | false =>
   rw[if_neg zF]at q7 ⊢
   exact again I7 (fun _ _ e=>e) q7
  | true =>
   rw[if_pos rfl]at q7 ⊢
   exact bz (hb D _ s7 σ6 H7 _ I7 q7) fun _ s8 ⟨σ8,H8,I8,k8,q8⟩=>again I8 k8 q8
theorem vP (hc:Y.calm=true) (hxe:Y.xe=fun _ _=>False) (hi:PI Y tg iter wi) (hg:PG Y tg g) (hf:qf Y ifs tf) {body:Env→zl→Sem Unit} (hb:PB Y (body Y.env) tb) {e:Expr} (ce:CompE e) {d:Nat} (hcl:(clausesOf e)[d]? =some ⟨tg,iter,ifs,0⟩)
  (ht:∀env it acc,compTurn e d it acc env=da tg iter ifs (body env acc) it env (.compLoop e d it acc env):=by intro _ _ _;rfl) (hs:∀x,foldedSetIterable iter Y.env x=pure x:=by intro _;rfl):
  PB Y (tT iter e d Y.env) (vO wi g tf tb):=by
 intro D pins s σ H N I h
 have hi':=hi pins s σ H _ I h
 rw[hxe]at hi'
 refine zh (bz hi' fun v s1 h1=>zh (By (zh (EX (hs v) (zh (AX (bz h1 fun itv s2 h2=>?_)))))))
 obtain⟨it,fp,tn,J,H2,rfl,I2,T,st2,f2,w⟩:=h2
 have lp:codeAny (model Y.prog Y.w) Y.A (.compLoop e d (.ref it) (.ref D) Y.env) (fun r s'=>match r with | .ok f=>(∃σ' H',Inv Y pins σ' H' s'∧(∀(j:Nat) (v:V),σ[j]? =some (some v)→σ'[j]? =some (some v))∧N H') | .error x=>cameBackBy (model Y.prog Y.w) Y.A Y.env (fun _ _=>False) x s') s2:=
  lx hc hxe hg hf hb ce T I2 st2 f2 w (ht _ _ _) fun σ' H' s' I' k' n'=>⟨σ',H',I',k',n'⟩
 refine zh (wpAny_runOwn (fW ce hcl rfl ?_ ?_))
 ·exact Dz lp fun r s' h=>by
   cases r with
   | ok f=>exact zo h
   | error x=>exact h
 ·refine T.self _ 0 _ _ _ st2 (Dz lp fun r s' h=>by
   cases r with
   | ok f=>exact zo h
   | error x=>exact h)
end
section
variable {X:Cx} {scope:Ce} {N:List Str} {cap:List (Option Nat)} {tg iter:Expr} {ifs:List Expr} {pos:Pos} {wi:TI} {g:TG} {tf:TT} {tb:TB} {body:Env→zl→Sem Unit}
theorem jB {pins:List (Addr×Obj)} {σ σ':St} {H2 H':Hp} {s2 s':zq} {fp:List Addr} {C:Addr} {h':Heap} (I2:Inv X pins σ H2 s2) (f2:∀b∈fp,FpOk X pins H2 b)
  (hC:s2.heap.objs.size≤C) (I':Inv (aw X scope N s2 H2 C fp) [] σ' H' s') (hs:A9 C s'.heap h'):Inv X pins σ H' {s' with heap:=h'} :=by
 have nC:H' C=none:=I'.free
 have lt2:∀b o,s2.heap.get? b=some o→b≠C:=fun b o e=>zX (zJ (zI e) hC)
 have hk:∀b o,b≠C→s'.heap.get? b=some o→h'.get? b=some o:=fun b o hb e=>(hs.2 b hb).trans e
 have B:Un (frs X.stack) fp H2 H' s2.heap s'.heap:=I'.base
 have tr:∀b u,H' b=some u→b≠C:=fun b u e z=>by rw[z,nC]at e;cases e
 refine I2.call' (ch:=fp) I'.os ⟨fun b o e n hb hx=>?_,fun b o e n hb hx=>?_,fun b o e n hx=>?_,fun b o e hx=>?_,fun b xs e=>?_,fun b o u e=>?_,fun b ps e=>?_⟩ (fun b u e=>?_) I'.bare fun b hb=>⟨(f2 b hb).2.2.2.1,(f2 b hb).2.1,(f2 b hb).2.2.2.2.1,(f2 b hb).2.2.2.2.2⟩
 ·exact hk b o (lt2 b o e) (B.keep b o e n hb hx)
 ·obtain⟨sl,q⟩:=B.slot b o e n hb hx
  exact⟨sl,hk b _ (lt2 b o e) q⟩
 ·exact B.free b o e n hx
 ·obtain⟨o',q⟩:=B.there b o e hx
  exact⟨o',hk b _ (lt2 b o e) q⟩
 ·exact B.tups b xs e
 ·exact B.frzs b o u e
 ·exact B.tbls b ps e
 ·refine(I'.hok b u e).stay (fun c w' hc q=>hk c w' ?_ q) (fun c q=>q) fun c xs q=>q
  rcases hc with z | z
  ·rw[z];exact tr b u e
  ·exact tr c _ z
theorem iQ (S:CompScope X scope N cap) (hc:X.calm=true) {e:Expr} (ce:CompE e) (hcl:(clausesOf e)[0]? =some ⟨tg,iter,ifs,0⟩)
    (hg:∀s H C fp,PG (aw X scope N s H C fp) tg g) (hf:∀s H C fp,qf (aw X scope N s H C fp) ifs tf) (hb:∀s H C fp,PB (aw X scope N s H C fp) (body (aw X scope N s H C fp).env) tb)
    (ht:∀env it acc,compTurn e 0 it acc env=da tg iter ifs (body env acc) it env (.compLoop e 0 it acc env))
    {pins:List (Addr×Obj)} {σ:St} {H3:Hp} {s3:zq} {it D:Addr} {fp:List Addr} {tn:Nat→Heap→Prop} {J:It} {Qv:Hp→Prop} {E:zl→zq→Prop} {RR:Addr→Gh→zq→Prop}
    (I3:Inv X pins σ H3 s3) (T:Turn X.prog X.w X.K tg J fp it tn) (st3:tn 0 s3.heap) (f3:∀b∈fp,FpOk X pins H3 b) (w:pE g tf tb D (bh cap σ) H3 Qv J)
    (fin:∀(C:Addr) (σ':St) (H':Hp) (s':zq),s3.heap.objs.size≤C→Inv (aw X scope N s3 H3 C fp) [] σ' H' s'→Qv H'→RR C (.ok .next) s'):
    wpAny (model X.prog X.w) X.A (newFunctionEnv scope X.env.globals (bF X.env scope.names []) [] X.env.qual none .none (some X.env)) (fun cenv s₄=>
      codeAny (model X.prog X.w) X.A (.compStart e 0 (.ref it) (.ref D) {cenv with scope:=relabel scope X.env}) (RR cenv.locals) s₄) E s3:=by
  refine iC ?_
  generalize hC:s3.heap.objs.size=C
  generalize hH4:pushCells (s3.heap.push {cls:=.type "dict",data:=.dict #[]}) scope.names=h4
  have hz3':(s3.heap.push {cls:=.type "dict",data:=.dict #[]}).objs.size=C+1:=by rw[Bj,hC]
  have ck:GL h4 (C+1) (cellsFrom (C+1) scope.names []):=by
    have:=cellsFrom_ok scope.names (s3.heap.push {cls:=.type "dict",data:=.dict #[]}) (C+1) [] ⟨fun _ _ hm=>(nomatch hm),Ck⟩ (by rw[hz3'];exact zw _)
    rw[hz3',hH4]at this
    exact this
  have k34:∀b o,s3.heap.get? b=some o→h4.get? b=some o:=fun b o e=>by rw[←hH4];exact Ds _ _ b o (zr _ e)
  have hn4:h4.Ns C fun _=>none:=by
    rw[←hH4,←hC]
    exact(Hc s3.heap (.type "dict")).keeps (Ds _ _)
  have hlt:∀b∈fp,b< C:=fun b hb=>by
    obtain⟨o,e,_⟩:=T.obj _ _ st3 b hb
    rw[←hC];exact zI e
  have hCs:s3.heap.objs.size≤C:=by rw[hC];exact zw _
  have IC:Inv (aw X scope N s3 H3 C fp) [] (bh cap σ) H3 {s3 with heap:=h4} :=
    iD S I3 hCs ck f3 hlt ⟨_,_,rfl⟩ hn4 fun b o e=>k34 b o e
  have okC:=IC.ok
  have fO:∀b∈fp,FpOk (aw X scope N s3 H3 C fp) [] H3 b:=fun b hb=>
    ⟨(f3 b hb).1,zX (hlt b hb),okC.exfs b hb,.inl hb,(okC.exf b hb).2,fun p hp=>by
      have:p∈([]:List (Addr×Obj)):=hp
      cases this⟩
  have st4:tn 0 h4:=T.keep _ _ _ st3 fun b hb o e=>k34 b o e
  have loop:codeAny (model X.prog X.w) X.A (.compLoop e 0 (.ref it) (.ref D) (aw X scope N s3 H3 C fp).env) (RR C) {s3 with heap:=h4} :=
    lx (Y:=aw X scope N s3 H3 C fp) hc rfl (hg _ _ _ _) (hf _ _ _ _) (hb _ _ _ _) ce T IC st4 fO w (ht _ _ _) fun σ' H' s' I' _ q=>fin C σ' H' s' hCs I' q
  exact fW ce hcl rfl loop (T.self _ 0 _ _ _ st4 loop)
theorem pF {it acc:zl} {env:Env} {e iter2:Expr} {d:Nat} {c:Code} :da tg iter ifs (tT iter2 e d env acc) it env c=(do
 standAt iter.pos
 match ←pyNext it with
 | none=>pure (.done .next)
 | some v =>
  letOwnedTupleGo tg it v
  assign tg env v
  let mut ok:=true
  for c in ifs do
   if ok then ok ←isTrue c env (eval c env)
  if ok then
    let x ←eval iter2 env
    standAt iter2.pos
    let x ←foldedSetIterable iter2 env x
    let _ ←runOwn (.compStart e d (←holding [x] (pyIter x)) acc env) env
  again c):=by
 unfold da tT
 simp only[bind_assoc,pure_bind]
 all_goals rfl
variable {kx vx elt tg2 iter2 tg3 iter3:Expr} {ifs2 ifs3:List Expr} {wi2 wi3:TI} {g2 g3:TG} {tf2 tf3:TT} {te tk tv:TE} {mk:HO}
end
end L2
open L2.CompE renaming set→Hz
namespace Wb
open PySem L2 Mi
section
variable {Er:Nat→Prop} {α β γ S:Type} {K:PySem.W.Frag} {W W' W0 Wb W1 W2:Wd} {σ:St} {t ta tb te ti tk tv:TE} {i:Nat} {O:Wd→Addr→S→Prop}
theorem rf {t:TB} {D:Addr} {H:Hp} {M:Hp→Prop} (h:t D σ H M):vE σ H fun b H3=>if b=true then t D σ H3 M else M H3:=by
 show(if true=true then t D σ H M else M H)
 rw[if_pos rfl];exact h
def BV (Er:Nat→Prop) (t:TB) (σ:St) (Wb W:Wd) (O:Wd→Addr→S→Prop) (D:Addr) (m:S→Res S):Prop:=∀W1 s (N:Hp→Prop),Ext W W1→O W1 D s→(m s).OkE Er (fun s'=>∀W',Same W1.G W'.G→Ext Wb W'→O W' D s'→N W'.H)→t D σ W1.H N
theorem kw {R:Rp α} {J:It} {xs:List α} {g:TG} {tf:TT} {t:TB} {f:α→S→Res S} {D:Addr} {N:Hp→Prop} {s0:S} (hy:Yl J W R xs) (h0:Ext W W1∨Same W.G W1.G) (eb:Ext Wb W1) (o:O W1 D s0)
  (hs:∀W2 a v s (M:Hp→Prop),Same W.G W2.G→Ext Wb W2→O W2 D s→R W2.G a v→(f a s).OkE Er (fun s'=>∀W',Same W2.G W'.G→Ext Wb W'→O W' D s'→M W'.H)→g v σ W2.H fun σ2 H2=>Keep σ σ2∧tf σ2 H2 fun b H3=>if b=true then t D σ2 H3 M else M H3)
  (mono:∀W W' s,Ext W W'→O W D s→O W' D s)
  (k:(bE f xs s0).OkE Er fun s'=>∀W',Same W.G W'.G→Ext Wb W'→O W' D s'→N W'.H):pE g tf t D σ W1.H N J:=by
 have hs1:Same W.G W1.G:=h0.elim (fun e=>e.g) id
 refine⟨fun i n H=>n=xs.length- i∧i≤xs.length∧∃(W3:Wd) (s:S),W3.H=H∧Same W.G W3.G∧Ext Wb W3∧O W3 D s∧(bE f (xs.drop i) s).OkE Er fun s'=>∀W',Same W.G W'.G→Ext Wb W'→O W' D s'→N W'.H,⟨xs.length,by simp,by simp,W1,s0,rfl,hs1,eb,o,by simpa using k⟩,?_⟩
 rintro i n H ⟨rfl,hi1,W3,s,rfl,e3,eb3,o3,q⟩
 by_cases hlt:i< xs.length
 ·obtain⟨a,ha⟩:∃a,xs[i]? =some a:=⟨xs[i],by simp[hlt]⟩
  obtain⟨h1,h2⟩:=(hy W3 e3).1 i a ha
  refine .inr ⟨h1,fun H'=>∃(W3:Wd) (s:S),W3.H=H'∧Same W.G W3.G∧Ext Wb W3∧O W3 D s∧(bE f (xs.drop (i+1)) s).OkE Er fun s'=>∀W',Same W.G W'.G→Ext Wb W'→O W' D s'→N W'.H,fun H' z=>⟨xs.length- (i+1),by omega,rfl,hlt,z⟩,fun x H' hx=>?_⟩
  obtain⟨W4,rfl,e4,rx⟩:=h2 x H' hx
  rw[jz ha]at q
  exact hs W4 a x s _ (e3.trans e4.g) (eb3.trans e4) (mono _ _ _ e4 o3) rx ((zj q).imp fun s' ks W' z1 z2 z3=>⟨W',s',rfl,(e3.trans e4.g).trans z1,z2,z3,ks⟩)
 ·have e:i=xs.length:=by omega
  subst e
  rw[C2]at q
  exact .inl ⟨(hy W3 e3).2,q W3 e3 eb3 o3⟩
theorem vQ {R:Rp α} {wi:TI} {g:TG} {tf:TT} {t:TB} {mi:Res (List α)} {f:α→S→Res S} {D:Addr} (eb:Ext Wb W) (hi:IV Er wi σ W R mi) (mono:∀W W' s,Ext W W'→O W D s→O W' D s)
  (hs:∀W2 a v s (M:Hp→Prop),Same W.G W2.G→Ext Wb W2→O W2 D s→R W2.G a v→(f a s).OkE Er (fun s'=>∀W',Same W2.G W'.G→Ext Wb W'→O W' D s'→M W'.H)→g v σ W2.H fun σ2 H2=>Keep σ σ2∧tf σ2 H2 fun b H3=>if b=true then t D σ2 H3 M else M H3):
  BV Er (vO wi g tf t) σ Wb W O D (fun s=>mi.bind fun xs=>bE f xs s):=fun W1 s N e1 o k=>
 hi W1 e1 _ ((zj k).imp fun xs kx J W2 e2 hy=>kw (W:=W2) (Wb:=Wb) hy (.inl (.refl _)) ((eb.trans e1).trans e2) (mono _ _ _ e2 o) (fun W3 a v s M e3 eb3 o3 r k3=>hs W3 a v s M ((e1.trans e2).g.trans e3) eb3 o3 r k3) mono (kx.imp fun s' ks W' z1 z2 z3=>ks W' (e2.g.trans z1) z2 z3))
end
end Wb
namespace Mi
end Mi
namespace Wb
open PySem L2 Mi
end Wb
namespace Mi
end Mi
namespace Wb
open PySem L2 Mi
section
open PyProof PyProof.Rows
variable {X:Cx} {pos:Pos}
end
end Wb
namespace Mi
end Mi
namespace Wb
open PySem L2 Mi
end Wb
namespace Mi
end Mi
namespace Wb
open PySem L2 Mi
end Wb
namespace L2
open PySem PySem.Spec PyProof.Rows
end L2
namespace L2
open PySem PySem.Spec PyProof.Rows Builtin Builtin.ObjectAttr
open PySem.W (findIn findObj mroIn looks_findIn looks_find looks_mroIn looks_clsIn clsIn Frag InstAt Looks)
end L2
namespace L2
open PySem PySem.Spec PySem.Calls PyProof.Rows
open PySem.W (findIn findObj mroIn looks_findIn looks_find looks_mroIn class_get KitX clsIn Frag InstAt lookIn)
def XO (a:Addr) (o:Obj):HO:=.ext fun h=>h.get? a=some o
section
variable {P:zL} {w:zQ} {H:Hp} {h:Heap} {a d:Addr} {o:Obj} {fs:List (Str×V)} {mA:Str→Option zl}
theorem XO.ok (e:h.get? a=some o):ObjOk P w H h a (XO a o):=⟨e,⟨_,e⟩,fun _ _ p k=>k _ p⟩
end
end L2
open L2.XO renaming ok→HC
namespace L2
open PySem PySem.Spec PySem.Calls PyProof.Rows
open PySem.W (findIn findObj clsIn Frag InstAt lookIn)
end L2
namespace Mi
end Mi
namespace Wb
open PySem L2 Mi
end Wb
namespace Mi
end Mi
namespace L2
open PySem PySem.Spec PyProof.Rows PySem.SeqAt PySem.AutoSeq1 PySem.MeetsSeq
end L2
namespace Wb
open PySem L2 Mi
section
variable {Er:Nat→Prop} {ta tb:TE} {σ:St} {W:Wd} {K:PySem.W.Frag} {m:Res (Tx×Tx×Tx)} {mb:Res Tx}
theorem rg (ha:EV Er ta σ W (sh (isT3 K isS isS isS)) m):EVo Er (dv (fun xs H Q=>∃p ys,xs=[.ref p]∧(SqL K H p ys∨SqT K H p ys)∧∀l,H l=none→Q (.ref l) (cA H l (.lst ys))) (am ta aU)) σ W isS (m.bind fun x=>.ok [x.1,x.2.1,x.2.2]):=fun W1 e1 Q k=>
 ha W1 e1 _ ((zj k).imp fun x kx v W2 e2 hx=>by
  obtain⟨p,x1,x2,x3,rfl,ht,h1,h2,h3⟩:=hx
  refine⟨p,_,rfl,.inr (AZ W2.ok ht),fun l hl=>kx l (W2.mut l (.lst [x1,x2,x3]) (W2.gnone hl)) (e2.trans (.own _ hl)) (aT e2.h hl) ⟨W2.gnone hl,_,aI,rfl,fun i v y q1 q2=>?_⟩⟩
  match i,q1,q2 with
  | 0,q1,q2=>cases q1;cases q2;exact h1
  | 1,q1,q2=>cases q1;cases q2;exact h2
  | 2,q1,q2=>cases q1;cases q2;exact h3)
end
end Wb
namespace Mi
def vR (a b:Int×Int):Bool:=decide (a.1< b.1) || (decide (a.1=b.1) && decide (a.2≤b.2))
theorem ie {a b:Int×Int} :vR a b=true↔a.1< b.1∨(a.1=b.1∧a.2≤b.2):=by unfold vR;simp
def dL (xs:List (Int×Int)):List (Int×Int):=xs.mergeSort vR
theorem dl (xs:List (Int×Int)):(dL xs).Perm xs:=F3 _ _
theorem iR (xs:List (Int×Int)):(dL xs).Pairwise (fun a b=>vR a b=true):=
 Ei (le:=vR) (fun a b c h1 h2=>by rw[ie]at *;omega) (fun a b=>by simp only[Cg,ie];omega) xs
theorem iS {xs ys:List (Int×Int)} (h:ys.Perm xs) (hs:ys.Pairwise (fun a b=>vR a b=true)):ys=dL xs:=
 E8 (le:=fun a b=>vR a b=true) (fun a b _ _ h1 h2=>by rw[ie]at *;exact DI (by omega) (by omega)) hs (iR xs) (h.trans (dl xs).symm)
def ly (ks:List (Int×Int)) (k:Int×Int):Res (List (Int×Int)):=dQ (ks.length< 1000) (if k∈ks then ks else k::ks)
def rh (ks:List (Int×Int)):Res (List (Int×Int)):=dQ (ks.length≤1000) (dL ks)
end Mi
namespace Wb
open PySem
theorem iT {xs:Array Nat} {j:Nat} (up:∀a b,a< b→b< xs.size→xs.getD a 0< xs.getD b 0):∀(f lo hi:Nat),hi- lo≤f→lo≤hi→hi≤xs.size→(∀a,a< lo→xs.getD a 0< j)→(∀a,hi≤a→a< xs.size→j≤xs.getD a 0)→
  Cn xs j f lo hi≤xs.size∧(∀a,a< Cn xs j f lo hi→xs.getD a 0< j)∧(∀a,Cn xs j f lo hi≤a→a< xs.size→j≤xs.getD a 0)
 | 0, lo, hi, h, hl, hs, h1, h2 => by
  unfold Cn
  exact⟨by omega,h1,fun a ha=>h2 a (by omega)⟩
 | f + 1, lo, hi, h, hl, hs, h1, h2 => by
  unfold Cn
  by_cases z:lo< hi
  ·rw[if_pos z]
   have hm:(lo+hi)/ 2< hi:=by omega
   have hm2:lo≤(lo+hi)/ 2:=by omega
   have e:∀d d':Nat,xs.getD ((lo+hi)/ 2) d=xs.getD ((lo+hi)/ 2) d':=fun d d'=>by
    simp[Bx,show(lo+hi)/ 2< xs.size by omega]
   dsimp only
   generalize hM:(lo+hi)/ 2=m at*
   by_cases y:xs.getD m j< j
   ·rw[if_pos y]
    refine iT up f (m+1) hi (by omega) (by omega) hs (fun a ha=>?_) h2
    by_cases q:a=m
    ·subst q;rw[e 0 j];exact y
    ·have:=up a m (by omega) (by omega)
     rw[e 0 j]at this
     omega
   ·rw[if_neg y]
    refine iT up f lo m (by omega) hm2 (by omega) h1 (fun a ha hb=>?_)
    by_cases q:a=m
    ·subst q;rw[e 0 j];omega
    ·have:=up m a (by omega) hb
     rw[e 0 j]at this
     omega
  ·rw[if_neg z]
   exact⟨by omega,h1,fun a ha=>h2 a (by omega)⟩
def Up (xs:Array Nat):Prop:=∀a b,a< b→b< xs.size→xs.getD a 0< xs.getD b 0
theorem gr {xs:Array Nat} (up:Up xs) (j:Nat):AF xs j≤xs.size∧(∀a,a< AF xs j→xs.getD a 0< j)∧(∀a,AF xs j≤a→a< xs.size→j≤xs.getD a 0):=by
 unfold AF
 exact iT up xs.size 0 xs.size (by omega) (by omega) (by omega) (fun a ha=>by omega) (fun a ha hb=>by omega)
abbrev Pr:=SetTable.Probe
def eX (mask:Nat) (p:Pr):Pr:=if p.more> 0 then {p with j:=p.j+1,more:=p.more- 1} else {p with j:=(A1 mask p.i p.perturb).1,more:=Aa mask (A1 mask p.i p.perturb).1- (A1 mask p.i p.perturb).1,i:=(A1 mask p.i p.perturb).1,perturb:=(A1 mask p.i p.perturb).2}
theorem iU (t:AG) (p:Pr):t.advance p=eX t.mask p:=by unfold SetTable.advance eX;rfl
def itM (mask:Nat):Nat→Pr→Pr
 | 0,p=>p
 | n+1,p=>itM mask n (eX mask p)
theorem dM (mask:Nat):∀(a b:Nat) (p:Pr),itM mask (a+b) p=itM mask b (itM mask a p)
 | 0,b,p=>by rw[BM];rfl
 | a+1,b,p=>by rw[show a+1+b=(a+b)+1 by omega];exact dM mask a b (eX mask p)
theorem rj (mask n:Nat) (p:Pr):itM mask (n+1) p=eX mask (itM mask n p):=by rw[dM];rfl
def qh (mask i pt:Nat):Pr:={j:=i,more:=Aa mask i- i,i,perturb:=pt,dummy:=none}
theorem ig (mask:Nat):∀(n:Nat) (p:Pr),p.more=n→p.dummy=none→itM mask (n+1) p=qh mask (A1 mask p.i p.perturb).1 (A1 mask p.i p.perturb).2
 | 0, p, h, hd => by
  show eX mask p=_
  unfold eX qh
  rw[if_neg (by omega)]
  cases p;simp at hd;subst hd;rfl
 | n + 1, p, h, hd => by
  show itM mask (n+1) (eX mask p)=_
  have e:eX mask p={p with j:=p.j+1,more:=p.more- 1} :=by unfold eX;rw[if_pos (by omega)]
  rw[e]
  exact ig mask n _ (by show p.more- 1=n;omega) hd
theorem nY (mask i:Nat):Aa mask i- i≤9:=by unfold Aa;split <;> omega
def kP (mask:Nat):Nat→Nat×Nat→Nat×Nat
 | 0,x=>x
 | n+1,x=>kP mask n (A1 mask x.1 x.2)
theorem rk (mask:Nat):∀(n i pt:Nat),∃k,k≤10*n∧itM mask k (qh mask i pt)=qh mask (kP mask n (i,pt)).1 (kP mask n (i,pt)).2
 | 0,i,pt=>⟨0,by omega,rfl⟩
 | n + 1, i, pt => by
  obtain⟨k,hk,e⟩:=rk mask n (A1 mask i pt).1 (A1 mask i pt).2
  have r:=ig mask _ (qh mask i pt) rfl rfl
  have m:=nY mask i
  refine⟨(qh mask i pt).more+1+k,?_,?_⟩
  ·have:(qh mask i pt).more≤9:=m
   omega
  ·rw[dM,r]
   exact e
theorem nZ (mask:Nat):∀(a b:Nat) (x:Nat×Nat),kP mask (a+b) x=kP mask b (kP mask a x)
 | 0,b,x=>by rw[BM];rfl
 | a+1,b,x=>by rw[show a+1+b=(a+b)+1 by omega];exact nZ mask a b _
theorem rl (mask:Nat):∀(n:Nat) (x:Nat×Nat),(kP mask n x).2=x.2/ 32^n
 | 0,x=>by simp[kP]
 | n + 1, x => by
  show(kP mask n (A1 mask x.1 x.2)).2=_
  rw[rl mask n]
  show x.2/ 32/ 32^n=_
  rw[Eu,Nat.pow_succ,Nat.mul_comm]
theorem vS (mask:Nat):∀(n:Nat) (x:Nat×Nat),x.1≤mask→(kP mask n x).1≤mask
 | 0,x,h=>h
 | n+1,x,h=>vS mask n _ (by show(x.1*5+1+x.2/ 32)% (mask+1)≤mask;have:=DJ (x.1*5+1+x.2/ 32) (show 0< mask+1 by omega);omega)
def sT (mask:Nat):Nat→Nat→Nat
 | 0,i=>i
 | n+1,i=>sT mask n ((i*5+1)% (mask+1))
theorem rm (mask:Nat):∀(n i:Nat),kP mask n (i,0)=(sT mask n i,0)
 | 0,i=>rfl
 | n + 1, i => by
  show kP mask n (A1 mask i 0)=_
  rw[show A1 mask i 0=((i*5+1)% (mask+1),0) by simp[A1],rm mask n];rfl
theorem ii (mask:Nat):∀(a b i:Nat),sT mask (a+b) i=sT mask b (sT mask a i)
 | 0,b,i=>by rw[BM];rfl
 | a+1,b,i=>by rw[show a+1+b=(a+b)+1 by omega];exact ii mask a b _
def isMask (m:Nat):Prop:=m=7∨m=31∨m=127∨m=511∨m=2047
def wq (m:Nat):Nat→Nat→Nat→Nat
 | 0,_,acc=>acc
 | n+1,i,acc=>wq m n ((i*5+1)% (m+1)) (acc ||| 2^i)
theorem o0 (m:Nat):∀(n i acc e:Nat),(wq m n i acc).testBit e=true→acc.testBit e=true∨∃k,k< n∧sT m k i=e
 | 0,i,acc,e,h=>.inl h
 | n + 1, i, acc, e, h => by
  rcases o0 m n _ _ e h with q | ⟨k,hk,q⟩
  ·rw[Nat.testBit_or,Cg]at q
   rcases q with q | q
   ·exact .inl q
   ·rw[Nat.testBit_two_pow,decide_eq_true_eq]at q
    exact .inr ⟨0,by omega,q⟩
  ·exact .inr ⟨k+1,by omega,q⟩
theorem yl {m:Nat} (h:isMask m):(∀e,e< m+1→∃k,k< m+1∧sT m k 0=e)∧sT m (m+1) 0=0:=by
 have key:∀m,wq m (m+1) 0 0=2^(m+1)- 1→∀e,e< m+1→∃k,k< m+1∧sT m k 0=e:=fun m hv e he=>by
  have hb:(wq m (m+1) 0 0).testBit e=true:=by rw[hv,Nat.testBit_two_pow_sub_one];simpa using he
  rcases o0 m _ _ _ e hb with q | q
  ·simp at q
  ·exact q
 rcases h with rfl | rfl | rfl | rfl | rfl
 ·exact⟨key 7 (by decide +kernel),by decide +kernel⟩
 ·exact⟨key 31 (by decide +kernel),by decide +kernel⟩
 ·exact⟨key 127 (by decide +kernel),by decide +kernel⟩
 ·exact⟨key 511 (by decide +kernel),by decide +kernel⟩
 ·exact⟨key 2047 (by decide +kernel),by decide +kernel⟩
theorem rn {m:Nat} (h:isMask m) {i e:Nat} (hi:i≤m) (he:e≤m):∃n,n≤m∧sT m n i=e:=by
 obtain⟨h1,h2⟩:=yl h
 obtain⟨a,ha,ea⟩:=h1 i (by omega)
 obtain⟨b,hb,eb⟩:=h1 e (by omega)
 by_cases z:a≤b
 ·refine⟨b- a,by omega,?_⟩
  rw[←ea,←ii,show a+(b- a)=b by omega,eb]
 ·refine⟨m+1- a+b,by omega,?_⟩
  rw[←ea,←ii,show a+(m+1- a+b)=(m+1)+b by omega,ii,h2,eb]
theorem wZ {m:Nat} (h:isMask m) {p:Pr} (hd:p.dummy=none) (hm:p.more≤9) (hp:p.perturb< 2^64) {e:Nat} (he:e≤m):∃k,k< 10*AR m∧(itM m k p).j=e:=by
 have r:=ig m p.more p rfl hd
 obtain⟨k1,hk1,e1⟩:=rk m 12 (A1 m p.i p.perturb).1 (A1 m p.i p.perturb).2
 have z:(kP m 12 ((A1 m p.i p.perturb).1,(A1 m p.i p.perturb).2)).2=0:=by
  rw[rl]
  show p.perturb/ 32/ 32^12=0
  rw[Eu]
  exact FT (by omega)
 have i0:(A1 m p.i p.perturb).1≤m:=by
  show(p.i*5+1+p.perturb/ 32)% (m+1)≤m
  have:=DJ (p.i*5+1+p.perturb/ 32) (show 0< m+1 by omega);omega
 have i1:=vS m 12 ((A1 m p.i p.perturb).1,(A1 m p.i p.perturb).2) i0
 rw[z]at e1
 generalize (kP m 12 ((A1 m p.i p.perturb).1,(A1 m p.i p.perturb).2)).1=i at*
 obtain⟨n,hn,en⟩:=rn h i1 he
 obtain⟨k2,hk2,e2⟩:=rk m n i 0
 rw[rm,en]at e2
 refine⟨p.more+1+k1+k2,?_,?_⟩
 ·unfold AR;omega
 ·rw[dM,dM,r,e1,e2];rfl
def InP (xs:Array Nat) (j:Nat):Prop:=∃a,a< xs.size∧xs.getD a 0=j
theorem lA {xs:Array Nat} {a:Nat} (h:a< xs.size):xs[a]? =some (xs.getD a 0):=by simp[Bx,h]
theorem fw {xs:Array Nat} (up:Up xs) {a:Nat} (h:a< xs.size):AF xs (xs.getD a 0)=a:=by
 obtain⟨h0,h1,h2⟩:=gr up (xs.getD a 0)
 generalize AF xs (xs.getD a 0)=b at*
 by_cases z:a< b
 ·have:=h1 a z;omega
 ·by_cases y:b< a
  ·have:=up b a y h
   have:=h2 b (by omega) (by omega)
   omega
  ·omega
theorem pG {xs:Array Nat} (up:Up xs) {j:Nat} (h:¬InP xs j):(xs[AF xs j]? == some j)=false:=by
 obtain⟨h0,h1,h2⟩:=gr up j
 by_cases z:AF xs j< xs.size
 ·rw[lA z]
  rw[beq_eq_false_iff_ne]
  intro e
  injection e with e
  exact h ⟨_,z,e⟩
 ·rw[Cb (by omega)];rfl
structure Tp (t:AG) (hs:List Int):Prop where
 dm:t.dummies= #[]
 sz:t.place.size=hs.length
 up:Up t.place
 le:∀j,InP t.place j→j≤t.mask
 msk:isMask t.mask
 reach:∀i h,hs[i]? =some h→∃k,(itM t.mask k (t.probeStart h)).j=t.place.getD i 0∧∀k',k'< k→InP t.place (itM t.mask k' (t.probeStart h)).j
structure Tb (t:AG) (hs:List Int):Prop extends Tp t hs where
 room:hs.length*5< t.mask*3
section
variable {t:AG} {hs:List Int}
theorem Tb.live (T:Tb t hs) {i:Nat} (h:i< t.place.size):t.slot (t.place.getD i 0)=.live i:=by
 unfold Gy
 dsimp only
 rw[fw T.up h,lA h]
 simp
theorem Tb.empty (T:Tb t hs) {j:Nat} (h:¬InP t.place j):t.slot j=.empty:=by
 unfold Gy
 dsimp only
 rw[if_neg (by rw[pG T.up h];decide)]
 unfold FC
 rw[T.dm]
 rfl
theorem rp (t:AG) (h:Int):(t.probeStart h).dummy=none∧(t.probeStart h).more≤9∧(t.probeStart h).perturb< 2^64:=by
 refine⟨rfl,nY _ _,?_⟩
 show(h% (2^64:Int)).toNat< 2^64
 omega
theorem vT {xs:Array Nat} (up:Up xs) {m:Nat} (h:xs.size≤m):∃j,j≤m∧¬InP xs j:=by
 have base:∀n,n≤xs.size→(∀j,j< n→InP xs j)→∀a,a< n→xs.getD a 0=a:=by
  intro n hn hin a
  induction a using Ga with
  | _ a ih =>
   intro ha
   obtain⟨b,hb,eb⟩:=hin a ha
   have lo:∀a,a< xs.size→a≤xs.getD a 0:=by
    intro a
    induction a with
    | zero=>intro _;omega
    | succ a ih=>intro h;have:=ih (by omega);have:=up a (a+1) (by omega) h;omega
   have:=lo b hb
   by_cases z:b=a
   ·rw[←z];rw[z]at eb;rw[z];exact eb
   ·have:=ih b (by omega) (by omega)
    omega
 by_cases hall:∀j,j< xs.size→InP xs j
 ·refine⟨xs.size,h,fun⟨a,ha,ea⟩=>?_⟩
  have:=base xs.size (by omega) hall a ha
  omega
 ·have ⟨j,hj⟩:=Dk.mp hall
  have ⟨h1,h2⟩:=DY.mp hj
  exact⟨j,by omega,h2⟩
theorem Tb.gap (T:Tb t hs) {p:Pr} (hp:p.dummy=none∧p.more≤9∧p.perturb< 2^64):∃k,k< 10*AR t.mask∧¬InP t.place (itM t.mask k p).j∧∀k',k'< k→InP t.place (itM t.mask k' p).j:=by
 obtain⟨e,he,hn⟩:=vT T.up (m:=t.mask) (by have:=T.sz;have:=T.room;omega)
 obtain⟨k,hk,ek⟩:=wZ T.msk hp.1 hp.2.1 hp.2.2 he
 rw[←ek]at hn
 clear ek
 induction k using Ga with
 | _ k ih =>
  by_cases z:∀k',k'< k→InP t.place (itM t.mask k' p).j
  ·exact⟨k,hk,hn,z⟩
  ·have ⟨k',h'⟩:=Dk.mp z
   have ⟨h1,h2⟩:=DY.mp h'
   exact ih k' h1 h2 (by omega)
theorem Tb.go (T:Tb t hs) {hashAt:Nat→Int} (hA:∀i h,hs[i]? =some h→hashAt i=h) (h:Int):∀(E fuel:Nat) (p:Pr),p.dummy=none→E< fuel→¬InP t.place (itM t.mask E p).j→(∀k',k'< E→InP t.place (itM t.mask k' p).j)→
  (∃k i,k< E∧i< hs.length∧t.place.getD i 0=(itM t.mask k p).j∧hs[i]? =some h∧Co t hashAt h fuel p=some (.candidate (itM t.mask k p).j i (itM t.mask (k+1) p))∧∀k',k'< k→∀i,t.place.getD i 0=(itM t.mask k' p).j→i< hs.length→hs[i]? ≠some h)∨
  (Co t hashAt h fuel p=some (.empty (itM t.mask E p).j none)∧∀k',k'< E→∀i,t.place.getD i 0=(itM t.mask k' p).j→i< hs.length→hs[i]? ≠some h)
 | 0, fuel + 1, p, hd, hf, hn, ha => by
  refine .inr ⟨?_,fun k' hk=>absurd hk (by omega)⟩
  unfold Co
  rw[T.empty (j:=p.j) hn,hd]
  rfl
 | E + 1, fuel + 1, p, hd, hf, hn, ha => by
  obtain⟨a,h1,h2⟩:=ha 0 (by omega)
  have h2':t.place.getD a 0=p.j:=h2
  have one:∀i,t.place.getD i 0=p.j→i< hs.length→i=a:=fun i hi hl=>by
   have hi':i< t.place.size:=by have:=T.sz;omega
   rw[←fw T.up hi',hi,←h2',fw T.up h1]
  unfold Co
  rw[←h2',T.live h1]
  dsimp only
  have hl:a< hs.length:=by have:=T.sz;omega
  by_cases z:hashAt a=h
  ·refine .inl ⟨0,a,by omega,hl,h2,?_,?_,fun k' hk=>absurd hk (by omega)⟩
   ·have e:=hA a hs[a] (zu hl)
    rw[zu hl,←e,z]
   ·rw[if_pos (by simpa using z),iU,h2']
    rfl
  ·rw[if_neg (by simpa using z),iU]
   have hne:∀i,t.place.getD i 0=p.j→i< hs.length→hs[i]? ≠some h:=fun i hi hl' e=>z (by rw[one i hi hl']at e;exact hA a h e)
   have hd':(eX t.mask p).dummy=none:=by unfold eX;split <;> exact hd
   rcases Tb.go T hA h E fuel (eX t.mask p) hd' (by omega) hn (fun k' hk=>ha (k'+1) (by omega))with⟨k,i,g1,g2,g3,g4,g5,g6⟩ | ⟨g1,g2⟩
   ·refine .inl ⟨k+1,i,by omega,g2,g3,g4,g5,fun k' hk=>?_⟩
    cases k' with
    | zero=>exact hne
    | succ k'=>exact g6 k' (by omega)
   ·refine .inr ⟨g1,fun k' hk=>?_⟩
    cases k' with
    | zero=>exact hne
    | succ k'=>exact g2 k' (by omega)
theorem iV {α:Type} (xs:Array α) (p:Nat) (x:α):(AN xs p x).toList=xs.toList.take p++x::xs.toList.drop p:=by
 unfold AN
 simp[Ae,Bw,Ca]
theorem dC {α:Type} (xs:Array α) {p:Nat} (h:p≤xs.size) (x:α):(AN xs p x).size=xs.size+1:=by
 rw[←A4,iV]
 simp;omega
theorem tU {α:Type} (xs:Array α) {p:Nat} (h:p≤xs.size) (x:α) (a:Nat):(AN xs p x)[a]? =if a< p then xs[a]? else if a=p then some x else xs[a- 1]? :=by
 rw[←zC,iV]
 by_cases z:a< p
 ·rw[if_pos z,zT (by simp;omega),Ag z,zC]
 ·rw[if_neg z,zN (by simp;omega)]
  have hl:(List.take p xs.toList).length=p:=by simp;omega
  rw[hl]
  by_cases y:a=p
  ·rw[if_pos y,y];simp
  ·rw[if_neg y,show a- p=(a- p- 1)+1 by omega,AO,Ar,zC]
   congr 1;omega
theorem gu (xs:Array Nat) {p:Nat} (h:p≤xs.size) (x:Nat) (a:Nat):(AN xs p x).getD a 0=if a< p then xs.getD a 0 else if a=p then x else xs.getD (a- 1) 0:=by
 rw[Ab,tU xs h]
 split
 ·rw[Ab]
 ·split
  ·rfl
  ·rw[Ab]
theorem o6 {xs:Array Nat} {p:Nat} (h:p≤xs.size) {x j:Nat} :InP (AN xs p x) j↔j=x∨InP xs j:=by
 constructor
 ·rintro ⟨a,ha,e⟩
  rw[dC xs h]at ha
  rw[gu xs h]at e
  by_cases z:a< p
  ·rw[if_pos z]at e;exact .inr ⟨a,by omega,e⟩
  ·rw[if_neg z]at e
   by_cases y:a=p
   ·rw[if_pos y]at e;exact .inl e.symm
   ·rw[if_neg y]at e;exact .inr ⟨a- 1,by omega,e⟩
 ·rintro (rfl | ⟨a,ha,e⟩)
  ·exact⟨p,by rw[dC xs h];omega,by rw[gu xs h,if_neg (by omega),if_pos rfl]⟩
  ·by_cases z:a< p
   ·exact⟨a,by rw[dC xs h];omega,by rw[gu xs h,if_pos z,e]⟩
   ·exact⟨a+1,by rw[dC xs h];omega,by rw[gu xs h,if_neg (by omega),if_neg (by omega)];exact e⟩
theorem Tb.put (T:Tb t hs) {h:Int} {E:Nat} (hn:¬InP t.place (itM t.mask E (t.probeStart h)).j) (hj:(itM t.mask E (t.probeStart h)).j≤t.mask) (ha:∀k',k'< E→InP t.place (itM t.mask k' (t.probeStart h)).j):
  (t.put (itM t.mask E (t.probeStart h)).j).2≤hs.length∧(t.put (itM t.mask E (t.probeStart h)).j).1.mask=t.mask∧Tp (t.put (itM t.mask E (t.probeStart h)).j).1 (hs.take (t.put (itM t.mask E (t.probeStart h)).j).2++h::hs.drop (t.put (itM t.mask E (t.probeStart h)).j).2):=by
 obtain⟨b0,b1,b2⟩:=gr T.up (itM t.mask E (t.probeStart h)).j
 generalize hJ:(itM t.mask E (t.probeStart h)).j=j at*
 have hp2:(t.put j).2=AF t.place j:=rfl
 have hpl:(t.put j).1.place=AN t.place (AF t.place j) j:=rfl
 have hmk:(t.put j).1.mask=t.mask:=rfl
 have hst:∀h,(t.put j).1.probeStart h=t.probeStart h:=fun _=>rfl
 have hsz:=T.sz
 generalize AF t.place j=p at*
 rw[hp2]
 refine⟨by omega,rfl,?_,?_,?_,?_,T.msk,?_⟩
 ·show(if FC t.dummies j then _ else t.dummies)= #[]
  unfold FC
  rw[T.dm]
  rfl
 ·rw[hpl,dC _ b0];simp;omega
 ·rw[hpl]
  intro a b hab hb
  rw[dC _ b0]at hb
  rw[gu _ b0,gu _ b0]
  have gt:∀a,p≤a→a< t.place.size→j< t.place.getD a 0:=fun a h1 h2=>by
   have:=b2 a h1 h2
   by_cases z:t.place.getD a 0=j
   ·exact absurd ⟨a,h2,z⟩ hn
   ·omega
  by_cases z1:a< p
  ·rw[if_pos z1]
   by_cases z2:b< p
   ·rw[if_pos z2];exact T.up a b hab (by omega)
   ·rw[if_neg z2]
    by_cases z3:b=p
    ·rw[if_pos z3];exact b1 a z1
    ·rw[if_neg z3]
     have:=b1 a z1
     have:=gt (b- 1) (by omega) (by omega)
     omega
  ·rw[if_neg z1,if_neg (show ¬b< p by omega),if_neg (show ¬b=p by omega)]
   by_cases z3:a=p
   ·rw[if_pos z3];exact gt (b- 1) (by omega) (by omega)
   ·rw[if_neg z3];exact T.up (a- 1) (b- 1) (by omega) (by omega)
 ·intro q hq
  rw[hpl,o6 b0]at hq
  rcases hq with rfl | hq
  ·exact hj
  ·exact T.le q hq
 ·intro i g hg
  rw[hmk,hst,hpl]
  have mono:∀q,InP t.place q→InP (AN t.place p j) q:=fun q hq=>(o6 b0).mpr (.inr hq)
  have hl:(hs.take p).length=p:=by simp;omega
  by_cases z1:i< p
  ·rw[zT (by omega),Ag z1]at hg
   obtain⟨k,ek,hk⟩:=T.reach i g hg
   exact⟨k,by rw[ek,gu _ b0,if_pos z1],fun k' h'=>mono _ (hk k' h')⟩
  ·rw[zN (by omega),hl]at hg
   by_cases z2:i=p
   ·rw[z2,CP,Bg]at hg
    cases hg
    exact⟨E,by rw[hJ,gu _ b0,if_neg z1,if_pos z2],fun k' h'=>mono _ (ha k' h')⟩
   ·rw[show i- p=(i- p- 1)+1 by omega,AO,Ar]at hg
    rw[show p+(i- p- 1)=i- 1 by omega]at hg
    obtain⟨k,ek,hk⟩:=T.reach (i- 1) g hg
    exact⟨k,by rw[ek,gu _ b0,if_neg z1,if_neg z2],fun k' h'=>mono _ (hk k' h')⟩
end
def Oc (ow:Array (Option Nat)) (j:Nat):Prop:=(ow.getD j (some 0)).isSome=true
theorem kA (m i pt:Nat):∀k,k≤Aa m i- i→itM m k (qh m i pt)={j:=i+k,more:=Aa m i- i- k,i:=i,perturb:=pt,dummy:=none}
 | 0,_=>rfl
 | k + 1, h => by
  rw[rj,kA m i pt k (by omega)]
  unfold eX
  rw[if_pos (by show Aa m i- i- k> 0;omega)]
  rfl
theorem pH (m i:Nat):i≤Aa m i:=by unfold Aa;split <;> omega
theorem o7 {m:Nat} (ow:Array (Option Nat)):∀(f i pt n:Nat),n< f→¬Oc ow (kP m n (i,pt)).1→
  ∃j E,Bm m ow f i pt=some j∧(itM m E (qh m i pt)).j=j∧¬Oc ow j∧∀k',k'< E→Oc ow (itM m k' (qh m i pt)).j
 | 0,_,_,_,h,_=>absurd h (by omega)
 | f + 1, i, pt, n, h, hn => by
  have hr:=pH m i
  unfold Bm
  cases hf:(AD (Aa m i+1- i)).find? fun k=>(ow.getD (i+k) (some 0)).isNone with
  | some k =>
   have hk:=Cp.mp (List.mem_of_find?_eq_some hf)
   have hp:=List.find?_some hf
   have hb:=(List.find?_range_eq_some.mp hf).2.2
   refine⟨i+k,k,rfl,by rw[kA m i pt k (by omega)],?_,fun k' hk'=>?_⟩
   ·unfold Oc;simp at hp ⊢;exact hp
   ·rw[kA m i pt k' (by omega)]
    have:=hb k' hk'
    unfold Oc
    simpa using this
  | none =>
   have hall:=List.find?_eq_none.mp hf
   have occ:∀k,k≤Aa m i- i→Oc ow (i+k):=fun k hk=>by
    have:=hall k (Cp.mpr (by omega))
    unfold Oc
    cases q:ow.getD (i+k) (some 0)with
    | none=>rw[q]at this;exact absurd rfl this
    | some a=>rfl
   cases n with
   | zero=>exact absurd (occ 0 (by omega)) hn
   | succ n =>
    obtain⟨j,E,e1,e2,e3,e4⟩:=o7 ow f (A1 m i pt).1 (A1 m i pt).2 n (by omega) hn
    have r:=ig m (Aa m i- i) (qh m i pt) rfl rfl
    refine⟨j,(Aa m i- i)+1+E,e1,?_,e3,fun k' hk'=>?_⟩
    ·rw[dM,r];exact e2
    ·by_cases z:k'≤Aa m i- i
     ·rw[kA m i pt k' z];exact occ k' z
     ·rw[show k'=(Aa m i- i)+1+(k'- ((Aa m i- i)+1)) by omega,dM,r]
      exact e4 _ (by omega)
abbrev stM (m:Nat) (h:Int):Pr:=qh m (A8 h% (m+1)) (A8 h)
theorem tV (h:Int):A8 h< 2^64:=by show(h% (2^64:Int)).toNat< 2^64;omega
theorem tW {m:Nat} (hm:isMask m) (ow:Array (Option Nat)) (h:Int) {e:Nat} (he:e≤m) (hn:¬Oc ow e):
  ∃j E,Bm m ow (AR m) (A8 h% (m+1)) (A8 h)=some j∧(itM m E (stM m h)).j=j∧¬Oc ow j∧∀k',k'< E→Oc ow (itM m k' (stM m h)).j:=by
 have i0:A8 h% (m+1)≤m:=by have:=DJ (A8 h) (show 0< m+1 by omega);omega
 have z:(kP m 13 (A8 h% (m+1),A8 h)).2=0:=by
  rw[rl]
  exact FT (by have:=tV h;show A8 h< 32^13;omega)
 have i1:=vS m 13 (A8 h% (m+1),A8 h) i0
 obtain⟨n,hn',en⟩:=rn hm i1 he
 refine o7 ow _ _ _ (13+n) (by unfold AR;omega) ?_
 rw[nZ,show kP m 13 (A8 h% (m+1),A8 h)=((kP m 13 (A8 h% (m+1),A8 h)).1,0)from DI rfl z,rm,en]
 exact hn
structure Lay (m:Nat) (hs:List Int) (ow:Array (Option Nat)) (k:Nat):Prop where
 sz:ow.size=m+1
 cnt:ow.toList.countP F8=k
 inj:∀(j j' i:Nat),ow[j]? =some (some i)→ow[j']? =some (some i)→j=j'
 lt:∀(j i:Nat),ow[j]? =some (some i)→i< k
 reach:∀(j i:Nat) (h:Int),ow[j]? =some (some i)→hs[i]? =some h→∃n,(itM m n (stM m h)).j=j∧∀n',n'< n→Oc ow (itM m n' (stM m h)).j
theorem gv {ow:Array (Option Nat)} {j:Nat} (hj:j< ow.size):Oc ow j↔∃i,ow[j]? =some (some i):=by
 unfold Oc
 simp[Bx,hj]
 cases ow[j] <;> simp
theorem Lay.gap {m:Nat} {hs:List Int} {ow:Array (Option Nat)} {k:Nat} (L:Lay m hs ow k) (h:k≤m):∃e,e≤m∧¬Oc ow e:=by
 by_cases z:∀e,e≤m→Oc ow e
 ·exfalso
  have:ow.toList.countP F8=ow.toList.length:=List.countP_eq_length.mpr fun a ha=>by
   obtain⟨j,hj,e⟩:=Bu.mp ha
   have hj':j< ow.size:=by simpa using hj
   obtain⟨i,hi⟩:=(gv hj').mp (z j (by have:=L.sz;omega))
   rw[←e]
   have:ow.toList[j]=some i:=by
    have q:ow.toList[j]? =some (some i):=by rw[zC];exact hi
    rw[zu hj]at q
    injection q
   rw[this];rfl
  rw[L.cnt,A4,L.sz]at this
  omega
 ·have ⟨e,he⟩:=Dk.mp z
  have ⟨h1,h2⟩:=DY.mp he
  exact⟨e,h1,h2⟩
theorem x0 {ow:Array (Option Nat)} {j:Nat} (h:¬Oc ow j):j< ow.size:=by
 by_cases z:j< ow.size
 ·exact z
 ·exact absurd (by unfold Oc;simp[Bx,z]) h
theorem Lay.step {m:Nat} (hm:isMask m) {hs:List Int} {ow:Array (Option Nat)} {k:Nat} (L:Lay m hs ow k) (hk:k≤m) {h:Int} (hh:hs[k]? =some h):
  ∃j,Bm m ow (AR m) (A8 h% (m+1)) (A8 h)=some j∧Lay m hs (ow.setIfInBounds j (some k)) (k+1):=by
 obtain⟨e,he,hn⟩:=L.gap hk
 obtain⟨j,E,e1,e2,e3,e4⟩:=tW hm ow h he hn
 have hj:=x0 e3
 refine⟨j,e1,?_⟩
 have none_j:ow[j]? =some none:=by
  have:¬∃i,ow[j]? =some (some i):=fun z=>e3 ((gv hj).mpr z)
  rw[zM hj]at this ⊢
  cases q:ow[j]with
  | none=>rfl
  | some i=>exact absurd ⟨i,by rw[q]⟩ this
 have at_:∀q,(ow.setIfInBounds j (some k))[q]? =if q=j then some (some k)else ow[q]? :=fun q=>by
  rw[Array.getElem?_setIfInBounds]
  by_cases z:j=q
  ·subst z;simp[hj]
  ·rw[if_neg z,if_neg (Df z)]
 have oc:∀q,Oc ow q→Oc (ow.setIfInBounds j (some k)) q:=fun q hq=>by
  by_cases hs':q< ow.size
  ·obtain⟨i,hi⟩:=(gv hs').mp hq
   refine(gv (by simpa using hs')).mpr ?_
   rw[at_]
   by_cases z:q=j
   ·exact⟨k,by rw[if_pos z]⟩
   ·exact⟨i,by rw[if_neg z];exact hi⟩
  ·unfold Oc;simp[Bx,hs']
 refine⟨by simp[L.sz],?_,?_,?_,?_⟩
 ·have hj2:j< ow.toList.length:=by simpa using hj
  have q:ow.toList[j]=none:=by
   have:=none_j
   rw[←zC,zu hj2]at this
   injection this
  rw[Cq,List.countP_set hj2,q,L.cnt]
  simp
 ·intro a b i ha hb
  rw[at_]at ha hb
  by_cases z1:a=j
  ·rw[if_pos z1]at ha
   injection ha with ha;injection ha with ha
   by_cases z2:b=j
   ·rw[z1,z2]
   ·rw[if_neg z2]at hb
    have:=L.lt b i hb
    omega
  ·rw[if_neg z1]at ha
   by_cases z2:b=j
   ·rw[if_pos z2]at hb
    injection hb with hb;injection hb with hb
    have:=L.lt a i ha
    omega
   ·rw[if_neg z2]at hb
    exact L.inj a b i ha hb
 ·intro a i ha
  rw[at_]at ha
  by_cases z1:a=j
  ·rw[if_pos z1]at ha
   injection ha with ha;injection ha with ha
   omega
  ·rw[if_neg z1]at ha
   have:=L.lt a i ha
   omega
 ·intro a i g ha hg
  rw[at_]at ha
  by_cases z1:a=j
  ·rw[if_pos z1]at ha
   injection ha with ha;injection ha with ha
   subst ha
   rw[hh]at hg
   cases hg
   exact⟨E,by rw[z1];exact e2,fun n' h'=>oc _ (e4 n' h')⟩
  ·rw[if_neg z1]at ha
   obtain⟨n,q1,q2⟩:=L.reach a i g ha hg
   exact⟨n,q1,fun n' h'=>oc _ (q2 n' h')⟩
theorem pI (m:Nat) (hs:List Int):Lay m hs (EC (m+1) none) 0:=by
 have no:∀(j i:Nat),(EC (m+1) (none:Option Nat))[j]? =some (some i)→False:=fun j i h=>by
  rw[Array.getElem?_replicate]at h
  split at h <;> simp at h
 refine⟨by simp,?_,fun j j' i h _=>(no j i h).elim,fun j i h=>(no j i h).elim,fun j i _ h _=>(no j i h).elim⟩
 rw[Array.toList_replicate,List.countP_replicate]
 rfl
abbrev kB (m:Nat) (acc:Option (Array (Option Nat)×Nat)) (h:Int):Option (Array (Option Nat)×Nat):=do
 let (owner,k) ←acc
 let j ←Bm m owner (AR m) (A8 h% (m+1)) (A8 h)
 pure (owner.setIfInBounds j (some k),k+1)
theorem lB {m:Nat} (hm:isMask m) (hs:List Int):∀(r:List Int) (ow:Array (Option Nat)) (k:Nat),Lay m hs ow k→hs.drop k=r→hs.length≤m→k≤hs.length→∃ow',r.foldl (kB m) (some (ow,k))=some (ow',hs.length)∧Lay m hs ow' hs.length
 | [], ow, k, L, hd, hl, hk => by
  have:k=hs.length:=by
   have:=congrArg C7 hd
   simp at this
   omega
  subst this
  exact⟨ow,rfl,L⟩
 | h :: r, ow, k, L, hd, hl, hk => by
  have hk2:k< hs.length:=by
   have:=congrArg C7 hd
   simp at this
   omega
  have hh:hs[k]? =some h:=by
   have:(hs.drop k)[0]? =some h:=by rw[hd];rfl
   rw[Ar]at this
   exact this
  obtain⟨j,e,L'⟩:=L.step hm (by omega) hh
  have e':kB m (some (ow,k)) h=some (ow.setIfInBounds j (some k),k+1):=by
   show(Bm m ow (AR m) (A8 h% (m+1)) (A8 h)).bind _=_
   rw[e];rfl
  rw[Ez,e']
  exact lB hm hs r _ _ L' (by rw[←Gn,hd];rfl) hl (by omega)
theorem lC {m:Nat} (hm:isMask m) {hs:Array Int} (hl:hs.size≤m):∃ow,SetTable.layClean m hs=some ow∧Lay m hs.toList ow hs.size:=by
 obtain⟨ow,e,L⟩:=lB hm hs.toList hs.toList _ 0 (pI m hs.toList) rfl (by simpa using hl) (by simp)
 refine⟨ow,?_,by simpa using L⟩
 show Option.map (·.1) (hs.foldl (kB m) (some (EC (m+1) none,0)))=_
 rw[←Array.foldl_toList,e]
 rfl
abbrev cI (m:Nat) (ow:Array (Option Nat)):List (Nat×Nat):=(AD (m+1)).filterMap fun j=>(ow.getD j none).map (j, ·)
theorem eA {m:Nat} {ow:Array (Option Nat)} (hs:ow.size=m+1) {j i:Nat} :(j,i)∈cI m ow↔ow[j]? =some (some i):=by
 unfold cI
 rw[CG]
 constructor
 ·rintro ⟨q,hq,e⟩
  rw[Al]at e
  obtain⟨a,e1,e2⟩:=e
  injection e2 with e2 e3
  subst e2;subst e3
  have:=Cp.mp hq
  have hq':q< ow.size:=by omega
  simp[Bx,hq']at e1
  rw[zM hq',e1]
 ·intro h
  have hj:j< ow.size:=(Bn.mp h).1
  refine⟨j,Cp.mpr (by omega),?_⟩
  rw[Ab,h]
  rfl
theorem kC {f:Nat→Option Nat} :∀{l:List Nat},l.Pairwise (· < ·)→((l.filterMap fun j=>(f j).map (j, ·)).map (·.1)).Pairwise (· < ·)
 | [],_=>by simp
 | a :: l, h => by
  have ih:=kC (f:=f) (DK.mp h).2
  cases e:f a with
  | none=>simpa [e] using ih
  | some b =>
   rw[Ea (b:=(a,b)) (by rw[e];rfl),An]
   refine DK.mpr ⟨fun q hq=>?_,ih⟩
   obtain⟨x,hx,rfl⟩:=Ah.mp hq
   obtain⟨c,hc,e2⟩:=CG.mp hx
   rw[Al]at e2
   obtain⟨_,_,rfl⟩:=e2
   exact(DK.mp h).1 c hc
theorem rq {f:Nat→Option Nat} :∀(l:List Nat),(l.filterMap fun j=>(f j).map (j, ·)).length=(l.map f).countP F8
 | []=>rfl
 | a :: l => by
  have ih:=rq (f:=f) l
  cases e:f a with
  | none=>rw[List.filterMap_cons_none (by rw[e];rfl),ih];simp[e]
  | some b=>rw[Ea (b:=(a,b)) (by rw[e];rfl)];simp[e,ih]
theorem rA {m k:Nat} {hs:List Int} {ow:Array (Option Nat)} (L:Lay m hs ow k):(cI m ow).length=k:=by
 unfold cI
 rw[rq (f:=fun j=>ow.getD j none),←L.cnt]
 congr 1
 refine List.ext_getElem (by simp[L.sz]) fun i h1 h2=>?_
 simp at h1 h2
 simp[Bx,h2]
theorem rB:∀(n:Nat) (l:List Nat),l.Nodup→(∀x∈l,x< n)→l.length≤n
 | 0, l, _, h => by
  cases l with
  | nil=>simp
  | cons a l=>exact absurd (h a (zP ..)) (by omega)
 | n + 1, l, nd, h => by
  by_cases z:n∈l
  ·have:=rB n (l.erase n) (nd.erase n) fun x hx=>by
    have h1:=h x (D3 hx)
    have h2:x≠n:=fun e=>by subst e;exact(CA nd) hx
    omega
   rw[CB z]at this
   omega
  ·have:=rB n l nd fun x hx=>by
    have h1:=h x hx
    have h2:x≠n:=fun e=>z (e▸hx)
    omega
   omega
theorem o9:∀(n:Nat) (l:List Nat),l.Nodup→(∀x∈l,x< n)→l.length=n→l.Perm (AD n)
 | 0,l,_,_,h=>by rw[BZ.mp h];exact .refl _
 | n + 1, l, nd, h, hl => by
  have z:n∈l:=by
   by_cases z:n∈l
   ·exact z
   ·have:=rB n l nd fun x hx=>by
     have h1:=h x hx
     have h2:x≠n:=fun e=>z (e▸hx)
     omega
    omega
  have:=o9 n (l.erase n) (nd.erase n) (fun x hx=>by
    have h1:=h x (D3 hx)
    have h2:x≠n:=fun e=>by subst e;exact(CA nd) hx
    omega) (by rw[CB z];omega)
  rw[List.range_succ]
  exact(List.perm_cons_erase z).trans ((List.Perm.cons n this).trans (List.perm_append_singleton n _).symm)
theorem tX {l:List Nat} (h:l.Pairwise (· < ·)):Up l.toArray:=fun a b hab hb=>by
 have hb':b< l.length:=by simpa using hb
 have:=Bp.mp h a b (by omega) hb' hab
 simpa [Bx,show a< l.length by omega,hb'] using this
theorem jC {m i:Nat} (h:i≤m):i+(Aa m i- i)≤m:=by unfold Aa;split <;> omega
theorem x4 {m:Nat} {p:Pr} (h:p.j+p.more≤m):(eX m p).j+(eX m p).more≤m:=by
 unfold eX
 split
 ·show p.j+1+(p.more- 1)≤m;omega
 ·refine jC ?_
  show(p.i*5+1+p.perturb/ 32)% (m+1)≤m
  have:=DJ (p.i*5+1+p.perturb/ 32) (show 0< m+1 by omega);omega
theorem x5 {m:Nat} :∀(n:Nat) {p:Pr},p.j+p.more≤m→(itM m n p).j+(itM m n p).more≤m
 | 0,_,h=>h
 | n+1,_,h=>x5 n (x4 h)
theorem uU {m:Nat} {h:Int} (n:Nat):(itM m n (stM m h)).j≤m:=by
 have:=x5 (m:=m) n (p:=stM m h) (jC (i:=A8 h% (m+1)) (by have:=DJ (A8 h) (show 0< m+1 by omega);omega))
 omega
theorem tY {m:Nat} (hm:isMask m) {hs:Array Int} (hl:hs.size≤m) (fi mo:Nat) (led plain:Bool):
  ∃t order,Gz m fi mo led plain hs=some (t,order)∧t.mask=m∧t.led=led∧t.plain=plain∧order.toList.Perm (AD hs.size)∧Tp t (order.toList.map fun i=>hs.toList.getD i 0):=by
 obtain⟨ow,e,L⟩:=lC hm hl
 refine⟨_,_,by unfold Gz;rw[e];rfl,rfl,rfl,rfl,?_,?_⟩
 ·show((cI m ow).map (·.2)).toArray.toList.Perm _
  have len:=rA L
  have inc:=kC (f:=fun j=>ow.getD j none) (Ew (n:=m+1))
  have nd1:((cI m ow).map (·.1)).Nodup:=inc.imp fun h=>zX h
  refine o9 hs.size _ ?_ (fun x hx=>?_) (by simpa using len)
  ·show((cI m ow).map (·.2)).Nodup
   rw[Aj,BN]
   rw[Aj,BN]at nd1
   refine nd1.imp_of_mem fun {a b} ha hb hne e=>hne ?_
   have h1:=(eA L.sz (j:=a.1) (i:=a.2)).mp ha
   have h2:=(eA L.sz (j:=b.1) (i:=b.2)).mp hb
   rw[←e]at h2
   exact L.inj _ _ _ h1 h2
  ·obtain⟨y,hy,rfl⟩:=Ah.mp (show x∈(cI m ow).map (·.2)from hx)
   exact L.lt _ _ ((eA L.sz (j:=y.1) (i:=y.2)).mp hy)
 ·have inc:=kC (f:=fun j=>ow.getD j none) (Ew (n:=m+1))
  have inp:∀j,InP ((cI m ow).map (·.1)).toArray j↔∃i,ow[j]? =some (some i):=fun j=>by
   constructor
   ·rintro ⟨a,ha,e⟩
    have ha':a< (cI m ow).length:=by simpa using ha
    have:((cI m ow)[a]).1=j:=by simpa [Bx,ha'] using e
    have mem:=BA ha'
    rw[←this]
    exact⟨_,(eA L.sz (j:=(cI m ow)[a].1) (i:=(cI m ow)[a].2)).mp mem⟩
   ·rintro ⟨i,hi⟩
    have mem:=(eA L.sz).mpr hi
    obtain⟨a,ha,e⟩:=Bu.mp mem
    exact⟨a,by simpa using ha,by simp[Bx,ha,e]⟩
  have ocp:∀j,j≤m→Oc ow j→InP ((cI m ow).map (·.1)).toArray j:=fun j hj h=>(inp j).mpr ((gv (by have:=L.sz;omega)).mp h)
  refine⟨rfl,?_,tX inc,?_,hm,?_⟩
  ·show((cI m ow).map (·.1)).toArray.size=(HB _ ((cI m ow).map (·.2)).toArray.toList).length
   simp
  ·intro j hj
   obtain⟨i,hi⟩:=(inp j).mp hj
   have:=(Bn.mp hi).1
   have:=L.sz
   show j≤m
   omega
  ·intro a h ha
   have ha2:((cI m ow)[a]?).map (fun y=>hs.toList.getD y.2 0)=some h:=by
    have:(((cI m ow).map (·.2)).map fun i=>hs.toList.getD i 0)[a]? =some h:=ha
    rw[BL,zA]at this
    exact this
   obtain⟨y,hy,e⟩:=Al.mp ha2
   have mem:=zW hy
   have at_:=(eA L.sz (j:=y.1) (i:=y.2)).mp mem
   have lt:=L.lt _ _ at_
   have hh:hs.toList[y.2]? =some h:=by
    have hlt:y.2< hs.toList.length:=by simpa using lt
    rw[Az,zu hlt]at e
    rw[zu hlt]
    exact congrArg some e
   obtain⟨n,q1,q2⟩:=L.reach _ _ _ at_ hh
   have hla:a< (cI m ow).length:=(zB.mp hy).1
   refine⟨n,?_,fun n' h'=>?_⟩
   ·show(itM m n (stM m h)).j=((cI m ow).map (·.1)).toArray.getD a 0
    rw[q1,Ab]
    simp only[List.getElem?_toArray,zA,hy]
    rfl
   ·refine ocp _ ?_ (q2 n' h')
    by_cases z:(itM m n' (stM m h)).j≤m
    ·exact z
    ·exfalso;exact z (uU n')
section
variable {prog:zL} {w:zQ} {K:Type} [DecidableEq K] {knd:KeyKind prog w K} {A:Ai} {E:zl→zq→Prop} {s:zq}
structure TupsOf (knd:KeyKind prog w K) (h:Heap) (es:List (Int×zl)) (ks:List (List K)):Prop where
 len:es.length=ks.length
 at_:∀(i:Nat) (e:Int×zl),es[i]? =some e→∃k b,ks[i]? =some k∧e.2=.ref b∧BE knd h k b∧e.1=tupleKeyHash knd k
theorem Tb.fits {t:AG} {es:Array (Int×zl)} (T:Tb t (es.toList.map (·.1))):t.fits es.size=true:=by
 have h1:=T.sz
 have h2:=T.room
 have h3:=T.dm
 simp at h1 h2
 unfold GA F9
 rw[h3]
 simp
 omega
theorem rC {m:Nat} (h:isMask m):(m% 2 == 0)=false:=by rcases h with rfl | rfl | rfl | rfl | rfl <;> rfl
theorem uV {m:Nat} :∀(k:Nat) {p:Pr},p.dummy=none→(itM m k p).dummy=none
 | 0,_,h=>h
 | k+1,p,h=>uV k (by unfold eX;split <;> exact h)
theorem mO {a x:Addr} {o:Obj} {es:Array (Int×zl)} {ep:Nat} {t:AG} {ks:List (List K)} {kx:List K} (hu:A.units< cLine) (ho:s.heap.get? a=some o) (hd:o.data=.set es ep t) (T:Tb t (es.toList.map (·.1))) (hk:TupsOf knd s.heap es.toList ks) (hx:BE knd s.heap kx x)
  (seen:∀(l:List zl) (Q:Bool→zq→Prop),(∀y∈l,∃e∈es.toList,y=e.2)→Q false s→wpAny (model prog w) A (searchCouldBeSeen (.ref x) l) Q E s) {Q:SetFound→zq→Prop} :
  ∀ (fuel G : Nat) (st : Option Pr), (st.getD (t.probeStart (tupleKeyHash knd kx))).dummy = none → G < fuel → G < 10 * AR t.mask → ¬ InP t.place (itM t.mask G (st.getD (t.probeStart (tupleKeyHash knd kx)))).j → (∀ k', k' < G → InP t.place (itM t.mask k' (st.getD (t.probeStart (tupleKeyHash knd kx)))).j) →
   ((∃k i,k< G∧t.place.getD i 0=(itM t.mask k (st.getD (t.probeStart (tupleKeyHash knd kx)))).j∧ks[i]? =some kx)→Q (.there none) s)→
   ((∀k i,k< G→t.place.getD i 0=(itM t.mask k (st.getD (t.probeStart (tupleKeyHash knd kx)))).j→i< es.size→ks[i]? ≠some kx)→Q (.free (itM t.mask G (st.getD (t.probeStart (tupleKeyHash knd kx)))).j false) s)→
   wpAny (model prog w) A (setSearchFrom a (.ref x) (tupleKeyHash knd kx) true fuel st) Q E s:=by
 intro fuel
 induction fuel with
 | zero=>intro G st _ h;exact absurd h (by omega)
 | succ fuel ih =>
  intro G st hdm hG hGt hn ha h1 h2
  unfold setSearchFrom
  refine zh (B7 ho hd T.fits ?_)
  dsimp only
  rw[if_neg (by unfold SetTable.gaveWay;rw[rC T.msk];decide)]
  generalize hp:st.getD (t.probeStart (tupleKeyHash knd kx))=p at*
  have hA:∀(i:Nat) (h:Int),(es.toList.map (·.1))[i]? =some h→(fun(i:Nat)=>(es[i]?.map (fun(e:Int×zl)=>e.1)).getD 0) i=h:=fun i h hh=>by
   rw[zA,zC]at hh
   show(es[i]?.map (fun(e:Int×zl)=>e.1)).getD 0=h
   rw[hh];rfl
  have go:=T.go hA (tupleKeyHash knd kx) G (10*AR t.mask) p hdm hGt hn ha
  have hpr:t.probe (fun(i:Nat)=>(es[i]?.map (fun(e:Int×zl)=>e.1)).getD 0) (tupleKeyHash knd kx) p=Co t (fun(i:Nat)=>(es[i]?.map (fun(e:Int×zl)=>e.1)).getD 0) (tupleKeyHash knd kx) (10*AR t.mask) p:=rfl
  rw[←hpr]at go
  rcases go with⟨k,i,g1,g2,g3,g4,g5,g6⟩ | ⟨g1,g2⟩
  ·have e:∀f,f=(fun(i:Nat)=>(es[i]?.map (fun(e:Int×zl)=>e.1)).getD 0)→t.probe f (tupleKeyHash knd kx) p=some (.candidate (itM t.mask k p).j i (itM t.mask (k+1) p)):=fun f hf=>by rw[hf];exact g5
   have hi:i< es.size:=by simpa using g2
   obtain⟨ky,b,q1,q2,q3,q4⟩:=hk.at_ i es[i] (by rw[zC,zM hi])
   have hei:es[i]? =some (es[i].1,.ref b):=by rw[zM hi,←q2]
   have key_ne:∀k' i',k'< k→t.place.getD i' 0=(itM t.mask k' p).j→i'< es.size→ks[i']? ≠some kx:=fun k' i' hk' hi' hl hq=>by
    have hl':i'< es.toList.length:=by simpa using hl
    obtain⟨kz,c,z1,z2,z3,z4⟩:=hk.at_ i' es.toList[i'] (zu hl')
    rw[z1]at hq
    cases hq
    refine g6 k' hk' i' hi' (by simpa using hl) ?_
    rw[zA,zu hl',←z4]
    rfl
   have one:∀i',t.place.getD i' 0=(itM t.mask k p).j→i'< es.size→i'=i:=fun i' hi' hl=>by
    have h1':i'< t.place.size:=by have:=T.sz;simp at this;omega
    have h2':i< t.place.size:=by have:=T.sz;simp at this;omega
    rw[←fw T.up h1',hi',←g3,fw T.up h2']
   have again:ky≠kx→wpAny (model prog w) A (setSearchFrom a (.ref x) (tupleKeyHash knd kx) true fuel (some (itM t.mask (k+1) p))) Q E s:=fun hne=>by
    have ad:∀n,itM t.mask n (itM t.mask (k+1) p)=itM t.mask (k+1+n) p:=fun n=>(dM t.mask (k+1) n p).symm
    refine ih (G- (k+1)) (some (itM t.mask (k+1) p)) ?_ (by omega) (by omega) ?_ ?_ ?_ ?_
    ·exact uV (k+1) hdm
    ·show ¬InP t.place (itM t.mask _ (itM t.mask (k+1) p)).j
     rw[ad,show k+1+(G- (k+1))=G by omega];exact hn
    ·intro k' hk'
     show InP t.place (itM t.mask _ (itM t.mask (k+1) p)).j
     rw[ad];exact ha _ (by omega)
    ·rintro ⟨k',i',r1,r2,r3⟩
     have r2':t.place.getD i' 0=(itM t.mask k' (itM t.mask (k+1) p)).j:=r2
     rw[ad]at r2'
     exact h1 ⟨k+1+k',i',by omega,r2',r3⟩
    ·intro r
     show Q (.free (itM t.mask _ (itM t.mask (k+1) p)).j false) s
     rw[ad,show k+1+(G- (k+1))=G by omega]
     refine h2 fun k' i' z1 z2 z3=>?_
     by_cases y1:k'< k
     ·exact key_ne k' i' y1 z2 z3
     ·by_cases y2:k'=k
      ·subst y2
       rw[one i' z2 z3,q1]
       intro z;injection z with z;exact hne z
      ·refine r (k'- (k+1)) i' (by omega) ?_ z3
       show t.place.getD i' 0=(itM t.mask _ (itM t.mask (k+1) p)).j
       rw[ad,show k+1+(k'- (k+1))=k' by omega];exact z2
   have hlive:t.slot (itM t.mask k p).j=.live i:=by rw[←g3];exact T.live (by have:=T.sz;simp at this;omega)
   have hmem:t.sameMemory t.moves t.mask=some true:=by unfold SetTable.sameMemory;simp
   rw[e]
   ·dsimp only
    simp only[hei]
    by_cases hl:t.led=true
    ·rw[if_neg (by simp[hl])]
     refine zh (AX ((tupleKind knd).eqBool hu q3 hx ?_))
     refine zh (B7 ho hd T.fits ?_)
     dsimp only
     by_cases hq:ky=kx
     ·rw[decide_eq_true hq,if_pos (by decide)]
      exact zo (h1 ⟨k,i,g1,g3,hq▸q1⟩)
     ·rw[decide_eq_false hq,if_neg (by decide),hmem]
      dsimp only
      rw[if_pos rfl,hlive]
      dsimp only
      rw[hei]
      dsimp only
      refine zh (EG ?_)
      refine zh (zo ?_)
      exact again hq
    ·rw[if_pos (by simp[hl])]
     refine zh (seen _ _ (fun y hy=>?_) ?_)
     ·obtain⟨z,hz,rfl⟩:=Ah.mp hy
      exact⟨z,by simp at hz;simpa using hz.1,rfl⟩
     rw[if_neg (by decide)]
     refine zh (AX ((tupleKind knd).eqBool hu q3 hx ?_))
     refine zh (B7 ho hd T.fits ?_)
     dsimp only
     by_cases hq:ky=kx
     ·rw[decide_eq_true hq,if_pos (by decide)]
      exact zo (h1 ⟨k,i,g1,g3,hq▸q1⟩)
     ·rw[decide_eq_false hq,if_neg (by decide),hmem]
      dsimp only
      rw[if_pos rfl,hlive]
      dsimp only
      rw[hei]
      dsimp only
      refine zh (EG ?_)
      refine zh (zo ?_)
      exact again hq
   ·rfl
  ·have e:∀f,f=(fun(i:Nat)=>(es[i]?.map (fun(e:Int×zl)=>e.1)).getD 0)→t.probe f (tupleKeyHash knd kx) p=some (.empty (itM t.mask G p).j none):=fun f hf=>by rw[hf];exact g1
   rw[e]
   ·refine zo (h2 fun k i hk' hi hl hq=>?_)
    have hl':i< es.toList.length:=by simpa using hl
    obtain⟨ky,b,q1,q2,q3,q4⟩:=hk.at_ i es.toList[i] (zu hl')
    rw[q1]at hq
    cases hq
    refine g2 k hk' i hi (by simpa using hl) ?_
    rw[zA,zu hl',←q4]
    rfl
   ·rfl
end
section
variable {prog:zL} {w:zQ} {K:Type} [DecidableEq K] {knd:KeyKind prog w K} {A:Ai} {E:zl→zq→Prop} {s:zq}
theorem pJ {n:Nat} {v:zl} (h:carriedByValue v=true):ofAClassStatement n v=pure false:=by
 cases v <;> first | (cases n <;> rfl) | (exfalso;revert h;simp[carriedByValue])
theorem jD {ks:List K} {a:Addr} {Q:Bool→zq→Prop} (hk:BE knd s.heap ks a) (h:Q false s):wpAny (model prog w) A (ofAClassStatement 8 (.ref a)) Q E s:=by
 have hT:=hk.typeIs
 obtain⟨o,items,n,ho,_,hd,hi⟩:=hk
 unfold ofAClassStatement
 refine zh (wpAny_typeOf hT ?_)
 dsimp only
 rw[if_pos (by rfl)]
 refine zh (zo ?_)
 rw[if_neg (by decide)]
 refine zh (Bk ho hd ?_)
 dsimp only
 refine zh ?_
 show wpAny _ _ (forIn items _ _) _ _ s
 rw[←Fp]
 refine Ej _ (fun rest r s'=>r.1=none∧s'=s∧∀v∈rest,carriedByValue v=true) _ ?_ ?_ _ _ ⟨rfl,rfl,hi.byValue⟩
 ·rintro v rest r s' ⟨hr,rfl,hall⟩
  rw[pJ (hall v zP)]
  refine zh (zo ?_)
  simp only[A5,if_false]
  exact zo ⟨rfl,rfl,fun u hu'=>hall u (zR _ hu')⟩
 ·rintro ⟨r1,r2⟩ s' ⟨hr,rfl,_⟩
  simp only at hr
  subst hr
  exact zo h
theorem rD {kx:List K} {x:Addr} (hx:BE knd s.heap kx x):∀(l:List zl) {Q:Bool→zq→Prop},(∀y∈l,∃k b,y=.ref b∧BE knd s.heap k b)→Q false s→wpAny (model prog w) A (searchCouldBeSeen (.ref x) l) Q E s:=by
 intro l Q hl h
 unfold searchCouldBeSeen
 refine zh ?_
 refine Ej _ (fun rest r s'=>r.1=none∧s'=s∧∀y∈rest,∃k b,y=.ref b∧BE knd s.heap k b) _ ?_ ?_ _ _ ⟨rfl,rfl,hl⟩
 ·rintro v rest r s' ⟨hr,rfl,hall⟩
  obtain⟨k,b,rfl,hb⟩:=hall v zP
  dsimp only
  by_cases z:x=b
  ·rw[if_pos (by simp[z])]
   exact zo ⟨rfl,rfl,fun u hu'=>hall u (zR _ hu')⟩
  ·rw[if_neg (by simp[z,carriedByValue])]
   refine zh ((tupleKind knd).quiet hx ?_)
   simp only[Dh,A5,if_false]
   refine zh ((tupleKind knd).quiet hb ?_)
   simp only[Dh,A5,if_false]
   refine zh (jD hx ?_)
   simp only[A5,if_false]
   refine zh (jD hb ?_)
   simp only[A5,if_false]
   exact zo ⟨rfl,rfl,fun u hu'=>hall u (zR _ hu')⟩
 ·rintro ⟨r1,r2⟩ s' ⟨hr,rfl,_⟩
  simp only at hr
  subst hr
  exact zo h
end
section
variable {prog:zL} {w:zQ} {K:Type} [DecidableEq K] {knd:KeyKind prog w K}
theorem lD {h h':Heap} {a b:Addr} {o:Obj} {es:Array (Int×zl)} {ep:Nat} {t:AG} {k:List K} (hk:BE knd h k b) (ho:h.get? a=some o) (hd:o.data=.set es ep t) (hs:A9 a h h'):BE knd h' k b:=by
 obtain⟨ob,items,n,h1,h2,h3,h4⟩:=hk
 have ne:b≠a:=fun z=>by
  subst z
  rw[ho]at h1
  cases h1
  rw[hd]at h3
  cases h3
 exact⟨ob,items,n,(hs.2 b ne).trans h1,h2,h3,h4⟩
theorem TupsOf.keep {h h':Heap} {a:Addr} {o:Obj} {es:Array (Int×zl)} {ep:Nat} {t:AG} {l:List (Int×zl)} {ks:List (List K)} (T:TupsOf knd h l ks) (ho:h.get? a=some o) (hd:o.data=.set es ep t) (hs:A9 a h h'):TupsOf knd h' l ks:=
 ⟨T.len,fun i e he=>let ⟨k,b,q1,q2,q3,q4⟩:=T.at_ i e he;⟨k,b,q1,q2,lD q3 ho hd hs,q4⟩⟩
end
section
variable {prog:zL} {w:zQ} {K:Type} [DecidableEq K] {knd:KeyKind prog w K} {A:Ai} {E:zl→zq→Prop} {s:zq}
theorem rE {ks:List K} {a:Addr} {Q:Bool→zq→Prop} (hI:∀k∈ks,∀v,knd.is k v=true→∃i t,v=.int i t) (hk:BE knd s.heap ks a) (h:Q true s):wpAny (model prog w) A (hashByValue 8 (.ref a)) Q E s:=by
 have hT:=hk.typeIs
 obtain⟨o,items,n,ho,_,hd,hi⟩:=hk
 unfold hashByValue
 refine zh (Dr hT F.slot_tuple_hash.lookup ?_)
 show wpAny _ _ (seqItems? (.ref a) >>= _) _ _ s
 refine zh (Bk ho hd ?_)
 dsimp only
 refine zh ?_
 show wpAny _ _ (forIn items _ _) _ _ s
 rw[←Fp]
 have hall:∀v∈items.toList,∃i t,v=.int i t:=by
  clear hd ho
  generalize items.toList=l at hi
  induction hi with
  | nil=>intro v hv;cases hv
  | cons h1 _ ih =>
   intro v hv
   rcases zU.mp hv with rfl | hv
   ·exact hI _ (zP ..) _ h1
   ·exact ih (fun k hk=>hI k (zR _ hk)) v hv
 refine Ej _ (fun rest r s'=>r.1=none∧s'=s∧∀v∈rest,∃i t,v=Ee i t) _ ?_ ?_ _ _ ⟨rfl,rfl,hall⟩
 ·rintro v rest r s' ⟨hr,rfl,hall⟩
  obtain⟨i,t,rfl⟩:=hall v zP
  show wpAny _ _ (hashByValue 7 (.int i t) >>= _) _ _ _
  rw[show hashByValue 7 (.int i t)=pure true from rfl]
  refine zh (zo ?_)
  exact zo ⟨rfl,rfl,fun u hu'=>hall u (zR _ hu')⟩
 ·rintro ⟨r1,r2⟩ s' ⟨hr,rfl,_⟩
  simp only at hr
  subst hr
  exact zo h
structure SetT (knd:KeyKind prog w K) (h:Heap) (a:Addr) (led:Bool) (ks:List (List K)) (o:Obj) (es:Array (Int×zl)) (ep:Nat) (t:AG):Prop where
 at_:h.get? a=some o
 ex:o.ExactSet
 dat:o.data=.set es ep t
 tab:Tb t (es.toList.map (·.1))
 tup:TupsOf knd h es.toList ks
 nd:ks.Nodup
 led:t.led=led
 pl:t.plain=true
theorem Tp.fits {t:AG} {es:Array (Int×zl)} (T:Tp t (es.toList.map (·.1))) (h:es.size≤t.mask):t.fits es.size=true:=by
 have h1:=T.sz
 have h3:=T.dm
 simp at h1
 unfold GA F9
 rw[h3]
 simp
 omega
theorem Tp.full {t:AG} {es:Array (Int×zl)} (T:Tp t (es.toList.map (·.1))):t.tooFull=decide (es.size*5≥t.mask*3):=by
 have h1:=T.sz
 simp at h1
 unfold SetTable.tooFull F9
 rw[T.dm,h1]
 simp
theorem tZ {es:Array (Int×zl)} {order:Array Nat} (h:order.toList.Perm (AD es.size)):(order.filterMap (es[·]?)).toList=order.toList.map fun i=>es.toList.getD i (0,.none):=by
 rw[Array.toList_filterMap]
 have:∀i∈order.toList,i< es.size:=fun i hi=>by have:=h.mem_iff.mp hi;simpa using this
 generalize order.toList=l at this
 clear h
 induction l with
 | nil=>rfl
 | cons i l ih =>
  have hi:=this i (zP ..)
  rw[BX,zM hi,An,ih fun j hj=>this j (zR _ hj)]
  congr 1
  rw[Az,zu (by simpa using hi)]
  rfl
theorem jE {α:Type} (l:List α) (d:α):(AD l.length).map (fun i=>l.getD i d)=l:=by
 apply Bl
 intro i
 rw[zA]
 by_cases z:i< l.length
 ·rw[Cz z,zu z]
  simp[Az,z]
 ·rw[AL (by simpa using z),AL (by simpa using z)];rfl
theorem TupsOf.order {h:Heap} {es:List (Int×zl)} {ks:List (List K)} (U:TupsOf knd h es ks) {l:List Nat} (hl:l.Perm (AD es.length)):TupsOf knd h (l.map fun i=>es.getD i (0,.none)) (l.map fun i=>ks.getD i []):=by
 refine⟨by simp,fun i e he=>?_⟩
 rw[zA]at he
 obtain⟨j,hj,e1⟩:=Al.mp he
 have hlt:j< es.length:=by have:=hl.mem_iff.mp (zW hj);simpa using this
 obtain⟨k,b,q1,q2,q3,q4⟩:=U.at_ j es[j] (zu hlt)
 have e2:e=es[j]:=by rw[←e1,Az,zu hlt];rfl
 subst e2
 refine⟨k,b,?_,q2,q3,q4⟩
 rw[zA,hj]
 simp[Az,q1]
theorem rF {a:Addr} {o:Obj} {es es1:Array (Int×zl)} {ep n:Nat} {t t1:AG} {led:Bool} {ks1:List (List K)} (ho:s.heap.get? a=some o) (hex:o.ExactSet) (hd:o.data=.set es ep t) (T1:Tp t1 (es1.toList.map (·.1))) (U1:TupsOf knd s.heap es1.toList ks1) (nd1:ks1.Nodup) (hl:t1.led=led) (hpl:t1.plain=true) (hn:es1.size=n) (h0:0< n) (h63:n≤1000) (hr:(n- 1)*5< t1.mask*3) {Q:Bool→zq→Prop}
  (h:∀h' ks' o' es' ep' t',A9 a s.heap h'→SetT knd h' a led ks' o' es' ep' t'→ks'.Perm ks1→es'.toList.Perm es1.toList→Q true {s with heap:=h'}):
  wpAny (model prog w) A (do
    storeSet a es1 t1
    if(!false && t1.tooFull)=true then setRelay a (Cr n)
    pure true) Q E s:=by
 have put:∀(s:zq) (o:Obj) es ep t (es':Array (Int×zl)) (t':AG),s.heap.get? a=some o→o.data=.set es ep t→(s.heap.update a (DL es' t')).get? a=some {o with data:=.set es' (ep+1) t'} :=fun s o es ep t es' t' ho hd=>by
  have:=Bq (DL es' t') ho (by rw[putSet_of es' t' hd];rfl)
  rw[putSet_of es' t' hd]at this;exact this
 have big:1000≤sizeLine:=by rw[AQ];omega
 have mk:=T1.msk
 refine zh (FD ho hd ?_ (by omega))
 have ho1:=put s o es ep t es1 t1 ho hd
 have sb1:=AK s.heap a (DL es1 t1)
 have U2:=U1.keep ho hd sb1
 rw[T1.full]
 by_cases z:es1.size*5≥t1.mask*3
 ·rw[decide_eq_true z,if_pos (by rfl)]
  unfold setRelay
  refine zh (zh (B7 ho1 rfl (T1.fits (by rcases mk with y | y | y | y | y <;> omega)) ?_))
  dsimp only
  have hw:CI (Cr n)≤2048∧isMask (CI (Cr n)- 1)∧n*5< (CI (Cr n)- 1)*3:=by
   rcases mk with y | y | y | y | y
   ·have:n=5:=by omega
    subst this;exact⟨by decide,.inr (.inl (by decide)),by decide⟩
   ·have:n=19:=by omega
    subst this;exact⟨by decide,.inr (.inr (.inl (by decide))),by decide⟩
   ·have:n=77:=by omega
    subst this;exact⟨by decide,.inr (.inr (.inr (.inl (by decide)))),by decide⟩
   ·have:n=307:=by omega
    subst this;exact⟨by decide,.inr (.inr (.inr (.inr (by decide)))),by decide⟩
   ·omega
  rw[if_neg (by have:=hw.1;rw[AQ];omega)]
  obtain⟨t2,order,e2,m2,l2,p2,pm,T2⟩:=tY hw.2.1 (hs:=es1.map (·.1)) (by simp;omega) t1.finger (t1.movedTo (CI (Cr n)- 1)) t1.led t1.plain
  have er:t1.relaid (es1.map (·.1)) (Cr n)=some (t2,order):=e2
  have pm':order.toList.Perm (AD es1.size):=by simpa using pm
  have fm:=tZ (es:=es1) pm'
  have fs:(order.filterMap (es1[·]?)).size=es1.size:=by
   rw[←A4,fm,A2,pm'.length_eq,DZ]
  rw[er]
  have key:∀(f:Array (Int×zl)→Option (AG×Array Nat)→Sem (Array (Int×zl)×AG)) (R:(Array (Int×zl)×AG)→zq→Prop) (s:zq),(∀es l,f es l=(do
     let some (t,order):=l | unsupported "internal:set-table-without-room"
     let es':=order.filterMap (es[·]?)
     if es'.size != es.size then unsupported "internal:set-table-lost-an-element"
     pure (es',t)))→R (order.filterMap (es1[·]?),t2) s→wpAny (model prog w) A (f es1 (some (t2,order))) R E s:=fun f R s hf hR=>by
   rw[hf]
   dsimp only
   rw[if_neg (by rw[fs];simp)]
   exact zo hR
  refine zh (key _ _ _ (fun _ _=>rfl) ?_)
  dsimp only
  refine FD ho1 rfl ?_ (by rw[fs];omega)
  have ho2:=put {s with heap:=s.heap.update a (DL es1 t1)} _ _ _ _ (order.filterMap (es1[·]?)) t2 ho1 rfl
  have sb2:=AK (s.heap.update a (DL es1 t1)) a (DL (order.filterMap (es1[·]?)) t2)
  have U3:=U2.order (l:=order.toList) (by simpa using pm')
  rw[←fm]at U3
  have U4:=U3.keep ho1 rfl sb2
  have pk:(order.toList.map fun i=>ks1.getD i []).Perm ks1:=by
   have:=pm'.map (fun i=>ks1.getD i [])
   have hl:es1.size=ks1.length:=by have:=U1.len;simpa using this
   rw[hl,jE]at this
   exact this
  have pe:(order.filterMap (es1[·]?)).toList.Perm es1.toList:=by
   rw[fm]
   have:=pm'.map (fun i=>es1.toList.getD i (0,Aw))
   have hl:es1.size=es1.toList.length:=by simp
   rw[hl,jE]at this
   exact this
  refine zo (h _ _ _ _ _ _ (sb1.trans sb2) ⟨ho2,hex,rfl,⟨?_,?_⟩,U4,pk.nodup_iff.mpr nd1,by rw[l2];exact hl,by rw[p2];exact hpl⟩ pk pe)
  ·rw[fm,BL]
   have:((fun x:Int×zl=>x.1) ∘ fun i=>es1.toList.getD i (0,.none))=fun i=>(es1.map (·.1)).toList.getD i 0:=funext fun i=>by
    simp only[Function.comp,Az,FU,zA]
    cases es1.toList[i]? <;> rfl
   rw[this]
   exact T2
  ·rw[A2,A4,fs,m2]
   have:=hw.2.2
   omega
 ·rw[decide_eq_false z,if_neg (by decide)]
  refine zo (h _ _ _ _ _ _ sb1 ⟨ho1,hex,rfl,⟨T1,by simp;omega⟩,U2,nd1,hl,hpl⟩ (.refl _) (.refl _))
theorem u0 {a x:Addr} {o:Obj} {es:Array (Int×zl)} {ep:Nat} {t:AG} {led:Bool} {ks:List (List K)} {kx:List K} (hu:A.units< cLine) (S:SetT knd s.heap a led ks o es ep t) (hn:es.size< 1000) (hx:BE knd s.heap kx x) (hI:∀k∈kx,∀v,knd.is k v=true→∃i t,v=.int i t)
  {Q:Bool→zq→Prop} {fuel:Nat}
  (h1:kx∈ks→Q false s) (h2:kx∉ks→∀h' ks' o' es' ep' t',A9 a s.heap h'→SetT knd h' a led ks' o' es' ep' t'→ks'.Perm (kx::ks)→es'.toList.Perm ((tupleKeyHash knd kx,.ref x)::es.toList)→Q true {s with heap:=h'}):
  wpAny (model prog w) A (setAddHashedIn a (.ref x) (tupleKeyHash knd kx) (fuel+1)) Q E s:=by
 unfold setAddHashedIn
 refine zh (B7 S.at_ S.dat S.tab.fits ?_)
 dsimp only
 rw[if_neg (by unfold byScan;simp[Value.scannable])]
 obtain⟨G,g1,g2,g3⟩:=S.tab.gap (rp t (tupleKeyHash knd kx))
 have mem:∀i,i< es.size→ks[i]? =some kx→∃k,k< G∧t.place.getD i 0=(itM t.mask k (t.probeStart (tupleKeyHash knd kx))).j:=fun i hi z=>by
  have hi':i< es.toList.length:=by simpa using hi
  obtain⟨k,b,q1,q2,q3,q4⟩:=S.tup.at_ i es.toList[i] (zu hi')
  rw[q1]at z
  cases z
  obtain⟨n,r1,r2⟩:=S.tab.reach i (tupleKeyHash knd kx) (by rw[zA,zu hi',←q4];rfl)
  refine⟨n,?_,r1.symm⟩
  by_cases y:n< G
  ·exact y
  ·by_cases y2:n=G
   ·subst y2
    refine absurd ?_ g2
    rw[r1]
    exact⟨i,by have:=S.tab.sz;simp at this;omega,rfl⟩
   ·exact absurd (r2 G (by omega)) g2
 refine zh ?_
 unfold setSearch
 have ht:t.mask≤2047:=by rcases S.tab.msk with z | z | z | z | z <;> omega
 refine mO (knd:=knd) hu S.at_ S.dat S.tab S.tup hx (fun l Q hl h=>rD hx l (fun y hy=>?_) h) 100000 G none rfl (by unfold AR at g1;omega) g1 g2 g3 ?_ ?_
 ·obtain⟨e,he,rfl⟩:=hl y hy
  obtain⟨i,hi,rfl⟩:=Bu.mp he
  obtain⟨k,b,q1,q2,q3,q4⟩:=S.tup.at_ i es.toList[i] (zu hi)
  exact⟨k,b,q2,q3⟩
 ·rintro ⟨k,i,_,_,hq⟩
  exact zo (h1 (zW hq))
 ·intro hall
  have nin:kx∉ks:=fun hm=>by
   obtain⟨i,hi,e⟩:=Bu.mp hm
   have hi':i< es.size:=by have:=S.tup.len;simp at this;omega
   have hq:ks[i]? =some kx:=by rw[zu hi,e]
   obtain⟨k,q1,q2⟩:=mem i hi' hq
   exact hall k i q1 q2 hi' hq
  refine zh (B7 S.at_ S.dat S.tab.fits ?_)
  dsimp only
  have jle:(itM t.mask G (t.probeStart (tupleKeyHash knd kx))).j≤t.mask:=uU (m:=t.mask) (h:=tupleKeyHash knd kx) G
  obtain⟨p1,p2,p3⟩:=S.tab.put g2 jle g3
  have led1:(t.put (itM t.mask G (t.probeStart (tupleKeyHash knd kx))).j).1.led=t.led:=rfl
  simp only[Eg]
  generalize hP:t.put (itM t.mask G (t.probeStart (tupleKeyHash knd kx))).j=P at*
  obtain⟨t1,p⟩:=P
  dsimp only at p1 p2 p3 led1
  have hp:p≤es.size:=by simpa using p1
  have il:=iV es p (tupleKeyHash knd kx,As x)
  have T1:Tp t1 ((AN es p (tupleKeyHash knd kx,As x)).toList.map (·.1)):=by
   rw[il,List.map_append,An,List.map_take,List.map_drop];exact p3
  have U1:TupsOf knd s.heap (AN es p (tupleKeyHash knd kx,As x)).toList (ks.take p++kx::ks.drop p):=by
   have hlen:=S.tup.len
   have hp2:p≤ks.length:=by simp at hlen;omega
   rw[il]
   refine⟨by simp[hlen],fun i e he=>?_⟩
   have l1:(es.toList.take p).length=p:=by simp;omega
   have l2:(ks.take p).length=p:=by simp;omega
   by_cases z:i< p
   ·rw[zT (by omega),Ag z]at he
    obtain⟨k,b,q⟩:=S.tup.at_ i e he
    exact⟨k,b,by rw[zT (by omega),Ag z];exact q.1,q.2⟩
   ·rw[zN (by omega),l1]at he
    rw[zN (by omega),l2]
    by_cases y:i=p
    ·rw[y,CP,Bg]at he ⊢
     cases he
     exact⟨kx,x,rfl,rfl,hx,rfl⟩
    ·rw[show i- p=(i- p- 1)+1 by omega,AO,Ar]at he ⊢
     exact S.tup.at_ _ e he
  have pk:(ks.take p++kx::ks.drop p).Perm (kx::ks):=FV.trans (.cons kx (by rw[D4]))
  have nd1:(ks.take p++kx::ks.drop p).Nodup:=pk.nodup_iff.mpr (Bo.mpr ⟨nin,S.nd⟩)
  have room:=S.tab.room
  have pl1:t1.plain=true:=by have:=S.pl;rw[←this];have e:=congrArg (fun z:AG×Nat=>z.1.plain) hP;exact e.symm
  rw[if_pos pl1]
  refine zh (rE hI hx ?_)
  exact rF S.at_ S.ex S.dat T1 U1 nd1 (led1.trans S.led) pl1 (dC es hp _) (by omega) (by omega) (by rw[p2];simpa using room) fun h' ks' o' es' ep' t' a1 a2 a3 a4=>h2 nin h' ks' o' es' ep' t' a1 a2 (a3.trans pk) (a4.trans (by rw[il];exact FV.trans (.cons _ (by rw[D4]))))
end
end Wb
namespace Wb
open PySem PySem.W PySem.Calls PyProof.Rows
theorem sl_next:Slot "set_iterator" "__next__" "set_iterator.__next__" :=
 .of (owner:="set_iterator") (n:="__next__") (by rw[Gb,EH];kernel_rfl) (by decide +kernel) (by decide +kernel) (by decide +kernel)
  (by first | exact .inl (by decide +kernel) | exact .inr (by decide +kernel)) (by rw[EY];kernel_rfl)
theorem oa:Slot "set_iterator" "__iter__" "set_iterator.__iter__" :=
 .of (owner:="set_iterator") (n:="__iter__") (by rw[Gb,EH];kernel_rfl) (by decide +kernel) (by decide +kernel) (by decide +kernel)
  (by first | exact .inl (by decide +kernel) | exact .inr (by decide +kernel)) (by rw[EY];kernel_rfl)
theorem og:entryFor table "set_iterator.__next__" =some Cm.«set_iterator.__next__» :=entryFor_of_tree (by kernel_rfl)
theorem u4:entryFor table "set_iterator.__iter__" =some Cm.«dict_keyiterator.__iter__» :=Gp (id':="dict_keyiterator.__iter__") (by kernel_rfl) rfl (by decide +kernel) (by kernel_rfl)
theorem vU:entryFor table "set.__iter__" =some Cm.«frozenset.__iter__» :=Gp (id':="frozenset.__iter__") (by kernel_rfl) rfl (by decide +kernel) (by kernel_rfl)
theorem oh:Manifest.owners.lookup (String.ofList ['r','o','t','a','r','e','t','i','_','t','e','s'].reverse)=some Manifest.sig_set_iterator:=by kernel_rfl
theorem oi (a:zl):argsOk "set_iterator.__next__" ⟨[a],[]⟩:=by
 unfold argsOk;rw[GB (id:="set_iterator.__next__") (n:=['_','_','t','x','e','n','_','_']) (o:=['r','o','t','a','r','e','t','i','_','t','e','s']) (by kernel_rfl) oh];kernel_rfl
theorem u5 (a:zl):argsOk "set_iterator.__iter__" ⟨[a],[]⟩:=by
 unfold argsOk;rw[GB (id:="set_iterator.__iter__") (n:=['_','_','r','e','t','i','_','_']) (o:=['r','o','t','a','r','e','t','i','_','t','e','s']) (by kernel_rfl) oh];kernel_rfl
theorem iW {α:Type} :∀(l:List α) (i:Nat) (h:i< l.length),(l[i]::l.eraseIdx i).Perm l
 | a::l,0,_=>.refl _
 | a :: l, i + 1, h => by
  have h2:i< l.length:=by simpa using h
  exact(List.Perm.swap a l[i] (l.eraseIdx i)).trans (.cons a (iW l i h2))
theorem jF {α:Type} (next:Nat→Nat):∀(fuel k:Nat) (left:List α) (out:Array α),fuel=left.length→(FE next fuel k left out).toList.Perm (out.toList++left)
 | 0, k, left, out, h => by
  have:left=[]:=BZ.mp h.symm
  subst this
  unfold FE
  simp
 | fuel + 1, k, left, out, h => by
  unfold FE
  have hl:next k% left.length< left.length:=DJ _ (by omega)
  rw[zu hl]
  dsimp only
  refine(jF next fuel (k+1) _ _ (by rw[EZ];simp[hl];omega)).trans ?_
  rw[Bw,zO]
  refine AM _ ?_
  exact iW left _ hl
def cV (w:zQ) (a:Addr) (ep:Nat) (es:Array (Int×zl)):Array (Int×zl):=if w.params.followText "set-order" =true then pickOrder (w.params.setOrder a ep) es else es
theorem gw (w:zQ) (a:Addr) (ep:Nat) (es:Array (Int×zl)):(cV w a ep es).toList.Perm es.toList:=by
 unfold cV
 split
 ·have:=jF (w.params.setOrder a ep) es.size 0 es.toList #[] (by simp)
  simp only[CF]at this
  exact this
 ·exact .refl _
def bL (w:zQ) (t:AG) (i:Nat):Int:=if w.params.followText "set-order" =true then 0 else if i=0 then 0 else(t.place.getD (i- 1) 0:Int)+1
theorem mP {w:zQ} {t:AG} {hs:List Int} (T:Tp t hs) (hb:¬w.params.followText "set-order" =true) {i:Nat} (hi:i≤t.place.size):AF t.place (bL w t i).toNat=i:=by
 obtain⟨b0,b1,b2⟩:=gr T.up (bL w t i).toNat
 generalize hB:AF t.place (bL w t i).toNat=b at*
 have e:(bL w t i).toNat=if i=0 then 0 else t.place.getD (i- 1) 0+1:=by
  unfold bL;rw[if_neg hb];split <;> omega
 rw[e]at b1 b2
 by_cases z:i=0
 ·rw[if_pos z]at b1
  by_cases y:b=0
  ·omega
  ·have:=b1 0 (by omega);omega
 ·rw[if_neg z]at b1 b2
  by_cases y:b< i
  ·have:=b2 (i- 1) (by omega) (by omega)
   omega
  ·by_cases y2:i< b
   ·have h1:=b1 i y2
    have h2:=T.up (i- 1) i (by omega) (by omega)
    omega
   ·omega
def iX (w:zQ) (a:Addr) (t:AG) (n ep i:Nat):Obj:={cls:=.type "set_iterator",dict:=none,data:=.fields #[.int (bL w t i) 0,.int i 0,.ref a,.int n 0,.int ep 0],slots:= #[]}
section
variable {prog:zL} {w:zQ} {A:Ai} {E:zl→zq→Prop} {s:zq} {a I:Addr} {o:Obj} {es:Array (Int×zl)} {ep:Nat} {t:AG}
theorem lE {i:Nat} {Q:Option (zl×Nat)→zq→Prop} (ho:s.heap.get? a=some o) (hd:o.data=.set es ep t) (T:Tp t (es.toList.map (·.1))) (hf:t.fits es.size=true) (hl:t.led= !w.params.followText "set-order") (hp:t.plain=true) (hi:i≤es.size)
  (h:Q (((cV w a ep es)[i]?).map fun e=>(e.2,(bL w t (i+1)).toNat)) s):wpAny (model prog w) A (setNext a (bL w t i).toNat i ep) Q E s:=by
 have hsz:t.place.size=es.size:=by have:=T.sz;simpa using this
 unfold setNext
 refine zh (B7 ho hd hf ?_)
 dsimp only
 unfold setsByText
 refine zh (zh (C3 (zo ?_)))
 show wpAny (model prog w) A (if w.params.followText "set-order" =true then _ else _) Q E s
 by_cases z:w.params.followText "set-order" =true
 ·rw[if_pos z,if_neg (by simp)]
  unfold setWalk
  refine zh (zh (B7 ho hd hf ?_))
  dsimp only
  unfold setsByText
  refine zh (zh (C3 (zo ?_)))
  show wpAny (model prog w) A (if w.params.followText "set-order" =true then _ else _) _ E s
  rw[if_pos z]
  refine zh (C3 (zo (zo ?_)))
  unfold cV bL at h
  rw[if_pos z,if_pos z]at h
  unfold bL
  rw[if_pos z]
  exact h
 ·rw[if_neg z]
  refine Dt (fun hab=>absurd hab (show ¬((!t.plain && decide (es.size> 1))=true) by rw[hp];simp)) (fun _=>?_)
  show wpAny _ _ ((if(!t.led && !es.isEmpty)=true then unsupported _ else pure ()) >>= _) _ _ _
  rw[if_neg (by rw[hl];simp[z])]
  refine zh (zo ?_)
  rw[mP T z (by omega)]
  unfold cV at h
  rw[if_neg z]at h
  by_cases y:i< es.size
  ·have y2:i< t.place.size:=by omega
   rw[zM y]at h ⊢
   rw[zM y2]
   have e:(bL w t (i+1)).toNat=t.place[i]+1:=by
    unfold bL
    rw[if_neg z,if_neg (by omega),show i+1- 1=i by omega]
    have:t.place.getD i 0=t.place[i]:=by simp[Bx,y2]
    omega
   simp only[Cf,e]at h
   exact zo h
  ·rw[Cb (by omega)]at h ⊢
   exact zo h
end
section
variable {prog:zL} {w:zQ} {A:Ai} {E:zl→zq→Prop} {s:zq} {a I:Addr} {o:Obj} {es:Array (Int×zl)} {ep:Nat} {t:AG}
theorem iY {n i:Nat} (h:s.heap.get? I=some (iX w a t n ep i)):s.TypeIs (.ref I) "set_iterator" :=⟨_,h,rfl⟩
structure SetR (w:zQ) (o:Obj) (es:Array (Int×zl)) (ep:Nat) (t:AG):Prop where
 ex:o.ExactSet
 dat:o.data=.set es ep t
 tab:Tb t (es.toList.map (·.1))
 led:t.led= !w.params.followText "set-order"
 pl:t.plain=true
theorem rG {Q:zl→zq→Prop} (R:SetR w o es ep t) (ho:s.heap.get? a=some o) (h:Q (.ref s.heap.objs.size) {s with heap:=s.heap.push (iX w a t es.size ep 0)}):wpAny (model prog w) A (pyIter (.ref a)) Q E s:=by
 have hT:s.TypeIs (.ref a) "set" :=⟨o,ho,R.ex.1⟩
 refine CQ hT Gd (Ak Gd hT vU ?_ (F.args_set_iter_1 _))
 unfold Cm.«frozenset.__iter__»
 refine zh (m:=GJ _ _) (zo ?_)
 unfold GC
 refine zh (zh (Dy ho R.dat R.tab.fits (zo ?_)))
 unfold setDrawn
 refine zh (zh (B7 ho R.dat R.tab.fits ?_))
 dsimp only
 unfold setsByText
 refine zh (zh (C3 (zo (zo ?_))))
 refine Dt (fun hab=>absurd hab (show ¬((!w.params.followText "set-order" && (!t.plain && decide (es.size> 1)))=true) by rw[R.pl];simp)) (fun _=>?_)
 refine zh (zo ?_)
 refine zh (wpAny_setEpoch_of ho R.dat R.tab.fits ?_)
 have e0:bL w t 0=0:=by unfold bL;split <;> rfl
 refine zh (Ap (zo ⟨_,rfl,"set_iterator",_,⟨_,zz _ rfl,rfl⟩,sl_next.lookup,?_⟩))
 unfold iX at h
 rw[e0]at h
 exact h
theorem pK {i:Nat} {Q:Option zl→zq→Prop} (R:SetR w o es ep t) (ho:s.heap.get? a=some o) (hne:a≠I) (hI:s.heap.get? I=some (iX w a t es.size ep i)) {e:Int×zl} (he:(cV w a ep es)[i]? =some e)
  (h:∀h',h'.get? I=some (iX w a t es.size ep (i+1))→A9 I s.heap h'→Q (some e.2) {s with heap:=h'}):wpAny (model prog w) A (pyNext (.ref I)) Q E s:=by
 have hsz:(cV w a ep es).size=es.size:=by have:=(gw w a ep es).length_eq;simpa using this
 have hi:i< es.size:=by have:=(Bn.mp he).1;omega
 have hT:=iY hI
 unfold pyNext
 refine zh (Ci (Ay (name:=zx "__next__") hT sl_next
  (Ak sl_next hT og ?_ (oi _))))
 unfold Cm.«set_iterator.__next__»
 refine zh (m:=slotArgs _ _ _) (zo ?_)
 refine zh (DM hI rfl ?_)
 dsimp only
 refine zh (Dy ho R.dat R.tab.fits ?_)
 rw[if_neg (by simp)]
 show wpAny _ _ (setNext a (bL w t i).toNat ((i:Int).toNat) ((ep:Int).toNat) >>= _) _ _ _
 rw[AA,AA]
 refine zh (lE ho R.dat R.tab.toTp R.tab.fits R.led R.pl (by omega) ?_)
 rw[he]
 dsimp only[Cf]
 refine zh (C0 hI rfl (by simp) ?_)
 have hI1:=Bq (Eb (·.setIfInBounds 0 (rawInt ((bL w t (i+1)).toNat:Int)))) hI rfl
 refine zh (C0 hI1 rfl (by simp) ?_)
 have hI2:=Bq (Eb (·.setIfInBounds 1 (rawInt ((i:Int)+1)))) hI1 rfl
 refine zo ⟨_,rfl,zo (h _ (hI2.trans ?_) ((AK ..).trans (AK ..)))⟩
 have e1:((bL w t (i+1)).toNat:Int)=bL w t (i+1):=by unfold bL;split <;> (try split) <;> omega
 rw[e1]
 rfl
theorem rH {Q:Option zl→zq→Prop} (hh:A.handled=none) (R:SetR w o es ep t) (ho:s.heap.get? a=some o) (hne:a≠I) (hI:s.heap.get? I=some (iX w a t es.size ep es.size))
  (h:∀h',DX I s.heap h'→Q none {s with heap:=h'}):wpAny (model prog w) A (pyNext (.ref I)) Q E s:=by
 have hsz:(cV w a ep es).size=es.size:=by have:=(gw w a ep es).length_eq;simpa using this
 have hT:=iY hI
 unfold pyNext
 refine zh (Ci (Ay (name:=zx "__next__") hT sl_next
  (Ak sl_next hT og ?_ (oi _))))
 unfold Cm.«set_iterator.__next__»
 refine zh (m:=slotArgs _ _ _) (zo ?_)
 refine zh (DM hI rfl ?_)
 dsimp only
 refine zh (Dy ho R.dat R.tab.fits ?_)
 rw[if_neg (by simp)]
 show wpAny _ _ (setNext a (bL w t es.size).toNat ((es.size:Int).toNat) ((ep:Int).toNat) >>= _) _ _ _
 rw[AA,AA]
 refine zh (lE ho R.dat R.tab.toTp R.tab.fits R.led R.pl (by omega) ?_)
 rw[Cb (by omega)]
 dsimp only[Option.map_none]
 refine zh (C0 hI rfl (by simp) ?_)
 show wpAny _ _ (newExc (.type "StopIteration") [] >>= _) _ _ _
 refine zh ?_
 simp only[newExc,newTuple]
 refine zh (Ap ?_ (by size_fits))
 refine zh (m:=firstArgMember _ _) (EX (a:=Aw) (by first | rfl | (simp only[firstArgMember];rfl)) ?_)
 refine Ap ?_ (by size_fits)
 simp only[raiseNew]
 refine zh (F7 ?_)
 rw[show A.in1.handled=none from hh]
 refine zh (zo (G2 ?_))
 refine zh (Cv (T:="StopIteration") (b:=true) ⟨_,zz _ rfl,rfl⟩ DG ?_)
 exact zo (h _ (((AK ..).extBut.push _).push _))
theorem Walks.setOf (hh:A.handled=none) (I a:Addr) (hne:a≠I) (R:SetR w o es ep t):
  Walks prog w A I [I,a] [I] es.size (fun i v=>∃e,(cV w a ep es)[i]? =some e∧v=e.2) (fun i h=>h.get? I=some (iX w a t es.size ep i)∧h.get? a=some o) where
 sub:=fun b hb=>by simp at hb;simp[hb]
 frame:=fun _ _ _ st hk=>⟨hk I (by simp) _ st.1,hk a (by simp) _ st.2⟩
 item:=fun i s Q E hi st hQ=>by
  have hsz:(cV w a ep es).size=es.size:=by have:=(gw w a ep es).length_eq;simpa using this
  have he:(cV w a ep es)[i]? =some (cV w a ep es)[i]:=zM (by omega)
  refine pK R st.2 hne st.1 he fun h' hI' hs'=>?_
  exact hQ _ h' s.toks ⟨_,he,rfl⟩ ⟨hI',hs'.extBut a _ hne st.2⟩ fun b o hb e=>hs'.extBut b o (fun h=>hb (by simp[h])) e
 done:=fun s Q E st hQ=>rH hh R st.2 hne st.1 fun h' he'=>hQ h' s.toks fun b o hb e=>he' b o (fun h=>hb (by simp[h])) e
 self:=fun i s Q E st hQ=>by
  refine CQ (iY st.1) oa (Ak oa (iY st.1) u4 ?_ (u5 _))
  show wpAny _ _ (ret (.ref I)) _ _ s
  exact zo ⟨_,rfl,"set_iterator",_,iY st.1,sl_next.lookup,hQ⟩
theorem rJ {Q:Bool→zq→Prop} (hT:s.TypeIs (.ref a) "set") (h:Q false s):wpAny (model prog w) A (DA (.ref a)) Q E s:=by
 unfold DA
 refine zh (Dr hT F.slot_set_len.lookup ?_)
 generalize hid:("set.__len__" :String)=id0
 wp_delta
 rw[show splitId id0=some ("set","__len__")from by subst hid;decide +kernel]
 subst hid
 refine zh (Cv (T:="set") (b:=true) hT (by rw[EY];kernel_rfl) ?_)
 refine Dt (fun hab=>absurd hab (by decide)) (fun _=>?_)
 refine Dt (fun _=>?_) (fun hab=>absurd (by decide +kernel) hab)
 refine zh (wpAny_typeOf hT ?_)
 exact zo h
theorem u6 (R:SetR w o es ep t):KdlSrc prog w "set" a a es.size (fun i v=>∃e,(cV w a ep es)[i]? =some e∧v=e.2) (fun h=>h.get? a=some o) where
 type:=fun _ hm=>⟨o,hm,R.ex.1⟩
 there:=fun _ hm=>⟨zI hm,zI hm⟩
 keep:=fun _ _ hm hk=>hk a (.inl rfl) o hm
 notList:=by decide
 notTuple:=by decide
 hint:=fun _ _ _ _ hm hq=>rJ ⟨o,hm,R.ex.1⟩ hq
 iter:=fun _ _ hh hm=>⟨_,_,(fun _ _ hq=>rG R hm hq),Walks.setOf hh _ a (zX (zI hm)) R,⟨zz _ rfl,zr _ hm⟩⟩
end
def PairAt (h:Heap) (v:zl) (k:Int×Int):Prop:=∃b o t1 t2 n,v=.ref b∧h.get? b=some o∧o.cls=.type "tuple" ∧o.data=.seq #[.int k.1 t1,.int k.2 t2] n
def kQ (a b:Int×Int):Bool:=decide (a.1< b.1) || (decide (a.1=b.1) && decide (a.2< b.2))
theorem ij {a b:Int×Int} :kQ a b=true↔a.1< b.1∨(a.1=b.1∧a.2< b.2):=by unfold kQ;simp
theorem vV {a b c:Int×Int} (h:kQ a b=true) (h':kQ b c=true):kQ a c=true:=by rw[ij]at *;omega
theorem u7 {a b:Int×Int} (hn:a≠b) (h:kQ a b=false):kQ b a=true:=by
 have h2:¬kQ a b=true:=by rw[h];decide
 rw[ij]at h2
 rw[ij]
 by_cases z:a.1=b.1
 ·have:a.2≠b.2:=fun e=>hn (DI z e)
  omega
 ·omega
theorem oj (a:Int×Int):kQ a a=false:=by unfold kQ;simp
structure PairsAt (h:Heap) (vs:List zl) (ks:List (Int×Int)):Prop where
 len:vs.length=ks.length
 at_:∀(i:Nat) (v:zl),vs[i]? =some v→∃k,ks[i]? =some k∧PairAt h v k
section
variable {prog:zL} {w:zQ} {A:Ai} {E:zl→zq→Prop} {s:zq}
theorem u8 {x y:zl} {k l:Int×Int} {Q:Bool→zq→Prop} (hx:PairAt s.heap x k) (hy:PairAt s.heap y l) (h:Q (kQ k l) s):wpAny (model prog w) A (keyLt' (tuples' true) x y) Q E s:=by
 obtain⟨bx,ox,t1,t2,n,rfl,hx,_,dx⟩:=hx
 obtain⟨by_,oy,u1,u2,m,rfl,hy,_,dy⟩:=hy
 refine kat_lt hx dx hy dy (kat_cons (Ef (kat_go (fun e=>kat_yes (kat_cons (Ef (kat_go (fun e'=>kat_yes (kat_nil ?_)) fun e'=>kat_no (kat_one _ _ (lt_int ?_)))))) fun e=>kat_no (oneLt_int ?_))))
 ·have e1:k.1=l.1:=by simpa using e
  have e2:k.2=l.2:=by simpa using e'
  have:k=l:=DI e1 e2
  subst this
  rw[oj]at h
  simpa using h
 ·have e1:k.1=l.1:=by simpa using e
  show Q (decide (k.2< l.2)) s
  unfold kQ at h
  simpa [e1] using h
 ·have e1:¬k.1=l.1:=by simpa using e
  unfold kQ at h
  simpa [e1] using h
theorem om {h:Heap} :∀{vs:List zl} {ks:List (Int×Int)},PairsAt h vs ks→∃fs,fs.length=vs.length∧KatTups h vs fs∧∀f∈fs,∃i t,f=Ee i t
 | [],ks,P=>⟨[],rfl,trivial,fun f hf=>by cases hf⟩
 | v :: vs, ks, P => by
  obtain⟨k,q1,b,o,t1,t2,n,rfl,q3,q4,q5⟩:=P.at_ 0 v rfl
  obtain⟨fs,l1,l2,l3⟩:=om (h:=h) (vs:=vs) (ks:=ks.drop 1) ⟨by have:=P.len;simp at this ⊢;omega,fun i v e=>by
   obtain⟨k,a1,a2⟩:=P.at_ (i+1) v (by simpa using e)
   exact⟨k,by rw[Ar,Nat.add_comm];exact a1,a2⟩⟩
  refine⟨.int k.1 t1::fs,by simp[l1],.cons q3 q4 q5 (by simp) l2,fun f hf=>?_⟩
  rcases zU.mp hf with rfl | hf
  ·exact⟨_,_,rfl⟩
  ·exact l3 f hf
end
end Wb
namespace Wb
open PySem PyProof.Rows
abbrev at' (xs:Array zE) (i:Nat):zE:=xs.getD i (Aw,Aw)
structure LtOk (M:Ey) (A:Ai) (E:zl→zq→Prop) (s:zq) (κ:Dl) (U:zE→Prop) (L:zE→zE→Bool):Prop where
 lt:∀(x y:zE) (st:B0) (Q:Option Bool→B0→Prop),U x→U y→kindOf st=κ→Q (some (L x y)) st→wpS M A E s (lt' x y) Q st
 tr:∀x y z,U x→U y→U z→L x y=true→L y z=true→L x z=true
 tot:∀x y,U x→U y→x≠y→L x y=false→L y x=true
 irr:∀x,L x x=false
structure SB (κ:Dl) (a0:List zE) (st:B0):Prop where
 kind:kindOf st=κ
 failed:failedOf st=none
 perm:(arrOf st).toList.Perm a0
def Sr (L:zE→zE→Bool) (xs:Array zE) (a b:Nat):Prop:=∀i j,a≤i→i< j→j< b→L (at' xs i) (at' xs j)=true
theorem cS {xs:Array zE} {i:Nat} (h:i< xs.size):xs[i]? =some (at' xs i):=by simp[Bx,h]
theorem dN {xs:Array zE} {i:Nat} (h:i< xs.size):at' xs i=xs.toList[i]'(by simpa using h):=by simp[Bx,h]
section
variable {M:Ey} {A:Ai} {E:zl→zq→Prop} {s:zq} {κ:Dl} {U:zE→Prop} {L:zE→zE→Bool} {a0:List zE} {st:B0}
theorem SB.size (B:SB κ a0 st):(arrOf st).size=a0.length:=by rw[←A4];exact B.perm.length_eq
theorem SB.u (B:SB κ a0 st) (hU:∀x∈a0,U x) {i:Nat} (hi:i< a0.length):U (at' (arrOf st) i):=by
 have h:=B.size
 rw[dN (by omega)]
 exact hU _ (B.perm.mem_iff.mp (BA _))
theorem x6 {xs:Array zE} (nd:xs.toList.Nodup) {i j:Nat} (hi:i< xs.size) (hj:j< xs.size) (hij:i≠j):at' xs i≠at' xs j:=by
 rw[dN hi,dN hj]
 have pw:=Bp.mp (Aj.mp nd)
 rcases Nat.lt_or_gt_of_ne hij with z | z
 ·exact pw i j _ _ z
 ·exact fun e=>pw j i _ _ z e.symm
theorem SB.ne (B:SB κ a0 st) (nd:a0.Nodup) {i j:Nat} (hi:i< a0.length) (hj:j< a0.length) (hij:i≠j):at' (arrOf st) i≠at' (arrOf st) j:=by
 have h:=B.size
 exact x6 (B.perm.nodup_iff.mpr nd) (by omega) (by omega) hij
theorem SB.set (B:SB κ a0 st) {xs:Array zE} (h:xs.Perm (arrOf st)):SB κ a0 (setArr st xs):=⟨B.kind,B.failed,(Array.perm_iff_toList_perm.mp h).trans B.perm⟩
theorem aX {arr:Array zE} {i:Nat} {Q:zE→B0→Prop} (hi:i< arr.size) (h:Q (at' arr i) st):wpS M A E s (elem' arr i) Q st:=by
 rw[elem'_eq,cS hi]
 exact zD h
theorem gy (O:LtOk M A E s κ U L) (hU:∀x∈a0,U x) (B:SB κ a0 st) {i j:Nat} {Q:Option Bool→B0→Prop} (hi:i< a0.length) (hj:j< a0.length) (h:Q (some (L (at' (arrOf st) i) (at' (arrOf st) j))) st):wpS M A E s (ltAt' i j) Q st:=by
 have hs:=B.size
 rw[ltAt'_eq]
 refine zy (CS (zy (aX (by omega) (zy (aX (by omega) ?_)))))
 exact O.lt _ _ _ _ (B.u hU hi) (B.u hU hj) B.kind h
theorem pL {xs:Array zE} {src d:Nat} (hs:src< xs.size) (hd:d≤src) (k:Nat):at' (bubble xs src d) k=if k=src- d then at' xs src else if src- d< k∧k≤src then at' xs (k- 1)else at' xs k:=by
 simp only[at',Ab]
 rw[getElem?_bubble hs _ hd]
 split
 ·rfl
 ·split <;> rfl
theorem pM {xs:Array zE} {i j:Nat} (hj:j≤xs.size) (k:Nat):at' (mirror xs i j ((j- i)/ 2)) k=if i≤k∧k< j then at' xs (i+j- 1- k)else at' xs k:=by
 simp only[at',Ab]
 rw[getElem?_mirror_all hj]
 split <;> rfl
theorem u9 (O:LtOk M A E s κ U L) (hU:∀x∈a0,U x) (nd:a0.Nodup) {lo n ok:Nat} {Q:Bool→B0→Prop} (hn:lo+n≤a0.length) (hok:ok≤n) (B:SB κ a0 st) (hs:Sr L (arrOf st) lo (lo+ok))
  (h:∀st',SB κ a0 st'→pendingOf st'=pendingOf st→Sr L (arrOf st') lo (lo+n)→(∀i,i< lo∨lo+n≤i→at' (arrOf st') i=at' (arrOf st) i)→Q true st'):wpS M A E s (binarySort' lo n ok) Q st:=by
 rw[binarySort'_eq]
 refine zy (C4 (Av (I:=fun k c st'=>c=(none,())∧SB κ a0 st'∧pendingOf st'=pendingOf st∧Sr L (arrOf st') lo (lo+min k n)∧∀i,i< lo∨lo+n≤i→at' (arrOf st') i=at' (arrOf st) i)
  (Q:=fun c st'=>c=(none,())∧SB κ a0 st'∧pendingOf st'=pendingOf st∧Sr L (arrOf st') lo (lo+n)∧∀i,i< lo∨lo+n≤i→at' (arrOf st') i=at' (arrOf st) i) ?step ?fin ?init) ?post)
 case post=>
  rintro c st' ⟨rfl,h1,h2,h3,h4⟩
  exact zD (h st' h1 h2 h3 h4)
 case init=>
  refine⟨rfl,B,rfl,fun i j h1 h2 h3=>?_,fun i _=>rfl⟩
  exact hs i j h1 h2 (by omega)
 case fin=>
  rintro c st' ⟨hc,h1,h2,h3,h4⟩
  rw[show min (max (max ok 1) n) n=n by omega]at h3
  exact⟨hc,h1,h2,h3,h4⟩
 case step=>
  rintro k c st' hak hkn ⟨rfl,B',hp,hs',hout⟩
  rw[show min k n=k by omega]at hs'
  have hsz:=B'.size
  refine zy (C4 (Av (I:=fun x c st''=>st''=st'∧∃l r,c=(none,l,r)∧l≤r∧r≤k∧r- l≤k- x∧
    (∀i,i< l→L (at' (arrOf st') (lo+i)) (at' (arrOf st') (lo+k))=true)∧(∀i,r≤i→i< k→L (at' (arrOf st') (lo+k)) (at' (arrOf st') (lo+i))=true))
   (Q:=fun c st''=>st''=st'∧∃l r,c=(none,l,r)∧l≤k∧
    (∀i,i< l→L (at' (arrOf st') (lo+i)) (at' (arrOf st') (lo+k))=true)∧(∀i,l≤i→i< k→L (at' (arrOf st') (lo+k)) (at' (arrOf st') (lo+i))=true)) ?istep ?ifin ?iinit) ?ipost)
  case iinit=>exact⟨rfl,0,k,rfl,by omega,by omega,by omega,fun i hi=>by omega,fun i h1 h2=>by omega⟩
  case ifin=>
   rintro c st'' ⟨rfl,l,r,rfl,hlr,hrk,hm,hlo,hhi⟩
   have:l=r:=by omega
   subst this
   exact⟨rfl,l,l,rfl,hrk,hlo,hhi⟩
  case istep=>
   rintro x c st'' _ hxk ⟨rfl,l,r,rfl,hlr,hrk,hm,hlo,hhi⟩
   dsimp only
   by_cases hge:l≥r
   ·rw[if_pos hge]
    have:l=r:=by omega
    subst this
    exact zD ⟨rfl,l,l,rfl,hrk,hlo,hhi⟩
   ·rw[if_neg hge]
    refine zy (gy O hU B' (by omega) (by omega) ?_)
    have uu:∀i,i≤k→U (at' (arrOf st'') (lo+i)):=fun i hi=>B'.u hU (by omega)
    cases hless:L (at' (arrOf st'') (lo+k)) (at' (arrOf st'') (lo+(l+r)/ 2))with
    | true =>
     simp only[if_true]
     refine zD ⟨rfl,l,(l+r)/ 2,rfl,by omega,by omega,by omega,hlo,fun i h1 h2=>?_⟩
     by_cases y:i=(l+r)/ 2
     ·rw[y];exact hless
     ·exact O.tr _ _ _ (uu _ (by omega)) (uu _ (by omega)) (uu _ (by omega)) hless (hs' _ _ (by omega) (by omega) (by omega))
    | false =>
     simp only[A5,if_false]
     have q:=O.tot _ _ (uu _ (by omega)) (uu _ (by omega)) (B'.ne nd (by omega) (by omega) (by omega)) hless
     refine zD ⟨rfl,(l+r)/ 2+1,r,rfl,by omega,by omega,by omega,fun i h1=>?_,hhi⟩
     by_cases y:i=(l+r)/ 2
     ·rw[y];exact q
     ·exact O.tr _ _ _ (uu _ (by omega)) (uu _ (by omega)) (uu _ (by omega)) (hs' _ _ (by omega) (by omega) (by omega)) q
  case ipost=>
   rintro c st'' ⟨rfl,l,r,rfl,hlk,hlo,hhi⟩
   show wpS _ _ _ _ (do moveDown' (lo+k) (lo+l);pure (A3 (none,()))) _ _
   rw[moveDown'_eq]
   have e1:∀i,at' (bubble (arrOf st'') (lo+k) (lo+k- (lo+l))) i=if i=lo+l then at' (arrOf st'') (lo+k)else if lo+l< i∧i≤lo+k then at' (arrOf st'') (i- 1)else at' (arrOf st'') i:=fun i=>by
    rw[pL (by omega) (by omega),show lo+k- (lo+k- (lo+l))=lo+l by omega]
   refine zy (Bc (zD ⟨rfl,B'.set (bubble_perm _ _ _),hp,?_,fun i hi=>?_⟩))
   ·rw[show min (k+1) n=k+1 by omega]
    intro i j h1 h2 h3
    show L (at' (bubble (arrOf st'') (lo+k) (lo+k- (lo+l))) i) (at' (bubble (arrOf st'') (lo+k) (lo+k- (lo+l))) j)=true
    rw[e1,e1]
    have hlo':∀i,lo≤i→i< lo+l→L (at' (arrOf st'') i) (at' (arrOf st'') (lo+k))=true:=fun i h1 h2=>by
     have:=hlo (i- lo) (by omega);rwa [show lo+(i- lo)=i by omega]at this
    have hhi':∀i,lo+l≤i→i< lo+k→L (at' (arrOf st'') (lo+k)) (at' (arrOf st'') i)=true:=fun i h1 h2=>by
     have:=hhi (i- lo) (by omega) (by omega);rwa [show lo+(i- lo)=i by omega]at this
    repeat' split
    all_goals first
     | (exfalso;omega)
     | exact hlo' _ (by omega) (by omega)
     | exact hhi' _ (by omega) (by omega)
     | exact hs' _ _ (by omega) (by omega) (by omega)
   ·show at' (bubble (arrOf st'') (lo+k) (lo+k- (lo+l))) i=_
    rw[e1,if_neg (by omega),if_neg (by omega)]
    exact hout i hi
end
section
variable {M:Ey} {A:Ai} {E:zl→zq→Prop} {s:zq} {κ:Dl} {U:zE→Prop} {L:zE→zE→Bool} {a0:List zE} {st:B0}
theorem x8 (O:LtOk M A E s κ U L) (hU:∀x∈a0,U x) (nd:a0.Nodup) {lo nrem n0:Nat} {Q:Option (Option Nat)×Nat→B0→Prop} (hn:lo+nrem≤a0.length) (h1:1≤n0) (h2:n0≤nrem) (B:SB κ a0 st) (hs:Sr L (arrOf st) lo (lo+n0))
  (h:∀n,n0≤n→n≤nrem→Sr L (arrOf st) lo (lo+n)→(n=nrem∨L (at' (arrOf st) (lo+n)) (at' (arrOf st) (lo+n- 1))=true)→Q (none,n) st):
  wpS M A E s (forIn [n0:nrem] ((none:Option (Option Nat)),n0) fun _ c=>do
   let some smaller ←ltAt' (lo+c.2) (lo+c.2- 1) | pure (zV (some none,c.2))
   if smaller=true then pure (zV (none,c.2))else pure (A3 (none,c.2+1))) Q st:=by
 refine Av (I:=fun x c st'=>st'=st∧c=(none,x)∧n0≤x∧x≤nrem∧Sr L (arrOf st) lo (lo+x)) ?step ?fin ⟨rfl,rfl,zw _,h2,hs⟩
 case fin=>
  rintro c st' ⟨rfl,rfl,q1,q2,q3⟩
  rw[show max n0 nrem=nrem by omega]at q3 ⊢
  exact h nrem h2 (zw _) q3 (.inl rfl)
 case step=>
  rintro x c st' hx1 hx2 ⟨rfl,rfl,q1,q2,q3⟩
  dsimp only
  have uu:∀i,i< a0.length→U (at' (arrOf st') i):=fun i hi=>B.u hU hi
  refine zy (gy O hU B (by omega) (by omega) ?_)
  cases hless:L (at' (arrOf st') (lo+x)) (at' (arrOf st') (lo+x- 1))with
  | true =>
   dsimp only
   rw[if_pos rfl]
   exact zD (h x q1 q2 q3 (.inr hless))
  | false =>
   dsimp only
   rw[if_neg (by decide)]
   have q:=O.tot _ _ (uu _ (by omega)) (uu _ (by omega)) (B.ne nd (by omega) (by omega) (by omega)) hless
   refine zD ⟨rfl,rfl,by omega,by omega,fun i j g1 g2 g3=>?_⟩
   by_cases z:j< lo+x
   ·exact q3 i j g1 g2 z
   ·have:j=lo+x:=by omega
    subst this
    by_cases y:i=lo+x- 1
    ·rw[y];exact q
    ·exact O.tr _ _ _ (uu _ (by omega)) (uu _ (by omega)) (uu _ (by omega)) (q3 i (lo+x- 1) g1 (by omega) (by omega)) q
theorem x9 (O:LtOk M A E s κ U L) (hU:∀x∈a0,U x) (nd:a0.Nodup) {lo nrem n0:Nat} {Q:Option (Option Nat)×Nat×Nat→B0→Prop} (hn:lo+nrem≤a0.length) (h1:2≤n0) (h2:n0≤nrem) (B:SB κ a0 st) (hs:∀i j,lo≤i→i< j→j< lo+n0→L (at' (arrOf st) j) (at' (arrOf st) i)=true)
  (h:∀n,n0≤n→n≤nrem→(∀i j,lo≤i→i< j→j< lo+n→L (at' (arrOf st) j) (at' (arrOf st) i)=true)→Q (none,n,0) st):
  wpS M A E s (forIn [n0:nrem] ((none:Option (Option Nat)),n0,0) fun _ c=>do
   let some smaller ←ltAt' (lo+c.2.1) (lo+c.2.1- 1) | pure (zV (some none,c.2.1,c.2.2))
   if smaller=true then
    if c.2.2> 0 then
     reverseSlice' (lo+c.2.1- (c.2.2+1)) (lo+c.2.1)
     pure (A3 (none,c.2.1+1,0))
    else pure (A3 (none,c.2.1+1,0))
   else
    let some larger ←ltAt' (lo+c.2.1- 1) (lo+c.2.1) | pure (zV (some none,c.2.1,c.2.2))
    if larger=true then pure (zV (none,c.2.1,c.2.2))else pure (A3 (none,c.2.1+1,c.2.2+1))) Q st:=by
 refine Av (I:=fun x c st'=>st'=st∧c=(none,x,0)∧n0≤x∧x≤nrem∧∀i j,lo≤i→i< j→j< lo+x→L (at' (arrOf st) j) (at' (arrOf st) i)=true) ?step ?fin ⟨rfl,rfl,zw _,h2,hs⟩
 case fin=>
  rintro c st' ⟨rfl,rfl,q1,q2,q3⟩
  rw[show max n0 nrem=nrem by omega]at q3 ⊢
  exact h nrem h2 (zw _) q3
 case step=>
  rintro x c st' hx1 hx2 ⟨rfl,rfl,q1,q2,q3⟩
  dsimp only
  have uu:∀i,i< a0.length→U (at' (arrOf st') i):=fun i hi=>B.u hU hi
  refine zy (gy O hU B (by omega) (by omega) ?_)
  cases hless:L (at' (arrOf st') (lo+x)) (at' (arrOf st') (lo+x- 1))with
  | true =>
   dsimp only
   rw[if_pos rfl,if_neg (by omega)]
   refine zD ⟨rfl,rfl,by omega,by omega,fun i j g1 g2 g3=>?_⟩
   by_cases z:j< lo+x
   ·exact q3 i j g1 g2 z
   ·have:j=lo+x:=by omega
    subst this
    by_cases y:i=lo+x- 1
    ·rw[y];exact hless
    ·exact O.tr _ _ _ (uu _ (by omega)) (uu _ (by omega)) (uu _ (by omega)) hless (q3 i (lo+x- 1) g1 (by omega) (by omega))
  | false =>
   dsimp only
   rw[if_neg (by decide)]
   have q:=O.tot _ _ (uu _ (by omega)) (uu _ (by omega)) (B.ne nd (by omega) (by omega) (by omega)) hless
   refine zy (gy O hU B (by omega) (by omega) ?_)
   rw[q]
   dsimp only
   rw[if_pos rfl]
   exact zD (h x q1 q2 q3)
theorem vW (O:LtOk M A E s κ U L) (hU:∀x∈a0,U x) (nd:a0.Nodup) {lo nrem:Nat} {Q:Option Nat→B0→Prop} (hn:lo+nrem≤a0.length) (h1:1≤nrem) (B:SB κ a0 st)
  (h:∀n st',1≤n→n≤nrem→SB κ a0 st'→pendingOf st'=pendingOf st→Sr L (arrOf st') lo (lo+n)→(∀i,i< lo∨lo+nrem≤i→at' (arrOf st') i=at' (arrOf st) i)→Q (some n) st'):wpS M A E s (countRun' lo nrem) Q st:=by
 rw[countRun'_eq]
 refine zy (x8 O hU nd hn (zw _) h1 B (fun i j g1 g2 g3=>by omega) fun n n1 n2 n3 n4=>?_)
 dsimp only
 by_cases z:n=nrem
 ·rw[if_pos (by simpa using z)]
  exact zD (h n st n1 n2 B rfl n3 fun _ _=>rfl)
 rw[if_neg (by simpa using z)]
 have n5:L (at' (arrOf st) (lo+n)) (at' (arrOf st) (lo+n- 1))=true:=n4.resolve_left z
 by_cases y:n> 1
 ·rw[if_pos y]
  refine zy (gy O hU B (by omega) (by omega) ?_)
  rw[n3 lo (lo+n- 1) (zw _) (by omega) (by omega)]
  dsimp only
  rw[if_pos rfl]
  exact zD (h n st n1 n2 B rfl n3 fun _ _=>rfl)
 rw[if_neg y]
 have:n=1:=by omega
 subst this
 refine zy (Ek (BC ⟨rfl,?_⟩))
 refine zy (x9 O hU nd hn (zw _) (by omega) B (fun i j g1 g2 g3=>?_) fun m m1 m2 m3=>?_)
 ·have:i=lo∧j=lo+1:=by omega
  rw[this.1,this.2];exact n5
 dsimp only
 rw[if_neg (by omega)]
 rw[reverseSlice'_eq]
 refine zy (Bc ?_)
 have hsz:=B.size
 have e1:∀k,at' (mirror (arrOf st) lo (lo+m) ((lo+m- lo)/ 2)) k=if lo≤k∧k< lo+m then at' (arrOf st) (lo+(lo+m)- 1- k)else at' (arrOf st) k:=fun k=>pM (by omega) k
 have B2:SB κ a0 (setArr st (mirror (arrOf st) lo (lo+m) ((lo+m- lo)/ 2))):=B.set (mirror_perm _ _ _ _)
 refine zy (x8 O hU nd hn (by omega) m2 B2 (fun i j g1 g2 g3=>?_) fun k k1 k2 k3 k4=>?_)
 ·show L (at' (mirror (arrOf st) lo (lo+m) ((lo+m- lo)/ 2)) i) (at' (mirror (arrOf st) lo (lo+m) ((lo+m- lo)/ 2)) j)=true
  rw[e1,e1,if_pos (by omega),if_pos (by omega)]
  exact m3 _ _ (by omega) (by omega) (by omega)
 ·dsimp only
  refine zD (h k _ (by omega) k2 B2 rfl k3 fun i hi=>?_)
  show at' (mirror (arrOf st) lo (lo+m) ((lo+m- lo)/ 2)) i=_
  rw[e1,if_neg (by omega)]
end
def d6:Bool→zE→Array zE→Nat→Nat→Nat→StateT B0 Sem (Option Nat):=sortPriv% PySem.Builtin.gallop
def uW (left : Bool) (key : zE) (arr : Array zE) (base i : Nat) : StateT B0 Sem (Option Bool) := do
    let x ←elem' arr (base+i)
    if left then lt' x key else return (←lt' key x).map (!·)
theorem mQ (left:Bool) (key:zE) (arr:Array zE) (base n hint:Nat):d6 left key arr base n hint=(do
 let mut lastofs:=0
 let mut ofs:=1
 let mut lo:=0
 let mut hi:=0
 let some right ←uW left key arr base hint | return none
 if right then
  let maxofs:=n- hint
  for _ in [0:n]do
   if ofs≥maxofs then break
   let some more ←uW left key arr base (hint+ofs) | return none
   if !more then break
   lastofs:=ofs
   ofs:=2*ofs+1
  lo:=hint+lastofs+1
  hi:=hint+min ofs maxofs
 else
  let maxofs:=hint+1
  for _ in [0:n]do
   if ofs≥maxofs then break
   let some found ←uW left key arr base (hint- ofs) | return none
   if found then break
   lastofs:=ofs
   ofs:=2*ofs+1
  lo:=hint+1- min ofs maxofs
  hi:=hint- lastofs
 for _ in [0:n]do
  if lo≥hi then break
  let m:=lo+(hi- lo)/ 2
  let some more ←uW left key arr base m | return none
  if more then lo:=m+1 else hi:=m
 return some hi):=rfl
section
variable {M:Ey} {A:Ai} {E:zl→zq→Prop} {s:zq} {κ:Dl} {U:zE→Prop} {L:zE→zE→Bool} {st:B0}
def B' (L:zE→zE→Bool) (left:Bool) (key:zE) (arr:Array zE) (base i:Nat):Bool:=if left then L (at' arr (base+i)) key else !L key (at' arr (base+i))
theorem vX (O:LtOk M A E s κ U L) {left:Bool} {key:zE} {arr:Array zE} {base i:Nat} {Q:Option Bool→B0→Prop} (hk:U key) (hu:U (at' arr (base+i))) (hi:base+i< arr.size) (kd:kindOf st=κ) (h:Q (some (B' L left key arr base i)) st):wpS M A E s (uW left key arr base i) Q st:=by
 unfold uW
 refine zy (aX hi ?_)
 unfold B' at h
 cases left with
 | true=>exact O.lt _ _ _ _ hu hk kd h
 | false=>exact zy (O.lt _ _ _ _ hk hu kd (zD h))
theorem cJ (O:LtOk M A E s κ U L) {left:Bool} {key:zE} {arr:Array zE} {base n hint:Nat} {Q:Option Nat→B0→Prop} (hk:U key) (hu:∀i,i< n→U (at' arr (base+i))) (hz:base+n≤arr.size) (hh:hint< n) (kd:kindOf st=κ)
  (mono:∀i j,i< j→j< n→B' L left key arr base j=true→B' L left key arr base i=true)
  (h:∀k,k≤n→(∀i,i< n→(B' L left key arr base i=true↔i< k))→Q (some k) st):wpS M A E s (d6 left key arr base n hint) Q st:=by
 rw[mQ]
 have ask:∀i (R:Option Bool→B0→Prop),i< n→R (some (B' L left key arr base i)) st→wpS M A E s (uW left key arr base i) R st:=fun i R hi hR=>vX O hk (hu i hi) (by omega) kd hR
 generalize hB:B' L left key arr base=B at*
 have fin:∀lo hi,lo≤hi→hi≤n→(∀i,i< lo→B i=true)→(∀i,hi≤i→i< n→B i=false)→∀k:Option (Option Nat)×Nat×Nat→StateT B0 Sem (Option Nat),(∀l r,k (none,l,r)=pure (some r))→wpS M A E s (do
   let c ←forIn [0:n] ((none:Option (Option Nat)),lo,hi) fun _ c=>do
    if c.2.1≥c.2.2 then pure (zV (none,c.2.1,c.2.2))else
     let some more ←uW left key arr base (c.2.1+(c.2.2- c.2.1)/ 2) | pure (zV (some none,c.2.1,c.2.2))
     if more=true then pure (A3 (none,c.2.1+(c.2.2- c.2.1)/ 2+1,c.2.2))else pure (A3 (none,c.2.1,c.2.1+(c.2.2- c.2.1)/ 2))
   k c) Q st:=by
  intro lo hi hlo hhi h1 h2 k hk'
  refine zy (Av (I:=fun x c st'=>st'=st∧∃l r,c=(none,l,r)∧l≤r∧r≤n∧r- l≤n- x∧(∀i,i< l→B i=true)∧∀i,r≤i→i< n→B i=false) ?step ?fin ⟨rfl,lo,hi,rfl,hlo,hhi,by omega,h1,h2⟩)
  case fin=>
   rintro c st' ⟨rfl,l,r,rfl,q1,q2,q3,q4,q5⟩
   have:l=r:=by omega
   subst this
   rw[hk']
   refine zD (h l q2 fun i hi=>⟨fun z=>?_,q4 i⟩)
   by_cases y:i< l
   ·exact y
   ·rw[q5 i (by omega) hi]at z;cases z
  case step=>
   rintro x c st' _ hx ⟨rfl,l,r,rfl,q1,q2,q3,q4,q5⟩
   dsimp only
   by_cases z:l≥r
   ·rw[if_pos z]
    have:l=r:=by omega
    subst this
    refine zD ?_
    show wpS M A E s (k (none,l,l)) Q st'
    rw[hk']
    refine zD (h l q2 fun i hi=>⟨fun z=>?_,q4 i⟩)
    by_cases y:i< l
    ·exact y
    ·rw[q5 i (by omega) hi]at z;cases z
   ·rw[if_neg z]
    refine zy (ask _ _ (by omega) ?_)
    cases hm:B (l+(r- l)/ 2)with
    | true =>
     dsimp only
     rw[if_pos rfl]
     refine zD ⟨rfl,_,_,rfl,by omega,q2,by omega,fun i hi=>?_,q5⟩
     by_cases y:i=l+(r- l)/ 2
     ·rw[y];exact hm
     ·exact mono i _ (by omega) (by omega) hm
    | false =>
     dsimp only
     rw[if_neg (by decide)]
     refine zD ⟨rfl,_,_,rfl,by omega,by omega,by omega,q4,fun i h1 h2=>?_⟩
     cases e:B i with
     | false=>rfl
     | true =>
      by_cases y:i=l+(r- l)/ 2
      ·rw[y]at e;rw[e]at hm;exact hm
      ·rw[mono _ i (by omega) h2 e]at hm;exact hm
 refine zy (ask hint _ hh ?_)
 cases hr:B hint with
 | true =>
  dsimp only
  rw[if_pos rfl]
  refine zy (C4 (Av (I:=fun x c st'=>st'=st∧∃la o,c=(none,la,o)∧la< o∧x< o∧hint+la< n∧B (hint+la)=true) (Q:=fun c st'=>st'=st∧∃la o,c=(none,la,o)∧la< o∧hint+la< n∧B (hint+la)=true∧(o≥n- hint∨(hint+o< n∧B (hint+o)=false))) ?step ?fin ?init) ?post)
  case init=>exact⟨rfl,0,1,rfl,by omega,by omega,by omega,by simpa using hr⟩
  case fin=>
   rintro c st' ⟨rfl,la,o,rfl,q1,q2,q3,q4⟩
   exact⟨rfl,la,o,rfl,q1,q3,q4,.inl (by omega)⟩
  case step=>
   rintro x c st' _ hx ⟨rfl,la,o,rfl,q1,q2,q3,q4⟩
   dsimp only
   by_cases z:o≥n- hint
   ·rw[if_pos z]
    exact zD ⟨rfl,la,o,rfl,q1,q3,q4,.inl z⟩
   ·rw[if_neg z]
    refine zy (ask _ _ (by omega) ?_)
    cases hm:B (hint+o)with
    | true=>exact zD ⟨rfl,o,2*o+1,rfl,by omega,by omega,by omega,hm⟩
    | false=>exact zD ⟨rfl,la,o,rfl,q1,q3,q4,.inr ⟨by omega,hm⟩⟩
  case post=>
   rintro c st' ⟨rfl,la,o,rfl,q1,q3,q4,q5⟩
   dsimp only
   have k1:∀i,i< hint+la+1→B i=true:=fun i hi=>by
    by_cases y:i=hint+la
    ·rw[y];exact q4
    ·exact mono i _ (by omega) q3 q4
   refine fin (hint+la+1) (hint+min o (n- hint)) (by omega) (by omega) k1 (fun i h1 h2=>?_) _ (fun _ _=>rfl)
   rcases q5 with q5 | ⟨q5,q6⟩
   ·omega
   ·cases e:B i with
    | false=>rfl
    | true =>
     by_cases y:i=hint+o
     ·rw[y]at e;rw[e]at q6;exact q6
     ·rw[mono _ i (by omega) h2 e]at q6;exact q6
 | false =>
  dsimp only
  rw[if_neg (by decide)]
  refine zy (C4 (Av (I:=fun x c st'=>st'=st∧∃la o,c=(none,la,o)∧la< o∧x< o∧la≤hint∧B (hint- la)=false) (Q:=fun c st'=>st'=st∧∃la o,c=(none,la,o)∧la< o∧la≤hint∧B (hint- la)=false∧(o≥hint+1∨(o≤hint∧B (hint- o)=true))) ?step ?fin ?init) ?post)
  case init=>exact⟨rfl,0,1,rfl,by omega,by omega,by omega,by simpa using hr⟩
  case fin=>
   rintro c st' ⟨rfl,la,o,rfl,q1,q2,q3,q4⟩
   exact⟨rfl,la,o,rfl,q1,q3,q4,.inl (by omega)⟩
  case step=>
   rintro x c st' _ hx ⟨rfl,la,o,rfl,q1,q2,q3,q4⟩
   dsimp only
   by_cases z:o≥hint+1
   ·rw[if_pos z]
    exact zD ⟨rfl,la,o,rfl,q1,q3,q4,.inl z⟩
   ·rw[if_neg z]
    refine zy (ask _ _ (by omega) ?_)
    cases hm:B (hint- o)with
    | true=>exact zD ⟨rfl,la,o,rfl,q1,q3,q4,.inr ⟨by omega,hm⟩⟩
    | false=>exact zD ⟨rfl,o,2*o+1,rfl,by omega,by omega,by omega,hm⟩
  case post=>
   rintro c st' ⟨rfl,la,o,rfl,q1,q3,q4,q5⟩
   dsimp only
   refine fin (hint+1- min o (hint+1)) (hint- la) (by omega) (by omega) (fun i hi=>?_) (fun i h1 h2=>?_) _ (fun _ _=>rfl)
   ·rcases q5 with q5 | ⟨q5,q6⟩
    ·omega
    ·by_cases y:i=hint- o
     ·rw[y];exact q6
     ·exact mono i _ (by omega) (by omega) q6
   ·cases e:B i with
    | false=>rfl
    | true =>
     by_cases y:i=hint- la
     ·rw[y]at e;rw[e]at q4;exact q4
     ·rw[mono _ i (by omega) h2 e]at q4;exact q4
end
def ext' (xs:Array zE) (a b:Nat):List zE:=(xs.extract a b).toList
theorem cX (xs:Array zE) (a b:Nat):ext' xs a b=(xs.toList.drop a).take (b- a):=by unfold ext';rw[Array.toList_extract,List.extract_eq_drop_take]
theorem bC {xs:Array zE} {a b:Nat} (hb:b≤xs.size) {x:zE} :x∈ext' xs a b↔∃i,a≤i∧i< b∧x=at' xs i:=by
 rw[cX,D0]
 constructor
 ·rintro ⟨i,hi⟩
  have hlt:i< b- a:=by
   have:=(zB.mp hi).1
   simp at this;omega
  rw[Ag hlt,Ar,zC,cS (by omega)]at hi
  cases hi
  exact⟨a+i,by omega,by omega,rfl⟩
 ·rintro ⟨i,h1,h2,rfl⟩
  refine⟨i- a,?_⟩
  rw[Ag (by omega),Ar,zC,show a+(i- a)=i by omega,cS (by omega)]
theorem fz {L:zE→zE→Bool} {xs:Array zE} {a b lo hi:Nat} (h:Sr L xs lo hi) (ha:lo≤a) (hb:b≤hi) (hs:hi≤xs.size):(ext' xs a b).Pairwise (fun x y=>L x y=true):=by
 rw[cX,Bp]
 intro i j hi' hj hij
 have hj':j< b- a:=by simp at hj;omega
 have e:∀k,k< b- a→(h':k< ((xs.toList.drop a).take (b- a)).length)→((xs.toList.drop a).take (b- a))[k]=at' xs (a+k):=fun k hk h'=>by
  have:=zu h'
  rw[Ag hk,Ar,zC,cS (by omega)]at this
  exact(Ad this).symm
 rw[e i (by omega),e j hj']
 exact h _ _ (by omega) (by omega) (by omega)
theorem eB {xs:Array zE} {a b:Nat} (hb:b< xs.size) (hab:a≤b):ext' xs a (b+1)=ext' xs a b++ [at' xs b]:=by
 rw[cX,cX,show b+1- a=(b- a)+1 by omega,List.take_succ,Ar,zC,show a+(b- a)=b by omega,cS hb]
 rfl
theorem cT {xs:Array zE} {a b c:Nat} (h1:a≤b) (h2:b≤c):ext' xs a c=ext' xs a b++ext' xs b c:=by
 rw[cX,cX,cX,show c- a=(b- a)+(c- b) by omega,List.take_add,Gn,show a+(b- a)=b by omega]
theorem gz (xs:Array zE):ext' xs 0 xs.size=xs.toList:=by rw[cX,EU,Nat.sub_zero,←A4,List.take_length]
theorem d9 (xs:Array zE) (a:Nat):ext' xs a a=[]:=by rw[cX];simp
structure JL (L:zE→zE→Bool) (a b out:Array zE) (ia ib:Nat):Prop where
 pm:out.toList.Perm (ext' a 0 ia++ext' b 0 ib)
 so:out.toList.Pairwise (fun x y=>L x y=true)
 lo:∀x∈out.toList,(∀i,ia≤i→i< a.size→L x (at' a i)=true)∧∀j,ib≤j→j< b.size→L x (at' b j)=true
section
variable {L:zE→zE→Bool} {a b out:Array zE} {ia ib:Nat}
theorem JL.takeA (J:JL L a b out ia ib) (sa:Sr L a 0 a.size) {k:Nat} (hk:ia+k≤a.size) (h:∀i,ia≤i→i< ia+k→∀j,ib≤j→j< b.size→L (at' a i) (at' b j)=true) {out':Array zE} (ho:out'.toList=out.toList++ext' a ia (ia+k)):JL L a b out' (ia+k) ib:=by
 refine⟨?_,?_,fun x hx=>?_⟩
 ·rw[ho,cT (xs:=a) (zS ia) (C1 ia k),zO]
  refine(AE _ J.pm).trans ?_
  rw[zO]
  exact AM _ BG
 ·rw[ho,AS]
  refine⟨J.so,fz sa (zS _) (by omega) (zw _),fun x hx y hy=>?_⟩
  obtain⟨i,h1,h2,rfl⟩:=(bC (by omega)).mp hy
  exact(J.lo x hx).1 i h1 (by omega)
 ·rw[ho]at hx
  rcases Ac.mp hx with hx | hx
  ·exact⟨fun i h1 h2=>(J.lo x hx).1 i (by omega) h2,(J.lo x hx).2⟩
  ·obtain⟨i,h1,h2,rfl⟩:=(bC (by omega)).mp hx
   exact⟨fun i' h3 h4=>sa i i' (by omega) (by omega) h4,h i h1 h2⟩
theorem JL.takeB (J:JL L a b out ia ib) (sb:Sr L b 0 b.size) {k:Nat} (hk:ib+k≤b.size) (h:∀j,ib≤j→j< ib+k→∀i,ia≤i→i< a.size→L (at' b j) (at' a i)=true) {out':Array zE} (ho:out'.toList=out.toList++ext' b ib (ib+k)):JL L a b out' ia (ib+k):=by
 refine⟨?_,?_,fun x hx=>?_⟩
 ·rw[ho,cT (xs:=b) (zS ib) (C1 ib k),←zO]
  exact AE _ J.pm
 ·rw[ho,AS]
  refine⟨J.so,fz sb (zS _) (by omega) (zw _),fun x hx y hy=>?_⟩
  obtain⟨i,h1,h2,rfl⟩:=(bC (by omega)).mp hy
  exact(J.lo x hx).2 i h1 (by omega)
 ·rw[ho]at hx
  rcases Ac.mp hx with hx | hx
  ·exact⟨(J.lo x hx).1,fun i h1 h2=>(J.lo x hx).2 i (by omega) h2⟩
  ·obtain⟨i,h1,h2,rfl⟩:=(bC (by omega)).mp hx
   exact⟨h i h1 h2,fun i' h3 h4=>sb i i' (by omega) (by omega) h4⟩
theorem JL.fin (J:JL L a b out ia ib) (sa:Sr L a 0 a.size) (sb:Sr L b 0 b.size) (ha:ia≤a.size) (hb:ib≤b.size) (h:∀j,ib≤j→j< b.size→∀i,ia≤i→i< a.size→L (at' b j) (at' a i)=true) {r:List zE} (hr:r=out.toList++ext' b ib b.size++ext' a ia a.size):
  r.Perm (a.toList++b.toList)∧r.Pairwise (fun x y=>L x y=true):=by
 subst hr
 constructor
 ·have e1:a.toList=ext' a 0 ia++ext' a ia a.size:=by rw[←cT (zS _) ha,gz]
  have e2:b.toList=ext' b 0 ib++ext' b ib b.size:=by rw[←cT (zS _) hb,gz]
  rw[e1,e2]
  refine(AE _ (AE _ J.pm)).trans ?_
  generalize ext' a 0 ia=p
  generalize ext' a ia a.size=q
  generalize ext' b 0 ib=u
  generalize ext' b ib b.size=v
  rw[zO p,zO p,zO p]
  refine AM _ ?_
  exact BG
 ·rw[zO,AS,AS]
  refine⟨J.so,⟨fz sb (zS _) (zw _) (zw _),fz sa (zS _) (zw _) (zw _),fun x hx y hy=>?_⟩,fun x hx y hy=>?_⟩
  ·obtain⟨j,h1,h2,rfl⟩:=(bC (zw _)).mp hx
   obtain⟨i,h3,h4,rfl⟩:=(bC (zw _)).mp hy
   exact h j h1 h2 i h3 h4
  ·rcases Ac.mp hy with hy | hy
   ·obtain⟨j,h1,h2,rfl⟩:=(bC (zw _)).mp hy
    exact(J.lo x hx).2 j h1 h2
   ·obtain⟨j,h1,h2,rfl⟩:=(bC (zw _)).mp hy
    exact(J.lo x hx).1 j h1 h2
end
def iZ:Array zE→Array zE→StateT B0 Sem (Array zE):=sortPriv% PySem.Builtin.mergeLo
def gA (g:Nat):StateT B0 Sem Unit:=modify fun st=>Cs (kindOf st) (arrOf st) (pendingOf st) g (failedOf st)
theorem lF (a b:Array zE):iZ a b=(do
 rule "list.sort.merge-lo"
 let total:=a.size+b.size
 let done (out:Array zE) (ia ib:Nat):=out++a.extract ia a.size++b.extract ib b.size
 let lastOfA (out:Array zE) (ia ib:Nat):=out++b.extract ib b.size++a.extract ia a.size
 let mut out:Array zE:= #[←elem' b 0]
 let mut ia:=0
 let mut ib:=1
 if ib == b.size then return done out ia ib
 if ia+1 == a.size then return lastOfA out ia ib
 let mut minGallop:=gallopOf (←get)
 for _ in [0:total]do
  let mut acount:=0
  let mut bcount:=0
  for _ in [0:total]do
   let some bWins ←lt' (←elem' b ib) (←elem' a ia) | return done out ia ib
   if bWins then
    out:=out.push (←elem' b ib);ib:=ib+1;bcount:=bcount+1;acount:=0
    if ib == b.size then return done out ia ib
    if bcount≥minGallop then break
   else
    out:=out.push (←elem' a ia);ia:=ia+1;acount:=acount+1;bcount:=0
    if ia+1 == a.size then return lastOfA out ia ib
    if acount≥minGallop then break
  rule "list.sort.gallop"
  minGallop:=minGallop+1
  for _ in [0:total]do
   if minGallop> 1 then minGallop:=minGallop- 1
   gA minGallop
   let some k ←d6 false (←elem' b ib) a ia (a.size- ia) 0 | return done out ia ib
   acount:=k
   if k> 0 then
    out:=out++a.extract ia (ia+k);ia:=ia+k
    if ia+1 == a.size then return lastOfA out ia ib
    if ia == a.size then return done out ia ib
   out:=out.push (←elem' b ib);ib:=ib+1
   if ib == b.size then return done out ia ib
   let some k ←d6 true (←elem' a ia) b ib (b.size- ib) 0 | return done out ia ib
   bcount:=k
   if k> 0 then
    out:=out++b.extract ib (ib+k);ib:=ib+k
    if ib == b.size then return done out ia ib
   out:=out.push (←elem' a ia);ia:=ia+1
   if ia+1 == a.size then return lastOfA out ia ib
   if acount< 7 && bcount< 7 then break
  minGallop:=minGallop+1
  gA minGallop
 unsupported "internal:list.sort.merge-bound"):=rfl
section
variable {M:Ey} {A:Ai} {E:zl→zq→Prop} {s:zq} {κ:Dl} {U:zE→Prop} {L:zE→zE→Bool} {st:B0}
def bX (st st':B0):Prop:=kindOf st'=kindOf st∧arrOf st'=arrOf st∧pendingOf st'=pendingOf st∧failedOf st'=failedOf st
theorem mR (O:LtOk M A E s κ U L) {a b:Array zE} {Q:Array zE→B0→Prop} (kd:kindOf st=κ) (ua:∀i,i< a.size→U (at' a i)) (ub:∀i,i< b.size→U (at' b i)) (na:0< a.size) (nb:0< b.size) (sa:Sr L a 0 a.size) (sb:Sr L b 0 b.size)
  (ne:∀i j,i< a.size→j< b.size→at' a i≠at' b j) (h0:L (at' b 0) (at' a 0)=true) (h1:∀j,j< b.size→L (at' b j) (at' a (a.size- 1))=true)
  (h:∀r st',bX st st'→r.toList.Perm (a.toList++b.toList)→r.toList.Pairwise (fun x y=>L x y=true)→Q r st'):wpS M A E s (iZ a b) Q st:=by
 rw[lF]
 refine zy (Ek (BC ⟨rfl,?_⟩))
 dsimp only
 refine zy (aX nb ?_)
 have J0:JL L a b #[at' b 0] 0 1:=by
  refine⟨?_,CK _ _,fun x hx=>?_⟩
  ·rw[d9,eB (a:=0) (b:=0) nb (zw _),d9];exact .refl _
  ·have:x=at' b 0:=by simpa using hx
   subst this
   refine⟨fun i h2 h3=>?_,fun j h2 h3=>sb 0 j (zw _) (by omega) h3⟩
   by_cases z:i=0
   ·rw[z];exact h0
   ·exact O.tr _ _ _ (ub 0 nb) (ua 0 na) (ua i h3) h0 (sa 0 i (zw _) (by omega) h3)
 have endB:∀(out:Array zE) ia ib st',bX st st'→JL L a b out ia ib→ia≤a.size→ib=b.size→Q (out++a.extract ia a.size++b.extract ib b.size) st':=fun out ia ib st' al J h2 h3=>by
  subst h3
  have:=J.fin sa sb h2 (zw _) (fun j h3 h4=>by omega) (r:=(out++a.extract ia a.size++b.extract b.size b.size).toList) (by
   rw[Ae,Ae]
   show out.toList++ext' a ia a.size++ext' b b.size b.size=_
   rw[d9,Ba,Ba])
  exact h _ st' al this.1 this.2
 have endA:∀(out:Array zE) ia ib st',bX st st'→JL L a b out ia ib→ib≤b.size→ia+1=a.size→Q (out++b.extract ib b.size++a.extract ia a.size) st':=fun out ia ib st' al J h2 h3=>by
  have:=J.fin sa sb (by omega) h2 (fun j h4 h5 i h6 h7=>by
   have:i=a.size- 1:=by omega
   rw[this];exact h1 j h5) (r:=(out++b.extract ib b.size++a.extract ia a.size).toList) (by rw[Ae,Ae];rfl)
  exact h _ st' al this.1 this.2
 have al0:bX st st:=⟨rfl,rfl,rfl,rfl⟩
 by_cases z1:1=b.size
 ·rw[if_pos (by simpa using z1)]
  exact zD (endB _ 0 1 st al0 J0 (zS _) z1)
 rw[if_neg (by simpa using z1)]
 by_cases z2:0+1=a.size
 ·rw[if_pos (by simpa using z2)]
  exact zD (endA _ 0 1 st al0 J0 (by omega) z2)
 rw[if_neg (by simpa using z2)]
 refine zy (CS ?_)
 refine zy (C4 (Av (I:=fun x c st'=>bX st st'∧∃out ia ib g,c=(none,out,ia,ib,g)∧JL L a b out ia ib∧ia+1< a.size∧ib< b.size∧x+1≤ia+ib) (Q:=fun c st'=>bX st st'∧∃r rest,c=(some r,rest)∧Q r st') ?step ?fin ?init) ?post)
 case init=>exact⟨al0,_,_,_,_,rfl,J0,by omega,by omega,by omega⟩
 case fin=>
  rintro c st' ⟨al,out,ia,ib,g,rfl,J,q1,q2,q3⟩
  omega
 case post=>
  rintro c st' ⟨al,r,rest,rfl,hq⟩
  exact zD hq
 case step=>
  rintro x c st1 _ hx ⟨al,out,ia,ib,g,rfl,J,q1,q2,q3⟩
  dsimp only
  refine zy (C4 (Av (I:=fun y c st'=>st'=st1∧∃out ia ib ac bc,c=(none,out,ia,ib,ac,bc)∧JL L a b out ia ib∧ia+1< a.size∧ib< b.size∧x+1+y≤ia+ib)
   (Q:=fun c st'=>st'=st1∧((∃r rest,c=(some r,rest)∧Q r st')∨∃out ia ib ac bc,c=(none,out,ia,ib,ac,bc)∧JL L a b out ia ib∧ia+1< a.size∧ib< b.size∧x+2≤ia+ib)) ?step1 ?fin1 ?init1) ?post1)
  case init1=>exact⟨rfl,_,_,_,_,_,rfl,J,q1,q2,by omega⟩
  case fin1=>
   rintro c st' ⟨rfl,out,ia,ib,ac,bc,rfl,J,q1,q2,q3⟩
   exact⟨rfl,.inr ⟨_,_,_,_,_,rfl,J,q1,q2,by omega⟩⟩
  case step1=>
   rintro y c st' _ hy ⟨rfl,out,ia,ib,ac,bc,rfl,J,q1,q2,q3⟩
   dsimp only
   refine zy (aX q2 (zy (aX (by omega) (zy (O.lt _ _ _ _ (ub _ q2) (ua _ (by omega)) (al.1.trans kd) ?_)))))
   cases hw:L (at' b ib) (at' a ia)with
   | true =>
    dsimp only
    rw[if_pos rfl]
    refine zy (aX q2 ?_)
    have J':JL L a b (out.push (at' b ib)) ia (ib+1):=J.takeB sb (k:=1) (by omega) (fun j h2 h3 i h4 h5=>by
     have:j=ib:=by omega
     subst this
     by_cases z:i=ia
     ·rw[z];exact hw
     ·exact O.tr _ _ _ (ub _ q2) (ua _ (by omega)) (ua _ h5) hw (sa ia i (by omega) (by omega) h5)) (by rw[Bw,eB q2 (zw _),d9];rfl)
    by_cases z:ib+1=b.size
    ·rw[if_pos (by simpa using z)]
     exact zD ⟨rfl,.inl ⟨_,_,rfl,endB _ ia (ib+1) _ al J' (by omega) z⟩⟩
    ·rw[if_neg (by simpa using z)]
     by_cases w:bc+1≥g
     ·rw[if_pos w];exact zD ⟨rfl,.inr ⟨_,_,_,_,_,rfl,J',q1,by omega,by omega⟩⟩
     ·rw[if_neg w];exact zD ⟨rfl,_,_,_,_,_,rfl,J',q1,by omega,by omega⟩
   | false =>
    dsimp only
    rw[if_neg (by decide)]
    refine zy (aX (by omega) ?_)
    have hw':=O.tot _ _ (ub _ q2) (ua _ (by omega)) (fun e=>ne ia ib (by omega) q2 e.symm) hw
    have J':JL L a b (out.push (at' a ia)) (ia+1) ib:=J.takeA sa (k:=1) (by omega) (fun i h2 h3 j h4 h5=>by
     have:i=ia:=by omega
     subst this
     by_cases z:j=ib
     ·rw[z];exact hw'
     ·exact O.tr _ _ _ (ua _ (by omega)) (ub _ q2) (ub _ h5) hw' (sb ib j (by omega) (by omega) h5)) (by rw[Bw,eB (by omega) (zw _),d9];rfl)
    by_cases z:ia+1+1=a.size
    ·rw[if_pos (by simpa using z)]
     exact zD ⟨rfl,.inl ⟨_,_,rfl,endA _ (ia+1) ib _ al J' (by omega) z⟩⟩
    ·rw[if_neg (by simpa using z)]
     by_cases w:ac+1≥g
     ·rw[if_pos w];exact zD ⟨rfl,.inr ⟨_,_,_,_,_,rfl,J',by omega,by omega,by omega⟩⟩
     ·rw[if_neg w];exact zD ⟨rfl,_,_,_,_,_,rfl,J',by omega,by omega,by omega⟩
  case post1=>
   rintro c st' ⟨rfl,⟨r,rest,rfl,hq⟩ | ⟨out,ia,ib,ac,bc,rfl,J,q1,q2,q3⟩⟩
   ·exact zD ⟨al,_,_,rfl,hq⟩
   dsimp only
   refine zy (Ek (BC ⟨rfl,?_⟩))
   refine zy (C4 (Av (I:=fun y c st'=>bX st st'∧∃out ia ib g ac bc,c=(none,out,ia,ib,g,ac,bc)∧JL L a b out ia ib∧ia+1< a.size∧ib< b.size∧x+2≤ia+ib)
    (Q:=fun c st'=>bX st st'∧((∃r rest,c=(some r,rest)∧Q r st')∨∃out ia ib g ac bc,c=(none,out,ia,ib,g,ac,bc)∧JL L a b out ia ib∧ia+1< a.size∧ib< b.size∧x+2≤ia+ib)) ?step2 ?fin2 ?init2) ?post2)
   case init2=>exact⟨al,_,_,_,_,_,_,rfl,J,q1,q2,q3⟩
   case fin2=>exact fun c st' ⟨al,out,ia,ib,g,ac,bc,e,J,q1,q2,q3⟩=>⟨al,.inr ⟨out,ia,ib,g,ac,bc,e,J,q1,q2,q3⟩⟩
   case post2=>
    rintro c st' ⟨al,⟨r,rest,rfl,hq⟩ | ⟨out,ia,ib,g,ac,bc,rfl,J,q1,q2,q3⟩⟩
    ·exact zD ⟨al,_,_,rfl,hq⟩
    ·dsimp only
     refine zy (Bc (zD ⟨al,_,_,_,_,rfl,J,q1,q2,by omega⟩))
   case step2=>
    rintro y c st' _ hy ⟨al,out,ia,ib,g,ac,bc,rfl,J,q1,q2,q3⟩
    dsimp only
    let C:=Option (Array zE)×Array zE×Nat×Nat×Nat×Nat×Nat
    let R:ForInStep C→B0→Prop:=fun r st'=>match r with
     | .done c=>bX st st'∧((∃r rest,c=(some r,rest)∧Q r st')∨∃out ia ib g ac bc,c=(none,out,ia,ib,g,ac,bc)∧JL L a b out ia ib∧ia+1< a.size∧ib< b.size∧x+2≤ia+ib)
     | .yield c=>bX st st'∧∃out ia ib g ac bc,c=(none,out,ia,ib,g,ac,bc)∧JL L a b out ia ib∧ia+1< a.size∧ib< b.size∧x+2≤ia+ib
    have pC:∀(out:Array zE) ia ib g k k1 st',bX st st'→JL L a b out ia ib→ia+1< a.size→ib< b.size→x+2≤ia+ib→L (at' a ia) (at' b ib)=true→wpS M A E s (do
      let x ←elem' a ia
      if(ia+1+1 == a.size)=true then pure (zV (some (out.push x++b.extract ib b.size++a.extract (ia+1) a.size),out.push x,ia+1,ib,g,k,k1))
      else if(decide (k< 7) && decide (k1< 7))=true then pure (zV (none,out.push x,ia+1,ib,g,k,k1))
      else pure (A3 (none,out.push x,ia+1,ib,g,k,k1))) R st':=by
     intro out ia ib g k k1 st' al J q1 q2 q3 hab
     refine zy (aX (by omega) ?_)
     have J':JL L a b (out.push (at' a ia)) (ia+1) ib:=J.takeA sa (k:=1) (by omega) (fun i h2 h3 j h4 h5=>by
      have:i=ia:=by omega
      subst this
      by_cases z:j=ib
      ·rw[z];exact hab
      ·exact O.tr _ _ _ (ua _ (by omega)) (ub _ q2) (ub _ h5) hab (sb ib j (by omega) (by omega) h5)) (by rw[Bw,eB (by omega) (zw _),d9];rfl)
     by_cases z:ia+1+1=a.size
     ·rw[if_pos (by simpa using z)]
      exact zD ⟨al,.inl ⟨_,_,rfl,endA _ (ia+1) ib _ al J' (by omega) z⟩⟩
     ·rw[if_neg (by simpa using z)]
      by_cases w:(decide (k< 7) && decide (k1< 7))=true
      ·rw[if_pos w];exact zD ⟨al,.inr ⟨_,_,_,_,_,_,rfl,J',by omega,by omega,by omega⟩⟩
      ·rw[if_neg w];exact zD ⟨al,_,_,_,_,_,_,rfl,J',by omega,by omega,by omega⟩
    have pB:∀(out:Array zE) ia ib g k bc st',bX st st'→JL L a b out ia ib→ia+1< a.size→ib< b.size→x+2≤ia+ib→L (at' b ib) (at' a ia)=true→wpS M A E s (do
      let x ←elem' b ib
      if(ib+1 == b.size)=true then pure (zV (some (out.push x++a.extract ia a.size++b.extract (ib+1) b.size),out.push x,ia,ib+1,g,k,bc))
      else
       let y ←elem' a ia
       let some k1 ←d6 true y b (ib+1) (b.size- (ib+1)) 0 | pure (zV (some (out.push x++a.extract ia a.size++b.extract (ib+1) b.size),out.push x,ia,ib+1,g,k,bc))
       if k1> 0 then
        if(ib+1+k1 == b.size)=true then pure (zV (some (out.push x++b.extract (ib+1) (ib+1+k1)++a.extract ia a.size++b.extract (ib+1+k1) b.size),out.push x++b.extract (ib+1) (ib+1+k1),ia,ib+1+k1,g,k,k1))
        else
         let z ←elem' a ia
         if(ia+1+1 == a.size)=true then pure (zV (some ((out.push x++b.extract (ib+1) (ib+1+k1)).push z++b.extract (ib+1+k1) b.size++a.extract (ia+1) a.size),(out.push x++b.extract (ib+1) (ib+1+k1)).push z,ia+1,ib+1+k1,g,k,k1))
         else if(decide (k< 7) && decide (k1< 7))=true then pure (zV (none,(out.push x++b.extract (ib+1) (ib+1+k1)).push z,ia+1,ib+1+k1,g,k,k1))
         else pure (A3 (none,(out.push x++b.extract (ib+1) (ib+1+k1)).push z,ia+1,ib+1+k1,g,k,k1))
       else
        let z ←elem' a ia
        if(ia+1+1 == a.size)=true then pure (zV (some ((out.push x).push z++b.extract (ib+1) b.size++a.extract (ia+1) a.size),(out.push x).push z,ia+1,ib+1,g,k,k1))
        else if(decide (k< 7) && decide (k1< 7))=true then pure (zV (none,(out.push x).push z,ia+1,ib+1,g,k,k1))
        else pure (A3 (none,(out.push x).push z,ia+1,ib+1,g,k,k1))) R st':=by
     intro out ia ib g k bc st' al J q1 q2 q3 hba
     refine zy (aX q2 ?_)
     have J':JL L a b (out.push (at' b ib)) ia (ib+1):=J.takeB sb (k:=1) (by omega) (fun j h2 h3 i h4 h5=>by
      have:j=ib:=by omega
      subst this
      by_cases z:i=ia
      ·rw[z];exact hba
      ·exact O.tr _ _ _ (ub _ q2) (ua _ (by omega)) (ua _ h5) hba (sa ia i (by omega) (by omega) h5)) (by rw[Bw,eB q2 (zw _),d9];rfl)
     by_cases z:ib+1=b.size
     ·rw[if_pos (by simpa using z)]
      exact zD ⟨al,.inl ⟨_,_,rfl,endB _ ia (ib+1) _ al J' (by omega) z⟩⟩
     rw[if_neg (by simpa using z)]
     refine zy (aX (by omega) (zy (cJ O (ua _ (by omega)) (fun i hi=>ub _ (by omega)) (by omega) (by omega) (al.1.trans kd) (fun i j hij hj hB=>?_) fun k1 hk1 hB=>?_)))
     ·show L (at' b (ib+1+i)) (at' a ia)=true
      exact O.tr _ _ _ (ub _ (by omega)) (ub _ (by omega)) (ua _ (by omega)) (sb (ib+1+i) (ib+1+j) (by omega) (by omega) (by omega)) hB
     have hB':∀i,i< b.size- (ib+1)→(L (at' b (ib+1+i)) (at' a ia)=true↔i< k1):=hB
     dsimp only
     have J2:JL L a b (out.push (at' b ib)++b.extract (ib+1) (ib+1+k1)) ia (ib+1+k1):=J'.takeB sb (by omega) (fun j h2 h3 i h4 h5=>by
      have e:=(hB' (j- (ib+1)) (by omega)).mpr (by omega)
      rw[show ib+1+(j- (ib+1))=j by omega]at e
      by_cases w:i=ia
      ·rw[w];exact e
      ·exact O.tr _ _ _ (ub _ (by omega)) (ua _ (by omega)) (ua _ h5) e (sa ia i (by omega) (by omega) h5)) (by rw[Ae];rfl)
     have ab:ib+1+k1< b.size→L (at' a ia) (at' b (ib+1+k1))=true:=fun hlt=>by
      refine O.tot _ _ (ub _ hlt) (ua _ (by omega)) (fun e=>ne ia _ (by omega) hlt e.symm) ?_
      cases e:L (at' b (ib+1+k1)) (at' a ia)with
      | false=>rfl
      | true=>exact absurd ((hB' k1 (by omega)).mp e) (by omega)
     by_cases w:k1> 0
     ·rw[if_pos w]
      by_cases v:ib+1+k1=b.size
      ·rw[if_pos (by simpa using v)]
       exact zD ⟨al,.inl ⟨_,_,rfl,endB _ ia (ib+1+k1) _ al J2 (by omega) v⟩⟩
      ·rw[if_neg (by simpa using v)]
       exact pC _ _ _ _ _ _ _ al J2 q1 (by omega) (by omega) (ab (by omega))
     ·rw[if_neg w]
      have:k1=0:=by omega
      subst this
      exact pC _ _ _ _ _ _ _ al J' q1 (by omega) (by omega) (ab (by omega))
    by_cases w:g> 1
    ·rw[if_pos w]
     refine zy (Bc (zy (aX q2 (zy (cJ O (ub _ q2) (fun i hi=>ua _ (by omega)) (by omega) (by omega) (al.1.trans kd) (fun i j hij hj hB=>?_) fun k hk hB=>?_)))))
     ·have hB':(!L (at' b ib) (at' a (ia+j)))=true:=hB
      show(!L (at' b ib) (at' a (ia+i)))=true
      cases e:L (at' b ib) (at' a (ia+i))with
      | false=>rfl
      | true =>
       rw[O.tr _ _ _ (ub _ q2) (ua _ (by omega)) (ua _ (by omega)) e (sa (ia+i) (ia+j) (by omega) (by omega) (by omega))]at hB'
       exact hB'
     have hB':∀i,i< a.size- ia→((!L (at' b ib) (at' a (ia+i)))=true↔i< k):=hB
     have hk1:ia+k+1≤a.size:=by
      by_cases v:a.size- 1- ia< k
      ·have e:=(hB' (a.size- 1- ia) (by omega)).mpr v
       rw[show ia+(a.size- 1- ia)=a.size- 1 by omega,h1 ib q2]at e
       cases e
      ·omega
     dsimp only
     have J1:JL L a b (out++a.extract ia (ia+k)) (ia+k) ib:=J.takeA sa (by omega) (fun i h2 h3 j h4 h5=>by
      have e:=(hB' (i- ia) (by omega)).mpr (by omega)
      rw[show ia+(i- ia)=i by omega]at e
      have e2:=O.tot _ _ (ub _ q2) (ua _ (by omega)) (fun e=>ne i ib (by omega) q2 e.symm) (by simpa using e)
      by_cases v:j=ib
      ·rw[v];exact e2
      ·exact O.tr _ _ _ (ua _ (by omega)) (ub _ q2) (ub _ h5) e2 (sb ib j (by omega) (by omega) h5)) (by rw[Ae];rfl)
     have hba:L (at' b ib) (at' a (ia+k))=true:=by
      cases e:L (at' b ib) (at' a (ia+k))with
      | true=>rfl
      | false=>exact absurd ((hB' k (by omega)).mp (by rw[e];rfl)) (by omega)
     by_cases v:k> 0
     ·rw[if_pos v]
      by_cases u:ia+k+1=a.size
      ·rw[if_pos (by simpa using u)]
       exact zD ⟨al,.inl ⟨_,_,rfl,endA _ (ia+k) ib _ al J1 (by omega) u⟩⟩
      ·rw[if_neg (by simpa using u),if_neg (by simp;omega)]
       exact pB _ _ _ _ _ _ _ al J1 (by omega) q2 (by omega) hba
     ·rw[if_neg v]
      have:k=0:=by omega
      subst this
      exact pB _ _ _ _ _ _ _ al J q1 q2 (by omega) hba
    ·rw[if_neg w]
     refine zy (Bc (zy (aX q2 (zy (cJ O (ub _ q2) (fun i hi=>ua _ (by omega)) (by omega) (by omega) (al.1.trans kd) (fun i j hij hj hB=>?_) fun k hk hB=>?_)))))
     ·have hB':(!L (at' b ib) (at' a (ia+j)))=true:=hB
      show(!L (at' b ib) (at' a (ia+i)))=true
      cases e:L (at' b ib) (at' a (ia+i))with
      | false=>rfl
      | true =>
       rw[O.tr _ _ _ (ub _ q2) (ua _ (by omega)) (ua _ (by omega)) e (sa (ia+i) (ia+j) (by omega) (by omega) (by omega))]at hB'
       exact hB'
     have hB':∀i,i< a.size- ia→((!L (at' b ib) (at' a (ia+i)))=true↔i< k):=hB
     have hk1:ia+k+1≤a.size:=by
      by_cases v:a.size- 1- ia< k
      ·have e:=(hB' (a.size- 1- ia) (by omega)).mpr v
       rw[show ia+(a.size- 1- ia)=a.size- 1 by omega,h1 ib q2]at e
       cases e
      ·omega
     dsimp only
     have J1:JL L a b (out++a.extract ia (ia+k)) (ia+k) ib:=J.takeA sa (by omega) (fun i h2 h3 j h4 h5=>by
      have e:=(hB' (i- ia) (by omega)).mpr (by omega)
      rw[show ia+(i- ia)=i by omega]at e
      have e2:=O.tot _ _ (ub _ q2) (ua _ (by omega)) (fun e=>ne i ib (by omega) q2 e.symm) (by simpa using e)
      by_cases v:j=ib
      ·rw[v];exact e2
      ·exact O.tr _ _ _ (ua _ (by omega)) (ub _ q2) (ub _ h5) e2 (sb ib j (by omega) (by omega) h5)) (by rw[Ae];rfl)
     have hba:L (at' b ib) (at' a (ia+k))=true:=by
      cases e:L (at' b ib) (at' a (ia+k))with
      | true=>rfl
      | false=>exact absurd ((hB' k (by omega)).mp (by rw[e];rfl)) (by omega)
     by_cases v:k> 0
     ·rw[if_pos v]
      by_cases u:ia+k+1=a.size
      ·rw[if_pos (by simpa using u)]
       exact zD ⟨al,.inl ⟨_,_,rfl,endA _ (ia+k) ib _ al J1 (by omega) u⟩⟩
      ·rw[if_neg (by simpa using u),if_neg (by simp;omega)]
       exact pB _ _ _ _ _ _ _ al J1 (by omega) q2 (by omega) hba
     ·rw[if_neg v]
      have:k=0:=by omega
      subst this
      exact pB _ _ _ _ _ _ _ al J q1 q2 (by omega) hba
end
def j3:Array zE→Array zE→StateT B0 Sem (Array zE):=sortPriv% PySem.Builtin.mergeHi
theorem lG (a b:Array zE):j3 a b=(do
 rule "list.sort.merge-hi"
 let total:=a.size+b.size
 let done (out:Array zE) (na nb:Nat):=a.extract 0 na++b.extract 0 nb++out.reverse
 let firstOfB (out:Array zE) (na nb:Nat):=b.extract 0 nb++a.extract 0 na++out.reverse
 let mut na:=a.size- 1
 let mut nb:=b.size
 let mut out:Array zE:= #[←elem' a na]
 if na == 0 then return done out na nb
 if nb == 1 then return firstOfB out na nb
 let mut minGallop:=gallopOf (←get)
 for _ in [0:total]do
  let mut acount:=0
  let mut bcount:=0
  for _ in [0:total]do
   let some aWins ←lt' (←elem' b (nb- 1)) (←elem' a (na- 1)) | return done out na nb
   if aWins then
    na:=na- 1;out:=out.push (←elem' a na);acount:=acount+1;bcount:=0
    if na == 0 then return done out na nb
    if acount≥minGallop then break
   else
    nb:=nb- 1;out:=out.push (←elem' b nb);bcount:=bcount+1;acount:=0
    if nb == 1 then return firstOfB out na nb
    if bcount≥minGallop then break
  rule "list.sort.gallop"
  minGallop:=minGallop+1
  for _ in [0:total]do
   if minGallop> 1 then minGallop:=minGallop- 1
   gA minGallop
   let some at_ ←d6 false (←elem' b (nb- 1)) a 0 na (na- 1) | return done out na nb
   let k:=na- at_
   acount:=k
   if k> 0 then
    out:=out++(a.extract at_ na).reverse;na:=at_
    if na == 0 then return done out na nb
   nb:=nb- 1;out:=out.push (←elem' b nb)
   if nb == 1 then return firstOfB out na nb
   let some at_ ←d6 true (←elem' a (na- 1)) b 0 nb (nb- 1) | return done out na nb
   let k:=nb- at_
   bcount:=k
   if k> 0 then
    out:=out++(b.extract at_ nb).reverse;nb:=at_
    if nb == 1 then return firstOfB out na nb
    if nb == 0 then return done out na nb
   na:=na- 1;out:=out.push (←elem' a na)
   if na == 0 then return done out na nb
   if acount< 7 && bcount< 7 then break
  minGallop:=minGallop+1
  gA minGallop
 unsupported "internal:list.sort.merge-bound"):=rfl
structure JH (L:zE→zE→Bool) (a b out:Array zE) (na nb:Nat):Prop where
 pm:out.toList.reverse.Perm (ext' a na a.size++ext' b nb b.size)
 so:out.toList.reverse.Pairwise (fun x y=>L x y=true)
 hi:∀x∈out.toList,(∀i,i< na→L (at' a i) x=true)∧∀j,j< nb→L (at' b j) x=true
section
variable {L:zE→zE→Bool} {a b out:Array zE} {na nb:Nat}
theorem JH.takeA (J:JH L a b out na nb) (sa:Sr L a 0 a.size) (hn:na≤a.size) {m:Nat} (hm:m≤na) (h:∀i,m≤i→i< na→∀j,j< nb→L (at' b j) (at' a i)=true) {out':Array zE} (ho:out'.toList.reverse=ext' a m na++out.toList.reverse):JH L a b out' m nb:=by
 have mem:∀x,x∈out'.toList↔x∈ext' a m na∨x∈out.toList:=fun x=>by rw[←Bs,ho,Ac,Bs]
 refine⟨?_,?_,fun x hx=>?_⟩
 ·rw[ho,cT (xs:=a) hm hn,zO]
  exact AM _ J.pm
 ·rw[ho,AS]
  refine⟨fz sa (zS _) hn (zw _),J.so,fun x hx y hy=>?_⟩
  obtain⟨i,h1,h2,rfl⟩:=(bC hn).mp hx
  exact(J.hi y (Bs.mp hy)).1 i h2
 ·rcases (mem x).mp hx with hx | hx
  ·obtain⟨i,h1,h2,rfl⟩:=(bC hn).mp hx
   exact⟨fun i' h3=>sa i' i (zS _) (by omega) (by omega),h i h1 h2⟩
  ·exact⟨fun i h1=>(J.hi x hx).1 i (by omega),(J.hi x hx).2⟩
theorem JH.takeB (J:JH L a b out na nb) (sb:Sr L b 0 b.size) (hn:nb≤b.size) {m:Nat} (hm:m≤nb) (h:∀j,m≤j→j< nb→∀i,i< na→L (at' a i) (at' b j)=true) {out':Array zE} (ho:out'.toList.reverse=ext' b m nb++out.toList.reverse):JH L a b out' na m:=by
 have mem:∀x,x∈out'.toList↔x∈ext' b m nb∨x∈out.toList:=fun x=>by rw[←Bs,ho,Ac,Bs]
 refine⟨?_,?_,fun x hx=>?_⟩
 ·rw[ho,cT (xs:=b) hm hn]
  refine(AM _ J.pm).trans ?_
  rw[←zO,←zO]
  exact AE _ BG
 ·rw[ho,AS]
  refine⟨fz sb (zS _) hn (zw _),J.so,fun x hx y hy=>?_⟩
  obtain⟨i,h1,h2,rfl⟩:=(bC hn).mp hx
  exact(J.hi y (Bs.mp hy)).2 i h2
 ·rcases (mem x).mp hx with hx | hx
  ·obtain⟨i,h1,h2,rfl⟩:=(bC hn).mp hx
   exact⟨h i h1 h2,fun i' h3=>sb i' i (zS _) (by omega) (by omega)⟩
  ·exact⟨(J.hi x hx).1,fun i h1=>(J.hi x hx).2 i (by omega)⟩
theorem JH.fin (J:JH L a b out na nb) (sa:Sr L a 0 a.size) (sb:Sr L b 0 b.size) (ha:na≤a.size) (hb:nb≤b.size) (h:∀j,j< nb→∀i,i< na→L (at' b j) (at' a i)=true) {r:List zE} (hr:r=ext' b 0 nb++ext' a 0 na++out.toList.reverse):
  r.Perm (a.toList++b.toList)∧r.Pairwise (fun x y=>L x y=true):=by
 subst hr
 constructor
 ·have e1:a.toList=ext' a 0 na++ext' a na a.size:=by rw[←cT (zS _) ha,gz]
  have e2:b.toList=ext' b 0 nb++ext' b nb b.size:=by rw[←cT (zS _) hb,gz]
  rw[e1,e2]
  refine(AM _ J.pm).trans ?_
  generalize ext' a 0 na=p
  generalize ext' a na a.size=q
  generalize ext' b 0 nb=u
  generalize ext' b nb b.size=v
  refine(AE (q++v) (BG (l₁:=u) (l₂:=p))).trans ?_
  rw[zO,zO]
  refine AM _ ?_
  rw[←zO,←zO]
  exact AE _ BG
 ·rw[zO,AS,AS]
  refine⟨fz sb (zS _) hb (zw _),⟨fz sa (zS _) ha (zw _),J.so,fun x hx y hy=>?_⟩,fun x hx y hy=>?_⟩
  ·obtain⟨i,h1,h2,rfl⟩:=(bC ha).mp hx
   exact(J.hi y (Bs.mp hy)).1 i h2
  ·obtain⟨j,h1,h2,rfl⟩:=(bC hb).mp hx
   rcases Ac.mp hy with hy | hy
   ·obtain⟨i,h3,h4,rfl⟩:=(bC ha).mp hy
    exact h j h2 i h4
   ·exact(J.hi y (Bs.mp hy)).2 j h2
end
section
variable {M:Ey} {A:Ai} {E:zl→zq→Prop} {s:zq} {κ:Dl} {U:zE→Prop} {L:zE→zE→Bool} {st:B0}
theorem lH (out:Array zE) (x:zE):(out.push x).toList.reverse=x::out.toList.reverse:=by rw[Bw,F4];rfl
theorem kD (out xs:Array zE):(out++xs.reverse).toList.reverse=xs.toList++out.toList.reverse:=by rw[Ae,F4,Dm,List.reverse_reverse]
theorem kE {xs:Array zE} {i:Nat} (h:0< i) (hi:i≤xs.size):ext' xs (i- 1) i=[at' xs (i- 1)]:=by
 have:=eB (xs:=xs) (a:=i- 1) (b:=i- 1) (by omega) (zw _)
 rw[show i- 1+1=i by omega,d9]at this
 exact this
theorem mS (O:LtOk M A E s κ U L) {a b:Array zE} {Q:Array zE→B0→Prop} (kd:kindOf st=κ) (ua:∀i,i< a.size→U (at' a i)) (ub:∀i,i< b.size→U (at' b i)) (za:0< a.size) (zb:0< b.size) (sa:Sr L a 0 a.size) (sb:Sr L b 0 b.size)
  (ne:∀i j,i< a.size→j< b.size→at' a i≠at' b j) (h0:L (at' b 0) (at' a 0)=true) (h1:∀j,j< b.size→L (at' b j) (at' a (a.size- 1))=true)
  (h:∀r st',bX st st'→r.toList.Perm (a.toList++b.toList)→r.toList.Pairwise (fun x y=>L x y=true)→Q r st'):wpS M A E s (j3 a b) Q st:=by
 have b0:∀i,i< a.size→L (at' b 0) (at' a i)=true:=fun i hi=>by
  by_cases z:i=0
  ·rw[z];exact h0
  ·exact O.tr _ _ _ (ub 0 zb) (ua 0 za) (ua i hi) h0 (sa 0 i (zw _) (by omega) hi)
 rw[lG]
 refine zy (Ek (BC ⟨rfl,?_⟩))
 dsimp only
 refine zy (aX (by omega) ?_)
 have J0:JH L a b #[at' a (a.size- 1)] (a.size- 1) b.size:=by
  refine⟨?_,CK _ _,fun x hx=>?_⟩
  ·rw[kE za (zw _),d9];exact .refl _
  ·have:x=at' a (a.size- 1):=by simpa using hx
   subst this
   exact⟨fun i h2=>sa i _ (zS _) h2 (by omega),fun j h2=>h1 j h2⟩
 have endA:∀(out:Array zE) na nb st',bX st st'→JH L a b out na nb→nb≤b.size→na=0→Q (a.extract 0 na++b.extract 0 nb++out.reverse) st':=fun out na nb st' al J h2 h3=>by
  subst h3
  have:=J.fin sa sb (zS _) h2 (fun j h3 i h4=>by omega) (r:=(a.extract 0 0++b.extract 0 nb++out.reverse).toList) (by
   rw[Ae,Ae,Dm]
   show ext' a 0 0++ext' b 0 nb++out.toList.reverse=_
   rw[d9,CF,Ba])
  exact h _ st' al this.1 this.2
 have endB:∀(out:Array zE) na nb st',bX st st'→JH L a b out na nb→na≤a.size→nb=1→Q (b.extract 0 nb++a.extract 0 na++out.reverse) st':=fun out na nb st' al J h2 h3=>by
  have:=J.fin sa sb h2 (by omega) (fun j h4 i h5=>by
   have:j=0:=by omega
   rw[this];exact b0 i (by omega)) (r:=(b.extract 0 nb++a.extract 0 na++out.reverse).toList) (by rw[Ae,Ae,Dm];rfl)
  exact h _ st' al this.1 this.2
 have al0:bX st st:=⟨rfl,rfl,rfl,rfl⟩
 by_cases z1:a.size- 1=0
 ·rw[if_pos (by simpa using z1)]
  exact zD (endA _ _ _ st al0 J0 (zw _) z1)
 rw[if_neg (by simpa using z1)]
 by_cases z2:b.size=1
 ·rw[if_pos (by simpa using z2)]
  exact zD (endB _ _ _ st al0 J0 (by omega) z2)
 rw[if_neg (by simpa using z2)]
 refine zy (CS ?_)
 refine zy (C4 (Av (I:=fun x c st'=>bX st st'∧∃na nb out g,c=(none,na,nb,out,g)∧JH L a b out na nb∧0< na∧1< nb∧na≤a.size∧nb≤b.size∧na+nb+x+1≤a.size+b.size) (Q:=fun c st'=>bX st st'∧∃r rest,c=(some r,rest)∧Q r st') ?step ?fin ?init) ?post)
 case init=>exact⟨al0,_,_,_,_,rfl,J0,by omega,by omega,by omega,by omega,by omega⟩
 case fin=>
  rintro c st' ⟨al,na,nb,out,g,rfl,J,q1,q2,q3,q4,q5⟩
  omega
 case post=>
  rintro c st' ⟨al,r,rest,rfl,hq⟩
  exact zD hq
 case step=>
  rintro x c st1 _ hx ⟨al,na,nb,out,g,rfl,J,q1,q2,q3,q4,q5⟩
  dsimp only
  have ta:∀(out:Array zE) na nb,JH L a b out na nb→0< na→na≤a.size→0< nb→nb≤b.size→L (at' b (nb- 1)) (at' a (na- 1))=true→JH L a b (out.push (at' a (na- 1))) (na- 1) nb:=fun out na nb J q1 q3 q2 q4 hw=>
   J.takeA sa q3 (m:=na- 1) (by omega) (fun i h2 h3 j h4=>by
    have:i=na- 1:=by omega
    subst this
    by_cases z:j=nb- 1
    ·rw[z];exact hw
    ·exact O.tr _ _ _ (ub _ (by omega)) (ub _ (by omega)) (ua _ (by omega)) (sb j (nb- 1) (zS _) (by omega) (by omega)) hw) (by rw[lH,kE q1 q3];rfl)
  have tb:∀(out:Array zE) na nb,JH L a b out na nb→0< nb→nb≤b.size→na≤a.size→(∀i,i< na→L (at' a i) (at' b (nb- 1))=true)→JH L a b (out.push (at' b (nb- 1))) na (nb- 1):=fun out na nb J q1 q3 q4 hw=>
   J.takeB sb q3 (m:=nb- 1) (by omega) (fun j h2 h3 i h4=>by
    have:j=nb- 1:=by omega
    subst this
    exact hw i h4) (by rw[lH,kE q1 q3];rfl)
  refine zy (C4 (Av (I:=fun y c st'=>st'=st1∧∃na nb out ac bc,c=(none,na,nb,out,ac,bc)∧JH L a b out na nb∧0< na∧1< nb∧na≤a.size∧nb≤b.size∧na+nb+x+y+1≤a.size+b.size)
   (Q:=fun c st'=>st'=st1∧((∃r rest,c=(some r,rest)∧Q r st')∨∃na nb out ac bc,c=(none,na,nb,out,ac,bc)∧JH L a b out na nb∧0< na∧1< nb∧na≤a.size∧nb≤b.size∧na+nb+x+2≤a.size+b.size)) ?step1 ?fin1 ?init1) ?post1)
  case init1=>exact⟨rfl,_,_,_,_,_,rfl,J,q1,q2,q3,q4,by omega⟩
  case fin1=>
   rintro c st' ⟨rfl,na,nb,out,ac,bc,rfl,J,q1,q2,q3,q4,q5⟩
   exact⟨rfl,.inr ⟨_,_,_,_,_,rfl,J,q1,q2,q3,q4,by omega⟩⟩
  case step1=>
   rintro y c st' _ hy ⟨rfl,na,nb,out,ac,bc,rfl,J,q1,q2,q3,q4,q5⟩
   dsimp only
   refine zy (aX (by omega) (zy (aX (by omega) (zy (O.lt _ _ _ _ (ub _ (by omega)) (ua _ (by omega)) (al.1.trans kd) ?_)))))
   cases hw:L (at' b (nb- 1)) (at' a (na- 1))with
   | true =>
    dsimp only
    rw[if_pos rfl]
    refine zy (aX (by omega) ?_)
    have J':=ta out na nb J q1 q3 (by omega) q4 hw
    by_cases z:na- 1=0
    ·rw[if_pos (by simpa using z)]
     exact zD ⟨rfl,.inl ⟨_,_,rfl,endA _ _ _ _ al J' q4 z⟩⟩
    ·rw[if_neg (by simpa using z)]
     by_cases w:ac+1≥g
     ·rw[if_pos w];exact zD ⟨rfl,.inr ⟨_,_,_,_,_,rfl,J',by omega,q2,by omega,q4,by omega⟩⟩
     ·rw[if_neg w];exact zD ⟨rfl,_,_,_,_,_,rfl,J',by omega,q2,by omega,q4,by omega⟩
   | false =>
    dsimp only
    rw[if_neg (by decide)]
    refine zy (aX (by omega) ?_)
    have hw':=O.tot _ _ (ub _ (by omega)) (ua _ (by omega)) (fun e=>ne (na- 1) (nb- 1) (by omega) (by omega) e.symm) hw
    have J':=tb out na nb J (by omega) q4 q3 (fun i hi=>by
     by_cases z:i=na- 1
     ·rw[z];exact hw'
     ·exact O.tr _ _ _ (ua _ (by omega)) (ua _ (by omega)) (ub _ (by omega)) (sa i (na- 1) (zS _) (by omega) (by omega)) hw')
    by_cases z:nb- 1=1
    ·rw[if_pos (by simpa using z)]
     exact zD ⟨rfl,.inl ⟨_,_,rfl,endB _ _ _ _ al J' q3 z⟩⟩
    ·rw[if_neg (by simpa using z)]
     by_cases w:bc+1≥g
     ·rw[if_pos w];exact zD ⟨rfl,.inr ⟨_,_,_,_,_,rfl,J',q1,by omega,q3,by omega,by omega⟩⟩
     ·rw[if_neg w];exact zD ⟨rfl,_,_,_,_,_,rfl,J',q1,by omega,q3,by omega,by omega⟩
  case post1=>
   rintro c st' ⟨rfl,⟨r,rest,rfl,hq⟩ | ⟨na,nb,out,ac,bc,rfl,J,q1,q2,q3,q4,q5⟩⟩
   ·exact zD ⟨al,_,_,rfl,hq⟩
   dsimp only
   refine zy (Ek (BC ⟨rfl,?_⟩))
   refine zy (C4 (Av (I:=fun y c st'=>bX st st'∧∃na nb out g ac bc,c=(none,na,nb,out,g,ac,bc)∧JH L a b out na nb∧0< na∧1< nb∧na≤a.size∧nb≤b.size∧na+nb+x+2≤a.size+b.size)
    (Q:=fun c st'=>bX st st'∧((∃r rest,c=(some r,rest)∧Q r st')∨∃na nb out g ac bc,c=(none,na,nb,out,g,ac,bc)∧JH L a b out na nb∧0< na∧1< nb∧na≤a.size∧nb≤b.size∧na+nb+x+2≤a.size+b.size)) ?step2 ?fin2 ?init2) ?post2)
   case init2=>exact⟨al,_,_,_,_,_,_,rfl,J,q1,q2,q3,q4,q5⟩
   case fin2=>exact fun c st' ⟨al,na,nb,out,g,ac,bc,e,J,q⟩=>⟨al,.inr ⟨na,nb,out,g,ac,bc,e,J,q⟩⟩
   case post2=>
    rintro c st' ⟨al,⟨r,rest,rfl,hq⟩ | ⟨na,nb,out,g,ac,bc,rfl,J,q1,q2,q3,q4,q5⟩⟩
    ·exact zD ⟨al,_,_,rfl,hq⟩
    ·dsimp only
     refine zy (Bc (zD ⟨al,_,_,_,_,rfl,J,q1,q2,q3,q4,by omega⟩))
   case step2=>
    rintro y c st' _ hy ⟨al,na,nb,out,g,ac,bc,rfl,J,q1,q2,q3,q4,q5⟩
    dsimp only
    let C:=Option (Array zE)×Nat×Nat×Array zE×Nat×Nat×Nat
    let R:ForInStep C→B0→Prop:=fun r st'=>match r with
     | .done c=>bX st st'∧((∃r rest,c=(some r,rest)∧Q r st')∨∃na nb out g ac bc,c=(none,na,nb,out,g,ac,bc)∧JH L a b out na nb∧0< na∧1< nb∧na≤a.size∧nb≤b.size∧na+nb+x+2≤a.size+b.size)
     | .yield c=>bX st st'∧∃na nb out g ac bc,c=(none,na,nb,out,g,ac,bc)∧JH L a b out na nb∧0< na∧1< nb∧na≤a.size∧nb≤b.size∧na+nb+x+2≤a.size+b.size
    have pC:∀(out:Array zE) na nb g k k1 st',bX st st'→JH L a b out na nb→0< na→1< nb→na≤a.size→nb≤b.size→na+nb+x+2≤a.size+b.size→L (at' b (nb- 1)) (at' a (na- 1))=true→wpS M A E s (do
      let x ←elem' a (na- 1)
      if(na- 1 == 0)=true then pure (zV (some (a.extract 0 (na- 1)++b.extract 0 nb++(out.push x).reverse),na- 1,nb,out.push x,g,k,k1))
      else if(decide (k< 7) && decide (k1< 7))=true then pure (zV (none,na- 1,nb,out.push x,g,k,k1))
      else pure (A3 (none,na- 1,nb,out.push x,g,k,k1))) R st':=by
     intro out na nb g k k1 st' al J q1 q2 q3 q4 q5 hba
     refine zy (aX (by omega) ?_)
     have J':=ta out na nb J q1 q3 (by omega) q4 hba
     by_cases z:na- 1=0
     ·rw[if_pos (by simpa using z)]
      exact zD ⟨al,.inl ⟨_,_,rfl,endA _ _ _ _ al J' q4 z⟩⟩
     ·rw[if_neg (by simpa using z)]
      by_cases w:(decide (k< 7) && decide (k1< 7))=true
      ·rw[if_pos w];exact zD ⟨al,.inr ⟨_,_,_,_,_,_,rfl,J',by omega,q2,by omega,q4,by omega⟩⟩
      ·rw[if_neg w];exact zD ⟨al,_,_,_,_,_,_,rfl,J',by omega,q2,by omega,q4,by omega⟩
    have pB:∀(out:Array zE) na nb g k bc st',bX st st'→JH L a b out na nb→0< na→1< nb→na≤a.size→nb≤b.size→na+nb+x+2≤a.size+b.size→(∀i,i< na→L (at' a i) (at' b (nb- 1))=true)→wpS M A E s (do
      let x ←elem' b (nb- 1)
      if(nb- 1 == 1)=true then pure (zV (some (b.extract 0 (nb- 1)++a.extract 0 na++(out.push x).reverse),na,nb- 1,out.push x,g,k,bc))
      else
       let y ←elem' a (na- 1)
       let some m ←d6 true y b 0 (nb- 1) (nb- 1- 1) | pure (zV (some (a.extract 0 na++b.extract 0 (nb- 1)++(out.push x).reverse),na,nb- 1,out.push x,g,k,bc))
       if nb- 1- m> 0 then
        if(m == 1)=true then pure (zV (some (b.extract 0 m++a.extract 0 na++(out.push x++(b.extract m (nb- 1)).reverse).reverse),na,m,out.push x++(b.extract m (nb- 1)).reverse,g,k,nb- 1- m))
        else if(m == 0)=true then pure (zV (some (a.extract 0 na++b.extract 0 m++(out.push x++(b.extract m (nb- 1)).reverse).reverse),na,m,out.push x++(b.extract m (nb- 1)).reverse,g,k,nb- 1- m))
        else
         let z ←elem' a (na- 1)
         if(na- 1 == 0)=true then pure (zV (some (a.extract 0 (na- 1)++b.extract 0 m++((out.push x++(b.extract m (nb- 1)).reverse).push z).reverse),na- 1,m,(out.push x++(b.extract m (nb- 1)).reverse).push z,g,k,nb- 1- m))
         else if(decide (k< 7) && decide (nb- 1- m< 7))=true then pure (zV (none,na- 1,m,(out.push x++(b.extract m (nb- 1)).reverse).push z,g,k,nb- 1- m))
         else pure (A3 (none,na- 1,m,(out.push x++(b.extract m (nb- 1)).reverse).push z,g,k,nb- 1- m))
       else
        let z ←elem' a (na- 1)
        if(na- 1 == 0)=true then pure (zV (some (a.extract 0 (na- 1)++b.extract 0 (nb- 1)++((out.push x).push z).reverse),na- 1,nb- 1,(out.push x).push z,g,k,nb- 1- m))
        else if(decide (k< 7) && decide (nb- 1- m< 7))=true then pure (zV (none,na- 1,nb- 1,(out.push x).push z,g,k,nb- 1- m))
        else pure (A3 (none,na- 1,nb- 1,(out.push x).push z,g,k,nb- 1- m))) R st':=by
     intro out na nb g k bc st' al J q1 q2 q3 q4 q5 hab
     refine zy (aX (by omega) ?_)
     have J':=tb out na nb J (by omega) q4 q3 hab
     by_cases z:nb- 1=1
     ·rw[if_pos (by simpa using z)]
      exact zD ⟨al,.inl ⟨_,_,rfl,endB _ _ _ _ al J' q3 z⟩⟩
     rw[if_neg (by simpa using z)]
     refine zy (aX (by omega) (zy (cJ O (ua _ (by omega)) (fun i hi=>ub _ (by omega)) (by omega) (by omega) (al.1.trans kd) (fun i j hij hj hB=>?_) fun m hm hB=>?_)))
     ·have hB':L (at' b (0+j)) (at' a (na- 1))=true:=hB
      show L (at' b (0+i)) (at' a (na- 1))=true
      rw[BM]at hB' ⊢
      exact O.tr _ _ _ (ub _ (by omega)) (ub _ (by omega)) (ua _ (by omega)) (sb i j (zS _) hij (by omega)) hB'
     have hB':∀i,i< nb- 1→(L (at' b i) (at' a (na- 1))=true↔i< m):=fun i hi=>by
      have e:L (at' b (0+i)) (at' a (na- 1))=true↔i< m:=hB i hi
      rwa [BM]at e
     have m1:1≤m:=(hB' 0 (by omega)).mp (b0 _ (by omega))
     dsimp only
     have J2:JH L a b (out.push (at' b (nb- 1))++(b.extract m (nb- 1)).reverse) na m:=J'.takeB sb (by omega) hm (fun j h2 h3 i h4=>by
      have e:L (at' b j) (at' a (na- 1))=false:=by
       cases e:L (at' b j) (at' a (na- 1))with
       | false=>rfl
       | true=>exact absurd ((hB' j h3).mp e) (by omega)
      have e2:=O.tot _ _ (ub _ (by omega)) (ua _ (by omega)) (fun e=>ne (na- 1) j (by omega) (by omega) e.symm) e
      by_cases w:i=na- 1
      ·rw[w];exact e2
      ·exact O.tr _ _ _ (ua _ (by omega)) (ua _ (by omega)) (ub _ (by omega)) (sa i (na- 1) (zS _) (by omega) (by omega)) e2) (by rw[kD];rfl)
     have ba:L (at' b (m- 1)) (at' a (na- 1))=true:=(hB' (m- 1) (by omega)).mpr (by omega)
     by_cases w:nb- 1- m> 0
     ·rw[if_pos w]
      by_cases v:m=1
      ·rw[if_pos (by simpa using v)]
       exact zD ⟨al,.inl ⟨_,_,rfl,endB _ _ _ _ al J2 q3 v⟩⟩
      ·rw[if_neg (by simpa using v),if_neg (by simp;omega)]
       exact pC _ _ _ _ _ _ _ al J2 q1 (by omega) q3 (by omega) (by omega) ba
     ·rw[if_neg w]
      have:m=nb- 1:=by omega
      subst this
      exact pC _ _ _ _ _ _ _ al J' q1 (by omega) q3 (by omega) (by omega) ba
    by_cases w:g> 1
    ·rw[if_pos w]
     refine zy (Bc (zy (aX (by omega) (zy (cJ O (ub _ (by omega)) (fun i hi=>ua _ (by omega)) (by omega) (by omega) (al.1.trans kd) (fun i j hij hj hB=>?_) fun m hm hB=>?_)))))
     ·have hB':(!L (at' b (nb- 1)) (at' a (0+j)))=true:=hB
      show(!L (at' b (nb- 1)) (at' a (0+i)))=true
      rw[BM]at hB' ⊢
      cases e:L (at' b (nb- 1)) (at' a i)with
      | false=>rfl
      | true =>
       rw[O.tr _ _ _ (ub _ (by omega)) (ua _ (by omega)) (ua _ (by omega)) e (sa i j (zS _) hij (by omega))]at hB'
       exact hB'
     have hB':∀i,i< na→((!L (at' b (nb- 1)) (at' a i))=true↔i< m):=fun i hi=>by
      have e:(!L (at' b (nb- 1)) (at' a (0+i)))=true↔i< m:=hB i hi
      rwa [BM]at e
     dsimp only
     have J1:JH L a b (out++(a.extract m na).reverse) m nb:=J.takeA sa q3 hm (fun i h2 h3 j h4=>by
      have e:L (at' b (nb- 1)) (at' a i)=true:=by
       cases e:L (at' b (nb- 1)) (at' a i)with
       | true=>rfl
       | false=>exact absurd ((hB' i h3).mp (by rw[e];rfl)) (by omega)
      by_cases v:j=nb- 1
      ·rw[v];exact e
      ·exact O.tr _ _ _ (ub _ (by omega)) (ub _ (by omega)) (ua _ (by omega)) (sb j (nb- 1) (zS _) (by omega) (by omega)) e) (by rw[kD];rfl)
     have hab:∀i,i< m→L (at' a i) (at' b (nb- 1))=true:=fun i hi=>by
      have e:=(hB' i (by omega)).mpr hi
      exact O.tot _ _ (ub _ (by omega)) (ua _ (by omega)) (fun e=>ne i (nb- 1) (by omega) (by omega) e.symm) (by simpa using e)
     by_cases v:na- m> 0
     ·rw[if_pos v]
      by_cases u:m=0
      ·rw[if_pos (by simpa using u)]
       exact zD ⟨al,.inl ⟨_,_,rfl,endA _ _ _ _ al J1 q4 u⟩⟩
      ·rw[if_neg (by simpa using u)]
       exact pB _ _ _ _ _ _ _ al J1 (by omega) q2 (by omega) q4 (by omega) hab
     ·rw[if_neg v]
      have:m=na:=by omega
      subst this
      exact pB _ _ _ _ _ _ _ al J q1 q2 q3 q4 (by omega) hab
    ·rw[if_neg w]
     refine zy (Bc (zy (aX (by omega) (zy (cJ O (ub _ (by omega)) (fun i hi=>ua _ (by omega)) (by omega) (by omega) (al.1.trans kd) (fun i j hij hj hB=>?_) fun m hm hB=>?_)))))
     ·have hB':(!L (at' b (nb- 1)) (at' a (0+j)))=true:=hB
      show(!L (at' b (nb- 1)) (at' a (0+i)))=true
      rw[BM]at hB' ⊢
      cases e:L (at' b (nb- 1)) (at' a i)with
      | false=>rfl
      | true =>
       rw[O.tr _ _ _ (ub _ (by omega)) (ua _ (by omega)) (ua _ (by omega)) e (sa i j (zS _) hij (by omega))]at hB'
       exact hB'
     have hB':∀i,i< na→((!L (at' b (nb- 1)) (at' a i))=true↔i< m):=fun i hi=>by
      have e:(!L (at' b (nb- 1)) (at' a (0+i)))=true↔i< m:=hB i hi
      rwa [BM]at e
     dsimp only
     have J1:JH L a b (out++(a.extract m na).reverse) m nb:=J.takeA sa q3 hm (fun i h2 h3 j h4=>by
      have e:L (at' b (nb- 1)) (at' a i)=true:=by
       cases e:L (at' b (nb- 1)) (at' a i)with
       | true=>rfl
       | false=>exact absurd ((hB' i h3).mp (by rw[e];rfl)) (by omega)
      by_cases v:j=nb- 1
      ·rw[v];exact e
      ·exact O.tr _ _ _ (ub _ (by omega)) (ub _ (by omega)) (ua _ (by omega)) (sb j (nb- 1) (zS _) (by omega) (by omega)) e) (by rw[kD];rfl)
     have hab:∀i,i< m→L (at' a i) (at' b (nb- 1))=true:=fun i hi=>by
      have e:=(hB' i (by omega)).mpr hi
      exact O.tot _ _ (ub _ (by omega)) (ua _ (by omega)) (fun e=>ne i (nb- 1) (by omega) (by omega) e.symm) (by simpa using e)
     by_cases v:na- m> 0
     ·rw[if_pos v]
      by_cases u:m=0
      ·rw[if_pos (by simpa using u)]
       exact zD ⟨al,.inl ⟨_,_,rfl,endA _ _ _ _ al J1 q4 u⟩⟩
      ·rw[if_neg (by simpa using u)]
       exact pB _ _ _ _ _ _ _ al J1 (by omega) q2 (by omega) q4 (by omega) hab
     ·rw[if_neg v]
      have:m=na:=by omega
      subst this
      exact pB _ _ _ _ _ _ _ al J q1 q2 q3 q4 (by omega) hab
end
def fA:Nat→StateT B0 Sem Bool:=sortPriv% PySem.Builtin.mergeAt
def putAt (xs:Array zE) (off:Nat) (m:Array zE):Array zE:=m.toList.zipIdx.foldl (fun a (x:zE×Nat)=>a.setIfInBounds (off+x.2) x.1) xs
theorem lI (i:Nat):fA i=(do
 let s ←get
 let (some (sa,na,power),some (sb,nb,_)):=((pendingOf s)[i]?,(pendingOf s)[i+1]?) | unsupported "internal:list.sort.pending"
 set (Cs (kindOf s) (arrOf s) (((pendingOf s).setIfInBounds i (sa,na+nb,power)).eraseIdxIfInBounds (i+1)) (gallopOf s) (failedOf s))
 let some k ←d6 false (←elem' (arrOf s) sb) (arrOf s) sa na 0 | return false
 let (sa,na):=(sa+k,na- k)
 if na == 0 then return true
 let some nb ←d6 true (←elem' (arrOf s) (sa+na- 1)) (arrOf s) sb nb (nb- 1) | return false
 if nb == 0 then return true
 let x:=(arrOf s).extract sa sb
 let y:=(arrOf s).extract sb (sb+nb)
 let merged ←if na≤nb then iZ x y else j3 x y
 modify fun s=>setArr s (putAt (arrOf s) sa merged)
 return (failedOf (←get)).isNone):=rfl
theorem rK:∀(m:List zE) (off j0:Nat) (xs:Array zE),off+j0+m.length≤xs.size→
  ((m.zipIdx j0).foldl (fun a (x:zE×Nat)=>a.setIfInBounds (off+x.2) x.1) xs).size=xs.size∧∀i,at' ((m.zipIdx j0).foldl (fun a (x:zE×Nat)=>a.setIfInBounds (off+x.2) x.1) xs) i=if off+j0≤i∧i< off+j0+m.length then m.getD (i- (off+j0)) (Aw,Aw)else at' xs i
 | [],off,j0,xs,h=>⟨rfl,fun i=>by rw[if_neg (by simp)];rfl⟩
 | x :: m, off, j0, xs, h => by
  simp only[BB]at h
  have ih:=rK m off (j0+1) (xs.setIfInBounds (off+j0) x) (by rw[Ec];omega)
  rw[Eh,Ez]
  refine⟨ih.1.trans (Ec ..),fun i=>?_⟩
  rw[ih.2]
  have e:at' (xs.setIfInBounds (off+j0) x) i=if i=off+j0 then x else at' xs i:=by
   simp only[at',Ab]
   by_cases z:i=off+j0
   ·rw[if_pos z,z,Array.getElem?_setIfInBounds_self_of_lt (by omega)];rfl
   ·rw[if_neg z,Array.getElem?_setIfInBounds_ne (by omega)]
  by_cases z1:off+(j0+1)≤i∧i< off+(j0+1)+m.length
  ·rw[if_pos z1,if_pos (by simp;omega),show i- (off+j0)=(i- (off+(j0+1)))+1 by omega]
   rfl
  ·rw[if_neg z1,e]
   by_cases z2:i=off+j0
   ·rw[if_pos z2,if_pos (by simp;omega),z2,CP];rfl
   ·rw[if_neg z2,if_neg (by simp;omega)]
theorem rL {xs m:Array zE} {off:Nat} (h:off+m.size≤xs.size):(putAt xs off m).size=xs.size∧∀i,at' (putAt xs off m) i=if off≤i∧i< off+m.size then at' m (i- off)else at' xs i:=by
 have:=rK m.toList off 0 xs (by simpa using h)
 refine⟨this.1,fun i=>?_⟩
 have e:=this.2 i
 simp only[Nat.add_zero,A4]at e
 refine e.trans ?_
 by_cases z:off≤i∧i< off+m.size
 ·rw[if_pos z,if_pos z]
  simp[at',Ab,Az]
 ·rw[if_neg z,if_neg z]
theorem rM {xs m:Array zE} {off:Nat} (h:off+m.size≤xs.size):(putAt xs off m).toList=ext' xs 0 off++m.toList++ext' xs (off+m.size) xs.size:=by
 obtain⟨hs,ha⟩:=rL h
 apply Bl
 intro i
 have l1:(ext' xs 0 off).length=off:=by rw[cX];simp;omega
 by_cases z:i< xs.size
 ·rw[zC,cS (by omega),ha]
  by_cases z1:i< off
  ·rw[if_neg (by omega),zO,zT (by omega),cX,EU,Ag (by omega),zC,cS z]
  ·by_cases z2:i< off+m.size
   ·rw[if_pos (by omega),zO,zN (by omega),l1,zT (by simpa using (by omega:i- off< m.size)),zC,cS (by omega)]
   ·rw[if_neg (by omega),zN (by simp[l1];omega),cX]
    have:(ext' xs 0 off++m.toList).length=off+m.size:=by simp[l1]
    rw[this,Ag (by omega),Ar,zC,show off+m.size+(i- (off+m.size))=i by omega,cS z]
 ·have l2:(ext' xs (off+m.size) xs.size).length=xs.size- (off+m.size):=by rw[cX];simp
  rw[AL (by simp;omega),AL (by simp[l1,l2];omega)]
theorem rN {xs:Array zE} {a b i:Nat} (hb:b≤xs.size) (hi:i< b- a):at' (xs.extract a b) i=at' xs (a+i):=by
 have h1:i< (xs.extract a b).size:=by simp;omega
 have e:=cS h1
 rw[Array.getElem?_extract_of_lt (by omega)]at e
 have e2:=cS (xs:=xs) (i:=a+i) (by omega)
 rw[zM (by omega)]at e2
 exact(Ad e).symm.trans (Ad e2)
theorem rO {xs:Array zE} {a b:Nat} (hb:b≤xs.size):(xs.extract a b).size=b- a:=by simp;omega
section
variable {M:Ey} {A:Ai} {E:zl→zq→Prop} {s:zq} {κ:Dl} {U:zE→Prop} {L:zE→zE→Bool} {a0:List zE} {st:B0}
theorem mT (O:LtOk M A E s κ U L) (hU:∀x∈a0,U x) (nd:a0.Nodup) {i sa na sb nb pw pw':Nat} {Q:Bool→B0→Prop} (B:SB κ a0 st) (p1:(pendingOf st)[i]? =some (sa,na,pw)) (p2:(pendingOf st)[i+1]? =some (sb,nb,pw')) (hsb:sb=sa+na) (z1:0< na) (z2:0< nb) (hz:sb+nb≤a0.length)
  (s1:Sr L (arrOf st) sa sb) (s2:Sr L (arrOf st) sb (sb+nb))
  (h:∀st',SB κ a0 st'→pendingOf st'=((pendingOf st).setIfInBounds i (sa,na+nb,pw)).eraseIdxIfInBounds (i+1)→Sr L (arrOf st') sa (sb+nb)→(∀i,i< sa∨sb+nb≤i→at' (arrOf st') i=at' (arrOf st) i)→Q true st'):wpS M A E s (fA i) Q st:=by
 have hs:=B.size
 have uu:∀i,i< a0.length→U (at' (arrOf st) i):=fun i hi=>B.u hU hi
 have nn:∀i j,i< a0.length→j< a0.length→i≠j→at' (arrOf st) i≠at' (arrOf st) j:=fun i j hi hj hij=>B.ne nd hi hj hij
 rw[lI]
 refine zy (CS ?_)
 rw[p1,p2]
 dsimp only
 refine zy (Bc (f:=fun _=>Cs (kindOf st) (arrOf st) (((pendingOf st).setIfInBounds i (sa,na+nb,pw)).eraseIdxIfInBounds (i+1)) (gallopOf st) (failedOf st)) ?_)
 have B1:SB κ a0 (Cs (kindOf st) (arrOf st) (((pendingOf st).setIfInBounds i (sa,na+nb,pw)).eraseIdxIfInBounds (i+1)) (gallopOf st) (failedOf st)):=⟨B.kind,B.failed,B.perm⟩
 refine zy (aX (by omega) (zy (cJ O (uu _ (by omega)) (fun i hi=>uu _ (by omega)) (by omega) z1 B.kind (fun i j hij hj hB=>?_) fun k hk hB=>?_)))
 ·have hB':(!L (at' (arrOf st) sb) (at' (arrOf st) (sa+j)))=true:=hB
  show(!L (at' (arrOf st) sb) (at' (arrOf st) (sa+i)))=true
  cases e:L (at' (arrOf st) sb) (at' (arrOf st) (sa+i))with
  | false=>rfl
  | true =>
   rw[O.tr _ _ _ (uu _ (by omega)) (uu _ (by omega)) (uu _ (by omega)) e (s1 (sa+i) (sa+j) (by omega) (by omega) (by omega))]at hB'
   exact hB'
 have hB':∀i,i< na→((!L (at' (arrOf st) sb) (at' (arrOf st) (sa+i)))=true↔i< k):=hB
 have lo:∀i,sa≤i→i< sa+k→L (at' (arrOf st) i) (at' (arrOf st) sb)=true:=fun i h2 h3=>by
  have e:=(hB' (i- sa) (by omega)).mpr (by omega)
  rw[show sa+(i- sa)=i by omega]at e
  exact O.tot _ _ (uu _ (by omega)) (uu _ (by omega)) (nn _ _ (by omega) (by omega) (by omega)) (by simpa using e)
 have hi:∀i,sa+k≤i→i< sb→L (at' (arrOf st) sb) (at' (arrOf st) i)=true:=fun i h2 h3=>by
  cases e:L (at' (arrOf st) sb) (at' (arrOf st) i)with
  | true=>rfl
  | false=>exact absurd ((hB' (i- sa) (by omega)).mp (by rw[show sa+(i- sa)=i by omega,e];rfl)) (by omega)
 have lob:∀i j,sa≤i→i< sa+k→sb≤j→j< sb+nb→L (at' (arrOf st) i) (at' (arrOf st) j)=true:=fun i j h2 h3 h4 h5=>by
  by_cases y:j=sb
  ·rw[y];exact lo i h2 h3
  ·exact O.tr _ _ _ (uu _ (by omega)) (uu _ (by omega)) (uu _ (by omega)) (lo i h2 h3) (s2 sb j (zw _) (by omega) h5)
 dsimp only
 by_cases y0:na- k=0
 ·rw[if_pos (by simpa using y0)]
  refine zD (h _ B1 rfl (fun i j h2 h3 h4=>?_) fun _ _=>rfl)
  show L (at' (arrOf st) i) (at' (arrOf st) j)=true
  by_cases y1:j< sb
  ·exact s1 i j h2 h3 y1
  ·by_cases y2:sb≤i
   ·exact s2 i j y2 h3 h4
   ·exact lob i j h2 (by omega) (by omega) h4
 rw[if_neg (by simpa using y0)]
 have elast:sa+k+(na- k)- 1=sb- 1:=by omega
 refine zy (aX (by omega) (zy (cJ O (uu _ (by omega)) (fun i hi=>uu _ (by omega)) (by omega) (by omega) B.kind (fun i j hij hj hB=>?_) fun m hm hM=>?_)))
 ·have hB2:L (at' (arrOf st) (sb+j)) (at' (arrOf st) (sa+k+(na- k)- 1))=true:=hB
  show L (at' (arrOf st) (sb+i)) (at' (arrOf st) (sa+k+(na- k)- 1))=true
  exact O.tr _ _ _ (uu _ (by omega)) (uu _ (by omega)) (uu _ (by omega)) (s2 (sb+i) (sb+j) (by omega) (by omega) (by omega)) hB2
 have hM':∀i,i< nb→(L (at' (arrOf st) (sb+i)) (at' (arrOf st) (sb- 1))=true↔i< m):=fun i hi=>by
  have e:L (at' (arrOf st) (sb+i)) (at' (arrOf st) (sa+k+(na- k)- 1))=true↔i< m:=hM i hi
  rwa [elast]at e
 have m1:0< m:=(hM' 0 z2).mp (hi _ (by omega) (by omega))
 dsimp only
 rw[if_neg (by simp;omega)]
 have xz:((arrOf st).extract (sa+k) sb).size=na- k:=by rw[rO (by omega)];omega
 have yz:((arrOf st).extract sb (sb+m)).size=m:=by rw[rO (by omega)];omega
 have xa:∀i,i< na- k→at' ((arrOf st).extract (sa+k) sb) i=at' (arrOf st) (sa+k+i):=fun i hi=>rN (by omega) (by omega)
 have ya:∀i,i< m→at' ((arrOf st).extract sb (sb+m)) i=at' (arrOf st) (sb+i):=fun i hi=>rN (by omega) (by omega)
 have fin:∀(r:Array zE) st',bX (Cs (kindOf st) (arrOf st) (((pendingOf st).setIfInBounds i (sa,na+nb,pw)).eraseIdxIfInBounds (i+1)) (gallopOf st) (failedOf st)) st'→r.toList.Perm (((arrOf st).extract (sa+k) sb).toList++((arrOf st).extract sb (sb+m)).toList)→r.toList.Pairwise (fun x y=>L x y=true)→
   wpS M A E s (do
    modify fun s=>setArr s (putAt (arrOf s) (sa+k) r)
    return (failedOf (←get)).isNone) Q st':=by
  intro r st' al pm so
  have e1:arrOf st'=arrOf st:=al.2.1
  have rz:r.size=na- k+m:=by
   have:=pm.length_eq
   rw[Br,A4,A4,A4,xz,yz]at this
   exact this
  have bd:sa+k+r.size≤(arrOf st').size:=by rw[e1];omega
  obtain⟨pz,pa⟩:=rL bd
  have pl:=rM bd
  refine zy (Bc (zy (CS (zD ?_))))
  have ef:(failedOf (setArr st' (putAt (arrOf st') (sa+k) r))).isNone=true:=by
   show(failedOf st').isNone=true
   rw[al.2.2.2]
   show(failedOf st).isNone=true
   rw[B.failed];rfl
  rw[ef]
  have mem:∀i,sa+k≤i→i< sb+m→∃j,sa+k≤j∧j< sb+m∧at' r (i- (sa+k))=at' (arrOf st) j:=fun i h2 h3=>by
   have hr:at' r (i- (sa+k))∈r.toList:=by rw[dN (by omega)];exact BA _
   rcases Ac.mp (pm.mem_iff.mp hr)with q | q
   ·obtain⟨j,q1,q2,q3⟩:=(bC (xs:=arrOf st) (by omega)).mp q
    exact⟨j,q1,by omega,q3⟩
   ·obtain⟨j,q1,q2,q3⟩:=(bC (xs:=arrOf st) (by omega)).mp q
    exact⟨j,by omega,q2,q3⟩
  refine h _ ⟨al.1.trans B.kind,by show failedOf st'=none;rw[al.2.2.2];exact B.failed,?_⟩ al.2.2.1 (fun i j h2 h3 h4=>?_) fun i h2=>?_
  ·show(putAt (arrOf st') (sa+k) r).toList.Perm a0
   rw[pl,e1]
   refine List.Perm.trans ?_ B.perm
   have ea:(arrOf st).toList=ext' (arrOf st) 0 (sa+k)++(((arrOf st).extract (sa+k) sb).toList++((arrOf st).extract sb (sb+m)).toList)++ext' (arrOf st) (sa+k+r.size) (arrOf st).size:=by
    show _=ext' (arrOf st) 0 (sa+k)++(ext' (arrOf st) (sa+k) sb++ext' (arrOf st) sb (sb+m))++ext' (arrOf st) (sa+k+r.size) (arrOf st).size
    rw[show sa+k+r.size=sb+m by omega,←cT (by omega) (by omega),←cT (by omega) (by omega),←cT (by omega) (by omega),gz]
   rw[ea]
   exact AE _ (AM _ pm)
  ·show L (at' (putAt (arrOf st') (sa+k) r) i) (at' (putAt (arrOf st') (sa+k) r) j)=true
   rw[pa,pa,e1]
   have hib:∀x y,sa+k≤x→x< sb+m→sb+m≤y→y< sb+nb→L (at' (arrOf st) x) (at' (arrOf st) y)=true:=fun x y g1 g2 g3 g4=>by
    have ey:L (at' (arrOf st) (sb- 1)) (at' (arrOf st) y)=true:=by
     refine O.tot _ _ (uu _ (by omega)) (uu _ (by omega)) (nn _ _ (by omega) (by omega) (by omega)) ?_
     cases e:L (at' (arrOf st) y) (at' (arrOf st) (sb- 1))with
     | false=>rfl
     | true=>exact absurd ((hM' (y- sb) (by omega)).mp (by rw[show sb+(y- sb)=y by omega];exact e)) (by omega)
    by_cases g5:sb≤x
    ·exact s2 x y g5 (by omega) g4
    ·by_cases g6:x=sb- 1
     ·rw[g6];exact ey
     ·exact O.tr _ _ _ (uu _ (by omega)) (uu _ (by omega)) (uu _ (by omega)) (s1 x (sb- 1) (by omega) (by omega) (by omega)) ey
   by_cases c1:i< sa+k
   ·rw[if_neg (by omega)]
    by_cases c2:sa+k≤j∧j< sa+k+r.size
    ·rw[if_pos c2]
     obtain⟨q,q1,q2,q3⟩:=mem j c2.1 (by omega)
     rw[q3]
     by_cases c3:q< sb
     ·exact s1 i q h2 (by omega) c3
     ·exact lob i q h2 c1 (by omega) (by omega)
    ·rw[if_neg c2]
     by_cases c3:j< sb
     ·exact s1 i j h2 h3 c3
     ·exact lob i j h2 c1 (by omega) h4
   ·by_cases c4:i< sa+k+r.size
    ·rw[if_pos (by omega)]
     by_cases c5:j< sa+k+r.size
     ·rw[if_pos (by omega),dN (by omega),dN (by omega)]
      exact Bp.mp so _ _ _ _ (by omega)
     ·rw[if_neg (by omega)]
      obtain⟨q,q1,q2,q3⟩:=mem i (by omega) (by omega)
      rw[q3]
      exact hib q j q1 q2 (by omega) h4
    ·rw[if_neg (by omega),if_neg (by omega)]
     exact s2 i j (by omega) h3 h4
  ·show at' (putAt (arrOf st') (sa+k) r) i=_
   rw[pa,if_neg (by omega),e1]
 have xU:∀i,i< ((arrOf st).extract (sa+k) sb).size→U (at' ((arrOf st).extract (sa+k) sb) i):=fun i hi=>by rw[xa i (by omega)];exact uu _ (by omega)
 have yU:∀i,i< ((arrOf st).extract sb (sb+m)).size→U (at' ((arrOf st).extract sb (sb+m)) i):=fun i hi=>by rw[ya i (by omega)];exact uu _ (by omega)
 have xS:Sr L ((arrOf st).extract (sa+k) sb) 0 ((arrOf st).extract (sa+k) sb).size:=fun i j g1 g2 g3=>by rw[xa i (by omega),xa j (by omega)];exact s1 _ _ (by omega) (by omega) (by omega)
 have yS:Sr L ((arrOf st).extract sb (sb+m)) 0 ((arrOf st).extract sb (sb+m)).size:=fun i j g1 g2 g3=>by rw[ya i (by omega),ya j (by omega)];exact s2 _ _ (by omega) (by omega) (by omega)
 have xy:∀i j,i< ((arrOf st).extract (sa+k) sb).size→j< ((arrOf st).extract sb (sb+m)).size→at' ((arrOf st).extract (sa+k) sb) i≠at' ((arrOf st).extract sb (sb+m)) j:=fun i j g1 g2=>by rw[xa i (by omega),ya j (by omega)];exact nn _ _ (by omega) (by omega) (by omega)
 have f0:L (at' ((arrOf st).extract sb (sb+m)) 0) (at' ((arrOf st).extract (sa+k) sb) 0)=true:=by rw[xa 0 (by omega),ya 0 m1];exact hi _ (by omega) (by omega)
 have f1:∀j,j< ((arrOf st).extract sb (sb+m)).size→L (at' ((arrOf st).extract sb (sb+m)) j) (at' ((arrOf st).extract (sa+k) sb) (((arrOf st).extract (sa+k) sb).size- 1))=true:=fun j g1=>by
  rw[xa _ (by omega),ya j (by omega),xz,show sa+k+(na- k- 1)=sb- 1 by omega]
  exact(hM' j (by omega)).mpr (by omega)
 by_cases w:na- k≤m
 ·rw[if_pos w]
  exact zy (mR O B.kind xU yU (by omega) (by omega) xS yS xy f0 f1 fin)
 ·rw[if_neg w]
  exact zy (mS O B.kind xU yU (by omega) (by omega) xS yS xy f0 f1 fin)
end
def on:Nat→Nat→Nat→Nat:=sortPriv% PySem.Builtin.minRun
def mU:Nat→Nat→Nat→Nat→Nat:=sortPriv% PySem.Builtin.power
theorem kF:sortRuns'=(do
 let size:=(arrOf (←get)).size
 let minrun:=on size size 0
 let mut lo:=0
 for _ in [0:size]do
  if lo≥size then break
  let some found ←countRun' lo (size- lo) | return
  let mut n:=found
  if n< minrun then
   rule "list.sort.binary-insertion"
   let force:=min (size- lo) minrun
   if !(←binarySort' lo force n)then return
   n:=force
  if let some (s1,n1,_):=(pendingOf (←get)).back? then
   let pw:=mU size (2*s1+n1) (2*s1+n1+n1+n) size
   for _ in [0:size]do
    let p:=pendingOf (←get)
    let some (_,_,older):=(if p.size> 1 then p[p.size- 2]? else none) | break
    if older≤pw then break
    if !(←fA (p.size- 2))then return
   modify fun s=>Cs (kindOf s) (arrOf s) ((pendingOf s).modify ((pendingOf s).size- 1) fun(st,len,_)=>(st,len,pw)) (gallopOf s) (failedOf s)
  modify fun s=>Cs (kindOf s) (arrOf s) ((pendingOf s).push (lo,n,0)) (gallopOf s) (failedOf s)
  lo:=lo+n
 for _ in [0:size]do
  let p:=pendingOf (←get)
  if p.size≤1 then break
  let i:=p.size- 2
  let before:=if i> 0 then p[i- 1]?.map (·.2.1)else none
  let i:=if before.any (· < (p[i+1]?.elim 0 (·.2.1)))then i- 1 else i
  if !(←fA i)then return):=rfl
def rsP (p:Array (Nat×Nat×Nat)):List (Nat×Nat):=p.toList.map fun t=>(t.1,t.2.1)
def Chain:Nat→List (Nat×Nat)→Nat→Prop
 | a,[],b=>a=b
 | a,t::r,b=>t.1=a∧0< t.2∧Chain (a+t.2) r b
theorem dq:∀(l r:List (Nat×Nat)) (a b:Nat),Chain a (l++r) b↔∃c,Chain a l c∧Chain c r b
 | [],r,a,b=>⟨fun h=>⟨a,rfl,h⟩,fun⟨c,h1,h2⟩=>by cases h1;exact h2⟩
 | t :: l, r, a, b => by
  constructor
  ·rintro ⟨h1,h2,h3⟩
   obtain⟨c,h4,h5⟩:=(dq l r _ b).mp h3
   exact⟨c,⟨h1,h2,h4⟩,h5⟩
  ·rintro ⟨c,⟨h1,h2,h4⟩,h5⟩
   exact⟨h1,h2,(dq l r _ b).mpr ⟨c,h4,h5⟩⟩
theorem eD:∀{l:List (Nat×Nat)} {a b:Nat},Chain a l b→a+l.length≤b∧∀t∈l,a≤t.1∧t.1+t.2≤b
 | [],a,b,h=>by cases h;exact⟨by simp,fun t ht=>by cases ht⟩
 | t :: l, a, b, ⟨h1, h2, h3⟩ => by
  have ih:=eD h3
  refine⟨by have:=ih.1;simp;omega,fun u hu=>?_⟩
  rcases zU.mp hu with rfl | hu
  ·have:=ih.1;omega
  ·have:=ih.2 u hu;omega
structure Rn (L:zE→zE→Bool) (p:Array (Nat×Nat×Nat)) (xs:Array zE) (lo:Nat):Prop where
 ch:Chain 0 (rsP p) lo
 so:∀t∈rsP p,Sr L xs t.1 (t.1+t.2)
theorem kG {α:Type} :∀(l:List α) (i:Nat) (x y:α),l[i]? =some x→l[i+1]? =some y→l=l.take i++x::y::l.drop (i+2)
 | [],i,x,y,h,_=>by simp at h
 | a :: l, 0, x, y, h1, h2 => by
  cases l with
  | nil=>simp at h2
  | cons b l =>
   simp at h1 h2
   subst h1 h2
   simp
 | a :: l, i + 1, x, y, h1, h2 => by
  have:=kG l i x y (by simpa using h1) (by simpa using h2)
  simp only[List.take_succ_cons,List.drop_succ_cons,Dc]
  exact congrArg (a:: ·) this
theorem lJ {p:Array (Nat×Nat×Nat)} {i:Nat} {x y z:Nat×Nat×Nat} (h1:p[i]? =some x) (h2:p[i+1]? =some y):((p.setIfInBounds i z).eraseIdxIfInBounds (i+1)).toList=p.toList.take i++z::p.toList.drop (i+2):=by
 have hl:i+1< p.size:=(Bn.mp h2).1
 have e:=kG p.toList i x y (by rw[zC];exact h1) (by rw[zC];exact h2)
 have e1:((p.setIfInBounds i z).eraseIdxIfInBounds (i+1)).toList=(p.toList.set i z).eraseIdx (i+1):=by
  rw[CZ,Cq]
 rw[e1]
 have tl:(p.toList.take i).length=i:=by simp;omega
 conv=>lhs;rw[e]
 rw[List.set_append_right _ _ (by omega),tl,CP,CJ,List.eraseIdx_append_of_length_le (by omega),tl,show i+1- i=1 by omega]
 rfl
theorem Rn.merge {L:zE→zE→Bool} {p:Array (Nat×Nat×Nat)} {xs xs':Array zE} {lo i sa na pw sb nb pw':Nat} (R:Rn L p xs lo) (h1:p[i]? =some (sa,na,pw)) (h2:p[i+1]? =some (sb,nb,pw'))
  (hs:Sr L xs' sa (sb+nb)) (ho:∀i,i< sa∨sb+nb≤i→at' xs' i=at' xs i):Rn L ((p.setIfInBounds i (sa,na+nb,pw)).eraseIdxIfInBounds (i+1)) xs' lo∧sb=sa+na∧0< na∧0< nb∧sb+nb≤lo:=by
 have e:=kG p.toList i _ _ (by rw[zC];exact h1) (by rw[zC];exact h2)
 have er:rsP p=(p.toList.take i).map (fun t=>(t.1,t.2.1))++(sa,na)::(sb,nb)::(p.toList.drop (i+2)).map (fun t=>(t.1,t.2.1)):=by
  unfold rsP;conv=>lhs;rw[e]
  simp
 have er2:rsP ((p.setIfInBounds i (sa,na+nb,pw)).eraseIdxIfInBounds (i+1))=(p.toList.take i).map (fun t=>(t.1,t.2.1))++(sa,na+nb)::(p.toList.drop (i+2)).map (fun t=>(t.1,t.2.1)):=by
  unfold rsP;rw[lJ h1 h2];simp
 have ch:=R.ch
 have so:=R.so
 rw[er]at ch so
 generalize (p.toList.take i).map (fun t=>(t.1,t.2.1))=l1 at*
 generalize (p.toList.drop (i+2)).map (fun t=>(t.1,t.2.1))=l2 at*
 obtain⟨c,c1,c2,c3,c4,c5,c6⟩:=(dq _ _ _ _).mp ch
 dsimp only at c2 c3 c4 c5 c6
 subst c2
 have l6:=eD c6
 have l1':=eD c1
 refine⟨⟨?_,fun t ht=>?_⟩,by omega,c3,c5,by omega⟩
 ·rw[er2]
  exact(dq _ _ _ _).mpr ⟨sa,c1,rfl,by show 0< na+nb;omega,by show Chain (sa+(na+nb)) l2 lo;rw[←GD];exact c6⟩
 ·rw[er2]at ht
  have keep:∀t:Nat×Nat,Sr L xs t.1 (t.1+t.2)→(t.1+t.2≤sa∨sb+nb≤t.1)→Sr L xs' t.1 (t.1+t.2):=fun t h h3 i j g1 g2 g3=>by
   rw[ho i (by omega),ho j (by omega)];exact h i j g1 g2 g3
  rcases Ac.mp ht with ht | ht
  ·exact keep t (so t (by simp[ht])) (.inl (l1'.2 t ht).2)
  ·rcases zU.mp ht with rfl | ht
   ·show Sr L xs' sa (sa+(na+nb))
    rw[←GD,←c4];exact hs
   ·exact keep t (so t (by simp[ht])) (.inr (by have:=(l6.2 t ht).1;omega))
theorem Rn.two {L:zE→zE→Bool} {p:Array (Nat×Nat×Nat)} {xs:Array zE} {lo i sa na pw sb nb pw':Nat} (R:Rn L p xs lo) (h1:p[i]? =some (sa,na,pw)) (h2:p[i+1]? =some (sb,nb,pw')):sb=sa+na∧0< na∧0< nb∧sb+nb≤lo∧Sr L xs sa sb∧Sr L xs sb (sb+nb):=by
 have e:=kG p.toList i _ _ (by rw[zC];exact h1) (by rw[zC];exact h2)
 have er:rsP p=(p.toList.take i).map (fun t=>(t.1,t.2.1))++(sa,na)::(sb,nb)::(p.toList.drop (i+2)).map (fun t=>(t.1,t.2.1)):=by
  unfold rsP;conv=>lhs;rw[e]
  simp
 have ch:=R.ch
 have so:=R.so
 rw[er]at ch so
 obtain⟨c,c1,c2,c3,c4,c5,c6⟩:=(dq _ _ _ _).mp ch
 dsimp only at c2 c3 c4 c5 c6
 have l6:=eD c6
 have s1:Sr L xs sa (sa+na):=so (sa,na) (by simp)
 have s2:Sr L xs sb (sb+nb):=so (sb,nb) (by simp)
 exact⟨by omega,c3,c5,by omega,by rw[show sb=sa+na by omega];exact s1,s2⟩
theorem Rn.keep {L:zE→zE→Bool} {p:Array (Nat×Nat×Nat)} {xs xs':Array zE} {lo:Nat} (R:Rn L p xs lo) (ho:∀i,i< lo→at' xs' i=at' xs i):Rn L p xs' lo:=
 ⟨R.ch,fun t ht i j g1 g2 g3=>by
  have:=(eD R.ch).2 t ht
  rw[ho i (by omega),ho j (by omega)]
  exact R.so t ht i j g1 g2 g3⟩
theorem Rn.push {L:zE→zE→Bool} {p:Array (Nat×Nat×Nat)} {xs:Array zE} {lo n w:Nat} (R:Rn L p xs lo) (hn:0< n) (hs:Sr L xs lo (lo+n)):Rn L (p.push (lo,n,w)) xs (lo+n):=by
 have e:rsP (p.push (lo,n,w))=rsP p++ [(lo,n)]:=by unfold rsP;simp
 refine⟨by rw[e];exact(dq _ _ _ _).mpr ⟨lo,R.ch,rfl,hn,rfl⟩,fun t ht=>?_⟩
 rw[e]at ht
 rcases Ac.mp ht with ht | ht
 ·exact R.so t ht
 ·have:t=(lo,n):=by simpa using ht
  subst this;exact hs
theorem j4 (p:Array (Nat×Nat×Nat)) (i w:Nat):rsP (p.modify i fun(st,len,_)=>(st,len,w))=rsP p:=by
 unfold rsP
 apply Bl
 intro j
 rw[zA,zA,zC,zC,Array.getElem?_modify]
 by_cases z:i=j
 ·rw[if_pos z]
  cases p[j]? <;> rfl
 ·rw[if_neg z]
theorem Rn.mod {L:zE→zE→Bool} {p:Array (Nat×Nat×Nat)} {xs:Array zE} {lo:Nat} (R:Rn L p xs lo) (i w:Nat):Rn L (p.modify i fun(st,len,_)=>(st,len,w)) xs lo:=⟨by rw[j4];exact R.ch,by rw[j4];exact R.so⟩
theorem oo (p:Array (Nat×Nat×Nat)):(rsP p).length=p.size:=by unfold rsP;simp
theorem pN {p:Array (Nat×Nat×Nat)} {i:Nat} {z:Nat×Nat×Nat} (h:i+1< p.size):((p.setIfInBounds i z).eraseIdxIfInBounds (i+1)).size=p.size- 1:=by
 rw[←A4,CZ,Cq,EZ,G8,A4,if_pos h]
section
variable {M:Ey} {A:Ai} {E:zl→zq→Prop} {s:zq} {κ:Dl} {U:zE→Prop} {L:zE→zE→Bool} {a0:List zE} {st:B0}
theorem mV (O:LtOk M A E s κ U L) (hU:∀x∈a0,U x) (nd:a0.Nodup) {i lo:Nat} {Q:Bool→B0→Prop} (B:SB κ a0 st) (R:Rn L (pendingOf st) (arrOf st) lo) (hi:i+1< (pendingOf st).size) (hlo:lo≤a0.length)
  (h:∀st',SB κ a0 st'→Rn L (pendingOf st') (arrOf st') lo→(pendingOf st').size=(pendingOf st).size- 1→(∀i,lo≤i→at' (arrOf st') i=at' (arrOf st) i)→Q true st'):wpS M A E s (fA i) Q st:=by
 obtain⟨⟨sa,na,pw⟩,h1⟩:∃t,(pendingOf st)[i]? =some t:=⟨_,zM (by omega)⟩
 obtain⟨⟨sb,nb,pw'⟩,h2⟩:∃t,(pendingOf st)[i+1]? =some t:=⟨_,zM hi⟩
 obtain⟨t1,t2,t3,t4,t5,t6⟩:=R.two h1 h2
 refine mT O hU nd B h1 h2 t1 t2 t3 (by omega) t5 t6 fun st' B' ep s' o'=>?_
 have:=(R.merge h1 h2 s' o').1
 refine h st' B' (by rw[ep];exact this) (by rw[ep];exact pN hi) fun i hi=>o' i (.inr (by omega))
theorem lK (O:LtOk M A E s κ U L) (hU:∀x∈a0,U x) (nd:a0.Nodup) {Q:Unit→B0→Prop} (B:SB κ a0 st) (hp:pendingOf st= #[]) (h:∀st',SB κ a0 st'→Sr L (arrOf st') 0 a0.length→Q () st'):wpS M A E s sortRuns' Q st:=by
 have hs:=B.size
 rw[kF]
 refine zy (CS ?_)
 dsimp only
 rw[hs]
 generalize on a0.length a0.length 0=mr
 refine zy (C4 (Av (I:=fun x c st'=>SB κ a0 st'∧∃lo,c=(none,lo)∧x≤lo∧lo≤a0.length∧Rn L (pendingOf st') (arrOf st') lo) (Q:=fun c st'=>SB κ a0 st'∧∃lo,c=(none,lo)∧Rn L (pendingOf st') (arrOf st') a0.length) ?step ?fin ?init) ?post)
 case init=>exact⟨B,0,rfl,zw _,zS _,by rw[hp];exact⟨rfl,fun t ht=>by cases ht⟩⟩
 case fin=>
  rintro c st' ⟨B',lo,rfl,q1,q2,R⟩
  have:lo=a0.length:=by omega
  subst this
  exact⟨B',_,rfl,R⟩
 case post=>
  rintro c st1 ⟨B1,lo,rfl,R1⟩
  dsimp only
  refine zy (C4 (Av (I:=fun x c st'=>c=(none,())∧SB κ a0 st'∧Rn L (pendingOf st') (arrOf st') a0.length∧((pendingOf st').size≤1∨(pendingOf st').size+x≤a0.length)) (Q:=fun c st'=>c=(none,())∧SB κ a0 st'∧Rn L (pendingOf st') (arrOf st') a0.length∧(pendingOf st').size≤1) ?fstep ?ffin ?finit) ?fpost)
  case finit=>
   refine⟨rfl,B1,R1,.inr ?_⟩
   have:=(eD R1.ch).1
   rw[oo]at this
   omega
  case ffin=>
   rintro c st' ⟨rfl,B',R',q⟩
   exact⟨rfl,B',R',by omega⟩
  case fstep=>
   rintro x c st' _ hx ⟨rfl,B',R',q⟩
   refine zy (CS ?_)
   by_cases z:(pendingOf st').size≤1
   ·rw[if_pos z];exact zD ⟨rfl,B',R',z⟩
   ·rw[if_neg z]
    have hb:∀(c:Prop) [Decidable c],(if c then(pendingOf st').size- 2- 1 else(pendingOf st').size- 2)+1< (pendingOf st').size:=fun c _=>by split <;> omega
    refine zy (mV O hU nd B' R' (hb _) (zw _) fun st2 B2 R2 e2 _=>?_)
    exact zD ⟨rfl,B2,R2,by omega⟩
  case fpost=>
   rintro c st' ⟨rfl,B',R',q⟩
   refine zD (h st' B' ?_)
   have ch:=R'.ch
   have so:=R'.so
   have hl:=oo (pendingOf st')
   generalize rsP (pendingOf st')=l at*
   match l,hl with
   | [], _ =>
    have:0=a0.length:=ch
    intro i j g1 g2 g3
    omega
   | [t], _ =>
    obtain⟨c1,c2,c3⟩:=ch
    have c4:0+t.2=a0.length:=c3
    have:=so t (by simp)
    rw[c1,c4]at this
    exact this
   | _::_::_,hl=>simp at hl;omega
 case step=>
  rintro x c st1 _ hx ⟨B1,lo,rfl,q1,q2,R1⟩
  dsimp only
  by_cases z:lo≥a0.length
  ·rw[if_pos z]
   have:lo=a0.length:=by omega
   subst this
   exact zD ⟨B1,_,rfl,R1⟩
  rw[if_neg z]
  refine zy (vW O hU nd (by omega) (by omega) B1 fun n st2 n1 n2 B2 e2 s2 o2=>?_)
  dsimp only
  by_cases y:n< mr
  ·rw[if_pos y]
   refine zy (Ek (BC ⟨rfl,?_⟩))
   refine zy (u9 O hU nd (by omega) (by omega) B2 s2 fun st3 B3 e3' s3 o3'=>?_)
   rw[if_neg (by decide)]
   have e3:pendingOf st3=pendingOf st1:=e3'.trans e2
   have o3:∀i,i< lo→at' (arrOf st3) i=at' (arrOf st1) i:=fun i hi=>(o3' i (.inl hi)).trans (o2 i (.inl hi))
   refine zy (CS ?_)
   have R3:Rn L (pendingOf st3) (arrOf st3) lo:=by rw[e3];exact R1.keep o3
   cases hb:(pendingOf st3).back? with
   | none =>
    dsimp only
    exact zy (Bc (zD ⟨⟨B3.kind,B3.failed,B3.perm⟩,lo+min (a0.length- lo) mr,rfl,by omega,by omega,R3.push (by omega) s3⟩))
   | some t =>
    obtain⟨t1,t2,t3⟩:=t
    dsimp only
    generalize mU a0.length (2*t1+t2) (2*t1+t2+t2+min (a0.length- lo) mr) a0.length=pw
    refine zy (C4 (Av (I:=fun y c st'=>c=(none,())∧SB κ a0 st'∧Rn L (pendingOf st') (arrOf st') lo∧Sr L (arrOf st') lo (lo+min (a0.length- lo) mr)) (Q:=fun c st'=>c=(none,())∧SB κ a0 st'∧Rn L (pendingOf st') (arrOf st') lo∧Sr L (arrOf st') lo (lo+min (a0.length- lo) mr)) ?ms ?mf ?mi) ?mp)
    case mi=>exact⟨rfl,B3,R3,s3⟩
    case mf=>exact fun c st' h=>h
    case ms=>
     rintro y c st4 _ hy ⟨rfl,B4,R4,s4⟩
     refine zy (CS ?_)
     by_cases w:(pendingOf st4).size> 1
     ·rw[if_pos w]
      obtain⟨⟨u1,u2,u3⟩,hu⟩:∃t,(pendingOf st4)[(pendingOf st4).size- 2]? =some t:=⟨_,zM (by omega)⟩
      rw[hu]
      dsimp only
      by_cases v:u3≤pw
      ·rw[if_pos v];exact zD ⟨rfl,B4,R4,s4⟩
      ·rw[if_neg v]
       refine zy (mV O hU nd B4 R4 (by omega) (by omega) fun st5 B5 R5 _ o5=>?_)
       exact zD ⟨rfl,B5,R5,fun i j g1 g2 g3=>by rw[o5 i g1,o5 j (by omega)];exact s4 i j g1 g2 g3⟩
     ·rw[if_neg w];exact zD ⟨rfl,B4,R4,s4⟩
    case mp=>
     rintro c st4 ⟨rfl,B4,R4,s4⟩
     dsimp only
     exact zy (Bc (zy (Bc (zD ⟨⟨B4.kind,B4.failed,B4.perm⟩,lo+min (a0.length- lo) mr,rfl,by omega,by omega,(R4.mod _ _).push (by omega) s4⟩))))
  ·rw[if_neg y]
   have B3:=B2
   have s3:=s2
   have e3:=e2
   have o3:∀i,i< lo→at' (arrOf st2) i=at' (arrOf st1) i:=fun i hi=>o2 i (.inl hi)
   refine zy (CS ?_)
   have R3:Rn L (pendingOf st2) (arrOf st2) lo:=by rw[e3];exact R1.keep o3
   cases hb:(pendingOf st2).back? with
   | none =>
    dsimp only
    exact zy (Bc (zD ⟨⟨B3.kind,B3.failed,B3.perm⟩,lo+n,rfl,by omega,by omega,R3.push (by omega) s3⟩))
   | some t =>
    obtain⟨t1,t2,t3⟩:=t
    dsimp only
    generalize mU a0.length (2*t1+t2) (2*t1+t2+t2+n) a0.length=pw
    refine zy (C4 (Av (I:=fun y c st'=>c=(none,())∧SB κ a0 st'∧Rn L (pendingOf st') (arrOf st') lo∧Sr L (arrOf st') lo (lo+n)) (Q:=fun c st'=>c=(none,())∧SB κ a0 st'∧Rn L (pendingOf st') (arrOf st') lo∧Sr L (arrOf st') lo (lo+n)) ?ms ?mf ?mi) ?mp)
    case mi=>exact⟨rfl,B3,R3,s3⟩
    case mf=>exact fun c st' h=>h
    case ms=>
     rintro y c st4 _ hy ⟨rfl,B4,R4,s4⟩
     refine zy (CS ?_)
     by_cases w:(pendingOf st4).size> 1
     ·rw[if_pos w]
      obtain⟨⟨u1,u2,u3⟩,hu⟩:∃t,(pendingOf st4)[(pendingOf st4).size- 2]? =some t:=⟨_,zM (by omega)⟩
      rw[hu]
      dsimp only
      by_cases v:u3≤pw
      ·rw[if_pos v];exact zD ⟨rfl,B4,R4,s4⟩
      ·rw[if_neg v]
       refine zy (mV O hU nd B4 R4 (by omega) (by omega) fun st5 B5 R5 _ o5=>?_)
       exact zD ⟨rfl,B5,R5,fun i j g1 g2 g3=>by rw[o5 i g1,o5 j (by omega)];exact s4 i j g1 g2 g3⟩
     ·rw[if_neg w];exact zD ⟨rfl,B4,R4,s4⟩
    case mp=>
     rintro c st4 ⟨rfl,B4,R4,s4⟩
     dsimp only
     exact zy (Bc (zy (Bc (zD ⟨⟨B4.kind,B4.failed,B4.perm⟩,lo+n,rfl,by omega,by omega,(R4.mod _ _).push (by omega) s4⟩))))
end
end Wb
namespace Wb
open PySem PySem.W PySem.Calls PyProof.Rows
theorem oq {α β:Type} {f:α→β} :∀{l:List α},(l.map f).Nodup→∀{x y:α},x∈l→y∈l→f x=f y→x=y
 | [],_,x,_,hx,_,_=>by cases hx
 | a :: l, nd, x, y, hx, hy, e => by
  rw[An,Bo]at nd
  rcases zU.mp hx with q | q
  ·rcases zU.mp hy with q' | q'
   ·rw[q,q']
   ·exact absurd (Ah.mpr ⟨y,q',by rw[←e,q]⟩) nd.1
  ·rcases zU.mp hy with q' | q'
   ·exact absurd (Ah.mpr ⟨x,q,by rw[e,q']⟩) nd.1
   ·exact oq nd.2 q q' e
theorem kH {α:Type} (l:List α):(l.zip l)=l.map fun x=>(x,x):=by
 induction l with
 | nil=>rfl
 | cons a l ih=>rw[List.zip_cons_cons,ih];rfl
section
variable {prog:zL} {w:zQ} {A:Ai} {E:zl→zq→Prop} {s:zq}
theorem xb {key:zl→Int×Int} {vs:List zl} (hp:∀v∈vs,PairAt s.heap v (key v)) (nd:(vs.map key).Nodup):LtOk (model prog w) A E s (tuples' true) (fun x=>x∈vs.zip vs) (fun x y=>kQ (key x.1) (key y.1)) where
 lt:=fun x y st Q hx hy kd h=>by
  have h1:=hp _ (Cw hx).2
  have h2:=hp _ (Cw hy).2
  rw[lt'_eq]
  refine zy (CS (zy (Ek (Ci ?_))))
  rw[kd]
  exact u8 h1 h2 ⟨rfl,zD h⟩
 tr:=fun x y z _ _ _ h1 h2=>vV h1 h2
 tot:=fun x y hx hy hne h=>u7 (fun e=>hne (by
  have e1:=oq nd (Cw hx).2 (Cw hy).2 e
  have:=(Cw hx).1
  have:=(Cw hy).1
  exact DI e1 (by simp_all))) h
 irr:=fun x=>oj _
theorem rP {a:Addr} {vs:List zl} {key:zl→Int×Int} {n:Nat} {P:PySem.Fin→zq→Prop} (ho:s.heap.get? a=some (seqObj "list" vs.toArray n)) (hp:∀v∈vs,PairAt s.heap v (key v)) (nd:(vs.map key).Nodup) (hl:vs.length≤sizeLine)
  (h:∀out:List zl,out.Perm vs→(out.map key).Pairwise (fun x y=>kQ x y=true)→P (.done (.ret .none)) {s with heap:=sortedHeap s.heap a vs out.toArray}):
  wpAny (model prog w) A (Cm.«list.sort» ⟨[.ref a],[]⟩) P E s:=by
 rw[list_sort_plain]
 have ha:a< s.heap.objs.size:=zI ho
 refine zh (listItems_at ho rfl ?_)
 refine zh (Fb ho rfl ?_ (by rw[zK];exact hl) (zS _))
 obtain⟨e1,ho1⟩:∃e1,(s.heap.update a (BP fun _=> #[])).get? a=some (seqObj "list" #[] e1):=⟨_,get?_update_seq ho (fun _=> #[])⟩
 refine zh (G6 ho1 rfl ?_)
 refine zh (Gk ?_ (by show vs.length≤_;exact hl))
 refine zh (GF ?_ (zS _))
 refine AX ?_
 have ho6:(((s.heap.update a (BP fun _=> #[])).push (seqObj "tuple" vs.toArray 0)).push (seqObj "list" #[] 0)).get? a=some (seqObj "list" #[] e1):=by
  rw[FF _ _ _ (by rw[size_push',FW];exact zX (DV ha)),FF _ _ _ (by rw[FW];exact zX ha)]
  exact ho1
 show wpAny (model prog w) A _ P E {s with heap:=((s.heap.update a (BP fun _=> #[])).push (seqObj "tuple" vs.toArray 0)).push (seqObj "list" #[] 0)}
 dsimp only
 by_cases h2:vs.toArray.size< 2
 ·rw[if_pos h2,if_pos h2]
  refine zh (zo ?_)
  rw[StateT.run_pure]
  refine zh (zo ?_)
  dsimp only
  refine zh (G6 ho6 rfl ?_)
  have e:(arrOf (Cs general' (vs.toArray.zip vs.toArray) #[] 7 none)).map (·.2)=vs.toArray:=by
   show(vs.toArray.zip vs.toArray).map (·.2)=_
   apply FX.mp
   simp only[FU,Array.toList_zip,FY,zw]
  rw[e]
  refine zh (Fb ho6 rfl ?_ (zS _) (by rw[zK];exact FG hl))
  simp only[bne_self_eq_false,A5,if_false]
  refine zo (h vs (.refl _) ?_)
  have h3:vs.length< 2:=by simpa using h2
  match vs,h3 with
  | [],_=>exact Ck
  | [v],_=>exact CK _ _
  | _::_::_,h3=>simp at h3;omega
 ·rw[if_neg h2,if_neg h2]
  have hp2:∀v∈vs,PairAt (((s.heap.update a (BP fun _=> #[])).push (seqObj "tuple" vs.toArray 0)).push (seqObj "list" #[] 0)) v (key v):=fun v hv=>by
   obtain⟨b,o,t1,t2,m,q2,q3,q4,q5⟩:=hp v hv
   have hb:b≠a:=fun z=>by subst z;rw[ho]at q3;cases q3;exact absurd q4 (by show ¬(D6 "list" =D6 "tuple");decide)
   exact⟨b,o,t1,t2,m,q2,zr _ (zr _ ((CO _ _ (Df hb)).trans q3)),q4,q5⟩
  obtain⟨fs,l1,l2,l3⟩:=om (h:=((s.heap.update a (BP fun _=> #[])).push (seqObj "tuple" vs.toArray 0)).push (seqObj "list" #[] 0)) (vs:=vs) (ks:=vs.map key) ⟨by simp,fun i v e=>⟨key v,by rw[zA,e];rfl,hp2 v (zW e)⟩⟩
  have h3:2≤vs.length:=by simp at h2;exact h2
  refine zh (kat_kind (T:=.type "int") l2 (by rw[l1];omega) (fun v hv=>?_) (by decide) ?_)
  ·obtain⟨i,t,rfl⟩:=l3 v hv
   exact .now
  rw[show(D6 "int" != D6 "tuple")=true from by decide]
  have O:=xb (prog:=prog) (w:=w) (A:=A) (E:=E) (s:={s with heap:=((s.heap.update a (BP fun _=> #[])).push (seqObj "tuple" vs.toArray 0)).push (seqObj "list" #[] 0)}) hp2 nd
  have za:(vs.toArray.zip vs.toArray).toList=vs.zip vs:=by simp
  have ndz:(vs.zip vs).Nodup:=by
   rw[kH,Aj,BN]
   have nv:vs.Nodup:=Aj.mpr ((BN.mp (Aj.mp nd)).imp fun h e=>h (by rw[e]))
   exact(Aj.mp nv).imp fun h e=>h (congrArg Prod.fst e)
  have lz:(vs.zip vs).length=vs.length:=by simp
  refine zh (Aq (lK (Q:=fun _ st'=>SB (tuples' true) (vs.zip vs) st'∧Sr (fun x y=>kQ (key x.1) (key y.1)) (arrOf st') 0 (vs.zip vs).length) O (fun x hx=>hx) ndz (st:=Cs (tuples' true) (vs.toArray.zip vs.toArray) #[] 7 none) ⟨rfl,rfl,by show(vs.toArray.zip vs.toArray).toList.Perm _;rw[za]⟩ rfl fun st' B S=>⟨B,S⟩) ?_ fun _ _ e=>e)
  rintro ⟨⟨⟩,st'⟩ s' ⟨rfl,B,S⟩
  dsimp only at B S ⊢
  have hz:=B.size
  have mem:∀x∈(arrOf st').toList,x.1=x.2:=fun x hx=>(Cw (B.perm.mem_iff.mp hx)).1
  refine zh (G6 ho6 rfl ?_)
  refine zh (Fb ho6 rfl ?_ (zS _) (by rw[Array.size_map,hz,lz];exact FG hl))
  rw[B.failed]
  simp only[bne_self_eq_false,A5,if_false]
  have eo:(arrOf st').map (·.2)=((arrOf st').toList.map fun x:zE=>x.2).toArray:=by apply FX.mp;simp
  rw[eo]
  refine zo (h ((arrOf st').toList.map fun x:zE=>x.2) ?_ ?_)
  ·have:=B.perm.map (·.2)
   rw[FY (zw _)]at this
   exact this
  ·rw[BL,BN,Bp]
   intro i j hi hj hij
   have hj2:j< (arrOf st').size:=by simpa using hj
   have:=S i j (zS _) hij (by omega)
   rw[dN (by simpa using hi),dN (by simpa using hj)]at this
   show kQ (key ((arrOf st').toList[i]).2) (key ((arrOf st').toList[j]).2)=true
   rw[←mem _ (BA hi),←mem _ (BA hj)]
   exact this
end
section
variable {prog:zL} {w:zQ} {K:Type} [DecidableEq K] {knd:KeyKind prog w K} {A:Ai} {E:zl→zq→Prop} {s:zq}
theorem pO {a x:Addr} {o:Obj} {es:Array (Int×zl)} {ep:Nat} {t:AG} {led:Bool} {ks:List (List K)} {kx:List K} (hu:A.units+1< cLine) (S:SetT knd s.heap a led ks o es ep t) (hn:es.size< 1000) (hx:BE knd s.heap kx x) (hI:∀k∈kx,∀v,knd.is k v=true→∃i t,v=.int i t) {Q:zl→zq→Prop}
  (h1:kx∈ks→∀tk,Q .none {s with toks:=tk}) (h2:kx∉ks→∀tk h' ks' o' es' ep' t',A9 a s.heap h'→SetT knd h' a led ks' o' es' ep' t'→ks'.Perm (kx::ks)→es'.toList.Perm ((tupleKeyHash knd kx,.ref x)::es.toList)→Q .none {s with heap:=h',toks:=tk}):
  wpAny (model prog w) A (call (.builtin "set.add") [.ref a,.ref x]) Q E s:=by
 have hT:s.TypeIs (.ref a) "set" :=⟨o,S.at_,S.ex.1⟩
 refine Ak F.slot_set_add hT F.entry_set_add ?_ (F.args_set_add_2 _ _)
 unfold Cm.«set.add» Gq
 simp only[List.isEmpty_nil,bind_assoc]
 unfold GG setAdd
 refine zh (zo ?_)
 try dsimp only
 refine zh (zo ?_)
 try dsimp only
 refine zh ?_
 refine AX ?_
 refine zh (wpAny_pyHash_tuple (show A.in1.units< cLine from hu) hx ?_)
 unfold setAddHashed
 refine AX (u0 (s:={s with toks:=s.toks+(kx.length+1)}) (show A.in1.units< cLine from hu) S hn hx hI (fun hm=>?_) fun hm h' ks' o' es' ep' t' a1 a2 a3 a4=>?_)
 ·show wpAny _ _ (ret Aw) _ _ _
  exact zo ⟨_,rfl,h1 hm _⟩
 ·show wpAny _ _ (ret Aw) _ _ _
  exact zo ⟨_,rfl,h2 hm _ h' ks' o' es' ep' t' a1 a2 a3 a4⟩
end
end Wb
namespace L2
open PySem PySem.Spec PyProof.Rows Wb
structure TupsH (prog:zL) (w:zQ) (K:PySem.W.Frag) (H:Hp) (es:List (Int×zl)) (ks:List (Int×Int)):Prop where
 len:es.length=ks.length
 at_:∀(i:Nat) (e:Int×zl),es[i]? =some e→∃k b,ks[i]? =some k∧e.2=.ref b∧SqT K H b [.int k.1,.int k.2]∧e.1=tupleKeyHash (mixKind prog w) [.inl k.1,.inl k.2]
def SetH (prog:zL) (w:zQ) (K:PySem.W.Frag) (H:Hp) (o:Obj) (ks:List (Int×Int)):Prop:=∃es ep t,SetR w o es ep t∧TupsH prog w K H es.toList ks∧ks.Nodup
def hX (k:Int×Int):List Key:=[.inl k.1,.inl k.2]
theorem ik {a b:Int×Int} (h:hX a=hX b):a=b:=by
 unfold hX at h
 injection h with h1 h2
 injection h2 with h2 _
 injection h1 with h1
 injection h2 with h2
 exact DI h1 h2
def pP:List Key→Int×Int
 | [.inl a,.inl b]=>(a,b)
 | _=>(0,0)
theorem ou (k:Int×Int):pP (hX k)=k:=rfl
def uX (elt:Expr) (env:Env) (acc:zl):Sem Unit:=do
 let v ←eval elt env
 standAt elt.pos
 let _ ←call (.builtin "set.add") [acc,v]
def mW (prog:zL) (w:zQ) (K:PySem.W.Frag) (te:TE):TB:=fun D σ H N=>te σ H fun y H'=>∃G o ks b k,Same G H'∧H' D=some (XO D o)∧SetH prog w K G o ks∧ks.length< 1000∧y=.ref b∧SqT K G b [.int k.1,.int k.2]∧(k∈ks→N H')∧(k∉ks→∀o' ks',SetH prog w K G o' ks'→ks'.Perm (k::ks)→N (cA H' D (XO D o')))
section
variable {Y X:Cx} {elt:Expr} {te:TE}
theorem eO {pins:List (Addr×Obj)} {σ:St} {H:Hp} {s:zq} {b:Addr} {k:Int×Int} (I:Inv X pins σ H s) (h:SqT X.K H b [.int k.1,.int k.2]):BE (mixKind X.prog X.w) s.heap (hX k) b:=by
 obtain⟨its,r,⟨o,h1,h2,n,h3⟩,_⟩:=I.tuple h
 exact⟨o,its.toArray,n,h1,h2,h3,by simpa using jv (ks:=hX k) r⟩
theorem ym {k:Int×Int} :∀q∈hX k,∀v,(mixKind X.prog X.w).is q v=true→∃i t,v=.int i t:=fun q hq v hv=>by
 have:q=.inl k.1∨q=.inl k.2:=by simpa [hX] using hq
 rcases bv (show f6 q v=true from hv)with⟨i,t,e1,rfl⟩ | ⟨x,t,e1,rfl⟩
 ·exact⟨i,t,rfl⟩
 ·rcases this with z | z <;> (rw[z]at e1;cases e1)
theorem vY (hxe:Y.xe=fun _ _=>False) (hu:Y.A.units+1< cLine) (he:PE Y elt te):PB Y (uX elt Y.env) (mW Y.prog Y.w Y.K te):=by
 intro D pins s σ H N I h
 have he':=he pins s σ H _ I h
 rw[hxe]at he'
 refine zh (bz he' fun u s1 ⟨y,H1,I1,r1,G,o,ks,b,k,eG,hD,hS,hl,ey,hb,h1,h2⟩=>?_)
 subst ey
 obtain rfl:u=.ref b:=r1
 refine zh (By ?_)
 obtain⟨es,ep,t,R,T,nd⟩:=hS
 have hDo:s1.heap.get? D=some o:=(I1.hok D _ hD).1
 have hsz:es.size=ks.length:=by have:=T.len;simpa using this
 have U:TupsOf (mixKind Y.prog Y.w) s1.heap es.toList (ks.map hX):=⟨by rw[A2];exact T.len,fun i e hi=>by
  obtain⟨k,b,q1,q2,q3,q4⟩:=T.at_ i e hi
  exact⟨hX k,b,by rw[zA,q1];rfl,q2,eO I1 (AZ eG q3),q4⟩⟩
 have S:SetT (mixKind Y.prog Y.w) s1.heap D (!Y.w.params.followText "set-order") (ks.map hX) o es ep t:=⟨hDo,R.ex,R.dat,R.tab,U,Hv _ (fun a b hab e=>hab (ik e)) nd,R.led,R.pl⟩
 refine zh (pO hu S (by omega) (eO I1 (AZ eG hb)) ym (fun hm tk=>?_) fun hm tk h' ks' o' es' ep' t' a1 a2 a3 a4=>?_)
 ·obtain⟨k',m1,m2⟩:=Ah.mp hm
  cases ik m2
  exact zo ⟨σ,H1,I1.kept (fun _ _ z=>z),fun _ _ e=>e,h1 m1⟩
 ·have nm:k∉ks:=fun z=>hm (Ah.mpr ⟨k,z,rfl⟩)
  have pk:(ks'.map pP).Perm (k::ks):=by
   have:=a3.map pP
   rw[An,BL,show(pP ∘ hX)=id from funext ou,Hd,ou]at this
   exact this
  have TH:TupsH Y.prog Y.w Y.K G es'.toList (ks'.map pP):=⟨by rw[A2];exact a2.tup.len,fun i e hi=>by
   obtain⟨kk,b',q1,q2,q3,q4⟩:=a2.tup.at_ i e hi
   have src:∃k0:Int×Int,SqT Y.K G b' [.int k0.1,.int k0.2]:=by
    rcases zU.mp (a4.mem_iff.mp (zW hi))with z | z
    ·rw[z]at q2;cases q2;exact⟨k,hb⟩
    ·obtain⟨j,hj,ej⟩:=Bu.mp z
     obtain⟨k0,b0,r1,r2,r3,r4⟩:=T.at_ j e (by rw[zu hj,ej])
     rw[r2]at q2;cases q2
     exact⟨k0,r3⟩
   obtain⟨k0,hk0⟩:=src
   have e0:kk=hX k0:=q3.inj (lD (eO I1 (AZ eG hk0)) hDo R.dat a1)
   subst e0
   exact⟨k0,b',by rw[zA,q1];rfl,q2,hk0,q4⟩⟩
  refine zo ⟨σ,_,?_,fun _ _ e=>e,h2 nm o' (ks'.map pP) ⟨es',ep',t',⟨a2.ex,a2.dat,a2.tab,a2.led,a2.pl⟩,TH,pk.nodup_iff.mpr (Bo.mpr ⟨nm,nd⟩)⟩ pk⟩
  exact I1.write (x:=D) (e:=D) (by rw[hD];exact BO) (.inl rfl) (fun b u hb' z=>(a1.2 b hb').trans z) ⟨o',a2.at_⟩ (HC a2.at_)
theorem rQ {pins:List (Addr×Obj)} {σ:St} {H:Hp} {s:zq} {b:Addr} {k l:Int×Int} (I:Inv X pins σ H s) (h:SqT X.K H b [.int k.1,.int k.2]) (h':SqT X.K H b [.int l.1,.int l.2]):k=l:=by
 have:=I.tuple_inj h h'
 injection this with e1 e2
 injection e2 with e2 _
 injection e1 with e1
 injection e2 with e2
 exact DI e1 e2
open Classical in
noncomputable def dU (K:PySem.W.Frag) (H:Hp) (e:Int×zl):Int×Int:=if h:∃k:Int×Int,∃b,e.2=.ref b∧SqT K H b [.int k.1,.int k.2]then h.choose else(0,0)
theorem oz {pins:List (Addr×Obj)} {σ:St} {G H:Hp} {s:zq} {b:Addr} {k:Int×Int} {e:Int×zl} (eG:Same G H) (I:Inv X pins σ H s) (h:SqT X.K G b [.int k.1,.int k.2]) (he:e.2=.ref b):dU X.K G e=k:=by
 have ex:∃k:Int×Int,∃b,e.2=.ref b∧SqT X.K G b [.int k.1,.int k.2]:=⟨k,b,he,h⟩
 unfold dU
 rw[dif_pos ex]
 obtain⟨b',e1,e2⟩:=ex.choose_spec
 rw[he]at e1
 cases e1
 exact rQ I (AZ eG e2) (AZ eG h)
def yn:zl→V
 | .ref b=>.ref b
 | _=>.non
def rR (prog:zL) (w:zQ) (K:PySem.W.Frag):List V→Hp→VK→Prop:=fun xs H Q=>∃(G:Hp) (p:Addr) (o:Obj) (ks:List (Int×Int)),xs=[.ref p]∧Same G H∧H p=some (XO p o)∧SetH prog w K G o ks∧ks.length≤1000∧∀(q:Addr) (us:List V) (ks':List (Int×Int)),H q=none→ks'.Perm ks→ks'.Pairwise (fun a b=>kQ a b=true)→us.length=ks'.length→(∀(i:Nat) (v:V) (k:Int×Int),us[i]? =some v→ks'[i]? =some k→∃b,v=.ref b∧SqT K G b [.int k.1,.int k.2])→Q (.ref q) (cA H q (.lst us))
theorem kI (hc:X.calm=true):dh X (.builtin "sorted") (rR X.prog X.w X.K):=by
 intro pins s σ H xs us Q I r h
 obtain⟨G,p,o,ks,rfl,eG,hp,⟨es,ep,t,R,T,nd⟩,h64,q⟩:=h
 obtain⟨u,rfl,rx⟩:=eS r
 cases rx
 have hpo:s.heap.get? p=some o:=(I.hok p _ hp).1
 have hsz:es.size=ks.length:=by have:=T.len;simpa using this
 have op:=gw X.w p ep es
 have osz:(cV X.w p ep es).size=es.size:=by have:=op.length_eq;simpa using this
 have ek:es.toList.map (dU X.K G)=ks:=by
  apply Bl
  intro i
  rw[zA]
  by_cases z:i< es.toList.length
  ·obtain⟨k,b,q1,q2,q3,q4⟩:=T.at_ i es.toList[i] (zu z)
   rw[zu z,q1]
   exact congrArg some (oz eG I q3 q2)
  ·rw[AL (by omega),AL (by have:=T.len;omega)];rfl
 have mem:∀e∈(cV X.w p ep es).toList,∃b,e.2=.ref b∧SqT X.K G b [.int (dU X.K G e).1,.int (dU X.K G e).2]:=fun e he=>by
  obtain⟨j,hj,ej⟩:=Bu.mp (op.mem_iff.mp he)
  obtain⟨k0,b0,r1,r2,r3,r4⟩:=T.at_ j e (by rw[zu hj,ej])
  exact⟨b0,r2,by rw[oz eG I r3 r2];exact r3⟩
 have kzp:((cV X.w p ep es).toList.map (dU X.K G)).Perm ks:=by
  have:=op.map (dU X.K G)
  rw[ek]at this
  exact this
 refine Calls.call_function_entry kind_sorted plain_sorted entry_sorted (args_sorted1 _) ?_
 unfold Cm.«sorted»
 refine zh (m:=checkCount "sorted" 1 1 _) (zo ?_)
 refine zh (PySem.W.kdu_collect (A:=X.A.in1) (u6 (a:=p) R) (I.ok.hd hc) hpo (by rw[AQ];omega) fun h' tk acc hk hacc=>?_)
 have av:acc.toList=(cV X.w p ep es).toList.map (·.2):=by
  apply Bl
  intro i
  rw[zA]
  by_cases z:i< acc.size
  ·have z2:i< acc.toList.length:=by simpa using z
   obtain⟨e,q1,q2⟩:=hacc.2 i acc.toList[i] (by rw[←zC];exact zu z2)
   rw[zu z2,zC,q1,q2];rfl
  ·have:=hacc.1
   rw[AL (by simp;omega),AL (by simp;omega)];rfl
 have hal:acc.toList.length=ks.length:=by rw[A4,hacc.1,hsz]
 have I':=I.kept (t':=tk) hk
 refine zh (GF ?_ (by rw[hal,AQ];omega))
 have hoL:(h'.push (seqObj "list" acc.toList.toArray 0)).get? h'.objs.size=some (seqObj "list" acc.toList.toArray 0):=zz _ rfl
 have src:∀v∈acc.toList,∃b,v=.ref b∧SqT X.K G b [.int (dU X.K G (0,v)).1,.int (dU X.K G (0,v)).2]:=fun v hv=>by
  rw[av]at hv
  obtain⟨e,he,rfl⟩:=Ah.mp hv
  obtain⟨b,h2,h3⟩:=mem e he
  exact⟨b,h2,by rw[show dU X.K G (0,e.2)=dU X.K G e from rfl];exact h3⟩
 have km:acc.toList.map (fun v=>dU X.K G (0,v))=(cV X.w p ep es).toList.map (dU X.K G):=by rw[av,BL];rfl
 refine zh (AX (Ak slot_list_sort ⟨_,hoL,rfl⟩ entry_list_sort (rP (key:=fun v=>dU X.K G (0,v)) hoL (fun v hv=>?_) (by rw[km];exact kzp.nodup_iff.mpr nd) (by rw[hal,AQ];omega) fun out op' pw=>⟨_,rfl,?_⟩) (args_list_sort _)))
 ·obtain⟨b,rfl,h3⟩:=src v hv
  obtain⟨its,rr,⟨ob,g1,g2,n,g3⟩,_⟩:=I'.tuple (AZ eG h3)
  obtain⟨u1,u2,e1,⟨t1,e2⟩,t2,e3⟩:∃u1 u2,its=[u1,u2]∧RelV (.int (dU X.K G (0,.ref b)).1) u1∧RelV (.int (dU X.K G (0,.ref b)).2) u2:=by
   cases rr with
   | cons a b => cases b with
    | cons c d => cases d with
     | nil=>exact⟨_,_,rfl,a,c⟩
  subst e1
  rw[e2,e3]at g3
  exact⟨b,ob,t1,t2,n,rfl,zr _ g1,g2,g3⟩
 obtain⟨e,he⟩:=sortedHeap_at (h:=h'.push (seqObj "list" acc.toList.toArray 0)) (a:=h'.objs.size) (vs:=acc.toList) (out:=out.toArray) (n:=0) hoL
 have at_:∀v∈out,∃b,v=.ref b∧SqT X.K G b [.int (dU X.K G (0,v)).1,.int (dU X.K G (0,v)).2]:=fun v hv=>src v (op'.mem_iff.mp hv)
 have pkz:(out.map fun v=>dU X.K G (0,v)).Perm ks:=by
  have:=op'.map fun v=>dU X.K G (0,v)
  rw[km]at this
  exact this.trans kzp
 have ol:out.length=ks.length:=by rw[op'.length_eq];exact hal
 refine zo ⟨_,rfl,.ref h'.objs.size,_,I'.laid (t':=tk) (fun b o z=>?_) (zw _) (show ObjOk X.prog X.w _ _ _ (.lst (out.map yn))from⟨by rw[A2,AQ];omega,out,e,?_,he⟩),rfl,q _ _ (out.map fun v=>dU X.K G (0,v)) (I'.hok.fresh (zw _)) pkz pw (by rw[A2,A2]) fun i v k h1 h2=>?_⟩
 ·show(sortedHeap _ _ _ _).get? b=some o
  rw[sortedHeap_old (zX (zI z)) (by rw[size_push'];exact DV (zI z))]
  exact zr _ z
 ·refine l9 _ _ (by rw[A2]) fun j x u hx hu=>?_
  rw[zA,hu]at hx
  cases hx
  obtain⟨b,rfl,_⟩:=at_ u (zW hu)
  rfl
 ·rw[zA]at h1 h2
  obtain⟨u,hu,rfl⟩:=Al.mp h1
  rw[hu]at h2
  cases h2
  obtain⟨b,rfl,h4⟩:=at_ u (zW hu)
  exact⟨b,rfl,h4⟩
end
def mX (w:zQ):Obj:={cls:=.type "set",dict:=none,data:=.set #[] 0 (.fresh 0 0 (!w.params.followText "set-order")),slots:= #[]}
theorem uc (prog:zL) (w:zQ) (K:PySem.W.Frag) (H:Hp):SetH prog w K H (mX w) []:=
 ⟨#[],0,.fresh 0 0 (!w.params.followText "set-order"),⟨⟨rfl,rfl,rfl⟩,rfl,⟨⟨rfl,rfl,fun a b _ hb=>by simp[Gr]at hb,fun j ⟨a,ha,_⟩=>by simp[Gr]at ha,.inl rfl,fun i h e=>by simp at e⟩,by show 0*5< 7*3;decide⟩,rfl,rfl⟩,⟨rfl,fun i e he=>by simp at he⟩,Ck⟩
def mY (w:zQ) (cap:List (Option Nat)) (wi:TI) (g:TG) (tf:TT) (tb:TB):TE:=fun σ H Q=>wi σ H fun J H1=>∀D,H1 D=none→pE g tf tb D (bh cap σ) (cA H1 D (XO D (mX w))) (fun H'=>Q (.ref D) H') J
section
variable {X:Cx} {scope:Ce} {N:List Str} {cap:List (Option Nat)} {tg iter:Expr} {ifs:List Expr} {pos:Pos} {wi:TI} {g:TG} {tf:TT} {tb:TB} {body:Env→zl→Sem Unit}
theorem rS (S:CompScope X scope N cap) (hc:X.calm=true) {elt:Expr} {gs:List E9} (hi:PI X tg iter wi)
  (hg:∀s H C fp,PG (aw X scope N s H C fp) tg g) (hf:∀s H C fp,qf (aw X scope N s H C fp) ifs tf) (hb:∀s H C fp,PB (aw X scope N s H C fp) (body (aw X scope N s H C fp).env) tb)
  (ht:∀env it acc,compTurn (.SetComp elt (⟨tg,iter,ifs,0⟩::gs) scope pos) 0 it acc env=da tg iter ifs (body env acc) it env (.compLoop (.SetComp elt (⟨tg,iter,ifs,0⟩::gs) scope pos) 0 it acc env):=by intro _ _ _;rfl)
  (hs:∀x,foldedSetIterable iter X.env x=pure x:=by intro _;rfl):PE X (.SetComp elt (⟨tg,iter,ifs,0⟩::gs) scope pos) (mY X.w cap wi g tf tb):=by
 intro pins s σ H Q I h
 rw[arm_eval_SetComp]
 have frc:∀x∈scope.names,x.2=.free→∃c,X.env.cells.lookup x.1=some c:=fun x hx hk=>I.ok.has x.1 (S.free x hx hk)
 refine BQ (use:=none) rfl hs (cZ frc) S.kind (eK S) (bz (hi pins s σ H _ I h) fun v s1 h1=>bz h1 fun itv s2 h2=>?_)
 obtain⟨it,fp,tn,J,H2,rfl,I2,T,st2,f2,w⟩:=h2
 unfold newSet setsByText
 refine zh (zh (C3 (zo ?_)))
 refine Ap ?_
 have hz:H2 s2.heap.objs.size=none:=I2.hok.fresh (zw _)
 have I3:Inv X pins σ (cA H2 s2.heap.objs.size (XO s2.heap.objs.size (mX X.w))) {s2 with heap:=s2.heap.push (mX X.w)} :=
  I2.laid (a:=s2.heap.objs.size) (t':=s2.toks) (fun _ _ q=>zr _ q) (zw _) (HC (zz _ rfl))
 have nD:∀b∈fp,b≠s2.heap.objs.size:=fun b hb=>by
  obtain⟨o,e,_⟩:=T.obj _ _ st2 b hb
  exact zX (zI e)
 have f3:∀b∈fp,FpOk X pins (cA H2 s2.heap.objs.size (XO s2.heap.objs.size (mX X.w))) b:=fun b hb=>⟨by rw[aJ (nD b hb)];exact(f2 b hb).1,(f2 b hb).2⟩
 refine iQ (RR:=fun C=>compPost (model X.prog X.w) X.A X.xe none (EP X pins σ Q) (.ref s2.heap.objs.size) C) S hc Hz rfl hg hf hb ht I3 T (T.keep _ _ _ st2 fun b hb o e=>zr _ e) f3 (w _ hz) fun C σ' H' s' hC I' q=>?_
 obtain⟨m,hn,_⟩:=I'.loc
 exact⟨m,hn,fun h' hs'=>⟨.ref _,H',jB I3 f3 hC I' hs',rfl,q⟩⟩
variable {kx vx elt tg2 iter2:Expr} {ifs2:List Expr} {wi2:TI} {g2:TG} {tf2:TT} {te:TE}
theorem pQ (hu:X.A.units+1< cLine) (S:CompScope X scope N cap) (hc:X.calm=true) (hi:PI X tg iter wi)
  (hg:∀s H C fp,PG (aw X scope N s H C fp) tg g) (hf:∀s H C fp,qf (aw X scope N s H C fp) ifs tf)
  (hi2:∀s H C fp,PI (aw X scope N s H C fp) tg2 iter2 wi2) (hg2:∀s H C fp,PG (aw X scope N s H C fp) tg2 g2) (hf2:∀s H C fp,qf (aw X scope N s H C fp) ifs2 tf2) (he:∀s H C fp,PE (aw X scope N s H C fp) elt te)
  (hs:∀x,foldedSetIterable iter X.env x=pure x:=by intro _;rfl) (hs2:∀env x,foldedSetIterable iter2 env x=pure x:=by intro _ _;rfl):PE X (.SetComp elt [⟨tg,iter,ifs,0⟩,⟨tg2,iter2,ifs2,0⟩] scope pos) (mY X.w cap wi g tf (vO wi2 g2 tf2 (mW X.prog X.w X.K te))):=
 rS S hc hi hg hf (body:=tT iter2 (.SetComp elt [⟨tg,iter,ifs,0⟩,⟨tg2,iter2,ifs2,0⟩] scope pos) 1)
  (fun s H C fp=>vP (Y:=aw X scope N s H C fp) hc rfl (hi2 s H C fp) (hg2 s H C fp) (hf2 s H C fp) (body:=uX elt) (vY (Y:=aw X scope N s H C fp) rfl hu (he s H C fp)) Hz rfl (fun _ _ _=>rfl) (hs2 _)) (fun _ _ _=>by rw[pF];rfl) hs
end
end L2
namespace Wb
open PySem L2 Mi
section
variable {Er:Nat→Prop} {α:Type} {prog:zL} {w:zQ} {K:PySem.W.Frag} {W W' W0 Wb W1 W2:Wd} {σ:St} {te:TE}
structure OwS2 (prog:zL) (w:zQ) (K:PySem.W.Frag) (W:Wd) (p:Addr) (ks:List (Int×Int)):Prop where
 g:W.G p=none
 h:∃o ks0,W.H p=some (XO p o)∧SetH prog w K W.G o ks0∧ks0.Perm ks
theorem pR {G G':Hp} {o:Obj} {ks:List (Int×Int)} (h:SetH prog w K G o ks) (e:Same G G'):SetH prog w K G' o ks:=
 let ⟨es,ep,t,R,T,nd⟩:=h
 ⟨es,ep,t,R,⟨T.len,fun i x hx=>let ⟨k,b,q1,q2,q3,q4⟩:=T.at_ i x hx;⟨k,b,q1,q2,AZ e q3,q4⟩⟩,nd⟩
theorem OwS2.mono {p:Addr} {ks:List (Int×Int)} (o:OwS2 prog w K W p ks) (e:Ext W W'):OwS2 prog w K W' p ks:=by
 obtain⟨x,k0,a,b,c⟩:=o.h
 exact⟨by rw[e.k p (by rw[a];exact fun z=>nomatch z)];exact o.g,x,k0,e.h _ _ a,pR b e.g,c⟩
theorem vZ {me:Res (Int×Int)} {D:Addr} (eb:Ext Wb W) (hD:Wb.H D=none) (h:EV Er te σ W (sh (isT2 K isI isI)) me):BV Er (mW prog w K te) σ Wb W (OwS2 prog w K) D (fun ks=>me.bind fun y=>ly ks y):=fun W1 ks N e1 o k=>
 h W1 e1 _ ((zj k).imp fun y ky v W2 e2 hv => by
  obtain⟨h3,h4⟩:=bj ky
  have o2:=o.mono e2
  obtain⟨ob,ks0,q1,q2,q3⟩:=o2.h
  obtain⟨p,x1,x2,rfl,t1,r1,r2⟩:=hv
  cases r1
  cases r2
  refine⟨W2.G,ob,ks0,p,y,W2.ok,q1,q2,by rw[q3.length_eq];exact h3,rfl,t1,fun hm=>?_,fun hm o' ks' s' p'=>?_⟩
  ·rw[if_pos (q3.mem_iff.mp hm)]at h4
   exact h4 W2 e2.g ((eb.trans e1).trans e2) o2
  ·rw[if_neg (fun z=>hm (q3.mem_iff.mpr z))]at h4
   exact h4 (W2.mut D (XO D o') o2.g) e2.g (((eb.trans e1).trans e2).mut hD o2.g) ⟨o2.g,o',ks',aI,s',p'.trans (.cons _ q3)⟩)
theorem rV {R:Rp α} {cap:List (Option Nat)} {wi:TI} {g:TG} {tf:TT} {t:TB} {mi:Res (List α)} {f:α→List (Int×Int)→Res (List (Int×Int))} (hi:IV Er wi σ W R mi)
  (hs:∀Wb D W2 a v s (M:Hp→Prop),Same W.G W2.G→Ext W Wb→Wb.H D=none→Ext Wb W2→OwS2 prog w K W2 D s→R W2.G a v→(f a s).OkE Er (fun s'=>∀W',Same W2.G W'.G→Ext Wb W'→OwS2 prog w K W' D s'→M W'.H)→g v (bh cap σ) W2.H fun σ2 H2=>Keep (bh cap σ) σ2∧tf σ2 H2 fun b H3=>if b=true then t D σ2 H3 M else M H3):
  EVo Er (dv (rR prog w K) (am (mY w cap wi g tf t) aU)) σ W (isT2 K isI isI) ((mi.bind fun xs=>bE f xs []).bind fun ks=>rh ks):=fun W1 e1 Q k=>by
 refine hi W1 e1 _ ((zj (zj k)).imp fun xs kx J W2 e2 hy D hD=>?_)
 refine kw (W:=W2) (W1:=W2.mut D (XO D (mX w)) (W2.gnone hD)) (Wb:=W2) (O:=OwS2 prog w K) (s0:=[]) hy (.inr (.refl _)) (.own _ hD) ⟨W2.gnone hD,mX w,[],aI,uc ..,.refl _⟩ (fun W3 a v s M e3 eb3 o3 r k3=>hs W2 D W3 a v s M ((e1.trans e2).g.trans e3) (e1.trans e2) hD eb3 o3 r k3) (fun _ _ _ e o=>o.mono e) ?_
 exact kx.imp fun ks kk W' z1 z2 z3=>by
  obtain⟨h3,h4⟩:=bj kk
  obtain⟨o,ks0,q1,q2,q3⟩:=z3.h
  refine⟨W'.G,D,o,ks0,rfl,W'.ok,q1,q2,by rw[q3.length_eq];exact h3,fun q us ks1 hq p1 p2 l1 at_=>?_⟩
  have e:ks1=dL ks:=iS (p1.trans q3) (p2.imp fun {a b} h=>by rw[ij]at h;rw[ie];omega)
  rw[←e]at h4
  exact qY (W2:=W') (vs:=us) ⟨l1,fun i v m e1 e2=>by
   obtain⟨b,rfl,hb⟩:=at_ i v m e1 e2
   exact⟨b,_,_,rfl,hb,rfl,rfl⟩⟩ (e2.trans z2) h4 q hq
end
end Wb
namespace L2
open PySem PySem.Spec PyProof.Rows Wb
def xc:R2:=fun x y H Q=>∃p q xs,x=.ref p∧y=.ref q∧H p=some (.lst xs)∧H q=some (.lst [])∧Q (.bl xs.isEmpty) H
theorem j5 {X:Cx} (hu:X.A.units< cLine):OpR X (compareOp .Eq) xc:=by
 intro pins s σ H x y v u Q I rx ry h
 obtain⟨p,q,xs,rfl,rfl,h1,h2,hq⟩:=h
 cases rx;cases ry
 obtain⟨i1,r1,t1,z1⟩:=I.list (BS (K:=X.K) h1)
 obtain⟨i2,r2,t2,z2⟩:=I.list (BS (K:=X.K) h2)
 have l1:=r1.length
 have l2:=r2.length
 have key:SeqAt.RcAt X.A s (.ref p) (.ref q) xs.isEmpty:=by
  cases xs with
  | nil =>
   have:=Hx (A:=X.A) (s:=s) (e:=fun _=>true) t1.isList t2.isList (by rw[zK,zK,←l1,←l2]) hu (fun j h1' h2'=>by
    have:j< i1.length:=by simpa using h1'
    rw[←l1]at this
    exact absurd this (Nat.not_lt_zero _))
   have e0:i1.toArray.size=0:=by rw[zK,←l1];rfl
   rw[e0]at this
   exact this
  | cons a r=>exact GH t1.isList t2.isList (by simp at l1 l2 ⊢;omega) hu
 exact key _ _ _ _ ⟨.bl _,H,I,rfl,hq⟩
end L2
namespace Wb
open PySem L2 Mi
section
variable {Er:Nat→Prop} {α:Type} {W:Wd} {σ:St} {ta:TE}
theorem j6 {R:Rp α} {ma:Res (List α)} (ha:EV Er ta σ W (pk R) ma):EV Er (cK xc ta (bO aU)) σ W (sh isB) (ma.bind fun a=>.ok a.isEmpty):=fun W1 e1 Q k=>
 ha W1 e1 _ ((zj k).imp fun a ka x W2 e2 hx=>by
  obtain⟨p,vs,rfl,h1,h2⟩:=hx
  refine⟨by decide,fun q hq=>⟨p,q,vs,rfl,rfl,?_,aI,?_⟩⟩
  ·rw[aJ (fun z=>by rw[z]at h1;rw[hq]at h1;cases h1)];exact h1
  ·have:vs.isEmpty=a.isEmpty:=by
    have:=h2.1
    cases vs <;> cases a <;> simp at this ⊢
   rw[this]
   exact ka (.bl a.isEmpty) (W2.mut q (.lst []) (W2.gnone hq)) (e2.trans (.own _ hq)) rfl)
end
end Wb
namespace Mi
def gB {α:Type} (kvs:List ((Int×Int)×α)) (k:Int×Int) (a:α):Res (List ((Int×Int)×α)):=dQ (kvs.length< 1000) (lw kvs k a)
end Mi
namespace Wb
open PySem PySem.W PySem.Calls PyProof.Rows
def lL (d:Addr) (n ep i:Nat):Obj:={cls:=.type "dict_keyiterator",dict:=none,data:=.fields #[.ref d,.int i 0,.int n 0,.int ep 0],slots:= #[]}
section
variable {prog:zL} {w:zQ} {A:Ai} {E:zl→zq→Prop} {s:zq} {d it:Addr} {o:Obj} {es:Array BJ} {ep:Nat}
theorem pS {Q:zl→zq→Prop} (hd:(d == sysModules)=false) (ho:s.heap.get? d=some o) (hx:o.ExactDict) (hdat:o.data=.dict es ep) (hQ:Q (.ref s.heap.objs.size) {s with heap:=s.heap.push (lL d es.size ep 0)}):wpAny (model prog w) A (pyIter (.ref d)) Q E s:=by
 have hT:s.TypeIs (.ref d) "dict" :=⟨o,ho,hx.1⟩
 refine CQ hT FZ (Ak FZ hT F.entry_dict_iter ?_ (F.args_dict_iter_1 _))
 unfold Cm.«dict.__iter__»
 refine zh ?_
 unfold Gs
 refine zh (wpAny_notOrdered_dict hT ?_)
 show wpAny _ _ (pure (As d)) _ _ s
 refine zo ?_
 show wpAny _ _ (EI d >>= _) _ _ s
 unfold EI
 rw[if_neg (by rw[hd];exact zF)]
 refine zh (zo ?_)
 refine zh (E1 ho hdat ?_)
 refine zh (ED ho hdat ?_)
 refine zh (Ap (zo ⟨_,rfl,"dict_keyiterator",_,⟨_,zz _ rfl,rfl⟩,AH.lookup,?_⟩))
 exact hQ
theorem pT {i:Nat} {Q:Option zl→zq→Prop} (hit:s.heap.get? it=some (lL d es.size ep i)) (ho:s.heap.get? d=some o) (hdat:o.data=.dict es ep) (hi:i< es.size)
  (hQ:∀h',h'.get? it=some (lL d es.size ep (i+1))→A9 it s.heap h'→Q (some es[i].key) {s with heap:=h'}):wpAny (model prog w) A (pyNext (.ref it)) Q E s:=by
 have hT:s.TypeIs (.ref it) "dict_keyiterator" :=⟨_,hit,rfl⟩
 unfold pyNext
 refine zh (Ci (Ay (name:=zx "__next__") hT AH
  (Ak AH hT Dn ?_ (Dd _))))
 refine zh (zo ?_)
 refine zh ?_
 refine zh ?_
 first | refine zh (Bv hT (zo ?_)) | refine zh (BR hT (zo ?_))
 refine zh (DM hit rfl ?_)
 have hown:Du "dict_keyiterator" =false:=by decide
 simp only[hown,A5,if_false]
 show wpAny _ _ (if(As d == Aw)=true then _ else _) _ _ s
 rw[if_neg (show ¬((As d == Aw)=true)from zF)]
 refine zh (zo ?_)
 refine zh (E1 ho hdat ?_)
 rw[if_neg (by simp)]
 refine zh (zo ?_)
 refine zh (ED ho hdat ?_)
 rw[if_neg (by simp)]
 refine zo ?_
 simp only[show ¬((i:Int)< 0)from by omega,if_false,AA,zM hi]
 refine zh ?_
 first | refine zh (Bv hT (zo ?_)) | refine zh (BR hT (zo ?_))
 refine zh (EJ hT ?_)
 show wpAny _ _ (setField (.ref it) 1 (rawInt ((i:Int)+1)) >>= _) _ _ s
 refine zh (C0 hit rfl (by simp) ?_)
 have hit':=Bq (Eb (·.setIfInBounds 1 (rawInt ((i:Int)+1)))) hit rfl
 refine zh (AX ?_)
 refine zh (EJ (s:={s with heap:=s.heap.update it (Eb (·.setIfInBounds 1 (rawInt ((i:Int)+1))))}) ⟨_,hit',rfl⟩ ?_)
 show wpAny _ _ (pure es[i].key) _ _ _
 exact zo (zo ⟨_,rfl,zo (hQ _ (hit'.trans rfl) (AK ..))⟩)
theorem rW {Q:Option zl→zq→Prop} (hh:A.handled=none) (hit:s.heap.get? it=some (lL d es.size ep es.size)) (ho:s.heap.get? d=some o) (hdat:o.data=.dict es ep)
  (hQ:∀h',DX it s.heap h'→Q none {s with heap:=h'}):wpAny (model prog w) A (pyNext (.ref it)) Q E s:=by
 have hT:s.TypeIs (.ref it) "dict_keyiterator" :=⟨_,hit,rfl⟩
 unfold pyNext
 refine zh (Ci (Ay (name:=zx "__next__") hT AH
  (Ak AH hT Dn ?_ (Dd _))))
 refine zh (zo ?_)
 refine zh ?_
 refine zh ?_
 first | refine zh (Bv hT (zo ?_)) | refine zh (BR hT (zo ?_))
 refine zh (DM hit rfl ?_)
 have hown:Du "dict_keyiterator" =false:=by decide
 simp only[hown,A5,if_false]
 show wpAny _ _ (if(As d == Aw)=true then _ else _) _ _ s
 rw[if_neg (show ¬((As d == Aw)=true)from zF)]
 refine zh (zo ?_)
 refine zh (E1 ho hdat ?_)
 rw[if_neg (by simp)]
 refine zh (zo ?_)
 refine zh (ED ho hdat ?_)
 rw[if_neg (by simp)]
 refine zo ?_
 simp only[show ¬((es.size:Int)< 0)from by omega,if_false,AA,Cb (zw es.size)]
 refine zh ?_
 first | refine zh (Bv hT (zo ?_)) | refine zh (BR hT (zo ?_))
 show wpAny _ _ (setField (.ref it) 0 .none >>= _) _ _ s
 refine zh (C0 hit rfl (by simp) ?_)
 show wpAny _ _ (newExc (.type "StopIteration") [] >>= _) _ _ _
 refine zh ?_
 simp only[newExc,newTuple]
 refine zh (Ap ?_ (by size_fits))
 refine zh (m:=firstArgMember _ _) (EX (a:=Aw) (by first | rfl | (simp only[firstArgMember];rfl)) ?_)
 refine Ap ?_ (by size_fits)
 simp only[raiseNew]
 refine zh (F7 ?_)
 rw[show A.in1.handled=none from hh]
 refine zh (zo (G2 ?_))
 refine zh (Cv (T:="StopIteration") (b:=true) ⟨_,zz _ rfl,rfl⟩ DG ?_)
 exact zo (hQ _ (((AK ..).extBut.push _).push _))
end
end Wb
namespace L2
open PySem PySem.Spec PyProof.Rows Wb
def KP (K:PySem.W.Frag) (G:Hp):List ((Int×Int)×V)→List (List Key×Addr×zl)→Prop:=Paired (fun(p:(Int×Int)×V) (q:List Key×Addr×zl)=>hX p.1=q.1∧SqT K G q.2.1 [.int p.1.1,.int p.1.2]∧RelV p.2 q.2.2)
section
variable {K:PySem.W.Frag} {G G':Hp} {kvs:List ((Int×Int)×V)} {xs:List (List Key×Addr×zl)}
theorem KP.val (r:KP K G kvs xs) (k:Int×Int):RelO (g9 kvs k) ((atKey xs (hX k)).map (·.2)):=by
 unfold KP at r
 induction r with
 | nil=>exact BO
 | @cons p q ps qs h t ih =>
  obtain⟨h1,_,h2⟩:=h
  by_cases e:p.1=k
  ·have e':q.1=hX k:=by rw[←h1,e]
   have b:atKey (q::qs) (hX k)=some q.2:=by simp[atKey,Bb,e']
   rw[fe e,b];exact h2
  ·have e':¬q.1=hX k:=fun z=>e (ik (h1.trans z))
   have b:atKey (q::qs) (hX k)=atKey qs (hX k):=by simp[atKey,Bb,e']
   rw[ff e,b];exact ih
theorem KP.repl (r:KP K G kvs xs) (k:Int×Int) {y:V} {u:zl} (ry:RelV y u):KP K G (kvs.map fun kv=>if kv.1=k then(kv.1,y)else kv) (xs.map (PySem.putAt (hX k) u)):=by
 unfold KP at r ⊢
 induction r with
 | nil=>exact .nil
 | @cons p q ps qs h t ih =>
  rw[An,An]
  refine .cons ?_ ih
  obtain⟨h1,h2,h3⟩:=h
  unfold PySem.putAt
  by_cases e:p.1=k
  ·rw[if_pos e,if_pos (by rw[←h1,e])];exact⟨h1,h2,ry⟩
  ·rw[if_neg e,if_neg (fun z=>e (ik (h1.trans z)))];exact⟨h1,h2,h3⟩
theorem KP.put (r:KP K G kvs xs) (k:Int×Int) {b:Addr} {y:V} {u:zl} (hb:SqT K G b [.int k.1,.int k.2]) (ry:RelV y u):KP K G (oY kvs k y) (storedH xs (hX k) b u):=by
 have e:(kvs.any fun kv=>decide (kv.1=k))=(atKey xs (hX k)).isSome:=by rw[kZ,(r.val k).isSome_eq,Option.isSome_map]
 unfold oY storedH
 rw[e]
 by_cases q:(atKey xs (hX k)).isSome=true
 ·rw[if_pos q,if_pos q];exact r.repl k ry
 ·rw[if_neg q,if_neg q];exact Paired.snoc r ⟨rfl,hb,ry⟩
theorem KP.same (r:KP K G kvs xs) (e:Same G G'):KP K G' kvs xs:=Paired.mapP r fun _ _ z=>⟨z.1,AZ e z.2.1,z.2.2⟩
end
def DictP (prog:zL) (w:zQ) (K:PySem.W.Frag) (G:Hp) (o:Obj) (kvs:List ((Int×Int)×V)):Prop:=∃es ep xs,o.ExactDict∧o.data=.dict es ep∧es.toList=xs.map (entryOfKey (tupleKind (mixKind prog w)))∧(xs.map (·.1)).Nodup∧KP K G kvs xs
def PDa (prog:zL) (w:zQ) (K:PySem.W.Frag) (G H:Hp) (a:Addr) (kvs:List ((Int×Int)×V)):Prop:=∃o,Same G H∧H a=some (XO a o)∧(a == sysModules)=false∧DictP prog w K G o kvs∧kvs.length≤1000
def j7:Obj:={cls:=.type "dict",dict:=none,data:=.dict #[],slots:= #[]}
section
variable {X:Cx} {K:PySem.W.Frag} {pos pos':Pos} {o i value:Expr} {td ty tv:TE} {pins:List (Addr×Obj)} {σ:St} {H:Hp} {s:zq}
theorem rX (prog:zL) (w:zQ) (K:PySem.W.Frag) (G:Hp):DictP prog w K G j7 []:=⟨#[],0,[],⟨rfl,rfl,rfl⟩,rfl,rfl,CT,.nil⟩
theorem PDa.h {G:Hp} {a:Addr} {kvs:List ((Int×Int)×V)} (I:Inv X pins σ H s) (g:PDa X.prog X.w X.K G H a kvs):∃xs,KP X.K G kvs xs∧s.heap.DictOfH (tupleKind (mixKind X.prog X.w)) a xs∧xs.length≤1000:=by
 obtain⟨o,eG,ha,lo,⟨es,ep,xs,ex,dat,he,nd,r⟩,hl⟩:=g
 have hl2:kvs.length=xs.length:=Paired.length r
 refine⟨xs,r,⟨o,es,ep,(I.hok a _ ha).1,ex,dat,he,fun x hx=>?_,nd⟩,by omega⟩
 obtain⟨j,hj⟩:=D0.mp hx
 obtain⟨p,hp,h1,h2,h3⟩:=gL r hj
 rw[←h1]
 exact eO I (AZ eG h2)
end
end L2
namespace Wb
open PySem L2 Mi
section
variable {Er:Nat→Prop} {α:Type} {prog:zL} {w:zQ} {K:PySem.W.Frag} {W W' W0 W1 W2:Wd} {σ:St} {te ti ta:TE} {R:Rp α} {i:Nat} {p:Addr} {D:Ends} {r:TS}
structure OwP (prog:zL) (w:zQ) (K:PySem.W.Frag) (R:Rp α) (W:Wd) (p:Addr) (kvs:List ((Int×Int)×α)):Prop where
 g:W.G p=none
 h:∃o vs,W.H p=some (XO p o)∧(p == sysModules)=false∧DictP prog w K W.G o vs∧vs.length≤1000∧vs.length=kvs.length∧∀(i:Nat) (q:(Int×Int)×V) (x:(Int×Int)×α),vs[i]? =some q→kvs[i]? =some x→q.1=x.1∧R W.G x.2 q.2
theorem dictP_same {G G':Hp} {o:Obj} {kvs:List ((Int×Int)×V)} (h:DictP prog w K G o kvs) (e:Same G G'):DictP prog w K G' o kvs:=
 let ⟨es,ep,xs,a,b,c,d,r⟩:=h
 ⟨es,ep,xs,a,b,c,d,r.same e⟩
theorem OwP.mono [Mono R] {kvs:List ((Int×Int)×α)} (o:OwP prog w K R W p kvs) (e:Ext W W'):OwP prog w K R W' p kvs:=by
 obtain⟨x,vs,a,lo,b,hl,c,d⟩:=o.h
 exact⟨by rw[e.k p (by rw[a];exact fun z=>nomatch z)];exact o.g,x,vs,e.h _ _ a,lo,dictP_same b e.g,hl,c,fun i q y h1 h2=>⟨(d i q y h1 h2).1,zk e.g (d i q y h1 h2).2⟩⟩
theorem rY {H:Hp} {vs:List ((Int×Int)×V)} {xs:List ((Int×Int)×α)} (hl:vs.length=xs.length) (h:∀(i:Nat) (q:(Int×Int)×V) (x:(Int×Int)×α),vs[i]? =some q→xs[i]? =some x→q.1=x.1∧R H x.2 q.2) {k:Int×Int} {a:α} {v:V} (hv:R H a v):
  (oY vs k v).length=(lw xs k a).length∧∀(i:Nat) (q:(Int×Int)×V) (x:(Int×Int)×α),(oY vs k v)[i]? =some q→(lw xs k a)[i]? =some x→q.1=x.1∧R H x.2 q.2:=by
 have key:∀(vs:List ((Int×Int)×V)) (xs:List ((Int×Int)×α)),vs.length=xs.length→(∀(i:Nat) (q:(Int×Int)×V) (x:(Int×Int)×α),vs[i]? =some q→xs[i]? =some x→q.1=x.1∧R H x.2 q.2)→(vs.any fun p=>decide (p.1=k))=(xs.any fun p=>decide (p.1=k)):=by
  intro vs
  induction vs with
  | nil=>intro xs hl _;cases xs with | nil=>rfl | cons _ _=>cases hl
  | cons q vs ih =>
   intro xs hl h
   cases xs with
   | nil=>cases hl
   | cons x xs=>rw[Dg,Dg,ih xs (by simpa using hl) fun i q x h1 h2=>h (i+1) q x h1 h2,(h 0 q x rfl rfl).1]
 unfold oY lw
 rw[key vs xs hl h]
 by_cases z:(xs.any fun p=>decide (p.1=k))=true
 ·rw[if_pos z,if_pos z]
  refine⟨by rw[A2,A2];exact hl,fun i q x h1 h2=>?_⟩
  rw[zA]at h1 h2
  obtain⟨q',h3,rfl⟩:=Al.mp h1
  obtain⟨x',h4,rfl⟩:=Al.mp h2
  have:=h i q' x' h3 h4
  by_cases y:x'.1=k
  ·rw[if_pos y,if_pos (this.1.trans y)];exact⟨this.1,hv⟩
  ·rw[if_neg y,if_neg (fun e=>y (this.1.symm.trans e))];exact this
 ·rw[if_neg z,if_neg z]
  refine⟨by simp[hl],fun i q x h1 h2=>?_⟩
  by_cases y:i< vs.length
  ·rw[zT y]at h1
   rw[zT (by omega)]at h2
   exact h i q x h1 h2
  ·rw[zN (by omega)]at h1
   rw[zN (by omega),←hl]at h2
   cases e:i- vs.length with
   | zero=>rw[e]at h1 h2;cases h1;cases h2;exact⟨rfl,hv⟩
   | succ n=>rw[e]at h1;simp at h1
theorem rZ {kvs:List ((Int×Int)×α)} {k:Int×Int} {a:α} :(lw kvs k a).length≤kvs.length+1:=by unfold lw;split <;> simp
def EVp (prog:zL) (w:zQ) (K:PySem.W.Frag) (Er:Nat→Prop) (t:TE) (σ:St) (W:Wd) (R:Rp α) (m:Res (List ((Int×Int)×α))):Prop:=∀W1,Ext W W1→∀Q:VK,m.OkE Er (fun xs=>∀p W2,Ext W1 W2→W1.H p=none→OwP prog w K R W2 p xs→Q (.ref p) W2.H)→t σ W1.H Q
end
end Wb
namespace Mi
def sd {κ α:Type} [DecidableEq κ] (kvs:List (κ×α)) (k:κ) (z:α):α:=(look kvs k).getD z
def kJ (n:Int):Res (List Int):=dQ (-(2^61)≤n∧n< 2^61) (dR n).reverse
end Mi
namespace L2
open PySem PySem.Spec PyProof.Rows Wb
def yu (a:Addr) (o:Obj) (es:Array BJ):It:=⟨fun i H=>H a=some (XO a o)∧i< es.size,fun i H x H'=>H'=H∧∃e,es[i]? =some e∧RelV x e.key,fun i H=>H a=some (XO a o)∧i=es.size⟩
theorem mZ {P:zL} {w:zQ} {K:PySem.W.Frag} {tg:Expr} {a it:Addr} {o:Obj} {es:Array BJ} {ep:Nat} (hdat:o.data=.dict es ep) (hx:o.ExactDict) (hr:∀(i:Nat) (e:BJ),es[i]? =some e→∃b,e.key=.ref b):Turn P w K tg (yu a o es) [it] it (fun i h=>h.get? it=some (lL a es.size ep i)) where
 mem:=by simp
 obj:=fun i h st b hb=>by
  have e:b=it:=by simpa using hb
  subst e
  exact⟨_,st,fun v z=>by
   have z':ES _=DC v:=z
   cases z'⟩
 keep:=fun i h h' st k=>k it (by simp) _ st
 item:=by
  intro X hP hw hK hc i pins s σ H E I hf st hg
  subst hP hw hK
  obtain⟨ha,hi⟩:=hg
  obtain⟨f0,f1,f2,f3,f4,f5⟩:=hf it (by simp)
  have ho:s.heap.get? a=some o:=(I.hok a _ ha).1
  refine pT st ho hdat hi fun h' st' sb=>?_
  have I1:Inv X pins σ H {s with heap:=h'} :=I.turned (t':=s.toks) (fun b o hb e=>(sb.2 b hb).trans e) f0 f1 f3 f4 f5
  obtain⟨b,hb⟩:=hr i _ (zM hi)
  exact⟨_,rfl,kU (s:={s with heap:=h'}) (n:="dict_keyiterator") st' rfl rfl (by decide) ⟨.ref b,H,I1,by rw[hb];rfl,⟨rfl,_,zM hi,by rw[hb];rfl⟩,st',fun b hb=>(hf b hb).1⟩⟩
 done:=by
  intro X hP hw hK hc i pins s σ H E I hf st hg
  subst hP hw hK
  obtain⟨ha,hi⟩:=hg
  subst hi
  obtain⟨f0,f1,f2,f3,f4,f5⟩:=hf it (by simp)
  have ho:s.heap.get? a=some o:=(I.hok a _ ha).1
  exact rW (I.ok.hd hc) st ho hdat fun h' eb=>⟨rfl,I.turned (t':=s.toks) (fun b o hb e=>eb b o hb e) f0 f1 f3 f4 f5⟩
 self:=fun A i s Q E st hQ=>by
  have hT:s.TypeIs (.ref it) "dict_keyiterator" :=⟨_,st,rfl⟩
  refine CQ hT Dv (Ak Dv hT F.entry_dict_keyiterator_iter ?_ (F.args_dict_keyiterator_iter_1 _))
  show wpAny _ _ (ret (.ref it)) _ _ s
  exact zo ⟨_,rfl,"dict_keyiterator",_,hT,AH.lookup,hQ⟩
def n6 (prog:zL) (w:zQ) (K:PySem.W.Frag) (tl:TE):TI:=fun σ H R=>tl σ H fun x H1=>∃G a o kvs,x=.ref a∧Same G H1∧H1 a=some (XO a o)∧(a == sysModules)=false∧DictP prog w K G o kvs∧∀es ep,o.data=.dict es ep→es.size=kvs.length→(∀(i:Nat) (e:BJ) (p:(Int×Int)×V),es[i]? =some e→kvs[i]? =some p→∃b,e.key=.ref b∧SqT K G b [.int p.1.1,.int p.1.2])→R (yu a o es) H1
theorem DictP.ents {prog:zL} {w:zQ} {K:PySem.W.Frag} {G:Hp} {o:Obj} {kvs:List ((Int×Int)×V)} (h:DictP prog w K G o kvs):∃es ep,o.ExactDict∧o.data=.dict es ep∧es.size=kvs.length∧∀(i:Nat) (e:BJ) (p:(Int×Int)×V),es[i]? =some e→kvs[i]? =some p→∃b,e.key=.ref b∧SqT K G b [.int p.1.1,.int p.1.2]:=by
 obtain⟨es,ep,ys,hx,hdat,he,nd,rel⟩:=h
 refine⟨es,ep,hx,hdat,by rw[←A4,he,A2];exact(Paired.length rel).symm,fun i e p h1 h2=>?_⟩
 rw[←zC,he,zA]at h1
 obtain⟨y,h3,rfl⟩:=Al.mp h1
 obtain⟨p',h4,h5,h6,h7⟩:=gL rel h3
 rw[h2]at h4;cases h4
 exact⟨y.2.1,rfl,h6⟩
section
variable {X:Cx} {K:PySem.W.Frag} {pos pos':Pos} {o i e tg l:Expr} {td ty tv tl tk:TE} {pins:List (Addr×Obj)} {σ:St} {H:Hp} {s:zq}
theorem se (hl:PE X l tl):PI X tg l (n6 X.prog X.w X.K tl):=by
 intro pins s σ H R I h
 refine bz (hl pins s σ H _ I h) fun v s1 ⟨x,H1,I1,r1,q1⟩=>?_
 obtain⟨G,a,ob,kvs,e,eG,ha,lo,d,q⟩:=q1
 subst e
 cases r1
 obtain⟨es,ep,hx,hdat,hs,at_⟩:=d.ents
 have ho:s1.heap.get? a=some ob:=(I1.hok a _ ha).1
 refine pS lo ho hx hdat ?_
 refine⟨s1.heap.objs.size,[s1.heap.objs.size],_,_,H1,rfl,I1.kept (t':=s1.toks) fun b o e=>zr _ e,mZ hdat hx (fun i e he=>?_),zz _ rfl,fun b hb=>?_,q es ep hdat hs at_⟩
 ·have hi:i< kvs.length:=by have:=(Bn.mp he).1;omega
  obtain⟨b,hb,_⟩:=at_ i e _ he (zu hi)
  exact⟨b,hb⟩
 ·have e:b=s1.heap.objs.size:=by simpa using hb
  subst e
  exact I1.fpOk (zw _) (I1.hok.fresh (zw _))
def sf (prog:zL) (w:zQ) (K:PySem.W.Frag) (td ty:TE):TE:=fun σ H Q=>td σ H fun x H1=>ty σ H1 fun y H2=>∃G a kvs b k v,x=.ref a∧PDa prog w K G H2 a kvs∧y=.ref b∧SqT K G b [.int k.1,.int k.2]∧g9 kvs k=some v∧Q v H2
theorem ud (hu:X.A.units+1< cLine) (ho:PE X o td) (hi:PE X i ty) (hs:qx i):PE X (.Subscript o i pos) (sf X.prog X.w X.K td ty):=by
 intro pins s σ H Q I h
 refine nG PySem.F.slot_dict_getitem.lookup hs (bz (ho pins s σ H _ I h) fun u s1 ⟨x,H1,I1,rx,q1⟩=>bz (hi pins s1 σ H1 _ I1 q1) fun iv s2 ⟨y,H2,I2,ry,G,a,kvs,b,k,v,ex,g,ey,hb,ev,q2⟩=>?_)
 subst ex ey
 obtain rfl:u=As a:=rx
 obtain rfl:iv=As b:=ry
 obtain⟨xs,rel,dd,hx⟩:=g.h I2
 obtain⟨ob,eG,ha,lo,_,_⟩:=g
 have hT:s2.TypeIs (.ref a) "dict" :=by
  obtain⟨od,es,ep,h1,h2,_⟩:=id dd
  exact⟨od,h1,h2.1⟩
 refine⟨hT,?_⟩
 obtain⟨w',hw,rw'⟩:=GQ (v:=v) (o:=(atKey xs (hX k)).map (·.2)) (by rw[←ev];exact rel.val k)
 obtain⟨p,hp,rfl⟩:=Al.mp hw
 exact wpAny_getItem_heap (Fq hu) (eO I2 (AZ eG hb)) dd hp ⟨v,H2,I2.tok _,rw',q2⟩
def si (prog:zL) (w:zQ) (K:PySem.W.Frag) (td ty tv:TE):TE:=fun σ H Q=>td σ H fun x H1=>∃a,x=.ref a∧(ty σ H1 fun y H2=>tv σ H2 fun z H3=>∃G kvs b k,PDa prog w K G H3 a kvs∧y=.ref b∧SqT K G b [.int k.1,.int k.2]∧Q ((g9 kvs k).getD z) H3)∧∃o kvs G,Same G H1∧H1 a=some (XO a o)∧(a == sysModules)=false∧DictP prog w K G o kvs
theorem pU {x:Option V} {y:Option zl} {z:V} {u:zl} (r:RelO x y) (rz:RelV z u):RelV (x.getD z) (y.getD u):=by
 cases x <;> cases y
 ·exact rz
 ·exact r.elim
 ·exact r.elim
 ·exact r
theorem sj {apos cpos:Pos} {k d:Expr} (hu:X.A.units+1< cLine) (ho:PE X o td) (hk:PE X k tk) (hd:PE X d tv)
  (hbase:attributeBase o (zx "get") X.env (eval o X.env)=eval o X.env:=by rfl)
  (hfew:((backTo cpos (starEach [k,d] X.env)).all (fun x=> !x.1) && (backToKw cpos (keywordEach [] X.env)).all (fun x=>x.1.isSome)
   && decide (([k,d]:List Expr).length+([]:List Eo).length+(if([]:List Eo).isEmpty then 0 else 1)< 30))=true:=by rfl)
  (hline:(apos.endLine == cpos.line)=true:=by rfl) (hs:starEach [k,d] X.env=[(false,eval k X.env),(false,eval d X.env)]:=by rfl):
  PE X (.Call (.Attribute o (zx "get") apos) [k,d] [] cpos) (si X.prog X.w X.K td tk tv):=by
 intro pins s σ H Q I h
 refine Ep hbase hfew hline rfl (bz (ho pins s σ H _ I h) fun v s1 ⟨x,H1,I1,r1,a,e,q1,ob,kvs,G,eG,ha,lo,dp⟩=>?_)
 subst e
 cases r1
 obtain⟨es,ep,hx,hdat,_⟩:=dp.ents
 have hob:s1.heap.get? a=some ob:=(I1.hok a _ ha).1
 refine⟨"dict","dict.get",PySem.F.plainAttrs_dict,PySem.F.slot_dict_get,PySem.F.type_dict_get,⟨ob,hob,hx.1⟩,fun b e2=>?_,?_⟩
 ·cases e2
  exact⟨ob,hob,hx.2.1⟩
 ·rw[hs]
  refine wpAny_dict_get2_heap (knd:=tupleKind (mixKind X.prog X.w)) (Fq hu) lo (bz (hk pins s1 σ H1 _ I1 q1) fun u s2 ⟨y,H2,I2,r2,q2⟩=>bz (hd pins s2 σ H2 _ I2 q2) fun t s3 ⟨z,H3,I3,r3,G3,kvs3,b,kk,g3,ey,hb,q3⟩=>?_)
  subst ey
  obtain rfl:u=As b:=r2
  obtain⟨xs,rel,dd,hz⟩:=g3.h I3
  obtain⟨_,eG3,_⟩:=g3
  exact⟨b,hX kk,xs,rfl,eO I3 (AZ eG3 hb),dd,_,H3,I3.tok _,pU (rel.val kk) r3,q3⟩
def sk (cap:List (Option Nat)) (wi:TI) (g:TG) (tf:TT) (tb:TB):TE:=fun σ H Q=>wi σ H fun J H1=>∀D,H1 D=none→(D == sysModules)=false→pE g tf tb D (bh cap σ) (cA H1 D (XO D j7)) (fun H'=>Q (.ref D) H') J
def n9 (prog:zL) (w:zQ) (K:PySem.W.Frag) (tk tv:TE):TB:=fun D σ H N=>tk σ H fun y H1=>tv σ H1 fun v H2=>∃G kvs b k,PDa prog w K G H2 D kvs∧kvs.length< 1000∧y=.ref b∧SqT K G b [.int k.1,.int k.2]∧∀o',DictP prog w K G o' (oY kvs k v)→N (cA H2 D (XO D o'))
theorem sm {Y:Cx} {kx vx:Expr} (hxe:Y.xe=fun _ _=>False) (hu:Y.A.units+1< cLine) (hk:PE Y kx tk) (hv:PE Y vx tv):PB Y (uT kx vx Y.env) (n9 Y.prog Y.w Y.K tk tv):=by
 intro D pins s σ H N I h
 have hk':=hk pins s σ H _ I h
 rw[hxe]at hk'
 refine zh (bz hk' fun u s1 ⟨x,H1,I1,r1,q1⟩=>?_)
 have hv':=hv pins s1 σ H1 _ I1 q1
 rw[hxe]at hv'
 refine zh (AX (bz hv' fun r s2 ⟨y,H2,I2,r2,G,kvs,b,k,g,hl,ex,hb,q⟩=>?_))
 subst ex
 obtain rfl:u=As b:=r1
 obtain⟨xs,rel,dd,hx⟩:=g.h I2
 obtain⟨ob,eG,ha,lo,_,_⟩:=g
 refine zh (By (AX (wpAny_dictSet_heap (hsz:=by rw[AQ];omega) (show(tupleKind (mixKind Y.prog Y.w)).room Y.A from Nat.lt_of_succ_lt hu) (eO I2 (AZ eG hb)) dd fun h' dd' hs=>?_)))
 obtain⟨o',es,ep,hq,h2,h3,h4,_,h5⟩:=dd'
 exact⟨σ,_,tx I2 (by rw[ha];exact BO) hs ⟨o',hq⟩ (HC hq),fun _ _ e=>e,q o' ⟨es,ep,_,h2,h3,h4,h5,rel.put k hb r2⟩⟩
variable {scope:Ce} {N:List Str} {cap:List (Option Nat)} {iter kx vx:Expr} {ifs:List Expr} {wi:TI} {g:TG} {tf:TT} {tb:TB} {body:Env→zl→Sem Unit}
theorem gT (hu:X.A.units+1< cLine) (S:CompScope X scope N cap) (hc:X.calm=true) (hi:PI X tg iter wi)
  (hg:∀s H C fp,PG (aw X scope N s H C fp) tg g) (hf:∀s H C fp,qf (aw X scope N s H C fp) ifs tf) (hk:∀s H C fp,PE (aw X scope N s H C fp) kx tk) (hv:∀s H C fp,PE (aw X scope N s H C fp) vx tv)
  (hs:∀x,foldedSetIterable iter X.env x=pure x:=by intro _;rfl):PE X (.DictComp kx vx [⟨tg,iter,ifs,0⟩] scope pos) (sk cap wi g tf (n9 X.prog X.w X.K tk tv)):=by
 intro pins s σ H Q I h
 rw[arm_eval_DictComp]
 have frc:∀x∈scope.names,x.2=.free→∃c,X.env.cells.lookup x.1=some c:=fun x hx hk=>I.ok.has x.1 (S.free x hx hk)
 refine BQ (use:=none) rfl hs (cZ frc) S.kind (eK S) (bz (hi pins s σ H _ I h) fun v s1 h1=>bz h1 fun itv s2 h2=>?_)
 obtain⟨it,fp,tn,J,H2,rfl,I2,T,st2,f2,w⟩:=h2
 refine Ap ?_
 have hz:H2 s2.heap.objs.size=none:=I2.hok.fresh (zw _)
 have I3:Inv X pins σ (cA H2 s2.heap.objs.size (XO s2.heap.objs.size j7)) {s2 with heap:=s2.heap.push {cls:=.type "dict",dict:=none,data:=.dict #[]}} :=
  I2.laid (a:=s2.heap.objs.size) (t':=s2.toks) (fun _ _ q=>zr _ q) (zw _) (HC (o:=j7) (zz _ rfl))
 have nD:∀b∈fp,b≠s2.heap.objs.size:=fun b hb=>by
  obtain⟨o,e,_⟩:=T.obj _ _ st2 b hb
  exact zX (zI e)
 have f3:∀b∈fp,FpOk X pins (cA H2 s2.heap.objs.size (XO s2.heap.objs.size j7)) b:=fun b hb=>⟨by rw[aJ (nD b hb)];exact(f2 b hb).1,(f2 b hb).2⟩
 refine iQ (RR:=fun C=>compPost (model X.prog X.w) X.A X.xe none (EP X pins σ Q) (.ref s2.heap.objs.size) C) (body:=uT kx vx) S hc CompE.dict rfl hg hf (fun s H C fp=>sm (Y:=aw X scope N s H C fp) rfl hu (hk s H C fp) (hv s H C fp)) (fun _ _ _=>rfl) I3 T (T.keep _ _ _ st2 fun b hb o e=>zr _ e) f3 (w _ hz (beq_eq_false_iff_ne.mpr (Df (zX I2.big)))) fun C σ' H' s' hC I' q=>?_
 obtain⟨m,hn,_⟩:=I'.loc
 exact⟨m,hn,fun h' hs'=>⟨.ref _,H',jB I3 f3 hC I' hs',rfl,q⟩⟩
end
end L2
namespace Wb
open PySem L2 Mi
section
variable {Er:Nat→Prop} {α β:Type} {prog:zL} {w:zQ} {K:PySem.W.Frag} {W W' W0 Wb W1 W2:Wd} {σ:St} {t te tk tv td ti ta:TE} {R:Rp α} {i:Nat} {p:Addr} {D:Ends} {r:TS}
def isPD (prog:zL) (w:zQ) (K:PySem.W.Frag) (R:Rp α):Rp (List ((Int×Int)×α)):=fun G kvs v=>∃p o vs,v=.ref p∧G p=some (XO p o)∧(p == sysModules)=false∧DictP prog w K G o vs∧vs.length≤1000∧vs.length=kvs.length∧∀(i:Nat) (q:(Int×Int)×V) (x:(Int×Int)×α),vs[i]? =some q→kvs[i]? =some x→q.1=x.1∧R G x.2 q.2
instance zkeep68 [Mono R]:Mono (isPD prog w K R):=⟨fun e ⟨p,o,vs,h0,h1,h2,h3,h4,h5,h6⟩=>⟨p,o,vs,h0,e _ _ h1,h2,dictP_same h3 e,h4,h5,fun i q x a b=>⟨(h6 i q x a b).1,zk e (h6 i q x a b).2⟩⟩⟩
theorem OwP.frz [Mono R] {kvs:List ((Int×Int)×α)} (o:OwP prog w K R W p kvs) (e:Ext W0 W) (hp:W0.H p=none):
  ∃W',W'.H=W.H∧Ext W0 W'∧Same W.G W'.G∧isPD prog w K R W'.G kvs (.ref p)∧∀q,q≠p→W'.G q=W.G q:=by
 obtain⟨ob,vs,a,lo,b,hl,c,d⟩:=o.h
 exact⟨W.frz p _ a,rfl,e.frz hp a o.g,cr o.g,⟨p,ob,vs,rfl,aI,lo,dictP_same b (cr o.g),hl,c,fun i q x h1 h2=>⟨(d i q x h1 h2).1,zk (cr o.g) (d i q x h1 h2).2⟩⟩,fun q hq=>aJ hq⟩
theorem EVp.ev [Mono R] {m:Res (List ((Int×Int)×α))} (h:EVp prog w K Er t σ W R m):EV Er t σ W (sh (isPD prog w K R)) m:=fun W1 e1 Q k=>h W1 e1 Q (k.imp fun xs kx p W2 e2 hp o=>by
 obtain⟨W3,hH,e3,_,r,_⟩:=o.frz e2 hp
 rw[←hH]
 exact kx (.ref p) W3 e3 r)
theorem j8 [Mono R] {mk:Res (Int×Int)} {mv:Res α} {D:Addr} (eb:Ext Wb W) (hD:Wb.H D=none) (h:EV Er tk σ W (sh (isT2 K isI isI)) mk) (h':EV Er tv σ W (sh R) mv):BV Er (n9 prog w K tk tv) σ Wb W (OwP prog w K R) D (fun kvs=>mk.bind fun k=>mv.bind fun a=>gB kvs k a):=fun W1 xs N e1 o k=>
 h W1 e1 _ ((zj k).imp fun b kb x W2 e2 hx => h' W2 (e1.trans e2) _ ((zj kb).imp fun a ka v W3 e3 hv => by
  obtain⟨h3,h4⟩:=bj ka
  have o':=o.mono (e2.trans e3)
  obtain⟨ob,vs,o1,lo,o2,hl,o3,o4⟩:=o'.h
  obtain⟨p1,p2⟩:=rY o3 o4 (k:=b) hv
  have e:=(e1.trans e2).trans e3
  obtain⟨q,x1,x2,rfl,t1,r1,r2⟩:=hx
  cases r1
  cases r2
  refine⟨W3.G,vs,q,b,⟨ob,W3.ok,o1,lo,o2,hl⟩,by omega,rfl,AZ e3.g t1,fun o2' d'=>?_⟩
  exact h4 (W3.mut D (XO D o2') o'.g) (e2.trans e3).g ((eb.trans e).mut hD o'.g) ⟨o'.g,o2',_,aI,lo,d',by have:=rZ (kvs:=xs) (k:=b) (a:=a);omega,p1,p2⟩))
theorem j9 {R0:Rp β} [Mono R] {cap:List (Option Nat)} {wi:TI} {g:TG} {tf:TT} {t:TB} {mi:Res (List β)} {f:β→List ((Int×Int)×α)→Res (List ((Int×Int)×α))} (hi:IV Er wi σ W R0 mi)
  (hs:∀Wb D W2 a v s (M:Hp→Prop),Same W.G W2.G→Ext W Wb→Wb.H D=none→Ext Wb W2→OwP prog w K R W2 D s→R0 W2.G a v→(f a s).OkE Er (fun s'=>∀W',Same W2.G W'.G→Ext Wb W'→OwP prog w K R W' D s'→M W'.H)→g v (bh cap σ) W2.H fun σ2 H2=>Keep (bh cap σ) σ2∧tf σ2 H2 fun b H3=>if b=true then t D σ2 H3 M else M H3):
  EVp prog w K Er (sk cap wi g tf t) σ W R (mi.bind fun xs=>bE f xs []):=fun W1 e1 Q k=>
 hi W1 e1 _ ((zj k).imp fun xs kx J W2 e2 hy D hD lo=>by
  refine kw (W:=W2) (W1:=W2.mut D (XO D j7) (W2.gnone hD)) (Wb:=W2) (O:=OwP prog w K R) (s0:=[]) hy (.inr (.refl _)) (.own _ hD) ⟨W2.gnone hD,j7,[],aI,lo,rX ..,by decide,rfl,fun i q x h=>by simp at h⟩ (fun W3 a v s M e3 eb3 o3 r k3=>hs W2 D W3 a v s M ((e1.trans e2).g.trans e3) (e1.trans e2) hD eb3 o3 r k3) (fun _ _ _ e o=>o.mono e) ?_
  exact kx.imp fun s' ks W' z1 z2 z3=>ks D W' (e2.trans z2) (aT e2.h hD) z3)
theorem ja {H:Hp} :∀(vs:List ((Int×Int)×V)) (kvs:List ((Int×Int)×α)),vs.length=kvs.length→(∀(i:Nat) (q:(Int×Int)×V) (x:(Int×Int)×α),vs[i]? =some q→kvs[i]? =some x→q.1=x.1∧R H x.2 q.2)→∀k,(match look kvs k with | none=>g9 vs k=none | some a=>∃v,g9 vs k=some v∧R H a v)
 | [],[],_,_,k=>rfl
 | [],_::_,h,_,_=>by simp at h
 | _::_,[],h,_,_=>by simp at h
 | q :: vs, x :: kvs, hl, h, k => by
  obtain⟨h1,h2⟩:=h 0 q x rfl rfl
  have ih:=ja vs kvs (by simpa using hl) (fun i q x a b=>h (i+1) q x a b) k
  by_cases e:x.1=k
  ·have a:look (x::kvs) k=some x.2:=by simp[look,Bb,e]
   rw[a,fe (h1.trans e)]
   exact⟨q.2,rfl,h2⟩
  ·have a:look (x::kvs) k=look kvs k:=by simp[look,Bb,e]
   rw[a,ff (fun z=>e (h1.symm.trans z))]
   exact ih
theorem oA [Mono R] {md:Res (List ((Int×Int)×α))} {mk:Res (Int×Int)} (hd:EV Er td σ W (sh (isPD prog w K R)) md) (hk:EV Er tk σ W (sh (isT2 K isI isI)) mk):EV Er (sf prog w K td tk) σ W (sh R) (md.bind fun d=>mk.bind fun k=>getD d k):=fun W1 e1 Q k=>
 hd W1 e1 _ ((zj k).imp fun d kd x W2 e2 hx=>hk W2 (e1.trans e2) _ ((zj kd).imp fun b kb y W3 e3 hy=>by
  obtain⟨p,o,vs,rfl,h1,h2,h3,h4,h5,h6⟩:=(zk (R:=isPD prog w K R) e3.g hx)
  obtain⟨q,x1,x2,rfl,t1,r1,r2⟩:=hy
  cases r1
  cases r2
  obtain⟨a,ha,ka⟩:=dH kb
  have lr:=ja vs d h5 h6 b
  rw[ha]at lr
  obtain⟨v,hv,rv⟩:=lr
  exact⟨W3.G,p,vs,q,b,v,rfl,⟨o,W3.ok,W3.ok _ _ h1,h2,h3,h4⟩,rfl,t1,hv,ka v W3 (e2.trans e3) rv⟩))
theorem sn [Mono R] {md:Res (List ((Int×Int)×α))} {mk:Res (Int×Int)} {mz:Res α} (hd:EV Er td σ W (sh (isPD prog w K R)) md) (hk:EV Er tk σ W (sh (isT2 K isI isI)) mk) (hz:EV Er tv σ W (sh R) mz):EV Er (si prog w K td tk tv) σ W (sh R) (md.bind fun d=>mk.bind fun k=>mz.bind fun z=>.ok (sd d k z)):=fun W1 e1 Q k=>
 hd W1 e1 _ ((zj k).imp fun d kd x W2 e2 hx=>by
  obtain⟨p,o,vs,rfl,h1,h2,h3,h4,h5,h6⟩:=id hx
  refine⟨p,rfl,hk W2 (e1.trans e2) _ ((zj kd).imp fun b kb y W3 e3 hy=>hz W3 ((e1.trans e2).trans e3) _ ((zj kb).imp fun z kz u W4 e4 hu=>?_)),o,vs,W2.G,⟨W2.ok,W2.ok _ _ h1,h2,h3⟩⟩
  have e34:=e3.trans e4
  obtain⟨q,x1,x2,rfl,t1,r1,r2⟩:=hy
  cases r1
  cases r2
  have lr:=ja vs d h5 (fun i q x a b=>⟨(h6 i q x a b).1,zk (R:=R) e34.g (h6 i q x a b).2⟩) b
  refine⟨W4.G,vs,q,b,⟨o,W4.ok,W4.ok _ _ (e34.g _ _ h1),h2,dictP_same h3 e34.g,h4⟩,rfl,AZ e4.g t1,?_⟩
  have kz:∀v W',Ext W1 W'→sh R W' (sd d b z) v→Q v W'.H:=kz
  refine kz _ W4 (e2.trans e34) ?_
  unfold sd
  cases ha:look d b with
  | none =>
   rw[ha]at lr
   have lr:g9 vs b=none:=lr
   rw[lr]
   exact hu
  | some a =>
   rw[ha]at lr
   obtain⟨v,hv,rv⟩:=lr
   rw[hv]
   exact rv)
theorem sq [Mono R] {m:Res (List ((Int×Int)×α))} (h:EV Er t σ W (sh (isPD prog w K R)) m):IV Er (n6 prog w K t) σ W (isT2 K isI isI) (m.bind fun d=>.ok (d.map (·.1))):=fun W1 e1 P k=>
 h W1 e1 _ ((zj k).imp fun d kd x W2 e2 hx => by
  obtain⟨p,o,vs,rfl,h1,h2,h3,h4,h5,h6⟩:=hx
  refine⟨W2.G,p,o,vs,rfl,W2.ok,W2.ok _ _ h1,h2,h3,fun es ep hdat hs at_=>kd _ W2 e2 fun W3 e3=>⟨fun i a ha=>?_,W3.ok _ _ (e3 _ _ h1),by rw[A2,hs,h5]⟩⟩
  rw[zA]at ha
  obtain⟨x,hx,rfl⟩:=Al.mp ha
  have hi:i< es.size:=by have:=(zB.mp hx).1;omega
  have hv:i< vs.length:=by omega
  refine⟨⟨W3.ok _ _ (e3 _ _ h1),hi⟩,fun y H' ⟨z1,e,he,ry⟩=>⟨W3,z1.symm,.refl _,?_⟩⟩
  obtain⟨b,hb,hq⟩:=at_ i e _ he (zu hv)
  have:=(h6 i _ x (zu hv) hx).1
  rw[this]at hq
  rw[hb]at ry
  have:y=.ref b:=by
   cases y <;> first | (cases ry;rfl) | (obtain⟨_,z⟩:=ry;cases z) | cases ry
  subst this
  exact⟨b,_,_,rfl,AZ e3 hq,rfl,rfl⟩)
end
end Wb
open Wb.EVp renaming ev→HD
namespace L2
open PySem PySem.Spec PyProof.Rows Wb
theorem w4:isSubtype (D6 "range_iterator") (D6 "reversed")=pure false:=by rfl
section
variable {prog:zL} {w:zQ} {A:Ai} {E:zl→zq→Prop} {s:zq}
theorem fT {r:Addr} {n:Int} {t u v:Tok} {Q:zl→zq→Prop} (hr:IsRange s.heap r 0 n 1 t u v) (h0: -(2^61)≤n) (h1:n< 2^61)
  (hQ:Q (.ref s.heap.objs.size) {s with heap:=s.heap.push {cls:=.type "range_iterator",data:=.fields #[rawInt (0+(Ax 0 n 1- 1)*1),rawInt (Ax 0 n 1),rawInt (-1)]}}):wpAny (model prog w) A (call (.type "reversed") [.ref r]) Q E s:=by
 have hT:s.TypeIs (.ref r) "range" :=⟨_,hr,rfl⟩
 refine callType_other (U:="range_iterator") (Q₁:=fun obj s1=>s1.TypeIs obj "range_iterator" ∧Q obj s1) rfl F.create_reversed ⟨_,_,F.mro_reversed⟩ F.made_reversed w4 (F.typeCall_reversed_1 _) (codeAny_call_builtin F.plain_reversed_new F.entry_reversed_new ?_) (fun obj s1 h=>h)
 rw[F.newCall_reversed_1]
 refine zo ?_
 unfold Cm.«reversed.__new__»
 rw[newClass_reversed]
 refine zh (zo ?_)
 show wpAny _ _ (Fs "reversed" _ _ >>= _) _ _ s
 refine zh (zo ?_)
 refine zh (m:=checkCount "reversed" 1 1 _) (zo ?_)
 show wpAny _ _ (specialOf (.ref r) (zx "__reversed__") >>= _) _ _ s
 refine zh (Dr hT EK.lookup ?_)
 show wpAny _ _ (bindSpecial (.builtin "range.__reversed__") (.ref r) >>= _) _ _ s
 have hb:bindSpecial (.builtin "range.__reversed__") (.ref r)=pure (.builtin "range.__reversed__",[.ref r]):=by
  unfold bindSpecial
  rw[F.type_range_reversed]
  rfl
 rw[hb]
 refine zh (zo ?_)
 show wpAny _ _ (rule "reversed.__new__.own-method" >>= _) _ _ s
 refine zh (BC ?_)
 show wpAny _ _ (call (.builtin "range.__reversed__") [.ref r] >>= _) _ _ s
 refine zh (Ak EK hT F.entry_range_reversed ?_ (F.args_range_reversed_1 _))
 unfold Cm.«range.__reversed__»
 refine zh (m:=selfOnly "range.__reversed__" _) (zo ?_)
 show wpAny _ _ (DQ (.ref r) >>= _) _ _ s
 refine zh ?_
 unfold DQ
 refine zh (B6 hr rfl (x:=.int 0 t) rfl (zh (m:=asInt? _) (zo ?_)))
 refine zh (B6 hr rfl (x:=.int n u) rfl (zh (m:=asInt? _) (zo ?_)))
 refine zh (B6 hr rfl (x:=.int 1 v) rfl (zh (m:=asInt? _) (zo ?_)))
 refine zo ?_
 have hs:(Au 0 && Au n && Au 1 && Au (-1) && Au (0- 1) && Au (Ax 0 n 1))=true:=by
  have e:Ax 0 n 1=if 0< n then n else 0:=by
   unfold Ax
   rw[if_pos (by decide)]
   split
   ·rw[GN];omega
   ·rfl
  unfold Au
  rw[e]
  simp only[Be,decide_eq_true_eq]
  refine⟨⟨⟨⟨⟨by decide,by omega,by omega⟩,by decide⟩,by decide⟩,by decide⟩,?_,?_⟩ <;> split <;> omega
 dsimp only
 rw[hs]
 show wpAny _ _ (newFields "range_iterator" _ >>= _) _ _ s
 unfold newFields
 refine zh (Ap (zo ⟨_,rfl,zo ?_⟩))
 exact⟨⟨_,zz _ rfl,rfl⟩,hQ⟩
end
section
variable {X:Cx} {tg:Expr}
def xf (n:Nat):It:=⟨fun i _=>i< n,fun i H x H'=>H'=H∧x=.int ((n:Int)- 1- i),fun i _=>n≤i⟩
theorem lM {P:zL} {w:zQ} {K:PySem.W.Frag} {tg:Expr} (it:Addr) (n:Nat):Turn P w K tg (xf n) [it] it (fun i h=>ER h it (((n:Int)- 1)+i*(-1)) ((n:Int)- i) (-1)) where
 mem:=by simp
 obj:=fun i h st b hb=>by
  have e:b=it:=by simpa using hb
  subst e
  exact⟨_,st,fun v z=>by
   have z':ES _=DC v:=z
   cases z'⟩
 keep:=fun i h h' st k=>k it (by simp) _ st
 item:=by
  intro X hP hw hK hc i pins s σ H E I hf st hg
  subst hP hw hK
  obtain⟨f0,f1,f2,f3,f4,f5⟩:=hf it (by simp)
  have W:=Walks.range (prog:=X.prog) (w:=X.w) (I.ok.hd hc) it ((n:Int)- 1) (-1) n
  refine W.item i s _ _ hg st fun v h' tk hv st' kk=>?_
  obtain⟨t,rfl⟩:=hv
  have I1:Inv X pins σ H {s with heap:=h',toks:=tk} :=I.turned (fun b o hb e=>kk b o (by simpa using hb) e) f0 f1 f3 f4 f5
  refine⟨_,rfl,kU (s:={s with heap:=h',toks:=tk}) (n:="range_iterator") st' rfl rfl (by decide) ⟨.int ((n:Int)- 1- i),H,I1,⟨t,?_⟩,⟨rfl,rfl⟩,st',fun b hb=>(hf b hb).1⟩⟩
  congr 1
  omega
 done:=by
  intro X hP hw hK hc i pins s σ H E I hf st hg
  subst hP hw hK
  obtain⟨f0,f1,f2,f3,f4,f5⟩:=hf it (by simp)
  exact Em (I.ok.hd hc) st (by have:n≤i:=hg;omega) fun h' eb=>⟨rfl,I.turned (t':=s.toks) (fun b o hb e=>eb b o hb e) f0 f1 f3 f4 f5⟩
 self:=fun _ _ _ _ _ st h=>CM st h
theorem lN {P:zL} {w:zQ} {K:PySem.W.Frag} {o i:Expr} {pos:Pos} {td ty:TE} (hP:X.prog=P) (hw:X.w=w) (hK:X.K=K) (hu:X.A.units+1< cLine) (ho:PE X o td) (hi:PE X i ty) (hs:qx i):PE X (.Subscript o i pos) (sf P w K td ty):=by
 subst hP hw hK
 exact ud hu ho hi hs
theorem pV {P:zL} {w:zQ} {K:PySem.W.Frag} {l:Expr} {tl:TE} (hP:X.prog=P) (hw:X.w=w) (hK:X.K=K) (hl:PE X l tl):PI X tg l (n6 P w K tl):=by
 subst hP hw hK
 exact se hl
def uY (ta:TA):TI:=fun σ H R=>ta σ H fun vs H1=>∃j:Int,vs=[.int j]∧ -(2^61)≤j∧j< 2^61∧R (xf j.toNat) H1
theorem nc (n:Int):Ax 0 n 1=(n.toNat:Int):=by
 unfold Ax
 rw[if_pos (by decide)]
 split
 ·rw[GN];omega
 ·omega
theorem pW {a:Expr} {ta:TA} {p p2 pos pos2:Pos} (hg:Gl X "reversed") (hm:X.mg "reversed" =none) (hg2:Gl X "range") (hm2:X.mg "range" =none) (ha:PA X [a] ta)
  (hs0:starEach [.Call (.Name "range" p2) [a] [] pos2] X.env=[(false,eval (.Call (.Name "range" p2) [a] [] pos2) X.env)]:=by rfl)
  (hs:starEach [a] X.env=[(false,eval a X.env)]:=by rfl):PI X tg (.Call (.Name "reversed" p) [.Call (.Name "range" p2) [a] [] pos2] [] pos) (uY ta):=by
 intro pins s σ H R I h
 refine Call_ (fX I hg hm boot_reversed (Bh ?_ hs0 rfl))
 rw[hs0]
 show wpAny _ _ (spliced ((false,eval (.Call (.Name "range" p2) [a] [] pos2) X.env):: [])) _ _ s
 refine Fg ?_
 refine Call_ (fX I hg2 hm2 boot_range (Bh (bz (ha pos2 pins s σ H _ I h) fun us s1 ⟨vs,H1,I1,r1,q1⟩=>?_) hs rfl))
 obtain⟨j,e,q1,q2,q⟩:=q1
 subst e
 cases r1 with
 | cons r rr =>
  cases rr
  obtain⟨t,rfl⟩:=r
  refine call_range_1 (Fu ?_)
  refine fT (GZ ..) q1 q2 ?_
  rw[nc]
  have st:∀h:Heap,ER (h.push {cls:=.type "range_iterator",data:=.fields #[rawInt (0+((j.toNat:Int)- 1)*1),rawInt (j.toNat:Int),rawInt (-1)]}) h.objs.size (((j.toNat:Int)- 1)+((0:Nat):Int)*(-1)) ((j.toNat:Int)- ((0:Nat):Int)) (-1):=fun h=>by
   have e1:((j.toNat:Int)- 1)+((0:Nat):Int)*(-1)=0+((j.toNat:Int)- 1)*1:=by omega
   have e2:(j.toNat:Int)- ((0:Nat):Int)=(j.toNat:Int):=by omega
   rw[e1,e2]
   exact zz _ rfl
  refine CM (st _) ?_
  refine⟨_,[_],_,_,H1,rfl,I1.kept (fun b o e=>zr _ (zr _ e)),lM _ j.toNat,st _,fun b hb=>?_,q⟩
  have e:=Cc.mp hb
  subst e
  have hle:∀o:Obj,s1.heap.objs.size≤(s1.heap.push o).objs.size:=fun o=>by rw[Bj];exact DW _
  exact I1.fpOk (hle _) (I1.hok.fresh (hle _))
end
end L2
namespace Wb
open PySem L2 Mi
section
variable {Er:Nat→Prop} {W:Wd} {σ:St} {ta:TE}
theorem pX {m:Res Int} (h:EV Er ta σ W (sh isI) m):IV Er (uY (am ta aU)) σ W isI (m.bind fun i=>kJ i):=fun W1 e1 P k=>
 h W1 e1 _ ((zj k).imp fun i ki v W2 e2 hv => by
  cases hv
  obtain⟨⟨h1,h2⟩,h3⟩:=bj ki
  refine⟨i,rfl,h1,h2,h3 _ W2 e2 fun W3 e3=>⟨fun j a ha=>?_,?_⟩⟩
  ·unfold dR at ha
   have hj:j< i.toNat:=by
    have:=(zB.mp ha).1
    simpa using this
   rw[BF (by simpa using hj),A2,DZ,zA,Cz (by omega)]at ha
   cases ha
   refine⟨hj,fun y H' ⟨z1,z2⟩=>⟨W3,z1.symm,.refl _,?_⟩⟩
   rw[z2]
   show C6 _=C6 ((i.toNat- 1- j:Nat):Int)
   congr 1
   omega
  ·show i.toNat≤(dR i).reverse.length
   unfold dR
   simp)
end
end Wb
namespace Mi
noncomputable section
@[irreducible] def xq (Z0g:List Int) (l_k:Int):Res Int:=if(decide (l_k< (Z0g.length:Int)))then eW Z0g l_k else(jk ((l_k*48271)+(11:Int)) ((Z0g.length:Int)+(7:Int))).bind fun y8=>zt (y8% 1000003)
def gf (Z0g:List Int) (l_k:Int):Res Int:=xq Z0g l_k
@[irreducible] def wr (Z00:Int) (Z0o:Int) (a19:Int) (s20:(Int×Int×(List Int))):Res (Int×Int×(List Int)):=((if(decide ((1000000000000000000:Int)≤cy Z00))then zt (decide ((0:Int)< s20.2.1))else zt false).bind fun y45=>(if y45 then((iG s20.2.1 Z0o).bind fun y56=>gm s20.2.2 y56).bind fun y55=>(hV s20.2.1 Z0o).bind fun y59=>zt (y59,y55)else((((jk ((((s20.1*48271)+(7919:Int))+a19)% 2147483647) ((((s20.1*48271)+(7919:Int))+a19)% 2147483647)).bind fun y63=>zt (y63% 1000003)).bind fun y64=>iG y64 Z0o).bind fun y69=>gm s20.2.2 y69).bind fun y68=>zt (s20.2.1,y68):Res (Int×(List Int)))).bind fun s70=>zt (((((s20.1*48271)+(7919:Int))+a19)% 2147483647),s70.1,s70.2)
@[irreducible] def xr (Z00:Int) (Z0c:Int) (Z0o:Int):Res (List Int):=((fh Z0c).bind fun y78=>bE (wr Z00 Z0o) y78 (((cy Z00)% 2147483647),cy Z00,([]:List Int))).bind fun s79=>zt s79.2.2
def gF (Z00:Int) (Z0c:Int) (Z0o:Int):Res (List Int):=xr Z00 Z0c Z0o
@[irreducible] def wt (y3:Int) (y8:List Int) (a15:Int) (s16:Tx):Res Tx:=(((((eW y8 (4:Int)).bind fun y39=>((iG a15 y3).bind fun y38=>zt (y38*7)).bind fun y40=>zt (y39+y40)).bind fun y41=>zt (y41% 26)).bind fun y42=>dX ([97,98,99,100,101,102,103,104,105,106,107,108,109,110,111,112,113,114,115,116,117,118,119,120,121,122]:Tx) y42).bind fun y43=>jl s16 y43).bind fun y44=>zt y44
@[irreducible] def xt (gF:Int→Int→Int→Res (List Int)) (Z00:Int):Res Tx:=(eW [(1:Int),(2:Int),(3:Int),(4:Int),(26:Int)] (Z00% 5)).bind fun y3=>(gF (Z00/ 5) (5:Int) (26:Int)).bind fun y8=>(bE (wt y3 y8) (cut y8 none (some (4:Int))) ([]:Tx)).bind fun s47=>zt s47
def ue (Z00:Int):Res Tx:=xt gF Z00
@[irreducible] def xu (ue:Int→Res Tx) (Z00:Int):Res (Tx×Tx×Int):=(dX ([83,90]:Tx) (Z00% 2)).bind fun y1=>(ue (Z00/ 8)).bind fun y2=>zt (y1,y2,((Z00/ 2)% 4))
def sU (Z00:Int):Res (Tx×Tx×Int):=xu ue Z00
@[irreducible] def xv (gF:Int→Int→Int→Res (List Int)) (Z00:Int) (Z0c:Int):Res Tx:=if(decide ((Z00% 7)=(3:Int)))then(dX ([102,98,105]:Tx) ((Z00/ 7)% 3)).bind fun y3=>vH y3 Z0c else((gF (Z00/ 7) Z0c (3:Int)).bind fun y18=>dJ y18 (fun(a9:Int)=>dX ([102,98,105]:Tx) a9)).bind fun y19=>lc y19
def uf (Z00:Int) (Z0c:Int):Res Tx:=xv gF Z00 Z0c
@[irreducible] def xw (Z0k:Tx):Res Int:=(gM ([98,105,102]:Tx) Z0k).bind fun y1=>zt (y1- (1:Int))
def m9 (Z0k:Tx):Res Int:=xw Z0k
@[irreducible] def xx (m9:Tx→Res Int) (Z02:Tx×Tx×Int) (Z0k:Tx):Res (Tx×Tx×Int):=(((m9 Z0k).bind fun y1=>zt (Z02.2.2+y1)).bind fun y2=>zt (y2% 4)).bind fun y3=>zt (Z02.1,Z02.2.1,y3)
def im (Z02:Tx×Tx×Int) (Z0k:Tx):Res (Tx×Tx×Int):=xx m9 Z02 Z0k
@[irreducible] def xA (m9:Tx→Res Int) (Z02:Tx×Tx×Int) (Z0k:Tx):Res Int:=if(decide (Z02.1=([83]:Tx)))then m9 Z0k else(m9 Z0k).bind fun y8=>zt ((0:Int)- y8)
def oB (Z02:Tx×Tx×Int) (Z0k:Tx):Res Int:=xA m9 Z02 Z0k
@[irreducible] def wu (im:(Tx×Tx×Int)→Tx→Res (Tx×Tx×Int)) (oB:(Tx×Tx×Int)→Tx→Res Int) (a7:Tx) (s8:((Tx×Tx×Int)×(List (Tx×Tx×Tx)))):Res ((Tx×Tx×Int)×(List (Tx×Tx×Tx))):=(im s8.1 a7).bind fun y34=>(((oB y34 a7).bind fun y39=>zt (y39+(1:Int))).bind fun y40=>dX ([122,111,115]:Tx) y40).bind fun y41=>(((dX y34.2.1 y34.2.2).bind fun y44=>(dX y34.2.1 ((y34.2.2+(2:Int))% 4)).bind fun y45=>zt (y44,y45,y41)).bind fun y50=>gm s8.2 y50).bind fun y49=>zt (y34,y49)
@[irreducible] def xB (im:(Tx×Tx×Int)→Tx→Res (Tx×Tx×Int)) (oB:(Tx×Tx×Int)→Tx→Res Int) (Z02:Tx×Tx×Int) (Z04:Tx):Res (List (Tx×Tx×Tx)):=(bE (wu im oB) (cB Z04) (Z02,([]:List (Tx×Tx×Tx)))).bind fun s51=>zt s51.2
def ug (Z02:Tx×Tx×Int) (Z04:Tx):Res (List (Tx×Tx×Tx)):=xB im oB Z02 Z04
@[irreducible] def wv (a16:(Tx×Tx×Tx)×Int) (s17:(Int×(List (Tx×Tx×Tx)))):Res (Int×(List (Tx×Tx×Tx))):=((if(decide (a16.2=(5:Int)))then zt (decide (s17.1< (6:Int)))else zt false).bind fun y45=>(if y45 then zt ((s17.1+(1:Int)),(([63]:Tx),a16.1.2.1,([63]:Tx)))else zt (s17.1,a16.1):Res (Int×(Tx×Tx×Tx)))).bind fun s61=>(gm s17.2 s61.2).bind fun y74=>zt (s61.1,y74)
@[irreducible] def xC (gF:Int→Int→Int→Res (List Int)) (Z0n:List (Tx×Tx×Tx)) (Z00:Int):Res (List (Tx×Tx×Tx)):=(gF (Z00/ 3) (Z0n.length:Int) (11:Int)).bind fun y13=>(bE wv (Z0n.zip y13) ((0:Int),([]:List (Tx×Tx×Tx)))).bind fun s75=>(if(decide ((Z00% 3)=(2:Int)))then(iG (Z00/ 3) (Z0n.length:Int)).bind fun y87=>((((eW s75.2 y87).bind fun y90=>zt y90.1).bind fun y92=>((eW s75.2 y87).bind fun y91=>zt y91.2.1).bind fun y93=>(dX ([115,122,111]:Tx) ((Z00/ 7)% 3)).bind fun y94=>zt (y92,y93,y94)).bind fun y98=>fR s75.2 y87 y98).bind fun y99=>zt y99 else zt s75.2:Res (List (Tx×Tx×Tx))).bind fun s101=>zt s101
def uh (Z0n:List (Tx×Tx×Tx)) (Z00:Int):Res (List (Tx×Tx×Tx)):=xC gF Z0n Z00
@[irreducible] def ww (Z00:Int) (a14:(Tx×Tx×Tx)×Int) (s15:(List (Tx×Tx×Tx))):Res (List (Tx×Tx×Tx)):=(if(decide ((Z00% 5)=(0:Int)))then zt ((a14.2/ 8)*8)else zt a14.2:Res Int).bind fun s56=>(if(decide ((Z00% 5)=(1:Int)))then zt (((s56/ 8)*8)+(7:Int))else zt s56:Res Int).bind fun s75=>((if(decide ((56:Int)≤s75))then zt (decide ((s75% 3)< (2:Int)))else zt false).bind fun y90=>(if y90 then(((((eW [a14.1.1,a14.1.2.1,a14.1.2.2] (s75% 3)).bind fun y101=>gM ([97,98,99,100,101,102,103,104,105,106,107,108,109,110,111,112,113,114,115,116,117,118,119,120,121,122,97]:Tx) y101).bind fun y102=>zt (y102+(1:Int))).bind fun y103=>dX ([97,98,99,100,101,102,103,104,105,106,107,108,109,110,111,112,113,114,115,116,117,118,119,120,121,122,97]:Tx) y103).bind fun y107=>fR [a14.1.1,a14.1.2.1,a14.1.2.2] (s75% 3) y107).bind fun y108=>zt y108 else zt [a14.1.1,a14.1.2.1,a14.1.2.2]:Res (List Tx))).bind fun s110=>((if(decide ((56:Int)≤s75))then zt (decide ((s75% 3)=(2:Int)))else zt false).bind fun y120=>(if y120 then((((eW s110 (2:Int)).bind fun y127=>gM ([115,122,111]:Tx) y127).bind fun y128=>dX ([122,111,115]:Tx) y128).bind fun y132=>fR s110 (2:Int) y132).bind fun y133=>zt y133 else zt s110:Res (List Tx))).bind fun s135=>(((dJ (s135.zip [(1:Int),(2:Int),(4:Int)]) (fun(a149:Tx×Int)=>(((hV s75 a149.2).bind fun y158=>zt (y158% 2)).bind fun y159=>zt (decide (y159=(1:Int)))).bind fun y160=>if y160 then zt a149.1 else zt ([63]:Tx))).bind fun y163=>qP y163).bind fun y168=>gm s15 y168).bind fun y167=>zt y167
@[irreducible] def xD (gF:Int→Int→Int→Res (List Int)) (Z0n:List (Tx×Tx×Tx)) (Z00:Int) (Z0u:Bool):Res (List (Tx×Tx×Tx)):=(((jk (8:Int) (if Z0u then(1:Int)else 0)).bind fun y9=>zt ((56:Int)+y9)).bind fun y10=>gF (Z00/ 5) (Z0n.length:Int) y10).bind fun y11=>(bE (ww Z00) (Z0n.zip y11) ([]:List (Tx×Tx×Tx))).bind fun s169=>zt s169
def ui (Z0n:List (Tx×Tx×Tx)) (Z00:Int) (Z0u:Bool):Res (List (Tx×Tx×Tx)):=xD gF Z0n Z00 Z0u
@[irreducible] def xE (Z02:Tx×Tx×Int):Res (Tx×Tx×Int):=((gM ([83,90]:Tx) Z02.1).bind fun y5=>dX ([90,83]:Tx) y5).bind fun y12=>((((dX Z02.2.1 (0:Int)).bind fun y6=>(dX Z02.2.1 (3:Int)).bind fun y7=>jl y6 y7).bind fun y8=>(dX Z02.2.1 (2:Int)).bind fun y9=>jl y8 y9).bind fun y10=>(dX Z02.2.1 (1:Int)).bind fun y11=>jl y10 y11).bind fun y13=>zt (y12,y13,(((0:Int)- Z02.2.2)% 4))
def uj (Z02:Tx×Tx×Int):Res (Tx×Tx×Int):=xE Z02
@[irreducible] def xF (Z04:Tx):Res Tx:=(dJ (cB Z04) (fun(a1:Tx)=>(gM ([98,105,102]:Tx) a1).bind fun y8=>dX ([102,105,98]:Tx) y8)).bind fun y11=>lc y11
def uk (Z04:Tx):Res Tx:=xF Z04
@[irreducible] def xG (Z02:Tx×Tx×Int) (Z0c:Int):Res (Tx×Tx×Int):=(((fh (4:Int)).bind fun y13=>dJ y13 (fun(a3:Int)=>dX Z02.2.1 ((a3- Z0c)% 4))).bind fun y14=>lc y14).bind fun y15=>zt (Z02.1,y15,((Z02.2.2+Z0c)% 4))
def ul (Z02:Tx×Tx×Int) (Z0c:Int):Res (Tx×Tx×Int):=xG Z02 Z0c
@[irreducible] def wx (a37:Int) (s38:(List Int)):Res (List Int):=(if(!s38.contains a37)then(gm s38 a37).bind fun y68=>zt y68 else zt s38:Res (List Int)).bind fun s70=>zt s70
@[irreducible] def xg (im:(Tx×Tx×Int)→Tx→Res (Tx×Tx×Int)) (a7:Tx) (s8:((Tx×Tx×Int)×(List Int))):Res ((Tx×Tx×Int)×(List Int)):=(im s8.1 a7).bind fun y34=>(bE wx [y34.2.2,((y34.2.2+(2:Int))% 4)] s8.2).bind fun s78=>zt (y34,s78)
@[irreducible] def xH (im:(Tx×Tx×Int)→Tx→Res (Tx×Tx×Int)) (Z02:Tx×Tx×Int) (Z04:Tx):Res (List Int):=(bE (xg im) (cB Z04) (Z02,([]:List Int))).bind fun s82=>qO s82.2
def um (Z02:Tx×Tx×Int) (Z04:Tx):Res (List Int):=xH im Z02 Z04
@[irreducible] def wy (Z00:Int) (y40:List Int) (a43:Int) (s44:(Tx×Tx×Int)):Res (Tx×Tx×Int):=(if(!y40.contains a43)then((((jk (5:Int) a43).bind fun y75=>zt ((Z00/ 16)+y75)).bind fun y76=>zt (y76% 26)).bind fun y77=>dX ([97,98,99,100,101,102,103,104,105,106,107,108,109,110,111,112,113,114,115,116,117,118,119,120,121,122]:Tx) y77).bind fun y78=>((((pc s44.2.1 none (some a43)).bind fun y83=>jl y83 y78).bind fun y84=>(pc s44.2.1 (some (a43+(1:Int))) none).bind fun y85=>jl y84 y85).bind fun y86=>zt (s44.1,y86,s44.2.2)).bind fun y87=>zt y87 else zt s44:Res (Tx×Tx×Int)).bind fun s91=>zt s91
@[irreducible] def xI (uj:(Tx×Tx×Int)→Res (Tx×Tx×Int)) (uk:Tx→Res Tx) (ul:(Tx×Tx×Int)→Int→Res (Tx×Tx×Int)) (um:(Tx×Tx×Int)→Tx→Res (List Int)) (Z02:Tx×Tx×Int) (Z04:Tx) (Z00:Int):Res ((Tx×Tx×Int)×Tx):=(if(decide ((Z00% 2)=(1:Int)))then(uj Z02).bind fun y9=>(uk Z04).bind fun y14=>zt (y9,y14)else zt (Z02,Z04):Res ((Tx×Tx×Int)×Tx)).bind fun s18=>(ul s18.1 ((Z00/ 2)% 4)).bind fun y29=>(if(decide (((Z00/ 8)% 2)=(1:Int)))then(um y29 s18.2).bind fun y40=>((fh (4:Int)).bind fun y101=>bE (wy Z00 y40) y101 y29).bind fun s102=>zt s102 else zt y29:Res (Tx×Tx×Int)).bind fun s107=>zt (s107,s18.2)
def uo (Z02:Tx×Tx×Int) (Z04:Tx) (Z00:Int):Res ((Tx×Tx×Int)×Tx):=xI uj uk ul um Z02 Z04 Z00
@[irreducible] def xJ (sU:Int→Res (Tx×Tx×Int)) (gf:List Int→Int→Res Int) (uf:Int→Int→Res Tx) (ug:(Tx×Tx×Int)→Tx→Res (List (Tx×Tx×Tx))) (uh:(List (Tx×Tx×Tx))→Int→Res (List (Tx×Tx×Tx))) (ui:(List (Tx×Tx×Tx))→Int→Bool→Res (List (Tx×Tx×Tx))) (uo:(Tx×Tx×Int)→Tx→Int→Res ((Tx×Tx×Int)×Tx)) (Z0g:List Int) (Z0l:Int):Res ((Tx×Tx×Int)×(List (Tx×Tx×Tx))×Int):=((gf Z0g (0:Int)).bind fun y3=>sU y3).bind fun y4=>(gf Z0g (2:Int)).bind fun y9=>(gf Z0g (3:Int)).bind fun y14=>(iG y9 (Z0l+(1:Int))).bind fun y19=>(if(decide (((y9/ 13)% 6)=(1:Int)))then zt ((25:Int)+((y9/ 78)% 36))else zt y19:Res Int).bind fun s33=>(if(decide (((y9/ 13)% 6)=(3:Int)))then zt ((13:Int)+((y9/ 78)% 12))else zt s33:Res Int).bind fun s51=>((gf Z0g (1:Int)).bind fun y60=>uf y60 s51).bind fun y61=>(ug y4 y61).bind fun y66=>(if(decide (Z0l< s51))then(uh y66 y14).bind fun y77=>zt y77 else(ui y66 (y14/ 3) (decide ((y14% 3)=(2:Int)))).bind fun y83=>zt y83:Res (List (Tx×Tx×Tx))).bind fun s86=>((gf Z0g (4:Int)).bind fun y97=>zt (y97/ 4)).bind fun y98=>(if(decide ((y98% 6)=(1:Int)))then((uo y4 y61 (y98/ 6)).bind fun y109=>zt y109.1).bind fun y110=>zt y110 else zt y4:Res (Tx×Tx×Int)).bind fun s114=>(if(decide ((y98% 6)=(2:Int)))then(sU (y98/ 6)).bind fun y131=>zt y131 else zt s114:Res (Tx×Tx×Int)).bind fun s135=>((gf Z0g (4:Int)).bind fun y144=>zt (y144% 4)).bind fun y145=>zt (s135,s86,y145)
def sV (Z0g:List Int) (Z0l:Int):Res ((Tx×Tx×Int)×(List (Tx×Tx×Tx))×Int):=xJ sU gf uf ug uh ui uo Z0g Z0l
@[irreducible] def xK (state:Int×Int) (loose:Int) (bound:Int):Res Bool:=if(decide (cy state.1≤bound))then zt (decide (state.2≤loose))else zt false
def lO (state:Int×Int) (loose:Int) (bound:Int):Res Bool:=xK state loose bound
@[irreducible] def xL (tablet:Tx×Tx×Int) (turn:Tx):Res Int:=(getD ([([102],1),([98],(-1)),([105],0)]:List (Tx×Int)) turn).bind fun y3=>if(decide (tablet.1=([83]:Tx)))then zt y3 else zt (-y3)
def ng (tablet:Tx×Tx×Int) (turn:Tx):Res Int:=xL tablet turn
@[irreducible] def xM (ng:(Tx×Tx×Int)→Tx→Res Int) (tablet:Tx×Tx×Int) (state:Int×Int) (turn:Tx):Res (Int×Int):=((ng tablet turn).bind fun y9=>zt (state.1+y9)).bind fun y10=>(if(decide (turn=([105]:Tx)))then zt (state.2+(1:Int))else zt (0:Int)).bind fun y11=>zt (y10,y11)
def sW (tablet:Tx×Tx×Int) (state:Int×Int) (turn:Tx):Res (Int×Int):=xM ng tablet state turn
@[irreducible] def xN (tablet:Tx×Tx×Int) (twist:Int):Res (Tx×Tx×Int):=((if(decide (tablet.1=([83]:Tx)))then zt (tablet.2.2+twist)else zt (tablet.2.2- twist)).bind fun y11=>zt (y11% 4)).bind fun y12=>zt (tablet.1,tablet.2.1,y12)
def ur (tablet:Tx×Tx×Int) (twist:Int):Res (Tx×Tx×Int):=xN tablet twist
@[irreducible] def oC (tablet:Tx×Tx×Int):Res Tx:=dX tablet.2.1 (tablet.2.2% 4)
def gC (tablet:Tx×Tx×Int):Res Tx:=oC tablet
@[irreducible] def xO (tablet:Tx×Tx×Int):Res Tx:=dX tablet.2.1 ((tablet.2.2+(2:Int))% 4)
def ut (tablet:Tx×Tx×Int):Res Tx:=xO tablet
@[irreducible] def xP (gC:(Tx×Tx×Int)→Res Tx) (ut:(Tx×Tx×Int)→Res Tx) (ng:(Tx×Tx×Int)→Tx→Res Int) (tablet:Tx×Tx×Int) (turn:Tx):Res (Tx×Tx×Tx):=(gC tablet).bind fun y2=>(ut tablet).bind fun y3=>((ng tablet turn).bind fun y1=>getD ([(1,[115]),((-1),[122]),(0,[111])]:List (Int×Tx)) y1).bind fun y4=>zt (y2,y3,y4)
def uv (tablet:Tx×Tx×Int) (turn:Tx):Res (Tx×Tx×Tx):=xP gC ut ng tablet turn
@[irreducible] def xQ (sign:Tx) (left:Tx):Res Bool:=if(decide (left=([63]:Tx)))then zt true else zt (decide (left=sign))
def sX (sign:Tx) (left:Tx):Res Bool:=xQ sign left
@[irreducible] def xR (sX:Tx→Tx→Res Bool) (place:Tx×Tx×Tx) (mark:Tx×Tx×Tx):Res Bool:=(dJ ([place.1,place.2.1,place.2.2].zip [mark.1,mark.2.1,mark.2.2]) (fun(a1:Tx×Tx)=>sX a1.1 a1.2)).bind fun y12=>zt (y12.all id)
def uw (place:Tx×Tx×Tx) (mark:Tx×Tx×Tx):Res Bool:=xR sX place mark
@[irreducible] def xT (uw:(Tx×Tx×Tx)→(Tx×Tx×Tx)→Res Bool) (uv:(Tx×Tx×Int)→Tx→Res (Tx×Tx×Tx)) (ur:(Tx×Tx×Int)→Int→Res (Tx×Tx×Int)) (tablet:Tx×Tx×Int) (state:Int×Int) (turn:Tx) (mark:Tx×Tx×Tx):Res Bool:=((ur tablet state.1).bind fun y1=>uv y1 turn).bind fun y2=>uw y2 mark
def sr (tablet:Tx×Tx×Int) (state:Int×Int) (turn:Tx) (mark:Tx×Tx×Tx):Res Bool:=xT uw uv ur tablet state turn mark
@[irreducible] def xV (sW:(Tx×Tx×Int)→(Int×Int)→Tx→Res (Int×Int)) (lO:(Int×Int)→Int→Int→Res Bool) (sr:(Tx×Tx×Int)→(Int×Int)→Tx→(Tx×Tx×Tx)→Res Bool) (tablet:Tx×Tx×Int) (mark:Tx×Tx×Tx) (loose:Int) (bound:Int) (state:Int×Int):Res (List (Tx×(Int×Int))):=(dJ (cB ([102,98,105]:Tx)) (fun(a3:Tx)=>(sW tablet state a3).bind fun y12=>zt (a3,y12))).bind fun y15=>nL y15 (fun(a18:Tx×(Int×Int))=>((lO a18.2 loose bound).bind fun y31=>if y31 then sr tablet a18.2 a18.1 mark else zt false).bind fun y33=>if y33 then zt (some (a18.1,a18.2))else zt none)
def jb (tablet:Tx×Tx×Int) (mark:Tx×Tx×Tx) (loose:Int) (bound:Int) (state:Int×Int):Res (List (Tx×(Int×Int))):=xV sW lO sr tablet mark loose bound state
@[irreducible] def xW (jb:(Tx×Tx×Int)→(Tx×Tx×Tx)→Int→Int→(Int×Int)→Res (List (Tx×(Int×Int)))) (tablet:Tx×Tx×Int) (mark:Tx×Tx×Tx) (loose:Int) (bound:Int) (states:List (Int×Int)):Res (List (Int×Int)):=(bE (fun(a6:Int×Int) (s8:List (Int×Int))=>(jb tablet mark loose bound a6).bind fun y36=>bE (fun(a20:Tx×(Int×Int)) (s22:List (Int×Int))=>ly s22 a20.2) y36 s8) states ([]:List (Int×Int))).bind fun k37=>rh k37
def nh (tablet:Tx×Tx×Int) (mark:Tx×Tx×Tx) (loose:Int) (bound:Int) (states:List (Int×Int)):Res (List (Int×Int)):=xW jb tablet mark loose bound states
@[irreducible] def uZ (nh:(Tx×Tx×Int)→(Tx×Tx×Tx)→Int→Int→(List (Int×Int))→Res (List (Int×Int))) (tablet:Tx×Tx×Int) (loose:Int) (bound:Int) (a10:Tx×Tx×Tx) (s11:(List (List (Int×Int)))):Res (Fl (List (List (Int×Int))) (List (List (Int×Int)))):=((eW s11 (-(1:Int))).bind fun y32=>zt y32.isEmpty).bind fun y33=>if y33 then zt (.rt s11)else(((eW s11 (-(1:Int))).bind fun y36=>nh tablet a10 loose bound y36).bind fun y41=>gm s11 y41).bind fun y40=>zt (.nx y40)
@[irreducible] def xX (lO:(Int×Int)→Int→Int→Res Bool) (nh:(Tx×Tx×Int)→(Tx×Tx×Tx)→Int→Int→(List (Int×Int))→Res (List (Int×Int))) (tablet:Tx×Tx×Int) (strip:List (Tx×Tx×Tx)) (loose:Int) (bound:Int):Res (List (List (Int×Int))):=(((lO (0,0) loose bound).bind fun y3=>if y3 then zt [(0,0)]else zt ([]:List (Int×Int))).bind fun y4=>zt [y4]).bind fun y5=>(iI (uZ nh tablet loose bound) strip y5).bind (fun | .nx s42=>(zt s42) | .rt r=>zt r | .bk _=>Res.stuck)
def gU (tablet:Tx×Tx×Int) (strip:List (Tx×Tx×Tx)) (loose:Int) (bound:Int):Res (List (List (Int×Int))):=xX lO nh tablet strip loose bound
@[irreducible] def wz (jb:(Tx×Tx×Int)→(Tx×Tx×Tx)→Int→Int→(Int×Int)→Res (List (Tx×(Int×Int)))) (tablet:Tx×Tx×Int) (strip:List (Tx×Tx×Tx)) (loose:Int) (bound:Int) (y3:List (List (Int×Int))) (a31:Int) (s32:(List (List ((Int×Int)×Int)))):Res (List (List ((Int×Int)×Int))):=(eW s32 (-(1:Int))).bind fun y57=>((eW y3 a31).bind fun y82=>bE (fun(a67:Int×Int) (s69:List ((Int×Int)×(List (Tx×(Int×Int)))))=>((eW strip a31).bind fun y80=>jb tablet y80 loose bound a67).bind fun y81=>gB s69 a67 y81) y82 ([]:List ((Int×Int)×(List (Tx×(Int×Int)))))).bind fun y83=>((bE (fun(a91:Int×Int) (s93:List ((Int×Int)×Int))=>(((getD y83 a91).bind fun y116=>dJ y116 (fun(a104:Tx×(Int×Int))=>getD y57 a104.2)).bind fun y117=>zt y117.sum).bind fun y118=>gB s93 a91 y118) (y83.map (·.1)) ([]:List ((Int×Int)×Int))).bind fun y123=>gm s32 y123).bind fun y122=>zt y122
@[irreducible] def xY (gU:(Tx×Tx×Int)→(List (Tx×Tx×Tx))→Int→Int→Res (List (List (Int×Int)))) (jb:(Tx×Tx×Int)→(Tx×Tx×Tx)→Int→Int→(Int×Int)→Res (List (Tx×(Int×Int)))) (tablet:Tx×Tx×Int) (strip:List (Tx×Tx×Tx)) (loose:Int) (bound:Int):Res (List (List ((Int×Int)×Int))):=(gU tablet strip loose bound).bind fun y3=>(((eW y3 (-(1:Int))).bind fun y24=>bE (fun(a13:Int×Int) (s15:List ((Int×Int)×Int))=>gB s15 a13 (1:Int)) y24 ([]:List ((Int×Int)×Int))).bind fun y25=>zt [y25]).bind fun y26=>((kJ ((y3.length:Int)- (1:Int))).bind fun y124=>bE (wz jb tablet strip loose bound y3) y124 y26).bind fun s125=>zt s125.reverse
def ux (tablet:Tx×Tx×Int) (strip:List (Tx×Tx×Tx)) (loose:Int) (bound:Int):Res (List (List ((Int×Int)×Int))):=xY gU jb tablet strip loose bound
@[irreducible] def xZ (ux:(Tx×Tx×Int)→(List (Tx×Tx×Tx))→Int→Int→Res (List (List ((Int×Int)×Int)))) (tablet:Tx×Tx×Int) (strip:List (Tx×Tx×Tx)) (loose:Int) (bound:Int):Res Int:=((ux tablet strip loose bound).bind fun y1=>eW y1 (0:Int)).bind fun y2=>zt (sd y2 (0,0) (0:Int))
def qi (tablet:Tx×Tx×Int) (strip:List (Tx×Tx×Tx)) (loose:Int) (bound:Int):Res Int:=xZ ux tablet strip loose bound
@[irreducible] def xh (gU:(Tx×Tx×Int)→(List (Tx×Tx×Tx))→Int→Int→Res (List (List (Int×Int)))) (tablet:Tx×Tx×Int) (strip:List (Tx×Tx×Tx)) (loose:Int) (s15:Int):Res Bool:=((gU tablet strip loose s15).bind fun y27=>eW y27 (-(1:Int))).bind fun y28=>zt y28.isEmpty
@[irreducible] def xi (s15:Int):Res Int:=zt (s15+(1:Int))
@[irreducible] def yb (gU:(Tx×Tx×Int)→(List (Tx×Tx×Tx))→Int→Int→Res (List (List (Int×Int)))) (tablet:Tx×Tx×Int) (strip:List (Tx×Tx×Tx)) (loose:Int):Res (Option Int):=(((gU tablet strip loose (strip.length:Int)).bind fun y1=>eW y1 (-(1:Int))).bind fun y2=>zt y2.isEmpty).bind fun y3=>if y3 then zt (none:Option Int)else(fv (xh gU tablet strip loose) xi cap (0:Int)).bind fun s31=>zt (some s31)
def ss (tablet:Tx×Tx×Int) (strip:List (Tx×Tx×Tx)) (loose:Int):Res (Option Int):=yb gU tablet strip loose
@[irreducible] def yc (Z16:Option Int):Res Int:=if Z16.isNone then zt (61:Int)else tF Z16
def su (Z16:Option Int):Res Int:=yc Z16
@[irreducible] def oD (sV:List Int→Int→Res ((Tx×Tx×Int)×(List (Tx×Tx×Tx))×Int)) (gf:List Int→Int→Res Int) (qi:(Tx×Tx×Int)→(List (Tx×Tx×Tx))→Int→Int→Res Int) (gU:(Tx×Tx×Int)→(List (Tx×Tx×Tx))→Int→Int→Res (List (List (Int×Int)))) (su:(Option Int)→Res Int) (ss:(Tx×Tx×Int)→(List (Tx×Tx×Tx))→Int→Res (Option Int)) (Z0g:List Int):Res Bool:=(sV Z0g (12:Int)).bind fun y1=>((gf Z0g (5:Int)).bind fun y14=>zt (y14% 13)).bind fun y15=>(qi y1.1 y1.2.1 y1.2.2 y15).bind fun y20=>((qi y1.1 y1.2.1 y1.2.2 (y15+(1:Int))).bind fun y23=>zt (decide (y23< y20))).bind fun y24=>if y24 then zt false else(((((gU y1.1 y1.2.1 y1.2.2 y15).bind fun y31=>eW y31 (-(1:Int))).bind fun y32=>zt y32.isEmpty).bind fun y33=>wo (decide (y20=(0:Int))) y33).bind fun y34=>zt (!y34)).bind fun y35=>if y35 then zt false else(if(decide (y1.2.2< (3:Int)))then(qi y1.1 y1.2.1 (y1.2.2+(1:Int)) y15).bind fun y42=>zt (decide (y42< y20))else zt false).bind fun y43=>if y43 then zt false else((ss y1.1 y1.2.1 y1.2.2).bind fun y52=>su y52).bind fun y53=>(if(decide (y1.2.2< (3:Int)))then((ss y1.1 y1.2.1 (y1.2.2+(1:Int))).bind fun y56=>su y56).bind fun y57=>zt (decide (y53< y57))else zt false).bind fun y58=>if y58 then zt false else if y1.2.1.isEmpty then(wo y53 (0:Int)).bind fun y67=>if y67 then wo y20 (1:Int)else zt false else((gf Z0g (6:Int)).bind fun y75=>iG y75 (y1.2.1.length:Int)).bind fun y76=>((eW y1.2.1 y76).bind fun y81=>zt [y81.1,y81.2.1,y81.2.2]).bind fun y82=>(((gf Z0g (7:Int)).bind fun y87=>zt (y87% 3)).bind fun y91=>fR y82 y91 ([63]:Tx)).bind fun y92=>((((qP y92).bind fun y95=>zt [y95]).bind fun y96=>tG (cut y1.2.1 none (some y76)) y96).bind fun y97=>tG y97 (cut y1.2.1 (some (y76+(1:Int))) none)).bind fun y98=>((qi y1.1 y98 y1.2.2 y15).bind fun y101=>zt (decide (y20≤y101))).bind fun y104=>if y104 then((ss y1.1 y98 y1.2.2).bind fun y102=>su y102).bind fun y103=>zt (decide (y103≤y53))else zt false
def sv (Z0g:List Int):Res Bool:=oD sV gf qi gU su ss Z0g
end
end Mi
namespace Wb
open PySem L2 Mi
def tp (i:Nat):Stmt:=PySem.Challenge.pw_wornband_k34_more_room_more_ways.main.body.getD i (.Pass ⟨0,0,0,0⟩)
section
variable {P:zL} {w:zQ} {K:PySem.W.Frag} {mg:Str→Option zl} {base:Heap}
theorem yB {f:Addr} {fd:zY} (F:Fun K "_law_at" "_law_at" (tp 31) f fd) (h_len:mg "len" =none):FnOk P w K mg base CX0 (1) f fd ["_law_script","_law_k"] (bw (isScr K) isI (rs isI) (xq)):=by
 have SC:FnScope ["_law_script","_law_k"] ["_law_script","_law_k"] (defScope (tp 31)):=⟨rfl,rfl,rfl,by decide +kernel,rfl,by decide +kernel,by decide +kernel⟩
 refine F.ok SC (fun vs H Q E h=>?_) (fun cdv A outer s H vs Q E hr h=>?_)
 ·obtain⟨_,_,_,_,_,_,rfl,_⟩:=h;rfl
 ·obtain⟨W0,Z0g,l_k,Z09,_,rfl,rfl,Z01,z_l_k,Er,hq⟩:=h
  cases z_l_k
  refine⟨_,(af (br (ay jq (pv 1) (aK (bZ (K:=K) rfl) (by rfl) h_len PySem.boot_len (a5 (pv 0) ae)) (ax _)) (ag (au (az (bi (K:=K) rfl) (pv 0) (pv 1) (fun _ _=>rfl)))) aL)
   (ag (au (ai aD (ai eH (ai bn (ai eH (pv 1) aa) aa) (ai bn (aK (bZ (K:=K) rfl) (by rfl) h_len PySem.boot_len (a5 (pv 0) ae)) aa)) aa)))),?_⟩
  have E0:Ext W0 W0:=.refl W0
  rw[show L2.start ["_law_script","_law_k"] [Z09,.int l_k]=[some Z09,some (.int l_k)]from rfl]
  unfold xq at hq
  refine cQ (Er:=Er) (aH (cu (a8 (R:=sh isI) (a:=l_k) (v:=.int l_k) rfl) (jA (a8 (R:=sh (isScr K)) Z01)))) (fun W1 e2=>?_)
  have E0:=E0.trans e2
  have Z01:=zk (R:=(isScr K)) e2.g Z01
  by_cases hb13:(decide (l_k< (Z0g.length:Int)))=true
  ·rw[if_pos hb13]at hq ⊢
   exact aR (Er:=Er) (R:=sh isI) (qX (a8 (R:=sh (isScr K)) Z01) (a8 (R:=sh isI) (a:=l_k) (v:=.int l_k) rfl)) (A7 hq fun y3 hq v4 W5 e6 h7=>hq v4 W5 (E0.trans e6) h7)
  ·rw[if_neg hb13]at hq ⊢
   try dsimp only[aF]
   exact aR (Er:=Er) (R:=sh isI) (aj (fun _=>by decide) (jZ (aV (aj (fun _=>.inr ⟨by decide,by decide⟩) (a8 (R:=sh isI) (a:=l_k) (v:=.int l_k) rfl)) ah) (aV (jA (a8 (R:=sh (isScr K)) Z01)) ah))) (A7 hq fun y9 hq v10 W11 e12 h13=>hq v10 W11 (E0.trans e12) h13)
theorem yC {f:Addr} {fd:zY} (F:Fun K "_law_row" "_law_row" (tp 27) f fd) (h_abs:mg "abs" =none) (h_range:mg "range" =none):FnOk P w K mg base CX0 (1) f fd ["_law_cell","_law_many","_law_base"] (dj isI isI isI (ro isI) (xr)):=by
 have SC:FnScope ["_law_cell","_law_many","_law_base","_law_now","_law_far","_law_mix","_law_out","_law_k"] ["_law_cell","_law_many","_law_base"] (defScope (tp 27)):=⟨rfl,rfl,rfl,by decide +kernel,rfl,by decide +kernel,by decide +kernel⟩
 refine F.ok SC (fun vs H Q E h=>?_) (fun cdv A outer s H vs Q E hr h=>?_)
 ·obtain⟨_,_,_,_,_,_,_,_,rfl,_⟩:=h;rfl
 ·obtain⟨W0,Z00,Z0c,Z0o,_,_,_,rfl,rfl,Z0y,Z2C,Zb7,Er,hq⟩:=h
  cases Z0y
  cases Z2C
  cases Zb7
  refine⟨_,(af (ao (i:=3) SC.nd rfl (by first | exact zH rfl | exact zG rfl) (aK kW (by rfl) h_abs EL (a5 (pv 0) ae)))
   (af (ao (i:=4) SC.nd rfl (by first | exact zH rfl | exact zG rfl) (cn nE (pv 3) (ai vw aa aa) (ax _)))
   (af (ao (i:=5) SC.nd rfl (by first | exact zH rfl | exact zG rfl) (ai aD (pv 3) aa))
   (af (ao (i:=6) SC.nd rfl (by first | exact zH rfl | exact zG rfl) (bP ae))
   (af (du AI rfl (gG rfl h_range (a5 (pv 1) ae)) (aq (i:=7) SC.nd rfl (by first | exact zH rfl | exact zG rfl)) (af (ao (i:=5) SC.nd rfl (by first | exact zH rfl | exact zG rfl) (ai aD (ai bn (ai bn (ai eH (pv 5) aa) aa) (pv 7)) aa))
   (ag (br (FI (eE (df (pv 4)) (di (ay nB (pv 3) aa (ax _))))) (af (dE (cw (K:=K) rfl (pv 6) (a5 (ai aD (pv 3) (pv 2)) ae)))
   (ag (ao (i:=3) SC.nd rfl (by first | exact zH rfl | exact zG rfl) (ai aZ (pv 3) (pv 2))))) (ag (dE (cw (K:=K) rfl (pv 6) (a5 (ai aD (ai aD (ai eH (pv 5) (pv 5)) aa) (pv 2)) ae))))))))
   (ag (au (pv 6)))))))),?_⟩
  have E0:Ext W0 W0:=.refl W0
  rw[show L2.start ["_law_cell","_law_many","_law_base","_law_now","_law_far","_law_mix","_law_out","_law_k"] [.int Z00,.int Z0c,.int Z0o]=[some (.int Z00),some (.int Z0c),some (.int Z0o),none,none,none,none,none]from rfl]
  unfold xr at hq
  refine ap (Er:=Er) (i:=3) (R:=sh isI) (σ':=fun v3=>[some (.int Z00),some (.int Z0c),some (.int Z0o),some v3,none,none,none,none]) (qU (a8 (R:=sh isI) (a:=Z00) (v:=.int Z00) rfl)) (fun v3 W1 e2 h4=>?_)
  cases h4
  have E0:=E0.trans e2
  refine ap (Er:=Er) (i:=4) (R:=sh isB) (σ':=fun v7=>[some (.int Z00),some (.int Z0c),some (.int Z0o),some (.int (cy Z00)),some v7,none,none,none]) (cu (a8 (R:=sh isI) (a:=(cy Z00)) (v:=.int (cy Z00)) rfl) (tM (r:=1000000000000000000) (by decide) (by decide))) (fun v7 W5 e6 h8=>?_)
  cases h8
  have E0:=E0.trans e6
  refine ap (Er:=Er) (i:=5) (R:=sh isI) (σ':=fun v11=>[some (.int Z00),some (.int Z0c),some (.int Z0o),some (.int (cy Z00)),some (.bl (decide ((1000000000000000000:Int)≤cy Z00))),some v11,none,none]) (aj (fun _=>by decide) (a8 (R:=sh isI) (a:=(cy Z00)) (v:=.int (cy Z00)) rfl)) (fun v11 W9 e10 h12=>?_)
  cases h12
  have E0:=E0.trans e10
  refine cz (Er:=Er) (i:=6) (σ':=fun p15=>[some (.int Z00),some (.int Z0c),some (.int Z0o),some (.int (cy Z00)),some (.bl (decide ((1000000000000000000:Int)≤cy Z00))),some (.int ((cy Z00)% 2147483647)),some (.ref p15),none]) (fJ (R:=isI)) (fun p15 W13 e14 hp16 o17=>?_)
  have fr18:=aT E0.h hp16
  have E0:=E0.trans e14
  refine dA (Er:=Er) (f:=(wr Z00 Z0o)) (s0:=(((cy Z00)% 2147483647),cy Z00,([]:List Int))) (Iv:=fun(s21:(Int×Int×(List Int))) (W22:Wd) (g23:St)=>∃(d25:Option V),g23=[some (.int Z00),some (.int Z0c),some (.int Z0o),some (.int s21.2.1),some (.bl (decide ((1000000000000000000:Int)≤cy Z00))),some (.int s21.1),some (.ref p15),d25]∧Ext W0 W22∧Ow isI W22 p15 s21.2.2) (iJ (a8 (R:=sh isI) (a:=Z0c) (v:=.int Z0c) rfl)) (zj hq) ?_ ?_ ?_
  ·intro W37 e38
   have E0:=E0.trans e38
   have o17:=o17.mono e38
   exact⟨_,rfl,E0,o17⟩
  ·intro Wb26 W27 W28 a19 v29 s20 sg30 P31 hW32 hB33 iv e34 h35 hq
   obtain⟨d25,rfl,E0,o24⟩:=iv
   have E0:=E0.trans e34
   have hB33:=hB33.trans e34.g
   have o24:=o24.mono e34
   cases h35
   refine gn (σ':=[some (.int Z00),some (.int Z0c),some (.int Z0o),some (.int s20.2.1),some (.bl (decide ((1000000000000000000:Int)≤cy Z00))),some (.int s20.1),some (.ref p15),some (.int a19)]) ?_
   unfold wr at hq
   refine ap (Er:=Er) (i:=5) (R:=sh isI) (σ':=fun v43=>[some (.int Z00),some (.int Z0c),some (.int Z0o),some (.int s20.2.1),some (.bl (decide ((1000000000000000000:Int)≤cy Z00))),some v43,some (.ref p15),some (.int a19)]) (aj (fun _=>by decide) (aV (aV (aj (fun _=>.inr ⟨by decide,by decide⟩) (a8 (R:=sh isI) (a:=s20.1) (v:=.int s20.1) rfl)) ah) (a8 (R:=sh isI) (a:=a19) (v:=.int a19) rfl))) (fun v43 W41 e42 h44=>?_)
   cases h44
   have E0:=E0.trans e42
   have hB33:=hB33.trans e42.g
   have o24:=o24.mono e42
   refine kt (Er:=Er) (Iv:=fun(s74:(Int×(List Int))) (W75:Wd) (g76:St)=>g76=[some (.int Z00),some (.int Z0c),some (.int Z0o),some (.int s74.1),some (.bl (decide ((1000000000000000000:Int)≤cy Z00))),some (.int ((((s20.1*48271)+(7919:Int))+a19)% 2147483647)),some (.ref p15),some (.int a19)]∧Ext W0 W75∧Ow isI W75 p15 s74.2) (gd (qT (a8 (R:=sh isB) (a:=(decide ((1000000000000000000:Int)≤cy Z00))) (v:=.bl (decide ((1000000000000000000:Int)≤cy Z00))) rfl)) (aH (cu (a8 (R:=sh isI) (a:=s20.2.1) (v:=.int s20.2.1) rfl) ah))) (zj hq) ?_ ?_ ?_
   ·intro W46 N49 e47 hN50 hq
    have hs51:=e47.g
    have E0:=E0.trans e47
    have hB33:=hB33.trans e47.g
    have o24:=o24.mono e47
    refine qW (Er:=Er) o24 (gO (a8 (R:=sh isI) (a:=s20.2.1) (v:=.int s20.2.1) rfl) (a8 (R:=sh isI) (a:=Z0o) (v:=.int Z0o) rfl)) ((zj hq).imp fun y55 hq W52 mu53 o54=>?_)
    have E0:=mu53.e _ E0 fr18
    have hB33:=hB33.trans mu53.g
    have hs51:=hs51.trans mu53.g
    refine cP (Er:=Er) (i:=3) (R:=sh isI) (σ':=fun v60=>[some (.int Z00),some (.int Z0c),some (.int Z0o),some v60,some (.bl (decide ((1000000000000000000:Int)≤cy Z00))),some (.int ((((s20.1*48271)+(7919:Int))+a19)% 2147483647)),some (.ref p15),some (.int a19)]) (nO (a8 (R:=sh isI) (a:=s20.2.1) (v:=.int s20.2.1) rfl) (a8 (R:=sh isI) (a:=Z0o) (v:=.int Z0o) rfl)) ((zj hq).imp fun y59 hq v60 W57 e58 h61=>?_)
    cases h61
    have E0:=E0.trans e58
    have hB33:=hB33.trans e58.g
    have hs51:=hs51.trans e58.g
    have o54:=o54.mono e58
    exact hN50 (y59,y55) W57 _ hs51 ⟨rfl,E0,o54⟩ hq
   ·intro W46 N49 e47 hN50 hq
    have hs62:=e47.g
    have E0:=E0.trans e47
    have hB33:=hB33.trans e47.g
    have o24:=o24.mono e47
    refine ft (Er:=Er) o24 (gO (aj (fun _=>by decide) (jZ (a8 (R:=sh isI) (a:=((((s20.1*48271)+(7919:Int))+a19)% 2147483647)) (v:=.int ((((s20.1*48271)+(7919:Int))+a19)% 2147483647)) rfl) (a8 (R:=sh isI) (a:=((((s20.1*48271)+(7919:Int))+a19)% 2147483647)) (v:=.int ((((s20.1*48271)+(7919:Int))+a19)% 2147483647)) rfl))) (a8 (R:=sh isI) (a:=Z0o) (v:=.int Z0o) rfl)) ((zj hq).imp fun y68 hq W65 mu66 o67=>?_)
    have E0:=mu66.e _ E0 fr18
    have hB33:=hB33.trans mu66.g
    have hs62:=hs62.trans mu66.g
    exact hN50 (s20.2.1,y68) W65 _ hs62 ⟨rfl,E0,o67⟩ hq
   ·intro s70 W71 sg72 hS73 iv hq
    obtain⟨rfl,E0,o77⟩:=iv
    have hB33:=hB33.trans hS73
    try dsimp only
    refine dB (W:=W71) (((((s20.1*48271)+(7919:Int))+a19)% 2147483647),s70.1,s70.2) hB33 ?_ hq
    exact⟨_,rfl,E0,o77⟩
  ·intro s79 W80 sg81 hS82 iv hq
   obtain⟨d25,rfl,E0,o24⟩:=iv
   exact⟨.ref p15,rfl,hq p15 W80 E0 fr18 o24⟩
theorem yD {f:Addr} {fd:zY} (F:Fun K "_law_holes" "_law_holes" (tp 28) f fd) {gF:Int→Int→Int→Res (List Int)} (Z0t:Cal P w K mg base "_law_row" ["_law_cell","_law_many","_law_base"] (1) (dj isI isI isI (ro isI) gF)):FnOk P w K mg base CX0 (2) f fd ["_law_cell"] (cU isI (rs isS) (xt gF)):=by
 have SC:FnScope ["_law_cell","_law_size","_law_draws","_law_out","_law_d"] ["_law_cell"] (defScope (tp 28)):=⟨rfl,rfl,rfl,by decide +kernel,rfl,by decide +kernel,by decide +kernel⟩
 refine F.ok SC (fun vs H Q E h=>?_) (fun cdv A outer s H vs Q E hr h=>?_)
 ·obtain⟨_,_,_,_,rfl,_⟩:=h;rfl
 ·obtain⟨W0,Z00,_,rfl,rfl,Z0y,Er,hq⟩:=h
  cases Z0y
  refine⟨_,(af (ao (i:=1) SC.nd rfl (by first | exact zH rfl | exact zG rfl) (az (bi (K:=K) rfl) (bP (a5 aa (a5 aa (a5 aa (a5 aa (a5 aa ae)))))) (ai aD (pv 0) aa) (fun _ _=>rfl)))
   (af (ao (i:=2) SC.nd rfl (by first | exact zH rfl | exact zG rfl) (ak Z0t (hr.mono (by decide)) (by rfl) (a5 (ai aZ (pv 0) aa) (a5 aa (a5 aa ae)))))
   (af (ao (i:=3) SC.nd rfl (by first | exact zH rfl | exact zG rfl) bm)
   (af (du AI rfl (cC (K:=K) rfl (fc (iF (K:=K) rfl) (pv 2) gi (fH aa))) (aq (i:=4) SC.nd rfl (by first | exact zH rfl | exact zG rfl)) (ag (ao (i:=3) SC.nd rfl (by first | exact zH rfl | exact zG rfl) (ai cW (pv 3) (az bG bm (ai aD (ai bn (az (bi (K:=K) rfl) (pv 2) aa (fun _ _=>rfl)) (ai eH (ai aD (pv 4) (pv 1)) aa)) aa) (fun _ _=>rfl))))))
   (ag (au (pv 3))))))),?_⟩
  have E0:Ext W0 W0:=.refl W0
  rw[show L2.start ["_law_cell","_law_size","_law_draws","_law_out","_law_d"] [.int Z00]=[some (.int Z00),none,none,none,none]from rfl]
  unfold xt at hq
  refine ap (Er:=Er) (i:=1) (R:=sh isI) (σ':=fun v4=>[some (.int Z00),some v4,none,none,none]) (cv (CW (fo (bB ah (bB ah (bB ah (bB ah (bB ah (fk (R:=isI))))))))) (aj (fun _=>by decide) (a8 (R:=sh isI) (a:=Z00) (v:=.int Z00) rfl))) ((zj hq).imp fun y3 hq v4 W1 e2 h5=>?_)
  cases h5
  have E0:=E0.trans e2
  refine ap (Er:=Er) (i:=2) (R:=sh (isL isI)) (σ':=fun v9=>[some (.int Z00),some (.int y3),some v9,none,none]) (Cj (dZ (aj (fun _=>⟨by decide,by decide⟩) (a8 (R:=sh isI) (a:=Z00) (v:=.int Z00) rfl)) ah ah)) ((zj hq).imp fun y8 hq v9 W6 e7 h10=>?_)
  have E0:=E0.trans e7
  refine ap (Er:=Er) (i:=3) (R:=sh isS) (σ':=fun v13=>[some (.int Z00),some (.int y3),some v9,some v13,none]) (bq (x:=zx "") (l:=[]) (gk _ _ (by decide +kernel))) (fun v13 W11 e12 h14=>?_)
  cases h14
  have E0:=E0.trans e12
  have h10:=zk (R:=(isL isI)) e12.g h10
  refine dA (Er:=Er) (f:=(wt y3 y8)) (s0:=([]:Tx)) (Iv:=fun(s17:Tx) (W18:Wd) (g19:St)=>∃(d20:Option V),g19=[some (.int Z00),some (.int y3),some v9,some (.str (ar s17)),d20]∧Ext W0 W18) (d5 (Cj (k9 (CY (a8 (R:=sh (isL isI)) h10)) lf (lg ah)))) (zj hq) ?_ ?_ ?_
  ·intro W32 e33
   have E0:=E0.trans e33
   have h10:=zk (R:=(isL isI)) e33.g h10
   exact⟨_,rfl,E0⟩
  ·intro Wb21 W22 W23 a15 v24 s16 sg25 P26 hW27 hB28 iv e29 h30 hq
   obtain⟨d20,rfl,E0⟩:=iv
   have h10:=zk (R:=(isL isI)) hW27 h10
   have E0:=E0.trans e29
   have hB28:=hB28.trans e29.g
   have h10:=zk (R:=(isL isI)) e29.g h10
   cases h30
   refine gn (σ':=[some (.int Z00),some (.int y3),some v9,some (.str (ar s16)),some (.int a15)]) ?_
   unfold wt at hq
   refine cP (Er:=Er) (i:=3) (R:=sh isS) (σ':=fun v45=>[some (.int Z00),some (.int y3),some v9,some v45,some (.int a15)]) (fI (a8 (R:=sh isS) (a:=s16) (v:=.str (ar s16)) rfl) (bI (bq (x:=zx "abcdefghijklmnopqrstuvwxyz") (l:=[97,98,99,100,101,102,103,104,105,106,107,108,109,110,111,112,113,114,115,116,117,118,119,120,121,122]) (gk _ _ (by decide +kernel))) (aj (fun _=>by decide) (aV (cv (CY (a8 (R:=sh (isL isI)) h10)) ah) (aj (fun _=>.inr ⟨by decide,by decide⟩) (gO (a8 (R:=sh isI) (a:=a15) (v:=.int a15) rfl) (a8 (R:=sh isI) (a:=y3) (v:=.int y3) rfl))))))) ((zj hq).imp fun y44 hq v45 W36 e37 h46=>?_)
   cases h46
   have E0:=E0.trans e37
   have hB28:=hB28.trans e37.g
   have h10:=zk (R:=(isL isI)) e37.g h10
   try dsimp only
   refine dB (W:=W36) y44 hB28 ?_ hq
   exact⟨_,rfl,E0⟩
  ·intro s47 W48 sg49 hS50 iv hq
   obtain⟨d20,rfl,E0⟩:=iv
   exact aR (Er:=Er) (R:=sh isS) (a8 (R:=sh isS) (a:=s47) (v:=.str (ar s47)) rfl) (fun v51 W52 e53 h54=>hq v51 W52 (E0.trans e53) h54)
theorem yE {f:Addr} {fd:zY} (F:Fun K "_law_card" "_law_card" (tp 29) f fd) {ue:Int→Res Tx} (Z2D:Cal P w K mg base "_law_holes" ["_law_cell"] (2) (cU isI (rs isS) ue)):FnOk P w K mg base CX0 (3) f fd ["_law_cell"] (cU isI (rs (isT3 K isS isS isI)) (xu ue)):=by
 have SC:FnScope ["_law_cell"] ["_law_cell"] (defScope (tp 29)):=⟨rfl,rfl,rfl,by decide +kernel,rfl,by decide +kernel,by decide +kernel⟩
 refine F.ok SC (fun vs H Q E h=>?_) (fun cdv A outer s H vs Q E hr h=>?_)
 ·obtain⟨_,_,_,_,rfl,_⟩:=h;rfl
 ·obtain⟨W0,Z00,_,rfl,rfl,Z0y,Er,hq⟩:=h
  cases Z0y
  refine⟨_,(ag (au (cE (a5 (az bG bm (ai aD (pv 0) aa) (fun _ _=>rfl)) (a5 (ak Z2D (hr.mono (by decide)) (by rfl) (a5 (ai aZ (pv 0) aa) ae)) (a5 (ai aD (ai aZ (pv 0) aa) aa) ae)))))),?_⟩
  have E0:Ext W0 W0:=.refl W0
  rw[show L2.start ["_law_cell"] [.int Z00]=[some (.int Z00)]from rfl]
  unfold xu at hq
  exact aR (Er:=Er) (R:=sh (isT3 K isS isS isI)) (cO (K:=K) (bI (bq (x:=zx "SZ") (l:=[83,90]) (gk _ _ (by decide +kernel))) (aj (fun _=>by decide) (a8 (R:=sh isI) (a:=Z00) (v:=.int Z00) rfl))) (bJ (aj (fun _=>⟨by decide,by decide⟩) (a8 (R:=sh isI) (a:=Z00) (v:=.int Z00) rfl))) (aj (fun _=>by decide) (aj (fun _=>⟨by decide,by decide⟩) (a8 (R:=sh isI) (a:=Z00) (v:=.int Z00) rfl)))) (A7 hq fun y3 hq v4 W5 e6 h7=>hq v4 W5 (E0.trans e6) h7)
theorem yF {f:Addr} {fd:zY} (F:Fun K "_law_turns" "_law_turns" (tp 30) f fd) {gF:Int→Int→Int→Res (List Int)} (Z0t:Cal P w K mg base "_law_row" ["_law_cell","_law_many","_law_base"] (1) (dj isI isI isI (ro isI) gF)):FnOk P w K mg base CX0 (2) f fd ["_law_cell","_law_many"] (bw isI isI (rs isS) (xv gF)):=by
 have SC:FnScope ["_law_cell","_law_many"] ["_law_cell","_law_many"] (defScope (tp 30)):=⟨rfl,rfl,rfl,by decide +kernel,rfl,by decide +kernel,by decide +kernel⟩
 refine F.ok SC (fun vs H Q E h=>?_) (fun cdv A outer s H vs Q E hr h=>?_)
 ·obtain⟨_,_,_,_,_,_,rfl,_⟩:=h;rfl
 ·obtain⟨W0,Z00,Z0c,_,_,rfl,rfl,Z0y,Z2C,Er,hq⟩:=h
  cases Z0y
  cases Z2C
  refine⟨_,(af (br (ay bT (ai aD (pv 0) aa) aa (ax _)) (ag (au (ai mE (az bG bm (ai aD (ai aZ (pv 0) aa) aa) (fun _ _=>rfl)) (pv 1)))) aL)
   (ag (au (iL (K:=K) rfl bm (a5 (eL (N:=["_law_d"]) (cap:=[none]) (i6 rfl (by decide +kernel) rfl (by decide +kernel) (by rfl) (by rfl)) rfl (cC (K:=K) rfl (ak Z0t (hr.mono (by decide)) (by rfl) (a5 (ai aZ (pv 0) aa) (a5 (pv 1) (a5 aa ae))))) (fun _ _ _ _=>(aq (i:=0) (show AU (["_law_d"]:List Str) by decide +kernel) rfl (by first | exact zH rfl | exact zG rfl))) (fun _ _ _ _=>cD) (fun _ _ _ _=>(az bG bm (pv 0) (fun _ _=>rfl)))) ae))))),?_⟩
  have E0:Ext W0 W0:=.refl W0
  rw[show L2.start ["_law_cell","_law_many"] [.int Z00,.int Z0c]=[some (.int Z00),some (.int Z0c)]from rfl]
  unfold xv at hq
  refine cQ (Er:=Er) (aH (cG (aj (fun _=>by decide) (a8 (R:=sh isI) (a:=Z00) (v:=.int Z00) rfl)) ah)) (fun W1 e2=>?_)
  have E0:=E0.trans e2
  by_cases hb24:(decide ((Z00% 7)=(3:Int)))=true
  ·rw[if_pos hb24]at hq ⊢
   exact aR (Er:=Er) (R:=sh isS) (tI (bI (bq (x:=zx "fbi") (l:=[102,98,105]) (gk _ _ (by decide +kernel))) (aj (fun _=>by decide) (aj (fun _=>⟨by decide,by decide⟩) (a8 (R:=sh isI) (a:=Z00) (v:=.int Z00) rfl)))) (a8 (R:=sh isI) (a:=Z0c) (v:=.int Z0c) rfl)) (A7 hq fun y4 hq v5 W6 e7 h8=>hq v5 W6 (E0.trans e7) h8)
  ·rw[if_neg hb24]at hq ⊢
   try dsimp only[aF]
   exact aR (Er:=Er) (R:=sh isS) (kf (gk _ _ (by decide +kernel)) (CW (eM (f:=fun(a9:Int)=>dX ([102,98,105]:Tx) a9) (d5 (Cj (dZ (aj (fun _=>⟨by decide,by decide⟩) (a8 (R:=sh isI) (a:=Z00) (v:=.int Z00) rfl)) (a8 (R:=sh isI) (a:=Z0c) (v:=.int Z0c) rfl) ah))) fun W11 a9 v10 e12 h13 Q16 k17=>by
    cases h13
    refine gn ?_
    exact⟨by simp[Keep,bh],((bI (bq (x:=zx "fbi") (l:=[102,98,105]) (gk _ _ (by decide +kernel))) (a8 (R:=sh isI) (a:=a9) (v:=.int a9) rfl)):EV Er _ [some (.int a9)] _ _ _) _ (.refl _) _ k17⟩))) (A7 hq fun y20 hq v21 W22 e23 h24=>hq v21 W22 (E0.trans e23) h24)
theorem yG {f:Addr} {fd:zY} (F:Fun K "_law_go" "_law_go" (tp 33) f fd):FnOk P w K mg base CX0 (1) f fd ["_law_turn"] (cU isS (rs isI) (xw)):=by
 have SC:FnScope ["_law_turn"] ["_law_turn"] (defScope (tp 33)):=⟨rfl,rfl,rfl,by decide +kernel,rfl,by decide +kernel,by decide +kernel⟩
 refine F.ok SC (fun vs H Q E h=>?_) (fun cdv A outer s H vs Q E hr h=>?_)
 ·obtain⟨_,_,_,_,rfl,_⟩:=h;rfl
 ·obtain⟨W0,Z0k,_,rfl,rfl,Z2E,Er,hq⟩:=h
  cases Z2E
  refine⟨_,(ag (au (ai gJ (eu (K:=K) rfl rfl bm (a5 (pv 0) ae)) aa))),?_⟩
  have E0:Ext W0 W0:=.refl W0
  rw[show L2.start ["_law_turn"] [.str (ar Z0k)]=[some (.str (ar Z0k))]from rfl]
  unfold xw at hq
  exact aR (Er:=Er) (R:=sh isI) (aV (gq (bq (x:=zx "bif") (l:=[98,105,102]) (gk _ _ (by decide +kernel))) (a8 (R:=sh isS) (a:=Z0k) (v:=.str (ar Z0k)) rfl)) ah) (A7 hq fun y2 hq v3 W4 e5 h6=>hq v3 W4 (E0.trans e5) h6)
theorem yH {f:Addr} {fd:zY} (F:Fun K "_law_behind" "_law_behind" (tp 34) f fd) {m9:Tx→Res Int} (Z1c:Cal P w K mg base "_law_go" ["_law_turn"] (1) (cU isS (rs isI) m9)):FnOk P w K mg base CX0 (2) f fd ["_law_card_here","_law_turn"] (bw (isT3 K isS isS isI) isS (rs (isT3 K isS isS isI)) (xx m9)):=by
 have SC:FnScope ["_law_card_here","_law_turn"] ["_law_card_here","_law_turn"] (defScope (tp 34)):=⟨rfl,rfl,rfl,by decide +kernel,rfl,by decide +kernel,by decide +kernel⟩
 refine F.ok SC (fun vs H Q E h=>?_) (fun cdv A outer s H vs Q E hr h=>?_)
 ·obtain⟨_,_,_,_,_,_,rfl,_⟩:=h;rfl
 ·obtain⟨W0,Z02,Z0k,Z0a,_,rfl,rfl,Z06,Z2E,Er,hq⟩:=h
  cases Z2E
  refine⟨_,(ag (au (cE (a5 (az (aP (K:=K) rfl) (pv 0) aa (fun _ _=>rfl)) (a5 (az (aP (K:=K) rfl) (pv 0) aa (fun _ _=>rfl)) (a5 (ai aD (ai bn (az (aP (K:=K) rfl) (pv 0) aa (fun _ _=>rfl)) (ak Z1c (hr.mono (by decide)) (by rfl) (a5 (pv 1) ae))) aa) ae)))))),?_⟩
  have E0:Ext W0 W0:=.refl W0
  rw[show L2.start ["_law_card_here","_law_turn"] [Z0a,.str (ar Z0k)]=[some Z0a,some (.str (ar Z0k))]from rfl]
  unfold xx at hq
  exact aR (Er:=Er) (R:=sh (isT3 K isS isS isI)) (cO (K:=K) (b9 (f:=fun(b:Tx×Tx×Int)=>b.1) lh (a8 (R:=sh (isT3 K isS isS isI)) Z06)) (b9 (f:=fun(b:Tx×Tx×Int)=>b.2.1) jm (a8 (R:=sh (isT3 K isS isS isI)) Z06)) (aj (fun _=>by decide) (aV (b9 (f:=fun(b:Tx×Tx×Int)=>b.2.2) k6 (a8 (R:=sh (isT3 K isS isS isI)) Z06)) (bJ (a8 (R:=sh isS) (a:=Z0k) (v:=.str (ar Z0k)) rfl))))) (A7 hq fun y4 hq v5 W6 e7 h8=>hq v5 W6 (E0.trans e7) h8)
theorem yI {f:Addr} {fd:zY} (F:Fun K "_law_twist" "_law_twist" (tp 35) f fd) {m9:Tx→Res Int} (Z1c:Cal P w K mg base "_law_go" ["_law_turn"] (1) (cU isS (rs isI) m9)):FnOk P w K mg base CX0 (2) f fd ["_law_card_here","_law_turn"] (bw (isT3 K isS isS isI) isS (rs isI) (xA m9)):=by
 have SC:FnScope ["_law_card_here","_law_turn"] ["_law_card_here","_law_turn"] (defScope (tp 35)):=⟨rfl,rfl,rfl,by decide +kernel,rfl,by decide +kernel,by decide +kernel⟩
 refine F.ok SC (fun vs H Q E h=>?_) (fun cdv A outer s H vs Q E hr h=>?_)
 ·obtain⟨_,_,_,_,_,_,rfl,_⟩:=h;rfl
 ·obtain⟨W0,Z02,Z0k,Z0a,_,rfl,rfl,Z06,Z2E,Er,hq⟩:=h
  cases Z2E
  refine⟨_,(af (br (ay bT (az (aP (K:=K) rfl) (pv 0) aa (fun _ _=>rfl)) bm (ax _)) (ag (au (ak Z1c (hr.mono (by decide)) (by rfl) (a5 (pv 1) ae)))) aL)
   (ag (au (ai gJ aa (ak Z1c (hr.mono (by decide)) (by rfl) (a5 (pv 1) ae)))))),?_⟩
  have E0:Ext W0 W0:=.refl W0
  rw[show L2.start ["_law_card_here","_law_turn"] [Z0a,.str (ar Z0k)]=[some Z0a,some (.str (ar Z0k))]from rfl]
  unfold xA at hq
  refine cQ (Er:=Er) (aH (gP (b9 (f:=fun(b:Tx×Tx×Int)=>b.1) lh (a8 (R:=sh (isT3 K isS isS isI)) Z06)) (bq (x:=zx "S") (l:=[83]) (gk _ _ (by decide +kernel))))) (fun W1 e2=>?_)
  have E0:=E0.trans e2
  have Z06:=zk (R:=(isT3 K isS isS isI)) e2.g Z06
  by_cases hb13:(decide (Z02.1=([83]:Tx)))=true
  ·rw[if_pos hb13]at hq ⊢
   exact aR (Er:=Er) (R:=sh isI) (bJ (a8 (R:=sh isS) (a:=Z0k) (v:=.str (ar Z0k)) rfl)) (A7 hq fun y3 hq v4 W5 e6 h7=>hq v4 W5 (E0.trans e6) h7)
  ·rw[if_neg hb13]at hq ⊢
   try dsimp only[aF]
   exact aR (Er:=Er) (R:=sh isI) (aV ah (bJ (a8 (R:=sh isS) (a:=Z0k) (v:=.str (ar Z0k)) rfl))) (A7 hq fun y9 hq v10 W11 e12 h13=>hq v10 W11 (E0.trans e12) h13)
theorem yJ {f:Addr} {fd:zY} (F:Fun K "_law_places" "_law_places" (tp 36) f fd) {im:(Tx×Tx×Int)→Tx→Res (Tx×Tx×Int)} {oB:(Tx×Tx×Int)→Tx→Res Int} (Z0J:Cal P w K mg base "_law_behind" ["_law_card_here","_law_turn"] (2) (bw (isT3 K isS isS isI) isS (rs (isT3 K isS isS isI)) im)) (Z2F:Cal P w K mg base "_law_twist" ["_law_card_here","_law_turn"] (2) (bw (isT3 K isS isS isI) isS (rs isI) oB)):FnOk P w K mg base CX0 (3) f fd ["_law_card_here","_law_turns_here"] (bw (isT3 K isS isS isI) isS (ro (isT3 K isS isS isS)) (xB im oB)):=by
 have SC:FnScope ["_law_card_here","_law_turns_here","_law_out","_law_turn","_law_slant"] ["_law_card_here","_law_turns_here"] (defScope (tp 36)):=⟨rfl,rfl,rfl,by decide +kernel,rfl,by decide +kernel,by decide +kernel⟩
 refine F.ok SC (fun vs H Q E h=>?_) (fun cdv A outer s H vs Q E hr h=>?_)
 ·obtain⟨_,_,_,_,_,_,rfl,_⟩:=h;rfl
 ·obtain⟨W0,Z02,Z04,Z0a,_,rfl,rfl,Z06,Z0z,Er,hq⟩:=h
  cases Z0z
  refine⟨_,(af (ao (i:=2) SC.nd rfl (by first | exact zH rfl | exact zG rfl) (bP ae))
   (af (du AI rfl (jU (pv 1)) (aq (i:=3) SC.nd rfl (by first | exact zH rfl | exact zG rfl)) (af (ao (i:=0) SC.nd rfl (by first | exact zH rfl | exact zG rfl) (ak Z0J (hr.mono (by decide)) (by rfl) (a5 (pv 0) (a5 (pv 3) ae))))
   (af (ao (i:=4) SC.nd rfl (by first | exact zH rfl | exact zG rfl) (az bG bm (ai bn (ak Z2F (hr.mono (by decide)) (by rfl) (a5 (pv 0) (a5 (pv 3) ae))) aa) (fun _ _=>rfl)))
   (ag (dE (cw (K:=K) rfl (pv 2) (a5 (cE (a5 (az bG (az (aP (K:=K) rfl) (pv 0) aa (fun _ _=>rfl)) (az (aP (K:=K) rfl) (pv 0) aa (fun _ _=>rfl)) (fun _ _=>rfl)) (a5 (az bG (az (aP (K:=K) rfl) (pv 0) aa (fun _ _=>rfl)) (ai aD (ai bn (az (aP (K:=K) rfl) (pv 0) aa (fun _ _=>rfl)) aa) aa) (fun _ _=>rfl)) (a5 (pv 4) ae)))) ae)))))))
   (ag (au (pv 2))))),?_⟩
  have E0:Ext W0 W0:=.refl W0
  rw[show L2.start ["_law_card_here","_law_turns_here","_law_out","_law_turn","_law_slant"] [Z0a,.str (ar Z04)]=[some Z0a,some (.str (ar Z04)),none,none,none]from rfl]
  unfold xB at hq
  refine cz (Er:=Er) (i:=2) (σ':=fun p3=>[some Z0a,some (.str (ar Z04)),some (.ref p3),none,none]) (fJ (R:=(isT3 K isS isS isS))) (fun p3 W1 e2 hp4 o5=>?_)
  have fr6:=aT E0.h hp4
  have E0:=E0.trans e2
  have Z06:=zk (R:=(isT3 K isS isS isI)) e2.g Z06
  refine dA (Er:=Er) (f:=(wu im oB)) (s0:=(Z02,([]:List (Tx×Tx×Tx)))) (Iv:=fun(s9:((Tx×Tx×Int)×(List (Tx×Tx×Tx)))) (W10:Wd) (g11:St)=>∃(v12:V) (d15:Option V) (d16:Option V),g11=[some v12,some (.str (ar Z04)),some (.ref p3),d16,d15]∧Ext W0 W10∧(isT3 K isS isS isI) W10.G s9.1 v12∧Ow (isT3 K isS isS isS) W10 p3 s9.2) (kg (a8 (R:=sh isS) (a:=Z04) (v:=.str (ar Z04)) rfl)) (zj hq) ?_ ?_ ?_
  ·intro W28 e29
   have E0:=E0.trans e29
   have Z06:=zk (R:=(isT3 K isS isS isI)) e29.g Z06
   have o5:=o5.mono e29
   exact⟨_,_,_,rfl,E0,Z06,o5⟩
  ·intro Wb17 W18 W19 a7 v20 s8 sg21 P22 hW23 hB24 iv e25 h26 hq
   obtain⟨v12,d15,d16,rfl,E0,h13,o14⟩:=iv
   have E0:=E0.trans e25
   have hB24:=hB24.trans e25.g
   have o14:=o14.mono e25
   have h13:=zk (R:=(isT3 K isS isS isI)) e25.g h13
   cases h26
   refine gn (σ':=[some v12,some (.str (ar Z04)),some (.ref p3),some (.str (ar a7)),d15]) ?_
   unfold wu at hq
   refine ap (Er:=Er) (i:=0) (R:=sh (isT3 K isS isS isI)) (σ':=fun v35=>[some v35,some (.str (ar Z04)),some (.ref p3),some (.str (ar a7)),d15]) (aW (a8 (R:=sh (isT3 K isS isS isI)) h13) (a8 (R:=sh isS) (a:=a7) (v:=.str (ar a7)) rfl)) ((zj hq).imp fun y34 hq v35 W32 e33 h36=>?_)
   have E0:=E0.trans e33
   have hB24:=hB24.trans e33.g
   have o14:=o14.mono e33
   refine ap (Er:=Er) (i:=4) (R:=sh isS) (σ':=fun v42=>[some v35,some (.str (ar Z04)),some (.ref p3),some (.str (ar a7)),some v42]) (bI (bq (x:=zx "zos") (l:=[122,111,115]) (gk _ _ (by decide +kernel))) (aV (aW (a8 (R:=sh (isT3 K isS isS isI)) h36) (a8 (R:=sh isS) (a:=a7) (v:=.str (ar a7)) rfl)) ah)) ((zj hq).imp fun y41 hq v42 W37 e38 h43=>?_)
   cases h43
   have E0:=E0.trans e38
   have hB24:=hB24.trans e38.g
   have o14:=o14.mono e38
   have h36:=zk (R:=(isT3 K isS isS isI)) e38.g h36
   refine ft (Er:=Er) o14 (cO (K:=K) (bI (b9 (f:=fun(b:Tx×Tx×Int)=>b.2.1) jm (a8 (R:=sh (isT3 K isS isS isI)) h36)) (b9 (f:=fun(b:Tx×Tx×Int)=>b.2.2) k6 (a8 (R:=sh (isT3 K isS isS isI)) h36))) (bI (b9 (f:=fun(b:Tx×Tx×Int)=>b.2.1) jm (a8 (R:=sh (isT3 K isS isS isI)) h36)) (aj (fun _=>by decide) (aV (b9 (f:=fun(b:Tx×Tx×Int)=>b.2.2) k6 (a8 (R:=sh (isT3 K isS isS isI)) h36)) ah))) (a8 (R:=sh isS) (a:=y41) (v:=.str (ar y41)) rfl)) ((zj hq).imp fun y49 hq W46 mu47 o48=>?_)
   have E0:=mu47.e _ E0 fr6
   have hB24:=hB24.trans mu47.g
   have h36:=zk (R:=(isT3 K isS isS isI)) mu47.g h36
   try dsimp only
   refine dB (W:=W46) (y34,y49) hB24 ?_ hq
   exact⟨_,_,_,rfl,E0,h36,o48⟩
  ·intro s51 W52 sg53 hS54 iv hq
   obtain⟨v12,d15,d16,rfl,E0,h13,o14⟩:=iv
   exact⟨.ref p3,rfl,hq p3 W52 E0 fr6 o14⟩
theorem yK {f:Addr} {fd:zY} (F:Fun K "_law_long" "_law_long" (tp 38) f fd) {gF:Int→Int→Int→Res (List Int)} (Z0t:Cal P w K mg base "_law_row" ["_law_cell","_law_many","_law_base"] (1) (dj isI isI isI (ro isI) gF)) (h_len:mg "len" =none) (h_zip:mg "zip" =none):FnOk P w K mg base CX0 (2) f fd ["_law_places_here","_law_cell"] (bw (isL (isT3 K isS isS isS)) isI (ro (isT3 K isS isS isS)) (xC gF)):=by
 have SC:FnScope ["_law_places_here","_law_cell","_law_out","_law_worn","_law_draws","_law_place","_law_d","_law_at_here"] ["_law_places_here","_law_cell"] (defScope (tp 38)):=⟨rfl,rfl,rfl,by decide +kernel,rfl,by decide +kernel,by decide +kernel⟩
 refine F.ok SC (fun vs H Q E h=>?_) (fun cdv A outer s H vs Q E hr h=>?_)
 ·obtain⟨_,_,_,_,_,_,rfl,_⟩:=h;rfl
 ·obtain⟨W0,Z0n,Z00,Z08,_,rfl,rfl,Z03,Z0y,Er,hq⟩:=h
  cases Z0y
  refine⟨_,(af (ao (i:=2) SC.nd rfl (by first | exact zH rfl | exact zG rfl) (bP ae))
   (af (ao (i:=3) SC.nd rfl (by first | exact zH rfl | exact zG rfl) aa)
   (af (ao (i:=4) SC.nd rfl (by first | exact zH rfl | exact zG rfl) (ak Z0t (hr.mono (by decide)) (by rfl) (a5 (ai aZ (pv 1) aa) (a5 (aK (bZ (K:=K) rfl) (by rfl) h_len PySem.boot_len (a5 (pv 0) ae)) (a5 aa ae)))))
   (af (du AI rfl (gl (K:=K) rfl rfl h_zip (a5 (pv 0) (a5 (pv 4) ae))) (cq (K:=K) (n:=2) rfl rfl (aB (aq (i:=5) SC.nd rfl (by first | exact zH rfl | exact zG rfl)) (aB (aq (i:=6) SC.nd rfl (by first | exact zH rfl | exact zG rfl)) cm))) (af (br (FI (eE (ay bT (pv 6) aa (ax _)) (di (ay jq (pv 3) aa (ax _))))) (af (ao (i:=3) SC.nd rfl (by first | exact zH rfl | exact zG rfl) (ai bn (pv 3) aa))
   (ag (ao (i:=5) SC.nd rfl (by first | exact zH rfl | exact zG rfl) (cE (a5 bm (a5 (az (aP (K:=K) rfl) (pv 5) aa (fun _ _=>rfl)) (a5 bm ae))))))) aL)
   (ag (dE (cw (K:=K) rfl (pv 2) (a5 (pv 5) ae))))))
   (af (br (ay bT (ai aD (pv 1) aa) aa (ax _)) (af (ao (i:=7) SC.nd rfl (by first | exact zH rfl | exact zG rfl) (ai aD (ai aZ (pv 1) aa) (aK (bZ (K:=K) rfl) (by rfl) h_len PySem.boot_len (a5 (pv 0) ae))))
   (ag (dP (cE (a5 (az (aP (K:=K) rfl) (az (bi (K:=K) rfl) (pv 2) (pv 7) (fun _ _=>rfl)) aa (fun _ _=>rfl)) (a5 (az (aP (K:=K) rfl) (az (bi (K:=K) rfl) (pv 2) (pv 7) (fun _ _=>rfl)) aa (fun _ _=>rfl)) (a5 (az bG bm (ai aD (ai aZ (pv 1) aa) aa) (fun _ _=>rfl)) ae)))) (jN (pv 2) (pv 7) gj)))) aL)
   (ag (au (pv 2)))))))),?_⟩
  have E0:Ext W0 W0:=.refl W0
  rw[show L2.start ["_law_places_here","_law_cell","_law_out","_law_worn","_law_draws","_law_place","_law_d","_law_at_here"] [Z08,.int Z00]=[some Z08,some (.int Z00),none,none,none,none,none,none]from rfl]
  unfold xC at hq
  refine cz (Er:=Er) (i:=2) (σ':=fun p3=>[some Z08,some (.int Z00),some (.ref p3),none,none,none,none,none]) (fJ (R:=(isT3 K isS isS isS))) (fun p3 W1 e2 hp4 o5=>?_)
  have fr6:=aT E0.h hp4
  have E0:=E0.trans e2
  have Z03:=zk (R:=(isL (isT3 K isS isS isS))) e2.g Z03
  refine ap (Er:=Er) (i:=3) (R:=sh isI) (σ':=fun v9=>[some Z08,some (.int Z00),some (.ref p3),some v9,none,none,none,none]) ah (fun v9 W7 e8 h10=>?_)
  cases h10
  have E0:=E0.trans e8
  have Z03:=zk (R:=(isL (isT3 K isS isS isS))) e8.g Z03
  have o5:=o5.mono e8
  refine ap (Er:=Er) (i:=4) (R:=sh (isL isI)) (σ':=fun v14=>[some Z08,some (.int Z00),some (.ref p3),some (.int (0:Int)),some v14,none,none,none]) (Cj (dZ (aj (fun _=>⟨by decide,by decide⟩) (a8 (R:=sh isI) (a:=Z00) (v:=.int Z00) rfl)) (fK (CY (a8 (R:=sh (isL (isT3 K isS isS isS))) Z03))) ah)) ((zj hq).imp fun y13 hq v14 W11 e12 h15=>?_)
  have E0:=E0.trans e12
  have Z03:=zk (R:=(isL (isT3 K isS isS isS))) e12.g Z03
  have o5:=o5.mono e12
  refine dA (Er:=Er) (f:=wv) (s0:=((0:Int),([]:List (Tx×Tx×Tx)))) (Iv:=fun(s18:(Int×(List (Tx×Tx×Tx)))) (W19:Wd) (g20:St)=>∃(d22:Option V) (d23:Option V),g20=[some Z08,some (.int Z00),some (.ref p3),some (.int s18.1),some v14,d22,d23,none]∧Ext W0 W19∧Ow (isT3 K isS isS isS) W19 p3 s18.2) (ko (gS (a8 (R:=sh (isL (isT3 K isS isS isS))) Z03)) (gS (a8 (R:=sh (isL isI)) h15))) (zj hq) ?_ ?_ ?_
  ·intro W35 e36
   have E0:=E0.trans e36
   have Z03:=zk (R:=(isL (isT3 K isS isS isS))) e36.g Z03
   have o5:=o5.mono e36
   exact⟨_,_,rfl,E0,o5⟩
  ·intro Wb24 W25 W26 a16 v27 s17 sg28 P29 hW30 hB31 iv e32 h33 hq
   obtain⟨d22,d23,rfl,E0,o21⟩:=iv
   have Z03:=zk (R:=(isL (isT3 K isS isS isS))) hW30 Z03
   have E0:=E0.trans e32
   have hB31:=hB31.trans e32.g
   have Z03:=zk (R:=(isL (isT3 K isS isS isS))) e32.g Z03
   have o21:=o21.mono e32
   refine kq (σ':=fun v41 v43=>[some Z08,some (.int Z00),some (.ref p3),some (.int s17.1),some v14,some v41,some v43,none]) h33 fun v41 v43 h42 h44=>?_
   cases h44
   unfold wv at hq
   refine bK (Er:=Er) (Iv:=fun(s65:(Int×(Tx×Tx×Tx))) (W66:Wd) (g67:St)=>∃(v68:V),g67=[some Z08,some (.int Z00),some (.ref p3),some (.int s65.1),some v14,some v68,some (.int a16.2),none]∧Ext W0 W66∧(isT3 K isS isS isS) W66.G s65.2 v68∧Ow (isT3 K isS isS isS) W66 p3 s17.2) (gd (aH (cG (a8 (R:=sh isI) (a:=a16.2) (v:=.int a16.2) rfl) ah)) (aH (cu (a8 (R:=sh isI) (a:=s17.1) (v:=.int s17.1) rfl) ah))) (zj hq) ?_ ?_ ?_
   ·intro W46 N49 e47 hN50 hq
    have hs51:=e47.g
    have E0:=E0.trans e47
    have hB31:=hB31.trans e47.g
    have Z03:=zk (R:=(isL (isT3 K isS isS isS))) e47.g Z03
    have o21:=o21.mono e47
    have h42:=zk (R:=(isT3 K isS isS isS)) e47.g h42
    refine ap (Er:=Er) (i:=3) (R:=sh isI) (σ':=fun v54=>[some Z08,some (.int Z00),some (.ref p3),some v54,some v14,some v41,some (.int a16.2),none]) (aV (a8 (R:=sh isI) (a:=s17.1) (v:=.int s17.1) rfl) ah) (fun v54 W52 e53 h55=>?_)
    cases h55
    have E0:=E0.trans e53
    have hB31:=hB31.trans e53.g
    have hs51:=hs51.trans e53.g
    have Z03:=zk (R:=(isL (isT3 K isS isS isS))) e53.g Z03
    have o21:=o21.mono e53
    have h42:=zk (R:=(isT3 K isS isS isS)) e53.g h42
    refine cP (Er:=Er) (i:=5) (R:=sh (isT3 K isS isS isS)) (σ':=fun v58=>[some Z08,some (.int Z00),some (.ref p3),some (.int (s17.1+(1:Int))),some v14,some v58,some (.int a16.2),none]) (cO (K:=K) (bq (x:=zx "?") (l:=[63]) (gk _ _ (by decide +kernel))) (b9 (f:=fun(b:Tx×Tx×Tx)=>b.2.1) jm (a8 (R:=sh (isT3 K isS isS isS)) h42)) (bq (x:=zx "?") (l:=[63]) (gk _ _ (by decide +kernel)))) (fun v58 W56 e57 h59=>?_)
    have E0:=E0.trans e57
    have hB31:=hB31.trans e57.g
    have hs51:=hs51.trans e57.g
    have Z03:=zk (R:=(isL (isT3 K isS isS isS))) e57.g Z03
    have o21:=o21.mono e57
    exact hN50 ((s17.1+(1:Int)),(([63]:Tx),a16.1.2.1,([63]:Tx))) W56 _ hs51 ⟨_,rfl,E0,h59,o21⟩ hq
   ·intro W46 N49 e47 hN50 hq
    have hs60:=e47.g
    have E0:=E0.trans e47
    have hB31:=hB31.trans e47.g
    have Z03:=zk (R:=(isL (isT3 K isS isS isS))) e47.g Z03
    have o21:=o21.mono e47
    have h42:=zk (R:=(isT3 K isS isS isS)) e47.g h42
    try dsimp only[aF]
    exact hN50 (s17.1,a16.1) W46 _ hs60 ⟨_,rfl,E0,h42,o21⟩ hq
   ·intro s61 W62 sg63 hS64 iv hq
    obtain⟨v68,rfl,E0,h69,o70⟩:=iv
    have hB31:=hB31.trans hS64
    have Z03:=zk (R:=(isL (isT3 K isS isS isS))) hS64 Z03
    refine ft (Er:=Er) o70 (a8 (R:=sh (isT3 K isS isS isS)) h69) ((zj hq).imp fun y74 hq W71 mu72 o73=>?_)
    have E0:=mu72.e _ E0 fr6
    have hB31:=hB31.trans mu72.g
    have Z03:=zk (R:=(isL (isT3 K isS isS isS))) mu72.g Z03
    have h69:=zk (R:=(isT3 K isS isS isS)) mu72.g h69
    try dsimp only
    refine dB (W:=W71) (s61.1,y74) hB31 ?_ hq
    exact⟨_,_,rfl,E0,o73⟩
  ·intro s75 W76 sg77 hS78 iv hq
   obtain⟨d22,d23,rfl,E0,o21⟩:=iv
   have Z03:=zk (R:=(isL (isT3 K isS isS isS))) hS78 Z03
   refine bK (Er:=Er) (Iv:=fun(s105:(List (Tx×Tx×Tx))) (W106:Wd) (g107:St)=>∃(d109:Option V),g107=[some Z08,some (.int Z00),some (.ref p3),some (.int s75.1),some v14,d22,d23,d109]∧Ext W0 W106∧Ow (isT3 K isS isS isS) W106 p3 s105) (aH (cG (aj (fun _=>by decide) (a8 (R:=sh isI) (a:=Z00) (v:=.int Z00) rfl)) ah)) (zj hq) ?_ ?_ ?_
   ·intro W79 N82 e80 hN83 hq
    have hs84:=e80.g
    have E0:=E0.trans e80
    have Z03:=zk (R:=(isL (isT3 K isS isS isS))) e80.g Z03
    have o21:=o21.mono e80
    refine ap (Er:=Er) (i:=7) (R:=sh isI) (σ':=fun v88=>[some Z08,some (.int Z00),some (.ref p3),some (.int s75.1),some v14,d22,d23,some v88]) (gO (aj (fun _=>⟨by decide,by decide⟩) (a8 (R:=sh isI) (a:=Z00) (v:=.int Z00) rfl)) (fK (CY (a8 (R:=sh (isL (isT3 K isS isS isS))) Z03)))) ((zj hq).imp fun y87 hq v88 W85 e86 h89=>?_)
    cases h89
    have E0:=E0.trans e86
    have hs84:=hs84.trans e86.g
    have o21:=o21.mono e86
    refine i9 (Er:=Er) o21 (cO (K:=K) (b9 (f:=fun(b:Tx×Tx×Tx)=>b.1) lh (cv (cN o21) (a8 (R:=sh isI) (a:=y87) (v:=.int y87) rfl))) (b9 (f:=fun(b:Tx×Tx×Tx)=>b.2.1) jm (cv (cN o21) (a8 (R:=sh isI) (a:=y87) (v:=.int y87) rfl))) (bI (bq (x:=zx "szo") (l:=[115,122,111]) (gk _ _ (by decide +kernel))) (aj (fun _=>by decide) (aj (fun _=>⟨by decide,by decide⟩) (a8 (R:=sh isI) (a:=Z00) (v:=.int Z00) rfl))))) (a8 (R:=sh isI) (a:=y87) (v:=.int y87) rfl) ((zj hq).imp fun y99 hq W95 mu96 o97=>?_)
    have E0:=mu96.e _ E0 fr6
    have hs84:=hs84.trans mu96.g
    exact hN83 y99 W95 _ hs84 ⟨_,rfl,E0,o97⟩ hq
   ·intro W79 N82 e80 hN83 hq
    have hs100:=e80.g
    have E0:=E0.trans e80
    have Z03:=zk (R:=(isL (isT3 K isS isS isS))) e80.g Z03
    have o21:=o21.mono e80
    try dsimp only[aF]
    exact hN83 s75.2 W79 _ hs100 ⟨_,rfl,E0,o21⟩ hq
   ·intro s101 W102 sg103 hS104 iv hq
    obtain⟨d109,rfl,E0,o108⟩:=iv
    exact⟨.ref p3,rfl,hq p3 W102 E0 fr6 o108⟩
theorem yL {f:Addr} {fd:zY} (F:Fun K "_law_marks" "_law_marks" (tp 37) f fd) {gF:Int→Int→Int→Res (List Int)} (Z0t:Cal P w K mg base "_law_row" ["_law_cell","_law_many","_law_base"] (1) (dj isI isI isI (ro isI) gF)) (h_int:mg "int" =none) (h_len:mg "len" =none) (h_tuple:mg "tuple" =none) (h_zip:mg "zip" =none):FnOk P w K mg base CX0 (2) f fd ["_law_places_here","_law_cell","_law_lies"] (dj (isL (isT3 K isS isS isS)) isI isB (ro (isT3 K isS isS isS)) (xD gF)):=by
 have SC:FnScope ["_law_places_here","_law_cell","_law_lies","_law_out","_law_draws","_law_place","_law_d","_law_mark","_law_letters"] ["_law_places_here","_law_cell","_law_lies"] (defScope (tp 37)):=⟨rfl,rfl,rfl,by decide +kernel,rfl,by decide +kernel,by decide +kernel⟩
 refine F.ok SC (fun vs H Q E h=>?_) (fun cdv A outer s H vs Q E hr h=>?_)
 ·obtain⟨_,_,_,_,_,_,_,_,rfl,_⟩:=h;rfl
 ·obtain⟨W0,Z0n,Z00,Z0u,Z08,_,_,rfl,rfl,Z03,Z0y,Zba,Er,hq⟩:=h
  cases Z0y
  cases Zba
  refine⟨_,(af (ao (i:=3) SC.nd rfl (by first | exact zH rfl | exact zG rfl) (bP ae))
   (af (ao (i:=4) SC.nd rfl (by first | exact zH rfl | exact zG rfl) (ak Z0t (hr.mono (by decide)) (by rfl) (a5 (ai aZ (pv 1) aa) (a5 (aK (bZ (K:=K) rfl) (by rfl) h_len PySem.boot_len (a5 (pv 0) ae)) (a5 (ai bn aa (ai eH aa (fG oR (by rfl) h_int D5 (a5 (pv 2) ae)))) ae)))))
   (af (du AI rfl (gl (K:=K) rfl rfl h_zip (a5 (pv 0) (a5 (pv 4) ae))) (cq (K:=K) (n:=2) rfl rfl (aB (aq (i:=5) SC.nd rfl (by first | exact zH rfl | exact zG rfl)) (aB (aq (i:=6) SC.nd rfl (by first | exact zH rfl | exact zG rfl)) cm))) (af (br (ay bT (ai aD (pv 1) aa) aa (ax _)) (ag (ao (i:=6) SC.nd rfl (by first | exact zH rfl | exact zG rfl) (ai eH (ai aZ (pv 6) aa) aa))) aL)
   (af (br (ay bT (ai aD (pv 1) aa) aa (ax _)) (ag (ao (i:=6) SC.nd rfl (by first | exact zH rfl | exact zG rfl) (ai bn (ai eH (ai aZ (pv 6) aa) aa) aa))) aL)
   (af (ao (i:=7) SC.nd rfl (by first | exact zH rfl | exact zG rfl) (bP (a5 (az (aP (K:=K) rfl) (pv 5) aa (fun _ _=>rfl)) (a5 (az (aP (K:=K) rfl) (pv 5) aa (fun _ _=>rfl)) (a5 (az (aP (K:=K) rfl) (pv 5) aa (fun _ _=>rfl)) ae)))))
   (af (br (FI (eE (ay nE (pv 6) aa (ax _)) (di (ay jq (ai aD (pv 6) aa) aa (ax _))))) (af (ao (i:=8) SC.nd rfl (by first | exact zH rfl | exact zG rfl) bm)
   (ag (dP (az bG (pv 8) (ai bn (eu (K:=K) rfl rfl (pv 8) (a5 (az (bi (K:=K) rfl) (pv 7) (ai aD (pv 6) aa) (fun _ _=>rfl)) ae)) aa) (fun _ _=>rfl)) (jN (pv 7) (ai aD (pv 6) aa) gj)))) aL)
   (af (br (FI (eE (ay nE (pv 6) aa (ax _)) (di (ay bT (ai aD (pv 6) aa) aa (ax _))))) (ag (dP (az bG bm (eu (K:=K) rfl rfl bm (a5 (az (bi (K:=K) rfl) (pv 7) aa (fun _ _=>rfl)) ae)) (fun _ _=>rfl)) (jN (pv 7) aa gj))) aL)
   (ag (dE (cw (K:=K) rfl (pv 3) (a5 (fG (fu (K:=K) rfl) (by rfl) h_tuple C5 (a5 (eL (N:=["_law_sign","_law_part","_law_d"]) (cap:=[none,none,some 6]) (i6 rfl (by decide +kernel) rfl (by decide +kernel) (by rfl) (by rfl)) rfl (gl (K:=K) rfl rfl h_zip (a5 (pv 7) (a5 (bP (a5 aa (a5 aa (a5 aa ae)))) ae))) (fun _ _ _ _=>(cq (K:=K) (n:=2) rfl rfl (aB (aq (i:=0) (show AU (["_law_sign","_law_part","_law_d"]:List Str) by decide +kernel) rfl (by first | exact zH rfl | exact zG rfl)) (aB (aq (i:=1) (show AU (["_law_sign","_law_part","_law_d"]:List Str) by decide +kernel) rfl (by first | exact zH rfl | exact zG rfl)) cm)))) (fun _ _ _ _=>cD) (fun _ _ _ _=>(fb (ay bT (ai aD (ai aZ (pv 2) (pv 1)) aa) aa (ax _)) (pv 0) bm))) ae)) ae))))))))))
   (ag (au (pv 3)))))),?_⟩
  have E0:Ext W0 W0:=.refl W0
  rw[show L2.start ["_law_places_here","_law_cell","_law_lies","_law_out","_law_draws","_law_place","_law_d","_law_mark","_law_letters"] [Z08,.int Z00,.bl Z0u]=[some Z08,some (.int Z00),some (.bl Z0u),none,none,none,none,none,none]from rfl]
  unfold xD at hq
  refine cz (Er:=Er) (i:=3) (σ':=fun p3=>[some Z08,some (.int Z00),some (.bl Z0u),some (.ref p3),none,none,none,none,none]) (fJ (R:=(isT3 K isS isS isS))) (fun p3 W1 e2 hp4 o5=>?_)
  have fr6:=aT E0.h hp4
  have E0:=E0.trans e2
  have Z03:=zk (R:=(isL (isT3 K isS isS isS))) e2.g Z03
  refine ap (Er:=Er) (i:=4) (R:=sh (isL isI)) (σ':=fun v12=>[some Z08,some (.int Z00),some (.bl Z0u),some (.ref p3),some v12,none,none,none,none]) (Cj (dZ (aj (fun _=>⟨by decide,by decide⟩) (a8 (R:=sh isI) (a:=Z00) (v:=.int Z00) rfl)) (fK (CY (a8 (R:=sh (isL (isT3 K isS isS isS))) Z03))) (aV ah (jZ ah (tN (a8 (R:=sh isB) (a:=Z0u) (v:=.bl Z0u) rfl)))))) ((zj hq).imp fun y11 hq v12 W7 e8 h13=>?_)
  have E0:=E0.trans e8
  have Z03:=zk (R:=(isL (isT3 K isS isS isS))) e8.g Z03
  have o5:=o5.mono e8
  refine dA (Er:=Er) (f:=(ww Z00)) (s0:=([]:List (Tx×Tx×Tx))) (Iv:=fun(s16:(List (Tx×Tx×Tx))) (W17:Wd) (g18:St)=>∃(d20:Option V) (d21:Option V) (d22:Option V) (d23:Option V),g18=[some Z08,some (.int Z00),some (.bl Z0u),some (.ref p3),some v12,d23,d20,d21,d22]∧Ext W0 W17∧Ow (isT3 K isS isS isS) W17 p3 s16) (ko (gS (a8 (R:=sh (isL (isT3 K isS isS isS))) Z03)) (gS (a8 (R:=sh (isL isI)) h13))) (zj hq) ?_ ?_ ?_
  ·intro W35 e36
   have E0:=E0.trans e36
   have o5:=o5.mono e36
   exact⟨_,_,_,_,rfl,E0,o5⟩
  ·intro Wb24 W25 W26 a14 v27 s15 sg28 P29 hW30 hB31 iv e32 h33 hq
   obtain⟨d20,d21,d22,d23,rfl,E0,o19⟩:=iv
   have E0:=E0.trans e32
   have hB31:=hB31.trans e32.g
   have o19:=o19.mono e32
   refine kq (σ':=fun v41 v43=>[some Z08,some (.int Z00),some (.bl Z0u),some (.ref p3),some v12,some v41,some v43,d21,d22]) h33 fun v41 v43 h42 h44=>?_
   cases h44
   unfold ww at hq
   refine bK (Er:=Er) (Iv:=fun(s60:Int) (W61:Wd) (g62:St)=>g62=[some Z08,some (.int Z00),some (.bl Z0u),some (.ref p3),some v12,some v41,some (.int s60),d21,d22]∧Ext W0 W61∧Ow (isT3 K isS isS isS) W61 p3 s15) (aH (cG (aj (fun _=>by decide) (a8 (R:=sh isI) (a:=Z00) (v:=.int Z00) rfl)) ah)) (zj hq) ?_ ?_ ?_
   ·intro W45 N48 e46 hN49 hq
    have hs50:=e46.g
    have E0:=E0.trans e46
    have hB31:=hB31.trans e46.g
    have o19:=o19.mono e46
    have h42:=zk (R:=(isT3 K isS isS isS)) e46.g h42
    refine cP (Er:=Er) (i:=6) (R:=sh isI) (σ':=fun v53=>[some Z08,some (.int Z00),some (.bl Z0u),some (.ref p3),some v12,some v41,some v53,d21,d22]) (aj (fun _=>.inr ⟨by decide,by decide⟩) (aj (fun _=>⟨by decide,by decide⟩) (a8 (R:=sh isI) (a:=a14.2) (v:=.int a14.2) rfl))) (fun v53 W51 e52 h54=>?_)
    cases h54
    have E0:=E0.trans e52
    have hB31:=hB31.trans e52.g
    have hs50:=hs50.trans e52.g
    have o19:=o19.mono e52
    have h42:=zk (R:=(isT3 K isS isS isS)) e52.g h42
    exact hN49 ((a14.2/ 8)*8) W51 _ hs50 ⟨rfl,E0,o19⟩ hq
   ·intro W45 N48 e46 hN49 hq
    have hs55:=e46.g
    have E0:=E0.trans e46
    have hB31:=hB31.trans e46.g
    have o19:=o19.mono e46
    have h42:=zk (R:=(isT3 K isS isS isS)) e46.g h42
    try dsimp only[aF]
    exact hN49 a14.2 W45 _ hs55 ⟨rfl,E0,o19⟩ hq
   ·intro s56 W57 sg58 hS59 iv hq
    obtain⟨rfl,E0,o63⟩:=iv
    have hB31:=hB31.trans hS59
    have h42:=zk (R:=(isT3 K isS isS isS)) hS59 h42
    refine bK (Er:=Er) (Iv:=fun(s79:Int) (W80:Wd) (g81:St)=>g81=[some Z08,some (.int Z00),some (.bl Z0u),some (.ref p3),some v12,some v41,some (.int s79),d21,d22]∧Ext W0 W80∧Ow (isT3 K isS isS isS) W80 p3 s15) (aH (cG (aj (fun _=>by decide) (a8 (R:=sh isI) (a:=Z00) (v:=.int Z00) rfl)) ah)) (zj hq) ?_ ?_ ?_
    ·intro W64 N67 e65 hN68 hq
     have hs69:=e65.g
     have E0:=E0.trans e65
     have hB31:=hB31.trans e65.g
     have o63:=o63.mono e65
     have h42:=zk (R:=(isT3 K isS isS isS)) e65.g h42
     refine cP (Er:=Er) (i:=6) (R:=sh isI) (σ':=fun v72=>[some Z08,some (.int Z00),some (.bl Z0u),some (.ref p3),some v12,some v41,some v72,d21,d22]) (aV (aj (fun _=>.inr ⟨by decide,by decide⟩) (aj (fun _=>⟨by decide,by decide⟩) (a8 (R:=sh isI) (a:=s56) (v:=.int s56) rfl))) ah) (fun v72 W70 e71 h73=>?_)
     cases h73
     have E0:=E0.trans e71
     have hB31:=hB31.trans e71.g
     have hs69:=hs69.trans e71.g
     have o63:=o63.mono e71
     have h42:=zk (R:=(isT3 K isS isS isS)) e71.g h42
     exact hN68 (((s56/ 8)*8)+(7:Int)) W70 _ hs69 ⟨rfl,E0,o63⟩ hq
    ·intro W64 N67 e65 hN68 hq
     have hs74:=e65.g
     have E0:=E0.trans e65
     have hB31:=hB31.trans e65.g
     have o63:=o63.mono e65
     have h42:=zk (R:=(isT3 K isS isS isS)) e65.g h42
     try dsimp only[aF]
     exact hN68 s56 W64 _ hs74 ⟨rfl,E0,o63⟩ hq
    ·intro s75 W76 sg77 hS78 iv hq
     obtain⟨rfl,E0,o82⟩:=iv
     have hB31:=hB31.trans hS78
     have h42:=zk (R:=(isT3 K isS isS isS)) hS78 h42
     refine cz (Er:=Er) (i:=7) (σ':=fun p85=>[some Z08,some (.int Z00),some (.bl Z0u),some (.ref p3),some v12,some v41,some (.int s75),some (.ref p85),d22]) (fo (bB (b9 (f:=fun(b:Tx×Tx×Tx)=>b.1) lh (a8 (R:=sh (isT3 K isS isS isS)) h42)) (bB (b9 (f:=fun(b:Tx×Tx×Tx)=>b.2.1) jm (a8 (R:=sh (isT3 K isS isS isS)) h42)) (bB (b9 (f:=fun(b:Tx×Tx×Tx)=>b.2.2) k6 (a8 (R:=sh (isT3 K isS isS isS)) h42)) (fk (R:=isS)))))) (fun p85 W83 e84 hp86 o87=>?_)
     have ne88:=o82.ne hp86
     have fr89:=aT E0.h hp86
     have E0:=E0.trans e84
     have hB31:=hB31.trans e84.g
     have o82:=o82.mono e84
     have h42:=zk (R:=(isT3 K isS isS isS)) e84.g h42
     refine bK (Er:=Er) (Iv:=fun(s114:(List Tx)) (W115:Wd) (g116:St)=>∃(d118:Option V),g116=[some Z08,some (.int Z00),some (.bl Z0u),some (.ref p3),some v12,some v41,some (.int s75),some (.ref p85),d118]∧Ext W0 W115∧Ow isS W115 p85 s114∧Ow (isT3 K isS isS isS) W115 p3 s15) (gd (aH (cu (a8 (R:=sh isI) (a:=s75) (v:=.int s75) rfl) ah)) (aH (cu (aj (fun _=>by decide) (a8 (R:=sh isI) (a:=s75) (v:=.int s75) rfl)) ah))) (zj hq) ?_ ?_ ?_
     ·intro W91 N94 e92 hN95 hq
      have hs96:=e92.g
      have E0:=E0.trans e92
      have hB31:=hB31.trans e92.g
      have o82:=o82.mono e92
      have h42:=zk (R:=(isT3 K isS isS isS)) e92.g h42
      have o87:=o87.mono e92
      refine ap (Er:=Er) (i:=8) (R:=sh isS) (σ':=fun v99=>[some Z08,some (.int Z00),some (.bl Z0u),some (.ref p3),some v12,some v41,some (.int s75),some (.ref p85),some v99]) (bq (x:=zx "abcdefghijklmnopqrstuvwxyza") (l:=[97,98,99,100,101,102,103,104,105,106,107,108,109,110,111,112,113,114,115,116,117,118,119,120,121,122,97]) (gk _ _ (by decide +kernel))) (fun v99 W97 e98 h100=>?_)
      cases h100
      have E0:=E0.trans e98
      have hB31:=hB31.trans e98.g
      have hs96:=hs96.trans e98.g
      have o82:=o82.mono e98
      have h42:=zk (R:=(isT3 K isS isS isS)) e98.g h42
      have o87:=o87.mono e98
      refine i9 (Er:=Er) o87 (bI (a8 (R:=sh isS) (a:=([97,98,99,100,101,102,103,104,105,106,107,108,109,110,111,112,113,114,115,116,117,118,119,120,121,122,97]:Tx)) (v:=.str (ar ([97,98,99,100,101,102,103,104,105,106,107,108,109,110,111,112,113,114,115,116,117,118,119,120,121,122,97]:Tx))) rfl) (aV (gq (a8 (R:=sh isS) (a:=([97,98,99,100,101,102,103,104,105,106,107,108,109,110,111,112,113,114,115,116,117,118,119,120,121,122,97]:Tx)) (v:=.str (ar ([97,98,99,100,101,102,103,104,105,106,107,108,109,110,111,112,113,114,115,116,117,118,119,120,121,122,97]:Tx))) rfl) (cv (cN o87) (aj (fun _=>by decide) (a8 (R:=sh isI) (a:=s75) (v:=.int s75) rfl)))) ah)) (aj (fun _=>by decide) (a8 (R:=sh isI) (a:=s75) (v:=.int s75) rfl)) ((zj hq).imp fun y108 hq W104 mu105 o106=>?_)
      have E0:=mu105.e _ E0 fr89
      have hB31:=hB31.trans mu105.g
      have hs96:=hs96.trans mu105.g
      have o82:=mu105.ow ne88 o82
      have h42:=zk (R:=(isT3 K isS isS isS)) mu105.g h42
      exact hN95 y108 W104 _ hs96 ⟨_,rfl,E0,o106,o82⟩ hq
     ·intro W91 N94 e92 hN95 hq
      have hs109:=e92.g
      have E0:=E0.trans e92
      have hB31:=hB31.trans e92.g
      have o82:=o82.mono e92
      have h42:=zk (R:=(isT3 K isS isS isS)) e92.g h42
      have o87:=o87.mono e92
      try dsimp only[aF]
      exact hN95 [a14.1.1,a14.1.2.1,a14.1.2.2] W91 _ hs109 ⟨_,rfl,E0,o87,o82⟩ hq
     ·intro s110 W111 sg112 hS113 iv hq
      obtain⟨d118,rfl,E0,o117,o119⟩:=iv
      have hB31:=hB31.trans hS113
      have h42:=zk (R:=(isT3 K isS isS isS)) hS113 h42
      refine bK (Er:=Er) (Iv:=fun(s139:(List Tx)) (W140:Wd) (g141:St)=>g141=[some Z08,some (.int Z00),some (.bl Z0u),some (.ref p3),some v12,some v41,some (.int s75),some (.ref p85),d118]∧Ext W0 W140∧Ow isS W140 p85 s139∧Ow (isT3 K isS isS isS) W140 p3 s15) (gd (aH (cu (a8 (R:=sh isI) (a:=s75) (v:=.int s75) rfl) ah)) (aH (cG (aj (fun _=>by decide) (a8 (R:=sh isI) (a:=s75) (v:=.int s75) rfl)) ah))) (zj hq) ?_ ?_ ?_
      ·intro W121 N124 e122 hN125 hq
       have hs126:=e122.g
       have E0:=E0.trans e122
       have hB31:=hB31.trans e122.g
       have o119:=o119.mono e122
       have h42:=zk (R:=(isT3 K isS isS isS)) e122.g h42
       have o117:=o117.mono e122
       refine i9 (Er:=Er) o117 (bI (bq (x:=zx "zos") (l:=[122,111,115]) (gk _ _ (by decide +kernel))) (gq (bq (x:=zx "szo") (l:=[115,122,111]) (gk _ _ (by decide +kernel))) (cv (cN o117) ah))) ah ((zj hq).imp fun y133 hq W129 mu130 o131=>?_)
       have E0:=mu130.e _ E0 fr89
       have hB31:=hB31.trans mu130.g
       have hs126:=hs126.trans mu130.g
       have o119:=mu130.ow ne88 o119
       have h42:=zk (R:=(isT3 K isS isS isS)) mu130.g h42
       exact hN125 y133 W129 _ hs126 ⟨rfl,E0,o131,o119⟩ hq
      ·intro W121 N124 e122 hN125 hq
       have hs134:=e122.g
       have E0:=E0.trans e122
       have hB31:=hB31.trans e122.g
       have o119:=o119.mono e122
       have h42:=zk (R:=(isT3 K isS isS isS)) e122.g h42
       have o117:=o117.mono e122
       try dsimp only[aF]
       exact hN125 s110 W121 _ hs134 ⟨rfl,E0,o117,o119⟩ hq
      ·intro s135 W136 sg137 hS138 iv hq
       obtain⟨rfl,E0,o142,o143⟩:=iv
       have hB31:=hB31.trans hS138
       have h42:=zk (R:=(isT3 K isS isS isS)) hS138 h42
       obtain⟨W144,hH145,E0,hS146,h148,hk147⟩:=o142.frz E0 fr89
       rw[←hH145]
       have hB31:=hB31.trans hS146
       have o143:=o143.keep (by rw[hH145]) hS146 (hk147 _ ne88)
       have h42:=zk (R:=(isT3 K isS isS isS)) hS146 h42
       refine ft (Er:=Er) o143 (ll (CW (eM (f:=fun(a149:Tx×Int)=>(((hV s75 a149.2).bind fun y158=>zt (y158% 2)).bind fun y159=>zt (decide (y159=(1:Int)))).bind fun y160=>if y160 then zt a149.1 else zt ([63]:Tx)) (ko (gS (a8 (R:=sh (isL isS)) h148)) (gS (Cj (fo (bB ah (bB ah (bB ah (fk (R:=isI))))))))) fun W151 a149 v150 e152 h153 Q161 k162=>by
        refine kq h153 fun v154 v156 h155 h157=>?_
        cases h155
        cases h157
        exact⟨by simp[Keep,bh],((ld (aH (cG (aj (fun _=>by decide) (nO (a8 (R:=sh isI) (a:=s75) (v:=.int s75) rfl) (a8 (R:=sh isI) (a:=a149.2) (v:=.int a149.2) rfl))) ah)) (a8 (R:=sh isS) (a:=a149.1) (v:=.str (ar a149.1)) rfl) (bq (x:=zx "?") (l:=[63]) (gk _ _ (by decide +kernel)))):EV Er _ [some (.str (ar a149.1)),some (.int a149.2),some (.int s75)] _ _ _) _ (.refl _) _ k162⟩))) ((zj hq).imp fun y167 hq W164 mu165 o166=>?_)
       have E0:=mu165.e _ E0 fr6
       have hB31:=hB31.trans mu165.g
       have h42:=zk (R:=(isT3 K isS isS isS)) mu165.g h42
       have h148:=zk (R:=(isL isS)) mu165.g h148
       try dsimp only
       refine dB (W:=W164) y167 hB31 ?_ hq
       exact⟨_,_,_,_,rfl,E0,o166⟩
  ·intro s169 W170 sg171 hS172 iv hq
   obtain⟨d20,d21,d22,d23,rfl,E0,o19⟩:=iv
   exact⟨.ref p3,rfl,hq p3 W170 E0 fr6 o19⟩
theorem yM {f:Addr} {fd:zY} (F:Fun K "_law_turnover" "_law_turnover" (tp 39) f fd):FnOk P w K mg base CX0 (1) f fd ["_law_card_here"] (cU (isT3 K isS isS isI) (rs (isT3 K isS isS isI)) (xE)):=by
 have SC:FnScope ["_law_card_here","_law_holes_here"] ["_law_card_here"] (defScope (tp 39)):=⟨rfl,rfl,rfl,by decide +kernel,rfl,by decide +kernel,by decide +kernel⟩
 refine F.ok SC (fun vs H Q E h=>?_) (fun cdv A outer s H vs Q E hr h=>?_)
 ·obtain⟨_,_,_,_,rfl,_⟩:=h;rfl
 ·obtain⟨W0,Z02,Z0a,rfl,rfl,Z06,Er,hq⟩:=h
  refine⟨_,(af (ao (i:=1) SC.nd rfl (by first | exact zH rfl | exact zG rfl) (az (aP (K:=K) rfl) (pv 0) aa (fun _ _=>rfl)))
   (ag (au (cE (a5 (az bG bm (eu (K:=K) rfl rfl bm (a5 (az (aP (K:=K) rfl) (pv 0) aa (fun _ _=>rfl)) ae)) (fun _ _=>rfl)) (a5 (ai cW (ai cW (ai cW (az bG (pv 1) aa (fun _ _=>rfl)) (az bG (pv 1) aa (fun _ _=>rfl))) (az bG (pv 1) aa (fun _ _=>rfl))) (az bG (pv 1) aa (fun _ _=>rfl))) (a5 (ai aD (ai gJ aa (az (aP (K:=K) rfl) (pv 0) aa (fun _ _=>rfl))) aa) ae))))))),?_⟩
  have E0:Ext W0 W0:=.refl W0
  rw[show L2.start ["_law_card_here","_law_holes_here"] [Z0a]=[some Z0a,none]from rfl]
  unfold xE at hq
  refine ap (Er:=Er) (i:=1) (R:=sh isS) (σ':=fun v3=>[some Z0a,some v3]) (b9 (f:=fun(b:Tx×Tx×Int)=>b.2.1) jm (a8 (R:=sh (isT3 K isS isS isI)) Z06)) (fun v3 W1 e2 h4=>?_)
  cases h4
  have E0:=E0.trans e2
  have Z06:=zk (R:=(isT3 K isS isS isI)) e2.g Z06
  exact aR (Er:=Er) (R:=sh (isT3 K isS isS isI)) (cO (K:=K) (bI (bq (x:=zx "ZS") (l:=[90,83]) (gk _ _ (by decide +kernel))) (gq (bq (x:=zx "SZ") (l:=[83,90]) (gk _ _ (by decide +kernel))) (b9 (f:=fun(b:Tx×Tx×Int)=>b.1) lh (a8 (R:=sh (isT3 K isS isS isI)) Z06)))) (fI (fI (fI (bI (a8 (R:=sh isS) (a:=Z02.2.1) (v:=.str (ar Z02.2.1)) rfl) ah) (bI (a8 (R:=sh isS) (a:=Z02.2.1) (v:=.str (ar Z02.2.1)) rfl) ah)) (bI (a8 (R:=sh isS) (a:=Z02.2.1) (v:=.str (ar Z02.2.1)) rfl) ah)) (bI (a8 (R:=sh isS) (a:=Z02.2.1) (v:=.str (ar Z02.2.1)) rfl) ah)) (aj (fun _=>by decide) (aV ah (b9 (f:=fun(b:Tx×Tx×Int)=>b.2.2) k6 (a8 (R:=sh (isT3 K isS isS isI)) Z06))))) (A7 hq fun y14 hq v15 W16 e17 h18=>hq v15 W16 (E0.trans e17) h18)
theorem yN {f:Addr} {fd:zY} (F:Fun K "_law_back" "_law_back" (tp 40) f fd):FnOk P w K mg base CX0 (1) f fd ["_law_turns_here"] (cU isS (rs isS) (xF)):=by
 have SC:FnScope ["_law_turns_here"] ["_law_turns_here"] (defScope (tp 40)):=⟨rfl,rfl,rfl,by decide +kernel,rfl,by decide +kernel,by decide +kernel⟩
 refine F.ok SC (fun vs H Q E h=>?_) (fun cdv A outer s H vs Q E hr h=>?_)
 ·obtain⟨_,_,_,_,rfl,_⟩:=h;rfl
 ·obtain⟨W0,Z04,_,rfl,rfl,Z0z,Er,hq⟩:=h
  cases Z0z
  refine⟨_,(ag (au (iL (K:=K) rfl bm (a5 (eL (N:=["_law_turn"]) (cap:=[none]) (i6 rfl (by decide +kernel) rfl (by decide +kernel) (by rfl) (by rfl)) rfl (jU (pv 0)) (fun _ _ _ _=>(aq (i:=0) (show AU (["_law_turn"]:List Str) by decide +kernel) rfl (by first | exact zH rfl | exact zG rfl))) (fun _ _ _ _=>cD) (fun _ _ _ _=>(az bG bm (eu (K:=K) rfl rfl bm (a5 (pv 0) ae)) (fun _ _=>rfl)))) ae)))),?_⟩
  have E0:Ext W0 W0:=.refl W0
  rw[show L2.start ["_law_turns_here"] [.str (ar Z04)]=[some (.str (ar Z04))]from rfl]
  unfold xF at hq
  exact aR (Er:=Er) (R:=sh isS) (kf (gk _ _ (by decide +kernel)) (CW (eM (f:=fun(a1:Tx)=>(gM ([98,105,102]:Tx) a1).bind fun y8=>dX ([102,105,98]:Tx) y8) (kg (a8 (R:=sh isS) (a:=Z04) (v:=.str (ar Z04)) rfl)) fun W3 a1 v2 e4 h5 Q9 k10=>by
   cases h5
   refine gn ?_
   exact⟨by simp[Keep,bh],((bI (bq (x:=zx "fib") (l:=[102,105,98]) (gk _ _ (by decide +kernel))) (gq (bq (x:=zx "bif") (l:=[98,105,102]) (gk _ _ (by decide +kernel))) (a8 (R:=sh isS) (a:=a1) (v:=.str (ar a1)) rfl))):EV Er _ [some (.str (ar a1))] _ _ _) _ (.refl _) _ k10⟩))) (A7 hq fun y12 hq v13 W14 e15 h16=>hq v13 W14 (E0.trans e15) h16)
theorem yO {f:Addr} {fd:zY} (F:Fun K "_law_roll" "_law_roll" (tp 41) f fd) (h_range:mg "range" =none):FnOk P w K mg base CX0 (1) f fd ["_law_card_here","_law_many"] (bw (isT3 K isS isS isI) isI (rs (isT3 K isS isS isI)) (xG)):=by
 have SC:FnScope ["_law_card_here","_law_many","_law_holes_here"] ["_law_card_here","_law_many"] (defScope (tp 41)):=⟨rfl,rfl,rfl,by decide +kernel,rfl,by decide +kernel,by decide +kernel⟩
 refine F.ok SC (fun vs H Q E h=>?_) (fun cdv A outer s H vs Q E hr h=>?_)
 ·obtain⟨_,_,_,_,_,_,rfl,_⟩:=h;rfl
 ·obtain⟨W0,Z02,Z0c,Z0a,_,rfl,rfl,Z06,Z2C,Er,hq⟩:=h
  cases Z2C
  refine⟨_,(af (ao (i:=2) SC.nd rfl (by first | exact zH rfl | exact zG rfl) (iL (K:=K) rfl bm (a5 (eL (N:=["_law_k","_law_card_here","_law_many"]) (cap:=[none,some 0,some 1]) (i6 rfl (by decide +kernel) rfl (by decide +kernel) (by rfl) (by rfl)) rfl (gG rfl h_range (a5 aa ae)) (fun _ _ _ _=>(aq (i:=0) (show AU (["_law_k","_law_card_here","_law_many"]:List Str) by decide +kernel) rfl (by first | exact zH rfl | exact zG rfl))) (fun _ _ _ _=>cD) (fun _ _ _ _=>(az bG (az (aP (K:=K) rfl) (pv 1) aa (fun _ _=>rfl)) (ai aD (ai gJ (pv 0) (pv 2)) aa) (fun _ _=>rfl)))) ae)))
   (ag (au (cE (a5 (az (aP (K:=K) rfl) (pv 0) aa (fun _ _=>rfl)) (a5 (pv 2) (a5 (ai aD (ai bn (az (aP (K:=K) rfl) (pv 0) aa (fun _ _=>rfl)) (pv 1)) aa) ae))))))),?_⟩
  have E0:Ext W0 W0:=.refl W0
  rw[show L2.start ["_law_card_here","_law_many","_law_holes_here"] [Z0a,.int Z0c]=[some Z0a,some (.int Z0c),none]from rfl]
  unfold xG at hq
  refine ap (Er:=Er) (i:=2) (R:=sh isS) (σ':=fun v16=>[some Z0a,some (.int Z0c),some v16]) (kf (gk _ _ (by decide +kernel)) (CW (eM (f:=fun(a3:Int)=>dX Z02.2.1 ((a3- Z0c)% 4)) (iJ ah) fun W5 a3 v4 e6 h7 Q11 k12=>by
   have h8:=Am (R:=sh (isT3 K isS isS isI)) e6 Z06
   cases h7
   refine gn ?_
   exact⟨by simp[Keep,bh],((bI (b9 (f:=fun(b:Tx×Tx×Int)=>b.2.1) jm (a8 (R:=sh (isT3 K isS isS isI)) h8)) (aj (fun _=>by decide) (aV (a8 (R:=sh isI) (a:=a3) (v:=.int a3) rfl) (a8 (R:=sh isI) (a:=Z0c) (v:=.int Z0c) rfl)))):EV Er _ [some (.int a3),some Z0a,some (.int Z0c)] _ _ _) _ (.refl _) _ k12⟩))) ((zj hq).imp fun y15 hq v16 W1 e2 h17=>?_)
  cases h17
  have E0:=E0.trans e2
  have Z06:=zk (R:=(isT3 K isS isS isI)) e2.g Z06
  exact aR (Er:=Er) (R:=sh (isT3 K isS isS isI)) (cO (K:=K) (b9 (f:=fun(b:Tx×Tx×Int)=>b.1) lh (a8 (R:=sh (isT3 K isS isS isI)) Z06)) (a8 (R:=sh isS) (a:=y15) (v:=.str (ar y15)) rfl) (aj (fun _=>by decide) (aV (b9 (f:=fun(b:Tx×Tx×Int)=>b.2.2) k6 (a8 (R:=sh (isT3 K isS isS isI)) Z06)) (a8 (R:=sh isI) (a:=Z0c) (v:=.int Z0c) rfl)))) (fun v18 W19 e20 h21=>hq v18 W19 (E0.trans e20) h21)
theorem yP {f:Addr} {fd:zY} (F:Fun K "_law_seen" "_law_seen" (tp 42) f fd) {im:(Tx×Tx×Int)→Tx→Res (Tx×Tx×Int)} (Z0J:Cal P w K mg base "_law_behind" ["_law_card_here","_law_turn"] (2) (bw (isT3 K isS isS isI) isS (rs (isT3 K isS isS isI)) im)) (h_sorted:mg "sorted" =none):FnOk P w K mg base CX0 (3) f fd ["_law_card_here","_law_turns_here"] (bw (isT3 K isS isS isI) isS (ro isI) (xH im)):=by
 have SC:FnScope ["_law_card_here","_law_turns_here","_law_out","_law_turn","_law_hole"] ["_law_card_here","_law_turns_here"] (defScope (tp 42)):=⟨rfl,rfl,rfl,by decide +kernel,rfl,by decide +kernel,by decide +kernel⟩
 refine F.ok SC (fun vs H Q E h=>?_) (fun cdv A outer s H vs Q E hr h=>?_)
 ·obtain⟨_,_,_,_,_,_,rfl,_⟩:=h;rfl
 ·obtain⟨W0,Z02,Z04,Z0a,_,rfl,rfl,Z06,Z0z,Er,hq⟩:=h
  cases Z0z
  refine⟨_,(af (ao (i:=2) SC.nd rfl (by first | exact zH rfl | exact zG rfl) (bP ae))
   (af (du AI rfl (jU (pv 1)) (aq (i:=3) SC.nd rfl (by first | exact zH rfl | exact zG rfl)) (af (ao (i:=0) SC.nd rfl (by first | exact zH rfl | exact zG rfl) (ak Z0J (hr.mono (by decide)) (by rfl) (a5 (pv 0) (a5 (pv 3) ae))))
   (ag (du AI rfl (cC (K:=K) rfl (bP (a5 (az (aP (K:=K) rfl) (pv 0) aa (fun _ _=>rfl)) (a5 (ai aD (ai bn (az (aP (K:=K) rfl) (pv 0) aa (fun _ _=>rfl)) aa) aa) ae)))) (aq (i:=4) SC.nd rfl (by first | exact zH rfl | exact zG rfl)) (ag (br (ay (fU (K:=K) rfl) (pv 4) (pv 2) (by with_unfolding_all rfl)) (ag (dE (cw (K:=K) rfl (pv 2) (a5 (pv 4) ae)))) aL))))))
   (ag (au (aK (jY (K:=K) rfl) (by rfl) h_sorted Ed (a5 (pv 2) ae)))))),?_⟩
  have E0:Ext W0 W0:=.refl W0
  rw[show L2.start ["_law_card_here","_law_turns_here","_law_out","_law_turn","_law_hole"] [Z0a,.str (ar Z04)]=[some Z0a,some (.str (ar Z04)),none,none,none]from rfl]
  unfold xH at hq
  refine cz (Er:=Er) (i:=2) (σ':=fun p3=>[some Z0a,some (.str (ar Z04)),some (.ref p3),none,none]) (fJ (R:=isI)) (fun p3 W1 e2 hp4 o5=>?_)
  have fr6:=aT E0.h hp4
  have E0:=E0.trans e2
  have Z06:=zk (R:=(isT3 K isS isS isI)) e2.g Z06
  refine dA (Er:=Er) (f:=(xg im)) (s0:=(Z02,([]:List Int))) (Iv:=fun(s9:((Tx×Tx×Int)×(List Int))) (W10:Wd) (g11:St)=>∃(v12:V) (d15:Option V) (d16:Option V),g11=[some v12,some (.str (ar Z04)),some (.ref p3),d16,d15]∧Ext W0 W10∧(isT3 K isS isS isI) W10.G s9.1 v12∧Ow isI W10 p3 s9.2) (kg (a8 (R:=sh isS) (a:=Z04) (v:=.str (ar Z04)) rfl)) (zj hq) ?_ ?_ ?_
  ·intro W28 e29
   have E0:=E0.trans e29
   have Z06:=zk (R:=(isT3 K isS isS isI)) e29.g Z06
   have o5:=o5.mono e29
   exact⟨_,_,_,rfl,E0,Z06,o5⟩
  ·intro Wb17 W18 W19 a7 v20 s8 sg21 P22 hW23 hB24 iv e25 h26 hq
   obtain⟨v12,d15,d16,rfl,E0,h13,o14⟩:=iv
   have E0:=E0.trans e25
   have hB24:=hB24.trans e25.g
   have o14:=o14.mono e25
   have h13:=zk (R:=(isT3 K isS isS isI)) e25.g h13
   cases h26
   refine gn (σ':=[some v12,some (.str (ar Z04)),some (.ref p3),some (.str (ar a7)),d15]) ?_
   unfold xg at hq
   refine ap (Er:=Er) (i:=0) (R:=sh (isT3 K isS isS isI)) (σ':=fun v35=>[some v35,some (.str (ar Z04)),some (.ref p3),some (.str (ar a7)),d15]) (aW (a8 (R:=sh (isT3 K isS isS isI)) h13) (a8 (R:=sh isS) (a:=a7) (v:=.str (ar a7)) rfl)) ((zj hq).imp fun y34 hq v35 W32 e33 h36=>?_)
   have E0:=E0.trans e33
   have hB24:=hB24.trans e33.g
   have o14:=o14.mono e33
   refine mL (Er:=Er) (f:=wx) (s0:=s8.2) (Iv:=fun(s39:(List Int)) (W40:Wd) (g41:St)=>∃(d43:Option V),g41=[some v35,some (.str (ar Z04)),some (.ref p3),some (.str (ar a7)),d43]∧Ext W0 W40∧Ow isI W40 p3 s39) (d5 (Cj (fo (bB (b9 (f:=fun(b:Tx×Tx×Int)=>b.2.2) k6 (a8 (R:=sh (isT3 K isS isS isI)) h36)) (bB (aj (fun _=>by decide) (aV (b9 (f:=fun(b:Tx×Tx×Int)=>b.2.2) k6 (a8 (R:=sh (isT3 K isS isS isI)) h36)) ah)) (fk (R:=isI))))))) (zj hq) ?_ ?_ ?_
   ·intro W55 e56
    have E0:=E0.trans e56
    have hB24:=hB24.trans e56.g
    have o14:=o14.mono e56
    have h36:=zk (R:=(isT3 K isS isS isI)) e56.g h36
    exact⟨_,rfl,E0,o14⟩
   ·intro Wb44 W45 W46 a37 v47 s38 sg48 P49 hW50 hB51 iv e52 h53 hq
    obtain⟨d43,rfl,E0,o42⟩:=iv
    have hB24:=hB24.trans hW50
    have h36:=zk (R:=(isT3 K isS isS isI)) hW50 h36
    have E0:=E0.trans e52
    have hB24:=hB24.trans e52.g
    have hB51:=hB51.trans e52.g
    have o42:=o42.mono e52
    have h36:=zk (R:=(isT3 K isS isS isI)) e52.g h36
    cases h53
    refine gn (σ':=[some v35,some (.str (ar Z04)),some (.ref p3),some (.str (ar a7)),some (.int a37)]) ?_
    unfold wx at hq
    refine kt (Er:=Er) (Iv:=fun(s74:(List Int)) (W75:Wd) (g76:St)=>g76=[some v35,some (.str (ar Z04)),some (.ref p3),some (.str (ar a7)),some (.int a37)]∧Ext W0 W75∧Ow isI W75 p3 s74) (aH (iK (a8 (R:=sh isI) (a:=a37) (v:=.int a37) rfl) (cN o42))) (zj hq) ?_ ?_ ?_
    ·intro W59 N62 e60 hN63 hq
     have hs64:=e60.g
     have E0:=E0.trans e60
     have hB24:=hB24.trans e60.g
     have hB51:=hB51.trans e60.g
     have o42:=o42.mono e60
     have h36:=zk (R:=(isT3 K isS isS isI)) e60.g h36
     refine ft (Er:=Er) o42 (a8 (R:=sh isI) (a:=a37) (v:=.int a37) rfl) ((zj hq).imp fun y68 hq W65 mu66 o67=>?_)
     have E0:=mu66.e _ E0 fr6
     have hB24:=hB24.trans mu66.g
     have hB51:=hB51.trans mu66.g
     have hs64:=hs64.trans mu66.g
     have h36:=zk (R:=(isT3 K isS isS isI)) mu66.g h36
     exact hN63 y68 W65 _ hs64 ⟨rfl,E0,o67⟩ hq
    ·intro W59 N62 e60 hN63 hq
     have hs69:=e60.g
     have E0:=E0.trans e60
     have hB24:=hB24.trans e60.g
     have hB51:=hB51.trans e60.g
     have o42:=o42.mono e60
     have h36:=zk (R:=(isT3 K isS isS isI)) e60.g h36
     try dsimp only[aF]
     exact hN63 s38 W59 _ hs69 ⟨rfl,E0,o42⟩ hq
    ·intro s70 W71 sg72 hS73 iv hq
     obtain⟨rfl,E0,o77⟩:=iv
     have hB24:=hB24.trans hS73
     have hB51:=hB51.trans hS73
     have h36:=zk (R:=(isT3 K isS isS isI)) hS73 h36
     try dsimp only
     refine dB (W:=W71) s70 hB51 ?_ hq
     exact⟨_,rfl,E0,o77⟩
   ·intro s78 W79 sg80 hS81 iv hq
    obtain⟨d43,rfl,E0,o42⟩:=iv
    have hB24:=hB24.trans hS81
    have h36:=zk (R:=(isT3 K isS isS isI)) hS81 h36
    try dsimp only
    refine dB (W:=W79) (y34,s78) hB24 ?_ hq
    exact⟨_,_,_,rfl,E0,h36,o42⟩
  ·intro s82 W83 sg84 hS85 iv hq
   obtain⟨v12,d15,d16,rfl,E0,h13,o14⟩:=iv
   exact i8 (Er:=Er) (r6 (cN o14)) (A7 hq fun y86 hq p87 W88 e89 hp90 o91=>hq p87 W88 (E0.trans e89) (aT E0.h hp90) o91)
theorem yQ {f:Addr} {fd:zY} (F:Fun K "_law_kin" "_law_kin" (tp 43) f fd) {uj:(Tx×Tx×Int)→Res (Tx×Tx×Int)} {uk:Tx→Res Tx} {ul:(Tx×Tx×Int)→Int→Res (Tx×Tx×Int)} {um:(Tx×Tx×Int)→Tx→Res (List Int)} (Z1C:Cal P w K mg base "_law_turnover" ["_law_card_here"] (1) (cU (isT3 K isS isS isI) (rs (isT3 K isS isS isI)) uj)) (Z3j:Cal P w K mg base "_law_back" ["_law_turns_here"] (1) (cU isS (rs isS) uk)) (Z3k:Cal P w K mg base "_law_roll" ["_law_card_here","_law_many"] (1) (bw (isT3 K isS isS isI) isI (rs (isT3 K isS isS isI)) ul)) (Z3l:Cal P w K mg base "_law_seen" ["_law_card_here","_law_turns_here"] (3) (bw (isT3 K isS isS isI) isS (ro isI) um)) (h_range:mg "range" =none):FnOk P w K mg base CX0 (4) f fd ["_law_card_here","_law_turns_here","_law_cell"] (dj (isT3 K isS isS isI) isS isI (rs (isT2 K (isT3 K isS isS isI) isS)) (xI uj uk ul um)):=by
 have SC:FnScope ["_law_card_here","_law_turns_here","_law_cell","_law_known","_law_hole","_law_colour"] ["_law_card_here","_law_turns_here","_law_cell"] (defScope (tp 43)):=⟨rfl,rfl,rfl,by decide +kernel,rfl,by decide +kernel,by decide +kernel⟩
 refine F.ok SC (fun vs H Q E h=>?_) (fun cdv A outer s H vs Q E hr h=>?_)
 ·obtain⟨_,_,_,_,_,_,_,_,rfl,_⟩:=h;rfl
 ·obtain⟨W0,Z02,Z04,Z00,Z0a,_,_,rfl,rfl,Z06,Z0z,Z0y,Er,hq⟩:=h
  cases Z0z
  cases Z0y
  refine⟨_,(af (br (ay bT (ai aD (pv 2) aa) aa (ax _)) (af (ao (i:=0) SC.nd rfl (by first | exact zH rfl | exact zG rfl) (ak Z1C (hr.mono (by decide)) (by rfl) (a5 (pv 0) ae)))
   (ag (ao (i:=1) SC.nd rfl (by first | exact zH rfl | exact zG rfl) (ak Z3j (hr.mono (by decide)) (by rfl) (a5 (pv 1) ae))))) aL)
   (af (ao (i:=0) SC.nd rfl (by first | exact zH rfl | exact zG rfl) (ak Z3k (hr.mono (by decide)) (by rfl) (a5 (pv 0) (a5 (ai aD (ai aZ (pv 2) aa) aa) ae))))
   (af (br (ay bT (ai aD (ai aZ (pv 2) aa) aa) aa (ax _)) (af (ao (i:=3) SC.nd rfl (by first | exact zH rfl | exact zG rfl) (ak Z3l (hr.mono (by decide)) (by rfl) (a5 (pv 0) (a5 (pv 1) ae))))
   (ag (du AI rfl (gG rfl h_range (a5 aa ae)) (aq (i:=4) SC.nd rfl (by first | exact zH rfl | exact zG rfl)) (ag (br (ay (fU (K:=K) rfl) (pv 4) (pv 3) (by with_unfolding_all rfl)) (af (ao (i:=5) SC.nd rfl (by first | exact zH rfl | exact zG rfl) (az bG bm (ai aD (ai bn (ai aZ (pv 2) aa) (ai eH aa (pv 4))) aa) (fun _ _=>rfl)))
   (ag (ao (i:=0) SC.nd rfl (by first | exact zH rfl | exact zG rfl) (cE (a5 (az (aP (K:=K) rfl) (pv 0) aa (fun _ _=>rfl)) (a5 (ai cW (ai cW (fc qB (az (aP (K:=K) rfl) (pv 0) aa (fun _ _=>rfl)) gi (fH (pv 4))) (pv 5)) (fc qB (az (aP (K:=K) rfl) (pv 0) aa (fun _ _=>rfl)) (fH (ai bn (pv 4) aa)) gi)) (a5 (az (aP (K:=K) rfl) (pv 0) aa (fun _ _=>rfl)) ae))))))) aL))))) aL)
   (ag (au (cE (a5 (pv 0) (a5 (pv 1) ae)))))))),?_⟩
  have E0:Ext W0 W0:=.refl W0
  rw[show L2.start ["_law_card_here","_law_turns_here","_law_cell","_law_known","_law_hole","_law_colour"] [Z0a,.str (ar Z04),.int Z00]=[some Z0a,some (.str (ar Z04)),some (.int Z00),none,none,none]from rfl]
  unfold xI at hq
  refine bK (Er:=Er) (Iv:=fun(s22:((Tx×Tx×Int)×Tx)) (W23:Wd) (g24:St)=>∃(v25:V),g24=[some v25,some (.str (ar s22.2)),some (.int Z00),none,none,none]∧Ext W0 W23∧(isT3 K isS isS isI) W23.G s22.1 v25) (aH (cG (aj (fun _=>by decide) (a8 (R:=sh isI) (a:=Z00) (v:=.int Z00) rfl)) ah)) (zj hq) ?_ ?_ ?_
  ·intro W1 N4 e2 hN5 hq
   have hs6:=e2.g
   have E0:=E0.trans e2
   have Z06:=zk (R:=(isT3 K isS isS isI)) e2.g Z06
   refine ap (Er:=Er) (i:=0) (R:=sh (isT3 K isS isS isI)) (σ':=fun v10=>[some v10,some (.str (ar Z04)),some (.int Z00),none,none,none]) (bJ (a8 (R:=sh (isT3 K isS isS isI)) Z06)) ((zj hq).imp fun y9 hq v10 W7 e8 h11=>?_)
   have E0:=E0.trans e8
   have hs6:=hs6.trans e8.g
   refine cP (Er:=Er) (i:=1) (R:=sh isS) (σ':=fun v15=>[some v10,some v15,some (.int Z00),none,none,none]) (bJ (a8 (R:=sh isS) (a:=Z04) (v:=.str (ar Z04)) rfl)) ((zj hq).imp fun y14 hq v15 W12 e13 h16=>?_)
   cases h16
   have E0:=E0.trans e13
   have hs6:=hs6.trans e13.g
   have h11:=zk (R:=(isT3 K isS isS isI)) e13.g h11
   exact hN5 (y9,y14) W12 _ hs6 ⟨_,rfl,E0,h11⟩ hq
  ·intro W1 N4 e2 hN5 hq
   have hs17:=e2.g
   have E0:=E0.trans e2
   have Z06:=zk (R:=(isT3 K isS isS isI)) e2.g Z06
   try dsimp only[aF]
   exact hN5 (Z02,Z04) W1 _ hs17 ⟨_,rfl,E0,Z06⟩ hq
  ·intro s18 W19 sg20 hS21 iv hq
   obtain⟨v25,rfl,E0,h26⟩:=iv
   refine ap (Er:=Er) (i:=0) (R:=sh (isT3 K isS isS isI)) (σ':=fun v30=>[some v30,some (.str (ar s18.2)),some (.int Z00),none,none,none]) (aW (a8 (R:=sh (isT3 K isS isS isI)) h26) (aj (fun _=>by decide) (aj (fun _=>⟨by decide,by decide⟩) (a8 (R:=sh isI) (a:=Z00) (v:=.int Z00) rfl)))) ((zj hq).imp fun y29 hq v30 W27 e28 h31=>?_)
   have E0:=E0.trans e28
   refine bK (Er:=Er) (Iv:=fun(s111:(Tx×Tx×Int)) (W112:Wd) (g113:St)=>∃(v114:V) (d116:Option V) (d117:Option V) (d118:Option V),g113=[some v114,some (.str (ar s18.2)),some (.int Z00),d116,d117,d118]∧Ext W0 W112∧(isT3 K isS isS isI) W112.G s111 v114) (aH (cG (aj (fun _=>by decide) (aj (fun _=>⟨by decide,by decide⟩) (a8 (R:=sh isI) (a:=Z00) (v:=.int Z00) rfl))) ah)) (zj hq) ?_ ?_ ?_
   ·intro W32 N35 e33 hN36 hq
    have hs37:=e33.g
    have E0:=E0.trans e33
    have h31:=zk (R:=(isT3 K isS isS isI)) e33.g h31
    refine ap (Er:=Er) (i:=3) (R:=sh (isL isI)) (σ':=fun v41=>[some v30,some (.str (ar s18.2)),some (.int Z00),some v41,none,none]) (Cj (gQ (a8 (R:=sh (isT3 K isS isS isI)) h31) (a8 (R:=sh isS) (a:=s18.2) (v:=.str (ar s18.2)) rfl))) ((zj hq).imp fun y40 hq v41 W38 e39 h42=>?_)
    have E0:=E0.trans e39
    have hs37:=hs37.trans e39.g
    have h31:=zk (R:=(isT3 K isS isS isI)) e39.g h31
    refine mL (Er:=Er) (f:=(wy Z00 y40)) (s0:=y29) (Iv:=fun(s45:(Tx×Tx×Int)) (W46:Wd) (g47:St)=>∃(v48:V) (d50:Option V) (d51:Option V),g47=[some v48,some (.str (ar s18.2)),some (.int Z00),some v41,d51,d50]∧Ext W0 W46∧(isT3 K isS isS isI) W46.G s45 v48) (iJ ah) (zj hq) ?_ ?_ ?_
    ·intro W63 e64
     have E0:=E0.trans e64
     have hs37:=hs37.trans e64.g
     have h31:=zk (R:=(isT3 K isS isS isI)) e64.g h31
     have h42:=zk (R:=(isL isI)) e64.g h42
     exact⟨_,_,_,rfl,E0,h31⟩
    ·intro Wb52 W53 W54 a43 v55 s44 sg56 P57 hW58 hB59 iv e60 h61 hq
     obtain⟨v48,d50,d51,rfl,E0,h49⟩:=iv
     have hs37:=hs37.trans hW58
     have h42:=zk (R:=(isL isI)) hW58 h42
     have E0:=E0.trans e60
     have hs37:=hs37.trans e60.g
     have hB59:=hB59.trans e60.g
     have h42:=zk (R:=(isL isI)) e60.g h42
     have h49:=zk (R:=(isT3 K isS isS isI)) e60.g h49
     cases h61
     refine gn (σ':=[some v48,some (.str (ar s18.2)),some (.int Z00),some v41,some (.int a43),d50]) ?_
     unfold wy at hq
     refine kt (Er:=Er) (Iv:=fun(s95:(Tx×Tx×Int)) (W96:Wd) (g97:St)=>∃(v98:V) (d100:Option V),g97=[some v98,some (.str (ar s18.2)),some (.int Z00),some v41,some (.int a43),d100]∧Ext W0 W96∧(isT3 K isS isS isI) W96.G s95 v98) (aH (iK (a8 (R:=sh isI) (a:=a43) (v:=.int a43) rfl) (CY (a8 (R:=sh (isL isI)) h42)))) (zj hq) ?_ ?_ ?_
     ·intro W67 N70 e68 hN71 hq
      have hs72:=e68.g
      have E0:=E0.trans e68
      have hs37:=hs37.trans e68.g
      have hB59:=hB59.trans e68.g
      have h42:=zk (R:=(isL isI)) e68.g h42
      have h49:=zk (R:=(isT3 K isS isS isI)) e68.g h49
      refine ap (Er:=Er) (i:=5) (R:=sh isS) (σ':=fun v79=>[some v48,some (.str (ar s18.2)),some (.int Z00),some v41,some (.int a43),some v79]) (bI (bq (x:=zx "abcdefghijklmnopqrstuvwxyz") (l:=[97,98,99,100,101,102,103,104,105,106,107,108,109,110,111,112,113,114,115,116,117,118,119,120,121,122]) (gk _ _ (by decide +kernel))) (aj (fun _=>by decide) (aV (aj (fun _=>⟨by decide,by decide⟩) (a8 (R:=sh isI) (a:=Z00) (v:=.int Z00) rfl)) (jZ ah (a8 (R:=sh isI) (a:=a43) (v:=.int a43) rfl))))) ((zj hq).imp fun y78 hq v79 W73 e74 h80=>?_)
      cases h80
      have E0:=E0.trans e74
      have hs37:=hs37.trans e74.g
      have hB59:=hB59.trans e74.g
      have hs72:=hs72.trans e74.g
      have h42:=zk (R:=(isL isI)) e74.g h42
      have h49:=zk (R:=(isT3 K isS isS isI)) e74.g h49
      refine cP (Er:=Er) (i:=0) (R:=sh (isT3 K isS isS isI)) (σ':=fun v88=>[some v88,some (.str (ar s18.2)),some (.int Z00),some v41,some (.int a43),some (.str (ar y78))]) (cO (K:=K) (b9 (f:=fun(b:Tx×Tx×Int)=>b.1) lh (a8 (R:=sh (isT3 K isS isS isI)) h49)) (fI (fI (nP (b9 (f:=fun(b:Tx×Tx×Int)=>b.2.1) jm (a8 (R:=sh (isT3 K isS isS isI)) h49)) lf (lg (a8 (R:=sh isI) (a:=a43) (v:=.int a43) rfl))) (a8 (R:=sh isS) (a:=y78) (v:=.str (ar y78)) rfl)) (nP (b9 (f:=fun(b:Tx×Tx×Int)=>b.2.1) jm (a8 (R:=sh (isT3 K isS isS isI)) h49)) (lg (aV (a8 (R:=sh isI) (a:=a43) (v:=.int a43) rfl) ah)) lf)) (b9 (f:=fun(b:Tx×Tx×Int)=>b.2.2) k6 (a8 (R:=sh (isT3 K isS isS isI)) h49))) ((zj hq).imp fun y87 hq v88 W81 e82 h89=>?_)
      have E0:=E0.trans e82
      have hs37:=hs37.trans e82.g
      have hB59:=hB59.trans e82.g
      have hs72:=hs72.trans e82.g
      have h42:=zk (R:=(isL isI)) e82.g h42
      exact hN71 y87 W81 _ hs72 ⟨_,_,rfl,E0,h89⟩ hq
     ·intro W67 N70 e68 hN71 hq
      have hs90:=e68.g
      have E0:=E0.trans e68
      have hs37:=hs37.trans e68.g
      have hB59:=hB59.trans e68.g
      have h42:=zk (R:=(isL isI)) e68.g h42
      have h49:=zk (R:=(isT3 K isS isS isI)) e68.g h49
      try dsimp only[aF]
      exact hN71 s44 W67 _ hs90 ⟨_,_,rfl,E0,h49⟩ hq
     ·intro s91 W92 sg93 hS94 iv hq
      obtain⟨v98,d100,rfl,E0,h99⟩:=iv
      have hs37:=hs37.trans hS94
      have hB59:=hB59.trans hS94
      have h42:=zk (R:=(isL isI)) hS94 h42
      try dsimp only
      refine dB (W:=W92) s91 hB59 ?_ hq
      exact⟨_,_,_,rfl,E0,h99⟩
    ·intro s102 W103 sg104 hS105 iv hq
     obtain⟨v48,d50,d51,rfl,E0,h49⟩:=iv
     have hs37:=hs37.trans hS105
     exact hN36 s102 W103 _ hs37 ⟨_,_,_,_,rfl,E0,h49⟩ hq
   ·intro W32 N35 e33 hN36 hq
    have hs106:=e33.g
    have E0:=E0.trans e33
    have h31:=zk (R:=(isT3 K isS isS isI)) e33.g h31
    try dsimp only[aF]
    exact hN36 y29 W32 _ hs106 ⟨_,_,_,_,rfl,E0,h31⟩ hq
   ·intro s107 W108 sg109 hS110 iv hq
    obtain⟨v114,d116,d117,d118,rfl,E0,h115⟩:=iv
    exact aR (Er:=Er) (R:=sh (isT2 K (isT3 K isS isS isI) isS)) (i7 (K:=K) (a8 (R:=sh (isT3 K isS isS isI)) h115) (a8 (R:=sh isS) (a:=s18.2) (v:=.str (ar s18.2)) rfl)) (fun v119 W120 e121 h122=>hq v119 W120 (E0.trans e121) h122)
theorem yR {f:Addr} {fd:zY} (F:Fun K "_law_case" "_law_case" (tp 44) f fd) {sU:Int→Res (Tx×Tx×Int)} {gf:List Int→Int→Res Int} {uf:Int→Int→Res Tx} {ug:(Tx×Tx×Int)→Tx→Res (List (Tx×Tx×Tx))} {uh:(List (Tx×Tx×Tx))→Int→Res (List (Tx×Tx×Tx))} {ui:(List (Tx×Tx×Tx))→Int→Bool→Res (List (Tx×Tx×Tx))} {uo:(Tx×Tx×Int)→Tx→Int→Res ((Tx×Tx×Int)×Tx)} (Z28:Cal P w K mg base "_law_card" ["_law_cell"] (3) (cU isI (rs (isT3 K isS isS isI)) sU)) (Z0v:Cal P w K mg base "_law_at" ["_law_script","_law_k"] (1) (bw (isScr K) isI (rs isI) gf)) (Z2G:Cal P w K mg base "_law_turns" ["_law_cell","_law_many"] (2) (bw isI isI (rs isS) uf)) (Z2m:Cal P w K mg base "_law_places" ["_law_card_here","_law_turns_here"] (3) (bw (isT3 K isS isS isI) isS (ro (isT3 K isS isS isS)) ug)) (Z3m:Cal P w K mg base "_law_long" ["_law_places_here","_law_cell"] (2) (bw (isL (isT3 K isS isS isS)) isI (ro (isT3 K isS isS isS)) uh)) (Z2H:Cal P w K mg base "_law_marks" ["_law_places_here","_law_cell","_law_lies"] (2) (dj (isL (isT3 K isS isS isS)) isI isB (ro (isT3 K isS isS isS)) ui)) (Z3Z:Cal P w K mg base "_law_kin" ["_law_card_here","_law_turns_here","_law_cell"] (4) (dj (isT3 K isS isS isI) isS isI (rs (isT2 K (isT3 K isS isS isI) isS)) uo)):FnOk P w K mg base CX0 (5) f fd ["_law_script","_law_most"] (bw (isScr K) isI (rs (isT3 K (isT3 K isS isS isI) (isL (isT3 K isS isS isS)) isI)) (xJ sU gf uf ug uh ui uo)):=by
 have SC:FnScope ["_law_script","_law_most","_law_card_here","_law_size","_law_cell","_law_many","_law_turns_here","_law_places_here","_law_strip","_law_side"] ["_law_script","_law_most"] (defScope (tp 44)):=⟨rfl,rfl,rfl,by decide +kernel,rfl,by decide +kernel,by decide +kernel⟩
 refine F.ok SC (fun vs H Q E h=>?_) (fun cdv A outer s H vs Q E hr h=>?_)
 ·obtain⟨_,_,_,_,_,_,rfl,_⟩:=h;rfl
 ·obtain⟨W0,Z0g,Z0l,Z09,_,rfl,rfl,Z01,Zbf,Er,hq⟩:=h
  cases Zbf
  refine⟨_,(af (ao (i:=2) SC.nd rfl (by first | exact zH rfl | exact zG rfl) (ak Z28 (hr.mono (by decide)) (by rfl) (a5 (ak Z0v (hr.mono (by decide)) (by rfl) (a5 (pv 0) (a5 aa ae))) ae)))
   (af (ao (i:=3) SC.nd rfl (by first | exact zH rfl | exact zG rfl) (ak Z0v (hr.mono (by decide)) (by rfl) (a5 (pv 0) (a5 aa ae))))
   (af (ao (i:=4) SC.nd rfl (by first | exact zH rfl | exact zG rfl) (ak Z0v (hr.mono (by decide)) (by rfl) (a5 (pv 0) (a5 aa ae))))
   (af (ao (i:=5) SC.nd rfl (by first | exact zH rfl | exact zG rfl) (ai aD (pv 3) (ai bn (pv 1) aa)))
   (af (br (ay bT (ai aD (ai aZ (pv 3) aa) aa) aa (ax _)) (ag (ao (i:=5) SC.nd rfl (by first | exact zH rfl | exact zG rfl) (ai bn aa (ai aD (ai aZ (pv 3) aa) aa)))) aL)
   (af (br (ay bT (ai aD (ai aZ (pv 3) aa) aa) aa (ax _)) (ag (ao (i:=5) SC.nd rfl (by first | exact zH rfl | exact zG rfl) (ai bn aa (ai aD (ai aZ (pv 3) aa) aa)))) aL)
   (af (ao (i:=6) SC.nd rfl (by first | exact zH rfl | exact zG rfl) (ak Z2G (hr.mono (by decide)) (by rfl) (a5 (ak Z0v (hr.mono (by decide)) (by rfl) (a5 (pv 0) (a5 aa ae))) (a5 (pv 5) ae))))
   (af (ao (i:=7) SC.nd rfl (by first | exact zH rfl | exact zG rfl) (ak Z2m (hr.mono (by decide)) (by rfl) (a5 (pv 2) (a5 (pv 6) ae))))
   (af (br (ay nB (pv 5) (pv 1) (ax _)) (ag (ao (i:=8) SC.nd rfl (by first | exact zH rfl | exact zG rfl) (ak Z3m (hr.mono (by decide)) (by rfl) (a5 (pv 7) (a5 (pv 4) ae))))) (ag (ao (i:=8) SC.nd rfl (by first | exact zH rfl | exact zG rfl) (ak Z2H (hr.mono (by decide)) (by rfl) (a5 (pv 7) (a5 (ai aZ (pv 4) aa) (a5 (cn bT (ai aD (pv 4) aa) aa (ax _)) ae)))))))
   (af (ao (i:=9) SC.nd rfl (by first | exact zH rfl | exact zG rfl) (ai aZ (ak Z0v (hr.mono (by decide)) (by rfl) (a5 (pv 0) (a5 aa ae))) aa))
   (af (br (ay bT (ai aD (pv 9) aa) aa (ax _)) (ag (ao (i:=2) SC.nd rfl (by first | exact zH rfl | exact zG rfl) (az (aP (K:=K) rfl) (ak Z3Z (hr.mono (by decide)) (by rfl) (a5 (pv 2) (a5 (pv 6) (a5 (ai aZ (pv 9) aa) ae)))) aa (fun _ _=>rfl)))) aL)
   (af (br (ay bT (ai aD (pv 9) aa) aa (ax _)) (ag (ao (i:=2) SC.nd rfl (by first | exact zH rfl | exact zG rfl) (ak Z28 (hr.mono (by decide)) (by rfl) (a5 (ai aZ (pv 9) aa) ae)))) aL)
   (ag (au (cE (a5 (pv 2) (a5 (pv 8) (a5 (ai aD (ak Z0v (hr.mono (by decide)) (by rfl) (a5 (pv 0) (a5 aa ae))) aa) ae)))))))))))))))))),?_⟩
  have E0:Ext W0 W0:=.refl W0
  rw[show L2.start ["_law_script","_law_most","_law_card_here","_law_size","_law_cell","_law_many","_law_turns_here","_law_places_here","_law_strip","_law_side"] [Z09,.int Z0l]=[some Z09,some (.int Z0l),none,none,none,none,none,none,none,none]from rfl]
  unfold xJ at hq
  refine ap (Er:=Er) (i:=2) (R:=sh (isT3 K isS isS isI)) (σ':=fun v5=>[some Z09,some (.int Z0l),some v5,none,none,none,none,none,none,none]) (bJ (aW (a8 (R:=sh (isScr K)) Z01) ah)) ((zj hq).imp fun y4 hq v5 W1 e2 h6=>?_)
  have E0:=E0.trans e2
  have Z01:=zk (R:=(isScr K)) e2.g Z01
  refine ap (Er:=Er) (i:=3) (R:=sh isI) (σ':=fun v10=>[some Z09,some (.int Z0l),some v5,some v10,none,none,none,none,none,none]) (aW (a8 (R:=sh (isScr K)) Z01) ah) ((zj hq).imp fun y9 hq v10 W7 e8 h11=>?_)
  cases h11
  have E0:=E0.trans e8
  have Z01:=zk (R:=(isScr K)) e8.g Z01
  have h6:=zk (R:=(isT3 K isS isS isI)) e8.g h6
  refine ap (Er:=Er) (i:=4) (R:=sh isI) (σ':=fun v15=>[some Z09,some (.int Z0l),some v5,some (.int y9),some v15,none,none,none,none,none]) (aW (a8 (R:=sh (isScr K)) Z01) ah) ((zj hq).imp fun y14 hq v15 W12 e13 h16=>?_)
  cases h16
  have E0:=E0.trans e13
  have Z01:=zk (R:=(isScr K)) e13.g Z01
  have h6:=zk (R:=(isT3 K isS isS isI)) e13.g h6
  refine ap (Er:=Er) (i:=5) (R:=sh isI) (σ':=fun v20=>[some Z09,some (.int Z0l),some v5,some (.int y9),some (.int y14),some v20,none,none,none,none]) (gO (a8 (R:=sh isI) (a:=y9) (v:=.int y9) rfl) (aV (a8 (R:=sh isI) (a:=Z0l) (v:=.int Z0l) rfl) ah)) ((zj hq).imp fun y19 hq v20 W17 e18 h21=>?_)
  cases h21
  have E0:=E0.trans e18
  have Z01:=zk (R:=(isScr K)) e18.g Z01
  have h6:=zk (R:=(isT3 K isS isS isI)) e18.g h6
  refine bK (Er:=Er) (Iv:=fun(s37:Int) (W38:Wd) (g39:St)=>g39=[some Z09,some (.int Z0l),some v5,some (.int y9),some (.int y14),some (.int s37),none,none,none,none]∧Ext W0 W38) (aH (cG (aj (fun _=>by decide) (aj (fun _=>⟨by decide,by decide⟩) (a8 (R:=sh isI) (a:=y9) (v:=.int y9) rfl))) ah)) (zj hq) ?_ ?_ ?_
  ·intro W22 N25 e23 hN26 hq
   have hs27:=e23.g
   have E0:=E0.trans e23
   have Z01:=zk (R:=(isScr K)) e23.g Z01
   have h6:=zk (R:=(isT3 K isS isS isI)) e23.g h6
   refine cP (Er:=Er) (i:=5) (R:=sh isI) (σ':=fun v30=>[some Z09,some (.int Z0l),some v5,some (.int y9),some (.int y14),some v30,none,none,none,none]) (aV ah (aj (fun _=>by decide) (aj (fun _=>⟨by decide,by decide⟩) (a8 (R:=sh isI) (a:=y9) (v:=.int y9) rfl)))) (fun v30 W28 e29 h31=>?_)
   cases h31
   have E0:=E0.trans e29
   have hs27:=hs27.trans e29.g
   have Z01:=zk (R:=(isScr K)) e29.g Z01
   have h6:=zk (R:=(isT3 K isS isS isI)) e29.g h6
   exact hN26 ((25:Int)+((y9/ 78)% 36)) W28 _ hs27 ⟨rfl,E0⟩ hq
  ·intro W22 N25 e23 hN26 hq
   have hs32:=e23.g
   have E0:=E0.trans e23
   have Z01:=zk (R:=(isScr K)) e23.g Z01
   have h6:=zk (R:=(isT3 K isS isS isI)) e23.g h6
   try dsimp only[aF]
   exact hN26 y19 W22 _ hs32 ⟨rfl,E0⟩ hq
  ·intro s33 W34 sg35 hS36 iv hq
   obtain⟨rfl,E0⟩:=iv
   have Z01:=zk (R:=(isScr K)) hS36 Z01
   have h6:=zk (R:=(isT3 K isS isS isI)) hS36 h6
   refine bK (Er:=Er) (Iv:=fun(s55:Int) (W56:Wd) (g57:St)=>g57=[some Z09,some (.int Z0l),some v5,some (.int y9),some (.int y14),some (.int s55),none,none,none,none]∧Ext W0 W56) (aH (cG (aj (fun _=>by decide) (aj (fun _=>⟨by decide,by decide⟩) (a8 (R:=sh isI) (a:=y9) (v:=.int y9) rfl))) ah)) (zj hq) ?_ ?_ ?_
   ·intro W40 N43 e41 hN44 hq
    have hs45:=e41.g
    have E0:=E0.trans e41
    have Z01:=zk (R:=(isScr K)) e41.g Z01
    have h6:=zk (R:=(isT3 K isS isS isI)) e41.g h6
    refine cP (Er:=Er) (i:=5) (R:=sh isI) (σ':=fun v48=>[some Z09,some (.int Z0l),some v5,some (.int y9),some (.int y14),some v48,none,none,none,none]) (aV ah (aj (fun _=>by decide) (aj (fun _=>⟨by decide,by decide⟩) (a8 (R:=sh isI) (a:=y9) (v:=.int y9) rfl)))) (fun v48 W46 e47 h49=>?_)
    cases h49
    have E0:=E0.trans e47
    have hs45:=hs45.trans e47.g
    have Z01:=zk (R:=(isScr K)) e47.g Z01
    have h6:=zk (R:=(isT3 K isS isS isI)) e47.g h6
    exact hN44 ((13:Int)+((y9/ 78)% 12)) W46 _ hs45 ⟨rfl,E0⟩ hq
   ·intro W40 N43 e41 hN44 hq
    have hs50:=e41.g
    have E0:=E0.trans e41
    have Z01:=zk (R:=(isScr K)) e41.g Z01
    have h6:=zk (R:=(isT3 K isS isS isI)) e41.g h6
    try dsimp only[aF]
    exact hN44 s33 W40 _ hs50 ⟨rfl,E0⟩ hq
   ·intro s51 W52 sg53 hS54 iv hq
    obtain⟨rfl,E0⟩:=iv
    have Z01:=zk (R:=(isScr K)) hS54 Z01
    have h6:=zk (R:=(isT3 K isS isS isI)) hS54 h6
    refine ap (Er:=Er) (i:=6) (R:=sh isS) (σ':=fun v62=>[some Z09,some (.int Z0l),some v5,some (.int y9),some (.int y14),some (.int s51),some v62,none,none,none]) (aW (aW (a8 (R:=sh (isScr K)) Z01) ah) (a8 (R:=sh isI) (a:=s51) (v:=.int s51) rfl)) ((zj hq).imp fun y61 hq v62 W58 e59 h63=>?_)
    cases h63
    have E0:=E0.trans e59
    have Z01:=zk (R:=(isScr K)) e59.g Z01
    have h6:=zk (R:=(isT3 K isS isS isI)) e59.g h6
    refine ap (Er:=Er) (i:=7) (R:=sh (isL (isT3 K isS isS isS))) (σ':=fun v67=>[some Z09,some (.int Z0l),some v5,some (.int y9),some (.int y14),some (.int s51),some (.str (ar y61)),some v67,none,none]) (Cj (gQ (a8 (R:=sh (isT3 K isS isS isI)) h6) (a8 (R:=sh isS) (a:=y61) (v:=.str (ar y61)) rfl))) ((zj hq).imp fun y66 hq v67 W64 e65 h68=>?_)
    have E0:=E0.trans e65
    have Z01:=zk (R:=(isScr K)) e65.g Z01
    have h6:=zk (R:=(isT3 K isS isS isI)) e65.g h6
    refine bK (Er:=Er) (Iv:=fun(s90:(List (Tx×Tx×Tx))) (W91:Wd) (g92:St)=>∃(v93:V),g92=[some Z09,some (.int Z0l),some v5,some (.int y9),some (.int y14),some (.int s51),some (.str (ar y61)),some v67,some v93,none]∧Ext W0 W91∧(isL (isT3 K isS isS isS)) W91.G s90 v93) (aH (cu (a8 (R:=sh isI) (a:=s51) (v:=.int s51) rfl) (a8 (R:=sh isI) (a:=Z0l) (v:=.int Z0l) rfl))) (zj hq) ?_ ?_ ?_
    ·intro W69 N72 e70 hN73 hq
     have hs74:=e70.g
     have E0:=E0.trans e70
     have Z01:=zk (R:=(isScr K)) e70.g Z01
     have h6:=zk (R:=(isT3 K isS isS isI)) e70.g h6
     have h68:=zk (R:=(isL (isT3 K isS isS isS))) e70.g h68
     refine cP (Er:=Er) (i:=8) (R:=sh (isL (isT3 K isS isS isS))) (σ':=fun v78=>[some Z09,some (.int Z0l),some v5,some (.int y9),some (.int y14),some (.int s51),some (.str (ar y61)),some v67,some v78,none]) (Cj (gQ (a8 (R:=sh (isL (isT3 K isS isS isS))) h68) (a8 (R:=sh isI) (a:=y14) (v:=.int y14) rfl))) ((zj hq).imp fun y77 hq v78 W75 e76 h79=>?_)
     have E0:=E0.trans e76
     have hs74:=hs74.trans e76.g
     have Z01:=zk (R:=(isScr K)) e76.g Z01
     have h6:=zk (R:=(isT3 K isS isS isI)) e76.g h6
     exact hN73 y77 W75 _ hs74 ⟨_,rfl,E0,h79⟩ hq
    ·intro W69 N72 e70 hN73 hq
     have hs80:=e70.g
     have E0:=E0.trans e70
     have Z01:=zk (R:=(isScr K)) e70.g Z01
     have h6:=zk (R:=(isT3 K isS isS isI)) e70.g h6
     have h68:=zk (R:=(isL (isT3 K isS isS isS))) e70.g h68
     refine cP (Er:=Er) (i:=8) (R:=sh (isL (isT3 K isS isS isS))) (σ':=fun v84=>[some Z09,some (.int Z0l),some v5,some (.int y9),some (.int y14),some (.int s51),some (.str (ar y61)),some v67,some v84,none]) (Cj (dZ (a8 (R:=sh (isL (isT3 K isS isS isS))) h68) (aj (fun _=>⟨by decide,by decide⟩) (a8 (R:=sh isI) (a:=y14) (v:=.int y14) rfl)) (cG (aj (fun _=>by decide) (a8 (R:=sh isI) (a:=y14) (v:=.int y14) rfl)) ah))) ((zj hq).imp fun y83 hq v84 W81 e82 h85=>?_)
     have E0:=E0.trans e82
     have hs80:=hs80.trans e82.g
     have Z01:=zk (R:=(isScr K)) e82.g Z01
     have h6:=zk (R:=(isT3 K isS isS isI)) e82.g h6
     exact hN73 y83 W81 _ hs80 ⟨_,rfl,E0,h85⟩ hq
    ·intro s86 W87 sg88 hS89 iv hq
     obtain⟨v93,rfl,E0,h94⟩:=iv
     have Z01:=zk (R:=(isScr K)) hS89 Z01
     have h6:=zk (R:=(isT3 K isS isS isI)) hS89 h6
     refine ap (Er:=Er) (i:=9) (R:=sh isI) (σ':=fun v99=>[some Z09,some (.int Z0l),some v5,some (.int y9),some (.int y14),some (.int s51),some (.str (ar y61)),some v67,some v93,some v99]) (aj (fun _=>⟨by decide,by decide⟩) (aW (a8 (R:=sh (isScr K)) Z01) ah)) ((zj hq).imp fun y98 hq v99 W95 e96 h100=>?_)
     cases h100
     have E0:=E0.trans e96
     have Z01:=zk (R:=(isScr K)) e96.g Z01
     have h6:=zk (R:=(isT3 K isS isS isI)) e96.g h6
     have h94:=zk (R:=(isL (isT3 K isS isS isS))) e96.g h94
     refine bK (Er:=Er) (Iv:=fun(s118:(Tx×Tx×Int)) (W119:Wd) (g120:St)=>∃(v121:V),g120=[some Z09,some (.int Z0l),some v121,some (.int y9),some (.int y14),some (.int s51),some (.str (ar y61)),some v67,some v93,some (.int y98)]∧Ext W0 W119∧(isT3 K isS isS isI) W119.G s118 v121) (aH (cG (aj (fun _=>by decide) (a8 (R:=sh isI) (a:=y98) (v:=.int y98) rfl)) ah)) (zj hq) ?_ ?_ ?_
     ·intro W101 N104 e102 hN105 hq
      have hs106:=e102.g
      have E0:=E0.trans e102
      have Z01:=zk (R:=(isScr K)) e102.g Z01
      have h6:=zk (R:=(isT3 K isS isS isI)) e102.g h6
      have h94:=zk (R:=(isL (isT3 K isS isS isS))) e102.g h94
      refine cP (Er:=Er) (i:=2) (R:=sh (isT3 K isS isS isI)) (σ':=fun v111=>[some Z09,some (.int Z0l),some v111,some (.int y9),some (.int y14),some (.int s51),some (.str (ar y61)),some v67,some v93,some (.int y98)]) (b9 (f:=fun(b:(Tx×Tx×Int)×Tx)=>b.1) wW (dz (a8 (R:=sh (isT3 K isS isS isI)) h6) (a8 (R:=sh isS) (a:=y61) (v:=.str (ar y61)) rfl) (aj (fun _=>⟨by decide,by decide⟩) (a8 (R:=sh isI) (a:=y98) (v:=.int y98) rfl)))) ((zj hq).imp fun y110 hq v111 W107 e108 h112=>?_)
      have E0:=E0.trans e108
      have hs106:=hs106.trans e108.g
      have Z01:=zk (R:=(isScr K)) e108.g Z01
      have h94:=zk (R:=(isL (isT3 K isS isS isS))) e108.g h94
      exact hN105 y110 W107 _ hs106 ⟨_,rfl,E0,h112⟩ hq
     ·intro W101 N104 e102 hN105 hq
      have hs113:=e102.g
      have E0:=E0.trans e102
      have Z01:=zk (R:=(isScr K)) e102.g Z01
      have h6:=zk (R:=(isT3 K isS isS isI)) e102.g h6
      have h94:=zk (R:=(isL (isT3 K isS isS isS))) e102.g h94
      try dsimp only[aF]
      exact hN105 y4 W101 _ hs113 ⟨_,rfl,E0,h6⟩ hq
     ·intro s114 W115 sg116 hS117 iv hq
      obtain⟨v121,rfl,E0,h122⟩:=iv
      have Z01:=zk (R:=(isScr K)) hS117 Z01
      have h94:=zk (R:=(isL (isT3 K isS isS isS))) hS117 h94
      refine bK (Er:=Er) (Iv:=fun(s139:(Tx×Tx×Int)) (W140:Wd) (g141:St)=>∃(v142:V),g141=[some Z09,some (.int Z0l),some v142,some (.int y9),some (.int y14),some (.int s51),some (.str (ar y61)),some v67,some v93,some (.int y98)]∧Ext W0 W140∧(isT3 K isS isS isI) W140.G s139 v142) (aH (cG (aj (fun _=>by decide) (a8 (R:=sh isI) (a:=y98) (v:=.int y98) rfl)) ah)) (zj hq) ?_ ?_ ?_
      ·intro W123 N126 e124 hN127 hq
       have hs128:=e124.g
       have E0:=E0.trans e124
       have Z01:=zk (R:=(isScr K)) e124.g Z01
       have h94:=zk (R:=(isL (isT3 K isS isS isS))) e124.g h94
       have h122:=zk (R:=(isT3 K isS isS isI)) e124.g h122
       refine cP (Er:=Er) (i:=2) (R:=sh (isT3 K isS isS isI)) (σ':=fun v132=>[some Z09,some (.int Z0l),some v132,some (.int y9),some (.int y14),some (.int s51),some (.str (ar y61)),some v67,some v93,some (.int y98)]) (bJ (aj (fun _=>⟨by decide,by decide⟩) (a8 (R:=sh isI) (a:=y98) (v:=.int y98) rfl))) ((zj hq).imp fun y131 hq v132 W129 e130 h133=>?_)
       have E0:=E0.trans e130
       have hs128:=hs128.trans e130.g
       have Z01:=zk (R:=(isScr K)) e130.g Z01
       have h94:=zk (R:=(isL (isT3 K isS isS isS))) e130.g h94
       exact hN127 y131 W129 _ hs128 ⟨_,rfl,E0,h133⟩ hq
      ·intro W123 N126 e124 hN127 hq
       have hs134:=e124.g
       have E0:=E0.trans e124
       have Z01:=zk (R:=(isScr K)) e124.g Z01
       have h94:=zk (R:=(isL (isT3 K isS isS isS))) e124.g h94
       have h122:=zk (R:=(isT3 K isS isS isI)) e124.g h122
       try dsimp only[aF]
       exact hN127 s114 W123 _ hs134 ⟨_,rfl,E0,h122⟩ hq
      ·intro s135 W136 sg137 hS138 iv hq
       obtain⟨v142,rfl,E0,h143⟩:=iv
       have Z01:=zk (R:=(isScr K)) hS138 Z01
       have h94:=zk (R:=(isL (isT3 K isS isS isS))) hS138 h94
       exact aR (Er:=Er) (R:=sh (isT3 K (isT3 K isS isS isI) (isL (isT3 K isS isS isS)) isI)) (cO (K:=K) (a8 (R:=sh (isT3 K isS isS isI)) h143) (a8 (R:=sh (isL (isT3 K isS isS isS))) h94) (aj (fun _=>by decide) (aW (a8 (R:=sh (isScr K)) Z01) ah))) (A7 hq fun y146 hq v147 W148 e149 h150=>hq v147 W148 (E0.trans e149) h150)
theorem yT {f:Addr} {fd:zY} (F:Fun K "within" "within" (tp 18) f fd) (h_abs:mg "abs" =none):FnOk P w K mg base CX0 (1) f fd ["state","loose","bound"] (dj (isT2 K isI isI) isI isI (rs isB) (xK)):=by
 have SC:FnScope ["state","loose","bound","twist","idle"] ["state","loose","bound"] (defScope (tp 18)):=⟨rfl,rfl,rfl,by decide +kernel,rfl,by decide +kernel,by decide +kernel⟩
 refine F.ok SC (fun vs H Q E h=>?_) (fun cdv A outer s H vs Q E hr h=>?_)
 ·obtain⟨_,_,_,_,_,_,_,_,rfl,_⟩:=h;rfl
 ·obtain⟨W0,state,loose,bound,Z0A,_,_,rfl,rfl,Z1X,Z0G,Z0V,Er,hq⟩:=h
  cases Z0G
  cases Z0V
  refine⟨_,(af (dP (pv 0) (cq (K:=K) (n:=2) rfl rfl (aB (aq (i:=3) SC.nd rfl (by first | exact zH rfl | exact zG rfl)) (aB (aq (i:=4) SC.nd rfl (by first | exact zH rfl | exact zG rfl)) cm))))
   (ag (au (fZ (cn qr (aK kW (by rfl) h_abs EL (a5 (pv 3) ae)) (pv 2) (ax _)) (fY (cn qr (pv 4) (pv 1) (ax _))))))),?_⟩
  have E0:Ext W0 W0:=.refl W0
  rw[show L2.start ["state","loose","bound","twist","idle"] [Z0A,.int loose,.int bound]=[some Z0A,some (.int loose),some (.int bound),none,none]from rfl]
  unfold xK at hq
  refine eg (Er:=Er) (R:=sh (isT2 K isI isI)) (a8 (R:=sh (isT2 K isI isI)) Z1X) (fun v1 W2 e3 h4=>?_)
  have E0:=E0.trans e3
  refine kq (σ':=fun v5 v7=>[some Z0A,some (.int loose),some (.int bound),some v5,some v7]) h4 fun v5 v7 h6 h8=>?_
  cases h6
  cases h8
  exact aR (Er:=Er) (R:=sh isB) (mJ (cu (qU (a8 (R:=sh isI) (a:=state.1) (v:=.int state.1) rfl)) (a8 (R:=sh isI) (a:=bound) (v:=.int bound) rfl)) (cu (a8 (R:=sh isI) (a:=state.2) (v:=.int state.2) rfl) (a8 (R:=sh isI) (a:=loose) (v:=.int loose) rfl))) (A7 hq fun y9 hq v10 W11 e12 h13=>hq v10 W11 (E0.trans e12) h13)
theorem yV {f:Addr} {fd:zY} (F:Fun K "twisting" "twisting" (tp 6) f fd) {Z1Y:Addr} (Z6f:mg "STEPS" =some (.ref Z1Y)) (Z6g:DictK K w Z1Y [(BW (zx "f"),.int (1)),(BW (zx "b"),.int (-1)),(BW (zx "i"),.int (0))]):FnOk P w K mg base CX0 (1) f fd ["tablet","turn"] (bw (isT3 K isS isS isI) isS (rs isI) (xL)):=by
 have SC:FnScope ["tablet","turn","step"] ["tablet","turn"] (defScope (tp 6)):=⟨rfl,rfl,rfl,by decide +kernel,rfl,by decide +kernel,by decide +kernel⟩
 refine F.ok SC (fun vs H Q E h=>?_) (fun cdv A outer s H vs Q E hr h=>?_)
 ·obtain⟨_,_,_,_,_,_,rfl,_⟩:=h;rfl
 ·obtain⟨W0,tablet,turn,Z07,_,rfl,rfl,Z05,Z2I,Er,hq⟩:=h
  cases Z2I
  refine⟨_,(af (ao (i:=2) SC.nd rfl (by first | exact zH rfl | exact zG rfl) (jx (K:=K) (w:=w) rfl rfl (cY (v:=.ref _) (by rfl) Z6f rfl) (pv 1) (fun _ _=>rfl)))
   (ag (au (fb (ay bT (az (aP (K:=K) rfl) (pv 0) aa (fun _ _=>rfl)) bm (ax _)) (pv 2) (gh eI (pv 2)))))),?_⟩
  have E0:Ext W0 W0:=.refl W0
  rw[show L2.start ["tablet","turn","step"] [Z07,.str (ar turn)]=[some Z07,some (.str (ar turn)),none]from rfl]
  unfold xL at hq
  refine ap (Er:=Er) (i:=2) (R:=sh isI) (σ':=fun v4=>[some Z07,some (.str (ar turn)),some v4]) (pr Z6g (by decide +kernel) (a8 (R:=sh isS) (a:=turn) (v:=.str (ar turn)) rfl)) ((zj hq).imp fun y3 hq v4 W1 e2 h5=>?_)
  cases h5
  have E0:=E0.trans e2
  have Z05:=zk (R:=(isT3 K isS isS isI)) e2.g Z05
  exact aR (Er:=Er) (R:=sh isI) (ld (aH (gP (b9 (f:=fun(b:Tx×Tx×Int)=>b.1) lh (a8 (R:=sh (isT3 K isS isS isI)) Z05)) (bq (x:=zx "S") (l:=[83]) (gk _ _ (by decide +kernel))))) (a8 (R:=sh isI) (a:=y3) (v:=.int y3) rfl) (fj (a8 (R:=sh isI) (a:=y3) (v:=.int y3) rfl))) (A7 hq fun y6 hq v7 W8 e9 h10=>hq v7 W8 (E0.trans e9) h10)
theorem yW {f:Addr} {fd:zY} (F:Fun K "state_behind" "state_behind" (tp 17) f fd) {ng:(Tx×Tx×Int)→Tx→Res Int} (Z1k:Cal P w K mg base "twisting" ["tablet","turn"] (1) (bw (isT3 K isS isS isI) isS (rs isI) ng)):FnOk P w K mg base CX0 (2) f fd ["tablet","state","turn"] (dj (isT3 K isS isS isI) (isT2 K isI isI) isS (rs (isT2 K isI isI)) (xM ng)):=by
 have SC:FnScope ["tablet","state","turn","twist","idle"] ["tablet","state","turn"] (defScope (tp 17)):=⟨rfl,rfl,rfl,by decide +kernel,rfl,by decide +kernel,by decide +kernel⟩
 refine F.ok SC (fun vs H Q E h=>?_) (fun cdv A outer s H vs Q E hr h=>?_)
 ·obtain⟨_,_,_,_,_,_,_,_,rfl,_⟩:=h;rfl
 ·obtain⟨W0,tablet,state,turn,Z07,Z0A,_,rfl,rfl,Z05,Z1X,Z2I,Er,hq⟩:=h
  cases Z2I
  refine⟨_,(af (dP (pv 1) (cq (K:=K) (n:=2) rfl rfl (aB (aq (i:=3) SC.nd rfl (by first | exact zH rfl | exact zG rfl)) (aB (aq (i:=4) SC.nd rfl (by first | exact zH rfl | exact zG rfl)) cm))))
   (ag (au (cE (a5 (ai bn (pv 3) (ak Z1k (hr.mono (by decide)) (by rfl) (a5 (pv 0) (a5 (pv 2) ae)))) (a5 (fb (ay bT (pv 2) bm (ax _)) (ai bn (pv 4) aa) aa) ae)))))),?_⟩
  have E0:Ext W0 W0:=.refl W0
  rw[show L2.start ["tablet","state","turn","twist","idle"] [Z07,Z0A,.str (ar turn)]=[some Z07,some Z0A,some (.str (ar turn)),none,none]from rfl]
  unfold xM at hq
  refine eg (Er:=Er) (R:=sh (isT2 K isI isI)) (a8 (R:=sh (isT2 K isI isI)) Z1X) (fun v1 W2 e3 h4=>?_)
  have E0:=E0.trans e3
  have Z05:=zk (R:=(isT3 K isS isS isI)) e3.g Z05
  refine kq (σ':=fun v5 v7=>[some Z07,some Z0A,some (.str (ar turn)),some v5,some v7]) h4 fun v5 v7 h6 h8=>?_
  cases h6
  cases h8
  exact aR (Er:=Er) (R:=sh (isT2 K isI isI)) (i7 (K:=K) (aV (a8 (R:=sh isI) (a:=state.1) (v:=.int state.1) rfl) (aW (a8 (R:=sh (isT3 K isS isS isI)) Z05) (a8 (R:=sh isS) (a:=turn) (v:=.str (ar turn)) rfl))) (ld (aH (gP (a8 (R:=sh isS) (a:=turn) (v:=.str (ar turn)) rfl) (bq (x:=zx "i") (l:=[105]) (gk _ _ (by decide +kernel))))) (aV (a8 (R:=sh isI) (a:=state.2) (v:=.int state.2) rfl) ah) ah)) (A7 hq fun y12 hq v13 W14 e15 h16=>hq v13 W14 (E0.trans e15) h16)
theorem yX {f:Addr} {fd:zY} (F:Fun K "twisted" "twisted" (tp 16) f fd) {Z1Z:Tok} (Z1l:mg "HOLES" =some (.int 4 Z1Z)):FnOk P w K mg base CX0 (1) f fd ["tablet","twist"] (bw (isT3 K isS isS isI) isI (rs (isT3 K isS isS isI)) (xN)):=by
 have SC:FnScope ["tablet","twist","lay","holes","stand"] ["tablet","twist"] (defScope (tp 16)):=⟨rfl,rfl,rfl,by decide +kernel,rfl,by decide +kernel,by decide +kernel⟩
 refine F.ok SC (fun vs H Q E h=>?_) (fun cdv A outer s H vs Q E hr h=>?_)
 ·obtain⟨_,_,_,_,_,_,rfl,_⟩:=h;rfl
 ·obtain⟨W0,tablet,twist,Z07,_,rfl,rfl,Z05,ZbU,Er,hq⟩:=h
  cases ZbU
  refine⟨_,(af (dP (pv 0) (cq (K:=K) (n:=3) rfl rfl (aB (aq (i:=2) SC.nd rfl (by first | exact zH rfl | exact zG rfl)) (aB (aq (i:=3) SC.nd rfl (by first | exact zH rfl | exact zG rfl)) (aB (aq (i:=4) SC.nd rfl (by first | exact zH rfl | exact zG rfl)) cm)))))
   (ag (au (cE (a5 (pv 2) (a5 (pv 3) (a5 (ai aD (fb (ay bT (pv 2) bm (ax _)) (ai bn (pv 4) (pv 1)) (ai gJ (pv 4) (pv 1))) (cY (v:=.int 4) (by rfl) Z1l ⟨_,rfl⟩)) ae))))))),?_⟩
  have E0:Ext W0 W0:=.refl W0
  rw[show L2.start ["tablet","twist","lay","holes","stand"] [Z07,.int twist]=[some Z07,some (.int twist),none,none,none]from rfl]
  unfold xN at hq
  refine eg (Er:=Er) (R:=sh (isT3 K isS isS isI)) (a8 (R:=sh (isT3 K isS isS isI)) Z05) (fun v1 W2 e3 h4=>?_)
  have E0:=E0.trans e3
  refine tJ (σ':=fun v5 v7 v9=>[some Z07,some (.int twist),some v5,some v7,some v9]) h4 fun v5 v7 v9 h6 h8 h10=>?_
  cases h6
  cases h8
  cases h10
  exact aR (Er:=Er) (R:=sh (isT3 K isS isS isI)) (cO (K:=K) (a8 (R:=sh isS) (a:=tablet.1) (v:=.str (ar tablet.1)) rfl) (a8 (R:=sh isS) (a:=tablet.2.1) (v:=.str (ar tablet.2.1)) rfl) (aj (fun _=>by decide) (ld (aH (gP (a8 (R:=sh isS) (a:=tablet.1) (v:=.str (ar tablet.1)) rfl) (bq (x:=zx "S") (l:=[83]) (gk _ _ (by decide +kernel))))) (aV (a8 (R:=sh isI) (a:=tablet.2.2) (v:=.int tablet.2.2) rfl) (a8 (R:=sh isI) (a:=twist) (v:=.int twist) rfl)) (aV (a8 (R:=sh isI) (a:=tablet.2.2) (v:=.int tablet.2.2) rfl) (a8 (R:=sh isI) (a:=twist) (v:=.int twist) rfl))))) (A7 hq fun y13 hq v14 W15 e16 h17=>hq v14 W15 (E0.trans e16) h17)
theorem xj {f:Addr} {fd:zY} (F:Fun K "top" "top" (tp 4) f fd) {Z1Z:Tok} (Z1l:mg "HOLES" =some (.int 4 Z1Z)):FnOk P w K mg base CX0 (1) f fd ["tablet"] (cU (isT3 K isS isS isI) (rs isS) (oC)):=by
 have SC:FnScope ["tablet","lay","holes","stand"] ["tablet"] (defScope (tp 4)):=⟨rfl,rfl,rfl,by decide +kernel,rfl,by decide +kernel,by decide +kernel⟩
 refine F.ok SC (fun vs H Q E h=>?_) (fun cdv A outer s H vs Q E hr h=>?_)
 ·obtain⟨_,_,_,_,rfl,_⟩:=h;rfl
 ·obtain⟨W0,tablet,Z07,rfl,rfl,Z05,Er,hq⟩:=h
  refine⟨_,(af (dP (pv 0) (cq (K:=K) (n:=3) rfl rfl (aB (aq (i:=1) SC.nd rfl (by first | exact zH rfl | exact zG rfl)) (aB (aq (i:=2) SC.nd rfl (by first | exact zH rfl | exact zG rfl)) (aB (aq (i:=3) SC.nd rfl (by first | exact zH rfl | exact zG rfl)) cm)))))
   (ag (au (az bG (pv 2) (ai aD (pv 3) (cY (v:=.int 4) (by rfl) Z1l ⟨_,rfl⟩)) (fun _ _=>rfl))))),?_⟩
  have E0:Ext W0 W0:=.refl W0
  rw[show L2.start ["tablet","lay","holes","stand"] [Z07]=[some Z07,none,none,none]from rfl]
  unfold oC at hq
  refine eg (Er:=Er) (R:=sh (isT3 K isS isS isI)) (a8 (R:=sh (isT3 K isS isS isI)) Z05) (fun v1 W2 e3 h4=>?_)
  have E0:=E0.trans e3
  refine tJ (σ':=fun v5 v7 v9=>[some Z07,some v5,some v7,some v9]) h4 fun v5 v7 v9 h6 h8 h10=>?_
  cases h6
  cases h8
  cases h10
  exact aR (Er:=Er) (R:=sh isS) (bI (a8 (R:=sh isS) (a:=tablet.2.1) (v:=.str (ar tablet.2.1)) rfl) (aj (fun _=>by decide) (a8 (R:=sh isI) (a:=tablet.2.2) (v:=.int tablet.2.2) rfl))) (A7 hq fun y11 hq v12 W13 e14 h15=>hq v12 W13 (E0.trans e14) h15)
theorem yY {f:Addr} {fd:zY} (F:Fun K "bottom" "bottom" (tp 5) f fd) {Z1Z:Tok} (Z1l:mg "HOLES" =some (.int 4 Z1Z)):FnOk P w K mg base CX0 (1) f fd ["tablet"] (cU (isT3 K isS isS isI) (rs isS) (xO)):=by
 have SC:FnScope ["tablet","lay","holes","stand"] ["tablet"] (defScope (tp 5)):=⟨rfl,rfl,rfl,by decide +kernel,rfl,by decide +kernel,by decide +kernel⟩
 refine F.ok SC (fun vs H Q E h=>?_) (fun cdv A outer s H vs Q E hr h=>?_)
 ·obtain⟨_,_,_,_,rfl,_⟩:=h;rfl
 ·obtain⟨W0,tablet,Z07,rfl,rfl,Z05,Er,hq⟩:=h
  refine⟨_,(af (dP (pv 0) (cq (K:=K) (n:=3) rfl rfl (aB (aq (i:=1) SC.nd rfl (by first | exact zH rfl | exact zG rfl)) (aB (aq (i:=2) SC.nd rfl (by first | exact zH rfl | exact zG rfl)) (aB (aq (i:=3) SC.nd rfl (by first | exact zH rfl | exact zG rfl)) cm)))))
   (ag (au (az bG (pv 2) (ai aD (ai bn (pv 3) aa) (cY (v:=.int 4) (by rfl) Z1l ⟨_,rfl⟩)) (fun _ _=>rfl))))),?_⟩
  have E0:Ext W0 W0:=.refl W0
  rw[show L2.start ["tablet","lay","holes","stand"] [Z07]=[some Z07,none,none,none]from rfl]
  unfold xO at hq
  refine eg (Er:=Er) (R:=sh (isT3 K isS isS isI)) (a8 (R:=sh (isT3 K isS isS isI)) Z05) (fun v1 W2 e3 h4=>?_)
  have E0:=E0.trans e3
  refine tJ (σ':=fun v5 v7 v9=>[some Z07,some v5,some v7,some v9]) h4 fun v5 v7 v9 h6 h8 h10=>?_
  cases h6
  cases h8
  cases h10
  exact aR (Er:=Er) (R:=sh isS) (bI (a8 (R:=sh isS) (a:=tablet.2.1) (v:=.str (ar tablet.2.1)) rfl) (aj (fun _=>by decide) (aV (a8 (R:=sh isI) (a:=tablet.2.2) (v:=.int tablet.2.2) rfl) ah))) (A7 hq fun y11 hq v12 W13 e14 h15=>hq v12 W13 (E0.trans e14) h15)
theorem yZ {f:Addr} {fd:zY} (F:Fun K "left_place" "left_place" (tp 9) f fd) {gC:(Tx×Tx×Int)→Res Tx} {ut:(Tx×Tx×Int)→Res Tx} {ng:(Tx×Tx×Int)→Tx→Res Int} (C_top:Cal P w K mg base "top" ["tablet"] (1) (cU (isT3 K isS isS isI) (rs isS) gC)) (Z5d:Cal P w K mg base "bottom" ["tablet"] (1) (cU (isT3 K isS isS isI) (rs isS) ut)) (Z1k:Cal P w K mg base "twisting" ["tablet","turn"] (1) (bw (isT3 K isS isS isI) isS (rs isI) ng)) {Z1x:Addr} (Z5e:mg "SLANTS" =some (.ref Z1x)) (Z5f:DictK K w Z1x [(BU (1),.str (zx "s")),(BU (-1),.str (zx "z")),(BU (0),.str (zx "o"))]):FnOk P w K mg base CX0 (2) f fd ["tablet","turn"] (bw (isT3 K isS isS isI) isS (rs (isT3 K isS isS isS)) (xP gC ut ng)):=by
 have SC:FnScope ["tablet","turn"] ["tablet","turn"] (defScope (tp 9)):=⟨rfl,rfl,rfl,by decide +kernel,rfl,by decide +kernel,by decide +kernel⟩
 refine F.ok SC (fun vs H Q E h=>?_) (fun cdv A outer s H vs Q E hr h=>?_)
 ·obtain⟨_,_,_,_,_,_,rfl,_⟩:=h;rfl
 ·obtain⟨W0,tablet,turn,Z07,_,rfl,rfl,Z05,Z2I,Er,hq⟩:=h
  cases Z2I
  refine⟨_,(ag (au (cE (a5 (ak C_top (hr.mono (by decide)) (by rfl) (a5 (pv 0) ae)) (a5 (ak Z5d (hr.mono (by decide)) (by rfl) (a5 (pv 0) ae)) (a5 (jx (K:=K) (w:=w) rfl rfl (cY (v:=.ref _) (by rfl) Z5e rfl) (ak Z1k (hr.mono (by decide)) (by rfl) (a5 (pv 0) (a5 (pv 1) ae))) (fun _ _=>rfl)) ae)))))),?_⟩
  have E0:Ext W0 W0:=.refl W0
  rw[show L2.start ["tablet","turn"] [Z07,.str (ar turn)]=[some Z07,some (.str (ar turn))]from rfl]
  unfold xP at hq
  exact aR (Er:=Er) (R:=sh (isT3 K isS isS isS)) (cO (K:=K) (bJ (a8 (R:=sh (isT3 K isS isS isI)) Z05)) (bJ (a8 (R:=sh (isT3 K isS isS isI)) Z05)) (pA Z5f (by decide +kernel) (aW (a8 (R:=sh (isT3 K isS isS isI)) Z05) (a8 (R:=sh isS) (a:=turn) (v:=.str (ar turn)) rfl)))) (A7 hq fun y5 hq v6 W7 e8 h9=>hq v6 W7 (E0.trans e8) h9)
theorem z5 {f:Addr} {fd:zY} (F:Fun K "suits" "suits" (tp 13) f fd) {Z7S:Tok} (Z7T:mg "WORN" =some (.str (zx "?") Z7S)):FnOk P w K mg base CX0 (1) f fd ["sign","left"] (bw isS isS (rs isB) (xQ)):=by
 have SC:FnScope ["sign","left"] ["sign","left"] (defScope (tp 13)):=⟨rfl,rfl,rfl,by decide +kernel,rfl,by decide +kernel,by decide +kernel⟩
 refine F.ok SC (fun vs H Q E h=>?_) (fun cdv A outer s H vs Q E hr h=>?_)
 ·obtain⟨_,_,_,_,_,_,rfl,_⟩:=h;rfl
 ·obtain⟨W0,sign,left,_,_,rfl,rfl,Zce,Zcf,Er,hq⟩:=h
  cases Zce
  cases Zcf
  refine⟨_,(ag (au (wB (cn bT (pv 1) (cY (v:=.str (zx "?")) (by rfl) Z7T ⟨_,rfl⟩) (ax _)) (fY (cn bT (pv 1) (pv 0) (ax _)))))),?_⟩
  have E0:Ext W0 W0:=.refl W0
  rw[show L2.start ["sign","left"] [.str (ar sign),.str (ar left)]=[some (.str (ar sign)),some (.str (ar left))]from rfl]
  unfold xQ at hq
  exact aR (Er:=Er) (R:=sh isB) (wT (gP (a8 (R:=sh isS) (a:=left) (v:=.str (ar left)) rfl) (bq (x:=zx "?") (l:=[63]) (gk _ _ (by decide +kernel)))) (gP (a8 (R:=sh isS) (a:=left) (v:=.str (ar left)) rfl) (a8 (R:=sh isS) (a:=sign) (v:=.str (ar sign)) rfl))) (A7 hq fun y1 hq v2 W3 e4 h5=>hq v2 W3 (E0.trans e4) h5)
theorem z6 {f:Addr} {fd:zY} (F:Fun K "agrees" "agrees" (tp 12) f fd) {sX:Tx→Tx→Res Bool} (Z6i:Cal P w K mg base "suits" ["sign","left"] (1) (bw isS isS (rs isB) sX)) (h_all:mg "all" =none) (h_zip:mg "zip" =none):FnOk P w K mg base CX0 (2) f fd ["place","mark"] (bw (isT3 K isS isS isS) (isT3 K isS isS isS) (rs isB) (xR sX)):=by
 have SC:FnScope ["place","mark"] ["place","mark"] (defScope (tp 12)):=⟨rfl,rfl,rfl,by decide +kernel,rfl,by decide +kernel,by decide +kernel⟩
 refine F.ok SC (fun vs H Q E h=>?_) (fun cdv A outer s H vs Q E hr h=>?_)
 ·obtain⟨_,_,_,_,_,_,rfl,_⟩:=h;rfl
 ·obtain⟨W0,place,mark,Z9C,Z0D,rfl,rfl,ZbW,Z1D,Er,hq⟩:=h
  refine⟨_,(ag (au (aK (pq (K:=K) rfl rfl) (by rfl) h_all GR (a5 (eL (N:=["sign","left"]) (cap:=[none,none]) (i6 rfl (by decide +kernel) rfl (by decide +kernel) (by rfl) (by rfl)) rfl (gl (K:=K) rfl rfl h_zip (a5 (pv 0) (a5 (pv 1) ae))) (fun _ _ _ _=>(cq (K:=K) (n:=2) rfl rfl (aB (aq (i:=0) (show AU (["sign","left"]:List Str) by decide +kernel) rfl (by first | exact zH rfl | exact zG rfl)) (aB (aq (i:=1) (show AU (["sign","left"]:List Str) by decide +kernel) rfl (by first | exact zH rfl | exact zG rfl)) cm)))) (fun _ _ _ _=>cD) (fun _ _ _ _=>(ak Z6i (hr.mono (by decide)) (by rfl) (a5 (pv 0) (a5 (pv 1) ae))))) ae)))),?_⟩
  have E0:Ext W0 W0:=.refl W0
  rw[show L2.start ["place","mark"] [Z9C,Z0D]=[some Z9C,some Z0D]from rfl]
  unfold xR at hq
  exact aR (Er:=Er) (R:=sh isB) (vL (CW (eM (f:=fun(a1:Tx×Tx)=>sX a1.1 a1.2) (ko (nS (a8 (R:=sh (isT3 K isS isS isS)) ZbW)) (nS (a8 (R:=sh (isT3 K isS isS isS)) Z1D))) fun W3 a1 v2 e4 h5 Q10 k11=>by
   refine kq h5 fun v6 v8 h7 h9=>?_
   cases h7
   cases h9
   exact⟨by simp[Keep,bh],((aW (a8 (R:=sh isS) (a:=a1.1) (v:=.str (ar a1.1)) rfl) (a8 (R:=sh isS) (a:=a1.2) (v:=.str (ar a1.2)) rfl)):EV Er _ [some (.str (ar a1.1)),some (.str (ar a1.2))] _ _ _) _ (.refl _) _ k11⟩))) (A7 hq fun y13 hq v14 W15 e16 h17=>hq v14 W15 (E0.trans e16) h17)
theorem z7 {f:Addr} {fd:zY} (F:Fun K "leaves" "leaves" (tp 19) f fd) {uw:(Tx×Tx×Tx)→(Tx×Tx×Tx)→Res Bool} {uv:(Tx×Tx×Int)→Tx→Res (Tx×Tx×Tx)} {ur:(Tx×Tx×Int)→Int→Res (Tx×Tx×Int)} (Z5g:Cal P w K mg base "agrees" ["place","mark"] (2) (bw (isT3 K isS isS isS) (isT3 K isS isS isS) (rs isB) uw)) (Z2J:Cal P w K mg base "left_place" ["tablet","turn"] (2) (bw (isT3 K isS isS isI) isS (rs (isT3 K isS isS isS)) uv)) (Z4u:Cal P w K mg base "twisted" ["tablet","twist"] (1) (bw (isT3 K isS isS isI) isI (rs (isT3 K isS isS isI)) ur)):FnOk P w K mg base CX0 (3) f fd ["tablet","state","turn","mark"] (fS (isT3 K isS isS isI) (isT2 K isI isI) isS (isT3 K isS isS isS) (rs isB) (xT uw uv ur)):=by
 have SC:FnScope ["tablet","state","turn","mark"] ["tablet","state","turn","mark"] (defScope (tp 19)):=⟨rfl,rfl,rfl,by decide +kernel,rfl,by decide +kernel,by decide +kernel⟩
 refine F.ok SC (fun vs H Q E h=>?_) (fun cdv A outer s H vs Q E hr h=>?_)
 ·obtain⟨_,_,_,_,_,_,_,_,_,_,rfl,_⟩:=h;rfl
 ·obtain⟨W0,tablet,state,turn,mark,Z07,Z0A,_,Z0D,rfl,rfl,Z05,Z1X,Z2I,Z1D,Er,hq⟩:=h
  cases Z2I
  refine⟨_,(ag (au (ak Z5g (hr.mono (by decide)) (by rfl) (a5 (ak Z2J (hr.mono (by decide)) (by rfl) (a5 (ak Z4u (hr.mono (by decide)) (by rfl) (a5 (pv 0) (a5 (az (aP (K:=K) rfl) (pv 1) aa (fun _ _=>rfl)) ae))) (a5 (pv 2) ae))) (a5 (pv 3) ae))))),?_⟩
  have E0:Ext W0 W0:=.refl W0
  rw[show L2.start ["tablet","state","turn","mark"] [Z07,Z0A,.str (ar turn),Z0D]=[some Z07,some Z0A,some (.str (ar turn)),some Z0D]from rfl]
  unfold xT at hq
  exact aR (Er:=Er) (R:=sh isB) (aW (aW (aW (a8 (R:=sh (isT3 K isS isS isI)) Z05) (b9 (f:=fun(b:Int×Int)=>b.1) wW (a8 (R:=sh (isT2 K isI isI)) Z1X))) (a8 (R:=sh isS) (a:=turn) (v:=.str (ar turn)) rfl)) (a8 (R:=sh (isT3 K isS isS isS)) Z1D)) (A7 hq fun y3 hq v4 W5 e6 h7=>hq v4 W5 (E0.trans e6) h7)
theorem z8 {f:Addr} {fd:zY} (F:Fun K "onward" "onward" (tp 20) f fd) {sW:(Tx×Tx×Int)→(Int×Int)→Tx→Res (Int×Int)} {lO:(Int×Int)→Int→Int→Res Bool} {sr:(Tx×Tx×Int)→(Int×Int)→Tx→(Tx×Tx×Tx)→Res Bool} (Z20:Cal P w K mg base "state_behind" ["tablet","state","turn"] (2) (dj (isT3 K isS isS isI) (isT2 K isI isI) isS (rs (isT2 K isI isI)) sW)) (Z21:Cal P w K mg base "within" ["state","loose","bound"] (1) (dj (isT2 K isI isI) isI isI (rs isB) lO)) (Z5h:Cal P w K mg base "leaves" ["tablet","state","turn","mark"] (3) (fS (isT3 K isS isS isI) (isT2 K isI isI) isS (isT3 K isS isS isS) (rs isB) sr)) {Z6j:Tok} (Z6k:mg "TURNS" =some (.str (zx "fbi") Z6j)):FnOk P w K mg base CX0 (4) f fd ["tablet","mark","loose","bound","state"] (li (isT3 K isS isS isI) (isT3 K isS isS isS) isI isI (isT2 K isI isI) (ro (isT2 K isS (isT2 K isI isI))) (xV sW lO sr)):=by
 have SC:FnScope ["tablet","mark","loose","bound","state","moves"] ["tablet","mark","loose","bound","state"] (defScope (tp 20)):=⟨rfl,rfl,rfl,by decide +kernel,rfl,by decide +kernel,by decide +kernel⟩
 refine F.ok SC (fun vs H Q E h=>?_) (fun cdv A outer s H vs Q E hr h=>?_)
 ·obtain⟨_,_,_,_,_,_,_,_,_,_,_,_,rfl,_⟩:=h;rfl
 ·obtain⟨W0,tablet,mark,loose,bound,state,Z07,Z0D,_,_,Z0A,rfl,rfl,Z05,Z1D,Z0G,Z0V,Z1X,Er,hq⟩:=h
  cases Z0G
  cases Z0V
  refine⟨_,(af (mH (i:=5) SC.nd rfl (by first | exact zH rfl | exact zG rfl) (N:=["turn","tablet","state"]) (cap:=[none,some 0,some 4]) (i6 rfl (by decide +kernel) rfl (by decide +kernel) (by rfl) (by rfl)) rfl (jU (cY (v:=.str (zx "fbi")) (by rfl) Z6k ⟨_,rfl⟩)) (fun _ _ _ _=>(aq (i:=0) (show AU (["turn","tablet","state"]:List Str) by decide +kernel) rfl (by first | exact zH rfl | exact zG rfl))) (fun _ _ _ _=>cD) (fun _ _ _ _=>(cE (a5 (pv 0) (a5 (ak Z20 (hr.mono (by decide)) (by rfl) (a5 (pv 1) (a5 (pv 2) (a5 (pv 0) ae)))) ae)))))
   (ag (au (eL (N:=["turn","after","loose","bound","tablet","mark"]) (cap:=[none,none,some 2,some 3,some 0,some 1]) (i6 rfl (by decide +kernel) rfl (by decide +kernel) (by rfl) (by rfl)) rfl (cC (K:=K) rfl (pv 5)) (fun _ _ _ _=>(cq (K:=K) (n:=2) rfl rfl (aB (aq (i:=0) (show AU (["turn","after","loose","bound","tablet","mark"]:List Str) by decide +kernel) rfl (by first | exact zH rfl | exact zG rfl)) (aB (aq (i:=1) (show AU (["turn","after","loose","bound","tablet","mark"]:List Str) by decide +kernel) rfl (by first | exact zH rfl | exact zG rfl)) cm)))) (fun _ _ _ _=>(tD (FI (eE (df (ak Z21 (hr.mono (by decide)) (by rfl) (a5 (pv 1) (a5 (pv 2) (a5 (pv 3) ae))))) (di (df (ak Z5h (hr.mono (by decide)) (by rfl) (a5 (pv 4) (a5 (pv 1) (a5 (pv 0) (a5 (pv 5) ae))))))))))) (fun _ _ _ _=>(cE (a5 (pv 0) (a5 (pv 1) ae)))))))),?_⟩
  have E0:Ext W0 W0:=.refl W0
  rw[show L2.start ["tablet","mark","loose","bound","state","moves"] [Z07,Z0D,.int loose,.int bound,Z0A]=[some Z07,some Z0D,some (.int loose),some (.int bound),some Z0A,none]from rfl]
  unfold xV at hq
  refine ap (Er:=Er) (i:=5) (R:=sh (isL (isT2 K isS (isT2 K isI isI)))) (σ':=fun v16=>[some Z07,some Z0D,some (.int loose),some (.int bound),some Z0A,some v16]) (Cj (eM (f:=fun(a3:Tx)=>(sW tablet state a3).bind fun y12=>zt (a3,y12)) (kg (bq (x:=zx "fbi") (l:=[102,98,105]) (gk _ _ (by decide +kernel)))) fun W5 a3 v4 e6 h7 Q13 k14=>by
   have h8:=Am (R:=sh (isT3 K isS isS isI)) e6 Z05
   have h9:=Am (R:=sh (isT2 K isI isI)) e6 Z1X
   cases h7
   refine gn ?_
   exact⟨by simp[Keep,bh],((i7 (K:=K) (a8 (R:=sh isS) (a:=a3) (v:=.str (ar a3)) rfl) (dz (a8 (R:=sh (isT3 K isS isS isI)) h8) (a8 (R:=sh (isT2 K isI isI)) h9) (a8 (R:=sh isS) (a:=a3) (v:=.str (ar a3)) rfl))):EV Er _ [some (.str (ar a3)),some Z07,some Z0A] _ _ _) _ (.refl _) _ k14⟩)) ((zj hq).imp fun y15 hq v16 W1 e2 h17=>?_)
  have E0:=E0.trans e2
  have Z05:=zk (R:=(isT3 K isS isS isI)) e2.g Z05
  have Z1D:=zk (R:=(isT3 K isS isS isS)) e2.g Z1D
  exact i8 (Er:=Er) (qV (f:=fun(a18:Tx×(Int×Int))=>((lO a18.2 loose bound).bind fun y31=>if y31 then sr tablet a18.2 a18.1 mark else zt false).bind fun y33=>if y33 then zt (some (a18.1,a18.2))else zt none) (d5 (a8 (R:=sh (isL (isT2 K isS (isT2 K isI isI)))) h17)) fun W20 a18 v19 e21 h22 Q29 k30=>by
   have h23:=Am (R:=sh (isT3 K isS isS isI)) e21 Z05
   have h24:=Am (R:=sh (isT3 K isS isS isS)) e21 Z1D
   refine kq h22 fun v25 v27 h26 h28=>?_
   cases h26
   refine⟨by simp[Keep,bh],((gd (qT (dz (a8 (R:=sh (isT2 K isI isI)) h28) (a8 (R:=sh isI) (a:=loose) (v:=.int loose) rfl) (a8 (R:=sh isI) (a:=bound) (v:=.int bound) rfl))) (qT (fq (a8 (R:=sh (isT3 K isS isS isI)) h23) (a8 (R:=sh (isT2 K isI isI)) h28) (a8 (R:=sh isS) (a:=a18.1) (v:=.str (ar a18.1)) rfl) (a8 (R:=sh (isT3 K isS isS isS)) h24)))):TV Er _ [some (.str (ar a18.1)),some v27,some (.int loose),some (.int bound),some Z07,some Z0D] _ _) _ (.refl _) _ (A7 (P:=fun b32=>(if b32=true then zt (some (a18.1,a18.2))else zt none:Res (Option (Tx×(Int×Int)))).OkE Er _) (zj k30) fun b32 k36 W34 e35=>?_)⟩
   cases b32 with
   | false=>exact k36 none _ e35 trivial
   | true =>
    rw[if_pos rfl]
    refine EV.go (Er:=Er) (σ:=[some (.str (ar a18.1)),some v27,some (.int loose),some (.int bound),some Z07,some Z0D]) (W1:=W34) e35 (i7 (K:=K) (a8 (R:=sh isS) (a:=a18.1) (v:=.str (ar a18.1)) rfl) (a8 (R:=sh (isT2 K isI isI)) h28)) ?_
    exact fun u39 W37 e38 h40=>k36 (some u39) _ (e35.trans e38) h40) (A7 hq fun y42 hq p43 W44 e45 hp46 o47=>hq p43 W44 (E0.trans e45) (aT E0.h hp46) o47)
theorem z9 {f:Addr} {fd:zY} (F:Fun K "states_behind" "states_behind" (tp 22) f fd) {jb:(Tx×Tx×Int)→(Tx×Tx×Tx)→Int→Int→(Int×Int)→Res (List (Tx×(Int×Int)))} (Z22:Cal P w K mg base "onward" ["tablet","mark","loose","bound","state"] (4) (li (isT3 K isS isS isI) (isT3 K isS isS isS) isI isI (isT2 K isI isI) (ro (isT2 K isS (isT2 K isI isI))) jb)) (h_sorted:mg "sorted" =none):FnOk P w K mg base CX0 (5) f fd ["tablet","mark","loose","bound","states"] (li (isT3 K isS isS isI) (isT3 K isS isS isS) isI isI (isL (isT2 K isI isI)) (ro (isT2 K isI isI)) (xW jb)):=by
 have SC:FnScope ["tablet","mark","loose","bound","states"] ["tablet","mark","loose","bound","states"] (defScope (tp 22)):=⟨rfl,rfl,rfl,by decide +kernel,rfl,by decide +kernel,by decide +kernel⟩
 refine F.ok SC (fun vs H Q E h=>?_) (fun cdv A outer s H vs Q E hr h=>?_)
 ·obtain⟨_,_,_,_,_,_,_,_,_,_,_,_,rfl,_⟩:=h;rfl
 ·obtain⟨W0,tablet,mark,loose,bound,states,Z07,Z0D,_,_,Z7U,rfl,rfl,Z05,Z1D,Z0G,Z0V,Zbl,Er,hq⟩:=h
  cases Z0G
  cases Z0V
  refine⟨_,(ag (au (aK (kI rfl) (by rfl) h_sorted Ed (a5 (pQ (gc hr) (N:=["state","turn","after","tablet","mark","loose","bound"]) (cap:=[none,none,none,some 0,some 1,some 2,some 3]) (i6 rfl (by decide +kernel) rfl (by decide +kernel) (by rfl) (by rfl)) rfl (cC (K:=K) rfl (pv 4)) (fun _ _ _ _=>(aq (i:=0) (show AU (["state","turn","after","tablet","mark","loose","bound"]:List Str) by decide +kernel) rfl (by first | exact zH rfl | exact zG rfl))) (fun _ _ _ _=>cD) (fun _ _ _ _=>(cC (K:=K) rfl (ak Z22 (hr.mono (by decide)) (by rfl) (a5 (pv 3) (a5 (pv 4) (a5 (pv 5) (a5 (pv 6) (a5 (pv 0) ae)))))))) (fun _ _ _ _=>(cq (K:=K) (n:=2) rfl rfl (aB (aq (i:=1) (show AU (["state","turn","after","tablet","mark","loose","bound"]:List Str) by decide +kernel) rfl (by first | exact zH rfl | exact zG rfl)) (aB (aq (i:=2) (show AU (["state","turn","after","tablet","mark","loose","bound"]:List Str) by decide +kernel) rfl (by first | exact zH rfl | exact zG rfl)) cm)))) (fun _ _ _ _=>cD) (fun _ _ _ _=>(pv 2))) ae)))),?_⟩
  have E0:Ext W0 W0:=.refl W0
  rw[show L2.start ["tablet","mark","loose","bound","states"] [Z07,Z0D,.int loose,.int bound,Z7U]=[some Z07,some Z0D,some (.int loose),some (.int bound),some Z7U]from rfl]
  unfold xW at hq
  exact i8 (Er:=Er) (rV (f:=fun(a6:Int×Int) (s8:List (Int×Int))=>(jb tablet mark loose bound a6).bind fun y36=>bE (fun(a20:Tx×(Int×Int)) (s22:List (Int×Int))=>ly s22 a20.2) y36 s8) (d5 (a8 (R:=sh (isL (isT2 K isI isI))) Zbl)) (fun W1 D2 W5 a6 v7 s8 M9 hS10 e3 h4 e11 o12 h13 k14=>by
   have h15:=zk (R:=(isT3 K isS isS isI)) hS10 Z05
   have h16:=zk (R:=(isT3 K isS isS isS)) hS10 Z1D
   refine gn ?_
   exact⟨by simp[Keep,bh],rf (((vQ (f:=fun(a20:Tx×(Int×Int)) (s22:List (Int×Int))=>ly s22 a20.2) e11 (d5 (Cj (gR (a8 (R:=sh (isT3 K isS isS isI)) h15) (a8 (R:=sh (isT3 K isS isS isS)) h16) (a8 (R:=sh isI) (a:=loose) (v:=.int loose) rfl) (a8 (R:=sh isI) (a:=bound) (v:=.int bound) rfl) (a8 (R:=sh (isT2 K isI isI)) h13)))) (fun _ _ _ e o=>o.mono e) (fun W19 a20 v21 s22 M23 hS24 e25 o26 h27 k28=>by
    have h29:=zk (R:=(isT3 K isS isS isI)) hS24 h15
    have h30:=zk (R:=(isT3 K isS isS isS)) hS24 h16
    have h31:=zk (R:=(isT2 K isI isI)) hS24 h13
    refine kq h27 fun v32 v34 h33 h35=>?_
    cases h33
    exact⟨by simp[Keep,bh],rf (((vZ e25 h4 (a8 (R:=sh (isT2 K isI isI)) h35)):BV Er _ [some v7,some (.str (ar a20.1)),some v34,some Z07,some Z0D,some (.int loose),some (.int bound)] _ _ _ _ _) _ _ _ (.refl _) o26 k28)⟩)):BV Er _ [some v7,none,none,some Z07,some Z0D,some (.int loose),some (.int bound)] _ _ _ _ _) _ _ _ (.refl _) o12 k14)⟩)) (A7 hq fun y38 hq p39 W40 e41 hp42 o43=>hq p39 W40 (E0.trans e41) (aT E0.h hp42) o43)
theorem zc {f:Addr} {fd:zY} (F:Fun K "search" "search" (tp 21) f fd) {lO:(Int×Int)→Int→Int→Res Bool} {nh:(Tx×Tx×Int)→(Tx×Tx×Tx)→Int→Int→(List (Int×Int))→Res (List (Int×Int))} (Z21:Cal P w K mg base "within" ["state","loose","bound"] (1) (dj (isT2 K isI isI) isI isI (rs isB) lO)) (Z1E:Cal P w K mg base "states_behind" ["tablet","mark","loose","bound","states"] (5) (li (isT3 K isS isS isI) (isT3 K isS isS isS) isI isI (isL (isT2 K isI isI)) (ro (isT2 K isI isI)) nh)) {Z1m:Addr} (Z23:mg "START" =some (.ref Z1m)) (Z24:∀H,SqT K H Z1m [.int (0),.int (0)]):FnOk P w K mg base CX0 (6) f fd ["tablet","strip","loose","bound"] (fS (isT3 K isS isS isI) (isL (isT3 K isS isS isS)) isI isI (ro (isL (isT2 K isI isI))) (xX lO nh)):=by
 have SC:FnScope ["tablet","strip","loose","bound","lists","mark"] ["tablet","strip","loose","bound"] (defScope (tp 21)):=⟨rfl,rfl,rfl,by decide +kernel,rfl,by decide +kernel,by decide +kernel⟩
 refine F.ok SC (fun vs H Q E h=>?_) (fun cdv A outer s H vs Q E hr h=>?_)
 ·obtain⟨_,_,_,_,_,_,_,_,_,_,rfl,_⟩:=h;rfl
 ·obtain⟨W0,tablet,strip,loose,bound,Z07,Z0m,_,_,rfl,rfl,Z05,Z0b,Z0G,Z0V,Er,hq⟩:=h
  cases Z0G
  cases Z0V
  refine⟨_,(af (ao (i:=4) SC.nd rfl (by first | exact zH rfl | exact zG rfl) (bP (a5 (fb (df (ak Z21 (hr.mono (by decide)) (by rfl) (a5 (cY (v:=.ref _) (by rfl) Z23 rfl) (a5 (pv 2) (a5 (pv 3) ae))))) (bP (a5 (cY (v:=.ref _) (by rfl) Z23 rfl) ae)) (bP ae)) ae)))
   (af (du AI rfl (cC (K:=K) rfl (pv 1)) (aq (i:=5) SC.nd rfl (by first | exact zH rfl | exact zG rfl)) (af (br (ay (j5 hr.units0) (az (bi (K:=K) rfl) (pv 4) (gh eI aa) (fun _ _=>rfl)) (bP ae) (ax _)) (ag (au (pv 4))) aL)
   (ag (dE (cw (K:=K) rfl (pv 4) (a5 (ak Z1E (hr.mono (by decide)) (by rfl) (a5 (pv 0) (a5 (pv 5) (a5 (pv 2) (a5 (pv 3) (a5 (az (bi (K:=K) rfl) (pv 4) (gh eI aa) (fun _ _=>rfl)) ae)))))) ae))))))
   (ag (au (pv 4))))),?_⟩
  have E0:Ext W0 W0:=.refl W0
  rw[show L2.start ["tablet","strip","loose","bound","lists","mark"] [Z07,Z0m,.int loose,.int bound]=[some Z07,some Z0m,some (.int loose),some (.int bound),none,none]from rfl]
  unfold xX at hq
  refine cz (Er:=Er) (i:=4) (σ':=fun p6=>[some Z07,some Z0m,some (.int loose),some (.int bound),some (.ref p6),none]) (fo (bB (ld (qT (dz (iM Z24 (gI _) (gI _)) (a8 (R:=sh isI) (a:=loose) (v:=.int loose) rfl) (a8 (R:=sh isI) (a:=bound) (v:=.int bound) rfl))) (Cj (fo (bB (iM Z24 (gI _) (gI _)) (fk (R:=(isT2 K isI isI)))))) (Cj (fJ (R:=(isT2 K isI isI))))) (fk (R:=(isL (isT2 K isI isI)))))) ((zj hq).imp fun y5 hq p6 W1 e2 hp7 o8=>?_)
  have fr9:=aT E0.h hp7
  have E0:=E0.trans e2
  have Z05:=zk (R:=(isT3 K isS isS isI)) e2.g Z05
  have Z0b:=zk (R:=(isL (isT3 K isS isS isS))) e2.g Z0b
  refine pp (Er:=Er) (f:=(uZ nh tablet loose bound)) (s0:=y5) (Iv:=fun(s12:(List (List (Int×Int)))) (W13:Wd) (g14:St)=>∃(d16:Option V),g14=[some Z07,some Z0m,some (.int loose),some (.int bound),some (.ref p6),d16]∧Ext W0 W13∧Ow (isL (isT2 K isI isI)) W13 p6 s12) (d5 (a8 (R:=sh (isL (isT3 K isS isS isS))) Z0b)) (zj hq) ?_ ?_ ?_
  ·intro W28 e29
   have E0:=E0.trans e29
   have Z05:=zk (R:=(isT3 K isS isS isI)) e29.g Z05
   have o8:=o8.mono e29
   exact⟨_,rfl,E0,o8⟩
  ·intro Wb17 W18 W19 a10 v20 s11 sg21 P22 hW23 hB24 iv e25 h26 hrt27 hq
   obtain⟨d16,rfl,E0,o15⟩:=iv
   have Z05:=zk (R:=(isT3 K isS isS isI)) hW23 Z05
   have E0:=E0.trans e25
   have hB24:=hB24.trans e25.g
   have Z05:=zk (R:=(isT3 K isS isS isI)) e25.g Z05
   have o15:=o15.mono e25
   refine gn (σ':=[some Z07,some Z0m,some (.int loose),some (.int bound),some (.ref p6),some v20]) ?_
   unfold uZ at hq
   refine cQ (Er:=Er) (aH (j6 (CY (cv (cN o15) (fj ah))))) ((zj hq).imp fun y33 hq W34 e35=>?_)
   have E0:=E0.trans e35
   have hB24:=hB24.trans e35.g
   have Z05:=zk (R:=(isT3 K isS isS isI)) e35.g Z05
   have o15:=o15.mono e35
   have h26:=zk (R:=(isT3 K isS isS isS)) e35.g h26
   by_cases hb41:y33=true
   ·rw[if_pos hb41]at hq ⊢
    exact⟨.ref p6,rfl,(hrt27 _ hq) p6 W34 E0 fr9 o15⟩
   ·rw[if_neg hb41]at hq ⊢
    try dsimp only[aF]
    refine ft (Er:=Er) o15 (Cj (gR (a8 (R:=sh (isT3 K isS isS isI)) Z05) (a8 (R:=sh (isT3 K isS isS isS)) h26) (a8 (R:=sh isI) (a:=loose) (v:=.int loose) rfl) (a8 (R:=sh isI) (a:=bound) (v:=.int bound) rfl) (cv (cN o15) (fj ah)))) ((zj hq).imp fun y40 hq W37 mu38 o39=>?_)
    have E0:=mu38.e _ E0 fr9
    have hB24:=hB24.trans mu38.g
    have Z05:=zk (R:=(isT3 K isS isS isI)) mu38.g Z05
    have h26:=zk (R:=(isT3 K isS isS isS)) mu38.g h26
    try dsimp only
    refine dB (W:=W37) y40 hB24 ?_ hq
    exact⟨_,rfl,E0,o39⟩
  ·intro s42 W43 sg44 hS45 iv hq
   obtain⟨d16,rfl,E0,o15⟩:=iv
   exact⟨.ref p6,rfl,hq p6 W43 E0 fr9 o15⟩
theorem zd {f:Addr} {fd:zY} (F:Fun K "tails" "tails" (tp 23) f fd) {gU:(Tx×Tx×Int)→(List (Tx×Tx×Tx))→Int→Int→Res (List (List (Int×Int)))} {jb:(Tx×Tx×Int)→(Tx×Tx×Tx)→Int→Int→(Int×Int)→Res (List (Tx×(Int×Int)))} (Z0Q:Cal P w K mg base "search" ["tablet","strip","loose","bound"] (6) (fS (isT3 K isS isS isI) (isL (isT3 K isS isS isS)) isI isI (ro (isL (isT2 K isI isI))) gU)) (Z22:Cal P w K mg base "onward" ["tablet","mark","loose","bound","state"] (4) (li (isT3 K isS isS isI) (isT3 K isS isS isS) isI isI (isT2 K isI isI) (ro (isT2 K isS (isT2 K isI isI))) jb)) (h_len:mg "len" =none) (h_range:mg "range" =none) (h_reversed:mg "reversed" =none) (h_sum:mg "sum" =none):FnOk P w K mg base CX0 (7) f fd ["tablet","strip","loose","bound"] (fS (isT3 K isS isS isI) (isL (isT3 K isS isS isS)) isI isI (ro (isPD P w K isI)) (xY gU jb)):=by
 have SC:FnScope ["tablet","strip","loose","bound","lists","counts","at","ahead","moves"] ["tablet","strip","loose","bound"] (defScope (tp 23)):=⟨rfl,rfl,rfl,by decide +kernel,rfl,by decide +kernel,by decide +kernel⟩
 refine F.ok SC (fun vs H Q E h=>?_) (fun cdv A outer s H vs Q E hr h=>?_)
 ·obtain⟨_,_,_,_,_,_,_,_,_,_,rfl,_⟩:=h;rfl
 ·obtain⟨W0,tablet,strip,loose,bound,Z07,Z0m,_,_,rfl,rfl,Z05,Z0b,Z0G,Z0V,Er,hq⟩:=h
  cases Z0G
  cases Z0V
  refine⟨_,(af (ao (i:=4) SC.nd rfl (by first | exact zH rfl | exact zG rfl) (ak Z0Q (hr.mono (by decide)) (by rfl) (a5 (pv 0) (a5 (pv 1) (a5 (pv 2) (a5 (pv 3) ae))))))
   (af (ao (i:=5) SC.nd rfl (by first | exact zH rfl | exact zG rfl) (bP (a5 (gT (gc hr) (N:=["state"]) (cap:=[none]) (i6 rfl (by decide +kernel) rfl (by decide +kernel) (by rfl) (by rfl)) rfl (cC (K:=K) rfl (az (bi (K:=K) rfl) (pv 4) (gh eI aa) (fun _ _=>rfl))) (fun _ _ _ _=>(aq (i:=0) (show AU (["state"]:List Str) by decide +kernel) rfl (by first | exact zH rfl | exact zG rfl))) (fun _ _ _ _=>cD) (fun _ _ _ _=>(pv 0)) (fun _ _ _ _=>aa)) ae)))
   (af (du AI rfl (pW rfl h_reversed rfl h_range (a5 (ai gJ (aK (bZ (K:=K) rfl) (by rfl) h_len PySem.boot_len (a5 (pv 4) ae)) aa) ae)) (aq (i:=6) SC.nd rfl (by first | exact zH rfl | exact zG rfl)) (af (ao (i:=7) SC.nd rfl (by first | exact zH rfl | exact zG rfl) (az (bi (K:=K) rfl) (pv 5) (gh eI aa) (fun _ _=>rfl)))
   (af (ao (i:=8) SC.nd rfl (by first | exact zH rfl | exact zG rfl) (gT (gc hr) (N:=["state","tablet","strip","at","loose","bound"]) (cap:=[none,some 0,some 1,some 6,some 2,some 3]) (i6 rfl (by decide +kernel) rfl (by decide +kernel) (by rfl) (by rfl)) rfl (cC (K:=K) rfl (az (bi (K:=K) rfl) (pv 4) (pv 6) (fun _ _=>rfl))) (fun _ _ _ _=>(aq (i:=0) (show AU (["state","tablet","strip","at","loose","bound"]:List Str) by decide +kernel) rfl (by first | exact zH rfl | exact zG rfl))) (fun _ _ _ _=>cD) (fun _ _ _ _=>(pv 0)) (fun _ _ _ _=>(ak Z22 (hr.mono (by decide)) (by rfl) (a5 (pv 1) (a5 (az (bi (K:=K) rfl) (pv 2) (pv 3) (fun _ _=>rfl)) (a5 (pv 4) (a5 (pv 5) (a5 (pv 0) ae)))))))))
   (ag (dE (cw (K:=K) rfl (pv 5) (a5 (gT (gc hr) (N:=["state","moves","ahead"]) (cap:=[none,some 8,some 7]) (i6 rfl (by decide +kernel) rfl (by decide +kernel) (by rfl) (by rfl)) rfl (pV (P:=P) (w:=w) (K:=K) rfl rfl rfl (pv 8)) (fun _ _ _ _=>(aq (i:=0) (show AU (["state","moves","ahead"]:List Str) by decide +kernel) rfl (by first | exact zH rfl | exact zG rfl))) (fun _ _ _ _=>cD) (fun _ _ _ _=>(pv 0)) (fun _ _ _ _=>(aK (pb (K:=K) rfl rfl) (by rfl) h_sum GS (a5 (eL (N:=["turn","after","ahead"]) (cap:=[none,none,some 2]) (i6 rfl (by decide +kernel) rfl (by decide +kernel) (by rfl) (by rfl)) rfl (cC (K:=K) rfl (lN (P:=P) (w:=w) (K:=K) rfl rfl rfl (gc hr) (pv 1) (pv 0) (fun _ _=>rfl))) (fun _ _ _ _=>(cq (K:=K) (n:=2) rfl rfl (aB (aq (i:=0) (show AU (["turn","after","ahead"]:List Str) by decide +kernel) rfl (by first | exact zH rfl | exact zG rfl)) (aB (aq (i:=1) (show AU (["turn","after","ahead"]:List Str) by decide +kernel) rfl (by first | exact zH rfl | exact zG rfl)) cm)))) (fun _ _ _ _=>cD) (fun _ _ _ _=>(lN (P:=P) (w:=w) (K:=K) rfl rfl rfl (gc hr) (pv 2) (pv 1) (fun _ _=>rfl)))) ae)))) ae)))))))
   (ag (au (lb (K:=K) rfl (fun a b=>[.ref a,.ref b]) (fun _ _=>rfl) (pv 5) (fH (gh eI aa)))))))),?_⟩
  have E0:Ext W0 W0:=.refl W0
  rw[show L2.start ["tablet","strip","loose","bound","lists","counts","at","ahead","moves"] [Z07,Z0m,.int loose,.int bound]=[some Z07,some Z0m,some (.int loose),some (.int bound),none,none,none,none,none]from rfl]
  unfold xY at hq
  refine ap (Er:=Er) (i:=4) (R:=sh (isL (isL (isT2 K isI isI)))) (σ':=fun v4=>[some Z07,some Z0m,some (.int loose),some (.int bound),some v4,none,none,none,none]) (Cj (ee (a8 (R:=sh (isT3 K isS isS isI)) Z05) (a8 (R:=sh (isL (isT3 K isS isS isS))) Z0b) (a8 (R:=sh isI) (a:=loose) (v:=.int loose) rfl) (a8 (R:=sh isI) (a:=bound) (v:=.int bound) rfl))) ((zj hq).imp fun y3 hq v4 W1 e2 h5=>?_)
  have E0:=E0.trans e2
  have Z05:=zk (R:=(isT3 K isS isS isI)) e2.g Z05
  have Z0b:=zk (R:=(isL (isT3 K isS isS isS))) e2.g Z0b
  refine cz (Er:=Er) (i:=5) (σ':=fun p27=>[some Z07,some Z0m,some (.int loose),some (.int bound),some v4,some (.ref p27),none,none,none]) (fo (bB (HD (j9 (R:=isI) (f:=fun(a13:Int×Int) (s15:List ((Int×Int)×Int))=>gB s15 a13 (1:Int)) (d5 (cv (CY (a8 (R:=sh (isL (isL (isT2 K isI isI)))) h5)) (fj ah))) (fun W8 D9 W12 a13 v14 s15 M16 hS17 e10 h11 e18 o19 h20 k21=>by
   refine gn ?_
   exact⟨by simp[Keep,bh],rf (((j8 e18 h11 (a8 (R:=sh (isT2 K isI isI)) h20) ah):BV Er _ [some v14] _ _ _ _ _) _ _ _ (.refl _) o19 k21)⟩))) (fk (R:=(isPD P w K isI))))) ((zj hq).imp fun y26 hq p27 W6 e7 hp28 o29=>?_)
  have fr30:=aT E0.h hp28
  have E0:=E0.trans e7
  have Z05:=zk (R:=(isT3 K isS isS isI)) e7.g Z05
  have Z0b:=zk (R:=(isL (isT3 K isS isS isS))) e7.g Z0b
  have h5:=zk (R:=(isL (isL (isT2 K isI isI)))) e7.g h5
  refine dA (Er:=Er) (f:=(wz jb tablet strip loose bound y3)) (s0:=y26) (Iv:=fun(s33:(List (List ((Int×Int)×Int)))) (W34:Wd) (g35:St)=>∃(d37:Option V) (d38:Option V) (d39:Option V),g35=[some Z07,some Z0m,some (.int loose),some (.int bound),some v4,some (.ref p27),d39,d37,d38]∧Ext W0 W34∧Ow (isPD P w K isI) W34 p27 s33) (pX (aV (fK (CY (a8 (R:=sh (isL (isL (isT2 K isI isI)))) h5))) ah)) (zj hq) ?_ ?_ ?_
  ·intro W51 e52
   have E0:=E0.trans e52
   have Z05:=zk (R:=(isT3 K isS isS isI)) e52.g Z05
   have Z0b:=zk (R:=(isL (isT3 K isS isS isS))) e52.g Z0b
   have h5:=zk (R:=(isL (isL (isT2 K isI isI)))) e52.g h5
   have o29:=o29.mono e52
   exact⟨_,_,_,rfl,E0,o29⟩
  ·intro Wb40 W41 W42 a31 v43 s32 sg44 P45 hW46 hB47 iv e48 h49 hq
   obtain⟨d37,d38,d39,rfl,E0,o36⟩:=iv
   have Z05:=zk (R:=(isT3 K isS isS isI)) hW46 Z05
   have Z0b:=zk (R:=(isL (isT3 K isS isS isS))) hW46 Z0b
   have h5:=zk (R:=(isL (isL (isT2 K isI isI)))) hW46 h5
   have E0:=E0.trans e48
   have hB47:=hB47.trans e48.g
   have Z05:=zk (R:=(isT3 K isS isS isI)) e48.g Z05
   have Z0b:=zk (R:=(isL (isT3 K isS isS isS))) e48.g Z0b
   have h5:=zk (R:=(isL (isL (isT2 K isI isI)))) e48.g h5
   have o36:=o36.mono e48
   cases h49
   refine gn (σ':=[some Z07,some Z0m,some (.int loose),some (.int bound),some v4,some (.ref p27),some (.int a31),d37,d38]) ?_
   unfold wz at hq
   refine ap (Er:=Er) (i:=7) (R:=sh (isPD P w K isI)) (σ':=fun v58=>[some Z07,some Z0m,some (.int loose),some (.int bound),some v4,some (.ref p27),some (.int a31),some v58,d38]) (cv (cN o36) (fj ah)) ((zj hq).imp fun y57 hq v58 W55 e56 h59=>?_)
   have E0:=E0.trans e56
   have hB47:=hB47.trans e56.g
   have Z05:=zk (R:=(isT3 K isS isS isI)) e56.g Z05
   have Z0b:=zk (R:=(isL (isT3 K isS isS isS))) e56.g Z0b
   have h5:=zk (R:=(isL (isL (isT2 K isI isI)))) e56.g h5
   have o36:=o36.mono e56
   refine ap (Er:=Er) (i:=8) (R:=sh (isPD P w K (isL (isT2 K isS (isT2 K isI isI))))) (σ':=fun v84=>[some Z07,some Z0m,some (.int loose),some (.int bound),some v4,some (.ref p27),some (.int a31),some v58,some v84]) (HD (j9 (R:=(isL (isT2 K isS (isT2 K isI isI)))) (f:=fun(a67:Int×Int) (s69:List ((Int×Int)×(List (Tx×(Int×Int)))))=>((eW strip a31).bind fun y80=>jb tablet y80 loose bound a67).bind fun y81=>gB s69 a67 y81) (d5 (cv (CY (a8 (R:=sh (isL (isL (isT2 K isI isI)))) h5)) (a8 (R:=sh isI) (a:=a31) (v:=.int a31) rfl))) (fun W62 D63 W66 a67 v68 s69 M70 hS71 e64 h65 e72 o73 h74 k75=>by
    have h76:=zk (R:=(isT3 K isS isS isI)) hS71 Z05
    have h77:=zk (R:=(isL (isT3 K isS isS isS))) hS71 Z0b
    refine gn ?_
    exact⟨by simp[Keep,bh],rf (((j8 e72 h65 (a8 (R:=sh (isT2 K isI isI)) h74) (Cj (gR (a8 (R:=sh (isT3 K isS isS isI)) h76) (cv (CY (a8 (R:=sh (isL (isT3 K isS isS isS))) h77)) (a8 (R:=sh isI) (a:=a31) (v:=.int a31) rfl)) (a8 (R:=sh isI) (a:=loose) (v:=.int loose) rfl) (a8 (R:=sh isI) (a:=bound) (v:=.int bound) rfl) (a8 (R:=sh (isT2 K isI isI)) h74)))):BV Er _ [some v68,some Z07,some Z0m,some (.int a31),some (.int loose),some (.int bound)] _ _ _ _ _) _ _ _ (.refl _) o73 k75)⟩))) ((zj hq).imp fun y83 hq v84 W60 e61 h85=>?_)
   have E0:=E0.trans e61
   have hB47:=hB47.trans e61.g
   have Z05:=zk (R:=(isT3 K isS isS isI)) e61.g Z05
   have Z0b:=zk (R:=(isL (isT3 K isS isS isS))) e61.g Z0b
   have h5:=zk (R:=(isL (isL (isT2 K isI isI)))) e61.g h5
   have o36:=o36.mono e61
   have h59:=zk (R:=(isPD P w K isI)) e61.g h59
   refine ft (Er:=Er) o36 (HD (j9 (R:=isI) (f:=fun(a91:Int×Int) (s93:List ((Int×Int)×Int))=>(((getD y83 a91).bind fun y116=>dJ y116 (fun(a104:Tx×(Int×Int))=>getD y57 a104.2)).bind fun y117=>zt y117.sum).bind fun y118=>gB s93 a91 y118) (sq (a8 (R:=sh (isPD P w K (isL (isT2 K isS (isT2 K isI isI))))) h85)) (fun W86 D87 W90 a91 v92 s93 M94 hS95 e88 h89 e96 o97 h98 k99=>by
    have h100:=zk (R:=(isPD P w K (isL (isT2 K isS (isT2 K isI isI))))) hS95 h85
    have h101:=zk (R:=(isPD P w K isI)) hS95 h59
    refine gn ?_
    exact⟨by simp[Keep,bh],rf (((j8 e96 h89 (a8 (R:=sh (isT2 K isI isI)) h98) (vK (CW (eM (f:=fun(a104:Tx×(Int×Int))=>getD y57 a104.2) (d5 (oA (a8 (R:=sh (isPD P w K (isL (isT2 K isS (isT2 K isI isI))))) h100) (a8 (R:=sh (isT2 K isI isI)) h98))) fun W106 a104 v105 e107 h108 Q114 k115=>by
     have h109:=Am (R:=sh (isPD P w K isI)) e107 h101
     refine kq h108 fun v110 v112 h111 h113=>?_
     cases h111
     exact⟨by simp[Keep,bh],((oA (a8 (R:=sh (isPD P w K isI)) h109) (a8 (R:=sh (isT2 K isI isI)) h113)):EV Er _ [some (.str (ar a104.1)),some v112,some v58] _ _ _) _ (.refl _) _ k115⟩)))):BV Er _ [some v92,some v84,some v58] _ _ _ _ _) _ _ _ (.refl _) o97 k99)⟩))) ((zj hq).imp fun y122 hq W119 mu120 o121=>?_)
   have E0:=mu120.e _ E0 fr30
   have hB47:=hB47.trans mu120.g
   have Z05:=zk (R:=(isT3 K isS isS isI)) mu120.g Z05
   have Z0b:=zk (R:=(isL (isT3 K isS isS isS))) mu120.g Z0b
   have h5:=zk (R:=(isL (isL (isT2 K isI isI)))) mu120.g h5
   have h59:=zk (R:=(isPD P w K isI)) mu120.g h59
   have h85:=zk (R:=(isPD P w K (isL (isT2 K isS (isT2 K isI isI))))) mu120.g h85
   try dsimp only
   refine dB (W:=W119) y122 hB47 ?_ hq
   exact⟨_,_,_,rfl,E0,o121⟩
  ·intro s125 W126 sg127 hS128 iv hq
   obtain⟨d37,d38,d39,rfl,E0,o36⟩:=iv
   exact i8 (Er:=Er) (tS (cN o36)) (fun p129 W130 e131 hp132 o133=>hq p129 W130 (E0.trans e131) (aT E0.h hp132) o133)
theorem ze {f:Addr} {fd:zY} (F:Fun K "ways" "ways" (tp 24) f fd) {ux:(Tx×Tx×Int)→(List (Tx×Tx×Tx))→Int→Int→Res (List (List ((Int×Int)×Int)))} (Z6l:Cal P w K mg base "tails" ["tablet","strip","loose","bound"] (7) (fS (isT3 K isS isS isI) (isL (isT3 K isS isS isS)) isI isI (ro (isPD P w K isI)) ux)) {Z1m:Addr} (Z23:mg "START" =some (.ref Z1m)) (Z24:∀H,SqT K H Z1m [.int (0),.int (0)]):FnOk P w K mg base CX0 (8) f fd ["tablet","strip","loose","bound"] (fS (isT3 K isS isS isI) (isL (isT3 K isS isS isS)) isI isI (rs isI) (xZ ux)):=by
 have SC:FnScope ["tablet","strip","loose","bound"] ["tablet","strip","loose","bound"] (defScope (tp 24)):=⟨rfl,rfl,rfl,by decide +kernel,rfl,by decide +kernel,by decide +kernel⟩
 refine F.ok SC (fun vs H Q E h=>?_) (fun cdv A outer s H vs Q E hr h=>?_)
 ·obtain⟨_,_,_,_,_,_,_,_,_,_,rfl,_⟩:=h;rfl
 ·obtain⟨W0,tablet,strip,loose,bound,Z07,Z0m,_,_,rfl,rfl,Z05,Z0b,Z0G,Z0V,Er,hq⟩:=h
  cases Z0G
  cases Z0V
  refine⟨_,(ag (au (sj (gc hr) (az (bi (K:=K) rfl) (ak Z6l (hr.mono (by decide)) (by rfl) (a5 (pv 0) (a5 (pv 1) (a5 (pv 2) (a5 (pv 3) ae))))) aa (fun _ _=>rfl)) (cY (v:=.ref _) (by rfl) Z23 rfl) aa))),?_⟩
  have E0:Ext W0 W0:=.refl W0
  rw[show L2.start ["tablet","strip","loose","bound"] [Z07,Z0m,.int loose,.int bound]=[some Z07,some Z0m,some (.int loose),some (.int bound)]from rfl]
  unfold xZ at hq
  exact aR (Er:=Er) (R:=sh isI) (sn (cv (CW (ee (a8 (R:=sh (isT3 K isS isS isI)) Z05) (a8 (R:=sh (isL (isT3 K isS isS isS))) Z0b) (a8 (R:=sh isI) (a:=loose) (v:=.int loose) rfl) (a8 (R:=sh isI) (a:=bound) (v:=.int bound) rfl))) ah) (iM Z24 (gI _) (gI _)) ah) (A7 hq fun y3 hq v4 W5 e6 h7=>hq v4 W5 (E0.trans e6) h7)
theorem zf {f:Addr} {fd:zY} (F:Fun K "least" "least" (tp 25) f fd) {gU:(Tx×Tx×Int)→(List (Tx×Tx×Tx))→Int→Int→Res (List (List (Int×Int)))} (Z0Q:Cal P w K mg base "search" ["tablet","strip","loose","bound"] (6) (fS (isT3 K isS isS isI) (isL (isT3 K isS isS isS)) isI isI (ro (isL (isT2 K isI isI))) gU)) (h_len:mg "len" =none):FnOk P w K mg base CX0 (7) f fd ["tablet","strip","loose"] (dj (isT3 K isS isS isI) (isL (isT3 K isS isS isS)) isI (rs (isO isI)) (yb gU)):=by
 have SC:FnScope ["tablet","strip","loose","bound"] ["tablet","strip","loose"] (defScope (tp 25)):=⟨rfl,rfl,rfl,by decide +kernel,rfl,by decide +kernel,by decide +kernel⟩
 refine F.ok SC (fun vs H Q E h=>?_) (fun cdv A outer s H vs Q E hr h=>?_)
 ·obtain⟨_,_,_,_,_,_,_,_,rfl,_⟩:=h;rfl
 ·obtain⟨W0,tablet,strip,loose,Z07,Z0m,_,rfl,rfl,Z05,Z0b,Z0G,Er,hq⟩:=h
  cases Z0G
  refine⟨_,(af (br (ay (j5 hr.units0) (az (bi (K:=K) rfl) (ak Z0Q (hr.mono (by decide)) (by rfl) (a5 (pv 0) (a5 (pv 1) (a5 (pv 2) (a5 (aK (bZ (K:=K) rfl) (by rfl) h_len PySem.boot_len (a5 (pv 1) ae)) ae))))) (gh eI aa) (fun _ _=>rfl)) (bP ae) (ax _)) (ag (au mn)) aL)
   (af (ao (i:=3) SC.nd rfl (by first | exact zH rfl | exact zG rfl) aa)
   (af (ql AI (ay (j5 hr.units0) (az (bi (K:=K) rfl) (ak Z0Q (hr.mono (by decide)) (by rfl) (a5 (pv 0) (a5 (pv 1) (a5 (pv 2) (a5 (pv 3) ae))))) (gh eI aa) (fun _ _=>rfl)) (bP ae) (ax _)) (ag (vp (i:=3) SC.nd rfl (by first | exact zH rfl | exact zG rfl) aa vq)))
   (ag (au (pv 3)))))),?_⟩
  have E0:Ext W0 W0:=.refl W0
  rw[show L2.start ["tablet","strip","loose","bound"] [Z07,Z0m,.int loose]=[some Z07,some Z0m,some (.int loose),none]from rfl]
  unfold yb at hq
  refine cQ (Er:=Er) (aH (j6 (CY (cv (CW (ee (a8 (R:=sh (isT3 K isS isS isI)) Z05) (a8 (R:=sh (isL (isT3 K isS isS isS))) Z0b) (a8 (R:=sh isI) (a:=loose) (v:=.int loose) rfl) (fK (CY (a8 (R:=sh (isL (isT3 K isS isS isS))) Z0b))))) (fj ah))))) ((zj hq).imp fun y3 hq W4 e5=>?_)
  have E0:=E0.trans e5
  have Z05:=zk (R:=(isT3 K isS isS isI)) e5.g Z05
  have Z0b:=zk (R:=(isL (isT3 K isS isS isS))) e5.g Z0b
  by_cases hb38:y3=true
  ·rw[if_pos hb38]at hq ⊢
   exact aR (Er:=Er) (R:=sh (isO isI)) (tH (R:=isI)) (fun v6 W7 e8 h9=>hq v6 W7 (E0.trans e8) h9)
  ·rw[if_neg hb38]at hq ⊢
   try dsimp only[aF]
   refine ap (Er:=Er) (i:=3) (R:=sh isI) (σ':=fun v12=>[some Z07,some Z0m,some (.int loose),some v12]) ah (fun v12 W10 e11 h13=>?_)
   cases h13
   have E0:=E0.trans e11
   have Z05:=zk (R:=(isT3 K isS isS isI)) e11.g Z05
   have Z0b:=zk (R:=(isL (isT3 K isS isS isS))) e11.g Z0b
   refine mN (Er:=Er) (c:=(xh gU tablet strip loose)) (f:=xi) (s0:=(0:Int)) (n:=cap) (Iv:=fun(s16:Int) (W17:Wd) (g18:St)=>g18=[some Z07,some Z0m,some (.int loose),some (.int s16)]∧Ext W0 W17) (zj hq) ?_ ?_ ?_ ?_ ?_
   ·exact⟨rfl,E0⟩
   ·intro W20 W21 s15 sg22 e26 iv
    obtain⟨rfl,E0⟩:=iv
    have E0:=E0.trans e26
    exact⟨rfl,E0⟩
   ·intro W20 s15 sg22 hW24 iv
    obtain⟨rfl,E0⟩:=iv
    have Z05:=zk (R:=(isT3 K isS isS isI)) hW24 Z05
    have Z0b:=zk (R:=(isL (isT3 K isS isS isS))) hW24 Z0b
    unfold xh
    exact(aH (j6 (CY (cv (CW (ee (a8 (R:=sh (isT3 K isS isS isI)) Z05) (a8 (R:=sh (isL (isT3 K isS isS isS))) Z0b) (a8 (R:=sh isI) (a:=loose) (v:=.int loose) rfl) (a8 (R:=sh isI) (a:=s15) (v:=.int s15) rfl))) (fj ah)))))
   ·intro Wb19 W20 s15 sg22 P23 hW24 hB25 iv hq
    obtain⟨rfl,E0⟩:=iv
    have Z05:=zk (R:=(isT3 K isS isS isI)) hW24 Z05
    have Z0b:=zk (R:=(isL (isT3 K isS isS isS))) hW24 Z0b
    unfold xi at hq
    refine tR (Er:=Er) (i:=3) (a:=s15) (σ':=fun c=>[some Z07,some Z0m,some (.int loose),some (.int c)]) ah (fun W29 e30=>?_)
    have E0:=E0.trans e30
    have hB25:=hB25.trans e30.g
    have Z05:=zk (R:=(isT3 K isS isS isI)) e30.g Z05
    have Z0b:=zk (R:=(isL (isT3 K isS isS isS))) e30.g Z0b
    try dsimp only
    refine dB (W:=W29) (s15+(1:Int)) hB25 ?_ hq
    exact⟨rfl,E0⟩
   ·intro s31 W32 sg33 hS34 iv hq
    obtain⟨rfl,E0⟩:=iv
    exact aR (Er:=Er) (R:=sh (isO isI)) (r0 (a8 (R:=sh isI) (a:=s31) (v:=.int s31) rfl)) (fun v35 W36 e37 h38=>hq v35 W36 (E0.trans e37) h38)
theorem zg {f:Addr} {fd:zY} (F:Fun K "_law_order" "_law_order" (tp 46) f fd):FnOk P w K mg base CX0 (1) f fd ["_law_least_one"] (cU (isO isI) (rs isI) (yc)):=by
 have SC:FnScope ["_law_least_one"] ["_law_least_one"] (defScope (tp 46)):=⟨rfl,rfl,rfl,by decide +kernel,rfl,by decide +kernel,by decide +kernel⟩
 refine F.ok SC (fun vs H Q E h=>?_) (fun cdv A outer s H vs Q E hr h=>?_)
 ·obtain⟨_,_,_,_,rfl,_⟩:=h;rfl
 ·obtain⟨W0,Z16,Z4l,rfl,rfl,Z1s,Er,hq⟩:=h
  refine⟨_,(af (br (ay op_isN (pv 0) mn (ax _)) (ag (au aa)) aL)
   (ag (au (pv 0)))),?_⟩
  have E0:Ext W0 W0:=.refl W0
  rw[show L2.start ["_law_least_one"] [Z4l]=[some Z4l]from rfl]
  unfold yc at hq
  refine cQ (Er:=Er) (aH (vI (a8 (R:=sh (isO isI)) Z1s))) (fun W1 e2=>?_)
  have E0:=E0.trans e2
  have Z1s:=zk (R:=(isO isI)) e2.g Z1s
  by_cases hb11:Z16.isNone=true
  ·rw[if_pos hb11]at hq ⊢
   exact aR (Er:=Er) (R:=sh isI) ah (fun v3 W4 e5 h6=>hq v3 W4 (E0.trans e5) h6)
  ·rw[if_neg hb11]at hq ⊢
   try dsimp only[aF]
   exact aR (Er:=Er) (R:=sh isI) (vM (a8 (R:=sh (isO isI)) Z1s)) (A7 hq fun y7 hq v8 W9 e10 h11=>hq v8 W9 (E0.trans e10) h11)
theorem xk {f:Addr} {fd:zY} (F:Fun K "law" "law" (tp 47) f fd) {sV:List Int→Int→Res ((Tx×Tx×Int)×(List (Tx×Tx×Tx))×Int)} {gf:List Int→Int→Res Int} {qi:(Tx×Tx×Int)→(List (Tx×Tx×Tx))→Int→Int→Res Int} {gU:(Tx×Tx×Int)→(List (Tx×Tx×Tx))→Int→Int→Res (List (List (Int×Int)))} {su:(Option Int)→Res Int} {ss:(Tx×Tx×Int)→(List (Tx×Tx×Tx))→Int→Res (Option Int)} (Z3n:Cal P w K mg base "_law_case" ["_law_script","_law_most"] (5) (bw (isScr K) isI (rs (isT3 K (isT3 K isS isS isI) (isL (isT3 K isS isS isS)) isI)) sV)) (Z0v:Cal P w K mg base "_law_at" ["_law_script","_law_k"] (1) (bw (isScr K) isI (rs isI) gf)) (Z3I:Cal P w K mg base "ways" ["tablet","strip","loose","bound"] (8) (fS (isT3 K isS isS isI) (isL (isT3 K isS isS isS)) isI isI (rs isI) qi)) (Z0R:Cal P w K mg base "_law_same" ["_law_found","_law_due"] 26 (fP K 26)) (Z0Q:Cal P w K mg base "search" ["tablet","strip","loose","bound"] (6) (fS (isT3 K isS isS isI) (isL (isT3 K isS isS isS)) isI isI (ro (isL (isT2 K isI isI))) gU)) (Z1d:Cal P w K mg base "_law_order" ["_law_least_one"] (1) (cU (isO isI) (rs isI) su)) (Z3J:Cal P w K mg base "least" ["tablet","strip","loose"] (7) (dj (isT3 K isS isS isI) (isL (isT3 K isS isS isS)) isI (rs (isO isI)) ss)) (h_len:mg "len" =none) (h_list:mg "list" =none) (h_tuple:mg "tuple" =none):FnOk P w K mg base CX0 (27) f fd ["_law_script"] (cU (isScr K) (rs isB) (oD sV gf qi gU su ss)):=by
 have SC:FnScope ["_law_script","_law_card_here","_law_strip","_law_loose","_law_bound","_law_many","_law_base","_law_at_here","_law_mark","_law_worn"] ["_law_script"] (defScope (tp 47)):=⟨rfl,rfl,rfl,by decide +kernel,rfl,by decide +kernel,by decide +kernel⟩
 refine F.ok SC (fun vs H Q E h=>?_) (fun cdv A outer s H vs Q E hr h=>?_)
 ·obtain⟨_,_,_,_,rfl,_⟩:=h;rfl
 ·obtain⟨W0,Z0g,Z09,rfl,rfl,Z01,Er,hq⟩:=h
  refine⟨_,(af (dP (ak Z3n (hr.mono (by decide)) (by rfl) (a5 (pv 0) (a5 aa ae))) (cq (K:=K) (n:=3) rfl rfl (aB (aq (i:=1) SC.nd rfl (by first | exact zH rfl | exact zG rfl)) (aB (aq (i:=2) SC.nd rfl (by first | exact zH rfl | exact zG rfl)) (aB (aq (i:=3) SC.nd rfl (by first | exact zH rfl | exact zG rfl)) cm)))))
   (af (ao (i:=4) SC.nd rfl (by first | exact zH rfl | exact zG rfl) (ai aD (ak Z0v (hr.mono (by decide)) (by rfl) (a5 (pv 0) (a5 aa ae))) aa))
   (af (ao (i:=5) SC.nd rfl (by first | exact zH rfl | exact zG rfl) (ak Z3I (hr.mono (by decide)) (by rfl) (a5 (pv 1) (a5 (pv 2) (a5 (pv 3) (a5 (pv 4) ae))))))
   (af (br (ay nB (pv 5) (ak Z3I (hr.mono (by decide)) (by rfl) (a5 (pv 1) (a5 (pv 2) (a5 (pv 3) (a5 (ai bn (pv 4) aa) ae))))) (ax _)) (ag (au f9)) aL)
   (af (br (jM (df (ak Z0R (hr.mono (by decide)) (by rfl) (a5 (cn bT (pv 5) aa (ax _)) (a5 (cn (j5 hr.units0) (az (bi (K:=K) rfl) (ak Z0Q (hr.mono (by decide)) (by rfl) (a5 (pv 1) (a5 (pv 2) (a5 (pv 3) (a5 (pv 4) ae))))) (gh eI aa) (fun _ _=>rfl)) (bP ae) (ax _)) ae))))) (ag (au f9)) aL)
   (af (br (FI (eE (ay jq (pv 3) aa (ax _)) (di (ay nB (pv 5) (ak Z3I (hr.mono (by decide)) (by rfl) (a5 (pv 1) (a5 (pv 2) (a5 (ai bn (pv 3) aa) (a5 (pv 4) ae))))) (ax _))))) (ag (au f9)) aL)
   (af (ao (i:=6) SC.nd rfl (by first | exact zH rfl | exact zG rfl) (ak Z1d (hr.mono (by decide)) (by rfl) (a5 (ak Z3J (hr.mono (by decide)) (by rfl) (a5 (pv 1) (a5 (pv 2) (a5 (pv 3) ae)))) ae)))
   (af (br (FI (eE (ay jq (pv 3) aa (ax _)) (di (ay jq (pv 6) (ak Z1d (hr.mono (by decide)) (by rfl) (a5 (ak Z3J (hr.mono (by decide)) (by rfl) (a5 (pv 1) (a5 (pv 2) (a5 (ai bn (pv 3) aa) ae)))) ae)) (ax _))))) (ag (au f9)) aL)
   (af (br (ay (j5 hr.units0) (pv 2) (bP ae) (ax _)) (ag (au (fZ (ak Z0R (hr.mono (by decide)) (by rfl) (a5 (pv 6) (a5 aa ae))) (fY (ak Z0R (hr.mono (by decide)) (by rfl) (a5 (pv 5) (a5 aa ae))))))) aL)
   (af (ao (i:=7) SC.nd rfl (by first | exact zH rfl | exact zG rfl) (ai aD (ak Z0v (hr.mono (by decide)) (by rfl) (a5 (pv 0) (a5 aa ae))) (aK (bZ (K:=K) rfl) (by rfl) h_len PySem.boot_len (a5 (pv 2) ae))))
   (af (ao (i:=8) SC.nd rfl (by first | exact zH rfl | exact zG rfl) (fG (jj (K:=K) rfl) (by rfl) h_list CU (a5 (az (bi (K:=K) rfl) (pv 2) (pv 7) (fun _ _=>rfl)) ae)))
   (af (dP bm (jN (pv 8) (ai aD (ak Z0v (hr.mono (by decide)) (by rfl) (a5 (pv 0) (a5 aa ae))) aa) gj))
   (af (ao (i:=9) SC.nd rfl (by first | exact zH rfl | exact zG rfl) (ai qw (ai qw (fc (iF (K:=K) rfl) (pv 2) gi (fH (pv 7))) (bP (a5 (fG (fu (K:=K) rfl) (by rfl) h_tuple C5 (a5 (pv 8) ae)) ae))) (fc (iF (K:=K) rfl) (pv 2) (fH (ai bn (pv 7) aa)) gi)))
   (ag (au (fZ (cn qr (pv 5) (ak Z3I (hr.mono (by decide)) (by rfl) (a5 (pv 1) (a5 (pv 9) (a5 (pv 3) (a5 (pv 4) ae))))) (ax _)) (fY (cn nE (pv 6) (ak Z1d (hr.mono (by decide)) (by rfl) (a5 (ak Z3J (hr.mono (by decide)) (by rfl) (a5 (pv 1) (a5 (pv 9) (a5 (pv 3) ae)))) ae)) (ax _))))))))))))))))))),?_⟩
  have E0:Ext W0 W0:=.refl W0
  rw[show L2.start ["_law_script","_law_card_here","_law_strip","_law_loose","_law_bound","_law_many","_law_base","_law_at_here","_law_mark","_law_worn"] [Z09]=[some Z09,none,none,none,none,none,none,none,none,none]from rfl]
  unfold oD at hq
  refine eg (Er:=Er) (R:=sh (isT3 K (isT3 K isS isS isI) (isL (isT3 K isS isS isS)) isI)) (aW (a8 (R:=sh (isScr K)) Z01) ah) ((zj hq).imp fun y1 hq v2 W3 e4 h5=>?_)
  have E0:=E0.trans e4
  have Z01:=zk (R:=(isScr K)) e4.g Z01
  refine tJ (σ':=fun v6 v8 v10=>[some Z09,some v6,some v8,some v10,none,none,none,none,none,none]) h5 fun v6 v8 v10 h7 h9 h11=>?_
  cases h11
  refine ap (Er:=Er) (i:=4) (R:=sh isI) (σ':=fun v16=>[some Z09,some v6,some v8,some (.int y1.2.2),some v16,none,none,none,none,none]) (aj (fun _=>by decide) (aW (a8 (R:=sh (isScr K)) Z01) ah)) ((zj hq).imp fun y15 hq v16 W12 e13 h17=>?_)
  cases h17
  have E0:=E0.trans e13
  have Z01:=zk (R:=(isScr K)) e13.g Z01
  have h7:=zk (R:=(isT3 K isS isS isI)) e13.g h7
  have h9:=zk (R:=(isL (isT3 K isS isS isS))) e13.g h9
  refine ap (Er:=Er) (i:=5) (R:=sh isI) (σ':=fun v21=>[some Z09,some v6,some v8,some (.int y1.2.2),some (.int y15),some v21,none,none,none,none]) (fq (a8 (R:=sh (isT3 K isS isS isI)) h7) (a8 (R:=sh (isL (isT3 K isS isS isS))) h9) (a8 (R:=sh isI) (a:=y1.2.2) (v:=.int y1.2.2) rfl) (a8 (R:=sh isI) (a:=y15) (v:=.int y15) rfl)) ((zj hq).imp fun y20 hq v21 W18 e19 h22=>?_)
  cases h22
  have E0:=E0.trans e19
  have Z01:=zk (R:=(isScr K)) e19.g Z01
  have h7:=zk (R:=(isT3 K isS isS isI)) e19.g h7
  have h9:=zk (R:=(isL (isT3 K isS isS isS))) e19.g h9
  refine cQ (Er:=Er) (aH (cu (a8 (R:=sh isI) (a:=y20) (v:=.int y20) rfl) (fq (a8 (R:=sh (isT3 K isS isS isI)) h7) (a8 (R:=sh (isL (isT3 K isS isS isS))) h9) (a8 (R:=sh isI) (a:=y1.2.2) (v:=.int y1.2.2) rfl) (aV (a8 (R:=sh isI) (a:=y15) (v:=.int y15) rfl) ah)))) ((zj hq).imp fun y24 hq W25 e26=>?_)
  have E0:=E0.trans e26
  have Z01:=zk (R:=(isScr K)) e26.g Z01
  have h7:=zk (R:=(isT3 K isS isS isI)) e26.g h7
  have h9:=zk (R:=(isL (isT3 K isS isS isS))) e26.g h9
  by_cases hb109:y24=true
  ·rw[if_pos hb109]at hq ⊢
   exact aR (Er:=Er) (R:=sh isB) nN (fun v27 W28 e29 h30=>hq v27 W28 (E0.trans e29) h30)
  ·rw[if_neg hb109]at hq ⊢
   try dsimp only[aF]
   refine cQ (Er:=Er) (vJ (qT (iP (by decide) (cG (a8 (R:=sh isI) (a:=y20) (v:=.int y20) rfl) ah) (j6 (CY (cv (CW (ee (a8 (R:=sh (isT3 K isS isS isI)) h7) (a8 (R:=sh (isL (isT3 K isS isS isS))) h9) (a8 (R:=sh isI) (a:=y1.2.2) (v:=.int y1.2.2) rfl) (a8 (R:=sh isI) (a:=y15) (v:=.int y15) rfl))) (fj ah))))))) ((zj hq).imp fun y35 hq W36 e37=>?_)
   have E0:=E0.trans e37
   have Z01:=zk (R:=(isScr K)) e37.g Z01
   have h7:=zk (R:=(isT3 K isS isS isI)) e37.g h7
   have h9:=zk (R:=(isL (isT3 K isS isS isS))) e37.g h9
   by_cases hb109:y35=true
   ·rw[if_pos hb109]at hq ⊢
    exact aR (Er:=Er) (R:=sh isB) nN (fun v38 W39 e40 h41=>hq v38 W39 (E0.trans e40) h41)
   ·rw[if_neg hb109]at hq ⊢
    try dsimp only[aF]
    refine cQ (Er:=Er) (gd (aH (cu (a8 (R:=sh isI) (a:=y1.2.2) (v:=.int y1.2.2) rfl) ah)) (aH (cu (a8 (R:=sh isI) (a:=y20) (v:=.int y20) rfl) (fq (a8 (R:=sh (isT3 K isS isS isI)) h7) (a8 (R:=sh (isL (isT3 K isS isS isS))) h9) (aV (a8 (R:=sh isI) (a:=y1.2.2) (v:=.int y1.2.2) rfl) ah) (a8 (R:=sh isI) (a:=y15) (v:=.int y15) rfl))))) ((zj hq).imp fun y43 hq W44 e45=>?_)
    have E0:=E0.trans e45
    have Z01:=zk (R:=(isScr K)) e45.g Z01
    have h7:=zk (R:=(isT3 K isS isS isI)) e45.g h7
    have h9:=zk (R:=(isL (isT3 K isS isS isS))) e45.g h9
    by_cases hb109:y43=true
    ·rw[if_pos hb109]at hq ⊢
     exact aR (Er:=Er) (R:=sh isB) nN (fun v46 W47 e48 h49=>hq v46 W47 (E0.trans e48) h49)
    ·rw[if_neg hb109]at hq ⊢
     try dsimp only[aF]
     refine ap (Er:=Er) (i:=6) (R:=sh isI) (σ':=fun v54=>[some Z09,some v6,some v8,some (.int y1.2.2),some (.int y15),some (.int y20),some v54,none,none,none]) (bJ (dz (a8 (R:=sh (isT3 K isS isS isI)) h7) (a8 (R:=sh (isL (isT3 K isS isS isS))) h9) (a8 (R:=sh isI) (a:=y1.2.2) (v:=.int y1.2.2) rfl))) ((zj hq).imp fun y53 hq v54 W50 e51 h55=>?_)
     cases h55
     have E0:=E0.trans e51
     have Z01:=zk (R:=(isScr K)) e51.g Z01
     have h7:=zk (R:=(isT3 K isS isS isI)) e51.g h7
     have h9:=zk (R:=(isL (isT3 K isS isS isS))) e51.g h9
     refine cQ (Er:=Er) (gd (aH (cu (a8 (R:=sh isI) (a:=y1.2.2) (v:=.int y1.2.2) rfl) ah)) (aH (cu (a8 (R:=sh isI) (a:=y53) (v:=.int y53) rfl) (bJ (dz (a8 (R:=sh (isT3 K isS isS isI)) h7) (a8 (R:=sh (isL (isT3 K isS isS isS))) h9) (aV (a8 (R:=sh isI) (a:=y1.2.2) (v:=.int y1.2.2) rfl) ah)))))) ((zj hq).imp fun y58 hq W59 e60=>?_)
     have E0:=E0.trans e60
     have Z01:=zk (R:=(isScr K)) e60.g Z01
     have h7:=zk (R:=(isT3 K isS isS isI)) e60.g h7
     have h9:=zk (R:=(isL (isT3 K isS isS isS))) e60.g h9
     by_cases hb109:y58=true
     ·rw[if_pos hb109]at hq ⊢
      exact aR (Er:=Er) (R:=sh isB) nN (fun v61 W62 e63 h64=>hq v61 W62 (E0.trans e63) h64)
     ·rw[if_neg hb109]at hq ⊢
      try dsimp only[aF]
      refine cQ (Er:=Er) (aH (j6 (CY (a8 (R:=sh (isL (isT3 K isS isS isS))) h9)))) (fun W65 e66=>?_)
      have E0:=E0.trans e66
      have Z01:=zk (R:=(isScr K)) e66.g Z01
      have h7:=zk (R:=(isT3 K isS isS isI)) e66.g h7
      have h9:=zk (R:=(isL (isT3 K isS isS isS))) e66.g h9
      by_cases hb109:y1.2.1.isEmpty=true
      ·rw[if_pos hb109]at hq ⊢
       exact aR (Er:=Er) (R:=sh isB) (mJ (iP (by decide) (a8 (R:=sh isI) (a:=y53) (v:=.int y53) rfl) ah) (iP (by decide) (a8 (R:=sh isI) (a:=y20) (v:=.int y20) rfl) ah)) (A7 hq fun y68 hq v69 W70 e71 h72=>hq v69 W70 (E0.trans e71) h72)
      ·rw[if_neg hb109]at hq ⊢
       try dsimp only[aF]
       refine ap (Er:=Er) (i:=7) (R:=sh isI) (σ':=fun v77=>[some Z09,some v6,some v8,some (.int y1.2.2),some (.int y15),some (.int y20),some (.int y53),some v77,none,none]) (gO (aW (a8 (R:=sh (isScr K)) Z01) ah) (fK (CY (a8 (R:=sh (isL (isT3 K isS isS isS))) h9)))) ((zj hq).imp fun y76 hq v77 W73 e74 h78=>?_)
       cases h78
       have E0:=E0.trans e74
       have Z01:=zk (R:=(isScr K)) e74.g Z01
       have h7:=zk (R:=(isT3 K isS isS isI)) e74.g h7
       have h9:=zk (R:=(isL (isT3 K isS isS isS))) e74.g h9
       refine cz (Er:=Er) (i:=8) (σ':=fun p83=>[some Z09,some v6,some v8,some (.int y1.2.2),some (.int y15),some (.int y20),some (.int y53),some (.int y76),some (.ref p83),none]) (rg (K:=K) (cv (CY (a8 (R:=sh (isL (isT3 K isS isS isS))) h9)) (a8 (R:=sh isI) (a:=y76) (v:=.int y76) rfl))) ((zj hq).imp fun y82 hq p83 W79 e80 hp84 o85=>?_)
       have fr86:=aT E0.h hp84
       have E0:=E0.trans e80
       have Z01:=zk (R:=(isScr K)) e80.g Z01
       have h7:=zk (R:=(isT3 K isS isS isI)) e80.g h7
       have h9:=zk (R:=(isL (isT3 K isS isS isS))) e80.g h9
       refine pj (Er:=Er) o85 (bq (x:=zx "?") (l:=[63]) (gk _ _ (by decide +kernel))) (aj (fun _=>by decide) (aW (a8 (R:=sh (isScr K)) Z01) ah)) ((zj hq).imp fun y92 hq W88 mu89 o90=>?_)
       have E0:=mu89.e _ E0 fr86
       have h7:=zk (R:=(isT3 K isS isS isI)) mu89.g h7
       have h9:=zk (R:=(isL (isT3 K isS isS isS))) mu89.g h9
       refine ap (Er:=Er) (i:=9) (R:=sh (isL (isT3 K isS isS isS))) (σ':=fun v99=>[some Z09,some v6,some v8,some (.int y1.2.2),some (.int y15),some (.int y20),some (.int y53),some (.int y76),some (.ref p83),some v99]) (Cj (nR (CW (nR (CW (k9 (CY (a8 (R:=sh (isL (isT3 K isS isS isS))) h9)) lf (lg (a8 (R:=sh isI) (a:=y76) (v:=.int y76) rfl)))) (CW (fo (bB (ll (cN o90)) (fk (R:=(isT3 K isS isS isS)))))))) (CW (k9 (CY (a8 (R:=sh (isL (isT3 K isS isS isS))) h9)) (lg (aV (a8 (R:=sh isI) (a:=y76) (v:=.int y76) rfl) ah)) lf)))) ((zj hq).imp fun y98 hq v99 W93 e94 h100=>?_)
       have E0:=E0.trans e94
       have h7:=zk (R:=(isT3 K isS isS isI)) e94.g h7
       exact aR (Er:=Er) (R:=sh isB) (mJ (cu (a8 (R:=sh isI) (a:=y20) (v:=.int y20) rfl) (fq (a8 (R:=sh (isT3 K isS isS isI)) h7) (a8 (R:=sh (isL (isT3 K isS isS isS))) h100) (a8 (R:=sh isI) (a:=y1.2.2) (v:=.int y1.2.2) rfl) (a8 (R:=sh isI) (a:=y15) (v:=.int y15) rfl))) (cu (a8 (R:=sh isI) (a:=y53) (v:=.int y53) rfl) (bJ (dz (a8 (R:=sh (isT3 K isS isS isI)) h7) (a8 (R:=sh (isL (isT3 K isS isS isS))) h100) (a8 (R:=sh isI) (a:=y1.2.2) (v:=.int y1.2.2) rfl))))) (A7 hq fun y105 hq v106 W107 e108 h109=>hq v106 W107 (E0.trans e108) h109)
end
end Wb
namespace Wb
open PySem L2
section
variable {P:zL} {w:zQ} {K:PySem.W.Frag} {mg:Str→Option zl} {base:Heap}
theorem uy {f:Addr} {fd:zY} {ps:List Str} {k:Nat} :FnOk P w K mg base CX0 k f fd ps (fP K 0):=⟨fun _ _ _ _ h=>h.elim,fun _ _ _ _ _ _ _ _ _ _ _ _ _ h=>h.elim⟩
theorem jo {K:PySem.W.Frag} (a b:String) (r:Bool) (h:PySem.W.kitOne [] (.type a) (.type b)=some r):PySem.W.kitOne K (.type a) (.type b)=some r:=by first | exact h | (rw[←h];rfl)
theorem fB {c:TT} {t rest:TS} {D:Ends} {σ:St} {H:Hp} (h:∀Q:Bool→Hp→Prop,Q false H→c σ H Q) (k:rest D σ H):eV (iw c t aF) rest D σ H:=h _ k
theorem lP {c:TT} {t rest:TS} {D:Ends} {σ:St} {H:Hp} (h:∀Q:Bool→Hp→Prop,Q true H→c σ H Q) (k:t {D with nx:=rest D} σ H):eV (iw c t aF) rest D σ H:=h _ k
local macro_rules | `(tactic|walk_at "S0")=>`(tactic|simp only[bW,bg,cK,bD,tC,dv,am,aU,bR,aF,bA,aO,bN,aY,bS,tB,eF,rU,dD,rI,bU,bO,aS,bb,eU,ca,eY,cb,bf,cf,bo,eJ,be,aG,dF,eT,eR,eZ,cg,cj,bQ,bV,ci,aA,aM,L2.start,An,CN,Dc,CF,Ba,BB,Dw,Bt,CJ,DN,Bg,AO,E2,exists_eq_left',exists_eq_left,exists_and_left,exists_eq',exists_const,C6.injEq,Hy.injEq,Dp.injEq,V.ref.injEq,V.ty.injEq,EE,and_true,true_and,reduceCtorEq,false_and,and_false,exists_false,or_false,false_or,decide_eq_true_eq,E3,decide_eq_false_iff_not,if_true,if_false,A5,ite_true,ite_false,Dh,F0,Fc,Fd,and_assoc])
local macro_rules | `(tactic|walk_at "S1")=>`(tactic|simp only[bW,eV,iw,bg,cK,bD,tC,dv,am,aU,bR,aF,bA,aO,bN,aY,bS,tB,eF,rU,dD,rI,bU,bO,aS,bb,eU,ca,eY,cb,bf,cf,bo,eJ,be,aG,dF,eT,eR,eZ,cg,cj,bQ,bV,ci,aA,aM,L2.start,An,CN,Dc,CF,Ba,BB,Dw,Bt,CJ,DN,Bg,AO,E2,exists_eq_left',exists_eq_left,exists_and_left,exists_eq',exists_const,C6.injEq,Hy.injEq,Dp.injEq,V.ref.injEq,V.ty.injEq,EE,and_true,true_and,reduceCtorEq,false_and,and_false,exists_false,or_false,false_or,decide_eq_true_eq,E3,decide_eq_false_iff_not,if_true,if_false,A5,ite_true,ite_false,Dh,F0,Fc,Fd,and_assoc])
theorem sw {f:Addr} {fd:zY} (F:Fun K "_law_same" "_law_same" (tp 45) f fd) (h_len:mg "len" =none) (h_isinstance:mg "isinstance" =none) (h_bool:mg "bool" =none) (h_int:mg "int" =none) (h_str:mg "str" =none) (h_list:mg "list" =none) (h_tuple:mg "tuple" =none) (h_zip:mg "zip" =none) {n:Nat}
  (Z0R:Cal P w K mg base "_law_same" ["_law_found","_law_due"] n (fP K n)):FnOk P w K mg base CX0 (n+1) f fd ["_law_found","_law_due"] (fP K (n+1)):=by
 have SC:FnScope ["_law_found","_law_due","_law_one","_law_other"] ["_law_found","_law_due"] (defScope (tp 45)):=⟨rfl,rfl,rfl,by decide +kernel,rfl,by decide +kernel,by decide +kernel⟩
 refine F.ok SC (fun vs H Q E h=>?_) (fun cdv A outer s H vs Q E hr h=>?_)
 ·obtain⟨v,u,rfl,_⟩:=h;rfl
 ·obtain⟨v,u,rfl,h⟩:=h
  have hr:Room n _:=hr
  refine⟨_,(af (br (FI (uO (ay (op_isN.or iA) (pv 1) mn (ax _)) (uO (ay (op_isN.or iA) (pv 1) f9 (ax _)) (vi (ay (op_isN.or iA) (pv 1) f9 (ax _)))))) (ag (au (fZ (cn bT (aK (b6 (K:=K) rfl) (by rfl) h_isinstance zZ (a5 (pv 0) (a5 (cM (v:=.ty "bool") (by rfl) h_bool CV rfl) ae))) (aK (b6 (K:=K) rfl) (by rfl) h_isinstance zZ (a5 (pv 1) (a5 (cM (v:=.ty "bool") (by rfl) h_bool CV rfl) ae))) (ax _)) (fY (cn bT (pv 0) (pv 1) (ax _)))))) aL)
   (af (br (df (aK (b6 (K:=K) rfl) (by rfl) h_isinstance zZ (a5 (pv 1) (a5 (cM (v:=.ty "int") (by rfl) h_int D5 rfl) ae)))) (ag (au (fZ (aK (b6 (K:=K) rfl) (by rfl) h_isinstance zZ (a5 (pv 0) (a5 (cM (v:=.ty "int") (by rfl) h_int D5 rfl) ae))) (fZ (vj (aK (b6 (K:=K) rfl) (by rfl) h_isinstance zZ (a5 (pv 0) (a5 (cM (v:=.ty "bool") (by rfl) h_bool CV rfl) ae)))) (fY (cn bT (pv 0) (pv 1) (ax _))))))) aL)
   (af (br (df (aK (b6 (K:=K) rfl) (by rfl) h_isinstance zZ (a5 (pv 1) (a5 (cM (v:=.ty "str") (by rfl) h_str EM rfl) ae)))) (ag (au (fZ (aK (b6 (K:=K) rfl) (by rfl) h_isinstance zZ (a5 (pv 0) (a5 (cM (v:=.ty "str") (by rfl) h_str EM rfl) ae))) (fY (cn bT (pv 0) (pv 1) (ax _)))))) aL)
   (af (br (FI (eE (df (aK (b6 (K:=K) rfl) (by rfl) h_isinstance zZ (a5 (pv 1) (a5 (cM (v:=.ty "list") (by rfl) h_list CU rfl) ae)))) (di (jM (df (aK (b6 (K:=K) rfl) (by rfl) h_isinstance zZ (a5 (pv 0) (a5 (cM (v:=.ty "list") (by rfl) h_list CU rfl) ae)))))))) (ag (au f9)) aL)
   (af (br (FI (eE (df (aK (b6 (K:=K) rfl) (by rfl) h_isinstance zZ (a5 (pv 1) (a5 (cM (v:=.ty "tuple") (by rfl) h_tuple C5 rfl) ae)))) (di (jM (df (aK (b6 (K:=K) rfl) (by rfl) h_isinstance zZ (a5 (pv 0) (a5 (cM (v:=.ty "tuple") (by rfl) h_tuple C5 rfl) ae)))))))) (ag (au f9)) aL)
   (af (br (ay wI (aK (bZ (K:=K) rfl) (by rfl) h_len PySem.boot_len (a5 (pv 0) ae)) (aK (bZ (K:=K) rfl) (by rfl) h_len PySem.boot_len (a5 (pv 1) ae)) (ax _)) (ag (au f9)) aL)
   (af (du AI rfl (gl (K:=K) rfl rfl h_zip (a5 (pv 0) (a5 (pv 1) ae))) (cq (K:=K) (n:=2) rfl rfl (aB (aq (i:=2) SC.nd rfl (by first | exact zH rfl | exact zG rfl)) (aB (aq (i:=3) SC.nd rfl (by first | exact zH rfl | exact zG rfl)) cm))) (ag (br (jM (df (ak Z0R hr (by rfl) (a5 (pv 2) (a5 (pv 3) ae))))) (ag (au f9)) aL)))
   (ag (au f9))))))))),?_⟩
  rcases h with⟨he,q⟩ | ⟨x,y,rfl,rfl,q⟩
  rotate_left
  ·refine fB (fun Q q=>?_) (fB (fun Q q=>?_) (lP (fun Q q=>?_) ?_))
   ·walk_at "S0";exact q
   ·walk_at "S0";exact⟨_,.str _,_,jo "str" "int" false rfl,q⟩
   ·walk_at "S0";exact⟨_,.str _,_,jo "str" "str" true rfl,q⟩
   ·walk_at "S0"
    refine⟨_,.str _,_,jo "str" "str" true rfl,?_⟩
    walk_at "S0"
    simpa using q
  have fl:∀v,L2.flat v=true→(∀H',Same H H'→Q (.bl true) H')→(v=.non∨(∃b,v=.bl b)∨(∃i,v=.int i)∨∃x,v=.str x):=fun v hv _=>by
   cases v with
   | non=>exact .inl rfl
   | bl b=>exact .inr (.inl ⟨b,rfl⟩)
   | int b=>exact .inr (.inr (.inl ⟨b,rfl⟩))
   | str b=>exact .inr (.inr (.inr ⟨b,rfl⟩))
   | _=>cases hv
  have he':(v=u∧L2.flat v=true)∨∃m p q xs ys,n=m+1∧v=.ref p∧u=.ref q∧((H p=some (.lst xs)∧H q=some (.lst ys))∨(SqT K H p xs∧SqT K H q ys))∧xs.length=ys.length∧∀(i:Nat) (x y:V),xs[i]? =some x→ys[i]? =some y→EqK K H m x y:=by
   cases n with
   | zero=>exact .inl he
   | succ m=>rcases he with z | ⟨p,q,xs,ys,z⟩;exact .inl z;exact .inr ⟨m,p,q,xs,ys,rfl,z⟩
  rcases he' with⟨rfl,hf⟩ | ⟨m,p,q',xs,ys,hnm,rfl,rfl,hk,hl,hi⟩
  ·rcases fl v hf q with rfl | ⟨b,rfl⟩ | ⟨i,rfl⟩ | ⟨x,rfl⟩
   ·refine lP (fun Q q=>?_) ?_
    ·walk_at "S0";exact q
    ·walk_at "S0"
     refine⟨_,.non,_,jo "NoneType" "bool" false rfl,_,.non,_,jo "NoneType" "bool" false rfl,?_⟩
     walk_at "S0"
     exact q H (.refl H)
   ·refine lP (fun Q q=>?_) ?_
    ·cases b <;> walk_at "S0" <;> exact q
    ·walk_at "S0"
     refine⟨_,.bl _,_,jo "bool" "bool" true rfl,_,.bl _,_,jo "bool" "bool" true rfl,?_⟩
     walk_at "S0"
     exact q H (.refl H)
   ·refine fB (fun Q q=>?_) (lP (fun Q q=>?_) ?_)
    ·walk_at "S0";exact q
    ·walk_at "S0";exact⟨_,.int _,_,jo "int" "int" true rfl,q⟩
    ·walk_at "S0"
     refine⟨_,.int _,_,jo "int" "int" true rfl,?_⟩
     walk_at "S0"
     refine⟨_,.int _,_,jo "int" "bool" false rfl,?_⟩
     walk_at "S0"
     exact q H (.refl H)
   ·refine fB (fun Q q=>?_) (fB (fun Q q=>?_) (lP (fun Q q=>?_) ?_))
    ·walk_at "S0";exact q
    ·walk_at "S0";exact⟨_,.str _,_,jo "str" "int" false rfl,q⟩
    ·walk_at "S0";exact⟨_,.str _,_,jo "str" "str" true rfl,q⟩
    ·walk_at "S0"
     refine⟨_,.str _,_,jo "str" "str" true rfl,?_⟩
     walk_at "S0"
     exact q H (.refl H)
  ·subst hnm
   obtain⟨T,tp1,tp2,tl,src1,src2,h1,h2,e1,e2⟩:∃(T:String) (tp1:TyOf K H (.ref p) (.type T)) (tp2:TyOf K H (.ref q') (.type T)) (tl:(T="list" ∧SqL K H p xs∧SqL K H q' ys)∨(T="tuple" ∧SqT K H p xs∧SqT K H q' ys)) (src1 src2:Src),(∀H',Same H H'→src1.has K H' xs)∧(∀H',Same H H'→src2.has K H' ys)∧src1.val=.ref p∧src2.val=.ref q':=by
    rcases hk with⟨a,b⟩ | ⟨a,b⟩
    ·exact⟨"list",.lst a,.lst b,.inl ⟨rfl,BS a,BS b⟩,.lst p,.lst q',fun H' e=>BS (e _ _ a),fun H' e=>BS (e _ _ b),rfl,rfl⟩
    ·exact⟨"tuple",.tup a,.tup b,.inr ⟨rfl,a,b⟩,.tup p,.tup q',fun H' e=>AZ e a,fun H' e=>AZ e b,rfl,rfl⟩
   have hi0:PySem.W.kitOne K (.type T) (.type "int")=some false:=by rcases tl with⟨rfl,_⟩ | ⟨rfl,_⟩;exact jo _ _ _ rfl;exact jo _ _ _ rfl
   have hs0:PySem.W.kitOne K (.type T) (.type "str")=some false:=by rcases tl with⟨rfl,_⟩ | ⟨rfl,_⟩;exact jo _ _ _ rfl;exact jo _ _ _ rfl
   obtain⟨bl,hl0,hl1⟩:∃bl,PySem.W.kitOne K (.type T) (.type "list")=some bl∧PySem.W.kitOne K (.type T) (.type "tuple")=some (!bl):=by rcases tl with⟨rfl,_⟩ | ⟨rfl,_⟩;exact⟨true,jo _ _ _ rfl,jo _ _ _ rfl⟩;exact⟨false,jo _ _ _ rfl,jo _ _ _ rfl⟩
   have ln1:oS K (.ref p) H xs.length:=by rcases tl with⟨_,t1,_⟩ | ⟨_,t1,_⟩;exact .inl ⟨_,t1,rfl⟩;exact .inr ⟨_,t1,rfl⟩
   have ln2:oS K (.ref q') H ys.length:=by rcases tl with⟨_,_,t2⟩ | ⟨_,_,t2⟩;exact .inl ⟨_,t2,rfl⟩;exact .inr ⟨_,t2,rfl⟩
   refine fB (fun Q q=>?_) (fB (fun Q q=>?_) (fB (fun Q q=>?_) (fB (fun Q q=>?_) (fB (fun Q q=>?_) (fB (fun Q q=>?_) ?_)))))
   ·walk_at "S0";exact q
   ·walk_at "S0";exact⟨_,tp2,_,hi0,q⟩
   ·walk_at "S0";exact⟨_,tp2,_,hs0,q⟩
   ·walk_at "S0"
    refine⟨_,tp2,_,hl0,?_⟩
    cases bl with
    | false=>exact q
    | true=>walk_at "S0";exact⟨_,tp1,_,hl0,q⟩
   ·walk_at "S0"
    refine⟨_,tp2,_,hl1,?_⟩
    cases bl with
    | true=>exact q
    | false=>walk_at "S0";exact⟨_,tp1,_,hl1,q⟩
   ·walk_at "S0"
    refine⟨_,ln1,_,ln2,?_⟩
    simp only[hl,bW,bg,cK,bD,tC,dv,am,aU,bR,aF,bA,aO,bN,aY,bS,tB,eF,rU,dD,rI,bU,bO,aS,bb,eU,ca,eY,cb,bf,cf,bo,eJ,be,aG,dF,eT,eR,eZ,cg,cj,bQ,bV,ci,aA,aM,L2.start,An,CN,Dc,CF,Ba,BB,Dw,Bt,CJ,DN,Bg,AO,E2,exists_eq_left',exists_eq_left,exists_and_left,exists_eq',exists_const,C6.injEq,Hy.injEq,Dp.injEq,V.ref.injEq,V.ty.injEq,EE,and_true,true_and,reduceCtorEq,false_and,and_false,exists_false,or_false,false_or,decide_eq_true_eq,E3,decide_eq_false_iff_not,if_true,if_false,A5,ite_true,ite_false,Dh,F0,Fc,Fd,and_assoc]
    exact q
   ·walk_at "S1"
    refine⟨_,rfl,_,rfl,src1,src2,xs,ys,by rw[e1,e2],h1 H (.refl H),h2 H (.refl H),tE (fun i σ H2=>Same H H2∧∃a b,σ=[some (.ref p),some (.ref q'),a,b]) ⟨.refl H,none,none,rfl⟩ (fun i σ H2 ⟨e,_⟩=>⟨h1 H2 e,h2 H2 e⟩) hl ?_ ?_⟩
    ·rintro i x y r σ H2 hx hy hr' ⟨e,a,b,rfl⟩
     walk_at "S1"
     refine⟨_,GP aI,rfl,?_⟩
     walk_at "S1"
     refine⟨x,y,rfl,.inl ⟨(hi i x y hx hy).same (e.trans (cr hr')),fun H3 e3=>?_⟩⟩
     walk_at "S1"
     exact e.trans ((cr hr').trans e3)
    ·rintro σ H2 ⟨e,a,b,rfl⟩
     walk_at "S1"
     exact q H2 e
def oE (K:PySem.W.Frag):Sp:=fun vs H Q _=>∃(a:Addr) (ns:List Int),vs=[.ref a]∧SqL K H a (ns.map C6)∧ns.length≤63∧∀H',Q (.bl true) H'
end
end Wb
namespace Mi
theorem hZ {s:List Int} (hs:s.length≤63) (k:Nat) (hk:k≤200):∃n,gf s (k:Int)=.ok n:=by
 unfold gf xq
 by_cases h:(k:Int)< (s.length:Int)
 ·rw[if_pos (by simpa using h)]
  obtain⟨x,e,_⟩:=ic (xs:=s) (i:=(k:Int)) (by omega) h
  exact⟨x,e⟩
 ·rw[if_neg (by simpa using h),r9 (by omega) (by omega)]
  exact⟨_,rfl⟩
theorem w5 (c b:Int) (hb:1≤b) (hb2:b< 1073741824) (k:Nat) (s:Int×Int×List Int) (h1:0≤s.2.1) (hl:s.2.2.length< 100000):∃s':Int×Int×List Int,wr c b (k:Int) s=.ok s'∧0≤s'.2.1∧∃v,0≤v∧v< b∧s'.2.2=s.2.2++ [v]:=by
 unfold wr
 have hm0:=Af (s.1*48271+7919+(k:Int)) (show(2147483647:Int)≠0 by decide)
 have hm1:=A6 (s.1*48271+7919+(k:Int)) (show(0:Int)< 2147483647 by decide)
 generalize (s.1*48271+7919+(k:Int))% 2147483647=mx at*
 have other:∀z:Int,0≤z% b∧z% b< b:=fun z=>⟨Af _ (by omega),A6 _ (by omega)⟩
 have A:∀z:Int,gm s.2.2 z=.ok (s.2.2++ [z]):=fun z=>eN hl
 have e2:((((jk mx mx).bind fun y63=>zt (y63% 1000003)).bind fun y64=>iG y64 b).bind fun y69=>gm s.2.2 y69)=.ok (s.2.2++ [mx*mx% 1000003% b]):=by
  rw[ln (by omega) (by omega)];simp only[zm];rw[fL (by omega)];exact A _
 have e1:((iG s.2.1 b).bind fun y56=>gm s.2.2 y56)=.ok (s.2.2++ [s.2.1% b]):=by rw[fL (by omega)];exact A _
 by_cases hf:(1000000000000000000:Int)≤cy c
 ·rw[decide_eq_true hf]
  by_cases hp:0< s.2.1
  ·rw[decide_eq_true hp]
   simp only[if_true,zm,e1,lm (show 0< b by omega) hb2]
   exact⟨_,rfl,Int.ediv_nonneg h1 (by omega),_,(other _).1,(other _).2,rfl⟩
  ·rw[decide_eq_false hp]
   simp only[if_true,zm,A5,if_false,e2]
   exact⟨_,rfl,h1,_,(other _).1,(other _).2,rfl⟩
 ·rw[decide_eq_false hf]
  simp only[zm,A5,if_false,e2]
  exact⟨_,rfl,h1,_,(other _).1,(other _).2,rfl⟩
theorem kK (c:Int) (n:Nat) (b:Int) (hn:n≤1000) (hb:1≤b) (hb2:b< 1073741824):∃ns,gF c (n:Int) b=.ok ns∧ns.length=n∧∀x∈ns,0≤x∧x< b:=by
 unfold gF xr
 rw[pD (by omega),zm]
 obtain⟨s,e,h0,hl,hb⟩:=cR (f:=wr c b) (fun pre (s:Int×Int×List Int)=>0≤s.2.1∧s.2.2.length=pre.length∧∀x∈s.2.2,0≤x∧x< b) ((AD n).map fun(i:Nat)=>(i:Int)) ((cy c)% 2147483647,cy c,[]) ⟨tQ c,rfl,by simp⟩ (by
  intro pre a post s e ⟨h0,hl,hb'⟩
  have hlen:pre.length< n:=by have:=congrArg C7 e;simp at this;omega
  obtain⟨k,rfl⟩:∃k:Nat,a=(k:Int):=by
   have:a∈(AD n).map fun(i:Nat)=>(i:Int):=by rw[e];simp
   obtain⟨k,_,hk⟩:=Ah.mp this;exact⟨k,hk.symm⟩
  obtain⟨s',e',h0',v,v0,v1,ev⟩:=w5 c b hb hb2 k s h0 (by omega)
  refine⟨s',e',h0',by rw[ev];simp[hl],fun x hx=>?_⟩
  rw[ev]at hx
  rcases Ac.mp hx with z | z
  ·exact hb' x z
  ·rw[Cc.mp z];exact⟨v0,v1⟩)
 rw[e]
 exact⟨_,rfl,by rw[hl];simp,hb⟩
def bu (c:Nat):Prop:=c=102∨c=98∨c=105
def fC (t:Tx):Prop:=∀c∈t,bu c
abbrev Cd:=Tx×Tx×Int
structure Card (t:Cd):Prop where
 lay:t.1=[83]∨t.1=[90]
 four:t.2.1.length=4
 col:∀c∈t.2.1,97≤c∧c≤122
 low:0≤t.2.2
 high:t.2.2< 4
theorem sx (sz:Int) (ds:List Int) (hsz:1≤sz) (hd:ds.length=5) (a:Int) (t:Tx) (ht:t.length< 1000):∃c,97≤c∧c≤122∧wt sz ds a t=.ok (t++ [c]):=by
 unfold wt
 obtain⟨x,e,_⟩:=ic (xs:=ds) (i:=4) (by decide) (by rw[hd];decide)
 rw[e]
 simp only[zm,fL (show 0< sz by omega)]
 have h0:=Af (x+a% sz*7) (show(26:Int)≠0 by decide)
 have h1:=A6 (x+a% sz*7) (show(0:Int)< 26 by decide)
 generalize (x+a% sz*7)% 26=r at h0 h1
 obtain⟨c,e2,h2⟩:=fM (x:=([97,98,99,100,101,102,103,104,105,106,107,108,109,110,111,112,113,114,115,116,117,118,119,120,121,122]:Tx)) (i:=r) h0 (by simp;omega) (by decide)
 rw[e2]
 simp only[zm,ku (show t.length+ [c].length≤100000 by simp;omega)]
 have hc:c∈([97,98,99,100,101,102,103,104,105,106,107,108,109,110,111,112,113,114,115,116,117,118,119,120,121,122]:Tx):=zW h2
 have:∀c∈([97,98,99,100,101,102,103,104,105,106,107,108,109,110,111,112,113,114,115,116,117,118,119,120,121,122]:Tx),97≤c∧c≤122:=by decide
 exact⟨c,(this c hc).1,(this c hc).2,rfl⟩
theorem sy (c:Int):∃t,ue c=.ok t∧t.length=4∧∀x∈t,97≤x∧x≤122:=by
 unfold ue xt
 have h0:=Af c (show(5:Int)≠0 by decide)
 have h1:=A6 c (show(0:Int)< 5 by decide)
 obtain⟨sz,e,h2⟩:=ic (xs:=[(1:Int),2,3,4,26]) (i:=c% 5) h0 (by simp;omega)
 have hsz:1≤sz:=by
  have:∀x∈[(1:Int),2,3,4,26],1≤x:=by decide
  exact this sz (zW h2)
 rw[e,zm]
 obtain⟨ds,e2,hd,_⟩:=kK (c/ 5) 5 26 (by decide) (by decide) (by decide)
 rw[show gF (c/ 5) 5 26=zt ds from e2,zm,show cut ds none (some 4)=ds.take 4 from iN ds 4]
 obtain⟨t,e3,h3,h4⟩:=cR (f:=wt sz ds) (fun pre t=>t.length=pre.length∧∀x∈t,97≤x∧x≤122) (ds.take 4) [] ⟨rfl,by simp⟩ (by
  intro pre a post t e ⟨hl,hb⟩
  have hlen:pre.length< 5:=by have:=congrArg C7 e;simp at this;omega
  obtain⟨c,c0,c1,ec⟩:=sx sz ds hsz hd a t (by omega)
  refine⟨_,ec,by simp[hl],fun x hx=>?_⟩
  rcases Ac.mp hx with z | z
  ·exact hb x z
  ·rw[Cc.mp z];exact⟨c0,c1⟩)
 rw[e3]
 exact⟨t,rfl,by rw[h3,D7];omega,h4⟩
theorem oF (c:Int):∃t,sU c=.ok t∧Card t:=by
 unfold sU xu
 have h0:=Af c (show(2:Int)≠0 by decide)
 have h1:=A6 c (show(0:Int)< 2 by decide)
 obtain⟨y,e,h2⟩:=fM (x:=([83,90]:Tx)) (i:=c% 2) h0 (by simp;omega) (by decide)
 obtain⟨t,e2,hl,hb⟩:=sy (c/ 8)
 rw[e,zm,e2,zm]
 refine⟨_,rfl,?_,hl,hb,Af _ (by decide),A6 _ (by decide)⟩
 have:y=83∨y=90:=by simpa using zW h2
 rcases this with rfl | rfl
 ·exact .inl rfl
 ·exact .inr rfl
theorem sA (d:Int) (h0:0≤d) (h1:d< 3):∃c,dX ([102,98,105]:Tx) d=.ok [c]∧bu c:=by
 obtain⟨c,e,h⟩:=fM (x:=([102,98,105]:Tx)) (i:=d) h0 (by simp;omega) (by decide)
 refine⟨c,e,?_⟩
 have:=zW h
 simpa [bu] using this
theorem sB (c:Int) (n:Nat) (hn:n≤1000):∃t,uf c (n:Int)=.ok t∧t.length=n∧fC t:=by
 unfold uf xv
 by_cases h:c% 7=3
 ·rw[if_pos (by simpa using h)]
  obtain⟨y,e,hy⟩:=sA (c/ 7% 3) (Af _ (by decide)) (A6 _ (by decide))
  rw[e,zm,tO (by omega) (by omega)]
  refine⟨_,rfl,by simp,fun x hx=>?_⟩
  rw[List.eq_of_mem_replicate hx];exact hy
 ·rw[if_neg (by simpa using h)]
  obtain⟨ds,e,hl,hb⟩:=kK (c/ 7) n 3 hn (by decide) (by decide)
  rw[e,zm]
  have key:∃t:List Nat,dJ ds (fun(a9:Int)=>dX ([102,98,105]:Tx) a9)=.ok (t.map fun c=>[c])∧t.length=n∧fC t:=by
   have:∀d∈ds,∃c:Nat,dX ([102,98,105]:Tx) d=.ok [c]∧bu c:=fun d hd=>sA d (hb d hd).1 (hb d hd).2
   have hf:∀d∈ds,dX ([102,98,105]:Tx) d=.ok ((fun d=>[if d=0 then 102 else if d=1 then 98 else 105]) d):=fun d hd=>by
    have h1:=hb d hd
    have:d=0∨d=1∨d=2:=by omega
    rcases this with rfl | rfl | rfl <;> rfl
   rw[dY (by show ds.length≤100000;omega) hf]
   refine⟨ds.map fun d=>if d=0 then 102 else if d=1 then 98 else 105,by simp,by simp[hl],fun x hx=>?_⟩
   obtain⟨d,_,rfl⟩:=Ah.mp hx
   unfold bu;split
   ·exact .inl rfl
   ·split
    ·exact .inr (.inl rfl)
    ·exact .inr (.inr rfl)
  obtain⟨t,e2,hl2,ht⟩:=key
  rw[e2,zm,lq (by rw[nX];omega),nX]
  exact⟨t,rfl,hl2,ht⟩
def go (c:Nat):Int:=if c=102 then 1 else if c=98 then -1 else 0
def tw (t:Cd) (c:Nat):Int:=if t.1=[83]then go c else -go c
def db (t:Cd) (i:Int):Nat:=t.2.1[i.toNat]?.getD 0
def lQ (i:Int):Nat:=if i=1 then 115 else if i= -1 then 122 else 111
def behind (t:Cd) (c:Nat):Cd:=(t.1,t.2.1,(t.2.2+go c)% 4)
abbrev Pl:=Tx×Tx×Tx
def place (t:Cd) (c:Nat):Pl:=([db t t.2.2],[db t ((t.2.2+2)% 4)],[lQ (tw t c)])
theorem xl (c:Nat): -1≤go c∧go c≤1:=by unfold go;split;omega;split <;> omega
theorem va (t:Cd) (c:Nat): -1≤tw t c∧tw t c≤1:=by have:=xl c;unfold tw;split <;> omega
theorem Card.behind {t:Cd} (h:Card t) (c:Nat):Card (behind t c):=⟨h.lay,h.four,h.col,Af _ (by decide),A6 _ (by decide)⟩
theorem vb {c:Nat} (h:bu c):m9 [c]=.ok (go c):=by
 unfold m9 xw
 rcases h with rfl | rfl | rfl <;> rfl
theorem jG {t:Cd} {c:Nat} (h:bu c):im t [c]=.ok (behind t c):=by
 unfold im xx
 rw[vb h];rfl
theorem sC {t:Cd} {c:Nat} (h:bu c):oB t [c]=.ok (tw t c):=by
 unfold oB xA
 rw[vb h]
 by_cases z:t.1=[83]
 ·rw[if_pos (by simpa using z)];unfold tw;rw[if_pos z]
 ·rw[if_neg (by simpa using z)];unfold tw;rw[if_neg z];simp only[zm];congr 1;omega
theorem dn {t:Cd} (h:Card t) {i:Int} (h0:0≤i) (h1:i< 4):dX t.2.1 i=.ok [db t i]:=vN h0 (by rw[h.four];exact h1) (by rw[h.four];decide)
theorem eP (i:Int):0≤i% 4∧i% 4< 4:=⟨Af _ (by decide),A6 _ (by decide)⟩
theorem w6 {i:Int} (h: -1≤i∧i≤1):dX ([122,111,115]:Tx) (i+1)=.ok [lQ i]:=by
 have:i= -1∨i=0∨i=1:=by omega
 rcases this with rfl | rfl | rfl <;> rfl
def eQ:Cd→Tx→List Pl
 | _,[]=>[]
 | t,c::r=>place (behind t c) c::eQ (behind t c) r
def ends:Cd→Tx→Cd
 | t,[]=>t
 | t,c::r=>ends (behind t c) r
theorem ni (t:Cd) (x:Tx):(eQ t x).length=x.length:=by
 induction x generalizing t with
 | nil=>rfl
 | cons c r ih=>simp[eQ,ih]
theorem sD (x:Tx):∀(t:Cd) (c:Nat),ends t (x++ [c])=behind (ends t x) c:=by
 induction x with
 | nil=>intro t c;rfl
 | cons d r ih=>intro t c;simp[ends,ih]
theorem Card.ends {t:Cd} (h:Card t) (x:Tx):Card (ends t x):=by
 induction x generalizing t with
 | nil=>exact h
 | cons c r ih=>exact ih (h.behind c)
theorem pY {t:Cd} (h:Card t) {c:Nat} (hc:bu c) {out:List Pl} (ho:out.length< 100000):wu im oB [c] (t,out)=.ok (behind t c,out++ [place (behind t c) c]):=by
 unfold wu
 have hb:=h.behind c
 simp only[jG hc,zm,sC hc,w6 (va _ _),dn hb hb.low hb.high,dn hb (eP _).1 (eP _).2]
 rw[eN ho]
 rfl
theorem pZ {t:Cd} (h:Card t) {x:Tx} (hx:fC x) (hl:x.length≤10000):ug t x=.ok (eQ t x):=by
 unfold ug xB
 have key:∀(x:Tx) (t:Cd) (out:List Pl),Card t→fC x→out.length+x.length≤10000→bE (wu im oB) (cB x) (t,out)=.ok (ends t x,out++eQ t x):=by
  intro x
  induction x with
  | nil=>intro t out _ _ _;simp[cB,bE,ends,eQ]
  | cons c r ih =>
   intro t out h hx hl
   simp only[BB]at hl
   show bE _ ([c]::cB r) _=_
   unfold bE
   rw[pY h (hx c (by simp)) (by omega),zm,ih _ _ (h.behind c) (fun d hd=>hx d (by simp[hd])) (by simp;omega)]
   simp[ends,eQ]
 rw[key x t [] h hx (by simpa using hl)]
 simp
def isCol (c:Nat):Prop:=97≤c∧c≤122
def isSl (c:Nat):Prop:=c=115∨c=122∨c=111
structure Mark (m:Pl):Prop where
 a:∃c,m.1=[c]∧(isCol c∨c=63)
 b:∃c,m.2.1=[c]∧(isCol c∨c=63)
 s:∃c,m.2.2=[c]∧(isSl c∨c=63)
structure Whole (m:Pl):Prop where
 a:∃c,m.1=[c]∧isCol c
 b:∃c,m.2.1=[c]∧isCol c
 s:∃c,m.2.2=[c]∧isSl c
theorem Whole.mark {m:Pl} (h:Whole m):Mark m:=by
 obtain⟨⟨a,h1,h2⟩,⟨b,h3,h4⟩,⟨s,h5,h6⟩⟩:=h
 exact⟨⟨a,h1,.inl h2⟩,⟨b,h3,.inl h4⟩,⟨s,h5,.inl h6⟩⟩
theorem lR {t:Cd} (h:Card t) {i:Int} (h0:0≤i) (h1:i< 4):isCol (db t i):=by
 unfold db
 have:i.toNat< t.2.1.length:=by rw[h.four];omega
 simp only[zu this,D8]
 exact h.col _ (BA this)
theorem sE (i:Int):isSl (lQ i):=by unfold lQ isSl;split;exact .inl rfl;split;exact .inr (.inl rfl);exact .inr (.inr rfl)
theorem lS {t:Cd} (h:Card t) (c:Nat):Whole (place t c):=⟨⟨_,rfl,lR h h.low h.high⟩,⟨_,rfl,lR h (eP _).1 (eP _).2⟩,⟨_,rfl,sE _⟩⟩
theorem kL {t:Cd} (h:Card t) (x:Tx):∀m∈eQ t x,Whole m:=by
 induction x generalizing t with
 | nil=>intro m hm;simp[eQ]at hm
 | cons c r ih =>
  intro m hm
  rcases zU.mp hm with rfl | hm
  ·exact lS (h.behind c) c
  ·exact ih (h.behind c) m hm
theorem lT {c:Nat} (h:isCol c):∃j d,isCol d∧gM ([97,98,99,100,101,102,103,104,105,106,107,108,109,110,111,112,113,114,115,116,117,118,119,120,121,122,97]:Tx) [c]=.ok j∧dX ([97,98,99,100,101,102,103,104,105,106,107,108,109,110,111,112,113,114,115,116,117,118,119,120,121,122,97]:Tx) (j+1)=.ok [d]:=by
 have key:∀k:Fin 26,(match gM ([97,98,99,100,101,102,103,104,105,106,107,108,109,110,111,112,113,114,115,116,117,118,119,120,121,122,97]:Tx) [97+k.1]with | .ok j=>(match dX ([97,98,99,100,101,102,103,104,105,106,107,108,109,110,111,112,113,114,115,116,117,118,119,120,121,122,97]:Tx) (j+1)with | .ok [d]=>decide (97≤d∧d≤122) | _=>false) | _=>false)=true:=by decide
 obtain⟨k,rfl⟩:∃k:Fin 26,c=97+k.1:=⟨⟨c- 97,by have:=h.1;have:=h.2;omega⟩,by have:=h.1;show c=97+(c- 97);omega⟩
 have:=key k
 split at this
 ·rename_i j e
  split at this
  ·rename_i d e2
   exact⟨j,d,by simpa [isCol] using this,e,e2⟩
  ·cases this
 ·cases this
theorem uz {c:Nat} (h:isSl c):∃j d,isSl d∧gM ([115,122,111]:Tx) [c]=.ok j∧dX ([122,111,115]:Tx) j=.ok [d]:=by
 rcases h with rfl | rfl | rfl
 ·exact⟨0,122,.inr (.inl rfl),rfl,rfl⟩
 ·exact⟨1,111,.inr (.inr rfl),rfl,rfl⟩
 ·exact⟨2,115,.inl rfl,rfl,rfl⟩
def uA (l:List Tx):Prop:=∃a b c,l=[[a],[b],[c]]∧isCol a∧isCol b∧isSl c
theorem sF (cell:Int) {p:Pl} (hp:Whole p) {d:Int} (h0:0≤d) (h1:d< 64) {out:List Pl} (ho:out.length< 1000):(ww cell (p,d) out).Ok fun r=>∃m,Mark m∧r=out++ [m]:=by
 unfold ww
 obtain⟨⟨a,ea,ha⟩,⟨b,eb,hb⟩,⟨s,es,hs⟩⟩:=hp
 simp only[ea,eb,es]
 refine iO (Bd (P:=fun d'=>0≤d'∧d'< 64) (lv (fun _=>fV ⟨by omega,by omega⟩) fun _=>fV ⟨h0,h1⟩) fun d1 hd1=>?_)
 refine iO (Bd (P:=fun d'=>0≤d'∧d'< 64) (lv (fun _=>fV ⟨by omega,by omega⟩) fun _=>fV hd1) fun d2 hd2=>?_)
 have hm0:=Af d2 (show(3:Int)≠0 by decide)
 have hm1:=A6 d2 (show(0:Int)< 3 by decide)
 have step1:((if(decide ((56:Int)≤d2))then zt (decide ((d2% 3)< (2:Int)))else zt false).bind fun y90=>(if y90 then(((((eW [[a],[b],[s]] (d2% 3)).bind fun y101=>gM ([97,98,99,100,101,102,103,104,105,106,107,108,109,110,111,112,113,114,115,116,117,118,119,120,121,122,97]:Tx) y101).bind fun y102=>zt (y102+(1:Int))).bind fun y103=>dX ([97,98,99,100,101,102,103,104,105,106,107,108,109,110,111,112,113,114,115,116,117,118,119,120,121,122,97]:Tx) y103).bind fun y107=>fR [[a],[b],[s]] (d2% 3) y107).bind fun y108=>zt y108 else zt [[a],[b],[s]]:Res (List Tx))).Ok uA:=by
  have dflt:uA [[a],[b],[s]]:=⟨a,b,s,rfl,ha,hb,hs⟩
  refine iO (lv (fun _=>fV ?_) fun _=>fV dflt)
  refine lv (fun h2=>?_) fun _=>fV dflt
  generalize d2% 3=r at*
  have:r=0∨r=1:=by omega
  rcases this with rfl | rfl
  ·obtain⟨j,d,hd,e1,e2⟩:=lT ha
   simp only[show eW [[a],[b],[s]] 0=zt [a]from rfl,zm,e1,e2,show fR [[a],[b],[s]] 0 [d]=zt [[d],[b],[s]]from rfl]
   exact fV ⟨d,b,s,rfl,hd,hb,hs⟩
  ·obtain⟨j,d,hd,e1,e2⟩:=lT hb
   simp only[show eW [[a],[b],[s]] 1=zt [b]from rfl,zm,e1,e2,show fR [[a],[b],[s]] 1 [d]=zt [[a],[d],[s]]from rfl]
   exact fV ⟨a,d,s,rfl,ha,hd,hs⟩
 refine iO (step1.imp fun l1 ht=>?_)
 obtain⟨a,b,s,rfl,ha,hb,hs⟩:=ht
 have step2:((if(decide ((56:Int)≤d2))then zt (decide ((d2% 3)=(2:Int)))else zt false).bind fun y120=>(if y120 then((((eW [[a],[b],[s]] (2:Int)).bind fun y127=>gM ([115,122,111]:Tx) y127).bind fun y128=>dX ([122,111,115]:Tx) y128).bind fun y132=>fR [[a],[b],[s]] (2:Int) y132).bind fun y133=>zt y133 else zt [[a],[b],[s]]:Res (List Tx))).Ok uA:=by
  have dflt:uA [[a],[b],[s]]:=⟨a,b,s,rfl,ha,hb,hs⟩
  refine iO (lv (fun _=>fV ?_) fun _=>fV dflt)
  refine lv (fun h2=>?_) fun _=>fV dflt
  obtain⟨j,d,hd,e1,e2⟩:=uz hs
  simp only[show eW [[a],[b],[s]] 2=zt [s]from rfl,zm,e1,e2,show fR [[a],[b],[s]] 2 [d]=zt [[a],[b],[d]]from rfl]
  exact fV ⟨a,b,d,rfl,ha,hb,hd⟩
 refine iO (step2.imp fun l2 ht=>?_)
 obtain⟨a,b,s,rfl,ha,hb,hs⟩:=ht
 have cell1:∀(x:Nat) (k:Int),0< k→k< 10→∃y,((((hV d2 k).bind fun y158=>zt (y158% 2)).bind fun y159=>zt (decide (y159=(1:Int)))).bind fun y160=>if y160 then zt [x]else zt ([63]:Tx))=.ok [y]∧(y=x∨y=63):=fun x k k0 k1=>by
  rw[lm k0 (by omega)]
  simp only[zm]
  by_cases h:d2/ k% 2=1
  ·rw[if_pos (by simpa using h)];exact⟨x,rfl,.inl rfl⟩
  ·rw[if_neg (by simpa using h)];exact⟨63,rfl,.inr rfl⟩
 obtain⟨x,ex,hx⟩:=cell1 a 1 (by decide) (by decide)
 obtain⟨y,ey,hy⟩:=cell1 b 2 (by decide) (by decide)
 obtain⟨z,ez,hz⟩:=cell1 s 4 (by decide) (by decide)
 have ec:dJ ([[a],[b],[s]].zip [(1:Int),2,4]) (fun(a149:Tx×Int)=>(((hV d2 a149.2).bind fun y158=>zt (y158% 2)).bind fun y159=>zt (decide (y159=(1:Int)))).bind fun y160=>if y160 then zt a149.1 else zt ([63]:Tx))=.ok [[x],[y],[z]]:=by
  unfold dJ
  rw[bt (show([[a],[b],[s]].zip [(1:Int),2,4]).length≤cap from(by show 3≤100000;decide)),zm]
  show iH _ [([a],(1:Int)),([b],2),([s],4)]=_
  simp only[iH,ex,ey,ez,zm]
 simp only[ec,zm,qP,eN (show out.length< 100000 by omega)]
 refine⟨_,⟨⟨x,rfl,?_⟩,⟨y,rfl,?_⟩,⟨z,rfl,?_⟩⟩,rfl⟩
 ·rcases hx with rfl | rfl
  ·exact .inl ha
  ·exact .inr rfl
 ·rcases hy with rfl | rfl
  ·exact .inl hb
  ·exact .inr rfl
 ·rcases hz with rfl | rfl
  ·exact .inl hs
  ·exact .inr rfl
def Marks (n:Nat) (l:List Pl):Prop:=l.length=n∧∀m∈l,Mark m
theorem io {α β:Type} {xs:List α} {ys:List β} {p:α×β} (h:p∈xs.zip ys):p.1∈xs∧p.2∈ys:=⟨(CC h).1,(CC h).2⟩
theorem sG {ps:List Pl} (hp:∀p∈ps,Whole p) (hl:ps.length≤900) (cell:Int) (lies:Bool):(ui ps cell lies).Ok (Marks ps.length):=by
 unfold ui xD
 have e0:∃b:Int,((jk (8:Int) (if lies then(1:Int)else 0)).bind fun y9=>zt ((56:Int)+y9))=.ok b∧56≤b∧b≤64:=by
  cases lies
  ·exact⟨56,rfl,by decide,by decide⟩
  ·exact⟨64,rfl,by decide,by decide⟩
 obtain⟨b,eb,hb0,hb1⟩:=e0
 rw[eb,zm]
 obtain⟨ns,en,hn,hns⟩:=kK (cell/ 5) ps.length b (by omega) (by omega) (by omega)
 rw[en,zm]
 obtain⟨r,er,hr⟩:=cR (f:=ww cell) (fun pre r=>Marks pre.length r) (ps.zip ns) [] ⟨rfl,by simp⟩ (by
  intro pre a post s e ⟨h1,h2⟩
  have ha:a∈ps.zip ns:=by rw[e];simp
  have hlen:pre.length< 900:=by have:=congrArg C7 e;simp[CD,hn]at this;omega
  obtain⟨r,er,m,hm,rfl⟩:=(sF cell (hp _ (io ha).1) (hns _ (io ha).2).1 (by have:=(hns _ (io ha).2).2;omega) (out:=s) (by omega)).ex
  refine⟨_,er,by simp[h1],fun x hx=>?_⟩
  rcases Ac.mp hx with z | z
  ·exact h2 x z
  ·rw[Cc.mp z];exact hm)
 rw[er]
 refine⟨by rw[hr.1,CD,hn];omega,hr.2⟩
theorem Marks.get {n:Nat} {l:List Pl} (h:Marks n l) {i:Int} (h0:0≤i) (h1:i< n):∃m,eW l i=.ok m∧Mark m:=by
 obtain⟨m,e,g⟩:=ic (xs:=l) h0 (by rw[h.1];exact h1)
 exact⟨m,e,h.2 m (zW g)⟩
theorem q0 {p:Pl} (h:Mark p):Mark ([63],p.2.1,[63]):=⟨⟨63,rfl,.inr rfl⟩,h.b,⟨63,rfl,.inr rfl⟩⟩
theorem uB {p:Pl} (hp:Mark p) {d k:Int} {out:List Pl} (ho:out.length< 1000):(wv (p,d) (k,out)).Ok fun r=>∃m,Mark m∧r.2=out++ [m]:=by
 unfold wv
 refine iO (Bd (P:=fun r:Int×Pl=>Mark r.2) (iO (Bd (P:=fun _=>True) (lv (fun _=>fV trivial) fun _=>fV trivial) fun b _=>yt (fun _=>fV (q0 hp)) fun _=>fV hp)) fun r hr=>?_)
 rw[eN (show(k,out).2.length< 100000 from(by show out.length< 100000;omega))]
 exact⟨_,hr,rfl⟩
theorem w8 (d:Int) (h0:0≤d) (h1:d< 3):∃c,dX ([115,122,111]:Tx) d=.ok [c]∧isSl c:=by
 obtain⟨c,e,h⟩:=fM (x:=([115,122,111]:Tx)) (i:=d) h0 (by simp;omega) (by decide)
 exact⟨c,e,by simpa [isSl] using zW h⟩
theorem uC {ps:List Pl} (hp:∀p∈ps,Whole p) (hl:ps.length≤900) (h1:1≤ps.length) (cell:Int):(uh ps cell).Ok (Marks ps.length):=by
 unfold uh xC
 obtain⟨ns,en,hn,hns⟩:=kK (cell/ 3) ps.length 11 (by omega) (by decide) (by decide)
 rw[en,zm]
 obtain⟨r,er,hr⟩:=cR (f:=wv) (fun pre (r:Int×List Pl)=>Marks pre.length r.2) (ps.zip ns) (0,[]) ⟨rfl,by simp⟩ (by
  intro pre a post s e ⟨h1,h2⟩
  have ha:a∈ps.zip ns:=by rw[e];simp
  have hlen:pre.length< 900:=by have:=congrArg C7 e;simp[CD,hn]at this;omega
  obtain⟨k,out⟩:=s
  obtain⟨r,er,m,hm,e2⟩:=(uB (hp _ (io ha).1).mark (d:=a.2) (k:=k) (out:=out) (by have:out.length=pre.length:=h1;omega)).ex
  refine⟨r,er,by rw[e2];simp;exact h1,fun x hx=>?_⟩
  rw[e2]at hx
  rcases Ac.mp hx with z | z
  ·exact h2 x z
  ·rw[Cc.mp z];exact hm)
 rw[er,zm]
 have hr:Marks ps.length r.2:=⟨by rw[hr.1,CD,hn];omega,hr.2⟩
 refine iO (Bd (P:=Marks ps.length) (lv (fun _=>?_) fun _=>fV hr) fun r h=>fV h)
 rw[fL (by omega),zm]
 have b0:=Af (cell/ 3) (show(ps.length:Int)≠0 by omega)
 have b1:=A6 (cell/ 3) (show(0:Int)< (ps.length:Int) by omega)
 generalize cell/ 3% (ps.length:Int)=i at b0 b1
 obtain⟨m,em,hm⟩:=hr.get b0 (by omega)
 obtain⟨c,ec,hc⟩:=w8 (cell/ 7% 3) (Af _ (by decide)) (A6 _ (by decide))
 simp only[em,zm,ec,tP b0 (show i< r.2.length by rw[hr.1];exact b1)]
 refine⟨by simp[hr.1],fun x hx=>?_⟩
 rcases DR hx with z | z
 ·exact hr.2 x z
 ·rw[z];exact⟨hm.a,hm.b,⟨c,rfl,.inl hc⟩⟩
def oG (t:Cd):Cd:=(if t.1=[83]then [90]else [83],[db t 0,db t 3,db t 2,db t 1],(0- t.2.2)% 4)
def nj (c:Nat):Nat:=if c=102 then 98 else if c=98 then 102 else c
def oH (t:Cd) (k:Int):Cd:=(t.1,[db t ((0- k)% 4),db t ((1- k)% 4),db t ((2- k)% 4),db t ((3- k)% 4)],(t.2.2+k)% 4)
theorem lU {t:Cd} (h:Card t):uj t=.ok (oG t):=by
 unfold uj xE
 have e1:((gM ([83,90]:Tx) t.1).bind fun y5=>dX ([90,83]:Tx) y5)=.ok (if t.1=[83]then [90]else [83]):=by
  rcases h.lay with e | e <;> rw[e] <;> rfl
 rw[e1]
 simp only[zm,dn h (show(0:Int)≤0 by decide) (by decide),dn h (show(0:Int)≤3 by decide) (by decide),dn h (show(0:Int)≤2 by decide) (by decide),dn h (show(0:Int)≤1 by decide) (by decide)]
 rfl
theorem sH {t:Cd} (h:Card t) {x:Tx} (e:∀c∈x,∃i:Int,0≤i∧i< 4∧c=db t i):∀c∈x,97≤c∧c≤122:=fun c hc=>by
 obtain⟨i,h0,h1,rfl⟩:=e c hc
 unfold db
 have:i.toNat< t.2.1.length:=by rw[h.four];omega
 simp only[zu this,D8]
 exact h.col _ (BA this)
theorem Card.flip {t:Cd} (h:Card t):Card (oG t):=by
 refine⟨?_,rfl,sH h fun c hc=>?_,(eP _).1,(eP _).2⟩
 ·unfold oG;split
  ·exact .inr rfl
  ·exact .inl rfl
 ·have:c=db t 0∨c=db t 3∨c=db t 2∨c=db t 1:=by simpa [oG] using hc
  rcases this with rfl | rfl | rfl | rfl
  ·exact⟨0,by decide,by decide,rfl⟩
  ·exact⟨3,by decide,by decide,rfl⟩
  ·exact⟨2,by decide,by decide,rfl⟩
  ·exact⟨1,by decide,by decide,rfl⟩
theorem Card.roll {t:Cd} (h:Card t) (k:Int):Card (oH t k):=by
 refine⟨h.lay,rfl,sH h fun c hc=>?_,(eP _).1,(eP _).2⟩
 have:c=db t ((0- k)% 4)∨c=db t ((1- k)% 4)∨c=db t ((2- k)% 4)∨c=db t ((3- k)% 4):=by simpa [oH] using hc
 rcases this with rfl | rfl | rfl | rfl <;> exact⟨_,(eP _).1,(eP _).2,rfl⟩
theorem uD {t:Cd} (h:Card t) (k:Int):ul t k=.ok (oH t k):=by
 unfold ul xG
 rw[show fh (4:Int)=zt [(0:Int),1,2,3]from rfl,zm]
 rw[dY (g:=fun i:Int=>[db t ((i- k)% 4)]) (by decide) (fun i _=>dn h (eP _).1 (eP _).2)]
 rfl
theorem sI {c:Nat} (h:bu c):bu (nj c):=by
 unfold nj;rcases h with rfl | rfl | rfl
 ·exact .inr (.inl rfl)
 ·exact .inl rfl
 ·exact .inr (.inr rfl)
theorem uE {x:Tx} (h:fC x) (hl:x.length≤10000):uk x=.ok (x.map nj):=by
 unfold uk xF
 rw[dY (g:=fun t:Tx=>[nj (t.headD 0)]) (by show(cB x).length≤100000;simp[cB];omega) (fun t ht=>by
  obtain⟨c,hc,rfl⟩:=fN ht
  rcases h c hc with rfl | rfl | rfl <;> rfl),zm]
 have e:((cB x).map fun t:Tx=>[nj (t.headD 0)])=(x.map nj).map fun c=>[c]:=by simp[cB]
 rw[e,lq (by rw[nX];simp;omega),nX]
theorem nk {x:Tx} (h:fC x):fC (x.map nj):=fun c hc=>by
 obtain⟨d,hd,rfl⟩:=Ah.mp hc;exact sI (h d hd)
theorem oI (i:Int) (l:List Int) (hl:l.length< 1000):∃l',wx i l=.ok l'∧(∀x,x∈l'↔x∈l∨x=i)∧(l.Nodup→l'.Nodup)∧l'.length≤l.length+1:=by
 unfold wx
 by_cases h:i∈l
 ·refine⟨l,?_,fun x=>⟨.inl,fun z=>z.elim id fun e=>e▸h⟩,id,by omega⟩
  rw[if_neg (by simp[h])];rfl
 ·refine⟨l++ [i],?_,fun x=>by simp,fun hn=>?_,by simp⟩
  ·rw[if_pos (by simp[h]),eN (by omega)];rfl
  ·rw[FH];exact⟨hn,by simp,fun a ha b hb=>by simp at hb;subst hb;intro e;subst e;exact h ha⟩
def vc (t:Cd) (x:Tx) (i:Int):Prop:=∃k,0< k∧k≤x.length∧(i=(ends t (x.take k)).2.2∨i=((ends t (x.take k)).2.2+2)% 4)
theorem uF {t:Cd} (h:Card t) {x:Tx} (hx:fC x) (hl:x.length≤900):∃l,um t x=.ok l∧l.Pairwise (· ≤ ·)∧l.Nodup∧(∀i∈l,0≤i∧i< 4)∧∀i,i∈l↔vc t x i:=by
 unfold um xH
 obtain⟨s,e,h1,h2,h3,h4⟩:=cR (f:=xg im) (fun pre (s:Cd×List Int)=>s.1=ends t (x.take pre.length)∧s.2.Nodup∧(∀i∈s.2,0≤i∧i< 4)∧∀i,i∈s.2↔∃k,0< k∧k≤pre.length∧(i=(ends t (x.take k)).2.2∨i=((ends t (x.take k)).2.2+2)% 4)) (cB x) (t,[])
  ⟨by simp[ends],by simp,by simp,fun i=>⟨fun z=>by simp at z,fun⟨k,a,b,_⟩=>by simp at b;omega⟩⟩ (by
  intro pre a post s e ⟨h1,h2,h3,h4⟩
  have ha:a∈cB x:=by rw[e];simp
  obtain⟨c,hc,rfl⟩:=fN ha
  have hlen:pre.length< x.length:=by have:=congrArg C7 e;simp[cB]at this;omega
  have hget:x[pre.length]? =some c:=by
   have:=congrArg (fun l=>l[pre.length]?) e
   simp only[cB,zA,zN (zw _),CP,Bg]at this
   cases z:x[pre.length]? with
   | none=>rw[z]at this;cases this
   | some d=>rw[z]at this;simp at this;rw[this]
  have htake:x.take (pre.length+1)=x.take pre.length++ [c]:=by
   rw[List.take_add_one,hget];rfl
  have small:s.2.length≤4:=by
   have hsub:s.2 ⊆ [(0:Int),1,2,3]:=fun i hi=>by
    have:=h3 i hi
    have:i=0∨i=1∨i=2∨i=3:=by omega
    simpa using this
   exact(De h2 hsub)
  unfold xg
  rw[h1,jG (hx c hc),zm]
  have hB:Card (behind (ends t (x.take pre.length)) c):=(h.ends _).behind c
  generalize hbe:behind (ends t (x.take pre.length)) c=B at hB ⊢
  obtain⟨l1,e1,m1,n1,k1⟩:=oI B.2.2 s.2 (by omega)
  obtain⟨l2,e2,m2,n2,k2⟩:=oI ((B.2.2+2)% 4) l1 (by omega)
  have el:bE wx [B.2.2,(B.2.2+2)% 4] s.2=.ok l2:=by simp only[bE,e1,e2,zm]
  rw[el]
  have hE:ends t (x.take (pre.length+1))=B:=by rw[htake,sD,hbe]
  refine⟨(B,l2),rfl,by simp[hE],n2 (n1 h2),fun i hi=>?_,fun i=>?_⟩
  ·rcases (m2 i).mp hi with z | z
   ·rcases (m1 i).mp z with z | z
    ·exact h3 i z
    ·rw[z];exact⟨hB.low,hB.high⟩
   ·rw[z];exact eP _
  ·rw[m2,m1,h4]
   constructor
   ·rintro ((⟨k,a,b,z⟩ | z) | z)
    ·exact⟨k,a,by simp;omega,z⟩
    ·exact⟨pre.length+1,by omega,by simp,.inl (by rw[hE];exact z)⟩
    ·exact⟨pre.length+1,by omega,by simp,.inr (by rw[hE];exact z)⟩
   ·rintro ⟨k,a,b,z⟩
    simp at b
    rcases Nat.lt_or_ge k (pre.length+1)with q | q
    ·exact .inl (.inl ⟨k,a,by omega,z⟩)
    ·have:k=pre.length+1:=by omega
     subst this
     rw[hE]at z
     rcases z with z | z
     ·exact .inl (.inr z)
     ·exact .inr z)
 rw[e,zm]
 have hsub:s.2 ⊆ [(0:Int),1,2,3]:=fun i hi=>by
  have:=h3 i hi
  have:i=0∨i=1∨i=2∨i=3:=by omega
  simpa using this
 have small:=(De h2 hsub)
 simp only[BB,Dw]at small
 rw[rc (by omega)]
 have pm:=hW s.2
 refine⟨_,rfl,jy _,pm.nodup_iff.mpr h2,fun i hi=>h3 i (pm.mem_iff.mp hi),fun i=>?_⟩
 rw[pm.mem_iff,h4]
 unfold vc
 simp[cB]
theorem w9 (d:Int) (h0:0≤d) (h1:d< 26):∃c,dX ([97,98,99,100,101,102,103,104,105,106,107,108,109,110,111,112,113,114,115,116,117,118,119,120,121,122]:Tx) d=.ok [c]∧97≤c∧c≤122:=by
 obtain⟨c,e,h⟩:=fM (x:=([97,98,99,100,101,102,103,104,105,106,107,108,109,110,111,112,113,114,115,116,117,118,119,120,121,122]:Tx)) (i:=d) h0 (by simp;omega) (by decide)
 have:∀c∈([97,98,99,100,101,102,103,104,105,106,107,108,109,110,111,112,113,114,115,116,117,118,119,120,121,122]:Tx),97≤c∧c≤122:=by decide
 exact⟨c,e,this c (zW h)⟩
def uG (t:Cd) (i:Nat) (c:Nat):Cd:=(t.1,t.2.1.set i c,t.2.2)
theorem Card.dye {t:Cd} (h:Card t) (i:Nat) {c:Nat} (h0:97≤c) (h1:c≤122):Card (uG t i c):=⟨h.lay,by simp[uG,h.four],fun x hx=>by
 rcases DR hx with z | z
 ·exact h.col x z
 ·rw[z];exact⟨h0,h1⟩,h.low,h.high⟩
theorem uH {x:Tx} {i c:Nat} (h:i< x.length):x.take i++ [c]++x.drop (i+1)=x.set i c:=by
 rw[List.set_eq_take_append_cons_drop,if_pos h];simp
theorem wa {t:Cd} (h:Card t) {i:Nat} (hi:i< 4) (c:Nat):((((pc t.2.1 none (some (i:Int))).bind fun y83=>jl y83 [c]).bind fun y84=>(pc t.2.1 (some ((i:Int)+(1:Int))) none).bind fun y85=>jl y84 y85).bind fun y86=>zt (t.1,y86,t.2.2))=.ok (uG t i c):=by
 have hl:t.2.1.length≤100000:=by rw[h.four];decide
 rw[nW hl,iN,zm,ku (by simp;have:=h.four;omega),zm,show(i:Int)+1=((i+1:Nat):Int)from rfl,nW hl,lu,zm,ku (by simp;have:=h.four;omega),zm,uH (by rw[h.four];exact hi)]
 rfl
theorem wb (cell:Int) (l:List Int) {t:Cd} (h:Card t) {i:Nat} (hi:i< 4):∃t',wy cell l (i:Int) t=.ok t'∧Card t'∧(t'=t∨((i:Int)∉l∧∃c,t'=uG t i c)):=by
 unfold wy
 by_cases z:(i:Int)∈l
 ·rw[if_neg (by simp[z])];exact⟨t,rfl,h,.inl rfl⟩
 ·rw[if_pos (by simp[z]),ln (by omega) (by omega)]
  simp only[zm]
  obtain⟨c,e,h0,h1⟩:=w9 ((cell/ 16+5*(i:Int))% 26) (Af _ (by decide)) (A6 _ (by decide))
  rw[e]
  simp only[zm]
  have:=wa h hi c
  rw[this]
  exact⟨_,rfl,h.dye i h0 h1,.inr ⟨z,c,rfl⟩⟩
theorem wc {t:Cd} (h:Card t) {x:Tx} (hx:fC x) (hl:x.length≤900) (cell:Int):(uo t x cell).Ok fun r=>Card r.1∧fC r.2∧r.2.length=x.length:=by
 unfold uo xI
 refine iO (Bd (P:=fun r:Cd×Tx=>Card r.1∧fC r.2∧r.2.length=x.length) (lv (fun _=>?_) fun _=>fV ⟨h,hx,rfl⟩) fun r ⟨h1,h2,h3⟩=>?_)
 ·rw[lU h,zm,uE hx (by omega),zm]
  exact⟨h.flip,nk hx,by simp⟩
 ·rw[uD h1,zm]
  have hr:=h1.roll (cell/ 2% 4)
  generalize oH r.1 (cell/ 2% 4)=R at hr ⊢
  refine iO (Bd (P:=Card) (lv (fun _=>?_) fun _=>fV hr) fun c hc=>fV ⟨hc,h2,h3⟩)
  obtain⟨l,el,_⟩:=uF hr h2 (by omega)
  rw[el,zm,show fh (4:Int)=zt ((AD 4).map fun(i:Nat)=>(i:Int))from rfl,zm]
  obtain⟨s,es,hs⟩:=cR (f:=wy cell l) (fun pre s=>Card s) ((AD 4).map fun(i:Nat)=>(i:Int)) R hr (by
   intro pre a post s e hs
   have ha:a∈(AD 4).map fun(i:Nat)=>(i:Int):=by rw[e];simp
   obtain⟨i,hi,rfl⟩:=Ah.mp ha
   obtain⟨t',e',h',_⟩:=wb cell l hs (Cp.mp hi)
   exact⟨t',e',h'⟩)
  rw[es]
  exact hs
theorem uI {s:List Int} (hs:s.length≤63) (most:Nat) (hm:most≤24):(sV s (most:Int)).Ok fun r=>Card r.1∧(∃n,n≤60∧Marks n r.2.1)∧0≤r.2.2∧r.2.2< 4:=by
 unfold sV xJ
 obtain⟨c0,e0⟩:=hZ hs 0 (by decide)
 obtain⟨c1,e1⟩:=hZ hs 1 (by decide)
 obtain⟨c2,e2⟩:=hZ hs 2 (by decide)
 obtain⟨c3,e3⟩:=hZ hs 3 (by decide)
 obtain⟨c4,e4⟩:=hZ hs 4 (by decide)
 obtain⟨t,et,ht⟩:=oF c0
 rw[show gf s 0=.ok c0 from e0,show gf s 1=.ok c1 from e1,show gf s 2=.ok c2 from e2,show gf s 3=.ok c3 from e3,show gf s 4=.ok c4 from e4]
 simp only[zm,et]
 rw[fL (by omega),zm]
 have z0:=Af c2 (show(most:Int)+1≠0 by omega)
 have z1:=A6 c2 (show(0:Int)< (most:Int)+1 by omega)
 refine iO (Bd (P:=fun d=>0≤d∧d≤60) (lv (fun _=>fV ⟨by omega,by omega⟩) fun _=>fV ⟨z0,by omega⟩) fun d1 hd1=>?_)
 refine iO (Bd (P:=fun d=>0≤d∧d≤60) (lv (fun _=>fV ⟨by omega,by omega⟩) fun _=>fV hd1) fun d2 hd2=>?_)
 obtain⟨n,rfl⟩:∃n:Nat,d2=(n:Int):=⟨d2.toNat,by omega⟩
 obtain⟨x,ex,hxl,hx⟩:=sB c1 n (by omega)
 rw[ex]
 simp only[zm,pZ ht hx (show x.length≤10000 by omega)]
 have hw:=kL ht x
 have hpl:=ni t x
 refine iO (Bd (P:=Marks n) (lv (fun z=>?_) fun _=>?_) fun l hl=>?_)
 ·refine iO (Bd (uC hw (by omega) (by omega) c3) fun r hr=>fV ?_)
  rw[hpl,hxl]at hr;exact hr
 ·refine iO (Bd (sG hw (by omega) (c3/ 3) _) fun r hr=>fV ?_)
  rw[hpl,hxl]at hr;exact hr
 ·refine iO (Bd (P:=Card) (lv (fun _=>?_) fun _=>fV ht) fun t1 h1=>?_)
  ·exact iO (iO ((wc ht hx (by omega) _).imp fun r hr=>fV (fV hr.1)))
  ·refine iO (Bd (P:=Card) (lv (fun _=>?_) fun _=>fV h1) fun t2 h2=>?_)
   ·obtain⟨t',e',h'⟩:=oF (c4/ 4/ 6)
    rw[e'];exact h'
   ·exact⟨h2,⟨n,by omega,hl⟩,(eP _).1,(eP _).2⟩
def standAt (t:Cd) (i:Int):Cd:=(t.1,t.2.1,(if t.1=[83]then t.2.2+i else t.2.2- i)% 4)
def fits (p m:Pl):Bool:=(decide (m.1=[63]) || decide (m.1=p.1)) && ((decide (m.2.1=[63]) || decide (m.2.1=p.2.1)) && (decide (m.2.2=[63]) || decide (m.2.2=p.2.2)))
theorem Card.standAt {t:Cd} (h:Card t) (i:Int):Card (standAt t i):=⟨h.lay,h.four,h.col,(eP _).1,(eP _).2⟩
theorem wd {t:Cd} (h:Card t):gC t=.ok [db t t.2.2]:=by
 unfold gC oC
 rw[show t.2.2% 4=t.2.2 from Int.emod_eq_of_lt h.low h.high,dn h h.low h.high]
theorem q9 {t:Cd} (h:Card t):ut t=.ok [db t ((t.2.2+2)% 4)]:=by
 unfold ut xO;rw[dn h (eP _).1 (eP _).2]
theorem i3 {t:Cd} {c:Nat} (h:bu c):ng t [c]=.ok (tw t c):=by
 unfold ng xL
 have e:getD ([([102],1),([98],(-1)),([105],0)]:List (Tx×Int)) [c]=.ok (go c):=by rcases h with rfl | rfl | rfl <;> rfl
 rw[e,zm]
 by_cases z:t.1=[83]
 ·rw[if_pos (by simpa using z)];unfold tw;rw[if_pos z]
 ·rw[if_neg (by simpa using z)];unfold tw;rw[if_neg z]
theorem qa {i:Int} (h: -1≤i∧i≤1):getD ([(1,[115]),((-1),[122]),(0,[111])]:List (Int×Tx)) i=.ok [lQ i]:=by
 have:i= -1∨i=0∨i=1:=by omega
 rcases this with rfl | rfl | rfl <;> rfl
theorem uJ {t:Cd} (h:Card t) {c:Nat} (hc:bu c):uv t [c]=.ok (place t c):=by
 unfold uv xP
 simp only[wd h,q9 h,i3 hc,zm,qa (va t c)]
 rfl
theorem nl (t:Cd) (i:Int):ur t i=.ok (standAt t i):=by
 unfold ur xN standAt
 by_cases z:t.1=[83]
 ·rw[if_pos (by simpa using z),if_pos z];rfl
 ·rw[if_neg (by simpa using z),if_neg z];rfl
theorem sJ (a b:Tx):sX a b=.ok (decide (b=[63]) || decide (b=a)):=by
 unfold sX xQ
 by_cases z:b=[63]
 ·rw[if_pos (by simpa using z),decide_eq_true z];rfl
 ·rw[if_neg (by simpa using z),decide_eq_false z];rfl
theorem qb (p m:Pl):uw p m=.ok (fits p m):=by
 unfold uw xR
 rw[dY (g:=fun a1:Tx×Tx=>decide (a1.2=[63]) || decide (a1.2=a1.1)) (by show 3≤100000;decide) (fun x _=>sJ x.1 x.2),zm]
 congr 1
 simp[fits]
theorem qc {t:Cd} (h:Card t) (s:Int×Int) {c:Nat} (hc:bu c) (m:Pl):sr t s [c] m=.ok (fits (place (standAt t s.1) c) m):=by
 unfold sr xT
 simp only[nl,zm,uJ (h.standAt _) hc,qb]
def aE (t:Cd) (s:Int×Int) (c:Nat):Int×Int:=(s.1+tw t c,if c=105 then s.2+1 else 0)
theorem sK {t:Cd} (s:Int×Int) {c:Nat} (hc:bu c):sW t s [c]=.ok (aE t s c):=by
 unfold sW xM aE
 simp only[i3 hc,zm]
 by_cases z:c=105
 ·rw[if_pos (by simp[z]),if_pos z];rfl
 ·rw[if_neg (by simp[z]),if_neg z];rfl
def dO (s:Int×Int) (loose bound:Int):Bool:=decide (cy s.1≤bound) && decide (s.2≤loose)
theorem jH (s:Int×Int) (loose bound:Int):lO s loose bound=.ok (dO s loose bound):=by
 unfold lO xK dO
 by_cases z:cy s.1≤bound
 ·rw[if_pos (by simpa using z),decide_eq_true z];rfl
 ·rw[if_neg (by simpa using z),decide_eq_false z];rfl
def cH (t:Cd) (loose bound:Int) (s:Int×Int) (c:Nat) (m:Pl):Bool:=dO (aE t s c) loose bound && fits (place (standAt t (aE t s c).1) c) m
theorem absI_le {i b:Int} :cy i≤b↔ -b≤i∧i≤b:=by unfold cy;split <;> omega
def mj (t:Cd) (mk:Pl) (loose bound:Int) (s:Int×Int):List Nat:=[102,98,105].filter fun c=>cH t loose bound s c mk
theorem mem_onw {t:Cd} {mk:Pl} {loose bound:Int} {s:Int×Int} {c:Nat} :c∈mj t mk loose bound s↔bu c∧cH t loose bound s c mk=true:=by
 unfold mj
 rw[Ex]
 simp[bu]
theorem jI {t:Cd} (h:Card t) (mk:Pl) (loose bound:Int) (s:Int×Int):jb t mk loose bound s=.ok ((mj t mk loose bound s).map fun c=>([c],aE t s c)):=by
 unfold jb xV mj
 rw[dY (g:=fun a:Tx=>(a,aE t s (a.headD 0))) (by show 3≤100000;decide) (fun a ha=>by
  obtain⟨c,hc,rfl⟩:=fN ha
  have ht:bu c:=by simpa [bu] using hc
  rw[sK s ht];rfl),zm]
 rw[rd (g:=fun a:Tx×(Int×Int)=>if cH t loose bound s (a.1.headD 0) mk=true then some a else none) (by show 3≤100000;decide) (fun a ha=>by
  obtain⟨x,hx,rfl⟩:=Ah.mp ha
  obtain⟨c,hc,rfl⟩:=fN hx
  have ht:bu c:=by simpa [bu] using hc
  show((lO (aE t s c) loose bound).bind fun y=>if y then sr t (aE t s c) [c] mk else zt false).bind (fun y=>if y then zt (some ([c],aE t s c))else zt none)=_
  rw[jH,zm,qc h _ ht]
  show _=zt (if cH t loose bound s c mk=true then some ([c],aE t s c)else none)
  unfold cH
  cases dO (aE t s c) loose bound <;> cases fits (place (standAt t (aE t s c).1) c) mk <;> rfl)]
 show zt (List.filterMap _ [([102],aE t s 102),([98],aE t s 98),([105],aE t s 105)])=_
 cases h1:cH t loose bound s 102 mk <;> cases h2:cH t loose bound s 98 mk <;> cases h3:cH t loose bound s 105 mk <;> simp[h1,h2,h3]
theorem nq:∀(n:Nat) (l:List Nat),l.Nodup→(∀x∈l,x< n)→l.length≤n
 | 0, l, _, h => by
  cases l with
  | nil=>simp
  | cons a l=>exact absurd (h a (zP ..)) (by omega)
 | n + 1, l, nd, h => by
  by_cases z:n∈l
  ·have:=nq n (l.erase n) (nd.erase n) fun x hx=>by
    have h1:=h x (D3 hx)
    have h2:x≠n:=fun e=>by subst e;exact(CA nd) hx
    omega
   rw[CB z]at this
   omega
  ·have:=nq n l nd fun x hx=>by
    have h1:=h x hx
    have h2:x≠n:=fun e=>z (e▸hx)
    omega
   omega
theorem kM {α:Type} (pre:List α) (a:α):eW (pre++ [a]) (-(1:Int))=.ok a:=by
 have e:qg (pre++ [a]) (-1)=some a:=by
  unfold qg ixN
  rw[if_neg (by decide),if_pos (by simp;omega)]
  show(pre++ [a])[_]? =some a
  have:(-1+((pre++ [a]).length:Int)).toNat=pre.length:=by simp;omega
  rw[this]
  simp
 unfold eW
 rw[e]
 rfl
def lV (p:Int×Int):Prop:= -60≤p.1∧p.1≤60∧0≤p.2∧p.2≤3
theorem ip {l:List (Int×Int)} (nd:l.Nodup) (h:∀p∈l,lV p):l.length≤484:=by
 have nd2:(l.map fun p=>((p.1+60)*4+p.2).toNat).Nodup:=by
  rw[Aj,BN]
  refine(Aj.mp nd).imp_of_mem fun {a b} ha hb hne e=>hne ?_
  have h1:=h a ha
  have h2:=h b hb
  unfold lV at h1 h2
  exact DI (by omega) (by omega)
 have:=nq 484 _ nd2 fun x hx=>by
  obtain⟨p,hp,rfl⟩:=Ah.mp hx
  have h1:=h p hp
  unfold lV at h1
  omega
 simpa using this
theorem oJ {t:Cd} {mk:Pl} {loose bound:Int} (hl:loose≤3) (hb:bound≤60) {s:Int×Int} (hs:lV s) {c:Nat} (h:cH t loose bound s c mk=true):lV (aE t s c):=by
 unfold cH dO at h
 simp only[Be,decide_eq_true_eq]at h
 have h1:=absI_le.mp h.1.1
 have h2:=h.1.2
 unfold lV at hs ⊢
 refine⟨by omega,by omega,?_,by omega⟩
 unfold aE
 dsimp only
 split <;> omega
def Nx (t:Cd) (mk:Pl) (loose bound:Int) (l:List (Int×Int)) (p:Int×Int):Prop:=∃s∈l,∃c,bu c∧cH t loose bound s c mk=true∧p=aE t s c
theorem Nx.inb {t:Cd} {mk:Pl} {loose bound:Int} (hl:loose≤3) (hb:bound≤60) {l:List (Int×Int)} (h:∀p∈l,lV p) {p:Int×Int} (n:Nx t mk loose bound l p):lV p:=by
 obtain⟨s,hs,c,_,hm,rfl⟩:=n
 exact oJ hl hb (h s hs) hm
theorem we {t:Cd} {mk:Pl} {loose bound:Int} {p:Int×Int} :¬Nx t mk loose bound [] p:=fun⟨s,hs,_⟩=>by cases hs
theorem uK {t:Cd} {mk:Pl} {loose bound:Int} {l:List (Int×Int)} {a p:Int×Int} :Nx t mk loose bound (l++ [a]) p↔Nx t mk loose bound l p∨∃c∈mj t mk loose bound a,p=aE t a c:=by
 constructor
 ·rintro ⟨q,hq,c,hc,hm,rfl⟩
  rcases Ac.mp hq with hq | hq
  ·exact .inl ⟨q,hq,c,hc,hm,rfl⟩
  ·have:q=a:=by simpa using hq
   subst this
   exact .inr ⟨c,mem_onw.mpr ⟨hc,hm⟩,rfl⟩
 ·rintro (⟨q,hq,z⟩ | ⟨c,hc,rfl⟩)
  ·exact⟨q,by simp[hq],z⟩
  ·exact⟨a,by simp,c,(mem_onw.mp hc).1,(mem_onw.mp hc).2,rfl⟩
def kN (ks:List (Int×Int)) (k:Int×Int):List (Int×Int):=if k∈ks then ks else k::ks
theorem addP_mem {ks:List (Int×Int)} {k p:Int×Int} :p∈kN ks k↔p∈ks∨p=k:=by
 unfold kN
 split
 ·rename_i z
  exact⟨.inl,fun h=>h.elim id fun e=>e▸z⟩
 ·rw[zU];exact⟨fun h=>h.symm,fun h=>h.symm⟩
theorem oK {ks:List (Int×Int)} (h:ks.Nodup) (k:Int×Int):(kN ks k).Nodup:=by
 unfold kN
 split
 ·exact h
 ·rename_i z
  exact Bo.mpr ⟨z,h⟩
def qd (l ks:List (Int×Int)):List (Int×Int):=l.foldl kN ks
theorem gD:∀(l ks:List (Int×Int)),ks.Nodup→(qd l ks).Nodup∧∀p,p∈qd l ks↔p∈ks∨p∈l
 | [],ks,h=>⟨h,fun p=>by simp[qd]⟩
 | a :: l, ks, h => by
  have ih:=gD l (kN ks a) (oK h a)
  refine⟨ih.1,fun p=>?_⟩
  show p∈qd l (kN ks a)↔_
  rw[ih.2,addP_mem,zU,or_assoc]
def gV (t:Cd) (mk:Pl) (loose bound:Int) (l:List (Int×Int)):List (Int×Int):=dL (qd (l.flatMap fun s=>(mj t mk loose bound s).map (aE t s)) [])
theorem lW {t:Cd} {mk:Pl} {loose bound:Int} {l:List (Int×Int)} {p:Int×Int} :p∈(l.flatMap fun s=>(mj t mk loose bound s).map (aE t s))↔Nx t mk loose bound l p:=by
 rw[List.mem_flatMap]
 constructor
 ·rintro ⟨s,hs,h⟩
  obtain⟨c,hc,rfl⟩:=Ah.mp h
  exact⟨s,hs,c,(mem_onw.mp hc).1,(mem_onw.mp hc).2,rfl⟩
 ·rintro ⟨s,hs,c,h1,h2,rfl⟩
  exact⟨s,hs,Ah.mpr ⟨c,mem_onw.mpr ⟨h1,h2⟩,rfl⟩⟩
theorem mem_nxt {t:Cd} {mk:Pl} {loose bound:Int} {l:List (Int×Int)} {p:Int×Int} :p∈gV t mk loose bound l↔Nx t mk loose bound l p:=by
 unfold gV
 rw[(dl _).mem_iff,(gD _ [] CT).2,lW]
 simp
theorem wf {t:Cd} {mk:Pl} {loose bound:Int} {l S:List (Int×Int)} (nd:S.Nodup) (h:∀p,p∈S↔Nx t mk loose bound l p):dL S=gV t mk loose bound l:=by
 refine iS ((dl S).trans ?_) (iR S)
 have g:=gD (l.flatMap fun s=>(mj t mk loose bound s).map (aE t s)) [] CT
 exact(List.perm_ext_iff_of_nodup nd g.1).mpr fun p=>by rw[h,g.2,lW];simp
theorem sL (ys:List (Tx×(Int×Int))) (s0:List (Int×Int)) (nd:s0.Nodup) (h0:∀p∈s0,lV p) (hy:∀a∈ys,lV a.2):
  bE (fun(a:Tx×(Int×Int)) (s:List (Int×Int))=>ly s a.2) ys s0=.ok (qd (ys.map (·.2)) s0):=by
 induction ys generalizing s0 with
 | nil=>rfl
 | cons a ys ih =>
  have hl:=ip nd h0
  show(ly s0 a.2).bind _=_
  rw[show ly s0 a.2=.ok (kN s0 a.2)from bt (by omega),zm]
  exact ih (kN s0 a.2) (oK nd _) (fun p hp=>by
   rcases addP_mem.mp hp with z | z
   ·exact h0 p z
   ·rw[z];exact hy a (zP ..)) fun b hb=>hy b (zR _ hb)
theorem sM {t:Cd} (h:Card t) (mk:Pl) {loose bound:Int} (hl:loose≤3) (hb:bound≤60) {states:List (Int×Int)} (hs:∀p∈states,lV p):nh t mk loose bound states=.ok (gV t mk loose bound states):=by
 unfold nh xW
 obtain⟨s,e,h1,h2⟩:=cR (f:=fun(a:Int×Int) (s:List (Int×Int))=>(jb t mk loose bound a).bind fun y=>bE (fun(a:Tx×(Int×Int)) (s:List (Int×Int))=>ly s a.2) y s)
  (fun pre s=>s.Nodup∧∀p,p∈s↔Nx t mk loose bound pre p) states [] ⟨CT,fun p=>⟨fun z=>(by cases z),fun z=>absurd z we⟩⟩ (by
  intro pre a post s e ⟨h1,h2⟩
  have ha:lV a:=hs a (by rw[e];simp)
  have hp:∀p∈pre,lV p:=fun p hp=>hs p (by rw[e];simp[hp])
  rw[jI h,zm,sL _ s h1 (fun p hq=>((h2 p).mp hq).inb hl hb hp) (fun b hb'=>by
   obtain⟨c,hc,rfl⟩:=Ah.mp hb'
   exact oJ hl hb ha (mem_onw.mp hc).2)]
  have g:=gD (((mj t mk loose bound a).map fun c=>(([c]:Tx),aE t a c)).map (·.2)) s h1
  refine⟨_,rfl,g.1,fun p=>?_⟩
  rw[g.2,h2,uK,BL,Ah]
  exact or_congr Iff.rfl ⟨fun⟨c,h1,h2⟩=>⟨c,h1,h2.symm⟩,fun⟨c,h1,h2⟩=>⟨c,h1,h2.symm⟩⟩)
 have hlen:=ip h1 fun p hp=>((h2 p).mp hp).inb hl hb hs
 rw[show bE _ states []=zt s from e,zm,show rh s=.ok (dL s)from bt (by omega),wf h1 h2]
def bp (t:Cd) (loose bound:Int):List Pl→List (Int×Int)→List (List (Int×Int))
 | [],cur=>[cur]
 | m :: r, cur => match cur with
  | []=>[[]]
  | a::q=>(a::q)::bp t loose bound r (gV t m loose bound (a::q))
theorem fD {t:Cd} {loose bound:Int} (l:List Pl) (cur:List (Int×Int)):∃r,bp t loose bound l cur=cur::r:=by
 cases l with
 | nil=>exact⟨_,rfl⟩
 | cons m l => cases cur with
  | nil=>exact⟨_,rfl⟩
  | cons a q=>exact⟨_,rfl⟩
theorem gE {t:Cd} (h:Card t) {loose bound:Int} (hl:loose≤3) (hb:bound≤60):∀(strip:List Pl) (pre:List (List (Int×Int))) (cur:List (Int×Int)),pre.length+strip.length≤1000→(∀p∈cur,lV p)→
  ∃r,iI (uZ nh t loose bound) strip (pre++ [cur])=.ok r∧(r=.nx (pre++bp t loose bound strip cur)∨r=.rt (pre++bp t loose bound strip cur))
 | [],pre,cur,_,_=>⟨_,rfl,.inl rfl⟩
 | m :: strip, pre, cur, hp, hc => by
  simp only[BB]at hp
  show ∃r,(uZ nh t loose bound m (pre++ [cur])).bind _=.ok r∧_
  cases cur with
  | nil =>
   refine⟨.rt (pre++ [[]]),?_,.inr rfl⟩
   unfold uZ
   rw[kM]
   rfl
  | cons a q =>
   have e1:uZ nh t loose bound m (pre++ [a::q])=.ok (.nx (pre++ [a::q]++ [gV t m loose bound (a::q)])):=by
    unfold uZ
    rw[kM,zm,zm,if_neg (by simp),zm,sM h m hl hb hc,zm,eN (by simp;omega)]
    rfl
   rw[e1,zm]
   obtain⟨r,er,hr⟩:=gE h hl hb strip (pre++ [a::q]) (gV t m loose bound (a::q)) (by simp;omega) (fun p hp=>(mem_nxt.mp hp).inb hl hb hc)
   refine⟨r,er,?_⟩
   have e2:pre++bp t loose bound (m::strip) (a::q)=pre++ [a::q]++bp t loose bound strip (gV t m loose bound (a::q)):=by
    rw[zO];rfl
   rw[e2]
   exact hr
theorem wg:∀p∈[((0:Int),(0:Int))],lV p:=fun p hp=>by
 have:p=(0,0):=by simpa using hp
 subst this
 exact⟨by decide,by decide,by decide,by decide⟩
theorem oM {t:Cd} (h:Card t) {loose bound:Int} (h0:0≤loose) (h1:0≤bound) (hl:loose≤3) (hb:bound≤60) (strip:List Pl) (hs:strip.length≤1000):gU t strip loose bound=.ok (bp t loose bound strip [(0,0)]):=by
 unfold gU xX
 have w:dO (0,0) loose bound=true:=by
  unfold dO cy
  simp;omega
 rw[jH,w,zm,if_pos rfl,zm,zm]
 obtain⟨r,er,hr⟩:=gE h hl hb strip [] [(0,0)] (by simpa using hs) wg
 rw[show iI _ strip [[((0:Int),(0:Int))]]=zt r from er,zm]
 rcases hr with rfl | rfl <;> rfl
def cnt (t:Cd) (loose bound:Int):List Pl→Int×Int→Int
 | [],_=>1
 | m::r,s=>((mj t m loose bound s).map fun c=>cnt t loose bound r (aE t s c)).sum
def oN (b:Bool) (i:Int):Int:=if b=true then i else 0
theorem fQ {t:Cd} {loose bound:Int} {m:Pl} {r:List Pl} {s:Int×Int} :cnt t loose bound (m::r) s=oN (cH t loose bound s 102 m) (cnt t loose bound r (aE t s 102))+oN (cH t loose bound s 98 m) (cnt t loose bound r (aE t s 98))+oN (cH t loose bound s 105 m) (cnt t loose bound r (aE t s 105)):=by
 show((mj t m loose bound s).map fun c=>cnt t loose bound r (aE t s c)).sum=_
 unfold mj oN
 cases h1:cH t loose bound s 102 m <;> cases h2:cH t loose bound s 98 m <;> cases h3:cH t loose bound s 105 m <;> simp[h1,h2,h3] <;> omega
theorem gW {b:Bool} {i:Int} (h:0≤i):0≤oN b i:=by unfold oN;split <;> omega
theorem dW {t:Cd} {loose bound:Int} :∀(l:List Pl) (s:Int×Int),0≤cnt t loose bound l s
 | [],_=>by show(0:Int)≤1;decide
 | m :: r, s => by
  rw[fQ]
  have h1:=gW (b:=cH t loose bound s 102 m) (dW (t:=t) (loose:=loose) (bound:=bound) r (aE t s 102))
  have h2:=gW (b:=cH t loose bound s 98 m) (dW (t:=t) (loose:=loose) (bound:=bound) r (aE t s 98))
  have h3:=gW (b:=cH t loose bound s 105 m) (dW (t:=t) (loose:=loose) (bound:=bound) r (aE t s 105))
  omega
theorem cnt_pos {t:Cd} {loose bound:Int} {m:Pl} {r:List Pl} {s:Int×Int} :cnt t loose bound (m::r) s=0↔∀c,bu c→cH t loose bound s c m=true→cnt t loose bound r (aE t s c)=0:=by
 rw[fQ]
 have n1:=dW (t:=t) (loose:=loose) (bound:=bound) r (aE t s 102)
 have n2:=dW (t:=t) (loose:=loose) (bound:=bound) r (aE t s 98)
 have n3:=dW (t:=t) (loose:=loose) (bound:=bound) r (aE t s 105)
 have h1:=gW (b:=cH t loose bound s 102 m) n1
 have h2:=gW (b:=cH t loose bound s 98 m) n2
 have h3:=gW (b:=cH t loose bound s 105 m) n3
 constructor
 ·intro h c hc hm
  rcases hc with rfl | rfl | rfl
  ·have:oN (cH t loose bound s 102 m) (cnt t loose bound r (aE t s 102))=0:=by omega
   rw[hm]at this;exact this
  ·have:oN (cH t loose bound s 98 m) (cnt t loose bound r (aE t s 98))=0:=by omega
   rw[hm]at this;exact this
  ·have:oN (cH t loose bound s 105 m) (cnt t loose bound r (aE t s 105))=0:=by omega
   rw[hm]at this;exact this
 ·intro h
  have key:∀c,bu c→oN (cH t loose bound s c m) (cnt t loose bound r (aE t s c))=0:=fun c hc=>by
   unfold oN
   split
   ·rename_i z;exact h c hc z
   ·rfl
  rw[key 102 (.inl rfl),key 98 (.inr (.inl rfl)),key 105 (.inr (.inr rfl))]
  rfl
def sN (m m':Pl):Prop:=∀p,fits p m=true→fits p m'=true
def WL:List Pl→List Pl→Prop
 | [],[]=>True
 | m::r,m'::r'=>sN m m'∧WL r r'
 | _,_=>False
theorem WL.refl:∀l,WL l l
 | []=>BO
 | m::r=>⟨fun _ h=>h,WL.refl r⟩
theorem jc {t:Cd} {loose loose' bound bound':Int} (h1:loose≤loose') (h2:bound≤bound') {m m':Pl} (h3:sN m m') {s:Int×Int} {c:Nat} (h:cH t loose bound s c m=true):cH t loose' bound' s c m'=true:=by
 unfold cH dO at h ⊢
 simp only[Be,decide_eq_true_eq]at h ⊢
 exact⟨⟨GO h.1.1 h2,GO h.1.2 h1⟩,h3 _ h.2⟩
theorem jd {b b':Bool} {i i':Int} (h:b=true→b'=true) (hi:i≤i') (h0:0≤i'):oN b i≤oN b' i':=by
 unfold oN
 cases b
 ·rw[if_neg (by decide)];split <;> omega
 ·rw[if_pos rfl,if_pos (h rfl)];exact hi
theorem de {t:Cd} {loose loose' bound bound':Int} (h1:loose≤loose') (h2:bound≤bound'):∀(l l':List Pl) (s:Int×Int),WL l l'→cnt t loose bound l s≤cnt t loose' bound' l' s
 | [],[],s,_=>C8 _
 | [],_::_,_,h=>h.elim
 | _::_,[],_,h=>h.elim
 | m :: r, m' :: r', s, ⟨h3, h4⟩ => by
  rw[fQ,fQ]
  have g1:=jd (jc (t:=t) h1 h2 h3 (s:=s) (c:=102)) (de (t:=t) h1 h2 r r' (aE t s 102) h4) (dW (t:=t) r' (aE t s 102))
  have g2:=jd (jc (t:=t) h1 h2 h3 (s:=s) (c:=98)) (de (t:=t) h1 h2 r r' (aE t s 98) h4) (dW (t:=t) r' (aE t s 98))
  have g3:=jd (jc (t:=t) h1 h2 h3 (s:=s) (c:=105)) (de (t:=t) h1 h2 r r' (aE t s 105) h4) (dW (t:=t) r' (aE t s 105))
  omega
theorem je {t:Cd} {loose bound:Int} (l:List Pl) (cur:List (Int×Int)):0< (bp t loose bound l cur).length:=by
 obtain⟨r,hr⟩:=fD (t:=t) (loose:=loose) (bound:=bound) l cur
 rw[hr];simp
theorem jJ {t:Cd} {loose bound:Int} :∀(l:List Pl) (cur:List (Int×Int)),(bp t loose bound l cur).length≤l.length+1
 | [],cur=>zw _
 | m::r,[]=>by show 1≤_;omega
 | m :: r, a :: q => by
  have:=jJ (t:=t) (loose:=loose) (bound:=bound) r (gV t m loose bound (a::q))
  show(bp t loose bound r (gV t m loose bound (a::q))).length+1≤r.length+1+1
  omega
theorem lX {t:Cd} {loose bound:Int} :∀(l:List Pl) (cur:List (Int×Int)) (i:Nat),i+1< (bp t loose bound l cur).length→∃m L,l[i]? =some m∧(bp t loose bound l cur)[i]? =some L∧(bp t loose bound l cur)[i+1]? =some (gV t m loose bound L)
 | [],cur,i,h=>absurd h (by show ¬i+1< 1;omega)
 | m::r,[],i,h=>absurd h (by show ¬i+1< 1;omega)
 | m :: r, a :: q, 0, h => by
  obtain⟨z,hz⟩:=fD (t:=t) (loose:=loose) (bound:=bound) r (gV t m loose bound (a::q))
  refine⟨m,a::q,rfl,rfl,?_⟩
  show(bp t loose bound r (gV t m loose bound (a::q)))[0]? =_
  rw[hz];rfl
 | m :: r, a :: q, i + 1, h => by
  have h':i+1< (bp t loose bound r (gV t m loose bound (a::q))).length:=by
   have:i+1+1< (bp t loose bound r (gV t m loose bound (a::q))).length+1:=h
   omega
  exact lX r (gV t m loose bound (a::q)) i h'
theorem wj {t:Cd} {m:Pl} {loose bound:Int} {l:List (Int×Int)} :(gV t m loose bound l).Nodup:=(dl _).nodup_iff.mpr (gD _ [] CT).1
theorem gX {t:Cd} {loose bound:Int} (hl:loose≤3) (hb:bound≤60):∀(l:List Pl) (cur:List (Int×Int)),cur.Nodup→(∀p∈cur,lV p)→∀L∈bp t loose bound l cur,L.Nodup∧∀p∈L,lV p
 | [], cur, h1, h2, L, hL => by
  have:L=cur:=by simpa [bp] using hL
  rw[this];exact⟨h1,h2⟩
 | m :: r, [], h1, h2, L, hL => by
  have:L=[]:=by simpa [bp] using hL
  rw[this];exact⟨h1,h2⟩
 | m :: r, a :: q, h1, h2, L, hL => by
  rcases zU.mp (show L∈(a::q)::bp t loose bound r (gV t m loose bound (a::q))from hL)with rfl | hL
  ·exact⟨h1,h2⟩
  ·exact gX hl hb r _ wj (fun p hp=>(mem_nxt.mp hp).inb hl hb h2) L hL
theorem ge {t:Cd} {loose bound:Int} :∀(l:List Pl) (cur:List (Int×Int)),∃L,(bp t loose bound l cur)[(bp t loose bound l cur).length- 1]? =some L∧(L=[]∨(bp t loose bound l cur).length=l.length+1)∧(L=[]↔∀s∈cur,cnt t loose bound l s=0)
 | [], cur => ⟨cur, rfl, .inr rfl, by
  constructor
  ·intro h;rw[h];exact fun s hs=>by cases hs
  ·intro h
   cases cur with
   | nil=>rfl
   | cons a q=>exact absurd (h a (zP ..)) (by show ¬(1:Int)=0;decide)⟩
 | m::r,[]=>⟨[],rfl,.inl rfl,by simp⟩
 | m :: r, a :: q => by
  obtain⟨L,h1,h2,h3⟩:=ge (t:=t) (loose:=loose) (bound:=bound) r (gV t m loose bound (a::q))
  have hp:=je (t:=t) (loose:=loose) (bound:=bound) r (gV t m loose bound (a::q))
  refine⟨L,?_,?_,?_⟩
  ·show((a::q)::bp t loose bound r (gV t m loose bound (a::q)))[(bp t loose bound r (gV t m loose bound (a::q))).length+1- 1]? =some L
   rw[DO]
   have e:(bp t loose bound r (gV t m loose bound (a::q))).length=(bp t loose bound r (gV t m loose bound (a::q))).length- 1+1:=by omega
   rw[e,AO]
   exact h1
  ·refine h2.imp id fun h=>?_
   show(bp t loose bound r (gV t m loose bound (a::q))).length+1=_
   rw[h];rfl
  ·rw[h3]
   constructor
   ·intro h s hs
    exact cnt_pos.mpr fun c hc hm=>h _ (mem_nxt.mpr ⟨s,hs,c,hc,hm,rfl⟩)
   ·intro h p hp
    obtain⟨s,hs,c,hc,hm,rfl⟩:=mem_nxt.mp hp
    exact cnt_pos.mp (h s hs) c hc hm
theorem lY {α:Type} {xs:List α} {a:α} (h:xs[xs.length- 1]? =some a):eW xs (-(1:Int))=.ok a:=by
 have hl:xs.length- 1< xs.length:=(zB.mp h).1
 have e:qg xs (-1)=some a:=by
  unfold qg ixN
  rw[if_neg (by decide),if_pos (by omega)]
  show xs[_]? =some a
  have:(-1+(xs.length:Int)).toNat=xs.length- 1:=by omega
  rw[this]
  exact h
 unfold eW
 rw[e]
 rfl
theorem iq {α:Type} {xs:List α} {i:Nat} {a:α} (h:xs[i]? =some a):eW xs (i:Int)=.ok a:=by
 unfold eW
 rw[nK h]
 rfl
theorem sO {α:Type} {kvs:List ((Int×Int)×α)} {k:Int×Int} {a:α} (h:∀q∈kvs,q.1≠k):lw kvs k a=kvs++ [(k,a)]:=by
 unfold lw
 rw[if_neg]
 intro z
 obtain⟨q,h1,h2⟩:=List.any_eq_true.mp z
 exact h q h1 (by simpa using h2)
theorem kO {α:Type} {f:Int×Int→List ((Int×Int)×α)→Res (List ((Int×Int)×α))} {g:Int×Int→α} {ks:List (Int×Int)} (nd:ks.Nodup) (hl:ks.length≤900) (h:∀k∈ks,∀s:List ((Int×Int)×α),f k s=gB s k (g k)):bE f ks []=.ok (ks.map fun k=>(k,g k)):=by
 obtain⟨s,e,h1⟩:=cR (f:=f) (fun pre s=>s=pre.map fun k=>(k,g k)) ks [] rfl (by
  intro pre a post s e h1
  have hp:pre.length≤900:=by rw[e]at hl;simp at hl;omega
  rw[h a (by rw[e];simp),h1]
  refine⟨_,bt (by rw[A2];omega),?_⟩
  rw[sO (fun q hq=>?_)]
  ·simp
  ·obtain⟨k,hk,rfl⟩:=Ah.mp hq
   intro z
   have z:k=a:=z
   subst z
   rw[e,FH]at nd
   exact nd.2.2 k hk k (zP ..) rfl)
 rw[e,h1]
theorem lZ {α:Type} {g:Int×Int→α} {k:Int×Int} :∀{ks:List (Int×Int)},k∈ks→look (ks.map fun k=>(k,g k)) k=some (g k)
 | a :: ks, h => by
  by_cases e:a=k
  ·subst e;simp[look,Bb]
  ·have:k∈ks:=by
    rcases zU.mp h with z | z
    ·exact absurd z.symm e
    ·exact z
   have ih:=lZ (g:=g) this
   simp only[look,An,Bb,decide_eq_false e]at ih ⊢
   exact ih
theorem m6 {α:Type} {g:Int×Int→α} {k:Int×Int} {ks:List (Int×Int)} (h:k∈ks):getD (ks.map fun k=>(k,g k)) k=.ok (g k):=by
 unfold getD
 rw[lZ h]
 rfl
def dc (t:Cd) (strip:List Pl) (loose bound:Int) (i:Nat):List ((Int×Int)×Int):=((bp t loose bound strip [(0,0)])[i]?.getD []).map fun s=>(s,cnt t loose bound (strip.drop i) s)
theorem sP {t:Cd} (h:Card t) {strip:List Pl} {loose bound:Int} (hl:loose≤3) (hb:bound≤60) {i:Nat} {m:Pl} {L:List (Int×Int)} (h1:strip[i]? =some m) (h2:(bp t loose bound strip [(0,0)])[i]? =some L) (h3:(bp t loose bound strip [(0,0)])[i+1]? =some (gV t m loose bound L))
  {pre:List (List ((Int×Int)×Int))} (hp:pre.length≤900):wz jb t strip loose bound (bp t loose bound strip [(0,0)]) (i:Int) (pre++ [dc t strip loose bound (i+1)])=.ok (pre++ [dc t strip loose bound (i+1)]++ [dc t strip loose bound i]):=by
 have all:=gX (t:=t) hl hb strip [(0,0)] (by simp) wg L (zW h2)
 have len:=ip all.1 all.2
 have ed:dc t strip loose bound (i+1)=(gV t m loose bound L).map fun s=>(s,cnt t loose bound (strip.drop (i+1)) s):=by unfold dc;rw[h3];rfl
 have ei:dc t strip loose bound i=L.map fun s=>(s,cnt t loose bound (strip.drop i) s):=by unfold dc;rw[h2];rfl
 have dr:strip.drop i=m::strip.drop (i+1):=by
  obtain⟨hi,e⟩:=zB.mp h1
  rw[AY hi,e]
 unfold wz
 rw[kM,zm,iq h2,zm]
 rw[kO (g:=fun s=>(mj t m loose bound s).map fun c=>(([c]:Tx),aE t s c)) all.1 (by omega) (fun k hk s=>by
  rw[iq h1,zm,jI h,zm]),zm,BL]
 rw[show HB ((fun x:(Int×Int)×List (Tx×(Int×Int))=>x.1) ∘ fun k=>(k,(mj t m loose bound k).map fun c=>(([c]:Tx),aE t k c))) L=L from by
  rw[show((fun x:(Int×Int)×List (Tx×(Int×Int))=>x.1) ∘ fun k=>(k,(mj t m loose bound k).map fun c=>(([c]:Tx),aE t k c)))=id from rfl,Hd]]
 rw[kO (g:=fun s=>cnt t loose bound (strip.drop i) s) all.1 (by omega) (fun k hk s=>by
  rw[m6 hk,zm,dY (g:=fun a:Tx×(Int×Int)=>cnt t loose bound (strip.drop (i+1)) a.2) (by rw[A2];unfold mj cap;refine B9 (List.length_filter_le _ _) (by decide)) (fun a ha=>by
   obtain⟨c,hc,rfl⟩:=Ah.mp ha
   rw[ed]
   exact m6 (mem_nxt.mpr ⟨k,hk,c,(mem_onw.mp hc).1,(mem_onw.mp hc).2,rfl⟩)),zm,zm,BL]
  congr 1
  rw[dr]
  rfl),zm,eN (by simp;omega),zm,ei]
theorem sQ {t:Cd} (h:Card t) {strip:List Pl} (hs:strip.length≤60) {loose bound:Int} (h0:0≤loose) (hl:loose≤3) (hb0:0≤bound) (hb:bound≤60):∃D,ux t strip loose bound=.ok D∧D.length=(bp t loose bound strip [(0,0)]).length∧∀i,i< D.length→D[i]? =some (dc t strip loose bound i):=by
 unfold ux xY
 rw[oM h h0 hb0 hl hb strip (by omega),zm]
 obtain⟨L,hL,hE,_⟩:=ge (t:=t) (loose:=loose) (bound:=bound) strip [(0,0)]
 have hpos:=je (t:=t) (loose:=loose) (bound:=bound) strip [(0,0)]
 have hlen:=jJ (t:=t) (loose:=loose) (bound:=bound) strip [(0,0)]
 have all:=gX (t:=t) hl hb strip [(0,0)] (by simp) wg L (zW hL)
 have len:=ip all.1 all.2
 obtain⟨k,hk⟩:∃k,(bp t loose bound strip [(0,0)]).length=k+1:=⟨_,(Nat.sub_add_cancel hpos).symm⟩
 rw[hk,DO]at hL
 have e1:bE (fun(a:Int×Int) (s:List ((Int×Int)×Int))=>gB s a (1:Int)) L []=.ok (dc t strip loose bound k):=by
  rw[kO (g:=fun _=>(1:Int)) all.1 (by omega) (fun _ _ _=>rfl)]
  unfold dc
  rw[hL]
  show zt (L.map _)=zt (L.map _)
  rcases hE with rfl | hE
  ·rfl
  ·have:k=strip.length:=by omega
   subst this
   rw[C2]
   rfl
 rw[lY (a:=L) (by rw[hk];exact hL),zm,e1,zm,zm]
 have er:kJ (((bp t loose bound strip [(0,0)]).length:Int)- 1)=.ok ((AD k).map fun(i:Nat)=>(i:Int)).reverse:=by
  rw[hk]
  have e:((k+1:Nat):Int)- 1=(k:Int):=by omega
  rw[e]
  unfold kJ dR
  rw[bt ⟨by omega,by omega⟩]
  rfl
 rw[er,zm]
 obtain⟨s,es,h1,h2⟩:=cR (f:=wz jb t strip loose bound (bp t loose bound strip [(0,0)])) (fun pre s=>s.length=pre.length+1∧∀j,j≤pre.length→s[j]? =some (dc t strip loose bound (k- j))) ((AD k).map fun(i:Nat)=>(i:Int)).reverse [dc t strip loose bound k] ⟨rfl,fun j hj=>by
  have:j=0:=Nat.le_zero.mp hj
  subst this;rfl⟩ (by
  intro pre a post s e ⟨h1,h2⟩
  have hlen2:pre.length< k:=by have:=congrArg C7 e;simp at this;omega
  have ha:a=((k- 1- pre.length:Nat):Int):=by
   have:((AD k).map fun(i:Nat)=>(i:Int)).reverse[pre.length]? =some a:=by rw[e];simp
   rw[BF (by simpa using hlen2),A2,DZ,zA,Cz (by omega)]at this
   exact(Ad this).symm
  obtain⟨m,L',q1,q2,q3⟩:=lX (t:=t) (loose:=loose) (bound:=bound) strip [(0,0)] (k- 1- pre.length) (by omega)
  have hs2:s=s.dropLast++ [dc t strip loose bound (k- 1- pre.length+1)]:=by
   have hne:s≠[]:=fun z=>by rw[z]at h1;simp at h1
   have hl2:=h2 pre.length (zw _)
   have e3:k- 1- pre.length+1=k- pre.length:=by omega
   rw[e3]
   have:s.getLast hne=dc t strip loose bound (k- pre.length):=by
    have h5:=List.getLast?_eq_getElem? (l:=s)
    rw[h1,DO,hl2,List.getLast?_eq_some_getLast hne]at h5
    exact Ad h5
   rw[←this]
   exact(List.dropLast_concat_getLast hne).symm
  rw[ha,hs2,sP h hl hb q1 q2 q3 (by rw[List.length_dropLast];omega),←hs2]
  refine⟨_,rfl,by simp[h1],fun j hj=>?_⟩
  rw[Br,EF]at hj
  by_cases z:j≤pre.length
  ·rw[zT (by omega)]
   exact h2 j z
  ·have ej:j=pre.length+1:=by omega
   subst ej
   rw[zN (by omega),h1,CP]
   show some _=some _
   congr 2
   omega)
 rw[es,zm]
 have hsl:s.length=k+1:=by simpa using h1
 refine⟨_,rfl,by rw[Dx,hk];exact hsl,fun i hi=>?_⟩
 rw[Dx]at hi
 rw[BF hi,h2 _ (by simp;omega)]
 congr 2
 omega
theorem ir {t:Cd} (h:Card t) {strip:List Pl} (hs:strip.length≤60) {loose bound:Int} (h0:0≤loose) (hl:loose≤3) (hb0:0≤bound) (hb:bound≤60):qi t strip loose bound=.ok (cnt t loose bound strip (0,0)):=by
 unfold qi xZ
 obtain⟨D,e,h1,h2⟩:=sQ h hs h0 hl hb0 hb
 have hpos:=je (t:=t) (loose:=loose) (bound:=bound) strip [(0,0)]
 rw[e,zm,show eW D (0:Int)=.ok (dc t strip loose bound 0)from iq (i:=0) (h2 0 (by omega)),zm]
 obtain⟨r,hr⟩:=fD (t:=t) (loose:=loose) (bound:=bound) strip [(0,0)]
 congr 1
 unfold dc sd
 rw[hr]
 rfl
theorem sR {t:Cd} (h:Card t) {strip:List Pl} (hs:strip.length≤60) {loose bound:Int} (h0:0≤loose) (hl:loose≤3) (hb0:0≤bound) (hb:bound≤60):∃r L,gU t strip loose bound=.ok r∧eW r (-(1:Int))=.ok L∧(L.isEmpty=true↔cnt t loose bound strip (0,0)=0):=by
 obtain⟨L,hL,_,hE⟩:=ge (t:=t) (loose:=loose) (bound:=bound) strip [(0,0)]
 refine⟨_,L,oM h h0 hb0 hl hb strip (by omega),lY hL,?_⟩
 rw[G0,hE]
 simp
theorem jK {c:Int→Res Bool} {f:Int→Res Int} {P:Int→Prop} {N:Int} (hc:∀b,0≤b→b≤N→∃r,c b=.ok r∧(r=true↔¬P b)) (hf:∀b,f b=.ok (b+1)):∀(m:Nat) (fuel:Nat) (b:Int),0≤b→m< fuel→(∃d,b≤d∧d≤b+m∧d≤N∧P d)→(fv c f fuel b).Ok fun d=>b≤d∧P d∧∀e,b≤e→e< d→¬P e
 | m,0,b,_,h,_=>absurd h (by omega)
 | m, fuel + 1, b, h0, hm, ⟨d, d1, d2, d4, d3⟩ => by
  obtain⟨r,er,hr⟩:=hc b h0 (by omega)
  unfold fv
  rw[er,zm]
  cases r with
  | false=>exact⟨C8 _,E4.mp fun z=>Bool.noConfusion (hr.mpr z),fun e h1 h2=>absurd h1 (by omega)⟩
  | true =>
   have np:=hr.mp rfl
   rw[if_pos rfl,hf,zm]
   have hd:d≠b:=fun z=>np (z▸d3)
   cases m with
   | zero=>exact absurd d2 (by omega)
   | succ m =>
    refine(jK hc hf m fuel (b+1) (by omega) (by omega) ⟨d,by omega,by omega,d4,d3⟩).imp fun x ⟨h1,h2,h3⟩=>⟨by omega,h2,fun e h4 h5=>?_⟩
    by_cases z:e=b
    ·rw[z];exact np
    ·exact h3 e (by omega) h5
theorem nr {t:Cd} (h:Card t) {strip:List Pl} (hs:strip.length≤60) {loose:Int} (h0:0≤loose) (hl:loose≤3):∃r,ss t strip loose=.ok r∧((r=none∧cnt t loose strip.length strip (0,0)=0)∨∃d,r=some d∧0≤d∧d≤strip.length∧cnt t loose d strip (0,0)≠0∧∀e,0≤e→e< d→cnt t loose e strip (0,0)=0):=by
 unfold ss yb
 obtain⟨r,L,e1,e2,e3⟩:=sR h hs h0 hl (show(0:Int)≤strip.length by omega) (by omega)
 rw[e1,zm,e2,zm,zm]
 by_cases z:cnt t loose strip.length strip (0,0)=0
 ·rw[if_pos (e3.mpr z)]
  exact⟨_,rfl,.inl ⟨rfl,z⟩⟩
 ·rw[if_neg (fun y=>z (e3.mp y))]
  obtain⟨d,ed,d1,d2,d3⟩:=(jK (N:=60) (c:=xh gU t strip loose) (f:=xi) (P:=fun b=>cnt t loose b strip (0,0)≠0) (fun b hb0 hb1=>by
   obtain⟨r,L,e1,e2,e3⟩:=sR h hs h0 hl hb0 hb1
   unfold xh
   rw[e1,zm,e2,zm]
   exact⟨_,rfl,by rw[e3,E4]⟩) (fun b=>by unfold xi;rfl) strip.length cap 0 (by decide) (by show strip.length< 100000;omega) ⟨strip.length,by omega,by omega,by omega,z⟩).ex
  rw[ed,zm]
  refine⟨_,rfl,.inr ⟨d,rfl,d1,?_,d2,fun e h4 h5=>E4.mp (d3 e h4 h5)⟩⟩
  by_cases y:(d:Int)≤strip.length
  ·exact y
  ·exact absurd z (d3 strip.length (by omega) (by omega))
def uL:Option Int→Int
 | none=>61
 | some d=>d
theorem jf (r:Option Int):su r=.ok (uL r):=by
 unfold su yc
 cases r <;> rfl
theorem m7 {t:Cd} {l l':List Pl} {loose loose':Int} (hl:loose≤loose') (hw:WL l l') (hn:l.length=l'.length) (h60:l.length≤60) {r r':Option Int}
  (h:(r=none∧cnt t loose l.length l (0,0)=0)∨∃d,r=some d∧0≤d∧d≤l.length∧cnt t loose d l (0,0)≠0∧∀e,0≤e→e< d→cnt t loose e l (0,0)=0)
  (h':(r'=none∧cnt t loose' l'.length l' (0,0)=0)∨∃d,r'=some d∧0≤d∧d≤l'.length∧cnt t loose' d l' (0,0)≠0∧∀e,0≤e→e< d→cnt t loose' e l' (0,0)=0):uL r'≤uL r:=by
 rcases h with⟨rfl,h1⟩ | ⟨d,rfl,d0,d1,d2,d3⟩
 ·rcases h' with⟨rfl,_⟩ | ⟨d',rfl,e0,e1,_⟩
  ·exact C8 _
  ·show d'≤61;omega
 ·have nn:=dW (t:=t) (loose:=loose) (bound:=d) l (0,0)
  rcases h' with⟨rfl,e1⟩ | ⟨d',rfl,e0,e1,e2,e3⟩
  ·have:=de (t:=t) (bound:=d) (bound':=l'.length) hl (by omega) l l' (0,0) hw
   omega
  ·show d'≤d
   by_cases z:d< d'
   ·have:=de (t:=t) (bound:=d) (bound':=d) hl (C8 _) l l' (0,0) hw
    have:=e3 d d0 z
    omega
   ·omega
theorem nt:∀{a a' b b':List Pl},WL a a'→WL b b'→WL (a++b) (a'++b')
 | [],[],_,_,_,h=>h
 | [],_::_,_,_,h,_=>h.elim
 | _::_,[],_,_,h,_=>h.elim
 | _::_,_::_,_,_,h,h2=>⟨h.1,nt h.2 h2⟩
def jg (m:Pl) (j:Int):Pl:=if j=0 then([63],m.2.1,m.2.2)else if j=1 then(m.1,[63],m.2.2)else(m.1,m.2.1,[63])
theorem uM (m:Pl) {j:Int} (h0:0≤j) (h1:j< 3):((fR [m.1,m.2.1,m.2.2] j ([63]:Tx)).bind fun y=>qP y)=.ok (jg m j):=by
 have:j=0∨j=1∨j=2:=by omega
 rcases this with rfl | rfl | rfl <;> rfl
theorem nu (m:Pl) (j:Int):sN m (jg m j):=by
 intro p h
 unfold fits at h
 simp only[Be,Cg,decide_eq_true_eq]at h
 unfold fits jg
 split
 ·simp only[Be,Cg,decide_eq_true_eq];exact⟨.inl trivial,h.2⟩
 ·split
  ·simp only[Be,Cg,decide_eq_true_eq];exact⟨h.1,.inl trivial,h.2.2⟩
  ·simp only[Be,Cg,decide_eq_true_eq];exact⟨h.1,h.2.1,.inl trivial⟩
theorem wk (ns:List Int) (h:ns.length≤63):(sv ns).Ok (· =true):=by
 unfold sv oD
 refine iO ((show(sV ns (12:Int)).Ok _ from uI h 12 (by decide)).imp fun y ⟨hc,⟨n,hn,hm⟩,g0,g1⟩=>?_)
 have hl:y.2.1.length=n:=hm.1
 have h60:y.2.1.length≤60:=by omega
 obtain⟨c5,e5⟩:=hZ h 5 (by decide)
 obtain⟨c6,e6⟩:=hZ h 6 (by decide)
 obtain⟨c7,e7⟩:=hZ h 7 (by decide)
 rw[show gf ns 5=.ok c5 from e5,show gf ns 6=.ok c6 from e6,show gf ns 7=.ok c7 from e7,zm,zm]
 have b0:0≤c5% 13:=Af _ (by decide)
 have b1:c5% 13< 13:=A6 _ (by decide)
 generalize c5% 13=b at b0 b1 ⊢
 rw[ir hc h60 g0 (by omega) b0 (by omega),zm,ir hc h60 g0 (by omega) (show 0≤b+1 by omega) (by omega),zm,zm]
 rw[if_neg (by
  have:=de (t:=y.1) (C8 y.2.2) (show b≤b+1 by omega) y.2.1 y.2.1 (0,0) (WL.refl _)
  simpa using this)]
 obtain⟨r,L,q1,q2,q3⟩:=sR hc h60 g0 (show y.2.2≤3 by omega) b0 (by omega)
 rw[q1,zm,q2,zm,zm]
 have qe:decide (cnt y.1 y.2.2 b y.2.1 (0,0)=0)=L.isEmpty:=by
  cases z:L.isEmpty
  ·exact decide_eq_false fun w=>by rw[q3.mpr w]at z;cases z
  ·exact decide_eq_true (q3.mp z)
 rw[mM qe,zm,zm,if_neg (by decide)]
 refine iO (Bd (P:=fun r=>r=false) (lv (fun z=>?_) fun _=>rfl) fun r hr=>?_)
 ·rw[ir hc h60 (show 0≤y.2.2+1 by omega) (by omega) b0 (by omega),zm]
  show decide _=false
  have:=de (t:=y.1) (show y.2.2≤y.2.2+1 by omega) (C8 b) y.2.1 y.2.1 (0,0) (WL.refl _)
  exact decide_eq_false (by omega)
 subst hr
 rw[if_neg (by decide)]
 obtain⟨r1,er1,hr1⟩:=nr hc h60 g0 (show y.2.2≤3 by omega)
 rw[er1,zm,jf,zm]
 refine iO (Bd (P:=fun r=>r=false) (lv (fun z=>?_) fun _=>rfl) fun r hr=>?_)
 ·obtain⟨r2,er2,hr2⟩:=nr hc h60 (show 0≤y.2.2+1 by omega) (by omega)
  rw[er2,zm,jf,zm]
  have:=m7 (show y.2.2≤y.2.2+1 by omega) (WL.refl _) rfl h60 hr1 hr2
  exact decide_eq_false (by omega)
 subst hr
 rw[if_neg (by decide)]
 refine yt (fun z=>?_) fun z=>?_
 ·have zn:y.2.1=[]:=G0.mp z
  rw[zn]at hr1 ⊢
  have e0:uL r1=0:=by
   rcases hr1 with⟨rfl,w⟩ | ⟨d,rfl,d0,d1,_⟩
   ·exact absurd w (by show ¬(1:Int)=0;decide)
   ·show d=0
    have:d≤((0:Nat):Int):=d1
    omega
  rw[mM e0,zm,if_pos rfl]
  exact yA (mM rfl) rfl
 ·have zp:0< y.2.1.length:=by
   rcases Nat.eq_zero_or_pos y.2.1.length with w | w
   ·rw[BZ.mp w]at z;cases z
   ·exact w
  rw[zm,fL (by omega),zm]
  have a0:0≤c6% (y.2.1.length:Int):=Af _ (by omega)
  have a1:c6% (y.2.1.length:Int)< y.2.1.length:=A6 _ (by omega)
  obtain⟨i,hi⟩:∃i:Nat,c6% (y.2.1.length:Int)=(i:Int):=⟨_,(F2 a0).symm⟩
  rw[hi]at a1 ⊢
  have hi':i< y.2.1.length:=by omega
  rw[iq (zu hi'),zm,zm,zm,zm]
  have w0:=uM y.2.1[i] (j:=c7% 3) (Af _ (by decide)) (A6 _ (by decide))
  obtain⟨ys,ey⟩:∃ys,fR [y.2.1[i].1,y.2.1[i].2.1,y.2.1[i].2.2] (c7% 3) ([63]:Tx)=.ok ys:=by
   cases q:fR [y.2.1[i].1,y.2.1[i].2.1,y.2.1[i].2.2] (c7% 3) ([63]:Tx)with
   | ok ys=>exact⟨ys,rfl⟩
   | err j=>rw[q]at w0;cases w0
   | stuck=>rw[q]at w0;cases w0
  rw[ey,zm]at w0 ⊢
  rw[w0,zm,zm,iN,show(i:Int)+1=((i+1:Nat):Int) by omega,lu,nV (by simp;omega),zm,nV (by simp;omega),zm]
  have hd:y.2.1=y.2.1.take i++ [y.2.1[i]]++y.2.1.drop (i+1):=by
   rw[zO,List.singleton_append,←AY hi',D4]
  have hw:WL y.2.1 (y.2.1.take i++ [jg y.2.1[i] (c7% 3)]++y.2.1.drop (i+1)):=by
   have:=nt (nt (WL.refl (y.2.1.take i)) (show WL [y.2.1[i]] [jg y.2.1[i] (c7% 3)]from⟨nu _ _,BO⟩)) (WL.refl (y.2.1.drop (i+1)))
   rw[←hd]at this
   exact this
  have hlen:y.2.1.length=(y.2.1.take i++ [jg y.2.1[i] (c7% 3)]++y.2.1.drop (i+1)).length:=by
   simp;omega
  generalize y.2.1.take i++ [jg y.2.1[i] (c7% 3)]++y.2.1.drop (i+1)=W at hw hlen ⊢
  rw[ir hc (show W.length≤60 by omega) g0 (by omega) b0 (by omega),zm,zm]
  have m1:=de (t:=y.1) (C8 y.2.2) (C8 b) y.2.1 W (0,0) hw
  rw[if_pos (decide_eq_true m1)]
  obtain⟨r2,er2,hr2⟩:=nr hc (show W.length≤60 by omega) g0 (show y.2.2≤3 by omega)
  rw[er2,zm,jf,zm]
  exact decide_eq_true (m7 (C8 _) hw hlen h60 hr1 hr2)
end Mi
namespace PySem.W.Fast
def tw140001813534094272:=()
def tw4321966507151631593:=()
def tw10698057553749749337:=()
def tw5344687154915797982:=()
def tw9495317472360511255:=()
def tw14842496431369740429:=()
def tw7873823757921102712:=()
def tw6858818405166986180:=()
def tw15779231459743154856:=()
def tw12297992134047619483:=()
def tw8060666987683057360:=()
def tw13769103115541136327:=()
def tw1205274952441263945:=()
def tw4039707410889071942:=()
def tw12330612334027959195:=()
def tw11766667032028208565:=()
def tw9919008367099125623:=()
def tw87601786513091389:=()
def tw13055953723892786844:=()
def tw6953138203311097117:=()
def tw13114645530532618160:=()
def tw7164969610272591079:=()
def tw3300257896294614128:=()
def tw10519837036962490867:=()
def tw17483705464198625004:=()
def tw9536688357841153863:=()
def tw6128106870883400570:=()
def tw209982475168477708:=()
def tw16919654943277366748:=()
def tw8899516883271353254:=()
def tw15173544498738437827:=()
def tw15925456577456769635:=()
def tw6469784823511061222:=()
def tw17292613610259460706:=()
def tw5002640475654186023:=()
def tw12917704675397863716:=()
def tw7968833095072559221:=()
def tw16140922888777852060:=()
def tw17062427158221528723:=()
def tw4849480874435393781:=()
def tw6549852094080907030:=()
def tw861502493610598483:=()
def tw15254633091992210921:=()
def tw5449601097390414333:=()
def tw9615563845995560447:=()
def tw17214186515701724070:=()
def tw6356304189028158447:=()
def tw8002303944043701648:=()
def tw12652081859355081885:=()
def tw9592521066531166775:=()
def tw4077048163395320219:=()
def tw740290905518256060:=()
def tw11823594873375168262:=()
def tw12459912946257978736:=()
def tw13812277999558781770:=()
def tw11738243743197964597:=()
def tw1950803216711332702:=()
def tw7424060955962978353:=()
def tw4971374062829452455:=()
def tw10624116801336726872:=()
def tw12727641955093265886:=()
def tw17963105932079019327:=()
def tw2261719852989239553:=()
def tw9456574344343218679:=()
def tw14958820412457663293:=()
def tw5072417060200589145:=()
def tw1495895850433845275:=()
def tw4699756791338806529:=()
def tw4171853373547519906:=()
def tw938635154573522699:=()
def tw14703100239697439463:=()
def tw2570914705882880060:=()
def tw10510056951384868246:=()
def tw15402603294489630176:=()
def tw4635989785427082552:=()
def tw11384182702204212275:=()
def tw6968137755033780318:=()
def tw2400638427578300857:=()
def tw3721919958574915784:=()
def tw6229817132586351632:=()
def tw14904681115217272601:=()
def tw16108870410212019532:=()
def tw3042748168174471775:=()
def tw3300454383303005205:=()
def tw7476452910721959123:=()
def tw11589282660436910429:=()
def tw12887044766017154078:=()
def tw9972681490609642005:=()
def tw8854275682344465072:=()
def tw3239113980409921550:=()
def tw8733291241859026926:=()
def tw14172470266813156586:=()
def tw4490611911172417597:=()
def tw16298917771340976007:=()
def tw6148498323302512570:=()
def tw10374632558016547081:=()
def tw13034982811429478159:=()
def tw4562827626845409882:=()
def tw2941924889016668590:=()
def tw643336161829623379:=()
def tw15401437161963490237:=()
def tw6522051377940421278:=()
def tw14760874974797668852:=()
def tw16409965706819354750:=()
def tw5832305185047221409:=()
def tw9796564346219866840:=()
def tw11564986514327137767:=()
def tw12772213712371865176:=()
def tw4884199854448574:=()
def tw10016166984437732892:=()
def tw5362036446546632119:=()
def tw2295934692909999376:=()
def tw14226173905949225808:=()
def tw14689541978594310382:=()
def tw12382822922155266910:=()
def tw7217548393331319763:=()
def tw5537553045615171315:=()
def tw9977182230042388008:=()
def tw11421057715548341654:=()
def tw2144661209622563809:=()
def tw2314633323536394700:=()
def tw7829712780682017532:=()
def tw140236481695663071:=()
def tw3382625519597670723:=()
def tw1708089923452030704:=()
def tw17187875760726034783:=()
def tw13444670453868202053:=()
def tw5498123283257192965:=()
def tw2692750590507578028:=()
def tw4953865588907285216:=()
def tw5438652380644606353:=()
def tw2135409205425526673:=()
def tw15227483606004533461:=()
def tw13913613514976480042:=()
def tw866717566613908145:=()
def tw15438627641174518403:=()
def tw16053306600634468012:=()
def tw5101696844757716304:=()
def tw13462424878891718212:=()
def tw14935467056822913822:=()
def tw3308634892276815127:=()
def tw14827714588952709054:=()
def tw16864618592142003386:=()
def tw16955839230299176341:=()
def tw2789304352393801511:=()
def tw7480016910919988345:=()
def tw8157277791214410489:=()
def tw1840220198017710270:=()
def tw15539815450414544023:=()
def tw896878414759379649:=()
def tw8047209995159408440:=()
def tw1000662321505670351:=()
def tw11266997524610791606:=()
def tw5994696166404524948:=()
def tw5459702643516471331:=()
def tw16682895059504647277:=()
def tw2483420100392427323:=()
def tw2950685276103557050:=()
def tw8739830900816887780:=()
def tw6798380500665416597:=()
def tw7322748291113730364:=()
def tw13946496683202179788:=()
def tw8219003486749837733:=()
def tw9561226457009474297:=()
def tw13622603851894308203:=()
def tw11161164713144168021:=()
def tw2080317491765294665:=()
def tw4804111812005502284:=()
def tw3215387988796971590:=()
def tw3985964047577975286:=()
def tw443766864951011646:=()
def tw10294118229990073760:=()
def tw14782755387869428366:=()
def tw4906484309439969231:=()
def tw13135312941875745310:=()
def tw10792498714594961201:=()
def tw14243238205550065757:=()
def tw16822532161544500889:=()
def tw17351735930882485243:=()
def tw2455152089536381482:=()
def tw8912161614967838395:=()
def tw4734895289157585001:=()
def tw523537741815420091:=()
def tw2827255003249426055:=()
def tw10295913840692754127:=()
def tw17760279517084355780:=()
def tw3919386906821981792:=()
def tw7774113678449685934:=()
def tw1972164579936704799:=()
def tw5217270863462422736:=()
def tw15127105006835628225:=()
def tw896239598344801917:=()
def tw9848817304349107530:=()
def tw8159993647027272844:=()
def tw1717767836212652739:=()
def tw1915925776726481438:=()
def tw11429584451438056573:=()
def tw3641951560692057861:=()
def tw13421457143807847188:=()
def tw8480184845173159842:=()
def tw12903330217458380548:=()
def tw1116146690788884255:=()
def tw15621415185263527259:=()
def tw2403389108928632939:=()
def tw10876078143196172821:=()
def tw8297923619242306668:=()
def tw15685335758407661847:=()
def tw16902440903046159558:=()
def tw11962351593759143498:=()
def tw3235425350174046738:=()
def tw4075453323654395381:=()
def tw17435391645217708394:=()
def tw4480162626587320490:=()
def tw12269216009862288129:=()
def tw16723463757517087524:=()
def tw9719540549684168421:=()
def tw3270257207059953099:=()
def tw16120054744476736488:=()
def tw7086961617601330827:=()
def tw8997383693586321770:=()
def tw10258873121960336067:=()
def tw8949853181751564097:=()
def tw9784134513789038367:=()
def tw8285278889055680438:=()
def tw11066385474520676512:=()
def tw6822071536725586909:=()
def tw14424681132571578402:=()
def tw17013487888433625170:=()
def tw13502404384460067166:=()
def tw8080008513338510535:=()
def tw11898673842065290130:=()
def tw2187251505897268136:=()
end PySem.W.Fast
section
open PySem PySem.W PyProof.Rows
set_option maxHeartbeats 0 in
open_top hd for PySem.Challenge.rw_wornband_k34_more_room_more_ways
end
namespace Wb
open PySem L2 Mi
theorem uN {K:PySem.W.Frag} :∀vs H Q E,oE K vs H Q E→cU (isScr K) (rs isB) sv vs H Q E:=fun vs H Q E ⟨a,ns,h1,h2,h3,h4⟩=>
 ⟨⟨H,H,.refl _⟩,ns,.ref a,rfl,h1,⟨a,rfl,h2⟩,fun _=>False,Res.Ok.e ((wk ns h3).imp fun r hr u W' _ hu=>by cases hr;cases hu;exact h4 _)⟩
theorem fin_mk {l:PySem.W.OpenLaw} {w:zQ} {K:PySem.W.Frag} {h:Heap} {mg:Str→Option zl} {fa:Addr} {Z1q:Addr} {Z7V Z7W:Option Addr} {Z7X:Array (Option zl)} {Z7Y Z7Z Z80 Z81 Z4v Z82:zl} {Z3a:Addr} {Z9K Z9L:Option Addr} {Z9M:Array (Option zl)} {Z9N Z9O Z9P Z9Q Z5X Z9R:zl} {Z2w:Addr} {Z98 Z99:Option Addr} {Z9a:Array (Option zl)} {Z9b Z9c Z9d Z9e Z52 Z9f:zl} {Z1F:Addr} {Z72 Z73:Option Addr} {Z74:Array (Option zl)} {Z75 Z76 Z77 Z78 Z4m Z79:zl} {Z29:Addr} {Z83 Z84:Option Addr} {Z85:Array (Option zl)} {Z86 Z87 Z88 Z89 Z4w Z8a:zl} {Z1G:Addr} {Z7a Z7b:Option Addr} {Z7c:Array (Option zl)} {Z7d Z7e Z7f Z7g Z4n Z7h:zl} {Z3b:Addr} {Z9S Z9T:Option Addr} {Z9U:Array (Option zl)} {Z9V Z9W Z9X Z9Y Z5Y Z9Z:zl} {Z1t:Addr} {Z6m Z6n:Option Addr} {Z6o:Array (Option zl)} {Z6p Z6q Z6r Z6s Z3K Z6t:zl} {Z1H:Addr} {Z7i Z7j:Option Addr} {Z7k:Array (Option zl)} {Z7l Z7m Z7n Z7o Z4o Z7p:zl} {Z1u:Addr} {Z6u Z6v:Option Addr} {Z6w:Array (Option zl)} {Z6x Z6y Z6z Z6A Z3L Z6B:zl} {Z2a:Addr} {Z8b Z8c:Option Addr} {Z8d:Array (Option zl)} {Z8e Z8f Z8g Z8h Z4x Z8i:zl} {Z1I:Addr} {Z7q Z7r:Option Addr} {Z7s:Array (Option zl)} {Z7t Z7u Z7v Z7w Z4p Z7x:zl} {Z18:Addr} {Z5i Z5j:Option Addr} {Z5k:Array (Option zl)} {Z5l Z5m Z5n Z5o Z2K Z5p:zl} {Z2b:Addr} {Z8j Z8k:Option Addr} {Z8l:Array (Option zl)} {Z8m Z8n Z8o Z8p Z4y Z8q:zl} {Z2c:Addr} {Z8r Z8s:Option Addr} {Z8t:Array (Option zl)} {Z8u Z8v Z8w Z8x Z4z Z8y:zl} {Z2d:Addr} {Z8z Z8A:Option Addr} {Z8B:Array (Option zl)} {Z8C Z8D Z8E Z8F Z4A Z8G:zl} {Z2x:Addr} {Z9g Z9h:Option Addr} {Z9i:Array (Option zl)} {Z9j Z9k Z9l Z9m Z53 Z9n:zl} {Z2e:Addr} {Z8H Z8I:Option Addr} {Z8J:Array (Option zl)} {Z8K Z8L Z8M Z8N Z4B Z8O:zl} {Z40:Addr} {Zah Zai:Option Addr} {Zaj:Array (Option zl)} {Zak Zal Zam Zan Z6T Zao:zl} {Z2y:Addr} {Z9o Z9p:Option Addr} {Z9q:Array (Option zl)} {Z9r Z9s Z9t Z9u Z54 Z9v:zl} {Z1n:Addr} {Z5Z Z60:Option Addr} {Z61:Array (Option zl)} {Z62 Z63 Z64 Z65 Z3c Z66:zl} {Z3d:Addr} {Za0 Za1:Option Addr} {Za2:Array (Option zl)} {Za3 Za4 Za5 Za6 Z67 Za7:zl} {f_top:Addr} {od_top an_top:Option Addr} {sl_top:Array (Option zl)} {oc_top kV_top dc_top pm_top cd_top ct_top:zl} {Z41:Addr} {Zap Zaq:Option Addr} {Zar:Array (Option zl)} {Zas Zat Zau Zav Z6U Zaw:zl} {Z1J:Addr} {Z7y Z7z:Option Addr} {Z7A:Array (Option zl)} {Z7B Z7C Z7D Z7E Z4q Z7F:zl} {Z4W:Addr} {Zbn Zbo:Option Addr} {Zbp:Array (Option zl)} {Zbq Zbr Zbs Zbt Z8P Zbu:zl} {Z42:Addr} {Zax Zay:Option Addr} {Zaz:Array (Option zl)} {ZaA ZaB ZaC ZaD Z6V ZaE:zl} {Z43:Addr} {ZaF ZaG:Option Addr} {ZaH:Array (Option zl)} {ZaI ZaJ ZaK ZaL Z6W ZaM:zl} {Z44:Addr} {ZaN ZaO:Option Addr} {ZaP:Array (Option zl)} {ZaQ ZaR ZaS ZaT Z6X ZaU:zl} {Z19:Addr} {Z5q Z5r:Option Addr} {Z5s:Array (Option zl)} {Z5t Z5u Z5v Z5w Z2L Z5x:zl} {Z45:Addr} {ZaV ZaW:Option Addr} {ZaX:Array (Option zl)} {ZaY ZaZ Zb0 Zb1 Z6Y Zb2:zl} {Z4X:Addr} {Zbv Zbw:Option Addr} {Zbx:Array (Option zl)} {Zby Zbz ZbA ZbB Z8Q ZbC:zl} {Z68:Addr} {ZbZ Zc0:Option Addr} {Zc1:Array (Option zl)} {Zc2 Zc3 Zc4 Zc5 Z9D Zc6:zl} {Z4Y:Addr} {ZbD ZbE:Option Addr} {ZbF:Array (Option zl)} {ZbG ZbH ZbI ZbJ Z8R ZbK:zl} {Z1K:Addr} {Z7G Z7H:Option Addr} {Z7I:Array (Option zl)} {Z7J Z7K Z7L Z7M Z4r Z7N:zl} {f_law:Addr} {od_law an_law:Option Addr} {sl_law:Array (Option zl)} {oc_law kV_law dc_law pm_law cd_law ct_law:zl} {Z1Z:Tok} {Z1x:Addr} {ZbL:Nat} {x_SLANTS0 y_SLANTS0 x_SLANTS1 y_SLANTS1 x_SLANTS2 y_SLANTS2:Tok} {Z1m:Addr} {Zc7:Nat} {x_START0 x_START1:Tok} {Z1Y:Addr} {Zc8:Nat} {x_STEPS0 y_STEPS0 x_STEPS1 y_STEPS1 x_STEPS2 y_STEPS2:Tok} {Z6j:Tok} {Z7S:Tok} (X:K.In h) (G:h.Ns mainGlobals mg) (hfa:mg "law" =some (.ref fa))
  (Z2f:PySem.W.nsIn K mainGlobals "_law_same" =some (some (.ref Z1q)))
  (Z3o:K.lookup Z1q=some ⟨Z7Y,Z7V,.func (PySem.W.fnOf "_law_same" "_law_same" (defArgs (tp 45)) (defBody (tp 45)) (defScope (tp 45)) .none Z7Z Z80 Z81 Z7W Z4v Z82),Z7X⟩)
  (Z3p:PySem.W.codeIn K Z4v "_law_same" =true)
  (Z1r:PySem.W.keepIn K (.ref Z1q)=true)
  (Z4C:PySem.W.nsIn K mainGlobals "_law_at" =some (some (.ref Z3a)))
  (Z4D:K.lookup Z3a=some ⟨Z9N,Z9K,.func (PySem.W.fnOf "_law_at" "_law_at" (defArgs (tp 31)) (defBody (tp 31)) (defScope (tp 31)) .none Z9O Z9P Z9Q Z9L Z5X Z9R),Z9M⟩)
  (Z4E:PySem.W.codeIn K Z5X "_law_at" =true)
  (Z3e:PySem.W.keepIn K (.ref Z3a)=true)
  (Z46:PySem.W.nsIn K mainGlobals "_law_row" =some (some (.ref Z2w)))
  (Z47:K.lookup Z2w=some ⟨Z9b,Z98,.func (PySem.W.fnOf "_law_row" "_law_row" (defArgs (tp 27)) (defBody (tp 27)) (defScope (tp 27)) .none Z9c Z9d Z9e Z99 Z52 Z9f),Z9a⟩)
  (Z48:PySem.W.codeIn K Z52 "_law_row" =true)
  (Z2z:PySem.W.keepIn K (.ref Z2w)=true)
  (Z2M:PySem.W.nsIn K mainGlobals "_law_holes" =some (some (.ref Z1F)))
  (Z2N:K.lookup Z1F=some ⟨Z75,Z72,.func (PySem.W.fnOf "_law_holes" "_law_holes" (defArgs (tp 28)) (defBody (tp 28)) (defScope (tp 28)) .none Z76 Z77 Z78 Z73 Z4m Z79),Z74⟩)
  (Z2O:PySem.W.codeIn K Z4m "_law_holes" =true)
  (Z1L:PySem.W.keepIn K (.ref Z1F)=true)
  (Z3q:PySem.W.nsIn K mainGlobals "_law_card" =some (some (.ref Z29)))
  (Z3r:K.lookup Z29=some ⟨Z86,Z83,.func (PySem.W.fnOf "_law_card" "_law_card" (defArgs (tp 29)) (defBody (tp 29)) (defScope (tp 29)) .none Z87 Z88 Z89 Z84 Z4w Z8a),Z85⟩)
  (Z3s:PySem.W.codeIn K Z4w "_law_card" =true)
  (Z2g:PySem.W.keepIn K (.ref Z29)=true)
  (Z2P:PySem.W.nsIn K mainGlobals "_law_turns" =some (some (.ref Z1G)))
  (Z2Q:K.lookup Z1G=some ⟨Z7d,Z7a,.func (PySem.W.fnOf "_law_turns" "_law_turns" (defArgs (tp 30)) (defBody (tp 30)) (defScope (tp 30)) .none Z7e Z7f Z7g Z7b Z4n Z7h),Z7c⟩)
  (Z2R:PySem.W.codeIn K Z4n "_law_turns" =true)
  (Z1M:PySem.W.keepIn K (.ref Z1G)=true)
  (Z4F:PySem.W.nsIn K mainGlobals "_law_go" =some (some (.ref Z3b)))
  (Z4G:K.lookup Z3b=some ⟨Z9V,Z9S,.func (PySem.W.fnOf "_law_go" "_law_go" (defArgs (tp 33)) (defBody (tp 33)) (defScope (tp 33)) .none Z9W Z9X Z9Y Z9T Z5Y Z9Z),Z9U⟩)
  (Z4H:PySem.W.codeIn K Z5Y "_law_go" =true)
  (Z3f:PySem.W.keepIn K (.ref Z3b)=true)
  (Z2n:PySem.W.nsIn K mainGlobals "_law_behind" =some (some (.ref Z1t)))
  (Z2o:K.lookup Z1t=some ⟨Z6p,Z6m,.func (PySem.W.fnOf "_law_behind" "_law_behind" (defArgs (tp 34)) (defBody (tp 34)) (defScope (tp 34)) .none Z6q Z6r Z6s Z6n Z3K Z6t),Z6o⟩)
  (Z2p:PySem.W.codeIn K Z3K "_law_behind" =true)
  (Z1v:PySem.W.keepIn K (.ref Z1t)=true)
  (Z2S:PySem.W.nsIn K mainGlobals "_law_twist" =some (some (.ref Z1H)))
  (Z2T:K.lookup Z1H=some ⟨Z7l,Z7i,.func (PySem.W.fnOf "_law_twist" "_law_twist" (defArgs (tp 35)) (defBody (tp 35)) (defScope (tp 35)) .none Z7m Z7n Z7o Z7j Z4o Z7p),Z7k⟩)
  (Z2U:PySem.W.codeIn K Z4o "_law_twist" =true)
  (Z1N:PySem.W.keepIn K (.ref Z1H)=true)
  (Z2q:PySem.W.nsIn K mainGlobals "_law_places" =some (some (.ref Z1u)))
  (Z2r:K.lookup Z1u=some ⟨Z6x,Z6u,.func (PySem.W.fnOf "_law_places" "_law_places" (defArgs (tp 36)) (defBody (tp 36)) (defScope (tp 36)) .none Z6y Z6z Z6A Z6v Z3L Z6B),Z6w⟩)
  (Z2s:PySem.W.codeIn K Z3L "_law_places" =true)
  (Z1w:PySem.W.keepIn K (.ref Z1u)=true)
  (Z3t:PySem.W.nsIn K mainGlobals "_law_long" =some (some (.ref Z2a)))
  (Z3u:K.lookup Z2a=some ⟨Z8e,Z8b,.func (PySem.W.fnOf "_law_long" "_law_long" (defArgs (tp 38)) (defBody (tp 38)) (defScope (tp 38)) .none Z8f Z8g Z8h Z8c Z4x Z8i),Z8d⟩)
  (Z3v:PySem.W.codeIn K Z4x "_law_long" =true)
  (Z2h:PySem.W.keepIn K (.ref Z2a)=true)
  (Z2V:PySem.W.nsIn K mainGlobals "_law_marks" =some (some (.ref Z1I)))
  (Z2W:K.lookup Z1I=some ⟨Z7t,Z7q,.func (PySem.W.fnOf "_law_marks" "_law_marks" (defArgs (tp 37)) (defBody (tp 37)) (defScope (tp 37)) .none Z7u Z7v Z7w Z7r Z4p Z7x),Z7s⟩)
  (Z2X:PySem.W.codeIn K Z4p "_law_marks" =true)
  (Z1O:PySem.W.keepIn K (.ref Z1I)=true)
  (Z1P:PySem.W.nsIn K mainGlobals "_law_turnover" =some (some (.ref Z18)))
  (Z1Q:K.lookup Z18=some ⟨Z5l,Z5i,.func (PySem.W.fnOf "_law_turnover" "_law_turnover" (defArgs (tp 39)) (defBody (tp 39)) (defScope (tp 39)) .none Z5m Z5n Z5o Z5j Z2K Z5p),Z5k⟩)
  (Z1R:PySem.W.codeIn K Z2K "_law_turnover" =true)
  (Z1a:PySem.W.keepIn K (.ref Z18)=true)
  (Z3w:PySem.W.nsIn K mainGlobals "_law_back" =some (some (.ref Z2b)))
  (Z3x:K.lookup Z2b=some ⟨Z8m,Z8j,.func (PySem.W.fnOf "_law_back" "_law_back" (defArgs (tp 40)) (defBody (tp 40)) (defScope (tp 40)) .none Z8n Z8o Z8p Z8k Z4y Z8q),Z8l⟩)
  (Z3y:PySem.W.codeIn K Z4y "_law_back" =true)
  (Z2i:PySem.W.keepIn K (.ref Z2b)=true)
  (Z3z:PySem.W.nsIn K mainGlobals "_law_roll" =some (some (.ref Z2c)))
  (Z3A:K.lookup Z2c=some ⟨Z8u,Z8r,.func (PySem.W.fnOf "_law_roll" "_law_roll" (defArgs (tp 41)) (defBody (tp 41)) (defScope (tp 41)) .none Z8v Z8w Z8x Z8s Z4z Z8y),Z8t⟩)
  (Z3B:PySem.W.codeIn K Z4z "_law_roll" =true)
  (Z2j:PySem.W.keepIn K (.ref Z2c)=true)
  (Z3C:PySem.W.nsIn K mainGlobals "_law_seen" =some (some (.ref Z2d)))
  (Z3D:K.lookup Z2d=some ⟨Z8C,Z8z,.func (PySem.W.fnOf "_law_seen" "_law_seen" (defArgs (tp 42)) (defBody (tp 42)) (defScope (tp 42)) .none Z8D Z8E Z8F Z8A Z4A Z8G),Z8B⟩)
  (Z3E:PySem.W.codeIn K Z4A "_law_seen" =true)
  (Z2k:PySem.W.keepIn K (.ref Z2d)=true)
  (Z49:PySem.W.nsIn K mainGlobals "_law_kin" =some (some (.ref Z2x)))
  (Z4a:K.lookup Z2x=some ⟨Z9j,Z9g,.func (PySem.W.fnOf "_law_kin" "_law_kin" (defArgs (tp 43)) (defBody (tp 43)) (defScope (tp 43)) .none Z9k Z9l Z9m Z9h Z53 Z9n),Z9i⟩)
  (Z4b:PySem.W.codeIn K Z53 "_law_kin" =true)
  (Z2A:PySem.W.keepIn K (.ref Z2x)=true)
  (Z3F:PySem.W.nsIn K mainGlobals "_law_case" =some (some (.ref Z2e)))
  (Z3G:K.lookup Z2e=some ⟨Z8K,Z8H,.func (PySem.W.fnOf "_law_case" "_law_case" (defArgs (tp 44)) (defBody (tp 44)) (defScope (tp 44)) .none Z8L Z8M Z8N Z8I Z4B Z8O),Z8J⟩)
  (Z3H:PySem.W.codeIn K Z4B "_law_case" =true)
  (Z2l:PySem.W.keepIn K (.ref Z2e)=true)
  (Z5y:PySem.W.nsIn K mainGlobals "within" =some (some (.ref Z40)))
  (Z5z:K.lookup Z40=some ⟨Zak,Zah,.func (PySem.W.fnOf "within" "within" (defArgs (tp 18)) (defBody (tp 18)) (defScope (tp 18)) .none Zal Zam Zan Zai Z6T Zao),Zaj⟩)
  (Z5A:PySem.W.codeIn K Z6T "within" =true)
  (Z4c:PySem.W.keepIn K (.ref Z40)=true)
  (Z4d:PySem.W.nsIn K mainGlobals "twisting" =some (some (.ref Z2y)))
  (Z4e:K.lookup Z2y=some ⟨Z9r,Z9o,.func (PySem.W.fnOf "twisting" "twisting" (defArgs (tp 6)) (defBody (tp 6)) (defScope (tp 6)) .none Z9s Z9t Z9u Z9p Z54 Z9v),Z9q⟩)
  (Z4f:PySem.W.codeIn K Z54 "twisting" =true)
  (Z2B:PySem.W.keepIn K (.ref Z2y)=true)
  (Z25:PySem.W.nsIn K mainGlobals "state_behind" =some (some (.ref Z1n)))
  (Z26:K.lookup Z1n=some ⟨Z62,Z5Z,.func (PySem.W.fnOf "state_behind" "state_behind" (defArgs (tp 17)) (defBody (tp 17)) (defScope (tp 17)) .none Z63 Z64 Z65 Z60 Z3c Z66),Z61⟩)
  (Z27:PySem.W.codeIn K Z3c "state_behind" =true)
  (Z1o:PySem.W.keepIn K (.ref Z1n)=true)
  (Z4I:PySem.W.nsIn K mainGlobals "twisted" =some (some (.ref Z3d)))
  (Z4J:K.lookup Z3d=some ⟨Za3,Za0,.func (PySem.W.fnOf "twisted" "twisted" (defArgs (tp 16)) (defBody (tp 16)) (defScope (tp 16)) .none Za4 Za5 Za6 Za1 Z67 Za7),Za2⟩)
  (Z4K:PySem.W.codeIn K Z67 "twisted" =true)
  (Z3g:PySem.W.keepIn K (.ref Z3d)=true)
  (a_top:PySem.W.nsIn K mainGlobals "top" =some (some (.ref f_top)))
  (l_top:K.lookup f_top=some ⟨oc_top,od_top,.func (PySem.W.fnOf "top" "top" (defArgs (tp 4)) (defBody (tp 4)) (defScope (tp 4)) .none kV_top dc_top pm_top an_top cd_top ct_top),sl_top⟩)
  (c_top:PySem.W.codeIn K cd_top "top" =true)
  (k_top:PySem.W.keepIn K (.ref f_top)=true)
  (Z5B:PySem.W.nsIn K mainGlobals "bottom" =some (some (.ref Z41)))
  (Z5C:K.lookup Z41=some ⟨Zas,Zap,.func (PySem.W.fnOf "bottom" "bottom" (defArgs (tp 5)) (defBody (tp 5)) (defScope (tp 5)) .none Zat Zau Zav Zaq Z6U Zaw),Zar⟩)
  (Z5D:PySem.W.codeIn K Z6U "bottom" =true)
  (Z4g:PySem.W.keepIn K (.ref Z41)=true)
  (Z2Y:PySem.W.nsIn K mainGlobals "left_place" =some (some (.ref Z1J)))
  (Z2Z:K.lookup Z1J=some ⟨Z7B,Z7y,.func (PySem.W.fnOf "left_place" "left_place" (defArgs (tp 9)) (defBody (tp 9)) (defScope (tp 9)) .none Z7C Z7D Z7E Z7z Z4q Z7F),Z7A⟩)
  (Z30:PySem.W.codeIn K Z4q "left_place" =true)
  (Z1S:PySem.W.keepIn K (.ref Z1J)=true)
  (Z6C:PySem.W.nsIn K mainGlobals "suits" =some (some (.ref Z4W)))
  (Z6D:K.lookup Z4W=some ⟨Zbq,Zbn,.func (PySem.W.fnOf "suits" "suits" (defArgs (tp 13)) (defBody (tp 13)) (defScope (tp 13)) .none Zbr Zbs Zbt Zbo Z8P Zbu),Zbp⟩)
  (Z6E:PySem.W.codeIn K Z8P "suits" =true)
  (Z4Z:PySem.W.keepIn K (.ref Z4W)=true)
  (Z5E:PySem.W.nsIn K mainGlobals "agrees" =some (some (.ref Z42)))
  (Z5F:K.lookup Z42=some ⟨ZaA,Zax,.func (PySem.W.fnOf "agrees" "agrees" (defArgs (tp 12)) (defBody (tp 12)) (defScope (tp 12)) .none ZaB ZaC ZaD Zay Z6V ZaE),Zaz⟩)
  (Z5G:PySem.W.codeIn K Z6V "agrees" =true)
  (Z4h:PySem.W.keepIn K (.ref Z42)=true)
  (Z5H:PySem.W.nsIn K mainGlobals "leaves" =some (some (.ref Z43)))
  (Z5I:K.lookup Z43=some ⟨ZaI,ZaF,.func (PySem.W.fnOf "leaves" "leaves" (defArgs (tp 19)) (defBody (tp 19)) (defScope (tp 19)) .none ZaJ ZaK ZaL ZaG Z6W ZaM),ZaH⟩)
  (Z5J:PySem.W.codeIn K Z6W "leaves" =true)
  (Z4i:PySem.W.keepIn K (.ref Z43)=true)
  (Z5K:PySem.W.nsIn K mainGlobals "onward" =some (some (.ref Z44)))
  (Z5L:K.lookup Z44=some ⟨ZaQ,ZaN,.func (PySem.W.fnOf "onward" "onward" (defArgs (tp 20)) (defBody (tp 20)) (defScope (tp 20)) .none ZaR ZaS ZaT ZaO Z6X ZaU),ZaP⟩)
  (Z5M:PySem.W.codeIn K Z6X "onward" =true)
  (Z4j:PySem.W.keepIn K (.ref Z44)=true)
  (Z1T:PySem.W.nsIn K mainGlobals "states_behind" =some (some (.ref Z19)))
  (Z1U:K.lookup Z19=some ⟨Z5t,Z5q,.func (PySem.W.fnOf "states_behind" "states_behind" (defArgs (tp 22)) (defBody (tp 22)) (defScope (tp 22)) .none Z5u Z5v Z5w Z5r Z2L Z5x),Z5s⟩)
  (Z1V:PySem.W.codeIn K Z2L "states_behind" =true)
  (Z1b:PySem.W.keepIn K (.ref Z19)=true)
  (Z5N:PySem.W.nsIn K mainGlobals "search" =some (some (.ref Z45)))
  (Z5O:K.lookup Z45=some ⟨ZaY,ZaV,.func (PySem.W.fnOf "search" "search" (defArgs (tp 21)) (defBody (tp 21)) (defScope (tp 21)) .none ZaZ Zb0 Zb1 ZaW Z6Y Zb2),ZaX⟩)
  (Z5P:PySem.W.codeIn K Z6Y "search" =true)
  (Z4k:PySem.W.keepIn K (.ref Z45)=true)
  (Z6F:PySem.W.nsIn K mainGlobals "tails" =some (some (.ref Z4X)))
  (Z6G:K.lookup Z4X=some ⟨Zby,Zbv,.func (PySem.W.fnOf "tails" "tails" (defArgs (tp 23)) (defBody (tp 23)) (defScope (tp 23)) .none Zbz ZbA ZbB Zbw Z8Q ZbC),Zbx⟩)
  (Z6H:PySem.W.codeIn K Z8Q "tails" =true)
  (Z50:PySem.W.keepIn K (.ref Z4X)=true)
  (Z8S:PySem.W.nsIn K mainGlobals "ways" =some (some (.ref Z68)))
  (Z8T:K.lookup Z68=some ⟨Zc2,ZbZ,.func (PySem.W.fnOf "ways" "ways" (defArgs (tp 24)) (defBody (tp 24)) (defScope (tp 24)) .none Zc3 Zc4 Zc5 Zc0 Z9D Zc6),Zc1⟩)
  (Z8U:PySem.W.codeIn K Z9D "ways" =true)
  (Z69:PySem.W.keepIn K (.ref Z68)=true)
  (Z6I:PySem.W.nsIn K mainGlobals "least" =some (some (.ref Z4Y)))
  (Z6J:K.lookup Z4Y=some ⟨ZbG,ZbD,.func (PySem.W.fnOf "least" "least" (defArgs (tp 25)) (defBody (tp 25)) (defScope (tp 25)) .none ZbH ZbI ZbJ ZbE Z8R ZbK),ZbF⟩)
  (Z6K:PySem.W.codeIn K Z8R "least" =true)
  (Z51:PySem.W.keepIn K (.ref Z4Y)=true)
  (Z31:PySem.W.nsIn K mainGlobals "_law_order" =some (some (.ref Z1K)))
  (Z32:K.lookup Z1K=some ⟨Z7J,Z7G,.func (PySem.W.fnOf "_law_order" "_law_order" (defArgs (tp 46)) (defBody (tp 46)) (defScope (tp 46)) .none Z7K Z7L Z7M Z7H Z4r Z7N),Z7I⟩)
  (Z33:PySem.W.codeIn K Z4r "_law_order" =true)
  (Z1W:PySem.W.keepIn K (.ref Z1K)=true)
  (a_law:PySem.W.nsIn K mainGlobals "law" =some (some (.ref f_law)))
  (l_law:K.lookup f_law=some ⟨oc_law,od_law,.func (PySem.W.fnOf "law" "law" (defArgs (tp 47)) (defBody (tp 47)) (defScope (tp 47)) .none kV_law dc_law pm_law an_law cd_law ct_law),sl_law⟩)
  (c_law:PySem.W.codeIn K cd_law "law" =true)
  (k_law:PySem.W.keepIn K (.ref f_law)=true)
  (z_abs:PySem.W.nsIn K mainGlobals "abs" =some none)
  (z_all:PySem.W.nsIn K mainGlobals "all" =some none)
  (z_bool:PySem.W.nsIn K mainGlobals "bool" =some none)
  (z_int:PySem.W.nsIn K mainGlobals "int" =some none)
  (z_isinstance:PySem.W.nsIn K mainGlobals "isinstance" =some none)
  (z_len:PySem.W.nsIn K mainGlobals "len" =some none)
  (z_list:PySem.W.nsIn K mainGlobals "list" =some none)
  (z_range:PySem.W.nsIn K mainGlobals "range" =some none)
  (z_reversed:PySem.W.nsIn K mainGlobals "reversed" =some none)
  (z_sorted:PySem.W.nsIn K mainGlobals "sorted" =some none)
  (z_str:PySem.W.nsIn K mainGlobals "str" =some none)
  (z_sum:PySem.W.nsIn K mainGlobals "sum" =some none)
  (z_tuple:PySem.W.nsIn K mainGlobals "tuple" =some none)
  (z_zip:PySem.W.nsIn K mainGlobals "zip" =some none)
  (Z6L:PySem.W.nsIn K mainGlobals "HOLES" =some (some (.int 4 Z1Z)))
  (Z5Q:PySem.W.nsIn K mainGlobals "SLANTS" =some (some (.ref Z1x)))
  (Z5R:K.lookup Z1x=some {cls:=.type "dict",data:=.dict #[⟨hashInt (1),.int (1) x_SLANTS0,.str (zx "s") y_SLANTS0⟩,⟨hashInt (-1),.int (-1) x_SLANTS1,.str (zx "z") y_SLANTS1⟩,⟨hashInt (0),.int (0) x_SLANTS2,.str (zx "o") y_SLANTS2⟩] ZbL})
  (Z5S:(Z1x == sysModules)=false)
  (Z6M:PySem.W.nsIn K mainGlobals "START" =some (some (.ref Z1m)))
  (Z6N:K.lookup Z1m=some {cls:=.type "tuple",data:=.seq #[.int (0) x_START0,.int (0) x_START1] Zc7})
  (Z6O:PySem.W.nsIn K mainGlobals "STEPS" =some (some (.ref Z1Y)))
  (Z6P:K.lookup Z1Y=some {cls:=.type "dict",data:=.dict #[⟨PySem.PyData.keyHash w.params (zx "f"),.str (zx "f") x_STEPS0,.int (1) y_STEPS0⟩,⟨PySem.PyData.keyHash w.params (zx "b"),.str (zx "b") x_STEPS1,.int (-1) y_STEPS1⟩,⟨PySem.PyData.keyHash w.params (zx "i"),.str (zx "i") x_STEPS2,.int (0) y_STEPS2⟩] Zc8})
  (Z6Q:(Z1Y == sysModules)=false)
  (Z6R:PySem.W.nsIn K mainGlobals "TURNS" =some (some (.str (zx "fbi") Z6j)))
  (Z8V:PySem.W.nsIn K mainGlobals "WORN" =some (some (.str (zx "?") Z7S)))
  :∃fd:zY,(∀(s:zq) (v:zl),Fv s fd ⟨[v],[]⟩ [("_law_script",v)])∧∀base:Heap,K.In base→base.Ns mainGlobals mg→FnOk l.prog w K mg base CX0 27 fa fd ["_law_script"] (oE K):=by
 have e:=hfa.symm.trans (PySem.W.mg_of X G a_law)
 cases e
 have Z55:=aQ (st:=tp 45) Z3o Z3p Z1r
 have Z56:=Z55.binds (ps:=["_law_found","_law_due"]) fun _ _ _ _ _ _ us hl=>match us,hl with | [_,_],_=>rfl
 have Z6Z:=aQ (st:=tp 31) Z4D Z4E Z3e
 have Zb3:=Z6Z.binds (ps:=["_law_script","_law_k"]) fun _ _ _ _ _ _ us hl=>match us,hl with | [_,_],_=>rfl
 have Z6a:=aQ (st:=tp 27) Z47 Z48 Z2z
 have Za8:=Z6a.binds (ps:=["_law_cell","_law_many","_law_base"]) fun _ _ _ _ _ _ us hl=>match us,hl with | [_,_,_],_=>rfl
 have Z4L:=aQ (st:=tp 28) Z2N Z2O Z1L
 have Z8W:=Z4L.binds (ps:=["_law_cell"]) fun _ _ _ _ _ _ us hl=>match us,hl with | [_],_=>rfl
 have Z57:=aQ (st:=tp 29) Z3r Z3s Z2g
 have Z9w:=Z57.binds (ps:=["_law_cell"]) fun _ _ _ _ _ _ us hl=>match us,hl with | [_],_=>rfl
 have Z4M:=aQ (st:=tp 30) Z2Q Z2R Z1M
 have Z8X:=Z4M.binds (ps:=["_law_cell","_law_many"]) fun _ _ _ _ _ _ us hl=>match us,hl with | [_,_],_=>rfl
 have Z70:=aQ (st:=tp 33) Z4G Z4H Z3f
 have Zb4:=Z70.binds (ps:=["_law_turn"]) fun _ _ _ _ _ _ us hl=>match us,hl with | [_],_=>rfl
 have Z4s:=aQ (st:=tp 34) Z2o Z2p Z1v
 have Z7O:=Z4s.binds (ps:=["_law_card_here","_law_turn"]) fun _ _ _ _ _ _ us hl=>match us,hl with | [_,_],_=>rfl
 have Z4N:=aQ (st:=tp 35) Z2T Z2U Z1N
 have Z8Y:=Z4N.binds (ps:=["_law_card_here","_law_turn"]) fun _ _ _ _ _ _ us hl=>match us,hl with | [_,_],_=>rfl
 have Z4t:=aQ (st:=tp 36) Z2r Z2s Z1w
 have Z7P:=Z4t.binds (ps:=["_law_card_here","_law_turns_here"]) fun _ _ _ _ _ _ us hl=>match us,hl with | [_,_],_=>rfl
 have Z58:=aQ (st:=tp 38) Z3u Z3v Z2h
 have Z9x:=Z58.binds (ps:=["_law_places_here","_law_cell"]) fun _ _ _ _ _ _ us hl=>match us,hl with | [_,_],_=>rfl
 have Z4O:=aQ (st:=tp 37) Z2W Z2X Z1O
 have Z8Z:=Z4O.binds (ps:=["_law_places_here","_law_cell","_law_lies"]) fun _ _ _ _ _ _ us hl=>match us,hl with | [_,_,_],_=>rfl
 have Z3h:=aQ (st:=tp 39) Z1Q Z1R Z1a
 have Z6b:=Z3h.binds (ps:=["_law_card_here"]) fun _ _ _ _ _ _ us hl=>match us,hl with | [_],_=>rfl
 have Z59:=aQ (st:=tp 40) Z3x Z3y Z2i
 have Z9y:=Z59.binds (ps:=["_law_turns_here"]) fun _ _ _ _ _ _ us hl=>match us,hl with | [_],_=>rfl
 have Z5a:=aQ (st:=tp 41) Z3A Z3B Z2j
 have Z9z:=Z5a.binds (ps:=["_law_card_here","_law_many"]) fun _ _ _ _ _ _ us hl=>match us,hl with | [_,_],_=>rfl
 have Z5b:=aQ (st:=tp 42) Z3D Z3E Z2k
 have Z9A:=Z5b.binds (ps:=["_law_card_here","_law_turns_here"]) fun _ _ _ _ _ _ us hl=>match us,hl with | [_,_],_=>rfl
 have Z6c:=aQ (st:=tp 43) Z4a Z4b Z2A
 have Za9:=Z6c.binds (ps:=["_law_card_here","_law_turns_here","_law_cell"]) fun _ _ _ _ _ _ us hl=>match us,hl with | [_,_,_],_=>rfl
 have Z5c:=aQ (st:=tp 44) Z3G Z3H Z2l
 have Z9B:=Z5c.binds (ps:=["_law_script","_law_most"]) fun _ _ _ _ _ _ us hl=>match us,hl with | [_,_],_=>rfl
 have Z90:=aQ (st:=tp 18) Z5z Z5A Z4c
 have ZbM:=Z90.binds (ps:=["state","loose","bound"]) fun _ _ _ _ _ _ us hl=>match us,hl with | [_,_,_],_=>rfl
 have Z6d:=aQ (st:=tp 6) Z4e Z4f Z2B
 have Zaa:=Z6d.binds (ps:=["tablet","turn"]) fun _ _ _ _ _ _ us hl=>match us,hl with | [_,_],_=>rfl
 have Z3M:=aQ (st:=tp 17) Z26 Z27 Z1o
 have Z6S:=Z3M.binds (ps:=["tablet","state","turn"]) fun _ _ _ _ _ _ us hl=>match us,hl with | [_,_,_],_=>rfl
 have Z71:=aQ (st:=tp 16) Z4J Z4K Z3g
 have Zb5:=Z71.binds (ps:=["tablet","twist"]) fun _ _ _ _ _ _ us hl=>match us,hl with | [_,_],_=>rfl
 have F_top:=aQ (st:=tp 4) l_top c_top k_top
 have b_top:=F_top.binds (ps:=["tablet"]) fun _ _ _ _ _ _ us hl=>match us,hl with | [_],_=>rfl
 have Z91:=aQ (st:=tp 5) Z5C Z5D Z4g
 have ZbN:=Z91.binds (ps:=["tablet"]) fun _ _ _ _ _ _ us hl=>match us,hl with | [_],_=>rfl
 have Z4P:=aQ (st:=tp 9) Z2Z Z30 Z1S
 have Z92:=Z4P.binds (ps:=["tablet","turn"]) fun _ _ _ _ _ _ us hl=>match us,hl with | [_,_],_=>rfl
 have Z9E:=aQ (st:=tp 13) Z6D Z6E Z4Z
 have Zc9:=Z9E.binds (ps:=["sign","left"]) fun _ _ _ _ _ _ us hl=>match us,hl with | [_,_],_=>rfl
 have Z93:=aQ (st:=tp 12) Z5F Z5G Z4h
 have ZbO:=Z93.binds (ps:=["place","mark"]) fun _ _ _ _ _ _ us hl=>match us,hl with | [_,_],_=>rfl
 have Z94:=aQ (st:=tp 19) Z5I Z5J Z4i
 have ZbP:=Z94.binds (ps:=["tablet","state","turn","mark"]) fun _ _ _ _ _ _ us hl=>match us,hl with | [_,_,_,_],_=>rfl
 have Z95:=aQ (st:=tp 20) Z5L Z5M Z4j
 have ZbQ:=Z95.binds (ps:=["tablet","mark","loose","bound","state"]) fun _ _ _ _ _ _ us hl=>match us,hl with | [_,_,_,_,_],_=>rfl
 have Z3i:=aQ (st:=tp 22) Z1U Z1V Z1b
 have Z6e:=Z3i.binds (ps:=["tablet","mark","loose","bound","states"]) fun _ _ _ _ _ _ us hl=>match us,hl with | [_,_,_,_,_],_=>rfl
 have Z96:=aQ (st:=tp 21) Z5O Z5P Z4k
 have ZbR:=Z96.binds (ps:=["tablet","strip","loose","bound"]) fun _ _ _ _ _ _ us hl=>match us,hl with | [_,_,_,_],_=>rfl
 have Z9F:=aQ (st:=tp 23) Z6G Z6H Z50
 have Zca:=Z9F.binds (ps:=["tablet","strip","loose","bound"]) fun _ _ _ _ _ _ us hl=>match us,hl with | [_,_,_,_],_=>rfl
 have Zb6:=aQ (st:=tp 24) Z8T Z8U Z69
 have Zch:=Zb6.binds (ps:=["tablet","strip","loose","bound"]) fun _ _ _ _ _ _ us hl=>match us,hl with | [_,_,_,_],_=>rfl
 have Z9G:=aQ (st:=tp 25) Z6J Z6K Z51
 have Zcb:=Z9G.binds (ps:=["tablet","strip","loose"]) fun _ _ _ _ _ _ us hl=>match us,hl with | [_,_,_],_=>rfl
 have Z4Q:=aQ (st:=tp 46) Z32 Z33 Z1W
 have Z97:=Z4Q.binds (ps:=["_law_least_one"]) fun _ _ _ _ _ _ us hl=>match us,hl with | [_],_=>rfl
 have F_law:=aQ (st:=tp 47) l_law c_law k_law
 have b_law:=F_law.binds (ps:=["_law_script"]) fun _ _ _ _ _ _ us hl=>match us,hl with | [_],_=>rfl
 have h_abs:=PySem.W.mg_none_of X G z_abs
 have h_all:=PySem.W.mg_none_of X G z_all
 have h_bool:=PySem.W.mg_none_of X G z_bool
 have h_int:=PySem.W.mg_none_of X G z_int
 have h_isinstance:=PySem.W.mg_none_of X G z_isinstance
 have h_len:=PySem.W.mg_none_of X G z_len
 have h_list:=PySem.W.mg_none_of X G z_list
 have h_range:=PySem.W.mg_none_of X G z_range
 have h_reversed:=PySem.W.mg_none_of X G z_reversed
 have h_sorted:=PySem.W.mg_none_of X G z_sorted
 have h_str:=PySem.W.mg_none_of X G z_str
 have h_sum:=PySem.W.mg_none_of X G z_sum
 have h_tuple:=PySem.W.mg_none_of X G z_tuple
 have h_zip:=PySem.W.mg_none_of X G z_zip
 have Z1l:=PySem.W.mg_of X G Z6L
 have Z5e:=PySem.W.mg_of X G Z5Q
 have Z5f:DictK K w Z1x [(BU (1),.str (zx "s")),(BU (-1),.str (zx "z")),(BU (0),.str (zx "o"))]:=⟨by decide,Z5S,by decide +kernel,_,_,Z5R,(.cons ⟨fE _ _,rfl,⟨_,rfl⟩⟩ (.cons ⟨fE _ _,rfl,⟨_,rfl⟩⟩ (.cons ⟨fE _ _,rfl,⟨_,rfl⟩⟩ .nil)))⟩
 have Z23:=PySem.W.mg_of X G Z6M
 have Z24:∀H,SqT K H Z1m [.int (0),.int (0)]:=fun H=>.inr ⟨_,_,_,Z6N,⟨rfl,rfl⟩,rfl,(by show 2≤sizeLine;decide),(.cons ⟨_,rfl⟩ (.cons ⟨_,rfl⟩ .nil))⟩
 have Z6f:=PySem.W.mg_of X G Z6O
 have Z6g:DictK K w Z1Y [(BW (zx "f"),.int (1)),(BW (zx "b"),.int (-1)),(BW (zx "i"),.int (0))]:=⟨by decide,Z6Q,by decide +kernel,_,_,Z6P,(.cons ⟨fF _ _,rfl,⟨_,rfl⟩⟩ (.cons ⟨fF _ _,rfl,⟨_,rfl⟩⟩ (.cons ⟨fF _ _,rfl,⟨_,rfl⟩⟩ .nil)))⟩
 have Z6k:=PySem.W.mg_of X G Z6R
 have Z7T:=PySem.W.mg_of X G Z8V
 refine⟨PySem.W.fnOf "law" "law" (defArgs (tp 47)) (defBody (tp 47)) (defScope (tp 47)) .none kV_law dc_law pm_law an_law cd_law ct_law,fun s v=>.of_eq rfl,fun base KB _=>?_⟩
 have SA:∀n:Nat,Cal l.prog w K mg base "_law_same" ["_law_found","_law_due"] n (fP K n):=fun n=>by
  induction n with
  | zero=>exact⟨Z1q,_,uy,PySem.W.mg_of X G Z2f,Z1r,Z56⟩
  | succ n ih=>exact⟨Z1q,_,sw Z55 h_len h_isinstance h_bool h_int h_str h_list h_tuple h_zip ih,PySem.W.mg_of X G Z2f,Z1r,Z56⟩
 have Z0R:=SA 26
 have Z0v:Cal l.prog w K mg base "_law_at" ["_law_script","_law_k"] (1) (bw (isScr K) isI (rs isI) gf):=⟨Z3a,_,yB Z6Z h_len,PySem.W.mg_of X G Z4C,Z3e,Zb3⟩
 have Z0t:Cal l.prog w K mg base "_law_row" ["_law_cell","_law_many","_law_base"] (1) (dj isI isI isI (ro isI) gF):=⟨Z2w,_,yC Z6a h_abs h_range,PySem.W.mg_of X G Z46,Z2z,Za8⟩
 have Z2D:Cal l.prog w K mg base "_law_holes" ["_law_cell"] (2) (cU isI (rs isS) ue):=⟨Z1F,_,yD Z4L Z0t,PySem.W.mg_of X G Z2M,Z1L,Z8W⟩
 have Z28:Cal l.prog w K mg base "_law_card" ["_law_cell"] (3) (cU isI (rs (isT3 K isS isS isI)) sU):=⟨Z29,_,yE Z57 Z2D,PySem.W.mg_of X G Z3q,Z2g,Z9w⟩
 have Z2G:Cal l.prog w K mg base "_law_turns" ["_law_cell","_law_many"] (2) (bw isI isI (rs isS) uf):=⟨Z1G,_,yF Z4M Z0t,PySem.W.mg_of X G Z2P,Z1M,Z8X⟩
 have Z1c:Cal l.prog w K mg base "_law_go" ["_law_turn"] (1) (cU isS (rs isI) m9):=⟨Z3b,_,yG Z70,PySem.W.mg_of X G Z4F,Z3f,Zb4⟩
 have Z0J:Cal l.prog w K mg base "_law_behind" ["_law_card_here","_law_turn"] (2) (bw (isT3 K isS isS isI) isS (rs (isT3 K isS isS isI)) im):=⟨Z1t,_,yH Z4s Z1c,PySem.W.mg_of X G Z2n,Z1v,Z7O⟩
 have Z2F:Cal l.prog w K mg base "_law_twist" ["_law_card_here","_law_turn"] (2) (bw (isT3 K isS isS isI) isS (rs isI) oB):=⟨Z1H,_,yI Z4N Z1c,PySem.W.mg_of X G Z2S,Z1N,Z8Y⟩
 have Z2m:Cal l.prog w K mg base "_law_places" ["_law_card_here","_law_turns_here"] (3) (bw (isT3 K isS isS isI) isS (ro (isT3 K isS isS isS)) ug):=⟨Z1u,_,yJ Z4t Z0J Z2F,PySem.W.mg_of X G Z2q,Z1w,Z7P⟩
 have Z3m:Cal l.prog w K mg base "_law_long" ["_law_places_here","_law_cell"] (2) (bw (isL (isT3 K isS isS isS)) isI (ro (isT3 K isS isS isS)) uh):=⟨Z2a,_,yK Z58 Z0t h_len h_zip,PySem.W.mg_of X G Z3t,Z2h,Z9x⟩
 have Z2H:Cal l.prog w K mg base "_law_marks" ["_law_places_here","_law_cell","_law_lies"] (2) (dj (isL (isT3 K isS isS isS)) isI isB (ro (isT3 K isS isS isS)) ui):=⟨Z1I,_,yL Z4O Z0t h_int h_len h_tuple h_zip,PySem.W.mg_of X G Z2V,Z1O,Z8Z⟩
 have Z1C:Cal l.prog w K mg base "_law_turnover" ["_law_card_here"] (1) (cU (isT3 K isS isS isI) (rs (isT3 K isS isS isI)) uj):=⟨Z18,_,yM Z3h,PySem.W.mg_of X G Z1P,Z1a,Z6b⟩
 have Z3j:Cal l.prog w K mg base "_law_back" ["_law_turns_here"] (1) (cU isS (rs isS) uk):=⟨Z2b,_,yN Z59,PySem.W.mg_of X G Z3w,Z2i,Z9y⟩
 have Z3k:Cal l.prog w K mg base "_law_roll" ["_law_card_here","_law_many"] (1) (bw (isT3 K isS isS isI) isI (rs (isT3 K isS isS isI)) ul):=⟨Z2c,_,yO Z5a h_range,PySem.W.mg_of X G Z3z,Z2j,Z9z⟩
 have Z3l:Cal l.prog w K mg base "_law_seen" ["_law_card_here","_law_turns_here"] (3) (bw (isT3 K isS isS isI) isS (ro isI) um):=⟨Z2d,_,yP Z5b Z0J h_sorted,PySem.W.mg_of X G Z3C,Z2k,Z9A⟩
 have Z3Z:Cal l.prog w K mg base "_law_kin" ["_law_card_here","_law_turns_here","_law_cell"] (4) (dj (isT3 K isS isS isI) isS isI (rs (isT2 K (isT3 K isS isS isI) isS)) uo):=⟨Z2x,_,yQ Z6c Z1C Z3j Z3k Z3l h_range,PySem.W.mg_of X G Z49,Z2A,Za9⟩
 have Z3n:Cal l.prog w K mg base "_law_case" ["_law_script","_law_most"] (5) (bw (isScr K) isI (rs (isT3 K (isT3 K isS isS isI) (isL (isT3 K isS isS isS)) isI)) sV):=⟨Z2e,_,yR Z5c Z28 Z0v Z2G Z2m Z3m Z2H Z3Z,PySem.W.mg_of X G Z3F,Z2l,Z9B⟩
 have Z21:Cal l.prog w K mg base "within" ["state","loose","bound"] (1) (dj (isT2 K isI isI) isI isI (rs isB) lO):=⟨Z40,_,yT Z90 h_abs,PySem.W.mg_of X G Z5y,Z4c,ZbM⟩
 have Z1k:Cal l.prog w K mg base "twisting" ["tablet","turn"] (1) (bw (isT3 K isS isS isI) isS (rs isI) ng):=⟨Z2y,_,yV Z6d Z6f Z6g,PySem.W.mg_of X G Z4d,Z2B,Zaa⟩
 have Z20:Cal l.prog w K mg base "state_behind" ["tablet","state","turn"] (2) (dj (isT3 K isS isS isI) (isT2 K isI isI) isS (rs (isT2 K isI isI)) sW):=⟨Z1n,_,yW Z3M Z1k,PySem.W.mg_of X G Z25,Z1o,Z6S⟩
 have Z4u:Cal l.prog w K mg base "twisted" ["tablet","twist"] (1) (bw (isT3 K isS isS isI) isI (rs (isT3 K isS isS isI)) ur):=⟨Z3d,_,yX Z71 Z1l,PySem.W.mg_of X G Z4I,Z3g,Zb5⟩
 have C_top:Cal l.prog w K mg base "top" ["tablet"] (1) (cU (isT3 K isS isS isI) (rs isS) gC):=⟨f_top,_,xj F_top Z1l,PySem.W.mg_of X G a_top,k_top,b_top⟩
 have Z5d:Cal l.prog w K mg base "bottom" ["tablet"] (1) (cU (isT3 K isS isS isI) (rs isS) ut):=⟨Z41,_,yY Z91 Z1l,PySem.W.mg_of X G Z5B,Z4g,ZbN⟩
 have Z2J:Cal l.prog w K mg base "left_place" ["tablet","turn"] (2) (bw (isT3 K isS isS isI) isS (rs (isT3 K isS isS isS)) uv):=⟨Z1J,_,yZ Z4P C_top Z5d Z1k Z5e Z5f,PySem.W.mg_of X G Z2Y,Z1S,Z92⟩
 have Z6i:Cal l.prog w K mg base "suits" ["sign","left"] (1) (bw isS isS (rs isB) sX):=⟨Z4W,_,z5 Z9E Z7T,PySem.W.mg_of X G Z6C,Z4Z,Zc9⟩
 have Z5g:Cal l.prog w K mg base "agrees" ["place","mark"] (2) (bw (isT3 K isS isS isS) (isT3 K isS isS isS) (rs isB) uw):=⟨Z42,_,z6 Z93 Z6i h_all h_zip,PySem.W.mg_of X G Z5E,Z4h,ZbO⟩
 have Z5h:Cal l.prog w K mg base "leaves" ["tablet","state","turn","mark"] (3) (fS (isT3 K isS isS isI) (isT2 K isI isI) isS (isT3 K isS isS isS) (rs isB) sr):=⟨Z43,_,z7 Z94 Z5g Z2J Z4u,PySem.W.mg_of X G Z5H,Z4i,ZbP⟩
 have Z22:Cal l.prog w K mg base "onward" ["tablet","mark","loose","bound","state"] (4) (li (isT3 K isS isS isI) (isT3 K isS isS isS) isI isI (isT2 K isI isI) (ro (isT2 K isS (isT2 K isI isI))) jb):=⟨Z44,_,z8 Z95 Z20 Z21 Z5h Z6k,PySem.W.mg_of X G Z5K,Z4j,ZbQ⟩
 have Z1E:Cal l.prog w K mg base "states_behind" ["tablet","mark","loose","bound","states"] (5) (li (isT3 K isS isS isI) (isT3 K isS isS isS) isI isI (isL (isT2 K isI isI)) (ro (isT2 K isI isI)) nh):=⟨Z19,_,z9 Z3i Z22 h_sorted,PySem.W.mg_of X G Z1T,Z1b,Z6e⟩
 have Z0Q:Cal l.prog w K mg base "search" ["tablet","strip","loose","bound"] (6) (fS (isT3 K isS isS isI) (isL (isT3 K isS isS isS)) isI isI (ro (isL (isT2 K isI isI))) gU):=⟨Z45,_,zc Z96 Z21 Z1E Z23 Z24,PySem.W.mg_of X G Z5N,Z4k,ZbR⟩
 have Z6l:Cal l.prog w K mg base "tails" ["tablet","strip","loose","bound"] (7) (fS (isT3 K isS isS isI) (isL (isT3 K isS isS isS)) isI isI (ro (isPD l.prog w K isI)) ux):=⟨Z4X,_,zd Z9F Z0Q Z22 h_len h_range h_reversed h_sum,PySem.W.mg_of X G Z6F,Z50,Zca⟩
 have Z3I:Cal l.prog w K mg base "ways" ["tablet","strip","loose","bound"] (8) (fS (isT3 K isS isS isI) (isL (isT3 K isS isS isS)) isI isI (rs isI) qi):=⟨Z68,_,ze Zb6 Z6l Z23 Z24,PySem.W.mg_of X G Z8S,Z69,Zch⟩
 have Z3J:Cal l.prog w K mg base "least" ["tablet","strip","loose"] (7) (dj (isT3 K isS isS isI) (isL (isT3 K isS isS isS)) isI (rs (isO isI)) ss):=⟨Z4Y,_,zf Z9G Z0Q h_len,PySem.W.mg_of X G Z6I,Z51,Zcb⟩
 have Z1d:Cal l.prog w K mg base "_law_order" ["_law_least_one"] (1) (cU (isO isI) (rs isI) su):=⟨Z1K,_,zg Z4Q,PySem.W.mg_of X G Z31,Z1W,Z97⟩
 exact FnOk.imp (xk F_law Z3n Z0v Z3I Z0R Z0Q Z1d Z3J h_len h_list h_tuple) uN
theorem walk {l:PySem.W.OpenLaw} {q:zL} {loose:List Str} {XP:(Str→Option zl)→Heap→Prop} {YP:zQ→Heap→Prop} {d:DefRec} {K:Hs→PySem.W.Frag} (hn:l.most=some 63) (hdf:d.params.defaults=[]) (hY:∀(w:zQ) (h:Heap),YP w h→(K w.params).In h)
  (F:∀(w:zQ) (mg:Str→Option zl) (fa:Addr) (h:Heap),(K w.params).In h→h.Ns mainGlobals mg→mg d.name=some (.ref fa)→∃fd:zY,(∀(s:zq) (u:zl),Fv s fd ⟨[u],[]⟩ [("_law_script",u)])∧∀base:Heap,(K w.params).In base→base.Ns mainGlobals mg→FnOk l.prog w (K w.params) mg base CX0 27 fa fd ["_law_script"] (oE (K w.params))):
  PySem.W.WalkO q loose XP YP l.row.toRowW d [] (fun f vs=>PySem.call f vs):=
 L2.walk_of (n:=63) (k:=27) (x:="_law_script") (CX:=fun _=>CX0) (sp:=fun w=>oE (K w.params)) hn (by decide) hdf ⟨rfl,by decide,by decide⟩ hY F (fun _ _ a ns hl _ hS=>⟨a,ns,rfl,hS,hl,fun _=>rfl⟩) fun _ _ _ _ _ z=>z
end Wb
open PySem PySem.W PyProof.Rows
set_option maxRecDepth 100000 in
set_option maxHeartbeats 0 in
theorem PySem.Challenge.cw_wornband_k34_more_room_more_ways_holds : PySem.Challenge.rw_wornband_k34_more_room_more_ways.Holds := by
 refine hd ?_
 k_fill
 refine Wb.walk (l:=PySem.Challenge.rw_wornband_k34_more_room_more_ways) rfl rfl (fun w h Y=>PySem.W.kIn_of Y) ?F
 case F=>
  intro w mg fa h KX G hmg
  refine' Wb.fin_mk KX G hmg ?Z2f ?Z3o ?Z3p ?Z1r ?Z4C ?Z4D ?Z4E ?Z3e ?Z46 ?Z47 ?Z48 ?Z2z ?Z2M ?Z2N ?Z2O ?Z1L ?Z3q ?Z3r ?Z3s ?Z2g ?Z2P ?Z2Q ?Z2R ?Z1M ?Z4F ?Z4G ?Z4H ?Z3f ?Z2n ?Z2o ?Z2p ?Z1v ?Z2S ?Z2T ?Z2U ?Z1N ?Z2q ?Z2r ?Z2s ?Z1w ?Z3t ?Z3u ?Z3v ?Z2h ?Z2V ?Z2W ?Z2X ?Z1O ?Z1P ?Z1Q ?Z1R ?Z1a ?Z3w ?Z3x ?Z3y ?Z2i ?Z3z ?Z3A ?Z3B ?Z2j ?Z3C ?Z3D ?Z3E ?Z2k ?Z49 ?Z4a ?Z4b ?Z2A ?Z3F ?Z3G ?Z3H ?Z2l ?Z5y ?Z5z ?Z5A ?Z4c ?Z4d ?Z4e ?Z4f ?Z2B ?Z25 ?Z26 ?Z27 ?Z1o ?Z4I ?Z4J ?Z4K ?Z3g ?a_top ?l_top ?c_top ?k_top ?Z5B ?Z5C ?Z5D ?Z4g ?Z2Y ?Z2Z ?Z30 ?Z1S ?Z6C ?Z6D ?Z6E ?Z4Z ?Z5E ?Z5F ?Z5G ?Z4h ?Z5H ?Z5I ?Z5J ?Z4i ?Z5K ?Z5L ?Z5M ?Z4j ?Z1T ?Z1U ?Z1V ?Z1b ?Z5N ?Z5O ?Z5P ?Z4k ?Z6F ?Z6G ?Z6H ?Z50 ?Z8S ?Z8T ?Z8U ?Z69 ?Z6I ?Z6J ?Z6K ?Z51 ?Z31 ?Z32 ?Z33 ?Z1W ?a_law ?l_law ?c_law ?k_law ?z_abs ?z_all ?z_bool ?z_int ?z_isinstance ?z_len ?z_list ?z_range ?z_reversed ?z_sorted ?z_str ?z_sum ?z_tuple ?z_zip ?Z6L ?Z5Q ?Z5R ?Z5S ?Z6M ?Z6N ?Z6O ?Z6P ?Z6Q ?Z6R ?Z8V
  (case Z2f=>k_is)
  (case Z3o=>k_is)
  (case Z3p=>k_is)
  (case Z1r=>k_is)
  (case Z4C=>k_is)
  (case Z4D=>k_is)
  (case Z4E=>k_is)
  (case Z3e=>k_is)
  (case Z46=>k_is)
  (case Z47=>k_is)
  (case Z48=>k_is)
  (case Z2z=>k_is)
  (case Z2M=>k_is)
  (case Z2N=>k_is)
  (case Z2O=>k_is)
  (case Z1L=>k_is)
  (case Z3q=>k_is)
  (case Z3r=>k_is)
  (case Z3s=>k_is)
  (case Z2g=>k_is)
  (case Z2P=>k_is)
  (case Z2Q=>k_is)
  (case Z2R=>k_is)
  (case Z1M=>k_is)
  (case Z4F=>k_is)
  (case Z4G=>k_is)
  (case Z4H=>k_is)
  (case Z3f=>k_is)
  (case Z2n=>k_is)
  (case Z2o=>k_is)
  (case Z2p=>k_is)
  (case Z1v=>k_is)
  (case Z2S=>k_is)
  (case Z2T=>k_is)
  (case Z2U=>k_is)
  (case Z1N=>k_is)
  (case Z2q=>k_is)
  (case Z2r=>k_is)
  (case Z2s=>k_is)
  (case Z1w=>k_is)
  (case Z3t=>k_is)
  (case Z3u=>k_is)
  (case Z3v=>k_is)
  (case Z2h=>k_is)
  (case Z2V=>k_is)
  (case Z2W=>k_is)
  (case Z2X=>k_is)
  (case Z1O=>k_is)
  (case Z1P=>k_is)
  (case Z1Q=>k_is)
  (case Z1R=>k_is)
  (case Z1a=>k_is)
  (case Z3w=>k_is)
  (case Z3x=>k_is)
  (case Z3y=>k_is)
  (case Z2i=>k_is)
  (case Z3z=>k_is)
  (case Z3A=>k_is)
  (case Z3B=>k_is)
  (case Z2j=>k_is)
  (case Z3C=>k_is)
  (case Z3D=>k_is)
  (case Z3E=>k_is)
  (case Z2k=>k_is)
  (case Z49=>k_is)
  (case Z4a=>k_is)
  (case Z4b=>k_is)
  (case Z2A=>k_is)
  (case Z3F=>k_is)
  (case Z3G=>k_is)
  (case Z3H=>k_is)
  (case Z2l=>k_is)
  (case Z5y=>k_is)
  (case Z5z=>k_is)
  (case Z5A=>k_is)
  (case Z4c=>k_is)
  (case Z4d=>k_is)
  (case Z4e=>k_is)
  (case Z4f=>k_is)
  (case Z2B=>k_is)
  (case Z25=>k_is)
  (case Z26=>k_is)
  (case Z27=>k_is)
  (case Z1o=>k_is)
  (case Z4I=>k_is)
  (case Z4J=>k_is)
  (case Z4K=>k_is)
  (case Z3g=>k_is)
  (case a_top=>k_is)
  (case l_top=>k_is)
  (case c_top=>k_is)
  (case k_top=>k_is)
  (case Z5B=>k_is)
  (case Z5C=>k_is)
  (case Z5D=>k_is)
  (case Z4g=>k_is)
  (case Z2Y=>k_is)
  (case Z2Z=>k_is)
  (case Z30=>k_is)
  (case Z1S=>k_is)
  (case Z6C=>k_is)
  (case Z6D=>k_is)
  (case Z6E=>k_is)
  (case Z4Z=>k_is)
  (case Z5E=>k_is)
  (case Z5F=>k_is)
  (case Z5G=>k_is)
  (case Z4h=>k_is)
  (case Z5H=>k_is)
  (case Z5I=>k_is)
  (case Z5J=>k_is)
  (case Z4i=>k_is)
  (case Z5K=>k_is)
  (case Z5L=>k_is)
  (case Z5M=>k_is)
  (case Z4j=>k_is)
  (case Z1T=>k_is)
  (case Z1U=>k_is)
  (case Z1V=>k_is)
  (case Z1b=>k_is)
  (case Z5N=>k_is)
  (case Z5O=>k_is)
  (case Z5P=>k_is)
  (case Z4k=>k_is)
  (case Z6F=>k_is)
  (case Z6G=>k_is)
  (case Z6H=>k_is)
  (case Z50=>k_is)
  (case Z8S=>k_is)
  (case Z8T=>k_is)
  (case Z8U=>k_is)
  (case Z69=>k_is)
  (case Z6I=>k_is)
  (case Z6J=>k_is)
  (case Z6K=>k_is)
  (case Z51=>k_is)
  (case Z31=>k_is)
  (case Z32=>k_is)
  (case Z33=>k_is)
  (case Z1W=>k_is)
  (case a_law=>k_is)
  (case l_law=>k_is)
  (case c_law=>k_is)
  (case k_law=>k_is)
  (case z_abs=>k_is)
  (case z_all=>k_is)
  (case z_bool=>k_is)
  (case z_int=>k_is)
  (case z_isinstance=>k_is)
  (case z_len=>k_is)
  (case z_list=>k_is)
  (case z_range=>k_is)
  (case z_reversed=>k_is)
  (case z_sorted=>k_is)
  (case z_str=>k_is)
  (case z_sum=>k_is)
  (case z_tuple=>k_is)
  (case z_zip=>k_is)
  (case Z6L=>k_is)
  (case Z5Q=>k_is)
  (case Z5R=>k_is)
  (case Z5S=>rfl)
  (case Z6M=>k_is)
  (case Z6N=>k_is)
  (case Z6O=>k_is)
  (case Z6P=>k_is)
  (case Z6Q=>rfl)
  (case Z6R=>k_is)
  (case Z8V=>k_is)
